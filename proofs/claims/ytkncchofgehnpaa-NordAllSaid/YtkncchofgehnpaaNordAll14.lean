/-
  'NordAll': runs of it, part 14.
-/
import Derived.Test.YtkncchofgehnpaaNordAllt4
namespace Go.Proofs.Ytkncchofgehnpaa
open Go.RowKit Ex
set_option maxRecDepth 1000000
set_option maxHeartbeats 100000000
def nm14_0 : E := (.ib .quo .i64 (.vi 1) (.li 3))
def nm14_1 : E := (.ai 9 0 (.ci (.ib .add .i64 nm14_0 (.li 0)) (.ci (.li 3) .n0)))
def nm14_2 : E := (.ic .eql (.ai 9 0 (.ci (.at 2 0) (.ci (.li 11) .n0))) (.li 0))
def nm14_3 : E := (.ib .add .i64 (.li 2) (.ai 9 0 (.ci (.at 2 0) (.ci (.li 3) .n0))))
def nm14_4 : E := (.ib .quo .i64 (.at 2 0) (.li 4))
def nm14_5 : E := (.ib .quo .i64 (.at 2 0) (.li 40))
def nm14_6 : E := (.ic .eql (.ai 9 0 (.ci (.at 2 1) (.ci (.li 11) .n0))) (.li 0))
def nm14_7 : E := (.ib .add .i64 (.li 2) (.ai 9 0 (.ci (.at 2 1) (.ci (.li 3) .n0))))
def nm14_8 : E := (.ib .quo .i64 (.at 2 1) (.li 4))
def nm14_9 : E := (.ib .quo .i64 (.at 2 1) (.li 40))
def nm14_10 : E := (.ic .eql (.ai 9 0 (.ci (.at 2 2) (.ci (.li 11) .n0))) (.li 0))
def nm14_11 : E := (.ib .add .i64 (.li 2) (.ai 9 0 (.ci (.at 2 2) (.ci (.li 3) .n0))))
def nm14_12 : E := (.ib .quo .i64 (.at 2 2) (.li 4))
def nm14_13 : E := (.ib .quo .i64 (.at 2 2) (.li 40))
def nm14_14 : E := (.ic .eql (.ai 9 0 (.ci (.at 2 3) (.ci (.li 11) .n0))) (.li 0))
def nm14_15 : E := (.ib .add .i64 (.li 2) (.ai 9 0 (.ci (.at 2 3) (.ci (.li 3) .n0))))
def nm14_16 : E := (.ib .quo .i64 (.at 2 3) (.li 4))
def nm14_17 : E := (.ib .quo .i64 (.at 2 3) (.li 40))
def nm14_18 : E := (.ic .eql (.ai 9 0 (.ci (.at 2 4) (.ci (.li 11) .n0))) (.li 0))
def nm14_19 : E := (.ib .add .i64 (.li 2) (.ai 9 0 (.ci (.at 2 4) (.ci (.li 3) .n0))))
def nm14_20 : E := (.ib .quo .i64 (.at 2 4) (.li 4))
def nm14_21 : E := (.ib .quo .i64 (.at 2 4) (.li 40))
def nm14_22 : E := (.ic .eql (.ai 9 0 (.ci (.at 2 5) (.ci (.li 11) .n0))) (.li 0))
def nm14_23 : E := (.ib .add .i64 (.li 2) (.ai 9 0 (.ci (.at 2 5) (.ci (.li 3) .n0))))
def nm14_24 : E := (.ib .quo .i64 (.at 2 5) (.li 4))
def nm14_25 : E := (.ib .quo .i64 (.at 2 5) (.li 40))
def nm14_26 : E := (.ai 9 0 (.ci (.ib .add .i64 nm14_0 (.li 1)) (.ci (.li 3) .n0)))
def nm14_27 : E := (.ai 9 0 (.ci (.ib .add .i64 nm14_0 (.li 2)) (.ci (.li 3) .n0)))
def nm14_28 : E := (.ic .eql (.ai 9 0 (.ci (.at 2 6) (.ci (.li 11) .n0))) (.li 0))
def nm14_29 : E := (.ib .add .i64 (.li 2) (.ai 9 0 (.ci (.at 2 6) (.ci (.li 3) .n0))))
def nm14_30 : E := (.ib .quo .i64 (.at 2 6) (.li 4))
def nm14_31 : E := (.ib .quo .i64 (.at 2 6) (.li 40))
def nm14_32 : E := (.ic .eql (.ai 9 0 (.ci (.at 2 7) (.ci (.li 11) .n0))) (.li 0))
def nm14_33 : E := (.ib .add .i64 (.li 2) (.ai 9 0 (.ci (.at 2 7) (.ci (.li 3) .n0))))
def nm14_34 : E := (.ib .quo .i64 (.at 2 7) (.li 4))
def nm14_35 : E := (.ib .quo .i64 (.at 2 7) (.li 40))
def nk14_0 : Blk := [(.i .i64 1), (.i .i64 0), (.i .i64 0), (.f 0)]
def nk14_1 : Blk := [(.i .i64 0), (.i .i64 0), (.i .i64 0), (.ef (.fb .quo (.i2f (.ib .sub .i64 (.ai 9 0 (.ci (.vi 1) (.ci (.li 17) .n0))) (.li 8))) (.lf 4616189618054758400)))]
def nk14_2 : Blk := [(.ei .i64 (.ti nm14_2 (.li 0) (.ti (.vb 7) (.ti (.ic .eql (.ai 9 0 (.ci (.at 2 0) (.ci (.li 7) .n0))) (.li 0)) (.li 5) nm14_3) nm14_3))), (.ei .i64 (.ti nm14_2 (.li 0) (.ai 9 0 (.ci nm14_4 (.ci (.li 2) .n0))))), (.ei .i64 (.ti nm14_2 (.li 0) (.ai 9 0 (.ci nm14_5 (.ci (.li 2) .n0))))), (.ef (.tf nm14_2 (.fb .quo (.i2f (.ib .sub .i64 (.ai 9 0 (.ci (.ib .quo .i64 (.at 2 0) (.li 11)) (.ci (.li 33) .n0))) (.li 16))) (.lf 4620693217682128896)) (.lf 0)))]
def nk14_3 : Blk := [(.ei .i64 (.ti nm14_6 (.li 0) (.ti (.vb 7) (.ti (.ic .eql (.ai 9 0 (.ci (.at 2 1) (.ci (.li 7) .n0))) (.li 0)) (.li 5) nm14_7) nm14_7))), (.ei .i64 (.ti nm14_6 (.li 0) (.ai 9 0 (.ci nm14_8 (.ci (.li 3) .n0))))), (.ei .i64 (.ti nm14_6 (.li 0) (.ai 9 0 (.ci nm14_9 (.ci (.li 3) .n0))))), (.ef (.tf nm14_6 (.fb .quo (.i2f (.ib .sub .i64 (.ai 9 0 (.ci (.ib .quo .i64 (.at 2 1) (.li 11)) (.ci (.li 33) .n0))) (.li 16))) (.lf 4620693217682128896)) (.lf 0)))]
def nk14_4 : Blk := [(.ei .i64 (.ti nm14_10 (.li 0) (.ti (.vb 7) (.ti (.ic .eql (.ai 9 0 (.ci (.at 2 2) (.ci (.li 7) .n0))) (.li 0)) (.li 5) nm14_11) nm14_11))), (.ei .i64 (.ti nm14_10 (.li 0) (.ai 9 0 (.ci nm14_12 (.ci (.li 4) .n0))))), (.ei .i64 (.ti nm14_10 (.li 0) (.ai 9 0 (.ci nm14_13 (.ci (.li 4) .n0))))), (.ef (.tf nm14_10 (.fb .quo (.i2f (.ib .sub .i64 (.ai 9 0 (.ci (.ib .quo .i64 (.at 2 2) (.li 11)) (.ci (.li 33) .n0))) (.li 16))) (.lf 4620693217682128896)) (.lf 0)))]
def nk14_5 : Blk := [(.ei .i64 (.ti nm14_14 (.li 0) (.ti (.vb 7) (.ti (.ic .eql (.ai 9 0 (.ci (.at 2 3) (.ci (.li 7) .n0))) (.li 0)) (.li 5) nm14_15) nm14_15))), (.ei .i64 (.ti nm14_14 (.li 0) (.ai 9 0 (.ci nm14_16 (.ci (.li 5) .n0))))), (.ei .i64 (.ti nm14_14 (.li 0) (.ai 9 0 (.ci nm14_17 (.ci (.li 5) .n0))))), (.ef (.tf nm14_14 (.fb .quo (.i2f (.ib .sub .i64 (.ai 9 0 (.ci (.ib .quo .i64 (.at 2 3) (.li 11)) (.ci (.li 33) .n0))) (.li 16))) (.lf 4620693217682128896)) (.lf 0)))]
def nk14_6 : Blk := [(.ei .i64 (.ti nm14_18 (.li 0) (.ti (.vb 7) (.ti (.ic .eql (.ai 9 0 (.ci (.at 2 4) (.ci (.li 7) .n0))) (.li 0)) (.li 5) nm14_19) nm14_19))), (.ei .i64 (.ti nm14_18 (.li 0) (.ai 9 0 (.ci nm14_20 (.ci (.li 6) .n0))))), (.ei .i64 (.ti nm14_18 (.li 0) (.ai 9 0 (.ci nm14_21 (.ci (.li 6) .n0))))), (.ef (.tf nm14_18 (.fb .quo (.i2f (.ib .sub .i64 (.ai 9 0 (.ci (.ib .quo .i64 (.at 2 4) (.li 11)) (.ci (.li 33) .n0))) (.li 16))) (.lf 4620693217682128896)) (.lf 0)))]
def nk14_7 : Blk := [(.ei .i64 (.ti nm14_22 (.li 0) (.ti (.vb 7) (.ti (.ic .eql (.ai 9 0 (.ci (.at 2 5) (.ci (.li 7) .n0))) (.li 0)) (.li 5) nm14_23) nm14_23))), (.ei .i64 (.ti nm14_22 (.li 0) (.ai 9 0 (.ci nm14_24 (.ci (.li 7) .n0))))), (.ei .i64 (.ti nm14_22 (.li 0) (.ai 9 0 (.ci nm14_25 (.ci (.li 7) .n0))))), (.ef (.tf nm14_22 (.fb .quo (.i2f (.ib .sub .i64 (.ai 9 0 (.ci (.ib .quo .i64 (.at 2 5) (.li 11)) (.ci (.li 33) .n0))) (.li 16))) (.lf 4620693217682128896)) (.lf 0)))]
def nk14_8 : Blk := [(.i .i64 1), (.i .i64 1), (.i .i64 0), (.f 0)]
def nk14_9 : Blk := [(.ei .i64 (.ti nm14_2 (.li 0) (.ti (.vb 7) (.ti (.ic .eql (.ai 9 0 (.ci (.at 2 0) (.ci (.li 7) .n0))) (.li 0)) (.li 5) nm14_3) nm14_3))), (.ei .i64 (.ti nm14_2 (.li 0) (.ai 9 0 (.ci nm14_4 (.ci (.li 3) .n0))))), (.ei .i64 (.ti nm14_2 (.li 0) (.ai 9 0 (.ci nm14_5 (.ci (.li 3) .n0))))), (.ef (.tf nm14_2 (.fb .quo (.i2f (.ib .sub .i64 (.ai 9 0 (.ci (.ib .quo .i64 (.at 2 0) (.li 11)) (.ci (.li 33) .n0))) (.li 16))) (.lf 4620693217682128896)) (.lf 0)))]
def nk14_10 : Blk := [(.ei .i64 (.ti nm14_6 (.li 0) (.ti (.vb 7) (.ti (.ic .eql (.ai 9 0 (.ci (.at 2 1) (.ci (.li 7) .n0))) (.li 0)) (.li 5) nm14_7) nm14_7))), (.ei .i64 (.ti nm14_6 (.li 0) (.ai 9 0 (.ci nm14_8 (.ci (.li 4) .n0))))), (.ei .i64 (.ti nm14_6 (.li 0) (.ai 9 0 (.ci nm14_9 (.ci (.li 4) .n0))))), (.ef (.tf nm14_6 (.fb .quo (.i2f (.ib .sub .i64 (.ai 9 0 (.ci (.ib .quo .i64 (.at 2 1) (.li 11)) (.ci (.li 33) .n0))) (.li 16))) (.lf 4620693217682128896)) (.lf 0)))]
def nk14_11 : Blk := [(.ei .i64 (.ti nm14_10 (.li 0) (.ti (.vb 7) (.ti (.ic .eql (.ai 9 0 (.ci (.at 2 2) (.ci (.li 7) .n0))) (.li 0)) (.li 5) nm14_11) nm14_11))), (.ei .i64 (.ti nm14_10 (.li 0) (.ai 9 0 (.ci nm14_12 (.ci (.li 5) .n0))))), (.ei .i64 (.ti nm14_10 (.li 0) (.ai 9 0 (.ci nm14_13 (.ci (.li 5) .n0))))), (.ef (.tf nm14_10 (.fb .quo (.i2f (.ib .sub .i64 (.ai 9 0 (.ci (.ib .quo .i64 (.at 2 2) (.li 11)) (.ci (.li 33) .n0))) (.li 16))) (.lf 4620693217682128896)) (.lf 0)))]
def nk14_12 : Blk := [(.ei .i64 (.ti nm14_14 (.li 0) (.ti (.vb 7) (.ti (.ic .eql (.ai 9 0 (.ci (.at 2 3) (.ci (.li 7) .n0))) (.li 0)) (.li 5) nm14_15) nm14_15))), (.ei .i64 (.ti nm14_14 (.li 0) (.ai 9 0 (.ci nm14_16 (.ci (.li 6) .n0))))), (.ei .i64 (.ti nm14_14 (.li 0) (.ai 9 0 (.ci nm14_17 (.ci (.li 6) .n0))))), (.ef (.tf nm14_14 (.fb .quo (.i2f (.ib .sub .i64 (.ai 9 0 (.ci (.ib .quo .i64 (.at 2 3) (.li 11)) (.ci (.li 33) .n0))) (.li 16))) (.lf 4620693217682128896)) (.lf 0)))]
def nk14_13 : Blk := [(.ei .i64 (.ti nm14_18 (.li 0) (.ti (.vb 7) (.ti (.ic .eql (.ai 9 0 (.ci (.at 2 4) (.ci (.li 7) .n0))) (.li 0)) (.li 5) nm14_19) nm14_19))), (.ei .i64 (.ti nm14_18 (.li 0) (.ai 9 0 (.ci nm14_20 (.ci (.li 7) .n0))))), (.ei .i64 (.ti nm14_18 (.li 0) (.ai 9 0 (.ci nm14_21 (.ci (.li 7) .n0))))), (.ef (.tf nm14_18 (.fb .quo (.i2f (.ib .sub .i64 (.ai 9 0 (.ci (.ib .quo .i64 (.at 2 4) (.li 11)) (.ci (.li 33) .n0))) (.li 16))) (.lf 4620693217682128896)) (.lf 0)))]
def nk14_14 : Blk := [(.ei .i64 (.ti nm14_22 (.li 0) (.ti (.vb 7) (.ti (.ic .eql (.ai 9 0 (.ci (.at 2 5) (.ci (.li 7) .n0))) (.li 0)) (.li 5) nm14_23) nm14_23))), (.ei .i64 (.ti nm14_22 (.li 0) (.ai 9 0 (.ci nm14_24 (.ci (.li 8) .n0))))), (.ei .i64 (.ti nm14_22 (.li 0) (.ai 9 0 (.ci nm14_25 (.ci (.li 8) .n0))))), (.ef (.tf nm14_22 (.fb .quo (.i2f (.ib .sub .i64 (.ai 9 0 (.ci (.ib .quo .i64 (.at 2 5) (.li 11)) (.ci (.li 33) .n0))) (.li 16))) (.lf 4620693217682128896)) (.lf 0)))]
def nk14_15 : Blk := [(.i .i64 1), (.i .i64 2), (.i .i64 0), (.f 0)]
def nk14_16 : Blk := [(.ei .i64 (.ti nm14_2 (.li 0) (.ti (.vb 7) (.ti (.ic .eql (.ai 9 0 (.ci (.at 2 0) (.ci (.li 7) .n0))) (.li 0)) (.li 5) nm14_3) nm14_3))), (.ei .i64 (.ti nm14_2 (.li 0) (.ai 9 0 (.ci nm14_4 (.ci (.li 4) .n0))))), (.ei .i64 (.ti nm14_2 (.li 0) (.ai 9 0 (.ci nm14_5 (.ci (.li 4) .n0))))), (.ef (.tf nm14_2 (.fb .quo (.i2f (.ib .sub .i64 (.ai 9 0 (.ci (.ib .quo .i64 (.at 2 0) (.li 11)) (.ci (.li 33) .n0))) (.li 16))) (.lf 4620693217682128896)) (.lf 0)))]
def nk14_17 : Blk := [(.ei .i64 (.ti nm14_6 (.li 0) (.ti (.vb 7) (.ti (.ic .eql (.ai 9 0 (.ci (.at 2 1) (.ci (.li 7) .n0))) (.li 0)) (.li 5) nm14_7) nm14_7))), (.ei .i64 (.ti nm14_6 (.li 0) (.ai 9 0 (.ci nm14_8 (.ci (.li 5) .n0))))), (.ei .i64 (.ti nm14_6 (.li 0) (.ai 9 0 (.ci nm14_9 (.ci (.li 5) .n0))))), (.ef (.tf nm14_6 (.fb .quo (.i2f (.ib .sub .i64 (.ai 9 0 (.ci (.ib .quo .i64 (.at 2 1) (.li 11)) (.ci (.li 33) .n0))) (.li 16))) (.lf 4620693217682128896)) (.lf 0)))]
def nk14_18 : Blk := [(.ei .i64 (.ti nm14_10 (.li 0) (.ti (.vb 7) (.ti (.ic .eql (.ai 9 0 (.ci (.at 2 2) (.ci (.li 7) .n0))) (.li 0)) (.li 5) nm14_11) nm14_11))), (.ei .i64 (.ti nm14_10 (.li 0) (.ai 9 0 (.ci nm14_12 (.ci (.li 6) .n0))))), (.ei .i64 (.ti nm14_10 (.li 0) (.ai 9 0 (.ci nm14_13 (.ci (.li 6) .n0))))), (.ef (.tf nm14_10 (.fb .quo (.i2f (.ib .sub .i64 (.ai 9 0 (.ci (.ib .quo .i64 (.at 2 2) (.li 11)) (.ci (.li 33) .n0))) (.li 16))) (.lf 4620693217682128896)) (.lf 0)))]
def nk14_19 : Blk := [(.ei .i64 (.ti nm14_14 (.li 0) (.ti (.vb 7) (.ti (.ic .eql (.ai 9 0 (.ci (.at 2 3) (.ci (.li 7) .n0))) (.li 0)) (.li 5) nm14_15) nm14_15))), (.ei .i64 (.ti nm14_14 (.li 0) (.ai 9 0 (.ci nm14_16 (.ci (.li 7) .n0))))), (.ei .i64 (.ti nm14_14 (.li 0) (.ai 9 0 (.ci nm14_17 (.ci (.li 7) .n0))))), (.ef (.tf nm14_14 (.fb .quo (.i2f (.ib .sub .i64 (.ai 9 0 (.ci (.ib .quo .i64 (.at 2 3) (.li 11)) (.ci (.li 33) .n0))) (.li 16))) (.lf 4620693217682128896)) (.lf 0)))]
def nk14_20 : Blk := [(.ei .i64 (.ti nm14_18 (.li 0) (.ti (.vb 7) (.ti (.ic .eql (.ai 9 0 (.ci (.at 2 4) (.ci (.li 7) .n0))) (.li 0)) (.li 5) nm14_19) nm14_19))), (.ei .i64 (.ti nm14_18 (.li 0) (.ai 9 0 (.ci nm14_20 (.ci (.li 8) .n0))))), (.ei .i64 (.ti nm14_18 (.li 0) (.ai 9 0 (.ci nm14_21 (.ci (.li 8) .n0))))), (.ef (.tf nm14_18 (.fb .quo (.i2f (.ib .sub .i64 (.ai 9 0 (.ci (.ib .quo .i64 (.at 2 4) (.li 11)) (.ci (.li 33) .n0))) (.li 16))) (.lf 4620693217682128896)) (.lf 0)))]
def nk14_21 : Blk := [(.ei .i64 (.ti nm14_22 (.li 0) (.ti (.vb 7) (.ti (.ic .eql (.ai 9 0 (.ci (.at 2 5) (.ci (.li 7) .n0))) (.li 0)) (.li 5) nm14_23) nm14_23))), (.ei .i64 (.ti nm14_22 (.li 0) (.ai 9 0 (.ci nm14_24 (.ci (.li 9) .n0))))), (.ei .i64 (.ti nm14_22 (.li 0) (.ai 9 0 (.ci nm14_25 (.ci (.li 9) .n0))))), (.ef (.tf nm14_22 (.fb .quo (.i2f (.ib .sub .i64 (.ai 9 0 (.ci (.ib .quo .i64 (.at 2 5) (.li 11)) (.ci (.li 33) .n0))) (.li 16))) (.lf 4620693217682128896)) (.lf 0)))]
def nk14_22 : Blk := [(.ei .i64 (.ti nm14_28 (.li 0) (.ti (.vb 7) (.ti (.ic .eql (.ai 9 0 (.ci (.at 2 6) (.ci (.li 7) .n0))) (.li 0)) (.li 5) nm14_29) nm14_29))), (.ei .i64 (.ti nm14_28 (.li 0) (.ai 9 0 (.ci nm14_30 (.ci (.li 8) .n0))))), (.ei .i64 (.ti nm14_28 (.li 0) (.ai 9 0 (.ci nm14_31 (.ci (.li 8) .n0))))), (.ef (.tf nm14_28 (.fb .quo (.i2f (.ib .sub .i64 (.ai 9 0 (.ci (.ib .quo .i64 (.at 2 6) (.li 11)) (.ci (.li 33) .n0))) (.li 16))) (.lf 4620693217682128896)) (.lf 0)))]
def nk14_23 : Blk := [(.ei .i64 (.ti nm14_28 (.li 0) (.ti (.vb 7) (.ti (.ic .eql (.ai 9 0 (.ci (.at 2 6) (.ci (.li 7) .n0))) (.li 0)) (.li 5) nm14_29) nm14_29))), (.ei .i64 (.ti nm14_28 (.li 0) (.ai 9 0 (.ci nm14_30 (.ci (.li 9) .n0))))), (.ei .i64 (.ti nm14_28 (.li 0) (.ai 9 0 (.ci nm14_31 (.ci (.li 9) .n0))))), (.ef (.tf nm14_28 (.fb .quo (.i2f (.ib .sub .i64 (.ai 9 0 (.ci (.ib .quo .i64 (.at 2 6) (.li 11)) (.ci (.li 33) .n0))) (.li 16))) (.lf 4620693217682128896)) (.lf 0)))]
def nk14_24 : Blk := [(.ei .i64 (.ti nm14_28 (.li 0) (.ti (.vb 7) (.ti (.ic .eql (.ai 9 0 (.ci (.at 2 6) (.ci (.li 7) .n0))) (.li 0)) (.li 5) nm14_29) nm14_29))), (.ei .i64 (.ti nm14_28 (.li 0) (.ai 9 0 (.ci nm14_30 (.ci (.li 10) .n0))))), (.ei .i64 (.ti nm14_28 (.li 0) (.ai 9 0 (.ci nm14_31 (.ci (.li 10) .n0))))), (.ef (.tf nm14_28 (.fb .quo (.i2f (.ib .sub .i64 (.ai 9 0 (.ci (.ib .quo .i64 (.at 2 6) (.li 11)) (.ci (.li 33) .n0))) (.li 16))) (.lf 4620693217682128896)) (.lf 0)))]
def nb14_0 : Blk := [(.ei .i64 (.ib .sub .i64 (.li 7) nm14_1))]
def nb14_1 : Blk := nk14_0 ++ nk14_1 ++ nk14_2 ++ nk14_3 ++ nk14_4 ++ nk14_5 ++ nk14_6 ++ nk14_7
def nb14_2 : Blk := [(.ef (.fb .quo (.i2f (.ib .sub .i64 (.ai 9 0 (.ci (.ti (.ic .lss (.li 0) (.vl 5)) (.at 5 0) (.li 0)) (.ci (.li 65) .n0))) (.li 32))) (.lf 4620693217682128896)))]
def nb14_3 : Blk := [(.ei .i64 (.ib .sub .i64 (.li 8) nm14_1)), (.ei .i64 (.ib .sub .i64 (.li 8) nm14_26))]
def nb14_4 : Blk := nk14_0 ++ nk14_8 ++ nk14_1 ++ nk14_9 ++ nk14_10 ++ nk14_11 ++ nk14_12 ++ nk14_13 ++ nk14_14
def nb14_5 : Blk := [(.ef (.fb .quo (.i2f (.ib .sub .i64 (.ai 9 0 (.ci (.ti (.ic .lss (.li 0) (.vl 5)) (.at 5 0) (.li 0)) (.ci (.li 65) .n0))) (.li 32))) (.lf 4620693217682128896))), (.ef (.fb .quo (.i2f (.ib .sub .i64 (.ai 9 0 (.ci (.ti (.ic .lss (.li 1) (.vl 5)) (.at 5 1) (.li 1)) (.ci (.li 65) .n0))) (.li 32))) (.lf 4620693217682128896)))]
def nb14_6 : Blk := [(.ei .i64 (.ib .sub .i64 (.li 9) nm14_1)), (.ei .i64 (.ib .sub .i64 (.li 9) nm14_26)), (.ei .i64 (.ib .sub .i64 (.li 9) nm14_27))]
def nb14_7 : Blk := nk14_0 ++ nk14_8 ++ nk14_15 ++ nk14_1 ++ nk14_16 ++ nk14_17 ++ nk14_18 ++ nk14_19 ++ nk14_20 ++ nk14_21
def nb14_8 : Blk := [(.ef (.fb .quo (.i2f (.ib .sub .i64 (.ai 9 0 (.ci (.ti (.ic .lss (.li 0) (.vl 5)) (.at 5 0) (.li 0)) (.ci (.li 65) .n0))) (.li 32))) (.lf 4620693217682128896))), (.ef (.fb .quo (.i2f (.ib .sub .i64 (.ai 9 0 (.ci (.ti (.ic .lss (.li 1) (.vl 5)) (.at 5 1) (.li 1)) (.ci (.li 65) .n0))) (.li 32))) (.lf 4620693217682128896))), (.ef (.fb .quo (.i2f (.ib .sub .i64 (.ai 9 0 (.ci (.ti (.ic .lss (.li 2) (.vl 5)) (.at 5 2) (.li 2)) (.ci (.li 65) .n0))) (.li 32))) (.lf 4620693217682128896)))]
def nb14_9 : Blk := [(.ei .i64 (.ib .sub .i64 (.li 8) nm14_1))]
def nb14_10 : Blk := nk14_0 ++ nk14_1 ++ nk14_2 ++ nk14_3 ++ nk14_4 ++ nk14_5 ++ nk14_6 ++ nk14_7 ++ nk14_22
def nb14_11 : Blk := [(.ei .i64 (.ib .sub .i64 (.li 9) nm14_1)), (.ei .i64 (.ib .sub .i64 (.li 9) nm14_26))]
def nb14_12 : Blk := nk14_0 ++ nk14_8 ++ nk14_1 ++ nk14_9 ++ nk14_10 ++ nk14_11 ++ nk14_12 ++ nk14_13 ++ nk14_14 ++ nk14_23
def nb14_13 : Blk := [(.ei .i64 (.ib .sub .i64 (.li 10) nm14_1)), (.ei .i64 (.ib .sub .i64 (.li 10) nm14_26)), (.ei .i64 (.ib .sub .i64 (.li 10) nm14_27))]
def nb14_14 : Blk := nk14_0 ++ nk14_8 ++ nk14_15 ++ nk14_1 ++ nk14_16 ++ nk14_17 ++ nk14_18 ++ nk14_19 ++ nk14_20 ++ nk14_21 ++ nk14_24
def nb14_15 : Blk := [(.ei .i64 (.ib .sub .i64 (.li 9) nm14_1))]
def nb14_16 : Blk := nk14_0 ++ nk14_1 ++ nk14_2 ++ nk14_3 ++ nk14_4 ++ nk14_5 ++ nk14_6 ++ nk14_7 ++ nk14_22 ++ [(.ei .i64 (.ti nm14_32 (.li 0) (.ti (.vb 7) (.ti (.ic .eql (.ai 9 0 (.ci (.at 2 7) (.ci (.li 7) .n0))) (.li 0)) (.li 5) nm14_33) nm14_33))), (.ei .i64 (.ti nm14_32 (.li 0) (.ai 9 0 (.ci nm14_34 (.ci (.li 9) .n0))))), (.ei .i64 (.ti nm14_32 (.li 0) (.ai 9 0 (.ci nm14_35 (.ci (.li 9) .n0))))), (.ef (.tf nm14_32 (.fb .quo (.i2f (.ib .sub .i64 (.ai 9 0 (.ci (.ib .quo .i64 (.at 2 7) (.li 11)) (.ci (.li 33) .n0))) (.li 16))) (.lf 4620693217682128896)) (.lf 0)))]
def nb14_17 : Blk := [(.ei .i64 (.ib .sub .i64 (.li 10) nm14_1)), (.ei .i64 (.ib .sub .i64 (.li 10) nm14_26))]
def nb14_18 : Blk := nk14_0 ++ nk14_8 ++ nk14_1 ++ nk14_9 ++ nk14_10 ++ nk14_11 ++ nk14_12 ++ nk14_13 ++ nk14_14 ++ nk14_23 ++ [(.ei .i64 (.ti nm14_32 (.li 0) (.ti (.vb 7) (.ti (.ic .eql (.ai 9 0 (.ci (.at 2 7) (.ci (.li 7) .n0))) (.li 0)) (.li 5) nm14_33) nm14_33))), (.ei .i64 (.ti nm14_32 (.li 0) (.ai 9 0 (.ci nm14_34 (.ci (.li 10) .n0))))), (.ei .i64 (.ti nm14_32 (.li 0) (.ai 9 0 (.ci nm14_35 (.ci (.li 10) .n0))))), (.ef (.tf nm14_32 (.fb .quo (.i2f (.ib .sub .i64 (.ai 9 0 (.ci (.ib .quo .i64 (.at 2 7) (.li 11)) (.ci (.li 33) .n0))) (.li 16))) (.lf 4620693217682128896)) (.lf 0)))]
def nb14_19 : Blk := [(.ei .i64 (.ib .sub .i64 (.li 11) nm14_1)), (.ei .i64 (.ib .sub .i64 (.li 11) nm14_26)), (.ei .i64 (.ib .sub .i64 (.li 11) nm14_27))]
def nb14_20 : Blk := nk14_0 ++ nk14_8 ++ nk14_15 ++ nk14_1 ++ nk14_16 ++ nk14_17 ++ nk14_18 ++ nk14_19 ++ nk14_20 ++ nk14_21 ++ nk14_24 ++ [(.ei .i64 (.ti nm14_32 (.li 0) (.ti (.vb 7) (.ti (.ic .eql (.ai 9 0 (.ci (.at 2 7) (.ci (.li 7) .n0))) (.li 0)) (.li 5) nm14_33) nm14_33))), (.ei .i64 (.ti nm14_32 (.li 0) (.ai 9 0 (.ci nm14_34 (.ci (.li 11) .n0))))), (.ei .i64 (.ti nm14_32 (.li 0) (.ai 9 0 (.ci nm14_35 (.ci (.li 11) .n0))))), (.ef (.tf nm14_32 (.fb .quo (.i2f (.ib .sub .i64 (.ai 9 0 (.ci (.ib .quo .i64 (.at 2 7) (.li 11)) (.ci (.li 33) .n0))) (.li 16))) (.lf 4620693217682128896)) (.lf 0)))]
def n4_0_6m0 : Memo := mkM [(.ag [(.i .i64 1), (.sl 82 0 8 (.u 4)), (.sl 81 0 1 (.u 1))]), (.c (.sl 108 0 1 (.u 1)))] [(81, nb14_0), (82, nb14_1), (108, nb14_2)] 211 (.c (.sl 213 0 1 (.n 1))) (213, [(.ef (.vf 289))]) 252
theorem n4_0_6o0 : mok [] (lenL 2 6 8 ++ []) nN4 51 n4_0_6m0 = true := by kernel_rfl
def n4_0_6ms : List (Nat × List Memo) := [(51, [n4_0_6m0])]
theorem n4_0_6mo : AllMem (memRun [] (lenL 2 6 8 ++ []) nN4) n4_0_6ms := ⟨⟨n4_0_6o0, trivial⟩, trivial⟩
theorem n4_0_6 : lawRunM 3 10 200 [.i, .i, .q, .i, .f, .q, .i, .b] [(0, 5, 4), (1, 3, 0)] (lenL 2 6 8 ++ []) nN4 n4_0_6ms = true := by kernel_rfl
def n4_1_6m0 : Memo := mkM [(.ag [(.i .i64 2), (.sl 96 0 9 (.u 4)), (.sl 95 0 2 (.u 1))]), (.c (.sl 126 0 2 (.u 1)))] [(95, nb14_3), (96, nb14_4), (126, nb14_5)] 236 (.c (.sl 238 0 2 (.n 2))) (238, [(.ef (.vf 298)), (.ef (.vf 299))]) 281
theorem n4_1_6o0 : mok [] (lenL 2 6 8 ++ []) nN4 51 n4_1_6m0 = true := by kernel_rfl
def n4_1_6ms : List (Nat × List Memo) := [(51, [n4_1_6m0])]
theorem n4_1_6mo : AllMem (memRun [] (lenL 2 6 8 ++ []) nN4) n4_1_6ms := ⟨⟨n4_1_6o0, trivial⟩, trivial⟩
theorem n4_1_6 : lawRunM 3 10 200 [.i, .i, .q, .i, .f, .q, .i, .b] [(0, 5, 4), (1, 3, 1)] (lenL 2 6 8 ++ []) nN4 n4_1_6ms = true := by kernel_rfl
def n4_2_6m0 : Memo := mkM [(.ag [(.i .i64 3), (.sl 110 0 10 (.u 4)), (.sl 109 0 3 (.u 1))]), (.c (.sl 144 0 3 (.u 1)))] [(109, nb14_6), (110, nb14_7), (144, nb14_8)] 261 (.c (.sl 263 0 3 (.n 3))) (263, [(.ef (.vf 308)), (.ef (.vf 309)), (.ef (.vf 310))]) 310
theorem n4_2_6o0 : mok [] (lenL 2 6 8 ++ []) nN4 51 n4_2_6m0 = true := by kernel_rfl
def n4_2_6ms : List (Nat × List Memo) := [(51, [n4_2_6m0])]
theorem n4_2_6mo : AllMem (memRun [] (lenL 2 6 8 ++ []) nN4) n4_2_6ms := ⟨⟨n4_2_6o0, trivial⟩, trivial⟩
theorem n4_2_6 : lawRunM 3 10 200 [.i, .i, .q, .i, .f, .q, .i, .b] [(0, 5, 4), (1, 3, 2)] (lenL 2 6 8 ++ []) nN4 n4_2_6ms = true := by kernel_rfl
def n4_0_7m0 : Memo := mkM [(.ag [(.i .i64 1), (.sl 82 0 9 (.u 4)), (.sl 81 0 1 (.u 1))]), (.c (.sl 111 0 1 (.u 1)))] [(81, nb14_9), (82, nb14_10), (111, nb14_2)] 215 (.c (.sl 217 0 1 (.n 1))) (217, [(.ef (.vf 320))]) 260
theorem n4_0_7o0 : mok [] (lenL 2 7 8 ++ []) nN4 51 n4_0_7m0 = true := by kernel_rfl
def n4_0_7ms : List (Nat × List Memo) := [(51, [n4_0_7m0])]
theorem n4_0_7mo : AllMem (memRun [] (lenL 2 7 8 ++ []) nN4) n4_0_7ms := ⟨⟨n4_0_7o0, trivial⟩, trivial⟩
theorem n4_0_7 : lawRunM 3 10 200 [.i, .i, .q, .i, .f, .q, .i, .b] [(0, 5, 4), (1, 3, 0)] (lenL 2 7 8 ++ []) nN4 n4_0_7ms = true := by kernel_rfl
def n4_1_7m0 : Memo := mkM [(.ag [(.i .i64 2), (.sl 96 0 10 (.u 4)), (.sl 95 0 2 (.u 1))]), (.c (.sl 129 0 2 (.u 1)))] [(95, nb14_11), (96, nb14_12), (129, nb14_5)] 240 (.c (.sl 242 0 2 (.n 2))) (242, [(.ef (.vf 331)), (.ef (.vf 332))]) 289
theorem n4_1_7o0 : mok [] (lenL 2 7 8 ++ []) nN4 51 n4_1_7m0 = true := by kernel_rfl
def n4_1_7ms : List (Nat × List Memo) := [(51, [n4_1_7m0])]
theorem n4_1_7mo : AllMem (memRun [] (lenL 2 7 8 ++ []) nN4) n4_1_7ms := ⟨⟨n4_1_7o0, trivial⟩, trivial⟩
theorem n4_1_7 : lawRunM 3 10 200 [.i, .i, .q, .i, .f, .q, .i, .b] [(0, 5, 4), (1, 3, 1)] (lenL 2 7 8 ++ []) nN4 n4_1_7ms = true := by kernel_rfl
def n4_2_7m0 : Memo := mkM [(.ag [(.i .i64 3), (.sl 110 0 11 (.u 4)), (.sl 109 0 3 (.u 1))]), (.c (.sl 147 0 3 (.u 1)))] [(109, nb14_13), (110, nb14_14), (147, nb14_8)] 265 (.c (.sl 267 0 3 (.n 3))) (267, [(.ef (.vf 341)), (.ef (.vf 342)), (.ef (.vf 343))]) 318
theorem n4_2_7o0 : mok [] (lenL 2 7 8 ++ []) nN4 51 n4_2_7m0 = true := by kernel_rfl
def n4_2_7ms : List (Nat × List Memo) := [(51, [n4_2_7m0])]
theorem n4_2_7mo : AllMem (memRun [] (lenL 2 7 8 ++ []) nN4) n4_2_7ms := ⟨⟨n4_2_7o0, trivial⟩, trivial⟩
theorem n4_2_7 : lawRunM 3 10 200 [.i, .i, .q, .i, .f, .q, .i, .b] [(0, 5, 4), (1, 3, 2)] (lenL 2 7 8 ++ []) nN4 n4_2_7ms = true := by kernel_rfl
def n4_0_8m0 : Memo := mkM [(.ag [(.i .i64 1), (.sl 82 0 10 (.u 4)), (.sl 81 0 1 (.u 1))]), (.c (.sl 114 0 1 (.u 1)))] [(81, nb14_15), (82, nb14_16), (114, nb14_2)] 219 (.c (.sl 221 0 1 (.n 1))) (221, [(.ef (.vf 353))]) 268
theorem n4_0_8o0 : mok [] (lenL 2 8 8 ++ []) nN4 51 n4_0_8m0 = true := by kernel_rfl
def n4_0_8ms : List (Nat × List Memo) := [(51, [n4_0_8m0])]
theorem n4_0_8mo : AllMem (memRun [] (lenL 2 8 8 ++ []) nN4) n4_0_8ms := ⟨⟨n4_0_8o0, trivial⟩, trivial⟩
theorem n4_0_8 : lawRunM 3 10 200 [.i, .i, .q, .i, .f, .q, .i, .b] [(0, 5, 4), (1, 3, 0)] (lenL 2 8 8 ++ []) nN4 n4_0_8ms = true := by kernel_rfl
def n4_1_8m0 : Memo := mkM [(.ag [(.i .i64 2), (.sl 96 0 11 (.u 4)), (.sl 95 0 2 (.u 1))]), (.c (.sl 132 0 2 (.u 1)))] [(95, nb14_17), (96, nb14_18), (132, nb14_5)] 244 (.c (.sl 246 0 2 (.n 2))) (246, [(.ef (.vf 382)), (.ef (.vf 383))]) 297
theorem n4_1_8o0 : mok [] (lenL 2 8 8 ++ []) nN4 51 n4_1_8m0 = true := by kernel_rfl
def n4_1_8ms : List (Nat × List Memo) := [(51, [n4_1_8m0])]
theorem n4_1_8mo : AllMem (memRun [] (lenL 2 8 8 ++ []) nN4) n4_1_8ms := ⟨⟨n4_1_8o0, trivial⟩, trivial⟩
theorem n4_1_8 : lawRunM 3 10 200 [.i, .i, .q, .i, .f, .q, .i, .b] [(0, 5, 4), (1, 3, 1)] (lenL 2 8 8 ++ []) nN4 n4_1_8ms = true := by kernel_rfl
def n4_2_8m0 : Memo := mkM [(.ag [(.i .i64 3), (.sl 110 0 12 (.u 4)), (.sl 109 0 3 (.u 1))]), (.c (.sl 150 0 3 (.u 1)))] [(109, nb14_19), (110, nb14_20), (150, nb14_8)] 269 (.c (.sl 271 0 3 (.n 3))) (271, [(.ef (.vf 422)), (.ef (.vf 423)), (.ef (.vf 424))]) 326
theorem n4_2_8o0 : mok [] (lenL 2 8 8 ++ []) nN4 51 n4_2_8m0 = true := by kernel_rfl
def n4_2_8ms : List (Nat × List Memo) := [(51, [n4_2_8m0])]
theorem n4_2_8mo : AllMem (memRun [] (lenL 2 8 8 ++ []) nN4) n4_2_8ms := ⟨⟨n4_2_8o0, trivial⟩, trivial⟩
theorem n4_2_8 : lawRunM 3 10 200 [.i, .i, .q, .i, .f, .q, .i, .b] [(0, 5, 4), (1, 3, 2)] (lenL 2 8 8 ++ []) nN4 n4_2_8ms = true := by kernel_rfl
end Go.Proofs.Ytkncchofgehnpaa
