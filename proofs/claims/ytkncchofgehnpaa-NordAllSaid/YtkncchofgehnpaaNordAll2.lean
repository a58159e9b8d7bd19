/-
  'NordAll': runs of it, part 2.
-/
import Derived.Test.YtkncchofgehnpaaNordAllt0
namespace Go.Proofs.Ytkncchofgehnpaa
open Go.RowKit Ex
set_option maxRecDepth 1000000
set_option maxHeartbeats 100000000
def nm2_0 : E := (.ib .quo .i64 (.vi 1) (.li 3))
def nm2_1 : E := (.ai 9 0 (.ci (.ib .add .i64 nm2_0 (.li 0)) (.ci (.li 3) .n0)))
def nm2_2 : E := (.ic .eql (.ai 9 0 (.ci (.at 2 0) (.ci (.li 11) .n0))) (.li 0))
def nm2_3 : E := (.ib .add .i64 (.li 2) (.ai 9 0 (.ci (.at 2 0) (.ci (.li 3) .n0))))
def nm2_4 : E := (.ib .quo .i64 (.at 2 0) (.li 4))
def nm2_5 : E := (.ib .quo .i64 (.at 2 0) (.li 40))
def nm2_6 : E := (.ic .eql (.ai 9 0 (.ci (.at 2 1) (.ci (.li 11) .n0))) (.li 0))
def nm2_7 : E := (.ib .add .i64 (.li 2) (.ai 9 0 (.ci (.at 2 1) (.ci (.li 3) .n0))))
def nm2_8 : E := (.ib .quo .i64 (.at 2 1) (.li 4))
def nm2_9 : E := (.ib .quo .i64 (.at 2 1) (.li 40))
def nm2_10 : E := (.ic .eql (.ai 9 0 (.ci (.at 2 2) (.ci (.li 11) .n0))) (.li 0))
def nm2_11 : E := (.ib .add .i64 (.li 2) (.ai 9 0 (.ci (.at 2 2) (.ci (.li 3) .n0))))
def nm2_12 : E := (.ib .quo .i64 (.at 2 2) (.li 4))
def nm2_13 : E := (.ib .quo .i64 (.at 2 2) (.li 40))
def nm2_14 : E := (.ic .eql (.ai 9 0 (.ci (.at 2 3) (.ci (.li 11) .n0))) (.li 0))
def nm2_15 : E := (.ib .add .i64 (.li 2) (.ai 9 0 (.ci (.at 2 3) (.ci (.li 3) .n0))))
def nm2_16 : E := (.ib .quo .i64 (.at 2 3) (.li 4))
def nm2_17 : E := (.ib .quo .i64 (.at 2 3) (.li 40))
def nm2_18 : E := (.ic .eql (.ai 9 0 (.ci (.at 2 4) (.ci (.li 11) .n0))) (.li 0))
def nm2_19 : E := (.ib .add .i64 (.li 2) (.ai 9 0 (.ci (.at 2 4) (.ci (.li 3) .n0))))
def nm2_20 : E := (.ib .quo .i64 (.at 2 4) (.li 4))
def nm2_21 : E := (.ib .quo .i64 (.at 2 4) (.li 40))
def nm2_22 : E := (.ic .eql (.ai 9 0 (.ci (.at 2 5) (.ci (.li 11) .n0))) (.li 0))
def nm2_23 : E := (.ib .add .i64 (.li 2) (.ai 9 0 (.ci (.at 2 5) (.ci (.li 3) .n0))))
def nm2_24 : E := (.ib .quo .i64 (.at 2 5) (.li 4))
def nm2_25 : E := (.ib .quo .i64 (.at 2 5) (.li 40))
def nm2_26 : E := (.ai 9 0 (.ci (.ib .add .i64 nm2_0 (.li 1)) (.ci (.li 3) .n0)))
def nm2_27 : E := (.ai 9 0 (.ci (.ib .add .i64 nm2_0 (.li 2)) (.ci (.li 3) .n0)))
def nm2_28 : E := (.ic .eql (.ai 9 0 (.ci (.at 2 6) (.ci (.li 11) .n0))) (.li 0))
def nm2_29 : E := (.ib .add .i64 (.li 2) (.ai 9 0 (.ci (.at 2 6) (.ci (.li 3) .n0))))
def nm2_30 : E := (.ib .quo .i64 (.at 2 6) (.li 4))
def nm2_31 : E := (.ib .quo .i64 (.at 2 6) (.li 40))
def nm2_32 : E := (.ic .eql (.ai 9 0 (.ci (.at 2 7) (.ci (.li 11) .n0))) (.li 0))
def nm2_33 : E := (.ib .add .i64 (.li 2) (.ai 9 0 (.ci (.at 2 7) (.ci (.li 3) .n0))))
def nm2_34 : E := (.ib .quo .i64 (.at 2 7) (.li 4))
def nm2_35 : E := (.ib .quo .i64 (.at 2 7) (.li 40))
def nk2_0 : Blk := [(.i .i64 1), (.i .i64 0), (.i .i64 0), (.f 0)]
def nk2_1 : Blk := [(.i .i64 0), (.i .i64 0), (.i .i64 0), (.ef (.fb .quo (.i2f (.ib .sub .i64 (.ai 9 0 (.ci (.vi 1) (.ci (.li 17) .n0))) (.li 8))) (.lf 4616189618054758400)))]
def nk2_2 : Blk := [(.ei .i64 (.ti nm2_2 (.li 0) (.ti (.vb 7) (.ti (.ic .eql (.ai 9 0 (.ci (.at 2 0) (.ci (.li 7) .n0))) (.li 0)) (.li 5) nm2_3) nm2_3))), (.ei .i64 (.ti nm2_2 (.li 0) (.ai 9 0 (.ci nm2_4 (.ci (.li 2) .n0))))), (.ei .i64 (.ti nm2_2 (.li 0) (.ai 9 0 (.ci nm2_5 (.ci (.li 2) .n0))))), (.ef (.tf nm2_2 (.fb .quo (.i2f (.ib .sub .i64 (.ai 9 0 (.ci (.ib .quo .i64 (.at 2 0) (.li 11)) (.ci (.li 33) .n0))) (.li 16))) (.lf 4620693217682128896)) (.lf 0)))]
def nk2_3 : Blk := [(.ei .i64 (.ti nm2_6 (.li 0) (.ti (.vb 7) (.ti (.ic .eql (.ai 9 0 (.ci (.at 2 1) (.ci (.li 7) .n0))) (.li 0)) (.li 5) nm2_7) nm2_7))), (.ei .i64 (.ti nm2_6 (.li 0) (.ai 9 0 (.ci nm2_8 (.ci (.li 3) .n0))))), (.ei .i64 (.ti nm2_6 (.li 0) (.ai 9 0 (.ci nm2_9 (.ci (.li 3) .n0))))), (.ef (.tf nm2_6 (.fb .quo (.i2f (.ib .sub .i64 (.ai 9 0 (.ci (.ib .quo .i64 (.at 2 1) (.li 11)) (.ci (.li 33) .n0))) (.li 16))) (.lf 4620693217682128896)) (.lf 0)))]
def nk2_4 : Blk := [(.ei .i64 (.ti nm2_10 (.li 0) (.ti (.vb 7) (.ti (.ic .eql (.ai 9 0 (.ci (.at 2 2) (.ci (.li 7) .n0))) (.li 0)) (.li 5) nm2_11) nm2_11))), (.ei .i64 (.ti nm2_10 (.li 0) (.ai 9 0 (.ci nm2_12 (.ci (.li 4) .n0))))), (.ei .i64 (.ti nm2_10 (.li 0) (.ai 9 0 (.ci nm2_13 (.ci (.li 4) .n0))))), (.ef (.tf nm2_10 (.fb .quo (.i2f (.ib .sub .i64 (.ai 9 0 (.ci (.ib .quo .i64 (.at 2 2) (.li 11)) (.ci (.li 33) .n0))) (.li 16))) (.lf 4620693217682128896)) (.lf 0)))]
def nk2_5 : Blk := [(.ei .i64 (.ti nm2_14 (.li 0) (.ti (.vb 7) (.ti (.ic .eql (.ai 9 0 (.ci (.at 2 3) (.ci (.li 7) .n0))) (.li 0)) (.li 5) nm2_15) nm2_15))), (.ei .i64 (.ti nm2_14 (.li 0) (.ai 9 0 (.ci nm2_16 (.ci (.li 5) .n0))))), (.ei .i64 (.ti nm2_14 (.li 0) (.ai 9 0 (.ci nm2_17 (.ci (.li 5) .n0))))), (.ef (.tf nm2_14 (.fb .quo (.i2f (.ib .sub .i64 (.ai 9 0 (.ci (.ib .quo .i64 (.at 2 3) (.li 11)) (.ci (.li 33) .n0))) (.li 16))) (.lf 4620693217682128896)) (.lf 0)))]
def nk2_6 : Blk := [(.ei .i64 (.ti nm2_18 (.li 0) (.ti (.vb 7) (.ti (.ic .eql (.ai 9 0 (.ci (.at 2 4) (.ci (.li 7) .n0))) (.li 0)) (.li 5) nm2_19) nm2_19))), (.ei .i64 (.ti nm2_18 (.li 0) (.ai 9 0 (.ci nm2_20 (.ci (.li 6) .n0))))), (.ei .i64 (.ti nm2_18 (.li 0) (.ai 9 0 (.ci nm2_21 (.ci (.li 6) .n0))))), (.ef (.tf nm2_18 (.fb .quo (.i2f (.ib .sub .i64 (.ai 9 0 (.ci (.ib .quo .i64 (.at 2 4) (.li 11)) (.ci (.li 33) .n0))) (.li 16))) (.lf 4620693217682128896)) (.lf 0)))]
def nk2_7 : Blk := [(.ei .i64 (.ti nm2_22 (.li 0) (.ti (.vb 7) (.ti (.ic .eql (.ai 9 0 (.ci (.at 2 5) (.ci (.li 7) .n0))) (.li 0)) (.li 5) nm2_23) nm2_23))), (.ei .i64 (.ti nm2_22 (.li 0) (.ai 9 0 (.ci nm2_24 (.ci (.li 7) .n0))))), (.ei .i64 (.ti nm2_22 (.li 0) (.ai 9 0 (.ci nm2_25 (.ci (.li 7) .n0))))), (.ef (.tf nm2_22 (.fb .quo (.i2f (.ib .sub .i64 (.ai 9 0 (.ci (.ib .quo .i64 (.at 2 5) (.li 11)) (.ci (.li 33) .n0))) (.li 16))) (.lf 4620693217682128896)) (.lf 0)))]
def nk2_8 : Blk := [(.i .i64 1), (.i .i64 1), (.i .i64 0), (.f 0)]
def nk2_9 : Blk := [(.ei .i64 (.ti nm2_2 (.li 0) (.ti (.vb 7) (.ti (.ic .eql (.ai 9 0 (.ci (.at 2 0) (.ci (.li 7) .n0))) (.li 0)) (.li 5) nm2_3) nm2_3))), (.ei .i64 (.ti nm2_2 (.li 0) (.ai 9 0 (.ci nm2_4 (.ci (.li 3) .n0))))), (.ei .i64 (.ti nm2_2 (.li 0) (.ai 9 0 (.ci nm2_5 (.ci (.li 3) .n0))))), (.ef (.tf nm2_2 (.fb .quo (.i2f (.ib .sub .i64 (.ai 9 0 (.ci (.ib .quo .i64 (.at 2 0) (.li 11)) (.ci (.li 33) .n0))) (.li 16))) (.lf 4620693217682128896)) (.lf 0)))]
def nk2_10 : Blk := [(.ei .i64 (.ti nm2_6 (.li 0) (.ti (.vb 7) (.ti (.ic .eql (.ai 9 0 (.ci (.at 2 1) (.ci (.li 7) .n0))) (.li 0)) (.li 5) nm2_7) nm2_7))), (.ei .i64 (.ti nm2_6 (.li 0) (.ai 9 0 (.ci nm2_8 (.ci (.li 4) .n0))))), (.ei .i64 (.ti nm2_6 (.li 0) (.ai 9 0 (.ci nm2_9 (.ci (.li 4) .n0))))), (.ef (.tf nm2_6 (.fb .quo (.i2f (.ib .sub .i64 (.ai 9 0 (.ci (.ib .quo .i64 (.at 2 1) (.li 11)) (.ci (.li 33) .n0))) (.li 16))) (.lf 4620693217682128896)) (.lf 0)))]
def nk2_11 : Blk := [(.ei .i64 (.ti nm2_10 (.li 0) (.ti (.vb 7) (.ti (.ic .eql (.ai 9 0 (.ci (.at 2 2) (.ci (.li 7) .n0))) (.li 0)) (.li 5) nm2_11) nm2_11))), (.ei .i64 (.ti nm2_10 (.li 0) (.ai 9 0 (.ci nm2_12 (.ci (.li 5) .n0))))), (.ei .i64 (.ti nm2_10 (.li 0) (.ai 9 0 (.ci nm2_13 (.ci (.li 5) .n0))))), (.ef (.tf nm2_10 (.fb .quo (.i2f (.ib .sub .i64 (.ai 9 0 (.ci (.ib .quo .i64 (.at 2 2) (.li 11)) (.ci (.li 33) .n0))) (.li 16))) (.lf 4620693217682128896)) (.lf 0)))]
def nk2_12 : Blk := [(.ei .i64 (.ti nm2_14 (.li 0) (.ti (.vb 7) (.ti (.ic .eql (.ai 9 0 (.ci (.at 2 3) (.ci (.li 7) .n0))) (.li 0)) (.li 5) nm2_15) nm2_15))), (.ei .i64 (.ti nm2_14 (.li 0) (.ai 9 0 (.ci nm2_16 (.ci (.li 6) .n0))))), (.ei .i64 (.ti nm2_14 (.li 0) (.ai 9 0 (.ci nm2_17 (.ci (.li 6) .n0))))), (.ef (.tf nm2_14 (.fb .quo (.i2f (.ib .sub .i64 (.ai 9 0 (.ci (.ib .quo .i64 (.at 2 3) (.li 11)) (.ci (.li 33) .n0))) (.li 16))) (.lf 4620693217682128896)) (.lf 0)))]
def nk2_13 : Blk := [(.ei .i64 (.ti nm2_18 (.li 0) (.ti (.vb 7) (.ti (.ic .eql (.ai 9 0 (.ci (.at 2 4) (.ci (.li 7) .n0))) (.li 0)) (.li 5) nm2_19) nm2_19))), (.ei .i64 (.ti nm2_18 (.li 0) (.ai 9 0 (.ci nm2_20 (.ci (.li 7) .n0))))), (.ei .i64 (.ti nm2_18 (.li 0) (.ai 9 0 (.ci nm2_21 (.ci (.li 7) .n0))))), (.ef (.tf nm2_18 (.fb .quo (.i2f (.ib .sub .i64 (.ai 9 0 (.ci (.ib .quo .i64 (.at 2 4) (.li 11)) (.ci (.li 33) .n0))) (.li 16))) (.lf 4620693217682128896)) (.lf 0)))]
def nk2_14 : Blk := [(.ei .i64 (.ti nm2_22 (.li 0) (.ti (.vb 7) (.ti (.ic .eql (.ai 9 0 (.ci (.at 2 5) (.ci (.li 7) .n0))) (.li 0)) (.li 5) nm2_23) nm2_23))), (.ei .i64 (.ti nm2_22 (.li 0) (.ai 9 0 (.ci nm2_24 (.ci (.li 8) .n0))))), (.ei .i64 (.ti nm2_22 (.li 0) (.ai 9 0 (.ci nm2_25 (.ci (.li 8) .n0))))), (.ef (.tf nm2_22 (.fb .quo (.i2f (.ib .sub .i64 (.ai 9 0 (.ci (.ib .quo .i64 (.at 2 5) (.li 11)) (.ci (.li 33) .n0))) (.li 16))) (.lf 4620693217682128896)) (.lf 0)))]
def nk2_15 : Blk := [(.i .i64 1), (.i .i64 2), (.i .i64 0), (.f 0)]
def nk2_16 : Blk := [(.ei .i64 (.ti nm2_2 (.li 0) (.ti (.vb 7) (.ti (.ic .eql (.ai 9 0 (.ci (.at 2 0) (.ci (.li 7) .n0))) (.li 0)) (.li 5) nm2_3) nm2_3))), (.ei .i64 (.ti nm2_2 (.li 0) (.ai 9 0 (.ci nm2_4 (.ci (.li 4) .n0))))), (.ei .i64 (.ti nm2_2 (.li 0) (.ai 9 0 (.ci nm2_5 (.ci (.li 4) .n0))))), (.ef (.tf nm2_2 (.fb .quo (.i2f (.ib .sub .i64 (.ai 9 0 (.ci (.ib .quo .i64 (.at 2 0) (.li 11)) (.ci (.li 33) .n0))) (.li 16))) (.lf 4620693217682128896)) (.lf 0)))]
def nk2_17 : Blk := [(.ei .i64 (.ti nm2_6 (.li 0) (.ti (.vb 7) (.ti (.ic .eql (.ai 9 0 (.ci (.at 2 1) (.ci (.li 7) .n0))) (.li 0)) (.li 5) nm2_7) nm2_7))), (.ei .i64 (.ti nm2_6 (.li 0) (.ai 9 0 (.ci nm2_8 (.ci (.li 5) .n0))))), (.ei .i64 (.ti nm2_6 (.li 0) (.ai 9 0 (.ci nm2_9 (.ci (.li 5) .n0))))), (.ef (.tf nm2_6 (.fb .quo (.i2f (.ib .sub .i64 (.ai 9 0 (.ci (.ib .quo .i64 (.at 2 1) (.li 11)) (.ci (.li 33) .n0))) (.li 16))) (.lf 4620693217682128896)) (.lf 0)))]
def nk2_18 : Blk := [(.ei .i64 (.ti nm2_10 (.li 0) (.ti (.vb 7) (.ti (.ic .eql (.ai 9 0 (.ci (.at 2 2) (.ci (.li 7) .n0))) (.li 0)) (.li 5) nm2_11) nm2_11))), (.ei .i64 (.ti nm2_10 (.li 0) (.ai 9 0 (.ci nm2_12 (.ci (.li 6) .n0))))), (.ei .i64 (.ti nm2_10 (.li 0) (.ai 9 0 (.ci nm2_13 (.ci (.li 6) .n0))))), (.ef (.tf nm2_10 (.fb .quo (.i2f (.ib .sub .i64 (.ai 9 0 (.ci (.ib .quo .i64 (.at 2 2) (.li 11)) (.ci (.li 33) .n0))) (.li 16))) (.lf 4620693217682128896)) (.lf 0)))]
def nk2_19 : Blk := [(.ei .i64 (.ti nm2_14 (.li 0) (.ti (.vb 7) (.ti (.ic .eql (.ai 9 0 (.ci (.at 2 3) (.ci (.li 7) .n0))) (.li 0)) (.li 5) nm2_15) nm2_15))), (.ei .i64 (.ti nm2_14 (.li 0) (.ai 9 0 (.ci nm2_16 (.ci (.li 7) .n0))))), (.ei .i64 (.ti nm2_14 (.li 0) (.ai 9 0 (.ci nm2_17 (.ci (.li 7) .n0))))), (.ef (.tf nm2_14 (.fb .quo (.i2f (.ib .sub .i64 (.ai 9 0 (.ci (.ib .quo .i64 (.at 2 3) (.li 11)) (.ci (.li 33) .n0))) (.li 16))) (.lf 4620693217682128896)) (.lf 0)))]
def nk2_20 : Blk := [(.ei .i64 (.ti nm2_18 (.li 0) (.ti (.vb 7) (.ti (.ic .eql (.ai 9 0 (.ci (.at 2 4) (.ci (.li 7) .n0))) (.li 0)) (.li 5) nm2_19) nm2_19))), (.ei .i64 (.ti nm2_18 (.li 0) (.ai 9 0 (.ci nm2_20 (.ci (.li 8) .n0))))), (.ei .i64 (.ti nm2_18 (.li 0) (.ai 9 0 (.ci nm2_21 (.ci (.li 8) .n0))))), (.ef (.tf nm2_18 (.fb .quo (.i2f (.ib .sub .i64 (.ai 9 0 (.ci (.ib .quo .i64 (.at 2 4) (.li 11)) (.ci (.li 33) .n0))) (.li 16))) (.lf 4620693217682128896)) (.lf 0)))]
def nk2_21 : Blk := [(.ei .i64 (.ti nm2_22 (.li 0) (.ti (.vb 7) (.ti (.ic .eql (.ai 9 0 (.ci (.at 2 5) (.ci (.li 7) .n0))) (.li 0)) (.li 5) nm2_23) nm2_23))), (.ei .i64 (.ti nm2_22 (.li 0) (.ai 9 0 (.ci nm2_24 (.ci (.li 9) .n0))))), (.ei .i64 (.ti nm2_22 (.li 0) (.ai 9 0 (.ci nm2_25 (.ci (.li 9) .n0))))), (.ef (.tf nm2_22 (.fb .quo (.i2f (.ib .sub .i64 (.ai 9 0 (.ci (.ib .quo .i64 (.at 2 5) (.li 11)) (.ci (.li 33) .n0))) (.li 16))) (.lf 4620693217682128896)) (.lf 0)))]
def nk2_22 : Blk := [(.ei .i64 (.ti nm2_28 (.li 0) (.ti (.vb 7) (.ti (.ic .eql (.ai 9 0 (.ci (.at 2 6) (.ci (.li 7) .n0))) (.li 0)) (.li 5) nm2_29) nm2_29))), (.ei .i64 (.ti nm2_28 (.li 0) (.ai 9 0 (.ci nm2_30 (.ci (.li 8) .n0))))), (.ei .i64 (.ti nm2_28 (.li 0) (.ai 9 0 (.ci nm2_31 (.ci (.li 8) .n0))))), (.ef (.tf nm2_28 (.fb .quo (.i2f (.ib .sub .i64 (.ai 9 0 (.ci (.ib .quo .i64 (.at 2 6) (.li 11)) (.ci (.li 33) .n0))) (.li 16))) (.lf 4620693217682128896)) (.lf 0)))]
def nk2_23 : Blk := [(.ei .i64 (.ti nm2_28 (.li 0) (.ti (.vb 7) (.ti (.ic .eql (.ai 9 0 (.ci (.at 2 6) (.ci (.li 7) .n0))) (.li 0)) (.li 5) nm2_29) nm2_29))), (.ei .i64 (.ti nm2_28 (.li 0) (.ai 9 0 (.ci nm2_30 (.ci (.li 9) .n0))))), (.ei .i64 (.ti nm2_28 (.li 0) (.ai 9 0 (.ci nm2_31 (.ci (.li 9) .n0))))), (.ef (.tf nm2_28 (.fb .quo (.i2f (.ib .sub .i64 (.ai 9 0 (.ci (.ib .quo .i64 (.at 2 6) (.li 11)) (.ci (.li 33) .n0))) (.li 16))) (.lf 4620693217682128896)) (.lf 0)))]
def nk2_24 : Blk := [(.ei .i64 (.ti nm2_28 (.li 0) (.ti (.vb 7) (.ti (.ic .eql (.ai 9 0 (.ci (.at 2 6) (.ci (.li 7) .n0))) (.li 0)) (.li 5) nm2_29) nm2_29))), (.ei .i64 (.ti nm2_28 (.li 0) (.ai 9 0 (.ci nm2_30 (.ci (.li 10) .n0))))), (.ei .i64 (.ti nm2_28 (.li 0) (.ai 9 0 (.ci nm2_31 (.ci (.li 10) .n0))))), (.ef (.tf nm2_28 (.fb .quo (.i2f (.ib .sub .i64 (.ai 9 0 (.ci (.ib .quo .i64 (.at 2 6) (.li 11)) (.ci (.li 33) .n0))) (.li 16))) (.lf 4620693217682128896)) (.lf 0)))]
def nb2_0 : Blk := [(.ei .i64 (.ib .sub .i64 (.li 7) nm2_1))]
def nb2_1 : Blk := nk2_0 ++ nk2_1 ++ nk2_2 ++ nk2_3 ++ nk2_4 ++ nk2_5 ++ nk2_6 ++ nk2_7
def nb2_2 : Blk := [(.ef (.fb .quo (.i2f (.ib .sub .i64 (.ai 9 0 (.ci (.ti (.ic .lss (.li 0) (.vl 5)) (.at 5 0) (.li 0)) (.ci (.li 65) .n0))) (.li 32))) (.lf 4620693217682128896)))]
def nb2_3 : Blk := [(.ei .i64 (.ib .sub .i64 (.li 8) nm2_1)), (.ei .i64 (.ib .sub .i64 (.li 8) nm2_26))]
def nb2_4 : Blk := nk2_0 ++ nk2_8 ++ nk2_1 ++ nk2_9 ++ nk2_10 ++ nk2_11 ++ nk2_12 ++ nk2_13 ++ nk2_14
def nb2_5 : Blk := [(.ef (.fb .quo (.i2f (.ib .sub .i64 (.ai 9 0 (.ci (.ti (.ic .lss (.li 0) (.vl 5)) (.at 5 0) (.li 0)) (.ci (.li 65) .n0))) (.li 32))) (.lf 4620693217682128896))), (.ef (.fb .quo (.i2f (.ib .sub .i64 (.ai 9 0 (.ci (.ti (.ic .lss (.li 1) (.vl 5)) (.at 5 1) (.li 1)) (.ci (.li 65) .n0))) (.li 32))) (.lf 4620693217682128896)))]
def nb2_6 : Blk := [(.ei .i64 (.ib .sub .i64 (.li 9) nm2_1)), (.ei .i64 (.ib .sub .i64 (.li 9) nm2_26)), (.ei .i64 (.ib .sub .i64 (.li 9) nm2_27))]
def nb2_7 : Blk := nk2_0 ++ nk2_8 ++ nk2_15 ++ nk2_1 ++ nk2_16 ++ nk2_17 ++ nk2_18 ++ nk2_19 ++ nk2_20 ++ nk2_21
def nb2_8 : Blk := [(.ef (.fb .quo (.i2f (.ib .sub .i64 (.ai 9 0 (.ci (.ti (.ic .lss (.li 0) (.vl 5)) (.at 5 0) (.li 0)) (.ci (.li 65) .n0))) (.li 32))) (.lf 4620693217682128896))), (.ef (.fb .quo (.i2f (.ib .sub .i64 (.ai 9 0 (.ci (.ti (.ic .lss (.li 1) (.vl 5)) (.at 5 1) (.li 1)) (.ci (.li 65) .n0))) (.li 32))) (.lf 4620693217682128896))), (.ef (.fb .quo (.i2f (.ib .sub .i64 (.ai 9 0 (.ci (.ti (.ic .lss (.li 2) (.vl 5)) (.at 5 2) (.li 2)) (.ci (.li 65) .n0))) (.li 32))) (.lf 4620693217682128896)))]
def nb2_9 : Blk := [(.ei .i64 (.ib .sub .i64 (.li 8) nm2_1))]
def nb2_10 : Blk := nk2_0 ++ nk2_1 ++ nk2_2 ++ nk2_3 ++ nk2_4 ++ nk2_5 ++ nk2_6 ++ nk2_7 ++ nk2_22
def nb2_11 : Blk := [(.ei .i64 (.ib .sub .i64 (.li 9) nm2_1)), (.ei .i64 (.ib .sub .i64 (.li 9) nm2_26))]
def nb2_12 : Blk := nk2_0 ++ nk2_8 ++ nk2_1 ++ nk2_9 ++ nk2_10 ++ nk2_11 ++ nk2_12 ++ nk2_13 ++ nk2_14 ++ nk2_23
def nb2_13 : Blk := [(.ei .i64 (.ib .sub .i64 (.li 10) nm2_1)), (.ei .i64 (.ib .sub .i64 (.li 10) nm2_26)), (.ei .i64 (.ib .sub .i64 (.li 10) nm2_27))]
def nb2_14 : Blk := nk2_0 ++ nk2_8 ++ nk2_15 ++ nk2_1 ++ nk2_16 ++ nk2_17 ++ nk2_18 ++ nk2_19 ++ nk2_20 ++ nk2_21 ++ nk2_24
def nb2_15 : Blk := [(.ei .i64 (.ib .sub .i64 (.li 9) nm2_1))]
def nb2_16 : Blk := nk2_0 ++ nk2_1 ++ nk2_2 ++ nk2_3 ++ nk2_4 ++ nk2_5 ++ nk2_6 ++ nk2_7 ++ nk2_22 ++ [(.ei .i64 (.ti nm2_32 (.li 0) (.ti (.vb 7) (.ti (.ic .eql (.ai 9 0 (.ci (.at 2 7) (.ci (.li 7) .n0))) (.li 0)) (.li 5) nm2_33) nm2_33))), (.ei .i64 (.ti nm2_32 (.li 0) (.ai 9 0 (.ci nm2_34 (.ci (.li 9) .n0))))), (.ei .i64 (.ti nm2_32 (.li 0) (.ai 9 0 (.ci nm2_35 (.ci (.li 9) .n0))))), (.ef (.tf nm2_32 (.fb .quo (.i2f (.ib .sub .i64 (.ai 9 0 (.ci (.ib .quo .i64 (.at 2 7) (.li 11)) (.ci (.li 33) .n0))) (.li 16))) (.lf 4620693217682128896)) (.lf 0)))]
def nb2_17 : Blk := [(.ei .i64 (.ib .sub .i64 (.li 10) nm2_1)), (.ei .i64 (.ib .sub .i64 (.li 10) nm2_26))]
def nb2_18 : Blk := nk2_0 ++ nk2_8 ++ nk2_1 ++ nk2_9 ++ nk2_10 ++ nk2_11 ++ nk2_12 ++ nk2_13 ++ nk2_14 ++ nk2_23 ++ [(.ei .i64 (.ti nm2_32 (.li 0) (.ti (.vb 7) (.ti (.ic .eql (.ai 9 0 (.ci (.at 2 7) (.ci (.li 7) .n0))) (.li 0)) (.li 5) nm2_33) nm2_33))), (.ei .i64 (.ti nm2_32 (.li 0) (.ai 9 0 (.ci nm2_34 (.ci (.li 10) .n0))))), (.ei .i64 (.ti nm2_32 (.li 0) (.ai 9 0 (.ci nm2_35 (.ci (.li 10) .n0))))), (.ef (.tf nm2_32 (.fb .quo (.i2f (.ib .sub .i64 (.ai 9 0 (.ci (.ib .quo .i64 (.at 2 7) (.li 11)) (.ci (.li 33) .n0))) (.li 16))) (.lf 4620693217682128896)) (.lf 0)))]
def nb2_19 : Blk := [(.ei .i64 (.ib .sub .i64 (.li 11) nm2_1)), (.ei .i64 (.ib .sub .i64 (.li 11) nm2_26)), (.ei .i64 (.ib .sub .i64 (.li 11) nm2_27))]
def nb2_20 : Blk := nk2_0 ++ nk2_8 ++ nk2_15 ++ nk2_1 ++ nk2_16 ++ nk2_17 ++ nk2_18 ++ nk2_19 ++ nk2_20 ++ nk2_21 ++ nk2_24 ++ [(.ei .i64 (.ti nm2_32 (.li 0) (.ti (.vb 7) (.ti (.ic .eql (.ai 9 0 (.ci (.at 2 7) (.ci (.li 7) .n0))) (.li 0)) (.li 5) nm2_33) nm2_33))), (.ei .i64 (.ti nm2_32 (.li 0) (.ai 9 0 (.ci nm2_34 (.ci (.li 11) .n0))))), (.ei .i64 (.ti nm2_32 (.li 0) (.ai 9 0 (.ci nm2_35 (.ci (.li 11) .n0))))), (.ef (.tf nm2_32 (.fb .quo (.i2f (.ib .sub .i64 (.ai 9 0 (.ci (.ib .quo .i64 (.at 2 7) (.li 11)) (.ci (.li 33) .n0))) (.li 16))) (.lf 4620693217682128896)) (.lf 0)))]
def n0_0_6m0 : Memo := mkM [(.ag [(.i .i64 1), (.sl 38 0 8 (.u 4)), (.sl 37 0 1 (.u 1))]), (.c (.sl 64 0 1 (.u 1)))] [(37, nb2_0), (38, nb2_1), (64, nb2_2)] 119 (.c (.sl 121 0 1 (.n 1))) (121, [(.ef (.vf 272))]) 160
theorem n0_0_6o0 : mok [] (lenL 2 6 8 ++ []) nN0 51 n0_0_6m0 = true := by kernel_rfl
def n0_0_6ms : List (Nat × List Memo) := [(51, [n0_0_6m0])]
theorem n0_0_6mo : AllMem (memRun [] (lenL 2 6 8 ++ []) nN0) n0_0_6ms := ⟨⟨n0_0_6o0, trivial⟩, trivial⟩
theorem n0_0_6 : lawRunM 3 10 200 [.i, .i, .q, .i, .f, .q, .i, .b] [(0, 5, 0), (1, 3, 0)] (lenL 2 6 8 ++ []) nN0 n0_0_6ms = true := by kernel_rfl
def n0_1_6m0 : Memo := mkM [(.ag [(.i .i64 2), (.sl 44 0 9 (.u 4)), (.sl 43 0 2 (.u 1))]), (.c (.sl 74 0 2 (.u 1)))] [(43, nb2_3), (44, nb2_4), (74, nb2_5)] 136 (.c (.sl 138 0 2 (.n 2))) (138, [(.ef (.vf 281)), (.ef (.vf 282))]) 181
theorem n0_1_6o0 : mok [] (lenL 2 6 8 ++ []) nN0 51 n0_1_6m0 = true := by kernel_rfl
def n0_1_6ms : List (Nat × List Memo) := [(51, [n0_1_6m0])]
theorem n0_1_6mo : AllMem (memRun [] (lenL 2 6 8 ++ []) nN0) n0_1_6ms := ⟨⟨n0_1_6o0, trivial⟩, trivial⟩
theorem n0_1_6 : lawRunM 3 10 200 [.i, .i, .q, .i, .f, .q, .i, .b] [(0, 5, 0), (1, 3, 1)] (lenL 2 6 8 ++ []) nN0 n0_1_6ms = true := by kernel_rfl
def n0_2_6m0 : Memo := mkM [(.ag [(.i .i64 3), (.sl 50 0 10 (.u 4)), (.sl 49 0 3 (.u 1))]), (.c (.sl 84 0 3 (.u 1)))] [(49, nb2_6), (50, nb2_7), (84, nb2_8)] 153 (.c (.sl 155 0 3 (.n 3))) (155, [(.ef (.vf 291)), (.ef (.vf 292)), (.ef (.vf 293))]) 202
theorem n0_2_6o0 : mok [] (lenL 2 6 8 ++ []) nN0 51 n0_2_6m0 = true := by kernel_rfl
def n0_2_6ms : List (Nat × List Memo) := [(51, [n0_2_6m0])]
theorem n0_2_6mo : AllMem (memRun [] (lenL 2 6 8 ++ []) nN0) n0_2_6ms := ⟨⟨n0_2_6o0, trivial⟩, trivial⟩
theorem n0_2_6 : lawRunM 3 10 200 [.i, .i, .q, .i, .f, .q, .i, .b] [(0, 5, 0), (1, 3, 2)] (lenL 2 6 8 ++ []) nN0 n0_2_6ms = true := by kernel_rfl
def n0_0_7m0 : Memo := mkM [(.ag [(.i .i64 1), (.sl 38 0 9 (.u 4)), (.sl 37 0 1 (.u 1))]), (.c (.sl 67 0 1 (.u 1)))] [(37, nb2_9), (38, nb2_10), (67, nb2_2)] 123 (.c (.sl 125 0 1 (.n 1))) (125, [(.ef (.vf 303))]) 168
theorem n0_0_7o0 : mok [] (lenL 2 7 8 ++ []) nN0 51 n0_0_7m0 = true := by kernel_rfl
def n0_0_7ms : List (Nat × List Memo) := [(51, [n0_0_7m0])]
theorem n0_0_7mo : AllMem (memRun [] (lenL 2 7 8 ++ []) nN0) n0_0_7ms := ⟨⟨n0_0_7o0, trivial⟩, trivial⟩
theorem n0_0_7 : lawRunM 3 10 200 [.i, .i, .q, .i, .f, .q, .i, .b] [(0, 5, 0), (1, 3, 0)] (lenL 2 7 8 ++ []) nN0 n0_0_7ms = true := by kernel_rfl
def n0_1_7m0 : Memo := mkM [(.ag [(.i .i64 2), (.sl 44 0 10 (.u 4)), (.sl 43 0 2 (.u 1))]), (.c (.sl 77 0 2 (.u 1)))] [(43, nb2_11), (44, nb2_12), (77, nb2_5)] 140 (.c (.sl 142 0 2 (.n 2))) (142, [(.ef (.vf 312)), (.ef (.vf 313))]) 189
theorem n0_1_7o0 : mok [] (lenL 2 7 8 ++ []) nN0 51 n0_1_7m0 = true := by kernel_rfl
def n0_1_7ms : List (Nat × List Memo) := [(51, [n0_1_7m0])]
theorem n0_1_7mo : AllMem (memRun [] (lenL 2 7 8 ++ []) nN0) n0_1_7ms := ⟨⟨n0_1_7o0, trivial⟩, trivial⟩
theorem n0_1_7 : lawRunM 3 10 200 [.i, .i, .q, .i, .f, .q, .i, .b] [(0, 5, 0), (1, 3, 1)] (lenL 2 7 8 ++ []) nN0 n0_1_7ms = true := by kernel_rfl
def n0_2_7m0 : Memo := mkM [(.ag [(.i .i64 3), (.sl 50 0 11 (.u 4)), (.sl 49 0 3 (.u 1))]), (.c (.sl 87 0 3 (.u 1)))] [(49, nb2_13), (50, nb2_14), (87, nb2_8)] 157 (.c (.sl 159 0 3 (.n 3))) (159, [(.ef (.vf 322)), (.ef (.vf 323)), (.ef (.vf 324))]) 210
theorem n0_2_7o0 : mok [] (lenL 2 7 8 ++ []) nN0 51 n0_2_7m0 = true := by kernel_rfl
def n0_2_7ms : List (Nat × List Memo) := [(51, [n0_2_7m0])]
theorem n0_2_7mo : AllMem (memRun [] (lenL 2 7 8 ++ []) nN0) n0_2_7ms := ⟨⟨n0_2_7o0, trivial⟩, trivial⟩
theorem n0_2_7 : lawRunM 3 10 200 [.i, .i, .q, .i, .f, .q, .i, .b] [(0, 5, 0), (1, 3, 2)] (lenL 2 7 8 ++ []) nN0 n0_2_7ms = true := by kernel_rfl
def n0_0_8m0 : Memo := mkM [(.ag [(.i .i64 1), (.sl 38 0 10 (.u 4)), (.sl 37 0 1 (.u 1))]), (.c (.sl 70 0 1 (.u 1)))] [(37, nb2_15), (38, nb2_16), (70, nb2_2)] 127 (.c (.sl 129 0 1 (.n 1))) (129, [(.ef (.vf 334))]) 176
theorem n0_0_8o0 : mok [] (lenL 2 8 8 ++ []) nN0 51 n0_0_8m0 = true := by kernel_rfl
def n0_0_8ms : List (Nat × List Memo) := [(51, [n0_0_8m0])]
theorem n0_0_8mo : AllMem (memRun [] (lenL 2 8 8 ++ []) nN0) n0_0_8ms := ⟨⟨n0_0_8o0, trivial⟩, trivial⟩
theorem n0_0_8 : lawRunM 3 10 200 [.i, .i, .q, .i, .f, .q, .i, .b] [(0, 5, 0), (1, 3, 0)] (lenL 2 8 8 ++ []) nN0 n0_0_8ms = true := by kernel_rfl
def n0_1_8m0 : Memo := mkM [(.ag [(.i .i64 2), (.sl 44 0 11 (.u 4)), (.sl 43 0 2 (.u 1))]), (.c (.sl 80 0 2 (.u 1)))] [(43, nb2_17), (44, nb2_18), (80, nb2_5)] 144 (.c (.sl 146 0 2 (.n 2))) (146, [(.ef (.vf 343)), (.ef (.vf 344))]) 197
theorem n0_1_8o0 : mok [] (lenL 2 8 8 ++ []) nN0 51 n0_1_8m0 = true := by kernel_rfl
def n0_1_8ms : List (Nat × List Memo) := [(51, [n0_1_8m0])]
theorem n0_1_8mo : AllMem (memRun [] (lenL 2 8 8 ++ []) nN0) n0_1_8ms := ⟨⟨n0_1_8o0, trivial⟩, trivial⟩
theorem n0_1_8 : lawRunM 3 10 200 [.i, .i, .q, .i, .f, .q, .i, .b] [(0, 5, 0), (1, 3, 1)] (lenL 2 8 8 ++ []) nN0 n0_1_8ms = true := by kernel_rfl
def n0_2_8m0 : Memo := mkM [(.ag [(.i .i64 3), (.sl 50 0 12 (.u 4)), (.sl 49 0 3 (.u 1))]), (.c (.sl 90 0 3 (.u 1)))] [(49, nb2_19), (50, nb2_20), (90, nb2_8)] 161 (.c (.sl 163 0 3 (.n 3))) (163, [(.ef (.vf 353)), (.ef (.vf 354)), (.ef (.vf 355))]) 218
theorem n0_2_8o0 : mok [] (lenL 2 8 8 ++ []) nN0 51 n0_2_8m0 = true := by kernel_rfl
def n0_2_8ms : List (Nat × List Memo) := [(51, [n0_2_8m0])]
theorem n0_2_8mo : AllMem (memRun [] (lenL 2 8 8 ++ []) nN0) n0_2_8ms := ⟨⟨n0_2_8o0, trivial⟩, trivial⟩
theorem n0_2_8 : lawRunM 3 10 200 [.i, .i, .q, .i, .f, .q, .i, .b] [(0, 5, 0), (1, 3, 2)] (lenL 2 8 8 ++ []) nN0 n0_2_8ms = true := by kernel_rfl
end Go.Proofs.Ytkncchofgehnpaa
