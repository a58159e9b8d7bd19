/-
  'NordAll': runs of it, part 5.
-/
import Derived.Test.YtkncchofgehnpaaNordAllt1
namespace Go.Proofs.Ytkncchofgehnpaa
open Go.RowKit Ex
set_option maxRecDepth 1000000
set_option maxHeartbeats 100000000
def nm5_0 : E := (.ib .quo .i64 (.vi 1) (.li 3))
def nm5_1 : E := (.ai 9 0 (.ci (.ib .add .i64 nm5_0 (.li 0)) (.ci (.li 3) .n0)))
def nm5_2 : E := (.ic .eql (.ai 9 0 (.ci (.at 2 0) (.ci (.li 11) .n0))) (.li 0))
def nm5_3 : E := (.ib .add .i64 (.li 2) (.ai 9 0 (.ci (.at 2 0) (.ci (.li 3) .n0))))
def nm5_4 : E := (.ib .quo .i64 (.at 2 0) (.li 4))
def nm5_5 : E := (.ib .quo .i64 (.at 2 0) (.li 40))
def nm5_6 : E := (.ic .eql (.ai 9 0 (.ci (.at 2 1) (.ci (.li 11) .n0))) (.li 0))
def nm5_7 : E := (.ib .add .i64 (.li 2) (.ai 9 0 (.ci (.at 2 1) (.ci (.li 3) .n0))))
def nm5_8 : E := (.ib .quo .i64 (.at 2 1) (.li 4))
def nm5_9 : E := (.ib .quo .i64 (.at 2 1) (.li 40))
def nm5_10 : E := (.ic .eql (.ai 9 0 (.ci (.at 2 2) (.ci (.li 11) .n0))) (.li 0))
def nm5_11 : E := (.ib .add .i64 (.li 2) (.ai 9 0 (.ci (.at 2 2) (.ci (.li 3) .n0))))
def nm5_12 : E := (.ib .quo .i64 (.at 2 2) (.li 4))
def nm5_13 : E := (.ib .quo .i64 (.at 2 2) (.li 40))
def nm5_14 : E := (.ic .eql (.ai 9 0 (.ci (.at 2 3) (.ci (.li 11) .n0))) (.li 0))
def nm5_15 : E := (.ib .add .i64 (.li 2) (.ai 9 0 (.ci (.at 2 3) (.ci (.li 3) .n0))))
def nm5_16 : E := (.ib .quo .i64 (.at 2 3) (.li 4))
def nm5_17 : E := (.ib .quo .i64 (.at 2 3) (.li 40))
def nm5_18 : E := (.ic .eql (.ai 9 0 (.ci (.at 2 4) (.ci (.li 11) .n0))) (.li 0))
def nm5_19 : E := (.ib .add .i64 (.li 2) (.ai 9 0 (.ci (.at 2 4) (.ci (.li 3) .n0))))
def nm5_20 : E := (.ib .quo .i64 (.at 2 4) (.li 4))
def nm5_21 : E := (.ib .quo .i64 (.at 2 4) (.li 40))
def nm5_22 : E := (.ic .eql (.ai 9 0 (.ci (.at 2 5) (.ci (.li 11) .n0))) (.li 0))
def nm5_23 : E := (.ib .add .i64 (.li 2) (.ai 9 0 (.ci (.at 2 5) (.ci (.li 3) .n0))))
def nm5_24 : E := (.ib .quo .i64 (.at 2 5) (.li 4))
def nm5_25 : E := (.ib .quo .i64 (.at 2 5) (.li 40))
def nm5_26 : E := (.ai 9 0 (.ci (.ib .add .i64 nm5_0 (.li 1)) (.ci (.li 3) .n0)))
def nm5_27 : E := (.ai 9 0 (.ci (.ib .add .i64 nm5_0 (.li 2)) (.ci (.li 3) .n0)))
def nm5_28 : E := (.ic .eql (.ai 9 0 (.ci (.at 2 6) (.ci (.li 11) .n0))) (.li 0))
def nm5_29 : E := (.ib .add .i64 (.li 2) (.ai 9 0 (.ci (.at 2 6) (.ci (.li 3) .n0))))
def nm5_30 : E := (.ib .quo .i64 (.at 2 6) (.li 4))
def nm5_31 : E := (.ib .quo .i64 (.at 2 6) (.li 40))
def nm5_32 : E := (.ic .eql (.ai 9 0 (.ci (.at 2 7) (.ci (.li 11) .n0))) (.li 0))
def nm5_33 : E := (.ib .add .i64 (.li 2) (.ai 9 0 (.ci (.at 2 7) (.ci (.li 3) .n0))))
def nm5_34 : E := (.ib .quo .i64 (.at 2 7) (.li 4))
def nm5_35 : E := (.ib .quo .i64 (.at 2 7) (.li 40))
def nk5_0 : Blk := [(.i .i64 1), (.i .i64 0), (.i .i64 0), (.f 0)]
def nk5_1 : Blk := [(.i .i64 0), (.i .i64 0), (.i .i64 0), (.ef (.fb .quo (.i2f (.ib .sub .i64 (.ai 9 0 (.ci (.vi 1) (.ci (.li 17) .n0))) (.li 8))) (.lf 4616189618054758400)))]
def nk5_2 : Blk := [(.ei .i64 (.ti nm5_2 (.li 0) (.ti (.vb 7) (.ti (.ic .eql (.ai 9 0 (.ci (.at 2 0) (.ci (.li 7) .n0))) (.li 0)) (.li 5) nm5_3) nm5_3))), (.ei .i64 (.ti nm5_2 (.li 0) (.ai 9 0 (.ci nm5_4 (.ci (.li 2) .n0))))), (.ei .i64 (.ti nm5_2 (.li 0) (.ai 9 0 (.ci nm5_5 (.ci (.li 2) .n0))))), (.ef (.tf nm5_2 (.fb .quo (.i2f (.ib .sub .i64 (.ai 9 0 (.ci (.ib .quo .i64 (.at 2 0) (.li 11)) (.ci (.li 33) .n0))) (.li 16))) (.lf 4620693217682128896)) (.lf 0)))]
def nk5_3 : Blk := [(.ei .i64 (.ti nm5_6 (.li 0) (.ti (.vb 7) (.ti (.ic .eql (.ai 9 0 (.ci (.at 2 1) (.ci (.li 7) .n0))) (.li 0)) (.li 5) nm5_7) nm5_7))), (.ei .i64 (.ti nm5_6 (.li 0) (.ai 9 0 (.ci nm5_8 (.ci (.li 3) .n0))))), (.ei .i64 (.ti nm5_6 (.li 0) (.ai 9 0 (.ci nm5_9 (.ci (.li 3) .n0))))), (.ef (.tf nm5_6 (.fb .quo (.i2f (.ib .sub .i64 (.ai 9 0 (.ci (.ib .quo .i64 (.at 2 1) (.li 11)) (.ci (.li 33) .n0))) (.li 16))) (.lf 4620693217682128896)) (.lf 0)))]
def nk5_4 : Blk := [(.ei .i64 (.ti nm5_10 (.li 0) (.ti (.vb 7) (.ti (.ic .eql (.ai 9 0 (.ci (.at 2 2) (.ci (.li 7) .n0))) (.li 0)) (.li 5) nm5_11) nm5_11))), (.ei .i64 (.ti nm5_10 (.li 0) (.ai 9 0 (.ci nm5_12 (.ci (.li 4) .n0))))), (.ei .i64 (.ti nm5_10 (.li 0) (.ai 9 0 (.ci nm5_13 (.ci (.li 4) .n0))))), (.ef (.tf nm5_10 (.fb .quo (.i2f (.ib .sub .i64 (.ai 9 0 (.ci (.ib .quo .i64 (.at 2 2) (.li 11)) (.ci (.li 33) .n0))) (.li 16))) (.lf 4620693217682128896)) (.lf 0)))]
def nk5_5 : Blk := [(.ei .i64 (.ti nm5_14 (.li 0) (.ti (.vb 7) (.ti (.ic .eql (.ai 9 0 (.ci (.at 2 3) (.ci (.li 7) .n0))) (.li 0)) (.li 5) nm5_15) nm5_15))), (.ei .i64 (.ti nm5_14 (.li 0) (.ai 9 0 (.ci nm5_16 (.ci (.li 5) .n0))))), (.ei .i64 (.ti nm5_14 (.li 0) (.ai 9 0 (.ci nm5_17 (.ci (.li 5) .n0))))), (.ef (.tf nm5_14 (.fb .quo (.i2f (.ib .sub .i64 (.ai 9 0 (.ci (.ib .quo .i64 (.at 2 3) (.li 11)) (.ci (.li 33) .n0))) (.li 16))) (.lf 4620693217682128896)) (.lf 0)))]
def nk5_6 : Blk := [(.ei .i64 (.ti nm5_18 (.li 0) (.ti (.vb 7) (.ti (.ic .eql (.ai 9 0 (.ci (.at 2 4) (.ci (.li 7) .n0))) (.li 0)) (.li 5) nm5_19) nm5_19))), (.ei .i64 (.ti nm5_18 (.li 0) (.ai 9 0 (.ci nm5_20 (.ci (.li 6) .n0))))), (.ei .i64 (.ti nm5_18 (.li 0) (.ai 9 0 (.ci nm5_21 (.ci (.li 6) .n0))))), (.ef (.tf nm5_18 (.fb .quo (.i2f (.ib .sub .i64 (.ai 9 0 (.ci (.ib .quo .i64 (.at 2 4) (.li 11)) (.ci (.li 33) .n0))) (.li 16))) (.lf 4620693217682128896)) (.lf 0)))]
def nk5_7 : Blk := [(.ei .i64 (.ti nm5_22 (.li 0) (.ti (.vb 7) (.ti (.ic .eql (.ai 9 0 (.ci (.at 2 5) (.ci (.li 7) .n0))) (.li 0)) (.li 5) nm5_23) nm5_23))), (.ei .i64 (.ti nm5_22 (.li 0) (.ai 9 0 (.ci nm5_24 (.ci (.li 7) .n0))))), (.ei .i64 (.ti nm5_22 (.li 0) (.ai 9 0 (.ci nm5_25 (.ci (.li 7) .n0))))), (.ef (.tf nm5_22 (.fb .quo (.i2f (.ib .sub .i64 (.ai 9 0 (.ci (.ib .quo .i64 (.at 2 5) (.li 11)) (.ci (.li 33) .n0))) (.li 16))) (.lf 4620693217682128896)) (.lf 0)))]
def nk5_8 : Blk := [(.i .i64 1), (.i .i64 1), (.i .i64 0), (.f 0)]
def nk5_9 : Blk := [(.ei .i64 (.ti nm5_2 (.li 0) (.ti (.vb 7) (.ti (.ic .eql (.ai 9 0 (.ci (.at 2 0) (.ci (.li 7) .n0))) (.li 0)) (.li 5) nm5_3) nm5_3))), (.ei .i64 (.ti nm5_2 (.li 0) (.ai 9 0 (.ci nm5_4 (.ci (.li 3) .n0))))), (.ei .i64 (.ti nm5_2 (.li 0) (.ai 9 0 (.ci nm5_5 (.ci (.li 3) .n0))))), (.ef (.tf nm5_2 (.fb .quo (.i2f (.ib .sub .i64 (.ai 9 0 (.ci (.ib .quo .i64 (.at 2 0) (.li 11)) (.ci (.li 33) .n0))) (.li 16))) (.lf 4620693217682128896)) (.lf 0)))]
def nk5_10 : Blk := [(.ei .i64 (.ti nm5_6 (.li 0) (.ti (.vb 7) (.ti (.ic .eql (.ai 9 0 (.ci (.at 2 1) (.ci (.li 7) .n0))) (.li 0)) (.li 5) nm5_7) nm5_7))), (.ei .i64 (.ti nm5_6 (.li 0) (.ai 9 0 (.ci nm5_8 (.ci (.li 4) .n0))))), (.ei .i64 (.ti nm5_6 (.li 0) (.ai 9 0 (.ci nm5_9 (.ci (.li 4) .n0))))), (.ef (.tf nm5_6 (.fb .quo (.i2f (.ib .sub .i64 (.ai 9 0 (.ci (.ib .quo .i64 (.at 2 1) (.li 11)) (.ci (.li 33) .n0))) (.li 16))) (.lf 4620693217682128896)) (.lf 0)))]
def nk5_11 : Blk := [(.ei .i64 (.ti nm5_10 (.li 0) (.ti (.vb 7) (.ti (.ic .eql (.ai 9 0 (.ci (.at 2 2) (.ci (.li 7) .n0))) (.li 0)) (.li 5) nm5_11) nm5_11))), (.ei .i64 (.ti nm5_10 (.li 0) (.ai 9 0 (.ci nm5_12 (.ci (.li 5) .n0))))), (.ei .i64 (.ti nm5_10 (.li 0) (.ai 9 0 (.ci nm5_13 (.ci (.li 5) .n0))))), (.ef (.tf nm5_10 (.fb .quo (.i2f (.ib .sub .i64 (.ai 9 0 (.ci (.ib .quo .i64 (.at 2 2) (.li 11)) (.ci (.li 33) .n0))) (.li 16))) (.lf 4620693217682128896)) (.lf 0)))]
def nk5_12 : Blk := [(.ei .i64 (.ti nm5_14 (.li 0) (.ti (.vb 7) (.ti (.ic .eql (.ai 9 0 (.ci (.at 2 3) (.ci (.li 7) .n0))) (.li 0)) (.li 5) nm5_15) nm5_15))), (.ei .i64 (.ti nm5_14 (.li 0) (.ai 9 0 (.ci nm5_16 (.ci (.li 6) .n0))))), (.ei .i64 (.ti nm5_14 (.li 0) (.ai 9 0 (.ci nm5_17 (.ci (.li 6) .n0))))), (.ef (.tf nm5_14 (.fb .quo (.i2f (.ib .sub .i64 (.ai 9 0 (.ci (.ib .quo .i64 (.at 2 3) (.li 11)) (.ci (.li 33) .n0))) (.li 16))) (.lf 4620693217682128896)) (.lf 0)))]
def nk5_13 : Blk := [(.ei .i64 (.ti nm5_18 (.li 0) (.ti (.vb 7) (.ti (.ic .eql (.ai 9 0 (.ci (.at 2 4) (.ci (.li 7) .n0))) (.li 0)) (.li 5) nm5_19) nm5_19))), (.ei .i64 (.ti nm5_18 (.li 0) (.ai 9 0 (.ci nm5_20 (.ci (.li 7) .n0))))), (.ei .i64 (.ti nm5_18 (.li 0) (.ai 9 0 (.ci nm5_21 (.ci (.li 7) .n0))))), (.ef (.tf nm5_18 (.fb .quo (.i2f (.ib .sub .i64 (.ai 9 0 (.ci (.ib .quo .i64 (.at 2 4) (.li 11)) (.ci (.li 33) .n0))) (.li 16))) (.lf 4620693217682128896)) (.lf 0)))]
def nk5_14 : Blk := [(.ei .i64 (.ti nm5_22 (.li 0) (.ti (.vb 7) (.ti (.ic .eql (.ai 9 0 (.ci (.at 2 5) (.ci (.li 7) .n0))) (.li 0)) (.li 5) nm5_23) nm5_23))), (.ei .i64 (.ti nm5_22 (.li 0) (.ai 9 0 (.ci nm5_24 (.ci (.li 8) .n0))))), (.ei .i64 (.ti nm5_22 (.li 0) (.ai 9 0 (.ci nm5_25 (.ci (.li 8) .n0))))), (.ef (.tf nm5_22 (.fb .quo (.i2f (.ib .sub .i64 (.ai 9 0 (.ci (.ib .quo .i64 (.at 2 5) (.li 11)) (.ci (.li 33) .n0))) (.li 16))) (.lf 4620693217682128896)) (.lf 0)))]
def nk5_15 : Blk := [(.i .i64 1), (.i .i64 2), (.i .i64 0), (.f 0)]
def nk5_16 : Blk := [(.ei .i64 (.ti nm5_2 (.li 0) (.ti (.vb 7) (.ti (.ic .eql (.ai 9 0 (.ci (.at 2 0) (.ci (.li 7) .n0))) (.li 0)) (.li 5) nm5_3) nm5_3))), (.ei .i64 (.ti nm5_2 (.li 0) (.ai 9 0 (.ci nm5_4 (.ci (.li 4) .n0))))), (.ei .i64 (.ti nm5_2 (.li 0) (.ai 9 0 (.ci nm5_5 (.ci (.li 4) .n0))))), (.ef (.tf nm5_2 (.fb .quo (.i2f (.ib .sub .i64 (.ai 9 0 (.ci (.ib .quo .i64 (.at 2 0) (.li 11)) (.ci (.li 33) .n0))) (.li 16))) (.lf 4620693217682128896)) (.lf 0)))]
def nk5_17 : Blk := [(.ei .i64 (.ti nm5_6 (.li 0) (.ti (.vb 7) (.ti (.ic .eql (.ai 9 0 (.ci (.at 2 1) (.ci (.li 7) .n0))) (.li 0)) (.li 5) nm5_7) nm5_7))), (.ei .i64 (.ti nm5_6 (.li 0) (.ai 9 0 (.ci nm5_8 (.ci (.li 5) .n0))))), (.ei .i64 (.ti nm5_6 (.li 0) (.ai 9 0 (.ci nm5_9 (.ci (.li 5) .n0))))), (.ef (.tf nm5_6 (.fb .quo (.i2f (.ib .sub .i64 (.ai 9 0 (.ci (.ib .quo .i64 (.at 2 1) (.li 11)) (.ci (.li 33) .n0))) (.li 16))) (.lf 4620693217682128896)) (.lf 0)))]
def nk5_18 : Blk := [(.ei .i64 (.ti nm5_10 (.li 0) (.ti (.vb 7) (.ti (.ic .eql (.ai 9 0 (.ci (.at 2 2) (.ci (.li 7) .n0))) (.li 0)) (.li 5) nm5_11) nm5_11))), (.ei .i64 (.ti nm5_10 (.li 0) (.ai 9 0 (.ci nm5_12 (.ci (.li 6) .n0))))), (.ei .i64 (.ti nm5_10 (.li 0) (.ai 9 0 (.ci nm5_13 (.ci (.li 6) .n0))))), (.ef (.tf nm5_10 (.fb .quo (.i2f (.ib .sub .i64 (.ai 9 0 (.ci (.ib .quo .i64 (.at 2 2) (.li 11)) (.ci (.li 33) .n0))) (.li 16))) (.lf 4620693217682128896)) (.lf 0)))]
def nk5_19 : Blk := [(.ei .i64 (.ti nm5_14 (.li 0) (.ti (.vb 7) (.ti (.ic .eql (.ai 9 0 (.ci (.at 2 3) (.ci (.li 7) .n0))) (.li 0)) (.li 5) nm5_15) nm5_15))), (.ei .i64 (.ti nm5_14 (.li 0) (.ai 9 0 (.ci nm5_16 (.ci (.li 7) .n0))))), (.ei .i64 (.ti nm5_14 (.li 0) (.ai 9 0 (.ci nm5_17 (.ci (.li 7) .n0))))), (.ef (.tf nm5_14 (.fb .quo (.i2f (.ib .sub .i64 (.ai 9 0 (.ci (.ib .quo .i64 (.at 2 3) (.li 11)) (.ci (.li 33) .n0))) (.li 16))) (.lf 4620693217682128896)) (.lf 0)))]
def nk5_20 : Blk := [(.ei .i64 (.ti nm5_18 (.li 0) (.ti (.vb 7) (.ti (.ic .eql (.ai 9 0 (.ci (.at 2 4) (.ci (.li 7) .n0))) (.li 0)) (.li 5) nm5_19) nm5_19))), (.ei .i64 (.ti nm5_18 (.li 0) (.ai 9 0 (.ci nm5_20 (.ci (.li 8) .n0))))), (.ei .i64 (.ti nm5_18 (.li 0) (.ai 9 0 (.ci nm5_21 (.ci (.li 8) .n0))))), (.ef (.tf nm5_18 (.fb .quo (.i2f (.ib .sub .i64 (.ai 9 0 (.ci (.ib .quo .i64 (.at 2 4) (.li 11)) (.ci (.li 33) .n0))) (.li 16))) (.lf 4620693217682128896)) (.lf 0)))]
def nk5_21 : Blk := [(.ei .i64 (.ti nm5_22 (.li 0) (.ti (.vb 7) (.ti (.ic .eql (.ai 9 0 (.ci (.at 2 5) (.ci (.li 7) .n0))) (.li 0)) (.li 5) nm5_23) nm5_23))), (.ei .i64 (.ti nm5_22 (.li 0) (.ai 9 0 (.ci nm5_24 (.ci (.li 9) .n0))))), (.ei .i64 (.ti nm5_22 (.li 0) (.ai 9 0 (.ci nm5_25 (.ci (.li 9) .n0))))), (.ef (.tf nm5_22 (.fb .quo (.i2f (.ib .sub .i64 (.ai 9 0 (.ci (.ib .quo .i64 (.at 2 5) (.li 11)) (.ci (.li 33) .n0))) (.li 16))) (.lf 4620693217682128896)) (.lf 0)))]
def nk5_22 : Blk := [(.ei .i64 (.ti nm5_28 (.li 0) (.ti (.vb 7) (.ti (.ic .eql (.ai 9 0 (.ci (.at 2 6) (.ci (.li 7) .n0))) (.li 0)) (.li 5) nm5_29) nm5_29))), (.ei .i64 (.ti nm5_28 (.li 0) (.ai 9 0 (.ci nm5_30 (.ci (.li 8) .n0))))), (.ei .i64 (.ti nm5_28 (.li 0) (.ai 9 0 (.ci nm5_31 (.ci (.li 8) .n0))))), (.ef (.tf nm5_28 (.fb .quo (.i2f (.ib .sub .i64 (.ai 9 0 (.ci (.ib .quo .i64 (.at 2 6) (.li 11)) (.ci (.li 33) .n0))) (.li 16))) (.lf 4620693217682128896)) (.lf 0)))]
def nk5_23 : Blk := [(.ei .i64 (.ti nm5_28 (.li 0) (.ti (.vb 7) (.ti (.ic .eql (.ai 9 0 (.ci (.at 2 6) (.ci (.li 7) .n0))) (.li 0)) (.li 5) nm5_29) nm5_29))), (.ei .i64 (.ti nm5_28 (.li 0) (.ai 9 0 (.ci nm5_30 (.ci (.li 9) .n0))))), (.ei .i64 (.ti nm5_28 (.li 0) (.ai 9 0 (.ci nm5_31 (.ci (.li 9) .n0))))), (.ef (.tf nm5_28 (.fb .quo (.i2f (.ib .sub .i64 (.ai 9 0 (.ci (.ib .quo .i64 (.at 2 6) (.li 11)) (.ci (.li 33) .n0))) (.li 16))) (.lf 4620693217682128896)) (.lf 0)))]
def nk5_24 : Blk := [(.ei .i64 (.ti nm5_28 (.li 0) (.ti (.vb 7) (.ti (.ic .eql (.ai 9 0 (.ci (.at 2 6) (.ci (.li 7) .n0))) (.li 0)) (.li 5) nm5_29) nm5_29))), (.ei .i64 (.ti nm5_28 (.li 0) (.ai 9 0 (.ci nm5_30 (.ci (.li 10) .n0))))), (.ei .i64 (.ti nm5_28 (.li 0) (.ai 9 0 (.ci nm5_31 (.ci (.li 10) .n0))))), (.ef (.tf nm5_28 (.fb .quo (.i2f (.ib .sub .i64 (.ai 9 0 (.ci (.ib .quo .i64 (.at 2 6) (.li 11)) (.ci (.li 33) .n0))) (.li 16))) (.lf 4620693217682128896)) (.lf 0)))]
def nb5_0 : Blk := [(.ei .i64 (.ib .sub .i64 (.li 7) nm5_1))]
def nb5_1 : Blk := nk5_0 ++ nk5_1 ++ nk5_2 ++ nk5_3 ++ nk5_4 ++ nk5_5 ++ nk5_6 ++ nk5_7
def nb5_2 : Blk := [(.ef (.fb .quo (.i2f (.ib .sub .i64 (.ai 9 0 (.ci (.ti (.ic .lss (.li 0) (.vl 5)) (.at 5 0) (.li 0)) (.ci (.li 65) .n0))) (.li 32))) (.lf 4620693217682128896)))]
def nb5_3 : Blk := [(.ei .i64 (.ib .sub .i64 (.li 8) nm5_1)), (.ei .i64 (.ib .sub .i64 (.li 8) nm5_26))]
def nb5_4 : Blk := nk5_0 ++ nk5_8 ++ nk5_1 ++ nk5_9 ++ nk5_10 ++ nk5_11 ++ nk5_12 ++ nk5_13 ++ nk5_14
def nb5_5 : Blk := [(.ef (.fb .quo (.i2f (.ib .sub .i64 (.ai 9 0 (.ci (.ti (.ic .lss (.li 0) (.vl 5)) (.at 5 0) (.li 0)) (.ci (.li 65) .n0))) (.li 32))) (.lf 4620693217682128896))), (.ef (.fb .quo (.i2f (.ib .sub .i64 (.ai 9 0 (.ci (.ti (.ic .lss (.li 1) (.vl 5)) (.at 5 1) (.li 1)) (.ci (.li 65) .n0))) (.li 32))) (.lf 4620693217682128896)))]
def nb5_6 : Blk := [(.ei .i64 (.ib .sub .i64 (.li 9) nm5_1)), (.ei .i64 (.ib .sub .i64 (.li 9) nm5_26)), (.ei .i64 (.ib .sub .i64 (.li 9) nm5_27))]
def nb5_7 : Blk := nk5_0 ++ nk5_8 ++ nk5_15 ++ nk5_1 ++ nk5_16 ++ nk5_17 ++ nk5_18 ++ nk5_19 ++ nk5_20 ++ nk5_21
def nb5_8 : Blk := [(.ef (.fb .quo (.i2f (.ib .sub .i64 (.ai 9 0 (.ci (.ti (.ic .lss (.li 0) (.vl 5)) (.at 5 0) (.li 0)) (.ci (.li 65) .n0))) (.li 32))) (.lf 4620693217682128896))), (.ef (.fb .quo (.i2f (.ib .sub .i64 (.ai 9 0 (.ci (.ti (.ic .lss (.li 1) (.vl 5)) (.at 5 1) (.li 1)) (.ci (.li 65) .n0))) (.li 32))) (.lf 4620693217682128896))), (.ef (.fb .quo (.i2f (.ib .sub .i64 (.ai 9 0 (.ci (.ti (.ic .lss (.li 2) (.vl 5)) (.at 5 2) (.li 2)) (.ci (.li 65) .n0))) (.li 32))) (.lf 4620693217682128896)))]
def nb5_9 : Blk := [(.ei .i64 (.ib .sub .i64 (.li 8) nm5_1))]
def nb5_10 : Blk := nk5_0 ++ nk5_1 ++ nk5_2 ++ nk5_3 ++ nk5_4 ++ nk5_5 ++ nk5_6 ++ nk5_7 ++ nk5_22
def nb5_11 : Blk := [(.ei .i64 (.ib .sub .i64 (.li 9) nm5_1)), (.ei .i64 (.ib .sub .i64 (.li 9) nm5_26))]
def nb5_12 : Blk := nk5_0 ++ nk5_8 ++ nk5_1 ++ nk5_9 ++ nk5_10 ++ nk5_11 ++ nk5_12 ++ nk5_13 ++ nk5_14 ++ nk5_23
def nb5_13 : Blk := [(.ei .i64 (.ib .sub .i64 (.li 10) nm5_1)), (.ei .i64 (.ib .sub .i64 (.li 10) nm5_26)), (.ei .i64 (.ib .sub .i64 (.li 10) nm5_27))]
def nb5_14 : Blk := nk5_0 ++ nk5_8 ++ nk5_15 ++ nk5_1 ++ nk5_16 ++ nk5_17 ++ nk5_18 ++ nk5_19 ++ nk5_20 ++ nk5_21 ++ nk5_24
def nb5_15 : Blk := [(.ei .i64 (.ib .sub .i64 (.li 9) nm5_1))]
def nb5_16 : Blk := nk5_0 ++ nk5_1 ++ nk5_2 ++ nk5_3 ++ nk5_4 ++ nk5_5 ++ nk5_6 ++ nk5_7 ++ nk5_22 ++ [(.ei .i64 (.ti nm5_32 (.li 0) (.ti (.vb 7) (.ti (.ic .eql (.ai 9 0 (.ci (.at 2 7) (.ci (.li 7) .n0))) (.li 0)) (.li 5) nm5_33) nm5_33))), (.ei .i64 (.ti nm5_32 (.li 0) (.ai 9 0 (.ci nm5_34 (.ci (.li 9) .n0))))), (.ei .i64 (.ti nm5_32 (.li 0) (.ai 9 0 (.ci nm5_35 (.ci (.li 9) .n0))))), (.ef (.tf nm5_32 (.fb .quo (.i2f (.ib .sub .i64 (.ai 9 0 (.ci (.ib .quo .i64 (.at 2 7) (.li 11)) (.ci (.li 33) .n0))) (.li 16))) (.lf 4620693217682128896)) (.lf 0)))]
def nb5_17 : Blk := [(.ei .i64 (.ib .sub .i64 (.li 10) nm5_1)), (.ei .i64 (.ib .sub .i64 (.li 10) nm5_26))]
def nb5_18 : Blk := nk5_0 ++ nk5_8 ++ nk5_1 ++ nk5_9 ++ nk5_10 ++ nk5_11 ++ nk5_12 ++ nk5_13 ++ nk5_14 ++ nk5_23 ++ [(.ei .i64 (.ti nm5_32 (.li 0) (.ti (.vb 7) (.ti (.ic .eql (.ai 9 0 (.ci (.at 2 7) (.ci (.li 7) .n0))) (.li 0)) (.li 5) nm5_33) nm5_33))), (.ei .i64 (.ti nm5_32 (.li 0) (.ai 9 0 (.ci nm5_34 (.ci (.li 10) .n0))))), (.ei .i64 (.ti nm5_32 (.li 0) (.ai 9 0 (.ci nm5_35 (.ci (.li 10) .n0))))), (.ef (.tf nm5_32 (.fb .quo (.i2f (.ib .sub .i64 (.ai 9 0 (.ci (.ib .quo .i64 (.at 2 7) (.li 11)) (.ci (.li 33) .n0))) (.li 16))) (.lf 4620693217682128896)) (.lf 0)))]
def nb5_19 : Blk := [(.ei .i64 (.ib .sub .i64 (.li 11) nm5_1)), (.ei .i64 (.ib .sub .i64 (.li 11) nm5_26)), (.ei .i64 (.ib .sub .i64 (.li 11) nm5_27))]
def nb5_20 : Blk := nk5_0 ++ nk5_8 ++ nk5_15 ++ nk5_1 ++ nk5_16 ++ nk5_17 ++ nk5_18 ++ nk5_19 ++ nk5_20 ++ nk5_21 ++ nk5_24 ++ [(.ei .i64 (.ti nm5_32 (.li 0) (.ti (.vb 7) (.ti (.ic .eql (.ai 9 0 (.ci (.at 2 7) (.ci (.li 7) .n0))) (.li 0)) (.li 5) nm5_33) nm5_33))), (.ei .i64 (.ti nm5_32 (.li 0) (.ai 9 0 (.ci nm5_34 (.ci (.li 11) .n0))))), (.ei .i64 (.ti nm5_32 (.li 0) (.ai 9 0 (.ci nm5_35 (.ci (.li 11) .n0))))), (.ef (.tf nm5_32 (.fb .quo (.i2f (.ib .sub .i64 (.ai 9 0 (.ci (.ib .quo .i64 (.at 2 7) (.li 11)) (.ci (.li 33) .n0))) (.li 16))) (.lf 4620693217682128896)) (.lf 0)))]
def n1_0_6m0 : Memo := mkM [(.ag [(.i .i64 1), (.sl 49 0 8 (.u 4)), (.sl 48 0 1 (.u 1))]), (.c (.sl 75 0 1 (.u 1)))] [(48, nb5_0), (49, nb5_1), (75, nb5_2)] 142 (.c (.sl 144 0 1 (.n 1))) (144, [(.ef (.vf 272))]) 183
theorem n1_0_6o0 : mok [] (lenL 2 6 8 ++ []) nN1 51 n1_0_6m0 = true := by kernel_rfl
def n1_0_6ms : List (Nat × List Memo) := [(51, [n1_0_6m0])]
theorem n1_0_6mo : AllMem (memRun [] (lenL 2 6 8 ++ []) nN1) n1_0_6ms := ⟨⟨n1_0_6o0, trivial⟩, trivial⟩
theorem n1_0_6 : lawRunM 3 10 200 [.i, .i, .q, .i, .f, .q, .i, .b] [(0, 5, 1), (1, 3, 0)] (lenL 2 6 8 ++ []) nN1 n1_0_6ms = true := by kernel_rfl
def n1_1_6m0 : Memo := mkM [(.ag [(.i .i64 2), (.sl 57 0 9 (.u 4)), (.sl 56 0 2 (.u 1))]), (.c (.sl 87 0 2 (.u 1)))] [(56, nb5_3), (57, nb5_4), (87, nb5_5)] 161 (.c (.sl 163 0 2 (.n 2))) (163, [(.ef (.vf 281)), (.ef (.vf 282))]) 206
theorem n1_1_6o0 : mok [] (lenL 2 6 8 ++ []) nN1 51 n1_1_6m0 = true := by kernel_rfl
def n1_1_6ms : List (Nat × List Memo) := [(51, [n1_1_6m0])]
theorem n1_1_6mo : AllMem (memRun [] (lenL 2 6 8 ++ []) nN1) n1_1_6ms := ⟨⟨n1_1_6o0, trivial⟩, trivial⟩
theorem n1_1_6 : lawRunM 3 10 200 [.i, .i, .q, .i, .f, .q, .i, .b] [(0, 5, 1), (1, 3, 1)] (lenL 2 6 8 ++ []) nN1 n1_1_6ms = true := by kernel_rfl
def n1_2_6m0 : Memo := mkM [(.ag [(.i .i64 3), (.sl 65 0 10 (.u 4)), (.sl 64 0 3 (.u 1))]), (.c (.sl 99 0 3 (.u 1)))] [(64, nb5_6), (65, nb5_7), (99, nb5_8)] 180 (.c (.sl 182 0 3 (.n 3))) (182, [(.ef (.vf 291)), (.ef (.vf 292)), (.ef (.vf 293))]) 229
theorem n1_2_6o0 : mok [] (lenL 2 6 8 ++ []) nN1 51 n1_2_6m0 = true := by kernel_rfl
def n1_2_6ms : List (Nat × List Memo) := [(51, [n1_2_6m0])]
theorem n1_2_6mo : AllMem (memRun [] (lenL 2 6 8 ++ []) nN1) n1_2_6ms := ⟨⟨n1_2_6o0, trivial⟩, trivial⟩
theorem n1_2_6 : lawRunM 3 10 200 [.i, .i, .q, .i, .f, .q, .i, .b] [(0, 5, 1), (1, 3, 2)] (lenL 2 6 8 ++ []) nN1 n1_2_6ms = true := by kernel_rfl
def n1_0_7m0 : Memo := mkM [(.ag [(.i .i64 1), (.sl 49 0 9 (.u 4)), (.sl 48 0 1 (.u 1))]), (.c (.sl 78 0 1 (.u 1)))] [(48, nb5_9), (49, nb5_10), (78, nb5_2)] 146 (.c (.sl 148 0 1 (.n 1))) (148, [(.ef (.vf 303))]) 191
theorem n1_0_7o0 : mok [] (lenL 2 7 8 ++ []) nN1 51 n1_0_7m0 = true := by kernel_rfl
def n1_0_7ms : List (Nat × List Memo) := [(51, [n1_0_7m0])]
theorem n1_0_7mo : AllMem (memRun [] (lenL 2 7 8 ++ []) nN1) n1_0_7ms := ⟨⟨n1_0_7o0, trivial⟩, trivial⟩
theorem n1_0_7 : lawRunM 3 10 200 [.i, .i, .q, .i, .f, .q, .i, .b] [(0, 5, 1), (1, 3, 0)] (lenL 2 7 8 ++ []) nN1 n1_0_7ms = true := by kernel_rfl
def n1_1_7m0 : Memo := mkM [(.ag [(.i .i64 2), (.sl 57 0 10 (.u 4)), (.sl 56 0 2 (.u 1))]), (.c (.sl 90 0 2 (.u 1)))] [(56, nb5_11), (57, nb5_12), (90, nb5_5)] 165 (.c (.sl 167 0 2 (.n 2))) (167, [(.ef (.vf 312)), (.ef (.vf 313))]) 214
theorem n1_1_7o0 : mok [] (lenL 2 7 8 ++ []) nN1 51 n1_1_7m0 = true := by kernel_rfl
def n1_1_7ms : List (Nat × List Memo) := [(51, [n1_1_7m0])]
theorem n1_1_7mo : AllMem (memRun [] (lenL 2 7 8 ++ []) nN1) n1_1_7ms := ⟨⟨n1_1_7o0, trivial⟩, trivial⟩
theorem n1_1_7 : lawRunM 3 10 200 [.i, .i, .q, .i, .f, .q, .i, .b] [(0, 5, 1), (1, 3, 1)] (lenL 2 7 8 ++ []) nN1 n1_1_7ms = true := by kernel_rfl
def n1_2_7m0 : Memo := mkM [(.ag [(.i .i64 3), (.sl 65 0 11 (.u 4)), (.sl 64 0 3 (.u 1))]), (.c (.sl 102 0 3 (.u 1)))] [(64, nb5_13), (65, nb5_14), (102, nb5_8)] 184 (.c (.sl 186 0 3 (.n 3))) (186, [(.ef (.vf 322)), (.ef (.vf 323)), (.ef (.vf 324))]) 237
theorem n1_2_7o0 : mok [] (lenL 2 7 8 ++ []) nN1 51 n1_2_7m0 = true := by kernel_rfl
def n1_2_7ms : List (Nat × List Memo) := [(51, [n1_2_7m0])]
theorem n1_2_7mo : AllMem (memRun [] (lenL 2 7 8 ++ []) nN1) n1_2_7ms := ⟨⟨n1_2_7o0, trivial⟩, trivial⟩
theorem n1_2_7 : lawRunM 3 10 200 [.i, .i, .q, .i, .f, .q, .i, .b] [(0, 5, 1), (1, 3, 2)] (lenL 2 7 8 ++ []) nN1 n1_2_7ms = true := by kernel_rfl
def n1_0_8m0 : Memo := mkM [(.ag [(.i .i64 1), (.sl 49 0 10 (.u 4)), (.sl 48 0 1 (.u 1))]), (.c (.sl 81 0 1 (.u 1)))] [(48, nb5_15), (49, nb5_16), (81, nb5_2)] 150 (.c (.sl 152 0 1 (.n 1))) (152, [(.ef (.vf 334))]) 199
theorem n1_0_8o0 : mok [] (lenL 2 8 8 ++ []) nN1 51 n1_0_8m0 = true := by kernel_rfl
def n1_0_8ms : List (Nat × List Memo) := [(51, [n1_0_8m0])]
theorem n1_0_8mo : AllMem (memRun [] (lenL 2 8 8 ++ []) nN1) n1_0_8ms := ⟨⟨n1_0_8o0, trivial⟩, trivial⟩
theorem n1_0_8 : lawRunM 3 10 200 [.i, .i, .q, .i, .f, .q, .i, .b] [(0, 5, 1), (1, 3, 0)] (lenL 2 8 8 ++ []) nN1 n1_0_8ms = true := by kernel_rfl
def n1_1_8m0 : Memo := mkM [(.ag [(.i .i64 2), (.sl 57 0 11 (.u 4)), (.sl 56 0 2 (.u 1))]), (.c (.sl 93 0 2 (.u 1)))] [(56, nb5_17), (57, nb5_18), (93, nb5_5)] 169 (.c (.sl 171 0 2 (.n 2))) (171, [(.ef (.vf 343)), (.ef (.vf 344))]) 222
theorem n1_1_8o0 : mok [] (lenL 2 8 8 ++ []) nN1 51 n1_1_8m0 = true := by kernel_rfl
def n1_1_8ms : List (Nat × List Memo) := [(51, [n1_1_8m0])]
theorem n1_1_8mo : AllMem (memRun [] (lenL 2 8 8 ++ []) nN1) n1_1_8ms := ⟨⟨n1_1_8o0, trivial⟩, trivial⟩
theorem n1_1_8 : lawRunM 3 10 200 [.i, .i, .q, .i, .f, .q, .i, .b] [(0, 5, 1), (1, 3, 1)] (lenL 2 8 8 ++ []) nN1 n1_1_8ms = true := by kernel_rfl
def n1_2_8m0 : Memo := mkM [(.ag [(.i .i64 3), (.sl 65 0 12 (.u 4)), (.sl 64 0 3 (.u 1))]), (.c (.sl 105 0 3 (.u 1)))] [(64, nb5_19), (65, nb5_20), (105, nb5_8)] 188 (.c (.sl 190 0 3 (.n 3))) (190, [(.ef (.vf 353)), (.ef (.vf 354)), (.ef (.vf 355))]) 245
theorem n1_2_8o0 : mok [] (lenL 2 8 8 ++ []) nN1 51 n1_2_8m0 = true := by kernel_rfl
def n1_2_8ms : List (Nat × List Memo) := [(51, [n1_2_8m0])]
theorem n1_2_8mo : AllMem (memRun [] (lenL 2 8 8 ++ []) nN1) n1_2_8ms := ⟨⟨n1_2_8o0, trivial⟩, trivial⟩
theorem n1_2_8 : lawRunM 3 10 200 [.i, .i, .q, .i, .f, .q, .i, .b] [(0, 5, 1), (1, 3, 2)] (lenL 2 8 8 ++ []) nN1 n1_2_8ms = true := by kernel_rfl
end Go.Proofs.Ytkncchofgehnpaa
