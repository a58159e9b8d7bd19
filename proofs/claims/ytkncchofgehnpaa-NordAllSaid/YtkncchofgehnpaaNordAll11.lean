/-
  'NordAll': runs of it, part 11.
-/
import Derived.Test.YtkncchofgehnpaaNordAllt3
namespace Go.Proofs.Ytkncchofgehnpaa
open Go.RowKit Ex
set_option maxRecDepth 1000000
set_option maxHeartbeats 100000000
def nm11_0 : E := (.ib .quo .i64 (.vi 1) (.li 3))
def nm11_1 : E := (.ai 9 0 (.ci (.ib .add .i64 nm11_0 (.li 0)) (.ci (.li 3) .n0)))
def nm11_2 : E := (.ic .eql (.ai 9 0 (.ci (.at 2 0) (.ci (.li 11) .n0))) (.li 0))
def nm11_3 : E := (.ib .add .i64 (.li 2) (.ai 9 0 (.ci (.at 2 0) (.ci (.li 3) .n0))))
def nm11_4 : E := (.ib .quo .i64 (.at 2 0) (.li 4))
def nm11_5 : E := (.ib .quo .i64 (.at 2 0) (.li 40))
def nm11_6 : E := (.ic .eql (.ai 9 0 (.ci (.at 2 1) (.ci (.li 11) .n0))) (.li 0))
def nm11_7 : E := (.ib .add .i64 (.li 2) (.ai 9 0 (.ci (.at 2 1) (.ci (.li 3) .n0))))
def nm11_8 : E := (.ib .quo .i64 (.at 2 1) (.li 4))
def nm11_9 : E := (.ib .quo .i64 (.at 2 1) (.li 40))
def nm11_10 : E := (.ic .eql (.ai 9 0 (.ci (.at 2 2) (.ci (.li 11) .n0))) (.li 0))
def nm11_11 : E := (.ib .add .i64 (.li 2) (.ai 9 0 (.ci (.at 2 2) (.ci (.li 3) .n0))))
def nm11_12 : E := (.ib .quo .i64 (.at 2 2) (.li 4))
def nm11_13 : E := (.ib .quo .i64 (.at 2 2) (.li 40))
def nm11_14 : E := (.ic .eql (.ai 9 0 (.ci (.at 2 3) (.ci (.li 11) .n0))) (.li 0))
def nm11_15 : E := (.ib .add .i64 (.li 2) (.ai 9 0 (.ci (.at 2 3) (.ci (.li 3) .n0))))
def nm11_16 : E := (.ib .quo .i64 (.at 2 3) (.li 4))
def nm11_17 : E := (.ib .quo .i64 (.at 2 3) (.li 40))
def nm11_18 : E := (.ic .eql (.ai 9 0 (.ci (.at 2 4) (.ci (.li 11) .n0))) (.li 0))
def nm11_19 : E := (.ib .add .i64 (.li 2) (.ai 9 0 (.ci (.at 2 4) (.ci (.li 3) .n0))))
def nm11_20 : E := (.ib .quo .i64 (.at 2 4) (.li 4))
def nm11_21 : E := (.ib .quo .i64 (.at 2 4) (.li 40))
def nm11_22 : E := (.ic .eql (.ai 9 0 (.ci (.at 2 5) (.ci (.li 11) .n0))) (.li 0))
def nm11_23 : E := (.ib .add .i64 (.li 2) (.ai 9 0 (.ci (.at 2 5) (.ci (.li 3) .n0))))
def nm11_24 : E := (.ib .quo .i64 (.at 2 5) (.li 4))
def nm11_25 : E := (.ib .quo .i64 (.at 2 5) (.li 40))
def nm11_26 : E := (.ai 9 0 (.ci (.ib .add .i64 nm11_0 (.li 1)) (.ci (.li 3) .n0)))
def nm11_27 : E := (.ai 9 0 (.ci (.ib .add .i64 nm11_0 (.li 2)) (.ci (.li 3) .n0)))
def nm11_28 : E := (.ic .eql (.ai 9 0 (.ci (.at 2 6) (.ci (.li 11) .n0))) (.li 0))
def nm11_29 : E := (.ib .add .i64 (.li 2) (.ai 9 0 (.ci (.at 2 6) (.ci (.li 3) .n0))))
def nm11_30 : E := (.ib .quo .i64 (.at 2 6) (.li 4))
def nm11_31 : E := (.ib .quo .i64 (.at 2 6) (.li 40))
def nm11_32 : E := (.ic .eql (.ai 9 0 (.ci (.at 2 7) (.ci (.li 11) .n0))) (.li 0))
def nm11_33 : E := (.ib .add .i64 (.li 2) (.ai 9 0 (.ci (.at 2 7) (.ci (.li 3) .n0))))
def nm11_34 : E := (.ib .quo .i64 (.at 2 7) (.li 4))
def nm11_35 : E := (.ib .quo .i64 (.at 2 7) (.li 40))
def nk11_0 : Blk := [(.i .i64 1), (.i .i64 0), (.i .i64 0), (.f 0)]
def nk11_1 : Blk := [(.i .i64 0), (.i .i64 0), (.i .i64 0), (.ef (.fb .quo (.i2f (.ib .sub .i64 (.ai 9 0 (.ci (.vi 1) (.ci (.li 17) .n0))) (.li 8))) (.lf 4616189618054758400)))]
def nk11_2 : Blk := [(.ei .i64 (.ti nm11_2 (.li 0) (.ti (.vb 7) (.ti (.ic .eql (.ai 9 0 (.ci (.at 2 0) (.ci (.li 7) .n0))) (.li 0)) (.li 5) nm11_3) nm11_3))), (.ei .i64 (.ti nm11_2 (.li 0) (.ai 9 0 (.ci nm11_4 (.ci (.li 2) .n0))))), (.ei .i64 (.ti nm11_2 (.li 0) (.ai 9 0 (.ci nm11_5 (.ci (.li 2) .n0))))), (.ef (.tf nm11_2 (.fb .quo (.i2f (.ib .sub .i64 (.ai 9 0 (.ci (.ib .quo .i64 (.at 2 0) (.li 11)) (.ci (.li 33) .n0))) (.li 16))) (.lf 4620693217682128896)) (.lf 0)))]
def nk11_3 : Blk := [(.ei .i64 (.ti nm11_6 (.li 0) (.ti (.vb 7) (.ti (.ic .eql (.ai 9 0 (.ci (.at 2 1) (.ci (.li 7) .n0))) (.li 0)) (.li 5) nm11_7) nm11_7))), (.ei .i64 (.ti nm11_6 (.li 0) (.ai 9 0 (.ci nm11_8 (.ci (.li 3) .n0))))), (.ei .i64 (.ti nm11_6 (.li 0) (.ai 9 0 (.ci nm11_9 (.ci (.li 3) .n0))))), (.ef (.tf nm11_6 (.fb .quo (.i2f (.ib .sub .i64 (.ai 9 0 (.ci (.ib .quo .i64 (.at 2 1) (.li 11)) (.ci (.li 33) .n0))) (.li 16))) (.lf 4620693217682128896)) (.lf 0)))]
def nk11_4 : Blk := [(.ei .i64 (.ti nm11_10 (.li 0) (.ti (.vb 7) (.ti (.ic .eql (.ai 9 0 (.ci (.at 2 2) (.ci (.li 7) .n0))) (.li 0)) (.li 5) nm11_11) nm11_11))), (.ei .i64 (.ti nm11_10 (.li 0) (.ai 9 0 (.ci nm11_12 (.ci (.li 4) .n0))))), (.ei .i64 (.ti nm11_10 (.li 0) (.ai 9 0 (.ci nm11_13 (.ci (.li 4) .n0))))), (.ef (.tf nm11_10 (.fb .quo (.i2f (.ib .sub .i64 (.ai 9 0 (.ci (.ib .quo .i64 (.at 2 2) (.li 11)) (.ci (.li 33) .n0))) (.li 16))) (.lf 4620693217682128896)) (.lf 0)))]
def nk11_5 : Blk := [(.ei .i64 (.ti nm11_14 (.li 0) (.ti (.vb 7) (.ti (.ic .eql (.ai 9 0 (.ci (.at 2 3) (.ci (.li 7) .n0))) (.li 0)) (.li 5) nm11_15) nm11_15))), (.ei .i64 (.ti nm11_14 (.li 0) (.ai 9 0 (.ci nm11_16 (.ci (.li 5) .n0))))), (.ei .i64 (.ti nm11_14 (.li 0) (.ai 9 0 (.ci nm11_17 (.ci (.li 5) .n0))))), (.ef (.tf nm11_14 (.fb .quo (.i2f (.ib .sub .i64 (.ai 9 0 (.ci (.ib .quo .i64 (.at 2 3) (.li 11)) (.ci (.li 33) .n0))) (.li 16))) (.lf 4620693217682128896)) (.lf 0)))]
def nk11_6 : Blk := [(.ei .i64 (.ti nm11_18 (.li 0) (.ti (.vb 7) (.ti (.ic .eql (.ai 9 0 (.ci (.at 2 4) (.ci (.li 7) .n0))) (.li 0)) (.li 5) nm11_19) nm11_19))), (.ei .i64 (.ti nm11_18 (.li 0) (.ai 9 0 (.ci nm11_20 (.ci (.li 6) .n0))))), (.ei .i64 (.ti nm11_18 (.li 0) (.ai 9 0 (.ci nm11_21 (.ci (.li 6) .n0))))), (.ef (.tf nm11_18 (.fb .quo (.i2f (.ib .sub .i64 (.ai 9 0 (.ci (.ib .quo .i64 (.at 2 4) (.li 11)) (.ci (.li 33) .n0))) (.li 16))) (.lf 4620693217682128896)) (.lf 0)))]
def nk11_7 : Blk := [(.ei .i64 (.ti nm11_22 (.li 0) (.ti (.vb 7) (.ti (.ic .eql (.ai 9 0 (.ci (.at 2 5) (.ci (.li 7) .n0))) (.li 0)) (.li 5) nm11_23) nm11_23))), (.ei .i64 (.ti nm11_22 (.li 0) (.ai 9 0 (.ci nm11_24 (.ci (.li 7) .n0))))), (.ei .i64 (.ti nm11_22 (.li 0) (.ai 9 0 (.ci nm11_25 (.ci (.li 7) .n0))))), (.ef (.tf nm11_22 (.fb .quo (.i2f (.ib .sub .i64 (.ai 9 0 (.ci (.ib .quo .i64 (.at 2 5) (.li 11)) (.ci (.li 33) .n0))) (.li 16))) (.lf 4620693217682128896)) (.lf 0)))]
def nk11_8 : Blk := [(.i .i64 1), (.i .i64 1), (.i .i64 0), (.f 0)]
def nk11_9 : Blk := [(.ei .i64 (.ti nm11_2 (.li 0) (.ti (.vb 7) (.ti (.ic .eql (.ai 9 0 (.ci (.at 2 0) (.ci (.li 7) .n0))) (.li 0)) (.li 5) nm11_3) nm11_3))), (.ei .i64 (.ti nm11_2 (.li 0) (.ai 9 0 (.ci nm11_4 (.ci (.li 3) .n0))))), (.ei .i64 (.ti nm11_2 (.li 0) (.ai 9 0 (.ci nm11_5 (.ci (.li 3) .n0))))), (.ef (.tf nm11_2 (.fb .quo (.i2f (.ib .sub .i64 (.ai 9 0 (.ci (.ib .quo .i64 (.at 2 0) (.li 11)) (.ci (.li 33) .n0))) (.li 16))) (.lf 4620693217682128896)) (.lf 0)))]
def nk11_10 : Blk := [(.ei .i64 (.ti nm11_6 (.li 0) (.ti (.vb 7) (.ti (.ic .eql (.ai 9 0 (.ci (.at 2 1) (.ci (.li 7) .n0))) (.li 0)) (.li 5) nm11_7) nm11_7))), (.ei .i64 (.ti nm11_6 (.li 0) (.ai 9 0 (.ci nm11_8 (.ci (.li 4) .n0))))), (.ei .i64 (.ti nm11_6 (.li 0) (.ai 9 0 (.ci nm11_9 (.ci (.li 4) .n0))))), (.ef (.tf nm11_6 (.fb .quo (.i2f (.ib .sub .i64 (.ai 9 0 (.ci (.ib .quo .i64 (.at 2 1) (.li 11)) (.ci (.li 33) .n0))) (.li 16))) (.lf 4620693217682128896)) (.lf 0)))]
def nk11_11 : Blk := [(.ei .i64 (.ti nm11_10 (.li 0) (.ti (.vb 7) (.ti (.ic .eql (.ai 9 0 (.ci (.at 2 2) (.ci (.li 7) .n0))) (.li 0)) (.li 5) nm11_11) nm11_11))), (.ei .i64 (.ti nm11_10 (.li 0) (.ai 9 0 (.ci nm11_12 (.ci (.li 5) .n0))))), (.ei .i64 (.ti nm11_10 (.li 0) (.ai 9 0 (.ci nm11_13 (.ci (.li 5) .n0))))), (.ef (.tf nm11_10 (.fb .quo (.i2f (.ib .sub .i64 (.ai 9 0 (.ci (.ib .quo .i64 (.at 2 2) (.li 11)) (.ci (.li 33) .n0))) (.li 16))) (.lf 4620693217682128896)) (.lf 0)))]
def nk11_12 : Blk := [(.ei .i64 (.ti nm11_14 (.li 0) (.ti (.vb 7) (.ti (.ic .eql (.ai 9 0 (.ci (.at 2 3) (.ci (.li 7) .n0))) (.li 0)) (.li 5) nm11_15) nm11_15))), (.ei .i64 (.ti nm11_14 (.li 0) (.ai 9 0 (.ci nm11_16 (.ci (.li 6) .n0))))), (.ei .i64 (.ti nm11_14 (.li 0) (.ai 9 0 (.ci nm11_17 (.ci (.li 6) .n0))))), (.ef (.tf nm11_14 (.fb .quo (.i2f (.ib .sub .i64 (.ai 9 0 (.ci (.ib .quo .i64 (.at 2 3) (.li 11)) (.ci (.li 33) .n0))) (.li 16))) (.lf 4620693217682128896)) (.lf 0)))]
def nk11_13 : Blk := [(.ei .i64 (.ti nm11_18 (.li 0) (.ti (.vb 7) (.ti (.ic .eql (.ai 9 0 (.ci (.at 2 4) (.ci (.li 7) .n0))) (.li 0)) (.li 5) nm11_19) nm11_19))), (.ei .i64 (.ti nm11_18 (.li 0) (.ai 9 0 (.ci nm11_20 (.ci (.li 7) .n0))))), (.ei .i64 (.ti nm11_18 (.li 0) (.ai 9 0 (.ci nm11_21 (.ci (.li 7) .n0))))), (.ef (.tf nm11_18 (.fb .quo (.i2f (.ib .sub .i64 (.ai 9 0 (.ci (.ib .quo .i64 (.at 2 4) (.li 11)) (.ci (.li 33) .n0))) (.li 16))) (.lf 4620693217682128896)) (.lf 0)))]
def nk11_14 : Blk := [(.ei .i64 (.ti nm11_22 (.li 0) (.ti (.vb 7) (.ti (.ic .eql (.ai 9 0 (.ci (.at 2 5) (.ci (.li 7) .n0))) (.li 0)) (.li 5) nm11_23) nm11_23))), (.ei .i64 (.ti nm11_22 (.li 0) (.ai 9 0 (.ci nm11_24 (.ci (.li 8) .n0))))), (.ei .i64 (.ti nm11_22 (.li 0) (.ai 9 0 (.ci nm11_25 (.ci (.li 8) .n0))))), (.ef (.tf nm11_22 (.fb .quo (.i2f (.ib .sub .i64 (.ai 9 0 (.ci (.ib .quo .i64 (.at 2 5) (.li 11)) (.ci (.li 33) .n0))) (.li 16))) (.lf 4620693217682128896)) (.lf 0)))]
def nk11_15 : Blk := [(.i .i64 1), (.i .i64 2), (.i .i64 0), (.f 0)]
def nk11_16 : Blk := [(.ei .i64 (.ti nm11_2 (.li 0) (.ti (.vb 7) (.ti (.ic .eql (.ai 9 0 (.ci (.at 2 0) (.ci (.li 7) .n0))) (.li 0)) (.li 5) nm11_3) nm11_3))), (.ei .i64 (.ti nm11_2 (.li 0) (.ai 9 0 (.ci nm11_4 (.ci (.li 4) .n0))))), (.ei .i64 (.ti nm11_2 (.li 0) (.ai 9 0 (.ci nm11_5 (.ci (.li 4) .n0))))), (.ef (.tf nm11_2 (.fb .quo (.i2f (.ib .sub .i64 (.ai 9 0 (.ci (.ib .quo .i64 (.at 2 0) (.li 11)) (.ci (.li 33) .n0))) (.li 16))) (.lf 4620693217682128896)) (.lf 0)))]
def nk11_17 : Blk := [(.ei .i64 (.ti nm11_6 (.li 0) (.ti (.vb 7) (.ti (.ic .eql (.ai 9 0 (.ci (.at 2 1) (.ci (.li 7) .n0))) (.li 0)) (.li 5) nm11_7) nm11_7))), (.ei .i64 (.ti nm11_6 (.li 0) (.ai 9 0 (.ci nm11_8 (.ci (.li 5) .n0))))), (.ei .i64 (.ti nm11_6 (.li 0) (.ai 9 0 (.ci nm11_9 (.ci (.li 5) .n0))))), (.ef (.tf nm11_6 (.fb .quo (.i2f (.ib .sub .i64 (.ai 9 0 (.ci (.ib .quo .i64 (.at 2 1) (.li 11)) (.ci (.li 33) .n0))) (.li 16))) (.lf 4620693217682128896)) (.lf 0)))]
def nk11_18 : Blk := [(.ei .i64 (.ti nm11_10 (.li 0) (.ti (.vb 7) (.ti (.ic .eql (.ai 9 0 (.ci (.at 2 2) (.ci (.li 7) .n0))) (.li 0)) (.li 5) nm11_11) nm11_11))), (.ei .i64 (.ti nm11_10 (.li 0) (.ai 9 0 (.ci nm11_12 (.ci (.li 6) .n0))))), (.ei .i64 (.ti nm11_10 (.li 0) (.ai 9 0 (.ci nm11_13 (.ci (.li 6) .n0))))), (.ef (.tf nm11_10 (.fb .quo (.i2f (.ib .sub .i64 (.ai 9 0 (.ci (.ib .quo .i64 (.at 2 2) (.li 11)) (.ci (.li 33) .n0))) (.li 16))) (.lf 4620693217682128896)) (.lf 0)))]
def nk11_19 : Blk := [(.ei .i64 (.ti nm11_14 (.li 0) (.ti (.vb 7) (.ti (.ic .eql (.ai 9 0 (.ci (.at 2 3) (.ci (.li 7) .n0))) (.li 0)) (.li 5) nm11_15) nm11_15))), (.ei .i64 (.ti nm11_14 (.li 0) (.ai 9 0 (.ci nm11_16 (.ci (.li 7) .n0))))), (.ei .i64 (.ti nm11_14 (.li 0) (.ai 9 0 (.ci nm11_17 (.ci (.li 7) .n0))))), (.ef (.tf nm11_14 (.fb .quo (.i2f (.ib .sub .i64 (.ai 9 0 (.ci (.ib .quo .i64 (.at 2 3) (.li 11)) (.ci (.li 33) .n0))) (.li 16))) (.lf 4620693217682128896)) (.lf 0)))]
def nk11_20 : Blk := [(.ei .i64 (.ti nm11_18 (.li 0) (.ti (.vb 7) (.ti (.ic .eql (.ai 9 0 (.ci (.at 2 4) (.ci (.li 7) .n0))) (.li 0)) (.li 5) nm11_19) nm11_19))), (.ei .i64 (.ti nm11_18 (.li 0) (.ai 9 0 (.ci nm11_20 (.ci (.li 8) .n0))))), (.ei .i64 (.ti nm11_18 (.li 0) (.ai 9 0 (.ci nm11_21 (.ci (.li 8) .n0))))), (.ef (.tf nm11_18 (.fb .quo (.i2f (.ib .sub .i64 (.ai 9 0 (.ci (.ib .quo .i64 (.at 2 4) (.li 11)) (.ci (.li 33) .n0))) (.li 16))) (.lf 4620693217682128896)) (.lf 0)))]
def nk11_21 : Blk := [(.ei .i64 (.ti nm11_22 (.li 0) (.ti (.vb 7) (.ti (.ic .eql (.ai 9 0 (.ci (.at 2 5) (.ci (.li 7) .n0))) (.li 0)) (.li 5) nm11_23) nm11_23))), (.ei .i64 (.ti nm11_22 (.li 0) (.ai 9 0 (.ci nm11_24 (.ci (.li 9) .n0))))), (.ei .i64 (.ti nm11_22 (.li 0) (.ai 9 0 (.ci nm11_25 (.ci (.li 9) .n0))))), (.ef (.tf nm11_22 (.fb .quo (.i2f (.ib .sub .i64 (.ai 9 0 (.ci (.ib .quo .i64 (.at 2 5) (.li 11)) (.ci (.li 33) .n0))) (.li 16))) (.lf 4620693217682128896)) (.lf 0)))]
def nk11_22 : Blk := [(.ei .i64 (.ti nm11_28 (.li 0) (.ti (.vb 7) (.ti (.ic .eql (.ai 9 0 (.ci (.at 2 6) (.ci (.li 7) .n0))) (.li 0)) (.li 5) nm11_29) nm11_29))), (.ei .i64 (.ti nm11_28 (.li 0) (.ai 9 0 (.ci nm11_30 (.ci (.li 8) .n0))))), (.ei .i64 (.ti nm11_28 (.li 0) (.ai 9 0 (.ci nm11_31 (.ci (.li 8) .n0))))), (.ef (.tf nm11_28 (.fb .quo (.i2f (.ib .sub .i64 (.ai 9 0 (.ci (.ib .quo .i64 (.at 2 6) (.li 11)) (.ci (.li 33) .n0))) (.li 16))) (.lf 4620693217682128896)) (.lf 0)))]
def nk11_23 : Blk := [(.ei .i64 (.ti nm11_28 (.li 0) (.ti (.vb 7) (.ti (.ic .eql (.ai 9 0 (.ci (.at 2 6) (.ci (.li 7) .n0))) (.li 0)) (.li 5) nm11_29) nm11_29))), (.ei .i64 (.ti nm11_28 (.li 0) (.ai 9 0 (.ci nm11_30 (.ci (.li 9) .n0))))), (.ei .i64 (.ti nm11_28 (.li 0) (.ai 9 0 (.ci nm11_31 (.ci (.li 9) .n0))))), (.ef (.tf nm11_28 (.fb .quo (.i2f (.ib .sub .i64 (.ai 9 0 (.ci (.ib .quo .i64 (.at 2 6) (.li 11)) (.ci (.li 33) .n0))) (.li 16))) (.lf 4620693217682128896)) (.lf 0)))]
def nk11_24 : Blk := [(.ei .i64 (.ti nm11_28 (.li 0) (.ti (.vb 7) (.ti (.ic .eql (.ai 9 0 (.ci (.at 2 6) (.ci (.li 7) .n0))) (.li 0)) (.li 5) nm11_29) nm11_29))), (.ei .i64 (.ti nm11_28 (.li 0) (.ai 9 0 (.ci nm11_30 (.ci (.li 10) .n0))))), (.ei .i64 (.ti nm11_28 (.li 0) (.ai 9 0 (.ci nm11_31 (.ci (.li 10) .n0))))), (.ef (.tf nm11_28 (.fb .quo (.i2f (.ib .sub .i64 (.ai 9 0 (.ci (.ib .quo .i64 (.at 2 6) (.li 11)) (.ci (.li 33) .n0))) (.li 16))) (.lf 4620693217682128896)) (.lf 0)))]
def nb11_0 : Blk := [(.ei .i64 (.ib .sub .i64 (.li 7) nm11_1))]
def nb11_1 : Blk := nk11_0 ++ nk11_1 ++ nk11_2 ++ nk11_3 ++ nk11_4 ++ nk11_5 ++ nk11_6 ++ nk11_7
def nb11_2 : Blk := [(.ef (.fb .quo (.i2f (.ib .sub .i64 (.ai 9 0 (.ci (.ti (.ic .lss (.li 0) (.vl 5)) (.at 5 0) (.li 0)) (.ci (.li 65) .n0))) (.li 32))) (.lf 4620693217682128896)))]
def nb11_3 : Blk := [(.ei .i64 (.ib .sub .i64 (.li 8) nm11_1)), (.ei .i64 (.ib .sub .i64 (.li 8) nm11_26))]
def nb11_4 : Blk := nk11_0 ++ nk11_8 ++ nk11_1 ++ nk11_9 ++ nk11_10 ++ nk11_11 ++ nk11_12 ++ nk11_13 ++ nk11_14
def nb11_5 : Blk := [(.ef (.fb .quo (.i2f (.ib .sub .i64 (.ai 9 0 (.ci (.ti (.ic .lss (.li 0) (.vl 5)) (.at 5 0) (.li 0)) (.ci (.li 65) .n0))) (.li 32))) (.lf 4620693217682128896))), (.ef (.fb .quo (.i2f (.ib .sub .i64 (.ai 9 0 (.ci (.ti (.ic .lss (.li 1) (.vl 5)) (.at 5 1) (.li 1)) (.ci (.li 65) .n0))) (.li 32))) (.lf 4620693217682128896)))]
def nb11_6 : Blk := [(.ei .i64 (.ib .sub .i64 (.li 9) nm11_1)), (.ei .i64 (.ib .sub .i64 (.li 9) nm11_26)), (.ei .i64 (.ib .sub .i64 (.li 9) nm11_27))]
def nb11_7 : Blk := nk11_0 ++ nk11_8 ++ nk11_15 ++ nk11_1 ++ nk11_16 ++ nk11_17 ++ nk11_18 ++ nk11_19 ++ nk11_20 ++ nk11_21
def nb11_8 : Blk := [(.ef (.fb .quo (.i2f (.ib .sub .i64 (.ai 9 0 (.ci (.ti (.ic .lss (.li 0) (.vl 5)) (.at 5 0) (.li 0)) (.ci (.li 65) .n0))) (.li 32))) (.lf 4620693217682128896))), (.ef (.fb .quo (.i2f (.ib .sub .i64 (.ai 9 0 (.ci (.ti (.ic .lss (.li 1) (.vl 5)) (.at 5 1) (.li 1)) (.ci (.li 65) .n0))) (.li 32))) (.lf 4620693217682128896))), (.ef (.fb .quo (.i2f (.ib .sub .i64 (.ai 9 0 (.ci (.ti (.ic .lss (.li 2) (.vl 5)) (.at 5 2) (.li 2)) (.ci (.li 65) .n0))) (.li 32))) (.lf 4620693217682128896)))]
def nb11_9 : Blk := [(.ei .i64 (.ib .sub .i64 (.li 8) nm11_1))]
def nb11_10 : Blk := nk11_0 ++ nk11_1 ++ nk11_2 ++ nk11_3 ++ nk11_4 ++ nk11_5 ++ nk11_6 ++ nk11_7 ++ nk11_22
def nb11_11 : Blk := [(.ei .i64 (.ib .sub .i64 (.li 9) nm11_1)), (.ei .i64 (.ib .sub .i64 (.li 9) nm11_26))]
def nb11_12 : Blk := nk11_0 ++ nk11_8 ++ nk11_1 ++ nk11_9 ++ nk11_10 ++ nk11_11 ++ nk11_12 ++ nk11_13 ++ nk11_14 ++ nk11_23
def nb11_13 : Blk := [(.ei .i64 (.ib .sub .i64 (.li 10) nm11_1)), (.ei .i64 (.ib .sub .i64 (.li 10) nm11_26)), (.ei .i64 (.ib .sub .i64 (.li 10) nm11_27))]
def nb11_14 : Blk := nk11_0 ++ nk11_8 ++ nk11_15 ++ nk11_1 ++ nk11_16 ++ nk11_17 ++ nk11_18 ++ nk11_19 ++ nk11_20 ++ nk11_21 ++ nk11_24
def nb11_15 : Blk := [(.ei .i64 (.ib .sub .i64 (.li 9) nm11_1))]
def nb11_16 : Blk := nk11_0 ++ nk11_1 ++ nk11_2 ++ nk11_3 ++ nk11_4 ++ nk11_5 ++ nk11_6 ++ nk11_7 ++ nk11_22 ++ [(.ei .i64 (.ti nm11_32 (.li 0) (.ti (.vb 7) (.ti (.ic .eql (.ai 9 0 (.ci (.at 2 7) (.ci (.li 7) .n0))) (.li 0)) (.li 5) nm11_33) nm11_33))), (.ei .i64 (.ti nm11_32 (.li 0) (.ai 9 0 (.ci nm11_34 (.ci (.li 9) .n0))))), (.ei .i64 (.ti nm11_32 (.li 0) (.ai 9 0 (.ci nm11_35 (.ci (.li 9) .n0))))), (.ef (.tf nm11_32 (.fb .quo (.i2f (.ib .sub .i64 (.ai 9 0 (.ci (.ib .quo .i64 (.at 2 7) (.li 11)) (.ci (.li 33) .n0))) (.li 16))) (.lf 4620693217682128896)) (.lf 0)))]
def nb11_17 : Blk := [(.ei .i64 (.ib .sub .i64 (.li 10) nm11_1)), (.ei .i64 (.ib .sub .i64 (.li 10) nm11_26))]
def nb11_18 : Blk := nk11_0 ++ nk11_8 ++ nk11_1 ++ nk11_9 ++ nk11_10 ++ nk11_11 ++ nk11_12 ++ nk11_13 ++ nk11_14 ++ nk11_23 ++ [(.ei .i64 (.ti nm11_32 (.li 0) (.ti (.vb 7) (.ti (.ic .eql (.ai 9 0 (.ci (.at 2 7) (.ci (.li 7) .n0))) (.li 0)) (.li 5) nm11_33) nm11_33))), (.ei .i64 (.ti nm11_32 (.li 0) (.ai 9 0 (.ci nm11_34 (.ci (.li 10) .n0))))), (.ei .i64 (.ti nm11_32 (.li 0) (.ai 9 0 (.ci nm11_35 (.ci (.li 10) .n0))))), (.ef (.tf nm11_32 (.fb .quo (.i2f (.ib .sub .i64 (.ai 9 0 (.ci (.ib .quo .i64 (.at 2 7) (.li 11)) (.ci (.li 33) .n0))) (.li 16))) (.lf 4620693217682128896)) (.lf 0)))]
def nb11_19 : Blk := [(.ei .i64 (.ib .sub .i64 (.li 11) nm11_1)), (.ei .i64 (.ib .sub .i64 (.li 11) nm11_26)), (.ei .i64 (.ib .sub .i64 (.li 11) nm11_27))]
def nb11_20 : Blk := nk11_0 ++ nk11_8 ++ nk11_15 ++ nk11_1 ++ nk11_16 ++ nk11_17 ++ nk11_18 ++ nk11_19 ++ nk11_20 ++ nk11_21 ++ nk11_24 ++ [(.ei .i64 (.ti nm11_32 (.li 0) (.ti (.vb 7) (.ti (.ic .eql (.ai 9 0 (.ci (.at 2 7) (.ci (.li 7) .n0))) (.li 0)) (.li 5) nm11_33) nm11_33))), (.ei .i64 (.ti nm11_32 (.li 0) (.ai 9 0 (.ci nm11_34 (.ci (.li 11) .n0))))), (.ei .i64 (.ti nm11_32 (.li 0) (.ai 9 0 (.ci nm11_35 (.ci (.li 11) .n0))))), (.ef (.tf nm11_32 (.fb .quo (.i2f (.ib .sub .i64 (.ai 9 0 (.ci (.ib .quo .i64 (.at 2 7) (.li 11)) (.ci (.li 33) .n0))) (.li 16))) (.lf 4620693217682128896)) (.lf 0)))]
def n3_0_6m0 : Memo := mkM [(.ag [(.i .i64 1), (.sl 71 0 8 (.u 4)), (.sl 70 0 1 (.u 1))]), (.c (.sl 97 0 1 (.u 1)))] [(70, nb11_0), (71, nb11_1), (97, nb11_2)] 188 (.c (.sl 190 0 1 (.n 1))) (190, [(.ef (.vf 277))]) 229
theorem n3_0_6o0 : mok [] (lenL 2 6 8 ++ []) nN3 51 n3_0_6m0 = true := by kernel_rfl
def n3_0_6ms : List (Nat × List Memo) := [(51, [n3_0_6m0])]
theorem n3_0_6mo : AllMem (memRun [] (lenL 2 6 8 ++ []) nN3) n3_0_6ms := ⟨⟨n3_0_6o0, trivial⟩, trivial⟩
theorem n3_0_6 : lawRunM 3 10 200 [.i, .i, .q, .i, .f, .q, .i, .b] [(0, 5, 3), (1, 3, 0)] (lenL 2 6 8 ++ []) nN3 n3_0_6ms = true := by kernel_rfl
def n3_1_6m0 : Memo := mkM [(.ag [(.i .i64 2), (.sl 83 0 9 (.u 4)), (.sl 82 0 2 (.u 1))]), (.c (.sl 113 0 2 (.u 1)))] [(82, nb11_3), (83, nb11_4), (113, nb11_5)] 211 (.c (.sl 213 0 2 (.n 2))) (213, [(.ef (.vf 286)), (.ef (.vf 287))]) 256
theorem n3_1_6o0 : mok [] (lenL 2 6 8 ++ []) nN3 51 n3_1_6m0 = true := by kernel_rfl
def n3_1_6ms : List (Nat × List Memo) := [(51, [n3_1_6m0])]
theorem n3_1_6mo : AllMem (memRun [] (lenL 2 6 8 ++ []) nN3) n3_1_6ms := ⟨⟨n3_1_6o0, trivial⟩, trivial⟩
theorem n3_1_6 : lawRunM 3 10 200 [.i, .i, .q, .i, .f, .q, .i, .b] [(0, 5, 3), (1, 3, 1)] (lenL 2 6 8 ++ []) nN3 n3_1_6ms = true := by kernel_rfl
def n3_2_6m0 : Memo := mkM [(.ag [(.i .i64 3), (.sl 95 0 10 (.u 4)), (.sl 94 0 3 (.u 1))]), (.c (.sl 129 0 3 (.u 1)))] [(94, nb11_6), (95, nb11_7), (129, nb11_8)] 234 (.c (.sl 236 0 3 (.n 3))) (236, [(.ef (.vf 296)), (.ef (.vf 297)), (.ef (.vf 298))]) 283
theorem n3_2_6o0 : mok [] (lenL 2 6 8 ++ []) nN3 51 n3_2_6m0 = true := by kernel_rfl
def n3_2_6ms : List (Nat × List Memo) := [(51, [n3_2_6m0])]
theorem n3_2_6mo : AllMem (memRun [] (lenL 2 6 8 ++ []) nN3) n3_2_6ms := ⟨⟨n3_2_6o0, trivial⟩, trivial⟩
theorem n3_2_6 : lawRunM 3 10 200 [.i, .i, .q, .i, .f, .q, .i, .b] [(0, 5, 3), (1, 3, 2)] (lenL 2 6 8 ++ []) nN3 n3_2_6ms = true := by kernel_rfl
def n3_0_7m0 : Memo := mkM [(.ag [(.i .i64 1), (.sl 71 0 9 (.u 4)), (.sl 70 0 1 (.u 1))]), (.c (.sl 100 0 1 (.u 1)))] [(70, nb11_9), (71, nb11_10), (100, nb11_2)] 192 (.c (.sl 194 0 1 (.n 1))) (194, [(.ef (.vf 308))]) 237
theorem n3_0_7o0 : mok [] (lenL 2 7 8 ++ []) nN3 51 n3_0_7m0 = true := by kernel_rfl
def n3_0_7ms : List (Nat × List Memo) := [(51, [n3_0_7m0])]
theorem n3_0_7mo : AllMem (memRun [] (lenL 2 7 8 ++ []) nN3) n3_0_7ms := ⟨⟨n3_0_7o0, trivial⟩, trivial⟩
theorem n3_0_7 : lawRunM 3 10 200 [.i, .i, .q, .i, .f, .q, .i, .b] [(0, 5, 3), (1, 3, 0)] (lenL 2 7 8 ++ []) nN3 n3_0_7ms = true := by kernel_rfl
def n3_1_7m0 : Memo := mkM [(.ag [(.i .i64 2), (.sl 83 0 10 (.u 4)), (.sl 82 0 2 (.u 1))]), (.c (.sl 116 0 2 (.u 1)))] [(82, nb11_11), (83, nb11_12), (116, nb11_5)] 215 (.c (.sl 217 0 2 (.n 2))) (217, [(.ef (.vf 318)), (.ef (.vf 319))]) 264
theorem n3_1_7o0 : mok [] (lenL 2 7 8 ++ []) nN3 51 n3_1_7m0 = true := by kernel_rfl
def n3_1_7ms : List (Nat × List Memo) := [(51, [n3_1_7m0])]
theorem n3_1_7mo : AllMem (memRun [] (lenL 2 7 8 ++ []) nN3) n3_1_7ms := ⟨⟨n3_1_7o0, trivial⟩, trivial⟩
theorem n3_1_7 : lawRunM 3 10 200 [.i, .i, .q, .i, .f, .q, .i, .b] [(0, 5, 3), (1, 3, 1)] (lenL 2 7 8 ++ []) nN3 n3_1_7ms = true := by kernel_rfl
def n3_2_7m0 : Memo := mkM [(.ag [(.i .i64 3), (.sl 95 0 11 (.u 4)), (.sl 94 0 3 (.u 1))]), (.c (.sl 132 0 3 (.u 1)))] [(94, nb11_13), (95, nb11_14), (132, nb11_8)] 238 (.c (.sl 240 0 3 (.n 3))) (240, [(.ef (.vf 328)), (.ef (.vf 329)), (.ef (.vf 330))]) 291
theorem n3_2_7o0 : mok [] (lenL 2 7 8 ++ []) nN3 51 n3_2_7m0 = true := by kernel_rfl
def n3_2_7ms : List (Nat × List Memo) := [(51, [n3_2_7m0])]
theorem n3_2_7mo : AllMem (memRun [] (lenL 2 7 8 ++ []) nN3) n3_2_7ms := ⟨⟨n3_2_7o0, trivial⟩, trivial⟩
theorem n3_2_7 : lawRunM 3 10 200 [.i, .i, .q, .i, .f, .q, .i, .b] [(0, 5, 3), (1, 3, 2)] (lenL 2 7 8 ++ []) nN3 n3_2_7ms = true := by kernel_rfl
def n3_0_8m0 : Memo := mkM [(.ag [(.i .i64 1), (.sl 71 0 10 (.u 4)), (.sl 70 0 1 (.u 1))]), (.c (.sl 103 0 1 (.u 1)))] [(70, nb11_15), (71, nb11_16), (103, nb11_2)] 196 (.c (.sl 198 0 1 (.n 1))) (198, [(.ef (.vf 340))]) 245
theorem n3_0_8o0 : mok [] (lenL 2 8 8 ++ []) nN3 51 n3_0_8m0 = true := by kernel_rfl
def n3_0_8ms : List (Nat × List Memo) := [(51, [n3_0_8m0])]
theorem n3_0_8mo : AllMem (memRun [] (lenL 2 8 8 ++ []) nN3) n3_0_8ms := ⟨⟨n3_0_8o0, trivial⟩, trivial⟩
theorem n3_0_8 : lawRunM 3 10 200 [.i, .i, .q, .i, .f, .q, .i, .b] [(0, 5, 3), (1, 3, 0)] (lenL 2 8 8 ++ []) nN3 n3_0_8ms = true := by kernel_rfl
def n3_1_8m0 : Memo := mkM [(.ag [(.i .i64 2), (.sl 83 0 11 (.u 4)), (.sl 82 0 2 (.u 1))]), (.c (.sl 119 0 2 (.u 1)))] [(82, nb11_17), (83, nb11_18), (119, nb11_5)] 219 (.c (.sl 221 0 2 (.n 2))) (221, [(.ef (.vf 363)), (.ef (.vf 364))]) 272
theorem n3_1_8o0 : mok [] (lenL 2 8 8 ++ []) nN3 51 n3_1_8m0 = true := by kernel_rfl
def n3_1_8ms : List (Nat × List Memo) := [(51, [n3_1_8m0])]
theorem n3_1_8mo : AllMem (memRun [] (lenL 2 8 8 ++ []) nN3) n3_1_8ms := ⟨⟨n3_1_8o0, trivial⟩, trivial⟩
theorem n3_1_8 : lawRunM 3 10 200 [.i, .i, .q, .i, .f, .q, .i, .b] [(0, 5, 3), (1, 3, 1)] (lenL 2 8 8 ++ []) nN3 n3_1_8ms = true := by kernel_rfl
def n3_2_8m0 : Memo := mkM [(.ag [(.i .i64 3), (.sl 95 0 12 (.u 4)), (.sl 94 0 3 (.u 1))]), (.c (.sl 135 0 3 (.u 1)))] [(94, nb11_19), (95, nb11_20), (135, nb11_8)] 242 (.c (.sl 244 0 3 (.n 3))) (244, [(.ef (.vf 394)), (.ef (.vf 395)), (.ef (.vf 396))]) 299
theorem n3_2_8o0 : mok [] (lenL 2 8 8 ++ []) nN3 51 n3_2_8m0 = true := by kernel_rfl
def n3_2_8ms : List (Nat × List Memo) := [(51, [n3_2_8m0])]
theorem n3_2_8mo : AllMem (memRun [] (lenL 2 8 8 ++ []) nN3) n3_2_8ms := ⟨⟨n3_2_8o0, trivial⟩, trivial⟩
theorem n3_2_8 : lawRunM 3 10 200 [.i, .i, .q, .i, .f, .q, .i, .b] [(0, 5, 3), (1, 3, 2)] (lenL 2 8 8 ++ []) nN3 n3_2_8ms = true := by kernel_rfl
end Go.Proofs.Ytkncchofgehnpaa
