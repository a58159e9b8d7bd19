/-
  'NordAll': runs of it, part 8.
-/
import Derived.Test.YtkncchofgehnpaaNordAllt2
namespace Go.Proofs.Ytkncchofgehnpaa
open Go.RowKit Ex
set_option maxRecDepth 1000000
set_option maxHeartbeats 100000000
def nm8_0 : E := (.ib .quo .i64 (.vi 1) (.li 3))
def nm8_1 : E := (.ai 9 0 (.ci (.ib .add .i64 nm8_0 (.li 0)) (.ci (.li 3) .n0)))
def nm8_2 : E := (.ic .eql (.ai 9 0 (.ci (.at 2 0) (.ci (.li 11) .n0))) (.li 0))
def nm8_3 : E := (.ib .add .i64 (.li 2) (.ai 9 0 (.ci (.at 2 0) (.ci (.li 3) .n0))))
def nm8_4 : E := (.ib .quo .i64 (.at 2 0) (.li 4))
def nm8_5 : E := (.ib .quo .i64 (.at 2 0) (.li 40))
def nm8_6 : E := (.ic .eql (.ai 9 0 (.ci (.at 2 1) (.ci (.li 11) .n0))) (.li 0))
def nm8_7 : E := (.ib .add .i64 (.li 2) (.ai 9 0 (.ci (.at 2 1) (.ci (.li 3) .n0))))
def nm8_8 : E := (.ib .quo .i64 (.at 2 1) (.li 4))
def nm8_9 : E := (.ib .quo .i64 (.at 2 1) (.li 40))
def nm8_10 : E := (.ic .eql (.ai 9 0 (.ci (.at 2 2) (.ci (.li 11) .n0))) (.li 0))
def nm8_11 : E := (.ib .add .i64 (.li 2) (.ai 9 0 (.ci (.at 2 2) (.ci (.li 3) .n0))))
def nm8_12 : E := (.ib .quo .i64 (.at 2 2) (.li 4))
def nm8_13 : E := (.ib .quo .i64 (.at 2 2) (.li 40))
def nm8_14 : E := (.ic .eql (.ai 9 0 (.ci (.at 2 3) (.ci (.li 11) .n0))) (.li 0))
def nm8_15 : E := (.ib .add .i64 (.li 2) (.ai 9 0 (.ci (.at 2 3) (.ci (.li 3) .n0))))
def nm8_16 : E := (.ib .quo .i64 (.at 2 3) (.li 4))
def nm8_17 : E := (.ib .quo .i64 (.at 2 3) (.li 40))
def nm8_18 : E := (.ic .eql (.ai 9 0 (.ci (.at 2 4) (.ci (.li 11) .n0))) (.li 0))
def nm8_19 : E := (.ib .add .i64 (.li 2) (.ai 9 0 (.ci (.at 2 4) (.ci (.li 3) .n0))))
def nm8_20 : E := (.ib .quo .i64 (.at 2 4) (.li 4))
def nm8_21 : E := (.ib .quo .i64 (.at 2 4) (.li 40))
def nm8_22 : E := (.ic .eql (.ai 9 0 (.ci (.at 2 5) (.ci (.li 11) .n0))) (.li 0))
def nm8_23 : E := (.ib .add .i64 (.li 2) (.ai 9 0 (.ci (.at 2 5) (.ci (.li 3) .n0))))
def nm8_24 : E := (.ib .quo .i64 (.at 2 5) (.li 4))
def nm8_25 : E := (.ib .quo .i64 (.at 2 5) (.li 40))
def nm8_26 : E := (.ai 9 0 (.ci (.ib .add .i64 nm8_0 (.li 1)) (.ci (.li 3) .n0)))
def nm8_27 : E := (.ai 9 0 (.ci (.ib .add .i64 nm8_0 (.li 2)) (.ci (.li 3) .n0)))
def nm8_28 : E := (.ic .eql (.ai 9 0 (.ci (.at 2 6) (.ci (.li 11) .n0))) (.li 0))
def nm8_29 : E := (.ib .add .i64 (.li 2) (.ai 9 0 (.ci (.at 2 6) (.ci (.li 3) .n0))))
def nm8_30 : E := (.ib .quo .i64 (.at 2 6) (.li 4))
def nm8_31 : E := (.ib .quo .i64 (.at 2 6) (.li 40))
def nm8_32 : E := (.ic .eql (.ai 9 0 (.ci (.at 2 7) (.ci (.li 11) .n0))) (.li 0))
def nm8_33 : E := (.ib .add .i64 (.li 2) (.ai 9 0 (.ci (.at 2 7) (.ci (.li 3) .n0))))
def nm8_34 : E := (.ib .quo .i64 (.at 2 7) (.li 4))
def nm8_35 : E := (.ib .quo .i64 (.at 2 7) (.li 40))
def nk8_0 : Blk := [(.i .i64 1), (.i .i64 0), (.i .i64 0), (.f 0)]
def nk8_1 : Blk := [(.i .i64 0), (.i .i64 0), (.i .i64 0), (.ef (.fb .quo (.i2f (.ib .sub .i64 (.ai 9 0 (.ci (.vi 1) (.ci (.li 17) .n0))) (.li 8))) (.lf 4616189618054758400)))]
def nk8_2 : Blk := [(.ei .i64 (.ti nm8_2 (.li 0) (.ti (.vb 7) (.ti (.ic .eql (.ai 9 0 (.ci (.at 2 0) (.ci (.li 7) .n0))) (.li 0)) (.li 5) nm8_3) nm8_3))), (.ei .i64 (.ti nm8_2 (.li 0) (.ai 9 0 (.ci nm8_4 (.ci (.li 2) .n0))))), (.ei .i64 (.ti nm8_2 (.li 0) (.ai 9 0 (.ci nm8_5 (.ci (.li 2) .n0))))), (.ef (.tf nm8_2 (.fb .quo (.i2f (.ib .sub .i64 (.ai 9 0 (.ci (.ib .quo .i64 (.at 2 0) (.li 11)) (.ci (.li 33) .n0))) (.li 16))) (.lf 4620693217682128896)) (.lf 0)))]
def nk8_3 : Blk := [(.ei .i64 (.ti nm8_6 (.li 0) (.ti (.vb 7) (.ti (.ic .eql (.ai 9 0 (.ci (.at 2 1) (.ci (.li 7) .n0))) (.li 0)) (.li 5) nm8_7) nm8_7))), (.ei .i64 (.ti nm8_6 (.li 0) (.ai 9 0 (.ci nm8_8 (.ci (.li 3) .n0))))), (.ei .i64 (.ti nm8_6 (.li 0) (.ai 9 0 (.ci nm8_9 (.ci (.li 3) .n0))))), (.ef (.tf nm8_6 (.fb .quo (.i2f (.ib .sub .i64 (.ai 9 0 (.ci (.ib .quo .i64 (.at 2 1) (.li 11)) (.ci (.li 33) .n0))) (.li 16))) (.lf 4620693217682128896)) (.lf 0)))]
def nk8_4 : Blk := [(.ei .i64 (.ti nm8_10 (.li 0) (.ti (.vb 7) (.ti (.ic .eql (.ai 9 0 (.ci (.at 2 2) (.ci (.li 7) .n0))) (.li 0)) (.li 5) nm8_11) nm8_11))), (.ei .i64 (.ti nm8_10 (.li 0) (.ai 9 0 (.ci nm8_12 (.ci (.li 4) .n0))))), (.ei .i64 (.ti nm8_10 (.li 0) (.ai 9 0 (.ci nm8_13 (.ci (.li 4) .n0))))), (.ef (.tf nm8_10 (.fb .quo (.i2f (.ib .sub .i64 (.ai 9 0 (.ci (.ib .quo .i64 (.at 2 2) (.li 11)) (.ci (.li 33) .n0))) (.li 16))) (.lf 4620693217682128896)) (.lf 0)))]
def nk8_5 : Blk := [(.ei .i64 (.ti nm8_14 (.li 0) (.ti (.vb 7) (.ti (.ic .eql (.ai 9 0 (.ci (.at 2 3) (.ci (.li 7) .n0))) (.li 0)) (.li 5) nm8_15) nm8_15))), (.ei .i64 (.ti nm8_14 (.li 0) (.ai 9 0 (.ci nm8_16 (.ci (.li 5) .n0))))), (.ei .i64 (.ti nm8_14 (.li 0) (.ai 9 0 (.ci nm8_17 (.ci (.li 5) .n0))))), (.ef (.tf nm8_14 (.fb .quo (.i2f (.ib .sub .i64 (.ai 9 0 (.ci (.ib .quo .i64 (.at 2 3) (.li 11)) (.ci (.li 33) .n0))) (.li 16))) (.lf 4620693217682128896)) (.lf 0)))]
def nk8_6 : Blk := [(.ei .i64 (.ti nm8_18 (.li 0) (.ti (.vb 7) (.ti (.ic .eql (.ai 9 0 (.ci (.at 2 4) (.ci (.li 7) .n0))) (.li 0)) (.li 5) nm8_19) nm8_19))), (.ei .i64 (.ti nm8_18 (.li 0) (.ai 9 0 (.ci nm8_20 (.ci (.li 6) .n0))))), (.ei .i64 (.ti nm8_18 (.li 0) (.ai 9 0 (.ci nm8_21 (.ci (.li 6) .n0))))), (.ef (.tf nm8_18 (.fb .quo (.i2f (.ib .sub .i64 (.ai 9 0 (.ci (.ib .quo .i64 (.at 2 4) (.li 11)) (.ci (.li 33) .n0))) (.li 16))) (.lf 4620693217682128896)) (.lf 0)))]
def nk8_7 : Blk := [(.ei .i64 (.ti nm8_22 (.li 0) (.ti (.vb 7) (.ti (.ic .eql (.ai 9 0 (.ci (.at 2 5) (.ci (.li 7) .n0))) (.li 0)) (.li 5) nm8_23) nm8_23))), (.ei .i64 (.ti nm8_22 (.li 0) (.ai 9 0 (.ci nm8_24 (.ci (.li 7) .n0))))), (.ei .i64 (.ti nm8_22 (.li 0) (.ai 9 0 (.ci nm8_25 (.ci (.li 7) .n0))))), (.ef (.tf nm8_22 (.fb .quo (.i2f (.ib .sub .i64 (.ai 9 0 (.ci (.ib .quo .i64 (.at 2 5) (.li 11)) (.ci (.li 33) .n0))) (.li 16))) (.lf 4620693217682128896)) (.lf 0)))]
def nk8_8 : Blk := [(.i .i64 1), (.i .i64 1), (.i .i64 0), (.f 0)]
def nk8_9 : Blk := [(.ei .i64 (.ti nm8_2 (.li 0) (.ti (.vb 7) (.ti (.ic .eql (.ai 9 0 (.ci (.at 2 0) (.ci (.li 7) .n0))) (.li 0)) (.li 5) nm8_3) nm8_3))), (.ei .i64 (.ti nm8_2 (.li 0) (.ai 9 0 (.ci nm8_4 (.ci (.li 3) .n0))))), (.ei .i64 (.ti nm8_2 (.li 0) (.ai 9 0 (.ci nm8_5 (.ci (.li 3) .n0))))), (.ef (.tf nm8_2 (.fb .quo (.i2f (.ib .sub .i64 (.ai 9 0 (.ci (.ib .quo .i64 (.at 2 0) (.li 11)) (.ci (.li 33) .n0))) (.li 16))) (.lf 4620693217682128896)) (.lf 0)))]
def nk8_10 : Blk := [(.ei .i64 (.ti nm8_6 (.li 0) (.ti (.vb 7) (.ti (.ic .eql (.ai 9 0 (.ci (.at 2 1) (.ci (.li 7) .n0))) (.li 0)) (.li 5) nm8_7) nm8_7))), (.ei .i64 (.ti nm8_6 (.li 0) (.ai 9 0 (.ci nm8_8 (.ci (.li 4) .n0))))), (.ei .i64 (.ti nm8_6 (.li 0) (.ai 9 0 (.ci nm8_9 (.ci (.li 4) .n0))))), (.ef (.tf nm8_6 (.fb .quo (.i2f (.ib .sub .i64 (.ai 9 0 (.ci (.ib .quo .i64 (.at 2 1) (.li 11)) (.ci (.li 33) .n0))) (.li 16))) (.lf 4620693217682128896)) (.lf 0)))]
def nk8_11 : Blk := [(.ei .i64 (.ti nm8_10 (.li 0) (.ti (.vb 7) (.ti (.ic .eql (.ai 9 0 (.ci (.at 2 2) (.ci (.li 7) .n0))) (.li 0)) (.li 5) nm8_11) nm8_11))), (.ei .i64 (.ti nm8_10 (.li 0) (.ai 9 0 (.ci nm8_12 (.ci (.li 5) .n0))))), (.ei .i64 (.ti nm8_10 (.li 0) (.ai 9 0 (.ci nm8_13 (.ci (.li 5) .n0))))), (.ef (.tf nm8_10 (.fb .quo (.i2f (.ib .sub .i64 (.ai 9 0 (.ci (.ib .quo .i64 (.at 2 2) (.li 11)) (.ci (.li 33) .n0))) (.li 16))) (.lf 4620693217682128896)) (.lf 0)))]
def nk8_12 : Blk := [(.ei .i64 (.ti nm8_14 (.li 0) (.ti (.vb 7) (.ti (.ic .eql (.ai 9 0 (.ci (.at 2 3) (.ci (.li 7) .n0))) (.li 0)) (.li 5) nm8_15) nm8_15))), (.ei .i64 (.ti nm8_14 (.li 0) (.ai 9 0 (.ci nm8_16 (.ci (.li 6) .n0))))), (.ei .i64 (.ti nm8_14 (.li 0) (.ai 9 0 (.ci nm8_17 (.ci (.li 6) .n0))))), (.ef (.tf nm8_14 (.fb .quo (.i2f (.ib .sub .i64 (.ai 9 0 (.ci (.ib .quo .i64 (.at 2 3) (.li 11)) (.ci (.li 33) .n0))) (.li 16))) (.lf 4620693217682128896)) (.lf 0)))]
def nk8_13 : Blk := [(.ei .i64 (.ti nm8_18 (.li 0) (.ti (.vb 7) (.ti (.ic .eql (.ai 9 0 (.ci (.at 2 4) (.ci (.li 7) .n0))) (.li 0)) (.li 5) nm8_19) nm8_19))), (.ei .i64 (.ti nm8_18 (.li 0) (.ai 9 0 (.ci nm8_20 (.ci (.li 7) .n0))))), (.ei .i64 (.ti nm8_18 (.li 0) (.ai 9 0 (.ci nm8_21 (.ci (.li 7) .n0))))), (.ef (.tf nm8_18 (.fb .quo (.i2f (.ib .sub .i64 (.ai 9 0 (.ci (.ib .quo .i64 (.at 2 4) (.li 11)) (.ci (.li 33) .n0))) (.li 16))) (.lf 4620693217682128896)) (.lf 0)))]
def nk8_14 : Blk := [(.ei .i64 (.ti nm8_22 (.li 0) (.ti (.vb 7) (.ti (.ic .eql (.ai 9 0 (.ci (.at 2 5) (.ci (.li 7) .n0))) (.li 0)) (.li 5) nm8_23) nm8_23))), (.ei .i64 (.ti nm8_22 (.li 0) (.ai 9 0 (.ci nm8_24 (.ci (.li 8) .n0))))), (.ei .i64 (.ti nm8_22 (.li 0) (.ai 9 0 (.ci nm8_25 (.ci (.li 8) .n0))))), (.ef (.tf nm8_22 (.fb .quo (.i2f (.ib .sub .i64 (.ai 9 0 (.ci (.ib .quo .i64 (.at 2 5) (.li 11)) (.ci (.li 33) .n0))) (.li 16))) (.lf 4620693217682128896)) (.lf 0)))]
def nk8_15 : Blk := [(.i .i64 1), (.i .i64 2), (.i .i64 0), (.f 0)]
def nk8_16 : Blk := [(.ei .i64 (.ti nm8_2 (.li 0) (.ti (.vb 7) (.ti (.ic .eql (.ai 9 0 (.ci (.at 2 0) (.ci (.li 7) .n0))) (.li 0)) (.li 5) nm8_3) nm8_3))), (.ei .i64 (.ti nm8_2 (.li 0) (.ai 9 0 (.ci nm8_4 (.ci (.li 4) .n0))))), (.ei .i64 (.ti nm8_2 (.li 0) (.ai 9 0 (.ci nm8_5 (.ci (.li 4) .n0))))), (.ef (.tf nm8_2 (.fb .quo (.i2f (.ib .sub .i64 (.ai 9 0 (.ci (.ib .quo .i64 (.at 2 0) (.li 11)) (.ci (.li 33) .n0))) (.li 16))) (.lf 4620693217682128896)) (.lf 0)))]
def nk8_17 : Blk := [(.ei .i64 (.ti nm8_6 (.li 0) (.ti (.vb 7) (.ti (.ic .eql (.ai 9 0 (.ci (.at 2 1) (.ci (.li 7) .n0))) (.li 0)) (.li 5) nm8_7) nm8_7))), (.ei .i64 (.ti nm8_6 (.li 0) (.ai 9 0 (.ci nm8_8 (.ci (.li 5) .n0))))), (.ei .i64 (.ti nm8_6 (.li 0) (.ai 9 0 (.ci nm8_9 (.ci (.li 5) .n0))))), (.ef (.tf nm8_6 (.fb .quo (.i2f (.ib .sub .i64 (.ai 9 0 (.ci (.ib .quo .i64 (.at 2 1) (.li 11)) (.ci (.li 33) .n0))) (.li 16))) (.lf 4620693217682128896)) (.lf 0)))]
def nk8_18 : Blk := [(.ei .i64 (.ti nm8_10 (.li 0) (.ti (.vb 7) (.ti (.ic .eql (.ai 9 0 (.ci (.at 2 2) (.ci (.li 7) .n0))) (.li 0)) (.li 5) nm8_11) nm8_11))), (.ei .i64 (.ti nm8_10 (.li 0) (.ai 9 0 (.ci nm8_12 (.ci (.li 6) .n0))))), (.ei .i64 (.ti nm8_10 (.li 0) (.ai 9 0 (.ci nm8_13 (.ci (.li 6) .n0))))), (.ef (.tf nm8_10 (.fb .quo (.i2f (.ib .sub .i64 (.ai 9 0 (.ci (.ib .quo .i64 (.at 2 2) (.li 11)) (.ci (.li 33) .n0))) (.li 16))) (.lf 4620693217682128896)) (.lf 0)))]
def nk8_19 : Blk := [(.ei .i64 (.ti nm8_14 (.li 0) (.ti (.vb 7) (.ti (.ic .eql (.ai 9 0 (.ci (.at 2 3) (.ci (.li 7) .n0))) (.li 0)) (.li 5) nm8_15) nm8_15))), (.ei .i64 (.ti nm8_14 (.li 0) (.ai 9 0 (.ci nm8_16 (.ci (.li 7) .n0))))), (.ei .i64 (.ti nm8_14 (.li 0) (.ai 9 0 (.ci nm8_17 (.ci (.li 7) .n0))))), (.ef (.tf nm8_14 (.fb .quo (.i2f (.ib .sub .i64 (.ai 9 0 (.ci (.ib .quo .i64 (.at 2 3) (.li 11)) (.ci (.li 33) .n0))) (.li 16))) (.lf 4620693217682128896)) (.lf 0)))]
def nk8_20 : Blk := [(.ei .i64 (.ti nm8_18 (.li 0) (.ti (.vb 7) (.ti (.ic .eql (.ai 9 0 (.ci (.at 2 4) (.ci (.li 7) .n0))) (.li 0)) (.li 5) nm8_19) nm8_19))), (.ei .i64 (.ti nm8_18 (.li 0) (.ai 9 0 (.ci nm8_20 (.ci (.li 8) .n0))))), (.ei .i64 (.ti nm8_18 (.li 0) (.ai 9 0 (.ci nm8_21 (.ci (.li 8) .n0))))), (.ef (.tf nm8_18 (.fb .quo (.i2f (.ib .sub .i64 (.ai 9 0 (.ci (.ib .quo .i64 (.at 2 4) (.li 11)) (.ci (.li 33) .n0))) (.li 16))) (.lf 4620693217682128896)) (.lf 0)))]
def nk8_21 : Blk := [(.ei .i64 (.ti nm8_22 (.li 0) (.ti (.vb 7) (.ti (.ic .eql (.ai 9 0 (.ci (.at 2 5) (.ci (.li 7) .n0))) (.li 0)) (.li 5) nm8_23) nm8_23))), (.ei .i64 (.ti nm8_22 (.li 0) (.ai 9 0 (.ci nm8_24 (.ci (.li 9) .n0))))), (.ei .i64 (.ti nm8_22 (.li 0) (.ai 9 0 (.ci nm8_25 (.ci (.li 9) .n0))))), (.ef (.tf nm8_22 (.fb .quo (.i2f (.ib .sub .i64 (.ai 9 0 (.ci (.ib .quo .i64 (.at 2 5) (.li 11)) (.ci (.li 33) .n0))) (.li 16))) (.lf 4620693217682128896)) (.lf 0)))]
def nk8_22 : Blk := [(.ei .i64 (.ti nm8_28 (.li 0) (.ti (.vb 7) (.ti (.ic .eql (.ai 9 0 (.ci (.at 2 6) (.ci (.li 7) .n0))) (.li 0)) (.li 5) nm8_29) nm8_29))), (.ei .i64 (.ti nm8_28 (.li 0) (.ai 9 0 (.ci nm8_30 (.ci (.li 8) .n0))))), (.ei .i64 (.ti nm8_28 (.li 0) (.ai 9 0 (.ci nm8_31 (.ci (.li 8) .n0))))), (.ef (.tf nm8_28 (.fb .quo (.i2f (.ib .sub .i64 (.ai 9 0 (.ci (.ib .quo .i64 (.at 2 6) (.li 11)) (.ci (.li 33) .n0))) (.li 16))) (.lf 4620693217682128896)) (.lf 0)))]
def nk8_23 : Blk := [(.ei .i64 (.ti nm8_28 (.li 0) (.ti (.vb 7) (.ti (.ic .eql (.ai 9 0 (.ci (.at 2 6) (.ci (.li 7) .n0))) (.li 0)) (.li 5) nm8_29) nm8_29))), (.ei .i64 (.ti nm8_28 (.li 0) (.ai 9 0 (.ci nm8_30 (.ci (.li 9) .n0))))), (.ei .i64 (.ti nm8_28 (.li 0) (.ai 9 0 (.ci nm8_31 (.ci (.li 9) .n0))))), (.ef (.tf nm8_28 (.fb .quo (.i2f (.ib .sub .i64 (.ai 9 0 (.ci (.ib .quo .i64 (.at 2 6) (.li 11)) (.ci (.li 33) .n0))) (.li 16))) (.lf 4620693217682128896)) (.lf 0)))]
def nk8_24 : Blk := [(.ei .i64 (.ti nm8_28 (.li 0) (.ti (.vb 7) (.ti (.ic .eql (.ai 9 0 (.ci (.at 2 6) (.ci (.li 7) .n0))) (.li 0)) (.li 5) nm8_29) nm8_29))), (.ei .i64 (.ti nm8_28 (.li 0) (.ai 9 0 (.ci nm8_30 (.ci (.li 10) .n0))))), (.ei .i64 (.ti nm8_28 (.li 0) (.ai 9 0 (.ci nm8_31 (.ci (.li 10) .n0))))), (.ef (.tf nm8_28 (.fb .quo (.i2f (.ib .sub .i64 (.ai 9 0 (.ci (.ib .quo .i64 (.at 2 6) (.li 11)) (.ci (.li 33) .n0))) (.li 16))) (.lf 4620693217682128896)) (.lf 0)))]
def nb8_0 : Blk := [(.ei .i64 (.ib .sub .i64 (.li 7) nm8_1))]
def nb8_1 : Blk := nk8_0 ++ nk8_1 ++ nk8_2 ++ nk8_3 ++ nk8_4 ++ nk8_5 ++ nk8_6 ++ nk8_7
def nb8_2 : Blk := [(.ef (.fb .quo (.i2f (.ib .sub .i64 (.ai 9 0 (.ci (.ti (.ic .lss (.li 0) (.vl 5)) (.at 5 0) (.li 0)) (.ci (.li 65) .n0))) (.li 32))) (.lf 4620693217682128896)))]
def nb8_3 : Blk := [(.ei .i64 (.ib .sub .i64 (.li 8) nm8_1)), (.ei .i64 (.ib .sub .i64 (.li 8) nm8_26))]
def nb8_4 : Blk := nk8_0 ++ nk8_8 ++ nk8_1 ++ nk8_9 ++ nk8_10 ++ nk8_11 ++ nk8_12 ++ nk8_13 ++ nk8_14
def nb8_5 : Blk := [(.ef (.fb .quo (.i2f (.ib .sub .i64 (.ai 9 0 (.ci (.ti (.ic .lss (.li 0) (.vl 5)) (.at 5 0) (.li 0)) (.ci (.li 65) .n0))) (.li 32))) (.lf 4620693217682128896))), (.ef (.fb .quo (.i2f (.ib .sub .i64 (.ai 9 0 (.ci (.ti (.ic .lss (.li 1) (.vl 5)) (.at 5 1) (.li 1)) (.ci (.li 65) .n0))) (.li 32))) (.lf 4620693217682128896)))]
def nb8_6 : Blk := [(.ei .i64 (.ib .sub .i64 (.li 9) nm8_1)), (.ei .i64 (.ib .sub .i64 (.li 9) nm8_26)), (.ei .i64 (.ib .sub .i64 (.li 9) nm8_27))]
def nb8_7 : Blk := nk8_0 ++ nk8_8 ++ nk8_15 ++ nk8_1 ++ nk8_16 ++ nk8_17 ++ nk8_18 ++ nk8_19 ++ nk8_20 ++ nk8_21
def nb8_8 : Blk := [(.ef (.fb .quo (.i2f (.ib .sub .i64 (.ai 9 0 (.ci (.ti (.ic .lss (.li 0) (.vl 5)) (.at 5 0) (.li 0)) (.ci (.li 65) .n0))) (.li 32))) (.lf 4620693217682128896))), (.ef (.fb .quo (.i2f (.ib .sub .i64 (.ai 9 0 (.ci (.ti (.ic .lss (.li 1) (.vl 5)) (.at 5 1) (.li 1)) (.ci (.li 65) .n0))) (.li 32))) (.lf 4620693217682128896))), (.ef (.fb .quo (.i2f (.ib .sub .i64 (.ai 9 0 (.ci (.ti (.ic .lss (.li 2) (.vl 5)) (.at 5 2) (.li 2)) (.ci (.li 65) .n0))) (.li 32))) (.lf 4620693217682128896)))]
def nb8_9 : Blk := [(.ei .i64 (.ib .sub .i64 (.li 8) nm8_1))]
def nb8_10 : Blk := nk8_0 ++ nk8_1 ++ nk8_2 ++ nk8_3 ++ nk8_4 ++ nk8_5 ++ nk8_6 ++ nk8_7 ++ nk8_22
def nb8_11 : Blk := [(.ei .i64 (.ib .sub .i64 (.li 9) nm8_1)), (.ei .i64 (.ib .sub .i64 (.li 9) nm8_26))]
def nb8_12 : Blk := nk8_0 ++ nk8_8 ++ nk8_1 ++ nk8_9 ++ nk8_10 ++ nk8_11 ++ nk8_12 ++ nk8_13 ++ nk8_14 ++ nk8_23
def nb8_13 : Blk := [(.ei .i64 (.ib .sub .i64 (.li 10) nm8_1)), (.ei .i64 (.ib .sub .i64 (.li 10) nm8_26)), (.ei .i64 (.ib .sub .i64 (.li 10) nm8_27))]
def nb8_14 : Blk := nk8_0 ++ nk8_8 ++ nk8_15 ++ nk8_1 ++ nk8_16 ++ nk8_17 ++ nk8_18 ++ nk8_19 ++ nk8_20 ++ nk8_21 ++ nk8_24
def nb8_15 : Blk := [(.ei .i64 (.ib .sub .i64 (.li 9) nm8_1))]
def nb8_16 : Blk := nk8_0 ++ nk8_1 ++ nk8_2 ++ nk8_3 ++ nk8_4 ++ nk8_5 ++ nk8_6 ++ nk8_7 ++ nk8_22 ++ [(.ei .i64 (.ti nm8_32 (.li 0) (.ti (.vb 7) (.ti (.ic .eql (.ai 9 0 (.ci (.at 2 7) (.ci (.li 7) .n0))) (.li 0)) (.li 5) nm8_33) nm8_33))), (.ei .i64 (.ti nm8_32 (.li 0) (.ai 9 0 (.ci nm8_34 (.ci (.li 9) .n0))))), (.ei .i64 (.ti nm8_32 (.li 0) (.ai 9 0 (.ci nm8_35 (.ci (.li 9) .n0))))), (.ef (.tf nm8_32 (.fb .quo (.i2f (.ib .sub .i64 (.ai 9 0 (.ci (.ib .quo .i64 (.at 2 7) (.li 11)) (.ci (.li 33) .n0))) (.li 16))) (.lf 4620693217682128896)) (.lf 0)))]
def nb8_17 : Blk := [(.ei .i64 (.ib .sub .i64 (.li 10) nm8_1)), (.ei .i64 (.ib .sub .i64 (.li 10) nm8_26))]
def nb8_18 : Blk := nk8_0 ++ nk8_8 ++ nk8_1 ++ nk8_9 ++ nk8_10 ++ nk8_11 ++ nk8_12 ++ nk8_13 ++ nk8_14 ++ nk8_23 ++ [(.ei .i64 (.ti nm8_32 (.li 0) (.ti (.vb 7) (.ti (.ic .eql (.ai 9 0 (.ci (.at 2 7) (.ci (.li 7) .n0))) (.li 0)) (.li 5) nm8_33) nm8_33))), (.ei .i64 (.ti nm8_32 (.li 0) (.ai 9 0 (.ci nm8_34 (.ci (.li 10) .n0))))), (.ei .i64 (.ti nm8_32 (.li 0) (.ai 9 0 (.ci nm8_35 (.ci (.li 10) .n0))))), (.ef (.tf nm8_32 (.fb .quo (.i2f (.ib .sub .i64 (.ai 9 0 (.ci (.ib .quo .i64 (.at 2 7) (.li 11)) (.ci (.li 33) .n0))) (.li 16))) (.lf 4620693217682128896)) (.lf 0)))]
def nb8_19 : Blk := [(.ei .i64 (.ib .sub .i64 (.li 11) nm8_1)), (.ei .i64 (.ib .sub .i64 (.li 11) nm8_26)), (.ei .i64 (.ib .sub .i64 (.li 11) nm8_27))]
def nb8_20 : Blk := nk8_0 ++ nk8_8 ++ nk8_15 ++ nk8_1 ++ nk8_16 ++ nk8_17 ++ nk8_18 ++ nk8_19 ++ nk8_20 ++ nk8_21 ++ nk8_24 ++ [(.ei .i64 (.ti nm8_32 (.li 0) (.ti (.vb 7) (.ti (.ic .eql (.ai 9 0 (.ci (.at 2 7) (.ci (.li 7) .n0))) (.li 0)) (.li 5) nm8_33) nm8_33))), (.ei .i64 (.ti nm8_32 (.li 0) (.ai 9 0 (.ci nm8_34 (.ci (.li 11) .n0))))), (.ei .i64 (.ti nm8_32 (.li 0) (.ai 9 0 (.ci nm8_35 (.ci (.li 11) .n0))))), (.ef (.tf nm8_32 (.fb .quo (.i2f (.ib .sub .i64 (.ai 9 0 (.ci (.ib .quo .i64 (.at 2 7) (.li 11)) (.ci (.li 33) .n0))) (.li 16))) (.lf 4620693217682128896)) (.lf 0)))]
def n2_0_6m0 : Memo := mkM [(.ag [(.i .i64 1), (.sl 60 0 8 (.u 4)), (.sl 59 0 1 (.u 1))]), (.c (.sl 86 0 1 (.u 1)))] [(59, nb8_0), (60, nb8_1), (86, nb8_2)] 165 (.c (.sl 167 0 1 (.n 1))) (167, [(.ef (.vf 273))]) 206
theorem n2_0_6o0 : mok [] (lenL 2 6 8 ++ []) nN2 51 n2_0_6m0 = true := by kernel_rfl
def n2_0_6ms : List (Nat × List Memo) := [(51, [n2_0_6m0])]
theorem n2_0_6mo : AllMem (memRun [] (lenL 2 6 8 ++ []) nN2) n2_0_6ms := ⟨⟨n2_0_6o0, trivial⟩, trivial⟩
theorem n2_0_6 : lawRunM 3 10 200 [.i, .i, .q, .i, .f, .q, .i, .b] [(0, 5, 2), (1, 3, 0)] (lenL 2 6 8 ++ []) nN2 n2_0_6ms = true := by kernel_rfl
def n2_1_6m0 : Memo := mkM [(.ag [(.i .i64 2), (.sl 70 0 9 (.u 4)), (.sl 69 0 2 (.u 1))]), (.c (.sl 100 0 2 (.u 1)))] [(69, nb8_3), (70, nb8_4), (100, nb8_5)] 186 (.c (.sl 188 0 2 (.n 2))) (188, [(.ef (.vf 282)), (.ef (.vf 283))]) 231
theorem n2_1_6o0 : mok [] (lenL 2 6 8 ++ []) nN2 51 n2_1_6m0 = true := by kernel_rfl
def n2_1_6ms : List (Nat × List Memo) := [(51, [n2_1_6m0])]
theorem n2_1_6mo : AllMem (memRun [] (lenL 2 6 8 ++ []) nN2) n2_1_6ms := ⟨⟨n2_1_6o0, trivial⟩, trivial⟩
theorem n2_1_6 : lawRunM 3 10 200 [.i, .i, .q, .i, .f, .q, .i, .b] [(0, 5, 2), (1, 3, 1)] (lenL 2 6 8 ++ []) nN2 n2_1_6ms = true := by kernel_rfl
def n2_2_6m0 : Memo := mkM [(.ag [(.i .i64 3), (.sl 80 0 10 (.u 4)), (.sl 79 0 3 (.u 1))]), (.c (.sl 114 0 3 (.u 1)))] [(79, nb8_6), (80, nb8_7), (114, nb8_8)] 207 (.c (.sl 209 0 3 (.n 3))) (209, [(.ef (.vf 292)), (.ef (.vf 293)), (.ef (.vf 294))]) 256
theorem n2_2_6o0 : mok [] (lenL 2 6 8 ++ []) nN2 51 n2_2_6m0 = true := by kernel_rfl
def n2_2_6ms : List (Nat × List Memo) := [(51, [n2_2_6m0])]
theorem n2_2_6mo : AllMem (memRun [] (lenL 2 6 8 ++ []) nN2) n2_2_6ms := ⟨⟨n2_2_6o0, trivial⟩, trivial⟩
theorem n2_2_6 : lawRunM 3 10 200 [.i, .i, .q, .i, .f, .q, .i, .b] [(0, 5, 2), (1, 3, 2)] (lenL 2 6 8 ++ []) nN2 n2_2_6ms = true := by kernel_rfl
def n2_0_7m0 : Memo := mkM [(.ag [(.i .i64 1), (.sl 60 0 9 (.u 4)), (.sl 59 0 1 (.u 1))]), (.c (.sl 89 0 1 (.u 1)))] [(59, nb8_9), (60, nb8_10), (89, nb8_2)] 169 (.c (.sl 171 0 1 (.n 1))) (171, [(.ef (.vf 304))]) 214
theorem n2_0_7o0 : mok [] (lenL 2 7 8 ++ []) nN2 51 n2_0_7m0 = true := by kernel_rfl
def n2_0_7ms : List (Nat × List Memo) := [(51, [n2_0_7m0])]
theorem n2_0_7mo : AllMem (memRun [] (lenL 2 7 8 ++ []) nN2) n2_0_7ms := ⟨⟨n2_0_7o0, trivial⟩, trivial⟩
theorem n2_0_7 : lawRunM 3 10 200 [.i, .i, .q, .i, .f, .q, .i, .b] [(0, 5, 2), (1, 3, 0)] (lenL 2 7 8 ++ []) nN2 n2_0_7ms = true := by kernel_rfl
def n2_1_7m0 : Memo := mkM [(.ag [(.i .i64 2), (.sl 70 0 10 (.u 4)), (.sl 69 0 2 (.u 1))]), (.c (.sl 103 0 2 (.u 1)))] [(69, nb8_11), (70, nb8_12), (103, nb8_5)] 190 (.c (.sl 192 0 2 (.n 2))) (192, [(.ef (.vf 314)), (.ef (.vf 315))]) 239
theorem n2_1_7o0 : mok [] (lenL 2 7 8 ++ []) nN2 51 n2_1_7m0 = true := by kernel_rfl
def n2_1_7ms : List (Nat × List Memo) := [(51, [n2_1_7m0])]
theorem n2_1_7mo : AllMem (memRun [] (lenL 2 7 8 ++ []) nN2) n2_1_7ms := ⟨⟨n2_1_7o0, trivial⟩, trivial⟩
theorem n2_1_7 : lawRunM 3 10 200 [.i, .i, .q, .i, .f, .q, .i, .b] [(0, 5, 2), (1, 3, 1)] (lenL 2 7 8 ++ []) nN2 n2_1_7ms = true := by kernel_rfl
def n2_2_7m0 : Memo := mkM [(.ag [(.i .i64 3), (.sl 80 0 11 (.u 4)), (.sl 79 0 3 (.u 1))]), (.c (.sl 117 0 3 (.u 1)))] [(79, nb8_13), (80, nb8_14), (117, nb8_8)] 211 (.c (.sl 213 0 3 (.n 3))) (213, [(.ef (.vf 324)), (.ef (.vf 325)), (.ef (.vf 326))]) 264
theorem n2_2_7o0 : mok [] (lenL 2 7 8 ++ []) nN2 51 n2_2_7m0 = true := by kernel_rfl
def n2_2_7ms : List (Nat × List Memo) := [(51, [n2_2_7m0])]
theorem n2_2_7mo : AllMem (memRun [] (lenL 2 7 8 ++ []) nN2) n2_2_7ms := ⟨⟨n2_2_7o0, trivial⟩, trivial⟩
theorem n2_2_7 : lawRunM 3 10 200 [.i, .i, .q, .i, .f, .q, .i, .b] [(0, 5, 2), (1, 3, 2)] (lenL 2 7 8 ++ []) nN2 n2_2_7ms = true := by kernel_rfl
def n2_0_8m0 : Memo := mkM [(.ag [(.i .i64 1), (.sl 60 0 10 (.u 4)), (.sl 59 0 1 (.u 1))]), (.c (.sl 92 0 1 (.u 1)))] [(59, nb8_15), (60, nb8_16), (92, nb8_2)] 173 (.c (.sl 175 0 1 (.n 1))) (175, [(.ef (.vf 336))]) 222
theorem n2_0_8o0 : mok [] (lenL 2 8 8 ++ []) nN2 51 n2_0_8m0 = true := by kernel_rfl
def n2_0_8ms : List (Nat × List Memo) := [(51, [n2_0_8m0])]
theorem n2_0_8mo : AllMem (memRun [] (lenL 2 8 8 ++ []) nN2) n2_0_8ms := ⟨⟨n2_0_8o0, trivial⟩, trivial⟩
theorem n2_0_8 : lawRunM 3 10 200 [.i, .i, .q, .i, .f, .q, .i, .b] [(0, 5, 2), (1, 3, 0)] (lenL 2 8 8 ++ []) nN2 n2_0_8ms = true := by kernel_rfl
def n2_1_8m0 : Memo := mkM [(.ag [(.i .i64 2), (.sl 70 0 11 (.u 4)), (.sl 69 0 2 (.u 1))]), (.c (.sl 106 0 2 (.u 1)))] [(69, nb8_17), (70, nb8_18), (106, nb8_5)] 194 (.c (.sl 196 0 2 (.n 2))) (196, [(.ef (.vf 346)), (.ef (.vf 347))]) 247
theorem n2_1_8o0 : mok [] (lenL 2 8 8 ++ []) nN2 51 n2_1_8m0 = true := by kernel_rfl
def n2_1_8ms : List (Nat × List Memo) := [(51, [n2_1_8m0])]
theorem n2_1_8mo : AllMem (memRun [] (lenL 2 8 8 ++ []) nN2) n2_1_8ms := ⟨⟨n2_1_8o0, trivial⟩, trivial⟩
theorem n2_1_8 : lawRunM 3 10 200 [.i, .i, .q, .i, .f, .q, .i, .b] [(0, 5, 2), (1, 3, 1)] (lenL 2 8 8 ++ []) nN2 n2_1_8ms = true := by kernel_rfl
def n2_2_8m0 : Memo := mkM [(.ag [(.i .i64 3), (.sl 80 0 12 (.u 4)), (.sl 79 0 3 (.u 1))]), (.c (.sl 120 0 3 (.u 1)))] [(79, nb8_19), (80, nb8_20), (120, nb8_8)] 215 (.c (.sl 217 0 3 (.n 3))) (217, [(.ef (.vf 363)), (.ef (.vf 364)), (.ef (.vf 365))]) 272
theorem n2_2_8o0 : mok [] (lenL 2 8 8 ++ []) nN2 51 n2_2_8m0 = true := by kernel_rfl
def n2_2_8ms : List (Nat × List Memo) := [(51, [n2_2_8m0])]
theorem n2_2_8mo : AllMem (memRun [] (lenL 2 8 8 ++ []) nN2) n2_2_8ms := ⟨⟨n2_2_8o0, trivial⟩, trivial⟩
theorem n2_2_8 : lawRunM 3 10 200 [.i, .i, .q, .i, .f, .q, .i, .b] [(0, 5, 2), (1, 3, 2)] (lenL 2 8 8 ++ []) nN2 n2_2_8ms = true := by kernel_rfl
end Go.Proofs.Ytkncchofgehnpaa
