/-
  'TapeMore': runs of it, part 8.
-/
import Derived.Test.YticbgaflhiokgaaTapeMoret2
namespace Go.Proofs.Yticbgaflhiokgaa
open Go.RowKit Ex
set_option maxRecDepth 1000000
set_option maxHeartbeats 100000000
def wm8_0 : E := (.ib .quo .i64 (.vi 0) (.li 3))
def wm8_1 : E := (.ai 9 0 (.ci (.ib .add .i64 wm8_0 (.li 0)) (.ci (.li 3) .n0)))
def wm8_2 : E := (.ai 9 0 (.ci (.ib .add .i64 wm8_0 (.li 1)) (.ci (.li 3) .n0)))
def wm8_3 : E := (.ai 9 0 (.ci (.ib .add .i64 wm8_0 (.li 2)) (.ci (.li 3) .n0)))
def wm8_4 : E := (.ic .eql (.ai 9 0 (.ci (.at 1 0) (.ci (.li 11) .n0))) (.li 0))
def wm8_5 : E := (.ib .add .i64 (.li 2) (.ai 9 0 (.ci (.at 1 0) (.ci (.li 3) .n0))))
def wm8_6 : E := (.ic .eql (.ai 9 0 (.ci (.at 1 1) (.ci (.li 11) .n0))) (.li 0))
def wm8_7 : E := (.ib .add .i64 (.li 2) (.ai 9 0 (.ci (.at 1 1) (.ci (.li 3) .n0))))
def wm8_8 : E := (.ic .eql (.ai 9 0 (.ci (.at 1 2) (.ci (.li 11) .n0))) (.li 0))
def wm8_9 : E := (.ib .add .i64 (.li 2) (.ai 9 0 (.ci (.at 1 2) (.ci (.li 3) .n0))))
def wm8_10 : E := (.ic .eql (.ai 9 0 (.ci (.at 1 3) (.ci (.li 11) .n0))) (.li 0))
def wm8_11 : E := (.ib .add .i64 (.li 2) (.ai 9 0 (.ci (.at 1 3) (.ci (.li 3) .n0))))
def wm8_12 : E := (.ic .eql (.ai 9 0 (.ci (.at 1 4) (.ci (.li 11) .n0))) (.li 0))
def wm8_13 : E := (.ib .add .i64 (.li 2) (.ai 9 0 (.ci (.at 1 4) (.ci (.li 3) .n0))))
def wm8_14 : E := (.ic .eql (.ai 9 0 (.ci (.at 1 5) (.ci (.li 11) .n0))) (.li 0))
def wm8_15 : E := (.ib .add .i64 (.li 2) (.ai 9 0 (.ci (.at 1 5) (.ci (.li 3) .n0))))
def wm8_16 : E := (.ib .quo .i64 (.vi 4) (.li 9))
def wm8_17 : E := (.ic .eql (.ai 9 0 (.ci (.at 1 6) (.ci (.li 11) .n0))) (.li 0))
def wm8_18 : E := (.ib .add .i64 (.li 2) (.ai 9 0 (.ci (.at 1 6) (.ci (.li 3) .n0))))
def wm8_19 : E := (.ic .eql (.ai 9 0 (.ci (.at 1 7) (.ci (.li 11) .n0))) (.li 0))
def wm8_20 : E := (.ib .add .i64 (.li 2) (.ai 9 0 (.ci (.at 1 7) (.ci (.li 3) .n0))))
def wk8_0 : Blk := [(.i .i64 1), (.i .i64 0), (.i .i64 0), (.f 0)]
def wk8_1 : Blk := [(.i .i64 1), (.i .i64 1), (.i .i64 0), (.f 0)]
def wk8_2 : Blk := [(.i .i64 1), (.i .i64 2), (.i .i64 0), (.f 0)]
def wk8_3 : Blk := [(.i .i64 0), (.i .i64 0), (.i .i64 0), (.ef (.fb .quo (.i2f (.ib .sub .i64 (.ai 9 0 (.ci (.vi 0) (.ci (.li 17) .n0))) (.li 8))) (.lf 4616189618054758400)))]
def wk8_4 : Blk := [(.ei .i64 (.ti wm8_4 (.li 0) (.ti (.vb 2) (.ti (.ic .eql (.ai 9 0 (.ci (.at 1 0) (.ci (.li 7) .n0))) (.li 0)) (.li 5) wm8_5) wm8_5))), (.ei .i64 (.ti wm8_4 (.li 0) (.ai 9 0 (.ci (.ib .quo .i64 (.at 1 0) (.li 4)) (.ci (.li 4) .n0))))), (.ei .i64 (.ti wm8_4 (.li 0) (.ai 9 0 (.ci (.ib .quo .i64 (.at 1 0) (.li 40)) (.ci (.li 4) .n0))))), (.ef (.tf wm8_4 (.fb .quo (.i2f (.ib .sub .i64 (.ai 9 0 (.ci (.ib .quo .i64 (.at 1 0) (.li 11)) (.ci (.li 33) .n0))) (.li 16))) (.lf 4620693217682128896)) (.lf 0)))]
def wk8_5 : Blk := [(.ei .i64 (.ti wm8_6 (.li 0) (.ti (.vb 2) (.ti (.ic .eql (.ai 9 0 (.ci (.at 1 1) (.ci (.li 7) .n0))) (.li 0)) (.li 5) wm8_7) wm8_7))), (.ei .i64 (.ti wm8_6 (.li 0) (.ai 9 0 (.ci (.ib .quo .i64 (.at 1 1) (.li 4)) (.ci (.li 5) .n0))))), (.ei .i64 (.ti wm8_6 (.li 0) (.ai 9 0 (.ci (.ib .quo .i64 (.at 1 1) (.li 40)) (.ci (.li 5) .n0))))), (.ef (.tf wm8_6 (.fb .quo (.i2f (.ib .sub .i64 (.ai 9 0 (.ci (.ib .quo .i64 (.at 1 1) (.li 11)) (.ci (.li 33) .n0))) (.li 16))) (.lf 4620693217682128896)) (.lf 0)))]
def wk8_6 : Blk := [(.ei .i64 (.ti wm8_8 (.li 0) (.ti (.vb 2) (.ti (.ic .eql (.ai 9 0 (.ci (.at 1 2) (.ci (.li 7) .n0))) (.li 0)) (.li 5) wm8_9) wm8_9))), (.ei .i64 (.ti wm8_8 (.li 0) (.ai 9 0 (.ci (.ib .quo .i64 (.at 1 2) (.li 4)) (.ci (.li 6) .n0))))), (.ei .i64 (.ti wm8_8 (.li 0) (.ai 9 0 (.ci (.ib .quo .i64 (.at 1 2) (.li 40)) (.ci (.li 6) .n0))))), (.ef (.tf wm8_8 (.fb .quo (.i2f (.ib .sub .i64 (.ai 9 0 (.ci (.ib .quo .i64 (.at 1 2) (.li 11)) (.ci (.li 33) .n0))) (.li 16))) (.lf 4620693217682128896)) (.lf 0)))]
def wk8_7 : Blk := [(.ei .i64 (.ti wm8_10 (.li 0) (.ti (.vb 2) (.ti (.ic .eql (.ai 9 0 (.ci (.at 1 3) (.ci (.li 7) .n0))) (.li 0)) (.li 5) wm8_11) wm8_11))), (.ei .i64 (.ti wm8_10 (.li 0) (.ai 9 0 (.ci (.ib .quo .i64 (.at 1 3) (.li 4)) (.ci (.li 7) .n0))))), (.ei .i64 (.ti wm8_10 (.li 0) (.ai 9 0 (.ci (.ib .quo .i64 (.at 1 3) (.li 40)) (.ci (.li 7) .n0))))), (.ef (.tf wm8_10 (.fb .quo (.i2f (.ib .sub .i64 (.ai 9 0 (.ci (.ib .quo .i64 (.at 1 3) (.li 11)) (.ci (.li 33) .n0))) (.li 16))) (.lf 4620693217682128896)) (.lf 0)))]
def wk8_8 : Blk := [(.ei .i64 (.ti wm8_12 (.li 0) (.ti (.vb 2) (.ti (.ic .eql (.ai 9 0 (.ci (.at 1 4) (.ci (.li 7) .n0))) (.li 0)) (.li 5) wm8_13) wm8_13))), (.ei .i64 (.ti wm8_12 (.li 0) (.ai 9 0 (.ci (.ib .quo .i64 (.at 1 4) (.li 4)) (.ci (.li 8) .n0))))), (.ei .i64 (.ti wm8_12 (.li 0) (.ai 9 0 (.ci (.ib .quo .i64 (.at 1 4) (.li 40)) (.ci (.li 8) .n0))))), (.ef (.tf wm8_12 (.fb .quo (.i2f (.ib .sub .i64 (.ai 9 0 (.ci (.ib .quo .i64 (.at 1 4) (.li 11)) (.ci (.li 33) .n0))) (.li 16))) (.lf 4620693217682128896)) (.lf 0)))]
def wk8_9 : Blk := [(.ei .i64 (.ti wm8_14 (.li 0) (.ti (.vb 2) (.ti (.ic .eql (.ai 9 0 (.ci (.at 1 5) (.ci (.li 7) .n0))) (.li 0)) (.li 5) wm8_15) wm8_15))), (.ei .i64 (.ti wm8_14 (.li 0) (.ai 9 0 (.ci (.ib .quo .i64 (.at 1 5) (.li 4)) (.ci (.li 9) .n0))))), (.ei .i64 (.ti wm8_14 (.li 0) (.ai 9 0 (.ci (.ib .quo .i64 (.at 1 5) (.li 40)) (.ci (.li 9) .n0))))), (.ef (.tf wm8_14 (.fb .quo (.i2f (.ib .sub .i64 (.ai 9 0 (.ci (.ib .quo .i64 (.at 1 5) (.li 11)) (.ci (.li 33) .n0))) (.li 16))) (.lf 4620693217682128896)) (.lf 0)))]
def wk8_10 : Blk := [(.i .i64 4), (.ei .i64 (.ai 9 0 (.ci (.vi 4) (.ci (.li 10) .n0)))), (.ei .i64 (.ai 9 0 (.ci wm8_16 (.ci (.li 10) .n0)))), (.f 0)]
def wk8_11 : Blk := [(.i .i64 4), (.ei .i64 (.ai 9 0 (.ci (.vi 4) (.ci (.li 11) .n0)))), (.ei .i64 (.ai 9 0 (.ci wm8_16 (.ci (.li 11) .n0)))), (.f 0)]
def wk8_12 : Blk := [(.i .i64 4), (.ei .i64 (.ai 9 0 (.ci (.vi 4) (.ci (.li 12) .n0)))), (.ei .i64 (.ai 9 0 (.ci wm8_16 (.ci (.li 12) .n0)))), (.f 0)]
def wk8_13 : Blk := [(.i .i64 4), (.ei .i64 (.ai 9 0 (.ci (.vi 4) (.ci (.li 13) .n0)))), (.ei .i64 (.ai 9 0 (.ci wm8_16 (.ci (.li 13) .n0)))), (.f 0)]
def wk8_14 : Blk := [(.i .i64 4), (.ei .i64 (.ai 9 0 (.ci (.vi 4) (.ci (.li 14) .n0)))), (.ei .i64 (.ai 9 0 (.ci wm8_16 (.ci (.li 14) .n0)))), (.f 0)]
def wk8_15 : Blk := [(.i .i64 4), (.ei .i64 (.ai 9 0 (.ci (.vi 4) (.ci (.li 15) .n0)))), (.ei .i64 (.ai 9 0 (.ci wm8_16 (.ci (.li 15) .n0)))), (.f 0)]
def wk8_16 : Blk := [(.i .i64 4), (.ei .i64 (.ai 9 0 (.ci (.vi 4) (.ci (.li 16) .n0)))), (.ei .i64 (.ai 9 0 (.ci wm8_16 (.ci (.li 16) .n0)))), (.f 0)]
def wk8_17 : Blk := [(.i .i64 4), (.ei .i64 (.ai 9 0 (.ci (.vi 4) (.ci (.li 17) .n0)))), (.ei .i64 (.ai 9 0 (.ci wm8_16 (.ci (.li 17) .n0)))), (.f 0)]
def wk8_18 : Blk := [(.ei .i64 (.ti wm8_17 (.li 0) (.ti (.vb 2) (.ti (.ic .eql (.ai 9 0 (.ci (.at 1 6) (.ci (.li 7) .n0))) (.li 0)) (.li 5) wm8_18) wm8_18))), (.ei .i64 (.ti wm8_17 (.li 0) (.ai 9 0 (.ci (.ib .quo .i64 (.at 1 6) (.li 4)) (.ci (.li 10) .n0))))), (.ei .i64 (.ti wm8_17 (.li 0) (.ai 9 0 (.ci (.ib .quo .i64 (.at 1 6) (.li 40)) (.ci (.li 10) .n0))))), (.ef (.tf wm8_17 (.fb .quo (.i2f (.ib .sub .i64 (.ai 9 0 (.ci (.ib .quo .i64 (.at 1 6) (.li 11)) (.ci (.li 33) .n0))) (.li 16))) (.lf 4620693217682128896)) (.lf 0)))]
def wk8_19 : Blk := [(.i .i64 4), (.ei .i64 (.ai 9 0 (.ci (.vi 4) (.ci (.li 18) .n0)))), (.ei .i64 (.ai 9 0 (.ci wm8_16 (.ci (.li 18) .n0)))), (.f 0)]
def wk8_20 : Blk := [(.ei .i64 (.ti wm8_19 (.li 0) (.ti (.vb 2) (.ti (.ic .eql (.ai 9 0 (.ci (.at 1 7) (.ci (.li 7) .n0))) (.li 0)) (.li 5) wm8_20) wm8_20))), (.ei .i64 (.ti wm8_19 (.li 0) (.ai 9 0 (.ci (.ib .quo .i64 (.at 1 7) (.li 4)) (.ci (.li 11) .n0))))), (.ei .i64 (.ti wm8_19 (.li 0) (.ai 9 0 (.ci (.ib .quo .i64 (.at 1 7) (.li 40)) (.ci (.li 11) .n0))))), (.ef (.tf wm8_19 (.fb .quo (.i2f (.ib .sub .i64 (.ai 9 0 (.ci (.ib .quo .i64 (.at 1 7) (.li 11)) (.ci (.li 33) .n0))) (.li 16))) (.lf 4620693217682128896)) (.lf 0)))]
def wb8_0 : Blk := [(.ei .i64 (.ib .sub .i64 (.li 9) wm8_1)), (.ei .i64 (.ib .sub .i64 (.li 9) wm8_2)), (.ei .i64 (.ib .sub .i64 (.li 9) wm8_3))]
def wb8_1 : Blk := wk8_0 ++ wk8_1 ++ wk8_2 ++ wk8_3 ++ wk8_4 ++ wk8_5 ++ wk8_6 ++ wk8_7 ++ wk8_8 ++ wk8_9
def wb8_2 : Blk := [(.ef (.fb .quo (.i2f (.ib .sub .i64 (.ai 9 0 (.ci (.ti (.ic .lss (.li 0) (.vl 3)) (.at 3 0) (.li 0)) (.ci (.li 65) .n0))) (.li 32))) (.lf 4620693217682128896))), (.ef (.fb .quo (.i2f (.ib .sub .i64 (.ai 9 0 (.ci (.ti (.ic .lss (.li 1) (.vl 3)) (.at 3 1) (.li 1)) (.ci (.li 65) .n0))) (.li 32))) (.lf 4620693217682128896))), (.ef (.fb .quo (.i2f (.ib .sub .i64 (.ai 9 0 (.ci (.ti (.ic .lss (.li 2) (.vl 3)) (.at 3 2) (.li 2)) (.ci (.li 65) .n0))) (.li 32))) (.lf 4620693217682128896)))]
def wb8_3 : Blk := [(.ef (.vf 154)), (.ef (.vf 155)), (.ef (.vf 156))]
def wb8_4 : Blk := [(.ei .i64 (.ib .sub .i64 (.li 9) wm8_3)), (.ei .i64 (.ib .sub .i64 (.li 9) wm8_2)), (.ei .i64 (.ib .sub .i64 (.li 9) wm8_3))]
def wb8_5 : Blk := [(.ef (.vf 156)), (.ef (.vf 155)), (.ef (.vf 156))]
def wb8_6 : Blk := wk8_0 ++ wk8_1 ++ wk8_2 ++ wk8_3 ++ wk8_4 ++ wk8_5 ++ wk8_6 ++ wk8_7 ++ wk8_8 ++ wk8_9 ++ wk8_10
def wb8_7 : Blk := wk8_0 ++ wk8_1 ++ wk8_2 ++ wk8_3 ++ wk8_4 ++ wk8_5 ++ wk8_6 ++ wk8_7 ++ wk8_8 ++ wk8_9 ++ wk8_10 ++ wk8_11
def wb8_8 : Blk := wk8_0 ++ wk8_1 ++ wk8_2 ++ wk8_3 ++ wk8_4 ++ wk8_5 ++ wk8_6 ++ wk8_7 ++ wk8_8 ++ wk8_9 ++ wk8_10 ++ wk8_11 ++ wk8_12
def wb8_9 : Blk := wk8_0 ++ wk8_1 ++ wk8_2 ++ wk8_3 ++ wk8_4 ++ wk8_5 ++ wk8_6 ++ wk8_7 ++ wk8_8 ++ wk8_9 ++ wk8_10 ++ wk8_11 ++ wk8_12 ++ wk8_13
def wb8_10 : Blk := wk8_0 ++ wk8_1 ++ wk8_2 ++ wk8_3 ++ wk8_4 ++ wk8_5 ++ wk8_6 ++ wk8_7 ++ wk8_8 ++ wk8_9 ++ wk8_10 ++ wk8_11 ++ wk8_12 ++ wk8_13 ++ wk8_14
def wb8_11 : Blk := wk8_0 ++ wk8_1 ++ wk8_2 ++ wk8_3 ++ wk8_4 ++ wk8_5 ++ wk8_6 ++ wk8_7 ++ wk8_8 ++ wk8_9 ++ wk8_10 ++ wk8_11 ++ wk8_12 ++ wk8_13 ++ wk8_14 ++ wk8_15
def wb8_12 : Blk := wk8_0 ++ wk8_1 ++ wk8_2 ++ wk8_3 ++ wk8_4 ++ wk8_5 ++ wk8_6 ++ wk8_7 ++ wk8_8 ++ wk8_9 ++ wk8_10 ++ wk8_11 ++ wk8_12 ++ wk8_13 ++ wk8_14 ++ wk8_15 ++ wk8_16
def wb8_13 : Blk := wk8_0 ++ wk8_1 ++ wk8_2 ++ wk8_3 ++ wk8_4 ++ wk8_5 ++ wk8_6 ++ wk8_7 ++ wk8_8 ++ wk8_9 ++ wk8_10 ++ wk8_11 ++ wk8_12 ++ wk8_13 ++ wk8_14 ++ wk8_15 ++ wk8_16 ++ wk8_17
def wb8_14 : Blk := [(.ei .i64 (.ib .sub .i64 (.li 10) wm8_1)), (.ei .i64 (.ib .sub .i64 (.li 10) wm8_2)), (.ei .i64 (.ib .sub .i64 (.li 10) wm8_3))]
def wb8_15 : Blk := wk8_0 ++ wk8_1 ++ wk8_2 ++ wk8_3 ++ wk8_4 ++ wk8_5 ++ wk8_6 ++ wk8_7 ++ wk8_8 ++ wk8_9 ++ wk8_18
def wb8_16 : Blk := [(.ef (.vf 151)), (.ef (.vf 152)), (.ef (.vf 153))]
def wb8_17 : Blk := [(.ei .i64 (.ib .sub .i64 (.li 10) wm8_3)), (.ei .i64 (.ib .sub .i64 (.li 10) wm8_2)), (.ei .i64 (.ib .sub .i64 (.li 10) wm8_3))]
def wb8_18 : Blk := [(.ef (.vf 153)), (.ef (.vf 152)), (.ef (.vf 153))]
def wb8_19 : Blk := wk8_0 ++ wk8_1 ++ wk8_2 ++ wk8_3 ++ wk8_4 ++ wk8_5 ++ wk8_6 ++ wk8_7 ++ wk8_8 ++ wk8_9 ++ wk8_18 ++ wk8_11
def wb8_20 : Blk := wk8_0 ++ wk8_1 ++ wk8_2 ++ wk8_3 ++ wk8_4 ++ wk8_5 ++ wk8_6 ++ wk8_7 ++ wk8_8 ++ wk8_9 ++ wk8_18 ++ wk8_11 ++ wk8_12
def wb8_21 : Blk := wk8_0 ++ wk8_1 ++ wk8_2 ++ wk8_3 ++ wk8_4 ++ wk8_5 ++ wk8_6 ++ wk8_7 ++ wk8_8 ++ wk8_9 ++ wk8_18 ++ wk8_11 ++ wk8_12 ++ wk8_13
def wb8_22 : Blk := wk8_0 ++ wk8_1 ++ wk8_2 ++ wk8_3 ++ wk8_4 ++ wk8_5 ++ wk8_6 ++ wk8_7 ++ wk8_8 ++ wk8_9 ++ wk8_18 ++ wk8_11 ++ wk8_12 ++ wk8_13 ++ wk8_14
def wb8_23 : Blk := wk8_0 ++ wk8_1 ++ wk8_2 ++ wk8_3 ++ wk8_4 ++ wk8_5 ++ wk8_6 ++ wk8_7 ++ wk8_8 ++ wk8_9 ++ wk8_18 ++ wk8_11 ++ wk8_12 ++ wk8_13 ++ wk8_14 ++ wk8_15
def wb8_24 : Blk := wk8_0 ++ wk8_1 ++ wk8_2 ++ wk8_3 ++ wk8_4 ++ wk8_5 ++ wk8_6 ++ wk8_7 ++ wk8_8 ++ wk8_9 ++ wk8_18 ++ wk8_11 ++ wk8_12 ++ wk8_13 ++ wk8_14 ++ wk8_15 ++ wk8_16
def wb8_25 : Blk := wk8_0 ++ wk8_1 ++ wk8_2 ++ wk8_3 ++ wk8_4 ++ wk8_5 ++ wk8_6 ++ wk8_7 ++ wk8_8 ++ wk8_9 ++ wk8_18 ++ wk8_11 ++ wk8_12 ++ wk8_13 ++ wk8_14 ++ wk8_15 ++ wk8_16 ++ wk8_17
def wb8_26 : Blk := wk8_0 ++ wk8_1 ++ wk8_2 ++ wk8_3 ++ wk8_4 ++ wk8_5 ++ wk8_6 ++ wk8_7 ++ wk8_8 ++ wk8_9 ++ wk8_18 ++ wk8_11 ++ wk8_12 ++ wk8_13 ++ wk8_14 ++ wk8_15 ++ wk8_16 ++ wk8_17 ++ wk8_19
def wb8_27 : Blk := [(.ei .i64 (.ib .sub .i64 (.li 11) wm8_1)), (.ei .i64 (.ib .sub .i64 (.li 11) wm8_2)), (.ei .i64 (.ib .sub .i64 (.li 11) wm8_3))]
def wb8_28 : Blk := wk8_0 ++ wk8_1 ++ wk8_2 ++ wk8_3 ++ wk8_4 ++ wk8_5 ++ wk8_6 ++ wk8_7 ++ wk8_8 ++ wk8_9 ++ wk8_18 ++ wk8_20
def wb8_29 : Blk := [(.ef (.vf 148)), (.ef (.vf 149)), (.ef (.vf 150))]
def wb8_30 : Blk := [(.ei .i64 (.ib .sub .i64 (.li 11) wm8_3)), (.ei .i64 (.ib .sub .i64 (.li 11) wm8_2)), (.ei .i64 (.ib .sub .i64 (.li 11) wm8_3))]
def wb8_31 : Blk := [(.ef (.vf 150)), (.ef (.vf 149)), (.ef (.vf 150))]
def wb8_32 : Blk := wk8_0 ++ wk8_1 ++ wk8_2 ++ wk8_3 ++ wk8_4 ++ wk8_5 ++ wk8_6 ++ wk8_7 ++ wk8_8 ++ wk8_9 ++ wk8_18 ++ wk8_20 ++ wk8_12
def wb8_33 : Blk := wk8_0 ++ wk8_1 ++ wk8_2 ++ wk8_3 ++ wk8_4 ++ wk8_5 ++ wk8_6 ++ wk8_7 ++ wk8_8 ++ wk8_9 ++ wk8_18 ++ wk8_20 ++ wk8_12 ++ wk8_13
def wb8_34 : Blk := wk8_0 ++ wk8_1 ++ wk8_2 ++ wk8_3 ++ wk8_4 ++ wk8_5 ++ wk8_6 ++ wk8_7 ++ wk8_8 ++ wk8_9 ++ wk8_18 ++ wk8_20 ++ wk8_12 ++ wk8_13 ++ wk8_14
def wb8_35 : Blk := wk8_0 ++ wk8_1 ++ wk8_2 ++ wk8_3 ++ wk8_4 ++ wk8_5 ++ wk8_6 ++ wk8_7 ++ wk8_8 ++ wk8_9 ++ wk8_18 ++ wk8_20 ++ wk8_12 ++ wk8_13 ++ wk8_14 ++ wk8_15
def wb8_36 : Blk := wk8_0 ++ wk8_1 ++ wk8_2 ++ wk8_3 ++ wk8_4 ++ wk8_5 ++ wk8_6 ++ wk8_7 ++ wk8_8 ++ wk8_9 ++ wk8_18 ++ wk8_20 ++ wk8_12 ++ wk8_13 ++ wk8_14 ++ wk8_15 ++ wk8_16
def wb8_37 : Blk := wk8_0 ++ wk8_1 ++ wk8_2 ++ wk8_3 ++ wk8_4 ++ wk8_5 ++ wk8_6 ++ wk8_7 ++ wk8_8 ++ wk8_9 ++ wk8_18 ++ wk8_20 ++ wk8_12 ++ wk8_13 ++ wk8_14 ++ wk8_15 ++ wk8_16 ++ wk8_17
def wb8_38 : Blk := wk8_0 ++ wk8_1 ++ wk8_2 ++ wk8_3 ++ wk8_4 ++ wk8_5 ++ wk8_6 ++ wk8_7 ++ wk8_8 ++ wk8_9 ++ wk8_18 ++ wk8_20 ++ wk8_12 ++ wk8_13 ++ wk8_14 ++ wk8_15 ++ wk8_16 ++ wk8_17 ++ wk8_19
def wb8_39 : Blk := wk8_0 ++ wk8_1 ++ wk8_2 ++ wk8_3 ++ wk8_4 ++ wk8_5 ++ wk8_6 ++ wk8_7 ++ wk8_8 ++ wk8_9 ++ wk8_18 ++ wk8_20 ++ wk8_12 ++ wk8_13 ++ wk8_14 ++ wk8_15 ++ wk8_16 ++ wk8_17 ++ wk8_19 ++ [(.i .i64 4), (.ei .i64 (.ai 9 0 (.ci (.vi 4) (.ci (.li 19) .n0)))), (.ei .i64 (.ai 9 0 (.ci wm8_16 (.ci (.li 19) .n0)))), (.f 0)]
def w2_0_6m0 : Memo :=  (⟨[(.ag [(.i .i64 3), (.sl 11 0 10 (.u 4)), (.sl 10 0 3 (.u 1))]), (.c (.sl 80 0 3 (.u 1)))], [(10, wb8_0), (11, wb8_1), (80, wb8_2)], 97, (.c (.sl 99 0 3 (.n 3))), [(10, wb8_0), (11, wb8_1), (80, wb8_2), (99, wb8_3)], 146⟩) 
theorem w2_0_6o0 : mok [(0, 3, 2), (4, 9, 0)] (lenL 1 6 8 ++ []) wN2 21 w2_0_6m0 = true := by kernel_rfl
def w2_0_6m1 : Memo :=  (⟨[(.ag [(.i .i64 3), (.sl 45 0 10 (.u 4)), (.sl 44 0 3 (.u 1))]), (.c (.sl 80 0 3 (.u 1)))], [(44, wb8_0), (45, wb8_1), (80, wb8_2)], 146, (.c (.sl 148 0 3 (.n 3))), [(44, wb8_0), (45, wb8_1), (80, wb8_2), (148, wb8_3)], 195⟩) 
theorem w2_0_6o1 : mok [(0, 3, 2), (4, 9, 0)] (lenL 1 6 8 ++ []) wN2 21 w2_0_6m1 = true := by kernel_rfl
def w2_0_6m2 : Memo :=  (⟨[(.ag [(.i .i64 3), (.sl 45 0 10 (.u 4)), (.sl 44 0 3 (.u 1))]), (.c (.sl 80 0 3 (.u 1)))], [(44, wb8_4), (45, wb8_1), (80, wb8_2)], 195, (.c (.sl 197 0 3 (.n 3))), [(44, wb8_4), (45, wb8_1), (80, wb8_2), (197, wb8_5)], 244⟩) 
theorem w2_0_6o2 : mok [(0, 3, 2), (4, 9, 0)] (lenL 1 6 8 ++ []) wN2 21 w2_0_6m2 = true := by kernel_rfl
def w2_0_6ms : List (Nat × List Memo) := [(21, [w2_0_6m0, w2_0_6m1, w2_0_6m2])]
theorem w2_0_6mo : AllMem (memRun [(0, 3, 2), (4, 9, 0)] (lenL 1 6 8 ++ []) wN2) w2_0_6ms := ⟨⟨w2_0_6o0, w2_0_6o1, w2_0_6o2, trivial⟩, trivial⟩
theorem w2_0_6 : lawRunM 9 10 200 [.i, .q, .b, .q, .i] [(0, 3, 2), (4, 9, 0)] (lenL 1 6 8 ++ []) wN2 w2_0_6ms = true := by kernel_rfl
def w2_1_6m0 : Memo :=  (⟨[(.ag [(.i .i64 3), (.sl 11 0 10 (.u 4)), (.sl 10 0 3 (.u 1))]), (.c (.sl 80 0 3 (.u 1)))], [(10, wb8_0), (11, wb8_1), (80, wb8_2)], 100, (.c (.sl 102 0 3 (.n 3))), [(10, wb8_0), (11, wb8_1), (80, wb8_2), (102, wb8_3)], 149⟩) 
theorem w2_1_6o0 : mok [(0, 3, 2), (4, 9, 1)] (lenL 1 6 8 ++ []) wN2 21 w2_1_6m0 = true := by kernel_rfl
def w2_1_6m1 : Memo :=  (⟨[(.ag [(.i .i64 3), (.sl 87 0 11 (.u 4)), (.sl 44 0 3 (.u 1))]), (.c (.sl 80 0 3 (.u 1)))], [(44, wb8_0), (80, wb8_2), (87, wb8_6)], 149, (.c (.sl 151 0 3 (.n 3))), [(44, wb8_0), (80, wb8_2), (87, wb8_6), (151, wb8_3)], 202⟩) 
theorem w2_1_6o1 : mok [(0, 3, 2), (4, 9, 1)] (lenL 1 6 8 ++ []) wN2 21 w2_1_6m1 = true := by kernel_rfl
def w2_1_6m2 : Memo :=  (⟨[(.ag [(.i .i64 3), (.sl 87 0 11 (.u 4)), (.sl 44 0 3 (.u 1))]), (.c (.sl 80 0 3 (.u 1)))], [(44, wb8_4), (80, wb8_2), (87, wb8_6)], 202, (.c (.sl 204 0 3 (.n 3))), [(44, wb8_4), (80, wb8_2), (87, wb8_6), (204, wb8_5)], 255⟩) 
theorem w2_1_6o2 : mok [(0, 3, 2), (4, 9, 1)] (lenL 1 6 8 ++ []) wN2 21 w2_1_6m2 = true := by kernel_rfl
def w2_1_6ms : List (Nat × List Memo) := [(21, [w2_1_6m0, w2_1_6m1, w2_1_6m2])]
theorem w2_1_6mo : AllMem (memRun [(0, 3, 2), (4, 9, 1)] (lenL 1 6 8 ++ []) wN2) w2_1_6ms := ⟨⟨w2_1_6o0, w2_1_6o1, w2_1_6o2, trivial⟩, trivial⟩
theorem w2_1_6 : lawRunM 9 10 200 [.i, .q, .b, .q, .i] [(0, 3, 2), (4, 9, 1)] (lenL 1 6 8 ++ []) wN2 w2_1_6ms = true := by kernel_rfl
def w2_2_6m0 : Memo :=  (⟨[(.ag [(.i .i64 3), (.sl 11 0 10 (.u 4)), (.sl 10 0 3 (.u 1))]), (.c (.sl 80 0 3 (.u 1)))], [(10, wb8_0), (11, wb8_1), (80, wb8_2)], 103, (.c (.sl 105 0 3 (.n 3))), [(10, wb8_0), (11, wb8_1), (80, wb8_2), (105, wb8_3)], 152⟩) 
theorem w2_2_6o0 : mok [(0, 3, 2), (4, 9, 2)] (lenL 1 6 8 ++ []) wN2 21 w2_2_6m0 = true := by kernel_rfl
def w2_2_6m1 : Memo :=  (⟨[(.ag [(.i .i64 3), (.sl 89 0 12 (.u 4)), (.sl 44 0 3 (.u 1))]), (.c (.sl 80 0 3 (.u 1)))], [(44, wb8_0), (80, wb8_2), (89, wb8_7)], 152, (.c (.sl 154 0 3 (.n 3))), [(44, wb8_0), (80, wb8_2), (89, wb8_7), (154, wb8_3)], 209⟩) 
theorem w2_2_6o1 : mok [(0, 3, 2), (4, 9, 2)] (lenL 1 6 8 ++ []) wN2 21 w2_2_6m1 = true := by kernel_rfl
def w2_2_6m2 : Memo :=  (⟨[(.ag [(.i .i64 3), (.sl 89 0 12 (.u 4)), (.sl 44 0 3 (.u 1))]), (.c (.sl 80 0 3 (.u 1)))], [(44, wb8_4), (80, wb8_2), (89, wb8_7)], 209, (.c (.sl 211 0 3 (.n 3))), [(44, wb8_4), (80, wb8_2), (89, wb8_7), (211, wb8_5)], 266⟩) 
theorem w2_2_6o2 : mok [(0, 3, 2), (4, 9, 2)] (lenL 1 6 8 ++ []) wN2 21 w2_2_6m2 = true := by kernel_rfl
def w2_2_6ms : List (Nat × List Memo) := [(21, [w2_2_6m0, w2_2_6m1, w2_2_6m2])]
theorem w2_2_6mo : AllMem (memRun [(0, 3, 2), (4, 9, 2)] (lenL 1 6 8 ++ []) wN2) w2_2_6ms := ⟨⟨w2_2_6o0, w2_2_6o1, w2_2_6o2, trivial⟩, trivial⟩
theorem w2_2_6 : lawRunM 9 10 200 [.i, .q, .b, .q, .i] [(0, 3, 2), (4, 9, 2)] (lenL 1 6 8 ++ []) wN2 w2_2_6ms = true := by kernel_rfl
def w2_3_6m0 : Memo :=  (⟨[(.ag [(.i .i64 3), (.sl 11 0 10 (.u 4)), (.sl 10 0 3 (.u 1))]), (.c (.sl 80 0 3 (.u 1)))], [(10, wb8_0), (11, wb8_1), (80, wb8_2)], 106, (.c (.sl 108 0 3 (.n 3))), [(10, wb8_0), (11, wb8_1), (80, wb8_2), (108, wb8_3)], 155⟩) 
theorem w2_3_6o0 : mok [(0, 3, 2), (4, 9, 3)] (lenL 1 6 8 ++ []) wN2 21 w2_3_6m0 = true := by kernel_rfl
def w2_3_6m1 : Memo :=  (⟨[(.ag [(.i .i64 3), (.sl 91 0 13 (.u 4)), (.sl 44 0 3 (.u 1))]), (.c (.sl 80 0 3 (.u 1)))], [(44, wb8_0), (80, wb8_2), (91, wb8_8)], 155, (.c (.sl 157 0 3 (.n 3))), [(44, wb8_0), (80, wb8_2), (91, wb8_8), (157, wb8_3)], 216⟩) 
theorem w2_3_6o1 : mok [(0, 3, 2), (4, 9, 3)] (lenL 1 6 8 ++ []) wN2 21 w2_3_6m1 = true := by kernel_rfl
def w2_3_6m2 : Memo :=  (⟨[(.ag [(.i .i64 3), (.sl 91 0 13 (.u 4)), (.sl 44 0 3 (.u 1))]), (.c (.sl 80 0 3 (.u 1)))], [(44, wb8_4), (80, wb8_2), (91, wb8_8)], 216, (.c (.sl 218 0 3 (.n 3))), [(44, wb8_4), (80, wb8_2), (91, wb8_8), (218, wb8_5)], 277⟩) 
theorem w2_3_6o2 : mok [(0, 3, 2), (4, 9, 3)] (lenL 1 6 8 ++ []) wN2 21 w2_3_6m2 = true := by kernel_rfl
def w2_3_6ms : List (Nat × List Memo) := [(21, [w2_3_6m0, w2_3_6m1, w2_3_6m2])]
theorem w2_3_6mo : AllMem (memRun [(0, 3, 2), (4, 9, 3)] (lenL 1 6 8 ++ []) wN2) w2_3_6ms := ⟨⟨w2_3_6o0, w2_3_6o1, w2_3_6o2, trivial⟩, trivial⟩
theorem w2_3_6 : lawRunM 9 10 200 [.i, .q, .b, .q, .i] [(0, 3, 2), (4, 9, 3)] (lenL 1 6 8 ++ []) wN2 w2_3_6ms = true := by kernel_rfl
def w2_4_6m0 : Memo :=  (⟨[(.ag [(.i .i64 3), (.sl 11 0 10 (.u 4)), (.sl 10 0 3 (.u 1))]), (.c (.sl 80 0 3 (.u 1)))], [(10, wb8_0), (11, wb8_1), (80, wb8_2)], 109, (.c (.sl 111 0 3 (.n 3))), [(10, wb8_0), (11, wb8_1), (80, wb8_2), (111, wb8_3)], 158⟩) 
theorem w2_4_6o0 : mok [(0, 3, 2), (4, 9, 4)] (lenL 1 6 8 ++ []) wN2 21 w2_4_6m0 = true := by kernel_rfl
def w2_4_6m1 : Memo :=  (⟨[(.ag [(.i .i64 3), (.sl 93 0 14 (.u 4)), (.sl 44 0 3 (.u 1))]), (.c (.sl 80 0 3 (.u 1)))], [(44, wb8_0), (80, wb8_2), (93, wb8_9)], 158, (.c (.sl 160 0 3 (.n 3))), [(44, wb8_0), (80, wb8_2), (93, wb8_9), (160, wb8_3)], 223⟩) 
theorem w2_4_6o1 : mok [(0, 3, 2), (4, 9, 4)] (lenL 1 6 8 ++ []) wN2 21 w2_4_6m1 = true := by kernel_rfl
def w2_4_6m2 : Memo :=  (⟨[(.ag [(.i .i64 3), (.sl 93 0 14 (.u 4)), (.sl 44 0 3 (.u 1))]), (.c (.sl 80 0 3 (.u 1)))], [(44, wb8_4), (80, wb8_2), (93, wb8_9)], 223, (.c (.sl 225 0 3 (.n 3))), [(44, wb8_4), (80, wb8_2), (93, wb8_9), (225, wb8_5)], 288⟩) 
theorem w2_4_6o2 : mok [(0, 3, 2), (4, 9, 4)] (lenL 1 6 8 ++ []) wN2 21 w2_4_6m2 = true := by kernel_rfl
def w2_4_6ms : List (Nat × List Memo) := [(21, [w2_4_6m0, w2_4_6m1, w2_4_6m2])]
theorem w2_4_6mo : AllMem (memRun [(0, 3, 2), (4, 9, 4)] (lenL 1 6 8 ++ []) wN2) w2_4_6ms := ⟨⟨w2_4_6o0, w2_4_6o1, w2_4_6o2, trivial⟩, trivial⟩
theorem w2_4_6 : lawRunM 9 10 200 [.i, .q, .b, .q, .i] [(0, 3, 2), (4, 9, 4)] (lenL 1 6 8 ++ []) wN2 w2_4_6ms = true := by kernel_rfl
def w2_5_6m0 : Memo :=  (⟨[(.ag [(.i .i64 3), (.sl 11 0 10 (.u 4)), (.sl 10 0 3 (.u 1))]), (.c (.sl 80 0 3 (.u 1)))], [(10, wb8_0), (11, wb8_1), (80, wb8_2)], 112, (.c (.sl 114 0 3 (.n 3))), [(10, wb8_0), (11, wb8_1), (80, wb8_2), (114, wb8_3)], 161⟩) 
theorem w2_5_6o0 : mok [(0, 3, 2), (4, 9, 5)] (lenL 1 6 8 ++ []) wN2 21 w2_5_6m0 = true := by kernel_rfl
def w2_5_6m1 : Memo :=  (⟨[(.ag [(.i .i64 3), (.sl 95 0 15 (.u 4)), (.sl 44 0 3 (.u 1))]), (.c (.sl 80 0 3 (.u 1)))], [(44, wb8_0), (80, wb8_2), (95, wb8_10)], 161, (.c (.sl 163 0 3 (.n 3))), [(44, wb8_0), (80, wb8_2), (95, wb8_10), (163, wb8_3)], 230⟩) 
theorem w2_5_6o1 : mok [(0, 3, 2), (4, 9, 5)] (lenL 1 6 8 ++ []) wN2 21 w2_5_6m1 = true := by kernel_rfl
def w2_5_6m2 : Memo :=  (⟨[(.ag [(.i .i64 3), (.sl 95 0 15 (.u 4)), (.sl 44 0 3 (.u 1))]), (.c (.sl 80 0 3 (.u 1)))], [(44, wb8_4), (80, wb8_2), (95, wb8_10)], 230, (.c (.sl 232 0 3 (.n 3))), [(44, wb8_4), (80, wb8_2), (95, wb8_10), (232, wb8_5)], 299⟩) 
theorem w2_5_6o2 : mok [(0, 3, 2), (4, 9, 5)] (lenL 1 6 8 ++ []) wN2 21 w2_5_6m2 = true := by kernel_rfl
def w2_5_6ms : List (Nat × List Memo) := [(21, [w2_5_6m0, w2_5_6m1, w2_5_6m2])]
theorem w2_5_6mo : AllMem (memRun [(0, 3, 2), (4, 9, 5)] (lenL 1 6 8 ++ []) wN2) w2_5_6ms := ⟨⟨w2_5_6o0, w2_5_6o1, w2_5_6o2, trivial⟩, trivial⟩
theorem w2_5_6 : lawRunM 9 10 200 [.i, .q, .b, .q, .i] [(0, 3, 2), (4, 9, 5)] (lenL 1 6 8 ++ []) wN2 w2_5_6ms = true := by kernel_rfl
def w2_6_6m0 : Memo :=  (⟨[(.ag [(.i .i64 3), (.sl 11 0 10 (.u 4)), (.sl 10 0 3 (.u 1))]), (.c (.sl 80 0 3 (.u 1)))], [(10, wb8_0), (11, wb8_1), (80, wb8_2)], 115, (.c (.sl 117 0 3 (.n 3))), [(10, wb8_0), (11, wb8_1), (80, wb8_2), (117, wb8_3)], 164⟩) 
theorem w2_6_6o0 : mok [(0, 3, 2), (4, 9, 6)] (lenL 1 6 8 ++ []) wN2 21 w2_6_6m0 = true := by kernel_rfl
def w2_6_6m1 : Memo :=  (⟨[(.ag [(.i .i64 3), (.sl 97 0 16 (.u 4)), (.sl 44 0 3 (.u 1))]), (.c (.sl 80 0 3 (.u 1)))], [(44, wb8_0), (80, wb8_2), (97, wb8_11)], 164, (.c (.sl 166 0 3 (.n 3))), [(44, wb8_0), (80, wb8_2), (97, wb8_11), (166, wb8_3)], 237⟩) 
theorem w2_6_6o1 : mok [(0, 3, 2), (4, 9, 6)] (lenL 1 6 8 ++ []) wN2 21 w2_6_6m1 = true := by kernel_rfl
def w2_6_6m2 : Memo :=  (⟨[(.ag [(.i .i64 3), (.sl 97 0 16 (.u 4)), (.sl 44 0 3 (.u 1))]), (.c (.sl 80 0 3 (.u 1)))], [(44, wb8_4), (80, wb8_2), (97, wb8_11)], 237, (.c (.sl 239 0 3 (.n 3))), [(44, wb8_4), (80, wb8_2), (97, wb8_11), (239, wb8_5)], 310⟩) 
theorem w2_6_6o2 : mok [(0, 3, 2), (4, 9, 6)] (lenL 1 6 8 ++ []) wN2 21 w2_6_6m2 = true := by kernel_rfl
def w2_6_6ms : List (Nat × List Memo) := [(21, [w2_6_6m0, w2_6_6m1, w2_6_6m2])]
theorem w2_6_6mo : AllMem (memRun [(0, 3, 2), (4, 9, 6)] (lenL 1 6 8 ++ []) wN2) w2_6_6ms := ⟨⟨w2_6_6o0, w2_6_6o1, w2_6_6o2, trivial⟩, trivial⟩
theorem w2_6_6 : lawRunM 9 10 200 [.i, .q, .b, .q, .i] [(0, 3, 2), (4, 9, 6)] (lenL 1 6 8 ++ []) wN2 w2_6_6ms = true := by kernel_rfl
def w2_7_6m0 : Memo :=  (⟨[(.ag [(.i .i64 3), (.sl 11 0 10 (.u 4)), (.sl 10 0 3 (.u 1))]), (.c (.sl 80 0 3 (.u 1)))], [(10, wb8_0), (11, wb8_1), (80, wb8_2)], 118, (.c (.sl 120 0 3 (.n 3))), [(10, wb8_0), (11, wb8_1), (80, wb8_2), (120, wb8_3)], 167⟩) 
theorem w2_7_6o0 : mok [(0, 3, 2), (4, 9, 7)] (lenL 1 6 8 ++ []) wN2 21 w2_7_6m0 = true := by kernel_rfl
def w2_7_6m1 : Memo :=  (⟨[(.ag [(.i .i64 3), (.sl 99 0 17 (.u 4)), (.sl 44 0 3 (.u 1))]), (.c (.sl 80 0 3 (.u 1)))], [(44, wb8_0), (80, wb8_2), (99, wb8_12)], 167, (.c (.sl 169 0 3 (.n 3))), [(44, wb8_0), (80, wb8_2), (99, wb8_12), (169, wb8_3)], 244⟩) 
theorem w2_7_6o1 : mok [(0, 3, 2), (4, 9, 7)] (lenL 1 6 8 ++ []) wN2 21 w2_7_6m1 = true := by kernel_rfl
def w2_7_6m2 : Memo :=  (⟨[(.ag [(.i .i64 3), (.sl 99 0 17 (.u 4)), (.sl 44 0 3 (.u 1))]), (.c (.sl 80 0 3 (.u 1)))], [(44, wb8_4), (80, wb8_2), (99, wb8_12)], 244, (.c (.sl 246 0 3 (.n 3))), [(44, wb8_4), (80, wb8_2), (99, wb8_12), (246, wb8_5)], 321⟩) 
theorem w2_7_6o2 : mok [(0, 3, 2), (4, 9, 7)] (lenL 1 6 8 ++ []) wN2 21 w2_7_6m2 = true := by kernel_rfl
def w2_7_6ms : List (Nat × List Memo) := [(21, [w2_7_6m0, w2_7_6m1, w2_7_6m2])]
theorem w2_7_6mo : AllMem (memRun [(0, 3, 2), (4, 9, 7)] (lenL 1 6 8 ++ []) wN2) w2_7_6ms := ⟨⟨w2_7_6o0, w2_7_6o1, w2_7_6o2, trivial⟩, trivial⟩
theorem w2_7_6 : lawRunM 9 10 200 [.i, .q, .b, .q, .i] [(0, 3, 2), (4, 9, 7)] (lenL 1 6 8 ++ []) wN2 w2_7_6ms = true := by kernel_rfl
def w2_8_6m0 : Memo :=  (⟨[(.ag [(.i .i64 3), (.sl 11 0 10 (.u 4)), (.sl 10 0 3 (.u 1))]), (.c (.sl 80 0 3 (.u 1)))], [(10, wb8_0), (11, wb8_1), (80, wb8_2)], 121, (.c (.sl 123 0 3 (.n 3))), [(10, wb8_0), (11, wb8_1), (80, wb8_2), (123, wb8_3)], 170⟩) 
theorem w2_8_6o0 : mok [(0, 3, 2), (4, 9, 8)] (lenL 1 6 8 ++ []) wN2 21 w2_8_6m0 = true := by kernel_rfl
def w2_8_6m1 : Memo :=  (⟨[(.ag [(.i .i64 3), (.sl 101 0 18 (.u 4)), (.sl 44 0 3 (.u 1))]), (.c (.sl 80 0 3 (.u 1)))], [(44, wb8_0), (80, wb8_2), (101, wb8_13)], 170, (.c (.sl 172 0 3 (.n 3))), [(44, wb8_0), (80, wb8_2), (101, wb8_13), (172, wb8_3)], 251⟩) 
theorem w2_8_6o1 : mok [(0, 3, 2), (4, 9, 8)] (lenL 1 6 8 ++ []) wN2 21 w2_8_6m1 = true := by kernel_rfl
def w2_8_6m2 : Memo :=  (⟨[(.ag [(.i .i64 3), (.sl 101 0 18 (.u 4)), (.sl 44 0 3 (.u 1))]), (.c (.sl 80 0 3 (.u 1)))], [(44, wb8_4), (80, wb8_2), (101, wb8_13)], 251, (.c (.sl 253 0 3 (.n 3))), [(44, wb8_4), (80, wb8_2), (101, wb8_13), (253, wb8_5)], 332⟩) 
theorem w2_8_6o2 : mok [(0, 3, 2), (4, 9, 8)] (lenL 1 6 8 ++ []) wN2 21 w2_8_6m2 = true := by kernel_rfl
def w2_8_6ms : List (Nat × List Memo) := [(21, [w2_8_6m0, w2_8_6m1, w2_8_6m2])]
theorem w2_8_6mo : AllMem (memRun [(0, 3, 2), (4, 9, 8)] (lenL 1 6 8 ++ []) wN2) w2_8_6ms := ⟨⟨w2_8_6o0, w2_8_6o1, w2_8_6o2, trivial⟩, trivial⟩
theorem w2_8_6 : lawRunM 9 10 200 [.i, .q, .b, .q, .i] [(0, 3, 2), (4, 9, 8)] (lenL 1 6 8 ++ []) wN2 w2_8_6ms = true := by kernel_rfl
def w2_0_7m0 : Memo :=  (⟨[(.ag [(.i .i64 3), (.sl 11 0 11 (.u 4)), (.sl 10 0 3 (.u 1))]), (.c (.sl 86 0 3 (.u 1)))], [(10, wb8_14), (11, wb8_15), (86, wb8_2)], 104, (.c (.sl 106 0 3 (.n 3))), [(10, wb8_14), (11, wb8_15), (86, wb8_2), (106, wb8_16)], 157⟩) 
theorem w2_0_7o0 : mok [(0, 3, 2), (4, 9, 0)] (lenL 1 7 8 ++ []) wN2 21 w2_0_7m0 = true := by kernel_rfl
def w2_0_7m1 : Memo :=  (⟨[(.ag [(.i .i64 3), (.sl 48 0 11 (.u 4)), (.sl 47 0 3 (.u 1))]), (.c (.sl 86 0 3 (.u 1)))], [(47, wb8_14), (48, wb8_15), (86, wb8_2)], 157, (.c (.sl 159 0 3 (.n 3))), [(47, wb8_14), (48, wb8_15), (86, wb8_2), (159, wb8_16)], 210⟩) 
theorem w2_0_7o1 : mok [(0, 3, 2), (4, 9, 0)] (lenL 1 7 8 ++ []) wN2 21 w2_0_7m1 = true := by kernel_rfl
def w2_0_7m2 : Memo :=  (⟨[(.ag [(.i .i64 3), (.sl 48 0 11 (.u 4)), (.sl 47 0 3 (.u 1))]), (.c (.sl 86 0 3 (.u 1)))], [(47, wb8_17), (48, wb8_15), (86, wb8_2)], 210, (.c (.sl 212 0 3 (.n 3))), [(47, wb8_17), (48, wb8_15), (86, wb8_2), (212, wb8_18)], 263⟩) 
theorem w2_0_7o2 : mok [(0, 3, 2), (4, 9, 0)] (lenL 1 7 8 ++ []) wN2 21 w2_0_7m2 = true := by kernel_rfl
def w2_0_7ms : List (Nat × List Memo) := [(21, [w2_0_7m0, w2_0_7m1, w2_0_7m2])]
theorem w2_0_7mo : AllMem (memRun [(0, 3, 2), (4, 9, 0)] (lenL 1 7 8 ++ []) wN2) w2_0_7ms := ⟨⟨w2_0_7o0, w2_0_7o1, w2_0_7o2, trivial⟩, trivial⟩
theorem w2_0_7 : lawRunM 9 10 200 [.i, .q, .b, .q, .i] [(0, 3, 2), (4, 9, 0)] (lenL 1 7 8 ++ []) wN2 w2_0_7ms = true := by kernel_rfl
def w2_1_7m0 : Memo :=  (⟨[(.ag [(.i .i64 3), (.sl 11 0 11 (.u 4)), (.sl 10 0 3 (.u 1))]), (.c (.sl 86 0 3 (.u 1)))], [(10, wb8_14), (11, wb8_15), (86, wb8_2)], 107, (.c (.sl 109 0 3 (.n 3))), [(10, wb8_14), (11, wb8_15), (86, wb8_2), (109, wb8_16)], 160⟩) 
theorem w2_1_7o0 : mok [(0, 3, 2), (4, 9, 1)] (lenL 1 7 8 ++ []) wN2 21 w2_1_7m0 = true := by kernel_rfl
def w2_1_7m1 : Memo :=  (⟨[(.ag [(.i .i64 3), (.sl 93 0 12 (.u 4)), (.sl 47 0 3 (.u 1))]), (.c (.sl 86 0 3 (.u 1)))], [(47, wb8_14), (86, wb8_2), (93, wb8_19)], 160, (.c (.sl 162 0 3 (.n 3))), [(47, wb8_14), (86, wb8_2), (93, wb8_19), (162, wb8_16)], 217⟩) 
theorem w2_1_7o1 : mok [(0, 3, 2), (4, 9, 1)] (lenL 1 7 8 ++ []) wN2 21 w2_1_7m1 = true := by kernel_rfl
def w2_1_7m2 : Memo :=  (⟨[(.ag [(.i .i64 3), (.sl 93 0 12 (.u 4)), (.sl 47 0 3 (.u 1))]), (.c (.sl 86 0 3 (.u 1)))], [(47, wb8_17), (86, wb8_2), (93, wb8_19)], 217, (.c (.sl 219 0 3 (.n 3))), [(47, wb8_17), (86, wb8_2), (93, wb8_19), (219, wb8_18)], 274⟩) 
theorem w2_1_7o2 : mok [(0, 3, 2), (4, 9, 1)] (lenL 1 7 8 ++ []) wN2 21 w2_1_7m2 = true := by kernel_rfl
def w2_1_7ms : List (Nat × List Memo) := [(21, [w2_1_7m0, w2_1_7m1, w2_1_7m2])]
theorem w2_1_7mo : AllMem (memRun [(0, 3, 2), (4, 9, 1)] (lenL 1 7 8 ++ []) wN2) w2_1_7ms := ⟨⟨w2_1_7o0, w2_1_7o1, w2_1_7o2, trivial⟩, trivial⟩
theorem w2_1_7 : lawRunM 9 10 200 [.i, .q, .b, .q, .i] [(0, 3, 2), (4, 9, 1)] (lenL 1 7 8 ++ []) wN2 w2_1_7ms = true := by kernel_rfl
def w2_2_7m0 : Memo :=  (⟨[(.ag [(.i .i64 3), (.sl 11 0 11 (.u 4)), (.sl 10 0 3 (.u 1))]), (.c (.sl 86 0 3 (.u 1)))], [(10, wb8_14), (11, wb8_15), (86, wb8_2)], 110, (.c (.sl 112 0 3 (.n 3))), [(10, wb8_14), (11, wb8_15), (86, wb8_2), (112, wb8_16)], 163⟩) 
theorem w2_2_7o0 : mok [(0, 3, 2), (4, 9, 2)] (lenL 1 7 8 ++ []) wN2 21 w2_2_7m0 = true := by kernel_rfl
def w2_2_7m1 : Memo :=  (⟨[(.ag [(.i .i64 3), (.sl 95 0 13 (.u 4)), (.sl 47 0 3 (.u 1))]), (.c (.sl 86 0 3 (.u 1)))], [(47, wb8_14), (86, wb8_2), (95, wb8_20)], 163, (.c (.sl 165 0 3 (.n 3))), [(47, wb8_14), (86, wb8_2), (95, wb8_20), (165, wb8_16)], 224⟩) 
theorem w2_2_7o1 : mok [(0, 3, 2), (4, 9, 2)] (lenL 1 7 8 ++ []) wN2 21 w2_2_7m1 = true := by kernel_rfl
def w2_2_7m2 : Memo :=  (⟨[(.ag [(.i .i64 3), (.sl 95 0 13 (.u 4)), (.sl 47 0 3 (.u 1))]), (.c (.sl 86 0 3 (.u 1)))], [(47, wb8_17), (86, wb8_2), (95, wb8_20)], 224, (.c (.sl 226 0 3 (.n 3))), [(47, wb8_17), (86, wb8_2), (95, wb8_20), (226, wb8_18)], 285⟩) 
theorem w2_2_7o2 : mok [(0, 3, 2), (4, 9, 2)] (lenL 1 7 8 ++ []) wN2 21 w2_2_7m2 = true := by kernel_rfl
def w2_2_7ms : List (Nat × List Memo) := [(21, [w2_2_7m0, w2_2_7m1, w2_2_7m2])]
theorem w2_2_7mo : AllMem (memRun [(0, 3, 2), (4, 9, 2)] (lenL 1 7 8 ++ []) wN2) w2_2_7ms := ⟨⟨w2_2_7o0, w2_2_7o1, w2_2_7o2, trivial⟩, trivial⟩
theorem w2_2_7 : lawRunM 9 10 200 [.i, .q, .b, .q, .i] [(0, 3, 2), (4, 9, 2)] (lenL 1 7 8 ++ []) wN2 w2_2_7ms = true := by kernel_rfl
def w2_3_7m0 : Memo :=  (⟨[(.ag [(.i .i64 3), (.sl 11 0 11 (.u 4)), (.sl 10 0 3 (.u 1))]), (.c (.sl 86 0 3 (.u 1)))], [(10, wb8_14), (11, wb8_15), (86, wb8_2)], 113, (.c (.sl 115 0 3 (.n 3))), [(10, wb8_14), (11, wb8_15), (86, wb8_2), (115, wb8_16)], 166⟩) 
theorem w2_3_7o0 : mok [(0, 3, 2), (4, 9, 3)] (lenL 1 7 8 ++ []) wN2 21 w2_3_7m0 = true := by kernel_rfl
def w2_3_7m1 : Memo :=  (⟨[(.ag [(.i .i64 3), (.sl 97 0 14 (.u 4)), (.sl 47 0 3 (.u 1))]), (.c (.sl 86 0 3 (.u 1)))], [(47, wb8_14), (86, wb8_2), (97, wb8_21)], 166, (.c (.sl 168 0 3 (.n 3))), [(47, wb8_14), (86, wb8_2), (97, wb8_21), (168, wb8_16)], 231⟩) 
theorem w2_3_7o1 : mok [(0, 3, 2), (4, 9, 3)] (lenL 1 7 8 ++ []) wN2 21 w2_3_7m1 = true := by kernel_rfl
def w2_3_7m2 : Memo :=  (⟨[(.ag [(.i .i64 3), (.sl 97 0 14 (.u 4)), (.sl 47 0 3 (.u 1))]), (.c (.sl 86 0 3 (.u 1)))], [(47, wb8_17), (86, wb8_2), (97, wb8_21)], 231, (.c (.sl 233 0 3 (.n 3))), [(47, wb8_17), (86, wb8_2), (97, wb8_21), (233, wb8_18)], 296⟩) 
theorem w2_3_7o2 : mok [(0, 3, 2), (4, 9, 3)] (lenL 1 7 8 ++ []) wN2 21 w2_3_7m2 = true := by kernel_rfl
def w2_3_7ms : List (Nat × List Memo) := [(21, [w2_3_7m0, w2_3_7m1, w2_3_7m2])]
theorem w2_3_7mo : AllMem (memRun [(0, 3, 2), (4, 9, 3)] (lenL 1 7 8 ++ []) wN2) w2_3_7ms := ⟨⟨w2_3_7o0, w2_3_7o1, w2_3_7o2, trivial⟩, trivial⟩
theorem w2_3_7 : lawRunM 9 10 200 [.i, .q, .b, .q, .i] [(0, 3, 2), (4, 9, 3)] (lenL 1 7 8 ++ []) wN2 w2_3_7ms = true := by kernel_rfl
def w2_4_7m0 : Memo :=  (⟨[(.ag [(.i .i64 3), (.sl 11 0 11 (.u 4)), (.sl 10 0 3 (.u 1))]), (.c (.sl 86 0 3 (.u 1)))], [(10, wb8_14), (11, wb8_15), (86, wb8_2)], 116, (.c (.sl 118 0 3 (.n 3))), [(10, wb8_14), (11, wb8_15), (86, wb8_2), (118, wb8_16)], 169⟩) 
theorem w2_4_7o0 : mok [(0, 3, 2), (4, 9, 4)] (lenL 1 7 8 ++ []) wN2 21 w2_4_7m0 = true := by kernel_rfl
def w2_4_7m1 : Memo :=  (⟨[(.ag [(.i .i64 3), (.sl 99 0 15 (.u 4)), (.sl 47 0 3 (.u 1))]), (.c (.sl 86 0 3 (.u 1)))], [(47, wb8_14), (86, wb8_2), (99, wb8_22)], 169, (.c (.sl 171 0 3 (.n 3))), [(47, wb8_14), (86, wb8_2), (99, wb8_22), (171, wb8_16)], 238⟩) 
theorem w2_4_7o1 : mok [(0, 3, 2), (4, 9, 4)] (lenL 1 7 8 ++ []) wN2 21 w2_4_7m1 = true := by kernel_rfl
def w2_4_7m2 : Memo :=  (⟨[(.ag [(.i .i64 3), (.sl 99 0 15 (.u 4)), (.sl 47 0 3 (.u 1))]), (.c (.sl 86 0 3 (.u 1)))], [(47, wb8_17), (86, wb8_2), (99, wb8_22)], 238, (.c (.sl 240 0 3 (.n 3))), [(47, wb8_17), (86, wb8_2), (99, wb8_22), (240, wb8_18)], 307⟩) 
theorem w2_4_7o2 : mok [(0, 3, 2), (4, 9, 4)] (lenL 1 7 8 ++ []) wN2 21 w2_4_7m2 = true := by kernel_rfl
def w2_4_7ms : List (Nat × List Memo) := [(21, [w2_4_7m0, w2_4_7m1, w2_4_7m2])]
theorem w2_4_7mo : AllMem (memRun [(0, 3, 2), (4, 9, 4)] (lenL 1 7 8 ++ []) wN2) w2_4_7ms := ⟨⟨w2_4_7o0, w2_4_7o1, w2_4_7o2, trivial⟩, trivial⟩
theorem w2_4_7 : lawRunM 9 10 200 [.i, .q, .b, .q, .i] [(0, 3, 2), (4, 9, 4)] (lenL 1 7 8 ++ []) wN2 w2_4_7ms = true := by kernel_rfl
def w2_5_7m0 : Memo :=  (⟨[(.ag [(.i .i64 3), (.sl 11 0 11 (.u 4)), (.sl 10 0 3 (.u 1))]), (.c (.sl 86 0 3 (.u 1)))], [(10, wb8_14), (11, wb8_15), (86, wb8_2)], 119, (.c (.sl 121 0 3 (.n 3))), [(10, wb8_14), (11, wb8_15), (86, wb8_2), (121, wb8_16)], 172⟩) 
theorem w2_5_7o0 : mok [(0, 3, 2), (4, 9, 5)] (lenL 1 7 8 ++ []) wN2 21 w2_5_7m0 = true := by kernel_rfl
def w2_5_7m1 : Memo :=  (⟨[(.ag [(.i .i64 3), (.sl 101 0 16 (.u 4)), (.sl 47 0 3 (.u 1))]), (.c (.sl 86 0 3 (.u 1)))], [(47, wb8_14), (86, wb8_2), (101, wb8_23)], 172, (.c (.sl 174 0 3 (.n 3))), [(47, wb8_14), (86, wb8_2), (101, wb8_23), (174, wb8_16)], 245⟩) 
theorem w2_5_7o1 : mok [(0, 3, 2), (4, 9, 5)] (lenL 1 7 8 ++ []) wN2 21 w2_5_7m1 = true := by kernel_rfl
def w2_5_7m2 : Memo :=  (⟨[(.ag [(.i .i64 3), (.sl 101 0 16 (.u 4)), (.sl 47 0 3 (.u 1))]), (.c (.sl 86 0 3 (.u 1)))], [(47, wb8_17), (86, wb8_2), (101, wb8_23)], 245, (.c (.sl 247 0 3 (.n 3))), [(47, wb8_17), (86, wb8_2), (101, wb8_23), (247, wb8_18)], 318⟩) 
theorem w2_5_7o2 : mok [(0, 3, 2), (4, 9, 5)] (lenL 1 7 8 ++ []) wN2 21 w2_5_7m2 = true := by kernel_rfl
def w2_5_7ms : List (Nat × List Memo) := [(21, [w2_5_7m0, w2_5_7m1, w2_5_7m2])]
theorem w2_5_7mo : AllMem (memRun [(0, 3, 2), (4, 9, 5)] (lenL 1 7 8 ++ []) wN2) w2_5_7ms := ⟨⟨w2_5_7o0, w2_5_7o1, w2_5_7o2, trivial⟩, trivial⟩
theorem w2_5_7 : lawRunM 9 10 200 [.i, .q, .b, .q, .i] [(0, 3, 2), (4, 9, 5)] (lenL 1 7 8 ++ []) wN2 w2_5_7ms = true := by kernel_rfl
def w2_6_7m0 : Memo :=  (⟨[(.ag [(.i .i64 3), (.sl 11 0 11 (.u 4)), (.sl 10 0 3 (.u 1))]), (.c (.sl 86 0 3 (.u 1)))], [(10, wb8_14), (11, wb8_15), (86, wb8_2)], 122, (.c (.sl 124 0 3 (.n 3))), [(10, wb8_14), (11, wb8_15), (86, wb8_2), (124, wb8_16)], 175⟩) 
theorem w2_6_7o0 : mok [(0, 3, 2), (4, 9, 6)] (lenL 1 7 8 ++ []) wN2 21 w2_6_7m0 = true := by kernel_rfl
def w2_6_7m1 : Memo :=  (⟨[(.ag [(.i .i64 3), (.sl 103 0 17 (.u 4)), (.sl 47 0 3 (.u 1))]), (.c (.sl 86 0 3 (.u 1)))], [(47, wb8_14), (86, wb8_2), (103, wb8_24)], 175, (.c (.sl 177 0 3 (.n 3))), [(47, wb8_14), (86, wb8_2), (103, wb8_24), (177, wb8_16)], 252⟩) 
theorem w2_6_7o1 : mok [(0, 3, 2), (4, 9, 6)] (lenL 1 7 8 ++ []) wN2 21 w2_6_7m1 = true := by kernel_rfl
def w2_6_7m2 : Memo :=  (⟨[(.ag [(.i .i64 3), (.sl 103 0 17 (.u 4)), (.sl 47 0 3 (.u 1))]), (.c (.sl 86 0 3 (.u 1)))], [(47, wb8_17), (86, wb8_2), (103, wb8_24)], 252, (.c (.sl 254 0 3 (.n 3))), [(47, wb8_17), (86, wb8_2), (103, wb8_24), (254, wb8_18)], 329⟩) 
theorem w2_6_7o2 : mok [(0, 3, 2), (4, 9, 6)] (lenL 1 7 8 ++ []) wN2 21 w2_6_7m2 = true := by kernel_rfl
def w2_6_7ms : List (Nat × List Memo) := [(21, [w2_6_7m0, w2_6_7m1, w2_6_7m2])]
theorem w2_6_7mo : AllMem (memRun [(0, 3, 2), (4, 9, 6)] (lenL 1 7 8 ++ []) wN2) w2_6_7ms := ⟨⟨w2_6_7o0, w2_6_7o1, w2_6_7o2, trivial⟩, trivial⟩
theorem w2_6_7 : lawRunM 9 10 200 [.i, .q, .b, .q, .i] [(0, 3, 2), (4, 9, 6)] (lenL 1 7 8 ++ []) wN2 w2_6_7ms = true := by kernel_rfl
def w2_7_7m0 : Memo :=  (⟨[(.ag [(.i .i64 3), (.sl 11 0 11 (.u 4)), (.sl 10 0 3 (.u 1))]), (.c (.sl 86 0 3 (.u 1)))], [(10, wb8_14), (11, wb8_15), (86, wb8_2)], 125, (.c (.sl 127 0 3 (.n 3))), [(10, wb8_14), (11, wb8_15), (86, wb8_2), (127, wb8_16)], 178⟩) 
theorem w2_7_7o0 : mok [(0, 3, 2), (4, 9, 7)] (lenL 1 7 8 ++ []) wN2 21 w2_7_7m0 = true := by kernel_rfl
def w2_7_7m1 : Memo :=  (⟨[(.ag [(.i .i64 3), (.sl 105 0 18 (.u 4)), (.sl 47 0 3 (.u 1))]), (.c (.sl 86 0 3 (.u 1)))], [(47, wb8_14), (86, wb8_2), (105, wb8_25)], 178, (.c (.sl 180 0 3 (.n 3))), [(47, wb8_14), (86, wb8_2), (105, wb8_25), (180, wb8_16)], 259⟩) 
theorem w2_7_7o1 : mok [(0, 3, 2), (4, 9, 7)] (lenL 1 7 8 ++ []) wN2 21 w2_7_7m1 = true := by kernel_rfl
def w2_7_7m2 : Memo :=  (⟨[(.ag [(.i .i64 3), (.sl 105 0 18 (.u 4)), (.sl 47 0 3 (.u 1))]), (.c (.sl 86 0 3 (.u 1)))], [(47, wb8_17), (86, wb8_2), (105, wb8_25)], 259, (.c (.sl 261 0 3 (.n 3))), [(47, wb8_17), (86, wb8_2), (105, wb8_25), (261, wb8_18)], 340⟩) 
theorem w2_7_7o2 : mok [(0, 3, 2), (4, 9, 7)] (lenL 1 7 8 ++ []) wN2 21 w2_7_7m2 = true := by kernel_rfl
def w2_7_7ms : List (Nat × List Memo) := [(21, [w2_7_7m0, w2_7_7m1, w2_7_7m2])]
theorem w2_7_7mo : AllMem (memRun [(0, 3, 2), (4, 9, 7)] (lenL 1 7 8 ++ []) wN2) w2_7_7ms := ⟨⟨w2_7_7o0, w2_7_7o1, w2_7_7o2, trivial⟩, trivial⟩
theorem w2_7_7 : lawRunM 9 10 200 [.i, .q, .b, .q, .i] [(0, 3, 2), (4, 9, 7)] (lenL 1 7 8 ++ []) wN2 w2_7_7ms = true := by kernel_rfl
def w2_8_7m0 : Memo :=  (⟨[(.ag [(.i .i64 3), (.sl 11 0 11 (.u 4)), (.sl 10 0 3 (.u 1))]), (.c (.sl 86 0 3 (.u 1)))], [(10, wb8_14), (11, wb8_15), (86, wb8_2)], 128, (.c (.sl 130 0 3 (.n 3))), [(10, wb8_14), (11, wb8_15), (86, wb8_2), (130, wb8_16)], 181⟩) 
theorem w2_8_7o0 : mok [(0, 3, 2), (4, 9, 8)] (lenL 1 7 8 ++ []) wN2 21 w2_8_7m0 = true := by kernel_rfl
def w2_8_7m1 : Memo :=  (⟨[(.ag [(.i .i64 3), (.sl 107 0 19 (.u 4)), (.sl 47 0 3 (.u 1))]), (.c (.sl 86 0 3 (.u 1)))], [(47, wb8_14), (86, wb8_2), (107, wb8_26)], 181, (.c (.sl 183 0 3 (.n 3))), [(47, wb8_14), (86, wb8_2), (107, wb8_26), (183, wb8_16)], 266⟩) 
theorem w2_8_7o1 : mok [(0, 3, 2), (4, 9, 8)] (lenL 1 7 8 ++ []) wN2 21 w2_8_7m1 = true := by kernel_rfl
def w2_8_7m2 : Memo :=  (⟨[(.ag [(.i .i64 3), (.sl 107 0 19 (.u 4)), (.sl 47 0 3 (.u 1))]), (.c (.sl 86 0 3 (.u 1)))], [(47, wb8_17), (86, wb8_2), (107, wb8_26)], 266, (.c (.sl 268 0 3 (.n 3))), [(47, wb8_17), (86, wb8_2), (107, wb8_26), (268, wb8_18)], 351⟩) 
theorem w2_8_7o2 : mok [(0, 3, 2), (4, 9, 8)] (lenL 1 7 8 ++ []) wN2 21 w2_8_7m2 = true := by kernel_rfl
def w2_8_7ms : List (Nat × List Memo) := [(21, [w2_8_7m0, w2_8_7m1, w2_8_7m2])]
theorem w2_8_7mo : AllMem (memRun [(0, 3, 2), (4, 9, 8)] (lenL 1 7 8 ++ []) wN2) w2_8_7ms := ⟨⟨w2_8_7o0, w2_8_7o1, w2_8_7o2, trivial⟩, trivial⟩
theorem w2_8_7 : lawRunM 9 10 200 [.i, .q, .b, .q, .i] [(0, 3, 2), (4, 9, 8)] (lenL 1 7 8 ++ []) wN2 w2_8_7ms = true := by kernel_rfl
def w2_0_8m0 : Memo :=  (⟨[(.ag [(.i .i64 3), (.sl 11 0 12 (.u 4)), (.sl 10 0 3 (.u 1))]), (.c (.sl 92 0 3 (.u 1)))], [(10, wb8_27), (11, wb8_28), (92, wb8_2)], 111, (.c (.sl 113 0 3 (.n 3))), [(10, wb8_27), (11, wb8_28), (92, wb8_2), (113, wb8_29)], 168⟩) 
theorem w2_0_8o0 : mok [(0, 3, 2), (4, 9, 0)] (lenL 1 8 8 ++ []) wN2 21 w2_0_8m0 = true := by kernel_rfl
def w2_0_8m1 : Memo :=  (⟨[(.ag [(.i .i64 3), (.sl 51 0 12 (.u 4)), (.sl 50 0 3 (.u 1))]), (.c (.sl 92 0 3 (.u 1)))], [(50, wb8_27), (51, wb8_28), (92, wb8_2)], 168, (.c (.sl 170 0 3 (.n 3))), [(50, wb8_27), (51, wb8_28), (92, wb8_2), (170, wb8_29)], 225⟩) 
theorem w2_0_8o1 : mok [(0, 3, 2), (4, 9, 0)] (lenL 1 8 8 ++ []) wN2 21 w2_0_8m1 = true := by kernel_rfl
def w2_0_8m2 : Memo :=  (⟨[(.ag [(.i .i64 3), (.sl 51 0 12 (.u 4)), (.sl 50 0 3 (.u 1))]), (.c (.sl 92 0 3 (.u 1)))], [(50, wb8_30), (51, wb8_28), (92, wb8_2)], 225, (.c (.sl 227 0 3 (.n 3))), [(50, wb8_30), (51, wb8_28), (92, wb8_2), (227, wb8_31)], 282⟩) 
theorem w2_0_8o2 : mok [(0, 3, 2), (4, 9, 0)] (lenL 1 8 8 ++ []) wN2 21 w2_0_8m2 = true := by kernel_rfl
def w2_0_8ms : List (Nat × List Memo) := [(21, [w2_0_8m0, w2_0_8m1, w2_0_8m2])]
theorem w2_0_8mo : AllMem (memRun [(0, 3, 2), (4, 9, 0)] (lenL 1 8 8 ++ []) wN2) w2_0_8ms := ⟨⟨w2_0_8o0, w2_0_8o1, w2_0_8o2, trivial⟩, trivial⟩
theorem w2_0_8 : lawRunM 9 10 200 [.i, .q, .b, .q, .i] [(0, 3, 2), (4, 9, 0)] (lenL 1 8 8 ++ []) wN2 w2_0_8ms = true := by kernel_rfl
def w2_1_8m0 : Memo :=  (⟨[(.ag [(.i .i64 3), (.sl 11 0 12 (.u 4)), (.sl 10 0 3 (.u 1))]), (.c (.sl 92 0 3 (.u 1)))], [(10, wb8_27), (11, wb8_28), (92, wb8_2)], 114, (.c (.sl 116 0 3 (.n 3))), [(10, wb8_27), (11, wb8_28), (92, wb8_2), (116, wb8_29)], 171⟩) 
theorem w2_1_8o0 : mok [(0, 3, 2), (4, 9, 1)] (lenL 1 8 8 ++ []) wN2 21 w2_1_8m0 = true := by kernel_rfl
def w2_1_8m1 : Memo :=  (⟨[(.ag [(.i .i64 3), (.sl 99 0 13 (.u 4)), (.sl 50 0 3 (.u 1))]), (.c (.sl 92 0 3 (.u 1)))], [(50, wb8_27), (92, wb8_2), (99, wb8_32)], 171, (.c (.sl 173 0 3 (.n 3))), [(50, wb8_27), (92, wb8_2), (99, wb8_32), (173, wb8_29)], 232⟩) 
theorem w2_1_8o1 : mok [(0, 3, 2), (4, 9, 1)] (lenL 1 8 8 ++ []) wN2 21 w2_1_8m1 = true := by kernel_rfl
def w2_1_8m2 : Memo :=  (⟨[(.ag [(.i .i64 3), (.sl 99 0 13 (.u 4)), (.sl 50 0 3 (.u 1))]), (.c (.sl 92 0 3 (.u 1)))], [(50, wb8_30), (92, wb8_2), (99, wb8_32)], 232, (.c (.sl 234 0 3 (.n 3))), [(50, wb8_30), (92, wb8_2), (99, wb8_32), (234, wb8_31)], 293⟩) 
theorem w2_1_8o2 : mok [(0, 3, 2), (4, 9, 1)] (lenL 1 8 8 ++ []) wN2 21 w2_1_8m2 = true := by kernel_rfl
def w2_1_8ms : List (Nat × List Memo) := [(21, [w2_1_8m0, w2_1_8m1, w2_1_8m2])]
theorem w2_1_8mo : AllMem (memRun [(0, 3, 2), (4, 9, 1)] (lenL 1 8 8 ++ []) wN2) w2_1_8ms := ⟨⟨w2_1_8o0, w2_1_8o1, w2_1_8o2, trivial⟩, trivial⟩
theorem w2_1_8 : lawRunM 9 10 200 [.i, .q, .b, .q, .i] [(0, 3, 2), (4, 9, 1)] (lenL 1 8 8 ++ []) wN2 w2_1_8ms = true := by kernel_rfl
def w2_2_8m0 : Memo :=  (⟨[(.ag [(.i .i64 3), (.sl 11 0 12 (.u 4)), (.sl 10 0 3 (.u 1))]), (.c (.sl 92 0 3 (.u 1)))], [(10, wb8_27), (11, wb8_28), (92, wb8_2)], 117, (.c (.sl 119 0 3 (.n 3))), [(10, wb8_27), (11, wb8_28), (92, wb8_2), (119, wb8_29)], 174⟩) 
theorem w2_2_8o0 : mok [(0, 3, 2), (4, 9, 2)] (lenL 1 8 8 ++ []) wN2 21 w2_2_8m0 = true := by kernel_rfl
def w2_2_8m1 : Memo :=  (⟨[(.ag [(.i .i64 3), (.sl 101 0 14 (.u 4)), (.sl 50 0 3 (.u 1))]), (.c (.sl 92 0 3 (.u 1)))], [(50, wb8_27), (92, wb8_2), (101, wb8_33)], 174, (.c (.sl 176 0 3 (.n 3))), [(50, wb8_27), (92, wb8_2), (101, wb8_33), (176, wb8_29)], 239⟩) 
theorem w2_2_8o1 : mok [(0, 3, 2), (4, 9, 2)] (lenL 1 8 8 ++ []) wN2 21 w2_2_8m1 = true := by kernel_rfl
def w2_2_8m2 : Memo :=  (⟨[(.ag [(.i .i64 3), (.sl 101 0 14 (.u 4)), (.sl 50 0 3 (.u 1))]), (.c (.sl 92 0 3 (.u 1)))], [(50, wb8_30), (92, wb8_2), (101, wb8_33)], 239, (.c (.sl 241 0 3 (.n 3))), [(50, wb8_30), (92, wb8_2), (101, wb8_33), (241, wb8_31)], 304⟩) 
theorem w2_2_8o2 : mok [(0, 3, 2), (4, 9, 2)] (lenL 1 8 8 ++ []) wN2 21 w2_2_8m2 = true := by kernel_rfl
def w2_2_8ms : List (Nat × List Memo) := [(21, [w2_2_8m0, w2_2_8m1, w2_2_8m2])]
theorem w2_2_8mo : AllMem (memRun [(0, 3, 2), (4, 9, 2)] (lenL 1 8 8 ++ []) wN2) w2_2_8ms := ⟨⟨w2_2_8o0, w2_2_8o1, w2_2_8o2, trivial⟩, trivial⟩
theorem w2_2_8 : lawRunM 9 10 200 [.i, .q, .b, .q, .i] [(0, 3, 2), (4, 9, 2)] (lenL 1 8 8 ++ []) wN2 w2_2_8ms = true := by kernel_rfl
def w2_3_8m0 : Memo :=  (⟨[(.ag [(.i .i64 3), (.sl 11 0 12 (.u 4)), (.sl 10 0 3 (.u 1))]), (.c (.sl 92 0 3 (.u 1)))], [(10, wb8_27), (11, wb8_28), (92, wb8_2)], 120, (.c (.sl 122 0 3 (.n 3))), [(10, wb8_27), (11, wb8_28), (92, wb8_2), (122, wb8_29)], 177⟩) 
theorem w2_3_8o0 : mok [(0, 3, 2), (4, 9, 3)] (lenL 1 8 8 ++ []) wN2 21 w2_3_8m0 = true := by kernel_rfl
def w2_3_8m1 : Memo :=  (⟨[(.ag [(.i .i64 3), (.sl 103 0 15 (.u 4)), (.sl 50 0 3 (.u 1))]), (.c (.sl 92 0 3 (.u 1)))], [(50, wb8_27), (92, wb8_2), (103, wb8_34)], 177, (.c (.sl 179 0 3 (.n 3))), [(50, wb8_27), (92, wb8_2), (103, wb8_34), (179, wb8_29)], 246⟩) 
theorem w2_3_8o1 : mok [(0, 3, 2), (4, 9, 3)] (lenL 1 8 8 ++ []) wN2 21 w2_3_8m1 = true := by kernel_rfl
def w2_3_8m2 : Memo :=  (⟨[(.ag [(.i .i64 3), (.sl 103 0 15 (.u 4)), (.sl 50 0 3 (.u 1))]), (.c (.sl 92 0 3 (.u 1)))], [(50, wb8_30), (92, wb8_2), (103, wb8_34)], 246, (.c (.sl 248 0 3 (.n 3))), [(50, wb8_30), (92, wb8_2), (103, wb8_34), (248, wb8_31)], 315⟩) 
theorem w2_3_8o2 : mok [(0, 3, 2), (4, 9, 3)] (lenL 1 8 8 ++ []) wN2 21 w2_3_8m2 = true := by kernel_rfl
def w2_3_8ms : List (Nat × List Memo) := [(21, [w2_3_8m0, w2_3_8m1, w2_3_8m2])]
theorem w2_3_8mo : AllMem (memRun [(0, 3, 2), (4, 9, 3)] (lenL 1 8 8 ++ []) wN2) w2_3_8ms := ⟨⟨w2_3_8o0, w2_3_8o1, w2_3_8o2, trivial⟩, trivial⟩
theorem w2_3_8 : lawRunM 9 10 200 [.i, .q, .b, .q, .i] [(0, 3, 2), (4, 9, 3)] (lenL 1 8 8 ++ []) wN2 w2_3_8ms = true := by kernel_rfl
def w2_4_8m0 : Memo :=  (⟨[(.ag [(.i .i64 3), (.sl 11 0 12 (.u 4)), (.sl 10 0 3 (.u 1))]), (.c (.sl 92 0 3 (.u 1)))], [(10, wb8_27), (11, wb8_28), (92, wb8_2)], 123, (.c (.sl 125 0 3 (.n 3))), [(10, wb8_27), (11, wb8_28), (92, wb8_2), (125, wb8_29)], 180⟩) 
theorem w2_4_8o0 : mok [(0, 3, 2), (4, 9, 4)] (lenL 1 8 8 ++ []) wN2 21 w2_4_8m0 = true := by kernel_rfl
def w2_4_8m1 : Memo :=  (⟨[(.ag [(.i .i64 3), (.sl 105 0 16 (.u 4)), (.sl 50 0 3 (.u 1))]), (.c (.sl 92 0 3 (.u 1)))], [(50, wb8_27), (92, wb8_2), (105, wb8_35)], 180, (.c (.sl 182 0 3 (.n 3))), [(50, wb8_27), (92, wb8_2), (105, wb8_35), (182, wb8_29)], 253⟩) 
theorem w2_4_8o1 : mok [(0, 3, 2), (4, 9, 4)] (lenL 1 8 8 ++ []) wN2 21 w2_4_8m1 = true := by kernel_rfl
def w2_4_8m2 : Memo :=  (⟨[(.ag [(.i .i64 3), (.sl 105 0 16 (.u 4)), (.sl 50 0 3 (.u 1))]), (.c (.sl 92 0 3 (.u 1)))], [(50, wb8_30), (92, wb8_2), (105, wb8_35)], 253, (.c (.sl 255 0 3 (.n 3))), [(50, wb8_30), (92, wb8_2), (105, wb8_35), (255, wb8_31)], 326⟩) 
theorem w2_4_8o2 : mok [(0, 3, 2), (4, 9, 4)] (lenL 1 8 8 ++ []) wN2 21 w2_4_8m2 = true := by kernel_rfl
def w2_4_8ms : List (Nat × List Memo) := [(21, [w2_4_8m0, w2_4_8m1, w2_4_8m2])]
theorem w2_4_8mo : AllMem (memRun [(0, 3, 2), (4, 9, 4)] (lenL 1 8 8 ++ []) wN2) w2_4_8ms := ⟨⟨w2_4_8o0, w2_4_8o1, w2_4_8o2, trivial⟩, trivial⟩
theorem w2_4_8 : lawRunM 9 10 200 [.i, .q, .b, .q, .i] [(0, 3, 2), (4, 9, 4)] (lenL 1 8 8 ++ []) wN2 w2_4_8ms = true := by kernel_rfl
def w2_5_8m0 : Memo :=  (⟨[(.ag [(.i .i64 3), (.sl 11 0 12 (.u 4)), (.sl 10 0 3 (.u 1))]), (.c (.sl 92 0 3 (.u 1)))], [(10, wb8_27), (11, wb8_28), (92, wb8_2)], 126, (.c (.sl 128 0 3 (.n 3))), [(10, wb8_27), (11, wb8_28), (92, wb8_2), (128, wb8_29)], 183⟩) 
theorem w2_5_8o0 : mok [(0, 3, 2), (4, 9, 5)] (lenL 1 8 8 ++ []) wN2 21 w2_5_8m0 = true := by kernel_rfl
def w2_5_8m1 : Memo :=  (⟨[(.ag [(.i .i64 3), (.sl 107 0 17 (.u 4)), (.sl 50 0 3 (.u 1))]), (.c (.sl 92 0 3 (.u 1)))], [(50, wb8_27), (92, wb8_2), (107, wb8_36)], 183, (.c (.sl 185 0 3 (.n 3))), [(50, wb8_27), (92, wb8_2), (107, wb8_36), (185, wb8_29)], 260⟩) 
theorem w2_5_8o1 : mok [(0, 3, 2), (4, 9, 5)] (lenL 1 8 8 ++ []) wN2 21 w2_5_8m1 = true := by kernel_rfl
def w2_5_8m2 : Memo :=  (⟨[(.ag [(.i .i64 3), (.sl 107 0 17 (.u 4)), (.sl 50 0 3 (.u 1))]), (.c (.sl 92 0 3 (.u 1)))], [(50, wb8_30), (92, wb8_2), (107, wb8_36)], 260, (.c (.sl 262 0 3 (.n 3))), [(50, wb8_30), (92, wb8_2), (107, wb8_36), (262, wb8_31)], 337⟩) 
theorem w2_5_8o2 : mok [(0, 3, 2), (4, 9, 5)] (lenL 1 8 8 ++ []) wN2 21 w2_5_8m2 = true := by kernel_rfl
def w2_5_8ms : List (Nat × List Memo) := [(21, [w2_5_8m0, w2_5_8m1, w2_5_8m2])]
theorem w2_5_8mo : AllMem (memRun [(0, 3, 2), (4, 9, 5)] (lenL 1 8 8 ++ []) wN2) w2_5_8ms := ⟨⟨w2_5_8o0, w2_5_8o1, w2_5_8o2, trivial⟩, trivial⟩
theorem w2_5_8 : lawRunM 9 10 200 [.i, .q, .b, .q, .i] [(0, 3, 2), (4, 9, 5)] (lenL 1 8 8 ++ []) wN2 w2_5_8ms = true := by kernel_rfl
def w2_6_8m0 : Memo :=  (⟨[(.ag [(.i .i64 3), (.sl 11 0 12 (.u 4)), (.sl 10 0 3 (.u 1))]), (.c (.sl 92 0 3 (.u 1)))], [(10, wb8_27), (11, wb8_28), (92, wb8_2)], 129, (.c (.sl 131 0 3 (.n 3))), [(10, wb8_27), (11, wb8_28), (92, wb8_2), (131, wb8_29)], 186⟩) 
theorem w2_6_8o0 : mok [(0, 3, 2), (4, 9, 6)] (lenL 1 8 8 ++ []) wN2 21 w2_6_8m0 = true := by kernel_rfl
def w2_6_8m1 : Memo :=  (⟨[(.ag [(.i .i64 3), (.sl 109 0 18 (.u 4)), (.sl 50 0 3 (.u 1))]), (.c (.sl 92 0 3 (.u 1)))], [(50, wb8_27), (92, wb8_2), (109, wb8_37)], 186, (.c (.sl 188 0 3 (.n 3))), [(50, wb8_27), (92, wb8_2), (109, wb8_37), (188, wb8_29)], 267⟩) 
theorem w2_6_8o1 : mok [(0, 3, 2), (4, 9, 6)] (lenL 1 8 8 ++ []) wN2 21 w2_6_8m1 = true := by kernel_rfl
def w2_6_8m2 : Memo :=  (⟨[(.ag [(.i .i64 3), (.sl 109 0 18 (.u 4)), (.sl 50 0 3 (.u 1))]), (.c (.sl 92 0 3 (.u 1)))], [(50, wb8_30), (92, wb8_2), (109, wb8_37)], 267, (.c (.sl 269 0 3 (.n 3))), [(50, wb8_30), (92, wb8_2), (109, wb8_37), (269, wb8_31)], 348⟩) 
theorem w2_6_8o2 : mok [(0, 3, 2), (4, 9, 6)] (lenL 1 8 8 ++ []) wN2 21 w2_6_8m2 = true := by kernel_rfl
def w2_6_8ms : List (Nat × List Memo) := [(21, [w2_6_8m0, w2_6_8m1, w2_6_8m2])]
theorem w2_6_8mo : AllMem (memRun [(0, 3, 2), (4, 9, 6)] (lenL 1 8 8 ++ []) wN2) w2_6_8ms := ⟨⟨w2_6_8o0, w2_6_8o1, w2_6_8o2, trivial⟩, trivial⟩
theorem w2_6_8 : lawRunM 9 10 200 [.i, .q, .b, .q, .i] [(0, 3, 2), (4, 9, 6)] (lenL 1 8 8 ++ []) wN2 w2_6_8ms = true := by kernel_rfl
def w2_7_8m0 : Memo :=  (⟨[(.ag [(.i .i64 3), (.sl 11 0 12 (.u 4)), (.sl 10 0 3 (.u 1))]), (.c (.sl 92 0 3 (.u 1)))], [(10, wb8_27), (11, wb8_28), (92, wb8_2)], 132, (.c (.sl 134 0 3 (.n 3))), [(10, wb8_27), (11, wb8_28), (92, wb8_2), (134, wb8_29)], 189⟩) 
theorem w2_7_8o0 : mok [(0, 3, 2), (4, 9, 7)] (lenL 1 8 8 ++ []) wN2 21 w2_7_8m0 = true := by kernel_rfl
def w2_7_8m1 : Memo :=  (⟨[(.ag [(.i .i64 3), (.sl 111 0 19 (.u 4)), (.sl 50 0 3 (.u 1))]), (.c (.sl 92 0 3 (.u 1)))], [(50, wb8_27), (92, wb8_2), (111, wb8_38)], 189, (.c (.sl 191 0 3 (.n 3))), [(50, wb8_27), (92, wb8_2), (111, wb8_38), (191, wb8_29)], 274⟩) 
theorem w2_7_8o1 : mok [(0, 3, 2), (4, 9, 7)] (lenL 1 8 8 ++ []) wN2 21 w2_7_8m1 = true := by kernel_rfl
def w2_7_8m2 : Memo :=  (⟨[(.ag [(.i .i64 3), (.sl 111 0 19 (.u 4)), (.sl 50 0 3 (.u 1))]), (.c (.sl 92 0 3 (.u 1)))], [(50, wb8_30), (92, wb8_2), (111, wb8_38)], 274, (.c (.sl 276 0 3 (.n 3))), [(50, wb8_30), (92, wb8_2), (111, wb8_38), (276, wb8_31)], 359⟩) 
theorem w2_7_8o2 : mok [(0, 3, 2), (4, 9, 7)] (lenL 1 8 8 ++ []) wN2 21 w2_7_8m2 = true := by kernel_rfl
def w2_7_8ms : List (Nat × List Memo) := [(21, [w2_7_8m0, w2_7_8m1, w2_7_8m2])]
theorem w2_7_8mo : AllMem (memRun [(0, 3, 2), (4, 9, 7)] (lenL 1 8 8 ++ []) wN2) w2_7_8ms := ⟨⟨w2_7_8o0, w2_7_8o1, w2_7_8o2, trivial⟩, trivial⟩
theorem w2_7_8 : lawRunM 9 10 200 [.i, .q, .b, .q, .i] [(0, 3, 2), (4, 9, 7)] (lenL 1 8 8 ++ []) wN2 w2_7_8ms = true := by kernel_rfl
def w2_8_8m0 : Memo :=  (⟨[(.ag [(.i .i64 3), (.sl 11 0 12 (.u 4)), (.sl 10 0 3 (.u 1))]), (.c (.sl 92 0 3 (.u 1)))], [(10, wb8_27), (11, wb8_28), (92, wb8_2)], 135, (.c (.sl 137 0 3 (.n 3))), [(10, wb8_27), (11, wb8_28), (92, wb8_2), (137, wb8_29)], 192⟩) 
theorem w2_8_8o0 : mok [(0, 3, 2), (4, 9, 8)] (lenL 1 8 8 ++ []) wN2 21 w2_8_8m0 = true := by kernel_rfl
def w2_8_8m1 : Memo :=  (⟨[(.ag [(.i .i64 3), (.sl 113 0 20 (.u 4)), (.sl 50 0 3 (.u 1))]), (.c (.sl 92 0 3 (.u 1)))], [(50, wb8_27), (92, wb8_2), (113, wb8_39)], 192, (.c (.sl 194 0 3 (.n 3))), [(50, wb8_27), (92, wb8_2), (113, wb8_39), (194, wb8_29)], 281⟩) 
theorem w2_8_8o1 : mok [(0, 3, 2), (4, 9, 8)] (lenL 1 8 8 ++ []) wN2 21 w2_8_8m1 = true := by kernel_rfl
def w2_8_8m2 : Memo :=  (⟨[(.ag [(.i .i64 3), (.sl 113 0 20 (.u 4)), (.sl 50 0 3 (.u 1))]), (.c (.sl 92 0 3 (.u 1)))], [(50, wb8_30), (92, wb8_2), (113, wb8_39)], 281, (.c (.sl 283 0 3 (.n 3))), [(50, wb8_30), (92, wb8_2), (113, wb8_39), (283, wb8_31)], 370⟩) 
theorem w2_8_8o2 : mok [(0, 3, 2), (4, 9, 8)] (lenL 1 8 8 ++ []) wN2 21 w2_8_8m2 = true := by kernel_rfl
def w2_8_8ms : List (Nat × List Memo) := [(21, [w2_8_8m0, w2_8_8m1, w2_8_8m2])]
theorem w2_8_8mo : AllMem (memRun [(0, 3, 2), (4, 9, 8)] (lenL 1 8 8 ++ []) wN2) w2_8_8ms := ⟨⟨w2_8_8o0, w2_8_8o1, w2_8_8o2, trivial⟩, trivial⟩
theorem w2_8_8 : lawRunM 9 10 200 [.i, .q, .b, .q, .i] [(0, 3, 2), (4, 9, 8)] (lenL 1 8 8 ++ []) wN2 w2_8_8ms = true := by kernel_rfl
end Go.Proofs.Yticbgaflhiokgaa
