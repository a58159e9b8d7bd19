/-
  'TapeMore': runs of it, part 5.
-/
import Derived.Test.YticbgaflhiokgaaTapeMoret1
namespace Go.Proofs.Yticbgaflhiokgaa
open Go.RowKit Ex
set_option maxRecDepth 1000000
set_option maxHeartbeats 100000000
def wm5_0 : E := (.ib .quo .i64 (.vi 0) (.li 3))
def wm5_1 : E := (.ai 9 0 (.ci (.ib .add .i64 wm5_0 (.li 0)) (.ci (.li 3) .n0)))
def wm5_2 : E := (.ai 9 0 (.ci (.ib .add .i64 wm5_0 (.li 1)) (.ci (.li 3) .n0)))
def wm5_3 : E := (.ic .eql (.ai 9 0 (.ci (.at 1 0) (.ci (.li 11) .n0))) (.li 0))
def wm5_4 : E := (.ib .add .i64 (.li 2) (.ai 9 0 (.ci (.at 1 0) (.ci (.li 3) .n0))))
def wm5_5 : E := (.ic .eql (.ai 9 0 (.ci (.at 1 1) (.ci (.li 11) .n0))) (.li 0))
def wm5_6 : E := (.ib .add .i64 (.li 2) (.ai 9 0 (.ci (.at 1 1) (.ci (.li 3) .n0))))
def wm5_7 : E := (.ic .eql (.ai 9 0 (.ci (.at 1 2) (.ci (.li 11) .n0))) (.li 0))
def wm5_8 : E := (.ib .add .i64 (.li 2) (.ai 9 0 (.ci (.at 1 2) (.ci (.li 3) .n0))))
def wm5_9 : E := (.ic .eql (.ai 9 0 (.ci (.at 1 3) (.ci (.li 11) .n0))) (.li 0))
def wm5_10 : E := (.ib .add .i64 (.li 2) (.ai 9 0 (.ci (.at 1 3) (.ci (.li 3) .n0))))
def wm5_11 : E := (.ic .eql (.ai 9 0 (.ci (.at 1 4) (.ci (.li 11) .n0))) (.li 0))
def wm5_12 : E := (.ib .add .i64 (.li 2) (.ai 9 0 (.ci (.at 1 4) (.ci (.li 3) .n0))))
def wm5_13 : E := (.ic .eql (.ai 9 0 (.ci (.at 1 5) (.ci (.li 11) .n0))) (.li 0))
def wm5_14 : E := (.ib .add .i64 (.li 2) (.ai 9 0 (.ci (.at 1 5) (.ci (.li 3) .n0))))
def wm5_15 : E := (.ib .quo .i64 (.vi 4) (.li 9))
def wm5_16 : E := (.ic .eql (.ai 9 0 (.ci (.at 1 6) (.ci (.li 11) .n0))) (.li 0))
def wm5_17 : E := (.ib .add .i64 (.li 2) (.ai 9 0 (.ci (.at 1 6) (.ci (.li 3) .n0))))
def wm5_18 : E := (.ic .eql (.ai 9 0 (.ci (.at 1 7) (.ci (.li 11) .n0))) (.li 0))
def wm5_19 : E := (.ib .add .i64 (.li 2) (.ai 9 0 (.ci (.at 1 7) (.ci (.li 3) .n0))))
def wk5_0 : Blk := [(.i .i64 1), (.i .i64 0), (.i .i64 0), (.f 0)]
def wk5_1 : Blk := [(.i .i64 1), (.i .i64 1), (.i .i64 0), (.f 0)]
def wk5_2 : Blk := [(.i .i64 0), (.i .i64 0), (.i .i64 0), (.ef (.fb .quo (.i2f (.ib .sub .i64 (.ai 9 0 (.ci (.vi 0) (.ci (.li 17) .n0))) (.li 8))) (.lf 4616189618054758400)))]
def wk5_3 : Blk := [(.ei .i64 (.ti wm5_3 (.li 0) (.ti (.vb 2) (.ti (.ic .eql (.ai 9 0 (.ci (.at 1 0) (.ci (.li 7) .n0))) (.li 0)) (.li 5) wm5_4) wm5_4))), (.ei .i64 (.ti wm5_3 (.li 0) (.ai 9 0 (.ci (.ib .quo .i64 (.at 1 0) (.li 4)) (.ci (.li 3) .n0))))), (.ei .i64 (.ti wm5_3 (.li 0) (.ai 9 0 (.ci (.ib .quo .i64 (.at 1 0) (.li 40)) (.ci (.li 3) .n0))))), (.ef (.tf wm5_3 (.fb .quo (.i2f (.ib .sub .i64 (.ai 9 0 (.ci (.ib .quo .i64 (.at 1 0) (.li 11)) (.ci (.li 33) .n0))) (.li 16))) (.lf 4620693217682128896)) (.lf 0)))]
def wk5_4 : Blk := [(.ei .i64 (.ti wm5_5 (.li 0) (.ti (.vb 2) (.ti (.ic .eql (.ai 9 0 (.ci (.at 1 1) (.ci (.li 7) .n0))) (.li 0)) (.li 5) wm5_6) wm5_6))), (.ei .i64 (.ti wm5_5 (.li 0) (.ai 9 0 (.ci (.ib .quo .i64 (.at 1 1) (.li 4)) (.ci (.li 4) .n0))))), (.ei .i64 (.ti wm5_5 (.li 0) (.ai 9 0 (.ci (.ib .quo .i64 (.at 1 1) (.li 40)) (.ci (.li 4) .n0))))), (.ef (.tf wm5_5 (.fb .quo (.i2f (.ib .sub .i64 (.ai 9 0 (.ci (.ib .quo .i64 (.at 1 1) (.li 11)) (.ci (.li 33) .n0))) (.li 16))) (.lf 4620693217682128896)) (.lf 0)))]
def wk5_5 : Blk := [(.ei .i64 (.ti wm5_7 (.li 0) (.ti (.vb 2) (.ti (.ic .eql (.ai 9 0 (.ci (.at 1 2) (.ci (.li 7) .n0))) (.li 0)) (.li 5) wm5_8) wm5_8))), (.ei .i64 (.ti wm5_7 (.li 0) (.ai 9 0 (.ci (.ib .quo .i64 (.at 1 2) (.li 4)) (.ci (.li 5) .n0))))), (.ei .i64 (.ti wm5_7 (.li 0) (.ai 9 0 (.ci (.ib .quo .i64 (.at 1 2) (.li 40)) (.ci (.li 5) .n0))))), (.ef (.tf wm5_7 (.fb .quo (.i2f (.ib .sub .i64 (.ai 9 0 (.ci (.ib .quo .i64 (.at 1 2) (.li 11)) (.ci (.li 33) .n0))) (.li 16))) (.lf 4620693217682128896)) (.lf 0)))]
def wk5_6 : Blk := [(.ei .i64 (.ti wm5_9 (.li 0) (.ti (.vb 2) (.ti (.ic .eql (.ai 9 0 (.ci (.at 1 3) (.ci (.li 7) .n0))) (.li 0)) (.li 5) wm5_10) wm5_10))), (.ei .i64 (.ti wm5_9 (.li 0) (.ai 9 0 (.ci (.ib .quo .i64 (.at 1 3) (.li 4)) (.ci (.li 6) .n0))))), (.ei .i64 (.ti wm5_9 (.li 0) (.ai 9 0 (.ci (.ib .quo .i64 (.at 1 3) (.li 40)) (.ci (.li 6) .n0))))), (.ef (.tf wm5_9 (.fb .quo (.i2f (.ib .sub .i64 (.ai 9 0 (.ci (.ib .quo .i64 (.at 1 3) (.li 11)) (.ci (.li 33) .n0))) (.li 16))) (.lf 4620693217682128896)) (.lf 0)))]
def wk5_7 : Blk := [(.ei .i64 (.ti wm5_11 (.li 0) (.ti (.vb 2) (.ti (.ic .eql (.ai 9 0 (.ci (.at 1 4) (.ci (.li 7) .n0))) (.li 0)) (.li 5) wm5_12) wm5_12))), (.ei .i64 (.ti wm5_11 (.li 0) (.ai 9 0 (.ci (.ib .quo .i64 (.at 1 4) (.li 4)) (.ci (.li 7) .n0))))), (.ei .i64 (.ti wm5_11 (.li 0) (.ai 9 0 (.ci (.ib .quo .i64 (.at 1 4) (.li 40)) (.ci (.li 7) .n0))))), (.ef (.tf wm5_11 (.fb .quo (.i2f (.ib .sub .i64 (.ai 9 0 (.ci (.ib .quo .i64 (.at 1 4) (.li 11)) (.ci (.li 33) .n0))) (.li 16))) (.lf 4620693217682128896)) (.lf 0)))]
def wk5_8 : Blk := [(.ei .i64 (.ti wm5_13 (.li 0) (.ti (.vb 2) (.ti (.ic .eql (.ai 9 0 (.ci (.at 1 5) (.ci (.li 7) .n0))) (.li 0)) (.li 5) wm5_14) wm5_14))), (.ei .i64 (.ti wm5_13 (.li 0) (.ai 9 0 (.ci (.ib .quo .i64 (.at 1 5) (.li 4)) (.ci (.li 8) .n0))))), (.ei .i64 (.ti wm5_13 (.li 0) (.ai 9 0 (.ci (.ib .quo .i64 (.at 1 5) (.li 40)) (.ci (.li 8) .n0))))), (.ef (.tf wm5_13 (.fb .quo (.i2f (.ib .sub .i64 (.ai 9 0 (.ci (.ib .quo .i64 (.at 1 5) (.li 11)) (.ci (.li 33) .n0))) (.li 16))) (.lf 4620693217682128896)) (.lf 0)))]
def wk5_9 : Blk := [(.i .i64 4), (.ei .i64 (.ai 9 0 (.ci (.vi 4) (.ci (.li 10) .n0)))), (.ei .i64 (.ai 9 0 (.ci wm5_15 (.ci (.li 10) .n0)))), (.f 0)]
def wk5_10 : Blk := [(.i .i64 4), (.ei .i64 (.ai 9 0 (.ci (.vi 4) (.ci (.li 11) .n0)))), (.ei .i64 (.ai 9 0 (.ci wm5_15 (.ci (.li 11) .n0)))), (.f 0)]
def wk5_11 : Blk := [(.i .i64 4), (.ei .i64 (.ai 9 0 (.ci (.vi 4) (.ci (.li 12) .n0)))), (.ei .i64 (.ai 9 0 (.ci wm5_15 (.ci (.li 12) .n0)))), (.f 0)]
def wk5_12 : Blk := [(.i .i64 4), (.ei .i64 (.ai 9 0 (.ci (.vi 4) (.ci (.li 13) .n0)))), (.ei .i64 (.ai 9 0 (.ci wm5_15 (.ci (.li 13) .n0)))), (.f 0)]
def wk5_13 : Blk := [(.i .i64 4), (.ei .i64 (.ai 9 0 (.ci (.vi 4) (.ci (.li 14) .n0)))), (.ei .i64 (.ai 9 0 (.ci wm5_15 (.ci (.li 14) .n0)))), (.f 0)]
def wk5_14 : Blk := [(.i .i64 4), (.ei .i64 (.ai 9 0 (.ci (.vi 4) (.ci (.li 15) .n0)))), (.ei .i64 (.ai 9 0 (.ci wm5_15 (.ci (.li 15) .n0)))), (.f 0)]
def wk5_15 : Blk := [(.i .i64 4), (.ei .i64 (.ai 9 0 (.ci (.vi 4) (.ci (.li 16) .n0)))), (.ei .i64 (.ai 9 0 (.ci wm5_15 (.ci (.li 16) .n0)))), (.f 0)]
def wk5_16 : Blk := [(.ei .i64 (.ti wm5_16 (.li 0) (.ti (.vb 2) (.ti (.ic .eql (.ai 9 0 (.ci (.at 1 6) (.ci (.li 7) .n0))) (.li 0)) (.li 5) wm5_17) wm5_17))), (.ei .i64 (.ti wm5_16 (.li 0) (.ai 9 0 (.ci (.ib .quo .i64 (.at 1 6) (.li 4)) (.ci (.li 9) .n0))))), (.ei .i64 (.ti wm5_16 (.li 0) (.ai 9 0 (.ci (.ib .quo .i64 (.at 1 6) (.li 40)) (.ci (.li 9) .n0))))), (.ef (.tf wm5_16 (.fb .quo (.i2f (.ib .sub .i64 (.ai 9 0 (.ci (.ib .quo .i64 (.at 1 6) (.li 11)) (.ci (.li 33) .n0))) (.li 16))) (.lf 4620693217682128896)) (.lf 0)))]
def wk5_17 : Blk := [(.i .i64 4), (.ei .i64 (.ai 9 0 (.ci (.vi 4) (.ci (.li 17) .n0)))), (.ei .i64 (.ai 9 0 (.ci wm5_15 (.ci (.li 17) .n0)))), (.f 0)]
def wk5_18 : Blk := [(.ei .i64 (.ti wm5_18 (.li 0) (.ti (.vb 2) (.ti (.ic .eql (.ai 9 0 (.ci (.at 1 7) (.ci (.li 7) .n0))) (.li 0)) (.li 5) wm5_19) wm5_19))), (.ei .i64 (.ti wm5_18 (.li 0) (.ai 9 0 (.ci (.ib .quo .i64 (.at 1 7) (.li 4)) (.ci (.li 10) .n0))))), (.ei .i64 (.ti wm5_18 (.li 0) (.ai 9 0 (.ci (.ib .quo .i64 (.at 1 7) (.li 40)) (.ci (.li 10) .n0))))), (.ef (.tf wm5_18 (.fb .quo (.i2f (.ib .sub .i64 (.ai 9 0 (.ci (.ib .quo .i64 (.at 1 7) (.li 11)) (.ci (.li 33) .n0))) (.li 16))) (.lf 4620693217682128896)) (.lf 0)))]
def wb5_0 : Blk := [(.ei .i64 (.ib .sub .i64 (.li 8) wm5_1)), (.ei .i64 (.ib .sub .i64 (.li 8) wm5_2))]
def wb5_1 : Blk := wk5_0 ++ wk5_1 ++ wk5_2 ++ wk5_3 ++ wk5_4 ++ wk5_5 ++ wk5_6 ++ wk5_7 ++ wk5_8
def wb5_2 : Blk := [(.ef (.fb .quo (.i2f (.ib .sub .i64 (.ai 9 0 (.ci (.ti (.ic .lss (.li 0) (.vl 3)) (.at 3 0) (.li 0)) (.ci (.li 65) .n0))) (.li 32))) (.lf 4620693217682128896))), (.ef (.fb .quo (.i2f (.ib .sub .i64 (.ai 9 0 (.ci (.ti (.ic .lss (.li 1) (.vl 3)) (.at 3 1) (.li 1)) (.ci (.li 65) .n0))) (.li 32))) (.lf 4620693217682128896)))]
def wb5_3 : Blk := [(.ef (.vf 152)), (.ef (.vf 153))]
def wb5_4 : Blk := [(.ei .i64 (.ib .sub .i64 (.li 8) wm5_2)), (.ei .i64 (.ib .sub .i64 (.li 8) wm5_2))]
def wb5_5 : Blk := [(.ef (.vf 153)), (.ef (.vf 153))]
def wb5_6 : Blk := wk5_0 ++ wk5_1 ++ wk5_2 ++ wk5_3 ++ wk5_4 ++ wk5_5 ++ wk5_6 ++ wk5_7 ++ wk5_8 ++ [(.i .i64 4), (.i .i64 1), (.ei .i64 (.ai 9 0 (.ci wm5_15 (.ci (.li 9) .n0)))), (.f 0)]
def wb5_7 : Blk := wk5_0 ++ wk5_1 ++ wk5_2 ++ wk5_3 ++ wk5_4 ++ wk5_5 ++ wk5_6 ++ wk5_7 ++ wk5_8 ++ [(.i .i64 4), (.i .i64 2), (.ei .i64 (.ai 9 0 (.ci wm5_15 (.ci (.li 9) .n0)))), (.f 0)] ++ wk5_9
def wb5_8 : Blk := wk5_0 ++ wk5_1 ++ wk5_2 ++ wk5_3 ++ wk5_4 ++ wk5_5 ++ wk5_6 ++ wk5_7 ++ wk5_8 ++ [(.i .i64 4), (.i .i64 3), (.ei .i64 (.ai 9 0 (.ci wm5_15 (.ci (.li 9) .n0)))), (.f 0)] ++ wk5_9 ++ wk5_10
def wb5_9 : Blk := wk5_0 ++ wk5_1 ++ wk5_2 ++ wk5_3 ++ wk5_4 ++ wk5_5 ++ wk5_6 ++ wk5_7 ++ wk5_8 ++ [(.i .i64 4), (.i .i64 4), (.ei .i64 (.ai 9 0 (.ci wm5_15 (.ci (.li 9) .n0)))), (.f 0)] ++ wk5_9 ++ wk5_10 ++ wk5_11
def wb5_10 : Blk := wk5_0 ++ wk5_1 ++ wk5_2 ++ wk5_3 ++ wk5_4 ++ wk5_5 ++ wk5_6 ++ wk5_7 ++ wk5_8 ++ [(.i .i64 4), (.i .i64 5), (.ei .i64 (.ai 9 0 (.ci wm5_15 (.ci (.li 9) .n0)))), (.f 0)] ++ wk5_9 ++ wk5_10 ++ wk5_11 ++ wk5_12
def wb5_11 : Blk := wk5_0 ++ wk5_1 ++ wk5_2 ++ wk5_3 ++ wk5_4 ++ wk5_5 ++ wk5_6 ++ wk5_7 ++ wk5_8 ++ [(.i .i64 4), (.i .i64 6), (.ei .i64 (.ai 9 0 (.ci wm5_15 (.ci (.li 9) .n0)))), (.f 0)] ++ wk5_9 ++ wk5_10 ++ wk5_11 ++ wk5_12 ++ wk5_13
def wb5_12 : Blk := wk5_0 ++ wk5_1 ++ wk5_2 ++ wk5_3 ++ wk5_4 ++ wk5_5 ++ wk5_6 ++ wk5_7 ++ wk5_8 ++ [(.i .i64 4), (.i .i64 7), (.ei .i64 (.ai 9 0 (.ci wm5_15 (.ci (.li 9) .n0)))), (.f 0)] ++ wk5_9 ++ wk5_10 ++ wk5_11 ++ wk5_12 ++ wk5_13 ++ wk5_14
def wb5_13 : Blk := wk5_0 ++ wk5_1 ++ wk5_2 ++ wk5_3 ++ wk5_4 ++ wk5_5 ++ wk5_6 ++ wk5_7 ++ wk5_8 ++ [(.i .i64 4), (.i .i64 8), (.ei .i64 (.ai 9 0 (.ci wm5_15 (.ci (.li 9) .n0)))), (.f 0)] ++ wk5_9 ++ wk5_10 ++ wk5_11 ++ wk5_12 ++ wk5_13 ++ wk5_14 ++ wk5_15
def wb5_14 : Blk := [(.ei .i64 (.ib .sub .i64 (.li 9) wm5_1)), (.ei .i64 (.ib .sub .i64 (.li 9) wm5_2))]
def wb5_15 : Blk := wk5_0 ++ wk5_1 ++ wk5_2 ++ wk5_3 ++ wk5_4 ++ wk5_5 ++ wk5_6 ++ wk5_7 ++ wk5_8 ++ wk5_16
def wb5_16 : Blk := [(.ef (.vf 150)), (.ef (.vf 151))]
def wb5_17 : Blk := [(.ei .i64 (.ib .sub .i64 (.li 9) wm5_2)), (.ei .i64 (.ib .sub .i64 (.li 9) wm5_2))]
def wb5_18 : Blk := [(.ef (.vf 151)), (.ef (.vf 151))]
def wb5_19 : Blk := wk5_0 ++ wk5_1 ++ wk5_2 ++ wk5_3 ++ wk5_4 ++ wk5_5 ++ wk5_6 ++ wk5_7 ++ wk5_8 ++ wk5_16 ++ wk5_9
def wb5_20 : Blk := wk5_0 ++ wk5_1 ++ wk5_2 ++ wk5_3 ++ wk5_4 ++ wk5_5 ++ wk5_6 ++ wk5_7 ++ wk5_8 ++ wk5_16 ++ wk5_9 ++ wk5_10
def wb5_21 : Blk := wk5_0 ++ wk5_1 ++ wk5_2 ++ wk5_3 ++ wk5_4 ++ wk5_5 ++ wk5_6 ++ wk5_7 ++ wk5_8 ++ wk5_16 ++ wk5_9 ++ wk5_10 ++ wk5_11
def wb5_22 : Blk := wk5_0 ++ wk5_1 ++ wk5_2 ++ wk5_3 ++ wk5_4 ++ wk5_5 ++ wk5_6 ++ wk5_7 ++ wk5_8 ++ wk5_16 ++ wk5_9 ++ wk5_10 ++ wk5_11 ++ wk5_12
def wb5_23 : Blk := wk5_0 ++ wk5_1 ++ wk5_2 ++ wk5_3 ++ wk5_4 ++ wk5_5 ++ wk5_6 ++ wk5_7 ++ wk5_8 ++ wk5_16 ++ wk5_9 ++ wk5_10 ++ wk5_11 ++ wk5_12 ++ wk5_13
def wb5_24 : Blk := wk5_0 ++ wk5_1 ++ wk5_2 ++ wk5_3 ++ wk5_4 ++ wk5_5 ++ wk5_6 ++ wk5_7 ++ wk5_8 ++ wk5_16 ++ wk5_9 ++ wk5_10 ++ wk5_11 ++ wk5_12 ++ wk5_13 ++ wk5_14
def wb5_25 : Blk := wk5_0 ++ wk5_1 ++ wk5_2 ++ wk5_3 ++ wk5_4 ++ wk5_5 ++ wk5_6 ++ wk5_7 ++ wk5_8 ++ wk5_16 ++ wk5_9 ++ wk5_10 ++ wk5_11 ++ wk5_12 ++ wk5_13 ++ wk5_14 ++ wk5_15
def wb5_26 : Blk := wk5_0 ++ wk5_1 ++ wk5_2 ++ wk5_3 ++ wk5_4 ++ wk5_5 ++ wk5_6 ++ wk5_7 ++ wk5_8 ++ wk5_16 ++ wk5_9 ++ wk5_10 ++ wk5_11 ++ wk5_12 ++ wk5_13 ++ wk5_14 ++ wk5_15 ++ wk5_17
def wb5_27 : Blk := [(.ei .i64 (.ib .sub .i64 (.li 10) wm5_1)), (.ei .i64 (.ib .sub .i64 (.li 10) wm5_2))]
def wb5_28 : Blk := wk5_0 ++ wk5_1 ++ wk5_2 ++ wk5_3 ++ wk5_4 ++ wk5_5 ++ wk5_6 ++ wk5_7 ++ wk5_8 ++ wk5_16 ++ wk5_18
def wb5_29 : Blk := [(.ef (.vf 148)), (.ef (.vf 149))]
def wb5_30 : Blk := [(.ei .i64 (.ib .sub .i64 (.li 10) wm5_2)), (.ei .i64 (.ib .sub .i64 (.li 10) wm5_2))]
def wb5_31 : Blk := [(.ef (.vf 149)), (.ef (.vf 149))]
def wb5_32 : Blk := wk5_0 ++ wk5_1 ++ wk5_2 ++ wk5_3 ++ wk5_4 ++ wk5_5 ++ wk5_6 ++ wk5_7 ++ wk5_8 ++ wk5_16 ++ wk5_18 ++ wk5_10
def wb5_33 : Blk := wk5_0 ++ wk5_1 ++ wk5_2 ++ wk5_3 ++ wk5_4 ++ wk5_5 ++ wk5_6 ++ wk5_7 ++ wk5_8 ++ wk5_16 ++ wk5_18 ++ wk5_10 ++ wk5_11
def wb5_34 : Blk := wk5_0 ++ wk5_1 ++ wk5_2 ++ wk5_3 ++ wk5_4 ++ wk5_5 ++ wk5_6 ++ wk5_7 ++ wk5_8 ++ wk5_16 ++ wk5_18 ++ wk5_10 ++ wk5_11 ++ wk5_12
def wb5_35 : Blk := wk5_0 ++ wk5_1 ++ wk5_2 ++ wk5_3 ++ wk5_4 ++ wk5_5 ++ wk5_6 ++ wk5_7 ++ wk5_8 ++ wk5_16 ++ wk5_18 ++ wk5_10 ++ wk5_11 ++ wk5_12 ++ wk5_13
def wb5_36 : Blk := wk5_0 ++ wk5_1 ++ wk5_2 ++ wk5_3 ++ wk5_4 ++ wk5_5 ++ wk5_6 ++ wk5_7 ++ wk5_8 ++ wk5_16 ++ wk5_18 ++ wk5_10 ++ wk5_11 ++ wk5_12 ++ wk5_13 ++ wk5_14
def wb5_37 : Blk := wk5_0 ++ wk5_1 ++ wk5_2 ++ wk5_3 ++ wk5_4 ++ wk5_5 ++ wk5_6 ++ wk5_7 ++ wk5_8 ++ wk5_16 ++ wk5_18 ++ wk5_10 ++ wk5_11 ++ wk5_12 ++ wk5_13 ++ wk5_14 ++ wk5_15
def wb5_38 : Blk := wk5_0 ++ wk5_1 ++ wk5_2 ++ wk5_3 ++ wk5_4 ++ wk5_5 ++ wk5_6 ++ wk5_7 ++ wk5_8 ++ wk5_16 ++ wk5_18 ++ wk5_10 ++ wk5_11 ++ wk5_12 ++ wk5_13 ++ wk5_14 ++ wk5_15 ++ wk5_17
def wb5_39 : Blk := wk5_0 ++ wk5_1 ++ wk5_2 ++ wk5_3 ++ wk5_4 ++ wk5_5 ++ wk5_6 ++ wk5_7 ++ wk5_8 ++ wk5_16 ++ wk5_18 ++ wk5_10 ++ wk5_11 ++ wk5_12 ++ wk5_13 ++ wk5_14 ++ wk5_15 ++ wk5_17 ++ [(.i .i64 4), (.ei .i64 (.ai 9 0 (.ci (.vi 4) (.ci (.li 18) .n0)))), (.ei .i64 (.ai 9 0 (.ci wm5_15 (.ci (.li 18) .n0)))), (.f 0)]
def w1_0_6m0 : Memo :=  (⟨[(.ag [(.i .i64 2), (.sl 11 0 9 (.u 4)), (.sl 10 0 2 (.u 1))]), (.c (.sl 72 0 2 (.u 1)))], [(10, wb5_0), (11, wb5_1), (72, wb5_2)], 86, (.c (.sl 88 0 2 (.n 2))), [(10, wb5_0), (11, wb5_1), (72, wb5_2), (88, wb5_3)], 131⟩) 
theorem w1_0_6o0 : mok [(0, 3, 1), (4, 9, 0)] (lenL 1 6 8 ++ []) wN1 21 w1_0_6m0 = true := by kernel_rfl
def w1_0_6m1 : Memo :=  (⟨[(.ag [(.i .i64 2), (.sl 41 0 9 (.u 4)), (.sl 40 0 2 (.u 1))]), (.c (.sl 72 0 2 (.u 1)))], [(40, wb5_0), (41, wb5_1), (72, wb5_2)], 131, (.c (.sl 133 0 2 (.n 2))), [(40, wb5_0), (41, wb5_1), (72, wb5_2), (133, wb5_3)], 176⟩) 
theorem w1_0_6o1 : mok [(0, 3, 1), (4, 9, 0)] (lenL 1 6 8 ++ []) wN1 21 w1_0_6m1 = true := by kernel_rfl
def w1_0_6m2 : Memo :=  (⟨[(.ag [(.i .i64 2), (.sl 41 0 9 (.u 4)), (.sl 40 0 2 (.u 1))]), (.c (.sl 72 0 2 (.u 1)))], [(40, wb5_4), (41, wb5_1), (72, wb5_2)], 176, (.c (.sl 178 0 2 (.n 2))), [(40, wb5_4), (41, wb5_1), (72, wb5_2), (178, wb5_5)], 221⟩) 
theorem w1_0_6o2 : mok [(0, 3, 1), (4, 9, 0)] (lenL 1 6 8 ++ []) wN1 21 w1_0_6m2 = true := by kernel_rfl
def w1_0_6ms : List (Nat × List Memo) := [(21, [w1_0_6m0, w1_0_6m1, w1_0_6m2])]
theorem w1_0_6mo : AllMem (memRun [(0, 3, 1), (4, 9, 0)] (lenL 1 6 8 ++ []) wN1) w1_0_6ms := ⟨⟨w1_0_6o0, w1_0_6o1, w1_0_6o2, trivial⟩, trivial⟩
theorem w1_0_6 : lawRunM 9 10 200 [.i, .q, .b, .q, .i] [(0, 3, 1), (4, 9, 0)] (lenL 1 6 8 ++ []) wN1 w1_0_6ms = true := by kernel_rfl
def w1_1_6m0 : Memo :=  (⟨[(.ag [(.i .i64 2), (.sl 11 0 9 (.u 4)), (.sl 10 0 2 (.u 1))]), (.c (.sl 72 0 2 (.u 1)))], [(10, wb5_0), (11, wb5_1), (72, wb5_2)], 89, (.c (.sl 91 0 2 (.n 2))), [(10, wb5_0), (11, wb5_1), (72, wb5_2), (91, wb5_3)], 134⟩) 
theorem w1_1_6o0 : mok [(0, 3, 1), (4, 9, 1)] (lenL 1 6 8 ++ []) wN1 21 w1_1_6m0 = true := by kernel_rfl
def w1_1_6m1 : Memo :=  (⟨[(.ag [(.i .i64 2), (.sl 77 0 10 (.u 4)), (.sl 40 0 2 (.u 1))]), (.c (.sl 72 0 2 (.u 1)))], [(40, wb5_0), (72, wb5_2), (77, wb5_6)], 134, (.c (.sl 136 0 2 (.n 2))), [(40, wb5_0), (72, wb5_2), (77, wb5_6), (136, wb5_3)], 183⟩) 
theorem w1_1_6o1 : mok [(0, 3, 1), (4, 9, 1)] (lenL 1 6 8 ++ []) wN1 21 w1_1_6m1 = true := by kernel_rfl
def w1_1_6m2 : Memo :=  (⟨[(.ag [(.i .i64 2), (.sl 77 0 10 (.u 4)), (.sl 40 0 2 (.u 1))]), (.c (.sl 72 0 2 (.u 1)))], [(40, wb5_4), (72, wb5_2), (77, wb5_6)], 183, (.c (.sl 185 0 2 (.n 2))), [(40, wb5_4), (72, wb5_2), (77, wb5_6), (185, wb5_5)], 232⟩) 
theorem w1_1_6o2 : mok [(0, 3, 1), (4, 9, 1)] (lenL 1 6 8 ++ []) wN1 21 w1_1_6m2 = true := by kernel_rfl
def w1_1_6ms : List (Nat × List Memo) := [(21, [w1_1_6m0, w1_1_6m1, w1_1_6m2])]
theorem w1_1_6mo : AllMem (memRun [(0, 3, 1), (4, 9, 1)] (lenL 1 6 8 ++ []) wN1) w1_1_6ms := ⟨⟨w1_1_6o0, w1_1_6o1, w1_1_6o2, trivial⟩, trivial⟩
theorem w1_1_6 : lawRunM 9 10 200 [.i, .q, .b, .q, .i] [(0, 3, 1), (4, 9, 1)] (lenL 1 6 8 ++ []) wN1 w1_1_6ms = true := by kernel_rfl
def w1_2_6m0 : Memo :=  (⟨[(.ag [(.i .i64 2), (.sl 11 0 9 (.u 4)), (.sl 10 0 2 (.u 1))]), (.c (.sl 72 0 2 (.u 1)))], [(10, wb5_0), (11, wb5_1), (72, wb5_2)], 92, (.c (.sl 94 0 2 (.n 2))), [(10, wb5_0), (11, wb5_1), (72, wb5_2), (94, wb5_3)], 137⟩) 
theorem w1_2_6o0 : mok [(0, 3, 1), (4, 9, 2)] (lenL 1 6 8 ++ []) wN1 21 w1_2_6m0 = true := by kernel_rfl
def w1_2_6m1 : Memo :=  (⟨[(.ag [(.i .i64 2), (.sl 79 0 11 (.u 4)), (.sl 40 0 2 (.u 1))]), (.c (.sl 72 0 2 (.u 1)))], [(40, wb5_0), (72, wb5_2), (79, wb5_7)], 137, (.c (.sl 139 0 2 (.n 2))), [(40, wb5_0), (72, wb5_2), (79, wb5_7), (139, wb5_3)], 190⟩) 
theorem w1_2_6o1 : mok [(0, 3, 1), (4, 9, 2)] (lenL 1 6 8 ++ []) wN1 21 w1_2_6m1 = true := by kernel_rfl
def w1_2_6m2 : Memo :=  (⟨[(.ag [(.i .i64 2), (.sl 79 0 11 (.u 4)), (.sl 40 0 2 (.u 1))]), (.c (.sl 72 0 2 (.u 1)))], [(40, wb5_4), (72, wb5_2), (79, wb5_7)], 190, (.c (.sl 192 0 2 (.n 2))), [(40, wb5_4), (72, wb5_2), (79, wb5_7), (192, wb5_5)], 243⟩) 
theorem w1_2_6o2 : mok [(0, 3, 1), (4, 9, 2)] (lenL 1 6 8 ++ []) wN1 21 w1_2_6m2 = true := by kernel_rfl
def w1_2_6ms : List (Nat × List Memo) := [(21, [w1_2_6m0, w1_2_6m1, w1_2_6m2])]
theorem w1_2_6mo : AllMem (memRun [(0, 3, 1), (4, 9, 2)] (lenL 1 6 8 ++ []) wN1) w1_2_6ms := ⟨⟨w1_2_6o0, w1_2_6o1, w1_2_6o2, trivial⟩, trivial⟩
theorem w1_2_6 : lawRunM 9 10 200 [.i, .q, .b, .q, .i] [(0, 3, 1), (4, 9, 2)] (lenL 1 6 8 ++ []) wN1 w1_2_6ms = true := by kernel_rfl
def w1_3_6m0 : Memo :=  (⟨[(.ag [(.i .i64 2), (.sl 11 0 9 (.u 4)), (.sl 10 0 2 (.u 1))]), (.c (.sl 72 0 2 (.u 1)))], [(10, wb5_0), (11, wb5_1), (72, wb5_2)], 95, (.c (.sl 97 0 2 (.n 2))), [(10, wb5_0), (11, wb5_1), (72, wb5_2), (97, wb5_3)], 140⟩) 
theorem w1_3_6o0 : mok [(0, 3, 1), (4, 9, 3)] (lenL 1 6 8 ++ []) wN1 21 w1_3_6m0 = true := by kernel_rfl
def w1_3_6m1 : Memo :=  (⟨[(.ag [(.i .i64 2), (.sl 81 0 12 (.u 4)), (.sl 40 0 2 (.u 1))]), (.c (.sl 72 0 2 (.u 1)))], [(40, wb5_0), (72, wb5_2), (81, wb5_8)], 140, (.c (.sl 142 0 2 (.n 2))), [(40, wb5_0), (72, wb5_2), (81, wb5_8), (142, wb5_3)], 197⟩) 
theorem w1_3_6o1 : mok [(0, 3, 1), (4, 9, 3)] (lenL 1 6 8 ++ []) wN1 21 w1_3_6m1 = true := by kernel_rfl
def w1_3_6m2 : Memo :=  (⟨[(.ag [(.i .i64 2), (.sl 81 0 12 (.u 4)), (.sl 40 0 2 (.u 1))]), (.c (.sl 72 0 2 (.u 1)))], [(40, wb5_4), (72, wb5_2), (81, wb5_8)], 197, (.c (.sl 199 0 2 (.n 2))), [(40, wb5_4), (72, wb5_2), (81, wb5_8), (199, wb5_5)], 254⟩) 
theorem w1_3_6o2 : mok [(0, 3, 1), (4, 9, 3)] (lenL 1 6 8 ++ []) wN1 21 w1_3_6m2 = true := by kernel_rfl
def w1_3_6ms : List (Nat × List Memo) := [(21, [w1_3_6m0, w1_3_6m1, w1_3_6m2])]
theorem w1_3_6mo : AllMem (memRun [(0, 3, 1), (4, 9, 3)] (lenL 1 6 8 ++ []) wN1) w1_3_6ms := ⟨⟨w1_3_6o0, w1_3_6o1, w1_3_6o2, trivial⟩, trivial⟩
theorem w1_3_6 : lawRunM 9 10 200 [.i, .q, .b, .q, .i] [(0, 3, 1), (4, 9, 3)] (lenL 1 6 8 ++ []) wN1 w1_3_6ms = true := by kernel_rfl
def w1_4_6m0 : Memo :=  (⟨[(.ag [(.i .i64 2), (.sl 11 0 9 (.u 4)), (.sl 10 0 2 (.u 1))]), (.c (.sl 72 0 2 (.u 1)))], [(10, wb5_0), (11, wb5_1), (72, wb5_2)], 98, (.c (.sl 100 0 2 (.n 2))), [(10, wb5_0), (11, wb5_1), (72, wb5_2), (100, wb5_3)], 143⟩) 
theorem w1_4_6o0 : mok [(0, 3, 1), (4, 9, 4)] (lenL 1 6 8 ++ []) wN1 21 w1_4_6m0 = true := by kernel_rfl
def w1_4_6m1 : Memo :=  (⟨[(.ag [(.i .i64 2), (.sl 83 0 13 (.u 4)), (.sl 40 0 2 (.u 1))]), (.c (.sl 72 0 2 (.u 1)))], [(40, wb5_0), (72, wb5_2), (83, wb5_9)], 143, (.c (.sl 145 0 2 (.n 2))), [(40, wb5_0), (72, wb5_2), (83, wb5_9), (145, wb5_3)], 204⟩) 
theorem w1_4_6o1 : mok [(0, 3, 1), (4, 9, 4)] (lenL 1 6 8 ++ []) wN1 21 w1_4_6m1 = true := by kernel_rfl
def w1_4_6m2 : Memo :=  (⟨[(.ag [(.i .i64 2), (.sl 83 0 13 (.u 4)), (.sl 40 0 2 (.u 1))]), (.c (.sl 72 0 2 (.u 1)))], [(40, wb5_4), (72, wb5_2), (83, wb5_9)], 204, (.c (.sl 206 0 2 (.n 2))), [(40, wb5_4), (72, wb5_2), (83, wb5_9), (206, wb5_5)], 265⟩) 
theorem w1_4_6o2 : mok [(0, 3, 1), (4, 9, 4)] (lenL 1 6 8 ++ []) wN1 21 w1_4_6m2 = true := by kernel_rfl
def w1_4_6ms : List (Nat × List Memo) := [(21, [w1_4_6m0, w1_4_6m1, w1_4_6m2])]
theorem w1_4_6mo : AllMem (memRun [(0, 3, 1), (4, 9, 4)] (lenL 1 6 8 ++ []) wN1) w1_4_6ms := ⟨⟨w1_4_6o0, w1_4_6o1, w1_4_6o2, trivial⟩, trivial⟩
theorem w1_4_6 : lawRunM 9 10 200 [.i, .q, .b, .q, .i] [(0, 3, 1), (4, 9, 4)] (lenL 1 6 8 ++ []) wN1 w1_4_6ms = true := by kernel_rfl
def w1_5_6m0 : Memo :=  (⟨[(.ag [(.i .i64 2), (.sl 11 0 9 (.u 4)), (.sl 10 0 2 (.u 1))]), (.c (.sl 72 0 2 (.u 1)))], [(10, wb5_0), (11, wb5_1), (72, wb5_2)], 101, (.c (.sl 103 0 2 (.n 2))), [(10, wb5_0), (11, wb5_1), (72, wb5_2), (103, wb5_3)], 146⟩) 
theorem w1_5_6o0 : mok [(0, 3, 1), (4, 9, 5)] (lenL 1 6 8 ++ []) wN1 21 w1_5_6m0 = true := by kernel_rfl
def w1_5_6m1 : Memo :=  (⟨[(.ag [(.i .i64 2), (.sl 85 0 14 (.u 4)), (.sl 40 0 2 (.u 1))]), (.c (.sl 72 0 2 (.u 1)))], [(40, wb5_0), (72, wb5_2), (85, wb5_10)], 146, (.c (.sl 148 0 2 (.n 2))), [(40, wb5_0), (72, wb5_2), (85, wb5_10), (148, wb5_3)], 211⟩) 
theorem w1_5_6o1 : mok [(0, 3, 1), (4, 9, 5)] (lenL 1 6 8 ++ []) wN1 21 w1_5_6m1 = true := by kernel_rfl
def w1_5_6m2 : Memo :=  (⟨[(.ag [(.i .i64 2), (.sl 85 0 14 (.u 4)), (.sl 40 0 2 (.u 1))]), (.c (.sl 72 0 2 (.u 1)))], [(40, wb5_4), (72, wb5_2), (85, wb5_10)], 211, (.c (.sl 213 0 2 (.n 2))), [(40, wb5_4), (72, wb5_2), (85, wb5_10), (213, wb5_5)], 276⟩) 
theorem w1_5_6o2 : mok [(0, 3, 1), (4, 9, 5)] (lenL 1 6 8 ++ []) wN1 21 w1_5_6m2 = true := by kernel_rfl
def w1_5_6ms : List (Nat × List Memo) := [(21, [w1_5_6m0, w1_5_6m1, w1_5_6m2])]
theorem w1_5_6mo : AllMem (memRun [(0, 3, 1), (4, 9, 5)] (lenL 1 6 8 ++ []) wN1) w1_5_6ms := ⟨⟨w1_5_6o0, w1_5_6o1, w1_5_6o2, trivial⟩, trivial⟩
theorem w1_5_6 : lawRunM 9 10 200 [.i, .q, .b, .q, .i] [(0, 3, 1), (4, 9, 5)] (lenL 1 6 8 ++ []) wN1 w1_5_6ms = true := by kernel_rfl
def w1_6_6m0 : Memo :=  (⟨[(.ag [(.i .i64 2), (.sl 11 0 9 (.u 4)), (.sl 10 0 2 (.u 1))]), (.c (.sl 72 0 2 (.u 1)))], [(10, wb5_0), (11, wb5_1), (72, wb5_2)], 104, (.c (.sl 106 0 2 (.n 2))), [(10, wb5_0), (11, wb5_1), (72, wb5_2), (106, wb5_3)], 149⟩) 
theorem w1_6_6o0 : mok [(0, 3, 1), (4, 9, 6)] (lenL 1 6 8 ++ []) wN1 21 w1_6_6m0 = true := by kernel_rfl
def w1_6_6m1 : Memo :=  (⟨[(.ag [(.i .i64 2), (.sl 87 0 15 (.u 4)), (.sl 40 0 2 (.u 1))]), (.c (.sl 72 0 2 (.u 1)))], [(40, wb5_0), (72, wb5_2), (87, wb5_11)], 149, (.c (.sl 151 0 2 (.n 2))), [(40, wb5_0), (72, wb5_2), (87, wb5_11), (151, wb5_3)], 218⟩) 
theorem w1_6_6o1 : mok [(0, 3, 1), (4, 9, 6)] (lenL 1 6 8 ++ []) wN1 21 w1_6_6m1 = true := by kernel_rfl
def w1_6_6m2 : Memo :=  (⟨[(.ag [(.i .i64 2), (.sl 87 0 15 (.u 4)), (.sl 40 0 2 (.u 1))]), (.c (.sl 72 0 2 (.u 1)))], [(40, wb5_4), (72, wb5_2), (87, wb5_11)], 218, (.c (.sl 220 0 2 (.n 2))), [(40, wb5_4), (72, wb5_2), (87, wb5_11), (220, wb5_5)], 287⟩) 
theorem w1_6_6o2 : mok [(0, 3, 1), (4, 9, 6)] (lenL 1 6 8 ++ []) wN1 21 w1_6_6m2 = true := by kernel_rfl
def w1_6_6ms : List (Nat × List Memo) := [(21, [w1_6_6m0, w1_6_6m1, w1_6_6m2])]
theorem w1_6_6mo : AllMem (memRun [(0, 3, 1), (4, 9, 6)] (lenL 1 6 8 ++ []) wN1) w1_6_6ms := ⟨⟨w1_6_6o0, w1_6_6o1, w1_6_6o2, trivial⟩, trivial⟩
theorem w1_6_6 : lawRunM 9 10 200 [.i, .q, .b, .q, .i] [(0, 3, 1), (4, 9, 6)] (lenL 1 6 8 ++ []) wN1 w1_6_6ms = true := by kernel_rfl
def w1_7_6m0 : Memo :=  (⟨[(.ag [(.i .i64 2), (.sl 11 0 9 (.u 4)), (.sl 10 0 2 (.u 1))]), (.c (.sl 72 0 2 (.u 1)))], [(10, wb5_0), (11, wb5_1), (72, wb5_2)], 107, (.c (.sl 109 0 2 (.n 2))), [(10, wb5_0), (11, wb5_1), (72, wb5_2), (109, wb5_3)], 152⟩) 
theorem w1_7_6o0 : mok [(0, 3, 1), (4, 9, 7)] (lenL 1 6 8 ++ []) wN1 21 w1_7_6m0 = true := by kernel_rfl
def w1_7_6m1 : Memo :=  (⟨[(.ag [(.i .i64 2), (.sl 89 0 16 (.u 4)), (.sl 40 0 2 (.u 1))]), (.c (.sl 72 0 2 (.u 1)))], [(40, wb5_0), (72, wb5_2), (89, wb5_12)], 152, (.c (.sl 154 0 2 (.n 2))), [(40, wb5_0), (72, wb5_2), (89, wb5_12), (154, wb5_3)], 225⟩) 
theorem w1_7_6o1 : mok [(0, 3, 1), (4, 9, 7)] (lenL 1 6 8 ++ []) wN1 21 w1_7_6m1 = true := by kernel_rfl
def w1_7_6m2 : Memo :=  (⟨[(.ag [(.i .i64 2), (.sl 89 0 16 (.u 4)), (.sl 40 0 2 (.u 1))]), (.c (.sl 72 0 2 (.u 1)))], [(40, wb5_4), (72, wb5_2), (89, wb5_12)], 225, (.c (.sl 227 0 2 (.n 2))), [(40, wb5_4), (72, wb5_2), (89, wb5_12), (227, wb5_5)], 298⟩) 
theorem w1_7_6o2 : mok [(0, 3, 1), (4, 9, 7)] (lenL 1 6 8 ++ []) wN1 21 w1_7_6m2 = true := by kernel_rfl
def w1_7_6ms : List (Nat × List Memo) := [(21, [w1_7_6m0, w1_7_6m1, w1_7_6m2])]
theorem w1_7_6mo : AllMem (memRun [(0, 3, 1), (4, 9, 7)] (lenL 1 6 8 ++ []) wN1) w1_7_6ms := ⟨⟨w1_7_6o0, w1_7_6o1, w1_7_6o2, trivial⟩, trivial⟩
theorem w1_7_6 : lawRunM 9 10 200 [.i, .q, .b, .q, .i] [(0, 3, 1), (4, 9, 7)] (lenL 1 6 8 ++ []) wN1 w1_7_6ms = true := by kernel_rfl
def w1_8_6m0 : Memo :=  (⟨[(.ag [(.i .i64 2), (.sl 11 0 9 (.u 4)), (.sl 10 0 2 (.u 1))]), (.c (.sl 72 0 2 (.u 1)))], [(10, wb5_0), (11, wb5_1), (72, wb5_2)], 110, (.c (.sl 112 0 2 (.n 2))), [(10, wb5_0), (11, wb5_1), (72, wb5_2), (112, wb5_3)], 155⟩) 
theorem w1_8_6o0 : mok [(0, 3, 1), (4, 9, 8)] (lenL 1 6 8 ++ []) wN1 21 w1_8_6m0 = true := by kernel_rfl
def w1_8_6m1 : Memo :=  (⟨[(.ag [(.i .i64 2), (.sl 91 0 17 (.u 4)), (.sl 40 0 2 (.u 1))]), (.c (.sl 72 0 2 (.u 1)))], [(40, wb5_0), (72, wb5_2), (91, wb5_13)], 155, (.c (.sl 157 0 2 (.n 2))), [(40, wb5_0), (72, wb5_2), (91, wb5_13), (157, wb5_3)], 232⟩) 
theorem w1_8_6o1 : mok [(0, 3, 1), (4, 9, 8)] (lenL 1 6 8 ++ []) wN1 21 w1_8_6m1 = true := by kernel_rfl
def w1_8_6m2 : Memo :=  (⟨[(.ag [(.i .i64 2), (.sl 91 0 17 (.u 4)), (.sl 40 0 2 (.u 1))]), (.c (.sl 72 0 2 (.u 1)))], [(40, wb5_4), (72, wb5_2), (91, wb5_13)], 232, (.c (.sl 234 0 2 (.n 2))), [(40, wb5_4), (72, wb5_2), (91, wb5_13), (234, wb5_5)], 309⟩) 
theorem w1_8_6o2 : mok [(0, 3, 1), (4, 9, 8)] (lenL 1 6 8 ++ []) wN1 21 w1_8_6m2 = true := by kernel_rfl
def w1_8_6ms : List (Nat × List Memo) := [(21, [w1_8_6m0, w1_8_6m1, w1_8_6m2])]
theorem w1_8_6mo : AllMem (memRun [(0, 3, 1), (4, 9, 8)] (lenL 1 6 8 ++ []) wN1) w1_8_6ms := ⟨⟨w1_8_6o0, w1_8_6o1, w1_8_6o2, trivial⟩, trivial⟩
theorem w1_8_6 : lawRunM 9 10 200 [.i, .q, .b, .q, .i] [(0, 3, 1), (4, 9, 8)] (lenL 1 6 8 ++ []) wN1 w1_8_6ms = true := by kernel_rfl
def w1_0_7m0 : Memo :=  (⟨[(.ag [(.i .i64 2), (.sl 11 0 10 (.u 4)), (.sl 10 0 2 (.u 1))]), (.c (.sl 78 0 2 (.u 1)))], [(10, wb5_14), (11, wb5_15), (78, wb5_2)], 93, (.c (.sl 95 0 2 (.n 2))), [(10, wb5_14), (11, wb5_15), (78, wb5_2), (95, wb5_16)], 142⟩) 
theorem w1_0_7o0 : mok [(0, 3, 1), (4, 9, 0)] (lenL 1 7 8 ++ []) wN1 21 w1_0_7m0 = true := by kernel_rfl
def w1_0_7m1 : Memo :=  (⟨[(.ag [(.i .i64 2), (.sl 44 0 10 (.u 4)), (.sl 43 0 2 (.u 1))]), (.c (.sl 78 0 2 (.u 1)))], [(43, wb5_14), (44, wb5_15), (78, wb5_2)], 142, (.c (.sl 144 0 2 (.n 2))), [(43, wb5_14), (44, wb5_15), (78, wb5_2), (144, wb5_16)], 191⟩) 
theorem w1_0_7o1 : mok [(0, 3, 1), (4, 9, 0)] (lenL 1 7 8 ++ []) wN1 21 w1_0_7m1 = true := by kernel_rfl
def w1_0_7m2 : Memo :=  (⟨[(.ag [(.i .i64 2), (.sl 44 0 10 (.u 4)), (.sl 43 0 2 (.u 1))]), (.c (.sl 78 0 2 (.u 1)))], [(43, wb5_17), (44, wb5_15), (78, wb5_2)], 191, (.c (.sl 193 0 2 (.n 2))), [(43, wb5_17), (44, wb5_15), (78, wb5_2), (193, wb5_18)], 240⟩) 
theorem w1_0_7o2 : mok [(0, 3, 1), (4, 9, 0)] (lenL 1 7 8 ++ []) wN1 21 w1_0_7m2 = true := by kernel_rfl
def w1_0_7ms : List (Nat × List Memo) := [(21, [w1_0_7m0, w1_0_7m1, w1_0_7m2])]
theorem w1_0_7mo : AllMem (memRun [(0, 3, 1), (4, 9, 0)] (lenL 1 7 8 ++ []) wN1) w1_0_7ms := ⟨⟨w1_0_7o0, w1_0_7o1, w1_0_7o2, trivial⟩, trivial⟩
theorem w1_0_7 : lawRunM 9 10 200 [.i, .q, .b, .q, .i] [(0, 3, 1), (4, 9, 0)] (lenL 1 7 8 ++ []) wN1 w1_0_7ms = true := by kernel_rfl
def w1_1_7m0 : Memo :=  (⟨[(.ag [(.i .i64 2), (.sl 11 0 10 (.u 4)), (.sl 10 0 2 (.u 1))]), (.c (.sl 78 0 2 (.u 1)))], [(10, wb5_14), (11, wb5_15), (78, wb5_2)], 96, (.c (.sl 98 0 2 (.n 2))), [(10, wb5_14), (11, wb5_15), (78, wb5_2), (98, wb5_16)], 145⟩) 
theorem w1_1_7o0 : mok [(0, 3, 1), (4, 9, 1)] (lenL 1 7 8 ++ []) wN1 21 w1_1_7m0 = true := by kernel_rfl
def w1_1_7m1 : Memo :=  (⟨[(.ag [(.i .i64 2), (.sl 83 0 11 (.u 4)), (.sl 43 0 2 (.u 1))]), (.c (.sl 78 0 2 (.u 1)))], [(43, wb5_14), (78, wb5_2), (83, wb5_19)], 145, (.c (.sl 147 0 2 (.n 2))), [(43, wb5_14), (78, wb5_2), (83, wb5_19), (147, wb5_16)], 198⟩) 
theorem w1_1_7o1 : mok [(0, 3, 1), (4, 9, 1)] (lenL 1 7 8 ++ []) wN1 21 w1_1_7m1 = true := by kernel_rfl
def w1_1_7m2 : Memo :=  (⟨[(.ag [(.i .i64 2), (.sl 83 0 11 (.u 4)), (.sl 43 0 2 (.u 1))]), (.c (.sl 78 0 2 (.u 1)))], [(43, wb5_17), (78, wb5_2), (83, wb5_19)], 198, (.c (.sl 200 0 2 (.n 2))), [(43, wb5_17), (78, wb5_2), (83, wb5_19), (200, wb5_18)], 251⟩) 
theorem w1_1_7o2 : mok [(0, 3, 1), (4, 9, 1)] (lenL 1 7 8 ++ []) wN1 21 w1_1_7m2 = true := by kernel_rfl
def w1_1_7ms : List (Nat × List Memo) := [(21, [w1_1_7m0, w1_1_7m1, w1_1_7m2])]
theorem w1_1_7mo : AllMem (memRun [(0, 3, 1), (4, 9, 1)] (lenL 1 7 8 ++ []) wN1) w1_1_7ms := ⟨⟨w1_1_7o0, w1_1_7o1, w1_1_7o2, trivial⟩, trivial⟩
theorem w1_1_7 : lawRunM 9 10 200 [.i, .q, .b, .q, .i] [(0, 3, 1), (4, 9, 1)] (lenL 1 7 8 ++ []) wN1 w1_1_7ms = true := by kernel_rfl
def w1_2_7m0 : Memo :=  (⟨[(.ag [(.i .i64 2), (.sl 11 0 10 (.u 4)), (.sl 10 0 2 (.u 1))]), (.c (.sl 78 0 2 (.u 1)))], [(10, wb5_14), (11, wb5_15), (78, wb5_2)], 99, (.c (.sl 101 0 2 (.n 2))), [(10, wb5_14), (11, wb5_15), (78, wb5_2), (101, wb5_16)], 148⟩) 
theorem w1_2_7o0 : mok [(0, 3, 1), (4, 9, 2)] (lenL 1 7 8 ++ []) wN1 21 w1_2_7m0 = true := by kernel_rfl
def w1_2_7m1 : Memo :=  (⟨[(.ag [(.i .i64 2), (.sl 85 0 12 (.u 4)), (.sl 43 0 2 (.u 1))]), (.c (.sl 78 0 2 (.u 1)))], [(43, wb5_14), (78, wb5_2), (85, wb5_20)], 148, (.c (.sl 150 0 2 (.n 2))), [(43, wb5_14), (78, wb5_2), (85, wb5_20), (150, wb5_16)], 205⟩) 
theorem w1_2_7o1 : mok [(0, 3, 1), (4, 9, 2)] (lenL 1 7 8 ++ []) wN1 21 w1_2_7m1 = true := by kernel_rfl
def w1_2_7m2 : Memo :=  (⟨[(.ag [(.i .i64 2), (.sl 85 0 12 (.u 4)), (.sl 43 0 2 (.u 1))]), (.c (.sl 78 0 2 (.u 1)))], [(43, wb5_17), (78, wb5_2), (85, wb5_20)], 205, (.c (.sl 207 0 2 (.n 2))), [(43, wb5_17), (78, wb5_2), (85, wb5_20), (207, wb5_18)], 262⟩) 
theorem w1_2_7o2 : mok [(0, 3, 1), (4, 9, 2)] (lenL 1 7 8 ++ []) wN1 21 w1_2_7m2 = true := by kernel_rfl
def w1_2_7ms : List (Nat × List Memo) := [(21, [w1_2_7m0, w1_2_7m1, w1_2_7m2])]
theorem w1_2_7mo : AllMem (memRun [(0, 3, 1), (4, 9, 2)] (lenL 1 7 8 ++ []) wN1) w1_2_7ms := ⟨⟨w1_2_7o0, w1_2_7o1, w1_2_7o2, trivial⟩, trivial⟩
theorem w1_2_7 : lawRunM 9 10 200 [.i, .q, .b, .q, .i] [(0, 3, 1), (4, 9, 2)] (lenL 1 7 8 ++ []) wN1 w1_2_7ms = true := by kernel_rfl
def w1_3_7m0 : Memo :=  (⟨[(.ag [(.i .i64 2), (.sl 11 0 10 (.u 4)), (.sl 10 0 2 (.u 1))]), (.c (.sl 78 0 2 (.u 1)))], [(10, wb5_14), (11, wb5_15), (78, wb5_2)], 102, (.c (.sl 104 0 2 (.n 2))), [(10, wb5_14), (11, wb5_15), (78, wb5_2), (104, wb5_16)], 151⟩) 
theorem w1_3_7o0 : mok [(0, 3, 1), (4, 9, 3)] (lenL 1 7 8 ++ []) wN1 21 w1_3_7m0 = true := by kernel_rfl
def w1_3_7m1 : Memo :=  (⟨[(.ag [(.i .i64 2), (.sl 87 0 13 (.u 4)), (.sl 43 0 2 (.u 1))]), (.c (.sl 78 0 2 (.u 1)))], [(43, wb5_14), (78, wb5_2), (87, wb5_21)], 151, (.c (.sl 153 0 2 (.n 2))), [(43, wb5_14), (78, wb5_2), (87, wb5_21), (153, wb5_16)], 212⟩) 
theorem w1_3_7o1 : mok [(0, 3, 1), (4, 9, 3)] (lenL 1 7 8 ++ []) wN1 21 w1_3_7m1 = true := by kernel_rfl
def w1_3_7m2 : Memo :=  (⟨[(.ag [(.i .i64 2), (.sl 87 0 13 (.u 4)), (.sl 43 0 2 (.u 1))]), (.c (.sl 78 0 2 (.u 1)))], [(43, wb5_17), (78, wb5_2), (87, wb5_21)], 212, (.c (.sl 214 0 2 (.n 2))), [(43, wb5_17), (78, wb5_2), (87, wb5_21), (214, wb5_18)], 273⟩) 
theorem w1_3_7o2 : mok [(0, 3, 1), (4, 9, 3)] (lenL 1 7 8 ++ []) wN1 21 w1_3_7m2 = true := by kernel_rfl
def w1_3_7ms : List (Nat × List Memo) := [(21, [w1_3_7m0, w1_3_7m1, w1_3_7m2])]
theorem w1_3_7mo : AllMem (memRun [(0, 3, 1), (4, 9, 3)] (lenL 1 7 8 ++ []) wN1) w1_3_7ms := ⟨⟨w1_3_7o0, w1_3_7o1, w1_3_7o2, trivial⟩, trivial⟩
theorem w1_3_7 : lawRunM 9 10 200 [.i, .q, .b, .q, .i] [(0, 3, 1), (4, 9, 3)] (lenL 1 7 8 ++ []) wN1 w1_3_7ms = true := by kernel_rfl
def w1_4_7m0 : Memo :=  (⟨[(.ag [(.i .i64 2), (.sl 11 0 10 (.u 4)), (.sl 10 0 2 (.u 1))]), (.c (.sl 78 0 2 (.u 1)))], [(10, wb5_14), (11, wb5_15), (78, wb5_2)], 105, (.c (.sl 107 0 2 (.n 2))), [(10, wb5_14), (11, wb5_15), (78, wb5_2), (107, wb5_16)], 154⟩) 
theorem w1_4_7o0 : mok [(0, 3, 1), (4, 9, 4)] (lenL 1 7 8 ++ []) wN1 21 w1_4_7m0 = true := by kernel_rfl
def w1_4_7m1 : Memo :=  (⟨[(.ag [(.i .i64 2), (.sl 89 0 14 (.u 4)), (.sl 43 0 2 (.u 1))]), (.c (.sl 78 0 2 (.u 1)))], [(43, wb5_14), (78, wb5_2), (89, wb5_22)], 154, (.c (.sl 156 0 2 (.n 2))), [(43, wb5_14), (78, wb5_2), (89, wb5_22), (156, wb5_16)], 219⟩) 
theorem w1_4_7o1 : mok [(0, 3, 1), (4, 9, 4)] (lenL 1 7 8 ++ []) wN1 21 w1_4_7m1 = true := by kernel_rfl
def w1_4_7m2 : Memo :=  (⟨[(.ag [(.i .i64 2), (.sl 89 0 14 (.u 4)), (.sl 43 0 2 (.u 1))]), (.c (.sl 78 0 2 (.u 1)))], [(43, wb5_17), (78, wb5_2), (89, wb5_22)], 219, (.c (.sl 221 0 2 (.n 2))), [(43, wb5_17), (78, wb5_2), (89, wb5_22), (221, wb5_18)], 284⟩) 
theorem w1_4_7o2 : mok [(0, 3, 1), (4, 9, 4)] (lenL 1 7 8 ++ []) wN1 21 w1_4_7m2 = true := by kernel_rfl
def w1_4_7ms : List (Nat × List Memo) := [(21, [w1_4_7m0, w1_4_7m1, w1_4_7m2])]
theorem w1_4_7mo : AllMem (memRun [(0, 3, 1), (4, 9, 4)] (lenL 1 7 8 ++ []) wN1) w1_4_7ms := ⟨⟨w1_4_7o0, w1_4_7o1, w1_4_7o2, trivial⟩, trivial⟩
theorem w1_4_7 : lawRunM 9 10 200 [.i, .q, .b, .q, .i] [(0, 3, 1), (4, 9, 4)] (lenL 1 7 8 ++ []) wN1 w1_4_7ms = true := by kernel_rfl
def w1_5_7m0 : Memo :=  (⟨[(.ag [(.i .i64 2), (.sl 11 0 10 (.u 4)), (.sl 10 0 2 (.u 1))]), (.c (.sl 78 0 2 (.u 1)))], [(10, wb5_14), (11, wb5_15), (78, wb5_2)], 108, (.c (.sl 110 0 2 (.n 2))), [(10, wb5_14), (11, wb5_15), (78, wb5_2), (110, wb5_16)], 157⟩) 
theorem w1_5_7o0 : mok [(0, 3, 1), (4, 9, 5)] (lenL 1 7 8 ++ []) wN1 21 w1_5_7m0 = true := by kernel_rfl
def w1_5_7m1 : Memo :=  (⟨[(.ag [(.i .i64 2), (.sl 91 0 15 (.u 4)), (.sl 43 0 2 (.u 1))]), (.c (.sl 78 0 2 (.u 1)))], [(43, wb5_14), (78, wb5_2), (91, wb5_23)], 157, (.c (.sl 159 0 2 (.n 2))), [(43, wb5_14), (78, wb5_2), (91, wb5_23), (159, wb5_16)], 226⟩) 
theorem w1_5_7o1 : mok [(0, 3, 1), (4, 9, 5)] (lenL 1 7 8 ++ []) wN1 21 w1_5_7m1 = true := by kernel_rfl
def w1_5_7m2 : Memo :=  (⟨[(.ag [(.i .i64 2), (.sl 91 0 15 (.u 4)), (.sl 43 0 2 (.u 1))]), (.c (.sl 78 0 2 (.u 1)))], [(43, wb5_17), (78, wb5_2), (91, wb5_23)], 226, (.c (.sl 228 0 2 (.n 2))), [(43, wb5_17), (78, wb5_2), (91, wb5_23), (228, wb5_18)], 295⟩) 
theorem w1_5_7o2 : mok [(0, 3, 1), (4, 9, 5)] (lenL 1 7 8 ++ []) wN1 21 w1_5_7m2 = true := by kernel_rfl
def w1_5_7ms : List (Nat × List Memo) := [(21, [w1_5_7m0, w1_5_7m1, w1_5_7m2])]
theorem w1_5_7mo : AllMem (memRun [(0, 3, 1), (4, 9, 5)] (lenL 1 7 8 ++ []) wN1) w1_5_7ms := ⟨⟨w1_5_7o0, w1_5_7o1, w1_5_7o2, trivial⟩, trivial⟩
theorem w1_5_7 : lawRunM 9 10 200 [.i, .q, .b, .q, .i] [(0, 3, 1), (4, 9, 5)] (lenL 1 7 8 ++ []) wN1 w1_5_7ms = true := by kernel_rfl
def w1_6_7m0 : Memo :=  (⟨[(.ag [(.i .i64 2), (.sl 11 0 10 (.u 4)), (.sl 10 0 2 (.u 1))]), (.c (.sl 78 0 2 (.u 1)))], [(10, wb5_14), (11, wb5_15), (78, wb5_2)], 111, (.c (.sl 113 0 2 (.n 2))), [(10, wb5_14), (11, wb5_15), (78, wb5_2), (113, wb5_16)], 160⟩) 
theorem w1_6_7o0 : mok [(0, 3, 1), (4, 9, 6)] (lenL 1 7 8 ++ []) wN1 21 w1_6_7m0 = true := by kernel_rfl
def w1_6_7m1 : Memo :=  (⟨[(.ag [(.i .i64 2), (.sl 93 0 16 (.u 4)), (.sl 43 0 2 (.u 1))]), (.c (.sl 78 0 2 (.u 1)))], [(43, wb5_14), (78, wb5_2), (93, wb5_24)], 160, (.c (.sl 162 0 2 (.n 2))), [(43, wb5_14), (78, wb5_2), (93, wb5_24), (162, wb5_16)], 233⟩) 
theorem w1_6_7o1 : mok [(0, 3, 1), (4, 9, 6)] (lenL 1 7 8 ++ []) wN1 21 w1_6_7m1 = true := by kernel_rfl
def w1_6_7m2 : Memo :=  (⟨[(.ag [(.i .i64 2), (.sl 93 0 16 (.u 4)), (.sl 43 0 2 (.u 1))]), (.c (.sl 78 0 2 (.u 1)))], [(43, wb5_17), (78, wb5_2), (93, wb5_24)], 233, (.c (.sl 235 0 2 (.n 2))), [(43, wb5_17), (78, wb5_2), (93, wb5_24), (235, wb5_18)], 306⟩) 
theorem w1_6_7o2 : mok [(0, 3, 1), (4, 9, 6)] (lenL 1 7 8 ++ []) wN1 21 w1_6_7m2 = true := by kernel_rfl
def w1_6_7ms : List (Nat × List Memo) := [(21, [w1_6_7m0, w1_6_7m1, w1_6_7m2])]
theorem w1_6_7mo : AllMem (memRun [(0, 3, 1), (4, 9, 6)] (lenL 1 7 8 ++ []) wN1) w1_6_7ms := ⟨⟨w1_6_7o0, w1_6_7o1, w1_6_7o2, trivial⟩, trivial⟩
theorem w1_6_7 : lawRunM 9 10 200 [.i, .q, .b, .q, .i] [(0, 3, 1), (4, 9, 6)] (lenL 1 7 8 ++ []) wN1 w1_6_7ms = true := by kernel_rfl
def w1_7_7m0 : Memo :=  (⟨[(.ag [(.i .i64 2), (.sl 11 0 10 (.u 4)), (.sl 10 0 2 (.u 1))]), (.c (.sl 78 0 2 (.u 1)))], [(10, wb5_14), (11, wb5_15), (78, wb5_2)], 114, (.c (.sl 116 0 2 (.n 2))), [(10, wb5_14), (11, wb5_15), (78, wb5_2), (116, wb5_16)], 163⟩) 
theorem w1_7_7o0 : mok [(0, 3, 1), (4, 9, 7)] (lenL 1 7 8 ++ []) wN1 21 w1_7_7m0 = true := by kernel_rfl
def w1_7_7m1 : Memo :=  (⟨[(.ag [(.i .i64 2), (.sl 95 0 17 (.u 4)), (.sl 43 0 2 (.u 1))]), (.c (.sl 78 0 2 (.u 1)))], [(43, wb5_14), (78, wb5_2), (95, wb5_25)], 163, (.c (.sl 165 0 2 (.n 2))), [(43, wb5_14), (78, wb5_2), (95, wb5_25), (165, wb5_16)], 240⟩) 
theorem w1_7_7o1 : mok [(0, 3, 1), (4, 9, 7)] (lenL 1 7 8 ++ []) wN1 21 w1_7_7m1 = true := by kernel_rfl
def w1_7_7m2 : Memo :=  (⟨[(.ag [(.i .i64 2), (.sl 95 0 17 (.u 4)), (.sl 43 0 2 (.u 1))]), (.c (.sl 78 0 2 (.u 1)))], [(43, wb5_17), (78, wb5_2), (95, wb5_25)], 240, (.c (.sl 242 0 2 (.n 2))), [(43, wb5_17), (78, wb5_2), (95, wb5_25), (242, wb5_18)], 317⟩) 
theorem w1_7_7o2 : mok [(0, 3, 1), (4, 9, 7)] (lenL 1 7 8 ++ []) wN1 21 w1_7_7m2 = true := by kernel_rfl
def w1_7_7ms : List (Nat × List Memo) := [(21, [w1_7_7m0, w1_7_7m1, w1_7_7m2])]
theorem w1_7_7mo : AllMem (memRun [(0, 3, 1), (4, 9, 7)] (lenL 1 7 8 ++ []) wN1) w1_7_7ms := ⟨⟨w1_7_7o0, w1_7_7o1, w1_7_7o2, trivial⟩, trivial⟩
theorem w1_7_7 : lawRunM 9 10 200 [.i, .q, .b, .q, .i] [(0, 3, 1), (4, 9, 7)] (lenL 1 7 8 ++ []) wN1 w1_7_7ms = true := by kernel_rfl
def w1_8_7m0 : Memo :=  (⟨[(.ag [(.i .i64 2), (.sl 11 0 10 (.u 4)), (.sl 10 0 2 (.u 1))]), (.c (.sl 78 0 2 (.u 1)))], [(10, wb5_14), (11, wb5_15), (78, wb5_2)], 117, (.c (.sl 119 0 2 (.n 2))), [(10, wb5_14), (11, wb5_15), (78, wb5_2), (119, wb5_16)], 166⟩) 
theorem w1_8_7o0 : mok [(0, 3, 1), (4, 9, 8)] (lenL 1 7 8 ++ []) wN1 21 w1_8_7m0 = true := by kernel_rfl
def w1_8_7m1 : Memo :=  (⟨[(.ag [(.i .i64 2), (.sl 97 0 18 (.u 4)), (.sl 43 0 2 (.u 1))]), (.c (.sl 78 0 2 (.u 1)))], [(43, wb5_14), (78, wb5_2), (97, wb5_26)], 166, (.c (.sl 168 0 2 (.n 2))), [(43, wb5_14), (78, wb5_2), (97, wb5_26), (168, wb5_16)], 247⟩) 
theorem w1_8_7o1 : mok [(0, 3, 1), (4, 9, 8)] (lenL 1 7 8 ++ []) wN1 21 w1_8_7m1 = true := by kernel_rfl
def w1_8_7m2 : Memo :=  (⟨[(.ag [(.i .i64 2), (.sl 97 0 18 (.u 4)), (.sl 43 0 2 (.u 1))]), (.c (.sl 78 0 2 (.u 1)))], [(43, wb5_17), (78, wb5_2), (97, wb5_26)], 247, (.c (.sl 249 0 2 (.n 2))), [(43, wb5_17), (78, wb5_2), (97, wb5_26), (249, wb5_18)], 328⟩) 
theorem w1_8_7o2 : mok [(0, 3, 1), (4, 9, 8)] (lenL 1 7 8 ++ []) wN1 21 w1_8_7m2 = true := by kernel_rfl
def w1_8_7ms : List (Nat × List Memo) := [(21, [w1_8_7m0, w1_8_7m1, w1_8_7m2])]
theorem w1_8_7mo : AllMem (memRun [(0, 3, 1), (4, 9, 8)] (lenL 1 7 8 ++ []) wN1) w1_8_7ms := ⟨⟨w1_8_7o0, w1_8_7o1, w1_8_7o2, trivial⟩, trivial⟩
theorem w1_8_7 : lawRunM 9 10 200 [.i, .q, .b, .q, .i] [(0, 3, 1), (4, 9, 8)] (lenL 1 7 8 ++ []) wN1 w1_8_7ms = true := by kernel_rfl
def w1_0_8m0 : Memo :=  (⟨[(.ag [(.i .i64 2), (.sl 11 0 11 (.u 4)), (.sl 10 0 2 (.u 1))]), (.c (.sl 84 0 2 (.u 1)))], [(10, wb5_27), (11, wb5_28), (84, wb5_2)], 100, (.c (.sl 102 0 2 (.n 2))), [(10, wb5_27), (11, wb5_28), (84, wb5_2), (102, wb5_29)], 153⟩) 
theorem w1_0_8o0 : mok [(0, 3, 1), (4, 9, 0)] (lenL 1 8 8 ++ []) wN1 21 w1_0_8m0 = true := by kernel_rfl
def w1_0_8m1 : Memo :=  (⟨[(.ag [(.i .i64 2), (.sl 47 0 11 (.u 4)), (.sl 46 0 2 (.u 1))]), (.c (.sl 84 0 2 (.u 1)))], [(46, wb5_27), (47, wb5_28), (84, wb5_2)], 153, (.c (.sl 155 0 2 (.n 2))), [(46, wb5_27), (47, wb5_28), (84, wb5_2), (155, wb5_29)], 206⟩) 
theorem w1_0_8o1 : mok [(0, 3, 1), (4, 9, 0)] (lenL 1 8 8 ++ []) wN1 21 w1_0_8m1 = true := by kernel_rfl
def w1_0_8m2 : Memo :=  (⟨[(.ag [(.i .i64 2), (.sl 47 0 11 (.u 4)), (.sl 46 0 2 (.u 1))]), (.c (.sl 84 0 2 (.u 1)))], [(46, wb5_30), (47, wb5_28), (84, wb5_2)], 206, (.c (.sl 208 0 2 (.n 2))), [(46, wb5_30), (47, wb5_28), (84, wb5_2), (208, wb5_31)], 259⟩) 
theorem w1_0_8o2 : mok [(0, 3, 1), (4, 9, 0)] (lenL 1 8 8 ++ []) wN1 21 w1_0_8m2 = true := by kernel_rfl
def w1_0_8ms : List (Nat × List Memo) := [(21, [w1_0_8m0, w1_0_8m1, w1_0_8m2])]
theorem w1_0_8mo : AllMem (memRun [(0, 3, 1), (4, 9, 0)] (lenL 1 8 8 ++ []) wN1) w1_0_8ms := ⟨⟨w1_0_8o0, w1_0_8o1, w1_0_8o2, trivial⟩, trivial⟩
theorem w1_0_8 : lawRunM 9 10 200 [.i, .q, .b, .q, .i] [(0, 3, 1), (4, 9, 0)] (lenL 1 8 8 ++ []) wN1 w1_0_8ms = true := by kernel_rfl
def w1_1_8m0 : Memo :=  (⟨[(.ag [(.i .i64 2), (.sl 11 0 11 (.u 4)), (.sl 10 0 2 (.u 1))]), (.c (.sl 84 0 2 (.u 1)))], [(10, wb5_27), (11, wb5_28), (84, wb5_2)], 103, (.c (.sl 105 0 2 (.n 2))), [(10, wb5_27), (11, wb5_28), (84, wb5_2), (105, wb5_29)], 156⟩) 
theorem w1_1_8o0 : mok [(0, 3, 1), (4, 9, 1)] (lenL 1 8 8 ++ []) wN1 21 w1_1_8m0 = true := by kernel_rfl
def w1_1_8m1 : Memo :=  (⟨[(.ag [(.i .i64 2), (.sl 89 0 12 (.u 4)), (.sl 46 0 2 (.u 1))]), (.c (.sl 84 0 2 (.u 1)))], [(46, wb5_27), (84, wb5_2), (89, wb5_32)], 156, (.c (.sl 158 0 2 (.n 2))), [(46, wb5_27), (84, wb5_2), (89, wb5_32), (158, wb5_29)], 213⟩) 
theorem w1_1_8o1 : mok [(0, 3, 1), (4, 9, 1)] (lenL 1 8 8 ++ []) wN1 21 w1_1_8m1 = true := by kernel_rfl
def w1_1_8m2 : Memo :=  (⟨[(.ag [(.i .i64 2), (.sl 89 0 12 (.u 4)), (.sl 46 0 2 (.u 1))]), (.c (.sl 84 0 2 (.u 1)))], [(46, wb5_30), (84, wb5_2), (89, wb5_32)], 213, (.c (.sl 215 0 2 (.n 2))), [(46, wb5_30), (84, wb5_2), (89, wb5_32), (215, wb5_31)], 270⟩) 
theorem w1_1_8o2 : mok [(0, 3, 1), (4, 9, 1)] (lenL 1 8 8 ++ []) wN1 21 w1_1_8m2 = true := by kernel_rfl
def w1_1_8ms : List (Nat × List Memo) := [(21, [w1_1_8m0, w1_1_8m1, w1_1_8m2])]
theorem w1_1_8mo : AllMem (memRun [(0, 3, 1), (4, 9, 1)] (lenL 1 8 8 ++ []) wN1) w1_1_8ms := ⟨⟨w1_1_8o0, w1_1_8o1, w1_1_8o2, trivial⟩, trivial⟩
theorem w1_1_8 : lawRunM 9 10 200 [.i, .q, .b, .q, .i] [(0, 3, 1), (4, 9, 1)] (lenL 1 8 8 ++ []) wN1 w1_1_8ms = true := by kernel_rfl
def w1_2_8m0 : Memo :=  (⟨[(.ag [(.i .i64 2), (.sl 11 0 11 (.u 4)), (.sl 10 0 2 (.u 1))]), (.c (.sl 84 0 2 (.u 1)))], [(10, wb5_27), (11, wb5_28), (84, wb5_2)], 106, (.c (.sl 108 0 2 (.n 2))), [(10, wb5_27), (11, wb5_28), (84, wb5_2), (108, wb5_29)], 159⟩) 
theorem w1_2_8o0 : mok [(0, 3, 1), (4, 9, 2)] (lenL 1 8 8 ++ []) wN1 21 w1_2_8m0 = true := by kernel_rfl
def w1_2_8m1 : Memo :=  (⟨[(.ag [(.i .i64 2), (.sl 91 0 13 (.u 4)), (.sl 46 0 2 (.u 1))]), (.c (.sl 84 0 2 (.u 1)))], [(46, wb5_27), (84, wb5_2), (91, wb5_33)], 159, (.c (.sl 161 0 2 (.n 2))), [(46, wb5_27), (84, wb5_2), (91, wb5_33), (161, wb5_29)], 220⟩) 
theorem w1_2_8o1 : mok [(0, 3, 1), (4, 9, 2)] (lenL 1 8 8 ++ []) wN1 21 w1_2_8m1 = true := by kernel_rfl
def w1_2_8m2 : Memo :=  (⟨[(.ag [(.i .i64 2), (.sl 91 0 13 (.u 4)), (.sl 46 0 2 (.u 1))]), (.c (.sl 84 0 2 (.u 1)))], [(46, wb5_30), (84, wb5_2), (91, wb5_33)], 220, (.c (.sl 222 0 2 (.n 2))), [(46, wb5_30), (84, wb5_2), (91, wb5_33), (222, wb5_31)], 281⟩) 
theorem w1_2_8o2 : mok [(0, 3, 1), (4, 9, 2)] (lenL 1 8 8 ++ []) wN1 21 w1_2_8m2 = true := by kernel_rfl
def w1_2_8ms : List (Nat × List Memo) := [(21, [w1_2_8m0, w1_2_8m1, w1_2_8m2])]
theorem w1_2_8mo : AllMem (memRun [(0, 3, 1), (4, 9, 2)] (lenL 1 8 8 ++ []) wN1) w1_2_8ms := ⟨⟨w1_2_8o0, w1_2_8o1, w1_2_8o2, trivial⟩, trivial⟩
theorem w1_2_8 : lawRunM 9 10 200 [.i, .q, .b, .q, .i] [(0, 3, 1), (4, 9, 2)] (lenL 1 8 8 ++ []) wN1 w1_2_8ms = true := by kernel_rfl
def w1_3_8m0 : Memo :=  (⟨[(.ag [(.i .i64 2), (.sl 11 0 11 (.u 4)), (.sl 10 0 2 (.u 1))]), (.c (.sl 84 0 2 (.u 1)))], [(10, wb5_27), (11, wb5_28), (84, wb5_2)], 109, (.c (.sl 111 0 2 (.n 2))), [(10, wb5_27), (11, wb5_28), (84, wb5_2), (111, wb5_29)], 162⟩) 
theorem w1_3_8o0 : mok [(0, 3, 1), (4, 9, 3)] (lenL 1 8 8 ++ []) wN1 21 w1_3_8m0 = true := by kernel_rfl
def w1_3_8m1 : Memo :=  (⟨[(.ag [(.i .i64 2), (.sl 93 0 14 (.u 4)), (.sl 46 0 2 (.u 1))]), (.c (.sl 84 0 2 (.u 1)))], [(46, wb5_27), (84, wb5_2), (93, wb5_34)], 162, (.c (.sl 164 0 2 (.n 2))), [(46, wb5_27), (84, wb5_2), (93, wb5_34), (164, wb5_29)], 227⟩) 
theorem w1_3_8o1 : mok [(0, 3, 1), (4, 9, 3)] (lenL 1 8 8 ++ []) wN1 21 w1_3_8m1 = true := by kernel_rfl
def w1_3_8m2 : Memo :=  (⟨[(.ag [(.i .i64 2), (.sl 93 0 14 (.u 4)), (.sl 46 0 2 (.u 1))]), (.c (.sl 84 0 2 (.u 1)))], [(46, wb5_30), (84, wb5_2), (93, wb5_34)], 227, (.c (.sl 229 0 2 (.n 2))), [(46, wb5_30), (84, wb5_2), (93, wb5_34), (229, wb5_31)], 292⟩) 
theorem w1_3_8o2 : mok [(0, 3, 1), (4, 9, 3)] (lenL 1 8 8 ++ []) wN1 21 w1_3_8m2 = true := by kernel_rfl
def w1_3_8ms : List (Nat × List Memo) := [(21, [w1_3_8m0, w1_3_8m1, w1_3_8m2])]
theorem w1_3_8mo : AllMem (memRun [(0, 3, 1), (4, 9, 3)] (lenL 1 8 8 ++ []) wN1) w1_3_8ms := ⟨⟨w1_3_8o0, w1_3_8o1, w1_3_8o2, trivial⟩, trivial⟩
theorem w1_3_8 : lawRunM 9 10 200 [.i, .q, .b, .q, .i] [(0, 3, 1), (4, 9, 3)] (lenL 1 8 8 ++ []) wN1 w1_3_8ms = true := by kernel_rfl
def w1_4_8m0 : Memo :=  (⟨[(.ag [(.i .i64 2), (.sl 11 0 11 (.u 4)), (.sl 10 0 2 (.u 1))]), (.c (.sl 84 0 2 (.u 1)))], [(10, wb5_27), (11, wb5_28), (84, wb5_2)], 112, (.c (.sl 114 0 2 (.n 2))), [(10, wb5_27), (11, wb5_28), (84, wb5_2), (114, wb5_29)], 165⟩) 
theorem w1_4_8o0 : mok [(0, 3, 1), (4, 9, 4)] (lenL 1 8 8 ++ []) wN1 21 w1_4_8m0 = true := by kernel_rfl
def w1_4_8m1 : Memo :=  (⟨[(.ag [(.i .i64 2), (.sl 95 0 15 (.u 4)), (.sl 46 0 2 (.u 1))]), (.c (.sl 84 0 2 (.u 1)))], [(46, wb5_27), (84, wb5_2), (95, wb5_35)], 165, (.c (.sl 167 0 2 (.n 2))), [(46, wb5_27), (84, wb5_2), (95, wb5_35), (167, wb5_29)], 234⟩) 
theorem w1_4_8o1 : mok [(0, 3, 1), (4, 9, 4)] (lenL 1 8 8 ++ []) wN1 21 w1_4_8m1 = true := by kernel_rfl
def w1_4_8m2 : Memo :=  (⟨[(.ag [(.i .i64 2), (.sl 95 0 15 (.u 4)), (.sl 46 0 2 (.u 1))]), (.c (.sl 84 0 2 (.u 1)))], [(46, wb5_30), (84, wb5_2), (95, wb5_35)], 234, (.c (.sl 236 0 2 (.n 2))), [(46, wb5_30), (84, wb5_2), (95, wb5_35), (236, wb5_31)], 303⟩) 
theorem w1_4_8o2 : mok [(0, 3, 1), (4, 9, 4)] (lenL 1 8 8 ++ []) wN1 21 w1_4_8m2 = true := by kernel_rfl
def w1_4_8ms : List (Nat × List Memo) := [(21, [w1_4_8m0, w1_4_8m1, w1_4_8m2])]
theorem w1_4_8mo : AllMem (memRun [(0, 3, 1), (4, 9, 4)] (lenL 1 8 8 ++ []) wN1) w1_4_8ms := ⟨⟨w1_4_8o0, w1_4_8o1, w1_4_8o2, trivial⟩, trivial⟩
theorem w1_4_8 : lawRunM 9 10 200 [.i, .q, .b, .q, .i] [(0, 3, 1), (4, 9, 4)] (lenL 1 8 8 ++ []) wN1 w1_4_8ms = true := by kernel_rfl
def w1_5_8m0 : Memo :=  (⟨[(.ag [(.i .i64 2), (.sl 11 0 11 (.u 4)), (.sl 10 0 2 (.u 1))]), (.c (.sl 84 0 2 (.u 1)))], [(10, wb5_27), (11, wb5_28), (84, wb5_2)], 115, (.c (.sl 117 0 2 (.n 2))), [(10, wb5_27), (11, wb5_28), (84, wb5_2), (117, wb5_29)], 168⟩) 
theorem w1_5_8o0 : mok [(0, 3, 1), (4, 9, 5)] (lenL 1 8 8 ++ []) wN1 21 w1_5_8m0 = true := by kernel_rfl
def w1_5_8m1 : Memo :=  (⟨[(.ag [(.i .i64 2), (.sl 97 0 16 (.u 4)), (.sl 46 0 2 (.u 1))]), (.c (.sl 84 0 2 (.u 1)))], [(46, wb5_27), (84, wb5_2), (97, wb5_36)], 168, (.c (.sl 170 0 2 (.n 2))), [(46, wb5_27), (84, wb5_2), (97, wb5_36), (170, wb5_29)], 241⟩) 
theorem w1_5_8o1 : mok [(0, 3, 1), (4, 9, 5)] (lenL 1 8 8 ++ []) wN1 21 w1_5_8m1 = true := by kernel_rfl
def w1_5_8m2 : Memo :=  (⟨[(.ag [(.i .i64 2), (.sl 97 0 16 (.u 4)), (.sl 46 0 2 (.u 1))]), (.c (.sl 84 0 2 (.u 1)))], [(46, wb5_30), (84, wb5_2), (97, wb5_36)], 241, (.c (.sl 243 0 2 (.n 2))), [(46, wb5_30), (84, wb5_2), (97, wb5_36), (243, wb5_31)], 314⟩) 
theorem w1_5_8o2 : mok [(0, 3, 1), (4, 9, 5)] (lenL 1 8 8 ++ []) wN1 21 w1_5_8m2 = true := by kernel_rfl
def w1_5_8ms : List (Nat × List Memo) := [(21, [w1_5_8m0, w1_5_8m1, w1_5_8m2])]
theorem w1_5_8mo : AllMem (memRun [(0, 3, 1), (4, 9, 5)] (lenL 1 8 8 ++ []) wN1) w1_5_8ms := ⟨⟨w1_5_8o0, w1_5_8o1, w1_5_8o2, trivial⟩, trivial⟩
theorem w1_5_8 : lawRunM 9 10 200 [.i, .q, .b, .q, .i] [(0, 3, 1), (4, 9, 5)] (lenL 1 8 8 ++ []) wN1 w1_5_8ms = true := by kernel_rfl
def w1_6_8m0 : Memo :=  (⟨[(.ag [(.i .i64 2), (.sl 11 0 11 (.u 4)), (.sl 10 0 2 (.u 1))]), (.c (.sl 84 0 2 (.u 1)))], [(10, wb5_27), (11, wb5_28), (84, wb5_2)], 118, (.c (.sl 120 0 2 (.n 2))), [(10, wb5_27), (11, wb5_28), (84, wb5_2), (120, wb5_29)], 171⟩) 
theorem w1_6_8o0 : mok [(0, 3, 1), (4, 9, 6)] (lenL 1 8 8 ++ []) wN1 21 w1_6_8m0 = true := by kernel_rfl
def w1_6_8m1 : Memo :=  (⟨[(.ag [(.i .i64 2), (.sl 99 0 17 (.u 4)), (.sl 46 0 2 (.u 1))]), (.c (.sl 84 0 2 (.u 1)))], [(46, wb5_27), (84, wb5_2), (99, wb5_37)], 171, (.c (.sl 173 0 2 (.n 2))), [(46, wb5_27), (84, wb5_2), (99, wb5_37), (173, wb5_29)], 248⟩) 
theorem w1_6_8o1 : mok [(0, 3, 1), (4, 9, 6)] (lenL 1 8 8 ++ []) wN1 21 w1_6_8m1 = true := by kernel_rfl
def w1_6_8m2 : Memo :=  (⟨[(.ag [(.i .i64 2), (.sl 99 0 17 (.u 4)), (.sl 46 0 2 (.u 1))]), (.c (.sl 84 0 2 (.u 1)))], [(46, wb5_30), (84, wb5_2), (99, wb5_37)], 248, (.c (.sl 250 0 2 (.n 2))), [(46, wb5_30), (84, wb5_2), (99, wb5_37), (250, wb5_31)], 325⟩) 
theorem w1_6_8o2 : mok [(0, 3, 1), (4, 9, 6)] (lenL 1 8 8 ++ []) wN1 21 w1_6_8m2 = true := by kernel_rfl
def w1_6_8ms : List (Nat × List Memo) := [(21, [w1_6_8m0, w1_6_8m1, w1_6_8m2])]
theorem w1_6_8mo : AllMem (memRun [(0, 3, 1), (4, 9, 6)] (lenL 1 8 8 ++ []) wN1) w1_6_8ms := ⟨⟨w1_6_8o0, w1_6_8o1, w1_6_8o2, trivial⟩, trivial⟩
theorem w1_6_8 : lawRunM 9 10 200 [.i, .q, .b, .q, .i] [(0, 3, 1), (4, 9, 6)] (lenL 1 8 8 ++ []) wN1 w1_6_8ms = true := by kernel_rfl
def w1_7_8m0 : Memo :=  (⟨[(.ag [(.i .i64 2), (.sl 11 0 11 (.u 4)), (.sl 10 0 2 (.u 1))]), (.c (.sl 84 0 2 (.u 1)))], [(10, wb5_27), (11, wb5_28), (84, wb5_2)], 121, (.c (.sl 123 0 2 (.n 2))), [(10, wb5_27), (11, wb5_28), (84, wb5_2), (123, wb5_29)], 174⟩) 
theorem w1_7_8o0 : mok [(0, 3, 1), (4, 9, 7)] (lenL 1 8 8 ++ []) wN1 21 w1_7_8m0 = true := by kernel_rfl
def w1_7_8m1 : Memo :=  (⟨[(.ag [(.i .i64 2), (.sl 101 0 18 (.u 4)), (.sl 46 0 2 (.u 1))]), (.c (.sl 84 0 2 (.u 1)))], [(46, wb5_27), (84, wb5_2), (101, wb5_38)], 174, (.c (.sl 176 0 2 (.n 2))), [(46, wb5_27), (84, wb5_2), (101, wb5_38), (176, wb5_29)], 255⟩) 
theorem w1_7_8o1 : mok [(0, 3, 1), (4, 9, 7)] (lenL 1 8 8 ++ []) wN1 21 w1_7_8m1 = true := by kernel_rfl
def w1_7_8m2 : Memo :=  (⟨[(.ag [(.i .i64 2), (.sl 101 0 18 (.u 4)), (.sl 46 0 2 (.u 1))]), (.c (.sl 84 0 2 (.u 1)))], [(46, wb5_30), (84, wb5_2), (101, wb5_38)], 255, (.c (.sl 257 0 2 (.n 2))), [(46, wb5_30), (84, wb5_2), (101, wb5_38), (257, wb5_31)], 336⟩) 
theorem w1_7_8o2 : mok [(0, 3, 1), (4, 9, 7)] (lenL 1 8 8 ++ []) wN1 21 w1_7_8m2 = true := by kernel_rfl
def w1_7_8ms : List (Nat × List Memo) := [(21, [w1_7_8m0, w1_7_8m1, w1_7_8m2])]
theorem w1_7_8mo : AllMem (memRun [(0, 3, 1), (4, 9, 7)] (lenL 1 8 8 ++ []) wN1) w1_7_8ms := ⟨⟨w1_7_8o0, w1_7_8o1, w1_7_8o2, trivial⟩, trivial⟩
theorem w1_7_8 : lawRunM 9 10 200 [.i, .q, .b, .q, .i] [(0, 3, 1), (4, 9, 7)] (lenL 1 8 8 ++ []) wN1 w1_7_8ms = true := by kernel_rfl
def w1_8_8m0 : Memo :=  (⟨[(.ag [(.i .i64 2), (.sl 11 0 11 (.u 4)), (.sl 10 0 2 (.u 1))]), (.c (.sl 84 0 2 (.u 1)))], [(10, wb5_27), (11, wb5_28), (84, wb5_2)], 124, (.c (.sl 126 0 2 (.n 2))), [(10, wb5_27), (11, wb5_28), (84, wb5_2), (126, wb5_29)], 177⟩) 
theorem w1_8_8o0 : mok [(0, 3, 1), (4, 9, 8)] (lenL 1 8 8 ++ []) wN1 21 w1_8_8m0 = true := by kernel_rfl
def w1_8_8m1 : Memo :=  (⟨[(.ag [(.i .i64 2), (.sl 103 0 19 (.u 4)), (.sl 46 0 2 (.u 1))]), (.c (.sl 84 0 2 (.u 1)))], [(46, wb5_27), (84, wb5_2), (103, wb5_39)], 177, (.c (.sl 179 0 2 (.n 2))), [(46, wb5_27), (84, wb5_2), (103, wb5_39), (179, wb5_29)], 262⟩) 
theorem w1_8_8o1 : mok [(0, 3, 1), (4, 9, 8)] (lenL 1 8 8 ++ []) wN1 21 w1_8_8m1 = true := by kernel_rfl
def w1_8_8m2 : Memo :=  (⟨[(.ag [(.i .i64 2), (.sl 103 0 19 (.u 4)), (.sl 46 0 2 (.u 1))]), (.c (.sl 84 0 2 (.u 1)))], [(46, wb5_30), (84, wb5_2), (103, wb5_39)], 262, (.c (.sl 264 0 2 (.n 2))), [(46, wb5_30), (84, wb5_2), (103, wb5_39), (264, wb5_31)], 347⟩) 
theorem w1_8_8o2 : mok [(0, 3, 1), (4, 9, 8)] (lenL 1 8 8 ++ []) wN1 21 w1_8_8m2 = true := by kernel_rfl
def w1_8_8ms : List (Nat × List Memo) := [(21, [w1_8_8m0, w1_8_8m1, w1_8_8m2])]
theorem w1_8_8mo : AllMem (memRun [(0, 3, 1), (4, 9, 8)] (lenL 1 8 8 ++ []) wN1) w1_8_8ms := ⟨⟨w1_8_8o0, w1_8_8o1, w1_8_8o2, trivial⟩, trivial⟩
theorem w1_8_8 : lawRunM 9 10 200 [.i, .q, .b, .q, .i] [(0, 3, 1), (4, 9, 8)] (lenL 1 8 8 ++ []) wN1 w1_8_8ms = true := by kernel_rfl
end Go.Proofs.Yticbgaflhiokgaa
