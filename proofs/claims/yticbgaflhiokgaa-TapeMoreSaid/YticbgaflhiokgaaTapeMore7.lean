/-
  'TapeMore': runs of it, part 7.
-/
import Derived.Test.YticbgaflhiokgaaTapeMoret2
namespace Go.Proofs.Yticbgaflhiokgaa
open Go.RowKit Ex
set_option maxRecDepth 1000000
set_option maxHeartbeats 100000000
def wm7_0 : E := (.ib .quo .i64 (.vi 0) (.li 3))
def wm7_1 : E := (.ai 9 0 (.ci (.ib .add .i64 wm7_0 (.li 0)) (.ci (.li 3) .n0)))
def wm7_2 : E := (.ai 9 0 (.ci (.ib .add .i64 wm7_0 (.li 1)) (.ci (.li 3) .n0)))
def wm7_3 : E := (.ai 9 0 (.ci (.ib .add .i64 wm7_0 (.li 2)) (.ci (.li 3) .n0)))
def wm7_4 : E := (.ic .eql (.ai 9 0 (.ci (.at 1 0) (.ci (.li 11) .n0))) (.li 0))
def wm7_5 : E := (.ib .add .i64 (.li 2) (.ai 9 0 (.ci (.at 1 0) (.ci (.li 3) .n0))))
def wm7_6 : E := (.ic .eql (.ai 9 0 (.ci (.at 1 1) (.ci (.li 11) .n0))) (.li 0))
def wm7_7 : E := (.ib .add .i64 (.li 2) (.ai 9 0 (.ci (.at 1 1) (.ci (.li 3) .n0))))
def wm7_8 : E := (.ic .eql (.ai 9 0 (.ci (.at 1 2) (.ci (.li 11) .n0))) (.li 0))
def wm7_9 : E := (.ib .add .i64 (.li 2) (.ai 9 0 (.ci (.at 1 2) (.ci (.li 3) .n0))))
def wm7_10 : E := (.ib .quo .i64 (.vi 4) (.li 9))
def wm7_11 : E := (.ic .eql (.ai 9 0 (.ci (.at 1 3) (.ci (.li 11) .n0))) (.li 0))
def wm7_12 : E := (.ib .add .i64 (.li 2) (.ai 9 0 (.ci (.at 1 3) (.ci (.li 3) .n0))))
def wm7_13 : E := (.ic .eql (.ai 9 0 (.ci (.at 1 4) (.ci (.li 11) .n0))) (.li 0))
def wm7_14 : E := (.ib .add .i64 (.li 2) (.ai 9 0 (.ci (.at 1 4) (.ci (.li 3) .n0))))
def wk7_0 : Blk := [(.i .i64 1), (.i .i64 0), (.i .i64 0), (.f 0)]
def wk7_1 : Blk := [(.i .i64 1), (.i .i64 1), (.i .i64 0), (.f 0)]
def wk7_2 : Blk := [(.i .i64 1), (.i .i64 2), (.i .i64 0), (.f 0)]
def wk7_3 : Blk := [(.i .i64 0), (.i .i64 0), (.i .i64 0), (.ef (.fb .quo (.i2f (.ib .sub .i64 (.ai 9 0 (.ci (.vi 0) (.ci (.li 17) .n0))) (.li 8))) (.lf 4616189618054758400)))]
def wk7_4 : Blk := [(.ei .i64 (.ti wm7_4 (.li 0) (.ti (.vb 2) (.ti (.ic .eql (.ai 9 0 (.ci (.at 1 0) (.ci (.li 7) .n0))) (.li 0)) (.li 5) wm7_5) wm7_5))), (.ei .i64 (.ti wm7_4 (.li 0) (.ai 9 0 (.ci (.ib .quo .i64 (.at 1 0) (.li 4)) (.ci (.li 4) .n0))))), (.ei .i64 (.ti wm7_4 (.li 0) (.ai 9 0 (.ci (.ib .quo .i64 (.at 1 0) (.li 40)) (.ci (.li 4) .n0))))), (.ef (.tf wm7_4 (.fb .quo (.i2f (.ib .sub .i64 (.ai 9 0 (.ci (.ib .quo .i64 (.at 1 0) (.li 11)) (.ci (.li 33) .n0))) (.li 16))) (.lf 4620693217682128896)) (.lf 0)))]
def wk7_5 : Blk := [(.ei .i64 (.ti wm7_6 (.li 0) (.ti (.vb 2) (.ti (.ic .eql (.ai 9 0 (.ci (.at 1 1) (.ci (.li 7) .n0))) (.li 0)) (.li 5) wm7_7) wm7_7))), (.ei .i64 (.ti wm7_6 (.li 0) (.ai 9 0 (.ci (.ib .quo .i64 (.at 1 1) (.li 4)) (.ci (.li 5) .n0))))), (.ei .i64 (.ti wm7_6 (.li 0) (.ai 9 0 (.ci (.ib .quo .i64 (.at 1 1) (.li 40)) (.ci (.li 5) .n0))))), (.ef (.tf wm7_6 (.fb .quo (.i2f (.ib .sub .i64 (.ai 9 0 (.ci (.ib .quo .i64 (.at 1 1) (.li 11)) (.ci (.li 33) .n0))) (.li 16))) (.lf 4620693217682128896)) (.lf 0)))]
def wk7_6 : Blk := [(.ei .i64 (.ti wm7_8 (.li 0) (.ti (.vb 2) (.ti (.ic .eql (.ai 9 0 (.ci (.at 1 2) (.ci (.li 7) .n0))) (.li 0)) (.li 5) wm7_9) wm7_9))), (.ei .i64 (.ti wm7_8 (.li 0) (.ai 9 0 (.ci (.ib .quo .i64 (.at 1 2) (.li 4)) (.ci (.li 6) .n0))))), (.ei .i64 (.ti wm7_8 (.li 0) (.ai 9 0 (.ci (.ib .quo .i64 (.at 1 2) (.li 40)) (.ci (.li 6) .n0))))), (.ef (.tf wm7_8 (.fb .quo (.i2f (.ib .sub .i64 (.ai 9 0 (.ci (.ib .quo .i64 (.at 1 2) (.li 11)) (.ci (.li 33) .n0))) (.li 16))) (.lf 4620693217682128896)) (.lf 0)))]
def wk7_7 : Blk := [(.i .i64 4), (.ei .i64 (.ai 9 0 (.ci (.vi 4) (.ci (.li 7) .n0)))), (.ei .i64 (.ai 9 0 (.ci wm7_10 (.ci (.li 7) .n0)))), (.f 0)]
def wk7_8 : Blk := [(.i .i64 4), (.ei .i64 (.ai 9 0 (.ci (.vi 4) (.ci (.li 8) .n0)))), (.ei .i64 (.ai 9 0 (.ci wm7_10 (.ci (.li 8) .n0)))), (.f 0)]
def wk7_9 : Blk := [(.i .i64 4), (.i .i64 3), (.ei .i64 (.ai 9 0 (.ci wm7_10 (.ci (.li 9) .n0)))), (.f 0)]
def wk7_10 : Blk := [(.i .i64 4), (.i .i64 4), (.ei .i64 (.ai 9 0 (.ci wm7_10 (.ci (.li 9) .n0)))), (.f 0)]
def wk7_11 : Blk := [(.i .i64 4), (.ei .i64 (.ai 9 0 (.ci (.vi 4) (.ci (.li 10) .n0)))), (.ei .i64 (.ai 9 0 (.ci wm7_10 (.ci (.li 10) .n0)))), (.f 0)]
def wk7_12 : Blk := [(.i .i64 4), (.i .i64 5), (.ei .i64 (.ai 9 0 (.ci wm7_10 (.ci (.li 9) .n0)))), (.f 0)]
def wk7_13 : Blk := [(.i .i64 4), (.ei .i64 (.ai 9 0 (.ci (.vi 4) (.ci (.li 11) .n0)))), (.ei .i64 (.ai 9 0 (.ci wm7_10 (.ci (.li 11) .n0)))), (.f 0)]
def wk7_14 : Blk := [(.i .i64 4), (.i .i64 6), (.ei .i64 (.ai 9 0 (.ci wm7_10 (.ci (.li 9) .n0)))), (.f 0)]
def wk7_15 : Blk := [(.i .i64 4), (.ei .i64 (.ai 9 0 (.ci (.vi 4) (.ci (.li 12) .n0)))), (.ei .i64 (.ai 9 0 (.ci wm7_10 (.ci (.li 12) .n0)))), (.f 0)]
def wk7_16 : Blk := [(.i .i64 4), (.i .i64 7), (.ei .i64 (.ai 9 0 (.ci wm7_10 (.ci (.li 9) .n0)))), (.f 0)]
def wk7_17 : Blk := [(.i .i64 4), (.ei .i64 (.ai 9 0 (.ci (.vi 4) (.ci (.li 13) .n0)))), (.ei .i64 (.ai 9 0 (.ci wm7_10 (.ci (.li 13) .n0)))), (.f 0)]
def wk7_18 : Blk := [(.i .i64 4), (.i .i64 8), (.ei .i64 (.ai 9 0 (.ci wm7_10 (.ci (.li 9) .n0)))), (.f 0)]
def wk7_19 : Blk := [(.i .i64 4), (.ei .i64 (.ai 9 0 (.ci (.vi 4) (.ci (.li 14) .n0)))), (.ei .i64 (.ai 9 0 (.ci wm7_10 (.ci (.li 14) .n0)))), (.f 0)]
def wk7_20 : Blk := [(.ei .i64 (.ti wm7_11 (.li 0) (.ti (.vb 2) (.ti (.ic .eql (.ai 9 0 (.ci (.at 1 3) (.ci (.li 7) .n0))) (.li 0)) (.li 5) wm7_12) wm7_12))), (.ei .i64 (.ti wm7_11 (.li 0) (.ai 9 0 (.ci (.ib .quo .i64 (.at 1 3) (.li 4)) (.ci (.li 7) .n0))))), (.ei .i64 (.ti wm7_11 (.li 0) (.ai 9 0 (.ci (.ib .quo .i64 (.at 1 3) (.li 40)) (.ci (.li 7) .n0))))), (.ef (.tf wm7_11 (.fb .quo (.i2f (.ib .sub .i64 (.ai 9 0 (.ci (.ib .quo .i64 (.at 1 3) (.li 11)) (.ci (.li 33) .n0))) (.li 16))) (.lf 4620693217682128896)) (.lf 0)))]
def wk7_21 : Blk := [(.i .i64 4), (.i .i64 2), (.ei .i64 (.ai 9 0 (.ci wm7_10 (.ci (.li 9) .n0)))), (.f 0)]
def wk7_22 : Blk := [(.i .i64 4), (.ei .i64 (.ai 9 0 (.ci (.vi 4) (.ci (.li 15) .n0)))), (.ei .i64 (.ai 9 0 (.ci wm7_10 (.ci (.li 15) .n0)))), (.f 0)]
def wk7_23 : Blk := [(.ei .i64 (.ti wm7_13 (.li 0) (.ti (.vb 2) (.ti (.ic .eql (.ai 9 0 (.ci (.at 1 4) (.ci (.li 7) .n0))) (.li 0)) (.li 5) wm7_14) wm7_14))), (.ei .i64 (.ti wm7_13 (.li 0) (.ai 9 0 (.ci (.ib .quo .i64 (.at 1 4) (.li 4)) (.ci (.li 8) .n0))))), (.ei .i64 (.ti wm7_13 (.li 0) (.ai 9 0 (.ci (.ib .quo .i64 (.at 1 4) (.li 40)) (.ci (.li 8) .n0))))), (.ef (.tf wm7_13 (.fb .quo (.i2f (.ib .sub .i64 (.ai 9 0 (.ci (.ib .quo .i64 (.at 1 4) (.li 11)) (.ci (.li 33) .n0))) (.li 16))) (.lf 4620693217682128896)) (.lf 0)))]
def wb7_0 : Blk := [(.ei .i64 (.ib .sub .i64 (.li 6) wm7_1)), (.ei .i64 (.ib .sub .i64 (.li 6) wm7_2)), (.ei .i64 (.ib .sub .i64 (.li 6) wm7_3))]
def wb7_1 : Blk := wk7_0 ++ wk7_1 ++ wk7_2 ++ wk7_3 ++ wk7_4 ++ wk7_5 ++ wk7_6
def wb7_2 : Blk := [(.ef (.fb .quo (.i2f (.ib .sub .i64 (.ai 9 0 (.ci (.ti (.ic .lss (.li 0) (.vl 3)) (.at 3 0) (.li 0)) (.ci (.li 65) .n0))) (.li 32))) (.lf 4620693217682128896))), (.ef (.fb .quo (.i2f (.ib .sub .i64 (.ai 9 0 (.ci (.ti (.ic .lss (.li 1) (.vl 3)) (.at 3 1) (.li 1)) (.ci (.li 65) .n0))) (.li 32))) (.lf 4620693217682128896))), (.ef (.fb .quo (.i2f (.ib .sub .i64 (.ai 9 0 (.ci (.ti (.ic .lss (.li 2) (.vl 3)) (.at 3 2) (.li 2)) (.ci (.li 65) .n0))) (.li 32))) (.lf 4620693217682128896)))]
def wb7_3 : Blk := [(.ef (.vf 163)), (.ef (.vf 164)), (.ef (.vf 165))]
def wb7_4 : Blk := [(.ei .i64 (.ib .sub .i64 (.li 6) wm7_3)), (.ei .i64 (.ib .sub .i64 (.li 6) wm7_2)), (.ei .i64 (.ib .sub .i64 (.li 6) wm7_3))]
def wb7_5 : Blk := [(.ef (.vf 165)), (.ef (.vf 164)), (.ef (.vf 165))]
def wb7_6 : Blk := wk7_0 ++ wk7_1 ++ wk7_2 ++ wk7_3 ++ wk7_4 ++ wk7_5 ++ wk7_6 ++ wk7_7
def wb7_7 : Blk := wk7_0 ++ wk7_1 ++ wk7_2 ++ wk7_3 ++ wk7_4 ++ wk7_5 ++ wk7_6 ++ wk7_7 ++ wk7_8
def wb7_8 : Blk := wk7_0 ++ wk7_1 ++ wk7_2 ++ wk7_3 ++ wk7_4 ++ wk7_5 ++ wk7_6 ++ wk7_7 ++ wk7_8 ++ wk7_9
def wb7_9 : Blk := wk7_0 ++ wk7_1 ++ wk7_2 ++ wk7_3 ++ wk7_4 ++ wk7_5 ++ wk7_6 ++ wk7_7 ++ wk7_8 ++ wk7_10 ++ wk7_11
def wb7_10 : Blk := wk7_0 ++ wk7_1 ++ wk7_2 ++ wk7_3 ++ wk7_4 ++ wk7_5 ++ wk7_6 ++ wk7_7 ++ wk7_8 ++ wk7_12 ++ wk7_11 ++ wk7_13
def wb7_11 : Blk := wk7_0 ++ wk7_1 ++ wk7_2 ++ wk7_3 ++ wk7_4 ++ wk7_5 ++ wk7_6 ++ wk7_7 ++ wk7_8 ++ wk7_14 ++ wk7_11 ++ wk7_13 ++ wk7_15
def wb7_12 : Blk := wk7_0 ++ wk7_1 ++ wk7_2 ++ wk7_3 ++ wk7_4 ++ wk7_5 ++ wk7_6 ++ wk7_7 ++ wk7_8 ++ wk7_16 ++ wk7_11 ++ wk7_13 ++ wk7_15 ++ wk7_17
def wb7_13 : Blk := wk7_0 ++ wk7_1 ++ wk7_2 ++ wk7_3 ++ wk7_4 ++ wk7_5 ++ wk7_6 ++ wk7_7 ++ wk7_8 ++ wk7_18 ++ wk7_11 ++ wk7_13 ++ wk7_15 ++ wk7_17 ++ wk7_19
def wb7_14 : Blk := [(.ei .i64 (.ib .sub .i64 (.li 7) wm7_1)), (.ei .i64 (.ib .sub .i64 (.li 7) wm7_2)), (.ei .i64 (.ib .sub .i64 (.li 7) wm7_3))]
def wb7_15 : Blk := wk7_0 ++ wk7_1 ++ wk7_2 ++ wk7_3 ++ wk7_4 ++ wk7_5 ++ wk7_6 ++ wk7_20
def wb7_16 : Blk := [(.ef (.vf 160)), (.ef (.vf 161)), (.ef (.vf 162))]
def wb7_17 : Blk := [(.ei .i64 (.ib .sub .i64 (.li 7) wm7_3)), (.ei .i64 (.ib .sub .i64 (.li 7) wm7_2)), (.ei .i64 (.ib .sub .i64 (.li 7) wm7_3))]
def wb7_18 : Blk := [(.ef (.vf 162)), (.ef (.vf 161)), (.ef (.vf 162))]
def wb7_19 : Blk := wk7_0 ++ wk7_1 ++ wk7_2 ++ wk7_3 ++ wk7_4 ++ wk7_5 ++ wk7_6 ++ wk7_20 ++ wk7_8
def wb7_20 : Blk := wk7_0 ++ wk7_1 ++ wk7_2 ++ wk7_3 ++ wk7_4 ++ wk7_5 ++ wk7_6 ++ wk7_20 ++ wk7_8 ++ wk7_21
def wb7_21 : Blk := wk7_0 ++ wk7_1 ++ wk7_2 ++ wk7_3 ++ wk7_4 ++ wk7_5 ++ wk7_6 ++ wk7_20 ++ wk7_8 ++ wk7_9 ++ wk7_11
def wb7_22 : Blk := wk7_0 ++ wk7_1 ++ wk7_2 ++ wk7_3 ++ wk7_4 ++ wk7_5 ++ wk7_6 ++ wk7_20 ++ wk7_8 ++ wk7_10 ++ wk7_11 ++ wk7_13
def wb7_23 : Blk := wk7_0 ++ wk7_1 ++ wk7_2 ++ wk7_3 ++ wk7_4 ++ wk7_5 ++ wk7_6 ++ wk7_20 ++ wk7_8 ++ wk7_12 ++ wk7_11 ++ wk7_13 ++ wk7_15
def wb7_24 : Blk := wk7_0 ++ wk7_1 ++ wk7_2 ++ wk7_3 ++ wk7_4 ++ wk7_5 ++ wk7_6 ++ wk7_20 ++ wk7_8 ++ wk7_14 ++ wk7_11 ++ wk7_13 ++ wk7_15 ++ wk7_17
def wb7_25 : Blk := wk7_0 ++ wk7_1 ++ wk7_2 ++ wk7_3 ++ wk7_4 ++ wk7_5 ++ wk7_6 ++ wk7_20 ++ wk7_8 ++ wk7_16 ++ wk7_11 ++ wk7_13 ++ wk7_15 ++ wk7_17 ++ wk7_19
def wb7_26 : Blk := wk7_0 ++ wk7_1 ++ wk7_2 ++ wk7_3 ++ wk7_4 ++ wk7_5 ++ wk7_6 ++ wk7_20 ++ wk7_8 ++ wk7_18 ++ wk7_11 ++ wk7_13 ++ wk7_15 ++ wk7_17 ++ wk7_19 ++ wk7_22
def wb7_27 : Blk := [(.ei .i64 (.ib .sub .i64 (.li 8) wm7_1)), (.ei .i64 (.ib .sub .i64 (.li 8) wm7_2)), (.ei .i64 (.ib .sub .i64 (.li 8) wm7_3))]
def wb7_28 : Blk := wk7_0 ++ wk7_1 ++ wk7_2 ++ wk7_3 ++ wk7_4 ++ wk7_5 ++ wk7_6 ++ wk7_20 ++ wk7_23
def wb7_29 : Blk := [(.ef (.vf 157)), (.ef (.vf 158)), (.ef (.vf 159))]
def wb7_30 : Blk := [(.ei .i64 (.ib .sub .i64 (.li 8) wm7_3)), (.ei .i64 (.ib .sub .i64 (.li 8) wm7_2)), (.ei .i64 (.ib .sub .i64 (.li 8) wm7_3))]
def wb7_31 : Blk := [(.ef (.vf 159)), (.ef (.vf 158)), (.ef (.vf 159))]
def wb7_32 : Blk := wk7_0 ++ wk7_1 ++ wk7_2 ++ wk7_3 ++ wk7_4 ++ wk7_5 ++ wk7_6 ++ wk7_20 ++ wk7_23 ++ [(.i .i64 4), (.i .i64 1), (.ei .i64 (.ai 9 0 (.ci wm7_10 (.ci (.li 9) .n0)))), (.f 0)]
def wb7_33 : Blk := wk7_0 ++ wk7_1 ++ wk7_2 ++ wk7_3 ++ wk7_4 ++ wk7_5 ++ wk7_6 ++ wk7_20 ++ wk7_23 ++ wk7_21 ++ wk7_11
def wb7_34 : Blk := wk7_0 ++ wk7_1 ++ wk7_2 ++ wk7_3 ++ wk7_4 ++ wk7_5 ++ wk7_6 ++ wk7_20 ++ wk7_23 ++ wk7_9 ++ wk7_11 ++ wk7_13
def wb7_35 : Blk := wk7_0 ++ wk7_1 ++ wk7_2 ++ wk7_3 ++ wk7_4 ++ wk7_5 ++ wk7_6 ++ wk7_20 ++ wk7_23 ++ wk7_10 ++ wk7_11 ++ wk7_13 ++ wk7_15
def wb7_36 : Blk := wk7_0 ++ wk7_1 ++ wk7_2 ++ wk7_3 ++ wk7_4 ++ wk7_5 ++ wk7_6 ++ wk7_20 ++ wk7_23 ++ wk7_12 ++ wk7_11 ++ wk7_13 ++ wk7_15 ++ wk7_17
def wb7_37 : Blk := wk7_0 ++ wk7_1 ++ wk7_2 ++ wk7_3 ++ wk7_4 ++ wk7_5 ++ wk7_6 ++ wk7_20 ++ wk7_23 ++ wk7_14 ++ wk7_11 ++ wk7_13 ++ wk7_15 ++ wk7_17 ++ wk7_19
def wb7_38 : Blk := wk7_0 ++ wk7_1 ++ wk7_2 ++ wk7_3 ++ wk7_4 ++ wk7_5 ++ wk7_6 ++ wk7_20 ++ wk7_23 ++ wk7_16 ++ wk7_11 ++ wk7_13 ++ wk7_15 ++ wk7_17 ++ wk7_19 ++ wk7_22
def wb7_39 : Blk := wk7_0 ++ wk7_1 ++ wk7_2 ++ wk7_3 ++ wk7_4 ++ wk7_5 ++ wk7_6 ++ wk7_20 ++ wk7_23 ++ wk7_18 ++ wk7_11 ++ wk7_13 ++ wk7_15 ++ wk7_17 ++ wk7_19 ++ wk7_22 ++ [(.i .i64 4), (.ei .i64 (.ai 9 0 (.ci (.vi 4) (.ci (.li 16) .n0)))), (.ei .i64 (.ai 9 0 (.ci wm7_10 (.ci (.li 16) .n0)))), (.f 0)]
def w2_0_3m0 : Memo :=  (⟨[(.ag [(.i .i64 3), (.sl 11 0 7 (.u 4)), (.sl 10 0 3 (.u 1))]), (.c (.sl 62 0 3 (.u 1)))], [(10, wb7_0), (11, wb7_1), (62, wb7_2)], 76, (.c (.sl 78 0 3 (.n 3))), [(10, wb7_0), (11, wb7_1), (62, wb7_2), (78, wb7_3)], 113⟩) 
theorem w2_0_3o0 : mok [(0, 3, 2), (4, 9, 0)] (lenL 1 3 8 ++ []) wN2 21 w2_0_3m0 = true := by kernel_rfl
def w2_0_3m1 : Memo :=  (⟨[(.ag [(.i .i64 3), (.sl 36 0 7 (.u 4)), (.sl 35 0 3 (.u 1))]), (.c (.sl 62 0 3 (.u 1)))], [(35, wb7_0), (36, wb7_1), (62, wb7_2)], 113, (.c (.sl 115 0 3 (.n 3))), [(35, wb7_0), (36, wb7_1), (62, wb7_2), (115, wb7_3)], 150⟩) 
theorem w2_0_3o1 : mok [(0, 3, 2), (4, 9, 0)] (lenL 1 3 8 ++ []) wN2 21 w2_0_3m1 = true := by kernel_rfl
def w2_0_3m2 : Memo :=  (⟨[(.ag [(.i .i64 3), (.sl 36 0 7 (.u 4)), (.sl 35 0 3 (.u 1))]), (.c (.sl 62 0 3 (.u 1)))], [(35, wb7_4), (36, wb7_1), (62, wb7_2)], 150, (.c (.sl 152 0 3 (.n 3))), [(35, wb7_4), (36, wb7_1), (62, wb7_2), (152, wb7_5)], 187⟩) 
theorem w2_0_3o2 : mok [(0, 3, 2), (4, 9, 0)] (lenL 1 3 8 ++ []) wN2 21 w2_0_3m2 = true := by kernel_rfl
def w2_0_3ms : List (Nat × List Memo) := [(21, [w2_0_3m0, w2_0_3m1, w2_0_3m2])]
theorem w2_0_3mo : AllMem (memRun [(0, 3, 2), (4, 9, 0)] (lenL 1 3 8 ++ []) wN2) w2_0_3ms := ⟨⟨w2_0_3o0, w2_0_3o1, w2_0_3o2, trivial⟩, trivial⟩
theorem w2_0_3 : lawRunM 9 10 200 [.i, .q, .b, .q, .i] [(0, 3, 2), (4, 9, 0)] (lenL 1 3 8 ++ []) wN2 w2_0_3ms = true := by kernel_rfl
def w2_1_3m0 : Memo :=  (⟨[(.ag [(.i .i64 3), (.sl 11 0 7 (.u 4)), (.sl 10 0 3 (.u 1))]), (.c (.sl 62 0 3 (.u 1)))], [(10, wb7_0), (11, wb7_1), (62, wb7_2)], 79, (.c (.sl 81 0 3 (.n 3))), [(10, wb7_0), (11, wb7_1), (62, wb7_2), (81, wb7_3)], 116⟩) 
theorem w2_1_3o0 : mok [(0, 3, 2), (4, 9, 1)] (lenL 1 3 8 ++ []) wN2 21 w2_1_3m0 = true := by kernel_rfl
def w2_1_3m1 : Memo :=  (⟨[(.ag [(.i .i64 3), (.sl 69 0 8 (.u 4)), (.sl 35 0 3 (.u 1))]), (.c (.sl 62 0 3 (.u 1)))], [(35, wb7_0), (62, wb7_2), (69, wb7_6)], 116, (.c (.sl 118 0 3 (.n 3))), [(35, wb7_0), (62, wb7_2), (69, wb7_6), (118, wb7_3)], 157⟩) 
theorem w2_1_3o1 : mok [(0, 3, 2), (4, 9, 1)] (lenL 1 3 8 ++ []) wN2 21 w2_1_3m1 = true := by kernel_rfl
def w2_1_3m2 : Memo :=  (⟨[(.ag [(.i .i64 3), (.sl 69 0 8 (.u 4)), (.sl 35 0 3 (.u 1))]), (.c (.sl 62 0 3 (.u 1)))], [(35, wb7_4), (62, wb7_2), (69, wb7_6)], 157, (.c (.sl 159 0 3 (.n 3))), [(35, wb7_4), (62, wb7_2), (69, wb7_6), (159, wb7_5)], 198⟩) 
theorem w2_1_3o2 : mok [(0, 3, 2), (4, 9, 1)] (lenL 1 3 8 ++ []) wN2 21 w2_1_3m2 = true := by kernel_rfl
def w2_1_3ms : List (Nat × List Memo) := [(21, [w2_1_3m0, w2_1_3m1, w2_1_3m2])]
theorem w2_1_3mo : AllMem (memRun [(0, 3, 2), (4, 9, 1)] (lenL 1 3 8 ++ []) wN2) w2_1_3ms := ⟨⟨w2_1_3o0, w2_1_3o1, w2_1_3o2, trivial⟩, trivial⟩
theorem w2_1_3 : lawRunM 9 10 200 [.i, .q, .b, .q, .i] [(0, 3, 2), (4, 9, 1)] (lenL 1 3 8 ++ []) wN2 w2_1_3ms = true := by kernel_rfl
def w2_2_3m0 : Memo :=  (⟨[(.ag [(.i .i64 3), (.sl 11 0 7 (.u 4)), (.sl 10 0 3 (.u 1))]), (.c (.sl 62 0 3 (.u 1)))], [(10, wb7_0), (11, wb7_1), (62, wb7_2)], 82, (.c (.sl 84 0 3 (.n 3))), [(10, wb7_0), (11, wb7_1), (62, wb7_2), (84, wb7_3)], 119⟩) 
theorem w2_2_3o0 : mok [(0, 3, 2), (4, 9, 2)] (lenL 1 3 8 ++ []) wN2 21 w2_2_3m0 = true := by kernel_rfl
def w2_2_3m1 : Memo :=  (⟨[(.ag [(.i .i64 3), (.sl 71 0 9 (.u 4)), (.sl 35 0 3 (.u 1))]), (.c (.sl 62 0 3 (.u 1)))], [(35, wb7_0), (62, wb7_2), (71, wb7_7)], 119, (.c (.sl 121 0 3 (.n 3))), [(35, wb7_0), (62, wb7_2), (71, wb7_7), (121, wb7_3)], 164⟩) 
theorem w2_2_3o1 : mok [(0, 3, 2), (4, 9, 2)] (lenL 1 3 8 ++ []) wN2 21 w2_2_3m1 = true := by kernel_rfl
def w2_2_3m2 : Memo :=  (⟨[(.ag [(.i .i64 3), (.sl 71 0 9 (.u 4)), (.sl 35 0 3 (.u 1))]), (.c (.sl 62 0 3 (.u 1)))], [(35, wb7_4), (62, wb7_2), (71, wb7_7)], 164, (.c (.sl 166 0 3 (.n 3))), [(35, wb7_4), (62, wb7_2), (71, wb7_7), (166, wb7_5)], 209⟩) 
theorem w2_2_3o2 : mok [(0, 3, 2), (4, 9, 2)] (lenL 1 3 8 ++ []) wN2 21 w2_2_3m2 = true := by kernel_rfl
def w2_2_3ms : List (Nat × List Memo) := [(21, [w2_2_3m0, w2_2_3m1, w2_2_3m2])]
theorem w2_2_3mo : AllMem (memRun [(0, 3, 2), (4, 9, 2)] (lenL 1 3 8 ++ []) wN2) w2_2_3ms := ⟨⟨w2_2_3o0, w2_2_3o1, w2_2_3o2, trivial⟩, trivial⟩
theorem w2_2_3 : lawRunM 9 10 200 [.i, .q, .b, .q, .i] [(0, 3, 2), (4, 9, 2)] (lenL 1 3 8 ++ []) wN2 w2_2_3ms = true := by kernel_rfl
def w2_3_3m0 : Memo :=  (⟨[(.ag [(.i .i64 3), (.sl 11 0 7 (.u 4)), (.sl 10 0 3 (.u 1))]), (.c (.sl 62 0 3 (.u 1)))], [(10, wb7_0), (11, wb7_1), (62, wb7_2)], 85, (.c (.sl 87 0 3 (.n 3))), [(10, wb7_0), (11, wb7_1), (62, wb7_2), (87, wb7_3)], 122⟩) 
theorem w2_3_3o0 : mok [(0, 3, 2), (4, 9, 3)] (lenL 1 3 8 ++ []) wN2 21 w2_3_3m0 = true := by kernel_rfl
def w2_3_3m1 : Memo :=  (⟨[(.ag [(.i .i64 3), (.sl 73 0 10 (.u 4)), (.sl 35 0 3 (.u 1))]), (.c (.sl 62 0 3 (.u 1)))], [(35, wb7_0), (62, wb7_2), (73, wb7_8)], 122, (.c (.sl 124 0 3 (.n 3))), [(35, wb7_0), (62, wb7_2), (73, wb7_8), (124, wb7_3)], 171⟩) 
theorem w2_3_3o1 : mok [(0, 3, 2), (4, 9, 3)] (lenL 1 3 8 ++ []) wN2 21 w2_3_3m1 = true := by kernel_rfl
def w2_3_3m2 : Memo :=  (⟨[(.ag [(.i .i64 3), (.sl 73 0 10 (.u 4)), (.sl 35 0 3 (.u 1))]), (.c (.sl 62 0 3 (.u 1)))], [(35, wb7_4), (62, wb7_2), (73, wb7_8)], 171, (.c (.sl 173 0 3 (.n 3))), [(35, wb7_4), (62, wb7_2), (73, wb7_8), (173, wb7_5)], 220⟩) 
theorem w2_3_3o2 : mok [(0, 3, 2), (4, 9, 3)] (lenL 1 3 8 ++ []) wN2 21 w2_3_3m2 = true := by kernel_rfl
def w2_3_3ms : List (Nat × List Memo) := [(21, [w2_3_3m0, w2_3_3m1, w2_3_3m2])]
theorem w2_3_3mo : AllMem (memRun [(0, 3, 2), (4, 9, 3)] (lenL 1 3 8 ++ []) wN2) w2_3_3ms := ⟨⟨w2_3_3o0, w2_3_3o1, w2_3_3o2, trivial⟩, trivial⟩
theorem w2_3_3 : lawRunM 9 10 200 [.i, .q, .b, .q, .i] [(0, 3, 2), (4, 9, 3)] (lenL 1 3 8 ++ []) wN2 w2_3_3ms = true := by kernel_rfl
def w2_4_3m0 : Memo :=  (⟨[(.ag [(.i .i64 3), (.sl 11 0 7 (.u 4)), (.sl 10 0 3 (.u 1))]), (.c (.sl 62 0 3 (.u 1)))], [(10, wb7_0), (11, wb7_1), (62, wb7_2)], 88, (.c (.sl 90 0 3 (.n 3))), [(10, wb7_0), (11, wb7_1), (62, wb7_2), (90, wb7_3)], 125⟩) 
theorem w2_4_3o0 : mok [(0, 3, 2), (4, 9, 4)] (lenL 1 3 8 ++ []) wN2 21 w2_4_3m0 = true := by kernel_rfl
def w2_4_3m1 : Memo :=  (⟨[(.ag [(.i .i64 3), (.sl 75 0 11 (.u 4)), (.sl 35 0 3 (.u 1))]), (.c (.sl 62 0 3 (.u 1)))], [(35, wb7_0), (62, wb7_2), (75, wb7_9)], 125, (.c (.sl 127 0 3 (.n 3))), [(35, wb7_0), (62, wb7_2), (75, wb7_9), (127, wb7_3)], 178⟩) 
theorem w2_4_3o1 : mok [(0, 3, 2), (4, 9, 4)] (lenL 1 3 8 ++ []) wN2 21 w2_4_3m1 = true := by kernel_rfl
def w2_4_3m2 : Memo :=  (⟨[(.ag [(.i .i64 3), (.sl 75 0 11 (.u 4)), (.sl 35 0 3 (.u 1))]), (.c (.sl 62 0 3 (.u 1)))], [(35, wb7_4), (62, wb7_2), (75, wb7_9)], 178, (.c (.sl 180 0 3 (.n 3))), [(35, wb7_4), (62, wb7_2), (75, wb7_9), (180, wb7_5)], 231⟩) 
theorem w2_4_3o2 : mok [(0, 3, 2), (4, 9, 4)] (lenL 1 3 8 ++ []) wN2 21 w2_4_3m2 = true := by kernel_rfl
def w2_4_3ms : List (Nat × List Memo) := [(21, [w2_4_3m0, w2_4_3m1, w2_4_3m2])]
theorem w2_4_3mo : AllMem (memRun [(0, 3, 2), (4, 9, 4)] (lenL 1 3 8 ++ []) wN2) w2_4_3ms := ⟨⟨w2_4_3o0, w2_4_3o1, w2_4_3o2, trivial⟩, trivial⟩
theorem w2_4_3 : lawRunM 9 10 200 [.i, .q, .b, .q, .i] [(0, 3, 2), (4, 9, 4)] (lenL 1 3 8 ++ []) wN2 w2_4_3ms = true := by kernel_rfl
def w2_5_3m0 : Memo :=  (⟨[(.ag [(.i .i64 3), (.sl 11 0 7 (.u 4)), (.sl 10 0 3 (.u 1))]), (.c (.sl 62 0 3 (.u 1)))], [(10, wb7_0), (11, wb7_1), (62, wb7_2)], 91, (.c (.sl 93 0 3 (.n 3))), [(10, wb7_0), (11, wb7_1), (62, wb7_2), (93, wb7_3)], 128⟩) 
theorem w2_5_3o0 : mok [(0, 3, 2), (4, 9, 5)] (lenL 1 3 8 ++ []) wN2 21 w2_5_3m0 = true := by kernel_rfl
def w2_5_3m1 : Memo :=  (⟨[(.ag [(.i .i64 3), (.sl 77 0 12 (.u 4)), (.sl 35 0 3 (.u 1))]), (.c (.sl 62 0 3 (.u 1)))], [(35, wb7_0), (62, wb7_2), (77, wb7_10)], 128, (.c (.sl 130 0 3 (.n 3))), [(35, wb7_0), (62, wb7_2), (77, wb7_10), (130, wb7_3)], 185⟩) 
theorem w2_5_3o1 : mok [(0, 3, 2), (4, 9, 5)] (lenL 1 3 8 ++ []) wN2 21 w2_5_3m1 = true := by kernel_rfl
def w2_5_3m2 : Memo :=  (⟨[(.ag [(.i .i64 3), (.sl 77 0 12 (.u 4)), (.sl 35 0 3 (.u 1))]), (.c (.sl 62 0 3 (.u 1)))], [(35, wb7_4), (62, wb7_2), (77, wb7_10)], 185, (.c (.sl 187 0 3 (.n 3))), [(35, wb7_4), (62, wb7_2), (77, wb7_10), (187, wb7_5)], 242⟩) 
theorem w2_5_3o2 : mok [(0, 3, 2), (4, 9, 5)] (lenL 1 3 8 ++ []) wN2 21 w2_5_3m2 = true := by kernel_rfl
def w2_5_3ms : List (Nat × List Memo) := [(21, [w2_5_3m0, w2_5_3m1, w2_5_3m2])]
theorem w2_5_3mo : AllMem (memRun [(0, 3, 2), (4, 9, 5)] (lenL 1 3 8 ++ []) wN2) w2_5_3ms := ⟨⟨w2_5_3o0, w2_5_3o1, w2_5_3o2, trivial⟩, trivial⟩
theorem w2_5_3 : lawRunM 9 10 200 [.i, .q, .b, .q, .i] [(0, 3, 2), (4, 9, 5)] (lenL 1 3 8 ++ []) wN2 w2_5_3ms = true := by kernel_rfl
def w2_6_3m0 : Memo :=  (⟨[(.ag [(.i .i64 3), (.sl 11 0 7 (.u 4)), (.sl 10 0 3 (.u 1))]), (.c (.sl 62 0 3 (.u 1)))], [(10, wb7_0), (11, wb7_1), (62, wb7_2)], 94, (.c (.sl 96 0 3 (.n 3))), [(10, wb7_0), (11, wb7_1), (62, wb7_2), (96, wb7_3)], 131⟩) 
theorem w2_6_3o0 : mok [(0, 3, 2), (4, 9, 6)] (lenL 1 3 8 ++ []) wN2 21 w2_6_3m0 = true := by kernel_rfl
def w2_6_3m1 : Memo :=  (⟨[(.ag [(.i .i64 3), (.sl 79 0 13 (.u 4)), (.sl 35 0 3 (.u 1))]), (.c (.sl 62 0 3 (.u 1)))], [(35, wb7_0), (62, wb7_2), (79, wb7_11)], 131, (.c (.sl 133 0 3 (.n 3))), [(35, wb7_0), (62, wb7_2), (79, wb7_11), (133, wb7_3)], 192⟩) 
theorem w2_6_3o1 : mok [(0, 3, 2), (4, 9, 6)] (lenL 1 3 8 ++ []) wN2 21 w2_6_3m1 = true := by kernel_rfl
def w2_6_3m2 : Memo :=  (⟨[(.ag [(.i .i64 3), (.sl 79 0 13 (.u 4)), (.sl 35 0 3 (.u 1))]), (.c (.sl 62 0 3 (.u 1)))], [(35, wb7_4), (62, wb7_2), (79, wb7_11)], 192, (.c (.sl 194 0 3 (.n 3))), [(35, wb7_4), (62, wb7_2), (79, wb7_11), (194, wb7_5)], 253⟩) 
theorem w2_6_3o2 : mok [(0, 3, 2), (4, 9, 6)] (lenL 1 3 8 ++ []) wN2 21 w2_6_3m2 = true := by kernel_rfl
def w2_6_3ms : List (Nat × List Memo) := [(21, [w2_6_3m0, w2_6_3m1, w2_6_3m2])]
theorem w2_6_3mo : AllMem (memRun [(0, 3, 2), (4, 9, 6)] (lenL 1 3 8 ++ []) wN2) w2_6_3ms := ⟨⟨w2_6_3o0, w2_6_3o1, w2_6_3o2, trivial⟩, trivial⟩
theorem w2_6_3 : lawRunM 9 10 200 [.i, .q, .b, .q, .i] [(0, 3, 2), (4, 9, 6)] (lenL 1 3 8 ++ []) wN2 w2_6_3ms = true := by kernel_rfl
def w2_7_3m0 : Memo :=  (⟨[(.ag [(.i .i64 3), (.sl 11 0 7 (.u 4)), (.sl 10 0 3 (.u 1))]), (.c (.sl 62 0 3 (.u 1)))], [(10, wb7_0), (11, wb7_1), (62, wb7_2)], 97, (.c (.sl 99 0 3 (.n 3))), [(10, wb7_0), (11, wb7_1), (62, wb7_2), (99, wb7_3)], 134⟩) 
theorem w2_7_3o0 : mok [(0, 3, 2), (4, 9, 7)] (lenL 1 3 8 ++ []) wN2 21 w2_7_3m0 = true := by kernel_rfl
def w2_7_3m1 : Memo :=  (⟨[(.ag [(.i .i64 3), (.sl 81 0 14 (.u 4)), (.sl 35 0 3 (.u 1))]), (.c (.sl 62 0 3 (.u 1)))], [(35, wb7_0), (62, wb7_2), (81, wb7_12)], 134, (.c (.sl 136 0 3 (.n 3))), [(35, wb7_0), (62, wb7_2), (81, wb7_12), (136, wb7_3)], 199⟩) 
theorem w2_7_3o1 : mok [(0, 3, 2), (4, 9, 7)] (lenL 1 3 8 ++ []) wN2 21 w2_7_3m1 = true := by kernel_rfl
def w2_7_3m2 : Memo :=  (⟨[(.ag [(.i .i64 3), (.sl 81 0 14 (.u 4)), (.sl 35 0 3 (.u 1))]), (.c (.sl 62 0 3 (.u 1)))], [(35, wb7_4), (62, wb7_2), (81, wb7_12)], 199, (.c (.sl 201 0 3 (.n 3))), [(35, wb7_4), (62, wb7_2), (81, wb7_12), (201, wb7_5)], 264⟩) 
theorem w2_7_3o2 : mok [(0, 3, 2), (4, 9, 7)] (lenL 1 3 8 ++ []) wN2 21 w2_7_3m2 = true := by kernel_rfl
def w2_7_3ms : List (Nat × List Memo) := [(21, [w2_7_3m0, w2_7_3m1, w2_7_3m2])]
theorem w2_7_3mo : AllMem (memRun [(0, 3, 2), (4, 9, 7)] (lenL 1 3 8 ++ []) wN2) w2_7_3ms := ⟨⟨w2_7_3o0, w2_7_3o1, w2_7_3o2, trivial⟩, trivial⟩
theorem w2_7_3 : lawRunM 9 10 200 [.i, .q, .b, .q, .i] [(0, 3, 2), (4, 9, 7)] (lenL 1 3 8 ++ []) wN2 w2_7_3ms = true := by kernel_rfl
def w2_8_3m0 : Memo :=  (⟨[(.ag [(.i .i64 3), (.sl 11 0 7 (.u 4)), (.sl 10 0 3 (.u 1))]), (.c (.sl 62 0 3 (.u 1)))], [(10, wb7_0), (11, wb7_1), (62, wb7_2)], 100, (.c (.sl 102 0 3 (.n 3))), [(10, wb7_0), (11, wb7_1), (62, wb7_2), (102, wb7_3)], 137⟩) 
theorem w2_8_3o0 : mok [(0, 3, 2), (4, 9, 8)] (lenL 1 3 8 ++ []) wN2 21 w2_8_3m0 = true := by kernel_rfl
def w2_8_3m1 : Memo :=  (⟨[(.ag [(.i .i64 3), (.sl 83 0 15 (.u 4)), (.sl 35 0 3 (.u 1))]), (.c (.sl 62 0 3 (.u 1)))], [(35, wb7_0), (62, wb7_2), (83, wb7_13)], 137, (.c (.sl 139 0 3 (.n 3))), [(35, wb7_0), (62, wb7_2), (83, wb7_13), (139, wb7_3)], 206⟩) 
theorem w2_8_3o1 : mok [(0, 3, 2), (4, 9, 8)] (lenL 1 3 8 ++ []) wN2 21 w2_8_3m1 = true := by kernel_rfl
def w2_8_3m2 : Memo :=  (⟨[(.ag [(.i .i64 3), (.sl 83 0 15 (.u 4)), (.sl 35 0 3 (.u 1))]), (.c (.sl 62 0 3 (.u 1)))], [(35, wb7_4), (62, wb7_2), (83, wb7_13)], 206, (.c (.sl 208 0 3 (.n 3))), [(35, wb7_4), (62, wb7_2), (83, wb7_13), (208, wb7_5)], 275⟩) 
theorem w2_8_3o2 : mok [(0, 3, 2), (4, 9, 8)] (lenL 1 3 8 ++ []) wN2 21 w2_8_3m2 = true := by kernel_rfl
def w2_8_3ms : List (Nat × List Memo) := [(21, [w2_8_3m0, w2_8_3m1, w2_8_3m2])]
theorem w2_8_3mo : AllMem (memRun [(0, 3, 2), (4, 9, 8)] (lenL 1 3 8 ++ []) wN2) w2_8_3ms := ⟨⟨w2_8_3o0, w2_8_3o1, w2_8_3o2, trivial⟩, trivial⟩
theorem w2_8_3 : lawRunM 9 10 200 [.i, .q, .b, .q, .i] [(0, 3, 2), (4, 9, 8)] (lenL 1 3 8 ++ []) wN2 w2_8_3ms = true := by kernel_rfl
def w2_0_4m0 : Memo :=  (⟨[(.ag [(.i .i64 3), (.sl 11 0 8 (.u 4)), (.sl 10 0 3 (.u 1))]), (.c (.sl 68 0 3 (.u 1)))], [(10, wb7_14), (11, wb7_15), (68, wb7_2)], 83, (.c (.sl 85 0 3 (.n 3))), [(10, wb7_14), (11, wb7_15), (68, wb7_2), (85, wb7_16)], 124⟩) 
theorem w2_0_4o0 : mok [(0, 3, 2), (4, 9, 0)] (lenL 1 4 8 ++ []) wN2 21 w2_0_4m0 = true := by kernel_rfl
def w2_0_4m1 : Memo :=  (⟨[(.ag [(.i .i64 3), (.sl 39 0 8 (.u 4)), (.sl 38 0 3 (.u 1))]), (.c (.sl 68 0 3 (.u 1)))], [(38, wb7_14), (39, wb7_15), (68, wb7_2)], 124, (.c (.sl 126 0 3 (.n 3))), [(38, wb7_14), (39, wb7_15), (68, wb7_2), (126, wb7_16)], 165⟩) 
theorem w2_0_4o1 : mok [(0, 3, 2), (4, 9, 0)] (lenL 1 4 8 ++ []) wN2 21 w2_0_4m1 = true := by kernel_rfl
def w2_0_4m2 : Memo :=  (⟨[(.ag [(.i .i64 3), (.sl 39 0 8 (.u 4)), (.sl 38 0 3 (.u 1))]), (.c (.sl 68 0 3 (.u 1)))], [(38, wb7_17), (39, wb7_15), (68, wb7_2)], 165, (.c (.sl 167 0 3 (.n 3))), [(38, wb7_17), (39, wb7_15), (68, wb7_2), (167, wb7_18)], 206⟩) 
theorem w2_0_4o2 : mok [(0, 3, 2), (4, 9, 0)] (lenL 1 4 8 ++ []) wN2 21 w2_0_4m2 = true := by kernel_rfl
def w2_0_4ms : List (Nat × List Memo) := [(21, [w2_0_4m0, w2_0_4m1, w2_0_4m2])]
theorem w2_0_4mo : AllMem (memRun [(0, 3, 2), (4, 9, 0)] (lenL 1 4 8 ++ []) wN2) w2_0_4ms := ⟨⟨w2_0_4o0, w2_0_4o1, w2_0_4o2, trivial⟩, trivial⟩
theorem w2_0_4 : lawRunM 9 10 200 [.i, .q, .b, .q, .i] [(0, 3, 2), (4, 9, 0)] (lenL 1 4 8 ++ []) wN2 w2_0_4ms = true := by kernel_rfl
def w2_1_4m0 : Memo :=  (⟨[(.ag [(.i .i64 3), (.sl 11 0 8 (.u 4)), (.sl 10 0 3 (.u 1))]), (.c (.sl 68 0 3 (.u 1)))], [(10, wb7_14), (11, wb7_15), (68, wb7_2)], 86, (.c (.sl 88 0 3 (.n 3))), [(10, wb7_14), (11, wb7_15), (68, wb7_2), (88, wb7_16)], 127⟩) 
theorem w2_1_4o0 : mok [(0, 3, 2), (4, 9, 1)] (lenL 1 4 8 ++ []) wN2 21 w2_1_4m0 = true := by kernel_rfl
def w2_1_4m1 : Memo :=  (⟨[(.ag [(.i .i64 3), (.sl 75 0 9 (.u 4)), (.sl 38 0 3 (.u 1))]), (.c (.sl 68 0 3 (.u 1)))], [(38, wb7_14), (68, wb7_2), (75, wb7_19)], 127, (.c (.sl 129 0 3 (.n 3))), [(38, wb7_14), (68, wb7_2), (75, wb7_19), (129, wb7_16)], 172⟩) 
theorem w2_1_4o1 : mok [(0, 3, 2), (4, 9, 1)] (lenL 1 4 8 ++ []) wN2 21 w2_1_4m1 = true := by kernel_rfl
def w2_1_4m2 : Memo :=  (⟨[(.ag [(.i .i64 3), (.sl 75 0 9 (.u 4)), (.sl 38 0 3 (.u 1))]), (.c (.sl 68 0 3 (.u 1)))], [(38, wb7_17), (68, wb7_2), (75, wb7_19)], 172, (.c (.sl 174 0 3 (.n 3))), [(38, wb7_17), (68, wb7_2), (75, wb7_19), (174, wb7_18)], 217⟩) 
theorem w2_1_4o2 : mok [(0, 3, 2), (4, 9, 1)] (lenL 1 4 8 ++ []) wN2 21 w2_1_4m2 = true := by kernel_rfl
def w2_1_4ms : List (Nat × List Memo) := [(21, [w2_1_4m0, w2_1_4m1, w2_1_4m2])]
theorem w2_1_4mo : AllMem (memRun [(0, 3, 2), (4, 9, 1)] (lenL 1 4 8 ++ []) wN2) w2_1_4ms := ⟨⟨w2_1_4o0, w2_1_4o1, w2_1_4o2, trivial⟩, trivial⟩
theorem w2_1_4 : lawRunM 9 10 200 [.i, .q, .b, .q, .i] [(0, 3, 2), (4, 9, 1)] (lenL 1 4 8 ++ []) wN2 w2_1_4ms = true := by kernel_rfl
def w2_2_4m0 : Memo :=  (⟨[(.ag [(.i .i64 3), (.sl 11 0 8 (.u 4)), (.sl 10 0 3 (.u 1))]), (.c (.sl 68 0 3 (.u 1)))], [(10, wb7_14), (11, wb7_15), (68, wb7_2)], 89, (.c (.sl 91 0 3 (.n 3))), [(10, wb7_14), (11, wb7_15), (68, wb7_2), (91, wb7_16)], 130⟩) 
theorem w2_2_4o0 : mok [(0, 3, 2), (4, 9, 2)] (lenL 1 4 8 ++ []) wN2 21 w2_2_4m0 = true := by kernel_rfl
def w2_2_4m1 : Memo :=  (⟨[(.ag [(.i .i64 3), (.sl 77 0 10 (.u 4)), (.sl 38 0 3 (.u 1))]), (.c (.sl 68 0 3 (.u 1)))], [(38, wb7_14), (68, wb7_2), (77, wb7_20)], 130, (.c (.sl 132 0 3 (.n 3))), [(38, wb7_14), (68, wb7_2), (77, wb7_20), (132, wb7_16)], 179⟩) 
theorem w2_2_4o1 : mok [(0, 3, 2), (4, 9, 2)] (lenL 1 4 8 ++ []) wN2 21 w2_2_4m1 = true := by kernel_rfl
def w2_2_4m2 : Memo :=  (⟨[(.ag [(.i .i64 3), (.sl 77 0 10 (.u 4)), (.sl 38 0 3 (.u 1))]), (.c (.sl 68 0 3 (.u 1)))], [(38, wb7_17), (68, wb7_2), (77, wb7_20)], 179, (.c (.sl 181 0 3 (.n 3))), [(38, wb7_17), (68, wb7_2), (77, wb7_20), (181, wb7_18)], 228⟩) 
theorem w2_2_4o2 : mok [(0, 3, 2), (4, 9, 2)] (lenL 1 4 8 ++ []) wN2 21 w2_2_4m2 = true := by kernel_rfl
def w2_2_4ms : List (Nat × List Memo) := [(21, [w2_2_4m0, w2_2_4m1, w2_2_4m2])]
theorem w2_2_4mo : AllMem (memRun [(0, 3, 2), (4, 9, 2)] (lenL 1 4 8 ++ []) wN2) w2_2_4ms := ⟨⟨w2_2_4o0, w2_2_4o1, w2_2_4o2, trivial⟩, trivial⟩
theorem w2_2_4 : lawRunM 9 10 200 [.i, .q, .b, .q, .i] [(0, 3, 2), (4, 9, 2)] (lenL 1 4 8 ++ []) wN2 w2_2_4ms = true := by kernel_rfl
def w2_3_4m0 : Memo :=  (⟨[(.ag [(.i .i64 3), (.sl 11 0 8 (.u 4)), (.sl 10 0 3 (.u 1))]), (.c (.sl 68 0 3 (.u 1)))], [(10, wb7_14), (11, wb7_15), (68, wb7_2)], 92, (.c (.sl 94 0 3 (.n 3))), [(10, wb7_14), (11, wb7_15), (68, wb7_2), (94, wb7_16)], 133⟩) 
theorem w2_3_4o0 : mok [(0, 3, 2), (4, 9, 3)] (lenL 1 4 8 ++ []) wN2 21 w2_3_4m0 = true := by kernel_rfl
def w2_3_4m1 : Memo :=  (⟨[(.ag [(.i .i64 3), (.sl 79 0 11 (.u 4)), (.sl 38 0 3 (.u 1))]), (.c (.sl 68 0 3 (.u 1)))], [(38, wb7_14), (68, wb7_2), (79, wb7_21)], 133, (.c (.sl 135 0 3 (.n 3))), [(38, wb7_14), (68, wb7_2), (79, wb7_21), (135, wb7_16)], 186⟩) 
theorem w2_3_4o1 : mok [(0, 3, 2), (4, 9, 3)] (lenL 1 4 8 ++ []) wN2 21 w2_3_4m1 = true := by kernel_rfl
def w2_3_4m2 : Memo :=  (⟨[(.ag [(.i .i64 3), (.sl 79 0 11 (.u 4)), (.sl 38 0 3 (.u 1))]), (.c (.sl 68 0 3 (.u 1)))], [(38, wb7_17), (68, wb7_2), (79, wb7_21)], 186, (.c (.sl 188 0 3 (.n 3))), [(38, wb7_17), (68, wb7_2), (79, wb7_21), (188, wb7_18)], 239⟩) 
theorem w2_3_4o2 : mok [(0, 3, 2), (4, 9, 3)] (lenL 1 4 8 ++ []) wN2 21 w2_3_4m2 = true := by kernel_rfl
def w2_3_4ms : List (Nat × List Memo) := [(21, [w2_3_4m0, w2_3_4m1, w2_3_4m2])]
theorem w2_3_4mo : AllMem (memRun [(0, 3, 2), (4, 9, 3)] (lenL 1 4 8 ++ []) wN2) w2_3_4ms := ⟨⟨w2_3_4o0, w2_3_4o1, w2_3_4o2, trivial⟩, trivial⟩
theorem w2_3_4 : lawRunM 9 10 200 [.i, .q, .b, .q, .i] [(0, 3, 2), (4, 9, 3)] (lenL 1 4 8 ++ []) wN2 w2_3_4ms = true := by kernel_rfl
def w2_4_4m0 : Memo :=  (⟨[(.ag [(.i .i64 3), (.sl 11 0 8 (.u 4)), (.sl 10 0 3 (.u 1))]), (.c (.sl 68 0 3 (.u 1)))], [(10, wb7_14), (11, wb7_15), (68, wb7_2)], 95, (.c (.sl 97 0 3 (.n 3))), [(10, wb7_14), (11, wb7_15), (68, wb7_2), (97, wb7_16)], 136⟩) 
theorem w2_4_4o0 : mok [(0, 3, 2), (4, 9, 4)] (lenL 1 4 8 ++ []) wN2 21 w2_4_4m0 = true := by kernel_rfl
def w2_4_4m1 : Memo :=  (⟨[(.ag [(.i .i64 3), (.sl 81 0 12 (.u 4)), (.sl 38 0 3 (.u 1))]), (.c (.sl 68 0 3 (.u 1)))], [(38, wb7_14), (68, wb7_2), (81, wb7_22)], 136, (.c (.sl 138 0 3 (.n 3))), [(38, wb7_14), (68, wb7_2), (81, wb7_22), (138, wb7_16)], 193⟩) 
theorem w2_4_4o1 : mok [(0, 3, 2), (4, 9, 4)] (lenL 1 4 8 ++ []) wN2 21 w2_4_4m1 = true := by kernel_rfl
def w2_4_4m2 : Memo :=  (⟨[(.ag [(.i .i64 3), (.sl 81 0 12 (.u 4)), (.sl 38 0 3 (.u 1))]), (.c (.sl 68 0 3 (.u 1)))], [(38, wb7_17), (68, wb7_2), (81, wb7_22)], 193, (.c (.sl 195 0 3 (.n 3))), [(38, wb7_17), (68, wb7_2), (81, wb7_22), (195, wb7_18)], 250⟩) 
theorem w2_4_4o2 : mok [(0, 3, 2), (4, 9, 4)] (lenL 1 4 8 ++ []) wN2 21 w2_4_4m2 = true := by kernel_rfl
def w2_4_4ms : List (Nat × List Memo) := [(21, [w2_4_4m0, w2_4_4m1, w2_4_4m2])]
theorem w2_4_4mo : AllMem (memRun [(0, 3, 2), (4, 9, 4)] (lenL 1 4 8 ++ []) wN2) w2_4_4ms := ⟨⟨w2_4_4o0, w2_4_4o1, w2_4_4o2, trivial⟩, trivial⟩
theorem w2_4_4 : lawRunM 9 10 200 [.i, .q, .b, .q, .i] [(0, 3, 2), (4, 9, 4)] (lenL 1 4 8 ++ []) wN2 w2_4_4ms = true := by kernel_rfl
def w2_5_4m0 : Memo :=  (⟨[(.ag [(.i .i64 3), (.sl 11 0 8 (.u 4)), (.sl 10 0 3 (.u 1))]), (.c (.sl 68 0 3 (.u 1)))], [(10, wb7_14), (11, wb7_15), (68, wb7_2)], 98, (.c (.sl 100 0 3 (.n 3))), [(10, wb7_14), (11, wb7_15), (68, wb7_2), (100, wb7_16)], 139⟩) 
theorem w2_5_4o0 : mok [(0, 3, 2), (4, 9, 5)] (lenL 1 4 8 ++ []) wN2 21 w2_5_4m0 = true := by kernel_rfl
def w2_5_4m1 : Memo :=  (⟨[(.ag [(.i .i64 3), (.sl 83 0 13 (.u 4)), (.sl 38 0 3 (.u 1))]), (.c (.sl 68 0 3 (.u 1)))], [(38, wb7_14), (68, wb7_2), (83, wb7_23)], 139, (.c (.sl 141 0 3 (.n 3))), [(38, wb7_14), (68, wb7_2), (83, wb7_23), (141, wb7_16)], 200⟩) 
theorem w2_5_4o1 : mok [(0, 3, 2), (4, 9, 5)] (lenL 1 4 8 ++ []) wN2 21 w2_5_4m1 = true := by kernel_rfl
def w2_5_4m2 : Memo :=  (⟨[(.ag [(.i .i64 3), (.sl 83 0 13 (.u 4)), (.sl 38 0 3 (.u 1))]), (.c (.sl 68 0 3 (.u 1)))], [(38, wb7_17), (68, wb7_2), (83, wb7_23)], 200, (.c (.sl 202 0 3 (.n 3))), [(38, wb7_17), (68, wb7_2), (83, wb7_23), (202, wb7_18)], 261⟩) 
theorem w2_5_4o2 : mok [(0, 3, 2), (4, 9, 5)] (lenL 1 4 8 ++ []) wN2 21 w2_5_4m2 = true := by kernel_rfl
def w2_5_4ms : List (Nat × List Memo) := [(21, [w2_5_4m0, w2_5_4m1, w2_5_4m2])]
theorem w2_5_4mo : AllMem (memRun [(0, 3, 2), (4, 9, 5)] (lenL 1 4 8 ++ []) wN2) w2_5_4ms := ⟨⟨w2_5_4o0, w2_5_4o1, w2_5_4o2, trivial⟩, trivial⟩
theorem w2_5_4 : lawRunM 9 10 200 [.i, .q, .b, .q, .i] [(0, 3, 2), (4, 9, 5)] (lenL 1 4 8 ++ []) wN2 w2_5_4ms = true := by kernel_rfl
def w2_6_4m0 : Memo :=  (⟨[(.ag [(.i .i64 3), (.sl 11 0 8 (.u 4)), (.sl 10 0 3 (.u 1))]), (.c (.sl 68 0 3 (.u 1)))], [(10, wb7_14), (11, wb7_15), (68, wb7_2)], 101, (.c (.sl 103 0 3 (.n 3))), [(10, wb7_14), (11, wb7_15), (68, wb7_2), (103, wb7_16)], 142⟩) 
theorem w2_6_4o0 : mok [(0, 3, 2), (4, 9, 6)] (lenL 1 4 8 ++ []) wN2 21 w2_6_4m0 = true := by kernel_rfl
def w2_6_4m1 : Memo :=  (⟨[(.ag [(.i .i64 3), (.sl 85 0 14 (.u 4)), (.sl 38 0 3 (.u 1))]), (.c (.sl 68 0 3 (.u 1)))], [(38, wb7_14), (68, wb7_2), (85, wb7_24)], 142, (.c (.sl 144 0 3 (.n 3))), [(38, wb7_14), (68, wb7_2), (85, wb7_24), (144, wb7_16)], 207⟩) 
theorem w2_6_4o1 : mok [(0, 3, 2), (4, 9, 6)] (lenL 1 4 8 ++ []) wN2 21 w2_6_4m1 = true := by kernel_rfl
def w2_6_4m2 : Memo :=  (⟨[(.ag [(.i .i64 3), (.sl 85 0 14 (.u 4)), (.sl 38 0 3 (.u 1))]), (.c (.sl 68 0 3 (.u 1)))], [(38, wb7_17), (68, wb7_2), (85, wb7_24)], 207, (.c (.sl 209 0 3 (.n 3))), [(38, wb7_17), (68, wb7_2), (85, wb7_24), (209, wb7_18)], 272⟩) 
theorem w2_6_4o2 : mok [(0, 3, 2), (4, 9, 6)] (lenL 1 4 8 ++ []) wN2 21 w2_6_4m2 = true := by kernel_rfl
def w2_6_4ms : List (Nat × List Memo) := [(21, [w2_6_4m0, w2_6_4m1, w2_6_4m2])]
theorem w2_6_4mo : AllMem (memRun [(0, 3, 2), (4, 9, 6)] (lenL 1 4 8 ++ []) wN2) w2_6_4ms := ⟨⟨w2_6_4o0, w2_6_4o1, w2_6_4o2, trivial⟩, trivial⟩
theorem w2_6_4 : lawRunM 9 10 200 [.i, .q, .b, .q, .i] [(0, 3, 2), (4, 9, 6)] (lenL 1 4 8 ++ []) wN2 w2_6_4ms = true := by kernel_rfl
def w2_7_4m0 : Memo :=  (⟨[(.ag [(.i .i64 3), (.sl 11 0 8 (.u 4)), (.sl 10 0 3 (.u 1))]), (.c (.sl 68 0 3 (.u 1)))], [(10, wb7_14), (11, wb7_15), (68, wb7_2)], 104, (.c (.sl 106 0 3 (.n 3))), [(10, wb7_14), (11, wb7_15), (68, wb7_2), (106, wb7_16)], 145⟩) 
theorem w2_7_4o0 : mok [(0, 3, 2), (4, 9, 7)] (lenL 1 4 8 ++ []) wN2 21 w2_7_4m0 = true := by kernel_rfl
def w2_7_4m1 : Memo :=  (⟨[(.ag [(.i .i64 3), (.sl 87 0 15 (.u 4)), (.sl 38 0 3 (.u 1))]), (.c (.sl 68 0 3 (.u 1)))], [(38, wb7_14), (68, wb7_2), (87, wb7_25)], 145, (.c (.sl 147 0 3 (.n 3))), [(38, wb7_14), (68, wb7_2), (87, wb7_25), (147, wb7_16)], 214⟩) 
theorem w2_7_4o1 : mok [(0, 3, 2), (4, 9, 7)] (lenL 1 4 8 ++ []) wN2 21 w2_7_4m1 = true := by kernel_rfl
def w2_7_4m2 : Memo :=  (⟨[(.ag [(.i .i64 3), (.sl 87 0 15 (.u 4)), (.sl 38 0 3 (.u 1))]), (.c (.sl 68 0 3 (.u 1)))], [(38, wb7_17), (68, wb7_2), (87, wb7_25)], 214, (.c (.sl 216 0 3 (.n 3))), [(38, wb7_17), (68, wb7_2), (87, wb7_25), (216, wb7_18)], 283⟩) 
theorem w2_7_4o2 : mok [(0, 3, 2), (4, 9, 7)] (lenL 1 4 8 ++ []) wN2 21 w2_7_4m2 = true := by kernel_rfl
def w2_7_4ms : List (Nat × List Memo) := [(21, [w2_7_4m0, w2_7_4m1, w2_7_4m2])]
theorem w2_7_4mo : AllMem (memRun [(0, 3, 2), (4, 9, 7)] (lenL 1 4 8 ++ []) wN2) w2_7_4ms := ⟨⟨w2_7_4o0, w2_7_4o1, w2_7_4o2, trivial⟩, trivial⟩
theorem w2_7_4 : lawRunM 9 10 200 [.i, .q, .b, .q, .i] [(0, 3, 2), (4, 9, 7)] (lenL 1 4 8 ++ []) wN2 w2_7_4ms = true := by kernel_rfl
def w2_8_4m0 : Memo :=  (⟨[(.ag [(.i .i64 3), (.sl 11 0 8 (.u 4)), (.sl 10 0 3 (.u 1))]), (.c (.sl 68 0 3 (.u 1)))], [(10, wb7_14), (11, wb7_15), (68, wb7_2)], 107, (.c (.sl 109 0 3 (.n 3))), [(10, wb7_14), (11, wb7_15), (68, wb7_2), (109, wb7_16)], 148⟩) 
theorem w2_8_4o0 : mok [(0, 3, 2), (4, 9, 8)] (lenL 1 4 8 ++ []) wN2 21 w2_8_4m0 = true := by kernel_rfl
def w2_8_4m1 : Memo :=  (⟨[(.ag [(.i .i64 3), (.sl 89 0 16 (.u 4)), (.sl 38 0 3 (.u 1))]), (.c (.sl 68 0 3 (.u 1)))], [(38, wb7_14), (68, wb7_2), (89, wb7_26)], 148, (.c (.sl 150 0 3 (.n 3))), [(38, wb7_14), (68, wb7_2), (89, wb7_26), (150, wb7_16)], 221⟩) 
theorem w2_8_4o1 : mok [(0, 3, 2), (4, 9, 8)] (lenL 1 4 8 ++ []) wN2 21 w2_8_4m1 = true := by kernel_rfl
def w2_8_4m2 : Memo :=  (⟨[(.ag [(.i .i64 3), (.sl 89 0 16 (.u 4)), (.sl 38 0 3 (.u 1))]), (.c (.sl 68 0 3 (.u 1)))], [(38, wb7_17), (68, wb7_2), (89, wb7_26)], 221, (.c (.sl 223 0 3 (.n 3))), [(38, wb7_17), (68, wb7_2), (89, wb7_26), (223, wb7_18)], 294⟩) 
theorem w2_8_4o2 : mok [(0, 3, 2), (4, 9, 8)] (lenL 1 4 8 ++ []) wN2 21 w2_8_4m2 = true := by kernel_rfl
def w2_8_4ms : List (Nat × List Memo) := [(21, [w2_8_4m0, w2_8_4m1, w2_8_4m2])]
theorem w2_8_4mo : AllMem (memRun [(0, 3, 2), (4, 9, 8)] (lenL 1 4 8 ++ []) wN2) w2_8_4ms := ⟨⟨w2_8_4o0, w2_8_4o1, w2_8_4o2, trivial⟩, trivial⟩
theorem w2_8_4 : lawRunM 9 10 200 [.i, .q, .b, .q, .i] [(0, 3, 2), (4, 9, 8)] (lenL 1 4 8 ++ []) wN2 w2_8_4ms = true := by kernel_rfl
def w2_0_5m0 : Memo :=  (⟨[(.ag [(.i .i64 3), (.sl 11 0 9 (.u 4)), (.sl 10 0 3 (.u 1))]), (.c (.sl 74 0 3 (.u 1)))], [(10, wb7_27), (11, wb7_28), (74, wb7_2)], 90, (.c (.sl 92 0 3 (.n 3))), [(10, wb7_27), (11, wb7_28), (74, wb7_2), (92, wb7_29)], 135⟩) 
theorem w2_0_5o0 : mok [(0, 3, 2), (4, 9, 0)] (lenL 1 5 8 ++ []) wN2 21 w2_0_5m0 = true := by kernel_rfl
def w2_0_5m1 : Memo :=  (⟨[(.ag [(.i .i64 3), (.sl 42 0 9 (.u 4)), (.sl 41 0 3 (.u 1))]), (.c (.sl 74 0 3 (.u 1)))], [(41, wb7_27), (42, wb7_28), (74, wb7_2)], 135, (.c (.sl 137 0 3 (.n 3))), [(41, wb7_27), (42, wb7_28), (74, wb7_2), (137, wb7_29)], 180⟩) 
theorem w2_0_5o1 : mok [(0, 3, 2), (4, 9, 0)] (lenL 1 5 8 ++ []) wN2 21 w2_0_5m1 = true := by kernel_rfl
def w2_0_5m2 : Memo :=  (⟨[(.ag [(.i .i64 3), (.sl 42 0 9 (.u 4)), (.sl 41 0 3 (.u 1))]), (.c (.sl 74 0 3 (.u 1)))], [(41, wb7_30), (42, wb7_28), (74, wb7_2)], 180, (.c (.sl 182 0 3 (.n 3))), [(41, wb7_30), (42, wb7_28), (74, wb7_2), (182, wb7_31)], 225⟩) 
theorem w2_0_5o2 : mok [(0, 3, 2), (4, 9, 0)] (lenL 1 5 8 ++ []) wN2 21 w2_0_5m2 = true := by kernel_rfl
def w2_0_5ms : List (Nat × List Memo) := [(21, [w2_0_5m0, w2_0_5m1, w2_0_5m2])]
theorem w2_0_5mo : AllMem (memRun [(0, 3, 2), (4, 9, 0)] (lenL 1 5 8 ++ []) wN2) w2_0_5ms := ⟨⟨w2_0_5o0, w2_0_5o1, w2_0_5o2, trivial⟩, trivial⟩
theorem w2_0_5 : lawRunM 9 10 200 [.i, .q, .b, .q, .i] [(0, 3, 2), (4, 9, 0)] (lenL 1 5 8 ++ []) wN2 w2_0_5ms = true := by kernel_rfl
def w2_1_5m0 : Memo :=  (⟨[(.ag [(.i .i64 3), (.sl 11 0 9 (.u 4)), (.sl 10 0 3 (.u 1))]), (.c (.sl 74 0 3 (.u 1)))], [(10, wb7_27), (11, wb7_28), (74, wb7_2)], 93, (.c (.sl 95 0 3 (.n 3))), [(10, wb7_27), (11, wb7_28), (74, wb7_2), (95, wb7_29)], 138⟩) 
theorem w2_1_5o0 : mok [(0, 3, 2), (4, 9, 1)] (lenL 1 5 8 ++ []) wN2 21 w2_1_5m0 = true := by kernel_rfl
def w2_1_5m1 : Memo :=  (⟨[(.ag [(.i .i64 3), (.sl 81 0 10 (.u 4)), (.sl 41 0 3 (.u 1))]), (.c (.sl 74 0 3 (.u 1)))], [(41, wb7_27), (74, wb7_2), (81, wb7_32)], 138, (.c (.sl 140 0 3 (.n 3))), [(41, wb7_27), (74, wb7_2), (81, wb7_32), (140, wb7_29)], 187⟩) 
theorem w2_1_5o1 : mok [(0, 3, 2), (4, 9, 1)] (lenL 1 5 8 ++ []) wN2 21 w2_1_5m1 = true := by kernel_rfl
def w2_1_5m2 : Memo :=  (⟨[(.ag [(.i .i64 3), (.sl 81 0 10 (.u 4)), (.sl 41 0 3 (.u 1))]), (.c (.sl 74 0 3 (.u 1)))], [(41, wb7_30), (74, wb7_2), (81, wb7_32)], 187, (.c (.sl 189 0 3 (.n 3))), [(41, wb7_30), (74, wb7_2), (81, wb7_32), (189, wb7_31)], 236⟩) 
theorem w2_1_5o2 : mok [(0, 3, 2), (4, 9, 1)] (lenL 1 5 8 ++ []) wN2 21 w2_1_5m2 = true := by kernel_rfl
def w2_1_5ms : List (Nat × List Memo) := [(21, [w2_1_5m0, w2_1_5m1, w2_1_5m2])]
theorem w2_1_5mo : AllMem (memRun [(0, 3, 2), (4, 9, 1)] (lenL 1 5 8 ++ []) wN2) w2_1_5ms := ⟨⟨w2_1_5o0, w2_1_5o1, w2_1_5o2, trivial⟩, trivial⟩
theorem w2_1_5 : lawRunM 9 10 200 [.i, .q, .b, .q, .i] [(0, 3, 2), (4, 9, 1)] (lenL 1 5 8 ++ []) wN2 w2_1_5ms = true := by kernel_rfl
def w2_2_5m0 : Memo :=  (⟨[(.ag [(.i .i64 3), (.sl 11 0 9 (.u 4)), (.sl 10 0 3 (.u 1))]), (.c (.sl 74 0 3 (.u 1)))], [(10, wb7_27), (11, wb7_28), (74, wb7_2)], 96, (.c (.sl 98 0 3 (.n 3))), [(10, wb7_27), (11, wb7_28), (74, wb7_2), (98, wb7_29)], 141⟩) 
theorem w2_2_5o0 : mok [(0, 3, 2), (4, 9, 2)] (lenL 1 5 8 ++ []) wN2 21 w2_2_5m0 = true := by kernel_rfl
def w2_2_5m1 : Memo :=  (⟨[(.ag [(.i .i64 3), (.sl 83 0 11 (.u 4)), (.sl 41 0 3 (.u 1))]), (.c (.sl 74 0 3 (.u 1)))], [(41, wb7_27), (74, wb7_2), (83, wb7_33)], 141, (.c (.sl 143 0 3 (.n 3))), [(41, wb7_27), (74, wb7_2), (83, wb7_33), (143, wb7_29)], 194⟩) 
theorem w2_2_5o1 : mok [(0, 3, 2), (4, 9, 2)] (lenL 1 5 8 ++ []) wN2 21 w2_2_5m1 = true := by kernel_rfl
def w2_2_5m2 : Memo :=  (⟨[(.ag [(.i .i64 3), (.sl 83 0 11 (.u 4)), (.sl 41 0 3 (.u 1))]), (.c (.sl 74 0 3 (.u 1)))], [(41, wb7_30), (74, wb7_2), (83, wb7_33)], 194, (.c (.sl 196 0 3 (.n 3))), [(41, wb7_30), (74, wb7_2), (83, wb7_33), (196, wb7_31)], 247⟩) 
theorem w2_2_5o2 : mok [(0, 3, 2), (4, 9, 2)] (lenL 1 5 8 ++ []) wN2 21 w2_2_5m2 = true := by kernel_rfl
def w2_2_5ms : List (Nat × List Memo) := [(21, [w2_2_5m0, w2_2_5m1, w2_2_5m2])]
theorem w2_2_5mo : AllMem (memRun [(0, 3, 2), (4, 9, 2)] (lenL 1 5 8 ++ []) wN2) w2_2_5ms := ⟨⟨w2_2_5o0, w2_2_5o1, w2_2_5o2, trivial⟩, trivial⟩
theorem w2_2_5 : lawRunM 9 10 200 [.i, .q, .b, .q, .i] [(0, 3, 2), (4, 9, 2)] (lenL 1 5 8 ++ []) wN2 w2_2_5ms = true := by kernel_rfl
def w2_3_5m0 : Memo :=  (⟨[(.ag [(.i .i64 3), (.sl 11 0 9 (.u 4)), (.sl 10 0 3 (.u 1))]), (.c (.sl 74 0 3 (.u 1)))], [(10, wb7_27), (11, wb7_28), (74, wb7_2)], 99, (.c (.sl 101 0 3 (.n 3))), [(10, wb7_27), (11, wb7_28), (74, wb7_2), (101, wb7_29)], 144⟩) 
theorem w2_3_5o0 : mok [(0, 3, 2), (4, 9, 3)] (lenL 1 5 8 ++ []) wN2 21 w2_3_5m0 = true := by kernel_rfl
def w2_3_5m1 : Memo :=  (⟨[(.ag [(.i .i64 3), (.sl 85 0 12 (.u 4)), (.sl 41 0 3 (.u 1))]), (.c (.sl 74 0 3 (.u 1)))], [(41, wb7_27), (74, wb7_2), (85, wb7_34)], 144, (.c (.sl 146 0 3 (.n 3))), [(41, wb7_27), (74, wb7_2), (85, wb7_34), (146, wb7_29)], 201⟩) 
theorem w2_3_5o1 : mok [(0, 3, 2), (4, 9, 3)] (lenL 1 5 8 ++ []) wN2 21 w2_3_5m1 = true := by kernel_rfl
def w2_3_5m2 : Memo :=  (⟨[(.ag [(.i .i64 3), (.sl 85 0 12 (.u 4)), (.sl 41 0 3 (.u 1))]), (.c (.sl 74 0 3 (.u 1)))], [(41, wb7_30), (74, wb7_2), (85, wb7_34)], 201, (.c (.sl 203 0 3 (.n 3))), [(41, wb7_30), (74, wb7_2), (85, wb7_34), (203, wb7_31)], 258⟩) 
theorem w2_3_5o2 : mok [(0, 3, 2), (4, 9, 3)] (lenL 1 5 8 ++ []) wN2 21 w2_3_5m2 = true := by kernel_rfl
def w2_3_5ms : List (Nat × List Memo) := [(21, [w2_3_5m0, w2_3_5m1, w2_3_5m2])]
theorem w2_3_5mo : AllMem (memRun [(0, 3, 2), (4, 9, 3)] (lenL 1 5 8 ++ []) wN2) w2_3_5ms := ⟨⟨w2_3_5o0, w2_3_5o1, w2_3_5o2, trivial⟩, trivial⟩
theorem w2_3_5 : lawRunM 9 10 200 [.i, .q, .b, .q, .i] [(0, 3, 2), (4, 9, 3)] (lenL 1 5 8 ++ []) wN2 w2_3_5ms = true := by kernel_rfl
def w2_4_5m0 : Memo :=  (⟨[(.ag [(.i .i64 3), (.sl 11 0 9 (.u 4)), (.sl 10 0 3 (.u 1))]), (.c (.sl 74 0 3 (.u 1)))], [(10, wb7_27), (11, wb7_28), (74, wb7_2)], 102, (.c (.sl 104 0 3 (.n 3))), [(10, wb7_27), (11, wb7_28), (74, wb7_2), (104, wb7_29)], 147⟩) 
theorem w2_4_5o0 : mok [(0, 3, 2), (4, 9, 4)] (lenL 1 5 8 ++ []) wN2 21 w2_4_5m0 = true := by kernel_rfl
def w2_4_5m1 : Memo :=  (⟨[(.ag [(.i .i64 3), (.sl 87 0 13 (.u 4)), (.sl 41 0 3 (.u 1))]), (.c (.sl 74 0 3 (.u 1)))], [(41, wb7_27), (74, wb7_2), (87, wb7_35)], 147, (.c (.sl 149 0 3 (.n 3))), [(41, wb7_27), (74, wb7_2), (87, wb7_35), (149, wb7_29)], 208⟩) 
theorem w2_4_5o1 : mok [(0, 3, 2), (4, 9, 4)] (lenL 1 5 8 ++ []) wN2 21 w2_4_5m1 = true := by kernel_rfl
def w2_4_5m2 : Memo :=  (⟨[(.ag [(.i .i64 3), (.sl 87 0 13 (.u 4)), (.sl 41 0 3 (.u 1))]), (.c (.sl 74 0 3 (.u 1)))], [(41, wb7_30), (74, wb7_2), (87, wb7_35)], 208, (.c (.sl 210 0 3 (.n 3))), [(41, wb7_30), (74, wb7_2), (87, wb7_35), (210, wb7_31)], 269⟩) 
theorem w2_4_5o2 : mok [(0, 3, 2), (4, 9, 4)] (lenL 1 5 8 ++ []) wN2 21 w2_4_5m2 = true := by kernel_rfl
def w2_4_5ms : List (Nat × List Memo) := [(21, [w2_4_5m0, w2_4_5m1, w2_4_5m2])]
theorem w2_4_5mo : AllMem (memRun [(0, 3, 2), (4, 9, 4)] (lenL 1 5 8 ++ []) wN2) w2_4_5ms := ⟨⟨w2_4_5o0, w2_4_5o1, w2_4_5o2, trivial⟩, trivial⟩
theorem w2_4_5 : lawRunM 9 10 200 [.i, .q, .b, .q, .i] [(0, 3, 2), (4, 9, 4)] (lenL 1 5 8 ++ []) wN2 w2_4_5ms = true := by kernel_rfl
def w2_5_5m0 : Memo :=  (⟨[(.ag [(.i .i64 3), (.sl 11 0 9 (.u 4)), (.sl 10 0 3 (.u 1))]), (.c (.sl 74 0 3 (.u 1)))], [(10, wb7_27), (11, wb7_28), (74, wb7_2)], 105, (.c (.sl 107 0 3 (.n 3))), [(10, wb7_27), (11, wb7_28), (74, wb7_2), (107, wb7_29)], 150⟩) 
theorem w2_5_5o0 : mok [(0, 3, 2), (4, 9, 5)] (lenL 1 5 8 ++ []) wN2 21 w2_5_5m0 = true := by kernel_rfl
def w2_5_5m1 : Memo :=  (⟨[(.ag [(.i .i64 3), (.sl 89 0 14 (.u 4)), (.sl 41 0 3 (.u 1))]), (.c (.sl 74 0 3 (.u 1)))], [(41, wb7_27), (74, wb7_2), (89, wb7_36)], 150, (.c (.sl 152 0 3 (.n 3))), [(41, wb7_27), (74, wb7_2), (89, wb7_36), (152, wb7_29)], 215⟩) 
theorem w2_5_5o1 : mok [(0, 3, 2), (4, 9, 5)] (lenL 1 5 8 ++ []) wN2 21 w2_5_5m1 = true := by kernel_rfl
def w2_5_5m2 : Memo :=  (⟨[(.ag [(.i .i64 3), (.sl 89 0 14 (.u 4)), (.sl 41 0 3 (.u 1))]), (.c (.sl 74 0 3 (.u 1)))], [(41, wb7_30), (74, wb7_2), (89, wb7_36)], 215, (.c (.sl 217 0 3 (.n 3))), [(41, wb7_30), (74, wb7_2), (89, wb7_36), (217, wb7_31)], 280⟩) 
theorem w2_5_5o2 : mok [(0, 3, 2), (4, 9, 5)] (lenL 1 5 8 ++ []) wN2 21 w2_5_5m2 = true := by kernel_rfl
def w2_5_5ms : List (Nat × List Memo) := [(21, [w2_5_5m0, w2_5_5m1, w2_5_5m2])]
theorem w2_5_5mo : AllMem (memRun [(0, 3, 2), (4, 9, 5)] (lenL 1 5 8 ++ []) wN2) w2_5_5ms := ⟨⟨w2_5_5o0, w2_5_5o1, w2_5_5o2, trivial⟩, trivial⟩
theorem w2_5_5 : lawRunM 9 10 200 [.i, .q, .b, .q, .i] [(0, 3, 2), (4, 9, 5)] (lenL 1 5 8 ++ []) wN2 w2_5_5ms = true := by kernel_rfl
def w2_6_5m0 : Memo :=  (⟨[(.ag [(.i .i64 3), (.sl 11 0 9 (.u 4)), (.sl 10 0 3 (.u 1))]), (.c (.sl 74 0 3 (.u 1)))], [(10, wb7_27), (11, wb7_28), (74, wb7_2)], 108, (.c (.sl 110 0 3 (.n 3))), [(10, wb7_27), (11, wb7_28), (74, wb7_2), (110, wb7_29)], 153⟩) 
theorem w2_6_5o0 : mok [(0, 3, 2), (4, 9, 6)] (lenL 1 5 8 ++ []) wN2 21 w2_6_5m0 = true := by kernel_rfl
def w2_6_5m1 : Memo :=  (⟨[(.ag [(.i .i64 3), (.sl 91 0 15 (.u 4)), (.sl 41 0 3 (.u 1))]), (.c (.sl 74 0 3 (.u 1)))], [(41, wb7_27), (74, wb7_2), (91, wb7_37)], 153, (.c (.sl 155 0 3 (.n 3))), [(41, wb7_27), (74, wb7_2), (91, wb7_37), (155, wb7_29)], 222⟩) 
theorem w2_6_5o1 : mok [(0, 3, 2), (4, 9, 6)] (lenL 1 5 8 ++ []) wN2 21 w2_6_5m1 = true := by kernel_rfl
def w2_6_5m2 : Memo :=  (⟨[(.ag [(.i .i64 3), (.sl 91 0 15 (.u 4)), (.sl 41 0 3 (.u 1))]), (.c (.sl 74 0 3 (.u 1)))], [(41, wb7_30), (74, wb7_2), (91, wb7_37)], 222, (.c (.sl 224 0 3 (.n 3))), [(41, wb7_30), (74, wb7_2), (91, wb7_37), (224, wb7_31)], 291⟩) 
theorem w2_6_5o2 : mok [(0, 3, 2), (4, 9, 6)] (lenL 1 5 8 ++ []) wN2 21 w2_6_5m2 = true := by kernel_rfl
def w2_6_5ms : List (Nat × List Memo) := [(21, [w2_6_5m0, w2_6_5m1, w2_6_5m2])]
theorem w2_6_5mo : AllMem (memRun [(0, 3, 2), (4, 9, 6)] (lenL 1 5 8 ++ []) wN2) w2_6_5ms := ⟨⟨w2_6_5o0, w2_6_5o1, w2_6_5o2, trivial⟩, trivial⟩
theorem w2_6_5 : lawRunM 9 10 200 [.i, .q, .b, .q, .i] [(0, 3, 2), (4, 9, 6)] (lenL 1 5 8 ++ []) wN2 w2_6_5ms = true := by kernel_rfl
def w2_7_5m0 : Memo :=  (⟨[(.ag [(.i .i64 3), (.sl 11 0 9 (.u 4)), (.sl 10 0 3 (.u 1))]), (.c (.sl 74 0 3 (.u 1)))], [(10, wb7_27), (11, wb7_28), (74, wb7_2)], 111, (.c (.sl 113 0 3 (.n 3))), [(10, wb7_27), (11, wb7_28), (74, wb7_2), (113, wb7_29)], 156⟩) 
theorem w2_7_5o0 : mok [(0, 3, 2), (4, 9, 7)] (lenL 1 5 8 ++ []) wN2 21 w2_7_5m0 = true := by kernel_rfl
def w2_7_5m1 : Memo :=  (⟨[(.ag [(.i .i64 3), (.sl 93 0 16 (.u 4)), (.sl 41 0 3 (.u 1))]), (.c (.sl 74 0 3 (.u 1)))], [(41, wb7_27), (74, wb7_2), (93, wb7_38)], 156, (.c (.sl 158 0 3 (.n 3))), [(41, wb7_27), (74, wb7_2), (93, wb7_38), (158, wb7_29)], 229⟩) 
theorem w2_7_5o1 : mok [(0, 3, 2), (4, 9, 7)] (lenL 1 5 8 ++ []) wN2 21 w2_7_5m1 = true := by kernel_rfl
def w2_7_5m2 : Memo :=  (⟨[(.ag [(.i .i64 3), (.sl 93 0 16 (.u 4)), (.sl 41 0 3 (.u 1))]), (.c (.sl 74 0 3 (.u 1)))], [(41, wb7_30), (74, wb7_2), (93, wb7_38)], 229, (.c (.sl 231 0 3 (.n 3))), [(41, wb7_30), (74, wb7_2), (93, wb7_38), (231, wb7_31)], 302⟩) 
theorem w2_7_5o2 : mok [(0, 3, 2), (4, 9, 7)] (lenL 1 5 8 ++ []) wN2 21 w2_7_5m2 = true := by kernel_rfl
def w2_7_5ms : List (Nat × List Memo) := [(21, [w2_7_5m0, w2_7_5m1, w2_7_5m2])]
theorem w2_7_5mo : AllMem (memRun [(0, 3, 2), (4, 9, 7)] (lenL 1 5 8 ++ []) wN2) w2_7_5ms := ⟨⟨w2_7_5o0, w2_7_5o1, w2_7_5o2, trivial⟩, trivial⟩
theorem w2_7_5 : lawRunM 9 10 200 [.i, .q, .b, .q, .i] [(0, 3, 2), (4, 9, 7)] (lenL 1 5 8 ++ []) wN2 w2_7_5ms = true := by kernel_rfl
def w2_8_5m0 : Memo :=  (⟨[(.ag [(.i .i64 3), (.sl 11 0 9 (.u 4)), (.sl 10 0 3 (.u 1))]), (.c (.sl 74 0 3 (.u 1)))], [(10, wb7_27), (11, wb7_28), (74, wb7_2)], 114, (.c (.sl 116 0 3 (.n 3))), [(10, wb7_27), (11, wb7_28), (74, wb7_2), (116, wb7_29)], 159⟩) 
theorem w2_8_5o0 : mok [(0, 3, 2), (4, 9, 8)] (lenL 1 5 8 ++ []) wN2 21 w2_8_5m0 = true := by kernel_rfl
def w2_8_5m1 : Memo :=  (⟨[(.ag [(.i .i64 3), (.sl 95 0 17 (.u 4)), (.sl 41 0 3 (.u 1))]), (.c (.sl 74 0 3 (.u 1)))], [(41, wb7_27), (74, wb7_2), (95, wb7_39)], 159, (.c (.sl 161 0 3 (.n 3))), [(41, wb7_27), (74, wb7_2), (95, wb7_39), (161, wb7_29)], 236⟩) 
theorem w2_8_5o1 : mok [(0, 3, 2), (4, 9, 8)] (lenL 1 5 8 ++ []) wN2 21 w2_8_5m1 = true := by kernel_rfl
def w2_8_5m2 : Memo :=  (⟨[(.ag [(.i .i64 3), (.sl 95 0 17 (.u 4)), (.sl 41 0 3 (.u 1))]), (.c (.sl 74 0 3 (.u 1)))], [(41, wb7_30), (74, wb7_2), (95, wb7_39)], 236, (.c (.sl 238 0 3 (.n 3))), [(41, wb7_30), (74, wb7_2), (95, wb7_39), (238, wb7_31)], 313⟩) 
theorem w2_8_5o2 : mok [(0, 3, 2), (4, 9, 8)] (lenL 1 5 8 ++ []) wN2 21 w2_8_5m2 = true := by kernel_rfl
def w2_8_5ms : List (Nat × List Memo) := [(21, [w2_8_5m0, w2_8_5m1, w2_8_5m2])]
theorem w2_8_5mo : AllMem (memRun [(0, 3, 2), (4, 9, 8)] (lenL 1 5 8 ++ []) wN2) w2_8_5ms := ⟨⟨w2_8_5o0, w2_8_5o1, w2_8_5o2, trivial⟩, trivial⟩
theorem w2_8_5 : lawRunM 9 10 200 [.i, .q, .b, .q, .i] [(0, 3, 2), (4, 9, 8)] (lenL 1 5 8 ++ []) wN2 w2_8_5ms = true := by kernel_rfl
end Go.Proofs.Yticbgaflhiokgaa
