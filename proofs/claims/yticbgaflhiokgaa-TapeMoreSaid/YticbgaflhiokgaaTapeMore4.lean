/-
  'TapeMore': runs of it, part 4.
-/
import Derived.Test.YticbgaflhiokgaaTapeMoret1
namespace Go.Proofs.Yticbgaflhiokgaa
open Go.RowKit Ex
set_option maxRecDepth 1000000
set_option maxHeartbeats 100000000
def wm4_0 : E := (.ib .quo .i64 (.vi 0) (.li 3))
def wm4_1 : E := (.ai 9 0 (.ci (.ib .add .i64 wm4_0 (.li 0)) (.ci (.li 3) .n0)))
def wm4_2 : E := (.ai 9 0 (.ci (.ib .add .i64 wm4_0 (.li 1)) (.ci (.li 3) .n0)))
def wm4_3 : E := (.ic .eql (.ai 9 0 (.ci (.at 1 0) (.ci (.li 11) .n0))) (.li 0))
def wm4_4 : E := (.ib .add .i64 (.li 2) (.ai 9 0 (.ci (.at 1 0) (.ci (.li 3) .n0))))
def wm4_5 : E := (.ic .eql (.ai 9 0 (.ci (.at 1 1) (.ci (.li 11) .n0))) (.li 0))
def wm4_6 : E := (.ib .add .i64 (.li 2) (.ai 9 0 (.ci (.at 1 1) (.ci (.li 3) .n0))))
def wm4_7 : E := (.ic .eql (.ai 9 0 (.ci (.at 1 2) (.ci (.li 11) .n0))) (.li 0))
def wm4_8 : E := (.ib .add .i64 (.li 2) (.ai 9 0 (.ci (.at 1 2) (.ci (.li 3) .n0))))
def wm4_9 : E := (.ib .quo .i64 (.vi 4) (.li 9))
def wm4_10 : E := (.ic .eql (.ai 9 0 (.ci (.at 1 3) (.ci (.li 11) .n0))) (.li 0))
def wm4_11 : E := (.ib .add .i64 (.li 2) (.ai 9 0 (.ci (.at 1 3) (.ci (.li 3) .n0))))
def wm4_12 : E := (.ic .eql (.ai 9 0 (.ci (.at 1 4) (.ci (.li 11) .n0))) (.li 0))
def wm4_13 : E := (.ib .add .i64 (.li 2) (.ai 9 0 (.ci (.at 1 4) (.ci (.li 3) .n0))))
def wk4_0 : Blk := [(.i .i64 1), (.i .i64 0), (.i .i64 0), (.f 0)]
def wk4_1 : Blk := [(.i .i64 1), (.i .i64 1), (.i .i64 0), (.f 0)]
def wk4_2 : Blk := [(.i .i64 0), (.i .i64 0), (.i .i64 0), (.ef (.fb .quo (.i2f (.ib .sub .i64 (.ai 9 0 (.ci (.vi 0) (.ci (.li 17) .n0))) (.li 8))) (.lf 4616189618054758400)))]
def wk4_3 : Blk := [(.ei .i64 (.ti wm4_3 (.li 0) (.ti (.vb 2) (.ti (.ic .eql (.ai 9 0 (.ci (.at 1 0) (.ci (.li 7) .n0))) (.li 0)) (.li 5) wm4_4) wm4_4))), (.ei .i64 (.ti wm4_3 (.li 0) (.ai 9 0 (.ci (.ib .quo .i64 (.at 1 0) (.li 4)) (.ci (.li 3) .n0))))), (.ei .i64 (.ti wm4_3 (.li 0) (.ai 9 0 (.ci (.ib .quo .i64 (.at 1 0) (.li 40)) (.ci (.li 3) .n0))))), (.ef (.tf wm4_3 (.fb .quo (.i2f (.ib .sub .i64 (.ai 9 0 (.ci (.ib .quo .i64 (.at 1 0) (.li 11)) (.ci (.li 33) .n0))) (.li 16))) (.lf 4620693217682128896)) (.lf 0)))]
def wk4_4 : Blk := [(.ei .i64 (.ti wm4_5 (.li 0) (.ti (.vb 2) (.ti (.ic .eql (.ai 9 0 (.ci (.at 1 1) (.ci (.li 7) .n0))) (.li 0)) (.li 5) wm4_6) wm4_6))), (.ei .i64 (.ti wm4_5 (.li 0) (.ai 9 0 (.ci (.ib .quo .i64 (.at 1 1) (.li 4)) (.ci (.li 4) .n0))))), (.ei .i64 (.ti wm4_5 (.li 0) (.ai 9 0 (.ci (.ib .quo .i64 (.at 1 1) (.li 40)) (.ci (.li 4) .n0))))), (.ef (.tf wm4_5 (.fb .quo (.i2f (.ib .sub .i64 (.ai 9 0 (.ci (.ib .quo .i64 (.at 1 1) (.li 11)) (.ci (.li 33) .n0))) (.li 16))) (.lf 4620693217682128896)) (.lf 0)))]
def wk4_5 : Blk := [(.ei .i64 (.ti wm4_7 (.li 0) (.ti (.vb 2) (.ti (.ic .eql (.ai 9 0 (.ci (.at 1 2) (.ci (.li 7) .n0))) (.li 0)) (.li 5) wm4_8) wm4_8))), (.ei .i64 (.ti wm4_7 (.li 0) (.ai 9 0 (.ci (.ib .quo .i64 (.at 1 2) (.li 4)) (.ci (.li 5) .n0))))), (.ei .i64 (.ti wm4_7 (.li 0) (.ai 9 0 (.ci (.ib .quo .i64 (.at 1 2) (.li 40)) (.ci (.li 5) .n0))))), (.ef (.tf wm4_7 (.fb .quo (.i2f (.ib .sub .i64 (.ai 9 0 (.ci (.ib .quo .i64 (.at 1 2) (.li 11)) (.ci (.li 33) .n0))) (.li 16))) (.lf 4620693217682128896)) (.lf 0)))]
def wk4_6 : Blk := [(.i .i64 4), (.ei .i64 (.ai 9 0 (.ci (.vi 4) (.ci (.li 6) .n0)))), (.ei .i64 (.ai 9 0 (.ci wm4_9 (.ci (.li 6) .n0)))), (.f 0)]
def wk4_7 : Blk := [(.i .i64 4), (.ei .i64 (.ai 9 0 (.ci (.vi 4) (.ci (.li 7) .n0)))), (.ei .i64 (.ai 9 0 (.ci wm4_9 (.ci (.li 7) .n0)))), (.f 0)]
def wk4_8 : Blk := [(.i .i64 4), (.ei .i64 (.ai 9 0 (.ci (.vi 4) (.ci (.li 8) .n0)))), (.ei .i64 (.ai 9 0 (.ci wm4_9 (.ci (.li 8) .n0)))), (.f 0)]
def wk4_9 : Blk := [(.i .i64 4), (.i .i64 4), (.ei .i64 (.ai 9 0 (.ci wm4_9 (.ci (.li 9) .n0)))), (.f 0)]
def wk4_10 : Blk := [(.i .i64 4), (.i .i64 5), (.ei .i64 (.ai 9 0 (.ci wm4_9 (.ci (.li 9) .n0)))), (.f 0)]
def wk4_11 : Blk := [(.i .i64 4), (.ei .i64 (.ai 9 0 (.ci (.vi 4) (.ci (.li 10) .n0)))), (.ei .i64 (.ai 9 0 (.ci wm4_9 (.ci (.li 10) .n0)))), (.f 0)]
def wk4_12 : Blk := [(.i .i64 4), (.i .i64 6), (.ei .i64 (.ai 9 0 (.ci wm4_9 (.ci (.li 9) .n0)))), (.f 0)]
def wk4_13 : Blk := [(.i .i64 4), (.ei .i64 (.ai 9 0 (.ci (.vi 4) (.ci (.li 11) .n0)))), (.ei .i64 (.ai 9 0 (.ci wm4_9 (.ci (.li 11) .n0)))), (.f 0)]
def wk4_14 : Blk := [(.i .i64 4), (.i .i64 7), (.ei .i64 (.ai 9 0 (.ci wm4_9 (.ci (.li 9) .n0)))), (.f 0)]
def wk4_15 : Blk := [(.i .i64 4), (.ei .i64 (.ai 9 0 (.ci (.vi 4) (.ci (.li 12) .n0)))), (.ei .i64 (.ai 9 0 (.ci wm4_9 (.ci (.li 12) .n0)))), (.f 0)]
def wk4_16 : Blk := [(.i .i64 4), (.i .i64 8), (.ei .i64 (.ai 9 0 (.ci wm4_9 (.ci (.li 9) .n0)))), (.f 0)]
def wk4_17 : Blk := [(.i .i64 4), (.ei .i64 (.ai 9 0 (.ci (.vi 4) (.ci (.li 13) .n0)))), (.ei .i64 (.ai 9 0 (.ci wm4_9 (.ci (.li 13) .n0)))), (.f 0)]
def wk4_18 : Blk := [(.ei .i64 (.ti wm4_10 (.li 0) (.ti (.vb 2) (.ti (.ic .eql (.ai 9 0 (.ci (.at 1 3) (.ci (.li 7) .n0))) (.li 0)) (.li 5) wm4_11) wm4_11))), (.ei .i64 (.ti wm4_10 (.li 0) (.ai 9 0 (.ci (.ib .quo .i64 (.at 1 3) (.li 4)) (.ci (.li 6) .n0))))), (.ei .i64 (.ti wm4_10 (.li 0) (.ai 9 0 (.ci (.ib .quo .i64 (.at 1 3) (.li 40)) (.ci (.li 6) .n0))))), (.ef (.tf wm4_10 (.fb .quo (.i2f (.ib .sub .i64 (.ai 9 0 (.ci (.ib .quo .i64 (.at 1 3) (.li 11)) (.ci (.li 33) .n0))) (.li 16))) (.lf 4620693217682128896)) (.lf 0)))]
def wk4_19 : Blk := [(.i .i64 4), (.i .i64 3), (.ei .i64 (.ai 9 0 (.ci wm4_9 (.ci (.li 9) .n0)))), (.f 0)]
def wk4_20 : Blk := [(.i .i64 4), (.ei .i64 (.ai 9 0 (.ci (.vi 4) (.ci (.li 14) .n0)))), (.ei .i64 (.ai 9 0 (.ci wm4_9 (.ci (.li 14) .n0)))), (.f 0)]
def wk4_21 : Blk := [(.ei .i64 (.ti wm4_12 (.li 0) (.ti (.vb 2) (.ti (.ic .eql (.ai 9 0 (.ci (.at 1 4) (.ci (.li 7) .n0))) (.li 0)) (.li 5) wm4_13) wm4_13))), (.ei .i64 (.ti wm4_12 (.li 0) (.ai 9 0 (.ci (.ib .quo .i64 (.at 1 4) (.li 4)) (.ci (.li 7) .n0))))), (.ei .i64 (.ti wm4_12 (.li 0) (.ai 9 0 (.ci (.ib .quo .i64 (.at 1 4) (.li 40)) (.ci (.li 7) .n0))))), (.ef (.tf wm4_12 (.fb .quo (.i2f (.ib .sub .i64 (.ai 9 0 (.ci (.ib .quo .i64 (.at 1 4) (.li 11)) (.ci (.li 33) .n0))) (.li 16))) (.lf 4620693217682128896)) (.lf 0)))]
def wb4_0 : Blk := [(.ei .i64 (.ib .sub .i64 (.li 5) wm4_1)), (.ei .i64 (.ib .sub .i64 (.li 5) wm4_2))]
def wb4_1 : Blk := wk4_0 ++ wk4_1 ++ wk4_2 ++ wk4_3 ++ wk4_4 ++ wk4_5
def wb4_2 : Blk := [(.ef (.fb .quo (.i2f (.ib .sub .i64 (.ai 9 0 (.ci (.ti (.ic .lss (.li 0) (.vl 3)) (.at 3 0) (.li 0)) (.ci (.li 65) .n0))) (.li 32))) (.lf 4620693217682128896))), (.ef (.fb .quo (.i2f (.ib .sub .i64 (.ai 9 0 (.ci (.ti (.ic .lss (.li 1) (.vl 3)) (.at 3 1) (.li 1)) (.ci (.li 65) .n0))) (.li 32))) (.lf 4620693217682128896)))]
def wb4_3 : Blk := [(.ef (.vf 158)), (.ef (.vf 159))]
def wb4_4 : Blk := [(.ei .i64 (.ib .sub .i64 (.li 5) wm4_2)), (.ei .i64 (.ib .sub .i64 (.li 5) wm4_2))]
def wb4_5 : Blk := [(.ef (.vf 159)), (.ef (.vf 159))]
def wb4_6 : Blk := wk4_0 ++ wk4_1 ++ wk4_2 ++ wk4_3 ++ wk4_4 ++ wk4_5 ++ wk4_6
def wb4_7 : Blk := wk4_0 ++ wk4_1 ++ wk4_2 ++ wk4_3 ++ wk4_4 ++ wk4_5 ++ wk4_6 ++ wk4_7
def wb4_8 : Blk := wk4_0 ++ wk4_1 ++ wk4_2 ++ wk4_3 ++ wk4_4 ++ wk4_5 ++ wk4_6 ++ wk4_7 ++ wk4_8
def wb4_9 : Blk := wk4_0 ++ wk4_1 ++ wk4_2 ++ wk4_3 ++ wk4_4 ++ wk4_5 ++ wk4_6 ++ wk4_7 ++ wk4_8 ++ wk4_9
def wb4_10 : Blk := wk4_0 ++ wk4_1 ++ wk4_2 ++ wk4_3 ++ wk4_4 ++ wk4_5 ++ wk4_6 ++ wk4_7 ++ wk4_8 ++ wk4_10 ++ wk4_11
def wb4_11 : Blk := wk4_0 ++ wk4_1 ++ wk4_2 ++ wk4_3 ++ wk4_4 ++ wk4_5 ++ wk4_6 ++ wk4_7 ++ wk4_8 ++ wk4_12 ++ wk4_11 ++ wk4_13
def wb4_12 : Blk := wk4_0 ++ wk4_1 ++ wk4_2 ++ wk4_3 ++ wk4_4 ++ wk4_5 ++ wk4_6 ++ wk4_7 ++ wk4_8 ++ wk4_14 ++ wk4_11 ++ wk4_13 ++ wk4_15
def wb4_13 : Blk := wk4_0 ++ wk4_1 ++ wk4_2 ++ wk4_3 ++ wk4_4 ++ wk4_5 ++ wk4_6 ++ wk4_7 ++ wk4_8 ++ wk4_16 ++ wk4_11 ++ wk4_13 ++ wk4_15 ++ wk4_17
def wb4_14 : Blk := [(.ei .i64 (.ib .sub .i64 (.li 6) wm4_1)), (.ei .i64 (.ib .sub .i64 (.li 6) wm4_2))]
def wb4_15 : Blk := wk4_0 ++ wk4_1 ++ wk4_2 ++ wk4_3 ++ wk4_4 ++ wk4_5 ++ wk4_18
def wb4_16 : Blk := [(.ef (.vf 156)), (.ef (.vf 157))]
def wb4_17 : Blk := [(.ei .i64 (.ib .sub .i64 (.li 6) wm4_2)), (.ei .i64 (.ib .sub .i64 (.li 6) wm4_2))]
def wb4_18 : Blk := [(.ef (.vf 157)), (.ef (.vf 157))]
def wb4_19 : Blk := wk4_0 ++ wk4_1 ++ wk4_2 ++ wk4_3 ++ wk4_4 ++ wk4_5 ++ wk4_18 ++ wk4_7
def wb4_20 : Blk := wk4_0 ++ wk4_1 ++ wk4_2 ++ wk4_3 ++ wk4_4 ++ wk4_5 ++ wk4_18 ++ wk4_7 ++ wk4_8
def wb4_21 : Blk := wk4_0 ++ wk4_1 ++ wk4_2 ++ wk4_3 ++ wk4_4 ++ wk4_5 ++ wk4_18 ++ wk4_7 ++ wk4_8 ++ wk4_19
def wb4_22 : Blk := wk4_0 ++ wk4_1 ++ wk4_2 ++ wk4_3 ++ wk4_4 ++ wk4_5 ++ wk4_18 ++ wk4_7 ++ wk4_8 ++ wk4_9 ++ wk4_11
def wb4_23 : Blk := wk4_0 ++ wk4_1 ++ wk4_2 ++ wk4_3 ++ wk4_4 ++ wk4_5 ++ wk4_18 ++ wk4_7 ++ wk4_8 ++ wk4_10 ++ wk4_11 ++ wk4_13
def wb4_24 : Blk := wk4_0 ++ wk4_1 ++ wk4_2 ++ wk4_3 ++ wk4_4 ++ wk4_5 ++ wk4_18 ++ wk4_7 ++ wk4_8 ++ wk4_12 ++ wk4_11 ++ wk4_13 ++ wk4_15
def wb4_25 : Blk := wk4_0 ++ wk4_1 ++ wk4_2 ++ wk4_3 ++ wk4_4 ++ wk4_5 ++ wk4_18 ++ wk4_7 ++ wk4_8 ++ wk4_14 ++ wk4_11 ++ wk4_13 ++ wk4_15 ++ wk4_17
def wb4_26 : Blk := wk4_0 ++ wk4_1 ++ wk4_2 ++ wk4_3 ++ wk4_4 ++ wk4_5 ++ wk4_18 ++ wk4_7 ++ wk4_8 ++ wk4_16 ++ wk4_11 ++ wk4_13 ++ wk4_15 ++ wk4_17 ++ wk4_20
def wb4_27 : Blk := [(.ei .i64 (.ib .sub .i64 (.li 7) wm4_1)), (.ei .i64 (.ib .sub .i64 (.li 7) wm4_2))]
def wb4_28 : Blk := wk4_0 ++ wk4_1 ++ wk4_2 ++ wk4_3 ++ wk4_4 ++ wk4_5 ++ wk4_18 ++ wk4_21
def wb4_29 : Blk := [(.ef (.vf 154)), (.ef (.vf 155))]
def wb4_30 : Blk := [(.ei .i64 (.ib .sub .i64 (.li 7) wm4_2)), (.ei .i64 (.ib .sub .i64 (.li 7) wm4_2))]
def wb4_31 : Blk := [(.ef (.vf 155)), (.ef (.vf 155))]
def wb4_32 : Blk := wk4_0 ++ wk4_1 ++ wk4_2 ++ wk4_3 ++ wk4_4 ++ wk4_5 ++ wk4_18 ++ wk4_21 ++ wk4_8
def wb4_33 : Blk := wk4_0 ++ wk4_1 ++ wk4_2 ++ wk4_3 ++ wk4_4 ++ wk4_5 ++ wk4_18 ++ wk4_21 ++ wk4_8 ++ [(.i .i64 4), (.i .i64 2), (.ei .i64 (.ai 9 0 (.ci wm4_9 (.ci (.li 9) .n0)))), (.f 0)]
def wb4_34 : Blk := wk4_0 ++ wk4_1 ++ wk4_2 ++ wk4_3 ++ wk4_4 ++ wk4_5 ++ wk4_18 ++ wk4_21 ++ wk4_8 ++ wk4_19 ++ wk4_11
def wb4_35 : Blk := wk4_0 ++ wk4_1 ++ wk4_2 ++ wk4_3 ++ wk4_4 ++ wk4_5 ++ wk4_18 ++ wk4_21 ++ wk4_8 ++ wk4_9 ++ wk4_11 ++ wk4_13
def wb4_36 : Blk := wk4_0 ++ wk4_1 ++ wk4_2 ++ wk4_3 ++ wk4_4 ++ wk4_5 ++ wk4_18 ++ wk4_21 ++ wk4_8 ++ wk4_10 ++ wk4_11 ++ wk4_13 ++ wk4_15
def wb4_37 : Blk := wk4_0 ++ wk4_1 ++ wk4_2 ++ wk4_3 ++ wk4_4 ++ wk4_5 ++ wk4_18 ++ wk4_21 ++ wk4_8 ++ wk4_12 ++ wk4_11 ++ wk4_13 ++ wk4_15 ++ wk4_17
def wb4_38 : Blk := wk4_0 ++ wk4_1 ++ wk4_2 ++ wk4_3 ++ wk4_4 ++ wk4_5 ++ wk4_18 ++ wk4_21 ++ wk4_8 ++ wk4_14 ++ wk4_11 ++ wk4_13 ++ wk4_15 ++ wk4_17 ++ wk4_20
def wb4_39 : Blk := wk4_0 ++ wk4_1 ++ wk4_2 ++ wk4_3 ++ wk4_4 ++ wk4_5 ++ wk4_18 ++ wk4_21 ++ wk4_8 ++ wk4_16 ++ wk4_11 ++ wk4_13 ++ wk4_15 ++ wk4_17 ++ wk4_20 ++ [(.i .i64 4), (.ei .i64 (.ai 9 0 (.ci (.vi 4) (.ci (.li 15) .n0)))), (.ei .i64 (.ai 9 0 (.ci wm4_9 (.ci (.li 15) .n0)))), (.f 0)]
def w1_0_3m0 : Memo :=  (⟨[(.ag [(.i .i64 2), (.sl 11 0 6 (.u 4)), (.sl 10 0 2 (.u 1))]), (.c (.sl 54 0 2 (.u 1)))], [(10, wb4_0), (11, wb4_1), (54, wb4_2)], 65, (.c (.sl 67 0 2 (.n 2))), [(10, wb4_0), (11, wb4_1), (54, wb4_2), (67, wb4_3)], 98⟩) 
theorem w1_0_3o0 : mok [(0, 3, 1), (4, 9, 0)] (lenL 1 3 8 ++ []) wN1 21 w1_0_3m0 = true := by kernel_rfl
def w1_0_3m1 : Memo :=  (⟨[(.ag [(.i .i64 2), (.sl 32 0 6 (.u 4)), (.sl 31 0 2 (.u 1))]), (.c (.sl 54 0 2 (.u 1)))], [(31, wb4_0), (32, wb4_1), (54, wb4_2)], 98, (.c (.sl 100 0 2 (.n 2))), [(31, wb4_0), (32, wb4_1), (54, wb4_2), (100, wb4_3)], 131⟩) 
theorem w1_0_3o1 : mok [(0, 3, 1), (4, 9, 0)] (lenL 1 3 8 ++ []) wN1 21 w1_0_3m1 = true := by kernel_rfl
def w1_0_3m2 : Memo :=  (⟨[(.ag [(.i .i64 2), (.sl 32 0 6 (.u 4)), (.sl 31 0 2 (.u 1))]), (.c (.sl 54 0 2 (.u 1)))], [(31, wb4_4), (32, wb4_1), (54, wb4_2)], 131, (.c (.sl 133 0 2 (.n 2))), [(31, wb4_4), (32, wb4_1), (54, wb4_2), (133, wb4_5)], 164⟩) 
theorem w1_0_3o2 : mok [(0, 3, 1), (4, 9, 0)] (lenL 1 3 8 ++ []) wN1 21 w1_0_3m2 = true := by kernel_rfl
def w1_0_3ms : List (Nat × List Memo) := [(21, [w1_0_3m0, w1_0_3m1, w1_0_3m2])]
theorem w1_0_3mo : AllMem (memRun [(0, 3, 1), (4, 9, 0)] (lenL 1 3 8 ++ []) wN1) w1_0_3ms := ⟨⟨w1_0_3o0, w1_0_3o1, w1_0_3o2, trivial⟩, trivial⟩
theorem w1_0_3 : lawRunM 9 10 200 [.i, .q, .b, .q, .i] [(0, 3, 1), (4, 9, 0)] (lenL 1 3 8 ++ []) wN1 w1_0_3ms = true := by kernel_rfl
def w1_1_3m0 : Memo :=  (⟨[(.ag [(.i .i64 2), (.sl 11 0 6 (.u 4)), (.sl 10 0 2 (.u 1))]), (.c (.sl 54 0 2 (.u 1)))], [(10, wb4_0), (11, wb4_1), (54, wb4_2)], 68, (.c (.sl 70 0 2 (.n 2))), [(10, wb4_0), (11, wb4_1), (54, wb4_2), (70, wb4_3)], 101⟩) 
theorem w1_1_3o0 : mok [(0, 3, 1), (4, 9, 1)] (lenL 1 3 8 ++ []) wN1 21 w1_1_3m0 = true := by kernel_rfl
def w1_1_3m1 : Memo :=  (⟨[(.ag [(.i .i64 2), (.sl 59 0 7 (.u 4)), (.sl 31 0 2 (.u 1))]), (.c (.sl 54 0 2 (.u 1)))], [(31, wb4_0), (54, wb4_2), (59, wb4_6)], 101, (.c (.sl 103 0 2 (.n 2))), [(31, wb4_0), (54, wb4_2), (59, wb4_6), (103, wb4_3)], 138⟩) 
theorem w1_1_3o1 : mok [(0, 3, 1), (4, 9, 1)] (lenL 1 3 8 ++ []) wN1 21 w1_1_3m1 = true := by kernel_rfl
def w1_1_3m2 : Memo :=  (⟨[(.ag [(.i .i64 2), (.sl 59 0 7 (.u 4)), (.sl 31 0 2 (.u 1))]), (.c (.sl 54 0 2 (.u 1)))], [(31, wb4_4), (54, wb4_2), (59, wb4_6)], 138, (.c (.sl 140 0 2 (.n 2))), [(31, wb4_4), (54, wb4_2), (59, wb4_6), (140, wb4_5)], 175⟩) 
theorem w1_1_3o2 : mok [(0, 3, 1), (4, 9, 1)] (lenL 1 3 8 ++ []) wN1 21 w1_1_3m2 = true := by kernel_rfl
def w1_1_3ms : List (Nat × List Memo) := [(21, [w1_1_3m0, w1_1_3m1, w1_1_3m2])]
theorem w1_1_3mo : AllMem (memRun [(0, 3, 1), (4, 9, 1)] (lenL 1 3 8 ++ []) wN1) w1_1_3ms := ⟨⟨w1_1_3o0, w1_1_3o1, w1_1_3o2, trivial⟩, trivial⟩
theorem w1_1_3 : lawRunM 9 10 200 [.i, .q, .b, .q, .i] [(0, 3, 1), (4, 9, 1)] (lenL 1 3 8 ++ []) wN1 w1_1_3ms = true := by kernel_rfl
def w1_2_3m0 : Memo :=  (⟨[(.ag [(.i .i64 2), (.sl 11 0 6 (.u 4)), (.sl 10 0 2 (.u 1))]), (.c (.sl 54 0 2 (.u 1)))], [(10, wb4_0), (11, wb4_1), (54, wb4_2)], 71, (.c (.sl 73 0 2 (.n 2))), [(10, wb4_0), (11, wb4_1), (54, wb4_2), (73, wb4_3)], 104⟩) 
theorem w1_2_3o0 : mok [(0, 3, 1), (4, 9, 2)] (lenL 1 3 8 ++ []) wN1 21 w1_2_3m0 = true := by kernel_rfl
def w1_2_3m1 : Memo :=  (⟨[(.ag [(.i .i64 2), (.sl 61 0 8 (.u 4)), (.sl 31 0 2 (.u 1))]), (.c (.sl 54 0 2 (.u 1)))], [(31, wb4_0), (54, wb4_2), (61, wb4_7)], 104, (.c (.sl 106 0 2 (.n 2))), [(31, wb4_0), (54, wb4_2), (61, wb4_7), (106, wb4_3)], 145⟩) 
theorem w1_2_3o1 : mok [(0, 3, 1), (4, 9, 2)] (lenL 1 3 8 ++ []) wN1 21 w1_2_3m1 = true := by kernel_rfl
def w1_2_3m2 : Memo :=  (⟨[(.ag [(.i .i64 2), (.sl 61 0 8 (.u 4)), (.sl 31 0 2 (.u 1))]), (.c (.sl 54 0 2 (.u 1)))], [(31, wb4_4), (54, wb4_2), (61, wb4_7)], 145, (.c (.sl 147 0 2 (.n 2))), [(31, wb4_4), (54, wb4_2), (61, wb4_7), (147, wb4_5)], 186⟩) 
theorem w1_2_3o2 : mok [(0, 3, 1), (4, 9, 2)] (lenL 1 3 8 ++ []) wN1 21 w1_2_3m2 = true := by kernel_rfl
def w1_2_3ms : List (Nat × List Memo) := [(21, [w1_2_3m0, w1_2_3m1, w1_2_3m2])]
theorem w1_2_3mo : AllMem (memRun [(0, 3, 1), (4, 9, 2)] (lenL 1 3 8 ++ []) wN1) w1_2_3ms := ⟨⟨w1_2_3o0, w1_2_3o1, w1_2_3o2, trivial⟩, trivial⟩
theorem w1_2_3 : lawRunM 9 10 200 [.i, .q, .b, .q, .i] [(0, 3, 1), (4, 9, 2)] (lenL 1 3 8 ++ []) wN1 w1_2_3ms = true := by kernel_rfl
def w1_3_3m0 : Memo :=  (⟨[(.ag [(.i .i64 2), (.sl 11 0 6 (.u 4)), (.sl 10 0 2 (.u 1))]), (.c (.sl 54 0 2 (.u 1)))], [(10, wb4_0), (11, wb4_1), (54, wb4_2)], 74, (.c (.sl 76 0 2 (.n 2))), [(10, wb4_0), (11, wb4_1), (54, wb4_2), (76, wb4_3)], 107⟩) 
theorem w1_3_3o0 : mok [(0, 3, 1), (4, 9, 3)] (lenL 1 3 8 ++ []) wN1 21 w1_3_3m0 = true := by kernel_rfl
def w1_3_3m1 : Memo :=  (⟨[(.ag [(.i .i64 2), (.sl 63 0 9 (.u 4)), (.sl 31 0 2 (.u 1))]), (.c (.sl 54 0 2 (.u 1)))], [(31, wb4_0), (54, wb4_2), (63, wb4_8)], 107, (.c (.sl 109 0 2 (.n 2))), [(31, wb4_0), (54, wb4_2), (63, wb4_8), (109, wb4_3)], 152⟩) 
theorem w1_3_3o1 : mok [(0, 3, 1), (4, 9, 3)] (lenL 1 3 8 ++ []) wN1 21 w1_3_3m1 = true := by kernel_rfl
def w1_3_3m2 : Memo :=  (⟨[(.ag [(.i .i64 2), (.sl 63 0 9 (.u 4)), (.sl 31 0 2 (.u 1))]), (.c (.sl 54 0 2 (.u 1)))], [(31, wb4_4), (54, wb4_2), (63, wb4_8)], 152, (.c (.sl 154 0 2 (.n 2))), [(31, wb4_4), (54, wb4_2), (63, wb4_8), (154, wb4_5)], 197⟩) 
theorem w1_3_3o2 : mok [(0, 3, 1), (4, 9, 3)] (lenL 1 3 8 ++ []) wN1 21 w1_3_3m2 = true := by kernel_rfl
def w1_3_3ms : List (Nat × List Memo) := [(21, [w1_3_3m0, w1_3_3m1, w1_3_3m2])]
theorem w1_3_3mo : AllMem (memRun [(0, 3, 1), (4, 9, 3)] (lenL 1 3 8 ++ []) wN1) w1_3_3ms := ⟨⟨w1_3_3o0, w1_3_3o1, w1_3_3o2, trivial⟩, trivial⟩
theorem w1_3_3 : lawRunM 9 10 200 [.i, .q, .b, .q, .i] [(0, 3, 1), (4, 9, 3)] (lenL 1 3 8 ++ []) wN1 w1_3_3ms = true := by kernel_rfl
def w1_4_3m0 : Memo :=  (⟨[(.ag [(.i .i64 2), (.sl 11 0 6 (.u 4)), (.sl 10 0 2 (.u 1))]), (.c (.sl 54 0 2 (.u 1)))], [(10, wb4_0), (11, wb4_1), (54, wb4_2)], 77, (.c (.sl 79 0 2 (.n 2))), [(10, wb4_0), (11, wb4_1), (54, wb4_2), (79, wb4_3)], 110⟩) 
theorem w1_4_3o0 : mok [(0, 3, 1), (4, 9, 4)] (lenL 1 3 8 ++ []) wN1 21 w1_4_3m0 = true := by kernel_rfl
def w1_4_3m1 : Memo :=  (⟨[(.ag [(.i .i64 2), (.sl 65 0 10 (.u 4)), (.sl 31 0 2 (.u 1))]), (.c (.sl 54 0 2 (.u 1)))], [(31, wb4_0), (54, wb4_2), (65, wb4_9)], 110, (.c (.sl 112 0 2 (.n 2))), [(31, wb4_0), (54, wb4_2), (65, wb4_9), (112, wb4_3)], 159⟩) 
theorem w1_4_3o1 : mok [(0, 3, 1), (4, 9, 4)] (lenL 1 3 8 ++ []) wN1 21 w1_4_3m1 = true := by kernel_rfl
def w1_4_3m2 : Memo :=  (⟨[(.ag [(.i .i64 2), (.sl 65 0 10 (.u 4)), (.sl 31 0 2 (.u 1))]), (.c (.sl 54 0 2 (.u 1)))], [(31, wb4_4), (54, wb4_2), (65, wb4_9)], 159, (.c (.sl 161 0 2 (.n 2))), [(31, wb4_4), (54, wb4_2), (65, wb4_9), (161, wb4_5)], 208⟩) 
theorem w1_4_3o2 : mok [(0, 3, 1), (4, 9, 4)] (lenL 1 3 8 ++ []) wN1 21 w1_4_3m2 = true := by kernel_rfl
def w1_4_3ms : List (Nat × List Memo) := [(21, [w1_4_3m0, w1_4_3m1, w1_4_3m2])]
theorem w1_4_3mo : AllMem (memRun [(0, 3, 1), (4, 9, 4)] (lenL 1 3 8 ++ []) wN1) w1_4_3ms := ⟨⟨w1_4_3o0, w1_4_3o1, w1_4_3o2, trivial⟩, trivial⟩
theorem w1_4_3 : lawRunM 9 10 200 [.i, .q, .b, .q, .i] [(0, 3, 1), (4, 9, 4)] (lenL 1 3 8 ++ []) wN1 w1_4_3ms = true := by kernel_rfl
def w1_5_3m0 : Memo :=  (⟨[(.ag [(.i .i64 2), (.sl 11 0 6 (.u 4)), (.sl 10 0 2 (.u 1))]), (.c (.sl 54 0 2 (.u 1)))], [(10, wb4_0), (11, wb4_1), (54, wb4_2)], 80, (.c (.sl 82 0 2 (.n 2))), [(10, wb4_0), (11, wb4_1), (54, wb4_2), (82, wb4_3)], 113⟩) 
theorem w1_5_3o0 : mok [(0, 3, 1), (4, 9, 5)] (lenL 1 3 8 ++ []) wN1 21 w1_5_3m0 = true := by kernel_rfl
def w1_5_3m1 : Memo :=  (⟨[(.ag [(.i .i64 2), (.sl 67 0 11 (.u 4)), (.sl 31 0 2 (.u 1))]), (.c (.sl 54 0 2 (.u 1)))], [(31, wb4_0), (54, wb4_2), (67, wb4_10)], 113, (.c (.sl 115 0 2 (.n 2))), [(31, wb4_0), (54, wb4_2), (67, wb4_10), (115, wb4_3)], 166⟩) 
theorem w1_5_3o1 : mok [(0, 3, 1), (4, 9, 5)] (lenL 1 3 8 ++ []) wN1 21 w1_5_3m1 = true := by kernel_rfl
def w1_5_3m2 : Memo :=  (⟨[(.ag [(.i .i64 2), (.sl 67 0 11 (.u 4)), (.sl 31 0 2 (.u 1))]), (.c (.sl 54 0 2 (.u 1)))], [(31, wb4_4), (54, wb4_2), (67, wb4_10)], 166, (.c (.sl 168 0 2 (.n 2))), [(31, wb4_4), (54, wb4_2), (67, wb4_10), (168, wb4_5)], 219⟩) 
theorem w1_5_3o2 : mok [(0, 3, 1), (4, 9, 5)] (lenL 1 3 8 ++ []) wN1 21 w1_5_3m2 = true := by kernel_rfl
def w1_5_3ms : List (Nat × List Memo) := [(21, [w1_5_3m0, w1_5_3m1, w1_5_3m2])]
theorem w1_5_3mo : AllMem (memRun [(0, 3, 1), (4, 9, 5)] (lenL 1 3 8 ++ []) wN1) w1_5_3ms := ⟨⟨w1_5_3o0, w1_5_3o1, w1_5_3o2, trivial⟩, trivial⟩
theorem w1_5_3 : lawRunM 9 10 200 [.i, .q, .b, .q, .i] [(0, 3, 1), (4, 9, 5)] (lenL 1 3 8 ++ []) wN1 w1_5_3ms = true := by kernel_rfl
def w1_6_3m0 : Memo :=  (⟨[(.ag [(.i .i64 2), (.sl 11 0 6 (.u 4)), (.sl 10 0 2 (.u 1))]), (.c (.sl 54 0 2 (.u 1)))], [(10, wb4_0), (11, wb4_1), (54, wb4_2)], 83, (.c (.sl 85 0 2 (.n 2))), [(10, wb4_0), (11, wb4_1), (54, wb4_2), (85, wb4_3)], 116⟩) 
theorem w1_6_3o0 : mok [(0, 3, 1), (4, 9, 6)] (lenL 1 3 8 ++ []) wN1 21 w1_6_3m0 = true := by kernel_rfl
def w1_6_3m1 : Memo :=  (⟨[(.ag [(.i .i64 2), (.sl 69 0 12 (.u 4)), (.sl 31 0 2 (.u 1))]), (.c (.sl 54 0 2 (.u 1)))], [(31, wb4_0), (54, wb4_2), (69, wb4_11)], 116, (.c (.sl 118 0 2 (.n 2))), [(31, wb4_0), (54, wb4_2), (69, wb4_11), (118, wb4_3)], 173⟩) 
theorem w1_6_3o1 : mok [(0, 3, 1), (4, 9, 6)] (lenL 1 3 8 ++ []) wN1 21 w1_6_3m1 = true := by kernel_rfl
def w1_6_3m2 : Memo :=  (⟨[(.ag [(.i .i64 2), (.sl 69 0 12 (.u 4)), (.sl 31 0 2 (.u 1))]), (.c (.sl 54 0 2 (.u 1)))], [(31, wb4_4), (54, wb4_2), (69, wb4_11)], 173, (.c (.sl 175 0 2 (.n 2))), [(31, wb4_4), (54, wb4_2), (69, wb4_11), (175, wb4_5)], 230⟩) 
theorem w1_6_3o2 : mok [(0, 3, 1), (4, 9, 6)] (lenL 1 3 8 ++ []) wN1 21 w1_6_3m2 = true := by kernel_rfl
def w1_6_3ms : List (Nat × List Memo) := [(21, [w1_6_3m0, w1_6_3m1, w1_6_3m2])]
theorem w1_6_3mo : AllMem (memRun [(0, 3, 1), (4, 9, 6)] (lenL 1 3 8 ++ []) wN1) w1_6_3ms := ⟨⟨w1_6_3o0, w1_6_3o1, w1_6_3o2, trivial⟩, trivial⟩
theorem w1_6_3 : lawRunM 9 10 200 [.i, .q, .b, .q, .i] [(0, 3, 1), (4, 9, 6)] (lenL 1 3 8 ++ []) wN1 w1_6_3ms = true := by kernel_rfl
def w1_7_3m0 : Memo :=  (⟨[(.ag [(.i .i64 2), (.sl 11 0 6 (.u 4)), (.sl 10 0 2 (.u 1))]), (.c (.sl 54 0 2 (.u 1)))], [(10, wb4_0), (11, wb4_1), (54, wb4_2)], 86, (.c (.sl 88 0 2 (.n 2))), [(10, wb4_0), (11, wb4_1), (54, wb4_2), (88, wb4_3)], 119⟩) 
theorem w1_7_3o0 : mok [(0, 3, 1), (4, 9, 7)] (lenL 1 3 8 ++ []) wN1 21 w1_7_3m0 = true := by kernel_rfl
def w1_7_3m1 : Memo :=  (⟨[(.ag [(.i .i64 2), (.sl 71 0 13 (.u 4)), (.sl 31 0 2 (.u 1))]), (.c (.sl 54 0 2 (.u 1)))], [(31, wb4_0), (54, wb4_2), (71, wb4_12)], 119, (.c (.sl 121 0 2 (.n 2))), [(31, wb4_0), (54, wb4_2), (71, wb4_12), (121, wb4_3)], 180⟩) 
theorem w1_7_3o1 : mok [(0, 3, 1), (4, 9, 7)] (lenL 1 3 8 ++ []) wN1 21 w1_7_3m1 = true := by kernel_rfl
def w1_7_3m2 : Memo :=  (⟨[(.ag [(.i .i64 2), (.sl 71 0 13 (.u 4)), (.sl 31 0 2 (.u 1))]), (.c (.sl 54 0 2 (.u 1)))], [(31, wb4_4), (54, wb4_2), (71, wb4_12)], 180, (.c (.sl 182 0 2 (.n 2))), [(31, wb4_4), (54, wb4_2), (71, wb4_12), (182, wb4_5)], 241⟩) 
theorem w1_7_3o2 : mok [(0, 3, 1), (4, 9, 7)] (lenL 1 3 8 ++ []) wN1 21 w1_7_3m2 = true := by kernel_rfl
def w1_7_3ms : List (Nat × List Memo) := [(21, [w1_7_3m0, w1_7_3m1, w1_7_3m2])]
theorem w1_7_3mo : AllMem (memRun [(0, 3, 1), (4, 9, 7)] (lenL 1 3 8 ++ []) wN1) w1_7_3ms := ⟨⟨w1_7_3o0, w1_7_3o1, w1_7_3o2, trivial⟩, trivial⟩
theorem w1_7_3 : lawRunM 9 10 200 [.i, .q, .b, .q, .i] [(0, 3, 1), (4, 9, 7)] (lenL 1 3 8 ++ []) wN1 w1_7_3ms = true := by kernel_rfl
def w1_8_3m0 : Memo :=  (⟨[(.ag [(.i .i64 2), (.sl 11 0 6 (.u 4)), (.sl 10 0 2 (.u 1))]), (.c (.sl 54 0 2 (.u 1)))], [(10, wb4_0), (11, wb4_1), (54, wb4_2)], 89, (.c (.sl 91 0 2 (.n 2))), [(10, wb4_0), (11, wb4_1), (54, wb4_2), (91, wb4_3)], 122⟩) 
theorem w1_8_3o0 : mok [(0, 3, 1), (4, 9, 8)] (lenL 1 3 8 ++ []) wN1 21 w1_8_3m0 = true := by kernel_rfl
def w1_8_3m1 : Memo :=  (⟨[(.ag [(.i .i64 2), (.sl 73 0 14 (.u 4)), (.sl 31 0 2 (.u 1))]), (.c (.sl 54 0 2 (.u 1)))], [(31, wb4_0), (54, wb4_2), (73, wb4_13)], 122, (.c (.sl 124 0 2 (.n 2))), [(31, wb4_0), (54, wb4_2), (73, wb4_13), (124, wb4_3)], 187⟩) 
theorem w1_8_3o1 : mok [(0, 3, 1), (4, 9, 8)] (lenL 1 3 8 ++ []) wN1 21 w1_8_3m1 = true := by kernel_rfl
def w1_8_3m2 : Memo :=  (⟨[(.ag [(.i .i64 2), (.sl 73 0 14 (.u 4)), (.sl 31 0 2 (.u 1))]), (.c (.sl 54 0 2 (.u 1)))], [(31, wb4_4), (54, wb4_2), (73, wb4_13)], 187, (.c (.sl 189 0 2 (.n 2))), [(31, wb4_4), (54, wb4_2), (73, wb4_13), (189, wb4_5)], 252⟩) 
theorem w1_8_3o2 : mok [(0, 3, 1), (4, 9, 8)] (lenL 1 3 8 ++ []) wN1 21 w1_8_3m2 = true := by kernel_rfl
def w1_8_3ms : List (Nat × List Memo) := [(21, [w1_8_3m0, w1_8_3m1, w1_8_3m2])]
theorem w1_8_3mo : AllMem (memRun [(0, 3, 1), (4, 9, 8)] (lenL 1 3 8 ++ []) wN1) w1_8_3ms := ⟨⟨w1_8_3o0, w1_8_3o1, w1_8_3o2, trivial⟩, trivial⟩
theorem w1_8_3 : lawRunM 9 10 200 [.i, .q, .b, .q, .i] [(0, 3, 1), (4, 9, 8)] (lenL 1 3 8 ++ []) wN1 w1_8_3ms = true := by kernel_rfl
def w1_0_4m0 : Memo :=  (⟨[(.ag [(.i .i64 2), (.sl 11 0 7 (.u 4)), (.sl 10 0 2 (.u 1))]), (.c (.sl 60 0 2 (.u 1)))], [(10, wb4_14), (11, wb4_15), (60, wb4_2)], 72, (.c (.sl 74 0 2 (.n 2))), [(10, wb4_14), (11, wb4_15), (60, wb4_2), (74, wb4_16)], 109⟩) 
theorem w1_0_4o0 : mok [(0, 3, 1), (4, 9, 0)] (lenL 1 4 8 ++ []) wN1 21 w1_0_4m0 = true := by kernel_rfl
def w1_0_4m1 : Memo :=  (⟨[(.ag [(.i .i64 2), (.sl 35 0 7 (.u 4)), (.sl 34 0 2 (.u 1))]), (.c (.sl 60 0 2 (.u 1)))], [(34, wb4_14), (35, wb4_15), (60, wb4_2)], 109, (.c (.sl 111 0 2 (.n 2))), [(34, wb4_14), (35, wb4_15), (60, wb4_2), (111, wb4_16)], 146⟩) 
theorem w1_0_4o1 : mok [(0, 3, 1), (4, 9, 0)] (lenL 1 4 8 ++ []) wN1 21 w1_0_4m1 = true := by kernel_rfl
def w1_0_4m2 : Memo :=  (⟨[(.ag [(.i .i64 2), (.sl 35 0 7 (.u 4)), (.sl 34 0 2 (.u 1))]), (.c (.sl 60 0 2 (.u 1)))], [(34, wb4_17), (35, wb4_15), (60, wb4_2)], 146, (.c (.sl 148 0 2 (.n 2))), [(34, wb4_17), (35, wb4_15), (60, wb4_2), (148, wb4_18)], 183⟩) 
theorem w1_0_4o2 : mok [(0, 3, 1), (4, 9, 0)] (lenL 1 4 8 ++ []) wN1 21 w1_0_4m2 = true := by kernel_rfl
def w1_0_4ms : List (Nat × List Memo) := [(21, [w1_0_4m0, w1_0_4m1, w1_0_4m2])]
theorem w1_0_4mo : AllMem (memRun [(0, 3, 1), (4, 9, 0)] (lenL 1 4 8 ++ []) wN1) w1_0_4ms := ⟨⟨w1_0_4o0, w1_0_4o1, w1_0_4o2, trivial⟩, trivial⟩
theorem w1_0_4 : lawRunM 9 10 200 [.i, .q, .b, .q, .i] [(0, 3, 1), (4, 9, 0)] (lenL 1 4 8 ++ []) wN1 w1_0_4ms = true := by kernel_rfl
def w1_1_4m0 : Memo :=  (⟨[(.ag [(.i .i64 2), (.sl 11 0 7 (.u 4)), (.sl 10 0 2 (.u 1))]), (.c (.sl 60 0 2 (.u 1)))], [(10, wb4_14), (11, wb4_15), (60, wb4_2)], 75, (.c (.sl 77 0 2 (.n 2))), [(10, wb4_14), (11, wb4_15), (60, wb4_2), (77, wb4_16)], 112⟩) 
theorem w1_1_4o0 : mok [(0, 3, 1), (4, 9, 1)] (lenL 1 4 8 ++ []) wN1 21 w1_1_4m0 = true := by kernel_rfl
def w1_1_4m1 : Memo :=  (⟨[(.ag [(.i .i64 2), (.sl 65 0 8 (.u 4)), (.sl 34 0 2 (.u 1))]), (.c (.sl 60 0 2 (.u 1)))], [(34, wb4_14), (60, wb4_2), (65, wb4_19)], 112, (.c (.sl 114 0 2 (.n 2))), [(34, wb4_14), (60, wb4_2), (65, wb4_19), (114, wb4_16)], 153⟩) 
theorem w1_1_4o1 : mok [(0, 3, 1), (4, 9, 1)] (lenL 1 4 8 ++ []) wN1 21 w1_1_4m1 = true := by kernel_rfl
def w1_1_4m2 : Memo :=  (⟨[(.ag [(.i .i64 2), (.sl 65 0 8 (.u 4)), (.sl 34 0 2 (.u 1))]), (.c (.sl 60 0 2 (.u 1)))], [(34, wb4_17), (60, wb4_2), (65, wb4_19)], 153, (.c (.sl 155 0 2 (.n 2))), [(34, wb4_17), (60, wb4_2), (65, wb4_19), (155, wb4_18)], 194⟩) 
theorem w1_1_4o2 : mok [(0, 3, 1), (4, 9, 1)] (lenL 1 4 8 ++ []) wN1 21 w1_1_4m2 = true := by kernel_rfl
def w1_1_4ms : List (Nat × List Memo) := [(21, [w1_1_4m0, w1_1_4m1, w1_1_4m2])]
theorem w1_1_4mo : AllMem (memRun [(0, 3, 1), (4, 9, 1)] (lenL 1 4 8 ++ []) wN1) w1_1_4ms := ⟨⟨w1_1_4o0, w1_1_4o1, w1_1_4o2, trivial⟩, trivial⟩
theorem w1_1_4 : lawRunM 9 10 200 [.i, .q, .b, .q, .i] [(0, 3, 1), (4, 9, 1)] (lenL 1 4 8 ++ []) wN1 w1_1_4ms = true := by kernel_rfl
def w1_2_4m0 : Memo :=  (⟨[(.ag [(.i .i64 2), (.sl 11 0 7 (.u 4)), (.sl 10 0 2 (.u 1))]), (.c (.sl 60 0 2 (.u 1)))], [(10, wb4_14), (11, wb4_15), (60, wb4_2)], 78, (.c (.sl 80 0 2 (.n 2))), [(10, wb4_14), (11, wb4_15), (60, wb4_2), (80, wb4_16)], 115⟩) 
theorem w1_2_4o0 : mok [(0, 3, 1), (4, 9, 2)] (lenL 1 4 8 ++ []) wN1 21 w1_2_4m0 = true := by kernel_rfl
def w1_2_4m1 : Memo :=  (⟨[(.ag [(.i .i64 2), (.sl 67 0 9 (.u 4)), (.sl 34 0 2 (.u 1))]), (.c (.sl 60 0 2 (.u 1)))], [(34, wb4_14), (60, wb4_2), (67, wb4_20)], 115, (.c (.sl 117 0 2 (.n 2))), [(34, wb4_14), (60, wb4_2), (67, wb4_20), (117, wb4_16)], 160⟩) 
theorem w1_2_4o1 : mok [(0, 3, 1), (4, 9, 2)] (lenL 1 4 8 ++ []) wN1 21 w1_2_4m1 = true := by kernel_rfl
def w1_2_4m2 : Memo :=  (⟨[(.ag [(.i .i64 2), (.sl 67 0 9 (.u 4)), (.sl 34 0 2 (.u 1))]), (.c (.sl 60 0 2 (.u 1)))], [(34, wb4_17), (60, wb4_2), (67, wb4_20)], 160, (.c (.sl 162 0 2 (.n 2))), [(34, wb4_17), (60, wb4_2), (67, wb4_20), (162, wb4_18)], 205⟩) 
theorem w1_2_4o2 : mok [(0, 3, 1), (4, 9, 2)] (lenL 1 4 8 ++ []) wN1 21 w1_2_4m2 = true := by kernel_rfl
def w1_2_4ms : List (Nat × List Memo) := [(21, [w1_2_4m0, w1_2_4m1, w1_2_4m2])]
theorem w1_2_4mo : AllMem (memRun [(0, 3, 1), (4, 9, 2)] (lenL 1 4 8 ++ []) wN1) w1_2_4ms := ⟨⟨w1_2_4o0, w1_2_4o1, w1_2_4o2, trivial⟩, trivial⟩
theorem w1_2_4 : lawRunM 9 10 200 [.i, .q, .b, .q, .i] [(0, 3, 1), (4, 9, 2)] (lenL 1 4 8 ++ []) wN1 w1_2_4ms = true := by kernel_rfl
def w1_3_4m0 : Memo :=  (⟨[(.ag [(.i .i64 2), (.sl 11 0 7 (.u 4)), (.sl 10 0 2 (.u 1))]), (.c (.sl 60 0 2 (.u 1)))], [(10, wb4_14), (11, wb4_15), (60, wb4_2)], 81, (.c (.sl 83 0 2 (.n 2))), [(10, wb4_14), (11, wb4_15), (60, wb4_2), (83, wb4_16)], 118⟩) 
theorem w1_3_4o0 : mok [(0, 3, 1), (4, 9, 3)] (lenL 1 4 8 ++ []) wN1 21 w1_3_4m0 = true := by kernel_rfl
def w1_3_4m1 : Memo :=  (⟨[(.ag [(.i .i64 2), (.sl 69 0 10 (.u 4)), (.sl 34 0 2 (.u 1))]), (.c (.sl 60 0 2 (.u 1)))], [(34, wb4_14), (60, wb4_2), (69, wb4_21)], 118, (.c (.sl 120 0 2 (.n 2))), [(34, wb4_14), (60, wb4_2), (69, wb4_21), (120, wb4_16)], 167⟩) 
theorem w1_3_4o1 : mok [(0, 3, 1), (4, 9, 3)] (lenL 1 4 8 ++ []) wN1 21 w1_3_4m1 = true := by kernel_rfl
def w1_3_4m2 : Memo :=  (⟨[(.ag [(.i .i64 2), (.sl 69 0 10 (.u 4)), (.sl 34 0 2 (.u 1))]), (.c (.sl 60 0 2 (.u 1)))], [(34, wb4_17), (60, wb4_2), (69, wb4_21)], 167, (.c (.sl 169 0 2 (.n 2))), [(34, wb4_17), (60, wb4_2), (69, wb4_21), (169, wb4_18)], 216⟩) 
theorem w1_3_4o2 : mok [(0, 3, 1), (4, 9, 3)] (lenL 1 4 8 ++ []) wN1 21 w1_3_4m2 = true := by kernel_rfl
def w1_3_4ms : List (Nat × List Memo) := [(21, [w1_3_4m0, w1_3_4m1, w1_3_4m2])]
theorem w1_3_4mo : AllMem (memRun [(0, 3, 1), (4, 9, 3)] (lenL 1 4 8 ++ []) wN1) w1_3_4ms := ⟨⟨w1_3_4o0, w1_3_4o1, w1_3_4o2, trivial⟩, trivial⟩
theorem w1_3_4 : lawRunM 9 10 200 [.i, .q, .b, .q, .i] [(0, 3, 1), (4, 9, 3)] (lenL 1 4 8 ++ []) wN1 w1_3_4ms = true := by kernel_rfl
def w1_4_4m0 : Memo :=  (⟨[(.ag [(.i .i64 2), (.sl 11 0 7 (.u 4)), (.sl 10 0 2 (.u 1))]), (.c (.sl 60 0 2 (.u 1)))], [(10, wb4_14), (11, wb4_15), (60, wb4_2)], 84, (.c (.sl 86 0 2 (.n 2))), [(10, wb4_14), (11, wb4_15), (60, wb4_2), (86, wb4_16)], 121⟩) 
theorem w1_4_4o0 : mok [(0, 3, 1), (4, 9, 4)] (lenL 1 4 8 ++ []) wN1 21 w1_4_4m0 = true := by kernel_rfl
def w1_4_4m1 : Memo :=  (⟨[(.ag [(.i .i64 2), (.sl 71 0 11 (.u 4)), (.sl 34 0 2 (.u 1))]), (.c (.sl 60 0 2 (.u 1)))], [(34, wb4_14), (60, wb4_2), (71, wb4_22)], 121, (.c (.sl 123 0 2 (.n 2))), [(34, wb4_14), (60, wb4_2), (71, wb4_22), (123, wb4_16)], 174⟩) 
theorem w1_4_4o1 : mok [(0, 3, 1), (4, 9, 4)] (lenL 1 4 8 ++ []) wN1 21 w1_4_4m1 = true := by kernel_rfl
def w1_4_4m2 : Memo :=  (⟨[(.ag [(.i .i64 2), (.sl 71 0 11 (.u 4)), (.sl 34 0 2 (.u 1))]), (.c (.sl 60 0 2 (.u 1)))], [(34, wb4_17), (60, wb4_2), (71, wb4_22)], 174, (.c (.sl 176 0 2 (.n 2))), [(34, wb4_17), (60, wb4_2), (71, wb4_22), (176, wb4_18)], 227⟩) 
theorem w1_4_4o2 : mok [(0, 3, 1), (4, 9, 4)] (lenL 1 4 8 ++ []) wN1 21 w1_4_4m2 = true := by kernel_rfl
def w1_4_4ms : List (Nat × List Memo) := [(21, [w1_4_4m0, w1_4_4m1, w1_4_4m2])]
theorem w1_4_4mo : AllMem (memRun [(0, 3, 1), (4, 9, 4)] (lenL 1 4 8 ++ []) wN1) w1_4_4ms := ⟨⟨w1_4_4o0, w1_4_4o1, w1_4_4o2, trivial⟩, trivial⟩
theorem w1_4_4 : lawRunM 9 10 200 [.i, .q, .b, .q, .i] [(0, 3, 1), (4, 9, 4)] (lenL 1 4 8 ++ []) wN1 w1_4_4ms = true := by kernel_rfl
def w1_5_4m0 : Memo :=  (⟨[(.ag [(.i .i64 2), (.sl 11 0 7 (.u 4)), (.sl 10 0 2 (.u 1))]), (.c (.sl 60 0 2 (.u 1)))], [(10, wb4_14), (11, wb4_15), (60, wb4_2)], 87, (.c (.sl 89 0 2 (.n 2))), [(10, wb4_14), (11, wb4_15), (60, wb4_2), (89, wb4_16)], 124⟩) 
theorem w1_5_4o0 : mok [(0, 3, 1), (4, 9, 5)] (lenL 1 4 8 ++ []) wN1 21 w1_5_4m0 = true := by kernel_rfl
def w1_5_4m1 : Memo :=  (⟨[(.ag [(.i .i64 2), (.sl 73 0 12 (.u 4)), (.sl 34 0 2 (.u 1))]), (.c (.sl 60 0 2 (.u 1)))], [(34, wb4_14), (60, wb4_2), (73, wb4_23)], 124, (.c (.sl 126 0 2 (.n 2))), [(34, wb4_14), (60, wb4_2), (73, wb4_23), (126, wb4_16)], 181⟩) 
theorem w1_5_4o1 : mok [(0, 3, 1), (4, 9, 5)] (lenL 1 4 8 ++ []) wN1 21 w1_5_4m1 = true := by kernel_rfl
def w1_5_4m2 : Memo :=  (⟨[(.ag [(.i .i64 2), (.sl 73 0 12 (.u 4)), (.sl 34 0 2 (.u 1))]), (.c (.sl 60 0 2 (.u 1)))], [(34, wb4_17), (60, wb4_2), (73, wb4_23)], 181, (.c (.sl 183 0 2 (.n 2))), [(34, wb4_17), (60, wb4_2), (73, wb4_23), (183, wb4_18)], 238⟩) 
theorem w1_5_4o2 : mok [(0, 3, 1), (4, 9, 5)] (lenL 1 4 8 ++ []) wN1 21 w1_5_4m2 = true := by kernel_rfl
def w1_5_4ms : List (Nat × List Memo) := [(21, [w1_5_4m0, w1_5_4m1, w1_5_4m2])]
theorem w1_5_4mo : AllMem (memRun [(0, 3, 1), (4, 9, 5)] (lenL 1 4 8 ++ []) wN1) w1_5_4ms := ⟨⟨w1_5_4o0, w1_5_4o1, w1_5_4o2, trivial⟩, trivial⟩
theorem w1_5_4 : lawRunM 9 10 200 [.i, .q, .b, .q, .i] [(0, 3, 1), (4, 9, 5)] (lenL 1 4 8 ++ []) wN1 w1_5_4ms = true := by kernel_rfl
def w1_6_4m0 : Memo :=  (⟨[(.ag [(.i .i64 2), (.sl 11 0 7 (.u 4)), (.sl 10 0 2 (.u 1))]), (.c (.sl 60 0 2 (.u 1)))], [(10, wb4_14), (11, wb4_15), (60, wb4_2)], 90, (.c (.sl 92 0 2 (.n 2))), [(10, wb4_14), (11, wb4_15), (60, wb4_2), (92, wb4_16)], 127⟩) 
theorem w1_6_4o0 : mok [(0, 3, 1), (4, 9, 6)] (lenL 1 4 8 ++ []) wN1 21 w1_6_4m0 = true := by kernel_rfl
def w1_6_4m1 : Memo :=  (⟨[(.ag [(.i .i64 2), (.sl 75 0 13 (.u 4)), (.sl 34 0 2 (.u 1))]), (.c (.sl 60 0 2 (.u 1)))], [(34, wb4_14), (60, wb4_2), (75, wb4_24)], 127, (.c (.sl 129 0 2 (.n 2))), [(34, wb4_14), (60, wb4_2), (75, wb4_24), (129, wb4_16)], 188⟩) 
theorem w1_6_4o1 : mok [(0, 3, 1), (4, 9, 6)] (lenL 1 4 8 ++ []) wN1 21 w1_6_4m1 = true := by kernel_rfl
def w1_6_4m2 : Memo :=  (⟨[(.ag [(.i .i64 2), (.sl 75 0 13 (.u 4)), (.sl 34 0 2 (.u 1))]), (.c (.sl 60 0 2 (.u 1)))], [(34, wb4_17), (60, wb4_2), (75, wb4_24)], 188, (.c (.sl 190 0 2 (.n 2))), [(34, wb4_17), (60, wb4_2), (75, wb4_24), (190, wb4_18)], 249⟩) 
theorem w1_6_4o2 : mok [(0, 3, 1), (4, 9, 6)] (lenL 1 4 8 ++ []) wN1 21 w1_6_4m2 = true := by kernel_rfl
def w1_6_4ms : List (Nat × List Memo) := [(21, [w1_6_4m0, w1_6_4m1, w1_6_4m2])]
theorem w1_6_4mo : AllMem (memRun [(0, 3, 1), (4, 9, 6)] (lenL 1 4 8 ++ []) wN1) w1_6_4ms := ⟨⟨w1_6_4o0, w1_6_4o1, w1_6_4o2, trivial⟩, trivial⟩
theorem w1_6_4 : lawRunM 9 10 200 [.i, .q, .b, .q, .i] [(0, 3, 1), (4, 9, 6)] (lenL 1 4 8 ++ []) wN1 w1_6_4ms = true := by kernel_rfl
def w1_7_4m0 : Memo :=  (⟨[(.ag [(.i .i64 2), (.sl 11 0 7 (.u 4)), (.sl 10 0 2 (.u 1))]), (.c (.sl 60 0 2 (.u 1)))], [(10, wb4_14), (11, wb4_15), (60, wb4_2)], 93, (.c (.sl 95 0 2 (.n 2))), [(10, wb4_14), (11, wb4_15), (60, wb4_2), (95, wb4_16)], 130⟩) 
theorem w1_7_4o0 : mok [(0, 3, 1), (4, 9, 7)] (lenL 1 4 8 ++ []) wN1 21 w1_7_4m0 = true := by kernel_rfl
def w1_7_4m1 : Memo :=  (⟨[(.ag [(.i .i64 2), (.sl 77 0 14 (.u 4)), (.sl 34 0 2 (.u 1))]), (.c (.sl 60 0 2 (.u 1)))], [(34, wb4_14), (60, wb4_2), (77, wb4_25)], 130, (.c (.sl 132 0 2 (.n 2))), [(34, wb4_14), (60, wb4_2), (77, wb4_25), (132, wb4_16)], 195⟩) 
theorem w1_7_4o1 : mok [(0, 3, 1), (4, 9, 7)] (lenL 1 4 8 ++ []) wN1 21 w1_7_4m1 = true := by kernel_rfl
def w1_7_4m2 : Memo :=  (⟨[(.ag [(.i .i64 2), (.sl 77 0 14 (.u 4)), (.sl 34 0 2 (.u 1))]), (.c (.sl 60 0 2 (.u 1)))], [(34, wb4_17), (60, wb4_2), (77, wb4_25)], 195, (.c (.sl 197 0 2 (.n 2))), [(34, wb4_17), (60, wb4_2), (77, wb4_25), (197, wb4_18)], 260⟩) 
theorem w1_7_4o2 : mok [(0, 3, 1), (4, 9, 7)] (lenL 1 4 8 ++ []) wN1 21 w1_7_4m2 = true := by kernel_rfl
def w1_7_4ms : List (Nat × List Memo) := [(21, [w1_7_4m0, w1_7_4m1, w1_7_4m2])]
theorem w1_7_4mo : AllMem (memRun [(0, 3, 1), (4, 9, 7)] (lenL 1 4 8 ++ []) wN1) w1_7_4ms := ⟨⟨w1_7_4o0, w1_7_4o1, w1_7_4o2, trivial⟩, trivial⟩
theorem w1_7_4 : lawRunM 9 10 200 [.i, .q, .b, .q, .i] [(0, 3, 1), (4, 9, 7)] (lenL 1 4 8 ++ []) wN1 w1_7_4ms = true := by kernel_rfl
def w1_8_4m0 : Memo :=  (⟨[(.ag [(.i .i64 2), (.sl 11 0 7 (.u 4)), (.sl 10 0 2 (.u 1))]), (.c (.sl 60 0 2 (.u 1)))], [(10, wb4_14), (11, wb4_15), (60, wb4_2)], 96, (.c (.sl 98 0 2 (.n 2))), [(10, wb4_14), (11, wb4_15), (60, wb4_2), (98, wb4_16)], 133⟩) 
theorem w1_8_4o0 : mok [(0, 3, 1), (4, 9, 8)] (lenL 1 4 8 ++ []) wN1 21 w1_8_4m0 = true := by kernel_rfl
def w1_8_4m1 : Memo :=  (⟨[(.ag [(.i .i64 2), (.sl 79 0 15 (.u 4)), (.sl 34 0 2 (.u 1))]), (.c (.sl 60 0 2 (.u 1)))], [(34, wb4_14), (60, wb4_2), (79, wb4_26)], 133, (.c (.sl 135 0 2 (.n 2))), [(34, wb4_14), (60, wb4_2), (79, wb4_26), (135, wb4_16)], 202⟩) 
theorem w1_8_4o1 : mok [(0, 3, 1), (4, 9, 8)] (lenL 1 4 8 ++ []) wN1 21 w1_8_4m1 = true := by kernel_rfl
def w1_8_4m2 : Memo :=  (⟨[(.ag [(.i .i64 2), (.sl 79 0 15 (.u 4)), (.sl 34 0 2 (.u 1))]), (.c (.sl 60 0 2 (.u 1)))], [(34, wb4_17), (60, wb4_2), (79, wb4_26)], 202, (.c (.sl 204 0 2 (.n 2))), [(34, wb4_17), (60, wb4_2), (79, wb4_26), (204, wb4_18)], 271⟩) 
theorem w1_8_4o2 : mok [(0, 3, 1), (4, 9, 8)] (lenL 1 4 8 ++ []) wN1 21 w1_8_4m2 = true := by kernel_rfl
def w1_8_4ms : List (Nat × List Memo) := [(21, [w1_8_4m0, w1_8_4m1, w1_8_4m2])]
theorem w1_8_4mo : AllMem (memRun [(0, 3, 1), (4, 9, 8)] (lenL 1 4 8 ++ []) wN1) w1_8_4ms := ⟨⟨w1_8_4o0, w1_8_4o1, w1_8_4o2, trivial⟩, trivial⟩
theorem w1_8_4 : lawRunM 9 10 200 [.i, .q, .b, .q, .i] [(0, 3, 1), (4, 9, 8)] (lenL 1 4 8 ++ []) wN1 w1_8_4ms = true := by kernel_rfl
def w1_0_5m0 : Memo :=  (⟨[(.ag [(.i .i64 2), (.sl 11 0 8 (.u 4)), (.sl 10 0 2 (.u 1))]), (.c (.sl 66 0 2 (.u 1)))], [(10, wb4_27), (11, wb4_28), (66, wb4_2)], 79, (.c (.sl 81 0 2 (.n 2))), [(10, wb4_27), (11, wb4_28), (66, wb4_2), (81, wb4_29)], 120⟩) 
theorem w1_0_5o0 : mok [(0, 3, 1), (4, 9, 0)] (lenL 1 5 8 ++ []) wN1 21 w1_0_5m0 = true := by kernel_rfl
def w1_0_5m1 : Memo :=  (⟨[(.ag [(.i .i64 2), (.sl 38 0 8 (.u 4)), (.sl 37 0 2 (.u 1))]), (.c (.sl 66 0 2 (.u 1)))], [(37, wb4_27), (38, wb4_28), (66, wb4_2)], 120, (.c (.sl 122 0 2 (.n 2))), [(37, wb4_27), (38, wb4_28), (66, wb4_2), (122, wb4_29)], 161⟩) 
theorem w1_0_5o1 : mok [(0, 3, 1), (4, 9, 0)] (lenL 1 5 8 ++ []) wN1 21 w1_0_5m1 = true := by kernel_rfl
def w1_0_5m2 : Memo :=  (⟨[(.ag [(.i .i64 2), (.sl 38 0 8 (.u 4)), (.sl 37 0 2 (.u 1))]), (.c (.sl 66 0 2 (.u 1)))], [(37, wb4_30), (38, wb4_28), (66, wb4_2)], 161, (.c (.sl 163 0 2 (.n 2))), [(37, wb4_30), (38, wb4_28), (66, wb4_2), (163, wb4_31)], 202⟩) 
theorem w1_0_5o2 : mok [(0, 3, 1), (4, 9, 0)] (lenL 1 5 8 ++ []) wN1 21 w1_0_5m2 = true := by kernel_rfl
def w1_0_5ms : List (Nat × List Memo) := [(21, [w1_0_5m0, w1_0_5m1, w1_0_5m2])]
theorem w1_0_5mo : AllMem (memRun [(0, 3, 1), (4, 9, 0)] (lenL 1 5 8 ++ []) wN1) w1_0_5ms := ⟨⟨w1_0_5o0, w1_0_5o1, w1_0_5o2, trivial⟩, trivial⟩
theorem w1_0_5 : lawRunM 9 10 200 [.i, .q, .b, .q, .i] [(0, 3, 1), (4, 9, 0)] (lenL 1 5 8 ++ []) wN1 w1_0_5ms = true := by kernel_rfl
def w1_1_5m0 : Memo :=  (⟨[(.ag [(.i .i64 2), (.sl 11 0 8 (.u 4)), (.sl 10 0 2 (.u 1))]), (.c (.sl 66 0 2 (.u 1)))], [(10, wb4_27), (11, wb4_28), (66, wb4_2)], 82, (.c (.sl 84 0 2 (.n 2))), [(10, wb4_27), (11, wb4_28), (66, wb4_2), (84, wb4_29)], 123⟩) 
theorem w1_1_5o0 : mok [(0, 3, 1), (4, 9, 1)] (lenL 1 5 8 ++ []) wN1 21 w1_1_5m0 = true := by kernel_rfl
def w1_1_5m1 : Memo :=  (⟨[(.ag [(.i .i64 2), (.sl 71 0 9 (.u 4)), (.sl 37 0 2 (.u 1))]), (.c (.sl 66 0 2 (.u 1)))], [(37, wb4_27), (66, wb4_2), (71, wb4_32)], 123, (.c (.sl 125 0 2 (.n 2))), [(37, wb4_27), (66, wb4_2), (71, wb4_32), (125, wb4_29)], 168⟩) 
theorem w1_1_5o1 : mok [(0, 3, 1), (4, 9, 1)] (lenL 1 5 8 ++ []) wN1 21 w1_1_5m1 = true := by kernel_rfl
def w1_1_5m2 : Memo :=  (⟨[(.ag [(.i .i64 2), (.sl 71 0 9 (.u 4)), (.sl 37 0 2 (.u 1))]), (.c (.sl 66 0 2 (.u 1)))], [(37, wb4_30), (66, wb4_2), (71, wb4_32)], 168, (.c (.sl 170 0 2 (.n 2))), [(37, wb4_30), (66, wb4_2), (71, wb4_32), (170, wb4_31)], 213⟩) 
theorem w1_1_5o2 : mok [(0, 3, 1), (4, 9, 1)] (lenL 1 5 8 ++ []) wN1 21 w1_1_5m2 = true := by kernel_rfl
def w1_1_5ms : List (Nat × List Memo) := [(21, [w1_1_5m0, w1_1_5m1, w1_1_5m2])]
theorem w1_1_5mo : AllMem (memRun [(0, 3, 1), (4, 9, 1)] (lenL 1 5 8 ++ []) wN1) w1_1_5ms := ⟨⟨w1_1_5o0, w1_1_5o1, w1_1_5o2, trivial⟩, trivial⟩
theorem w1_1_5 : lawRunM 9 10 200 [.i, .q, .b, .q, .i] [(0, 3, 1), (4, 9, 1)] (lenL 1 5 8 ++ []) wN1 w1_1_5ms = true := by kernel_rfl
def w1_2_5m0 : Memo :=  (⟨[(.ag [(.i .i64 2), (.sl 11 0 8 (.u 4)), (.sl 10 0 2 (.u 1))]), (.c (.sl 66 0 2 (.u 1)))], [(10, wb4_27), (11, wb4_28), (66, wb4_2)], 85, (.c (.sl 87 0 2 (.n 2))), [(10, wb4_27), (11, wb4_28), (66, wb4_2), (87, wb4_29)], 126⟩) 
theorem w1_2_5o0 : mok [(0, 3, 1), (4, 9, 2)] (lenL 1 5 8 ++ []) wN1 21 w1_2_5m0 = true := by kernel_rfl
def w1_2_5m1 : Memo :=  (⟨[(.ag [(.i .i64 2), (.sl 73 0 10 (.u 4)), (.sl 37 0 2 (.u 1))]), (.c (.sl 66 0 2 (.u 1)))], [(37, wb4_27), (66, wb4_2), (73, wb4_33)], 126, (.c (.sl 128 0 2 (.n 2))), [(37, wb4_27), (66, wb4_2), (73, wb4_33), (128, wb4_29)], 175⟩) 
theorem w1_2_5o1 : mok [(0, 3, 1), (4, 9, 2)] (lenL 1 5 8 ++ []) wN1 21 w1_2_5m1 = true := by kernel_rfl
def w1_2_5m2 : Memo :=  (⟨[(.ag [(.i .i64 2), (.sl 73 0 10 (.u 4)), (.sl 37 0 2 (.u 1))]), (.c (.sl 66 0 2 (.u 1)))], [(37, wb4_30), (66, wb4_2), (73, wb4_33)], 175, (.c (.sl 177 0 2 (.n 2))), [(37, wb4_30), (66, wb4_2), (73, wb4_33), (177, wb4_31)], 224⟩) 
theorem w1_2_5o2 : mok [(0, 3, 1), (4, 9, 2)] (lenL 1 5 8 ++ []) wN1 21 w1_2_5m2 = true := by kernel_rfl
def w1_2_5ms : List (Nat × List Memo) := [(21, [w1_2_5m0, w1_2_5m1, w1_2_5m2])]
theorem w1_2_5mo : AllMem (memRun [(0, 3, 1), (4, 9, 2)] (lenL 1 5 8 ++ []) wN1) w1_2_5ms := ⟨⟨w1_2_5o0, w1_2_5o1, w1_2_5o2, trivial⟩, trivial⟩
theorem w1_2_5 : lawRunM 9 10 200 [.i, .q, .b, .q, .i] [(0, 3, 1), (4, 9, 2)] (lenL 1 5 8 ++ []) wN1 w1_2_5ms = true := by kernel_rfl
def w1_3_5m0 : Memo :=  (⟨[(.ag [(.i .i64 2), (.sl 11 0 8 (.u 4)), (.sl 10 0 2 (.u 1))]), (.c (.sl 66 0 2 (.u 1)))], [(10, wb4_27), (11, wb4_28), (66, wb4_2)], 88, (.c (.sl 90 0 2 (.n 2))), [(10, wb4_27), (11, wb4_28), (66, wb4_2), (90, wb4_29)], 129⟩) 
theorem w1_3_5o0 : mok [(0, 3, 1), (4, 9, 3)] (lenL 1 5 8 ++ []) wN1 21 w1_3_5m0 = true := by kernel_rfl
def w1_3_5m1 : Memo :=  (⟨[(.ag [(.i .i64 2), (.sl 75 0 11 (.u 4)), (.sl 37 0 2 (.u 1))]), (.c (.sl 66 0 2 (.u 1)))], [(37, wb4_27), (66, wb4_2), (75, wb4_34)], 129, (.c (.sl 131 0 2 (.n 2))), [(37, wb4_27), (66, wb4_2), (75, wb4_34), (131, wb4_29)], 182⟩) 
theorem w1_3_5o1 : mok [(0, 3, 1), (4, 9, 3)] (lenL 1 5 8 ++ []) wN1 21 w1_3_5m1 = true := by kernel_rfl
def w1_3_5m2 : Memo :=  (⟨[(.ag [(.i .i64 2), (.sl 75 0 11 (.u 4)), (.sl 37 0 2 (.u 1))]), (.c (.sl 66 0 2 (.u 1)))], [(37, wb4_30), (66, wb4_2), (75, wb4_34)], 182, (.c (.sl 184 0 2 (.n 2))), [(37, wb4_30), (66, wb4_2), (75, wb4_34), (184, wb4_31)], 235⟩) 
theorem w1_3_5o2 : mok [(0, 3, 1), (4, 9, 3)] (lenL 1 5 8 ++ []) wN1 21 w1_3_5m2 = true := by kernel_rfl
def w1_3_5ms : List (Nat × List Memo) := [(21, [w1_3_5m0, w1_3_5m1, w1_3_5m2])]
theorem w1_3_5mo : AllMem (memRun [(0, 3, 1), (4, 9, 3)] (lenL 1 5 8 ++ []) wN1) w1_3_5ms := ⟨⟨w1_3_5o0, w1_3_5o1, w1_3_5o2, trivial⟩, trivial⟩
theorem w1_3_5 : lawRunM 9 10 200 [.i, .q, .b, .q, .i] [(0, 3, 1), (4, 9, 3)] (lenL 1 5 8 ++ []) wN1 w1_3_5ms = true := by kernel_rfl
def w1_4_5m0 : Memo :=  (⟨[(.ag [(.i .i64 2), (.sl 11 0 8 (.u 4)), (.sl 10 0 2 (.u 1))]), (.c (.sl 66 0 2 (.u 1)))], [(10, wb4_27), (11, wb4_28), (66, wb4_2)], 91, (.c (.sl 93 0 2 (.n 2))), [(10, wb4_27), (11, wb4_28), (66, wb4_2), (93, wb4_29)], 132⟩) 
theorem w1_4_5o0 : mok [(0, 3, 1), (4, 9, 4)] (lenL 1 5 8 ++ []) wN1 21 w1_4_5m0 = true := by kernel_rfl
def w1_4_5m1 : Memo :=  (⟨[(.ag [(.i .i64 2), (.sl 77 0 12 (.u 4)), (.sl 37 0 2 (.u 1))]), (.c (.sl 66 0 2 (.u 1)))], [(37, wb4_27), (66, wb4_2), (77, wb4_35)], 132, (.c (.sl 134 0 2 (.n 2))), [(37, wb4_27), (66, wb4_2), (77, wb4_35), (134, wb4_29)], 189⟩) 
theorem w1_4_5o1 : mok [(0, 3, 1), (4, 9, 4)] (lenL 1 5 8 ++ []) wN1 21 w1_4_5m1 = true := by kernel_rfl
def w1_4_5m2 : Memo :=  (⟨[(.ag [(.i .i64 2), (.sl 77 0 12 (.u 4)), (.sl 37 0 2 (.u 1))]), (.c (.sl 66 0 2 (.u 1)))], [(37, wb4_30), (66, wb4_2), (77, wb4_35)], 189, (.c (.sl 191 0 2 (.n 2))), [(37, wb4_30), (66, wb4_2), (77, wb4_35), (191, wb4_31)], 246⟩) 
theorem w1_4_5o2 : mok [(0, 3, 1), (4, 9, 4)] (lenL 1 5 8 ++ []) wN1 21 w1_4_5m2 = true := by kernel_rfl
def w1_4_5ms : List (Nat × List Memo) := [(21, [w1_4_5m0, w1_4_5m1, w1_4_5m2])]
theorem w1_4_5mo : AllMem (memRun [(0, 3, 1), (4, 9, 4)] (lenL 1 5 8 ++ []) wN1) w1_4_5ms := ⟨⟨w1_4_5o0, w1_4_5o1, w1_4_5o2, trivial⟩, trivial⟩
theorem w1_4_5 : lawRunM 9 10 200 [.i, .q, .b, .q, .i] [(0, 3, 1), (4, 9, 4)] (lenL 1 5 8 ++ []) wN1 w1_4_5ms = true := by kernel_rfl
def w1_5_5m0 : Memo :=  (⟨[(.ag [(.i .i64 2), (.sl 11 0 8 (.u 4)), (.sl 10 0 2 (.u 1))]), (.c (.sl 66 0 2 (.u 1)))], [(10, wb4_27), (11, wb4_28), (66, wb4_2)], 94, (.c (.sl 96 0 2 (.n 2))), [(10, wb4_27), (11, wb4_28), (66, wb4_2), (96, wb4_29)], 135⟩) 
theorem w1_5_5o0 : mok [(0, 3, 1), (4, 9, 5)] (lenL 1 5 8 ++ []) wN1 21 w1_5_5m0 = true := by kernel_rfl
def w1_5_5m1 : Memo :=  (⟨[(.ag [(.i .i64 2), (.sl 79 0 13 (.u 4)), (.sl 37 0 2 (.u 1))]), (.c (.sl 66 0 2 (.u 1)))], [(37, wb4_27), (66, wb4_2), (79, wb4_36)], 135, (.c (.sl 137 0 2 (.n 2))), [(37, wb4_27), (66, wb4_2), (79, wb4_36), (137, wb4_29)], 196⟩) 
theorem w1_5_5o1 : mok [(0, 3, 1), (4, 9, 5)] (lenL 1 5 8 ++ []) wN1 21 w1_5_5m1 = true := by kernel_rfl
def w1_5_5m2 : Memo :=  (⟨[(.ag [(.i .i64 2), (.sl 79 0 13 (.u 4)), (.sl 37 0 2 (.u 1))]), (.c (.sl 66 0 2 (.u 1)))], [(37, wb4_30), (66, wb4_2), (79, wb4_36)], 196, (.c (.sl 198 0 2 (.n 2))), [(37, wb4_30), (66, wb4_2), (79, wb4_36), (198, wb4_31)], 257⟩) 
theorem w1_5_5o2 : mok [(0, 3, 1), (4, 9, 5)] (lenL 1 5 8 ++ []) wN1 21 w1_5_5m2 = true := by kernel_rfl
def w1_5_5ms : List (Nat × List Memo) := [(21, [w1_5_5m0, w1_5_5m1, w1_5_5m2])]
theorem w1_5_5mo : AllMem (memRun [(0, 3, 1), (4, 9, 5)] (lenL 1 5 8 ++ []) wN1) w1_5_5ms := ⟨⟨w1_5_5o0, w1_5_5o1, w1_5_5o2, trivial⟩, trivial⟩
theorem w1_5_5 : lawRunM 9 10 200 [.i, .q, .b, .q, .i] [(0, 3, 1), (4, 9, 5)] (lenL 1 5 8 ++ []) wN1 w1_5_5ms = true := by kernel_rfl
def w1_6_5m0 : Memo :=  (⟨[(.ag [(.i .i64 2), (.sl 11 0 8 (.u 4)), (.sl 10 0 2 (.u 1))]), (.c (.sl 66 0 2 (.u 1)))], [(10, wb4_27), (11, wb4_28), (66, wb4_2)], 97, (.c (.sl 99 0 2 (.n 2))), [(10, wb4_27), (11, wb4_28), (66, wb4_2), (99, wb4_29)], 138⟩) 
theorem w1_6_5o0 : mok [(0, 3, 1), (4, 9, 6)] (lenL 1 5 8 ++ []) wN1 21 w1_6_5m0 = true := by kernel_rfl
def w1_6_5m1 : Memo :=  (⟨[(.ag [(.i .i64 2), (.sl 81 0 14 (.u 4)), (.sl 37 0 2 (.u 1))]), (.c (.sl 66 0 2 (.u 1)))], [(37, wb4_27), (66, wb4_2), (81, wb4_37)], 138, (.c (.sl 140 0 2 (.n 2))), [(37, wb4_27), (66, wb4_2), (81, wb4_37), (140, wb4_29)], 203⟩) 
theorem w1_6_5o1 : mok [(0, 3, 1), (4, 9, 6)] (lenL 1 5 8 ++ []) wN1 21 w1_6_5m1 = true := by kernel_rfl
def w1_6_5m2 : Memo :=  (⟨[(.ag [(.i .i64 2), (.sl 81 0 14 (.u 4)), (.sl 37 0 2 (.u 1))]), (.c (.sl 66 0 2 (.u 1)))], [(37, wb4_30), (66, wb4_2), (81, wb4_37)], 203, (.c (.sl 205 0 2 (.n 2))), [(37, wb4_30), (66, wb4_2), (81, wb4_37), (205, wb4_31)], 268⟩) 
theorem w1_6_5o2 : mok [(0, 3, 1), (4, 9, 6)] (lenL 1 5 8 ++ []) wN1 21 w1_6_5m2 = true := by kernel_rfl
def w1_6_5ms : List (Nat × List Memo) := [(21, [w1_6_5m0, w1_6_5m1, w1_6_5m2])]
theorem w1_6_5mo : AllMem (memRun [(0, 3, 1), (4, 9, 6)] (lenL 1 5 8 ++ []) wN1) w1_6_5ms := ⟨⟨w1_6_5o0, w1_6_5o1, w1_6_5o2, trivial⟩, trivial⟩
theorem w1_6_5 : lawRunM 9 10 200 [.i, .q, .b, .q, .i] [(0, 3, 1), (4, 9, 6)] (lenL 1 5 8 ++ []) wN1 w1_6_5ms = true := by kernel_rfl
def w1_7_5m0 : Memo :=  (⟨[(.ag [(.i .i64 2), (.sl 11 0 8 (.u 4)), (.sl 10 0 2 (.u 1))]), (.c (.sl 66 0 2 (.u 1)))], [(10, wb4_27), (11, wb4_28), (66, wb4_2)], 100, (.c (.sl 102 0 2 (.n 2))), [(10, wb4_27), (11, wb4_28), (66, wb4_2), (102, wb4_29)], 141⟩) 
theorem w1_7_5o0 : mok [(0, 3, 1), (4, 9, 7)] (lenL 1 5 8 ++ []) wN1 21 w1_7_5m0 = true := by kernel_rfl
def w1_7_5m1 : Memo :=  (⟨[(.ag [(.i .i64 2), (.sl 83 0 15 (.u 4)), (.sl 37 0 2 (.u 1))]), (.c (.sl 66 0 2 (.u 1)))], [(37, wb4_27), (66, wb4_2), (83, wb4_38)], 141, (.c (.sl 143 0 2 (.n 2))), [(37, wb4_27), (66, wb4_2), (83, wb4_38), (143, wb4_29)], 210⟩) 
theorem w1_7_5o1 : mok [(0, 3, 1), (4, 9, 7)] (lenL 1 5 8 ++ []) wN1 21 w1_7_5m1 = true := by kernel_rfl
def w1_7_5m2 : Memo :=  (⟨[(.ag [(.i .i64 2), (.sl 83 0 15 (.u 4)), (.sl 37 0 2 (.u 1))]), (.c (.sl 66 0 2 (.u 1)))], [(37, wb4_30), (66, wb4_2), (83, wb4_38)], 210, (.c (.sl 212 0 2 (.n 2))), [(37, wb4_30), (66, wb4_2), (83, wb4_38), (212, wb4_31)], 279⟩) 
theorem w1_7_5o2 : mok [(0, 3, 1), (4, 9, 7)] (lenL 1 5 8 ++ []) wN1 21 w1_7_5m2 = true := by kernel_rfl
def w1_7_5ms : List (Nat × List Memo) := [(21, [w1_7_5m0, w1_7_5m1, w1_7_5m2])]
theorem w1_7_5mo : AllMem (memRun [(0, 3, 1), (4, 9, 7)] (lenL 1 5 8 ++ []) wN1) w1_7_5ms := ⟨⟨w1_7_5o0, w1_7_5o1, w1_7_5o2, trivial⟩, trivial⟩
theorem w1_7_5 : lawRunM 9 10 200 [.i, .q, .b, .q, .i] [(0, 3, 1), (4, 9, 7)] (lenL 1 5 8 ++ []) wN1 w1_7_5ms = true := by kernel_rfl
def w1_8_5m0 : Memo :=  (⟨[(.ag [(.i .i64 2), (.sl 11 0 8 (.u 4)), (.sl 10 0 2 (.u 1))]), (.c (.sl 66 0 2 (.u 1)))], [(10, wb4_27), (11, wb4_28), (66, wb4_2)], 103, (.c (.sl 105 0 2 (.n 2))), [(10, wb4_27), (11, wb4_28), (66, wb4_2), (105, wb4_29)], 144⟩) 
theorem w1_8_5o0 : mok [(0, 3, 1), (4, 9, 8)] (lenL 1 5 8 ++ []) wN1 21 w1_8_5m0 = true := by kernel_rfl
def w1_8_5m1 : Memo :=  (⟨[(.ag [(.i .i64 2), (.sl 85 0 16 (.u 4)), (.sl 37 0 2 (.u 1))]), (.c (.sl 66 0 2 (.u 1)))], [(37, wb4_27), (66, wb4_2), (85, wb4_39)], 144, (.c (.sl 146 0 2 (.n 2))), [(37, wb4_27), (66, wb4_2), (85, wb4_39), (146, wb4_29)], 217⟩) 
theorem w1_8_5o1 : mok [(0, 3, 1), (4, 9, 8)] (lenL 1 5 8 ++ []) wN1 21 w1_8_5m1 = true := by kernel_rfl
def w1_8_5m2 : Memo :=  (⟨[(.ag [(.i .i64 2), (.sl 85 0 16 (.u 4)), (.sl 37 0 2 (.u 1))]), (.c (.sl 66 0 2 (.u 1)))], [(37, wb4_30), (66, wb4_2), (85, wb4_39)], 217, (.c (.sl 219 0 2 (.n 2))), [(37, wb4_30), (66, wb4_2), (85, wb4_39), (219, wb4_31)], 290⟩) 
theorem w1_8_5o2 : mok [(0, 3, 1), (4, 9, 8)] (lenL 1 5 8 ++ []) wN1 21 w1_8_5m2 = true := by kernel_rfl
def w1_8_5ms : List (Nat × List Memo) := [(21, [w1_8_5m0, w1_8_5m1, w1_8_5m2])]
theorem w1_8_5mo : AllMem (memRun [(0, 3, 1), (4, 9, 8)] (lenL 1 5 8 ++ []) wN1) w1_8_5ms := ⟨⟨w1_8_5o0, w1_8_5o1, w1_8_5o2, trivial⟩, trivial⟩
theorem w1_8_5 : lawRunM 9 10 200 [.i, .q, .b, .q, .i] [(0, 3, 1), (4, 9, 8)] (lenL 1 5 8 ++ []) wN1 w1_8_5ms = true := by kernel_rfl
end Go.Proofs.Yticbgaflhiokgaa
