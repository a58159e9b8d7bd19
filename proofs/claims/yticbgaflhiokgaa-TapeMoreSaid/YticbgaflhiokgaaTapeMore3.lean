/-
  'TapeMore': runs of it, part 3.
-/
import Derived.Test.YticbgaflhiokgaaTapeMoret1
namespace Go.Proofs.Yticbgaflhiokgaa
open Go.RowKit Ex
set_option maxRecDepth 1000000
set_option maxHeartbeats 100000000
def wm3_0 : E := (.ib .quo .i64 (.vi 0) (.li 3))
def wm3_1 : E := (.ai 9 0 (.ci (.ib .add .i64 wm3_0 (.li 0)) (.ci (.li 3) .n0)))
def wm3_2 : E := (.ai 9 0 (.ci (.ib .add .i64 wm3_0 (.li 1)) (.ci (.li 3) .n0)))
def wm3_3 : E := (.ib .quo .i64 (.vi 4) (.li 9))
def wm3_4 : E := (.ic .eql (.ai 9 0 (.ci (.at 1 0) (.ci (.li 11) .n0))) (.li 0))
def wm3_5 : E := (.ib .add .i64 (.li 2) (.ai 9 0 (.ci (.at 1 0) (.ci (.li 3) .n0))))
def wm3_6 : E := (.ic .eql (.ai 9 0 (.ci (.at 1 1) (.ci (.li 11) .n0))) (.li 0))
def wm3_7 : E := (.ib .add .i64 (.li 2) (.ai 9 0 (.ci (.at 1 1) (.ci (.li 3) .n0))))
def wk3_0 : Blk := [(.i .i64 1), (.i .i64 0), (.i .i64 0), (.f 0)]
def wk3_1 : Blk := [(.i .i64 1), (.i .i64 1), (.i .i64 0), (.f 0)]
def wk3_2 : Blk := [(.i .i64 0), (.i .i64 0), (.i .i64 0), (.ef (.fb .quo (.i2f (.ib .sub .i64 (.ai 9 0 (.ci (.vi 0) (.ci (.li 17) .n0))) (.li 8))) (.lf 4616189618054758400)))]
def wk3_3 : Blk := [(.i .i64 4), (.ei .i64 (.ai 9 0 (.ci (.vi 4) (.ci (.li 3) .n0)))), (.ei .i64 (.ai 9 0 (.ci wm3_3 (.ci (.li 3) .n0)))), (.f 0)]
def wk3_4 : Blk := [(.i .i64 4), (.ei .i64 (.ai 9 0 (.ci (.vi 4) (.ci (.li 4) .n0)))), (.ei .i64 (.ai 9 0 (.ci wm3_3 (.ci (.li 4) .n0)))), (.f 0)]
def wk3_5 : Blk := [(.i .i64 4), (.ei .i64 (.ai 9 0 (.ci (.vi 4) (.ci (.li 5) .n0)))), (.ei .i64 (.ai 9 0 (.ci wm3_3 (.ci (.li 5) .n0)))), (.f 0)]
def wk3_6 : Blk := [(.i .i64 4), (.ei .i64 (.ai 9 0 (.ci (.vi 4) (.ci (.li 6) .n0)))), (.ei .i64 (.ai 9 0 (.ci wm3_3 (.ci (.li 6) .n0)))), (.f 0)]
def wk3_7 : Blk := [(.i .i64 4), (.ei .i64 (.ai 9 0 (.ci (.vi 4) (.ci (.li 7) .n0)))), (.ei .i64 (.ai 9 0 (.ci wm3_3 (.ci (.li 7) .n0)))), (.f 0)]
def wk3_8 : Blk := [(.i .i64 4), (.ei .i64 (.ai 9 0 (.ci (.vi 4) (.ci (.li 8) .n0)))), (.ei .i64 (.ai 9 0 (.ci wm3_3 (.ci (.li 8) .n0)))), (.f 0)]
def wk3_9 : Blk := [(.i .i64 4), (.i .i64 7), (.ei .i64 (.ai 9 0 (.ci wm3_3 (.ci (.li 9) .n0)))), (.f 0)]
def wk3_10 : Blk := [(.i .i64 4), (.i .i64 8), (.ei .i64 (.ai 9 0 (.ci wm3_3 (.ci (.li 9) .n0)))), (.f 0)]
def wk3_11 : Blk := [(.i .i64 4), (.ei .i64 (.ai 9 0 (.ci (.vi 4) (.ci (.li 10) .n0)))), (.ei .i64 (.ai 9 0 (.ci wm3_3 (.ci (.li 10) .n0)))), (.f 0)]
def wk3_12 : Blk := [(.ei .i64 (.ti wm3_4 (.li 0) (.ti (.vb 2) (.ti (.ic .eql (.ai 9 0 (.ci (.at 1 0) (.ci (.li 7) .n0))) (.li 0)) (.li 5) wm3_5) wm3_5))), (.ei .i64 (.ti wm3_4 (.li 0) (.ai 9 0 (.ci (.ib .quo .i64 (.at 1 0) (.li 4)) (.ci (.li 3) .n0))))), (.ei .i64 (.ti wm3_4 (.li 0) (.ai 9 0 (.ci (.ib .quo .i64 (.at 1 0) (.li 40)) (.ci (.li 3) .n0))))), (.ef (.tf wm3_4 (.fb .quo (.i2f (.ib .sub .i64 (.ai 9 0 (.ci (.ib .quo .i64 (.at 1 0) (.li 11)) (.ci (.li 33) .n0))) (.li 16))) (.lf 4620693217682128896)) (.lf 0)))]
def wk3_13 : Blk := [(.i .i64 4), (.i .i64 6), (.ei .i64 (.ai 9 0 (.ci wm3_3 (.ci (.li 9) .n0)))), (.f 0)]
def wk3_14 : Blk := [(.i .i64 4), (.ei .i64 (.ai 9 0 (.ci (.vi 4) (.ci (.li 11) .n0)))), (.ei .i64 (.ai 9 0 (.ci wm3_3 (.ci (.li 11) .n0)))), (.f 0)]
def wk3_15 : Blk := [(.ei .i64 (.ti wm3_6 (.li 0) (.ti (.vb 2) (.ti (.ic .eql (.ai 9 0 (.ci (.at 1 1) (.ci (.li 7) .n0))) (.li 0)) (.li 5) wm3_7) wm3_7))), (.ei .i64 (.ti wm3_6 (.li 0) (.ai 9 0 (.ci (.ib .quo .i64 (.at 1 1) (.li 4)) (.ci (.li 4) .n0))))), (.ei .i64 (.ti wm3_6 (.li 0) (.ai 9 0 (.ci (.ib .quo .i64 (.at 1 1) (.li 40)) (.ci (.li 4) .n0))))), (.ef (.tf wm3_6 (.fb .quo (.i2f (.ib .sub .i64 (.ai 9 0 (.ci (.ib .quo .i64 (.at 1 1) (.li 11)) (.ci (.li 33) .n0))) (.li 16))) (.lf 4620693217682128896)) (.lf 0)))]
def wb3_0 : Blk := [(.ei .i64 (.ib .sub .i64 (.li 2) wm3_1)), (.ei .i64 (.ib .sub .i64 (.li 2) wm3_2))]
def wb3_1 : Blk := wk3_0 ++ wk3_1 ++ wk3_2
def wb3_2 : Blk := [(.ef (.fb .quo (.i2f (.ib .sub .i64 (.ai 9 0 (.ci (.ti (.ic .lss (.li 0) (.vl 3)) (.at 3 0) (.li 0)) (.ci (.li 65) .n0))) (.li 32))) (.lf 4620693217682128896))), (.ef (.fb .quo (.i2f (.ib .sub .i64 (.ai 9 0 (.ci (.ti (.ic .lss (.li 1) (.vl 3)) (.at 3 1) (.li 1)) (.ci (.li 65) .n0))) (.li 32))) (.lf 4620693217682128896)))]
def wb3_3 : Blk := [(.ef (.vf 164)), (.ef (.vf 165))]
def wb3_4 : Blk := [(.ei .i64 (.ib .sub .i64 (.li 2) wm3_2)), (.ei .i64 (.ib .sub .i64 (.li 2) wm3_2))]
def wb3_5 : Blk := [(.ef (.vf 165)), (.ef (.vf 165))]
def wb3_6 : Blk := wk3_0 ++ wk3_1 ++ wk3_2 ++ wk3_3
def wb3_7 : Blk := wk3_0 ++ wk3_1 ++ wk3_2 ++ wk3_3 ++ wk3_4
def wb3_8 : Blk := wk3_0 ++ wk3_1 ++ wk3_2 ++ wk3_3 ++ wk3_4 ++ wk3_5
def wb3_9 : Blk := wk3_0 ++ wk3_1 ++ wk3_2 ++ wk3_3 ++ wk3_4 ++ wk3_5 ++ wk3_6
def wb3_10 : Blk := wk3_0 ++ wk3_1 ++ wk3_2 ++ wk3_3 ++ wk3_4 ++ wk3_5 ++ wk3_6 ++ wk3_7
def wb3_11 : Blk := wk3_0 ++ wk3_1 ++ wk3_2 ++ wk3_3 ++ wk3_4 ++ wk3_5 ++ wk3_6 ++ wk3_7 ++ wk3_8
def wb3_12 : Blk := wk3_0 ++ wk3_1 ++ wk3_2 ++ wk3_3 ++ wk3_4 ++ wk3_5 ++ wk3_6 ++ wk3_7 ++ wk3_8 ++ wk3_9
def wb3_13 : Blk := wk3_0 ++ wk3_1 ++ wk3_2 ++ wk3_3 ++ wk3_4 ++ wk3_5 ++ wk3_6 ++ wk3_7 ++ wk3_8 ++ wk3_10 ++ wk3_11
def wb3_14 : Blk := [(.ei .i64 (.ib .sub .i64 (.li 3) wm3_1)), (.ei .i64 (.ib .sub .i64 (.li 3) wm3_2))]
def wb3_15 : Blk := wk3_0 ++ wk3_1 ++ wk3_2 ++ wk3_12
def wb3_16 : Blk := [(.ef (.vf 162)), (.ef (.vf 163))]
def wb3_17 : Blk := [(.ei .i64 (.ib .sub .i64 (.li 3) wm3_2)), (.ei .i64 (.ib .sub .i64 (.li 3) wm3_2))]
def wb3_18 : Blk := [(.ef (.vf 163)), (.ef (.vf 163))]
def wb3_19 : Blk := wk3_0 ++ wk3_1 ++ wk3_2 ++ wk3_12 ++ wk3_4
def wb3_20 : Blk := wk3_0 ++ wk3_1 ++ wk3_2 ++ wk3_12 ++ wk3_4 ++ wk3_5
def wb3_21 : Blk := wk3_0 ++ wk3_1 ++ wk3_2 ++ wk3_12 ++ wk3_4 ++ wk3_5 ++ wk3_6
def wb3_22 : Blk := wk3_0 ++ wk3_1 ++ wk3_2 ++ wk3_12 ++ wk3_4 ++ wk3_5 ++ wk3_6 ++ wk3_7
def wb3_23 : Blk := wk3_0 ++ wk3_1 ++ wk3_2 ++ wk3_12 ++ wk3_4 ++ wk3_5 ++ wk3_6 ++ wk3_7 ++ wk3_8
def wb3_24 : Blk := wk3_0 ++ wk3_1 ++ wk3_2 ++ wk3_12 ++ wk3_4 ++ wk3_5 ++ wk3_6 ++ wk3_7 ++ wk3_8 ++ wk3_13
def wb3_25 : Blk := wk3_0 ++ wk3_1 ++ wk3_2 ++ wk3_12 ++ wk3_4 ++ wk3_5 ++ wk3_6 ++ wk3_7 ++ wk3_8 ++ wk3_9 ++ wk3_11
def wb3_26 : Blk := wk3_0 ++ wk3_1 ++ wk3_2 ++ wk3_12 ++ wk3_4 ++ wk3_5 ++ wk3_6 ++ wk3_7 ++ wk3_8 ++ wk3_10 ++ wk3_11 ++ wk3_14
def wb3_27 : Blk := [(.ei .i64 (.ib .sub .i64 (.li 4) wm3_1)), (.ei .i64 (.ib .sub .i64 (.li 4) wm3_2))]
def wb3_28 : Blk := wk3_0 ++ wk3_1 ++ wk3_2 ++ wk3_12 ++ wk3_15
def wb3_29 : Blk := [(.ef (.vf 160)), (.ef (.vf 161))]
def wb3_30 : Blk := [(.ei .i64 (.ib .sub .i64 (.li 4) wm3_2)), (.ei .i64 (.ib .sub .i64 (.li 4) wm3_2))]
def wb3_31 : Blk := [(.ef (.vf 161)), (.ef (.vf 161))]
def wb3_32 : Blk := wk3_0 ++ wk3_1 ++ wk3_2 ++ wk3_12 ++ wk3_15 ++ wk3_5
def wb3_33 : Blk := wk3_0 ++ wk3_1 ++ wk3_2 ++ wk3_12 ++ wk3_15 ++ wk3_5 ++ wk3_6
def wb3_34 : Blk := wk3_0 ++ wk3_1 ++ wk3_2 ++ wk3_12 ++ wk3_15 ++ wk3_5 ++ wk3_6 ++ wk3_7
def wb3_35 : Blk := wk3_0 ++ wk3_1 ++ wk3_2 ++ wk3_12 ++ wk3_15 ++ wk3_5 ++ wk3_6 ++ wk3_7 ++ wk3_8
def wb3_36 : Blk := wk3_0 ++ wk3_1 ++ wk3_2 ++ wk3_12 ++ wk3_15 ++ wk3_5 ++ wk3_6 ++ wk3_7 ++ wk3_8 ++ [(.i .i64 4), (.i .i64 5), (.ei .i64 (.ai 9 0 (.ci wm3_3 (.ci (.li 9) .n0)))), (.f 0)]
def wb3_37 : Blk := wk3_0 ++ wk3_1 ++ wk3_2 ++ wk3_12 ++ wk3_15 ++ wk3_5 ++ wk3_6 ++ wk3_7 ++ wk3_8 ++ wk3_13 ++ wk3_11
def wb3_38 : Blk := wk3_0 ++ wk3_1 ++ wk3_2 ++ wk3_12 ++ wk3_15 ++ wk3_5 ++ wk3_6 ++ wk3_7 ++ wk3_8 ++ wk3_9 ++ wk3_11 ++ wk3_14
def wb3_39 : Blk := wk3_0 ++ wk3_1 ++ wk3_2 ++ wk3_12 ++ wk3_15 ++ wk3_5 ++ wk3_6 ++ wk3_7 ++ wk3_8 ++ wk3_10 ++ wk3_11 ++ wk3_14 ++ [(.i .i64 4), (.ei .i64 (.ai 9 0 (.ci (.vi 4) (.ci (.li 12) .n0)))), (.ei .i64 (.ai 9 0 (.ci wm3_3 (.ci (.li 12) .n0)))), (.f 0)]
def w1_0_0m0 : Memo :=  (⟨[(.ag [(.i .i64 2), (.sl 11 0 3 (.u 4)), (.sl 10 0 2 (.u 1))]), (.c (.sl 36 0 2 (.u 1)))], [(10, wb3_0), (11, wb3_1), (36, wb3_2)], 44, (.c (.sl 46 0 2 (.n 2))), [(10, wb3_0), (11, wb3_1), (36, wb3_2), (46, wb3_3)], 65⟩) 
theorem w1_0_0o0 : mok [(0, 3, 1), (4, 9, 0)] (lenL 1 0 8 ++ []) wN1 21 w1_0_0m0 = true := by kernel_rfl
def w1_0_0m1 : Memo :=  (⟨[(.ag [(.i .i64 2), (.sl 23 0 3 (.u 4)), (.sl 22 0 2 (.u 1))]), (.c (.sl 36 0 2 (.u 1)))], [(22, wb3_0), (23, wb3_1), (36, wb3_2)], 65, (.c (.sl 67 0 2 (.n 2))), [(22, wb3_0), (23, wb3_1), (36, wb3_2), (67, wb3_3)], 86⟩) 
theorem w1_0_0o1 : mok [(0, 3, 1), (4, 9, 0)] (lenL 1 0 8 ++ []) wN1 21 w1_0_0m1 = true := by kernel_rfl
def w1_0_0m2 : Memo :=  (⟨[(.ag [(.i .i64 2), (.sl 23 0 3 (.u 4)), (.sl 22 0 2 (.u 1))]), (.c (.sl 36 0 2 (.u 1)))], [(22, wb3_4), (23, wb3_1), (36, wb3_2)], 86, (.c (.sl 88 0 2 (.n 2))), [(22, wb3_4), (23, wb3_1), (36, wb3_2), (88, wb3_5)], 107⟩) 
theorem w1_0_0o2 : mok [(0, 3, 1), (4, 9, 0)] (lenL 1 0 8 ++ []) wN1 21 w1_0_0m2 = true := by kernel_rfl
def w1_0_0ms : List (Nat × List Memo) := [(21, [w1_0_0m0, w1_0_0m1, w1_0_0m2])]
theorem w1_0_0mo : AllMem (memRun [(0, 3, 1), (4, 9, 0)] (lenL 1 0 8 ++ []) wN1) w1_0_0ms := ⟨⟨w1_0_0o0, w1_0_0o1, w1_0_0o2, trivial⟩, trivial⟩
theorem w1_0_0 : lawRunM 9 10 200 [.i, .q, .b, .q, .i] [(0, 3, 1), (4, 9, 0)] (lenL 1 0 8 ++ []) wN1 w1_0_0ms = true := by kernel_rfl
def w1_1_0m0 : Memo :=  (⟨[(.ag [(.i .i64 2), (.sl 11 0 3 (.u 4)), (.sl 10 0 2 (.u 1))]), (.c (.sl 36 0 2 (.u 1)))], [(10, wb3_0), (11, wb3_1), (36, wb3_2)], 47, (.c (.sl 49 0 2 (.n 2))), [(10, wb3_0), (11, wb3_1), (36, wb3_2), (49, wb3_3)], 68⟩) 
theorem w1_1_0o0 : mok [(0, 3, 1), (4, 9, 1)] (lenL 1 0 8 ++ []) wN1 21 w1_1_0m0 = true := by kernel_rfl
def w1_1_0m1 : Memo :=  (⟨[(.ag [(.i .i64 2), (.sl 41 0 4 (.u 4)), (.sl 22 0 2 (.u 1))]), (.c (.sl 36 0 2 (.u 1)))], [(22, wb3_0), (36, wb3_2), (41, wb3_6)], 68, (.c (.sl 70 0 2 (.n 2))), [(22, wb3_0), (36, wb3_2), (41, wb3_6), (70, wb3_3)], 93⟩) 
theorem w1_1_0o1 : mok [(0, 3, 1), (4, 9, 1)] (lenL 1 0 8 ++ []) wN1 21 w1_1_0m1 = true := by kernel_rfl
def w1_1_0m2 : Memo :=  (⟨[(.ag [(.i .i64 2), (.sl 41 0 4 (.u 4)), (.sl 22 0 2 (.u 1))]), (.c (.sl 36 0 2 (.u 1)))], [(22, wb3_4), (36, wb3_2), (41, wb3_6)], 93, (.c (.sl 95 0 2 (.n 2))), [(22, wb3_4), (36, wb3_2), (41, wb3_6), (95, wb3_5)], 118⟩) 
theorem w1_1_0o2 : mok [(0, 3, 1), (4, 9, 1)] (lenL 1 0 8 ++ []) wN1 21 w1_1_0m2 = true := by kernel_rfl
def w1_1_0ms : List (Nat × List Memo) := [(21, [w1_1_0m0, w1_1_0m1, w1_1_0m2])]
theorem w1_1_0mo : AllMem (memRun [(0, 3, 1), (4, 9, 1)] (lenL 1 0 8 ++ []) wN1) w1_1_0ms := ⟨⟨w1_1_0o0, w1_1_0o1, w1_1_0o2, trivial⟩, trivial⟩
theorem w1_1_0 : lawRunM 9 10 200 [.i, .q, .b, .q, .i] [(0, 3, 1), (4, 9, 1)] (lenL 1 0 8 ++ []) wN1 w1_1_0ms = true := by kernel_rfl
def w1_2_0m0 : Memo :=  (⟨[(.ag [(.i .i64 2), (.sl 11 0 3 (.u 4)), (.sl 10 0 2 (.u 1))]), (.c (.sl 36 0 2 (.u 1)))], [(10, wb3_0), (11, wb3_1), (36, wb3_2)], 50, (.c (.sl 52 0 2 (.n 2))), [(10, wb3_0), (11, wb3_1), (36, wb3_2), (52, wb3_3)], 71⟩) 
theorem w1_2_0o0 : mok [(0, 3, 1), (4, 9, 2)] (lenL 1 0 8 ++ []) wN1 21 w1_2_0m0 = true := by kernel_rfl
def w1_2_0m1 : Memo :=  (⟨[(.ag [(.i .i64 2), (.sl 43 0 5 (.u 4)), (.sl 22 0 2 (.u 1))]), (.c (.sl 36 0 2 (.u 1)))], [(22, wb3_0), (36, wb3_2), (43, wb3_7)], 71, (.c (.sl 73 0 2 (.n 2))), [(22, wb3_0), (36, wb3_2), (43, wb3_7), (73, wb3_3)], 100⟩) 
theorem w1_2_0o1 : mok [(0, 3, 1), (4, 9, 2)] (lenL 1 0 8 ++ []) wN1 21 w1_2_0m1 = true := by kernel_rfl
def w1_2_0m2 : Memo :=  (⟨[(.ag [(.i .i64 2), (.sl 43 0 5 (.u 4)), (.sl 22 0 2 (.u 1))]), (.c (.sl 36 0 2 (.u 1)))], [(22, wb3_4), (36, wb3_2), (43, wb3_7)], 100, (.c (.sl 102 0 2 (.n 2))), [(22, wb3_4), (36, wb3_2), (43, wb3_7), (102, wb3_5)], 129⟩) 
theorem w1_2_0o2 : mok [(0, 3, 1), (4, 9, 2)] (lenL 1 0 8 ++ []) wN1 21 w1_2_0m2 = true := by kernel_rfl
def w1_2_0ms : List (Nat × List Memo) := [(21, [w1_2_0m0, w1_2_0m1, w1_2_0m2])]
theorem w1_2_0mo : AllMem (memRun [(0, 3, 1), (4, 9, 2)] (lenL 1 0 8 ++ []) wN1) w1_2_0ms := ⟨⟨w1_2_0o0, w1_2_0o1, w1_2_0o2, trivial⟩, trivial⟩
theorem w1_2_0 : lawRunM 9 10 200 [.i, .q, .b, .q, .i] [(0, 3, 1), (4, 9, 2)] (lenL 1 0 8 ++ []) wN1 w1_2_0ms = true := by kernel_rfl
def w1_3_0m0 : Memo :=  (⟨[(.ag [(.i .i64 2), (.sl 11 0 3 (.u 4)), (.sl 10 0 2 (.u 1))]), (.c (.sl 36 0 2 (.u 1)))], [(10, wb3_0), (11, wb3_1), (36, wb3_2)], 53, (.c (.sl 55 0 2 (.n 2))), [(10, wb3_0), (11, wb3_1), (36, wb3_2), (55, wb3_3)], 74⟩) 
theorem w1_3_0o0 : mok [(0, 3, 1), (4, 9, 3)] (lenL 1 0 8 ++ []) wN1 21 w1_3_0m0 = true := by kernel_rfl
def w1_3_0m1 : Memo :=  (⟨[(.ag [(.i .i64 2), (.sl 45 0 6 (.u 4)), (.sl 22 0 2 (.u 1))]), (.c (.sl 36 0 2 (.u 1)))], [(22, wb3_0), (36, wb3_2), (45, wb3_8)], 74, (.c (.sl 76 0 2 (.n 2))), [(22, wb3_0), (36, wb3_2), (45, wb3_8), (76, wb3_3)], 107⟩) 
theorem w1_3_0o1 : mok [(0, 3, 1), (4, 9, 3)] (lenL 1 0 8 ++ []) wN1 21 w1_3_0m1 = true := by kernel_rfl
def w1_3_0m2 : Memo :=  (⟨[(.ag [(.i .i64 2), (.sl 45 0 6 (.u 4)), (.sl 22 0 2 (.u 1))]), (.c (.sl 36 0 2 (.u 1)))], [(22, wb3_4), (36, wb3_2), (45, wb3_8)], 107, (.c (.sl 109 0 2 (.n 2))), [(22, wb3_4), (36, wb3_2), (45, wb3_8), (109, wb3_5)], 140⟩) 
theorem w1_3_0o2 : mok [(0, 3, 1), (4, 9, 3)] (lenL 1 0 8 ++ []) wN1 21 w1_3_0m2 = true := by kernel_rfl
def w1_3_0ms : List (Nat × List Memo) := [(21, [w1_3_0m0, w1_3_0m1, w1_3_0m2])]
theorem w1_3_0mo : AllMem (memRun [(0, 3, 1), (4, 9, 3)] (lenL 1 0 8 ++ []) wN1) w1_3_0ms := ⟨⟨w1_3_0o0, w1_3_0o1, w1_3_0o2, trivial⟩, trivial⟩
theorem w1_3_0 : lawRunM 9 10 200 [.i, .q, .b, .q, .i] [(0, 3, 1), (4, 9, 3)] (lenL 1 0 8 ++ []) wN1 w1_3_0ms = true := by kernel_rfl
def w1_4_0m0 : Memo :=  (⟨[(.ag [(.i .i64 2), (.sl 11 0 3 (.u 4)), (.sl 10 0 2 (.u 1))]), (.c (.sl 36 0 2 (.u 1)))], [(10, wb3_0), (11, wb3_1), (36, wb3_2)], 56, (.c (.sl 58 0 2 (.n 2))), [(10, wb3_0), (11, wb3_1), (36, wb3_2), (58, wb3_3)], 77⟩) 
theorem w1_4_0o0 : mok [(0, 3, 1), (4, 9, 4)] (lenL 1 0 8 ++ []) wN1 21 w1_4_0m0 = true := by kernel_rfl
def w1_4_0m1 : Memo :=  (⟨[(.ag [(.i .i64 2), (.sl 47 0 7 (.u 4)), (.sl 22 0 2 (.u 1))]), (.c (.sl 36 0 2 (.u 1)))], [(22, wb3_0), (36, wb3_2), (47, wb3_9)], 77, (.c (.sl 79 0 2 (.n 2))), [(22, wb3_0), (36, wb3_2), (47, wb3_9), (79, wb3_3)], 114⟩) 
theorem w1_4_0o1 : mok [(0, 3, 1), (4, 9, 4)] (lenL 1 0 8 ++ []) wN1 21 w1_4_0m1 = true := by kernel_rfl
def w1_4_0m2 : Memo :=  (⟨[(.ag [(.i .i64 2), (.sl 47 0 7 (.u 4)), (.sl 22 0 2 (.u 1))]), (.c (.sl 36 0 2 (.u 1)))], [(22, wb3_4), (36, wb3_2), (47, wb3_9)], 114, (.c (.sl 116 0 2 (.n 2))), [(22, wb3_4), (36, wb3_2), (47, wb3_9), (116, wb3_5)], 151⟩) 
theorem w1_4_0o2 : mok [(0, 3, 1), (4, 9, 4)] (lenL 1 0 8 ++ []) wN1 21 w1_4_0m2 = true := by kernel_rfl
def w1_4_0ms : List (Nat × List Memo) := [(21, [w1_4_0m0, w1_4_0m1, w1_4_0m2])]
theorem w1_4_0mo : AllMem (memRun [(0, 3, 1), (4, 9, 4)] (lenL 1 0 8 ++ []) wN1) w1_4_0ms := ⟨⟨w1_4_0o0, w1_4_0o1, w1_4_0o2, trivial⟩, trivial⟩
theorem w1_4_0 : lawRunM 9 10 200 [.i, .q, .b, .q, .i] [(0, 3, 1), (4, 9, 4)] (lenL 1 0 8 ++ []) wN1 w1_4_0ms = true := by kernel_rfl
def w1_5_0m0 : Memo :=  (⟨[(.ag [(.i .i64 2), (.sl 11 0 3 (.u 4)), (.sl 10 0 2 (.u 1))]), (.c (.sl 36 0 2 (.u 1)))], [(10, wb3_0), (11, wb3_1), (36, wb3_2)], 59, (.c (.sl 61 0 2 (.n 2))), [(10, wb3_0), (11, wb3_1), (36, wb3_2), (61, wb3_3)], 80⟩) 
theorem w1_5_0o0 : mok [(0, 3, 1), (4, 9, 5)] (lenL 1 0 8 ++ []) wN1 21 w1_5_0m0 = true := by kernel_rfl
def w1_5_0m1 : Memo :=  (⟨[(.ag [(.i .i64 2), (.sl 49 0 8 (.u 4)), (.sl 22 0 2 (.u 1))]), (.c (.sl 36 0 2 (.u 1)))], [(22, wb3_0), (36, wb3_2), (49, wb3_10)], 80, (.c (.sl 82 0 2 (.n 2))), [(22, wb3_0), (36, wb3_2), (49, wb3_10), (82, wb3_3)], 121⟩) 
theorem w1_5_0o1 : mok [(0, 3, 1), (4, 9, 5)] (lenL 1 0 8 ++ []) wN1 21 w1_5_0m1 = true := by kernel_rfl
def w1_5_0m2 : Memo :=  (⟨[(.ag [(.i .i64 2), (.sl 49 0 8 (.u 4)), (.sl 22 0 2 (.u 1))]), (.c (.sl 36 0 2 (.u 1)))], [(22, wb3_4), (36, wb3_2), (49, wb3_10)], 121, (.c (.sl 123 0 2 (.n 2))), [(22, wb3_4), (36, wb3_2), (49, wb3_10), (123, wb3_5)], 162⟩) 
theorem w1_5_0o2 : mok [(0, 3, 1), (4, 9, 5)] (lenL 1 0 8 ++ []) wN1 21 w1_5_0m2 = true := by kernel_rfl
def w1_5_0ms : List (Nat × List Memo) := [(21, [w1_5_0m0, w1_5_0m1, w1_5_0m2])]
theorem w1_5_0mo : AllMem (memRun [(0, 3, 1), (4, 9, 5)] (lenL 1 0 8 ++ []) wN1) w1_5_0ms := ⟨⟨w1_5_0o0, w1_5_0o1, w1_5_0o2, trivial⟩, trivial⟩
theorem w1_5_0 : lawRunM 9 10 200 [.i, .q, .b, .q, .i] [(0, 3, 1), (4, 9, 5)] (lenL 1 0 8 ++ []) wN1 w1_5_0ms = true := by kernel_rfl
def w1_6_0m0 : Memo :=  (⟨[(.ag [(.i .i64 2), (.sl 11 0 3 (.u 4)), (.sl 10 0 2 (.u 1))]), (.c (.sl 36 0 2 (.u 1)))], [(10, wb3_0), (11, wb3_1), (36, wb3_2)], 62, (.c (.sl 64 0 2 (.n 2))), [(10, wb3_0), (11, wb3_1), (36, wb3_2), (64, wb3_3)], 83⟩) 
theorem w1_6_0o0 : mok [(0, 3, 1), (4, 9, 6)] (lenL 1 0 8 ++ []) wN1 21 w1_6_0m0 = true := by kernel_rfl
def w1_6_0m1 : Memo :=  (⟨[(.ag [(.i .i64 2), (.sl 51 0 9 (.u 4)), (.sl 22 0 2 (.u 1))]), (.c (.sl 36 0 2 (.u 1)))], [(22, wb3_0), (36, wb3_2), (51, wb3_11)], 83, (.c (.sl 85 0 2 (.n 2))), [(22, wb3_0), (36, wb3_2), (51, wb3_11), (85, wb3_3)], 128⟩) 
theorem w1_6_0o1 : mok [(0, 3, 1), (4, 9, 6)] (lenL 1 0 8 ++ []) wN1 21 w1_6_0m1 = true := by kernel_rfl
def w1_6_0m2 : Memo :=  (⟨[(.ag [(.i .i64 2), (.sl 51 0 9 (.u 4)), (.sl 22 0 2 (.u 1))]), (.c (.sl 36 0 2 (.u 1)))], [(22, wb3_4), (36, wb3_2), (51, wb3_11)], 128, (.c (.sl 130 0 2 (.n 2))), [(22, wb3_4), (36, wb3_2), (51, wb3_11), (130, wb3_5)], 173⟩) 
theorem w1_6_0o2 : mok [(0, 3, 1), (4, 9, 6)] (lenL 1 0 8 ++ []) wN1 21 w1_6_0m2 = true := by kernel_rfl
def w1_6_0ms : List (Nat × List Memo) := [(21, [w1_6_0m0, w1_6_0m1, w1_6_0m2])]
theorem w1_6_0mo : AllMem (memRun [(0, 3, 1), (4, 9, 6)] (lenL 1 0 8 ++ []) wN1) w1_6_0ms := ⟨⟨w1_6_0o0, w1_6_0o1, w1_6_0o2, trivial⟩, trivial⟩
theorem w1_6_0 : lawRunM 9 10 200 [.i, .q, .b, .q, .i] [(0, 3, 1), (4, 9, 6)] (lenL 1 0 8 ++ []) wN1 w1_6_0ms = true := by kernel_rfl
def w1_7_0m0 : Memo :=  (⟨[(.ag [(.i .i64 2), (.sl 11 0 3 (.u 4)), (.sl 10 0 2 (.u 1))]), (.c (.sl 36 0 2 (.u 1)))], [(10, wb3_0), (11, wb3_1), (36, wb3_2)], 65, (.c (.sl 67 0 2 (.n 2))), [(10, wb3_0), (11, wb3_1), (36, wb3_2), (67, wb3_3)], 86⟩) 
theorem w1_7_0o0 : mok [(0, 3, 1), (4, 9, 7)] (lenL 1 0 8 ++ []) wN1 21 w1_7_0m0 = true := by kernel_rfl
def w1_7_0m1 : Memo :=  (⟨[(.ag [(.i .i64 2), (.sl 53 0 10 (.u 4)), (.sl 22 0 2 (.u 1))]), (.c (.sl 36 0 2 (.u 1)))], [(22, wb3_0), (36, wb3_2), (53, wb3_12)], 86, (.c (.sl 88 0 2 (.n 2))), [(22, wb3_0), (36, wb3_2), (53, wb3_12), (88, wb3_3)], 135⟩) 
theorem w1_7_0o1 : mok [(0, 3, 1), (4, 9, 7)] (lenL 1 0 8 ++ []) wN1 21 w1_7_0m1 = true := by kernel_rfl
def w1_7_0m2 : Memo :=  (⟨[(.ag [(.i .i64 2), (.sl 53 0 10 (.u 4)), (.sl 22 0 2 (.u 1))]), (.c (.sl 36 0 2 (.u 1)))], [(22, wb3_4), (36, wb3_2), (53, wb3_12)], 135, (.c (.sl 137 0 2 (.n 2))), [(22, wb3_4), (36, wb3_2), (53, wb3_12), (137, wb3_5)], 184⟩) 
theorem w1_7_0o2 : mok [(0, 3, 1), (4, 9, 7)] (lenL 1 0 8 ++ []) wN1 21 w1_7_0m2 = true := by kernel_rfl
def w1_7_0ms : List (Nat × List Memo) := [(21, [w1_7_0m0, w1_7_0m1, w1_7_0m2])]
theorem w1_7_0mo : AllMem (memRun [(0, 3, 1), (4, 9, 7)] (lenL 1 0 8 ++ []) wN1) w1_7_0ms := ⟨⟨w1_7_0o0, w1_7_0o1, w1_7_0o2, trivial⟩, trivial⟩
theorem w1_7_0 : lawRunM 9 10 200 [.i, .q, .b, .q, .i] [(0, 3, 1), (4, 9, 7)] (lenL 1 0 8 ++ []) wN1 w1_7_0ms = true := by kernel_rfl
def w1_8_0m0 : Memo :=  (⟨[(.ag [(.i .i64 2), (.sl 11 0 3 (.u 4)), (.sl 10 0 2 (.u 1))]), (.c (.sl 36 0 2 (.u 1)))], [(10, wb3_0), (11, wb3_1), (36, wb3_2)], 68, (.c (.sl 70 0 2 (.n 2))), [(10, wb3_0), (11, wb3_1), (36, wb3_2), (70, wb3_3)], 89⟩) 
theorem w1_8_0o0 : mok [(0, 3, 1), (4, 9, 8)] (lenL 1 0 8 ++ []) wN1 21 w1_8_0m0 = true := by kernel_rfl
def w1_8_0m1 : Memo :=  (⟨[(.ag [(.i .i64 2), (.sl 55 0 11 (.u 4)), (.sl 22 0 2 (.u 1))]), (.c (.sl 36 0 2 (.u 1)))], [(22, wb3_0), (36, wb3_2), (55, wb3_13)], 89, (.c (.sl 91 0 2 (.n 2))), [(22, wb3_0), (36, wb3_2), (55, wb3_13), (91, wb3_3)], 142⟩) 
theorem w1_8_0o1 : mok [(0, 3, 1), (4, 9, 8)] (lenL 1 0 8 ++ []) wN1 21 w1_8_0m1 = true := by kernel_rfl
def w1_8_0m2 : Memo :=  (⟨[(.ag [(.i .i64 2), (.sl 55 0 11 (.u 4)), (.sl 22 0 2 (.u 1))]), (.c (.sl 36 0 2 (.u 1)))], [(22, wb3_4), (36, wb3_2), (55, wb3_13)], 142, (.c (.sl 144 0 2 (.n 2))), [(22, wb3_4), (36, wb3_2), (55, wb3_13), (144, wb3_5)], 195⟩) 
theorem w1_8_0o2 : mok [(0, 3, 1), (4, 9, 8)] (lenL 1 0 8 ++ []) wN1 21 w1_8_0m2 = true := by kernel_rfl
def w1_8_0ms : List (Nat × List Memo) := [(21, [w1_8_0m0, w1_8_0m1, w1_8_0m2])]
theorem w1_8_0mo : AllMem (memRun [(0, 3, 1), (4, 9, 8)] (lenL 1 0 8 ++ []) wN1) w1_8_0ms := ⟨⟨w1_8_0o0, w1_8_0o1, w1_8_0o2, trivial⟩, trivial⟩
theorem w1_8_0 : lawRunM 9 10 200 [.i, .q, .b, .q, .i] [(0, 3, 1), (4, 9, 8)] (lenL 1 0 8 ++ []) wN1 w1_8_0ms = true := by kernel_rfl
def w1_0_1m0 : Memo :=  (⟨[(.ag [(.i .i64 2), (.sl 11 0 4 (.u 4)), (.sl 10 0 2 (.u 1))]), (.c (.sl 42 0 2 (.u 1)))], [(10, wb3_14), (11, wb3_15), (42, wb3_2)], 51, (.c (.sl 53 0 2 (.n 2))), [(10, wb3_14), (11, wb3_15), (42, wb3_2), (53, wb3_16)], 76⟩) 
theorem w1_0_1o0 : mok [(0, 3, 1), (4, 9, 0)] (lenL 1 1 8 ++ []) wN1 21 w1_0_1m0 = true := by kernel_rfl
def w1_0_1m1 : Memo :=  (⟨[(.ag [(.i .i64 2), (.sl 26 0 4 (.u 4)), (.sl 25 0 2 (.u 1))]), (.c (.sl 42 0 2 (.u 1)))], [(25, wb3_14), (26, wb3_15), (42, wb3_2)], 76, (.c (.sl 78 0 2 (.n 2))), [(25, wb3_14), (26, wb3_15), (42, wb3_2), (78, wb3_16)], 101⟩) 
theorem w1_0_1o1 : mok [(0, 3, 1), (4, 9, 0)] (lenL 1 1 8 ++ []) wN1 21 w1_0_1m1 = true := by kernel_rfl
def w1_0_1m2 : Memo :=  (⟨[(.ag [(.i .i64 2), (.sl 26 0 4 (.u 4)), (.sl 25 0 2 (.u 1))]), (.c (.sl 42 0 2 (.u 1)))], [(25, wb3_17), (26, wb3_15), (42, wb3_2)], 101, (.c (.sl 103 0 2 (.n 2))), [(25, wb3_17), (26, wb3_15), (42, wb3_2), (103, wb3_18)], 126⟩) 
theorem w1_0_1o2 : mok [(0, 3, 1), (4, 9, 0)] (lenL 1 1 8 ++ []) wN1 21 w1_0_1m2 = true := by kernel_rfl
def w1_0_1ms : List (Nat × List Memo) := [(21, [w1_0_1m0, w1_0_1m1, w1_0_1m2])]
theorem w1_0_1mo : AllMem (memRun [(0, 3, 1), (4, 9, 0)] (lenL 1 1 8 ++ []) wN1) w1_0_1ms := ⟨⟨w1_0_1o0, w1_0_1o1, w1_0_1o2, trivial⟩, trivial⟩
theorem w1_0_1 : lawRunM 9 10 200 [.i, .q, .b, .q, .i] [(0, 3, 1), (4, 9, 0)] (lenL 1 1 8 ++ []) wN1 w1_0_1ms = true := by kernel_rfl
def w1_1_1m0 : Memo :=  (⟨[(.ag [(.i .i64 2), (.sl 11 0 4 (.u 4)), (.sl 10 0 2 (.u 1))]), (.c (.sl 42 0 2 (.u 1)))], [(10, wb3_14), (11, wb3_15), (42, wb3_2)], 54, (.c (.sl 56 0 2 (.n 2))), [(10, wb3_14), (11, wb3_15), (42, wb3_2), (56, wb3_16)], 79⟩) 
theorem w1_1_1o0 : mok [(0, 3, 1), (4, 9, 1)] (lenL 1 1 8 ++ []) wN1 21 w1_1_1m0 = true := by kernel_rfl
def w1_1_1m1 : Memo :=  (⟨[(.ag [(.i .i64 2), (.sl 47 0 5 (.u 4)), (.sl 25 0 2 (.u 1))]), (.c (.sl 42 0 2 (.u 1)))], [(25, wb3_14), (42, wb3_2), (47, wb3_19)], 79, (.c (.sl 81 0 2 (.n 2))), [(25, wb3_14), (42, wb3_2), (47, wb3_19), (81, wb3_16)], 108⟩) 
theorem w1_1_1o1 : mok [(0, 3, 1), (4, 9, 1)] (lenL 1 1 8 ++ []) wN1 21 w1_1_1m1 = true := by kernel_rfl
def w1_1_1m2 : Memo :=  (⟨[(.ag [(.i .i64 2), (.sl 47 0 5 (.u 4)), (.sl 25 0 2 (.u 1))]), (.c (.sl 42 0 2 (.u 1)))], [(25, wb3_17), (42, wb3_2), (47, wb3_19)], 108, (.c (.sl 110 0 2 (.n 2))), [(25, wb3_17), (42, wb3_2), (47, wb3_19), (110, wb3_18)], 137⟩) 
theorem w1_1_1o2 : mok [(0, 3, 1), (4, 9, 1)] (lenL 1 1 8 ++ []) wN1 21 w1_1_1m2 = true := by kernel_rfl
def w1_1_1ms : List (Nat × List Memo) := [(21, [w1_1_1m0, w1_1_1m1, w1_1_1m2])]
theorem w1_1_1mo : AllMem (memRun [(0, 3, 1), (4, 9, 1)] (lenL 1 1 8 ++ []) wN1) w1_1_1ms := ⟨⟨w1_1_1o0, w1_1_1o1, w1_1_1o2, trivial⟩, trivial⟩
theorem w1_1_1 : lawRunM 9 10 200 [.i, .q, .b, .q, .i] [(0, 3, 1), (4, 9, 1)] (lenL 1 1 8 ++ []) wN1 w1_1_1ms = true := by kernel_rfl
def w1_2_1m0 : Memo :=  (⟨[(.ag [(.i .i64 2), (.sl 11 0 4 (.u 4)), (.sl 10 0 2 (.u 1))]), (.c (.sl 42 0 2 (.u 1)))], [(10, wb3_14), (11, wb3_15), (42, wb3_2)], 57, (.c (.sl 59 0 2 (.n 2))), [(10, wb3_14), (11, wb3_15), (42, wb3_2), (59, wb3_16)], 82⟩) 
theorem w1_2_1o0 : mok [(0, 3, 1), (4, 9, 2)] (lenL 1 1 8 ++ []) wN1 21 w1_2_1m0 = true := by kernel_rfl
def w1_2_1m1 : Memo :=  (⟨[(.ag [(.i .i64 2), (.sl 49 0 6 (.u 4)), (.sl 25 0 2 (.u 1))]), (.c (.sl 42 0 2 (.u 1)))], [(25, wb3_14), (42, wb3_2), (49, wb3_20)], 82, (.c (.sl 84 0 2 (.n 2))), [(25, wb3_14), (42, wb3_2), (49, wb3_20), (84, wb3_16)], 115⟩) 
theorem w1_2_1o1 : mok [(0, 3, 1), (4, 9, 2)] (lenL 1 1 8 ++ []) wN1 21 w1_2_1m1 = true := by kernel_rfl
def w1_2_1m2 : Memo :=  (⟨[(.ag [(.i .i64 2), (.sl 49 0 6 (.u 4)), (.sl 25 0 2 (.u 1))]), (.c (.sl 42 0 2 (.u 1)))], [(25, wb3_17), (42, wb3_2), (49, wb3_20)], 115, (.c (.sl 117 0 2 (.n 2))), [(25, wb3_17), (42, wb3_2), (49, wb3_20), (117, wb3_18)], 148⟩) 
theorem w1_2_1o2 : mok [(0, 3, 1), (4, 9, 2)] (lenL 1 1 8 ++ []) wN1 21 w1_2_1m2 = true := by kernel_rfl
def w1_2_1ms : List (Nat × List Memo) := [(21, [w1_2_1m0, w1_2_1m1, w1_2_1m2])]
theorem w1_2_1mo : AllMem (memRun [(0, 3, 1), (4, 9, 2)] (lenL 1 1 8 ++ []) wN1) w1_2_1ms := ⟨⟨w1_2_1o0, w1_2_1o1, w1_2_1o2, trivial⟩, trivial⟩
theorem w1_2_1 : lawRunM 9 10 200 [.i, .q, .b, .q, .i] [(0, 3, 1), (4, 9, 2)] (lenL 1 1 8 ++ []) wN1 w1_2_1ms = true := by kernel_rfl
def w1_3_1m0 : Memo :=  (⟨[(.ag [(.i .i64 2), (.sl 11 0 4 (.u 4)), (.sl 10 0 2 (.u 1))]), (.c (.sl 42 0 2 (.u 1)))], [(10, wb3_14), (11, wb3_15), (42, wb3_2)], 60, (.c (.sl 62 0 2 (.n 2))), [(10, wb3_14), (11, wb3_15), (42, wb3_2), (62, wb3_16)], 85⟩) 
theorem w1_3_1o0 : mok [(0, 3, 1), (4, 9, 3)] (lenL 1 1 8 ++ []) wN1 21 w1_3_1m0 = true := by kernel_rfl
def w1_3_1m1 : Memo :=  (⟨[(.ag [(.i .i64 2), (.sl 51 0 7 (.u 4)), (.sl 25 0 2 (.u 1))]), (.c (.sl 42 0 2 (.u 1)))], [(25, wb3_14), (42, wb3_2), (51, wb3_21)], 85, (.c (.sl 87 0 2 (.n 2))), [(25, wb3_14), (42, wb3_2), (51, wb3_21), (87, wb3_16)], 122⟩) 
theorem w1_3_1o1 : mok [(0, 3, 1), (4, 9, 3)] (lenL 1 1 8 ++ []) wN1 21 w1_3_1m1 = true := by kernel_rfl
def w1_3_1m2 : Memo :=  (⟨[(.ag [(.i .i64 2), (.sl 51 0 7 (.u 4)), (.sl 25 0 2 (.u 1))]), (.c (.sl 42 0 2 (.u 1)))], [(25, wb3_17), (42, wb3_2), (51, wb3_21)], 122, (.c (.sl 124 0 2 (.n 2))), [(25, wb3_17), (42, wb3_2), (51, wb3_21), (124, wb3_18)], 159⟩) 
theorem w1_3_1o2 : mok [(0, 3, 1), (4, 9, 3)] (lenL 1 1 8 ++ []) wN1 21 w1_3_1m2 = true := by kernel_rfl
def w1_3_1ms : List (Nat × List Memo) := [(21, [w1_3_1m0, w1_3_1m1, w1_3_1m2])]
theorem w1_3_1mo : AllMem (memRun [(0, 3, 1), (4, 9, 3)] (lenL 1 1 8 ++ []) wN1) w1_3_1ms := ⟨⟨w1_3_1o0, w1_3_1o1, w1_3_1o2, trivial⟩, trivial⟩
theorem w1_3_1 : lawRunM 9 10 200 [.i, .q, .b, .q, .i] [(0, 3, 1), (4, 9, 3)] (lenL 1 1 8 ++ []) wN1 w1_3_1ms = true := by kernel_rfl
def w1_4_1m0 : Memo :=  (⟨[(.ag [(.i .i64 2), (.sl 11 0 4 (.u 4)), (.sl 10 0 2 (.u 1))]), (.c (.sl 42 0 2 (.u 1)))], [(10, wb3_14), (11, wb3_15), (42, wb3_2)], 63, (.c (.sl 65 0 2 (.n 2))), [(10, wb3_14), (11, wb3_15), (42, wb3_2), (65, wb3_16)], 88⟩) 
theorem w1_4_1o0 : mok [(0, 3, 1), (4, 9, 4)] (lenL 1 1 8 ++ []) wN1 21 w1_4_1m0 = true := by kernel_rfl
def w1_4_1m1 : Memo :=  (⟨[(.ag [(.i .i64 2), (.sl 53 0 8 (.u 4)), (.sl 25 0 2 (.u 1))]), (.c (.sl 42 0 2 (.u 1)))], [(25, wb3_14), (42, wb3_2), (53, wb3_22)], 88, (.c (.sl 90 0 2 (.n 2))), [(25, wb3_14), (42, wb3_2), (53, wb3_22), (90, wb3_16)], 129⟩) 
theorem w1_4_1o1 : mok [(0, 3, 1), (4, 9, 4)] (lenL 1 1 8 ++ []) wN1 21 w1_4_1m1 = true := by kernel_rfl
def w1_4_1m2 : Memo :=  (⟨[(.ag [(.i .i64 2), (.sl 53 0 8 (.u 4)), (.sl 25 0 2 (.u 1))]), (.c (.sl 42 0 2 (.u 1)))], [(25, wb3_17), (42, wb3_2), (53, wb3_22)], 129, (.c (.sl 131 0 2 (.n 2))), [(25, wb3_17), (42, wb3_2), (53, wb3_22), (131, wb3_18)], 170⟩) 
theorem w1_4_1o2 : mok [(0, 3, 1), (4, 9, 4)] (lenL 1 1 8 ++ []) wN1 21 w1_4_1m2 = true := by kernel_rfl
def w1_4_1ms : List (Nat × List Memo) := [(21, [w1_4_1m0, w1_4_1m1, w1_4_1m2])]
theorem w1_4_1mo : AllMem (memRun [(0, 3, 1), (4, 9, 4)] (lenL 1 1 8 ++ []) wN1) w1_4_1ms := ⟨⟨w1_4_1o0, w1_4_1o1, w1_4_1o2, trivial⟩, trivial⟩
theorem w1_4_1 : lawRunM 9 10 200 [.i, .q, .b, .q, .i] [(0, 3, 1), (4, 9, 4)] (lenL 1 1 8 ++ []) wN1 w1_4_1ms = true := by kernel_rfl
def w1_5_1m0 : Memo :=  (⟨[(.ag [(.i .i64 2), (.sl 11 0 4 (.u 4)), (.sl 10 0 2 (.u 1))]), (.c (.sl 42 0 2 (.u 1)))], [(10, wb3_14), (11, wb3_15), (42, wb3_2)], 66, (.c (.sl 68 0 2 (.n 2))), [(10, wb3_14), (11, wb3_15), (42, wb3_2), (68, wb3_16)], 91⟩) 
theorem w1_5_1o0 : mok [(0, 3, 1), (4, 9, 5)] (lenL 1 1 8 ++ []) wN1 21 w1_5_1m0 = true := by kernel_rfl
def w1_5_1m1 : Memo :=  (⟨[(.ag [(.i .i64 2), (.sl 55 0 9 (.u 4)), (.sl 25 0 2 (.u 1))]), (.c (.sl 42 0 2 (.u 1)))], [(25, wb3_14), (42, wb3_2), (55, wb3_23)], 91, (.c (.sl 93 0 2 (.n 2))), [(25, wb3_14), (42, wb3_2), (55, wb3_23), (93, wb3_16)], 136⟩) 
theorem w1_5_1o1 : mok [(0, 3, 1), (4, 9, 5)] (lenL 1 1 8 ++ []) wN1 21 w1_5_1m1 = true := by kernel_rfl
def w1_5_1m2 : Memo :=  (⟨[(.ag [(.i .i64 2), (.sl 55 0 9 (.u 4)), (.sl 25 0 2 (.u 1))]), (.c (.sl 42 0 2 (.u 1)))], [(25, wb3_17), (42, wb3_2), (55, wb3_23)], 136, (.c (.sl 138 0 2 (.n 2))), [(25, wb3_17), (42, wb3_2), (55, wb3_23), (138, wb3_18)], 181⟩) 
theorem w1_5_1o2 : mok [(0, 3, 1), (4, 9, 5)] (lenL 1 1 8 ++ []) wN1 21 w1_5_1m2 = true := by kernel_rfl
def w1_5_1ms : List (Nat × List Memo) := [(21, [w1_5_1m0, w1_5_1m1, w1_5_1m2])]
theorem w1_5_1mo : AllMem (memRun [(0, 3, 1), (4, 9, 5)] (lenL 1 1 8 ++ []) wN1) w1_5_1ms := ⟨⟨w1_5_1o0, w1_5_1o1, w1_5_1o2, trivial⟩, trivial⟩
theorem w1_5_1 : lawRunM 9 10 200 [.i, .q, .b, .q, .i] [(0, 3, 1), (4, 9, 5)] (lenL 1 1 8 ++ []) wN1 w1_5_1ms = true := by kernel_rfl
def w1_6_1m0 : Memo :=  (⟨[(.ag [(.i .i64 2), (.sl 11 0 4 (.u 4)), (.sl 10 0 2 (.u 1))]), (.c (.sl 42 0 2 (.u 1)))], [(10, wb3_14), (11, wb3_15), (42, wb3_2)], 69, (.c (.sl 71 0 2 (.n 2))), [(10, wb3_14), (11, wb3_15), (42, wb3_2), (71, wb3_16)], 94⟩) 
theorem w1_6_1o0 : mok [(0, 3, 1), (4, 9, 6)] (lenL 1 1 8 ++ []) wN1 21 w1_6_1m0 = true := by kernel_rfl
def w1_6_1m1 : Memo :=  (⟨[(.ag [(.i .i64 2), (.sl 57 0 10 (.u 4)), (.sl 25 0 2 (.u 1))]), (.c (.sl 42 0 2 (.u 1)))], [(25, wb3_14), (42, wb3_2), (57, wb3_24)], 94, (.c (.sl 96 0 2 (.n 2))), [(25, wb3_14), (42, wb3_2), (57, wb3_24), (96, wb3_16)], 143⟩) 
theorem w1_6_1o1 : mok [(0, 3, 1), (4, 9, 6)] (lenL 1 1 8 ++ []) wN1 21 w1_6_1m1 = true := by kernel_rfl
def w1_6_1m2 : Memo :=  (⟨[(.ag [(.i .i64 2), (.sl 57 0 10 (.u 4)), (.sl 25 0 2 (.u 1))]), (.c (.sl 42 0 2 (.u 1)))], [(25, wb3_17), (42, wb3_2), (57, wb3_24)], 143, (.c (.sl 145 0 2 (.n 2))), [(25, wb3_17), (42, wb3_2), (57, wb3_24), (145, wb3_18)], 192⟩) 
theorem w1_6_1o2 : mok [(0, 3, 1), (4, 9, 6)] (lenL 1 1 8 ++ []) wN1 21 w1_6_1m2 = true := by kernel_rfl
def w1_6_1ms : List (Nat × List Memo) := [(21, [w1_6_1m0, w1_6_1m1, w1_6_1m2])]
theorem w1_6_1mo : AllMem (memRun [(0, 3, 1), (4, 9, 6)] (lenL 1 1 8 ++ []) wN1) w1_6_1ms := ⟨⟨w1_6_1o0, w1_6_1o1, w1_6_1o2, trivial⟩, trivial⟩
theorem w1_6_1 : lawRunM 9 10 200 [.i, .q, .b, .q, .i] [(0, 3, 1), (4, 9, 6)] (lenL 1 1 8 ++ []) wN1 w1_6_1ms = true := by kernel_rfl
def w1_7_1m0 : Memo :=  (⟨[(.ag [(.i .i64 2), (.sl 11 0 4 (.u 4)), (.sl 10 0 2 (.u 1))]), (.c (.sl 42 0 2 (.u 1)))], [(10, wb3_14), (11, wb3_15), (42, wb3_2)], 72, (.c (.sl 74 0 2 (.n 2))), [(10, wb3_14), (11, wb3_15), (42, wb3_2), (74, wb3_16)], 97⟩) 
theorem w1_7_1o0 : mok [(0, 3, 1), (4, 9, 7)] (lenL 1 1 8 ++ []) wN1 21 w1_7_1m0 = true := by kernel_rfl
def w1_7_1m1 : Memo :=  (⟨[(.ag [(.i .i64 2), (.sl 59 0 11 (.u 4)), (.sl 25 0 2 (.u 1))]), (.c (.sl 42 0 2 (.u 1)))], [(25, wb3_14), (42, wb3_2), (59, wb3_25)], 97, (.c (.sl 99 0 2 (.n 2))), [(25, wb3_14), (42, wb3_2), (59, wb3_25), (99, wb3_16)], 150⟩) 
theorem w1_7_1o1 : mok [(0, 3, 1), (4, 9, 7)] (lenL 1 1 8 ++ []) wN1 21 w1_7_1m1 = true := by kernel_rfl
def w1_7_1m2 : Memo :=  (⟨[(.ag [(.i .i64 2), (.sl 59 0 11 (.u 4)), (.sl 25 0 2 (.u 1))]), (.c (.sl 42 0 2 (.u 1)))], [(25, wb3_17), (42, wb3_2), (59, wb3_25)], 150, (.c (.sl 152 0 2 (.n 2))), [(25, wb3_17), (42, wb3_2), (59, wb3_25), (152, wb3_18)], 203⟩) 
theorem w1_7_1o2 : mok [(0, 3, 1), (4, 9, 7)] (lenL 1 1 8 ++ []) wN1 21 w1_7_1m2 = true := by kernel_rfl
def w1_7_1ms : List (Nat × List Memo) := [(21, [w1_7_1m0, w1_7_1m1, w1_7_1m2])]
theorem w1_7_1mo : AllMem (memRun [(0, 3, 1), (4, 9, 7)] (lenL 1 1 8 ++ []) wN1) w1_7_1ms := ⟨⟨w1_7_1o0, w1_7_1o1, w1_7_1o2, trivial⟩, trivial⟩
theorem w1_7_1 : lawRunM 9 10 200 [.i, .q, .b, .q, .i] [(0, 3, 1), (4, 9, 7)] (lenL 1 1 8 ++ []) wN1 w1_7_1ms = true := by kernel_rfl
def w1_8_1m0 : Memo :=  (⟨[(.ag [(.i .i64 2), (.sl 11 0 4 (.u 4)), (.sl 10 0 2 (.u 1))]), (.c (.sl 42 0 2 (.u 1)))], [(10, wb3_14), (11, wb3_15), (42, wb3_2)], 75, (.c (.sl 77 0 2 (.n 2))), [(10, wb3_14), (11, wb3_15), (42, wb3_2), (77, wb3_16)], 100⟩) 
theorem w1_8_1o0 : mok [(0, 3, 1), (4, 9, 8)] (lenL 1 1 8 ++ []) wN1 21 w1_8_1m0 = true := by kernel_rfl
def w1_8_1m1 : Memo :=  (⟨[(.ag [(.i .i64 2), (.sl 61 0 12 (.u 4)), (.sl 25 0 2 (.u 1))]), (.c (.sl 42 0 2 (.u 1)))], [(25, wb3_14), (42, wb3_2), (61, wb3_26)], 100, (.c (.sl 102 0 2 (.n 2))), [(25, wb3_14), (42, wb3_2), (61, wb3_26), (102, wb3_16)], 157⟩) 
theorem w1_8_1o1 : mok [(0, 3, 1), (4, 9, 8)] (lenL 1 1 8 ++ []) wN1 21 w1_8_1m1 = true := by kernel_rfl
def w1_8_1m2 : Memo :=  (⟨[(.ag [(.i .i64 2), (.sl 61 0 12 (.u 4)), (.sl 25 0 2 (.u 1))]), (.c (.sl 42 0 2 (.u 1)))], [(25, wb3_17), (42, wb3_2), (61, wb3_26)], 157, (.c (.sl 159 0 2 (.n 2))), [(25, wb3_17), (42, wb3_2), (61, wb3_26), (159, wb3_18)], 214⟩) 
theorem w1_8_1o2 : mok [(0, 3, 1), (4, 9, 8)] (lenL 1 1 8 ++ []) wN1 21 w1_8_1m2 = true := by kernel_rfl
def w1_8_1ms : List (Nat × List Memo) := [(21, [w1_8_1m0, w1_8_1m1, w1_8_1m2])]
theorem w1_8_1mo : AllMem (memRun [(0, 3, 1), (4, 9, 8)] (lenL 1 1 8 ++ []) wN1) w1_8_1ms := ⟨⟨w1_8_1o0, w1_8_1o1, w1_8_1o2, trivial⟩, trivial⟩
theorem w1_8_1 : lawRunM 9 10 200 [.i, .q, .b, .q, .i] [(0, 3, 1), (4, 9, 8)] (lenL 1 1 8 ++ []) wN1 w1_8_1ms = true := by kernel_rfl
def w1_0_2m0 : Memo :=  (⟨[(.ag [(.i .i64 2), (.sl 11 0 5 (.u 4)), (.sl 10 0 2 (.u 1))]), (.c (.sl 48 0 2 (.u 1)))], [(10, wb3_27), (11, wb3_28), (48, wb3_2)], 58, (.c (.sl 60 0 2 (.n 2))), [(10, wb3_27), (11, wb3_28), (48, wb3_2), (60, wb3_29)], 87⟩) 
theorem w1_0_2o0 : mok [(0, 3, 1), (4, 9, 0)] (lenL 1 2 8 ++ []) wN1 21 w1_0_2m0 = true := by kernel_rfl
def w1_0_2m1 : Memo :=  (⟨[(.ag [(.i .i64 2), (.sl 29 0 5 (.u 4)), (.sl 28 0 2 (.u 1))]), (.c (.sl 48 0 2 (.u 1)))], [(28, wb3_27), (29, wb3_28), (48, wb3_2)], 87, (.c (.sl 89 0 2 (.n 2))), [(28, wb3_27), (29, wb3_28), (48, wb3_2), (89, wb3_29)], 116⟩) 
theorem w1_0_2o1 : mok [(0, 3, 1), (4, 9, 0)] (lenL 1 2 8 ++ []) wN1 21 w1_0_2m1 = true := by kernel_rfl
def w1_0_2m2 : Memo :=  (⟨[(.ag [(.i .i64 2), (.sl 29 0 5 (.u 4)), (.sl 28 0 2 (.u 1))]), (.c (.sl 48 0 2 (.u 1)))], [(28, wb3_30), (29, wb3_28), (48, wb3_2)], 116, (.c (.sl 118 0 2 (.n 2))), [(28, wb3_30), (29, wb3_28), (48, wb3_2), (118, wb3_31)], 145⟩) 
theorem w1_0_2o2 : mok [(0, 3, 1), (4, 9, 0)] (lenL 1 2 8 ++ []) wN1 21 w1_0_2m2 = true := by kernel_rfl
def w1_0_2ms : List (Nat × List Memo) := [(21, [w1_0_2m0, w1_0_2m1, w1_0_2m2])]
theorem w1_0_2mo : AllMem (memRun [(0, 3, 1), (4, 9, 0)] (lenL 1 2 8 ++ []) wN1) w1_0_2ms := ⟨⟨w1_0_2o0, w1_0_2o1, w1_0_2o2, trivial⟩, trivial⟩
theorem w1_0_2 : lawRunM 9 10 200 [.i, .q, .b, .q, .i] [(0, 3, 1), (4, 9, 0)] (lenL 1 2 8 ++ []) wN1 w1_0_2ms = true := by kernel_rfl
def w1_1_2m0 : Memo :=  (⟨[(.ag [(.i .i64 2), (.sl 11 0 5 (.u 4)), (.sl 10 0 2 (.u 1))]), (.c (.sl 48 0 2 (.u 1)))], [(10, wb3_27), (11, wb3_28), (48, wb3_2)], 61, (.c (.sl 63 0 2 (.n 2))), [(10, wb3_27), (11, wb3_28), (48, wb3_2), (63, wb3_29)], 90⟩) 
theorem w1_1_2o0 : mok [(0, 3, 1), (4, 9, 1)] (lenL 1 2 8 ++ []) wN1 21 w1_1_2m0 = true := by kernel_rfl
def w1_1_2m1 : Memo :=  (⟨[(.ag [(.i .i64 2), (.sl 53 0 6 (.u 4)), (.sl 28 0 2 (.u 1))]), (.c (.sl 48 0 2 (.u 1)))], [(28, wb3_27), (48, wb3_2), (53, wb3_32)], 90, (.c (.sl 92 0 2 (.n 2))), [(28, wb3_27), (48, wb3_2), (53, wb3_32), (92, wb3_29)], 123⟩) 
theorem w1_1_2o1 : mok [(0, 3, 1), (4, 9, 1)] (lenL 1 2 8 ++ []) wN1 21 w1_1_2m1 = true := by kernel_rfl
def w1_1_2m2 : Memo :=  (⟨[(.ag [(.i .i64 2), (.sl 53 0 6 (.u 4)), (.sl 28 0 2 (.u 1))]), (.c (.sl 48 0 2 (.u 1)))], [(28, wb3_30), (48, wb3_2), (53, wb3_32)], 123, (.c (.sl 125 0 2 (.n 2))), [(28, wb3_30), (48, wb3_2), (53, wb3_32), (125, wb3_31)], 156⟩) 
theorem w1_1_2o2 : mok [(0, 3, 1), (4, 9, 1)] (lenL 1 2 8 ++ []) wN1 21 w1_1_2m2 = true := by kernel_rfl
def w1_1_2ms : List (Nat × List Memo) := [(21, [w1_1_2m0, w1_1_2m1, w1_1_2m2])]
theorem w1_1_2mo : AllMem (memRun [(0, 3, 1), (4, 9, 1)] (lenL 1 2 8 ++ []) wN1) w1_1_2ms := ⟨⟨w1_1_2o0, w1_1_2o1, w1_1_2o2, trivial⟩, trivial⟩
theorem w1_1_2 : lawRunM 9 10 200 [.i, .q, .b, .q, .i] [(0, 3, 1), (4, 9, 1)] (lenL 1 2 8 ++ []) wN1 w1_1_2ms = true := by kernel_rfl
def w1_2_2m0 : Memo :=  (⟨[(.ag [(.i .i64 2), (.sl 11 0 5 (.u 4)), (.sl 10 0 2 (.u 1))]), (.c (.sl 48 0 2 (.u 1)))], [(10, wb3_27), (11, wb3_28), (48, wb3_2)], 64, (.c (.sl 66 0 2 (.n 2))), [(10, wb3_27), (11, wb3_28), (48, wb3_2), (66, wb3_29)], 93⟩) 
theorem w1_2_2o0 : mok [(0, 3, 1), (4, 9, 2)] (lenL 1 2 8 ++ []) wN1 21 w1_2_2m0 = true := by kernel_rfl
def w1_2_2m1 : Memo :=  (⟨[(.ag [(.i .i64 2), (.sl 55 0 7 (.u 4)), (.sl 28 0 2 (.u 1))]), (.c (.sl 48 0 2 (.u 1)))], [(28, wb3_27), (48, wb3_2), (55, wb3_33)], 93, (.c (.sl 95 0 2 (.n 2))), [(28, wb3_27), (48, wb3_2), (55, wb3_33), (95, wb3_29)], 130⟩) 
theorem w1_2_2o1 : mok [(0, 3, 1), (4, 9, 2)] (lenL 1 2 8 ++ []) wN1 21 w1_2_2m1 = true := by kernel_rfl
def w1_2_2m2 : Memo :=  (⟨[(.ag [(.i .i64 2), (.sl 55 0 7 (.u 4)), (.sl 28 0 2 (.u 1))]), (.c (.sl 48 0 2 (.u 1)))], [(28, wb3_30), (48, wb3_2), (55, wb3_33)], 130, (.c (.sl 132 0 2 (.n 2))), [(28, wb3_30), (48, wb3_2), (55, wb3_33), (132, wb3_31)], 167⟩) 
theorem w1_2_2o2 : mok [(0, 3, 1), (4, 9, 2)] (lenL 1 2 8 ++ []) wN1 21 w1_2_2m2 = true := by kernel_rfl
def w1_2_2ms : List (Nat × List Memo) := [(21, [w1_2_2m0, w1_2_2m1, w1_2_2m2])]
theorem w1_2_2mo : AllMem (memRun [(0, 3, 1), (4, 9, 2)] (lenL 1 2 8 ++ []) wN1) w1_2_2ms := ⟨⟨w1_2_2o0, w1_2_2o1, w1_2_2o2, trivial⟩, trivial⟩
theorem w1_2_2 : lawRunM 9 10 200 [.i, .q, .b, .q, .i] [(0, 3, 1), (4, 9, 2)] (lenL 1 2 8 ++ []) wN1 w1_2_2ms = true := by kernel_rfl
def w1_3_2m0 : Memo :=  (⟨[(.ag [(.i .i64 2), (.sl 11 0 5 (.u 4)), (.sl 10 0 2 (.u 1))]), (.c (.sl 48 0 2 (.u 1)))], [(10, wb3_27), (11, wb3_28), (48, wb3_2)], 67, (.c (.sl 69 0 2 (.n 2))), [(10, wb3_27), (11, wb3_28), (48, wb3_2), (69, wb3_29)], 96⟩) 
theorem w1_3_2o0 : mok [(0, 3, 1), (4, 9, 3)] (lenL 1 2 8 ++ []) wN1 21 w1_3_2m0 = true := by kernel_rfl
def w1_3_2m1 : Memo :=  (⟨[(.ag [(.i .i64 2), (.sl 57 0 8 (.u 4)), (.sl 28 0 2 (.u 1))]), (.c (.sl 48 0 2 (.u 1)))], [(28, wb3_27), (48, wb3_2), (57, wb3_34)], 96, (.c (.sl 98 0 2 (.n 2))), [(28, wb3_27), (48, wb3_2), (57, wb3_34), (98, wb3_29)], 137⟩) 
theorem w1_3_2o1 : mok [(0, 3, 1), (4, 9, 3)] (lenL 1 2 8 ++ []) wN1 21 w1_3_2m1 = true := by kernel_rfl
def w1_3_2m2 : Memo :=  (⟨[(.ag [(.i .i64 2), (.sl 57 0 8 (.u 4)), (.sl 28 0 2 (.u 1))]), (.c (.sl 48 0 2 (.u 1)))], [(28, wb3_30), (48, wb3_2), (57, wb3_34)], 137, (.c (.sl 139 0 2 (.n 2))), [(28, wb3_30), (48, wb3_2), (57, wb3_34), (139, wb3_31)], 178⟩) 
theorem w1_3_2o2 : mok [(0, 3, 1), (4, 9, 3)] (lenL 1 2 8 ++ []) wN1 21 w1_3_2m2 = true := by kernel_rfl
def w1_3_2ms : List (Nat × List Memo) := [(21, [w1_3_2m0, w1_3_2m1, w1_3_2m2])]
theorem w1_3_2mo : AllMem (memRun [(0, 3, 1), (4, 9, 3)] (lenL 1 2 8 ++ []) wN1) w1_3_2ms := ⟨⟨w1_3_2o0, w1_3_2o1, w1_3_2o2, trivial⟩, trivial⟩
theorem w1_3_2 : lawRunM 9 10 200 [.i, .q, .b, .q, .i] [(0, 3, 1), (4, 9, 3)] (lenL 1 2 8 ++ []) wN1 w1_3_2ms = true := by kernel_rfl
def w1_4_2m0 : Memo :=  (⟨[(.ag [(.i .i64 2), (.sl 11 0 5 (.u 4)), (.sl 10 0 2 (.u 1))]), (.c (.sl 48 0 2 (.u 1)))], [(10, wb3_27), (11, wb3_28), (48, wb3_2)], 70, (.c (.sl 72 0 2 (.n 2))), [(10, wb3_27), (11, wb3_28), (48, wb3_2), (72, wb3_29)], 99⟩) 
theorem w1_4_2o0 : mok [(0, 3, 1), (4, 9, 4)] (lenL 1 2 8 ++ []) wN1 21 w1_4_2m0 = true := by kernel_rfl
def w1_4_2m1 : Memo :=  (⟨[(.ag [(.i .i64 2), (.sl 59 0 9 (.u 4)), (.sl 28 0 2 (.u 1))]), (.c (.sl 48 0 2 (.u 1)))], [(28, wb3_27), (48, wb3_2), (59, wb3_35)], 99, (.c (.sl 101 0 2 (.n 2))), [(28, wb3_27), (48, wb3_2), (59, wb3_35), (101, wb3_29)], 144⟩) 
theorem w1_4_2o1 : mok [(0, 3, 1), (4, 9, 4)] (lenL 1 2 8 ++ []) wN1 21 w1_4_2m1 = true := by kernel_rfl
def w1_4_2m2 : Memo :=  (⟨[(.ag [(.i .i64 2), (.sl 59 0 9 (.u 4)), (.sl 28 0 2 (.u 1))]), (.c (.sl 48 0 2 (.u 1)))], [(28, wb3_30), (48, wb3_2), (59, wb3_35)], 144, (.c (.sl 146 0 2 (.n 2))), [(28, wb3_30), (48, wb3_2), (59, wb3_35), (146, wb3_31)], 189⟩) 
theorem w1_4_2o2 : mok [(0, 3, 1), (4, 9, 4)] (lenL 1 2 8 ++ []) wN1 21 w1_4_2m2 = true := by kernel_rfl
def w1_4_2ms : List (Nat × List Memo) := [(21, [w1_4_2m0, w1_4_2m1, w1_4_2m2])]
theorem w1_4_2mo : AllMem (memRun [(0, 3, 1), (4, 9, 4)] (lenL 1 2 8 ++ []) wN1) w1_4_2ms := ⟨⟨w1_4_2o0, w1_4_2o1, w1_4_2o2, trivial⟩, trivial⟩
theorem w1_4_2 : lawRunM 9 10 200 [.i, .q, .b, .q, .i] [(0, 3, 1), (4, 9, 4)] (lenL 1 2 8 ++ []) wN1 w1_4_2ms = true := by kernel_rfl
def w1_5_2m0 : Memo :=  (⟨[(.ag [(.i .i64 2), (.sl 11 0 5 (.u 4)), (.sl 10 0 2 (.u 1))]), (.c (.sl 48 0 2 (.u 1)))], [(10, wb3_27), (11, wb3_28), (48, wb3_2)], 73, (.c (.sl 75 0 2 (.n 2))), [(10, wb3_27), (11, wb3_28), (48, wb3_2), (75, wb3_29)], 102⟩) 
theorem w1_5_2o0 : mok [(0, 3, 1), (4, 9, 5)] (lenL 1 2 8 ++ []) wN1 21 w1_5_2m0 = true := by kernel_rfl
def w1_5_2m1 : Memo :=  (⟨[(.ag [(.i .i64 2), (.sl 61 0 10 (.u 4)), (.sl 28 0 2 (.u 1))]), (.c (.sl 48 0 2 (.u 1)))], [(28, wb3_27), (48, wb3_2), (61, wb3_36)], 102, (.c (.sl 104 0 2 (.n 2))), [(28, wb3_27), (48, wb3_2), (61, wb3_36), (104, wb3_29)], 151⟩) 
theorem w1_5_2o1 : mok [(0, 3, 1), (4, 9, 5)] (lenL 1 2 8 ++ []) wN1 21 w1_5_2m1 = true := by kernel_rfl
def w1_5_2m2 : Memo :=  (⟨[(.ag [(.i .i64 2), (.sl 61 0 10 (.u 4)), (.sl 28 0 2 (.u 1))]), (.c (.sl 48 0 2 (.u 1)))], [(28, wb3_30), (48, wb3_2), (61, wb3_36)], 151, (.c (.sl 153 0 2 (.n 2))), [(28, wb3_30), (48, wb3_2), (61, wb3_36), (153, wb3_31)], 200⟩) 
theorem w1_5_2o2 : mok [(0, 3, 1), (4, 9, 5)] (lenL 1 2 8 ++ []) wN1 21 w1_5_2m2 = true := by kernel_rfl
def w1_5_2ms : List (Nat × List Memo) := [(21, [w1_5_2m0, w1_5_2m1, w1_5_2m2])]
theorem w1_5_2mo : AllMem (memRun [(0, 3, 1), (4, 9, 5)] (lenL 1 2 8 ++ []) wN1) w1_5_2ms := ⟨⟨w1_5_2o0, w1_5_2o1, w1_5_2o2, trivial⟩, trivial⟩
theorem w1_5_2 : lawRunM 9 10 200 [.i, .q, .b, .q, .i] [(0, 3, 1), (4, 9, 5)] (lenL 1 2 8 ++ []) wN1 w1_5_2ms = true := by kernel_rfl
def w1_6_2m0 : Memo :=  (⟨[(.ag [(.i .i64 2), (.sl 11 0 5 (.u 4)), (.sl 10 0 2 (.u 1))]), (.c (.sl 48 0 2 (.u 1)))], [(10, wb3_27), (11, wb3_28), (48, wb3_2)], 76, (.c (.sl 78 0 2 (.n 2))), [(10, wb3_27), (11, wb3_28), (48, wb3_2), (78, wb3_29)], 105⟩) 
theorem w1_6_2o0 : mok [(0, 3, 1), (4, 9, 6)] (lenL 1 2 8 ++ []) wN1 21 w1_6_2m0 = true := by kernel_rfl
def w1_6_2m1 : Memo :=  (⟨[(.ag [(.i .i64 2), (.sl 63 0 11 (.u 4)), (.sl 28 0 2 (.u 1))]), (.c (.sl 48 0 2 (.u 1)))], [(28, wb3_27), (48, wb3_2), (63, wb3_37)], 105, (.c (.sl 107 0 2 (.n 2))), [(28, wb3_27), (48, wb3_2), (63, wb3_37), (107, wb3_29)], 158⟩) 
theorem w1_6_2o1 : mok [(0, 3, 1), (4, 9, 6)] (lenL 1 2 8 ++ []) wN1 21 w1_6_2m1 = true := by kernel_rfl
def w1_6_2m2 : Memo :=  (⟨[(.ag [(.i .i64 2), (.sl 63 0 11 (.u 4)), (.sl 28 0 2 (.u 1))]), (.c (.sl 48 0 2 (.u 1)))], [(28, wb3_30), (48, wb3_2), (63, wb3_37)], 158, (.c (.sl 160 0 2 (.n 2))), [(28, wb3_30), (48, wb3_2), (63, wb3_37), (160, wb3_31)], 211⟩) 
theorem w1_6_2o2 : mok [(0, 3, 1), (4, 9, 6)] (lenL 1 2 8 ++ []) wN1 21 w1_6_2m2 = true := by kernel_rfl
def w1_6_2ms : List (Nat × List Memo) := [(21, [w1_6_2m0, w1_6_2m1, w1_6_2m2])]
theorem w1_6_2mo : AllMem (memRun [(0, 3, 1), (4, 9, 6)] (lenL 1 2 8 ++ []) wN1) w1_6_2ms := ⟨⟨w1_6_2o0, w1_6_2o1, w1_6_2o2, trivial⟩, trivial⟩
theorem w1_6_2 : lawRunM 9 10 200 [.i, .q, .b, .q, .i] [(0, 3, 1), (4, 9, 6)] (lenL 1 2 8 ++ []) wN1 w1_6_2ms = true := by kernel_rfl
def w1_7_2m0 : Memo :=  (⟨[(.ag [(.i .i64 2), (.sl 11 0 5 (.u 4)), (.sl 10 0 2 (.u 1))]), (.c (.sl 48 0 2 (.u 1)))], [(10, wb3_27), (11, wb3_28), (48, wb3_2)], 79, (.c (.sl 81 0 2 (.n 2))), [(10, wb3_27), (11, wb3_28), (48, wb3_2), (81, wb3_29)], 108⟩) 
theorem w1_7_2o0 : mok [(0, 3, 1), (4, 9, 7)] (lenL 1 2 8 ++ []) wN1 21 w1_7_2m0 = true := by kernel_rfl
def w1_7_2m1 : Memo :=  (⟨[(.ag [(.i .i64 2), (.sl 65 0 12 (.u 4)), (.sl 28 0 2 (.u 1))]), (.c (.sl 48 0 2 (.u 1)))], [(28, wb3_27), (48, wb3_2), (65, wb3_38)], 108, (.c (.sl 110 0 2 (.n 2))), [(28, wb3_27), (48, wb3_2), (65, wb3_38), (110, wb3_29)], 165⟩) 
theorem w1_7_2o1 : mok [(0, 3, 1), (4, 9, 7)] (lenL 1 2 8 ++ []) wN1 21 w1_7_2m1 = true := by kernel_rfl
def w1_7_2m2 : Memo :=  (⟨[(.ag [(.i .i64 2), (.sl 65 0 12 (.u 4)), (.sl 28 0 2 (.u 1))]), (.c (.sl 48 0 2 (.u 1)))], [(28, wb3_30), (48, wb3_2), (65, wb3_38)], 165, (.c (.sl 167 0 2 (.n 2))), [(28, wb3_30), (48, wb3_2), (65, wb3_38), (167, wb3_31)], 222⟩) 
theorem w1_7_2o2 : mok [(0, 3, 1), (4, 9, 7)] (lenL 1 2 8 ++ []) wN1 21 w1_7_2m2 = true := by kernel_rfl
def w1_7_2ms : List (Nat × List Memo) := [(21, [w1_7_2m0, w1_7_2m1, w1_7_2m2])]
theorem w1_7_2mo : AllMem (memRun [(0, 3, 1), (4, 9, 7)] (lenL 1 2 8 ++ []) wN1) w1_7_2ms := ⟨⟨w1_7_2o0, w1_7_2o1, w1_7_2o2, trivial⟩, trivial⟩
theorem w1_7_2 : lawRunM 9 10 200 [.i, .q, .b, .q, .i] [(0, 3, 1), (4, 9, 7)] (lenL 1 2 8 ++ []) wN1 w1_7_2ms = true := by kernel_rfl
def w1_8_2m0 : Memo :=  (⟨[(.ag [(.i .i64 2), (.sl 11 0 5 (.u 4)), (.sl 10 0 2 (.u 1))]), (.c (.sl 48 0 2 (.u 1)))], [(10, wb3_27), (11, wb3_28), (48, wb3_2)], 82, (.c (.sl 84 0 2 (.n 2))), [(10, wb3_27), (11, wb3_28), (48, wb3_2), (84, wb3_29)], 111⟩) 
theorem w1_8_2o0 : mok [(0, 3, 1), (4, 9, 8)] (lenL 1 2 8 ++ []) wN1 21 w1_8_2m0 = true := by kernel_rfl
def w1_8_2m1 : Memo :=  (⟨[(.ag [(.i .i64 2), (.sl 67 0 13 (.u 4)), (.sl 28 0 2 (.u 1))]), (.c (.sl 48 0 2 (.u 1)))], [(28, wb3_27), (48, wb3_2), (67, wb3_39)], 111, (.c (.sl 113 0 2 (.n 2))), [(28, wb3_27), (48, wb3_2), (67, wb3_39), (113, wb3_29)], 172⟩) 
theorem w1_8_2o1 : mok [(0, 3, 1), (4, 9, 8)] (lenL 1 2 8 ++ []) wN1 21 w1_8_2m1 = true := by kernel_rfl
def w1_8_2m2 : Memo :=  (⟨[(.ag [(.i .i64 2), (.sl 67 0 13 (.u 4)), (.sl 28 0 2 (.u 1))]), (.c (.sl 48 0 2 (.u 1)))], [(28, wb3_30), (48, wb3_2), (67, wb3_39)], 172, (.c (.sl 174 0 2 (.n 2))), [(28, wb3_30), (48, wb3_2), (67, wb3_39), (174, wb3_31)], 233⟩) 
theorem w1_8_2o2 : mok [(0, 3, 1), (4, 9, 8)] (lenL 1 2 8 ++ []) wN1 21 w1_8_2m2 = true := by kernel_rfl
def w1_8_2ms : List (Nat × List Memo) := [(21, [w1_8_2m0, w1_8_2m1, w1_8_2m2])]
theorem w1_8_2mo : AllMem (memRun [(0, 3, 1), (4, 9, 8)] (lenL 1 2 8 ++ []) wN1) w1_8_2ms := ⟨⟨w1_8_2o0, w1_8_2o1, w1_8_2o2, trivial⟩, trivial⟩
theorem w1_8_2 : lawRunM 9 10 200 [.i, .q, .b, .q, .i] [(0, 3, 1), (4, 9, 8)] (lenL 1 2 8 ++ []) wN1 w1_8_2ms = true := by kernel_rfl
end Go.Proofs.Yticbgaflhiokgaa
