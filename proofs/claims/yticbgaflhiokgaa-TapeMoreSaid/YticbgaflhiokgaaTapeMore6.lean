/-
  'TapeMore': runs of it, part 6.
-/
import Derived.Test.YticbgaflhiokgaaTapeMoret2
namespace Go.Proofs.Yticbgaflhiokgaa
open Go.RowKit Ex
set_option maxRecDepth 1000000
set_option maxHeartbeats 100000000
def wm6_0 : E := (.ib .quo .i64 (.vi 0) (.li 3))
def wm6_1 : E := (.ai 9 0 (.ci (.ib .add .i64 wm6_0 (.li 0)) (.ci (.li 3) .n0)))
def wm6_2 : E := (.ai 9 0 (.ci (.ib .add .i64 wm6_0 (.li 1)) (.ci (.li 3) .n0)))
def wm6_3 : E := (.ai 9 0 (.ci (.ib .add .i64 wm6_0 (.li 2)) (.ci (.li 3) .n0)))
def wm6_4 : E := (.ib .quo .i64 (.vi 4) (.li 9))
def wm6_5 : E := (.ic .eql (.ai 9 0 (.ci (.at 1 0) (.ci (.li 11) .n0))) (.li 0))
def wm6_6 : E := (.ib .add .i64 (.li 2) (.ai 9 0 (.ci (.at 1 0) (.ci (.li 3) .n0))))
def wm6_7 : E := (.ic .eql (.ai 9 0 (.ci (.at 1 1) (.ci (.li 11) .n0))) (.li 0))
def wm6_8 : E := (.ib .add .i64 (.li 2) (.ai 9 0 (.ci (.at 1 1) (.ci (.li 3) .n0))))
def wk6_0 : Blk := [(.i .i64 1), (.i .i64 0), (.i .i64 0), (.f 0)]
def wk6_1 : Blk := [(.i .i64 1), (.i .i64 1), (.i .i64 0), (.f 0)]
def wk6_2 : Blk := [(.i .i64 1), (.i .i64 2), (.i .i64 0), (.f 0)]
def wk6_3 : Blk := [(.i .i64 0), (.i .i64 0), (.i .i64 0), (.ef (.fb .quo (.i2f (.ib .sub .i64 (.ai 9 0 (.ci (.vi 0) (.ci (.li 17) .n0))) (.li 8))) (.lf 4616189618054758400)))]
def wk6_4 : Blk := [(.i .i64 4), (.ei .i64 (.ai 9 0 (.ci (.vi 4) (.ci (.li 4) .n0)))), (.ei .i64 (.ai 9 0 (.ci wm6_4 (.ci (.li 4) .n0)))), (.f 0)]
def wk6_5 : Blk := [(.i .i64 4), (.ei .i64 (.ai 9 0 (.ci (.vi 4) (.ci (.li 5) .n0)))), (.ei .i64 (.ai 9 0 (.ci wm6_4 (.ci (.li 5) .n0)))), (.f 0)]
def wk6_6 : Blk := [(.i .i64 4), (.ei .i64 (.ai 9 0 (.ci (.vi 4) (.ci (.li 6) .n0)))), (.ei .i64 (.ai 9 0 (.ci wm6_4 (.ci (.li 6) .n0)))), (.f 0)]
def wk6_7 : Blk := [(.i .i64 4), (.ei .i64 (.ai 9 0 (.ci (.vi 4) (.ci (.li 7) .n0)))), (.ei .i64 (.ai 9 0 (.ci wm6_4 (.ci (.li 7) .n0)))), (.f 0)]
def wk6_8 : Blk := [(.i .i64 4), (.ei .i64 (.ai 9 0 (.ci (.vi 4) (.ci (.li 8) .n0)))), (.ei .i64 (.ai 9 0 (.ci wm6_4 (.ci (.li 8) .n0)))), (.f 0)]
def wk6_9 : Blk := [(.i .i64 4), (.i .i64 6), (.ei .i64 (.ai 9 0 (.ci wm6_4 (.ci (.li 9) .n0)))), (.f 0)]
def wk6_10 : Blk := [(.i .i64 4), (.i .i64 7), (.ei .i64 (.ai 9 0 (.ci wm6_4 (.ci (.li 9) .n0)))), (.f 0)]
def wk6_11 : Blk := [(.i .i64 4), (.ei .i64 (.ai 9 0 (.ci (.vi 4) (.ci (.li 10) .n0)))), (.ei .i64 (.ai 9 0 (.ci wm6_4 (.ci (.li 10) .n0)))), (.f 0)]
def wk6_12 : Blk := [(.i .i64 4), (.i .i64 8), (.ei .i64 (.ai 9 0 (.ci wm6_4 (.ci (.li 9) .n0)))), (.f 0)]
def wk6_13 : Blk := [(.i .i64 4), (.ei .i64 (.ai 9 0 (.ci (.vi 4) (.ci (.li 11) .n0)))), (.ei .i64 (.ai 9 0 (.ci wm6_4 (.ci (.li 11) .n0)))), (.f 0)]
def wk6_14 : Blk := [(.ei .i64 (.ti wm6_5 (.li 0) (.ti (.vb 2) (.ti (.ic .eql (.ai 9 0 (.ci (.at 1 0) (.ci (.li 7) .n0))) (.li 0)) (.li 5) wm6_6) wm6_6))), (.ei .i64 (.ti wm6_5 (.li 0) (.ai 9 0 (.ci (.ib .quo .i64 (.at 1 0) (.li 4)) (.ci (.li 4) .n0))))), (.ei .i64 (.ti wm6_5 (.li 0) (.ai 9 0 (.ci (.ib .quo .i64 (.at 1 0) (.li 40)) (.ci (.li 4) .n0))))), (.ef (.tf wm6_5 (.fb .quo (.i2f (.ib .sub .i64 (.ai 9 0 (.ci (.ib .quo .i64 (.at 1 0) (.li 11)) (.ci (.li 33) .n0))) (.li 16))) (.lf 4620693217682128896)) (.lf 0)))]
def wk6_15 : Blk := [(.i .i64 4), (.i .i64 5), (.ei .i64 (.ai 9 0 (.ci wm6_4 (.ci (.li 9) .n0)))), (.f 0)]
def wk6_16 : Blk := [(.i .i64 4), (.ei .i64 (.ai 9 0 (.ci (.vi 4) (.ci (.li 12) .n0)))), (.ei .i64 (.ai 9 0 (.ci wm6_4 (.ci (.li 12) .n0)))), (.f 0)]
def wk6_17 : Blk := [(.ei .i64 (.ti wm6_7 (.li 0) (.ti (.vb 2) (.ti (.ic .eql (.ai 9 0 (.ci (.at 1 1) (.ci (.li 7) .n0))) (.li 0)) (.li 5) wm6_8) wm6_8))), (.ei .i64 (.ti wm6_7 (.li 0) (.ai 9 0 (.ci (.ib .quo .i64 (.at 1 1) (.li 4)) (.ci (.li 5) .n0))))), (.ei .i64 (.ti wm6_7 (.li 0) (.ai 9 0 (.ci (.ib .quo .i64 (.at 1 1) (.li 40)) (.ci (.li 5) .n0))))), (.ef (.tf wm6_7 (.fb .quo (.i2f (.ib .sub .i64 (.ai 9 0 (.ci (.ib .quo .i64 (.at 1 1) (.li 11)) (.ci (.li 33) .n0))) (.li 16))) (.lf 4620693217682128896)) (.lf 0)))]
def wb6_0 : Blk := [(.ei .i64 (.ib .sub .i64 (.li 3) wm6_1)), (.ei .i64 (.ib .sub .i64 (.li 3) wm6_2)), (.ei .i64 (.ib .sub .i64 (.li 3) wm6_3))]
def wb6_1 : Blk := wk6_0 ++ wk6_1 ++ wk6_2 ++ wk6_3
def wb6_2 : Blk := [(.ef (.fb .quo (.i2f (.ib .sub .i64 (.ai 9 0 (.ci (.ti (.ic .lss (.li 0) (.vl 3)) (.at 3 0) (.li 0)) (.ci (.li 65) .n0))) (.li 32))) (.lf 4620693217682128896))), (.ef (.fb .quo (.i2f (.ib .sub .i64 (.ai 9 0 (.ci (.ti (.ic .lss (.li 1) (.vl 3)) (.at 3 1) (.li 1)) (.ci (.li 65) .n0))) (.li 32))) (.lf 4620693217682128896))), (.ef (.fb .quo (.i2f (.ib .sub .i64 (.ai 9 0 (.ci (.ti (.ic .lss (.li 2) (.vl 3)) (.at 3 2) (.li 2)) (.ci (.li 65) .n0))) (.li 32))) (.lf 4620693217682128896)))]
def wb6_3 : Blk := [(.ef (.vf 172)), (.ef (.vf 173)), (.ef (.vf 174))]
def wb6_4 : Blk := [(.ei .i64 (.ib .sub .i64 (.li 3) wm6_3)), (.ei .i64 (.ib .sub .i64 (.li 3) wm6_2)), (.ei .i64 (.ib .sub .i64 (.li 3) wm6_3))]
def wb6_5 : Blk := [(.ef (.vf 174)), (.ef (.vf 173)), (.ef (.vf 174))]
def wb6_6 : Blk := wk6_0 ++ wk6_1 ++ wk6_2 ++ wk6_3 ++ wk6_4
def wb6_7 : Blk := wk6_0 ++ wk6_1 ++ wk6_2 ++ wk6_3 ++ wk6_4 ++ wk6_5
def wb6_8 : Blk := wk6_0 ++ wk6_1 ++ wk6_2 ++ wk6_3 ++ wk6_4 ++ wk6_5 ++ wk6_6
def wb6_9 : Blk := wk6_0 ++ wk6_1 ++ wk6_2 ++ wk6_3 ++ wk6_4 ++ wk6_5 ++ wk6_6 ++ wk6_7
def wb6_10 : Blk := wk6_0 ++ wk6_1 ++ wk6_2 ++ wk6_3 ++ wk6_4 ++ wk6_5 ++ wk6_6 ++ wk6_7 ++ wk6_8
def wb6_11 : Blk := wk6_0 ++ wk6_1 ++ wk6_2 ++ wk6_3 ++ wk6_4 ++ wk6_5 ++ wk6_6 ++ wk6_7 ++ wk6_8 ++ wk6_9
def wb6_12 : Blk := wk6_0 ++ wk6_1 ++ wk6_2 ++ wk6_3 ++ wk6_4 ++ wk6_5 ++ wk6_6 ++ wk6_7 ++ wk6_8 ++ wk6_10 ++ wk6_11
def wb6_13 : Blk := wk6_0 ++ wk6_1 ++ wk6_2 ++ wk6_3 ++ wk6_4 ++ wk6_5 ++ wk6_6 ++ wk6_7 ++ wk6_8 ++ wk6_12 ++ wk6_11 ++ wk6_13
def wb6_14 : Blk := [(.ei .i64 (.ib .sub .i64 (.li 4) wm6_1)), (.ei .i64 (.ib .sub .i64 (.li 4) wm6_2)), (.ei .i64 (.ib .sub .i64 (.li 4) wm6_3))]
def wb6_15 : Blk := wk6_0 ++ wk6_1 ++ wk6_2 ++ wk6_3 ++ wk6_14
def wb6_16 : Blk := [(.ef (.vf 169)), (.ef (.vf 170)), (.ef (.vf 171))]
def wb6_17 : Blk := [(.ei .i64 (.ib .sub .i64 (.li 4) wm6_3)), (.ei .i64 (.ib .sub .i64 (.li 4) wm6_2)), (.ei .i64 (.ib .sub .i64 (.li 4) wm6_3))]
def wb6_18 : Blk := [(.ef (.vf 171)), (.ef (.vf 170)), (.ef (.vf 171))]
def wb6_19 : Blk := wk6_0 ++ wk6_1 ++ wk6_2 ++ wk6_3 ++ wk6_14 ++ wk6_5
def wb6_20 : Blk := wk6_0 ++ wk6_1 ++ wk6_2 ++ wk6_3 ++ wk6_14 ++ wk6_5 ++ wk6_6
def wb6_21 : Blk := wk6_0 ++ wk6_1 ++ wk6_2 ++ wk6_3 ++ wk6_14 ++ wk6_5 ++ wk6_6 ++ wk6_7
def wb6_22 : Blk := wk6_0 ++ wk6_1 ++ wk6_2 ++ wk6_3 ++ wk6_14 ++ wk6_5 ++ wk6_6 ++ wk6_7 ++ wk6_8
def wb6_23 : Blk := wk6_0 ++ wk6_1 ++ wk6_2 ++ wk6_3 ++ wk6_14 ++ wk6_5 ++ wk6_6 ++ wk6_7 ++ wk6_8 ++ wk6_15
def wb6_24 : Blk := wk6_0 ++ wk6_1 ++ wk6_2 ++ wk6_3 ++ wk6_14 ++ wk6_5 ++ wk6_6 ++ wk6_7 ++ wk6_8 ++ wk6_9 ++ wk6_11
def wb6_25 : Blk := wk6_0 ++ wk6_1 ++ wk6_2 ++ wk6_3 ++ wk6_14 ++ wk6_5 ++ wk6_6 ++ wk6_7 ++ wk6_8 ++ wk6_10 ++ wk6_11 ++ wk6_13
def wb6_26 : Blk := wk6_0 ++ wk6_1 ++ wk6_2 ++ wk6_3 ++ wk6_14 ++ wk6_5 ++ wk6_6 ++ wk6_7 ++ wk6_8 ++ wk6_12 ++ wk6_11 ++ wk6_13 ++ wk6_16
def wb6_27 : Blk := [(.ei .i64 (.ib .sub .i64 (.li 5) wm6_1)), (.ei .i64 (.ib .sub .i64 (.li 5) wm6_2)), (.ei .i64 (.ib .sub .i64 (.li 5) wm6_3))]
def wb6_28 : Blk := wk6_0 ++ wk6_1 ++ wk6_2 ++ wk6_3 ++ wk6_14 ++ wk6_17
def wb6_29 : Blk := [(.ef (.vf 166)), (.ef (.vf 167)), (.ef (.vf 168))]
def wb6_30 : Blk := [(.ei .i64 (.ib .sub .i64 (.li 5) wm6_3)), (.ei .i64 (.ib .sub .i64 (.li 5) wm6_2)), (.ei .i64 (.ib .sub .i64 (.li 5) wm6_3))]
def wb6_31 : Blk := [(.ef (.vf 168)), (.ef (.vf 167)), (.ef (.vf 168))]
def wb6_32 : Blk := wk6_0 ++ wk6_1 ++ wk6_2 ++ wk6_3 ++ wk6_14 ++ wk6_17 ++ wk6_6
def wb6_33 : Blk := wk6_0 ++ wk6_1 ++ wk6_2 ++ wk6_3 ++ wk6_14 ++ wk6_17 ++ wk6_6 ++ wk6_7
def wb6_34 : Blk := wk6_0 ++ wk6_1 ++ wk6_2 ++ wk6_3 ++ wk6_14 ++ wk6_17 ++ wk6_6 ++ wk6_7 ++ wk6_8
def wb6_35 : Blk := wk6_0 ++ wk6_1 ++ wk6_2 ++ wk6_3 ++ wk6_14 ++ wk6_17 ++ wk6_6 ++ wk6_7 ++ wk6_8 ++ [(.i .i64 4), (.i .i64 4), (.ei .i64 (.ai 9 0 (.ci wm6_4 (.ci (.li 9) .n0)))), (.f 0)]
def wb6_36 : Blk := wk6_0 ++ wk6_1 ++ wk6_2 ++ wk6_3 ++ wk6_14 ++ wk6_17 ++ wk6_6 ++ wk6_7 ++ wk6_8 ++ wk6_15 ++ wk6_11
def wb6_37 : Blk := wk6_0 ++ wk6_1 ++ wk6_2 ++ wk6_3 ++ wk6_14 ++ wk6_17 ++ wk6_6 ++ wk6_7 ++ wk6_8 ++ wk6_9 ++ wk6_11 ++ wk6_13
def wb6_38 : Blk := wk6_0 ++ wk6_1 ++ wk6_2 ++ wk6_3 ++ wk6_14 ++ wk6_17 ++ wk6_6 ++ wk6_7 ++ wk6_8 ++ wk6_10 ++ wk6_11 ++ wk6_13 ++ wk6_16
def wb6_39 : Blk := wk6_0 ++ wk6_1 ++ wk6_2 ++ wk6_3 ++ wk6_14 ++ wk6_17 ++ wk6_6 ++ wk6_7 ++ wk6_8 ++ wk6_12 ++ wk6_11 ++ wk6_13 ++ wk6_16 ++ [(.i .i64 4), (.ei .i64 (.ai 9 0 (.ci (.vi 4) (.ci (.li 13) .n0)))), (.ei .i64 (.ai 9 0 (.ci wm6_4 (.ci (.li 13) .n0)))), (.f 0)]
def w2_0_0m0 : Memo :=  (⟨[(.ag [(.i .i64 3), (.sl 11 0 4 (.u 4)), (.sl 10 0 3 (.u 1))]), (.c (.sl 44 0 3 (.u 1)))], [(10, wb6_0), (11, wb6_1), (44, wb6_2)], 55, (.c (.sl 57 0 3 (.n 3))), [(10, wb6_0), (11, wb6_1), (44, wb6_2), (57, wb6_3)], 80⟩) 
theorem w2_0_0o0 : mok [(0, 3, 2), (4, 9, 0)] (lenL 1 0 8 ++ []) wN2 21 w2_0_0m0 = true := by kernel_rfl
def w2_0_0m1 : Memo :=  (⟨[(.ag [(.i .i64 3), (.sl 27 0 4 (.u 4)), (.sl 26 0 3 (.u 1))]), (.c (.sl 44 0 3 (.u 1)))], [(26, wb6_0), (27, wb6_1), (44, wb6_2)], 80, (.c (.sl 82 0 3 (.n 3))), [(26, wb6_0), (27, wb6_1), (44, wb6_2), (82, wb6_3)], 105⟩) 
theorem w2_0_0o1 : mok [(0, 3, 2), (4, 9, 0)] (lenL 1 0 8 ++ []) wN2 21 w2_0_0m1 = true := by kernel_rfl
def w2_0_0m2 : Memo :=  (⟨[(.ag [(.i .i64 3), (.sl 27 0 4 (.u 4)), (.sl 26 0 3 (.u 1))]), (.c (.sl 44 0 3 (.u 1)))], [(26, wb6_4), (27, wb6_1), (44, wb6_2)], 105, (.c (.sl 107 0 3 (.n 3))), [(26, wb6_4), (27, wb6_1), (44, wb6_2), (107, wb6_5)], 130⟩) 
theorem w2_0_0o2 : mok [(0, 3, 2), (4, 9, 0)] (lenL 1 0 8 ++ []) wN2 21 w2_0_0m2 = true := by kernel_rfl
def w2_0_0ms : List (Nat × List Memo) := [(21, [w2_0_0m0, w2_0_0m1, w2_0_0m2])]
theorem w2_0_0mo : AllMem (memRun [(0, 3, 2), (4, 9, 0)] (lenL 1 0 8 ++ []) wN2) w2_0_0ms := ⟨⟨w2_0_0o0, w2_0_0o1, w2_0_0o2, trivial⟩, trivial⟩
theorem w2_0_0 : lawRunM 9 10 200 [.i, .q, .b, .q, .i] [(0, 3, 2), (4, 9, 0)] (lenL 1 0 8 ++ []) wN2 w2_0_0ms = true := by kernel_rfl
def w2_1_0m0 : Memo :=  (⟨[(.ag [(.i .i64 3), (.sl 11 0 4 (.u 4)), (.sl 10 0 3 (.u 1))]), (.c (.sl 44 0 3 (.u 1)))], [(10, wb6_0), (11, wb6_1), (44, wb6_2)], 58, (.c (.sl 60 0 3 (.n 3))), [(10, wb6_0), (11, wb6_1), (44, wb6_2), (60, wb6_3)], 83⟩) 
theorem w2_1_0o0 : mok [(0, 3, 2), (4, 9, 1)] (lenL 1 0 8 ++ []) wN2 21 w2_1_0m0 = true := by kernel_rfl
def w2_1_0m1 : Memo :=  (⟨[(.ag [(.i .i64 3), (.sl 51 0 5 (.u 4)), (.sl 26 0 3 (.u 1))]), (.c (.sl 44 0 3 (.u 1)))], [(26, wb6_0), (44, wb6_2), (51, wb6_6)], 83, (.c (.sl 85 0 3 (.n 3))), [(26, wb6_0), (44, wb6_2), (51, wb6_6), (85, wb6_3)], 112⟩) 
theorem w2_1_0o1 : mok [(0, 3, 2), (4, 9, 1)] (lenL 1 0 8 ++ []) wN2 21 w2_1_0m1 = true := by kernel_rfl
def w2_1_0m2 : Memo :=  (⟨[(.ag [(.i .i64 3), (.sl 51 0 5 (.u 4)), (.sl 26 0 3 (.u 1))]), (.c (.sl 44 0 3 (.u 1)))], [(26, wb6_4), (44, wb6_2), (51, wb6_6)], 112, (.c (.sl 114 0 3 (.n 3))), [(26, wb6_4), (44, wb6_2), (51, wb6_6), (114, wb6_5)], 141⟩) 
theorem w2_1_0o2 : mok [(0, 3, 2), (4, 9, 1)] (lenL 1 0 8 ++ []) wN2 21 w2_1_0m2 = true := by kernel_rfl
def w2_1_0ms : List (Nat × List Memo) := [(21, [w2_1_0m0, w2_1_0m1, w2_1_0m2])]
theorem w2_1_0mo : AllMem (memRun [(0, 3, 2), (4, 9, 1)] (lenL 1 0 8 ++ []) wN2) w2_1_0ms := ⟨⟨w2_1_0o0, w2_1_0o1, w2_1_0o2, trivial⟩, trivial⟩
theorem w2_1_0 : lawRunM 9 10 200 [.i, .q, .b, .q, .i] [(0, 3, 2), (4, 9, 1)] (lenL 1 0 8 ++ []) wN2 w2_1_0ms = true := by kernel_rfl
def w2_2_0m0 : Memo :=  (⟨[(.ag [(.i .i64 3), (.sl 11 0 4 (.u 4)), (.sl 10 0 3 (.u 1))]), (.c (.sl 44 0 3 (.u 1)))], [(10, wb6_0), (11, wb6_1), (44, wb6_2)], 61, (.c (.sl 63 0 3 (.n 3))), [(10, wb6_0), (11, wb6_1), (44, wb6_2), (63, wb6_3)], 86⟩) 
theorem w2_2_0o0 : mok [(0, 3, 2), (4, 9, 2)] (lenL 1 0 8 ++ []) wN2 21 w2_2_0m0 = true := by kernel_rfl
def w2_2_0m1 : Memo :=  (⟨[(.ag [(.i .i64 3), (.sl 53 0 6 (.u 4)), (.sl 26 0 3 (.u 1))]), (.c (.sl 44 0 3 (.u 1)))], [(26, wb6_0), (44, wb6_2), (53, wb6_7)], 86, (.c (.sl 88 0 3 (.n 3))), [(26, wb6_0), (44, wb6_2), (53, wb6_7), (88, wb6_3)], 119⟩) 
theorem w2_2_0o1 : mok [(0, 3, 2), (4, 9, 2)] (lenL 1 0 8 ++ []) wN2 21 w2_2_0m1 = true := by kernel_rfl
def w2_2_0m2 : Memo :=  (⟨[(.ag [(.i .i64 3), (.sl 53 0 6 (.u 4)), (.sl 26 0 3 (.u 1))]), (.c (.sl 44 0 3 (.u 1)))], [(26, wb6_4), (44, wb6_2), (53, wb6_7)], 119, (.c (.sl 121 0 3 (.n 3))), [(26, wb6_4), (44, wb6_2), (53, wb6_7), (121, wb6_5)], 152⟩) 
theorem w2_2_0o2 : mok [(0, 3, 2), (4, 9, 2)] (lenL 1 0 8 ++ []) wN2 21 w2_2_0m2 = true := by kernel_rfl
def w2_2_0ms : List (Nat × List Memo) := [(21, [w2_2_0m0, w2_2_0m1, w2_2_0m2])]
theorem w2_2_0mo : AllMem (memRun [(0, 3, 2), (4, 9, 2)] (lenL 1 0 8 ++ []) wN2) w2_2_0ms := ⟨⟨w2_2_0o0, w2_2_0o1, w2_2_0o2, trivial⟩, trivial⟩
theorem w2_2_0 : lawRunM 9 10 200 [.i, .q, .b, .q, .i] [(0, 3, 2), (4, 9, 2)] (lenL 1 0 8 ++ []) wN2 w2_2_0ms = true := by kernel_rfl
def w2_3_0m0 : Memo :=  (⟨[(.ag [(.i .i64 3), (.sl 11 0 4 (.u 4)), (.sl 10 0 3 (.u 1))]), (.c (.sl 44 0 3 (.u 1)))], [(10, wb6_0), (11, wb6_1), (44, wb6_2)], 64, (.c (.sl 66 0 3 (.n 3))), [(10, wb6_0), (11, wb6_1), (44, wb6_2), (66, wb6_3)], 89⟩) 
theorem w2_3_0o0 : mok [(0, 3, 2), (4, 9, 3)] (lenL 1 0 8 ++ []) wN2 21 w2_3_0m0 = true := by kernel_rfl
def w2_3_0m1 : Memo :=  (⟨[(.ag [(.i .i64 3), (.sl 55 0 7 (.u 4)), (.sl 26 0 3 (.u 1))]), (.c (.sl 44 0 3 (.u 1)))], [(26, wb6_0), (44, wb6_2), (55, wb6_8)], 89, (.c (.sl 91 0 3 (.n 3))), [(26, wb6_0), (44, wb6_2), (55, wb6_8), (91, wb6_3)], 126⟩) 
theorem w2_3_0o1 : mok [(0, 3, 2), (4, 9, 3)] (lenL 1 0 8 ++ []) wN2 21 w2_3_0m1 = true := by kernel_rfl
def w2_3_0m2 : Memo :=  (⟨[(.ag [(.i .i64 3), (.sl 55 0 7 (.u 4)), (.sl 26 0 3 (.u 1))]), (.c (.sl 44 0 3 (.u 1)))], [(26, wb6_4), (44, wb6_2), (55, wb6_8)], 126, (.c (.sl 128 0 3 (.n 3))), [(26, wb6_4), (44, wb6_2), (55, wb6_8), (128, wb6_5)], 163⟩) 
theorem w2_3_0o2 : mok [(0, 3, 2), (4, 9, 3)] (lenL 1 0 8 ++ []) wN2 21 w2_3_0m2 = true := by kernel_rfl
def w2_3_0ms : List (Nat × List Memo) := [(21, [w2_3_0m0, w2_3_0m1, w2_3_0m2])]
theorem w2_3_0mo : AllMem (memRun [(0, 3, 2), (4, 9, 3)] (lenL 1 0 8 ++ []) wN2) w2_3_0ms := ⟨⟨w2_3_0o0, w2_3_0o1, w2_3_0o2, trivial⟩, trivial⟩
theorem w2_3_0 : lawRunM 9 10 200 [.i, .q, .b, .q, .i] [(0, 3, 2), (4, 9, 3)] (lenL 1 0 8 ++ []) wN2 w2_3_0ms = true := by kernel_rfl
def w2_4_0m0 : Memo :=  (⟨[(.ag [(.i .i64 3), (.sl 11 0 4 (.u 4)), (.sl 10 0 3 (.u 1))]), (.c (.sl 44 0 3 (.u 1)))], [(10, wb6_0), (11, wb6_1), (44, wb6_2)], 67, (.c (.sl 69 0 3 (.n 3))), [(10, wb6_0), (11, wb6_1), (44, wb6_2), (69, wb6_3)], 92⟩) 
theorem w2_4_0o0 : mok [(0, 3, 2), (4, 9, 4)] (lenL 1 0 8 ++ []) wN2 21 w2_4_0m0 = true := by kernel_rfl
def w2_4_0m1 : Memo :=  (⟨[(.ag [(.i .i64 3), (.sl 57 0 8 (.u 4)), (.sl 26 0 3 (.u 1))]), (.c (.sl 44 0 3 (.u 1)))], [(26, wb6_0), (44, wb6_2), (57, wb6_9)], 92, (.c (.sl 94 0 3 (.n 3))), [(26, wb6_0), (44, wb6_2), (57, wb6_9), (94, wb6_3)], 133⟩) 
theorem w2_4_0o1 : mok [(0, 3, 2), (4, 9, 4)] (lenL 1 0 8 ++ []) wN2 21 w2_4_0m1 = true := by kernel_rfl
def w2_4_0m2 : Memo :=  (⟨[(.ag [(.i .i64 3), (.sl 57 0 8 (.u 4)), (.sl 26 0 3 (.u 1))]), (.c (.sl 44 0 3 (.u 1)))], [(26, wb6_4), (44, wb6_2), (57, wb6_9)], 133, (.c (.sl 135 0 3 (.n 3))), [(26, wb6_4), (44, wb6_2), (57, wb6_9), (135, wb6_5)], 174⟩) 
theorem w2_4_0o2 : mok [(0, 3, 2), (4, 9, 4)] (lenL 1 0 8 ++ []) wN2 21 w2_4_0m2 = true := by kernel_rfl
def w2_4_0ms : List (Nat × List Memo) := [(21, [w2_4_0m0, w2_4_0m1, w2_4_0m2])]
theorem w2_4_0mo : AllMem (memRun [(0, 3, 2), (4, 9, 4)] (lenL 1 0 8 ++ []) wN2) w2_4_0ms := ⟨⟨w2_4_0o0, w2_4_0o1, w2_4_0o2, trivial⟩, trivial⟩
theorem w2_4_0 : lawRunM 9 10 200 [.i, .q, .b, .q, .i] [(0, 3, 2), (4, 9, 4)] (lenL 1 0 8 ++ []) wN2 w2_4_0ms = true := by kernel_rfl
def w2_5_0m0 : Memo :=  (⟨[(.ag [(.i .i64 3), (.sl 11 0 4 (.u 4)), (.sl 10 0 3 (.u 1))]), (.c (.sl 44 0 3 (.u 1)))], [(10, wb6_0), (11, wb6_1), (44, wb6_2)], 70, (.c (.sl 72 0 3 (.n 3))), [(10, wb6_0), (11, wb6_1), (44, wb6_2), (72, wb6_3)], 95⟩) 
theorem w2_5_0o0 : mok [(0, 3, 2), (4, 9, 5)] (lenL 1 0 8 ++ []) wN2 21 w2_5_0m0 = true := by kernel_rfl
def w2_5_0m1 : Memo :=  (⟨[(.ag [(.i .i64 3), (.sl 59 0 9 (.u 4)), (.sl 26 0 3 (.u 1))]), (.c (.sl 44 0 3 (.u 1)))], [(26, wb6_0), (44, wb6_2), (59, wb6_10)], 95, (.c (.sl 97 0 3 (.n 3))), [(26, wb6_0), (44, wb6_2), (59, wb6_10), (97, wb6_3)], 140⟩) 
theorem w2_5_0o1 : mok [(0, 3, 2), (4, 9, 5)] (lenL 1 0 8 ++ []) wN2 21 w2_5_0m1 = true := by kernel_rfl
def w2_5_0m2 : Memo :=  (⟨[(.ag [(.i .i64 3), (.sl 59 0 9 (.u 4)), (.sl 26 0 3 (.u 1))]), (.c (.sl 44 0 3 (.u 1)))], [(26, wb6_4), (44, wb6_2), (59, wb6_10)], 140, (.c (.sl 142 0 3 (.n 3))), [(26, wb6_4), (44, wb6_2), (59, wb6_10), (142, wb6_5)], 185⟩) 
theorem w2_5_0o2 : mok [(0, 3, 2), (4, 9, 5)] (lenL 1 0 8 ++ []) wN2 21 w2_5_0m2 = true := by kernel_rfl
def w2_5_0ms : List (Nat × List Memo) := [(21, [w2_5_0m0, w2_5_0m1, w2_5_0m2])]
theorem w2_5_0mo : AllMem (memRun [(0, 3, 2), (4, 9, 5)] (lenL 1 0 8 ++ []) wN2) w2_5_0ms := ⟨⟨w2_5_0o0, w2_5_0o1, w2_5_0o2, trivial⟩, trivial⟩
theorem w2_5_0 : lawRunM 9 10 200 [.i, .q, .b, .q, .i] [(0, 3, 2), (4, 9, 5)] (lenL 1 0 8 ++ []) wN2 w2_5_0ms = true := by kernel_rfl
def w2_6_0m0 : Memo :=  (⟨[(.ag [(.i .i64 3), (.sl 11 0 4 (.u 4)), (.sl 10 0 3 (.u 1))]), (.c (.sl 44 0 3 (.u 1)))], [(10, wb6_0), (11, wb6_1), (44, wb6_2)], 73, (.c (.sl 75 0 3 (.n 3))), [(10, wb6_0), (11, wb6_1), (44, wb6_2), (75, wb6_3)], 98⟩) 
theorem w2_6_0o0 : mok [(0, 3, 2), (4, 9, 6)] (lenL 1 0 8 ++ []) wN2 21 w2_6_0m0 = true := by kernel_rfl
def w2_6_0m1 : Memo :=  (⟨[(.ag [(.i .i64 3), (.sl 61 0 10 (.u 4)), (.sl 26 0 3 (.u 1))]), (.c (.sl 44 0 3 (.u 1)))], [(26, wb6_0), (44, wb6_2), (61, wb6_11)], 98, (.c (.sl 100 0 3 (.n 3))), [(26, wb6_0), (44, wb6_2), (61, wb6_11), (100, wb6_3)], 147⟩) 
theorem w2_6_0o1 : mok [(0, 3, 2), (4, 9, 6)] (lenL 1 0 8 ++ []) wN2 21 w2_6_0m1 = true := by kernel_rfl
def w2_6_0m2 : Memo :=  (⟨[(.ag [(.i .i64 3), (.sl 61 0 10 (.u 4)), (.sl 26 0 3 (.u 1))]), (.c (.sl 44 0 3 (.u 1)))], [(26, wb6_4), (44, wb6_2), (61, wb6_11)], 147, (.c (.sl 149 0 3 (.n 3))), [(26, wb6_4), (44, wb6_2), (61, wb6_11), (149, wb6_5)], 196⟩) 
theorem w2_6_0o2 : mok [(0, 3, 2), (4, 9, 6)] (lenL 1 0 8 ++ []) wN2 21 w2_6_0m2 = true := by kernel_rfl
def w2_6_0ms : List (Nat × List Memo) := [(21, [w2_6_0m0, w2_6_0m1, w2_6_0m2])]
theorem w2_6_0mo : AllMem (memRun [(0, 3, 2), (4, 9, 6)] (lenL 1 0 8 ++ []) wN2) w2_6_0ms := ⟨⟨w2_6_0o0, w2_6_0o1, w2_6_0o2, trivial⟩, trivial⟩
theorem w2_6_0 : lawRunM 9 10 200 [.i, .q, .b, .q, .i] [(0, 3, 2), (4, 9, 6)] (lenL 1 0 8 ++ []) wN2 w2_6_0ms = true := by kernel_rfl
def w2_7_0m0 : Memo :=  (⟨[(.ag [(.i .i64 3), (.sl 11 0 4 (.u 4)), (.sl 10 0 3 (.u 1))]), (.c (.sl 44 0 3 (.u 1)))], [(10, wb6_0), (11, wb6_1), (44, wb6_2)], 76, (.c (.sl 78 0 3 (.n 3))), [(10, wb6_0), (11, wb6_1), (44, wb6_2), (78, wb6_3)], 101⟩) 
theorem w2_7_0o0 : mok [(0, 3, 2), (4, 9, 7)] (lenL 1 0 8 ++ []) wN2 21 w2_7_0m0 = true := by kernel_rfl
def w2_7_0m1 : Memo :=  (⟨[(.ag [(.i .i64 3), (.sl 63 0 11 (.u 4)), (.sl 26 0 3 (.u 1))]), (.c (.sl 44 0 3 (.u 1)))], [(26, wb6_0), (44, wb6_2), (63, wb6_12)], 101, (.c (.sl 103 0 3 (.n 3))), [(26, wb6_0), (44, wb6_2), (63, wb6_12), (103, wb6_3)], 154⟩) 
theorem w2_7_0o1 : mok [(0, 3, 2), (4, 9, 7)] (lenL 1 0 8 ++ []) wN2 21 w2_7_0m1 = true := by kernel_rfl
def w2_7_0m2 : Memo :=  (⟨[(.ag [(.i .i64 3), (.sl 63 0 11 (.u 4)), (.sl 26 0 3 (.u 1))]), (.c (.sl 44 0 3 (.u 1)))], [(26, wb6_4), (44, wb6_2), (63, wb6_12)], 154, (.c (.sl 156 0 3 (.n 3))), [(26, wb6_4), (44, wb6_2), (63, wb6_12), (156, wb6_5)], 207⟩) 
theorem w2_7_0o2 : mok [(0, 3, 2), (4, 9, 7)] (lenL 1 0 8 ++ []) wN2 21 w2_7_0m2 = true := by kernel_rfl
def w2_7_0ms : List (Nat × List Memo) := [(21, [w2_7_0m0, w2_7_0m1, w2_7_0m2])]
theorem w2_7_0mo : AllMem (memRun [(0, 3, 2), (4, 9, 7)] (lenL 1 0 8 ++ []) wN2) w2_7_0ms := ⟨⟨w2_7_0o0, w2_7_0o1, w2_7_0o2, trivial⟩, trivial⟩
theorem w2_7_0 : lawRunM 9 10 200 [.i, .q, .b, .q, .i] [(0, 3, 2), (4, 9, 7)] (lenL 1 0 8 ++ []) wN2 w2_7_0ms = true := by kernel_rfl
def w2_8_0m0 : Memo :=  (⟨[(.ag [(.i .i64 3), (.sl 11 0 4 (.u 4)), (.sl 10 0 3 (.u 1))]), (.c (.sl 44 0 3 (.u 1)))], [(10, wb6_0), (11, wb6_1), (44, wb6_2)], 79, (.c (.sl 81 0 3 (.n 3))), [(10, wb6_0), (11, wb6_1), (44, wb6_2), (81, wb6_3)], 104⟩) 
theorem w2_8_0o0 : mok [(0, 3, 2), (4, 9, 8)] (lenL 1 0 8 ++ []) wN2 21 w2_8_0m0 = true := by kernel_rfl
def w2_8_0m1 : Memo :=  (⟨[(.ag [(.i .i64 3), (.sl 65 0 12 (.u 4)), (.sl 26 0 3 (.u 1))]), (.c (.sl 44 0 3 (.u 1)))], [(26, wb6_0), (44, wb6_2), (65, wb6_13)], 104, (.c (.sl 106 0 3 (.n 3))), [(26, wb6_0), (44, wb6_2), (65, wb6_13), (106, wb6_3)], 161⟩) 
theorem w2_8_0o1 : mok [(0, 3, 2), (4, 9, 8)] (lenL 1 0 8 ++ []) wN2 21 w2_8_0m1 = true := by kernel_rfl
def w2_8_0m2 : Memo :=  (⟨[(.ag [(.i .i64 3), (.sl 65 0 12 (.u 4)), (.sl 26 0 3 (.u 1))]), (.c (.sl 44 0 3 (.u 1)))], [(26, wb6_4), (44, wb6_2), (65, wb6_13)], 161, (.c (.sl 163 0 3 (.n 3))), [(26, wb6_4), (44, wb6_2), (65, wb6_13), (163, wb6_5)], 218⟩) 
theorem w2_8_0o2 : mok [(0, 3, 2), (4, 9, 8)] (lenL 1 0 8 ++ []) wN2 21 w2_8_0m2 = true := by kernel_rfl
def w2_8_0ms : List (Nat × List Memo) := [(21, [w2_8_0m0, w2_8_0m1, w2_8_0m2])]
theorem w2_8_0mo : AllMem (memRun [(0, 3, 2), (4, 9, 8)] (lenL 1 0 8 ++ []) wN2) w2_8_0ms := ⟨⟨w2_8_0o0, w2_8_0o1, w2_8_0o2, trivial⟩, trivial⟩
theorem w2_8_0 : lawRunM 9 10 200 [.i, .q, .b, .q, .i] [(0, 3, 2), (4, 9, 8)] (lenL 1 0 8 ++ []) wN2 w2_8_0ms = true := by kernel_rfl
def w2_0_1m0 : Memo :=  (⟨[(.ag [(.i .i64 3), (.sl 11 0 5 (.u 4)), (.sl 10 0 3 (.u 1))]), (.c (.sl 50 0 3 (.u 1)))], [(10, wb6_14), (11, wb6_15), (50, wb6_2)], 62, (.c (.sl 64 0 3 (.n 3))), [(10, wb6_14), (11, wb6_15), (50, wb6_2), (64, wb6_16)], 91⟩) 
theorem w2_0_1o0 : mok [(0, 3, 2), (4, 9, 0)] (lenL 1 1 8 ++ []) wN2 21 w2_0_1m0 = true := by kernel_rfl
def w2_0_1m1 : Memo :=  (⟨[(.ag [(.i .i64 3), (.sl 30 0 5 (.u 4)), (.sl 29 0 3 (.u 1))]), (.c (.sl 50 0 3 (.u 1)))], [(29, wb6_14), (30, wb6_15), (50, wb6_2)], 91, (.c (.sl 93 0 3 (.n 3))), [(29, wb6_14), (30, wb6_15), (50, wb6_2), (93, wb6_16)], 120⟩) 
theorem w2_0_1o1 : mok [(0, 3, 2), (4, 9, 0)] (lenL 1 1 8 ++ []) wN2 21 w2_0_1m1 = true := by kernel_rfl
def w2_0_1m2 : Memo :=  (⟨[(.ag [(.i .i64 3), (.sl 30 0 5 (.u 4)), (.sl 29 0 3 (.u 1))]), (.c (.sl 50 0 3 (.u 1)))], [(29, wb6_17), (30, wb6_15), (50, wb6_2)], 120, (.c (.sl 122 0 3 (.n 3))), [(29, wb6_17), (30, wb6_15), (50, wb6_2), (122, wb6_18)], 149⟩) 
theorem w2_0_1o2 : mok [(0, 3, 2), (4, 9, 0)] (lenL 1 1 8 ++ []) wN2 21 w2_0_1m2 = true := by kernel_rfl
def w2_0_1ms : List (Nat × List Memo) := [(21, [w2_0_1m0, w2_0_1m1, w2_0_1m2])]
theorem w2_0_1mo : AllMem (memRun [(0, 3, 2), (4, 9, 0)] (lenL 1 1 8 ++ []) wN2) w2_0_1ms := ⟨⟨w2_0_1o0, w2_0_1o1, w2_0_1o2, trivial⟩, trivial⟩
theorem w2_0_1 : lawRunM 9 10 200 [.i, .q, .b, .q, .i] [(0, 3, 2), (4, 9, 0)] (lenL 1 1 8 ++ []) wN2 w2_0_1ms = true := by kernel_rfl
def w2_1_1m0 : Memo :=  (⟨[(.ag [(.i .i64 3), (.sl 11 0 5 (.u 4)), (.sl 10 0 3 (.u 1))]), (.c (.sl 50 0 3 (.u 1)))], [(10, wb6_14), (11, wb6_15), (50, wb6_2)], 65, (.c (.sl 67 0 3 (.n 3))), [(10, wb6_14), (11, wb6_15), (50, wb6_2), (67, wb6_16)], 94⟩) 
theorem w2_1_1o0 : mok [(0, 3, 2), (4, 9, 1)] (lenL 1 1 8 ++ []) wN2 21 w2_1_1m0 = true := by kernel_rfl
def w2_1_1m1 : Memo :=  (⟨[(.ag [(.i .i64 3), (.sl 57 0 6 (.u 4)), (.sl 29 0 3 (.u 1))]), (.c (.sl 50 0 3 (.u 1)))], [(29, wb6_14), (50, wb6_2), (57, wb6_19)], 94, (.c (.sl 96 0 3 (.n 3))), [(29, wb6_14), (50, wb6_2), (57, wb6_19), (96, wb6_16)], 127⟩) 
theorem w2_1_1o1 : mok [(0, 3, 2), (4, 9, 1)] (lenL 1 1 8 ++ []) wN2 21 w2_1_1m1 = true := by kernel_rfl
def w2_1_1m2 : Memo :=  (⟨[(.ag [(.i .i64 3), (.sl 57 0 6 (.u 4)), (.sl 29 0 3 (.u 1))]), (.c (.sl 50 0 3 (.u 1)))], [(29, wb6_17), (50, wb6_2), (57, wb6_19)], 127, (.c (.sl 129 0 3 (.n 3))), [(29, wb6_17), (50, wb6_2), (57, wb6_19), (129, wb6_18)], 160⟩) 
theorem w2_1_1o2 : mok [(0, 3, 2), (4, 9, 1)] (lenL 1 1 8 ++ []) wN2 21 w2_1_1m2 = true := by kernel_rfl
def w2_1_1ms : List (Nat × List Memo) := [(21, [w2_1_1m0, w2_1_1m1, w2_1_1m2])]
theorem w2_1_1mo : AllMem (memRun [(0, 3, 2), (4, 9, 1)] (lenL 1 1 8 ++ []) wN2) w2_1_1ms := ⟨⟨w2_1_1o0, w2_1_1o1, w2_1_1o2, trivial⟩, trivial⟩
theorem w2_1_1 : lawRunM 9 10 200 [.i, .q, .b, .q, .i] [(0, 3, 2), (4, 9, 1)] (lenL 1 1 8 ++ []) wN2 w2_1_1ms = true := by kernel_rfl
def w2_2_1m0 : Memo :=  (⟨[(.ag [(.i .i64 3), (.sl 11 0 5 (.u 4)), (.sl 10 0 3 (.u 1))]), (.c (.sl 50 0 3 (.u 1)))], [(10, wb6_14), (11, wb6_15), (50, wb6_2)], 68, (.c (.sl 70 0 3 (.n 3))), [(10, wb6_14), (11, wb6_15), (50, wb6_2), (70, wb6_16)], 97⟩) 
theorem w2_2_1o0 : mok [(0, 3, 2), (4, 9, 2)] (lenL 1 1 8 ++ []) wN2 21 w2_2_1m0 = true := by kernel_rfl
def w2_2_1m1 : Memo :=  (⟨[(.ag [(.i .i64 3), (.sl 59 0 7 (.u 4)), (.sl 29 0 3 (.u 1))]), (.c (.sl 50 0 3 (.u 1)))], [(29, wb6_14), (50, wb6_2), (59, wb6_20)], 97, (.c (.sl 99 0 3 (.n 3))), [(29, wb6_14), (50, wb6_2), (59, wb6_20), (99, wb6_16)], 134⟩) 
theorem w2_2_1o1 : mok [(0, 3, 2), (4, 9, 2)] (lenL 1 1 8 ++ []) wN2 21 w2_2_1m1 = true := by kernel_rfl
def w2_2_1m2 : Memo :=  (⟨[(.ag [(.i .i64 3), (.sl 59 0 7 (.u 4)), (.sl 29 0 3 (.u 1))]), (.c (.sl 50 0 3 (.u 1)))], [(29, wb6_17), (50, wb6_2), (59, wb6_20)], 134, (.c (.sl 136 0 3 (.n 3))), [(29, wb6_17), (50, wb6_2), (59, wb6_20), (136, wb6_18)], 171⟩) 
theorem w2_2_1o2 : mok [(0, 3, 2), (4, 9, 2)] (lenL 1 1 8 ++ []) wN2 21 w2_2_1m2 = true := by kernel_rfl
def w2_2_1ms : List (Nat × List Memo) := [(21, [w2_2_1m0, w2_2_1m1, w2_2_1m2])]
theorem w2_2_1mo : AllMem (memRun [(0, 3, 2), (4, 9, 2)] (lenL 1 1 8 ++ []) wN2) w2_2_1ms := ⟨⟨w2_2_1o0, w2_2_1o1, w2_2_1o2, trivial⟩, trivial⟩
theorem w2_2_1 : lawRunM 9 10 200 [.i, .q, .b, .q, .i] [(0, 3, 2), (4, 9, 2)] (lenL 1 1 8 ++ []) wN2 w2_2_1ms = true := by kernel_rfl
def w2_3_1m0 : Memo :=  (⟨[(.ag [(.i .i64 3), (.sl 11 0 5 (.u 4)), (.sl 10 0 3 (.u 1))]), (.c (.sl 50 0 3 (.u 1)))], [(10, wb6_14), (11, wb6_15), (50, wb6_2)], 71, (.c (.sl 73 0 3 (.n 3))), [(10, wb6_14), (11, wb6_15), (50, wb6_2), (73, wb6_16)], 100⟩) 
theorem w2_3_1o0 : mok [(0, 3, 2), (4, 9, 3)] (lenL 1 1 8 ++ []) wN2 21 w2_3_1m0 = true := by kernel_rfl
def w2_3_1m1 : Memo :=  (⟨[(.ag [(.i .i64 3), (.sl 61 0 8 (.u 4)), (.sl 29 0 3 (.u 1))]), (.c (.sl 50 0 3 (.u 1)))], [(29, wb6_14), (50, wb6_2), (61, wb6_21)], 100, (.c (.sl 102 0 3 (.n 3))), [(29, wb6_14), (50, wb6_2), (61, wb6_21), (102, wb6_16)], 141⟩) 
theorem w2_3_1o1 : mok [(0, 3, 2), (4, 9, 3)] (lenL 1 1 8 ++ []) wN2 21 w2_3_1m1 = true := by kernel_rfl
def w2_3_1m2 : Memo :=  (⟨[(.ag [(.i .i64 3), (.sl 61 0 8 (.u 4)), (.sl 29 0 3 (.u 1))]), (.c (.sl 50 0 3 (.u 1)))], [(29, wb6_17), (50, wb6_2), (61, wb6_21)], 141, (.c (.sl 143 0 3 (.n 3))), [(29, wb6_17), (50, wb6_2), (61, wb6_21), (143, wb6_18)], 182⟩) 
theorem w2_3_1o2 : mok [(0, 3, 2), (4, 9, 3)] (lenL 1 1 8 ++ []) wN2 21 w2_3_1m2 = true := by kernel_rfl
def w2_3_1ms : List (Nat × List Memo) := [(21, [w2_3_1m0, w2_3_1m1, w2_3_1m2])]
theorem w2_3_1mo : AllMem (memRun [(0, 3, 2), (4, 9, 3)] (lenL 1 1 8 ++ []) wN2) w2_3_1ms := ⟨⟨w2_3_1o0, w2_3_1o1, w2_3_1o2, trivial⟩, trivial⟩
theorem w2_3_1 : lawRunM 9 10 200 [.i, .q, .b, .q, .i] [(0, 3, 2), (4, 9, 3)] (lenL 1 1 8 ++ []) wN2 w2_3_1ms = true := by kernel_rfl
def w2_4_1m0 : Memo :=  (⟨[(.ag [(.i .i64 3), (.sl 11 0 5 (.u 4)), (.sl 10 0 3 (.u 1))]), (.c (.sl 50 0 3 (.u 1)))], [(10, wb6_14), (11, wb6_15), (50, wb6_2)], 74, (.c (.sl 76 0 3 (.n 3))), [(10, wb6_14), (11, wb6_15), (50, wb6_2), (76, wb6_16)], 103⟩) 
theorem w2_4_1o0 : mok [(0, 3, 2), (4, 9, 4)] (lenL 1 1 8 ++ []) wN2 21 w2_4_1m0 = true := by kernel_rfl
def w2_4_1m1 : Memo :=  (⟨[(.ag [(.i .i64 3), (.sl 63 0 9 (.u 4)), (.sl 29 0 3 (.u 1))]), (.c (.sl 50 0 3 (.u 1)))], [(29, wb6_14), (50, wb6_2), (63, wb6_22)], 103, (.c (.sl 105 0 3 (.n 3))), [(29, wb6_14), (50, wb6_2), (63, wb6_22), (105, wb6_16)], 148⟩) 
theorem w2_4_1o1 : mok [(0, 3, 2), (4, 9, 4)] (lenL 1 1 8 ++ []) wN2 21 w2_4_1m1 = true := by kernel_rfl
def w2_4_1m2 : Memo :=  (⟨[(.ag [(.i .i64 3), (.sl 63 0 9 (.u 4)), (.sl 29 0 3 (.u 1))]), (.c (.sl 50 0 3 (.u 1)))], [(29, wb6_17), (50, wb6_2), (63, wb6_22)], 148, (.c (.sl 150 0 3 (.n 3))), [(29, wb6_17), (50, wb6_2), (63, wb6_22), (150, wb6_18)], 193⟩) 
theorem w2_4_1o2 : mok [(0, 3, 2), (4, 9, 4)] (lenL 1 1 8 ++ []) wN2 21 w2_4_1m2 = true := by kernel_rfl
def w2_4_1ms : List (Nat × List Memo) := [(21, [w2_4_1m0, w2_4_1m1, w2_4_1m2])]
theorem w2_4_1mo : AllMem (memRun [(0, 3, 2), (4, 9, 4)] (lenL 1 1 8 ++ []) wN2) w2_4_1ms := ⟨⟨w2_4_1o0, w2_4_1o1, w2_4_1o2, trivial⟩, trivial⟩
theorem w2_4_1 : lawRunM 9 10 200 [.i, .q, .b, .q, .i] [(0, 3, 2), (4, 9, 4)] (lenL 1 1 8 ++ []) wN2 w2_4_1ms = true := by kernel_rfl
def w2_5_1m0 : Memo :=  (⟨[(.ag [(.i .i64 3), (.sl 11 0 5 (.u 4)), (.sl 10 0 3 (.u 1))]), (.c (.sl 50 0 3 (.u 1)))], [(10, wb6_14), (11, wb6_15), (50, wb6_2)], 77, (.c (.sl 79 0 3 (.n 3))), [(10, wb6_14), (11, wb6_15), (50, wb6_2), (79, wb6_16)], 106⟩) 
theorem w2_5_1o0 : mok [(0, 3, 2), (4, 9, 5)] (lenL 1 1 8 ++ []) wN2 21 w2_5_1m0 = true := by kernel_rfl
def w2_5_1m1 : Memo :=  (⟨[(.ag [(.i .i64 3), (.sl 65 0 10 (.u 4)), (.sl 29 0 3 (.u 1))]), (.c (.sl 50 0 3 (.u 1)))], [(29, wb6_14), (50, wb6_2), (65, wb6_23)], 106, (.c (.sl 108 0 3 (.n 3))), [(29, wb6_14), (50, wb6_2), (65, wb6_23), (108, wb6_16)], 155⟩) 
theorem w2_5_1o1 : mok [(0, 3, 2), (4, 9, 5)] (lenL 1 1 8 ++ []) wN2 21 w2_5_1m1 = true := by kernel_rfl
def w2_5_1m2 : Memo :=  (⟨[(.ag [(.i .i64 3), (.sl 65 0 10 (.u 4)), (.sl 29 0 3 (.u 1))]), (.c (.sl 50 0 3 (.u 1)))], [(29, wb6_17), (50, wb6_2), (65, wb6_23)], 155, (.c (.sl 157 0 3 (.n 3))), [(29, wb6_17), (50, wb6_2), (65, wb6_23), (157, wb6_18)], 204⟩) 
theorem w2_5_1o2 : mok [(0, 3, 2), (4, 9, 5)] (lenL 1 1 8 ++ []) wN2 21 w2_5_1m2 = true := by kernel_rfl
def w2_5_1ms : List (Nat × List Memo) := [(21, [w2_5_1m0, w2_5_1m1, w2_5_1m2])]
theorem w2_5_1mo : AllMem (memRun [(0, 3, 2), (4, 9, 5)] (lenL 1 1 8 ++ []) wN2) w2_5_1ms := ⟨⟨w2_5_1o0, w2_5_1o1, w2_5_1o2, trivial⟩, trivial⟩
theorem w2_5_1 : lawRunM 9 10 200 [.i, .q, .b, .q, .i] [(0, 3, 2), (4, 9, 5)] (lenL 1 1 8 ++ []) wN2 w2_5_1ms = true := by kernel_rfl
def w2_6_1m0 : Memo :=  (⟨[(.ag [(.i .i64 3), (.sl 11 0 5 (.u 4)), (.sl 10 0 3 (.u 1))]), (.c (.sl 50 0 3 (.u 1)))], [(10, wb6_14), (11, wb6_15), (50, wb6_2)], 80, (.c (.sl 82 0 3 (.n 3))), [(10, wb6_14), (11, wb6_15), (50, wb6_2), (82, wb6_16)], 109⟩) 
theorem w2_6_1o0 : mok [(0, 3, 2), (4, 9, 6)] (lenL 1 1 8 ++ []) wN2 21 w2_6_1m0 = true := by kernel_rfl
def w2_6_1m1 : Memo :=  (⟨[(.ag [(.i .i64 3), (.sl 67 0 11 (.u 4)), (.sl 29 0 3 (.u 1))]), (.c (.sl 50 0 3 (.u 1)))], [(29, wb6_14), (50, wb6_2), (67, wb6_24)], 109, (.c (.sl 111 0 3 (.n 3))), [(29, wb6_14), (50, wb6_2), (67, wb6_24), (111, wb6_16)], 162⟩) 
theorem w2_6_1o1 : mok [(0, 3, 2), (4, 9, 6)] (lenL 1 1 8 ++ []) wN2 21 w2_6_1m1 = true := by kernel_rfl
def w2_6_1m2 : Memo :=  (⟨[(.ag [(.i .i64 3), (.sl 67 0 11 (.u 4)), (.sl 29 0 3 (.u 1))]), (.c (.sl 50 0 3 (.u 1)))], [(29, wb6_17), (50, wb6_2), (67, wb6_24)], 162, (.c (.sl 164 0 3 (.n 3))), [(29, wb6_17), (50, wb6_2), (67, wb6_24), (164, wb6_18)], 215⟩) 
theorem w2_6_1o2 : mok [(0, 3, 2), (4, 9, 6)] (lenL 1 1 8 ++ []) wN2 21 w2_6_1m2 = true := by kernel_rfl
def w2_6_1ms : List (Nat × List Memo) := [(21, [w2_6_1m0, w2_6_1m1, w2_6_1m2])]
theorem w2_6_1mo : AllMem (memRun [(0, 3, 2), (4, 9, 6)] (lenL 1 1 8 ++ []) wN2) w2_6_1ms := ⟨⟨w2_6_1o0, w2_6_1o1, w2_6_1o2, trivial⟩, trivial⟩
theorem w2_6_1 : lawRunM 9 10 200 [.i, .q, .b, .q, .i] [(0, 3, 2), (4, 9, 6)] (lenL 1 1 8 ++ []) wN2 w2_6_1ms = true := by kernel_rfl
def w2_7_1m0 : Memo :=  (⟨[(.ag [(.i .i64 3), (.sl 11 0 5 (.u 4)), (.sl 10 0 3 (.u 1))]), (.c (.sl 50 0 3 (.u 1)))], [(10, wb6_14), (11, wb6_15), (50, wb6_2)], 83, (.c (.sl 85 0 3 (.n 3))), [(10, wb6_14), (11, wb6_15), (50, wb6_2), (85, wb6_16)], 112⟩) 
theorem w2_7_1o0 : mok [(0, 3, 2), (4, 9, 7)] (lenL 1 1 8 ++ []) wN2 21 w2_7_1m0 = true := by kernel_rfl
def w2_7_1m1 : Memo :=  (⟨[(.ag [(.i .i64 3), (.sl 69 0 12 (.u 4)), (.sl 29 0 3 (.u 1))]), (.c (.sl 50 0 3 (.u 1)))], [(29, wb6_14), (50, wb6_2), (69, wb6_25)], 112, (.c (.sl 114 0 3 (.n 3))), [(29, wb6_14), (50, wb6_2), (69, wb6_25), (114, wb6_16)], 169⟩) 
theorem w2_7_1o1 : mok [(0, 3, 2), (4, 9, 7)] (lenL 1 1 8 ++ []) wN2 21 w2_7_1m1 = true := by kernel_rfl
def w2_7_1m2 : Memo :=  (⟨[(.ag [(.i .i64 3), (.sl 69 0 12 (.u 4)), (.sl 29 0 3 (.u 1))]), (.c (.sl 50 0 3 (.u 1)))], [(29, wb6_17), (50, wb6_2), (69, wb6_25)], 169, (.c (.sl 171 0 3 (.n 3))), [(29, wb6_17), (50, wb6_2), (69, wb6_25), (171, wb6_18)], 226⟩) 
theorem w2_7_1o2 : mok [(0, 3, 2), (4, 9, 7)] (lenL 1 1 8 ++ []) wN2 21 w2_7_1m2 = true := by kernel_rfl
def w2_7_1ms : List (Nat × List Memo) := [(21, [w2_7_1m0, w2_7_1m1, w2_7_1m2])]
theorem w2_7_1mo : AllMem (memRun [(0, 3, 2), (4, 9, 7)] (lenL 1 1 8 ++ []) wN2) w2_7_1ms := ⟨⟨w2_7_1o0, w2_7_1o1, w2_7_1o2, trivial⟩, trivial⟩
theorem w2_7_1 : lawRunM 9 10 200 [.i, .q, .b, .q, .i] [(0, 3, 2), (4, 9, 7)] (lenL 1 1 8 ++ []) wN2 w2_7_1ms = true := by kernel_rfl
def w2_8_1m0 : Memo :=  (⟨[(.ag [(.i .i64 3), (.sl 11 0 5 (.u 4)), (.sl 10 0 3 (.u 1))]), (.c (.sl 50 0 3 (.u 1)))], [(10, wb6_14), (11, wb6_15), (50, wb6_2)], 86, (.c (.sl 88 0 3 (.n 3))), [(10, wb6_14), (11, wb6_15), (50, wb6_2), (88, wb6_16)], 115⟩) 
theorem w2_8_1o0 : mok [(0, 3, 2), (4, 9, 8)] (lenL 1 1 8 ++ []) wN2 21 w2_8_1m0 = true := by kernel_rfl
def w2_8_1m1 : Memo :=  (⟨[(.ag [(.i .i64 3), (.sl 71 0 13 (.u 4)), (.sl 29 0 3 (.u 1))]), (.c (.sl 50 0 3 (.u 1)))], [(29, wb6_14), (50, wb6_2), (71, wb6_26)], 115, (.c (.sl 117 0 3 (.n 3))), [(29, wb6_14), (50, wb6_2), (71, wb6_26), (117, wb6_16)], 176⟩) 
theorem w2_8_1o1 : mok [(0, 3, 2), (4, 9, 8)] (lenL 1 1 8 ++ []) wN2 21 w2_8_1m1 = true := by kernel_rfl
def w2_8_1m2 : Memo :=  (⟨[(.ag [(.i .i64 3), (.sl 71 0 13 (.u 4)), (.sl 29 0 3 (.u 1))]), (.c (.sl 50 0 3 (.u 1)))], [(29, wb6_17), (50, wb6_2), (71, wb6_26)], 176, (.c (.sl 178 0 3 (.n 3))), [(29, wb6_17), (50, wb6_2), (71, wb6_26), (178, wb6_18)], 237⟩) 
theorem w2_8_1o2 : mok [(0, 3, 2), (4, 9, 8)] (lenL 1 1 8 ++ []) wN2 21 w2_8_1m2 = true := by kernel_rfl
def w2_8_1ms : List (Nat × List Memo) := [(21, [w2_8_1m0, w2_8_1m1, w2_8_1m2])]
theorem w2_8_1mo : AllMem (memRun [(0, 3, 2), (4, 9, 8)] (lenL 1 1 8 ++ []) wN2) w2_8_1ms := ⟨⟨w2_8_1o0, w2_8_1o1, w2_8_1o2, trivial⟩, trivial⟩
theorem w2_8_1 : lawRunM 9 10 200 [.i, .q, .b, .q, .i] [(0, 3, 2), (4, 9, 8)] (lenL 1 1 8 ++ []) wN2 w2_8_1ms = true := by kernel_rfl
def w2_0_2m0 : Memo :=  (⟨[(.ag [(.i .i64 3), (.sl 11 0 6 (.u 4)), (.sl 10 0 3 (.u 1))]), (.c (.sl 56 0 3 (.u 1)))], [(10, wb6_27), (11, wb6_28), (56, wb6_2)], 69, (.c (.sl 71 0 3 (.n 3))), [(10, wb6_27), (11, wb6_28), (56, wb6_2), (71, wb6_29)], 102⟩) 
theorem w2_0_2o0 : mok [(0, 3, 2), (4, 9, 0)] (lenL 1 2 8 ++ []) wN2 21 w2_0_2m0 = true := by kernel_rfl
def w2_0_2m1 : Memo :=  (⟨[(.ag [(.i .i64 3), (.sl 33 0 6 (.u 4)), (.sl 32 0 3 (.u 1))]), (.c (.sl 56 0 3 (.u 1)))], [(32, wb6_27), (33, wb6_28), (56, wb6_2)], 102, (.c (.sl 104 0 3 (.n 3))), [(32, wb6_27), (33, wb6_28), (56, wb6_2), (104, wb6_29)], 135⟩) 
theorem w2_0_2o1 : mok [(0, 3, 2), (4, 9, 0)] (lenL 1 2 8 ++ []) wN2 21 w2_0_2m1 = true := by kernel_rfl
def w2_0_2m2 : Memo :=  (⟨[(.ag [(.i .i64 3), (.sl 33 0 6 (.u 4)), (.sl 32 0 3 (.u 1))]), (.c (.sl 56 0 3 (.u 1)))], [(32, wb6_30), (33, wb6_28), (56, wb6_2)], 135, (.c (.sl 137 0 3 (.n 3))), [(32, wb6_30), (33, wb6_28), (56, wb6_2), (137, wb6_31)], 168⟩) 
theorem w2_0_2o2 : mok [(0, 3, 2), (4, 9, 0)] (lenL 1 2 8 ++ []) wN2 21 w2_0_2m2 = true := by kernel_rfl
def w2_0_2ms : List (Nat × List Memo) := [(21, [w2_0_2m0, w2_0_2m1, w2_0_2m2])]
theorem w2_0_2mo : AllMem (memRun [(0, 3, 2), (4, 9, 0)] (lenL 1 2 8 ++ []) wN2) w2_0_2ms := ⟨⟨w2_0_2o0, w2_0_2o1, w2_0_2o2, trivial⟩, trivial⟩
theorem w2_0_2 : lawRunM 9 10 200 [.i, .q, .b, .q, .i] [(0, 3, 2), (4, 9, 0)] (lenL 1 2 8 ++ []) wN2 w2_0_2ms = true := by kernel_rfl
def w2_1_2m0 : Memo :=  (⟨[(.ag [(.i .i64 3), (.sl 11 0 6 (.u 4)), (.sl 10 0 3 (.u 1))]), (.c (.sl 56 0 3 (.u 1)))], [(10, wb6_27), (11, wb6_28), (56, wb6_2)], 72, (.c (.sl 74 0 3 (.n 3))), [(10, wb6_27), (11, wb6_28), (56, wb6_2), (74, wb6_29)], 105⟩) 
theorem w2_1_2o0 : mok [(0, 3, 2), (4, 9, 1)] (lenL 1 2 8 ++ []) wN2 21 w2_1_2m0 = true := by kernel_rfl
def w2_1_2m1 : Memo :=  (⟨[(.ag [(.i .i64 3), (.sl 63 0 7 (.u 4)), (.sl 32 0 3 (.u 1))]), (.c (.sl 56 0 3 (.u 1)))], [(32, wb6_27), (56, wb6_2), (63, wb6_32)], 105, (.c (.sl 107 0 3 (.n 3))), [(32, wb6_27), (56, wb6_2), (63, wb6_32), (107, wb6_29)], 142⟩) 
theorem w2_1_2o1 : mok [(0, 3, 2), (4, 9, 1)] (lenL 1 2 8 ++ []) wN2 21 w2_1_2m1 = true := by kernel_rfl
def w2_1_2m2 : Memo :=  (⟨[(.ag [(.i .i64 3), (.sl 63 0 7 (.u 4)), (.sl 32 0 3 (.u 1))]), (.c (.sl 56 0 3 (.u 1)))], [(32, wb6_30), (56, wb6_2), (63, wb6_32)], 142, (.c (.sl 144 0 3 (.n 3))), [(32, wb6_30), (56, wb6_2), (63, wb6_32), (144, wb6_31)], 179⟩) 
theorem w2_1_2o2 : mok [(0, 3, 2), (4, 9, 1)] (lenL 1 2 8 ++ []) wN2 21 w2_1_2m2 = true := by kernel_rfl
def w2_1_2ms : List (Nat × List Memo) := [(21, [w2_1_2m0, w2_1_2m1, w2_1_2m2])]
theorem w2_1_2mo : AllMem (memRun [(0, 3, 2), (4, 9, 1)] (lenL 1 2 8 ++ []) wN2) w2_1_2ms := ⟨⟨w2_1_2o0, w2_1_2o1, w2_1_2o2, trivial⟩, trivial⟩
theorem w2_1_2 : lawRunM 9 10 200 [.i, .q, .b, .q, .i] [(0, 3, 2), (4, 9, 1)] (lenL 1 2 8 ++ []) wN2 w2_1_2ms = true := by kernel_rfl
def w2_2_2m0 : Memo :=  (⟨[(.ag [(.i .i64 3), (.sl 11 0 6 (.u 4)), (.sl 10 0 3 (.u 1))]), (.c (.sl 56 0 3 (.u 1)))], [(10, wb6_27), (11, wb6_28), (56, wb6_2)], 75, (.c (.sl 77 0 3 (.n 3))), [(10, wb6_27), (11, wb6_28), (56, wb6_2), (77, wb6_29)], 108⟩) 
theorem w2_2_2o0 : mok [(0, 3, 2), (4, 9, 2)] (lenL 1 2 8 ++ []) wN2 21 w2_2_2m0 = true := by kernel_rfl
def w2_2_2m1 : Memo :=  (⟨[(.ag [(.i .i64 3), (.sl 65 0 8 (.u 4)), (.sl 32 0 3 (.u 1))]), (.c (.sl 56 0 3 (.u 1)))], [(32, wb6_27), (56, wb6_2), (65, wb6_33)], 108, (.c (.sl 110 0 3 (.n 3))), [(32, wb6_27), (56, wb6_2), (65, wb6_33), (110, wb6_29)], 149⟩) 
theorem w2_2_2o1 : mok [(0, 3, 2), (4, 9, 2)] (lenL 1 2 8 ++ []) wN2 21 w2_2_2m1 = true := by kernel_rfl
def w2_2_2m2 : Memo :=  (⟨[(.ag [(.i .i64 3), (.sl 65 0 8 (.u 4)), (.sl 32 0 3 (.u 1))]), (.c (.sl 56 0 3 (.u 1)))], [(32, wb6_30), (56, wb6_2), (65, wb6_33)], 149, (.c (.sl 151 0 3 (.n 3))), [(32, wb6_30), (56, wb6_2), (65, wb6_33), (151, wb6_31)], 190⟩) 
theorem w2_2_2o2 : mok [(0, 3, 2), (4, 9, 2)] (lenL 1 2 8 ++ []) wN2 21 w2_2_2m2 = true := by kernel_rfl
def w2_2_2ms : List (Nat × List Memo) := [(21, [w2_2_2m0, w2_2_2m1, w2_2_2m2])]
theorem w2_2_2mo : AllMem (memRun [(0, 3, 2), (4, 9, 2)] (lenL 1 2 8 ++ []) wN2) w2_2_2ms := ⟨⟨w2_2_2o0, w2_2_2o1, w2_2_2o2, trivial⟩, trivial⟩
theorem w2_2_2 : lawRunM 9 10 200 [.i, .q, .b, .q, .i] [(0, 3, 2), (4, 9, 2)] (lenL 1 2 8 ++ []) wN2 w2_2_2ms = true := by kernel_rfl
def w2_3_2m0 : Memo :=  (⟨[(.ag [(.i .i64 3), (.sl 11 0 6 (.u 4)), (.sl 10 0 3 (.u 1))]), (.c (.sl 56 0 3 (.u 1)))], [(10, wb6_27), (11, wb6_28), (56, wb6_2)], 78, (.c (.sl 80 0 3 (.n 3))), [(10, wb6_27), (11, wb6_28), (56, wb6_2), (80, wb6_29)], 111⟩) 
theorem w2_3_2o0 : mok [(0, 3, 2), (4, 9, 3)] (lenL 1 2 8 ++ []) wN2 21 w2_3_2m0 = true := by kernel_rfl
def w2_3_2m1 : Memo :=  (⟨[(.ag [(.i .i64 3), (.sl 67 0 9 (.u 4)), (.sl 32 0 3 (.u 1))]), (.c (.sl 56 0 3 (.u 1)))], [(32, wb6_27), (56, wb6_2), (67, wb6_34)], 111, (.c (.sl 113 0 3 (.n 3))), [(32, wb6_27), (56, wb6_2), (67, wb6_34), (113, wb6_29)], 156⟩) 
theorem w2_3_2o1 : mok [(0, 3, 2), (4, 9, 3)] (lenL 1 2 8 ++ []) wN2 21 w2_3_2m1 = true := by kernel_rfl
def w2_3_2m2 : Memo :=  (⟨[(.ag [(.i .i64 3), (.sl 67 0 9 (.u 4)), (.sl 32 0 3 (.u 1))]), (.c (.sl 56 0 3 (.u 1)))], [(32, wb6_30), (56, wb6_2), (67, wb6_34)], 156, (.c (.sl 158 0 3 (.n 3))), [(32, wb6_30), (56, wb6_2), (67, wb6_34), (158, wb6_31)], 201⟩) 
theorem w2_3_2o2 : mok [(0, 3, 2), (4, 9, 3)] (lenL 1 2 8 ++ []) wN2 21 w2_3_2m2 = true := by kernel_rfl
def w2_3_2ms : List (Nat × List Memo) := [(21, [w2_3_2m0, w2_3_2m1, w2_3_2m2])]
theorem w2_3_2mo : AllMem (memRun [(0, 3, 2), (4, 9, 3)] (lenL 1 2 8 ++ []) wN2) w2_3_2ms := ⟨⟨w2_3_2o0, w2_3_2o1, w2_3_2o2, trivial⟩, trivial⟩
theorem w2_3_2 : lawRunM 9 10 200 [.i, .q, .b, .q, .i] [(0, 3, 2), (4, 9, 3)] (lenL 1 2 8 ++ []) wN2 w2_3_2ms = true := by kernel_rfl
def w2_4_2m0 : Memo :=  (⟨[(.ag [(.i .i64 3), (.sl 11 0 6 (.u 4)), (.sl 10 0 3 (.u 1))]), (.c (.sl 56 0 3 (.u 1)))], [(10, wb6_27), (11, wb6_28), (56, wb6_2)], 81, (.c (.sl 83 0 3 (.n 3))), [(10, wb6_27), (11, wb6_28), (56, wb6_2), (83, wb6_29)], 114⟩) 
theorem w2_4_2o0 : mok [(0, 3, 2), (4, 9, 4)] (lenL 1 2 8 ++ []) wN2 21 w2_4_2m0 = true := by kernel_rfl
def w2_4_2m1 : Memo :=  (⟨[(.ag [(.i .i64 3), (.sl 69 0 10 (.u 4)), (.sl 32 0 3 (.u 1))]), (.c (.sl 56 0 3 (.u 1)))], [(32, wb6_27), (56, wb6_2), (69, wb6_35)], 114, (.c (.sl 116 0 3 (.n 3))), [(32, wb6_27), (56, wb6_2), (69, wb6_35), (116, wb6_29)], 163⟩) 
theorem w2_4_2o1 : mok [(0, 3, 2), (4, 9, 4)] (lenL 1 2 8 ++ []) wN2 21 w2_4_2m1 = true := by kernel_rfl
def w2_4_2m2 : Memo :=  (⟨[(.ag [(.i .i64 3), (.sl 69 0 10 (.u 4)), (.sl 32 0 3 (.u 1))]), (.c (.sl 56 0 3 (.u 1)))], [(32, wb6_30), (56, wb6_2), (69, wb6_35)], 163, (.c (.sl 165 0 3 (.n 3))), [(32, wb6_30), (56, wb6_2), (69, wb6_35), (165, wb6_31)], 212⟩) 
theorem w2_4_2o2 : mok [(0, 3, 2), (4, 9, 4)] (lenL 1 2 8 ++ []) wN2 21 w2_4_2m2 = true := by kernel_rfl
def w2_4_2ms : List (Nat × List Memo) := [(21, [w2_4_2m0, w2_4_2m1, w2_4_2m2])]
theorem w2_4_2mo : AllMem (memRun [(0, 3, 2), (4, 9, 4)] (lenL 1 2 8 ++ []) wN2) w2_4_2ms := ⟨⟨w2_4_2o0, w2_4_2o1, w2_4_2o2, trivial⟩, trivial⟩
theorem w2_4_2 : lawRunM 9 10 200 [.i, .q, .b, .q, .i] [(0, 3, 2), (4, 9, 4)] (lenL 1 2 8 ++ []) wN2 w2_4_2ms = true := by kernel_rfl
def w2_5_2m0 : Memo :=  (⟨[(.ag [(.i .i64 3), (.sl 11 0 6 (.u 4)), (.sl 10 0 3 (.u 1))]), (.c (.sl 56 0 3 (.u 1)))], [(10, wb6_27), (11, wb6_28), (56, wb6_2)], 84, (.c (.sl 86 0 3 (.n 3))), [(10, wb6_27), (11, wb6_28), (56, wb6_2), (86, wb6_29)], 117⟩) 
theorem w2_5_2o0 : mok [(0, 3, 2), (4, 9, 5)] (lenL 1 2 8 ++ []) wN2 21 w2_5_2m0 = true := by kernel_rfl
def w2_5_2m1 : Memo :=  (⟨[(.ag [(.i .i64 3), (.sl 71 0 11 (.u 4)), (.sl 32 0 3 (.u 1))]), (.c (.sl 56 0 3 (.u 1)))], [(32, wb6_27), (56, wb6_2), (71, wb6_36)], 117, (.c (.sl 119 0 3 (.n 3))), [(32, wb6_27), (56, wb6_2), (71, wb6_36), (119, wb6_29)], 170⟩) 
theorem w2_5_2o1 : mok [(0, 3, 2), (4, 9, 5)] (lenL 1 2 8 ++ []) wN2 21 w2_5_2m1 = true := by kernel_rfl
def w2_5_2m2 : Memo :=  (⟨[(.ag [(.i .i64 3), (.sl 71 0 11 (.u 4)), (.sl 32 0 3 (.u 1))]), (.c (.sl 56 0 3 (.u 1)))], [(32, wb6_30), (56, wb6_2), (71, wb6_36)], 170, (.c (.sl 172 0 3 (.n 3))), [(32, wb6_30), (56, wb6_2), (71, wb6_36), (172, wb6_31)], 223⟩) 
theorem w2_5_2o2 : mok [(0, 3, 2), (4, 9, 5)] (lenL 1 2 8 ++ []) wN2 21 w2_5_2m2 = true := by kernel_rfl
def w2_5_2ms : List (Nat × List Memo) := [(21, [w2_5_2m0, w2_5_2m1, w2_5_2m2])]
theorem w2_5_2mo : AllMem (memRun [(0, 3, 2), (4, 9, 5)] (lenL 1 2 8 ++ []) wN2) w2_5_2ms := ⟨⟨w2_5_2o0, w2_5_2o1, w2_5_2o2, trivial⟩, trivial⟩
theorem w2_5_2 : lawRunM 9 10 200 [.i, .q, .b, .q, .i] [(0, 3, 2), (4, 9, 5)] (lenL 1 2 8 ++ []) wN2 w2_5_2ms = true := by kernel_rfl
def w2_6_2m0 : Memo :=  (⟨[(.ag [(.i .i64 3), (.sl 11 0 6 (.u 4)), (.sl 10 0 3 (.u 1))]), (.c (.sl 56 0 3 (.u 1)))], [(10, wb6_27), (11, wb6_28), (56, wb6_2)], 87, (.c (.sl 89 0 3 (.n 3))), [(10, wb6_27), (11, wb6_28), (56, wb6_2), (89, wb6_29)], 120⟩) 
theorem w2_6_2o0 : mok [(0, 3, 2), (4, 9, 6)] (lenL 1 2 8 ++ []) wN2 21 w2_6_2m0 = true := by kernel_rfl
def w2_6_2m1 : Memo :=  (⟨[(.ag [(.i .i64 3), (.sl 73 0 12 (.u 4)), (.sl 32 0 3 (.u 1))]), (.c (.sl 56 0 3 (.u 1)))], [(32, wb6_27), (56, wb6_2), (73, wb6_37)], 120, (.c (.sl 122 0 3 (.n 3))), [(32, wb6_27), (56, wb6_2), (73, wb6_37), (122, wb6_29)], 177⟩) 
theorem w2_6_2o1 : mok [(0, 3, 2), (4, 9, 6)] (lenL 1 2 8 ++ []) wN2 21 w2_6_2m1 = true := by kernel_rfl
def w2_6_2m2 : Memo :=  (⟨[(.ag [(.i .i64 3), (.sl 73 0 12 (.u 4)), (.sl 32 0 3 (.u 1))]), (.c (.sl 56 0 3 (.u 1)))], [(32, wb6_30), (56, wb6_2), (73, wb6_37)], 177, (.c (.sl 179 0 3 (.n 3))), [(32, wb6_30), (56, wb6_2), (73, wb6_37), (179, wb6_31)], 234⟩) 
theorem w2_6_2o2 : mok [(0, 3, 2), (4, 9, 6)] (lenL 1 2 8 ++ []) wN2 21 w2_6_2m2 = true := by kernel_rfl
def w2_6_2ms : List (Nat × List Memo) := [(21, [w2_6_2m0, w2_6_2m1, w2_6_2m2])]
theorem w2_6_2mo : AllMem (memRun [(0, 3, 2), (4, 9, 6)] (lenL 1 2 8 ++ []) wN2) w2_6_2ms := ⟨⟨w2_6_2o0, w2_6_2o1, w2_6_2o2, trivial⟩, trivial⟩
theorem w2_6_2 : lawRunM 9 10 200 [.i, .q, .b, .q, .i] [(0, 3, 2), (4, 9, 6)] (lenL 1 2 8 ++ []) wN2 w2_6_2ms = true := by kernel_rfl
def w2_7_2m0 : Memo :=  (⟨[(.ag [(.i .i64 3), (.sl 11 0 6 (.u 4)), (.sl 10 0 3 (.u 1))]), (.c (.sl 56 0 3 (.u 1)))], [(10, wb6_27), (11, wb6_28), (56, wb6_2)], 90, (.c (.sl 92 0 3 (.n 3))), [(10, wb6_27), (11, wb6_28), (56, wb6_2), (92, wb6_29)], 123⟩) 
theorem w2_7_2o0 : mok [(0, 3, 2), (4, 9, 7)] (lenL 1 2 8 ++ []) wN2 21 w2_7_2m0 = true := by kernel_rfl
def w2_7_2m1 : Memo :=  (⟨[(.ag [(.i .i64 3), (.sl 75 0 13 (.u 4)), (.sl 32 0 3 (.u 1))]), (.c (.sl 56 0 3 (.u 1)))], [(32, wb6_27), (56, wb6_2), (75, wb6_38)], 123, (.c (.sl 125 0 3 (.n 3))), [(32, wb6_27), (56, wb6_2), (75, wb6_38), (125, wb6_29)], 184⟩) 
theorem w2_7_2o1 : mok [(0, 3, 2), (4, 9, 7)] (lenL 1 2 8 ++ []) wN2 21 w2_7_2m1 = true := by kernel_rfl
def w2_7_2m2 : Memo :=  (⟨[(.ag [(.i .i64 3), (.sl 75 0 13 (.u 4)), (.sl 32 0 3 (.u 1))]), (.c (.sl 56 0 3 (.u 1)))], [(32, wb6_30), (56, wb6_2), (75, wb6_38)], 184, (.c (.sl 186 0 3 (.n 3))), [(32, wb6_30), (56, wb6_2), (75, wb6_38), (186, wb6_31)], 245⟩) 
theorem w2_7_2o2 : mok [(0, 3, 2), (4, 9, 7)] (lenL 1 2 8 ++ []) wN2 21 w2_7_2m2 = true := by kernel_rfl
def w2_7_2ms : List (Nat × List Memo) := [(21, [w2_7_2m0, w2_7_2m1, w2_7_2m2])]
theorem w2_7_2mo : AllMem (memRun [(0, 3, 2), (4, 9, 7)] (lenL 1 2 8 ++ []) wN2) w2_7_2ms := ⟨⟨w2_7_2o0, w2_7_2o1, w2_7_2o2, trivial⟩, trivial⟩
theorem w2_7_2 : lawRunM 9 10 200 [.i, .q, .b, .q, .i] [(0, 3, 2), (4, 9, 7)] (lenL 1 2 8 ++ []) wN2 w2_7_2ms = true := by kernel_rfl
def w2_8_2m0 : Memo :=  (⟨[(.ag [(.i .i64 3), (.sl 11 0 6 (.u 4)), (.sl 10 0 3 (.u 1))]), (.c (.sl 56 0 3 (.u 1)))], [(10, wb6_27), (11, wb6_28), (56, wb6_2)], 93, (.c (.sl 95 0 3 (.n 3))), [(10, wb6_27), (11, wb6_28), (56, wb6_2), (95, wb6_29)], 126⟩) 
theorem w2_8_2o0 : mok [(0, 3, 2), (4, 9, 8)] (lenL 1 2 8 ++ []) wN2 21 w2_8_2m0 = true := by kernel_rfl
def w2_8_2m1 : Memo :=  (⟨[(.ag [(.i .i64 3), (.sl 77 0 14 (.u 4)), (.sl 32 0 3 (.u 1))]), (.c (.sl 56 0 3 (.u 1)))], [(32, wb6_27), (56, wb6_2), (77, wb6_39)], 126, (.c (.sl 128 0 3 (.n 3))), [(32, wb6_27), (56, wb6_2), (77, wb6_39), (128, wb6_29)], 191⟩) 
theorem w2_8_2o1 : mok [(0, 3, 2), (4, 9, 8)] (lenL 1 2 8 ++ []) wN2 21 w2_8_2m1 = true := by kernel_rfl
def w2_8_2m2 : Memo :=  (⟨[(.ag [(.i .i64 3), (.sl 77 0 14 (.u 4)), (.sl 32 0 3 (.u 1))]), (.c (.sl 56 0 3 (.u 1)))], [(32, wb6_30), (56, wb6_2), (77, wb6_39)], 191, (.c (.sl 193 0 3 (.n 3))), [(32, wb6_30), (56, wb6_2), (77, wb6_39), (193, wb6_31)], 256⟩) 
theorem w2_8_2o2 : mok [(0, 3, 2), (4, 9, 8)] (lenL 1 2 8 ++ []) wN2 21 w2_8_2m2 = true := by kernel_rfl
def w2_8_2ms : List (Nat × List Memo) := [(21, [w2_8_2m0, w2_8_2m1, w2_8_2m2])]
theorem w2_8_2mo : AllMem (memRun [(0, 3, 2), (4, 9, 8)] (lenL 1 2 8 ++ []) wN2) w2_8_2ms := ⟨⟨w2_8_2o0, w2_8_2o1, w2_8_2o2, trivial⟩, trivial⟩
theorem w2_8_2 : lawRunM 9 10 200 [.i, .q, .b, .q, .i] [(0, 3, 2), (4, 9, 8)] (lenL 1 2 8 ++ []) wN2 w2_8_2ms = true := by kernel_rfl
end Go.Proofs.Yticbgaflhiokgaa
