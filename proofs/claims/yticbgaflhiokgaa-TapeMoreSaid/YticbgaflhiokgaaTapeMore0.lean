/-
  'TapeMore': runs of it, part 0.
-/
import Derived.Test.YticbgaflhiokgaaTapeMoret0
namespace Go.Proofs.Yticbgaflhiokgaa
open Go.RowKit Ex
set_option maxRecDepth 1000000
set_option maxHeartbeats 100000000
def wm0_0 : E := (.ib .add .i64 (.ib .quo .i64 (.vi 0) (.li 3)) (.li 0))
def wm0_1 : E := (.ib .sub .i64 (.li 1) (.ai 9 0 (.ci wm0_0 (.ci (.li 2) .n0))))
def wm0_2 : E := (.fb .quo (.i2f (.ib .sub .i64 (.ai 9 0 (.ci (.vi 0) (.ci (.li 17) .n0))) (.li 8))) (.lf 4616189618054758400))
def wm0_3 : E := (.fb .quo (.i2f (.ib .sub .i64 (.ai 9 0 (.ci (.ti (.ic .lss (.li 0) (.vl 3)) (.at 3 0) (.li 0)) (.ci (.li 65) .n0))) (.li 32))) (.lf 4620693217682128896))
def wm0_4 : E := (.ib .quo .i64 (.vi 4) (.li 9))
def wm0_5 : E := (.ai 9 0 (.ci wm0_0 (.ci (.li 3) .n0)))
def wm0_6 : E := (.ic .eql (.ai 9 0 (.ci (.at 1 0) (.ci (.li 11) .n0))) (.li 0))
def wm0_7 : E := (.ib .add .i64 (.li 2) (.ai 9 0 (.ci (.at 1 0) (.ci (.li 3) .n0))))
def wm0_8 : E := (.ic .eql (.ai 9 0 (.ci (.at 1 1) (.ci (.li 11) .n0))) (.li 0))
def wm0_9 : E := (.ib .add .i64 (.li 2) (.ai 9 0 (.ci (.at 1 1) (.ci (.li 3) .n0))))
def wk0_0 : Blk := [(.i .i64 1), (.i .i64 0), (.i .i64 0), (.f 0)]
def wk0_1 : Blk := [(.i .i64 0), (.i .i64 0), (.i .i64 0), (.ef wm0_2)]
def wk0_2 : Blk := [(.i .i64 4), (.ei .i64 (.ai 9 0 (.ci (.vi 4) (.ci (.li 2) .n0)))), (.ei .i64 (.ai 9 0 (.ci wm0_4 (.ci (.li 2) .n0)))), (.f 0)]
def wk0_3 : Blk := [(.i .i64 4), (.ei .i64 (.ai 9 0 (.ci (.vi 4) (.ci (.li 3) .n0)))), (.ei .i64 (.ai 9 0 (.ci wm0_4 (.ci (.li 3) .n0)))), (.f 0)]
def wk0_4 : Blk := [(.i .i64 4), (.ei .i64 (.ai 9 0 (.ci (.vi 4) (.ci (.li 4) .n0)))), (.ei .i64 (.ai 9 0 (.ci wm0_4 (.ci (.li 4) .n0)))), (.f 0)]
def wk0_5 : Blk := [(.i .i64 4), (.ei .i64 (.ai 9 0 (.ci (.vi 4) (.ci (.li 5) .n0)))), (.ei .i64 (.ai 9 0 (.ci wm0_4 (.ci (.li 5) .n0)))), (.f 0)]
def wk0_6 : Blk := [(.i .i64 4), (.ei .i64 (.ai 9 0 (.ci (.vi 4) (.ci (.li 6) .n0)))), (.ei .i64 (.ai 9 0 (.ci wm0_4 (.ci (.li 6) .n0)))), (.f 0)]
def wk0_7 : Blk := [(.i .i64 4), (.ei .i64 (.ai 9 0 (.ci (.vi 4) (.ci (.li 7) .n0)))), (.ei .i64 (.ai 9 0 (.ci wm0_4 (.ci (.li 7) .n0)))), (.f 0)]
def wk0_8 : Blk := [(.i .i64 4), (.ei .i64 (.ai 9 0 (.ci (.vi 4) (.ci (.li 8) .n0)))), (.ei .i64 (.ai 9 0 (.ci wm0_4 (.ci (.li 8) .n0)))), (.f 0)]
def wk0_9 : Blk := [(.i .i64 4), (.i .i64 8), (.ei .i64 (.ai 9 0 (.ci wm0_4 (.ci (.li 9) .n0)))), (.f 0)]
def wk0_10 : Blk := [(.ei .i64 (.ti wm0_6 (.li 0) (.ti (.vb 2) (.ti (.ic .eql (.ai 9 0 (.ci (.at 1 0) (.ci (.li 7) .n0))) (.li 0)) (.li 5) wm0_7) wm0_7))), (.ei .i64 (.ti wm0_6 (.li 0) (.ai 9 0 (.ci (.ib .quo .i64 (.at 1 0) (.li 4)) (.ci (.li 2) .n0))))), (.ei .i64 (.ti wm0_6 (.li 0) (.ai 9 0 (.ci (.ib .quo .i64 (.at 1 0) (.li 40)) (.ci (.li 2) .n0))))), (.ef (.tf wm0_6 (.fb .quo (.i2f (.ib .sub .i64 (.ai 9 0 (.ci (.ib .quo .i64 (.at 1 0) (.li 11)) (.ci (.li 33) .n0))) (.li 16))) (.lf 4620693217682128896)) (.lf 0)))]
def wk0_11 : Blk := [(.i .i64 4), (.i .i64 7), (.ei .i64 (.ai 9 0 (.ci wm0_4 (.ci (.li 9) .n0)))), (.f 0)]
def wk0_12 : Blk := [(.i .i64 4), (.ei .i64 (.ai 9 0 (.ci (.vi 4) (.ci (.li 10) .n0)))), (.ei .i64 (.ai 9 0 (.ci wm0_4 (.ci (.li 10) .n0)))), (.f 0)]
def wk0_13 : Blk := [(.ei .i64 (.ti wm0_8 (.li 0) (.ti (.vb 2) (.ti (.ic .eql (.ai 9 0 (.ci (.at 1 1) (.ci (.li 7) .n0))) (.li 0)) (.li 5) wm0_9) wm0_9))), (.ei .i64 (.ti wm0_8 (.li 0) (.ai 9 0 (.ci (.ib .quo .i64 (.at 1 1) (.li 4)) (.ci (.li 3) .n0))))), (.ei .i64 (.ti wm0_8 (.li 0) (.ai 9 0 (.ci (.ib .quo .i64 (.at 1 1) (.li 40)) (.ci (.li 3) .n0))))), (.ef (.tf wm0_8 (.fb .quo (.i2f (.ib .sub .i64 (.ai 9 0 (.ci (.ib .quo .i64 (.at 1 1) (.li 11)) (.ci (.li 33) .n0))) (.li 16))) (.lf 4620693217682128896)) (.lf 0)))]
def wb0_0 : Blk := wk0_0 ++ wk0_1
def wb0_1 : Blk := [(.ef (.tf (.ic .eql wm0_1 (.li 0)) wm0_3 wm0_2))]
def wb0_2 : Blk := wk0_0 ++ wk0_1 ++ wk0_2
def wb0_3 : Blk := wk0_0 ++ wk0_1 ++ wk0_2 ++ wk0_3
def wb0_4 : Blk := wk0_0 ++ wk0_1 ++ wk0_2 ++ wk0_3 ++ wk0_4
def wb0_5 : Blk := wk0_0 ++ wk0_1 ++ wk0_2 ++ wk0_3 ++ wk0_4 ++ wk0_5
def wb0_6 : Blk := wk0_0 ++ wk0_1 ++ wk0_2 ++ wk0_3 ++ wk0_4 ++ wk0_5 ++ wk0_6
def wb0_7 : Blk := wk0_0 ++ wk0_1 ++ wk0_2 ++ wk0_3 ++ wk0_4 ++ wk0_5 ++ wk0_6 ++ wk0_7
def wb0_8 : Blk := wk0_0 ++ wk0_1 ++ wk0_2 ++ wk0_3 ++ wk0_4 ++ wk0_5 ++ wk0_6 ++ wk0_7 ++ wk0_8
def wb0_9 : Blk := wk0_0 ++ wk0_1 ++ wk0_2 ++ wk0_3 ++ wk0_4 ++ wk0_5 ++ wk0_6 ++ wk0_7 ++ wk0_8 ++ wk0_9
def wb0_10 : Blk := [(.ei .i64 (.ib .sub .i64 (.li 2) wm0_5))]
def wb0_11 : Blk := wk0_0 ++ wk0_1 ++ wk0_10
def wb0_12 : Blk := wk0_0 ++ wk0_1 ++ wk0_10 ++ wk0_3
def wb0_13 : Blk := wk0_0 ++ wk0_1 ++ wk0_10 ++ wk0_3 ++ wk0_4
def wb0_14 : Blk := wk0_0 ++ wk0_1 ++ wk0_10 ++ wk0_3 ++ wk0_4 ++ wk0_5
def wb0_15 : Blk := wk0_0 ++ wk0_1 ++ wk0_10 ++ wk0_3 ++ wk0_4 ++ wk0_5 ++ wk0_6
def wb0_16 : Blk := wk0_0 ++ wk0_1 ++ wk0_10 ++ wk0_3 ++ wk0_4 ++ wk0_5 ++ wk0_6 ++ wk0_7
def wb0_17 : Blk := wk0_0 ++ wk0_1 ++ wk0_10 ++ wk0_3 ++ wk0_4 ++ wk0_5 ++ wk0_6 ++ wk0_7 ++ wk0_8
def wb0_18 : Blk := wk0_0 ++ wk0_1 ++ wk0_10 ++ wk0_3 ++ wk0_4 ++ wk0_5 ++ wk0_6 ++ wk0_7 ++ wk0_8 ++ wk0_11
def wb0_19 : Blk := wk0_0 ++ wk0_1 ++ wk0_10 ++ wk0_3 ++ wk0_4 ++ wk0_5 ++ wk0_6 ++ wk0_7 ++ wk0_8 ++ wk0_9 ++ wk0_12
def wb0_20 : Blk := [(.ei .i64 (.ib .sub .i64 (.li 3) wm0_5))]
def wb0_21 : Blk := wk0_0 ++ wk0_1 ++ wk0_10 ++ wk0_13
def wb0_22 : Blk := wk0_0 ++ wk0_1 ++ wk0_10 ++ wk0_13 ++ wk0_4
def wb0_23 : Blk := wk0_0 ++ wk0_1 ++ wk0_10 ++ wk0_13 ++ wk0_4 ++ wk0_5
def wb0_24 : Blk := wk0_0 ++ wk0_1 ++ wk0_10 ++ wk0_13 ++ wk0_4 ++ wk0_5 ++ wk0_6
def wb0_25 : Blk := wk0_0 ++ wk0_1 ++ wk0_10 ++ wk0_13 ++ wk0_4 ++ wk0_5 ++ wk0_6 ++ wk0_7
def wb0_26 : Blk := wk0_0 ++ wk0_1 ++ wk0_10 ++ wk0_13 ++ wk0_4 ++ wk0_5 ++ wk0_6 ++ wk0_7 ++ wk0_8
def wb0_27 : Blk := wk0_0 ++ wk0_1 ++ wk0_10 ++ wk0_13 ++ wk0_4 ++ wk0_5 ++ wk0_6 ++ wk0_7 ++ wk0_8 ++ [(.i .i64 4), (.i .i64 6), (.ei .i64 (.ai 9 0 (.ci wm0_4 (.ci (.li 9) .n0)))), (.f 0)]
def wb0_28 : Blk := wk0_0 ++ wk0_1 ++ wk0_10 ++ wk0_13 ++ wk0_4 ++ wk0_5 ++ wk0_6 ++ wk0_7 ++ wk0_8 ++ wk0_11 ++ wk0_12
def wb0_29 : Blk := wk0_0 ++ wk0_1 ++ wk0_10 ++ wk0_13 ++ wk0_4 ++ wk0_5 ++ wk0_6 ++ wk0_7 ++ wk0_8 ++ wk0_9 ++ wk0_12 ++ [(.i .i64 4), (.ei .i64 (.ai 9 0 (.ci (.vi 4) (.ci (.li 11) .n0)))), (.ei .i64 (.ai 9 0 (.ci wm0_4 (.ci (.li 11) .n0)))), (.f 0)]
def w0_0_0m0 : Memo :=  (⟨[(.ag [(.i .i64 1), (.sl 11 0 2 (.u 4)), (.sl 10 0 1 (.u 1))]), (.c (.sl 28 0 1 (.u 1)))], [(10, [(.ei .i64 wm0_1)]), (11, wb0_0), (28, [(.ef wm0_3)])], 33, (.c (.sl 35 0 1 (.n 1))), [(10, [(.ei .i64 wm0_1)]), (11, wb0_0), (28, [(.ef wm0_3)]), (35, wb0_1)], 50⟩) 
theorem w0_0_0o0 : mok [(0, 3, 0), (4, 9, 0)] (lenL 1 0 8 ++ []) wN0 21 w0_0_0m0 = true := by kernel_rfl
def w0_0_0m1 : Memo :=  (⟨[(.ag [(.i .i64 1), (.sl 19 0 2 (.u 4)), (.sl 18 0 1 (.u 1))]), (.c (.sl 28 0 1 (.u 1)))], [(18, [(.ei .i64 wm0_1)]), (19, wb0_0), (28, [(.ef wm0_3)])], 50, (.c (.sl 52 0 1 (.n 1))), [(18, [(.ei .i64 wm0_1)]), (19, wb0_0), (28, [(.ef wm0_3)]), (52, wb0_1)], 67⟩) 
theorem w0_0_0o1 : mok [(0, 3, 0), (4, 9, 0)] (lenL 1 0 8 ++ []) wN0 21 w0_0_0m1 = true := by kernel_rfl
def w0_0_0m2 : Memo :=  (⟨[(.ag [(.i .i64 1), (.sl 19 0 2 (.u 4)), (.sl 18 0 1 (.u 1))]), (.c (.sl 28 0 1 (.u 1)))], [(18, [(.ei .i64 wm0_1)]), (19, wb0_0), (28, [(.ef wm0_3)])], 67, (.c (.sl 69 0 1 (.n 1))), [(18, [(.ei .i64 wm0_1)]), (19, wb0_0), (28, [(.ef wm0_3)]), (69, wb0_1)], 84⟩) 
theorem w0_0_0o2 : mok [(0, 3, 0), (4, 9, 0)] (lenL 1 0 8 ++ []) wN0 21 w0_0_0m2 = true := by kernel_rfl
def w0_0_0ms : List (Nat × List Memo) := [(21, [w0_0_0m0, w0_0_0m1, w0_0_0m2])]
theorem w0_0_0mo : AllMem (memRun [(0, 3, 0), (4, 9, 0)] (lenL 1 0 8 ++ []) wN0) w0_0_0ms := ⟨⟨w0_0_0o0, w0_0_0o1, w0_0_0o2, trivial⟩, trivial⟩
theorem w0_0_0 : lawRunM 9 10 200 [.i, .q, .b, .q, .i] [(0, 3, 0), (4, 9, 0)] (lenL 1 0 8 ++ []) wN0 w0_0_0ms = true := by kernel_rfl
def w0_1_0m0 : Memo :=  (⟨[(.ag [(.i .i64 1), (.sl 11 0 2 (.u 4)), (.sl 10 0 1 (.u 1))]), (.c (.sl 28 0 1 (.u 1)))], [(10, [(.ei .i64 wm0_1)]), (11, wb0_0), (28, [(.ef wm0_3)])], 36, (.c (.sl 38 0 1 (.n 1))), [(10, [(.ei .i64 wm0_1)]), (11, wb0_0), (28, [(.ef wm0_3)]), (38, wb0_1)], 53⟩) 
theorem w0_1_0o0 : mok [(0, 3, 0), (4, 9, 1)] (lenL 1 0 8 ++ []) wN0 21 w0_1_0m0 = true := by kernel_rfl
def w0_1_0m1 : Memo :=  (⟨[(.ag [(.i .i64 1), (.sl 31 0 3 (.u 4)), (.sl 18 0 1 (.u 1))]), (.c (.sl 28 0 1 (.u 1)))], [(18, [(.ei .i64 wm0_1)]), (28, [(.ef wm0_3)]), (31, wb0_2)], 53, (.c (.sl 55 0 1 (.n 1))), [(18, [(.ei .i64 wm0_1)]), (28, [(.ef wm0_3)]), (31, wb0_2), (55, wb0_1)], 74⟩) 
theorem w0_1_0o1 : mok [(0, 3, 0), (4, 9, 1)] (lenL 1 0 8 ++ []) wN0 21 w0_1_0m1 = true := by kernel_rfl
def w0_1_0m2 : Memo :=  (⟨[(.ag [(.i .i64 1), (.sl 31 0 3 (.u 4)), (.sl 18 0 1 (.u 1))]), (.c (.sl 28 0 1 (.u 1)))], [(18, [(.ei .i64 wm0_1)]), (28, [(.ef wm0_3)]), (31, wb0_2)], 74, (.c (.sl 76 0 1 (.n 1))), [(18, [(.ei .i64 wm0_1)]), (28, [(.ef wm0_3)]), (31, wb0_2), (76, wb0_1)], 95⟩) 
theorem w0_1_0o2 : mok [(0, 3, 0), (4, 9, 1)] (lenL 1 0 8 ++ []) wN0 21 w0_1_0m2 = true := by kernel_rfl
def w0_1_0ms : List (Nat × List Memo) := [(21, [w0_1_0m0, w0_1_0m1, w0_1_0m2])]
theorem w0_1_0mo : AllMem (memRun [(0, 3, 0), (4, 9, 1)] (lenL 1 0 8 ++ []) wN0) w0_1_0ms := ⟨⟨w0_1_0o0, w0_1_0o1, w0_1_0o2, trivial⟩, trivial⟩
theorem w0_1_0 : lawRunM 9 10 200 [.i, .q, .b, .q, .i] [(0, 3, 0), (4, 9, 1)] (lenL 1 0 8 ++ []) wN0 w0_1_0ms = true := by kernel_rfl
def w0_2_0m0 : Memo :=  (⟨[(.ag [(.i .i64 1), (.sl 11 0 2 (.u 4)), (.sl 10 0 1 (.u 1))]), (.c (.sl 28 0 1 (.u 1)))], [(10, [(.ei .i64 wm0_1)]), (11, wb0_0), (28, [(.ef wm0_3)])], 39, (.c (.sl 41 0 1 (.n 1))), [(10, [(.ei .i64 wm0_1)]), (11, wb0_0), (28, [(.ef wm0_3)]), (41, wb0_1)], 56⟩) 
theorem w0_2_0o0 : mok [(0, 3, 0), (4, 9, 2)] (lenL 1 0 8 ++ []) wN0 21 w0_2_0m0 = true := by kernel_rfl
def w0_2_0m1 : Memo :=  (⟨[(.ag [(.i .i64 1), (.sl 33 0 4 (.u 4)), (.sl 18 0 1 (.u 1))]), (.c (.sl 28 0 1 (.u 1)))], [(18, [(.ei .i64 wm0_1)]), (28, [(.ef wm0_3)]), (33, wb0_3)], 56, (.c (.sl 58 0 1 (.n 1))), [(18, [(.ei .i64 wm0_1)]), (28, [(.ef wm0_3)]), (33, wb0_3), (58, wb0_1)], 81⟩) 
theorem w0_2_0o1 : mok [(0, 3, 0), (4, 9, 2)] (lenL 1 0 8 ++ []) wN0 21 w0_2_0m1 = true := by kernel_rfl
def w0_2_0m2 : Memo :=  (⟨[(.ag [(.i .i64 1), (.sl 33 0 4 (.u 4)), (.sl 18 0 1 (.u 1))]), (.c (.sl 28 0 1 (.u 1)))], [(18, [(.ei .i64 wm0_1)]), (28, [(.ef wm0_3)]), (33, wb0_3)], 81, (.c (.sl 83 0 1 (.n 1))), [(18, [(.ei .i64 wm0_1)]), (28, [(.ef wm0_3)]), (33, wb0_3), (83, wb0_1)], 106⟩) 
theorem w0_2_0o2 : mok [(0, 3, 0), (4, 9, 2)] (lenL 1 0 8 ++ []) wN0 21 w0_2_0m2 = true := by kernel_rfl
def w0_2_0ms : List (Nat × List Memo) := [(21, [w0_2_0m0, w0_2_0m1, w0_2_0m2])]
theorem w0_2_0mo : AllMem (memRun [(0, 3, 0), (4, 9, 2)] (lenL 1 0 8 ++ []) wN0) w0_2_0ms := ⟨⟨w0_2_0o0, w0_2_0o1, w0_2_0o2, trivial⟩, trivial⟩
theorem w0_2_0 : lawRunM 9 10 200 [.i, .q, .b, .q, .i] [(0, 3, 0), (4, 9, 2)] (lenL 1 0 8 ++ []) wN0 w0_2_0ms = true := by kernel_rfl
def w0_3_0m0 : Memo :=  (⟨[(.ag [(.i .i64 1), (.sl 11 0 2 (.u 4)), (.sl 10 0 1 (.u 1))]), (.c (.sl 28 0 1 (.u 1)))], [(10, [(.ei .i64 wm0_1)]), (11, wb0_0), (28, [(.ef wm0_3)])], 42, (.c (.sl 44 0 1 (.n 1))), [(10, [(.ei .i64 wm0_1)]), (11, wb0_0), (28, [(.ef wm0_3)]), (44, wb0_1)], 59⟩) 
theorem w0_3_0o0 : mok [(0, 3, 0), (4, 9, 3)] (lenL 1 0 8 ++ []) wN0 21 w0_3_0m0 = true := by kernel_rfl
def w0_3_0m1 : Memo :=  (⟨[(.ag [(.i .i64 1), (.sl 35 0 5 (.u 4)), (.sl 18 0 1 (.u 1))]), (.c (.sl 28 0 1 (.u 1)))], [(18, [(.ei .i64 wm0_1)]), (28, [(.ef wm0_3)]), (35, wb0_4)], 59, (.c (.sl 61 0 1 (.n 1))), [(18, [(.ei .i64 wm0_1)]), (28, [(.ef wm0_3)]), (35, wb0_4), (61, wb0_1)], 88⟩) 
theorem w0_3_0o1 : mok [(0, 3, 0), (4, 9, 3)] (lenL 1 0 8 ++ []) wN0 21 w0_3_0m1 = true := by kernel_rfl
def w0_3_0m2 : Memo :=  (⟨[(.ag [(.i .i64 1), (.sl 35 0 5 (.u 4)), (.sl 18 0 1 (.u 1))]), (.c (.sl 28 0 1 (.u 1)))], [(18, [(.ei .i64 wm0_1)]), (28, [(.ef wm0_3)]), (35, wb0_4)], 88, (.c (.sl 90 0 1 (.n 1))), [(18, [(.ei .i64 wm0_1)]), (28, [(.ef wm0_3)]), (35, wb0_4), (90, wb0_1)], 117⟩) 
theorem w0_3_0o2 : mok [(0, 3, 0), (4, 9, 3)] (lenL 1 0 8 ++ []) wN0 21 w0_3_0m2 = true := by kernel_rfl
def w0_3_0ms : List (Nat × List Memo) := [(21, [w0_3_0m0, w0_3_0m1, w0_3_0m2])]
theorem w0_3_0mo : AllMem (memRun [(0, 3, 0), (4, 9, 3)] (lenL 1 0 8 ++ []) wN0) w0_3_0ms := ⟨⟨w0_3_0o0, w0_3_0o1, w0_3_0o2, trivial⟩, trivial⟩
theorem w0_3_0 : lawRunM 9 10 200 [.i, .q, .b, .q, .i] [(0, 3, 0), (4, 9, 3)] (lenL 1 0 8 ++ []) wN0 w0_3_0ms = true := by kernel_rfl
def w0_4_0m0 : Memo :=  (⟨[(.ag [(.i .i64 1), (.sl 11 0 2 (.u 4)), (.sl 10 0 1 (.u 1))]), (.c (.sl 28 0 1 (.u 1)))], [(10, [(.ei .i64 wm0_1)]), (11, wb0_0), (28, [(.ef wm0_3)])], 45, (.c (.sl 47 0 1 (.n 1))), [(10, [(.ei .i64 wm0_1)]), (11, wb0_0), (28, [(.ef wm0_3)]), (47, wb0_1)], 62⟩) 
theorem w0_4_0o0 : mok [(0, 3, 0), (4, 9, 4)] (lenL 1 0 8 ++ []) wN0 21 w0_4_0m0 = true := by kernel_rfl
def w0_4_0m1 : Memo :=  (⟨[(.ag [(.i .i64 1), (.sl 37 0 6 (.u 4)), (.sl 18 0 1 (.u 1))]), (.c (.sl 28 0 1 (.u 1)))], [(18, [(.ei .i64 wm0_1)]), (28, [(.ef wm0_3)]), (37, wb0_5)], 62, (.c (.sl 64 0 1 (.n 1))), [(18, [(.ei .i64 wm0_1)]), (28, [(.ef wm0_3)]), (37, wb0_5), (64, wb0_1)], 95⟩) 
theorem w0_4_0o1 : mok [(0, 3, 0), (4, 9, 4)] (lenL 1 0 8 ++ []) wN0 21 w0_4_0m1 = true := by kernel_rfl
def w0_4_0m2 : Memo :=  (⟨[(.ag [(.i .i64 1), (.sl 37 0 6 (.u 4)), (.sl 18 0 1 (.u 1))]), (.c (.sl 28 0 1 (.u 1)))], [(18, [(.ei .i64 wm0_1)]), (28, [(.ef wm0_3)]), (37, wb0_5)], 95, (.c (.sl 97 0 1 (.n 1))), [(18, [(.ei .i64 wm0_1)]), (28, [(.ef wm0_3)]), (37, wb0_5), (97, wb0_1)], 128⟩) 
theorem w0_4_0o2 : mok [(0, 3, 0), (4, 9, 4)] (lenL 1 0 8 ++ []) wN0 21 w0_4_0m2 = true := by kernel_rfl
def w0_4_0ms : List (Nat × List Memo) := [(21, [w0_4_0m0, w0_4_0m1, w0_4_0m2])]
theorem w0_4_0mo : AllMem (memRun [(0, 3, 0), (4, 9, 4)] (lenL 1 0 8 ++ []) wN0) w0_4_0ms := ⟨⟨w0_4_0o0, w0_4_0o1, w0_4_0o2, trivial⟩, trivial⟩
theorem w0_4_0 : lawRunM 9 10 200 [.i, .q, .b, .q, .i] [(0, 3, 0), (4, 9, 4)] (lenL 1 0 8 ++ []) wN0 w0_4_0ms = true := by kernel_rfl
def w0_5_0m0 : Memo :=  (⟨[(.ag [(.i .i64 1), (.sl 11 0 2 (.u 4)), (.sl 10 0 1 (.u 1))]), (.c (.sl 28 0 1 (.u 1)))], [(10, [(.ei .i64 wm0_1)]), (11, wb0_0), (28, [(.ef wm0_3)])], 48, (.c (.sl 50 0 1 (.n 1))), [(10, [(.ei .i64 wm0_1)]), (11, wb0_0), (28, [(.ef wm0_3)]), (50, wb0_1)], 65⟩) 
theorem w0_5_0o0 : mok [(0, 3, 0), (4, 9, 5)] (lenL 1 0 8 ++ []) wN0 21 w0_5_0m0 = true := by kernel_rfl
def w0_5_0m1 : Memo :=  (⟨[(.ag [(.i .i64 1), (.sl 39 0 7 (.u 4)), (.sl 18 0 1 (.u 1))]), (.c (.sl 28 0 1 (.u 1)))], [(18, [(.ei .i64 wm0_1)]), (28, [(.ef wm0_3)]), (39, wb0_6)], 65, (.c (.sl 67 0 1 (.n 1))), [(18, [(.ei .i64 wm0_1)]), (28, [(.ef wm0_3)]), (39, wb0_6), (67, wb0_1)], 102⟩) 
theorem w0_5_0o1 : mok [(0, 3, 0), (4, 9, 5)] (lenL 1 0 8 ++ []) wN0 21 w0_5_0m1 = true := by kernel_rfl
def w0_5_0m2 : Memo :=  (⟨[(.ag [(.i .i64 1), (.sl 39 0 7 (.u 4)), (.sl 18 0 1 (.u 1))]), (.c (.sl 28 0 1 (.u 1)))], [(18, [(.ei .i64 wm0_1)]), (28, [(.ef wm0_3)]), (39, wb0_6)], 102, (.c (.sl 104 0 1 (.n 1))), [(18, [(.ei .i64 wm0_1)]), (28, [(.ef wm0_3)]), (39, wb0_6), (104, wb0_1)], 139⟩) 
theorem w0_5_0o2 : mok [(0, 3, 0), (4, 9, 5)] (lenL 1 0 8 ++ []) wN0 21 w0_5_0m2 = true := by kernel_rfl
def w0_5_0ms : List (Nat × List Memo) := [(21, [w0_5_0m0, w0_5_0m1, w0_5_0m2])]
theorem w0_5_0mo : AllMem (memRun [(0, 3, 0), (4, 9, 5)] (lenL 1 0 8 ++ []) wN0) w0_5_0ms := ⟨⟨w0_5_0o0, w0_5_0o1, w0_5_0o2, trivial⟩, trivial⟩
theorem w0_5_0 : lawRunM 9 10 200 [.i, .q, .b, .q, .i] [(0, 3, 0), (4, 9, 5)] (lenL 1 0 8 ++ []) wN0 w0_5_0ms = true := by kernel_rfl
def w0_6_0m0 : Memo :=  (⟨[(.ag [(.i .i64 1), (.sl 11 0 2 (.u 4)), (.sl 10 0 1 (.u 1))]), (.c (.sl 28 0 1 (.u 1)))], [(10, [(.ei .i64 wm0_1)]), (11, wb0_0), (28, [(.ef wm0_3)])], 51, (.c (.sl 53 0 1 (.n 1))), [(10, [(.ei .i64 wm0_1)]), (11, wb0_0), (28, [(.ef wm0_3)]), (53, wb0_1)], 68⟩) 
theorem w0_6_0o0 : mok [(0, 3, 0), (4, 9, 6)] (lenL 1 0 8 ++ []) wN0 21 w0_6_0m0 = true := by kernel_rfl
def w0_6_0m1 : Memo :=  (⟨[(.ag [(.i .i64 1), (.sl 41 0 8 (.u 4)), (.sl 18 0 1 (.u 1))]), (.c (.sl 28 0 1 (.u 1)))], [(18, [(.ei .i64 wm0_1)]), (28, [(.ef wm0_3)]), (41, wb0_7)], 68, (.c (.sl 70 0 1 (.n 1))), [(18, [(.ei .i64 wm0_1)]), (28, [(.ef wm0_3)]), (41, wb0_7), (70, wb0_1)], 109⟩) 
theorem w0_6_0o1 : mok [(0, 3, 0), (4, 9, 6)] (lenL 1 0 8 ++ []) wN0 21 w0_6_0m1 = true := by kernel_rfl
def w0_6_0m2 : Memo :=  (⟨[(.ag [(.i .i64 1), (.sl 41 0 8 (.u 4)), (.sl 18 0 1 (.u 1))]), (.c (.sl 28 0 1 (.u 1)))], [(18, [(.ei .i64 wm0_1)]), (28, [(.ef wm0_3)]), (41, wb0_7)], 109, (.c (.sl 111 0 1 (.n 1))), [(18, [(.ei .i64 wm0_1)]), (28, [(.ef wm0_3)]), (41, wb0_7), (111, wb0_1)], 150⟩) 
theorem w0_6_0o2 : mok [(0, 3, 0), (4, 9, 6)] (lenL 1 0 8 ++ []) wN0 21 w0_6_0m2 = true := by kernel_rfl
def w0_6_0ms : List (Nat × List Memo) := [(21, [w0_6_0m0, w0_6_0m1, w0_6_0m2])]
theorem w0_6_0mo : AllMem (memRun [(0, 3, 0), (4, 9, 6)] (lenL 1 0 8 ++ []) wN0) w0_6_0ms := ⟨⟨w0_6_0o0, w0_6_0o1, w0_6_0o2, trivial⟩, trivial⟩
theorem w0_6_0 : lawRunM 9 10 200 [.i, .q, .b, .q, .i] [(0, 3, 0), (4, 9, 6)] (lenL 1 0 8 ++ []) wN0 w0_6_0ms = true := by kernel_rfl
def w0_7_0m0 : Memo :=  (⟨[(.ag [(.i .i64 1), (.sl 11 0 2 (.u 4)), (.sl 10 0 1 (.u 1))]), (.c (.sl 28 0 1 (.u 1)))], [(10, [(.ei .i64 wm0_1)]), (11, wb0_0), (28, [(.ef wm0_3)])], 54, (.c (.sl 56 0 1 (.n 1))), [(10, [(.ei .i64 wm0_1)]), (11, wb0_0), (28, [(.ef wm0_3)]), (56, wb0_1)], 71⟩) 
theorem w0_7_0o0 : mok [(0, 3, 0), (4, 9, 7)] (lenL 1 0 8 ++ []) wN0 21 w0_7_0m0 = true := by kernel_rfl
def w0_7_0m1 : Memo :=  (⟨[(.ag [(.i .i64 1), (.sl 43 0 9 (.u 4)), (.sl 18 0 1 (.u 1))]), (.c (.sl 28 0 1 (.u 1)))], [(18, [(.ei .i64 wm0_1)]), (28, [(.ef wm0_3)]), (43, wb0_8)], 71, (.c (.sl 73 0 1 (.n 1))), [(18, [(.ei .i64 wm0_1)]), (28, [(.ef wm0_3)]), (43, wb0_8), (73, wb0_1)], 116⟩) 
theorem w0_7_0o1 : mok [(0, 3, 0), (4, 9, 7)] (lenL 1 0 8 ++ []) wN0 21 w0_7_0m1 = true := by kernel_rfl
def w0_7_0m2 : Memo :=  (⟨[(.ag [(.i .i64 1), (.sl 43 0 9 (.u 4)), (.sl 18 0 1 (.u 1))]), (.c (.sl 28 0 1 (.u 1)))], [(18, [(.ei .i64 wm0_1)]), (28, [(.ef wm0_3)]), (43, wb0_8)], 116, (.c (.sl 118 0 1 (.n 1))), [(18, [(.ei .i64 wm0_1)]), (28, [(.ef wm0_3)]), (43, wb0_8), (118, wb0_1)], 161⟩) 
theorem w0_7_0o2 : mok [(0, 3, 0), (4, 9, 7)] (lenL 1 0 8 ++ []) wN0 21 w0_7_0m2 = true := by kernel_rfl
def w0_7_0ms : List (Nat × List Memo) := [(21, [w0_7_0m0, w0_7_0m1, w0_7_0m2])]
theorem w0_7_0mo : AllMem (memRun [(0, 3, 0), (4, 9, 7)] (lenL 1 0 8 ++ []) wN0) w0_7_0ms := ⟨⟨w0_7_0o0, w0_7_0o1, w0_7_0o2, trivial⟩, trivial⟩
theorem w0_7_0 : lawRunM 9 10 200 [.i, .q, .b, .q, .i] [(0, 3, 0), (4, 9, 7)] (lenL 1 0 8 ++ []) wN0 w0_7_0ms = true := by kernel_rfl
def w0_8_0m0 : Memo :=  (⟨[(.ag [(.i .i64 1), (.sl 11 0 2 (.u 4)), (.sl 10 0 1 (.u 1))]), (.c (.sl 28 0 1 (.u 1)))], [(10, [(.ei .i64 wm0_1)]), (11, wb0_0), (28, [(.ef wm0_3)])], 57, (.c (.sl 59 0 1 (.n 1))), [(10, [(.ei .i64 wm0_1)]), (11, wb0_0), (28, [(.ef wm0_3)]), (59, wb0_1)], 74⟩) 
theorem w0_8_0o0 : mok [(0, 3, 0), (4, 9, 8)] (lenL 1 0 8 ++ []) wN0 21 w0_8_0m0 = true := by kernel_rfl
def w0_8_0m1 : Memo :=  (⟨[(.ag [(.i .i64 1), (.sl 45 0 10 (.u 4)), (.sl 18 0 1 (.u 1))]), (.c (.sl 28 0 1 (.u 1)))], [(18, [(.ei .i64 wm0_1)]), (28, [(.ef wm0_3)]), (45, wb0_9)], 74, (.c (.sl 76 0 1 (.n 1))), [(18, [(.ei .i64 wm0_1)]), (28, [(.ef wm0_3)]), (45, wb0_9), (76, wb0_1)], 123⟩) 
theorem w0_8_0o1 : mok [(0, 3, 0), (4, 9, 8)] (lenL 1 0 8 ++ []) wN0 21 w0_8_0m1 = true := by kernel_rfl
def w0_8_0m2 : Memo :=  (⟨[(.ag [(.i .i64 1), (.sl 45 0 10 (.u 4)), (.sl 18 0 1 (.u 1))]), (.c (.sl 28 0 1 (.u 1)))], [(18, [(.ei .i64 wm0_1)]), (28, [(.ef wm0_3)]), (45, wb0_9)], 123, (.c (.sl 125 0 1 (.n 1))), [(18, [(.ei .i64 wm0_1)]), (28, [(.ef wm0_3)]), (45, wb0_9), (125, wb0_1)], 172⟩) 
theorem w0_8_0o2 : mok [(0, 3, 0), (4, 9, 8)] (lenL 1 0 8 ++ []) wN0 21 w0_8_0m2 = true := by kernel_rfl
def w0_8_0ms : List (Nat × List Memo) := [(21, [w0_8_0m0, w0_8_0m1, w0_8_0m2])]
theorem w0_8_0mo : AllMem (memRun [(0, 3, 0), (4, 9, 8)] (lenL 1 0 8 ++ []) wN0) w0_8_0ms := ⟨⟨w0_8_0o0, w0_8_0o1, w0_8_0o2, trivial⟩, trivial⟩
theorem w0_8_0 : lawRunM 9 10 200 [.i, .q, .b, .q, .i] [(0, 3, 0), (4, 9, 8)] (lenL 1 0 8 ++ []) wN0 w0_8_0ms = true := by kernel_rfl
def w0_0_1m0 : Memo :=  (⟨[(.ag [(.i .i64 1), (.sl 11 0 3 (.u 4)), (.sl 10 0 1 (.u 1))]), (.c (.sl 34 0 1 (.u 1)))], [(10, wb0_10), (11, wb0_11), (34, [(.ef wm0_3)])], 40, (.c (.sl 42 0 1 (.n 1))), [(10, wb0_10), (11, wb0_11), (34, [(.ef wm0_3)]), (42, [(.ef (.vf 157))])], 61⟩) 
theorem w0_0_1o0 : mok [(0, 3, 0), (4, 9, 0)] (lenL 1 1 8 ++ []) wN0 21 w0_0_1m0 = true := by kernel_rfl
def w0_0_1m1 : Memo :=  (⟨[(.ag [(.i .i64 1), (.sl 22 0 3 (.u 4)), (.sl 21 0 1 (.u 1))]), (.c (.sl 34 0 1 (.u 1)))], [(21, wb0_10), (22, wb0_11), (34, [(.ef wm0_3)])], 61, (.c (.sl 63 0 1 (.n 1))), [(21, wb0_10), (22, wb0_11), (34, [(.ef wm0_3)]), (63, [(.ef (.vf 157))])], 82⟩) 
theorem w0_0_1o1 : mok [(0, 3, 0), (4, 9, 0)] (lenL 1 1 8 ++ []) wN0 21 w0_0_1m1 = true := by kernel_rfl
def w0_0_1m2 : Memo :=  (⟨[(.ag [(.i .i64 1), (.sl 22 0 3 (.u 4)), (.sl 21 0 1 (.u 1))]), (.c (.sl 34 0 1 (.u 1)))], [(21, wb0_10), (22, wb0_11), (34, [(.ef wm0_3)])], 82, (.c (.sl 84 0 1 (.n 1))), [(21, wb0_10), (22, wb0_11), (34, [(.ef wm0_3)]), (84, [(.ef (.vf 157))])], 103⟩) 
theorem w0_0_1o2 : mok [(0, 3, 0), (4, 9, 0)] (lenL 1 1 8 ++ []) wN0 21 w0_0_1m2 = true := by kernel_rfl
def w0_0_1ms : List (Nat × List Memo) := [(21, [w0_0_1m0, w0_0_1m1, w0_0_1m2])]
theorem w0_0_1mo : AllMem (memRun [(0, 3, 0), (4, 9, 0)] (lenL 1 1 8 ++ []) wN0) w0_0_1ms := ⟨⟨w0_0_1o0, w0_0_1o1, w0_0_1o2, trivial⟩, trivial⟩
theorem w0_0_1 : lawRunM 9 10 200 [.i, .q, .b, .q, .i] [(0, 3, 0), (4, 9, 0)] (lenL 1 1 8 ++ []) wN0 w0_0_1ms = true := by kernel_rfl
def w0_1_1m0 : Memo :=  (⟨[(.ag [(.i .i64 1), (.sl 11 0 3 (.u 4)), (.sl 10 0 1 (.u 1))]), (.c (.sl 34 0 1 (.u 1)))], [(10, wb0_10), (11, wb0_11), (34, [(.ef wm0_3)])], 43, (.c (.sl 45 0 1 (.n 1))), [(10, wb0_10), (11, wb0_11), (34, [(.ef wm0_3)]), (45, [(.ef (.vf 157))])], 64⟩) 
theorem w0_1_1o0 : mok [(0, 3, 0), (4, 9, 1)] (lenL 1 1 8 ++ []) wN0 21 w0_1_1m0 = true := by kernel_rfl
def w0_1_1m1 : Memo :=  (⟨[(.ag [(.i .i64 1), (.sl 37 0 4 (.u 4)), (.sl 21 0 1 (.u 1))]), (.c (.sl 34 0 1 (.u 1)))], [(21, wb0_10), (34, [(.ef wm0_3)]), (37, wb0_12)], 64, (.c (.sl 66 0 1 (.n 1))), [(21, wb0_10), (34, [(.ef wm0_3)]), (37, wb0_12), (66, [(.ef (.vf 157))])], 89⟩) 
theorem w0_1_1o1 : mok [(0, 3, 0), (4, 9, 1)] (lenL 1 1 8 ++ []) wN0 21 w0_1_1m1 = true := by kernel_rfl
def w0_1_1m2 : Memo :=  (⟨[(.ag [(.i .i64 1), (.sl 37 0 4 (.u 4)), (.sl 21 0 1 (.u 1))]), (.c (.sl 34 0 1 (.u 1)))], [(21, wb0_10), (34, [(.ef wm0_3)]), (37, wb0_12)], 89, (.c (.sl 91 0 1 (.n 1))), [(21, wb0_10), (34, [(.ef wm0_3)]), (37, wb0_12), (91, [(.ef (.vf 157))])], 114⟩) 
theorem w0_1_1o2 : mok [(0, 3, 0), (4, 9, 1)] (lenL 1 1 8 ++ []) wN0 21 w0_1_1m2 = true := by kernel_rfl
def w0_1_1ms : List (Nat × List Memo) := [(21, [w0_1_1m0, w0_1_1m1, w0_1_1m2])]
theorem w0_1_1mo : AllMem (memRun [(0, 3, 0), (4, 9, 1)] (lenL 1 1 8 ++ []) wN0) w0_1_1ms := ⟨⟨w0_1_1o0, w0_1_1o1, w0_1_1o2, trivial⟩, trivial⟩
theorem w0_1_1 : lawRunM 9 10 200 [.i, .q, .b, .q, .i] [(0, 3, 0), (4, 9, 1)] (lenL 1 1 8 ++ []) wN0 w0_1_1ms = true := by kernel_rfl
def w0_2_1m0 : Memo :=  (⟨[(.ag [(.i .i64 1), (.sl 11 0 3 (.u 4)), (.sl 10 0 1 (.u 1))]), (.c (.sl 34 0 1 (.u 1)))], [(10, wb0_10), (11, wb0_11), (34, [(.ef wm0_3)])], 46, (.c (.sl 48 0 1 (.n 1))), [(10, wb0_10), (11, wb0_11), (34, [(.ef wm0_3)]), (48, [(.ef (.vf 157))])], 67⟩) 
theorem w0_2_1o0 : mok [(0, 3, 0), (4, 9, 2)] (lenL 1 1 8 ++ []) wN0 21 w0_2_1m0 = true := by kernel_rfl
def w0_2_1m1 : Memo :=  (⟨[(.ag [(.i .i64 1), (.sl 39 0 5 (.u 4)), (.sl 21 0 1 (.u 1))]), (.c (.sl 34 0 1 (.u 1)))], [(21, wb0_10), (34, [(.ef wm0_3)]), (39, wb0_13)], 67, (.c (.sl 69 0 1 (.n 1))), [(21, wb0_10), (34, [(.ef wm0_3)]), (39, wb0_13), (69, [(.ef (.vf 157))])], 96⟩) 
theorem w0_2_1o1 : mok [(0, 3, 0), (4, 9, 2)] (lenL 1 1 8 ++ []) wN0 21 w0_2_1m1 = true := by kernel_rfl
def w0_2_1m2 : Memo :=  (⟨[(.ag [(.i .i64 1), (.sl 39 0 5 (.u 4)), (.sl 21 0 1 (.u 1))]), (.c (.sl 34 0 1 (.u 1)))], [(21, wb0_10), (34, [(.ef wm0_3)]), (39, wb0_13)], 96, (.c (.sl 98 0 1 (.n 1))), [(21, wb0_10), (34, [(.ef wm0_3)]), (39, wb0_13), (98, [(.ef (.vf 157))])], 125⟩) 
theorem w0_2_1o2 : mok [(0, 3, 0), (4, 9, 2)] (lenL 1 1 8 ++ []) wN0 21 w0_2_1m2 = true := by kernel_rfl
def w0_2_1ms : List (Nat × List Memo) := [(21, [w0_2_1m0, w0_2_1m1, w0_2_1m2])]
theorem w0_2_1mo : AllMem (memRun [(0, 3, 0), (4, 9, 2)] (lenL 1 1 8 ++ []) wN0) w0_2_1ms := ⟨⟨w0_2_1o0, w0_2_1o1, w0_2_1o2, trivial⟩, trivial⟩
theorem w0_2_1 : lawRunM 9 10 200 [.i, .q, .b, .q, .i] [(0, 3, 0), (4, 9, 2)] (lenL 1 1 8 ++ []) wN0 w0_2_1ms = true := by kernel_rfl
def w0_3_1m0 : Memo :=  (⟨[(.ag [(.i .i64 1), (.sl 11 0 3 (.u 4)), (.sl 10 0 1 (.u 1))]), (.c (.sl 34 0 1 (.u 1)))], [(10, wb0_10), (11, wb0_11), (34, [(.ef wm0_3)])], 49, (.c (.sl 51 0 1 (.n 1))), [(10, wb0_10), (11, wb0_11), (34, [(.ef wm0_3)]), (51, [(.ef (.vf 157))])], 70⟩) 
theorem w0_3_1o0 : mok [(0, 3, 0), (4, 9, 3)] (lenL 1 1 8 ++ []) wN0 21 w0_3_1m0 = true := by kernel_rfl
def w0_3_1m1 : Memo :=  (⟨[(.ag [(.i .i64 1), (.sl 41 0 6 (.u 4)), (.sl 21 0 1 (.u 1))]), (.c (.sl 34 0 1 (.u 1)))], [(21, wb0_10), (34, [(.ef wm0_3)]), (41, wb0_14)], 70, (.c (.sl 72 0 1 (.n 1))), [(21, wb0_10), (34, [(.ef wm0_3)]), (41, wb0_14), (72, [(.ef (.vf 157))])], 103⟩) 
theorem w0_3_1o1 : mok [(0, 3, 0), (4, 9, 3)] (lenL 1 1 8 ++ []) wN0 21 w0_3_1m1 = true := by kernel_rfl
def w0_3_1m2 : Memo :=  (⟨[(.ag [(.i .i64 1), (.sl 41 0 6 (.u 4)), (.sl 21 0 1 (.u 1))]), (.c (.sl 34 0 1 (.u 1)))], [(21, wb0_10), (34, [(.ef wm0_3)]), (41, wb0_14)], 103, (.c (.sl 105 0 1 (.n 1))), [(21, wb0_10), (34, [(.ef wm0_3)]), (41, wb0_14), (105, [(.ef (.vf 157))])], 136⟩) 
theorem w0_3_1o2 : mok [(0, 3, 0), (4, 9, 3)] (lenL 1 1 8 ++ []) wN0 21 w0_3_1m2 = true := by kernel_rfl
def w0_3_1ms : List (Nat × List Memo) := [(21, [w0_3_1m0, w0_3_1m1, w0_3_1m2])]
theorem w0_3_1mo : AllMem (memRun [(0, 3, 0), (4, 9, 3)] (lenL 1 1 8 ++ []) wN0) w0_3_1ms := ⟨⟨w0_3_1o0, w0_3_1o1, w0_3_1o2, trivial⟩, trivial⟩
theorem w0_3_1 : lawRunM 9 10 200 [.i, .q, .b, .q, .i] [(0, 3, 0), (4, 9, 3)] (lenL 1 1 8 ++ []) wN0 w0_3_1ms = true := by kernel_rfl
def w0_4_1m0 : Memo :=  (⟨[(.ag [(.i .i64 1), (.sl 11 0 3 (.u 4)), (.sl 10 0 1 (.u 1))]), (.c (.sl 34 0 1 (.u 1)))], [(10, wb0_10), (11, wb0_11), (34, [(.ef wm0_3)])], 52, (.c (.sl 54 0 1 (.n 1))), [(10, wb0_10), (11, wb0_11), (34, [(.ef wm0_3)]), (54, [(.ef (.vf 157))])], 73⟩) 
theorem w0_4_1o0 : mok [(0, 3, 0), (4, 9, 4)] (lenL 1 1 8 ++ []) wN0 21 w0_4_1m0 = true := by kernel_rfl
def w0_4_1m1 : Memo :=  (⟨[(.ag [(.i .i64 1), (.sl 43 0 7 (.u 4)), (.sl 21 0 1 (.u 1))]), (.c (.sl 34 0 1 (.u 1)))], [(21, wb0_10), (34, [(.ef wm0_3)]), (43, wb0_15)], 73, (.c (.sl 75 0 1 (.n 1))), [(21, wb0_10), (34, [(.ef wm0_3)]), (43, wb0_15), (75, [(.ef (.vf 157))])], 110⟩) 
theorem w0_4_1o1 : mok [(0, 3, 0), (4, 9, 4)] (lenL 1 1 8 ++ []) wN0 21 w0_4_1m1 = true := by kernel_rfl
def w0_4_1m2 : Memo :=  (⟨[(.ag [(.i .i64 1), (.sl 43 0 7 (.u 4)), (.sl 21 0 1 (.u 1))]), (.c (.sl 34 0 1 (.u 1)))], [(21, wb0_10), (34, [(.ef wm0_3)]), (43, wb0_15)], 110, (.c (.sl 112 0 1 (.n 1))), [(21, wb0_10), (34, [(.ef wm0_3)]), (43, wb0_15), (112, [(.ef (.vf 157))])], 147⟩) 
theorem w0_4_1o2 : mok [(0, 3, 0), (4, 9, 4)] (lenL 1 1 8 ++ []) wN0 21 w0_4_1m2 = true := by kernel_rfl
def w0_4_1ms : List (Nat × List Memo) := [(21, [w0_4_1m0, w0_4_1m1, w0_4_1m2])]
theorem w0_4_1mo : AllMem (memRun [(0, 3, 0), (4, 9, 4)] (lenL 1 1 8 ++ []) wN0) w0_4_1ms := ⟨⟨w0_4_1o0, w0_4_1o1, w0_4_1o2, trivial⟩, trivial⟩
theorem w0_4_1 : lawRunM 9 10 200 [.i, .q, .b, .q, .i] [(0, 3, 0), (4, 9, 4)] (lenL 1 1 8 ++ []) wN0 w0_4_1ms = true := by kernel_rfl
def w0_5_1m0 : Memo :=  (⟨[(.ag [(.i .i64 1), (.sl 11 0 3 (.u 4)), (.sl 10 0 1 (.u 1))]), (.c (.sl 34 0 1 (.u 1)))], [(10, wb0_10), (11, wb0_11), (34, [(.ef wm0_3)])], 55, (.c (.sl 57 0 1 (.n 1))), [(10, wb0_10), (11, wb0_11), (34, [(.ef wm0_3)]), (57, [(.ef (.vf 157))])], 76⟩) 
theorem w0_5_1o0 : mok [(0, 3, 0), (4, 9, 5)] (lenL 1 1 8 ++ []) wN0 21 w0_5_1m0 = true := by kernel_rfl
def w0_5_1m1 : Memo :=  (⟨[(.ag [(.i .i64 1), (.sl 45 0 8 (.u 4)), (.sl 21 0 1 (.u 1))]), (.c (.sl 34 0 1 (.u 1)))], [(21, wb0_10), (34, [(.ef wm0_3)]), (45, wb0_16)], 76, (.c (.sl 78 0 1 (.n 1))), [(21, wb0_10), (34, [(.ef wm0_3)]), (45, wb0_16), (78, [(.ef (.vf 157))])], 117⟩) 
theorem w0_5_1o1 : mok [(0, 3, 0), (4, 9, 5)] (lenL 1 1 8 ++ []) wN0 21 w0_5_1m1 = true := by kernel_rfl
def w0_5_1m2 : Memo :=  (⟨[(.ag [(.i .i64 1), (.sl 45 0 8 (.u 4)), (.sl 21 0 1 (.u 1))]), (.c (.sl 34 0 1 (.u 1)))], [(21, wb0_10), (34, [(.ef wm0_3)]), (45, wb0_16)], 117, (.c (.sl 119 0 1 (.n 1))), [(21, wb0_10), (34, [(.ef wm0_3)]), (45, wb0_16), (119, [(.ef (.vf 157))])], 158⟩) 
theorem w0_5_1o2 : mok [(0, 3, 0), (4, 9, 5)] (lenL 1 1 8 ++ []) wN0 21 w0_5_1m2 = true := by kernel_rfl
def w0_5_1ms : List (Nat × List Memo) := [(21, [w0_5_1m0, w0_5_1m1, w0_5_1m2])]
theorem w0_5_1mo : AllMem (memRun [(0, 3, 0), (4, 9, 5)] (lenL 1 1 8 ++ []) wN0) w0_5_1ms := ⟨⟨w0_5_1o0, w0_5_1o1, w0_5_1o2, trivial⟩, trivial⟩
theorem w0_5_1 : lawRunM 9 10 200 [.i, .q, .b, .q, .i] [(0, 3, 0), (4, 9, 5)] (lenL 1 1 8 ++ []) wN0 w0_5_1ms = true := by kernel_rfl
def w0_6_1m0 : Memo :=  (⟨[(.ag [(.i .i64 1), (.sl 11 0 3 (.u 4)), (.sl 10 0 1 (.u 1))]), (.c (.sl 34 0 1 (.u 1)))], [(10, wb0_10), (11, wb0_11), (34, [(.ef wm0_3)])], 58, (.c (.sl 60 0 1 (.n 1))), [(10, wb0_10), (11, wb0_11), (34, [(.ef wm0_3)]), (60, [(.ef (.vf 157))])], 79⟩) 
theorem w0_6_1o0 : mok [(0, 3, 0), (4, 9, 6)] (lenL 1 1 8 ++ []) wN0 21 w0_6_1m0 = true := by kernel_rfl
def w0_6_1m1 : Memo :=  (⟨[(.ag [(.i .i64 1), (.sl 47 0 9 (.u 4)), (.sl 21 0 1 (.u 1))]), (.c (.sl 34 0 1 (.u 1)))], [(21, wb0_10), (34, [(.ef wm0_3)]), (47, wb0_17)], 79, (.c (.sl 81 0 1 (.n 1))), [(21, wb0_10), (34, [(.ef wm0_3)]), (47, wb0_17), (81, [(.ef (.vf 157))])], 124⟩) 
theorem w0_6_1o1 : mok [(0, 3, 0), (4, 9, 6)] (lenL 1 1 8 ++ []) wN0 21 w0_6_1m1 = true := by kernel_rfl
def w0_6_1m2 : Memo :=  (⟨[(.ag [(.i .i64 1), (.sl 47 0 9 (.u 4)), (.sl 21 0 1 (.u 1))]), (.c (.sl 34 0 1 (.u 1)))], [(21, wb0_10), (34, [(.ef wm0_3)]), (47, wb0_17)], 124, (.c (.sl 126 0 1 (.n 1))), [(21, wb0_10), (34, [(.ef wm0_3)]), (47, wb0_17), (126, [(.ef (.vf 157))])], 169⟩) 
theorem w0_6_1o2 : mok [(0, 3, 0), (4, 9, 6)] (lenL 1 1 8 ++ []) wN0 21 w0_6_1m2 = true := by kernel_rfl
def w0_6_1ms : List (Nat × List Memo) := [(21, [w0_6_1m0, w0_6_1m1, w0_6_1m2])]
theorem w0_6_1mo : AllMem (memRun [(0, 3, 0), (4, 9, 6)] (lenL 1 1 8 ++ []) wN0) w0_6_1ms := ⟨⟨w0_6_1o0, w0_6_1o1, w0_6_1o2, trivial⟩, trivial⟩
theorem w0_6_1 : lawRunM 9 10 200 [.i, .q, .b, .q, .i] [(0, 3, 0), (4, 9, 6)] (lenL 1 1 8 ++ []) wN0 w0_6_1ms = true := by kernel_rfl
def w0_7_1m0 : Memo :=  (⟨[(.ag [(.i .i64 1), (.sl 11 0 3 (.u 4)), (.sl 10 0 1 (.u 1))]), (.c (.sl 34 0 1 (.u 1)))], [(10, wb0_10), (11, wb0_11), (34, [(.ef wm0_3)])], 61, (.c (.sl 63 0 1 (.n 1))), [(10, wb0_10), (11, wb0_11), (34, [(.ef wm0_3)]), (63, [(.ef (.vf 157))])], 82⟩) 
theorem w0_7_1o0 : mok [(0, 3, 0), (4, 9, 7)] (lenL 1 1 8 ++ []) wN0 21 w0_7_1m0 = true := by kernel_rfl
def w0_7_1m1 : Memo :=  (⟨[(.ag [(.i .i64 1), (.sl 49 0 10 (.u 4)), (.sl 21 0 1 (.u 1))]), (.c (.sl 34 0 1 (.u 1)))], [(21, wb0_10), (34, [(.ef wm0_3)]), (49, wb0_18)], 82, (.c (.sl 84 0 1 (.n 1))), [(21, wb0_10), (34, [(.ef wm0_3)]), (49, wb0_18), (84, [(.ef (.vf 157))])], 131⟩) 
theorem w0_7_1o1 : mok [(0, 3, 0), (4, 9, 7)] (lenL 1 1 8 ++ []) wN0 21 w0_7_1m1 = true := by kernel_rfl
def w0_7_1m2 : Memo :=  (⟨[(.ag [(.i .i64 1), (.sl 49 0 10 (.u 4)), (.sl 21 0 1 (.u 1))]), (.c (.sl 34 0 1 (.u 1)))], [(21, wb0_10), (34, [(.ef wm0_3)]), (49, wb0_18)], 131, (.c (.sl 133 0 1 (.n 1))), [(21, wb0_10), (34, [(.ef wm0_3)]), (49, wb0_18), (133, [(.ef (.vf 157))])], 180⟩) 
theorem w0_7_1o2 : mok [(0, 3, 0), (4, 9, 7)] (lenL 1 1 8 ++ []) wN0 21 w0_7_1m2 = true := by kernel_rfl
def w0_7_1ms : List (Nat × List Memo) := [(21, [w0_7_1m0, w0_7_1m1, w0_7_1m2])]
theorem w0_7_1mo : AllMem (memRun [(0, 3, 0), (4, 9, 7)] (lenL 1 1 8 ++ []) wN0) w0_7_1ms := ⟨⟨w0_7_1o0, w0_7_1o1, w0_7_1o2, trivial⟩, trivial⟩
theorem w0_7_1 : lawRunM 9 10 200 [.i, .q, .b, .q, .i] [(0, 3, 0), (4, 9, 7)] (lenL 1 1 8 ++ []) wN0 w0_7_1ms = true := by kernel_rfl
def w0_8_1m0 : Memo :=  (⟨[(.ag [(.i .i64 1), (.sl 11 0 3 (.u 4)), (.sl 10 0 1 (.u 1))]), (.c (.sl 34 0 1 (.u 1)))], [(10, wb0_10), (11, wb0_11), (34, [(.ef wm0_3)])], 64, (.c (.sl 66 0 1 (.n 1))), [(10, wb0_10), (11, wb0_11), (34, [(.ef wm0_3)]), (66, [(.ef (.vf 157))])], 85⟩) 
theorem w0_8_1o0 : mok [(0, 3, 0), (4, 9, 8)] (lenL 1 1 8 ++ []) wN0 21 w0_8_1m0 = true := by kernel_rfl
def w0_8_1m1 : Memo :=  (⟨[(.ag [(.i .i64 1), (.sl 51 0 11 (.u 4)), (.sl 21 0 1 (.u 1))]), (.c (.sl 34 0 1 (.u 1)))], [(21, wb0_10), (34, [(.ef wm0_3)]), (51, wb0_19)], 85, (.c (.sl 87 0 1 (.n 1))), [(21, wb0_10), (34, [(.ef wm0_3)]), (51, wb0_19), (87, [(.ef (.vf 157))])], 138⟩) 
theorem w0_8_1o1 : mok [(0, 3, 0), (4, 9, 8)] (lenL 1 1 8 ++ []) wN0 21 w0_8_1m1 = true := by kernel_rfl
def w0_8_1m2 : Memo :=  (⟨[(.ag [(.i .i64 1), (.sl 51 0 11 (.u 4)), (.sl 21 0 1 (.u 1))]), (.c (.sl 34 0 1 (.u 1)))], [(21, wb0_10), (34, [(.ef wm0_3)]), (51, wb0_19)], 138, (.c (.sl 140 0 1 (.n 1))), [(21, wb0_10), (34, [(.ef wm0_3)]), (51, wb0_19), (140, [(.ef (.vf 157))])], 191⟩) 
theorem w0_8_1o2 : mok [(0, 3, 0), (4, 9, 8)] (lenL 1 1 8 ++ []) wN0 21 w0_8_1m2 = true := by kernel_rfl
def w0_8_1ms : List (Nat × List Memo) := [(21, [w0_8_1m0, w0_8_1m1, w0_8_1m2])]
theorem w0_8_1mo : AllMem (memRun [(0, 3, 0), (4, 9, 8)] (lenL 1 1 8 ++ []) wN0) w0_8_1ms := ⟨⟨w0_8_1o0, w0_8_1o1, w0_8_1o2, trivial⟩, trivial⟩
theorem w0_8_1 : lawRunM 9 10 200 [.i, .q, .b, .q, .i] [(0, 3, 0), (4, 9, 8)] (lenL 1 1 8 ++ []) wN0 w0_8_1ms = true := by kernel_rfl
def w0_0_2m0 : Memo :=  (⟨[(.ag [(.i .i64 1), (.sl 11 0 4 (.u 4)), (.sl 10 0 1 (.u 1))]), (.c (.sl 40 0 1 (.u 1)))], [(10, wb0_20), (11, wb0_21), (40, [(.ef wm0_3)])], 47, (.c (.sl 49 0 1 (.n 1))), [(10, wb0_20), (11, wb0_21), (40, [(.ef wm0_3)]), (49, [(.ef (.vf 156))])], 72⟩) 
theorem w0_0_2o0 : mok [(0, 3, 0), (4, 9, 0)] (lenL 1 2 8 ++ []) wN0 21 w0_0_2m0 = true := by kernel_rfl
def w0_0_2m1 : Memo :=  (⟨[(.ag [(.i .i64 1), (.sl 25 0 4 (.u 4)), (.sl 24 0 1 (.u 1))]), (.c (.sl 40 0 1 (.u 1)))], [(24, wb0_20), (25, wb0_21), (40, [(.ef wm0_3)])], 72, (.c (.sl 74 0 1 (.n 1))), [(24, wb0_20), (25, wb0_21), (40, [(.ef wm0_3)]), (74, [(.ef (.vf 156))])], 97⟩) 
theorem w0_0_2o1 : mok [(0, 3, 0), (4, 9, 0)] (lenL 1 2 8 ++ []) wN0 21 w0_0_2m1 = true := by kernel_rfl
def w0_0_2m2 : Memo :=  (⟨[(.ag [(.i .i64 1), (.sl 25 0 4 (.u 4)), (.sl 24 0 1 (.u 1))]), (.c (.sl 40 0 1 (.u 1)))], [(24, wb0_20), (25, wb0_21), (40, [(.ef wm0_3)])], 97, (.c (.sl 99 0 1 (.n 1))), [(24, wb0_20), (25, wb0_21), (40, [(.ef wm0_3)]), (99, [(.ef (.vf 156))])], 122⟩) 
theorem w0_0_2o2 : mok [(0, 3, 0), (4, 9, 0)] (lenL 1 2 8 ++ []) wN0 21 w0_0_2m2 = true := by kernel_rfl
def w0_0_2ms : List (Nat × List Memo) := [(21, [w0_0_2m0, w0_0_2m1, w0_0_2m2])]
theorem w0_0_2mo : AllMem (memRun [(0, 3, 0), (4, 9, 0)] (lenL 1 2 8 ++ []) wN0) w0_0_2ms := ⟨⟨w0_0_2o0, w0_0_2o1, w0_0_2o2, trivial⟩, trivial⟩
theorem w0_0_2 : lawRunM 9 10 200 [.i, .q, .b, .q, .i] [(0, 3, 0), (4, 9, 0)] (lenL 1 2 8 ++ []) wN0 w0_0_2ms = true := by kernel_rfl
def w0_1_2m0 : Memo :=  (⟨[(.ag [(.i .i64 1), (.sl 11 0 4 (.u 4)), (.sl 10 0 1 (.u 1))]), (.c (.sl 40 0 1 (.u 1)))], [(10, wb0_20), (11, wb0_21), (40, [(.ef wm0_3)])], 50, (.c (.sl 52 0 1 (.n 1))), [(10, wb0_20), (11, wb0_21), (40, [(.ef wm0_3)]), (52, [(.ef (.vf 156))])], 75⟩) 
theorem w0_1_2o0 : mok [(0, 3, 0), (4, 9, 1)] (lenL 1 2 8 ++ []) wN0 21 w0_1_2m0 = true := by kernel_rfl
def w0_1_2m1 : Memo :=  (⟨[(.ag [(.i .i64 1), (.sl 43 0 5 (.u 4)), (.sl 24 0 1 (.u 1))]), (.c (.sl 40 0 1 (.u 1)))], [(24, wb0_20), (40, [(.ef wm0_3)]), (43, wb0_22)], 75, (.c (.sl 77 0 1 (.n 1))), [(24, wb0_20), (40, [(.ef wm0_3)]), (43, wb0_22), (77, [(.ef (.vf 156))])], 104⟩) 
theorem w0_1_2o1 : mok [(0, 3, 0), (4, 9, 1)] (lenL 1 2 8 ++ []) wN0 21 w0_1_2m1 = true := by kernel_rfl
def w0_1_2m2 : Memo :=  (⟨[(.ag [(.i .i64 1), (.sl 43 0 5 (.u 4)), (.sl 24 0 1 (.u 1))]), (.c (.sl 40 0 1 (.u 1)))], [(24, wb0_20), (40, [(.ef wm0_3)]), (43, wb0_22)], 104, (.c (.sl 106 0 1 (.n 1))), [(24, wb0_20), (40, [(.ef wm0_3)]), (43, wb0_22), (106, [(.ef (.vf 156))])], 133⟩) 
theorem w0_1_2o2 : mok [(0, 3, 0), (4, 9, 1)] (lenL 1 2 8 ++ []) wN0 21 w0_1_2m2 = true := by kernel_rfl
def w0_1_2ms : List (Nat × List Memo) := [(21, [w0_1_2m0, w0_1_2m1, w0_1_2m2])]
theorem w0_1_2mo : AllMem (memRun [(0, 3, 0), (4, 9, 1)] (lenL 1 2 8 ++ []) wN0) w0_1_2ms := ⟨⟨w0_1_2o0, w0_1_2o1, w0_1_2o2, trivial⟩, trivial⟩
theorem w0_1_2 : lawRunM 9 10 200 [.i, .q, .b, .q, .i] [(0, 3, 0), (4, 9, 1)] (lenL 1 2 8 ++ []) wN0 w0_1_2ms = true := by kernel_rfl
def w0_2_2m0 : Memo :=  (⟨[(.ag [(.i .i64 1), (.sl 11 0 4 (.u 4)), (.sl 10 0 1 (.u 1))]), (.c (.sl 40 0 1 (.u 1)))], [(10, wb0_20), (11, wb0_21), (40, [(.ef wm0_3)])], 53, (.c (.sl 55 0 1 (.n 1))), [(10, wb0_20), (11, wb0_21), (40, [(.ef wm0_3)]), (55, [(.ef (.vf 156))])], 78⟩) 
theorem w0_2_2o0 : mok [(0, 3, 0), (4, 9, 2)] (lenL 1 2 8 ++ []) wN0 21 w0_2_2m0 = true := by kernel_rfl
def w0_2_2m1 : Memo :=  (⟨[(.ag [(.i .i64 1), (.sl 45 0 6 (.u 4)), (.sl 24 0 1 (.u 1))]), (.c (.sl 40 0 1 (.u 1)))], [(24, wb0_20), (40, [(.ef wm0_3)]), (45, wb0_23)], 78, (.c (.sl 80 0 1 (.n 1))), [(24, wb0_20), (40, [(.ef wm0_3)]), (45, wb0_23), (80, [(.ef (.vf 156))])], 111⟩) 
theorem w0_2_2o1 : mok [(0, 3, 0), (4, 9, 2)] (lenL 1 2 8 ++ []) wN0 21 w0_2_2m1 = true := by kernel_rfl
def w0_2_2m2 : Memo :=  (⟨[(.ag [(.i .i64 1), (.sl 45 0 6 (.u 4)), (.sl 24 0 1 (.u 1))]), (.c (.sl 40 0 1 (.u 1)))], [(24, wb0_20), (40, [(.ef wm0_3)]), (45, wb0_23)], 111, (.c (.sl 113 0 1 (.n 1))), [(24, wb0_20), (40, [(.ef wm0_3)]), (45, wb0_23), (113, [(.ef (.vf 156))])], 144⟩) 
theorem w0_2_2o2 : mok [(0, 3, 0), (4, 9, 2)] (lenL 1 2 8 ++ []) wN0 21 w0_2_2m2 = true := by kernel_rfl
def w0_2_2ms : List (Nat × List Memo) := [(21, [w0_2_2m0, w0_2_2m1, w0_2_2m2])]
theorem w0_2_2mo : AllMem (memRun [(0, 3, 0), (4, 9, 2)] (lenL 1 2 8 ++ []) wN0) w0_2_2ms := ⟨⟨w0_2_2o0, w0_2_2o1, w0_2_2o2, trivial⟩, trivial⟩
theorem w0_2_2 : lawRunM 9 10 200 [.i, .q, .b, .q, .i] [(0, 3, 0), (4, 9, 2)] (lenL 1 2 8 ++ []) wN0 w0_2_2ms = true := by kernel_rfl
def w0_3_2m0 : Memo :=  (⟨[(.ag [(.i .i64 1), (.sl 11 0 4 (.u 4)), (.sl 10 0 1 (.u 1))]), (.c (.sl 40 0 1 (.u 1)))], [(10, wb0_20), (11, wb0_21), (40, [(.ef wm0_3)])], 56, (.c (.sl 58 0 1 (.n 1))), [(10, wb0_20), (11, wb0_21), (40, [(.ef wm0_3)]), (58, [(.ef (.vf 156))])], 81⟩) 
theorem w0_3_2o0 : mok [(0, 3, 0), (4, 9, 3)] (lenL 1 2 8 ++ []) wN0 21 w0_3_2m0 = true := by kernel_rfl
def w0_3_2m1 : Memo :=  (⟨[(.ag [(.i .i64 1), (.sl 47 0 7 (.u 4)), (.sl 24 0 1 (.u 1))]), (.c (.sl 40 0 1 (.u 1)))], [(24, wb0_20), (40, [(.ef wm0_3)]), (47, wb0_24)], 81, (.c (.sl 83 0 1 (.n 1))), [(24, wb0_20), (40, [(.ef wm0_3)]), (47, wb0_24), (83, [(.ef (.vf 156))])], 118⟩) 
theorem w0_3_2o1 : mok [(0, 3, 0), (4, 9, 3)] (lenL 1 2 8 ++ []) wN0 21 w0_3_2m1 = true := by kernel_rfl
def w0_3_2m2 : Memo :=  (⟨[(.ag [(.i .i64 1), (.sl 47 0 7 (.u 4)), (.sl 24 0 1 (.u 1))]), (.c (.sl 40 0 1 (.u 1)))], [(24, wb0_20), (40, [(.ef wm0_3)]), (47, wb0_24)], 118, (.c (.sl 120 0 1 (.n 1))), [(24, wb0_20), (40, [(.ef wm0_3)]), (47, wb0_24), (120, [(.ef (.vf 156))])], 155⟩) 
theorem w0_3_2o2 : mok [(0, 3, 0), (4, 9, 3)] (lenL 1 2 8 ++ []) wN0 21 w0_3_2m2 = true := by kernel_rfl
def w0_3_2ms : List (Nat × List Memo) := [(21, [w0_3_2m0, w0_3_2m1, w0_3_2m2])]
theorem w0_3_2mo : AllMem (memRun [(0, 3, 0), (4, 9, 3)] (lenL 1 2 8 ++ []) wN0) w0_3_2ms := ⟨⟨w0_3_2o0, w0_3_2o1, w0_3_2o2, trivial⟩, trivial⟩
theorem w0_3_2 : lawRunM 9 10 200 [.i, .q, .b, .q, .i] [(0, 3, 0), (4, 9, 3)] (lenL 1 2 8 ++ []) wN0 w0_3_2ms = true := by kernel_rfl
def w0_4_2m0 : Memo :=  (⟨[(.ag [(.i .i64 1), (.sl 11 0 4 (.u 4)), (.sl 10 0 1 (.u 1))]), (.c (.sl 40 0 1 (.u 1)))], [(10, wb0_20), (11, wb0_21), (40, [(.ef wm0_3)])], 59, (.c (.sl 61 0 1 (.n 1))), [(10, wb0_20), (11, wb0_21), (40, [(.ef wm0_3)]), (61, [(.ef (.vf 156))])], 84⟩) 
theorem w0_4_2o0 : mok [(0, 3, 0), (4, 9, 4)] (lenL 1 2 8 ++ []) wN0 21 w0_4_2m0 = true := by kernel_rfl
def w0_4_2m1 : Memo :=  (⟨[(.ag [(.i .i64 1), (.sl 49 0 8 (.u 4)), (.sl 24 0 1 (.u 1))]), (.c (.sl 40 0 1 (.u 1)))], [(24, wb0_20), (40, [(.ef wm0_3)]), (49, wb0_25)], 84, (.c (.sl 86 0 1 (.n 1))), [(24, wb0_20), (40, [(.ef wm0_3)]), (49, wb0_25), (86, [(.ef (.vf 156))])], 125⟩) 
theorem w0_4_2o1 : mok [(0, 3, 0), (4, 9, 4)] (lenL 1 2 8 ++ []) wN0 21 w0_4_2m1 = true := by kernel_rfl
def w0_4_2m2 : Memo :=  (⟨[(.ag [(.i .i64 1), (.sl 49 0 8 (.u 4)), (.sl 24 0 1 (.u 1))]), (.c (.sl 40 0 1 (.u 1)))], [(24, wb0_20), (40, [(.ef wm0_3)]), (49, wb0_25)], 125, (.c (.sl 127 0 1 (.n 1))), [(24, wb0_20), (40, [(.ef wm0_3)]), (49, wb0_25), (127, [(.ef (.vf 156))])], 166⟩) 
theorem w0_4_2o2 : mok [(0, 3, 0), (4, 9, 4)] (lenL 1 2 8 ++ []) wN0 21 w0_4_2m2 = true := by kernel_rfl
def w0_4_2ms : List (Nat × List Memo) := [(21, [w0_4_2m0, w0_4_2m1, w0_4_2m2])]
theorem w0_4_2mo : AllMem (memRun [(0, 3, 0), (4, 9, 4)] (lenL 1 2 8 ++ []) wN0) w0_4_2ms := ⟨⟨w0_4_2o0, w0_4_2o1, w0_4_2o2, trivial⟩, trivial⟩
theorem w0_4_2 : lawRunM 9 10 200 [.i, .q, .b, .q, .i] [(0, 3, 0), (4, 9, 4)] (lenL 1 2 8 ++ []) wN0 w0_4_2ms = true := by kernel_rfl
def w0_5_2m0 : Memo :=  (⟨[(.ag [(.i .i64 1), (.sl 11 0 4 (.u 4)), (.sl 10 0 1 (.u 1))]), (.c (.sl 40 0 1 (.u 1)))], [(10, wb0_20), (11, wb0_21), (40, [(.ef wm0_3)])], 62, (.c (.sl 64 0 1 (.n 1))), [(10, wb0_20), (11, wb0_21), (40, [(.ef wm0_3)]), (64, [(.ef (.vf 156))])], 87⟩) 
theorem w0_5_2o0 : mok [(0, 3, 0), (4, 9, 5)] (lenL 1 2 8 ++ []) wN0 21 w0_5_2m0 = true := by kernel_rfl
def w0_5_2m1 : Memo :=  (⟨[(.ag [(.i .i64 1), (.sl 51 0 9 (.u 4)), (.sl 24 0 1 (.u 1))]), (.c (.sl 40 0 1 (.u 1)))], [(24, wb0_20), (40, [(.ef wm0_3)]), (51, wb0_26)], 87, (.c (.sl 89 0 1 (.n 1))), [(24, wb0_20), (40, [(.ef wm0_3)]), (51, wb0_26), (89, [(.ef (.vf 156))])], 132⟩) 
theorem w0_5_2o1 : mok [(0, 3, 0), (4, 9, 5)] (lenL 1 2 8 ++ []) wN0 21 w0_5_2m1 = true := by kernel_rfl
def w0_5_2m2 : Memo :=  (⟨[(.ag [(.i .i64 1), (.sl 51 0 9 (.u 4)), (.sl 24 0 1 (.u 1))]), (.c (.sl 40 0 1 (.u 1)))], [(24, wb0_20), (40, [(.ef wm0_3)]), (51, wb0_26)], 132, (.c (.sl 134 0 1 (.n 1))), [(24, wb0_20), (40, [(.ef wm0_3)]), (51, wb0_26), (134, [(.ef (.vf 156))])], 177⟩) 
theorem w0_5_2o2 : mok [(0, 3, 0), (4, 9, 5)] (lenL 1 2 8 ++ []) wN0 21 w0_5_2m2 = true := by kernel_rfl
def w0_5_2ms : List (Nat × List Memo) := [(21, [w0_5_2m0, w0_5_2m1, w0_5_2m2])]
theorem w0_5_2mo : AllMem (memRun [(0, 3, 0), (4, 9, 5)] (lenL 1 2 8 ++ []) wN0) w0_5_2ms := ⟨⟨w0_5_2o0, w0_5_2o1, w0_5_2o2, trivial⟩, trivial⟩
theorem w0_5_2 : lawRunM 9 10 200 [.i, .q, .b, .q, .i] [(0, 3, 0), (4, 9, 5)] (lenL 1 2 8 ++ []) wN0 w0_5_2ms = true := by kernel_rfl
def w0_6_2m0 : Memo :=  (⟨[(.ag [(.i .i64 1), (.sl 11 0 4 (.u 4)), (.sl 10 0 1 (.u 1))]), (.c (.sl 40 0 1 (.u 1)))], [(10, wb0_20), (11, wb0_21), (40, [(.ef wm0_3)])], 65, (.c (.sl 67 0 1 (.n 1))), [(10, wb0_20), (11, wb0_21), (40, [(.ef wm0_3)]), (67, [(.ef (.vf 156))])], 90⟩) 
theorem w0_6_2o0 : mok [(0, 3, 0), (4, 9, 6)] (lenL 1 2 8 ++ []) wN0 21 w0_6_2m0 = true := by kernel_rfl
def w0_6_2m1 : Memo :=  (⟨[(.ag [(.i .i64 1), (.sl 53 0 10 (.u 4)), (.sl 24 0 1 (.u 1))]), (.c (.sl 40 0 1 (.u 1)))], [(24, wb0_20), (40, [(.ef wm0_3)]), (53, wb0_27)], 90, (.c (.sl 92 0 1 (.n 1))), [(24, wb0_20), (40, [(.ef wm0_3)]), (53, wb0_27), (92, [(.ef (.vf 156))])], 139⟩) 
theorem w0_6_2o1 : mok [(0, 3, 0), (4, 9, 6)] (lenL 1 2 8 ++ []) wN0 21 w0_6_2m1 = true := by kernel_rfl
def w0_6_2m2 : Memo :=  (⟨[(.ag [(.i .i64 1), (.sl 53 0 10 (.u 4)), (.sl 24 0 1 (.u 1))]), (.c (.sl 40 0 1 (.u 1)))], [(24, wb0_20), (40, [(.ef wm0_3)]), (53, wb0_27)], 139, (.c (.sl 141 0 1 (.n 1))), [(24, wb0_20), (40, [(.ef wm0_3)]), (53, wb0_27), (141, [(.ef (.vf 156))])], 188⟩) 
theorem w0_6_2o2 : mok [(0, 3, 0), (4, 9, 6)] (lenL 1 2 8 ++ []) wN0 21 w0_6_2m2 = true := by kernel_rfl
def w0_6_2ms : List (Nat × List Memo) := [(21, [w0_6_2m0, w0_6_2m1, w0_6_2m2])]
theorem w0_6_2mo : AllMem (memRun [(0, 3, 0), (4, 9, 6)] (lenL 1 2 8 ++ []) wN0) w0_6_2ms := ⟨⟨w0_6_2o0, w0_6_2o1, w0_6_2o2, trivial⟩, trivial⟩
theorem w0_6_2 : lawRunM 9 10 200 [.i, .q, .b, .q, .i] [(0, 3, 0), (4, 9, 6)] (lenL 1 2 8 ++ []) wN0 w0_6_2ms = true := by kernel_rfl
def w0_7_2m0 : Memo :=  (⟨[(.ag [(.i .i64 1), (.sl 11 0 4 (.u 4)), (.sl 10 0 1 (.u 1))]), (.c (.sl 40 0 1 (.u 1)))], [(10, wb0_20), (11, wb0_21), (40, [(.ef wm0_3)])], 68, (.c (.sl 70 0 1 (.n 1))), [(10, wb0_20), (11, wb0_21), (40, [(.ef wm0_3)]), (70, [(.ef (.vf 156))])], 93⟩) 
theorem w0_7_2o0 : mok [(0, 3, 0), (4, 9, 7)] (lenL 1 2 8 ++ []) wN0 21 w0_7_2m0 = true := by kernel_rfl
def w0_7_2m1 : Memo :=  (⟨[(.ag [(.i .i64 1), (.sl 55 0 11 (.u 4)), (.sl 24 0 1 (.u 1))]), (.c (.sl 40 0 1 (.u 1)))], [(24, wb0_20), (40, [(.ef wm0_3)]), (55, wb0_28)], 93, (.c (.sl 95 0 1 (.n 1))), [(24, wb0_20), (40, [(.ef wm0_3)]), (55, wb0_28), (95, [(.ef (.vf 156))])], 146⟩) 
theorem w0_7_2o1 : mok [(0, 3, 0), (4, 9, 7)] (lenL 1 2 8 ++ []) wN0 21 w0_7_2m1 = true := by kernel_rfl
def w0_7_2m2 : Memo :=  (⟨[(.ag [(.i .i64 1), (.sl 55 0 11 (.u 4)), (.sl 24 0 1 (.u 1))]), (.c (.sl 40 0 1 (.u 1)))], [(24, wb0_20), (40, [(.ef wm0_3)]), (55, wb0_28)], 146, (.c (.sl 148 0 1 (.n 1))), [(24, wb0_20), (40, [(.ef wm0_3)]), (55, wb0_28), (148, [(.ef (.vf 156))])], 199⟩) 
theorem w0_7_2o2 : mok [(0, 3, 0), (4, 9, 7)] (lenL 1 2 8 ++ []) wN0 21 w0_7_2m2 = true := by kernel_rfl
def w0_7_2ms : List (Nat × List Memo) := [(21, [w0_7_2m0, w0_7_2m1, w0_7_2m2])]
theorem w0_7_2mo : AllMem (memRun [(0, 3, 0), (4, 9, 7)] (lenL 1 2 8 ++ []) wN0) w0_7_2ms := ⟨⟨w0_7_2o0, w0_7_2o1, w0_7_2o2, trivial⟩, trivial⟩
theorem w0_7_2 : lawRunM 9 10 200 [.i, .q, .b, .q, .i] [(0, 3, 0), (4, 9, 7)] (lenL 1 2 8 ++ []) wN0 w0_7_2ms = true := by kernel_rfl
def w0_8_2m0 : Memo :=  (⟨[(.ag [(.i .i64 1), (.sl 11 0 4 (.u 4)), (.sl 10 0 1 (.u 1))]), (.c (.sl 40 0 1 (.u 1)))], [(10, wb0_20), (11, wb0_21), (40, [(.ef wm0_3)])], 71, (.c (.sl 73 0 1 (.n 1))), [(10, wb0_20), (11, wb0_21), (40, [(.ef wm0_3)]), (73, [(.ef (.vf 156))])], 96⟩) 
theorem w0_8_2o0 : mok [(0, 3, 0), (4, 9, 8)] (lenL 1 2 8 ++ []) wN0 21 w0_8_2m0 = true := by kernel_rfl
def w0_8_2m1 : Memo :=  (⟨[(.ag [(.i .i64 1), (.sl 57 0 12 (.u 4)), (.sl 24 0 1 (.u 1))]), (.c (.sl 40 0 1 (.u 1)))], [(24, wb0_20), (40, [(.ef wm0_3)]), (57, wb0_29)], 96, (.c (.sl 98 0 1 (.n 1))), [(24, wb0_20), (40, [(.ef wm0_3)]), (57, wb0_29), (98, [(.ef (.vf 156))])], 153⟩) 
theorem w0_8_2o1 : mok [(0, 3, 0), (4, 9, 8)] (lenL 1 2 8 ++ []) wN0 21 w0_8_2m1 = true := by kernel_rfl
def w0_8_2m2 : Memo :=  (⟨[(.ag [(.i .i64 1), (.sl 57 0 12 (.u 4)), (.sl 24 0 1 (.u 1))]), (.c (.sl 40 0 1 (.u 1)))], [(24, wb0_20), (40, [(.ef wm0_3)]), (57, wb0_29)], 153, (.c (.sl 155 0 1 (.n 1))), [(24, wb0_20), (40, [(.ef wm0_3)]), (57, wb0_29), (155, [(.ef (.vf 156))])], 210⟩) 
theorem w0_8_2o2 : mok [(0, 3, 0), (4, 9, 8)] (lenL 1 2 8 ++ []) wN0 21 w0_8_2m2 = true := by kernel_rfl
def w0_8_2ms : List (Nat × List Memo) := [(21, [w0_8_2m0, w0_8_2m1, w0_8_2m2])]
theorem w0_8_2mo : AllMem (memRun [(0, 3, 0), (4, 9, 8)] (lenL 1 2 8 ++ []) wN0) w0_8_2ms := ⟨⟨w0_8_2o0, w0_8_2o1, w0_8_2o2, trivial⟩, trivial⟩
theorem w0_8_2 : lawRunM 9 10 200 [.i, .q, .b, .q, .i] [(0, 3, 0), (4, 9, 8)] (lenL 1 2 8 ++ []) wN0 w0_8_2ms = true := by kernel_rfl
end Go.Proofs.Yticbgaflhiokgaa
