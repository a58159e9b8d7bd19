/-
  'TapeMore': runs of it, part 1.
-/
import Derived.Test.YticbgaflhiokgaaTapeMoret0
namespace Go.Proofs.Yticbgaflhiokgaa
open Go.RowKit Ex
set_option maxRecDepth 1000000
set_option maxHeartbeats 100000000
def wm1_0 : E := (.ai 9 0 (.ci (.ib .add .i64 (.ib .quo .i64 (.vi 0) (.li 3)) (.li 0)) (.ci (.li 3) .n0)))
def wm1_1 : E := (.ic .eql (.ai 9 0 (.ci (.at 1 0) (.ci (.li 11) .n0))) (.li 0))
def wm1_2 : E := (.ib .add .i64 (.li 2) (.ai 9 0 (.ci (.at 1 0) (.ci (.li 3) .n0))))
def wm1_3 : E := (.ic .eql (.ai 9 0 (.ci (.at 1 1) (.ci (.li 11) .n0))) (.li 0))
def wm1_4 : E := (.ib .add .i64 (.li 2) (.ai 9 0 (.ci (.at 1 1) (.ci (.li 3) .n0))))
def wm1_5 : E := (.ic .eql (.ai 9 0 (.ci (.at 1 2) (.ci (.li 11) .n0))) (.li 0))
def wm1_6 : E := (.ib .add .i64 (.li 2) (.ai 9 0 (.ci (.at 1 2) (.ci (.li 3) .n0))))
def wm1_7 : E := (.ib .quo .i64 (.vi 4) (.li 9))
def wm1_8 : E := (.ic .eql (.ai 9 0 (.ci (.at 1 3) (.ci (.li 11) .n0))) (.li 0))
def wm1_9 : E := (.ib .add .i64 (.li 2) (.ai 9 0 (.ci (.at 1 3) (.ci (.li 3) .n0))))
def wm1_10 : E := (.ic .eql (.ai 9 0 (.ci (.at 1 4) (.ci (.li 11) .n0))) (.li 0))
def wm1_11 : E := (.ib .add .i64 (.li 2) (.ai 9 0 (.ci (.at 1 4) (.ci (.li 3) .n0))))
def wk1_0 : Blk := [(.i .i64 1), (.i .i64 0), (.i .i64 0), (.f 0)]
def wk1_1 : Blk := [(.i .i64 0), (.i .i64 0), (.i .i64 0), (.ef (.fb .quo (.i2f (.ib .sub .i64 (.ai 9 0 (.ci (.vi 0) (.ci (.li 17) .n0))) (.li 8))) (.lf 4616189618054758400)))]
def wk1_2 : Blk := [(.ei .i64 (.ti wm1_1 (.li 0) (.ti (.vb 2) (.ti (.ic .eql (.ai 9 0 (.ci (.at 1 0) (.ci (.li 7) .n0))) (.li 0)) (.li 5) wm1_2) wm1_2))), (.ei .i64 (.ti wm1_1 (.li 0) (.ai 9 0 (.ci (.ib .quo .i64 (.at 1 0) (.li 4)) (.ci (.li 2) .n0))))), (.ei .i64 (.ti wm1_1 (.li 0) (.ai 9 0 (.ci (.ib .quo .i64 (.at 1 0) (.li 40)) (.ci (.li 2) .n0))))), (.ef (.tf wm1_1 (.fb .quo (.i2f (.ib .sub .i64 (.ai 9 0 (.ci (.ib .quo .i64 (.at 1 0) (.li 11)) (.ci (.li 33) .n0))) (.li 16))) (.lf 4620693217682128896)) (.lf 0)))]
def wk1_3 : Blk := [(.ei .i64 (.ti wm1_3 (.li 0) (.ti (.vb 2) (.ti (.ic .eql (.ai 9 0 (.ci (.at 1 1) (.ci (.li 7) .n0))) (.li 0)) (.li 5) wm1_4) wm1_4))), (.ei .i64 (.ti wm1_3 (.li 0) (.ai 9 0 (.ci (.ib .quo .i64 (.at 1 1) (.li 4)) (.ci (.li 3) .n0))))), (.ei .i64 (.ti wm1_3 (.li 0) (.ai 9 0 (.ci (.ib .quo .i64 (.at 1 1) (.li 40)) (.ci (.li 3) .n0))))), (.ef (.tf wm1_3 (.fb .quo (.i2f (.ib .sub .i64 (.ai 9 0 (.ci (.ib .quo .i64 (.at 1 1) (.li 11)) (.ci (.li 33) .n0))) (.li 16))) (.lf 4620693217682128896)) (.lf 0)))]
def wk1_4 : Blk := [(.ei .i64 (.ti wm1_5 (.li 0) (.ti (.vb 2) (.ti (.ic .eql (.ai 9 0 (.ci (.at 1 2) (.ci (.li 7) .n0))) (.li 0)) (.li 5) wm1_6) wm1_6))), (.ei .i64 (.ti wm1_5 (.li 0) (.ai 9 0 (.ci (.ib .quo .i64 (.at 1 2) (.li 4)) (.ci (.li 4) .n0))))), (.ei .i64 (.ti wm1_5 (.li 0) (.ai 9 0 (.ci (.ib .quo .i64 (.at 1 2) (.li 40)) (.ci (.li 4) .n0))))), (.ef (.tf wm1_5 (.fb .quo (.i2f (.ib .sub .i64 (.ai 9 0 (.ci (.ib .quo .i64 (.at 1 2) (.li 11)) (.ci (.li 33) .n0))) (.li 16))) (.lf 4620693217682128896)) (.lf 0)))]
def wk1_5 : Blk := [(.i .i64 4), (.ei .i64 (.ai 9 0 (.ci (.vi 4) (.ci (.li 5) .n0)))), (.ei .i64 (.ai 9 0 (.ci wm1_7 (.ci (.li 5) .n0)))), (.f 0)]
def wk1_6 : Blk := [(.i .i64 4), (.ei .i64 (.ai 9 0 (.ci (.vi 4) (.ci (.li 6) .n0)))), (.ei .i64 (.ai 9 0 (.ci wm1_7 (.ci (.li 6) .n0)))), (.f 0)]
def wk1_7 : Blk := [(.i .i64 4), (.ei .i64 (.ai 9 0 (.ci (.vi 4) (.ci (.li 7) .n0)))), (.ei .i64 (.ai 9 0 (.ci wm1_7 (.ci (.li 7) .n0)))), (.f 0)]
def wk1_8 : Blk := [(.i .i64 4), (.ei .i64 (.ai 9 0 (.ci (.vi 4) (.ci (.li 8) .n0)))), (.ei .i64 (.ai 9 0 (.ci wm1_7 (.ci (.li 8) .n0)))), (.f 0)]
def wk1_9 : Blk := [(.i .i64 4), (.i .i64 5), (.ei .i64 (.ai 9 0 (.ci wm1_7 (.ci (.li 9) .n0)))), (.f 0)]
def wk1_10 : Blk := [(.i .i64 4), (.i .i64 6), (.ei .i64 (.ai 9 0 (.ci wm1_7 (.ci (.li 9) .n0)))), (.f 0)]
def wk1_11 : Blk := [(.i .i64 4), (.ei .i64 (.ai 9 0 (.ci (.vi 4) (.ci (.li 10) .n0)))), (.ei .i64 (.ai 9 0 (.ci wm1_7 (.ci (.li 10) .n0)))), (.f 0)]
def wk1_12 : Blk := [(.i .i64 4), (.i .i64 7), (.ei .i64 (.ai 9 0 (.ci wm1_7 (.ci (.li 9) .n0)))), (.f 0)]
def wk1_13 : Blk := [(.i .i64 4), (.ei .i64 (.ai 9 0 (.ci (.vi 4) (.ci (.li 11) .n0)))), (.ei .i64 (.ai 9 0 (.ci wm1_7 (.ci (.li 11) .n0)))), (.f 0)]
def wk1_14 : Blk := [(.i .i64 4), (.i .i64 8), (.ei .i64 (.ai 9 0 (.ci wm1_7 (.ci (.li 9) .n0)))), (.f 0)]
def wk1_15 : Blk := [(.i .i64 4), (.ei .i64 (.ai 9 0 (.ci (.vi 4) (.ci (.li 12) .n0)))), (.ei .i64 (.ai 9 0 (.ci wm1_7 (.ci (.li 12) .n0)))), (.f 0)]
def wk1_16 : Blk := [(.ei .i64 (.ti wm1_8 (.li 0) (.ti (.vb 2) (.ti (.ic .eql (.ai 9 0 (.ci (.at 1 3) (.ci (.li 7) .n0))) (.li 0)) (.li 5) wm1_9) wm1_9))), (.ei .i64 (.ti wm1_8 (.li 0) (.ai 9 0 (.ci (.ib .quo .i64 (.at 1 3) (.li 4)) (.ci (.li 5) .n0))))), (.ei .i64 (.ti wm1_8 (.li 0) (.ai 9 0 (.ci (.ib .quo .i64 (.at 1 3) (.li 40)) (.ci (.li 5) .n0))))), (.ef (.tf wm1_8 (.fb .quo (.i2f (.ib .sub .i64 (.ai 9 0 (.ci (.ib .quo .i64 (.at 1 3) (.li 11)) (.ci (.li 33) .n0))) (.li 16))) (.lf 4620693217682128896)) (.lf 0)))]
def wk1_17 : Blk := [(.i .i64 4), (.i .i64 4), (.ei .i64 (.ai 9 0 (.ci wm1_7 (.ci (.li 9) .n0)))), (.f 0)]
def wk1_18 : Blk := [(.i .i64 4), (.ei .i64 (.ai 9 0 (.ci (.vi 4) (.ci (.li 13) .n0)))), (.ei .i64 (.ai 9 0 (.ci wm1_7 (.ci (.li 13) .n0)))), (.f 0)]
def wk1_19 : Blk := [(.ei .i64 (.ti wm1_10 (.li 0) (.ti (.vb 2) (.ti (.ic .eql (.ai 9 0 (.ci (.at 1 4) (.ci (.li 7) .n0))) (.li 0)) (.li 5) wm1_11) wm1_11))), (.ei .i64 (.ti wm1_10 (.li 0) (.ai 9 0 (.ci (.ib .quo .i64 (.at 1 4) (.li 4)) (.ci (.li 6) .n0))))), (.ei .i64 (.ti wm1_10 (.li 0) (.ai 9 0 (.ci (.ib .quo .i64 (.at 1 4) (.li 40)) (.ci (.li 6) .n0))))), (.ef (.tf wm1_10 (.fb .quo (.i2f (.ib .sub .i64 (.ai 9 0 (.ci (.ib .quo .i64 (.at 1 4) (.li 11)) (.ci (.li 33) .n0))) (.li 16))) (.lf 4620693217682128896)) (.lf 0)))]
def wb1_0 : Blk := [(.ei .i64 (.ib .sub .i64 (.li 4) wm1_0))]
def wb1_1 : Blk := wk1_0 ++ wk1_1 ++ wk1_2 ++ wk1_3 ++ wk1_4
def wb1_2 : Blk := [(.ef (.fb .quo (.i2f (.ib .sub .i64 (.ai 9 0 (.ci (.ti (.ic .lss (.li 0) (.vl 3)) (.at 3 0) (.li 0)) (.ci (.li 65) .n0))) (.li 32))) (.lf 4620693217682128896)))]
def wb1_3 : Blk := wk1_0 ++ wk1_1 ++ wk1_2 ++ wk1_3 ++ wk1_4 ++ wk1_5
def wb1_4 : Blk := wk1_0 ++ wk1_1 ++ wk1_2 ++ wk1_3 ++ wk1_4 ++ wk1_5 ++ wk1_6
def wb1_5 : Blk := wk1_0 ++ wk1_1 ++ wk1_2 ++ wk1_3 ++ wk1_4 ++ wk1_5 ++ wk1_6 ++ wk1_7
def wb1_6 : Blk := wk1_0 ++ wk1_1 ++ wk1_2 ++ wk1_3 ++ wk1_4 ++ wk1_5 ++ wk1_6 ++ wk1_7 ++ wk1_8
def wb1_7 : Blk := wk1_0 ++ wk1_1 ++ wk1_2 ++ wk1_3 ++ wk1_4 ++ wk1_5 ++ wk1_6 ++ wk1_7 ++ wk1_8 ++ wk1_9
def wb1_8 : Blk := wk1_0 ++ wk1_1 ++ wk1_2 ++ wk1_3 ++ wk1_4 ++ wk1_5 ++ wk1_6 ++ wk1_7 ++ wk1_8 ++ wk1_10 ++ wk1_11
def wb1_9 : Blk := wk1_0 ++ wk1_1 ++ wk1_2 ++ wk1_3 ++ wk1_4 ++ wk1_5 ++ wk1_6 ++ wk1_7 ++ wk1_8 ++ wk1_12 ++ wk1_11 ++ wk1_13
def wb1_10 : Blk := wk1_0 ++ wk1_1 ++ wk1_2 ++ wk1_3 ++ wk1_4 ++ wk1_5 ++ wk1_6 ++ wk1_7 ++ wk1_8 ++ wk1_14 ++ wk1_11 ++ wk1_13 ++ wk1_15
def wb1_11 : Blk := [(.ei .i64 (.ib .sub .i64 (.li 5) wm1_0))]
def wb1_12 : Blk := wk1_0 ++ wk1_1 ++ wk1_2 ++ wk1_3 ++ wk1_4 ++ wk1_16
def wb1_13 : Blk := wk1_0 ++ wk1_1 ++ wk1_2 ++ wk1_3 ++ wk1_4 ++ wk1_16 ++ wk1_6
def wb1_14 : Blk := wk1_0 ++ wk1_1 ++ wk1_2 ++ wk1_3 ++ wk1_4 ++ wk1_16 ++ wk1_6 ++ wk1_7
def wb1_15 : Blk := wk1_0 ++ wk1_1 ++ wk1_2 ++ wk1_3 ++ wk1_4 ++ wk1_16 ++ wk1_6 ++ wk1_7 ++ wk1_8
def wb1_16 : Blk := wk1_0 ++ wk1_1 ++ wk1_2 ++ wk1_3 ++ wk1_4 ++ wk1_16 ++ wk1_6 ++ wk1_7 ++ wk1_8 ++ wk1_17
def wb1_17 : Blk := wk1_0 ++ wk1_1 ++ wk1_2 ++ wk1_3 ++ wk1_4 ++ wk1_16 ++ wk1_6 ++ wk1_7 ++ wk1_8 ++ wk1_9 ++ wk1_11
def wb1_18 : Blk := wk1_0 ++ wk1_1 ++ wk1_2 ++ wk1_3 ++ wk1_4 ++ wk1_16 ++ wk1_6 ++ wk1_7 ++ wk1_8 ++ wk1_10 ++ wk1_11 ++ wk1_13
def wb1_19 : Blk := wk1_0 ++ wk1_1 ++ wk1_2 ++ wk1_3 ++ wk1_4 ++ wk1_16 ++ wk1_6 ++ wk1_7 ++ wk1_8 ++ wk1_12 ++ wk1_11 ++ wk1_13 ++ wk1_15
def wb1_20 : Blk := wk1_0 ++ wk1_1 ++ wk1_2 ++ wk1_3 ++ wk1_4 ++ wk1_16 ++ wk1_6 ++ wk1_7 ++ wk1_8 ++ wk1_14 ++ wk1_11 ++ wk1_13 ++ wk1_15 ++ wk1_18
def wb1_21 : Blk := [(.ei .i64 (.ib .sub .i64 (.li 6) wm1_0))]
def wb1_22 : Blk := wk1_0 ++ wk1_1 ++ wk1_2 ++ wk1_3 ++ wk1_4 ++ wk1_16 ++ wk1_19
def wb1_23 : Blk := wk1_0 ++ wk1_1 ++ wk1_2 ++ wk1_3 ++ wk1_4 ++ wk1_16 ++ wk1_19 ++ wk1_7
def wb1_24 : Blk := wk1_0 ++ wk1_1 ++ wk1_2 ++ wk1_3 ++ wk1_4 ++ wk1_16 ++ wk1_19 ++ wk1_7 ++ wk1_8
def wb1_25 : Blk := wk1_0 ++ wk1_1 ++ wk1_2 ++ wk1_3 ++ wk1_4 ++ wk1_16 ++ wk1_19 ++ wk1_7 ++ wk1_8 ++ [(.i .i64 4), (.i .i64 3), (.ei .i64 (.ai 9 0 (.ci wm1_7 (.ci (.li 9) .n0)))), (.f 0)]
def wb1_26 : Blk := wk1_0 ++ wk1_1 ++ wk1_2 ++ wk1_3 ++ wk1_4 ++ wk1_16 ++ wk1_19 ++ wk1_7 ++ wk1_8 ++ wk1_17 ++ wk1_11
def wb1_27 : Blk := wk1_0 ++ wk1_1 ++ wk1_2 ++ wk1_3 ++ wk1_4 ++ wk1_16 ++ wk1_19 ++ wk1_7 ++ wk1_8 ++ wk1_9 ++ wk1_11 ++ wk1_13
def wb1_28 : Blk := wk1_0 ++ wk1_1 ++ wk1_2 ++ wk1_3 ++ wk1_4 ++ wk1_16 ++ wk1_19 ++ wk1_7 ++ wk1_8 ++ wk1_10 ++ wk1_11 ++ wk1_13 ++ wk1_15
def wb1_29 : Blk := wk1_0 ++ wk1_1 ++ wk1_2 ++ wk1_3 ++ wk1_4 ++ wk1_16 ++ wk1_19 ++ wk1_7 ++ wk1_8 ++ wk1_12 ++ wk1_11 ++ wk1_13 ++ wk1_15 ++ wk1_18
def wb1_30 : Blk := wk1_0 ++ wk1_1 ++ wk1_2 ++ wk1_3 ++ wk1_4 ++ wk1_16 ++ wk1_19 ++ wk1_7 ++ wk1_8 ++ wk1_14 ++ wk1_11 ++ wk1_13 ++ wk1_15 ++ wk1_18 ++ [(.i .i64 4), (.ei .i64 (.ai 9 0 (.ci (.vi 4) (.ci (.li 14) .n0)))), (.ei .i64 (.ai 9 0 (.ci wm1_7 (.ci (.li 14) .n0)))), (.f 0)]
def w0_0_3m0 : Memo :=  (⟨[(.ag [(.i .i64 1), (.sl 11 0 5 (.u 4)), (.sl 10 0 1 (.u 1))]), (.c (.sl 46 0 1 (.u 1)))], [(10, wb1_0), (11, wb1_1), (46, wb1_2)], 54, (.c (.sl 56 0 1 (.n 1))), [(10, wb1_0), (11, wb1_1), (46, wb1_2), (56, [(.ef (.vf 155))])], 83⟩) 
theorem w0_0_3o0 : mok [(0, 3, 0), (4, 9, 0)] (lenL 1 3 8 ++ []) wN0 21 w0_0_3m0 = true := by kernel_rfl
def w0_0_3m1 : Memo :=  (⟨[(.ag [(.i .i64 1), (.sl 28 0 5 (.u 4)), (.sl 27 0 1 (.u 1))]), (.c (.sl 46 0 1 (.u 1)))], [(27, wb1_0), (28, wb1_1), (46, wb1_2)], 83, (.c (.sl 85 0 1 (.n 1))), [(27, wb1_0), (28, wb1_1), (46, wb1_2), (85, [(.ef (.vf 155))])], 112⟩) 
theorem w0_0_3o1 : mok [(0, 3, 0), (4, 9, 0)] (lenL 1 3 8 ++ []) wN0 21 w0_0_3m1 = true := by kernel_rfl
def w0_0_3m2 : Memo :=  (⟨[(.ag [(.i .i64 1), (.sl 28 0 5 (.u 4)), (.sl 27 0 1 (.u 1))]), (.c (.sl 46 0 1 (.u 1)))], [(27, wb1_0), (28, wb1_1), (46, wb1_2)], 112, (.c (.sl 114 0 1 (.n 1))), [(27, wb1_0), (28, wb1_1), (46, wb1_2), (114, [(.ef (.vf 155))])], 141⟩) 
theorem w0_0_3o2 : mok [(0, 3, 0), (4, 9, 0)] (lenL 1 3 8 ++ []) wN0 21 w0_0_3m2 = true := by kernel_rfl
def w0_0_3ms : List (Nat × List Memo) := [(21, [w0_0_3m0, w0_0_3m1, w0_0_3m2])]
theorem w0_0_3mo : AllMem (memRun [(0, 3, 0), (4, 9, 0)] (lenL 1 3 8 ++ []) wN0) w0_0_3ms := ⟨⟨w0_0_3o0, w0_0_3o1, w0_0_3o2, trivial⟩, trivial⟩
theorem w0_0_3 : lawRunM 9 10 200 [.i, .q, .b, .q, .i] [(0, 3, 0), (4, 9, 0)] (lenL 1 3 8 ++ []) wN0 w0_0_3ms = true := by kernel_rfl
def w0_1_3m0 : Memo :=  (⟨[(.ag [(.i .i64 1), (.sl 11 0 5 (.u 4)), (.sl 10 0 1 (.u 1))]), (.c (.sl 46 0 1 (.u 1)))], [(10, wb1_0), (11, wb1_1), (46, wb1_2)], 57, (.c (.sl 59 0 1 (.n 1))), [(10, wb1_0), (11, wb1_1), (46, wb1_2), (59, [(.ef (.vf 155))])], 86⟩) 
theorem w0_1_3o0 : mok [(0, 3, 0), (4, 9, 1)] (lenL 1 3 8 ++ []) wN0 21 w0_1_3m0 = true := by kernel_rfl
def w0_1_3m1 : Memo :=  (⟨[(.ag [(.i .i64 1), (.sl 49 0 6 (.u 4)), (.sl 27 0 1 (.u 1))]), (.c (.sl 46 0 1 (.u 1)))], [(27, wb1_0), (46, wb1_2), (49, wb1_3)], 86, (.c (.sl 88 0 1 (.n 1))), [(27, wb1_0), (46, wb1_2), (49, wb1_3), (88, [(.ef (.vf 155))])], 119⟩) 
theorem w0_1_3o1 : mok [(0, 3, 0), (4, 9, 1)] (lenL 1 3 8 ++ []) wN0 21 w0_1_3m1 = true := by kernel_rfl
def w0_1_3m2 : Memo :=  (⟨[(.ag [(.i .i64 1), (.sl 49 0 6 (.u 4)), (.sl 27 0 1 (.u 1))]), (.c (.sl 46 0 1 (.u 1)))], [(27, wb1_0), (46, wb1_2), (49, wb1_3)], 119, (.c (.sl 121 0 1 (.n 1))), [(27, wb1_0), (46, wb1_2), (49, wb1_3), (121, [(.ef (.vf 155))])], 152⟩) 
theorem w0_1_3o2 : mok [(0, 3, 0), (4, 9, 1)] (lenL 1 3 8 ++ []) wN0 21 w0_1_3m2 = true := by kernel_rfl
def w0_1_3ms : List (Nat × List Memo) := [(21, [w0_1_3m0, w0_1_3m1, w0_1_3m2])]
theorem w0_1_3mo : AllMem (memRun [(0, 3, 0), (4, 9, 1)] (lenL 1 3 8 ++ []) wN0) w0_1_3ms := ⟨⟨w0_1_3o0, w0_1_3o1, w0_1_3o2, trivial⟩, trivial⟩
theorem w0_1_3 : lawRunM 9 10 200 [.i, .q, .b, .q, .i] [(0, 3, 0), (4, 9, 1)] (lenL 1 3 8 ++ []) wN0 w0_1_3ms = true := by kernel_rfl
def w0_2_3m0 : Memo :=  (⟨[(.ag [(.i .i64 1), (.sl 11 0 5 (.u 4)), (.sl 10 0 1 (.u 1))]), (.c (.sl 46 0 1 (.u 1)))], [(10, wb1_0), (11, wb1_1), (46, wb1_2)], 60, (.c (.sl 62 0 1 (.n 1))), [(10, wb1_0), (11, wb1_1), (46, wb1_2), (62, [(.ef (.vf 155))])], 89⟩) 
theorem w0_2_3o0 : mok [(0, 3, 0), (4, 9, 2)] (lenL 1 3 8 ++ []) wN0 21 w0_2_3m0 = true := by kernel_rfl
def w0_2_3m1 : Memo :=  (⟨[(.ag [(.i .i64 1), (.sl 51 0 7 (.u 4)), (.sl 27 0 1 (.u 1))]), (.c (.sl 46 0 1 (.u 1)))], [(27, wb1_0), (46, wb1_2), (51, wb1_4)], 89, (.c (.sl 91 0 1 (.n 1))), [(27, wb1_0), (46, wb1_2), (51, wb1_4), (91, [(.ef (.vf 155))])], 126⟩) 
theorem w0_2_3o1 : mok [(0, 3, 0), (4, 9, 2)] (lenL 1 3 8 ++ []) wN0 21 w0_2_3m1 = true := by kernel_rfl
def w0_2_3m2 : Memo :=  (⟨[(.ag [(.i .i64 1), (.sl 51 0 7 (.u 4)), (.sl 27 0 1 (.u 1))]), (.c (.sl 46 0 1 (.u 1)))], [(27, wb1_0), (46, wb1_2), (51, wb1_4)], 126, (.c (.sl 128 0 1 (.n 1))), [(27, wb1_0), (46, wb1_2), (51, wb1_4), (128, [(.ef (.vf 155))])], 163⟩) 
theorem w0_2_3o2 : mok [(0, 3, 0), (4, 9, 2)] (lenL 1 3 8 ++ []) wN0 21 w0_2_3m2 = true := by kernel_rfl
def w0_2_3ms : List (Nat × List Memo) := [(21, [w0_2_3m0, w0_2_3m1, w0_2_3m2])]
theorem w0_2_3mo : AllMem (memRun [(0, 3, 0), (4, 9, 2)] (lenL 1 3 8 ++ []) wN0) w0_2_3ms := ⟨⟨w0_2_3o0, w0_2_3o1, w0_2_3o2, trivial⟩, trivial⟩
theorem w0_2_3 : lawRunM 9 10 200 [.i, .q, .b, .q, .i] [(0, 3, 0), (4, 9, 2)] (lenL 1 3 8 ++ []) wN0 w0_2_3ms = true := by kernel_rfl
def w0_3_3m0 : Memo :=  (⟨[(.ag [(.i .i64 1), (.sl 11 0 5 (.u 4)), (.sl 10 0 1 (.u 1))]), (.c (.sl 46 0 1 (.u 1)))], [(10, wb1_0), (11, wb1_1), (46, wb1_2)], 63, (.c (.sl 65 0 1 (.n 1))), [(10, wb1_0), (11, wb1_1), (46, wb1_2), (65, [(.ef (.vf 155))])], 92⟩) 
theorem w0_3_3o0 : mok [(0, 3, 0), (4, 9, 3)] (lenL 1 3 8 ++ []) wN0 21 w0_3_3m0 = true := by kernel_rfl
def w0_3_3m1 : Memo :=  (⟨[(.ag [(.i .i64 1), (.sl 53 0 8 (.u 4)), (.sl 27 0 1 (.u 1))]), (.c (.sl 46 0 1 (.u 1)))], [(27, wb1_0), (46, wb1_2), (53, wb1_5)], 92, (.c (.sl 94 0 1 (.n 1))), [(27, wb1_0), (46, wb1_2), (53, wb1_5), (94, [(.ef (.vf 155))])], 133⟩) 
theorem w0_3_3o1 : mok [(0, 3, 0), (4, 9, 3)] (lenL 1 3 8 ++ []) wN0 21 w0_3_3m1 = true := by kernel_rfl
def w0_3_3m2 : Memo :=  (⟨[(.ag [(.i .i64 1), (.sl 53 0 8 (.u 4)), (.sl 27 0 1 (.u 1))]), (.c (.sl 46 0 1 (.u 1)))], [(27, wb1_0), (46, wb1_2), (53, wb1_5)], 133, (.c (.sl 135 0 1 (.n 1))), [(27, wb1_0), (46, wb1_2), (53, wb1_5), (135, [(.ef (.vf 155))])], 174⟩) 
theorem w0_3_3o2 : mok [(0, 3, 0), (4, 9, 3)] (lenL 1 3 8 ++ []) wN0 21 w0_3_3m2 = true := by kernel_rfl
def w0_3_3ms : List (Nat × List Memo) := [(21, [w0_3_3m0, w0_3_3m1, w0_3_3m2])]
theorem w0_3_3mo : AllMem (memRun [(0, 3, 0), (4, 9, 3)] (lenL 1 3 8 ++ []) wN0) w0_3_3ms := ⟨⟨w0_3_3o0, w0_3_3o1, w0_3_3o2, trivial⟩, trivial⟩
theorem w0_3_3 : lawRunM 9 10 200 [.i, .q, .b, .q, .i] [(0, 3, 0), (4, 9, 3)] (lenL 1 3 8 ++ []) wN0 w0_3_3ms = true := by kernel_rfl
def w0_4_3m0 : Memo :=  (⟨[(.ag [(.i .i64 1), (.sl 11 0 5 (.u 4)), (.sl 10 0 1 (.u 1))]), (.c (.sl 46 0 1 (.u 1)))], [(10, wb1_0), (11, wb1_1), (46, wb1_2)], 66, (.c (.sl 68 0 1 (.n 1))), [(10, wb1_0), (11, wb1_1), (46, wb1_2), (68, [(.ef (.vf 155))])], 95⟩) 
theorem w0_4_3o0 : mok [(0, 3, 0), (4, 9, 4)] (lenL 1 3 8 ++ []) wN0 21 w0_4_3m0 = true := by kernel_rfl
def w0_4_3m1 : Memo :=  (⟨[(.ag [(.i .i64 1), (.sl 55 0 9 (.u 4)), (.sl 27 0 1 (.u 1))]), (.c (.sl 46 0 1 (.u 1)))], [(27, wb1_0), (46, wb1_2), (55, wb1_6)], 95, (.c (.sl 97 0 1 (.n 1))), [(27, wb1_0), (46, wb1_2), (55, wb1_6), (97, [(.ef (.vf 155))])], 140⟩) 
theorem w0_4_3o1 : mok [(0, 3, 0), (4, 9, 4)] (lenL 1 3 8 ++ []) wN0 21 w0_4_3m1 = true := by kernel_rfl
def w0_4_3m2 : Memo :=  (⟨[(.ag [(.i .i64 1), (.sl 55 0 9 (.u 4)), (.sl 27 0 1 (.u 1))]), (.c (.sl 46 0 1 (.u 1)))], [(27, wb1_0), (46, wb1_2), (55, wb1_6)], 140, (.c (.sl 142 0 1 (.n 1))), [(27, wb1_0), (46, wb1_2), (55, wb1_6), (142, [(.ef (.vf 155))])], 185⟩) 
theorem w0_4_3o2 : mok [(0, 3, 0), (4, 9, 4)] (lenL 1 3 8 ++ []) wN0 21 w0_4_3m2 = true := by kernel_rfl
def w0_4_3ms : List (Nat × List Memo) := [(21, [w0_4_3m0, w0_4_3m1, w0_4_3m2])]
theorem w0_4_3mo : AllMem (memRun [(0, 3, 0), (4, 9, 4)] (lenL 1 3 8 ++ []) wN0) w0_4_3ms := ⟨⟨w0_4_3o0, w0_4_3o1, w0_4_3o2, trivial⟩, trivial⟩
theorem w0_4_3 : lawRunM 9 10 200 [.i, .q, .b, .q, .i] [(0, 3, 0), (4, 9, 4)] (lenL 1 3 8 ++ []) wN0 w0_4_3ms = true := by kernel_rfl
def w0_5_3m0 : Memo :=  (⟨[(.ag [(.i .i64 1), (.sl 11 0 5 (.u 4)), (.sl 10 0 1 (.u 1))]), (.c (.sl 46 0 1 (.u 1)))], [(10, wb1_0), (11, wb1_1), (46, wb1_2)], 69, (.c (.sl 71 0 1 (.n 1))), [(10, wb1_0), (11, wb1_1), (46, wb1_2), (71, [(.ef (.vf 155))])], 98⟩) 
theorem w0_5_3o0 : mok [(0, 3, 0), (4, 9, 5)] (lenL 1 3 8 ++ []) wN0 21 w0_5_3m0 = true := by kernel_rfl
def w0_5_3m1 : Memo :=  (⟨[(.ag [(.i .i64 1), (.sl 57 0 10 (.u 4)), (.sl 27 0 1 (.u 1))]), (.c (.sl 46 0 1 (.u 1)))], [(27, wb1_0), (46, wb1_2), (57, wb1_7)], 98, (.c (.sl 100 0 1 (.n 1))), [(27, wb1_0), (46, wb1_2), (57, wb1_7), (100, [(.ef (.vf 155))])], 147⟩) 
theorem w0_5_3o1 : mok [(0, 3, 0), (4, 9, 5)] (lenL 1 3 8 ++ []) wN0 21 w0_5_3m1 = true := by kernel_rfl
def w0_5_3m2 : Memo :=  (⟨[(.ag [(.i .i64 1), (.sl 57 0 10 (.u 4)), (.sl 27 0 1 (.u 1))]), (.c (.sl 46 0 1 (.u 1)))], [(27, wb1_0), (46, wb1_2), (57, wb1_7)], 147, (.c (.sl 149 0 1 (.n 1))), [(27, wb1_0), (46, wb1_2), (57, wb1_7), (149, [(.ef (.vf 155))])], 196⟩) 
theorem w0_5_3o2 : mok [(0, 3, 0), (4, 9, 5)] (lenL 1 3 8 ++ []) wN0 21 w0_5_3m2 = true := by kernel_rfl
def w0_5_3ms : List (Nat × List Memo) := [(21, [w0_5_3m0, w0_5_3m1, w0_5_3m2])]
theorem w0_5_3mo : AllMem (memRun [(0, 3, 0), (4, 9, 5)] (lenL 1 3 8 ++ []) wN0) w0_5_3ms := ⟨⟨w0_5_3o0, w0_5_3o1, w0_5_3o2, trivial⟩, trivial⟩
theorem w0_5_3 : lawRunM 9 10 200 [.i, .q, .b, .q, .i] [(0, 3, 0), (4, 9, 5)] (lenL 1 3 8 ++ []) wN0 w0_5_3ms = true := by kernel_rfl
def w0_6_3m0 : Memo :=  (⟨[(.ag [(.i .i64 1), (.sl 11 0 5 (.u 4)), (.sl 10 0 1 (.u 1))]), (.c (.sl 46 0 1 (.u 1)))], [(10, wb1_0), (11, wb1_1), (46, wb1_2)], 72, (.c (.sl 74 0 1 (.n 1))), [(10, wb1_0), (11, wb1_1), (46, wb1_2), (74, [(.ef (.vf 155))])], 101⟩) 
theorem w0_6_3o0 : mok [(0, 3, 0), (4, 9, 6)] (lenL 1 3 8 ++ []) wN0 21 w0_6_3m0 = true := by kernel_rfl
def w0_6_3m1 : Memo :=  (⟨[(.ag [(.i .i64 1), (.sl 59 0 11 (.u 4)), (.sl 27 0 1 (.u 1))]), (.c (.sl 46 0 1 (.u 1)))], [(27, wb1_0), (46, wb1_2), (59, wb1_8)], 101, (.c (.sl 103 0 1 (.n 1))), [(27, wb1_0), (46, wb1_2), (59, wb1_8), (103, [(.ef (.vf 155))])], 154⟩) 
theorem w0_6_3o1 : mok [(0, 3, 0), (4, 9, 6)] (lenL 1 3 8 ++ []) wN0 21 w0_6_3m1 = true := by kernel_rfl
def w0_6_3m2 : Memo :=  (⟨[(.ag [(.i .i64 1), (.sl 59 0 11 (.u 4)), (.sl 27 0 1 (.u 1))]), (.c (.sl 46 0 1 (.u 1)))], [(27, wb1_0), (46, wb1_2), (59, wb1_8)], 154, (.c (.sl 156 0 1 (.n 1))), [(27, wb1_0), (46, wb1_2), (59, wb1_8), (156, [(.ef (.vf 155))])], 207⟩) 
theorem w0_6_3o2 : mok [(0, 3, 0), (4, 9, 6)] (lenL 1 3 8 ++ []) wN0 21 w0_6_3m2 = true := by kernel_rfl
def w0_6_3ms : List (Nat × List Memo) := [(21, [w0_6_3m0, w0_6_3m1, w0_6_3m2])]
theorem w0_6_3mo : AllMem (memRun [(0, 3, 0), (4, 9, 6)] (lenL 1 3 8 ++ []) wN0) w0_6_3ms := ⟨⟨w0_6_3o0, w0_6_3o1, w0_6_3o2, trivial⟩, trivial⟩
theorem w0_6_3 : lawRunM 9 10 200 [.i, .q, .b, .q, .i] [(0, 3, 0), (4, 9, 6)] (lenL 1 3 8 ++ []) wN0 w0_6_3ms = true := by kernel_rfl
def w0_7_3m0 : Memo :=  (⟨[(.ag [(.i .i64 1), (.sl 11 0 5 (.u 4)), (.sl 10 0 1 (.u 1))]), (.c (.sl 46 0 1 (.u 1)))], [(10, wb1_0), (11, wb1_1), (46, wb1_2)], 75, (.c (.sl 77 0 1 (.n 1))), [(10, wb1_0), (11, wb1_1), (46, wb1_2), (77, [(.ef (.vf 155))])], 104⟩) 
theorem w0_7_3o0 : mok [(0, 3, 0), (4, 9, 7)] (lenL 1 3 8 ++ []) wN0 21 w0_7_3m0 = true := by kernel_rfl
def w0_7_3m1 : Memo :=  (⟨[(.ag [(.i .i64 1), (.sl 61 0 12 (.u 4)), (.sl 27 0 1 (.u 1))]), (.c (.sl 46 0 1 (.u 1)))], [(27, wb1_0), (46, wb1_2), (61, wb1_9)], 104, (.c (.sl 106 0 1 (.n 1))), [(27, wb1_0), (46, wb1_2), (61, wb1_9), (106, [(.ef (.vf 155))])], 161⟩) 
theorem w0_7_3o1 : mok [(0, 3, 0), (4, 9, 7)] (lenL 1 3 8 ++ []) wN0 21 w0_7_3m1 = true := by kernel_rfl
def w0_7_3m2 : Memo :=  (⟨[(.ag [(.i .i64 1), (.sl 61 0 12 (.u 4)), (.sl 27 0 1 (.u 1))]), (.c (.sl 46 0 1 (.u 1)))], [(27, wb1_0), (46, wb1_2), (61, wb1_9)], 161, (.c (.sl 163 0 1 (.n 1))), [(27, wb1_0), (46, wb1_2), (61, wb1_9), (163, [(.ef (.vf 155))])], 218⟩) 
theorem w0_7_3o2 : mok [(0, 3, 0), (4, 9, 7)] (lenL 1 3 8 ++ []) wN0 21 w0_7_3m2 = true := by kernel_rfl
def w0_7_3ms : List (Nat × List Memo) := [(21, [w0_7_3m0, w0_7_3m1, w0_7_3m2])]
theorem w0_7_3mo : AllMem (memRun [(0, 3, 0), (4, 9, 7)] (lenL 1 3 8 ++ []) wN0) w0_7_3ms := ⟨⟨w0_7_3o0, w0_7_3o1, w0_7_3o2, trivial⟩, trivial⟩
theorem w0_7_3 : lawRunM 9 10 200 [.i, .q, .b, .q, .i] [(0, 3, 0), (4, 9, 7)] (lenL 1 3 8 ++ []) wN0 w0_7_3ms = true := by kernel_rfl
def w0_8_3m0 : Memo :=  (⟨[(.ag [(.i .i64 1), (.sl 11 0 5 (.u 4)), (.sl 10 0 1 (.u 1))]), (.c (.sl 46 0 1 (.u 1)))], [(10, wb1_0), (11, wb1_1), (46, wb1_2)], 78, (.c (.sl 80 0 1 (.n 1))), [(10, wb1_0), (11, wb1_1), (46, wb1_2), (80, [(.ef (.vf 155))])], 107⟩) 
theorem w0_8_3o0 : mok [(0, 3, 0), (4, 9, 8)] (lenL 1 3 8 ++ []) wN0 21 w0_8_3m0 = true := by kernel_rfl
def w0_8_3m1 : Memo :=  (⟨[(.ag [(.i .i64 1), (.sl 63 0 13 (.u 4)), (.sl 27 0 1 (.u 1))]), (.c (.sl 46 0 1 (.u 1)))], [(27, wb1_0), (46, wb1_2), (63, wb1_10)], 107, (.c (.sl 109 0 1 (.n 1))), [(27, wb1_0), (46, wb1_2), (63, wb1_10), (109, [(.ef (.vf 155))])], 168⟩) 
theorem w0_8_3o1 : mok [(0, 3, 0), (4, 9, 8)] (lenL 1 3 8 ++ []) wN0 21 w0_8_3m1 = true := by kernel_rfl
def w0_8_3m2 : Memo :=  (⟨[(.ag [(.i .i64 1), (.sl 63 0 13 (.u 4)), (.sl 27 0 1 (.u 1))]), (.c (.sl 46 0 1 (.u 1)))], [(27, wb1_0), (46, wb1_2), (63, wb1_10)], 168, (.c (.sl 170 0 1 (.n 1))), [(27, wb1_0), (46, wb1_2), (63, wb1_10), (170, [(.ef (.vf 155))])], 229⟩) 
theorem w0_8_3o2 : mok [(0, 3, 0), (4, 9, 8)] (lenL 1 3 8 ++ []) wN0 21 w0_8_3m2 = true := by kernel_rfl
def w0_8_3ms : List (Nat × List Memo) := [(21, [w0_8_3m0, w0_8_3m1, w0_8_3m2])]
theorem w0_8_3mo : AllMem (memRun [(0, 3, 0), (4, 9, 8)] (lenL 1 3 8 ++ []) wN0) w0_8_3ms := ⟨⟨w0_8_3o0, w0_8_3o1, w0_8_3o2, trivial⟩, trivial⟩
theorem w0_8_3 : lawRunM 9 10 200 [.i, .q, .b, .q, .i] [(0, 3, 0), (4, 9, 8)] (lenL 1 3 8 ++ []) wN0 w0_8_3ms = true := by kernel_rfl
def w0_0_4m0 : Memo :=  (⟨[(.ag [(.i .i64 1), (.sl 11 0 6 (.u 4)), (.sl 10 0 1 (.u 1))]), (.c (.sl 52 0 1 (.u 1)))], [(10, wb1_11), (11, wb1_12), (52, wb1_2)], 61, (.c (.sl 63 0 1 (.n 1))), [(10, wb1_11), (11, wb1_12), (52, wb1_2), (63, [(.ef (.vf 154))])], 94⟩) 
theorem w0_0_4o0 : mok [(0, 3, 0), (4, 9, 0)] (lenL 1 4 8 ++ []) wN0 21 w0_0_4m0 = true := by kernel_rfl
def w0_0_4m1 : Memo :=  (⟨[(.ag [(.i .i64 1), (.sl 31 0 6 (.u 4)), (.sl 30 0 1 (.u 1))]), (.c (.sl 52 0 1 (.u 1)))], [(30, wb1_11), (31, wb1_12), (52, wb1_2)], 94, (.c (.sl 96 0 1 (.n 1))), [(30, wb1_11), (31, wb1_12), (52, wb1_2), (96, [(.ef (.vf 154))])], 127⟩) 
theorem w0_0_4o1 : mok [(0, 3, 0), (4, 9, 0)] (lenL 1 4 8 ++ []) wN0 21 w0_0_4m1 = true := by kernel_rfl
def w0_0_4m2 : Memo :=  (⟨[(.ag [(.i .i64 1), (.sl 31 0 6 (.u 4)), (.sl 30 0 1 (.u 1))]), (.c (.sl 52 0 1 (.u 1)))], [(30, wb1_11), (31, wb1_12), (52, wb1_2)], 127, (.c (.sl 129 0 1 (.n 1))), [(30, wb1_11), (31, wb1_12), (52, wb1_2), (129, [(.ef (.vf 154))])], 160⟩) 
theorem w0_0_4o2 : mok [(0, 3, 0), (4, 9, 0)] (lenL 1 4 8 ++ []) wN0 21 w0_0_4m2 = true := by kernel_rfl
def w0_0_4ms : List (Nat × List Memo) := [(21, [w0_0_4m0, w0_0_4m1, w0_0_4m2])]
theorem w0_0_4mo : AllMem (memRun [(0, 3, 0), (4, 9, 0)] (lenL 1 4 8 ++ []) wN0) w0_0_4ms := ⟨⟨w0_0_4o0, w0_0_4o1, w0_0_4o2, trivial⟩, trivial⟩
theorem w0_0_4 : lawRunM 9 10 200 [.i, .q, .b, .q, .i] [(0, 3, 0), (4, 9, 0)] (lenL 1 4 8 ++ []) wN0 w0_0_4ms = true := by kernel_rfl
def w0_1_4m0 : Memo :=  (⟨[(.ag [(.i .i64 1), (.sl 11 0 6 (.u 4)), (.sl 10 0 1 (.u 1))]), (.c (.sl 52 0 1 (.u 1)))], [(10, wb1_11), (11, wb1_12), (52, wb1_2)], 64, (.c (.sl 66 0 1 (.n 1))), [(10, wb1_11), (11, wb1_12), (52, wb1_2), (66, [(.ef (.vf 154))])], 97⟩) 
theorem w0_1_4o0 : mok [(0, 3, 0), (4, 9, 1)] (lenL 1 4 8 ++ []) wN0 21 w0_1_4m0 = true := by kernel_rfl
def w0_1_4m1 : Memo :=  (⟨[(.ag [(.i .i64 1), (.sl 55 0 7 (.u 4)), (.sl 30 0 1 (.u 1))]), (.c (.sl 52 0 1 (.u 1)))], [(30, wb1_11), (52, wb1_2), (55, wb1_13)], 97, (.c (.sl 99 0 1 (.n 1))), [(30, wb1_11), (52, wb1_2), (55, wb1_13), (99, [(.ef (.vf 154))])], 134⟩) 
theorem w0_1_4o1 : mok [(0, 3, 0), (4, 9, 1)] (lenL 1 4 8 ++ []) wN0 21 w0_1_4m1 = true := by kernel_rfl
def w0_1_4m2 : Memo :=  (⟨[(.ag [(.i .i64 1), (.sl 55 0 7 (.u 4)), (.sl 30 0 1 (.u 1))]), (.c (.sl 52 0 1 (.u 1)))], [(30, wb1_11), (52, wb1_2), (55, wb1_13)], 134, (.c (.sl 136 0 1 (.n 1))), [(30, wb1_11), (52, wb1_2), (55, wb1_13), (136, [(.ef (.vf 154))])], 171⟩) 
theorem w0_1_4o2 : mok [(0, 3, 0), (4, 9, 1)] (lenL 1 4 8 ++ []) wN0 21 w0_1_4m2 = true := by kernel_rfl
def w0_1_4ms : List (Nat × List Memo) := [(21, [w0_1_4m0, w0_1_4m1, w0_1_4m2])]
theorem w0_1_4mo : AllMem (memRun [(0, 3, 0), (4, 9, 1)] (lenL 1 4 8 ++ []) wN0) w0_1_4ms := ⟨⟨w0_1_4o0, w0_1_4o1, w0_1_4o2, trivial⟩, trivial⟩
theorem w0_1_4 : lawRunM 9 10 200 [.i, .q, .b, .q, .i] [(0, 3, 0), (4, 9, 1)] (lenL 1 4 8 ++ []) wN0 w0_1_4ms = true := by kernel_rfl
def w0_2_4m0 : Memo :=  (⟨[(.ag [(.i .i64 1), (.sl 11 0 6 (.u 4)), (.sl 10 0 1 (.u 1))]), (.c (.sl 52 0 1 (.u 1)))], [(10, wb1_11), (11, wb1_12), (52, wb1_2)], 67, (.c (.sl 69 0 1 (.n 1))), [(10, wb1_11), (11, wb1_12), (52, wb1_2), (69, [(.ef (.vf 154))])], 100⟩) 
theorem w0_2_4o0 : mok [(0, 3, 0), (4, 9, 2)] (lenL 1 4 8 ++ []) wN0 21 w0_2_4m0 = true := by kernel_rfl
def w0_2_4m1 : Memo :=  (⟨[(.ag [(.i .i64 1), (.sl 57 0 8 (.u 4)), (.sl 30 0 1 (.u 1))]), (.c (.sl 52 0 1 (.u 1)))], [(30, wb1_11), (52, wb1_2), (57, wb1_14)], 100, (.c (.sl 102 0 1 (.n 1))), [(30, wb1_11), (52, wb1_2), (57, wb1_14), (102, [(.ef (.vf 154))])], 141⟩) 
theorem w0_2_4o1 : mok [(0, 3, 0), (4, 9, 2)] (lenL 1 4 8 ++ []) wN0 21 w0_2_4m1 = true := by kernel_rfl
def w0_2_4m2 : Memo :=  (⟨[(.ag [(.i .i64 1), (.sl 57 0 8 (.u 4)), (.sl 30 0 1 (.u 1))]), (.c (.sl 52 0 1 (.u 1)))], [(30, wb1_11), (52, wb1_2), (57, wb1_14)], 141, (.c (.sl 143 0 1 (.n 1))), [(30, wb1_11), (52, wb1_2), (57, wb1_14), (143, [(.ef (.vf 154))])], 182⟩) 
theorem w0_2_4o2 : mok [(0, 3, 0), (4, 9, 2)] (lenL 1 4 8 ++ []) wN0 21 w0_2_4m2 = true := by kernel_rfl
def w0_2_4ms : List (Nat × List Memo) := [(21, [w0_2_4m0, w0_2_4m1, w0_2_4m2])]
theorem w0_2_4mo : AllMem (memRun [(0, 3, 0), (4, 9, 2)] (lenL 1 4 8 ++ []) wN0) w0_2_4ms := ⟨⟨w0_2_4o0, w0_2_4o1, w0_2_4o2, trivial⟩, trivial⟩
theorem w0_2_4 : lawRunM 9 10 200 [.i, .q, .b, .q, .i] [(0, 3, 0), (4, 9, 2)] (lenL 1 4 8 ++ []) wN0 w0_2_4ms = true := by kernel_rfl
def w0_3_4m0 : Memo :=  (⟨[(.ag [(.i .i64 1), (.sl 11 0 6 (.u 4)), (.sl 10 0 1 (.u 1))]), (.c (.sl 52 0 1 (.u 1)))], [(10, wb1_11), (11, wb1_12), (52, wb1_2)], 70, (.c (.sl 72 0 1 (.n 1))), [(10, wb1_11), (11, wb1_12), (52, wb1_2), (72, [(.ef (.vf 154))])], 103⟩) 
theorem w0_3_4o0 : mok [(0, 3, 0), (4, 9, 3)] (lenL 1 4 8 ++ []) wN0 21 w0_3_4m0 = true := by kernel_rfl
def w0_3_4m1 : Memo :=  (⟨[(.ag [(.i .i64 1), (.sl 59 0 9 (.u 4)), (.sl 30 0 1 (.u 1))]), (.c (.sl 52 0 1 (.u 1)))], [(30, wb1_11), (52, wb1_2), (59, wb1_15)], 103, (.c (.sl 105 0 1 (.n 1))), [(30, wb1_11), (52, wb1_2), (59, wb1_15), (105, [(.ef (.vf 154))])], 148⟩) 
theorem w0_3_4o1 : mok [(0, 3, 0), (4, 9, 3)] (lenL 1 4 8 ++ []) wN0 21 w0_3_4m1 = true := by kernel_rfl
def w0_3_4m2 : Memo :=  (⟨[(.ag [(.i .i64 1), (.sl 59 0 9 (.u 4)), (.sl 30 0 1 (.u 1))]), (.c (.sl 52 0 1 (.u 1)))], [(30, wb1_11), (52, wb1_2), (59, wb1_15)], 148, (.c (.sl 150 0 1 (.n 1))), [(30, wb1_11), (52, wb1_2), (59, wb1_15), (150, [(.ef (.vf 154))])], 193⟩) 
theorem w0_3_4o2 : mok [(0, 3, 0), (4, 9, 3)] (lenL 1 4 8 ++ []) wN0 21 w0_3_4m2 = true := by kernel_rfl
def w0_3_4ms : List (Nat × List Memo) := [(21, [w0_3_4m0, w0_3_4m1, w0_3_4m2])]
theorem w0_3_4mo : AllMem (memRun [(0, 3, 0), (4, 9, 3)] (lenL 1 4 8 ++ []) wN0) w0_3_4ms := ⟨⟨w0_3_4o0, w0_3_4o1, w0_3_4o2, trivial⟩, trivial⟩
theorem w0_3_4 : lawRunM 9 10 200 [.i, .q, .b, .q, .i] [(0, 3, 0), (4, 9, 3)] (lenL 1 4 8 ++ []) wN0 w0_3_4ms = true := by kernel_rfl
def w0_4_4m0 : Memo :=  (⟨[(.ag [(.i .i64 1), (.sl 11 0 6 (.u 4)), (.sl 10 0 1 (.u 1))]), (.c (.sl 52 0 1 (.u 1)))], [(10, wb1_11), (11, wb1_12), (52, wb1_2)], 73, (.c (.sl 75 0 1 (.n 1))), [(10, wb1_11), (11, wb1_12), (52, wb1_2), (75, [(.ef (.vf 154))])], 106⟩) 
theorem w0_4_4o0 : mok [(0, 3, 0), (4, 9, 4)] (lenL 1 4 8 ++ []) wN0 21 w0_4_4m0 = true := by kernel_rfl
def w0_4_4m1 : Memo :=  (⟨[(.ag [(.i .i64 1), (.sl 61 0 10 (.u 4)), (.sl 30 0 1 (.u 1))]), (.c (.sl 52 0 1 (.u 1)))], [(30, wb1_11), (52, wb1_2), (61, wb1_16)], 106, (.c (.sl 108 0 1 (.n 1))), [(30, wb1_11), (52, wb1_2), (61, wb1_16), (108, [(.ef (.vf 154))])], 155⟩) 
theorem w0_4_4o1 : mok [(0, 3, 0), (4, 9, 4)] (lenL 1 4 8 ++ []) wN0 21 w0_4_4m1 = true := by kernel_rfl
def w0_4_4m2 : Memo :=  (⟨[(.ag [(.i .i64 1), (.sl 61 0 10 (.u 4)), (.sl 30 0 1 (.u 1))]), (.c (.sl 52 0 1 (.u 1)))], [(30, wb1_11), (52, wb1_2), (61, wb1_16)], 155, (.c (.sl 157 0 1 (.n 1))), [(30, wb1_11), (52, wb1_2), (61, wb1_16), (157, [(.ef (.vf 154))])], 204⟩) 
theorem w0_4_4o2 : mok [(0, 3, 0), (4, 9, 4)] (lenL 1 4 8 ++ []) wN0 21 w0_4_4m2 = true := by kernel_rfl
def w0_4_4ms : List (Nat × List Memo) := [(21, [w0_4_4m0, w0_4_4m1, w0_4_4m2])]
theorem w0_4_4mo : AllMem (memRun [(0, 3, 0), (4, 9, 4)] (lenL 1 4 8 ++ []) wN0) w0_4_4ms := ⟨⟨w0_4_4o0, w0_4_4o1, w0_4_4o2, trivial⟩, trivial⟩
theorem w0_4_4 : lawRunM 9 10 200 [.i, .q, .b, .q, .i] [(0, 3, 0), (4, 9, 4)] (lenL 1 4 8 ++ []) wN0 w0_4_4ms = true := by kernel_rfl
def w0_5_4m0 : Memo :=  (⟨[(.ag [(.i .i64 1), (.sl 11 0 6 (.u 4)), (.sl 10 0 1 (.u 1))]), (.c (.sl 52 0 1 (.u 1)))], [(10, wb1_11), (11, wb1_12), (52, wb1_2)], 76, (.c (.sl 78 0 1 (.n 1))), [(10, wb1_11), (11, wb1_12), (52, wb1_2), (78, [(.ef (.vf 154))])], 109⟩) 
theorem w0_5_4o0 : mok [(0, 3, 0), (4, 9, 5)] (lenL 1 4 8 ++ []) wN0 21 w0_5_4m0 = true := by kernel_rfl
def w0_5_4m1 : Memo :=  (⟨[(.ag [(.i .i64 1), (.sl 63 0 11 (.u 4)), (.sl 30 0 1 (.u 1))]), (.c (.sl 52 0 1 (.u 1)))], [(30, wb1_11), (52, wb1_2), (63, wb1_17)], 109, (.c (.sl 111 0 1 (.n 1))), [(30, wb1_11), (52, wb1_2), (63, wb1_17), (111, [(.ef (.vf 154))])], 162⟩) 
theorem w0_5_4o1 : mok [(0, 3, 0), (4, 9, 5)] (lenL 1 4 8 ++ []) wN0 21 w0_5_4m1 = true := by kernel_rfl
def w0_5_4m2 : Memo :=  (⟨[(.ag [(.i .i64 1), (.sl 63 0 11 (.u 4)), (.sl 30 0 1 (.u 1))]), (.c (.sl 52 0 1 (.u 1)))], [(30, wb1_11), (52, wb1_2), (63, wb1_17)], 162, (.c (.sl 164 0 1 (.n 1))), [(30, wb1_11), (52, wb1_2), (63, wb1_17), (164, [(.ef (.vf 154))])], 215⟩) 
theorem w0_5_4o2 : mok [(0, 3, 0), (4, 9, 5)] (lenL 1 4 8 ++ []) wN0 21 w0_5_4m2 = true := by kernel_rfl
def w0_5_4ms : List (Nat × List Memo) := [(21, [w0_5_4m0, w0_5_4m1, w0_5_4m2])]
theorem w0_5_4mo : AllMem (memRun [(0, 3, 0), (4, 9, 5)] (lenL 1 4 8 ++ []) wN0) w0_5_4ms := ⟨⟨w0_5_4o0, w0_5_4o1, w0_5_4o2, trivial⟩, trivial⟩
theorem w0_5_4 : lawRunM 9 10 200 [.i, .q, .b, .q, .i] [(0, 3, 0), (4, 9, 5)] (lenL 1 4 8 ++ []) wN0 w0_5_4ms = true := by kernel_rfl
def w0_6_4m0 : Memo :=  (⟨[(.ag [(.i .i64 1), (.sl 11 0 6 (.u 4)), (.sl 10 0 1 (.u 1))]), (.c (.sl 52 0 1 (.u 1)))], [(10, wb1_11), (11, wb1_12), (52, wb1_2)], 79, (.c (.sl 81 0 1 (.n 1))), [(10, wb1_11), (11, wb1_12), (52, wb1_2), (81, [(.ef (.vf 154))])], 112⟩) 
theorem w0_6_4o0 : mok [(0, 3, 0), (4, 9, 6)] (lenL 1 4 8 ++ []) wN0 21 w0_6_4m0 = true := by kernel_rfl
def w0_6_4m1 : Memo :=  (⟨[(.ag [(.i .i64 1), (.sl 65 0 12 (.u 4)), (.sl 30 0 1 (.u 1))]), (.c (.sl 52 0 1 (.u 1)))], [(30, wb1_11), (52, wb1_2), (65, wb1_18)], 112, (.c (.sl 114 0 1 (.n 1))), [(30, wb1_11), (52, wb1_2), (65, wb1_18), (114, [(.ef (.vf 154))])], 169⟩) 
theorem w0_6_4o1 : mok [(0, 3, 0), (4, 9, 6)] (lenL 1 4 8 ++ []) wN0 21 w0_6_4m1 = true := by kernel_rfl
def w0_6_4m2 : Memo :=  (⟨[(.ag [(.i .i64 1), (.sl 65 0 12 (.u 4)), (.sl 30 0 1 (.u 1))]), (.c (.sl 52 0 1 (.u 1)))], [(30, wb1_11), (52, wb1_2), (65, wb1_18)], 169, (.c (.sl 171 0 1 (.n 1))), [(30, wb1_11), (52, wb1_2), (65, wb1_18), (171, [(.ef (.vf 154))])], 226⟩) 
theorem w0_6_4o2 : mok [(0, 3, 0), (4, 9, 6)] (lenL 1 4 8 ++ []) wN0 21 w0_6_4m2 = true := by kernel_rfl
def w0_6_4ms : List (Nat × List Memo) := [(21, [w0_6_4m0, w0_6_4m1, w0_6_4m2])]
theorem w0_6_4mo : AllMem (memRun [(0, 3, 0), (4, 9, 6)] (lenL 1 4 8 ++ []) wN0) w0_6_4ms := ⟨⟨w0_6_4o0, w0_6_4o1, w0_6_4o2, trivial⟩, trivial⟩
theorem w0_6_4 : lawRunM 9 10 200 [.i, .q, .b, .q, .i] [(0, 3, 0), (4, 9, 6)] (lenL 1 4 8 ++ []) wN0 w0_6_4ms = true := by kernel_rfl
def w0_7_4m0 : Memo :=  (⟨[(.ag [(.i .i64 1), (.sl 11 0 6 (.u 4)), (.sl 10 0 1 (.u 1))]), (.c (.sl 52 0 1 (.u 1)))], [(10, wb1_11), (11, wb1_12), (52, wb1_2)], 82, (.c (.sl 84 0 1 (.n 1))), [(10, wb1_11), (11, wb1_12), (52, wb1_2), (84, [(.ef (.vf 154))])], 115⟩) 
theorem w0_7_4o0 : mok [(0, 3, 0), (4, 9, 7)] (lenL 1 4 8 ++ []) wN0 21 w0_7_4m0 = true := by kernel_rfl
def w0_7_4m1 : Memo :=  (⟨[(.ag [(.i .i64 1), (.sl 67 0 13 (.u 4)), (.sl 30 0 1 (.u 1))]), (.c (.sl 52 0 1 (.u 1)))], [(30, wb1_11), (52, wb1_2), (67, wb1_19)], 115, (.c (.sl 117 0 1 (.n 1))), [(30, wb1_11), (52, wb1_2), (67, wb1_19), (117, [(.ef (.vf 154))])], 176⟩) 
theorem w0_7_4o1 : mok [(0, 3, 0), (4, 9, 7)] (lenL 1 4 8 ++ []) wN0 21 w0_7_4m1 = true := by kernel_rfl
def w0_7_4m2 : Memo :=  (⟨[(.ag [(.i .i64 1), (.sl 67 0 13 (.u 4)), (.sl 30 0 1 (.u 1))]), (.c (.sl 52 0 1 (.u 1)))], [(30, wb1_11), (52, wb1_2), (67, wb1_19)], 176, (.c (.sl 178 0 1 (.n 1))), [(30, wb1_11), (52, wb1_2), (67, wb1_19), (178, [(.ef (.vf 154))])], 237⟩) 
theorem w0_7_4o2 : mok [(0, 3, 0), (4, 9, 7)] (lenL 1 4 8 ++ []) wN0 21 w0_7_4m2 = true := by kernel_rfl
def w0_7_4ms : List (Nat × List Memo) := [(21, [w0_7_4m0, w0_7_4m1, w0_7_4m2])]
theorem w0_7_4mo : AllMem (memRun [(0, 3, 0), (4, 9, 7)] (lenL 1 4 8 ++ []) wN0) w0_7_4ms := ⟨⟨w0_7_4o0, w0_7_4o1, w0_7_4o2, trivial⟩, trivial⟩
theorem w0_7_4 : lawRunM 9 10 200 [.i, .q, .b, .q, .i] [(0, 3, 0), (4, 9, 7)] (lenL 1 4 8 ++ []) wN0 w0_7_4ms = true := by kernel_rfl
def w0_8_4m0 : Memo :=  (⟨[(.ag [(.i .i64 1), (.sl 11 0 6 (.u 4)), (.sl 10 0 1 (.u 1))]), (.c (.sl 52 0 1 (.u 1)))], [(10, wb1_11), (11, wb1_12), (52, wb1_2)], 85, (.c (.sl 87 0 1 (.n 1))), [(10, wb1_11), (11, wb1_12), (52, wb1_2), (87, [(.ef (.vf 154))])], 118⟩) 
theorem w0_8_4o0 : mok [(0, 3, 0), (4, 9, 8)] (lenL 1 4 8 ++ []) wN0 21 w0_8_4m0 = true := by kernel_rfl
def w0_8_4m1 : Memo :=  (⟨[(.ag [(.i .i64 1), (.sl 69 0 14 (.u 4)), (.sl 30 0 1 (.u 1))]), (.c (.sl 52 0 1 (.u 1)))], [(30, wb1_11), (52, wb1_2), (69, wb1_20)], 118, (.c (.sl 120 0 1 (.n 1))), [(30, wb1_11), (52, wb1_2), (69, wb1_20), (120, [(.ef (.vf 154))])], 183⟩) 
theorem w0_8_4o1 : mok [(0, 3, 0), (4, 9, 8)] (lenL 1 4 8 ++ []) wN0 21 w0_8_4m1 = true := by kernel_rfl
def w0_8_4m2 : Memo :=  (⟨[(.ag [(.i .i64 1), (.sl 69 0 14 (.u 4)), (.sl 30 0 1 (.u 1))]), (.c (.sl 52 0 1 (.u 1)))], [(30, wb1_11), (52, wb1_2), (69, wb1_20)], 183, (.c (.sl 185 0 1 (.n 1))), [(30, wb1_11), (52, wb1_2), (69, wb1_20), (185, [(.ef (.vf 154))])], 248⟩) 
theorem w0_8_4o2 : mok [(0, 3, 0), (4, 9, 8)] (lenL 1 4 8 ++ []) wN0 21 w0_8_4m2 = true := by kernel_rfl
def w0_8_4ms : List (Nat × List Memo) := [(21, [w0_8_4m0, w0_8_4m1, w0_8_4m2])]
theorem w0_8_4mo : AllMem (memRun [(0, 3, 0), (4, 9, 8)] (lenL 1 4 8 ++ []) wN0) w0_8_4ms := ⟨⟨w0_8_4o0, w0_8_4o1, w0_8_4o2, trivial⟩, trivial⟩
theorem w0_8_4 : lawRunM 9 10 200 [.i, .q, .b, .q, .i] [(0, 3, 0), (4, 9, 8)] (lenL 1 4 8 ++ []) wN0 w0_8_4ms = true := by kernel_rfl
def w0_0_5m0 : Memo :=  (⟨[(.ag [(.i .i64 1), (.sl 11 0 7 (.u 4)), (.sl 10 0 1 (.u 1))]), (.c (.sl 58 0 1 (.u 1)))], [(10, wb1_21), (11, wb1_22), (58, wb1_2)], 68, (.c (.sl 70 0 1 (.n 1))), [(10, wb1_21), (11, wb1_22), (58, wb1_2), (70, [(.ef (.vf 153))])], 105⟩) 
theorem w0_0_5o0 : mok [(0, 3, 0), (4, 9, 0)] (lenL 1 5 8 ++ []) wN0 21 w0_0_5m0 = true := by kernel_rfl
def w0_0_5m1 : Memo :=  (⟨[(.ag [(.i .i64 1), (.sl 34 0 7 (.u 4)), (.sl 33 0 1 (.u 1))]), (.c (.sl 58 0 1 (.u 1)))], [(33, wb1_21), (34, wb1_22), (58, wb1_2)], 105, (.c (.sl 107 0 1 (.n 1))), [(33, wb1_21), (34, wb1_22), (58, wb1_2), (107, [(.ef (.vf 153))])], 142⟩) 
theorem w0_0_5o1 : mok [(0, 3, 0), (4, 9, 0)] (lenL 1 5 8 ++ []) wN0 21 w0_0_5m1 = true := by kernel_rfl
def w0_0_5m2 : Memo :=  (⟨[(.ag [(.i .i64 1), (.sl 34 0 7 (.u 4)), (.sl 33 0 1 (.u 1))]), (.c (.sl 58 0 1 (.u 1)))], [(33, wb1_21), (34, wb1_22), (58, wb1_2)], 142, (.c (.sl 144 0 1 (.n 1))), [(33, wb1_21), (34, wb1_22), (58, wb1_2), (144, [(.ef (.vf 153))])], 179⟩) 
theorem w0_0_5o2 : mok [(0, 3, 0), (4, 9, 0)] (lenL 1 5 8 ++ []) wN0 21 w0_0_5m2 = true := by kernel_rfl
def w0_0_5ms : List (Nat × List Memo) := [(21, [w0_0_5m0, w0_0_5m1, w0_0_5m2])]
theorem w0_0_5mo : AllMem (memRun [(0, 3, 0), (4, 9, 0)] (lenL 1 5 8 ++ []) wN0) w0_0_5ms := ⟨⟨w0_0_5o0, w0_0_5o1, w0_0_5o2, trivial⟩, trivial⟩
theorem w0_0_5 : lawRunM 9 10 200 [.i, .q, .b, .q, .i] [(0, 3, 0), (4, 9, 0)] (lenL 1 5 8 ++ []) wN0 w0_0_5ms = true := by kernel_rfl
def w0_1_5m0 : Memo :=  (⟨[(.ag [(.i .i64 1), (.sl 11 0 7 (.u 4)), (.sl 10 0 1 (.u 1))]), (.c (.sl 58 0 1 (.u 1)))], [(10, wb1_21), (11, wb1_22), (58, wb1_2)], 71, (.c (.sl 73 0 1 (.n 1))), [(10, wb1_21), (11, wb1_22), (58, wb1_2), (73, [(.ef (.vf 153))])], 108⟩) 
theorem w0_1_5o0 : mok [(0, 3, 0), (4, 9, 1)] (lenL 1 5 8 ++ []) wN0 21 w0_1_5m0 = true := by kernel_rfl
def w0_1_5m1 : Memo :=  (⟨[(.ag [(.i .i64 1), (.sl 61 0 8 (.u 4)), (.sl 33 0 1 (.u 1))]), (.c (.sl 58 0 1 (.u 1)))], [(33, wb1_21), (58, wb1_2), (61, wb1_23)], 108, (.c (.sl 110 0 1 (.n 1))), [(33, wb1_21), (58, wb1_2), (61, wb1_23), (110, [(.ef (.vf 153))])], 149⟩) 
theorem w0_1_5o1 : mok [(0, 3, 0), (4, 9, 1)] (lenL 1 5 8 ++ []) wN0 21 w0_1_5m1 = true := by kernel_rfl
def w0_1_5m2 : Memo :=  (⟨[(.ag [(.i .i64 1), (.sl 61 0 8 (.u 4)), (.sl 33 0 1 (.u 1))]), (.c (.sl 58 0 1 (.u 1)))], [(33, wb1_21), (58, wb1_2), (61, wb1_23)], 149, (.c (.sl 151 0 1 (.n 1))), [(33, wb1_21), (58, wb1_2), (61, wb1_23), (151, [(.ef (.vf 153))])], 190⟩) 
theorem w0_1_5o2 : mok [(0, 3, 0), (4, 9, 1)] (lenL 1 5 8 ++ []) wN0 21 w0_1_5m2 = true := by kernel_rfl
def w0_1_5ms : List (Nat × List Memo) := [(21, [w0_1_5m0, w0_1_5m1, w0_1_5m2])]
theorem w0_1_5mo : AllMem (memRun [(0, 3, 0), (4, 9, 1)] (lenL 1 5 8 ++ []) wN0) w0_1_5ms := ⟨⟨w0_1_5o0, w0_1_5o1, w0_1_5o2, trivial⟩, trivial⟩
theorem w0_1_5 : lawRunM 9 10 200 [.i, .q, .b, .q, .i] [(0, 3, 0), (4, 9, 1)] (lenL 1 5 8 ++ []) wN0 w0_1_5ms = true := by kernel_rfl
def w0_2_5m0 : Memo :=  (⟨[(.ag [(.i .i64 1), (.sl 11 0 7 (.u 4)), (.sl 10 0 1 (.u 1))]), (.c (.sl 58 0 1 (.u 1)))], [(10, wb1_21), (11, wb1_22), (58, wb1_2)], 74, (.c (.sl 76 0 1 (.n 1))), [(10, wb1_21), (11, wb1_22), (58, wb1_2), (76, [(.ef (.vf 153))])], 111⟩) 
theorem w0_2_5o0 : mok [(0, 3, 0), (4, 9, 2)] (lenL 1 5 8 ++ []) wN0 21 w0_2_5m0 = true := by kernel_rfl
def w0_2_5m1 : Memo :=  (⟨[(.ag [(.i .i64 1), (.sl 63 0 9 (.u 4)), (.sl 33 0 1 (.u 1))]), (.c (.sl 58 0 1 (.u 1)))], [(33, wb1_21), (58, wb1_2), (63, wb1_24)], 111, (.c (.sl 113 0 1 (.n 1))), [(33, wb1_21), (58, wb1_2), (63, wb1_24), (113, [(.ef (.vf 153))])], 156⟩) 
theorem w0_2_5o1 : mok [(0, 3, 0), (4, 9, 2)] (lenL 1 5 8 ++ []) wN0 21 w0_2_5m1 = true := by kernel_rfl
def w0_2_5m2 : Memo :=  (⟨[(.ag [(.i .i64 1), (.sl 63 0 9 (.u 4)), (.sl 33 0 1 (.u 1))]), (.c (.sl 58 0 1 (.u 1)))], [(33, wb1_21), (58, wb1_2), (63, wb1_24)], 156, (.c (.sl 158 0 1 (.n 1))), [(33, wb1_21), (58, wb1_2), (63, wb1_24), (158, [(.ef (.vf 153))])], 201⟩) 
theorem w0_2_5o2 : mok [(0, 3, 0), (4, 9, 2)] (lenL 1 5 8 ++ []) wN0 21 w0_2_5m2 = true := by kernel_rfl
def w0_2_5ms : List (Nat × List Memo) := [(21, [w0_2_5m0, w0_2_5m1, w0_2_5m2])]
theorem w0_2_5mo : AllMem (memRun [(0, 3, 0), (4, 9, 2)] (lenL 1 5 8 ++ []) wN0) w0_2_5ms := ⟨⟨w0_2_5o0, w0_2_5o1, w0_2_5o2, trivial⟩, trivial⟩
theorem w0_2_5 : lawRunM 9 10 200 [.i, .q, .b, .q, .i] [(0, 3, 0), (4, 9, 2)] (lenL 1 5 8 ++ []) wN0 w0_2_5ms = true := by kernel_rfl
def w0_3_5m0 : Memo :=  (⟨[(.ag [(.i .i64 1), (.sl 11 0 7 (.u 4)), (.sl 10 0 1 (.u 1))]), (.c (.sl 58 0 1 (.u 1)))], [(10, wb1_21), (11, wb1_22), (58, wb1_2)], 77, (.c (.sl 79 0 1 (.n 1))), [(10, wb1_21), (11, wb1_22), (58, wb1_2), (79, [(.ef (.vf 153))])], 114⟩) 
theorem w0_3_5o0 : mok [(0, 3, 0), (4, 9, 3)] (lenL 1 5 8 ++ []) wN0 21 w0_3_5m0 = true := by kernel_rfl
def w0_3_5m1 : Memo :=  (⟨[(.ag [(.i .i64 1), (.sl 65 0 10 (.u 4)), (.sl 33 0 1 (.u 1))]), (.c (.sl 58 0 1 (.u 1)))], [(33, wb1_21), (58, wb1_2), (65, wb1_25)], 114, (.c (.sl 116 0 1 (.n 1))), [(33, wb1_21), (58, wb1_2), (65, wb1_25), (116, [(.ef (.vf 153))])], 163⟩) 
theorem w0_3_5o1 : mok [(0, 3, 0), (4, 9, 3)] (lenL 1 5 8 ++ []) wN0 21 w0_3_5m1 = true := by kernel_rfl
def w0_3_5m2 : Memo :=  (⟨[(.ag [(.i .i64 1), (.sl 65 0 10 (.u 4)), (.sl 33 0 1 (.u 1))]), (.c (.sl 58 0 1 (.u 1)))], [(33, wb1_21), (58, wb1_2), (65, wb1_25)], 163, (.c (.sl 165 0 1 (.n 1))), [(33, wb1_21), (58, wb1_2), (65, wb1_25), (165, [(.ef (.vf 153))])], 212⟩) 
theorem w0_3_5o2 : mok [(0, 3, 0), (4, 9, 3)] (lenL 1 5 8 ++ []) wN0 21 w0_3_5m2 = true := by kernel_rfl
def w0_3_5ms : List (Nat × List Memo) := [(21, [w0_3_5m0, w0_3_5m1, w0_3_5m2])]
theorem w0_3_5mo : AllMem (memRun [(0, 3, 0), (4, 9, 3)] (lenL 1 5 8 ++ []) wN0) w0_3_5ms := ⟨⟨w0_3_5o0, w0_3_5o1, w0_3_5o2, trivial⟩, trivial⟩
theorem w0_3_5 : lawRunM 9 10 200 [.i, .q, .b, .q, .i] [(0, 3, 0), (4, 9, 3)] (lenL 1 5 8 ++ []) wN0 w0_3_5ms = true := by kernel_rfl
def w0_4_5m0 : Memo :=  (⟨[(.ag [(.i .i64 1), (.sl 11 0 7 (.u 4)), (.sl 10 0 1 (.u 1))]), (.c (.sl 58 0 1 (.u 1)))], [(10, wb1_21), (11, wb1_22), (58, wb1_2)], 80, (.c (.sl 82 0 1 (.n 1))), [(10, wb1_21), (11, wb1_22), (58, wb1_2), (82, [(.ef (.vf 153))])], 117⟩) 
theorem w0_4_5o0 : mok [(0, 3, 0), (4, 9, 4)] (lenL 1 5 8 ++ []) wN0 21 w0_4_5m0 = true := by kernel_rfl
def w0_4_5m1 : Memo :=  (⟨[(.ag [(.i .i64 1), (.sl 67 0 11 (.u 4)), (.sl 33 0 1 (.u 1))]), (.c (.sl 58 0 1 (.u 1)))], [(33, wb1_21), (58, wb1_2), (67, wb1_26)], 117, (.c (.sl 119 0 1 (.n 1))), [(33, wb1_21), (58, wb1_2), (67, wb1_26), (119, [(.ef (.vf 153))])], 170⟩) 
theorem w0_4_5o1 : mok [(0, 3, 0), (4, 9, 4)] (lenL 1 5 8 ++ []) wN0 21 w0_4_5m1 = true := by kernel_rfl
def w0_4_5m2 : Memo :=  (⟨[(.ag [(.i .i64 1), (.sl 67 0 11 (.u 4)), (.sl 33 0 1 (.u 1))]), (.c (.sl 58 0 1 (.u 1)))], [(33, wb1_21), (58, wb1_2), (67, wb1_26)], 170, (.c (.sl 172 0 1 (.n 1))), [(33, wb1_21), (58, wb1_2), (67, wb1_26), (172, [(.ef (.vf 153))])], 223⟩) 
theorem w0_4_5o2 : mok [(0, 3, 0), (4, 9, 4)] (lenL 1 5 8 ++ []) wN0 21 w0_4_5m2 = true := by kernel_rfl
def w0_4_5ms : List (Nat × List Memo) := [(21, [w0_4_5m0, w0_4_5m1, w0_4_5m2])]
theorem w0_4_5mo : AllMem (memRun [(0, 3, 0), (4, 9, 4)] (lenL 1 5 8 ++ []) wN0) w0_4_5ms := ⟨⟨w0_4_5o0, w0_4_5o1, w0_4_5o2, trivial⟩, trivial⟩
theorem w0_4_5 : lawRunM 9 10 200 [.i, .q, .b, .q, .i] [(0, 3, 0), (4, 9, 4)] (lenL 1 5 8 ++ []) wN0 w0_4_5ms = true := by kernel_rfl
def w0_5_5m0 : Memo :=  (⟨[(.ag [(.i .i64 1), (.sl 11 0 7 (.u 4)), (.sl 10 0 1 (.u 1))]), (.c (.sl 58 0 1 (.u 1)))], [(10, wb1_21), (11, wb1_22), (58, wb1_2)], 83, (.c (.sl 85 0 1 (.n 1))), [(10, wb1_21), (11, wb1_22), (58, wb1_2), (85, [(.ef (.vf 153))])], 120⟩) 
theorem w0_5_5o0 : mok [(0, 3, 0), (4, 9, 5)] (lenL 1 5 8 ++ []) wN0 21 w0_5_5m0 = true := by kernel_rfl
def w0_5_5m1 : Memo :=  (⟨[(.ag [(.i .i64 1), (.sl 69 0 12 (.u 4)), (.sl 33 0 1 (.u 1))]), (.c (.sl 58 0 1 (.u 1)))], [(33, wb1_21), (58, wb1_2), (69, wb1_27)], 120, (.c (.sl 122 0 1 (.n 1))), [(33, wb1_21), (58, wb1_2), (69, wb1_27), (122, [(.ef (.vf 153))])], 177⟩) 
theorem w0_5_5o1 : mok [(0, 3, 0), (4, 9, 5)] (lenL 1 5 8 ++ []) wN0 21 w0_5_5m1 = true := by kernel_rfl
def w0_5_5m2 : Memo :=  (⟨[(.ag [(.i .i64 1), (.sl 69 0 12 (.u 4)), (.sl 33 0 1 (.u 1))]), (.c (.sl 58 0 1 (.u 1)))], [(33, wb1_21), (58, wb1_2), (69, wb1_27)], 177, (.c (.sl 179 0 1 (.n 1))), [(33, wb1_21), (58, wb1_2), (69, wb1_27), (179, [(.ef (.vf 153))])], 234⟩) 
theorem w0_5_5o2 : mok [(0, 3, 0), (4, 9, 5)] (lenL 1 5 8 ++ []) wN0 21 w0_5_5m2 = true := by kernel_rfl
def w0_5_5ms : List (Nat × List Memo) := [(21, [w0_5_5m0, w0_5_5m1, w0_5_5m2])]
theorem w0_5_5mo : AllMem (memRun [(0, 3, 0), (4, 9, 5)] (lenL 1 5 8 ++ []) wN0) w0_5_5ms := ⟨⟨w0_5_5o0, w0_5_5o1, w0_5_5o2, trivial⟩, trivial⟩
theorem w0_5_5 : lawRunM 9 10 200 [.i, .q, .b, .q, .i] [(0, 3, 0), (4, 9, 5)] (lenL 1 5 8 ++ []) wN0 w0_5_5ms = true := by kernel_rfl
def w0_6_5m0 : Memo :=  (⟨[(.ag [(.i .i64 1), (.sl 11 0 7 (.u 4)), (.sl 10 0 1 (.u 1))]), (.c (.sl 58 0 1 (.u 1)))], [(10, wb1_21), (11, wb1_22), (58, wb1_2)], 86, (.c (.sl 88 0 1 (.n 1))), [(10, wb1_21), (11, wb1_22), (58, wb1_2), (88, [(.ef (.vf 153))])], 123⟩) 
theorem w0_6_5o0 : mok [(0, 3, 0), (4, 9, 6)] (lenL 1 5 8 ++ []) wN0 21 w0_6_5m0 = true := by kernel_rfl
def w0_6_5m1 : Memo :=  (⟨[(.ag [(.i .i64 1), (.sl 71 0 13 (.u 4)), (.sl 33 0 1 (.u 1))]), (.c (.sl 58 0 1 (.u 1)))], [(33, wb1_21), (58, wb1_2), (71, wb1_28)], 123, (.c (.sl 125 0 1 (.n 1))), [(33, wb1_21), (58, wb1_2), (71, wb1_28), (125, [(.ef (.vf 153))])], 184⟩) 
theorem w0_6_5o1 : mok [(0, 3, 0), (4, 9, 6)] (lenL 1 5 8 ++ []) wN0 21 w0_6_5m1 = true := by kernel_rfl
def w0_6_5m2 : Memo :=  (⟨[(.ag [(.i .i64 1), (.sl 71 0 13 (.u 4)), (.sl 33 0 1 (.u 1))]), (.c (.sl 58 0 1 (.u 1)))], [(33, wb1_21), (58, wb1_2), (71, wb1_28)], 184, (.c (.sl 186 0 1 (.n 1))), [(33, wb1_21), (58, wb1_2), (71, wb1_28), (186, [(.ef (.vf 153))])], 245⟩) 
theorem w0_6_5o2 : mok [(0, 3, 0), (4, 9, 6)] (lenL 1 5 8 ++ []) wN0 21 w0_6_5m2 = true := by kernel_rfl
def w0_6_5ms : List (Nat × List Memo) := [(21, [w0_6_5m0, w0_6_5m1, w0_6_5m2])]
theorem w0_6_5mo : AllMem (memRun [(0, 3, 0), (4, 9, 6)] (lenL 1 5 8 ++ []) wN0) w0_6_5ms := ⟨⟨w0_6_5o0, w0_6_5o1, w0_6_5o2, trivial⟩, trivial⟩
theorem w0_6_5 : lawRunM 9 10 200 [.i, .q, .b, .q, .i] [(0, 3, 0), (4, 9, 6)] (lenL 1 5 8 ++ []) wN0 w0_6_5ms = true := by kernel_rfl
def w0_7_5m0 : Memo :=  (⟨[(.ag [(.i .i64 1), (.sl 11 0 7 (.u 4)), (.sl 10 0 1 (.u 1))]), (.c (.sl 58 0 1 (.u 1)))], [(10, wb1_21), (11, wb1_22), (58, wb1_2)], 89, (.c (.sl 91 0 1 (.n 1))), [(10, wb1_21), (11, wb1_22), (58, wb1_2), (91, [(.ef (.vf 153))])], 126⟩) 
theorem w0_7_5o0 : mok [(0, 3, 0), (4, 9, 7)] (lenL 1 5 8 ++ []) wN0 21 w0_7_5m0 = true := by kernel_rfl
def w0_7_5m1 : Memo :=  (⟨[(.ag [(.i .i64 1), (.sl 73 0 14 (.u 4)), (.sl 33 0 1 (.u 1))]), (.c (.sl 58 0 1 (.u 1)))], [(33, wb1_21), (58, wb1_2), (73, wb1_29)], 126, (.c (.sl 128 0 1 (.n 1))), [(33, wb1_21), (58, wb1_2), (73, wb1_29), (128, [(.ef (.vf 153))])], 191⟩) 
theorem w0_7_5o1 : mok [(0, 3, 0), (4, 9, 7)] (lenL 1 5 8 ++ []) wN0 21 w0_7_5m1 = true := by kernel_rfl
def w0_7_5m2 : Memo :=  (⟨[(.ag [(.i .i64 1), (.sl 73 0 14 (.u 4)), (.sl 33 0 1 (.u 1))]), (.c (.sl 58 0 1 (.u 1)))], [(33, wb1_21), (58, wb1_2), (73, wb1_29)], 191, (.c (.sl 193 0 1 (.n 1))), [(33, wb1_21), (58, wb1_2), (73, wb1_29), (193, [(.ef (.vf 153))])], 256⟩) 
theorem w0_7_5o2 : mok [(0, 3, 0), (4, 9, 7)] (lenL 1 5 8 ++ []) wN0 21 w0_7_5m2 = true := by kernel_rfl
def w0_7_5ms : List (Nat × List Memo) := [(21, [w0_7_5m0, w0_7_5m1, w0_7_5m2])]
theorem w0_7_5mo : AllMem (memRun [(0, 3, 0), (4, 9, 7)] (lenL 1 5 8 ++ []) wN0) w0_7_5ms := ⟨⟨w0_7_5o0, w0_7_5o1, w0_7_5o2, trivial⟩, trivial⟩
theorem w0_7_5 : lawRunM 9 10 200 [.i, .q, .b, .q, .i] [(0, 3, 0), (4, 9, 7)] (lenL 1 5 8 ++ []) wN0 w0_7_5ms = true := by kernel_rfl
def w0_8_5m0 : Memo :=  (⟨[(.ag [(.i .i64 1), (.sl 11 0 7 (.u 4)), (.sl 10 0 1 (.u 1))]), (.c (.sl 58 0 1 (.u 1)))], [(10, wb1_21), (11, wb1_22), (58, wb1_2)], 92, (.c (.sl 94 0 1 (.n 1))), [(10, wb1_21), (11, wb1_22), (58, wb1_2), (94, [(.ef (.vf 153))])], 129⟩) 
theorem w0_8_5o0 : mok [(0, 3, 0), (4, 9, 8)] (lenL 1 5 8 ++ []) wN0 21 w0_8_5m0 = true := by kernel_rfl
def w0_8_5m1 : Memo :=  (⟨[(.ag [(.i .i64 1), (.sl 75 0 15 (.u 4)), (.sl 33 0 1 (.u 1))]), (.c (.sl 58 0 1 (.u 1)))], [(33, wb1_21), (58, wb1_2), (75, wb1_30)], 129, (.c (.sl 131 0 1 (.n 1))), [(33, wb1_21), (58, wb1_2), (75, wb1_30), (131, [(.ef (.vf 153))])], 198⟩) 
theorem w0_8_5o1 : mok [(0, 3, 0), (4, 9, 8)] (lenL 1 5 8 ++ []) wN0 21 w0_8_5m1 = true := by kernel_rfl
def w0_8_5m2 : Memo :=  (⟨[(.ag [(.i .i64 1), (.sl 75 0 15 (.u 4)), (.sl 33 0 1 (.u 1))]), (.c (.sl 58 0 1 (.u 1)))], [(33, wb1_21), (58, wb1_2), (75, wb1_30)], 198, (.c (.sl 200 0 1 (.n 1))), [(33, wb1_21), (58, wb1_2), (75, wb1_30), (200, [(.ef (.vf 153))])], 267⟩) 
theorem w0_8_5o2 : mok [(0, 3, 0), (4, 9, 8)] (lenL 1 5 8 ++ []) wN0 21 w0_8_5m2 = true := by kernel_rfl
def w0_8_5ms : List (Nat × List Memo) := [(21, [w0_8_5m0, w0_8_5m1, w0_8_5m2])]
theorem w0_8_5mo : AllMem (memRun [(0, 3, 0), (4, 9, 8)] (lenL 1 5 8 ++ []) wN0) w0_8_5ms := ⟨⟨w0_8_5o0, w0_8_5o1, w0_8_5o2, trivial⟩, trivial⟩
theorem w0_8_5 : lawRunM 9 10 200 [.i, .q, .b, .q, .i] [(0, 3, 0), (4, 9, 8)] (lenL 1 5 8 ++ []) wN0 w0_8_5ms = true := by kernel_rfl
end Go.Proofs.Yticbgaflhiokgaa
