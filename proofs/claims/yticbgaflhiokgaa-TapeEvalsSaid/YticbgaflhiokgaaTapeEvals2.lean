/-
  'TapeEvals': runs of it, part 2.
-/
import Derived.Test.YticbgaflhiokgaaTapeEvalst0
namespace Go.Proofs.Yticbgaflhiokgaa
open Go.RowKit Ex
def tapeEvalsMTapeEvals2_0 : E := (.fb .quo (.i2f (.ib .sub .i64 (.ai 9 0 (.ci (.vi 0) (.ci (.li 17) .n0))) (.li 8))) (.lf 4616189618054758400))
def tapeEvalsMTapeEvals2_1 : E := (.ic .eql (.ai 9 0 (.ci (.at 1 0) (.ci (.li 11) .n0))) (.li 0))
def tapeEvalsMTapeEvals2_2 : E := (.ib .add .i64 (.li 2) (.ai 9 0 (.ci (.at 1 0) (.ci (.li 3) .n0))))
def tapeEvalsMTapeEvals2_3 : E := (.ic .eql (.ai 9 0 (.ci (.at 1 1) (.ci (.li 11) .n0))) (.li 0))
def tapeEvalsMTapeEvals2_4 : E := (.ib .add .i64 (.li 2) (.ai 9 0 (.ci (.at 1 1) (.ci (.li 3) .n0))))
def tapeEvalsMTapeEvals2_5 : E := (.ic .eql (.ai 9 0 (.ci (.at 1 2) (.ci (.li 11) .n0))) (.li 0))
def tapeEvalsMTapeEvals2_6 : E := (.ib .add .i64 (.li 2) (.ai 9 0 (.ci (.at 1 2) (.ci (.li 3) .n0))))
def tapeEvalsMTapeEvals2_7 : E := (.ic .eql (.ai 9 0 (.ci (.at 1 3) (.ci (.li 11) .n0))) (.li 0))
def tapeEvalsMTapeEvals2_8 : E := (.ib .add .i64 (.li 2) (.ai 9 0 (.ci (.at 1 3) (.ci (.li 3) .n0))))
def tapeEvalsMTapeEvals2_9 : E := (.ic .eql (.ai 9 0 (.ci (.at 1 4) (.ci (.li 11) .n0))) (.li 0))
def tapeEvalsMTapeEvals2_10 : E := (.ib .add .i64 (.li 2) (.ai 9 0 (.ci (.at 1 4) (.ci (.li 3) .n0))))
def tapeEvalsMTapeEvals2_11 : E := (.ic .eql (.ai 9 0 (.ci (.at 1 5) (.ci (.li 11) .n0))) (.li 0))
def tapeEvalsMTapeEvals2_12 : E := (.ib .add .i64 (.li 2) (.ai 9 0 (.ci (.at 1 5) (.ci (.li 3) .n0))))
def tapeEvalsMTapeEvals2_13 : E := (.ib .add .i64 (.ib .quo .i64 (.vi 0) (.li 3)) (.li 0))
def tapeEvalsMTapeEvals2_14 : E := (.ai 9 0 (.ci tapeEvalsMTapeEvals2_13 (.ci (.li 3) .n0)))
def tapeEvalsMTapeEvals2_15 : E := (.fb .quo (.i2f (.ib .sub .i64 (.ai 9 0 (.ci (.ti (.ic .lss (.li 0) (.vl 3)) (.at 3 0) (.li 0)) (.ci (.li 65) .n0))) (.li 32))) (.lf 4620693217682128896))
def tapeEvalsMTapeEvals2_16 : E := (.ib .sub .i64 (.li 1) (.ai 9 0 (.ci tapeEvalsMTapeEvals2_13 (.ci (.li 2) .n0))))
def tapeEvalsBTapeEvals2_0 : Blk := [(.i .i64 1), (.i .i64 0), (.i .i64 0), (.f 0), (.i .i64 0), (.i .i64 0), (.i .i64 0), (.ef tapeEvalsMTapeEvals2_0), (.ei .i64 (.ti tapeEvalsMTapeEvals2_1 (.li 0) (.ti (.vb 2) (.ti (.ic .eql (.ai 9 0 (.ci (.at 1 0) (.ci (.li 7) .n0))) (.li 0)) (.li 5) tapeEvalsMTapeEvals2_2) tapeEvalsMTapeEvals2_2))), (.ei .i64 (.ti tapeEvalsMTapeEvals2_1 (.li 0) (.ai 9 0 (.ci (.ib .quo .i64 (.at 1 0) (.li 4)) (.ci (.li 2) .n0))))), (.ei .i64 (.ti tapeEvalsMTapeEvals2_1 (.li 0) (.ai 9 0 (.ci (.ib .quo .i64 (.at 1 0) (.li 40)) (.ci (.li 2) .n0))))), (.ef (.tf tapeEvalsMTapeEvals2_1 (.fb .quo (.i2f (.ib .sub .i64 (.ai 9 0 (.ci (.ib .quo .i64 (.at 1 0) (.li 11)) (.ci (.li 33) .n0))) (.li 16))) (.lf 4620693217682128896)) (.lf 0))), (.ei .i64 (.ti tapeEvalsMTapeEvals2_3 (.li 0) (.ti (.vb 2) (.ti (.ic .eql (.ai 9 0 (.ci (.at 1 1) (.ci (.li 7) .n0))) (.li 0)) (.li 5) tapeEvalsMTapeEvals2_4) tapeEvalsMTapeEvals2_4))), (.ei .i64 (.ti tapeEvalsMTapeEvals2_3 (.li 0) (.ai 9 0 (.ci (.ib .quo .i64 (.at 1 1) (.li 4)) (.ci (.li 3) .n0))))), (.ei .i64 (.ti tapeEvalsMTapeEvals2_3 (.li 0) (.ai 9 0 (.ci (.ib .quo .i64 (.at 1 1) (.li 40)) (.ci (.li 3) .n0))))), (.ef (.tf tapeEvalsMTapeEvals2_3 (.fb .quo (.i2f (.ib .sub .i64 (.ai 9 0 (.ci (.ib .quo .i64 (.at 1 1) (.li 11)) (.ci (.li 33) .n0))) (.li 16))) (.lf 4620693217682128896)) (.lf 0))), (.ei .i64 (.ti tapeEvalsMTapeEvals2_5 (.li 0) (.ti (.vb 2) (.ti (.ic .eql (.ai 9 0 (.ci (.at 1 2) (.ci (.li 7) .n0))) (.li 0)) (.li 5) tapeEvalsMTapeEvals2_6) tapeEvalsMTapeEvals2_6))), (.ei .i64 (.ti tapeEvalsMTapeEvals2_5 (.li 0) (.ai 9 0 (.ci (.ib .quo .i64 (.at 1 2) (.li 4)) (.ci (.li 4) .n0))))), (.ei .i64 (.ti tapeEvalsMTapeEvals2_5 (.li 0) (.ai 9 0 (.ci (.ib .quo .i64 (.at 1 2) (.li 40)) (.ci (.li 4) .n0))))), (.ef (.tf tapeEvalsMTapeEvals2_5 (.fb .quo (.i2f (.ib .sub .i64 (.ai 9 0 (.ci (.ib .quo .i64 (.at 1 2) (.li 11)) (.ci (.li 33) .n0))) (.li 16))) (.lf 4620693217682128896)) (.lf 0))), (.ei .i64 (.ti tapeEvalsMTapeEvals2_7 (.li 0) (.ti (.vb 2) (.ti (.ic .eql (.ai 9 0 (.ci (.at 1 3) (.ci (.li 7) .n0))) (.li 0)) (.li 5) tapeEvalsMTapeEvals2_8) tapeEvalsMTapeEvals2_8))), (.ei .i64 (.ti tapeEvalsMTapeEvals2_7 (.li 0) (.ai 9 0 (.ci (.ib .quo .i64 (.at 1 3) (.li 4)) (.ci (.li 5) .n0))))), (.ei .i64 (.ti tapeEvalsMTapeEvals2_7 (.li 0) (.ai 9 0 (.ci (.ib .quo .i64 (.at 1 3) (.li 40)) (.ci (.li 5) .n0))))), (.ef (.tf tapeEvalsMTapeEvals2_7 (.fb .quo (.i2f (.ib .sub .i64 (.ai 9 0 (.ci (.ib .quo .i64 (.at 1 3) (.li 11)) (.ci (.li 33) .n0))) (.li 16))) (.lf 4620693217682128896)) (.lf 0))), (.ei .i64 (.ti tapeEvalsMTapeEvals2_9 (.li 0) (.ti (.vb 2) (.ti (.ic .eql (.ai 9 0 (.ci (.at 1 4) (.ci (.li 7) .n0))) (.li 0)) (.li 5) tapeEvalsMTapeEvals2_10) tapeEvalsMTapeEvals2_10))), (.ei .i64 (.ti tapeEvalsMTapeEvals2_9 (.li 0) (.ai 9 0 (.ci (.ib .quo .i64 (.at 1 4) (.li 4)) (.ci (.li 6) .n0))))), (.ei .i64 (.ti tapeEvalsMTapeEvals2_9 (.li 0) (.ai 9 0 (.ci (.ib .quo .i64 (.at 1 4) (.li 40)) (.ci (.li 6) .n0))))), (.ef (.tf tapeEvalsMTapeEvals2_9 (.fb .quo (.i2f (.ib .sub .i64 (.ai 9 0 (.ci (.ib .quo .i64 (.at 1 4) (.li 11)) (.ci (.li 33) .n0))) (.li 16))) (.lf 4620693217682128896)) (.lf 0))), (.ei .i64 (.ti tapeEvalsMTapeEvals2_11 (.li 0) (.ti (.vb 2) (.ti (.ic .eql (.ai 9 0 (.ci (.at 1 5) (.ci (.li 7) .n0))) (.li 0)) (.li 5) tapeEvalsMTapeEvals2_12) tapeEvalsMTapeEvals2_12))), (.ei .i64 (.ti tapeEvalsMTapeEvals2_11 (.li 0) (.ai 9 0 (.ci (.ib .quo .i64 (.at 1 5) (.li 4)) (.ci (.li 7) .n0))))), (.ei .i64 (.ti tapeEvalsMTapeEvals2_11 (.li 0) (.ai 9 0 (.ci (.ib .quo .i64 (.at 1 5) (.li 40)) (.ci (.li 7) .n0))))), (.ef (.tf tapeEvalsMTapeEvals2_11 (.fb .quo (.i2f (.ib .sub .i64 (.ai 9 0 (.ci (.ib .quo .i64 (.at 1 5) (.li 11)) (.ci (.li 33) .n0))) (.li 16))) (.lf 4620693217682128896)) (.lf 0)))]
def tapeEvalsBTapeEvals2_1 : Blk := [(.ei .i64 (.ib .sub .i64 (.li 7) tapeEvalsMTapeEvals2_14))]
def tapeEvalsBTapeEvals2_2 : Blk := [(.ef tapeEvalsMTapeEvals2_15)]
def tapeEvalsBTapeEvals2_3 : Blk := [(.ef (.vf 160)), (.ef (.vf 161))]
def tapeEvalsBTapeEvals2_4 : Blk := [(.ef (.vf 379)), (.ef (.vf 380))]
def tapeEvalsBTapeEvals2_5 : Blk := [(.i .i64 1), (.i .i64 0), (.i .i64 0), (.f 0), (.i .i64 0), (.i .i64 0), (.i .i64 0), (.ef tapeEvalsMTapeEvals2_0), (.ei .i64 (.ti tapeEvalsMTapeEvals2_1 (.li 0) (.ti (.vb 2) (.ti (.ic .eql (.ai 9 0 (.ci (.at 1 0) (.ci (.li 7) .n0))) (.li 0)) (.li 5) tapeEvalsMTapeEvals2_2) tapeEvalsMTapeEvals2_2))), (.ei .i64 (.ti tapeEvalsMTapeEvals2_1 (.li 0) (.ai 9 0 (.ci (.ib .quo .i64 (.at 1 0) (.li 4)) (.ci (.li 2) .n0))))), (.ei .i64 (.ti tapeEvalsMTapeEvals2_1 (.li 0) (.ai 9 0 (.ci (.ib .quo .i64 (.at 1 0) (.li 40)) (.ci (.li 2) .n0))))), (.ef (.tf tapeEvalsMTapeEvals2_1 (.fb .quo (.i2f (.ib .sub .i64 (.ai 9 0 (.ci (.ib .quo .i64 (.at 1 0) (.li 11)) (.ci (.li 33) .n0))) (.li 16))) (.lf 4620693217682128896)) (.lf 0))), (.ei .i64 (.ti tapeEvalsMTapeEvals2_3 (.li 0) (.ti (.vb 2) (.ti (.ic .eql (.ai 9 0 (.ci (.at 1 1) (.ci (.li 7) .n0))) (.li 0)) (.li 5) tapeEvalsMTapeEvals2_4) tapeEvalsMTapeEvals2_4))), (.ei .i64 (.ti tapeEvalsMTapeEvals2_3 (.li 0) (.ai 9 0 (.ci (.ib .quo .i64 (.at 1 1) (.li 4)) (.ci (.li 3) .n0))))), (.ei .i64 (.ti tapeEvalsMTapeEvals2_3 (.li 0) (.ai 9 0 (.ci (.ib .quo .i64 (.at 1 1) (.li 40)) (.ci (.li 3) .n0))))), (.ef (.tf tapeEvalsMTapeEvals2_3 (.fb .quo (.i2f (.ib .sub .i64 (.ai 9 0 (.ci (.ib .quo .i64 (.at 1 1) (.li 11)) (.ci (.li 33) .n0))) (.li 16))) (.lf 4620693217682128896)) (.lf 0))), (.ei .i64 (.ti tapeEvalsMTapeEvals2_5 (.li 0) (.ti (.vb 2) (.ti (.ic .eql (.ai 9 0 (.ci (.at 1 2) (.ci (.li 7) .n0))) (.li 0)) (.li 5) tapeEvalsMTapeEvals2_6) tapeEvalsMTapeEvals2_6))), (.ei .i64 (.ti tapeEvalsMTapeEvals2_5 (.li 0) (.ai 9 0 (.ci (.ib .quo .i64 (.at 1 2) (.li 4)) (.ci (.li 4) .n0))))), (.ei .i64 (.ti tapeEvalsMTapeEvals2_5 (.li 0) (.ai 9 0 (.ci (.ib .quo .i64 (.at 1 2) (.li 40)) (.ci (.li 4) .n0))))), (.ef (.tf tapeEvalsMTapeEvals2_5 (.fb .quo (.i2f (.ib .sub .i64 (.ai 9 0 (.ci (.ib .quo .i64 (.at 1 2) (.li 11)) (.ci (.li 33) .n0))) (.li 16))) (.lf 4620693217682128896)) (.lf 0)))]
def tapeEvalsBTapeEvals2_6 : Blk := [(.ei .i64 (.ib .sub .i64 (.li 4) tapeEvalsMTapeEvals2_14))]
def tapeEvalsBTapeEvals2_7 : Blk := [(.ef (.vf 391)), (.ef (.vf 392))]
def tapeEvalsBTapeEvals2_8 : Blk := [(.i .i64 1), (.i .i64 0), (.i .i64 0), (.f 0), (.i .i64 0), (.i .i64 0), (.i .i64 0), (.ef tapeEvalsMTapeEvals2_0)]
def tapeEvalsBTapeEvals2_9 : Blk := [(.ei .i64 tapeEvalsMTapeEvals2_16)]
def tapeEvalsBTapeEvals2_10 : Blk := [(.ef (.tf (.ic .eql tapeEvalsMTapeEvals2_16 (.li 0)) tapeEvalsMTapeEvals2_15 tapeEvalsMTapeEvals2_0))]
def tapeEvalsBTapeEvals2_11 : Blk := [(.ef (.vf 402)), (.ef (.vf 403))]
def tapeEvals_0_6_m0 : Memo :=  (⟨[(.ag [(.i .i64 1), (.sl 33 0 8 (.u 4)), (.sl 35 0 1 (.u 1))]), (.c (.sl 38 0 1 (.u 1)))], [(33, tapeEvalsBTapeEvals2_0), (35, tapeEvalsBTapeEvals2_1), (38, tapeEvalsBTapeEvals2_2)], 39, (.c (.sl 79 0 1 (.n 1))), [(33, tapeEvalsBTapeEvals2_0), (35, tapeEvalsBTapeEvals2_1), (38, tapeEvalsBTapeEvals2_2), (79, [(.ef (.vf 377))])], 80⟩) 
set_option maxRecDepth 1000000 in
set_option maxHeartbeats 100000000 in
theorem tapeEvals_0_6_o0 : memoOK tapeEvals_0_6_m0 (memRun [(0, 3, 0)] (lenL 1 6 8 ++ []) tapeEvalsNms0 21 tapeEvals_0_6_m0.args (tOf tapeEvals_0_6_m0.hp) tapeEvals_0_6_m0.nx) = true := by kernel_rfl
def tapeEvals_0_6_m1 : Memo :=  (⟨[(.ag [(.i .i64 1), (.sl 33 0 8 (.u 4)), (.sl 35 0 1 (.u 1))]), (.c (.sl 38 0 1 (.u 1)))], [(33, tapeEvalsBTapeEvals2_0), (35, tapeEvalsBTapeEvals2_1), (38, tapeEvalsBTapeEvals2_2)], 80, (.c (.sl 91 0 1 (.u 1))), [(33, tapeEvalsBTapeEvals2_0), (35, tapeEvalsBTapeEvals2_1), (38, tapeEvalsBTapeEvals2_2), (91, [(.ef (.vf 377))])], 92⟩) 
set_option maxRecDepth 1000000 in
set_option maxHeartbeats 100000000 in
theorem tapeEvals_0_6_o1 : memoOK tapeEvals_0_6_m1 (memRun [(0, 3, 0)] (lenL 1 6 8 ++ []) tapeEvalsNms0 22 tapeEvals_0_6_m1.args (tOf tapeEvals_0_6_m1.hp) tapeEvals_0_6_m1.nx) = true := by kernel_rfl
def tapeEvals_0_6_m2 : Memo :=  (⟨[(.ag [(.i .i64 1), (.sl 33 0 8 (.u 4)), (.sl 35 0 1 (.u 1))]), (.c (.sl 38 0 1 (.u 1)))], [(33, tapeEvalsBTapeEvals2_0), (35, tapeEvalsBTapeEvals2_1), (38, [(.ef (.vf 159))])], 94, (.c (.sl 134 0 1 (.n 1))), [(33, tapeEvalsBTapeEvals2_0), (35, tapeEvalsBTapeEvals2_1), (38, [(.ef (.vf 159))]), (134, [(.ef (.vf 378))])], 135⟩) 
set_option maxRecDepth 1000000 in
set_option maxHeartbeats 100000000 in
theorem tapeEvals_0_6_o2 : memoOK tapeEvals_0_6_m2 (memRun [(0, 3, 0)] (lenL 1 6 8 ++ []) tapeEvalsNms0 21 tapeEvals_0_6_m2.args (tOf tapeEvals_0_6_m2.hp) tapeEvals_0_6_m2.nx) = true := by kernel_rfl
def tapeEvals_0_6_m3 : Memo :=  (⟨[(.ag [(.i .i64 1), (.sl 33 0 8 (.u 4)), (.sl 35 0 1 (.u 1))]), (.c (.sl 38 0 1 (.u 1)))], [(33, tapeEvalsBTapeEvals2_0), (35, tapeEvalsBTapeEvals2_1), (38, [(.ef (.vf 159))])], 135, (.c (.sl 146 0 1 (.u 1))), [(33, tapeEvalsBTapeEvals2_0), (35, tapeEvalsBTapeEvals2_1), (38, [(.ef (.vf 159))]), (146, [(.ef (.vf 378))])], 147⟩) 
set_option maxRecDepth 1000000 in
set_option maxHeartbeats 100000000 in
theorem tapeEvals_0_6_o3 : memoOK tapeEvals_0_6_m3 (memRun [(0, 3, 0)] (lenL 1 6 8 ++ []) tapeEvalsNms0 22 tapeEvals_0_6_m3.args (tOf tapeEvals_0_6_m3.hp) tapeEvals_0_6_m3.nx) = true := by kernel_rfl
def tapeEvals_0_6_m4 : Memo :=  (⟨[(.ag [(.i .i64 1), (.sl 33 0 8 (.u 4)), (.sl 35 0 1 (.u 1))]), (.c (.sl 93 0 1 (.u 2)))], [(33, tapeEvalsBTapeEvals2_0), (35, tapeEvalsBTapeEvals2_1), (93, tapeEvalsBTapeEvals2_3)], 147, (.c (.sl 202 0 1 (.n 1))), [(33, tapeEvalsBTapeEvals2_0), (35, tapeEvalsBTapeEvals2_1), (93, tapeEvalsBTapeEvals2_3), (202, tapeEvalsBTapeEvals2_4)], 203⟩) 
set_option maxRecDepth 1000000 in
set_option maxHeartbeats 100000000 in
theorem tapeEvals_0_6_o4 : memoOK tapeEvals_0_6_m4 (memRun [(0, 3, 0)] (lenL 1 6 8 ++ []) tapeEvalsNms0 25 tapeEvals_0_6_m4.args (tOf tapeEvals_0_6_m4.hp) tapeEvals_0_6_m4.nx) = true := by kernel_rfl
def tapeEvals_0_6_m5 : Memo :=  (⟨[(.ag [(.i .i64 1), (.sl 33 0 8 (.u 4)), (.sl 35 0 1 (.u 1))]), (.c (.sl 93 0 1 (.u 2)))], [(33, tapeEvalsBTapeEvals2_0), (35, tapeEvalsBTapeEvals2_1), (93, tapeEvalsBTapeEvals2_3)], 203, (.c (.sl 233 0 1 (.u 2))), [(33, tapeEvalsBTapeEvals2_0), (35, tapeEvalsBTapeEvals2_1), (93, tapeEvalsBTapeEvals2_3), (233, tapeEvalsBTapeEvals2_4)], 234⟩) 
set_option maxRecDepth 1000000 in
set_option maxHeartbeats 100000000 in
theorem tapeEvals_0_6_o5 : memoOK tapeEvals_0_6_m5 (memRun [(0, 3, 0)] (lenL 1 6 8 ++ []) tapeEvalsNms0 26 tapeEvals_0_6_m5.args (tOf tapeEvals_0_6_m5.hp) tapeEvals_0_6_m5.nx) = true := by kernel_rfl
def tapeEvals_0_6_ms : List (Nat × List Memo) := [(21, [tapeEvals_0_6_m0, tapeEvals_0_6_m2]), (22, [tapeEvals_0_6_m1, tapeEvals_0_6_m3]), (25, [tapeEvals_0_6_m4]), (26, [tapeEvals_0_6_m5])]
theorem tapeEvals_0_6_mo : AllMem (memRun [(0, 3, 0)] (lenL 1 6 8 ++ []) tapeEvalsNms0) tapeEvals_0_6_ms := ⟨⟨tapeEvals_0_6_o0, tapeEvals_0_6_o2, trivial⟩, ⟨tapeEvals_0_6_o1, tapeEvals_0_6_o3, trivial⟩, ⟨tapeEvals_0_6_o4, trivial⟩, ⟨tapeEvals_0_6_o5, trivial⟩, trivial⟩
set_option maxRecDepth 1000000 in
set_option maxHeartbeats 100000000 in
theorem tapeEvals_0_6 : lawRunM 4 10 200 [.i, .q, .b, .q, .q, .i, .i] [(0, 3, 0)] (lenL 1 6 8 ++ []) tapeEvalsNms0 tapeEvals_0_6_ms = true := by kernel_rfl
def tapeEvals_0_3_m0 : Memo :=  (⟨[(.ag [(.i .i64 1), (.sl 24 0 5 (.u 4)), (.sl 26 0 1 (.u 1))]), (.c (.sl 29 0 1 (.u 1)))], [(24, tapeEvalsBTapeEvals2_5), (26, tapeEvalsBTapeEvals2_6), (29, tapeEvalsBTapeEvals2_2)], 30, (.c (.sl 58 0 1 (.n 1))), [(24, tapeEvalsBTapeEvals2_5), (26, tapeEvalsBTapeEvals2_6), (29, tapeEvalsBTapeEvals2_2), (58, [(.ef (.vf 389))])], 59⟩) 
set_option maxRecDepth 1000000 in
set_option maxHeartbeats 100000000 in
theorem tapeEvals_0_3_o0 : memoOK tapeEvals_0_3_m0 (memRun [(0, 3, 0)] (lenL 1 3 8 ++ []) tapeEvalsNms0 21 tapeEvals_0_3_m0.args (tOf tapeEvals_0_3_m0.hp) tapeEvals_0_3_m0.nx) = true := by kernel_rfl
def tapeEvals_0_3_m1 : Memo :=  (⟨[(.ag [(.i .i64 1), (.sl 24 0 5 (.u 4)), (.sl 26 0 1 (.u 1))]), (.c (.sl 29 0 1 (.u 1)))], [(24, tapeEvalsBTapeEvals2_5), (26, tapeEvalsBTapeEvals2_6), (29, tapeEvalsBTapeEvals2_2)], 59, (.c (.sl 67 0 1 (.u 1))), [(24, tapeEvalsBTapeEvals2_5), (26, tapeEvalsBTapeEvals2_6), (29, tapeEvalsBTapeEvals2_2), (67, [(.ef (.vf 389))])], 68⟩) 
set_option maxRecDepth 1000000 in
set_option maxHeartbeats 100000000 in
theorem tapeEvals_0_3_o1 : memoOK tapeEvals_0_3_m1 (memRun [(0, 3, 0)] (lenL 1 3 8 ++ []) tapeEvalsNms0 22 tapeEvals_0_3_m1.args (tOf tapeEvals_0_3_m1.hp) tapeEvals_0_3_m1.nx) = true := by kernel_rfl
def tapeEvals_0_3_m2 : Memo :=  (⟨[(.ag [(.i .i64 1), (.sl 24 0 5 (.u 4)), (.sl 26 0 1 (.u 1))]), (.c (.sl 29 0 1 (.u 1)))], [(24, tapeEvalsBTapeEvals2_5), (26, tapeEvalsBTapeEvals2_6), (29, [(.ef (.vf 159))])], 70, (.c (.sl 98 0 1 (.n 1))), [(24, tapeEvalsBTapeEvals2_5), (26, tapeEvalsBTapeEvals2_6), (29, [(.ef (.vf 159))]), (98, [(.ef (.vf 390))])], 99⟩) 
set_option maxRecDepth 1000000 in
set_option maxHeartbeats 100000000 in
theorem tapeEvals_0_3_o2 : memoOK tapeEvals_0_3_m2 (memRun [(0, 3, 0)] (lenL 1 3 8 ++ []) tapeEvalsNms0 21 tapeEvals_0_3_m2.args (tOf tapeEvals_0_3_m2.hp) tapeEvals_0_3_m2.nx) = true := by kernel_rfl
def tapeEvals_0_3_m3 : Memo :=  (⟨[(.ag [(.i .i64 1), (.sl 24 0 5 (.u 4)), (.sl 26 0 1 (.u 1))]), (.c (.sl 29 0 1 (.u 1)))], [(24, tapeEvalsBTapeEvals2_5), (26, tapeEvalsBTapeEvals2_6), (29, [(.ef (.vf 159))])], 99, (.c (.sl 107 0 1 (.u 1))), [(24, tapeEvalsBTapeEvals2_5), (26, tapeEvalsBTapeEvals2_6), (29, [(.ef (.vf 159))]), (107, [(.ef (.vf 390))])], 108⟩) 
set_option maxRecDepth 1000000 in
set_option maxHeartbeats 100000000 in
theorem tapeEvals_0_3_o3 : memoOK tapeEvals_0_3_m3 (memRun [(0, 3, 0)] (lenL 1 3 8 ++ []) tapeEvalsNms0 22 tapeEvals_0_3_m3.args (tOf tapeEvals_0_3_m3.hp) tapeEvals_0_3_m3.nx) = true := by kernel_rfl
def tapeEvals_0_3_m4 : Memo :=  (⟨[(.ag [(.i .i64 1), (.sl 24 0 5 (.u 4)), (.sl 26 0 1 (.u 1))]), (.c (.sl 69 0 1 (.u 2)))], [(24, tapeEvalsBTapeEvals2_5), (26, tapeEvalsBTapeEvals2_6), (69, tapeEvalsBTapeEvals2_3)], 108, (.c (.sl 145 0 1 (.n 1))), [(24, tapeEvalsBTapeEvals2_5), (26, tapeEvalsBTapeEvals2_6), (69, tapeEvalsBTapeEvals2_3), (145, tapeEvalsBTapeEvals2_7)], 146⟩) 
set_option maxRecDepth 1000000 in
set_option maxHeartbeats 100000000 in
theorem tapeEvals_0_3_o4 : memoOK tapeEvals_0_3_m4 (memRun [(0, 3, 0)] (lenL 1 3 8 ++ []) tapeEvalsNms0 25 tapeEvals_0_3_m4.args (tOf tapeEvals_0_3_m4.hp) tapeEvals_0_3_m4.nx) = true := by kernel_rfl
def tapeEvals_0_3_m5 : Memo :=  (⟨[(.ag [(.i .i64 1), (.sl 24 0 5 (.u 4)), (.sl 26 0 1 (.u 1))]), (.c (.sl 69 0 1 (.u 2)))], [(24, tapeEvalsBTapeEvals2_5), (26, tapeEvalsBTapeEvals2_6), (69, tapeEvalsBTapeEvals2_3)], 146, (.c (.sl 164 0 1 (.u 2))), [(24, tapeEvalsBTapeEvals2_5), (26, tapeEvalsBTapeEvals2_6), (69, tapeEvalsBTapeEvals2_3), (164, tapeEvalsBTapeEvals2_7)], 165⟩) 
set_option maxRecDepth 1000000 in
set_option maxHeartbeats 100000000 in
theorem tapeEvals_0_3_o5 : memoOK tapeEvals_0_3_m5 (memRun [(0, 3, 0)] (lenL 1 3 8 ++ []) tapeEvalsNms0 26 tapeEvals_0_3_m5.args (tOf tapeEvals_0_3_m5.hp) tapeEvals_0_3_m5.nx) = true := by kernel_rfl
def tapeEvals_0_3_ms : List (Nat × List Memo) := [(21, [tapeEvals_0_3_m0, tapeEvals_0_3_m2]), (22, [tapeEvals_0_3_m1, tapeEvals_0_3_m3]), (25, [tapeEvals_0_3_m4]), (26, [tapeEvals_0_3_m5])]
theorem tapeEvals_0_3_mo : AllMem (memRun [(0, 3, 0)] (lenL 1 3 8 ++ []) tapeEvalsNms0) tapeEvals_0_3_ms := ⟨⟨tapeEvals_0_3_o0, tapeEvals_0_3_o2, trivial⟩, ⟨tapeEvals_0_3_o1, tapeEvals_0_3_o3, trivial⟩, ⟨tapeEvals_0_3_o4, trivial⟩, ⟨tapeEvals_0_3_o5, trivial⟩, trivial⟩
set_option maxRecDepth 1000000 in
set_option maxHeartbeats 100000000 in
theorem tapeEvals_0_3 : lawRunM 4 10 200 [.i, .q, .b, .q, .q, .i, .i] [(0, 3, 0)] (lenL 1 3 8 ++ []) tapeEvalsNms0 tapeEvals_0_3_ms = true := by kernel_rfl
def tapeEvals_0_0_m0 : Memo :=  (⟨[(.ag [(.i .i64 1), (.sl 15 0 2 (.u 4)), (.sl 17 0 1 (.u 1))]), (.c (.sl 20 0 1 (.u 1)))], [(15, tapeEvalsBTapeEvals2_8), (17, tapeEvalsBTapeEvals2_9), (20, tapeEvalsBTapeEvals2_2)], 21, (.c (.sl 37 0 1 (.n 1))), [(15, tapeEvalsBTapeEvals2_8), (17, tapeEvalsBTapeEvals2_9), (20, tapeEvalsBTapeEvals2_2), (37, tapeEvalsBTapeEvals2_10)], 38⟩) 
set_option maxRecDepth 1000000 in
set_option maxHeartbeats 100000000 in
theorem tapeEvals_0_0_o0 : memoOK tapeEvals_0_0_m0 (memRun [(0, 3, 0)] (lenL 1 0 8 ++ []) tapeEvalsNms0 21 tapeEvals_0_0_m0.args (tOf tapeEvals_0_0_m0.hp) tapeEvals_0_0_m0.nx) = true := by kernel_rfl
def tapeEvals_0_0_m1 : Memo :=  (⟨[(.ag [(.i .i64 1), (.sl 15 0 2 (.u 4)), (.sl 17 0 1 (.u 1))]), (.c (.sl 20 0 1 (.u 1)))], [(15, tapeEvalsBTapeEvals2_8), (17, tapeEvalsBTapeEvals2_9), (20, tapeEvalsBTapeEvals2_2)], 38, (.c (.sl 43 0 1 (.u 1))), [(15, tapeEvalsBTapeEvals2_8), (17, tapeEvalsBTapeEvals2_9), (20, tapeEvalsBTapeEvals2_2), (43, tapeEvalsBTapeEvals2_10)], 44⟩) 
set_option maxRecDepth 1000000 in
set_option maxHeartbeats 100000000 in
theorem tapeEvals_0_0_o1 : memoOK tapeEvals_0_0_m1 (memRun [(0, 3, 0)] (lenL 1 0 8 ++ []) tapeEvalsNms0 22 tapeEvals_0_0_m1.args (tOf tapeEvals_0_0_m1.hp) tapeEvals_0_0_m1.nx) = true := by kernel_rfl
def tapeEvals_0_0_m2 : Memo :=  (⟨[(.ag [(.i .i64 1), (.sl 15 0 2 (.u 4)), (.sl 17 0 1 (.u 1))]), (.c (.sl 20 0 1 (.u 1)))], [(15, tapeEvalsBTapeEvals2_8), (17, tapeEvalsBTapeEvals2_9), (20, [(.ef (.vf 159))])], 46, (.c (.sl 62 0 1 (.n 1))), [(15, tapeEvalsBTapeEvals2_8), (17, tapeEvalsBTapeEvals2_9), (20, [(.ef (.vf 159))]), (62, [(.ef (.vf 401))])], 63⟩) 
set_option maxRecDepth 1000000 in
set_option maxHeartbeats 100000000 in
theorem tapeEvals_0_0_o2 : memoOK tapeEvals_0_0_m2 (memRun [(0, 3, 0)] (lenL 1 0 8 ++ []) tapeEvalsNms0 21 tapeEvals_0_0_m2.args (tOf tapeEvals_0_0_m2.hp) tapeEvals_0_0_m2.nx) = true := by kernel_rfl
def tapeEvals_0_0_m3 : Memo :=  (⟨[(.ag [(.i .i64 1), (.sl 15 0 2 (.u 4)), (.sl 17 0 1 (.u 1))]), (.c (.sl 20 0 1 (.u 1)))], [(15, tapeEvalsBTapeEvals2_8), (17, tapeEvalsBTapeEvals2_9), (20, [(.ef (.vf 159))])], 63, (.c (.sl 68 0 1 (.u 1))), [(15, tapeEvalsBTapeEvals2_8), (17, tapeEvalsBTapeEvals2_9), (20, [(.ef (.vf 159))]), (68, [(.ef (.vf 401))])], 69⟩) 
set_option maxRecDepth 1000000 in
set_option maxHeartbeats 100000000 in
theorem tapeEvals_0_0_o3 : memoOK tapeEvals_0_0_m3 (memRun [(0, 3, 0)] (lenL 1 0 8 ++ []) tapeEvalsNms0 22 tapeEvals_0_0_m3.args (tOf tapeEvals_0_0_m3.hp) tapeEvals_0_0_m3.nx) = true := by kernel_rfl
def tapeEvals_0_0_m4 : Memo :=  (⟨[(.ag [(.i .i64 1), (.sl 15 0 2 (.u 4)), (.sl 17 0 1 (.u 1))]), (.c (.sl 45 0 1 (.u 2)))], [(15, tapeEvalsBTapeEvals2_8), (17, tapeEvalsBTapeEvals2_9), (45, tapeEvalsBTapeEvals2_3)], 69, (.c (.sl 88 0 1 (.n 1))), [(15, tapeEvalsBTapeEvals2_8), (17, tapeEvalsBTapeEvals2_9), (45, tapeEvalsBTapeEvals2_3), (88, tapeEvalsBTapeEvals2_11)], 89⟩) 
set_option maxRecDepth 1000000 in
set_option maxHeartbeats 100000000 in
theorem tapeEvals_0_0_o4 : memoOK tapeEvals_0_0_m4 (memRun [(0, 3, 0)] (lenL 1 0 8 ++ []) tapeEvalsNms0 25 tapeEvals_0_0_m4.args (tOf tapeEvals_0_0_m4.hp) tapeEvals_0_0_m4.nx) = true := by kernel_rfl
def tapeEvals_0_0_m5 : Memo :=  (⟨[(.ag [(.i .i64 1), (.sl 15 0 2 (.u 4)), (.sl 17 0 1 (.u 1))]), (.c (.sl 45 0 1 (.u 2)))], [(15, tapeEvalsBTapeEvals2_8), (17, tapeEvalsBTapeEvals2_9), (45, tapeEvalsBTapeEvals2_3)], 89, (.c (.sl 95 0 1 (.u 2))), [(15, tapeEvalsBTapeEvals2_8), (17, tapeEvalsBTapeEvals2_9), (45, tapeEvalsBTapeEvals2_3), (95, tapeEvalsBTapeEvals2_11)], 96⟩) 
set_option maxRecDepth 1000000 in
set_option maxHeartbeats 100000000 in
theorem tapeEvals_0_0_o5 : memoOK tapeEvals_0_0_m5 (memRun [(0, 3, 0)] (lenL 1 0 8 ++ []) tapeEvalsNms0 26 tapeEvals_0_0_m5.args (tOf tapeEvals_0_0_m5.hp) tapeEvals_0_0_m5.nx) = true := by kernel_rfl
def tapeEvals_0_0_ms : List (Nat × List Memo) := [(21, [tapeEvals_0_0_m0, tapeEvals_0_0_m2]), (22, [tapeEvals_0_0_m1, tapeEvals_0_0_m3]), (25, [tapeEvals_0_0_m4]), (26, [tapeEvals_0_0_m5])]
theorem tapeEvals_0_0_mo : AllMem (memRun [(0, 3, 0)] (lenL 1 0 8 ++ []) tapeEvalsNms0) tapeEvals_0_0_ms := ⟨⟨tapeEvals_0_0_o0, tapeEvals_0_0_o2, trivial⟩, ⟨tapeEvals_0_0_o1, tapeEvals_0_0_o3, trivial⟩, ⟨tapeEvals_0_0_o4, trivial⟩, ⟨tapeEvals_0_0_o5, trivial⟩, trivial⟩
set_option maxRecDepth 1000000 in
set_option maxHeartbeats 100000000 in
theorem tapeEvals_0_0 : lawRunM 4 10 200 [.i, .q, .b, .q, .q, .i, .i] [(0, 3, 0)] (lenL 1 0 8 ++ []) tapeEvalsNms0 tapeEvals_0_0_ms = true := by kernel_rfl
end Go.Proofs.Yticbgaflhiokgaa
