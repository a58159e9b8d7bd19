/-
  'TapeEvals': runs of it, part 5.
-/
import Derived.Test.YticbgaflhiokgaaTapeEvalst1
namespace Go.Proofs.Yticbgaflhiokgaa
open Go.RowKit Ex
def tapeEvalsMTapeEvals5_0 : E := (.ic .eql (.ai 9 0 (.ci (.at 1 0) (.ci (.li 11) .n0))) (.li 0))
def tapeEvalsMTapeEvals5_1 : E := (.ib .add .i64 (.li 2) (.ai 9 0 (.ci (.at 1 0) (.ci (.li 3) .n0))))
def tapeEvalsMTapeEvals5_2 : E := (.ic .eql (.ai 9 0 (.ci (.at 1 1) (.ci (.li 11) .n0))) (.li 0))
def tapeEvalsMTapeEvals5_3 : E := (.ib .add .i64 (.li 2) (.ai 9 0 (.ci (.at 1 1) (.ci (.li 3) .n0))))
def tapeEvalsMTapeEvals5_4 : E := (.ic .eql (.ai 9 0 (.ci (.at 1 2) (.ci (.li 11) .n0))) (.li 0))
def tapeEvalsMTapeEvals5_5 : E := (.ib .add .i64 (.li 2) (.ai 9 0 (.ci (.at 1 2) (.ci (.li 3) .n0))))
def tapeEvalsMTapeEvals5_6 : E := (.ic .eql (.ai 9 0 (.ci (.at 1 3) (.ci (.li 11) .n0))) (.li 0))
def tapeEvalsMTapeEvals5_7 : E := (.ib .add .i64 (.li 2) (.ai 9 0 (.ci (.at 1 3) (.ci (.li 3) .n0))))
def tapeEvalsMTapeEvals5_8 : E := (.ic .eql (.ai 9 0 (.ci (.at 1 4) (.ci (.li 11) .n0))) (.li 0))
def tapeEvalsMTapeEvals5_9 : E := (.ib .add .i64 (.li 2) (.ai 9 0 (.ci (.at 1 4) (.ci (.li 3) .n0))))
def tapeEvalsMTapeEvals5_10 : E := (.ic .eql (.ai 9 0 (.ci (.at 1 5) (.ci (.li 11) .n0))) (.li 0))
def tapeEvalsMTapeEvals5_11 : E := (.ib .add .i64 (.li 2) (.ai 9 0 (.ci (.at 1 5) (.ci (.li 3) .n0))))
def tapeEvalsMTapeEvals5_12 : E := (.ib .quo .i64 (.vi 0) (.li 3))
def tapeEvalsMTapeEvals5_13 : E := (.ai 9 0 (.ci (.ib .add .i64 tapeEvalsMTapeEvals5_12 (.li 0)) (.ci (.li 3) .n0)))
def tapeEvalsMTapeEvals5_14 : E := (.ai 9 0 (.ci (.ib .add .i64 tapeEvalsMTapeEvals5_12 (.li 1)) (.ci (.li 3) .n0)))
def tapeEvalsBTapeEvals5_0 : Blk := [(.i .i64 1), (.i .i64 0), (.i .i64 0), (.f 0), (.i .i64 1), (.i .i64 1), (.i .i64 0), (.f 0), (.i .i64 0), (.i .i64 0), (.i .i64 0), (.ef (.fb .quo (.i2f (.ib .sub .i64 (.ai 9 0 (.ci (.vi 0) (.ci (.li 17) .n0))) (.li 8))) (.lf 4616189618054758400))), (.ei .i64 (.ti tapeEvalsMTapeEvals5_0 (.li 0) (.ti (.vb 2) (.ti (.ic .eql (.ai 9 0 (.ci (.at 1 0) (.ci (.li 7) .n0))) (.li 0)) (.li 5) tapeEvalsMTapeEvals5_1) tapeEvalsMTapeEvals5_1))), (.ei .i64 (.ti tapeEvalsMTapeEvals5_0 (.li 0) (.ai 9 0 (.ci (.ib .quo .i64 (.at 1 0) (.li 4)) (.ci (.li 3) .n0))))), (.ei .i64 (.ti tapeEvalsMTapeEvals5_0 (.li 0) (.ai 9 0 (.ci (.ib .quo .i64 (.at 1 0) (.li 40)) (.ci (.li 3) .n0))))), (.ef (.tf tapeEvalsMTapeEvals5_0 (.fb .quo (.i2f (.ib .sub .i64 (.ai 9 0 (.ci (.ib .quo .i64 (.at 1 0) (.li 11)) (.ci (.li 33) .n0))) (.li 16))) (.lf 4620693217682128896)) (.lf 0))), (.ei .i64 (.ti tapeEvalsMTapeEvals5_2 (.li 0) (.ti (.vb 2) (.ti (.ic .eql (.ai 9 0 (.ci (.at 1 1) (.ci (.li 7) .n0))) (.li 0)) (.li 5) tapeEvalsMTapeEvals5_3) tapeEvalsMTapeEvals5_3))), (.ei .i64 (.ti tapeEvalsMTapeEvals5_2 (.li 0) (.ai 9 0 (.ci (.ib .quo .i64 (.at 1 1) (.li 4)) (.ci (.li 4) .n0))))), (.ei .i64 (.ti tapeEvalsMTapeEvals5_2 (.li 0) (.ai 9 0 (.ci (.ib .quo .i64 (.at 1 1) (.li 40)) (.ci (.li 4) .n0))))), (.ef (.tf tapeEvalsMTapeEvals5_2 (.fb .quo (.i2f (.ib .sub .i64 (.ai 9 0 (.ci (.ib .quo .i64 (.at 1 1) (.li 11)) (.ci (.li 33) .n0))) (.li 16))) (.lf 4620693217682128896)) (.lf 0))), (.ei .i64 (.ti tapeEvalsMTapeEvals5_4 (.li 0) (.ti (.vb 2) (.ti (.ic .eql (.ai 9 0 (.ci (.at 1 2) (.ci (.li 7) .n0))) (.li 0)) (.li 5) tapeEvalsMTapeEvals5_5) tapeEvalsMTapeEvals5_5))), (.ei .i64 (.ti tapeEvalsMTapeEvals5_4 (.li 0) (.ai 9 0 (.ci (.ib .quo .i64 (.at 1 2) (.li 4)) (.ci (.li 5) .n0))))), (.ei .i64 (.ti tapeEvalsMTapeEvals5_4 (.li 0) (.ai 9 0 (.ci (.ib .quo .i64 (.at 1 2) (.li 40)) (.ci (.li 5) .n0))))), (.ef (.tf tapeEvalsMTapeEvals5_4 (.fb .quo (.i2f (.ib .sub .i64 (.ai 9 0 (.ci (.ib .quo .i64 (.at 1 2) (.li 11)) (.ci (.li 33) .n0))) (.li 16))) (.lf 4620693217682128896)) (.lf 0))), (.ei .i64 (.ti tapeEvalsMTapeEvals5_6 (.li 0) (.ti (.vb 2) (.ti (.ic .eql (.ai 9 0 (.ci (.at 1 3) (.ci (.li 7) .n0))) (.li 0)) (.li 5) tapeEvalsMTapeEvals5_7) tapeEvalsMTapeEvals5_7))), (.ei .i64 (.ti tapeEvalsMTapeEvals5_6 (.li 0) (.ai 9 0 (.ci (.ib .quo .i64 (.at 1 3) (.li 4)) (.ci (.li 6) .n0))))), (.ei .i64 (.ti tapeEvalsMTapeEvals5_6 (.li 0) (.ai 9 0 (.ci (.ib .quo .i64 (.at 1 3) (.li 40)) (.ci (.li 6) .n0))))), (.ef (.tf tapeEvalsMTapeEvals5_6 (.fb .quo (.i2f (.ib .sub .i64 (.ai 9 0 (.ci (.ib .quo .i64 (.at 1 3) (.li 11)) (.ci (.li 33) .n0))) (.li 16))) (.lf 4620693217682128896)) (.lf 0))), (.ei .i64 (.ti tapeEvalsMTapeEvals5_8 (.li 0) (.ti (.vb 2) (.ti (.ic .eql (.ai 9 0 (.ci (.at 1 4) (.ci (.li 7) .n0))) (.li 0)) (.li 5) tapeEvalsMTapeEvals5_9) tapeEvalsMTapeEvals5_9))), (.ei .i64 (.ti tapeEvalsMTapeEvals5_8 (.li 0) (.ai 9 0 (.ci (.ib .quo .i64 (.at 1 4) (.li 4)) (.ci (.li 7) .n0))))), (.ei .i64 (.ti tapeEvalsMTapeEvals5_8 (.li 0) (.ai 9 0 (.ci (.ib .quo .i64 (.at 1 4) (.li 40)) (.ci (.li 7) .n0))))), (.ef (.tf tapeEvalsMTapeEvals5_8 (.fb .quo (.i2f (.ib .sub .i64 (.ai 9 0 (.ci (.ib .quo .i64 (.at 1 4) (.li 11)) (.ci (.li 33) .n0))) (.li 16))) (.lf 4620693217682128896)) (.lf 0))), (.ei .i64 (.ti tapeEvalsMTapeEvals5_10 (.li 0) (.ti (.vb 2) (.ti (.ic .eql (.ai 9 0 (.ci (.at 1 5) (.ci (.li 7) .n0))) (.li 0)) (.li 5) tapeEvalsMTapeEvals5_11) tapeEvalsMTapeEvals5_11))), (.ei .i64 (.ti tapeEvalsMTapeEvals5_10 (.li 0) (.ai 9 0 (.ci (.ib .quo .i64 (.at 1 5) (.li 4)) (.ci (.li 8) .n0))))), (.ei .i64 (.ti tapeEvalsMTapeEvals5_10 (.li 0) (.ai 9 0 (.ci (.ib .quo .i64 (.at 1 5) (.li 40)) (.ci (.li 8) .n0))))), (.ef (.tf tapeEvalsMTapeEvals5_10 (.fb .quo (.i2f (.ib .sub .i64 (.ai 9 0 (.ci (.ib .quo .i64 (.at 1 5) (.li 11)) (.ci (.li 33) .n0))) (.li 16))) (.lf 4620693217682128896)) (.lf 0)))]
def tapeEvalsBTapeEvals5_1 : Blk := [(.ei .i64 (.ib .sub .i64 (.li 8) tapeEvalsMTapeEvals5_13)), (.ei .i64 (.ib .sub .i64 (.li 8) tapeEvalsMTapeEvals5_14))]
def tapeEvalsBTapeEvals5_2 : Blk := [(.ef (.fb .quo (.i2f (.ib .sub .i64 (.ai 9 0 (.ci (.ti (.ic .lss (.li 0) (.vl 3)) (.at 3 0) (.li 0)) (.ci (.li 65) .n0))) (.li 32))) (.lf 4620693217682128896))), (.ef (.fb .quo (.i2f (.ib .sub .i64 (.ai 9 0 (.ci (.ti (.ic .lss (.li 1) (.vl 3)) (.at 3 1) (.li 1)) (.ci (.li 65) .n0))) (.li 32))) (.lf 4620693217682128896)))]
def tapeEvalsBTapeEvals5_3 : Blk := [(.ef (.vf 387)), (.ef (.vf 388))]
def tapeEvalsBTapeEvals5_4 : Blk := [(.ef (.vf 158)), (.ef (.vf 162))]
def tapeEvalsBTapeEvals5_5 : Blk := [(.ef (.vf 389)), (.ef (.vf 390))]
def tapeEvalsBTapeEvals5_6 : Blk := [(.ef (.vf 159)), (.ef (.vf 160)), (.ef (.vf 163)), (.ef (.vf 164))]
def tapeEvalsBTapeEvals5_7 : Blk := [(.ef (.vf 391)), (.ef (.vf 392)), (.ef (.vf 393)), (.ef (.vf 394))]
def tapeEvalsBTapeEvals5_8 : Blk := [(.i .i64 1), (.i .i64 0), (.i .i64 0), (.f 0), (.i .i64 1), (.i .i64 1), (.i .i64 0), (.f 0), (.i .i64 0), (.i .i64 0), (.i .i64 0), (.ef (.fb .quo (.i2f (.ib .sub .i64 (.ai 9 0 (.ci (.vi 0) (.ci (.li 17) .n0))) (.li 8))) (.lf 4616189618054758400))), (.ei .i64 (.ti tapeEvalsMTapeEvals5_0 (.li 0) (.ti (.vb 2) (.ti (.ic .eql (.ai 9 0 (.ci (.at 1 0) (.ci (.li 7) .n0))) (.li 0)) (.li 5) tapeEvalsMTapeEvals5_1) tapeEvalsMTapeEvals5_1))), (.ei .i64 (.ti tapeEvalsMTapeEvals5_0 (.li 0) (.ai 9 0 (.ci (.ib .quo .i64 (.at 1 0) (.li 4)) (.ci (.li 3) .n0))))), (.ei .i64 (.ti tapeEvalsMTapeEvals5_0 (.li 0) (.ai 9 0 (.ci (.ib .quo .i64 (.at 1 0) (.li 40)) (.ci (.li 3) .n0))))), (.ef (.tf tapeEvalsMTapeEvals5_0 (.fb .quo (.i2f (.ib .sub .i64 (.ai 9 0 (.ci (.ib .quo .i64 (.at 1 0) (.li 11)) (.ci (.li 33) .n0))) (.li 16))) (.lf 4620693217682128896)) (.lf 0))), (.ei .i64 (.ti tapeEvalsMTapeEvals5_2 (.li 0) (.ti (.vb 2) (.ti (.ic .eql (.ai 9 0 (.ci (.at 1 1) (.ci (.li 7) .n0))) (.li 0)) (.li 5) tapeEvalsMTapeEvals5_3) tapeEvalsMTapeEvals5_3))), (.ei .i64 (.ti tapeEvalsMTapeEvals5_2 (.li 0) (.ai 9 0 (.ci (.ib .quo .i64 (.at 1 1) (.li 4)) (.ci (.li 4) .n0))))), (.ei .i64 (.ti tapeEvalsMTapeEvals5_2 (.li 0) (.ai 9 0 (.ci (.ib .quo .i64 (.at 1 1) (.li 40)) (.ci (.li 4) .n0))))), (.ef (.tf tapeEvalsMTapeEvals5_2 (.fb .quo (.i2f (.ib .sub .i64 (.ai 9 0 (.ci (.ib .quo .i64 (.at 1 1) (.li 11)) (.ci (.li 33) .n0))) (.li 16))) (.lf 4620693217682128896)) (.lf 0))), (.ei .i64 (.ti tapeEvalsMTapeEvals5_4 (.li 0) (.ti (.vb 2) (.ti (.ic .eql (.ai 9 0 (.ci (.at 1 2) (.ci (.li 7) .n0))) (.li 0)) (.li 5) tapeEvalsMTapeEvals5_5) tapeEvalsMTapeEvals5_5))), (.ei .i64 (.ti tapeEvalsMTapeEvals5_4 (.li 0) (.ai 9 0 (.ci (.ib .quo .i64 (.at 1 2) (.li 4)) (.ci (.li 5) .n0))))), (.ei .i64 (.ti tapeEvalsMTapeEvals5_4 (.li 0) (.ai 9 0 (.ci (.ib .quo .i64 (.at 1 2) (.li 40)) (.ci (.li 5) .n0))))), (.ef (.tf tapeEvalsMTapeEvals5_4 (.fb .quo (.i2f (.ib .sub .i64 (.ai 9 0 (.ci (.ib .quo .i64 (.at 1 2) (.li 11)) (.ci (.li 33) .n0))) (.li 16))) (.lf 4620693217682128896)) (.lf 0)))]
def tapeEvalsBTapeEvals5_9 : Blk := [(.ei .i64 (.ib .sub .i64 (.li 5) tapeEvalsMTapeEvals5_13)), (.ei .i64 (.ib .sub .i64 (.li 5) tapeEvalsMTapeEvals5_14))]
def tapeEvalsBTapeEvals5_10 : Blk := [(.ef (.vf 411)), (.ef (.vf 412))]
def tapeEvalsBTapeEvals5_11 : Blk := [(.ef (.vf 413)), (.ef (.vf 414))]
def tapeEvalsBTapeEvals5_12 : Blk := [(.ef (.vf 415)), (.ef (.vf 416)), (.ef (.vf 417)), (.ef (.vf 418))]
def tapeEvalsBTapeEvals5_13 : Blk := [(.i .i64 1), (.i .i64 0), (.i .i64 0), (.f 0), (.i .i64 1), (.i .i64 1), (.i .i64 0), (.f 0), (.i .i64 0), (.i .i64 0), (.i .i64 0), (.ef (.fb .quo (.i2f (.ib .sub .i64 (.ai 9 0 (.ci (.vi 0) (.ci (.li 17) .n0))) (.li 8))) (.lf 4616189618054758400)))]
def tapeEvalsBTapeEvals5_14 : Blk := [(.ei .i64 (.ib .sub .i64 (.li 2) tapeEvalsMTapeEvals5_13)), (.ei .i64 (.ib .sub .i64 (.li 2) tapeEvalsMTapeEvals5_14))]
def tapeEvalsBTapeEvals5_15 : Blk := [(.ef (.vf 435)), (.ef (.vf 436))]
def tapeEvalsBTapeEvals5_16 : Blk := [(.ef (.vf 437)), (.ef (.vf 438))]
def tapeEvalsBTapeEvals5_17 : Blk := [(.ef (.vf 439)), (.ef (.vf 440)), (.ef (.vf 441)), (.ef (.vf 442))]
def tapeEvals_1_6_m0 : Memo :=  (⟨[(.ag [(.i .i64 2), (.sl 35 0 9 (.u 4)), (.sl 39 0 2 (.u 1))]), (.c (.sl 44 0 2 (.u 1)))], [(35, tapeEvalsBTapeEvals5_0), (39, tapeEvalsBTapeEvals5_1), (44, tapeEvalsBTapeEvals5_2)], 45, (.c (.sl 89 0 2 (.n 2))), [(35, tapeEvalsBTapeEvals5_0), (39, tapeEvalsBTapeEvals5_1), (44, tapeEvalsBTapeEvals5_2), (89, tapeEvalsBTapeEvals5_3)], 90⟩) 
set_option maxRecDepth 1000000 in
set_option maxHeartbeats 100000000 in
theorem tapeEvals_1_6_o0 : memoOK tapeEvals_1_6_m0 (memRun [(0, 3, 1)] (lenL 1 6 8 ++ []) tapeEvalsNms1 21 tapeEvals_1_6_m0.args (tOf tapeEvals_1_6_m0.hp) tapeEvals_1_6_m0.nx) = true := by kernel_rfl
def tapeEvals_1_6_m1 : Memo :=  (⟨[(.ag [(.i .i64 2), (.sl 35 0 9 (.u 4)), (.sl 39 0 2 (.u 1))]), (.c (.sl 44 0 2 (.u 1)))], [(35, tapeEvalsBTapeEvals5_0), (39, tapeEvalsBTapeEvals5_1), (44, tapeEvalsBTapeEvals5_2)], 90, (.c (.sl 104 0 2 (.u 1))), [(35, tapeEvalsBTapeEvals5_0), (39, tapeEvalsBTapeEvals5_1), (44, tapeEvalsBTapeEvals5_2), (104, tapeEvalsBTapeEvals5_3)], 105⟩) 
set_option maxRecDepth 1000000 in
set_option maxHeartbeats 100000000 in
theorem tapeEvals_1_6_o1 : memoOK tapeEvals_1_6_m1 (memRun [(0, 3, 1)] (lenL 1 6 8 ++ []) tapeEvalsNms1 22 tapeEvals_1_6_m1.args (tOf tapeEvals_1_6_m1.hp) tapeEvals_1_6_m1.nx) = true := by kernel_rfl
def tapeEvals_1_6_m2 : Memo :=  (⟨[(.ag [(.i .i64 2), (.sl 35 0 9 (.u 4)), (.sl 39 0 2 (.u 1))]), (.c (.sl 44 0 2 (.u 1)))], [(35, tapeEvalsBTapeEvals5_0), (39, tapeEvalsBTapeEvals5_1), (44, tapeEvalsBTapeEvals5_4)], 109, (.c (.sl 153 0 2 (.n 2))), [(35, tapeEvalsBTapeEvals5_0), (39, tapeEvalsBTapeEvals5_1), (44, tapeEvalsBTapeEvals5_4), (153, tapeEvalsBTapeEvals5_5)], 154⟩) 
set_option maxRecDepth 1000000 in
set_option maxHeartbeats 100000000 in
theorem tapeEvals_1_6_o2 : memoOK tapeEvals_1_6_m2 (memRun [(0, 3, 1)] (lenL 1 6 8 ++ []) tapeEvalsNms1 21 tapeEvals_1_6_m2.args (tOf tapeEvals_1_6_m2.hp) tapeEvals_1_6_m2.nx) = true := by kernel_rfl
def tapeEvals_1_6_m3 : Memo :=  (⟨[(.ag [(.i .i64 2), (.sl 35 0 9 (.u 4)), (.sl 39 0 2 (.u 1))]), (.c (.sl 44 0 2 (.u 1)))], [(35, tapeEvalsBTapeEvals5_0), (39, tapeEvalsBTapeEvals5_1), (44, tapeEvalsBTapeEvals5_4)], 154, (.c (.sl 168 0 2 (.u 1))), [(35, tapeEvalsBTapeEvals5_0), (39, tapeEvalsBTapeEvals5_1), (44, tapeEvalsBTapeEvals5_4), (168, tapeEvalsBTapeEvals5_5)], 169⟩) 
set_option maxRecDepth 1000000 in
set_option maxHeartbeats 100000000 in
theorem tapeEvals_1_6_o3 : memoOK tapeEvals_1_6_m3 (memRun [(0, 3, 1)] (lenL 1 6 8 ++ []) tapeEvalsNms1 22 tapeEvals_1_6_m3.args (tOf tapeEvals_1_6_m3.hp) tapeEvals_1_6_m3.nx) = true := by kernel_rfl
def tapeEvals_1_6_m4 : Memo :=  (⟨[(.ag [(.i .i64 2), (.sl 35 0 9 (.u 4)), (.sl 39 0 2 (.u 1))]), (.c (.sl 108 0 2 (.u 2)))], [(35, tapeEvalsBTapeEvals5_0), (39, tapeEvalsBTapeEvals5_1), (108, tapeEvalsBTapeEvals5_6)], 169, (.c (.sl 229 0 2 (.n 2))), [(35, tapeEvalsBTapeEvals5_0), (39, tapeEvalsBTapeEvals5_1), (108, tapeEvalsBTapeEvals5_6), (229, tapeEvalsBTapeEvals5_7)], 230⟩) 
set_option maxRecDepth 1000000 in
set_option maxHeartbeats 100000000 in
theorem tapeEvals_1_6_o4 : memoOK tapeEvals_1_6_m4 (memRun [(0, 3, 1)] (lenL 1 6 8 ++ []) tapeEvalsNms1 25 tapeEvals_1_6_m4.args (tOf tapeEvals_1_6_m4.hp) tapeEvals_1_6_m4.nx) = true := by kernel_rfl
def tapeEvals_1_6_m5 : Memo :=  (⟨[(.ag [(.i .i64 2), (.sl 35 0 9 (.u 4)), (.sl 39 0 2 (.u 1))]), (.c (.sl 108 0 2 (.u 2)))], [(35, tapeEvalsBTapeEvals5_0), (39, tapeEvalsBTapeEvals5_1), (108, tapeEvalsBTapeEvals5_6)], 230, (.c (.sl 263 0 2 (.u 2))), [(35, tapeEvalsBTapeEvals5_0), (39, tapeEvalsBTapeEvals5_1), (108, tapeEvalsBTapeEvals5_6), (263, tapeEvalsBTapeEvals5_7)], 264⟩) 
set_option maxRecDepth 1000000 in
set_option maxHeartbeats 100000000 in
theorem tapeEvals_1_6_o5 : memoOK tapeEvals_1_6_m5 (memRun [(0, 3, 1)] (lenL 1 6 8 ++ []) tapeEvalsNms1 26 tapeEvals_1_6_m5.args (tOf tapeEvals_1_6_m5.hp) tapeEvals_1_6_m5.nx) = true := by kernel_rfl
def tapeEvals_1_6_ms : List (Nat × List Memo) := [(21, [tapeEvals_1_6_m0, tapeEvals_1_6_m2]), (22, [tapeEvals_1_6_m1, tapeEvals_1_6_m3]), (25, [tapeEvals_1_6_m4]), (26, [tapeEvals_1_6_m5])]
theorem tapeEvals_1_6_mo : AllMem (memRun [(0, 3, 1)] (lenL 1 6 8 ++ []) tapeEvalsNms1) tapeEvals_1_6_ms := ⟨⟨tapeEvals_1_6_o0, tapeEvals_1_6_o2, trivial⟩, ⟨tapeEvals_1_6_o1, tapeEvals_1_6_o3, trivial⟩, ⟨tapeEvals_1_6_o4, trivial⟩, ⟨tapeEvals_1_6_o5, trivial⟩, trivial⟩
set_option maxRecDepth 1000000 in
set_option maxHeartbeats 100000000 in
theorem tapeEvals_1_6 : lawRunM 4 10 200 [.i, .q, .b, .q, .q, .i, .i] [(0, 3, 1)] (lenL 1 6 8 ++ []) tapeEvalsNms1 tapeEvals_1_6_ms = true := by kernel_rfl
def tapeEvals_1_3_m0 : Memo :=  (⟨[(.ag [(.i .i64 2), (.sl 26 0 6 (.u 4)), (.sl 30 0 2 (.u 1))]), (.c (.sl 35 0 2 (.u 1)))], [(26, tapeEvalsBTapeEvals5_8), (30, tapeEvalsBTapeEvals5_9), (35, tapeEvalsBTapeEvals5_2)], 36, (.c (.sl 68 0 2 (.n 2))), [(26, tapeEvalsBTapeEvals5_8), (30, tapeEvalsBTapeEvals5_9), (35, tapeEvalsBTapeEvals5_2), (68, tapeEvalsBTapeEvals5_10)], 69⟩) 
set_option maxRecDepth 1000000 in
set_option maxHeartbeats 100000000 in
theorem tapeEvals_1_3_o0 : memoOK tapeEvals_1_3_m0 (memRun [(0, 3, 1)] (lenL 1 3 8 ++ []) tapeEvalsNms1 21 tapeEvals_1_3_m0.args (tOf tapeEvals_1_3_m0.hp) tapeEvals_1_3_m0.nx) = true := by kernel_rfl
def tapeEvals_1_3_m1 : Memo :=  (⟨[(.ag [(.i .i64 2), (.sl 26 0 6 (.u 4)), (.sl 30 0 2 (.u 1))]), (.c (.sl 35 0 2 (.u 1)))], [(26, tapeEvalsBTapeEvals5_8), (30, tapeEvalsBTapeEvals5_9), (35, tapeEvalsBTapeEvals5_2)], 69, (.c (.sl 80 0 2 (.u 1))), [(26, tapeEvalsBTapeEvals5_8), (30, tapeEvalsBTapeEvals5_9), (35, tapeEvalsBTapeEvals5_2), (80, tapeEvalsBTapeEvals5_10)], 81⟩) 
set_option maxRecDepth 1000000 in
set_option maxHeartbeats 100000000 in
theorem tapeEvals_1_3_o1 : memoOK tapeEvals_1_3_m1 (memRun [(0, 3, 1)] (lenL 1 3 8 ++ []) tapeEvalsNms1 22 tapeEvals_1_3_m1.args (tOf tapeEvals_1_3_m1.hp) tapeEvals_1_3_m1.nx) = true := by kernel_rfl
def tapeEvals_1_3_m2 : Memo :=  (⟨[(.ag [(.i .i64 2), (.sl 26 0 6 (.u 4)), (.sl 30 0 2 (.u 1))]), (.c (.sl 35 0 2 (.u 1)))], [(26, tapeEvalsBTapeEvals5_8), (30, tapeEvalsBTapeEvals5_9), (35, tapeEvalsBTapeEvals5_4)], 85, (.c (.sl 117 0 2 (.n 2))), [(26, tapeEvalsBTapeEvals5_8), (30, tapeEvalsBTapeEvals5_9), (35, tapeEvalsBTapeEvals5_4), (117, tapeEvalsBTapeEvals5_11)], 118⟩) 
set_option maxRecDepth 1000000 in
set_option maxHeartbeats 100000000 in
theorem tapeEvals_1_3_o2 : memoOK tapeEvals_1_3_m2 (memRun [(0, 3, 1)] (lenL 1 3 8 ++ []) tapeEvalsNms1 21 tapeEvals_1_3_m2.args (tOf tapeEvals_1_3_m2.hp) tapeEvals_1_3_m2.nx) = true := by kernel_rfl
def tapeEvals_1_3_m3 : Memo :=  (⟨[(.ag [(.i .i64 2), (.sl 26 0 6 (.u 4)), (.sl 30 0 2 (.u 1))]), (.c (.sl 35 0 2 (.u 1)))], [(26, tapeEvalsBTapeEvals5_8), (30, tapeEvalsBTapeEvals5_9), (35, tapeEvalsBTapeEvals5_4)], 118, (.c (.sl 129 0 2 (.u 1))), [(26, tapeEvalsBTapeEvals5_8), (30, tapeEvalsBTapeEvals5_9), (35, tapeEvalsBTapeEvals5_4), (129, tapeEvalsBTapeEvals5_11)], 130⟩) 
set_option maxRecDepth 1000000 in
set_option maxHeartbeats 100000000 in
theorem tapeEvals_1_3_o3 : memoOK tapeEvals_1_3_m3 (memRun [(0, 3, 1)] (lenL 1 3 8 ++ []) tapeEvalsNms1 22 tapeEvals_1_3_m3.args (tOf tapeEvals_1_3_m3.hp) tapeEvals_1_3_m3.nx) = true := by kernel_rfl
def tapeEvals_1_3_m4 : Memo :=  (⟨[(.ag [(.i .i64 2), (.sl 26 0 6 (.u 4)), (.sl 30 0 2 (.u 1))]), (.c (.sl 84 0 2 (.u 2)))], [(26, tapeEvalsBTapeEvals5_8), (30, tapeEvalsBTapeEvals5_9), (84, tapeEvalsBTapeEvals5_6)], 130, (.c (.sl 172 0 2 (.n 2))), [(26, tapeEvalsBTapeEvals5_8), (30, tapeEvalsBTapeEvals5_9), (84, tapeEvalsBTapeEvals5_6), (172, tapeEvalsBTapeEvals5_12)], 173⟩) 
set_option maxRecDepth 1000000 in
set_option maxHeartbeats 100000000 in
theorem tapeEvals_1_3_o4 : memoOK tapeEvals_1_3_m4 (memRun [(0, 3, 1)] (lenL 1 3 8 ++ []) tapeEvalsNms1 25 tapeEvals_1_3_m4.args (tOf tapeEvals_1_3_m4.hp) tapeEvals_1_3_m4.nx) = true := by kernel_rfl
def tapeEvals_1_3_m5 : Memo :=  (⟨[(.ag [(.i .i64 2), (.sl 26 0 6 (.u 4)), (.sl 30 0 2 (.u 1))]), (.c (.sl 84 0 2 (.u 2)))], [(26, tapeEvalsBTapeEvals5_8), (30, tapeEvalsBTapeEvals5_9), (84, tapeEvalsBTapeEvals5_6)], 173, (.c (.sl 194 0 2 (.u 2))), [(26, tapeEvalsBTapeEvals5_8), (30, tapeEvalsBTapeEvals5_9), (84, tapeEvalsBTapeEvals5_6), (194, tapeEvalsBTapeEvals5_12)], 195⟩) 
set_option maxRecDepth 1000000 in
set_option maxHeartbeats 100000000 in
theorem tapeEvals_1_3_o5 : memoOK tapeEvals_1_3_m5 (memRun [(0, 3, 1)] (lenL 1 3 8 ++ []) tapeEvalsNms1 26 tapeEvals_1_3_m5.args (tOf tapeEvals_1_3_m5.hp) tapeEvals_1_3_m5.nx) = true := by kernel_rfl
def tapeEvals_1_3_ms : List (Nat × List Memo) := [(21, [tapeEvals_1_3_m0, tapeEvals_1_3_m2]), (22, [tapeEvals_1_3_m1, tapeEvals_1_3_m3]), (25, [tapeEvals_1_3_m4]), (26, [tapeEvals_1_3_m5])]
theorem tapeEvals_1_3_mo : AllMem (memRun [(0, 3, 1)] (lenL 1 3 8 ++ []) tapeEvalsNms1) tapeEvals_1_3_ms := ⟨⟨tapeEvals_1_3_o0, tapeEvals_1_3_o2, trivial⟩, ⟨tapeEvals_1_3_o1, tapeEvals_1_3_o3, trivial⟩, ⟨tapeEvals_1_3_o4, trivial⟩, ⟨tapeEvals_1_3_o5, trivial⟩, trivial⟩
set_option maxRecDepth 1000000 in
set_option maxHeartbeats 100000000 in
theorem tapeEvals_1_3 : lawRunM 4 10 200 [.i, .q, .b, .q, .q, .i, .i] [(0, 3, 1)] (lenL 1 3 8 ++ []) tapeEvalsNms1 tapeEvals_1_3_ms = true := by kernel_rfl
def tapeEvals_1_0_m0 : Memo :=  (⟨[(.ag [(.i .i64 2), (.sl 17 0 3 (.u 4)), (.sl 21 0 2 (.u 1))]), (.c (.sl 26 0 2 (.u 1)))], [(17, tapeEvalsBTapeEvals5_13), (21, tapeEvalsBTapeEvals5_14), (26, tapeEvalsBTapeEvals5_2)], 27, (.c (.sl 47 0 2 (.n 2))), [(17, tapeEvalsBTapeEvals5_13), (21, tapeEvalsBTapeEvals5_14), (26, tapeEvalsBTapeEvals5_2), (47, tapeEvalsBTapeEvals5_15)], 48⟩) 
set_option maxRecDepth 1000000 in
set_option maxHeartbeats 100000000 in
theorem tapeEvals_1_0_o0 : memoOK tapeEvals_1_0_m0 (memRun [(0, 3, 1)] (lenL 1 0 8 ++ []) tapeEvalsNms1 21 tapeEvals_1_0_m0.args (tOf tapeEvals_1_0_m0.hp) tapeEvals_1_0_m0.nx) = true := by kernel_rfl
def tapeEvals_1_0_m1 : Memo :=  (⟨[(.ag [(.i .i64 2), (.sl 17 0 3 (.u 4)), (.sl 21 0 2 (.u 1))]), (.c (.sl 26 0 2 (.u 1)))], [(17, tapeEvalsBTapeEvals5_13), (21, tapeEvalsBTapeEvals5_14), (26, tapeEvalsBTapeEvals5_2)], 48, (.c (.sl 56 0 2 (.u 1))), [(17, tapeEvalsBTapeEvals5_13), (21, tapeEvalsBTapeEvals5_14), (26, tapeEvalsBTapeEvals5_2), (56, tapeEvalsBTapeEvals5_15)], 57⟩) 
set_option maxRecDepth 1000000 in
set_option maxHeartbeats 100000000 in
theorem tapeEvals_1_0_o1 : memoOK tapeEvals_1_0_m1 (memRun [(0, 3, 1)] (lenL 1 0 8 ++ []) tapeEvalsNms1 22 tapeEvals_1_0_m1.args (tOf tapeEvals_1_0_m1.hp) tapeEvals_1_0_m1.nx) = true := by kernel_rfl
def tapeEvals_1_0_m2 : Memo :=  (⟨[(.ag [(.i .i64 2), (.sl 17 0 3 (.u 4)), (.sl 21 0 2 (.u 1))]), (.c (.sl 26 0 2 (.u 1)))], [(17, tapeEvalsBTapeEvals5_13), (21, tapeEvalsBTapeEvals5_14), (26, tapeEvalsBTapeEvals5_4)], 61, (.c (.sl 81 0 2 (.n 2))), [(17, tapeEvalsBTapeEvals5_13), (21, tapeEvalsBTapeEvals5_14), (26, tapeEvalsBTapeEvals5_4), (81, tapeEvalsBTapeEvals5_16)], 82⟩) 
set_option maxRecDepth 1000000 in
set_option maxHeartbeats 100000000 in
theorem tapeEvals_1_0_o2 : memoOK tapeEvals_1_0_m2 (memRun [(0, 3, 1)] (lenL 1 0 8 ++ []) tapeEvalsNms1 21 tapeEvals_1_0_m2.args (tOf tapeEvals_1_0_m2.hp) tapeEvals_1_0_m2.nx) = true := by kernel_rfl
def tapeEvals_1_0_m3 : Memo :=  (⟨[(.ag [(.i .i64 2), (.sl 17 0 3 (.u 4)), (.sl 21 0 2 (.u 1))]), (.c (.sl 26 0 2 (.u 1)))], [(17, tapeEvalsBTapeEvals5_13), (21, tapeEvalsBTapeEvals5_14), (26, tapeEvalsBTapeEvals5_4)], 82, (.c (.sl 90 0 2 (.u 1))), [(17, tapeEvalsBTapeEvals5_13), (21, tapeEvalsBTapeEvals5_14), (26, tapeEvalsBTapeEvals5_4), (90, tapeEvalsBTapeEvals5_16)], 91⟩) 
set_option maxRecDepth 1000000 in
set_option maxHeartbeats 100000000 in
theorem tapeEvals_1_0_o3 : memoOK tapeEvals_1_0_m3 (memRun [(0, 3, 1)] (lenL 1 0 8 ++ []) tapeEvalsNms1 22 tapeEvals_1_0_m3.args (tOf tapeEvals_1_0_m3.hp) tapeEvals_1_0_m3.nx) = true := by kernel_rfl
def tapeEvals_1_0_m4 : Memo :=  (⟨[(.ag [(.i .i64 2), (.sl 17 0 3 (.u 4)), (.sl 21 0 2 (.u 1))]), (.c (.sl 60 0 2 (.u 2)))], [(17, tapeEvalsBTapeEvals5_13), (21, tapeEvalsBTapeEvals5_14), (60, tapeEvalsBTapeEvals5_6)], 91, (.c (.sl 115 0 2 (.n 2))), [(17, tapeEvalsBTapeEvals5_13), (21, tapeEvalsBTapeEvals5_14), (60, tapeEvalsBTapeEvals5_6), (115, tapeEvalsBTapeEvals5_17)], 116⟩) 
set_option maxRecDepth 1000000 in
set_option maxHeartbeats 100000000 in
theorem tapeEvals_1_0_o4 : memoOK tapeEvals_1_0_m4 (memRun [(0, 3, 1)] (lenL 1 0 8 ++ []) tapeEvalsNms1 25 tapeEvals_1_0_m4.args (tOf tapeEvals_1_0_m4.hp) tapeEvals_1_0_m4.nx) = true := by kernel_rfl
def tapeEvals_1_0_m5 : Memo :=  (⟨[(.ag [(.i .i64 2), (.sl 17 0 3 (.u 4)), (.sl 21 0 2 (.u 1))]), (.c (.sl 60 0 2 (.u 2)))], [(17, tapeEvalsBTapeEvals5_13), (21, tapeEvalsBTapeEvals5_14), (60, tapeEvalsBTapeEvals5_6)], 116, (.c (.sl 125 0 2 (.u 2))), [(17, tapeEvalsBTapeEvals5_13), (21, tapeEvalsBTapeEvals5_14), (60, tapeEvalsBTapeEvals5_6), (125, tapeEvalsBTapeEvals5_17)], 126⟩) 
set_option maxRecDepth 1000000 in
set_option maxHeartbeats 100000000 in
theorem tapeEvals_1_0_o5 : memoOK tapeEvals_1_0_m5 (memRun [(0, 3, 1)] (lenL 1 0 8 ++ []) tapeEvalsNms1 26 tapeEvals_1_0_m5.args (tOf tapeEvals_1_0_m5.hp) tapeEvals_1_0_m5.nx) = true := by kernel_rfl
def tapeEvals_1_0_ms : List (Nat × List Memo) := [(21, [tapeEvals_1_0_m0, tapeEvals_1_0_m2]), (22, [tapeEvals_1_0_m1, tapeEvals_1_0_m3]), (25, [tapeEvals_1_0_m4]), (26, [tapeEvals_1_0_m5])]
theorem tapeEvals_1_0_mo : AllMem (memRun [(0, 3, 1)] (lenL 1 0 8 ++ []) tapeEvalsNms1) tapeEvals_1_0_ms := ⟨⟨tapeEvals_1_0_o0, tapeEvals_1_0_o2, trivial⟩, ⟨tapeEvals_1_0_o1, tapeEvals_1_0_o3, trivial⟩, ⟨tapeEvals_1_0_o4, trivial⟩, ⟨tapeEvals_1_0_o5, trivial⟩, trivial⟩
set_option maxRecDepth 1000000 in
set_option maxHeartbeats 100000000 in
theorem tapeEvals_1_0 : lawRunM 4 10 200 [.i, .q, .b, .q, .q, .i, .i] [(0, 3, 1)] (lenL 1 0 8 ++ []) tapeEvalsNms1 tapeEvals_1_0_ms = true := by kernel_rfl
end Go.Proofs.Yticbgaflhiokgaa
