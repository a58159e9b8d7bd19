/-
  'TapeEvals': runs of it, part 8.
-/
import Derived.Test.YticbgaflhiokgaaTapeEvalst2
namespace Go.Proofs.Yticbgaflhiokgaa
open Go.RowKit Ex
def tapeEvalsMTapeEvals8_0 : E := (.ic .eql (.ai 9 0 (.ci (.at 1 0) (.ci (.li 11) .n0))) (.li 0))
def tapeEvalsMTapeEvals8_1 : E := (.ib .add .i64 (.li 2) (.ai 9 0 (.ci (.at 1 0) (.ci (.li 3) .n0))))
def tapeEvalsMTapeEvals8_2 : E := (.ic .eql (.ai 9 0 (.ci (.at 1 1) (.ci (.li 11) .n0))) (.li 0))
def tapeEvalsMTapeEvals8_3 : E := (.ib .add .i64 (.li 2) (.ai 9 0 (.ci (.at 1 1) (.ci (.li 3) .n0))))
def tapeEvalsMTapeEvals8_4 : E := (.ic .eql (.ai 9 0 (.ci (.at 1 2) (.ci (.li 11) .n0))) (.li 0))
def tapeEvalsMTapeEvals8_5 : E := (.ib .add .i64 (.li 2) (.ai 9 0 (.ci (.at 1 2) (.ci (.li 3) .n0))))
def tapeEvalsMTapeEvals8_6 : E := (.ic .eql (.ai 9 0 (.ci (.at 1 3) (.ci (.li 11) .n0))) (.li 0))
def tapeEvalsMTapeEvals8_7 : E := (.ib .add .i64 (.li 2) (.ai 9 0 (.ci (.at 1 3) (.ci (.li 3) .n0))))
def tapeEvalsMTapeEvals8_8 : E := (.ic .eql (.ai 9 0 (.ci (.at 1 4) (.ci (.li 11) .n0))) (.li 0))
def tapeEvalsMTapeEvals8_9 : E := (.ib .add .i64 (.li 2) (.ai 9 0 (.ci (.at 1 4) (.ci (.li 3) .n0))))
def tapeEvalsMTapeEvals8_10 : E := (.ic .eql (.ai 9 0 (.ci (.at 1 5) (.ci (.li 11) .n0))) (.li 0))
def tapeEvalsMTapeEvals8_11 : E := (.ib .add .i64 (.li 2) (.ai 9 0 (.ci (.at 1 5) (.ci (.li 3) .n0))))
def tapeEvalsMTapeEvals8_12 : E := (.ib .quo .i64 (.vi 0) (.li 3))
def tapeEvalsMTapeEvals8_13 : E := (.ai 9 0 (.ci (.ib .add .i64 tapeEvalsMTapeEvals8_12 (.li 0)) (.ci (.li 3) .n0)))
def tapeEvalsMTapeEvals8_14 : E := (.ai 9 0 (.ci (.ib .add .i64 tapeEvalsMTapeEvals8_12 (.li 1)) (.ci (.li 3) .n0)))
def tapeEvalsMTapeEvals8_15 : E := (.ai 9 0 (.ci (.ib .add .i64 tapeEvalsMTapeEvals8_12 (.li 2)) (.ci (.li 3) .n0)))
def tapeEvalsBTapeEvals8_0 : Blk := [(.i .i64 1), (.i .i64 0), (.i .i64 0), (.f 0), (.i .i64 1), (.i .i64 1), (.i .i64 0), (.f 0), (.i .i64 1), (.i .i64 2), (.i .i64 0), (.f 0), (.i .i64 0), (.i .i64 0), (.i .i64 0), (.ef (.fb .quo (.i2f (.ib .sub .i64 (.ai 9 0 (.ci (.vi 0) (.ci (.li 17) .n0))) (.li 8))) (.lf 4616189618054758400))), (.ei .i64 (.ti tapeEvalsMTapeEvals8_0 (.li 0) (.ti (.vb 2) (.ti (.ic .eql (.ai 9 0 (.ci (.at 1 0) (.ci (.li 7) .n0))) (.li 0)) (.li 5) tapeEvalsMTapeEvals8_1) tapeEvalsMTapeEvals8_1))), (.ei .i64 (.ti tapeEvalsMTapeEvals8_0 (.li 0) (.ai 9 0 (.ci (.ib .quo .i64 (.at 1 0) (.li 4)) (.ci (.li 4) .n0))))), (.ei .i64 (.ti tapeEvalsMTapeEvals8_0 (.li 0) (.ai 9 0 (.ci (.ib .quo .i64 (.at 1 0) (.li 40)) (.ci (.li 4) .n0))))), (.ef (.tf tapeEvalsMTapeEvals8_0 (.fb .quo (.i2f (.ib .sub .i64 (.ai 9 0 (.ci (.ib .quo .i64 (.at 1 0) (.li 11)) (.ci (.li 33) .n0))) (.li 16))) (.lf 4620693217682128896)) (.lf 0))), (.ei .i64 (.ti tapeEvalsMTapeEvals8_2 (.li 0) (.ti (.vb 2) (.ti (.ic .eql (.ai 9 0 (.ci (.at 1 1) (.ci (.li 7) .n0))) (.li 0)) (.li 5) tapeEvalsMTapeEvals8_3) tapeEvalsMTapeEvals8_3))), (.ei .i64 (.ti tapeEvalsMTapeEvals8_2 (.li 0) (.ai 9 0 (.ci (.ib .quo .i64 (.at 1 1) (.li 4)) (.ci (.li 5) .n0))))), (.ei .i64 (.ti tapeEvalsMTapeEvals8_2 (.li 0) (.ai 9 0 (.ci (.ib .quo .i64 (.at 1 1) (.li 40)) (.ci (.li 5) .n0))))), (.ef (.tf tapeEvalsMTapeEvals8_2 (.fb .quo (.i2f (.ib .sub .i64 (.ai 9 0 (.ci (.ib .quo .i64 (.at 1 1) (.li 11)) (.ci (.li 33) .n0))) (.li 16))) (.lf 4620693217682128896)) (.lf 0))), (.ei .i64 (.ti tapeEvalsMTapeEvals8_4 (.li 0) (.ti (.vb 2) (.ti (.ic .eql (.ai 9 0 (.ci (.at 1 2) (.ci (.li 7) .n0))) (.li 0)) (.li 5) tapeEvalsMTapeEvals8_5) tapeEvalsMTapeEvals8_5))), (.ei .i64 (.ti tapeEvalsMTapeEvals8_4 (.li 0) (.ai 9 0 (.ci (.ib .quo .i64 (.at 1 2) (.li 4)) (.ci (.li 6) .n0))))), (.ei .i64 (.ti tapeEvalsMTapeEvals8_4 (.li 0) (.ai 9 0 (.ci (.ib .quo .i64 (.at 1 2) (.li 40)) (.ci (.li 6) .n0))))), (.ef (.tf tapeEvalsMTapeEvals8_4 (.fb .quo (.i2f (.ib .sub .i64 (.ai 9 0 (.ci (.ib .quo .i64 (.at 1 2) (.li 11)) (.ci (.li 33) .n0))) (.li 16))) (.lf 4620693217682128896)) (.lf 0))), (.ei .i64 (.ti tapeEvalsMTapeEvals8_6 (.li 0) (.ti (.vb 2) (.ti (.ic .eql (.ai 9 0 (.ci (.at 1 3) (.ci (.li 7) .n0))) (.li 0)) (.li 5) tapeEvalsMTapeEvals8_7) tapeEvalsMTapeEvals8_7))), (.ei .i64 (.ti tapeEvalsMTapeEvals8_6 (.li 0) (.ai 9 0 (.ci (.ib .quo .i64 (.at 1 3) (.li 4)) (.ci (.li 7) .n0))))), (.ei .i64 (.ti tapeEvalsMTapeEvals8_6 (.li 0) (.ai 9 0 (.ci (.ib .quo .i64 (.at 1 3) (.li 40)) (.ci (.li 7) .n0))))), (.ef (.tf tapeEvalsMTapeEvals8_6 (.fb .quo (.i2f (.ib .sub .i64 (.ai 9 0 (.ci (.ib .quo .i64 (.at 1 3) (.li 11)) (.ci (.li 33) .n0))) (.li 16))) (.lf 4620693217682128896)) (.lf 0))), (.ei .i64 (.ti tapeEvalsMTapeEvals8_8 (.li 0) (.ti (.vb 2) (.ti (.ic .eql (.ai 9 0 (.ci (.at 1 4) (.ci (.li 7) .n0))) (.li 0)) (.li 5) tapeEvalsMTapeEvals8_9) tapeEvalsMTapeEvals8_9))), (.ei .i64 (.ti tapeEvalsMTapeEvals8_8 (.li 0) (.ai 9 0 (.ci (.ib .quo .i64 (.at 1 4) (.li 4)) (.ci (.li 8) .n0))))), (.ei .i64 (.ti tapeEvalsMTapeEvals8_8 (.li 0) (.ai 9 0 (.ci (.ib .quo .i64 (.at 1 4) (.li 40)) (.ci (.li 8) .n0))))), (.ef (.tf tapeEvalsMTapeEvals8_8 (.fb .quo (.i2f (.ib .sub .i64 (.ai 9 0 (.ci (.ib .quo .i64 (.at 1 4) (.li 11)) (.ci (.li 33) .n0))) (.li 16))) (.lf 4620693217682128896)) (.lf 0))), (.ei .i64 (.ti tapeEvalsMTapeEvals8_10 (.li 0) (.ti (.vb 2) (.ti (.ic .eql (.ai 9 0 (.ci (.at 1 5) (.ci (.li 7) .n0))) (.li 0)) (.li 5) tapeEvalsMTapeEvals8_11) tapeEvalsMTapeEvals8_11))), (.ei .i64 (.ti tapeEvalsMTapeEvals8_10 (.li 0) (.ai 9 0 (.ci (.ib .quo .i64 (.at 1 5) (.li 4)) (.ci (.li 9) .n0))))), (.ei .i64 (.ti tapeEvalsMTapeEvals8_10 (.li 0) (.ai 9 0 (.ci (.ib .quo .i64 (.at 1 5) (.li 40)) (.ci (.li 9) .n0))))), (.ef (.tf tapeEvalsMTapeEvals8_10 (.fb .quo (.i2f (.ib .sub .i64 (.ai 9 0 (.ci (.ib .quo .i64 (.at 1 5) (.li 11)) (.ci (.li 33) .n0))) (.li 16))) (.lf 4620693217682128896)) (.lf 0)))]
def tapeEvalsBTapeEvals8_1 : Blk := [(.ei .i64 (.ib .sub .i64 (.li 9) tapeEvalsMTapeEvals8_13)), (.ei .i64 (.ib .sub .i64 (.li 9) tapeEvalsMTapeEvals8_14)), (.ei .i64 (.ib .sub .i64 (.li 9) tapeEvalsMTapeEvals8_15))]
def tapeEvalsBTapeEvals8_2 : Blk := [(.ef (.fb .quo (.i2f (.ib .sub .i64 (.ai 9 0 (.ci (.ti (.ic .lss (.li 0) (.vl 3)) (.at 3 0) (.li 0)) (.ci (.li 65) .n0))) (.li 32))) (.lf 4620693217682128896))), (.ef (.fb .quo (.i2f (.ib .sub .i64 (.ai 9 0 (.ci (.ti (.ic .lss (.li 1) (.vl 3)) (.at 3 1) (.li 1)) (.ci (.li 65) .n0))) (.li 32))) (.lf 4620693217682128896))), (.ef (.fb .quo (.i2f (.ib .sub .i64 (.ai 9 0 (.ci (.ti (.ic .lss (.li 2) (.vl 3)) (.at 3 2) (.li 2)) (.ci (.li 65) .n0))) (.li 32))) (.lf 4620693217682128896)))]
def tapeEvalsBTapeEvals8_3 : Blk := [(.ef (.vf 399)), (.ef (.vf 400)), (.ef (.vf 401))]
def tapeEvalsBTapeEvals8_4 : Blk := [(.ef (.vf 159)), (.ef (.vf 163)), (.ef (.vf 167))]
def tapeEvalsBTapeEvals8_5 : Blk := [(.ef (.vf 402)), (.ef (.vf 403)), (.ef (.vf 404))]
def tapeEvalsBTapeEvals8_6 : Blk := [(.ef (.vf 160)), (.ef (.vf 161)), (.ef (.vf 164)), (.ef (.vf 165)), (.ef (.vf 168)), (.ef (.vf 169))]
def tapeEvalsBTapeEvals8_7 : Blk := [(.ef (.vf 405)), (.ef (.vf 406)), (.ef (.vf 407)), (.ef (.vf 408)), (.ef (.vf 409)), (.ef (.vf 410))]
def tapeEvalsBTapeEvals8_8 : Blk := [(.i .i64 1), (.i .i64 0), (.i .i64 0), (.f 0), (.i .i64 1), (.i .i64 1), (.i .i64 0), (.f 0), (.i .i64 1), (.i .i64 2), (.i .i64 0), (.f 0), (.i .i64 0), (.i .i64 0), (.i .i64 0), (.ef (.fb .quo (.i2f (.ib .sub .i64 (.ai 9 0 (.ci (.vi 0) (.ci (.li 17) .n0))) (.li 8))) (.lf 4616189618054758400))), (.ei .i64 (.ti tapeEvalsMTapeEvals8_0 (.li 0) (.ti (.vb 2) (.ti (.ic .eql (.ai 9 0 (.ci (.at 1 0) (.ci (.li 7) .n0))) (.li 0)) (.li 5) tapeEvalsMTapeEvals8_1) tapeEvalsMTapeEvals8_1))), (.ei .i64 (.ti tapeEvalsMTapeEvals8_0 (.li 0) (.ai 9 0 (.ci (.ib .quo .i64 (.at 1 0) (.li 4)) (.ci (.li 4) .n0))))), (.ei .i64 (.ti tapeEvalsMTapeEvals8_0 (.li 0) (.ai 9 0 (.ci (.ib .quo .i64 (.at 1 0) (.li 40)) (.ci (.li 4) .n0))))), (.ef (.tf tapeEvalsMTapeEvals8_0 (.fb .quo (.i2f (.ib .sub .i64 (.ai 9 0 (.ci (.ib .quo .i64 (.at 1 0) (.li 11)) (.ci (.li 33) .n0))) (.li 16))) (.lf 4620693217682128896)) (.lf 0))), (.ei .i64 (.ti tapeEvalsMTapeEvals8_2 (.li 0) (.ti (.vb 2) (.ti (.ic .eql (.ai 9 0 (.ci (.at 1 1) (.ci (.li 7) .n0))) (.li 0)) (.li 5) tapeEvalsMTapeEvals8_3) tapeEvalsMTapeEvals8_3))), (.ei .i64 (.ti tapeEvalsMTapeEvals8_2 (.li 0) (.ai 9 0 (.ci (.ib .quo .i64 (.at 1 1) (.li 4)) (.ci (.li 5) .n0))))), (.ei .i64 (.ti tapeEvalsMTapeEvals8_2 (.li 0) (.ai 9 0 (.ci (.ib .quo .i64 (.at 1 1) (.li 40)) (.ci (.li 5) .n0))))), (.ef (.tf tapeEvalsMTapeEvals8_2 (.fb .quo (.i2f (.ib .sub .i64 (.ai 9 0 (.ci (.ib .quo .i64 (.at 1 1) (.li 11)) (.ci (.li 33) .n0))) (.li 16))) (.lf 4620693217682128896)) (.lf 0))), (.ei .i64 (.ti tapeEvalsMTapeEvals8_4 (.li 0) (.ti (.vb 2) (.ti (.ic .eql (.ai 9 0 (.ci (.at 1 2) (.ci (.li 7) .n0))) (.li 0)) (.li 5) tapeEvalsMTapeEvals8_5) tapeEvalsMTapeEvals8_5))), (.ei .i64 (.ti tapeEvalsMTapeEvals8_4 (.li 0) (.ai 9 0 (.ci (.ib .quo .i64 (.at 1 2) (.li 4)) (.ci (.li 6) .n0))))), (.ei .i64 (.ti tapeEvalsMTapeEvals8_4 (.li 0) (.ai 9 0 (.ci (.ib .quo .i64 (.at 1 2) (.li 40)) (.ci (.li 6) .n0))))), (.ef (.tf tapeEvalsMTapeEvals8_4 (.fb .quo (.i2f (.ib .sub .i64 (.ai 9 0 (.ci (.ib .quo .i64 (.at 1 2) (.li 11)) (.ci (.li 33) .n0))) (.li 16))) (.lf 4620693217682128896)) (.lf 0)))]
def tapeEvalsBTapeEvals8_9 : Blk := [(.ei .i64 (.ib .sub .i64 (.li 6) tapeEvalsMTapeEvals8_13)), (.ei .i64 (.ib .sub .i64 (.li 6) tapeEvalsMTapeEvals8_14)), (.ei .i64 (.ib .sub .i64 (.li 6) tapeEvalsMTapeEvals8_15))]
def tapeEvalsBTapeEvals8_10 : Blk := [(.ef (.vf 435)), (.ef (.vf 436)), (.ef (.vf 437))]
def tapeEvalsBTapeEvals8_11 : Blk := [(.ef (.vf 438)), (.ef (.vf 439)), (.ef (.vf 440))]
def tapeEvalsBTapeEvals8_12 : Blk := [(.ef (.vf 441)), (.ef (.vf 442)), (.ef (.vf 443)), (.ef (.vf 444)), (.ef (.vf 445)), (.ef (.vf 446))]
def tapeEvalsBTapeEvals8_13 : Blk := [(.i .i64 1), (.i .i64 0), (.i .i64 0), (.f 0), (.i .i64 1), (.i .i64 1), (.i .i64 0), (.f 0), (.i .i64 1), (.i .i64 2), (.i .i64 0), (.f 0), (.i .i64 0), (.i .i64 0), (.i .i64 0), (.ef (.fb .quo (.i2f (.ib .sub .i64 (.ai 9 0 (.ci (.vi 0) (.ci (.li 17) .n0))) (.li 8))) (.lf 4616189618054758400)))]
def tapeEvalsBTapeEvals8_14 : Blk := [(.ei .i64 (.ib .sub .i64 (.li 3) tapeEvalsMTapeEvals8_13)), (.ei .i64 (.ib .sub .i64 (.li 3) tapeEvalsMTapeEvals8_14)), (.ei .i64 (.ib .sub .i64 (.li 3) tapeEvalsMTapeEvals8_15))]
def tapeEvalsBTapeEvals8_15 : Blk := [(.ef (.vf 471)), (.ef (.vf 472)), (.ef (.vf 473))]
def tapeEvalsBTapeEvals8_16 : Blk := [(.ef (.vf 474)), (.ef (.vf 475)), (.ef (.vf 476))]
def tapeEvalsBTapeEvals8_17 : Blk := [(.ef (.vf 477)), (.ef (.vf 478)), (.ef (.vf 479)), (.ef (.vf 480)), (.ef (.vf 481)), (.ef (.vf 482))]
def tapeEvals_2_6_m0 : Memo :=  (⟨[(.ag [(.i .i64 3), (.sl 37 0 10 (.u 4)), (.sl 43 0 3 (.u 1))]), (.c (.sl 50 0 3 (.u 1)))], [(37, tapeEvalsBTapeEvals8_0), (43, tapeEvalsBTapeEvals8_1), (50, tapeEvalsBTapeEvals8_2)], 51, (.c (.sl 99 0 3 (.n 3))), [(37, tapeEvalsBTapeEvals8_0), (43, tapeEvalsBTapeEvals8_1), (50, tapeEvalsBTapeEvals8_2), (99, tapeEvalsBTapeEvals8_3)], 100⟩) 
set_option maxRecDepth 1000000 in
set_option maxHeartbeats 100000000 in
theorem tapeEvals_2_6_o0 : memoOK tapeEvals_2_6_m0 (memRun [(0, 3, 2)] (lenL 1 6 8 ++ []) tapeEvalsNms2 21 tapeEvals_2_6_m0.args (tOf tapeEvals_2_6_m0.hp) tapeEvals_2_6_m0.nx) = true := by kernel_rfl
def tapeEvals_2_6_m1 : Memo :=  (⟨[(.ag [(.i .i64 3), (.sl 37 0 10 (.u 4)), (.sl 43 0 3 (.u 1))]), (.c (.sl 50 0 3 (.u 1)))], [(37, tapeEvalsBTapeEvals8_0), (43, tapeEvalsBTapeEvals8_1), (50, tapeEvalsBTapeEvals8_2)], 100, (.c (.sl 117 0 3 (.u 1))), [(37, tapeEvalsBTapeEvals8_0), (43, tapeEvalsBTapeEvals8_1), (50, tapeEvalsBTapeEvals8_2), (117, tapeEvalsBTapeEvals8_3)], 118⟩) 
set_option maxRecDepth 1000000 in
set_option maxHeartbeats 100000000 in
theorem tapeEvals_2_6_o1 : memoOK tapeEvals_2_6_m1 (memRun [(0, 3, 2)] (lenL 1 6 8 ++ []) tapeEvalsNms2 22 tapeEvals_2_6_m1.args (tOf tapeEvals_2_6_m1.hp) tapeEvals_2_6_m1.nx) = true := by kernel_rfl
def tapeEvals_2_6_m2 : Memo :=  (⟨[(.ag [(.i .i64 3), (.sl 37 0 10 (.u 4)), (.sl 43 0 3 (.u 1))]), (.c (.sl 50 0 3 (.u 1)))], [(37, tapeEvalsBTapeEvals8_0), (43, tapeEvalsBTapeEvals8_1), (50, tapeEvalsBTapeEvals8_4)], 124, (.c (.sl 172 0 3 (.n 3))), [(37, tapeEvalsBTapeEvals8_0), (43, tapeEvalsBTapeEvals8_1), (50, tapeEvalsBTapeEvals8_4), (172, tapeEvalsBTapeEvals8_5)], 173⟩) 
set_option maxRecDepth 1000000 in
set_option maxHeartbeats 100000000 in
theorem tapeEvals_2_6_o2 : memoOK tapeEvals_2_6_m2 (memRun [(0, 3, 2)] (lenL 1 6 8 ++ []) tapeEvalsNms2 21 tapeEvals_2_6_m2.args (tOf tapeEvals_2_6_m2.hp) tapeEvals_2_6_m2.nx) = true := by kernel_rfl
def tapeEvals_2_6_m3 : Memo :=  (⟨[(.ag [(.i .i64 3), (.sl 37 0 10 (.u 4)), (.sl 43 0 3 (.u 1))]), (.c (.sl 50 0 3 (.u 1)))], [(37, tapeEvalsBTapeEvals8_0), (43, tapeEvalsBTapeEvals8_1), (50, tapeEvalsBTapeEvals8_4)], 173, (.c (.sl 190 0 3 (.u 1))), [(37, tapeEvalsBTapeEvals8_0), (43, tapeEvalsBTapeEvals8_1), (50, tapeEvalsBTapeEvals8_4), (190, tapeEvalsBTapeEvals8_5)], 191⟩) 
set_option maxRecDepth 1000000 in
set_option maxHeartbeats 100000000 in
theorem tapeEvals_2_6_o3 : memoOK tapeEvals_2_6_m3 (memRun [(0, 3, 2)] (lenL 1 6 8 ++ []) tapeEvalsNms2 22 tapeEvals_2_6_m3.args (tOf tapeEvals_2_6_m3.hp) tapeEvals_2_6_m3.nx) = true := by kernel_rfl
def tapeEvals_2_6_m4 : Memo :=  (⟨[(.ag [(.i .i64 3), (.sl 37 0 10 (.u 4)), (.sl 43 0 3 (.u 1))]), (.c (.sl 123 0 3 (.u 2)))], [(37, tapeEvalsBTapeEvals8_0), (43, tapeEvalsBTapeEvals8_1), (123, tapeEvalsBTapeEvals8_6)], 191, (.c (.sl 256 0 3 (.n 3))), [(37, tapeEvalsBTapeEvals8_0), (43, tapeEvalsBTapeEvals8_1), (123, tapeEvalsBTapeEvals8_6), (256, tapeEvalsBTapeEvals8_7)], 257⟩) 
set_option maxRecDepth 1000000 in
set_option maxHeartbeats 100000000 in
theorem tapeEvals_2_6_o4 : memoOK tapeEvals_2_6_m4 (memRun [(0, 3, 2)] (lenL 1 6 8 ++ []) tapeEvalsNms2 25 tapeEvals_2_6_m4.args (tOf tapeEvals_2_6_m4.hp) tapeEvals_2_6_m4.nx) = true := by kernel_rfl
def tapeEvals_2_6_m5 : Memo :=  (⟨[(.ag [(.i .i64 3), (.sl 37 0 10 (.u 4)), (.sl 43 0 3 (.u 1))]), (.c (.sl 123 0 3 (.u 2)))], [(37, tapeEvalsBTapeEvals8_0), (43, tapeEvalsBTapeEvals8_1), (123, tapeEvalsBTapeEvals8_6)], 257, (.c (.sl 293 0 3 (.u 2))), [(37, tapeEvalsBTapeEvals8_0), (43, tapeEvalsBTapeEvals8_1), (123, tapeEvalsBTapeEvals8_6), (293, tapeEvalsBTapeEvals8_7)], 294⟩) 
set_option maxRecDepth 1000000 in
set_option maxHeartbeats 100000000 in
theorem tapeEvals_2_6_o5 : memoOK tapeEvals_2_6_m5 (memRun [(0, 3, 2)] (lenL 1 6 8 ++ []) tapeEvalsNms2 26 tapeEvals_2_6_m5.args (tOf tapeEvals_2_6_m5.hp) tapeEvals_2_6_m5.nx) = true := by kernel_rfl
def tapeEvals_2_6_ms : List (Nat × List Memo) := [(21, [tapeEvals_2_6_m0, tapeEvals_2_6_m2]), (22, [tapeEvals_2_6_m1, tapeEvals_2_6_m3]), (25, [tapeEvals_2_6_m4]), (26, [tapeEvals_2_6_m5])]
theorem tapeEvals_2_6_mo : AllMem (memRun [(0, 3, 2)] (lenL 1 6 8 ++ []) tapeEvalsNms2) tapeEvals_2_6_ms := ⟨⟨tapeEvals_2_6_o0, tapeEvals_2_6_o2, trivial⟩, ⟨tapeEvals_2_6_o1, tapeEvals_2_6_o3, trivial⟩, ⟨tapeEvals_2_6_o4, trivial⟩, ⟨tapeEvals_2_6_o5, trivial⟩, trivial⟩
set_option maxRecDepth 1000000 in
set_option maxHeartbeats 100000000 in
theorem tapeEvals_2_6 : lawRunM 4 10 200 [.i, .q, .b, .q, .q, .i, .i] [(0, 3, 2)] (lenL 1 6 8 ++ []) tapeEvalsNms2 tapeEvals_2_6_ms = true := by kernel_rfl
def tapeEvals_2_3_m0 : Memo :=  (⟨[(.ag [(.i .i64 3), (.sl 28 0 7 (.u 4)), (.sl 34 0 3 (.u 1))]), (.c (.sl 41 0 3 (.u 1)))], [(28, tapeEvalsBTapeEvals8_8), (34, tapeEvalsBTapeEvals8_9), (41, tapeEvalsBTapeEvals8_2)], 42, (.c (.sl 78 0 3 (.n 3))), [(28, tapeEvalsBTapeEvals8_8), (34, tapeEvalsBTapeEvals8_9), (41, tapeEvalsBTapeEvals8_2), (78, tapeEvalsBTapeEvals8_10)], 79⟩) 
set_option maxRecDepth 1000000 in
set_option maxHeartbeats 100000000 in
theorem tapeEvals_2_3_o0 : memoOK tapeEvals_2_3_m0 (memRun [(0, 3, 2)] (lenL 1 3 8 ++ []) tapeEvalsNms2 21 tapeEvals_2_3_m0.args (tOf tapeEvals_2_3_m0.hp) tapeEvals_2_3_m0.nx) = true := by kernel_rfl
def tapeEvals_2_3_m1 : Memo :=  (⟨[(.ag [(.i .i64 3), (.sl 28 0 7 (.u 4)), (.sl 34 0 3 (.u 1))]), (.c (.sl 41 0 3 (.u 1)))], [(28, tapeEvalsBTapeEvals8_8), (34, tapeEvalsBTapeEvals8_9), (41, tapeEvalsBTapeEvals8_2)], 79, (.c (.sl 93 0 3 (.u 1))), [(28, tapeEvalsBTapeEvals8_8), (34, tapeEvalsBTapeEvals8_9), (41, tapeEvalsBTapeEvals8_2), (93, tapeEvalsBTapeEvals8_10)], 94⟩) 
set_option maxRecDepth 1000000 in
set_option maxHeartbeats 100000000 in
theorem tapeEvals_2_3_o1 : memoOK tapeEvals_2_3_m1 (memRun [(0, 3, 2)] (lenL 1 3 8 ++ []) tapeEvalsNms2 22 tapeEvals_2_3_m1.args (tOf tapeEvals_2_3_m1.hp) tapeEvals_2_3_m1.nx) = true := by kernel_rfl
def tapeEvals_2_3_m2 : Memo :=  (⟨[(.ag [(.i .i64 3), (.sl 28 0 7 (.u 4)), (.sl 34 0 3 (.u 1))]), (.c (.sl 41 0 3 (.u 1)))], [(28, tapeEvalsBTapeEvals8_8), (34, tapeEvalsBTapeEvals8_9), (41, tapeEvalsBTapeEvals8_4)], 100, (.c (.sl 136 0 3 (.n 3))), [(28, tapeEvalsBTapeEvals8_8), (34, tapeEvalsBTapeEvals8_9), (41, tapeEvalsBTapeEvals8_4), (136, tapeEvalsBTapeEvals8_11)], 137⟩) 
set_option maxRecDepth 1000000 in
set_option maxHeartbeats 100000000 in
theorem tapeEvals_2_3_o2 : memoOK tapeEvals_2_3_m2 (memRun [(0, 3, 2)] (lenL 1 3 8 ++ []) tapeEvalsNms2 21 tapeEvals_2_3_m2.args (tOf tapeEvals_2_3_m2.hp) tapeEvals_2_3_m2.nx) = true := by kernel_rfl
def tapeEvals_2_3_m3 : Memo :=  (⟨[(.ag [(.i .i64 3), (.sl 28 0 7 (.u 4)), (.sl 34 0 3 (.u 1))]), (.c (.sl 41 0 3 (.u 1)))], [(28, tapeEvalsBTapeEvals8_8), (34, tapeEvalsBTapeEvals8_9), (41, tapeEvalsBTapeEvals8_4)], 137, (.c (.sl 151 0 3 (.u 1))), [(28, tapeEvalsBTapeEvals8_8), (34, tapeEvalsBTapeEvals8_9), (41, tapeEvalsBTapeEvals8_4), (151, tapeEvalsBTapeEvals8_11)], 152⟩) 
set_option maxRecDepth 1000000 in
set_option maxHeartbeats 100000000 in
theorem tapeEvals_2_3_o3 : memoOK tapeEvals_2_3_m3 (memRun [(0, 3, 2)] (lenL 1 3 8 ++ []) tapeEvalsNms2 22 tapeEvals_2_3_m3.args (tOf tapeEvals_2_3_m3.hp) tapeEvals_2_3_m3.nx) = true := by kernel_rfl
def tapeEvals_2_3_m4 : Memo :=  (⟨[(.ag [(.i .i64 3), (.sl 28 0 7 (.u 4)), (.sl 34 0 3 (.u 1))]), (.c (.sl 99 0 3 (.u 2)))], [(28, tapeEvalsBTapeEvals8_8), (34, tapeEvalsBTapeEvals8_9), (99, tapeEvalsBTapeEvals8_6)], 152, (.c (.sl 199 0 3 (.n 3))), [(28, tapeEvalsBTapeEvals8_8), (34, tapeEvalsBTapeEvals8_9), (99, tapeEvalsBTapeEvals8_6), (199, tapeEvalsBTapeEvals8_12)], 200⟩) 
set_option maxRecDepth 1000000 in
set_option maxHeartbeats 100000000 in
theorem tapeEvals_2_3_o4 : memoOK tapeEvals_2_3_m4 (memRun [(0, 3, 2)] (lenL 1 3 8 ++ []) tapeEvalsNms2 25 tapeEvals_2_3_m4.args (tOf tapeEvals_2_3_m4.hp) tapeEvals_2_3_m4.nx) = true := by kernel_rfl
def tapeEvals_2_3_m5 : Memo :=  (⟨[(.ag [(.i .i64 3), (.sl 28 0 7 (.u 4)), (.sl 34 0 3 (.u 1))]), (.c (.sl 99 0 3 (.u 2)))], [(28, tapeEvalsBTapeEvals8_8), (34, tapeEvalsBTapeEvals8_9), (99, tapeEvalsBTapeEvals8_6)], 200, (.c (.sl 224 0 3 (.u 2))), [(28, tapeEvalsBTapeEvals8_8), (34, tapeEvalsBTapeEvals8_9), (99, tapeEvalsBTapeEvals8_6), (224, tapeEvalsBTapeEvals8_12)], 225⟩) 
set_option maxRecDepth 1000000 in
set_option maxHeartbeats 100000000 in
theorem tapeEvals_2_3_o5 : memoOK tapeEvals_2_3_m5 (memRun [(0, 3, 2)] (lenL 1 3 8 ++ []) tapeEvalsNms2 26 tapeEvals_2_3_m5.args (tOf tapeEvals_2_3_m5.hp) tapeEvals_2_3_m5.nx) = true := by kernel_rfl
def tapeEvals_2_3_ms : List (Nat × List Memo) := [(21, [tapeEvals_2_3_m0, tapeEvals_2_3_m2]), (22, [tapeEvals_2_3_m1, tapeEvals_2_3_m3]), (25, [tapeEvals_2_3_m4]), (26, [tapeEvals_2_3_m5])]
theorem tapeEvals_2_3_mo : AllMem (memRun [(0, 3, 2)] (lenL 1 3 8 ++ []) tapeEvalsNms2) tapeEvals_2_3_ms := ⟨⟨tapeEvals_2_3_o0, tapeEvals_2_3_o2, trivial⟩, ⟨tapeEvals_2_3_o1, tapeEvals_2_3_o3, trivial⟩, ⟨tapeEvals_2_3_o4, trivial⟩, ⟨tapeEvals_2_3_o5, trivial⟩, trivial⟩
set_option maxRecDepth 1000000 in
set_option maxHeartbeats 100000000 in
theorem tapeEvals_2_3 : lawRunM 4 10 200 [.i, .q, .b, .q, .q, .i, .i] [(0, 3, 2)] (lenL 1 3 8 ++ []) tapeEvalsNms2 tapeEvals_2_3_ms = true := by kernel_rfl
def tapeEvals_2_0_m0 : Memo :=  (⟨[(.ag [(.i .i64 3), (.sl 19 0 4 (.u 4)), (.sl 25 0 3 (.u 1))]), (.c (.sl 32 0 3 (.u 1)))], [(19, tapeEvalsBTapeEvals8_13), (25, tapeEvalsBTapeEvals8_14), (32, tapeEvalsBTapeEvals8_2)], 33, (.c (.sl 57 0 3 (.n 3))), [(19, tapeEvalsBTapeEvals8_13), (25, tapeEvalsBTapeEvals8_14), (32, tapeEvalsBTapeEvals8_2), (57, tapeEvalsBTapeEvals8_15)], 58⟩) 
set_option maxRecDepth 1000000 in
set_option maxHeartbeats 100000000 in
theorem tapeEvals_2_0_o0 : memoOK tapeEvals_2_0_m0 (memRun [(0, 3, 2)] (lenL 1 0 8 ++ []) tapeEvalsNms2 21 tapeEvals_2_0_m0.args (tOf tapeEvals_2_0_m0.hp) tapeEvals_2_0_m0.nx) = true := by kernel_rfl
def tapeEvals_2_0_m1 : Memo :=  (⟨[(.ag [(.i .i64 3), (.sl 19 0 4 (.u 4)), (.sl 25 0 3 (.u 1))]), (.c (.sl 32 0 3 (.u 1)))], [(19, tapeEvalsBTapeEvals8_13), (25, tapeEvalsBTapeEvals8_14), (32, tapeEvalsBTapeEvals8_2)], 58, (.c (.sl 69 0 3 (.u 1))), [(19, tapeEvalsBTapeEvals8_13), (25, tapeEvalsBTapeEvals8_14), (32, tapeEvalsBTapeEvals8_2), (69, tapeEvalsBTapeEvals8_15)], 70⟩) 
set_option maxRecDepth 1000000 in
set_option maxHeartbeats 100000000 in
theorem tapeEvals_2_0_o1 : memoOK tapeEvals_2_0_m1 (memRun [(0, 3, 2)] (lenL 1 0 8 ++ []) tapeEvalsNms2 22 tapeEvals_2_0_m1.args (tOf tapeEvals_2_0_m1.hp) tapeEvals_2_0_m1.nx) = true := by kernel_rfl
def tapeEvals_2_0_m2 : Memo :=  (⟨[(.ag [(.i .i64 3), (.sl 19 0 4 (.u 4)), (.sl 25 0 3 (.u 1))]), (.c (.sl 32 0 3 (.u 1)))], [(19, tapeEvalsBTapeEvals8_13), (25, tapeEvalsBTapeEvals8_14), (32, tapeEvalsBTapeEvals8_4)], 76, (.c (.sl 100 0 3 (.n 3))), [(19, tapeEvalsBTapeEvals8_13), (25, tapeEvalsBTapeEvals8_14), (32, tapeEvalsBTapeEvals8_4), (100, tapeEvalsBTapeEvals8_16)], 101⟩) 
set_option maxRecDepth 1000000 in
set_option maxHeartbeats 100000000 in
theorem tapeEvals_2_0_o2 : memoOK tapeEvals_2_0_m2 (memRun [(0, 3, 2)] (lenL 1 0 8 ++ []) tapeEvalsNms2 21 tapeEvals_2_0_m2.args (tOf tapeEvals_2_0_m2.hp) tapeEvals_2_0_m2.nx) = true := by kernel_rfl
def tapeEvals_2_0_m3 : Memo :=  (⟨[(.ag [(.i .i64 3), (.sl 19 0 4 (.u 4)), (.sl 25 0 3 (.u 1))]), (.c (.sl 32 0 3 (.u 1)))], [(19, tapeEvalsBTapeEvals8_13), (25, tapeEvalsBTapeEvals8_14), (32, tapeEvalsBTapeEvals8_4)], 101, (.c (.sl 112 0 3 (.u 1))), [(19, tapeEvalsBTapeEvals8_13), (25, tapeEvalsBTapeEvals8_14), (32, tapeEvalsBTapeEvals8_4), (112, tapeEvalsBTapeEvals8_16)], 113⟩) 
set_option maxRecDepth 1000000 in
set_option maxHeartbeats 100000000 in
theorem tapeEvals_2_0_o3 : memoOK tapeEvals_2_0_m3 (memRun [(0, 3, 2)] (lenL 1 0 8 ++ []) tapeEvalsNms2 22 tapeEvals_2_0_m3.args (tOf tapeEvals_2_0_m3.hp) tapeEvals_2_0_m3.nx) = true := by kernel_rfl
def tapeEvals_2_0_m4 : Memo :=  (⟨[(.ag [(.i .i64 3), (.sl 19 0 4 (.u 4)), (.sl 25 0 3 (.u 1))]), (.c (.sl 75 0 3 (.u 2)))], [(19, tapeEvalsBTapeEvals8_13), (25, tapeEvalsBTapeEvals8_14), (75, tapeEvalsBTapeEvals8_6)], 113, (.c (.sl 142 0 3 (.n 3))), [(19, tapeEvalsBTapeEvals8_13), (25, tapeEvalsBTapeEvals8_14), (75, tapeEvalsBTapeEvals8_6), (142, tapeEvalsBTapeEvals8_17)], 143⟩) 
set_option maxRecDepth 1000000 in
set_option maxHeartbeats 100000000 in
theorem tapeEvals_2_0_o4 : memoOK tapeEvals_2_0_m4 (memRun [(0, 3, 2)] (lenL 1 0 8 ++ []) tapeEvalsNms2 25 tapeEvals_2_0_m4.args (tOf tapeEvals_2_0_m4.hp) tapeEvals_2_0_m4.nx) = true := by kernel_rfl
def tapeEvals_2_0_m5 : Memo :=  (⟨[(.ag [(.i .i64 3), (.sl 19 0 4 (.u 4)), (.sl 25 0 3 (.u 1))]), (.c (.sl 75 0 3 (.u 2)))], [(19, tapeEvalsBTapeEvals8_13), (25, tapeEvalsBTapeEvals8_14), (75, tapeEvalsBTapeEvals8_6)], 143, (.c (.sl 155 0 3 (.u 2))), [(19, tapeEvalsBTapeEvals8_13), (25, tapeEvalsBTapeEvals8_14), (75, tapeEvalsBTapeEvals8_6), (155, tapeEvalsBTapeEvals8_17)], 156⟩) 
set_option maxRecDepth 1000000 in
set_option maxHeartbeats 100000000 in
theorem tapeEvals_2_0_o5 : memoOK tapeEvals_2_0_m5 (memRun [(0, 3, 2)] (lenL 1 0 8 ++ []) tapeEvalsNms2 26 tapeEvals_2_0_m5.args (tOf tapeEvals_2_0_m5.hp) tapeEvals_2_0_m5.nx) = true := by kernel_rfl
def tapeEvals_2_0_ms : List (Nat × List Memo) := [(21, [tapeEvals_2_0_m0, tapeEvals_2_0_m2]), (22, [tapeEvals_2_0_m1, tapeEvals_2_0_m3]), (25, [tapeEvals_2_0_m4]), (26, [tapeEvals_2_0_m5])]
theorem tapeEvals_2_0_mo : AllMem (memRun [(0, 3, 2)] (lenL 1 0 8 ++ []) tapeEvalsNms2) tapeEvals_2_0_ms := ⟨⟨tapeEvals_2_0_o0, tapeEvals_2_0_o2, trivial⟩, ⟨tapeEvals_2_0_o1, tapeEvals_2_0_o3, trivial⟩, ⟨tapeEvals_2_0_o4, trivial⟩, ⟨tapeEvals_2_0_o5, trivial⟩, trivial⟩
set_option maxRecDepth 1000000 in
set_option maxHeartbeats 100000000 in
theorem tapeEvals_2_0 : lawRunM 4 10 200 [.i, .q, .b, .q, .q, .i, .i] [(0, 3, 2)] (lenL 1 0 8 ++ []) tapeEvalsNms2 tapeEvals_2_0_ms = true := by kernel_rfl
end Go.Proofs.Yticbgaflhiokgaa
