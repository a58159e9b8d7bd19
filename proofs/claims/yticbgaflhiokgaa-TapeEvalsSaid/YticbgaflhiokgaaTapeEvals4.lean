/-
  'TapeEvals': runs of it, part 4.
-/
import Derived.Test.YticbgaflhiokgaaTapeEvalst1
namespace Go.Proofs.Yticbgaflhiokgaa
open Go.RowKit Ex
def tapeEvalsMTapeEvals4_0 : E := (.ic .eql (.ai 9 0 (.ci (.at 1 0) (.ci (.li 11) .n0))) (.li 0))
def tapeEvalsMTapeEvals4_1 : E := (.ib .add .i64 (.li 2) (.ai 9 0 (.ci (.at 1 0) (.ci (.li 3) .n0))))
def tapeEvalsMTapeEvals4_2 : E := (.ic .eql (.ai 9 0 (.ci (.at 1 1) (.ci (.li 11) .n0))) (.li 0))
def tapeEvalsMTapeEvals4_3 : E := (.ib .add .i64 (.li 2) (.ai 9 0 (.ci (.at 1 1) (.ci (.li 3) .n0))))
def tapeEvalsMTapeEvals4_4 : E := (.ic .eql (.ai 9 0 (.ci (.at 1 2) (.ci (.li 11) .n0))) (.li 0))
def tapeEvalsMTapeEvals4_5 : E := (.ib .add .i64 (.li 2) (.ai 9 0 (.ci (.at 1 2) (.ci (.li 3) .n0))))
def tapeEvalsMTapeEvals4_6 : E := (.ic .eql (.ai 9 0 (.ci (.at 1 3) (.ci (.li 11) .n0))) (.li 0))
def tapeEvalsMTapeEvals4_7 : E := (.ib .add .i64 (.li 2) (.ai 9 0 (.ci (.at 1 3) (.ci (.li 3) .n0))))
def tapeEvalsMTapeEvals4_8 : E := (.ic .eql (.ai 9 0 (.ci (.at 1 4) (.ci (.li 11) .n0))) (.li 0))
def tapeEvalsMTapeEvals4_9 : E := (.ib .add .i64 (.li 2) (.ai 9 0 (.ci (.at 1 4) (.ci (.li 3) .n0))))
def tapeEvalsMTapeEvals4_10 : E := (.ic .eql (.ai 9 0 (.ci (.at 1 5) (.ci (.li 11) .n0))) (.li 0))
def tapeEvalsMTapeEvals4_11 : E := (.ib .add .i64 (.li 2) (.ai 9 0 (.ci (.at 1 5) (.ci (.li 3) .n0))))
def tapeEvalsMTapeEvals4_12 : E := (.ic .eql (.ai 9 0 (.ci (.at 1 6) (.ci (.li 11) .n0))) (.li 0))
def tapeEvalsMTapeEvals4_13 : E := (.ib .add .i64 (.li 2) (.ai 9 0 (.ci (.at 1 6) (.ci (.li 3) .n0))))
def tapeEvalsMTapeEvals4_14 : E := (.ib .quo .i64 (.vi 0) (.li 3))
def tapeEvalsMTapeEvals4_15 : E := (.ai 9 0 (.ci (.ib .add .i64 tapeEvalsMTapeEvals4_14 (.li 0)) (.ci (.li 3) .n0)))
def tapeEvalsMTapeEvals4_16 : E := (.ai 9 0 (.ci (.ib .add .i64 tapeEvalsMTapeEvals4_14 (.li 1)) (.ci (.li 3) .n0)))
def tapeEvalsBTapeEvals4_0 : Blk := [(.i .i64 1), (.i .i64 0), (.i .i64 0), (.f 0), (.i .i64 1), (.i .i64 1), (.i .i64 0), (.f 0), (.i .i64 0), (.i .i64 0), (.i .i64 0), (.ef (.fb .quo (.i2f (.ib .sub .i64 (.ai 9 0 (.ci (.vi 0) (.ci (.li 17) .n0))) (.li 8))) (.lf 4616189618054758400))), (.ei .i64 (.ti tapeEvalsMTapeEvals4_0 (.li 0) (.ti (.vb 2) (.ti (.ic .eql (.ai 9 0 (.ci (.at 1 0) (.ci (.li 7) .n0))) (.li 0)) (.li 5) tapeEvalsMTapeEvals4_1) tapeEvalsMTapeEvals4_1))), (.ei .i64 (.ti tapeEvalsMTapeEvals4_0 (.li 0) (.ai 9 0 (.ci (.ib .quo .i64 (.at 1 0) (.li 4)) (.ci (.li 3) .n0))))), (.ei .i64 (.ti tapeEvalsMTapeEvals4_0 (.li 0) (.ai 9 0 (.ci (.ib .quo .i64 (.at 1 0) (.li 40)) (.ci (.li 3) .n0))))), (.ef (.tf tapeEvalsMTapeEvals4_0 (.fb .quo (.i2f (.ib .sub .i64 (.ai 9 0 (.ci (.ib .quo .i64 (.at 1 0) (.li 11)) (.ci (.li 33) .n0))) (.li 16))) (.lf 4620693217682128896)) (.lf 0))), (.ei .i64 (.ti tapeEvalsMTapeEvals4_2 (.li 0) (.ti (.vb 2) (.ti (.ic .eql (.ai 9 0 (.ci (.at 1 1) (.ci (.li 7) .n0))) (.li 0)) (.li 5) tapeEvalsMTapeEvals4_3) tapeEvalsMTapeEvals4_3))), (.ei .i64 (.ti tapeEvalsMTapeEvals4_2 (.li 0) (.ai 9 0 (.ci (.ib .quo .i64 (.at 1 1) (.li 4)) (.ci (.li 4) .n0))))), (.ei .i64 (.ti tapeEvalsMTapeEvals4_2 (.li 0) (.ai 9 0 (.ci (.ib .quo .i64 (.at 1 1) (.li 40)) (.ci (.li 4) .n0))))), (.ef (.tf tapeEvalsMTapeEvals4_2 (.fb .quo (.i2f (.ib .sub .i64 (.ai 9 0 (.ci (.ib .quo .i64 (.at 1 1) (.li 11)) (.ci (.li 33) .n0))) (.li 16))) (.lf 4620693217682128896)) (.lf 0))), (.ei .i64 (.ti tapeEvalsMTapeEvals4_4 (.li 0) (.ti (.vb 2) (.ti (.ic .eql (.ai 9 0 (.ci (.at 1 2) (.ci (.li 7) .n0))) (.li 0)) (.li 5) tapeEvalsMTapeEvals4_5) tapeEvalsMTapeEvals4_5))), (.ei .i64 (.ti tapeEvalsMTapeEvals4_4 (.li 0) (.ai 9 0 (.ci (.ib .quo .i64 (.at 1 2) (.li 4)) (.ci (.li 5) .n0))))), (.ei .i64 (.ti tapeEvalsMTapeEvals4_4 (.li 0) (.ai 9 0 (.ci (.ib .quo .i64 (.at 1 2) (.li 40)) (.ci (.li 5) .n0))))), (.ef (.tf tapeEvalsMTapeEvals4_4 (.fb .quo (.i2f (.ib .sub .i64 (.ai 9 0 (.ci (.ib .quo .i64 (.at 1 2) (.li 11)) (.ci (.li 33) .n0))) (.li 16))) (.lf 4620693217682128896)) (.lf 0))), (.ei .i64 (.ti tapeEvalsMTapeEvals4_6 (.li 0) (.ti (.vb 2) (.ti (.ic .eql (.ai 9 0 (.ci (.at 1 3) (.ci (.li 7) .n0))) (.li 0)) (.li 5) tapeEvalsMTapeEvals4_7) tapeEvalsMTapeEvals4_7))), (.ei .i64 (.ti tapeEvalsMTapeEvals4_6 (.li 0) (.ai 9 0 (.ci (.ib .quo .i64 (.at 1 3) (.li 4)) (.ci (.li 6) .n0))))), (.ei .i64 (.ti tapeEvalsMTapeEvals4_6 (.li 0) (.ai 9 0 (.ci (.ib .quo .i64 (.at 1 3) (.li 40)) (.ci (.li 6) .n0))))), (.ef (.tf tapeEvalsMTapeEvals4_6 (.fb .quo (.i2f (.ib .sub .i64 (.ai 9 0 (.ci (.ib .quo .i64 (.at 1 3) (.li 11)) (.ci (.li 33) .n0))) (.li 16))) (.lf 4620693217682128896)) (.lf 0))), (.ei .i64 (.ti tapeEvalsMTapeEvals4_8 (.li 0) (.ti (.vb 2) (.ti (.ic .eql (.ai 9 0 (.ci (.at 1 4) (.ci (.li 7) .n0))) (.li 0)) (.li 5) tapeEvalsMTapeEvals4_9) tapeEvalsMTapeEvals4_9))), (.ei .i64 (.ti tapeEvalsMTapeEvals4_8 (.li 0) (.ai 9 0 (.ci (.ib .quo .i64 (.at 1 4) (.li 4)) (.ci (.li 7) .n0))))), (.ei .i64 (.ti tapeEvalsMTapeEvals4_8 (.li 0) (.ai 9 0 (.ci (.ib .quo .i64 (.at 1 4) (.li 40)) (.ci (.li 7) .n0))))), (.ef (.tf tapeEvalsMTapeEvals4_8 (.fb .quo (.i2f (.ib .sub .i64 (.ai 9 0 (.ci (.ib .quo .i64 (.at 1 4) (.li 11)) (.ci (.li 33) .n0))) (.li 16))) (.lf 4620693217682128896)) (.lf 0))), (.ei .i64 (.ti tapeEvalsMTapeEvals4_10 (.li 0) (.ti (.vb 2) (.ti (.ic .eql (.ai 9 0 (.ci (.at 1 5) (.ci (.li 7) .n0))) (.li 0)) (.li 5) tapeEvalsMTapeEvals4_11) tapeEvalsMTapeEvals4_11))), (.ei .i64 (.ti tapeEvalsMTapeEvals4_10 (.li 0) (.ai 9 0 (.ci (.ib .quo .i64 (.at 1 5) (.li 4)) (.ci (.li 8) .n0))))), (.ei .i64 (.ti tapeEvalsMTapeEvals4_10 (.li 0) (.ai 9 0 (.ci (.ib .quo .i64 (.at 1 5) (.li 40)) (.ci (.li 8) .n0))))), (.ef (.tf tapeEvalsMTapeEvals4_10 (.fb .quo (.i2f (.ib .sub .i64 (.ai 9 0 (.ci (.ib .quo .i64 (.at 1 5) (.li 11)) (.ci (.li 33) .n0))) (.li 16))) (.lf 4620693217682128896)) (.lf 0))), (.ei .i64 (.ti tapeEvalsMTapeEvals4_12 (.li 0) (.ti (.vb 2) (.ti (.ic .eql (.ai 9 0 (.ci (.at 1 6) (.ci (.li 7) .n0))) (.li 0)) (.li 5) tapeEvalsMTapeEvals4_13) tapeEvalsMTapeEvals4_13))), (.ei .i64 (.ti tapeEvalsMTapeEvals4_12 (.li 0) (.ai 9 0 (.ci (.ib .quo .i64 (.at 1 6) (.li 4)) (.ci (.li 9) .n0))))), (.ei .i64 (.ti tapeEvalsMTapeEvals4_12 (.li 0) (.ai 9 0 (.ci (.ib .quo .i64 (.at 1 6) (.li 40)) (.ci (.li 9) .n0))))), (.ef (.tf tapeEvalsMTapeEvals4_12 (.fb .quo (.i2f (.ib .sub .i64 (.ai 9 0 (.ci (.ib .quo .i64 (.at 1 6) (.li 11)) (.ci (.li 33) .n0))) (.li 16))) (.lf 4620693217682128896)) (.lf 0)))]
def tapeEvalsBTapeEvals4_1 : Blk := [(.ei .i64 (.ib .sub .i64 (.li 9) tapeEvalsMTapeEvals4_15)), (.ei .i64 (.ib .sub .i64 (.li 9) tapeEvalsMTapeEvals4_16))]
def tapeEvalsBTapeEvals4_2 : Blk := [(.ef (.fb .quo (.i2f (.ib .sub .i64 (.ai 9 0 (.ci (.ti (.ic .lss (.li 0) (.vl 3)) (.at 3 0) (.li 0)) (.ci (.li 65) .n0))) (.li 32))) (.lf 4620693217682128896))), (.ef (.fb .quo (.i2f (.ib .sub .i64 (.ai 9 0 (.ci (.ti (.ic .lss (.li 1) (.vl 3)) (.at 3 1) (.li 1)) (.ci (.li 65) .n0))) (.li 32))) (.lf 4620693217682128896)))]
def tapeEvalsBTapeEvals4_3 : Blk := [(.ef (.vf 379)), (.ef (.vf 380))]
def tapeEvalsBTapeEvals4_4 : Blk := [(.ef (.vf 158)), (.ef (.vf 162))]
def tapeEvalsBTapeEvals4_5 : Blk := [(.ef (.vf 381)), (.ef (.vf 382))]
def tapeEvalsBTapeEvals4_6 : Blk := [(.ef (.vf 159)), (.ef (.vf 160)), (.ef (.vf 163)), (.ef (.vf 164))]
def tapeEvalsBTapeEvals4_7 : Blk := [(.ef (.vf 383)), (.ef (.vf 384)), (.ef (.vf 385)), (.ef (.vf 386))]
def tapeEvalsBTapeEvals4_8 : Blk := [(.i .i64 1), (.i .i64 0), (.i .i64 0), (.f 0), (.i .i64 1), (.i .i64 1), (.i .i64 0), (.f 0), (.i .i64 0), (.i .i64 0), (.i .i64 0), (.ef (.fb .quo (.i2f (.ib .sub .i64 (.ai 9 0 (.ci (.vi 0) (.ci (.li 17) .n0))) (.li 8))) (.lf 4616189618054758400))), (.ei .i64 (.ti tapeEvalsMTapeEvals4_0 (.li 0) (.ti (.vb 2) (.ti (.ic .eql (.ai 9 0 (.ci (.at 1 0) (.ci (.li 7) .n0))) (.li 0)) (.li 5) tapeEvalsMTapeEvals4_1) tapeEvalsMTapeEvals4_1))), (.ei .i64 (.ti tapeEvalsMTapeEvals4_0 (.li 0) (.ai 9 0 (.ci (.ib .quo .i64 (.at 1 0) (.li 4)) (.ci (.li 3) .n0))))), (.ei .i64 (.ti tapeEvalsMTapeEvals4_0 (.li 0) (.ai 9 0 (.ci (.ib .quo .i64 (.at 1 0) (.li 40)) (.ci (.li 3) .n0))))), (.ef (.tf tapeEvalsMTapeEvals4_0 (.fb .quo (.i2f (.ib .sub .i64 (.ai 9 0 (.ci (.ib .quo .i64 (.at 1 0) (.li 11)) (.ci (.li 33) .n0))) (.li 16))) (.lf 4620693217682128896)) (.lf 0))), (.ei .i64 (.ti tapeEvalsMTapeEvals4_2 (.li 0) (.ti (.vb 2) (.ti (.ic .eql (.ai 9 0 (.ci (.at 1 1) (.ci (.li 7) .n0))) (.li 0)) (.li 5) tapeEvalsMTapeEvals4_3) tapeEvalsMTapeEvals4_3))), (.ei .i64 (.ti tapeEvalsMTapeEvals4_2 (.li 0) (.ai 9 0 (.ci (.ib .quo .i64 (.at 1 1) (.li 4)) (.ci (.li 4) .n0))))), (.ei .i64 (.ti tapeEvalsMTapeEvals4_2 (.li 0) (.ai 9 0 (.ci (.ib .quo .i64 (.at 1 1) (.li 40)) (.ci (.li 4) .n0))))), (.ef (.tf tapeEvalsMTapeEvals4_2 (.fb .quo (.i2f (.ib .sub .i64 (.ai 9 0 (.ci (.ib .quo .i64 (.at 1 1) (.li 11)) (.ci (.li 33) .n0))) (.li 16))) (.lf 4620693217682128896)) (.lf 0))), (.ei .i64 (.ti tapeEvalsMTapeEvals4_4 (.li 0) (.ti (.vb 2) (.ti (.ic .eql (.ai 9 0 (.ci (.at 1 2) (.ci (.li 7) .n0))) (.li 0)) (.li 5) tapeEvalsMTapeEvals4_5) tapeEvalsMTapeEvals4_5))), (.ei .i64 (.ti tapeEvalsMTapeEvals4_4 (.li 0) (.ai 9 0 (.ci (.ib .quo .i64 (.at 1 2) (.li 4)) (.ci (.li 5) .n0))))), (.ei .i64 (.ti tapeEvalsMTapeEvals4_4 (.li 0) (.ai 9 0 (.ci (.ib .quo .i64 (.at 1 2) (.li 40)) (.ci (.li 5) .n0))))), (.ef (.tf tapeEvalsMTapeEvals4_4 (.fb .quo (.i2f (.ib .sub .i64 (.ai 9 0 (.ci (.ib .quo .i64 (.at 1 2) (.li 11)) (.ci (.li 33) .n0))) (.li 16))) (.lf 4620693217682128896)) (.lf 0))), (.ei .i64 (.ti tapeEvalsMTapeEvals4_6 (.li 0) (.ti (.vb 2) (.ti (.ic .eql (.ai 9 0 (.ci (.at 1 3) (.ci (.li 7) .n0))) (.li 0)) (.li 5) tapeEvalsMTapeEvals4_7) tapeEvalsMTapeEvals4_7))), (.ei .i64 (.ti tapeEvalsMTapeEvals4_6 (.li 0) (.ai 9 0 (.ci (.ib .quo .i64 (.at 1 3) (.li 4)) (.ci (.li 6) .n0))))), (.ei .i64 (.ti tapeEvalsMTapeEvals4_6 (.li 0) (.ai 9 0 (.ci (.ib .quo .i64 (.at 1 3) (.li 40)) (.ci (.li 6) .n0))))), (.ef (.tf tapeEvalsMTapeEvals4_6 (.fb .quo (.i2f (.ib .sub .i64 (.ai 9 0 (.ci (.ib .quo .i64 (.at 1 3) (.li 11)) (.ci (.li 33) .n0))) (.li 16))) (.lf 4620693217682128896)) (.lf 0)))]
def tapeEvalsBTapeEvals4_9 : Blk := [(.ei .i64 (.ib .sub .i64 (.li 6) tapeEvalsMTapeEvals4_15)), (.ei .i64 (.ib .sub .i64 (.li 6) tapeEvalsMTapeEvals4_16))]
def tapeEvalsBTapeEvals4_10 : Blk := [(.ef (.vf 403)), (.ef (.vf 404))]
def tapeEvalsBTapeEvals4_11 : Blk := [(.ef (.vf 405)), (.ef (.vf 406))]
def tapeEvalsBTapeEvals4_12 : Blk := [(.ef (.vf 407)), (.ef (.vf 408)), (.ef (.vf 409)), (.ef (.vf 410))]
def tapeEvalsBTapeEvals4_13 : Blk := [(.i .i64 1), (.i .i64 0), (.i .i64 0), (.f 0), (.i .i64 1), (.i .i64 1), (.i .i64 0), (.f 0), (.i .i64 0), (.i .i64 0), (.i .i64 0), (.ef (.fb .quo (.i2f (.ib .sub .i64 (.ai 9 0 (.ci (.vi 0) (.ci (.li 17) .n0))) (.li 8))) (.lf 4616189618054758400))), (.ei .i64 (.ti tapeEvalsMTapeEvals4_0 (.li 0) (.ti (.vb 2) (.ti (.ic .eql (.ai 9 0 (.ci (.at 1 0) (.ci (.li 7) .n0))) (.li 0)) (.li 5) tapeEvalsMTapeEvals4_1) tapeEvalsMTapeEvals4_1))), (.ei .i64 (.ti tapeEvalsMTapeEvals4_0 (.li 0) (.ai 9 0 (.ci (.ib .quo .i64 (.at 1 0) (.li 4)) (.ci (.li 3) .n0))))), (.ei .i64 (.ti tapeEvalsMTapeEvals4_0 (.li 0) (.ai 9 0 (.ci (.ib .quo .i64 (.at 1 0) (.li 40)) (.ci (.li 3) .n0))))), (.ef (.tf tapeEvalsMTapeEvals4_0 (.fb .quo (.i2f (.ib .sub .i64 (.ai 9 0 (.ci (.ib .quo .i64 (.at 1 0) (.li 11)) (.ci (.li 33) .n0))) (.li 16))) (.lf 4620693217682128896)) (.lf 0)))]
def tapeEvalsBTapeEvals4_14 : Blk := [(.ei .i64 (.ib .sub .i64 (.li 3) tapeEvalsMTapeEvals4_15)), (.ei .i64 (.ib .sub .i64 (.li 3) tapeEvalsMTapeEvals4_16))]
def tapeEvalsBTapeEvals4_15 : Blk := [(.ef (.vf 427)), (.ef (.vf 428))]
def tapeEvalsBTapeEvals4_16 : Blk := [(.ef (.vf 429)), (.ef (.vf 430))]
def tapeEvalsBTapeEvals4_17 : Blk := [(.ef (.vf 431)), (.ef (.vf 432)), (.ef (.vf 433)), (.ef (.vf 434))]
def tapeEvals_1_7_m0 : Memo :=  (⟨[(.ag [(.i .i64 2), (.sl 38 0 10 (.u 4)), (.sl 42 0 2 (.u 1))]), (.c (.sl 47 0 2 (.u 1)))], [(38, tapeEvalsBTapeEvals4_0), (42, tapeEvalsBTapeEvals4_1), (47, tapeEvalsBTapeEvals4_2)], 48, (.c (.sl 96 0 2 (.n 2))), [(38, tapeEvalsBTapeEvals4_0), (42, tapeEvalsBTapeEvals4_1), (47, tapeEvalsBTapeEvals4_2), (96, tapeEvalsBTapeEvals4_3)], 97⟩) 
set_option maxRecDepth 1000000 in
set_option maxHeartbeats 100000000 in
theorem tapeEvals_1_7_o0 : memoOK tapeEvals_1_7_m0 (memRun [(0, 3, 1)] (lenL 1 7 8 ++ []) tapeEvalsNms1 21 tapeEvals_1_7_m0.args (tOf tapeEvals_1_7_m0.hp) tapeEvals_1_7_m0.nx) = true := by kernel_rfl
def tapeEvals_1_7_m1 : Memo :=  (⟨[(.ag [(.i .i64 2), (.sl 38 0 10 (.u 4)), (.sl 42 0 2 (.u 1))]), (.c (.sl 47 0 2 (.u 1)))], [(38, tapeEvalsBTapeEvals4_0), (42, tapeEvalsBTapeEvals4_1), (47, tapeEvalsBTapeEvals4_2)], 97, (.c (.sl 112 0 2 (.u 1))), [(38, tapeEvalsBTapeEvals4_0), (42, tapeEvalsBTapeEvals4_1), (47, tapeEvalsBTapeEvals4_2), (112, tapeEvalsBTapeEvals4_3)], 113⟩) 
set_option maxRecDepth 1000000 in
set_option maxHeartbeats 100000000 in
theorem tapeEvals_1_7_o1 : memoOK tapeEvals_1_7_m1 (memRun [(0, 3, 1)] (lenL 1 7 8 ++ []) tapeEvalsNms1 22 tapeEvals_1_7_m1.args (tOf tapeEvals_1_7_m1.hp) tapeEvals_1_7_m1.nx) = true := by kernel_rfl
def tapeEvals_1_7_m2 : Memo :=  (⟨[(.ag [(.i .i64 2), (.sl 38 0 10 (.u 4)), (.sl 42 0 2 (.u 1))]), (.c (.sl 47 0 2 (.u 1)))], [(38, tapeEvalsBTapeEvals4_0), (42, tapeEvalsBTapeEvals4_1), (47, tapeEvalsBTapeEvals4_4)], 117, (.c (.sl 165 0 2 (.n 2))), [(38, tapeEvalsBTapeEvals4_0), (42, tapeEvalsBTapeEvals4_1), (47, tapeEvalsBTapeEvals4_4), (165, tapeEvalsBTapeEvals4_5)], 166⟩) 
set_option maxRecDepth 1000000 in
set_option maxHeartbeats 100000000 in
theorem tapeEvals_1_7_o2 : memoOK tapeEvals_1_7_m2 (memRun [(0, 3, 1)] (lenL 1 7 8 ++ []) tapeEvalsNms1 21 tapeEvals_1_7_m2.args (tOf tapeEvals_1_7_m2.hp) tapeEvals_1_7_m2.nx) = true := by kernel_rfl
def tapeEvals_1_7_m3 : Memo :=  (⟨[(.ag [(.i .i64 2), (.sl 38 0 10 (.u 4)), (.sl 42 0 2 (.u 1))]), (.c (.sl 47 0 2 (.u 1)))], [(38, tapeEvalsBTapeEvals4_0), (42, tapeEvalsBTapeEvals4_1), (47, tapeEvalsBTapeEvals4_4)], 166, (.c (.sl 181 0 2 (.u 1))), [(38, tapeEvalsBTapeEvals4_0), (42, tapeEvalsBTapeEvals4_1), (47, tapeEvalsBTapeEvals4_4), (181, tapeEvalsBTapeEvals4_5)], 182⟩) 
set_option maxRecDepth 1000000 in
set_option maxHeartbeats 100000000 in
theorem tapeEvals_1_7_o3 : memoOK tapeEvals_1_7_m3 (memRun [(0, 3, 1)] (lenL 1 7 8 ++ []) tapeEvalsNms1 22 tapeEvals_1_7_m3.args (tOf tapeEvals_1_7_m3.hp) tapeEvals_1_7_m3.nx) = true := by kernel_rfl
def tapeEvals_1_7_m4 : Memo :=  (⟨[(.ag [(.i .i64 2), (.sl 38 0 10 (.u 4)), (.sl 42 0 2 (.u 1))]), (.c (.sl 116 0 2 (.u 2)))], [(38, tapeEvalsBTapeEvals4_0), (42, tapeEvalsBTapeEvals4_1), (116, tapeEvalsBTapeEvals4_6)], 182, (.c (.sl 248 0 2 (.n 2))), [(38, tapeEvalsBTapeEvals4_0), (42, tapeEvalsBTapeEvals4_1), (116, tapeEvalsBTapeEvals4_6), (248, tapeEvalsBTapeEvals4_7)], 249⟩) 
set_option maxRecDepth 1000000 in
set_option maxHeartbeats 100000000 in
theorem tapeEvals_1_7_o4 : memoOK tapeEvals_1_7_m4 (memRun [(0, 3, 1)] (lenL 1 7 8 ++ []) tapeEvalsNms1 25 tapeEvals_1_7_m4.args (tOf tapeEvals_1_7_m4.hp) tapeEvals_1_7_m4.nx) = true := by kernel_rfl
def tapeEvals_1_7_m5 : Memo :=  (⟨[(.ag [(.i .i64 2), (.sl 38 0 10 (.u 4)), (.sl 42 0 2 (.u 1))]), (.c (.sl 116 0 2 (.u 2)))], [(38, tapeEvalsBTapeEvals4_0), (42, tapeEvalsBTapeEvals4_1), (116, tapeEvalsBTapeEvals4_6)], 249, (.c (.sl 286 0 2 (.u 2))), [(38, tapeEvalsBTapeEvals4_0), (42, tapeEvalsBTapeEvals4_1), (116, tapeEvalsBTapeEvals4_6), (286, tapeEvalsBTapeEvals4_7)], 287⟩) 
set_option maxRecDepth 1000000 in
set_option maxHeartbeats 100000000 in
theorem tapeEvals_1_7_o5 : memoOK tapeEvals_1_7_m5 (memRun [(0, 3, 1)] (lenL 1 7 8 ++ []) tapeEvalsNms1 26 tapeEvals_1_7_m5.args (tOf tapeEvals_1_7_m5.hp) tapeEvals_1_7_m5.nx) = true := by kernel_rfl
def tapeEvals_1_7_ms : List (Nat × List Memo) := [(21, [tapeEvals_1_7_m0, tapeEvals_1_7_m2]), (22, [tapeEvals_1_7_m1, tapeEvals_1_7_m3]), (25, [tapeEvals_1_7_m4]), (26, [tapeEvals_1_7_m5])]
theorem tapeEvals_1_7_mo : AllMem (memRun [(0, 3, 1)] (lenL 1 7 8 ++ []) tapeEvalsNms1) tapeEvals_1_7_ms := ⟨⟨tapeEvals_1_7_o0, tapeEvals_1_7_o2, trivial⟩, ⟨tapeEvals_1_7_o1, tapeEvals_1_7_o3, trivial⟩, ⟨tapeEvals_1_7_o4, trivial⟩, ⟨tapeEvals_1_7_o5, trivial⟩, trivial⟩
set_option maxRecDepth 1000000 in
set_option maxHeartbeats 100000000 in
theorem tapeEvals_1_7 : lawRunM 4 10 200 [.i, .q, .b, .q, .q, .i, .i] [(0, 3, 1)] (lenL 1 7 8 ++ []) tapeEvalsNms1 tapeEvals_1_7_ms = true := by kernel_rfl
def tapeEvals_1_4_m0 : Memo :=  (⟨[(.ag [(.i .i64 2), (.sl 29 0 7 (.u 4)), (.sl 33 0 2 (.u 1))]), (.c (.sl 38 0 2 (.u 1)))], [(29, tapeEvalsBTapeEvals4_8), (33, tapeEvalsBTapeEvals4_9), (38, tapeEvalsBTapeEvals4_2)], 39, (.c (.sl 75 0 2 (.n 2))), [(29, tapeEvalsBTapeEvals4_8), (33, tapeEvalsBTapeEvals4_9), (38, tapeEvalsBTapeEvals4_2), (75, tapeEvalsBTapeEvals4_10)], 76⟩) 
set_option maxRecDepth 1000000 in
set_option maxHeartbeats 100000000 in
theorem tapeEvals_1_4_o0 : memoOK tapeEvals_1_4_m0 (memRun [(0, 3, 1)] (lenL 1 4 8 ++ []) tapeEvalsNms1 21 tapeEvals_1_4_m0.args (tOf tapeEvals_1_4_m0.hp) tapeEvals_1_4_m0.nx) = true := by kernel_rfl
def tapeEvals_1_4_m1 : Memo :=  (⟨[(.ag [(.i .i64 2), (.sl 29 0 7 (.u 4)), (.sl 33 0 2 (.u 1))]), (.c (.sl 38 0 2 (.u 1)))], [(29, tapeEvalsBTapeEvals4_8), (33, tapeEvalsBTapeEvals4_9), (38, tapeEvalsBTapeEvals4_2)], 76, (.c (.sl 88 0 2 (.u 1))), [(29, tapeEvalsBTapeEvals4_8), (33, tapeEvalsBTapeEvals4_9), (38, tapeEvalsBTapeEvals4_2), (88, tapeEvalsBTapeEvals4_10)], 89⟩) 
set_option maxRecDepth 1000000 in
set_option maxHeartbeats 100000000 in
theorem tapeEvals_1_4_o1 : memoOK tapeEvals_1_4_m1 (memRun [(0, 3, 1)] (lenL 1 4 8 ++ []) tapeEvalsNms1 22 tapeEvals_1_4_m1.args (tOf tapeEvals_1_4_m1.hp) tapeEvals_1_4_m1.nx) = true := by kernel_rfl
def tapeEvals_1_4_m2 : Memo :=  (⟨[(.ag [(.i .i64 2), (.sl 29 0 7 (.u 4)), (.sl 33 0 2 (.u 1))]), (.c (.sl 38 0 2 (.u 1)))], [(29, tapeEvalsBTapeEvals4_8), (33, tapeEvalsBTapeEvals4_9), (38, tapeEvalsBTapeEvals4_4)], 93, (.c (.sl 129 0 2 (.n 2))), [(29, tapeEvalsBTapeEvals4_8), (33, tapeEvalsBTapeEvals4_9), (38, tapeEvalsBTapeEvals4_4), (129, tapeEvalsBTapeEvals4_11)], 130⟩) 
set_option maxRecDepth 1000000 in
set_option maxHeartbeats 100000000 in
theorem tapeEvals_1_4_o2 : memoOK tapeEvals_1_4_m2 (memRun [(0, 3, 1)] (lenL 1 4 8 ++ []) tapeEvalsNms1 21 tapeEvals_1_4_m2.args (tOf tapeEvals_1_4_m2.hp) tapeEvals_1_4_m2.nx) = true := by kernel_rfl
def tapeEvals_1_4_m3 : Memo :=  (⟨[(.ag [(.i .i64 2), (.sl 29 0 7 (.u 4)), (.sl 33 0 2 (.u 1))]), (.c (.sl 38 0 2 (.u 1)))], [(29, tapeEvalsBTapeEvals4_8), (33, tapeEvalsBTapeEvals4_9), (38, tapeEvalsBTapeEvals4_4)], 130, (.c (.sl 142 0 2 (.u 1))), [(29, tapeEvalsBTapeEvals4_8), (33, tapeEvalsBTapeEvals4_9), (38, tapeEvalsBTapeEvals4_4), (142, tapeEvalsBTapeEvals4_11)], 143⟩) 
set_option maxRecDepth 1000000 in
set_option maxHeartbeats 100000000 in
theorem tapeEvals_1_4_o3 : memoOK tapeEvals_1_4_m3 (memRun [(0, 3, 1)] (lenL 1 4 8 ++ []) tapeEvalsNms1 22 tapeEvals_1_4_m3.args (tOf tapeEvals_1_4_m3.hp) tapeEvals_1_4_m3.nx) = true := by kernel_rfl
def tapeEvals_1_4_m4 : Memo :=  (⟨[(.ag [(.i .i64 2), (.sl 29 0 7 (.u 4)), (.sl 33 0 2 (.u 1))]), (.c (.sl 92 0 2 (.u 2)))], [(29, tapeEvalsBTapeEvals4_8), (33, tapeEvalsBTapeEvals4_9), (92, tapeEvalsBTapeEvals4_6)], 143, (.c (.sl 191 0 2 (.n 2))), [(29, tapeEvalsBTapeEvals4_8), (33, tapeEvalsBTapeEvals4_9), (92, tapeEvalsBTapeEvals4_6), (191, tapeEvalsBTapeEvals4_12)], 192⟩) 
set_option maxRecDepth 1000000 in
set_option maxHeartbeats 100000000 in
theorem tapeEvals_1_4_o4 : memoOK tapeEvals_1_4_m4 (memRun [(0, 3, 1)] (lenL 1 4 8 ++ []) tapeEvalsNms1 25 tapeEvals_1_4_m4.args (tOf tapeEvals_1_4_m4.hp) tapeEvals_1_4_m4.nx) = true := by kernel_rfl
def tapeEvals_1_4_m5 : Memo :=  (⟨[(.ag [(.i .i64 2), (.sl 29 0 7 (.u 4)), (.sl 33 0 2 (.u 1))]), (.c (.sl 92 0 2 (.u 2)))], [(29, tapeEvalsBTapeEvals4_8), (33, tapeEvalsBTapeEvals4_9), (92, tapeEvalsBTapeEvals4_6)], 192, (.c (.sl 217 0 2 (.u 2))), [(29, tapeEvalsBTapeEvals4_8), (33, tapeEvalsBTapeEvals4_9), (92, tapeEvalsBTapeEvals4_6), (217, tapeEvalsBTapeEvals4_12)], 218⟩) 
set_option maxRecDepth 1000000 in
set_option maxHeartbeats 100000000 in
theorem tapeEvals_1_4_o5 : memoOK tapeEvals_1_4_m5 (memRun [(0, 3, 1)] (lenL 1 4 8 ++ []) tapeEvalsNms1 26 tapeEvals_1_4_m5.args (tOf tapeEvals_1_4_m5.hp) tapeEvals_1_4_m5.nx) = true := by kernel_rfl
def tapeEvals_1_4_ms : List (Nat × List Memo) := [(21, [tapeEvals_1_4_m0, tapeEvals_1_4_m2]), (22, [tapeEvals_1_4_m1, tapeEvals_1_4_m3]), (25, [tapeEvals_1_4_m4]), (26, [tapeEvals_1_4_m5])]
theorem tapeEvals_1_4_mo : AllMem (memRun [(0, 3, 1)] (lenL 1 4 8 ++ []) tapeEvalsNms1) tapeEvals_1_4_ms := ⟨⟨tapeEvals_1_4_o0, tapeEvals_1_4_o2, trivial⟩, ⟨tapeEvals_1_4_o1, tapeEvals_1_4_o3, trivial⟩, ⟨tapeEvals_1_4_o4, trivial⟩, ⟨tapeEvals_1_4_o5, trivial⟩, trivial⟩
set_option maxRecDepth 1000000 in
set_option maxHeartbeats 100000000 in
theorem tapeEvals_1_4 : lawRunM 4 10 200 [.i, .q, .b, .q, .q, .i, .i] [(0, 3, 1)] (lenL 1 4 8 ++ []) tapeEvalsNms1 tapeEvals_1_4_ms = true := by kernel_rfl
def tapeEvals_1_1_m0 : Memo :=  (⟨[(.ag [(.i .i64 2), (.sl 20 0 4 (.u 4)), (.sl 24 0 2 (.u 1))]), (.c (.sl 29 0 2 (.u 1)))], [(20, tapeEvalsBTapeEvals4_13), (24, tapeEvalsBTapeEvals4_14), (29, tapeEvalsBTapeEvals4_2)], 30, (.c (.sl 54 0 2 (.n 2))), [(20, tapeEvalsBTapeEvals4_13), (24, tapeEvalsBTapeEvals4_14), (29, tapeEvalsBTapeEvals4_2), (54, tapeEvalsBTapeEvals4_15)], 55⟩) 
set_option maxRecDepth 1000000 in
set_option maxHeartbeats 100000000 in
theorem tapeEvals_1_1_o0 : memoOK tapeEvals_1_1_m0 (memRun [(0, 3, 1)] (lenL 1 1 8 ++ []) tapeEvalsNms1 21 tapeEvals_1_1_m0.args (tOf tapeEvals_1_1_m0.hp) tapeEvals_1_1_m0.nx) = true := by kernel_rfl
def tapeEvals_1_1_m1 : Memo :=  (⟨[(.ag [(.i .i64 2), (.sl 20 0 4 (.u 4)), (.sl 24 0 2 (.u 1))]), (.c (.sl 29 0 2 (.u 1)))], [(20, tapeEvalsBTapeEvals4_13), (24, tapeEvalsBTapeEvals4_14), (29, tapeEvalsBTapeEvals4_2)], 55, (.c (.sl 64 0 2 (.u 1))), [(20, tapeEvalsBTapeEvals4_13), (24, tapeEvalsBTapeEvals4_14), (29, tapeEvalsBTapeEvals4_2), (64, tapeEvalsBTapeEvals4_15)], 65⟩) 
set_option maxRecDepth 1000000 in
set_option maxHeartbeats 100000000 in
theorem tapeEvals_1_1_o1 : memoOK tapeEvals_1_1_m1 (memRun [(0, 3, 1)] (lenL 1 1 8 ++ []) tapeEvalsNms1 22 tapeEvals_1_1_m1.args (tOf tapeEvals_1_1_m1.hp) tapeEvals_1_1_m1.nx) = true := by kernel_rfl
def tapeEvals_1_1_m2 : Memo :=  (⟨[(.ag [(.i .i64 2), (.sl 20 0 4 (.u 4)), (.sl 24 0 2 (.u 1))]), (.c (.sl 29 0 2 (.u 1)))], [(20, tapeEvalsBTapeEvals4_13), (24, tapeEvalsBTapeEvals4_14), (29, tapeEvalsBTapeEvals4_4)], 69, (.c (.sl 93 0 2 (.n 2))), [(20, tapeEvalsBTapeEvals4_13), (24, tapeEvalsBTapeEvals4_14), (29, tapeEvalsBTapeEvals4_4), (93, tapeEvalsBTapeEvals4_16)], 94⟩) 
set_option maxRecDepth 1000000 in
set_option maxHeartbeats 100000000 in
theorem tapeEvals_1_1_o2 : memoOK tapeEvals_1_1_m2 (memRun [(0, 3, 1)] (lenL 1 1 8 ++ []) tapeEvalsNms1 21 tapeEvals_1_1_m2.args (tOf tapeEvals_1_1_m2.hp) tapeEvals_1_1_m2.nx) = true := by kernel_rfl
def tapeEvals_1_1_m3 : Memo :=  (⟨[(.ag [(.i .i64 2), (.sl 20 0 4 (.u 4)), (.sl 24 0 2 (.u 1))]), (.c (.sl 29 0 2 (.u 1)))], [(20, tapeEvalsBTapeEvals4_13), (24, tapeEvalsBTapeEvals4_14), (29, tapeEvalsBTapeEvals4_4)], 94, (.c (.sl 103 0 2 (.u 1))), [(20, tapeEvalsBTapeEvals4_13), (24, tapeEvalsBTapeEvals4_14), (29, tapeEvalsBTapeEvals4_4), (103, tapeEvalsBTapeEvals4_16)], 104⟩) 
set_option maxRecDepth 1000000 in
set_option maxHeartbeats 100000000 in
theorem tapeEvals_1_1_o3 : memoOK tapeEvals_1_1_m3 (memRun [(0, 3, 1)] (lenL 1 1 8 ++ []) tapeEvalsNms1 22 tapeEvals_1_1_m3.args (tOf tapeEvals_1_1_m3.hp) tapeEvals_1_1_m3.nx) = true := by kernel_rfl
def tapeEvals_1_1_m4 : Memo :=  (⟨[(.ag [(.i .i64 2), (.sl 20 0 4 (.u 4)), (.sl 24 0 2 (.u 1))]), (.c (.sl 68 0 2 (.u 2)))], [(20, tapeEvalsBTapeEvals4_13), (24, tapeEvalsBTapeEvals4_14), (68, tapeEvalsBTapeEvals4_6)], 104, (.c (.sl 134 0 2 (.n 2))), [(20, tapeEvalsBTapeEvals4_13), (24, tapeEvalsBTapeEvals4_14), (68, tapeEvalsBTapeEvals4_6), (134, tapeEvalsBTapeEvals4_17)], 135⟩) 
set_option maxRecDepth 1000000 in
set_option maxHeartbeats 100000000 in
theorem tapeEvals_1_1_o4 : memoOK tapeEvals_1_1_m4 (memRun [(0, 3, 1)] (lenL 1 1 8 ++ []) tapeEvalsNms1 25 tapeEvals_1_1_m4.args (tOf tapeEvals_1_1_m4.hp) tapeEvals_1_1_m4.nx) = true := by kernel_rfl
def tapeEvals_1_1_m5 : Memo :=  (⟨[(.ag [(.i .i64 2), (.sl 20 0 4 (.u 4)), (.sl 24 0 2 (.u 1))]), (.c (.sl 68 0 2 (.u 2)))], [(20, tapeEvalsBTapeEvals4_13), (24, tapeEvalsBTapeEvals4_14), (68, tapeEvalsBTapeEvals4_6)], 135, (.c (.sl 148 0 2 (.u 2))), [(20, tapeEvalsBTapeEvals4_13), (24, tapeEvalsBTapeEvals4_14), (68, tapeEvalsBTapeEvals4_6), (148, tapeEvalsBTapeEvals4_17)], 149⟩) 
set_option maxRecDepth 1000000 in
set_option maxHeartbeats 100000000 in
theorem tapeEvals_1_1_o5 : memoOK tapeEvals_1_1_m5 (memRun [(0, 3, 1)] (lenL 1 1 8 ++ []) tapeEvalsNms1 26 tapeEvals_1_1_m5.args (tOf tapeEvals_1_1_m5.hp) tapeEvals_1_1_m5.nx) = true := by kernel_rfl
def tapeEvals_1_1_ms : List (Nat × List Memo) := [(21, [tapeEvals_1_1_m0, tapeEvals_1_1_m2]), (22, [tapeEvals_1_1_m1, tapeEvals_1_1_m3]), (25, [tapeEvals_1_1_m4]), (26, [tapeEvals_1_1_m5])]
theorem tapeEvals_1_1_mo : AllMem (memRun [(0, 3, 1)] (lenL 1 1 8 ++ []) tapeEvalsNms1) tapeEvals_1_1_ms := ⟨⟨tapeEvals_1_1_o0, tapeEvals_1_1_o2, trivial⟩, ⟨tapeEvals_1_1_o1, tapeEvals_1_1_o3, trivial⟩, ⟨tapeEvals_1_1_o4, trivial⟩, ⟨tapeEvals_1_1_o5, trivial⟩, trivial⟩
set_option maxRecDepth 1000000 in
set_option maxHeartbeats 100000000 in
theorem tapeEvals_1_1 : lawRunM 4 10 200 [.i, .q, .b, .q, .q, .i, .i] [(0, 3, 1)] (lenL 1 1 8 ++ []) tapeEvalsNms1 tapeEvals_1_1_ms = true := by kernel_rfl
end Go.Proofs.Yticbgaflhiokgaa
