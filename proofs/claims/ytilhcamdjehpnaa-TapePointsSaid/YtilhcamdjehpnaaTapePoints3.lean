/-
  'TapePoints': runs of it, part 3.
-/
import Derived.Test.YtilhcamdjehpnaaTapePointst1
namespace Go.Proofs.Ytilhcamdjehpnaa
open Go.RowKit Ex
set_option maxRecDepth 1000000
set_option maxHeartbeats 100000000
def vm3_0 : E := (.ib .quo .i64 (.vi 0) (.li 3))
def vm3_1 : E := (.ai 9 0 (.ci (.ib .add .i64 vm3_0 (.li 0)) (.ci (.li 3) .n0)))
def vm3_2 : E := (.ai 9 0 (.ci (.ib .add .i64 vm3_0 (.li 1)) (.ci (.li 3) .n0)))
def vm3_3 : E := (.ic .eql (.ai 9 0 (.ci (.at 1 0) (.ci (.li 11) .n0))) (.li 0))
def vm3_4 : E := (.ib .add .i64 (.li 2) (.ai 9 0 (.ci (.at 1 0) (.ci (.li 3) .n0))))
def vm3_5 : E := (.ic .eql (.ai 9 0 (.ci (.at 1 1) (.ci (.li 11) .n0))) (.li 0))
def vm3_6 : E := (.ib .add .i64 (.li 2) (.ai 9 0 (.ci (.at 1 1) (.ci (.li 3) .n0))))
def vk3_0 : Blk := [(.i .i64 1), (.i .i64 0), (.i .i64 0), (.f 0)]
def vk3_1 : Blk := [(.i .i64 1), (.i .i64 1), (.i .i64 0), (.f 0)]
def vk3_2 : Blk := [(.i .i64 0), (.i .i64 0), (.i .i64 0), (.ef (.fb .quo (.i2f (.ib .sub .i64 (.ai 9 0 (.ci (.vi 0) (.ci (.li 17) .n0))) (.li 8))) (.lf 4616189618054758400)))]
def vk3_3 : Blk := [(.ei .i64 (.ti vm3_3 (.li 0) (.ti (.vb 2) (.ti (.ic .eql (.ai 9 0 (.ci (.at 1 0) (.ci (.li 7) .n0))) (.li 0)) (.li 5) vm3_4) vm3_4))), (.ei .i64 (.ti vm3_3 (.li 0) (.ai 9 0 (.ci (.ib .quo .i64 (.at 1 0) (.li 4)) (.ci (.li 3) .n0))))), (.ei .i64 (.ti vm3_3 (.li 0) (.ai 9 0 (.ci (.ib .quo .i64 (.at 1 0) (.li 40)) (.ci (.li 3) .n0))))), (.ef (.tf vm3_3 (.fb .quo (.i2f (.ib .sub .i64 (.ai 9 0 (.ci (.ib .quo .i64 (.at 1 0) (.li 11)) (.ci (.li 33) .n0))) (.li 16))) (.lf 4620693217682128896)) (.lf 0)))]
def vb3_0 : Blk := [(.ei .i64 (.ib .sub .i64 (.li 2) vm3_1)), (.ei .i64 (.ib .sub .i64 (.li 2) vm3_2))]
def vb3_1 : Blk := vk3_0 ++ vk3_1 ++ vk3_2
def vb3_2 : Blk := [(.ef (.fb .quo (.i2f (.ib .sub .i64 (.ai 9 0 (.ci (.ti (.ic .lss (.li 0) (.vl 3)) (.at 3 0) (.li 0)) (.ci (.li 65) .n0))) (.li 32))) (.lf 4620693217682128896))), (.ef (.fb .quo (.i2f (.ib .sub .i64 (.ai 9 0 (.ci (.ti (.ic .lss (.li 1) (.vl 3)) (.at 3 1) (.li 1)) (.ci (.li 65) .n0))) (.li 32))) (.lf 4620693217682128896)))]
def vb3_3 : Blk := [(.ef (.fb .quo (.i2f (.ib .sub .i64 (.ai 9 0 (.ci (.ti (.ic .lss (.li 0) (.vl 3)) (.at 3 0) (.li 0)) (.ci (.li 65) .n0))) (.li 32))) (.lf 4620693217682128896))), (.ef (.fb .quo (.i2f (.ib .sub .i64 (.ai 9 0 (.ci (.ti (.ic .lss (.li 0) (.vl 3)) (.at 3 0) (.li 0)) (.ci (.li 65) .n0))) (.li 32))) (.lf 4620693217682128896))), (.ef (.fb .quo (.i2f (.ib .sub .i64 (.ai 9 0 (.ci (.ti (.ic .lss (.li 1) (.vl 3)) (.at 3 1) (.li 1)) (.ci (.li 65) .n0))) (.li 32))) (.lf 4620693217682128896))), (.ef (.fb .quo (.i2f (.ib .sub .i64 (.ai 9 0 (.ci (.ti (.ic .lss (.li 1) (.vl 3)) (.at 3 1) (.li 1)) (.ci (.li 65) .n0))) (.li 32))) (.lf 4620693217682128896)))]
def vb3_4 : Blk := [(.ei .i64 (.ib .sub .i64 (.li 3) vm3_1)), (.ei .i64 (.ib .sub .i64 (.li 3) vm3_2))]
def vb3_5 : Blk := vk3_0 ++ vk3_1 ++ vk3_2 ++ vk3_3
def vb3_6 : Blk := [(.ei .i64 (.ib .sub .i64 (.li 4) vm3_1)), (.ei .i64 (.ib .sub .i64 (.li 4) vm3_2))]
def vb3_7 : Blk := vk3_0 ++ vk3_1 ++ vk3_2 ++ vk3_3 ++ [(.ei .i64 (.ti vm3_5 (.li 0) (.ti (.vb 2) (.ti (.ic .eql (.ai 9 0 (.ci (.at 1 1) (.ci (.li 7) .n0))) (.li 0)) (.li 5) vm3_6) vm3_6))), (.ei .i64 (.ti vm3_5 (.li 0) (.ai 9 0 (.ci (.ib .quo .i64 (.at 1 1) (.li 4)) (.ci (.li 4) .n0))))), (.ei .i64 (.ti vm3_5 (.li 0) (.ai 9 0 (.ci (.ib .quo .i64 (.at 1 1) (.li 40)) (.ci (.li 4) .n0))))), (.ef (.tf vm3_5 (.fb .quo (.i2f (.ib .sub .i64 (.ai 9 0 (.ci (.ib .quo .i64 (.at 1 1) (.li 11)) (.ci (.li 33) .n0))) (.li 16))) (.lf 4620693217682128896)) (.lf 0)))]
def v1_0m0 : Memo :=  (⟨[(.ag [(.i .i64 2), (.sl 11 0 3 (.u 4)), (.sl 10 0 2 (.u 1))]), (.c (.sl 23 0 2 (.u 1)))], [(10, vb3_0), (11, vb3_1), (23, vb3_2)], 33, (.c (.sl 35 0 2 (.n 2))), [(10, vb3_0), (11, vb3_1), (23, vb3_2), (35, [(.ef (.vf 100)), (.ef (.vf 101))])], 54⟩) 
theorem v1_0o0 : mok [(0, 3, 1)] (lenL 1 0 8 ++ []) vN1 15 v1_0m0 = true := by kernel_rfl
def v1_0m1 : Memo :=  (⟨[(.ag [(.i .i64 2), (.sl 11 0 3 (.u 4)), (.sl 10 0 2 (.u 1))]), (.c (.sl 32 0 2 (.u 2)))], [(10, vb3_0), (11, vb3_1), (32, vb3_3)], 54, (.c (.sl 56 0 2 (.n 2))), [(10, vb3_0), (11, vb3_1), (32, vb3_3), (56, [(.ef (.vf 100)), (.ef (.vf 100)), (.ef (.vf 101)), (.ef (.vf 101))])], 79⟩) 
theorem v1_0o1 : mok [(0, 3, 1)] (lenL 1 0 8 ++ []) vN1 16 v1_0m1 = true := by kernel_rfl
def v1_0ms : List (Nat × List Memo) := [(15, [v1_0m0]), (16, [v1_0m1])]
theorem v1_0mo : AllMem (memRun [(0, 3, 1)] (lenL 1 0 8 ++ []) vN1) v1_0ms := ⟨⟨v1_0o0, trivial⟩, ⟨v1_0o1, trivial⟩, trivial⟩
def v1_0T : Tri := [(100, 100, 100), (101, 101, 101)]
def v1_0Q : Qua := []
theorem v1_0a : trisOK vN1 [] v1_0T = true := by kernel_rfl
theorem v1_0b : quasOK vN1 [] v1_0Q = true := by kernel_rfl
theorem v1_0 : lawRunQ 6 10 200 [.i, .q, .b, .q] [(0, 3, 1)] (lenL 1 0 8 ++ []) vN1 v1_0T v1_0Q v1_0ms = true := by kernel_rfl
def v1_1m0 : Memo :=  (⟨[(.ag [(.i .i64 2), (.sl 11 0 4 (.u 4)), (.sl 10 0 2 (.u 1))]), (.c (.sl 26 0 2 (.u 1)))], [(10, vb3_4), (11, vb3_5), (26, vb3_2)], 36, (.c (.sl 38 0 2 (.n 2))), [(10, vb3_4), (11, vb3_5), (26, vb3_2), (38, [(.ef (.vf 108)), (.ef (.vf 109))])], 61⟩) 
theorem v1_1o0 : mok [(0, 3, 1)] (lenL 1 1 8 ++ []) vN1 15 v1_1m0 = true := by kernel_rfl
def v1_1m1 : Memo :=  (⟨[(.ag [(.i .i64 2), (.sl 11 0 4 (.u 4)), (.sl 10 0 2 (.u 1))]), (.c (.sl 35 0 2 (.u 2)))], [(10, vb3_4), (11, vb3_5), (35, vb3_3)], 61, (.c (.sl 63 0 2 (.n 2))), [(10, vb3_4), (11, vb3_5), (35, vb3_3), (63, [(.ef (.vf 126)), (.ef (.vf 127)), (.ef (.vf 128)), (.ef (.vf 129))])], 92⟩) 
theorem v1_1o1 : mok [(0, 3, 1)] (lenL 1 1 8 ++ []) vN1 16 v1_1m1 = true := by kernel_rfl
def v1_1ms : List (Nat × List Memo) := [(15, [v1_1m0]), (16, [v1_1m1])]
theorem v1_1mo : AllMem (memRun [(0, 3, 1)] (lenL 1 1 8 ++ []) vN1) v1_1ms := ⟨⟨v1_1o0, trivial⟩, ⟨v1_1o1, trivial⟩, trivial⟩
def v1_1T : Tri := [(102, 102, 102), (103, 103, 103), (104, 117, 116), (105, 119, 118), (106, 123, 122), (107, 125, 124), (108, 126, 127), (109, 128, 129)]
def v1_1Q : Qua := []
theorem v1_1a : trisOK vN1 [] v1_1T = true := by kernel_rfl
theorem v1_1b : quasOK vN1 [] v1_1Q = true := by kernel_rfl
theorem v1_1 : lawRunQ 6 10 200 [.i, .q, .b, .q] [(0, 3, 1)] (lenL 1 1 8 ++ []) vN1 v1_1T v1_1Q v1_1ms = true := by kernel_rfl
def v1_2m0 : Memo :=  (⟨[(.ag [(.i .i64 2), (.sl 11 0 5 (.u 4)), (.sl 10 0 2 (.u 1))]), (.c (.sl 29 0 2 (.u 1)))], [(10, vb3_6), (11, vb3_7), (29, vb3_2)], 39, (.c (.sl 41 0 2 (.n 2))), [(10, vb3_6), (11, vb3_7), (29, vb3_2), (41, [(.ef (.vf 136)), (.ef (.vf 137))])], 68⟩) 
theorem v1_2o0 : mok [(0, 3, 1)] (lenL 1 2 8 ++ []) vN1 15 v1_2m0 = true := by kernel_rfl
def v1_2m1 : Memo :=  (⟨[(.ag [(.i .i64 2), (.sl 11 0 5 (.u 4)), (.sl 10 0 2 (.u 1))]), (.c (.sl 38 0 2 (.u 2)))], [(10, vb3_6), (11, vb3_7), (38, vb3_3)], 68, (.c (.sl 70 0 2 (.n 2))), [(10, vb3_6), (11, vb3_7), (38, vb3_3), (70, [(.ef (.vf 158)), (.ef (.vf 159)), (.ef (.vf 160)), (.ef (.vf 161))])], 105⟩) 
theorem v1_2o1 : mok [(0, 3, 1)] (lenL 1 2 8 ++ []) vN1 16 v1_2m1 = true := by kernel_rfl
def v1_2ms : List (Nat × List Memo) := [(15, [v1_2m0]), (16, [v1_2m1])]
theorem v1_2mo : AllMem (memRun [(0, 3, 1)] (lenL 1 2 8 ++ []) vN1) v1_2ms := ⟨⟨v1_2o0, trivial⟩, ⟨v1_2o1, trivial⟩, trivial⟩
def v1_2T : Tri := [(102, 102, 102), (103, 103, 103), (104, 117, 116), (105, 119, 118), (106, 123, 122), (107, 125, 124), (130, 138, 139), (131, 140, 141), (132, 149, 148), (133, 151, 150), (134, 155, 154), (135, 157, 156), (136, 158, 159), (137, 160, 161)]
def v1_2Q : Qua := []
theorem v1_2a : trisOK vN1 [] v1_2T = true := by kernel_rfl
theorem v1_2b : quasOK vN1 [] v1_2Q = true := by kernel_rfl
theorem v1_2 : lawRunQ 6 10 200 [.i, .q, .b, .q] [(0, 3, 1)] (lenL 1 2 8 ++ []) vN1 v1_2T v1_2Q v1_2ms = true := by kernel_rfl
end Go.Proofs.Ytilhcamdjehpnaa
