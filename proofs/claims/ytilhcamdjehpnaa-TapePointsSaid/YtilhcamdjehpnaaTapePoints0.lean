/-
  'TapePoints': runs of it, part 0.
-/
import Derived.Test.YtilhcamdjehpnaaTapePointst0
namespace Go.Proofs.Ytilhcamdjehpnaa
open Go.RowKit Ex
set_option maxRecDepth 1000000
set_option maxHeartbeats 100000000
def vm0_0 : E := (.ib .add .i64 (.ib .quo .i64 (.vi 0) (.li 3)) (.li 0))
def vm0_1 : E := (.ib .sub .i64 (.li 1) (.ai 9 0 (.ci vm0_0 (.ci (.li 2) .n0))))
def vm0_2 : E := (.fb .quo (.i2f (.ib .sub .i64 (.ai 9 0 (.ci (.vi 0) (.ci (.li 17) .n0))) (.li 8))) (.lf 4616189618054758400))
def vm0_3 : E := (.fb .quo (.i2f (.ib .sub .i64 (.ai 9 0 (.ci (.ti (.ic .lss (.li 0) (.vl 3)) (.at 3 0) (.li 0)) (.ci (.li 65) .n0))) (.li 32))) (.lf 4620693217682128896))
def vm0_4 : E := (.ai 9 0 (.ci vm0_0 (.ci (.li 3) .n0)))
def vm0_5 : E := (.ic .eql (.ai 9 0 (.ci (.at 1 0) (.ci (.li 11) .n0))) (.li 0))
def vm0_6 : E := (.ib .add .i64 (.li 2) (.ai 9 0 (.ci (.at 1 0) (.ci (.li 3) .n0))))
def vm0_7 : E := (.ic .eql (.ai 9 0 (.ci (.at 1 1) (.ci (.li 11) .n0))) (.li 0))
def vm0_8 : E := (.ib .add .i64 (.li 2) (.ai 9 0 (.ci (.at 1 1) (.ci (.li 3) .n0))))
def vk0_0 : Blk := [(.i .i64 1), (.i .i64 0), (.i .i64 0), (.f 0)]
def vk0_1 : Blk := [(.i .i64 0), (.i .i64 0), (.i .i64 0), (.ef vm0_2)]
def vk0_2 : Blk := [(.ei .i64 (.ti vm0_5 (.li 0) (.ti (.vb 2) (.ti (.ic .eql (.ai 9 0 (.ci (.at 1 0) (.ci (.li 7) .n0))) (.li 0)) (.li 5) vm0_6) vm0_6))), (.ei .i64 (.ti vm0_5 (.li 0) (.ai 9 0 (.ci (.ib .quo .i64 (.at 1 0) (.li 4)) (.ci (.li 2) .n0))))), (.ei .i64 (.ti vm0_5 (.li 0) (.ai 9 0 (.ci (.ib .quo .i64 (.at 1 0) (.li 40)) (.ci (.li 2) .n0))))), (.ef (.tf vm0_5 (.fb .quo (.i2f (.ib .sub .i64 (.ai 9 0 (.ci (.ib .quo .i64 (.at 1 0) (.li 11)) (.ci (.li 33) .n0))) (.li 16))) (.lf 4620693217682128896)) (.lf 0)))]
def vb0_0 : Blk := vk0_0 ++ vk0_1
def vb0_1 : Blk := [(.ef vm0_3), (.ef vm0_3)]
def vb0_2 : Blk := [(.ei .i64 (.ib .sub .i64 (.li 2) vm0_4))]
def vb0_3 : Blk := vk0_0 ++ vk0_1 ++ vk0_2
def vb0_4 : Blk := [(.ei .i64 (.ib .sub .i64 (.li 3) vm0_4))]
def vb0_5 : Blk := vk0_0 ++ vk0_1 ++ vk0_2 ++ [(.ei .i64 (.ti vm0_7 (.li 0) (.ti (.vb 2) (.ti (.ic .eql (.ai 9 0 (.ci (.at 1 1) (.ci (.li 7) .n0))) (.li 0)) (.li 5) vm0_8) vm0_8))), (.ei .i64 (.ti vm0_7 (.li 0) (.ai 9 0 (.ci (.ib .quo .i64 (.at 1 1) (.li 4)) (.ci (.li 3) .n0))))), (.ei .i64 (.ti vm0_7 (.li 0) (.ai 9 0 (.ci (.ib .quo .i64 (.at 1 1) (.li 40)) (.ci (.li 3) .n0))))), (.ef (.tf vm0_7 (.fb .quo (.i2f (.ib .sub .i64 (.ai 9 0 (.ci (.ib .quo .i64 (.at 1 1) (.li 11)) (.ci (.li 33) .n0))) (.li 16))) (.lf 4620693217682128896)) (.lf 0)))]
def v0_0m0 : Memo :=  (⟨[(.ag [(.i .i64 1), (.sl 11 0 2 (.u 4)), (.sl 10 0 1 (.u 1))]), (.c (.sl 19 0 1 (.u 1)))], [(10, [(.ei .i64 vm0_1)]), (11, vb0_0), (19, [(.ef vm0_3)])], 24, (.c (.sl 26 0 1 (.n 1))), [(10, [(.ei .i64 vm0_1)]), (11, vb0_0), (19, [(.ef vm0_3)]), (26, [(.ef (.tf (.ic .eql vm0_1 (.li 0)) vm0_3 vm0_2))])], 41⟩) 
theorem v0_0o0 : mok [(0, 3, 0)] (lenL 1 0 8 ++ []) vN0 15 v0_0m0 = true := by kernel_rfl
def v0_0m1 : Memo :=  (⟨[(.ag [(.i .i64 1), (.sl 11 0 2 (.u 4)), (.sl 10 0 1 (.u 1))]), (.c (.sl 23 0 1 (.u 2)))], [(10, [(.ei .i64 vm0_1)]), (11, vb0_0), (23, vb0_1)], 41, (.c (.sl 43 0 1 (.n 1))), [(10, [(.ei .i64 vm0_1)]), (11, vb0_0), (23, vb0_1), (43, [(.ef (.tf (.ic .eql vm0_1 (.li 0)) vm0_3 vm0_2)), (.ef (.tf (.ic .eql vm0_1 (.li 0)) vm0_3 vm0_2))])], 61⟩) 
theorem v0_0o1 : mok [(0, 3, 0)] (lenL 1 0 8 ++ []) vN0 16 v0_0m1 = true := by kernel_rfl
def v0_0ms : List (Nat × List Memo) := [(15, [v0_0m0]), (16, [v0_0m1])]
theorem v0_0mo : AllMem (memRun [(0, 3, 0)] (lenL 1 0 8 ++ []) vN0) v0_0ms := ⟨⟨v0_0o0, trivial⟩, ⟨v0_0o1, trivial⟩, trivial⟩
def v0_0T : Tri := []
def v0_0Q : Qua := []
theorem v0_0a : trisOK vN0 [] v0_0T = true := by kernel_rfl
theorem v0_0b : quasOK vN0 [] v0_0Q = true := by kernel_rfl
theorem v0_0 : lawRunQ 6 10 200 [.i, .q, .b, .q] [(0, 3, 0)] (lenL 1 0 8 ++ []) vN0 v0_0T v0_0Q v0_0ms = true := by kernel_rfl
def v0_1m0 : Memo :=  (⟨[(.ag [(.i .i64 1), (.sl 11 0 3 (.u 4)), (.sl 10 0 1 (.u 1))]), (.c (.sl 22 0 1 (.u 1)))], [(10, vb0_2), (11, vb0_3), (22, [(.ef vm0_3)])], 27, (.c (.sl 29 0 1 (.n 1))), [(10, vb0_2), (11, vb0_3), (22, [(.ef vm0_3)]), (29, [(.ef (.vf 110))])], 48⟩) 
theorem v0_1o0 : mok [(0, 3, 0)] (lenL 1 1 8 ++ []) vN0 15 v0_1m0 = true := by kernel_rfl
def v0_1m1 : Memo :=  (⟨[(.ag [(.i .i64 1), (.sl 11 0 3 (.u 4)), (.sl 10 0 1 (.u 1))]), (.c (.sl 26 0 1 (.u 2)))], [(10, vb0_2), (11, vb0_3), (26, vb0_1)], 48, (.c (.sl 50 0 1 (.n 1))), [(10, vb0_2), (11, vb0_3), (26, vb0_1), (50, [(.ef (.vf 127)), (.ef (.vf 128))])], 74⟩) 
theorem v0_1o1 : mok [(0, 3, 0)] (lenL 1 1 8 ++ []) vN0 16 v0_1m1 = true := by kernel_rfl
def v0_1ms : List (Nat × List Memo) := [(15, [v0_1m0]), (16, [v0_1m1])]
theorem v0_1mo : AllMem (memRun [(0, 3, 0)] (lenL 1 1 8 ++ []) vN0) v0_1ms := ⟨⟨v0_1o0, trivial⟩, ⟨v0_1o1, trivial⟩, trivial⟩
def v0_1T : Tri := [(107, 121, 122), (102, 111, 112), (103, 113, 114), (104, 115, 116), (105, 118, 117), (106, 120, 119), (108, 124, 123), (109, 126, 125), (110, 127, 128)]
def v0_1Q : Qua := []
theorem v0_1a : trisOK vN0 [] v0_1T = true := by kernel_rfl
theorem v0_1b : quasOK vN0 [] v0_1Q = true := by kernel_rfl
theorem v0_1 : lawRunQ 6 10 200 [.i, .q, .b, .q] [(0, 3, 0)] (lenL 1 1 8 ++ []) vN0 v0_1T v0_1Q v0_1ms = true := by kernel_rfl
def v0_2m0 : Memo :=  (⟨[(.ag [(.i .i64 1), (.sl 11 0 4 (.u 4)), (.sl 10 0 1 (.u 1))]), (.c (.sl 25 0 1 (.u 1)))], [(10, vb0_4), (11, vb0_5), (25, [(.ef vm0_3)])], 30, (.c (.sl 32 0 1 (.n 1))), [(10, vb0_4), (11, vb0_5), (25, [(.ef vm0_3)]), (32, [(.ef (.vf 135))])], 55⟩) 
theorem v0_2o0 : mok [(0, 3, 0)] (lenL 1 2 8 ++ []) vN0 15 v0_2m0 = true := by kernel_rfl
def v0_2m1 : Memo :=  (⟨[(.ag [(.i .i64 1), (.sl 11 0 4 (.u 4)), (.sl 10 0 1 (.u 1))]), (.c (.sl 29 0 1 (.u 2)))], [(10, vb0_4), (11, vb0_5), (29, vb0_1)], 55, (.c (.sl 57 0 1 (.n 1))), [(10, vb0_4), (11, vb0_5), (29, vb0_1), (57, [(.ef (.vf 156)), (.ef (.vf 157))])], 87⟩) 
theorem v0_2o1 : mok [(0, 3, 0)] (lenL 1 2 8 ++ []) vN0 16 v0_2m1 = true := by kernel_rfl
def v0_2ms : List (Nat × List Memo) := [(15, [v0_2m0]), (16, [v0_2m1])]
theorem v0_2mo : AllMem (memRun [(0, 3, 0)] (lenL 1 2 8 ++ []) vN0) v0_2ms := ⟨⟨v0_2o0, trivial⟩, ⟨v0_2o1, trivial⟩, trivial⟩
def v0_2T : Tri := [(107, 121, 122), (102, 111, 112), (103, 113, 114), (104, 115, 116), (105, 118, 117), (106, 120, 119), (108, 124, 123), (109, 126, 125), (129, 136, 137), (130, 138, 139), (131, 147, 146), (132, 149, 148), (133, 153, 152), (134, 155, 154), (135, 156, 157)]
def v0_2Q : Qua := []
theorem v0_2a : trisOK vN0 [] v0_2T = true := by kernel_rfl
theorem v0_2b : quasOK vN0 [] v0_2Q = true := by kernel_rfl
theorem v0_2 : lawRunQ 6 10 200 [.i, .q, .b, .q] [(0, 3, 0)] (lenL 1 2 8 ++ []) vN0 v0_2T v0_2Q v0_2ms = true := by kernel_rfl
end Go.Proofs.Ytilhcamdjehpnaa
