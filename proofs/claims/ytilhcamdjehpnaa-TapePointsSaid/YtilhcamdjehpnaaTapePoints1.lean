/-
  'TapePoints': runs of it, part 1.
-/
import Derived.Test.YtilhcamdjehpnaaTapePointst0
namespace Go.Proofs.Ytilhcamdjehpnaa
open Go.RowKit Ex
set_option maxRecDepth 1000000
set_option maxHeartbeats 100000000
def vm1_0 : E := (.ai 9 0 (.ci (.ib .add .i64 (.ib .quo .i64 (.vi 0) (.li 3)) (.li 0)) (.ci (.li 3) .n0)))
def vm1_1 : E := (.ic .eql (.ai 9 0 (.ci (.at 1 0) (.ci (.li 11) .n0))) (.li 0))
def vm1_2 : E := (.ib .add .i64 (.li 2) (.ai 9 0 (.ci (.at 1 0) (.ci (.li 3) .n0))))
def vm1_3 : E := (.ic .eql (.ai 9 0 (.ci (.at 1 1) (.ci (.li 11) .n0))) (.li 0))
def vm1_4 : E := (.ib .add .i64 (.li 2) (.ai 9 0 (.ci (.at 1 1) (.ci (.li 3) .n0))))
def vm1_5 : E := (.ic .eql (.ai 9 0 (.ci (.at 1 2) (.ci (.li 11) .n0))) (.li 0))
def vm1_6 : E := (.ib .add .i64 (.li 2) (.ai 9 0 (.ci (.at 1 2) (.ci (.li 3) .n0))))
def vm1_7 : E := (.ic .eql (.ai 9 0 (.ci (.at 1 3) (.ci (.li 11) .n0))) (.li 0))
def vm1_8 : E := (.ib .add .i64 (.li 2) (.ai 9 0 (.ci (.at 1 3) (.ci (.li 3) .n0))))
def vm1_9 : E := (.ic .eql (.ai 9 0 (.ci (.at 1 4) (.ci (.li 11) .n0))) (.li 0))
def vm1_10 : E := (.ib .add .i64 (.li 2) (.ai 9 0 (.ci (.at 1 4) (.ci (.li 3) .n0))))
def vk1_0 : Blk := [(.i .i64 1), (.i .i64 0), (.i .i64 0), (.f 0)]
def vk1_1 : Blk := [(.i .i64 0), (.i .i64 0), (.i .i64 0), (.ef (.fb .quo (.i2f (.ib .sub .i64 (.ai 9 0 (.ci (.vi 0) (.ci (.li 17) .n0))) (.li 8))) (.lf 4616189618054758400)))]
def vk1_2 : Blk := [(.ei .i64 (.ti vm1_1 (.li 0) (.ti (.vb 2) (.ti (.ic .eql (.ai 9 0 (.ci (.at 1 0) (.ci (.li 7) .n0))) (.li 0)) (.li 5) vm1_2) vm1_2))), (.ei .i64 (.ti vm1_1 (.li 0) (.ai 9 0 (.ci (.ib .quo .i64 (.at 1 0) (.li 4)) (.ci (.li 2) .n0))))), (.ei .i64 (.ti vm1_1 (.li 0) (.ai 9 0 (.ci (.ib .quo .i64 (.at 1 0) (.li 40)) (.ci (.li 2) .n0))))), (.ef (.tf vm1_1 (.fb .quo (.i2f (.ib .sub .i64 (.ai 9 0 (.ci (.ib .quo .i64 (.at 1 0) (.li 11)) (.ci (.li 33) .n0))) (.li 16))) (.lf 4620693217682128896)) (.lf 0)))]
def vk1_3 : Blk := [(.ei .i64 (.ti vm1_3 (.li 0) (.ti (.vb 2) (.ti (.ic .eql (.ai 9 0 (.ci (.at 1 1) (.ci (.li 7) .n0))) (.li 0)) (.li 5) vm1_4) vm1_4))), (.ei .i64 (.ti vm1_3 (.li 0) (.ai 9 0 (.ci (.ib .quo .i64 (.at 1 1) (.li 4)) (.ci (.li 3) .n0))))), (.ei .i64 (.ti vm1_3 (.li 0) (.ai 9 0 (.ci (.ib .quo .i64 (.at 1 1) (.li 40)) (.ci (.li 3) .n0))))), (.ef (.tf vm1_3 (.fb .quo (.i2f (.ib .sub .i64 (.ai 9 0 (.ci (.ib .quo .i64 (.at 1 1) (.li 11)) (.ci (.li 33) .n0))) (.li 16))) (.lf 4620693217682128896)) (.lf 0)))]
def vk1_4 : Blk := [(.ei .i64 (.ti vm1_5 (.li 0) (.ti (.vb 2) (.ti (.ic .eql (.ai 9 0 (.ci (.at 1 2) (.ci (.li 7) .n0))) (.li 0)) (.li 5) vm1_6) vm1_6))), (.ei .i64 (.ti vm1_5 (.li 0) (.ai 9 0 (.ci (.ib .quo .i64 (.at 1 2) (.li 4)) (.ci (.li 4) .n0))))), (.ei .i64 (.ti vm1_5 (.li 0) (.ai 9 0 (.ci (.ib .quo .i64 (.at 1 2) (.li 40)) (.ci (.li 4) .n0))))), (.ef (.tf vm1_5 (.fb .quo (.i2f (.ib .sub .i64 (.ai 9 0 (.ci (.ib .quo .i64 (.at 1 2) (.li 11)) (.ci (.li 33) .n0))) (.li 16))) (.lf 4620693217682128896)) (.lf 0)))]
def vk1_5 : Blk := [(.ei .i64 (.ti vm1_7 (.li 0) (.ti (.vb 2) (.ti (.ic .eql (.ai 9 0 (.ci (.at 1 3) (.ci (.li 7) .n0))) (.li 0)) (.li 5) vm1_8) vm1_8))), (.ei .i64 (.ti vm1_7 (.li 0) (.ai 9 0 (.ci (.ib .quo .i64 (.at 1 3) (.li 4)) (.ci (.li 5) .n0))))), (.ei .i64 (.ti vm1_7 (.li 0) (.ai 9 0 (.ci (.ib .quo .i64 (.at 1 3) (.li 40)) (.ci (.li 5) .n0))))), (.ef (.tf vm1_7 (.fb .quo (.i2f (.ib .sub .i64 (.ai 9 0 (.ci (.ib .quo .i64 (.at 1 3) (.li 11)) (.ci (.li 33) .n0))) (.li 16))) (.lf 4620693217682128896)) (.lf 0)))]
def vb1_0 : Blk := [(.ei .i64 (.ib .sub .i64 (.li 4) vm1_0))]
def vb1_1 : Blk := vk1_0 ++ vk1_1 ++ vk1_2 ++ vk1_3 ++ vk1_4
def vb1_2 : Blk := [(.ef (.fb .quo (.i2f (.ib .sub .i64 (.ai 9 0 (.ci (.ti (.ic .lss (.li 0) (.vl 3)) (.at 3 0) (.li 0)) (.ci (.li 65) .n0))) (.li 32))) (.lf 4620693217682128896)))]
def vb1_3 : Blk := [(.ef (.fb .quo (.i2f (.ib .sub .i64 (.ai 9 0 (.ci (.ti (.ic .lss (.li 0) (.vl 3)) (.at 3 0) (.li 0)) (.ci (.li 65) .n0))) (.li 32))) (.lf 4620693217682128896))), (.ef (.fb .quo (.i2f (.ib .sub .i64 (.ai 9 0 (.ci (.ti (.ic .lss (.li 0) (.vl 3)) (.at 3 0) (.li 0)) (.ci (.li 65) .n0))) (.li 32))) (.lf 4620693217682128896)))]
def vb1_4 : Blk := [(.ei .i64 (.ib .sub .i64 (.li 5) vm1_0))]
def vb1_5 : Blk := vk1_0 ++ vk1_1 ++ vk1_2 ++ vk1_3 ++ vk1_4 ++ vk1_5
def vb1_6 : Blk := [(.ei .i64 (.ib .sub .i64 (.li 6) vm1_0))]
def vb1_7 : Blk := vk1_0 ++ vk1_1 ++ vk1_2 ++ vk1_3 ++ vk1_4 ++ vk1_5 ++ [(.ei .i64 (.ti vm1_9 (.li 0) (.ti (.vb 2) (.ti (.ic .eql (.ai 9 0 (.ci (.at 1 4) (.ci (.li 7) .n0))) (.li 0)) (.li 5) vm1_10) vm1_10))), (.ei .i64 (.ti vm1_9 (.li 0) (.ai 9 0 (.ci (.ib .quo .i64 (.at 1 4) (.li 4)) (.ci (.li 6) .n0))))), (.ei .i64 (.ti vm1_9 (.li 0) (.ai 9 0 (.ci (.ib .quo .i64 (.at 1 4) (.li 40)) (.ci (.li 6) .n0))))), (.ef (.tf vm1_9 (.fb .quo (.i2f (.ib .sub .i64 (.ai 9 0 (.ci (.ib .quo .i64 (.at 1 4) (.li 11)) (.ci (.li 33) .n0))) (.li 16))) (.lf 4620693217682128896)) (.lf 0)))]
def v0_3m0 : Memo :=  (⟨[(.ag [(.i .i64 1), (.sl 11 0 5 (.u 4)), (.sl 10 0 1 (.u 1))]), (.c (.sl 28 0 1 (.u 1)))], [(10, vb1_0), (11, vb1_1), (28, vb1_2)], 33, (.c (.sl 35 0 1 (.n 1))), [(10, vb1_0), (11, vb1_1), (28, vb1_2), (35, [(.ef (.vf 164))])], 62⟩) 
theorem v0_3o0 : mok [(0, 3, 0)] (lenL 1 3 8 ++ []) vN0 15 v0_3m0 = true := by kernel_rfl
def v0_3m1 : Memo :=  (⟨[(.ag [(.i .i64 1), (.sl 11 0 5 (.u 4)), (.sl 10 0 1 (.u 1))]), (.c (.sl 32 0 1 (.u 2)))], [(10, vb1_0), (11, vb1_1), (32, vb1_3)], 62, (.c (.sl 64 0 1 (.n 1))), [(10, vb1_0), (11, vb1_1), (32, vb1_3), (64, [(.ef (.vf 185)), (.ef (.vf 186))])], 100⟩) 
theorem v0_3o1 : mok [(0, 3, 0)] (lenL 1 3 8 ++ []) vN0 16 v0_3m1 = true := by kernel_rfl
def v0_3ms : List (Nat × List Memo) := [(15, [v0_3m0]), (16, [v0_3m1])]
theorem v0_3mo : AllMem (memRun [(0, 3, 0)] (lenL 1 3 8 ++ []) vN0) v0_3ms := ⟨⟨v0_3o0, trivial⟩, ⟨v0_3o1, trivial⟩, trivial⟩
def v0_3T : Tri := [(107, 121, 122), (102, 111, 112), (103, 113, 114), (104, 115, 116), (105, 118, 117), (106, 120, 119), (108, 124, 123), (109, 126, 125), (129, 136, 137), (130, 138, 139), (131, 147, 146), (132, 149, 148), (133, 153, 152), (134, 155, 154), (158, 165, 166), (159, 167, 168), (160, 176, 175), (161, 178, 177), (162, 182, 181), (163, 184, 183), (164, 185, 186)]
def v0_3Q : Qua := []
theorem v0_3a : trisOK vN0 [] v0_3T = true := by kernel_rfl
theorem v0_3b : quasOK vN0 [] v0_3Q = true := by kernel_rfl
theorem v0_3 : lawRunQ 6 10 200 [.i, .q, .b, .q] [(0, 3, 0)] (lenL 1 3 8 ++ []) vN0 v0_3T v0_3Q v0_3ms = true := by kernel_rfl
def v0_4m0 : Memo :=  (⟨[(.ag [(.i .i64 1), (.sl 11 0 6 (.u 4)), (.sl 10 0 1 (.u 1))]), (.c (.sl 31 0 1 (.u 1)))], [(10, vb1_4), (11, vb1_5), (31, vb1_2)], 36, (.c (.sl 38 0 1 (.n 1))), [(10, vb1_4), (11, vb1_5), (31, vb1_2), (38, [(.ef (.vf 193))])], 69⟩) 
theorem v0_4o0 : mok [(0, 3, 0)] (lenL 1 4 8 ++ []) vN0 15 v0_4m0 = true := by kernel_rfl
def v0_4m1 : Memo :=  (⟨[(.ag [(.i .i64 1), (.sl 11 0 6 (.u 4)), (.sl 10 0 1 (.u 1))]), (.c (.sl 35 0 1 (.u 2)))], [(10, vb1_4), (11, vb1_5), (35, vb1_3)], 69, (.c (.sl 71 0 1 (.n 1))), [(10, vb1_4), (11, vb1_5), (35, vb1_3), (71, [(.ef (.vf 214)), (.ef (.vf 215))])], 113⟩) 
theorem v0_4o1 : mok [(0, 3, 0)] (lenL 1 4 8 ++ []) vN0 16 v0_4m1 = true := by kernel_rfl
def v0_4ms : List (Nat × List Memo) := [(15, [v0_4m0]), (16, [v0_4m1])]
theorem v0_4mo : AllMem (memRun [(0, 3, 0)] (lenL 1 4 8 ++ []) vN0) v0_4ms := ⟨⟨v0_4o0, trivial⟩, ⟨v0_4o1, trivial⟩, trivial⟩
def v0_4T : Tri := [(107, 121, 122), (102, 111, 112), (103, 113, 114), (104, 115, 116), (105, 118, 117), (106, 120, 119), (108, 124, 123), (109, 126, 125), (129, 136, 137), (130, 138, 139), (131, 147, 146), (132, 149, 148), (133, 153, 152), (134, 155, 154), (158, 165, 166), (159, 167, 168), (160, 176, 175), (161, 178, 177), (162, 182, 181), (163, 184, 183), (187, 194, 195), (188, 196, 197), (189, 205, 204), (190, 207, 206), (191, 211, 210), (192, 213, 212), (193, 214, 215)]
def v0_4Q : Qua := []
theorem v0_4a : trisOK vN0 [] v0_4T = true := by kernel_rfl
theorem v0_4b : quasOK vN0 [] v0_4Q = true := by kernel_rfl
theorem v0_4 : lawRunQ 6 10 200 [.i, .q, .b, .q] [(0, 3, 0)] (lenL 1 4 8 ++ []) vN0 v0_4T v0_4Q v0_4ms = true := by kernel_rfl
def v0_5m0 : Memo :=  (⟨[(.ag [(.i .i64 1), (.sl 11 0 7 (.u 4)), (.sl 10 0 1 (.u 1))]), (.c (.sl 34 0 1 (.u 1)))], [(10, vb1_6), (11, vb1_7), (34, vb1_2)], 39, (.c (.sl 41 0 1 (.n 1))), [(10, vb1_6), (11, vb1_7), (34, vb1_2), (41, [(.ef (.vf 222))])], 76⟩) 
theorem v0_5o0 : mok [(0, 3, 0)] (lenL 1 5 8 ++ []) vN0 15 v0_5m0 = true := by kernel_rfl
def v0_5m1 : Memo :=  (⟨[(.ag [(.i .i64 1), (.sl 11 0 7 (.u 4)), (.sl 10 0 1 (.u 1))]), (.c (.sl 38 0 1 (.u 2)))], [(10, vb1_6), (11, vb1_7), (38, vb1_3)], 76, (.c (.sl 78 0 1 (.n 1))), [(10, vb1_6), (11, vb1_7), (38, vb1_3), (78, [(.ef (.vf 243)), (.ef (.vf 244))])], 126⟩) 
theorem v0_5o1 : mok [(0, 3, 0)] (lenL 1 5 8 ++ []) vN0 16 v0_5m1 = true := by kernel_rfl
def v0_5ms : List (Nat × List Memo) := [(15, [v0_5m0]), (16, [v0_5m1])]
theorem v0_5mo : AllMem (memRun [(0, 3, 0)] (lenL 1 5 8 ++ []) vN0) v0_5ms := ⟨⟨v0_5o0, trivial⟩, ⟨v0_5o1, trivial⟩, trivial⟩
def v0_5T : Tri := [(107, 121, 122), (102, 111, 112), (103, 113, 114), (104, 115, 116), (105, 118, 117), (106, 120, 119), (108, 124, 123), (109, 126, 125), (129, 136, 137), (130, 138, 139), (131, 147, 146), (132, 149, 148), (133, 153, 152), (134, 155, 154), (158, 165, 166), (159, 167, 168), (160, 176, 175), (161, 178, 177), (162, 182, 181), (163, 184, 183), (187, 194, 195), (188, 196, 197), (189, 205, 204), (190, 207, 206), (191, 211, 210), (192, 213, 212), (216, 223, 224), (217, 225, 226), (218, 234, 233), (219, 236, 235), (220, 240, 239), (221, 242, 241), (222, 243, 244)]
def v0_5Q : Qua := []
theorem v0_5a : trisOK vN0 [] v0_5T = true := by kernel_rfl
theorem v0_5b : quasOK vN0 [] v0_5Q = true := by kernel_rfl
theorem v0_5 : lawRunQ 6 10 200 [.i, .q, .b, .q] [(0, 3, 0)] (lenL 1 5 8 ++ []) vN0 v0_5T v0_5Q v0_5ms = true := by kernel_rfl
end Go.Proofs.Ytilhcamdjehpnaa
