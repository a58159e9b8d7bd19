/-
  'TapePoints': runs of it, part 2.
-/
import Derived.Test.YtilhcamdjehpnaaTapePointst0
namespace Go.Proofs.Ytilhcamdjehpnaa
open Go.RowKit Ex
set_option maxRecDepth 1000000
set_option maxHeartbeats 100000000
def vm2_0 : E := (.ai 9 0 (.ci (.ib .add .i64 (.ib .quo .i64 (.vi 0) (.li 3)) (.li 0)) (.ci (.li 3) .n0)))
def vm2_1 : E := (.ic .eql (.ai 9 0 (.ci (.at 1 0) (.ci (.li 11) .n0))) (.li 0))
def vm2_2 : E := (.ib .add .i64 (.li 2) (.ai 9 0 (.ci (.at 1 0) (.ci (.li 3) .n0))))
def vm2_3 : E := (.ic .eql (.ai 9 0 (.ci (.at 1 1) (.ci (.li 11) .n0))) (.li 0))
def vm2_4 : E := (.ib .add .i64 (.li 2) (.ai 9 0 (.ci (.at 1 1) (.ci (.li 3) .n0))))
def vm2_5 : E := (.ic .eql (.ai 9 0 (.ci (.at 1 2) (.ci (.li 11) .n0))) (.li 0))
def vm2_6 : E := (.ib .add .i64 (.li 2) (.ai 9 0 (.ci (.at 1 2) (.ci (.li 3) .n0))))
def vm2_7 : E := (.ic .eql (.ai 9 0 (.ci (.at 1 3) (.ci (.li 11) .n0))) (.li 0))
def vm2_8 : E := (.ib .add .i64 (.li 2) (.ai 9 0 (.ci (.at 1 3) (.ci (.li 3) .n0))))
def vm2_9 : E := (.ic .eql (.ai 9 0 (.ci (.at 1 4) (.ci (.li 11) .n0))) (.li 0))
def vm2_10 : E := (.ib .add .i64 (.li 2) (.ai 9 0 (.ci (.at 1 4) (.ci (.li 3) .n0))))
def vm2_11 : E := (.ic .eql (.ai 9 0 (.ci (.at 1 5) (.ci (.li 11) .n0))) (.li 0))
def vm2_12 : E := (.ib .add .i64 (.li 2) (.ai 9 0 (.ci (.at 1 5) (.ci (.li 3) .n0))))
def vm2_13 : E := (.ic .eql (.ai 9 0 (.ci (.at 1 6) (.ci (.li 11) .n0))) (.li 0))
def vm2_14 : E := (.ib .add .i64 (.li 2) (.ai 9 0 (.ci (.at 1 6) (.ci (.li 3) .n0))))
def vm2_15 : E := (.ic .eql (.ai 9 0 (.ci (.at 1 7) (.ci (.li 11) .n0))) (.li 0))
def vm2_16 : E := (.ib .add .i64 (.li 2) (.ai 9 0 (.ci (.at 1 7) (.ci (.li 3) .n0))))
def vk2_0 : Blk := [(.i .i64 1), (.i .i64 0), (.i .i64 0), (.f 0)]
def vk2_1 : Blk := [(.i .i64 0), (.i .i64 0), (.i .i64 0), (.ef (.fb .quo (.i2f (.ib .sub .i64 (.ai 9 0 (.ci (.vi 0) (.ci (.li 17) .n0))) (.li 8))) (.lf 4616189618054758400)))]
def vk2_2 : Blk := [(.ei .i64 (.ti vm2_1 (.li 0) (.ti (.vb 2) (.ti (.ic .eql (.ai 9 0 (.ci (.at 1 0) (.ci (.li 7) .n0))) (.li 0)) (.li 5) vm2_2) vm2_2))), (.ei .i64 (.ti vm2_1 (.li 0) (.ai 9 0 (.ci (.ib .quo .i64 (.at 1 0) (.li 4)) (.ci (.li 2) .n0))))), (.ei .i64 (.ti vm2_1 (.li 0) (.ai 9 0 (.ci (.ib .quo .i64 (.at 1 0) (.li 40)) (.ci (.li 2) .n0))))), (.ef (.tf vm2_1 (.fb .quo (.i2f (.ib .sub .i64 (.ai 9 0 (.ci (.ib .quo .i64 (.at 1 0) (.li 11)) (.ci (.li 33) .n0))) (.li 16))) (.lf 4620693217682128896)) (.lf 0)))]
def vk2_3 : Blk := [(.ei .i64 (.ti vm2_3 (.li 0) (.ti (.vb 2) (.ti (.ic .eql (.ai 9 0 (.ci (.at 1 1) (.ci (.li 7) .n0))) (.li 0)) (.li 5) vm2_4) vm2_4))), (.ei .i64 (.ti vm2_3 (.li 0) (.ai 9 0 (.ci (.ib .quo .i64 (.at 1 1) (.li 4)) (.ci (.li 3) .n0))))), (.ei .i64 (.ti vm2_3 (.li 0) (.ai 9 0 (.ci (.ib .quo .i64 (.at 1 1) (.li 40)) (.ci (.li 3) .n0))))), (.ef (.tf vm2_3 (.fb .quo (.i2f (.ib .sub .i64 (.ai 9 0 (.ci (.ib .quo .i64 (.at 1 1) (.li 11)) (.ci (.li 33) .n0))) (.li 16))) (.lf 4620693217682128896)) (.lf 0)))]
def vk2_4 : Blk := [(.ei .i64 (.ti vm2_5 (.li 0) (.ti (.vb 2) (.ti (.ic .eql (.ai 9 0 (.ci (.at 1 2) (.ci (.li 7) .n0))) (.li 0)) (.li 5) vm2_6) vm2_6))), (.ei .i64 (.ti vm2_5 (.li 0) (.ai 9 0 (.ci (.ib .quo .i64 (.at 1 2) (.li 4)) (.ci (.li 4) .n0))))), (.ei .i64 (.ti vm2_5 (.li 0) (.ai 9 0 (.ci (.ib .quo .i64 (.at 1 2) (.li 40)) (.ci (.li 4) .n0))))), (.ef (.tf vm2_5 (.fb .quo (.i2f (.ib .sub .i64 (.ai 9 0 (.ci (.ib .quo .i64 (.at 1 2) (.li 11)) (.ci (.li 33) .n0))) (.li 16))) (.lf 4620693217682128896)) (.lf 0)))]
def vk2_5 : Blk := [(.ei .i64 (.ti vm2_7 (.li 0) (.ti (.vb 2) (.ti (.ic .eql (.ai 9 0 (.ci (.at 1 3) (.ci (.li 7) .n0))) (.li 0)) (.li 5) vm2_8) vm2_8))), (.ei .i64 (.ti vm2_7 (.li 0) (.ai 9 0 (.ci (.ib .quo .i64 (.at 1 3) (.li 4)) (.ci (.li 5) .n0))))), (.ei .i64 (.ti vm2_7 (.li 0) (.ai 9 0 (.ci (.ib .quo .i64 (.at 1 3) (.li 40)) (.ci (.li 5) .n0))))), (.ef (.tf vm2_7 (.fb .quo (.i2f (.ib .sub .i64 (.ai 9 0 (.ci (.ib .quo .i64 (.at 1 3) (.li 11)) (.ci (.li 33) .n0))) (.li 16))) (.lf 4620693217682128896)) (.lf 0)))]
def vk2_6 : Blk := [(.ei .i64 (.ti vm2_9 (.li 0) (.ti (.vb 2) (.ti (.ic .eql (.ai 9 0 (.ci (.at 1 4) (.ci (.li 7) .n0))) (.li 0)) (.li 5) vm2_10) vm2_10))), (.ei .i64 (.ti vm2_9 (.li 0) (.ai 9 0 (.ci (.ib .quo .i64 (.at 1 4) (.li 4)) (.ci (.li 6) .n0))))), (.ei .i64 (.ti vm2_9 (.li 0) (.ai 9 0 (.ci (.ib .quo .i64 (.at 1 4) (.li 40)) (.ci (.li 6) .n0))))), (.ef (.tf vm2_9 (.fb .quo (.i2f (.ib .sub .i64 (.ai 9 0 (.ci (.ib .quo .i64 (.at 1 4) (.li 11)) (.ci (.li 33) .n0))) (.li 16))) (.lf 4620693217682128896)) (.lf 0)))]
def vk2_7 : Blk := [(.ei .i64 (.ti vm2_11 (.li 0) (.ti (.vb 2) (.ti (.ic .eql (.ai 9 0 (.ci (.at 1 5) (.ci (.li 7) .n0))) (.li 0)) (.li 5) vm2_12) vm2_12))), (.ei .i64 (.ti vm2_11 (.li 0) (.ai 9 0 (.ci (.ib .quo .i64 (.at 1 5) (.li 4)) (.ci (.li 7) .n0))))), (.ei .i64 (.ti vm2_11 (.li 0) (.ai 9 0 (.ci (.ib .quo .i64 (.at 1 5) (.li 40)) (.ci (.li 7) .n0))))), (.ef (.tf vm2_11 (.fb .quo (.i2f (.ib .sub .i64 (.ai 9 0 (.ci (.ib .quo .i64 (.at 1 5) (.li 11)) (.ci (.li 33) .n0))) (.li 16))) (.lf 4620693217682128896)) (.lf 0)))]
def vk2_8 : Blk := [(.ei .i64 (.ti vm2_13 (.li 0) (.ti (.vb 2) (.ti (.ic .eql (.ai 9 0 (.ci (.at 1 6) (.ci (.li 7) .n0))) (.li 0)) (.li 5) vm2_14) vm2_14))), (.ei .i64 (.ti vm2_13 (.li 0) (.ai 9 0 (.ci (.ib .quo .i64 (.at 1 6) (.li 4)) (.ci (.li 8) .n0))))), (.ei .i64 (.ti vm2_13 (.li 0) (.ai 9 0 (.ci (.ib .quo .i64 (.at 1 6) (.li 40)) (.ci (.li 8) .n0))))), (.ef (.tf vm2_13 (.fb .quo (.i2f (.ib .sub .i64 (.ai 9 0 (.ci (.ib .quo .i64 (.at 1 6) (.li 11)) (.ci (.li 33) .n0))) (.li 16))) (.lf 4620693217682128896)) (.lf 0)))]
def vb2_0 : Blk := [(.ei .i64 (.ib .sub .i64 (.li 7) vm2_0))]
def vb2_1 : Blk := vk2_0 ++ vk2_1 ++ vk2_2 ++ vk2_3 ++ vk2_4 ++ vk2_5 ++ vk2_6 ++ vk2_7
def vb2_2 : Blk := [(.ef (.fb .quo (.i2f (.ib .sub .i64 (.ai 9 0 (.ci (.ti (.ic .lss (.li 0) (.vl 3)) (.at 3 0) (.li 0)) (.ci (.li 65) .n0))) (.li 32))) (.lf 4620693217682128896)))]
def vb2_3 : Blk := [(.ef (.fb .quo (.i2f (.ib .sub .i64 (.ai 9 0 (.ci (.ti (.ic .lss (.li 0) (.vl 3)) (.at 3 0) (.li 0)) (.ci (.li 65) .n0))) (.li 32))) (.lf 4620693217682128896))), (.ef (.fb .quo (.i2f (.ib .sub .i64 (.ai 9 0 (.ci (.ti (.ic .lss (.li 0) (.vl 3)) (.at 3 0) (.li 0)) (.ci (.li 65) .n0))) (.li 32))) (.lf 4620693217682128896)))]
def vb2_4 : Blk := [(.ei .i64 (.ib .sub .i64 (.li 8) vm2_0))]
def vb2_5 : Blk := vk2_0 ++ vk2_1 ++ vk2_2 ++ vk2_3 ++ vk2_4 ++ vk2_5 ++ vk2_6 ++ vk2_7 ++ vk2_8
def vb2_6 : Blk := [(.ei .i64 (.ib .sub .i64 (.li 9) vm2_0))]
def vb2_7 : Blk := vk2_0 ++ vk2_1 ++ vk2_2 ++ vk2_3 ++ vk2_4 ++ vk2_5 ++ vk2_6 ++ vk2_7 ++ vk2_8 ++ [(.ei .i64 (.ti vm2_15 (.li 0) (.ti (.vb 2) (.ti (.ic .eql (.ai 9 0 (.ci (.at 1 7) (.ci (.li 7) .n0))) (.li 0)) (.li 5) vm2_16) vm2_16))), (.ei .i64 (.ti vm2_15 (.li 0) (.ai 9 0 (.ci (.ib .quo .i64 (.at 1 7) (.li 4)) (.ci (.li 9) .n0))))), (.ei .i64 (.ti vm2_15 (.li 0) (.ai 9 0 (.ci (.ib .quo .i64 (.at 1 7) (.li 40)) (.ci (.li 9) .n0))))), (.ef (.tf vm2_15 (.fb .quo (.i2f (.ib .sub .i64 (.ai 9 0 (.ci (.ib .quo .i64 (.at 1 7) (.li 11)) (.ci (.li 33) .n0))) (.li 16))) (.lf 4620693217682128896)) (.lf 0)))]
def v0_6m0 : Memo :=  (⟨[(.ag [(.i .i64 1), (.sl 11 0 8 (.u 4)), (.sl 10 0 1 (.u 1))]), (.c (.sl 37 0 1 (.u 1)))], [(10, vb2_0), (11, vb2_1), (37, vb2_2)], 42, (.c (.sl 44 0 1 (.n 1))), [(10, vb2_0), (11, vb2_1), (37, vb2_2), (44, [(.ef (.vf 251))])], 83⟩) 
theorem v0_6o0 : mok [(0, 3, 0)] (lenL 1 6 8 ++ []) vN0 15 v0_6m0 = true := by kernel_rfl
def v0_6m1 : Memo :=  (⟨[(.ag [(.i .i64 1), (.sl 11 0 8 (.u 4)), (.sl 10 0 1 (.u 1))]), (.c (.sl 41 0 1 (.u 2)))], [(10, vb2_0), (11, vb2_1), (41, vb2_3)], 83, (.c (.sl 85 0 1 (.n 1))), [(10, vb2_0), (11, vb2_1), (41, vb2_3), (85, [(.ef (.vf 272)), (.ef (.vf 273))])], 139⟩) 
theorem v0_6o1 : mok [(0, 3, 0)] (lenL 1 6 8 ++ []) vN0 16 v0_6m1 = true := by kernel_rfl
def v0_6ms : List (Nat × List Memo) := [(15, [v0_6m0]), (16, [v0_6m1])]
theorem v0_6mo : AllMem (memRun [(0, 3, 0)] (lenL 1 6 8 ++ []) vN0) v0_6ms := ⟨⟨v0_6o0, trivial⟩, ⟨v0_6o1, trivial⟩, trivial⟩
def v0_6T : Tri := [(107, 121, 122), (102, 111, 112), (103, 113, 114), (104, 115, 116), (105, 118, 117), (106, 120, 119), (108, 124, 123), (109, 126, 125), (129, 136, 137), (130, 138, 139), (131, 147, 146), (132, 149, 148), (133, 153, 152), (134, 155, 154), (158, 165, 166), (159, 167, 168), (160, 176, 175), (161, 178, 177), (162, 182, 181), (163, 184, 183), (187, 194, 195), (188, 196, 197), (189, 205, 204), (190, 207, 206), (191, 211, 210), (192, 213, 212), (216, 223, 224), (217, 225, 226), (218, 234, 233), (219, 236, 235), (220, 240, 239), (221, 242, 241), (245, 252, 253), (246, 254, 255), (247, 263, 262), (248, 265, 264), (249, 269, 268), (250, 271, 270), (251, 272, 273)]
def v0_6Q : Qua := []
theorem v0_6a : trisOK vN0 [] v0_6T = true := by kernel_rfl
theorem v0_6b : quasOK vN0 [] v0_6Q = true := by kernel_rfl
theorem v0_6 : lawRunQ 6 10 200 [.i, .q, .b, .q] [(0, 3, 0)] (lenL 1 6 8 ++ []) vN0 v0_6T v0_6Q v0_6ms = true := by kernel_rfl
def v0_7m0 : Memo :=  (⟨[(.ag [(.i .i64 1), (.sl 11 0 9 (.u 4)), (.sl 10 0 1 (.u 1))]), (.c (.sl 40 0 1 (.u 1)))], [(10, vb2_4), (11, vb2_5), (40, vb2_2)], 45, (.c (.sl 47 0 1 (.n 1))), [(10, vb2_4), (11, vb2_5), (40, vb2_2), (47, [(.ef (.vf 280))])], 90⟩) 
theorem v0_7o0 : mok [(0, 3, 0)] (lenL 1 7 8 ++ []) vN0 15 v0_7m0 = true := by kernel_rfl
def v0_7m1 : Memo :=  (⟨[(.ag [(.i .i64 1), (.sl 11 0 9 (.u 4)), (.sl 10 0 1 (.u 1))]), (.c (.sl 44 0 1 (.u 2)))], [(10, vb2_4), (11, vb2_5), (44, vb2_3)], 90, (.c (.sl 92 0 1 (.n 1))), [(10, vb2_4), (11, vb2_5), (44, vb2_3), (92, [(.ef (.vf 301)), (.ef (.vf 302))])], 152⟩) 
theorem v0_7o1 : mok [(0, 3, 0)] (lenL 1 7 8 ++ []) vN0 16 v0_7m1 = true := by kernel_rfl
def v0_7ms : List (Nat × List Memo) := [(15, [v0_7m0]), (16, [v0_7m1])]
theorem v0_7mo : AllMem (memRun [(0, 3, 0)] (lenL 1 7 8 ++ []) vN0) v0_7ms := ⟨⟨v0_7o0, trivial⟩, ⟨v0_7o1, trivial⟩, trivial⟩
def v0_7T : Tri := [(107, 121, 122), (102, 111, 112), (103, 113, 114), (104, 115, 116), (105, 118, 117), (106, 120, 119), (108, 124, 123), (109, 126, 125), (129, 136, 137), (130, 138, 139), (131, 147, 146), (132, 149, 148), (133, 153, 152), (134, 155, 154), (158, 165, 166), (159, 167, 168), (160, 176, 175), (161, 178, 177), (162, 182, 181), (163, 184, 183), (187, 194, 195), (188, 196, 197), (189, 205, 204), (190, 207, 206), (191, 211, 210), (192, 213, 212), (216, 223, 224), (217, 225, 226), (218, 234, 233), (219, 236, 235), (220, 240, 239), (221, 242, 241), (245, 252, 253), (246, 254, 255), (247, 263, 262), (248, 265, 264), (249, 269, 268), (250, 271, 270), (274, 281, 282), (275, 283, 284), (276, 292, 291), (277, 294, 293), (278, 298, 297), (279, 300, 299), (280, 301, 302)]
def v0_7Q : Qua := []
theorem v0_7a : trisOK vN0 [] v0_7T = true := by kernel_rfl
theorem v0_7b : quasOK vN0 [] v0_7Q = true := by kernel_rfl
theorem v0_7 : lawRunQ 6 10 200 [.i, .q, .b, .q] [(0, 3, 0)] (lenL 1 7 8 ++ []) vN0 v0_7T v0_7Q v0_7ms = true := by kernel_rfl
def v0_8m0 : Memo :=  (⟨[(.ag [(.i .i64 1), (.sl 11 0 10 (.u 4)), (.sl 10 0 1 (.u 1))]), (.c (.sl 43 0 1 (.u 1)))], [(10, vb2_6), (11, vb2_7), (43, vb2_2)], 48, (.c (.sl 50 0 1 (.n 1))), [(10, vb2_6), (11, vb2_7), (43, vb2_2), (50, [(.ef (.vf 309))])], 97⟩) 
theorem v0_8o0 : mok [(0, 3, 0)] (lenL 1 8 8 ++ []) vN0 15 v0_8m0 = true := by kernel_rfl
def v0_8m1 : Memo :=  (⟨[(.ag [(.i .i64 1), (.sl 11 0 10 (.u 4)), (.sl 10 0 1 (.u 1))]), (.c (.sl 47 0 1 (.u 2)))], [(10, vb2_6), (11, vb2_7), (47, vb2_3)], 97, (.c (.sl 99 0 1 (.n 1))), [(10, vb2_6), (11, vb2_7), (47, vb2_3), (99, [(.ef (.vf 330)), (.ef (.vf 331))])], 165⟩) 
theorem v0_8o1 : mok [(0, 3, 0)] (lenL 1 8 8 ++ []) vN0 16 v0_8m1 = true := by kernel_rfl
def v0_8ms : List (Nat × List Memo) := [(15, [v0_8m0]), (16, [v0_8m1])]
theorem v0_8mo : AllMem (memRun [(0, 3, 0)] (lenL 1 8 8 ++ []) vN0) v0_8ms := ⟨⟨v0_8o0, trivial⟩, ⟨v0_8o1, trivial⟩, trivial⟩
def v0_8T : Tri := [(107, 121, 122), (102, 111, 112), (103, 113, 114), (104, 115, 116), (105, 118, 117), (106, 120, 119), (108, 124, 123), (109, 126, 125), (129, 136, 137), (130, 138, 139), (131, 147, 146), (132, 149, 148), (133, 153, 152), (134, 155, 154), (158, 165, 166), (159, 167, 168), (160, 176, 175), (161, 178, 177), (162, 182, 181), (163, 184, 183), (187, 194, 195), (188, 196, 197), (189, 205, 204), (190, 207, 206), (191, 211, 210), (192, 213, 212), (216, 223, 224), (217, 225, 226), (218, 234, 233), (219, 236, 235), (220, 240, 239), (221, 242, 241), (245, 252, 253), (246, 254, 255), (247, 263, 262), (248, 265, 264), (249, 269, 268), (250, 271, 270), (274, 281, 282), (275, 283, 284), (276, 292, 291), (277, 294, 293), (278, 298, 297), (279, 300, 299), (303, 310, 311), (304, 312, 313), (305, 321, 320), (306, 323, 322), (307, 327, 326), (308, 329, 328), (309, 330, 331)]
def v0_8Q : Qua := []
theorem v0_8a : trisOK vN0 [] v0_8T = true := by kernel_rfl
theorem v0_8b : quasOK vN0 [] v0_8Q = true := by kernel_rfl
theorem v0_8 : lawRunQ 6 10 200 [.i, .q, .b, .q] [(0, 3, 0)] (lenL 1 8 8 ++ []) vN0 v0_8T v0_8Q v0_8ms = true := by kernel_rfl
end Go.Proofs.Ytilhcamdjehpnaa
