/-
  'TapePoints': runs of it, part 5.
-/
import Derived.Test.YtilhcamdjehpnaaTapePointst1
namespace Go.Proofs.Ytilhcamdjehpnaa
open Go.RowKit Ex
set_option maxRecDepth 1000000
set_option maxHeartbeats 100000000
def vm5_0 : E := (.ib .quo .i64 (.vi 0) (.li 3))
def vm5_1 : E := (.ai 9 0 (.ci (.ib .add .i64 vm5_0 (.li 0)) (.ci (.li 3) .n0)))
def vm5_2 : E := (.ai 9 0 (.ci (.ib .add .i64 vm5_0 (.li 1)) (.ci (.li 3) .n0)))
def vm5_3 : E := (.ic .eql (.ai 9 0 (.ci (.at 1 0) (.ci (.li 11) .n0))) (.li 0))
def vm5_4 : E := (.ib .add .i64 (.li 2) (.ai 9 0 (.ci (.at 1 0) (.ci (.li 3) .n0))))
def vm5_5 : E := (.ic .eql (.ai 9 0 (.ci (.at 1 1) (.ci (.li 11) .n0))) (.li 0))
def vm5_6 : E := (.ib .add .i64 (.li 2) (.ai 9 0 (.ci (.at 1 1) (.ci (.li 3) .n0))))
def vm5_7 : E := (.ic .eql (.ai 9 0 (.ci (.at 1 2) (.ci (.li 11) .n0))) (.li 0))
def vm5_8 : E := (.ib .add .i64 (.li 2) (.ai 9 0 (.ci (.at 1 2) (.ci (.li 3) .n0))))
def vm5_9 : E := (.ic .eql (.ai 9 0 (.ci (.at 1 3) (.ci (.li 11) .n0))) (.li 0))
def vm5_10 : E := (.ib .add .i64 (.li 2) (.ai 9 0 (.ci (.at 1 3) (.ci (.li 3) .n0))))
def vm5_11 : E := (.ic .eql (.ai 9 0 (.ci (.at 1 4) (.ci (.li 11) .n0))) (.li 0))
def vm5_12 : E := (.ib .add .i64 (.li 2) (.ai 9 0 (.ci (.at 1 4) (.ci (.li 3) .n0))))
def vm5_13 : E := (.ic .eql (.ai 9 0 (.ci (.at 1 5) (.ci (.li 11) .n0))) (.li 0))
def vm5_14 : E := (.ib .add .i64 (.li 2) (.ai 9 0 (.ci (.at 1 5) (.ci (.li 3) .n0))))
def vm5_15 : E := (.ic .eql (.ai 9 0 (.ci (.at 1 6) (.ci (.li 11) .n0))) (.li 0))
def vm5_16 : E := (.ib .add .i64 (.li 2) (.ai 9 0 (.ci (.at 1 6) (.ci (.li 3) .n0))))
def vm5_17 : E := (.ic .eql (.ai 9 0 (.ci (.at 1 7) (.ci (.li 11) .n0))) (.li 0))
def vm5_18 : E := (.ib .add .i64 (.li 2) (.ai 9 0 (.ci (.at 1 7) (.ci (.li 3) .n0))))
def vk5_0 : Blk := [(.i .i64 1), (.i .i64 0), (.i .i64 0), (.f 0)]
def vk5_1 : Blk := [(.i .i64 1), (.i .i64 1), (.i .i64 0), (.f 0)]
def vk5_2 : Blk := [(.i .i64 0), (.i .i64 0), (.i .i64 0), (.ef (.fb .quo (.i2f (.ib .sub .i64 (.ai 9 0 (.ci (.vi 0) (.ci (.li 17) .n0))) (.li 8))) (.lf 4616189618054758400)))]
def vk5_3 : Blk := [(.ei .i64 (.ti vm5_3 (.li 0) (.ti (.vb 2) (.ti (.ic .eql (.ai 9 0 (.ci (.at 1 0) (.ci (.li 7) .n0))) (.li 0)) (.li 5) vm5_4) vm5_4))), (.ei .i64 (.ti vm5_3 (.li 0) (.ai 9 0 (.ci (.ib .quo .i64 (.at 1 0) (.li 4)) (.ci (.li 3) .n0))))), (.ei .i64 (.ti vm5_3 (.li 0) (.ai 9 0 (.ci (.ib .quo .i64 (.at 1 0) (.li 40)) (.ci (.li 3) .n0))))), (.ef (.tf vm5_3 (.fb .quo (.i2f (.ib .sub .i64 (.ai 9 0 (.ci (.ib .quo .i64 (.at 1 0) (.li 11)) (.ci (.li 33) .n0))) (.li 16))) (.lf 4620693217682128896)) (.lf 0)))]
def vk5_4 : Blk := [(.ei .i64 (.ti vm5_5 (.li 0) (.ti (.vb 2) (.ti (.ic .eql (.ai 9 0 (.ci (.at 1 1) (.ci (.li 7) .n0))) (.li 0)) (.li 5) vm5_6) vm5_6))), (.ei .i64 (.ti vm5_5 (.li 0) (.ai 9 0 (.ci (.ib .quo .i64 (.at 1 1) (.li 4)) (.ci (.li 4) .n0))))), (.ei .i64 (.ti vm5_5 (.li 0) (.ai 9 0 (.ci (.ib .quo .i64 (.at 1 1) (.li 40)) (.ci (.li 4) .n0))))), (.ef (.tf vm5_5 (.fb .quo (.i2f (.ib .sub .i64 (.ai 9 0 (.ci (.ib .quo .i64 (.at 1 1) (.li 11)) (.ci (.li 33) .n0))) (.li 16))) (.lf 4620693217682128896)) (.lf 0)))]
def vk5_5 : Blk := [(.ei .i64 (.ti vm5_7 (.li 0) (.ti (.vb 2) (.ti (.ic .eql (.ai 9 0 (.ci (.at 1 2) (.ci (.li 7) .n0))) (.li 0)) (.li 5) vm5_8) vm5_8))), (.ei .i64 (.ti vm5_7 (.li 0) (.ai 9 0 (.ci (.ib .quo .i64 (.at 1 2) (.li 4)) (.ci (.li 5) .n0))))), (.ei .i64 (.ti vm5_7 (.li 0) (.ai 9 0 (.ci (.ib .quo .i64 (.at 1 2) (.li 40)) (.ci (.li 5) .n0))))), (.ef (.tf vm5_7 (.fb .quo (.i2f (.ib .sub .i64 (.ai 9 0 (.ci (.ib .quo .i64 (.at 1 2) (.li 11)) (.ci (.li 33) .n0))) (.li 16))) (.lf 4620693217682128896)) (.lf 0)))]
def vk5_6 : Blk := [(.ei .i64 (.ti vm5_9 (.li 0) (.ti (.vb 2) (.ti (.ic .eql (.ai 9 0 (.ci (.at 1 3) (.ci (.li 7) .n0))) (.li 0)) (.li 5) vm5_10) vm5_10))), (.ei .i64 (.ti vm5_9 (.li 0) (.ai 9 0 (.ci (.ib .quo .i64 (.at 1 3) (.li 4)) (.ci (.li 6) .n0))))), (.ei .i64 (.ti vm5_9 (.li 0) (.ai 9 0 (.ci (.ib .quo .i64 (.at 1 3) (.li 40)) (.ci (.li 6) .n0))))), (.ef (.tf vm5_9 (.fb .quo (.i2f (.ib .sub .i64 (.ai 9 0 (.ci (.ib .quo .i64 (.at 1 3) (.li 11)) (.ci (.li 33) .n0))) (.li 16))) (.lf 4620693217682128896)) (.lf 0)))]
def vk5_7 : Blk := [(.ei .i64 (.ti vm5_11 (.li 0) (.ti (.vb 2) (.ti (.ic .eql (.ai 9 0 (.ci (.at 1 4) (.ci (.li 7) .n0))) (.li 0)) (.li 5) vm5_12) vm5_12))), (.ei .i64 (.ti vm5_11 (.li 0) (.ai 9 0 (.ci (.ib .quo .i64 (.at 1 4) (.li 4)) (.ci (.li 7) .n0))))), (.ei .i64 (.ti vm5_11 (.li 0) (.ai 9 0 (.ci (.ib .quo .i64 (.at 1 4) (.li 40)) (.ci (.li 7) .n0))))), (.ef (.tf vm5_11 (.fb .quo (.i2f (.ib .sub .i64 (.ai 9 0 (.ci (.ib .quo .i64 (.at 1 4) (.li 11)) (.ci (.li 33) .n0))) (.li 16))) (.lf 4620693217682128896)) (.lf 0)))]
def vk5_8 : Blk := [(.ei .i64 (.ti vm5_13 (.li 0) (.ti (.vb 2) (.ti (.ic .eql (.ai 9 0 (.ci (.at 1 5) (.ci (.li 7) .n0))) (.li 0)) (.li 5) vm5_14) vm5_14))), (.ei .i64 (.ti vm5_13 (.li 0) (.ai 9 0 (.ci (.ib .quo .i64 (.at 1 5) (.li 4)) (.ci (.li 8) .n0))))), (.ei .i64 (.ti vm5_13 (.li 0) (.ai 9 0 (.ci (.ib .quo .i64 (.at 1 5) (.li 40)) (.ci (.li 8) .n0))))), (.ef (.tf vm5_13 (.fb .quo (.i2f (.ib .sub .i64 (.ai 9 0 (.ci (.ib .quo .i64 (.at 1 5) (.li 11)) (.ci (.li 33) .n0))) (.li 16))) (.lf 4620693217682128896)) (.lf 0)))]
def vk5_9 : Blk := [(.ei .i64 (.ti vm5_15 (.li 0) (.ti (.vb 2) (.ti (.ic .eql (.ai 9 0 (.ci (.at 1 6) (.ci (.li 7) .n0))) (.li 0)) (.li 5) vm5_16) vm5_16))), (.ei .i64 (.ti vm5_15 (.li 0) (.ai 9 0 (.ci (.ib .quo .i64 (.at 1 6) (.li 4)) (.ci (.li 9) .n0))))), (.ei .i64 (.ti vm5_15 (.li 0) (.ai 9 0 (.ci (.ib .quo .i64 (.at 1 6) (.li 40)) (.ci (.li 9) .n0))))), (.ef (.tf vm5_15 (.fb .quo (.i2f (.ib .sub .i64 (.ai 9 0 (.ci (.ib .quo .i64 (.at 1 6) (.li 11)) (.ci (.li 33) .n0))) (.li 16))) (.lf 4620693217682128896)) (.lf 0)))]
def vb5_0 : Blk := [(.ei .i64 (.ib .sub .i64 (.li 8) vm5_1)), (.ei .i64 (.ib .sub .i64 (.li 8) vm5_2))]
def vb5_1 : Blk := vk5_0 ++ vk5_1 ++ vk5_2 ++ vk5_3 ++ vk5_4 ++ vk5_5 ++ vk5_6 ++ vk5_7 ++ vk5_8
def vb5_2 : Blk := [(.ef (.fb .quo (.i2f (.ib .sub .i64 (.ai 9 0 (.ci (.ti (.ic .lss (.li 0) (.vl 3)) (.at 3 0) (.li 0)) (.ci (.li 65) .n0))) (.li 32))) (.lf 4620693217682128896))), (.ef (.fb .quo (.i2f (.ib .sub .i64 (.ai 9 0 (.ci (.ti (.ic .lss (.li 1) (.vl 3)) (.at 3 1) (.li 1)) (.ci (.li 65) .n0))) (.li 32))) (.lf 4620693217682128896)))]
def vb5_3 : Blk := [(.ef (.fb .quo (.i2f (.ib .sub .i64 (.ai 9 0 (.ci (.ti (.ic .lss (.li 0) (.vl 3)) (.at 3 0) (.li 0)) (.ci (.li 65) .n0))) (.li 32))) (.lf 4620693217682128896))), (.ef (.fb .quo (.i2f (.ib .sub .i64 (.ai 9 0 (.ci (.ti (.ic .lss (.li 0) (.vl 3)) (.at 3 0) (.li 0)) (.ci (.li 65) .n0))) (.li 32))) (.lf 4620693217682128896))), (.ef (.fb .quo (.i2f (.ib .sub .i64 (.ai 9 0 (.ci (.ti (.ic .lss (.li 1) (.vl 3)) (.at 3 1) (.li 1)) (.ci (.li 65) .n0))) (.li 32))) (.lf 4620693217682128896))), (.ef (.fb .quo (.i2f (.ib .sub .i64 (.ai 9 0 (.ci (.ti (.ic .lss (.li 1) (.vl 3)) (.at 3 1) (.li 1)) (.ci (.li 65) .n0))) (.li 32))) (.lf 4620693217682128896)))]
def vb5_4 : Blk := [(.ei .i64 (.ib .sub .i64 (.li 9) vm5_1)), (.ei .i64 (.ib .sub .i64 (.li 9) vm5_2))]
def vb5_5 : Blk := vk5_0 ++ vk5_1 ++ vk5_2 ++ vk5_3 ++ vk5_4 ++ vk5_5 ++ vk5_6 ++ vk5_7 ++ vk5_8 ++ vk5_9
def vb5_6 : Blk := [(.ei .i64 (.ib .sub .i64 (.li 10) vm5_1)), (.ei .i64 (.ib .sub .i64 (.li 10) vm5_2))]
def vb5_7 : Blk := vk5_0 ++ vk5_1 ++ vk5_2 ++ vk5_3 ++ vk5_4 ++ vk5_5 ++ vk5_6 ++ vk5_7 ++ vk5_8 ++ vk5_9 ++ [(.ei .i64 (.ti vm5_17 (.li 0) (.ti (.vb 2) (.ti (.ic .eql (.ai 9 0 (.ci (.at 1 7) (.ci (.li 7) .n0))) (.li 0)) (.li 5) vm5_18) vm5_18))), (.ei .i64 (.ti vm5_17 (.li 0) (.ai 9 0 (.ci (.ib .quo .i64 (.at 1 7) (.li 4)) (.ci (.li 10) .n0))))), (.ei .i64 (.ti vm5_17 (.li 0) (.ai 9 0 (.ci (.ib .quo .i64 (.at 1 7) (.li 40)) (.ci (.li 10) .n0))))), (.ef (.tf vm5_17 (.fb .quo (.i2f (.ib .sub .i64 (.ai 9 0 (.ci (.ib .quo .i64 (.at 1 7) (.li 11)) (.ci (.li 33) .n0))) (.li 16))) (.lf 4620693217682128896)) (.lf 0)))]
def v1_6m0 : Memo :=  (⟨[(.ag [(.i .i64 2), (.sl 11 0 9 (.u 4)), (.sl 10 0 2 (.u 1))]), (.c (.sl 41 0 2 (.u 1)))], [(10, vb5_0), (11, vb5_1), (41, vb5_2)], 51, (.c (.sl 53 0 2 (.n 2))), [(10, vb5_0), (11, vb5_1), (41, vb5_2), (53, [(.ef (.vf 264)), (.ef (.vf 265))])], 96⟩) 
theorem v1_6o0 : mok [(0, 3, 1)] (lenL 1 6 8 ++ []) vN1 15 v1_6m0 = true := by kernel_rfl
def v1_6m1 : Memo :=  (⟨[(.ag [(.i .i64 2), (.sl 11 0 9 (.u 4)), (.sl 10 0 2 (.u 1))]), (.c (.sl 50 0 2 (.u 2)))], [(10, vb5_0), (11, vb5_1), (50, vb5_3)], 96, (.c (.sl 98 0 2 (.n 2))), [(10, vb5_0), (11, vb5_1), (50, vb5_3), (98, [(.ef (.vf 286)), (.ef (.vf 287)), (.ef (.vf 288)), (.ef (.vf 289))])], 157⟩) 
theorem v1_6o1 : mok [(0, 3, 1)] (lenL 1 6 8 ++ []) vN1 16 v1_6m1 = true := by kernel_rfl
def v1_6ms : List (Nat × List Memo) := [(15, [v1_6m0]), (16, [v1_6m1])]
theorem v1_6mo : AllMem (memRun [(0, 3, 1)] (lenL 1 6 8 ++ []) vN1) v1_6ms := ⟨⟨v1_6o0, trivial⟩, ⟨v1_6o1, trivial⟩, trivial⟩
def v1_6T : Tri := [(102, 102, 102), (103, 103, 103), (104, 117, 116), (105, 119, 118), (106, 123, 122), (107, 125, 124), (130, 138, 139), (131, 140, 141), (132, 149, 148), (133, 151, 150), (134, 155, 154), (135, 157, 156), (162, 170, 171), (163, 172, 173), (164, 181, 180), (165, 183, 182), (166, 187, 186), (167, 189, 188), (194, 202, 203), (195, 204, 205), (196, 213, 212), (197, 215, 214), (198, 219, 218), (199, 221, 220), (226, 234, 235), (227, 236, 237), (228, 245, 244), (229, 247, 246), (230, 251, 250), (231, 253, 252), (258, 266, 267), (259, 268, 269), (260, 277, 276), (261, 279, 278), (262, 283, 282), (263, 285, 284), (264, 286, 287), (265, 288, 289)]
def v1_6Q : Qua := []
theorem v1_6a : trisOK vN1 [] v1_6T = true := by kernel_rfl
theorem v1_6b : quasOK vN1 [] v1_6Q = true := by kernel_rfl
theorem v1_6 : lawRunQ 6 10 200 [.i, .q, .b, .q] [(0, 3, 1)] (lenL 1 6 8 ++ []) vN1 v1_6T v1_6Q v1_6ms = true := by kernel_rfl
def v1_7m0 : Memo :=  (⟨[(.ag [(.i .i64 2), (.sl 11 0 10 (.u 4)), (.sl 10 0 2 (.u 1))]), (.c (.sl 44 0 2 (.u 1)))], [(10, vb5_4), (11, vb5_5), (44, vb5_2)], 54, (.c (.sl 56 0 2 (.n 2))), [(10, vb5_4), (11, vb5_5), (44, vb5_2), (56, [(.ef (.vf 296)), (.ef (.vf 297))])], 103⟩) 
theorem v1_7o0 : mok [(0, 3, 1)] (lenL 1 7 8 ++ []) vN1 15 v1_7m0 = true := by kernel_rfl
def v1_7m1 : Memo :=  (⟨[(.ag [(.i .i64 2), (.sl 11 0 10 (.u 4)), (.sl 10 0 2 (.u 1))]), (.c (.sl 53 0 2 (.u 2)))], [(10, vb5_4), (11, vb5_5), (53, vb5_3)], 103, (.c (.sl 105 0 2 (.n 2))), [(10, vb5_4), (11, vb5_5), (53, vb5_3), (105, [(.ef (.vf 318)), (.ef (.vf 319)), (.ef (.vf 320)), (.ef (.vf 321))])], 170⟩) 
theorem v1_7o1 : mok [(0, 3, 1)] (lenL 1 7 8 ++ []) vN1 16 v1_7m1 = true := by kernel_rfl
def v1_7ms : List (Nat × List Memo) := [(15, [v1_7m0]), (16, [v1_7m1])]
theorem v1_7mo : AllMem (memRun [(0, 3, 1)] (lenL 1 7 8 ++ []) vN1) v1_7ms := ⟨⟨v1_7o0, trivial⟩, ⟨v1_7o1, trivial⟩, trivial⟩
def v1_7T : Tri := [(102, 102, 102), (103, 103, 103), (104, 117, 116), (105, 119, 118), (106, 123, 122), (107, 125, 124), (130, 138, 139), (131, 140, 141), (132, 149, 148), (133, 151, 150), (134, 155, 154), (135, 157, 156), (162, 170, 171), (163, 172, 173), (164, 181, 180), (165, 183, 182), (166, 187, 186), (167, 189, 188), (194, 202, 203), (195, 204, 205), (196, 213, 212), (197, 215, 214), (198, 219, 218), (199, 221, 220), (226, 234, 235), (227, 236, 237), (228, 245, 244), (229, 247, 246), (230, 251, 250), (231, 253, 252), (258, 266, 267), (259, 268, 269), (260, 277, 276), (261, 279, 278), (262, 283, 282), (263, 285, 284), (290, 298, 299), (291, 300, 301), (292, 309, 308), (293, 311, 310), (294, 315, 314), (295, 317, 316), (296, 318, 319), (297, 320, 321)]
def v1_7Q : Qua := []
theorem v1_7a : trisOK vN1 [] v1_7T = true := by kernel_rfl
theorem v1_7b : quasOK vN1 [] v1_7Q = true := by kernel_rfl
theorem v1_7 : lawRunQ 6 10 200 [.i, .q, .b, .q] [(0, 3, 1)] (lenL 1 7 8 ++ []) vN1 v1_7T v1_7Q v1_7ms = true := by kernel_rfl
def v1_8m0 : Memo :=  (⟨[(.ag [(.i .i64 2), (.sl 11 0 11 (.u 4)), (.sl 10 0 2 (.u 1))]), (.c (.sl 47 0 2 (.u 1)))], [(10, vb5_6), (11, vb5_7), (47, vb5_2)], 57, (.c (.sl 59 0 2 (.n 2))), [(10, vb5_6), (11, vb5_7), (47, vb5_2), (59, [(.ef (.vf 328)), (.ef (.vf 329))])], 110⟩) 
theorem v1_8o0 : mok [(0, 3, 1)] (lenL 1 8 8 ++ []) vN1 15 v1_8m0 = true := by kernel_rfl
def v1_8m1 : Memo :=  (⟨[(.ag [(.i .i64 2), (.sl 11 0 11 (.u 4)), (.sl 10 0 2 (.u 1))]), (.c (.sl 56 0 2 (.u 2)))], [(10, vb5_6), (11, vb5_7), (56, vb5_3)], 110, (.c (.sl 112 0 2 (.n 2))), [(10, vb5_6), (11, vb5_7), (56, vb5_3), (112, [(.ef (.vf 350)), (.ef (.vf 351)), (.ef (.vf 352)), (.ef (.vf 353))])], 183⟩) 
theorem v1_8o1 : mok [(0, 3, 1)] (lenL 1 8 8 ++ []) vN1 16 v1_8m1 = true := by kernel_rfl
def v1_8ms : List (Nat × List Memo) := [(15, [v1_8m0]), (16, [v1_8m1])]
theorem v1_8mo : AllMem (memRun [(0, 3, 1)] (lenL 1 8 8 ++ []) vN1) v1_8ms := ⟨⟨v1_8o0, trivial⟩, ⟨v1_8o1, trivial⟩, trivial⟩
def v1_8T : Tri := [(102, 102, 102), (103, 103, 103), (104, 117, 116), (105, 119, 118), (106, 123, 122), (107, 125, 124), (130, 138, 139), (131, 140, 141), (132, 149, 148), (133, 151, 150), (134, 155, 154), (135, 157, 156), (162, 170, 171), (163, 172, 173), (164, 181, 180), (165, 183, 182), (166, 187, 186), (167, 189, 188), (194, 202, 203), (195, 204, 205), (196, 213, 212), (197, 215, 214), (198, 219, 218), (199, 221, 220), (226, 234, 235), (227, 236, 237), (228, 245, 244), (229, 247, 246), (230, 251, 250), (231, 253, 252), (258, 266, 267), (259, 268, 269), (260, 277, 276), (261, 279, 278), (262, 283, 282), (263, 285, 284), (290, 298, 299), (291, 300, 301), (292, 309, 308), (293, 311, 310), (294, 315, 314), (295, 317, 316), (322, 330, 331), (323, 332, 333), (324, 341, 340), (325, 343, 342), (326, 347, 346), (327, 349, 348), (328, 350, 351), (329, 352, 353)]
def v1_8Q : Qua := []
theorem v1_8a : trisOK vN1 [] v1_8T = true := by kernel_rfl
theorem v1_8b : quasOK vN1 [] v1_8Q = true := by kernel_rfl
theorem v1_8 : lawRunQ 6 10 200 [.i, .q, .b, .q] [(0, 3, 1)] (lenL 1 8 8 ++ []) vN1 v1_8T v1_8Q v1_8ms = true := by kernel_rfl
end Go.Proofs.Ytilhcamdjehpnaa
