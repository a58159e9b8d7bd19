/-
  'TapePoints': runs of it, part 8.
-/
import Derived.Test.YtilhcamdjehpnaaTapePointst2
namespace Go.Proofs.Ytilhcamdjehpnaa
open Go.RowKit Ex
set_option maxRecDepth 1000000
set_option maxHeartbeats 100000000
def vm8_0 : E := (.ib .quo .i64 (.vi 0) (.li 3))
def vm8_1 : E := (.ai 9 0 (.ci (.ib .add .i64 vm8_0 (.li 0)) (.ci (.li 3) .n0)))
def vm8_2 : E := (.ai 9 0 (.ci (.ib .add .i64 vm8_0 (.li 1)) (.ci (.li 3) .n0)))
def vm8_3 : E := (.ai 9 0 (.ci (.ib .add .i64 vm8_0 (.li 2)) (.ci (.li 3) .n0)))
def vm8_4 : E := (.ic .eql (.ai 9 0 (.ci (.at 1 0) (.ci (.li 11) .n0))) (.li 0))
def vm8_5 : E := (.ib .add .i64 (.li 2) (.ai 9 0 (.ci (.at 1 0) (.ci (.li 3) .n0))))
def vm8_6 : E := (.ic .eql (.ai 9 0 (.ci (.at 1 1) (.ci (.li 11) .n0))) (.li 0))
def vm8_7 : E := (.ib .add .i64 (.li 2) (.ai 9 0 (.ci (.at 1 1) (.ci (.li 3) .n0))))
def vm8_8 : E := (.ic .eql (.ai 9 0 (.ci (.at 1 2) (.ci (.li 11) .n0))) (.li 0))
def vm8_9 : E := (.ib .add .i64 (.li 2) (.ai 9 0 (.ci (.at 1 2) (.ci (.li 3) .n0))))
def vm8_10 : E := (.ic .eql (.ai 9 0 (.ci (.at 1 3) (.ci (.li 11) .n0))) (.li 0))
def vm8_11 : E := (.ib .add .i64 (.li 2) (.ai 9 0 (.ci (.at 1 3) (.ci (.li 3) .n0))))
def vm8_12 : E := (.ic .eql (.ai 9 0 (.ci (.at 1 4) (.ci (.li 11) .n0))) (.li 0))
def vm8_13 : E := (.ib .add .i64 (.li 2) (.ai 9 0 (.ci (.at 1 4) (.ci (.li 3) .n0))))
def vm8_14 : E := (.ic .eql (.ai 9 0 (.ci (.at 1 5) (.ci (.li 11) .n0))) (.li 0))
def vm8_15 : E := (.ib .add .i64 (.li 2) (.ai 9 0 (.ci (.at 1 5) (.ci (.li 3) .n0))))
def vm8_16 : E := (.ic .eql (.ai 9 0 (.ci (.at 1 6) (.ci (.li 11) .n0))) (.li 0))
def vm8_17 : E := (.ib .add .i64 (.li 2) (.ai 9 0 (.ci (.at 1 6) (.ci (.li 3) .n0))))
def vm8_18 : E := (.ic .eql (.ai 9 0 (.ci (.at 1 7) (.ci (.li 11) .n0))) (.li 0))
def vm8_19 : E := (.ib .add .i64 (.li 2) (.ai 9 0 (.ci (.at 1 7) (.ci (.li 3) .n0))))
def vk8_0 : Blk := [(.i .i64 1), (.i .i64 0), (.i .i64 0), (.f 0)]
def vk8_1 : Blk := [(.i .i64 1), (.i .i64 1), (.i .i64 0), (.f 0)]
def vk8_2 : Blk := [(.i .i64 1), (.i .i64 2), (.i .i64 0), (.f 0)]
def vk8_3 : Blk := [(.i .i64 0), (.i .i64 0), (.i .i64 0), (.ef (.fb .quo (.i2f (.ib .sub .i64 (.ai 9 0 (.ci (.vi 0) (.ci (.li 17) .n0))) (.li 8))) (.lf 4616189618054758400)))]
def vk8_4 : Blk := [(.ei .i64 (.ti vm8_4 (.li 0) (.ti (.vb 2) (.ti (.ic .eql (.ai 9 0 (.ci (.at 1 0) (.ci (.li 7) .n0))) (.li 0)) (.li 5) vm8_5) vm8_5))), (.ei .i64 (.ti vm8_4 (.li 0) (.ai 9 0 (.ci (.ib .quo .i64 (.at 1 0) (.li 4)) (.ci (.li 4) .n0))))), (.ei .i64 (.ti vm8_4 (.li 0) (.ai 9 0 (.ci (.ib .quo .i64 (.at 1 0) (.li 40)) (.ci (.li 4) .n0))))), (.ef (.tf vm8_4 (.fb .quo (.i2f (.ib .sub .i64 (.ai 9 0 (.ci (.ib .quo .i64 (.at 1 0) (.li 11)) (.ci (.li 33) .n0))) (.li 16))) (.lf 4620693217682128896)) (.lf 0)))]
def vk8_5 : Blk := [(.ei .i64 (.ti vm8_6 (.li 0) (.ti (.vb 2) (.ti (.ic .eql (.ai 9 0 (.ci (.at 1 1) (.ci (.li 7) .n0))) (.li 0)) (.li 5) vm8_7) vm8_7))), (.ei .i64 (.ti vm8_6 (.li 0) (.ai 9 0 (.ci (.ib .quo .i64 (.at 1 1) (.li 4)) (.ci (.li 5) .n0))))), (.ei .i64 (.ti vm8_6 (.li 0) (.ai 9 0 (.ci (.ib .quo .i64 (.at 1 1) (.li 40)) (.ci (.li 5) .n0))))), (.ef (.tf vm8_6 (.fb .quo (.i2f (.ib .sub .i64 (.ai 9 0 (.ci (.ib .quo .i64 (.at 1 1) (.li 11)) (.ci (.li 33) .n0))) (.li 16))) (.lf 4620693217682128896)) (.lf 0)))]
def vk8_6 : Blk := [(.ei .i64 (.ti vm8_8 (.li 0) (.ti (.vb 2) (.ti (.ic .eql (.ai 9 0 (.ci (.at 1 2) (.ci (.li 7) .n0))) (.li 0)) (.li 5) vm8_9) vm8_9))), (.ei .i64 (.ti vm8_8 (.li 0) (.ai 9 0 (.ci (.ib .quo .i64 (.at 1 2) (.li 4)) (.ci (.li 6) .n0))))), (.ei .i64 (.ti vm8_8 (.li 0) (.ai 9 0 (.ci (.ib .quo .i64 (.at 1 2) (.li 40)) (.ci (.li 6) .n0))))), (.ef (.tf vm8_8 (.fb .quo (.i2f (.ib .sub .i64 (.ai 9 0 (.ci (.ib .quo .i64 (.at 1 2) (.li 11)) (.ci (.li 33) .n0))) (.li 16))) (.lf 4620693217682128896)) (.lf 0)))]
def vk8_7 : Blk := [(.ei .i64 (.ti vm8_10 (.li 0) (.ti (.vb 2) (.ti (.ic .eql (.ai 9 0 (.ci (.at 1 3) (.ci (.li 7) .n0))) (.li 0)) (.li 5) vm8_11) vm8_11))), (.ei .i64 (.ti vm8_10 (.li 0) (.ai 9 0 (.ci (.ib .quo .i64 (.at 1 3) (.li 4)) (.ci (.li 7) .n0))))), (.ei .i64 (.ti vm8_10 (.li 0) (.ai 9 0 (.ci (.ib .quo .i64 (.at 1 3) (.li 40)) (.ci (.li 7) .n0))))), (.ef (.tf vm8_10 (.fb .quo (.i2f (.ib .sub .i64 (.ai 9 0 (.ci (.ib .quo .i64 (.at 1 3) (.li 11)) (.ci (.li 33) .n0))) (.li 16))) (.lf 4620693217682128896)) (.lf 0)))]
def vk8_8 : Blk := [(.ei .i64 (.ti vm8_12 (.li 0) (.ti (.vb 2) (.ti (.ic .eql (.ai 9 0 (.ci (.at 1 4) (.ci (.li 7) .n0))) (.li 0)) (.li 5) vm8_13) vm8_13))), (.ei .i64 (.ti vm8_12 (.li 0) (.ai 9 0 (.ci (.ib .quo .i64 (.at 1 4) (.li 4)) (.ci (.li 8) .n0))))), (.ei .i64 (.ti vm8_12 (.li 0) (.ai 9 0 (.ci (.ib .quo .i64 (.at 1 4) (.li 40)) (.ci (.li 8) .n0))))), (.ef (.tf vm8_12 (.fb .quo (.i2f (.ib .sub .i64 (.ai 9 0 (.ci (.ib .quo .i64 (.at 1 4) (.li 11)) (.ci (.li 33) .n0))) (.li 16))) (.lf 4620693217682128896)) (.lf 0)))]
def vk8_9 : Blk := [(.ei .i64 (.ti vm8_14 (.li 0) (.ti (.vb 2) (.ti (.ic .eql (.ai 9 0 (.ci (.at 1 5) (.ci (.li 7) .n0))) (.li 0)) (.li 5) vm8_15) vm8_15))), (.ei .i64 (.ti vm8_14 (.li 0) (.ai 9 0 (.ci (.ib .quo .i64 (.at 1 5) (.li 4)) (.ci (.li 9) .n0))))), (.ei .i64 (.ti vm8_14 (.li 0) (.ai 9 0 (.ci (.ib .quo .i64 (.at 1 5) (.li 40)) (.ci (.li 9) .n0))))), (.ef (.tf vm8_14 (.fb .quo (.i2f (.ib .sub .i64 (.ai 9 0 (.ci (.ib .quo .i64 (.at 1 5) (.li 11)) (.ci (.li 33) .n0))) (.li 16))) (.lf 4620693217682128896)) (.lf 0)))]
def vk8_10 : Blk := [(.ei .i64 (.ti vm8_16 (.li 0) (.ti (.vb 2) (.ti (.ic .eql (.ai 9 0 (.ci (.at 1 6) (.ci (.li 7) .n0))) (.li 0)) (.li 5) vm8_17) vm8_17))), (.ei .i64 (.ti vm8_16 (.li 0) (.ai 9 0 (.ci (.ib .quo .i64 (.at 1 6) (.li 4)) (.ci (.li 10) .n0))))), (.ei .i64 (.ti vm8_16 (.li 0) (.ai 9 0 (.ci (.ib .quo .i64 (.at 1 6) (.li 40)) (.ci (.li 10) .n0))))), (.ef (.tf vm8_16 (.fb .quo (.i2f (.ib .sub .i64 (.ai 9 0 (.ci (.ib .quo .i64 (.at 1 6) (.li 11)) (.ci (.li 33) .n0))) (.li 16))) (.lf 4620693217682128896)) (.lf 0)))]
def vb8_0 : Blk := [(.ei .i64 (.ib .sub .i64 (.li 9) vm8_1)), (.ei .i64 (.ib .sub .i64 (.li 9) vm8_2)), (.ei .i64 (.ib .sub .i64 (.li 9) vm8_3))]
def vb8_1 : Blk := vk8_0 ++ vk8_1 ++ vk8_2 ++ vk8_3 ++ vk8_4 ++ vk8_5 ++ vk8_6 ++ vk8_7 ++ vk8_8 ++ vk8_9
def vb8_2 : Blk := [(.ef (.fb .quo (.i2f (.ib .sub .i64 (.ai 9 0 (.ci (.ti (.ic .lss (.li 0) (.vl 3)) (.at 3 0) (.li 0)) (.ci (.li 65) .n0))) (.li 32))) (.lf 4620693217682128896))), (.ef (.fb .quo (.i2f (.ib .sub .i64 (.ai 9 0 (.ci (.ti (.ic .lss (.li 1) (.vl 3)) (.at 3 1) (.li 1)) (.ci (.li 65) .n0))) (.li 32))) (.lf 4620693217682128896))), (.ef (.fb .quo (.i2f (.ib .sub .i64 (.ai 9 0 (.ci (.ti (.ic .lss (.li 2) (.vl 3)) (.at 3 2) (.li 2)) (.ci (.li 65) .n0))) (.li 32))) (.lf 4620693217682128896)))]
def vb8_3 : Blk := [(.ef (.fb .quo (.i2f (.ib .sub .i64 (.ai 9 0 (.ci (.ti (.ic .lss (.li 0) (.vl 3)) (.at 3 0) (.li 0)) (.ci (.li 65) .n0))) (.li 32))) (.lf 4620693217682128896))), (.ef (.fb .quo (.i2f (.ib .sub .i64 (.ai 9 0 (.ci (.ti (.ic .lss (.li 0) (.vl 3)) (.at 3 0) (.li 0)) (.ci (.li 65) .n0))) (.li 32))) (.lf 4620693217682128896))), (.ef (.fb .quo (.i2f (.ib .sub .i64 (.ai 9 0 (.ci (.ti (.ic .lss (.li 1) (.vl 3)) (.at 3 1) (.li 1)) (.ci (.li 65) .n0))) (.li 32))) (.lf 4620693217682128896))), (.ef (.fb .quo (.i2f (.ib .sub .i64 (.ai 9 0 (.ci (.ti (.ic .lss (.li 1) (.vl 3)) (.at 3 1) (.li 1)) (.ci (.li 65) .n0))) (.li 32))) (.lf 4620693217682128896))), (.ef (.fb .quo (.i2f (.ib .sub .i64 (.ai 9 0 (.ci (.ti (.ic .lss (.li 2) (.vl 3)) (.at 3 2) (.li 2)) (.ci (.li 65) .n0))) (.li 32))) (.lf 4620693217682128896))), (.ef (.fb .quo (.i2f (.ib .sub .i64 (.ai 9 0 (.ci (.ti (.ic .lss (.li 2) (.vl 3)) (.at 3 2) (.li 2)) (.ci (.li 65) .n0))) (.li 32))) (.lf 4620693217682128896)))]
def vb8_4 : Blk := [(.ei .i64 (.ib .sub .i64 (.li 10) vm8_1)), (.ei .i64 (.ib .sub .i64 (.li 10) vm8_2)), (.ei .i64 (.ib .sub .i64 (.li 10) vm8_3))]
def vb8_5 : Blk := vk8_0 ++ vk8_1 ++ vk8_2 ++ vk8_3 ++ vk8_4 ++ vk8_5 ++ vk8_6 ++ vk8_7 ++ vk8_8 ++ vk8_9 ++ vk8_10
def vb8_6 : Blk := [(.ei .i64 (.ib .sub .i64 (.li 11) vm8_1)), (.ei .i64 (.ib .sub .i64 (.li 11) vm8_2)), (.ei .i64 (.ib .sub .i64 (.li 11) vm8_3))]
def vb8_7 : Blk := vk8_0 ++ vk8_1 ++ vk8_2 ++ vk8_3 ++ vk8_4 ++ vk8_5 ++ vk8_6 ++ vk8_7 ++ vk8_8 ++ vk8_9 ++ vk8_10 ++ [(.ei .i64 (.ti vm8_18 (.li 0) (.ti (.vb 2) (.ti (.ic .eql (.ai 9 0 (.ci (.at 1 7) (.ci (.li 7) .n0))) (.li 0)) (.li 5) vm8_19) vm8_19))), (.ei .i64 (.ti vm8_18 (.li 0) (.ai 9 0 (.ci (.ib .quo .i64 (.at 1 7) (.li 4)) (.ci (.li 11) .n0))))), (.ei .i64 (.ti vm8_18 (.li 0) (.ai 9 0 (.ci (.ib .quo .i64 (.at 1 7) (.li 40)) (.ci (.li 11) .n0))))), (.ef (.tf vm8_18 (.fb .quo (.i2f (.ib .sub .i64 (.ai 9 0 (.ci (.ib .quo .i64 (.at 1 7) (.li 11)) (.ci (.li 33) .n0))) (.li 16))) (.lf 4620693217682128896)) (.lf 0)))]
def v2_6m0 : Memo :=  (⟨[(.ag [(.i .i64 3), (.sl 11 0 10 (.u 4)), (.sl 10 0 3 (.u 1))]), (.c (.sl 45 0 3 (.u 1)))], [(10, vb8_0), (11, vb8_1), (45, vb8_2)], 60, (.c (.sl 62 0 3 (.n 3))), [(10, vb8_0), (11, vb8_1), (45, vb8_2), (62, [(.ef (.vf 280)), (.ef (.vf 281)), (.ef (.vf 282))])], 109⟩) 
theorem v2_6o0 : mok [(0, 3, 2)] (lenL 1 6 8 ++ []) vN2 15 v2_6m0 = true := by kernel_rfl
def v2_6m1 : Memo :=  (⟨[(.ag [(.i .i64 3), (.sl 11 0 10 (.u 4)), (.sl 10 0 3 (.u 1))]), (.c (.sl 59 0 3 (.u 2)))], [(10, vb8_0), (11, vb8_1), (59, vb8_3)], 109, (.c (.sl 111 0 3 (.n 3))), [(10, vb8_0), (11, vb8_1), (59, vb8_3), (111, [(.ef (.vf 303)), (.ef (.vf 304)), (.ef (.vf 305)), (.ef (.vf 306)), (.ef (.vf 307)), (.ef (.vf 308))])], 175⟩) 
theorem v2_6o1 : mok [(0, 3, 2)] (lenL 1 6 8 ++ []) vN2 16 v2_6m1 = true := by kernel_rfl
def v2_6ms : List (Nat × List Memo) := [(15, [v2_6m0]), (16, [v2_6m1])]
theorem v2_6mo : AllMem (memRun [(0, 3, 2)] (lenL 1 6 8 ++ []) vN2) v2_6ms := ⟨⟨v2_6o0, trivial⟩, ⟨v2_6o1, trivial⟩, trivial⟩
def v2_6T : Tri := [(103, 103, 103), (104, 104, 104), (105, 119, 118), (106, 121, 120), (107, 125, 124), (108, 127, 126), (134, 143, 144), (135, 145, 146), (136, 154, 153), (137, 156, 155), (138, 160, 159), (139, 162, 161), (169, 178, 179), (170, 180, 181), (171, 189, 188), (172, 191, 190), (173, 195, 194), (174, 197, 196), (204, 213, 214), (205, 215, 216), (206, 224, 223), (207, 226, 225), (208, 230, 229), (209, 232, 231), (239, 248, 249), (240, 250, 251), (241, 259, 258), (242, 261, 260), (243, 265, 264), (244, 267, 266), (274, 283, 284), (275, 285, 286), (276, 294, 293), (277, 296, 295), (278, 300, 299), (279, 302, 301), (280, 303, 304), (281, 305, 306), (282, 307, 308)]
def v2_6Q : Qua := []
theorem v2_6a : trisOK vN2 [] v2_6T = true := by kernel_rfl
theorem v2_6b : quasOK vN2 [] v2_6Q = true := by kernel_rfl
theorem v2_6 : lawRunQ 6 10 200 [.i, .q, .b, .q] [(0, 3, 2)] (lenL 1 6 8 ++ []) vN2 v2_6T v2_6Q v2_6ms = true := by kernel_rfl
def v2_7m0 : Memo :=  (⟨[(.ag [(.i .i64 3), (.sl 11 0 11 (.u 4)), (.sl 10 0 3 (.u 1))]), (.c (.sl 48 0 3 (.u 1)))], [(10, vb8_4), (11, vb8_5), (48, vb8_2)], 63, (.c (.sl 65 0 3 (.n 3))), [(10, vb8_4), (11, vb8_5), (48, vb8_2), (65, [(.ef (.vf 315)), (.ef (.vf 316)), (.ef (.vf 317))])], 116⟩) 
theorem v2_7o0 : mok [(0, 3, 2)] (lenL 1 7 8 ++ []) vN2 15 v2_7m0 = true := by kernel_rfl
def v2_7m1 : Memo :=  (⟨[(.ag [(.i .i64 3), (.sl 11 0 11 (.u 4)), (.sl 10 0 3 (.u 1))]), (.c (.sl 62 0 3 (.u 2)))], [(10, vb8_4), (11, vb8_5), (62, vb8_3)], 116, (.c (.sl 118 0 3 (.n 3))), [(10, vb8_4), (11, vb8_5), (62, vb8_3), (118, [(.ef (.vf 338)), (.ef (.vf 339)), (.ef (.vf 340)), (.ef (.vf 341)), (.ef (.vf 342)), (.ef (.vf 343))])], 188⟩) 
theorem v2_7o1 : mok [(0, 3, 2)] (lenL 1 7 8 ++ []) vN2 16 v2_7m1 = true := by kernel_rfl
def v2_7ms : List (Nat × List Memo) := [(15, [v2_7m0]), (16, [v2_7m1])]
theorem v2_7mo : AllMem (memRun [(0, 3, 2)] (lenL 1 7 8 ++ []) vN2) v2_7ms := ⟨⟨v2_7o0, trivial⟩, ⟨v2_7o1, trivial⟩, trivial⟩
def v2_7T : Tri := [(103, 103, 103), (104, 104, 104), (105, 119, 118), (106, 121, 120), (107, 125, 124), (108, 127, 126), (134, 143, 144), (135, 145, 146), (136, 154, 153), (137, 156, 155), (138, 160, 159), (139, 162, 161), (169, 178, 179), (170, 180, 181), (171, 189, 188), (172, 191, 190), (173, 195, 194), (174, 197, 196), (204, 213, 214), (205, 215, 216), (206, 224, 223), (207, 226, 225), (208, 230, 229), (209, 232, 231), (239, 248, 249), (240, 250, 251), (241, 259, 258), (242, 261, 260), (243, 265, 264), (244, 267, 266), (274, 283, 284), (275, 285, 286), (276, 294, 293), (277, 296, 295), (278, 300, 299), (279, 302, 301), (309, 318, 319), (310, 320, 321), (311, 329, 328), (312, 331, 330), (313, 335, 334), (314, 337, 336), (315, 338, 339), (316, 340, 341), (317, 342, 343)]
def v2_7Q : Qua := []
theorem v2_7a : trisOK vN2 [] v2_7T = true := by kernel_rfl
theorem v2_7b : quasOK vN2 [] v2_7Q = true := by kernel_rfl
theorem v2_7 : lawRunQ 6 10 200 [.i, .q, .b, .q] [(0, 3, 2)] (lenL 1 7 8 ++ []) vN2 v2_7T v2_7Q v2_7ms = true := by kernel_rfl
def v2_8m0 : Memo :=  (⟨[(.ag [(.i .i64 3), (.sl 11 0 12 (.u 4)), (.sl 10 0 3 (.u 1))]), (.c (.sl 51 0 3 (.u 1)))], [(10, vb8_6), (11, vb8_7), (51, vb8_2)], 66, (.c (.sl 68 0 3 (.n 3))), [(10, vb8_6), (11, vb8_7), (51, vb8_2), (68, [(.ef (.vf 350)), (.ef (.vf 351)), (.ef (.vf 352))])], 123⟩) 
theorem v2_8o0 : mok [(0, 3, 2)] (lenL 1 8 8 ++ []) vN2 15 v2_8m0 = true := by kernel_rfl
def v2_8m1 : Memo :=  (⟨[(.ag [(.i .i64 3), (.sl 11 0 12 (.u 4)), (.sl 10 0 3 (.u 1))]), (.c (.sl 65 0 3 (.u 2)))], [(10, vb8_6), (11, vb8_7), (65, vb8_3)], 123, (.c (.sl 125 0 3 (.n 3))), [(10, vb8_6), (11, vb8_7), (65, vb8_3), (125, [(.ef (.vf 373)), (.ef (.vf 374)), (.ef (.vf 375)), (.ef (.vf 376)), (.ef (.vf 377)), (.ef (.vf 378))])], 201⟩) 
theorem v2_8o1 : mok [(0, 3, 2)] (lenL 1 8 8 ++ []) vN2 16 v2_8m1 = true := by kernel_rfl
def v2_8ms : List (Nat × List Memo) := [(15, [v2_8m0]), (16, [v2_8m1])]
theorem v2_8mo : AllMem (memRun [(0, 3, 2)] (lenL 1 8 8 ++ []) vN2) v2_8ms := ⟨⟨v2_8o0, trivial⟩, ⟨v2_8o1, trivial⟩, trivial⟩
def v2_8T : Tri := [(103, 103, 103), (104, 104, 104), (105, 119, 118), (106, 121, 120), (107, 125, 124), (108, 127, 126), (134, 143, 144), (135, 145, 146), (136, 154, 153), (137, 156, 155), (138, 160, 159), (139, 162, 161), (169, 178, 179), (170, 180, 181), (171, 189, 188), (172, 191, 190), (173, 195, 194), (174, 197, 196), (204, 213, 214), (205, 215, 216), (206, 224, 223), (207, 226, 225), (208, 230, 229), (209, 232, 231), (239, 248, 249), (240, 250, 251), (241, 259, 258), (242, 261, 260), (243, 265, 264), (244, 267, 266), (274, 283, 284), (275, 285, 286), (276, 294, 293), (277, 296, 295), (278, 300, 299), (279, 302, 301), (309, 318, 319), (310, 320, 321), (311, 329, 328), (312, 331, 330), (313, 335, 334), (314, 337, 336), (344, 353, 354), (345, 355, 356), (346, 364, 363), (347, 366, 365), (348, 370, 369), (349, 372, 371), (350, 373, 374), (351, 375, 376), (352, 377, 378)]
def v2_8Q : Qua := []
theorem v2_8a : trisOK vN2 [] v2_8T = true := by kernel_rfl
theorem v2_8b : quasOK vN2 [] v2_8Q = true := by kernel_rfl
theorem v2_8 : lawRunQ 6 10 200 [.i, .q, .b, .q] [(0, 3, 2)] (lenL 1 8 8 ++ []) vN2 v2_8T v2_8Q v2_8ms = true := by kernel_rfl
end Go.Proofs.Ytilhcamdjehpnaa
