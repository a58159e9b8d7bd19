/-
  'TapePoints': runs of it, part 7.
-/
import Derived.Test.YtilhcamdjehpnaaTapePointst2
namespace Go.Proofs.Ytilhcamdjehpnaa
open Go.RowKit Ex
set_option maxRecDepth 1000000
set_option maxHeartbeats 100000000
def vm7_0 : E := (.ib .quo .i64 (.vi 0) (.li 3))
def vm7_1 : E := (.ai 9 0 (.ci (.ib .add .i64 vm7_0 (.li 0)) (.ci (.li 3) .n0)))
def vm7_2 : E := (.ai 9 0 (.ci (.ib .add .i64 vm7_0 (.li 1)) (.ci (.li 3) .n0)))
def vm7_3 : E := (.ai 9 0 (.ci (.ib .add .i64 vm7_0 (.li 2)) (.ci (.li 3) .n0)))
def vm7_4 : E := (.ic .eql (.ai 9 0 (.ci (.at 1 0) (.ci (.li 11) .n0))) (.li 0))
def vm7_5 : E := (.ib .add .i64 (.li 2) (.ai 9 0 (.ci (.at 1 0) (.ci (.li 3) .n0))))
def vm7_6 : E := (.ic .eql (.ai 9 0 (.ci (.at 1 1) (.ci (.li 11) .n0))) (.li 0))
def vm7_7 : E := (.ib .add .i64 (.li 2) (.ai 9 0 (.ci (.at 1 1) (.ci (.li 3) .n0))))
def vm7_8 : E := (.ic .eql (.ai 9 0 (.ci (.at 1 2) (.ci (.li 11) .n0))) (.li 0))
def vm7_9 : E := (.ib .add .i64 (.li 2) (.ai 9 0 (.ci (.at 1 2) (.ci (.li 3) .n0))))
def vm7_10 : E := (.ic .eql (.ai 9 0 (.ci (.at 1 3) (.ci (.li 11) .n0))) (.li 0))
def vm7_11 : E := (.ib .add .i64 (.li 2) (.ai 9 0 (.ci (.at 1 3) (.ci (.li 3) .n0))))
def vm7_12 : E := (.ic .eql (.ai 9 0 (.ci (.at 1 4) (.ci (.li 11) .n0))) (.li 0))
def vm7_13 : E := (.ib .add .i64 (.li 2) (.ai 9 0 (.ci (.at 1 4) (.ci (.li 3) .n0))))
def vk7_0 : Blk := [(.i .i64 1), (.i .i64 0), (.i .i64 0), (.f 0)]
def vk7_1 : Blk := [(.i .i64 1), (.i .i64 1), (.i .i64 0), (.f 0)]
def vk7_2 : Blk := [(.i .i64 1), (.i .i64 2), (.i .i64 0), (.f 0)]
def vk7_3 : Blk := [(.i .i64 0), (.i .i64 0), (.i .i64 0), (.ef (.fb .quo (.i2f (.ib .sub .i64 (.ai 9 0 (.ci (.vi 0) (.ci (.li 17) .n0))) (.li 8))) (.lf 4616189618054758400)))]
def vk7_4 : Blk := [(.ei .i64 (.ti vm7_4 (.li 0) (.ti (.vb 2) (.ti (.ic .eql (.ai 9 0 (.ci (.at 1 0) (.ci (.li 7) .n0))) (.li 0)) (.li 5) vm7_5) vm7_5))), (.ei .i64 (.ti vm7_4 (.li 0) (.ai 9 0 (.ci (.ib .quo .i64 (.at 1 0) (.li 4)) (.ci (.li 4) .n0))))), (.ei .i64 (.ti vm7_4 (.li 0) (.ai 9 0 (.ci (.ib .quo .i64 (.at 1 0) (.li 40)) (.ci (.li 4) .n0))))), (.ef (.tf vm7_4 (.fb .quo (.i2f (.ib .sub .i64 (.ai 9 0 (.ci (.ib .quo .i64 (.at 1 0) (.li 11)) (.ci (.li 33) .n0))) (.li 16))) (.lf 4620693217682128896)) (.lf 0)))]
def vk7_5 : Blk := [(.ei .i64 (.ti vm7_6 (.li 0) (.ti (.vb 2) (.ti (.ic .eql (.ai 9 0 (.ci (.at 1 1) (.ci (.li 7) .n0))) (.li 0)) (.li 5) vm7_7) vm7_7))), (.ei .i64 (.ti vm7_6 (.li 0) (.ai 9 0 (.ci (.ib .quo .i64 (.at 1 1) (.li 4)) (.ci (.li 5) .n0))))), (.ei .i64 (.ti vm7_6 (.li 0) (.ai 9 0 (.ci (.ib .quo .i64 (.at 1 1) (.li 40)) (.ci (.li 5) .n0))))), (.ef (.tf vm7_6 (.fb .quo (.i2f (.ib .sub .i64 (.ai 9 0 (.ci (.ib .quo .i64 (.at 1 1) (.li 11)) (.ci (.li 33) .n0))) (.li 16))) (.lf 4620693217682128896)) (.lf 0)))]
def vk7_6 : Blk := [(.ei .i64 (.ti vm7_8 (.li 0) (.ti (.vb 2) (.ti (.ic .eql (.ai 9 0 (.ci (.at 1 2) (.ci (.li 7) .n0))) (.li 0)) (.li 5) vm7_9) vm7_9))), (.ei .i64 (.ti vm7_8 (.li 0) (.ai 9 0 (.ci (.ib .quo .i64 (.at 1 2) (.li 4)) (.ci (.li 6) .n0))))), (.ei .i64 (.ti vm7_8 (.li 0) (.ai 9 0 (.ci (.ib .quo .i64 (.at 1 2) (.li 40)) (.ci (.li 6) .n0))))), (.ef (.tf vm7_8 (.fb .quo (.i2f (.ib .sub .i64 (.ai 9 0 (.ci (.ib .quo .i64 (.at 1 2) (.li 11)) (.ci (.li 33) .n0))) (.li 16))) (.lf 4620693217682128896)) (.lf 0)))]
def vk7_7 : Blk := [(.ei .i64 (.ti vm7_10 (.li 0) (.ti (.vb 2) (.ti (.ic .eql (.ai 9 0 (.ci (.at 1 3) (.ci (.li 7) .n0))) (.li 0)) (.li 5) vm7_11) vm7_11))), (.ei .i64 (.ti vm7_10 (.li 0) (.ai 9 0 (.ci (.ib .quo .i64 (.at 1 3) (.li 4)) (.ci (.li 7) .n0))))), (.ei .i64 (.ti vm7_10 (.li 0) (.ai 9 0 (.ci (.ib .quo .i64 (.at 1 3) (.li 40)) (.ci (.li 7) .n0))))), (.ef (.tf vm7_10 (.fb .quo (.i2f (.ib .sub .i64 (.ai 9 0 (.ci (.ib .quo .i64 (.at 1 3) (.li 11)) (.ci (.li 33) .n0))) (.li 16))) (.lf 4620693217682128896)) (.lf 0)))]
def vb7_0 : Blk := [(.ei .i64 (.ib .sub .i64 (.li 6) vm7_1)), (.ei .i64 (.ib .sub .i64 (.li 6) vm7_2)), (.ei .i64 (.ib .sub .i64 (.li 6) vm7_3))]
def vb7_1 : Blk := vk7_0 ++ vk7_1 ++ vk7_2 ++ vk7_3 ++ vk7_4 ++ vk7_5 ++ vk7_6
def vb7_2 : Blk := [(.ef (.fb .quo (.i2f (.ib .sub .i64 (.ai 9 0 (.ci (.ti (.ic .lss (.li 0) (.vl 3)) (.at 3 0) (.li 0)) (.ci (.li 65) .n0))) (.li 32))) (.lf 4620693217682128896))), (.ef (.fb .quo (.i2f (.ib .sub .i64 (.ai 9 0 (.ci (.ti (.ic .lss (.li 1) (.vl 3)) (.at 3 1) (.li 1)) (.ci (.li 65) .n0))) (.li 32))) (.lf 4620693217682128896))), (.ef (.fb .quo (.i2f (.ib .sub .i64 (.ai 9 0 (.ci (.ti (.ic .lss (.li 2) (.vl 3)) (.at 3 2) (.li 2)) (.ci (.li 65) .n0))) (.li 32))) (.lf 4620693217682128896)))]
def vb7_3 : Blk := [(.ef (.fb .quo (.i2f (.ib .sub .i64 (.ai 9 0 (.ci (.ti (.ic .lss (.li 0) (.vl 3)) (.at 3 0) (.li 0)) (.ci (.li 65) .n0))) (.li 32))) (.lf 4620693217682128896))), (.ef (.fb .quo (.i2f (.ib .sub .i64 (.ai 9 0 (.ci (.ti (.ic .lss (.li 0) (.vl 3)) (.at 3 0) (.li 0)) (.ci (.li 65) .n0))) (.li 32))) (.lf 4620693217682128896))), (.ef (.fb .quo (.i2f (.ib .sub .i64 (.ai 9 0 (.ci (.ti (.ic .lss (.li 1) (.vl 3)) (.at 3 1) (.li 1)) (.ci (.li 65) .n0))) (.li 32))) (.lf 4620693217682128896))), (.ef (.fb .quo (.i2f (.ib .sub .i64 (.ai 9 0 (.ci (.ti (.ic .lss (.li 1) (.vl 3)) (.at 3 1) (.li 1)) (.ci (.li 65) .n0))) (.li 32))) (.lf 4620693217682128896))), (.ef (.fb .quo (.i2f (.ib .sub .i64 (.ai 9 0 (.ci (.ti (.ic .lss (.li 2) (.vl 3)) (.at 3 2) (.li 2)) (.ci (.li 65) .n0))) (.li 32))) (.lf 4620693217682128896))), (.ef (.fb .quo (.i2f (.ib .sub .i64 (.ai 9 0 (.ci (.ti (.ic .lss (.li 2) (.vl 3)) (.at 3 2) (.li 2)) (.ci (.li 65) .n0))) (.li 32))) (.lf 4620693217682128896)))]
def vb7_4 : Blk := [(.ei .i64 (.ib .sub .i64 (.li 7) vm7_1)), (.ei .i64 (.ib .sub .i64 (.li 7) vm7_2)), (.ei .i64 (.ib .sub .i64 (.li 7) vm7_3))]
def vb7_5 : Blk := vk7_0 ++ vk7_1 ++ vk7_2 ++ vk7_3 ++ vk7_4 ++ vk7_5 ++ vk7_6 ++ vk7_7
def vb7_6 : Blk := [(.ei .i64 (.ib .sub .i64 (.li 8) vm7_1)), (.ei .i64 (.ib .sub .i64 (.li 8) vm7_2)), (.ei .i64 (.ib .sub .i64 (.li 8) vm7_3))]
def vb7_7 : Blk := vk7_0 ++ vk7_1 ++ vk7_2 ++ vk7_3 ++ vk7_4 ++ vk7_5 ++ vk7_6 ++ vk7_7 ++ [(.ei .i64 (.ti vm7_12 (.li 0) (.ti (.vb 2) (.ti (.ic .eql (.ai 9 0 (.ci (.at 1 4) (.ci (.li 7) .n0))) (.li 0)) (.li 5) vm7_13) vm7_13))), (.ei .i64 (.ti vm7_12 (.li 0) (.ai 9 0 (.ci (.ib .quo .i64 (.at 1 4) (.li 4)) (.ci (.li 8) .n0))))), (.ei .i64 (.ti vm7_12 (.li 0) (.ai 9 0 (.ci (.ib .quo .i64 (.at 1 4) (.li 40)) (.ci (.li 8) .n0))))), (.ef (.tf vm7_12 (.fb .quo (.i2f (.ib .sub .i64 (.ai 9 0 (.ci (.ib .quo .i64 (.at 1 4) (.li 11)) (.ci (.li 33) .n0))) (.li 16))) (.lf 4620693217682128896)) (.lf 0)))]
def v2_3m0 : Memo :=  (⟨[(.ag [(.i .i64 3), (.sl 11 0 7 (.u 4)), (.sl 10 0 3 (.u 1))]), (.c (.sl 36 0 3 (.u 1)))], [(10, vb7_0), (11, vb7_1), (36, vb7_2)], 51, (.c (.sl 53 0 3 (.n 3))), [(10, vb7_0), (11, vb7_1), (36, vb7_2), (53, [(.ef (.vf 175)), (.ef (.vf 176)), (.ef (.vf 177))])], 88⟩) 
theorem v2_3o0 : mok [(0, 3, 2)] (lenL 1 3 8 ++ []) vN2 15 v2_3m0 = true := by kernel_rfl
def v2_3m1 : Memo :=  (⟨[(.ag [(.i .i64 3), (.sl 11 0 7 (.u 4)), (.sl 10 0 3 (.u 1))]), (.c (.sl 50 0 3 (.u 2)))], [(10, vb7_0), (11, vb7_1), (50, vb7_3)], 88, (.c (.sl 90 0 3 (.n 3))), [(10, vb7_0), (11, vb7_1), (50, vb7_3), (90, [(.ef (.vf 198)), (.ef (.vf 199)), (.ef (.vf 200)), (.ef (.vf 201)), (.ef (.vf 202)), (.ef (.vf 203))])], 136⟩) 
theorem v2_3o1 : mok [(0, 3, 2)] (lenL 1 3 8 ++ []) vN2 16 v2_3m1 = true := by kernel_rfl
def v2_3ms : List (Nat × List Memo) := [(15, [v2_3m0]), (16, [v2_3m1])]
theorem v2_3mo : AllMem (memRun [(0, 3, 2)] (lenL 1 3 8 ++ []) vN2) v2_3ms := ⟨⟨v2_3o0, trivial⟩, ⟨v2_3o1, trivial⟩, trivial⟩
def v2_3T : Tri := [(103, 103, 103), (104, 104, 104), (105, 119, 118), (106, 121, 120), (107, 125, 124), (108, 127, 126), (134, 143, 144), (135, 145, 146), (136, 154, 153), (137, 156, 155), (138, 160, 159), (139, 162, 161), (169, 178, 179), (170, 180, 181), (171, 189, 188), (172, 191, 190), (173, 195, 194), (174, 197, 196), (175, 198, 199), (176, 200, 201), (177, 202, 203)]
def v2_3Q : Qua := []
theorem v2_3a : trisOK vN2 [] v2_3T = true := by kernel_rfl
theorem v2_3b : quasOK vN2 [] v2_3Q = true := by kernel_rfl
theorem v2_3 : lawRunQ 6 10 200 [.i, .q, .b, .q] [(0, 3, 2)] (lenL 1 3 8 ++ []) vN2 v2_3T v2_3Q v2_3ms = true := by kernel_rfl
def v2_4m0 : Memo :=  (⟨[(.ag [(.i .i64 3), (.sl 11 0 8 (.u 4)), (.sl 10 0 3 (.u 1))]), (.c (.sl 39 0 3 (.u 1)))], [(10, vb7_4), (11, vb7_5), (39, vb7_2)], 54, (.c (.sl 56 0 3 (.n 3))), [(10, vb7_4), (11, vb7_5), (39, vb7_2), (56, [(.ef (.vf 210)), (.ef (.vf 211)), (.ef (.vf 212))])], 95⟩) 
theorem v2_4o0 : mok [(0, 3, 2)] (lenL 1 4 8 ++ []) vN2 15 v2_4m0 = true := by kernel_rfl
def v2_4m1 : Memo :=  (⟨[(.ag [(.i .i64 3), (.sl 11 0 8 (.u 4)), (.sl 10 0 3 (.u 1))]), (.c (.sl 53 0 3 (.u 2)))], [(10, vb7_4), (11, vb7_5), (53, vb7_3)], 95, (.c (.sl 97 0 3 (.n 3))), [(10, vb7_4), (11, vb7_5), (53, vb7_3), (97, [(.ef (.vf 233)), (.ef (.vf 234)), (.ef (.vf 235)), (.ef (.vf 236)), (.ef (.vf 237)), (.ef (.vf 238))])], 149⟩) 
theorem v2_4o1 : mok [(0, 3, 2)] (lenL 1 4 8 ++ []) vN2 16 v2_4m1 = true := by kernel_rfl
def v2_4ms : List (Nat × List Memo) := [(15, [v2_4m0]), (16, [v2_4m1])]
theorem v2_4mo : AllMem (memRun [(0, 3, 2)] (lenL 1 4 8 ++ []) vN2) v2_4ms := ⟨⟨v2_4o0, trivial⟩, ⟨v2_4o1, trivial⟩, trivial⟩
def v2_4T : Tri := [(103, 103, 103), (104, 104, 104), (105, 119, 118), (106, 121, 120), (107, 125, 124), (108, 127, 126), (134, 143, 144), (135, 145, 146), (136, 154, 153), (137, 156, 155), (138, 160, 159), (139, 162, 161), (169, 178, 179), (170, 180, 181), (171, 189, 188), (172, 191, 190), (173, 195, 194), (174, 197, 196), (204, 213, 214), (205, 215, 216), (206, 224, 223), (207, 226, 225), (208, 230, 229), (209, 232, 231), (210, 233, 234), (211, 235, 236), (212, 237, 238)]
def v2_4Q : Qua := []
theorem v2_4a : trisOK vN2 [] v2_4T = true := by kernel_rfl
theorem v2_4b : quasOK vN2 [] v2_4Q = true := by kernel_rfl
theorem v2_4 : lawRunQ 6 10 200 [.i, .q, .b, .q] [(0, 3, 2)] (lenL 1 4 8 ++ []) vN2 v2_4T v2_4Q v2_4ms = true := by kernel_rfl
def v2_5m0 : Memo :=  (⟨[(.ag [(.i .i64 3), (.sl 11 0 9 (.u 4)), (.sl 10 0 3 (.u 1))]), (.c (.sl 42 0 3 (.u 1)))], [(10, vb7_6), (11, vb7_7), (42, vb7_2)], 57, (.c (.sl 59 0 3 (.n 3))), [(10, vb7_6), (11, vb7_7), (42, vb7_2), (59, [(.ef (.vf 245)), (.ef (.vf 246)), (.ef (.vf 247))])], 102⟩) 
theorem v2_5o0 : mok [(0, 3, 2)] (lenL 1 5 8 ++ []) vN2 15 v2_5m0 = true := by kernel_rfl
def v2_5m1 : Memo :=  (⟨[(.ag [(.i .i64 3), (.sl 11 0 9 (.u 4)), (.sl 10 0 3 (.u 1))]), (.c (.sl 56 0 3 (.u 2)))], [(10, vb7_6), (11, vb7_7), (56, vb7_3)], 102, (.c (.sl 104 0 3 (.n 3))), [(10, vb7_6), (11, vb7_7), (56, vb7_3), (104, [(.ef (.vf 268)), (.ef (.vf 269)), (.ef (.vf 270)), (.ef (.vf 271)), (.ef (.vf 272)), (.ef (.vf 273))])], 162⟩) 
theorem v2_5o1 : mok [(0, 3, 2)] (lenL 1 5 8 ++ []) vN2 16 v2_5m1 = true := by kernel_rfl
def v2_5ms : List (Nat × List Memo) := [(15, [v2_5m0]), (16, [v2_5m1])]
theorem v2_5mo : AllMem (memRun [(0, 3, 2)] (lenL 1 5 8 ++ []) vN2) v2_5ms := ⟨⟨v2_5o0, trivial⟩, ⟨v2_5o1, trivial⟩, trivial⟩
def v2_5T : Tri := [(103, 103, 103), (104, 104, 104), (105, 119, 118), (106, 121, 120), (107, 125, 124), (108, 127, 126), (134, 143, 144), (135, 145, 146), (136, 154, 153), (137, 156, 155), (138, 160, 159), (139, 162, 161), (169, 178, 179), (170, 180, 181), (171, 189, 188), (172, 191, 190), (173, 195, 194), (174, 197, 196), (204, 213, 214), (205, 215, 216), (206, 224, 223), (207, 226, 225), (208, 230, 229), (209, 232, 231), (239, 248, 249), (240, 250, 251), (241, 259, 258), (242, 261, 260), (243, 265, 264), (244, 267, 266), (245, 268, 269), (246, 270, 271), (247, 272, 273)]
def v2_5Q : Qua := []
theorem v2_5a : trisOK vN2 [] v2_5T = true := by kernel_rfl
theorem v2_5b : quasOK vN2 [] v2_5Q = true := by kernel_rfl
theorem v2_5 : lawRunQ 6 10 200 [.i, .q, .b, .q] [(0, 3, 2)] (lenL 1 5 8 ++ []) vN2 v2_5T v2_5Q v2_5ms = true := by kernel_rfl
end Go.Proofs.Ytilhcamdjehpnaa
