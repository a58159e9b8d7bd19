/-
  'TapePoints': runs of it, part 4.
-/
import Derived.Test.YtilhcamdjehpnaaTapePointst1
namespace Go.Proofs.Ytilhcamdjehpnaa
open Go.RowKit Ex
set_option maxRecDepth 1000000
set_option maxHeartbeats 100000000
def vm4_0 : E := (.ib .quo .i64 (.vi 0) (.li 3))
def vm4_1 : E := (.ai 9 0 (.ci (.ib .add .i64 vm4_0 (.li 0)) (.ci (.li 3) .n0)))
def vm4_2 : E := (.ai 9 0 (.ci (.ib .add .i64 vm4_0 (.li 1)) (.ci (.li 3) .n0)))
def vm4_3 : E := (.ic .eql (.ai 9 0 (.ci (.at 1 0) (.ci (.li 11) .n0))) (.li 0))
def vm4_4 : E := (.ib .add .i64 (.li 2) (.ai 9 0 (.ci (.at 1 0) (.ci (.li 3) .n0))))
def vm4_5 : E := (.ic .eql (.ai 9 0 (.ci (.at 1 1) (.ci (.li 11) .n0))) (.li 0))
def vm4_6 : E := (.ib .add .i64 (.li 2) (.ai 9 0 (.ci (.at 1 1) (.ci (.li 3) .n0))))
def vm4_7 : E := (.ic .eql (.ai 9 0 (.ci (.at 1 2) (.ci (.li 11) .n0))) (.li 0))
def vm4_8 : E := (.ib .add .i64 (.li 2) (.ai 9 0 (.ci (.at 1 2) (.ci (.li 3) .n0))))
def vm4_9 : E := (.ic .eql (.ai 9 0 (.ci (.at 1 3) (.ci (.li 11) .n0))) (.li 0))
def vm4_10 : E := (.ib .add .i64 (.li 2) (.ai 9 0 (.ci (.at 1 3) (.ci (.li 3) .n0))))
def vm4_11 : E := (.ic .eql (.ai 9 0 (.ci (.at 1 4) (.ci (.li 11) .n0))) (.li 0))
def vm4_12 : E := (.ib .add .i64 (.li 2) (.ai 9 0 (.ci (.at 1 4) (.ci (.li 3) .n0))))
def vk4_0 : Blk := [(.i .i64 1), (.i .i64 0), (.i .i64 0), (.f 0)]
def vk4_1 : Blk := [(.i .i64 1), (.i .i64 1), (.i .i64 0), (.f 0)]
def vk4_2 : Blk := [(.i .i64 0), (.i .i64 0), (.i .i64 0), (.ef (.fb .quo (.i2f (.ib .sub .i64 (.ai 9 0 (.ci (.vi 0) (.ci (.li 17) .n0))) (.li 8))) (.lf 4616189618054758400)))]
def vk4_3 : Blk := [(.ei .i64 (.ti vm4_3 (.li 0) (.ti (.vb 2) (.ti (.ic .eql (.ai 9 0 (.ci (.at 1 0) (.ci (.li 7) .n0))) (.li 0)) (.li 5) vm4_4) vm4_4))), (.ei .i64 (.ti vm4_3 (.li 0) (.ai 9 0 (.ci (.ib .quo .i64 (.at 1 0) (.li 4)) (.ci (.li 3) .n0))))), (.ei .i64 (.ti vm4_3 (.li 0) (.ai 9 0 (.ci (.ib .quo .i64 (.at 1 0) (.li 40)) (.ci (.li 3) .n0))))), (.ef (.tf vm4_3 (.fb .quo (.i2f (.ib .sub .i64 (.ai 9 0 (.ci (.ib .quo .i64 (.at 1 0) (.li 11)) (.ci (.li 33) .n0))) (.li 16))) (.lf 4620693217682128896)) (.lf 0)))]
def vk4_4 : Blk := [(.ei .i64 (.ti vm4_5 (.li 0) (.ti (.vb 2) (.ti (.ic .eql (.ai 9 0 (.ci (.at 1 1) (.ci (.li 7) .n0))) (.li 0)) (.li 5) vm4_6) vm4_6))), (.ei .i64 (.ti vm4_5 (.li 0) (.ai 9 0 (.ci (.ib .quo .i64 (.at 1 1) (.li 4)) (.ci (.li 4) .n0))))), (.ei .i64 (.ti vm4_5 (.li 0) (.ai 9 0 (.ci (.ib .quo .i64 (.at 1 1) (.li 40)) (.ci (.li 4) .n0))))), (.ef (.tf vm4_5 (.fb .quo (.i2f (.ib .sub .i64 (.ai 9 0 (.ci (.ib .quo .i64 (.at 1 1) (.li 11)) (.ci (.li 33) .n0))) (.li 16))) (.lf 4620693217682128896)) (.lf 0)))]
def vk4_5 : Blk := [(.ei .i64 (.ti vm4_7 (.li 0) (.ti (.vb 2) (.ti (.ic .eql (.ai 9 0 (.ci (.at 1 2) (.ci (.li 7) .n0))) (.li 0)) (.li 5) vm4_8) vm4_8))), (.ei .i64 (.ti vm4_7 (.li 0) (.ai 9 0 (.ci (.ib .quo .i64 (.at 1 2) (.li 4)) (.ci (.li 5) .n0))))), (.ei .i64 (.ti vm4_7 (.li 0) (.ai 9 0 (.ci (.ib .quo .i64 (.at 1 2) (.li 40)) (.ci (.li 5) .n0))))), (.ef (.tf vm4_7 (.fb .quo (.i2f (.ib .sub .i64 (.ai 9 0 (.ci (.ib .quo .i64 (.at 1 2) (.li 11)) (.ci (.li 33) .n0))) (.li 16))) (.lf 4620693217682128896)) (.lf 0)))]
def vk4_6 : Blk := [(.ei .i64 (.ti vm4_9 (.li 0) (.ti (.vb 2) (.ti (.ic .eql (.ai 9 0 (.ci (.at 1 3) (.ci (.li 7) .n0))) (.li 0)) (.li 5) vm4_10) vm4_10))), (.ei .i64 (.ti vm4_9 (.li 0) (.ai 9 0 (.ci (.ib .quo .i64 (.at 1 3) (.li 4)) (.ci (.li 6) .n0))))), (.ei .i64 (.ti vm4_9 (.li 0) (.ai 9 0 (.ci (.ib .quo .i64 (.at 1 3) (.li 40)) (.ci (.li 6) .n0))))), (.ef (.tf vm4_9 (.fb .quo (.i2f (.ib .sub .i64 (.ai 9 0 (.ci (.ib .quo .i64 (.at 1 3) (.li 11)) (.ci (.li 33) .n0))) (.li 16))) (.lf 4620693217682128896)) (.lf 0)))]
def vb4_0 : Blk := [(.ei .i64 (.ib .sub .i64 (.li 5) vm4_1)), (.ei .i64 (.ib .sub .i64 (.li 5) vm4_2))]
def vb4_1 : Blk := vk4_0 ++ vk4_1 ++ vk4_2 ++ vk4_3 ++ vk4_4 ++ vk4_5
def vb4_2 : Blk := [(.ef (.fb .quo (.i2f (.ib .sub .i64 (.ai 9 0 (.ci (.ti (.ic .lss (.li 0) (.vl 3)) (.at 3 0) (.li 0)) (.ci (.li 65) .n0))) (.li 32))) (.lf 4620693217682128896))), (.ef (.fb .quo (.i2f (.ib .sub .i64 (.ai 9 0 (.ci (.ti (.ic .lss (.li 1) (.vl 3)) (.at 3 1) (.li 1)) (.ci (.li 65) .n0))) (.li 32))) (.lf 4620693217682128896)))]
def vb4_3 : Blk := [(.ef (.fb .quo (.i2f (.ib .sub .i64 (.ai 9 0 (.ci (.ti (.ic .lss (.li 0) (.vl 3)) (.at 3 0) (.li 0)) (.ci (.li 65) .n0))) (.li 32))) (.lf 4620693217682128896))), (.ef (.fb .quo (.i2f (.ib .sub .i64 (.ai 9 0 (.ci (.ti (.ic .lss (.li 0) (.vl 3)) (.at 3 0) (.li 0)) (.ci (.li 65) .n0))) (.li 32))) (.lf 4620693217682128896))), (.ef (.fb .quo (.i2f (.ib .sub .i64 (.ai 9 0 (.ci (.ti (.ic .lss (.li 1) (.vl 3)) (.at 3 1) (.li 1)) (.ci (.li 65) .n0))) (.li 32))) (.lf 4620693217682128896))), (.ef (.fb .quo (.i2f (.ib .sub .i64 (.ai 9 0 (.ci (.ti (.ic .lss (.li 1) (.vl 3)) (.at 3 1) (.li 1)) (.ci (.li 65) .n0))) (.li 32))) (.lf 4620693217682128896)))]
def vb4_4 : Blk := [(.ei .i64 (.ib .sub .i64 (.li 6) vm4_1)), (.ei .i64 (.ib .sub .i64 (.li 6) vm4_2))]
def vb4_5 : Blk := vk4_0 ++ vk4_1 ++ vk4_2 ++ vk4_3 ++ vk4_4 ++ vk4_5 ++ vk4_6
def vb4_6 : Blk := [(.ei .i64 (.ib .sub .i64 (.li 7) vm4_1)), (.ei .i64 (.ib .sub .i64 (.li 7) vm4_2))]
def vb4_7 : Blk := vk4_0 ++ vk4_1 ++ vk4_2 ++ vk4_3 ++ vk4_4 ++ vk4_5 ++ vk4_6 ++ [(.ei .i64 (.ti vm4_11 (.li 0) (.ti (.vb 2) (.ti (.ic .eql (.ai 9 0 (.ci (.at 1 4) (.ci (.li 7) .n0))) (.li 0)) (.li 5) vm4_12) vm4_12))), (.ei .i64 (.ti vm4_11 (.li 0) (.ai 9 0 (.ci (.ib .quo .i64 (.at 1 4) (.li 4)) (.ci (.li 7) .n0))))), (.ei .i64 (.ti vm4_11 (.li 0) (.ai 9 0 (.ci (.ib .quo .i64 (.at 1 4) (.li 40)) (.ci (.li 7) .n0))))), (.ef (.tf vm4_11 (.fb .quo (.i2f (.ib .sub .i64 (.ai 9 0 (.ci (.ib .quo .i64 (.at 1 4) (.li 11)) (.ci (.li 33) .n0))) (.li 16))) (.lf 4620693217682128896)) (.lf 0)))]
def v1_3m0 : Memo :=  (⟨[(.ag [(.i .i64 2), (.sl 11 0 6 (.u 4)), (.sl 10 0 2 (.u 1))]), (.c (.sl 32 0 2 (.u 1)))], [(10, vb4_0), (11, vb4_1), (32, vb4_2)], 42, (.c (.sl 44 0 2 (.n 2))), [(10, vb4_0), (11, vb4_1), (32, vb4_2), (44, [(.ef (.vf 168)), (.ef (.vf 169))])], 75⟩) 
theorem v1_3o0 : mok [(0, 3, 1)] (lenL 1 3 8 ++ []) vN1 15 v1_3m0 = true := by kernel_rfl
def v1_3m1 : Memo :=  (⟨[(.ag [(.i .i64 2), (.sl 11 0 6 (.u 4)), (.sl 10 0 2 (.u 1))]), (.c (.sl 41 0 2 (.u 2)))], [(10, vb4_0), (11, vb4_1), (41, vb4_3)], 75, (.c (.sl 77 0 2 (.n 2))), [(10, vb4_0), (11, vb4_1), (41, vb4_3), (77, [(.ef (.vf 190)), (.ef (.vf 191)), (.ef (.vf 192)), (.ef (.vf 193))])], 118⟩) 
theorem v1_3o1 : mok [(0, 3, 1)] (lenL 1 3 8 ++ []) vN1 16 v1_3m1 = true := by kernel_rfl
def v1_3ms : List (Nat × List Memo) := [(15, [v1_3m0]), (16, [v1_3m1])]
theorem v1_3mo : AllMem (memRun [(0, 3, 1)] (lenL 1 3 8 ++ []) vN1) v1_3ms := ⟨⟨v1_3o0, trivial⟩, ⟨v1_3o1, trivial⟩, trivial⟩
def v1_3T : Tri := [(102, 102, 102), (103, 103, 103), (104, 117, 116), (105, 119, 118), (106, 123, 122), (107, 125, 124), (130, 138, 139), (131, 140, 141), (132, 149, 148), (133, 151, 150), (134, 155, 154), (135, 157, 156), (162, 170, 171), (163, 172, 173), (164, 181, 180), (165, 183, 182), (166, 187, 186), (167, 189, 188), (168, 190, 191), (169, 192, 193)]
def v1_3Q : Qua := []
theorem v1_3a : trisOK vN1 [] v1_3T = true := by kernel_rfl
theorem v1_3b : quasOK vN1 [] v1_3Q = true := by kernel_rfl
theorem v1_3 : lawRunQ 6 10 200 [.i, .q, .b, .q] [(0, 3, 1)] (lenL 1 3 8 ++ []) vN1 v1_3T v1_3Q v1_3ms = true := by kernel_rfl
def v1_4m0 : Memo :=  (⟨[(.ag [(.i .i64 2), (.sl 11 0 7 (.u 4)), (.sl 10 0 2 (.u 1))]), (.c (.sl 35 0 2 (.u 1)))], [(10, vb4_4), (11, vb4_5), (35, vb4_2)], 45, (.c (.sl 47 0 2 (.n 2))), [(10, vb4_4), (11, vb4_5), (35, vb4_2), (47, [(.ef (.vf 200)), (.ef (.vf 201))])], 82⟩) 
theorem v1_4o0 : mok [(0, 3, 1)] (lenL 1 4 8 ++ []) vN1 15 v1_4m0 = true := by kernel_rfl
def v1_4m1 : Memo :=  (⟨[(.ag [(.i .i64 2), (.sl 11 0 7 (.u 4)), (.sl 10 0 2 (.u 1))]), (.c (.sl 44 0 2 (.u 2)))], [(10, vb4_4), (11, vb4_5), (44, vb4_3)], 82, (.c (.sl 84 0 2 (.n 2))), [(10, vb4_4), (11, vb4_5), (44, vb4_3), (84, [(.ef (.vf 222)), (.ef (.vf 223)), (.ef (.vf 224)), (.ef (.vf 225))])], 131⟩) 
theorem v1_4o1 : mok [(0, 3, 1)] (lenL 1 4 8 ++ []) vN1 16 v1_4m1 = true := by kernel_rfl
def v1_4ms : List (Nat × List Memo) := [(15, [v1_4m0]), (16, [v1_4m1])]
theorem v1_4mo : AllMem (memRun [(0, 3, 1)] (lenL 1 4 8 ++ []) vN1) v1_4ms := ⟨⟨v1_4o0, trivial⟩, ⟨v1_4o1, trivial⟩, trivial⟩
def v1_4T : Tri := [(102, 102, 102), (103, 103, 103), (104, 117, 116), (105, 119, 118), (106, 123, 122), (107, 125, 124), (130, 138, 139), (131, 140, 141), (132, 149, 148), (133, 151, 150), (134, 155, 154), (135, 157, 156), (162, 170, 171), (163, 172, 173), (164, 181, 180), (165, 183, 182), (166, 187, 186), (167, 189, 188), (194, 202, 203), (195, 204, 205), (196, 213, 212), (197, 215, 214), (198, 219, 218), (199, 221, 220), (200, 222, 223), (201, 224, 225)]
def v1_4Q : Qua := []
theorem v1_4a : trisOK vN1 [] v1_4T = true := by kernel_rfl
theorem v1_4b : quasOK vN1 [] v1_4Q = true := by kernel_rfl
theorem v1_4 : lawRunQ 6 10 200 [.i, .q, .b, .q] [(0, 3, 1)] (lenL 1 4 8 ++ []) vN1 v1_4T v1_4Q v1_4ms = true := by kernel_rfl
def v1_5m0 : Memo :=  (⟨[(.ag [(.i .i64 2), (.sl 11 0 8 (.u 4)), (.sl 10 0 2 (.u 1))]), (.c (.sl 38 0 2 (.u 1)))], [(10, vb4_6), (11, vb4_7), (38, vb4_2)], 48, (.c (.sl 50 0 2 (.n 2))), [(10, vb4_6), (11, vb4_7), (38, vb4_2), (50, [(.ef (.vf 232)), (.ef (.vf 233))])], 89⟩) 
theorem v1_5o0 : mok [(0, 3, 1)] (lenL 1 5 8 ++ []) vN1 15 v1_5m0 = true := by kernel_rfl
def v1_5m1 : Memo :=  (⟨[(.ag [(.i .i64 2), (.sl 11 0 8 (.u 4)), (.sl 10 0 2 (.u 1))]), (.c (.sl 47 0 2 (.u 2)))], [(10, vb4_6), (11, vb4_7), (47, vb4_3)], 89, (.c (.sl 91 0 2 (.n 2))), [(10, vb4_6), (11, vb4_7), (47, vb4_3), (91, [(.ef (.vf 254)), (.ef (.vf 255)), (.ef (.vf 256)), (.ef (.vf 257))])], 144⟩) 
theorem v1_5o1 : mok [(0, 3, 1)] (lenL 1 5 8 ++ []) vN1 16 v1_5m1 = true := by kernel_rfl
def v1_5ms : List (Nat × List Memo) := [(15, [v1_5m0]), (16, [v1_5m1])]
theorem v1_5mo : AllMem (memRun [(0, 3, 1)] (lenL 1 5 8 ++ []) vN1) v1_5ms := ⟨⟨v1_5o0, trivial⟩, ⟨v1_5o1, trivial⟩, trivial⟩
def v1_5T : Tri := [(102, 102, 102), (103, 103, 103), (104, 117, 116), (105, 119, 118), (106, 123, 122), (107, 125, 124), (130, 138, 139), (131, 140, 141), (132, 149, 148), (133, 151, 150), (134, 155, 154), (135, 157, 156), (162, 170, 171), (163, 172, 173), (164, 181, 180), (165, 183, 182), (166, 187, 186), (167, 189, 188), (194, 202, 203), (195, 204, 205), (196, 213, 212), (197, 215, 214), (198, 219, 218), (199, 221, 220), (226, 234, 235), (227, 236, 237), (228, 245, 244), (229, 247, 246), (230, 251, 250), (231, 253, 252), (232, 254, 255), (233, 256, 257)]
def v1_5Q : Qua := []
theorem v1_5a : trisOK vN1 [] v1_5T = true := by kernel_rfl
theorem v1_5b : quasOK vN1 [] v1_5Q = true := by kernel_rfl
theorem v1_5 : lawRunQ 6 10 200 [.i, .q, .b, .q] [(0, 3, 1)] (lenL 1 5 8 ++ []) vN1 v1_5T v1_5Q v1_5ms = true := by kernel_rfl
end Go.Proofs.Ytilhcamdjehpnaa
