/-
  'TapePoints': runs of it, part 6.
-/
import Derived.Test.YtilhcamdjehpnaaTapePointst2
namespace Go.Proofs.Ytilhcamdjehpnaa
open Go.RowKit Ex
set_option maxRecDepth 1000000
set_option maxHeartbeats 100000000
def vm6_0 : E := (.ib .quo .i64 (.vi 0) (.li 3))
def vm6_1 : E := (.ai 9 0 (.ci (.ib .add .i64 vm6_0 (.li 0)) (.ci (.li 3) .n0)))
def vm6_2 : E := (.ai 9 0 (.ci (.ib .add .i64 vm6_0 (.li 1)) (.ci (.li 3) .n0)))
def vm6_3 : E := (.ai 9 0 (.ci (.ib .add .i64 vm6_0 (.li 2)) (.ci (.li 3) .n0)))
def vm6_4 : E := (.ic .eql (.ai 9 0 (.ci (.at 1 0) (.ci (.li 11) .n0))) (.li 0))
def vm6_5 : E := (.ib .add .i64 (.li 2) (.ai 9 0 (.ci (.at 1 0) (.ci (.li 3) .n0))))
def vm6_6 : E := (.ic .eql (.ai 9 0 (.ci (.at 1 1) (.ci (.li 11) .n0))) (.li 0))
def vm6_7 : E := (.ib .add .i64 (.li 2) (.ai 9 0 (.ci (.at 1 1) (.ci (.li 3) .n0))))
def vk6_0 : Blk := [(.i .i64 1), (.i .i64 0), (.i .i64 0), (.f 0)]
def vk6_1 : Blk := [(.i .i64 1), (.i .i64 1), (.i .i64 0), (.f 0)]
def vk6_2 : Blk := [(.i .i64 1), (.i .i64 2), (.i .i64 0), (.f 0)]
def vk6_3 : Blk := [(.i .i64 0), (.i .i64 0), (.i .i64 0), (.ef (.fb .quo (.i2f (.ib .sub .i64 (.ai 9 0 (.ci (.vi 0) (.ci (.li 17) .n0))) (.li 8))) (.lf 4616189618054758400)))]
def vk6_4 : Blk := [(.ei .i64 (.ti vm6_4 (.li 0) (.ti (.vb 2) (.ti (.ic .eql (.ai 9 0 (.ci (.at 1 0) (.ci (.li 7) .n0))) (.li 0)) (.li 5) vm6_5) vm6_5))), (.ei .i64 (.ti vm6_4 (.li 0) (.ai 9 0 (.ci (.ib .quo .i64 (.at 1 0) (.li 4)) (.ci (.li 4) .n0))))), (.ei .i64 (.ti vm6_4 (.li 0) (.ai 9 0 (.ci (.ib .quo .i64 (.at 1 0) (.li 40)) (.ci (.li 4) .n0))))), (.ef (.tf vm6_4 (.fb .quo (.i2f (.ib .sub .i64 (.ai 9 0 (.ci (.ib .quo .i64 (.at 1 0) (.li 11)) (.ci (.li 33) .n0))) (.li 16))) (.lf 4620693217682128896)) (.lf 0)))]
def vb6_0 : Blk := [(.ei .i64 (.ib .sub .i64 (.li 3) vm6_1)), (.ei .i64 (.ib .sub .i64 (.li 3) vm6_2)), (.ei .i64 (.ib .sub .i64 (.li 3) vm6_3))]
def vb6_1 : Blk := vk6_0 ++ vk6_1 ++ vk6_2 ++ vk6_3
def vb6_2 : Blk := [(.ef (.fb .quo (.i2f (.ib .sub .i64 (.ai 9 0 (.ci (.ti (.ic .lss (.li 0) (.vl 3)) (.at 3 0) (.li 0)) (.ci (.li 65) .n0))) (.li 32))) (.lf 4620693217682128896))), (.ef (.fb .quo (.i2f (.ib .sub .i64 (.ai 9 0 (.ci (.ti (.ic .lss (.li 1) (.vl 3)) (.at 3 1) (.li 1)) (.ci (.li 65) .n0))) (.li 32))) (.lf 4620693217682128896))), (.ef (.fb .quo (.i2f (.ib .sub .i64 (.ai 9 0 (.ci (.ti (.ic .lss (.li 2) (.vl 3)) (.at 3 2) (.li 2)) (.ci (.li 65) .n0))) (.li 32))) (.lf 4620693217682128896)))]
def vb6_3 : Blk := [(.ef (.fb .quo (.i2f (.ib .sub .i64 (.ai 9 0 (.ci (.ti (.ic .lss (.li 0) (.vl 3)) (.at 3 0) (.li 0)) (.ci (.li 65) .n0))) (.li 32))) (.lf 4620693217682128896))), (.ef (.fb .quo (.i2f (.ib .sub .i64 (.ai 9 0 (.ci (.ti (.ic .lss (.li 0) (.vl 3)) (.at 3 0) (.li 0)) (.ci (.li 65) .n0))) (.li 32))) (.lf 4620693217682128896))), (.ef (.fb .quo (.i2f (.ib .sub .i64 (.ai 9 0 (.ci (.ti (.ic .lss (.li 1) (.vl 3)) (.at 3 1) (.li 1)) (.ci (.li 65) .n0))) (.li 32))) (.lf 4620693217682128896))), (.ef (.fb .quo (.i2f (.ib .sub .i64 (.ai 9 0 (.ci (.ti (.ic .lss (.li 1) (.vl 3)) (.at 3 1) (.li 1)) (.ci (.li 65) .n0))) (.li 32))) (.lf 4620693217682128896))), (.ef (.fb .quo (.i2f (.ib .sub .i64 (.ai 9 0 (.ci (.ti (.ic .lss (.li 2) (.vl 3)) (.at 3 2) (.li 2)) (.ci (.li 65) .n0))) (.li 32))) (.lf 4620693217682128896))), (.ef (.fb .quo (.i2f (.ib .sub .i64 (.ai 9 0 (.ci (.ti (.ic .lss (.li 2) (.vl 3)) (.at 3 2) (.li 2)) (.ci (.li 65) .n0))) (.li 32))) (.lf 4620693217682128896)))]
def vb6_4 : Blk := [(.ei .i64 (.ib .sub .i64 (.li 4) vm6_1)), (.ei .i64 (.ib .sub .i64 (.li 4) vm6_2)), (.ei .i64 (.ib .sub .i64 (.li 4) vm6_3))]
def vb6_5 : Blk := vk6_0 ++ vk6_1 ++ vk6_2 ++ vk6_3 ++ vk6_4
def vb6_6 : Blk := [(.ei .i64 (.ib .sub .i64 (.li 5) vm6_1)), (.ei .i64 (.ib .sub .i64 (.li 5) vm6_2)), (.ei .i64 (.ib .sub .i64 (.li 5) vm6_3))]
def vb6_7 : Blk := vk6_0 ++ vk6_1 ++ vk6_2 ++ vk6_3 ++ vk6_4 ++ [(.ei .i64 (.ti vm6_6 (.li 0) (.ti (.vb 2) (.ti (.ic .eql (.ai 9 0 (.ci (.at 1 1) (.ci (.li 7) .n0))) (.li 0)) (.li 5) vm6_7) vm6_7))), (.ei .i64 (.ti vm6_6 (.li 0) (.ai 9 0 (.ci (.ib .quo .i64 (.at 1 1) (.li 4)) (.ci (.li 5) .n0))))), (.ei .i64 (.ti vm6_6 (.li 0) (.ai 9 0 (.ci (.ib .quo .i64 (.at 1 1) (.li 40)) (.ci (.li 5) .n0))))), (.ef (.tf vm6_6 (.fb .quo (.i2f (.ib .sub .i64 (.ai 9 0 (.ci (.ib .quo .i64 (.at 1 1) (.li 11)) (.ci (.li 33) .n0))) (.li 16))) (.lf 4620693217682128896)) (.lf 0)))]
def v2_0m0 : Memo :=  (⟨[(.ag [(.i .i64 3), (.sl 11 0 4 (.u 4)), (.sl 10 0 3 (.u 1))]), (.c (.sl 27 0 3 (.u 1)))], [(10, vb6_0), (11, vb6_1), (27, vb6_2)], 42, (.c (.sl 44 0 3 (.n 3))), [(10, vb6_0), (11, vb6_1), (27, vb6_2), (44, [(.ef (.vf 100)), (.ef (.vf 101)), (.ef (.vf 102))])], 67⟩) 
theorem v2_0o0 : mok [(0, 3, 2)] (lenL 1 0 8 ++ []) vN2 15 v2_0m0 = true := by kernel_rfl
def v2_0m1 : Memo :=  (⟨[(.ag [(.i .i64 3), (.sl 11 0 4 (.u 4)), (.sl 10 0 3 (.u 1))]), (.c (.sl 41 0 3 (.u 2)))], [(10, vb6_0), (11, vb6_1), (41, vb6_3)], 67, (.c (.sl 69 0 3 (.n 3))), [(10, vb6_0), (11, vb6_1), (41, vb6_3), (69, [(.ef (.vf 100)), (.ef (.vf 100)), (.ef (.vf 101)), (.ef (.vf 101)), (.ef (.vf 102)), (.ef (.vf 102))])], 97⟩) 
theorem v2_0o1 : mok [(0, 3, 2)] (lenL 1 0 8 ++ []) vN2 16 v2_0m1 = true := by kernel_rfl
def v2_0ms : List (Nat × List Memo) := [(15, [v2_0m0]), (16, [v2_0m1])]
theorem v2_0mo : AllMem (memRun [(0, 3, 2)] (lenL 1 0 8 ++ []) vN2) v2_0ms := ⟨⟨v2_0o0, trivial⟩, ⟨v2_0o1, trivial⟩, trivial⟩
def v2_0T : Tri := [(100, 100, 100), (101, 101, 101), (102, 102, 102)]
def v2_0Q : Qua := []
theorem v2_0a : trisOK vN2 [] v2_0T = true := by kernel_rfl
theorem v2_0b : quasOK vN2 [] v2_0Q = true := by kernel_rfl
theorem v2_0 : lawRunQ 6 10 200 [.i, .q, .b, .q] [(0, 3, 2)] (lenL 1 0 8 ++ []) vN2 v2_0T v2_0Q v2_0ms = true := by kernel_rfl
def v2_1m0 : Memo :=  (⟨[(.ag [(.i .i64 3), (.sl 11 0 5 (.u 4)), (.sl 10 0 3 (.u 1))]), (.c (.sl 30 0 3 (.u 1)))], [(10, vb6_4), (11, vb6_5), (30, vb6_2)], 45, (.c (.sl 47 0 3 (.n 3))), [(10, vb6_4), (11, vb6_5), (30, vb6_2), (47, [(.ef (.vf 109)), (.ef (.vf 110)), (.ef (.vf 111))])], 74⟩) 
theorem v2_1o0 : mok [(0, 3, 2)] (lenL 1 1 8 ++ []) vN2 15 v2_1m0 = true := by kernel_rfl
def v2_1m1 : Memo :=  (⟨[(.ag [(.i .i64 3), (.sl 11 0 5 (.u 4)), (.sl 10 0 3 (.u 1))]), (.c (.sl 44 0 3 (.u 2)))], [(10, vb6_4), (11, vb6_5), (44, vb6_3)], 74, (.c (.sl 76 0 3 (.n 3))), [(10, vb6_4), (11, vb6_5), (44, vb6_3), (76, [(.ef (.vf 128)), (.ef (.vf 129)), (.ef (.vf 130)), (.ef (.vf 131)), (.ef (.vf 132)), (.ef (.vf 133))])], 110⟩) 
theorem v2_1o1 : mok [(0, 3, 2)] (lenL 1 1 8 ++ []) vN2 16 v2_1m1 = true := by kernel_rfl
def v2_1ms : List (Nat × List Memo) := [(15, [v2_1m0]), (16, [v2_1m1])]
theorem v2_1mo : AllMem (memRun [(0, 3, 2)] (lenL 1 1 8 ++ []) vN2) v2_1ms := ⟨⟨v2_1o0, trivial⟩, ⟨v2_1o1, trivial⟩, trivial⟩
def v2_1T : Tri := [(103, 103, 103), (104, 104, 104), (105, 119, 118), (106, 121, 120), (107, 125, 124), (108, 127, 126), (109, 128, 129), (110, 130, 131), (111, 132, 133)]
def v2_1Q : Qua := []
theorem v2_1a : trisOK vN2 [] v2_1T = true := by kernel_rfl
theorem v2_1b : quasOK vN2 [] v2_1Q = true := by kernel_rfl
theorem v2_1 : lawRunQ 6 10 200 [.i, .q, .b, .q] [(0, 3, 2)] (lenL 1 1 8 ++ []) vN2 v2_1T v2_1Q v2_1ms = true := by kernel_rfl
def v2_2m0 : Memo :=  (⟨[(.ag [(.i .i64 3), (.sl 11 0 6 (.u 4)), (.sl 10 0 3 (.u 1))]), (.c (.sl 33 0 3 (.u 1)))], [(10, vb6_6), (11, vb6_7), (33, vb6_2)], 48, (.c (.sl 50 0 3 (.n 3))), [(10, vb6_6), (11, vb6_7), (33, vb6_2), (50, [(.ef (.vf 140)), (.ef (.vf 141)), (.ef (.vf 142))])], 81⟩) 
theorem v2_2o0 : mok [(0, 3, 2)] (lenL 1 2 8 ++ []) vN2 15 v2_2m0 = true := by kernel_rfl
def v2_2m1 : Memo :=  (⟨[(.ag [(.i .i64 3), (.sl 11 0 6 (.u 4)), (.sl 10 0 3 (.u 1))]), (.c (.sl 47 0 3 (.u 2)))], [(10, vb6_6), (11, vb6_7), (47, vb6_3)], 81, (.c (.sl 83 0 3 (.n 3))), [(10, vb6_6), (11, vb6_7), (47, vb6_3), (83, [(.ef (.vf 163)), (.ef (.vf 164)), (.ef (.vf 165)), (.ef (.vf 166)), (.ef (.vf 167)), (.ef (.vf 168))])], 123⟩) 
theorem v2_2o1 : mok [(0, 3, 2)] (lenL 1 2 8 ++ []) vN2 16 v2_2m1 = true := by kernel_rfl
def v2_2ms : List (Nat × List Memo) := [(15, [v2_2m0]), (16, [v2_2m1])]
theorem v2_2mo : AllMem (memRun [(0, 3, 2)] (lenL 1 2 8 ++ []) vN2) v2_2ms := ⟨⟨v2_2o0, trivial⟩, ⟨v2_2o1, trivial⟩, trivial⟩
def v2_2T : Tri := [(103, 103, 103), (104, 104, 104), (105, 119, 118), (106, 121, 120), (107, 125, 124), (108, 127, 126), (134, 143, 144), (135, 145, 146), (136, 154, 153), (137, 156, 155), (138, 160, 159), (139, 162, 161), (140, 163, 164), (141, 165, 166), (142, 167, 168)]
def v2_2Q : Qua := []
theorem v2_2a : trisOK vN2 [] v2_2T = true := by kernel_rfl
theorem v2_2b : quasOK vN2 [] v2_2Q = true := by kernel_rfl
theorem v2_2 : lawRunQ 6 10 200 [.i, .q, .b, .q] [(0, 3, 2)] (lenL 1 2 8 ++ []) vN2 v2_2T v2_2Q v2_2ms = true := by kernel_rfl
end Go.Proofs.Ytilhcamdjehpnaa
