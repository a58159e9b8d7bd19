/-
  'NordAll': runs of it, part 3.
-/
import Derived.Test.YtkncchofgehnpaaNordAllt1
namespace Go.Proofs.Ytkncchofgehnpaa
open Go.RowKit Ex
set_option maxRecDepth 1000000
set_option maxHeartbeats 100000000
def nm3_0 : E := (.ib .quo .i64 (.vi 1) (.li 3))
def nm3_1 : E := (.ib .add .i64 nm3_0 (.li 0))
def nm3_2 : E := (.ib .sub .i64 (.li 1) (.ai 9 0 (.ci nm3_1 (.ci (.li 2) .n0))))
def nm3_3 : E := (.fb .quo (.i2f (.ib .sub .i64 (.ai 9 0 (.ci (.vi 1) (.ci (.li 17) .n0))) (.li 8))) (.lf 4616189618054758400))
def nm3_4 : E := (.fb .quo (.i2f (.ib .sub .i64 (.ai 9 0 (.ci (.ti (.ic .lss (.li 0) (.vl 5)) (.at 5 0) (.li 0)) (.ci (.li 65) .n0))) (.li 32))) (.lf 4620693217682128896))
def nm3_5 : E := (.ai 9 0 (.ci nm3_1 (.ci (.li 3) .n0)))
def nm3_6 : E := (.ai 9 0 (.ci (.ib .add .i64 nm3_0 (.li 1)) (.ci (.li 3) .n0)))
def nm3_7 : E := (.ai 9 0 (.ci (.ib .add .i64 nm3_0 (.li 2)) (.ci (.li 3) .n0)))
def nm3_8 : E := (.ic .eql (.ai 9 0 (.ci (.at 2 0) (.ci (.li 11) .n0))) (.li 0))
def nm3_9 : E := (.ib .add .i64 (.li 2) (.ai 9 0 (.ci (.at 2 0) (.ci (.li 3) .n0))))
def nm3_10 : E := (.ib .quo .i64 (.at 2 0) (.li 4))
def nm3_11 : E := (.ib .quo .i64 (.at 2 0) (.li 40))
def nm3_12 : E := (.ic .eql (.ai 9 0 (.ci (.at 2 1) (.ci (.li 11) .n0))) (.li 0))
def nm3_13 : E := (.ib .add .i64 (.li 2) (.ai 9 0 (.ci (.at 2 1) (.ci (.li 3) .n0))))
def nm3_14 : E := (.ib .quo .i64 (.at 2 1) (.li 4))
def nm3_15 : E := (.ib .quo .i64 (.at 2 1) (.li 40))
def nk3_0 : Blk := [(.i .i64 1), (.i .i64 0), (.i .i64 0), (.f 0)]
def nk3_1 : Blk := [(.i .i64 0), (.i .i64 0), (.i .i64 0), (.ef nm3_3)]
def nk3_2 : Blk := [(.i .i64 1), (.i .i64 1), (.i .i64 0), (.f 0)]
def nk3_3 : Blk := [(.i .i64 1), (.i .i64 2), (.i .i64 0), (.f 0)]
def nk3_4 : Blk := [(.ei .i64 (.ti nm3_8 (.li 0) (.ti (.vb 7) (.ti (.ic .eql (.ai 9 0 (.ci (.at 2 0) (.ci (.li 7) .n0))) (.li 0)) (.li 5) nm3_9) nm3_9))), (.ei .i64 (.ti nm3_8 (.li 0) (.ai 9 0 (.ci nm3_10 (.ci (.li 2) .n0))))), (.ei .i64 (.ti nm3_8 (.li 0) (.ai 9 0 (.ci nm3_11 (.ci (.li 2) .n0))))), (.ef (.tf nm3_8 (.fb .quo (.i2f (.ib .sub .i64 (.ai 9 0 (.ci (.ib .quo .i64 (.at 2 0) (.li 11)) (.ci (.li 33) .n0))) (.li 16))) (.lf 4620693217682128896)) (.lf 0)))]
def nk3_5 : Blk := [(.ei .i64 (.ti nm3_8 (.li 0) (.ti (.vb 7) (.ti (.ic .eql (.ai 9 0 (.ci (.at 2 0) (.ci (.li 7) .n0))) (.li 0)) (.li 5) nm3_9) nm3_9))), (.ei .i64 (.ti nm3_8 (.li 0) (.ai 9 0 (.ci nm3_10 (.ci (.li 3) .n0))))), (.ei .i64 (.ti nm3_8 (.li 0) (.ai 9 0 (.ci nm3_11 (.ci (.li 3) .n0))))), (.ef (.tf nm3_8 (.fb .quo (.i2f (.ib .sub .i64 (.ai 9 0 (.ci (.ib .quo .i64 (.at 2 0) (.li 11)) (.ci (.li 33) .n0))) (.li 16))) (.lf 4620693217682128896)) (.lf 0)))]
def nk3_6 : Blk := [(.ei .i64 (.ti nm3_8 (.li 0) (.ti (.vb 7) (.ti (.ic .eql (.ai 9 0 (.ci (.at 2 0) (.ci (.li 7) .n0))) (.li 0)) (.li 5) nm3_9) nm3_9))), (.ei .i64 (.ti nm3_8 (.li 0) (.ai 9 0 (.ci nm3_10 (.ci (.li 4) .n0))))), (.ei .i64 (.ti nm3_8 (.li 0) (.ai 9 0 (.ci nm3_11 (.ci (.li 4) .n0))))), (.ef (.tf nm3_8 (.fb .quo (.i2f (.ib .sub .i64 (.ai 9 0 (.ci (.ib .quo .i64 (.at 2 0) (.li 11)) (.ci (.li 33) .n0))) (.li 16))) (.lf 4620693217682128896)) (.lf 0)))]
def nb3_0 : Blk := nk3_0 ++ nk3_1
def nb3_1 : Blk := [(.ei .i64 (.ib .sub .i64 (.li 2) nm3_5)), (.ei .i64 (.ib .sub .i64 (.li 2) nm3_6))]
def nb3_2 : Blk := nk3_0 ++ nk3_2 ++ nk3_1
def nb3_3 : Blk := [(.ef nm3_4), (.ef (.fb .quo (.i2f (.ib .sub .i64 (.ai 9 0 (.ci (.ti (.ic .lss (.li 1) (.vl 5)) (.at 5 1) (.li 1)) (.ci (.li 65) .n0))) (.li 32))) (.lf 4620693217682128896)))]
def nb3_4 : Blk := [(.ei .i64 (.ib .sub .i64 (.li 3) nm3_5)), (.ei .i64 (.ib .sub .i64 (.li 3) nm3_6)), (.ei .i64 (.ib .sub .i64 (.li 3) nm3_7))]
def nb3_5 : Blk := nk3_0 ++ nk3_2 ++ nk3_3 ++ nk3_1
def nb3_6 : Blk := [(.ef nm3_4), (.ef (.fb .quo (.i2f (.ib .sub .i64 (.ai 9 0 (.ci (.ti (.ic .lss (.li 1) (.vl 5)) (.at 5 1) (.li 1)) (.ci (.li 65) .n0))) (.li 32))) (.lf 4620693217682128896))), (.ef (.fb .quo (.i2f (.ib .sub .i64 (.ai 9 0 (.ci (.ti (.ic .lss (.li 2) (.vl 5)) (.at 5 2) (.li 2)) (.ci (.li 65) .n0))) (.li 32))) (.lf 4620693217682128896)))]
def nb3_7 : Blk := [(.ei .i64 (.ib .sub .i64 (.li 2) nm3_5))]
def nb3_8 : Blk := nk3_0 ++ nk3_1 ++ nk3_4
def nb3_9 : Blk := [(.ei .i64 (.ib .sub .i64 (.li 3) nm3_5)), (.ei .i64 (.ib .sub .i64 (.li 3) nm3_6))]
def nb3_10 : Blk := nk3_0 ++ nk3_2 ++ nk3_1 ++ nk3_5
def nb3_11 : Blk := [(.ei .i64 (.ib .sub .i64 (.li 4) nm3_5)), (.ei .i64 (.ib .sub .i64 (.li 4) nm3_6)), (.ei .i64 (.ib .sub .i64 (.li 4) nm3_7))]
def nb3_12 : Blk := nk3_0 ++ nk3_2 ++ nk3_3 ++ nk3_1 ++ nk3_6
def nb3_13 : Blk := [(.ei .i64 (.ib .sub .i64 (.li 3) nm3_5))]
def nb3_14 : Blk := nk3_0 ++ nk3_1 ++ nk3_4 ++ [(.ei .i64 (.ti nm3_12 (.li 0) (.ti (.vb 7) (.ti (.ic .eql (.ai 9 0 (.ci (.at 2 1) (.ci (.li 7) .n0))) (.li 0)) (.li 5) nm3_13) nm3_13))), (.ei .i64 (.ti nm3_12 (.li 0) (.ai 9 0 (.ci nm3_14 (.ci (.li 3) .n0))))), (.ei .i64 (.ti nm3_12 (.li 0) (.ai 9 0 (.ci nm3_15 (.ci (.li 3) .n0))))), (.ef (.tf nm3_12 (.fb .quo (.i2f (.ib .sub .i64 (.ai 9 0 (.ci (.ib .quo .i64 (.at 2 1) (.li 11)) (.ci (.li 33) .n0))) (.li 16))) (.lf 4620693217682128896)) (.lf 0)))]
def nb3_15 : Blk := [(.ei .i64 (.ib .sub .i64 (.li 4) nm3_5)), (.ei .i64 (.ib .sub .i64 (.li 4) nm3_6))]
def nb3_16 : Blk := nk3_0 ++ nk3_2 ++ nk3_1 ++ nk3_5 ++ [(.ei .i64 (.ti nm3_12 (.li 0) (.ti (.vb 7) (.ti (.ic .eql (.ai 9 0 (.ci (.at 2 1) (.ci (.li 7) .n0))) (.li 0)) (.li 5) nm3_13) nm3_13))), (.ei .i64 (.ti nm3_12 (.li 0) (.ai 9 0 (.ci nm3_14 (.ci (.li 4) .n0))))), (.ei .i64 (.ti nm3_12 (.li 0) (.ai 9 0 (.ci nm3_15 (.ci (.li 4) .n0))))), (.ef (.tf nm3_12 (.fb .quo (.i2f (.ib .sub .i64 (.ai 9 0 (.ci (.ib .quo .i64 (.at 2 1) (.li 11)) (.ci (.li 33) .n0))) (.li 16))) (.lf 4620693217682128896)) (.lf 0)))]
def nb3_17 : Blk := [(.ei .i64 (.ib .sub .i64 (.li 5) nm3_5)), (.ei .i64 (.ib .sub .i64 (.li 5) nm3_6)), (.ei .i64 (.ib .sub .i64 (.li 5) nm3_7))]
def nb3_18 : Blk := nk3_0 ++ nk3_2 ++ nk3_3 ++ nk3_1 ++ nk3_6 ++ [(.ei .i64 (.ti nm3_12 (.li 0) (.ti (.vb 7) (.ti (.ic .eql (.ai 9 0 (.ci (.at 2 1) (.ci (.li 7) .n0))) (.li 0)) (.li 5) nm3_13) nm3_13))), (.ei .i64 (.ti nm3_12 (.li 0) (.ai 9 0 (.ci nm3_14 (.ci (.li 5) .n0))))), (.ei .i64 (.ti nm3_12 (.li 0) (.ai 9 0 (.ci nm3_15 (.ci (.li 5) .n0))))), (.ef (.tf nm3_12 (.fb .quo (.i2f (.ib .sub .i64 (.ai 9 0 (.ci (.ib .quo .i64 (.at 2 1) (.li 11)) (.ci (.li 33) .n0))) (.li 16))) (.lf 4620693217682128896)) (.lf 0)))]
def n1_0_0m0 : Memo := mkM [(.ag [(.i .i64 1), (.sl 49 0 2 (.u 4)), (.sl 48 0 1 (.u 1))]), (.c (.sl 57 0 1 (.u 1)))] [(48, [(.ei .i64 nm3_2)]), (49, nb3_0), (57, [(.ef nm3_4)])] 118 (.c (.sl 120 0 1 (.n 1))) (120, [(.ef (.tf (.ic .eql nm3_2 (.li 0)) nm3_4 nm3_3))]) 135
theorem n1_0_0o0 : mok [] (lenL 2 0 8 ++ []) nN1 51 n1_0_0m0 = true := by kernel_rfl
def n1_0_0ms : List (Nat × List Memo) := [(51, [n1_0_0m0])]
theorem n1_0_0mo : AllMem (memRun [] (lenL 2 0 8 ++ []) nN1) n1_0_0ms := ⟨⟨n1_0_0o0, trivial⟩, trivial⟩
theorem n1_0_0 : lawRunM 3 10 200 [.i, .i, .q, .i, .f, .q, .i, .b] [(0, 5, 1), (1, 3, 0)] (lenL 2 0 8 ++ []) nN1 n1_0_0ms = true := by kernel_rfl
def n1_1_0m0 : Memo := mkM [(.ag [(.i .i64 2), (.sl 57 0 3 (.u 4)), (.sl 56 0 2 (.u 1))]), (.c (.sl 69 0 2 (.u 1)))] [(56, nb3_1), (57, nb3_2), (69, nb3_3)] 137 (.c (.sl 139 0 2 (.n 2))) (139, [(.ef (.vf 100)), (.ef (.vf 101))]) 158
theorem n1_1_0o0 : mok [] (lenL 2 0 8 ++ []) nN1 51 n1_1_0m0 = true := by kernel_rfl
def n1_1_0ms : List (Nat × List Memo) := [(51, [n1_1_0m0])]
theorem n1_1_0mo : AllMem (memRun [] (lenL 2 0 8 ++ []) nN1) n1_1_0ms := ⟨⟨n1_1_0o0, trivial⟩, trivial⟩
theorem n1_1_0 : lawRunM 3 10 200 [.i, .i, .q, .i, .f, .q, .i, .b] [(0, 5, 1), (1, 3, 1)] (lenL 2 0 8 ++ []) nN1 n1_1_0ms = true := by kernel_rfl
def n1_2_0m0 : Memo := mkM [(.ag [(.i .i64 3), (.sl 65 0 4 (.u 4)), (.sl 64 0 3 (.u 1))]), (.c (.sl 81 0 3 (.u 1)))] [(64, nb3_4), (65, nb3_5), (81, nb3_6)] 156 (.c (.sl 158 0 3 (.n 3))) (158, [(.ef (.vf 104)), (.ef (.vf 105)), (.ef (.vf 106))]) 181
theorem n1_2_0o0 : mok [] (lenL 2 0 8 ++ []) nN1 51 n1_2_0m0 = true := by kernel_rfl
def n1_2_0ms : List (Nat × List Memo) := [(51, [n1_2_0m0])]
theorem n1_2_0mo : AllMem (memRun [] (lenL 2 0 8 ++ []) nN1) n1_2_0ms := ⟨⟨n1_2_0o0, trivial⟩, trivial⟩
theorem n1_2_0 : lawRunM 3 10 200 [.i, .i, .q, .i, .f, .q, .i, .b] [(0, 5, 1), (1, 3, 2)] (lenL 2 0 8 ++ []) nN1 n1_2_0ms = true := by kernel_rfl
def n1_0_1m0 : Memo := mkM [(.ag [(.i .i64 1), (.sl 49 0 3 (.u 4)), (.sl 48 0 1 (.u 1))]), (.c (.sl 60 0 1 (.u 1)))] [(48, nb3_7), (49, nb3_8), (60, [(.ef nm3_4)])] 122 (.c (.sl 124 0 1 (.n 1))) (124, [(.ef (.vf 118))]) 143
theorem n1_0_1o0 : mok [] (lenL 2 1 8 ++ []) nN1 51 n1_0_1m0 = true := by kernel_rfl
def n1_0_1ms : List (Nat × List Memo) := [(51, [n1_0_1m0])]
theorem n1_0_1mo : AllMem (memRun [] (lenL 2 1 8 ++ []) nN1) n1_0_1ms := ⟨⟨n1_0_1o0, trivial⟩, trivial⟩
theorem n1_0_1 : lawRunM 3 10 200 [.i, .i, .q, .i, .f, .q, .i, .b] [(0, 5, 1), (1, 3, 0)] (lenL 2 1 8 ++ []) nN1 n1_0_1ms = true := by kernel_rfl
def n1_1_1m0 : Memo := mkM [(.ag [(.i .i64 2), (.sl 57 0 4 (.u 4)), (.sl 56 0 2 (.u 1))]), (.c (.sl 72 0 2 (.u 1)))] [(56, nb3_9), (57, nb3_10), (72, nb3_3)] 141 (.c (.sl 143 0 2 (.n 2))) (143, [(.ef (.vf 126)), (.ef (.vf 127))]) 166
theorem n1_1_1o0 : mok [] (lenL 2 1 8 ++ []) nN1 51 n1_1_1m0 = true := by kernel_rfl
def n1_1_1ms : List (Nat × List Memo) := [(51, [n1_1_1m0])]
theorem n1_1_1mo : AllMem (memRun [] (lenL 2 1 8 ++ []) nN1) n1_1_1ms := ⟨⟨n1_1_1o0, trivial⟩, trivial⟩
theorem n1_1_1 : lawRunM 3 10 200 [.i, .i, .q, .i, .f, .q, .i, .b] [(0, 5, 1), (1, 3, 1)] (lenL 2 1 8 ++ []) nN1 n1_1_1ms = true := by kernel_rfl
def n1_2_1m0 : Memo := mkM [(.ag [(.i .i64 3), (.sl 65 0 5 (.u 4)), (.sl 64 0 3 (.u 1))]), (.c (.sl 84 0 3 (.u 1)))] [(64, nb3_11), (65, nb3_12), (84, nb3_6)] 160 (.c (.sl 162 0 3 (.n 3))) (162, [(.ef (.vf 136)), (.ef (.vf 137)), (.ef (.vf 138))]) 189
theorem n1_2_1o0 : mok [] (lenL 2 1 8 ++ []) nN1 51 n1_2_1m0 = true := by kernel_rfl
def n1_2_1ms : List (Nat × List Memo) := [(51, [n1_2_1m0])]
theorem n1_2_1mo : AllMem (memRun [] (lenL 2 1 8 ++ []) nN1) n1_2_1ms := ⟨⟨n1_2_1o0, trivial⟩, trivial⟩
theorem n1_2_1 : lawRunM 3 10 200 [.i, .i, .q, .i, .f, .q, .i, .b] [(0, 5, 1), (1, 3, 2)] (lenL 2 1 8 ++ []) nN1 n1_2_1ms = true := by kernel_rfl
def n1_0_2m0 : Memo := mkM [(.ag [(.i .i64 1), (.sl 49 0 4 (.u 4)), (.sl 48 0 1 (.u 1))]), (.c (.sl 63 0 1 (.u 1)))] [(48, nb3_13), (49, nb3_14), (63, [(.ef nm3_4)])] 126 (.c (.sl 128 0 1 (.n 1))) (128, [(.ef (.vf 148))]) 151
theorem n1_0_2o0 : mok [] (lenL 2 2 8 ++ []) nN1 51 n1_0_2m0 = true := by kernel_rfl
def n1_0_2ms : List (Nat × List Memo) := [(51, [n1_0_2m0])]
theorem n1_0_2mo : AllMem (memRun [] (lenL 2 2 8 ++ []) nN1) n1_0_2ms := ⟨⟨n1_0_2o0, trivial⟩, trivial⟩
theorem n1_0_2 : lawRunM 3 10 200 [.i, .i, .q, .i, .f, .q, .i, .b] [(0, 5, 1), (1, 3, 0)] (lenL 2 2 8 ++ []) nN1 n1_0_2ms = true := by kernel_rfl
def n1_1_2m0 : Memo := mkM [(.ag [(.i .i64 2), (.sl 57 0 5 (.u 4)), (.sl 56 0 2 (.u 1))]), (.c (.sl 75 0 2 (.u 1)))] [(56, nb3_15), (57, nb3_16), (75, nb3_3)] 145 (.c (.sl 147 0 2 (.n 2))) (147, [(.ef (.vf 157)), (.ef (.vf 158))]) 174
theorem n1_1_2o0 : mok [] (lenL 2 2 8 ++ []) nN1 51 n1_1_2m0 = true := by kernel_rfl
def n1_1_2ms : List (Nat × List Memo) := [(51, [n1_1_2m0])]
theorem n1_1_2mo : AllMem (memRun [] (lenL 2 2 8 ++ []) nN1) n1_1_2ms := ⟨⟨n1_1_2o0, trivial⟩, trivial⟩
theorem n1_1_2 : lawRunM 3 10 200 [.i, .i, .q, .i, .f, .q, .i, .b] [(0, 5, 1), (1, 3, 1)] (lenL 2 2 8 ++ []) nN1 n1_1_2ms = true := by kernel_rfl
def n1_2_2m0 : Memo := mkM [(.ag [(.i .i64 3), (.sl 65 0 6 (.u 4)), (.sl 64 0 3 (.u 1))]), (.c (.sl 87 0 3 (.u 1)))] [(64, nb3_17), (65, nb3_18), (87, nb3_6)] 164 (.c (.sl 166 0 3 (.n 3))) (166, [(.ef (.vf 167)), (.ef (.vf 168)), (.ef (.vf 169))]) 197
theorem n1_2_2o0 : mok [] (lenL 2 2 8 ++ []) nN1 51 n1_2_2m0 = true := by kernel_rfl
def n1_2_2ms : List (Nat × List Memo) := [(51, [n1_2_2m0])]
theorem n1_2_2mo : AllMem (memRun [] (lenL 2 2 8 ++ []) nN1) n1_2_2ms := ⟨⟨n1_2_2o0, trivial⟩, trivial⟩
theorem n1_2_2 : lawRunM 3 10 200 [.i, .i, .q, .i, .f, .q, .i, .b] [(0, 5, 1), (1, 3, 2)] (lenL 2 2 8 ++ []) nN1 n1_2_2ms = true := by kernel_rfl
end Go.Proofs.Ytkncchofgehnpaa
