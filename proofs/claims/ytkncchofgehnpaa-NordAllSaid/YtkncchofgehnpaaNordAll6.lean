/-
  'NordAll': runs of it, part 6.
-/
import Derived.Test.YtkncchofgehnpaaNordAllt2
namespace Go.Proofs.Ytkncchofgehnpaa
open Go.RowKit Ex
set_option maxRecDepth 1000000
set_option maxHeartbeats 100000000
def nm6_0 : E := (.ib .quo .i64 (.vi 1) (.li 3))
def nm6_1 : E := (.ib .add .i64 nm6_0 (.li 0))
def nm6_2 : E := (.ib .sub .i64 (.li 1) (.ai 9 0 (.ci nm6_1 (.ci (.li 2) .n0))))
def nm6_3 : E := (.fb .quo (.i2f (.ib .sub .i64 (.ai 9 0 (.ci (.vi 1) (.ci (.li 17) .n0))) (.li 8))) (.lf 4616189618054758400))
def nm6_4 : E := (.fb .quo (.i2f (.ib .sub .i64 (.ai 9 0 (.ci (.ti (.ic .lss (.li 0) (.vl 5)) (.at 5 0) (.li 0)) (.ci (.li 65) .n0))) (.li 32))) (.lf 4620693217682128896))
def nm6_5 : E := (.ai 9 0 (.ci nm6_1 (.ci (.li 3) .n0)))
def nm6_6 : E := (.ai 9 0 (.ci (.ib .add .i64 nm6_0 (.li 1)) (.ci (.li 3) .n0)))
def nm6_7 : E := (.ai 9 0 (.ci (.ib .add .i64 nm6_0 (.li 2)) (.ci (.li 3) .n0)))
def nm6_8 : E := (.ic .eql (.ai 9 0 (.ci (.at 2 0) (.ci (.li 11) .n0))) (.li 0))
def nm6_9 : E := (.ib .add .i64 (.li 2) (.ai 9 0 (.ci (.at 2 0) (.ci (.li 3) .n0))))
def nm6_10 : E := (.ib .quo .i64 (.at 2 0) (.li 4))
def nm6_11 : E := (.ib .quo .i64 (.at 2 0) (.li 40))
def nm6_12 : E := (.ic .eql (.ai 9 0 (.ci (.at 2 1) (.ci (.li 11) .n0))) (.li 0))
def nm6_13 : E := (.ib .add .i64 (.li 2) (.ai 9 0 (.ci (.at 2 1) (.ci (.li 3) .n0))))
def nm6_14 : E := (.ib .quo .i64 (.at 2 1) (.li 4))
def nm6_15 : E := (.ib .quo .i64 (.at 2 1) (.li 40))
def nk6_0 : Blk := [(.i .i64 1), (.i .i64 0), (.i .i64 0), (.f 0)]
def nk6_1 : Blk := [(.i .i64 0), (.i .i64 0), (.i .i64 0), (.ef nm6_3)]
def nk6_2 : Blk := [(.i .i64 1), (.i .i64 1), (.i .i64 0), (.f 0)]
def nk6_3 : Blk := [(.i .i64 1), (.i .i64 2), (.i .i64 0), (.f 0)]
def nk6_4 : Blk := [(.ei .i64 (.ti nm6_8 (.li 0) (.ti (.vb 7) (.ti (.ic .eql (.ai 9 0 (.ci (.at 2 0) (.ci (.li 7) .n0))) (.li 0)) (.li 5) nm6_9) nm6_9))), (.ei .i64 (.ti nm6_8 (.li 0) (.ai 9 0 (.ci nm6_10 (.ci (.li 2) .n0))))), (.ei .i64 (.ti nm6_8 (.li 0) (.ai 9 0 (.ci nm6_11 (.ci (.li 2) .n0))))), (.ef (.tf nm6_8 (.fb .quo (.i2f (.ib .sub .i64 (.ai 9 0 (.ci (.ib .quo .i64 (.at 2 0) (.li 11)) (.ci (.li 33) .n0))) (.li 16))) (.lf 4620693217682128896)) (.lf 0)))]
def nk6_5 : Blk := [(.ei .i64 (.ti nm6_8 (.li 0) (.ti (.vb 7) (.ti (.ic .eql (.ai 9 0 (.ci (.at 2 0) (.ci (.li 7) .n0))) (.li 0)) (.li 5) nm6_9) nm6_9))), (.ei .i64 (.ti nm6_8 (.li 0) (.ai 9 0 (.ci nm6_10 (.ci (.li 3) .n0))))), (.ei .i64 (.ti nm6_8 (.li 0) (.ai 9 0 (.ci nm6_11 (.ci (.li 3) .n0))))), (.ef (.tf nm6_8 (.fb .quo (.i2f (.ib .sub .i64 (.ai 9 0 (.ci (.ib .quo .i64 (.at 2 0) (.li 11)) (.ci (.li 33) .n0))) (.li 16))) (.lf 4620693217682128896)) (.lf 0)))]
def nk6_6 : Blk := [(.ei .i64 (.ti nm6_8 (.li 0) (.ti (.vb 7) (.ti (.ic .eql (.ai 9 0 (.ci (.at 2 0) (.ci (.li 7) .n0))) (.li 0)) (.li 5) nm6_9) nm6_9))), (.ei .i64 (.ti nm6_8 (.li 0) (.ai 9 0 (.ci nm6_10 (.ci (.li 4) .n0))))), (.ei .i64 (.ti nm6_8 (.li 0) (.ai 9 0 (.ci nm6_11 (.ci (.li 4) .n0))))), (.ef (.tf nm6_8 (.fb .quo (.i2f (.ib .sub .i64 (.ai 9 0 (.ci (.ib .quo .i64 (.at 2 0) (.li 11)) (.ci (.li 33) .n0))) (.li 16))) (.lf 4620693217682128896)) (.lf 0)))]
def nb6_0 : Blk := nk6_0 ++ nk6_1
def nb6_1 : Blk := [(.ei .i64 (.ib .sub .i64 (.li 2) nm6_5)), (.ei .i64 (.ib .sub .i64 (.li 2) nm6_6))]
def nb6_2 : Blk := nk6_0 ++ nk6_2 ++ nk6_1
def nb6_3 : Blk := [(.ef nm6_4), (.ef (.fb .quo (.i2f (.ib .sub .i64 (.ai 9 0 (.ci (.ti (.ic .lss (.li 1) (.vl 5)) (.at 5 1) (.li 1)) (.ci (.li 65) .n0))) (.li 32))) (.lf 4620693217682128896)))]
def nb6_4 : Blk := [(.ei .i64 (.ib .sub .i64 (.li 3) nm6_5)), (.ei .i64 (.ib .sub .i64 (.li 3) nm6_6)), (.ei .i64 (.ib .sub .i64 (.li 3) nm6_7))]
def nb6_5 : Blk := nk6_0 ++ nk6_2 ++ nk6_3 ++ nk6_1
def nb6_6 : Blk := [(.ef nm6_4), (.ef (.fb .quo (.i2f (.ib .sub .i64 (.ai 9 0 (.ci (.ti (.ic .lss (.li 1) (.vl 5)) (.at 5 1) (.li 1)) (.ci (.li 65) .n0))) (.li 32))) (.lf 4620693217682128896))), (.ef (.fb .quo (.i2f (.ib .sub .i64 (.ai 9 0 (.ci (.ti (.ic .lss (.li 2) (.vl 5)) (.at 5 2) (.li 2)) (.ci (.li 65) .n0))) (.li 32))) (.lf 4620693217682128896)))]
def nb6_7 : Blk := [(.ei .i64 (.ib .sub .i64 (.li 2) nm6_5))]
def nb6_8 : Blk := nk6_0 ++ nk6_1 ++ nk6_4
def nb6_9 : Blk := [(.ei .i64 (.ib .sub .i64 (.li 3) nm6_5)), (.ei .i64 (.ib .sub .i64 (.li 3) nm6_6))]
def nb6_10 : Blk := nk6_0 ++ nk6_2 ++ nk6_1 ++ nk6_5
def nb6_11 : Blk := [(.ei .i64 (.ib .sub .i64 (.li 4) nm6_5)), (.ei .i64 (.ib .sub .i64 (.li 4) nm6_6)), (.ei .i64 (.ib .sub .i64 (.li 4) nm6_7))]
def nb6_12 : Blk := nk6_0 ++ nk6_2 ++ nk6_3 ++ nk6_1 ++ nk6_6
def nb6_13 : Blk := [(.ei .i64 (.ib .sub .i64 (.li 3) nm6_5))]
def nb6_14 : Blk := nk6_0 ++ nk6_1 ++ nk6_4 ++ [(.ei .i64 (.ti nm6_12 (.li 0) (.ti (.vb 7) (.ti (.ic .eql (.ai 9 0 (.ci (.at 2 1) (.ci (.li 7) .n0))) (.li 0)) (.li 5) nm6_13) nm6_13))), (.ei .i64 (.ti nm6_12 (.li 0) (.ai 9 0 (.ci nm6_14 (.ci (.li 3) .n0))))), (.ei .i64 (.ti nm6_12 (.li 0) (.ai 9 0 (.ci nm6_15 (.ci (.li 3) .n0))))), (.ef (.tf nm6_12 (.fb .quo (.i2f (.ib .sub .i64 (.ai 9 0 (.ci (.ib .quo .i64 (.at 2 1) (.li 11)) (.ci (.li 33) .n0))) (.li 16))) (.lf 4620693217682128896)) (.lf 0)))]
def nb6_15 : Blk := [(.ei .i64 (.ib .sub .i64 (.li 4) nm6_5)), (.ei .i64 (.ib .sub .i64 (.li 4) nm6_6))]
def nb6_16 : Blk := nk6_0 ++ nk6_2 ++ nk6_1 ++ nk6_5 ++ [(.ei .i64 (.ti nm6_12 (.li 0) (.ti (.vb 7) (.ti (.ic .eql (.ai 9 0 (.ci (.at 2 1) (.ci (.li 7) .n0))) (.li 0)) (.li 5) nm6_13) nm6_13))), (.ei .i64 (.ti nm6_12 (.li 0) (.ai 9 0 (.ci nm6_14 (.ci (.li 4) .n0))))), (.ei .i64 (.ti nm6_12 (.li 0) (.ai 9 0 (.ci nm6_15 (.ci (.li 4) .n0))))), (.ef (.tf nm6_12 (.fb .quo (.i2f (.ib .sub .i64 (.ai 9 0 (.ci (.ib .quo .i64 (.at 2 1) (.li 11)) (.ci (.li 33) .n0))) (.li 16))) (.lf 4620693217682128896)) (.lf 0)))]
def nb6_17 : Blk := [(.ei .i64 (.ib .sub .i64 (.li 5) nm6_5)), (.ei .i64 (.ib .sub .i64 (.li 5) nm6_6)), (.ei .i64 (.ib .sub .i64 (.li 5) nm6_7))]
def nb6_18 : Blk := nk6_0 ++ nk6_2 ++ nk6_3 ++ nk6_1 ++ nk6_6 ++ [(.ei .i64 (.ti nm6_12 (.li 0) (.ti (.vb 7) (.ti (.ic .eql (.ai 9 0 (.ci (.at 2 1) (.ci (.li 7) .n0))) (.li 0)) (.li 5) nm6_13) nm6_13))), (.ei .i64 (.ti nm6_12 (.li 0) (.ai 9 0 (.ci nm6_14 (.ci (.li 5) .n0))))), (.ei .i64 (.ti nm6_12 (.li 0) (.ai 9 0 (.ci nm6_15 (.ci (.li 5) .n0))))), (.ef (.tf nm6_12 (.fb .quo (.i2f (.ib .sub .i64 (.ai 9 0 (.ci (.ib .quo .i64 (.at 2 1) (.li 11)) (.ci (.li 33) .n0))) (.li 16))) (.lf 4620693217682128896)) (.lf 0)))]
def n2_0_0m0 : Memo := mkM [(.ag [(.i .i64 1), (.sl 60 0 2 (.u 4)), (.sl 59 0 1 (.u 1))]), (.c (.sl 68 0 1 (.u 1)))] [(59, [(.ei .i64 nm6_2)]), (60, nb6_0), (68, [(.ef nm6_4)])] 141 (.c (.sl 143 0 1 (.n 1))) (143, [(.ef (.tf (.ic .eql nm6_2 (.li 0)) nm6_4 nm6_3))]) 158
theorem n2_0_0o0 : mok [] (lenL 2 0 8 ++ []) nN2 51 n2_0_0m0 = true := by kernel_rfl
def n2_0_0ms : List (Nat × List Memo) := [(51, [n2_0_0m0])]
theorem n2_0_0mo : AllMem (memRun [] (lenL 2 0 8 ++ []) nN2) n2_0_0ms := ⟨⟨n2_0_0o0, trivial⟩, trivial⟩
theorem n2_0_0 : lawRunM 3 10 200 [.i, .i, .q, .i, .f, .q, .i, .b] [(0, 5, 2), (1, 3, 0)] (lenL 2 0 8 ++ []) nN2 n2_0_0ms = true := by kernel_rfl
def n2_1_0m0 : Memo := mkM [(.ag [(.i .i64 2), (.sl 70 0 3 (.u 4)), (.sl 69 0 2 (.u 1))]), (.c (.sl 82 0 2 (.u 1)))] [(69, nb6_1), (70, nb6_2), (82, nb6_3)] 162 (.c (.sl 164 0 2 (.n 2))) (164, [(.ef (.vf 100)), (.ef (.vf 101))]) 183
theorem n2_1_0o0 : mok [] (lenL 2 0 8 ++ []) nN2 51 n2_1_0m0 = true := by kernel_rfl
def n2_1_0ms : List (Nat × List Memo) := [(51, [n2_1_0m0])]
theorem n2_1_0mo : AllMem (memRun [] (lenL 2 0 8 ++ []) nN2) n2_1_0ms := ⟨⟨n2_1_0o0, trivial⟩, trivial⟩
theorem n2_1_0 : lawRunM 3 10 200 [.i, .i, .q, .i, .f, .q, .i, .b] [(0, 5, 2), (1, 3, 1)] (lenL 2 0 8 ++ []) nN2 n2_1_0ms = true := by kernel_rfl
def n2_2_0m0 : Memo := mkM [(.ag [(.i .i64 3), (.sl 80 0 4 (.u 4)), (.sl 79 0 3 (.u 1))]), (.c (.sl 96 0 3 (.u 1)))] [(79, nb6_4), (80, nb6_5), (96, nb6_6)] 183 (.c (.sl 185 0 3 (.n 3))) (185, [(.ef (.vf 104)), (.ef (.vf 105)), (.ef (.vf 106))]) 208
theorem n2_2_0o0 : mok [] (lenL 2 0 8 ++ []) nN2 51 n2_2_0m0 = true := by kernel_rfl
def n2_2_0ms : List (Nat × List Memo) := [(51, [n2_2_0m0])]
theorem n2_2_0mo : AllMem (memRun [] (lenL 2 0 8 ++ []) nN2) n2_2_0ms := ⟨⟨n2_2_0o0, trivial⟩, trivial⟩
theorem n2_2_0 : lawRunM 3 10 200 [.i, .i, .q, .i, .f, .q, .i, .b] [(0, 5, 2), (1, 3, 2)] (lenL 2 0 8 ++ []) nN2 n2_2_0ms = true := by kernel_rfl
def n2_0_1m0 : Memo := mkM [(.ag [(.i .i64 1), (.sl 60 0 3 (.u 4)), (.sl 59 0 1 (.u 1))]), (.c (.sl 71 0 1 (.u 1)))] [(59, nb6_7), (60, nb6_8), (71, [(.ef nm6_4)])] 145 (.c (.sl 147 0 1 (.n 1))) (147, [(.ef (.vf 118))]) 166
theorem n2_0_1o0 : mok [] (lenL 2 1 8 ++ []) nN2 51 n2_0_1m0 = true := by kernel_rfl
def n2_0_1ms : List (Nat × List Memo) := [(51, [n2_0_1m0])]
theorem n2_0_1mo : AllMem (memRun [] (lenL 2 1 8 ++ []) nN2) n2_0_1ms := ⟨⟨n2_0_1o0, trivial⟩, trivial⟩
theorem n2_0_1 : lawRunM 3 10 200 [.i, .i, .q, .i, .f, .q, .i, .b] [(0, 5, 2), (1, 3, 0)] (lenL 2 1 8 ++ []) nN2 n2_0_1ms = true := by kernel_rfl
def n2_1_1m0 : Memo := mkM [(.ag [(.i .i64 2), (.sl 70 0 4 (.u 4)), (.sl 69 0 2 (.u 1))]), (.c (.sl 85 0 2 (.u 1)))] [(69, nb6_9), (70, nb6_10), (85, nb6_3)] 166 (.c (.sl 168 0 2 (.n 2))) (168, [(.ef (.vf 126)), (.ef (.vf 127))]) 191
theorem n2_1_1o0 : mok [] (lenL 2 1 8 ++ []) nN2 51 n2_1_1m0 = true := by kernel_rfl
def n2_1_1ms : List (Nat × List Memo) := [(51, [n2_1_1m0])]
theorem n2_1_1mo : AllMem (memRun [] (lenL 2 1 8 ++ []) nN2) n2_1_1ms := ⟨⟨n2_1_1o0, trivial⟩, trivial⟩
theorem n2_1_1 : lawRunM 3 10 200 [.i, .i, .q, .i, .f, .q, .i, .b] [(0, 5, 2), (1, 3, 1)] (lenL 2 1 8 ++ []) nN2 n2_1_1ms = true := by kernel_rfl
def n2_2_1m0 : Memo := mkM [(.ag [(.i .i64 3), (.sl 80 0 5 (.u 4)), (.sl 79 0 3 (.u 1))]), (.c (.sl 99 0 3 (.u 1)))] [(79, nb6_11), (80, nb6_12), (99, nb6_6)] 187 (.c (.sl 189 0 3 (.n 3))) (189, [(.ef (.vf 136)), (.ef (.vf 137)), (.ef (.vf 138))]) 216
theorem n2_2_1o0 : mok [] (lenL 2 1 8 ++ []) nN2 51 n2_2_1m0 = true := by kernel_rfl
def n2_2_1ms : List (Nat × List Memo) := [(51, [n2_2_1m0])]
theorem n2_2_1mo : AllMem (memRun [] (lenL 2 1 8 ++ []) nN2) n2_2_1ms := ⟨⟨n2_2_1o0, trivial⟩, trivial⟩
theorem n2_2_1 : lawRunM 3 10 200 [.i, .i, .q, .i, .f, .q, .i, .b] [(0, 5, 2), (1, 3, 2)] (lenL 2 1 8 ++ []) nN2 n2_2_1ms = true := by kernel_rfl
def n2_0_2m0 : Memo := mkM [(.ag [(.i .i64 1), (.sl 60 0 4 (.u 4)), (.sl 59 0 1 (.u 1))]), (.c (.sl 74 0 1 (.u 1)))] [(59, nb6_13), (60, nb6_14), (74, [(.ef nm6_4)])] 149 (.c (.sl 151 0 1 (.n 1))) (151, [(.ef (.vf 148))]) 174
theorem n2_0_2o0 : mok [] (lenL 2 2 8 ++ []) nN2 51 n2_0_2m0 = true := by kernel_rfl
def n2_0_2ms : List (Nat × List Memo) := [(51, [n2_0_2m0])]
theorem n2_0_2mo : AllMem (memRun [] (lenL 2 2 8 ++ []) nN2) n2_0_2ms := ⟨⟨n2_0_2o0, trivial⟩, trivial⟩
theorem n2_0_2 : lawRunM 3 10 200 [.i, .i, .q, .i, .f, .q, .i, .b] [(0, 5, 2), (1, 3, 0)] (lenL 2 2 8 ++ []) nN2 n2_0_2ms = true := by kernel_rfl
def n2_1_2m0 : Memo := mkM [(.ag [(.i .i64 2), (.sl 70 0 5 (.u 4)), (.sl 69 0 2 (.u 1))]), (.c (.sl 88 0 2 (.u 1)))] [(69, nb6_15), (70, nb6_16), (88, nb6_3)] 170 (.c (.sl 172 0 2 (.n 2))) (172, [(.ef (.vf 157)), (.ef (.vf 158))]) 199
theorem n2_1_2o0 : mok [] (lenL 2 2 8 ++ []) nN2 51 n2_1_2m0 = true := by kernel_rfl
def n2_1_2ms : List (Nat × List Memo) := [(51, [n2_1_2m0])]
theorem n2_1_2mo : AllMem (memRun [] (lenL 2 2 8 ++ []) nN2) n2_1_2ms := ⟨⟨n2_1_2o0, trivial⟩, trivial⟩
theorem n2_1_2 : lawRunM 3 10 200 [.i, .i, .q, .i, .f, .q, .i, .b] [(0, 5, 2), (1, 3, 1)] (lenL 2 2 8 ++ []) nN2 n2_1_2ms = true := by kernel_rfl
def n2_2_2m0 : Memo := mkM [(.ag [(.i .i64 3), (.sl 80 0 6 (.u 4)), (.sl 79 0 3 (.u 1))]), (.c (.sl 102 0 3 (.u 1)))] [(79, nb6_17), (80, nb6_18), (102, nb6_6)] 191 (.c (.sl 193 0 3 (.n 3))) (193, [(.ef (.vf 167)), (.ef (.vf 168)), (.ef (.vf 169))]) 224
theorem n2_2_2o0 : mok [] (lenL 2 2 8 ++ []) nN2 51 n2_2_2m0 = true := by kernel_rfl
def n2_2_2ms : List (Nat × List Memo) := [(51, [n2_2_2m0])]
theorem n2_2_2mo : AllMem (memRun [] (lenL 2 2 8 ++ []) nN2) n2_2_2ms := ⟨⟨n2_2_2o0, trivial⟩, trivial⟩
theorem n2_2_2 : lawRunM 3 10 200 [.i, .i, .q, .i, .f, .q, .i, .b] [(0, 5, 2), (1, 3, 2)] (lenL 2 2 8 ++ []) nN2 n2_2_2ms = true := by kernel_rfl
end Go.Proofs.Ytkncchofgehnpaa
