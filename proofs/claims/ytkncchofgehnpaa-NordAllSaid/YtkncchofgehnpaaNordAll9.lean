/-
  'NordAll': runs of it, part 9.
-/
import Derived.Test.YtkncchofgehnpaaNordAllt3
namespace Go.Proofs.Ytkncchofgehnpaa
open Go.RowKit Ex
set_option maxRecDepth 1000000
set_option maxHeartbeats 100000000
def nm9_0 : E := (.ib .quo .i64 (.vi 1) (.li 3))
def nm9_1 : E := (.ib .add .i64 nm9_0 (.li 0))
def nm9_2 : E := (.ib .sub .i64 (.li 1) (.ai 9 0 (.ci nm9_1 (.ci (.li 2) .n0))))
def nm9_3 : E := (.fb .quo (.i2f (.ib .sub .i64 (.ai 9 0 (.ci (.vi 1) (.ci (.li 17) .n0))) (.li 8))) (.lf 4616189618054758400))
def nm9_4 : E := (.fb .quo (.i2f (.ib .sub .i64 (.ai 9 0 (.ci (.ti (.ic .lss (.li 0) (.vl 5)) (.at 5 0) (.li 0)) (.ci (.li 65) .n0))) (.li 32))) (.lf 4620693217682128896))
def nm9_5 : E := (.ai 9 0 (.ci nm9_1 (.ci (.li 3) .n0)))
def nm9_6 : E := (.ai 9 0 (.ci (.ib .add .i64 nm9_0 (.li 1)) (.ci (.li 3) .n0)))
def nm9_7 : E := (.ai 9 0 (.ci (.ib .add .i64 nm9_0 (.li 2)) (.ci (.li 3) .n0)))
def nm9_8 : E := (.ic .eql (.ai 9 0 (.ci (.at 2 0) (.ci (.li 11) .n0))) (.li 0))
def nm9_9 : E := (.ib .add .i64 (.li 2) (.ai 9 0 (.ci (.at 2 0) (.ci (.li 3) .n0))))
def nm9_10 : E := (.ib .quo .i64 (.at 2 0) (.li 4))
def nm9_11 : E := (.ib .quo .i64 (.at 2 0) (.li 40))
def nm9_12 : E := (.ic .eql (.ai 9 0 (.ci (.at 2 1) (.ci (.li 11) .n0))) (.li 0))
def nm9_13 : E := (.ib .add .i64 (.li 2) (.ai 9 0 (.ci (.at 2 1) (.ci (.li 3) .n0))))
def nm9_14 : E := (.ib .quo .i64 (.at 2 1) (.li 4))
def nm9_15 : E := (.ib .quo .i64 (.at 2 1) (.li 40))
def nk9_0 : Blk := [(.i .i64 1), (.i .i64 0), (.i .i64 0), (.f 0)]
def nk9_1 : Blk := [(.i .i64 0), (.i .i64 0), (.i .i64 0), (.ef nm9_3)]
def nk9_2 : Blk := [(.i .i64 1), (.i .i64 1), (.i .i64 0), (.f 0)]
def nk9_3 : Blk := [(.i .i64 1), (.i .i64 2), (.i .i64 0), (.f 0)]
def nk9_4 : Blk := [(.ei .i64 (.ti nm9_8 (.li 0) (.ti (.vb 7) (.ti (.ic .eql (.ai 9 0 (.ci (.at 2 0) (.ci (.li 7) .n0))) (.li 0)) (.li 5) nm9_9) nm9_9))), (.ei .i64 (.ti nm9_8 (.li 0) (.ai 9 0 (.ci nm9_10 (.ci (.li 2) .n0))))), (.ei .i64 (.ti nm9_8 (.li 0) (.ai 9 0 (.ci nm9_11 (.ci (.li 2) .n0))))), (.ef (.tf nm9_8 (.fb .quo (.i2f (.ib .sub .i64 (.ai 9 0 (.ci (.ib .quo .i64 (.at 2 0) (.li 11)) (.ci (.li 33) .n0))) (.li 16))) (.lf 4620693217682128896)) (.lf 0)))]
def nk9_5 : Blk := [(.ei .i64 (.ti nm9_8 (.li 0) (.ti (.vb 7) (.ti (.ic .eql (.ai 9 0 (.ci (.at 2 0) (.ci (.li 7) .n0))) (.li 0)) (.li 5) nm9_9) nm9_9))), (.ei .i64 (.ti nm9_8 (.li 0) (.ai 9 0 (.ci nm9_10 (.ci (.li 3) .n0))))), (.ei .i64 (.ti nm9_8 (.li 0) (.ai 9 0 (.ci nm9_11 (.ci (.li 3) .n0))))), (.ef (.tf nm9_8 (.fb .quo (.i2f (.ib .sub .i64 (.ai 9 0 (.ci (.ib .quo .i64 (.at 2 0) (.li 11)) (.ci (.li 33) .n0))) (.li 16))) (.lf 4620693217682128896)) (.lf 0)))]
def nk9_6 : Blk := [(.ei .i64 (.ti nm9_8 (.li 0) (.ti (.vb 7) (.ti (.ic .eql (.ai 9 0 (.ci (.at 2 0) (.ci (.li 7) .n0))) (.li 0)) (.li 5) nm9_9) nm9_9))), (.ei .i64 (.ti nm9_8 (.li 0) (.ai 9 0 (.ci nm9_10 (.ci (.li 4) .n0))))), (.ei .i64 (.ti nm9_8 (.li 0) (.ai 9 0 (.ci nm9_11 (.ci (.li 4) .n0))))), (.ef (.tf nm9_8 (.fb .quo (.i2f (.ib .sub .i64 (.ai 9 0 (.ci (.ib .quo .i64 (.at 2 0) (.li 11)) (.ci (.li 33) .n0))) (.li 16))) (.lf 4620693217682128896)) (.lf 0)))]
def nb9_0 : Blk := nk9_0 ++ nk9_1
def nb9_1 : Blk := [(.ei .i64 (.ib .sub .i64 (.li 2) nm9_5)), (.ei .i64 (.ib .sub .i64 (.li 2) nm9_6))]
def nb9_2 : Blk := nk9_0 ++ nk9_2 ++ nk9_1
def nb9_3 : Blk := [(.ef nm9_4), (.ef (.fb .quo (.i2f (.ib .sub .i64 (.ai 9 0 (.ci (.ti (.ic .lss (.li 1) (.vl 5)) (.at 5 1) (.li 1)) (.ci (.li 65) .n0))) (.li 32))) (.lf 4620693217682128896)))]
def nb9_4 : Blk := [(.ei .i64 (.ib .sub .i64 (.li 3) nm9_5)), (.ei .i64 (.ib .sub .i64 (.li 3) nm9_6)), (.ei .i64 (.ib .sub .i64 (.li 3) nm9_7))]
def nb9_5 : Blk := nk9_0 ++ nk9_2 ++ nk9_3 ++ nk9_1
def nb9_6 : Blk := [(.ef nm9_4), (.ef (.fb .quo (.i2f (.ib .sub .i64 (.ai 9 0 (.ci (.ti (.ic .lss (.li 1) (.vl 5)) (.at 5 1) (.li 1)) (.ci (.li 65) .n0))) (.li 32))) (.lf 4620693217682128896))), (.ef (.fb .quo (.i2f (.ib .sub .i64 (.ai 9 0 (.ci (.ti (.ic .lss (.li 2) (.vl 5)) (.at 5 2) (.li 2)) (.ci (.li 65) .n0))) (.li 32))) (.lf 4620693217682128896)))]
def nb9_7 : Blk := [(.ei .i64 (.ib .sub .i64 (.li 2) nm9_5))]
def nb9_8 : Blk := nk9_0 ++ nk9_1 ++ nk9_4
def nb9_9 : Blk := [(.ei .i64 (.ib .sub .i64 (.li 3) nm9_5)), (.ei .i64 (.ib .sub .i64 (.li 3) nm9_6))]
def nb9_10 : Blk := nk9_0 ++ nk9_2 ++ nk9_1 ++ nk9_5
def nb9_11 : Blk := [(.ei .i64 (.ib .sub .i64 (.li 4) nm9_5)), (.ei .i64 (.ib .sub .i64 (.li 4) nm9_6)), (.ei .i64 (.ib .sub .i64 (.li 4) nm9_7))]
def nb9_12 : Blk := nk9_0 ++ nk9_2 ++ nk9_3 ++ nk9_1 ++ nk9_6
def nb9_13 : Blk := [(.ei .i64 (.ib .sub .i64 (.li 3) nm9_5))]
def nb9_14 : Blk := nk9_0 ++ nk9_1 ++ nk9_4 ++ [(.ei .i64 (.ti nm9_12 (.li 0) (.ti (.vb 7) (.ti (.ic .eql (.ai 9 0 (.ci (.at 2 1) (.ci (.li 7) .n0))) (.li 0)) (.li 5) nm9_13) nm9_13))), (.ei .i64 (.ti nm9_12 (.li 0) (.ai 9 0 (.ci nm9_14 (.ci (.li 3) .n0))))), (.ei .i64 (.ti nm9_12 (.li 0) (.ai 9 0 (.ci nm9_15 (.ci (.li 3) .n0))))), (.ef (.tf nm9_12 (.fb .quo (.i2f (.ib .sub .i64 (.ai 9 0 (.ci (.ib .quo .i64 (.at 2 1) (.li 11)) (.ci (.li 33) .n0))) (.li 16))) (.lf 4620693217682128896)) (.lf 0)))]
def nb9_15 : Blk := [(.ei .i64 (.ib .sub .i64 (.li 4) nm9_5)), (.ei .i64 (.ib .sub .i64 (.li 4) nm9_6))]
def nb9_16 : Blk := nk9_0 ++ nk9_2 ++ nk9_1 ++ nk9_5 ++ [(.ei .i64 (.ti nm9_12 (.li 0) (.ti (.vb 7) (.ti (.ic .eql (.ai 9 0 (.ci (.at 2 1) (.ci (.li 7) .n0))) (.li 0)) (.li 5) nm9_13) nm9_13))), (.ei .i64 (.ti nm9_12 (.li 0) (.ai 9 0 (.ci nm9_14 (.ci (.li 4) .n0))))), (.ei .i64 (.ti nm9_12 (.li 0) (.ai 9 0 (.ci nm9_15 (.ci (.li 4) .n0))))), (.ef (.tf nm9_12 (.fb .quo (.i2f (.ib .sub .i64 (.ai 9 0 (.ci (.ib .quo .i64 (.at 2 1) (.li 11)) (.ci (.li 33) .n0))) (.li 16))) (.lf 4620693217682128896)) (.lf 0)))]
def nb9_17 : Blk := [(.ei .i64 (.ib .sub .i64 (.li 5) nm9_5)), (.ei .i64 (.ib .sub .i64 (.li 5) nm9_6)), (.ei .i64 (.ib .sub .i64 (.li 5) nm9_7))]
def nb9_18 : Blk := nk9_0 ++ nk9_2 ++ nk9_3 ++ nk9_1 ++ nk9_6 ++ [(.ei .i64 (.ti nm9_12 (.li 0) (.ti (.vb 7) (.ti (.ic .eql (.ai 9 0 (.ci (.at 2 1) (.ci (.li 7) .n0))) (.li 0)) (.li 5) nm9_13) nm9_13))), (.ei .i64 (.ti nm9_12 (.li 0) (.ai 9 0 (.ci nm9_14 (.ci (.li 5) .n0))))), (.ei .i64 (.ti nm9_12 (.li 0) (.ai 9 0 (.ci nm9_15 (.ci (.li 5) .n0))))), (.ef (.tf nm9_12 (.fb .quo (.i2f (.ib .sub .i64 (.ai 9 0 (.ci (.ib .quo .i64 (.at 2 1) (.li 11)) (.ci (.li 33) .n0))) (.li 16))) (.lf 4620693217682128896)) (.lf 0)))]
def n3_0_0m0 : Memo := mkM [(.ag [(.i .i64 1), (.sl 71 0 2 (.u 4)), (.sl 70 0 1 (.u 1))]), (.c (.sl 79 0 1 (.u 1)))] [(70, [(.ei .i64 nm9_2)]), (71, nb9_0), (79, [(.ef nm9_4)])] 164 (.c (.sl 166 0 1 (.n 1))) (166, [(.ef (.tf (.ic .eql nm9_2 (.li 0)) nm9_4 nm9_3))]) 181
theorem n3_0_0o0 : mok [] (lenL 2 0 8 ++ []) nN3 51 n3_0_0m0 = true := by kernel_rfl
def n3_0_0ms : List (Nat × List Memo) := [(51, [n3_0_0m0])]
theorem n3_0_0mo : AllMem (memRun [] (lenL 2 0 8 ++ []) nN3) n3_0_0ms := ⟨⟨n3_0_0o0, trivial⟩, trivial⟩
theorem n3_0_0 : lawRunM 3 10 200 [.i, .i, .q, .i, .f, .q, .i, .b] [(0, 5, 3), (1, 3, 0)] (lenL 2 0 8 ++ []) nN3 n3_0_0ms = true := by kernel_rfl
def n3_1_0m0 : Memo := mkM [(.ag [(.i .i64 2), (.sl 83 0 3 (.u 4)), (.sl 82 0 2 (.u 1))]), (.c (.sl 95 0 2 (.u 1)))] [(82, nb9_1), (83, nb9_2), (95, nb9_3)] 187 (.c (.sl 189 0 2 (.n 2))) (189, [(.ef (.vf 100)), (.ef (.vf 101))]) 208
theorem n3_1_0o0 : mok [] (lenL 2 0 8 ++ []) nN3 51 n3_1_0m0 = true := by kernel_rfl
def n3_1_0ms : List (Nat × List Memo) := [(51, [n3_1_0m0])]
theorem n3_1_0mo : AllMem (memRun [] (lenL 2 0 8 ++ []) nN3) n3_1_0ms := ⟨⟨n3_1_0o0, trivial⟩, trivial⟩
theorem n3_1_0 : lawRunM 3 10 200 [.i, .i, .q, .i, .f, .q, .i, .b] [(0, 5, 3), (1, 3, 1)] (lenL 2 0 8 ++ []) nN3 n3_1_0ms = true := by kernel_rfl
def n3_2_0m0 : Memo := mkM [(.ag [(.i .i64 3), (.sl 95 0 4 (.u 4)), (.sl 94 0 3 (.u 1))]), (.c (.sl 111 0 3 (.u 1)))] [(94, nb9_4), (95, nb9_5), (111, nb9_6)] 210 (.c (.sl 212 0 3 (.n 3))) (212, [(.ef (.vf 104)), (.ef (.vf 105)), (.ef (.vf 106))]) 235
theorem n3_2_0o0 : mok [] (lenL 2 0 8 ++ []) nN3 51 n3_2_0m0 = true := by kernel_rfl
def n3_2_0ms : List (Nat × List Memo) := [(51, [n3_2_0m0])]
theorem n3_2_0mo : AllMem (memRun [] (lenL 2 0 8 ++ []) nN3) n3_2_0ms := ⟨⟨n3_2_0o0, trivial⟩, trivial⟩
theorem n3_2_0 : lawRunM 3 10 200 [.i, .i, .q, .i, .f, .q, .i, .b] [(0, 5, 3), (1, 3, 2)] (lenL 2 0 8 ++ []) nN3 n3_2_0ms = true := by kernel_rfl
def n3_0_1m0 : Memo := mkM [(.ag [(.i .i64 1), (.sl 71 0 3 (.u 4)), (.sl 70 0 1 (.u 1))]), (.c (.sl 82 0 1 (.u 1)))] [(70, nb9_7), (71, nb9_8), (82, [(.ef nm9_4)])] 168 (.c (.sl 170 0 1 (.n 1))) (170, [(.ef (.vf 118))]) 189
theorem n3_0_1o0 : mok [] (lenL 2 1 8 ++ []) nN3 51 n3_0_1m0 = true := by kernel_rfl
def n3_0_1ms : List (Nat × List Memo) := [(51, [n3_0_1m0])]
theorem n3_0_1mo : AllMem (memRun [] (lenL 2 1 8 ++ []) nN3) n3_0_1ms := ⟨⟨n3_0_1o0, trivial⟩, trivial⟩
theorem n3_0_1 : lawRunM 3 10 200 [.i, .i, .q, .i, .f, .q, .i, .b] [(0, 5, 3), (1, 3, 0)] (lenL 2 1 8 ++ []) nN3 n3_0_1ms = true := by kernel_rfl
def n3_1_1m0 : Memo := mkM [(.ag [(.i .i64 2), (.sl 83 0 4 (.u 4)), (.sl 82 0 2 (.u 1))]), (.c (.sl 98 0 2 (.u 1)))] [(82, nb9_9), (83, nb9_10), (98, nb9_3)] 191 (.c (.sl 193 0 2 (.n 2))) (193, [(.ef (.vf 126)), (.ef (.vf 127))]) 216
theorem n3_1_1o0 : mok [] (lenL 2 1 8 ++ []) nN3 51 n3_1_1m0 = true := by kernel_rfl
def n3_1_1ms : List (Nat × List Memo) := [(51, [n3_1_1m0])]
theorem n3_1_1mo : AllMem (memRun [] (lenL 2 1 8 ++ []) nN3) n3_1_1ms := ⟨⟨n3_1_1o0, trivial⟩, trivial⟩
theorem n3_1_1 : lawRunM 3 10 200 [.i, .i, .q, .i, .f, .q, .i, .b] [(0, 5, 3), (1, 3, 1)] (lenL 2 1 8 ++ []) nN3 n3_1_1ms = true := by kernel_rfl
def n3_2_1m0 : Memo := mkM [(.ag [(.i .i64 3), (.sl 95 0 5 (.u 4)), (.sl 94 0 3 (.u 1))]), (.c (.sl 114 0 3 (.u 1)))] [(94, nb9_11), (95, nb9_12), (114, nb9_6)] 214 (.c (.sl 216 0 3 (.n 3))) (216, [(.ef (.vf 136)), (.ef (.vf 137)), (.ef (.vf 138))]) 243
theorem n3_2_1o0 : mok [] (lenL 2 1 8 ++ []) nN3 51 n3_2_1m0 = true := by kernel_rfl
def n3_2_1ms : List (Nat × List Memo) := [(51, [n3_2_1m0])]
theorem n3_2_1mo : AllMem (memRun [] (lenL 2 1 8 ++ []) nN3) n3_2_1ms := ⟨⟨n3_2_1o0, trivial⟩, trivial⟩
theorem n3_2_1 : lawRunM 3 10 200 [.i, .i, .q, .i, .f, .q, .i, .b] [(0, 5, 3), (1, 3, 2)] (lenL 2 1 8 ++ []) nN3 n3_2_1ms = true := by kernel_rfl
def n3_0_2m0 : Memo := mkM [(.ag [(.i .i64 1), (.sl 71 0 4 (.u 4)), (.sl 70 0 1 (.u 1))]), (.c (.sl 85 0 1 (.u 1)))] [(70, nb9_13), (71, nb9_14), (85, [(.ef nm9_4)])] 172 (.c (.sl 174 0 1 (.n 1))) (174, [(.ef (.vf 148))]) 197
theorem n3_0_2o0 : mok [] (lenL 2 2 8 ++ []) nN3 51 n3_0_2m0 = true := by kernel_rfl
def n3_0_2ms : List (Nat × List Memo) := [(51, [n3_0_2m0])]
theorem n3_0_2mo : AllMem (memRun [] (lenL 2 2 8 ++ []) nN3) n3_0_2ms := ⟨⟨n3_0_2o0, trivial⟩, trivial⟩
theorem n3_0_2 : lawRunM 3 10 200 [.i, .i, .q, .i, .f, .q, .i, .b] [(0, 5, 3), (1, 3, 0)] (lenL 2 2 8 ++ []) nN3 n3_0_2ms = true := by kernel_rfl
def n3_1_2m0 : Memo := mkM [(.ag [(.i .i64 2), (.sl 83 0 5 (.u 4)), (.sl 82 0 2 (.u 1))]), (.c (.sl 101 0 2 (.u 1)))] [(82, nb9_15), (83, nb9_16), (101, nb9_3)] 195 (.c (.sl 197 0 2 (.n 2))) (197, [(.ef (.vf 157)), (.ef (.vf 158))]) 224
theorem n3_1_2o0 : mok [] (lenL 2 2 8 ++ []) nN3 51 n3_1_2m0 = true := by kernel_rfl
def n3_1_2ms : List (Nat × List Memo) := [(51, [n3_1_2m0])]
theorem n3_1_2mo : AllMem (memRun [] (lenL 2 2 8 ++ []) nN3) n3_1_2ms := ⟨⟨n3_1_2o0, trivial⟩, trivial⟩
theorem n3_1_2 : lawRunM 3 10 200 [.i, .i, .q, .i, .f, .q, .i, .b] [(0, 5, 3), (1, 3, 1)] (lenL 2 2 8 ++ []) nN3 n3_1_2ms = true := by kernel_rfl
def n3_2_2m0 : Memo := mkM [(.ag [(.i .i64 3), (.sl 95 0 6 (.u 4)), (.sl 94 0 3 (.u 1))]), (.c (.sl 117 0 3 (.u 1)))] [(94, nb9_17), (95, nb9_18), (117, nb9_6)] 218 (.c (.sl 220 0 3 (.n 3))) (220, [(.ef (.vf 167)), (.ef (.vf 168)), (.ef (.vf 169))]) 251
theorem n3_2_2o0 : mok [] (lenL 2 2 8 ++ []) nN3 51 n3_2_2m0 = true := by kernel_rfl
def n3_2_2ms : List (Nat × List Memo) := [(51, [n3_2_2m0])]
theorem n3_2_2mo : AllMem (memRun [] (lenL 2 2 8 ++ []) nN3) n3_2_2ms := ⟨⟨n3_2_2o0, trivial⟩, trivial⟩
theorem n3_2_2 : lawRunM 3 10 200 [.i, .i, .q, .i, .f, .q, .i, .b] [(0, 5, 3), (1, 3, 2)] (lenL 2 2 8 ++ []) nN3 n3_2_2ms = true := by kernel_rfl
end Go.Proofs.Ytkncchofgehnpaa
