/-
  'NordAll': runs of it, part 12.
-/
import Derived.Test.YtkncchofgehnpaaNordAllt4
namespace Go.Proofs.Ytkncchofgehnpaa
open Go.RowKit Ex
set_option maxRecDepth 1000000
set_option maxHeartbeats 100000000
def nm12_0 : E := (.ib .quo .i64 (.vi 1) (.li 3))
def nm12_1 : E := (.ib .add .i64 nm12_0 (.li 0))
def nm12_2 : E := (.ib .sub .i64 (.li 1) (.ai 9 0 (.ci nm12_1 (.ci (.li 2) .n0))))
def nm12_3 : E := (.fb .quo (.i2f (.ib .sub .i64 (.ai 9 0 (.ci (.vi 1) (.ci (.li 17) .n0))) (.li 8))) (.lf 4616189618054758400))
def nm12_4 : E := (.fb .quo (.i2f (.ib .sub .i64 (.ai 9 0 (.ci (.ti (.ic .lss (.li 0) (.vl 5)) (.at 5 0) (.li 0)) (.ci (.li 65) .n0))) (.li 32))) (.lf 4620693217682128896))
def nm12_5 : E := (.ai 9 0 (.ci nm12_1 (.ci (.li 3) .n0)))
def nm12_6 : E := (.ai 9 0 (.ci (.ib .add .i64 nm12_0 (.li 1)) (.ci (.li 3) .n0)))
def nm12_7 : E := (.ai 9 0 (.ci (.ib .add .i64 nm12_0 (.li 2)) (.ci (.li 3) .n0)))
def nm12_8 : E := (.ic .eql (.ai 9 0 (.ci (.at 2 0) (.ci (.li 11) .n0))) (.li 0))
def nm12_9 : E := (.ib .add .i64 (.li 2) (.ai 9 0 (.ci (.at 2 0) (.ci (.li 3) .n0))))
def nm12_10 : E := (.ib .quo .i64 (.at 2 0) (.li 4))
def nm12_11 : E := (.ib .quo .i64 (.at 2 0) (.li 40))
def nm12_12 : E := (.ic .eql (.ai 9 0 (.ci (.at 2 1) (.ci (.li 11) .n0))) (.li 0))
def nm12_13 : E := (.ib .add .i64 (.li 2) (.ai 9 0 (.ci (.at 2 1) (.ci (.li 3) .n0))))
def nm12_14 : E := (.ib .quo .i64 (.at 2 1) (.li 4))
def nm12_15 : E := (.ib .quo .i64 (.at 2 1) (.li 40))
def nk12_0 : Blk := [(.i .i64 1), (.i .i64 0), (.i .i64 0), (.f 0)]
def nk12_1 : Blk := [(.i .i64 0), (.i .i64 0), (.i .i64 0), (.ef nm12_3)]
def nk12_2 : Blk := [(.i .i64 1), (.i .i64 1), (.i .i64 0), (.f 0)]
def nk12_3 : Blk := [(.i .i64 1), (.i .i64 2), (.i .i64 0), (.f 0)]
def nk12_4 : Blk := [(.ei .i64 (.ti nm12_8 (.li 0) (.ti (.vb 7) (.ti (.ic .eql (.ai 9 0 (.ci (.at 2 0) (.ci (.li 7) .n0))) (.li 0)) (.li 5) nm12_9) nm12_9))), (.ei .i64 (.ti nm12_8 (.li 0) (.ai 9 0 (.ci nm12_10 (.ci (.li 2) .n0))))), (.ei .i64 (.ti nm12_8 (.li 0) (.ai 9 0 (.ci nm12_11 (.ci (.li 2) .n0))))), (.ef (.tf nm12_8 (.fb .quo (.i2f (.ib .sub .i64 (.ai 9 0 (.ci (.ib .quo .i64 (.at 2 0) (.li 11)) (.ci (.li 33) .n0))) (.li 16))) (.lf 4620693217682128896)) (.lf 0)))]
def nk12_5 : Blk := [(.ei .i64 (.ti nm12_8 (.li 0) (.ti (.vb 7) (.ti (.ic .eql (.ai 9 0 (.ci (.at 2 0) (.ci (.li 7) .n0))) (.li 0)) (.li 5) nm12_9) nm12_9))), (.ei .i64 (.ti nm12_8 (.li 0) (.ai 9 0 (.ci nm12_10 (.ci (.li 3) .n0))))), (.ei .i64 (.ti nm12_8 (.li 0) (.ai 9 0 (.ci nm12_11 (.ci (.li 3) .n0))))), (.ef (.tf nm12_8 (.fb .quo (.i2f (.ib .sub .i64 (.ai 9 0 (.ci (.ib .quo .i64 (.at 2 0) (.li 11)) (.ci (.li 33) .n0))) (.li 16))) (.lf 4620693217682128896)) (.lf 0)))]
def nk12_6 : Blk := [(.ei .i64 (.ti nm12_8 (.li 0) (.ti (.vb 7) (.ti (.ic .eql (.ai 9 0 (.ci (.at 2 0) (.ci (.li 7) .n0))) (.li 0)) (.li 5) nm12_9) nm12_9))), (.ei .i64 (.ti nm12_8 (.li 0) (.ai 9 0 (.ci nm12_10 (.ci (.li 4) .n0))))), (.ei .i64 (.ti nm12_8 (.li 0) (.ai 9 0 (.ci nm12_11 (.ci (.li 4) .n0))))), (.ef (.tf nm12_8 (.fb .quo (.i2f (.ib .sub .i64 (.ai 9 0 (.ci (.ib .quo .i64 (.at 2 0) (.li 11)) (.ci (.li 33) .n0))) (.li 16))) (.lf 4620693217682128896)) (.lf 0)))]
def nb12_0 : Blk := nk12_0 ++ nk12_1
def nb12_1 : Blk := [(.ei .i64 (.ib .sub .i64 (.li 2) nm12_5)), (.ei .i64 (.ib .sub .i64 (.li 2) nm12_6))]
def nb12_2 : Blk := nk12_0 ++ nk12_2 ++ nk12_1
def nb12_3 : Blk := [(.ef nm12_4), (.ef (.fb .quo (.i2f (.ib .sub .i64 (.ai 9 0 (.ci (.ti (.ic .lss (.li 1) (.vl 5)) (.at 5 1) (.li 1)) (.ci (.li 65) .n0))) (.li 32))) (.lf 4620693217682128896)))]
def nb12_4 : Blk := [(.ei .i64 (.ib .sub .i64 (.li 3) nm12_5)), (.ei .i64 (.ib .sub .i64 (.li 3) nm12_6)), (.ei .i64 (.ib .sub .i64 (.li 3) nm12_7))]
def nb12_5 : Blk := nk12_0 ++ nk12_2 ++ nk12_3 ++ nk12_1
def nb12_6 : Blk := [(.ef nm12_4), (.ef (.fb .quo (.i2f (.ib .sub .i64 (.ai 9 0 (.ci (.ti (.ic .lss (.li 1) (.vl 5)) (.at 5 1) (.li 1)) (.ci (.li 65) .n0))) (.li 32))) (.lf 4620693217682128896))), (.ef (.fb .quo (.i2f (.ib .sub .i64 (.ai 9 0 (.ci (.ti (.ic .lss (.li 2) (.vl 5)) (.at 5 2) (.li 2)) (.ci (.li 65) .n0))) (.li 32))) (.lf 4620693217682128896)))]
def nb12_7 : Blk := [(.ei .i64 (.ib .sub .i64 (.li 2) nm12_5))]
def nb12_8 : Blk := nk12_0 ++ nk12_1 ++ nk12_4
def nb12_9 : Blk := [(.ei .i64 (.ib .sub .i64 (.li 3) nm12_5)), (.ei .i64 (.ib .sub .i64 (.li 3) nm12_6))]
def nb12_10 : Blk := nk12_0 ++ nk12_2 ++ nk12_1 ++ nk12_5
def nb12_11 : Blk := [(.ei .i64 (.ib .sub .i64 (.li 4) nm12_5)), (.ei .i64 (.ib .sub .i64 (.li 4) nm12_6)), (.ei .i64 (.ib .sub .i64 (.li 4) nm12_7))]
def nb12_12 : Blk := nk12_0 ++ nk12_2 ++ nk12_3 ++ nk12_1 ++ nk12_6
def nb12_13 : Blk := [(.ei .i64 (.ib .sub .i64 (.li 3) nm12_5))]
def nb12_14 : Blk := nk12_0 ++ nk12_1 ++ nk12_4 ++ [(.ei .i64 (.ti nm12_12 (.li 0) (.ti (.vb 7) (.ti (.ic .eql (.ai 9 0 (.ci (.at 2 1) (.ci (.li 7) .n0))) (.li 0)) (.li 5) nm12_13) nm12_13))), (.ei .i64 (.ti nm12_12 (.li 0) (.ai 9 0 (.ci nm12_14 (.ci (.li 3) .n0))))), (.ei .i64 (.ti nm12_12 (.li 0) (.ai 9 0 (.ci nm12_15 (.ci (.li 3) .n0))))), (.ef (.tf nm12_12 (.fb .quo (.i2f (.ib .sub .i64 (.ai 9 0 (.ci (.ib .quo .i64 (.at 2 1) (.li 11)) (.ci (.li 33) .n0))) (.li 16))) (.lf 4620693217682128896)) (.lf 0)))]
def nb12_15 : Blk := [(.ei .i64 (.ib .sub .i64 (.li 4) nm12_5)), (.ei .i64 (.ib .sub .i64 (.li 4) nm12_6))]
def nb12_16 : Blk := nk12_0 ++ nk12_2 ++ nk12_1 ++ nk12_5 ++ [(.ei .i64 (.ti nm12_12 (.li 0) (.ti (.vb 7) (.ti (.ic .eql (.ai 9 0 (.ci (.at 2 1) (.ci (.li 7) .n0))) (.li 0)) (.li 5) nm12_13) nm12_13))), (.ei .i64 (.ti nm12_12 (.li 0) (.ai 9 0 (.ci nm12_14 (.ci (.li 4) .n0))))), (.ei .i64 (.ti nm12_12 (.li 0) (.ai 9 0 (.ci nm12_15 (.ci (.li 4) .n0))))), (.ef (.tf nm12_12 (.fb .quo (.i2f (.ib .sub .i64 (.ai 9 0 (.ci (.ib .quo .i64 (.at 2 1) (.li 11)) (.ci (.li 33) .n0))) (.li 16))) (.lf 4620693217682128896)) (.lf 0)))]
def nb12_17 : Blk := [(.ei .i64 (.ib .sub .i64 (.li 5) nm12_5)), (.ei .i64 (.ib .sub .i64 (.li 5) nm12_6)), (.ei .i64 (.ib .sub .i64 (.li 5) nm12_7))]
def nb12_18 : Blk := nk12_0 ++ nk12_2 ++ nk12_3 ++ nk12_1 ++ nk12_6 ++ [(.ei .i64 (.ti nm12_12 (.li 0) (.ti (.vb 7) (.ti (.ic .eql (.ai 9 0 (.ci (.at 2 1) (.ci (.li 7) .n0))) (.li 0)) (.li 5) nm12_13) nm12_13))), (.ei .i64 (.ti nm12_12 (.li 0) (.ai 9 0 (.ci nm12_14 (.ci (.li 5) .n0))))), (.ei .i64 (.ti nm12_12 (.li 0) (.ai 9 0 (.ci nm12_15 (.ci (.li 5) .n0))))), (.ef (.tf nm12_12 (.fb .quo (.i2f (.ib .sub .i64 (.ai 9 0 (.ci (.ib .quo .i64 (.at 2 1) (.li 11)) (.ci (.li 33) .n0))) (.li 16))) (.lf 4620693217682128896)) (.lf 0)))]
def n4_0_0m0 : Memo := mkM [(.ag [(.i .i64 1), (.sl 82 0 2 (.u 4)), (.sl 81 0 1 (.u 1))]), (.c (.sl 90 0 1 (.u 1)))] [(81, [(.ei .i64 nm12_2)]), (82, nb12_0), (90, [(.ef nm12_4)])] 187 (.c (.sl 189 0 1 (.n 1))) (189, [(.ef (.tf (.ic .eql nm12_2 (.li 0)) nm12_4 nm12_3))]) 204
theorem n4_0_0o0 : mok [] (lenL 2 0 8 ++ []) nN4 51 n4_0_0m0 = true := by kernel_rfl
def n4_0_0ms : List (Nat × List Memo) := [(51, [n4_0_0m0])]
theorem n4_0_0mo : AllMem (memRun [] (lenL 2 0 8 ++ []) nN4) n4_0_0ms := ⟨⟨n4_0_0o0, trivial⟩, trivial⟩
theorem n4_0_0 : lawRunM 3 10 200 [.i, .i, .q, .i, .f, .q, .i, .b] [(0, 5, 4), (1, 3, 0)] (lenL 2 0 8 ++ []) nN4 n4_0_0ms = true := by kernel_rfl
def n4_1_0m0 : Memo := mkM [(.ag [(.i .i64 2), (.sl 96 0 3 (.u 4)), (.sl 95 0 2 (.u 1))]), (.c (.sl 108 0 2 (.u 1)))] [(95, nb12_1), (96, nb12_2), (108, nb12_3)] 212 (.c (.sl 214 0 2 (.n 2))) (214, [(.ef (.vf 100)), (.ef (.vf 101))]) 233
theorem n4_1_0o0 : mok [] (lenL 2 0 8 ++ []) nN4 51 n4_1_0m0 = true := by kernel_rfl
def n4_1_0ms : List (Nat × List Memo) := [(51, [n4_1_0m0])]
theorem n4_1_0mo : AllMem (memRun [] (lenL 2 0 8 ++ []) nN4) n4_1_0ms := ⟨⟨n4_1_0o0, trivial⟩, trivial⟩
theorem n4_1_0 : lawRunM 3 10 200 [.i, .i, .q, .i, .f, .q, .i, .b] [(0, 5, 4), (1, 3, 1)] (lenL 2 0 8 ++ []) nN4 n4_1_0ms = true := by kernel_rfl
def n4_2_0m0 : Memo := mkM [(.ag [(.i .i64 3), (.sl 110 0 4 (.u 4)), (.sl 109 0 3 (.u 1))]), (.c (.sl 126 0 3 (.u 1)))] [(109, nb12_4), (110, nb12_5), (126, nb12_6)] 237 (.c (.sl 239 0 3 (.n 3))) (239, [(.ef (.vf 104)), (.ef (.vf 105)), (.ef (.vf 106))]) 262
theorem n4_2_0o0 : mok [] (lenL 2 0 8 ++ []) nN4 51 n4_2_0m0 = true := by kernel_rfl
def n4_2_0ms : List (Nat × List Memo) := [(51, [n4_2_0m0])]
theorem n4_2_0mo : AllMem (memRun [] (lenL 2 0 8 ++ []) nN4) n4_2_0ms := ⟨⟨n4_2_0o0, trivial⟩, trivial⟩
theorem n4_2_0 : lawRunM 3 10 200 [.i, .i, .q, .i, .f, .q, .i, .b] [(0, 5, 4), (1, 3, 2)] (lenL 2 0 8 ++ []) nN4 n4_2_0ms = true := by kernel_rfl
def n4_0_1m0 : Memo := mkM [(.ag [(.i .i64 1), (.sl 82 0 3 (.u 4)), (.sl 81 0 1 (.u 1))]), (.c (.sl 93 0 1 (.u 1)))] [(81, nb12_7), (82, nb12_8), (93, [(.ef nm12_4)])] 191 (.c (.sl 193 0 1 (.n 1))) (193, [(.ef (.vf 118))]) 212
theorem n4_0_1o0 : mok [] (lenL 2 1 8 ++ []) nN4 51 n4_0_1m0 = true := by kernel_rfl
def n4_0_1ms : List (Nat × List Memo) := [(51, [n4_0_1m0])]
theorem n4_0_1mo : AllMem (memRun [] (lenL 2 1 8 ++ []) nN4) n4_0_1ms := ⟨⟨n4_0_1o0, trivial⟩, trivial⟩
theorem n4_0_1 : lawRunM 3 10 200 [.i, .i, .q, .i, .f, .q, .i, .b] [(0, 5, 4), (1, 3, 0)] (lenL 2 1 8 ++ []) nN4 n4_0_1ms = true := by kernel_rfl
def n4_1_1m0 : Memo := mkM [(.ag [(.i .i64 2), (.sl 96 0 4 (.u 4)), (.sl 95 0 2 (.u 1))]), (.c (.sl 111 0 2 (.u 1)))] [(95, nb12_9), (96, nb12_10), (111, nb12_3)] 216 (.c (.sl 218 0 2 (.n 2))) (218, [(.ef (.vf 126)), (.ef (.vf 127))]) 241
theorem n4_1_1o0 : mok [] (lenL 2 1 8 ++ []) nN4 51 n4_1_1m0 = true := by kernel_rfl
def n4_1_1ms : List (Nat × List Memo) := [(51, [n4_1_1m0])]
theorem n4_1_1mo : AllMem (memRun [] (lenL 2 1 8 ++ []) nN4) n4_1_1ms := ⟨⟨n4_1_1o0, trivial⟩, trivial⟩
theorem n4_1_1 : lawRunM 3 10 200 [.i, .i, .q, .i, .f, .q, .i, .b] [(0, 5, 4), (1, 3, 1)] (lenL 2 1 8 ++ []) nN4 n4_1_1ms = true := by kernel_rfl
def n4_2_1m0 : Memo := mkM [(.ag [(.i .i64 3), (.sl 110 0 5 (.u 4)), (.sl 109 0 3 (.u 1))]), (.c (.sl 129 0 3 (.u 1)))] [(109, nb12_11), (110, nb12_12), (129, nb12_6)] 241 (.c (.sl 243 0 3 (.n 3))) (243, [(.ef (.vf 136)), (.ef (.vf 137)), (.ef (.vf 138))]) 270
theorem n4_2_1o0 : mok [] (lenL 2 1 8 ++ []) nN4 51 n4_2_1m0 = true := by kernel_rfl
def n4_2_1ms : List (Nat × List Memo) := [(51, [n4_2_1m0])]
theorem n4_2_1mo : AllMem (memRun [] (lenL 2 1 8 ++ []) nN4) n4_2_1ms := ⟨⟨n4_2_1o0, trivial⟩, trivial⟩
theorem n4_2_1 : lawRunM 3 10 200 [.i, .i, .q, .i, .f, .q, .i, .b] [(0, 5, 4), (1, 3, 2)] (lenL 2 1 8 ++ []) nN4 n4_2_1ms = true := by kernel_rfl
def n4_0_2m0 : Memo := mkM [(.ag [(.i .i64 1), (.sl 82 0 4 (.u 4)), (.sl 81 0 1 (.u 1))]), (.c (.sl 96 0 1 (.u 1)))] [(81, nb12_13), (82, nb12_14), (96, [(.ef nm12_4)])] 195 (.c (.sl 197 0 1 (.n 1))) (197, [(.ef (.vf 148))]) 220
theorem n4_0_2o0 : mok [] (lenL 2 2 8 ++ []) nN4 51 n4_0_2m0 = true := by kernel_rfl
def n4_0_2ms : List (Nat × List Memo) := [(51, [n4_0_2m0])]
theorem n4_0_2mo : AllMem (memRun [] (lenL 2 2 8 ++ []) nN4) n4_0_2ms := ⟨⟨n4_0_2o0, trivial⟩, trivial⟩
theorem n4_0_2 : lawRunM 3 10 200 [.i, .i, .q, .i, .f, .q, .i, .b] [(0, 5, 4), (1, 3, 0)] (lenL 2 2 8 ++ []) nN4 n4_0_2ms = true := by kernel_rfl
def n4_1_2m0 : Memo := mkM [(.ag [(.i .i64 2), (.sl 96 0 5 (.u 4)), (.sl 95 0 2 (.u 1))]), (.c (.sl 114 0 2 (.u 1)))] [(95, nb12_15), (96, nb12_16), (114, nb12_3)] 220 (.c (.sl 222 0 2 (.n 2))) (222, [(.ef (.vf 157)), (.ef (.vf 158))]) 249
theorem n4_1_2o0 : mok [] (lenL 2 2 8 ++ []) nN4 51 n4_1_2m0 = true := by kernel_rfl
def n4_1_2ms : List (Nat × List Memo) := [(51, [n4_1_2m0])]
theorem n4_1_2mo : AllMem (memRun [] (lenL 2 2 8 ++ []) nN4) n4_1_2ms := ⟨⟨n4_1_2o0, trivial⟩, trivial⟩
theorem n4_1_2 : lawRunM 3 10 200 [.i, .i, .q, .i, .f, .q, .i, .b] [(0, 5, 4), (1, 3, 1)] (lenL 2 2 8 ++ []) nN4 n4_1_2ms = true := by kernel_rfl
def n4_2_2m0 : Memo := mkM [(.ag [(.i .i64 3), (.sl 110 0 6 (.u 4)), (.sl 109 0 3 (.u 1))]), (.c (.sl 132 0 3 (.u 1)))] [(109, nb12_17), (110, nb12_18), (132, nb12_6)] 245 (.c (.sl 247 0 3 (.n 3))) (247, [(.ef (.vf 167)), (.ef (.vf 168)), (.ef (.vf 169))]) 278
theorem n4_2_2o0 : mok [] (lenL 2 2 8 ++ []) nN4 51 n4_2_2m0 = true := by kernel_rfl
def n4_2_2ms : List (Nat × List Memo) := [(51, [n4_2_2m0])]
theorem n4_2_2mo : AllMem (memRun [] (lenL 2 2 8 ++ []) nN4) n4_2_2ms := ⟨⟨n4_2_2o0, trivial⟩, trivial⟩
theorem n4_2_2 : lawRunM 3 10 200 [.i, .i, .q, .i, .f, .q, .i, .b] [(0, 5, 4), (1, 3, 2)] (lenL 2 2 8 ++ []) nN4 n4_2_2ms = true := by kernel_rfl
end Go.Proofs.Ytkncchofgehnpaa
