/-
  'NordAll': runs of it, part 0.
-/
import Derived.Test.YtkncchofgehnpaaNordAllt0
namespace Go.Proofs.Ytkncchofgehnpaa
open Go.RowKit Ex
set_option maxRecDepth 1000000
set_option maxHeartbeats 100000000
def nm0_0 : E := (.ib .quo .i64 (.vi 1) (.li 3))
def nm0_1 : E := (.ib .add .i64 nm0_0 (.li 0))
def nm0_2 : E := (.ib .sub .i64 (.li 1) (.ai 9 0 (.ci nm0_1 (.ci (.li 2) .n0))))
def nm0_3 : E := (.fb .quo (.i2f (.ib .sub .i64 (.ai 9 0 (.ci (.vi 1) (.ci (.li 17) .n0))) (.li 8))) (.lf 4616189618054758400))
def nm0_4 : E := (.fb .quo (.i2f (.ib .sub .i64 (.ai 9 0 (.ci (.ti (.ic .lss (.li 0) (.vl 5)) (.at 5 0) (.li 0)) (.ci (.li 65) .n0))) (.li 32))) (.lf 4620693217682128896))
def nm0_5 : E := (.ai 9 0 (.ci nm0_1 (.ci (.li 3) .n0)))
def nm0_6 : E := (.ai 9 0 (.ci (.ib .add .i64 nm0_0 (.li 1)) (.ci (.li 3) .n0)))
def nm0_7 : E := (.ai 9 0 (.ci (.ib .add .i64 nm0_0 (.li 2)) (.ci (.li 3) .n0)))
def nm0_8 : E := (.ic .eql (.ai 9 0 (.ci (.at 2 0) (.ci (.li 11) .n0))) (.li 0))
def nm0_9 : E := (.ib .add .i64 (.li 2) (.ai 9 0 (.ci (.at 2 0) (.ci (.li 3) .n0))))
def nm0_10 : E := (.ib .quo .i64 (.at 2 0) (.li 4))
def nm0_11 : E := (.ib .quo .i64 (.at 2 0) (.li 40))
def nm0_12 : E := (.ic .eql (.ai 9 0 (.ci (.at 2 1) (.ci (.li 11) .n0))) (.li 0))
def nm0_13 : E := (.ib .add .i64 (.li 2) (.ai 9 0 (.ci (.at 2 1) (.ci (.li 3) .n0))))
def nm0_14 : E := (.ib .quo .i64 (.at 2 1) (.li 4))
def nm0_15 : E := (.ib .quo .i64 (.at 2 1) (.li 40))
def nk0_0 : Blk := [(.i .i64 1), (.i .i64 0), (.i .i64 0), (.f 0)]
def nk0_1 : Blk := [(.i .i64 0), (.i .i64 0), (.i .i64 0), (.ef nm0_3)]
def nk0_2 : Blk := [(.i .i64 1), (.i .i64 1), (.i .i64 0), (.f 0)]
def nk0_3 : Blk := [(.i .i64 1), (.i .i64 2), (.i .i64 0), (.f 0)]
def nk0_4 : Blk := [(.ei .i64 (.ti nm0_8 (.li 0) (.ti (.vb 7) (.ti (.ic .eql (.ai 9 0 (.ci (.at 2 0) (.ci (.li 7) .n0))) (.li 0)) (.li 5) nm0_9) nm0_9))), (.ei .i64 (.ti nm0_8 (.li 0) (.ai 9 0 (.ci nm0_10 (.ci (.li 2) .n0))))), (.ei .i64 (.ti nm0_8 (.li 0) (.ai 9 0 (.ci nm0_11 (.ci (.li 2) .n0))))), (.ef (.tf nm0_8 (.fb .quo (.i2f (.ib .sub .i64 (.ai 9 0 (.ci (.ib .quo .i64 (.at 2 0) (.li 11)) (.ci (.li 33) .n0))) (.li 16))) (.lf 4620693217682128896)) (.lf 0)))]
def nk0_5 : Blk := [(.ei .i64 (.ti nm0_8 (.li 0) (.ti (.vb 7) (.ti (.ic .eql (.ai 9 0 (.ci (.at 2 0) (.ci (.li 7) .n0))) (.li 0)) (.li 5) nm0_9) nm0_9))), (.ei .i64 (.ti nm0_8 (.li 0) (.ai 9 0 (.ci nm0_10 (.ci (.li 3) .n0))))), (.ei .i64 (.ti nm0_8 (.li 0) (.ai 9 0 (.ci nm0_11 (.ci (.li 3) .n0))))), (.ef (.tf nm0_8 (.fb .quo (.i2f (.ib .sub .i64 (.ai 9 0 (.ci (.ib .quo .i64 (.at 2 0) (.li 11)) (.ci (.li 33) .n0))) (.li 16))) (.lf 4620693217682128896)) (.lf 0)))]
def nk0_6 : Blk := [(.ei .i64 (.ti nm0_8 (.li 0) (.ti (.vb 7) (.ti (.ic .eql (.ai 9 0 (.ci (.at 2 0) (.ci (.li 7) .n0))) (.li 0)) (.li 5) nm0_9) nm0_9))), (.ei .i64 (.ti nm0_8 (.li 0) (.ai 9 0 (.ci nm0_10 (.ci (.li 4) .n0))))), (.ei .i64 (.ti nm0_8 (.li 0) (.ai 9 0 (.ci nm0_11 (.ci (.li 4) .n0))))), (.ef (.tf nm0_8 (.fb .quo (.i2f (.ib .sub .i64 (.ai 9 0 (.ci (.ib .quo .i64 (.at 2 0) (.li 11)) (.ci (.li 33) .n0))) (.li 16))) (.lf 4620693217682128896)) (.lf 0)))]
def nb0_0 : Blk := nk0_0 ++ nk0_1
def nb0_1 : Blk := [(.ei .i64 (.ib .sub .i64 (.li 2) nm0_5)), (.ei .i64 (.ib .sub .i64 (.li 2) nm0_6))]
def nb0_2 : Blk := nk0_0 ++ nk0_2 ++ nk0_1
def nb0_3 : Blk := [(.ef nm0_4), (.ef (.fb .quo (.i2f (.ib .sub .i64 (.ai 9 0 (.ci (.ti (.ic .lss (.li 1) (.vl 5)) (.at 5 1) (.li 1)) (.ci (.li 65) .n0))) (.li 32))) (.lf 4620693217682128896)))]
def nb0_4 : Blk := [(.ei .i64 (.ib .sub .i64 (.li 3) nm0_5)), (.ei .i64 (.ib .sub .i64 (.li 3) nm0_6)), (.ei .i64 (.ib .sub .i64 (.li 3) nm0_7))]
def nb0_5 : Blk := nk0_0 ++ nk0_2 ++ nk0_3 ++ nk0_1
def nb0_6 : Blk := [(.ef nm0_4), (.ef (.fb .quo (.i2f (.ib .sub .i64 (.ai 9 0 (.ci (.ti (.ic .lss (.li 1) (.vl 5)) (.at 5 1) (.li 1)) (.ci (.li 65) .n0))) (.li 32))) (.lf 4620693217682128896))), (.ef (.fb .quo (.i2f (.ib .sub .i64 (.ai 9 0 (.ci (.ti (.ic .lss (.li 2) (.vl 5)) (.at 5 2) (.li 2)) (.ci (.li 65) .n0))) (.li 32))) (.lf 4620693217682128896)))]
def nb0_7 : Blk := [(.ei .i64 (.ib .sub .i64 (.li 2) nm0_5))]
def nb0_8 : Blk := nk0_0 ++ nk0_1 ++ nk0_4
def nb0_9 : Blk := [(.ei .i64 (.ib .sub .i64 (.li 3) nm0_5)), (.ei .i64 (.ib .sub .i64 (.li 3) nm0_6))]
def nb0_10 : Blk := nk0_0 ++ nk0_2 ++ nk0_1 ++ nk0_5
def nb0_11 : Blk := [(.ei .i64 (.ib .sub .i64 (.li 4) nm0_5)), (.ei .i64 (.ib .sub .i64 (.li 4) nm0_6)), (.ei .i64 (.ib .sub .i64 (.li 4) nm0_7))]
def nb0_12 : Blk := nk0_0 ++ nk0_2 ++ nk0_3 ++ nk0_1 ++ nk0_6
def nb0_13 : Blk := [(.ei .i64 (.ib .sub .i64 (.li 3) nm0_5))]
def nb0_14 : Blk := nk0_0 ++ nk0_1 ++ nk0_4 ++ [(.ei .i64 (.ti nm0_12 (.li 0) (.ti (.vb 7) (.ti (.ic .eql (.ai 9 0 (.ci (.at 2 1) (.ci (.li 7) .n0))) (.li 0)) (.li 5) nm0_13) nm0_13))), (.ei .i64 (.ti nm0_12 (.li 0) (.ai 9 0 (.ci nm0_14 (.ci (.li 3) .n0))))), (.ei .i64 (.ti nm0_12 (.li 0) (.ai 9 0 (.ci nm0_15 (.ci (.li 3) .n0))))), (.ef (.tf nm0_12 (.fb .quo (.i2f (.ib .sub .i64 (.ai 9 0 (.ci (.ib .quo .i64 (.at 2 1) (.li 11)) (.ci (.li 33) .n0))) (.li 16))) (.lf 4620693217682128896)) (.lf 0)))]
def nb0_15 : Blk := [(.ei .i64 (.ib .sub .i64 (.li 4) nm0_5)), (.ei .i64 (.ib .sub .i64 (.li 4) nm0_6))]
def nb0_16 : Blk := nk0_0 ++ nk0_2 ++ nk0_1 ++ nk0_5 ++ [(.ei .i64 (.ti nm0_12 (.li 0) (.ti (.vb 7) (.ti (.ic .eql (.ai 9 0 (.ci (.at 2 1) (.ci (.li 7) .n0))) (.li 0)) (.li 5) nm0_13) nm0_13))), (.ei .i64 (.ti nm0_12 (.li 0) (.ai 9 0 (.ci nm0_14 (.ci (.li 4) .n0))))), (.ei .i64 (.ti nm0_12 (.li 0) (.ai 9 0 (.ci nm0_15 (.ci (.li 4) .n0))))), (.ef (.tf nm0_12 (.fb .quo (.i2f (.ib .sub .i64 (.ai 9 0 (.ci (.ib .quo .i64 (.at 2 1) (.li 11)) (.ci (.li 33) .n0))) (.li 16))) (.lf 4620693217682128896)) (.lf 0)))]
def nb0_17 : Blk := [(.ei .i64 (.ib .sub .i64 (.li 5) nm0_5)), (.ei .i64 (.ib .sub .i64 (.li 5) nm0_6)), (.ei .i64 (.ib .sub .i64 (.li 5) nm0_7))]
def nb0_18 : Blk := nk0_0 ++ nk0_2 ++ nk0_3 ++ nk0_1 ++ nk0_6 ++ [(.ei .i64 (.ti nm0_12 (.li 0) (.ti (.vb 7) (.ti (.ic .eql (.ai 9 0 (.ci (.at 2 1) (.ci (.li 7) .n0))) (.li 0)) (.li 5) nm0_13) nm0_13))), (.ei .i64 (.ti nm0_12 (.li 0) (.ai 9 0 (.ci nm0_14 (.ci (.li 5) .n0))))), (.ei .i64 (.ti nm0_12 (.li 0) (.ai 9 0 (.ci nm0_15 (.ci (.li 5) .n0))))), (.ef (.tf nm0_12 (.fb .quo (.i2f (.ib .sub .i64 (.ai 9 0 (.ci (.ib .quo .i64 (.at 2 1) (.li 11)) (.ci (.li 33) .n0))) (.li 16))) (.lf 4620693217682128896)) (.lf 0)))]
def n0_0_0m0 : Memo := mkM [(.ag [(.i .i64 1), (.sl 38 0 2 (.u 4)), (.sl 37 0 1 (.u 1))]), (.c (.sl 46 0 1 (.u 1)))] [(37, [(.ei .i64 nm0_2)]), (38, nb0_0), (46, [(.ef nm0_4)])] 95 (.c (.sl 97 0 1 (.n 1))) (97, [(.ef (.tf (.ic .eql nm0_2 (.li 0)) nm0_4 nm0_3))]) 112
theorem n0_0_0o0 : mok [] (lenL 2 0 8 ++ []) nN0 51 n0_0_0m0 = true := by kernel_rfl
def n0_0_0ms : List (Nat × List Memo) := [(51, [n0_0_0m0])]
theorem n0_0_0mo : AllMem (memRun [] (lenL 2 0 8 ++ []) nN0) n0_0_0ms := ⟨⟨n0_0_0o0, trivial⟩, trivial⟩
theorem n0_0_0 : lawRunM 3 10 200 [.i, .i, .q, .i, .f, .q, .i, .b] [(0, 5, 0), (1, 3, 0)] (lenL 2 0 8 ++ []) nN0 n0_0_0ms = true := by kernel_rfl
def n0_1_0m0 : Memo := mkM [(.ag [(.i .i64 2), (.sl 44 0 3 (.u 4)), (.sl 43 0 2 (.u 1))]), (.c (.sl 56 0 2 (.u 1)))] [(43, nb0_1), (44, nb0_2), (56, nb0_3)] 112 (.c (.sl 114 0 2 (.n 2))) (114, [(.ef (.vf 100)), (.ef (.vf 101))]) 133
theorem n0_1_0o0 : mok [] (lenL 2 0 8 ++ []) nN0 51 n0_1_0m0 = true := by kernel_rfl
def n0_1_0ms : List (Nat × List Memo) := [(51, [n0_1_0m0])]
theorem n0_1_0mo : AllMem (memRun [] (lenL 2 0 8 ++ []) nN0) n0_1_0ms := ⟨⟨n0_1_0o0, trivial⟩, trivial⟩
theorem n0_1_0 : lawRunM 3 10 200 [.i, .i, .q, .i, .f, .q, .i, .b] [(0, 5, 0), (1, 3, 1)] (lenL 2 0 8 ++ []) nN0 n0_1_0ms = true := by kernel_rfl
def n0_2_0m0 : Memo := mkM [(.ag [(.i .i64 3), (.sl 50 0 4 (.u 4)), (.sl 49 0 3 (.u 1))]), (.c (.sl 66 0 3 (.u 1)))] [(49, nb0_4), (50, nb0_5), (66, nb0_6)] 129 (.c (.sl 131 0 3 (.n 3))) (131, [(.ef (.vf 104)), (.ef (.vf 105)), (.ef (.vf 106))]) 154
theorem n0_2_0o0 : mok [] (lenL 2 0 8 ++ []) nN0 51 n0_2_0m0 = true := by kernel_rfl
def n0_2_0ms : List (Nat × List Memo) := [(51, [n0_2_0m0])]
theorem n0_2_0mo : AllMem (memRun [] (lenL 2 0 8 ++ []) nN0) n0_2_0ms := ⟨⟨n0_2_0o0, trivial⟩, trivial⟩
theorem n0_2_0 : lawRunM 3 10 200 [.i, .i, .q, .i, .f, .q, .i, .b] [(0, 5, 0), (1, 3, 2)] (lenL 2 0 8 ++ []) nN0 n0_2_0ms = true := by kernel_rfl
def n0_0_1m0 : Memo := mkM [(.ag [(.i .i64 1), (.sl 38 0 3 (.u 4)), (.sl 37 0 1 (.u 1))]), (.c (.sl 49 0 1 (.u 1)))] [(37, nb0_7), (38, nb0_8), (49, [(.ef nm0_4)])] 99 (.c (.sl 101 0 1 (.n 1))) (101, [(.ef (.vf 118))]) 120
theorem n0_0_1o0 : mok [] (lenL 2 1 8 ++ []) nN0 51 n0_0_1m0 = true := by kernel_rfl
def n0_0_1ms : List (Nat × List Memo) := [(51, [n0_0_1m0])]
theorem n0_0_1mo : AllMem (memRun [] (lenL 2 1 8 ++ []) nN0) n0_0_1ms := ⟨⟨n0_0_1o0, trivial⟩, trivial⟩
theorem n0_0_1 : lawRunM 3 10 200 [.i, .i, .q, .i, .f, .q, .i, .b] [(0, 5, 0), (1, 3, 0)] (lenL 2 1 8 ++ []) nN0 n0_0_1ms = true := by kernel_rfl
def n0_1_1m0 : Memo := mkM [(.ag [(.i .i64 2), (.sl 44 0 4 (.u 4)), (.sl 43 0 2 (.u 1))]), (.c (.sl 59 0 2 (.u 1)))] [(43, nb0_9), (44, nb0_10), (59, nb0_3)] 116 (.c (.sl 118 0 2 (.n 2))) (118, [(.ef (.vf 126)), (.ef (.vf 127))]) 141
theorem n0_1_1o0 : mok [] (lenL 2 1 8 ++ []) nN0 51 n0_1_1m0 = true := by kernel_rfl
def n0_1_1ms : List (Nat × List Memo) := [(51, [n0_1_1m0])]
theorem n0_1_1mo : AllMem (memRun [] (lenL 2 1 8 ++ []) nN0) n0_1_1ms := ⟨⟨n0_1_1o0, trivial⟩, trivial⟩
theorem n0_1_1 : lawRunM 3 10 200 [.i, .i, .q, .i, .f, .q, .i, .b] [(0, 5, 0), (1, 3, 1)] (lenL 2 1 8 ++ []) nN0 n0_1_1ms = true := by kernel_rfl
def n0_2_1m0 : Memo := mkM [(.ag [(.i .i64 3), (.sl 50 0 5 (.u 4)), (.sl 49 0 3 (.u 1))]), (.c (.sl 69 0 3 (.u 1)))] [(49, nb0_11), (50, nb0_12), (69, nb0_6)] 133 (.c (.sl 135 0 3 (.n 3))) (135, [(.ef (.vf 136)), (.ef (.vf 137)), (.ef (.vf 138))]) 162
theorem n0_2_1o0 : mok [] (lenL 2 1 8 ++ []) nN0 51 n0_2_1m0 = true := by kernel_rfl
def n0_2_1ms : List (Nat × List Memo) := [(51, [n0_2_1m0])]
theorem n0_2_1mo : AllMem (memRun [] (lenL 2 1 8 ++ []) nN0) n0_2_1ms := ⟨⟨n0_2_1o0, trivial⟩, trivial⟩
theorem n0_2_1 : lawRunM 3 10 200 [.i, .i, .q, .i, .f, .q, .i, .b] [(0, 5, 0), (1, 3, 2)] (lenL 2 1 8 ++ []) nN0 n0_2_1ms = true := by kernel_rfl
def n0_0_2m0 : Memo := mkM [(.ag [(.i .i64 1), (.sl 38 0 4 (.u 4)), (.sl 37 0 1 (.u 1))]), (.c (.sl 52 0 1 (.u 1)))] [(37, nb0_13), (38, nb0_14), (52, [(.ef nm0_4)])] 103 (.c (.sl 105 0 1 (.n 1))) (105, [(.ef (.vf 148))]) 128
theorem n0_0_2o0 : mok [] (lenL 2 2 8 ++ []) nN0 51 n0_0_2m0 = true := by kernel_rfl
def n0_0_2ms : List (Nat × List Memo) := [(51, [n0_0_2m0])]
theorem n0_0_2mo : AllMem (memRun [] (lenL 2 2 8 ++ []) nN0) n0_0_2ms := ⟨⟨n0_0_2o0, trivial⟩, trivial⟩
theorem n0_0_2 : lawRunM 3 10 200 [.i, .i, .q, .i, .f, .q, .i, .b] [(0, 5, 0), (1, 3, 0)] (lenL 2 2 8 ++ []) nN0 n0_0_2ms = true := by kernel_rfl
def n0_1_2m0 : Memo := mkM [(.ag [(.i .i64 2), (.sl 44 0 5 (.u 4)), (.sl 43 0 2 (.u 1))]), (.c (.sl 62 0 2 (.u 1)))] [(43, nb0_15), (44, nb0_16), (62, nb0_3)] 120 (.c (.sl 122 0 2 (.n 2))) (122, [(.ef (.vf 157)), (.ef (.vf 158))]) 149
theorem n0_1_2o0 : mok [] (lenL 2 2 8 ++ []) nN0 51 n0_1_2m0 = true := by kernel_rfl
def n0_1_2ms : List (Nat × List Memo) := [(51, [n0_1_2m0])]
theorem n0_1_2mo : AllMem (memRun [] (lenL 2 2 8 ++ []) nN0) n0_1_2ms := ⟨⟨n0_1_2o0, trivial⟩, trivial⟩
theorem n0_1_2 : lawRunM 3 10 200 [.i, .i, .q, .i, .f, .q, .i, .b] [(0, 5, 0), (1, 3, 1)] (lenL 2 2 8 ++ []) nN0 n0_1_2ms = true := by kernel_rfl
def n0_2_2m0 : Memo := mkM [(.ag [(.i .i64 3), (.sl 50 0 6 (.u 4)), (.sl 49 0 3 (.u 1))]), (.c (.sl 72 0 3 (.u 1)))] [(49, nb0_17), (50, nb0_18), (72, nb0_6)] 137 (.c (.sl 139 0 3 (.n 3))) (139, [(.ef (.vf 167)), (.ef (.vf 168)), (.ef (.vf 169))]) 170
theorem n0_2_2o0 : mok [] (lenL 2 2 8 ++ []) nN0 51 n0_2_2m0 = true := by kernel_rfl
def n0_2_2ms : List (Nat × List Memo) := [(51, [n0_2_2m0])]
theorem n0_2_2mo : AllMem (memRun [] (lenL 2 2 8 ++ []) nN0) n0_2_2ms := ⟨⟨n0_2_2o0, trivial⟩, trivial⟩
theorem n0_2_2 : lawRunM 3 10 200 [.i, .i, .q, .i, .f, .q, .i, .b] [(0, 5, 0), (1, 3, 2)] (lenL 2 2 8 ++ []) nN0 n0_2_2ms = true := by kernel_rfl
end Go.Proofs.Ytkncchofgehnpaa
