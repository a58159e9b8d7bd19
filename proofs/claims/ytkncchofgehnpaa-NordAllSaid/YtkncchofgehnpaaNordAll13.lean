/-
  'NordAll': runs of it, part 13.
-/
import Derived.Test.YtkncchofgehnpaaNordAllt4
namespace Go.Proofs.Ytkncchofgehnpaa
open Go.RowKit Ex
set_option maxRecDepth 1000000
set_option maxHeartbeats 100000000
def nm13_0 : E := (.ib .quo .i64 (.vi 1) (.li 3))
def nm13_1 : E := (.ai 9 0 (.ci (.ib .add .i64 nm13_0 (.li 0)) (.ci (.li 3) .n0)))
def nm13_2 : E := (.ic .eql (.ai 9 0 (.ci (.at 2 0) (.ci (.li 11) .n0))) (.li 0))
def nm13_3 : E := (.ib .add .i64 (.li 2) (.ai 9 0 (.ci (.at 2 0) (.ci (.li 3) .n0))))
def nm13_4 : E := (.ib .quo .i64 (.at 2 0) (.li 4))
def nm13_5 : E := (.ib .quo .i64 (.at 2 0) (.li 40))
def nm13_6 : E := (.ic .eql (.ai 9 0 (.ci (.at 2 1) (.ci (.li 11) .n0))) (.li 0))
def nm13_7 : E := (.ib .add .i64 (.li 2) (.ai 9 0 (.ci (.at 2 1) (.ci (.li 3) .n0))))
def nm13_8 : E := (.ib .quo .i64 (.at 2 1) (.li 4))
def nm13_9 : E := (.ib .quo .i64 (.at 2 1) (.li 40))
def nm13_10 : E := (.ic .eql (.ai 9 0 (.ci (.at 2 2) (.ci (.li 11) .n0))) (.li 0))
def nm13_11 : E := (.ib .add .i64 (.li 2) (.ai 9 0 (.ci (.at 2 2) (.ci (.li 3) .n0))))
def nm13_12 : E := (.ib .quo .i64 (.at 2 2) (.li 4))
def nm13_13 : E := (.ib .quo .i64 (.at 2 2) (.li 40))
def nm13_14 : E := (.ai 9 0 (.ci (.ib .add .i64 nm13_0 (.li 1)) (.ci (.li 3) .n0)))
def nm13_15 : E := (.ai 9 0 (.ci (.ib .add .i64 nm13_0 (.li 2)) (.ci (.li 3) .n0)))
def nm13_16 : E := (.ic .eql (.ai 9 0 (.ci (.at 2 3) (.ci (.li 11) .n0))) (.li 0))
def nm13_17 : E := (.ib .add .i64 (.li 2) (.ai 9 0 (.ci (.at 2 3) (.ci (.li 3) .n0))))
def nm13_18 : E := (.ib .quo .i64 (.at 2 3) (.li 4))
def nm13_19 : E := (.ib .quo .i64 (.at 2 3) (.li 40))
def nm13_20 : E := (.ic .eql (.ai 9 0 (.ci (.at 2 4) (.ci (.li 11) .n0))) (.li 0))
def nm13_21 : E := (.ib .add .i64 (.li 2) (.ai 9 0 (.ci (.at 2 4) (.ci (.li 3) .n0))))
def nm13_22 : E := (.ib .quo .i64 (.at 2 4) (.li 4))
def nm13_23 : E := (.ib .quo .i64 (.at 2 4) (.li 40))
def nk13_0 : Blk := [(.i .i64 1), (.i .i64 0), (.i .i64 0), (.f 0)]
def nk13_1 : Blk := [(.i .i64 0), (.i .i64 0), (.i .i64 0), (.ef (.fb .quo (.i2f (.ib .sub .i64 (.ai 9 0 (.ci (.vi 1) (.ci (.li 17) .n0))) (.li 8))) (.lf 4616189618054758400)))]
def nk13_2 : Blk := [(.ei .i64 (.ti nm13_2 (.li 0) (.ti (.vb 7) (.ti (.ic .eql (.ai 9 0 (.ci (.at 2 0) (.ci (.li 7) .n0))) (.li 0)) (.li 5) nm13_3) nm13_3))), (.ei .i64 (.ti nm13_2 (.li 0) (.ai 9 0 (.ci nm13_4 (.ci (.li 2) .n0))))), (.ei .i64 (.ti nm13_2 (.li 0) (.ai 9 0 (.ci nm13_5 (.ci (.li 2) .n0))))), (.ef (.tf nm13_2 (.fb .quo (.i2f (.ib .sub .i64 (.ai 9 0 (.ci (.ib .quo .i64 (.at 2 0) (.li 11)) (.ci (.li 33) .n0))) (.li 16))) (.lf 4620693217682128896)) (.lf 0)))]
def nk13_3 : Blk := [(.ei .i64 (.ti nm13_6 (.li 0) (.ti (.vb 7) (.ti (.ic .eql (.ai 9 0 (.ci (.at 2 1) (.ci (.li 7) .n0))) (.li 0)) (.li 5) nm13_7) nm13_7))), (.ei .i64 (.ti nm13_6 (.li 0) (.ai 9 0 (.ci nm13_8 (.ci (.li 3) .n0))))), (.ei .i64 (.ti nm13_6 (.li 0) (.ai 9 0 (.ci nm13_9 (.ci (.li 3) .n0))))), (.ef (.tf nm13_6 (.fb .quo (.i2f (.ib .sub .i64 (.ai 9 0 (.ci (.ib .quo .i64 (.at 2 1) (.li 11)) (.ci (.li 33) .n0))) (.li 16))) (.lf 4620693217682128896)) (.lf 0)))]
def nk13_4 : Blk := [(.ei .i64 (.ti nm13_10 (.li 0) (.ti (.vb 7) (.ti (.ic .eql (.ai 9 0 (.ci (.at 2 2) (.ci (.li 7) .n0))) (.li 0)) (.li 5) nm13_11) nm13_11))), (.ei .i64 (.ti nm13_10 (.li 0) (.ai 9 0 (.ci nm13_12 (.ci (.li 4) .n0))))), (.ei .i64 (.ti nm13_10 (.li 0) (.ai 9 0 (.ci nm13_13 (.ci (.li 4) .n0))))), (.ef (.tf nm13_10 (.fb .quo (.i2f (.ib .sub .i64 (.ai 9 0 (.ci (.ib .quo .i64 (.at 2 2) (.li 11)) (.ci (.li 33) .n0))) (.li 16))) (.lf 4620693217682128896)) (.lf 0)))]
def nk13_5 : Blk := [(.i .i64 1), (.i .i64 1), (.i .i64 0), (.f 0)]
def nk13_6 : Blk := [(.ei .i64 (.ti nm13_2 (.li 0) (.ti (.vb 7) (.ti (.ic .eql (.ai 9 0 (.ci (.at 2 0) (.ci (.li 7) .n0))) (.li 0)) (.li 5) nm13_3) nm13_3))), (.ei .i64 (.ti nm13_2 (.li 0) (.ai 9 0 (.ci nm13_4 (.ci (.li 3) .n0))))), (.ei .i64 (.ti nm13_2 (.li 0) (.ai 9 0 (.ci nm13_5 (.ci (.li 3) .n0))))), (.ef (.tf nm13_2 (.fb .quo (.i2f (.ib .sub .i64 (.ai 9 0 (.ci (.ib .quo .i64 (.at 2 0) (.li 11)) (.ci (.li 33) .n0))) (.li 16))) (.lf 4620693217682128896)) (.lf 0)))]
def nk13_7 : Blk := [(.ei .i64 (.ti nm13_6 (.li 0) (.ti (.vb 7) (.ti (.ic .eql (.ai 9 0 (.ci (.at 2 1) (.ci (.li 7) .n0))) (.li 0)) (.li 5) nm13_7) nm13_7))), (.ei .i64 (.ti nm13_6 (.li 0) (.ai 9 0 (.ci nm13_8 (.ci (.li 4) .n0))))), (.ei .i64 (.ti nm13_6 (.li 0) (.ai 9 0 (.ci nm13_9 (.ci (.li 4) .n0))))), (.ef (.tf nm13_6 (.fb .quo (.i2f (.ib .sub .i64 (.ai 9 0 (.ci (.ib .quo .i64 (.at 2 1) (.li 11)) (.ci (.li 33) .n0))) (.li 16))) (.lf 4620693217682128896)) (.lf 0)))]
def nk13_8 : Blk := [(.ei .i64 (.ti nm13_10 (.li 0) (.ti (.vb 7) (.ti (.ic .eql (.ai 9 0 (.ci (.at 2 2) (.ci (.li 7) .n0))) (.li 0)) (.li 5) nm13_11) nm13_11))), (.ei .i64 (.ti nm13_10 (.li 0) (.ai 9 0 (.ci nm13_12 (.ci (.li 5) .n0))))), (.ei .i64 (.ti nm13_10 (.li 0) (.ai 9 0 (.ci nm13_13 (.ci (.li 5) .n0))))), (.ef (.tf nm13_10 (.fb .quo (.i2f (.ib .sub .i64 (.ai 9 0 (.ci (.ib .quo .i64 (.at 2 2) (.li 11)) (.ci (.li 33) .n0))) (.li 16))) (.lf 4620693217682128896)) (.lf 0)))]
def nk13_9 : Blk := [(.i .i64 1), (.i .i64 2), (.i .i64 0), (.f 0)]
def nk13_10 : Blk := [(.ei .i64 (.ti nm13_2 (.li 0) (.ti (.vb 7) (.ti (.ic .eql (.ai 9 0 (.ci (.at 2 0) (.ci (.li 7) .n0))) (.li 0)) (.li 5) nm13_3) nm13_3))), (.ei .i64 (.ti nm13_2 (.li 0) (.ai 9 0 (.ci nm13_4 (.ci (.li 4) .n0))))), (.ei .i64 (.ti nm13_2 (.li 0) (.ai 9 0 (.ci nm13_5 (.ci (.li 4) .n0))))), (.ef (.tf nm13_2 (.fb .quo (.i2f (.ib .sub .i64 (.ai 9 0 (.ci (.ib .quo .i64 (.at 2 0) (.li 11)) (.ci (.li 33) .n0))) (.li 16))) (.lf 4620693217682128896)) (.lf 0)))]
def nk13_11 : Blk := [(.ei .i64 (.ti nm13_6 (.li 0) (.ti (.vb 7) (.ti (.ic .eql (.ai 9 0 (.ci (.at 2 1) (.ci (.li 7) .n0))) (.li 0)) (.li 5) nm13_7) nm13_7))), (.ei .i64 (.ti nm13_6 (.li 0) (.ai 9 0 (.ci nm13_8 (.ci (.li 5) .n0))))), (.ei .i64 (.ti nm13_6 (.li 0) (.ai 9 0 (.ci nm13_9 (.ci (.li 5) .n0))))), (.ef (.tf nm13_6 (.fb .quo (.i2f (.ib .sub .i64 (.ai 9 0 (.ci (.ib .quo .i64 (.at 2 1) (.li 11)) (.ci (.li 33) .n0))) (.li 16))) (.lf 4620693217682128896)) (.lf 0)))]
def nk13_12 : Blk := [(.ei .i64 (.ti nm13_10 (.li 0) (.ti (.vb 7) (.ti (.ic .eql (.ai 9 0 (.ci (.at 2 2) (.ci (.li 7) .n0))) (.li 0)) (.li 5) nm13_11) nm13_11))), (.ei .i64 (.ti nm13_10 (.li 0) (.ai 9 0 (.ci nm13_12 (.ci (.li 6) .n0))))), (.ei .i64 (.ti nm13_10 (.li 0) (.ai 9 0 (.ci nm13_13 (.ci (.li 6) .n0))))), (.ef (.tf nm13_10 (.fb .quo (.i2f (.ib .sub .i64 (.ai 9 0 (.ci (.ib .quo .i64 (.at 2 2) (.li 11)) (.ci (.li 33) .n0))) (.li 16))) (.lf 4620693217682128896)) (.lf 0)))]
def nk13_13 : Blk := [(.ei .i64 (.ti nm13_16 (.li 0) (.ti (.vb 7) (.ti (.ic .eql (.ai 9 0 (.ci (.at 2 3) (.ci (.li 7) .n0))) (.li 0)) (.li 5) nm13_17) nm13_17))), (.ei .i64 (.ti nm13_16 (.li 0) (.ai 9 0 (.ci nm13_18 (.ci (.li 5) .n0))))), (.ei .i64 (.ti nm13_16 (.li 0) (.ai 9 0 (.ci nm13_19 (.ci (.li 5) .n0))))), (.ef (.tf nm13_16 (.fb .quo (.i2f (.ib .sub .i64 (.ai 9 0 (.ci (.ib .quo .i64 (.at 2 3) (.li 11)) (.ci (.li 33) .n0))) (.li 16))) (.lf 4620693217682128896)) (.lf 0)))]
def nk13_14 : Blk := [(.ei .i64 (.ti nm13_16 (.li 0) (.ti (.vb 7) (.ti (.ic .eql (.ai 9 0 (.ci (.at 2 3) (.ci (.li 7) .n0))) (.li 0)) (.li 5) nm13_17) nm13_17))), (.ei .i64 (.ti nm13_16 (.li 0) (.ai 9 0 (.ci nm13_18 (.ci (.li 6) .n0))))), (.ei .i64 (.ti nm13_16 (.li 0) (.ai 9 0 (.ci nm13_19 (.ci (.li 6) .n0))))), (.ef (.tf nm13_16 (.fb .quo (.i2f (.ib .sub .i64 (.ai 9 0 (.ci (.ib .quo .i64 (.at 2 3) (.li 11)) (.ci (.li 33) .n0))) (.li 16))) (.lf 4620693217682128896)) (.lf 0)))]
def nk13_15 : Blk := [(.ei .i64 (.ti nm13_16 (.li 0) (.ti (.vb 7) (.ti (.ic .eql (.ai 9 0 (.ci (.at 2 3) (.ci (.li 7) .n0))) (.li 0)) (.li 5) nm13_17) nm13_17))), (.ei .i64 (.ti nm13_16 (.li 0) (.ai 9 0 (.ci nm13_18 (.ci (.li 7) .n0))))), (.ei .i64 (.ti nm13_16 (.li 0) (.ai 9 0 (.ci nm13_19 (.ci (.li 7) .n0))))), (.ef (.tf nm13_16 (.fb .quo (.i2f (.ib .sub .i64 (.ai 9 0 (.ci (.ib .quo .i64 (.at 2 3) (.li 11)) (.ci (.li 33) .n0))) (.li 16))) (.lf 4620693217682128896)) (.lf 0)))]
def nb13_0 : Blk := [(.ei .i64 (.ib .sub .i64 (.li 4) nm13_1))]
def nb13_1 : Blk := nk13_0 ++ nk13_1 ++ nk13_2 ++ nk13_3 ++ nk13_4
def nb13_2 : Blk := [(.ef (.fb .quo (.i2f (.ib .sub .i64 (.ai 9 0 (.ci (.ti (.ic .lss (.li 0) (.vl 5)) (.at 5 0) (.li 0)) (.ci (.li 65) .n0))) (.li 32))) (.lf 4620693217682128896)))]
def nb13_3 : Blk := [(.ei .i64 (.ib .sub .i64 (.li 5) nm13_1)), (.ei .i64 (.ib .sub .i64 (.li 5) nm13_14))]
def nb13_4 : Blk := nk13_0 ++ nk13_5 ++ nk13_1 ++ nk13_6 ++ nk13_7 ++ nk13_8
def nb13_5 : Blk := [(.ef (.fb .quo (.i2f (.ib .sub .i64 (.ai 9 0 (.ci (.ti (.ic .lss (.li 0) (.vl 5)) (.at 5 0) (.li 0)) (.ci (.li 65) .n0))) (.li 32))) (.lf 4620693217682128896))), (.ef (.fb .quo (.i2f (.ib .sub .i64 (.ai 9 0 (.ci (.ti (.ic .lss (.li 1) (.vl 5)) (.at 5 1) (.li 1)) (.ci (.li 65) .n0))) (.li 32))) (.lf 4620693217682128896)))]
def nb13_6 : Blk := [(.ei .i64 (.ib .sub .i64 (.li 6) nm13_1)), (.ei .i64 (.ib .sub .i64 (.li 6) nm13_14)), (.ei .i64 (.ib .sub .i64 (.li 6) nm13_15))]
def nb13_7 : Blk := nk13_0 ++ nk13_5 ++ nk13_9 ++ nk13_1 ++ nk13_10 ++ nk13_11 ++ nk13_12
def nb13_8 : Blk := [(.ef (.fb .quo (.i2f (.ib .sub .i64 (.ai 9 0 (.ci (.ti (.ic .lss (.li 0) (.vl 5)) (.at 5 0) (.li 0)) (.ci (.li 65) .n0))) (.li 32))) (.lf 4620693217682128896))), (.ef (.fb .quo (.i2f (.ib .sub .i64 (.ai 9 0 (.ci (.ti (.ic .lss (.li 1) (.vl 5)) (.at 5 1) (.li 1)) (.ci (.li 65) .n0))) (.li 32))) (.lf 4620693217682128896))), (.ef (.fb .quo (.i2f (.ib .sub .i64 (.ai 9 0 (.ci (.ti (.ic .lss (.li 2) (.vl 5)) (.at 5 2) (.li 2)) (.ci (.li 65) .n0))) (.li 32))) (.lf 4620693217682128896)))]
def nb13_9 : Blk := [(.ei .i64 (.ib .sub .i64 (.li 5) nm13_1))]
def nb13_10 : Blk := nk13_0 ++ nk13_1 ++ nk13_2 ++ nk13_3 ++ nk13_4 ++ nk13_13
def nb13_11 : Blk := [(.ei .i64 (.ib .sub .i64 (.li 6) nm13_1)), (.ei .i64 (.ib .sub .i64 (.li 6) nm13_14))]
def nb13_12 : Blk := nk13_0 ++ nk13_5 ++ nk13_1 ++ nk13_6 ++ nk13_7 ++ nk13_8 ++ nk13_14
def nb13_13 : Blk := [(.ei .i64 (.ib .sub .i64 (.li 7) nm13_1)), (.ei .i64 (.ib .sub .i64 (.li 7) nm13_14)), (.ei .i64 (.ib .sub .i64 (.li 7) nm13_15))]
def nb13_14 : Blk := nk13_0 ++ nk13_5 ++ nk13_9 ++ nk13_1 ++ nk13_10 ++ nk13_11 ++ nk13_12 ++ nk13_15
def nb13_15 : Blk := [(.ei .i64 (.ib .sub .i64 (.li 6) nm13_1))]
def nb13_16 : Blk := nk13_0 ++ nk13_1 ++ nk13_2 ++ nk13_3 ++ nk13_4 ++ nk13_13 ++ [(.ei .i64 (.ti nm13_20 (.li 0) (.ti (.vb 7) (.ti (.ic .eql (.ai 9 0 (.ci (.at 2 4) (.ci (.li 7) .n0))) (.li 0)) (.li 5) nm13_21) nm13_21))), (.ei .i64 (.ti nm13_20 (.li 0) (.ai 9 0 (.ci nm13_22 (.ci (.li 6) .n0))))), (.ei .i64 (.ti nm13_20 (.li 0) (.ai 9 0 (.ci nm13_23 (.ci (.li 6) .n0))))), (.ef (.tf nm13_20 (.fb .quo (.i2f (.ib .sub .i64 (.ai 9 0 (.ci (.ib .quo .i64 (.at 2 4) (.li 11)) (.ci (.li 33) .n0))) (.li 16))) (.lf 4620693217682128896)) (.lf 0)))]
def nb13_17 : Blk := [(.ei .i64 (.ib .sub .i64 (.li 7) nm13_1)), (.ei .i64 (.ib .sub .i64 (.li 7) nm13_14))]
def nb13_18 : Blk := nk13_0 ++ nk13_5 ++ nk13_1 ++ nk13_6 ++ nk13_7 ++ nk13_8 ++ nk13_14 ++ [(.ei .i64 (.ti nm13_20 (.li 0) (.ti (.vb 7) (.ti (.ic .eql (.ai 9 0 (.ci (.at 2 4) (.ci (.li 7) .n0))) (.li 0)) (.li 5) nm13_21) nm13_21))), (.ei .i64 (.ti nm13_20 (.li 0) (.ai 9 0 (.ci nm13_22 (.ci (.li 7) .n0))))), (.ei .i64 (.ti nm13_20 (.li 0) (.ai 9 0 (.ci nm13_23 (.ci (.li 7) .n0))))), (.ef (.tf nm13_20 (.fb .quo (.i2f (.ib .sub .i64 (.ai 9 0 (.ci (.ib .quo .i64 (.at 2 4) (.li 11)) (.ci (.li 33) .n0))) (.li 16))) (.lf 4620693217682128896)) (.lf 0)))]
def nb13_19 : Blk := [(.ei .i64 (.ib .sub .i64 (.li 8) nm13_1)), (.ei .i64 (.ib .sub .i64 (.li 8) nm13_14)), (.ei .i64 (.ib .sub .i64 (.li 8) nm13_15))]
def nb13_20 : Blk := nk13_0 ++ nk13_5 ++ nk13_9 ++ nk13_1 ++ nk13_10 ++ nk13_11 ++ nk13_12 ++ nk13_15 ++ [(.ei .i64 (.ti nm13_20 (.li 0) (.ti (.vb 7) (.ti (.ic .eql (.ai 9 0 (.ci (.at 2 4) (.ci (.li 7) .n0))) (.li 0)) (.li 5) nm13_21) nm13_21))), (.ei .i64 (.ti nm13_20 (.li 0) (.ai 9 0 (.ci nm13_22 (.ci (.li 8) .n0))))), (.ei .i64 (.ti nm13_20 (.li 0) (.ai 9 0 (.ci nm13_23 (.ci (.li 8) .n0))))), (.ef (.tf nm13_20 (.fb .quo (.i2f (.ib .sub .i64 (.ai 9 0 (.ci (.ib .quo .i64 (.at 2 4) (.li 11)) (.ci (.li 33) .n0))) (.li 16))) (.lf 4620693217682128896)) (.lf 0)))]
def n4_0_3m0 : Memo := mkM [(.ag [(.i .i64 1), (.sl 82 0 5 (.u 4)), (.sl 81 0 1 (.u 1))]), (.c (.sl 99 0 1 (.u 1)))] [(81, nb13_0), (82, nb13_1), (99, nb13_2)] 199 (.c (.sl 201 0 1 (.n 1))) (201, [(.ef (.vf 179))]) 228
theorem n4_0_3o0 : mok [] (lenL 2 3 8 ++ []) nN4 51 n4_0_3m0 = true := by kernel_rfl
def n4_0_3ms : List (Nat × List Memo) := [(51, [n4_0_3m0])]
theorem n4_0_3mo : AllMem (memRun [] (lenL 2 3 8 ++ []) nN4) n4_0_3ms := ⟨⟨n4_0_3o0, trivial⟩, trivial⟩
theorem n4_0_3 : lawRunM 3 10 200 [.i, .i, .q, .i, .f, .q, .i, .b] [(0, 5, 4), (1, 3, 0)] (lenL 2 3 8 ++ []) nN4 n4_0_3ms = true := by kernel_rfl
def n4_1_3m0 : Memo := mkM [(.ag [(.i .i64 2), (.sl 96 0 6 (.u 4)), (.sl 95 0 2 (.u 1))]), (.c (.sl 117 0 2 (.u 1)))] [(95, nb13_3), (96, nb13_4), (117, nb13_5)] 224 (.c (.sl 226 0 2 (.n 2))) (226, [(.ef (.vf 188)), (.ef (.vf 189))]) 257
theorem n4_1_3o0 : mok [] (lenL 2 3 8 ++ []) nN4 51 n4_1_3m0 = true := by kernel_rfl
def n4_1_3ms : List (Nat × List Memo) := [(51, [n4_1_3m0])]
theorem n4_1_3mo : AllMem (memRun [] (lenL 2 3 8 ++ []) nN4) n4_1_3ms := ⟨⟨n4_1_3o0, trivial⟩, trivial⟩
theorem n4_1_3 : lawRunM 3 10 200 [.i, .i, .q, .i, .f, .q, .i, .b] [(0, 5, 4), (1, 3, 1)] (lenL 2 3 8 ++ []) nN4 n4_1_3ms = true := by kernel_rfl
def n4_2_3m0 : Memo := mkM [(.ag [(.i .i64 3), (.sl 110 0 7 (.u 4)), (.sl 109 0 3 (.u 1))]), (.c (.sl 135 0 3 (.u 1)))] [(109, nb13_6), (110, nb13_7), (135, nb13_8)] 249 (.c (.sl 251 0 3 (.n 3))) (251, [(.ef (.vf 198)), (.ef (.vf 199)), (.ef (.vf 200))]) 286
theorem n4_2_3o0 : mok [] (lenL 2 3 8 ++ []) nN4 51 n4_2_3m0 = true := by kernel_rfl
def n4_2_3ms : List (Nat × List Memo) := [(51, [n4_2_3m0])]
theorem n4_2_3mo : AllMem (memRun [] (lenL 2 3 8 ++ []) nN4) n4_2_3ms := ⟨⟨n4_2_3o0, trivial⟩, trivial⟩
theorem n4_2_3 : lawRunM 3 10 200 [.i, .i, .q, .i, .f, .q, .i, .b] [(0, 5, 4), (1, 3, 2)] (lenL 2 3 8 ++ []) nN4 n4_2_3ms = true := by kernel_rfl
def n4_0_4m0 : Memo := mkM [(.ag [(.i .i64 1), (.sl 82 0 6 (.u 4)), (.sl 81 0 1 (.u 1))]), (.c (.sl 102 0 1 (.u 1)))] [(81, nb13_9), (82, nb13_10), (102, nb13_2)] 203 (.c (.sl 205 0 1 (.n 1))) (205, [(.ef (.vf 212))]) 236
theorem n4_0_4o0 : mok [] (lenL 2 4 8 ++ []) nN4 51 n4_0_4m0 = true := by kernel_rfl
def n4_0_4ms : List (Nat × List Memo) := [(51, [n4_0_4m0])]
theorem n4_0_4mo : AllMem (memRun [] (lenL 2 4 8 ++ []) nN4) n4_0_4ms := ⟨⟨n4_0_4o0, trivial⟩, trivial⟩
theorem n4_0_4 : lawRunM 3 10 200 [.i, .i, .q, .i, .f, .q, .i, .b] [(0, 5, 4), (1, 3, 0)] (lenL 2 4 8 ++ []) nN4 n4_0_4ms = true := by kernel_rfl
def n4_1_4m0 : Memo := mkM [(.ag [(.i .i64 2), (.sl 96 0 7 (.u 4)), (.sl 95 0 2 (.u 1))]), (.c (.sl 120 0 2 (.u 1)))] [(95, nb13_11), (96, nb13_12), (120, nb13_5)] 228 (.c (.sl 230 0 2 (.n 2))) (230, [(.ef (.vf 221)), (.ef (.vf 222))]) 265
theorem n4_1_4o0 : mok [] (lenL 2 4 8 ++ []) nN4 51 n4_1_4m0 = true := by kernel_rfl
def n4_1_4ms : List (Nat × List Memo) := [(51, [n4_1_4m0])]
theorem n4_1_4mo : AllMem (memRun [] (lenL 2 4 8 ++ []) nN4) n4_1_4ms := ⟨⟨n4_1_4o0, trivial⟩, trivial⟩
theorem n4_1_4 : lawRunM 3 10 200 [.i, .i, .q, .i, .f, .q, .i, .b] [(0, 5, 4), (1, 3, 1)] (lenL 2 4 8 ++ []) nN4 n4_1_4ms = true := by kernel_rfl
def n4_2_4m0 : Memo := mkM [(.ag [(.i .i64 3), (.sl 110 0 8 (.u 4)), (.sl 109 0 3 (.u 1))]), (.c (.sl 138 0 3 (.u 1)))] [(109, nb13_13), (110, nb13_14), (138, nb13_8)] 253 (.c (.sl 255 0 3 (.n 3))) (255, [(.ef (.vf 231)), (.ef (.vf 232)), (.ef (.vf 233))]) 294
theorem n4_2_4o0 : mok [] (lenL 2 4 8 ++ []) nN4 51 n4_2_4m0 = true := by kernel_rfl
def n4_2_4ms : List (Nat × List Memo) := [(51, [n4_2_4m0])]
theorem n4_2_4mo : AllMem (memRun [] (lenL 2 4 8 ++ []) nN4) n4_2_4ms := ⟨⟨n4_2_4o0, trivial⟩, trivial⟩
theorem n4_2_4 : lawRunM 3 10 200 [.i, .i, .q, .i, .f, .q, .i, .b] [(0, 5, 4), (1, 3, 2)] (lenL 2 4 8 ++ []) nN4 n4_2_4ms = true := by kernel_rfl
def n4_0_5m0 : Memo := mkM [(.ag [(.i .i64 1), (.sl 82 0 7 (.u 4)), (.sl 81 0 1 (.u 1))]), (.c (.sl 105 0 1 (.u 1)))] [(81, nb13_15), (82, nb13_16), (105, nb13_2)] 207 (.c (.sl 209 0 1 (.n 1))) (209, [(.ef (.vf 249))]) 244
theorem n4_0_5o0 : mok [] (lenL 2 5 8 ++ []) nN4 51 n4_0_5m0 = true := by kernel_rfl
def n4_0_5ms : List (Nat × List Memo) := [(51, [n4_0_5m0])]
theorem n4_0_5mo : AllMem (memRun [] (lenL 2 5 8 ++ []) nN4) n4_0_5ms := ⟨⟨n4_0_5o0, trivial⟩, trivial⟩
theorem n4_0_5 : lawRunM 3 10 200 [.i, .i, .q, .i, .f, .q, .i, .b] [(0, 5, 4), (1, 3, 0)] (lenL 2 5 8 ++ []) nN4 n4_0_5ms = true := by kernel_rfl
def n4_1_5m0 : Memo := mkM [(.ag [(.i .i64 2), (.sl 96 0 8 (.u 4)), (.sl 95 0 2 (.u 1))]), (.c (.sl 123 0 2 (.u 1)))] [(95, nb13_17), (96, nb13_18), (123, nb13_5)] 232 (.c (.sl 234 0 2 (.n 2))) (234, [(.ef (.vf 258)), (.ef (.vf 259))]) 273
theorem n4_1_5o0 : mok [] (lenL 2 5 8 ++ []) nN4 51 n4_1_5m0 = true := by kernel_rfl
def n4_1_5ms : List (Nat × List Memo) := [(51, [n4_1_5m0])]
theorem n4_1_5mo : AllMem (memRun [] (lenL 2 5 8 ++ []) nN4) n4_1_5ms := ⟨⟨n4_1_5o0, trivial⟩, trivial⟩
theorem n4_1_5 : lawRunM 3 10 200 [.i, .i, .q, .i, .f, .q, .i, .b] [(0, 5, 4), (1, 3, 1)] (lenL 2 5 8 ++ []) nN4 n4_1_5ms = true := by kernel_rfl
def n4_2_5m0 : Memo := mkM [(.ag [(.i .i64 3), (.sl 110 0 9 (.u 4)), (.sl 109 0 3 (.u 1))]), (.c (.sl 141 0 3 (.u 1)))] [(109, nb13_19), (110, nb13_20), (141, nb13_8)] 257 (.c (.sl 259 0 3 (.n 3))) (259, [(.ef (.vf 268)), (.ef (.vf 269)), (.ef (.vf 270))]) 302
theorem n4_2_5o0 : mok [] (lenL 2 5 8 ++ []) nN4 51 n4_2_5m0 = true := by kernel_rfl
def n4_2_5ms : List (Nat × List Memo) := [(51, [n4_2_5m0])]
theorem n4_2_5mo : AllMem (memRun [] (lenL 2 5 8 ++ []) nN4) n4_2_5ms := ⟨⟨n4_2_5o0, trivial⟩, trivial⟩
theorem n4_2_5 : lawRunM 3 10 200 [.i, .i, .q, .i, .f, .q, .i, .b] [(0, 5, 4), (1, 3, 2)] (lenL 2 5 8 ++ []) nN4 n4_2_5ms = true := by kernel_rfl
end Go.Proofs.Ytkncchofgehnpaa
