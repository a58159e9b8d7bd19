/-
  'NordAll': runs of it, part 1.
-/
import Derived.Test.YtkncchofgehnpaaNordAllt0
namespace Go.Proofs.Ytkncchofgehnpaa
open Go.RowKit Ex
set_option maxRecDepth 1000000
set_option maxHeartbeats 100000000
def nm1_0 : E := (.ib .quo .i64 (.vi 1) (.li 3))
def nm1_1 : E := (.ai 9 0 (.ci (.ib .add .i64 nm1_0 (.li 0)) (.ci (.li 3) .n0)))
def nm1_2 : E := (.ic .eql (.ai 9 0 (.ci (.at 2 0) (.ci (.li 11) .n0))) (.li 0))
def nm1_3 : E := (.ib .add .i64 (.li 2) (.ai 9 0 (.ci (.at 2 0) (.ci (.li 3) .n0))))
def nm1_4 : E := (.ib .quo .i64 (.at 2 0) (.li 4))
def nm1_5 : E := (.ib .quo .i64 (.at 2 0) (.li 40))
def nm1_6 : E := (.ic .eql (.ai 9 0 (.ci (.at 2 1) (.ci (.li 11) .n0))) (.li 0))
def nm1_7 : E := (.ib .add .i64 (.li 2) (.ai 9 0 (.ci (.at 2 1) (.ci (.li 3) .n0))))
def nm1_8 : E := (.ib .quo .i64 (.at 2 1) (.li 4))
def nm1_9 : E := (.ib .quo .i64 (.at 2 1) (.li 40))
def nm1_10 : E := (.ic .eql (.ai 9 0 (.ci (.at 2 2) (.ci (.li 11) .n0))) (.li 0))
def nm1_11 : E := (.ib .add .i64 (.li 2) (.ai 9 0 (.ci (.at 2 2) (.ci (.li 3) .n0))))
def nm1_12 : E := (.ib .quo .i64 (.at 2 2) (.li 4))
def nm1_13 : E := (.ib .quo .i64 (.at 2 2) (.li 40))
def nm1_14 : E := (.ai 9 0 (.ci (.ib .add .i64 nm1_0 (.li 1)) (.ci (.li 3) .n0)))
def nm1_15 : E := (.ai 9 0 (.ci (.ib .add .i64 nm1_0 (.li 2)) (.ci (.li 3) .n0)))
def nm1_16 : E := (.ic .eql (.ai 9 0 (.ci (.at 2 3) (.ci (.li 11) .n0))) (.li 0))
def nm1_17 : E := (.ib .add .i64 (.li 2) (.ai 9 0 (.ci (.at 2 3) (.ci (.li 3) .n0))))
def nm1_18 : E := (.ib .quo .i64 (.at 2 3) (.li 4))
def nm1_19 : E := (.ib .quo .i64 (.at 2 3) (.li 40))
def nm1_20 : E := (.ic .eql (.ai 9 0 (.ci (.at 2 4) (.ci (.li 11) .n0))) (.li 0))
def nm1_21 : E := (.ib .add .i64 (.li 2) (.ai 9 0 (.ci (.at 2 4) (.ci (.li 3) .n0))))
def nm1_22 : E := (.ib .quo .i64 (.at 2 4) (.li 4))
def nm1_23 : E := (.ib .quo .i64 (.at 2 4) (.li 40))
def nk1_0 : Blk := [(.i .i64 1), (.i .i64 0), (.i .i64 0), (.f 0)]
def nk1_1 : Blk := [(.i .i64 0), (.i .i64 0), (.i .i64 0), (.ef (.fb .quo (.i2f (.ib .sub .i64 (.ai 9 0 (.ci (.vi 1) (.ci (.li 17) .n0))) (.li 8))) (.lf 4616189618054758400)))]
def nk1_2 : Blk := [(.ei .i64 (.ti nm1_2 (.li 0) (.ti (.vb 7) (.ti (.ic .eql (.ai 9 0 (.ci (.at 2 0) (.ci (.li 7) .n0))) (.li 0)) (.li 5) nm1_3) nm1_3))), (.ei .i64 (.ti nm1_2 (.li 0) (.ai 9 0 (.ci nm1_4 (.ci (.li 2) .n0))))), (.ei .i64 (.ti nm1_2 (.li 0) (.ai 9 0 (.ci nm1_5 (.ci (.li 2) .n0))))), (.ef (.tf nm1_2 (.fb .quo (.i2f (.ib .sub .i64 (.ai 9 0 (.ci (.ib .quo .i64 (.at 2 0) (.li 11)) (.ci (.li 33) .n0))) (.li 16))) (.lf 4620693217682128896)) (.lf 0)))]
def nk1_3 : Blk := [(.ei .i64 (.ti nm1_6 (.li 0) (.ti (.vb 7) (.ti (.ic .eql (.ai 9 0 (.ci (.at 2 1) (.ci (.li 7) .n0))) (.li 0)) (.li 5) nm1_7) nm1_7))), (.ei .i64 (.ti nm1_6 (.li 0) (.ai 9 0 (.ci nm1_8 (.ci (.li 3) .n0))))), (.ei .i64 (.ti nm1_6 (.li 0) (.ai 9 0 (.ci nm1_9 (.ci (.li 3) .n0))))), (.ef (.tf nm1_6 (.fb .quo (.i2f (.ib .sub .i64 (.ai 9 0 (.ci (.ib .quo .i64 (.at 2 1) (.li 11)) (.ci (.li 33) .n0))) (.li 16))) (.lf 4620693217682128896)) (.lf 0)))]
def nk1_4 : Blk := [(.ei .i64 (.ti nm1_10 (.li 0) (.ti (.vb 7) (.ti (.ic .eql (.ai 9 0 (.ci (.at 2 2) (.ci (.li 7) .n0))) (.li 0)) (.li 5) nm1_11) nm1_11))), (.ei .i64 (.ti nm1_10 (.li 0) (.ai 9 0 (.ci nm1_12 (.ci (.li 4) .n0))))), (.ei .i64 (.ti nm1_10 (.li 0) (.ai 9 0 (.ci nm1_13 (.ci (.li 4) .n0))))), (.ef (.tf nm1_10 (.fb .quo (.i2f (.ib .sub .i64 (.ai 9 0 (.ci (.ib .quo .i64 (.at 2 2) (.li 11)) (.ci (.li 33) .n0))) (.li 16))) (.lf 4620693217682128896)) (.lf 0)))]
def nk1_5 : Blk := [(.i .i64 1), (.i .i64 1), (.i .i64 0), (.f 0)]
def nk1_6 : Blk := [(.ei .i64 (.ti nm1_2 (.li 0) (.ti (.vb 7) (.ti (.ic .eql (.ai 9 0 (.ci (.at 2 0) (.ci (.li 7) .n0))) (.li 0)) (.li 5) nm1_3) nm1_3))), (.ei .i64 (.ti nm1_2 (.li 0) (.ai 9 0 (.ci nm1_4 (.ci (.li 3) .n0))))), (.ei .i64 (.ti nm1_2 (.li 0) (.ai 9 0 (.ci nm1_5 (.ci (.li 3) .n0))))), (.ef (.tf nm1_2 (.fb .quo (.i2f (.ib .sub .i64 (.ai 9 0 (.ci (.ib .quo .i64 (.at 2 0) (.li 11)) (.ci (.li 33) .n0))) (.li 16))) (.lf 4620693217682128896)) (.lf 0)))]
def nk1_7 : Blk := [(.ei .i64 (.ti nm1_6 (.li 0) (.ti (.vb 7) (.ti (.ic .eql (.ai 9 0 (.ci (.at 2 1) (.ci (.li 7) .n0))) (.li 0)) (.li 5) nm1_7) nm1_7))), (.ei .i64 (.ti nm1_6 (.li 0) (.ai 9 0 (.ci nm1_8 (.ci (.li 4) .n0))))), (.ei .i64 (.ti nm1_6 (.li 0) (.ai 9 0 (.ci nm1_9 (.ci (.li 4) .n0))))), (.ef (.tf nm1_6 (.fb .quo (.i2f (.ib .sub .i64 (.ai 9 0 (.ci (.ib .quo .i64 (.at 2 1) (.li 11)) (.ci (.li 33) .n0))) (.li 16))) (.lf 4620693217682128896)) (.lf 0)))]
def nk1_8 : Blk := [(.ei .i64 (.ti nm1_10 (.li 0) (.ti (.vb 7) (.ti (.ic .eql (.ai 9 0 (.ci (.at 2 2) (.ci (.li 7) .n0))) (.li 0)) (.li 5) nm1_11) nm1_11))), (.ei .i64 (.ti nm1_10 (.li 0) (.ai 9 0 (.ci nm1_12 (.ci (.li 5) .n0))))), (.ei .i64 (.ti nm1_10 (.li 0) (.ai 9 0 (.ci nm1_13 (.ci (.li 5) .n0))))), (.ef (.tf nm1_10 (.fb .quo (.i2f (.ib .sub .i64 (.ai 9 0 (.ci (.ib .quo .i64 (.at 2 2) (.li 11)) (.ci (.li 33) .n0))) (.li 16))) (.lf 4620693217682128896)) (.lf 0)))]
def nk1_9 : Blk := [(.i .i64 1), (.i .i64 2), (.i .i64 0), (.f 0)]
def nk1_10 : Blk := [(.ei .i64 (.ti nm1_2 (.li 0) (.ti (.vb 7) (.ti (.ic .eql (.ai 9 0 (.ci (.at 2 0) (.ci (.li 7) .n0))) (.li 0)) (.li 5) nm1_3) nm1_3))), (.ei .i64 (.ti nm1_2 (.li 0) (.ai 9 0 (.ci nm1_4 (.ci (.li 4) .n0))))), (.ei .i64 (.ti nm1_2 (.li 0) (.ai 9 0 (.ci nm1_5 (.ci (.li 4) .n0))))), (.ef (.tf nm1_2 (.fb .quo (.i2f (.ib .sub .i64 (.ai 9 0 (.ci (.ib .quo .i64 (.at 2 0) (.li 11)) (.ci (.li 33) .n0))) (.li 16))) (.lf 4620693217682128896)) (.lf 0)))]
def nk1_11 : Blk := [(.ei .i64 (.ti nm1_6 (.li 0) (.ti (.vb 7) (.ti (.ic .eql (.ai 9 0 (.ci (.at 2 1) (.ci (.li 7) .n0))) (.li 0)) (.li 5) nm1_7) nm1_7))), (.ei .i64 (.ti nm1_6 (.li 0) (.ai 9 0 (.ci nm1_8 (.ci (.li 5) .n0))))), (.ei .i64 (.ti nm1_6 (.li 0) (.ai 9 0 (.ci nm1_9 (.ci (.li 5) .n0))))), (.ef (.tf nm1_6 (.fb .quo (.i2f (.ib .sub .i64 (.ai 9 0 (.ci (.ib .quo .i64 (.at 2 1) (.li 11)) (.ci (.li 33) .n0))) (.li 16))) (.lf 4620693217682128896)) (.lf 0)))]
def nk1_12 : Blk := [(.ei .i64 (.ti nm1_10 (.li 0) (.ti (.vb 7) (.ti (.ic .eql (.ai 9 0 (.ci (.at 2 2) (.ci (.li 7) .n0))) (.li 0)) (.li 5) nm1_11) nm1_11))), (.ei .i64 (.ti nm1_10 (.li 0) (.ai 9 0 (.ci nm1_12 (.ci (.li 6) .n0))))), (.ei .i64 (.ti nm1_10 (.li 0) (.ai 9 0 (.ci nm1_13 (.ci (.li 6) .n0))))), (.ef (.tf nm1_10 (.fb .quo (.i2f (.ib .sub .i64 (.ai 9 0 (.ci (.ib .quo .i64 (.at 2 2) (.li 11)) (.ci (.li 33) .n0))) (.li 16))) (.lf 4620693217682128896)) (.lf 0)))]
def nk1_13 : Blk := [(.ei .i64 (.ti nm1_16 (.li 0) (.ti (.vb 7) (.ti (.ic .eql (.ai 9 0 (.ci (.at 2 3) (.ci (.li 7) .n0))) (.li 0)) (.li 5) nm1_17) nm1_17))), (.ei .i64 (.ti nm1_16 (.li 0) (.ai 9 0 (.ci nm1_18 (.ci (.li 5) .n0))))), (.ei .i64 (.ti nm1_16 (.li 0) (.ai 9 0 (.ci nm1_19 (.ci (.li 5) .n0))))), (.ef (.tf nm1_16 (.fb .quo (.i2f (.ib .sub .i64 (.ai 9 0 (.ci (.ib .quo .i64 (.at 2 3) (.li 11)) (.ci (.li 33) .n0))) (.li 16))) (.lf 4620693217682128896)) (.lf 0)))]
def nk1_14 : Blk := [(.ei .i64 (.ti nm1_16 (.li 0) (.ti (.vb 7) (.ti (.ic .eql (.ai 9 0 (.ci (.at 2 3) (.ci (.li 7) .n0))) (.li 0)) (.li 5) nm1_17) nm1_17))), (.ei .i64 (.ti nm1_16 (.li 0) (.ai 9 0 (.ci nm1_18 (.ci (.li 6) .n0))))), (.ei .i64 (.ti nm1_16 (.li 0) (.ai 9 0 (.ci nm1_19 (.ci (.li 6) .n0))))), (.ef (.tf nm1_16 (.fb .quo (.i2f (.ib .sub .i64 (.ai 9 0 (.ci (.ib .quo .i64 (.at 2 3) (.li 11)) (.ci (.li 33) .n0))) (.li 16))) (.lf 4620693217682128896)) (.lf 0)))]
def nk1_15 : Blk := [(.ei .i64 (.ti nm1_16 (.li 0) (.ti (.vb 7) (.ti (.ic .eql (.ai 9 0 (.ci (.at 2 3) (.ci (.li 7) .n0))) (.li 0)) (.li 5) nm1_17) nm1_17))), (.ei .i64 (.ti nm1_16 (.li 0) (.ai 9 0 (.ci nm1_18 (.ci (.li 7) .n0))))), (.ei .i64 (.ti nm1_16 (.li 0) (.ai 9 0 (.ci nm1_19 (.ci (.li 7) .n0))))), (.ef (.tf nm1_16 (.fb .quo (.i2f (.ib .sub .i64 (.ai 9 0 (.ci (.ib .quo .i64 (.at 2 3) (.li 11)) (.ci (.li 33) .n0))) (.li 16))) (.lf 4620693217682128896)) (.lf 0)))]
def nb1_0 : Blk := [(.ei .i64 (.ib .sub .i64 (.li 4) nm1_1))]
def nb1_1 : Blk := nk1_0 ++ nk1_1 ++ nk1_2 ++ nk1_3 ++ nk1_4
def nb1_2 : Blk := [(.ef (.fb .quo (.i2f (.ib .sub .i64 (.ai 9 0 (.ci (.ti (.ic .lss (.li 0) (.vl 5)) (.at 5 0) (.li 0)) (.ci (.li 65) .n0))) (.li 32))) (.lf 4620693217682128896)))]
def nb1_3 : Blk := [(.ei .i64 (.ib .sub .i64 (.li 5) nm1_1)), (.ei .i64 (.ib .sub .i64 (.li 5) nm1_14))]
def nb1_4 : Blk := nk1_0 ++ nk1_5 ++ nk1_1 ++ nk1_6 ++ nk1_7 ++ nk1_8
def nb1_5 : Blk := [(.ef (.fb .quo (.i2f (.ib .sub .i64 (.ai 9 0 (.ci (.ti (.ic .lss (.li 0) (.vl 5)) (.at 5 0) (.li 0)) (.ci (.li 65) .n0))) (.li 32))) (.lf 4620693217682128896))), (.ef (.fb .quo (.i2f (.ib .sub .i64 (.ai 9 0 (.ci (.ti (.ic .lss (.li 1) (.vl 5)) (.at 5 1) (.li 1)) (.ci (.li 65) .n0))) (.li 32))) (.lf 4620693217682128896)))]
def nb1_6 : Blk := [(.ei .i64 (.ib .sub .i64 (.li 6) nm1_1)), (.ei .i64 (.ib .sub .i64 (.li 6) nm1_14)), (.ei .i64 (.ib .sub .i64 (.li 6) nm1_15))]
def nb1_7 : Blk := nk1_0 ++ nk1_5 ++ nk1_9 ++ nk1_1 ++ nk1_10 ++ nk1_11 ++ nk1_12
def nb1_8 : Blk := [(.ef (.fb .quo (.i2f (.ib .sub .i64 (.ai 9 0 (.ci (.ti (.ic .lss (.li 0) (.vl 5)) (.at 5 0) (.li 0)) (.ci (.li 65) .n0))) (.li 32))) (.lf 4620693217682128896))), (.ef (.fb .quo (.i2f (.ib .sub .i64 (.ai 9 0 (.ci (.ti (.ic .lss (.li 1) (.vl 5)) (.at 5 1) (.li 1)) (.ci (.li 65) .n0))) (.li 32))) (.lf 4620693217682128896))), (.ef (.fb .quo (.i2f (.ib .sub .i64 (.ai 9 0 (.ci (.ti (.ic .lss (.li 2) (.vl 5)) (.at 5 2) (.li 2)) (.ci (.li 65) .n0))) (.li 32))) (.lf 4620693217682128896)))]
def nb1_9 : Blk := [(.ei .i64 (.ib .sub .i64 (.li 5) nm1_1))]
def nb1_10 : Blk := nk1_0 ++ nk1_1 ++ nk1_2 ++ nk1_3 ++ nk1_4 ++ nk1_13
def nb1_11 : Blk := [(.ei .i64 (.ib .sub .i64 (.li 6) nm1_1)), (.ei .i64 (.ib .sub .i64 (.li 6) nm1_14))]
def nb1_12 : Blk := nk1_0 ++ nk1_5 ++ nk1_1 ++ nk1_6 ++ nk1_7 ++ nk1_8 ++ nk1_14
def nb1_13 : Blk := [(.ei .i64 (.ib .sub .i64 (.li 7) nm1_1)), (.ei .i64 (.ib .sub .i64 (.li 7) nm1_14)), (.ei .i64 (.ib .sub .i64 (.li 7) nm1_15))]
def nb1_14 : Blk := nk1_0 ++ nk1_5 ++ nk1_9 ++ nk1_1 ++ nk1_10 ++ nk1_11 ++ nk1_12 ++ nk1_15
def nb1_15 : Blk := [(.ei .i64 (.ib .sub .i64 (.li 6) nm1_1))]
def nb1_16 : Blk := nk1_0 ++ nk1_1 ++ nk1_2 ++ nk1_3 ++ nk1_4 ++ nk1_13 ++ [(.ei .i64 (.ti nm1_20 (.li 0) (.ti (.vb 7) (.ti (.ic .eql (.ai 9 0 (.ci (.at 2 4) (.ci (.li 7) .n0))) (.li 0)) (.li 5) nm1_21) nm1_21))), (.ei .i64 (.ti nm1_20 (.li 0) (.ai 9 0 (.ci nm1_22 (.ci (.li 6) .n0))))), (.ei .i64 (.ti nm1_20 (.li 0) (.ai 9 0 (.ci nm1_23 (.ci (.li 6) .n0))))), (.ef (.tf nm1_20 (.fb .quo (.i2f (.ib .sub .i64 (.ai 9 0 (.ci (.ib .quo .i64 (.at 2 4) (.li 11)) (.ci (.li 33) .n0))) (.li 16))) (.lf 4620693217682128896)) (.lf 0)))]
def nb1_17 : Blk := [(.ei .i64 (.ib .sub .i64 (.li 7) nm1_1)), (.ei .i64 (.ib .sub .i64 (.li 7) nm1_14))]
def nb1_18 : Blk := nk1_0 ++ nk1_5 ++ nk1_1 ++ nk1_6 ++ nk1_7 ++ nk1_8 ++ nk1_14 ++ [(.ei .i64 (.ti nm1_20 (.li 0) (.ti (.vb 7) (.ti (.ic .eql (.ai 9 0 (.ci (.at 2 4) (.ci (.li 7) .n0))) (.li 0)) (.li 5) nm1_21) nm1_21))), (.ei .i64 (.ti nm1_20 (.li 0) (.ai 9 0 (.ci nm1_22 (.ci (.li 7) .n0))))), (.ei .i64 (.ti nm1_20 (.li 0) (.ai 9 0 (.ci nm1_23 (.ci (.li 7) .n0))))), (.ef (.tf nm1_20 (.fb .quo (.i2f (.ib .sub .i64 (.ai 9 0 (.ci (.ib .quo .i64 (.at 2 4) (.li 11)) (.ci (.li 33) .n0))) (.li 16))) (.lf 4620693217682128896)) (.lf 0)))]
def nb1_19 : Blk := [(.ei .i64 (.ib .sub .i64 (.li 8) nm1_1)), (.ei .i64 (.ib .sub .i64 (.li 8) nm1_14)), (.ei .i64 (.ib .sub .i64 (.li 8) nm1_15))]
def nb1_20 : Blk := nk1_0 ++ nk1_5 ++ nk1_9 ++ nk1_1 ++ nk1_10 ++ nk1_11 ++ nk1_12 ++ nk1_15 ++ [(.ei .i64 (.ti nm1_20 (.li 0) (.ti (.vb 7) (.ti (.ic .eql (.ai 9 0 (.ci (.at 2 4) (.ci (.li 7) .n0))) (.li 0)) (.li 5) nm1_21) nm1_21))), (.ei .i64 (.ti nm1_20 (.li 0) (.ai 9 0 (.ci nm1_22 (.ci (.li 8) .n0))))), (.ei .i64 (.ti nm1_20 (.li 0) (.ai 9 0 (.ci nm1_23 (.ci (.li 8) .n0))))), (.ef (.tf nm1_20 (.fb .quo (.i2f (.ib .sub .i64 (.ai 9 0 (.ci (.ib .quo .i64 (.at 2 4) (.li 11)) (.ci (.li 33) .n0))) (.li 16))) (.lf 4620693217682128896)) (.lf 0)))]
def n0_0_3m0 : Memo := mkM [(.ag [(.i .i64 1), (.sl 38 0 5 (.u 4)), (.sl 37 0 1 (.u 1))]), (.c (.sl 55 0 1 (.u 1)))] [(37, nb1_0), (38, nb1_1), (55, nb1_2)] 107 (.c (.sl 109 0 1 (.n 1))) (109, [(.ef (.vf 179))]) 136
theorem n0_0_3o0 : mok [] (lenL 2 3 8 ++ []) nN0 51 n0_0_3m0 = true := by kernel_rfl
def n0_0_3ms : List (Nat × List Memo) := [(51, [n0_0_3m0])]
theorem n0_0_3mo : AllMem (memRun [] (lenL 2 3 8 ++ []) nN0) n0_0_3ms := ⟨⟨n0_0_3o0, trivial⟩, trivial⟩
theorem n0_0_3 : lawRunM 3 10 200 [.i, .i, .q, .i, .f, .q, .i, .b] [(0, 5, 0), (1, 3, 0)] (lenL 2 3 8 ++ []) nN0 n0_0_3ms = true := by kernel_rfl
def n0_1_3m0 : Memo := mkM [(.ag [(.i .i64 2), (.sl 44 0 6 (.u 4)), (.sl 43 0 2 (.u 1))]), (.c (.sl 65 0 2 (.u 1)))] [(43, nb1_3), (44, nb1_4), (65, nb1_5)] 124 (.c (.sl 126 0 2 (.n 2))) (126, [(.ef (.vf 188)), (.ef (.vf 189))]) 157
theorem n0_1_3o0 : mok [] (lenL 2 3 8 ++ []) nN0 51 n0_1_3m0 = true := by kernel_rfl
def n0_1_3ms : List (Nat × List Memo) := [(51, [n0_1_3m0])]
theorem n0_1_3mo : AllMem (memRun [] (lenL 2 3 8 ++ []) nN0) n0_1_3ms := ⟨⟨n0_1_3o0, trivial⟩, trivial⟩
theorem n0_1_3 : lawRunM 3 10 200 [.i, .i, .q, .i, .f, .q, .i, .b] [(0, 5, 0), (1, 3, 1)] (lenL 2 3 8 ++ []) nN0 n0_1_3ms = true := by kernel_rfl
def n0_2_3m0 : Memo := mkM [(.ag [(.i .i64 3), (.sl 50 0 7 (.u 4)), (.sl 49 0 3 (.u 1))]), (.c (.sl 75 0 3 (.u 1)))] [(49, nb1_6), (50, nb1_7), (75, nb1_8)] 141 (.c (.sl 143 0 3 (.n 3))) (143, [(.ef (.vf 198)), (.ef (.vf 199)), (.ef (.vf 200))]) 178
theorem n0_2_3o0 : mok [] (lenL 2 3 8 ++ []) nN0 51 n0_2_3m0 = true := by kernel_rfl
def n0_2_3ms : List (Nat × List Memo) := [(51, [n0_2_3m0])]
theorem n0_2_3mo : AllMem (memRun [] (lenL 2 3 8 ++ []) nN0) n0_2_3ms := ⟨⟨n0_2_3o0, trivial⟩, trivial⟩
theorem n0_2_3 : lawRunM 3 10 200 [.i, .i, .q, .i, .f, .q, .i, .b] [(0, 5, 0), (1, 3, 2)] (lenL 2 3 8 ++ []) nN0 n0_2_3ms = true := by kernel_rfl
def n0_0_4m0 : Memo := mkM [(.ag [(.i .i64 1), (.sl 38 0 6 (.u 4)), (.sl 37 0 1 (.u 1))]), (.c (.sl 58 0 1 (.u 1)))] [(37, nb1_9), (38, nb1_10), (58, nb1_2)] 111 (.c (.sl 113 0 1 (.n 1))) (113, [(.ef (.vf 210))]) 144
theorem n0_0_4o0 : mok [] (lenL 2 4 8 ++ []) nN0 51 n0_0_4m0 = true := by kernel_rfl
def n0_0_4ms : List (Nat × List Memo) := [(51, [n0_0_4m0])]
theorem n0_0_4mo : AllMem (memRun [] (lenL 2 4 8 ++ []) nN0) n0_0_4ms := ⟨⟨n0_0_4o0, trivial⟩, trivial⟩
theorem n0_0_4 : lawRunM 3 10 200 [.i, .i, .q, .i, .f, .q, .i, .b] [(0, 5, 0), (1, 3, 0)] (lenL 2 4 8 ++ []) nN0 n0_0_4ms = true := by kernel_rfl
def n0_1_4m0 : Memo := mkM [(.ag [(.i .i64 2), (.sl 44 0 7 (.u 4)), (.sl 43 0 2 (.u 1))]), (.c (.sl 68 0 2 (.u 1)))] [(43, nb1_11), (44, nb1_12), (68, nb1_5)] 128 (.c (.sl 130 0 2 (.n 2))) (130, [(.ef (.vf 219)), (.ef (.vf 220))]) 165
theorem n0_1_4o0 : mok [] (lenL 2 4 8 ++ []) nN0 51 n0_1_4m0 = true := by kernel_rfl
def n0_1_4ms : List (Nat × List Memo) := [(51, [n0_1_4m0])]
theorem n0_1_4mo : AllMem (memRun [] (lenL 2 4 8 ++ []) nN0) n0_1_4ms := ⟨⟨n0_1_4o0, trivial⟩, trivial⟩
theorem n0_1_4 : lawRunM 3 10 200 [.i, .i, .q, .i, .f, .q, .i, .b] [(0, 5, 0), (1, 3, 1)] (lenL 2 4 8 ++ []) nN0 n0_1_4ms = true := by kernel_rfl
def n0_2_4m0 : Memo := mkM [(.ag [(.i .i64 3), (.sl 50 0 8 (.u 4)), (.sl 49 0 3 (.u 1))]), (.c (.sl 78 0 3 (.u 1)))] [(49, nb1_13), (50, nb1_14), (78, nb1_8)] 145 (.c (.sl 147 0 3 (.n 3))) (147, [(.ef (.vf 229)), (.ef (.vf 230)), (.ef (.vf 231))]) 186
theorem n0_2_4o0 : mok [] (lenL 2 4 8 ++ []) nN0 51 n0_2_4m0 = true := by kernel_rfl
def n0_2_4ms : List (Nat × List Memo) := [(51, [n0_2_4m0])]
theorem n0_2_4mo : AllMem (memRun [] (lenL 2 4 8 ++ []) nN0) n0_2_4ms := ⟨⟨n0_2_4o0, trivial⟩, trivial⟩
theorem n0_2_4 : lawRunM 3 10 200 [.i, .i, .q, .i, .f, .q, .i, .b] [(0, 5, 0), (1, 3, 2)] (lenL 2 4 8 ++ []) nN0 n0_2_4ms = true := by kernel_rfl
def n0_0_5m0 : Memo := mkM [(.ag [(.i .i64 1), (.sl 38 0 7 (.u 4)), (.sl 37 0 1 (.u 1))]), (.c (.sl 61 0 1 (.u 1)))] [(37, nb1_15), (38, nb1_16), (61, nb1_2)] 115 (.c (.sl 117 0 1 (.n 1))) (117, [(.ef (.vf 241))]) 152
theorem n0_0_5o0 : mok [] (lenL 2 5 8 ++ []) nN0 51 n0_0_5m0 = true := by kernel_rfl
def n0_0_5ms : List (Nat × List Memo) := [(51, [n0_0_5m0])]
theorem n0_0_5mo : AllMem (memRun [] (lenL 2 5 8 ++ []) nN0) n0_0_5ms := ⟨⟨n0_0_5o0, trivial⟩, trivial⟩
theorem n0_0_5 : lawRunM 3 10 200 [.i, .i, .q, .i, .f, .q, .i, .b] [(0, 5, 0), (1, 3, 0)] (lenL 2 5 8 ++ []) nN0 n0_0_5ms = true := by kernel_rfl
def n0_1_5m0 : Memo := mkM [(.ag [(.i .i64 2), (.sl 44 0 8 (.u 4)), (.sl 43 0 2 (.u 1))]), (.c (.sl 71 0 2 (.u 1)))] [(43, nb1_17), (44, nb1_18), (71, nb1_5)] 132 (.c (.sl 134 0 2 (.n 2))) (134, [(.ef (.vf 250)), (.ef (.vf 251))]) 173
theorem n0_1_5o0 : mok [] (lenL 2 5 8 ++ []) nN0 51 n0_1_5m0 = true := by kernel_rfl
def n0_1_5ms : List (Nat × List Memo) := [(51, [n0_1_5m0])]
theorem n0_1_5mo : AllMem (memRun [] (lenL 2 5 8 ++ []) nN0) n0_1_5ms := ⟨⟨n0_1_5o0, trivial⟩, trivial⟩
theorem n0_1_5 : lawRunM 3 10 200 [.i, .i, .q, .i, .f, .q, .i, .b] [(0, 5, 0), (1, 3, 1)] (lenL 2 5 8 ++ []) nN0 n0_1_5ms = true := by kernel_rfl
def n0_2_5m0 : Memo := mkM [(.ag [(.i .i64 3), (.sl 50 0 9 (.u 4)), (.sl 49 0 3 (.u 1))]), (.c (.sl 81 0 3 (.u 1)))] [(49, nb1_19), (50, nb1_20), (81, nb1_8)] 149 (.c (.sl 151 0 3 (.n 3))) (151, [(.ef (.vf 260)), (.ef (.vf 261)), (.ef (.vf 262))]) 194
theorem n0_2_5o0 : mok [] (lenL 2 5 8 ++ []) nN0 51 n0_2_5m0 = true := by kernel_rfl
def n0_2_5ms : List (Nat × List Memo) := [(51, [n0_2_5m0])]
theorem n0_2_5mo : AllMem (memRun [] (lenL 2 5 8 ++ []) nN0) n0_2_5ms := ⟨⟨n0_2_5o0, trivial⟩, trivial⟩
theorem n0_2_5 : lawRunM 3 10 200 [.i, .i, .q, .i, .f, .q, .i, .b] [(0, 5, 0), (1, 3, 2)] (lenL 2 5 8 ++ []) nN0 n0_2_5ms = true := by kernel_rfl
end Go.Proofs.Ytkncchofgehnpaa
