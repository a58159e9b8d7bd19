/-
  'NordAll': runs of it, part 4.
-/
import Derived.Test.YtkncchofgehnpaaNordAllt1
namespace Go.Proofs.Ytkncchofgehnpaa
open Go.RowKit Ex
set_option maxRecDepth 1000000
set_option maxHeartbeats 100000000
def nm4_0 : E := (.ib .quo .i64 (.vi 1) (.li 3))
def nm4_1 : E := (.ai 9 0 (.ci (.ib .add .i64 nm4_0 (.li 0)) (.ci (.li 3) .n0)))
def nm4_2 : E := (.ic .eql (.ai 9 0 (.ci (.at 2 0) (.ci (.li 11) .n0))) (.li 0))
def nm4_3 : E := (.ib .add .i64 (.li 2) (.ai 9 0 (.ci (.at 2 0) (.ci (.li 3) .n0))))
def nm4_4 : E := (.ib .quo .i64 (.at 2 0) (.li 4))
def nm4_5 : E := (.ib .quo .i64 (.at 2 0) (.li 40))
def nm4_6 : E := (.ic .eql (.ai 9 0 (.ci (.at 2 1) (.ci (.li 11) .n0))) (.li 0))
def nm4_7 : E := (.ib .add .i64 (.li 2) (.ai 9 0 (.ci (.at 2 1) (.ci (.li 3) .n0))))
def nm4_8 : E := (.ib .quo .i64 (.at 2 1) (.li 4))
def nm4_9 : E := (.ib .quo .i64 (.at 2 1) (.li 40))
def nm4_10 : E := (.ic .eql (.ai 9 0 (.ci (.at 2 2) (.ci (.li 11) .n0))) (.li 0))
def nm4_11 : E := (.ib .add .i64 (.li 2) (.ai 9 0 (.ci (.at 2 2) (.ci (.li 3) .n0))))
def nm4_12 : E := (.ib .quo .i64 (.at 2 2) (.li 4))
def nm4_13 : E := (.ib .quo .i64 (.at 2 2) (.li 40))
def nm4_14 : E := (.ai 9 0 (.ci (.ib .add .i64 nm4_0 (.li 1)) (.ci (.li 3) .n0)))
def nm4_15 : E := (.ai 9 0 (.ci (.ib .add .i64 nm4_0 (.li 2)) (.ci (.li 3) .n0)))
def nm4_16 : E := (.ic .eql (.ai 9 0 (.ci (.at 2 3) (.ci (.li 11) .n0))) (.li 0))
def nm4_17 : E := (.ib .add .i64 (.li 2) (.ai 9 0 (.ci (.at 2 3) (.ci (.li 3) .n0))))
def nm4_18 : E := (.ib .quo .i64 (.at 2 3) (.li 4))
def nm4_19 : E := (.ib .quo .i64 (.at 2 3) (.li 40))
def nm4_20 : E := (.ic .eql (.ai 9 0 (.ci (.at 2 4) (.ci (.li 11) .n0))) (.li 0))
def nm4_21 : E := (.ib .add .i64 (.li 2) (.ai 9 0 (.ci (.at 2 4) (.ci (.li 3) .n0))))
def nm4_22 : E := (.ib .quo .i64 (.at 2 4) (.li 4))
def nm4_23 : E := (.ib .quo .i64 (.at 2 4) (.li 40))
def nk4_0 : Blk := [(.i .i64 1), (.i .i64 0), (.i .i64 0), (.f 0)]
def nk4_1 : Blk := [(.i .i64 0), (.i .i64 0), (.i .i64 0), (.ef (.fb .quo (.i2f (.ib .sub .i64 (.ai 9 0 (.ci (.vi 1) (.ci (.li 17) .n0))) (.li 8))) (.lf 4616189618054758400)))]
def nk4_2 : Blk := [(.ei .i64 (.ti nm4_2 (.li 0) (.ti (.vb 7) (.ti (.ic .eql (.ai 9 0 (.ci (.at 2 0) (.ci (.li 7) .n0))) (.li 0)) (.li 5) nm4_3) nm4_3))), (.ei .i64 (.ti nm4_2 (.li 0) (.ai 9 0 (.ci nm4_4 (.ci (.li 2) .n0))))), (.ei .i64 (.ti nm4_2 (.li 0) (.ai 9 0 (.ci nm4_5 (.ci (.li 2) .n0))))), (.ef (.tf nm4_2 (.fb .quo (.i2f (.ib .sub .i64 (.ai 9 0 (.ci (.ib .quo .i64 (.at 2 0) (.li 11)) (.ci (.li 33) .n0))) (.li 16))) (.lf 4620693217682128896)) (.lf 0)))]
def nk4_3 : Blk := [(.ei .i64 (.ti nm4_6 (.li 0) (.ti (.vb 7) (.ti (.ic .eql (.ai 9 0 (.ci (.at 2 1) (.ci (.li 7) .n0))) (.li 0)) (.li 5) nm4_7) nm4_7))), (.ei .i64 (.ti nm4_6 (.li 0) (.ai 9 0 (.ci nm4_8 (.ci (.li 3) .n0))))), (.ei .i64 (.ti nm4_6 (.li 0) (.ai 9 0 (.ci nm4_9 (.ci (.li 3) .n0))))), (.ef (.tf nm4_6 (.fb .quo (.i2f (.ib .sub .i64 (.ai 9 0 (.ci (.ib .quo .i64 (.at 2 1) (.li 11)) (.ci (.li 33) .n0))) (.li 16))) (.lf 4620693217682128896)) (.lf 0)))]
def nk4_4 : Blk := [(.ei .i64 (.ti nm4_10 (.li 0) (.ti (.vb 7) (.ti (.ic .eql (.ai 9 0 (.ci (.at 2 2) (.ci (.li 7) .n0))) (.li 0)) (.li 5) nm4_11) nm4_11))), (.ei .i64 (.ti nm4_10 (.li 0) (.ai 9 0 (.ci nm4_12 (.ci (.li 4) .n0))))), (.ei .i64 (.ti nm4_10 (.li 0) (.ai 9 0 (.ci nm4_13 (.ci (.li 4) .n0))))), (.ef (.tf nm4_10 (.fb .quo (.i2f (.ib .sub .i64 (.ai 9 0 (.ci (.ib .quo .i64 (.at 2 2) (.li 11)) (.ci (.li 33) .n0))) (.li 16))) (.lf 4620693217682128896)) (.lf 0)))]
def nk4_5 : Blk := [(.i .i64 1), (.i .i64 1), (.i .i64 0), (.f 0)]
def nk4_6 : Blk := [(.ei .i64 (.ti nm4_2 (.li 0) (.ti (.vb 7) (.ti (.ic .eql (.ai 9 0 (.ci (.at 2 0) (.ci (.li 7) .n0))) (.li 0)) (.li 5) nm4_3) nm4_3))), (.ei .i64 (.ti nm4_2 (.li 0) (.ai 9 0 (.ci nm4_4 (.ci (.li 3) .n0))))), (.ei .i64 (.ti nm4_2 (.li 0) (.ai 9 0 (.ci nm4_5 (.ci (.li 3) .n0))))), (.ef (.tf nm4_2 (.fb .quo (.i2f (.ib .sub .i64 (.ai 9 0 (.ci (.ib .quo .i64 (.at 2 0) (.li 11)) (.ci (.li 33) .n0))) (.li 16))) (.lf 4620693217682128896)) (.lf 0)))]
def nk4_7 : Blk := [(.ei .i64 (.ti nm4_6 (.li 0) (.ti (.vb 7) (.ti (.ic .eql (.ai 9 0 (.ci (.at 2 1) (.ci (.li 7) .n0))) (.li 0)) (.li 5) nm4_7) nm4_7))), (.ei .i64 (.ti nm4_6 (.li 0) (.ai 9 0 (.ci nm4_8 (.ci (.li 4) .n0))))), (.ei .i64 (.ti nm4_6 (.li 0) (.ai 9 0 (.ci nm4_9 (.ci (.li 4) .n0))))), (.ef (.tf nm4_6 (.fb .quo (.i2f (.ib .sub .i64 (.ai 9 0 (.ci (.ib .quo .i64 (.at 2 1) (.li 11)) (.ci (.li 33) .n0))) (.li 16))) (.lf 4620693217682128896)) (.lf 0)))]
def nk4_8 : Blk := [(.ei .i64 (.ti nm4_10 (.li 0) (.ti (.vb 7) (.ti (.ic .eql (.ai 9 0 (.ci (.at 2 2) (.ci (.li 7) .n0))) (.li 0)) (.li 5) nm4_11) nm4_11))), (.ei .i64 (.ti nm4_10 (.li 0) (.ai 9 0 (.ci nm4_12 (.ci (.li 5) .n0))))), (.ei .i64 (.ti nm4_10 (.li 0) (.ai 9 0 (.ci nm4_13 (.ci (.li 5) .n0))))), (.ef (.tf nm4_10 (.fb .quo (.i2f (.ib .sub .i64 (.ai 9 0 (.ci (.ib .quo .i64 (.at 2 2) (.li 11)) (.ci (.li 33) .n0))) (.li 16))) (.lf 4620693217682128896)) (.lf 0)))]
def nk4_9 : Blk := [(.i .i64 1), (.i .i64 2), (.i .i64 0), (.f 0)]
def nk4_10 : Blk := [(.ei .i64 (.ti nm4_2 (.li 0) (.ti (.vb 7) (.ti (.ic .eql (.ai 9 0 (.ci (.at 2 0) (.ci (.li 7) .n0))) (.li 0)) (.li 5) nm4_3) nm4_3))), (.ei .i64 (.ti nm4_2 (.li 0) (.ai 9 0 (.ci nm4_4 (.ci (.li 4) .n0))))), (.ei .i64 (.ti nm4_2 (.li 0) (.ai 9 0 (.ci nm4_5 (.ci (.li 4) .n0))))), (.ef (.tf nm4_2 (.fb .quo (.i2f (.ib .sub .i64 (.ai 9 0 (.ci (.ib .quo .i64 (.at 2 0) (.li 11)) (.ci (.li 33) .n0))) (.li 16))) (.lf 4620693217682128896)) (.lf 0)))]
def nk4_11 : Blk := [(.ei .i64 (.ti nm4_6 (.li 0) (.ti (.vb 7) (.ti (.ic .eql (.ai 9 0 (.ci (.at 2 1) (.ci (.li 7) .n0))) (.li 0)) (.li 5) nm4_7) nm4_7))), (.ei .i64 (.ti nm4_6 (.li 0) (.ai 9 0 (.ci nm4_8 (.ci (.li 5) .n0))))), (.ei .i64 (.ti nm4_6 (.li 0) (.ai 9 0 (.ci nm4_9 (.ci (.li 5) .n0))))), (.ef (.tf nm4_6 (.fb .quo (.i2f (.ib .sub .i64 (.ai 9 0 (.ci (.ib .quo .i64 (.at 2 1) (.li 11)) (.ci (.li 33) .n0))) (.li 16))) (.lf 4620693217682128896)) (.lf 0)))]
def nk4_12 : Blk := [(.ei .i64 (.ti nm4_10 (.li 0) (.ti (.vb 7) (.ti (.ic .eql (.ai 9 0 (.ci (.at 2 2) (.ci (.li 7) .n0))) (.li 0)) (.li 5) nm4_11) nm4_11))), (.ei .i64 (.ti nm4_10 (.li 0) (.ai 9 0 (.ci nm4_12 (.ci (.li 6) .n0))))), (.ei .i64 (.ti nm4_10 (.li 0) (.ai 9 0 (.ci nm4_13 (.ci (.li 6) .n0))))), (.ef (.tf nm4_10 (.fb .quo (.i2f (.ib .sub .i64 (.ai 9 0 (.ci (.ib .quo .i64 (.at 2 2) (.li 11)) (.ci (.li 33) .n0))) (.li 16))) (.lf 4620693217682128896)) (.lf 0)))]
def nk4_13 : Blk := [(.ei .i64 (.ti nm4_16 (.li 0) (.ti (.vb 7) (.ti (.ic .eql (.ai 9 0 (.ci (.at 2 3) (.ci (.li 7) .n0))) (.li 0)) (.li 5) nm4_17) nm4_17))), (.ei .i64 (.ti nm4_16 (.li 0) (.ai 9 0 (.ci nm4_18 (.ci (.li 5) .n0))))), (.ei .i64 (.ti nm4_16 (.li 0) (.ai 9 0 (.ci nm4_19 (.ci (.li 5) .n0))))), (.ef (.tf nm4_16 (.fb .quo (.i2f (.ib .sub .i64 (.ai 9 0 (.ci (.ib .quo .i64 (.at 2 3) (.li 11)) (.ci (.li 33) .n0))) (.li 16))) (.lf 4620693217682128896)) (.lf 0)))]
def nk4_14 : Blk := [(.ei .i64 (.ti nm4_16 (.li 0) (.ti (.vb 7) (.ti (.ic .eql (.ai 9 0 (.ci (.at 2 3) (.ci (.li 7) .n0))) (.li 0)) (.li 5) nm4_17) nm4_17))), (.ei .i64 (.ti nm4_16 (.li 0) (.ai 9 0 (.ci nm4_18 (.ci (.li 6) .n0))))), (.ei .i64 (.ti nm4_16 (.li 0) (.ai 9 0 (.ci nm4_19 (.ci (.li 6) .n0))))), (.ef (.tf nm4_16 (.fb .quo (.i2f (.ib .sub .i64 (.ai 9 0 (.ci (.ib .quo .i64 (.at 2 3) (.li 11)) (.ci (.li 33) .n0))) (.li 16))) (.lf 4620693217682128896)) (.lf 0)))]
def nk4_15 : Blk := [(.ei .i64 (.ti nm4_16 (.li 0) (.ti (.vb 7) (.ti (.ic .eql (.ai 9 0 (.ci (.at 2 3) (.ci (.li 7) .n0))) (.li 0)) (.li 5) nm4_17) nm4_17))), (.ei .i64 (.ti nm4_16 (.li 0) (.ai 9 0 (.ci nm4_18 (.ci (.li 7) .n0))))), (.ei .i64 (.ti nm4_16 (.li 0) (.ai 9 0 (.ci nm4_19 (.ci (.li 7) .n0))))), (.ef (.tf nm4_16 (.fb .quo (.i2f (.ib .sub .i64 (.ai 9 0 (.ci (.ib .quo .i64 (.at 2 3) (.li 11)) (.ci (.li 33) .n0))) (.li 16))) (.lf 4620693217682128896)) (.lf 0)))]
def nb4_0 : Blk := [(.ei .i64 (.ib .sub .i64 (.li 4) nm4_1))]
def nb4_1 : Blk := nk4_0 ++ nk4_1 ++ nk4_2 ++ nk4_3 ++ nk4_4
def nb4_2 : Blk := [(.ef (.fb .quo (.i2f (.ib .sub .i64 (.ai 9 0 (.ci (.ti (.ic .lss (.li 0) (.vl 5)) (.at 5 0) (.li 0)) (.ci (.li 65) .n0))) (.li 32))) (.lf 4620693217682128896)))]
def nb4_3 : Blk := [(.ei .i64 (.ib .sub .i64 (.li 5) nm4_1)), (.ei .i64 (.ib .sub .i64 (.li 5) nm4_14))]
def nb4_4 : Blk := nk4_0 ++ nk4_5 ++ nk4_1 ++ nk4_6 ++ nk4_7 ++ nk4_8
def nb4_5 : Blk := [(.ef (.fb .quo (.i2f (.ib .sub .i64 (.ai 9 0 (.ci (.ti (.ic .lss (.li 0) (.vl 5)) (.at 5 0) (.li 0)) (.ci (.li 65) .n0))) (.li 32))) (.lf 4620693217682128896))), (.ef (.fb .quo (.i2f (.ib .sub .i64 (.ai 9 0 (.ci (.ti (.ic .lss (.li 1) (.vl 5)) (.at 5 1) (.li 1)) (.ci (.li 65) .n0))) (.li 32))) (.lf 4620693217682128896)))]
def nb4_6 : Blk := [(.ei .i64 (.ib .sub .i64 (.li 6) nm4_1)), (.ei .i64 (.ib .sub .i64 (.li 6) nm4_14)), (.ei .i64 (.ib .sub .i64 (.li 6) nm4_15))]
def nb4_7 : Blk := nk4_0 ++ nk4_5 ++ nk4_9 ++ nk4_1 ++ nk4_10 ++ nk4_11 ++ nk4_12
def nb4_8 : Blk := [(.ef (.fb .quo (.i2f (.ib .sub .i64 (.ai 9 0 (.ci (.ti (.ic .lss (.li 0) (.vl 5)) (.at 5 0) (.li 0)) (.ci (.li 65) .n0))) (.li 32))) (.lf 4620693217682128896))), (.ef (.fb .quo (.i2f (.ib .sub .i64 (.ai 9 0 (.ci (.ti (.ic .lss (.li 1) (.vl 5)) (.at 5 1) (.li 1)) (.ci (.li 65) .n0))) (.li 32))) (.lf 4620693217682128896))), (.ef (.fb .quo (.i2f (.ib .sub .i64 (.ai 9 0 (.ci (.ti (.ic .lss (.li 2) (.vl 5)) (.at 5 2) (.li 2)) (.ci (.li 65) .n0))) (.li 32))) (.lf 4620693217682128896)))]
def nb4_9 : Blk := [(.ei .i64 (.ib .sub .i64 (.li 5) nm4_1))]
def nb4_10 : Blk := nk4_0 ++ nk4_1 ++ nk4_2 ++ nk4_3 ++ nk4_4 ++ nk4_13
def nb4_11 : Blk := [(.ei .i64 (.ib .sub .i64 (.li 6) nm4_1)), (.ei .i64 (.ib .sub .i64 (.li 6) nm4_14))]
def nb4_12 : Blk := nk4_0 ++ nk4_5 ++ nk4_1 ++ nk4_6 ++ nk4_7 ++ nk4_8 ++ nk4_14
def nb4_13 : Blk := [(.ei .i64 (.ib .sub .i64 (.li 7) nm4_1)), (.ei .i64 (.ib .sub .i64 (.li 7) nm4_14)), (.ei .i64 (.ib .sub .i64 (.li 7) nm4_15))]
def nb4_14 : Blk := nk4_0 ++ nk4_5 ++ nk4_9 ++ nk4_1 ++ nk4_10 ++ nk4_11 ++ nk4_12 ++ nk4_15
def nb4_15 : Blk := [(.ei .i64 (.ib .sub .i64 (.li 6) nm4_1))]
def nb4_16 : Blk := nk4_0 ++ nk4_1 ++ nk4_2 ++ nk4_3 ++ nk4_4 ++ nk4_13 ++ [(.ei .i64 (.ti nm4_20 (.li 0) (.ti (.vb 7) (.ti (.ic .eql (.ai 9 0 (.ci (.at 2 4) (.ci (.li 7) .n0))) (.li 0)) (.li 5) nm4_21) nm4_21))), (.ei .i64 (.ti nm4_20 (.li 0) (.ai 9 0 (.ci nm4_22 (.ci (.li 6) .n0))))), (.ei .i64 (.ti nm4_20 (.li 0) (.ai 9 0 (.ci nm4_23 (.ci (.li 6) .n0))))), (.ef (.tf nm4_20 (.fb .quo (.i2f (.ib .sub .i64 (.ai 9 0 (.ci (.ib .quo .i64 (.at 2 4) (.li 11)) (.ci (.li 33) .n0))) (.li 16))) (.lf 4620693217682128896)) (.lf 0)))]
def nb4_17 : Blk := [(.ei .i64 (.ib .sub .i64 (.li 7) nm4_1)), (.ei .i64 (.ib .sub .i64 (.li 7) nm4_14))]
def nb4_18 : Blk := nk4_0 ++ nk4_5 ++ nk4_1 ++ nk4_6 ++ nk4_7 ++ nk4_8 ++ nk4_14 ++ [(.ei .i64 (.ti nm4_20 (.li 0) (.ti (.vb 7) (.ti (.ic .eql (.ai 9 0 (.ci (.at 2 4) (.ci (.li 7) .n0))) (.li 0)) (.li 5) nm4_21) nm4_21))), (.ei .i64 (.ti nm4_20 (.li 0) (.ai 9 0 (.ci nm4_22 (.ci (.li 7) .n0))))), (.ei .i64 (.ti nm4_20 (.li 0) (.ai 9 0 (.ci nm4_23 (.ci (.li 7) .n0))))), (.ef (.tf nm4_20 (.fb .quo (.i2f (.ib .sub .i64 (.ai 9 0 (.ci (.ib .quo .i64 (.at 2 4) (.li 11)) (.ci (.li 33) .n0))) (.li 16))) (.lf 4620693217682128896)) (.lf 0)))]
def nb4_19 : Blk := [(.ei .i64 (.ib .sub .i64 (.li 8) nm4_1)), (.ei .i64 (.ib .sub .i64 (.li 8) nm4_14)), (.ei .i64 (.ib .sub .i64 (.li 8) nm4_15))]
def nb4_20 : Blk := nk4_0 ++ nk4_5 ++ nk4_9 ++ nk4_1 ++ nk4_10 ++ nk4_11 ++ nk4_12 ++ nk4_15 ++ [(.ei .i64 (.ti nm4_20 (.li 0) (.ti (.vb 7) (.ti (.ic .eql (.ai 9 0 (.ci (.at 2 4) (.ci (.li 7) .n0))) (.li 0)) (.li 5) nm4_21) nm4_21))), (.ei .i64 (.ti nm4_20 (.li 0) (.ai 9 0 (.ci nm4_22 (.ci (.li 8) .n0))))), (.ei .i64 (.ti nm4_20 (.li 0) (.ai 9 0 (.ci nm4_23 (.ci (.li 8) .n0))))), (.ef (.tf nm4_20 (.fb .quo (.i2f (.ib .sub .i64 (.ai 9 0 (.ci (.ib .quo .i64 (.at 2 4) (.li 11)) (.ci (.li 33) .n0))) (.li 16))) (.lf 4620693217682128896)) (.lf 0)))]
def n1_0_3m0 : Memo := mkM [(.ag [(.i .i64 1), (.sl 49 0 5 (.u 4)), (.sl 48 0 1 (.u 1))]), (.c (.sl 66 0 1 (.u 1)))] [(48, nb4_0), (49, nb4_1), (66, nb4_2)] 130 (.c (.sl 132 0 1 (.n 1))) (132, [(.ef (.vf 179))]) 159
theorem n1_0_3o0 : mok [] (lenL 2 3 8 ++ []) nN1 51 n1_0_3m0 = true := by kernel_rfl
def n1_0_3ms : List (Nat × List Memo) := [(51, [n1_0_3m0])]
theorem n1_0_3mo : AllMem (memRun [] (lenL 2 3 8 ++ []) nN1) n1_0_3ms := ⟨⟨n1_0_3o0, trivial⟩, trivial⟩
theorem n1_0_3 : lawRunM 3 10 200 [.i, .i, .q, .i, .f, .q, .i, .b] [(0, 5, 1), (1, 3, 0)] (lenL 2 3 8 ++ []) nN1 n1_0_3ms = true := by kernel_rfl
def n1_1_3m0 : Memo := mkM [(.ag [(.i .i64 2), (.sl 57 0 6 (.u 4)), (.sl 56 0 2 (.u 1))]), (.c (.sl 78 0 2 (.u 1)))] [(56, nb4_3), (57, nb4_4), (78, nb4_5)] 149 (.c (.sl 151 0 2 (.n 2))) (151, [(.ef (.vf 188)), (.ef (.vf 189))]) 182
theorem n1_1_3o0 : mok [] (lenL 2 3 8 ++ []) nN1 51 n1_1_3m0 = true := by kernel_rfl
def n1_1_3ms : List (Nat × List Memo) := [(51, [n1_1_3m0])]
theorem n1_1_3mo : AllMem (memRun [] (lenL 2 3 8 ++ []) nN1) n1_1_3ms := ⟨⟨n1_1_3o0, trivial⟩, trivial⟩
theorem n1_1_3 : lawRunM 3 10 200 [.i, .i, .q, .i, .f, .q, .i, .b] [(0, 5, 1), (1, 3, 1)] (lenL 2 3 8 ++ []) nN1 n1_1_3ms = true := by kernel_rfl
def n1_2_3m0 : Memo := mkM [(.ag [(.i .i64 3), (.sl 65 0 7 (.u 4)), (.sl 64 0 3 (.u 1))]), (.c (.sl 90 0 3 (.u 1)))] [(64, nb4_6), (65, nb4_7), (90, nb4_8)] 168 (.c (.sl 170 0 3 (.n 3))) (170, [(.ef (.vf 198)), (.ef (.vf 199)), (.ef (.vf 200))]) 205
theorem n1_2_3o0 : mok [] (lenL 2 3 8 ++ []) nN1 51 n1_2_3m0 = true := by kernel_rfl
def n1_2_3ms : List (Nat × List Memo) := [(51, [n1_2_3m0])]
theorem n1_2_3mo : AllMem (memRun [] (lenL 2 3 8 ++ []) nN1) n1_2_3ms := ⟨⟨n1_2_3o0, trivial⟩, trivial⟩
theorem n1_2_3 : lawRunM 3 10 200 [.i, .i, .q, .i, .f, .q, .i, .b] [(0, 5, 1), (1, 3, 2)] (lenL 2 3 8 ++ []) nN1 n1_2_3ms = true := by kernel_rfl
def n1_0_4m0 : Memo := mkM [(.ag [(.i .i64 1), (.sl 49 0 6 (.u 4)), (.sl 48 0 1 (.u 1))]), (.c (.sl 69 0 1 (.u 1)))] [(48, nb4_9), (49, nb4_10), (69, nb4_2)] 134 (.c (.sl 136 0 1 (.n 1))) (136, [(.ef (.vf 210))]) 167
theorem n1_0_4o0 : mok [] (lenL 2 4 8 ++ []) nN1 51 n1_0_4m0 = true := by kernel_rfl
def n1_0_4ms : List (Nat × List Memo) := [(51, [n1_0_4m0])]
theorem n1_0_4mo : AllMem (memRun [] (lenL 2 4 8 ++ []) nN1) n1_0_4ms := ⟨⟨n1_0_4o0, trivial⟩, trivial⟩
theorem n1_0_4 : lawRunM 3 10 200 [.i, .i, .q, .i, .f, .q, .i, .b] [(0, 5, 1), (1, 3, 0)] (lenL 2 4 8 ++ []) nN1 n1_0_4ms = true := by kernel_rfl
def n1_1_4m0 : Memo := mkM [(.ag [(.i .i64 2), (.sl 57 0 7 (.u 4)), (.sl 56 0 2 (.u 1))]), (.c (.sl 81 0 2 (.u 1)))] [(56, nb4_11), (57, nb4_12), (81, nb4_5)] 153 (.c (.sl 155 0 2 (.n 2))) (155, [(.ef (.vf 219)), (.ef (.vf 220))]) 190
theorem n1_1_4o0 : mok [] (lenL 2 4 8 ++ []) nN1 51 n1_1_4m0 = true := by kernel_rfl
def n1_1_4ms : List (Nat × List Memo) := [(51, [n1_1_4m0])]
theorem n1_1_4mo : AllMem (memRun [] (lenL 2 4 8 ++ []) nN1) n1_1_4ms := ⟨⟨n1_1_4o0, trivial⟩, trivial⟩
theorem n1_1_4 : lawRunM 3 10 200 [.i, .i, .q, .i, .f, .q, .i, .b] [(0, 5, 1), (1, 3, 1)] (lenL 2 4 8 ++ []) nN1 n1_1_4ms = true := by kernel_rfl
def n1_2_4m0 : Memo := mkM [(.ag [(.i .i64 3), (.sl 65 0 8 (.u 4)), (.sl 64 0 3 (.u 1))]), (.c (.sl 93 0 3 (.u 1)))] [(64, nb4_13), (65, nb4_14), (93, nb4_8)] 172 (.c (.sl 174 0 3 (.n 3))) (174, [(.ef (.vf 229)), (.ef (.vf 230)), (.ef (.vf 231))]) 213
theorem n1_2_4o0 : mok [] (lenL 2 4 8 ++ []) nN1 51 n1_2_4m0 = true := by kernel_rfl
def n1_2_4ms : List (Nat × List Memo) := [(51, [n1_2_4m0])]
theorem n1_2_4mo : AllMem (memRun [] (lenL 2 4 8 ++ []) nN1) n1_2_4ms := ⟨⟨n1_2_4o0, trivial⟩, trivial⟩
theorem n1_2_4 : lawRunM 3 10 200 [.i, .i, .q, .i, .f, .q, .i, .b] [(0, 5, 1), (1, 3, 2)] (lenL 2 4 8 ++ []) nN1 n1_2_4ms = true := by kernel_rfl
def n1_0_5m0 : Memo := mkM [(.ag [(.i .i64 1), (.sl 49 0 7 (.u 4)), (.sl 48 0 1 (.u 1))]), (.c (.sl 72 0 1 (.u 1)))] [(48, nb4_15), (49, nb4_16), (72, nb4_2)] 138 (.c (.sl 140 0 1 (.n 1))) (140, [(.ef (.vf 241))]) 175
theorem n1_0_5o0 : mok [] (lenL 2 5 8 ++ []) nN1 51 n1_0_5m0 = true := by kernel_rfl
def n1_0_5ms : List (Nat × List Memo) := [(51, [n1_0_5m0])]
theorem n1_0_5mo : AllMem (memRun [] (lenL 2 5 8 ++ []) nN1) n1_0_5ms := ⟨⟨n1_0_5o0, trivial⟩, trivial⟩
theorem n1_0_5 : lawRunM 3 10 200 [.i, .i, .q, .i, .f, .q, .i, .b] [(0, 5, 1), (1, 3, 0)] (lenL 2 5 8 ++ []) nN1 n1_0_5ms = true := by kernel_rfl
def n1_1_5m0 : Memo := mkM [(.ag [(.i .i64 2), (.sl 57 0 8 (.u 4)), (.sl 56 0 2 (.u 1))]), (.c (.sl 84 0 2 (.u 1)))] [(56, nb4_17), (57, nb4_18), (84, nb4_5)] 157 (.c (.sl 159 0 2 (.n 2))) (159, [(.ef (.vf 250)), (.ef (.vf 251))]) 198
theorem n1_1_5o0 : mok [] (lenL 2 5 8 ++ []) nN1 51 n1_1_5m0 = true := by kernel_rfl
def n1_1_5ms : List (Nat × List Memo) := [(51, [n1_1_5m0])]
theorem n1_1_5mo : AllMem (memRun [] (lenL 2 5 8 ++ []) nN1) n1_1_5ms := ⟨⟨n1_1_5o0, trivial⟩, trivial⟩
theorem n1_1_5 : lawRunM 3 10 200 [.i, .i, .q, .i, .f, .q, .i, .b] [(0, 5, 1), (1, 3, 1)] (lenL 2 5 8 ++ []) nN1 n1_1_5ms = true := by kernel_rfl
def n1_2_5m0 : Memo := mkM [(.ag [(.i .i64 3), (.sl 65 0 9 (.u 4)), (.sl 64 0 3 (.u 1))]), (.c (.sl 96 0 3 (.u 1)))] [(64, nb4_19), (65, nb4_20), (96, nb4_8)] 176 (.c (.sl 178 0 3 (.n 3))) (178, [(.ef (.vf 260)), (.ef (.vf 261)), (.ef (.vf 262))]) 221
theorem n1_2_5o0 : mok [] (lenL 2 5 8 ++ []) nN1 51 n1_2_5m0 = true := by kernel_rfl
def n1_2_5ms : List (Nat × List Memo) := [(51, [n1_2_5m0])]
theorem n1_2_5mo : AllMem (memRun [] (lenL 2 5 8 ++ []) nN1) n1_2_5ms := ⟨⟨n1_2_5o0, trivial⟩, trivial⟩
theorem n1_2_5 : lawRunM 3 10 200 [.i, .i, .q, .i, .f, .q, .i, .b] [(0, 5, 1), (1, 3, 2)] (lenL 2 5 8 ++ []) nN1 n1_2_5ms = true := by kernel_rfl
end Go.Proofs.Ytkncchofgehnpaa
