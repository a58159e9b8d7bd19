/-
  'NordAll': runs of it, part 7.
-/
import Derived.Test.YtkncchofgehnpaaNordAllt2
namespace Go.Proofs.Ytkncchofgehnpaa
open Go.RowKit Ex
set_option maxRecDepth 1000000
set_option maxHeartbeats 100000000
def nm7_0 : E := (.ib .quo .i64 (.vi 1) (.li 3))
def nm7_1 : E := (.ai 9 0 (.ci (.ib .add .i64 nm7_0 (.li 0)) (.ci (.li 3) .n0)))
def nm7_2 : E := (.ic .eql (.ai 9 0 (.ci (.at 2 0) (.ci (.li 11) .n0))) (.li 0))
def nm7_3 : E := (.ib .add .i64 (.li 2) (.ai 9 0 (.ci (.at 2 0) (.ci (.li 3) .n0))))
def nm7_4 : E := (.ib .quo .i64 (.at 2 0) (.li 4))
def nm7_5 : E := (.ib .quo .i64 (.at 2 0) (.li 40))
def nm7_6 : E := (.ic .eql (.ai 9 0 (.ci (.at 2 1) (.ci (.li 11) .n0))) (.li 0))
def nm7_7 : E := (.ib .add .i64 (.li 2) (.ai 9 0 (.ci (.at 2 1) (.ci (.li 3) .n0))))
def nm7_8 : E := (.ib .quo .i64 (.at 2 1) (.li 4))
def nm7_9 : E := (.ib .quo .i64 (.at 2 1) (.li 40))
def nm7_10 : E := (.ic .eql (.ai 9 0 (.ci (.at 2 2) (.ci (.li 11) .n0))) (.li 0))
def nm7_11 : E := (.ib .add .i64 (.li 2) (.ai 9 0 (.ci (.at 2 2) (.ci (.li 3) .n0))))
def nm7_12 : E := (.ib .quo .i64 (.at 2 2) (.li 4))
def nm7_13 : E := (.ib .quo .i64 (.at 2 2) (.li 40))
def nm7_14 : E := (.ai 9 0 (.ci (.ib .add .i64 nm7_0 (.li 1)) (.ci (.li 3) .n0)))
def nm7_15 : E := (.ai 9 0 (.ci (.ib .add .i64 nm7_0 (.li 2)) (.ci (.li 3) .n0)))
def nm7_16 : E := (.ic .eql (.ai 9 0 (.ci (.at 2 3) (.ci (.li 11) .n0))) (.li 0))
def nm7_17 : E := (.ib .add .i64 (.li 2) (.ai 9 0 (.ci (.at 2 3) (.ci (.li 3) .n0))))
def nm7_18 : E := (.ib .quo .i64 (.at 2 3) (.li 4))
def nm7_19 : E := (.ib .quo .i64 (.at 2 3) (.li 40))
def nm7_20 : E := (.ic .eql (.ai 9 0 (.ci (.at 2 4) (.ci (.li 11) .n0))) (.li 0))
def nm7_21 : E := (.ib .add .i64 (.li 2) (.ai 9 0 (.ci (.at 2 4) (.ci (.li 3) .n0))))
def nm7_22 : E := (.ib .quo .i64 (.at 2 4) (.li 4))
def nm7_23 : E := (.ib .quo .i64 (.at 2 4) (.li 40))
def nk7_0 : Blk := [(.i .i64 1), (.i .i64 0), (.i .i64 0), (.f 0)]
def nk7_1 : Blk := [(.i .i64 0), (.i .i64 0), (.i .i64 0), (.ef (.fb .quo (.i2f (.ib .sub .i64 (.ai 9 0 (.ci (.vi 1) (.ci (.li 17) .n0))) (.li 8))) (.lf 4616189618054758400)))]
def nk7_2 : Blk := [(.ei .i64 (.ti nm7_2 (.li 0) (.ti (.vb 7) (.ti (.ic .eql (.ai 9 0 (.ci (.at 2 0) (.ci (.li 7) .n0))) (.li 0)) (.li 5) nm7_3) nm7_3))), (.ei .i64 (.ti nm7_2 (.li 0) (.ai 9 0 (.ci nm7_4 (.ci (.li 2) .n0))))), (.ei .i64 (.ti nm7_2 (.li 0) (.ai 9 0 (.ci nm7_5 (.ci (.li 2) .n0))))), (.ef (.tf nm7_2 (.fb .quo (.i2f (.ib .sub .i64 (.ai 9 0 (.ci (.ib .quo .i64 (.at 2 0) (.li 11)) (.ci (.li 33) .n0))) (.li 16))) (.lf 4620693217682128896)) (.lf 0)))]
def nk7_3 : Blk := [(.ei .i64 (.ti nm7_6 (.li 0) (.ti (.vb 7) (.ti (.ic .eql (.ai 9 0 (.ci (.at 2 1) (.ci (.li 7) .n0))) (.li 0)) (.li 5) nm7_7) nm7_7))), (.ei .i64 (.ti nm7_6 (.li 0) (.ai 9 0 (.ci nm7_8 (.ci (.li 3) .n0))))), (.ei .i64 (.ti nm7_6 (.li 0) (.ai 9 0 (.ci nm7_9 (.ci (.li 3) .n0))))), (.ef (.tf nm7_6 (.fb .quo (.i2f (.ib .sub .i64 (.ai 9 0 (.ci (.ib .quo .i64 (.at 2 1) (.li 11)) (.ci (.li 33) .n0))) (.li 16))) (.lf 4620693217682128896)) (.lf 0)))]
def nk7_4 : Blk := [(.ei .i64 (.ti nm7_10 (.li 0) (.ti (.vb 7) (.ti (.ic .eql (.ai 9 0 (.ci (.at 2 2) (.ci (.li 7) .n0))) (.li 0)) (.li 5) nm7_11) nm7_11))), (.ei .i64 (.ti nm7_10 (.li 0) (.ai 9 0 (.ci nm7_12 (.ci (.li 4) .n0))))), (.ei .i64 (.ti nm7_10 (.li 0) (.ai 9 0 (.ci nm7_13 (.ci (.li 4) .n0))))), (.ef (.tf nm7_10 (.fb .quo (.i2f (.ib .sub .i64 (.ai 9 0 (.ci (.ib .quo .i64 (.at 2 2) (.li 11)) (.ci (.li 33) .n0))) (.li 16))) (.lf 4620693217682128896)) (.lf 0)))]
def nk7_5 : Blk := [(.i .i64 1), (.i .i64 1), (.i .i64 0), (.f 0)]
def nk7_6 : Blk := [(.ei .i64 (.ti nm7_2 (.li 0) (.ti (.vb 7) (.ti (.ic .eql (.ai 9 0 (.ci (.at 2 0) (.ci (.li 7) .n0))) (.li 0)) (.li 5) nm7_3) nm7_3))), (.ei .i64 (.ti nm7_2 (.li 0) (.ai 9 0 (.ci nm7_4 (.ci (.li 3) .n0))))), (.ei .i64 (.ti nm7_2 (.li 0) (.ai 9 0 (.ci nm7_5 (.ci (.li 3) .n0))))), (.ef (.tf nm7_2 (.fb .quo (.i2f (.ib .sub .i64 (.ai 9 0 (.ci (.ib .quo .i64 (.at 2 0) (.li 11)) (.ci (.li 33) .n0))) (.li 16))) (.lf 4620693217682128896)) (.lf 0)))]
def nk7_7 : Blk := [(.ei .i64 (.ti nm7_6 (.li 0) (.ti (.vb 7) (.ti (.ic .eql (.ai 9 0 (.ci (.at 2 1) (.ci (.li 7) .n0))) (.li 0)) (.li 5) nm7_7) nm7_7))), (.ei .i64 (.ti nm7_6 (.li 0) (.ai 9 0 (.ci nm7_8 (.ci (.li 4) .n0))))), (.ei .i64 (.ti nm7_6 (.li 0) (.ai 9 0 (.ci nm7_9 (.ci (.li 4) .n0))))), (.ef (.tf nm7_6 (.fb .quo (.i2f (.ib .sub .i64 (.ai 9 0 (.ci (.ib .quo .i64 (.at 2 1) (.li 11)) (.ci (.li 33) .n0))) (.li 16))) (.lf 4620693217682128896)) (.lf 0)))]
def nk7_8 : Blk := [(.ei .i64 (.ti nm7_10 (.li 0) (.ti (.vb 7) (.ti (.ic .eql (.ai 9 0 (.ci (.at 2 2) (.ci (.li 7) .n0))) (.li 0)) (.li 5) nm7_11) nm7_11))), (.ei .i64 (.ti nm7_10 (.li 0) (.ai 9 0 (.ci nm7_12 (.ci (.li 5) .n0))))), (.ei .i64 (.ti nm7_10 (.li 0) (.ai 9 0 (.ci nm7_13 (.ci (.li 5) .n0))))), (.ef (.tf nm7_10 (.fb .quo (.i2f (.ib .sub .i64 (.ai 9 0 (.ci (.ib .quo .i64 (.at 2 2) (.li 11)) (.ci (.li 33) .n0))) (.li 16))) (.lf 4620693217682128896)) (.lf 0)))]
def nk7_9 : Blk := [(.i .i64 1), (.i .i64 2), (.i .i64 0), (.f 0)]
def nk7_10 : Blk := [(.ei .i64 (.ti nm7_2 (.li 0) (.ti (.vb 7) (.ti (.ic .eql (.ai 9 0 (.ci (.at 2 0) (.ci (.li 7) .n0))) (.li 0)) (.li 5) nm7_3) nm7_3))), (.ei .i64 (.ti nm7_2 (.li 0) (.ai 9 0 (.ci nm7_4 (.ci (.li 4) .n0))))), (.ei .i64 (.ti nm7_2 (.li 0) (.ai 9 0 (.ci nm7_5 (.ci (.li 4) .n0))))), (.ef (.tf nm7_2 (.fb .quo (.i2f (.ib .sub .i64 (.ai 9 0 (.ci (.ib .quo .i64 (.at 2 0) (.li 11)) (.ci (.li 33) .n0))) (.li 16))) (.lf 4620693217682128896)) (.lf 0)))]
def nk7_11 : Blk := [(.ei .i64 (.ti nm7_6 (.li 0) (.ti (.vb 7) (.ti (.ic .eql (.ai 9 0 (.ci (.at 2 1) (.ci (.li 7) .n0))) (.li 0)) (.li 5) nm7_7) nm7_7))), (.ei .i64 (.ti nm7_6 (.li 0) (.ai 9 0 (.ci nm7_8 (.ci (.li 5) .n0))))), (.ei .i64 (.ti nm7_6 (.li 0) (.ai 9 0 (.ci nm7_9 (.ci (.li 5) .n0))))), (.ef (.tf nm7_6 (.fb .quo (.i2f (.ib .sub .i64 (.ai 9 0 (.ci (.ib .quo .i64 (.at 2 1) (.li 11)) (.ci (.li 33) .n0))) (.li 16))) (.lf 4620693217682128896)) (.lf 0)))]
def nk7_12 : Blk := [(.ei .i64 (.ti nm7_10 (.li 0) (.ti (.vb 7) (.ti (.ic .eql (.ai 9 0 (.ci (.at 2 2) (.ci (.li 7) .n0))) (.li 0)) (.li 5) nm7_11) nm7_11))), (.ei .i64 (.ti nm7_10 (.li 0) (.ai 9 0 (.ci nm7_12 (.ci (.li 6) .n0))))), (.ei .i64 (.ti nm7_10 (.li 0) (.ai 9 0 (.ci nm7_13 (.ci (.li 6) .n0))))), (.ef (.tf nm7_10 (.fb .quo (.i2f (.ib .sub .i64 (.ai 9 0 (.ci (.ib .quo .i64 (.at 2 2) (.li 11)) (.ci (.li 33) .n0))) (.li 16))) (.lf 4620693217682128896)) (.lf 0)))]
def nk7_13 : Blk := [(.ei .i64 (.ti nm7_16 (.li 0) (.ti (.vb 7) (.ti (.ic .eql (.ai 9 0 (.ci (.at 2 3) (.ci (.li 7) .n0))) (.li 0)) (.li 5) nm7_17) nm7_17))), (.ei .i64 (.ti nm7_16 (.li 0) (.ai 9 0 (.ci nm7_18 (.ci (.li 5) .n0))))), (.ei .i64 (.ti nm7_16 (.li 0) (.ai 9 0 (.ci nm7_19 (.ci (.li 5) .n0))))), (.ef (.tf nm7_16 (.fb .quo (.i2f (.ib .sub .i64 (.ai 9 0 (.ci (.ib .quo .i64 (.at 2 3) (.li 11)) (.ci (.li 33) .n0))) (.li 16))) (.lf 4620693217682128896)) (.lf 0)))]
def nk7_14 : Blk := [(.ei .i64 (.ti nm7_16 (.li 0) (.ti (.vb 7) (.ti (.ic .eql (.ai 9 0 (.ci (.at 2 3) (.ci (.li 7) .n0))) (.li 0)) (.li 5) nm7_17) nm7_17))), (.ei .i64 (.ti nm7_16 (.li 0) (.ai 9 0 (.ci nm7_18 (.ci (.li 6) .n0))))), (.ei .i64 (.ti nm7_16 (.li 0) (.ai 9 0 (.ci nm7_19 (.ci (.li 6) .n0))))), (.ef (.tf nm7_16 (.fb .quo (.i2f (.ib .sub .i64 (.ai 9 0 (.ci (.ib .quo .i64 (.at 2 3) (.li 11)) (.ci (.li 33) .n0))) (.li 16))) (.lf 4620693217682128896)) (.lf 0)))]
def nk7_15 : Blk := [(.ei .i64 (.ti nm7_16 (.li 0) (.ti (.vb 7) (.ti (.ic .eql (.ai 9 0 (.ci (.at 2 3) (.ci (.li 7) .n0))) (.li 0)) (.li 5) nm7_17) nm7_17))), (.ei .i64 (.ti nm7_16 (.li 0) (.ai 9 0 (.ci nm7_18 (.ci (.li 7) .n0))))), (.ei .i64 (.ti nm7_16 (.li 0) (.ai 9 0 (.ci nm7_19 (.ci (.li 7) .n0))))), (.ef (.tf nm7_16 (.fb .quo (.i2f (.ib .sub .i64 (.ai 9 0 (.ci (.ib .quo .i64 (.at 2 3) (.li 11)) (.ci (.li 33) .n0))) (.li 16))) (.lf 4620693217682128896)) (.lf 0)))]
def nb7_0 : Blk := [(.ei .i64 (.ib .sub .i64 (.li 4) nm7_1))]
def nb7_1 : Blk := nk7_0 ++ nk7_1 ++ nk7_2 ++ nk7_3 ++ nk7_4
def nb7_2 : Blk := [(.ef (.fb .quo (.i2f (.ib .sub .i64 (.ai 9 0 (.ci (.ti (.ic .lss (.li 0) (.vl 5)) (.at 5 0) (.li 0)) (.ci (.li 65) .n0))) (.li 32))) (.lf 4620693217682128896)))]
def nb7_3 : Blk := [(.ei .i64 (.ib .sub .i64 (.li 5) nm7_1)), (.ei .i64 (.ib .sub .i64 (.li 5) nm7_14))]
def nb7_4 : Blk := nk7_0 ++ nk7_5 ++ nk7_1 ++ nk7_6 ++ nk7_7 ++ nk7_8
def nb7_5 : Blk := [(.ef (.fb .quo (.i2f (.ib .sub .i64 (.ai 9 0 (.ci (.ti (.ic .lss (.li 0) (.vl 5)) (.at 5 0) (.li 0)) (.ci (.li 65) .n0))) (.li 32))) (.lf 4620693217682128896))), (.ef (.fb .quo (.i2f (.ib .sub .i64 (.ai 9 0 (.ci (.ti (.ic .lss (.li 1) (.vl 5)) (.at 5 1) (.li 1)) (.ci (.li 65) .n0))) (.li 32))) (.lf 4620693217682128896)))]
def nb7_6 : Blk := [(.ei .i64 (.ib .sub .i64 (.li 6) nm7_1)), (.ei .i64 (.ib .sub .i64 (.li 6) nm7_14)), (.ei .i64 (.ib .sub .i64 (.li 6) nm7_15))]
def nb7_7 : Blk := nk7_0 ++ nk7_5 ++ nk7_9 ++ nk7_1 ++ nk7_10 ++ nk7_11 ++ nk7_12
def nb7_8 : Blk := [(.ef (.fb .quo (.i2f (.ib .sub .i64 (.ai 9 0 (.ci (.ti (.ic .lss (.li 0) (.vl 5)) (.at 5 0) (.li 0)) (.ci (.li 65) .n0))) (.li 32))) (.lf 4620693217682128896))), (.ef (.fb .quo (.i2f (.ib .sub .i64 (.ai 9 0 (.ci (.ti (.ic .lss (.li 1) (.vl 5)) (.at 5 1) (.li 1)) (.ci (.li 65) .n0))) (.li 32))) (.lf 4620693217682128896))), (.ef (.fb .quo (.i2f (.ib .sub .i64 (.ai 9 0 (.ci (.ti (.ic .lss (.li 2) (.vl 5)) (.at 5 2) (.li 2)) (.ci (.li 65) .n0))) (.li 32))) (.lf 4620693217682128896)))]
def nb7_9 : Blk := [(.ei .i64 (.ib .sub .i64 (.li 5) nm7_1))]
def nb7_10 : Blk := nk7_0 ++ nk7_1 ++ nk7_2 ++ nk7_3 ++ nk7_4 ++ nk7_13
def nb7_11 : Blk := [(.ei .i64 (.ib .sub .i64 (.li 6) nm7_1)), (.ei .i64 (.ib .sub .i64 (.li 6) nm7_14))]
def nb7_12 : Blk := nk7_0 ++ nk7_5 ++ nk7_1 ++ nk7_6 ++ nk7_7 ++ nk7_8 ++ nk7_14
def nb7_13 : Blk := [(.ei .i64 (.ib .sub .i64 (.li 7) nm7_1)), (.ei .i64 (.ib .sub .i64 (.li 7) nm7_14)), (.ei .i64 (.ib .sub .i64 (.li 7) nm7_15))]
def nb7_14 : Blk := nk7_0 ++ nk7_5 ++ nk7_9 ++ nk7_1 ++ nk7_10 ++ nk7_11 ++ nk7_12 ++ nk7_15
def nb7_15 : Blk := [(.ei .i64 (.ib .sub .i64 (.li 6) nm7_1))]
def nb7_16 : Blk := nk7_0 ++ nk7_1 ++ nk7_2 ++ nk7_3 ++ nk7_4 ++ nk7_13 ++ [(.ei .i64 (.ti nm7_20 (.li 0) (.ti (.vb 7) (.ti (.ic .eql (.ai 9 0 (.ci (.at 2 4) (.ci (.li 7) .n0))) (.li 0)) (.li 5) nm7_21) nm7_21))), (.ei .i64 (.ti nm7_20 (.li 0) (.ai 9 0 (.ci nm7_22 (.ci (.li 6) .n0))))), (.ei .i64 (.ti nm7_20 (.li 0) (.ai 9 0 (.ci nm7_23 (.ci (.li 6) .n0))))), (.ef (.tf nm7_20 (.fb .quo (.i2f (.ib .sub .i64 (.ai 9 0 (.ci (.ib .quo .i64 (.at 2 4) (.li 11)) (.ci (.li 33) .n0))) (.li 16))) (.lf 4620693217682128896)) (.lf 0)))]
def nb7_17 : Blk := [(.ei .i64 (.ib .sub .i64 (.li 7) nm7_1)), (.ei .i64 (.ib .sub .i64 (.li 7) nm7_14))]
def nb7_18 : Blk := nk7_0 ++ nk7_5 ++ nk7_1 ++ nk7_6 ++ nk7_7 ++ nk7_8 ++ nk7_14 ++ [(.ei .i64 (.ti nm7_20 (.li 0) (.ti (.vb 7) (.ti (.ic .eql (.ai 9 0 (.ci (.at 2 4) (.ci (.li 7) .n0))) (.li 0)) (.li 5) nm7_21) nm7_21))), (.ei .i64 (.ti nm7_20 (.li 0) (.ai 9 0 (.ci nm7_22 (.ci (.li 7) .n0))))), (.ei .i64 (.ti nm7_20 (.li 0) (.ai 9 0 (.ci nm7_23 (.ci (.li 7) .n0))))), (.ef (.tf nm7_20 (.fb .quo (.i2f (.ib .sub .i64 (.ai 9 0 (.ci (.ib .quo .i64 (.at 2 4) (.li 11)) (.ci (.li 33) .n0))) (.li 16))) (.lf 4620693217682128896)) (.lf 0)))]
def nb7_19 : Blk := [(.ei .i64 (.ib .sub .i64 (.li 8) nm7_1)), (.ei .i64 (.ib .sub .i64 (.li 8) nm7_14)), (.ei .i64 (.ib .sub .i64 (.li 8) nm7_15))]
def nb7_20 : Blk := nk7_0 ++ nk7_5 ++ nk7_9 ++ nk7_1 ++ nk7_10 ++ nk7_11 ++ nk7_12 ++ nk7_15 ++ [(.ei .i64 (.ti nm7_20 (.li 0) (.ti (.vb 7) (.ti (.ic .eql (.ai 9 0 (.ci (.at 2 4) (.ci (.li 7) .n0))) (.li 0)) (.li 5) nm7_21) nm7_21))), (.ei .i64 (.ti nm7_20 (.li 0) (.ai 9 0 (.ci nm7_22 (.ci (.li 8) .n0))))), (.ei .i64 (.ti nm7_20 (.li 0) (.ai 9 0 (.ci nm7_23 (.ci (.li 8) .n0))))), (.ef (.tf nm7_20 (.fb .quo (.i2f (.ib .sub .i64 (.ai 9 0 (.ci (.ib .quo .i64 (.at 2 4) (.li 11)) (.ci (.li 33) .n0))) (.li 16))) (.lf 4620693217682128896)) (.lf 0)))]
def n2_0_3m0 : Memo := mkM [(.ag [(.i .i64 1), (.sl 60 0 5 (.u 4)), (.sl 59 0 1 (.u 1))]), (.c (.sl 77 0 1 (.u 1)))] [(59, nb7_0), (60, nb7_1), (77, nb7_2)] 153 (.c (.sl 155 0 1 (.n 1))) (155, [(.ef (.vf 179))]) 182
theorem n2_0_3o0 : mok [] (lenL 2 3 8 ++ []) nN2 51 n2_0_3m0 = true := by kernel_rfl
def n2_0_3ms : List (Nat × List Memo) := [(51, [n2_0_3m0])]
theorem n2_0_3mo : AllMem (memRun [] (lenL 2 3 8 ++ []) nN2) n2_0_3ms := ⟨⟨n2_0_3o0, trivial⟩, trivial⟩
theorem n2_0_3 : lawRunM 3 10 200 [.i, .i, .q, .i, .f, .q, .i, .b] [(0, 5, 2), (1, 3, 0)] (lenL 2 3 8 ++ []) nN2 n2_0_3ms = true := by kernel_rfl
def n2_1_3m0 : Memo := mkM [(.ag [(.i .i64 2), (.sl 70 0 6 (.u 4)), (.sl 69 0 2 (.u 1))]), (.c (.sl 91 0 2 (.u 1)))] [(69, nb7_3), (70, nb7_4), (91, nb7_5)] 174 (.c (.sl 176 0 2 (.n 2))) (176, [(.ef (.vf 188)), (.ef (.vf 189))]) 207
theorem n2_1_3o0 : mok [] (lenL 2 3 8 ++ []) nN2 51 n2_1_3m0 = true := by kernel_rfl
def n2_1_3ms : List (Nat × List Memo) := [(51, [n2_1_3m0])]
theorem n2_1_3mo : AllMem (memRun [] (lenL 2 3 8 ++ []) nN2) n2_1_3ms := ⟨⟨n2_1_3o0, trivial⟩, trivial⟩
theorem n2_1_3 : lawRunM 3 10 200 [.i, .i, .q, .i, .f, .q, .i, .b] [(0, 5, 2), (1, 3, 1)] (lenL 2 3 8 ++ []) nN2 n2_1_3ms = true := by kernel_rfl
def n2_2_3m0 : Memo := mkM [(.ag [(.i .i64 3), (.sl 80 0 7 (.u 4)), (.sl 79 0 3 (.u 1))]), (.c (.sl 105 0 3 (.u 1)))] [(79, nb7_6), (80, nb7_7), (105, nb7_8)] 195 (.c (.sl 197 0 3 (.n 3))) (197, [(.ef (.vf 198)), (.ef (.vf 199)), (.ef (.vf 200))]) 232
theorem n2_2_3o0 : mok [] (lenL 2 3 8 ++ []) nN2 51 n2_2_3m0 = true := by kernel_rfl
def n2_2_3ms : List (Nat × List Memo) := [(51, [n2_2_3m0])]
theorem n2_2_3mo : AllMem (memRun [] (lenL 2 3 8 ++ []) nN2) n2_2_3ms := ⟨⟨n2_2_3o0, trivial⟩, trivial⟩
theorem n2_2_3 : lawRunM 3 10 200 [.i, .i, .q, .i, .f, .q, .i, .b] [(0, 5, 2), (1, 3, 2)] (lenL 2 3 8 ++ []) nN2 n2_2_3ms = true := by kernel_rfl
def n2_0_4m0 : Memo := mkM [(.ag [(.i .i64 1), (.sl 60 0 6 (.u 4)), (.sl 59 0 1 (.u 1))]), (.c (.sl 80 0 1 (.u 1)))] [(59, nb7_9), (60, nb7_10), (80, nb7_2)] 157 (.c (.sl 159 0 1 (.n 1))) (159, [(.ef (.vf 211))]) 190
theorem n2_0_4o0 : mok [] (lenL 2 4 8 ++ []) nN2 51 n2_0_4m0 = true := by kernel_rfl
def n2_0_4ms : List (Nat × List Memo) := [(51, [n2_0_4m0])]
theorem n2_0_4mo : AllMem (memRun [] (lenL 2 4 8 ++ []) nN2) n2_0_4ms := ⟨⟨n2_0_4o0, trivial⟩, trivial⟩
theorem n2_0_4 : lawRunM 3 10 200 [.i, .i, .q, .i, .f, .q, .i, .b] [(0, 5, 2), (1, 3, 0)] (lenL 2 4 8 ++ []) nN2 n2_0_4ms = true := by kernel_rfl
def n2_1_4m0 : Memo := mkM [(.ag [(.i .i64 2), (.sl 70 0 7 (.u 4)), (.sl 69 0 2 (.u 1))]), (.c (.sl 94 0 2 (.u 1)))] [(69, nb7_11), (70, nb7_12), (94, nb7_5)] 178 (.c (.sl 180 0 2 (.n 2))) (180, [(.ef (.vf 220)), (.ef (.vf 221))]) 215
theorem n2_1_4o0 : mok [] (lenL 2 4 8 ++ []) nN2 51 n2_1_4m0 = true := by kernel_rfl
def n2_1_4ms : List (Nat × List Memo) := [(51, [n2_1_4m0])]
theorem n2_1_4mo : AllMem (memRun [] (lenL 2 4 8 ++ []) nN2) n2_1_4ms := ⟨⟨n2_1_4o0, trivial⟩, trivial⟩
theorem n2_1_4 : lawRunM 3 10 200 [.i, .i, .q, .i, .f, .q, .i, .b] [(0, 5, 2), (1, 3, 1)] (lenL 2 4 8 ++ []) nN2 n2_1_4ms = true := by kernel_rfl
def n2_2_4m0 : Memo := mkM [(.ag [(.i .i64 3), (.sl 80 0 8 (.u 4)), (.sl 79 0 3 (.u 1))]), (.c (.sl 108 0 3 (.u 1)))] [(79, nb7_13), (80, nb7_14), (108, nb7_8)] 199 (.c (.sl 201 0 3 (.n 3))) (201, [(.ef (.vf 230)), (.ef (.vf 231)), (.ef (.vf 232))]) 240
theorem n2_2_4o0 : mok [] (lenL 2 4 8 ++ []) nN2 51 n2_2_4m0 = true := by kernel_rfl
def n2_2_4ms : List (Nat × List Memo) := [(51, [n2_2_4m0])]
theorem n2_2_4mo : AllMem (memRun [] (lenL 2 4 8 ++ []) nN2) n2_2_4ms := ⟨⟨n2_2_4o0, trivial⟩, trivial⟩
theorem n2_2_4 : lawRunM 3 10 200 [.i, .i, .q, .i, .f, .q, .i, .b] [(0, 5, 2), (1, 3, 2)] (lenL 2 4 8 ++ []) nN2 n2_2_4ms = true := by kernel_rfl
def n2_0_5m0 : Memo := mkM [(.ag [(.i .i64 1), (.sl 60 0 7 (.u 4)), (.sl 59 0 1 (.u 1))]), (.c (.sl 83 0 1 (.u 1)))] [(59, nb7_15), (60, nb7_16), (83, nb7_2)] 161 (.c (.sl 163 0 1 (.n 1))) (163, [(.ef (.vf 242))]) 198
theorem n2_0_5o0 : mok [] (lenL 2 5 8 ++ []) nN2 51 n2_0_5m0 = true := by kernel_rfl
def n2_0_5ms : List (Nat × List Memo) := [(51, [n2_0_5m0])]
theorem n2_0_5mo : AllMem (memRun [] (lenL 2 5 8 ++ []) nN2) n2_0_5ms := ⟨⟨n2_0_5o0, trivial⟩, trivial⟩
theorem n2_0_5 : lawRunM 3 10 200 [.i, .i, .q, .i, .f, .q, .i, .b] [(0, 5, 2), (1, 3, 0)] (lenL 2 5 8 ++ []) nN2 n2_0_5ms = true := by kernel_rfl
def n2_1_5m0 : Memo := mkM [(.ag [(.i .i64 2), (.sl 70 0 8 (.u 4)), (.sl 69 0 2 (.u 1))]), (.c (.sl 97 0 2 (.u 1)))] [(69, nb7_17), (70, nb7_18), (97, nb7_5)] 182 (.c (.sl 184 0 2 (.n 2))) (184, [(.ef (.vf 251)), (.ef (.vf 252))]) 223
theorem n2_1_5o0 : mok [] (lenL 2 5 8 ++ []) nN2 51 n2_1_5m0 = true := by kernel_rfl
def n2_1_5ms : List (Nat × List Memo) := [(51, [n2_1_5m0])]
theorem n2_1_5mo : AllMem (memRun [] (lenL 2 5 8 ++ []) nN2) n2_1_5ms := ⟨⟨n2_1_5o0, trivial⟩, trivial⟩
theorem n2_1_5 : lawRunM 3 10 200 [.i, .i, .q, .i, .f, .q, .i, .b] [(0, 5, 2), (1, 3, 1)] (lenL 2 5 8 ++ []) nN2 n2_1_5ms = true := by kernel_rfl
def n2_2_5m0 : Memo := mkM [(.ag [(.i .i64 3), (.sl 80 0 9 (.u 4)), (.sl 79 0 3 (.u 1))]), (.c (.sl 111 0 3 (.u 1)))] [(79, nb7_19), (80, nb7_20), (111, nb7_8)] 203 (.c (.sl 205 0 3 (.n 3))) (205, [(.ef (.vf 261)), (.ef (.vf 262)), (.ef (.vf 263))]) 248
theorem n2_2_5o0 : mok [] (lenL 2 5 8 ++ []) nN2 51 n2_2_5m0 = true := by kernel_rfl
def n2_2_5ms : List (Nat × List Memo) := [(51, [n2_2_5m0])]
theorem n2_2_5mo : AllMem (memRun [] (lenL 2 5 8 ++ []) nN2) n2_2_5ms := ⟨⟨n2_2_5o0, trivial⟩, trivial⟩
theorem n2_2_5 : lawRunM 3 10 200 [.i, .i, .q, .i, .f, .q, .i, .b] [(0, 5, 2), (1, 3, 2)] (lenL 2 5 8 ++ []) nN2 n2_2_5ms = true := by kernel_rfl
end Go.Proofs.Ytkncchofgehnpaa
