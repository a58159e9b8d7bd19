/-
  'NordAll': runs of it, part 10.
-/
import Derived.Test.YtkncchofgehnpaaNordAllt3
namespace Go.Proofs.Ytkncchofgehnpaa
open Go.RowKit Ex
set_option maxRecDepth 1000000
set_option maxHeartbeats 100000000
def nm10_0 : E := (.ib .quo .i64 (.vi 1) (.li 3))
def nm10_1 : E := (.ai 9 0 (.ci (.ib .add .i64 nm10_0 (.li 0)) (.ci (.li 3) .n0)))
def nm10_2 : E := (.ic .eql (.ai 9 0 (.ci (.at 2 0) (.ci (.li 11) .n0))) (.li 0))
def nm10_3 : E := (.ib .add .i64 (.li 2) (.ai 9 0 (.ci (.at 2 0) (.ci (.li 3) .n0))))
def nm10_4 : E := (.ib .quo .i64 (.at 2 0) (.li 4))
def nm10_5 : E := (.ib .quo .i64 (.at 2 0) (.li 40))
def nm10_6 : E := (.ic .eql (.ai 9 0 (.ci (.at 2 1) (.ci (.li 11) .n0))) (.li 0))
def nm10_7 : E := (.ib .add .i64 (.li 2) (.ai 9 0 (.ci (.at 2 1) (.ci (.li 3) .n0))))
def nm10_8 : E := (.ib .quo .i64 (.at 2 1) (.li 4))
def nm10_9 : E := (.ib .quo .i64 (.at 2 1) (.li 40))
def nm10_10 : E := (.ic .eql (.ai 9 0 (.ci (.at 2 2) (.ci (.li 11) .n0))) (.li 0))
def nm10_11 : E := (.ib .add .i64 (.li 2) (.ai 9 0 (.ci (.at 2 2) (.ci (.li 3) .n0))))
def nm10_12 : E := (.ib .quo .i64 (.at 2 2) (.li 4))
def nm10_13 : E := (.ib .quo .i64 (.at 2 2) (.li 40))
def nm10_14 : E := (.ai 9 0 (.ci (.ib .add .i64 nm10_0 (.li 1)) (.ci (.li 3) .n0)))
def nm10_15 : E := (.ai 9 0 (.ci (.ib .add .i64 nm10_0 (.li 2)) (.ci (.li 3) .n0)))
def nm10_16 : E := (.ic .eql (.ai 9 0 (.ci (.at 2 3) (.ci (.li 11) .n0))) (.li 0))
def nm10_17 : E := (.ib .add .i64 (.li 2) (.ai 9 0 (.ci (.at 2 3) (.ci (.li 3) .n0))))
def nm10_18 : E := (.ib .quo .i64 (.at 2 3) (.li 4))
def nm10_19 : E := (.ib .quo .i64 (.at 2 3) (.li 40))
def nm10_20 : E := (.ic .eql (.ai 9 0 (.ci (.at 2 4) (.ci (.li 11) .n0))) (.li 0))
def nm10_21 : E := (.ib .add .i64 (.li 2) (.ai 9 0 (.ci (.at 2 4) (.ci (.li 3) .n0))))
def nm10_22 : E := (.ib .quo .i64 (.at 2 4) (.li 4))
def nm10_23 : E := (.ib .quo .i64 (.at 2 4) (.li 40))
def nk10_0 : Blk := [(.i .i64 1), (.i .i64 0), (.i .i64 0), (.f 0)]
def nk10_1 : Blk := [(.i .i64 0), (.i .i64 0), (.i .i64 0), (.ef (.fb .quo (.i2f (.ib .sub .i64 (.ai 9 0 (.ci (.vi 1) (.ci (.li 17) .n0))) (.li 8))) (.lf 4616189618054758400)))]
def nk10_2 : Blk := [(.ei .i64 (.ti nm10_2 (.li 0) (.ti (.vb 7) (.ti (.ic .eql (.ai 9 0 (.ci (.at 2 0) (.ci (.li 7) .n0))) (.li 0)) (.li 5) nm10_3) nm10_3))), (.ei .i64 (.ti nm10_2 (.li 0) (.ai 9 0 (.ci nm10_4 (.ci (.li 2) .n0))))), (.ei .i64 (.ti nm10_2 (.li 0) (.ai 9 0 (.ci nm10_5 (.ci (.li 2) .n0))))), (.ef (.tf nm10_2 (.fb .quo (.i2f (.ib .sub .i64 (.ai 9 0 (.ci (.ib .quo .i64 (.at 2 0) (.li 11)) (.ci (.li 33) .n0))) (.li 16))) (.lf 4620693217682128896)) (.lf 0)))]
def nk10_3 : Blk := [(.ei .i64 (.ti nm10_6 (.li 0) (.ti (.vb 7) (.ti (.ic .eql (.ai 9 0 (.ci (.at 2 1) (.ci (.li 7) .n0))) (.li 0)) (.li 5) nm10_7) nm10_7))), (.ei .i64 (.ti nm10_6 (.li 0) (.ai 9 0 (.ci nm10_8 (.ci (.li 3) .n0))))), (.ei .i64 (.ti nm10_6 (.li 0) (.ai 9 0 (.ci nm10_9 (.ci (.li 3) .n0))))), (.ef (.tf nm10_6 (.fb .quo (.i2f (.ib .sub .i64 (.ai 9 0 (.ci (.ib .quo .i64 (.at 2 1) (.li 11)) (.ci (.li 33) .n0))) (.li 16))) (.lf 4620693217682128896)) (.lf 0)))]
def nk10_4 : Blk := [(.ei .i64 (.ti nm10_10 (.li 0) (.ti (.vb 7) (.ti (.ic .eql (.ai 9 0 (.ci (.at 2 2) (.ci (.li 7) .n0))) (.li 0)) (.li 5) nm10_11) nm10_11))), (.ei .i64 (.ti nm10_10 (.li 0) (.ai 9 0 (.ci nm10_12 (.ci (.li 4) .n0))))), (.ei .i64 (.ti nm10_10 (.li 0) (.ai 9 0 (.ci nm10_13 (.ci (.li 4) .n0))))), (.ef (.tf nm10_10 (.fb .quo (.i2f (.ib .sub .i64 (.ai 9 0 (.ci (.ib .quo .i64 (.at 2 2) (.li 11)) (.ci (.li 33) .n0))) (.li 16))) (.lf 4620693217682128896)) (.lf 0)))]
def nk10_5 : Blk := [(.i .i64 1), (.i .i64 1), (.i .i64 0), (.f 0)]
def nk10_6 : Blk := [(.ei .i64 (.ti nm10_2 (.li 0) (.ti (.vb 7) (.ti (.ic .eql (.ai 9 0 (.ci (.at 2 0) (.ci (.li 7) .n0))) (.li 0)) (.li 5) nm10_3) nm10_3))), (.ei .i64 (.ti nm10_2 (.li 0) (.ai 9 0 (.ci nm10_4 (.ci (.li 3) .n0))))), (.ei .i64 (.ti nm10_2 (.li 0) (.ai 9 0 (.ci nm10_5 (.ci (.li 3) .n0))))), (.ef (.tf nm10_2 (.fb .quo (.i2f (.ib .sub .i64 (.ai 9 0 (.ci (.ib .quo .i64 (.at 2 0) (.li 11)) (.ci (.li 33) .n0))) (.li 16))) (.lf 4620693217682128896)) (.lf 0)))]
def nk10_7 : Blk := [(.ei .i64 (.ti nm10_6 (.li 0) (.ti (.vb 7) (.ti (.ic .eql (.ai 9 0 (.ci (.at 2 1) (.ci (.li 7) .n0))) (.li 0)) (.li 5) nm10_7) nm10_7))), (.ei .i64 (.ti nm10_6 (.li 0) (.ai 9 0 (.ci nm10_8 (.ci (.li 4) .n0))))), (.ei .i64 (.ti nm10_6 (.li 0) (.ai 9 0 (.ci nm10_9 (.ci (.li 4) .n0))))), (.ef (.tf nm10_6 (.fb .quo (.i2f (.ib .sub .i64 (.ai 9 0 (.ci (.ib .quo .i64 (.at 2 1) (.li 11)) (.ci (.li 33) .n0))) (.li 16))) (.lf 4620693217682128896)) (.lf 0)))]
def nk10_8 : Blk := [(.ei .i64 (.ti nm10_10 (.li 0) (.ti (.vb 7) (.ti (.ic .eql (.ai 9 0 (.ci (.at 2 2) (.ci (.li 7) .n0))) (.li 0)) (.li 5) nm10_11) nm10_11))), (.ei .i64 (.ti nm10_10 (.li 0) (.ai 9 0 (.ci nm10_12 (.ci (.li 5) .n0))))), (.ei .i64 (.ti nm10_10 (.li 0) (.ai 9 0 (.ci nm10_13 (.ci (.li 5) .n0))))), (.ef (.tf nm10_10 (.fb .quo (.i2f (.ib .sub .i64 (.ai 9 0 (.ci (.ib .quo .i64 (.at 2 2) (.li 11)) (.ci (.li 33) .n0))) (.li 16))) (.lf 4620693217682128896)) (.lf 0)))]
def nk10_9 : Blk := [(.i .i64 1), (.i .i64 2), (.i .i64 0), (.f 0)]
def nk10_10 : Blk := [(.ei .i64 (.ti nm10_2 (.li 0) (.ti (.vb 7) (.ti (.ic .eql (.ai 9 0 (.ci (.at 2 0) (.ci (.li 7) .n0))) (.li 0)) (.li 5) nm10_3) nm10_3))), (.ei .i64 (.ti nm10_2 (.li 0) (.ai 9 0 (.ci nm10_4 (.ci (.li 4) .n0))))), (.ei .i64 (.ti nm10_2 (.li 0) (.ai 9 0 (.ci nm10_5 (.ci (.li 4) .n0))))), (.ef (.tf nm10_2 (.fb .quo (.i2f (.ib .sub .i64 (.ai 9 0 (.ci (.ib .quo .i64 (.at 2 0) (.li 11)) (.ci (.li 33) .n0))) (.li 16))) (.lf 4620693217682128896)) (.lf 0)))]
def nk10_11 : Blk := [(.ei .i64 (.ti nm10_6 (.li 0) (.ti (.vb 7) (.ti (.ic .eql (.ai 9 0 (.ci (.at 2 1) (.ci (.li 7) .n0))) (.li 0)) (.li 5) nm10_7) nm10_7))), (.ei .i64 (.ti nm10_6 (.li 0) (.ai 9 0 (.ci nm10_8 (.ci (.li 5) .n0))))), (.ei .i64 (.ti nm10_6 (.li 0) (.ai 9 0 (.ci nm10_9 (.ci (.li 5) .n0))))), (.ef (.tf nm10_6 (.fb .quo (.i2f (.ib .sub .i64 (.ai 9 0 (.ci (.ib .quo .i64 (.at 2 1) (.li 11)) (.ci (.li 33) .n0))) (.li 16))) (.lf 4620693217682128896)) (.lf 0)))]
def nk10_12 : Blk := [(.ei .i64 (.ti nm10_10 (.li 0) (.ti (.vb 7) (.ti (.ic .eql (.ai 9 0 (.ci (.at 2 2) (.ci (.li 7) .n0))) (.li 0)) (.li 5) nm10_11) nm10_11))), (.ei .i64 (.ti nm10_10 (.li 0) (.ai 9 0 (.ci nm10_12 (.ci (.li 6) .n0))))), (.ei .i64 (.ti nm10_10 (.li 0) (.ai 9 0 (.ci nm10_13 (.ci (.li 6) .n0))))), (.ef (.tf nm10_10 (.fb .quo (.i2f (.ib .sub .i64 (.ai 9 0 (.ci (.ib .quo .i64 (.at 2 2) (.li 11)) (.ci (.li 33) .n0))) (.li 16))) (.lf 4620693217682128896)) (.lf 0)))]
def nk10_13 : Blk := [(.ei .i64 (.ti nm10_16 (.li 0) (.ti (.vb 7) (.ti (.ic .eql (.ai 9 0 (.ci (.at 2 3) (.ci (.li 7) .n0))) (.li 0)) (.li 5) nm10_17) nm10_17))), (.ei .i64 (.ti nm10_16 (.li 0) (.ai 9 0 (.ci nm10_18 (.ci (.li 5) .n0))))), (.ei .i64 (.ti nm10_16 (.li 0) (.ai 9 0 (.ci nm10_19 (.ci (.li 5) .n0))))), (.ef (.tf nm10_16 (.fb .quo (.i2f (.ib .sub .i64 (.ai 9 0 (.ci (.ib .quo .i64 (.at 2 3) (.li 11)) (.ci (.li 33) .n0))) (.li 16))) (.lf 4620693217682128896)) (.lf 0)))]
def nk10_14 : Blk := [(.ei .i64 (.ti nm10_16 (.li 0) (.ti (.vb 7) (.ti (.ic .eql (.ai 9 0 (.ci (.at 2 3) (.ci (.li 7) .n0))) (.li 0)) (.li 5) nm10_17) nm10_17))), (.ei .i64 (.ti nm10_16 (.li 0) (.ai 9 0 (.ci nm10_18 (.ci (.li 6) .n0))))), (.ei .i64 (.ti nm10_16 (.li 0) (.ai 9 0 (.ci nm10_19 (.ci (.li 6) .n0))))), (.ef (.tf nm10_16 (.fb .quo (.i2f (.ib .sub .i64 (.ai 9 0 (.ci (.ib .quo .i64 (.at 2 3) (.li 11)) (.ci (.li 33) .n0))) (.li 16))) (.lf 4620693217682128896)) (.lf 0)))]
def nk10_15 : Blk := [(.ei .i64 (.ti nm10_16 (.li 0) (.ti (.vb 7) (.ti (.ic .eql (.ai 9 0 (.ci (.at 2 3) (.ci (.li 7) .n0))) (.li 0)) (.li 5) nm10_17) nm10_17))), (.ei .i64 (.ti nm10_16 (.li 0) (.ai 9 0 (.ci nm10_18 (.ci (.li 7) .n0))))), (.ei .i64 (.ti nm10_16 (.li 0) (.ai 9 0 (.ci nm10_19 (.ci (.li 7) .n0))))), (.ef (.tf nm10_16 (.fb .quo (.i2f (.ib .sub .i64 (.ai 9 0 (.ci (.ib .quo .i64 (.at 2 3) (.li 11)) (.ci (.li 33) .n0))) (.li 16))) (.lf 4620693217682128896)) (.lf 0)))]
def nb10_0 : Blk := [(.ei .i64 (.ib .sub .i64 (.li 4) nm10_1))]
def nb10_1 : Blk := nk10_0 ++ nk10_1 ++ nk10_2 ++ nk10_3 ++ nk10_4
def nb10_2 : Blk := [(.ef (.fb .quo (.i2f (.ib .sub .i64 (.ai 9 0 (.ci (.ti (.ic .lss (.li 0) (.vl 5)) (.at 5 0) (.li 0)) (.ci (.li 65) .n0))) (.li 32))) (.lf 4620693217682128896)))]
def nb10_3 : Blk := [(.ei .i64 (.ib .sub .i64 (.li 5) nm10_1)), (.ei .i64 (.ib .sub .i64 (.li 5) nm10_14))]
def nb10_4 : Blk := nk10_0 ++ nk10_5 ++ nk10_1 ++ nk10_6 ++ nk10_7 ++ nk10_8
def nb10_5 : Blk := [(.ef (.fb .quo (.i2f (.ib .sub .i64 (.ai 9 0 (.ci (.ti (.ic .lss (.li 0) (.vl 5)) (.at 5 0) (.li 0)) (.ci (.li 65) .n0))) (.li 32))) (.lf 4620693217682128896))), (.ef (.fb .quo (.i2f (.ib .sub .i64 (.ai 9 0 (.ci (.ti (.ic .lss (.li 1) (.vl 5)) (.at 5 1) (.li 1)) (.ci (.li 65) .n0))) (.li 32))) (.lf 4620693217682128896)))]
def nb10_6 : Blk := [(.ei .i64 (.ib .sub .i64 (.li 6) nm10_1)), (.ei .i64 (.ib .sub .i64 (.li 6) nm10_14)), (.ei .i64 (.ib .sub .i64 (.li 6) nm10_15))]
def nb10_7 : Blk := nk10_0 ++ nk10_5 ++ nk10_9 ++ nk10_1 ++ nk10_10 ++ nk10_11 ++ nk10_12
def nb10_8 : Blk := [(.ef (.fb .quo (.i2f (.ib .sub .i64 (.ai 9 0 (.ci (.ti (.ic .lss (.li 0) (.vl 5)) (.at 5 0) (.li 0)) (.ci (.li 65) .n0))) (.li 32))) (.lf 4620693217682128896))), (.ef (.fb .quo (.i2f (.ib .sub .i64 (.ai 9 0 (.ci (.ti (.ic .lss (.li 1) (.vl 5)) (.at 5 1) (.li 1)) (.ci (.li 65) .n0))) (.li 32))) (.lf 4620693217682128896))), (.ef (.fb .quo (.i2f (.ib .sub .i64 (.ai 9 0 (.ci (.ti (.ic .lss (.li 2) (.vl 5)) (.at 5 2) (.li 2)) (.ci (.li 65) .n0))) (.li 32))) (.lf 4620693217682128896)))]
def nb10_9 : Blk := [(.ei .i64 (.ib .sub .i64 (.li 5) nm10_1))]
def nb10_10 : Blk := nk10_0 ++ nk10_1 ++ nk10_2 ++ nk10_3 ++ nk10_4 ++ nk10_13
def nb10_11 : Blk := [(.ei .i64 (.ib .sub .i64 (.li 6) nm10_1)), (.ei .i64 (.ib .sub .i64 (.li 6) nm10_14))]
def nb10_12 : Blk := nk10_0 ++ nk10_5 ++ nk10_1 ++ nk10_6 ++ nk10_7 ++ nk10_8 ++ nk10_14
def nb10_13 : Blk := [(.ei .i64 (.ib .sub .i64 (.li 7) nm10_1)), (.ei .i64 (.ib .sub .i64 (.li 7) nm10_14)), (.ei .i64 (.ib .sub .i64 (.li 7) nm10_15))]
def nb10_14 : Blk := nk10_0 ++ nk10_5 ++ nk10_9 ++ nk10_1 ++ nk10_10 ++ nk10_11 ++ nk10_12 ++ nk10_15
def nb10_15 : Blk := [(.ei .i64 (.ib .sub .i64 (.li 6) nm10_1))]
def nb10_16 : Blk := nk10_0 ++ nk10_1 ++ nk10_2 ++ nk10_3 ++ nk10_4 ++ nk10_13 ++ [(.ei .i64 (.ti nm10_20 (.li 0) (.ti (.vb 7) (.ti (.ic .eql (.ai 9 0 (.ci (.at 2 4) (.ci (.li 7) .n0))) (.li 0)) (.li 5) nm10_21) nm10_21))), (.ei .i64 (.ti nm10_20 (.li 0) (.ai 9 0 (.ci nm10_22 (.ci (.li 6) .n0))))), (.ei .i64 (.ti nm10_20 (.li 0) (.ai 9 0 (.ci nm10_23 (.ci (.li 6) .n0))))), (.ef (.tf nm10_20 (.fb .quo (.i2f (.ib .sub .i64 (.ai 9 0 (.ci (.ib .quo .i64 (.at 2 4) (.li 11)) (.ci (.li 33) .n0))) (.li 16))) (.lf 4620693217682128896)) (.lf 0)))]
def nb10_17 : Blk := [(.ei .i64 (.ib .sub .i64 (.li 7) nm10_1)), (.ei .i64 (.ib .sub .i64 (.li 7) nm10_14))]
def nb10_18 : Blk := nk10_0 ++ nk10_5 ++ nk10_1 ++ nk10_6 ++ nk10_7 ++ nk10_8 ++ nk10_14 ++ [(.ei .i64 (.ti nm10_20 (.li 0) (.ti (.vb 7) (.ti (.ic .eql (.ai 9 0 (.ci (.at 2 4) (.ci (.li 7) .n0))) (.li 0)) (.li 5) nm10_21) nm10_21))), (.ei .i64 (.ti nm10_20 (.li 0) (.ai 9 0 (.ci nm10_22 (.ci (.li 7) .n0))))), (.ei .i64 (.ti nm10_20 (.li 0) (.ai 9 0 (.ci nm10_23 (.ci (.li 7) .n0))))), (.ef (.tf nm10_20 (.fb .quo (.i2f (.ib .sub .i64 (.ai 9 0 (.ci (.ib .quo .i64 (.at 2 4) (.li 11)) (.ci (.li 33) .n0))) (.li 16))) (.lf 4620693217682128896)) (.lf 0)))]
def nb10_19 : Blk := [(.ei .i64 (.ib .sub .i64 (.li 8) nm10_1)), (.ei .i64 (.ib .sub .i64 (.li 8) nm10_14)), (.ei .i64 (.ib .sub .i64 (.li 8) nm10_15))]
def nb10_20 : Blk := nk10_0 ++ nk10_5 ++ nk10_9 ++ nk10_1 ++ nk10_10 ++ nk10_11 ++ nk10_12 ++ nk10_15 ++ [(.ei .i64 (.ti nm10_20 (.li 0) (.ti (.vb 7) (.ti (.ic .eql (.ai 9 0 (.ci (.at 2 4) (.ci (.li 7) .n0))) (.li 0)) (.li 5) nm10_21) nm10_21))), (.ei .i64 (.ti nm10_20 (.li 0) (.ai 9 0 (.ci nm10_22 (.ci (.li 8) .n0))))), (.ei .i64 (.ti nm10_20 (.li 0) (.ai 9 0 (.ci nm10_23 (.ci (.li 8) .n0))))), (.ef (.tf nm10_20 (.fb .quo (.i2f (.ib .sub .i64 (.ai 9 0 (.ci (.ib .quo .i64 (.at 2 4) (.li 11)) (.ci (.li 33) .n0))) (.li 16))) (.lf 4620693217682128896)) (.lf 0)))]
def n3_0_3m0 : Memo := mkM [(.ag [(.i .i64 1), (.sl 71 0 5 (.u 4)), (.sl 70 0 1 (.u 1))]), (.c (.sl 88 0 1 (.u 1)))] [(70, nb10_0), (71, nb10_1), (88, nb10_2)] 176 (.c (.sl 178 0 1 (.n 1))) (178, [(.ef (.vf 179))]) 205
theorem n3_0_3o0 : mok [] (lenL 2 3 8 ++ []) nN3 51 n3_0_3m0 = true := by kernel_rfl
def n3_0_3ms : List (Nat × List Memo) := [(51, [n3_0_3m0])]
theorem n3_0_3mo : AllMem (memRun [] (lenL 2 3 8 ++ []) nN3) n3_0_3ms := ⟨⟨n3_0_3o0, trivial⟩, trivial⟩
theorem n3_0_3 : lawRunM 3 10 200 [.i, .i, .q, .i, .f, .q, .i, .b] [(0, 5, 3), (1, 3, 0)] (lenL 2 3 8 ++ []) nN3 n3_0_3ms = true := by kernel_rfl
def n3_1_3m0 : Memo := mkM [(.ag [(.i .i64 2), (.sl 83 0 6 (.u 4)), (.sl 82 0 2 (.u 1))]), (.c (.sl 104 0 2 (.u 1)))] [(82, nb10_3), (83, nb10_4), (104, nb10_5)] 199 (.c (.sl 201 0 2 (.n 2))) (201, [(.ef (.vf 188)), (.ef (.vf 189))]) 232
theorem n3_1_3o0 : mok [] (lenL 2 3 8 ++ []) nN3 51 n3_1_3m0 = true := by kernel_rfl
def n3_1_3ms : List (Nat × List Memo) := [(51, [n3_1_3m0])]
theorem n3_1_3mo : AllMem (memRun [] (lenL 2 3 8 ++ []) nN3) n3_1_3ms := ⟨⟨n3_1_3o0, trivial⟩, trivial⟩
theorem n3_1_3 : lawRunM 3 10 200 [.i, .i, .q, .i, .f, .q, .i, .b] [(0, 5, 3), (1, 3, 1)] (lenL 2 3 8 ++ []) nN3 n3_1_3ms = true := by kernel_rfl
def n3_2_3m0 : Memo := mkM [(.ag [(.i .i64 3), (.sl 95 0 7 (.u 4)), (.sl 94 0 3 (.u 1))]), (.c (.sl 120 0 3 (.u 1)))] [(94, nb10_6), (95, nb10_7), (120, nb10_8)] 222 (.c (.sl 224 0 3 (.n 3))) (224, [(.ef (.vf 198)), (.ef (.vf 199)), (.ef (.vf 200))]) 259
theorem n3_2_3o0 : mok [] (lenL 2 3 8 ++ []) nN3 51 n3_2_3m0 = true := by kernel_rfl
def n3_2_3ms : List (Nat × List Memo) := [(51, [n3_2_3m0])]
theorem n3_2_3mo : AllMem (memRun [] (lenL 2 3 8 ++ []) nN3) n3_2_3ms := ⟨⟨n3_2_3o0, trivial⟩, trivial⟩
theorem n3_2_3 : lawRunM 3 10 200 [.i, .i, .q, .i, .f, .q, .i, .b] [(0, 5, 3), (1, 3, 2)] (lenL 2 3 8 ++ []) nN3 n3_2_3ms = true := by kernel_rfl
def n3_0_4m0 : Memo := mkM [(.ag [(.i .i64 1), (.sl 71 0 6 (.u 4)), (.sl 70 0 1 (.u 1))]), (.c (.sl 91 0 1 (.u 1)))] [(70, nb10_9), (71, nb10_10), (91, nb10_2)] 180 (.c (.sl 182 0 1 (.n 1))) (182, [(.ef (.vf 211))]) 213
theorem n3_0_4o0 : mok [] (lenL 2 4 8 ++ []) nN3 51 n3_0_4m0 = true := by kernel_rfl
def n3_0_4ms : List (Nat × List Memo) := [(51, [n3_0_4m0])]
theorem n3_0_4mo : AllMem (memRun [] (lenL 2 4 8 ++ []) nN3) n3_0_4ms := ⟨⟨n3_0_4o0, trivial⟩, trivial⟩
theorem n3_0_4 : lawRunM 3 10 200 [.i, .i, .q, .i, .f, .q, .i, .b] [(0, 5, 3), (1, 3, 0)] (lenL 2 4 8 ++ []) nN3 n3_0_4ms = true := by kernel_rfl
def n3_1_4m0 : Memo := mkM [(.ag [(.i .i64 2), (.sl 83 0 7 (.u 4)), (.sl 82 0 2 (.u 1))]), (.c (.sl 107 0 2 (.u 1)))] [(82, nb10_11), (83, nb10_12), (107, nb10_5)] 203 (.c (.sl 205 0 2 (.n 2))) (205, [(.ef (.vf 220)), (.ef (.vf 221))]) 240
theorem n3_1_4o0 : mok [] (lenL 2 4 8 ++ []) nN3 51 n3_1_4m0 = true := by kernel_rfl
def n3_1_4ms : List (Nat × List Memo) := [(51, [n3_1_4m0])]
theorem n3_1_4mo : AllMem (memRun [] (lenL 2 4 8 ++ []) nN3) n3_1_4ms := ⟨⟨n3_1_4o0, trivial⟩, trivial⟩
theorem n3_1_4 : lawRunM 3 10 200 [.i, .i, .q, .i, .f, .q, .i, .b] [(0, 5, 3), (1, 3, 1)] (lenL 2 4 8 ++ []) nN3 n3_1_4ms = true := by kernel_rfl
def n3_2_4m0 : Memo := mkM [(.ag [(.i .i64 3), (.sl 95 0 8 (.u 4)), (.sl 94 0 3 (.u 1))]), (.c (.sl 123 0 3 (.u 1)))] [(94, nb10_13), (95, nb10_14), (123, nb10_8)] 226 (.c (.sl 228 0 3 (.n 3))) (228, [(.ef (.vf 230)), (.ef (.vf 231)), (.ef (.vf 232))]) 267
theorem n3_2_4o0 : mok [] (lenL 2 4 8 ++ []) nN3 51 n3_2_4m0 = true := by kernel_rfl
def n3_2_4ms : List (Nat × List Memo) := [(51, [n3_2_4m0])]
theorem n3_2_4mo : AllMem (memRun [] (lenL 2 4 8 ++ []) nN3) n3_2_4ms := ⟨⟨n3_2_4o0, trivial⟩, trivial⟩
theorem n3_2_4 : lawRunM 3 10 200 [.i, .i, .q, .i, .f, .q, .i, .b] [(0, 5, 3), (1, 3, 2)] (lenL 2 4 8 ++ []) nN3 n3_2_4ms = true := by kernel_rfl
def n3_0_5m0 : Memo := mkM [(.ag [(.i .i64 1), (.sl 71 0 7 (.u 4)), (.sl 70 0 1 (.u 1))]), (.c (.sl 94 0 1 (.u 1)))] [(70, nb10_15), (71, nb10_16), (94, nb10_2)] 184 (.c (.sl 186 0 1 (.n 1))) (186, [(.ef (.vf 246))]) 221
theorem n3_0_5o0 : mok [] (lenL 2 5 8 ++ []) nN3 51 n3_0_5m0 = true := by kernel_rfl
def n3_0_5ms : List (Nat × List Memo) := [(51, [n3_0_5m0])]
theorem n3_0_5mo : AllMem (memRun [] (lenL 2 5 8 ++ []) nN3) n3_0_5ms := ⟨⟨n3_0_5o0, trivial⟩, trivial⟩
theorem n3_0_5 : lawRunM 3 10 200 [.i, .i, .q, .i, .f, .q, .i, .b] [(0, 5, 3), (1, 3, 0)] (lenL 2 5 8 ++ []) nN3 n3_0_5ms = true := by kernel_rfl
def n3_1_5m0 : Memo := mkM [(.ag [(.i .i64 2), (.sl 83 0 8 (.u 4)), (.sl 82 0 2 (.u 1))]), (.c (.sl 110 0 2 (.u 1)))] [(82, nb10_17), (83, nb10_18), (110, nb10_5)] 207 (.c (.sl 209 0 2 (.n 2))) (209, [(.ef (.vf 255)), (.ef (.vf 256))]) 248
theorem n3_1_5o0 : mok [] (lenL 2 5 8 ++ []) nN3 51 n3_1_5m0 = true := by kernel_rfl
def n3_1_5ms : List (Nat × List Memo) := [(51, [n3_1_5m0])]
theorem n3_1_5mo : AllMem (memRun [] (lenL 2 5 8 ++ []) nN3) n3_1_5ms := ⟨⟨n3_1_5o0, trivial⟩, trivial⟩
theorem n3_1_5 : lawRunM 3 10 200 [.i, .i, .q, .i, .f, .q, .i, .b] [(0, 5, 3), (1, 3, 1)] (lenL 2 5 8 ++ []) nN3 n3_1_5ms = true := by kernel_rfl
def n3_2_5m0 : Memo := mkM [(.ag [(.i .i64 3), (.sl 95 0 9 (.u 4)), (.sl 94 0 3 (.u 1))]), (.c (.sl 126 0 3 (.u 1)))] [(94, nb10_19), (95, nb10_20), (126, nb10_8)] 230 (.c (.sl 232 0 3 (.n 3))) (232, [(.ef (.vf 265)), (.ef (.vf 266)), (.ef (.vf 267))]) 275
theorem n3_2_5o0 : mok [] (lenL 2 5 8 ++ []) nN3 51 n3_2_5m0 = true := by kernel_rfl
def n3_2_5ms : List (Nat × List Memo) := [(51, [n3_2_5m0])]
theorem n3_2_5mo : AllMem (memRun [] (lenL 2 5 8 ++ []) nN3) n3_2_5ms := ⟨⟨n3_2_5o0, trivial⟩, trivial⟩
theorem n3_2_5 : lawRunM 3 10 200 [.i, .i, .q, .i, .f, .q, .i, .b] [(0, 5, 3), (1, 3, 2)] (lenL 2 5 8 ++ []) nN3 n3_2_5ms = true := by kernel_rfl
end Go.Proofs.Ytkncchofgehnpaa
