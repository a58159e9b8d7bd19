/-
  'TapeWider': runs of it, part 0.
-/
import Derived.Test.YtilhcamdjehpnaaTapeWidert0
namespace Go.Proofs.Ytilhcamdjehpnaa
open Go.RowKit Ex
set_option maxRecDepth 1000000
set_option maxHeartbeats 100000000
def um0_0 : E := (.ib .add .i64 (.ib .quo .i64 (.vi 0) (.li 3)) (.li 0))
def um0_1 : E := (.ib .sub .i64 (.li 1) (.ai 9 0 (.ci um0_0 (.ci (.li 2) .n0))))
def um0_2 : E := (.fb .quo (.i2f (.ib .sub .i64 (.ai 9 0 (.ci (.vi 0) (.ci (.li 17) .n0))) (.li 8))) (.lf 4616189618054758400))
def um0_3 : E := (.fb .quo (.i2f (.ib .sub .i64 (.ai 9 0 (.ci (.ti (.ic .lss (.li 0) (.vl 3)) (.at 3 0) (.li 0)) (.ci (.li 65) .n0))) (.li 32))) (.lf 4620693217682128896))
def um0_4 : E := (.ti (.ic .lss (.li 0) (.vl 4)) (.at 4 0) (.li 0))
def um0_5 : E := (.ai 9 0 (.ci um0_4 (.ci (.li 3) .n0)))
def um0_6 : E := (.fb .add um0_3 (.i2f um0_5))
def um0_7 : E := (.ic .eql um0_1 (.li 0))
def um0_8 : E := (.fb .sub um0_3 (.i2f (.ai 9 0 (.ci (.ib .quo .i64 um0_4 (.li 3)) (.ci (.li 3) .n0)))))
def um0_9 : E := (.ai 9 0 (.ci um0_0 (.ci (.li 3) .n0)))
def um0_10 : E := (.ic .eql (.ai 9 0 (.ci (.at 1 0) (.ci (.li 11) .n0))) (.li 0))
def um0_11 : E := (.ib .add .i64 (.li 2) (.ai 9 0 (.ci (.at 1 0) (.ci (.li 3) .n0))))
def um0_12 : E := (.ic .eql (.ai 9 0 (.ci (.at 1 1) (.ci (.li 11) .n0))) (.li 0))
def um0_13 : E := (.ib .add .i64 (.li 2) (.ai 9 0 (.ci (.at 1 1) (.ci (.li 3) .n0))))
def uk0_0 : Blk := [(.i .i64 1), (.i .i64 0), (.i .i64 0), (.f 0)]
def uk0_1 : Blk := [(.i .i64 0), (.i .i64 0), (.i .i64 0), (.ef um0_2)]
def uk0_2 : Blk := [(.ei .i64 (.ti um0_10 (.li 0) (.ti (.vb 2) (.ti (.ic .eql (.ai 9 0 (.ci (.at 1 0) (.ci (.li 7) .n0))) (.li 0)) (.li 5) um0_11) um0_11))), (.ei .i64 (.ti um0_10 (.li 0) (.ai 9 0 (.ci (.ib .quo .i64 (.at 1 0) (.li 4)) (.ci (.li 2) .n0))))), (.ei .i64 (.ti um0_10 (.li 0) (.ai 9 0 (.ci (.ib .quo .i64 (.at 1 0) (.li 40)) (.ci (.li 2) .n0))))), (.ef (.tf um0_10 (.fb .quo (.i2f (.ib .sub .i64 (.ai 9 0 (.ci (.ib .quo .i64 (.at 1 0) (.li 11)) (.ci (.li 33) .n0))) (.li 16))) (.lf 4620693217682128896)) (.lf 0)))]
def ub0_0 : Blk := uk0_0 ++ uk0_1
def ub0_1 : Blk := [(.ef um0_3), (.ef um0_6)]
def ub0_2 : Blk := [(.ef um0_8), (.ef (.fb .add um0_3 (.i2f (.ib .add .i64 um0_5 (.ai 9 0 (.ci (.ib .quo .i64 um0_4 (.li 9)) (.ci (.li 3) .n0)))))))]
def ub0_3 : Blk := [(.ei .i64 (.ib .sub .i64 (.li 2) um0_9))]
def ub0_4 : Blk := uk0_0 ++ uk0_1 ++ uk0_2
def ub0_5 : Blk := [(.ei .i64 (.ib .sub .i64 (.li 3) um0_9))]
def ub0_6 : Blk := uk0_0 ++ uk0_1 ++ uk0_2 ++ [(.ei .i64 (.ti um0_12 (.li 0) (.ti (.vb 2) (.ti (.ic .eql (.ai 9 0 (.ci (.at 1 1) (.ci (.li 7) .n0))) (.li 0)) (.li 5) um0_13) um0_13))), (.ei .i64 (.ti um0_12 (.li 0) (.ai 9 0 (.ci (.ib .quo .i64 (.at 1 1) (.li 4)) (.ci (.li 3) .n0))))), (.ei .i64 (.ti um0_12 (.li 0) (.ai 9 0 (.ci (.ib .quo .i64 (.at 1 1) (.li 40)) (.ci (.li 3) .n0))))), (.ef (.tf um0_12 (.fb .quo (.i2f (.ib .sub .i64 (.ai 9 0 (.ci (.ib .quo .i64 (.at 1 1) (.li 11)) (.ci (.li 33) .n0))) (.li 16))) (.lf 4620693217682128896)) (.lf 0)))]
def u0_0m0 : Memo :=  (⟨[(.ag [(.i .i64 1), (.sl 11 0 2 (.u 4)), (.sl 10 0 1 (.u 1))]), (.c (.sl 22 0 1 (.u 2)))], [(10, [(.ei .i64 um0_1)]), (11, ub0_0), (22, ub0_1)], 25, (.c (.sl 27 0 1 (.n 1))), [(10, [(.ei .i64 um0_1)]), (11, ub0_0), (22, ub0_1), (27, [(.ef (.tf um0_7 um0_3 um0_2)), (.ef (.tf um0_7 um0_6 um0_2))])], 45⟩) 
theorem u0_0o0 : mok [(0, 3, 0)] (lenL 1 0 8 ++ []) uN0 16 u0_0m0 = true := by kernel_rfl
def u0_0m1 : Memo :=  (⟨[(.ag [(.i .i64 1), (.sl 11 0 2 (.u 4)), (.sl 10 0 1 (.u 1))]), (.c (.sl 24 0 1 (.u 2)))], [(10, [(.ei .i64 um0_1)]), (11, ub0_0), (24, ub0_2)], 45, (.c (.sl 47 0 1 (.n 1))), [(10, [(.ei .i64 um0_1)]), (11, ub0_0), (24, ub0_2), (47, [(.ef (.tf um0_7 um0_8 um0_2)), (.ef (.vf 100))])], 65⟩) 
theorem u0_0o1 : mok [(0, 3, 0)] (lenL 1 0 8 ++ []) uN0 16 u0_0m1 = true := by kernel_rfl
def u0_0ms : List (Nat × List Memo) := [(16, [u0_0m0, u0_0m1])]
theorem u0_0mo : AllMem (memRun [(0, 3, 0)] (lenL 1 0 8 ++ []) uN0) u0_0ms := ⟨⟨u0_0o0, u0_0o1, trivial⟩, trivial⟩
def u0_0e0 : E := (.ic .eql (.ib .sub .i64 (.li 1) (.ai 9 0 (.ci (.ib .add .i64 (.ib .quo .i64 (.vi 0) (.li 3)) (.li 0)) (.ci (.li 2) .n0)))) (.li 0))
def u0_0e1 : E := (.fb .quo (.i2f (.ib .sub .i64 (.ai 9 0 (.ci (.ti (.ic .lss (.li 0) (.vl 3)) (.at 3 0) (.li 0)) (.ci (.li 65) .n0))) (.li 32))) (.lf 4620693217682128896))
def u0_0e2 : E := (.fb .quo (.i2f (.ib .sub .i64 (.ai 9 0 (.ci (.vi 0) (.ci (.li 17) .n0))) (.li 8))) (.lf 4616189618054758400))
def u0_0e3 : E := (.ti (.ic .lss (.li 0) (.vl 4)) (.at 4 0) (.li 0))
def u0_0T : Tri := []
def u0_0TE : TrE := []
def u0_0Q : Qua := []
def u0_0QE : QuE := [(((.tf u0_0e0 u0_0e1 u0_0e2), (.tf u0_0e0 (.fb .add u0_0e1 (.i2f (.ai 9 0 (.ci u0_0e3 (.ci (.li 3) .n0))))) u0_0e2)), ((.tf u0_0e0 (.fb .sub u0_0e1 (.i2f (.ai 9 0 (.ci (.ib .quo .i64 u0_0e3 (.li 3)) (.ci (.li 3) .n0))))) u0_0e2), (.vf 100)))]
theorem u0_0a : trisOK uN0 [] u0_0T = true := rfl
theorem u0_0b : tesOK uN0 u0_0T u0_0TE = true := by kernel_rfl
theorem u0_0c : quasOK uN0 [] u0_0Q = true := by kernel_rfl
theorem u0_0d : qesOK uN0 u0_0Q u0_0QE = true := by kernel_rfl
theorem u0_0 : lawRunF 5 10 200 [.i, .q, .b, .q, .q] [(0, 3, 0)] (lenL 1 0 8 ++ []) uN0 u0_0TE u0_0QE u0_0ms = true := by kernel_rfl
def u0_1m0 : Memo :=  (⟨[(.ag [(.i .i64 1), (.sl 11 0 3 (.u 4)), (.sl 10 0 1 (.u 1))]), (.c (.sl 25 0 1 (.u 2)))], [(10, ub0_3), (11, ub0_4), (25, ub0_1)], 28, (.c (.sl 30 0 1 (.n 1))), [(10, ub0_3), (11, ub0_4), (25, ub0_1), (30, [(.ef (.vf 119)), (.ef (.vf 120))])], 54⟩) 
theorem u0_1o0 : mok [(0, 3, 0)] (lenL 1 1 8 ++ []) uN0 16 u0_1m0 = true := by kernel_rfl
def u0_1m1 : Memo :=  (⟨[(.ag [(.i .i64 1), (.sl 11 0 3 (.u 4)), (.sl 10 0 1 (.u 1))]), (.c (.sl 27 0 1 (.u 2)))], [(10, ub0_3), (11, ub0_4), (27, ub0_2)], 54, (.c (.sl 56 0 1 (.n 1))), [(10, ub0_3), (11, ub0_4), (27, ub0_2), (56, [(.ef (.vf 141)), (.ef (.vf 142))])], 80⟩) 
theorem u0_1o1 : mok [(0, 3, 0)] (lenL 1 1 8 ++ []) uN0 16 u0_1m1 = true := by kernel_rfl
def u0_1ms : List (Nat × List Memo) := [(16, [u0_1m0, u0_1m1])]
theorem u0_1mo : AllMem (memRun [(0, 3, 0)] (lenL 1 1 8 ++ []) uN0) u0_1ms := ⟨⟨u0_1o0, u0_1o1, trivial⟩, trivial⟩
def u0_1T : Tri := []
def u0_1TE : TrE := []
def u0_1Q : Qua := [((113, 114), (135, 136)), ((103, 104), (125, 126)), ((105, 106), (127, 128)), ((107, 108), (129, 130)), ((110, 109), (132, 131)), ((112, 111), (134, 133)), ((116, 115), (138, 137)), ((118, 117), (140, 139)), ((119, 120), (141, 142))]
def u0_1QE : QuE := [(((.vf 119), (.vf 120)), ((.vf 141), (.vf 142)))]
theorem u0_1a : trisOK uN0 [] u0_1T = true := rfl
theorem u0_1b : tesOK uN0 u0_1T u0_1TE = true := by kernel_rfl
theorem u0_1c : quasOK uN0 [] u0_1Q = true := by kernel_rfl
theorem u0_1d : qesOK uN0 u0_1Q u0_1QE = true := by kernel_rfl
theorem u0_1 : lawRunF 5 10 200 [.i, .q, .b, .q, .q] [(0, 3, 0)] (lenL 1 1 8 ++ []) uN0 u0_1TE u0_1QE u0_1ms = true := by kernel_rfl
def u0_2m0 : Memo :=  (⟨[(.ag [(.i .i64 1), (.sl 11 0 4 (.u 4)), (.sl 10 0 1 (.u 1))]), (.c (.sl 28 0 1 (.u 2)))], [(10, ub0_5), (11, ub0_6), (28, ub0_1)], 31, (.c (.sl 33 0 1 (.n 1))), [(10, ub0_5), (11, ub0_6), (28, ub0_1), (33, [(.ef (.vf 163)), (.ef (.vf 164))])], 63⟩) 
theorem u0_2o0 : mok [(0, 3, 0)] (lenL 1 2 8 ++ []) uN0 16 u0_2m0 = true := by kernel_rfl
def u0_2m1 : Memo :=  (⟨[(.ag [(.i .i64 1), (.sl 11 0 4 (.u 4)), (.sl 10 0 1 (.u 1))]), (.c (.sl 30 0 1 (.u 2)))], [(10, ub0_5), (11, ub0_6), (30, ub0_2)], 63, (.c (.sl 65 0 1 (.n 1))), [(10, ub0_5), (11, ub0_6), (30, ub0_2), (65, [(.ef (.vf 185)), (.ef (.vf 186))])], 95⟩) 
theorem u0_2o1 : mok [(0, 3, 0)] (lenL 1 2 8 ++ []) uN0 16 u0_2m1 = true := by kernel_rfl
def u0_2ms : List (Nat × List Memo) := [(16, [u0_2m0, u0_2m1])]
theorem u0_2mo : AllMem (memRun [(0, 3, 0)] (lenL 1 2 8 ++ []) uN0) u0_2ms := ⟨⟨u0_2o0, u0_2o1, trivial⟩, trivial⟩
def u0_2T : Tri := []
def u0_2TE : TrE := []
def u0_2Q : Qua := [((113, 114), (135, 136)), ((103, 104), (125, 126)), ((105, 106), (127, 128)), ((107, 108), (129, 130)), ((110, 109), (132, 131)), ((112, 111), (134, 133)), ((116, 115), (138, 137)), ((118, 117), (140, 139)), ((143, 144), (165, 166)), ((145, 146), (167, 168)), ((157, 158), (179, 180)), ((147, 148), (169, 170)), ((149, 150), (171, 172)), ((151, 152), (173, 174)), ((154, 153), (176, 175)), ((156, 155), (178, 177)), ((160, 159), (182, 181)), ((162, 161), (184, 183)), ((163, 164), (185, 186))]
def u0_2QE : QuE := [(((.vf 163), (.vf 164)), ((.vf 185), (.vf 186)))]
theorem u0_2a : trisOK uN0 [] u0_2T = true := rfl
theorem u0_2b : tesOK uN0 u0_2T u0_2TE = true := by kernel_rfl
theorem u0_2c : quasOK uN0 [] u0_2Q = true := by kernel_rfl
theorem u0_2d : qesOK uN0 u0_2Q u0_2QE = true := by kernel_rfl
theorem u0_2 : lawRunF 5 10 200 [.i, .q, .b, .q, .q] [(0, 3, 0)] (lenL 1 2 8 ++ []) uN0 u0_2TE u0_2QE u0_2ms = true := by kernel_rfl
end Go.Proofs.Ytilhcamdjehpnaa
