/-
  'TapeHolds': runs of it, part 1.
-/
import Derived.Test.YtilhcamdjehpnaaTapeHoldst0
namespace Go.Proofs.Ytilhcamdjehpnaa
open Go.RowKit Ex
set_option maxRecDepth 1000000
set_option maxHeartbeats 100000000
def xm1_0 : E := (.ai 9 0 (.ci (.ib .add .i64 (.ib .quo .i64 (.vi 0) (.li 3)) (.li 0)) (.ci (.li 3) .n0)))
def xm1_1 : E := (.ib .sub .i64 (.ai 9 0 (.ci (.vi 0) (.ci (.li 17) .n0))) (.li 8))
def xm1_2 : E := (.ic .eql (.ai 9 0 (.ci (.at 1 0) (.ci (.li 11) .n0))) (.li 0))
def xm1_3 : E := (.ib .sub .i64 (.ai 9 0 (.ci (.ib .quo .i64 (.at 1 0) (.li 11)) (.ci (.li 33) .n0))) (.li 16))
def xm1_4 : E := (.ic .eql (.ai 9 0 (.ci (.at 1 1) (.ci (.li 11) .n0))) (.li 0))
def xm1_5 : E := (.ib .sub .i64 (.ai 9 0 (.ci (.ib .quo .i64 (.at 1 1) (.li 11)) (.ci (.li 33) .n0))) (.li 16))
def xm1_6 : E := (.ic .eql (.ai 9 0 (.ci (.at 1 2) (.ci (.li 11) .n0))) (.li 0))
def xm1_7 : E := (.ib .sub .i64 (.ai 9 0 (.ci (.ib .quo .i64 (.at 1 2) (.li 11)) (.ci (.li 33) .n0))) (.li 16))
def xm1_8 : E := (.i2f (.ib .sub .i64 (.ai 9 0 (.ci (.ti (.ic .lss (.li 0) (.vl 2)) (.at 2 0) (.li 0)) (.ci (.li 7) .n0))) (.li 3)))
def xm1_9 : E := (.ti (.ic .lss (.li 0) (.vl 3)) (.at 3 0) (.li 0))
def xm1_10 : E := (.ic .eql (.ai 9 0 (.ci (.at 1 3) (.ci (.li 11) .n0))) (.li 0))
def xm1_11 : E := (.ib .sub .i64 (.ai 9 0 (.ci (.ib .quo .i64 (.at 1 3) (.li 11)) (.ci (.li 33) .n0))) (.li 16))
def xm1_12 : E := (.ic .eql (.ai 9 0 (.ci (.at 1 4) (.ci (.li 11) .n0))) (.li 0))
def xm1_13 : E := (.ib .sub .i64 (.ai 9 0 (.ci (.ib .quo .i64 (.at 1 4) (.li 11)) (.ci (.li 33) .n0))) (.li 16))
def xk1_0 : Blk := [(.i .i64 1), (.i .i64 0), (.i .i64 0), (.f 0)]
def xk1_1 : Blk := [(.i .i64 0), (.i .i64 0), (.i .i64 0), (.ef (.fb .quo (.i2f (.ib .sub .i64 xm1_1 (.ai 9 0 (.ci xm1_1 (.ci (.li 4) .n0))))) (.lf 4616189618054758400)))]
def xk1_2 : Blk := [(.ei .i64 (.ti xm1_2 (.li 0) (.ib .add .i64 (.li 2) (.ai 9 0 (.ci (.at 1 0) (.ci (.li 3) .n0)))))), (.ei .i64 (.ti xm1_2 (.li 0) (.ai 9 0 (.ci (.ib .quo .i64 (.at 1 0) (.li 4)) (.ci (.li 2) .n0))))), (.ei .i64 (.ti xm1_2 (.li 0) (.ai 9 0 (.ci (.ib .quo .i64 (.at 1 0) (.li 40)) (.ci (.li 2) .n0))))), (.ef (.tf xm1_2 (.tf xm1_2 (.fb .quo (.i2f (.ib .sub .i64 xm1_3 (.ai 9 0 (.ci xm1_3 (.ci (.li 8) .n0))))) (.lf 4620693217682128896)) (.lf 0)) (.tf xm1_2 (.fb .quo (.i2f xm1_3) (.lf 4620693217682128896)) (.lf 0))))]
def xk1_3 : Blk := [(.ei .i64 (.ti xm1_4 (.li 0) (.ib .add .i64 (.li 2) (.ai 9 0 (.ci (.at 1 1) (.ci (.li 3) .n0)))))), (.ei .i64 (.ti xm1_4 (.li 0) (.ai 9 0 (.ci (.ib .quo .i64 (.at 1 1) (.li 4)) (.ci (.li 3) .n0))))), (.ei .i64 (.ti xm1_4 (.li 0) (.ai 9 0 (.ci (.ib .quo .i64 (.at 1 1) (.li 40)) (.ci (.li 3) .n0))))), (.ef (.tf xm1_4 (.tf xm1_4 (.fb .quo (.i2f (.ib .sub .i64 xm1_5 (.ai 9 0 (.ci xm1_5 (.ci (.li 8) .n0))))) (.lf 4620693217682128896)) (.lf 0)) (.tf xm1_4 (.fb .quo (.i2f xm1_5) (.lf 4620693217682128896)) (.lf 0))))]
def xk1_4 : Blk := [(.ei .i64 (.ti xm1_6 (.li 0) (.ib .add .i64 (.li 2) (.ai 9 0 (.ci (.at 1 2) (.ci (.li 3) .n0)))))), (.ei .i64 (.ti xm1_6 (.li 0) (.ai 9 0 (.ci (.ib .quo .i64 (.at 1 2) (.li 4)) (.ci (.li 4) .n0))))), (.ei .i64 (.ti xm1_6 (.li 0) (.ai 9 0 (.ci (.ib .quo .i64 (.at 1 2) (.li 40)) (.ci (.li 4) .n0))))), (.ef (.tf xm1_6 (.tf xm1_6 (.fb .quo (.i2f (.ib .sub .i64 xm1_7 (.ai 9 0 (.ci xm1_7 (.ci (.li 8) .n0))))) (.lf 4620693217682128896)) (.lf 0)) (.tf xm1_6 (.fb .quo (.i2f xm1_7) (.lf 4620693217682128896)) (.lf 0))))]
def xk1_5 : Blk := [(.ei .i64 (.ti xm1_10 (.li 0) (.ib .add .i64 (.li 2) (.ai 9 0 (.ci (.at 1 3) (.ci (.li 3) .n0)))))), (.ei .i64 (.ti xm1_10 (.li 0) (.ai 9 0 (.ci (.ib .quo .i64 (.at 1 3) (.li 4)) (.ci (.li 5) .n0))))), (.ei .i64 (.ti xm1_10 (.li 0) (.ai 9 0 (.ci (.ib .quo .i64 (.at 1 3) (.li 40)) (.ci (.li 5) .n0))))), (.ef (.tf xm1_10 (.tf xm1_10 (.fb .quo (.i2f (.ib .sub .i64 xm1_11 (.ai 9 0 (.ci xm1_11 (.ci (.li 8) .n0))))) (.lf 4620693217682128896)) (.lf 0)) (.tf xm1_10 (.fb .quo (.i2f xm1_11) (.lf 4620693217682128896)) (.lf 0))))]
def xb1_0 : Blk := [(.ei .i64 (.ib .sub .i64 (.li 4) xm1_0))]
def xb1_1 : Blk := xk1_0 ++ xk1_1 ++ xk1_2 ++ xk1_3 ++ xk1_4
def xb1_2 : Blk := [(.ef (.fb .sub xm1_8 (.i2f (.ai 9 0 (.ci xm1_9 (.ci (.li 4) .n0)))))), (.ef (.fb .add xm1_8 (.i2f (.ai 9 0 (.ci (.ib .quo .i64 xm1_9 (.li 4)) (.ci (.li 4) .n0))))))]
def xb1_3 : Blk := [(.ei .i64 (.ib .sub .i64 (.li 5) xm1_0))]
def xb1_4 : Blk := xk1_0 ++ xk1_1 ++ xk1_2 ++ xk1_3 ++ xk1_4 ++ xk1_5
def xb1_5 : Blk := [(.ei .i64 (.ib .sub .i64 (.li 6) xm1_0))]
def xb1_6 : Blk := xk1_0 ++ xk1_1 ++ xk1_2 ++ xk1_3 ++ xk1_4 ++ xk1_5 ++ [(.ei .i64 (.ti xm1_12 (.li 0) (.ib .add .i64 (.li 2) (.ai 9 0 (.ci (.at 1 4) (.ci (.li 3) .n0)))))), (.ei .i64 (.ti xm1_12 (.li 0) (.ai 9 0 (.ci (.ib .quo .i64 (.at 1 4) (.li 4)) (.ci (.li 6) .n0))))), (.ei .i64 (.ti xm1_12 (.li 0) (.ai 9 0 (.ci (.ib .quo .i64 (.at 1 4) (.li 40)) (.ci (.li 6) .n0))))), (.ef (.tf xm1_12 (.tf xm1_12 (.fb .quo (.i2f (.ib .sub .i64 xm1_13 (.ai 9 0 (.ci xm1_13 (.ci (.li 8) .n0))))) (.lf 4620693217682128896)) (.lf 0)) (.tf xm1_12 (.fb .quo (.i2f xm1_13) (.lf 4620693217682128896)) (.lf 0))))]
def x0_3m0 : Memo :=  (⟨[(.ag [(.i .i64 1), (.sl 11 0 5 (.u 4)), (.sl 10 0 1 (.u 1))]), (.c (.sl 29 0 1 (.u 1)))], [(10, xb1_0), (11, xb1_1), (29, [(.ef xm1_8)])], 32, (.c (.sl 34 0 1 (.n 1))), [(10, xb1_0), (11, xb1_1), (29, [(.ef xm1_8)]), (34, [(.ef (.vf 147))])], 61⟩) 
theorem x0_3o0 : mok [(0, 3, 0)] (lenL 1 3 8 ++ []) xN0 15 x0_3m0 = true := by kernel_rfl
def x0_3m1 : Memo :=  (⟨[(.ag [(.i .i64 1), (.sl 11 0 5 (.u 4)), (.sl 10 0 1 (.u 1))]), (.c (.sl 31 0 1 (.u 2)))], [(10, xb1_0), (11, xb1_1), (31, xb1_2)], 61, (.c (.sl 63 0 1 (.n 1))), [(10, xb1_0), (11, xb1_1), (31, xb1_2), (63, [(.ef (.vf 164)), (.ef (.vf 165))])], 99⟩) 
theorem x0_3o1 : mok [(0, 3, 0)] (lenL 1 3 8 ++ []) xN0 16 x0_3m1 = true := by kernel_rfl
def x0_3ms : List (Nat × List Memo) := [(15, [x0_3m0]), (16, [x0_3m1])]
theorem x0_3mo : AllMem (memRun [(0, 3, 0)] (lenL 1 3 8 ++ []) xN0) x0_3ms := ⟨⟨x0_3o0, trivial⟩, ⟨x0_3o1, trivial⟩, trivial⟩
def x0_3T : Tri := [(100, 111, 110), (101, 113, 112), (102, 115, 114), (118, 124, 125), (119, 126, 127), (120, 135, 134), (121, 137, 136), (122, 139, 138), (142, 148, 149), (143, 150, 151), (144, 159, 158), (145, 161, 160), (146, 163, 162), (147, 164, 165)]
def x0_3TE : TrE := [((.vf 147), (.vf 164), (.vf 165))]
def x0_3Q : Qua := []
def x0_3QE : QuE := []
theorem x0_3a : trisOK xN0 [] x0_3T = true := by kernel_rfl
theorem x0_3b : tesOK xN0 x0_3T x0_3TE = true := by kernel_rfl
theorem x0_3c : quasOK xN0 [] x0_3Q = true := by kernel_rfl
theorem x0_3d : qesOK xN0 x0_3Q x0_3QE = true := by kernel_rfl
theorem x0_3 : lawRunF 4 10 200 [.i, .q, .q, .q] [(0, 3, 0)] (lenL 1 3 8 ++ []) xN0 x0_3TE x0_3QE x0_3ms = true := by kernel_rfl
def x0_4m0 : Memo :=  (⟨[(.ag [(.i .i64 1), (.sl 11 0 6 (.u 4)), (.sl 10 0 1 (.u 1))]), (.c (.sl 32 0 1 (.u 1)))], [(10, xb1_3), (11, xb1_4), (32, [(.ef xm1_8)])], 35, (.c (.sl 37 0 1 (.n 1))), [(10, xb1_3), (11, xb1_4), (32, [(.ef xm1_8)]), (37, [(.ef (.vf 172))])], 68⟩) 
theorem x0_4o0 : mok [(0, 3, 0)] (lenL 1 4 8 ++ []) xN0 15 x0_4m0 = true := by kernel_rfl
def x0_4m1 : Memo :=  (⟨[(.ag [(.i .i64 1), (.sl 11 0 6 (.u 4)), (.sl 10 0 1 (.u 1))]), (.c (.sl 34 0 1 (.u 2)))], [(10, xb1_3), (11, xb1_4), (34, xb1_2)], 68, (.c (.sl 70 0 1 (.n 1))), [(10, xb1_3), (11, xb1_4), (34, xb1_2), (70, [(.ef (.vf 189)), (.ef (.vf 190))])], 112⟩) 
theorem x0_4o1 : mok [(0, 3, 0)] (lenL 1 4 8 ++ []) xN0 16 x0_4m1 = true := by kernel_rfl
def x0_4ms : List (Nat × List Memo) := [(15, [x0_4m0]), (16, [x0_4m1])]
theorem x0_4mo : AllMem (memRun [(0, 3, 0)] (lenL 1 4 8 ++ []) xN0) x0_4ms := ⟨⟨x0_4o0, trivial⟩, ⟨x0_4o1, trivial⟩, trivial⟩
def x0_4T : Tri := [(100, 111, 110), (101, 113, 112), (102, 115, 114), (118, 124, 125), (119, 126, 127), (120, 135, 134), (121, 137, 136), (122, 139, 138), (142, 148, 149), (143, 150, 151), (144, 159, 158), (145, 161, 160), (146, 163, 162), (167, 173, 174), (168, 175, 176), (169, 184, 183), (170, 186, 185), (171, 188, 187), (172, 189, 190)]
def x0_4TE : TrE := [((.vf 172), (.vf 189), (.vf 190))]
def x0_4Q : Qua := []
def x0_4QE : QuE := []
theorem x0_4a : trisOK xN0 [] x0_4T = true := by kernel_rfl
theorem x0_4b : tesOK xN0 x0_4T x0_4TE = true := by kernel_rfl
theorem x0_4c : quasOK xN0 [] x0_4Q = true := by kernel_rfl
theorem x0_4d : qesOK xN0 x0_4Q x0_4QE = true := by kernel_rfl
theorem x0_4 : lawRunF 4 10 200 [.i, .q, .q, .q] [(0, 3, 0)] (lenL 1 4 8 ++ []) xN0 x0_4TE x0_4QE x0_4ms = true := by kernel_rfl
def x0_5m0 : Memo :=  (⟨[(.ag [(.i .i64 1), (.sl 11 0 7 (.u 4)), (.sl 10 0 1 (.u 1))]), (.c (.sl 35 0 1 (.u 1)))], [(10, xb1_5), (11, xb1_6), (35, [(.ef xm1_8)])], 38, (.c (.sl 40 0 1 (.n 1))), [(10, xb1_5), (11, xb1_6), (35, [(.ef xm1_8)]), (40, [(.ef (.vf 197))])], 75⟩) 
theorem x0_5o0 : mok [(0, 3, 0)] (lenL 1 5 8 ++ []) xN0 15 x0_5m0 = true := by kernel_rfl
def x0_5m1 : Memo :=  (⟨[(.ag [(.i .i64 1), (.sl 11 0 7 (.u 4)), (.sl 10 0 1 (.u 1))]), (.c (.sl 37 0 1 (.u 2)))], [(10, xb1_5), (11, xb1_6), (37, xb1_2)], 75, (.c (.sl 77 0 1 (.n 1))), [(10, xb1_5), (11, xb1_6), (37, xb1_2), (77, [(.ef (.vf 214)), (.ef (.vf 215))])], 125⟩) 
theorem x0_5o1 : mok [(0, 3, 0)] (lenL 1 5 8 ++ []) xN0 16 x0_5m1 = true := by kernel_rfl
def x0_5ms : List (Nat × List Memo) := [(15, [x0_5m0]), (16, [x0_5m1])]
theorem x0_5mo : AllMem (memRun [(0, 3, 0)] (lenL 1 5 8 ++ []) xN0) x0_5ms := ⟨⟨x0_5o0, trivial⟩, ⟨x0_5o1, trivial⟩, trivial⟩
def x0_5T : Tri := [(100, 111, 110), (101, 113, 112), (102, 115, 114), (118, 124, 125), (119, 126, 127), (120, 135, 134), (121, 137, 136), (122, 139, 138), (142, 148, 149), (143, 150, 151), (144, 159, 158), (145, 161, 160), (146, 163, 162), (167, 173, 174), (168, 175, 176), (169, 184, 183), (170, 186, 185), (171, 188, 187), (192, 198, 199), (193, 200, 201), (194, 209, 208), (195, 211, 210), (196, 213, 212), (197, 214, 215)]
def x0_5TE : TrE := [((.vf 197), (.vf 214), (.vf 215))]
def x0_5Q : Qua := []
def x0_5QE : QuE := []
theorem x0_5a : trisOK xN0 [] x0_5T = true := by kernel_rfl
theorem x0_5b : tesOK xN0 x0_5T x0_5TE = true := by kernel_rfl
theorem x0_5c : quasOK xN0 [] x0_5Q = true := by kernel_rfl
theorem x0_5d : qesOK xN0 x0_5Q x0_5QE = true := by kernel_rfl
theorem x0_5 : lawRunF 4 10 200 [.i, .q, .q, .q] [(0, 3, 0)] (lenL 1 5 8 ++ []) xN0 x0_5TE x0_5QE x0_5ms = true := by kernel_rfl
end Go.Proofs.Ytilhcamdjehpnaa
