/-
  'TapeHolds': runs of it, part 2.
-/
import Derived.Test.YtilhcamdjehpnaaTapeHoldst0
namespace Go.Proofs.Ytilhcamdjehpnaa
open Go.RowKit Ex
set_option maxRecDepth 1000000
set_option maxHeartbeats 100000000
def xm2_0 : E := (.ai 9 0 (.ci (.ib .add .i64 (.ib .quo .i64 (.vi 0) (.li 3)) (.li 0)) (.ci (.li 3) .n0)))
def xm2_1 : E := (.ib .sub .i64 (.ai 9 0 (.ci (.vi 0) (.ci (.li 17) .n0))) (.li 8))
def xm2_2 : E := (.ic .eql (.ai 9 0 (.ci (.at 1 0) (.ci (.li 11) .n0))) (.li 0))
def xm2_3 : E := (.ib .sub .i64 (.ai 9 0 (.ci (.ib .quo .i64 (.at 1 0) (.li 11)) (.ci (.li 33) .n0))) (.li 16))
def xm2_4 : E := (.ic .eql (.ai 9 0 (.ci (.at 1 1) (.ci (.li 11) .n0))) (.li 0))
def xm2_5 : E := (.ib .sub .i64 (.ai 9 0 (.ci (.ib .quo .i64 (.at 1 1) (.li 11)) (.ci (.li 33) .n0))) (.li 16))
def xm2_6 : E := (.ic .eql (.ai 9 0 (.ci (.at 1 2) (.ci (.li 11) .n0))) (.li 0))
def xm2_7 : E := (.ib .sub .i64 (.ai 9 0 (.ci (.ib .quo .i64 (.at 1 2) (.li 11)) (.ci (.li 33) .n0))) (.li 16))
def xm2_8 : E := (.ic .eql (.ai 9 0 (.ci (.at 1 3) (.ci (.li 11) .n0))) (.li 0))
def xm2_9 : E := (.ib .sub .i64 (.ai 9 0 (.ci (.ib .quo .i64 (.at 1 3) (.li 11)) (.ci (.li 33) .n0))) (.li 16))
def xm2_10 : E := (.ic .eql (.ai 9 0 (.ci (.at 1 4) (.ci (.li 11) .n0))) (.li 0))
def xm2_11 : E := (.ib .sub .i64 (.ai 9 0 (.ci (.ib .quo .i64 (.at 1 4) (.li 11)) (.ci (.li 33) .n0))) (.li 16))
def xm2_12 : E := (.ic .eql (.ai 9 0 (.ci (.at 1 5) (.ci (.li 11) .n0))) (.li 0))
def xm2_13 : E := (.ib .sub .i64 (.ai 9 0 (.ci (.ib .quo .i64 (.at 1 5) (.li 11)) (.ci (.li 33) .n0))) (.li 16))
def xm2_14 : E := (.i2f (.ib .sub .i64 (.ai 9 0 (.ci (.ti (.ic .lss (.li 0) (.vl 2)) (.at 2 0) (.li 0)) (.ci (.li 7) .n0))) (.li 3)))
def xm2_15 : E := (.ti (.ic .lss (.li 0) (.vl 3)) (.at 3 0) (.li 0))
def xm2_16 : E := (.ic .eql (.ai 9 0 (.ci (.at 1 6) (.ci (.li 11) .n0))) (.li 0))
def xm2_17 : E := (.ib .sub .i64 (.ai 9 0 (.ci (.ib .quo .i64 (.at 1 6) (.li 11)) (.ci (.li 33) .n0))) (.li 16))
def xm2_18 : E := (.ic .eql (.ai 9 0 (.ci (.at 1 7) (.ci (.li 11) .n0))) (.li 0))
def xm2_19 : E := (.ib .sub .i64 (.ai 9 0 (.ci (.ib .quo .i64 (.at 1 7) (.li 11)) (.ci (.li 33) .n0))) (.li 16))
def xk2_0 : Blk := [(.i .i64 1), (.i .i64 0), (.i .i64 0), (.f 0)]
def xk2_1 : Blk := [(.i .i64 0), (.i .i64 0), (.i .i64 0), (.ef (.fb .quo (.i2f (.ib .sub .i64 xm2_1 (.ai 9 0 (.ci xm2_1 (.ci (.li 4) .n0))))) (.lf 4616189618054758400)))]
def xk2_2 : Blk := [(.ei .i64 (.ti xm2_2 (.li 0) (.ib .add .i64 (.li 2) (.ai 9 0 (.ci (.at 1 0) (.ci (.li 3) .n0)))))), (.ei .i64 (.ti xm2_2 (.li 0) (.ai 9 0 (.ci (.ib .quo .i64 (.at 1 0) (.li 4)) (.ci (.li 2) .n0))))), (.ei .i64 (.ti xm2_2 (.li 0) (.ai 9 0 (.ci (.ib .quo .i64 (.at 1 0) (.li 40)) (.ci (.li 2) .n0))))), (.ef (.tf xm2_2 (.tf xm2_2 (.fb .quo (.i2f (.ib .sub .i64 xm2_3 (.ai 9 0 (.ci xm2_3 (.ci (.li 8) .n0))))) (.lf 4620693217682128896)) (.lf 0)) (.tf xm2_2 (.fb .quo (.i2f xm2_3) (.lf 4620693217682128896)) (.lf 0))))]
def xk2_3 : Blk := [(.ei .i64 (.ti xm2_4 (.li 0) (.ib .add .i64 (.li 2) (.ai 9 0 (.ci (.at 1 1) (.ci (.li 3) .n0)))))), (.ei .i64 (.ti xm2_4 (.li 0) (.ai 9 0 (.ci (.ib .quo .i64 (.at 1 1) (.li 4)) (.ci (.li 3) .n0))))), (.ei .i64 (.ti xm2_4 (.li 0) (.ai 9 0 (.ci (.ib .quo .i64 (.at 1 1) (.li 40)) (.ci (.li 3) .n0))))), (.ef (.tf xm2_4 (.tf xm2_4 (.fb .quo (.i2f (.ib .sub .i64 xm2_5 (.ai 9 0 (.ci xm2_5 (.ci (.li 8) .n0))))) (.lf 4620693217682128896)) (.lf 0)) (.tf xm2_4 (.fb .quo (.i2f xm2_5) (.lf 4620693217682128896)) (.lf 0))))]
def xk2_4 : Blk := [(.ei .i64 (.ti xm2_6 (.li 0) (.ib .add .i64 (.li 2) (.ai 9 0 (.ci (.at 1 2) (.ci (.li 3) .n0)))))), (.ei .i64 (.ti xm2_6 (.li 0) (.ai 9 0 (.ci (.ib .quo .i64 (.at 1 2) (.li 4)) (.ci (.li 4) .n0))))), (.ei .i64 (.ti xm2_6 (.li 0) (.ai 9 0 (.ci (.ib .quo .i64 (.at 1 2) (.li 40)) (.ci (.li 4) .n0))))), (.ef (.tf xm2_6 (.tf xm2_6 (.fb .quo (.i2f (.ib .sub .i64 xm2_7 (.ai 9 0 (.ci xm2_7 (.ci (.li 8) .n0))))) (.lf 4620693217682128896)) (.lf 0)) (.tf xm2_6 (.fb .quo (.i2f xm2_7) (.lf 4620693217682128896)) (.lf 0))))]
def xk2_5 : Blk := [(.ei .i64 (.ti xm2_8 (.li 0) (.ib .add .i64 (.li 2) (.ai 9 0 (.ci (.at 1 3) (.ci (.li 3) .n0)))))), (.ei .i64 (.ti xm2_8 (.li 0) (.ai 9 0 (.ci (.ib .quo .i64 (.at 1 3) (.li 4)) (.ci (.li 5) .n0))))), (.ei .i64 (.ti xm2_8 (.li 0) (.ai 9 0 (.ci (.ib .quo .i64 (.at 1 3) (.li 40)) (.ci (.li 5) .n0))))), (.ef (.tf xm2_8 (.tf xm2_8 (.fb .quo (.i2f (.ib .sub .i64 xm2_9 (.ai 9 0 (.ci xm2_9 (.ci (.li 8) .n0))))) (.lf 4620693217682128896)) (.lf 0)) (.tf xm2_8 (.fb .quo (.i2f xm2_9) (.lf 4620693217682128896)) (.lf 0))))]
def xk2_6 : Blk := [(.ei .i64 (.ti xm2_10 (.li 0) (.ib .add .i64 (.li 2) (.ai 9 0 (.ci (.at 1 4) (.ci (.li 3) .n0)))))), (.ei .i64 (.ti xm2_10 (.li 0) (.ai 9 0 (.ci (.ib .quo .i64 (.at 1 4) (.li 4)) (.ci (.li 6) .n0))))), (.ei .i64 (.ti xm2_10 (.li 0) (.ai 9 0 (.ci (.ib .quo .i64 (.at 1 4) (.li 40)) (.ci (.li 6) .n0))))), (.ef (.tf xm2_10 (.tf xm2_10 (.fb .quo (.i2f (.ib .sub .i64 xm2_11 (.ai 9 0 (.ci xm2_11 (.ci (.li 8) .n0))))) (.lf 4620693217682128896)) (.lf 0)) (.tf xm2_10 (.fb .quo (.i2f xm2_11) (.lf 4620693217682128896)) (.lf 0))))]
def xk2_7 : Blk := [(.ei .i64 (.ti xm2_12 (.li 0) (.ib .add .i64 (.li 2) (.ai 9 0 (.ci (.at 1 5) (.ci (.li 3) .n0)))))), (.ei .i64 (.ti xm2_12 (.li 0) (.ai 9 0 (.ci (.ib .quo .i64 (.at 1 5) (.li 4)) (.ci (.li 7) .n0))))), (.ei .i64 (.ti xm2_12 (.li 0) (.ai 9 0 (.ci (.ib .quo .i64 (.at 1 5) (.li 40)) (.ci (.li 7) .n0))))), (.ef (.tf xm2_12 (.tf xm2_12 (.fb .quo (.i2f (.ib .sub .i64 xm2_13 (.ai 9 0 (.ci xm2_13 (.ci (.li 8) .n0))))) (.lf 4620693217682128896)) (.lf 0)) (.tf xm2_12 (.fb .quo (.i2f xm2_13) (.lf 4620693217682128896)) (.lf 0))))]
def xk2_8 : Blk := [(.ei .i64 (.ti xm2_16 (.li 0) (.ib .add .i64 (.li 2) (.ai 9 0 (.ci (.at 1 6) (.ci (.li 3) .n0)))))), (.ei .i64 (.ti xm2_16 (.li 0) (.ai 9 0 (.ci (.ib .quo .i64 (.at 1 6) (.li 4)) (.ci (.li 8) .n0))))), (.ei .i64 (.ti xm2_16 (.li 0) (.ai 9 0 (.ci (.ib .quo .i64 (.at 1 6) (.li 40)) (.ci (.li 8) .n0))))), (.ef (.tf xm2_16 (.tf xm2_16 (.fb .quo (.i2f (.ib .sub .i64 xm2_17 (.ai 9 0 (.ci xm2_17 (.ci (.li 8) .n0))))) (.lf 4620693217682128896)) (.lf 0)) (.tf xm2_16 (.fb .quo (.i2f xm2_17) (.lf 4620693217682128896)) (.lf 0))))]
def xb2_0 : Blk := [(.ei .i64 (.ib .sub .i64 (.li 7) xm2_0))]
def xb2_1 : Blk := xk2_0 ++ xk2_1 ++ xk2_2 ++ xk2_3 ++ xk2_4 ++ xk2_5 ++ xk2_6 ++ xk2_7
def xb2_2 : Blk := [(.ef (.fb .sub xm2_14 (.i2f (.ai 9 0 (.ci xm2_15 (.ci (.li 4) .n0)))))), (.ef (.fb .add xm2_14 (.i2f (.ai 9 0 (.ci (.ib .quo .i64 xm2_15 (.li 4)) (.ci (.li 4) .n0))))))]
def xb2_3 : Blk := [(.ei .i64 (.ib .sub .i64 (.li 8) xm2_0))]
def xb2_4 : Blk := xk2_0 ++ xk2_1 ++ xk2_2 ++ xk2_3 ++ xk2_4 ++ xk2_5 ++ xk2_6 ++ xk2_7 ++ xk2_8
def xb2_5 : Blk := [(.ei .i64 (.ib .sub .i64 (.li 9) xm2_0))]
def xb2_6 : Blk := xk2_0 ++ xk2_1 ++ xk2_2 ++ xk2_3 ++ xk2_4 ++ xk2_5 ++ xk2_6 ++ xk2_7 ++ xk2_8 ++ [(.ei .i64 (.ti xm2_18 (.li 0) (.ib .add .i64 (.li 2) (.ai 9 0 (.ci (.at 1 7) (.ci (.li 3) .n0)))))), (.ei .i64 (.ti xm2_18 (.li 0) (.ai 9 0 (.ci (.ib .quo .i64 (.at 1 7) (.li 4)) (.ci (.li 9) .n0))))), (.ei .i64 (.ti xm2_18 (.li 0) (.ai 9 0 (.ci (.ib .quo .i64 (.at 1 7) (.li 40)) (.ci (.li 9) .n0))))), (.ef (.tf xm2_18 (.tf xm2_18 (.fb .quo (.i2f (.ib .sub .i64 xm2_19 (.ai 9 0 (.ci xm2_19 (.ci (.li 8) .n0))))) (.lf 4620693217682128896)) (.lf 0)) (.tf xm2_18 (.fb .quo (.i2f xm2_19) (.lf 4620693217682128896)) (.lf 0))))]
def x0_6m0 : Memo :=  (⟨[(.ag [(.i .i64 1), (.sl 11 0 8 (.u 4)), (.sl 10 0 1 (.u 1))]), (.c (.sl 38 0 1 (.u 1)))], [(10, xb2_0), (11, xb2_1), (38, [(.ef xm2_14)])], 41, (.c (.sl 43 0 1 (.n 1))), [(10, xb2_0), (11, xb2_1), (38, [(.ef xm2_14)]), (43, [(.ef (.vf 223))])], 82⟩) 
theorem x0_6o0 : mok [(0, 3, 0)] (lenL 1 6 8 ++ []) xN0 15 x0_6m0 = true := by kernel_rfl
def x0_6m1 : Memo :=  (⟨[(.ag [(.i .i64 1), (.sl 11 0 8 (.u 4)), (.sl 10 0 1 (.u 1))]), (.c (.sl 40 0 1 (.u 2)))], [(10, xb2_0), (11, xb2_1), (40, xb2_2)], 82, (.c (.sl 84 0 1 (.n 1))), [(10, xb2_0), (11, xb2_1), (40, xb2_2), (84, [(.ef (.vf 240)), (.ef (.vf 241))])], 138⟩) 
theorem x0_6o1 : mok [(0, 3, 0)] (lenL 1 6 8 ++ []) xN0 16 x0_6m1 = true := by kernel_rfl
def x0_6ms : List (Nat × List Memo) := [(15, [x0_6m0]), (16, [x0_6m1])]
theorem x0_6mo : AllMem (memRun [(0, 3, 0)] (lenL 1 6 8 ++ []) xN0) x0_6ms := ⟨⟨x0_6o0, trivial⟩, ⟨x0_6o1, trivial⟩, trivial⟩
def x0_6T : Tri := [(100, 111, 110), (101, 113, 112), (102, 115, 114), (118, 124, 125), (119, 126, 127), (120, 135, 134), (121, 137, 136), (122, 139, 138), (142, 148, 149), (143, 150, 151), (144, 159, 158), (145, 161, 160), (146, 163, 162), (167, 173, 174), (168, 175, 176), (169, 184, 183), (170, 186, 185), (171, 188, 187), (192, 198, 199), (193, 200, 201), (194, 209, 208), (195, 211, 210), (196, 213, 212), (218, 224, 225), (219, 226, 227), (220, 235, 234), (221, 237, 236), (222, 239, 238), (223, 240, 241)]
def x0_6TE : TrE := [((.vf 223), (.vf 240), (.vf 241))]
def x0_6Q : Qua := []
def x0_6QE : QuE := []
theorem x0_6a : trisOK xN0 [] x0_6T = true := by kernel_rfl
theorem x0_6b : tesOK xN0 x0_6T x0_6TE = true := by kernel_rfl
theorem x0_6c : quasOK xN0 [] x0_6Q = true := by kernel_rfl
theorem x0_6d : qesOK xN0 x0_6Q x0_6QE = true := by kernel_rfl
theorem x0_6 : lawRunF 4 10 200 [.i, .q, .q, .q] [(0, 3, 0)] (lenL 1 6 8 ++ []) xN0 x0_6TE x0_6QE x0_6ms = true := by kernel_rfl
def x0_7m0 : Memo :=  (⟨[(.ag [(.i .i64 1), (.sl 11 0 9 (.u 4)), (.sl 10 0 1 (.u 1))]), (.c (.sl 41 0 1 (.u 1)))], [(10, xb2_3), (11, xb2_4), (41, [(.ef xm2_14)])], 44, (.c (.sl 46 0 1 (.n 1))), [(10, xb2_3), (11, xb2_4), (41, [(.ef xm2_14)]), (46, [(.ef (.vf 249))])], 89⟩) 
theorem x0_7o0 : mok [(0, 3, 0)] (lenL 1 7 8 ++ []) xN0 15 x0_7m0 = true := by kernel_rfl
def x0_7m1 : Memo :=  (⟨[(.ag [(.i .i64 1), (.sl 11 0 9 (.u 4)), (.sl 10 0 1 (.u 1))]), (.c (.sl 43 0 1 (.u 2)))], [(10, xb2_3), (11, xb2_4), (43, xb2_2)], 89, (.c (.sl 91 0 1 (.n 1))), [(10, xb2_3), (11, xb2_4), (43, xb2_2), (91, [(.ef (.vf 266)), (.ef (.vf 267))])], 151⟩) 
theorem x0_7o1 : mok [(0, 3, 0)] (lenL 1 7 8 ++ []) xN0 16 x0_7m1 = true := by kernel_rfl
def x0_7ms : List (Nat × List Memo) := [(15, [x0_7m0]), (16, [x0_7m1])]
theorem x0_7mo : AllMem (memRun [(0, 3, 0)] (lenL 1 7 8 ++ []) xN0) x0_7ms := ⟨⟨x0_7o0, trivial⟩, ⟨x0_7o1, trivial⟩, trivial⟩
def x0_7T : Tri := [(100, 111, 110), (101, 113, 112), (102, 115, 114), (118, 124, 125), (119, 126, 127), (120, 135, 134), (121, 137, 136), (122, 139, 138), (142, 148, 149), (143, 150, 151), (144, 159, 158), (145, 161, 160), (146, 163, 162), (167, 173, 174), (168, 175, 176), (169, 184, 183), (170, 186, 185), (171, 188, 187), (192, 198, 199), (193, 200, 201), (194, 209, 208), (195, 211, 210), (196, 213, 212), (218, 224, 225), (219, 226, 227), (220, 235, 234), (221, 237, 236), (222, 239, 238), (244, 250, 251), (245, 252, 253), (246, 261, 260), (247, 263, 262), (248, 265, 264), (249, 266, 267)]
def x0_7TE : TrE := [((.vf 249), (.vf 266), (.vf 267))]
def x0_7Q : Qua := []
def x0_7QE : QuE := []
theorem x0_7a : trisOK xN0 [] x0_7T = true := by kernel_rfl
theorem x0_7b : tesOK xN0 x0_7T x0_7TE = true := by kernel_rfl
theorem x0_7c : quasOK xN0 [] x0_7Q = true := by kernel_rfl
theorem x0_7d : qesOK xN0 x0_7Q x0_7QE = true := by kernel_rfl
theorem x0_7 : lawRunF 4 10 200 [.i, .q, .q, .q] [(0, 3, 0)] (lenL 1 7 8 ++ []) xN0 x0_7TE x0_7QE x0_7ms = true := by kernel_rfl
def x0_8m0 : Memo :=  (⟨[(.ag [(.i .i64 1), (.sl 11 0 10 (.u 4)), (.sl 10 0 1 (.u 1))]), (.c (.sl 44 0 1 (.u 1)))], [(10, xb2_5), (11, xb2_6), (44, [(.ef xm2_14)])], 47, (.c (.sl 49 0 1 (.n 1))), [(10, xb2_5), (11, xb2_6), (44, [(.ef xm2_14)]), (49, [(.ef (.vf 275))])], 96⟩) 
theorem x0_8o0 : mok [(0, 3, 0)] (lenL 1 8 8 ++ []) xN0 15 x0_8m0 = true := by kernel_rfl
def x0_8m1 : Memo :=  (⟨[(.ag [(.i .i64 1), (.sl 11 0 10 (.u 4)), (.sl 10 0 1 (.u 1))]), (.c (.sl 46 0 1 (.u 2)))], [(10, xb2_5), (11, xb2_6), (46, xb2_2)], 96, (.c (.sl 98 0 1 (.n 1))), [(10, xb2_5), (11, xb2_6), (46, xb2_2), (98, [(.ef (.vf 292)), (.ef (.vf 293))])], 164⟩) 
theorem x0_8o1 : mok [(0, 3, 0)] (lenL 1 8 8 ++ []) xN0 16 x0_8m1 = true := by kernel_rfl
def x0_8ms : List (Nat × List Memo) := [(15, [x0_8m0]), (16, [x0_8m1])]
theorem x0_8mo : AllMem (memRun [(0, 3, 0)] (lenL 1 8 8 ++ []) xN0) x0_8ms := ⟨⟨x0_8o0, trivial⟩, ⟨x0_8o1, trivial⟩, trivial⟩
def x0_8T : Tri := [(100, 111, 110), (101, 113, 112), (102, 115, 114), (118, 124, 125), (119, 126, 127), (120, 135, 134), (121, 137, 136), (122, 139, 138), (142, 148, 149), (143, 150, 151), (144, 159, 158), (145, 161, 160), (146, 163, 162), (167, 173, 174), (168, 175, 176), (169, 184, 183), (170, 186, 185), (171, 188, 187), (192, 198, 199), (193, 200, 201), (194, 209, 208), (195, 211, 210), (196, 213, 212), (218, 224, 225), (219, 226, 227), (220, 235, 234), (221, 237, 236), (222, 239, 238), (244, 250, 251), (245, 252, 253), (246, 261, 260), (247, 263, 262), (248, 265, 264), (270, 276, 277), (271, 278, 279), (272, 287, 286), (273, 289, 288), (274, 291, 290), (275, 292, 293)]
def x0_8TE : TrE := [((.vf 275), (.vf 292), (.vf 293))]
def x0_8Q : Qua := []
def x0_8QE : QuE := []
theorem x0_8a : trisOK xN0 [] x0_8T = true := by kernel_rfl
theorem x0_8b : tesOK xN0 x0_8T x0_8TE = true := by kernel_rfl
theorem x0_8c : quasOK xN0 [] x0_8Q = true := by kernel_rfl
theorem x0_8d : qesOK xN0 x0_8Q x0_8QE = true := by kernel_rfl
theorem x0_8 : lawRunF 4 10 200 [.i, .q, .q, .q] [(0, 3, 0)] (lenL 1 8 8 ++ []) xN0 x0_8TE x0_8QE x0_8ms = true := by kernel_rfl
end Go.Proofs.Ytilhcamdjehpnaa
