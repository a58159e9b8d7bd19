/-
  'TapeHolds': runs of it, part 7.
-/
import Derived.Test.YtilhcamdjehpnaaTapeHoldst2
namespace Go.Proofs.Ytilhcamdjehpnaa
open Go.RowKit Ex
set_option maxRecDepth 1000000
set_option maxHeartbeats 100000000
def xm7_0 : E := (.ib .quo .i64 (.vi 0) (.li 3))
def xm7_1 : E := (.ai 9 0 (.ci (.ib .add .i64 xm7_0 (.li 0)) (.ci (.li 3) .n0)))
def xm7_2 : E := (.ai 9 0 (.ci (.ib .add .i64 xm7_0 (.li 1)) (.ci (.li 3) .n0)))
def xm7_3 : E := (.ai 9 0 (.ci (.ib .add .i64 xm7_0 (.li 2)) (.ci (.li 3) .n0)))
def xm7_4 : E := (.ib .sub .i64 (.ai 9 0 (.ci (.vi 0) (.ci (.li 17) .n0))) (.li 8))
def xm7_5 : E := (.ic .eql (.ai 9 0 (.ci (.at 1 0) (.ci (.li 11) .n0))) (.li 0))
def xm7_6 : E := (.ib .sub .i64 (.ai 9 0 (.ci (.ib .quo .i64 (.at 1 0) (.li 11)) (.ci (.li 33) .n0))) (.li 16))
def xm7_7 : E := (.ic .eql (.ai 9 0 (.ci (.at 1 1) (.ci (.li 11) .n0))) (.li 0))
def xm7_8 : E := (.ib .sub .i64 (.ai 9 0 (.ci (.ib .quo .i64 (.at 1 1) (.li 11)) (.ci (.li 33) .n0))) (.li 16))
def xm7_9 : E := (.ic .eql (.ai 9 0 (.ci (.at 1 2) (.ci (.li 11) .n0))) (.li 0))
def xm7_10 : E := (.ib .sub .i64 (.ai 9 0 (.ci (.ib .quo .i64 (.at 1 2) (.li 11)) (.ci (.li 33) .n0))) (.li 16))
def xm7_11 : E := (.i2f (.ib .sub .i64 (.ai 9 0 (.ci (.ti (.ic .lss (.li 0) (.vl 2)) (.at 2 0) (.li 0)) (.ci (.li 7) .n0))) (.li 3)))
def xm7_12 : E := (.i2f (.ib .sub .i64 (.ai 9 0 (.ci (.ti (.ic .lss (.li 1) (.vl 2)) (.at 2 1) (.li 1)) (.ci (.li 7) .n0))) (.li 3)))
def xm7_13 : E := (.i2f (.ib .sub .i64 (.ai 9 0 (.ci (.ti (.ic .lss (.li 2) (.vl 2)) (.at 2 2) (.li 2)) (.ci (.li 7) .n0))) (.li 3)))
def xm7_14 : E := (.ti (.ic .lss (.li 0) (.vl 3)) (.at 3 0) (.li 0))
def xm7_15 : E := (.ti (.ic .lss (.li 1) (.vl 3)) (.at 3 1) (.li 0))
def xm7_16 : E := (.ti (.ic .lss (.li 2) (.vl 3)) (.at 3 2) (.li 0))
def xm7_17 : E := (.ic .eql (.ai 9 0 (.ci (.at 1 3) (.ci (.li 11) .n0))) (.li 0))
def xm7_18 : E := (.ib .sub .i64 (.ai 9 0 (.ci (.ib .quo .i64 (.at 1 3) (.li 11)) (.ci (.li 33) .n0))) (.li 16))
def xm7_19 : E := (.ic .eql (.ai 9 0 (.ci (.at 1 4) (.ci (.li 11) .n0))) (.li 0))
def xm7_20 : E := (.ib .sub .i64 (.ai 9 0 (.ci (.ib .quo .i64 (.at 1 4) (.li 11)) (.ci (.li 33) .n0))) (.li 16))
def xk7_0 : Blk := [(.i .i64 1), (.i .i64 0), (.i .i64 0), (.f 0)]
def xk7_1 : Blk := [(.i .i64 1), (.i .i64 1), (.i .i64 0), (.f 0)]
def xk7_2 : Blk := [(.i .i64 1), (.i .i64 2), (.i .i64 0), (.f 0)]
def xk7_3 : Blk := [(.i .i64 0), (.i .i64 0), (.i .i64 0), (.ef (.fb .quo (.i2f (.ib .sub .i64 xm7_4 (.ai 9 0 (.ci xm7_4 (.ci (.li 4) .n0))))) (.lf 4616189618054758400)))]
def xk7_4 : Blk := [(.ei .i64 (.ti xm7_5 (.li 0) (.ib .add .i64 (.li 2) (.ai 9 0 (.ci (.at 1 0) (.ci (.li 3) .n0)))))), (.ei .i64 (.ti xm7_5 (.li 0) (.ai 9 0 (.ci (.ib .quo .i64 (.at 1 0) (.li 4)) (.ci (.li 4) .n0))))), (.ei .i64 (.ti xm7_5 (.li 0) (.ai 9 0 (.ci (.ib .quo .i64 (.at 1 0) (.li 40)) (.ci (.li 4) .n0))))), (.ef (.tf xm7_5 (.tf xm7_5 (.fb .quo (.i2f (.ib .sub .i64 xm7_6 (.ai 9 0 (.ci xm7_6 (.ci (.li 8) .n0))))) (.lf 4620693217682128896)) (.lf 0)) (.tf xm7_5 (.fb .quo (.i2f xm7_6) (.lf 4620693217682128896)) (.lf 0))))]
def xk7_5 : Blk := [(.ei .i64 (.ti xm7_7 (.li 0) (.ib .add .i64 (.li 2) (.ai 9 0 (.ci (.at 1 1) (.ci (.li 3) .n0)))))), (.ei .i64 (.ti xm7_7 (.li 0) (.ai 9 0 (.ci (.ib .quo .i64 (.at 1 1) (.li 4)) (.ci (.li 5) .n0))))), (.ei .i64 (.ti xm7_7 (.li 0) (.ai 9 0 (.ci (.ib .quo .i64 (.at 1 1) (.li 40)) (.ci (.li 5) .n0))))), (.ef (.tf xm7_7 (.tf xm7_7 (.fb .quo (.i2f (.ib .sub .i64 xm7_8 (.ai 9 0 (.ci xm7_8 (.ci (.li 8) .n0))))) (.lf 4620693217682128896)) (.lf 0)) (.tf xm7_7 (.fb .quo (.i2f xm7_8) (.lf 4620693217682128896)) (.lf 0))))]
def xk7_6 : Blk := [(.ei .i64 (.ti xm7_9 (.li 0) (.ib .add .i64 (.li 2) (.ai 9 0 (.ci (.at 1 2) (.ci (.li 3) .n0)))))), (.ei .i64 (.ti xm7_9 (.li 0) (.ai 9 0 (.ci (.ib .quo .i64 (.at 1 2) (.li 4)) (.ci (.li 6) .n0))))), (.ei .i64 (.ti xm7_9 (.li 0) (.ai 9 0 (.ci (.ib .quo .i64 (.at 1 2) (.li 40)) (.ci (.li 6) .n0))))), (.ef (.tf xm7_9 (.tf xm7_9 (.fb .quo (.i2f (.ib .sub .i64 xm7_10 (.ai 9 0 (.ci xm7_10 (.ci (.li 8) .n0))))) (.lf 4620693217682128896)) (.lf 0)) (.tf xm7_9 (.fb .quo (.i2f xm7_10) (.lf 4620693217682128896)) (.lf 0))))]
def xk7_7 : Blk := [(.ei .i64 (.ti xm7_17 (.li 0) (.ib .add .i64 (.li 2) (.ai 9 0 (.ci (.at 1 3) (.ci (.li 3) .n0)))))), (.ei .i64 (.ti xm7_17 (.li 0) (.ai 9 0 (.ci (.ib .quo .i64 (.at 1 3) (.li 4)) (.ci (.li 7) .n0))))), (.ei .i64 (.ti xm7_17 (.li 0) (.ai 9 0 (.ci (.ib .quo .i64 (.at 1 3) (.li 40)) (.ci (.li 7) .n0))))), (.ef (.tf xm7_17 (.tf xm7_17 (.fb .quo (.i2f (.ib .sub .i64 xm7_18 (.ai 9 0 (.ci xm7_18 (.ci (.li 8) .n0))))) (.lf 4620693217682128896)) (.lf 0)) (.tf xm7_17 (.fb .quo (.i2f xm7_18) (.lf 4620693217682128896)) (.lf 0))))]
def xb7_0 : Blk := [(.ei .i64 (.ib .sub .i64 (.li 6) xm7_1)), (.ei .i64 (.ib .sub .i64 (.li 6) xm7_2)), (.ei .i64 (.ib .sub .i64 (.li 6) xm7_3))]
def xb7_1 : Blk := xk7_0 ++ xk7_1 ++ xk7_2 ++ xk7_3 ++ xk7_4 ++ xk7_5 ++ xk7_6
def xb7_2 : Blk := [(.ef xm7_11), (.ef xm7_12), (.ef xm7_13)]
def xb7_3 : Blk := [(.ef (.fb .sub xm7_11 (.i2f (.ai 9 0 (.ci xm7_14 (.ci (.li 4) .n0)))))), (.ef (.fb .add xm7_11 (.i2f (.ai 9 0 (.ci (.ib .quo .i64 xm7_14 (.li 4)) (.ci (.li 4) .n0)))))), (.ef (.fb .sub xm7_12 (.i2f (.ai 9 0 (.ci xm7_15 (.ci (.li 4) .n0)))))), (.ef (.fb .add xm7_12 (.i2f (.ai 9 0 (.ci (.ib .quo .i64 xm7_15 (.li 4)) (.ci (.li 4) .n0)))))), (.ef (.fb .sub xm7_13 (.i2f (.ai 9 0 (.ci xm7_16 (.ci (.li 4) .n0)))))), (.ef (.fb .add xm7_13 (.i2f (.ai 9 0 (.ci (.ib .quo .i64 xm7_16 (.li 4)) (.ci (.li 4) .n0))))))]
def xb7_4 : Blk := [(.ei .i64 (.ib .sub .i64 (.li 7) xm7_1)), (.ei .i64 (.ib .sub .i64 (.li 7) xm7_2)), (.ei .i64 (.ib .sub .i64 (.li 7) xm7_3))]
def xb7_5 : Blk := xk7_0 ++ xk7_1 ++ xk7_2 ++ xk7_3 ++ xk7_4 ++ xk7_5 ++ xk7_6 ++ xk7_7
def xb7_6 : Blk := [(.ei .i64 (.ib .sub .i64 (.li 8) xm7_1)), (.ei .i64 (.ib .sub .i64 (.li 8) xm7_2)), (.ei .i64 (.ib .sub .i64 (.li 8) xm7_3))]
def xb7_7 : Blk := xk7_0 ++ xk7_1 ++ xk7_2 ++ xk7_3 ++ xk7_4 ++ xk7_5 ++ xk7_6 ++ xk7_7 ++ [(.ei .i64 (.ti xm7_19 (.li 0) (.ib .add .i64 (.li 2) (.ai 9 0 (.ci (.at 1 4) (.ci (.li 3) .n0)))))), (.ei .i64 (.ti xm7_19 (.li 0) (.ai 9 0 (.ci (.ib .quo .i64 (.at 1 4) (.li 4)) (.ci (.li 8) .n0))))), (.ei .i64 (.ti xm7_19 (.li 0) (.ai 9 0 (.ci (.ib .quo .i64 (.at 1 4) (.li 40)) (.ci (.li 8) .n0))))), (.ef (.tf xm7_19 (.tf xm7_19 (.fb .quo (.i2f (.ib .sub .i64 xm7_20 (.ai 9 0 (.ci xm7_20 (.ci (.li 8) .n0))))) (.lf 4620693217682128896)) (.lf 0)) (.tf xm7_19 (.fb .quo (.i2f xm7_20) (.lf 4620693217682128896)) (.lf 0))))]
def x2_3m0 : Memo :=  (⟨[(.ag [(.i .i64 3), (.sl 11 0 7 (.u 4)), (.sl 10 0 3 (.u 1))]), (.c (.sl 45 0 3 (.u 1)))], [(10, xb7_0), (11, xb7_1), (45, xb7_2)], 48, (.c (.sl 50 0 3 (.n 3))), [(10, xb7_0), (11, xb7_1), (45, xb7_2), (50, [(.ef (.vf 162)), (.ef (.vf 163)), (.ef (.vf 164))])], 85⟩) 
theorem x2_3o0 : mok [(0, 3, 2)] (lenL 1 3 8 ++ []) xN2 15 x2_3m0 = true := by kernel_rfl
def x2_3m1 : Memo :=  (⟨[(.ag [(.i .i64 3), (.sl 11 0 7 (.u 4)), (.sl 10 0 3 (.u 1))]), (.c (.sl 47 0 3 (.u 2)))], [(10, xb7_0), (11, xb7_1), (47, xb7_3)], 85, (.c (.sl 87 0 3 (.n 3))), [(10, xb7_0), (11, xb7_1), (47, xb7_3), (87, [(.ef (.vf 181)), (.ef (.vf 182)), (.ef (.vf 183)), (.ef (.vf 184)), (.ef (.vf 185)), (.ef (.vf 186))])], 133⟩) 
theorem x2_3o1 : mok [(0, 3, 2)] (lenL 1 3 8 ++ []) xN2 16 x2_3m1 = true := by kernel_rfl
def x2_3ms : List (Nat × List Memo) := [(15, [x2_3m0]), (16, [x2_3m1])]
theorem x2_3mo : AllMem (memRun [(0, 3, 2)] (lenL 1 3 8 ++ []) xN2) x2_3ms := ⟨⟨x2_3o0, trivial⟩, ⟨x2_3o1, trivial⟩, trivial⟩
def x2_3T : Tri := [(100, 109, 110), (101, 111, 112), (102, 113, 114), (103, 116, 115), (104, 118, 117), (105, 120, 119), (127, 135, 136), (128, 137, 138), (129, 146, 145), (130, 148, 147), (131, 150, 149), (157, 165, 166), (158, 167, 168), (159, 176, 175), (160, 178, 177), (161, 180, 179), (162, 181, 182), (163, 183, 184), (164, 185, 186)]
def x2_3TE : TrE := [((.vf 162), (.vf 181), (.vf 182)), ((.vf 163), (.vf 183), (.vf 184)), ((.vf 164), (.vf 185), (.vf 186))]
def x2_3Q : Qua := []
def x2_3QE : QuE := []
theorem x2_3a : trisOK xN2 [] x2_3T = true := by kernel_rfl
theorem x2_3b : tesOK xN2 x2_3T x2_3TE = true := by kernel_rfl
theorem x2_3c : quasOK xN2 [] x2_3Q = true := by kernel_rfl
theorem x2_3d : qesOK xN2 x2_3Q x2_3QE = true := by kernel_rfl
theorem x2_3 : lawRunF 4 10 200 [.i, .q, .q, .q] [(0, 3, 2)] (lenL 1 3 8 ++ []) xN2 x2_3TE x2_3QE x2_3ms = true := by kernel_rfl
def x2_4m0 : Memo :=  (⟨[(.ag [(.i .i64 3), (.sl 11 0 8 (.u 4)), (.sl 10 0 3 (.u 1))]), (.c (.sl 48 0 3 (.u 1)))], [(10, xb7_4), (11, xb7_5), (48, xb7_2)], 51, (.c (.sl 53 0 3 (.n 3))), [(10, xb7_4), (11, xb7_5), (48, xb7_2), (53, [(.ef (.vf 193)), (.ef (.vf 194)), (.ef (.vf 195))])], 92⟩) 
theorem x2_4o0 : mok [(0, 3, 2)] (lenL 1 4 8 ++ []) xN2 15 x2_4m0 = true := by kernel_rfl
def x2_4m1 : Memo :=  (⟨[(.ag [(.i .i64 3), (.sl 11 0 8 (.u 4)), (.sl 10 0 3 (.u 1))]), (.c (.sl 50 0 3 (.u 2)))], [(10, xb7_4), (11, xb7_5), (50, xb7_3)], 92, (.c (.sl 94 0 3 (.n 3))), [(10, xb7_4), (11, xb7_5), (50, xb7_3), (94, [(.ef (.vf 212)), (.ef (.vf 213)), (.ef (.vf 214)), (.ef (.vf 215)), (.ef (.vf 216)), (.ef (.vf 217))])], 146⟩) 
theorem x2_4o1 : mok [(0, 3, 2)] (lenL 1 4 8 ++ []) xN2 16 x2_4m1 = true := by kernel_rfl
def x2_4ms : List (Nat × List Memo) := [(15, [x2_4m0]), (16, [x2_4m1])]
theorem x2_4mo : AllMem (memRun [(0, 3, 2)] (lenL 1 4 8 ++ []) xN2) x2_4ms := ⟨⟨x2_4o0, trivial⟩, ⟨x2_4o1, trivial⟩, trivial⟩
def x2_4T : Tri := [(100, 109, 110), (101, 111, 112), (102, 113, 114), (103, 116, 115), (104, 118, 117), (105, 120, 119), (127, 135, 136), (128, 137, 138), (129, 146, 145), (130, 148, 147), (131, 150, 149), (157, 165, 166), (158, 167, 168), (159, 176, 175), (160, 178, 177), (161, 180, 179), (188, 196, 197), (189, 198, 199), (190, 207, 206), (191, 209, 208), (192, 211, 210), (193, 212, 213), (194, 214, 215), (195, 216, 217)]
def x2_4TE : TrE := [((.vf 193), (.vf 212), (.vf 213)), ((.vf 194), (.vf 214), (.vf 215)), ((.vf 195), (.vf 216), (.vf 217))]
def x2_4Q : Qua := []
def x2_4QE : QuE := []
theorem x2_4a : trisOK xN2 [] x2_4T = true := by kernel_rfl
theorem x2_4b : tesOK xN2 x2_4T x2_4TE = true := by kernel_rfl
theorem x2_4c : quasOK xN2 [] x2_4Q = true := by kernel_rfl
theorem x2_4d : qesOK xN2 x2_4Q x2_4QE = true := by kernel_rfl
theorem x2_4 : lawRunF 4 10 200 [.i, .q, .q, .q] [(0, 3, 2)] (lenL 1 4 8 ++ []) xN2 x2_4TE x2_4QE x2_4ms = true := by kernel_rfl
def x2_5m0 : Memo :=  (⟨[(.ag [(.i .i64 3), (.sl 11 0 9 (.u 4)), (.sl 10 0 3 (.u 1))]), (.c (.sl 51 0 3 (.u 1)))], [(10, xb7_6), (11, xb7_7), (51, xb7_2)], 54, (.c (.sl 56 0 3 (.n 3))), [(10, xb7_6), (11, xb7_7), (51, xb7_2), (56, [(.ef (.vf 224)), (.ef (.vf 225)), (.ef (.vf 226))])], 99⟩) 
theorem x2_5o0 : mok [(0, 3, 2)] (lenL 1 5 8 ++ []) xN2 15 x2_5m0 = true := by kernel_rfl
def x2_5m1 : Memo :=  (⟨[(.ag [(.i .i64 3), (.sl 11 0 9 (.u 4)), (.sl 10 0 3 (.u 1))]), (.c (.sl 53 0 3 (.u 2)))], [(10, xb7_6), (11, xb7_7), (53, xb7_3)], 99, (.c (.sl 101 0 3 (.n 3))), [(10, xb7_6), (11, xb7_7), (53, xb7_3), (101, [(.ef (.vf 243)), (.ef (.vf 244)), (.ef (.vf 245)), (.ef (.vf 246)), (.ef (.vf 247)), (.ef (.vf 248))])], 159⟩) 
theorem x2_5o1 : mok [(0, 3, 2)] (lenL 1 5 8 ++ []) xN2 16 x2_5m1 = true := by kernel_rfl
def x2_5ms : List (Nat × List Memo) := [(15, [x2_5m0]), (16, [x2_5m1])]
theorem x2_5mo : AllMem (memRun [(0, 3, 2)] (lenL 1 5 8 ++ []) xN2) x2_5ms := ⟨⟨x2_5o0, trivial⟩, ⟨x2_5o1, trivial⟩, trivial⟩
def x2_5T : Tri := [(100, 109, 110), (101, 111, 112), (102, 113, 114), (103, 116, 115), (104, 118, 117), (105, 120, 119), (127, 135, 136), (128, 137, 138), (129, 146, 145), (130, 148, 147), (131, 150, 149), (157, 165, 166), (158, 167, 168), (159, 176, 175), (160, 178, 177), (161, 180, 179), (188, 196, 197), (189, 198, 199), (190, 207, 206), (191, 209, 208), (192, 211, 210), (219, 227, 228), (220, 229, 230), (221, 238, 237), (222, 240, 239), (223, 242, 241), (224, 243, 244), (225, 245, 246), (226, 247, 248)]
def x2_5TE : TrE := [((.vf 224), (.vf 243), (.vf 244)), ((.vf 225), (.vf 245), (.vf 246)), ((.vf 226), (.vf 247), (.vf 248))]
def x2_5Q : Qua := []
def x2_5QE : QuE := []
theorem x2_5a : trisOK xN2 [] x2_5T = true := by kernel_rfl
theorem x2_5b : tesOK xN2 x2_5T x2_5TE = true := by kernel_rfl
theorem x2_5c : quasOK xN2 [] x2_5Q = true := by kernel_rfl
theorem x2_5d : qesOK xN2 x2_5Q x2_5QE = true := by kernel_rfl
theorem x2_5 : lawRunF 4 10 200 [.i, .q, .q, .q] [(0, 3, 2)] (lenL 1 5 8 ++ []) xN2 x2_5TE x2_5QE x2_5ms = true := by kernel_rfl
end Go.Proofs.Ytilhcamdjehpnaa
