/-
  'TapeHolds': runs of it, part 8.
-/
import Derived.Test.YtilhcamdjehpnaaTapeHoldst2
namespace Go.Proofs.Ytilhcamdjehpnaa
open Go.RowKit Ex
set_option maxRecDepth 1000000
set_option maxHeartbeats 100000000
def xm8_0 : E := (.ib .quo .i64 (.vi 0) (.li 3))
def xm8_1 : E := (.ai 9 0 (.ci (.ib .add .i64 xm8_0 (.li 0)) (.ci (.li 3) .n0)))
def xm8_2 : E := (.ai 9 0 (.ci (.ib .add .i64 xm8_0 (.li 1)) (.ci (.li 3) .n0)))
def xm8_3 : E := (.ai 9 0 (.ci (.ib .add .i64 xm8_0 (.li 2)) (.ci (.li 3) .n0)))
def xm8_4 : E := (.ib .sub .i64 (.ai 9 0 (.ci (.vi 0) (.ci (.li 17) .n0))) (.li 8))
def xm8_5 : E := (.ic .eql (.ai 9 0 (.ci (.at 1 0) (.ci (.li 11) .n0))) (.li 0))
def xm8_6 : E := (.ib .sub .i64 (.ai 9 0 (.ci (.ib .quo .i64 (.at 1 0) (.li 11)) (.ci (.li 33) .n0))) (.li 16))
def xm8_7 : E := (.ic .eql (.ai 9 0 (.ci (.at 1 1) (.ci (.li 11) .n0))) (.li 0))
def xm8_8 : E := (.ib .sub .i64 (.ai 9 0 (.ci (.ib .quo .i64 (.at 1 1) (.li 11)) (.ci (.li 33) .n0))) (.li 16))
def xm8_9 : E := (.ic .eql (.ai 9 0 (.ci (.at 1 2) (.ci (.li 11) .n0))) (.li 0))
def xm8_10 : E := (.ib .sub .i64 (.ai 9 0 (.ci (.ib .quo .i64 (.at 1 2) (.li 11)) (.ci (.li 33) .n0))) (.li 16))
def xm8_11 : E := (.ic .eql (.ai 9 0 (.ci (.at 1 3) (.ci (.li 11) .n0))) (.li 0))
def xm8_12 : E := (.ib .sub .i64 (.ai 9 0 (.ci (.ib .quo .i64 (.at 1 3) (.li 11)) (.ci (.li 33) .n0))) (.li 16))
def xm8_13 : E := (.ic .eql (.ai 9 0 (.ci (.at 1 4) (.ci (.li 11) .n0))) (.li 0))
def xm8_14 : E := (.ib .sub .i64 (.ai 9 0 (.ci (.ib .quo .i64 (.at 1 4) (.li 11)) (.ci (.li 33) .n0))) (.li 16))
def xm8_15 : E := (.ic .eql (.ai 9 0 (.ci (.at 1 5) (.ci (.li 11) .n0))) (.li 0))
def xm8_16 : E := (.ib .sub .i64 (.ai 9 0 (.ci (.ib .quo .i64 (.at 1 5) (.li 11)) (.ci (.li 33) .n0))) (.li 16))
def xm8_17 : E := (.i2f (.ib .sub .i64 (.ai 9 0 (.ci (.ti (.ic .lss (.li 0) (.vl 2)) (.at 2 0) (.li 0)) (.ci (.li 7) .n0))) (.li 3)))
def xm8_18 : E := (.i2f (.ib .sub .i64 (.ai 9 0 (.ci (.ti (.ic .lss (.li 1) (.vl 2)) (.at 2 1) (.li 1)) (.ci (.li 7) .n0))) (.li 3)))
def xm8_19 : E := (.i2f (.ib .sub .i64 (.ai 9 0 (.ci (.ti (.ic .lss (.li 2) (.vl 2)) (.at 2 2) (.li 2)) (.ci (.li 7) .n0))) (.li 3)))
def xm8_20 : E := (.ti (.ic .lss (.li 0) (.vl 3)) (.at 3 0) (.li 0))
def xm8_21 : E := (.ti (.ic .lss (.li 1) (.vl 3)) (.at 3 1) (.li 0))
def xm8_22 : E := (.ti (.ic .lss (.li 2) (.vl 3)) (.at 3 2) (.li 0))
def xm8_23 : E := (.ic .eql (.ai 9 0 (.ci (.at 1 6) (.ci (.li 11) .n0))) (.li 0))
def xm8_24 : E := (.ib .sub .i64 (.ai 9 0 (.ci (.ib .quo .i64 (.at 1 6) (.li 11)) (.ci (.li 33) .n0))) (.li 16))
def xm8_25 : E := (.ic .eql (.ai 9 0 (.ci (.at 1 7) (.ci (.li 11) .n0))) (.li 0))
def xm8_26 : E := (.ib .sub .i64 (.ai 9 0 (.ci (.ib .quo .i64 (.at 1 7) (.li 11)) (.ci (.li 33) .n0))) (.li 16))
def xk8_0 : Blk := [(.i .i64 1), (.i .i64 0), (.i .i64 0), (.f 0)]
def xk8_1 : Blk := [(.i .i64 1), (.i .i64 1), (.i .i64 0), (.f 0)]
def xk8_2 : Blk := [(.i .i64 1), (.i .i64 2), (.i .i64 0), (.f 0)]
def xk8_3 : Blk := [(.i .i64 0), (.i .i64 0), (.i .i64 0), (.ef (.fb .quo (.i2f (.ib .sub .i64 xm8_4 (.ai 9 0 (.ci xm8_4 (.ci (.li 4) .n0))))) (.lf 4616189618054758400)))]
def xk8_4 : Blk := [(.ei .i64 (.ti xm8_5 (.li 0) (.ib .add .i64 (.li 2) (.ai 9 0 (.ci (.at 1 0) (.ci (.li 3) .n0)))))), (.ei .i64 (.ti xm8_5 (.li 0) (.ai 9 0 (.ci (.ib .quo .i64 (.at 1 0) (.li 4)) (.ci (.li 4) .n0))))), (.ei .i64 (.ti xm8_5 (.li 0) (.ai 9 0 (.ci (.ib .quo .i64 (.at 1 0) (.li 40)) (.ci (.li 4) .n0))))), (.ef (.tf xm8_5 (.tf xm8_5 (.fb .quo (.i2f (.ib .sub .i64 xm8_6 (.ai 9 0 (.ci xm8_6 (.ci (.li 8) .n0))))) (.lf 4620693217682128896)) (.lf 0)) (.tf xm8_5 (.fb .quo (.i2f xm8_6) (.lf 4620693217682128896)) (.lf 0))))]
def xk8_5 : Blk := [(.ei .i64 (.ti xm8_7 (.li 0) (.ib .add .i64 (.li 2) (.ai 9 0 (.ci (.at 1 1) (.ci (.li 3) .n0)))))), (.ei .i64 (.ti xm8_7 (.li 0) (.ai 9 0 (.ci (.ib .quo .i64 (.at 1 1) (.li 4)) (.ci (.li 5) .n0))))), (.ei .i64 (.ti xm8_7 (.li 0) (.ai 9 0 (.ci (.ib .quo .i64 (.at 1 1) (.li 40)) (.ci (.li 5) .n0))))), (.ef (.tf xm8_7 (.tf xm8_7 (.fb .quo (.i2f (.ib .sub .i64 xm8_8 (.ai 9 0 (.ci xm8_8 (.ci (.li 8) .n0))))) (.lf 4620693217682128896)) (.lf 0)) (.tf xm8_7 (.fb .quo (.i2f xm8_8) (.lf 4620693217682128896)) (.lf 0))))]
def xk8_6 : Blk := [(.ei .i64 (.ti xm8_9 (.li 0) (.ib .add .i64 (.li 2) (.ai 9 0 (.ci (.at 1 2) (.ci (.li 3) .n0)))))), (.ei .i64 (.ti xm8_9 (.li 0) (.ai 9 0 (.ci (.ib .quo .i64 (.at 1 2) (.li 4)) (.ci (.li 6) .n0))))), (.ei .i64 (.ti xm8_9 (.li 0) (.ai 9 0 (.ci (.ib .quo .i64 (.at 1 2) (.li 40)) (.ci (.li 6) .n0))))), (.ef (.tf xm8_9 (.tf xm8_9 (.fb .quo (.i2f (.ib .sub .i64 xm8_10 (.ai 9 0 (.ci xm8_10 (.ci (.li 8) .n0))))) (.lf 4620693217682128896)) (.lf 0)) (.tf xm8_9 (.fb .quo (.i2f xm8_10) (.lf 4620693217682128896)) (.lf 0))))]
def xk8_7 : Blk := [(.ei .i64 (.ti xm8_11 (.li 0) (.ib .add .i64 (.li 2) (.ai 9 0 (.ci (.at 1 3) (.ci (.li 3) .n0)))))), (.ei .i64 (.ti xm8_11 (.li 0) (.ai 9 0 (.ci (.ib .quo .i64 (.at 1 3) (.li 4)) (.ci (.li 7) .n0))))), (.ei .i64 (.ti xm8_11 (.li 0) (.ai 9 0 (.ci (.ib .quo .i64 (.at 1 3) (.li 40)) (.ci (.li 7) .n0))))), (.ef (.tf xm8_11 (.tf xm8_11 (.fb .quo (.i2f (.ib .sub .i64 xm8_12 (.ai 9 0 (.ci xm8_12 (.ci (.li 8) .n0))))) (.lf 4620693217682128896)) (.lf 0)) (.tf xm8_11 (.fb .quo (.i2f xm8_12) (.lf 4620693217682128896)) (.lf 0))))]
def xk8_8 : Blk := [(.ei .i64 (.ti xm8_13 (.li 0) (.ib .add .i64 (.li 2) (.ai 9 0 (.ci (.at 1 4) (.ci (.li 3) .n0)))))), (.ei .i64 (.ti xm8_13 (.li 0) (.ai 9 0 (.ci (.ib .quo .i64 (.at 1 4) (.li 4)) (.ci (.li 8) .n0))))), (.ei .i64 (.ti xm8_13 (.li 0) (.ai 9 0 (.ci (.ib .quo .i64 (.at 1 4) (.li 40)) (.ci (.li 8) .n0))))), (.ef (.tf xm8_13 (.tf xm8_13 (.fb .quo (.i2f (.ib .sub .i64 xm8_14 (.ai 9 0 (.ci xm8_14 (.ci (.li 8) .n0))))) (.lf 4620693217682128896)) (.lf 0)) (.tf xm8_13 (.fb .quo (.i2f xm8_14) (.lf 4620693217682128896)) (.lf 0))))]
def xk8_9 : Blk := [(.ei .i64 (.ti xm8_15 (.li 0) (.ib .add .i64 (.li 2) (.ai 9 0 (.ci (.at 1 5) (.ci (.li 3) .n0)))))), (.ei .i64 (.ti xm8_15 (.li 0) (.ai 9 0 (.ci (.ib .quo .i64 (.at 1 5) (.li 4)) (.ci (.li 9) .n0))))), (.ei .i64 (.ti xm8_15 (.li 0) (.ai 9 0 (.ci (.ib .quo .i64 (.at 1 5) (.li 40)) (.ci (.li 9) .n0))))), (.ef (.tf xm8_15 (.tf xm8_15 (.fb .quo (.i2f (.ib .sub .i64 xm8_16 (.ai 9 0 (.ci xm8_16 (.ci (.li 8) .n0))))) (.lf 4620693217682128896)) (.lf 0)) (.tf xm8_15 (.fb .quo (.i2f xm8_16) (.lf 4620693217682128896)) (.lf 0))))]
def xk8_10 : Blk := [(.ei .i64 (.ti xm8_23 (.li 0) (.ib .add .i64 (.li 2) (.ai 9 0 (.ci (.at 1 6) (.ci (.li 3) .n0)))))), (.ei .i64 (.ti xm8_23 (.li 0) (.ai 9 0 (.ci (.ib .quo .i64 (.at 1 6) (.li 4)) (.ci (.li 10) .n0))))), (.ei .i64 (.ti xm8_23 (.li 0) (.ai 9 0 (.ci (.ib .quo .i64 (.at 1 6) (.li 40)) (.ci (.li 10) .n0))))), (.ef (.tf xm8_23 (.tf xm8_23 (.fb .quo (.i2f (.ib .sub .i64 xm8_24 (.ai 9 0 (.ci xm8_24 (.ci (.li 8) .n0))))) (.lf 4620693217682128896)) (.lf 0)) (.tf xm8_23 (.fb .quo (.i2f xm8_24) (.lf 4620693217682128896)) (.lf 0))))]
def xb8_0 : Blk := [(.ei .i64 (.ib .sub .i64 (.li 9) xm8_1)), (.ei .i64 (.ib .sub .i64 (.li 9) xm8_2)), (.ei .i64 (.ib .sub .i64 (.li 9) xm8_3))]
def xb8_1 : Blk := xk8_0 ++ xk8_1 ++ xk8_2 ++ xk8_3 ++ xk8_4 ++ xk8_5 ++ xk8_6 ++ xk8_7 ++ xk8_8 ++ xk8_9
def xb8_2 : Blk := [(.ef xm8_17), (.ef xm8_18), (.ef xm8_19)]
def xb8_3 : Blk := [(.ef (.fb .sub xm8_17 (.i2f (.ai 9 0 (.ci xm8_20 (.ci (.li 4) .n0)))))), (.ef (.fb .add xm8_17 (.i2f (.ai 9 0 (.ci (.ib .quo .i64 xm8_20 (.li 4)) (.ci (.li 4) .n0)))))), (.ef (.fb .sub xm8_18 (.i2f (.ai 9 0 (.ci xm8_21 (.ci (.li 4) .n0)))))), (.ef (.fb .add xm8_18 (.i2f (.ai 9 0 (.ci (.ib .quo .i64 xm8_21 (.li 4)) (.ci (.li 4) .n0)))))), (.ef (.fb .sub xm8_19 (.i2f (.ai 9 0 (.ci xm8_22 (.ci (.li 4) .n0)))))), (.ef (.fb .add xm8_19 (.i2f (.ai 9 0 (.ci (.ib .quo .i64 xm8_22 (.li 4)) (.ci (.li 4) .n0))))))]
def xb8_4 : Blk := [(.ei .i64 (.ib .sub .i64 (.li 10) xm8_1)), (.ei .i64 (.ib .sub .i64 (.li 10) xm8_2)), (.ei .i64 (.ib .sub .i64 (.li 10) xm8_3))]
def xb8_5 : Blk := xk8_0 ++ xk8_1 ++ xk8_2 ++ xk8_3 ++ xk8_4 ++ xk8_5 ++ xk8_6 ++ xk8_7 ++ xk8_8 ++ xk8_9 ++ xk8_10
def xb8_6 : Blk := [(.ei .i64 (.ib .sub .i64 (.li 11) xm8_1)), (.ei .i64 (.ib .sub .i64 (.li 11) xm8_2)), (.ei .i64 (.ib .sub .i64 (.li 11) xm8_3))]
def xb8_7 : Blk := xk8_0 ++ xk8_1 ++ xk8_2 ++ xk8_3 ++ xk8_4 ++ xk8_5 ++ xk8_6 ++ xk8_7 ++ xk8_8 ++ xk8_9 ++ xk8_10 ++ [(.ei .i64 (.ti xm8_25 (.li 0) (.ib .add .i64 (.li 2) (.ai 9 0 (.ci (.at 1 7) (.ci (.li 3) .n0)))))), (.ei .i64 (.ti xm8_25 (.li 0) (.ai 9 0 (.ci (.ib .quo .i64 (.at 1 7) (.li 4)) (.ci (.li 11) .n0))))), (.ei .i64 (.ti xm8_25 (.li 0) (.ai 9 0 (.ci (.ib .quo .i64 (.at 1 7) (.li 40)) (.ci (.li 11) .n0))))), (.ef (.tf xm8_25 (.tf xm8_25 (.fb .quo (.i2f (.ib .sub .i64 xm8_26 (.ai 9 0 (.ci xm8_26 (.ci (.li 8) .n0))))) (.lf 4620693217682128896)) (.lf 0)) (.tf xm8_25 (.fb .quo (.i2f xm8_26) (.lf 4620693217682128896)) (.lf 0))))]
def x2_6m0 : Memo :=  (⟨[(.ag [(.i .i64 3), (.sl 11 0 10 (.u 4)), (.sl 10 0 3 (.u 1))]), (.c (.sl 54 0 3 (.u 1)))], [(10, xb8_0), (11, xb8_1), (54, xb8_2)], 57, (.c (.sl 59 0 3 (.n 3))), [(10, xb8_0), (11, xb8_1), (54, xb8_2), (59, [(.ef (.vf 256)), (.ef (.vf 257)), (.ef (.vf 258))])], 106⟩) 
theorem x2_6o0 : mok [(0, 3, 2)] (lenL 1 6 8 ++ []) xN2 15 x2_6m0 = true := by kernel_rfl
def x2_6m1 : Memo :=  (⟨[(.ag [(.i .i64 3), (.sl 11 0 10 (.u 4)), (.sl 10 0 3 (.u 1))]), (.c (.sl 56 0 3 (.u 2)))], [(10, xb8_0), (11, xb8_1), (56, xb8_3)], 106, (.c (.sl 108 0 3 (.n 3))), [(10, xb8_0), (11, xb8_1), (56, xb8_3), (108, [(.ef (.vf 275)), (.ef (.vf 276)), (.ef (.vf 277)), (.ef (.vf 278)), (.ef (.vf 279)), (.ef (.vf 280))])], 172⟩) 
theorem x2_6o1 : mok [(0, 3, 2)] (lenL 1 6 8 ++ []) xN2 16 x2_6m1 = true := by kernel_rfl
def x2_6ms : List (Nat × List Memo) := [(15, [x2_6m0]), (16, [x2_6m1])]
theorem x2_6mo : AllMem (memRun [(0, 3, 2)] (lenL 1 6 8 ++ []) xN2) x2_6ms := ⟨⟨x2_6o0, trivial⟩, ⟨x2_6o1, trivial⟩, trivial⟩
def x2_6T : Tri := [(100, 109, 110), (101, 111, 112), (102, 113, 114), (103, 116, 115), (104, 118, 117), (105, 120, 119), (127, 135, 136), (128, 137, 138), (129, 146, 145), (130, 148, 147), (131, 150, 149), (157, 165, 166), (158, 167, 168), (159, 176, 175), (160, 178, 177), (161, 180, 179), (188, 196, 197), (189, 198, 199), (190, 207, 206), (191, 209, 208), (192, 211, 210), (219, 227, 228), (220, 229, 230), (221, 238, 237), (222, 240, 239), (223, 242, 241), (251, 259, 260), (252, 261, 262), (253, 270, 269), (254, 272, 271), (255, 274, 273), (256, 275, 276), (257, 277, 278), (258, 279, 280)]
def x2_6TE : TrE := [((.vf 256), (.vf 275), (.vf 276)), ((.vf 257), (.vf 277), (.vf 278)), ((.vf 258), (.vf 279), (.vf 280))]
def x2_6Q : Qua := []
def x2_6QE : QuE := []
theorem x2_6a : trisOK xN2 [] x2_6T = true := by kernel_rfl
theorem x2_6b : tesOK xN2 x2_6T x2_6TE = true := by kernel_rfl
theorem x2_6c : quasOK xN2 [] x2_6Q = true := by kernel_rfl
theorem x2_6d : qesOK xN2 x2_6Q x2_6QE = true := by kernel_rfl
theorem x2_6 : lawRunF 4 10 200 [.i, .q, .q, .q] [(0, 3, 2)] (lenL 1 6 8 ++ []) xN2 x2_6TE x2_6QE x2_6ms = true := by kernel_rfl
def x2_7m0 : Memo :=  (⟨[(.ag [(.i .i64 3), (.sl 11 0 11 (.u 4)), (.sl 10 0 3 (.u 1))]), (.c (.sl 57 0 3 (.u 1)))], [(10, xb8_4), (11, xb8_5), (57, xb8_2)], 60, (.c (.sl 62 0 3 (.n 3))), [(10, xb8_4), (11, xb8_5), (57, xb8_2), (62, [(.ef (.vf 288)), (.ef (.vf 289)), (.ef (.vf 290))])], 113⟩) 
theorem x2_7o0 : mok [(0, 3, 2)] (lenL 1 7 8 ++ []) xN2 15 x2_7m0 = true := by kernel_rfl
def x2_7m1 : Memo :=  (⟨[(.ag [(.i .i64 3), (.sl 11 0 11 (.u 4)), (.sl 10 0 3 (.u 1))]), (.c (.sl 59 0 3 (.u 2)))], [(10, xb8_4), (11, xb8_5), (59, xb8_3)], 113, (.c (.sl 115 0 3 (.n 3))), [(10, xb8_4), (11, xb8_5), (59, xb8_3), (115, [(.ef (.vf 307)), (.ef (.vf 308)), (.ef (.vf 309)), (.ef (.vf 310)), (.ef (.vf 311)), (.ef (.vf 312))])], 185⟩) 
theorem x2_7o1 : mok [(0, 3, 2)] (lenL 1 7 8 ++ []) xN2 16 x2_7m1 = true := by kernel_rfl
def x2_7ms : List (Nat × List Memo) := [(15, [x2_7m0]), (16, [x2_7m1])]
theorem x2_7mo : AllMem (memRun [(0, 3, 2)] (lenL 1 7 8 ++ []) xN2) x2_7ms := ⟨⟨x2_7o0, trivial⟩, ⟨x2_7o1, trivial⟩, trivial⟩
def x2_7T : Tri := [(100, 109, 110), (101, 111, 112), (102, 113, 114), (103, 116, 115), (104, 118, 117), (105, 120, 119), (127, 135, 136), (128, 137, 138), (129, 146, 145), (130, 148, 147), (131, 150, 149), (157, 165, 166), (158, 167, 168), (159, 176, 175), (160, 178, 177), (161, 180, 179), (188, 196, 197), (189, 198, 199), (190, 207, 206), (191, 209, 208), (192, 211, 210), (219, 227, 228), (220, 229, 230), (221, 238, 237), (222, 240, 239), (223, 242, 241), (251, 259, 260), (252, 261, 262), (253, 270, 269), (254, 272, 271), (255, 274, 273), (283, 291, 292), (284, 293, 294), (285, 302, 301), (286, 304, 303), (287, 306, 305), (288, 307, 308), (289, 309, 310), (290, 311, 312)]
def x2_7TE : TrE := [((.vf 288), (.vf 307), (.vf 308)), ((.vf 289), (.vf 309), (.vf 310)), ((.vf 290), (.vf 311), (.vf 312))]
def x2_7Q : Qua := []
def x2_7QE : QuE := []
theorem x2_7a : trisOK xN2 [] x2_7T = true := by kernel_rfl
theorem x2_7b : tesOK xN2 x2_7T x2_7TE = true := by kernel_rfl
theorem x2_7c : quasOK xN2 [] x2_7Q = true := by kernel_rfl
theorem x2_7d : qesOK xN2 x2_7Q x2_7QE = true := by kernel_rfl
theorem x2_7 : lawRunF 4 10 200 [.i, .q, .q, .q] [(0, 3, 2)] (lenL 1 7 8 ++ []) xN2 x2_7TE x2_7QE x2_7ms = true := by kernel_rfl
def x2_8m0 : Memo :=  (⟨[(.ag [(.i .i64 3), (.sl 11 0 12 (.u 4)), (.sl 10 0 3 (.u 1))]), (.c (.sl 60 0 3 (.u 1)))], [(10, xb8_6), (11, xb8_7), (60, xb8_2)], 63, (.c (.sl 65 0 3 (.n 3))), [(10, xb8_6), (11, xb8_7), (60, xb8_2), (65, [(.ef (.vf 320)), (.ef (.vf 321)), (.ef (.vf 322))])], 120⟩) 
theorem x2_8o0 : mok [(0, 3, 2)] (lenL 1 8 8 ++ []) xN2 15 x2_8m0 = true := by kernel_rfl
def x2_8m1 : Memo :=  (⟨[(.ag [(.i .i64 3), (.sl 11 0 12 (.u 4)), (.sl 10 0 3 (.u 1))]), (.c (.sl 62 0 3 (.u 2)))], [(10, xb8_6), (11, xb8_7), (62, xb8_3)], 120, (.c (.sl 122 0 3 (.n 3))), [(10, xb8_6), (11, xb8_7), (62, xb8_3), (122, [(.ef (.vf 339)), (.ef (.vf 340)), (.ef (.vf 341)), (.ef (.vf 342)), (.ef (.vf 343)), (.ef (.vf 344))])], 198⟩) 
theorem x2_8o1 : mok [(0, 3, 2)] (lenL 1 8 8 ++ []) xN2 16 x2_8m1 = true := by kernel_rfl
def x2_8ms : List (Nat × List Memo) := [(15, [x2_8m0]), (16, [x2_8m1])]
theorem x2_8mo : AllMem (memRun [(0, 3, 2)] (lenL 1 8 8 ++ []) xN2) x2_8ms := ⟨⟨x2_8o0, trivial⟩, ⟨x2_8o1, trivial⟩, trivial⟩
def x2_8T : Tri := [(100, 109, 110), (101, 111, 112), (102, 113, 114), (103, 116, 115), (104, 118, 117), (105, 120, 119), (127, 135, 136), (128, 137, 138), (129, 146, 145), (130, 148, 147), (131, 150, 149), (157, 165, 166), (158, 167, 168), (159, 176, 175), (160, 178, 177), (161, 180, 179), (188, 196, 197), (189, 198, 199), (190, 207, 206), (191, 209, 208), (192, 211, 210), (219, 227, 228), (220, 229, 230), (221, 238, 237), (222, 240, 239), (223, 242, 241), (251, 259, 260), (252, 261, 262), (253, 270, 269), (254, 272, 271), (255, 274, 273), (283, 291, 292), (284, 293, 294), (285, 302, 301), (286, 304, 303), (287, 306, 305), (315, 323, 324), (316, 325, 326), (317, 334, 333), (318, 336, 335), (319, 338, 337), (320, 339, 340), (321, 341, 342), (322, 343, 344)]
def x2_8TE : TrE := [((.vf 320), (.vf 339), (.vf 340)), ((.vf 321), (.vf 341), (.vf 342)), ((.vf 322), (.vf 343), (.vf 344))]
def x2_8Q : Qua := []
def x2_8QE : QuE := []
theorem x2_8a : trisOK xN2 [] x2_8T = true := by kernel_rfl
theorem x2_8b : tesOK xN2 x2_8T x2_8TE = true := by kernel_rfl
theorem x2_8c : quasOK xN2 [] x2_8Q = true := by kernel_rfl
theorem x2_8d : qesOK xN2 x2_8Q x2_8QE = true := by kernel_rfl
theorem x2_8 : lawRunF 4 10 200 [.i, .q, .q, .q] [(0, 3, 2)] (lenL 1 8 8 ++ []) xN2 x2_8TE x2_8QE x2_8ms = true := by kernel_rfl
end Go.Proofs.Ytilhcamdjehpnaa
