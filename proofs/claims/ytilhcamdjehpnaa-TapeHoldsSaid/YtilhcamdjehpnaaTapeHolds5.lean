/-
  'TapeHolds': runs of it, part 5.
-/
import Derived.Test.YtilhcamdjehpnaaTapeHoldst1
namespace Go.Proofs.Ytilhcamdjehpnaa
open Go.RowKit Ex
set_option maxRecDepth 1000000
set_option maxHeartbeats 100000000
def xm5_0 : E := (.ib .quo .i64 (.vi 0) (.li 3))
def xm5_1 : E := (.ai 9 0 (.ci (.ib .add .i64 xm5_0 (.li 0)) (.ci (.li 3) .n0)))
def xm5_2 : E := (.ai 9 0 (.ci (.ib .add .i64 xm5_0 (.li 1)) (.ci (.li 3) .n0)))
def xm5_3 : E := (.ib .sub .i64 (.ai 9 0 (.ci (.vi 0) (.ci (.li 17) .n0))) (.li 8))
def xm5_4 : E := (.ic .eql (.ai 9 0 (.ci (.at 1 0) (.ci (.li 11) .n0))) (.li 0))
def xm5_5 : E := (.ib .sub .i64 (.ai 9 0 (.ci (.ib .quo .i64 (.at 1 0) (.li 11)) (.ci (.li 33) .n0))) (.li 16))
def xm5_6 : E := (.ic .eql (.ai 9 0 (.ci (.at 1 1) (.ci (.li 11) .n0))) (.li 0))
def xm5_7 : E := (.ib .sub .i64 (.ai 9 0 (.ci (.ib .quo .i64 (.at 1 1) (.li 11)) (.ci (.li 33) .n0))) (.li 16))
def xm5_8 : E := (.ic .eql (.ai 9 0 (.ci (.at 1 2) (.ci (.li 11) .n0))) (.li 0))
def xm5_9 : E := (.ib .sub .i64 (.ai 9 0 (.ci (.ib .quo .i64 (.at 1 2) (.li 11)) (.ci (.li 33) .n0))) (.li 16))
def xm5_10 : E := (.ic .eql (.ai 9 0 (.ci (.at 1 3) (.ci (.li 11) .n0))) (.li 0))
def xm5_11 : E := (.ib .sub .i64 (.ai 9 0 (.ci (.ib .quo .i64 (.at 1 3) (.li 11)) (.ci (.li 33) .n0))) (.li 16))
def xm5_12 : E := (.ic .eql (.ai 9 0 (.ci (.at 1 4) (.ci (.li 11) .n0))) (.li 0))
def xm5_13 : E := (.ib .sub .i64 (.ai 9 0 (.ci (.ib .quo .i64 (.at 1 4) (.li 11)) (.ci (.li 33) .n0))) (.li 16))
def xm5_14 : E := (.ic .eql (.ai 9 0 (.ci (.at 1 5) (.ci (.li 11) .n0))) (.li 0))
def xm5_15 : E := (.ib .sub .i64 (.ai 9 0 (.ci (.ib .quo .i64 (.at 1 5) (.li 11)) (.ci (.li 33) .n0))) (.li 16))
def xm5_16 : E := (.i2f (.ib .sub .i64 (.ai 9 0 (.ci (.ti (.ic .lss (.li 0) (.vl 2)) (.at 2 0) (.li 0)) (.ci (.li 7) .n0))) (.li 3)))
def xm5_17 : E := (.i2f (.ib .sub .i64 (.ai 9 0 (.ci (.ti (.ic .lss (.li 1) (.vl 2)) (.at 2 1) (.li 1)) (.ci (.li 7) .n0))) (.li 3)))
def xm5_18 : E := (.ti (.ic .lss (.li 0) (.vl 3)) (.at 3 0) (.li 0))
def xm5_19 : E := (.ti (.ic .lss (.li 1) (.vl 3)) (.at 3 1) (.li 0))
def xm5_20 : E := (.ic .eql (.ai 9 0 (.ci (.at 1 6) (.ci (.li 11) .n0))) (.li 0))
def xm5_21 : E := (.ib .sub .i64 (.ai 9 0 (.ci (.ib .quo .i64 (.at 1 6) (.li 11)) (.ci (.li 33) .n0))) (.li 16))
def xm5_22 : E := (.ic .eql (.ai 9 0 (.ci (.at 1 7) (.ci (.li 11) .n0))) (.li 0))
def xm5_23 : E := (.ib .sub .i64 (.ai 9 0 (.ci (.ib .quo .i64 (.at 1 7) (.li 11)) (.ci (.li 33) .n0))) (.li 16))
def xk5_0 : Blk := [(.i .i64 1), (.i .i64 0), (.i .i64 0), (.f 0)]
def xk5_1 : Blk := [(.i .i64 1), (.i .i64 1), (.i .i64 0), (.f 0)]
def xk5_2 : Blk := [(.i .i64 0), (.i .i64 0), (.i .i64 0), (.ef (.fb .quo (.i2f (.ib .sub .i64 xm5_3 (.ai 9 0 (.ci xm5_3 (.ci (.li 4) .n0))))) (.lf 4616189618054758400)))]
def xk5_3 : Blk := [(.ei .i64 (.ti xm5_4 (.li 0) (.ib .add .i64 (.li 2) (.ai 9 0 (.ci (.at 1 0) (.ci (.li 3) .n0)))))), (.ei .i64 (.ti xm5_4 (.li 0) (.ai 9 0 (.ci (.ib .quo .i64 (.at 1 0) (.li 4)) (.ci (.li 3) .n0))))), (.ei .i64 (.ti xm5_4 (.li 0) (.ai 9 0 (.ci (.ib .quo .i64 (.at 1 0) (.li 40)) (.ci (.li 3) .n0))))), (.ef (.tf xm5_4 (.tf xm5_4 (.fb .quo (.i2f (.ib .sub .i64 xm5_5 (.ai 9 0 (.ci xm5_5 (.ci (.li 8) .n0))))) (.lf 4620693217682128896)) (.lf 0)) (.tf xm5_4 (.fb .quo (.i2f xm5_5) (.lf 4620693217682128896)) (.lf 0))))]
def xk5_4 : Blk := [(.ei .i64 (.ti xm5_6 (.li 0) (.ib .add .i64 (.li 2) (.ai 9 0 (.ci (.at 1 1) (.ci (.li 3) .n0)))))), (.ei .i64 (.ti xm5_6 (.li 0) (.ai 9 0 (.ci (.ib .quo .i64 (.at 1 1) (.li 4)) (.ci (.li 4) .n0))))), (.ei .i64 (.ti xm5_6 (.li 0) (.ai 9 0 (.ci (.ib .quo .i64 (.at 1 1) (.li 40)) (.ci (.li 4) .n0))))), (.ef (.tf xm5_6 (.tf xm5_6 (.fb .quo (.i2f (.ib .sub .i64 xm5_7 (.ai 9 0 (.ci xm5_7 (.ci (.li 8) .n0))))) (.lf 4620693217682128896)) (.lf 0)) (.tf xm5_6 (.fb .quo (.i2f xm5_7) (.lf 4620693217682128896)) (.lf 0))))]
def xk5_5 : Blk := [(.ei .i64 (.ti xm5_8 (.li 0) (.ib .add .i64 (.li 2) (.ai 9 0 (.ci (.at 1 2) (.ci (.li 3) .n0)))))), (.ei .i64 (.ti xm5_8 (.li 0) (.ai 9 0 (.ci (.ib .quo .i64 (.at 1 2) (.li 4)) (.ci (.li 5) .n0))))), (.ei .i64 (.ti xm5_8 (.li 0) (.ai 9 0 (.ci (.ib .quo .i64 (.at 1 2) (.li 40)) (.ci (.li 5) .n0))))), (.ef (.tf xm5_8 (.tf xm5_8 (.fb .quo (.i2f (.ib .sub .i64 xm5_9 (.ai 9 0 (.ci xm5_9 (.ci (.li 8) .n0))))) (.lf 4620693217682128896)) (.lf 0)) (.tf xm5_8 (.fb .quo (.i2f xm5_9) (.lf 4620693217682128896)) (.lf 0))))]
def xk5_6 : Blk := [(.ei .i64 (.ti xm5_10 (.li 0) (.ib .add .i64 (.li 2) (.ai 9 0 (.ci (.at 1 3) (.ci (.li 3) .n0)))))), (.ei .i64 (.ti xm5_10 (.li 0) (.ai 9 0 (.ci (.ib .quo .i64 (.at 1 3) (.li 4)) (.ci (.li 6) .n0))))), (.ei .i64 (.ti xm5_10 (.li 0) (.ai 9 0 (.ci (.ib .quo .i64 (.at 1 3) (.li 40)) (.ci (.li 6) .n0))))), (.ef (.tf xm5_10 (.tf xm5_10 (.fb .quo (.i2f (.ib .sub .i64 xm5_11 (.ai 9 0 (.ci xm5_11 (.ci (.li 8) .n0))))) (.lf 4620693217682128896)) (.lf 0)) (.tf xm5_10 (.fb .quo (.i2f xm5_11) (.lf 4620693217682128896)) (.lf 0))))]
def xk5_7 : Blk := [(.ei .i64 (.ti xm5_12 (.li 0) (.ib .add .i64 (.li 2) (.ai 9 0 (.ci (.at 1 4) (.ci (.li 3) .n0)))))), (.ei .i64 (.ti xm5_12 (.li 0) (.ai 9 0 (.ci (.ib .quo .i64 (.at 1 4) (.li 4)) (.ci (.li 7) .n0))))), (.ei .i64 (.ti xm5_12 (.li 0) (.ai 9 0 (.ci (.ib .quo .i64 (.at 1 4) (.li 40)) (.ci (.li 7) .n0))))), (.ef (.tf xm5_12 (.tf xm5_12 (.fb .quo (.i2f (.ib .sub .i64 xm5_13 (.ai 9 0 (.ci xm5_13 (.ci (.li 8) .n0))))) (.lf 4620693217682128896)) (.lf 0)) (.tf xm5_12 (.fb .quo (.i2f xm5_13) (.lf 4620693217682128896)) (.lf 0))))]
def xk5_8 : Blk := [(.ei .i64 (.ti xm5_14 (.li 0) (.ib .add .i64 (.li 2) (.ai 9 0 (.ci (.at 1 5) (.ci (.li 3) .n0)))))), (.ei .i64 (.ti xm5_14 (.li 0) (.ai 9 0 (.ci (.ib .quo .i64 (.at 1 5) (.li 4)) (.ci (.li 8) .n0))))), (.ei .i64 (.ti xm5_14 (.li 0) (.ai 9 0 (.ci (.ib .quo .i64 (.at 1 5) (.li 40)) (.ci (.li 8) .n0))))), (.ef (.tf xm5_14 (.tf xm5_14 (.fb .quo (.i2f (.ib .sub .i64 xm5_15 (.ai 9 0 (.ci xm5_15 (.ci (.li 8) .n0))))) (.lf 4620693217682128896)) (.lf 0)) (.tf xm5_14 (.fb .quo (.i2f xm5_15) (.lf 4620693217682128896)) (.lf 0))))]
def xk5_9 : Blk := [(.ei .i64 (.ti xm5_20 (.li 0) (.ib .add .i64 (.li 2) (.ai 9 0 (.ci (.at 1 6) (.ci (.li 3) .n0)))))), (.ei .i64 (.ti xm5_20 (.li 0) (.ai 9 0 (.ci (.ib .quo .i64 (.at 1 6) (.li 4)) (.ci (.li 9) .n0))))), (.ei .i64 (.ti xm5_20 (.li 0) (.ai 9 0 (.ci (.ib .quo .i64 (.at 1 6) (.li 40)) (.ci (.li 9) .n0))))), (.ef (.tf xm5_20 (.tf xm5_20 (.fb .quo (.i2f (.ib .sub .i64 xm5_21 (.ai 9 0 (.ci xm5_21 (.ci (.li 8) .n0))))) (.lf 4620693217682128896)) (.lf 0)) (.tf xm5_20 (.fb .quo (.i2f xm5_21) (.lf 4620693217682128896)) (.lf 0))))]
def xb5_0 : Blk := [(.ei .i64 (.ib .sub .i64 (.li 8) xm5_1)), (.ei .i64 (.ib .sub .i64 (.li 8) xm5_2))]
def xb5_1 : Blk := xk5_0 ++ xk5_1 ++ xk5_2 ++ xk5_3 ++ xk5_4 ++ xk5_5 ++ xk5_6 ++ xk5_7 ++ xk5_8
def xb5_2 : Blk := [(.ef xm5_16), (.ef xm5_17)]
def xb5_3 : Blk := [(.ef (.fb .sub xm5_16 (.i2f (.ai 9 0 (.ci xm5_18 (.ci (.li 4) .n0)))))), (.ef (.fb .add xm5_16 (.i2f (.ai 9 0 (.ci (.ib .quo .i64 xm5_18 (.li 4)) (.ci (.li 4) .n0)))))), (.ef (.fb .sub xm5_17 (.i2f (.ai 9 0 (.ci xm5_19 (.ci (.li 4) .n0)))))), (.ef (.fb .add xm5_17 (.i2f (.ai 9 0 (.ci (.ib .quo .i64 xm5_19 (.li 4)) (.ci (.li 4) .n0))))))]
def xb5_4 : Blk := [(.ei .i64 (.ib .sub .i64 (.li 9) xm5_1)), (.ei .i64 (.ib .sub .i64 (.li 9) xm5_2))]
def xb5_5 : Blk := xk5_0 ++ xk5_1 ++ xk5_2 ++ xk5_3 ++ xk5_4 ++ xk5_5 ++ xk5_6 ++ xk5_7 ++ xk5_8 ++ xk5_9
def xb5_6 : Blk := [(.ei .i64 (.ib .sub .i64 (.li 10) xm5_1)), (.ei .i64 (.ib .sub .i64 (.li 10) xm5_2))]
def xb5_7 : Blk := xk5_0 ++ xk5_1 ++ xk5_2 ++ xk5_3 ++ xk5_4 ++ xk5_5 ++ xk5_6 ++ xk5_7 ++ xk5_8 ++ xk5_9 ++ [(.ei .i64 (.ti xm5_22 (.li 0) (.ib .add .i64 (.li 2) (.ai 9 0 (.ci (.at 1 7) (.ci (.li 3) .n0)))))), (.ei .i64 (.ti xm5_22 (.li 0) (.ai 9 0 (.ci (.ib .quo .i64 (.at 1 7) (.li 4)) (.ci (.li 10) .n0))))), (.ei .i64 (.ti xm5_22 (.li 0) (.ai 9 0 (.ci (.ib .quo .i64 (.at 1 7) (.li 40)) (.ci (.li 10) .n0))))), (.ef (.tf xm5_22 (.tf xm5_22 (.fb .quo (.i2f (.ib .sub .i64 xm5_23 (.ai 9 0 (.ci xm5_23 (.ci (.li 8) .n0))))) (.lf 4620693217682128896)) (.lf 0)) (.tf xm5_22 (.fb .quo (.i2f xm5_23) (.lf 4620693217682128896)) (.lf 0))))]
def x1_6m0 : Memo :=  (⟨[(.ag [(.i .i64 2), (.sl 11 0 9 (.u 4)), (.sl 10 0 2 (.u 1))]), (.c (.sl 46 0 2 (.u 1)))], [(10, xb5_0), (11, xb5_1), (46, xb5_2)], 49, (.c (.sl 51 0 2 (.n 2))), [(10, xb5_0), (11, xb5_1), (46, xb5_2), (51, [(.ef (.vf 238)), (.ef (.vf 239))])], 94⟩) 
theorem x1_6o0 : mok [(0, 3, 1)] (lenL 1 6 8 ++ []) xN1 15 x1_6m0 = true := by kernel_rfl
def x1_6m1 : Memo :=  (⟨[(.ag [(.i .i64 2), (.sl 11 0 9 (.u 4)), (.sl 10 0 2 (.u 1))]), (.c (.sl 48 0 2 (.u 2)))], [(10, xb5_0), (11, xb5_1), (48, xb5_3)], 94, (.c (.sl 96 0 2 (.n 2))), [(10, xb5_0), (11, xb5_1), (48, xb5_3), (96, [(.ef (.vf 256)), (.ef (.vf 257)), (.ef (.vf 258)), (.ef (.vf 259))])], 155⟩) 
theorem x1_6o1 : mok [(0, 3, 1)] (lenL 1 6 8 ++ []) xN1 16 x1_6m1 = true := by kernel_rfl
def x1_6ms : List (Nat × List Memo) := [(15, [x1_6m0]), (16, [x1_6m1])]
theorem x1_6mo : AllMem (memRun [(0, 3, 1)] (lenL 1 6 8 ++ []) xN1) x1_6ms := ⟨⟨x1_6o0, trivial⟩, ⟨x1_6o1, trivial⟩, trivial⟩
def x1_6T : Tri := [(100, 112, 111), (101, 114, 113), (102, 116, 115), (121, 128, 129), (122, 130, 131), (123, 139, 138), (124, 141, 140), (125, 143, 142), (148, 155, 156), (149, 157, 158), (150, 166, 165), (151, 168, 167), (152, 170, 169), (176, 183, 184), (177, 185, 186), (178, 194, 193), (179, 196, 195), (180, 198, 197), (204, 211, 212), (205, 213, 214), (206, 222, 221), (207, 224, 223), (208, 226, 225), (233, 240, 241), (234, 242, 243), (235, 251, 250), (236, 253, 252), (237, 255, 254), (238, 256, 257), (239, 258, 259)]
def x1_6TE : TrE := [((.vf 238), (.vf 256), (.vf 257)), ((.vf 239), (.vf 258), (.vf 259))]
def x1_6Q : Qua := []
def x1_6QE : QuE := []
theorem x1_6a : trisOK xN1 [] x1_6T = true := by kernel_rfl
theorem x1_6b : tesOK xN1 x1_6T x1_6TE = true := by kernel_rfl
theorem x1_6c : quasOK xN1 [] x1_6Q = true := by kernel_rfl
theorem x1_6d : qesOK xN1 x1_6Q x1_6QE = true := by kernel_rfl
theorem x1_6 : lawRunF 4 10 200 [.i, .q, .q, .q] [(0, 3, 1)] (lenL 1 6 8 ++ []) xN1 x1_6TE x1_6QE x1_6ms = true := by kernel_rfl
def x1_7m0 : Memo :=  (⟨[(.ag [(.i .i64 2), (.sl 11 0 10 (.u 4)), (.sl 10 0 2 (.u 1))]), (.c (.sl 49 0 2 (.u 1)))], [(10, xb5_4), (11, xb5_5), (49, xb5_2)], 52, (.c (.sl 54 0 2 (.n 2))), [(10, xb5_4), (11, xb5_5), (49, xb5_2), (54, [(.ef (.vf 267)), (.ef (.vf 268))])], 101⟩) 
theorem x1_7o0 : mok [(0, 3, 1)] (lenL 1 7 8 ++ []) xN1 15 x1_7m0 = true := by kernel_rfl
def x1_7m1 : Memo :=  (⟨[(.ag [(.i .i64 2), (.sl 11 0 10 (.u 4)), (.sl 10 0 2 (.u 1))]), (.c (.sl 51 0 2 (.u 2)))], [(10, xb5_4), (11, xb5_5), (51, xb5_3)], 101, (.c (.sl 103 0 2 (.n 2))), [(10, xb5_4), (11, xb5_5), (51, xb5_3), (103, [(.ef (.vf 285)), (.ef (.vf 286)), (.ef (.vf 287)), (.ef (.vf 288))])], 168⟩) 
theorem x1_7o1 : mok [(0, 3, 1)] (lenL 1 7 8 ++ []) xN1 16 x1_7m1 = true := by kernel_rfl
def x1_7ms : List (Nat × List Memo) := [(15, [x1_7m0]), (16, [x1_7m1])]
theorem x1_7mo : AllMem (memRun [(0, 3, 1)] (lenL 1 7 8 ++ []) xN1) x1_7ms := ⟨⟨x1_7o0, trivial⟩, ⟨x1_7o1, trivial⟩, trivial⟩
def x1_7T : Tri := [(100, 112, 111), (101, 114, 113), (102, 116, 115), (121, 128, 129), (122, 130, 131), (123, 139, 138), (124, 141, 140), (125, 143, 142), (148, 155, 156), (149, 157, 158), (150, 166, 165), (151, 168, 167), (152, 170, 169), (176, 183, 184), (177, 185, 186), (178, 194, 193), (179, 196, 195), (180, 198, 197), (204, 211, 212), (205, 213, 214), (206, 222, 221), (207, 224, 223), (208, 226, 225), (233, 240, 241), (234, 242, 243), (235, 251, 250), (236, 253, 252), (237, 255, 254), (262, 269, 270), (263, 271, 272), (264, 280, 279), (265, 282, 281), (266, 284, 283), (267, 285, 286), (268, 287, 288)]
def x1_7TE : TrE := [((.vf 267), (.vf 285), (.vf 286)), ((.vf 268), (.vf 287), (.vf 288))]
def x1_7Q : Qua := []
def x1_7QE : QuE := []
theorem x1_7a : trisOK xN1 [] x1_7T = true := by kernel_rfl
theorem x1_7b : tesOK xN1 x1_7T x1_7TE = true := by kernel_rfl
theorem x1_7c : quasOK xN1 [] x1_7Q = true := by kernel_rfl
theorem x1_7d : qesOK xN1 x1_7Q x1_7QE = true := by kernel_rfl
theorem x1_7 : lawRunF 4 10 200 [.i, .q, .q, .q] [(0, 3, 1)] (lenL 1 7 8 ++ []) xN1 x1_7TE x1_7QE x1_7ms = true := by kernel_rfl
def x1_8m0 : Memo :=  (⟨[(.ag [(.i .i64 2), (.sl 11 0 11 (.u 4)), (.sl 10 0 2 (.u 1))]), (.c (.sl 52 0 2 (.u 1)))], [(10, xb5_6), (11, xb5_7), (52, xb5_2)], 55, (.c (.sl 57 0 2 (.n 2))), [(10, xb5_6), (11, xb5_7), (52, xb5_2), (57, [(.ef (.vf 296)), (.ef (.vf 297))])], 108⟩) 
theorem x1_8o0 : mok [(0, 3, 1)] (lenL 1 8 8 ++ []) xN1 15 x1_8m0 = true := by kernel_rfl
def x1_8m1 : Memo :=  (⟨[(.ag [(.i .i64 2), (.sl 11 0 11 (.u 4)), (.sl 10 0 2 (.u 1))]), (.c (.sl 54 0 2 (.u 2)))], [(10, xb5_6), (11, xb5_7), (54, xb5_3)], 108, (.c (.sl 110 0 2 (.n 2))), [(10, xb5_6), (11, xb5_7), (54, xb5_3), (110, [(.ef (.vf 314)), (.ef (.vf 315)), (.ef (.vf 316)), (.ef (.vf 317))])], 181⟩) 
theorem x1_8o1 : mok [(0, 3, 1)] (lenL 1 8 8 ++ []) xN1 16 x1_8m1 = true := by kernel_rfl
def x1_8ms : List (Nat × List Memo) := [(15, [x1_8m0]), (16, [x1_8m1])]
theorem x1_8mo : AllMem (memRun [(0, 3, 1)] (lenL 1 8 8 ++ []) xN1) x1_8ms := ⟨⟨x1_8o0, trivial⟩, ⟨x1_8o1, trivial⟩, trivial⟩
def x1_8T : Tri := [(100, 112, 111), (101, 114, 113), (102, 116, 115), (121, 128, 129), (122, 130, 131), (123, 139, 138), (124, 141, 140), (125, 143, 142), (148, 155, 156), (149, 157, 158), (150, 166, 165), (151, 168, 167), (152, 170, 169), (176, 183, 184), (177, 185, 186), (178, 194, 193), (179, 196, 195), (180, 198, 197), (204, 211, 212), (205, 213, 214), (206, 222, 221), (207, 224, 223), (208, 226, 225), (233, 240, 241), (234, 242, 243), (235, 251, 250), (236, 253, 252), (237, 255, 254), (262, 269, 270), (263, 271, 272), (264, 280, 279), (265, 282, 281), (266, 284, 283), (291, 298, 299), (292, 300, 301), (293, 309, 308), (294, 311, 310), (295, 313, 312), (296, 314, 315), (297, 316, 317)]
def x1_8TE : TrE := [((.vf 296), (.vf 314), (.vf 315)), ((.vf 297), (.vf 316), (.vf 317))]
def x1_8Q : Qua := []
def x1_8QE : QuE := []
theorem x1_8a : trisOK xN1 [] x1_8T = true := by kernel_rfl
theorem x1_8b : tesOK xN1 x1_8T x1_8TE = true := by kernel_rfl
theorem x1_8c : quasOK xN1 [] x1_8Q = true := by kernel_rfl
theorem x1_8d : qesOK xN1 x1_8Q x1_8QE = true := by kernel_rfl
theorem x1_8 : lawRunF 4 10 200 [.i, .q, .q, .q] [(0, 3, 1)] (lenL 1 8 8 ++ []) xN1 x1_8TE x1_8QE x1_8ms = true := by kernel_rfl
end Go.Proofs.Ytilhcamdjehpnaa
