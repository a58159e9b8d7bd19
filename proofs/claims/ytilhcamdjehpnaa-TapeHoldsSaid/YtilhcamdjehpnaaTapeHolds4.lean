/-
  'TapeHolds': runs of it, part 4.
-/
import Derived.Test.YtilhcamdjehpnaaTapeHoldst1
namespace Go.Proofs.Ytilhcamdjehpnaa
open Go.RowKit Ex
set_option maxRecDepth 1000000
set_option maxHeartbeats 100000000
def xm4_0 : E := (.ib .quo .i64 (.vi 0) (.li 3))
def xm4_1 : E := (.ai 9 0 (.ci (.ib .add .i64 xm4_0 (.li 0)) (.ci (.li 3) .n0)))
def xm4_2 : E := (.ai 9 0 (.ci (.ib .add .i64 xm4_0 (.li 1)) (.ci (.li 3) .n0)))
def xm4_3 : E := (.ib .sub .i64 (.ai 9 0 (.ci (.vi 0) (.ci (.li 17) .n0))) (.li 8))
def xm4_4 : E := (.ic .eql (.ai 9 0 (.ci (.at 1 0) (.ci (.li 11) .n0))) (.li 0))
def xm4_5 : E := (.ib .sub .i64 (.ai 9 0 (.ci (.ib .quo .i64 (.at 1 0) (.li 11)) (.ci (.li 33) .n0))) (.li 16))
def xm4_6 : E := (.ic .eql (.ai 9 0 (.ci (.at 1 1) (.ci (.li 11) .n0))) (.li 0))
def xm4_7 : E := (.ib .sub .i64 (.ai 9 0 (.ci (.ib .quo .i64 (.at 1 1) (.li 11)) (.ci (.li 33) .n0))) (.li 16))
def xm4_8 : E := (.ic .eql (.ai 9 0 (.ci (.at 1 2) (.ci (.li 11) .n0))) (.li 0))
def xm4_9 : E := (.ib .sub .i64 (.ai 9 0 (.ci (.ib .quo .i64 (.at 1 2) (.li 11)) (.ci (.li 33) .n0))) (.li 16))
def xm4_10 : E := (.i2f (.ib .sub .i64 (.ai 9 0 (.ci (.ti (.ic .lss (.li 0) (.vl 2)) (.at 2 0) (.li 0)) (.ci (.li 7) .n0))) (.li 3)))
def xm4_11 : E := (.i2f (.ib .sub .i64 (.ai 9 0 (.ci (.ti (.ic .lss (.li 1) (.vl 2)) (.at 2 1) (.li 1)) (.ci (.li 7) .n0))) (.li 3)))
def xm4_12 : E := (.ti (.ic .lss (.li 0) (.vl 3)) (.at 3 0) (.li 0))
def xm4_13 : E := (.ti (.ic .lss (.li 1) (.vl 3)) (.at 3 1) (.li 0))
def xm4_14 : E := (.ic .eql (.ai 9 0 (.ci (.at 1 3) (.ci (.li 11) .n0))) (.li 0))
def xm4_15 : E := (.ib .sub .i64 (.ai 9 0 (.ci (.ib .quo .i64 (.at 1 3) (.li 11)) (.ci (.li 33) .n0))) (.li 16))
def xm4_16 : E := (.ic .eql (.ai 9 0 (.ci (.at 1 4) (.ci (.li 11) .n0))) (.li 0))
def xm4_17 : E := (.ib .sub .i64 (.ai 9 0 (.ci (.ib .quo .i64 (.at 1 4) (.li 11)) (.ci (.li 33) .n0))) (.li 16))
def xk4_0 : Blk := [(.i .i64 1), (.i .i64 0), (.i .i64 0), (.f 0)]
def xk4_1 : Blk := [(.i .i64 1), (.i .i64 1), (.i .i64 0), (.f 0)]
def xk4_2 : Blk := [(.i .i64 0), (.i .i64 0), (.i .i64 0), (.ef (.fb .quo (.i2f (.ib .sub .i64 xm4_3 (.ai 9 0 (.ci xm4_3 (.ci (.li 4) .n0))))) (.lf 4616189618054758400)))]
def xk4_3 : Blk := [(.ei .i64 (.ti xm4_4 (.li 0) (.ib .add .i64 (.li 2) (.ai 9 0 (.ci (.at 1 0) (.ci (.li 3) .n0)))))), (.ei .i64 (.ti xm4_4 (.li 0) (.ai 9 0 (.ci (.ib .quo .i64 (.at 1 0) (.li 4)) (.ci (.li 3) .n0))))), (.ei .i64 (.ti xm4_4 (.li 0) (.ai 9 0 (.ci (.ib .quo .i64 (.at 1 0) (.li 40)) (.ci (.li 3) .n0))))), (.ef (.tf xm4_4 (.tf xm4_4 (.fb .quo (.i2f (.ib .sub .i64 xm4_5 (.ai 9 0 (.ci xm4_5 (.ci (.li 8) .n0))))) (.lf 4620693217682128896)) (.lf 0)) (.tf xm4_4 (.fb .quo (.i2f xm4_5) (.lf 4620693217682128896)) (.lf 0))))]
def xk4_4 : Blk := [(.ei .i64 (.ti xm4_6 (.li 0) (.ib .add .i64 (.li 2) (.ai 9 0 (.ci (.at 1 1) (.ci (.li 3) .n0)))))), (.ei .i64 (.ti xm4_6 (.li 0) (.ai 9 0 (.ci (.ib .quo .i64 (.at 1 1) (.li 4)) (.ci (.li 4) .n0))))), (.ei .i64 (.ti xm4_6 (.li 0) (.ai 9 0 (.ci (.ib .quo .i64 (.at 1 1) (.li 40)) (.ci (.li 4) .n0))))), (.ef (.tf xm4_6 (.tf xm4_6 (.fb .quo (.i2f (.ib .sub .i64 xm4_7 (.ai 9 0 (.ci xm4_7 (.ci (.li 8) .n0))))) (.lf 4620693217682128896)) (.lf 0)) (.tf xm4_6 (.fb .quo (.i2f xm4_7) (.lf 4620693217682128896)) (.lf 0))))]
def xk4_5 : Blk := [(.ei .i64 (.ti xm4_8 (.li 0) (.ib .add .i64 (.li 2) (.ai 9 0 (.ci (.at 1 2) (.ci (.li 3) .n0)))))), (.ei .i64 (.ti xm4_8 (.li 0) (.ai 9 0 (.ci (.ib .quo .i64 (.at 1 2) (.li 4)) (.ci (.li 5) .n0))))), (.ei .i64 (.ti xm4_8 (.li 0) (.ai 9 0 (.ci (.ib .quo .i64 (.at 1 2) (.li 40)) (.ci (.li 5) .n0))))), (.ef (.tf xm4_8 (.tf xm4_8 (.fb .quo (.i2f (.ib .sub .i64 xm4_9 (.ai 9 0 (.ci xm4_9 (.ci (.li 8) .n0))))) (.lf 4620693217682128896)) (.lf 0)) (.tf xm4_8 (.fb .quo (.i2f xm4_9) (.lf 4620693217682128896)) (.lf 0))))]
def xk4_6 : Blk := [(.ei .i64 (.ti xm4_14 (.li 0) (.ib .add .i64 (.li 2) (.ai 9 0 (.ci (.at 1 3) (.ci (.li 3) .n0)))))), (.ei .i64 (.ti xm4_14 (.li 0) (.ai 9 0 (.ci (.ib .quo .i64 (.at 1 3) (.li 4)) (.ci (.li 6) .n0))))), (.ei .i64 (.ti xm4_14 (.li 0) (.ai 9 0 (.ci (.ib .quo .i64 (.at 1 3) (.li 40)) (.ci (.li 6) .n0))))), (.ef (.tf xm4_14 (.tf xm4_14 (.fb .quo (.i2f (.ib .sub .i64 xm4_15 (.ai 9 0 (.ci xm4_15 (.ci (.li 8) .n0))))) (.lf 4620693217682128896)) (.lf 0)) (.tf xm4_14 (.fb .quo (.i2f xm4_15) (.lf 4620693217682128896)) (.lf 0))))]
def xb4_0 : Blk := [(.ei .i64 (.ib .sub .i64 (.li 5) xm4_1)), (.ei .i64 (.ib .sub .i64 (.li 5) xm4_2))]
def xb4_1 : Blk := xk4_0 ++ xk4_1 ++ xk4_2 ++ xk4_3 ++ xk4_4 ++ xk4_5
def xb4_2 : Blk := [(.ef xm4_10), (.ef xm4_11)]
def xb4_3 : Blk := [(.ef (.fb .sub xm4_10 (.i2f (.ai 9 0 (.ci xm4_12 (.ci (.li 4) .n0)))))), (.ef (.fb .add xm4_10 (.i2f (.ai 9 0 (.ci (.ib .quo .i64 xm4_12 (.li 4)) (.ci (.li 4) .n0)))))), (.ef (.fb .sub xm4_11 (.i2f (.ai 9 0 (.ci xm4_13 (.ci (.li 4) .n0)))))), (.ef (.fb .add xm4_11 (.i2f (.ai 9 0 (.ci (.ib .quo .i64 xm4_13 (.li 4)) (.ci (.li 4) .n0))))))]
def xb4_4 : Blk := [(.ei .i64 (.ib .sub .i64 (.li 6) xm4_1)), (.ei .i64 (.ib .sub .i64 (.li 6) xm4_2))]
def xb4_5 : Blk := xk4_0 ++ xk4_1 ++ xk4_2 ++ xk4_3 ++ xk4_4 ++ xk4_5 ++ xk4_6
def xb4_6 : Blk := [(.ei .i64 (.ib .sub .i64 (.li 7) xm4_1)), (.ei .i64 (.ib .sub .i64 (.li 7) xm4_2))]
def xb4_7 : Blk := xk4_0 ++ xk4_1 ++ xk4_2 ++ xk4_3 ++ xk4_4 ++ xk4_5 ++ xk4_6 ++ [(.ei .i64 (.ti xm4_16 (.li 0) (.ib .add .i64 (.li 2) (.ai 9 0 (.ci (.at 1 4) (.ci (.li 3) .n0)))))), (.ei .i64 (.ti xm4_16 (.li 0) (.ai 9 0 (.ci (.ib .quo .i64 (.at 1 4) (.li 4)) (.ci (.li 7) .n0))))), (.ei .i64 (.ti xm4_16 (.li 0) (.ai 9 0 (.ci (.ib .quo .i64 (.at 1 4) (.li 40)) (.ci (.li 7) .n0))))), (.ef (.tf xm4_16 (.tf xm4_16 (.fb .quo (.i2f (.ib .sub .i64 xm4_17 (.ai 9 0 (.ci xm4_17 (.ci (.li 8) .n0))))) (.lf 4620693217682128896)) (.lf 0)) (.tf xm4_16 (.fb .quo (.i2f xm4_17) (.lf 4620693217682128896)) (.lf 0))))]
def x1_3m0 : Memo :=  (⟨[(.ag [(.i .i64 2), (.sl 11 0 6 (.u 4)), (.sl 10 0 2 (.u 1))]), (.c (.sl 37 0 2 (.u 1)))], [(10, xb4_0), (11, xb4_1), (37, xb4_2)], 40, (.c (.sl 42 0 2 (.n 2))), [(10, xb4_0), (11, xb4_1), (37, xb4_2), (42, [(.ef (.vf 153)), (.ef (.vf 154))])], 73⟩) 
theorem x1_3o0 : mok [(0, 3, 1)] (lenL 1 3 8 ++ []) xN1 15 x1_3m0 = true := by kernel_rfl
def x1_3m1 : Memo :=  (⟨[(.ag [(.i .i64 2), (.sl 11 0 6 (.u 4)), (.sl 10 0 2 (.u 1))]), (.c (.sl 39 0 2 (.u 2)))], [(10, xb4_0), (11, xb4_1), (39, xb4_3)], 73, (.c (.sl 75 0 2 (.n 2))), [(10, xb4_0), (11, xb4_1), (39, xb4_3), (75, [(.ef (.vf 171)), (.ef (.vf 172)), (.ef (.vf 173)), (.ef (.vf 174))])], 116⟩) 
theorem x1_3o1 : mok [(0, 3, 1)] (lenL 1 3 8 ++ []) xN1 16 x1_3m1 = true := by kernel_rfl
def x1_3ms : List (Nat × List Memo) := [(15, [x1_3m0]), (16, [x1_3m1])]
theorem x1_3mo : AllMem (memRun [(0, 3, 1)] (lenL 1 3 8 ++ []) xN1) x1_3ms := ⟨⟨x1_3o0, trivial⟩, ⟨x1_3o1, trivial⟩, trivial⟩
def x1_3T : Tri := [(100, 112, 111), (101, 114, 113), (102, 116, 115), (121, 128, 129), (122, 130, 131), (123, 139, 138), (124, 141, 140), (125, 143, 142), (148, 155, 156), (149, 157, 158), (150, 166, 165), (151, 168, 167), (152, 170, 169), (153, 171, 172), (154, 173, 174)]
def x1_3TE : TrE := [((.vf 153), (.vf 171), (.vf 172)), ((.vf 154), (.vf 173), (.vf 174))]
def x1_3Q : Qua := []
def x1_3QE : QuE := []
theorem x1_3a : trisOK xN1 [] x1_3T = true := by kernel_rfl
theorem x1_3b : tesOK xN1 x1_3T x1_3TE = true := by kernel_rfl
theorem x1_3c : quasOK xN1 [] x1_3Q = true := by kernel_rfl
theorem x1_3d : qesOK xN1 x1_3Q x1_3QE = true := by kernel_rfl
theorem x1_3 : lawRunF 4 10 200 [.i, .q, .q, .q] [(0, 3, 1)] (lenL 1 3 8 ++ []) xN1 x1_3TE x1_3QE x1_3ms = true := by kernel_rfl
def x1_4m0 : Memo :=  (⟨[(.ag [(.i .i64 2), (.sl 11 0 7 (.u 4)), (.sl 10 0 2 (.u 1))]), (.c (.sl 40 0 2 (.u 1)))], [(10, xb4_4), (11, xb4_5), (40, xb4_2)], 43, (.c (.sl 45 0 2 (.n 2))), [(10, xb4_4), (11, xb4_5), (40, xb4_2), (45, [(.ef (.vf 181)), (.ef (.vf 182))])], 80⟩) 
theorem x1_4o0 : mok [(0, 3, 1)] (lenL 1 4 8 ++ []) xN1 15 x1_4m0 = true := by kernel_rfl
def x1_4m1 : Memo :=  (⟨[(.ag [(.i .i64 2), (.sl 11 0 7 (.u 4)), (.sl 10 0 2 (.u 1))]), (.c (.sl 42 0 2 (.u 2)))], [(10, xb4_4), (11, xb4_5), (42, xb4_3)], 80, (.c (.sl 82 0 2 (.n 2))), [(10, xb4_4), (11, xb4_5), (42, xb4_3), (82, [(.ef (.vf 199)), (.ef (.vf 200)), (.ef (.vf 201)), (.ef (.vf 202))])], 129⟩) 
theorem x1_4o1 : mok [(0, 3, 1)] (lenL 1 4 8 ++ []) xN1 16 x1_4m1 = true := by kernel_rfl
def x1_4ms : List (Nat × List Memo) := [(15, [x1_4m0]), (16, [x1_4m1])]
theorem x1_4mo : AllMem (memRun [(0, 3, 1)] (lenL 1 4 8 ++ []) xN1) x1_4ms := ⟨⟨x1_4o0, trivial⟩, ⟨x1_4o1, trivial⟩, trivial⟩
def x1_4T : Tri := [(100, 112, 111), (101, 114, 113), (102, 116, 115), (121, 128, 129), (122, 130, 131), (123, 139, 138), (124, 141, 140), (125, 143, 142), (148, 155, 156), (149, 157, 158), (150, 166, 165), (151, 168, 167), (152, 170, 169), (176, 183, 184), (177, 185, 186), (178, 194, 193), (179, 196, 195), (180, 198, 197), (181, 199, 200), (182, 201, 202)]
def x1_4TE : TrE := [((.vf 181), (.vf 199), (.vf 200)), ((.vf 182), (.vf 201), (.vf 202))]
def x1_4Q : Qua := []
def x1_4QE : QuE := []
theorem x1_4a : trisOK xN1 [] x1_4T = true := by kernel_rfl
theorem x1_4b : tesOK xN1 x1_4T x1_4TE = true := by kernel_rfl
theorem x1_4c : quasOK xN1 [] x1_4Q = true := by kernel_rfl
theorem x1_4d : qesOK xN1 x1_4Q x1_4QE = true := by kernel_rfl
theorem x1_4 : lawRunF 4 10 200 [.i, .q, .q, .q] [(0, 3, 1)] (lenL 1 4 8 ++ []) xN1 x1_4TE x1_4QE x1_4ms = true := by kernel_rfl
def x1_5m0 : Memo :=  (⟨[(.ag [(.i .i64 2), (.sl 11 0 8 (.u 4)), (.sl 10 0 2 (.u 1))]), (.c (.sl 43 0 2 (.u 1)))], [(10, xb4_6), (11, xb4_7), (43, xb4_2)], 46, (.c (.sl 48 0 2 (.n 2))), [(10, xb4_6), (11, xb4_7), (43, xb4_2), (48, [(.ef (.vf 209)), (.ef (.vf 210))])], 87⟩) 
theorem x1_5o0 : mok [(0, 3, 1)] (lenL 1 5 8 ++ []) xN1 15 x1_5m0 = true := by kernel_rfl
def x1_5m1 : Memo :=  (⟨[(.ag [(.i .i64 2), (.sl 11 0 8 (.u 4)), (.sl 10 0 2 (.u 1))]), (.c (.sl 45 0 2 (.u 2)))], [(10, xb4_6), (11, xb4_7), (45, xb4_3)], 87, (.c (.sl 89 0 2 (.n 2))), [(10, xb4_6), (11, xb4_7), (45, xb4_3), (89, [(.ef (.vf 227)), (.ef (.vf 228)), (.ef (.vf 229)), (.ef (.vf 230))])], 142⟩) 
theorem x1_5o1 : mok [(0, 3, 1)] (lenL 1 5 8 ++ []) xN1 16 x1_5m1 = true := by kernel_rfl
def x1_5ms : List (Nat × List Memo) := [(15, [x1_5m0]), (16, [x1_5m1])]
theorem x1_5mo : AllMem (memRun [(0, 3, 1)] (lenL 1 5 8 ++ []) xN1) x1_5ms := ⟨⟨x1_5o0, trivial⟩, ⟨x1_5o1, trivial⟩, trivial⟩
def x1_5T : Tri := [(100, 112, 111), (101, 114, 113), (102, 116, 115), (121, 128, 129), (122, 130, 131), (123, 139, 138), (124, 141, 140), (125, 143, 142), (148, 155, 156), (149, 157, 158), (150, 166, 165), (151, 168, 167), (152, 170, 169), (176, 183, 184), (177, 185, 186), (178, 194, 193), (179, 196, 195), (180, 198, 197), (204, 211, 212), (205, 213, 214), (206, 222, 221), (207, 224, 223), (208, 226, 225), (209, 227, 228), (210, 229, 230)]
def x1_5TE : TrE := [((.vf 209), (.vf 227), (.vf 228)), ((.vf 210), (.vf 229), (.vf 230))]
def x1_5Q : Qua := []
def x1_5QE : QuE := []
theorem x1_5a : trisOK xN1 [] x1_5T = true := by kernel_rfl
theorem x1_5b : tesOK xN1 x1_5T x1_5TE = true := by kernel_rfl
theorem x1_5c : quasOK xN1 [] x1_5Q = true := by kernel_rfl
theorem x1_5d : qesOK xN1 x1_5Q x1_5QE = true := by kernel_rfl
theorem x1_5 : lawRunF 4 10 200 [.i, .q, .q, .q] [(0, 3, 1)] (lenL 1 5 8 ++ []) xN1 x1_5TE x1_5QE x1_5ms = true := by kernel_rfl
end Go.Proofs.Ytilhcamdjehpnaa
