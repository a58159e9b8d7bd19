/-
  'TapeHolds': runs of it, part 0.
-/
import Derived.Test.YtilhcamdjehpnaaTapeHoldst0
namespace Go.Proofs.Ytilhcamdjehpnaa
open Go.RowKit Ex
set_option maxRecDepth 1000000
set_option maxHeartbeats 100000000
def xm0_0 : E := (.ib .add .i64 (.ib .quo .i64 (.vi 0) (.li 3)) (.li 0))
def xm0_1 : E := (.ib .sub .i64 (.li 1) (.ai 9 0 (.ci xm0_0 (.ci (.li 2) .n0))))
def xm0_2 : E := (.ib .sub .i64 (.ai 9 0 (.ci (.vi 0) (.ci (.li 17) .n0))) (.li 8))
def xm0_3 : E := (.fb .quo (.i2f (.ib .sub .i64 xm0_2 (.ai 9 0 (.ci xm0_2 (.ci (.li 4) .n0))))) (.lf 4616189618054758400))
def xm0_4 : E := (.i2f (.ib .sub .i64 (.ai 9 0 (.ci (.ti (.ic .lss (.li 0) (.vl 2)) (.at 2 0) (.li 0)) (.ci (.li 7) .n0))) (.li 3)))
def xm0_5 : E := (.ic .eql xm0_1 (.li 0))
def xm0_6 : E := (.ti (.ic .lss (.li 0) (.vl 3)) (.at 3 0) (.li 0))
def xm0_7 : E := (.fb .sub xm0_4 (.i2f (.ai 9 0 (.ci xm0_6 (.ci (.li 4) .n0)))))
def xm0_8 : E := (.fb .add xm0_4 (.i2f (.ai 9 0 (.ci (.ib .quo .i64 xm0_6 (.li 4)) (.ci (.li 4) .n0)))))
def xm0_9 : E := (.ai 9 0 (.ci xm0_0 (.ci (.li 3) .n0)))
def xm0_10 : E := (.ic .eql (.ai 9 0 (.ci (.at 1 0) (.ci (.li 11) .n0))) (.li 0))
def xm0_11 : E := (.ib .sub .i64 (.ai 9 0 (.ci (.ib .quo .i64 (.at 1 0) (.li 11)) (.ci (.li 33) .n0))) (.li 16))
def xm0_12 : E := (.ic .eql (.ai 9 0 (.ci (.at 1 1) (.ci (.li 11) .n0))) (.li 0))
def xm0_13 : E := (.ib .sub .i64 (.ai 9 0 (.ci (.ib .quo .i64 (.at 1 1) (.li 11)) (.ci (.li 33) .n0))) (.li 16))
def xk0_0 : Blk := [(.i .i64 1), (.i .i64 0), (.i .i64 0), (.f 0)]
def xk0_1 : Blk := [(.i .i64 0), (.i .i64 0), (.i .i64 0), (.ef xm0_3)]
def xk0_2 : Blk := [(.ei .i64 (.ti xm0_10 (.li 0) (.ib .add .i64 (.li 2) (.ai 9 0 (.ci (.at 1 0) (.ci (.li 3) .n0)))))), (.ei .i64 (.ti xm0_10 (.li 0) (.ai 9 0 (.ci (.ib .quo .i64 (.at 1 0) (.li 4)) (.ci (.li 2) .n0))))), (.ei .i64 (.ti xm0_10 (.li 0) (.ai 9 0 (.ci (.ib .quo .i64 (.at 1 0) (.li 40)) (.ci (.li 2) .n0))))), (.ef (.tf xm0_10 (.tf xm0_10 (.fb .quo (.i2f (.ib .sub .i64 xm0_11 (.ai 9 0 (.ci xm0_11 (.ci (.li 8) .n0))))) (.lf 4620693217682128896)) (.lf 0)) (.tf xm0_10 (.fb .quo (.i2f xm0_11) (.lf 4620693217682128896)) (.lf 0))))]
def xb0_0 : Blk := xk0_0 ++ xk0_1
def xb0_1 : Blk := [(.ef xm0_7), (.ef xm0_8)]
def xb0_2 : Blk := [(.ei .i64 (.ib .sub .i64 (.li 2) xm0_9))]
def xb0_3 : Blk := xk0_0 ++ xk0_1 ++ xk0_2
def xb0_4 : Blk := [(.ei .i64 (.ib .sub .i64 (.li 3) xm0_9))]
def xb0_5 : Blk := xk0_0 ++ xk0_1 ++ xk0_2 ++ [(.ei .i64 (.ti xm0_12 (.li 0) (.ib .add .i64 (.li 2) (.ai 9 0 (.ci (.at 1 1) (.ci (.li 3) .n0)))))), (.ei .i64 (.ti xm0_12 (.li 0) (.ai 9 0 (.ci (.ib .quo .i64 (.at 1 1) (.li 4)) (.ci (.li 3) .n0))))), (.ei .i64 (.ti xm0_12 (.li 0) (.ai 9 0 (.ci (.ib .quo .i64 (.at 1 1) (.li 40)) (.ci (.li 3) .n0))))), (.ef (.tf xm0_12 (.tf xm0_12 (.fb .quo (.i2f (.ib .sub .i64 xm0_13 (.ai 9 0 (.ci xm0_13 (.ci (.li 8) .n0))))) (.lf 4620693217682128896)) (.lf 0)) (.tf xm0_12 (.fb .quo (.i2f xm0_13) (.lf 4620693217682128896)) (.lf 0))))]
def x0_0m0 : Memo :=  (⟨[(.ag [(.i .i64 1), (.sl 11 0 2 (.u 4)), (.sl 10 0 1 (.u 1))]), (.c (.sl 20 0 1 (.u 1)))], [(10, [(.ei .i64 xm0_1)]), (11, xb0_0), (20, [(.ef xm0_4)])], 23, (.c (.sl 25 0 1 (.n 1))), [(10, [(.ei .i64 xm0_1)]), (11, xb0_0), (20, [(.ef xm0_4)]), (25, [(.ef (.tf xm0_5 xm0_4 xm0_3))])], 40⟩) 
theorem x0_0o0 : mok [(0, 3, 0)] (lenL 1 0 8 ++ []) xN0 15 x0_0m0 = true := by kernel_rfl
def x0_0m1 : Memo :=  (⟨[(.ag [(.i .i64 1), (.sl 11 0 2 (.u 4)), (.sl 10 0 1 (.u 1))]), (.c (.sl 22 0 1 (.u 2)))], [(10, [(.ei .i64 xm0_1)]), (11, xb0_0), (22, xb0_1)], 40, (.c (.sl 42 0 1 (.n 1))), [(10, [(.ei .i64 xm0_1)]), (11, xb0_0), (22, xb0_1), (42, [(.ef (.tf xm0_5 xm0_7 xm0_3)), (.ef (.tf xm0_5 xm0_8 xm0_3))])], 60⟩) 
theorem x0_0o1 : mok [(0, 3, 0)] (lenL 1 0 8 ++ []) xN0 16 x0_0m1 = true := by kernel_rfl
def x0_0ms : List (Nat × List Memo) := [(15, [x0_0m0]), (16, [x0_0m1])]
theorem x0_0mo : AllMem (memRun [(0, 3, 0)] (lenL 1 0 8 ++ []) xN0) x0_0ms := ⟨⟨x0_0o0, trivial⟩, ⟨x0_0o1, trivial⟩, trivial⟩
def x0_0e0 : E := (.ic .eql (.ib .sub .i64 (.li 1) (.ai 9 0 (.ci (.ib .add .i64 (.ib .quo .i64 (.vi 0) (.li 3)) (.li 0)) (.ci (.li 2) .n0)))) (.li 0))
def x0_0e1 : E := (.i2f (.ib .sub .i64 (.ai 9 0 (.ci (.ti (.ic .lss (.li 0) (.vl 2)) (.at 2 0) (.li 0)) (.ci (.li 7) .n0))) (.li 3)))
def x0_0e2 : E := (.ib .sub .i64 (.ai 9 0 (.ci (.vi 0) (.ci (.li 17) .n0))) (.li 8))
def x0_0e3 : E := (.fb .quo (.i2f (.ib .sub .i64 x0_0e2 (.ai 9 0 (.ci x0_0e2 (.ci (.li 4) .n0))))) (.lf 4616189618054758400))
def x0_0e4 : E := (.ti (.ic .lss (.li 0) (.vl 3)) (.at 3 0) (.li 0))
def x0_0T : Tri := []
def x0_0TE : TrE := [((.tf x0_0e0 x0_0e1 x0_0e3), (.tf x0_0e0 (.fb .sub x0_0e1 (.i2f (.ai 9 0 (.ci x0_0e4 (.ci (.li 4) .n0))))) x0_0e3), (.tf x0_0e0 (.fb .add x0_0e1 (.i2f (.ai 9 0 (.ci (.ib .quo .i64 x0_0e4 (.li 4)) (.ci (.li 4) .n0))))) x0_0e3))]
def x0_0Q : Qua := []
def x0_0QE : QuE := []
theorem x0_0a : trisOK xN0 [] x0_0T = true := rfl
theorem x0_0b : tesOK xN0 x0_0T x0_0TE = true := by kernel_rfl
theorem x0_0c : quasOK xN0 [] x0_0Q = true := by kernel_rfl
theorem x0_0d : qesOK xN0 x0_0Q x0_0QE = true := by kernel_rfl
theorem x0_0 : lawRunF 4 10 200 [.i, .q, .q, .q] [(0, 3, 0)] (lenL 1 0 8 ++ []) xN0 x0_0TE x0_0QE x0_0ms = true := by kernel_rfl
def x0_1m0 : Memo :=  (⟨[(.ag [(.i .i64 1), (.sl 11 0 3 (.u 4)), (.sl 10 0 1 (.u 1))]), (.c (.sl 23 0 1 (.u 1)))], [(10, xb0_2), (11, xb0_3), (23, [(.ef xm0_4)])], 26, (.c (.sl 28 0 1 (.n 1))), [(10, xb0_2), (11, xb0_3), (23, [(.ef xm0_4)]), (28, [(.ef (.vf 103))])], 47⟩) 
theorem x0_1o0 : mok [(0, 3, 0)] (lenL 1 1 8 ++ []) xN0 15 x0_1m0 = true := by kernel_rfl
def x0_1m1 : Memo :=  (⟨[(.ag [(.i .i64 1), (.sl 11 0 3 (.u 4)), (.sl 10 0 1 (.u 1))]), (.c (.sl 25 0 1 (.u 2)))], [(10, xb0_2), (11, xb0_3), (25, xb0_1)], 47, (.c (.sl 49 0 1 (.n 1))), [(10, xb0_2), (11, xb0_3), (25, xb0_1), (49, [(.ef (.vf 116)), (.ef (.vf 117))])], 73⟩) 
theorem x0_1o1 : mok [(0, 3, 0)] (lenL 1 1 8 ++ []) xN0 16 x0_1m1 = true := by kernel_rfl
def x0_1ms : List (Nat × List Memo) := [(15, [x0_1m0]), (16, [x0_1m1])]
theorem x0_1mo : AllMem (memRun [(0, 3, 0)] (lenL 1 1 8 ++ []) xN0) x0_1ms := ⟨⟨x0_1o0, trivial⟩, ⟨x0_1o1, trivial⟩, trivial⟩
def x0_1T : Tri := [(100, 111, 110), (101, 113, 112), (102, 115, 114), (103, 116, 117)]
def x0_1TE : TrE := [((.vf 103), (.vf 116), (.vf 117))]
def x0_1Q : Qua := []
def x0_1QE : QuE := []
theorem x0_1a : trisOK xN0 [] x0_1T = true := by kernel_rfl
theorem x0_1b : tesOK xN0 x0_1T x0_1TE = true := by kernel_rfl
theorem x0_1c : quasOK xN0 [] x0_1Q = true := by kernel_rfl
theorem x0_1d : qesOK xN0 x0_1Q x0_1QE = true := by kernel_rfl
theorem x0_1 : lawRunF 4 10 200 [.i, .q, .q, .q] [(0, 3, 0)] (lenL 1 1 8 ++ []) xN0 x0_1TE x0_1QE x0_1ms = true := by kernel_rfl
def x0_2m0 : Memo :=  (⟨[(.ag [(.i .i64 1), (.sl 11 0 4 (.u 4)), (.sl 10 0 1 (.u 1))]), (.c (.sl 26 0 1 (.u 1)))], [(10, xb0_4), (11, xb0_5), (26, [(.ef xm0_4)])], 29, (.c (.sl 31 0 1 (.n 1))), [(10, xb0_4), (11, xb0_5), (26, [(.ef xm0_4)]), (31, [(.ef (.vf 123))])], 54⟩) 
theorem x0_2o0 : mok [(0, 3, 0)] (lenL 1 2 8 ++ []) xN0 15 x0_2m0 = true := by kernel_rfl
def x0_2m1 : Memo :=  (⟨[(.ag [(.i .i64 1), (.sl 11 0 4 (.u 4)), (.sl 10 0 1 (.u 1))]), (.c (.sl 28 0 1 (.u 2)))], [(10, xb0_4), (11, xb0_5), (28, xb0_1)], 54, (.c (.sl 56 0 1 (.n 1))), [(10, xb0_4), (11, xb0_5), (28, xb0_1), (56, [(.ef (.vf 140)), (.ef (.vf 141))])], 86⟩) 
theorem x0_2o1 : mok [(0, 3, 0)] (lenL 1 2 8 ++ []) xN0 16 x0_2m1 = true := by kernel_rfl
def x0_2ms : List (Nat × List Memo) := [(15, [x0_2m0]), (16, [x0_2m1])]
theorem x0_2mo : AllMem (memRun [(0, 3, 0)] (lenL 1 2 8 ++ []) xN0) x0_2ms := ⟨⟨x0_2o0, trivial⟩, ⟨x0_2o1, trivial⟩, trivial⟩
def x0_2T : Tri := [(100, 111, 110), (101, 113, 112), (102, 115, 114), (118, 124, 125), (119, 126, 127), (120, 135, 134), (121, 137, 136), (122, 139, 138), (123, 140, 141)]
def x0_2TE : TrE := [((.vf 123), (.vf 140), (.vf 141))]
def x0_2Q : Qua := []
def x0_2QE : QuE := []
theorem x0_2a : trisOK xN0 [] x0_2T = true := by kernel_rfl
theorem x0_2b : tesOK xN0 x0_2T x0_2TE = true := by kernel_rfl
theorem x0_2c : quasOK xN0 [] x0_2Q = true := by kernel_rfl
theorem x0_2d : qesOK xN0 x0_2Q x0_2QE = true := by kernel_rfl
theorem x0_2 : lawRunF 4 10 200 [.i, .q, .q, .q] [(0, 3, 0)] (lenL 1 2 8 ++ []) xN0 x0_2TE x0_2QE x0_2ms = true := by kernel_rfl
end Go.Proofs.Ytilhcamdjehpnaa
