/-
  'TapeHolds': runs of it, part 3.
-/
import Derived.Test.YtilhcamdjehpnaaTapeHoldst1
namespace Go.Proofs.Ytilhcamdjehpnaa
open Go.RowKit Ex
set_option maxRecDepth 1000000
set_option maxHeartbeats 100000000
def xm3_0 : E := (.ib .quo .i64 (.vi 0) (.li 3))
def xm3_1 : E := (.ai 9 0 (.ci (.ib .add .i64 xm3_0 (.li 0)) (.ci (.li 3) .n0)))
def xm3_2 : E := (.ib .sub .i64 (.li 2) xm3_1)
def xm3_3 : E := (.ai 9 0 (.ci (.ib .add .i64 xm3_0 (.li 1)) (.ci (.li 3) .n0)))
def xm3_4 : E := (.ib .sub .i64 (.li 2) xm3_3)
def xm3_5 : E := (.ib .sub .i64 (.ai 9 0 (.ci (.vi 0) (.ci (.li 17) .n0))) (.li 8))
def xm3_6 : E := (.fb .quo (.i2f (.ib .sub .i64 xm3_5 (.ai 9 0 (.ci xm3_5 (.ci (.li 4) .n0))))) (.lf 4616189618054758400))
def xm3_7 : E := (.i2f (.ib .sub .i64 (.ai 9 0 (.ci (.ti (.ic .lss (.li 0) (.vl 2)) (.at 2 0) (.li 0)) (.ci (.li 7) .n0))) (.li 3)))
def xm3_8 : E := (.i2f (.ib .sub .i64 (.ai 9 0 (.ci (.ti (.ic .lss (.li 1) (.vl 2)) (.at 2 1) (.li 1)) (.ci (.li 7) .n0))) (.li 3)))
def xm3_9 : E := (.ic .eql xm3_2 (.li 0))
def xm3_10 : E := (.ic .eql xm3_2 (.li 1))
def xm3_11 : E := (.ic .eql xm3_4 (.li 0))
def xm3_12 : E := (.ic .eql xm3_4 (.li 1))
def xm3_13 : E := (.ti (.ic .lss (.li 0) (.vl 3)) (.at 3 0) (.li 0))
def xm3_14 : E := (.fb .sub xm3_7 (.i2f (.ai 9 0 (.ci xm3_13 (.ci (.li 4) .n0)))))
def xm3_15 : E := (.fb .add xm3_7 (.i2f (.ai 9 0 (.ci (.ib .quo .i64 xm3_13 (.li 4)) (.ci (.li 4) .n0)))))
def xm3_16 : E := (.ti (.ic .lss (.li 1) (.vl 3)) (.at 3 1) (.li 0))
def xm3_17 : E := (.fb .sub xm3_8 (.i2f (.ai 9 0 (.ci xm3_16 (.ci (.li 4) .n0)))))
def xm3_18 : E := (.fb .add xm3_8 (.i2f (.ai 9 0 (.ci (.ib .quo .i64 xm3_16 (.li 4)) (.ci (.li 4) .n0)))))
def xm3_19 : E := (.ic .eql (.ai 9 0 (.ci (.at 1 0) (.ci (.li 11) .n0))) (.li 0))
def xm3_20 : E := (.ib .sub .i64 (.ai 9 0 (.ci (.ib .quo .i64 (.at 1 0) (.li 11)) (.ci (.li 33) .n0))) (.li 16))
def xm3_21 : E := (.ic .eql (.ai 9 0 (.ci (.at 1 1) (.ci (.li 11) .n0))) (.li 0))
def xm3_22 : E := (.ib .sub .i64 (.ai 9 0 (.ci (.ib .quo .i64 (.at 1 1) (.li 11)) (.ci (.li 33) .n0))) (.li 16))
def xk3_0 : Blk := [(.i .i64 1), (.i .i64 0), (.i .i64 0), (.f 0)]
def xk3_1 : Blk := [(.i .i64 1), (.i .i64 1), (.i .i64 0), (.f 0)]
def xk3_2 : Blk := [(.i .i64 0), (.i .i64 0), (.i .i64 0), (.ef xm3_6)]
def xk3_3 : Blk := [(.ei .i64 (.ti xm3_19 (.li 0) (.ib .add .i64 (.li 2) (.ai 9 0 (.ci (.at 1 0) (.ci (.li 3) .n0)))))), (.ei .i64 (.ti xm3_19 (.li 0) (.ai 9 0 (.ci (.ib .quo .i64 (.at 1 0) (.li 4)) (.ci (.li 3) .n0))))), (.ei .i64 (.ti xm3_19 (.li 0) (.ai 9 0 (.ci (.ib .quo .i64 (.at 1 0) (.li 40)) (.ci (.li 3) .n0))))), (.ef (.tf xm3_19 (.tf xm3_19 (.fb .quo (.i2f (.ib .sub .i64 xm3_20 (.ai 9 0 (.ci xm3_20 (.ci (.li 8) .n0))))) (.lf 4620693217682128896)) (.lf 0)) (.tf xm3_19 (.fb .quo (.i2f xm3_20) (.lf 4620693217682128896)) (.lf 0))))]
def xb3_0 : Blk := [(.ei .i64 xm3_2), (.ei .i64 xm3_4)]
def xb3_1 : Blk := xk3_0 ++ xk3_1 ++ xk3_2
def xb3_2 : Blk := [(.ef xm3_7), (.ef xm3_8)]
def xb3_3 : Blk := [(.ef xm3_14), (.ef xm3_15), (.ef xm3_17), (.ef xm3_18)]
def xb3_4 : Blk := [(.ei .i64 (.ib .sub .i64 (.li 3) xm3_1)), (.ei .i64 (.ib .sub .i64 (.li 3) xm3_3))]
def xb3_5 : Blk := xk3_0 ++ xk3_1 ++ xk3_2 ++ xk3_3
def xb3_6 : Blk := [(.ei .i64 (.ib .sub .i64 (.li 4) xm3_1)), (.ei .i64 (.ib .sub .i64 (.li 4) xm3_3))]
def xb3_7 : Blk := xk3_0 ++ xk3_1 ++ xk3_2 ++ xk3_3 ++ [(.ei .i64 (.ti xm3_21 (.li 0) (.ib .add .i64 (.li 2) (.ai 9 0 (.ci (.at 1 1) (.ci (.li 3) .n0)))))), (.ei .i64 (.ti xm3_21 (.li 0) (.ai 9 0 (.ci (.ib .quo .i64 (.at 1 1) (.li 4)) (.ci (.li 4) .n0))))), (.ei .i64 (.ti xm3_21 (.li 0) (.ai 9 0 (.ci (.ib .quo .i64 (.at 1 1) (.li 40)) (.ci (.li 4) .n0))))), (.ef (.tf xm3_21 (.tf xm3_21 (.fb .quo (.i2f (.ib .sub .i64 xm3_22 (.ai 9 0 (.ci xm3_22 (.ci (.li 8) .n0))))) (.lf 4620693217682128896)) (.lf 0)) (.tf xm3_21 (.fb .quo (.i2f xm3_22) (.lf 4620693217682128896)) (.lf 0))))]
def x1_0m0 : Memo :=  (⟨[(.ag [(.i .i64 2), (.sl 11 0 3 (.u 4)), (.sl 10 0 2 (.u 1))]), (.c (.sl 28 0 2 (.u 1)))], [(10, xb3_0), (11, xb3_1), (28, xb3_2)], 31, (.c (.sl 33 0 2 (.n 2))), [(10, xb3_0), (11, xb3_1), (28, xb3_2), (33, [(.ef (.tf xm3_9 xm3_7 (.tf xm3_10 xm3_8 xm3_6))), (.ef (.tf xm3_11 xm3_7 (.tf xm3_12 xm3_8 xm3_6)))])], 52⟩) 
theorem x1_0o0 : mok [(0, 3, 1)] (lenL 1 0 8 ++ []) xN1 15 x1_0m0 = true := by kernel_rfl
def x1_0m1 : Memo :=  (⟨[(.ag [(.i .i64 2), (.sl 11 0 3 (.u 4)), (.sl 10 0 2 (.u 1))]), (.c (.sl 30 0 2 (.u 2)))], [(10, xb3_0), (11, xb3_1), (30, xb3_3)], 52, (.c (.sl 54 0 2 (.n 2))), [(10, xb3_0), (11, xb3_1), (30, xb3_3), (54, [(.ef (.tf xm3_9 xm3_14 (.tf xm3_10 xm3_17 xm3_6))), (.ef (.tf xm3_9 xm3_15 (.tf xm3_10 xm3_18 xm3_6))), (.ef (.tf xm3_11 xm3_14 (.tf xm3_12 xm3_17 xm3_6))), (.ef (.tf xm3_11 xm3_15 (.tf xm3_12 xm3_18 xm3_6)))])], 77⟩) 
theorem x1_0o1 : mok [(0, 3, 1)] (lenL 1 0 8 ++ []) xN1 16 x1_0m1 = true := by kernel_rfl
def x1_0ms : List (Nat × List Memo) := [(15, [x1_0m0]), (16, [x1_0m1])]
theorem x1_0mo : AllMem (memRun [(0, 3, 1)] (lenL 1 0 8 ++ []) xN1) x1_0ms := ⟨⟨x1_0o0, trivial⟩, ⟨x1_0o1, trivial⟩, trivial⟩
def x1_0e0 : E := (.ib .quo .i64 (.vi 0) (.li 3))
def x1_0e1 : E := (.ib .sub .i64 (.li 2) (.ai 9 0 (.ci (.ib .add .i64 x1_0e0 (.li 0)) (.ci (.li 3) .n0))))
def x1_0e2 : E := (.ic .eql x1_0e1 (.li 0))
def x1_0e3 : E := (.i2f (.ib .sub .i64 (.ai 9 0 (.ci (.ti (.ic .lss (.li 0) (.vl 2)) (.at 2 0) (.li 0)) (.ci (.li 7) .n0))) (.li 3)))
def x1_0e4 : E := (.ic .eql x1_0e1 (.li 1))
def x1_0e5 : E := (.i2f (.ib .sub .i64 (.ai 9 0 (.ci (.ti (.ic .lss (.li 1) (.vl 2)) (.at 2 1) (.li 1)) (.ci (.li 7) .n0))) (.li 3)))
def x1_0e6 : E := (.ib .sub .i64 (.ai 9 0 (.ci (.vi 0) (.ci (.li 17) .n0))) (.li 8))
def x1_0e7 : E := (.fb .quo (.i2f (.ib .sub .i64 x1_0e6 (.ai 9 0 (.ci x1_0e6 (.ci (.li 4) .n0))))) (.lf 4616189618054758400))
def x1_0e8 : E := (.ti (.ic .lss (.li 0) (.vl 3)) (.at 3 0) (.li 0))
def x1_0e9 : E := (.fb .sub x1_0e3 (.i2f (.ai 9 0 (.ci x1_0e8 (.ci (.li 4) .n0)))))
def x1_0e10 : E := (.ti (.ic .lss (.li 1) (.vl 3)) (.at 3 1) (.li 0))
def x1_0e11 : E := (.fb .sub x1_0e5 (.i2f (.ai 9 0 (.ci x1_0e10 (.ci (.li 4) .n0)))))
def x1_0e12 : E := (.fb .add x1_0e3 (.i2f (.ai 9 0 (.ci (.ib .quo .i64 x1_0e8 (.li 4)) (.ci (.li 4) .n0)))))
def x1_0e13 : E := (.fb .add x1_0e5 (.i2f (.ai 9 0 (.ci (.ib .quo .i64 x1_0e10 (.li 4)) (.ci (.li 4) .n0)))))
def x1_0e14 : E := (.ib .sub .i64 (.li 2) (.ai 9 0 (.ci (.ib .add .i64 x1_0e0 (.li 1)) (.ci (.li 3) .n0))))
def x1_0e15 : E := (.ic .eql x1_0e14 (.li 0))
def x1_0e16 : E := (.ic .eql x1_0e14 (.li 1))
def x1_0T : Tri := []
def x1_0TE : TrE := [((.tf x1_0e2 x1_0e3 (.tf x1_0e4 x1_0e5 x1_0e7)), (.tf x1_0e2 x1_0e9 (.tf x1_0e4 x1_0e11 x1_0e7)), (.tf x1_0e2 x1_0e12 (.tf x1_0e4 x1_0e13 x1_0e7))), ((.tf x1_0e15 x1_0e3 (.tf x1_0e16 x1_0e5 x1_0e7)), (.tf x1_0e15 x1_0e9 (.tf x1_0e16 x1_0e11 x1_0e7)), (.tf x1_0e15 x1_0e12 (.tf x1_0e16 x1_0e13 x1_0e7)))]
def x1_0Q : Qua := []
def x1_0QE : QuE := []
theorem x1_0a : trisOK xN1 [] x1_0T = true := rfl
theorem x1_0b : tesOK xN1 x1_0T x1_0TE = true := by kernel_rfl
theorem x1_0c : quasOK xN1 [] x1_0Q = true := by kernel_rfl
theorem x1_0d : qesOK xN1 x1_0Q x1_0QE = true := by kernel_rfl
theorem x1_0 : lawRunF 4 10 200 [.i, .q, .q, .q] [(0, 3, 1)] (lenL 1 0 8 ++ []) xN1 x1_0TE x1_0QE x1_0ms = true := by kernel_rfl
def x1_1m0 : Memo :=  (⟨[(.ag [(.i .i64 2), (.sl 11 0 4 (.u 4)), (.sl 10 0 2 (.u 1))]), (.c (.sl 31 0 2 (.u 1)))], [(10, xb3_4), (11, xb3_5), (31, xb3_2)], 34, (.c (.sl 36 0 2 (.n 2))), [(10, xb3_4), (11, xb3_5), (31, xb3_2), (36, [(.ef (.vf 103)), (.ef (.vf 104))])], 59⟩) 
theorem x1_1o0 : mok [(0, 3, 1)] (lenL 1 1 8 ++ []) xN1 15 x1_1m0 = true := by kernel_rfl
def x1_1m1 : Memo :=  (⟨[(.ag [(.i .i64 2), (.sl 11 0 4 (.u 4)), (.sl 10 0 2 (.u 1))]), (.c (.sl 33 0 2 (.u 2)))], [(10, xb3_4), (11, xb3_5), (33, xb3_3)], 59, (.c (.sl 61 0 2 (.n 2))), [(10, xb3_4), (11, xb3_5), (33, xb3_3), (61, [(.ef (.vf 117)), (.ef (.vf 118)), (.ef (.vf 119)), (.ef (.vf 120))])], 90⟩) 
theorem x1_1o1 : mok [(0, 3, 1)] (lenL 1 1 8 ++ []) xN1 16 x1_1m1 = true := by kernel_rfl
def x1_1ms : List (Nat × List Memo) := [(15, [x1_1m0]), (16, [x1_1m1])]
theorem x1_1mo : AllMem (memRun [(0, 3, 1)] (lenL 1 1 8 ++ []) xN1) x1_1ms := ⟨⟨x1_1o0, trivial⟩, ⟨x1_1o1, trivial⟩, trivial⟩
def x1_1T : Tri := [(100, 112, 111), (101, 114, 113), (102, 116, 115), (103, 117, 118), (104, 119, 120)]
def x1_1TE : TrE := [((.vf 103), (.vf 117), (.vf 118)), ((.vf 104), (.vf 119), (.vf 120))]
def x1_1Q : Qua := []
def x1_1QE : QuE := []
theorem x1_1a : trisOK xN1 [] x1_1T = true := by kernel_rfl
theorem x1_1b : tesOK xN1 x1_1T x1_1TE = true := by kernel_rfl
theorem x1_1c : quasOK xN1 [] x1_1Q = true := by kernel_rfl
theorem x1_1d : qesOK xN1 x1_1Q x1_1QE = true := by kernel_rfl
theorem x1_1 : lawRunF 4 10 200 [.i, .q, .q, .q] [(0, 3, 1)] (lenL 1 1 8 ++ []) xN1 x1_1TE x1_1QE x1_1ms = true := by kernel_rfl
def x1_2m0 : Memo :=  (⟨[(.ag [(.i .i64 2), (.sl 11 0 5 (.u 4)), (.sl 10 0 2 (.u 1))]), (.c (.sl 34 0 2 (.u 1)))], [(10, xb3_6), (11, xb3_7), (34, xb3_2)], 37, (.c (.sl 39 0 2 (.n 2))), [(10, xb3_6), (11, xb3_7), (34, xb3_2), (39, [(.ef (.vf 126)), (.ef (.vf 127))])], 66⟩) 
theorem x1_2o0 : mok [(0, 3, 1)] (lenL 1 2 8 ++ []) xN1 15 x1_2m0 = true := by kernel_rfl
def x1_2m1 : Memo :=  (⟨[(.ag [(.i .i64 2), (.sl 11 0 5 (.u 4)), (.sl 10 0 2 (.u 1))]), (.c (.sl 36 0 2 (.u 2)))], [(10, xb3_6), (11, xb3_7), (36, xb3_3)], 66, (.c (.sl 68 0 2 (.n 2))), [(10, xb3_6), (11, xb3_7), (36, xb3_3), (68, [(.ef (.vf 144)), (.ef (.vf 145)), (.ef (.vf 146)), (.ef (.vf 147))])], 103⟩) 
theorem x1_2o1 : mok [(0, 3, 1)] (lenL 1 2 8 ++ []) xN1 16 x1_2m1 = true := by kernel_rfl
def x1_2ms : List (Nat × List Memo) := [(15, [x1_2m0]), (16, [x1_2m1])]
theorem x1_2mo : AllMem (memRun [(0, 3, 1)] (lenL 1 2 8 ++ []) xN1) x1_2ms := ⟨⟨x1_2o0, trivial⟩, ⟨x1_2o1, trivial⟩, trivial⟩
def x1_2T : Tri := [(100, 112, 111), (101, 114, 113), (102, 116, 115), (121, 128, 129), (122, 130, 131), (123, 139, 138), (124, 141, 140), (125, 143, 142), (126, 144, 145), (127, 146, 147)]
def x1_2TE : TrE := [((.vf 126), (.vf 144), (.vf 145)), ((.vf 127), (.vf 146), (.vf 147))]
def x1_2Q : Qua := []
def x1_2QE : QuE := []
theorem x1_2a : trisOK xN1 [] x1_2T = true := by kernel_rfl
theorem x1_2b : tesOK xN1 x1_2T x1_2TE = true := by kernel_rfl
theorem x1_2c : quasOK xN1 [] x1_2Q = true := by kernel_rfl
theorem x1_2d : qesOK xN1 x1_2Q x1_2QE = true := by kernel_rfl
theorem x1_2 : lawRunF 4 10 200 [.i, .q, .q, .q] [(0, 3, 1)] (lenL 1 2 8 ++ []) xN1 x1_2TE x1_2QE x1_2ms = true := by kernel_rfl
end Go.Proofs.Ytilhcamdjehpnaa
