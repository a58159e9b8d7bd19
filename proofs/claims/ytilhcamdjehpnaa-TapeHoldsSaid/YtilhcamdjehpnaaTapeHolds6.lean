/-
  'TapeHolds': runs of it, part 6.
-/
import Derived.Test.YtilhcamdjehpnaaTapeHoldst2
namespace Go.Proofs.Ytilhcamdjehpnaa
open Go.RowKit Ex
set_option maxRecDepth 1000000
set_option maxHeartbeats 100000000
def xm6_0 : E := (.ib .quo .i64 (.vi 0) (.li 3))
def xm6_1 : E := (.ai 9 0 (.ci (.ib .add .i64 xm6_0 (.li 0)) (.ci (.li 3) .n0)))
def xm6_2 : E := (.ib .sub .i64 (.li 3) xm6_1)
def xm6_3 : E := (.ai 9 0 (.ci (.ib .add .i64 xm6_0 (.li 1)) (.ci (.li 3) .n0)))
def xm6_4 : E := (.ib .sub .i64 (.li 3) xm6_3)
def xm6_5 : E := (.ai 9 0 (.ci (.ib .add .i64 xm6_0 (.li 2)) (.ci (.li 3) .n0)))
def xm6_6 : E := (.ib .sub .i64 (.li 3) xm6_5)
def xm6_7 : E := (.ib .sub .i64 (.ai 9 0 (.ci (.vi 0) (.ci (.li 17) .n0))) (.li 8))
def xm6_8 : E := (.fb .quo (.i2f (.ib .sub .i64 xm6_7 (.ai 9 0 (.ci xm6_7 (.ci (.li 4) .n0))))) (.lf 4616189618054758400))
def xm6_9 : E := (.i2f (.ib .sub .i64 (.ai 9 0 (.ci (.ti (.ic .lss (.li 0) (.vl 2)) (.at 2 0) (.li 0)) (.ci (.li 7) .n0))) (.li 3)))
def xm6_10 : E := (.i2f (.ib .sub .i64 (.ai 9 0 (.ci (.ti (.ic .lss (.li 1) (.vl 2)) (.at 2 1) (.li 1)) (.ci (.li 7) .n0))) (.li 3)))
def xm6_11 : E := (.i2f (.ib .sub .i64 (.ai 9 0 (.ci (.ti (.ic .lss (.li 2) (.vl 2)) (.at 2 2) (.li 2)) (.ci (.li 7) .n0))) (.li 3)))
def xm6_12 : E := (.ib .sub .i64 xm6_2 (.li 1))
def xm6_13 : E := (.ic .eql xm6_12 (.li 0))
def xm6_14 : E := (.ic .eql xm6_12 (.li 1))
def xm6_15 : E := (.ib .sub .i64 xm6_4 (.li 1))
def xm6_16 : E := (.ic .eql xm6_15 (.li 0))
def xm6_17 : E := (.ic .eql xm6_15 (.li 1))
def xm6_18 : E := (.ib .sub .i64 xm6_6 (.li 1))
def xm6_19 : E := (.ic .eql xm6_18 (.li 0))
def xm6_20 : E := (.ic .eql xm6_18 (.li 1))
def xm6_21 : E := (.ti (.ic .lss (.li 0) (.vl 3)) (.at 3 0) (.li 0))
def xm6_22 : E := (.ti (.ic .lss (.li 1) (.vl 3)) (.at 3 1) (.li 0))
def xm6_23 : E := (.fb .sub xm6_10 (.i2f (.ai 9 0 (.ci xm6_22 (.ci (.li 4) .n0)))))
def xm6_24 : E := (.fb .add xm6_10 (.i2f (.ai 9 0 (.ci (.ib .quo .i64 xm6_22 (.li 4)) (.ci (.li 4) .n0)))))
def xm6_25 : E := (.ti (.ic .lss (.li 2) (.vl 3)) (.at 3 2) (.li 0))
def xm6_26 : E := (.fb .sub xm6_11 (.i2f (.ai 9 0 (.ci xm6_25 (.ci (.li 4) .n0)))))
def xm6_27 : E := (.fb .add xm6_11 (.i2f (.ai 9 0 (.ci (.ib .quo .i64 xm6_25 (.li 4)) (.ci (.li 4) .n0)))))
def xm6_28 : E := (.ic .eql (.ai 9 0 (.ci (.at 1 0) (.ci (.li 11) .n0))) (.li 0))
def xm6_29 : E := (.ib .sub .i64 (.ai 9 0 (.ci (.ib .quo .i64 (.at 1 0) (.li 11)) (.ci (.li 33) .n0))) (.li 16))
def xm6_30 : E := (.ic .eql (.ai 9 0 (.ci (.at 1 1) (.ci (.li 11) .n0))) (.li 0))
def xm6_31 : E := (.ib .sub .i64 (.ai 9 0 (.ci (.ib .quo .i64 (.at 1 1) (.li 11)) (.ci (.li 33) .n0))) (.li 16))
def xk6_0 : Blk := [(.i .i64 1), (.i .i64 0), (.i .i64 0), (.f 0)]
def xk6_1 : Blk := [(.i .i64 1), (.i .i64 1), (.i .i64 0), (.f 0)]
def xk6_2 : Blk := [(.i .i64 1), (.i .i64 2), (.i .i64 0), (.f 0)]
def xk6_3 : Blk := [(.i .i64 0), (.i .i64 0), (.i .i64 0), (.ef xm6_8)]
def xk6_4 : Blk := [(.ei .i64 (.ti xm6_28 (.li 0) (.ib .add .i64 (.li 2) (.ai 9 0 (.ci (.at 1 0) (.ci (.li 3) .n0)))))), (.ei .i64 (.ti xm6_28 (.li 0) (.ai 9 0 (.ci (.ib .quo .i64 (.at 1 0) (.li 4)) (.ci (.li 4) .n0))))), (.ei .i64 (.ti xm6_28 (.li 0) (.ai 9 0 (.ci (.ib .quo .i64 (.at 1 0) (.li 40)) (.ci (.li 4) .n0))))), (.ef (.tf xm6_28 (.tf xm6_28 (.fb .quo (.i2f (.ib .sub .i64 xm6_29 (.ai 9 0 (.ci xm6_29 (.ci (.li 8) .n0))))) (.lf 4620693217682128896)) (.lf 0)) (.tf xm6_28 (.fb .quo (.i2f xm6_29) (.lf 4620693217682128896)) (.lf 0))))]
def xb6_0 : Blk := [(.ei .i64 xm6_2), (.ei .i64 xm6_4), (.ei .i64 xm6_6)]
def xb6_1 : Blk := xk6_0 ++ xk6_1 ++ xk6_2 ++ xk6_3
def xb6_2 : Blk := [(.ef xm6_9), (.ef xm6_10), (.ef xm6_11)]
def xb6_3 : Blk := [(.ef (.fb .sub xm6_9 (.i2f (.ai 9 0 (.ci xm6_21 (.ci (.li 4) .n0)))))), (.ef (.fb .add xm6_9 (.i2f (.ai 9 0 (.ci (.ib .quo .i64 xm6_21 (.li 4)) (.ci (.li 4) .n0)))))), (.ef xm6_23), (.ef xm6_24), (.ef xm6_26), (.ef xm6_27)]
def xb6_4 : Blk := [(.ei .i64 (.ib .sub .i64 (.li 4) xm6_1)), (.ei .i64 (.ib .sub .i64 (.li 4) xm6_3)), (.ei .i64 (.ib .sub .i64 (.li 4) xm6_5))]
def xb6_5 : Blk := xk6_0 ++ xk6_1 ++ xk6_2 ++ xk6_3 ++ xk6_4
def xb6_6 : Blk := [(.ei .i64 (.ib .sub .i64 (.li 5) xm6_1)), (.ei .i64 (.ib .sub .i64 (.li 5) xm6_3)), (.ei .i64 (.ib .sub .i64 (.li 5) xm6_5))]
def xb6_7 : Blk := xk6_0 ++ xk6_1 ++ xk6_2 ++ xk6_3 ++ xk6_4 ++ [(.ei .i64 (.ti xm6_30 (.li 0) (.ib .add .i64 (.li 2) (.ai 9 0 (.ci (.at 1 1) (.ci (.li 3) .n0)))))), (.ei .i64 (.ti xm6_30 (.li 0) (.ai 9 0 (.ci (.ib .quo .i64 (.at 1 1) (.li 4)) (.ci (.li 5) .n0))))), (.ei .i64 (.ti xm6_30 (.li 0) (.ai 9 0 (.ci (.ib .quo .i64 (.at 1 1) (.li 40)) (.ci (.li 5) .n0))))), (.ef (.tf xm6_30 (.tf xm6_30 (.fb .quo (.i2f (.ib .sub .i64 xm6_31 (.ai 9 0 (.ci xm6_31 (.ci (.li 8) .n0))))) (.lf 4620693217682128896)) (.lf 0)) (.tf xm6_30 (.fb .quo (.i2f xm6_31) (.lf 4620693217682128896)) (.lf 0))))]
def x2_0m0 : Memo :=  (⟨[(.ag [(.i .i64 3), (.sl 11 0 4 (.u 4)), (.sl 10 0 3 (.u 1))]), (.c (.sl 36 0 3 (.u 1)))], [(10, xb6_0), (11, xb6_1), (36, xb6_2)], 39, (.c (.sl 41 0 3 (.n 3))), [(10, xb6_0), (11, xb6_1), (36, xb6_2), (41, [(.ef (.tf xm6_13 xm6_10 (.tf xm6_14 xm6_11 xm6_8))), (.ef (.tf xm6_16 xm6_10 (.tf xm6_17 xm6_11 xm6_8))), (.ef (.tf xm6_19 xm6_10 (.tf xm6_20 xm6_11 xm6_8)))])], 64⟩) 
theorem x2_0o0 : mok [(0, 3, 2)] (lenL 1 0 8 ++ []) xN2 15 x2_0m0 = true := by kernel_rfl
def x2_0m1 : Memo :=  (⟨[(.ag [(.i .i64 3), (.sl 11 0 4 (.u 4)), (.sl 10 0 3 (.u 1))]), (.c (.sl 38 0 3 (.u 2)))], [(10, xb6_0), (11, xb6_1), (38, xb6_3)], 64, (.c (.sl 66 0 3 (.n 3))), [(10, xb6_0), (11, xb6_1), (38, xb6_3), (66, [(.ef (.tf xm6_13 xm6_23 (.tf xm6_14 xm6_26 xm6_8))), (.ef (.tf xm6_13 xm6_24 (.tf xm6_14 xm6_27 xm6_8))), (.ef (.tf xm6_16 xm6_23 (.tf xm6_17 xm6_26 xm6_8))), (.ef (.tf xm6_16 xm6_24 (.tf xm6_17 xm6_27 xm6_8))), (.ef (.tf xm6_19 xm6_23 (.tf xm6_20 xm6_26 xm6_8))), (.ef (.tf xm6_19 xm6_24 (.tf xm6_20 xm6_27 xm6_8)))])], 94⟩) 
theorem x2_0o1 : mok [(0, 3, 2)] (lenL 1 0 8 ++ []) xN2 16 x2_0m1 = true := by kernel_rfl
def x2_0ms : List (Nat × List Memo) := [(15, [x2_0m0]), (16, [x2_0m1])]
theorem x2_0mo : AllMem (memRun [(0, 3, 2)] (lenL 1 0 8 ++ []) xN2) x2_0ms := ⟨⟨x2_0o0, trivial⟩, ⟨x2_0o1, trivial⟩, trivial⟩
def x2_0e0 : E := (.ib .quo .i64 (.vi 0) (.li 3))
def x2_0e1 : E := (.ib .sub .i64 (.ib .sub .i64 (.li 3) (.ai 9 0 (.ci (.ib .add .i64 x2_0e0 (.li 0)) (.ci (.li 3) .n0)))) (.li 1))
def x2_0e2 : E := (.ic .eql x2_0e1 (.li 0))
def x2_0e3 : E := (.i2f (.ib .sub .i64 (.ai 9 0 (.ci (.ti (.ic .lss (.li 1) (.vl 2)) (.at 2 1) (.li 1)) (.ci (.li 7) .n0))) (.li 3)))
def x2_0e4 : E := (.ic .eql x2_0e1 (.li 1))
def x2_0e5 : E := (.i2f (.ib .sub .i64 (.ai 9 0 (.ci (.ti (.ic .lss (.li 2) (.vl 2)) (.at 2 2) (.li 2)) (.ci (.li 7) .n0))) (.li 3)))
def x2_0e6 : E := (.ib .sub .i64 (.ai 9 0 (.ci (.vi 0) (.ci (.li 17) .n0))) (.li 8))
def x2_0e7 : E := (.fb .quo (.i2f (.ib .sub .i64 x2_0e6 (.ai 9 0 (.ci x2_0e6 (.ci (.li 4) .n0))))) (.lf 4616189618054758400))
def x2_0e8 : E := (.ti (.ic .lss (.li 1) (.vl 3)) (.at 3 1) (.li 0))
def x2_0e9 : E := (.fb .sub x2_0e3 (.i2f (.ai 9 0 (.ci x2_0e8 (.ci (.li 4) .n0)))))
def x2_0e10 : E := (.ti (.ic .lss (.li 2) (.vl 3)) (.at 3 2) (.li 0))
def x2_0e11 : E := (.fb .sub x2_0e5 (.i2f (.ai 9 0 (.ci x2_0e10 (.ci (.li 4) .n0)))))
def x2_0e12 : E := (.fb .add x2_0e3 (.i2f (.ai 9 0 (.ci (.ib .quo .i64 x2_0e8 (.li 4)) (.ci (.li 4) .n0)))))
def x2_0e13 : E := (.fb .add x2_0e5 (.i2f (.ai 9 0 (.ci (.ib .quo .i64 x2_0e10 (.li 4)) (.ci (.li 4) .n0)))))
def x2_0e14 : E := (.ib .sub .i64 (.ib .sub .i64 (.li 3) (.ai 9 0 (.ci (.ib .add .i64 x2_0e0 (.li 1)) (.ci (.li 3) .n0)))) (.li 1))
def x2_0e15 : E := (.ic .eql x2_0e14 (.li 0))
def x2_0e16 : E := (.ic .eql x2_0e14 (.li 1))
def x2_0e17 : E := (.ib .sub .i64 (.ib .sub .i64 (.li 3) (.ai 9 0 (.ci (.ib .add .i64 x2_0e0 (.li 2)) (.ci (.li 3) .n0)))) (.li 1))
def x2_0e18 : E := (.ic .eql x2_0e17 (.li 0))
def x2_0e19 : E := (.ic .eql x2_0e17 (.li 1))
def x2_0T : Tri := []
def x2_0TE : TrE := [((.tf x2_0e2 x2_0e3 (.tf x2_0e4 x2_0e5 x2_0e7)), (.tf x2_0e2 x2_0e9 (.tf x2_0e4 x2_0e11 x2_0e7)), (.tf x2_0e2 x2_0e12 (.tf x2_0e4 x2_0e13 x2_0e7))), ((.tf x2_0e15 x2_0e3 (.tf x2_0e16 x2_0e5 x2_0e7)), (.tf x2_0e15 x2_0e9 (.tf x2_0e16 x2_0e11 x2_0e7)), (.tf x2_0e15 x2_0e12 (.tf x2_0e16 x2_0e13 x2_0e7))), ((.tf x2_0e18 x2_0e3 (.tf x2_0e19 x2_0e5 x2_0e7)), (.tf x2_0e18 x2_0e9 (.tf x2_0e19 x2_0e11 x2_0e7)), (.tf x2_0e18 x2_0e12 (.tf x2_0e19 x2_0e13 x2_0e7)))]
def x2_0Q : Qua := []
def x2_0QE : QuE := []
theorem x2_0a : trisOK xN2 [] x2_0T = true := rfl
theorem x2_0b : tesOK xN2 x2_0T x2_0TE = true := by kernel_rfl
theorem x2_0c : quasOK xN2 [] x2_0Q = true := by kernel_rfl
theorem x2_0d : qesOK xN2 x2_0Q x2_0QE = true := by kernel_rfl
theorem x2_0 : lawRunF 4 10 200 [.i, .q, .q, .q] [(0, 3, 2)] (lenL 1 0 8 ++ []) xN2 x2_0TE x2_0QE x2_0ms = true := by kernel_rfl
def x2_1m0 : Memo :=  (⟨[(.ag [(.i .i64 3), (.sl 11 0 5 (.u 4)), (.sl 10 0 3 (.u 1))]), (.c (.sl 39 0 3 (.u 1)))], [(10, xb6_4), (11, xb6_5), (39, xb6_2)], 42, (.c (.sl 44 0 3 (.n 3))), [(10, xb6_4), (11, xb6_5), (39, xb6_2), (44, [(.ef (.vf 106)), (.ef (.vf 107)), (.ef (.vf 108))])], 71⟩) 
theorem x2_1o0 : mok [(0, 3, 2)] (lenL 1 1 8 ++ []) xN2 15 x2_1m0 = true := by kernel_rfl
def x2_1m1 : Memo :=  (⟨[(.ag [(.i .i64 3), (.sl 11 0 5 (.u 4)), (.sl 10 0 3 (.u 1))]), (.c (.sl 41 0 3 (.u 2)))], [(10, xb6_4), (11, xb6_5), (41, xb6_3)], 71, (.c (.sl 73 0 3 (.n 3))), [(10, xb6_4), (11, xb6_5), (41, xb6_3), (73, [(.ef (.vf 121)), (.ef (.vf 122)), (.ef (.vf 123)), (.ef (.vf 124)), (.ef (.vf 125)), (.ef (.vf 126))])], 107⟩) 
theorem x2_1o1 : mok [(0, 3, 2)] (lenL 1 1 8 ++ []) xN2 16 x2_1m1 = true := by kernel_rfl
def x2_1ms : List (Nat × List Memo) := [(15, [x2_1m0]), (16, [x2_1m1])]
theorem x2_1mo : AllMem (memRun [(0, 3, 2)] (lenL 1 1 8 ++ []) xN2) x2_1ms := ⟨⟨x2_1o0, trivial⟩, ⟨x2_1o1, trivial⟩, trivial⟩
def x2_1T : Tri := [(100, 109, 110), (101, 111, 112), (102, 113, 114), (103, 116, 115), (104, 118, 117), (105, 120, 119), (106, 121, 122), (107, 123, 124), (108, 125, 126)]
def x2_1TE : TrE := [((.vf 106), (.vf 121), (.vf 122)), ((.vf 107), (.vf 123), (.vf 124)), ((.vf 108), (.vf 125), (.vf 126))]
def x2_1Q : Qua := []
def x2_1QE : QuE := []
theorem x2_1a : trisOK xN2 [] x2_1T = true := by kernel_rfl
theorem x2_1b : tesOK xN2 x2_1T x2_1TE = true := by kernel_rfl
theorem x2_1c : quasOK xN2 [] x2_1Q = true := by kernel_rfl
theorem x2_1d : qesOK xN2 x2_1Q x2_1QE = true := by kernel_rfl
theorem x2_1 : lawRunF 4 10 200 [.i, .q, .q, .q] [(0, 3, 2)] (lenL 1 1 8 ++ []) xN2 x2_1TE x2_1QE x2_1ms = true := by kernel_rfl
def x2_2m0 : Memo :=  (⟨[(.ag [(.i .i64 3), (.sl 11 0 6 (.u 4)), (.sl 10 0 3 (.u 1))]), (.c (.sl 42 0 3 (.u 1)))], [(10, xb6_6), (11, xb6_7), (42, xb6_2)], 45, (.c (.sl 47 0 3 (.n 3))), [(10, xb6_6), (11, xb6_7), (42, xb6_2), (47, [(.ef (.vf 132)), (.ef (.vf 133)), (.ef (.vf 134))])], 78⟩) 
theorem x2_2o0 : mok [(0, 3, 2)] (lenL 1 2 8 ++ []) xN2 15 x2_2m0 = true := by kernel_rfl
def x2_2m1 : Memo :=  (⟨[(.ag [(.i .i64 3), (.sl 11 0 6 (.u 4)), (.sl 10 0 3 (.u 1))]), (.c (.sl 44 0 3 (.u 2)))], [(10, xb6_6), (11, xb6_7), (44, xb6_3)], 78, (.c (.sl 80 0 3 (.n 3))), [(10, xb6_6), (11, xb6_7), (44, xb6_3), (80, [(.ef (.vf 151)), (.ef (.vf 152)), (.ef (.vf 153)), (.ef (.vf 154)), (.ef (.vf 155)), (.ef (.vf 156))])], 120⟩) 
theorem x2_2o1 : mok [(0, 3, 2)] (lenL 1 2 8 ++ []) xN2 16 x2_2m1 = true := by kernel_rfl
def x2_2ms : List (Nat × List Memo) := [(15, [x2_2m0]), (16, [x2_2m1])]
theorem x2_2mo : AllMem (memRun [(0, 3, 2)] (lenL 1 2 8 ++ []) xN2) x2_2ms := ⟨⟨x2_2o0, trivial⟩, ⟨x2_2o1, trivial⟩, trivial⟩
def x2_2T : Tri := [(100, 109, 110), (101, 111, 112), (102, 113, 114), (103, 116, 115), (104, 118, 117), (105, 120, 119), (127, 135, 136), (128, 137, 138), (129, 146, 145), (130, 148, 147), (131, 150, 149), (132, 151, 152), (133, 153, 154), (134, 155, 156)]
def x2_2TE : TrE := [((.vf 132), (.vf 151), (.vf 152)), ((.vf 133), (.vf 153), (.vf 154)), ((.vf 134), (.vf 155), (.vf 156))]
def x2_2Q : Qua := []
def x2_2QE : QuE := []
theorem x2_2a : trisOK xN2 [] x2_2T = true := by kernel_rfl
theorem x2_2b : tesOK xN2 x2_2T x2_2TE = true := by kernel_rfl
theorem x2_2c : quasOK xN2 [] x2_2Q = true := by kernel_rfl
theorem x2_2d : qesOK xN2 x2_2Q x2_2QE = true := by kernel_rfl
theorem x2_2 : lawRunF 4 10 200 [.i, .q, .q, .q] [(0, 3, 2)] (lenL 1 2 8 ++ []) xN2 x2_2TE x2_2QE x2_2ms = true := by kernel_rfl
end Go.Proofs.Ytilhcamdjehpnaa
