/-
  'TapeWider': runs of it, part 3.
-/
import Derived.Test.YtilhcamdjehpnaaTapeWidert1
namespace Go.Proofs.Ytilhcamdjehpnaa
open Go.RowKit Ex
set_option maxRecDepth 1000000
set_option maxHeartbeats 100000000
def um3_0 : E := (.ib .quo .i64 (.vi 0) (.li 3))
def um3_1 : E := (.ai 9 0 (.ci (.ib .add .i64 um3_0 (.li 0)) (.ci (.li 3) .n0)))
def um3_2 : E := (.ai 9 0 (.ci (.ib .add .i64 um3_0 (.li 1)) (.ci (.li 3) .n0)))
def um3_3 : E := (.fb .quo (.i2f (.ib .sub .i64 (.ai 9 0 (.ci (.ti (.ic .lss (.li 0) (.vl 3)) (.at 3 0) (.li 0)) (.ci (.li 65) .n0))) (.li 32))) (.lf 4620693217682128896))
def um3_4 : E := (.ti (.ic .lss (.li 0) (.vl 4)) (.at 4 0) (.li 0))
def um3_5 : E := (.ai 9 0 (.ci um3_4 (.ci (.li 3) .n0)))
def um3_6 : E := (.fb .quo (.i2f (.ib .sub .i64 (.ai 9 0 (.ci (.ti (.ic .lss (.li 1) (.vl 3)) (.at 3 1) (.li 1)) (.ci (.li 65) .n0))) (.li 32))) (.lf 4620693217682128896))
def um3_7 : E := (.ti (.ic .lss (.li 1) (.vl 4)) (.at 4 1) (.li 1))
def um3_8 : E := (.ai 9 0 (.ci um3_7 (.ci (.li 3) .n0)))
def um3_9 : E := (.ic .eql (.ai 9 0 (.ci (.at 1 0) (.ci (.li 11) .n0))) (.li 0))
def um3_10 : E := (.ib .add .i64 (.li 2) (.ai 9 0 (.ci (.at 1 0) (.ci (.li 3) .n0))))
def um3_11 : E := (.ic .eql (.ai 9 0 (.ci (.at 1 1) (.ci (.li 11) .n0))) (.li 0))
def um3_12 : E := (.ib .add .i64 (.li 2) (.ai 9 0 (.ci (.at 1 1) (.ci (.li 3) .n0))))
def uk3_0 : Blk := [(.i .i64 1), (.i .i64 0), (.i .i64 0), (.f 0)]
def uk3_1 : Blk := [(.i .i64 1), (.i .i64 1), (.i .i64 0), (.f 0)]
def uk3_2 : Blk := [(.i .i64 0), (.i .i64 0), (.i .i64 0), (.ef (.fb .quo (.i2f (.ib .sub .i64 (.ai 9 0 (.ci (.vi 0) (.ci (.li 17) .n0))) (.li 8))) (.lf 4616189618054758400)))]
def uk3_3 : Blk := [(.ei .i64 (.ti um3_9 (.li 0) (.ti (.vb 2) (.ti (.ic .eql (.ai 9 0 (.ci (.at 1 0) (.ci (.li 7) .n0))) (.li 0)) (.li 5) um3_10) um3_10))), (.ei .i64 (.ti um3_9 (.li 0) (.ai 9 0 (.ci (.ib .quo .i64 (.at 1 0) (.li 4)) (.ci (.li 3) .n0))))), (.ei .i64 (.ti um3_9 (.li 0) (.ai 9 0 (.ci (.ib .quo .i64 (.at 1 0) (.li 40)) (.ci (.li 3) .n0))))), (.ef (.tf um3_9 (.fb .quo (.i2f (.ib .sub .i64 (.ai 9 0 (.ci (.ib .quo .i64 (.at 1 0) (.li 11)) (.ci (.li 33) .n0))) (.li 16))) (.lf 4620693217682128896)) (.lf 0)))]
def ub3_0 : Blk := [(.ei .i64 (.ib .sub .i64 (.li 2) um3_1)), (.ei .i64 (.ib .sub .i64 (.li 2) um3_2))]
def ub3_1 : Blk := uk3_0 ++ uk3_1 ++ uk3_2
def ub3_2 : Blk := [(.ef um3_3), (.ef (.fb .add um3_3 (.i2f um3_5))), (.ef um3_6), (.ef (.fb .add um3_6 (.i2f um3_8)))]
def ub3_3 : Blk := [(.ef (.fb .sub um3_3 (.i2f (.ai 9 0 (.ci (.ib .quo .i64 um3_4 (.li 3)) (.ci (.li 3) .n0)))))), (.ef (.fb .add um3_3 (.i2f (.ib .add .i64 um3_5 (.ai 9 0 (.ci (.ib .quo .i64 um3_4 (.li 9)) (.ci (.li 3) .n0))))))), (.ef (.fb .sub um3_6 (.i2f (.ai 9 0 (.ci (.ib .quo .i64 um3_7 (.li 3)) (.ci (.li 3) .n0)))))), (.ef (.fb .add um3_6 (.i2f (.ib .add .i64 um3_8 (.ai 9 0 (.ci (.ib .quo .i64 um3_7 (.li 9)) (.ci (.li 3) .n0)))))))]
def ub3_4 : Blk := [(.ei .i64 (.ib .sub .i64 (.li 3) um3_1)), (.ei .i64 (.ib .sub .i64 (.li 3) um3_2))]
def ub3_5 : Blk := uk3_0 ++ uk3_1 ++ uk3_2 ++ uk3_3
def ub3_6 : Blk := [(.ei .i64 (.ib .sub .i64 (.li 4) um3_1)), (.ei .i64 (.ib .sub .i64 (.li 4) um3_2))]
def ub3_7 : Blk := uk3_0 ++ uk3_1 ++ uk3_2 ++ uk3_3 ++ [(.ei .i64 (.ti um3_11 (.li 0) (.ti (.vb 2) (.ti (.ic .eql (.ai 9 0 (.ci (.at 1 1) (.ci (.li 7) .n0))) (.li 0)) (.li 5) um3_12) um3_12))), (.ei .i64 (.ti um3_11 (.li 0) (.ai 9 0 (.ci (.ib .quo .i64 (.at 1 1) (.li 4)) (.ci (.li 4) .n0))))), (.ei .i64 (.ti um3_11 (.li 0) (.ai 9 0 (.ci (.ib .quo .i64 (.at 1 1) (.li 40)) (.ci (.li 4) .n0))))), (.ef (.tf um3_11 (.fb .quo (.i2f (.ib .sub .i64 (.ai 9 0 (.ci (.ib .quo .i64 (.at 1 1) (.li 11)) (.ci (.li 33) .n0))) (.li 16))) (.lf 4620693217682128896)) (.lf 0)))]
def u1_0m0 : Memo :=  (⟨[(.ag [(.i .i64 2), (.sl 11 0 3 (.u 4)), (.sl 10 0 2 (.u 1))]), (.c (.sl 32 0 2 (.u 2)))], [(10, ub3_0), (11, ub3_1), (32, ub3_2)], 35, (.c (.sl 37 0 2 (.n 2))), [(10, ub3_0), (11, ub3_1), (32, ub3_2), (37, [(.ef (.vf 100)), (.ef (.vf 101)), (.ef (.vf 102)), (.ef (.vf 103))])], 60⟩) 
theorem u1_0o0 : mok [(0, 3, 1)] (lenL 1 0 8 ++ []) uN1 16 u1_0m0 = true := by kernel_rfl
def u1_0m1 : Memo :=  (⟨[(.ag [(.i .i64 2), (.sl 11 0 3 (.u 4)), (.sl 10 0 2 (.u 1))]), (.c (.sl 34 0 2 (.u 2)))], [(10, ub3_0), (11, ub3_1), (34, ub3_3)], 60, (.c (.sl 62 0 2 (.n 2))), [(10, ub3_0), (11, ub3_1), (34, ub3_3), (62, [(.ef (.vf 104)), (.ef (.vf 105)), (.ef (.vf 106)), (.ef (.vf 107))])], 85⟩) 
theorem u1_0o1 : mok [(0, 3, 1)] (lenL 1 0 8 ++ []) uN1 16 u1_0m1 = true := by kernel_rfl
def u1_0ms : List (Nat × List Memo) := [(16, [u1_0m0, u1_0m1])]
theorem u1_0mo : AllMem (memRun [(0, 3, 1)] (lenL 1 0 8 ++ []) uN1) u1_0ms := ⟨⟨u1_0o0, u1_0o1, trivial⟩, trivial⟩
def u1_0T : Tri := []
def u1_0TE : TrE := []
def u1_0Q : Qua := [((100, 101), (104, 105)), ((102, 103), (106, 107))]
def u1_0QE : QuE := [(((.vf 100), (.vf 101)), ((.vf 104), (.vf 105))), (((.vf 102), (.vf 103)), ((.vf 106), (.vf 107)))]
theorem u1_0a : trisOK uN1 [] u1_0T = true := rfl
theorem u1_0b : tesOK uN1 u1_0T u1_0TE = true := by kernel_rfl
theorem u1_0c : quasOK uN1 [] u1_0Q = true := by kernel_rfl
theorem u1_0d : qesOK uN1 u1_0Q u1_0QE = true := by kernel_rfl
theorem u1_0 : lawRunF 5 10 200 [.i, .q, .b, .q, .q] [(0, 3, 1)] (lenL 1 0 8 ++ []) uN1 u1_0TE u1_0QE u1_0ms = true := by kernel_rfl
def u1_1m0 : Memo :=  (⟨[(.ag [(.i .i64 2), (.sl 11 0 4 (.u 4)), (.sl 10 0 2 (.u 1))]), (.c (.sl 35 0 2 (.u 2)))], [(10, ub3_4), (11, ub3_5), (35, ub3_2)], 38, (.c (.sl 40 0 2 (.n 2))), [(10, ub3_4), (11, ub3_5), (35, ub3_2), (40, [(.ef (.vf 128)), (.ef (.vf 129)), (.ef (.vf 130)), (.ef (.vf 131))])], 69⟩) 
theorem u1_1o0 : mok [(0, 3, 1)] (lenL 1 1 8 ++ []) uN1 16 u1_1m0 = true := by kernel_rfl
def u1_1m1 : Memo :=  (⟨[(.ag [(.i .i64 2), (.sl 11 0 4 (.u 4)), (.sl 10 0 2 (.u 1))]), (.c (.sl 37 0 2 (.u 2)))], [(10, ub3_4), (11, ub3_5), (37, ub3_3)], 69, (.c (.sl 71 0 2 (.n 2))), [(10, ub3_4), (11, ub3_5), (37, ub3_3), (71, [(.ef (.vf 152)), (.ef (.vf 153)), (.ef (.vf 154)), (.ef (.vf 155))])], 100⟩) 
theorem u1_1o1 : mok [(0, 3, 1)] (lenL 1 1 8 ++ []) uN1 16 u1_1m1 = true := by kernel_rfl
def u1_1ms : List (Nat × List Memo) := [(16, [u1_1m0, u1_1m1])]
theorem u1_1mo : AllMem (memRun [(0, 3, 1)] (lenL 1 1 8 ++ []) uN1) u1_1ms := ⟨⟨u1_1o0, u1_1o1, trivial⟩, trivial⟩
def u1_1T : Tri := []
def u1_1TE : TrE := []
def u1_1Q : Qua := [((108, 109), (132, 133)), ((110, 111), (134, 135)), ((122, 123), (146, 147)), ((112, 113), (136, 137)), ((114, 115), (138, 139)), ((116, 117), (140, 141)), ((119, 118), (143, 142)), ((121, 120), (145, 144)), ((125, 124), (149, 148)), ((127, 126), (151, 150)), ((128, 129), (152, 153)), ((130, 131), (154, 155))]
def u1_1QE : QuE := [(((.vf 128), (.vf 129)), ((.vf 152), (.vf 153))), (((.vf 130), (.vf 131)), ((.vf 154), (.vf 155)))]
theorem u1_1a : trisOK uN1 [] u1_1T = true := rfl
theorem u1_1b : tesOK uN1 u1_1T u1_1TE = true := by kernel_rfl
theorem u1_1c : quasOK uN1 [] u1_1Q = true := by kernel_rfl
theorem u1_1d : qesOK uN1 u1_1Q u1_1QE = true := by kernel_rfl
theorem u1_1 : lawRunF 5 10 200 [.i, .q, .b, .q, .q] [(0, 3, 1)] (lenL 1 1 8 ++ []) uN1 u1_1TE u1_1QE u1_1ms = true := by kernel_rfl
def u1_2m0 : Memo :=  (⟨[(.ag [(.i .i64 2), (.sl 11 0 5 (.u 4)), (.sl 10 0 2 (.u 1))]), (.c (.sl 38 0 2 (.u 2)))], [(10, ub3_6), (11, ub3_7), (38, ub3_2)], 41, (.c (.sl 43 0 2 (.n 2))), [(10, ub3_6), (11, ub3_7), (38, ub3_2), (43, [(.ef (.vf 176)), (.ef (.vf 177)), (.ef (.vf 178)), (.ef (.vf 179))])], 78⟩) 
theorem u1_2o0 : mok [(0, 3, 1)] (lenL 1 2 8 ++ []) uN1 16 u1_2m0 = true := by kernel_rfl
def u1_2m1 : Memo :=  (⟨[(.ag [(.i .i64 2), (.sl 11 0 5 (.u 4)), (.sl 10 0 2 (.u 1))]), (.c (.sl 40 0 2 (.u 2)))], [(10, ub3_6), (11, ub3_7), (40, ub3_3)], 78, (.c (.sl 80 0 2 (.n 2))), [(10, ub3_6), (11, ub3_7), (40, ub3_3), (80, [(.ef (.vf 200)), (.ef (.vf 201)), (.ef (.vf 202)), (.ef (.vf 203))])], 115⟩) 
theorem u1_2o1 : mok [(0, 3, 1)] (lenL 1 2 8 ++ []) uN1 16 u1_2m1 = true := by kernel_rfl
def u1_2ms : List (Nat × List Memo) := [(16, [u1_2m0, u1_2m1])]
theorem u1_2mo : AllMem (memRun [(0, 3, 1)] (lenL 1 2 8 ++ []) uN1) u1_2ms := ⟨⟨u1_2o0, u1_2o1, trivial⟩, trivial⟩
def u1_2T : Tri := []
def u1_2TE : TrE := []
def u1_2Q : Qua := [((108, 109), (132, 133)), ((110, 111), (134, 135)), ((122, 123), (146, 147)), ((112, 113), (136, 137)), ((114, 115), (138, 139)), ((116, 117), (140, 141)), ((119, 118), (143, 142)), ((121, 120), (145, 144)), ((125, 124), (149, 148)), ((127, 126), (151, 150)), ((156, 157), (180, 181)), ((158, 159), (182, 183)), ((170, 171), (194, 195)), ((160, 161), (184, 185)), ((162, 163), (186, 187)), ((164, 165), (188, 189)), ((167, 166), (191, 190)), ((169, 168), (193, 192)), ((173, 172), (197, 196)), ((175, 174), (199, 198)), ((176, 177), (200, 201)), ((178, 179), (202, 203))]
def u1_2QE : QuE := [(((.vf 176), (.vf 177)), ((.vf 200), (.vf 201))), (((.vf 178), (.vf 179)), ((.vf 202), (.vf 203)))]
theorem u1_2a : trisOK uN1 [] u1_2T = true := rfl
theorem u1_2b : tesOK uN1 u1_2T u1_2TE = true := by kernel_rfl
theorem u1_2c : quasOK uN1 [] u1_2Q = true := by kernel_rfl
theorem u1_2d : qesOK uN1 u1_2Q u1_2QE = true := by kernel_rfl
theorem u1_2 : lawRunF 5 10 200 [.i, .q, .b, .q, .q] [(0, 3, 1)] (lenL 1 2 8 ++ []) uN1 u1_2TE u1_2QE u1_2ms = true := by kernel_rfl
end Go.Proofs.Ytilhcamdjehpnaa
