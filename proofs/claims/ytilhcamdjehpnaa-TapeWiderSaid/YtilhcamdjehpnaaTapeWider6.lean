/-
  'TapeWider': runs of it, part 6.
-/
import Derived.Test.YtilhcamdjehpnaaTapeWidert2
namespace Go.Proofs.Ytilhcamdjehpnaa
open Go.RowKit Ex
set_option maxRecDepth 1000000
set_option maxHeartbeats 100000000
def um6_0 : E := (.ib .quo .i64 (.vi 0) (.li 3))
def um6_1 : E := (.ai 9 0 (.ci (.ib .add .i64 um6_0 (.li 0)) (.ci (.li 3) .n0)))
def um6_2 : E := (.ai 9 0 (.ci (.ib .add .i64 um6_0 (.li 1)) (.ci (.li 3) .n0)))
def um6_3 : E := (.ai 9 0 (.ci (.ib .add .i64 um6_0 (.li 2)) (.ci (.li 3) .n0)))
def um6_4 : E := (.fb .quo (.i2f (.ib .sub .i64 (.ai 9 0 (.ci (.ti (.ic .lss (.li 0) (.vl 3)) (.at 3 0) (.li 0)) (.ci (.li 65) .n0))) (.li 32))) (.lf 4620693217682128896))
def um6_5 : E := (.ti (.ic .lss (.li 0) (.vl 4)) (.at 4 0) (.li 0))
def um6_6 : E := (.ai 9 0 (.ci um6_5 (.ci (.li 3) .n0)))
def um6_7 : E := (.fb .quo (.i2f (.ib .sub .i64 (.ai 9 0 (.ci (.ti (.ic .lss (.li 1) (.vl 3)) (.at 3 1) (.li 1)) (.ci (.li 65) .n0))) (.li 32))) (.lf 4620693217682128896))
def um6_8 : E := (.ti (.ic .lss (.li 1) (.vl 4)) (.at 4 1) (.li 1))
def um6_9 : E := (.ai 9 0 (.ci um6_8 (.ci (.li 3) .n0)))
def um6_10 : E := (.fb .quo (.i2f (.ib .sub .i64 (.ai 9 0 (.ci (.ti (.ic .lss (.li 2) (.vl 3)) (.at 3 2) (.li 2)) (.ci (.li 65) .n0))) (.li 32))) (.lf 4620693217682128896))
def um6_11 : E := (.ti (.ic .lss (.li 2) (.vl 4)) (.at 4 2) (.li 2))
def um6_12 : E := (.ai 9 0 (.ci um6_11 (.ci (.li 3) .n0)))
def um6_13 : E := (.ic .eql (.ai 9 0 (.ci (.at 1 0) (.ci (.li 11) .n0))) (.li 0))
def um6_14 : E := (.ib .add .i64 (.li 2) (.ai 9 0 (.ci (.at 1 0) (.ci (.li 3) .n0))))
def um6_15 : E := (.ic .eql (.ai 9 0 (.ci (.at 1 1) (.ci (.li 11) .n0))) (.li 0))
def um6_16 : E := (.ib .add .i64 (.li 2) (.ai 9 0 (.ci (.at 1 1) (.ci (.li 3) .n0))))
def uk6_0 : Blk := [(.i .i64 1), (.i .i64 0), (.i .i64 0), (.f 0)]
def uk6_1 : Blk := [(.i .i64 1), (.i .i64 1), (.i .i64 0), (.f 0)]
def uk6_2 : Blk := [(.i .i64 1), (.i .i64 2), (.i .i64 0), (.f 0)]
def uk6_3 : Blk := [(.i .i64 0), (.i .i64 0), (.i .i64 0), (.ef (.fb .quo (.i2f (.ib .sub .i64 (.ai 9 0 (.ci (.vi 0) (.ci (.li 17) .n0))) (.li 8))) (.lf 4616189618054758400)))]
def uk6_4 : Blk := [(.ei .i64 (.ti um6_13 (.li 0) (.ti (.vb 2) (.ti (.ic .eql (.ai 9 0 (.ci (.at 1 0) (.ci (.li 7) .n0))) (.li 0)) (.li 5) um6_14) um6_14))), (.ei .i64 (.ti um6_13 (.li 0) (.ai 9 0 (.ci (.ib .quo .i64 (.at 1 0) (.li 4)) (.ci (.li 4) .n0))))), (.ei .i64 (.ti um6_13 (.li 0) (.ai 9 0 (.ci (.ib .quo .i64 (.at 1 0) (.li 40)) (.ci (.li 4) .n0))))), (.ef (.tf um6_13 (.fb .quo (.i2f (.ib .sub .i64 (.ai 9 0 (.ci (.ib .quo .i64 (.at 1 0) (.li 11)) (.ci (.li 33) .n0))) (.li 16))) (.lf 4620693217682128896)) (.lf 0)))]
def ub6_0 : Blk := [(.ei .i64 (.ib .sub .i64 (.li 3) um6_1)), (.ei .i64 (.ib .sub .i64 (.li 3) um6_2)), (.ei .i64 (.ib .sub .i64 (.li 3) um6_3))]
def ub6_1 : Blk := uk6_0 ++ uk6_1 ++ uk6_2 ++ uk6_3
def ub6_2 : Blk := [(.ef um6_4), (.ef (.fb .add um6_4 (.i2f um6_6))), (.ef um6_7), (.ef (.fb .add um6_7 (.i2f um6_9))), (.ef um6_10), (.ef (.fb .add um6_10 (.i2f um6_12)))]
def ub6_3 : Blk := [(.ef (.fb .sub um6_4 (.i2f (.ai 9 0 (.ci (.ib .quo .i64 um6_5 (.li 3)) (.ci (.li 3) .n0)))))), (.ef (.fb .add um6_4 (.i2f (.ib .add .i64 um6_6 (.ai 9 0 (.ci (.ib .quo .i64 um6_5 (.li 9)) (.ci (.li 3) .n0))))))), (.ef (.fb .sub um6_7 (.i2f (.ai 9 0 (.ci (.ib .quo .i64 um6_8 (.li 3)) (.ci (.li 3) .n0)))))), (.ef (.fb .add um6_7 (.i2f (.ib .add .i64 um6_9 (.ai 9 0 (.ci (.ib .quo .i64 um6_8 (.li 9)) (.ci (.li 3) .n0))))))), (.ef (.fb .sub um6_10 (.i2f (.ai 9 0 (.ci (.ib .quo .i64 um6_11 (.li 3)) (.ci (.li 3) .n0)))))), (.ef (.fb .add um6_10 (.i2f (.ib .add .i64 um6_12 (.ai 9 0 (.ci (.ib .quo .i64 um6_11 (.li 9)) (.ci (.li 3) .n0)))))))]
def ub6_4 : Blk := [(.ei .i64 (.ib .sub .i64 (.li 4) um6_1)), (.ei .i64 (.ib .sub .i64 (.li 4) um6_2)), (.ei .i64 (.ib .sub .i64 (.li 4) um6_3))]
def ub6_5 : Blk := uk6_0 ++ uk6_1 ++ uk6_2 ++ uk6_3 ++ uk6_4
def ub6_6 : Blk := [(.ei .i64 (.ib .sub .i64 (.li 5) um6_1)), (.ei .i64 (.ib .sub .i64 (.li 5) um6_2)), (.ei .i64 (.ib .sub .i64 (.li 5) um6_3))]
def ub6_7 : Blk := uk6_0 ++ uk6_1 ++ uk6_2 ++ uk6_3 ++ uk6_4 ++ [(.ei .i64 (.ti um6_15 (.li 0) (.ti (.vb 2) (.ti (.ic .eql (.ai 9 0 (.ci (.at 1 1) (.ci (.li 7) .n0))) (.li 0)) (.li 5) um6_16) um6_16))), (.ei .i64 (.ti um6_15 (.li 0) (.ai 9 0 (.ci (.ib .quo .i64 (.at 1 1) (.li 4)) (.ci (.li 5) .n0))))), (.ei .i64 (.ti um6_15 (.li 0) (.ai 9 0 (.ci (.ib .quo .i64 (.at 1 1) (.li 40)) (.ci (.li 5) .n0))))), (.ef (.tf um6_15 (.fb .quo (.i2f (.ib .sub .i64 (.ai 9 0 (.ci (.ib .quo .i64 (.at 1 1) (.li 11)) (.ci (.li 33) .n0))) (.li 16))) (.lf 4620693217682128896)) (.lf 0)))]
def u2_0m0 : Memo :=  (⟨[(.ag [(.i .i64 3), (.sl 11 0 4 (.u 4)), (.sl 10 0 3 (.u 1))]), (.c (.sl 42 0 3 (.u 2)))], [(10, ub6_0), (11, ub6_1), (42, ub6_2)], 45, (.c (.sl 47 0 3 (.n 3))), [(10, ub6_0), (11, ub6_1), (42, ub6_2), (47, [(.ef (.vf 100)), (.ef (.vf 101)), (.ef (.vf 102)), (.ef (.vf 103)), (.ef (.vf 104)), (.ef (.vf 105))])], 75⟩) 
theorem u2_0o0 : mok [(0, 3, 2)] (lenL 1 0 8 ++ []) uN2 16 u2_0m0 = true := by kernel_rfl
def u2_0m1 : Memo :=  (⟨[(.ag [(.i .i64 3), (.sl 11 0 4 (.u 4)), (.sl 10 0 3 (.u 1))]), (.c (.sl 44 0 3 (.u 2)))], [(10, ub6_0), (11, ub6_1), (44, ub6_3)], 75, (.c (.sl 77 0 3 (.n 3))), [(10, ub6_0), (11, ub6_1), (44, ub6_3), (77, [(.ef (.vf 106)), (.ef (.vf 107)), (.ef (.vf 108)), (.ef (.vf 109)), (.ef (.vf 110)), (.ef (.vf 111))])], 105⟩) 
theorem u2_0o1 : mok [(0, 3, 2)] (lenL 1 0 8 ++ []) uN2 16 u2_0m1 = true := by kernel_rfl
def u2_0ms : List (Nat × List Memo) := [(16, [u2_0m0, u2_0m1])]
theorem u2_0mo : AllMem (memRun [(0, 3, 2)] (lenL 1 0 8 ++ []) uN2) u2_0ms := ⟨⟨u2_0o0, u2_0o1, trivial⟩, trivial⟩
def u2_0T : Tri := []
def u2_0TE : TrE := []
def u2_0Q : Qua := [((100, 101), (106, 107)), ((102, 103), (108, 109)), ((104, 105), (110, 111))]
def u2_0QE : QuE := [(((.vf 100), (.vf 101)), ((.vf 106), (.vf 107))), (((.vf 102), (.vf 103)), ((.vf 108), (.vf 109))), (((.vf 104), (.vf 105)), ((.vf 110), (.vf 111)))]
theorem u2_0a : trisOK uN2 [] u2_0T = true := rfl
theorem u2_0b : tesOK uN2 u2_0T u2_0TE = true := by kernel_rfl
theorem u2_0c : quasOK uN2 [] u2_0Q = true := by kernel_rfl
theorem u2_0d : qesOK uN2 u2_0Q u2_0QE = true := by kernel_rfl
theorem u2_0 : lawRunF 5 10 200 [.i, .q, .b, .q, .q] [(0, 3, 2)] (lenL 1 0 8 ++ []) uN2 u2_0TE u2_0QE u2_0ms = true := by kernel_rfl
def u2_1m0 : Memo :=  (⟨[(.ag [(.i .i64 3), (.sl 11 0 5 (.u 4)), (.sl 10 0 3 (.u 1))]), (.c (.sl 45 0 3 (.u 2)))], [(10, ub6_4), (11, ub6_5), (45, ub6_2)], 48, (.c (.sl 50 0 3 (.n 3))), [(10, ub6_4), (11, ub6_5), (45, ub6_2), (50, [(.ef (.vf 132)), (.ef (.vf 133)), (.ef (.vf 134)), (.ef (.vf 135)), (.ef (.vf 136)), (.ef (.vf 137))])], 84⟩) 
theorem u2_1o0 : mok [(0, 3, 2)] (lenL 1 1 8 ++ []) uN2 16 u2_1m0 = true := by kernel_rfl
def u2_1m1 : Memo :=  (⟨[(.ag [(.i .i64 3), (.sl 11 0 5 (.u 4)), (.sl 10 0 3 (.u 1))]), (.c (.sl 47 0 3 (.u 2)))], [(10, ub6_4), (11, ub6_5), (47, ub6_3)], 84, (.c (.sl 86 0 3 (.n 3))), [(10, ub6_4), (11, ub6_5), (47, ub6_3), (86, [(.ef (.vf 158)), (.ef (.vf 159)), (.ef (.vf 160)), (.ef (.vf 161)), (.ef (.vf 162)), (.ef (.vf 163))])], 120⟩) 
theorem u2_1o1 : mok [(0, 3, 2)] (lenL 1 1 8 ++ []) uN2 16 u2_1m1 = true := by kernel_rfl
def u2_1ms : List (Nat × List Memo) := [(16, [u2_1m0, u2_1m1])]
theorem u2_1mo : AllMem (memRun [(0, 3, 2)] (lenL 1 1 8 ++ []) uN2) u2_1ms := ⟨⟨u2_1o0, u2_1o1, trivial⟩, trivial⟩
def u2_1T : Tri := []
def u2_1TE : TrE := []
def u2_1Q : Qua := [((112, 113), (138, 139)), ((114, 115), (140, 141)), ((126, 127), (152, 153)), ((116, 117), (142, 143)), ((118, 119), (144, 145)), ((120, 121), (146, 147)), ((123, 122), (149, 148)), ((125, 124), (151, 150)), ((129, 128), (155, 154)), ((131, 130), (157, 156)), ((132, 133), (158, 159)), ((134, 135), (160, 161)), ((136, 137), (162, 163))]
def u2_1QE : QuE := [(((.vf 132), (.vf 133)), ((.vf 158), (.vf 159))), (((.vf 134), (.vf 135)), ((.vf 160), (.vf 161))), (((.vf 136), (.vf 137)), ((.vf 162), (.vf 163)))]
theorem u2_1a : trisOK uN2 [] u2_1T = true := rfl
theorem u2_1b : tesOK uN2 u2_1T u2_1TE = true := by kernel_rfl
theorem u2_1c : quasOK uN2 [] u2_1Q = true := by kernel_rfl
theorem u2_1d : qesOK uN2 u2_1Q u2_1QE = true := by kernel_rfl
theorem u2_1 : lawRunF 5 10 200 [.i, .q, .b, .q, .q] [(0, 3, 2)] (lenL 1 1 8 ++ []) uN2 u2_1TE u2_1QE u2_1ms = true := by kernel_rfl
def u2_2m0 : Memo :=  (⟨[(.ag [(.i .i64 3), (.sl 11 0 6 (.u 4)), (.sl 10 0 3 (.u 1))]), (.c (.sl 48 0 3 (.u 2)))], [(10, ub6_6), (11, ub6_7), (48, ub6_2)], 51, (.c (.sl 53 0 3 (.n 3))), [(10, ub6_6), (11, ub6_7), (48, ub6_2), (53, [(.ef (.vf 184)), (.ef (.vf 185)), (.ef (.vf 186)), (.ef (.vf 187)), (.ef (.vf 188)), (.ef (.vf 189))])], 93⟩) 
theorem u2_2o0 : mok [(0, 3, 2)] (lenL 1 2 8 ++ []) uN2 16 u2_2m0 = true := by kernel_rfl
def u2_2m1 : Memo :=  (⟨[(.ag [(.i .i64 3), (.sl 11 0 6 (.u 4)), (.sl 10 0 3 (.u 1))]), (.c (.sl 50 0 3 (.u 2)))], [(10, ub6_6), (11, ub6_7), (50, ub6_3)], 93, (.c (.sl 95 0 3 (.n 3))), [(10, ub6_6), (11, ub6_7), (50, ub6_3), (95, [(.ef (.vf 210)), (.ef (.vf 211)), (.ef (.vf 212)), (.ef (.vf 213)), (.ef (.vf 214)), (.ef (.vf 215))])], 135⟩) 
theorem u2_2o1 : mok [(0, 3, 2)] (lenL 1 2 8 ++ []) uN2 16 u2_2m1 = true := by kernel_rfl
def u2_2ms : List (Nat × List Memo) := [(16, [u2_2m0, u2_2m1])]
theorem u2_2mo : AllMem (memRun [(0, 3, 2)] (lenL 1 2 8 ++ []) uN2) u2_2ms := ⟨⟨u2_2o0, u2_2o1, trivial⟩, trivial⟩
def u2_2T : Tri := []
def u2_2TE : TrE := []
def u2_2Q : Qua := [((112, 113), (138, 139)), ((114, 115), (140, 141)), ((126, 127), (152, 153)), ((116, 117), (142, 143)), ((118, 119), (144, 145)), ((120, 121), (146, 147)), ((123, 122), (149, 148)), ((125, 124), (151, 150)), ((129, 128), (155, 154)), ((131, 130), (157, 156)), ((164, 165), (190, 191)), ((166, 167), (192, 193)), ((178, 179), (204, 205)), ((168, 169), (194, 195)), ((170, 171), (196, 197)), ((172, 173), (198, 199)), ((175, 174), (201, 200)), ((177, 176), (203, 202)), ((181, 180), (207, 206)), ((183, 182), (209, 208)), ((184, 185), (210, 211)), ((186, 187), (212, 213)), ((188, 189), (214, 215))]
def u2_2QE : QuE := [(((.vf 184), (.vf 185)), ((.vf 210), (.vf 211))), (((.vf 186), (.vf 187)), ((.vf 212), (.vf 213))), (((.vf 188), (.vf 189)), ((.vf 214), (.vf 215)))]
theorem u2_2a : trisOK uN2 [] u2_2T = true := rfl
theorem u2_2b : tesOK uN2 u2_2T u2_2TE = true := by kernel_rfl
theorem u2_2c : quasOK uN2 [] u2_2Q = true := by kernel_rfl
theorem u2_2d : qesOK uN2 u2_2Q u2_2QE = true := by kernel_rfl
theorem u2_2 : lawRunF 5 10 200 [.i, .q, .b, .q, .q] [(0, 3, 2)] (lenL 1 2 8 ++ []) uN2 u2_2TE u2_2QE u2_2ms = true := by kernel_rfl
end Go.Proofs.Ytilhcamdjehpnaa
