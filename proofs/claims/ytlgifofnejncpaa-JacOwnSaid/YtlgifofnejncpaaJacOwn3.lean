/-
  'JacOwn': runs of it, part 3.
-/
import Derived.Test.YtlgifofnejncpaaJacOwnt1
namespace Go.Proofs.Ytlgifofnejncpaa
open Go.RowKit Ex
set_option maxRecDepth 1000000
set_option maxHeartbeats 100000000
def jom3_0 : E := (.fb .quo (.i2f (.ib .sub .i64 (.ai 9 0 (.ci (.ti (.ic .lss (.li 0) (.vl 2)) (.at 2 0) (.li 0)) (.ci (.li 65) .n0))) (.li 32))) (.lf 4620693217682128896))
def jom3_1 : E := (.fb .quo (.i2f (.ib .sub .i64 (.ai 9 0 (.ci (.ti (.ic .lss (.li 1) (.vl 2)) (.at 2 1) (.li 1)) (.ci (.li 65) .n0))) (.li 32))) (.lf 4620693217682128896))
def jom3_2 : E := (.fb .quo (.i2f (.ib .sub .i64 (.ai 9 0 (.ci (.vi 0) (.ci (.li 17) .n0))) (.li 8))) (.lf 4616189618054758400))
def jom3_3 : E := (.ic .eql (.ai 9 0 (.ci (.at 1 0) (.ci (.li 11) .n0))) (.li 0))
def jom3_4 : E := (.ic .eql (.ai 9 0 (.ci (.at 1 0) (.ci (.li 7) .n0))) (.li 0))
def jom3_5 : E := (.ib .add .i64 (.li 2) (.ai 9 0 (.ci (.at 1 0) (.ci (.li 3) .n0))))
def jom3_6 : E := (.ti jom3_4 (.li 5) jom3_5)
def jom3_7 : E := (.ai 9 0 (.ci (.ib .quo .i64 (.at 1 0) (.li 4)) (.ci (.li 3) .n0)))
def jom3_8 : E := (.ai 9 0 (.ci (.ib .quo .i64 (.at 1 0) (.li 40)) (.ci (.li 3) .n0)))
def jom3_9 : E := (.fb .quo (.i2f (.ib .sub .i64 (.ai 9 0 (.ci (.ib .quo .i64 (.at 1 0) (.li 11)) (.ci (.li 33) .n0))) (.li 16))) (.lf 4620693217682128896))
def jom3_10 : E := (.ic .eql jom3_5 (.li 2))
def jom3_11 : E := (.ic .eql jom3_5 (.li 3))
def jom3_12 : E := (.tf jom3_4 (.vf 107) (.tf jom3_10 (.vf 100) (.tf jom3_11 (.vf 101) (.vf 102))))
def jom3_13 : E := (.tf jom3_3 jom3_9 jom3_12)
def jom3_14 : E := (.ic .eql jom3_7 (.li 0))
def jom3_15 : E := (.tf jom3_14 (.lf 4607182418800017408) (.lf 0))
def jom3_16 : E := (.ic .eql jom3_8 (.li 0))
def jom3_17 : E := (.tf jom3_16 (.lf 4607182418800017408) (.lf 0))
def jom3_18 : E := (.tf jom3_4 (.vf 110) (.tf jom3_10 (.fb .add jom3_15 jom3_17) (.tf jom3_11 (.fb .sub jom3_15 jom3_17) (.fb .add (.vf 103) (.vf 104)))))
def jom3_19 : E := (.tf jom3_3 (.lf 0) jom3_18)
def jom3_20 : E := (.ic .eql jom3_7 (.li 1))
def jom3_21 : E := (.tf jom3_14 (.lf 0) (.tf jom3_20 (.lf 4607182418800017408) (.lf 0)))
def jom3_22 : E := (.ic .eql jom3_8 (.li 1))
def jom3_23 : E := (.tf jom3_16 (.lf 0) (.tf jom3_22 (.lf 4607182418800017408) (.lf 0)))
def jom3_24 : E := (.tf jom3_4 (.vf 113) (.tf jom3_10 (.fb .add jom3_21 jom3_23) (.tf jom3_11 (.fb .sub jom3_21 jom3_23) (.fb .add (.vf 105) (.vf 106)))))
def jom3_25 : E := (.tf jom3_3 (.lf 0) jom3_24)
def jom3_26 : E := (.ic .eql (.ai 9 0 (.ci (.at 1 1) (.ci (.li 11) .n0))) (.li 0))
def jom3_27 : E := (.ic .eql (.ai 9 0 (.ci (.at 1 1) (.ci (.li 7) .n0))) (.li 0))
def jom3_28 : E := (.ib .add .i64 (.li 2) (.ai 9 0 (.ci (.at 1 1) (.ci (.li 3) .n0))))
def jom3_29 : E := (.ti jom3_27 (.li 5) jom3_28)
def jom3_30 : E := (.ai 9 0 (.ci (.ib .quo .i64 (.at 1 1) (.li 4)) (.ci (.li 4) .n0)))
def jom3_31 : E := (.ai 9 0 (.ci (.ib .quo .i64 (.at 1 1) (.li 40)) (.ci (.li 4) .n0)))
def jom3_32 : E := (.fb .quo (.i2f (.ib .sub .i64 (.ai 9 0 (.ci (.ib .quo .i64 (.at 1 1) (.li 11)) (.ci (.li 33) .n0))) (.li 16))) (.lf 4620693217682128896))
def jom3_33 : E := (.ic .eql jom3_28 (.li 2))
def jom3_34 : E := (.ic .eql jom3_28 (.li 3))
def jom3_35 : E := (.tf jom3_27 (.vf 125) (.tf jom3_33 (.vf 114) (.tf jom3_34 (.vf 117) (.vf 120))))
def jom3_36 : E := (.tf jom3_27 (.vf 128) (.tf jom3_33 (.vf 115) (.tf jom3_34 (.vf 118) (.fb .add (.vf 121) (.vf 122)))))
def jom3_37 : E := (.tf jom3_27 (.vf 131) (.tf jom3_33 (.vf 116) (.tf jom3_34 (.vf 119) (.fb .add (.vf 123) (.vf 124)))))
def jom3_38 : E := (.ic .eql jom3_30 (.li 0))
def jom3_39 : E := (.ic .eql jom3_30 (.li 1))
def jom3_40 : E := (.ic .eql jom3_30 (.li 2))
def jom3_41 : E := (.ic .eql jom3_31 (.li 0))
def jom3_42 : E := (.ic .eql jom3_31 (.li 1))
def jom3_43 : E := (.ic .eql jom3_31 (.li 2))
def jok3_0 : Blk := [(.f 0), .sl0, (.f 0), .sl0]
def jok3_1 : Blk := [(.ef jom3_0), (.sl 48 0 2 (.n 2)), (.ef jom3_1), (.sl 47 0 2 (.n 2))]
def jok3_2 : Blk := [(.ef jom3_0), (.sl 100 0 2 (.n 2)), (.ef jom3_1), (.sl 99 0 2 (.n 2))]
def job3_0 : Blk := [(.f 0), (.f 4607182418800017408)]
def job3_1 : Blk := [(.f 4607182418800017408), (.f 0)]
def job3_2 : Blk := [(.ef jom3_0), (.sl 44 0 2 (.n 2)), (.ef jom3_1), (.sl 43 0 2 (.n 2))]
def job3_3 : Blk := [(.f 0), .sl0, (.f 0), .sl0, (.f 0), .sl0]
def job3_4 : Blk := [(.ef jom3_0), (.sl 44 0 2 (.n 2)), (.f 0), .sl0, (.f 0), .sl0]
def job3_5 : Blk := [(.ef jom3_0), (.sl 44 0 2 (.n 2)), (.ef jom3_1), (.sl 43 0 2 (.n 2)), (.f 0), .sl0]
def job3_6 : Blk := [(.ef jom3_0), (.sl 86 0 2 (.n 2)), (.ef jom3_1), (.sl 85 0 2 (.n 2))]
def job3_7 : Blk := [(.ef jom3_0), (.sl 86 0 2 (.n 2)), (.f 0), .sl0, (.f 0), .sl0]
def job3_8 : Blk := [(.ef jom3_0), (.sl 86 0 2 (.n 2)), (.ef jom3_1), (.sl 85 0 2 (.n 2)), (.f 0), .sl0]
def job3_9 : Blk := [(.ef jom3_0), (.sl 48 0 2 (.n 2)), (.ef jom3_1), (.sl 47 0 2 (.n 2))]
def job3_10 : Blk := jok3_0 ++ jok3_0
def job3_11 : Blk := [(.ef jom3_0), (.sl 48 0 2 (.n 2)), (.f 0), .sl0] ++ jok3_0
def job3_12 : Blk := jok3_1 ++ jok3_0
def job3_13 : Blk := jok3_1 ++ [(.ef jom3_2), (.sl 65 0 2 (.n 2)), (.f 0), .sl0]
def job3_14 : Blk := [(.ef jom3_19), (.ef jom3_25)]
def job3_15 : Blk := [(.ef jom3_0), (.sl 100 0 2 (.n 2)), (.ef jom3_1), (.sl 99 0 2 (.n 2))]
def job3_16 : Blk := [(.ef jom3_0), (.sl 100 0 2 (.n 2)), (.f 0), .sl0] ++ jok3_0
def job3_17 : Blk := jok3_2 ++ jok3_0
def job3_18 : Blk := jok3_2 ++ [(.ef jom3_2), (.sl 117 0 2 (.n 2)), (.f 0), .sl0]
def job3_19 : Blk := [(.ef jom3_0), (.sl 52 0 2 (.n 2)), (.ef jom3_1), (.sl 51 0 2 (.n 2))]
def job3_20 : Blk := [(.f 0), .sl0, (.f 0), .sl0, (.f 0), .sl0, (.f 0), .sl0, (.f 0), .sl0]
def job3_21 : Blk := [(.ef jom3_0), (.sl 52 0 2 (.n 2)), (.f 0), .sl0, (.f 0), .sl0, (.f 0), .sl0, (.f 0), .sl0]
def job3_22 : Blk := [(.ef jom3_0), (.sl 52 0 2 (.n 2)), (.ef jom3_1), (.sl 51 0 2 (.n 2)), (.f 0), .sl0, (.f 0), .sl0, (.f 0), .sl0]
def job3_23 : Blk := [(.ef jom3_0), (.sl 52 0 2 (.n 2)), (.ef jom3_1), (.sl 51 0 2 (.n 2)), (.ef jom3_2), (.sl 69 0 2 (.n 2)), (.f 0), .sl0, (.f 0), .sl0]
def job3_24 : Blk := [(.ef jom3_0), (.sl 52 0 2 (.n 2)), (.ef jom3_1), (.sl 51 0 2 (.n 2)), (.ef jom3_2), (.sl 69 0 2 (.n 2)), (.ef jom3_13), (.sl 75 0 2 (.n 2)), (.f 0), .sl0]
def job3_25 : Blk := [(.ef (.tf jom3_26 (.lf 0) jom3_36)), (.ef (.tf jom3_26 (.lf 0) jom3_37))]
def job3_26 : Blk := [(.ef jom3_0), (.sl 114 0 2 (.n 2)), (.ef jom3_1), (.sl 113 0 2 (.n 2))]
def job3_27 : Blk := [(.ef jom3_0), (.sl 114 0 2 (.n 2)), (.f 0), .sl0, (.f 0), .sl0, (.f 0), .sl0, (.f 0), .sl0]
def job3_28 : Blk := [(.ef jom3_0), (.sl 114 0 2 (.n 2)), (.ef jom3_1), (.sl 113 0 2 (.n 2)), (.f 0), .sl0, (.f 0), .sl0, (.f 0), .sl0]
def job3_29 : Blk := [(.ef jom3_0), (.sl 114 0 2 (.n 2)), (.ef jom3_1), (.sl 113 0 2 (.n 2)), (.ef jom3_2), (.sl 131 0 2 (.n 2)), (.f 0), .sl0, (.f 0), .sl0]
def job3_30 : Blk := [(.ef jom3_0), (.sl 114 0 2 (.n 2)), (.ef jom3_1), (.sl 113 0 2 (.n 2)), (.ef jom3_2), (.sl 131 0 2 (.n 2)), (.ef jom3_13), (.sl 137 0 2 (.n 2)), (.f 0), .sl0]
def jo1_0m0 : Memo := (⟨[(.ag [(.fn 66 [(41, 0), (40, 0)]), (.fn 69 [(41, 0), (40, 0)]), (.fn 71 [(41, 0), (40, 0)]), (.fn 73 [(41, 0), (40, 0)]), (.fn 75 [(41, 0), (40, 0)])]), (.ag [(.i .i64 1), (.i .i64 0), (.i .i64 0), (.f 0)]), (.c (.sl 45 0 2 (.n 2))), (.c (.sl 51 0 3 (.n 3)))], [(40, [(.i .i64 2)]), (41, [(.fn 47 []), (.fn 48 []), (.fn 49 []), (.fn 50 []), (.fn 51 [])]), (43, job3_0), (44, job3_1), (45, job3_2), (51, job3_3)], 53, (.ag [(.ef jom3_0), (.sl 44 0 2 (.n 2))]), [(40, [(.i .i64 2)]), (41, [(.fn 47 []), (.fn 48 []), (.fn 49 []), (.fn 50 []), (.fn 51 [])]), (43, job3_0), (44, job3_1), (45, job3_2), (51, job3_3)], 56⟩)
theorem jo1_0o0 : mok [] (lenL 1 0 8 ++ []) joN1 77 jo1_0m0 = true := by kernel_rfl
def jo1_0m1 : Memo := (⟨[(.ag [(.fn 66 [(41, 0), (40, 0)]), (.fn 69 [(41, 0), (40, 0)]), (.fn 71 [(41, 0), (40, 0)]), (.fn 73 [(41, 0), (40, 0)]), (.fn 75 [(41, 0), (40, 0)])]), (.ag [(.i .i64 1), (.i .i64 1), (.i .i64 0), (.f 0)]), (.c (.sl 45 0 2 (.n 2))), (.c (.sl 51 0 3 (.n 3)))], [(40, [(.i .i64 2)]), (41, [(.fn 47 []), (.fn 48 []), (.fn 49 []), (.fn 50 []), (.fn 51 [])]), (43, job3_0), (44, job3_1), (45, job3_2), (51, job3_4)], 57, (.ag [(.ef jom3_1), (.sl 43 0 2 (.n 2))]), [(40, [(.i .i64 2)]), (41, [(.fn 47 []), (.fn 48 []), (.fn 49 []), (.fn 50 []), (.fn 51 [])]), (43, job3_0), (44, job3_1), (45, job3_2), (51, job3_4)], 60⟩)
theorem jo1_0o1 : mok [] (lenL 1 0 8 ++ []) joN1 77 jo1_0m1 = true := by kernel_rfl
def jo1_0m2 : Memo := mkM [(.ag [(.fn 66 [(41, 0), (40, 0)]), (.fn 69 [(41, 0), (40, 0)]), (.fn 71 [(41, 0), (40, 0)]), (.fn 73 [(41, 0), (40, 0)]), (.fn 75 [(41, 0), (40, 0)])]), (.ag [(.i .i64 0), (.i .i64 0), (.i .i64 0), (.ef jom3_2)]), (.c (.sl 45 0 2 (.n 2))), (.c (.sl 51 0 3 (.n 3)))] [(40, [(.i .i64 2)]), (41, [(.fn 47 []), (.fn 48 []), (.fn 49 []), (.fn 50 []), (.fn 51 [])]), (43, job3_0), (44, job3_1), (45, job3_2), (51, job3_5)] 61 (.ag [(.ef jom3_2), (.sl 64 0 2 (.n 2))]) (64, [(.f 0), (.f 0)]) 66
theorem jo1_0o2 : mok [] (lenL 1 0 8 ++ []) joN1 77 jo1_0m2 = true := by kernel_rfl
def jo1_0m3 : Memo := (⟨[(.ag [(.fn 66 [(83, 0), (82, 0)]), (.fn 69 [(83, 0), (82, 0)]), (.fn 71 [(83, 0), (82, 0)]), (.fn 73 [(83, 0), (82, 0)]), (.fn 75 [(83, 0), (82, 0)])]), (.ag [(.i .i64 1), (.i .i64 0), (.i .i64 0), (.f 0)]), (.c (.sl 87 0 2 (.n 2))), (.c (.sl 93 0 3 (.n 3)))], [(82, [(.i .i64 2)]), (83, [(.fn 47 []), (.fn 48 []), (.fn 49 []), (.fn 50 []), (.fn 51 [])]), (85, job3_0), (86, job3_1), (87, job3_6), (93, job3_3)], 95, (.ag [(.ef jom3_0), (.sl 86 0 2 (.n 2))]), [(82, [(.i .i64 2)]), (83, [(.fn 47 []), (.fn 48 []), (.fn 49 []), (.fn 50 []), (.fn 51 [])]), (85, job3_0), (86, job3_1), (87, job3_6), (93, job3_3)], 98⟩)
theorem jo1_0o3 : mok [] (lenL 1 0 8 ++ []) joN1 77 jo1_0m3 = true := by kernel_rfl
def jo1_0m4 : Memo := (⟨[(.ag [(.fn 66 [(83, 0), (82, 0)]), (.fn 69 [(83, 0), (82, 0)]), (.fn 71 [(83, 0), (82, 0)]), (.fn 73 [(83, 0), (82, 0)]), (.fn 75 [(83, 0), (82, 0)])]), (.ag [(.i .i64 1), (.i .i64 1), (.i .i64 0), (.f 0)]), (.c (.sl 87 0 2 (.n 2))), (.c (.sl 93 0 3 (.n 3)))], [(82, [(.i .i64 2)]), (83, [(.fn 47 []), (.fn 48 []), (.fn 49 []), (.fn 50 []), (.fn 51 [])]), (85, job3_0), (86, job3_1), (87, job3_6), (93, job3_7)], 99, (.ag [(.ef jom3_1), (.sl 85 0 2 (.n 2))]), [(82, [(.i .i64 2)]), (83, [(.fn 47 []), (.fn 48 []), (.fn 49 []), (.fn 50 []), (.fn 51 [])]), (85, job3_0), (86, job3_1), (87, job3_6), (93, job3_7)], 102⟩)
theorem jo1_0o4 : mok [] (lenL 1 0 8 ++ []) joN1 77 jo1_0m4 = true := by kernel_rfl
def jo1_0m5 : Memo := mkM [(.ag [(.fn 66 [(83, 0), (82, 0)]), (.fn 69 [(83, 0), (82, 0)]), (.fn 71 [(83, 0), (82, 0)]), (.fn 73 [(83, 0), (82, 0)]), (.fn 75 [(83, 0), (82, 0)])]), (.ag [(.i .i64 0), (.i .i64 0), (.i .i64 0), (.ef jom3_2)]), (.c (.sl 87 0 2 (.n 2))), (.c (.sl 93 0 3 (.n 3)))] [(82, [(.i .i64 2)]), (83, [(.fn 47 []), (.fn 48 []), (.fn 49 []), (.fn 50 []), (.fn 51 [])]), (85, job3_0), (86, job3_1), (87, job3_6), (93, job3_8)] 103 (.ag [(.ef jom3_2), (.sl 106 0 2 (.n 2))]) (106, [(.f 0), (.f 0)]) 108
theorem jo1_0o5 : mok [] (lenL 1 0 8 ++ []) joN1 77 jo1_0m5 = true := by kernel_rfl
def jo1_0ms : List (Nat × List Memo) := [(77, [jo1_0m0, jo1_0m1, jo1_0m2, jo1_0m3, jo1_0m4, jo1_0m5])]
theorem jo1_0mo : AllMem (memRun [] (lenL 1 0 8 ++ []) joN1) jo1_0ms := ⟨⟨jo1_0o0, jo1_0o1, jo1_0o2, jo1_0o3, jo1_0o4, jo1_0o5, trivial⟩, trivial⟩
theorem jo1_0 : lawRunM 8 10 200 [.i, .q, .q, .i] [(0, 3, 1)] (lenL 1 0 8 ++ []) joN1 jo1_0ms = true := by kernel_rfl
def jo1_1m0 : Memo := (⟨[(.ag [(.fn 66 [(45, 0), (44, 0)]), (.fn 69 [(45, 0), (44, 0)]), (.fn 71 [(45, 0), (44, 0)]), (.fn 73 [(45, 0), (44, 0)]), (.fn 75 [(45, 0), (44, 0)])]), (.ag [(.i .i64 1), (.i .i64 0), (.i .i64 0), (.f 0)]), (.c (.sl 49 0 2 (.n 2))), (.c (.sl 55 0 4 (.n 4)))], [(44, [(.i .i64 2)]), (45, [(.fn 47 []), (.fn 48 []), (.fn 49 []), (.fn 50 []), (.fn 51 [])]), (47, job3_0), (48, job3_1), (49, job3_9), (55, job3_10)], 57, (.ag [(.ef jom3_0), (.sl 48 0 2 (.n 2))]), [(44, [(.i .i64 2)]), (45, [(.fn 47 []), (.fn 48 []), (.fn 49 []), (.fn 50 []), (.fn 51 [])]), (47, job3_0), (48, job3_1), (49, job3_9), (55, job3_10)], 60⟩)
theorem jo1_1o0 : mok [] (lenL 1 1 8 ++ []) joN1 77 jo1_1m0 = true := by kernel_rfl
def jo1_1m1 : Memo := (⟨[(.ag [(.fn 66 [(45, 0), (44, 0)]), (.fn 69 [(45, 0), (44, 0)]), (.fn 71 [(45, 0), (44, 0)]), (.fn 73 [(45, 0), (44, 0)]), (.fn 75 [(45, 0), (44, 0)])]), (.ag [(.i .i64 1), (.i .i64 1), (.i .i64 0), (.f 0)]), (.c (.sl 49 0 2 (.n 2))), (.c (.sl 55 0 4 (.n 4)))], [(44, [(.i .i64 2)]), (45, [(.fn 47 []), (.fn 48 []), (.fn 49 []), (.fn 50 []), (.fn 51 [])]), (47, job3_0), (48, job3_1), (49, job3_9), (55, job3_11)], 61, (.ag [(.ef jom3_1), (.sl 47 0 2 (.n 2))]), [(44, [(.i .i64 2)]), (45, [(.fn 47 []), (.fn 48 []), (.fn 49 []), (.fn 50 []), (.fn 51 [])]), (47, job3_0), (48, job3_1), (49, job3_9), (55, job3_11)], 64⟩)
theorem jo1_1o1 : mok [] (lenL 1 1 8 ++ []) joN1 77 jo1_1m1 = true := by kernel_rfl
def jo1_1m2 : Memo := mkM [(.ag [(.fn 66 [(45, 0), (44, 0)]), (.fn 69 [(45, 0), (44, 0)]), (.fn 71 [(45, 0), (44, 0)]), (.fn 73 [(45, 0), (44, 0)]), (.fn 75 [(45, 0), (44, 0)])]), (.ag [(.i .i64 0), (.i .i64 0), (.i .i64 0), (.ef jom3_2)]), (.c (.sl 49 0 2 (.n 2))), (.c (.sl 55 0 4 (.n 4)))] [(44, [(.i .i64 2)]), (45, [(.fn 47 []), (.fn 48 []), (.fn 49 []), (.fn 50 []), (.fn 51 [])]), (47, job3_0), (48, job3_1), (49, job3_9), (55, job3_12)] 65 (.ag [(.ef jom3_2), (.sl 68 0 2 (.n 2))]) (68, [(.f 0), (.f 0)]) 70
theorem jo1_1o2 : mok [] (lenL 1 1 8 ++ []) joN1 77 jo1_1m2 = true := by kernel_rfl
def jo1_1m3 : Memo := mkM [(.ag [(.fn 66 [(45, 0), (44, 0)]), (.fn 69 [(45, 0), (44, 0)]), (.fn 71 [(45, 0), (44, 0)]), (.fn 73 [(45, 0), (44, 0)]), (.fn 75 [(45, 0), (44, 0)])]), (.ag [(.ei .i64 (.ti jom3_3 (.li 0) jom3_6)), (.ei .i64 (.ti jom3_3 (.li 0) jom3_7)), (.ei .i64 (.ti jom3_3 (.li 0) jom3_8)), (.ef (.tf jom3_3 jom3_9 (.lf 0)))]), (.c (.sl 49 0 2 (.n 2))), (.c (.sl 55 0 4 (.n 4)))] [(44, [(.i .i64 2)]), (45, [(.fn 47 []), (.fn 48 []), (.fn 49 []), (.fn 50 []), (.fn 51 [])]), (47, job3_0), (48, job3_1), (49, job3_9), (55, job3_13), (65, [(.f 0), (.f 0)])] 71 (.ag [(.ef jom3_13), (.sl 74 0 2 (.n 2))]) (74, job3_14) 79
theorem jo1_1o3 : mok [] (lenL 1 1 8 ++ []) joN1 77 jo1_1m3 = true := by kernel_rfl
def jo1_1m4 : Memo := (⟨[(.ag [(.fn 66 [(97, 0), (96, 0)]), (.fn 69 [(97, 0), (96, 0)]), (.fn 71 [(97, 0), (96, 0)]), (.fn 73 [(97, 0), (96, 0)]), (.fn 75 [(97, 0), (96, 0)])]), (.ag [(.i .i64 1), (.i .i64 0), (.i .i64 0), (.f 0)]), (.c (.sl 101 0 2 (.n 2))), (.c (.sl 107 0 4 (.n 4)))], [(96, [(.i .i64 2)]), (97, [(.fn 47 []), (.fn 48 []), (.fn 49 []), (.fn 50 []), (.fn 51 [])]), (99, job3_0), (100, job3_1), (101, job3_15), (107, job3_10)], 109, (.ag [(.ef jom3_0), (.sl 100 0 2 (.n 2))]), [(96, [(.i .i64 2)]), (97, [(.fn 47 []), (.fn 48 []), (.fn 49 []), (.fn 50 []), (.fn 51 [])]), (99, job3_0), (100, job3_1), (101, job3_15), (107, job3_10)], 112⟩)
theorem jo1_1o4 : mok [] (lenL 1 1 8 ++ []) joN1 77 jo1_1m4 = true := by kernel_rfl
def jo1_1m5 : Memo := (⟨[(.ag [(.fn 66 [(97, 0), (96, 0)]), (.fn 69 [(97, 0), (96, 0)]), (.fn 71 [(97, 0), (96, 0)]), (.fn 73 [(97, 0), (96, 0)]), (.fn 75 [(97, 0), (96, 0)])]), (.ag [(.i .i64 1), (.i .i64 1), (.i .i64 0), (.f 0)]), (.c (.sl 101 0 2 (.n 2))), (.c (.sl 107 0 4 (.n 4)))], [(96, [(.i .i64 2)]), (97, [(.fn 47 []), (.fn 48 []), (.fn 49 []), (.fn 50 []), (.fn 51 [])]), (99, job3_0), (100, job3_1), (101, job3_15), (107, job3_16)], 113, (.ag [(.ef jom3_1), (.sl 99 0 2 (.n 2))]), [(96, [(.i .i64 2)]), (97, [(.fn 47 []), (.fn 48 []), (.fn 49 []), (.fn 50 []), (.fn 51 [])]), (99, job3_0), (100, job3_1), (101, job3_15), (107, job3_16)], 116⟩)
theorem jo1_1o5 : mok [] (lenL 1 1 8 ++ []) joN1 77 jo1_1m5 = true := by kernel_rfl
def jo1_1m6 : Memo := mkM [(.ag [(.fn 66 [(97, 0), (96, 0)]), (.fn 69 [(97, 0), (96, 0)]), (.fn 71 [(97, 0), (96, 0)]), (.fn 73 [(97, 0), (96, 0)]), (.fn 75 [(97, 0), (96, 0)])]), (.ag [(.i .i64 0), (.i .i64 0), (.i .i64 0), (.ef jom3_2)]), (.c (.sl 101 0 2 (.n 2))), (.c (.sl 107 0 4 (.n 4)))] [(96, [(.i .i64 2)]), (97, [(.fn 47 []), (.fn 48 []), (.fn 49 []), (.fn 50 []), (.fn 51 [])]), (99, job3_0), (100, job3_1), (101, job3_15), (107, job3_17)] 117 (.ag [(.ef jom3_2), (.sl 120 0 2 (.n 2))]) (120, [(.f 0), (.f 0)]) 122
theorem jo1_1o6 : mok [] (lenL 1 1 8 ++ []) joN1 77 jo1_1m6 = true := by kernel_rfl
def jo1_1m7 : Memo := mkM [(.ag [(.fn 66 [(97, 0), (96, 0)]), (.fn 69 [(97, 0), (96, 0)]), (.fn 71 [(97, 0), (96, 0)]), (.fn 73 [(97, 0), (96, 0)]), (.fn 75 [(97, 0), (96, 0)])]), (.ag [(.ei .i64 (.ti jom3_3 (.li 0) jom3_6)), (.ei .i64 (.ti jom3_3 (.li 0) jom3_7)), (.ei .i64 (.ti jom3_3 (.li 0) jom3_8)), (.ef (.tf jom3_3 jom3_9 (.lf 0)))]), (.c (.sl 101 0 2 (.n 2))), (.c (.sl 107 0 4 (.n 4)))] [(96, [(.i .i64 2)]), (97, [(.fn 47 []), (.fn 48 []), (.fn 49 []), (.fn 50 []), (.fn 51 [])]), (99, job3_0), (100, job3_1), (101, job3_15), (107, job3_18), (117, [(.f 0), (.f 0)])] 123 (.ag [(.ef jom3_13), (.sl 126 0 2 (.n 2))]) (126, job3_14) 131
theorem jo1_1o7 : mok [] (lenL 1 1 8 ++ []) joN1 77 jo1_1m7 = true := by kernel_rfl
def jo1_1m8 : Memo := (⟨[(.c (.ei .i64 jom3_6)), (.c (.ef (.tf jom3_14 jom3_0 (.tf jom3_20 jom3_1 jom3_2)))), (.c (.ef (.tf jom3_16 jom3_0 (.tf jom3_22 jom3_1 jom3_2)))), (.c (.ef jom3_12)), (.c (.ef jom3_15)), (.c (.ef jom3_17))], [], 164, (.c (.ef jom3_18)), [], 164⟩)
theorem jo1_1o8 : mok [] (lenL 1 1 8 ++ []) joN1 36 jo1_1m8 = true := by kernel_rfl
def jo1_1m9 : Memo := (⟨[(.c (.ei .i64 jom3_6)), (.c (.ef (.tf jom3_14 jom3_0 (.tf jom3_20 jom3_1 jom3_2)))), (.c (.ef (.tf jom3_16 jom3_0 (.tf jom3_22 jom3_1 jom3_2)))), (.c (.ef jom3_12)), (.c (.ef jom3_21)), (.c (.ef jom3_23))], [], 164, (.c (.ef jom3_24)), [], 164⟩)
theorem jo1_1o9 : mok [] (lenL 1 1 8 ++ []) joN1 36 jo1_1m9 = true := by kernel_rfl
def jo1_1ms : List (Nat × List Memo) := [(77, [jo1_1m0, jo1_1m1, jo1_1m2, jo1_1m3, jo1_1m4, jo1_1m5, jo1_1m6, jo1_1m7]), (36, [jo1_1m8, jo1_1m9])]
theorem jo1_1mo : AllMem (memRun [] (lenL 1 1 8 ++ []) joN1) jo1_1ms := ⟨⟨jo1_1o0, jo1_1o1, jo1_1o2, jo1_1o3, jo1_1o4, jo1_1o5, jo1_1o6, jo1_1o7, trivial⟩, ⟨jo1_1o8, jo1_1o9, trivial⟩, trivial⟩
theorem jo1_1 : lawRunM 8 10 200 [.i, .q, .q, .i] [(0, 3, 1)] (lenL 1 1 8 ++ []) joN1 jo1_1ms = true := by kernel_rfl
def jo1_2m0 : Memo := (⟨[(.ag [(.fn 66 [(49, 0), (48, 0)]), (.fn 69 [(49, 0), (48, 0)]), (.fn 71 [(49, 0), (48, 0)]), (.fn 73 [(49, 0), (48, 0)]), (.fn 75 [(49, 0), (48, 0)])]), (.ag [(.i .i64 1), (.i .i64 0), (.i .i64 0), (.f 0)]), (.c (.sl 53 0 2 (.n 2))), (.c (.sl 59 0 5 (.n 5)))], [(48, [(.i .i64 2)]), (49, [(.fn 47 []), (.fn 48 []), (.fn 49 []), (.fn 50 []), (.fn 51 [])]), (51, job3_0), (52, job3_1), (53, job3_19), (59, job3_20)], 61, (.ag [(.ef jom3_0), (.sl 52 0 2 (.n 2))]), [(48, [(.i .i64 2)]), (49, [(.fn 47 []), (.fn 48 []), (.fn 49 []), (.fn 50 []), (.fn 51 [])]), (51, job3_0), (52, job3_1), (53, job3_19), (59, job3_20)], 64⟩)
theorem jo1_2o0 : mok [] (lenL 1 2 8 ++ []) joN1 77 jo1_2m0 = true := by kernel_rfl
def jo1_2m1 : Memo := (⟨[(.ag [(.fn 66 [(49, 0), (48, 0)]), (.fn 69 [(49, 0), (48, 0)]), (.fn 71 [(49, 0), (48, 0)]), (.fn 73 [(49, 0), (48, 0)]), (.fn 75 [(49, 0), (48, 0)])]), (.ag [(.i .i64 1), (.i .i64 1), (.i .i64 0), (.f 0)]), (.c (.sl 53 0 2 (.n 2))), (.c (.sl 59 0 5 (.n 5)))], [(48, [(.i .i64 2)]), (49, [(.fn 47 []), (.fn 48 []), (.fn 49 []), (.fn 50 []), (.fn 51 [])]), (51, job3_0), (52, job3_1), (53, job3_19), (59, job3_21)], 65, (.ag [(.ef jom3_1), (.sl 51 0 2 (.n 2))]), [(48, [(.i .i64 2)]), (49, [(.fn 47 []), (.fn 48 []), (.fn 49 []), (.fn 50 []), (.fn 51 [])]), (51, job3_0), (52, job3_1), (53, job3_19), (59, job3_21)], 68⟩)
theorem jo1_2o1 : mok [] (lenL 1 2 8 ++ []) joN1 77 jo1_2m1 = true := by kernel_rfl
def jo1_2m2 : Memo := mkM [(.ag [(.fn 66 [(49, 0), (48, 0)]), (.fn 69 [(49, 0), (48, 0)]), (.fn 71 [(49, 0), (48, 0)]), (.fn 73 [(49, 0), (48, 0)]), (.fn 75 [(49, 0), (48, 0)])]), (.ag [(.i .i64 0), (.i .i64 0), (.i .i64 0), (.ef jom3_2)]), (.c (.sl 53 0 2 (.n 2))), (.c (.sl 59 0 5 (.n 5)))] [(48, [(.i .i64 2)]), (49, [(.fn 47 []), (.fn 48 []), (.fn 49 []), (.fn 50 []), (.fn 51 [])]), (51, job3_0), (52, job3_1), (53, job3_19), (59, job3_22)] 69 (.ag [(.ef jom3_2), (.sl 72 0 2 (.n 2))]) (72, [(.f 0), (.f 0)]) 74
theorem jo1_2o2 : mok [] (lenL 1 2 8 ++ []) joN1 77 jo1_2m2 = true := by kernel_rfl
def jo1_2m3 : Memo := mkM [(.ag [(.fn 66 [(49, 0), (48, 0)]), (.fn 69 [(49, 0), (48, 0)]), (.fn 71 [(49, 0), (48, 0)]), (.fn 73 [(49, 0), (48, 0)]), (.fn 75 [(49, 0), (48, 0)])]), (.ag [(.ei .i64 (.ti jom3_3 (.li 0) jom3_6)), (.ei .i64 (.ti jom3_3 (.li 0) jom3_7)), (.ei .i64 (.ti jom3_3 (.li 0) jom3_8)), (.ef (.tf jom3_3 jom3_9 (.lf 0)))]), (.c (.sl 53 0 2 (.n 2))), (.c (.sl 59 0 5 (.n 5)))] [(48, [(.i .i64 2)]), (49, [(.fn 47 []), (.fn 48 []), (.fn 49 []), (.fn 50 []), (.fn 51 [])]), (51, job3_0), (52, job3_1), (53, job3_19), (59, job3_23), (69, [(.f 0), (.f 0)])] 75 (.ag [(.ef jom3_13), (.sl 78 0 2 (.n 2))]) (78, job3_14) 83
theorem jo1_2o3 : mok [] (lenL 1 2 8 ++ []) joN1 77 jo1_2m3 = true := by kernel_rfl
def jo1_2m4 : Memo := mkM [(.ag [(.fn 66 [(49, 0), (48, 0)]), (.fn 69 [(49, 0), (48, 0)]), (.fn 71 [(49, 0), (48, 0)]), (.fn 73 [(49, 0), (48, 0)]), (.fn 75 [(49, 0), (48, 0)])]), (.ag [(.ei .i64 (.ti jom3_26 (.li 0) jom3_29)), (.ei .i64 (.ti jom3_26 (.li 0) jom3_30)), (.ei .i64 (.ti jom3_26 (.li 0) jom3_31)), (.ef (.tf jom3_26 jom3_32 (.lf 0)))]), (.c (.sl 53 0 2 (.n 2))), (.c (.sl 59 0 5 (.n 5)))] [(48, [(.i .i64 2)]), (49, [(.fn 47 []), (.fn 48 []), (.fn 49 []), (.fn 50 []), (.fn 51 [])]), (51, job3_0), (52, job3_1), (53, job3_19), (59, job3_24), (69, [(.f 0), (.f 0)]), (75, job3_14)] 84 (.ag [(.ef (.tf jom3_26 jom3_32 jom3_35)), (.sl 87 0 2 (.n 2))]) (87, job3_25) 92
theorem jo1_2o4 : mok [] (lenL 1 2 8 ++ []) joN1 77 jo1_2m4 = true := by kernel_rfl
def jo1_2m5 : Memo := (⟨[(.ag [(.fn 66 [(111, 0), (110, 0)]), (.fn 69 [(111, 0), (110, 0)]), (.fn 71 [(111, 0), (110, 0)]), (.fn 73 [(111, 0), (110, 0)]), (.fn 75 [(111, 0), (110, 0)])]), (.ag [(.i .i64 1), (.i .i64 0), (.i .i64 0), (.f 0)]), (.c (.sl 115 0 2 (.n 2))), (.c (.sl 121 0 5 (.n 5)))], [(110, [(.i .i64 2)]), (111, [(.fn 47 []), (.fn 48 []), (.fn 49 []), (.fn 50 []), (.fn 51 [])]), (113, job3_0), (114, job3_1), (115, job3_26), (121, job3_20)], 123, (.ag [(.ef jom3_0), (.sl 114 0 2 (.n 2))]), [(110, [(.i .i64 2)]), (111, [(.fn 47 []), (.fn 48 []), (.fn 49 []), (.fn 50 []), (.fn 51 [])]), (113, job3_0), (114, job3_1), (115, job3_26), (121, job3_20)], 126⟩)
theorem jo1_2o5 : mok [] (lenL 1 2 8 ++ []) joN1 77 jo1_2m5 = true := by kernel_rfl
def jo1_2m6 : Memo := (⟨[(.ag [(.fn 66 [(111, 0), (110, 0)]), (.fn 69 [(111, 0), (110, 0)]), (.fn 71 [(111, 0), (110, 0)]), (.fn 73 [(111, 0), (110, 0)]), (.fn 75 [(111, 0), (110, 0)])]), (.ag [(.i .i64 1), (.i .i64 1), (.i .i64 0), (.f 0)]), (.c (.sl 115 0 2 (.n 2))), (.c (.sl 121 0 5 (.n 5)))], [(110, [(.i .i64 2)]), (111, [(.fn 47 []), (.fn 48 []), (.fn 49 []), (.fn 50 []), (.fn 51 [])]), (113, job3_0), (114, job3_1), (115, job3_26), (121, job3_27)], 127, (.ag [(.ef jom3_1), (.sl 113 0 2 (.n 2))]), [(110, [(.i .i64 2)]), (111, [(.fn 47 []), (.fn 48 []), (.fn 49 []), (.fn 50 []), (.fn 51 [])]), (113, job3_0), (114, job3_1), (115, job3_26), (121, job3_27)], 130⟩)
theorem jo1_2o6 : mok [] (lenL 1 2 8 ++ []) joN1 77 jo1_2m6 = true := by kernel_rfl
def jo1_2m7 : Memo := mkM [(.ag [(.fn 66 [(111, 0), (110, 0)]), (.fn 69 [(111, 0), (110, 0)]), (.fn 71 [(111, 0), (110, 0)]), (.fn 73 [(111, 0), (110, 0)]), (.fn 75 [(111, 0), (110, 0)])]), (.ag [(.i .i64 0), (.i .i64 0), (.i .i64 0), (.ef jom3_2)]), (.c (.sl 115 0 2 (.n 2))), (.c (.sl 121 0 5 (.n 5)))] [(110, [(.i .i64 2)]), (111, [(.fn 47 []), (.fn 48 []), (.fn 49 []), (.fn 50 []), (.fn 51 [])]), (113, job3_0), (114, job3_1), (115, job3_26), (121, job3_28)] 131 (.ag [(.ef jom3_2), (.sl 134 0 2 (.n 2))]) (134, [(.f 0), (.f 0)]) 136
theorem jo1_2o7 : mok [] (lenL 1 2 8 ++ []) joN1 77 jo1_2m7 = true := by kernel_rfl
def jo1_2m8 : Memo := mkM [(.ag [(.fn 66 [(111, 0), (110, 0)]), (.fn 69 [(111, 0), (110, 0)]), (.fn 71 [(111, 0), (110, 0)]), (.fn 73 [(111, 0), (110, 0)]), (.fn 75 [(111, 0), (110, 0)])]), (.ag [(.ei .i64 (.ti jom3_3 (.li 0) jom3_6)), (.ei .i64 (.ti jom3_3 (.li 0) jom3_7)), (.ei .i64 (.ti jom3_3 (.li 0) jom3_8)), (.ef (.tf jom3_3 jom3_9 (.lf 0)))]), (.c (.sl 115 0 2 (.n 2))), (.c (.sl 121 0 5 (.n 5)))] [(110, [(.i .i64 2)]), (111, [(.fn 47 []), (.fn 48 []), (.fn 49 []), (.fn 50 []), (.fn 51 [])]), (113, job3_0), (114, job3_1), (115, job3_26), (121, job3_29), (131, [(.f 0), (.f 0)])] 137 (.ag [(.ef jom3_13), (.sl 140 0 2 (.n 2))]) (140, job3_14) 145
theorem jo1_2o8 : mok [] (lenL 1 2 8 ++ []) joN1 77 jo1_2m8 = true := by kernel_rfl
def jo1_2m9 : Memo := mkM [(.ag [(.fn 66 [(111, 0), (110, 0)]), (.fn 69 [(111, 0), (110, 0)]), (.fn 71 [(111, 0), (110, 0)]), (.fn 73 [(111, 0), (110, 0)]), (.fn 75 [(111, 0), (110, 0)])]), (.ag [(.ei .i64 (.ti jom3_26 (.li 0) jom3_29)), (.ei .i64 (.ti jom3_26 (.li 0) jom3_30)), (.ei .i64 (.ti jom3_26 (.li 0) jom3_31)), (.ef (.tf jom3_26 jom3_32 (.lf 0)))]), (.c (.sl 115 0 2 (.n 2))), (.c (.sl 121 0 5 (.n 5)))] [(110, [(.i .i64 2)]), (111, [(.fn 47 []), (.fn 48 []), (.fn 49 []), (.fn 50 []), (.fn 51 [])]), (113, job3_0), (114, job3_1), (115, job3_26), (121, job3_30), (131, [(.f 0), (.f 0)]), (137, job3_14)] 146 (.ag [(.ef (.tf jom3_26 jom3_32 jom3_35)), (.sl 149 0 2 (.n 2))]) (149, job3_25) 154
theorem jo1_2o9 : mok [] (lenL 1 2 8 ++ []) joN1 77 jo1_2m9 = true := by kernel_rfl
def jo1_2m10 : Memo := (⟨[(.c (.ei .i64 jom3_6)), (.c (.ef (.tf jom3_14 jom3_0 (.tf jom3_20 jom3_1 jom3_2)))), (.c (.ef (.tf jom3_16 jom3_0 (.tf jom3_22 jom3_1 jom3_2)))), (.c (.ef jom3_12)), (.c (.ef jom3_15)), (.c (.ef jom3_17))], [], 190, (.c (.ef jom3_18)), [], 190⟩)
theorem jo1_2o10 : mok [] (lenL 1 2 8 ++ []) joN1 36 jo1_2m10 = true := by kernel_rfl
def jo1_2m11 : Memo := (⟨[(.c (.ei .i64 jom3_6)), (.c (.ef (.tf jom3_14 jom3_0 (.tf jom3_20 jom3_1 jom3_2)))), (.c (.ef (.tf jom3_16 jom3_0 (.tf jom3_22 jom3_1 jom3_2)))), (.c (.ef jom3_12)), (.c (.ef jom3_21)), (.c (.ef jom3_23))], [], 190, (.c (.ef jom3_24)), [], 190⟩)
theorem jo1_2o11 : mok [] (lenL 1 2 8 ++ []) joN1 36 jo1_2m11 = true := by kernel_rfl
def jo1_2m12 : Memo := (⟨[(.c (.ei .i64 jom3_29)), (.c (.ef (.tf jom3_38 jom3_0 (.tf jom3_39 jom3_1 (.tf jom3_40 jom3_2 jom3_13))))), (.c (.ef (.tf jom3_41 jom3_0 (.tf jom3_42 jom3_1 (.tf jom3_43 jom3_2 jom3_13))))), (.c (.ef jom3_35)), (.c (.ef (.tf jom3_38 (.lf 4607182418800017408) (.tf jom3_39 (.lf 0) (.tf jom3_40 (.lf 0) jom3_19))))), (.c (.ef (.tf jom3_41 (.lf 4607182418800017408) (.tf jom3_42 (.lf 0) (.tf jom3_43 (.lf 0) jom3_19)))))], [], 192, (.c (.ef jom3_36)), [], 192⟩)
theorem jo1_2o12 : mok [] (lenL 1 2 8 ++ []) joN1 36 jo1_2m12 = true := by kernel_rfl
def jo1_2m13 : Memo := (⟨[(.c (.ei .i64 jom3_29)), (.c (.ef (.tf jom3_38 jom3_0 (.tf jom3_39 jom3_1 (.tf jom3_40 jom3_2 jom3_13))))), (.c (.ef (.tf jom3_41 jom3_0 (.tf jom3_42 jom3_1 (.tf jom3_43 jom3_2 jom3_13))))), (.c (.ef jom3_35)), (.c (.ef (.tf jom3_38 (.lf 0) (.tf jom3_39 (.lf 4607182418800017408) (.tf jom3_40 (.lf 0) jom3_25))))), (.c (.ef (.tf jom3_41 (.lf 0) (.tf jom3_42 (.lf 4607182418800017408) (.tf jom3_43 (.lf 0) jom3_25)))))], [], 192, (.c (.ef jom3_37)), [], 192⟩)
theorem jo1_2o13 : mok [] (lenL 1 2 8 ++ []) joN1 36 jo1_2m13 = true := by kernel_rfl
def jo1_2ms : List (Nat × List Memo) := [(77, [jo1_2m0, jo1_2m1, jo1_2m2, jo1_2m3, jo1_2m4, jo1_2m5, jo1_2m6, jo1_2m7, jo1_2m8, jo1_2m9]), (36, [jo1_2m10, jo1_2m11, jo1_2m12, jo1_2m13])]
theorem jo1_2mo : AllMem (memRun [] (lenL 1 2 8 ++ []) joN1) jo1_2ms := ⟨⟨jo1_2o0, jo1_2o1, jo1_2o2, jo1_2o3, jo1_2o4, jo1_2o5, jo1_2o6, jo1_2o7, jo1_2o8, jo1_2o9, trivial⟩, ⟨jo1_2o10, jo1_2o11, jo1_2o12, jo1_2o13, trivial⟩, trivial⟩
theorem jo1_2 : lawRunM 8 10 200 [.i, .q, .q, .i] [(0, 3, 1)] (lenL 1 2 8 ++ []) joN1 jo1_2ms = true := by kernel_rfl
end Go.Proofs.Ytlgifofnejncpaa
