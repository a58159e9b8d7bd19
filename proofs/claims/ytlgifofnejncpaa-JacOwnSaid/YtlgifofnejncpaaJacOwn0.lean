/-
  'JacOwn': runs of it, part 0.
-/
import Derived.Test.YtlgifofnejncpaaJacOwnt0
namespace Go.Proofs.Ytlgifofnejncpaa
open Go.RowKit Ex
set_option maxRecDepth 1000000
set_option maxHeartbeats 100000000
def jom0_0 : E := (.fb .quo (.i2f (.ib .sub .i64 (.ai 9 0 (.ci (.ti (.ic .lss (.li 0) (.vl 2)) (.at 2 0) (.li 0)) (.ci (.li 65) .n0))) (.li 32))) (.lf 4620693217682128896))
def jom0_1 : E := (.fb .quo (.i2f (.ib .sub .i64 (.ai 9 0 (.ci (.vi 0) (.ci (.li 17) .n0))) (.li 8))) (.lf 4616189618054758400))
def jom0_2 : E := (.ic .eql (.ai 9 0 (.ci (.at 1 0) (.ci (.li 11) .n0))) (.li 0))
def jom0_3 : E := (.ic .eql (.ai 9 0 (.ci (.at 1 0) (.ci (.li 7) .n0))) (.li 0))
def jom0_4 : E := (.ib .add .i64 (.li 2) (.ai 9 0 (.ci (.at 1 0) (.ci (.li 3) .n0))))
def jom0_5 : E := (.ti jom0_3 (.li 5) jom0_4)
def jom0_6 : E := (.ai 9 0 (.ci (.ib .quo .i64 (.at 1 0) (.li 4)) (.ci (.li 2) .n0)))
def jom0_7 : E := (.ai 9 0 (.ci (.ib .quo .i64 (.at 1 0) (.li 40)) (.ci (.li 2) .n0)))
def jom0_8 : E := (.fb .quo (.i2f (.ib .sub .i64 (.ai 9 0 (.ci (.ib .quo .i64 (.at 1 0) (.li 11)) (.ci (.li 33) .n0))) (.li 16))) (.lf 4620693217682128896))
def jom0_9 : E := (.ic .eql jom0_4 (.li 2))
def jom0_10 : E := (.ic .eql jom0_4 (.li 3))
def jom0_11 : E := (.tf jom0_3 (.vf 104) (.tf jom0_9 (.vf 100) (.tf jom0_10 (.vf 101) (.vf 102))))
def jom0_12 : E := (.tf jom0_2 jom0_8 jom0_11)
def jom0_13 : E := (.ic .eql jom0_6 (.li 0))
def jom0_14 : E := (.tf jom0_13 (.lf 4607182418800017408) (.lf 0))
def jom0_15 : E := (.ic .eql jom0_7 (.li 0))
def jom0_16 : E := (.tf jom0_15 (.lf 4607182418800017408) (.lf 0))
def jom0_17 : E := (.tf jom0_3 (.vf 107) (.tf jom0_9 (.fb .add jom0_14 jom0_16) (.tf jom0_10 (.fb .sub jom0_14 jom0_16) (.vf 103))))
def jom0_18 : E := (.tf jom0_2 (.lf 0) jom0_17)
def jom0_19 : E := (.ic .eql (.ai 9 0 (.ci (.at 1 1) (.ci (.li 11) .n0))) (.li 0))
def jom0_20 : E := (.ic .eql (.ai 9 0 (.ci (.at 1 1) (.ci (.li 7) .n0))) (.li 0))
def jom0_21 : E := (.ib .add .i64 (.li 2) (.ai 9 0 (.ci (.at 1 1) (.ci (.li 3) .n0))))
def jom0_22 : E := (.ti jom0_20 (.li 5) jom0_21)
def jom0_23 : E := (.ai 9 0 (.ci (.ib .quo .i64 (.at 1 1) (.li 4)) (.ci (.li 3) .n0)))
def jom0_24 : E := (.ai 9 0 (.ci (.ib .quo .i64 (.at 1 1) (.li 40)) (.ci (.li 3) .n0)))
def jom0_25 : E := (.fb .quo (.i2f (.ib .sub .i64 (.ai 9 0 (.ci (.ib .quo .i64 (.at 1 1) (.li 11)) (.ci (.li 33) .n0))) (.li 16))) (.lf 4620693217682128896))
def jom0_26 : E := (.ic .eql jom0_21 (.li 2))
def jom0_27 : E := (.ic .eql jom0_21 (.li 3))
def jom0_28 : E := (.tf jom0_20 (.vf 115) (.tf jom0_26 (.vf 108) (.tf jom0_27 (.vf 110) (.vf 112))))
def jom0_29 : E := (.tf jom0_20 (.vf 118) (.tf jom0_26 (.vf 109) (.tf jom0_27 (.vf 111) (.fb .add (.vf 113) (.vf 114)))))
def jom0_30 : E := (.ic .eql jom0_23 (.li 0))
def jom0_31 : E := (.ic .eql jom0_23 (.li 1))
def jom0_32 : E := (.ic .eql jom0_24 (.li 0))
def jom0_33 : E := (.ic .eql jom0_24 (.li 1))
def jok0_0 : Blk := [(.f 0), .sl0, (.f 0), .sl0]
def jok0_1 : Blk := [(.ef jom0_0), (.sl 42 0 1 (.n 1)), (.ef jom0_1), (.sl 54 0 1 (.n 1))]
def jok0_2 : Blk := [(.ef jom0_0), (.sl 94 0 1 (.n 1)), (.ef jom0_1), (.sl 106 0 1 (.n 1))]
def job0_0 : Blk := [(.f 4607182418800017408)]
def job0_1 : Blk := [(.ef jom0_0), (.sl 34 0 1 (.n 1))]
def job0_2 : Blk := [(.f 0), .sl0, (.f 0), .sl0]
def job0_3 : Blk := [(.ef jom0_0), (.sl 34 0 1 (.n 1)), (.f 0), .sl0]
def job0_4 : Blk := [(.ef jom0_0), (.sl 66 0 1 (.n 1))]
def job0_5 : Blk := [(.ef jom0_0), (.sl 66 0 1 (.n 1)), (.f 0), .sl0]
def job0_6 : Blk := [(.ef jom0_0), (.sl 38 0 1 (.n 1))]
def job0_7 : Blk := [(.f 0), .sl0, (.f 0), .sl0, (.f 0), .sl0]
def job0_8 : Blk := [(.ef jom0_0), (.sl 38 0 1 (.n 1)), (.f 0), .sl0, (.f 0), .sl0]
def job0_9 : Blk := [(.ef jom0_0), (.sl 38 0 1 (.n 1)), (.ef jom0_1), (.sl 50 0 1 (.n 1)), (.f 0), .sl0]
def job0_10 : Blk := [(.ef jom0_0), (.sl 80 0 1 (.n 1))]
def job0_11 : Blk := [(.ef jom0_0), (.sl 80 0 1 (.n 1)), (.f 0), .sl0, (.f 0), .sl0]
def job0_12 : Blk := [(.ef jom0_0), (.sl 80 0 1 (.n 1)), (.ef jom0_1), (.sl 92 0 1 (.n 1)), (.f 0), .sl0]
def job0_13 : Blk := [(.ef jom0_0), (.sl 42 0 1 (.n 1))]
def job0_14 : Blk := jok0_0 ++ jok0_0
def job0_15 : Blk := [(.ef jom0_0), (.sl 42 0 1 (.n 1)), (.f 0), .sl0] ++ jok0_0
def job0_16 : Blk := jok0_1 ++ jok0_0
def job0_17 : Blk := jok0_1 ++ [(.ef jom0_12), (.sl 60 0 1 (.n 1)), (.f 0), .sl0]
def job0_18 : Blk := [(.ef (.tf jom0_19 (.lf 0) jom0_29))]
def job0_19 : Blk := [(.ef jom0_0), (.sl 94 0 1 (.n 1))]
def job0_20 : Blk := [(.ef jom0_0), (.sl 94 0 1 (.n 1)), (.f 0), .sl0] ++ jok0_0
def job0_21 : Blk := jok0_2 ++ jok0_0
def job0_22 : Blk := jok0_2 ++ [(.ef jom0_12), (.sl 112 0 1 (.n 1)), (.f 0), .sl0]
def jo0_0m0 : Memo := (⟨[(.ag [(.fn 66 [(32, 0), (31, 0)]), (.fn 69 [(32, 0), (31, 0)]), (.fn 71 [(32, 0), (31, 0)]), (.fn 73 [(32, 0), (31, 0)]), (.fn 75 [(32, 0), (31, 0)])]), (.ag [(.i .i64 1), (.i .i64 0), (.i .i64 0), (.f 0)]), (.c (.sl 35 0 1 (.n 1))), (.c (.sl 40 0 2 (.n 2)))], [(31, [(.i .i64 1)]), (32, [(.fn 47 []), (.fn 48 []), (.fn 49 []), (.fn 50 []), (.fn 51 [])]), (34, job0_0), (35, job0_1), (40, job0_2)], 42, (.ag [(.ef jom0_0), (.sl 34 0 1 (.n 1))]), [(31, [(.i .i64 1)]), (32, [(.fn 47 []), (.fn 48 []), (.fn 49 []), (.fn 50 []), (.fn 51 [])]), (34, job0_0), (35, job0_1), (40, job0_2)], 45⟩)
theorem jo0_0o0 : mok [] (lenL 1 0 8 ++ []) joN0 77 jo0_0m0 = true := by kernel_rfl
def jo0_0m1 : Memo := mkM [(.ag [(.fn 66 [(32, 0), (31, 0)]), (.fn 69 [(32, 0), (31, 0)]), (.fn 71 [(32, 0), (31, 0)]), (.fn 73 [(32, 0), (31, 0)]), (.fn 75 [(32, 0), (31, 0)])]), (.ag [(.i .i64 0), (.i .i64 0), (.i .i64 0), (.ef jom0_1)]), (.c (.sl 35 0 1 (.n 1))), (.c (.sl 40 0 2 (.n 2)))] [(31, [(.i .i64 1)]), (32, [(.fn 47 []), (.fn 48 []), (.fn 49 []), (.fn 50 []), (.fn 51 [])]), (34, job0_0), (35, job0_1), (40, job0_3)] 46 (.ag [(.ef jom0_1), (.sl 49 0 1 (.n 1))]) (49, [(.f 0)]) 51
theorem jo0_0o1 : mok [] (lenL 1 0 8 ++ []) joN0 77 jo0_0m1 = true := by kernel_rfl
def jo0_0m2 : Memo := (⟨[(.ag [(.fn 66 [(64, 0), (63, 0)]), (.fn 69 [(64, 0), (63, 0)]), (.fn 71 [(64, 0), (63, 0)]), (.fn 73 [(64, 0), (63, 0)]), (.fn 75 [(64, 0), (63, 0)])]), (.ag [(.i .i64 1), (.i .i64 0), (.i .i64 0), (.f 0)]), (.c (.sl 67 0 1 (.n 1))), (.c (.sl 72 0 2 (.n 2)))], [(63, [(.i .i64 1)]), (64, [(.fn 47 []), (.fn 48 []), (.fn 49 []), (.fn 50 []), (.fn 51 [])]), (66, job0_0), (67, job0_4), (72, job0_2)], 74, (.ag [(.ef jom0_0), (.sl 66 0 1 (.n 1))]), [(63, [(.i .i64 1)]), (64, [(.fn 47 []), (.fn 48 []), (.fn 49 []), (.fn 50 []), (.fn 51 [])]), (66, job0_0), (67, job0_4), (72, job0_2)], 77⟩)
theorem jo0_0o2 : mok [] (lenL 1 0 8 ++ []) joN0 77 jo0_0m2 = true := by kernel_rfl
def jo0_0m3 : Memo := mkM [(.ag [(.fn 66 [(64, 0), (63, 0)]), (.fn 69 [(64, 0), (63, 0)]), (.fn 71 [(64, 0), (63, 0)]), (.fn 73 [(64, 0), (63, 0)]), (.fn 75 [(64, 0), (63, 0)])]), (.ag [(.i .i64 0), (.i .i64 0), (.i .i64 0), (.ef jom0_1)]), (.c (.sl 67 0 1 (.n 1))), (.c (.sl 72 0 2 (.n 2)))] [(63, [(.i .i64 1)]), (64, [(.fn 47 []), (.fn 48 []), (.fn 49 []), (.fn 50 []), (.fn 51 [])]), (66, job0_0), (67, job0_4), (72, job0_5)] 78 (.ag [(.ef jom0_1), (.sl 81 0 1 (.n 1))]) (81, [(.f 0)]) 83
theorem jo0_0o3 : mok [] (lenL 1 0 8 ++ []) joN0 77 jo0_0m3 = true := by kernel_rfl
def jo0_0ms : List (Nat × List Memo) := [(77, [jo0_0m0, jo0_0m1, jo0_0m2, jo0_0m3])]
theorem jo0_0mo : AllMem (memRun [] (lenL 1 0 8 ++ []) joN0) jo0_0ms := ⟨⟨jo0_0o0, jo0_0o1, jo0_0o2, jo0_0o3, trivial⟩, trivial⟩
theorem jo0_0 : lawRunM 8 10 200 [.i, .q, .q, .i] [(0, 3, 0)] (lenL 1 0 8 ++ []) joN0 jo0_0ms = true := by kernel_rfl
def jo0_1m0 : Memo := (⟨[(.ag [(.fn 66 [(36, 0), (35, 0)]), (.fn 69 [(36, 0), (35, 0)]), (.fn 71 [(36, 0), (35, 0)]), (.fn 73 [(36, 0), (35, 0)]), (.fn 75 [(36, 0), (35, 0)])]), (.ag [(.i .i64 1), (.i .i64 0), (.i .i64 0), (.f 0)]), (.c (.sl 39 0 1 (.n 1))), (.c (.sl 44 0 3 (.n 3)))], [(35, [(.i .i64 1)]), (36, [(.fn 47 []), (.fn 48 []), (.fn 49 []), (.fn 50 []), (.fn 51 [])]), (38, job0_0), (39, job0_6), (44, job0_7)], 46, (.ag [(.ef jom0_0), (.sl 38 0 1 (.n 1))]), [(35, [(.i .i64 1)]), (36, [(.fn 47 []), (.fn 48 []), (.fn 49 []), (.fn 50 []), (.fn 51 [])]), (38, job0_0), (39, job0_6), (44, job0_7)], 49⟩)
theorem jo0_1o0 : mok [] (lenL 1 1 8 ++ []) joN0 77 jo0_1m0 = true := by kernel_rfl
def jo0_1m1 : Memo := mkM [(.ag [(.fn 66 [(36, 0), (35, 0)]), (.fn 69 [(36, 0), (35, 0)]), (.fn 71 [(36, 0), (35, 0)]), (.fn 73 [(36, 0), (35, 0)]), (.fn 75 [(36, 0), (35, 0)])]), (.ag [(.i .i64 0), (.i .i64 0), (.i .i64 0), (.ef jom0_1)]), (.c (.sl 39 0 1 (.n 1))), (.c (.sl 44 0 3 (.n 3)))] [(35, [(.i .i64 1)]), (36, [(.fn 47 []), (.fn 48 []), (.fn 49 []), (.fn 50 []), (.fn 51 [])]), (38, job0_0), (39, job0_6), (44, job0_8)] 50 (.ag [(.ef jom0_1), (.sl 53 0 1 (.n 1))]) (53, [(.f 0)]) 55
theorem jo0_1o1 : mok [] (lenL 1 1 8 ++ []) joN0 77 jo0_1m1 = true := by kernel_rfl
def jo0_1m2 : Memo := mkM [(.ag [(.fn 66 [(36, 0), (35, 0)]), (.fn 69 [(36, 0), (35, 0)]), (.fn 71 [(36, 0), (35, 0)]), (.fn 73 [(36, 0), (35, 0)]), (.fn 75 [(36, 0), (35, 0)])]), (.ag [(.ei .i64 (.ti jom0_2 (.li 0) jom0_5)), (.ei .i64 (.ti jom0_2 (.li 0) jom0_6)), (.ei .i64 (.ti jom0_2 (.li 0) jom0_7)), (.ef (.tf jom0_2 jom0_8 (.lf 0)))]), (.c (.sl 39 0 1 (.n 1))), (.c (.sl 44 0 3 (.n 3)))] [(35, [(.i .i64 1)]), (36, [(.fn 47 []), (.fn 48 []), (.fn 49 []), (.fn 50 []), (.fn 51 [])]), (38, job0_0), (39, job0_6), (44, job0_9), (50, [(.f 0)])] 56 (.ag [(.ef jom0_12), (.sl 59 0 1 (.n 1))]) (59, [(.ef jom0_18)]) 64
theorem jo0_1o2 : mok [] (lenL 1 1 8 ++ []) joN0 77 jo0_1m2 = true := by kernel_rfl
def jo0_1m3 : Memo := (⟨[(.ag [(.fn 66 [(78, 0), (77, 0)]), (.fn 69 [(78, 0), (77, 0)]), (.fn 71 [(78, 0), (77, 0)]), (.fn 73 [(78, 0), (77, 0)]), (.fn 75 [(78, 0), (77, 0)])]), (.ag [(.i .i64 1), (.i .i64 0), (.i .i64 0), (.f 0)]), (.c (.sl 81 0 1 (.n 1))), (.c (.sl 86 0 3 (.n 3)))], [(77, [(.i .i64 1)]), (78, [(.fn 47 []), (.fn 48 []), (.fn 49 []), (.fn 50 []), (.fn 51 [])]), (80, job0_0), (81, job0_10), (86, job0_7)], 88, (.ag [(.ef jom0_0), (.sl 80 0 1 (.n 1))]), [(77, [(.i .i64 1)]), (78, [(.fn 47 []), (.fn 48 []), (.fn 49 []), (.fn 50 []), (.fn 51 [])]), (80, job0_0), (81, job0_10), (86, job0_7)], 91⟩)
theorem jo0_1o3 : mok [] (lenL 1 1 8 ++ []) joN0 77 jo0_1m3 = true := by kernel_rfl
def jo0_1m4 : Memo := mkM [(.ag [(.fn 66 [(78, 0), (77, 0)]), (.fn 69 [(78, 0), (77, 0)]), (.fn 71 [(78, 0), (77, 0)]), (.fn 73 [(78, 0), (77, 0)]), (.fn 75 [(78, 0), (77, 0)])]), (.ag [(.i .i64 0), (.i .i64 0), (.i .i64 0), (.ef jom0_1)]), (.c (.sl 81 0 1 (.n 1))), (.c (.sl 86 0 3 (.n 3)))] [(77, [(.i .i64 1)]), (78, [(.fn 47 []), (.fn 48 []), (.fn 49 []), (.fn 50 []), (.fn 51 [])]), (80, job0_0), (81, job0_10), (86, job0_11)] 92 (.ag [(.ef jom0_1), (.sl 95 0 1 (.n 1))]) (95, [(.f 0)]) 97
theorem jo0_1o4 : mok [] (lenL 1 1 8 ++ []) joN0 77 jo0_1m4 = true := by kernel_rfl
def jo0_1m5 : Memo := mkM [(.ag [(.fn 66 [(78, 0), (77, 0)]), (.fn 69 [(78, 0), (77, 0)]), (.fn 71 [(78, 0), (77, 0)]), (.fn 73 [(78, 0), (77, 0)]), (.fn 75 [(78, 0), (77, 0)])]), (.ag [(.ei .i64 (.ti jom0_2 (.li 0) jom0_5)), (.ei .i64 (.ti jom0_2 (.li 0) jom0_6)), (.ei .i64 (.ti jom0_2 (.li 0) jom0_7)), (.ef (.tf jom0_2 jom0_8 (.lf 0)))]), (.c (.sl 81 0 1 (.n 1))), (.c (.sl 86 0 3 (.n 3)))] [(77, [(.i .i64 1)]), (78, [(.fn 47 []), (.fn 48 []), (.fn 49 []), (.fn 50 []), (.fn 51 [])]), (80, job0_0), (81, job0_10), (86, job0_12), (92, [(.f 0)])] 98 (.ag [(.ef jom0_12), (.sl 101 0 1 (.n 1))]) (101, [(.ef jom0_18)]) 106
theorem jo0_1o5 : mok [] (lenL 1 1 8 ++ []) joN0 77 jo0_1m5 = true := by kernel_rfl
def jo0_1m6 : Memo := (⟨[(.c (.ei .i64 jom0_5)), (.c (.ef (.tf jom0_13 jom0_0 jom0_1))), (.c (.ef (.tf jom0_15 jom0_0 jom0_1))), (.c (.ef jom0_11)), (.c (.ef jom0_14)), (.c (.ef jom0_16))], [], 130, (.c (.ef jom0_17)), [], 130⟩)
theorem jo0_1o6 : mok [] (lenL 1 1 8 ++ []) joN0 36 jo0_1m6 = true := by kernel_rfl
def jo0_1ms : List (Nat × List Memo) := [(77, [jo0_1m0, jo0_1m1, jo0_1m2, jo0_1m3, jo0_1m4, jo0_1m5]), (36, [jo0_1m6])]
theorem jo0_1mo : AllMem (memRun [] (lenL 1 1 8 ++ []) joN0) jo0_1ms := ⟨⟨jo0_1o0, jo0_1o1, jo0_1o2, jo0_1o3, jo0_1o4, jo0_1o5, trivial⟩, ⟨jo0_1o6, trivial⟩, trivial⟩
theorem jo0_1 : lawRunM 8 10 200 [.i, .q, .q, .i] [(0, 3, 0)] (lenL 1 1 8 ++ []) joN0 jo0_1ms = true := by kernel_rfl
def jo0_2m0 : Memo := (⟨[(.ag [(.fn 66 [(40, 0), (39, 0)]), (.fn 69 [(40, 0), (39, 0)]), (.fn 71 [(40, 0), (39, 0)]), (.fn 73 [(40, 0), (39, 0)]), (.fn 75 [(40, 0), (39, 0)])]), (.ag [(.i .i64 1), (.i .i64 0), (.i .i64 0), (.f 0)]), (.c (.sl 43 0 1 (.n 1))), (.c (.sl 48 0 4 (.n 4)))], [(39, [(.i .i64 1)]), (40, [(.fn 47 []), (.fn 48 []), (.fn 49 []), (.fn 50 []), (.fn 51 [])]), (42, job0_0), (43, job0_13), (48, job0_14)], 50, (.ag [(.ef jom0_0), (.sl 42 0 1 (.n 1))]), [(39, [(.i .i64 1)]), (40, [(.fn 47 []), (.fn 48 []), (.fn 49 []), (.fn 50 []), (.fn 51 [])]), (42, job0_0), (43, job0_13), (48, job0_14)], 53⟩)
theorem jo0_2o0 : mok [] (lenL 1 2 8 ++ []) joN0 77 jo0_2m0 = true := by kernel_rfl
def jo0_2m1 : Memo := mkM [(.ag [(.fn 66 [(40, 0), (39, 0)]), (.fn 69 [(40, 0), (39, 0)]), (.fn 71 [(40, 0), (39, 0)]), (.fn 73 [(40, 0), (39, 0)]), (.fn 75 [(40, 0), (39, 0)])]), (.ag [(.i .i64 0), (.i .i64 0), (.i .i64 0), (.ef jom0_1)]), (.c (.sl 43 0 1 (.n 1))), (.c (.sl 48 0 4 (.n 4)))] [(39, [(.i .i64 1)]), (40, [(.fn 47 []), (.fn 48 []), (.fn 49 []), (.fn 50 []), (.fn 51 [])]), (42, job0_0), (43, job0_13), (48, job0_15)] 54 (.ag [(.ef jom0_1), (.sl 57 0 1 (.n 1))]) (57, [(.f 0)]) 59
theorem jo0_2o1 : mok [] (lenL 1 2 8 ++ []) joN0 77 jo0_2m1 = true := by kernel_rfl
def jo0_2m2 : Memo := mkM [(.ag [(.fn 66 [(40, 0), (39, 0)]), (.fn 69 [(40, 0), (39, 0)]), (.fn 71 [(40, 0), (39, 0)]), (.fn 73 [(40, 0), (39, 0)]), (.fn 75 [(40, 0), (39, 0)])]), (.ag [(.ei .i64 (.ti jom0_2 (.li 0) jom0_5)), (.ei .i64 (.ti jom0_2 (.li 0) jom0_6)), (.ei .i64 (.ti jom0_2 (.li 0) jom0_7)), (.ef (.tf jom0_2 jom0_8 (.lf 0)))]), (.c (.sl 43 0 1 (.n 1))), (.c (.sl 48 0 4 (.n 4)))] [(39, [(.i .i64 1)]), (40, [(.fn 47 []), (.fn 48 []), (.fn 49 []), (.fn 50 []), (.fn 51 [])]), (42, job0_0), (43, job0_13), (48, job0_16), (54, [(.f 0)])] 60 (.ag [(.ef jom0_12), (.sl 63 0 1 (.n 1))]) (63, [(.ef jom0_18)]) 68
theorem jo0_2o2 : mok [] (lenL 1 2 8 ++ []) joN0 77 jo0_2m2 = true := by kernel_rfl
def jo0_2m3 : Memo := mkM [(.ag [(.fn 66 [(40, 0), (39, 0)]), (.fn 69 [(40, 0), (39, 0)]), (.fn 71 [(40, 0), (39, 0)]), (.fn 73 [(40, 0), (39, 0)]), (.fn 75 [(40, 0), (39, 0)])]), (.ag [(.ei .i64 (.ti jom0_19 (.li 0) jom0_22)), (.ei .i64 (.ti jom0_19 (.li 0) jom0_23)), (.ei .i64 (.ti jom0_19 (.li 0) jom0_24)), (.ef (.tf jom0_19 jom0_25 (.lf 0)))]), (.c (.sl 43 0 1 (.n 1))), (.c (.sl 48 0 4 (.n 4)))] [(39, [(.i .i64 1)]), (40, [(.fn 47 []), (.fn 48 []), (.fn 49 []), (.fn 50 []), (.fn 51 [])]), (42, job0_0), (43, job0_13), (48, job0_17), (54, [(.f 0)]), (60, [(.ef jom0_18)])] 69 (.ag [(.ef (.tf jom0_19 jom0_25 jom0_28)), (.sl 72 0 1 (.n 1))]) (72, job0_18) 77
theorem jo0_2o3 : mok [] (lenL 1 2 8 ++ []) joN0 77 jo0_2m3 = true := by kernel_rfl
def jo0_2m4 : Memo := (⟨[(.ag [(.fn 66 [(92, 0), (91, 0)]), (.fn 69 [(92, 0), (91, 0)]), (.fn 71 [(92, 0), (91, 0)]), (.fn 73 [(92, 0), (91, 0)]), (.fn 75 [(92, 0), (91, 0)])]), (.ag [(.i .i64 1), (.i .i64 0), (.i .i64 0), (.f 0)]), (.c (.sl 95 0 1 (.n 1))), (.c (.sl 100 0 4 (.n 4)))], [(91, [(.i .i64 1)]), (92, [(.fn 47 []), (.fn 48 []), (.fn 49 []), (.fn 50 []), (.fn 51 [])]), (94, job0_0), (95, job0_19), (100, job0_14)], 102, (.ag [(.ef jom0_0), (.sl 94 0 1 (.n 1))]), [(91, [(.i .i64 1)]), (92, [(.fn 47 []), (.fn 48 []), (.fn 49 []), (.fn 50 []), (.fn 51 [])]), (94, job0_0), (95, job0_19), (100, job0_14)], 105⟩)
theorem jo0_2o4 : mok [] (lenL 1 2 8 ++ []) joN0 77 jo0_2m4 = true := by kernel_rfl
def jo0_2m5 : Memo := mkM [(.ag [(.fn 66 [(92, 0), (91, 0)]), (.fn 69 [(92, 0), (91, 0)]), (.fn 71 [(92, 0), (91, 0)]), (.fn 73 [(92, 0), (91, 0)]), (.fn 75 [(92, 0), (91, 0)])]), (.ag [(.i .i64 0), (.i .i64 0), (.i .i64 0), (.ef jom0_1)]), (.c (.sl 95 0 1 (.n 1))), (.c (.sl 100 0 4 (.n 4)))] [(91, [(.i .i64 1)]), (92, [(.fn 47 []), (.fn 48 []), (.fn 49 []), (.fn 50 []), (.fn 51 [])]), (94, job0_0), (95, job0_19), (100, job0_20)] 106 (.ag [(.ef jom0_1), (.sl 109 0 1 (.n 1))]) (109, [(.f 0)]) 111
theorem jo0_2o5 : mok [] (lenL 1 2 8 ++ []) joN0 77 jo0_2m5 = true := by kernel_rfl
def jo0_2m6 : Memo := mkM [(.ag [(.fn 66 [(92, 0), (91, 0)]), (.fn 69 [(92, 0), (91, 0)]), (.fn 71 [(92, 0), (91, 0)]), (.fn 73 [(92, 0), (91, 0)]), (.fn 75 [(92, 0), (91, 0)])]), (.ag [(.ei .i64 (.ti jom0_2 (.li 0) jom0_5)), (.ei .i64 (.ti jom0_2 (.li 0) jom0_6)), (.ei .i64 (.ti jom0_2 (.li 0) jom0_7)), (.ef (.tf jom0_2 jom0_8 (.lf 0)))]), (.c (.sl 95 0 1 (.n 1))), (.c (.sl 100 0 4 (.n 4)))] [(91, [(.i .i64 1)]), (92, [(.fn 47 []), (.fn 48 []), (.fn 49 []), (.fn 50 []), (.fn 51 [])]), (94, job0_0), (95, job0_19), (100, job0_21), (106, [(.f 0)])] 112 (.ag [(.ef jom0_12), (.sl 115 0 1 (.n 1))]) (115, [(.ef jom0_18)]) 120
theorem jo0_2o6 : mok [] (lenL 1 2 8 ++ []) joN0 77 jo0_2m6 = true := by kernel_rfl
def jo0_2m7 : Memo := mkM [(.ag [(.fn 66 [(92, 0), (91, 0)]), (.fn 69 [(92, 0), (91, 0)]), (.fn 71 [(92, 0), (91, 0)]), (.fn 73 [(92, 0), (91, 0)]), (.fn 75 [(92, 0), (91, 0)])]), (.ag [(.ei .i64 (.ti jom0_19 (.li 0) jom0_22)), (.ei .i64 (.ti jom0_19 (.li 0) jom0_23)), (.ei .i64 (.ti jom0_19 (.li 0) jom0_24)), (.ef (.tf jom0_19 jom0_25 (.lf 0)))]), (.c (.sl 95 0 1 (.n 1))), (.c (.sl 100 0 4 (.n 4)))] [(91, [(.i .i64 1)]), (92, [(.fn 47 []), (.fn 48 []), (.fn 49 []), (.fn 50 []), (.fn 51 [])]), (94, job0_0), (95, job0_19), (100, job0_22), (106, [(.f 0)]), (112, [(.ef jom0_18)])] 121 (.ag [(.ef (.tf jom0_19 jom0_25 jom0_28)), (.sl 124 0 1 (.n 1))]) (124, job0_18) 129
theorem jo0_2o7 : mok [] (lenL 1 2 8 ++ []) joN0 77 jo0_2m7 = true := by kernel_rfl
def jo0_2m8 : Memo := (⟨[(.c (.ei .i64 jom0_5)), (.c (.ef (.tf jom0_13 jom0_0 jom0_1))), (.c (.ef (.tf jom0_15 jom0_0 jom0_1))), (.c (.ef jom0_11)), (.c (.ef jom0_14)), (.c (.ef jom0_16))], [], 156, (.c (.ef jom0_17)), [], 156⟩)
theorem jo0_2o8 : mok [] (lenL 1 2 8 ++ []) joN0 36 jo0_2m8 = true := by kernel_rfl
def jo0_2m9 : Memo := (⟨[(.c (.ei .i64 jom0_22)), (.c (.ef (.tf jom0_30 jom0_0 (.tf jom0_31 jom0_1 jom0_12)))), (.c (.ef (.tf jom0_32 jom0_0 (.tf jom0_33 jom0_1 jom0_12)))), (.c (.ef jom0_28)), (.c (.ef (.tf jom0_30 (.lf 4607182418800017408) (.tf jom0_31 (.lf 0) jom0_18)))), (.c (.ef (.tf jom0_32 (.lf 4607182418800017408) (.tf jom0_33 (.lf 0) jom0_18))))], [], 158, (.c (.ef jom0_29)), [], 158⟩)
theorem jo0_2o9 : mok [] (lenL 1 2 8 ++ []) joN0 36 jo0_2m9 = true := by kernel_rfl
def jo0_2ms : List (Nat × List Memo) := [(77, [jo0_2m0, jo0_2m1, jo0_2m2, jo0_2m3, jo0_2m4, jo0_2m5, jo0_2m6, jo0_2m7]), (36, [jo0_2m8, jo0_2m9])]
theorem jo0_2mo : AllMem (memRun [] (lenL 1 2 8 ++ []) joN0) jo0_2ms := ⟨⟨jo0_2o0, jo0_2o1, jo0_2o2, jo0_2o3, jo0_2o4, jo0_2o5, jo0_2o6, jo0_2o7, trivial⟩, ⟨jo0_2o8, jo0_2o9, trivial⟩, trivial⟩
theorem jo0_2 : lawRunM 8 10 200 [.i, .q, .q, .i] [(0, 3, 0)] (lenL 1 2 8 ++ []) joN0 jo0_2ms = true := by kernel_rfl
end Go.Proofs.Ytlgifofnejncpaa
