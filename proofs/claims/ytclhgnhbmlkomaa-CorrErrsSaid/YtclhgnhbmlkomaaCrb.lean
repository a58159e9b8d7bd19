/-
  What a step adds: why nothing is.
-/
import Derived.Test.YtclhgnhbmlkomaaCra
namespace Go.Proofs.Ytclhgnhbmlkomaa
open Go.RowKit Ex

set_option maxRecDepth 1000000 in
set_option maxHeartbeats 100000000 in
theorem known9 : good (xcall Try.prog (ctr []) [] 1000000 40 14 [] .nil 0) = true := by kernel_rfl
set_option maxRecDepth 1000000 in
set_option maxHeartbeats 100000000 in
theorem errs_0 : good (xcall Try.prog (ctrK 14 [(0, 4, 0)]) [] 1000000 40 8 [.c (.ei .i64 (.vi 0)), .c (.ei .i64 (.vi 1))] .nil 0) = true := by kernel_rfl
set_option maxRecDepth 1000000 in
set_option maxHeartbeats 100000000 in
theorem errs_1 : good (xcall Try.prog (ctrK 14 [(0, 4, 1)]) [] 1000000 40 8 [.c (.ei .i64 (.vi 0)), .c (.ei .i64 (.vi 1))] .nil 0) = true := by kernel_rfl
set_option maxRecDepth 1000000 in
set_option maxHeartbeats 100000000 in
theorem errs_2 : good (xcall Try.prog (ctrK 14 [(0, 4, 2)]) [] 1000000 40 8 [.c (.ei .i64 (.vi 0)), .c (.ei .i64 (.vi 1))] .nil 0) = true := by kernel_rfl
set_option maxRecDepth 1000000 in
set_option maxHeartbeats 100000000 in
theorem errs_3_0 : good (xcall Try.prog (ctrK 14 [(0, 4, 3), (1, 31, 0)]) [] 1000000 40 8 [.c (.ei .i64 (.vi 0)), .c (.ei .i64 (.vi 1))] .nil 0) = true := by kernel_rfl
set_option maxRecDepth 1000000 in
set_option maxHeartbeats 100000000 in
theorem errs_3_1 : good (xcall Try.prog (ctrK 14 [(0, 4, 3), (1, 31, 1)]) [] 1000000 40 8 [.c (.ei .i64 (.vi 0)), .c (.ei .i64 (.vi 1))] .nil 0) = true := by kernel_rfl
set_option maxRecDepth 1000000 in
set_option maxHeartbeats 100000000 in
theorem errs_3_2 : good (xcall Try.prog (ctrK 14 [(0, 4, 3), (1, 31, 2)]) [] 1000000 40 8 [.c (.ei .i64 (.vi 0)), .c (.ei .i64 (.vi 1))] .nil 0) = true := by kernel_rfl
set_option maxRecDepth 1000000 in
set_option maxHeartbeats 100000000 in
theorem errs_3_3 : good (xcall Try.prog (ctrK 14 [(0, 4, 3), (1, 31, 3)]) [] 1000000 40 8 [.c (.ei .i64 (.vi 0)), .c (.ei .i64 (.vi 1))] .nil 0) = true := by kernel_rfl
set_option maxRecDepth 1000000 in
set_option maxHeartbeats 100000000 in
theorem errs_3_4 : good (xcall Try.prog (ctrK 14 [(0, 4, 3), (1, 31, 4)]) [] 1000000 40 8 [.c (.ei .i64 (.vi 0)), .c (.ei .i64 (.vi 1))] .nil 0) = true := by kernel_rfl
set_option maxRecDepth 1000000 in
set_option maxHeartbeats 100000000 in
theorem errs_3_5 : good (xcall Try.prog (ctrK 14 [(0, 4, 3), (1, 31, 5)]) [] 1000000 40 8 [.c (.ei .i64 (.vi 0)), .c (.ei .i64 (.vi 1))] .nil 0) = true := by kernel_rfl
set_option maxRecDepth 1000000 in
set_option maxHeartbeats 100000000 in
theorem errs_3_6 : good (xcall Try.prog (ctrK 14 [(0, 4, 3), (1, 31, 6)]) [] 1000000 40 8 [.c (.ei .i64 (.vi 0)), .c (.ei .i64 (.vi 1))] .nil 0) = true := by kernel_rfl
set_option maxRecDepth 1000000 in
set_option maxHeartbeats 100000000 in
theorem errs_3_7 : good (xcall Try.prog (ctrK 14 [(0, 4, 3), (1, 31, 7)]) [] 1000000 40 8 [.c (.ei .i64 (.vi 0)), .c (.ei .i64 (.vi 1))] .nil 0) = true := by kernel_rfl
set_option maxRecDepth 1000000 in
set_option maxHeartbeats 100000000 in
theorem errs_3_8 : good (xcall Try.prog (ctrK 14 [(0, 4, 3), (1, 31, 8)]) [] 1000000 40 8 [.c (.ei .i64 (.vi 0)), .c (.ei .i64 (.vi 1))] .nil 0) = true := by kernel_rfl
set_option maxRecDepth 1000000 in
set_option maxHeartbeats 100000000 in
theorem errs_3_9 : good (xcall Try.prog (ctrK 14 [(0, 4, 3), (1, 31, 9)]) [] 1000000 40 8 [.c (.ei .i64 (.vi 0)), .c (.ei .i64 (.vi 1))] .nil 0) = true := by kernel_rfl
set_option maxRecDepth 1000000 in
set_option maxHeartbeats 100000000 in
theorem errs_3_10 : good (xcall Try.prog (ctrK 14 [(0, 4, 3), (1, 31, 10)]) [] 1000000 40 8 [.c (.ei .i64 (.vi 0)), .c (.ei .i64 (.vi 1))] .nil 0) = true := by kernel_rfl
set_option maxRecDepth 1000000 in
set_option maxHeartbeats 100000000 in
theorem errs_3_11 : good (xcall Try.prog (ctrK 14 [(0, 4, 3), (1, 31, 11)]) [] 1000000 40 8 [.c (.ei .i64 (.vi 0)), .c (.ei .i64 (.vi 1))] .nil 0) = true := by kernel_rfl
set_option maxRecDepth 1000000 in
set_option maxHeartbeats 100000000 in
theorem errs_3_12 : good (xcall Try.prog (ctrK 14 [(0, 4, 3), (1, 31, 12)]) [] 1000000 40 8 [.c (.ei .i64 (.vi 0)), .c (.ei .i64 (.vi 1))] .nil 0) = true := by kernel_rfl
set_option maxRecDepth 1000000 in
set_option maxHeartbeats 100000000 in
theorem errs_3_13 : good (xcall Try.prog (ctrK 14 [(0, 4, 3), (1, 31, 13)]) [] 1000000 40 8 [.c (.ei .i64 (.vi 0)), .c (.ei .i64 (.vi 1))] .nil 0) = true := by kernel_rfl
set_option maxRecDepth 1000000 in
set_option maxHeartbeats 100000000 in
theorem errs_3_14 : good (xcall Try.prog (ctrK 14 [(0, 4, 3), (1, 31, 14)]) [] 1000000 40 8 [.c (.ei .i64 (.vi 0)), .c (.ei .i64 (.vi 1))] .nil 0) = true := by kernel_rfl
set_option maxRecDepth 1000000 in
set_option maxHeartbeats 100000000 in
theorem errs_3_15 : good (xcall Try.prog (ctrK 14 [(0, 4, 3), (1, 31, 15)]) [] 1000000 40 8 [.c (.ei .i64 (.vi 0)), .c (.ei .i64 (.vi 1))] .nil 0) = true := by kernel_rfl
set_option maxRecDepth 1000000 in
set_option maxHeartbeats 100000000 in
theorem errs_3_16 : good (xcall Try.prog (ctrK 14 [(0, 4, 3), (1, 31, 16)]) [] 1000000 40 8 [.c (.ei .i64 (.vi 0)), .c (.ei .i64 (.vi 1))] .nil 0) = true := by kernel_rfl
set_option maxRecDepth 1000000 in
set_option maxHeartbeats 100000000 in
theorem errs_3_17 : good (xcall Try.prog (ctrK 14 [(0, 4, 3), (1, 31, 17)]) [] 1000000 40 8 [.c (.ei .i64 (.vi 0)), .c (.ei .i64 (.vi 1))] .nil 0) = true := by kernel_rfl
set_option maxRecDepth 1000000 in
set_option maxHeartbeats 100000000 in
theorem errs_3_18 : good (xcall Try.prog (ctrK 14 [(0, 4, 3), (1, 31, 18)]) [] 1000000 40 8 [.c (.ei .i64 (.vi 0)), .c (.ei .i64 (.vi 1))] .nil 0) = true := by kernel_rfl
set_option maxRecDepth 1000000 in
set_option maxHeartbeats 100000000 in
theorem errs_3_19 : good (xcall Try.prog (ctrK 14 [(0, 4, 3), (1, 31, 19)]) [] 1000000 40 8 [.c (.ei .i64 (.vi 0)), .c (.ei .i64 (.vi 1))] .nil 0) = true := by kernel_rfl
set_option maxRecDepth 1000000 in
set_option maxHeartbeats 100000000 in
theorem errs_3_20 : good (xcall Try.prog (ctrK 14 [(0, 4, 3), (1, 31, 20)]) [] 1000000 40 8 [.c (.ei .i64 (.vi 0)), .c (.ei .i64 (.vi 1))] .nil 0) = true := by kernel_rfl
set_option maxRecDepth 1000000 in
set_option maxHeartbeats 100000000 in
theorem errs_3_21 : good (xcall Try.prog (ctrK 14 [(0, 4, 3), (1, 31, 21)]) [] 1000000 40 8 [.c (.ei .i64 (.vi 0)), .c (.ei .i64 (.vi 1))] .nil 0) = true := by kernel_rfl
set_option maxRecDepth 1000000 in
set_option maxHeartbeats 100000000 in
theorem errs_3_22 : good (xcall Try.prog (ctrK 14 [(0, 4, 3), (1, 31, 22)]) [] 1000000 40 8 [.c (.ei .i64 (.vi 0)), .c (.ei .i64 (.vi 1))] .nil 0) = true := by kernel_rfl
set_option maxRecDepth 1000000 in
set_option maxHeartbeats 100000000 in
theorem errs_3_23 : good (xcall Try.prog (ctrK 14 [(0, 4, 3), (1, 31, 23)]) [] 1000000 40 8 [.c (.ei .i64 (.vi 0)), .c (.ei .i64 (.vi 1))] .nil 0) = true := by kernel_rfl
set_option maxRecDepth 1000000 in
set_option maxHeartbeats 100000000 in
theorem errs_3_24 : good (xcall Try.prog (ctrK 14 [(0, 4, 3), (1, 31, 24)]) [] 1000000 40 8 [.c (.ei .i64 (.vi 0)), .c (.ei .i64 (.vi 1))] .nil 0) = true := by kernel_rfl
set_option maxRecDepth 1000000 in
set_option maxHeartbeats 100000000 in
theorem errs_3_25 : good (xcall Try.prog (ctrK 14 [(0, 4, 3), (1, 31, 25)]) [] 1000000 40 8 [.c (.ei .i64 (.vi 0)), .c (.ei .i64 (.vi 1))] .nil 0) = true := by kernel_rfl
set_option maxRecDepth 1000000 in
set_option maxHeartbeats 100000000 in
theorem errs_3_26 : good (xcall Try.prog (ctrK 14 [(0, 4, 3), (1, 31, 26)]) [] 1000000 40 8 [.c (.ei .i64 (.vi 0)), .c (.ei .i64 (.vi 1))] .nil 0) = true := by kernel_rfl
set_option maxRecDepth 1000000 in
set_option maxHeartbeats 100000000 in
theorem errs_3_27 : good (xcall Try.prog (ctrK 14 [(0, 4, 3), (1, 31, 27)]) [] 1000000 40 8 [.c (.ei .i64 (.vi 0)), .c (.ei .i64 (.vi 1))] .nil 0) = true := by kernel_rfl
set_option maxRecDepth 1000000 in
set_option maxHeartbeats 100000000 in
theorem errs_3_28 : good (xcall Try.prog (ctrK 14 [(0, 4, 3), (1, 31, 28)]) [] 1000000 40 8 [.c (.ei .i64 (.vi 0)), .c (.ei .i64 (.vi 1))] .nil 0) = true := by kernel_rfl
set_option maxRecDepth 1000000 in
set_option maxHeartbeats 100000000 in
theorem errs_3_29 : good (xcall Try.prog (ctrK 14 [(0, 4, 3), (1, 31, 29)]) [] 1000000 40 8 [.c (.ei .i64 (.vi 0)), .c (.ei .i64 (.vi 1))] .nil 0) = true := by kernel_rfl
set_option maxRecDepth 1000000 in
set_option maxHeartbeats 100000000 in
theorem errs_3_30 : good (xcall Try.prog (ctrK 14 [(0, 4, 3), (1, 31, 30)]) [] 1000000 40 8 [.c (.ei .i64 (.vi 0)), .c (.ei .i64 (.vi 1))] .nil 0) = true := by kernel_rfl
theorem corrErrs_any (a b : Int) (w : World) (_h : -9223372036854775808 ≤ a ∧ a ≤ 9223372036854775807) (_h2 : -9223372036854775808 ≤ b ∧ b ≤ 9223372036854775807) : Calls Try.prog 8 #[.int .i64 a, .int .i64 b] w fun e w' => e = .returned (.bool true) ∧ Below w.heap.size w w' := by
  have hargs : All2 (VR (V3 a b 0) fun _ => none) [.c (.ei .i64 (.vi 0)), .c (.ei .i64 (.vi 1))] (#[.int .i64 a, .int .i64 b] : Array Value).toList := ⟨rfl, rfl, trivial⟩
  obtain ⟨k, hk, he⟩ := emod_cases a 4 (by decide)
  match k, hk, he with
  | 0, _, he => exact law_runK known9 (V := V3 a b 0) (tab1 he) errs_0 hargs w
  | 1, _, he => exact law_runK known9 (V := V3 a b 0) (tab1 he) errs_1 hargs w
  | 2, _, he => exact law_runK known9 (V := V3 a b 0) (tab1 he) errs_2 hargs w
  | 3, _, he =>
    obtain ⟨s, hs, he2⟩ := emod_cases b 31 (by decide)
    match s, hs, he2 with
    | 0, _, he2 => exact law_runK known9 (V := V3 a b 0) (tab2 he he2) errs_3_0 hargs w
    | 1, _, he2 => exact law_runK known9 (V := V3 a b 0) (tab2 he he2) errs_3_1 hargs w
    | 2, _, he2 => exact law_runK known9 (V := V3 a b 0) (tab2 he he2) errs_3_2 hargs w
    | 3, _, he2 => exact law_runK known9 (V := V3 a b 0) (tab2 he he2) errs_3_3 hargs w
    | 4, _, he2 => exact law_runK known9 (V := V3 a b 0) (tab2 he he2) errs_3_4 hargs w
    | 5, _, he2 => exact law_runK known9 (V := V3 a b 0) (tab2 he he2) errs_3_5 hargs w
    | 6, _, he2 => exact law_runK known9 (V := V3 a b 0) (tab2 he he2) errs_3_6 hargs w
    | 7, _, he2 => exact law_runK known9 (V := V3 a b 0) (tab2 he he2) errs_3_7 hargs w
    | 8, _, he2 => exact law_runK known9 (V := V3 a b 0) (tab2 he he2) errs_3_8 hargs w
    | 9, _, he2 => exact law_runK known9 (V := V3 a b 0) (tab2 he he2) errs_3_9 hargs w
    | 10, _, he2 => exact law_runK known9 (V := V3 a b 0) (tab2 he he2) errs_3_10 hargs w
    | 11, _, he2 => exact law_runK known9 (V := V3 a b 0) (tab2 he he2) errs_3_11 hargs w
    | 12, _, he2 => exact law_runK known9 (V := V3 a b 0) (tab2 he he2) errs_3_12 hargs w
    | 13, _, he2 => exact law_runK known9 (V := V3 a b 0) (tab2 he he2) errs_3_13 hargs w
    | 14, _, he2 => exact law_runK known9 (V := V3 a b 0) (tab2 he he2) errs_3_14 hargs w
    | 15, _, he2 => exact law_runK known9 (V := V3 a b 0) (tab2 he he2) errs_3_15 hargs w
    | 16, _, he2 => exact law_runK known9 (V := V3 a b 0) (tab2 he he2) errs_3_16 hargs w
    | 17, _, he2 => exact law_runK known9 (V := V3 a b 0) (tab2 he he2) errs_3_17 hargs w
    | 18, _, he2 => exact law_runK known9 (V := V3 a b 0) (tab2 he he2) errs_3_18 hargs w
    | 19, _, he2 => exact law_runK known9 (V := V3 a b 0) (tab2 he he2) errs_3_19 hargs w
    | 20, _, he2 => exact law_runK known9 (V := V3 a b 0) (tab2 he he2) errs_3_20 hargs w
    | 21, _, he2 => exact law_runK known9 (V := V3 a b 0) (tab2 he he2) errs_3_21 hargs w
    | 22, _, he2 => exact law_runK known9 (V := V3 a b 0) (tab2 he he2) errs_3_22 hargs w
    | 23, _, he2 => exact law_runK known9 (V := V3 a b 0) (tab2 he he2) errs_3_23 hargs w
    | 24, _, he2 => exact law_runK known9 (V := V3 a b 0) (tab2 he he2) errs_3_24 hargs w
    | 25, _, he2 => exact law_runK known9 (V := V3 a b 0) (tab2 he he2) errs_3_25 hargs w
    | 26, _, he2 => exact law_runK known9 (V := V3 a b 0) (tab2 he he2) errs_3_26 hargs w
    | 27, _, he2 => exact law_runK known9 (V := V3 a b 0) (tab2 he he2) errs_3_27 hargs w
    | 28, _, he2 => exact law_runK known9 (V := V3 a b 0) (tab2 he he2) errs_3_28 hargs w
    | 29, _, he2 => exact law_runK known9 (V := V3 a b 0) (tab2 he he2) errs_3_29 hargs w
    | 30, _, he2 => exact law_runK known9 (V := V3 a b 0) (tab2 he he2) errs_3_30 hargs w
    | n + 31, hs, _ => omega
  | n + 4, hk, _ => omega
end Go.Proofs.Ytclhgnhbmlkomaa
