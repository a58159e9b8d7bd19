/-
  The greatest, the worst of numbers that a function tells, walked.
-/
import Derived.Test.YtnlbafjmbamoeaaHlp
import Derived.Test.YtnlbafjmbamoeaaHg
import Derived.StillTailTactics
import Derived.Deep.QuietTactic
import Derived.BigQuiet
import Derived.RegionTactic
namespace Go.Proofs.Ytnlbafjmbamoeaa
open Go.RowKit
open Ieee (double)
attribute [local go_sem] alloc_drewN setCell_drewN call_bits call_frombits ord_lt ord_eq ord_gt ord_ne ord_le ord_ge eqB_self run_fadd run_fsub run_fmul run_fquo haStoreFlt

/-- The greatest of the first so many: it begins with the first one; 0 of none. -/
def grF (x : Nat → Nat) : Nat → Nat
  | 0 => 0
  | k + 1 => if k = 0 then x 0 else if ltB (grF x k) (x k) then x k else grF x k
/-- Whether one of the first so many is no number. -/
def nanF (x : Nat → Nat) : Nat → Bool
  | 0 => false
  | k + 1 => nanF x k || isN (x k)
/-- The worst: infinity, if one is no number. -/
def worstF (x : Nat → Nat) (n : Nat) : Nat := if nanF x n then 9218868437227405312 else grF x n
theorem isN_of_canon {y c : Nat} (h : canon y = c) : isN y = isN c := by rw [← h, isN_canon]
set_option maxRecDepth 100000 in
set_option maxHeartbeats 2000000 in
theorem greatest_tells (fn : Nat) (c1 c2 : Value) (n : Nat) (hn : n ≤ 9223372036854775807) (x : Nat → Nat) (I : Nat → World → Prop) (w : World) (hI : I 0 w) (hf : ∀ args W, (callFunc fn args).run Try.prog W = .ok (.enter fn args) W)
    (hc : ∀ i W, i < n → I i W → Calls Try.prog fn #[.int .i64 i, c1, c2] W fun e W' => (∃ y, e = .returned (.float .f64 y) ∧ canon y = x i ∧ y < 18446744073709551616) ∧ I (i + 1) W') :
    Calls Try.prog 55 #[.int .i64 n, .func (.func fn) #[] #[c1, c2]] w fun e w' => (∃ y, e = .returned (.float .f64 y) ∧ canon y = grF x n ∧ y < 18446744073709551616) ∧ I n w' := by
  have HC := Lib.hid hc
  have HI := Lib.hid hI
  clear hc hI
  go_enter Try.func55, Try.ntmps55
  by_cases h0 : n = 0
  · subst h0
    go_wp2_with fail
    go_ret
    exact ⟨⟨0, rfl, rfl, by decide⟩, HI.out⟩
  · have hc0 := HC.out 0 w (by omega) HI.out
    go_wp2_with fail
    refine hc0.mono ?_
    rintro e w1 ⟨⟨y, rfl, y1, y2⟩, hi1⟩
    have HI1 := Lib.hid hi1
    clear hi1 hc0
    go_wp2_with fail
    go_loopw [5, 6] (fun g i wr => ∃ (d z : Nat), 1 ≤ d ∧ d ≤ n ∧ i = .int .i64 d ∧ g = .float .f64 z ∧ canon z = grF x d ∧ z < 18446744073709551616 ∧ I d wr) (fun _ i _ => n - (intOf i).toNat)
    case atStart => exact ⟨1, y, by omega, by omega, rfl, rfl, y1, y2, HI1.out⟩
    case round =>
      obtain ⟨d, z, hd1, hd, rfl, rfl, z1, z2, hi⟩ := hrel
      by_cases hdn : d < n
      · have hc1 := HC.out d wr hdn hi
        clear hi
        go_wp2_with fail
        refine hc1.mono ?_
        rintro e w1 ⟨⟨y, rfl, y1, y2⟩, hi1⟩
        have HI1 := Lib.hid hi1
        have hg : grF x (d + 1) = if ltB (grF x d) (x d) then x d else grF x d := by rw [grF, if_neg (by omega)]
        rw [← z1, ← y1, ltB_canon] at hg
        clear hi1 hc1
        cases hb : ltB z y with
        | true =>
          rw [hb, if_pos rfl] at hg
          go_wp2_with fail
          go_roundw
          case rel => exact ⟨d + 1, y, by omega, by omega, by go_num, rfl, hg.symm, y2, HI1.out⟩
          case measure => simp [intOf]; omega
        | false =>
          rw [hb, if_neg (by decide)] at hg
          go_wp2_with fail
          go_roundw
          case rel => exact ⟨d + 1, z, by omega, by omega, by go_num, rfl, hg.symm, z2, HI1.out⟩
          case measure => simp [intOf]; omega
      · obtain rfl : n = d := by omega
        go_wp2_with fail
        go_ret
        exact ⟨⟨z, rfl, z1, z2⟩, hi⟩
/-- The state of 'Worst': the function it asks, whether one was no number. -/
def WorstI (w0 : World) (c : Value) (x : Nat → Nat) (i : Nat) (W : World) : Prop :=
  W.cell? ⟨w0.heap.size, 0, none⟩ = some c ∧ W.cell? ⟨w0.heap.size + 1, 0, none⟩ = some (.bool (nanF x i)) ∧ W.frozen? ⟨w0.heap.size + 1, 0, none⟩ = false ∧ w0.heap.size + 1 < W.heap.size ∧ Below w0.heap.size w0 W
set_option maxRecDepth 100000 in
set_option maxHeartbeats 2000000 in
theorem worst1_tells (fn : Nat) (c1 c2 : Value) (n : Nat) (x : Nat → Nat) (w : World) (hf : ∀ args W, (callFunc fn args).run Try.prog W = .ok (.enter fn args) W)
    (hc : ∀ i W, i < n → Below w.heap.size w W → Calls Try.prog fn #[.int .i64 i, c1, c2] W fun e W' => (∃ y, e = .returned (.float .f64 y) ∧ canon y = x i ∧ y < 18446744073709551616) ∧ Below W.heap.size W W')
    (i : Nat) (W : World) (hi : i < n) (h : WorstI w (.func (.func fn) #[] #[c1, c2]) x i W) :
    Calls Try.prog 56 #[.int .i64 i, .pointer (some ⟨w.heap.size, 0, none⟩), .pointer (some ⟨w.heap.size + 1, 0, none⟩)] W fun e W' => (∃ y, e = .returned (.float .f64 y) ∧ canon y = x i ∧ y < 18446744073709551616) ∧ WorstI w (.func (.func fn) #[] #[c1, c2]) x (i + 1) W' := by
  obtain ⟨k1, k2, k3, k4, k5⟩ := h
  have hc1 := hc i W hi k5
  have H := Lib.hid k5
  clear hc k5
  generalize hB : w.heap.size = B at *
  go_enter Try.func56, Try.ntmps56
  go_wp2_with fail
  refine hc1.mono ?_
  rintro e w1 ⟨⟨y, rfl, y1, y2⟩, hb1⟩
  have hs1 := hb1.size
  have hnn : nanF x (i + 1) = (nanF x i || isN y) := by rw [isN_of_canon y1]; rfl
  rw [← (haCell hb1).1 _ _ (by omega)] at k1
  rw [← (haCell hb1).1 _ _ (by omega)] at k2
  rw [← (haCell hb1).2 _ _ (by omega)] at k3
  have hself : (!eqB y y) = isN y := by rw [eqB_self, Bool.not_not]
  have HB1 := Lib.hid hb1
  clear hc1 hb1
  have fin : ∀ b, nanF x (i + 1) = b → WorstI w (.func (.func fn) #[] #[c1, c2]) x (i + 1) (w1.setCell ⟨B + 1, 0, none⟩ (.bool b)) := fun b hb => by
    unfold WorstI
    rw [hB, hb]
    refine ⟨?_, ?_, ?_, by simp [World.setCell]; omega, ((H.out.trans (HB1.out.mono (by omega))).setCell (p := ⟨B + 1, 0, none⟩) (show B ≤ B + 1 by omega) _)⟩
    · rw [World.cell?_setCell_other _ _ _ _ (fun q => by injection q with q1 _ _; omega)]; exact k1
    · simp [go_sem, k2]
    · simp [go_sem, k3]
  have FIN := Lib.hid fin
  clear fin
  cases hnf : nanF x i with
  | true =>
    rw [hnf] at k2
    go_wp2_with fail
    go_ret
    exact ⟨⟨y, rfl, y1, y2⟩, FIN.out _ (by rw [hnn, hnf]; rfl)⟩
  | false =>
    rw [hnf] at k2
    go_wp2_with fail
    go_ret
    exact ⟨⟨y, rfl, y1, y2⟩, FIN.out _ (by rw [hnn, hnf]; rfl)⟩
set_option maxRecDepth 100000 in
set_option maxHeartbeats 2000000 in
theorem worst_tells (fn : Nat) (c1 c2 : Value) (n : Nat) (hn : n ≤ 9223372036854775807) (x : Nat → Nat) (w : World) (hf : ∀ args W, (callFunc fn args).run Try.prog W = .ok (.enter fn args) W)
    (hc : ∀ i W, i < n → Below w.heap.size w W → Calls Try.prog fn #[.int .i64 i, c1, c2] W fun e W' => (∃ y, e = .returned (.float .f64 y) ∧ canon y = x i ∧ y < 18446744073709551616) ∧ Below W.heap.size W W') :
    Calls Try.prog 36 #[.int .i64 n, .func (.func fn) #[] #[c1, c2]] w fun e w' => (∃ y, e = .returned (.float .f64 y) ∧ canon y = worstF x n ∧ y < 18446744073709551616) ∧ Below w.heap.size w w' := by
  have GT := Lib.hid (fun W => greatest_tells 56 (.pointer (some ⟨w.heap.size, 0, none⟩)) (.pointer (some ⟨w.heap.size + 1, 0, none⟩)) n hn x (WorstI w (.func (.func fn) #[] #[c1, c2]) x) W)
  have W1 := Lib.hid (worst1_tells fn c1 c2 n x w hf hc)
  have h0 : WorstI w (.func (.func fn) #[] #[c1, c2]) x 0 ((w.alloc (.cells #[.func (.func fn) #[] #[c1, c2]] 55)).alloc (.cells #[.bool false] 4)) := by
    have e : (w.alloc (.cells #[.func (.func fn) #[] #[c1, c2]] 55)).heap.size = w.heap.size + 1 := by simp
    refine ⟨?_, ?_, ?_, by simp, ((Below.refl _ _).alloc (Nat.le_refl _) _).alloc (by rw [e]; omega) _⟩
    · rw [World.cell?_alloc_lt _ _ _ (show w.heap.size < _ by rw [e]; omega), World.cell?_alloc_new]; rfl
    · rw [← e, World.cell?_alloc_new]; rfl
    · rw [← e]; simp [go_sem]
  clear hc hf
  go_enter Try.func36, Try.ntmps36
  go_wp2_with fail
  refine (GT.out _ h0 (fun _ _ => rfl) (fun i W hi h => W1.out i W hi h)).mono ?_
  rintro e w1 ⟨⟨y, rfl, y1, y2⟩, hI⟩
  obtain ⟨k1, k2, k3, k4, k5⟩ := hI
  have H := Lib.hid k5
  clear k5 h0
  cases hnf : nanF x n with
  | true =>
    have hw : worstF x n = 9218868437227405312 := by unfold worstF; rw [hnf, if_pos rfl]
    rw [hnf] at k2
    go_wp2_with fail
    refine (inf_pos _).mono ?_
    rintro e w2 ⟨rfl, rfl⟩
    go_wp2_with fail
    go_ret
    exact ⟨⟨_, rfl, by rw [hw]; decide, by decide⟩, H.out⟩
  | false =>
    have hw : worstF x n = grF x n := by unfold worstF; rw [hnf, if_neg (by decide)]
    rw [hnf] at k2
    go_wp2_with fail
    go_ret
    exact ⟨⟨y, rfl, by rw [hw]; exact y1, y2⟩, H.out⟩
end Go.Proofs.Ytnlbafjmbamoeaa
