/-
  Tapes with more operations behind, that nothing asks for: plain functions; Make of tapes as one contract.
-/
import Derived.Test.YtnlbafjmbamoeaaTpo
import Derived.Test.YtnlbafjmbamoeaaTpr
import Derived.Test.YtnlbafjmbamoeaaTpn
namespace Go.Proofs.Ytnlbafjmbamoeaa
open Go.RowKit
open Ieee (double)

theorem evL_congr {op op' : Nat → OpD} {x : Nat → Nat} {L : Nat} (h : ∀ i, i < L → op i = op' i) : ∀ k, k ≤ L → evL op x k = evL op' x k
  | 0, _ => rfl
  | k + 1, hk => by rw [evL, evL, evL_congr h k (by omega), h k (by omega)]
theorem evR_congr {op op' : Nat → OpD} {x : Nat → Nat} {L : Nat} (h : ∀ i, i < L → op i = op' i) {j : Nat} (hj : j < L) : evR op x j = evR op' x j := by
  unfold evR
  rw [h j hj, evL_congr h j (by omega)]
theorem opsL_congr {op op' : Nat → OpD} : ∀ k : Nat, (∀ i, i < k → op i = op' i) → opsL op k = opsL op' k
  | 0, _ => rfl
  | k + 1, h => by rw [opsL, opsL, opsL_congr k (fun i hi => h i (by omega)), h k (by omega)]
/-- So many products behind. -/
def opM (T : TD) (m : Int) (i : Nat) : OpD := if i < T.len then T.op i else ⟨4, m % (i : Int), m.tdiv 9 % (i : Int), 0⟩
def moreT (T : TD) (m : Int) (k : Nat) : TD := ⟨T.n, T.len + k, opM T m, T.lo, T.out⟩
/-- The first output is the last one's. -/
def lastT (T : TD) : TD := ⟨T.n, T.len, T.op, T.lo, fun i => if i = 0 then T.out (T.lo - 1) else T.out i⟩
theorem check_parts {T : TD} (h : checkB T = true) : (1 ≤ T.n ∧ T.n ≤ 4 ∧ T.len ≤ 60 ∧ (T.lo : Int) = T.n) ∧ (∀ i, i < T.len → standsB (T.op i) i T.n = true) ∧ ∀ i, i < T.lo → belowB (T.out i) T.len = true := by
  unfold checkB at h
  simp only [Bool.and_eq_true, decide_eq_true_eq] at h
  exact ⟨h.1, allB_iff.1 h.2.1, allB_iff.1 h.2.2⟩
theorem parts_check {T : TD} (h1 : 1 ≤ T.n ∧ T.n ≤ 4 ∧ T.len ≤ 60 ∧ (T.lo : Int) = T.n) (h2 : ∀ i, i < T.len → standsB (T.op i) i T.n = true) (h3 : ∀ i, i < T.lo → belowB (T.out i) T.len = true) : checkB T = true := by
  unfold checkB
  rw [decide_eq_true h1, allB_iff.2 h2, allB_iff.2 h3]
  rfl
theorem check_more {T : TD} (m : Int) (k : Nat) (h : checkB T = true) (h1 : 1 ≤ T.len) (hk : T.len + k ≤ 60) : checkB (moreT T m k) = true := by
  obtain ⟨a, b, c⟩ := check_parts h
  refine parts_check ⟨a.1, a.2.1, hk, a.2.2.2⟩ (fun i hi => ?_) (fun i hi => ?_)
  · show standsB (opM T m i) i T.n = true
    unfold opM
    by_cases g : i < T.len
    · rw [if_pos g]; exact b i g
    · rw [if_neg g]
      have m1 := Int.emod_nonneg m (show (i : Int) ≠ 0 by omega)
      have m2 := Int.emod_lt_of_pos m (show (0 : Int) < i by omega)
      have m3 := Int.emod_nonneg (m.tdiv 9) (show (i : Int) ≠ 0 by omega)
      have m4 := Int.emod_lt_of_pos (m.tdiv 9) (show (0 : Int) < i by omega)
      have z : eqB 0 0 = true := by decide
      unfold standsB belowB
      simp only []
      rw [if_neg (by omega), if_neg (by omega), if_pos (by omega), decide_eq_true m1, decide_eq_true m2, decide_eq_true m3, decide_eq_true m4, z]
      rfl
  · have := c i hi
    show belowB (T.out i) ((T.len + k : Nat) : Int) = true
    unfold belowB at this ⊢
    simp only [Bool.and_eq_true, decide_eq_true_eq] at this ⊢
    omega
theorem check_last {T : TD} (h : checkB T = true) : checkB (lastT T) = true := by
  obtain ⟨a, b, c⟩ := check_parts h
  refine parts_check a b (fun i hi => ?_)
  show belowB (if i = 0 then T.out (T.lo - 1) else T.out i) T.len = true
  split
  · exact c _ (by have := hi; show T.lo - 1 < T.lo; have : i < T.lo := hi; omega)
  · exact c i hi
theorem opAt_c (n : Int) (ns : Nat → Int) (div : Bool) (i : Nat) : (opAt n ns div i).c < 18446744073709551616 := by
  unfold opAt
  split
  · show (0 : Nat) < _; decide
  · split
    · exact cop_lt _ _ _
    · unfold opOf
      split
      · exact cop_lt _ _ _
      · show (0 : Nat) < _; decide
theorem opM_c {T : TD} (m : Int) (h : ∀ i, (T.op i).c < 18446744073709551616) (i : Nat) : (opM T m i).c < 18446744073709551616 := by
  unfold opM
  split
  · exact h i
  · show (0 : Nat) < _; decide
theorem makeT_tells (n : Int) (v : Value) (ln : Nat) (ns : Nat → Int) (div : Bool) (w : World) (h : IntsF w v ln ns) (hn : Rng n) (hns : ∀ i, i < ln → Rng (ns i)) :
    Calls Try.prog 5 #[.int .i64 n, v, .bool div] w fun e w' => ∃ u, e = .returned u ∧ TapeOwn w' w.heap.size u (makeT n ns ln div) ∧ Below w.heap.size w w' := by
  have n1 := Int.emod_nonneg n (show (3 : Int) ≠ 0 by decide)
  refine make_own n v ln ns div w h hn hns (opAt n ns div) (makeT n ns ln div).out (fun i hi => ?_) ?_ (fun i => ?_) (fun i => rfl)
  · unfold opAt; rw [if_pos hi]
  · unfold opAt; rw [if_neg (by omega), if_pos (by omega)]
  · unfold opAt
    rw [if_neg (by omega), if_neg (by omega), show (1 + n % 3).toNat + 1 + i - 1 - (1 + n % 3).toNat = i by omega]
end Go.Proofs.Ytnlbafjmbamoeaa
