/-
  'IvTurns': whatever it is given.
-/
import Derived.Test.YtbepaoliboooaaaIvx
namespace Go.Proofs.Ytbepaoliboooaaa
open Go.RowKit Ex
def turnsF : List Cf := [([], .fc .eql (two 20 0) (owt 20 0), true), ([], .fc .eql (two 20 1) (owt 20 1), true), ([], .fc .eql (two 22 0) (owt 22 0), true), ([], .fc .eql (two 22 1) (owt 22 1), true),
  ([], .fc .eql (two 21 0) (.fb .sub (.lf 0) (owt 21 1)), true), ([], .fc .eql (two 21 1) (.fb .sub (.lf 0) (owt 21 0)), true),
  ([], .fc .eql (.tf (.fc .lss (mb 0) (ma 0)) (mb 0) (ma 0)) (.tf (.fc .lss (ma 0) (mb 0)) (ma 0) (mb 0)), true), ([], .fc .eql (.tf (.fc .lss (ma 1) (mb 1)) (mb 1) (ma 1)) (.tf (.fc .lss (mb 1) (ma 1)) (ma 1) (mb 1)), true)]
theorem pick_sym {x y : Nat} (h1 : isN x = false) (h2 : isN y = false) : eqB (bif ltB x y then x else y) (bif ltB y x then y else x) = true := by
  rw [ltB_of h1 h2, ltB_of h2 h1]
  by_cases h : key x < key y
  · rw [decide_eq_true h, decide_eq_false (show ¬ key y < key x by omega)]; exact eqB_refl h1
  · by_cases g : key y < key x
    · rw [decide_eq_false h, decide_eq_true g]; exact eqB_refl h2
    · rw [decide_eq_false h, decide_eq_false g]
      simp only [cond_false]
      rw [eqB_of h2 h1]; simp only [decide_eq_true_eq]; omega
theorem turnsF_ok {V : Val} (hM : MkV V) : CfOK V turnsF := by
  obtain ⟨a, b, ha, hb, h⟩ := ev_ma hM
  obtain ⟨c, d, hc, hd, g⟩ := ev_mb hM
  obtain ⟨n1, n2, -, -⟩ := h.ends
  obtain ⟨n3, n4, -, -⟩ := g.ends
  have t := subP_turn h g
  intro f hf _
  simp only [turnsF, List.mem_cons, List.not_mem_nil, or_false] at hf
  rcases hf with rfl | rfl | rfl | rfl | rfl | rfl | rfl | rfl <;> simp only [ev_eql, ev_tf, ev_sub, ev_lf, ev_lss, two, owt, ev20 hM, ev21 hM, ev22 hM, ha, hb, hc, hd]
  · rw [addP_sym h g]; exact eqB_refl (outP_num _ _).1
  · rw [addP_sym h g]; exact eqB_refl (outP_num _ _).2
  · rw [mulP_sym h g]; exact eqB_refl (aroundP_num _ _ _ _).1
  · rw [mulP_sym h g]; exact eqB_refl (aroundP_num _ _ _ _).2
  · exact t.1
  · exact t.2
  · exact pick_sym n3 n1
  · have p := pick_sym n2 n4
    rw [ltB_of n2 n4, ltB_of n4 n2] at *
    by_cases k1 : key b < key d <;> by_cases k2 : key d < key b
    · omega
    · rw [decide_eq_true k1, decide_eq_false k2]; exact eqB_refl n4
    · rw [decide_eq_false k1, decide_eq_true k2]; exact eqB_refl n2
    · rw [decide_eq_false k1, decide_eq_false k2]
      simp only [cond_false]
      rw [eqB_of n2 n4]; simp only [decide_eq_true_eq]; omega
set_option maxRecDepth 1000000 in
set_option maxHeartbeats 100000000 in
theorem ivTurns_run : lawRun 9 10 40 [.i, .i, .i, .i, .i, .i] turnsF = true := by kernel_rfl
theorem ivTurns_any (a0 a1 a2 a3 a4 a5 : Int) (w : World) (_h0 : -9223372036854775808 ≤ a0 ∧ a0 ≤ 9223372036854775807) (_h1 : -9223372036854775808 ≤ a1 ∧ a1 ≤ 9223372036854775807) (_h2 : -9223372036854775808 ≤ a2 ∧ a2 ≤ 9223372036854775807) (_h3 : -9223372036854775808 ≤ a3 ∧ a3 ≤ 9223372036854775807) (_h4 : -9223372036854775808 ≤ a4 ∧ a4 ≤ 9223372036854775807) (_h5 : -9223372036854775808 ≤ a5 ∧ a5 ≤ 9223372036854775807) :
    Calls Try.prog 9 #[.int .i64 a0, .int .i64 a1, .int .i64 a2, .int .i64 a3, .int .i64 a4, .int .i64 a5] w fun e w' => e = .returned (.bool true) ∧ Below w.heap.size w w' := by
  refine law_of (ds := [.i a0, .i a1, .i a2, .i a3, .i a4, .i a5]) (nx0 := 10) (k := 40) (by simp) (turnsF_ok (adM_ok _)) (vs := #[.int .i64 a0, .int .i64 a1, .int .i64 a2, .int .i64 a3, .int .i64 a4, .int .i64 a5]) ⟨rfl, rfl, rfl, rfl, rfl, rfl, trivial⟩ fun ks hk => ?_
  simp only [List.map_cons, List.map_nil, AD.kind, shapes, shapes1, List.flatMap_cons, List.flatMap_nil, List.append_nil, List.mem_cons, List.not_mem_nil, or_false] at hk
  subst hk
  exact ivTurns_run
end Go.Proofs.Ytbepaoliboooaaa
