/-
  From-tos of moderate numbers: what is told of them, as pairs: turned about, with all numbers, how far from 0.
-/
import Derived.Test.YtbepaoliboooaaaIvm
import Derived.Test.YtbepaoliboooaaaEnb
namespace Go.Proofs.Ytbepaoliboooaaa
open Ex
open Ieee (double)

abbrev NI : Nat := 18442240474082181120
abbrev PI : Nat := 9218868437227405312
theorem iv_inj {a b c d : Nat} (h : iv a b = iv c d) : a = c ∧ b = d := by
  unfold iv at h; simpa using h
theorem outP_num (p q : Nat) : isN (outP p q).1 = false ∧ isN (outP p q).2 = false := by
  obtain ⟨x, y, h, h1, h2⟩ := outI_num p q
  rw [outP_eq] at h
  obtain ⟨rfl, rfl⟩ := iv_inj h
  exact ⟨h1, h2⟩
theorem aroundP_num (a b c d : Nat) : isN (aroundP a b c d).1 = false ∧ isN (aroundP a b c d).2 = false := by
  obtain ⟨x, y, h, h1, h2⟩ := aroundI_num a b c d
  rw [aroundP_eq] at h
  obtain ⟨rfl, rfl⟩ := iv_inj h
  exact ⟨h1, h2⟩
theorem divP_num (a b c d : Nat) : isN (divP a b c d).1 = false ∧ isN (divP a b c d).2 = false := by
  unfold divP
  cases leB c 0 && leB 0 d
  · exact aroundP_num _ _ _ _
  · simp only [cond_true]; exact ⟨by decide, by decide⟩
theorem eqB_refl {x : Nat} (h : isN x = false) : eqB x x = true := by rw [eqB_self, h]; rfl

/-! ### Turned about -/
theorem addP_sym {a b c d : Nat} (h : Mid a b) (g : Mid c d) : addP a b c d = addP c d a b := by
  unfold addP; rw [add_sym h.fin.1 g.fin.1, add_sym h.fin.2.1 g.fin.2.1]
theorem mulP_sym {a b c d : Nat} (h : Mid a b) (g : Mid c d) : mulP a b c d = mulP c d a b := by
  have e := mulI_sym h g
  unfold mulI at e
  rw [aroundP_eq, aroundP_eq] at e
  obtain ⟨e1, e2⟩ := iv_inj e
  exact Prod.ext e1 e2
theorem subP_turn {a b c d : Nat} (h : Mid a b) (g : Mid c d) : eqB (subP a b c d).1 (cop .sub 0 (subP c d a b).2) = true ∧ eqB (subP a b c d).2 (cop .sub 0 (subP c d a b).1) = true := by
  obtain ⟨s1, s2, t1, t2, e1, e2, -, -, -, -, h1, h2⟩ := subI_turn h g
  rw [outP_eq] at e1 e2
  obtain ⟨rfl, rfl⟩ := iv_inj e1
  obtain ⟨rfl, rfl⟩ := iv_inj e2
  exact ⟨h1, h2⟩

/-! ### With all numbers -/
theorem ni_key : key NI = -(infR : Int) := by decide
theorem pi_key : key PI = infR := by decide
theorem key_fin {x : Nat} (h : x % p63 < infR) : key x ≠ infR ∧ key x ≠ -(infR : Int) ∧ isN x = false := by
  refine ⟨?_, ?_, isN_of_le (Nat.le_of_lt h)⟩ <;> (rw [key_eq]; unfold sgd; split <;> omega)
theorem is_ni {x : Nat} (hx : x < 18446744073709551616) (h : key x = -(infR : Int)) : x = NI := by
  rcases of_key hx (show NI < 18446744073709551616 by decide) (h.trans ni_key.symm) with e | ⟨-, e⟩
  · exact e
  · exact absurd e (by decide)
theorem is_pi {x : Nat} (hx : x < 18446744073709551616) (h : key x = infR) : x = PI := by
  rcases of_key hx (show PI < 18446744073709551616 by decide) (h.trans pi_key.symm) with e | ⟨-, e⟩
  · exact e
  · exact absurd e (by decide)
theorem add_ni {x : Nat} (h : x % p63 < infR) : cop .add x NI = NI ∧ cop .add NI x = NI := by
  obtain ⟨h1, h2, h3⟩ := key_fin h
  exact ⟨is_ni (cop_lt _ _ _) (add_inf (.inr ni_key) h1 (by decide) h3 (by decide)), is_ni (cop_lt _ _ _) (add_inf (.inl ni_key) (by decide) h1 (by decide) h3)⟩
theorem add_pi {x : Nat} (h : x % p63 < infR) : cop .add x PI = PI ∧ cop .add PI x = PI := by
  obtain ⟨h1, h2, h3⟩ := key_fin h
  exact ⟨is_pi (cop_lt _ _ _) (add_pinf (.inr pi_key) h2 (by decide) h3 (by decide)), is_pi (cop_lt _ _ _) (add_pinf (.inl pi_key) (by decide) h2 (by decide) h3)⟩
theorem fl_fin {x : Nat} (h : x % p63 < infR) : fl x % p63 < infR := by
  have := fl_key (y := x) (key_fin h).2.2
  refine fin_of_key (fl_isN (key_fin h).2.2) ?_ ?_ <;> rw [this] <;> have := key_fin h <;> omega
theorem whole_out : outP NI PI = (NI, PI) := by decide +kernel
theorem addP_whole {a b : Nat} (h : Mid a b) : addP a b NI PI = (NI, PI) := by
  unfold addP; rw [(add_ni h.fin.1).1, (add_pi h.fin.2.1).1, whole_out]
theorem subP_whole {a b : Nat} (h : Mid a b) : subP NI PI a b = (NI, PI) := by
  unfold subP
  rw [sub_add h.ends.2.1, sub_add h.ends.1, (add_ni (fl_fin h.fin.2.1)).2, (add_pi (fl_fin h.fin.1)).2, whole_out]
theorem mulP_whole : mulP NI PI NI PI = (NI, PI) := by decide +kernel
/-- An infinite one times, or by, one that is not 0. -/
theorem mul_infs {y : Nat} (h : y % p63 < infR) : (0 < key y → cop .mul NI y = NI ∧ cop .mul PI y = PI) ∧ (key y < 0 → cop .mul NI y = PI ∧ cop .mul PI y = NI) := by
  have ny := (key_fin h).2.2
  refine ⟨fun hp => ⟨is_ni (cop_lt _ _ _) (mul_below ny (.inl ⟨ni_key, hp⟩)).1, is_pi (cop_lt _ _ _) (mul_above ny (.inr ⟨pi_key, hp⟩)).1⟩, fun hn => ⟨is_pi (cop_lt _ _ _) (mul_above ny (.inl ⟨ni_key, hn⟩)).1, is_ni (cop_lt _ _ _) (mul_below ny (.inr ⟨pi_key, hn⟩)).1⟩⟩
theorem quo_infs {y : Nat} (h : y % p63 < infR) (_hk : key y ≠ 0) (s : Bool) : cop .quo (double.word s infR) y = double.word (s ^^ neg y) infR := by
  obtain ⟨m, p, e, -, -⟩ := read_fin h
  have hr : double.read (double.word s infR) = .infinity s := by
    have := read_inf (word_mod s (Nat.le_refl infR))
    rwa [word_neg s (Nat.le_refl _)] at this
  have : floatBits .quo .f64 (double.word s infR) y = some (double.word (s ^^ neg y) infR) := by
    show double.div _ _ = _
    unfold Ieee.Format.div
    rw [hr, e]
    rfl
  unfold cop; rw [this]; exact canon_num (word_isN _ (Nat.le_refl _))
theorem neg_of_key {y : Nat} : (0 < key y → neg y = false) ∧ (key y < 0 → neg y = true) := by
  rw [key_eq]; unfold sgd; cases neg y <;> simp <;> omega
theorem quo_infs' {y : Nat} (h : y % p63 < infR) (hk : key y ≠ 0) : (0 < key y → cop .quo NI y = NI ∧ cop .quo PI y = PI) ∧ (key y < 0 → cop .quo NI y = PI ∧ cop .quo PI y = NI) := by
  have e1 : double.word true infR = NI := by decide
  have e2 : double.word false infR = PI := by decide
  have q1 := quo_infs h hk true
  have q2 := quo_infs h hk false
  rw [e1] at q1; rw [e2] at q2
  refine ⟨fun hp => ?_, fun hn => ?_⟩
  · rw [neg_of_key.1 hp] at q1 q2; exact ⟨q1.trans e1, q2.trans e2⟩
  · rw [neg_of_key.2 hn] at q1 q2; exact ⟨q1.trans e2, q2.trans e1⟩
theorem around_infs : aroundP NI NI PI PI = (NI, PI) ∧ aroundP PI PI NI NI = (NI, PI) := by decide +kernel
/-- What does not hold 0. -/
theorem off_zero {a b : Nat} (h : Mid a b) (h0 : leB a 0 = true → leB 0 b = false) : (0 < key a ∧ 0 < key b) ∨ (key a < 0 ∧ key b < 0) := by
  obtain ⟨n1, n2, h3, -⟩ := h.ends
  have k0 : key 0 = 0 := by decide
  rw [leB_of n1 (by decide), leB_of (by decide) n2, k0] at h0
  simp only [decide_eq_true_eq, decide_eq_false_iff_not] at h0
  omega
theorem mulP_whole2 {a b : Nat} (h : Mid a b) (h0 : leB a 0 = true → leB 0 b = false) : mulP NI PI a b = (NI, PI) := by
  unfold mulP
  rcases off_zero h h0 with ⟨h1, h2⟩ | ⟨h1, h2⟩
  · rw [((mul_infs h.fin.1).1 h1).1, ((mul_infs h.fin.1).1 h1).2, ((mul_infs h.fin.2.1).1 h2).1, ((mul_infs h.fin.2.1).1 h2).2]
    exact around_infs.1
  · rw [((mul_infs h.fin.1).2 h1).1, ((mul_infs h.fin.1).2 h1).2, ((mul_infs h.fin.2.1).2 h2).1, ((mul_infs h.fin.2.1).2 h2).2]
    exact around_infs.2
theorem divP_whole2 {a b : Nat} (h : Mid a b) (h0 : leB a 0 = true → leB 0 b = false) : divP NI PI a b = (NI, PI) := by
  unfold divP
  have : (leB a 0 && leB 0 b) = false := by cases g : leB a 0 <;> simp; exact h0 g
  rw [this]
  simp only [cond_false]
  rcases off_zero h h0 with ⟨h1, h2⟩ | ⟨h1, h2⟩
  · rw [((quo_infs' h.fin.1 (by omega)).1 h1).1, ((quo_infs' h.fin.1 (by omega)).1 h1).2, ((quo_infs' h.fin.2.1 (by omega)).1 h2).1, ((quo_infs' h.fin.2.1 (by omega)).1 h2).2]
    exact around_infs.1
  · rw [((quo_infs' h.fin.1 (by omega)).2 h1).1, ((quo_infs' h.fin.1 (by omega)).2 h1).2, ((quo_infs' h.fin.2.1 (by omega)).2 h2).1, ((quo_infs' h.fin.2.1 (by omega)).2 h2).2]
    exact around_infs.2
theorem mid_whole {a b : Nat} (h : Mid a b) : ltB NI a = true ∧ ltB b PI = true ∧ leB NI a = true ∧ leB b PI = true := by
  obtain ⟨n1, n2, -, -⟩ := h.ends
  have k1 := key_abs n1
  have k2 := key_abs n2
  have f1 := key_fin h.fin.1
  have f2 := key_fin h.fin.2.1
  have e1 := ni_key
  have e2 := pi_key
  rw [ltB_of (by decide) n1, ltB_of n2 (by decide), leB_of (by decide) n1, leB_of n2 (by decide)]
  refine ⟨?_, ?_, ?_, ?_⟩ <;> simp only [decide_eq_true_eq] <;> omega
end Go.Proofs.Ytbepaoliboooaaa
