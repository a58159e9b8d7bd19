/-
  From-tos whose ends may be infinite: what is within goes on to be within; wider ones go on to be wider.
-/
import Derived.Test.YtbepaoliboooaaaIvw
namespace Go.Proofs.Ytbepaoliboooaaa
open Ex
open Ieee (double)

/-- Ends that are numbers, in order; the lower is not infinite above, the upper is not infinite below. -/
structure Ra (a b : Nat) : Prop where
  na : isN a = false
  nb : isN b = false
  o : key a ≤ key b
  la : key a < infR
  lb : -(infR : Int) < key b
theorem infR_pos : (0 : Int) < infR := by decide
theorem num_of_inf {x : Nat} (h : key x = infR ∨ key x = -(infR : Int)) : isN x = false := by
  have := inf_mod h
  exact isN_of_le (by omega)
theorem Ra.flip {a b : Nat} (h : Ra a b) : Ra (fl b) (fl a) := by
  have e1 := fl_key h.na
  have e2 := fl_key h.nb
  have := h.o; have := h.la; have := h.lb
  exact ⟨fl_isN h.nb, fl_isN h.na, by omega, by omega, by omega⟩
theorem Ra.whole : Ra NI PI := ⟨by decide, by decide, by decide, by decide, by decide⟩
theorem Ra.point {x : Nat} (h : x % p63 < infR) : Ra x x := by
  obtain ⟨h1, h2, h3⟩ := key_fin h
  have := key_abs h3
  exact ⟨h3, h3, Int.le_refl _, by omega, by omega⟩

theorem add_nl {x y : Nat} (nx : isN x = false) (ny : isN y = false) (lx : key x < infR) (ly : key y < infR) : isN (cop .add x y) = false := by
  by_cases c1 : key x = -(infR : Int) ∨ key y = -(infR : Int)
  · exact num_of_inf (.inr (add_inf c1 (by omega) (by omega) nx ny))
  · exact (add_val (fin_of_key nx (by omega) (by omega)) (fin_of_key ny (by omega) (by omega))).1
theorem add_nh {x y : Nat} (nx : isN x = false) (ny : isN y = false) (lx : -(infR : Int) < key x) (ly : -(infR : Int) < key y) : isN (cop .add x y) = false := by
  by_cases c1 : key x = infR ∨ key y = infR
  · exact num_of_inf (.inl (add_pinf c1 (by omega) (by omega) nx ny))
  · exact (add_val (fin_of_key nx (by omega) (by omega)) (fin_of_key ny (by omega) (by omega))).1
theorem add_low {x y x' y' : Nat} (nx : isN x = false) (ny : isN y = false) (nx' : isN x' = false) (ny' : isN y' = false) (lx : key x < infR) (ly : key y < infR) (h1 : key x ≤ key x') (h2 : key y ≤ key y') (n' : isN (cop .add x' y') = false) : key (cop .add x y) ≤ key (cop .add x' y') := by
  have b := key_abs n'
  by_cases c1 : key x = -(infR : Int) ∨ key y = -(infR : Int)
  · have e := add_inf c1 (by omega) (by omega) nx ny
    omega
  · obtain ⟨a1, a2, -⟩ := add_val (fin_of_key nx (by omega) (by omega)) (fin_of_key ny (by omega) (by omega))
    have ax := key_abs nx
    have ay := key_abs ny
    by_cases c2 : key x' = infR ∨ key y' = infR
    · rw [add_pinf c2 (by omega) (by omega) nx' ny']; exact (key_abs a1).2
    · have ax' := key_abs nx'
      have ay' := key_abs ny'
      obtain ⟨b1, b2, -⟩ := add_val (fin_of_key nx' (by omega) (by omega)) (fin_of_key ny' (by omega) (by omega))
      rw [a2, b2]
      have := V_le.2 h1; have := V_le.2 h2
      exact RK_mono _ (by omega)
theorem add_high {x y x' y' : Nat} (nx : isN x = false) (ny : isN y = false) (nx' : isN x' = false) (ny' : isN y' = false) (lx : -(infR : Int) < key x') (ly : -(infR : Int) < key y') (h1 : key x ≤ key x') (h2 : key y ≤ key y') (n : isN (cop .add x y) = false) : key (cop .add x y) ≤ key (cop .add x' y') := by
  have b := key_abs n
  by_cases c1 : key x' = infR ∨ key y' = infR
  · have e := add_pinf c1 (by omega) (by omega) nx' ny'
    omega
  · have ax' := key_abs nx'
    have ay' := key_abs ny'
    obtain ⟨a1, a2, -⟩ := add_val (x := x') (y := y') (fin_of_key nx' (by omega) (by omega)) (fin_of_key ny' (by omega) (by omega))
    by_cases c2 : key x = -(infR : Int) ∨ key y = -(infR : Int)
    · rw [add_inf c2 (by omega) (by omega) nx ny]; exact (key_abs a1).1
    · have ax := key_abs nx
      have ay := key_abs ny
      obtain ⟨b1, b2, -⟩ := add_val (fin_of_key nx (by omega) (by omega)) (fin_of_key ny (by omega) (by omega))
      rw [a2, b2]
      have := V_le.2 h1; have := V_le.2 h2
      exact RK_mono _ (by omega)
theorem out_in {p q : Nat} (hp : p < 18446744073709551616) (hq : q < 18446744073709551616) (np : isN p = false) (nq : isN q = false) (h : key p ≤ key q) :
    Ra (outP p q).1 (outP p q).2 ∧ ∀ v, isN v = false → (key p ≤ key v → key (outP p q).1 ≤ key v) ∧ (key v ≤ key q → key v ≤ key (outP p q).2) := by
  rw [outP_val hp hq np nq h]
  obtain ⟨D1, D2, -⟩ := down_key hp np
  obtain ⟨U1, U2, -⟩ := up_key hq nq
  have k1 := key_abs np
  have k2 := key_abs nq
  have hi := infR_pos
  refine ⟨⟨D2, U2, ?_, ?_, ?_⟩, fun v hv => ?_⟩
  · show key (downB p) ≤ key (upB q)
    split at D1 <;> split at U1 <;> omega
  · show key (downB p) < _
    split at D1 <;> omega
  · show _ < key (upB q)
    split at U1 <;> omega
  · have k3 := key_abs hv
    constructor
    · intro g; show key (downB p) ≤ _; split at D1 <;> omega
    · intro g; show _ ≤ key (upB q); split at U1 <;> omega
/-- What is within goes on to be within. -/
structure Op2 (f : Nat → Nat → Nat → Nat → Nat × Nat) (op : BinOp) : Prop where
  ra : ∀ {a b c d : Nat}, Ra a b → Ra c d → Ra (f a b c d).1 (f a b c d).2
  mem : ∀ {a b c d x y : Nat}, Ra a b → Ra c d → isN x = false → isN y = false → isN (cop op x y) = false → key a ≤ key x → key x ≤ key b → key c ≤ key y → key y ≤ key d → key (f a b c d).1 ≤ key (cop op x y) ∧ key (cop op x y) ≤ key (f a b c d).2
  wd : ∀ {a b c d a' b' c' d' : Nat}, Ra a b → Ra c d → Ra a' b' → Ra c' d' → key a' ≤ key a → key b ≤ key b' → key c' ≤ key c → key d ≤ key d' → key (f a' b' c' d').1 ≤ key (f a b c d).1 ∧ key (f a b c d).2 ≤ key (f a' b' c' d').2
theorem le_keys {x y : Nat} (h1 : isN x = false) (h2 : isN y = false) (h : leB x y = true) : key x ≤ key y := by
  rw [leB_of h1 h2] at h; simpa using h
theorem add_out {a b c d : Nat} (h : Ra a b) (g : Ra c d) : isN (cop .add a c) = false ∧ isN (cop .add b d) = false ∧ key (cop .add a c) ≤ key (cop .add b d) := by
  have n1 := add_nl h.na g.na h.la g.la
  have n2 := add_nh h.nb g.nb h.lb g.lb
  exact ⟨n1, n2, add_low h.na g.na h.nb g.nb h.la g.la h.o g.o n2⟩
theorem add_op : Op2 addP .add where
  ra := fun h g => by
    obtain ⟨n1, n2, k⟩ := add_out h g
    exact (out_in (Ex.cop_lt _ _ _) (Ex.cop_lt _ _ _) n1 n2 k).1
  mem := fun {a b c d x y} h g nx ny n h1 h2 h3 h4 => by
    obtain ⟨n1, n2, k⟩ := add_out h g
    have := (out_in (Ex.cop_lt _ _ _) (Ex.cop_lt _ _ _) n1 n2 k).2 _ n
    exact ⟨this.1 (add_low h.na g.na nx ny h.la g.la h1 h3 n), this.2 (add_high nx ny h.nb g.nb h.lb g.lb h2 h4 n)⟩
  wd := fun {a b c d a' b' c' d'} h g h' g' h1 h2 h3 h4 => by
    obtain ⟨n1, n2, k⟩ := add_out h g
    obtain ⟨n1', n2', k'⟩ := add_out h' g'
    have := out_wide (Ex.cop_lt .add a c) (Ex.cop_lt .add b d) (Ex.cop_lt .add a' c') (Ex.cop_lt .add b' d') n1 n2 n1' n2' (add_low h'.na g'.na h.na g.na h'.la g'.la h1 h3 n1) k (add_high h.nb g.nb h'.nb g'.nb h'.lb g'.lb h2 h4 n2)
    have r := (out_in (Ex.cop_lt .add a c) (Ex.cop_lt .add b d) n1 n2 k).1
    have r' := (out_in (Ex.cop_lt .add a' c') (Ex.cop_lt .add b' d') n1' n2' k').1
    exact ⟨le_keys r'.na r.na this.1, le_keys r.nb r'.nb this.2⟩
theorem subP_eq {a b c d : Nat} (g : Ra c d) : subP a b c d = addP a b (fl d) (fl c) := by
  unfold subP addP; rw [sub_add g.na, sub_add g.nb]
theorem sub_op : Op2 subP .sub where
  ra := fun h g => by rw [subP_eq g]; exact add_op.ra h g.flip
  mem := fun {a b c d x y} h g nx ny n h1 h2 h3 h4 => by
    rw [sub_add ny] at n ⊢
    rw [subP_eq g]
    exact add_op.mem h g.flip nx (fl_isN ny) n h1 h2 (by rw [fl_key g.nb, fl_key ny]; omega) (by rw [fl_key g.na, fl_key ny]; omega)
  wd := fun {a b c d a' b' c' d'} h g h' g' h1 h2 h3 h4 => by
    rw [subP_eq g, subP_eq g']
    exact add_op.wd h g.flip h' g'.flip h1 h2 (by rw [fl_key g.nb, fl_key g'.nb]; omega) (by rw [fl_key g.na, fl_key g'.na]; omega)

/-! ### Products -/
theorem fl_neg {x : Nat} (h : isN x = false) : neg (fl x) = !neg x := word_neg _ (isN_false h)
theorem fl_mod {x : Nat} (h : isN x = false) : fl x % p63 = x % p63 := word_mod _ (isN_false h)
theorem inf_or {x : Nat} (h : isN x = false) : (key x = infR ∨ key x = -(infR : Int)) ∨ x % p63 < infR := by
  by_cases h1 : key x = infR
  · exact .inl (.inl h1)
  · by_cases h2 : key x = -(infR : Int)
    · exact .inl (.inr h2)
    · exact .inr (fin_of_key h h1 h2)
theorem mul_num {x y : Nat} (nx : isN x = false) (ny : isN y = false) : isN (cop .mul x y) = false ∨ ((key x = infR ∨ key x = -(infR : Int)) ∧ key y = 0) ∨ (key x = 0 ∧ (key y = infR ∨ key y = -(infR : Int))) := by
  rcases inf_or nx with hx | hx
  · by_cases hy : key y = 0
    · exact .inr (.inl ⟨hx, hy⟩)
    · refine .inl (num_of_inf ?_)
      rw [(mul_with (inf_mod hx) hy ny).1]
      split <;> simp
  · rcases inf_or ny with hy | hy
    · by_cases hx0 : key x = 0
      · exact .inr (.inr ⟨hx0, hy⟩)
      · refine .inl (num_of_inf ?_)
        rw [(mul_with (inf_mod hy) hx0 nx).2]
        split <;> simp
    · exact .inl (mul_val hx hy).1
theorem mul_flk {x y : Nat} (nx : isN x = false) (ny : isN y = false) (n : isN (cop .mul x y) = false) : isN (cop .mul (fl x) y) = false ∧ key (cop .mul (fl x) y) = - key (cop .mul x y) := by
  have kx := fl_key nx
  have hn := fl_neg nx
  have hm := fl_mod nx
  rcases inf_or nx with hx | hx
  · by_cases hy : key y = 0
    · rw [(mul_none (inf_mod hx) hy).1] at n; cases n
    · have e1 := (mul_with (inf_mod hx) hy ny).1
      have e2 := (mul_with (x := fl x) (by rw [hm]; exact inf_mod hx) hy ny).1
      rw [hn] at e2
      refine ⟨num_of_inf ?_, ?_⟩
      · rw [e2]; split <;> simp
      · rw [e1, e2]; cases neg x <;> cases neg y <;> simp
  · rcases inf_or ny with hy | hy
    · by_cases hx0 : key x = 0
      · rw [(mul_none (inf_mod hy) hx0).2] at n; cases n
      · have e1 := (mul_with (inf_mod hy) hx0 nx).2
        have e2 := (mul_with (x := y) (y := fl x) (inf_mod hy) (by omega) (fl_isN nx)).2
        rw [hn] at e2
        refine ⟨num_of_inf ?_, ?_⟩
        · rw [e2]; split <;> simp
        · rw [e1, e2]; cases neg x <;> cases neg y <;> simp
    · obtain ⟨m1, m2, -⟩ := mul_val hx hy
      obtain ⟨l1, l2, -⟩ := mul_val (fl_fin hx) hy
      refine ⟨l1, ?_⟩
      rw [m2, l2, fl_V nx, Int.neg_mul, RK_neg]
theorem mul_com {x y : Nat} (nx : isN x = false) (ny : isN y = false) (n : isN (cop .mul x y) = false) : isN (cop .mul y x) = false ∧ key (cop .mul y x) = key (cop .mul x y) := by
  rcases inf_or nx with hx | hx
  · by_cases hy : key y = 0
    · rw [(mul_none (inf_mod hx) hy).1] at n; cases n
    · obtain ⟨e1, e2⟩ := mul_with (inf_mod hx) hy ny
      refine ⟨num_of_inf ?_, ?_⟩
      · rw [e2]; split <;> simp
      · rw [e1, e2]
  · rcases inf_or ny with hy | hy
    · by_cases hx0 : key x = 0
      · rw [(mul_none (inf_mod hy) hx0).2] at n; cases n
      · obtain ⟨e1, e2⟩ := mul_with (inf_mod hy) hx0 nx
        refine ⟨num_of_inf ?_, ?_⟩
        · rw [e1]; split <;> simp
        · rw [e1, e2]
    · obtain ⟨m1, m2, -⟩ := mul_val hx hy
      obtain ⟨l1, l2, -⟩ := mul_val hy hx
      exact ⟨l1, by rw [m2, l2, Int.mul_comm]⟩
theorem mul_flr {x y : Nat} (nx : isN x = false) (ny : isN y = false) (n : isN (cop .mul x y) = false) : isN (cop .mul x (fl y)) = false ∧ key (cop .mul x (fl y)) = - key (cop .mul x y) := by
  obtain ⟨a1, a2⟩ := mul_com nx ny n
  obtain ⟨b1, b2⟩ := mul_flk ny nx a1
  obtain ⟨c1, c2⟩ := mul_com (fl_isN ny) nx b1
  exact ⟨c1, by rw [c2, b2, a2]⟩
theorem mul_fl2 {x y : Nat} (nx : isN x = false) (ny : isN y = false) (n : isN (cop .mul x y) = false) : isN (cop .mul (fl x) (fl y)) = false ∧ key (cop .mul (fl x) (fl y)) = key (cop .mul x y) := by
  obtain ⟨a1, a2⟩ := mul_flk nx ny n
  obtain ⟨b1, b2⟩ := mul_flr (fl_isN nx) ny a1
  exact ⟨b1, by rw [b2, a2]; omega⟩
/-- By one that is not below 0: in order. -/
theorem mul_up {x x' y : Nat} (nx : isN x = false) (nx' : isN x' = false) (ny : isN y = false) (h : key x ≤ key x') (hy : 0 ≤ key y) (n : isN (cop .mul x y) = false) (n' : isN (cop .mul x' y) = false) : key (cop .mul x y) ≤ key (cop .mul x' y) := by
  have b := key_abs n
  have b' := key_abs n'
  have ax := key_abs nx
  have ax' := key_abs nx'
  have hp := infR_pos
  have NO : ∀ {z : Nat}, (key z = infR ∨ key z = -(infR : Int)) → isN (cop .mul z y) = false → 0 < key y := fun {z} hz hn => by
    rcases Int.lt_or_eq_of_le hy with g | g
    · exact g
    · rw [(mul_none (inf_mod hz) g.symm).1] at hn; cases hn
  by_cases c1 : key x = -(infR : Int)
  · have := (mul_below ny (.inl ⟨c1, NO (.inr c1) n⟩)).1; omega
  · by_cases c2 : key x' = infR
    · have := (mul_above ny (.inr ⟨c2, NO (.inl c2) n'⟩)).1; omega
    · have fx := fin_of_key nx (by omega) c1
      have fx' := fin_of_key nx' c2 (by omega)
      rcases inf_or ny with g | g
      · have gy : key y = infR := by omega
        rcases Int.lt_trichotomy (key x) 0 with s | s | s
        · have := (mul_below nx (.inr ⟨gy, s⟩)).2; omega
        · rw [(mul_none (inf_mod g) s).2] at n; cases n
        · have := (mul_above nx' (.inr ⟨gy, show 0 < key x' by omega⟩)).2; omega
      · rw [(mul_val fx g).2.1, (mul_val fx' g).2.1]
        refine RK_mono _ (Int.mul_le_mul_of_nonneg_right (V_le.2 h) ?_)
        have := @V_le 0 y
        rw [show V 0 = 0 by decide, show key 0 = 0 by decide] at this
        exact this.2 hy
theorem mul_up2 {x y y' : Nat} (nx : isN x = false) (ny : isN y = false) (ny' : isN y' = false) (h : key y ≤ key y') (hx : 0 ≤ key x) (n : isN (cop .mul x y) = false) (n' : isN (cop .mul x y') = false) : key (cop .mul x y) ≤ key (cop .mul x y') := by
  obtain ⟨a1, a2⟩ := mul_com nx ny n
  obtain ⟨b1, b2⟩ := mul_com nx ny' n'
  rw [← a2, ← b2]
  exact mul_up ny ny' nx h hx a1 b1
theorem mul_dn2 {x y y' : Nat} (nx : isN x = false) (ny : isN y = false) (ny' : isN y' = false) (h : key y ≤ key y') (hx : key x ≤ 0) (n : isN (cop .mul x y) = false) (n' : isN (cop .mul x y') = false) : key (cop .mul x y') ≤ key (cop .mul x y) := by
  obtain ⟨a1, a2⟩ := mul_flk nx ny n
  obtain ⟨b1, b2⟩ := mul_flk nx ny' n'
  have := mul_up2 (fl_isN nx) ny ny' h (by rw [fl_key nx]; omega) a1 b1
  omega
theorem mul_c1 {a b c d x y : Nat} (h : Ra a b) (g : Ra c d) (nx : isN x = false) (ny : isN y = false) (h1 : key a ≤ key x) (h3 : key c ≤ key y) (h4 : key y ≤ key d) (hy : 0 ≤ key y)
    (n : isN (cop .mul x y) = false) (n1 : isN (cop .mul a c) = false) (n2 : isN (cop .mul a d) = false) : key (cop .mul a c) ≤ key (cop .mul x y) ∨ key (cop .mul a d) ≤ key (cop .mul x y) := by
  have hp := infR_pos
  have ax := key_abs nx
  have ad := key_abs g.nb
  have la := h.la
  have bn := key_abs n
  rcases mul_num h.na ny with m | ⟨ha, h0⟩ | ⟨ha, h0⟩
  · have u := mul_up h.na nx ny h1 hy m n
    by_cases s : 0 ≤ key a
    · have := mul_up2 h.na g.na ny h3 s n1 m
      exact .inl (by omega)
    · have := mul_dn2 h.na ny g.nb h4 (by omega) m n2
      exact .inr (by omega)
  · have e : key a = -(infR : Int) := by omega
    rcases Int.lt_or_eq_of_le (show 0 ≤ key d by omega) with q | q
    · have := (mul_below g.nb (.inl ⟨e, q⟩)).1
      exact .inr (by omega)
    · rw [(mul_none (inf_mod (.inr e)) q.symm).1] at n2; cases n2
  · have e : key d = infR := by omega
    rw [(mul_none (inf_mod (.inl e)) ha).2] at n2; cases n2
theorem mul_lower {a b c d x y : Nat} (h : Ra a b) (g : Ra c d) (nx : isN x = false) (ny : isN y = false) (h1 : key a ≤ key x) (h2 : key x ≤ key b) (h3 : key c ≤ key y) (h4 : key y ≤ key d)
    (n : isN (cop .mul x y) = false) (n1 : isN (cop .mul a c) = false) (n2 : isN (cop .mul a d) = false) (n3 : isN (cop .mul b c) = false) (n4 : isN (cop .mul b d) = false) :
    key (cop .mul a c) ≤ key (cop .mul x y) ∨ key (cop .mul a d) ≤ key (cop .mul x y) ∨ key (cop .mul b c) ≤ key (cop .mul x y) ∨ key (cop .mul b d) ≤ key (cop .mul x y) := by
  by_cases hy : 0 ≤ key y
  · rcases mul_c1 h g nx ny h1 h3 h4 hy n n1 n2 with q | q
    · exact .inl q
    · exact .inr (.inl q)
  · obtain ⟨m, e⟩ := mul_fl2 nx ny n
    obtain ⟨m3, e3⟩ := mul_fl2 h.nb g.na n3
    obtain ⟨m4, e4⟩ := mul_fl2 h.nb g.nb n4
    have k1 := fl_key nx
    have k2 := fl_key ny
    have k3 := fl_key h.nb
    have k4 := fl_key g.na
    have k5 := fl_key g.nb
    rcases mul_c1 h.flip g.flip (fl_isN nx) (fl_isN ny) (by omega) (by omega) (by omega) (by omega) m m4 m3 with q | q
    · exact .inr (.inr (.inr (by omega)))
    · exact .inr (.inr (.inl (by omega)))
theorem mul_upper {a b c d x y : Nat} (h : Ra a b) (g : Ra c d) (nx : isN x = false) (ny : isN y = false) (h1 : key a ≤ key x) (h2 : key x ≤ key b) (h3 : key c ≤ key y) (h4 : key y ≤ key d)
    (n : isN (cop .mul x y) = false) (n1 : isN (cop .mul a c) = false) (n2 : isN (cop .mul a d) = false) (n3 : isN (cop .mul b c) = false) (n4 : isN (cop .mul b d) = false) :
    key (cop .mul x y) ≤ key (cop .mul a c) ∨ key (cop .mul x y) ≤ key (cop .mul a d) ∨ key (cop .mul x y) ≤ key (cop .mul b c) ∨ key (cop .mul x y) ≤ key (cop .mul b d) := by
  obtain ⟨m, e⟩ := mul_flk nx ny n
  obtain ⟨m1, e1⟩ := mul_flk h.na g.na n1
  obtain ⟨m2, e2⟩ := mul_flk h.na g.nb n2
  obtain ⟨m3, e3⟩ := mul_flk h.nb g.na n3
  obtain ⟨m4, e4⟩ := mul_flk h.nb g.nb n4
  have k1 := fl_key nx
  have k2 := fl_key h.na
  have k3 := fl_key h.nb
  have := mul_lower h.flip g (fl_isN nx) ny (by omega) (by omega) h3 h4 m m3 m4 m1 m2
  omega
/-- Where a product within is no number, corners are infinite, both ways. -/
theorem mul_nan {a b c d x y : Nat} (h : Ra a b) (g : Ra c d) (nx : isN x = false) (ny : isN y = false) (h1 : key a ≤ key x) (h2 : key x ≤ key b) (h3 : key c ≤ key y) (h4 : key y ≤ key d)
    (n : isN (cop .mul x y) = true) (n1 : isN (cop .mul a c) = false) (n2 : isN (cop .mul a d) = false) (n3 : isN (cop .mul b c) = false) (n4 : isN (cop .mul b d) = false) :
    (key (cop .mul a c) = -(infR : Int) ∨ key (cop .mul a d) = -(infR : Int) ∨ key (cop .mul b c) = -(infR : Int) ∨ key (cop .mul b d) = -(infR : Int)) ∧
    (key (cop .mul a c) = infR ∨ key (cop .mul a d) = infR ∨ key (cop .mul b c) = infR ∨ key (cop .mul b d) = infR) := by
  have hp := infR_pos
  have aa := key_abs h.na
  have ab := key_abs h.nb
  have ac := key_abs g.na
  have ad := key_abs g.nb
  have NO : ∀ {u v : Nat}, (key u = infR ∨ key u = -(infR : Int)) → isN (cop .mul u v) = false → key v ≠ 0 := fun {u v} hu hn e => by
    rw [(mul_none (inf_mod hu) e).1] at hn; cases hn
  have NO' : ∀ {u v : Nat}, (key u = infR ∨ key u = -(infR : Int)) → isN (cop .mul v u) = false → key v ≠ 0 := fun {u v} hu hn e => by
    rw [(mul_none (inf_mod hu) e).2] at hn; cases hn
  rcases mul_num nx ny with m | ⟨hx, h0⟩ | ⟨h0, hy⟩
  · rw [m] at n; cases n
  · rcases hx with hx | hx
    · have e : key b = infR := by omega
      have q1 := NO (.inl e) n3
      have q2 := NO (.inl e) n4
      exact ⟨.inr (.inr (.inl (mul_below g.na (.inr ⟨e, by omega⟩)).1)), .inr (.inr (.inr (mul_above g.nb (.inr ⟨e, by omega⟩)).1))⟩
    · have e : key a = -(infR : Int) := by omega
      have q1 := NO (.inr e) n1
      have q2 := NO (.inr e) n2
      exact ⟨.inr (.inl (mul_below g.nb (.inl ⟨e, by omega⟩)).1), .inl (mul_above g.na (.inl ⟨e, by omega⟩)).1⟩
  · rcases hy with hy | hy
    · have e : key d = infR := by omega
      have q1 := NO' (.inl e) n2
      have q2 := NO' (.inl e) n4
      exact ⟨.inr (.inl (mul_below h.na (.inr ⟨e, by omega⟩)).2), .inr (.inr (.inr (mul_above h.nb (.inr ⟨e, by omega⟩)).2))⟩
    · have e : key c = -(infR : Int) := by omega
      have q1 := NO' (.inr e) n1
      have q2 := NO' (.inr e) n3
      exact ⟨.inr (.inr (.inl (mul_below h.nb (.inl ⟨e, by omega⟩)).2)), .inl (mul_above h.na (.inl ⟨e, by omega⟩)).2⟩
/-- What is around four. -/
theorem around_cases {p q r t : Nat} (hp : p < 18446744073709551616) (hq : q < 18446744073709551616) (hr : r < 18446744073709551616) (ht : t < 18446744073709551616) :
    aroundP p q r t = (NI, PI) ∨ (isN p = false ∧ isN q = false ∧ isN r = false ∧ isN t = false ∧ Ra (aroundP p q r t).1 (aroundP p q r t).2 ∧
      ∀ v, isN v = false → ((key p ≤ key v ∨ key q ≤ key v ∨ key r ≤ key v ∨ key t ≤ key v) → key (aroundP p q r t).1 ≤ key v) ∧ ((key v ≤ key p ∨ key v ≤ key q ∨ key v ≤ key r ∨ key v ≤ key t) → key v ≤ key (aroundP p q r t).2)) := by
  cases np : isN p <;> cases nq : isN q <;> cases nr : isN r <;> cases nt : isN t
  case false.false.false.false =>
    refine .inr ⟨rfl, rfl, rfl, rfl, ?_⟩
    obtain ⟨l1, l2, l3⟩ := minL4 np nq nr nt
    obtain ⟨x1, x2, x3⟩ := maxL4 np nq nr nt
    have b1 := mem4_lt l3 hp hq hr ht
    have b2 := mem4_lt x3 hp hq hr ht
    unfold aroundP
    rw [np, nq, nr, nt]
    simp only [Bool.or_self, cond_false]
    clear l3 x3
    generalize minL p [p, q, r, t] = L at *
    generalize maxL p [p, q, r, t] = M at *
    have hLM : key L ≤ key M := by rw [l2, x2]; omega
    obtain ⟨r1, r2⟩ := out_in b1 b2 l1 x1 hLM
    refine ⟨r1, fun v hv => ⟨fun h => (r2 v hv).1 ?_, fun h => (r2 v hv).2 ?_⟩⟩
    · rw [l2]; exact min_le4 h
    · rw [x2]; exact le_max4 h
  all_goals
    refine .inl ?_
    unfold aroundP
    rw [np, nq, nr, nt]
    rfl
theorem whole_in {v : Nat} (h : isN v = false) : key NI ≤ key v ∧ key v ≤ key PI := by
  have := key_abs h
  rw [ni_key, pi_key]; exact this
/-- Corners whose place among others is known. -/
theorem around_wd {p q r t p' q' r' t' : Nat} (hp : p < 18446744073709551616) (hq : q < 18446744073709551616) (hr : r < 18446744073709551616) (ht : t < 18446744073709551616) (hp' : p' < 18446744073709551616) (hq' : q' < 18446744073709551616) (hr' : r' < 18446744073709551616) (ht' : t' < 18446744073709551616)
    (h : isN p' = false → isN q' = false → isN r' = false → isN t' = false → ∀ x ∈ [p, q, r, t], (isN x = false ∧ (key p' ≤ key x ∨ key q' ≤ key x ∨ key r' ≤ key x ∨ key t' ≤ key x) ∧ (key x ≤ key p' ∨ key x ≤ key q' ∨ key x ≤ key r' ∨ key x ≤ key t')) ∨
      ((key p' = -(infR : Int) ∨ key q' = -(infR : Int) ∨ key r' = -(infR : Int) ∨ key t' = -(infR : Int)) ∧ (key p' = infR ∨ key q' = infR ∨ key r' = infR ∨ key t' = infR))) :
    key (aroundP p' q' r' t').1 ≤ key (aroundP p q r t).1 ∧ key (aroundP p q r t).2 ≤ key (aroundP p' q' r' t').2 := by
  obtain ⟨m1, m2⟩ := aroundP_num p q r t
  rcases around_cases hp' hq' hr' ht' with e | ⟨n1, n2, n3, n4, -, hv⟩
  · rw [e]; exact ⟨(whole_in m1).1, (whole_in m2).2⟩
  · have h := h n1 n2 n3 n4
    have inf : ((key p' = -(infR : Int) ∨ key q' = -(infR : Int) ∨ key r' = -(infR : Int) ∨ key t' = -(infR : Int)) ∧ (key p' = infR ∨ key q' = infR ∨ key r' = infR ∨ key t' = infR)) → key (aroundP p' q' r' t').1 ≤ key (aroundP p q r t).1 ∧ key (aroundP p q r t).2 ≤ key (aroundP p' q' r' t').2 := fun ⟨f1, f2⟩ => by
      have k1 := key_abs m1
      have k2 := key_abs m2
      exact ⟨(hv _ m1).1 (by omega), (hv _ m2).2 (by omega)⟩
    have hp1 := h p (by simp)
    have hq1 := h q (by simp)
    have hr1 := h r (by simp)
    have ht1 := h t (by simp)
    rcases hp1 with ⟨np, hp1⟩ | f
    · rcases hq1 with ⟨nq, hq1⟩ | f
      · rcases hr1 with ⟨nr, hr1⟩ | f
        · rcases ht1 with ⟨nt, ht1⟩ | f
          · have := around_wide ⟨np, hp⟩ ⟨nq, hq⟩ ⟨nr, hr⟩ ⟨nt, ht⟩ ⟨n1, hp'⟩ ⟨n2, hq'⟩ ⟨n3, hr'⟩ ⟨n4, ht'⟩ (fun x hx => by
              simp only [List.mem_cons, List.not_mem_nil, or_false] at hx
              rcases hx with rfl | rfl | rfl | rfl
              · exact hp1
              · exact hq1
              · exact hr1
              · exact ht1)
            obtain ⟨u1, u2⟩ := aroundP_num p' q' r' t'
            exact ⟨le_keys u1 m1 this.1, le_keys m2 u2 this.2⟩
          · exact inf f
        · exact inf f
      · exact inf f
    · exact inf f
theorem mul_op : Op2 mulP .mul where
  ra := fun {a b c d} h g => by
    rcases around_cases (Ex.cop_lt .mul a c) (Ex.cop_lt .mul a d) (Ex.cop_lt .mul b c) (Ex.cop_lt .mul b d) with e | ⟨-, -, -, -, r, -⟩
    · unfold mulP; rw [e]; exact Ra.whole
    · exact r
  mem := fun {a b c d x y} h g nx ny n h1 h2 h3 h4 => by
    unfold mulP
    rcases around_cases (Ex.cop_lt .mul a c) (Ex.cop_lt .mul a d) (Ex.cop_lt .mul b c) (Ex.cop_lt .mul b d) with e | ⟨n1, n2, n3, n4, -, r⟩
    · rw [e]; exact whole_in n
    · exact ⟨(r _ n).1 (mul_lower h g nx ny h1 h2 h3 h4 n n1 n2 n3 n4), (r _ n).2 (mul_upper h g nx ny h1 h2 h3 h4 n n1 n2 n3 n4)⟩
  wd := fun {a b c d a' b' c' d'} h g h' g' h1 h2 h3 h4 => by
    unfold mulP
    refine around_wd (Ex.cop_lt _ _ _) (Ex.cop_lt _ _ _) (Ex.cop_lt _ _ _) (Ex.cop_lt _ _ _) (Ex.cop_lt _ _ _) (Ex.cop_lt _ _ _) (Ex.cop_lt _ _ _) (Ex.cop_lt _ _ _) fun n1 n2 n3 n4 => ?_
    have ho := h.o
    have go := g.o
    have one : ∀ {x y : Nat}, isN x = false → isN y = false → key a ≤ key x → key x ≤ key b → key c ≤ key y → key y ≤ key d → _ := fun {x y} nx ny e1 e2 e3 e4 => show
        (isN (cop .mul x y) = false ∧ (key (cop .mul a' c') ≤ key (cop .mul x y) ∨ key (cop .mul a' d') ≤ key (cop .mul x y) ∨ key (cop .mul b' c') ≤ key (cop .mul x y) ∨ key (cop .mul b' d') ≤ key (cop .mul x y)) ∧ (key (cop .mul x y) ≤ key (cop .mul a' c') ∨ key (cop .mul x y) ≤ key (cop .mul a' d') ∨ key (cop .mul x y) ≤ key (cop .mul b' c') ∨ key (cop .mul x y) ≤ key (cop .mul b' d'))) ∨
        ((key (cop .mul a' c') = -(infR : Int) ∨ key (cop .mul a' d') = -(infR : Int) ∨ key (cop .mul b' c') = -(infR : Int) ∨ key (cop .mul b' d') = -(infR : Int)) ∧ (key (cop .mul a' c') = infR ∨ key (cop .mul a' d') = infR ∨ key (cop .mul b' c') = infR ∨ key (cop .mul b' d') = infR)) from by
      cases n : isN (cop .mul x y)
      · exact .inl ⟨rfl, mul_lower h' g' nx ny (by omega) (by omega) (by omega) (by omega) n n1 n2 n3 n4, mul_upper h' g' nx ny (by omega) (by omega) (by omega) (by omega) n n1 n2 n3 n4⟩
      · exact .inr (mul_nan h' g' nx ny (by omega) (by omega) (by omega) (by omega) n n1 n2 n3 n4)
    intro x hx
    simp only [List.mem_cons, List.not_mem_nil, or_false] at hx
    rcases hx with rfl | rfl | rfl | rfl
    · exact one h.na g.na (Int.le_refl _) ho (Int.le_refl _) go
    · exact one h.na g.nb (Int.le_refl _) ho go (Int.le_refl _)
    · exact one h.nb g.na ho (Int.le_refl _) (Int.le_refl _) go
    · exact one h.nb g.nb ho (Int.le_refl _) go (Int.le_refl _)

/-! ### Quotients -/
theorem quo_word {a b : Nat} {s : Bool} {r : Nat} (e : double.div a b = some (double.word s r)) (hr : r ≤ infR) : isN (cop .quo a b) = false ∧ key (cop .quo a b) = sgd s r ∧ cop .quo a b % p63 = r := by
  have e' : floatBits .quo .f64 a b = some (double.word s r) := e
  have : cop .quo a b = double.word s r := by unfold cop; rw [e']; exact canon_num (word_isN _ hr)
  rw [this]; exact ⟨word_isN _ hr, word_key _ hr, word_mod _ hr⟩
theorem quo_if {x y : Nat} (hx : x % p63 = infR) (hy : y % p63 < infR) : isN (cop .quo x y) = false ∧ key (cop .quo x y) = sgd (neg x ^^ neg y) infR := by
  obtain ⟨m, p, g, -, -⟩ := read_fin hy
  have e : double.div x y = some (double.word (neg x ^^ neg y) infR) := by
    unfold Ieee.Format.div; rw [read_inf hx, g]; rfl
  have := quo_word e (Nat.le_refl _)
  exact ⟨this.1, this.2.1⟩
theorem quo_fi {x y : Nat} (hx : x % p63 < infR) (hy : y % p63 = infR) : isN (cop .quo x y) = false ∧ key (cop .quo x y) = 0 := by
  obtain ⟨m, p, g, -, -⟩ := read_fin hx
  have e : double.div x y = some (double.word (neg x ^^ neg y) 0) := by
    unfold Ieee.Format.div; rw [read_inf hy, g]
    show some (double.write (.number (neg x ^^ neg y) 0 0)) = _
    cases (neg x ^^ neg y) <;> decide
  have := quo_word e (Nat.zero_le _)
  exact ⟨this.1, by rw [this.2.1]; unfold sgd; split <;> rfl⟩
theorem quo_ii {x y : Nat} (hx : x % p63 = infR) (hy : y % p63 = infR) : isN (cop .quo x y) = true := by
  have e : floatBits .quo .f64 x y = none := by
    show double.div x y = none
    unfold Ieee.Format.div; rw [read_inf hx, read_inf hy]; rfl
  unfold cop; rw [e]; decide
/-- Signs alone turn a quotient. -/
theorem quo_sgn {x y : Nat} (nx : isN x = false) (ny : isN y = false) (h0 : key y ≠ 0) (n : isN (cop .quo x y) = false) : ∃ r, r ≤ infR ∧ ∀ x' y', x' % p63 = x % p63 → y' % p63 = y % p63 → isN (cop .quo x' y') = false ∧ key (cop .quo x' y') = sgd (neg x' ^^ neg y') r := by
  rcases inf_or nx with hx | hx
  · rcases inf_or ny with hy | hy
    · rw [quo_ii (inf_mod hx) (inf_mod hy)] at n; cases n
    · exact ⟨infR, Nat.le_refl _, fun x' y' e1 e2 => quo_if (by rw [e1]; exact inf_mod hx) (by rw [e2]; exact hy)⟩
  · rcases inf_or ny with hy | hy
    · refine ⟨0, Nat.zero_le _, fun x' y' e1 e2 => ?_⟩
      have := quo_fi (x := x') (y := y') (by rw [e1]; exact hx) (by rw [e2]; exact inf_mod hy)
      exact ⟨this.1, by rw [this.2]; unfold sgd; split <;> rfl⟩
    · have z : y % p63 ≠ 0 := by intro e; apply h0; rw [key_eq, e]; unfold sgd; split <;> rfl
      obtain ⟨L0, q⟩ := quo_big hx hy z
      refine ⟨cop .quo x y % p63, isN_false n, fun x' y' e1 e2 => ?_⟩
      obtain ⟨L1, q'⟩ := quo_big (x := x') (y := y') (by rw [e1]; exact hx) (by rw [e2]; exact hy) (by rw [e2]; exact z)
      have a := quo_word (q (L0 + L1) (by omega)) (rungOf_le_inf _ _)
      have b := quo_word (q' (L0 + L1) (by omega)) (rungOf_le_inf _ _)
      rw [e1, e2] at b
      rw [a.2.2]
      exact ⟨b.1, b.2.1⟩
theorem quo_flk {x y : Nat} (nx : isN x = false) (ny : isN y = false) (h0 : key y ≠ 0) (n : isN (cop .quo x y) = false) : isN (cop .quo (fl x) y) = false ∧ key (cop .quo (fl x) y) = - key (cop .quo x y) := by
  obtain ⟨r, -, h⟩ := quo_sgn nx ny h0 n
  have a := h x y rfl rfl
  have b := h (fl x) y (fl_mod nx) rfl
  refine ⟨b.1, ?_⟩
  rw [a.2, b.2, fl_neg nx]
  unfold sgd; cases neg x <;> cases neg y <;> simp
theorem quo_fl2 {x y : Nat} (nx : isN x = false) (ny : isN y = false) (h0 : key y ≠ 0) (n : isN (cop .quo x y) = false) : isN (cop .quo (fl x) (fl y)) = false ∧ key (cop .quo (fl x) (fl y)) = key (cop .quo x y) := by
  obtain ⟨r, -, h⟩ := quo_sgn nx ny h0 n
  have a := h x y rfl rfl
  have b := h (fl x) (fl y) (fl_mod nx) (fl_mod ny)
  refine ⟨b.1, ?_⟩
  rw [a.2, b.2, fl_neg nx, fl_neg ny]
  cases neg x <;> cases neg y <;> simp
theorem V_nonneg {x : Nat} : 0 ≤ V x ↔ 0 ≤ key x := by
  have := @V_le 0 x
  rw [show V 0 = 0 by decide, show key 0 = 0 by decide] at this
  exact this
theorem quo_pos {x y : Nat} (nx : isN x = false) (ny : isN y = false) (hx : 0 ≤ key x) (hy : 0 < key y) (n : isN (cop .quo x y) = false) : 0 ≤ key (cop .quo x y) := by
  have hp := infR_pos
  rcases inf_or nx with gx | gx
  · rcases inf_or ny with gy | gy
    · rw [quo_ii (inf_mod gx) (inf_mod gy)] at n; cases n
    · rw [(quo_if (inf_mod gx) gy).2, (neg_keys x).1 (by omega), (neg_keys y).1 hy]
      show (0 : Int) ≤ infR
      omega
  · rcases inf_or ny with gy | gy
    · rw [(quo_fi gx (inf_mod gy)).2]; exact Int.le_refl _
    · have := ((quo_val gx gy (by omega)).2.2 0 (by decide)).1 hy
      rw [show V 0 = 0 by decide, show key 0 = 0 by decide, Int.zero_mul] at this
      exact this.1 (Int.mul_nonneg (V_nonneg.2 hx) (Int.natCast_nonneg _))
theorem quo_c1 {a b c d x y : Nat} (h : Ra a b) (g : Ra c d) (nx : isN x = false) (ny : isN y = false) (h1 : key a ≤ key x) (h3 : key c ≤ key y) (h4 : key y ≤ key d) (hc : 0 < key c)
    (n : isN (cop .quo x y) = false) (n1 : isN (cop .quo a c) = false) (n2 : isN (cop .quo a d) = false) : key (cop .quo a c) ≤ key (cop .quo x y) ∨ key (cop .quo a d) ≤ key (cop .quo x y) := by
  have hp := infR_pos
  have la := h.la
  have ax := key_abs nx
  have ay := key_abs ny
  have aa := key_abs h.na
  have big : key x = infR → y % p63 < infR → key (cop .quo x y) = infR := fun e gy => by
    rw [(quo_if (inf_mod (.inl e)) gy).2, (neg_keys x).1 (by omega), (neg_keys y).1 (by omega)]; rfl
  by_cases s : 0 ≤ key a
  · refine .inr ?_
    rcases inf_or h.na with ga | ga
    · omega
    rcases inf_or g.nb with gd | gd
    · rw [(quo_fi ga (inf_mod gd)).2]
      exact quo_pos nx ny (by omega) (by omega) n
    · obtain ⟨d1, d2, -⟩ := key_fin gd
      have ad := key_abs g.nb
      have gy : y % p63 < infR := fin_of_key ny (by omega) (by omega)
      rcases inf_or nx with gx | gx
      · rw [big (by omega) gy]; exact (key_abs n2).2
      · refine quo_mono ga gd gx gy (.inl ⟨by omega, by omega⟩) ?_
        have v1 := V_le.2 h1
        have v2 := V_le.2 h4
        have v3 := V_nonneg.2 s
        have v4 := V_nonneg (x := d).2 (by omega)
        exact Int.le_trans (Int.mul_le_mul_of_nonneg_left v2 v3) (Int.mul_le_mul_of_nonneg_right v1 v4)
  · refine .inl ?_
    rcases inf_or g.na with gc | gc
    · have e : key c = infR := by omega
      have ey : key y = infR := by omega
      rcases inf_or h.na with ga | ga
      · rw [quo_ii (inf_mod ga) (inf_mod gc)] at n1; cases n1
      rcases inf_or nx with gx | gx
      · rw [quo_ii (inf_mod gx) (inf_mod (.inl ey))] at n; cases n
      rw [(quo_fi ga (inf_mod gc)).2, (quo_fi gx (inf_mod (.inl ey))).2]; exact Int.le_refl _
    · rcases inf_or h.na with ga | ga
      · rw [(quo_if (inf_mod ga) gc).2, (neg_keys a).2 (by omega), (neg_keys c).1 hc]
        exact (key_abs n).1
      · obtain ⟨a1, a2, -⟩ := key_fin ga
        have va : V a < 0 := V_neg_key.2 (by omega)
        rcases inf_or ny with gy | gy
        · rcases inf_or nx with gx | gx
          · rw [quo_ii (inf_mod gx) (inf_mod gy)] at n; cases n
          rw [(quo_fi gx (inf_mod gy)).2]
          have := ((quo_val ga gc (by omega)).2.2 0 (by decide)).1 hc
          rw [show V 0 = 0 by decide, show key 0 = 0 by decide, Int.zero_mul] at this
          exact this.2 (Int.mul_nonpos_of_nonpos_of_nonneg (Int.le_of_lt va) (Int.natCast_nonneg _))
        · rcases inf_or nx with gx | gx
          · rw [big (by omega) gy]; exact (key_abs n1).2
          · refine quo_mono ga gc gx gy (.inl ⟨hc, by omega⟩) ?_
            have v1 := V_le.2 h1
            have v2 := V_le.2 h3
            have v4 := V_nonneg (x := c).2 (by omega)
            exact Int.le_trans (Int.mul_le_mul_of_nonpos_left (Int.le_of_lt va) v2) (Int.mul_le_mul_of_nonneg_right v1 v4)
theorem quo_lower {a b c d x y : Nat} (h : Ra a b) (g : Ra c d) (nx : isN x = false) (ny : isN y = false) (h1 : key a ≤ key x) (h2 : key x ≤ key b) (h3 : key c ≤ key y) (h4 : key y ≤ key d) (h0 : 0 < key c ∨ key d < 0)
    (n : isN (cop .quo x y) = false) (n1 : isN (cop .quo a c) = false) (n2 : isN (cop .quo a d) = false) (n3 : isN (cop .quo b c) = false) (n4 : isN (cop .quo b d) = false) :
    key (cop .quo a c) ≤ key (cop .quo x y) ∨ key (cop .quo a d) ≤ key (cop .quo x y) ∨ key (cop .quo b c) ≤ key (cop .quo x y) ∨ key (cop .quo b d) ≤ key (cop .quo x y) := by
  have go := g.o
  rcases h0 with hc | hd
  · rcases quo_c1 h g nx ny h1 h3 h4 hc n n1 n2 with q | q
    · exact .inl q
    · exact .inr (.inl q)
  · obtain ⟨m, e⟩ := quo_fl2 nx ny (by omega) n
    obtain ⟨m3, e3⟩ := quo_fl2 h.nb g.na (by omega) n3
    obtain ⟨m4, e4⟩ := quo_fl2 h.nb g.nb (by omega) n4
    have k1 := fl_key nx
    have k2 := fl_key ny
    have k3 := fl_key h.nb
    have k4 := fl_key g.na
    have k5 := fl_key g.nb
    rcases quo_c1 h.flip g.flip (fl_isN nx) (fl_isN ny) (by omega) (by omega) (by omega) (by omega) m m4 m3 with q | q
    · exact .inr (.inr (.inr (by omega)))
    · exact .inr (.inr (.inl (by omega)))
theorem quo_upper {a b c d x y : Nat} (h : Ra a b) (g : Ra c d) (nx : isN x = false) (ny : isN y = false) (h1 : key a ≤ key x) (h2 : key x ≤ key b) (h3 : key c ≤ key y) (h4 : key y ≤ key d) (h0 : 0 < key c ∨ key d < 0)
    (n : isN (cop .quo x y) = false) (n1 : isN (cop .quo a c) = false) (n2 : isN (cop .quo a d) = false) (n3 : isN (cop .quo b c) = false) (n4 : isN (cop .quo b d) = false) :
    key (cop .quo x y) ≤ key (cop .quo a c) ∨ key (cop .quo x y) ≤ key (cop .quo a d) ∨ key (cop .quo x y) ≤ key (cop .quo b c) ∨ key (cop .quo x y) ≤ key (cop .quo b d) := by
  have go := g.o
  obtain ⟨m, e⟩ := quo_flk nx ny (by omega) n
  obtain ⟨m1, e1⟩ := quo_flk h.na g.na (by omega) n1
  obtain ⟨m2, e2⟩ := quo_flk h.na g.nb (by omega) n2
  obtain ⟨m3, e3⟩ := quo_flk h.nb g.na (by omega) n3
  obtain ⟨m4, e4⟩ := quo_flk h.nb g.nb (by omega) n4
  have k1 := fl_key nx
  have k2 := fl_key h.na
  have k3 := fl_key h.nb
  have := quo_lower h.flip g (fl_isN nx) ny (by omega) (by omega) h3 h4 h0 m m3 m4 m1 m2
  omega
theorem quo_nan {a b c d x y : Nat} (h : Ra a b) (g : Ra c d) (nx : isN x = false) (ny : isN y = false) (h1 : key a ≤ key x) (h2 : key x ≤ key b) (h3 : key c ≤ key y) (h4 : key y ≤ key d) (h0 : 0 < key c ∨ key d < 0)
    (n1 : isN (cop .quo a c) = false) (n2 : isN (cop .quo a d) = false) (n3 : isN (cop .quo b c) = false) (n4 : isN (cop .quo b d) = false) : isN (cop .quo x y) = false := by
  have hp := infR_pos
  have aa := key_abs h.na
  have ab := key_abs h.nb
  have ac := key_abs g.na
  have ad := key_abs g.nb
  have NO : ∀ {u v : Nat}, (key u = infR ∨ key u = -(infR : Int)) → (key v = infR ∨ key v = -(infR : Int)) → isN (cop .quo u v) = false → False := fun {u v} hu hv hn => by
    rw [quo_ii (inf_mod hu) (inf_mod hv)] at hn; cases hn
  rcases inf_or nx with gx | gx
  · rcases inf_or ny with gy | gy
    · exfalso
      rcases gx with gx | gx <;> rcases gy with gy | gy
      · exact NO (u := b) (v := d) (by omega) (by omega) n4
      · exact NO (u := b) (v := c) (by omega) (by omega) n3
      · exact NO (u := a) (v := d) (by omega) (by omega) n2
      · exact NO (u := a) (v := c) (by omega) (by omega) n1
    · exact (quo_if (inf_mod gx) gy).1
  · rcases inf_or ny with gy | gy
    · exact (quo_fi gx (inf_mod gy)).1
    · exact (quo_val gx gy (by omega)).1
theorem zero_off {c d : Nat} (g : Ra c d) : ((leB c 0 && leB 0 d) = true ∧ key c ≤ 0 ∧ 0 ≤ key d) ∨ ((leB c 0 && leB 0 d) = false ∧ (0 < key c ∨ key d < 0)) := by
  have z : key 0 = 0 := by decide
  have n0 : isN 0 = false := by decide
  rw [leB_of g.na n0, leB_of n0 g.nb, z]
  by_cases q : key c ≤ 0
  · by_cases r : 0 ≤ key d
    · exact .inl ⟨by rw [decide_eq_true q, decide_eq_true r]; rfl, q, r⟩
    · exact .inr ⟨by rw [decide_eq_false r, Bool.and_false], by omega⟩
  · exact .inr ⟨by rw [decide_eq_false q, Bool.false_and], by omega⟩
theorem div_op : Op2 divP .quo where
  ra := fun {a b c d} h g => by
    unfold divP
    cases leB c 0 && leB 0 d
    · simp only [cond_false]
      rcases around_cases (Ex.cop_lt .quo a c) (Ex.cop_lt .quo a d) (Ex.cop_lt .quo b c) (Ex.cop_lt .quo b d) with e | ⟨-, -, -, -, r, -⟩
      · rw [e]; exact Ra.whole
      · exact r
    · exact Ra.whole
  mem := fun {a b c d x y} h g nx ny n h1 h2 h3 h4 => by
    unfold divP
    rcases zero_off g with ⟨e, -⟩ | ⟨e, h0⟩ <;> rw [e]
    · exact whole_in n
    · simp only [cond_false]
      rcases around_cases (Ex.cop_lt .quo a c) (Ex.cop_lt .quo a d) (Ex.cop_lt .quo b c) (Ex.cop_lt .quo b d) with e | ⟨n1, n2, n3, n4, -, r⟩
      · rw [e]; exact whole_in n
      · exact ⟨(r _ n).1 (quo_lower h g nx ny h1 h2 h3 h4 h0 n n1 n2 n3 n4), (r _ n).2 (quo_upper h g nx ny h1 h2 h3 h4 h0 n n1 n2 n3 n4)⟩
  wd := fun {a b c d a' b' c' d'} h g h' g' h1 h2 h3 h4 => by
    obtain ⟨m1, m2⟩ := divP_num a b c d
    rcases zero_off g' with ⟨e', -⟩ | ⟨e', h0⟩
    · have : divP a' b' c' d' = (NI, PI) := by unfold divP; rw [e']; rfl
      rw [this]; exact ⟨(whole_in m1).1, (whole_in m2).2⟩
    · have ho := h.o
      have go := g.o
      have e : (leB c 0 && leB 0 d) = false := by
        rcases zero_off g with ⟨-, e1, e2⟩ | ⟨e, -⟩
        · omega
        · exact e
      unfold divP
      rw [e, e']
      simp only [cond_false]
      refine around_wd (Ex.cop_lt _ _ _) (Ex.cop_lt _ _ _) (Ex.cop_lt _ _ _) (Ex.cop_lt _ _ _) (Ex.cop_lt _ _ _) (Ex.cop_lt _ _ _) (Ex.cop_lt _ _ _) (Ex.cop_lt _ _ _) fun n1 n2 n3 n4 => ?_
      have one : ∀ {x y : Nat}, isN x = false → isN y = false → key a ≤ key x → key x ≤ key b → key c ≤ key y → key y ≤ key d → _ := fun {x y} nx ny e1 e2 e3 e4 => show
          (isN (cop .quo x y) = false ∧ (key (cop .quo a' c') ≤ key (cop .quo x y) ∨ key (cop .quo a' d') ≤ key (cop .quo x y) ∨ key (cop .quo b' c') ≤ key (cop .quo x y) ∨ key (cop .quo b' d') ≤ key (cop .quo x y)) ∧ (key (cop .quo x y) ≤ key (cop .quo a' c') ∨ key (cop .quo x y) ≤ key (cop .quo a' d') ∨ key (cop .quo x y) ≤ key (cop .quo b' c') ∨ key (cop .quo x y) ≤ key (cop .quo b' d'))) ∨
          ((key (cop .quo a' c') = -(infR : Int) ∨ key (cop .quo a' d') = -(infR : Int) ∨ key (cop .quo b' c') = -(infR : Int) ∨ key (cop .quo b' d') = -(infR : Int)) ∧ (key (cop .quo a' c') = infR ∨ key (cop .quo a' d') = infR ∨ key (cop .quo b' c') = infR ∨ key (cop .quo b' d') = infR)) from by
        have n := quo_nan h' g' nx ny (by omega) (by omega) (by omega) (by omega) h0 n1 n2 n3 n4
        exact .inl ⟨n, quo_lower h' g' nx ny (by omega) (by omega) (by omega) (by omega) h0 n n1 n2 n3 n4, quo_upper h' g' nx ny (by omega) (by omega) (by omega) (by omega) h0 n n1 n2 n3 n4⟩
      intro x hx
      simp only [List.mem_cons, List.not_mem_nil, or_false] at hx
      rcases hx with rfl | rfl | rfl | rfl
      · exact one h.na g.na (Int.le_refl _) ho (Int.le_refl _) go
      · exact one h.na g.nb (Int.le_refl _) ho go (Int.le_refl _)
      · exact one h.nb g.na ho (Int.le_refl _) (Int.le_refl _) go
      · exact one h.nb g.nb ho (Int.le_refl _) go (Int.le_refl _)
end Go.Proofs.Ytbepaoliboooaaa
