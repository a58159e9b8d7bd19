/-
  What from-tos hold: sums, differences, products. No condition but those in the statements.
-/
import Derived.Test.YtbepaoliboooaaaIvs
namespace Go.Proofs.Ytbepaoliboooaaa
open Ieee (double)
open Ex (outP aroundP addP subP mulP)

/-- Numbers in units of the least: x is no more than T, no less. -/
def Lo (x : Nat) (T : Int) : Prop := isN x = false ∧ (key x = -(infR : Int) ∨ V x ≤ T)
def Hi (x : Nat) (T : Int) : Prop := isN x = false ∧ (key x = infR ∨ T ≤ V x)
/-- Not so great as what is infinite. -/
def Sm (T : Int) : Prop := -(U infR : Int) < T ∧ T < U infR

theorem V_of_key_inf {x : Nat} (h : key x = infR) : V x = U infR := by
  have hp : (0 : Int) < infR := by decide
  rw [key_eq] at h
  unfold sgd at h
  unfold V sgd
  cases hn : neg x <;> rw [hn] at h <;> simp only [Bool.false_eq_true, if_false, if_true] at h ⊢
  · rw [show x % p63 = infR by omega]
  · omega
theorem V_of_key_ninf {x : Nat} (h : key x = -(infR : Int)) : V x = -(U infR : Int) := by
  have hp : (0 : Int) < infR := by decide
  rw [key_eq] at h
  unfold sgd at h
  unfold V sgd
  cases hn : neg x <;> rw [hn] at h <;> simp only [Bool.false_eq_true, if_false, if_true] at h ⊢
  · omega
  · rw [show x % p63 = infR by omega]
theorem fin_of_key {x : Nat} (hN : isN x = false) (h1 : key x ≠ infR) (h2 : key x ≠ -(infR : Int)) : x % p63 < infR := by
  have h := isN_false hN
  rcases Nat.lt_or_ge (x % p63) infR with g | g
  · exact g
  · have e : x % p63 = infR := by omega
    exfalso
    have := key_eq x
    unfold sgd at this
    split at this
    · exact h2 (by rw [this, e])
    · exact h1 (by rw [this, e])
/-- What is no more than a number that is not too great is finite, or infinite below. -/
theorem Lo.cases {x : Nat} {T : Int} (h : Lo x T) (hT : Sm T) : key x = -(infR : Int) ∨ (x % p63 < infR ∧ V x ≤ T) := by
  rcases h.2 with g | g
  · exact .inl g
  · by_cases h2 : key x = -(infR : Int)
    · exact .inl h2
    · refine .inr ⟨fin_of_key h.1 (fun h1 => ?_) h2, g⟩
      have := V_of_key_inf h1
      have := hT.2
      omega
theorem Hi.cases {x : Nat} {T : Int} (h : Hi x T) (hT : Sm T) : key x = infR ∨ (x % p63 < infR ∧ T ≤ V x) := by
  rcases h.2 with g | g
  · exact .inl g
  · by_cases h2 : key x = infR
    · exact .inl h2
    · refine .inr ⟨fin_of_key h.1 h2 (fun h1 => ?_), g⟩
      have := V_of_key_ninf h1
      have := hT.1
      omega

theorem isN_down {x : Nat} (h : isN (downB x) = false) : isN x = false := by
  cases hn : isN x
  · rfl
  · unfold downB at h; rw [if_pos hn] at h; exact absurd h (by decide)
theorem isN_up {x : Nat} (h : isN (upB x) = false) : isN x = false := by
  cases hn : isN x
  · rfl
  · unfold upB at h; rw [if_pos hn] at h; exact absurd h (by decide)
/-- One number further down is no more than what was rounded. -/
theorem down_lo {x : Nat} {R : Int} (hx : x < 18446744073709551616) (hN : isN x = false) (h : key x ≤ RK R (-1074)) : Lo (downB x) R := by
  obtain ⟨k1, k2, k3⟩ := down_key hx hN
  refine ⟨k2, ?_⟩
  by_cases hi : key x = -(infR : Int)
  · rw [if_pos hi] at k1; exact .inl (by rw [k1, hi])
  · rw [if_neg hi] at k1
    refine .inr ?_
    rcases Int.lt_or_le R (V (downB x)) with g | g
    · exfalso
      have := RK_mono (-1074) (Int.le_of_lt g)
      rw [RK_V (isN_false k2)] at this
      omega
    · exact g
theorem up_hi {x : Nat} {R : Int} (hx : x < 18446744073709551616) (hN : isN x = false) (h : RK R (-1074) ≤ key x) : Hi (upB x) R := by
  obtain ⟨k1, k2, k3⟩ := up_key hx hN
  refine ⟨k2, ?_⟩
  by_cases hi : key x = infR
  · rw [if_pos hi] at k1; exact .inl (by rw [k1, hi])
  · rw [if_neg hi] at k1
    refine .inr ?_
    rcases Int.lt_or_le (V (upB x)) R with g | g
    · exfalso
      have := RK_mono (-1074) (Int.le_of_lt g)
      rw [RK_V (isN_false k2)] at this
      omega
    · exact g
theorem lo_inf (R : Int) : Lo 18442240474082181120 R := ⟨by decide, .inl (by decide)⟩
theorem hi_inf (R : Int) : Hi 9218868437227405312 R := ⟨by decide, .inl (by decide)⟩
/-- What is told of two ends that are rounded. -/
theorem out_enc {p q : Nat} {R : Int} (hp : p < 18446744073709551616) (hq : q < 18446744073709551616) (h1 : isN p = false → key p ≤ RK R (-1074)) (h2 : isN q = false → RK R (-1074) ≤ key q) : Lo (outP p q).1 R ∧ Hi (outP p q).2 R := by
  unfold Ex.outP
  cases hl : leB (downB p) (upB q)
  · exact ⟨lo_inf R, hi_inf R⟩
  · simp only [cond_true]
    unfold leB at hl
    simp only [Bool.and_eq_true, Bool.not_eq_true'] at hl
    have n1 := isN_down hl.1.1
    have n2 := isN_up hl.1.2
    exact ⟨down_lo hp n1 (h1 n1), up_hi hq n2 (h2 n2)⟩
theorem RK_lo (R : Int) : -(infR : Int) ≤ RK R (-1074) := (RK_bound R (-1074)).1
theorem RK_hi (R : Int) : RK R (-1074) ≤ infR := (RK_bound R (-1074)).2

/-- A sum with what is infinite. -/
theorem add_inf {x y : Nat} (hx : key x = -(infR : Int) ∨ key y = -(infR : Int)) (hx1 : key x ≠ infR) (hy1 : key y ≠ infR) (nx : isN x = false) (ny : isN y = false) : key (cop .add x y) = -(infR : Int) := by
  have hi : ∀ z, key z = -(infR : Int) → z % p63 = infR ∧ neg z = true := fun z h => by
    have hp : (0 : Int) < infR := by decide
    rw [key_eq] at h
    unfold sgd at h
    cases hn : neg z <;> rw [hn] at h <;> simp only [Bool.false_eq_true, if_false, if_true] at h
    · omega
    · exact ⟨by omega, rfl⟩
  have word : ∀ {r}, floatBits .add .f64 x y = some r → r = double.word true infR → key (cop .add x y) = -(infR : Int) := fun {r} h e => by
    rw [cop_some h, e, canon_num (by decide)]; decide
  have rd : ∀ z, key z ≠ infR → isN z = false → (∃ s m p, double.read z = .number s m p) ∨ double.read z = .infinity true := fun z h1 h2 => by
    by_cases hz : z % p63 < infR
    · obtain ⟨m, p, e, -⟩ := read_fin hz
      exact .inl ⟨_, _, _, e⟩
    · have e : z % p63 = infR := by have := isN_false h2; omega
      refine .inr ?_
      rw [read_inf e]
      have := key_eq z
      unfold sgd at this
      cases hn : neg z
      · rw [hn] at this; simp only [Bool.false_eq_true, if_false] at this; exact absurd (by rw [this, e]) h1
      · rfl
  have fb : floatBits .add .f64 x y = double.add x y := rfl
  rcases hx with h | h
  · obtain ⟨h1, h2⟩ := hi x h
    have e := read_inf h1
    rw [h2] at e
    rcases rd y hy1 ny with ⟨s, m, p, g⟩ | g
    · exact word (fb.trans (by unfold Ieee.Format.add; rw [e, g]; rfl)) rfl
    · exact word (fb.trans (by unfold Ieee.Format.add; rw [e, g]; rfl)) rfl
  · obtain ⟨h1, h2⟩ := hi y h
    have e := read_inf h1
    rw [h2] at e
    rcases rd x hx1 nx with ⟨s, m, p, g⟩ | g
    · exact word (fb.trans (by unfold Ieee.Format.add; rw [e, g]; rfl)) rfl
    · exact word (fb.trans (by unfold Ieee.Format.add; rw [e, g]; rfl)) rfl
theorem add_val' {x y : Nat} (hx : x % p63 < infR) (hy : y % p63 < infR) : isN (cop .add x y) = false ∧ key (cop .add x y) = RK (V x + V y) (-1074) ∧ cop .add x y < 18446744073709551616 := by
  have e := add_fin hx hy
  have k := add_key hx hy e
  have c : cop .add x y = _ := cop_some (op := .add) e
  rw [canon_num k.2.1] at c
  rw [c]; exact ⟨k.2.1, k.1, k.2.2⟩
theorem add_lo {a c : Nat} {S T : Int} (ha : Lo a S) (hc : Lo c T) (hS : Sm S) (hT : Sm T) (_h : isN (cop .add a c) = false) : key (cop .add a c) ≤ RK (S + T) (-1074) := by
  have inf1 : ∀ {x R}, Lo x R → Sm R → key x ≠ infR := fun {x R} h hR e => by
    rcases h.cases hR with g | ⟨g, -⟩
    · rw [g] at e; exact absurd e (by decide)
    · have := V_of_key_inf e
      have hk := key_eq x
      unfold sgd at hk
      split at hk <;> omega
  rcases ha.cases hS with g1 | ⟨g1, g2⟩
  · rw [add_inf (.inl g1) (inf1 ha hS) (inf1 hc hT) ha.1 hc.1]; exact RK_lo _
  · rcases hc.cases hT with k1 | ⟨k1, k2⟩
    · rw [add_inf (.inr k1) (inf1 ha hS) (inf1 hc hT) ha.1 hc.1]; exact RK_lo _
    · obtain ⟨-, e, -⟩ := add_val' g1 k1
      rw [e]; exact RK_mono _ (by omega)
end Go.Proofs.Ytbepaoliboooaaa

namespace Go.Proofs.Ytbepaoliboooaaa
open Ieee (double)
open Ex (outP aroundP addP subP mulP)

theorem RK_neg_key {x : Nat} {R : Int} : key x ≤ RK R (-1074) ↔ RK (-R) (-1074) ≤ - key x := by rw [RK_neg]; omega
/-- The same with the other sign. -/
def fl (y : Nat) : Nat := double.word (!neg y) (y % p63)
theorem fl_lt {y : Nat} (h : isN y = false) : fl y < 18446744073709551616 := word_lt _ (isN_false h)
theorem fl_key {y : Nat} (h : isN y = false) : key (fl y) = - key y := by
  unfold fl
  rw [word_key _ (isN_false h), key_eq]
  unfold sgd; cases neg y <;> simp
theorem fl_V {y : Nat} (h : isN y = false) : V (fl y) = - V y := by
  unfold fl
  rw [word_V _ (isN_false h)]
  unfold V sgd; cases neg y <;> simp
theorem fl_isN {y : Nat} (h : isN y = false) : isN (fl y) = false := word_isN _ (isN_false h)
theorem fl_read {y : Nat} (h : isN y = false) : (double.read y).opposite = double.read (fl y) := by
  by_cases hf : y % p63 < infR
  · exact opposite_read y hf
  · have e : y % p63 = infR := by have := isN_false h; omega
    rw [read_inf e]
    have hm : fl y % p63 = infR := by unfold fl; rw [word_mod _ (isN_false h), e]
    rw [read_inf hm]
    have : neg (fl y) = !neg y := by unfold fl; rw [word_neg _ (isN_false h)]
    rw [this]; rfl
theorem sub_add {x y : Nat} (h : isN y = false) : cop .sub x y = cop .add x (fl y) := by
  have e : floatBits .sub .f64 x y = floatBits .add .f64 x (fl y) := by
    show double.sub x y = double.add x (fl y)
    unfold Ieee.Format.sub Ieee.Format.add
    rw [fl_read h]
  unfold cop; rw [e]
theorem Hi.flip {d : Nat} {T : Int} (h : Hi d T) : Lo (fl d) (-T) := ⟨fl_isN h.1, by
  rw [fl_key h.1, fl_V h.1]
  rcases h.2 with g | g
  · exact .inl (by omega)
  · exact .inr (by omega)⟩
theorem Lo.flip {d : Nat} {T : Int} (h : Lo d T) : Hi (fl d) (-T) := ⟨fl_isN h.1, by
  rw [fl_key h.1, fl_V h.1]
  rcases h.2 with g | g
  · exact .inl (by omega)
  · exact .inr (by omega)⟩
theorem Sm.neg {T : Int} (h : Sm T) : Sm (-T) := by unfold Sm at *; omega

/-- A sum with what is infinite above. -/
theorem add_pinf {x y : Nat} (hx : key x = infR ∨ key y = infR) (hx1 : key x ≠ -(infR : Int)) (hy1 : key y ≠ -(infR : Int)) (nx : isN x = false) (ny : isN y = false) : key (cop .add x y) = infR := by
  have hi : ∀ z, key z = infR → z % p63 = infR ∧ neg z = false := fun z h => by
    have hp : (0 : Int) < infR := by decide
    rw [key_eq] at h
    unfold sgd at h
    cases hn : neg z <;> rw [hn] at h <;> simp only [Bool.false_eq_true, if_false, if_true] at h
    · exact ⟨by omega, rfl⟩
    · omega
  have word : ∀ {r}, floatBits .add .f64 x y = some r → r = double.word false infR → key (cop .add x y) = infR := fun {r} h e => by
    rw [cop_some h, e, canon_num (by decide)]; decide
  have rd : ∀ z, key z ≠ -(infR : Int) → isN z = false → (∃ s m p, double.read z = .number s m p) ∨ double.read z = .infinity false := fun z h1 h2 => by
    by_cases hz : z % p63 < infR
    · obtain ⟨m, p, e, -⟩ := read_fin hz
      exact .inl ⟨_, _, _, e⟩
    · have e : z % p63 = infR := by have := isN_false h2; omega
      refine .inr ?_
      rw [read_inf e]
      have := key_eq z
      unfold sgd at this
      cases hn : neg z
      · rfl
      · rw [hn] at this; simp only [if_true] at this; exact absurd (by rw [this, e]) h1
  have fb : floatBits .add .f64 x y = double.add x y := rfl
  rcases hx with h | h
  · obtain ⟨h1, h2⟩ := hi x h
    have e := read_inf h1
    rw [h2] at e
    rcases rd y hy1 ny with ⟨s, m, p, g⟩ | g
    · exact word (fb.trans (by unfold Ieee.Format.add; rw [e, g]; rfl)) rfl
    · exact word (fb.trans (by unfold Ieee.Format.add; rw [e, g]; rfl)) rfl
  · obtain ⟨h1, h2⟩ := hi y h
    have e := read_inf h1
    rw [h2] at e
    rcases rd x hx1 nx with ⟨s, m, p, g⟩ | g
    · exact word (fb.trans (by unfold Ieee.Format.add; rw [e, g]; rfl)) rfl
    · exact word (fb.trans (by unfold Ieee.Format.add; rw [e, g]; rfl)) rfl
theorem add_hi {b d : Nat} {S T : Int} (hb : Hi b S) (hd : Hi d T) (hS : Sm S) (hT : Sm T) : RK (S + T) (-1074) ≤ key (cop .add b d) := by
  have inf1 : ∀ {x R}, Hi x R → Sm R → key x ≠ -(infR : Int) := fun {x R} h hR e => by
    rcases h.cases hR with g | ⟨g, -⟩
    · rw [g] at e; exact absurd e (by decide)
    · have hk := key_eq x
      unfold sgd at hk
      split at hk <;> omega
  rcases hb.cases hS with g1 | ⟨g1, g2⟩
  · rw [add_pinf (.inl g1) (inf1 hb hS) (inf1 hd hT) hb.1 hd.1]; exact RK_hi _
  · rcases hd.cases hT with k1 | ⟨k1, k2⟩
    · rw [add_pinf (.inr k1) (inf1 hb hS) (inf1 hd hT) hb.1 hd.1]; exact RK_hi _
    · obtain ⟨-, e, -⟩ := add_val' g1 k1
      rw [e]; exact RK_mono _ (by omega)
/-- What is within two is, added, within their sum. -/
theorem add_enc {a b c d : Nat} {S T : Int} (ha : Lo a S) (hb : Hi b S) (hc : Lo c T) (hd : Hi d T) (hS : Sm S) (hT : Sm T) : Lo (addP a b c d).1 (S + T) ∧ Hi (addP a b c d).2 (S + T) :=
  out_enc (Ex.cop_lt _ _ _) (Ex.cop_lt _ _ _) (fun h => add_lo ha hc hS hT h) (fun _ => add_hi hb hd hS hT)
theorem sub_enc {a b c d : Nat} {S T : Int} (ha : Lo a S) (hb : Hi b S) (hc : Lo c T) (hd : Hi d T) (hS : Sm S) (hT : Sm T) : Lo (subP a b c d).1 (S - T) ∧ Hi (subP a b c d).2 (S - T) := by
  unfold Ex.subP
  rw [sub_add hd.1, sub_add hc.1]
  refine out_enc (Ex.cop_lt _ _ _) (Ex.cop_lt _ _ _) (fun h => ?_) (fun _ => ?_)
  · exact add_lo ha hd.flip hS hT.neg h
  · exact add_hi hb hc.flip hS hT.neg

theorem mul_val' {x y : Nat} (hx : x % p63 < infR) (hy : y % p63 < infR) : isN (cop .mul x y) = false ∧ key (cop .mul x y) = RK (V x * V y) (-2148) := by
  have e := mul_fin hx hy
  have k := mul_key hx hy e
  have c : cop .mul x y = _ := cop_some (op := .mul) e
  rw [canon_num k.2.1] at c
  rw [c]; exact ⟨k.2.1, k.1⟩
theorem RK_prod {R P : Int} (h : R * (2 ^ 1074 : Nat) = P) : RK P (-2148) = RK R (-1074) := by
  rw [← h]
  have := RK_scale R (-1074) 1074
  generalize ((2 ^ 1074 : Nat) : Int) = B at *
  rw [show (-1074 : Int) - ((1074 : Nat) : Int) = -2148 by decide] at this
  exact this
theorem V_zero_key {x : Nat} : V x = 0 ↔ key x = 0 := by
  have := @V_eq x 0
  rw [show V 0 = 0 by decide, show key 0 = 0 by decide] at this
  exact this
theorem V_pos_key {x : Nat} : 0 < V x ↔ 0 < key x := by
  have := @V_lt 0 x
  rw [show V 0 = 0 by decide, show key 0 = 0 by decide] at this
  exact this
theorem V_neg_key {x : Nat} : V x < 0 ↔ key x < 0 := by
  have := @V_lt x 0
  rw [show V 0 = 0 by decide, show key 0 = 0 by decide] at this
  exact this
theorem key_signs {x : Nat} : (0 < key x → neg x = false) ∧ (key x < 0 → neg x = true) := by
  rw [key_eq]; unfold sgd
  cases neg x
  · exact ⟨fun _ => rfl, fun h => by simp only [Bool.false_eq_true, if_false] at h; omega⟩
  · exact ⟨fun h => by simp only [if_true] at h; omega, fun _ => rfl⟩
theorem mul_with {x y : Nat} (hx : x % p63 = infR) (hy : key y ≠ 0) (ny : isN y = false) : key (cop .mul x y) = (if neg x ^^ neg y then -(infR : Int) else infR) ∧ key (cop .mul y x) = (if neg x ^^ neg y then -(infR : Int) else infR) := by
  have e := read_inf hx
  have word : ∀ {z w r s}, floatBits .mul .f64 z w = some r → r = double.word s infR → key (cop .mul z w) = if s then -(infR : Int) else infR := fun {z w r s} h e => by
    rw [cop_some h, e, canon_num (by cases s <;> decide)]
    cases s <;> decide
  by_cases hy' : y % p63 < infR
  · obtain ⟨m, p, g, -, g3⟩ := read_fin hy'
    have hm : m ≠ 0 := by
      intro h
      rw [h, Nat.zero_mul] at g3
      have : y % p63 = 0 := U_inj (by rw [← g3]; exact U_zero.symm)
      apply hy
      rw [key_eq, this]; unfold sgd; cases neg y <;> rfl
    constructor
    · exact word (z := x) (w := y) (show double.mul x y = _ by unfold Ieee.Format.mul; rw [e, g]; simp only [Ieee.Datum.product, if_neg hm]; rfl) rfl
    · exact word (z := y) (w := x) (show double.mul y x = _ by unfold Ieee.Format.mul; rw [e, g]; simp only [Ieee.Datum.product, if_neg hm]; rfl) rfl
  · have hyi : y % p63 = infR := by have := isN_false ny; omega
    have g := read_inf hyi
    constructor
    · exact word (z := x) (w := y) (show double.mul x y = _ by unfold Ieee.Format.mul; rw [e, g]; rfl) rfl
    · rw [show (neg x ^^ neg y) = (neg y ^^ neg x) by rw [Bool.xor_comm]]
      exact word (z := y) (w := x) (show double.mul y x = _ by unfold Ieee.Format.mul; rw [e, g]; rfl) rfl
theorem mul_none {x y : Nat} (hx : x % p63 = infR) (hy : key y = 0) : isN (cop .mul x y) = true ∧ isN (cop .mul y x) = true := by
  have e := read_inf hx
  have y0 : y % p63 = 0 := by
    rw [key_eq] at hy; unfold sgd at hy; split at hy <;> omega
  obtain ⟨m, p, g, -, g3⟩ := read_fin (x := y) (by rw [y0]; decide)
  have hm : m = 0 := by
    rw [y0, U_zero] at g3
    rcases Nat.mul_eq_zero.1 g3 with h | h
    · exact h
    · have := Nat.two_pow_pos (p + 1074).toNat; omega
  have nn : ∀ {z w}, floatBits .mul .f64 z w = none → isN (cop .mul z w) = true := fun {z w} h => by unfold cop; rw [h]; decide
  constructor
  · exact nn (show double.mul x y = none by unfold Ieee.Format.mul; rw [e, g]; simp only [Ieee.Datum.product, if_pos hm]; rfl)
  · exact nn (show double.mul y x = none by unfold Ieee.Format.mul; rw [e, g]; simp only [Ieee.Datum.product, if_pos hm]; rfl)
theorem inf_mod {x : Nat} (h : key x = infR ∨ key x = -(infR : Int)) : x % p63 = infR := by
  rw [key_eq] at h
  unfold sgd at h
  split at h <;> omega
/-- Signs of what is infinite, and of what it is multiplied by: below. -/
theorem mul_below {x y : Nat} (ny : isN y = false) (h : (key x = -(infR : Int) ∧ 0 < key y) ∨ (key x = infR ∧ key y < 0)) : key (cop .mul x y) = -(infR : Int) ∧ key (cop .mul y x) = -(infR : Int) := by
  have hp : (0 : Int) < infR := by decide
  rcases h with ⟨h1, h2⟩ | ⟨h1, h2⟩
  · have n1 := key_signs.2 (show key x < 0 by omega)
    have n2 := key_signs.1 h2
    have := mul_with (inf_mod (.inr h1)) (by omega) ny
    rw [n1, n2] at this; simpa using this
  · have n1 := key_signs.1 (show 0 < key x by omega)
    have n2 := key_signs.2 h2
    have := mul_with (inf_mod (.inl h1)) (by omega) ny
    rw [n1, n2] at this; simpa using this
theorem mul_above {x y : Nat} (ny : isN y = false) (h : (key x = -(infR : Int) ∧ key y < 0) ∨ (key x = infR ∧ 0 < key y)) : key (cop .mul x y) = infR ∧ key (cop .mul y x) = infR := by
  have hp : (0 : Int) < infR := by decide
  rcases h with ⟨h1, h2⟩ | ⟨h1, h2⟩
  · have n1 := key_signs.2 (show key x < 0 by omega)
    have n2 := key_signs.2 h2
    have := mul_with (inf_mod (.inr h1)) (by omega) ny
    rw [n1, n2] at this; simpa using this
  · have n1 := key_signs.1 (show 0 < key x by omega)
    have n2 := key_signs.1 h2
    have := mul_with (inf_mod (.inl h1)) (by omega) ny
    rw [n1, n2] at this; simpa using this
set_option maxHeartbeats 1000000 in
theorem mul_lo {a b c d : Nat} {S T R : Int} (ha : Lo a S) (hb : Hi b S) (hc : Lo c T) (hd : Hi d T) (hS : Sm S) (hT : Sm T) (hR : R * (2 ^ 1074 : Nat) = S * T)
    (n1 : isN (cop .mul a c) = false) (n2 : isN (cop .mul a d) = false) (n3 : isN (cop .mul b c) = false) (_n4 : isN (cop .mul b d) = false) :
    key (cop .mul a c) ≤ RK R (-1074) ∨ key (cop .mul a d) ≤ RK R (-1074) ∨ key (cop .mul b c) ≤ RK R (-1074) ∨ key (cop .mul b d) ≤ RK R (-1074) := by
  have LE : ∀ {e f : Nat}, e % p63 < infR → f % p63 < infR → V e * V f ≤ S * T → key (cop .mul e f) ≤ RK R (-1074) := fun {e f} h1 h2 h => by
    rw [(mul_val' h1 h2).2, ← RK_prod hR]; exact RK_mono _ h
  have IN : ∀ {e f : Nat}, key (cop .mul e f) = -(infR : Int) → key (cop .mul e f) ≤ RK R (-1074) := fun {e f} h => by rw [h]; exact RK_lo _
  have hp : (0 : Int) < infR := by decide
  have NO : ∀ {e f : Nat}, (key e = infR ∨ key e = -(infR : Int)) → key f = 0 → isN (cop .mul e f) = false → False := fun {e f} h1 h2 h3 => by rw [(mul_none (inf_mod h1) h2).1] at h3; cases h3
  have NO' : ∀ {e f : Nat}, (key e = infR ∨ key e = -(infR : Int)) → key f = 0 → isN (cop .mul f e) = false → False := fun {e f} h1 h2 h3 => by rw [(mul_none (inf_mod h1) h2).2] at h3; cases h3
  have CD : (key c = -(infR : Int) ∨ (c % p63 < infR ∧ V c ≤ T)) := hc.cases hT
  have DD : (key d = infR ∨ (d % p63 < infR ∧ T ≤ V d)) := hd.cases hT
  have AD := ha.cases hS
  have BD := hb.cases hS
  have dpos : 0 < T → 0 < key d := by
    intro h
    rcases DD with g | ⟨-, g⟩
    · omega
    · exact V_pos_key.1 (by omega)
  have cneg : T < 0 → key c < 0 := by
    intro h
    rcases CD with g | ⟨-, g⟩
    · omega
    · exact V_neg_key.1 (by omega)
  rcases Int.lt_trichotomy T 0 with hT0 | hT0 | hT0
  · rcases BD with e1 | ⟨e1, e2⟩
    · exact .inr (.inr (.inl (IN (mul_below hc.1 (.inr ⟨e1, cneg hT0⟩)).1)))
    · rcases Int.lt_trichotomy (V b) 0 with sg | sg | sg
      · rcases DD with f1 | ⟨f1, f2⟩
        · exact .inr (.inr (.inr (IN (mul_below hb.1 (.inr ⟨f1, V_neg_key.1 sg⟩)).2)))
        · refine .inr (.inr (.inr (LE e1 f1 ?_)))
          have q1 := Int.mul_le_mul_of_nonpos_right e2 (Int.le_of_lt hT0)
          have q2 := Int.mul_le_mul_of_nonpos_left (Int.le_of_lt sg) f2
          exact Int.le_trans q2 q1
      · rcases CD with f1 | ⟨f1, f2⟩
        · exact (NO' (.inr f1) (V_zero_key.1 sg) n3).elim
        · refine .inr (.inr (.inl (LE e1 f1 ?_)))
          have q1 := Int.mul_le_mul_of_nonpos_right e2 (Int.le_of_lt hT0)
          rw [sg, Int.zero_mul]; rw [sg, Int.zero_mul] at q1; exact q1
      · rcases CD with f1 | ⟨f1, f2⟩
        · exact .inr (.inr (.inl (IN (mul_below hb.1 (.inl ⟨f1, V_pos_key.1 sg⟩)).2)))
        · refine .inr (.inr (.inl (LE e1 f1 ?_)))
          have q1 := Int.mul_le_mul_of_nonpos_right e2 (Int.le_of_lt hT0)
          have q2 := Int.mul_le_mul_of_nonneg_left f2 (Int.le_of_lt sg)
          exact Int.le_trans q2 q1
  · rcases AD with e1 | ⟨e1, e2⟩
    · rcases DD with f1 | ⟨f1, f2⟩
      · exact .inr (.inl (IN (mul_below hd.1 (.inl ⟨e1, by omega⟩)).1))
      · rw [hT0] at f2
        rcases Int.lt_or_eq_of_le f2 with g | g
        · exact .inr (.inl (IN (mul_below hd.1 (.inl ⟨e1, V_pos_key.1 g⟩)).1))
        · exact (NO (.inr e1) (V_zero_key.1 g.symm) n2).elim
    · rcases Int.lt_trichotomy (V a) 0 with sg | sg | sg
      · rcases DD with f1 | ⟨f1, f2⟩
        · exact .inr (.inl (IN (mul_below ha.1 (.inr ⟨f1, V_neg_key.1 sg⟩)).2))
        · refine .inr (.inl (LE e1 f1 ?_))
          rw [hT0, Int.mul_zero]; rw [hT0] at f2
          exact Int.mul_nonpos_of_nonpos_of_nonneg (Int.le_of_lt sg) f2
      · rcases CD with f1 | ⟨f1, f2⟩
        · exact (NO' (.inr f1) (V_zero_key.1 sg) n1).elim
        · refine .inl (LE e1 f1 ?_)
          rw [hT0, Int.mul_zero]; rw [hT0] at f2
          rw [sg, Int.zero_mul]; exact Int.le_refl _
      · rcases CD with f1 | ⟨f1, f2⟩
        · exact .inl (IN (mul_below ha.1 (.inl ⟨f1, V_pos_key.1 sg⟩)).2)
        · refine .inl (LE e1 f1 ?_)
          rw [hT0, Int.mul_zero]; rw [hT0] at f2
          exact Int.mul_nonpos_of_nonneg_of_nonpos (Int.le_of_lt sg) f2
  · rcases AD with e1 | ⟨e1, e2⟩
    · exact .inr (.inl (IN (mul_below hd.1 (.inl ⟨e1, dpos hT0⟩)).1))
    · rcases Int.lt_trichotomy (V a) 0 with sg | sg | sg
      · rcases DD with f1 | ⟨f1, f2⟩
        · exact .inr (.inl (IN (mul_below ha.1 (.inr ⟨f1, V_neg_key.1 sg⟩)).2))
        · refine .inr (.inl (LE e1 f1 ?_))
          have q1 := Int.mul_le_mul_of_nonneg_right e2 (Int.le_of_lt hT0)
          have q2 := Int.mul_le_mul_of_nonpos_left (Int.le_of_lt sg) f2
          exact Int.le_trans q2 q1
      · rcases CD with f1 | ⟨f1, f2⟩
        · exact (NO' (.inr f1) (V_zero_key.1 sg) n1).elim
        · refine .inl (LE e1 f1 ?_)
          have q1 := Int.mul_le_mul_of_nonneg_right e2 (Int.le_of_lt hT0)
          rw [sg, Int.zero_mul]; rw [sg, Int.zero_mul] at q1; exact q1
      · rcases CD with f1 | ⟨f1, f2⟩
        · exact .inl (IN (mul_below ha.1 (.inl ⟨f1, V_pos_key.1 sg⟩)).2)
        · refine .inl (LE e1 f1 ?_)
          have q1 := Int.mul_le_mul_of_nonneg_right e2 (Int.le_of_lt hT0)
          have q2 := Int.mul_le_mul_of_nonneg_left f2 (Int.le_of_lt sg)
          exact Int.le_trans q2 q1
set_option maxHeartbeats 1000000 in
theorem mul_hi {a b c d : Nat} {S T R : Int} (ha : Lo a S) (hb : Hi b S) (hc : Lo c T) (hd : Hi d T) (hS : Sm S) (hT : Sm T) (hR : R * (2 ^ 1074 : Nat) = S * T)
    (n1 : isN (cop .mul a c) = false) (_n2 : isN (cop .mul a d) = false) (n3 : isN (cop .mul b c) = false) (_n4 : isN (cop .mul b d) = false) :
    RK R (-1074) ≤ key (cop .mul a c) ∨ RK R (-1074) ≤ key (cop .mul a d) ∨ RK R (-1074) ≤ key (cop .mul b c) ∨ RK R (-1074) ≤ key (cop .mul b d) := by
  have LE : ∀ {e f : Nat}, e % p63 < infR → f % p63 < infR → S * T ≤ V e * V f → RK R (-1074) ≤ key (cop .mul e f) := fun {e f} h1 h2 h => by
    rw [(mul_val' h1 h2).2, ← RK_prod hR]; exact RK_mono _ h
  have IN : ∀ {e f : Nat}, key (cop .mul e f) = infR → RK R (-1074) ≤ key (cop .mul e f) := fun {e f} h => by rw [h]; exact RK_hi _
  have hp : (0 : Int) < infR := by decide
  have NO : ∀ {e f : Nat}, (key e = infR ∨ key e = -(infR : Int)) → key f = 0 → isN (cop .mul e f) = false → False := fun {e f} h1 h2 h3 => by rw [(mul_none (inf_mod h1) h2).1] at h3; cases h3
  have NO' : ∀ {e f : Nat}, (key e = infR ∨ key e = -(infR : Int)) → key f = 0 → isN (cop .mul f e) = false → False := fun {e f} h1 h2 h3 => by rw [(mul_none (inf_mod h1) h2).2] at h3; cases h3
  have CD : (key c = -(infR : Int) ∨ (c % p63 < infR ∧ V c ≤ T)) := hc.cases hT
  have DD : (key d = infR ∨ (d % p63 < infR ∧ T ≤ V d)) := hd.cases hT
  have AD := ha.cases hS
  have BD := hb.cases hS
  have dpos : 0 < T → 0 < key d := by
    intro h
    rcases DD with g | ⟨-, g⟩
    · omega
    · exact V_pos_key.1 (by omega)
  have cneg : T < 0 → key c < 0 := by
    intro h
    rcases CD with g | ⟨-, g⟩
    · omega
    · exact V_neg_key.1 (by omega)
  rcases Int.lt_trichotomy T 0 with hT0 | hT0 | hT0
  · rcases AD with e1 | ⟨e1, e2⟩
    · exact .inl (IN (mul_above hc.1 (.inl ⟨e1, cneg hT0⟩)).1)
    · rcases Int.lt_trichotomy (V a) 0 with sg | sg | sg
      · rcases CD with f1 | ⟨f1, f2⟩
        · exact .inl (IN (mul_above ha.1 (.inl ⟨f1, V_neg_key.1 sg⟩)).2)
        · refine .inl (LE e1 f1 ?_)
          have q1 := Int.mul_le_mul_of_nonpos_right e2 (Int.le_of_lt hT0)
          have q2 := Int.mul_le_mul_of_nonpos_left (Int.le_of_lt sg) f2
          exact Int.le_trans q1 q2
      · rcases CD with f1 | ⟨f1, f2⟩
        · exact (NO' (.inr f1) (V_zero_key.1 sg) n1).elim
        · refine .inl (LE e1 f1 ?_)
          have q1 := Int.mul_le_mul_of_nonpos_right e2 (Int.le_of_lt hT0)
          rw [sg, Int.zero_mul]; rw [sg, Int.zero_mul] at q1; exact q1
      · rcases DD with f1 | ⟨f1, f2⟩
        · exact .inr (.inl (IN (mul_above ha.1 (.inr ⟨f1, V_pos_key.1 sg⟩)).2))
        · refine .inr (.inl (LE e1 f1 ?_))
          have q1 := Int.mul_le_mul_of_nonpos_right e2 (Int.le_of_lt hT0)
          have q2 := Int.mul_le_mul_of_nonneg_left f2 (Int.le_of_lt sg)
          exact Int.le_trans q1 q2
  · rcases AD with e1 | ⟨e1, e2⟩
    · rcases CD with f1 | ⟨f1, f2⟩
      · exact .inl (IN (mul_above hc.1 (.inl ⟨e1, by omega⟩)).1)
      · rw [hT0] at f2
        rcases Int.lt_or_eq_of_le f2 with g | g
        · exact .inl (IN (mul_above hc.1 (.inl ⟨e1, V_neg_key.1 g⟩)).1)
        · exact (NO (.inr e1) (V_zero_key.1 g) n1).elim
    · rcases Int.lt_trichotomy (V a) 0 with sg | sg | sg
      · rcases CD with f1 | ⟨f1, f2⟩
        · exact .inl (IN (mul_above ha.1 (.inl ⟨f1, V_neg_key.1 sg⟩)).2)
        · refine .inl (LE e1 f1 ?_)
          rw [hT0, Int.mul_zero]; rw [hT0] at f2
          exact Int.mul_nonneg_of_nonpos_of_nonpos (Int.le_of_lt sg) f2
      · rcases CD with f1 | ⟨f1, f2⟩
        · exact (NO' (.inr f1) (V_zero_key.1 sg) n1).elim
        · refine .inl (LE e1 f1 ?_)
          rw [hT0, Int.mul_zero]; rw [hT0] at f2
          rw [sg, Int.zero_mul]; exact Int.le_refl _
      · rcases DD with f1 | ⟨f1, f2⟩
        · exact .inr (.inl (IN (mul_above ha.1 (.inr ⟨f1, V_pos_key.1 sg⟩)).2))
        · refine .inr (.inl (LE e1 f1 ?_))
          rw [hT0, Int.mul_zero]; rw [hT0] at f2
          exact Int.mul_nonneg (Int.le_of_lt sg) f2
  · rcases BD with e1 | ⟨e1, e2⟩
    · exact .inr (.inr (.inr (IN (mul_above hd.1 (.inr ⟨e1, dpos hT0⟩)).1)))
    · rcases Int.lt_trichotomy (V b) 0 with sg | sg | sg
      · rcases CD with f1 | ⟨f1, f2⟩
        · exact .inr (.inr (.inl (IN (mul_above hb.1 (.inl ⟨f1, V_neg_key.1 sg⟩)).2)))
        · refine .inr (.inr (.inl (LE e1 f1 ?_)))
          have q1 := Int.mul_le_mul_of_nonneg_right e2 (Int.le_of_lt hT0)
          have q2 := Int.mul_le_mul_of_nonpos_left (Int.le_of_lt sg) f2
          exact Int.le_trans q1 q2
      · rcases CD with f1 | ⟨f1, f2⟩
        · exact (NO' (.inr f1) (V_zero_key.1 sg) n3).elim
        · refine .inr (.inr (.inl (LE e1 f1 ?_)))
          have q1 := Int.mul_le_mul_of_nonneg_right e2 (Int.le_of_lt hT0)
          rw [sg, Int.zero_mul]; rw [sg, Int.zero_mul] at q1; exact q1
      · rcases DD with f1 | ⟨f1, f2⟩
        · exact .inr (.inr (.inr (IN (mul_above hb.1 (.inr ⟨f1, V_pos_key.1 sg⟩)).2)))
        · refine .inr (.inr (.inr (LE e1 f1 ?_)))
          have q1 := Int.mul_le_mul_of_nonneg_right e2 (Int.le_of_lt hT0)
          have q2 := Int.mul_le_mul_of_nonneg_left f2 (Int.le_of_lt sg)
          exact Int.le_trans q1 q2

theorem pick_lo' {x y : Nat} (h1 : isN x = false) (h2 : isN y = false) : isN (if ltB x y then x else y) = false ∧ key (if ltB x y then x else y) = min (key x) (key y) ∧ (x < 18446744073709551616 → y < 18446744073709551616 → (if ltB x y then x else y) < 18446744073709551616) := by
  cases h : ltB x y <;> simp [ltB, h1, h2] at h <;> simp [h1, h2] <;> omega
theorem min4 {a b c d : Nat} (h1 : isN a = false) (h2 : isN b = false) (h3 : isN c = false) (h4 : isN d = false) : key (minL a [a, b, c, d]) = min (min (key a) (key b)) (min (key c) (key d)) := by
  simp only [minL]
  obtain ⟨p1, p2, -⟩ := pick_lo' h1 h1
  generalize (if ltB a a then a else a) = A at *
  obtain ⟨q1, q2, -⟩ := pick_lo' h2 p1
  generalize (if ltB b A then b else A) = B at *
  obtain ⟨r1, r2, -⟩ := pick_lo' h3 q1
  generalize (if ltB c B then c else B) = C at *
  obtain ⟨s1, s2, -⟩ := pick_lo' h4 r1
  omega
theorem pick_hi' {x y : Nat} (h1 : isN x = false) (h2 : isN y = false) : isN (if ltB y x then x else y) = false ∧ key (if ltB y x then x else y) = max (key x) (key y) := by
  cases h : ltB y x <;> simp [ltB, h1, h2] at h <;> simp [h1, h2] <;> omega
theorem max4 {a b c d : Nat} (h1 : isN a = false) (h2 : isN b = false) (h3 : isN c = false) (h4 : isN d = false) : key (maxL a [a, b, c, d]) = max (max (key a) (key b)) (max (key c) (key d)) := by
  simp only [maxL]
  obtain ⟨p1, p2⟩ := pick_hi' h1 h1
  generalize (if ltB a a then a else a) = A at *
  obtain ⟨q1, q2⟩ := pick_hi' h2 p1
  generalize (if ltB A b then b else A) = B at *
  obtain ⟨r1, r2⟩ := pick_hi' h3 q1
  generalize (if ltB B c then c else B) = C at *
  obtain ⟨s1, s2⟩ := pick_hi' h4 r1
  omega
theorem mul_enc {a b c d : Nat} {S T R : Int} (ha : Lo a S) (hb : Hi b S) (hc : Lo c T) (hd : Hi d T) (hS : Sm S) (hT : Sm T) (hR : R * (2 ^ 1074 : Nat) = S * T) : Lo (mulP a b c d).1 R ∧ Hi (mulP a b c d).2 R := by
  have hm : ∀ x ∈ [cop .mul a c, cop .mul a d, cop .mul b c, cop .mul b d], x < 18446744073709551616 := fun x hx => by
    simp only [List.mem_cons, List.not_mem_nil, or_false] at hx
    rcases hx with rfl | rfl | rfl | rfl <;> exact Ex.cop_lt _ _ _
  unfold Ex.mulP Ex.aroundP
  cases hn : (isN (cop .mul a c) || isN (cop .mul a d) || isN (cop .mul b c) || isN (cop .mul b d))
  · simp only [cond_false]
    simp only [Bool.or_eq_false_iff] at hn
    obtain ⟨⟨⟨n1, n2⟩, n3⟩, n4⟩ := hn
    refine out_enc (minL_lt (Ex.cop_lt _ _ _) hm) (maxL_lt (Ex.cop_lt _ _ _) hm) (fun _ => ?_) (fun _ => ?_)
    · rw [min4 n1 n2 n3 n4]
      have := mul_lo ha hb hc hd hS hT hR n1 n2 n3 n4
      omega
    · rw [max4 n1 n2 n3 n4]
      have := mul_hi ha hb hc hd hS hT hR n1 n2 n3 n4
      omega
  · exact ⟨lo_inf R, hi_inf R⟩
end Go.Proofs.Ytbepaoliboooaaa
