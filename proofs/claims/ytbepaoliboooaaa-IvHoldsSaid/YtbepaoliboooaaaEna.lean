/-
  What from-tos hold: sums, differences, products of numbers within are within what is told. No condition but those in the statements.
-/
import Derived.Test.YtbepaoliboooaaaIvs
namespace Go.Proofs.Ytbepaoliboooaaa
open Ieee (double)
open Ex (outP aroundP addP subP mulP)

/-- Numbers in units of the least: x is no more than T, no less. -/
def Lo (x : Nat) (T : Int) : Prop := isN x = false ∧ (key x = -(infR : Int) ∨ V x ≤ T)
def Hi (x : Nat) (T : Int) : Prop := isN x = false ∧ (key x = infR ∨ T ≤ V x)
/-- Not so great as what is infinite. -/
def Sm (T : Int) : Prop := -(U infR : Int) < T ∧ T < U infR

theorem V_of_key_inf {x : Nat} (h : key x = infR) : V x = U infR := by
  have hp : (0 : Int) < infR := by decide
  rw [key_eq] at h
  unfold sgd at h
  unfold V sgd
  cases hn : neg x <;> rw [hn] at h <;> simp only [Bool.false_eq_true, if_false, if_true] at h ⊢
  · rw [show x % p63 = infR by omega]
  · omega
theorem V_of_key_ninf {x : Nat} (h : key x = -(infR : Int)) : V x = -(U infR : Int) := by
  have hp : (0 : Int) < infR := by decide
  rw [key_eq] at h
  unfold sgd at h
  unfold V sgd
  cases hn : neg x <;> rw [hn] at h <;> simp only [Bool.false_eq_true, if_false, if_true] at h ⊢
  · omega
  · rw [show x % p63 = infR by omega]
theorem fin_of_key {x : Nat} (hN : isN x = false) (h1 : key x ≠ infR) (h2 : key x ≠ -(infR : Int)) : x % p63 < infR := by
  have h := isN_false hN
  rcases Nat.lt_or_ge (x % p63) infR with g | g
  · exact g
  · have e : x % p63 = infR := by omega
    exfalso
    have := key_eq x
    unfold sgd at this
    split at this
    · exact h2 (by rw [this, e])
    · exact h1 (by rw [this, e])
/-- What is no more than a number that is not too great is finite, or infinite below. -/
theorem Lo.cases {x : Nat} {T : Int} (h : Lo x T) (hT : Sm T) : key x = -(infR : Int) ∨ (x % p63 < infR ∧ V x ≤ T) := by
  rcases h.2 with g | g
  · exact .inl g
  · by_cases h2 : key x = -(infR : Int)
    · exact .inl h2
    · refine .inr ⟨fin_of_key h.1 (fun h1 => ?_) h2, g⟩
      have := V_of_key_inf h1
      have := hT.2
      omega
theorem Hi.cases {x : Nat} {T : Int} (h : Hi x T) (hT : Sm T) : key x = infR ∨ (x % p63 < infR ∧ T ≤ V x) := by
  rcases h.2 with g | g
  · exact .inl g
  · by_cases h2 : key x = infR
    · exact .inl h2
    · refine .inr ⟨fin_of_key h.1 h2 (fun h1 => ?_), g⟩
      have := V_of_key_ninf h1
      have := hT.1
      omega

theorem isN_down {x : Nat} (h : isN (downB x) = false) : isN x = false := by
  cases hn : isN x
  · rfl
  · unfold downB at h; rw [if_pos hn] at h; exact absurd h (by decide)
theorem isN_up {x : Nat} (h : isN (upB x) = false) : isN x = false := by
  cases hn : isN x
  · rfl
  · unfold upB at h; rw [if_pos hn] at h; exact absurd h (by decide)
/-- One number further down is no more than what was rounded. -/
theorem down_lo {x : Nat} {R : Int} (hx : x < 18446744073709551616) (hN : isN x = false) (h : key x ≤ RK R (-1074)) : Lo (downB x) R := by
  obtain ⟨k1, k2, k3⟩ := down_key hx hN
  refine ⟨k2, ?_⟩
  by_cases hi : key x = -(infR : Int)
  · rw [if_pos hi] at k1; exact .inl (by rw [k1, hi])
  · rw [if_neg hi] at k1
    refine .inr ?_
    rcases Int.lt_or_le R (V (downB x)) with g | g
    · exfalso
      have := RK_mono (-1074) (Int.le_of_lt g)
      rw [RK_V (isN_false k2)] at this
      omega
    · exact g
theorem up_hi {x : Nat} {R : Int} (hx : x < 18446744073709551616) (hN : isN x = false) (h : RK R (-1074) ≤ key x) : Hi (upB x) R := by
  obtain ⟨k1, k2, k3⟩ := up_key hx hN
  refine ⟨k2, ?_⟩
  by_cases hi : key x = infR
  · rw [if_pos hi] at k1; exact .inl (by rw [k1, hi])
  · rw [if_neg hi] at k1
    refine .inr ?_
    rcases Int.lt_or_le (V (upB x)) R with g | g
    · exfalso
      have := RK_mono (-1074) (Int.le_of_lt g)
      rw [RK_V (isN_false k2)] at this
      omega
    · exact g
theorem lo_inf (R : Int) : Lo 18442240474082181120 R := ⟨by decide, .inl (by decide)⟩
theorem hi_inf (R : Int) : Hi 9218868437227405312 R := ⟨by decide, .inl (by decide)⟩
/-- What is told of two ends that are rounded. -/
theorem out_enc {p q : Nat} {R : Int} (hp : p < 18446744073709551616) (hq : q < 18446744073709551616) (h1 : isN p = false → key p ≤ RK R (-1074)) (h2 : isN q = false → RK R (-1074) ≤ key q) : Lo (outP p q).1 R ∧ Hi (outP p q).2 R := by
  unfold Ex.outP
  cases hl : leB (downB p) (upB q)
  · exact ⟨lo_inf R, hi_inf R⟩
  · simp only [cond_true]
    unfold leB at hl
    simp only [Bool.and_eq_true, Bool.not_eq_true'] at hl
    have n1 := isN_down hl.1.1
    have n2 := isN_up hl.1.2
    exact ⟨down_lo hp n1 (h1 n1), up_hi hq n2 (h2 n2)⟩
theorem RK_lo (R : Int) : -(infR : Int) ≤ RK R (-1074) := (RK_bound R (-1074)).1
theorem RK_hi (R : Int) : RK R (-1074) ≤ infR := (RK_bound R (-1074)).2

/-- A sum with what is infinite. -/
theorem add_inf {x y : Nat} (hx : key x = -(infR : Int) ∨ key y = -(infR : Int)) (hx1 : key x ≠ infR) (hy1 : key y ≠ infR) (nx : isN x = false) (ny : isN y = false) : key (cop .add x y) = -(infR : Int) := by
  have hi : ∀ z, key z = -(infR : Int) → z % p63 = infR ∧ neg z = true := fun z h => by
    have hp : (0 : Int) < infR := by decide
    rw [key_eq] at h
    unfold sgd at h
    cases hn : neg z <;> rw [hn] at h <;> simp only [Bool.false_eq_true, if_false, if_true] at h
    · omega
    · exact ⟨by omega, rfl⟩
  have word : ∀ {r}, floatBits .add .f64 x y = some r → r = double.word true infR → key (cop .add x y) = -(infR : Int) := fun {r} h e => by
    rw [cop_some h, e, canon_num (by decide)]; decide
  have rd : ∀ z, key z ≠ infR → isN z = false → (∃ s m p, double.read z = .number s m p) ∨ double.read z = .infinity true := fun z h1 h2 => by
    by_cases hz : z % p63 < infR
    · obtain ⟨m, p, e, -⟩ := read_fin hz
      exact .inl ⟨_, _, _, e⟩
    · have e : z % p63 = infR := by have := isN_false h2; omega
      refine .inr ?_
      rw [read_inf e]
      have := key_eq z
      unfold sgd at this
      cases hn : neg z
      · rw [hn] at this; simp only [Bool.false_eq_true, if_false] at this; exact absurd (by rw [this, e]) h1
      · rfl
  have fb : floatBits .add .f64 x y = double.add x y := rfl
  rcases hx with h | h
  · obtain ⟨h1, h2⟩ := hi x h
    have e := read_inf h1
    rw [h2] at e
    rcases rd y hy1 ny with ⟨s, m, p, g⟩ | g
    · exact word (fb.trans (by unfold Ieee.Format.add; rw [e, g]; rfl)) rfl
    · exact word (fb.trans (by unfold Ieee.Format.add; rw [e, g]; rfl)) rfl
  · obtain ⟨h1, h2⟩ := hi y h
    have e := read_inf h1
    rw [h2] at e
    rcases rd x hx1 nx with ⟨s, m, p, g⟩ | g
    · exact word (fb.trans (by unfold Ieee.Format.add; rw [e, g]; rfl)) rfl
    · exact word (fb.trans (by unfold Ieee.Format.add; rw [e, g]; rfl)) rfl
theorem add_val' {x y : Nat} (hx : x % p63 < infR) (hy : y % p63 < infR) : isN (cop .add x y) = false ∧ key (cop .add x y) = RK (V x + V y) (-1074) ∧ cop .add x y < 18446744073709551616 := by
  have e := add_fin hx hy
  have k := add_key hx hy e
  have c : cop .add x y = _ := cop_some (op := .add) e
  rw [canon_num k.2.1] at c
  rw [c]; exact ⟨k.2.1, k.1, k.2.2⟩
theorem add_lo {a c : Nat} {S T : Int} (ha : Lo a S) (hc : Lo c T) (hS : Sm S) (hT : Sm T) (_h : isN (cop .add a c) = false) : key (cop .add a c) ≤ RK (S + T) (-1074) := by
  have inf1 : ∀ {x R}, Lo x R → Sm R → key x ≠ infR := fun {x R} h hR e => by
    rcases h.cases hR with g | ⟨g, -⟩
    · rw [g] at e; exact absurd e (by decide)
    · have := V_of_key_inf e
      have hk := key_eq x
      unfold sgd at hk
      split at hk <;> omega
  rcases ha.cases hS with g1 | ⟨g1, g2⟩
  · rw [add_inf (.inl g1) (inf1 ha hS) (inf1 hc hT) ha.1 hc.1]; exact RK_lo _
  · rcases hc.cases hT with k1 | ⟨k1, k2⟩
    · rw [add_inf (.inr k1) (inf1 ha hS) (inf1 hc hT) ha.1 hc.1]; exact RK_lo _
    · obtain ⟨-, e, -⟩ := add_val' g1 k1
      rw [e]; exact RK_mono _ (by omega)
end Go.Proofs.Ytbepaoliboooaaa
