/-
  From-tos that are made, which ones; by names, for runs.
  What from-tos hold: sums, differences, products. No condition but those in the statements.
  From-tos of moderate numbers: what is told of them, as pairs: turned about, with all numbers, how far from 0.
  Rare numbers, numbers times powers of two, by their names.
  The document's from-tos, by the same names: sums, differences, products, quotients.
-/
import Derived.Test.YtainodgbcpkipaaGq
import Derived.Test.YtainodgbcpkipaaGp
import Derived.Test.YtainodgbcpkipaaGl
import Derived.Test.YtainodgbcpkipaaGj
namespace Go.Proofs.Ytainodgbcpkipaa
open Go.RowKit
attribute [local go_sem] alloc_drewN setCell_drewN call_bits call_frombits ord_lt ord_eq ord_gt ord_ne ord_le ord_ge eqB_self run_fadd run_fsub run_fmul run_fquo run_store_f64

def numB (m k : Int) : Nat := ldexpB (floatOfInt .f64 (m % 9007199254740992 - 4503599627370496)) (k % 80 - 80)
theorem numB_is (m k : Int) : ∃ n, Is (numB m k) n (-80) ∧ n.natAbs < 2 ^ 132 := by
  have h1 := Int.emod_nonneg m (show (9007199254740992 : Int) ≠ 0 by decide)
  have h2 := Int.emod_lt_of_pos m (show (0 : Int) < 9007199254740992 by decide)
  have h3 := Int.emod_nonneg k (show (80 : Int) ≠ 0 by decide)
  have h4 := Int.emod_lt_of_pos k (show (0 : Int) < 80 by decide)
  have hi := is_scale (is_ofInt (n := m % 9007199254740992 - 4503599627370496) (by omega) (by omega)) (k % 80 - 80) (by omega) (fits_of 60 960 (by omega) (by omega) (by decide))
  have hd := hi.down (k % 80).toNat (by omega)
  have e : 0 + (k % 80 - 80) - ((k % 80).toNat : Int) = -80 := by omega
  rw [e] at hd
  refine ⟨_, hd, ?_⟩
  rw [natAbs_pow]
  have : 2 ^ (k % 80).toNat ≤ 2 ^ 79 := Nat.pow_le_pow_right (by decide) (by omega)
  have h5 : (m % 9007199254740992 - 4503599627370496).natAbs ≤ 2 ^ 52 := by omega
  have := Nat.mul_le_mul h5 this
  refine Nat.lt_of_le_of_lt this (by decide)
/-- Which from-to is made. -/
def mkP (m k v : Int) : Nat × Nat :=
  if v % 5 = 0 then (numB m k, numB m k)
  else if v % 5 = 1 then (numB m k, cop .add (numB m k) (numB v k % p63))
  else if v % 5 = 2 then (cop .sub 0 (numB m k % p63), numB v m % p63)
  else if v % 5 = 3 then (floatOfInt .f64 (m % 9 - 4), floatOfInt .f64 (m % 9 - 4 + k % 5))
  else (numB m k, cop .add (numB m k) 4607182418800017408)
theorem cop_of {op : BinOp} {a b r : Nat} {p : Int} (h : floatBits op .f64 a b = some r) (hr : Is r p (-80)) : r = cop op a b := by
  rw [show cop op a b = canon r by unfold cop; rw [h], canon_num hr.num]
theorem add_up' {a b : Nat} {m n : Int} (ha : Is a m (-80)) (hb : Is b n (-80)) (hn : 0 ≤ n) (h1 : m.natAbs < 2 ^ 138) (h2 : n.natAbs < 2 ^ 138) :
    ∃ p, Is (cop .add a b) p (-80) ∧ m ≤ p ∧ p.natAbs ≤ m.natAbs + n.natAbs + 2 ^ 86 := by
  obtain ⟨r, e, h⟩ := is_add ha hb (fits_of 139 960 (by omega) (by decide) (by decide))
  rw [← cop_of (op := .add) e h]
  refine ⟨_, h, ha.add_ge hb hn e h, ?_⟩
  have := rn_size (m := m + n) (by omega)
  omega
theorem sub_down' {a b : Nat} {m n : Int} (ha : Is a m (-80)) (hb : Is b n (-80)) (hn : 0 ≤ n) (h1 : m.natAbs < 2 ^ 138) (h2 : n.natAbs < 2 ^ 138) :
    ∃ p, Is (cop .sub a b) p (-80) ∧ p ≤ m ∧ p.natAbs ≤ m.natAbs + n.natAbs + 2 ^ 86 := by
  obtain ⟨r, e, h⟩ := is_sub ha hb (fits_of 139 960 (by omega) (by decide) (by decide))
  rw [← cop_of (op := .sub) e h]
  refine ⟨_, h, ha.sub_le hb hn e h, ?_⟩
  have := rn_size (m := m - n) (by omega)
  omega
theorem mkP_mid (m k v : Int) : Mid (mkP m k v).1 (mkP m k v).2 := by
  obtain ⟨p, hx, hp⟩ := numB_is m k
  unfold mkP
  split
  · exact ⟨p, p, hx, hx, by omega, by omega, by omega⟩
  split
  · obtain ⟨q, hy, hq⟩ := numB_is v k
    obtain ⟨s, hs, h1, h2⟩ := add_up' hx (is_abs hy) (by omega) (by omega) (by omega)
    exact ⟨p, s, hx, hs, h1, by omega, by omega⟩
  split
  · obtain ⟨q, hy, hq⟩ := numB_is v m
    obtain ⟨s, hs, h1, h2⟩ := sub_down' zero_at (is_abs hx) (by omega) (by omega) (by omega)
    exact ⟨s, q.natAbs, hs, is_abs hy, by omega, by omega, by omega⟩
  split
  · have b1 := Int.emod_nonneg m (show (9 : Int) ≠ 0 by decide)
    have b2 := Int.emod_lt_of_pos m (show (0 : Int) < 9 by decide)
    have b3 := Int.emod_nonneg k (show (5 : Int) ≠ 0 by decide)
    have b4 := Int.emod_lt_of_pos k (show (0 : Int) < 5 by decide)
    exact ⟨_, _, int_at (n := m % 9 - 4) (by omega) (by omega), int_at (n := m % 9 - 4 + k % 5) (by omega) (by omega), by omega, by omega, by omega⟩
  · obtain ⟨s, hs, h1, h2⟩ := add_up' hx one_at (by omega) (by omega) (by omega)
    exact ⟨p, s, hx, hs, h1, by omega, by omega⟩

/-- As it is made. -/
def MadeP (m k v : Int) (w : World) (e : Ending) (w' : World) : Prop := ∃ a b, (a, b) = mkP m k v ∧ e = .returned (iv a b) ∧ Below w.heap.size w w'
end Go.Proofs.Ytainodgbcpkipaa

namespace Go.Proofs.Ytainodgbcpkipaa
open Go.RowKit

namespace Ex
open Go
variable {P : Program} {V : Val}
/-- What more names stand for: from-tos that are made; rare numbers; the bound of e to the x; how far from 0. -/
def mkX : Nat → Nat → List Sc → Nat
  | 30, 0, [.i m, .i k, .i v] => (mkP m k v).1
  | 30, 1, [.i m, .i k, .i v] => (mkP m k v).2
  | 31, 0, [.i n] => rareB (n % 10)
  | 32, 0, [.f x] => expB (canon x)
  | 33, 0, [.f a, .f b] => magB (canon a) (canon b)
  | 34, 0, [.i m, .i k] => numB m k
  | j, i, args => ivX j i args
structure MkV (V : Val) : Prop extends IvV V where
  y : ∀ j i args, 30 ≤ j → j < 40 → V.ff j i args = mkX j i args
theorem adM_ok (l : List AD) : MkV (adV l mkX) := by
  refine ⟨⟨adV_ok l mkX, fun j i args h h2 => ?_⟩, fun j i args h h2 => ?_⟩
  · show (if j < 20 then stdF j i args else mkX j i args) = _
    rw [if_neg (by omega)]
    unfold mkX
    split <;> first | omega | rfl
  · show (if j < 20 then stdF j i args else mkX j i args) = _
    rw [if_neg (by omega)]
def i3 (a b c : E) : E := .ci a (.ci b (.ci c .n0))
def toI64 : C → Option E
  | .i .i64 n => some (.li n)
  | .ei .i64 e => some e
  | _ => none
theorem toI64_ok {ρ : Rho} {c : C} {e : E} {v : Value} (h : toI64 c = some e) (hv : CR V ρ c v) : v = .int .i64 (evI V e) := by
  unfold toI64 at h
  split at h <;> simp only [Option.some.injEq, reduceCtorEq] at h
  · subst h; exact hv
  · subst h; exact hv
def makeS : List SV → Option SV
  | [.c a, .c b, .c c] => match toI64 a, toI64 b, toI64 c with
    | some a, some b, some c => some (.ag [.ef (.af 30 0 (i3 a b c)), .ef (.af 30 1 (i3 a b c))])
    | _, _, _ => none
  | _ => none
theorem args_three {ρ : Rho} {a b c : SV} {l : List Value} (h : All2 (VR V ρ) [a, b, c] l) : ∃ x y z, l = [x, y, z] ∧ VR V ρ a x ∧ VR V ρ b y ∧ VR V ρ c z := by
  match l, h with
  | [x, y, z], h => exact ⟨x, y, z, rfl, h.1, h.2.1, h.2.2.1⟩
  | [], h => exact h.elim
  | [_], h => exact h.2.elim
  | [_, _], h => exact h.2.2.elim
  | _ :: _ :: _ :: _ :: _, h => exact h.2.2.2.elim
/-- How far from 0, by its name. -/
def magS : List SV → Option SV
  | [.ag [a, b]] => match a.toF, b.toF with
    | some (.lf a), some (.lf b) => some (.c (.f (magB (canon a) (canon b))))
    | some a, some b => some (.c (.ef (.af 33 0 (.cf a (.cf b .n0)))))
    | _, _ => none
  | _ => none
theorem magB_FR {a b a' b' : Nat} (h : FR a a') (g : FR b b') : FR (magB (canon a) (canon b)) (magB a' b') := by
  have e1 := abs_FR h
  have e2 := abs_FR g
  unfold magB
  have : p63 = 9223372036854775808 := rfl
  rw [this] at e1 e2
  have hl : ltB (canon b % 9223372036854775808) (canon a % 9223372036854775808) = ltB (b' % 9223372036854775808) (a' % 9223372036854775808) := by
    rw [← ltB_canon, e1.1, e2.1, ltB_canon]
  rw [hl]
  split
  · exact e1
  · exact e2
theorem expB_canon (x : Nat) : expB (canon x) = expB x := by
  cases h : isN x
  · rw [canon_num h]
  · have : isN (canon x) = true := by rw [isN_canon, h]
    unfold expB; rw [h, this, Bool.true_or, Bool.true_or, if_pos rfl, if_pos rfl]
theorem expB_lt (x : Nat) : expB x < 18446744073709551616 := by
  unfold expB
  split
  · decide
  · have sq_lt : ∀ p, (sq p).2 < 18446744073709551616 := fun p => by
      unfold sq
      rw [show mulI p.1 p.2 p.1 p.2 = iv (mulP p.1 p.2 p.1 p.2).1 (mulP p.1 p.2 p.1 p.2).2 from aroundP_eq _ _ _ _, endsOf_iv]
      exact (mulP_lt _ _ _ _).2
    have : ∀ k p, k ≠ 0 → (sqN k p).2 < 18446744073709551616 := fun k p hk => by
      cases k with
      | zero => exact absurd rfl hk
      | succ k => unfold sqN; exact sq_lt _
    exact this 10 _ (by decide)
/-- The bound of e to the x, by its name. -/
def expS : List SV → Option SV
  | [.c x] => match x.toF with
    | some (.lf x) => some (.c (.f (expB x)))
    | some e => some (.c (.ef (.af 32 0 (.cf e .n0))))
    | none => none
  | _ => none
end Ex
end Go.Proofs.Ytainodgbcpkipaa

namespace Go.Proofs.Ytainodgbcpkipaa
open Ieee (double)
open Ex (outP aroundP addP subP mulP)

/-- Numbers in units of the least: x is no more than T, no less. -/
def Lo (x : Nat) (T : Int) : Prop := isN x = false ∧ (key x = -(infR : Int) ∨ V x ≤ T)
def Hi (x : Nat) (T : Int) : Prop := isN x = false ∧ (key x = infR ∨ T ≤ V x)
/-- Not so great as what is infinite. -/
def Sm (T : Int) : Prop := -(U infR : Int) < T ∧ T < U infR

theorem V_of_key_inf {x : Nat} (h : key x = infR) : V x = U infR := by
  have hp : (0 : Int) < infR := by decide
  rw [key_eq] at h
  unfold sgd at h
  unfold V sgd
  cases hn : neg x <;> rw [hn] at h <;> simp only [Bool.false_eq_true, if_false, if_true] at h ⊢
  · rw [show x % p63 = infR by omega]
  · omega
theorem V_of_key_ninf {x : Nat} (h : key x = -(infR : Int)) : V x = -(U infR : Int) := by
  have hp : (0 : Int) < infR := by decide
  rw [key_eq] at h
  unfold sgd at h
  unfold V sgd
  cases hn : neg x <;> rw [hn] at h <;> simp only [Bool.false_eq_true, if_false, if_true] at h ⊢
  · omega
  · rw [show x % p63 = infR by omega]
theorem fin_of_key {x : Nat} (hN : isN x = false) (h1 : key x ≠ infR) (h2 : key x ≠ -(infR : Int)) : x % p63 < infR := by
  have h := isN_false hN
  rcases Nat.lt_or_ge (x % p63) infR with g | g
  · exact g
  · have e : x % p63 = infR := by omega
    exfalso
    have := key_eq x
    unfold sgd at this
    split at this
    · exact h2 (by rw [this, e])
    · exact h1 (by rw [this, e])
/-- What is no more than a number that is not too great is finite, or infinite below. -/
theorem Lo.cases {x : Nat} {T : Int} (h : Lo x T) (hT : Sm T) : key x = -(infR : Int) ∨ (x % p63 < infR ∧ V x ≤ T) := by
  rcases h.2 with g | g
  · exact .inl g
  · by_cases h2 : key x = -(infR : Int)
    · exact .inl h2
    · refine .inr ⟨fin_of_key h.1 (fun h1 => ?_) h2, g⟩
      have := V_of_key_inf h1
      have := hT.2
      omega
theorem Hi.cases {x : Nat} {T : Int} (h : Hi x T) (hT : Sm T) : key x = infR ∨ (x % p63 < infR ∧ T ≤ V x) := by
  rcases h.2 with g | g
  · exact .inl g
  · by_cases h2 : key x = infR
    · exact .inl h2
    · refine .inr ⟨fin_of_key h.1 h2 (fun h1 => ?_), g⟩
      have := V_of_key_ninf h1
      have := hT.1
      omega

theorem isN_down {x : Nat} (h : isN (downB x) = false) : isN x = false := by
  cases hn : isN x
  · rfl
  · unfold downB at h; rw [if_pos hn] at h; exact absurd h (by decide)
theorem isN_up {x : Nat} (h : isN (upB x) = false) : isN x = false := by
  cases hn : isN x
  · rfl
  · unfold upB at h; rw [if_pos hn] at h; exact absurd h (by decide)
/-- One number further down is no more than what was rounded. -/
theorem down_lo {x : Nat} {R : Int} (hx : x < 18446744073709551616) (hN : isN x = false) (h : key x ≤ RK R (-1074)) : Lo (downB x) R := by
  obtain ⟨k1, k2, k3⟩ := down_key hx hN
  refine ⟨k2, ?_⟩
  by_cases hi : key x = -(infR : Int)
  · rw [if_pos hi] at k1; exact .inl (by rw [k1, hi])
  · rw [if_neg hi] at k1
    refine .inr ?_
    rcases Int.lt_or_le R (V (downB x)) with g | g
    · exfalso
      have := RK_mono (-1074) (Int.le_of_lt g)
      rw [RK_V (isN_false k2)] at this
      omega
    · exact g
theorem up_hi {x : Nat} {R : Int} (hx : x < 18446744073709551616) (hN : isN x = false) (h : RK R (-1074) ≤ key x) : Hi (upB x) R := by
  obtain ⟨k1, k2, k3⟩ := up_key hx hN
  refine ⟨k2, ?_⟩
  by_cases hi : key x = infR
  · rw [if_pos hi] at k1; exact .inl (by rw [k1, hi])
  · rw [if_neg hi] at k1
    refine .inr ?_
    rcases Int.lt_or_le (V (upB x)) R with g | g
    · exfalso
      have := RK_mono (-1074) (Int.le_of_lt g)
      rw [RK_V (isN_false k2)] at this
      omega
    · exact g
theorem lo_inf (R : Int) : Lo 18442240474082181120 R := ⟨by decide, .inl (by decide)⟩
theorem hi_inf (R : Int) : Hi 9218868437227405312 R := ⟨by decide, .inl (by decide)⟩
/-- What is told of two ends that are rounded. -/
theorem out_enc {p q : Nat} {R : Int} (hp : p < 18446744073709551616) (hq : q < 18446744073709551616) (h1 : isN p = false → key p ≤ RK R (-1074)) (h2 : isN q = false → RK R (-1074) ≤ key q) : Lo (outP p q).1 R ∧ Hi (outP p q).2 R := by
  unfold Ex.outP
  cases hl : leB (downB p) (upB q)
  · exact ⟨lo_inf R, hi_inf R⟩
  · simp only [cond_true]
    unfold leB at hl
    simp only [Bool.and_eq_true, Bool.not_eq_true'] at hl
    have n1 := isN_down hl.1.1
    have n2 := isN_up hl.1.2
    exact ⟨down_lo hp n1 (h1 n1), up_hi hq n2 (h2 n2)⟩
theorem RK_lo (R : Int) : -(infR : Int) ≤ RK R (-1074) := (RK_bound R (-1074)).1
theorem RK_hi (R : Int) : RK R (-1074) ≤ infR := (RK_bound R (-1074)).2

/-- A sum with what is infinite. -/
theorem add_inf {x y : Nat} (hx : key x = -(infR : Int) ∨ key y = -(infR : Int)) (hx1 : key x ≠ infR) (hy1 : key y ≠ infR) (nx : isN x = false) (ny : isN y = false) : key (cop .add x y) = -(infR : Int) := by
  have hi : ∀ z, key z = -(infR : Int) → z % p63 = infR ∧ neg z = true := fun z h => by
    have hp : (0 : Int) < infR := by decide
    rw [key_eq] at h
    unfold sgd at h
    cases hn : neg z <;> rw [hn] at h <;> simp only [Bool.false_eq_true, if_false, if_true] at h
    · omega
    · exact ⟨by omega, rfl⟩
  have word : ∀ {r}, floatBits .add .f64 x y = some r → r = double.word true infR → key (cop .add x y) = -(infR : Int) := fun {r} h e => by
    rw [cop_some h, e, canon_num (by decide)]; decide
  have rd : ∀ z, key z ≠ infR → isN z = false → (∃ s m p, double.read z = .number s m p) ∨ double.read z = .infinity true := fun z h1 h2 => by
    by_cases hz : z % p63 < infR
    · obtain ⟨m, p, e, -⟩ := read_fin hz
      exact .inl ⟨_, _, _, e⟩
    · have e : z % p63 = infR := by have := isN_false h2; omega
      refine .inr ?_
      rw [read_inf e]
      have := key_eq z
      unfold sgd at this
      cases hn : neg z
      · rw [hn] at this; simp only [Bool.false_eq_true, if_false] at this; exact absurd (by rw [this, e]) h1
      · rfl
  have fb : floatBits .add .f64 x y = double.add x y := rfl
  rcases hx with h | h
  · obtain ⟨h1, h2⟩ := hi x h
    have e := read_inf h1
    rw [h2] at e
    rcases rd y hy1 ny with ⟨s, m, p, g⟩ | g
    · exact word (fb.trans (by unfold Ieee.Format.add; rw [e, g]; rfl)) rfl
    · exact word (fb.trans (by unfold Ieee.Format.add; rw [e, g]; rfl)) rfl
  · obtain ⟨h1, h2⟩ := hi y h
    have e := read_inf h1
    rw [h2] at e
    rcases rd x hx1 nx with ⟨s, m, p, g⟩ | g
    · exact word (fb.trans (by unfold Ieee.Format.add; rw [e, g]; rfl)) rfl
    · exact word (fb.trans (by unfold Ieee.Format.add; rw [e, g]; rfl)) rfl
theorem add_val' {x y : Nat} (hx : x % p63 < infR) (hy : y % p63 < infR) : isN (cop .add x y) = false ∧ key (cop .add x y) = RK (V x + V y) (-1074) ∧ cop .add x y < 18446744073709551616 := by
  have e := add_fin hx hy
  have k := add_key hx hy e
  have c : cop .add x y = _ := cop_some (op := .add) e
  rw [canon_num k.2.1] at c
  rw [c]; exact ⟨k.2.1, k.1, k.2.2⟩
theorem add_lo {a c : Nat} {S T : Int} (ha : Lo a S) (hc : Lo c T) (hS : Sm S) (hT : Sm T) (_h : isN (cop .add a c) = false) : key (cop .add a c) ≤ RK (S + T) (-1074) := by
  have inf1 : ∀ {x R}, Lo x R → Sm R → key x ≠ infR := fun {x R} h hR e => by
    rcases h.cases hR with g | ⟨g, -⟩
    · rw [g] at e; exact absurd e (by decide)
    · have := V_of_key_inf e
      have hk := key_eq x
      unfold sgd at hk
      split at hk <;> omega
  rcases ha.cases hS with g1 | ⟨g1, g2⟩
  · rw [add_inf (.inl g1) (inf1 ha hS) (inf1 hc hT) ha.1 hc.1]; exact RK_lo _
  · rcases hc.cases hT with k1 | ⟨k1, k2⟩
    · rw [add_inf (.inr k1) (inf1 ha hS) (inf1 hc hT) ha.1 hc.1]; exact RK_lo _
    · obtain ⟨-, e, -⟩ := add_val' g1 k1
      rw [e]; exact RK_mono _ (by omega)
end Go.Proofs.Ytainodgbcpkipaa

namespace Go.Proofs.Ytainodgbcpkipaa
open Ieee (double)
open Ex (outP aroundP addP subP mulP)

theorem RK_neg_key {x : Nat} {R : Int} : key x ≤ RK R (-1074) ↔ RK (-R) (-1074) ≤ - key x := by rw [RK_neg]; omega
/-- The same with the other sign. -/
def fl (y : Nat) : Nat := double.word (!neg y) (y % p63)
theorem fl_lt {y : Nat} (h : isN y = false) : fl y < 18446744073709551616 := word_lt _ (isN_false h)
theorem fl_key {y : Nat} (h : isN y = false) : key (fl y) = - key y := by
  unfold fl
  rw [word_key _ (isN_false h), key_eq]
  unfold sgd; cases neg y <;> simp
theorem fl_V {y : Nat} (h : isN y = false) : V (fl y) = - V y := by
  unfold fl
  rw [word_V _ (isN_false h)]
  unfold V sgd; cases neg y <;> simp
theorem fl_isN {y : Nat} (h : isN y = false) : isN (fl y) = false := word_isN _ (isN_false h)
theorem fl_read {y : Nat} (h : isN y = false) : (double.read y).opposite = double.read (fl y) := by
  by_cases hf : y % p63 < infR
  · exact opposite_read y hf
  · have e : y % p63 = infR := by have := isN_false h; omega
    rw [read_inf e]
    have hm : fl y % p63 = infR := by unfold fl; rw [word_mod _ (isN_false h), e]
    rw [read_inf hm]
    have : neg (fl y) = !neg y := by unfold fl; rw [word_neg _ (isN_false h)]
    rw [this]; rfl
theorem sub_add {x y : Nat} (h : isN y = false) : cop .sub x y = cop .add x (fl y) := by
  have e : floatBits .sub .f64 x y = floatBits .add .f64 x (fl y) := by
    show double.sub x y = double.add x (fl y)
    unfold Ieee.Format.sub Ieee.Format.add
    rw [fl_read h]
  unfold cop; rw [e]
theorem Hi.flip {d : Nat} {T : Int} (h : Hi d T) : Lo (fl d) (-T) := ⟨fl_isN h.1, by
  rw [fl_key h.1, fl_V h.1]
  rcases h.2 with g | g
  · exact .inl (by omega)
  · exact .inr (by omega)⟩
theorem Lo.flip {d : Nat} {T : Int} (h : Lo d T) : Hi (fl d) (-T) := ⟨fl_isN h.1, by
  rw [fl_key h.1, fl_V h.1]
  rcases h.2 with g | g
  · exact .inl (by omega)
  · exact .inr (by omega)⟩
theorem Sm.neg {T : Int} (h : Sm T) : Sm (-T) := by unfold Sm at *; omega

/-- A sum with what is infinite above. -/
theorem add_pinf {x y : Nat} (hx : key x = infR ∨ key y = infR) (hx1 : key x ≠ -(infR : Int)) (hy1 : key y ≠ -(infR : Int)) (nx : isN x = false) (ny : isN y = false) : key (cop .add x y) = infR := by
  have hi : ∀ z, key z = infR → z % p63 = infR ∧ neg z = false := fun z h => by
    have hp : (0 : Int) < infR := by decide
    rw [key_eq] at h
    unfold sgd at h
    cases hn : neg z <;> rw [hn] at h <;> simp only [Bool.false_eq_true, if_false, if_true] at h
    · exact ⟨by omega, rfl⟩
    · omega
  have word : ∀ {r}, floatBits .add .f64 x y = some r → r = double.word false infR → key (cop .add x y) = infR := fun {r} h e => by
    rw [cop_some h, e, canon_num (by decide)]; decide
  have rd : ∀ z, key z ≠ -(infR : Int) → isN z = false → (∃ s m p, double.read z = .number s m p) ∨ double.read z = .infinity false := fun z h1 h2 => by
    by_cases hz : z % p63 < infR
    · obtain ⟨m, p, e, -⟩ := read_fin hz
      exact .inl ⟨_, _, _, e⟩
    · have e : z % p63 = infR := by have := isN_false h2; omega
      refine .inr ?_
      rw [read_inf e]
      have := key_eq z
      unfold sgd at this
      cases hn : neg z
      · rfl
      · rw [hn] at this; simp only [if_true] at this; exact absurd (by rw [this, e]) h1
  have fb : floatBits .add .f64 x y = double.add x y := rfl
  rcases hx with h | h
  · obtain ⟨h1, h2⟩ := hi x h
    have e := read_inf h1
    rw [h2] at e
    rcases rd y hy1 ny with ⟨s, m, p, g⟩ | g
    · exact word (fb.trans (by unfold Ieee.Format.add; rw [e, g]; rfl)) rfl
    · exact word (fb.trans (by unfold Ieee.Format.add; rw [e, g]; rfl)) rfl
  · obtain ⟨h1, h2⟩ := hi y h
    have e := read_inf h1
    rw [h2] at e
    rcases rd x hx1 nx with ⟨s, m, p, g⟩ | g
    · exact word (fb.trans (by unfold Ieee.Format.add; rw [e, g]; rfl)) rfl
    · exact word (fb.trans (by unfold Ieee.Format.add; rw [e, g]; rfl)) rfl
theorem add_hi {b d : Nat} {S T : Int} (hb : Hi b S) (hd : Hi d T) (hS : Sm S) (hT : Sm T) : RK (S + T) (-1074) ≤ key (cop .add b d) := by
  have inf1 : ∀ {x R}, Hi x R → Sm R → key x ≠ -(infR : Int) := fun {x R} h hR e => by
    rcases h.cases hR with g | ⟨g, -⟩
    · rw [g] at e; exact absurd e (by decide)
    · have hk := key_eq x
      unfold sgd at hk
      split at hk <;> omega
  rcases hb.cases hS with g1 | ⟨g1, g2⟩
  · rw [add_pinf (.inl g1) (inf1 hb hS) (inf1 hd hT) hb.1 hd.1]; exact RK_hi _
  · rcases hd.cases hT with k1 | ⟨k1, k2⟩
    · rw [add_pinf (.inr k1) (inf1 hb hS) (inf1 hd hT) hb.1 hd.1]; exact RK_hi _
    · obtain ⟨-, e, -⟩ := add_val' g1 k1
      rw [e]; exact RK_mono _ (by omega)
/-- What is within two is, added, within their sum. -/
theorem add_enc {a b c d : Nat} {S T : Int} (ha : Lo a S) (hb : Hi b S) (hc : Lo c T) (hd : Hi d T) (hS : Sm S) (hT : Sm T) : Lo (addP a b c d).1 (S + T) ∧ Hi (addP a b c d).2 (S + T) :=
  out_enc (Ex.cop_lt _ _ _) (Ex.cop_lt _ _ _) (fun h => add_lo ha hc hS hT h) (fun _ => add_hi hb hd hS hT)
theorem sub_enc {a b c d : Nat} {S T : Int} (ha : Lo a S) (hb : Hi b S) (hc : Lo c T) (hd : Hi d T) (hS : Sm S) (hT : Sm T) : Lo (subP a b c d).1 (S - T) ∧ Hi (subP a b c d).2 (S - T) := by
  unfold Ex.subP
  rw [sub_add hd.1, sub_add hc.1]
  refine out_enc (Ex.cop_lt _ _ _) (Ex.cop_lt _ _ _) (fun h => ?_) (fun _ => ?_)
  · exact add_lo ha hd.flip hS hT.neg h
  · exact add_hi hb hc.flip hS hT.neg

theorem mul_val' {x y : Nat} (hx : x % p63 < infR) (hy : y % p63 < infR) : isN (cop .mul x y) = false ∧ key (cop .mul x y) = RK (V x * V y) (-2148) := by
  have e := mul_fin hx hy
  have k := mul_key hx hy e
  have c : cop .mul x y = _ := cop_some (op := .mul) e
  rw [canon_num k.2.1] at c
  rw [c]; exact ⟨k.2.1, k.1⟩
theorem RK_prod {R P : Int} (h : R * (2 ^ 1074 : Nat) = P) : RK P (-2148) = RK R (-1074) := by
  rw [← h]
  have := RK_scale R (-1074) 1074
  generalize ((2 ^ 1074 : Nat) : Int) = B at *
  rw [show (-1074 : Int) - ((1074 : Nat) : Int) = -2148 by decide] at this
  exact this
theorem V_zero_key {x : Nat} : V x = 0 ↔ key x = 0 := by
  have := @V_eq x 0
  rw [show V 0 = 0 by decide, show key 0 = 0 by decide] at this
  exact this
theorem V_pos_key {x : Nat} : 0 < V x ↔ 0 < key x := by
  have := @V_lt 0 x
  rw [show V 0 = 0 by decide, show key 0 = 0 by decide] at this
  exact this
theorem V_neg_key {x : Nat} : V x < 0 ↔ key x < 0 := by
  have := @V_lt x 0
  rw [show V 0 = 0 by decide, show key 0 = 0 by decide] at this
  exact this
theorem key_signs {x : Nat} : (0 < key x → neg x = false) ∧ (key x < 0 → neg x = true) := by
  rw [key_eq]; unfold sgd
  cases neg x
  · exact ⟨fun _ => rfl, fun h => by simp only [Bool.false_eq_true, if_false] at h; omega⟩
  · exact ⟨fun h => by simp only [if_true] at h; omega, fun _ => rfl⟩
theorem mul_with {x y : Nat} (hx : x % p63 = infR) (hy : key y ≠ 0) (ny : isN y = false) : key (cop .mul x y) = (if neg x ^^ neg y then -(infR : Int) else infR) ∧ key (cop .mul y x) = (if neg x ^^ neg y then -(infR : Int) else infR) := by
  have e := read_inf hx
  have word : ∀ {z w r s}, floatBits .mul .f64 z w = some r → r = double.word s infR → key (cop .mul z w) = if s then -(infR : Int) else infR := fun {z w r s} h e => by
    rw [cop_some h, e, canon_num (by cases s <;> decide)]
    cases s <;> decide
  by_cases hy' : y % p63 < infR
  · obtain ⟨m, p, g, -, g3⟩ := read_fin hy'
    have hm : m ≠ 0 := by
      intro h
      rw [h, Nat.zero_mul] at g3
      have : y % p63 = 0 := U_inj (by rw [← g3]; exact U_zero.symm)
      apply hy
      rw [key_eq, this]; unfold sgd; cases neg y <;> rfl
    constructor
    · exact word (z := x) (w := y) (show double.mul x y = _ by unfold Ieee.Format.mul; rw [e, g]; simp only [Ieee.Datum.product, if_neg hm]; rfl) rfl
    · exact word (z := y) (w := x) (show double.mul y x = _ by unfold Ieee.Format.mul; rw [e, g]; simp only [Ieee.Datum.product, if_neg hm]; rfl) rfl
  · have hyi : y % p63 = infR := by have := isN_false ny; omega
    have g := read_inf hyi
    constructor
    · exact word (z := x) (w := y) (show double.mul x y = _ by unfold Ieee.Format.mul; rw [e, g]; rfl) rfl
    · rw [show (neg x ^^ neg y) = (neg y ^^ neg x) by rw [Bool.xor_comm]]
      exact word (z := y) (w := x) (show double.mul y x = _ by unfold Ieee.Format.mul; rw [e, g]; rfl) rfl
theorem mul_none {x y : Nat} (hx : x % p63 = infR) (hy : key y = 0) : isN (cop .mul x y) = true ∧ isN (cop .mul y x) = true := by
  have e := read_inf hx
  have y0 : y % p63 = 0 := by
    rw [key_eq] at hy; unfold sgd at hy; split at hy <;> omega
  obtain ⟨m, p, g, -, g3⟩ := read_fin (x := y) (by rw [y0]; decide)
  have hm : m = 0 := by
    rw [y0, U_zero] at g3
    rcases Nat.mul_eq_zero.1 g3 with h | h
    · exact h
    · have := Nat.two_pow_pos (p + 1074).toNat; omega
  have nn : ∀ {z w}, floatBits .mul .f64 z w = none → isN (cop .mul z w) = true := fun {z w} h => by unfold cop; rw [h]; decide
  constructor
  · exact nn (show double.mul x y = none by unfold Ieee.Format.mul; rw [e, g]; simp only [Ieee.Datum.product, if_pos hm]; rfl)
  · exact nn (show double.mul y x = none by unfold Ieee.Format.mul; rw [e, g]; simp only [Ieee.Datum.product, if_pos hm]; rfl)
theorem inf_mod {x : Nat} (h : key x = infR ∨ key x = -(infR : Int)) : x % p63 = infR := by
  rw [key_eq] at h
  unfold sgd at h
  split at h <;> omega
/-- Signs of what is infinite, and of what it is multiplied by: below. -/
theorem mul_below {x y : Nat} (ny : isN y = false) (h : (key x = -(infR : Int) ∧ 0 < key y) ∨ (key x = infR ∧ key y < 0)) : key (cop .mul x y) = -(infR : Int) ∧ key (cop .mul y x) = -(infR : Int) := by
  have hp : (0 : Int) < infR := by decide
  rcases h with ⟨h1, h2⟩ | ⟨h1, h2⟩
  · have n1 := key_signs.2 (show key x < 0 by omega)
    have n2 := key_signs.1 h2
    have := mul_with (inf_mod (.inr h1)) (by omega) ny
    rw [n1, n2] at this; simpa using this
  · have n1 := key_signs.1 (show 0 < key x by omega)
    have n2 := key_signs.2 h2
    have := mul_with (inf_mod (.inl h1)) (by omega) ny
    rw [n1, n2] at this; simpa using this
theorem mul_above {x y : Nat} (ny : isN y = false) (h : (key x = -(infR : Int) ∧ key y < 0) ∨ (key x = infR ∧ 0 < key y)) : key (cop .mul x y) = infR ∧ key (cop .mul y x) = infR := by
  have hp : (0 : Int) < infR := by decide
  rcases h with ⟨h1, h2⟩ | ⟨h1, h2⟩
  · have n1 := key_signs.2 (show key x < 0 by omega)
    have n2 := key_signs.2 h2
    have := mul_with (inf_mod (.inr h1)) (by omega) ny
    rw [n1, n2] at this; simpa using this
  · have n1 := key_signs.1 (show 0 < key x by omega)
    have n2 := key_signs.1 h2
    have := mul_with (inf_mod (.inl h1)) (by omega) ny
    rw [n1, n2] at this; simpa using this
set_option maxHeartbeats 1000000 in
theorem mul_lo {a b c d : Nat} {S T R : Int} (ha : Lo a S) (hb : Hi b S) (hc : Lo c T) (hd : Hi d T) (hS : Sm S) (hT : Sm T) (hR : R * (2 ^ 1074 : Nat) = S * T)
    (n1 : isN (cop .mul a c) = false) (n2 : isN (cop .mul a d) = false) (n3 : isN (cop .mul b c) = false) (_n4 : isN (cop .mul b d) = false) :
    key (cop .mul a c) ≤ RK R (-1074) ∨ key (cop .mul a d) ≤ RK R (-1074) ∨ key (cop .mul b c) ≤ RK R (-1074) ∨ key (cop .mul b d) ≤ RK R (-1074) := by
  have LE : ∀ {e f : Nat}, e % p63 < infR → f % p63 < infR → V e * V f ≤ S * T → key (cop .mul e f) ≤ RK R (-1074) := fun {e f} h1 h2 h => by
    rw [(mul_val' h1 h2).2, ← RK_prod hR]; exact RK_mono _ h
  have IN : ∀ {e f : Nat}, key (cop .mul e f) = -(infR : Int) → key (cop .mul e f) ≤ RK R (-1074) := fun {e f} h => by rw [h]; exact RK_lo _
  have hp : (0 : Int) < infR := by decide
  have NO : ∀ {e f : Nat}, (key e = infR ∨ key e = -(infR : Int)) → key f = 0 → isN (cop .mul e f) = false → False := fun {e f} h1 h2 h3 => by rw [(mul_none (inf_mod h1) h2).1] at h3; cases h3
  have NO' : ∀ {e f : Nat}, (key e = infR ∨ key e = -(infR : Int)) → key f = 0 → isN (cop .mul f e) = false → False := fun {e f} h1 h2 h3 => by rw [(mul_none (inf_mod h1) h2).2] at h3; cases h3
  have CD : (key c = -(infR : Int) ∨ (c % p63 < infR ∧ V c ≤ T)) := hc.cases hT
  have DD : (key d = infR ∨ (d % p63 < infR ∧ T ≤ V d)) := hd.cases hT
  have AD := ha.cases hS
  have BD := hb.cases hS
  have dpos : 0 < T → 0 < key d := by
    intro h
    rcases DD with g | ⟨-, g⟩
    · omega
    · exact V_pos_key.1 (by omega)
  have cneg : T < 0 → key c < 0 := by
    intro h
    rcases CD with g | ⟨-, g⟩
    · omega
    · exact V_neg_key.1 (by omega)
  rcases Int.lt_trichotomy T 0 with hT0 | hT0 | hT0
  · rcases BD with e1 | ⟨e1, e2⟩
    · exact .inr (.inr (.inl (IN (mul_below hc.1 (.inr ⟨e1, cneg hT0⟩)).1)))
    · rcases Int.lt_trichotomy (V b) 0 with sg | sg | sg
      · rcases DD with f1 | ⟨f1, f2⟩
        · exact .inr (.inr (.inr (IN (mul_below hb.1 (.inr ⟨f1, V_neg_key.1 sg⟩)).2)))
        · refine .inr (.inr (.inr (LE e1 f1 ?_)))
          have q1 := Int.mul_le_mul_of_nonpos_right e2 (Int.le_of_lt hT0)
          have q2 := Int.mul_le_mul_of_nonpos_left (Int.le_of_lt sg) f2
          exact Int.le_trans q2 q1
      · rcases CD with f1 | ⟨f1, f2⟩
        · exact (NO' (.inr f1) (V_zero_key.1 sg) n3).elim
        · refine .inr (.inr (.inl (LE e1 f1 ?_)))
          have q1 := Int.mul_le_mul_of_nonpos_right e2 (Int.le_of_lt hT0)
          rw [sg, Int.zero_mul]; rw [sg, Int.zero_mul] at q1; exact q1
      · rcases CD with f1 | ⟨f1, f2⟩
        · exact .inr (.inr (.inl (IN (mul_below hb.1 (.inl ⟨f1, V_pos_key.1 sg⟩)).2)))
        · refine .inr (.inr (.inl (LE e1 f1 ?_)))
          have q1 := Int.mul_le_mul_of_nonpos_right e2 (Int.le_of_lt hT0)
          have q2 := Int.mul_le_mul_of_nonneg_left f2 (Int.le_of_lt sg)
          exact Int.le_trans q2 q1
  · rcases AD with e1 | ⟨e1, e2⟩
    · rcases DD with f1 | ⟨f1, f2⟩
      · exact .inr (.inl (IN (mul_below hd.1 (.inl ⟨e1, by omega⟩)).1))
      · rw [hT0] at f2
        rcases Int.lt_or_eq_of_le f2 with g | g
        · exact .inr (.inl (IN (mul_below hd.1 (.inl ⟨e1, V_pos_key.1 g⟩)).1))
        · exact (NO (.inr e1) (V_zero_key.1 g.symm) n2).elim
    · rcases Int.lt_trichotomy (V a) 0 with sg | sg | sg
      · rcases DD with f1 | ⟨f1, f2⟩
        · exact .inr (.inl (IN (mul_below ha.1 (.inr ⟨f1, V_neg_key.1 sg⟩)).2))
        · refine .inr (.inl (LE e1 f1 ?_))
          rw [hT0, Int.mul_zero]; rw [hT0] at f2
          exact Int.mul_nonpos_of_nonpos_of_nonneg (Int.le_of_lt sg) f2
      · rcases CD with f1 | ⟨f1, f2⟩
        · exact (NO' (.inr f1) (V_zero_key.1 sg) n1).elim
        · refine .inl (LE e1 f1 ?_)
          rw [hT0, Int.mul_zero]; rw [hT0] at f2
          rw [sg, Int.zero_mul]; exact Int.le_refl _
      · rcases CD with f1 | ⟨f1, f2⟩
        · exact .inl (IN (mul_below ha.1 (.inl ⟨f1, V_pos_key.1 sg⟩)).2)
        · refine .inl (LE e1 f1 ?_)
          rw [hT0, Int.mul_zero]; rw [hT0] at f2
          exact Int.mul_nonpos_of_nonneg_of_nonpos (Int.le_of_lt sg) f2
  · rcases AD with e1 | ⟨e1, e2⟩
    · exact .inr (.inl (IN (mul_below hd.1 (.inl ⟨e1, dpos hT0⟩)).1))
    · rcases Int.lt_trichotomy (V a) 0 with sg | sg | sg
      · rcases DD with f1 | ⟨f1, f2⟩
        · exact .inr (.inl (IN (mul_below ha.1 (.inr ⟨f1, V_neg_key.1 sg⟩)).2))
        · refine .inr (.inl (LE e1 f1 ?_))
          have q1 := Int.mul_le_mul_of_nonneg_right e2 (Int.le_of_lt hT0)
          have q2 := Int.mul_le_mul_of_nonpos_left (Int.le_of_lt sg) f2
          exact Int.le_trans q2 q1
      · rcases CD with f1 | ⟨f1, f2⟩
        · exact (NO' (.inr f1) (V_zero_key.1 sg) n1).elim
        · refine .inl (LE e1 f1 ?_)
          have q1 := Int.mul_le_mul_of_nonneg_right e2 (Int.le_of_lt hT0)
          rw [sg, Int.zero_mul]; rw [sg, Int.zero_mul] at q1; exact q1
      · rcases CD with f1 | ⟨f1, f2⟩
        · exact .inl (IN (mul_below ha.1 (.inl ⟨f1, V_pos_key.1 sg⟩)).2)
        · refine .inl (LE e1 f1 ?_)
          have q1 := Int.mul_le_mul_of_nonneg_right e2 (Int.le_of_lt hT0)
          have q2 := Int.mul_le_mul_of_nonneg_left f2 (Int.le_of_lt sg)
          exact Int.le_trans q2 q1
set_option maxHeartbeats 1000000 in
theorem mul_hi {a b c d : Nat} {S T R : Int} (ha : Lo a S) (hb : Hi b S) (hc : Lo c T) (hd : Hi d T) (hS : Sm S) (hT : Sm T) (hR : R * (2 ^ 1074 : Nat) = S * T)
    (n1 : isN (cop .mul a c) = false) (_n2 : isN (cop .mul a d) = false) (n3 : isN (cop .mul b c) = false) (_n4 : isN (cop .mul b d) = false) :
    RK R (-1074) ≤ key (cop .mul a c) ∨ RK R (-1074) ≤ key (cop .mul a d) ∨ RK R (-1074) ≤ key (cop .mul b c) ∨ RK R (-1074) ≤ key (cop .mul b d) := by
  have LE : ∀ {e f : Nat}, e % p63 < infR → f % p63 < infR → S * T ≤ V e * V f → RK R (-1074) ≤ key (cop .mul e f) := fun {e f} h1 h2 h => by
    rw [(mul_val' h1 h2).2, ← RK_prod hR]; exact RK_mono _ h
  have IN : ∀ {e f : Nat}, key (cop .mul e f) = infR → RK R (-1074) ≤ key (cop .mul e f) := fun {e f} h => by rw [h]; exact RK_hi _
  have hp : (0 : Int) < infR := by decide
  have NO : ∀ {e f : Nat}, (key e = infR ∨ key e = -(infR : Int)) → key f = 0 → isN (cop .mul e f) = false → False := fun {e f} h1 h2 h3 => by rw [(mul_none (inf_mod h1) h2).1] at h3; cases h3
  have NO' : ∀ {e f : Nat}, (key e = infR ∨ key e = -(infR : Int)) → key f = 0 → isN (cop .mul f e) = false → False := fun {e f} h1 h2 h3 => by rw [(mul_none (inf_mod h1) h2).2] at h3; cases h3
  have CD : (key c = -(infR : Int) ∨ (c % p63 < infR ∧ V c ≤ T)) := hc.cases hT
  have DD : (key d = infR ∨ (d % p63 < infR ∧ T ≤ V d)) := hd.cases hT
  have AD := ha.cases hS
  have BD := hb.cases hS
  have dpos : 0 < T → 0 < key d := by
    intro h
    rcases DD with g | ⟨-, g⟩
    · omega
    · exact V_pos_key.1 (by omega)
  have cneg : T < 0 → key c < 0 := by
    intro h
    rcases CD with g | ⟨-, g⟩
    · omega
    · exact V_neg_key.1 (by omega)
  rcases Int.lt_trichotomy T 0 with hT0 | hT0 | hT0
  · rcases AD with e1 | ⟨e1, e2⟩
    · exact .inl (IN (mul_above hc.1 (.inl ⟨e1, cneg hT0⟩)).1)
    · rcases Int.lt_trichotomy (V a) 0 with sg | sg | sg
      · rcases CD with f1 | ⟨f1, f2⟩
        · exact .inl (IN (mul_above ha.1 (.inl ⟨f1, V_neg_key.1 sg⟩)).2)
        · refine .inl (LE e1 f1 ?_)
          have q1 := Int.mul_le_mul_of_nonpos_right e2 (Int.le_of_lt hT0)
          have q2 := Int.mul_le_mul_of_nonpos_left (Int.le_of_lt sg) f2
          exact Int.le_trans q1 q2
      · rcases CD with f1 | ⟨f1, f2⟩
        · exact (NO' (.inr f1) (V_zero_key.1 sg) n1).elim
        · refine .inl (LE e1 f1 ?_)
          have q1 := Int.mul_le_mul_of_nonpos_right e2 (Int.le_of_lt hT0)
          rw [sg, Int.zero_mul]; rw [sg, Int.zero_mul] at q1; exact q1
      · rcases DD with f1 | ⟨f1, f2⟩
        · exact .inr (.inl (IN (mul_above ha.1 (.inr ⟨f1, V_pos_key.1 sg⟩)).2))
        · refine .inr (.inl (LE e1 f1 ?_))
          have q1 := Int.mul_le_mul_of_nonpos_right e2 (Int.le_of_lt hT0)
          have q2 := Int.mul_le_mul_of_nonneg_left f2 (Int.le_of_lt sg)
          exact Int.le_trans q1 q2
  · rcases AD with e1 | ⟨e1, e2⟩
    · rcases CD with f1 | ⟨f1, f2⟩
      · exact .inl (IN (mul_above hc.1 (.inl ⟨e1, by omega⟩)).1)
      · rw [hT0] at f2
        rcases Int.lt_or_eq_of_le f2 with g | g
        · exact .inl (IN (mul_above hc.1 (.inl ⟨e1, V_neg_key.1 g⟩)).1)
        · exact (NO (.inr e1) (V_zero_key.1 g) n1).elim
    · rcases Int.lt_trichotomy (V a) 0 with sg | sg | sg
      · rcases CD with f1 | ⟨f1, f2⟩
        · exact .inl (IN (mul_above ha.1 (.inl ⟨f1, V_neg_key.1 sg⟩)).2)
        · refine .inl (LE e1 f1 ?_)
          rw [hT0, Int.mul_zero]; rw [hT0] at f2
          exact Int.mul_nonneg_of_nonpos_of_nonpos (Int.le_of_lt sg) f2
      · rcases CD with f1 | ⟨f1, f2⟩
        · exact (NO' (.inr f1) (V_zero_key.1 sg) n1).elim
        · refine .inl (LE e1 f1 ?_)
          rw [hT0, Int.mul_zero]; rw [hT0] at f2
          rw [sg, Int.zero_mul]; exact Int.le_refl _
      · rcases DD with f1 | ⟨f1, f2⟩
        · exact .inr (.inl (IN (mul_above ha.1 (.inr ⟨f1, V_pos_key.1 sg⟩)).2))
        · refine .inr (.inl (LE e1 f1 ?_))
          rw [hT0, Int.mul_zero]; rw [hT0] at f2
          exact Int.mul_nonneg (Int.le_of_lt sg) f2
  · rcases BD with e1 | ⟨e1, e2⟩
    · exact .inr (.inr (.inr (IN (mul_above hd.1 (.inr ⟨e1, dpos hT0⟩)).1)))
    · rcases Int.lt_trichotomy (V b) 0 with sg | sg | sg
      · rcases CD with f1 | ⟨f1, f2⟩
        · exact .inr (.inr (.inl (IN (mul_above hb.1 (.inl ⟨f1, V_neg_key.1 sg⟩)).2)))
        · refine .inr (.inr (.inl (LE e1 f1 ?_)))
          have q1 := Int.mul_le_mul_of_nonneg_right e2 (Int.le_of_lt hT0)
          have q2 := Int.mul_le_mul_of_nonpos_left (Int.le_of_lt sg) f2
          exact Int.le_trans q1 q2
      · rcases CD with f1 | ⟨f1, f2⟩
        · exact (NO' (.inr f1) (V_zero_key.1 sg) n3).elim
        · refine .inr (.inr (.inl (LE e1 f1 ?_)))
          have q1 := Int.mul_le_mul_of_nonneg_right e2 (Int.le_of_lt hT0)
          rw [sg, Int.zero_mul]; rw [sg, Int.zero_mul] at q1; exact q1
      · rcases DD with f1 | ⟨f1, f2⟩
        · exact .inr (.inr (.inr (IN (mul_above hb.1 (.inr ⟨f1, V_pos_key.1 sg⟩)).2)))
        · refine .inr (.inr (.inr (LE e1 f1 ?_)))
          have q1 := Int.mul_le_mul_of_nonneg_right e2 (Int.le_of_lt hT0)
          have q2 := Int.mul_le_mul_of_nonneg_left f2 (Int.le_of_lt sg)
          exact Int.le_trans q1 q2

theorem pick_lo' {x y : Nat} (h1 : isN x = false) (h2 : isN y = false) : isN (if ltB x y then x else y) = false ∧ key (if ltB x y then x else y) = min (key x) (key y) ∧ (x < 18446744073709551616 → y < 18446744073709551616 → (if ltB x y then x else y) < 18446744073709551616) := by
  cases h : ltB x y <;> simp [ltB, h1, h2] at h <;> simp [h1, h2] <;> omega
theorem min4 {a b c d : Nat} (h1 : isN a = false) (h2 : isN b = false) (h3 : isN c = false) (h4 : isN d = false) : key (minL a [a, b, c, d]) = min (min (key a) (key b)) (min (key c) (key d)) := by
  simp only [minL]
  obtain ⟨p1, p2, -⟩ := pick_lo' h1 h1
  generalize (if ltB a a then a else a) = A at *
  obtain ⟨q1, q2, -⟩ := pick_lo' h2 p1
  generalize (if ltB b A then b else A) = B at *
  obtain ⟨r1, r2, -⟩ := pick_lo' h3 q1
  generalize (if ltB c B then c else B) = C at *
  obtain ⟨s1, s2, -⟩ := pick_lo' h4 r1
  omega
theorem pick_hi' {x y : Nat} (h1 : isN x = false) (h2 : isN y = false) : isN (if ltB y x then x else y) = false ∧ key (if ltB y x then x else y) = max (key x) (key y) := by
  cases h : ltB y x <;> simp [ltB, h1, h2] at h <;> simp [h1, h2] <;> omega
theorem max4 {a b c d : Nat} (h1 : isN a = false) (h2 : isN b = false) (h3 : isN c = false) (h4 : isN d = false) : key (maxL a [a, b, c, d]) = max (max (key a) (key b)) (max (key c) (key d)) := by
  simp only [maxL]
  obtain ⟨p1, p2⟩ := pick_hi' h1 h1
  generalize (if ltB a a then a else a) = A at *
  obtain ⟨q1, q2⟩ := pick_hi' h2 p1
  generalize (if ltB A b then b else A) = B at *
  obtain ⟨r1, r2⟩ := pick_hi' h3 q1
  generalize (if ltB B c then c else B) = C at *
  obtain ⟨s1, s2⟩ := pick_hi' h4 r1
  omega
theorem mul_enc {a b c d : Nat} {S T R : Int} (ha : Lo a S) (hb : Hi b S) (hc : Lo c T) (hd : Hi d T) (hS : Sm S) (hT : Sm T) (hR : R * (2 ^ 1074 : Nat) = S * T) : Lo (mulP a b c d).1 R ∧ Hi (mulP a b c d).2 R := by
  have hm : ∀ x ∈ [cop .mul a c, cop .mul a d, cop .mul b c, cop .mul b d], x < 18446744073709551616 := fun x hx => by
    simp only [List.mem_cons, List.not_mem_nil, or_false] at hx
    rcases hx with rfl | rfl | rfl | rfl <;> exact Ex.cop_lt _ _ _
  unfold Ex.mulP Ex.aroundP
  cases hn : (isN (cop .mul a c) || isN (cop .mul a d) || isN (cop .mul b c) || isN (cop .mul b d))
  · simp only [cond_false]
    simp only [Bool.or_eq_false_iff] at hn
    obtain ⟨⟨⟨n1, n2⟩, n3⟩, n4⟩ := hn
    refine out_enc (minL_lt (Ex.cop_lt _ _ _) hm) (maxL_lt (Ex.cop_lt _ _ _) hm) (fun _ => ?_) (fun _ => ?_)
    · rw [min4 n1 n2 n3 n4]
      have := mul_lo ha hb hc hd hS hT hR n1 n2 n3 n4
      omega
    · rw [max4 n1 n2 n3 n4]
      have := mul_hi ha hb hc hd hS hT hR n1 n2 n3 n4
      omega
  · exact ⟨lo_inf R, hi_inf R⟩
end Go.Proofs.Ytainodgbcpkipaa

namespace Go.Proofs.Ytainodgbcpkipaa
open Ex
open Ieee (double)

abbrev NI : Nat := 18442240474082181120
abbrev PI : Nat := 9218868437227405312
theorem iv_inj {a b c d : Nat} (h : iv a b = iv c d) : a = c ∧ b = d := by
  unfold iv at h; simpa using h
theorem outP_num (p q : Nat) : isN (outP p q).1 = false ∧ isN (outP p q).2 = false := by
  obtain ⟨x, y, h, h1, h2⟩ := outI_num p q
  rw [outP_eq] at h
  obtain ⟨rfl, rfl⟩ := iv_inj h
  exact ⟨h1, h2⟩
theorem aroundP_num (a b c d : Nat) : isN (aroundP a b c d).1 = false ∧ isN (aroundP a b c d).2 = false := by
  obtain ⟨x, y, h, h1, h2⟩ := aroundI_num a b c d
  rw [aroundP_eq] at h
  obtain ⟨rfl, rfl⟩ := iv_inj h
  exact ⟨h1, h2⟩
theorem divP_num (a b c d : Nat) : isN (divP a b c d).1 = false ∧ isN (divP a b c d).2 = false := by
  unfold divP
  cases leB c 0 && leB 0 d
  · exact aroundP_num _ _ _ _
  · simp only [cond_true]; exact ⟨by decide, by decide⟩
theorem eqB_refl {x : Nat} (h : isN x = false) : eqB x x = true := by rw [eqB_self, h]; rfl

/-! ### Turned about -/
theorem addP_sym {a b c d : Nat} (h : Mid a b) (g : Mid c d) : addP a b c d = addP c d a b := by
  unfold addP; rw [add_sym h.fin.1 g.fin.1, add_sym h.fin.2.1 g.fin.2.1]
theorem mulP_sym {a b c d : Nat} (h : Mid a b) (g : Mid c d) : mulP a b c d = mulP c d a b := by
  have e := mulI_sym h g
  unfold mulI at e
  rw [aroundP_eq, aroundP_eq] at e
  obtain ⟨e1, e2⟩ := iv_inj e
  exact Prod.ext e1 e2
theorem subP_turn {a b c d : Nat} (h : Mid a b) (g : Mid c d) : eqB (subP a b c d).1 (cop .sub 0 (subP c d a b).2) = true ∧ eqB (subP a b c d).2 (cop .sub 0 (subP c d a b).1) = true := by
  obtain ⟨s1, s2, t1, t2, e1, e2, -, -, -, -, h1, h2⟩ := subI_turn h g
  rw [outP_eq] at e1 e2
  obtain ⟨rfl, rfl⟩ := iv_inj e1
  obtain ⟨rfl, rfl⟩ := iv_inj e2
  exact ⟨h1, h2⟩

/-! ### With all numbers -/
theorem ni_key : key NI = -(infR : Int) := by decide
theorem pi_key : key PI = infR := by decide
theorem key_fin {x : Nat} (h : x % p63 < infR) : key x ≠ infR ∧ key x ≠ -(infR : Int) ∧ isN x = false := by
  refine ⟨?_, ?_, isN_of_le (Nat.le_of_lt h)⟩ <;> (rw [key_eq]; unfold sgd; split <;> omega)
theorem is_ni {x : Nat} (hx : x < 18446744073709551616) (h : key x = -(infR : Int)) : x = NI := by
  rcases of_key hx (show NI < 18446744073709551616 by decide) (h.trans ni_key.symm) with e | ⟨-, e⟩
  · exact e
  · exact absurd e (by decide)
theorem is_pi {x : Nat} (hx : x < 18446744073709551616) (h : key x = infR) : x = PI := by
  rcases of_key hx (show PI < 18446744073709551616 by decide) (h.trans pi_key.symm) with e | ⟨-, e⟩
  · exact e
  · exact absurd e (by decide)
theorem add_ni {x : Nat} (h : x % p63 < infR) : cop .add x NI = NI ∧ cop .add NI x = NI := by
  obtain ⟨h1, h2, h3⟩ := key_fin h
  exact ⟨is_ni (cop_lt _ _ _) (add_inf (.inr ni_key) h1 (by decide) h3 (by decide)), is_ni (cop_lt _ _ _) (add_inf (.inl ni_key) (by decide) h1 (by decide) h3)⟩
theorem add_pi {x : Nat} (h : x % p63 < infR) : cop .add x PI = PI ∧ cop .add PI x = PI := by
  obtain ⟨h1, h2, h3⟩ := key_fin h
  exact ⟨is_pi (cop_lt _ _ _) (add_pinf (.inr pi_key) h2 (by decide) h3 (by decide)), is_pi (cop_lt _ _ _) (add_pinf (.inl pi_key) (by decide) h2 (by decide) h3)⟩
theorem fl_fin {x : Nat} (h : x % p63 < infR) : fl x % p63 < infR := by
  have := fl_key (y := x) (key_fin h).2.2
  refine fin_of_key (fl_isN (key_fin h).2.2) ?_ ?_ <;> rw [this] <;> have := key_fin h <;> omega
theorem whole_out : outP NI PI = (NI, PI) := by decide +kernel
theorem addP_whole {a b : Nat} (h : Mid a b) : addP a b NI PI = (NI, PI) := by
  unfold addP; rw [(add_ni h.fin.1).1, (add_pi h.fin.2.1).1, whole_out]
theorem subP_whole {a b : Nat} (h : Mid a b) : subP NI PI a b = (NI, PI) := by
  unfold subP
  rw [sub_add h.ends.2.1, sub_add h.ends.1, (add_ni (fl_fin h.fin.2.1)).2, (add_pi (fl_fin h.fin.1)).2, whole_out]
theorem mulP_whole : mulP NI PI NI PI = (NI, PI) := by decide +kernel
/-- An infinite one times, or by, one that is not 0. -/
theorem mul_infs {y : Nat} (h : y % p63 < infR) : (0 < key y → cop .mul NI y = NI ∧ cop .mul PI y = PI) ∧ (key y < 0 → cop .mul NI y = PI ∧ cop .mul PI y = NI) := by
  have ny := (key_fin h).2.2
  refine ⟨fun hp => ⟨is_ni (cop_lt _ _ _) (mul_below ny (.inl ⟨ni_key, hp⟩)).1, is_pi (cop_lt _ _ _) (mul_above ny (.inr ⟨pi_key, hp⟩)).1⟩, fun hn => ⟨is_pi (cop_lt _ _ _) (mul_above ny (.inl ⟨ni_key, hn⟩)).1, is_ni (cop_lt _ _ _) (mul_below ny (.inr ⟨pi_key, hn⟩)).1⟩⟩
theorem quo_infs {y : Nat} (h : y % p63 < infR) (_hk : key y ≠ 0) (s : Bool) : cop .quo (double.word s infR) y = double.word (s ^^ neg y) infR := by
  obtain ⟨m, p, e, -, -⟩ := read_fin h
  have hr : double.read (double.word s infR) = .infinity s := by
    have := read_inf (word_mod s (Nat.le_refl infR))
    rwa [word_neg s (Nat.le_refl _)] at this
  have : floatBits .quo .f64 (double.word s infR) y = some (double.word (s ^^ neg y) infR) := by
    show double.div _ _ = _
    unfold Ieee.Format.div
    rw [hr, e]
    rfl
  unfold cop; rw [this]; exact canon_num (word_isN _ (Nat.le_refl _))
theorem neg_of_key {y : Nat} : (0 < key y → neg y = false) ∧ (key y < 0 → neg y = true) := by
  rw [key_eq]; unfold sgd; cases neg y <;> simp <;> omega
theorem quo_infs' {y : Nat} (h : y % p63 < infR) (hk : key y ≠ 0) : (0 < key y → cop .quo NI y = NI ∧ cop .quo PI y = PI) ∧ (key y < 0 → cop .quo NI y = PI ∧ cop .quo PI y = NI) := by
  have e1 : double.word true infR = NI := by decide
  have e2 : double.word false infR = PI := by decide
  have q1 := quo_infs h hk true
  have q2 := quo_infs h hk false
  rw [e1] at q1; rw [e2] at q2
  refine ⟨fun hp => ?_, fun hn => ?_⟩
  · rw [neg_of_key.1 hp] at q1 q2; exact ⟨q1.trans e1, q2.trans e2⟩
  · rw [neg_of_key.2 hn] at q1 q2; exact ⟨q1.trans e2, q2.trans e1⟩
theorem around_infs : aroundP NI NI PI PI = (NI, PI) ∧ aroundP PI PI NI NI = (NI, PI) := by decide +kernel
/-- What does not hold 0. -/
theorem off_zero {a b : Nat} (h : Mid a b) (h0 : leB a 0 = true → leB 0 b = false) : (0 < key a ∧ 0 < key b) ∨ (key a < 0 ∧ key b < 0) := by
  obtain ⟨n1, n2, h3, -⟩ := h.ends
  have k0 : key 0 = 0 := by decide
  rw [leB_of n1 (by decide), leB_of (by decide) n2, k0] at h0
  simp only [decide_eq_true_eq, decide_eq_false_iff_not] at h0
  omega
theorem mulP_whole2 {a b : Nat} (h : Mid a b) (h0 : leB a 0 = true → leB 0 b = false) : mulP NI PI a b = (NI, PI) := by
  unfold mulP
  rcases off_zero h h0 with ⟨h1, h2⟩ | ⟨h1, h2⟩
  · rw [((mul_infs h.fin.1).1 h1).1, ((mul_infs h.fin.1).1 h1).2, ((mul_infs h.fin.2.1).1 h2).1, ((mul_infs h.fin.2.1).1 h2).2]
    exact around_infs.1
  · rw [((mul_infs h.fin.1).2 h1).1, ((mul_infs h.fin.1).2 h1).2, ((mul_infs h.fin.2.1).2 h2).1, ((mul_infs h.fin.2.1).2 h2).2]
    exact around_infs.2
theorem divP_whole2 {a b : Nat} (h : Mid a b) (h0 : leB a 0 = true → leB 0 b = false) : divP NI PI a b = (NI, PI) := by
  unfold divP
  have : (leB a 0 && leB 0 b) = false := by cases g : leB a 0 <;> simp; exact h0 g
  rw [this]
  simp only [cond_false]
  rcases off_zero h h0 with ⟨h1, h2⟩ | ⟨h1, h2⟩
  · rw [((quo_infs' h.fin.1 (by omega)).1 h1).1, ((quo_infs' h.fin.1 (by omega)).1 h1).2, ((quo_infs' h.fin.2.1 (by omega)).1 h2).1, ((quo_infs' h.fin.2.1 (by omega)).1 h2).2]
    exact around_infs.1
  · rw [((quo_infs' h.fin.1 (by omega)).2 h1).1, ((quo_infs' h.fin.1 (by omega)).2 h1).2, ((quo_infs' h.fin.2.1 (by omega)).2 h2).1, ((quo_infs' h.fin.2.1 (by omega)).2 h2).2]
    exact around_infs.2
theorem mid_whole {a b : Nat} (h : Mid a b) : ltB NI a = true ∧ ltB b PI = true ∧ leB NI a = true ∧ leB b PI = true := by
  obtain ⟨n1, n2, -, -⟩ := h.ends
  have k1 := key_abs n1
  have k2 := key_abs n2
  have f1 := key_fin h.fin.1
  have f2 := key_fin h.fin.2.1
  have e1 := ni_key
  have e2 := pi_key
  rw [ltB_of (by decide) n1, ltB_of n2 (by decide), leB_of (by decide) n1, leB_of n2 (by decide)]
  refine ⟨?_, ?_, ?_, ?_⟩ <;> simp only [decide_eq_true_eq] <;> omega
end Go.Proofs.Ytainodgbcpkipaa

namespace Go.Proofs.Ytainodgbcpkipaa
open Ex
open Ieee (double)

theorem outP_val {p q : Nat} (hp : p < 18446744073709551616) (hq : q < 18446744073709551616) (np : isN p = false) (nq : isN q = false) (h : key p ≤ key q) : outP p q = (downB p, upB q) := by
  obtain ⟨D1, D2, -⟩ := down_key hp np
  obtain ⟨U1, U2, -⟩ := up_key hq nq
  have k1 := key_abs np
  have k2 := key_abs nq
  have hi : infR = 9218868437227405312 := rfl
  have : leB (downB p) (upB q) = true := by
    rw [leB_of D2 U2]; simp only [decide_eq_true_eq]; split at D1 <;> split at U1 <;> omega
  unfold outP; rw [this]; rfl
theorem abs_key {x : Nat} (h : isN x = false) : isN (x % 9223372036854775808) = false ∧ key (x % 9223372036854775808) = ((key x).natAbs : Int) ∧ V (x % 9223372036854775808) = ((V x).natAbs : Int) := by
  have e : x % 9223372036854775808 % p63 = x % p63 := by unfold p63; omega
  have n : neg (x % 9223372036854775808) = false := by unfold neg p63; simp
  refine ⟨?_, ?_, ?_⟩
  · unfold isN at *; rw [e]; exact h
  · rw [key_eq, key_eq, e, n]; generalize x % p63 = r; unfold sgd; cases neg x <;> simp
  · unfold V; rw [e, n]; generalize U (x % p63) = r; unfold sgd; cases neg x <;> simp
theorem mag_key {a b : Nat} (h1 : isN a = false) (h2 : isN b = false) : isN (magB a b) = false ∧ key (magB a b) = max ((key a).natAbs : Int) ((key b).natAbs : Int) ∧ magB a b < 18446744073709551616 ∧ V (magB a b) = max ((V a).natAbs : Int) ((V b).natAbs : Int) ∧ 0 ≤ key (magB a b) := by
  obtain ⟨a1, a2, a3⟩ := abs_key h1
  obtain ⟨b1, b2, b3⟩ := abs_key h2
  have hk : ltB (b % 9223372036854775808) (a % 9223372036854775808) = decide (((key b).natAbs : Int) < ((key a).natAbs : Int)) := by rw [ltB_of b1 a1, a2, b2]
  have hv : ((V b).natAbs : Int) < ((V a).natAbs : Int) ↔ ((key b).natAbs : Int) < ((key a).natAbs : Int) := by rw [← a2, ← b2, ← a3, ← b3]; exact V_lt
  have lt : ∀ x : Nat, x % 9223372036854775808 < 18446744073709551616 := fun x => by omega
  unfold magB
  rw [hk]
  by_cases c : ((key b).natAbs : Int) < ((key a).natAbs : Int)
  · rw [decide_eq_true c, if_pos rfl]
    exact ⟨a1, by omega, lt _, by omega, by omega⟩
  · rw [decide_eq_false c, if_neg (by simp)]
    exact ⟨b1, by omega, lt _, by omega, by omega⟩
theorem mag_fin {a b : Nat} (h1 : a % p63 < infR) (h2 : b % p63 < infR) : magB a b % p63 < infR := by
  unfold magB; unfold p63 at *; split <;> omega
/-- What is told outwards is no further from 0 than what its ends are no further than, outwards. -/
theorem out_mag {p q s : Nat} (hp : p < 18446744073709551616) (hq : q < 18446744073709551616) (hs : s < 18446744073709551616) (np : isN p = false) (nq : isN q = false) (ns : isN s = false)
    (h : key p ≤ key q) (h1 : ((key p).natAbs : Int) ≤ key s) (h2 : ((key q).natAbs : Int) ≤ key s) : leB (magB (outP p q).1 (outP p q).2) (upB s) = true ∧ isN (outP p q).1 = false ∧ isN (outP p q).2 = false := by
  rw [outP_val hp hq np nq h]
  obtain ⟨D1, D2, -⟩ := down_key hp np
  obtain ⟨U1, U2, -⟩ := up_key hq nq
  obtain ⟨S1, S2, -⟩ := up_key hs ns
  have k1 := key_abs np
  have k2 := key_abs nq
  have k3 := key_abs ns
  have hi : infR = 9218868437227405312 := rfl
  obtain ⟨m1, m2, -⟩ := mag_key D2 U2
  refine ⟨?_, D2, U2⟩
  rw [leB_of m1 S2, m2]
  simp only [decide_eq_true_eq]
  split at D1 <;> split at U1 <;> split at S1 <;> omega
theorem out_same {s : Nat} (hs : s < 18446744073709551616) (ns : isN s = false) : (outP s s).2 = upB s := by rw [outP_val hs hs ns ns (Int.le_refl _)]
theorem RK_abs (T : Int) (p : Int) : ((RK T p).natAbs : Int) = RK (T.natAbs : Int) p := by
  have h0 : RK 0 p = 0 := by unfold RK; simp [rungOf_zero]; rfl
  by_cases h : 0 ≤ T
  · have := RK_mono p h
    rw [h0] at this
    rw [show (T.natAbs : Int) = T by omega]; omega
  · have := RK_mono p (show T ≤ 0 by omega)
    rw [h0] at this
    rw [show (T.natAbs : Int) = -T by omega, RK_neg]; omega
theorem mags_add {a b c d : Nat} (h : Mid a b) (g : Mid c d) : leB (magB (addP a b c d).1 (addP a b c d).2) (addP (magB a b) (magB a b) (magB c d) (magB c d)).2 = true := by
  obtain ⟨a1, b1, -, -⟩ := h.fin
  obtain ⟨c1, d1, -, -⟩ := g.fin
  have e1 := V_le.2 h.ends.2.2.1
  have e2 := V_le.2 g.ends.2.2.1
  obtain ⟨m1, m2, m3, m4, -⟩ := mag_key h.ends.1 h.ends.2.1
  obtain ⟨n1, n2, n3, n4, -⟩ := mag_key g.ends.1 g.ends.2.1
  obtain ⟨p1, p2, p3⟩ := add_val a1 c1
  obtain ⟨q1, q2, q3⟩ := add_val b1 d1
  obtain ⟨s1, s2, s3⟩ := add_val (mag_fin a1 b1) (mag_fin c1 d1)
  unfold addP
  rw [out_same s3 s1]
  refine (out_mag p3 q3 s3 p1 q1 s1 ?_ ?_ ?_).1
  · rw [p2, q2]; exact RK_mono _ (by omega)
  · rw [p2, s2, RK_abs]; exact RK_mono _ (by omega)
  · rw [q2, s2, RK_abs]; exact RK_mono _ (by omega)
theorem mags_sub {a b c d : Nat} (h : Mid a b) (g : Mid c d) : leB (magB (subP a b c d).1 (subP a b c d).2) (addP (magB a b) (magB a b) (magB c d) (magB c d)).2 = true := by
  obtain ⟨a1, b1, -, -⟩ := h.fin
  obtain ⟨c1, d1, -, -⟩ := g.fin
  have e1 := V_le.2 h.ends.2.2.1
  have e2 := V_le.2 g.ends.2.2.1
  obtain ⟨m1, m2, m3, m4, -⟩ := mag_key h.ends.1 h.ends.2.1
  obtain ⟨n1, n2, n3, n4, -⟩ := mag_key g.ends.1 g.ends.2.1
  obtain ⟨p1, p2, p3⟩ := sub_val a1 d1
  obtain ⟨q1, q2, q3⟩ := sub_val b1 c1
  obtain ⟨s1, s2, s3⟩ := add_val (mag_fin a1 b1) (mag_fin c1 d1)
  unfold addP subP
  rw [out_same s3 s1]
  refine (out_mag p3 q3 s3 p1 q1 s1 ?_ ?_ ?_).1
  · rw [p2, q2]; exact RK_mono _ (by omega)
  · rw [p2, s2, RK_abs]; exact RK_mono _ (by omega)
  · rw [q2, s2, RK_abs]; exact RK_mono _ (by omega)
theorem nmul_le {x y X Y : Int} (hx : (x.natAbs : Int) ≤ X) (hy : (y.natAbs : Int) ≤ Y) : ((x * y).natAbs : Int) ≤ X * Y := by
  rw [Int.natAbs_mul, Int.natCast_mul]
  exact Int.mul_le_mul hx hy (by omega) (by omega)
theorem mags_mul {a b c d : Nat} (h : Mid a b) (g : Mid c d) : leB (magB (mulP a b c d).1 (mulP a b c d).2) (mulP (magB a b) (magB a b) (magB c d) (magB c d)).2 = true := by
  obtain ⟨a1, b1, -, -⟩ := h.fin
  obtain ⟨c1, d1, -, -⟩ := g.fin
  obtain ⟨-, -, -, m4, -⟩ := mag_key h.ends.1 h.ends.2.1
  obtain ⟨-, -, -, n4, -⟩ := mag_key g.ends.1 g.ends.2.1
  have va : ((V a).natAbs : Int) ≤ V (magB a b) := by rw [m4]; exact Int.le_max_left _ _
  have vb : ((V b).natAbs : Int) ≤ V (magB a b) := by rw [m4]; exact Int.le_max_right _ _
  have vc : ((V c).natAbs : Int) ≤ V (magB c d) := by rw [n4]; exact Int.le_max_left _ _
  have vd : ((V d).natAbs : Int) ≤ V (magB c d) := by rw [n4]; exact Int.le_max_right _ _
  obtain ⟨p1, p2, p3⟩ := mul_val a1 c1
  obtain ⟨q1, q2, q3⟩ := mul_val a1 d1
  obtain ⟨r1, r2, r3⟩ := mul_val b1 c1
  obtain ⟨t1, t2, t3⟩ := mul_val b1 d1
  obtain ⟨s1, s2, s3⟩ := mul_val (mag_fin a1 b1) (mag_fin c1 d1)
  have kp : ((key (cop .mul a c)).natAbs : Int) ≤ key (cop .mul (magB a b) (magB c d)) := by rw [p2, s2, RK_abs]; exact RK_mono _ (nmul_le va vc)
  have kq : ((key (cop .mul a d)).natAbs : Int) ≤ key (cop .mul (magB a b) (magB c d)) := by rw [q2, s2, RK_abs]; exact RK_mono _ (nmul_le va vd)
  have kr : ((key (cop .mul b c)).natAbs : Int) ≤ key (cop .mul (magB a b) (magB c d)) := by rw [r2, s2, RK_abs]; exact RK_mono _ (nmul_le vb vc)
  have kt : ((key (cop .mul b d)).natAbs : Int) ≤ key (cop .mul (magB a b) (magB c d)) := by rw [t2, s2, RK_abs]; exact RK_mono _ (nmul_le vb vd)
  obtain ⟨l1, l2, l3⟩ := minL4 p1 q1 r1 t1
  obtain ⟨x1, x2, x3⟩ := maxL4 p1 q1 r1 t1
  have hS : (mulP (magB a b) (magB a b) (magB c d) (magB c d)).2 = upB (cop .mul (magB a b) (magB c d)) := by
    unfold mulP aroundP
    generalize cop .mul (magB a b) (magB c d) = s at *
    have e1 : minL s [s, s, s, s] = s := by simp [minL]
    have e2 : maxL s [s, s, s, s] = s := by simp [maxL]
    rw [s1, e1, e2]
    exact out_same s3 s1
  rw [hS]
  unfold mulP aroundP
  rw [p1, q1, r1, t1]
  refine (out_mag (mem4_lt l3 p3 q3 r3 t3) (mem4_lt x3 p3 q3 r3 t3) s3 l1 x1 s1 ?_ ?_ ?_).1 <;> (try rw [l2]) <;> (try rw [x2])
  all_goals
    clear l1 l2 l3 x1 x2 x3 hS p2 q2 r2 t2 s2 va vb vc vd m4 n4
    generalize key (cop .mul a c) = P at *
    generalize key (cop .mul a d) = Q at *
    generalize key (cop .mul b c) = R at *
    generalize key (cop .mul b d) = S at *
    generalize key (cop .mul (magB a b) (magB c d)) = T at *
    omega
end Go.Proofs.Ytainodgbcpkipaa

namespace Go.Proofs.Ytainodgbcpkipaa
open Go.RowKit Ex

def rareS : List SV → Option SV
  | [.c a] => match toI64 a with
    | some e => some (.c (.ef (.af 31 0 (.ci e .n0))))
    | none => none
  | _ => none
def numS : List SV → Option SV
  | [.c a, .c b] => match toI64 a, toI64 b with
    | some a, some b => some (.c (.ef (.af 34 0 (.ci a (.ci b .n0)))))
    | _, _ => none
  | _ => none
theorem rare_holds {V : Val} (hV : MkV V) : Holds Try.prog V 31 rareS := by
  intro args v h ρ vs w hargs
  unfold rareS at h
  split at h
  · rename_i a
    split at h
    · rename_i e he
      simp only [Option.some.injEq] at h
      subst h
      obtain ⟨u1, rfl, hx⟩ := args_one hargs
      have e1 := toI64_ok he hx
      subst e1
      refine (rare_any (evI V e) w).mono fun e' w' ⟨hr, hb⟩ => ⟨_, hr, ⟨_, rfl, ?_⟩, hb⟩
      have : evF V (.af 31 0 (.ci e .n0)) = rareB (evI V e % 10) := by
        show V.ff 31 0 _ = _
        rw [hV.y _ _ _ (by decide) (by decide)]; rfl
      rw [this]; exact ⟨rfl, rareB_lt _⟩
    · cases h
  · cases h
end Go.Proofs.Ytainodgbcpkipaa

namespace Go.Proofs.Ytainodgbcpkipaa
open Go.RowKit Ex

def dnE (p : E) : E := .af 12 0 (.cf p .n0)
def upE (p : E) : E := .af 11 0 (.cf p .n0)
def out0 (p q : E) : E := .tf (.fc .leq (dnE p) (upE q)) (dnE p) (.lf 18442240474082181120)
def out1 (p q : E) : E := .tf (.fc .leq (dnE p) (upE q)) (upE q) (.lf 9218868437227405312)
def pkL (x lo : E) : E := .tf (.fc .lss x lo) x lo
def pkH (x hi : E) : E := .tf (.fc .lss hi x) x hi
def mn4 (a b c d : E) : E := pkL d (pkL c (pkL b a))
def mx4 (a b c d : E) : E := pkH d (pkH c (pkH b a))
def numE (c e w : E) : E := .tf (.fc .eql c c) e w
def ar0 (a b c d : E) : E := numE a (numE b (numE c (numE d (out0 (mn4 a b c d) (mx4 a b c d)) (.lf 18442240474082181120)) (.lf 18442240474082181120)) (.lf 18442240474082181120)) (.lf 18442240474082181120)
def ar1 (a b c d : E) : E := numE a (numE b (numE c (numE d (out1 (mn4 a b c d) (mx4 a b c d)) (.lf 9218868437227405312)) (.lf 9218868437227405312)) (.lf 9218868437227405312)) (.lf 9218868437227405312)
def isSV (v : SV) : Option SV → Bool
  | some u => decide (u = v)
  | none => false
theorem isSV_ok {v : SV} {o : Option SV} (h : isSV v o = true) : o = some v := by
  unfold isSV at h
  split at h
  · rw [of_decide_eq_true h]
  · cases h
def ctr0 : List (Nat × Ctr1) := [(26, pureC absS), (50, pureC infF), (66, pureC nextS)]
theorem ctr0_ok {V : Val} (hV : StdV V) : CtrOK Try.prog V (ctrOf ctr0) := ctr_cons (absS_holds hV fun x w hx => abs_any x w hx) (ctr_cons (inf_holds inf_pos inf_neg) (ctr_cons (nextS_holds hV next_up next_down) ctr_nil))
def ivA : List SV := [.ag [.ef (.vf 0), .ef (.vf 1)], .ag [.ef (.vf 2), .ef (.vf 3)]]
noncomputable def refRun (f : Nat) : Option SV := runM 60 (fun g => xcall Try.prog (ctrOf ctr0) g 1000000 100 f ivA .nil 0) .nil
set_option maxRecDepth 1000000 in
set_option maxHeartbeats 100000000 in
theorem rSub_run : isSV (.ag [.ef (out0 (.fb .sub (.vf 0) (.vf 3)) (.fb .sub (.vf 1) (.vf 2))), .ef (out1 (.fb .sub (.vf 0) (.vf 3)) (.fb .sub (.vf 1) (.vf 2)))]) (refRun 44) = true := by kernel_rfl
def cor (f : E → E → E → E → E) (op : BinOp) : E := f (.fb op (.vf 0) (.vf 2)) (.fb op (.vf 0) (.vf 3)) (.fb op (.vf 1) (.vf 2)) (.fb op (.vf 1) (.vf 3))
def divE (e w : E) : E := .tf (.fc .leq (.vf 2) (.lf 0)) (.tf (.fc .leq (.lf 0) (.vf 3)) w e) e
set_option maxRecDepth 1000000 in
set_option maxHeartbeats 100000000 in
theorem rMul_run : isSV (.ag [.ef (cor ar0 .mul), .ef (cor ar1 .mul)]) (refRun 45) = true := by kernel_rfl

/-! ### What that is -/
section
variable {V : Val} (hV : StdV V)
include hV
theorem ev_dn (p : E) : evF V (dnE p) = downB (evF V p) := by
  show V.ff 12 0 _ = _
  rw [hV.f _ _ _ (by decide)]; exact downB_canon _
theorem ev_up (p : E) : evF V (upE p) = upB (evF V p) := by
  show V.ff 11 0 _ = _
  rw [hV.f _ _ _ (by decide)]; exact upB_canon _
theorem ev_out (p q : E) : evF V (out0 p q) = (outP (evF V p) (evF V q)).1 ∧ evF V (out1 p q) = (outP (evF V p) (evF V q)).2 := by
  have h0 : evF V (out0 p q) = bif leB (evF V (dnE p)) (evF V (upE q)) then evF V (dnE p) else 18442240474082181120 := rfl
  have h1 : evF V (out1 p q) = bif leB (evF V (dnE p)) (evF V (upE q)) then evF V (upE q) else 9218868437227405312 := rfl
  rw [h0, h1, ev_dn hV, ev_up hV]
  unfold outP
  cases leB (downB (evF V p)) (upB (evF V q)) <;> exact ⟨rfl, rfl⟩
omit hV in
theorem ev_mn (a b c d : E) : evF V (mn4 a b c d) = minL (evF V a) [evF V a, evF V b, evF V c, evF V d] := by
  have e : ∀ x lo : E, evF V (pkL x lo) = if ltB (evF V x) (evF V lo) then evF V x else evF V lo := fun x lo => by
    show (bif ltB (evF V x) (evF V lo) then evF V x else evF V lo) = _
    cases ltB (evF V x) (evF V lo) <;> rfl
  unfold mn4
  rw [e, e, e]
  simp only [minL, ite_self]
omit hV in
theorem ev_mx (a b c d : E) : evF V (mx4 a b c d) = maxL (evF V a) [evF V a, evF V b, evF V c, evF V d] := by
  have e : ∀ x hi : E, evF V (pkH x hi) = if ltB (evF V hi) (evF V x) then evF V x else evF V hi := fun x hi => by
    show (bif ltB (evF V hi) (evF V x) then evF V x else evF V hi) = _
    cases ltB (evF V hi) (evF V x) <;> rfl
  unfold mx4
  rw [e, e, e]
  simp only [maxL, ite_self]
omit hV in
theorem ev_num (c e w : E) : evF V (numE c e w) = bif isN (evF V c) then evF V w else evF V e := by
  show (bif eqB (evF V c) (evF V c) then evF V e else evF V w) = _
  rw [eqB_self]
  cases isN (evF V c) <;> rfl
theorem ev_ar (a b c d : E) : evF V (ar0 a b c d) = (aroundP (evF V a) (evF V b) (evF V c) (evF V d)).1 ∧ evF V (ar1 a b c d) = (aroundP (evF V a) (evF V b) (evF V c) (evF V d)).2 := by
  unfold ar0 ar1
  simp only [ev_num, (ev_out hV _ _).1, (ev_out hV _ _).2, ev_mn, ev_mx]
  unfold aroundP
  cases isN (evF V a) <;> cases isN (evF V b) <;> cases isN (evF V c) <;> cases isN (evF V d) <;> exact ⟨rfl, rfl⟩
end
/-- A call of it, of whatever ends. -/
theorem ref_call {f : Nat} {spec : Nat → Nat → Nat → Nat → Nat × Nat} {e0 e1 : E} (hrun : isSV (.ag [.ef e0, .ef e1]) (refRun f) = true)
    (hs : ∀ V : Val, StdV V → evF V e0 = (spec (V.f 0) (V.f 1) (V.f 2) (V.f 3)).1 ∧ evF V e1 = (spec (V.f 0) (V.f 1) (V.f 2) (V.f 3)).2) (hn : ∀ a b c d, isN (spec a b c d).1 = false ∧ isN (spec a b c d).2 = false)
    (a b c d : Nat) (ha : a < 18446744073709551616) (hb : b < 18446744073709551616) (hc : c < 18446744073709551616) (hd : d < 18446744073709551616) (w : World) :
    Calls Try.prog f #[iv a b, iv c d] w (Gives (iv (spec a b c d).1 (spec a b c d).2) w) := by
  let V : Val := stdV (fun _ => 0) (fun i => match i with | 0 => a | 1 => b | 2 => c | _ => d) (fun _ => #[])
  have hV : StdV V := stdV_ok _ _ _
  obtain ⟨g, u, hp, nx, hg, hr, hu⟩ := runM_ok (V := V) gam_nil (isSV_ok hrun)
  have hargs : All2 (VR V fun _ => none) ivA (#[iv a b, iv c d] : Array Value).toList := ⟨⟨_, rfl, ⟨a, rfl, rfl, ha⟩, ⟨b, rfl, rfl, hb⟩, trivial⟩, ⟨_, rfl, ⟨c, rfl, rfl, hc⟩, ⟨d, rfl, rfl, hd⟩, trivial⟩, trivial⟩
  refine (run_any mixed namesAll hg (ctr0_ok hV) hr hargs w).mono fun e w' ⟨rv, ρ, he, hv, hbl⟩ => ?_
  obtain ⟨x, y, rfl, hx, hy⟩ := ivE_of (a := .ef e0) (b := .ef e1) rfl rfl (hu ρ rv hv)
  obtain ⟨h0, h1⟩ := hs V hV
  rw [h0] at hx
  rw [h1] at hy
  have n := hn a b c d
  have q0 := hx.known n.1
  have q1 := hy.known n.2
  exact ⟨by rw [he, q0, q1]; rfl, hbl⟩
theorem ref_holds {V : Val} {f j : Nat} {spec : Nat → Nat → Nat → Nat → Nat × Nat} (hx0 : ∀ a b c d, V.ff j 0 [.f a, .f b, .f c, .f d] = (spec a b c d).1) (hx1 : ∀ a b c d, V.ff j 1 [.f a, .f b, .f c, .f d] = (spec a b c d).2)
    (hs : ∀ a b c d a' b' c' d', FR a a' → FR b b' → FR c c' → FR d d' → spec a b c d = spec a' b' c' d') (hl : ∀ a b c d, (spec a b c d).1 < 18446744073709551616 ∧ (spec a b c d).2 < 18446744073709551616)
    (hw : ∀ (a b c d : Nat), a < 18446744073709551616 → b < 18446744073709551616 → c < 18446744073709551616 → d < 18446744073709551616 → ∀ w : World, Calls Try.prog f #[iv a b, iv c d] w (Gives (iv (spec a b c d).1 (spec a b c d).2) w)) : Holds Try.prog V f (ivN j spec) := by
  intro args v h ρ vs w hargs
  unfold ivN at h
  split at h
  · rename_i a b c d
    split at h
    · rename_i ea eb ec ed e1 e2 e3 e4
      simp only [Option.some.injEq] at h
      subst h
      obtain ⟨u1, u2, rfl, h1, h2⟩ := args_two hargs
      obtain ⟨a', b', rfl, ha, hb⟩ := ivE_of e1 e2 h1
      obtain ⟨c', d', rfl, hc, hd⟩ := ivE_of e3 e4 h2
      have he := hs _ _ _ _ a' b' c' d' ha hb hc hd
      have hlt := hl a' b' c' d'
      refine (hw a' b' c' d' ha.2 hb.2 hc.2 hd.2 w).mono fun e w' ⟨hr, hbl⟩ => ⟨_, hr, ?_, hbl⟩
      rw [← he] at hlt ⊢
      unfold ivN2
      split
      · exact ⟨_, rfl, ⟨_, rfl, rfl, hlt.1⟩, ⟨_, rfl, rfl, hlt.2⟩, trivial⟩
      · refine ⟨_, rfl, ⟨_, rfl, ?_, hlt.1⟩, ⟨_, rfl, ?_, hlt.2⟩, trivial⟩
        · simp only [evF, evS, f4, hx0]
        · simp only [evF, evS, f4, hx1]
    · cases h
  · cases h
theorem rSub_call (a b c d : Nat) (ha : a < 18446744073709551616) (hb : b < 18446744073709551616) (hc : c < 18446744073709551616) (hd : d < 18446744073709551616) (w : World) : Calls Try.prog 44 #[iv a b, iv c d] w (Gives (iv (subP a b c d).1 (subP a b c d).2) w) := @ref_call _ subP _ _ rSub_run (fun _ hV => ev_out hV _ _) (fun _ _ _ _ => outP_num _ _) a b c d ha hb hc hd w
theorem rMul_call (a b c d : Nat) (ha : a < 18446744073709551616) (hb : b < 18446744073709551616) (hc : c < 18446744073709551616) (hd : d < 18446744073709551616) (w : World) : Calls Try.prog 45 #[iv a b, iv c d] w (Gives (iv (mulP a b c d).1 (mulP a b c d).2) w) := @ref_call _ mulP _ _ rMul_run (fun _ hV => ev_ar hV _ _ _ _) (fun _ _ _ _ => aroundP_num _ _ _ _) a b c d ha hb hc hd w
theorem rSub_holds {V : Val} (hV : IvV V) : Holds Try.prog V 44 (ivN 21 subP) := ref_holds (fun _ _ _ _ => by rw [hV.x _ _ _ (by decide) (by decide)]; rfl) (fun _ _ _ _ => by rw [hV.x _ _ _ (by decide) (by decide)]; rfl) subP_FR subP_lt rSub_call
theorem rMul_holds {V : Val} (hV : IvV V) : Holds Try.prog V 45 (ivN 22 mulP) := ref_holds (fun _ _ _ _ => by rw [hV.x _ _ _ (by decide) (by decide)]; rfl) (fun _ _ _ _ => by rw [hV.x _ _ _ (by decide) (by decide)]; rfl) mulP_FR mulP_lt rMul_call
end Go.Proofs.Ytainodgbcpkipaa
