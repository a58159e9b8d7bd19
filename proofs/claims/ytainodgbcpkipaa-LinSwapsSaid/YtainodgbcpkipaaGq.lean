/-
  The known ones, and from-tos that are made: what each call gives.
  From-tos turned about: the plain facts.
-/
import Derived.Test.YtainodgbcpkipaaGo
import Derived.Deep.RegionHeld3
import Derived.Test.YtainodgbcpkipaaGm
import Derived.Test.YtainodgbcpkipaaGn
namespace Go.Proofs.Ytainodgbcpkipaa
open Go.RowKit
attribute [local go_sem] alloc_drewN setCell_drewN call_bits call_frombits ord_lt ord_eq ord_gt ord_ne ord_le ord_ge eqB_self run_fadd run_fsub run_fmul run_fquo run_store_f64

def endsOf : Value → Nat × Nat
  | .agg #[.float .f64 a, .float .f64 b] => (a, b)
  | _ => (0, 0)
theorem endsOf_iv (a b : Nat) : endsOf (iv a b) = (a, b) := rfl
theorem mulI_two (a b c d : Nat) : mulI a b c d = iv (endsOf (mulI a b c d)).1 (endsOf (mulI a b c d)).2 := by
  unfold mulI; obtain ⟨x, y, h⟩ := aroundI_two (cop .mul a c) (cop .mul a d) (cop .mul b c) (cop .mul b d); rw [h, endsOf_iv]
theorem divI_two (a b c d : Nat) : divI a b c d = iv (endsOf (divI a b c d)).1 (endsOf (divI a b c d)).2 := by
  unfold divI; split
  · rfl
  · obtain ⟨x, y, h⟩ := aroundI_two (cop .quo a c) (cop .quo a d) (cop .quo b c) (cop .quo b d); rw [h, endsOf_iv]
theorem outI_two' (a b : Nat) : outI a b = iv (endsOf (outI a b)).1 (endsOf (outI a b)).2 := by
  obtain ⟨x, y, h⟩ := outI_two a b; rw [h, endsOf_iv]

def sq (p : Nat × Nat) : Nat × Nat := endsOf (mulI p.1 p.2 p.1 p.2)
def sqN : Nat → Nat × Nat → Nat × Nat
  | 0, p => p
  | k + 1, p => sq (sqN k p)
def part (x : Nat) : Nat × Nat := endsOf (divI x x 4652218415073722368 4652218415073722368)
def less1 (x : Nat) : Nat × Nat := endsOf (outI (cop .sub 4607182418800017408 (part x).2) (cop .sub 4607182418800017408 (part x).1))
def inv1 (x : Nat) : Nat × Nat := endsOf (divI 4607182418800017408 4607182418800017408 (less1 x).1 (less1 x).2)
def expB (x : Nat) : Nat := if isN x || leB 4647714815446351872 x then 9218868437227405312 else (sqN 10 (inv1 x)).2

/-- Two from-tos in memory, below which all is as it was. -/
def Held (w0 : World) (B C a b c d : Nat) (w : World) : Prop :=
  w.cell? ⟨B, 0, none⟩ = some (.float .f64 a) ∧ w.cell? ⟨B, 1, none⟩ = some (.float .f64 b) ∧ w.cell? ⟨C, 0, none⟩ = some (.float .f64 c) ∧ w.cell? ⟨C, 1, none⟩ = some (.float .f64 d) ∧ B < w.heap.size ∧ C < w.heap.size ∧ Below w0.heap.size w0 w
theorem Held.below {w0 : World} {B C a b c d : Nat} {w w' : World} (h : Held w0 B C a b c d w) (hb : Below w.heap.size w w') : Held w0 B C a b c d w' := by
  obtain ⟨h1, h2, h3, h4, h5, h6, h7⟩ := h
  obtain ⟨hc, _⟩ := bcell hb
  have hs := hb.size
  exact ⟨by rw [hc _ _ h5]; exact h1, by rw [hc _ _ h5]; exact h2, by rw [hc _ _ h6]; exact h3, by rw [hc _ _ h6]; exact h4, by omega, by omega, h7.trans (hb.mono h7.size)⟩
theorem Held.alloc {w0 : World} {B C a b c d : Nat} {w : World} (h : Held w0 B C a b c d w) (o : Obj) : Held w0 B C a b c d (w.alloc o) :=
  h.below ((Below.refl _ _).alloc (Nat.le_refl _) _)
theorem Held.drew {w0 : World} {B C a b c d : Nat} {w : World} (h : Held w0 B C a b c d w) : Held w0 B C a b c d w.drew :=
  h.below ((Below.refl _ _).drew)

theorem Held.set {w0 : World} {B C a b c d D o : Nat} {w : World} (h : Held w0 B C a b c d w) (v : Value) (h1 : D ≠ B) (h2 : D ≠ C) (h3 : w0.heap.size ≤ D) : Held w0 B C a b c d (w.setCell ⟨D, o, none⟩ v) := by
  obtain ⟨g1, g2, g3, g4, g5, g6, g7⟩ := h
  have hs : (w.setCell ⟨D, o, none⟩ v).heap.size = w.heap.size := by simp [World.setCell]
  have n1 : ∀ i, (⟨D, o, none⟩ : Addr) ≠ ⟨B, i, none⟩ := fun i h => h1 (by injection h)
  have n2 : ∀ i, (⟨D, o, none⟩ : Addr) ≠ ⟨C, i, none⟩ := fun i h => h2 (by injection h)
  have k1 : ∀ i, (w.setCell ⟨D, o, none⟩ v).cell? ⟨B, i, none⟩ = w.cell? ⟨B, i, none⟩ := fun i => by first | (exact World.cell?_setCell_other _ _ _ _ (n1 i)) | (exact World.cell?_setCell_other _ _ _ _ (n1 i).symm) | (simp [World.cell?_setCell_other, n1 i, h1, Ne.symm h1])
  have k2 : ∀ i, (w.setCell ⟨D, o, none⟩ v).cell? ⟨C, i, none⟩ = w.cell? ⟨C, i, none⟩ := fun i => by first | (exact World.cell?_setCell_other _ _ _ _ (n2 i)) | (exact World.cell?_setCell_other _ _ _ _ (n2 i).symm) | (simp [World.cell?_setCell_other, n2 i, h2, Ne.symm h2])
  exact ⟨by rw [k1]; exact g1, by rw [k1]; exact g2, by rw [k2]; exact g3, by rw [k2]; exact g4, by omega, by omega, g7.setCell h3 v⟩

end Go.Proofs.Ytainodgbcpkipaa

namespace Go.Proofs.Ytainodgbcpkipaa
open Go.RowKit
attribute [local go_sem] alloc_drewN setCell_drewN call_bits call_frombits ord_lt ord_eq ord_gt ord_ne ord_le ord_ge eqB_self run_fadd run_fsub run_fmul run_fquo run_store_f64

/-- A from-to in memory, made behind w0, and what was ahead as it was. -/
def At (w0 : World) (B a b : Nat) (w : World) : Prop :=
  w.cell? ⟨B, 0, none⟩ = some (.float .f64 a) ∧ w.cell? ⟨B, 1, none⟩ = some (.float .f64 b) ∧ B < w.heap.size ∧ w0.heap.size ≤ B ∧ Below w0.heap.size w0 w
theorem At.below {w0 : World} {B a b : Nat} {w w' : World} (h : At w0 B a b w) (hb : Below w.heap.size w w') : At w0 B a b w' := by
  obtain ⟨h1, h2, h3, h4, h5⟩ := h
  obtain ⟨hc, _⟩ := bcell hb
  have hs := hb.size
  exact ⟨by rw [hc _ _ h3]; exact h1, by rw [hc _ _ h3]; exact h2, by omega, h4, h5.trans (hb.mono h5.size)⟩
theorem At.new {w0 w : World} (h : Below w0.heap.size w0 w) (a b : Nat) (t : TypeId) : At w0 w.heap.size a b (w.alloc (.cells #[.float .f64 a, .float .f64 b] t)) :=
  ⟨by rw [World.cell?_alloc_new]; rfl, by rw [World.cell?_alloc_new]; rfl, by simp, h.size, h.alloc h.size _⟩
theorem At.alloc {w0 : World} {B a b : Nat} {w : World} (h : At w0 B a b w) (o : Obj) : At w0 B a b (w.alloc o) :=
  h.below ((Below.refl _ _).alloc (Nat.le_refl _) _)
theorem At.drew {w0 : World} {B a b : Nat} {w : World} (h : At w0 B a b w) : At w0 B a b w.drew := h.below ((Below.refl _ _).drew)

/-- What a from-to of numbers is: both ends are numbers, in order, of a moderate size, in steps of one power of two. -/
def Mid (a b : Nat) : Prop := ∃ m n : Int, Is a m (-80) ∧ Is b n (-80) ∧ m ≤ n ∧ m.natAbs < 2 ^ 134 ∧ n.natAbs < 2 ^ 134

theorem Is.le_of {a b : Nat} {m n k : Int} (ha : Is a m k) (hb : Is b n k) : m ≤ n ↔ key a ≤ key b := by
  rw [← V_le, ha.2.2.2, hb.2.2.2]
  have hp : (0 : Int) < (2 ^ (k + 1074).toNat : Nat) := Int.natCast_pos.2 (Nat.two_pow_pos _)
  exact ⟨fun h => Int.mul_le_mul_of_nonneg_right h (Int.le_of_lt hp), fun h => Int.le_of_mul_le_mul_right h hp⟩
theorem Is.add_ge {a b r : Nat} {m n p k : Int} (ha : Is a m k) (hb : Is b n k) (hn : 0 ≤ n) (h : Ieee.double.add a b = some r) (hr : Is r p k) : m ≤ p := by
  rw [ha.le_of hr, (add_key ha.fin hb.fin h).1, ← RK_V (Nat.le_of_lt ha.fin)]
  refine RK_mono _ ?_
  have hp : (0 : Int) ≤ (2 ^ (k + 1074).toNat : Nat) := Int.natCast_nonneg _
  have := Int.mul_nonneg hn hp
  rw [hb.2.2.2]; omega
theorem Is.sub_le {a b r : Nat} {m n p k : Int} (ha : Is a m k) (hb : Is b n k) (hn : 0 ≤ n) (h : Ieee.double.sub a b = some r) (hr : Is r p k) : p ≤ m := by
  rw [hr.le_of ha, (sub_key ha.fin hb.fin h).1, ← RK_V (Nat.le_of_lt ha.fin)]
  refine RK_mono _ ?_
  have hp : (0 : Int) ≤ (2 ^ (k + 1074).toNat : Nat) := Int.natCast_nonneg _
  have := Int.mul_nonneg hn hp
  rw [hb.2.2.2]; omega
theorem rn_size {m : Int} (h : m.natAbs < 2 ^ 139) : (rn m).natAbs ≤ m.natAbs + 2 ^ 86 := by
  have := rn_err 139 h
  have e : ((2 ^ (139 - 53) : Nat) : Int) = 77371252455336267181195264 := by decide
  rw [e] at this
  have e2 : (2 : Nat) ^ 86 = 77371252455336267181195264 := by decide
  omega
theorem add_up {a b : Nat} {m n : Int} (ha : Is a m (-80)) (hb : Is b n (-80)) (hn : 0 ≤ n) (h1 : m.natAbs < 2 ^ 138) (h2 : n.natAbs < 2 ^ 138) :
    ∃ r, (∀ w, fval .add w a b = r) ∧ ndraw .add a b = 0 ∧ ∃ p, Is r p (-80) ∧ m ≤ p ∧ p.natAbs ≤ m.natAbs + n.natAbs + 2 ^ 86 := by
  obtain ⟨r, e, h⟩ := is_add ha hb (fits_of 139 960 (by omega) (by decide) (by decide))
  refine ⟨r, fval_some (op := .add) e, ndraw_some (op := .add) e, _, h, ha.add_ge hb hn e h, ?_⟩
  have := rn_size (m := m + n) (by omega)
  omega
theorem sub_down {a b : Nat} {m n : Int} (ha : Is a m (-80)) (hb : Is b n (-80)) (hn : 0 ≤ n) (h1 : m.natAbs < 2 ^ 138) (h2 : n.natAbs < 2 ^ 138) :
    ∃ r, (∀ w, fval .sub w a b = r) ∧ ndraw .sub a b = 0 ∧ ∃ p, Is r p (-80) ∧ p ≤ m ∧ p.natAbs ≤ m.natAbs + n.natAbs + 2 ^ 86 := by
  obtain ⟨r, e, h⟩ := is_sub ha hb (fits_of 139 960 (by omega) (by decide) (by decide))
  refine ⟨r, fval_some (op := .sub) e, ndraw_some (op := .sub) e, _, h, ha.sub_le hb hn e h, ?_⟩
  have := rn_size (m := m - n) (by omega)
  omega
theorem int_at {n : Int} (h1 : -9007199254740992 ≤ n) (h2 : n ≤ 9007199254740992) : Is (floatOfInt .f64 n) (n * 1208925819614629174706176) (-80) := (is_ofInt h1 h2).down 80 (by decide)
theorem zero_at : Is 0 0 (-80) := int_at (n := 0) (by decide) (by decide)
theorem one_at : Is 4607182418800017408 1208925819614629174706176 (-80) := by
  have h := int_at (n := 1) (by decide) (by decide)
  have e : floatOfInt .f64 1 = 4607182418800017408 := by decide +kernel
  rw [e] at h; exact h
/-- Some from-to of numbers, and nothing that was ahead is changed. -/
def Made (w : World) (e : Ending) (w' : World) : Prop := ∃ a b, Mid a b ∧ e = .returned (iv a b) ∧ Below w.heap.size w w'

end Go.Proofs.Ytainodgbcpkipaa

namespace Go.Proofs.Ytainodgbcpkipaa
open Ieee (double)

theorem Mid.fin {a b : Nat} (h : Mid a b) : a % p63 < infR ∧ b % p63 < infR ∧ a < 18446744073709551616 ∧ b < 18446744073709551616 := by
  obtain ⟨m, n, h1, h2, -⟩ := h
  exact ⟨h1.fin, h2.fin, h1.lt, h2.lt⟩
theorem add_sym {x y : Nat} (hx : x % p63 < infR) (hy : y % p63 < infR) : cop .add x y = cop .add y x := by
  rw [cop_some (op := .add) (add_fin hx hy), cop_some (op := .add) (add_fin hy hx), Int.add_comm, Bool.and_comm]
theorem mul_sym {x y : Nat} (hx : x % p63 < infR) (hy : y % p63 < infR) : cop .mul x y = cop .mul y x := by
  rw [cop_some (op := .mul) (mul_fin hx hy), cop_some (op := .mul) (mul_fin hy hx), Nat.mul_comm, Bool.xor_comm]
theorem sub_val {x y : Nat} (hx : x % p63 < infR) (hy : y % p63 < infR) : isN (cop .sub x y) = false ∧ key (cop .sub x y) = RK (V x - V y) (-1074) ∧ cop .sub x y < 18446744073709551616 := by
  have e := sub_fin hx hy
  have k := sub_key hx hy e
  have c : cop .sub x y = _ := cop_some (op := .sub) e
  rw [canon_num k.2.1] at c
  rw [c]; exact ⟨k.2.1, k.1, k.2.2⟩
theorem add_val {x y : Nat} (hx : x % p63 < infR) (hy : y % p63 < infR) : isN (cop .add x y) = false ∧ key (cop .add x y) = RK (V x + V y) (-1074) ∧ cop .add x y < 18446744073709551616 := by
  have e := add_fin hx hy
  have k := add_key hx hy e
  have c : cop .add x y = _ := cop_some (op := .add) e
  rw [canon_num k.2.1] at c
  rw [c]; exact ⟨k.2.1, k.1, k.2.2⟩
theorem mul_val {x y : Nat} (hx : x % p63 < infR) (hy : y % p63 < infR) : isN (cop .mul x y) = false ∧ key (cop .mul x y) = RK (V x * V y) (-2148) ∧ cop .mul x y < 18446744073709551616 := by
  have e := mul_fin hx hy
  have k := mul_key hx hy e
  have c : cop .mul x y = _ := cop_some (op := .mul) e
  rw [canon_num k.2.1] at c
  rw [c]; exact ⟨k.2.1, k.1, k.2.2⟩

theorem Mid.ends {a b : Nat} (h : Mid a b) : isN a = false ∧ isN b = false ∧ key a ≤ key b ∧ leB a b = true := by
  obtain ⟨m, n, h1, h2, h3, -, -⟩ := h
  refine ⟨h1.num, h2.num, (h1.le_of h2).1 h3, ?_⟩
  rw [is_le h1 h2]; simpa using h3
theorem leB_of {x y : Nat} (h1 : isN x = false) (h2 : isN y = false) : leB x y = decide (key x ≤ key y) := by unfold leB; rw [h1, h2]; rfl
theorem ltB_of {x y : Nat} (h1 : isN x = false) (h2 : isN y = false) : ltB x y = decide (key x < key y) := by unfold ltB; rw [h1, h2]; rfl
theorem eqB_of {x y : Nat} (h1 : isN x = false) (h2 : isN y = false) : eqB x y = decide (key x = key y) := by unfold eqB; rw [h1, h2]; rfl

/-- What is told has ends that are numbers. -/
theorem outI_num (p q : Nat) : ∃ x y, outI p q = iv x y ∧ isN x = false ∧ isN y = false := by
  unfold outI makeI
  cases h : leB (downB p) (upB q)
  · exact ⟨_, _, rfl, by decide, by decide⟩
  · simp [leB] at h
    exact ⟨_, _, rfl, h.1.1, h.1.2⟩
theorem aroundI_num (a b c d : Nat) : ∃ x y, aroundI a b c d = iv x y ∧ isN x = false ∧ isN y = false := by
  unfold aroundI
  split
  · exact ⟨_, _, rfl, by decide, by decide⟩
  · exact outI_num _ _

theorem addI_sym {a b c d : Nat} (h : Mid a b) (g : Mid c d) : outI (cop .add a c) (cop .add b d) = outI (cop .add c a) (cop .add d b) := by
  rw [add_sym h.fin.1 g.fin.1, add_sym h.fin.2.1 g.fin.2.1]

theorem downB_same {x y : Nat} (hx : x < 18446744073709551616) (hy : y < 18446744073709551616) (h1 : isN x = false) (h2 : isN y = false) (h : key x = key y) : downB x = downB y := by
  rcases of_key hx hy h with rfl | ⟨g1, g2⟩
  · rfl
  · have n1 : x ≠ p63 + infR := by rintro rfl; revert g1; decide
    have n2 : y ≠ p63 + infR := by rintro rfl; revert g2; decide
    unfold downB; rw [h1, h2, if_neg n1, if_neg n2, if_pos g1, if_pos g2]
theorem upB_same {x y : Nat} (hx : x < 18446744073709551616) (hy : y < 18446744073709551616) (h1 : isN x = false) (h2 : isN y = false) (h : key x = key y) : upB x = upB y := by
  rcases of_key hx hy h with rfl | ⟨g1, g2⟩
  · rfl
  · have n1 : x ≠ infR := by rintro rfl; revert g1; decide
    have n2 : y ≠ infR := by rintro rfl; revert g2; decide
    unfold upB; rw [h1, h2, if_neg n1, if_neg n2, if_pos g1, if_pos g2]

theorem pick_lo {x y : Nat} (h1 : isN x = false) (h2 : isN y = false) : isN (if ltB x y then x else y) = false ∧ key (if ltB x y then x else y) = min (key x) (key y) ∧ ((if ltB x y then x else y) = x ∨ (if ltB x y then x else y) = y) := by
  cases h : ltB x y <;> simp [ltB, h1, h2] at h <;> simp [h1, h2] <;> omega
theorem minL4 {a b c d : Nat} (h1 : isN a = false) (h2 : isN b = false) (h3 : isN c = false) (h4 : isN d = false) :
    isN (minL a [a, b, c, d]) = false ∧ key (minL a [a, b, c, d]) = min (min (key a) (key b)) (min (key c) (key d)) ∧ minL a [a, b, c, d] ∈ [a, b, c, d] := by
  simp only [minL]
  obtain ⟨p1, p2, p3⟩ := pick_lo h1 h1
  generalize (if ltB a a then a else a) = A at *
  obtain ⟨q1, q2, q3⟩ := pick_lo h2 p1
  generalize (if ltB b A then b else A) = B at *
  obtain ⟨r1, r2, r3⟩ := pick_lo h3 q1
  generalize (if ltB c B then c else B) = C at *
  obtain ⟨s1, s2, s3⟩ := pick_lo h4 r1
  generalize (if ltB d C then d else C) = D at *
  refine ⟨s1, by omega, ?_⟩
  rcases s3 with rfl | rfl <;> rcases r3 with rfl | rfl <;> rcases q3 with rfl | rfl <;> rcases p3 with rfl | rfl <;> simp
theorem pick_hi {x y : Nat} (h1 : isN x = false) (h2 : isN y = false) : isN (if ltB y x then x else y) = false ∧ key (if ltB y x then x else y) = max (key x) (key y) ∧ ((if ltB y x then x else y) = x ∨ (if ltB y x then x else y) = y) := by
  cases h : ltB y x <;> simp [ltB, h1, h2] at h <;> simp [h1, h2] <;> omega
theorem maxL4 {a b c d : Nat} (h1 : isN a = false) (h2 : isN b = false) (h3 : isN c = false) (h4 : isN d = false) :
    isN (maxL a [a, b, c, d]) = false ∧ key (maxL a [a, b, c, d]) = max (max (key a) (key b)) (max (key c) (key d)) ∧ maxL a [a, b, c, d] ∈ [a, b, c, d] := by
  simp only [maxL]
  obtain ⟨p1, p2, p3⟩ := pick_hi h1 h1
  generalize (if ltB a a then a else a) = A at *
  obtain ⟨q1, q2, q3⟩ := pick_hi h2 p1
  generalize (if ltB A b then b else A) = B at *
  obtain ⟨r1, r2, r3⟩ := pick_hi h3 q1
  generalize (if ltB B c then c else B) = C at *
  obtain ⟨s1, s2, s3⟩ := pick_hi h4 r1
  generalize (if ltB C d then d else C) = D at *
  refine ⟨s1, by omega, ?_⟩
  rcases s3 with rfl | rfl <;> rcases r3 with rfl | rfl <;> rcases q3 with rfl | rfl <;> rcases p3 with rfl | rfl <;> simp
theorem mem4_lt {x a b c d : Nat} (h : x ∈ [a, b, c, d]) (h1 : a < 18446744073709551616) (h2 : b < 18446744073709551616) (h3 : c < 18446744073709551616) (h4 : d < 18446744073709551616) : x < 18446744073709551616 := by
  simp at h; rcases h with rfl | rfl | rfl | rfl <;> assumption
/-- The two in the middle may change places. -/
theorem around_swap {a b c d : Nat} (h1 : isN a = false) (h2 : isN b = false) (h3 : isN c = false) (h4 : isN d = false) (l1 : a < 18446744073709551616) (l2 : b < 18446744073709551616) (l3 : c < 18446744073709551616) (l4 : d < 18446744073709551616) :
    aroundI a b c d = aroundI a c b d := by
  obtain ⟨m1, m2, m3⟩ := minL4 h1 h2 h3 h4
  obtain ⟨n1, n2, n3⟩ := minL4 h1 h3 h2 h4
  obtain ⟨x1, x2, x3⟩ := maxL4 h1 h2 h3 h4
  obtain ⟨y1, y2, y3⟩ := maxL4 h1 h3 h2 h4
  unfold aroundI outI
  simp only [h1, h2, h3, h4, Bool.or_self, Bool.false_eq_true, if_false]
  rw [downB_same (mem4_lt m3 l1 l2 l3 l4) (mem4_lt n3 l1 l3 l2 l4) m1 n1 (by omega), upB_same (mem4_lt x3 l1 l2 l3 l4) (mem4_lt y3 l1 l3 l2 l4) x1 y1 (by omega)]
theorem mulI_sym {a b c d : Nat} (h : Mid a b) (g : Mid c d) : mulI a b c d = mulI c d a b := by
  obtain ⟨a1, b1, -, -⟩ := h.fin
  obtain ⟨c1, d1, -, -⟩ := g.fin
  unfold mulI
  rw [mul_sym c1 a1, mul_sym c1 b1, mul_sym d1 a1, mul_sym d1 b1]
  have p1 := mul_val a1 c1
  have p2 := mul_val a1 d1
  have p3 := mul_val b1 c1
  have p4 := mul_val b1 d1
  exact around_swap p1.1 p2.1 p3.1 p4.1 p1.2.2 p2.2.2 p3.2.2 p4.2.2

theorem zero_sub_val {r : Nat} (hN : isN r = false) : isN (cop .sub 0 r) = false ∧ key (cop .sub 0 r) = - key r := by
  have hr := isN_false hN
  by_cases hf : r % p63 < infR
  · have k := sub_val (x := 0) (y := r) (by decide) hf
    refine ⟨k.1, ?_⟩
    rw [k.2.1, show V 0 = 0 by decide, Int.zero_sub, RK_neg, RK_V (Nat.le_of_lt hf)]
  · have hi : r % p63 = infR := by omega
    have e : Ieee.double.sub 0 r = some (double.word (!neg r) infR) := by
      unfold Ieee.Format.sub; rw [read_inf hi]; rfl
    have c : cop .sub 0 r = _ := cop_some (op := .sub) e
    rw [c, key_eq r, hi]
    generalize neg r = s
    cases s <;> decide
/-- Taken away the other way about it is turned. -/
theorem subI_turn {a b c d : Nat} (h : Mid a b) (g : Mid c d) : ∃ s1 s2 t1 t2, outI (cop .sub a d) (cop .sub b c) = iv s1 s2 ∧ outI (cop .sub c b) (cop .sub d a) = iv t1 t2 ∧
    isN s1 = false ∧ isN s2 = false ∧ isN t1 = false ∧ isN t2 = false ∧ eqB s1 (cop .sub 0 t2) = true ∧ eqB s2 (cop .sub 0 t1) = true := by
  obtain ⟨a1, b1, -, -⟩ := h.fin
  obtain ⟨c1, d1, -, -⟩ := g.fin
  have e1 := V_le.2 h.ends.2.2.1
  have e2 := V_le.2 g.ends.2.2.1
  obtain ⟨p1, p2, p3⟩ := sub_val a1 d1
  obtain ⟨q1, q2, q3⟩ := sub_val b1 c1
  obtain ⟨r1, r2, r3⟩ := sub_val c1 b1
  obtain ⟨u1, u2, u3⟩ := sub_val d1 a1
  have k1 := RK_mono (-1074) (show V a - V d ≤ V b - V c by omega)
  have k2 := RK_neg (V a - V d) (-1074)
  have k3 := RK_neg (V b - V c) (-1074)
  rw [show -(V a - V d) = V d - V a by omega] at k2
  rw [show -(V b - V c) = V c - V b by omega] at k3
  have b1 := RK_bound (V a - V d) (-1074)
  have b2 := RK_bound (V b - V c) (-1074)
  obtain ⟨D1, D2, D3⟩ := down_key p3 p1
  obtain ⟨U1, U2, U3⟩ := up_key q3 q1
  obtain ⟨E1, E2, E3⟩ := down_key r3 r1
  obtain ⟨F1, F2, F3⟩ := up_key u3 u1
  have hi : infR = 9218868437227405312 := rfl
  rw [p2] at D1; rw [q2] at U1; rw [r2, k3] at E1; rw [u2, k2] at F1
  generalize RK (V a - V d) (-1074) = K at *
  generalize RK (V b - V c) (-1074) = L at *
  have l1 : leB (downB (cop .sub a d)) (upB (cop .sub b c)) = true := by
    rw [leB_of D2 U2]; simp only [decide_eq_true_eq]; split at D1 <;> split at U1 <;> omega
  have l2 : leB (downB (cop .sub c b)) (upB (cop .sub d a)) = true := by
    rw [leB_of E2 F2]; simp only [decide_eq_true_eq]; split at E1 <;> split at F1 <;> omega
  unfold outI makeI
  rw [if_pos l1, if_pos l2]
  obtain ⟨z1, z2⟩ := zero_sub_val F2
  obtain ⟨z3, z4⟩ := zero_sub_val E2
  refine ⟨_, _, _, _, rfl, rfl, D2, U2, E2, F2, ?_, ?_⟩
  · rw [eqB_of D2 z1, z2]; simp only [decide_eq_true_eq]; split at D1 <;> split at F1 <;> omega
  · rw [eqB_of U2 z3, z4]; simp only [decide_eq_true_eq]; split at U1 <;> split at E1 <;> omega

end Go.Proofs.Ytainodgbcpkipaa
