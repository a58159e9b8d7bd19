/-
  Numbers but for rounding: polynomials of names, and how far off at most.
-/
import Derived.Test.YtkncchofgehnpaaGl
namespace Go.Proofs.Ytkncchofgehnpaa.Ex
open Go
open Ieee (double)
variable {P : Program} {V : Val}

/-- A polynomial, how far off at most, in units of two to this. -/
abbrev Apx := Pol × Nat × Int
def Ap (V : Val) (r : Apx) (x : Nat) : Prop := ∃ m q : Int, r.1.OK V q ∧ Is x m r.2.2 ∧ q - (r.2.1 : Int) ≤ m ∧ m ≤ q + (r.2.1 : Int)
def topP (p : Pol) : Nat := max p.lo.natAbs p.hi.natAbs
theorem topP_ok {p : Pol} {q : Int} (h : p.OK V q) : q.natAbs ≤ topP p := by
  have a := h.lo
  have b := h.hi
  unfold topP
  omega
/-- What is so, rounded. -/
def rndA (p : Pol) (e : Nat) (k : Int) : Option Apx :=
  bif decide (-1074 ≤ k) && decide (k + ((topP p + e).log2 + 1 : Nat) ≤ 1023) then some (p, e + 2 ^ ((topP p + e).log2 + 1 - 53) / 2, k) else none
theorem rndA_ok {p : Pol} {e : Nat} {k : Int} {r : Apx} (h : rndA p e k = some r) {x : Nat} {n q : Int} (hq : p.OK V q) (h1 : q - (e : Int) ≤ n) (h2 : n ≤ q + (e : Int)) (hx : Fits n k → Is x (rn n) k) : Ap V r x := by
  unfold rndA at h
  cases hc : (decide (-1074 ≤ k) && decide (k + ((topP p + e).log2 + 1 : Nat) ≤ 1023)) <;> rw [hc] at h
  · cases h
  · simp only [cond_true, Option.some.injEq] at h
    subst h
    simp only [Bool.and_eq_true, decide_eq_true_eq] at hc
    have ht := topP_ok hq
    have hb : n.natAbs < 2 ^ ((topP p + e).log2 + 1) := Nat.lt_of_le_of_lt (by omega) (lt_pow_log (topP p + e))
    have hf : Fits n k := fits_of _ 1023 hb hc.2 (Nat.le_refl _)
    obtain ⟨r1, r2⟩ := rn_err _ hb
    refine ⟨rn n, q, hq, hx hf, ?_, ?_⟩
    · show q - ((e + 2 ^ ((topP p + e).log2 + 1 - 53) / 2 : Nat) : Int) ≤ rn n
      generalize 2 ^ ((topP p + e).log2 + 1 - 53) = N at *
      omega
    · show rn n ≤ q + ((e + 2 ^ ((topP p + e).log2 + 1 - 53) / 2 : Nat) : Int)
      generalize 2 ^ ((topP p + e).log2 + 1 - 53) = N at *
      omega
/-- In finer units. -/
def downA (r : Apx) (k : Int) : Option Apx :=
  bif decide (-1074 ≤ k) && decide (k ≤ r.2.2) then some (r.1.sc ((2 ^ (r.2.2 - k).toNat : Nat) : Int), r.2.1 * 2 ^ (r.2.2 - k).toNat, k) else none
theorem downA_ok {r s : Apx} {k : Int} (h : downA r k = some s) {x : Nat} (hx : Ap V r x) : Ap V s x ∧ s.2.2 = k := by
  unfold downA at h
  cases hc : (decide (-1074 ≤ k) && decide (k ≤ r.2.2)) <;> rw [hc] at h
  · cases h
  · simp only [cond_true, Option.some.injEq] at h
    subst h
    simp only [Bool.and_eq_true, decide_eq_true_eq] at hc
    obtain ⟨m, q, hq, hi, h1, h2⟩ := hx
    have hd := hi.down (r.2.2 - k).toNat (by omega)
    have ek : r.2.2 - ((r.2.2 - k).toNat : Int) = k := by omega
    rw [ek] at hd
    refine ⟨⟨_, _, hq.sc _, hd, ?_, ?_⟩, rfl⟩
    · show ((2 ^ (r.2.2 - k).toNat : Nat) : Int) * q - ((r.2.1 * 2 ^ (r.2.2 - k).toNat : Nat) : Int) ≤ m * ((2 ^ (r.2.2 - k).toNat : Nat) : Int)
      generalize 2 ^ (r.2.2 - k).toNat = N
      have := Int.mul_le_mul_of_nonneg_right h1 (Int.natCast_nonneg N)
      rw [Int.sub_mul] at this
      rw [Int.natCast_mul, Int.mul_comm (N : Int) q]
      exact this
    · show m * ((2 ^ (r.2.2 - k).toNat : Nat) : Int) ≤ ((2 ^ (r.2.2 - k).toNat : Nat) : Int) * q + ((r.2.1 * 2 ^ (r.2.2 - k).toNat : Nat) : Int)
      generalize 2 ^ (r.2.2 - k).toNat = N
      have := Int.mul_le_mul_of_nonneg_right h2 (Int.natCast_nonneg N)
      rw [Int.add_mul] at this
      rw [Int.natCast_mul, Int.mul_comm (N : Int) q]
      exact this
def both2 (a b : Apx) : Option (Apx × Apx) := match downA a (min a.2.2 b.2.2), downA b (min a.2.2 b.2.2) with
  | some x, some y => some (x, y)
  | _, _ => none
theorem both2_ok {a b c d : Apx} (h : both2 a b = some (c, d)) {x y : Nat} (hx : Ap V a x) (hy : Ap V b y) : Ap V c x ∧ Ap V d y ∧ c.2.2 = d.2.2 := by
  unfold both2 at h
  split at h
  · rename_i u v hu hv
    simp only [Option.some.injEq, Prod.mk.injEq] at h
    obtain ⟨rfl, rfl⟩ := h
    obtain ⟨a1, a2⟩ := downA_ok hu hx
    obtain ⟨b1, b2⟩ := downA_ok hv hy
    exact ⟨a1, b1, by rw [a2, b2]⟩
  · cases h
def addA (a b : Apx) : Option Apx := (both2 a b).bind fun q => rndA (q.1.1.add q.2.1) (q.1.2.1 + q.2.2.1) q.1.2.2
def subA (a b : Apx) : Option Apx := (both2 a b).bind fun q => rndA (q.1.1.sub q.2.1) (q.1.2.1 + q.2.2.1) q.1.2.2
def mulA (a b : Apx) : Option Apx := rndA (a.1.mul b.1) (a.2.1 * (topP b.1 + b.2.1) + topP a.1 * b.2.1) (a.2.2 + b.2.2)
theorem cop_is {op : BinOp} {x y r : Nat} (h : floatBits op .f64 x y = some r) {m k : Int} (hi : Is r m k) : Is (cop op x y) m k := by
  rw [cop_some h, canon_num hi.num]; exact hi
theorem addA_ok {a b r : Apx} (h : addA a b = some r) {x y : Nat} (hx : Ap V a x) (hy : Ap V b y) : Ap V r (cop .add x y) := by
  unfold addA at h
  cases hb : both2 a b with
  | none => rw [hb] at h; cases h
  | some q =>
    rw [hb] at h
    simp only [Option.bind_some] at h
    obtain ⟨c, d⟩ := q
    obtain ⟨⟨m, p, hp, hi, h1, h2⟩, ⟨n, q, hq, hj, g1, g2⟩, e⟩ := both2_ok hb hx hy
    refine rndA_ok h (hp.add hq) (n := m + n) ?_ ?_ fun hf => ?_
    · dsimp only; rw [Int.natCast_add]; omega
    · dsimp only; rw [Int.natCast_add]; omega
    · rw [← e] at hj
      obtain ⟨r, h3, h4⟩ := is_add hi hj hf
      exact cop_is (op := .add) h3 h4
theorem subA_ok {a b r : Apx} (h : subA a b = some r) {x y : Nat} (hx : Ap V a x) (hy : Ap V b y) : Ap V r (cop .sub x y) := by
  unfold subA at h
  cases hb : both2 a b with
  | none => rw [hb] at h; cases h
  | some q =>
    rw [hb] at h
    simp only [Option.bind_some] at h
    obtain ⟨c, d⟩ := q
    obtain ⟨⟨m, p, hp, hi, h1, h2⟩, ⟨n, q, hq, hj, g1, g2⟩, e⟩ := both2_ok hb hx hy
    refine rndA_ok h (hp.sub hq) (n := m - n) ?_ ?_ fun hf => ?_
    · dsimp only; rw [Int.natCast_add]; omega
    · dsimp only; rw [Int.natCast_add]; omega
    · rw [← e] at hj
      obtain ⟨r, h3, h4⟩ := is_sub hi hj hf
      exact cop_is (op := .sub) h3 h4
theorem abs_mul_le {x y : Int} {X Y : Nat} (hx : x.natAbs ≤ X) (hy : y.natAbs ≤ Y) : -((X * Y : Nat) : Int) ≤ x * y ∧ x * y ≤ ((X * Y : Nat) : Int) := by
  have h : (x * y).natAbs ≤ X * Y := by rw [Int.natAbs_mul]; exact Nat.mul_le_mul hx hy
  omega
theorem mulA_ok {a b r : Apx} (h : mulA a b = some r) {x y : Nat} (hx : Ap V a x) (hy : Ap V b y) : Ap V r (cop .mul x y) := by
  unfold mulA at h
  obtain ⟨m, p, hp, hi, h1, h2⟩ := hx
  obtain ⟨n, q, hq, hj, g1, g2⟩ := hy
  have tp := topP_ok hp
  have tq := topP_ok hq
  have hk : -1074 ≤ a.2.2 + b.2.2 := by
    unfold rndA at h
    cases hc : (decide (-1074 ≤ a.2.2 + b.2.2) && decide (a.2.2 + b.2.2 + ((topP (a.1.mul b.1) + (a.2.1 * (topP b.1 + b.2.1) + topP a.1 * b.2.1)).log2 + 1 : Nat) ≤ 1023)) <;> rw [hc] at h
    · cases h
    · simp only [Bool.and_eq_true, decide_eq_true_eq] at hc
      exact hc.1
  have e1 := abs_mul_le (x := m - p) (y := n) (X := a.2.1) (Y := topP b.1 + b.2.1) (by omega) (by omega)
  have e2 := abs_mul_le (x := p) (y := n - q) (X := topP a.1) (Y := b.2.1) tp (by omega)
  have e3 : m * n - p * q = (m - p) * n + p * (n - q) := by rw [Int.sub_mul, Int.mul_sub]; omega
  refine rndA_ok h (hp.mul hq) (n := m * n) ?_ ?_ fun hf => ?_
  · rw [Int.natCast_add]; omega
  · rw [Int.natCast_add]; omega
  · obtain ⟨r, h3, h4⟩ := is_mul hi hj hk hf
    exact cop_is (op := .mul) h3 h4

/-- Exactly. -/
def exA (e : E) : Option Apx := match gd e (linF (fun _ => false) e) with
  | some (p, k) => match cst k.ts with
    | some c => some (p, 0, c)
    | none => none
  | none => none
theorem exA_ok (hV : StdV V) {e : E} {r : Apx} (h : exA e = some r) : Ap V r (evF V e) := by
  unfold exA at h
  split at h
  · rename_i p k hq
    split at h
    · rename_i c hc
      simp only [Option.some.injEq] at h
      subst h
      obtain ⟨m, d, hp, hk, hi⟩ := linF_ok hV (fin := fun _ => false) (fun _ h => by cases h) hq
      have : d = c := by rw [hk.eq, cst_ok hc]
      subst this
      exact ⟨m, m, hp, hi, by show m - ((0 : Nat) : Int) ≤ m; omega, by show m ≤ m + ((0 : Nat) : Int); omega⟩
    · cases h
  · cases h
def iteA (c : E) (a b : Apx) : Option Apx := (both2 a b).map fun q => (Pol.ite c q.1.1 q.2.1, max q.1.2.1 q.2.2.1, q.1.2.2)
theorem iteA_ok {c : E} {a b r : Apx} (h : iteA c a b = some r) {x y : Nat} (hx : Ap V a x) (hy : Ap V b y) : Ap V r (bif evB V c then x else y) := by
  unfold iteA at h
  obtain ⟨q, hb, rfl⟩ := map_some' h
  obtain ⟨u, v⟩ := q
  obtain ⟨⟨m, p, hp, hi, h1, h2⟩, ⟨n, q, hq, hj, g1, g2⟩, e⟩ := both2_ok hb hx hy
  refine ⟨bif evB V c then m else n, bif evB V c then p else q, hp.ite c hq, ?_, ?_, ?_⟩
  · cases evB V c
    · show Is y n u.2.2; rw [e]; exact hj
    · exact hi
  · show (bif evB V c then p else q) - ((max u.2.1 v.2.1 : Nat) : Int) ≤ bif evB V c then m else n
    cases evB V c
    · show q - _ ≤ n; omega
    · show p - _ ≤ m; omega
  · show (bif evB V c then m else n) ≤ (bif evB V c then p else q) + ((max u.2.1 v.2.1 : Nat) : Int)
    cases evB V c
    · show n ≤ q + _; omega
    · show m ≤ p + _; omega
def opt2A (f : Apx → Apx → Option Apx) : Option Apx → Option Apx → Option Apx
  | some a, some b => f a b
  | _, _ => none
def errF : E → Option Apx
  | .fb op a b => match exA (.fb op a b) with
    | some r => some r
    | none => match op with
      | .add => opt2A addA (errF a) (errF b)
      | .sub => opt2A subA (errF a) (errF b)
      | .mul => opt2A mulA (errF a) (errF b)
      | _ => none
  | .tf c a b => match exA (.tf c a b) with
    | some r => some r
    | none => opt2A (iteA c) (errF a) (errF b)
  | e => exA e
theorem opt2A_ok {f : Apx → Apx → Option Apx} {a b : Option Apx} {r : Apx} (h : opt2A f a b = some r) : ∃ x y, a = some x ∧ b = some y ∧ f x y = some r := by
  unfold opt2A at h
  split at h
  · exact ⟨_, _, rfl, rfl, h⟩
  · cases h
theorem errF_ok (hV : StdV V) : ∀ {e : E} {r : Apx}, errF e = some r → Ap V r (evF V e) := by
  intro e
  induction e with
  | fb op a b iha ihb =>
    intro r h
    unfold errF at h
    split at h
    · rename_i s hs
      simp only [Option.some.injEq] at h
      subst h
      exact exA_ok hV hs
    · split at h
      · obtain ⟨x, y, h1, h2, h3⟩ := opt2A_ok h
        exact addA_ok h3 (iha h1) (ihb h2)
      · obtain ⟨x, y, h1, h2, h3⟩ := opt2A_ok h
        exact subA_ok h3 (iha h1) (ihb h2)
      · obtain ⟨x, y, h1, h2, h3⟩ := opt2A_ok h
        exact mulA_ok h3 (iha h1) (ihb h2)
      · cases h
  | tf c a b _ iha ihb =>
    intro r h
    unfold errF at h
    split at h
    · rename_i s hs
      simp only [Option.some.injEq] at h
      subst h
      exact exA_ok hV hs
    · obtain ⟨x, y, h1, h2, h3⟩ := opt2A_ok h
      exact iteA_ok h3 (iha h1) (ihb h2)
  | _ => intro r h; exact exA_ok hV h

/-! ### How little at least -/
/-- Up to where it goes; from 0 on. -/
def atmB : E → Option Int
  | .ai 9 j (.ci _ (.ci (.li n) .n0)) => bif Nat.beq j 0 && decide (1 ≤ n) then some (n - 1) else none
  | .ti _ (.li a) (.li b) => bif decide (a = 1) && decide (b = 0) then some 1 else none
  | _ => none
theorem atmB_ok (hV : StdV V) {e : E} {b : Int} (h : atmB e = some b) : 0 ≤ evI V e ∧ evI V e ≤ b := by
  unfold atmB at h
  split at h
  · rename_i j a n
    cases hc : (Nat.beq j 0 && decide (1 ≤ n)) <;> rw [hc] at h
    · cases h
    · simp only [cond_true, Option.some.injEq] at h
      subst h
      simp only [Bool.and_eq_true, decide_eq_true_eq] at hc
      show 0 ≤ V.fi 9 j _ ∧ V.fi 9 j _ ≤ n - 1
      rw [hV.i _ _ _ (by decide)]
      show 0 ≤ evI V a % n ∧ evI V a % n ≤ n - 1
      have h1 := Int.emod_nonneg (evI V a) (show n ≠ 0 by omega)
      have h2 := Int.emod_lt_of_pos (evI V a) (show 0 < n by omega)
      omega
  · rename_i c a b'
    cases hc : (decide (a = 1) && decide (b' = 0)) <;> rw [hc] at h
    · cases h
    · simp only [cond_true, Option.some.injEq] at h
      subst h
      simp only [Bool.and_eq_true, decide_eq_true_eq] at hc
      obtain ⟨rfl, rfl⟩ := hc
      simp only [evI]
      cases evB V c
      · exact ⟨by show (0 : Int) ≤ 0; omega, by show (0 : Int) ≤ 1; omega⟩
      · exact ⟨by show (0 : Int) ≤ 1; omega, by show (1 : Int) ≤ 1; omega⟩
  · cases h
def prodB : List E → Option Int
  | [] => some 1
  | a :: l => match atmB a, prodB l with
    | some x, some y => some (x * y)
    | _, _ => none
theorem prodB_ok (hV : StdV V) : ∀ {l : List E} {b : Int}, prodB l = some b → 0 ≤ prodM V l ∧ prodM V l ≤ b
  | [], b, h => by simp only [prodB, Option.some.injEq] at h; subst h; unfold prodM; decide
  | a :: l, b, h => by
    unfold prodB at h
    split at h
    · rename_i x y hx hy
      simp only [Option.some.injEq] at h
      subst h
      obtain ⟨a1, a2⟩ := atmB_ok hV hx
      obtain ⟨b1, b2⟩ := prodB_ok hV hy
      unfold prodM
      exact ⟨Int.mul_nonneg a1 b1, Int.mul_le_mul a2 b2 b1 (by omega)⟩
    · cases h
/-- No less than this. -/
def lowB : List (List E × Int) → Option Int
  | [] => some 0
  | (a, c) :: l => match prodB a, lowB l with
    | some x, some r => some ((bif a.isEmpty then c else bif decide (0 ≤ c) then 0 else c * x) + r)
    | _, _ => none
theorem lowB_ok (hV : StdV V) : ∀ {ts : List (List E × Int)} {b : Int}, lowB ts = some b → b ≤ evT V ts
  | [], b, h => by simp only [lowB, Option.some.injEq] at h; subst h; exact Int.le_refl _
  | (a, c) :: l, b, h => by
    unfold lowB at h
    split at h
    · rename_i x r hx hr
      simp only [Option.some.injEq] at h
      subst h
      obtain ⟨p1, p2⟩ := prodB_ok hV hx
      have ih := lowB_ok hV hr
      show _ ≤ c * prodM V a + evT V l
      cases a with
      | nil => show c + r ≤ c * prodM V [] + evT V l; unfold prodM; omega
      | cons y a =>
        show (bif decide (0 ≤ c) then 0 else c * x) + r ≤ _
        by_cases hc : 0 ≤ c
        · rw [decide_eq_true hc]
          have := Int.mul_nonneg hc p1
          simp only [cond_true]; omega
        · rw [decide_eq_false hc]
          have := Int.mul_le_mul_of_nonpos_left (show c ≤ 0 by omega) p2
          simp only [cond_false]; omega
    · cases h
def lowP (p : Pol) : Int := match lowB p.ts with
  | some b => max b p.lo
  | none => p.lo
theorem lowP_ok (hV : StdV V) {p : Pol} {q : Int} (h : p.OK V q) : lowP p ≤ q := by
  unfold lowP
  have a := h.lo
  split
  · rename_i b hb
    have := lowB_ok hV hb
    have := h.eq
    omega
  · exact a
/-- Surely no more. -/
def leA (a b : Apx) : Bool := match both2 a b with
  | some (c, d) => decide ((c.2.1 : Int) + (d.2.1 : Int) ≤ lowP (d.1.sub c.1))
  | none => false
theorem leA_ok (hV : StdV V) {a b : Apx} (h : leA a b = true) {x y : Nat} (hx : Ap V a x) (hy : Ap V b y) : key x ≤ key y ∧ isN x = false ∧ isN y = false := by
  unfold leA at h
  split at h
  · rename_i c d hb
    simp only [decide_eq_true_eq] at h
    obtain ⟨⟨m, p, hp, hi, h1, h2⟩, ⟨n, q, hq, hj, g1, g2⟩, e⟩ := both2_ok hb hx hy
    have hl := lowP_ok hV (hq.sub hp)
    rw [← e] at hj
    have : leB x y = true := by rw [is_le hi hj]; simp only [decide_eq_true_eq]; omega
    unfold leB at this
    simp only [Bool.and_eq_true, Bool.not_eq_true', decide_eq_true_eq] at this
    exact ⟨this.2, this.1.1, this.1.2⟩
  · cases h
def leX (a b : E) : Bool := match errF a, errF b with
  | some x, some y => leA x y
  | _, _ => false
theorem leX_ok (hV : StdV V) {a b : E} (h : leX a b = true) : key (evF V a) ≤ key (evF V b) ∧ isN (evF V a) = false ∧ isN (evF V b) = false := by
  unfold leX at h
  split at h
  · rename_i x y hx hy
    exact leA_ok hV h (errF_ok hV hx) (errF_ok hV hy)
  · cases h
def negA (r : Apx) : Apx := (r.1.sc (-1), r.2.1, r.2.2)
theorem negA_ok {r : Apx} {x : Nat} (h : Ap V r x) : Ap V (negA r) (flip x) := by
  obtain ⟨m, q, hq, hi, h1, h2⟩ := h
  refine ⟨-m, -1 * q, by show (r.1.sc (-1)).OK V (-1 * q); exact hq.sc (-1), is_flip hi, ?_, ?_⟩
  · show -1 * q - (r.2.1 : Int) ≤ -m; omega
  · show -m ≤ -1 * q + (r.2.1 : Int); omega
/-- Either sign of it is no more. -/
def absX (x c : E) : Bool := match errF x, errF c with
  | some a, some b => leA a b && leA (negA a) b
  | _, _ => false
def errD (D : List (E × Bool) → E → Option Bool) (l : List (E × Bool)) (e : E) : Option Bool := match D l e with
  | some b => some b
  | none => match e with
    | .fc .lss c (.af 10 j (.cf x .n0)) => bif Nat.beq j 0 && absX x c then some false else none
    | .fc .leq a b => bif leX a b then some true else none
    | .fc .lss a b => bif leX b a then some false else none
    | _ => none
theorem absX_ok (hV : StdV V) {x c : E} (h : absX x c = true) : ltB (evF V c) (stdF 10 0 [.f (evF V x)]) = false := by
  unfold absX at h
  split at h
  · rename_i a b hx hc
    rw [Bool.and_eq_true] at h
    have ha := errF_ok hV hx
    have hb := errF_ok hV hc
    obtain ⟨a1, a2, a3⟩ := leA_ok hV h.1 ha hb
    obtain ⟨b1, -, -⟩ := leA_ok hV h.2 (negA_ok ha) hb
    obtain ⟨m, q, -, hi, -, -⟩ := ha
    have v1 := V_le.2 a1
    have v2 := V_le.2 b1
    have e1 := hi.2.2.2
    have e2 := (is_flip hi).2.2.2
    have e3 := (is_abs hi).2.2.2
    show ltB (evF V c) (canon (evF V x) % p63) = false
    rw [canon_num a2]
    have n1 : isN (evF V x % p63) = false := (is_abs hi).num
    have k : key (evF V x % p63) ≤ key (evF V c) := by
      refine V_le.1 ?_
      show Go.Proofs.Ytkncchofgehnpaa.V (evF V x % 9223372036854775808) ≤ _
      rw [e3]
      rw [e1] at v1
      rw [e2, Int.neg_mul] at v2
      generalize ((2 ^ (a.2.2 + 1074).toNat : Nat) : Int) = u at *
      rcases Int.le_total 0 m with g | g
      · rw [show (m.natAbs : Int) = m by omega]; exact v1
      · rw [show (m.natAbs : Int) = -m by omega, Int.neg_mul]; exact v2
    unfold ltB
    rw [n1, a3]
    simp only [Bool.not_false, Bool.true_and, decide_eq_false_iff_not]
    omega
  · cases h
theorem errD_ok (hV : StdV V) {D : List (E × Bool) → E → Option Bool} (hD : DOK V D) : DOK V (errD D) := by
  intro l hl e b h
  unfold errD at h
  split at h
  · rename_i b' hb
    simp only [Option.some.injEq] at h
    subst h
    exact hD l hl _ _ hb
  · split at h
    · rename_i c j x _
      cases hc : (Nat.beq j 0 && absX x c) <;> rw [hc] at h
      · cases h
      · simp only [cond_true, Option.some.injEq] at h
        subst h
        rw [Bool.and_eq_true] at hc
        have := Nat.eq_of_beq_eq_true hc.1
        subst this
        show ltB (evF V c) (V.ff 10 0 [.f (evF V x)]) = false
        rw [hV.f _ _ _ (by decide)]
        exact absX_ok hV hc.2
    · rename_i a b' _
      cases hc : leX a b' <;> rw [hc] at h
      · cases h
      · simp only [cond_true, Option.some.injEq] at h
        subst h
        obtain ⟨a1, a2, a3⟩ := leX_ok hV hc
        show leB (evF V a) (evF V b') = true
        unfold leB; rw [a2, a3]; simpa using a1
    · rename_i a b' _ _
      cases hc : leX b' a <;> rw [hc] at h
      · cases h
      · simp only [cond_true, Option.some.injEq] at h
        subst h
        obtain ⟨a1, a2, a3⟩ := leX_ok hV hc
        show ltB (evF V a) (evF V b') = false
        unfold ltB; rw [a2, a3]
        simp only [Bool.not_false, Bool.true_and, decide_eq_false_iff_not]
        omega
    · cases h
end Go.Proofs.Ytkncchofgehnpaa.Ex
