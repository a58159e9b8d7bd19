/-
  The runner: floats that are whole numbers times a power of two, exactly.
-/
import Derived.Test.YtkncchofgehnpaaExy
import Derived.Test.YtkncchofgehnpaaMq
namespace Go.Proofs.Ytkncchofgehnpaa.Ex
open Go
open Ieee (double)
variable {V : Val}

def stripE : Nat → Int → Int → Int × Int
  | 0, m, k => (m, k)
  | n + 1, m, k => bif decide (m % 2 = 0) then stripE n (m / 2) (k + 1) else (m, k)
def litTry (x : Nat) (m k : Int) : Option (Pol × Int) :=
  bif decide (x < 18446744073709551616) && decide (x % p63 < infR) && decide (-1074 ≤ k) && decide (valOf x = m * (2 ^ (k + 1074).toNat : Nat)) && decide (-9007199254740992 ≤ m) && decide (m ≤ 9007199254740992) then some (Pol.lit m, k) else none
def litM (x : Nat) : Int × Int :=
  bif Nat.beq (x % p63) 0 then (0, 0) else stripE 60 (sgd (neg x) (bif Nat.beq (x % p63 / p52) 0 then x % p63 else x % p52 + p52)) (bif Nat.beq (x % p63 / p52) 0 then -1074 else ((x % p63 / p52 : Nat) : Int) - 1075)
def litF (x : Nat) : Option (Pol × Int) := litTry x (litM x).1 (litM x).2
/-- Both with one exponent. -/
def alignL (p : Pol) (k : Int) (q : Pol) (l : Int) : Option (Pol × Pol × Int) :=
  bif decide (k ≤ l) then (bif decide (l - k ≤ 2200) then some (p, q.sc (2 ^ (l - k).toNat), k) else none)
  else (bif decide (k - l ≤ 2200) then some (p.sc (2 ^ (k - l).toNat), q, l) else none)
def fit53 (k : Int) (p : Pol) : Option (Pol × Int) := bif p.chk 9007199254740992 && decide (-1074 ≤ k) && decide (k ≤ 900) then some (p, k) else none
/-- Each is n times another one. -/
def divT (n : Int) : List (List E × Int) → Option (List (List E × Int))
  | [] => some []
  | (a, j) :: l => bif decide (j % n = 0) then (match divT n l with | some m => some ((a, j / n) :: m) | none => none) else none
/-- What comes out, divided by n (not 0), where it does. -/
def Pol.quo (p : Pol) (n : Int) : Option Pol := match divT n p.ts with
  | some ts => bif decide (1 ≤ n) then some ⟨ts, -((-p.lo) / n), p.hi / n⟩ else none
  | none => none
def quoF (p : Pol) (k : Int) (q : Pol) (l : Int) : Option (Pol × Int) :=
  match q.ts with
  | [([], n)] => bif decide (n = 1) then fit53 (k - l) p else match p.quo n with
    | some r => fit53 (k - l) r
    | none => none
  | _ => none
def pairF (f : Pol → Pol → Int → Option (Pol × Int)) (a b : Pol × Int) : Option (Pol × Int) :=
  match alignL a.1 a.2 b.1 b.2 with
  | some (p, q, m) => f p q m
  | none => none
/-- Not of a row of what is handed in. -/
def gd {α : Type} (a : E) (r : Option α) : Option α := match a with
  | .cf _ _ => none
  | _ => r
def linF : E → Option (Pol × Int)
  | .i2f a => (linI a).bind (fit53 0)
  | .lf x => litF x
  | .fb .add a b => opt2 (pairF fun p q m => fit53 m (p.add q)) (gd a (linF a)) (gd b (linF b))
  | .fb .sub a b => opt2 (pairF fun p q m => fit53 m (p.sub q)) (gd a (linF a)) (gd b (linF b))
  | .fb .mul a b => opt2 (fun x y => fit53 (x.2 + y.2) (x.1.mul y.1)) (gd a (linF a)) (gd b (linF b))
  | .fb .quo a b => opt2 (fun x y => quoF x.1 x.2 y.1 y.2) (gd a (linF a)) (gd b (linF b))
  | .tf c a b => opt2 (pairF fun p q m => some (Pol.ite c p q, m)) (gd a (linF a)) (gd b (linF b))
  | .af 7 j args => match linF args, args with
    | some (p, k), .cf _ (.ci (.li n) .n0) => bif Nat.beq j 0 then fit53 (k + n) p else none
    | _, _ => none
  | .cf a _ => gd a (linF a)
  | _ => none
/-- Of a number: what is known of it beside 0. -/
def cmpL (op : BinOp) (d : Pol) : Option Bool :=
  match d.ts with
  | [] => some (icV op 0 0)
  | [([], n)] => some (icV op n 0)
  | _ => match op with
    | .eql => bif decide (0 < d.lo) || decide (d.hi < 0) then some false else none
    | .neq => bif decide (0 < d.lo) || decide (d.hi < 0) then some true else none
    | .lss => bif decide (d.hi < 0) then some true else bif decide (0 ≤ d.lo) then some false else none
    | .leq => bif decide (d.hi ≤ 0) then some true else bif decide (0 < d.lo) then some false else none
    | .gtr => bif decide (0 < d.lo) then some true else bif decide (d.hi ≤ 0) then some false else none
    | .geq => bif decide (0 ≤ d.lo) then some true else bif decide (d.hi < 0) then some false else none
    | _ => none
def cmpF (op : BinOp) (a b : E) : Option Bool :=
  opt2 (fun x y => match alignL x.1 x.2 y.1 y.2 with
    | some (p, q, _) => cmpL op (p.sub q)
    | none => none) (gd a (linF a)) (gd b (linF b))
def exactDec : E → Option Bool
  | .fc op a b => cmpF op a b
  | .ab 8 j args => match args with
    | .cf a (.cf b .n0) => bif Nat.beq j 0 then cmpF .eql a b else none
    | _ => none
  | .ic op a b => opt2 (fun p q => cmpL op (p.sub q)) (linI a) (linI b)
  | _ => none

theorem fits53 {m k : Int} (h1 : -9007199254740992 ≤ m) (h2 : m ≤ 9007199254740992) (hk : k ≤ 900) : Fits m k :=
  fits_of 54 1023 (by omega) (by omega) (by decide)
theorem cop_add_is {x y : Nat} {m n k : Int} (hx : Is x m k) (hy : Is y n k) (h1 : -9007199254740992 ≤ m + n) (h2 : m + n ≤ 9007199254740992) (hk : k ≤ 900) : Is (cop .add x y) (m + n) k := by
  obtain ⟨r, hr, hi⟩ := is_add hx hy (fits53 h1 h2 hk)
  rw [rn_small h1 h2] at hi
  rw [cop_some (show floatBits .add .f64 x y = some r from hr), canon_num hi.num]
  exact hi
theorem cop_sub_is {x y : Nat} {m n k : Int} (hx : Is x m k) (hy : Is y n k) (h1 : -9007199254740992 ≤ m - n) (h2 : m - n ≤ 9007199254740992) (hk : k ≤ 900) : Is (cop .sub x y) (m - n) k := by
  obtain ⟨r, hr, hi⟩ := is_sub hx hy (fits53 h1 h2 hk)
  rw [rn_small h1 h2] at hi
  rw [cop_some (show floatBits .sub .f64 x y = some r from hr), canon_num hi.num]
  exact hi
theorem cop_mul_is {x y : Nat} {m n k l : Int} (hx : Is x m k) (hy : Is y n l) (h1 : -9007199254740992 ≤ m * n) (h2 : m * n ≤ 9007199254740992) (hk0 : -1074 ≤ k + l) (hk : k + l ≤ 900) : Is (cop .mul x y) (m * n) (k + l) := by
  obtain ⟨r, hr, hi⟩ := is_mul hx hy hk0 (fits53 h1 h2 hk)
  rw [rn_small h1 h2] at hi
  rw [cop_some (show floatBits .mul .f64 x y = some r from hr), canon_num hi.num]
  exact hi
theorem cop_quo_is {x y : Nat} {m n k l : Int} (hx : Is x (m * n) k) (hy : Is y n l) (hn : n ≠ 0) (h1 : -9007199254740992 ≤ m) (h2 : m ≤ 9007199254740992) (hk0 : -1074 ≤ k - l) (hk : k - l ≤ 900) : Is (cop .quo x y) m (k - l) := by
  obtain ⟨r, hr, hi⟩ := is_quo hx hy hn h1 h2 hk0 (fits53 h1 h2 hk)
  rw [cop_some (show floatBits .quo .f64 x y = some r from hr), canon_num hi.num]
  exact hi

/-- A float is a number of this form, times a power of two. -/
def FOK (V : Val) (p : Pol) (k : Int) (x : Nat) : Prop := ∃ m, p.OK V m ∧ Is x m k
theorem fit53_ok {p q : Pol} {k l : Int} (h : fit53 k p = some (q, l)) : q = p ∧ l = k ∧ -9007199254740992 ≤ p.lo ∧ p.hi ≤ 9007199254740992 ∧ -1074 ≤ k ∧ k ≤ 900 := by
  unfold fit53 at h
  cases hc : (p.chk 9007199254740992 && decide (-1074 ≤ k) && decide (k ≤ 900)) <;> rw [hc] at h
  · cases h
  · simp only [cond_true, Option.some.injEq, Prod.mk.injEq] at h
    unfold Pol.chk at hc
    simp only [Bool.and_eq_true, decide_eq_true_eq] at hc
    exact ⟨h.1.symm, h.2.symm, hc.1.1.1, hc.1.1.2, hc.1.2, hc.2⟩
theorem align_ok {p q p' q' : Pol} {k l m : Int} (h : alignL p k q l = some (p', q', m)) {x y : Nat} (hx : FOK V p k x) (hy : FOK V q l y) : ∃ a b, p'.OK V a ∧ q'.OK V b ∧ Is x a m ∧ Is y b m := by
  obtain ⟨a, ha, ia⟩ := hx
  obtain ⟨b, hb, ib⟩ := hy
  unfold alignL at h
  cases hkl : decide (k ≤ l) <;> rw [hkl] at h
  · have h1 := of_decide_eq_false hkl
    simp only [cond_false] at h
    cases hc : decide (k - l ≤ 2200) <;> rw [hc] at h
    · cases h
    · simp only [cond_true, Option.some.injEq, Prod.mk.injEq] at h
      obtain ⟨rfl, rfl, rfl⟩ := h
      have := ia.down (k - l).toNat (by have := ib.2.2.1; omega)
      rw [show k - ((k - l).toNat : Int) = l by omega] at this
      refine ⟨_, b, ha.sc _, hb, ?_, ib⟩
      rw [Int.mul_comm, show ((2 : Int) ^ (k - l).toNat) = ((2 ^ (k - l).toNat : Nat) : Int) by simp]
      exact this
  · have h1 := of_decide_eq_true hkl
    simp only [cond_true] at h
    cases hc : decide (l - k ≤ 2200) <;> rw [hc] at h
    · cases h
    · simp only [cond_true, Option.some.injEq, Prod.mk.injEq] at h
      obtain ⟨rfl, rfl, rfl⟩ := h
      have := ib.down (l - k).toNat (by have := ia.2.2.1; omega)
      rw [show l - ((l - k).toNat : Int) = k by omega] at this
      refine ⟨a, _, ha, hb.sc _, ia, ?_⟩
      rw [Int.mul_comm, show ((2 : Int) ^ (l - k).toNat) = ((2 ^ (l - k).toNat : Nat) : Int) by simp]
      exact this

theorem litF_ok {x : Nat} {p : Pol} {k : Int} (h : litF x = some (p, k)) : FOK V p k x := by
  unfold litF litTry at h
  generalize (litM x).1 = m at h
  generalize (litM x).2 = l at h
  cases hc : (decide (x < 18446744073709551616) && decide (x % p63 < infR) && decide (-1074 ≤ l) && decide (valOf x = m * (2 ^ (l + 1074).toNat : Nat)) && decide (-9007199254740992 ≤ m) && decide (m ≤ 9007199254740992)) <;> rw [hc] at h
  · cases h
  · simp only [cond_true, Option.some.injEq, Prod.mk.injEq] at h
    obtain ⟨rfl, rfl⟩ := h
    simp only [Bool.and_eq_true, decide_eq_true_eq] at hc
    exact ⟨m, Pol.OK.lit m, hc.1.1.1.1.1, hc.1.1.1.1.2, hc.1.1.1.2, hc.1.1.2⟩

theorem divT_ok {n : Int} : ∀ {l m : List (List E × Int)}, divT n l = some m → evT V l = evT V m * n
  | [], m, h => by simp only [divT, Option.some.injEq] at h; subst h; simp [evT]
  | (a, j) :: l, m, h => by
    unfold divT at h
    cases hc : decide (j % n = 0) <;> rw [hc] at h
    · cases h
    · simp only [cond_true] at h
      split at h
      · rename_i m' hm
        simp only [Option.some.injEq] at h
        subst h
        have h0 := of_decide_eq_true hc
        have hj : j = j / n * n := (Int.ediv_mul_cancel (Int.dvd_of_emod_eq_zero h0)).symm
        simp only [evT, divT_ok hm, Int.add_mul]
        rw [show j / n * prodM V a * n = j / n * n * prodM V a by rw [Int.mul_assoc, Int.mul_comm (prodM V a), ← Int.mul_assoc], ← hj]
      · cases h
theorem quo_ok {p r : Pol} {n x : Int} (h : p.quo n = some r) (hp : p.OK V x) : ∃ y, x = y * n ∧ r.OK V y ∧ n ≠ 0 := by
  unfold Pol.quo at h
  split at h
  · rename_i ts ht
    cases hc : decide (1 ≤ n) <;> rw [hc] at h
    · cases h
    · simp only [cond_true, Option.some.injEq] at h
      subst h
      have hn := of_decide_eq_true hc
      have hx : x = evT V ts * n := by rw [hp.eq, divT_ok ht]
      refine ⟨evT V ts, hx, ⟨rfl, ?_, ?_⟩, by omega⟩
      · have h1 := hp.lo
        have h2 : -(evT V ts) ≤ (-p.lo) / n := by
          rw [Int.le_ediv_iff_mul_le (by omega), Int.neg_mul, ← hx]; omega
        simp only; omega
      · have h1 := hp.hi
        simp only
        rw [Int.le_ediv_iff_mul_le (by omega), ← hx]; omega
  · cases h
theorem quoF_ok {p q r : Pol} {k l m : Int} (h : quoF p k q l = some (r, m)) {x y : Nat} (hx : FOK V p k x) (hy : FOK V q l y) : FOK V r m (cop .quo x y) := by
  obtain ⟨a, ha, ia⟩ := hx
  obtain ⟨b, hb, ib⟩ := hy
  unfold quoF at h
  split at h
  · rename_i n hts
    have hbn : b = n := by rw [hb.eq, hts]; simp [evT, prodM]
    subst hbn
    cases h1 : decide (b = 1) <;> rw [h1] at h
    · simp only [cond_false] at h
      split at h
      · rename_i r' hq
        obtain ⟨rfl, rfl, l1, l2, k1, k2⟩ := fit53_ok h
        obtain ⟨c, hc, hr, hn⟩ := quo_ok hq ha
        subst hc
        exact ⟨c, hr, cop_quo_is ia ib hn (Int.le_trans l1 hr.lo) (Int.le_trans hr.hi l2) k1 k2⟩
      · cases h
    · have h1 := of_decide_eq_true h1
      subst h1
      simp only [cond_true] at h
      obtain ⟨rfl, rfl, l1, l2, k1, k2⟩ := fit53_ok h
      exact ⟨a, ha, cop_quo_is (m := a) (n := 1) (by rw [Int.mul_one]; exact ia) ib (by decide) (Int.le_trans l1 ha.lo) (Int.le_trans ha.hi l2) k1 k2⟩
  · cases h
theorem pairF_ok {f : Pol → Pol → Int → Option (Pol × Int)} {a b r : Pol × Int} (h : pairF f a b = some r) {x y : Nat} (hx : FOK V a.1 a.2 x) (hy : FOK V b.1 b.2 y) :
    ∃ p q m c d, f p q m = some r ∧ p.OK V c ∧ q.OK V d ∧ Is x c m ∧ Is y d m := by
  unfold pairF at h
  split at h
  · rename_i p q m hal
    obtain ⟨c, d, h1, h2, h3, h4⟩ := align_ok hal hx hy
    exact ⟨p, q, m, c, d, h, h1, h2, h3, h4⟩
  · cases h

def headF (V : Val) : E → Nat
  | .cf a _ => evF V a
  | e => evF V e
theorem gd_ok {α : Type} {a : E} {r : Option α} {x : α} (h : gd a r = some x) : r = some x ∧ ∀ V, headF V a = evF V a := by
  unfold gd at h
  split at h
  · cases h
  · rename_i hn
    refine ⟨h, fun V => ?_⟩
    unfold headF
    split
    · rename_i a b; exact absurd rfl (hn a b)
    · rfl
theorem linF_head (hV : StdV V) : ∀ {e : E} {p : Pol} {k : Int}, linF e = some (p, k) → FOK V p k (headF V e) := by
  intro e
  induction e with
  | lf x => intro p k h; simp only [linF] at h; exact litF_ok h
  | i2f a =>
    intro p k h
    unfold linF at h
    cases ha : linI a with
    | none => rw [ha] at h; cases h
    | some q =>
      rw [ha] at h
      obtain ⟨rfl, rfl, l1, l2, -, -⟩ := fit53_ok (show fit53 0 q = some (p, k) from h)
      have ho := linI_ok hV ha
      exact ⟨_, ho, is_ofInt (n := evI V a) (Int.le_trans l1 ho.lo) (Int.le_trans ho.hi l2)⟩
  | cf a r iha =>
    intro p k h
    unfold linF at h
    obtain ⟨h1, h2⟩ := gd_ok h
    have := iha h1
    rw [h2] at this
    exact this
  | tf c a b _ iha ihb =>
    intro p k h
    unfold linF at h
    obtain ⟨x, y, h1, h2, h3⟩ := opt2_ok h
    obtain ⟨h1, e1⟩ := gd_ok h1
    obtain ⟨h2, e2⟩ := gd_ok h2
    obtain ⟨p', q', m, c', d', h4, h5, h6, h7, h8⟩ := pairF_ok h3 (e1 V ▸ iha h1) (e2 V ▸ ihb h2)
    simp only [Option.some.injEq, Prod.mk.injEq] at h4
    obtain ⟨rfl, rfl⟩ := h4
    refine ⟨_, Pol.OK.ite c h5 h6, ?_⟩
    simp only [headF, evF]
    cases evB V c
    · exact h8
    · exact h7
  | fb op a b iha ihb =>
    intro p k h
    unfold linF at h
    split at h <;> rename_i heq <;> (try (cases heq; done))
    · cases heq
      obtain ⟨x, y, h1, h2, h3⟩ := opt2_ok h
      obtain ⟨h1, e1⟩ := gd_ok h1
      obtain ⟨h2, e2⟩ := gd_ok h2
      obtain ⟨p', q', m, c', d', h4, h5, h6, h7, h8⟩ := pairF_ok h3 (e1 V ▸ iha h1) (e2 V ▸ ihb h2)
      obtain ⟨rfl, rfl, l1, l2, k1, k2⟩ := fit53_ok h4
      have ho := h5.add h6
      exact ⟨_, ho, cop_add_is h7 h8 (Int.le_trans l1 ho.lo) (Int.le_trans ho.hi l2) k2⟩
    · cases heq
      obtain ⟨x, y, h1, h2, h3⟩ := opt2_ok h
      obtain ⟨h1, e1⟩ := gd_ok h1
      obtain ⟨h2, e2⟩ := gd_ok h2
      obtain ⟨p', q', m, c', d', h4, h5, h6, h7, h8⟩ := pairF_ok h3 (e1 V ▸ iha h1) (e2 V ▸ ihb h2)
      obtain ⟨rfl, rfl, l1, l2, k1, k2⟩ := fit53_ok h4
      have ho := h5.sub h6
      exact ⟨_, ho, cop_sub_is h7 h8 (Int.le_trans l1 ho.lo) (Int.le_trans ho.hi l2) k2⟩
    · cases heq
      obtain ⟨⟨x1, x2⟩, ⟨y1, y2⟩, h1, h2, h3⟩ := opt2_ok h
      obtain ⟨h1, e1⟩ := gd_ok h1
      obtain ⟨h2, e2⟩ := gd_ok h2
      obtain ⟨rfl, rfl, l1, l2, k1, k2⟩ := fit53_ok h3
      obtain ⟨x, hx, ix⟩ := (e1 V ▸ iha h1 : FOK V x1 x2 (evF V a))
      obtain ⟨y, hy, iy⟩ := (e2 V ▸ ihb h2 : FOK V y1 y2 (evF V b))
      have ho := hx.mul hy
      exact ⟨_, ho, cop_mul_is ix iy (Int.le_trans l1 ho.lo) (Int.le_trans ho.hi l2) k1 k2⟩
    · cases heq
      obtain ⟨⟨x1, x2⟩, ⟨y1, y2⟩, h1, h2, h3⟩ := opt2_ok h
      obtain ⟨h1, e1⟩ := gd_ok h1
      obtain ⟨h2, e2⟩ := gd_ok h2
      exact quoF_ok h3 (e1 V ▸ iha h1) (e2 V ▸ ihb h2)
    · cases h
  | af f j args ih =>
    intro p k h
    unfold linF at h
    split at h <;> rename_i heq <;> (try (cases heq; done))
    · cases heq
      split at h
      · rename_i q l a n ha
        cases hj : Nat.beq j 0 <;> rw [hj] at h
        · cases h
        · simp only [cond_true] at h
          have hj := Nat.eq_of_beq_eq_true hj
          subst hj
          obtain ⟨rfl, rfl, l1, l2, k1, k2⟩ := fit53_ok h
          obtain ⟨m, hm, hi⟩ := ih ha
          refine ⟨m, hm, ?_⟩
          show Is (evF V (.af 7 0 (.cf a (.ci (.li n) .n0)))) m (l + n)
          have hv : evF V (.af 7 0 (.cf a (.ci (.li n) .n0))) = ldexpB (canon (evF V a)) n := by simp [evF, evI, evS, hV.f, stdF]
          have hi' : Is (evF V a) m l := hi
          rw [hv, canon_num hi'.num]
          exact is_scale hi' n k1 (fits53 (Int.le_trans l1 hm.lo) (Int.le_trans hm.hi l2) k2)
      · cases h
    · cases h
  | _ => intro p k h; unfold linF at h; cases h
theorem linF_ok (hV : StdV V) {e : E} {p : Pol} {k : Int} (h : gd e (linF e) = some (p, k)) : FOK V p k (evF V e) := by
  obtain ⟨h1, h2⟩ := gd_ok h
  have := linF_head hV h1
  rw [h2] at this
  exact this

theorem cmpL_ok {op : BinOp} {d : Pol} {b : Bool} (h : cmpL op d = some b) {x y : Int} (hd : d.OK V (x - y)) : icV op x y = b := by
  unfold cmpL at h
  have h1 := hd.lo
  have h2 := hd.hi
  have hT : ∀ {c v b : Bool} {r : Option Bool}, (bif c then some v else r) = some b → (c = true ∧ v = b) ∨ (c = false ∧ r = some b) := fun {c v b r} h => by
    cases c
    · exact .inr ⟨rfl, h⟩
    · exact .inl ⟨rfl, by simpa using h⟩
  split at h
  · rename_i hts
    simp only [Option.some.injEq] at h
    have : x - y = 0 := by rw [hd.eq, hts]; simp [evT]
    subst h
    cases op <;> simp [icV] <;> first | omega | (constructor <;> omega) | skip
  · rename_i n hts
    simp only [Option.some.injEq] at h
    have : x - y = n := by rw [hd.eq, hts]; simp [evT, prodM]
    subst h
    rw [← this]
    cases op <;> simp [icV] <;> first | omega | (constructor <;> omega) | skip
  · split at h
    · rcases hT h with ⟨hc, rfl⟩ | ⟨-, h⟩
      · simp only [Bool.or_eq_true, decide_eq_true_eq] at hc
        simp only [icV, decide_eq_false_iff_not]; omega
      · cases h
    · rcases hT h with ⟨hc, rfl⟩ | ⟨-, h⟩
      · simp only [Bool.or_eq_true, decide_eq_true_eq] at hc
        simp only [icV, Bool.not_eq_true', decide_eq_false_iff_not]; omega
      · cases h
    · rcases hT h with ⟨hc, rfl⟩ | ⟨-, h⟩
      · simp only [decide_eq_true_eq] at hc
        simp only [icV, decide_eq_true_eq]; omega
      · rcases hT h with ⟨hc, rfl⟩ | ⟨-, h⟩
        · simp only [decide_eq_true_eq] at hc
          simp only [icV, decide_eq_false_iff_not]; omega
        · cases h
    · rcases hT h with ⟨hc, rfl⟩ | ⟨-, h⟩
      · simp only [decide_eq_true_eq] at hc
        simp only [icV, decide_eq_true_eq]; omega
      · rcases hT h with ⟨hc, rfl⟩ | ⟨-, h⟩
        · simp only [decide_eq_true_eq] at hc
          simp only [icV, decide_eq_false_iff_not]; omega
        · cases h
    · rcases hT h with ⟨hc, rfl⟩ | ⟨-, h⟩
      · simp only [decide_eq_true_eq] at hc
        simp only [icV, decide_eq_true_eq]; omega
      · rcases hT h with ⟨hc, rfl⟩ | ⟨-, h⟩
        · simp only [decide_eq_true_eq] at hc
          simp only [icV, decide_eq_false_iff_not]; omega
        · cases h
    · rcases hT h with ⟨hc, rfl⟩ | ⟨-, h⟩
      · simp only [decide_eq_true_eq] at hc
        simp only [icV, decide_eq_true_eq]; omega
      · rcases hT h with ⟨hc, rfl⟩ | ⟨-, h⟩
        · simp only [decide_eq_true_eq] at hc
          simp only [icV, decide_eq_false_iff_not]; omega
        · cases h
    · cases h

theorem ltB_not {x y : Nat} (hx : isN x = false) (hy : isN y = false) : ltB x y = !leB y x := by
  unfold ltB leB; rw [hx, hy]; rw [Bool.eq_iff_iff]; simp
theorem is_cmp {x y : Nat} {a b k : Int} (hx : Is x a k) (hy : Is y b k) (op : BinOp) : fcV op x y = icV op a b := by
  have e1 := is_eq hx hy
  have e2 := is_le hx hy
  have e3 := is_le hy hx
  have l1 : ltB x y = decide (a < b) := by
    have := ltB_not hx.num hy.num
    rw [this, e3]
    by_cases h : b ≤ a
    · rw [decide_eq_true h, decide_eq_false (by omega)]; rfl
    · rw [decide_eq_false h, decide_eq_true (by omega)]; rfl
  have l2 : ltB y x = decide (b < a) := by
    have := ltB_not hy.num hx.num
    rw [this, e2]
    by_cases h : a ≤ b
    · rw [decide_eq_true h, decide_eq_false (by omega)]; rfl
    · rw [decide_eq_false h, decide_eq_true (by omega)]; rfl
  cases op <;> simp only [fcV, icV, e1, e2, e3, l1, l2]
theorem cmpF_ok (hV : StdV V) {op : BinOp} {a b : E} {r : Bool} (h : cmpF op a b = some r) : fcV op (evF V a) (evF V b) = r ∧ isN (evF V a) = false ∧ isN (evF V b) = false := by
  unfold cmpF at h
  obtain ⟨⟨x1, x2⟩, ⟨y1, y2⟩, ha, hb, h3⟩ := opt2_ok h
  split at h3
  · rename_i p' q' m hal
    obtain ⟨x, y, hx, hy, ix, iy⟩ := align_ok hal (linF_ok hV ha) (linF_ok hV hb)
    exact ⟨by rw [is_cmp ix iy]; exact cmpL_ok h3 (hx.sub hy), ix.num, iy.num⟩
  · cases h3
/-- What is reckoned is so. -/
theorem exact_ok (hV : StdV V) {e : E} {r : Bool} (h : exactDec e = some r) : evB V e = r := by
  unfold exactDec at h
  split at h
  · exact (cmpF_ok hV h).1
  · rename_i j args
    split at h
    · rename_i a b
      cases hj : Nat.beq j 0 <;> rw [hj] at h
      · cases h
      · simp only [cond_true] at h
        have hj := Nat.eq_of_beq_eq_true hj
        subst hj
        obtain ⟨h1, h2, h3⟩ := cmpF_ok hV h
        have hv : evB V (.ab 8 0 (.cf a (.cf b .n0))) = sameB (evF V a) (evF V b) := by simp [evB, evS, hV.b, stdB]
        rw [hv]
        unfold sameB
        simp only [h2, h3, Bool.and_self, Bool.or_false]
        exact h1
    · cases h
  · obtain ⟨p, q, hp, hq, h3⟩ := opt2_ok h
    exact cmpL_ok h3 ((linI_ok hV hp).sub (linI_ok hV hq))
  · cases h
theorem dok_exact (hV : StdV V) : DOK V fun _ => exactDec := fun _ _ _ _ h => exact_ok hV h
def Gam.ex : Gam := ⟨[], fun _ => exactDec⟩
theorem gam_ex (hV : StdV V) : GamOK V .ex := ⟨fun _ _ h => (by cases h), dok_exact hV⟩
end Go.Proofs.Ytkncchofgehnpaa.Ex
