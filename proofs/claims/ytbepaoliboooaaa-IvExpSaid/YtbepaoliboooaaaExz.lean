/-
  The runner: floats that are whole numbers times a power of two, exactly.
-/
import Derived.Test.YtbepaoliboooaaaExy
import Derived.Test.YtbepaoliboooaaaMq
namespace Go.Proofs.Ytbepaoliboooaaa.Ex
open Go
open Ieee (double)
variable {V : Val}

def stripE : Nat → Int → Int → Int × Int
  | 0, m, k => (m, k)
  | n + 1, m, k => bif decide (m % 2 = 0) then stripE n (m / 2) (k + 1) else (m, k)
def litTry (x : Nat) (m k : Int) : Option (Pol × Pol) :=
  bif decide (x < 18446744073709551616) && decide (x % p63 < infR) && decide (-1074 ≤ k) && decide (valOf x = m * (2 ^ (k + 1074).toNat : Nat)) && decide (-9007199254740992 ≤ m) && decide (m ≤ 9007199254740992) then some (Pol.lit m, Pol.lit k) else none
def litM (x : Nat) : Int × Int :=
  bif Nat.beq (x % p63) 0 then (0, 0) else stripE 60 (sgd (neg x) (bif Nat.beq (x % p63 / p52) 0 then x % p63 else x % p52 + p52)) (bif Nat.beq (x % p63 / p52) 0 then -1074 else ((x % p63 / p52 : Nat) : Int) - 1075)
def litF (x : Nat) : Option (Pol × Pol) := litTry x (litM x).1 (litM x).2
/-- A number that is known. -/
def cst : List (List E × Int) → Option Int
  | [] => some 0
  | [([], n)] => some n
  | _ => none
def isZ (p : Pol) : Bool := match p.ts with
  | [] => true
  | _ => false
/-- Both with one exponent. -/
def alignL (p k q l : Pol) : Option (Pol × Pol × Pol) :=
  bif isZ q then some (p, Pol.lit 0, k) else bif isZ p then some (Pol.lit 0, q, l) else match cst (l.sub k).ts with
  | some d => bif decide (0 ≤ d) then (bif decide (d ≤ 2200) then some (p, q.sc (2 ^ d.toNat), k) else none)
    else (bif decide (-2200 ≤ d) then some (p.sc (2 ^ (-d).toNat), q, l) else none)
  | none => none
def fit53 (k p : Pol) : Option (Pol × Pol) := bif p.chk 9007199254740992 && decide (-1074 ≤ k.lo) && decide (k.hi ≤ 900) then some (p, k) else none
/-- Each is n times another one. -/
def divT (n : Int) : List (List E × Int) → Option (List (List E × Int))
  | [] => some []
  | (a, j) :: l => bif decide (j % n = 0) then (match divT n l with | some m => some ((a, j / n) :: m) | none => none) else none
/-- What comes out, divided by n (not 0), where it does. -/
def Pol.quo (p : Pol) (n : Int) : Option Pol := match divT n p.ts with
  | some ts => bif decide (1 ≤ n) then some ⟨ts, -((-p.lo) / n), p.hi / n⟩ else none
  | none => none
def quoF (p k q l : Pol) : Option (Pol × Pol) :=
  match q.ts with
  | [([], n)] => bif decide (n = 1) then fit53 (k.sub l) p else match p.quo n with
    | some r => fit53 (k.sub l) r
    | none => none
  | _ => none
def pairF (f : Pol → Pol → Pol → Option (Pol × Pol)) (a b : Pol × Pol) : Option (Pol × Pol) :=
  match alignL a.1 a.2 b.1 b.2 with
  | some (p, q, m) => f p q m
  | none => none
/-- A product: nothing, of nothing and of what is finite. -/
def mulF (fa fb : Bool) : Option (Pol × Pol) → Option (Pol × Pol) → Option (Pol × Pol)
  | some x, some y => fit53 (x.2.add y.2) (x.1.mul y.1)
  | some x, none => bif isZ x.1 && fb then some (Pol.lit 0, Pol.lit 0) else none
  | none, some y => bif isZ y.1 && fa then some (Pol.lit 0, Pol.lit 0) else none
  | none, none => none
/-- Not of a row of what is handed in. -/
def gd {α : Type} (a : E) (r : Option α) : Option α := match a with
  | .cf _ _ => none
  | _ => r
/-- Without its sign. -/
def absP (a : E) (p : Pol) : Pol := ⟨(Pol.ite (.fc .lss a (.lf 0)) (p.sc (-1)) p).ts, 0, max (-p.lo) p.hi⟩
def linF (fin : E → Bool) : E → Option (Pol × Pol)
  | .i2f a => (linI a).bind (fit53 (Pol.lit 0))
  | .lf x => litF x
  | .fb .add a b => opt2 (pairF fun p q m => fit53 m (p.add q)) (gd a (linF fin a)) (gd b (linF fin b))
  | .fb .sub a b => opt2 (pairF fun p q m => fit53 m (p.sub q)) (gd a (linF fin a)) (gd b (linF fin b))
  | .fb .mul a b => mulF (fin a) (fin b) (gd a (linF fin a)) (gd b (linF fin b))
  | .fb .quo a b => opt2 (fun x y => quoF x.1 x.2 y.1 y.2) (gd a (linF fin a)) (gd b (linF fin b))
  | .tf c a b => opt2 (pairF fun p q m => some (Pol.ite c p q, m)) (gd a (linF fin a)) (gd b (linF fin b))
  | .af 7 j args => match linF fin args, args with
    | some (p, k), .cf _ (.ci n .n0) => bif Nat.beq j 0 then (match linI n with
      | some l => fit53 (k.add l) p
      | none => none) else none
    | _, _ => none
  | .af 10 j args => match linF fin args, args with
    | some (p, k), .cf _ .n0 => bif Nat.beq j 0 then (bif decide (0 ≤ p.lo) then some (p, k) else bif decide (p.hi ≤ 0) then some (p.sc (-1), k) else (match args with | .cf a _ => some (absP a p, k) | _ => none)) else none
    | _, _ => none
  | .cf a _ => gd a (linF fin a)
  | _ => none
/-- Of a number: what is known of it beside 0. -/
def cmpL (op : BinOp) (d : Pol) : Option Bool :=
  match d.ts with
  | [] => some (icV op 0 0)
  | [([], n)] => some (icV op n 0)
  | _ => match op with
    | .eql => bif decide (0 < d.lo) || decide (d.hi < 0) then some false else none
    | .neq => bif decide (0 < d.lo) || decide (d.hi < 0) then some true else none
    | .lss => bif decide (d.hi < 0) then some true else bif decide (0 ≤ d.lo) then some false else none
    | .leq => bif decide (d.hi ≤ 0) then some true else bif decide (0 < d.lo) then some false else none
    | .gtr => bif decide (0 < d.lo) then some true else bif decide (d.hi ≤ 0) then some false else none
    | .geq => bif decide (0 ≤ d.lo) then some true else bif decide (d.hi < 0) then some false else none
    | _ => none
def cmpF (fin : E → Bool) (op : BinOp) (a b : E) : Option Bool :=
  opt2 (fun x y => match alignL x.1 x.2 y.1 y.2 with
    | some (p, q, _) => cmpL op (p.sub q)
    | none => none) (gd a (linF fin a)) (gd b (linF fin b))
/-- Known to be finite. -/
def finOf (l : List (E × Bool)) (e : E) : Bool := match lookE l (.fc .eql (.fb .sub e e) (.lf 0)) with
  | some true => true
  | _ => false
def exactDec (fin : E → Bool) : E → Option Bool
  | .fc op a b => cmpF fin op a b
  | .ab 8 j args => match args with
    | .cf a (.cf b .n0) => bif Nat.beq j 0 then cmpF fin .eql a b else none
    | _ => none
  | .ic op a b => opt2 (fun p q => cmpL op (p.sub q)) (linI a) (linI b)
  | _ => none

theorem fits53 {m k : Int} (h1 : -9007199254740992 ≤ m) (h2 : m ≤ 9007199254740992) (hk : k ≤ 900) : Fits m k :=
  fits_of 54 1023 (by omega) (by omega) (by decide)
theorem cop_add_is {x y : Nat} {m n k : Int} (hx : Is x m k) (hy : Is y n k) (h1 : -9007199254740992 ≤ m + n) (h2 : m + n ≤ 9007199254740992) (hk : k ≤ 900) : Is (cop .add x y) (m + n) k := by
  obtain ⟨r, hr, hi⟩ := is_add hx hy (fits53 h1 h2 hk)
  rw [rn_small h1 h2] at hi
  rw [cop_some (show floatBits .add .f64 x y = some r from hr), canon_num hi.num]
  exact hi
theorem cop_sub_is {x y : Nat} {m n k : Int} (hx : Is x m k) (hy : Is y n k) (h1 : -9007199254740992 ≤ m - n) (h2 : m - n ≤ 9007199254740992) (hk : k ≤ 900) : Is (cop .sub x y) (m - n) k := by
  obtain ⟨r, hr, hi⟩ := is_sub hx hy (fits53 h1 h2 hk)
  rw [rn_small h1 h2] at hi
  rw [cop_some (show floatBits .sub .f64 x y = some r from hr), canon_num hi.num]
  exact hi
theorem cop_mul_is {x y : Nat} {m n k l : Int} (hx : Is x m k) (hy : Is y n l) (h1 : -9007199254740992 ≤ m * n) (h2 : m * n ≤ 9007199254740992) (hk0 : -1074 ≤ k + l) (hk : k + l ≤ 900) : Is (cop .mul x y) (m * n) (k + l) := by
  obtain ⟨r, hr, hi⟩ := is_mul hx hy hk0 (fits53 h1 h2 hk)
  rw [rn_small h1 h2] at hi
  rw [cop_some (show floatBits .mul .f64 x y = some r from hr), canon_num hi.num]
  exact hi
theorem cop_quo_is {x y : Nat} {m n k l : Int} (hx : Is x (m * n) k) (hy : Is y n l) (hn : n ≠ 0) (h1 : -9007199254740992 ≤ m) (h2 : m ≤ 9007199254740992) (hk0 : -1074 ≤ k - l) (hk : k - l ≤ 900) : Is (cop .quo x y) m (k - l) := by
  obtain ⟨r, hr, hi⟩ := is_quo hx hy hn h1 h2 hk0 (fits53 h1 h2 hk)
  rw [cop_some (show floatBits .quo .f64 x y = some r from hr), canon_num hi.num]
  exact hi

/-- A float is a number of this form, times a power of two. -/
def FOK (V : Val) (p k : Pol) (x : Nat) : Prop := ∃ m e, p.OK V m ∧ k.OK V e ∧ Is x m e
theorem fit53_ok {p q k l : Pol} (h : fit53 k p = some (q, l)) : q = p ∧ l = k ∧ -9007199254740992 ≤ p.lo ∧ p.hi ≤ 9007199254740992 ∧ -1074 ≤ k.lo ∧ k.hi ≤ 900 := by
  unfold fit53 at h
  cases hc : (p.chk 9007199254740992 && decide (-1074 ≤ k.lo) && decide (k.hi ≤ 900)) <;> rw [hc] at h
  · cases h
  · simp only [cond_true, Option.some.injEq, Prod.mk.injEq] at h
    unfold Pol.chk at hc
    simp only [Bool.and_eq_true, decide_eq_true_eq] at hc
    exact ⟨h.1.symm, h.2.symm, hc.1.1.1, hc.1.1.2, hc.1.2, hc.2⟩
theorem cst_ok {l : List (List E × Int)} {n : Int} (h : cst l = some n) : evT V l = n := by
  unfold cst at h
  split at h
  · simp only [Option.some.injEq] at h; subst h; rfl
  · simp only [Option.some.injEq] at h; subst h; simp [evT, prodM]
  · cases h
theorem isZ_ok {p : Pol} {m : Int} (h : isZ p = true) (hp : p.OK V m) : m = 0 := by
  unfold isZ at h
  split at h
  · rename_i ht; rw [hp.eq, ht]; rfl
  · cases h
theorem is_zero_at {x : Nat} {k l : Int} (h : Is x 0 k) (hl : -1074 ≤ l) : Is x 0 l := ⟨h.1, h.2.1, hl, by rw [h.2.2.2, Int.zero_mul, Int.zero_mul]⟩
theorem align_ok {p q p' q' k l m : Pol} (h : alignL p k q l = some (p', q', m)) {x y : Nat} (hx : FOK V p k x) (hy : FOK V q l y) : ∃ a b e, p'.OK V a ∧ q'.OK V b ∧ m.OK V e ∧ Is x a e ∧ Is y b e := by
  obtain ⟨a, ea, ha, ka, ia⟩ := hx
  obtain ⟨b, eb, hb, kb, ib⟩ := hy
  unfold alignL at h
  cases hq : isZ q <;> rw [hq] at h
  rotate_left
  · simp only [cond_true, Option.some.injEq, Prod.mk.injEq] at h
    obtain ⟨rfl, rfl, rfl⟩ := h
    have := isZ_ok hq hb
    subst this
    exact ⟨a, 0, ea, ha, Pol.OK.lit 0, ka, ia, is_zero_at ib ia.2.2.1⟩
  cases hp : isZ p <;> rw [hp] at h
  rotate_left
  · simp only [cond_true, cond_false, Option.some.injEq, Prod.mk.injEq] at h
    obtain ⟨rfl, rfl, rfl⟩ := h
    have := isZ_ok hp ha
    subst this
    exact ⟨0, b, eb, Pol.OK.lit 0, hb, kb, is_zero_at ia ib.2.2.1, ib⟩
  simp only [cond_false] at h
  split at h
  · rename_i d hd
    have hde : eb - ea = d := by rw [(kb.sub ka).eq]; exact cst_ok hd
    cases hkl : decide (0 ≤ d) <;> rw [hkl] at h
    · have h1 := of_decide_eq_false hkl
      simp only [cond_false] at h
      cases hc : decide (-2200 ≤ d) <;> rw [hc] at h
      · cases h
      · simp only [cond_true, Option.some.injEq, Prod.mk.injEq] at h
        obtain ⟨rfl, rfl, rfl⟩ := h
        have := ia.down (-d).toNat (by have := ib.2.2.1; omega)
        rw [show ea - ((-d).toNat : Int) = eb by omega] at this
        refine ⟨_, b, eb, ha.sc _, hb, kb, ?_, ib⟩
        rw [Int.mul_comm, show ((2 : Int) ^ (-d).toNat) = ((2 ^ (-d).toNat : Nat) : Int) by simp]
        exact this
    · have h1 := of_decide_eq_true hkl
      simp only [cond_true] at h
      cases hc : decide (d ≤ 2200) <;> rw [hc] at h
      · cases h
      · simp only [cond_true, Option.some.injEq, Prod.mk.injEq] at h
        obtain ⟨rfl, rfl, rfl⟩ := h
        have := ib.down d.toNat (by have := ia.2.2.1; omega)
        rw [show eb - (d.toNat : Int) = ea by omega] at this
        refine ⟨a, _, ea, ha, hb.sc _, ka, ia, ?_⟩
        rw [Int.mul_comm, show ((2 : Int) ^ d.toNat) = ((2 ^ d.toNat : Nat) : Int) by simp]
        exact this
  · cases h

theorem litF_ok {x : Nat} {p k : Pol} (h : litF x = some (p, k)) : FOK V p k x := by
  unfold litF litTry at h
  generalize (litM x).1 = m at h
  generalize (litM x).2 = l at h
  cases hc : (decide (x < 18446744073709551616) && decide (x % p63 < infR) && decide (-1074 ≤ l) && decide (valOf x = m * (2 ^ (l + 1074).toNat : Nat)) && decide (-9007199254740992 ≤ m) && decide (m ≤ 9007199254740992)) <;> rw [hc] at h
  · cases h
  · simp only [cond_true, Option.some.injEq, Prod.mk.injEq] at h
    obtain ⟨rfl, rfl⟩ := h
    simp only [Bool.and_eq_true, decide_eq_true_eq] at hc
    exact ⟨m, l, Pol.OK.lit m, Pol.OK.lit l, hc.1.1.1.1.1, hc.1.1.1.1.2, hc.1.1.1.2, hc.1.1.2⟩

theorem divT_ok {n : Int} : ∀ {l m : List (List E × Int)}, divT n l = some m → evT V l = evT V m * n
  | [], m, h => by simp only [divT, Option.some.injEq] at h; subst h; simp [evT]
  | (a, j) :: l, m, h => by
    unfold divT at h
    cases hc : decide (j % n = 0) <;> rw [hc] at h
    · cases h
    · simp only [cond_true] at h
      split at h
      · rename_i m' hm
        simp only [Option.some.injEq] at h
        subst h
        have h0 := of_decide_eq_true hc
        have hj : j = j / n * n := (Int.ediv_mul_cancel (Int.dvd_of_emod_eq_zero h0)).symm
        simp only [evT, divT_ok hm, Int.add_mul]
        rw [show j / n * prodM V a * n = j / n * n * prodM V a by rw [Int.mul_assoc, Int.mul_comm (prodM V a), ← Int.mul_assoc], ← hj]
      · cases h
theorem quo_ok {p r : Pol} {n x : Int} (h : p.quo n = some r) (hp : p.OK V x) : ∃ y, x = y * n ∧ r.OK V y ∧ n ≠ 0 := by
  unfold Pol.quo at h
  split at h
  · rename_i ts ht
    cases hc : decide (1 ≤ n) <;> rw [hc] at h
    · cases h
    · simp only [cond_true, Option.some.injEq] at h
      subst h
      have hn := of_decide_eq_true hc
      have hx : x = evT V ts * n := by rw [hp.eq, divT_ok ht]
      refine ⟨evT V ts, hx, ⟨rfl, ?_, ?_⟩, by omega⟩
      · have h1 := hp.lo
        have h2 : -(evT V ts) ≤ (-p.lo) / n := by
          rw [Int.le_ediv_iff_mul_le (by omega), Int.neg_mul, ← hx]; omega
        simp only; omega
      · have h1 := hp.hi
        simp only
        rw [Int.le_ediv_iff_mul_le (by omega), ← hx]; omega
  · cases h
theorem quoF_ok {p k q l r m : Pol} (h : quoF p k q l = some (r, m)) {x y : Nat} (hx : FOK V p k x) (hy : FOK V q l y) : FOK V r m (cop .quo x y) := by
  obtain ⟨a, ea, ha, ka, ia⟩ := hx
  obtain ⟨b, eb, hb, kb, ib⟩ := hy
  have hk := ka.sub kb
  unfold quoF at h
  split at h
  · rename_i n hts
    have hbn : b = n := by rw [hb.eq, hts]; simp [evT, prodM]
    subst hbn
    cases h1 : decide (b = 1) <;> rw [h1] at h
    · simp only [cond_false] at h
      split at h
      · rename_i r' hq
        obtain ⟨rfl, rfl, l1, l2, k1, k2⟩ := fit53_ok h
        obtain ⟨c, hc, hr, hn⟩ := quo_ok hq ha
        subst hc
        exact ⟨c, _, hr, hk, cop_quo_is ia ib hn (Int.le_trans l1 hr.lo) (Int.le_trans hr.hi l2) (Int.le_trans k1 hk.lo) (Int.le_trans hk.hi k2)⟩
      · cases h
    · have h1 := of_decide_eq_true h1
      subst h1
      simp only [cond_true] at h
      obtain ⟨rfl, rfl, l1, l2, k1, k2⟩ := fit53_ok h
      exact ⟨a, _, ha, hk, cop_quo_is (m := a) (n := 1) (by rw [Int.mul_one]; exact ia) ib (by decide) (Int.le_trans l1 ha.lo) (Int.le_trans ha.hi l2) (Int.le_trans k1 hk.lo) (Int.le_trans hk.hi k2)⟩
  · cases h
theorem pairF_ok {f : Pol → Pol → Pol → Option (Pol × Pol)} {a b r : Pol × Pol} (h : pairF f a b = some r) {x y : Nat} (hx : FOK V a.1 a.2 x) (hy : FOK V b.1 b.2 y) :
    ∃ p q m c d e, f p q m = some r ∧ p.OK V c ∧ q.OK V d ∧ m.OK V e ∧ Is x c e ∧ Is y d e := by
  unfold pairF at h
  split at h
  · rename_i p q m hal
    obtain ⟨c, d, e, h1, h2, h3, h4, h5⟩ := align_ok hal hx hy
    exact ⟨p, q, m, c, d, e, h, h1, h2, h3, h4, h5⟩
  · cases h
theorem zero_mul_is {x y : Nat} (hx : x % p63 < infR) (hy : y % p63 < infR) (h0 : U (x % p63) = 0 ∨ U (y % p63) = 0) : Is (cop .mul x y) 0 0 := by
  have e := mul_fin hx hy
  have e0 : U (x % p63) * U (y % p63) = 0 := by rcases h0 with h | h <;> rw [h] <;> simp
  rw [e0, rungOf_zero] at e
  have hw := is_word (s := neg x ^^ neg y) (m := 0) (k := 0) (by decide) (by unfold Fits; decide) (fun h => absurd rfl h)
  rw [show Int.natAbs 0 = 0 from rfl, rungOf_zero, show rn 0 = 0 by decide] at hw
  rw [cop_some (show floatBits .mul .f64 x y = some _ from e), canon_num hw.num]
  exact hw
theorem is_zeroU {x : Nat} {k : Int} (h : Is x 0 k) : U (x % p63) = 0 := by
  have := (U_of_V h).1
  simpa using this
/-- Of each of both: it is of this form, or nothing is known; it is finite, if that is known. -/
theorem mulF_ok {fa fb : Bool} {a b : Option (Pol × Pol)} {p k : Pol} {x y : Nat} (h : mulF fa fb a b = some (p, k)) (ha : ∀ r, a = some r → FOK V r.1 r.2 x) (hb : ∀ r, b = some r → FOK V r.1 r.2 y) (hfa : fa = true → x % p63 < infR) (hfb : fb = true → y % p63 < infR) : FOK V p k (cop .mul x y) := by
  have hz : FOK V (Pol.lit 0) (Pol.lit 0) (cop .mul x y) ↔ Is (cop .mul x y) 0 0 := ⟨fun ⟨m, e, h1, h2, h3⟩ => by
    have e1 : m = 0 := by rw [h1.eq, ← (Pol.OK.lit (V := V) 0).eq]
    have e2 : e = 0 := by rw [h2.eq, ← (Pol.OK.lit (V := V) 0).eq]
    subst e1; subst e2; exact h3, fun h => ⟨0, 0, Pol.OK.lit 0, Pol.OK.lit 0, h⟩⟩
  unfold mulF at h
  split at h
  · rename_i r s
    obtain ⟨m, e, h1, h2, h3⟩ := ha r rfl
    obtain ⟨n, f, g1, g2, g3⟩ := hb s rfl
    obtain ⟨rfl, rfl, l1, l2, k1, k2⟩ := fit53_ok h
    have ho := h1.mul g1
    have hk := h2.add g2
    exact ⟨_, _, ho, hk, cop_mul_is h3 g3 (Int.le_trans l1 ho.lo) (Int.le_trans ho.hi l2) (Int.le_trans k1 hk.lo) (Int.le_trans hk.hi k2)⟩
  · rename_i r
    cases hc : (isZ r.1 && fb) <;> rw [hc] at h
    · cases h
    · simp only [cond_true, Option.some.injEq, Prod.mk.injEq] at h
      obtain ⟨rfl, rfl⟩ := h
      simp only [Bool.and_eq_true] at hc
      obtain ⟨m, e, h1, h2, h3⟩ := ha r rfl
      have := isZ_ok hc.1 h1
      subst this
      exact hz.2 (zero_mul_is h3.fin (hfb hc.2) (.inl (is_zeroU h3)))
  · rename_i r
    cases hc : (isZ r.1 && fa) <;> rw [hc] at h
    · cases h
    · simp only [cond_true, Option.some.injEq, Prod.mk.injEq] at h
      obtain ⟨rfl, rfl⟩ := h
      simp only [Bool.and_eq_true] at hc
      obtain ⟨m, e, h1, h2, h3⟩ := hb r rfl
      have := isZ_ok hc.1 h1
      subst this
      exact hz.2 (zero_mul_is (hfa hc.2) h3.fin (.inr (is_zeroU h3)))
  · cases h

def headF (V : Val) : E → Nat
  | .cf a _ => evF V a
  | e => evF V e
theorem gd_ok {α : Type} {a : E} {r : Option α} {x : α} (h : gd a r = some x) : r = some x ∧ ∀ V, headF V a = evF V a := by
  unfold gd at h
  split at h
  · cases h
  · rename_i hn
    refine ⟨h, fun V => ?_⟩
    unfold headF
    split
    · rename_i a b; exact absurd rfl (hn a b)
    · rfl
theorem ltB_not {x y : Nat} (hx : isN x = false) (hy : isN y = false) : ltB x y = !leB y x := by
  unfold ltB leB; rw [hx, hy]; rw [Bool.eq_iff_iff]; simp
theorem is_cmp {x y : Nat} {a b k : Int} (hx : Is x a k) (hy : Is y b k) (op : BinOp) : fcV op x y = icV op a b := by
  have e1 := is_eq hx hy
  have e2 := is_le hx hy
  have e3 := is_le hy hx
  have l1 : ltB x y = decide (a < b) := by
    have := ltB_not hx.num hy.num
    rw [this, e3]
    by_cases h : b ≤ a
    · rw [decide_eq_true h, decide_eq_false (by omega)]; rfl
    · rw [decide_eq_false h, decide_eq_true (by omega)]; rfl
  have l2 : ltB y x = decide (b < a) := by
    have := ltB_not hy.num hx.num
    rw [this, e2]
    by_cases h : a ≤ b
    · rw [decide_eq_true h, decide_eq_false (by omega)]; rfl
    · rw [decide_eq_false h, decide_eq_true (by omega)]; rfl
  cases op <;> simp only [fcV, icV, e1, e2, e3, l1, l2]
def FinOK (V : Val) (fin : E → Bool) : Prop := ∀ e, fin e = true → evF V e % p63 < infR
theorem linF_head (hV : StdV V) {fin : E → Bool} (hfin : FinOK V fin) : ∀ {e : E} {p k : Pol}, linF fin e = some (p, k) → FOK V p k (headF V e) := by
  intro e
  induction e with
  | lf x => intro p k h; simp only [linF] at h; exact litF_ok h
  | i2f a =>
    intro p k h
    unfold linF at h
    cases ha : linI a with
    | none => rw [ha] at h; cases h
    | some q =>
      rw [ha] at h
      obtain ⟨rfl, rfl, l1, l2, -, -⟩ := fit53_ok (show fit53 (Pol.lit 0) q = some (p, k) from h)
      have ho := linI_ok hV ha
      exact ⟨_, 0, ho, Pol.OK.lit 0, is_ofInt (n := evI V a) (Int.le_trans l1 ho.lo) (Int.le_trans ho.hi l2)⟩
  | cf a r iha =>
    intro p k h
    unfold linF at h
    obtain ⟨h1, h2⟩ := gd_ok h
    have := iha h1
    rw [h2] at this
    exact this
  | tf c a b _ iha ihb =>
    intro p k h
    unfold linF at h
    obtain ⟨x, y, h1, h2, h3⟩ := opt2_ok h
    obtain ⟨h1, e1⟩ := gd_ok h1
    obtain ⟨h2, e2⟩ := gd_ok h2
    obtain ⟨p', q', m, c', d', f', h4, h5, h6, hm, h7, h8⟩ := pairF_ok h3 (e1 V ▸ iha h1) (e2 V ▸ ihb h2)
    simp only [Option.some.injEq, Prod.mk.injEq] at h4
    obtain ⟨rfl, rfl⟩ := h4
    refine ⟨_, f', Pol.OK.ite c h5 h6, hm, ?_⟩
    simp only [headF, evF]
    cases evB V c
    · exact h8
    · exact h7
  | fb op a b iha ihb =>
    intro p k h
    unfold linF at h
    split at h <;> rename_i heq <;> (try (cases heq; done))
    · cases heq
      obtain ⟨x, y, h1, h2, h3⟩ := opt2_ok h
      obtain ⟨h1, e1⟩ := gd_ok h1
      obtain ⟨h2, e2⟩ := gd_ok h2
      obtain ⟨p', q', m, c', d', f', h4, h5, h6, hm, h7, h8⟩ := pairF_ok h3 (e1 V ▸ iha h1) (e2 V ▸ ihb h2)
      obtain ⟨rfl, rfl, l1, l2, k1, k2⟩ := fit53_ok h4
      have ho := h5.add h6
      exact ⟨_, f', ho, hm, cop_add_is h7 h8 (Int.le_trans l1 ho.lo) (Int.le_trans ho.hi l2) (Int.le_trans hm.hi k2)⟩
    · cases heq
      obtain ⟨x, y, h1, h2, h3⟩ := opt2_ok h
      obtain ⟨h1, e1⟩ := gd_ok h1
      obtain ⟨h2, e2⟩ := gd_ok h2
      obtain ⟨p', q', m, c', d', f', h4, h5, h6, hm, h7, h8⟩ := pairF_ok h3 (e1 V ▸ iha h1) (e2 V ▸ ihb h2)
      obtain ⟨rfl, rfl, l1, l2, k1, k2⟩ := fit53_ok h4
      have ho := h5.sub h6
      exact ⟨_, f', ho, hm, cop_sub_is h7 h8 (Int.le_trans l1 ho.lo) (Int.le_trans ho.hi l2) (Int.le_trans hm.hi k2)⟩
    · cases heq
      exact mulF_ok h (fun r hr => by obtain ⟨h1, e1⟩ := gd_ok hr; exact e1 V ▸ iha h1) (fun r hr => by obtain ⟨h1, e1⟩ := gd_ok hr; exact e1 V ▸ ihb h1) (hfin a) (hfin b)
    · cases heq
      obtain ⟨⟨x1, x2⟩, ⟨y1, y2⟩, h1, h2, h3⟩ := opt2_ok h
      obtain ⟨h1, e1⟩ := gd_ok h1
      obtain ⟨h2, e2⟩ := gd_ok h2
      exact quoF_ok h3 (e1 V ▸ iha h1) (e2 V ▸ ihb h2)
    · cases h
  | af f j args ih =>
    intro p k h
    unfold linF at h
    split at h <;> rename_i heq <;> (try (cases heq; done))
    · cases heq
      split at h
      · rename_i q l a n ha
        cases hj : Nat.beq j 0 <;> rw [hj] at h
        · cases h
        · simp only [cond_true] at h
          have hj := Nat.eq_of_beq_eq_true hj
          subst hj
          split at h
          · rename_i t hn
            obtain ⟨rfl, rfl, l1, l2, k1, k2⟩ := fit53_ok h
            obtain ⟨m, e, hm, he, hi⟩ := ih ha
            have hk := he.add (linI_ok hV hn)
            refine ⟨m, _, hm, hk, ?_⟩
            show Is (evF V (.af 7 0 (.cf a (.ci n .n0)))) m _
            have hv : evF V (.af 7 0 (.cf a (.ci n .n0))) = ldexpB (canon (evF V a)) (evI V n) := by simp [evF, evS, hV.f, stdF]
            have hi' : Is (evF V a) m e := hi
            rw [hv, canon_num hi'.num]
            exact is_scale hi' (evI V n) (Int.le_trans k1 hk.lo) (fits53 (Int.le_trans l1 hm.lo) (Int.le_trans hm.hi l2) (Int.le_trans hk.hi k2))
          · cases h
      · cases h
    · cases heq
      split at h
      · rename_i q l a ha
        cases hj : Nat.beq j 0 <;> rw [hj] at h
        · cases h
        · simp only [cond_true] at h
          have hj := Nat.eq_of_beq_eq_true hj
          subst hj
          obtain ⟨m, e, hm, he, hi⟩ := ih ha
          have hi' : Is (evF V a) m e := hi
          have hv : evF V (.af 10 0 (.cf a .n0)) = evF V a % p63 := by simp [evF, evS, hV.f, stdF, canon_num hi'.num]
          have hab := is_abs hi'
          cases h0 : decide (0 ≤ q.lo) <;> rw [h0] at h
          · cases h1 : decide (q.hi ≤ 0) <;> rw [h1] at h
            · simp only [cond_false, Option.some.injEq, Prod.mk.injEq] at h
              obtain ⟨rfl, rfl⟩ := h
              have hz : Is 0 0 e := by
                have h0 := is_ofInt (n := 0) (by decide) (by decide)
                have h00 : floatOfInt .f64 0 = 0 := by decide
                rw [h00] at h0
                have hke := hi'.2.2.1
                exact ⟨by decide, by decide, hke, by rw [Int.zero_mul]; decide⟩
              have hlt : evB V (.fc .lss a (.lf 0)) = decide (m < 0) := by
                have := is_cmp hi' hz .lss
                simpa [evB, evF, icV] using this
              have hite := Pol.OK.ite (V := V) (.fc .lss a (.lf 0)) (hm.sc (-1)) hm
              rw [hlt] at hite
              have hval : (bif decide (m < 0) then -1 * m else m) = (m.natAbs : Int) := by
                by_cases hn : m < 0
                · rw [decide_eq_true hn]; simp only [cond_true]; omega
                · rw [decide_eq_false hn]; simp only [cond_false]; omega
              rw [hval] at hite
              have := hm.lo
              have := hm.hi
              refine ⟨_, e, ⟨hite.eq, by simp only [absP]; omega, by simp only [absP]; omega⟩, he, ?_⟩
              show Is (evF V (.af 10 0 (.cf a .n0))) _ _
              rw [hv]
              exact hab
            · simp only [cond_true, cond_false, Option.some.injEq, Prod.mk.injEq] at h
              obtain ⟨rfl, rfl⟩ := h
              have := of_decide_eq_true h1
              have := hm.hi
              refine ⟨_, e, hm.sc (-1), he, ?_⟩
              show Is (evF V (.af 10 0 (.cf a .n0))) _ _
              rw [hv, show -1 * m = (m.natAbs : Int) by omega]
              exact hab
          · simp only [cond_true, Option.some.injEq, Prod.mk.injEq] at h
            obtain ⟨rfl, rfl⟩ := h
            have := of_decide_eq_true h0
            have := hm.lo
            refine ⟨m, e, hm, he, ?_⟩
            show Is (evF V (.af 10 0 (.cf a .n0))) _ _
            rw [hv]
            have e1 : m = (m.natAbs : Int) := by omega
            rw [e1]
            exact hab
      · cases h
    · cases h
  | _ => intro p k h; unfold linF at h; cases h
theorem linF_ok (hV : StdV V) {fin : E → Bool} (hfin : FinOK V fin) {e : E} {p k : Pol} (h : gd e (linF fin e) = some (p, k)) : FOK V p k (evF V e) := by
  obtain ⟨h1, h2⟩ := gd_ok h
  have := linF_head hV hfin h1
  rw [h2] at this
  exact this
theorem finOf_ok {l : List (E × Bool)} (hl : LOK V l) : FinOK V (finOf l) := fun e h => by
  unfold finOf at h
  split at h
  · rename_i hk
    have := lookE_ok hl hk
    have h2 : eqB (cop .sub (evF V e) (evF V e)) 0 = true := by simpa [evB, evF, fcV] using this
    rw [sub_self_zero] at h2
    simpa using h2
  · cases h

theorem cmpL_ok {op : BinOp} {d : Pol} {b : Bool} (h : cmpL op d = some b) {x y : Int} (hd : d.OK V (x - y)) : icV op x y = b := by
  unfold cmpL at h
  have h1 := hd.lo
  have h2 := hd.hi
  have hT : ∀ {c v b : Bool} {r : Option Bool}, (bif c then some v else r) = some b → (c = true ∧ v = b) ∨ (c = false ∧ r = some b) := fun {c v b r} h => by
    cases c
    · exact .inr ⟨rfl, h⟩
    · exact .inl ⟨rfl, by simpa using h⟩
  split at h
  · rename_i hts
    simp only [Option.some.injEq] at h
    have : x - y = 0 := by rw [hd.eq, hts]; simp [evT]
    subst h
    cases op <;> simp [icV] <;> first | omega | (constructor <;> omega) | skip
  · rename_i n hts
    simp only [Option.some.injEq] at h
    have : x - y = n := by rw [hd.eq, hts]; simp [evT, prodM]
    subst h
    rw [← this]
    cases op <;> simp [icV] <;> first | omega | (constructor <;> omega) | skip
  · split at h
    · rcases hT h with ⟨hc, rfl⟩ | ⟨-, h⟩
      · simp only [Bool.or_eq_true, decide_eq_true_eq] at hc
        simp only [icV, decide_eq_false_iff_not]; omega
      · cases h
    · rcases hT h with ⟨hc, rfl⟩ | ⟨-, h⟩
      · simp only [Bool.or_eq_true, decide_eq_true_eq] at hc
        simp only [icV, Bool.not_eq_true', decide_eq_false_iff_not]; omega
      · cases h
    · rcases hT h with ⟨hc, rfl⟩ | ⟨-, h⟩
      · simp only [decide_eq_true_eq] at hc
        simp only [icV, decide_eq_true_eq]; omega
      · rcases hT h with ⟨hc, rfl⟩ | ⟨-, h⟩
        · simp only [decide_eq_true_eq] at hc
          simp only [icV, decide_eq_false_iff_not]; omega
        · cases h
    · rcases hT h with ⟨hc, rfl⟩ | ⟨-, h⟩
      · simp only [decide_eq_true_eq] at hc
        simp only [icV, decide_eq_true_eq]; omega
      · rcases hT h with ⟨hc, rfl⟩ | ⟨-, h⟩
        · simp only [decide_eq_true_eq] at hc
          simp only [icV, decide_eq_false_iff_not]; omega
        · cases h
    · rcases hT h with ⟨hc, rfl⟩ | ⟨-, h⟩
      · simp only [decide_eq_true_eq] at hc
        simp only [icV, decide_eq_true_eq]; omega
      · rcases hT h with ⟨hc, rfl⟩ | ⟨-, h⟩
        · simp only [decide_eq_true_eq] at hc
          simp only [icV, decide_eq_false_iff_not]; omega
        · cases h
    · rcases hT h with ⟨hc, rfl⟩ | ⟨-, h⟩
      · simp only [decide_eq_true_eq] at hc
        simp only [icV, decide_eq_true_eq]; omega
      · rcases hT h with ⟨hc, rfl⟩ | ⟨-, h⟩
        · simp only [decide_eq_true_eq] at hc
          simp only [icV, decide_eq_false_iff_not]; omega
        · cases h
    · cases h

theorem cmpF_ok (hV : StdV V) {fin : E → Bool} (hfin : FinOK V fin) {op : BinOp} {a b : E} {r : Bool} (h : cmpF fin op a b = some r) : fcV op (evF V a) (evF V b) = r ∧ isN (evF V a) = false ∧ isN (evF V b) = false := by
  unfold cmpF at h
  obtain ⟨⟨x1, x2⟩, ⟨y1, y2⟩, ha, hb, h3⟩ := opt2_ok h
  split at h3
  · rename_i p' q' m hal
    obtain ⟨x, y, e, hx, hy, hm, ix, iy⟩ := align_ok hal (linF_ok hV hfin ha) (linF_ok hV hfin hb)
    exact ⟨by rw [is_cmp ix iy]; exact cmpL_ok h3 (hx.sub hy), ix.num, iy.num⟩
  · cases h3
/-- What is reckoned is so. -/
theorem exact_ok (hV : StdV V) {fin : E → Bool} (hfin : FinOK V fin) {e : E} {r : Bool} (h : exactDec fin e = some r) : evB V e = r := by
  unfold exactDec at h
  split at h
  · exact (cmpF_ok hV hfin h).1
  · rename_i j args
    split at h
    · rename_i a b
      cases hj : Nat.beq j 0 <;> rw [hj] at h
      · cases h
      · simp only [cond_true] at h
        have hj := Nat.eq_of_beq_eq_true hj
        subst hj
        obtain ⟨h1, h2, h3⟩ := cmpF_ok hV hfin h
        have hv : evB V (.ab 8 0 (.cf a (.cf b .n0))) = sameB (evF V a) (evF V b) := by simp [evB, evS, hV.b, stdB]
        rw [hv]
        unfold sameB
        simp only [h2, h3, Bool.and_self, Bool.or_false]
        exact h1
    · cases h
  · obtain ⟨p, q, hp, hq, h3⟩ := opt2_ok h
    exact cmpL_ok h3 ((linI_ok hV hp).sub (linI_ok hV hq))
  · cases h
theorem dok_exact (hV : StdV V) : DOK V fun l => exactDec (finOf l) := fun _ hl _ _ h => exact_ok hV (finOf_ok hl) h
def Gam.ex : Gam := ⟨[], fun l => exactDec (finOf l)⟩
theorem gam_ex (hV : StdV V) : GamOK V .ex := ⟨fun _ _ h => (by cases h), dok_exact hV⟩

/-- Ldexp, of any number, by what is known to be within bounds. -/
def ldexpT : List SV → Option SV
  | [.c x, .c (.i .i64 k)] => ldexpS [.c x, .c (.i .i64 k)]
  | [.c x, .c (.ei .i64 k)] => match linI k, x.toF with
    | some p, some e => bif decide (-4611686018427387904 ≤ p.lo) && decide (p.hi ≤ 4611686018427387904) then some (.c (.ef (.af 7 0 (.cf e (.ci k .n0))))) else none
    | _, _ => none
  | _ => none
theorem ldexpT_holds {P : Program} (hV : StdV V) {f : Nat} (hl : ∀ (x : Nat) (k : Int) (w : World), x < 18446744073709551616 → -4611686018427387904 ≤ k → k ≤ 4611686018427387904 → Calls P f #[.float .f64 x, .int .i64 k] w fun e w' => e = .returned (.float .f64 (ldexpB x k)) ∧ w = w') : Holds P V f ldexpT := by
  intro args v h ρ vs w hargs
  unfold ldexpT at h
  split at h
  · exact ldexpS_holds hV hl _ v h ρ vs w hargs
  · rename_i x k
    obtain ⟨u1, u2, rfl, hx, hk⟩ := args_two hargs
    have hk : u2 = .int .i64 (evI V k) := hk
    subst hk
    split at h
    · rename_i p e hp he
      cases h1 : (decide (-4611686018427387904 ≤ p.lo) && decide (p.hi ≤ 4611686018427387904)) <;> rw [h1] at h
      · cases h
      · simp only [cond_true, Option.some.injEq] at h
        subst h
        simp only [Bool.and_eq_true, decide_eq_true_eq] at h1
        have ho := linI_ok hV hp
        obtain ⟨y, rfl, hy⟩ := toF_ok he hx
        exact (hl y (evI V k) w hy.2 (Int.le_trans h1.1 ho.lo) (Int.le_trans ho.hi h1.2)).mono fun e' w' ⟨he, hb⟩ => ⟨_, he, ⟨_, rfl, by
          have := ldexp_FR hy (evI V k)
          simpa [evF, evI, evS, hV.f, stdF] using this⟩, by subst hb; exact Go.RowKit.Below.refl _ _⟩
    · cases h
  · cases h
end Go.Proofs.Ytbepaoliboooaaa.Ex
