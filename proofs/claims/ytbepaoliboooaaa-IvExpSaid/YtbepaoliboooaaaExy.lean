/-
  The runner: whole numbers, exactly: numbers made of names by sums, differences, products, each known from where to where it goes.
-/
import Derived.Test.YtbepaoliboooaaaExs
import Derived.Test.YtbepaoliboooaaaMg
namespace Go.Proofs.Ytbepaoliboooaaa
def valOf (x : Nat) : Int := V x
end Go.Proofs.Ytbepaoliboooaaa
namespace Go.Proofs.Ytbepaoliboooaaa.Ex
open Go
open Ieee (double)
variable {V : Val}

/-- Products of names, each so many times; from where to where the whole goes. -/
structure Pol where
  ts : List (List E × Int)
  lo : Int
  hi : Int
  deriving Inhabited

def eraseM (a : E) : List E → Option (List E)
  | [] => none
  | b :: l => if a = b then some l else match eraseM a l with
    | some m => some (b :: m)
    | none => none
def sameM : List E → List E → Bool
  | [], [] => true
  | [], _ :: _ => false
  | a :: l, m => match eraseM a m with
    | some m' => sameM l m'
    | none => false
def prodM (V : Val) : List E → Int
  | [] => 1
  | a :: l => evI V a * prodM V l
def evT (V : Val) : List (List E × Int) → Int
  | [] => 0
  | (a, k) :: l => k * prodM V a + evT V l
def addT (a : List E) (k : Int) : List (List E × Int) → List (List E × Int)
  | [] => [(a, k)]
  | (b, j) :: l => bif sameM a b then (bif decide (j + k = 0) then l else (b, j + k) :: l) else (b, j) :: addT a k l
def addTs : List (List E × Int) → List (List E × Int) → List (List E × Int)
  | [], m => m
  | (a, k) :: l, m => addTs l (addT a k m)
def scT (k : Int) : List (List E × Int) → List (List E × Int)
  | [] => []
  | (a, j) :: l => (a, k * j) :: scT k l
/-- One term times a row of terms, added to what there is. -/
def mulT1 (a : List E) (k : Int) : List (List E × Int) → List (List E × Int) → List (List E × Int)
  | [], acc => acc
  | (b, j) :: l, acc => mulT1 a k l (addT (a ++ b) (k * j) acc)
def mulT : List (List E × Int) → List (List E × Int) → List (List E × Int) → List (List E × Int)
  | [], _, acc => acc
  | (a, k) :: l, m, acc => mulT l m (mulT1 a k m acc)

def Pol.add (p q : Pol) : Pol := ⟨addTs q.ts p.ts, p.lo + q.lo, p.hi + q.hi⟩
def Pol.sc (k : Int) (p : Pol) : Pol := bif decide (k = 0) then ⟨[], 0, 0⟩ else bif decide (0 ≤ k) then ⟨scT k p.ts, k * p.lo, k * p.hi⟩ else ⟨scT k p.ts, k * p.hi, k * p.lo⟩
def Pol.sub (p q : Pol) : Pol := p.add (q.sc (-1))
def Pol.mul (p q : Pol) : Pol := ⟨mulT p.ts q.ts [], min (min (p.lo * q.lo) (p.lo * q.hi)) (min (p.hi * q.lo) (p.hi * q.hi)), max (max (p.lo * q.lo) (p.lo * q.hi)) (max (p.hi * q.lo) (p.hi * q.hi))⟩
def Pol.lit (n : Int) : Pol := ⟨bif decide (n = 0) then [] else [([], n)], n, n⟩
/-- One or the other. -/
def Pol.ite (c : E) (p q : Pol) : Pol := ⟨addTs q.ts (mulT1 [.ti c (.li 1) (.li 0)] 1 (p.sub q).ts []), min p.lo q.lo, max p.hi q.hi⟩
def Pol.chk (b : Int) (p : Pol) : Bool := decide (-b ≤ p.lo) && decide (p.hi ≤ b)
def Pol.in62 (p : Pol) : Option Pol := bif p.chk 4611686018427387904 then some p else none

structure Pol.OK (V : Val) (p : Pol) (x : Int) : Prop where
  eq : x = evT V p.ts
  lo : p.lo ≤ x
  hi : x ≤ p.hi

theorem eraseM_ok {a : E} : ∀ {l m : List E}, eraseM a l = some m → prodM V l = evI V a * prodM V m
  | [], _, h => by cases h
  | b :: l, m, h => by
    unfold eraseM at h
    split at h
    · rename_i e; subst e; simp only [Option.some.injEq] at h; subst h; rfl
    · split at h
      · rename_i m' hm
        simp only [Option.some.injEq] at h; subst h
        simp only [prodM, eraseM_ok hm]
        rw [← Int.mul_assoc, Int.mul_comm (evI V b), Int.mul_assoc]
      · cases h
theorem sameM_ok : ∀ {l m : List E}, sameM l m = true → prodM V l = prodM V m
  | [], [], _ => rfl
  | [], _ :: _, h => by cases h
  | a :: l, m, h => by
    unfold sameM at h
    split at h
    · rename_i m' hm
      rw [eraseM_ok hm, prodM, sameM_ok h]
    · cases h
theorem prodM_append : ∀ (l m : List E), prodM V (l ++ m) = prodM V l * prodM V m
  | [], m => by simp [prodM]
  | a :: l, m => by rw [List.cons_append, prodM, prodM, prodM_append l m, Int.mul_assoc]
theorem addT_ok (a : List E) (k : Int) : ∀ l, evT V (addT a k l) = k * prodM V a + evT V l
  | [] => rfl
  | (b, j) :: l => by
    unfold addT
    cases h : sameM a b
    · simp only [cond_false, evT, addT_ok a k l]; omega
    · have hs := sameM_ok (V := V) h
      cases hj : decide (j + k = 0)
      · simp only [cond_true, cond_false, evT, Int.add_mul, hs]; omega
      · have := of_decide_eq_true hj
        simp only [cond_true, evT, hs]
        have e : j * prodM V b + k * prodM V b = 0 := by rw [← Int.add_mul, this, Int.zero_mul]
        omega
theorem addTs_ok : ∀ (l m : List (List E × Int)), evT V (addTs l m) = evT V l + evT V m
  | [], m => by simp [addTs, evT]
  | (a, k) :: l, m => by rw [addTs, addTs_ok l, addT_ok]; simp only [evT]; omega
theorem scT_ok (k : Int) : ∀ l, evT V (scT k l) = k * evT V l
  | [] => by simp [scT, evT]
  | (a, j) :: l => by simp only [scT, evT, scT_ok k l, Int.mul_add, Int.mul_assoc]
theorem mulT1_ok (a : List E) (k : Int) : ∀ l acc, evT V (mulT1 a k l acc) = k * prodM V a * evT V l + evT V acc
  | [], acc => by simp [mulT1, evT]
  | (b, j) :: l, acc => by
    rw [mulT1, mulT1_ok a k l, addT_ok, prodM_append]
    simp only [evT, Int.mul_add]
    have : k * j * (prodM V a * prodM V b) = k * prodM V a * (j * prodM V b) := by
      rw [Int.mul_assoc, Int.mul_assoc, ← Int.mul_assoc j, Int.mul_comm j, Int.mul_assoc]
    rw [this]; omega
theorem mulT_ok : ∀ l m acc, evT V (mulT l m acc) = evT V l * evT V m + evT V acc
  | [], m, acc => by simp [mulT, evT]
  | (a, k) :: l, m, acc => by rw [mulT, mulT_ok l, mulT1_ok]; simp only [evT, Int.add_mul]; omega

theorem Pol.OK.add {p q : Pol} {x y : Int} (h : p.OK V x) (g : q.OK V y) : (p.add q).OK V (x + y) :=
  ⟨by simp only [Pol.add, addTs_ok, h.eq, g.eq]; omega, by have := h.lo; have := g.lo; simp only [Pol.add]; omega, by have := h.hi; have := g.hi; simp only [Pol.add]; omega⟩
theorem Pol.OK.sc {p : Pol} {x : Int} (h : p.OK V x) (k : Int) : (p.sc k).OK V (k * x) := by
  unfold Pol.sc
  cases h0 : decide (k = 0)
  · simp only [cond_false]
    have hk0 := of_decide_eq_false h0
    cases h1 : decide (0 ≤ k)
    · have hk : k ≤ 0 := by have := of_decide_eq_false h1; omega
      simp only [cond_false]
      exact ⟨by simp only [scT_ok, h.eq], Int.mul_le_mul_of_nonpos_left hk h.hi, Int.mul_le_mul_of_nonpos_left hk h.lo⟩
    · have hk := of_decide_eq_true h1
      simp only [cond_true]
      exact ⟨by simp only [scT_ok, h.eq], Int.mul_le_mul_of_nonneg_left h.lo hk, Int.mul_le_mul_of_nonneg_left h.hi hk⟩
  · have := of_decide_eq_true h0
    subst this
    simp only [cond_true, Int.zero_mul]
    exact ⟨by simp [evT], Int.le_refl _, Int.le_refl _⟩
theorem Pol.OK.sub {p q : Pol} {x y : Int} (h : p.OK V x) (g : q.OK V y) : (p.sub q).OK V (x - y) := by
  have := h.add (g.sc (-1))
  rw [show x + -1 * y = x - y by omega] at this
  exact this
theorem mul_between {a b c d x y : Int} (h1 : a ≤ x) (h2 : x ≤ b) (h3 : c ≤ y) (h4 : y ≤ d) :
    min (min (a * c) (a * d)) (min (b * c) (b * d)) ≤ x * y ∧ x * y ≤ max (max (a * c) (a * d)) (max (b * c) (b * d)) := by
  have lo : ∀ z, min (z * c) (z * d) ≤ z * y ∧ z * y ≤ max (z * c) (z * d) := fun z => by
    rcases Int.le_total 0 z with hz | hz
    · have e1 := Int.mul_le_mul_of_nonneg_left h3 hz
      have e2 := Int.mul_le_mul_of_nonneg_left h4 hz
      omega
    · have e1 := Int.mul_le_mul_of_nonpos_left hz h3
      have e2 := Int.mul_le_mul_of_nonpos_left hz h4
      omega
  have la := lo a
  have lb := lo b
  rcases Int.le_total 0 y with hy | hy
  · have e1 := Int.mul_le_mul_of_nonneg_right h1 hy
    have e2 := Int.mul_le_mul_of_nonneg_right h2 hy
    omega
  · have e1 := Int.mul_le_mul_of_nonpos_right h1 hy
    have e2 := Int.mul_le_mul_of_nonpos_right h2 hy
    omega
theorem Pol.OK.mul {p q : Pol} {x y : Int} (h : p.OK V x) (g : q.OK V y) : (p.mul q).OK V (x * y) := by
  have hb := mul_between h.lo h.hi g.lo g.hi
  exact ⟨by simp only [Pol.mul, mulT_ok, h.eq, g.eq, evT]; omega, hb.1, hb.2⟩
theorem Pol.OK.lit (n : Int) : (Pol.lit n).OK V n := by
  refine ⟨?_, Int.le_refl _, Int.le_refl _⟩
  unfold Pol.lit
  cases h : decide (n = 0)
  · simp [evT, prodM]
  · have := of_decide_eq_true h; subst this; simp [evT]
theorem Pol.OK.ite {p q : Pol} {x y : Int} (c : E) (h : p.OK V x) (g : q.OK V y) : (Pol.ite c p q).OK V (bif evB V c then x else y) := by
  have hd := (h.sub g).eq
  have := h.lo; have := h.hi; have := g.lo; have := g.hi
  have e : evT V (Pol.ite c p q).ts = (bif evB V c then 1 else 0) * (x - y) + y := by
    unfold Pol.ite
    simp only [addTs_ok, mulT1_ok, ← hd, ← g.eq, evT, prodM, evI, Int.one_mul, Int.mul_one, Int.add_zero]
    omega
  refine ⟨?_, ?_, ?_⟩
  · rw [e]; cases evB V c <;> simp only [cond_true, cond_false] <;> omega
  · simp only [Pol.ite]; cases evB V c <;> simp only [cond_true, cond_false] <;> omega
  · simp only [Pol.ite]; cases evB V c <;> simp only [cond_true, cond_false] <;> omega
theorem in62_ok {p r : Pol} (h : p.in62 = some r) : r = p ∧ -4611686018427387904 ≤ p.lo ∧ p.hi ≤ 4611686018427387904 := by
  unfold Pol.in62 at h
  cases hc : p.chk 4611686018427387904 <;> rw [hc] at h
  · cases h
  · simp only [cond_true, Option.some.injEq] at h
    unfold Pol.chk at hc
    simp only [Bool.and_eq_true, decide_eq_true_eq] at hc
    exact ⟨h.symm, hc.1, hc.2⟩
theorem wrap_in {x : Int} (h1 : -4611686018427387904 ≤ x) (h2 : x ≤ 4611686018427387904) : wrapF .i64 x = x := by
  unfold wrapF
  rw [decide_eq_true (by omega : -9223372036854775808 ≤ x), decide_eq_true (by omega : x < 9223372036854775808)]
  rfl

/-- Both, if there are both. -/
def opt2 {α β γ : Type} (f : α → β → Option γ) : Option α → Option β → Option γ
  | some a, some b => f a b
  | _, _ => none
theorem opt2_ok {α β γ : Type} {f : α → β → Option γ} {a : Option α} {b : Option β} {c : γ} (h : opt2 f a b = some c) : ∃ x y, a = some x ∧ b = some y ∧ f x y = some c := by
  unfold opt2 at h
  split at h
  · exact ⟨_, _, rfl, rfl, h⟩
  · cases h

def linI : E → Option Pol
  | .li n => some (Pol.lit n)
  | .ai 9 j args => match args with
    | .ci a (.ci (.li n) .n0) => bif decide (1 ≤ n) && Nat.beq j 0 then some ⟨[([.ai 9 0 (.ci a (.ci (.li n) .n0))], 1)], 0, n - 1⟩ else none
    | _ => none
  | .ti c a b => opt2 (fun p q => some (Pol.ite c p q)) (linI a) (linI b)
  | .ib .add .i64 a b => opt2 (fun p q => (p.add q).in62) (linI a) (linI b)
  | .ib .sub .i64 a b => opt2 (fun p q => (p.sub q).in62) (linI a) (linI b)
  | .ib .mul .i64 a b => opt2 (fun p q => (p.mul q).in62) (linI a) (linI b)
  | .iw .i64 a => (linI a).bind Pol.in62
  | _ => none

theorem linI_ok (hV : StdV V) : ∀ {e : E} {p : Pol}, linI e = some p → p.OK V (evI V e) := by
  intro e
  induction e with
  | li n => intro p h; simp only [linI, Option.some.injEq] at h; subst h; exact Pol.OK.lit n
  | ai f j args ih =>
    intro p h
    clear ih
    unfold linI at h
    split at h <;> rename_i heq <;> (try (cases heq; done))
    · cases heq
      split at h
      · rename_i a n
        cases hc : (decide (1 ≤ n) && Nat.beq j 0) <;> rw [hc] at h
        · cases h
        · simp only [cond_true, Option.some.injEq] at h
          subst h
          simp only [Bool.and_eq_true, decide_eq_true_eq] at hc
          obtain ⟨hn, hj⟩ := hc
          have hj := Nat.eq_of_beq_eq_true hj
          subst hj
          have h1 := Int.emod_nonneg (evI V a) (show n ≠ 0 by omega)
          have h2 := Int.emod_lt_of_pos (evI V a) (show 0 < n by omega)
          have hv : evI V (.ai 9 0 (.ci a (.ci (.li n) .n0))) = evI V a % n := by simp [evI, evS, hV.i, stdI]
          refine ⟨by simp [evT, prodM], ?_, ?_⟩ <;> rw [hv] <;> simp only <;> omega
      · cases h
    · cases h
  | ti c a b _ iha ihb =>
    intro p h
    unfold linI at h
    obtain ⟨x, y, h1, h2, h3⟩ := opt2_ok h
    simp only [Option.some.injEq] at h3
    subst h3
    exact Pol.OK.ite c (iha h1) (ihb h2)
  | ib op k a b iha ihb =>
    intro p h
    unfold linI at h
    split at h <;> rename_i heq <;> (try (cases heq; done))
    · cases heq
      obtain ⟨x, y, h1, h2, h3⟩ := opt2_ok h
      obtain ⟨rfl, l1, l2⟩ := in62_ok h3
      have := (iha h1).add (ihb h2)
      have hv : evI V (.ib .add .i64 a b) = evI V a + evI V b := by
        simp only [evI, ibV]
        exact wrap_in (Int.le_trans l1 this.lo) (Int.le_trans this.hi l2)
      rw [hv]; exact this
    · cases heq
      obtain ⟨x, y, h1, h2, h3⟩ := opt2_ok h
      obtain ⟨rfl, l1, l2⟩ := in62_ok h3
      have := (iha h1).sub (ihb h2)
      have hv : evI V (.ib .sub .i64 a b) = evI V a - evI V b := by
        simp only [evI, ibV]
        exact wrap_in (Int.le_trans l1 this.lo) (Int.le_trans this.hi l2)
      rw [hv]; exact this
    · cases heq
      obtain ⟨x, y, h1, h2, h3⟩ := opt2_ok h
      obtain ⟨rfl, l1, l2⟩ := in62_ok h3
      have := (iha h1).mul (ihb h2)
      have hv : evI V (.ib .mul .i64 a b) = evI V a * evI V b := by
        simp only [evI, ibV]
        exact wrap_in (Int.le_trans l1 this.lo) (Int.le_trans this.hi l2)
      rw [hv]; exact this
    · cases h
  | iw k a iha =>
    intro p h
    unfold linI at h
    split at h <;> rename_i heq <;> (try (cases heq; done))
    · cases heq
      cases ha : linI a with
      | none => rw [ha] at h; cases h
      | some q =>
        rw [ha] at h
        obtain ⟨rfl, l1, l2⟩ := in62_ok (show q.in62 = some p from h)
        have := iha ha
        have hv : evI V (.iw .i64 a) = evI V a := by
          simp only [evI]
          exact wrap_in (Int.le_trans l1 this.lo) (Int.le_trans this.hi l2)
        rw [hv]; exact this
    · cases h
  | _ => intro p h; unfold linI at h; cases h
end Go.Proofs.Ytbepaoliboooaaa.Ex
