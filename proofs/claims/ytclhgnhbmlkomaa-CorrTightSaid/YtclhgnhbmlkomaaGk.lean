/-
  The runner beside Go's machine: contracts by name, of numbers that are not known; slices that are handed in.
  The runner: whole numbers, exactly: numbers made of names by sums, differences, products, each known from where to where it goes.
  The runner: floats that are whole numbers times a power of two, exactly.
-/
import Derived.Test.YtclhgnhbmlkomaaGi
import Derived.Test.YtclhgnhbmlkomaaGj
import Derived.Test.YtclhgnhbmlkomaaGc
namespace Go.Proofs.Ytclhgnhbmlkomaa.Ex
open Go
variable {P : Program} {V : Val}

/-- What the names of functions stand for. -/
def stdI : Nat → Nat → List Sc → Int
  | 9, _, [.i a, .i n] => a % n
  | _, _, _ => 0
def stdF : Nat → Nat → List Sc → Nat
  | 7, _, [.f x, .i k] => ldexpB (canon x) k
  | 10, _, [.f x] => canon x % p63
  | 11, _, [.f x] => upB (canon x)
  | 12, _, [.f x] => downB (canon x)
  | _, _, _ => 0
def stdB : Nat → Nat → List Sc → Bool
  | 8, _, [.f a, .f b] => sameB a b
  | _, _, _ => false
structure StdV (V : Val) : Prop where
  i : ∀ j i args, j < 20 → V.fi j i args = stdI j i args
  f : ∀ j i args, j < 20 → V.ff j i args = stdF j i args
  b : ∀ j i args, j < 20 → V.fb j i args = stdB j i args
def stdV (i : Nat → Int) (f : Nat → Nat) (arr : Nat → Array Value) : Val := ⟨i, f, fun _ => false, stdI, stdF, stdB, arr⟩
theorem stdV_ok (i : Nat → Int) (f : Nat → Nat) (arr : Nat → Array Value) : StdV (stdV i f arr) := ⟨fun _ _ _ _ => rfl, fun _ _ _ _ => rfl, fun _ _ _ _ => rfl⟩

def withinS (t : Tab) : List SV → Option SV
  | [.c (.i .i64 a), .c (.i .i64 n)] => bif decide (1 ≤ n) && decide (n ≤ 9223372036854775807) then some (.c (.i .i64 (a % n))) else none
  | [.c (.ei .i64 e), .c (.i .i64 n)] => bif decide (1 ≤ n) && decide (n ≤ 9223372036854775807) then
      match (match e with | .vi j => t.look j n | _ => none) with
      | some c => some (.c (.i .i64 c))
      | none => some (.c (.ei .i64 (.ai 9 0 (.ci e (.ci (.li n) .n0)))))
    else none
  | _ => none
theorem withinS_holds (hV : StdV V) {f : Nat} (hw : ∀ (a n : Int) (w : World), 1 ≤ n → n ≤ 9223372036854775807 → Calls P f #[.int .i64 a, .int .i64 n] w fun e w' => e = .returned (.int .i64 (a % n)) ∧ Go.RowKit.Below w.heap.size w w') {t : Tab} (ht : TabOK V t) : Holds P V f (withinS t) := by
  intro args v h ρ vs w hargs
  unfold withinS at h
  split at h
  · rename_i a n
    cases hc : (decide (1 ≤ n) && decide (n ≤ 9223372036854775807)) <;> rw [hc] at h
    · cases h
    · simp only [cond_true, Option.some.injEq] at h
      subst h
      simp only [Bool.and_eq_true, decide_eq_true_eq] at hc
      obtain ⟨u1, u2, rfl, h1, h2⟩ := args_two hargs
      have h1 : u1 = .int .i64 a := h1
      have h2 : u2 = .int .i64 n := h2
      subst h1; subst h2
      exact (hw a n w hc.1 hc.2).mono fun e w' ⟨he, hb⟩ => ⟨_, he, rfl, hb⟩
  · rename_i e n
    cases hc : (decide (1 ≤ n) && decide (n ≤ 9223372036854775807)) <;> rw [hc] at h
    · cases h
    · simp only [cond_true] at h
      simp only [Bool.and_eq_true, decide_eq_true_eq] at hc
      obtain ⟨u1, u2, rfl, h1, h2⟩ := args_two hargs
      have h1 : u1 = .int .i64 (evI V e) := h1
      have h2 : u2 = .int .i64 n := h2
      subst h1; subst h2
      split at h
      · rename_i c hl
        simp only [Option.some.injEq] at h
        subst h
        split at hl
        · rename_i j
          exact (hw _ n w hc.1 hc.2).mono fun e w' ⟨he, hb⟩ => ⟨_, he, by
            have := look_tab ht hl
            show Value.int .i64 (evI V (.vi j) % n) = .int .i64 c
            rw [← this]; rfl, hb⟩
        · cases hl
      · simp only [Option.some.injEq] at h
        subst h
        exact (hw _ n w hc.1 hc.2).mono fun e' w' ⟨he, hb⟩ => ⟨_, he, by
          show Value.int .i64 (evI V e % n) = .int .i64 (evI V (.ai 9 0 (.ci e (.ci (.li n) .n0))))
          simp [evI, evS, hV.i, stdI], hb⟩
  · cases h

theorem sameB_FR {x y x' y' : Nat} (h : FR x x') (g : FR y y') : sameB x y = sameB x' y' := by
  unfold sameB; rw [eqB_FR h g, h.nan, g.nan]
theorem sameB_self (x : Nat) : sameB x x = true := by
  unfold sameB
  cases h : isN x
  · have : eqB x x = true := by rw [eqB_self, h]; rfl
    rw [this]; rfl
  · simp
def sameF : List SV → Option SV
  | [.c x, .c y] => match x.toF, y.toF with
    | some a, some b => if a = b then some (.c (.b true)) else match a, b with
      | .lf a, .lf b => some (.c (.b (sameB a b)))
      | a, b => some (.c (.eb (.ab 8 0 (.cf a (.cf b .n0)))))
    | _, _ => none
  | _ => none
theorem same_holds (hV : StdV V) {f : Nat} (hw : ∀ (a b : Nat) (w : World), Calls P f #[.float .f64 a, .float .f64 b] w fun e w' => e = .returned (.bool (sameB a b)) ∧ w = w') : Holds P V f sameF := by
  intro args v h ρ vs w hargs
  unfold sameF at h
  split at h
  · rename_i x y
    obtain ⟨u1, u2, rfl, h1, h2⟩ := args_two hargs
    split at h
    · rename_i a b ha hb
      obtain ⟨x', rfl, hx⟩ := toF_ok ha h1
      obtain ⟨y', rfl, hy⟩ := toF_ok hb h2
      have hs := sameB_FR hx hy
      have main : ∀ v, VR V ρ v (.bool (sameB (evF V a) (evF V b))) → Calls P f #[.float .f64 x', .float .f64 y'] w fun e w' => ∃ rv, e = .returned rv ∧ VR V ρ v rv ∧ Go.RowKit.Below w.heap.size w w' := fun v hv =>
        (hw x' y' w).mono fun e w' ⟨he, hb⟩ => ⟨_, he, by rw [← hs]; exact hv, by subst hb; exact Go.RowKit.Below.refl _ _⟩
      split at h
      · rename_i hab
        simp only [Option.some.injEq] at h
        subst h; subst hab
        exact main _ (by rw [sameB_self]; rfl)
      · split at h
        · simp only [Option.some.injEq] at h
          subst h
          exact main _ rfl
        · simp only [Option.some.injEq] at h
          subst h
          exact main _ (by simp [VR, CR, evB, evS, hV.b, stdB])
    · cases h
  · cases h

/-- Ldexp, of any number. -/
def ldexpS : List SV → Option SV
  | [.c x, .c (.i .i64 k)] => bif decide (-4611686018427387904 ≤ k) && decide (k ≤ 4611686018427387904) then
      match x.toF with
      | some (.lf x) => some (.c (.f (ldexpB (canon x) k)))
      | some e => some (.c (.ef (.af 7 0 (.cf e (.ci (.li k) .n0)))))
      | none => none
    else none
  | _ => none
theorem ldexpS_holds (hV : StdV V) {f : Nat} (hl : ∀ (x : Nat) (k : Int) (w : World), x < 18446744073709551616 → -4611686018427387904 ≤ k → k ≤ 4611686018427387904 → Calls P f #[.float .f64 x, .int .i64 k] w fun e w' => e = .returned (.float .f64 (ldexpB x k)) ∧ w = w') : Holds P V f ldexpS := by
  intro args v h ρ vs w hargs
  unfold ldexpS at h
  split at h
  · rename_i x k
    obtain ⟨u1, u2, rfl, hx, hk⟩ := args_two hargs
    have hk : u2 = .int .i64 k := hk
    subst hk
    cases h1 : (decide (-4611686018427387904 ≤ k) && decide (k ≤ 4611686018427387904)) <;> rw [h1] at h
    · cases h
    · simp only [cond_true] at h
      simp only [Bool.and_eq_true, decide_eq_true_eq] at h1
      split at h
      · rename_i x' he
        simp only [Option.some.injEq] at h
        subst h
        obtain ⟨y, rfl, hy⟩ := toF_ok he hx
        exact (hl y k w hy.2 h1.1 h1.2).mono fun e w' ⟨he, hb⟩ => ⟨_, he, ⟨_, rfl, ldexp_FR hy k⟩, by subst hb; exact Go.RowKit.Below.refl _ _⟩
      · rename_i e _ he
        simp only [Option.some.injEq] at h
        subst h
        obtain ⟨y, rfl, hy⟩ := toF_ok he hx
        exact (hl y k w hy.2 h1.1 h1.2).mono fun e' w' ⟨he, hb⟩ => ⟨_, he, ⟨_, rfl, by
          have := ldexp_FR hy k
          simpa [evF, evI, evS, hV.f, stdF] using this⟩, by subst hb; exact Go.RowKit.Below.refl _ _⟩
      · cases h
  · cases h

/-- A function of one float, by its number. -/
def un1 (j : Nat) (G : Nat → Nat) : List SV → Option SV
  | [.c x] => match x.toF with
    | some (.lf x) => some (.c (.f (G x)))
    | some e => some (.c (.ef (.af j 0 (.cf e .n0))))
    | none => none
  | _ => none
theorem un1_holds (hV : StdV V) {f j : Nat} (hj : j < 20) {G H : Nat → Nat} (hst : ∀ x, stdF j 0 [.f x] = G x) (hGH : ∀ x y, FR x y → FR (G x) (H y)) (hl : ∀ (x : Nat) (w : World), x < 18446744073709551616 → Calls P f #[.float .f64 x] w fun e w' => e = .returned (.float .f64 (H x)) ∧ w = w') : Holds P V f (un1 j G) := by
  intro args v h ρ vs w hargs
  unfold un1 at h
  split at h
  · rename_i x
    obtain ⟨u1, rfl, hx⟩ := args_one hargs
    split at h
    · rename_i x' he
      simp only [Option.some.injEq] at h
      subst h
      obtain ⟨y, rfl, hy⟩ := toF_ok he hx
      exact (hl y w hy.2).mono fun e w' ⟨he, hb⟩ => ⟨_, he, ⟨_, rfl, hGH _ _ hy⟩, by subst hb; exact Go.RowKit.Below.refl _ _⟩
    · rename_i e _ he
      simp only [Option.some.injEq] at h
      subst h
      obtain ⟨y, rfl, hy⟩ := toF_ok he hx
      exact (hl y w hy.2).mono fun e' w' ⟨he, hb⟩ => ⟨_, he, ⟨_, rfl, by
        have := hGH _ _ hy
        simpa [evF, evS, hV.f _ _ _ hj, hst] using this⟩, by subst hb; exact Go.RowKit.Below.refl _ _⟩
    · cases h
  · cases h
def absS : List SV → Option SV := un1 10 fun x => canon x % p63
theorem absS_holds (hV : StdV V) {f : Nat} (hw : ∀ (x : Nat) (w : World), x < 18446744073709551616 → Calls P f #[.float .f64 x] w fun e w' => e = .returned (.float .f64 (x % 9223372036854775808)) ∧ w = w') : Holds P V f absS :=
  un1_holds hV (by decide) (fun _ => rfl) (fun _ _ h => abs_FR h) hw
/-- Nextafter, to either infinity. -/
def nextS : List SV → Option SV
  | [x, .c (.f y)] => bif Nat.beq y 9218868437227405312 then un1 11 (fun x => upB (canon x)) [x] else bif Nat.beq y 18442240474082181120 then un1 12 (fun x => downB (canon x)) [x] else none
  | _ => none
theorem un1_two (hV : StdV V) {f j z : Nat} (hj : j < 20) {G H : Nat → Nat} (hz : isN z = false) (hst : ∀ x, stdF j 0 [.f x] = G x) (hGH : ∀ x y, FR x y → FR (G x) (H y)) (hl : ∀ (x : Nat) (w : World), x < 18446744073709551616 → Calls P f #[.float .f64 x, .float .f64 z] w fun e w' => e = .returned (.float .f64 (H x)) ∧ w = w')
    {x v : SV} (h : un1 j G [x] = some v) {ρ : Rho} {vs : Array Value} {w : World} (hargs : All2 (VR V ρ) [x, .c (.f z)] vs.toList) : Calls P f vs w fun e w' => ∃ rv, e = .returned rv ∧ VR V ρ v rv ∧ Go.RowKit.Below w.heap.size w w' := by
  obtain ⟨u1, u2, rfl, hx, ⟨z', rfl, h2⟩⟩ := args_two hargs
  have := h2.known hz
  subst this
  unfold un1 at h
  split at h
  · rename_i x hh
    simp only [List.cons.injEq, and_true] at hh
    subst hh
    split at h
    · rename_i x' he
      simp only [Option.some.injEq] at h
      subst h
      obtain ⟨y, rfl, hy⟩ := toF_ok he hx
      exact (hl y w hy.2).mono fun e w' ⟨he, hb⟩ => ⟨_, he, ⟨_, rfl, hGH _ _ hy⟩, by subst hb; exact Go.RowKit.Below.refl _ _⟩
    · rename_i e _ he
      simp only [Option.some.injEq] at h
      subst h
      obtain ⟨y, rfl, hy⟩ := toF_ok he hx
      exact (hl y w hy.2).mono fun e' w' ⟨he, hb⟩ => ⟨_, he, ⟨_, rfl, by
        have := hGH _ _ hy
        simpa [evF, evS, hV.f _ _ _ hj, hst] using this⟩, by subst hb; exact Go.RowKit.Below.refl _ _⟩
    · cases h
  · cases h
theorem nextS_holds (hV : StdV V) {f : Nat} (hup : ∀ (x : Nat) (w : World), x < 18446744073709551616 → Calls P f #[.float .f64 x, .float .f64 9218868437227405312] w fun e w' => e = .returned (.float .f64 (upB x)) ∧ w = w')
    (hdown : ∀ (x : Nat) (w : World), x < 18446744073709551616 → Calls P f #[.float .f64 x, .float .f64 18442240474082181120] w fun e w' => e = .returned (.float .f64 (downB x)) ∧ w = w') : Holds P V f nextS := by
  intro args v h ρ vs w hargs
  unfold nextS at h
  split at h
  · rename_i x y
    cases h1 : Nat.beq y 9218868437227405312 <;> rw [h1] at h
    · cases h2 : Nat.beq y 18442240474082181120 <;> rw [h2] at h
      · cases h
      · simp only [cond_false, cond_true] at h
        have := Nat.eq_of_beq_eq_true h2
        subst this
        exact un1_two (j := 12) (G := fun x => downB (canon x)) (H := downB) hV (by decide) (by decide) (fun _ => rfl) (fun _ _ h => down_FR h) hdown h hargs
    · simp only [cond_true] at h
      have := Nat.eq_of_beq_eq_true h1
      subst this
      exact un1_two (j := 11) (G := fun x => upB (canon x)) (H := upB) hV (by decide) (by decide) (fun _ => rfl) (fun _ _ h => up_FR h) hup h hargs
  · cases h

/-! ### Slices that are handed in -/
/-- Of a slice of whole numbers that was handed in: none, or one that lies there. -/
def intsArr (zs : List Int) : Array Value := (zs.map fun n => Value.int .i64 n).toArray
end Go.Proofs.Ytclhgnhbmlkomaa.Ex

namespace Go.Proofs.Ytclhgnhbmlkomaa
def valOf (x : Nat) : Int := V x
end Go.Proofs.Ytclhgnhbmlkomaa
namespace Go.Proofs.Ytclhgnhbmlkomaa.Ex
open Go
open Ieee (double)
variable {V : Val}

/-- Products of names, each so many times; from where to where the whole goes. -/
structure Pol where
  ts : List (List E × Int)
  lo : Int
  hi : Int
  deriving Inhabited

def eraseM (a : E) : List E → Option (List E)
  | [] => none
  | b :: l => if a = b then some l else match eraseM a l with
    | some m => some (b :: m)
    | none => none
def sameM : List E → List E → Bool
  | [], [] => true
  | [], _ :: _ => false
  | a :: l, m => match eraseM a m with
    | some m' => sameM l m'
    | none => false
def prodM (V : Val) : List E → Int
  | [] => 1
  | a :: l => evI V a * prodM V l
def evT (V : Val) : List (List E × Int) → Int
  | [] => 0
  | (a, k) :: l => k * prodM V a + evT V l
def addT (a : List E) (k : Int) : List (List E × Int) → List (List E × Int)
  | [] => [(a, k)]
  | (b, j) :: l => bif sameM a b then (bif decide (j + k = 0) then l else (b, j + k) :: l) else (b, j) :: addT a k l
def addTs : List (List E × Int) → List (List E × Int) → List (List E × Int)
  | [], m => m
  | (a, k) :: l, m => addTs l (addT a k m)
def scT (k : Int) : List (List E × Int) → List (List E × Int)
  | [] => []
  | (a, j) :: l => (a, k * j) :: scT k l
/-- One term times a row of terms, added to what there is. -/
def mulT1 (a : List E) (k : Int) : List (List E × Int) → List (List E × Int) → List (List E × Int)
  | [], acc => acc
  | (b, j) :: l, acc => mulT1 a k l (addT (a ++ b) (k * j) acc)
def mulT : List (List E × Int) → List (List E × Int) → List (List E × Int) → List (List E × Int)
  | [], _, acc => acc
  | (a, k) :: l, m, acc => mulT l m (mulT1 a k m acc)

def Pol.add (p q : Pol) : Pol := ⟨addTs q.ts p.ts, p.lo + q.lo, p.hi + q.hi⟩
def Pol.sc (k : Int) (p : Pol) : Pol := bif decide (k = 0) then ⟨[], 0, 0⟩ else bif decide (0 ≤ k) then ⟨scT k p.ts, k * p.lo, k * p.hi⟩ else ⟨scT k p.ts, k * p.hi, k * p.lo⟩
def Pol.sub (p q : Pol) : Pol := p.add (q.sc (-1))
def Pol.mul (p q : Pol) : Pol := ⟨mulT p.ts q.ts [], min (min (p.lo * q.lo) (p.lo * q.hi)) (min (p.hi * q.lo) (p.hi * q.hi)), max (max (p.lo * q.lo) (p.lo * q.hi)) (max (p.hi * q.lo) (p.hi * q.hi))⟩
def Pol.lit (n : Int) : Pol := ⟨bif decide (n = 0) then [] else [([], n)], n, n⟩
/-- One or the other. -/
def Pol.ite (c : E) (p q : Pol) : Pol := ⟨addTs q.ts (mulT1 [.ti c (.li 1) (.li 0)] 1 (p.sub q).ts []), min p.lo q.lo, max p.hi q.hi⟩
def Pol.chk (b : Int) (p : Pol) : Bool := decide (-b ≤ p.lo) && decide (p.hi ≤ b)
def Pol.in62 (p : Pol) : Option Pol := bif p.chk 4611686018427387904 then some p else none

structure Pol.OK (V : Val) (p : Pol) (x : Int) : Prop where
  eq : x = evT V p.ts
  lo : p.lo ≤ x
  hi : x ≤ p.hi

theorem eraseM_ok {a : E} : ∀ {l m : List E}, eraseM a l = some m → prodM V l = evI V a * prodM V m
  | [], _, h => by cases h
  | b :: l, m, h => by
    unfold eraseM at h
    split at h
    · rename_i e; subst e; simp only [Option.some.injEq] at h; subst h; rfl
    · split at h
      · rename_i m' hm
        simp only [Option.some.injEq] at h; subst h
        simp only [prodM, eraseM_ok hm]
        rw [← Int.mul_assoc, Int.mul_comm (evI V b), Int.mul_assoc]
      · cases h
theorem sameM_ok : ∀ {l m : List E}, sameM l m = true → prodM V l = prodM V m
  | [], [], _ => rfl
  | [], _ :: _, h => by cases h
  | a :: l, m, h => by
    unfold sameM at h
    split at h
    · rename_i m' hm
      rw [eraseM_ok hm, prodM, sameM_ok h]
    · cases h
theorem prodM_append : ∀ (l m : List E), prodM V (l ++ m) = prodM V l * prodM V m
  | [], m => by simp [prodM]
  | a :: l, m => by rw [List.cons_append, prodM, prodM, prodM_append l m, Int.mul_assoc]
theorem addT_ok (a : List E) (k : Int) : ∀ l, evT V (addT a k l) = k * prodM V a + evT V l
  | [] => rfl
  | (b, j) :: l => by
    unfold addT
    cases h : sameM a b
    · simp only [cond_false, evT, addT_ok a k l]; omega
    · have hs := sameM_ok (V := V) h
      cases hj : decide (j + k = 0)
      · simp only [cond_true, cond_false, evT, Int.add_mul, hs]; omega
      · have := of_decide_eq_true hj
        simp only [cond_true, evT, hs]
        have e : j * prodM V b + k * prodM V b = 0 := by rw [← Int.add_mul, this, Int.zero_mul]
        omega
theorem addTs_ok : ∀ (l m : List (List E × Int)), evT V (addTs l m) = evT V l + evT V m
  | [], m => by simp [addTs, evT]
  | (a, k) :: l, m => by rw [addTs, addTs_ok l, addT_ok]; simp only [evT]; omega
theorem scT_ok (k : Int) : ∀ l, evT V (scT k l) = k * evT V l
  | [] => by simp [scT, evT]
  | (a, j) :: l => by simp only [scT, evT, scT_ok k l, Int.mul_add, Int.mul_assoc]
theorem mulT1_ok (a : List E) (k : Int) : ∀ l acc, evT V (mulT1 a k l acc) = k * prodM V a * evT V l + evT V acc
  | [], acc => by simp [mulT1, evT]
  | (b, j) :: l, acc => by
    rw [mulT1, mulT1_ok a k l, addT_ok, prodM_append]
    simp only [evT, Int.mul_add]
    have : k * j * (prodM V a * prodM V b) = k * prodM V a * (j * prodM V b) := by
      rw [Int.mul_assoc, Int.mul_assoc, ← Int.mul_assoc j, Int.mul_comm j, Int.mul_assoc]
    rw [this]; omega
theorem mulT_ok : ∀ l m acc, evT V (mulT l m acc) = evT V l * evT V m + evT V acc
  | [], m, acc => by simp [mulT, evT]
  | (a, k) :: l, m, acc => by rw [mulT, mulT_ok l, mulT1_ok]; simp only [evT, Int.add_mul]; omega

theorem Pol.OK.add {p q : Pol} {x y : Int} (h : p.OK V x) (g : q.OK V y) : (p.add q).OK V (x + y) :=
  ⟨by simp only [Pol.add, addTs_ok, h.eq, g.eq]; omega, by have := h.lo; have := g.lo; simp only [Pol.add]; omega, by have := h.hi; have := g.hi; simp only [Pol.add]; omega⟩
theorem Pol.OK.sc {p : Pol} {x : Int} (h : p.OK V x) (k : Int) : (p.sc k).OK V (k * x) := by
  unfold Pol.sc
  cases h0 : decide (k = 0)
  · simp only [cond_false]
    have hk0 := of_decide_eq_false h0
    cases h1 : decide (0 ≤ k)
    · have hk : k ≤ 0 := by have := of_decide_eq_false h1; omega
      simp only [cond_false]
      exact ⟨by simp only [scT_ok, h.eq], Int.mul_le_mul_of_nonpos_left hk h.hi, Int.mul_le_mul_of_nonpos_left hk h.lo⟩
    · have hk := of_decide_eq_true h1
      simp only [cond_true]
      exact ⟨by simp only [scT_ok, h.eq], Int.mul_le_mul_of_nonneg_left h.lo hk, Int.mul_le_mul_of_nonneg_left h.hi hk⟩
  · have := of_decide_eq_true h0
    subst this
    simp only [cond_true, Int.zero_mul]
    exact ⟨by simp [evT], Int.le_refl _, Int.le_refl _⟩
theorem Pol.OK.sub {p q : Pol} {x y : Int} (h : p.OK V x) (g : q.OK V y) : (p.sub q).OK V (x - y) := by
  have := h.add (g.sc (-1))
  rw [show x + -1 * y = x - y by omega] at this
  exact this
theorem mul_between {a b c d x y : Int} (h1 : a ≤ x) (h2 : x ≤ b) (h3 : c ≤ y) (h4 : y ≤ d) :
    min (min (a * c) (a * d)) (min (b * c) (b * d)) ≤ x * y ∧ x * y ≤ max (max (a * c) (a * d)) (max (b * c) (b * d)) := by
  have lo : ∀ z, min (z * c) (z * d) ≤ z * y ∧ z * y ≤ max (z * c) (z * d) := fun z => by
    rcases Int.le_total 0 z with hz | hz
    · have e1 := Int.mul_le_mul_of_nonneg_left h3 hz
      have e2 := Int.mul_le_mul_of_nonneg_left h4 hz
      omega
    · have e1 := Int.mul_le_mul_of_nonpos_left hz h3
      have e2 := Int.mul_le_mul_of_nonpos_left hz h4
      omega
  have la := lo a
  have lb := lo b
  rcases Int.le_total 0 y with hy | hy
  · have e1 := Int.mul_le_mul_of_nonneg_right h1 hy
    have e2 := Int.mul_le_mul_of_nonneg_right h2 hy
    omega
  · have e1 := Int.mul_le_mul_of_nonpos_right h1 hy
    have e2 := Int.mul_le_mul_of_nonpos_right h2 hy
    omega
theorem Pol.OK.mul {p q : Pol} {x y : Int} (h : p.OK V x) (g : q.OK V y) : (p.mul q).OK V (x * y) := by
  have hb := mul_between h.lo h.hi g.lo g.hi
  exact ⟨by simp only [Pol.mul, mulT_ok, h.eq, g.eq, evT]; omega, hb.1, hb.2⟩
theorem Pol.OK.lit (n : Int) : (Pol.lit n).OK V n := by
  refine ⟨?_, Int.le_refl _, Int.le_refl _⟩
  unfold Pol.lit
  cases h : decide (n = 0)
  · simp [evT, prodM]
  · have := of_decide_eq_true h; subst this; simp [evT]
theorem Pol.OK.ite {p q : Pol} {x y : Int} (c : E) (h : p.OK V x) (g : q.OK V y) : (Pol.ite c p q).OK V (bif evB V c then x else y) := by
  have hd := (h.sub g).eq
  have := h.lo; have := h.hi; have := g.lo; have := g.hi
  have e : evT V (Pol.ite c p q).ts = (bif evB V c then 1 else 0) * (x - y) + y := by
    unfold Pol.ite
    simp only [addTs_ok, mulT1_ok, ← hd, ← g.eq, evT, prodM, evI, Int.one_mul, Int.mul_one, Int.add_zero]
    omega
  refine ⟨?_, ?_, ?_⟩
  · rw [e]; cases evB V c <;> simp only [cond_true, cond_false] <;> omega
  · simp only [Pol.ite]; cases evB V c <;> simp only [cond_true, cond_false] <;> omega
  · simp only [Pol.ite]; cases evB V c <;> simp only [cond_true, cond_false] <;> omega
theorem in62_ok {p r : Pol} (h : p.in62 = some r) : r = p ∧ -4611686018427387904 ≤ p.lo ∧ p.hi ≤ 4611686018427387904 := by
  unfold Pol.in62 at h
  cases hc : p.chk 4611686018427387904 <;> rw [hc] at h
  · cases h
  · simp only [cond_true, Option.some.injEq] at h
    unfold Pol.chk at hc
    simp only [Bool.and_eq_true, decide_eq_true_eq] at hc
    exact ⟨h.symm, hc.1, hc.2⟩
theorem wrap_in {x : Int} (h1 : -4611686018427387904 ≤ x) (h2 : x ≤ 4611686018427387904) : wrapF .i64 x = x := by
  unfold wrapF
  rw [decide_eq_true (by omega : -9223372036854775808 ≤ x), decide_eq_true (by omega : x < 9223372036854775808)]
  rfl

/-- Both, if there are both. -/
def opt2 {α β γ : Type} (f : α → β → Option γ) : Option α → Option β → Option γ
  | some a, some b => f a b
  | _, _ => none
theorem opt2_ok {α β γ : Type} {f : α → β → Option γ} {a : Option α} {b : Option β} {c : γ} (h : opt2 f a b = some c) : ∃ x y, a = some x ∧ b = some y ∧ f x y = some c := by
  unfold opt2 at h
  split at h
  · exact ⟨_, _, rfl, rfl, h⟩
  · cases h

def linI : E → Option Pol
  | .li n => some (Pol.lit n)
  | .f2i a => some ⟨[([.f2i a], 1)], -1099511627776, 1099511627776⟩
  | .ai 9 j args => match args with
    | .ci a (.ci (.li n) .n0) => bif decide (1 ≤ n) && Nat.beq j 0 then some ⟨[([.ai 9 0 (.ci a (.ci (.li n) .n0))], 1)], 0, n - 1⟩ else none
    | _ => none
  | .ti c a b => opt2 (fun p q => some (Pol.ite c p q)) (linI a) (linI b)
  | .ib .add .i64 a b => opt2 (fun p q => (p.add q).in62) (linI a) (linI b)
  | .ib .sub .i64 a b => opt2 (fun p q => (p.sub q).in62) (linI a) (linI b)
  | .ib .mul .i64 a b => opt2 (fun p q => (p.mul q).in62) (linI a) (linI b)
  | .iw .i64 a => (linI a).bind Pol.in62
  | .iw .u64 a => (linI a).bind fun p => bif decide (0 ≤ p.lo) then p.in62 else none
  | .ib .shl .i64 (.li 1) k => (linI k).bind fun p => bif decide (0 ≤ p.lo) && decide (p.hi ≤ 61) then some ⟨[([.ib .shl .i64 (.li 1) k], 1)], 2 ^ p.lo.toNat, 2 ^ p.hi.toNat⟩ else none
  | _ => none

theorem wrap_u64 {x : Int} (h1 : 0 ≤ x) (h2 : x ≤ 4611686018427387904) : IntKind.wrap .u64 x = x := by
  have : IntKind.wrap .u64 x = x % 18446744073709551616 := rfl
  rw [this]; omega
theorem shl_in {x : Int} (h1 : 0 ≤ x) (h2 : x ≤ 61) : ibV .shl .i64 1 x = 2 ^ x.toNat ∧ (2 : Int) ^ x.toNat ≤ 2305843009213693952 := by
  have hp : (2 : Nat) ^ x.toNat ≤ 2 ^ 61 := Nat.pow_le_pow_right (by decide) (by omega)
  have hc : ((2 : Int) ^ x.toNat) = (((2 : Nat) ^ x.toNat : Nat) : Int) := by simp
  have hb : (2 : Int) ^ x.toNat ≤ 2305843009213693952 := by
    rw [hc]
    have : (2 : Nat) ^ 61 = 2305843009213693952 := by decide
    omega
  refine ⟨?_, hb⟩
  show wrapF .i64 (1 * 2 ^ (min x.toNat 64)) = _
  rw [Nat.min_eq_left (by omega), Int.one_mul]
  exact wrap_in (by rw [hc]; have := Nat.two_pow_pos x.toNat; omega) (by omega)
theorem f2iV_in (x : Nat) : -1099511627776 ≤ f2iV x ∧ f2iV x ≤ 1099511627776 := by
  unfold f2iV
  split
  · rename_i m _
    cases hc : (decide (-1099511627776 ≤ m) && decide (m ≤ 1099511627776))
    · simp
    · simp only [Bool.and_eq_true, decide_eq_true_eq] at hc
      exact hc
  · simp
theorem linI_ok (hV : StdV V) : ∀ {e : E} {p : Pol}, linI e = some p → p.OK V (evI V e) := by
  intro e
  induction e with
  | li n => intro p h; simp only [linI, Option.some.injEq] at h; subst h; exact Pol.OK.lit n
  | f2i a _ =>
    intro p h
    simp only [linI, Option.some.injEq] at h
    subst h
    have := f2iV_in (evF V a)
    exact ⟨by simp [evT, prodM, evI], this.1, this.2⟩
  | ai f j args ih =>
    intro p h
    clear ih
    unfold linI at h
    split at h <;> rename_i heq <;> (try (cases heq; done))
    · cases heq
      split at h
      · rename_i a n
        cases hc : (decide (1 ≤ n) && Nat.beq j 0) <;> rw [hc] at h
        · cases h
        · simp only [cond_true, Option.some.injEq] at h
          subst h
          simp only [Bool.and_eq_true, decide_eq_true_eq] at hc
          obtain ⟨hn, hj⟩ := hc
          have hj := Nat.eq_of_beq_eq_true hj
          subst hj
          have h1 := Int.emod_nonneg (evI V a) (show n ≠ 0 by omega)
          have h2 := Int.emod_lt_of_pos (evI V a) (show 0 < n by omega)
          have hv : evI V (.ai 9 0 (.ci a (.ci (.li n) .n0))) = evI V a % n := by simp [evI, evS, hV.i, stdI]
          refine ⟨by simp [evT, prodM], ?_, ?_⟩ <;> rw [hv] <;> simp only <;> omega
      · cases h
    · cases h
  | ti c a b _ iha ihb =>
    intro p h
    unfold linI at h
    obtain ⟨x, y, h1, h2, h3⟩ := opt2_ok h
    simp only [Option.some.injEq] at h3
    subst h3
    exact Pol.OK.ite c (iha h1) (ihb h2)
  | ib op k a b iha ihb =>
    intro p h
    unfold linI at h
    split at h <;> rename_i heq <;> (try (cases heq; done))
    · cases heq
      obtain ⟨x, y, h1, h2, h3⟩ := opt2_ok h
      obtain ⟨rfl, l1, l2⟩ := in62_ok h3
      have := (iha h1).add (ihb h2)
      have hv : evI V (.ib .add .i64 a b) = evI V a + evI V b := by
        simp only [evI, ibV]
        exact wrap_in (Int.le_trans l1 this.lo) (Int.le_trans this.hi l2)
      rw [hv]; exact this
    · cases heq
      obtain ⟨x, y, h1, h2, h3⟩ := opt2_ok h
      obtain ⟨rfl, l1, l2⟩ := in62_ok h3
      have := (iha h1).sub (ihb h2)
      have hv : evI V (.ib .sub .i64 a b) = evI V a - evI V b := by
        simp only [evI, ibV]
        exact wrap_in (Int.le_trans l1 this.lo) (Int.le_trans this.hi l2)
      rw [hv]; exact this
    · cases heq
      obtain ⟨x, y, h1, h2, h3⟩ := opt2_ok h
      obtain ⟨rfl, l1, l2⟩ := in62_ok h3
      have := (iha h1).mul (ihb h2)
      have hv : evI V (.ib .mul .i64 a b) = evI V a * evI V b := by
        simp only [evI, ibV]
        exact wrap_in (Int.le_trans l1 this.lo) (Int.le_trans this.hi l2)
      rw [hv]; exact this
    · cases heq
      cases hk : linI b with
      | none => rw [hk] at h; cases h
      | some q =>
        rw [hk] at h
        simp only [Option.bind_some] at h
        cases hz : (decide (0 ≤ q.lo) && decide (q.hi ≤ 61)) <;> rw [hz] at h
        · cases h
        · simp only [cond_true, Option.some.injEq] at h
          subst h
          simp only [Bool.and_eq_true, decide_eq_true_eq] at hz
          have ho := ihb hk
          have b1 := ho.lo
          have b2 := ho.hi
          have hv : evI V (.ib .shl .i64 (.li 1) b) = 2 ^ (evI V b).toNat := (shl_in (by omega) (by omega)).1
          have mono : ∀ a b : Nat, a ≤ b → (2 : Int) ^ a ≤ 2 ^ b := fun a b hab => by
            have := Nat.pow_le_pow_right (n := 2) (by decide) hab
            have e : ∀ n : Nat, ((2 : Int) ^ n) = (((2 : Nat) ^ n : Nat) : Int) := fun n => by simp
            rw [e, e]; omega
          refine ⟨by simp [evT, prodM], ?_, ?_⟩ <;> rw [hv] <;> exact mono _ _ (by omega)
    · cases h
  | iw k a iha =>
    intro p h
    unfold linI at h
    split at h <;> rename_i heq <;> (try (cases heq; done))
    · cases heq
      cases ha : linI a with
      | none => rw [ha] at h; cases h
      | some q =>
        rw [ha] at h
        obtain ⟨rfl, l1, l2⟩ := in62_ok (show q.in62 = some p from h)
        have := iha ha
        have hv : evI V (.iw .i64 a) = evI V a := by
          simp only [evI]
          exact wrap_in (Int.le_trans l1 this.lo) (Int.le_trans this.hi l2)
        rw [hv]; exact this
    · cases heq
      cases ha : linI a with
      | none => rw [ha] at h; cases h
      | some q =>
        rw [ha] at h
        simp only [Option.bind_some] at h
        cases hz : decide (0 ≤ q.lo) <;> rw [hz] at h
        · cases h
        · obtain ⟨rfl, l1, l2⟩ := in62_ok (show q.in62 = some p from h)
          have := iha ha
          have hz := of_decide_eq_true hz
          have hv : evI V (.iw .u64 a) = evI V a := by
            have b1 := this.lo
            have b2 := this.hi
            show wrapF .u64 (evI V a) = evI V a
            show (IntKind.u64.wrap (evI V a) : Int) = evI V a
            exact wrap_u64 (by omega) (by omega)
          rw [hv]; exact this
    · cases h
  | _ => intro p h; unfold linI at h; cases h
end Go.Proofs.Ytclhgnhbmlkomaa.Ex

namespace Go.Proofs.Ytclhgnhbmlkomaa.Ex
open Go
open Ieee (double)
variable {V : Val}

def stripE : Nat → Int → Int → Int × Int
  | 0, m, k => (m, k)
  | n + 1, m, k => bif decide (m % 2 = 0) then stripE n (m / 2) (k + 1) else (m, k)
def litTry (x : Nat) (m k : Int) : Option (Pol × Pol) :=
  bif decide (x < 18446744073709551616) && decide (x % p63 < infR) && decide (-1074 ≤ k) && decide (valOf x = m * (2 ^ (k + 1074).toNat : Nat)) && decide (-9007199254740992 ≤ m) && decide (m ≤ 9007199254740992) then some (Pol.lit m, Pol.lit k) else none
def litM (x : Nat) : Int × Int :=
  bif Nat.beq (x % p63) 0 then (0, 0) else stripE 60 (sgd (neg x) (bif Nat.beq (x % p63 / p52) 0 then x % p63 else x % p52 + p52)) (bif Nat.beq (x % p63 / p52) 0 then -1074 else ((x % p63 / p52 : Nat) : Int) - 1075)
def litF (x : Nat) : Option (Pol × Pol) := litTry x (litM x).1 (litM x).2
/-- A number that is known. -/
def cst : List (List E × Int) → Option Int
  | [] => some 0
  | [([], n)] => some n
  | _ => none
def isZ (p : Pol) : Bool := match p.ts with
  | [] => true
  | _ => false
/-- Both with one exponent. -/
def alignL (p k q l : Pol) : Option (Pol × Pol × Pol) :=
  bif isZ q then some (p, Pol.lit 0, k) else bif isZ p then some (Pol.lit 0, q, l) else match cst (l.sub k).ts with
  | some d => bif decide (0 ≤ d) then (bif decide (d ≤ 2200) then some (p, q.sc (2 ^ d.toNat), k) else none)
    else (bif decide (-2200 ≤ d) then some (p.sc (2 ^ (-d).toNat), q, l) else none)
  | none => none
def fit53 (k p : Pol) : Option (Pol × Pol) := bif p.chk 9007199254740992 && decide (-1074 ≤ k.lo) && decide (k.hi ≤ 900) then some (p, k) else none
/-- Each is n times another one. -/
def divT (n : Int) : List (List E × Int) → Option (List (List E × Int))
  | [] => some []
  | (a, j) :: l => bif decide (j % n = 0) then (match divT n l with | some m => some ((a, j / n) :: m) | none => none) else none
/-- What comes out, divided by n (not 0), where it does. -/
def Pol.quo (p : Pol) (n : Int) : Option Pol := match divT n p.ts with
  | some ts => bif decide (1 ≤ n) then some ⟨ts, -((-p.lo) / n), p.hi / n⟩ else none
  | none => none
def quoF (p k q l : Pol) : Option (Pol × Pol) :=
  match q.ts with
  | [([], n)] => bif decide (n = 1) then fit53 (k.sub l) p else match p.quo n with
    | some r => fit53 (k.sub l) r
    | none => none
  | _ => none
def pairF (f : Pol → Pol → Pol → Option (Pol × Pol)) (a b : Pol × Pol) : Option (Pol × Pol) :=
  match alignL a.1 a.2 b.1 b.2 with
  | some (p, q, m) => f p q m
  | none => none
/-- A product: nothing, of nothing and of what is finite. -/
def mulF (fa fb : Bool) : Option (Pol × Pol) → Option (Pol × Pol) → Option (Pol × Pol)
  | some x, some y => fit53 (x.2.add y.2) (x.1.mul y.1)
  | some x, none => bif isZ x.1 && fb then some (Pol.lit 0, Pol.lit 0) else none
  | none, some y => bif isZ y.1 && fa then some (Pol.lit 0, Pol.lit 0) else none
  | none, none => none
/-- Not of a row of what is handed in. -/
def gd {α : Type} (a : E) (r : Option α) : Option α := match a with
  | .cf _ _ => none
  | _ => r
/-- Without its sign. -/
def absP (a : E) (p : Pol) : Pol := ⟨(Pol.ite (.fc .lss a (.lf 0)) (p.sc (-1)) p).ts, 0, max (-p.lo) p.hi⟩
def linF (fin : E → Bool) : E → Option (Pol × Pol)
  | .i2f a => (linI a).bind (fit53 (Pol.lit 0))
  | .lf x => litF x
  | .fb .add a b => opt2 (pairF fun p q m => fit53 m (p.add q)) (gd a (linF fin a)) (gd b (linF fin b))
  | .fb .sub a b => opt2 (pairF fun p q m => fit53 m (p.sub q)) (gd a (linF fin a)) (gd b (linF fin b))
  | .fb .mul a b => mulF (fin a) (fin b) (gd a (linF fin a)) (gd b (linF fin b))
  | .fb .quo a b => opt2 (fun x y => quoF x.1 x.2 y.1 y.2) (gd a (linF fin a)) (gd b (linF fin b))
  | .tf c a b => opt2 (pairF fun p q m => some (Pol.ite c p q, m)) (gd a (linF fin a)) (gd b (linF fin b))
  | .af 7 j args => match linF fin args, args with
    | some (p, k), .cf _ (.ci n .n0) => bif Nat.beq j 0 then (match linI n with
      | some l => fit53 (k.add l) p
      | none => none) else none
    | _, _ => none
  | .af 10 j args => match linF fin args, args with
    | some (p, k), .cf _ .n0 => bif Nat.beq j 0 then (bif decide (0 ≤ p.lo) then some (p, k) else bif decide (p.hi ≤ 0) then some (p.sc (-1), k) else (match args with | .cf a _ => some (absP a p, k) | _ => none)) else none
    | _, _ => none
  | .cf a _ => gd a (linF fin a)
  | _ => none
/-- Of a number: what is known of it beside 0. -/
def cmpL (op : BinOp) (d : Pol) : Option Bool :=
  match d.ts with
  | [] => some (icV op 0 0)
  | [([], n)] => some (icV op n 0)
  | _ => match op with
    | .eql => bif decide (0 < d.lo) || decide (d.hi < 0) then some false else none
    | .neq => bif decide (0 < d.lo) || decide (d.hi < 0) then some true else none
    | .lss => bif decide (d.hi < 0) then some true else bif decide (0 ≤ d.lo) then some false else none
    | .leq => bif decide (d.hi ≤ 0) then some true else bif decide (0 < d.lo) then some false else none
    | .gtr => bif decide (0 < d.lo) then some true else bif decide (d.hi ≤ 0) then some false else none
    | .geq => bif decide (0 ≤ d.lo) then some true else bif decide (d.hi < 0) then some false else none
    | _ => none
def cmpF (fin : E → Bool) (op : BinOp) (a b : E) : Option Bool :=
  opt2 (fun x y => match alignL x.1 x.2 y.1 y.2 with
    | some (p, q, _) => cmpL op (p.sub q)
    | none => none) (gd a (linF fin a)) (gd b (linF fin b))
/-- Known to be finite. -/
def finOf (l : List (E × Bool)) (e : E) : Bool := match lookE l (.fc .eql (.fb .sub e e) (.lf 0)) with
  | some true => true
  | _ => false
def exactDec (fin : E → Bool) : E → Option Bool
  | .fc op a b => cmpF fin op a b
  | .ab 8 j args => match args with
    | .cf a (.cf b .n0) => bif Nat.beq j 0 then cmpF fin .eql a b else none
    | _ => none
  | .ic op a b => opt2 (fun p q => cmpL op (p.sub q)) (linI a) (linI b)
  | _ => none

theorem fits53 {m k : Int} (h1 : -9007199254740992 ≤ m) (h2 : m ≤ 9007199254740992) (hk : k ≤ 900) : Fits m k :=
  fits_of 54 1023 (by omega) (by omega) (by decide)
theorem cop_add_is {x y : Nat} {m n k : Int} (hx : Is x m k) (hy : Is y n k) (h1 : -9007199254740992 ≤ m + n) (h2 : m + n ≤ 9007199254740992) (hk : k ≤ 900) : Is (cop .add x y) (m + n) k := by
  obtain ⟨r, hr, hi⟩ := is_add hx hy (fits53 h1 h2 hk)
  rw [rn_small h1 h2] at hi
  rw [cop_some (show floatBits .add .f64 x y = some r from hr), canon_num hi.num]
  exact hi
theorem cop_sub_is {x y : Nat} {m n k : Int} (hx : Is x m k) (hy : Is y n k) (h1 : -9007199254740992 ≤ m - n) (h2 : m - n ≤ 9007199254740992) (hk : k ≤ 900) : Is (cop .sub x y) (m - n) k := by
  obtain ⟨r, hr, hi⟩ := is_sub hx hy (fits53 h1 h2 hk)
  rw [rn_small h1 h2] at hi
  rw [cop_some (show floatBits .sub .f64 x y = some r from hr), canon_num hi.num]
  exact hi
theorem cop_mul_is {x y : Nat} {m n k l : Int} (hx : Is x m k) (hy : Is y n l) (h1 : -9007199254740992 ≤ m * n) (h2 : m * n ≤ 9007199254740992) (hk0 : -1074 ≤ k + l) (hk : k + l ≤ 900) : Is (cop .mul x y) (m * n) (k + l) := by
  obtain ⟨r, hr, hi⟩ := is_mul hx hy hk0 (fits53 h1 h2 hk)
  rw [rn_small h1 h2] at hi
  rw [cop_some (show floatBits .mul .f64 x y = some r from hr), canon_num hi.num]
  exact hi
theorem cop_quo_is {x y : Nat} {m n k l : Int} (hx : Is x (m * n) k) (hy : Is y n l) (hn : n ≠ 0) (h1 : -9007199254740992 ≤ m) (h2 : m ≤ 9007199254740992) (hk0 : -1074 ≤ k - l) (hk : k - l ≤ 900) : Is (cop .quo x y) m (k - l) := by
  obtain ⟨r, hr, hi⟩ := is_quo hx hy hn h1 h2 hk0 (fits53 h1 h2 hk)
  rw [cop_some (show floatBits .quo .f64 x y = some r from hr), canon_num hi.num]
  exact hi

/-- A float is a number of this form, times a power of two. -/
def FOK (V : Val) (p k : Pol) (x : Nat) : Prop := ∃ m e, p.OK V m ∧ k.OK V e ∧ Is x m e
theorem fit53_ok {p q k l : Pol} (h : fit53 k p = some (q, l)) : q = p ∧ l = k ∧ -9007199254740992 ≤ p.lo ∧ p.hi ≤ 9007199254740992 ∧ -1074 ≤ k.lo ∧ k.hi ≤ 900 := by
  unfold fit53 at h
  cases hc : (p.chk 9007199254740992 && decide (-1074 ≤ k.lo) && decide (k.hi ≤ 900)) <;> rw [hc] at h
  · cases h
  · simp only [cond_true, Option.some.injEq, Prod.mk.injEq] at h
    unfold Pol.chk at hc
    simp only [Bool.and_eq_true, decide_eq_true_eq] at hc
    exact ⟨h.1.symm, h.2.symm, hc.1.1.1, hc.1.1.2, hc.1.2, hc.2⟩
theorem cst_ok {l : List (List E × Int)} {n : Int} (h : cst l = some n) : evT V l = n := by
  unfold cst at h
  split at h
  · simp only [Option.some.injEq] at h; subst h; rfl
  · simp only [Option.some.injEq] at h; subst h; simp [evT, prodM]
  · cases h
theorem isZ_ok {p : Pol} {m : Int} (h : isZ p = true) (hp : p.OK V m) : m = 0 := by
  unfold isZ at h
  split at h
  · rename_i ht; rw [hp.eq, ht]; rfl
  · cases h
theorem is_zero_at {x : Nat} {k l : Int} (h : Is x 0 k) (hl : -1074 ≤ l) : Is x 0 l := ⟨h.1, h.2.1, hl, by rw [h.2.2.2, Int.zero_mul, Int.zero_mul]⟩
theorem align_ok {p q p' q' k l m : Pol} (h : alignL p k q l = some (p', q', m)) {x y : Nat} (hx : FOK V p k x) (hy : FOK V q l y) : ∃ a b e, p'.OK V a ∧ q'.OK V b ∧ m.OK V e ∧ Is x a e ∧ Is y b e := by
  obtain ⟨a, ea, ha, ka, ia⟩ := hx
  obtain ⟨b, eb, hb, kb, ib⟩ := hy
  unfold alignL at h
  cases hq : isZ q <;> rw [hq] at h
  rotate_left
  · simp only [cond_true, Option.some.injEq, Prod.mk.injEq] at h
    obtain ⟨rfl, rfl, rfl⟩ := h
    have := isZ_ok hq hb
    subst this
    exact ⟨a, 0, ea, ha, Pol.OK.lit 0, ka, ia, is_zero_at ib ia.2.2.1⟩
  cases hp : isZ p <;> rw [hp] at h
  rotate_left
  · simp only [cond_true, cond_false, Option.some.injEq, Prod.mk.injEq] at h
    obtain ⟨rfl, rfl, rfl⟩ := h
    have := isZ_ok hp ha
    subst this
    exact ⟨0, b, eb, Pol.OK.lit 0, hb, kb, is_zero_at ia ib.2.2.1, ib⟩
  simp only [cond_false] at h
  split at h
  · rename_i d hd
    have hde : eb - ea = d := by rw [(kb.sub ka).eq]; exact cst_ok hd
    cases hkl : decide (0 ≤ d) <;> rw [hkl] at h
    · have h1 := of_decide_eq_false hkl
      simp only [cond_false] at h
      cases hc : decide (-2200 ≤ d) <;> rw [hc] at h
      · cases h
      · simp only [cond_true, Option.some.injEq, Prod.mk.injEq] at h
        obtain ⟨rfl, rfl, rfl⟩ := h
        have := ia.down (-d).toNat (by have := ib.2.2.1; omega)
        rw [show ea - ((-d).toNat : Int) = eb by omega] at this
        refine ⟨_, b, eb, ha.sc _, hb, kb, ?_, ib⟩
        rw [Int.mul_comm, show ((2 : Int) ^ (-d).toNat) = ((2 ^ (-d).toNat : Nat) : Int) by simp]
        exact this
    · have h1 := of_decide_eq_true hkl
      simp only [cond_true] at h
      cases hc : decide (d ≤ 2200) <;> rw [hc] at h
      · cases h
      · simp only [cond_true, Option.some.injEq, Prod.mk.injEq] at h
        obtain ⟨rfl, rfl, rfl⟩ := h
        have := ib.down d.toNat (by have := ia.2.2.1; omega)
        rw [show eb - (d.toNat : Int) = ea by omega] at this
        refine ⟨a, _, ea, ha, hb.sc _, ka, ia, ?_⟩
        rw [Int.mul_comm, show ((2 : Int) ^ d.toNat) = ((2 ^ d.toNat : Nat) : Int) by simp]
        exact this
  · cases h

theorem litF_ok {x : Nat} {p k : Pol} (h : litF x = some (p, k)) : FOK V p k x := by
  unfold litF litTry at h
  generalize (litM x).1 = m at h
  generalize (litM x).2 = l at h
  cases hc : (decide (x < 18446744073709551616) && decide (x % p63 < infR) && decide (-1074 ≤ l) && decide (valOf x = m * (2 ^ (l + 1074).toNat : Nat)) && decide (-9007199254740992 ≤ m) && decide (m ≤ 9007199254740992)) <;> rw [hc] at h
  · cases h
  · simp only [cond_true, Option.some.injEq, Prod.mk.injEq] at h
    obtain ⟨rfl, rfl⟩ := h
    simp only [Bool.and_eq_true, decide_eq_true_eq] at hc
    exact ⟨m, l, Pol.OK.lit m, Pol.OK.lit l, hc.1.1.1.1.1, hc.1.1.1.1.2, hc.1.1.1.2, hc.1.1.2⟩

theorem divT_ok {n : Int} : ∀ {l m : List (List E × Int)}, divT n l = some m → evT V l = evT V m * n
  | [], m, h => by simp only [divT, Option.some.injEq] at h; subst h; simp [evT]
  | (a, j) :: l, m, h => by
    unfold divT at h
    cases hc : decide (j % n = 0) <;> rw [hc] at h
    · cases h
    · simp only [cond_true] at h
      split at h
      · rename_i m' hm
        simp only [Option.some.injEq] at h
        subst h
        have h0 := of_decide_eq_true hc
        have hj : j = j / n * n := (Int.ediv_mul_cancel (Int.dvd_of_emod_eq_zero h0)).symm
        simp only [evT, divT_ok hm, Int.add_mul]
        rw [show j / n * prodM V a * n = j / n * n * prodM V a by rw [Int.mul_assoc, Int.mul_comm (prodM V a), ← Int.mul_assoc], ← hj]
      · cases h
theorem quo_ok {p r : Pol} {n x : Int} (h : p.quo n = some r) (hp : p.OK V x) : ∃ y, x = y * n ∧ r.OK V y ∧ n ≠ 0 := by
  unfold Pol.quo at h
  split at h
  · rename_i ts ht
    cases hc : decide (1 ≤ n) <;> rw [hc] at h
    · cases h
    · simp only [cond_true, Option.some.injEq] at h
      subst h
      have hn := of_decide_eq_true hc
      have hx : x = evT V ts * n := by rw [hp.eq, divT_ok ht]
      refine ⟨evT V ts, hx, ⟨rfl, ?_, ?_⟩, by omega⟩
      · have h1 := hp.lo
        have h2 : -(evT V ts) ≤ (-p.lo) / n := by
          rw [Int.le_ediv_iff_mul_le (by omega), Int.neg_mul, ← hx]; omega
        simp only; omega
      · have h1 := hp.hi
        simp only
        rw [Int.le_ediv_iff_mul_le (by omega), ← hx]; omega
  · cases h
theorem quoF_ok {p k q l r m : Pol} (h : quoF p k q l = some (r, m)) {x y : Nat} (hx : FOK V p k x) (hy : FOK V q l y) : FOK V r m (cop .quo x y) := by
  obtain ⟨a, ea, ha, ka, ia⟩ := hx
  obtain ⟨b, eb, hb, kb, ib⟩ := hy
  have hk := ka.sub kb
  unfold quoF at h
  split at h
  · rename_i n hts
    have hbn : b = n := by rw [hb.eq, hts]; simp [evT, prodM]
    subst hbn
    cases h1 : decide (b = 1) <;> rw [h1] at h
    · simp only [cond_false] at h
      split at h
      · rename_i r' hq
        obtain ⟨rfl, rfl, l1, l2, k1, k2⟩ := fit53_ok h
        obtain ⟨c, hc, hr, hn⟩ := quo_ok hq ha
        subst hc
        exact ⟨c, _, hr, hk, cop_quo_is ia ib hn (Int.le_trans l1 hr.lo) (Int.le_trans hr.hi l2) (Int.le_trans k1 hk.lo) (Int.le_trans hk.hi k2)⟩
      · cases h
    · have h1 := of_decide_eq_true h1
      subst h1
      simp only [cond_true] at h
      obtain ⟨rfl, rfl, l1, l2, k1, k2⟩ := fit53_ok h
      exact ⟨a, _, ha, hk, cop_quo_is (m := a) (n := 1) (by rw [Int.mul_one]; exact ia) ib (by decide) (Int.le_trans l1 ha.lo) (Int.le_trans ha.hi l2) (Int.le_trans k1 hk.lo) (Int.le_trans hk.hi k2)⟩
  · cases h
theorem pairF_ok {f : Pol → Pol → Pol → Option (Pol × Pol)} {a b r : Pol × Pol} (h : pairF f a b = some r) {x y : Nat} (hx : FOK V a.1 a.2 x) (hy : FOK V b.1 b.2 y) :
    ∃ p q m c d e, f p q m = some r ∧ p.OK V c ∧ q.OK V d ∧ m.OK V e ∧ Is x c e ∧ Is y d e := by
  unfold pairF at h
  split at h
  · rename_i p q m hal
    obtain ⟨c, d, e, h1, h2, h3, h4, h5⟩ := align_ok hal hx hy
    exact ⟨p, q, m, c, d, e, h, h1, h2, h3, h4, h5⟩
  · cases h
theorem zero_mul_is {x y : Nat} (hx : x % p63 < infR) (hy : y % p63 < infR) (h0 : U (x % p63) = 0 ∨ U (y % p63) = 0) : Is (cop .mul x y) 0 0 := by
  have e := mul_fin hx hy
  have e0 : U (x % p63) * U (y % p63) = 0 := by rcases h0 with h | h <;> rw [h] <;> simp
  rw [e0, rungOf_zero] at e
  have hw := is_word (s := neg x ^^ neg y) (m := 0) (k := 0) (by decide) (by unfold Fits; decide) (fun h => absurd rfl h)
  rw [show Int.natAbs 0 = 0 from rfl, rungOf_zero, show rn 0 = 0 by decide] at hw
  rw [cop_some (show floatBits .mul .f64 x y = some _ from e), canon_num hw.num]
  exact hw
theorem is_zeroU {x : Nat} {k : Int} (h : Is x 0 k) : U (x % p63) = 0 := by
  have := (U_of_V h).1
  simpa using this
/-- Of each of both: it is of this form, or nothing is known; it is finite, if that is known. -/
theorem mulF_ok {fa fb : Bool} {a b : Option (Pol × Pol)} {p k : Pol} {x y : Nat} (h : mulF fa fb a b = some (p, k)) (ha : ∀ r, a = some r → FOK V r.1 r.2 x) (hb : ∀ r, b = some r → FOK V r.1 r.2 y) (hfa : fa = true → x % p63 < infR) (hfb : fb = true → y % p63 < infR) : FOK V p k (cop .mul x y) := by
  have hz : FOK V (Pol.lit 0) (Pol.lit 0) (cop .mul x y) ↔ Is (cop .mul x y) 0 0 := ⟨fun ⟨m, e, h1, h2, h3⟩ => by
    have e1 : m = 0 := by rw [h1.eq, ← (Pol.OK.lit (V := V) 0).eq]
    have e2 : e = 0 := by rw [h2.eq, ← (Pol.OK.lit (V := V) 0).eq]
    subst e1; subst e2; exact h3, fun h => ⟨0, 0, Pol.OK.lit 0, Pol.OK.lit 0, h⟩⟩
  unfold mulF at h
  split at h
  · rename_i r s
    obtain ⟨m, e, h1, h2, h3⟩ := ha r rfl
    obtain ⟨n, f, g1, g2, g3⟩ := hb s rfl
    obtain ⟨rfl, rfl, l1, l2, k1, k2⟩ := fit53_ok h
    have ho := h1.mul g1
    have hk := h2.add g2
    exact ⟨_, _, ho, hk, cop_mul_is h3 g3 (Int.le_trans l1 ho.lo) (Int.le_trans ho.hi l2) (Int.le_trans k1 hk.lo) (Int.le_trans hk.hi k2)⟩
  · rename_i r
    cases hc : (isZ r.1 && fb) <;> rw [hc] at h
    · cases h
    · simp only [cond_true, Option.some.injEq, Prod.mk.injEq] at h
      obtain ⟨rfl, rfl⟩ := h
      simp only [Bool.and_eq_true] at hc
      obtain ⟨m, e, h1, h2, h3⟩ := ha r rfl
      have := isZ_ok hc.1 h1
      subst this
      exact hz.2 (zero_mul_is h3.fin (hfb hc.2) (.inl (is_zeroU h3)))
  · rename_i r
    cases hc : (isZ r.1 && fa) <;> rw [hc] at h
    · cases h
    · simp only [cond_true, Option.some.injEq, Prod.mk.injEq] at h
      obtain ⟨rfl, rfl⟩ := h
      simp only [Bool.and_eq_true] at hc
      obtain ⟨m, e, h1, h2, h3⟩ := hb r rfl
      have := isZ_ok hc.1 h1
      subst this
      exact hz.2 (zero_mul_is (hfa hc.2) h3.fin (.inr (is_zeroU h3)))
  · cases h

def headF (V : Val) : E → Nat
  | .cf a _ => evF V a
  | e => evF V e
theorem gd_ok {α : Type} {a : E} {r : Option α} {x : α} (h : gd a r = some x) : r = some x ∧ ∀ V, headF V a = evF V a := by
  unfold gd at h
  split at h
  · cases h
  · rename_i hn
    refine ⟨h, fun V => ?_⟩
    unfold headF
    split
    · rename_i a b; exact absurd rfl (hn a b)
    · rfl
theorem ltB_not {x y : Nat} (hx : isN x = false) (hy : isN y = false) : ltB x y = !leB y x := by
  unfold ltB leB; rw [hx, hy]; rw [Bool.eq_iff_iff]; simp
theorem is_cmp {x y : Nat} {a b k : Int} (hx : Is x a k) (hy : Is y b k) (op : BinOp) : fcV op x y = icV op a b := by
  have e1 := is_eq hx hy
  have e2 := is_le hx hy
  have e3 := is_le hy hx
  have l1 : ltB x y = decide (a < b) := by
    have := ltB_not hx.num hy.num
    rw [this, e3]
    by_cases h : b ≤ a
    · rw [decide_eq_true h, decide_eq_false (by omega)]; rfl
    · rw [decide_eq_false h, decide_eq_true (by omega)]; rfl
  have l2 : ltB y x = decide (b < a) := by
    have := ltB_not hy.num hx.num
    rw [this, e2]
    by_cases h : a ≤ b
    · rw [decide_eq_true h, decide_eq_false (by omega)]; rfl
    · rw [decide_eq_false h, decide_eq_true (by omega)]; rfl
  cases op <;> simp only [fcV, icV, e1, e2, e3, l1, l2]
def FinOK (V : Val) (fin : E → Bool) : Prop := ∀ e, fin e = true → evF V e % p63 < infR
theorem linF_head (hV : StdV V) {fin : E → Bool} (hfin : FinOK V fin) : ∀ {e : E} {p k : Pol}, linF fin e = some (p, k) → FOK V p k (headF V e) := by
  intro e
  induction e with
  | lf x => intro p k h; simp only [linF] at h; exact litF_ok h
  | i2f a =>
    intro p k h
    unfold linF at h
    cases ha : linI a with
    | none => rw [ha] at h; cases h
    | some q =>
      rw [ha] at h
      obtain ⟨rfl, rfl, l1, l2, -, -⟩ := fit53_ok (show fit53 (Pol.lit 0) q = some (p, k) from h)
      have ho := linI_ok hV ha
      exact ⟨_, 0, ho, Pol.OK.lit 0, is_ofInt (n := evI V a) (Int.le_trans l1 ho.lo) (Int.le_trans ho.hi l2)⟩
  | cf a r iha =>
    intro p k h
    unfold linF at h
    obtain ⟨h1, h2⟩ := gd_ok h
    have := iha h1
    rw [h2] at this
    exact this
  | tf c a b _ iha ihb =>
    intro p k h
    unfold linF at h
    obtain ⟨x, y, h1, h2, h3⟩ := opt2_ok h
    obtain ⟨h1, e1⟩ := gd_ok h1
    obtain ⟨h2, e2⟩ := gd_ok h2
    obtain ⟨p', q', m, c', d', f', h4, h5, h6, hm, h7, h8⟩ := pairF_ok h3 (e1 V ▸ iha h1) (e2 V ▸ ihb h2)
    simp only [Option.some.injEq, Prod.mk.injEq] at h4
    obtain ⟨rfl, rfl⟩ := h4
    refine ⟨_, f', Pol.OK.ite c h5 h6, hm, ?_⟩
    simp only [headF, evF]
    cases evB V c
    · exact h8
    · exact h7
  | fb op a b iha ihb =>
    intro p k h
    unfold linF at h
    split at h <;> rename_i heq <;> (try (cases heq; done))
    · cases heq
      obtain ⟨x, y, h1, h2, h3⟩ := opt2_ok h
      obtain ⟨h1, e1⟩ := gd_ok h1
      obtain ⟨h2, e2⟩ := gd_ok h2
      obtain ⟨p', q', m, c', d', f', h4, h5, h6, hm, h7, h8⟩ := pairF_ok h3 (e1 V ▸ iha h1) (e2 V ▸ ihb h2)
      obtain ⟨rfl, rfl, l1, l2, k1, k2⟩ := fit53_ok h4
      have ho := h5.add h6
      exact ⟨_, f', ho, hm, cop_add_is h7 h8 (Int.le_trans l1 ho.lo) (Int.le_trans ho.hi l2) (Int.le_trans hm.hi k2)⟩
    · cases heq
      obtain ⟨x, y, h1, h2, h3⟩ := opt2_ok h
      obtain ⟨h1, e1⟩ := gd_ok h1
      obtain ⟨h2, e2⟩ := gd_ok h2
      obtain ⟨p', q', m, c', d', f', h4, h5, h6, hm, h7, h8⟩ := pairF_ok h3 (e1 V ▸ iha h1) (e2 V ▸ ihb h2)
      obtain ⟨rfl, rfl, l1, l2, k1, k2⟩ := fit53_ok h4
      have ho := h5.sub h6
      exact ⟨_, f', ho, hm, cop_sub_is h7 h8 (Int.le_trans l1 ho.lo) (Int.le_trans ho.hi l2) (Int.le_trans hm.hi k2)⟩
    · cases heq
      exact mulF_ok h (fun r hr => by obtain ⟨h1, e1⟩ := gd_ok hr; exact e1 V ▸ iha h1) (fun r hr => by obtain ⟨h1, e1⟩ := gd_ok hr; exact e1 V ▸ ihb h1) (hfin a) (hfin b)
    · cases heq
      obtain ⟨⟨x1, x2⟩, ⟨y1, y2⟩, h1, h2, h3⟩ := opt2_ok h
      obtain ⟨h1, e1⟩ := gd_ok h1
      obtain ⟨h2, e2⟩ := gd_ok h2
      exact quoF_ok h3 (e1 V ▸ iha h1) (e2 V ▸ ihb h2)
    · cases h
  | af f j args ih =>
    intro p k h
    unfold linF at h
    split at h <;> rename_i heq <;> (try (cases heq; done))
    · cases heq
      split at h
      · rename_i q l a n ha
        cases hj : Nat.beq j 0 <;> rw [hj] at h
        · cases h
        · simp only [cond_true] at h
          have hj := Nat.eq_of_beq_eq_true hj
          subst hj
          split at h
          · rename_i t hn
            obtain ⟨rfl, rfl, l1, l2, k1, k2⟩ := fit53_ok h
            obtain ⟨m, e, hm, he, hi⟩ := ih ha
            have hk := he.add (linI_ok hV hn)
            refine ⟨m, _, hm, hk, ?_⟩
            show Is (evF V (.af 7 0 (.cf a (.ci n .n0)))) m _
            have hv : evF V (.af 7 0 (.cf a (.ci n .n0))) = ldexpB (canon (evF V a)) (evI V n) := by simp [evF, evS, hV.f, stdF]
            have hi' : Is (evF V a) m e := hi
            rw [hv, canon_num hi'.num]
            exact is_scale hi' (evI V n) (Int.le_trans k1 hk.lo) (fits53 (Int.le_trans l1 hm.lo) (Int.le_trans hm.hi l2) (Int.le_trans hk.hi k2))
          · cases h
      · cases h
    · cases heq
      split at h
      · rename_i q l a ha
        cases hj : Nat.beq j 0 <;> rw [hj] at h
        · cases h
        · simp only [cond_true] at h
          have hj := Nat.eq_of_beq_eq_true hj
          subst hj
          obtain ⟨m, e, hm, he, hi⟩ := ih ha
          have hi' : Is (evF V a) m e := hi
          have hv : evF V (.af 10 0 (.cf a .n0)) = evF V a % p63 := by simp [evF, evS, hV.f, stdF, canon_num hi'.num]
          have hab := is_abs hi'
          cases h0 : decide (0 ≤ q.lo) <;> rw [h0] at h
          · cases h1 : decide (q.hi ≤ 0) <;> rw [h1] at h
            · simp only [cond_false, Option.some.injEq, Prod.mk.injEq] at h
              obtain ⟨rfl, rfl⟩ := h
              have hz : Is 0 0 e := by
                have h0 := is_ofInt (n := 0) (by decide) (by decide)
                have h00 : floatOfInt .f64 0 = 0 := by decide
                rw [h00] at h0
                have hke := hi'.2.2.1
                exact ⟨by decide, by decide, hke, by rw [Int.zero_mul]; decide⟩
              have hlt : evB V (.fc .lss a (.lf 0)) = decide (m < 0) := by
                have := is_cmp hi' hz .lss
                simpa [evB, evF, icV] using this
              have hite := Pol.OK.ite (V := V) (.fc .lss a (.lf 0)) (hm.sc (-1)) hm
              rw [hlt] at hite
              have hval : (bif decide (m < 0) then -1 * m else m) = (m.natAbs : Int) := by
                by_cases hn : m < 0
                · rw [decide_eq_true hn]; simp only [cond_true]; omega
                · rw [decide_eq_false hn]; simp only [cond_false]; omega
              rw [hval] at hite
              have := hm.lo
              have := hm.hi
              refine ⟨_, e, ⟨hite.eq, by simp only [absP]; omega, by simp only [absP]; omega⟩, he, ?_⟩
              show Is (evF V (.af 10 0 (.cf a .n0))) _ _
              rw [hv]
              exact hab
            · simp only [cond_true, cond_false, Option.some.injEq, Prod.mk.injEq] at h
              obtain ⟨rfl, rfl⟩ := h
              have := of_decide_eq_true h1
              have := hm.hi
              refine ⟨_, e, hm.sc (-1), he, ?_⟩
              show Is (evF V (.af 10 0 (.cf a .n0))) _ _
              rw [hv, show -1 * m = (m.natAbs : Int) by omega]
              exact hab
          · simp only [cond_true, Option.some.injEq, Prod.mk.injEq] at h
            obtain ⟨rfl, rfl⟩ := h
            have := of_decide_eq_true h0
            have := hm.lo
            refine ⟨m, e, hm, he, ?_⟩
            show Is (evF V (.af 10 0 (.cf a .n0))) _ _
            rw [hv]
            have e1 : m = (m.natAbs : Int) := by omega
            rw [e1]
            exact hab
      · cases h
    · cases h
  | _ => intro p k h; unfold linF at h; cases h
theorem linF_ok (hV : StdV V) {fin : E → Bool} (hfin : FinOK V fin) {e : E} {p k : Pol} (h : gd e (linF fin e) = some (p, k)) : FOK V p k (evF V e) := by
  obtain ⟨h1, h2⟩ := gd_ok h
  have := linF_head hV hfin h1
  rw [h2] at this
  exact this
theorem finOf_ok {l : List (E × Bool)} (hl : LOK V l) : FinOK V (finOf l) := fun e h => by
  unfold finOf at h
  split at h
  · rename_i hk
    have := lookE_ok hl hk
    have h2 : eqB (cop .sub (evF V e) (evF V e)) 0 = true := by simpa [evB, evF, fcV] using this
    rw [sub_self_zero] at h2
    simpa using h2
  · cases h

theorem cmpL_ok {op : BinOp} {d : Pol} {b : Bool} (h : cmpL op d = some b) {x y : Int} (hd : d.OK V (x - y)) : icV op x y = b := by
  unfold cmpL at h
  have h1 := hd.lo
  have h2 := hd.hi
  have hT : ∀ {c v b : Bool} {r : Option Bool}, (bif c then some v else r) = some b → (c = true ∧ v = b) ∨ (c = false ∧ r = some b) := fun {c v b r} h => by
    cases c
    · exact .inr ⟨rfl, h⟩
    · exact .inl ⟨rfl, by simpa using h⟩
  split at h
  · rename_i hts
    simp only [Option.some.injEq] at h
    have : x - y = 0 := by rw [hd.eq, hts]; simp [evT]
    subst h
    cases op <;> simp [icV] <;> first | omega | (constructor <;> omega) | skip
  · rename_i n hts
    simp only [Option.some.injEq] at h
    have : x - y = n := by rw [hd.eq, hts]; simp [evT, prodM]
    subst h
    rw [← this]
    cases op <;> simp [icV] <;> first | omega | (constructor <;> omega) | skip
  · split at h
    · rcases hT h with ⟨hc, rfl⟩ | ⟨-, h⟩
      · simp only [Bool.or_eq_true, decide_eq_true_eq] at hc
        simp only [icV, decide_eq_false_iff_not]; omega
      · cases h
    · rcases hT h with ⟨hc, rfl⟩ | ⟨-, h⟩
      · simp only [Bool.or_eq_true, decide_eq_true_eq] at hc
        simp only [icV, Bool.not_eq_true', decide_eq_false_iff_not]; omega
      · cases h
    · rcases hT h with ⟨hc, rfl⟩ | ⟨-, h⟩
      · simp only [decide_eq_true_eq] at hc
        simp only [icV, decide_eq_true_eq]; omega
      · rcases hT h with ⟨hc, rfl⟩ | ⟨-, h⟩
        · simp only [decide_eq_true_eq] at hc
          simp only [icV, decide_eq_false_iff_not]; omega
        · cases h
    · rcases hT h with ⟨hc, rfl⟩ | ⟨-, h⟩
      · simp only [decide_eq_true_eq] at hc
        simp only [icV, decide_eq_true_eq]; omega
      · rcases hT h with ⟨hc, rfl⟩ | ⟨-, h⟩
        · simp only [decide_eq_true_eq] at hc
          simp only [icV, decide_eq_false_iff_not]; omega
        · cases h
    · rcases hT h with ⟨hc, rfl⟩ | ⟨-, h⟩
      · simp only [decide_eq_true_eq] at hc
        simp only [icV, decide_eq_true_eq]; omega
      · rcases hT h with ⟨hc, rfl⟩ | ⟨-, h⟩
        · simp only [decide_eq_true_eq] at hc
          simp only [icV, decide_eq_false_iff_not]; omega
        · cases h
    · rcases hT h with ⟨hc, rfl⟩ | ⟨-, h⟩
      · simp only [decide_eq_true_eq] at hc
        simp only [icV, decide_eq_true_eq]; omega
      · rcases hT h with ⟨hc, rfl⟩ | ⟨-, h⟩
        · simp only [decide_eq_true_eq] at hc
          simp only [icV, decide_eq_false_iff_not]; omega
        · cases h
    · cases h

theorem cmpF_ok (hV : StdV V) {fin : E → Bool} (hfin : FinOK V fin) {op : BinOp} {a b : E} {r : Bool} (h : cmpF fin op a b = some r) : fcV op (evF V a) (evF V b) = r ∧ isN (evF V a) = false ∧ isN (evF V b) = false := by
  unfold cmpF at h
  obtain ⟨⟨x1, x2⟩, ⟨y1, y2⟩, ha, hb, h3⟩ := opt2_ok h
  split at h3
  · rename_i p' q' m hal
    obtain ⟨x, y, e, hx, hy, hm, ix, iy⟩ := align_ok hal (linF_ok hV hfin ha) (linF_ok hV hfin hb)
    exact ⟨by rw [is_cmp ix iy]; exact cmpL_ok h3 (hx.sub hy), ix.num, iy.num⟩
  · cases h3
/-- What is reckoned is so. -/
theorem exact_ok (hV : StdV V) {fin : E → Bool} (hfin : FinOK V fin) {e : E} {r : Bool} (h : exactDec fin e = some r) : evB V e = r := by
  unfold exactDec at h
  split at h
  · exact (cmpF_ok hV hfin h).1
  · rename_i j args
    split at h
    · rename_i a b
      cases hj : Nat.beq j 0 <;> rw [hj] at h
      · cases h
      · simp only [cond_true] at h
        have hj := Nat.eq_of_beq_eq_true hj
        subst hj
        obtain ⟨h1, h2, h3⟩ := cmpF_ok hV hfin h
        have hv : evB V (.ab 8 0 (.cf a (.cf b .n0))) = sameB (evF V a) (evF V b) := by simp [evB, evS, hV.b, stdB]
        rw [hv]
        unfold sameB
        simp only [h2, h3, Bool.and_self, Bool.or_false]
        exact h1
    · cases h
  · obtain ⟨p, q, hp, hq, h3⟩ := opt2_ok h
    exact cmpL_ok h3 ((linI_ok hV hp).sub (linI_ok hV hq))
  · cases h
/-- Of few whole numbers all but one are known not to be it, or one is known to be. -/
def allBut (l : List (E × Bool)) (x : E) (n : Int) : Int → Nat → Bool
  | _, 0 => true
  | v, k + 1 => (decide (v = n) || (match lookE l (.ic .eql x (.li v)) with | some false => true | _ => false)) && allBut l x n (v + 1) k
def isOne : List (E × Bool) → E → Option Int
  | [], _ => none
  | (.ic .eql y (.li m), true) :: l, x => if y = x then some m else isOne l x
  | _ :: l, x => isOne l x
def fewDec (l : List (E × Bool)) : E → Option Bool
  | .ic .eql x (.li n) => match isOne l x with
    | some m => some (decide (m = n))
    | none => match linI x with
      | some p => bif decide (p.lo ≤ n) && (decide (n ≤ p.hi) && (decide (p.hi - p.lo < 20) && allBut l x n p.lo (p.hi - p.lo + 1).toNat)) then some true else none
      | none => none
  | _ => none
theorem allBut_ok {l : List (E × Bool)} (hl : LOK V l) {x : E} {n : Int} : ∀ (k : Nat) (v : Int), allBut l x n v k = true → v ≤ evI V x → evI V x < v + k → evI V x = n
  | 0, v, _, h1, h2 => by omega
  | k + 1, v, h, h1, h2 => by
    unfold allBut at h
    rw [Bool.and_eq_true] at h
    by_cases hv : evI V x = v
    · have h0 := h.1
      rw [Bool.or_eq_true] at h0
      rcases h0 with h0 | h0
      · rw [hv]; exact of_decide_eq_true h0
      · split at h0
        · rename_i hk
          have := lookE_ok hl hk
          have hf : decide (evI V x = v) = false := this
          exact absurd hv (of_decide_eq_false hf)
        · cases h0
    · exact allBut_ok hl k (v + 1) h.2 (by omega) (by omega)
theorem isOne_ok : ∀ {l : List (E × Bool)} {x : E} {m : Int}, LOK V l → isOne l x = some m → evI V x = m
  | [], _, _, _, h => by cases h
  | q :: l, x, m, hl, h => by
    unfold isOne at h
    split at h
    · rename_i heq; cases heq
    · rename_i y k l' heq
      simp only [List.cons.injEq] at heq
      obtain ⟨rfl, rfl⟩ := heq
      split at h
      · rename_i he
        subst he
        simp only [Option.some.injEq] at h
        subst h
        have := hl (.ic .eql y (.li k)) true (by simp)
        exact of_decide_eq_true (show decide (evI V y = k) = true from this)
      · exact isOne_ok (lok_tail hl) h
    · rename_i q' l' _ heq
      simp only [List.cons.injEq] at heq
      obtain ⟨rfl, rfl⟩ := heq
      exact isOne_ok (lok_tail hl) h
theorem fewDec_ok (hV : StdV V) {l : List (E × Bool)} (hl : LOK V l) {e : E} {b : Bool} (h : fewDec l e = some b) : evB V e = b := by
  unfold fewDec at h
  split at h
  · rename_i x n
    show decide (evI V x = n) = b
    split at h
    · rename_i m hm
      simp only [Option.some.injEq] at h
      rw [isOne_ok hl hm, h]
    · split at h
      · rename_i p hp
        have ho := linI_ok hV hp
        have h1 := ho.lo
        have h2 := ho.hi
        cases hc : (decide (p.lo ≤ n) && (decide (n ≤ p.hi) && (decide (p.hi - p.lo < 20) && allBut l x n p.lo (p.hi - p.lo + 1).toNat))) <;> rw [hc] at h
        · cases h
        · simp only [cond_true, Option.some.injEq] at h
          subst h
          simp only [Bool.and_eq_true, decide_eq_true_eq] at hc
          exact decide_eq_true (allBut_ok hl _ _ hc.2.2.2 h1 (by omega))
      · cases h
  · cases h
/-- A power of two, and it less one, have no digit together. -/
def powDec : E → Option Bool
  | .ic .eql (.ib .and .i64 (.ib .shl .i64 (.li 1) k) (.ib .sub .i64 (.ib .shl .i64 (.li 1) k') (.li 1))) (.li 0) => if k = k' then match linI k with
      | some p => bif decide (0 ≤ p.lo) && decide (p.hi ≤ 61) then some true else none
      | none => none
    else none
  | _ => none
theorem pow_and : ∀ n : Nat, n < 62 → bitsV .and .i64 (2 ^ n) (2 ^ n - 1) = 0 := by decide +kernel
theorem powDec_ok (hV : StdV V) {e : E} {b : Bool} (h : powDec e = some b) : evB V e = b := by
  unfold powDec at h
  split at h
  · rename_i k k'
    split at h
    · rename_i hk
      subst hk
      split at h
      · rename_i p hp
        cases hz : (decide (0 ≤ p.lo) && decide (p.hi ≤ 61)) <;> rw [hz] at h
        · cases h
        · simp only [cond_true, Option.some.injEq] at h
          subst h
          simp only [Bool.and_eq_true, decide_eq_true_eq] at hz
          have ho := linI_ok hV hp
          have b1 := ho.lo
          have b2 := ho.hi
          obtain ⟨e1, e2⟩ := shl_in (x := evI V k) (by omega) (by omega)
          have hs : ibV .sub .i64 ((2 : Int) ^ (evI V k).toNat) 1 = 2 ^ (evI V k).toNat - 1 := by
            have e : ((2 : Int) ^ (evI V k).toNat) = (((2 : Nat) ^ (evI V k).toNat : Nat) : Int) := by simp
            have hp := Nat.two_pow_pos (evI V k).toNat
            exact wrap_in (by rw [e]; omega) (by omega)
          show decide (bitsV .and .i64 (ibV .shl .i64 1 (evI V k)) (ibV .sub .i64 (ibV .shl .i64 1 (evI V k)) 1) = 0) = true
          rw [e1, hs, pow_and _ (by omega)]
          rfl
      · cases h
    · cases h
  · cases h
/-- A name that can be but one number, by what is told. -/
def pinC (l : List (E × Bool)) (i : Nat) (c : Int) : Bool :=
  (match lookE l (.ic .lss (.vi i) (.li c)) with
    | some false => true
    | _ => false) || (match lookE l (.ic .lss (.li (c - 1)) (.vi i)) with
    | some true => true
    | _ => false)
def pinV (l : List (E × Bool)) (i : Nat) : List (E × Bool) → Option Int
  | [] => none
  | (.ic .lss (.vi j) (.li m), true) :: r => bif Nat.beq j i && pinC l i (m - 1) then some (m - 1) else pinV l i r
  | (.ic .lss (.li m) (.vi j), false) :: r => bif Nat.beq j i && pinC l i m then some m else pinV l i r
  | (.ic .eql (.vi j) (.li m), true) :: r => bif Nat.beq j i then some m else pinV l i r
  | _ :: r => pinV l i r
def valP (l : List (E × Bool)) : E → Option Int
  | .li n => some n
  | .vi i => pinV l i l
  | .ib .add k a b => opt2 (fun x y => some (ibV .add k x y)) (valP l a) (valP l b)
  | .ib .sub k a b => opt2 (fun x y => some (ibV .sub k x y)) (valP l a) (valP l b)
  | _ => none
def pinDec (l : List (E × Bool)) : E → Option Bool
  | .ic op a b => opt2 (fun x y => some (icV op x y)) (valP l a) (valP l b)
  | _ => none
theorem pinC_ok {l : List (E × Bool)} (hl : LOK V l) {i : Nat} {c : Int} (h : pinC l i c = true) : c ≤ V.i i := by
  unfold pinC at h
  rw [Bool.or_eq_true] at h
  rcases h with h | h
  · split at h
    · rename_i hk
      have : icV .lss (V.i i) c = false := lookE_ok hl hk
      exact (lss_false _ _).1 this
    · cases h
  · split at h
    · rename_i hk
      have : icV .lss (c - 1) (V.i i) = true := lookE_ok hl hk
      have := (lss_true _ _).1 this
      omega
    · cases h
theorem pinV_ok {l : List (E × Bool)} (hl : LOK V l) {i : Nat} {c : Int} : ∀ (r : List (E × Bool)), (∀ x ∈ r, x ∈ l) → pinV l i r = some c → V.i i = c
  | [], _, h => by cases h
  | x :: r, hm, h => by
    have ih := fun (h : pinV l i r = some c) => pinV_ok hl (c := c) r (fun y hy => hm y (List.mem_cons_of_mem _ hy)) h
    have hx := hm x (List.mem_cons_self ..)
    unfold pinV at h
    split at h
    · cases h
    · rename_i j m r' heq
      cases heq
      have h0 : icV .lss (V.i j) m = true := hl _ _ hx
      have h0 := (lss_true _ _).1 h0
      cases hc : (Nat.beq j i && pinC l i (m - 1)) <;> rw [hc] at h
      · exact ih h
      · simp only [Bool.and_eq_true] at hc
        have hj := Nat.eq_of_beq_eq_true hc.1
        subst hj
        have := pinC_ok hl hc.2
        simp only [cond_true, Option.some.injEq] at h
        omega
    · rename_i m j r' heq
      cases heq
      have h0 : icV .lss m (V.i j) = false := hl _ _ hx
      have h0 := (lss_false _ _).1 h0
      cases hc : (Nat.beq j i && pinC l i m) <;> rw [hc] at h
      · exact ih h
      · simp only [Bool.and_eq_true] at hc
        have hj := Nat.eq_of_beq_eq_true hc.1
        subst hj
        have := pinC_ok hl hc.2
        simp only [cond_true, Option.some.injEq] at h
        omega
    · rename_i j m r' heq
      cases heq
      have h0 : icV .eql (V.i j) m = true := hl _ _ hx
      have h0 : V.i j = m := by simpa [icV] using h0
      cases hc : Nat.beq j i <;> rw [hc] at h
      · exact ih h
      · have hj := Nat.eq_of_beq_eq_true hc
        subst hj
        simp only [cond_true, Option.some.injEq] at h
        omega
    · rename_i y r' _ _ _ heq
      cases heq
      exact ih h
theorem valP_ok {l : List (E × Bool)} (hl : LOK V l) : ∀ {e : E} {n : Int}, valP l e = some n → evI V e = n := by
  intro e
  induction e with
  | li m => intro n h; simp only [valP, Option.some.injEq] at h; exact h
  | vi i => intro n h; exact pinV_ok hl l (fun _ h => h) h
  | ib op k a b iha ihb =>
    intro n h
    unfold valP at h
    split at h
    · rename_i heq; cases heq
    · rename_i heq; cases heq
    · rename_i heq
      cases heq
      obtain ⟨x, y, h1, h2, h3⟩ := opt2_ok h
      simp only [Option.some.injEq] at h3
      rw [evI, iha h1, ihb h2]; exact h3
    · rename_i heq
      cases heq
      obtain ⟨x, y, h1, h2, h3⟩ := opt2_ok h
      simp only [Option.some.injEq] at h3
      rw [evI, iha h1, ihb h2]; exact h3
    · cases h
  | _ => intro n h; unfold valP at h; cases h
theorem pinDec_ok {l : List (E × Bool)} (hl : LOK V l) {e : E} {b : Bool} (h : pinDec l e = some b) : evB V e = b := by
  unfold pinDec at h
  split at h
  · obtain ⟨x, y, h1, h2, h3⟩ := opt2_ok h
    simp only [Option.some.injEq] at h3
    rw [evB, valP_ok hl h1, valP_ok hl h2]; exact h3
  · cases h
def exD (l : List (E × Bool)) (e : E) : Option Bool :=
  match fewDec l e with
  | some b => some b
  | none => match powDec e with
    | some b => some b
    | none => match exactDec (finOf l) e with
      | some b => some b
      | none => pinDec l e
theorem dok_exact (hV : StdV V) : DOK V exD := fun l hl e b h => by
  unfold exD at h
  split at h
  · rename_i b' hb
    simp only [Option.some.injEq] at h
    subst h
    exact fewDec_ok hV hl hb
  · split at h
    · rename_i b' hb
      simp only [Option.some.injEq] at h
      subst h
      exact powDec_ok hV hb
    · split at h
      · rename_i b' hb
        simp only [Option.some.injEq] at h
        subst h
        exact exact_ok hV (finOf_ok hl) hb
      · exact pinDec_ok hl h
def Gam.ex : Gam := ⟨[], exD, none⟩
theorem gam_ex (hV : StdV V) : GamOK V .ex := ⟨fun _ _ h => (by cases h), dok_exact hV, nm_none⟩

/-- Ldexp, of any number, by what is known to be within bounds. -/
def ldexpT : List SV → Option SV
  | [.c x, .c (.i .i64 k)] => ldexpS [.c x, .c (.i .i64 k)]
  | [.c x, .c (.ei .i64 k)] => match linI k, x.toF with
    | some p, some e => bif decide (-4611686018427387904 ≤ p.lo) && decide (p.hi ≤ 4611686018427387904) then some (.c (.ef (.af 7 0 (.cf e (.ci k .n0))))) else none
    | _, _ => none
  | _ => none
theorem ldexpT_holds {P : Program} (hV : StdV V) {f : Nat} (hl : ∀ (x : Nat) (k : Int) (w : World), x < 18446744073709551616 → -4611686018427387904 ≤ k → k ≤ 4611686018427387904 → Calls P f #[.float .f64 x, .int .i64 k] w fun e w' => e = .returned (.float .f64 (ldexpB x k)) ∧ w = w') : Holds P V f ldexpT := by
  intro args v h ρ vs w hargs
  unfold ldexpT at h
  split at h
  · exact ldexpS_holds hV hl _ v h ρ vs w hargs
  · rename_i x k
    obtain ⟨u1, u2, rfl, hx, hk⟩ := args_two hargs
    have hk : u2 = .int .i64 (evI V k) := hk
    subst hk
    split at h
    · rename_i p e hp he
      cases h1 : (decide (-4611686018427387904 ≤ p.lo) && decide (p.hi ≤ 4611686018427387904)) <;> rw [h1] at h
      · cases h
      · simp only [cond_true, Option.some.injEq] at h
        subst h
        simp only [Bool.and_eq_true, decide_eq_true_eq] at h1
        have ho := linI_ok hV hp
        obtain ⟨y, rfl, hy⟩ := toF_ok he hx
        exact (hl y (evI V k) w hy.2 (Int.le_trans h1.1 ho.lo) (Int.le_trans ho.hi h1.2)).mono fun e' w' ⟨he, hb⟩ => ⟨_, he, ⟨_, rfl, by
          have := ldexp_FR hy (evI V k)
          simpa [evF, evI, evS, hV.f, stdF] using this⟩, by subst hb; exact Go.RowKit.Below.refl _ _⟩
    · cases h
  · cases h
end Go.Proofs.Ytclhgnhbmlkomaa.Ex
