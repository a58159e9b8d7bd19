/-
  The runner beside Go's machine: contracts by name, of numbers that are not known; slices that are handed in.
-/
import Derived.Test.YtbepaoliboooaaaExr
import Derived.Test.YtbepaoliboooaaaFpo
namespace Go.Proofs.Ytbepaoliboooaaa.Ex
open Go
variable {P : Program} {V : Val}

/-- What the names of functions stand for. -/
def stdI : Nat → Nat → List Sc → Int
  | 9, _, [.i a, .i n] => a % n
  | _, _, _ => 0
def stdF : Nat → Nat → List Sc → Nat
  | 7, _, [.f x, .i k] => ldexpB (canon x) k
  | 10, _, [.f x] => canon x % p63
  | 11, _, [.f x] => upB (canon x)
  | 12, _, [.f x] => downB (canon x)
  | _, _, _ => 0
def stdB : Nat → Nat → List Sc → Bool
  | 8, _, [.f a, .f b] => sameB a b
  | _, _, _ => false
structure StdV (V : Val) : Prop where
  i : ∀ j i args, j < 20 → V.fi j i args = stdI j i args
  f : ∀ j i args, j < 20 → V.ff j i args = stdF j i args
  b : ∀ j i args, j < 20 → V.fb j i args = stdB j i args
def stdV (i : Nat → Int) (f : Nat → Nat) (arr : Nat → Array Value) : Val := ⟨i, f, fun _ => false, stdI, stdF, stdB, arr⟩
theorem stdV_ok (i : Nat → Int) (f : Nat → Nat) (arr : Nat → Array Value) : StdV (stdV i f arr) := ⟨fun _ _ _ _ => rfl, fun _ _ _ _ => rfl, fun _ _ _ _ => rfl⟩

def withinS (t : Tab) : List SV → Option SV
  | [.c (.i .i64 a), .c (.i .i64 n)] => bif decide (1 ≤ n) && decide (n ≤ 9223372036854775807) then some (.c (.i .i64 (a % n))) else none
  | [.c (.ei .i64 e), .c (.i .i64 n)] => bif decide (1 ≤ n) && decide (n ≤ 9223372036854775807) then
      match (match e with | .vi j => t.look j n | _ => none) with
      | some c => some (.c (.i .i64 c))
      | none => some (.c (.ei .i64 (.ai 9 0 (.ci e (.ci (.li n) .n0)))))
    else none
  | _ => none
theorem withinS_holds (hV : StdV V) {f : Nat} (hw : ∀ (a n : Int) (w : World), 1 ≤ n → n ≤ 9223372036854775807 → Calls P f #[.int .i64 a, .int .i64 n] w fun e w' => e = .returned (.int .i64 (a % n)) ∧ Go.RowKit.Below w.heap.size w w') {t : Tab} (ht : TabOK V t) : Holds P V f (withinS t) := by
  intro args v h ρ vs w hargs
  unfold withinS at h
  split at h
  · rename_i a n
    cases hc : (decide (1 ≤ n) && decide (n ≤ 9223372036854775807)) <;> rw [hc] at h
    · cases h
    · simp only [cond_true, Option.some.injEq] at h
      subst h
      simp only [Bool.and_eq_true, decide_eq_true_eq] at hc
      obtain ⟨u1, u2, rfl, h1, h2⟩ := args_two hargs
      have h1 : u1 = .int .i64 a := h1
      have h2 : u2 = .int .i64 n := h2
      subst h1; subst h2
      exact (hw a n w hc.1 hc.2).mono fun e w' ⟨he, hb⟩ => ⟨_, he, rfl, hb⟩
  · rename_i e n
    cases hc : (decide (1 ≤ n) && decide (n ≤ 9223372036854775807)) <;> rw [hc] at h
    · cases h
    · simp only [cond_true] at h
      simp only [Bool.and_eq_true, decide_eq_true_eq] at hc
      obtain ⟨u1, u2, rfl, h1, h2⟩ := args_two hargs
      have h1 : u1 = .int .i64 (evI V e) := h1
      have h2 : u2 = .int .i64 n := h2
      subst h1; subst h2
      split at h
      · rename_i c hl
        simp only [Option.some.injEq] at h
        subst h
        split at hl
        · rename_i j
          exact (hw _ n w hc.1 hc.2).mono fun e w' ⟨he, hb⟩ => ⟨_, he, by
            have := look_tab ht hl
            show Value.int .i64 (evI V (.vi j) % n) = .int .i64 c
            rw [← this]; rfl, hb⟩
        · cases hl
      · simp only [Option.some.injEq] at h
        subst h
        exact (hw _ n w hc.1 hc.2).mono fun e' w' ⟨he, hb⟩ => ⟨_, he, by
          show Value.int .i64 (evI V e % n) = .int .i64 (evI V (.ai 9 0 (.ci e (.ci (.li n) .n0))))
          simp [evI, evS, hV.i, stdI], hb⟩
  · cases h

theorem sameB_FR {x y x' y' : Nat} (h : FR x x') (g : FR y y') : sameB x y = sameB x' y' := by
  unfold sameB; rw [eqB_FR h g, h.nan, g.nan]
theorem sameB_self (x : Nat) : sameB x x = true := by
  unfold sameB
  cases h : isN x
  · have : eqB x x = true := by rw [eqB_self, h]; rfl
    rw [this]; rfl
  · simp
def sameF : List SV → Option SV
  | [.c x, .c y] => match x.toF, y.toF with
    | some a, some b => if a = b then some (.c (.b true)) else match a, b with
      | .lf a, .lf b => some (.c (.b (sameB a b)))
      | a, b => some (.c (.eb (.ab 8 0 (.cf a (.cf b .n0)))))
    | _, _ => none
  | _ => none
theorem same_holds (hV : StdV V) {f : Nat} (hw : ∀ (a b : Nat) (w : World), Calls P f #[.float .f64 a, .float .f64 b] w fun e w' => e = .returned (.bool (sameB a b)) ∧ w = w') : Holds P V f sameF := by
  intro args v h ρ vs w hargs
  unfold sameF at h
  split at h
  · rename_i x y
    obtain ⟨u1, u2, rfl, h1, h2⟩ := args_two hargs
    split at h
    · rename_i a b ha hb
      obtain ⟨x', rfl, hx⟩ := toF_ok ha h1
      obtain ⟨y', rfl, hy⟩ := toF_ok hb h2
      have hs := sameB_FR hx hy
      have main : ∀ v, VR V ρ v (.bool (sameB (evF V a) (evF V b))) → Calls P f #[.float .f64 x', .float .f64 y'] w fun e w' => ∃ rv, e = .returned rv ∧ VR V ρ v rv ∧ Go.RowKit.Below w.heap.size w w' := fun v hv =>
        (hw x' y' w).mono fun e w' ⟨he, hb⟩ => ⟨_, he, by rw [← hs]; exact hv, by subst hb; exact Go.RowKit.Below.refl _ _⟩
      split at h
      · rename_i hab
        simp only [Option.some.injEq] at h
        subst h; subst hab
        exact main _ (by rw [sameB_self]; rfl)
      · split at h
        · simp only [Option.some.injEq] at h
          subst h
          exact main _ rfl
        · simp only [Option.some.injEq] at h
          subst h
          exact main _ (by simp [VR, CR, evB, evS, hV.b, stdB])
    · cases h
  · cases h

/-- Ldexp, of any number. -/
def ldexpS : List SV → Option SV
  | [.c x, .c (.i .i64 k)] => bif decide (-4611686018427387904 ≤ k) && decide (k ≤ 4611686018427387904) then
      match x.toF with
      | some (.lf x) => some (.c (.f (ldexpB (canon x) k)))
      | some e => some (.c (.ef (.af 7 0 (.cf e (.ci (.li k) .n0)))))
      | none => none
    else none
  | _ => none
theorem ldexpS_holds (hV : StdV V) {f : Nat} (hl : ∀ (x : Nat) (k : Int) (w : World), x < 18446744073709551616 → -4611686018427387904 ≤ k → k ≤ 4611686018427387904 → Calls P f #[.float .f64 x, .int .i64 k] w fun e w' => e = .returned (.float .f64 (ldexpB x k)) ∧ w = w') : Holds P V f ldexpS := by
  intro args v h ρ vs w hargs
  unfold ldexpS at h
  split at h
  · rename_i x k
    obtain ⟨u1, u2, rfl, hx, hk⟩ := args_two hargs
    have hk : u2 = .int .i64 k := hk
    subst hk
    cases h1 : (decide (-4611686018427387904 ≤ k) && decide (k ≤ 4611686018427387904)) <;> rw [h1] at h
    · cases h
    · simp only [cond_true] at h
      simp only [Bool.and_eq_true, decide_eq_true_eq] at h1
      split at h
      · rename_i x' he
        simp only [Option.some.injEq] at h
        subst h
        obtain ⟨y, rfl, hy⟩ := toF_ok he hx
        exact (hl y k w hy.2 h1.1 h1.2).mono fun e w' ⟨he, hb⟩ => ⟨_, he, ⟨_, rfl, ldexp_FR hy k⟩, by subst hb; exact Go.RowKit.Below.refl _ _⟩
      · rename_i e _ he
        simp only [Option.some.injEq] at h
        subst h
        obtain ⟨y, rfl, hy⟩ := toF_ok he hx
        exact (hl y k w hy.2 h1.1 h1.2).mono fun e' w' ⟨he, hb⟩ => ⟨_, he, ⟨_, rfl, by
          have := ldexp_FR hy k
          simpa [evF, evI, evS, hV.f, stdF] using this⟩, by subst hb; exact Go.RowKit.Below.refl _ _⟩
      · cases h
  · cases h

/-- A function of one float, by its number. -/
def un1 (j : Nat) (G : Nat → Nat) : List SV → Option SV
  | [.c x] => match x.toF with
    | some (.lf x) => some (.c (.f (G x)))
    | some e => some (.c (.ef (.af j 0 (.cf e .n0))))
    | none => none
  | _ => none
theorem un1_holds (hV : StdV V) {f j : Nat} (hj : j < 20) {G H : Nat → Nat} (hst : ∀ x, stdF j 0 [.f x] = G x) (hGH : ∀ x y, FR x y → FR (G x) (H y)) (hl : ∀ (x : Nat) (w : World), x < 18446744073709551616 → Calls P f #[.float .f64 x] w fun e w' => e = .returned (.float .f64 (H x)) ∧ w = w') : Holds P V f (un1 j G) := by
  intro args v h ρ vs w hargs
  unfold un1 at h
  split at h
  · rename_i x
    obtain ⟨u1, rfl, hx⟩ := args_one hargs
    split at h
    · rename_i x' he
      simp only [Option.some.injEq] at h
      subst h
      obtain ⟨y, rfl, hy⟩ := toF_ok he hx
      exact (hl y w hy.2).mono fun e w' ⟨he, hb⟩ => ⟨_, he, ⟨_, rfl, hGH _ _ hy⟩, by subst hb; exact Go.RowKit.Below.refl _ _⟩
    · rename_i e _ he
      simp only [Option.some.injEq] at h
      subst h
      obtain ⟨y, rfl, hy⟩ := toF_ok he hx
      exact (hl y w hy.2).mono fun e' w' ⟨he, hb⟩ => ⟨_, he, ⟨_, rfl, by
        have := hGH _ _ hy
        simpa [evF, evS, hV.f _ _ _ hj, hst] using this⟩, by subst hb; exact Go.RowKit.Below.refl _ _⟩
    · cases h
  · cases h
def absS : List SV → Option SV := un1 10 fun x => canon x % p63
theorem absS_holds (hV : StdV V) {f : Nat} (hw : ∀ (x : Nat) (w : World), x < 18446744073709551616 → Calls P f #[.float .f64 x] w fun e w' => e = .returned (.float .f64 (x % 9223372036854775808)) ∧ w = w') : Holds P V f absS :=
  un1_holds hV (by decide) (fun _ => rfl) (fun _ _ h => abs_FR h) hw
/-- Nextafter, to either infinity. -/
def nextS : List SV → Option SV
  | [x, .c (.f y)] => bif Nat.beq y 9218868437227405312 then un1 11 (fun x => upB (canon x)) [x] else bif Nat.beq y 18442240474082181120 then un1 12 (fun x => downB (canon x)) [x] else none
  | _ => none
theorem un1_two (hV : StdV V) {f j z : Nat} (hj : j < 20) {G H : Nat → Nat} (hz : isN z = false) (hst : ∀ x, stdF j 0 [.f x] = G x) (hGH : ∀ x y, FR x y → FR (G x) (H y)) (hl : ∀ (x : Nat) (w : World), x < 18446744073709551616 → Calls P f #[.float .f64 x, .float .f64 z] w fun e w' => e = .returned (.float .f64 (H x)) ∧ w = w')
    {x v : SV} (h : un1 j G [x] = some v) {ρ : Rho} {vs : Array Value} {w : World} (hargs : All2 (VR V ρ) [x, .c (.f z)] vs.toList) : Calls P f vs w fun e w' => ∃ rv, e = .returned rv ∧ VR V ρ v rv ∧ Go.RowKit.Below w.heap.size w w' := by
  obtain ⟨u1, u2, rfl, hx, ⟨z', rfl, h2⟩⟩ := args_two hargs
  have := h2.known hz
  subst this
  unfold un1 at h
  split at h
  · rename_i x hh
    simp only [List.cons.injEq, and_true] at hh
    subst hh
    split at h
    · rename_i x' he
      simp only [Option.some.injEq] at h
      subst h
      obtain ⟨y, rfl, hy⟩ := toF_ok he hx
      exact (hl y w hy.2).mono fun e w' ⟨he, hb⟩ => ⟨_, he, ⟨_, rfl, hGH _ _ hy⟩, by subst hb; exact Go.RowKit.Below.refl _ _⟩
    · rename_i e _ he
      simp only [Option.some.injEq] at h
      subst h
      obtain ⟨y, rfl, hy⟩ := toF_ok he hx
      exact (hl y w hy.2).mono fun e' w' ⟨he, hb⟩ => ⟨_, he, ⟨_, rfl, by
        have := hGH _ _ hy
        simpa [evF, evS, hV.f _ _ _ hj, hst] using this⟩, by subst hb; exact Go.RowKit.Below.refl _ _⟩
    · cases h
  · cases h
theorem nextS_holds (hV : StdV V) {f : Nat} (hup : ∀ (x : Nat) (w : World), x < 18446744073709551616 → Calls P f #[.float .f64 x, .float .f64 9218868437227405312] w fun e w' => e = .returned (.float .f64 (upB x)) ∧ w = w')
    (hdown : ∀ (x : Nat) (w : World), x < 18446744073709551616 → Calls P f #[.float .f64 x, .float .f64 18442240474082181120] w fun e w' => e = .returned (.float .f64 (downB x)) ∧ w = w') : Holds P V f nextS := by
  intro args v h ρ vs w hargs
  unfold nextS at h
  split at h
  · rename_i x y
    cases h1 : Nat.beq y 9218868437227405312 <;> rw [h1] at h
    · cases h2 : Nat.beq y 18442240474082181120 <;> rw [h2] at h
      · cases h
      · simp only [cond_false, cond_true] at h
        have := Nat.eq_of_beq_eq_true h2
        subst this
        exact un1_two (j := 12) (G := fun x => downB (canon x)) (H := downB) hV (by decide) (by decide) (fun _ => rfl) (fun _ _ h => down_FR h) hdown h hargs
    · simp only [cond_true] at h
      have := Nat.eq_of_beq_eq_true h1
      subst this
      exact un1_two (j := 11) (G := fun x => upB (canon x)) (H := upB) hV (by decide) (by decide) (fun _ => rfl) (fun _ _ h => up_FR h) hup h hargs
  · cases h

/-! ### Slices that are handed in -/
/-- Of a slice of whole numbers that was handed in: none, or one that lies there. -/
def intsArr (zs : List Int) : Array Value := (zs.map fun n => Value.int .i64 n).toArray
end Go.Proofs.Ytbepaoliboooaaa.Ex
