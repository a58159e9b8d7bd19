/-
  The runner beside Go's machine: what is known of math's functions, of numbers that are known.
-/
import Derived.Test.YtbepaoliboooaaaExq
namespace Go.Proofs.Ytbepaoliboooaaa.Ex
open Go
variable {P : Program} {V : Val}

theorem FR.known {x y : Nat} (h : FR x y) (hx : isN x = false) : y = x := by
  have := h.nan
  rw [hx] at this
  have e := h.1
  rw [canon_num hx, canon_num this.symm] at e
  exact e.symm
theorem upB_lt' {x : Nat} (hx : x < 18446744073709551616) : upB x < 18446744073709551616 := by
  cases hn : isN x
  · exact (up_key hx hn).2.2
  · unfold upB; rw [if_pos hn]; decide
theorem downB_lt' {x : Nat} (hx : x < 18446744073709551616) : downB x < 18446744073709551616 := by
  cases hn : isN x
  · exact (down_key hx hn).2.2
  · unfold downB; rw [if_pos hn]; decide
theorem up_FR {x y : Nat} (h : FR x y) : FR (upB (canon x)) (upB y) := by
  refine ⟨?_, upB_lt' h.2⟩
  rw [h.1]
  cases hn : isN y
  · rw [canon_num hn]
  · have h1 : canon y = nanB := by unfold canon; rw [hn]; rfl
    have h2 : upB y = nanB := by unfold upB; rw [if_pos hn]
    rw [h1, h2]; decide
theorem down_FR {x y : Nat} (h : FR x y) : FR (downB (canon x)) (downB y) := by
  refine ⟨?_, downB_lt' h.2⟩
  rw [h.1]
  cases hn : isN y
  · rw [canon_num hn]
  · have h1 : canon y = nanB := by unfold canon; rw [hn]; rfl
    have h2 : downB y = nanB := by unfold downB; rw [if_pos hn]
    rw [h1, h2]; decide

theorem args_one {R : SV → Value → Prop} {a : SV} {vs : Array Value} (h : All2 R [a] vs.toList) : ∃ v, vs = #[v] ∧ R a v := by
  match hl : vs.toList, h with
  | [x], h => exact ⟨x, Array.ext' hl, h.1⟩
  | [], h => exact h.elim
  | _ :: _ :: _, h => exact h.2.elim
theorem args_two {R : SV → Value → Prop} {a b : SV} {vs : Array Value} (h : All2 R [a, b] vs.toList) : ∃ v u, vs = #[v, u] ∧ R a v ∧ R b u := by
  match hl : vs.toList, h with
  | [x, y], h => exact ⟨x, y, Array.ext' hl, h.1, h.2.1⟩
  | [], h => exact h.elim
  | [_], h => exact h.2.elim
  | _ :: _ :: _ :: _, h => exact h.2.2.elim

/-- Nextafter, to either infinity. -/
def nextF : List SV → Option SV
  | [.c (.f x), .c (.f y)] => bif Nat.beq y 9218868437227405312 then some (.c (.f (upB (canon x)))) else bif Nat.beq y 18442240474082181120 then some (.c (.f (downB (canon x)))) else none
  | _ => none
theorem next_holds {f : Nat} (hup : ∀ (x : Nat) (w : World), x < 18446744073709551616 → Calls P f #[.float .f64 x, .float .f64 9218868437227405312] w fun e w' => e = .returned (.float .f64 (upB x)) ∧ w = w')
    (hdown : ∀ (x : Nat) (w : World), x < 18446744073709551616 → Calls P f #[.float .f64 x, .float .f64 18442240474082181120] w fun e w' => e = .returned (.float .f64 (downB x)) ∧ w = w') : Holds P V f nextF := by
  intro args v h ρ vs w hargs
  unfold nextF at h
  split at h
  · rename_i x y
    obtain ⟨u1, u2, rfl, ⟨x', rfl, hx⟩, ⟨y', rfl, hy⟩⟩ := args_two hargs
    cases h1 : Nat.beq y 9218868437227405312 <;> rw [h1] at h
    · cases h2 : Nat.beq y 18442240474082181120 <;> rw [h2] at h
      · cases h
      · simp only [cond_false, cond_true, Option.some.injEq] at h
        subst h
        have := Nat.eq_of_beq_eq_true h2
        subst this
        have := hy.known (by decide)
        subst this
        exact (hdown x' w hx.2).mono fun e w' ⟨he, hb⟩ => ⟨_, he, ⟨_, rfl, down_FR hx⟩, by subst hb; exact Go.RowKit.Below.refl _ _⟩
    · simp only [cond_true, Option.some.injEq] at h
      subst h
      have := Nat.eq_of_beq_eq_true h1
      subst this
      have := hy.known (by decide)
      subst this
      exact (hup x' w hx.2).mono fun e w' ⟨he, hb⟩ => ⟨_, he, ⟨_, rfl, up_FR hx⟩, by subst hb; exact Go.RowKit.Below.refl _ _⟩
  · cases h

def infF : List SV → Option SV
  | [.c (.i .i64 n)] => bif decide (n = 1) then some (.c (.f 9218868437227405312)) else bif decide (n = -1) then some (.c (.f 18442240474082181120)) else none
  | _ => none
theorem inf_holds {f : Nat} (hp : ∀ (w : World), Calls P f #[.int .i64 1] w fun e w' => e = .returned (.float .f64 9218868437227405312) ∧ w = w')
    (hn : ∀ (w : World), Calls P f #[.int .i64 (-1)] w fun e w' => e = .returned (.float .f64 18442240474082181120) ∧ w = w') : Holds P V f infF := by
  intro args v h ρ vs w hargs
  unfold infF at h
  split at h
  · rename_i n
    obtain ⟨u1, rfl, hu⟩ := args_one hargs
    have hu : u1 = .int .i64 n := hu
    subst hu
    cases h1 : decide (n = 1) <;> rw [h1] at h
    · cases h2 : decide (n = -1) <;> rw [h2] at h
      · cases h
      · simp only [cond_false, cond_true, Option.some.injEq] at h
        subst h
        have := of_decide_eq_true h2
        subst this
        exact (hn w).mono fun e w' ⟨he, hb⟩ => ⟨_, he, ⟨_, rfl, rfl, by decide⟩, by subst hb; exact Go.RowKit.Below.refl _ _⟩
    · simp only [cond_true, Option.some.injEq] at h
      subst h
      have := of_decide_eq_true h1
      subst this
      exact (hp w).mono fun e w' ⟨he, hb⟩ => ⟨_, he, ⟨_, rfl, rfl, by decide⟩, by subst hb; exact Go.RowKit.Below.refl _ _⟩
  · cases h
theorem ldexpB_lt' {x : Nat} {k : Int} (hx : x < 18446744073709551616) : ldexpB x k < 18446744073709551616 := by
  unfold ldexpB
  split
  · exact hx
  · exact word_lt _ (rungOf_le_inf _ _)
theorem ldexp_FR {x y : Nat} (h : FR x y) (k : Int) : FR (ldexpB (canon x) k) (ldexpB y k) := by
  refine ⟨?_, ldexpB_lt' h.2⟩
  rw [h.1]
  cases hn : isN y
  · rw [canon_num hn]
  · have h1 : canon y = nanB := by unfold canon; rw [hn]; rfl
    have h2 : ldexpB y k = y := by
      unfold ldexpB
      rw [if_pos]
      right
      unfold isN at hn
      simp only [decide_eq_true_eq] at hn
      omega
    have h3 : ldexpB nanB k = nanB := by unfold ldexpB; rw [if_pos (by decide)]
    rw [h1, h2, h3, h1]; decide
def ldexpF : List SV → Option SV
  | [.c (.f x), .c (.i .i64 k)] => bif decide (-4611686018427387904 ≤ k) && decide (k ≤ 4611686018427387904) then some (.c (.f (ldexpB (canon x) k))) else none
  | _ => none
theorem ldexp_holds {f : Nat} (hl : ∀ (x : Nat) (k : Int) (w : World), x < 18446744073709551616 → -4611686018427387904 ≤ k → k ≤ 4611686018427387904 → Calls P f #[.float .f64 x, .int .i64 k] w fun e w' => e = .returned (.float .f64 (ldexpB x k)) ∧ w = w') : Holds P V f ldexpF := by
  intro args v h ρ vs w hargs
  unfold ldexpF at h
  split at h
  · rename_i x k
    obtain ⟨u1, u2, rfl, ⟨x', rfl, hx⟩, hk⟩ := args_two hargs
    have hk : u2 = .int .i64 k := hk
    subst hk
    cases h1 : (decide (-4611686018427387904 ≤ k) && decide (k ≤ 4611686018427387904)) <;> rw [h1] at h
    · cases h
    · simp only [cond_true, Option.some.injEq] at h
      subst h
      simp only [Bool.and_eq_true, decide_eq_true_eq] at h1
      exact (hl x' k w hx.2 h1.1 h1.2).mono fun e w' ⟨he, hb⟩ => ⟨_, he, ⟨_, rfl, ldexp_FR hx k⟩, by subst hb; exact Go.RowKit.Below.refl _ _⟩
  · cases h
def nanF : List SV → Option SV
  | [] => some (.c (.f nanB))
  | _ => none
theorem nan_holds {f : Nat} (hn : ∀ (w : World), Calls P f #[] w fun e w' => e = .returned (.float .f64 nanB) ∧ w = w') : Holds P V f nanF := by
  intro args v h ρ vs w hargs
  unfold nanF at h
  split at h
  · simp only [Option.some.injEq] at h
    subst h
    match hl : vs.toList, hargs with
    | [], _ =>
      have : vs = #[] := Array.ext' hl
      subst this
      exact (hn w).mono fun e w' ⟨he, hb⟩ => ⟨_, he, ⟨_, rfl, rfl, by decide⟩, by subst hb; exact Go.RowKit.Below.refl _ _⟩
    | _ :: _, hargs => exact hargs.elim
  · cases h
end Go.Proofs.Ytbepaoliboooaaa.Ex
