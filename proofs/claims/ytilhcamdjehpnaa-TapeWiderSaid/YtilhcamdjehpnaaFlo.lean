/-
  math.Floor: what it gives of a number; in runs, of small whole numbers by 4, by 8.
-/
import Derived.Test.YtilhcamdjehpnaaGj
import Derived.Test.YtilhcamdjehpnaaGk
import Derived.Test.YtilhcamdjehpnaaGl
namespace Go.Proofs.Ytilhcamdjehpnaa
open Go.RowKit

theorem call_floor (n : Nat) (w : World) (s : Bool) (m : Nat) (i : Int) (h : FloatKind.f64.decode n = .number s m i) : (callFunc 32 #[.float .f64 n]).run Try.prog w = .ok (.value (.float .f64 (FloatKind.f64.encode ((Ieee.Datum.number s m i).integral .down)))) w := by
  rw [run_callFunc_extern (e := Extern.MathFloor.toIntegral "math.archFloor" .down) Try.func32 (by kernel_rfl) (by kernel_rfl) (by kernel_rfl) (by kernel_rfl)]
  rw [show Extern.MathFloor.toIntegral "math.archFloor" .down #[.float .f64 n] = Extern.MathFloor.toIntegral.match_1 (motive := fun _ => Sem Value) (FloatKind.f64.decode n) _ _ from rfl, h]
  rfl
theorem floor_num (x : Nat) (w : World) (s : Bool) (m : Nat) (i : Int) (h : FloatKind.f64.decode x = .number s m i) : Calls Try.prog 14 #[.float .f64 x] w fun e w' => e = .returned (.float .f64 (FloatKind.f64.encode ((Ieee.Datum.number s m i).integral .down))) ∧ w = w' := by
  have hc := call_floor x w s m i h
  go_enter Try.func14, Try.ntmps14
  go_wp2
  go_ret
  exact ⟨rfl, rfl⟩

/-! ### In runs: of small whole numbers by 4, by 8 -/
/-- It is a number, and rounded down it is that. -/
def FlR (x r : Nat) : Prop := ∃ s m i, FloatKind.f64.decode x = .number s m i ∧ FloatKind.f64.encode ((Ieee.Datum.number s m i).integral .down) = r ∧ r < 18446744073709551616 ∧ isN x = false
def flChk (x r : Nat) : Bool := match FloatKind.f64.decode x with
  | .number s m i => decide (FloatKind.f64.encode ((Ieee.Datum.number s m i).integral .down) = r) && (decide (r < 18446744073709551616) && !isN x)
  | _ => false
theorem flChk_ok {x r : Nat} (h : flChk x r = true) : FlR x r := by
  unfold flChk at h
  split at h
  · rename_i s m i hd
    simp only [Bool.and_eq_true, decide_eq_true_eq, Bool.not_eq_true'] at h
    exact ⟨s, m, i, hd, h.1, h.2.1, h.2.2⟩
  · cases h
theorem fl_four : ∀ k : Nat, k < 129 → flChk (cop .quo (floatOfInt .f64 ((k : Int) - 64)) 4616189618054758400) (cop .quo (floatOfInt .f64 ((k : Int) - 64 - ((k : Int) - 64) % 4)) 4616189618054758400) = true := by decide +kernel
theorem fl_eight : ∀ k : Nat, k < 129 → flChk (cop .quo (floatOfInt .f64 ((k : Int) - 64)) 4620693217682128896) (cop .quo (floatOfInt .f64 ((k : Int) - 64 - ((k : Int) - 64) % 8)) 4620693217682128896) = true := by decide +kernel
theorem fl_zero : flChk 0 0 = true := by decide +kernel
theorem fl_at {d q : Nat} (h : ∀ k : Nat, k < 129 → flChk (cop .quo (floatOfInt .f64 ((k : Int) - 64)) d) (cop .quo (floatOfInt .f64 ((k : Int) - 64 - ((k : Int) - 64) % q)) d) = true) {n : Int} (h1 : -64 ≤ n) (h2 : n ≤ 64) : FlR (cop .quo (floatOfInt .f64 n) d) (cop .quo (floatOfInt .f64 (n - n % q)) d) := by
  have := h (n + 64).toNat (by omega)
  rw [show (((n + 64).toNat : Nat) : Int) - 64 = n by omega] at this
  exact flChk_ok this
end Go.Proofs.Ytilhcamdjehpnaa
namespace Go.Proofs.Ytilhcamdjehpnaa.Ex
open Go
variable {P : Program} {V : Val}
def lessE (a : E) (q : Int) (d : Nat) : E := .fb .quo (.i2f (.ib .sub .i64 a (.ai 9 0 (.ci a (.ci (.li q) .n0))))) (.lf d)
def flE : E → Option E
  | .tf c a b => match flE a, flE b with
    | some x, some y => some (.tf c x y)
    | _, _ => none
  | .lf x => bif Nat.beq x 0 then some (.lf 0) else none
  | .fb .quo (.i2f a) (.lf d) => match linI a with
    | some p => bif decide (-64 ≤ p.lo) && decide (p.hi ≤ 64) then (bif Nat.beq d 4616189618054758400 then some (lessE a 4 d) else bif Nat.beq d 4620693217682128896 then some (lessE a 8 d) else none) else none
    | none => none
  | _ => none
theorem lessE_ok (hV : StdV V) {a : E} {q d : Nat} (hq : 0 < q) (hq' : q ≤ 8) (h1 : -64 ≤ evI V a) (h2 : evI V a ≤ 64) : evF V (lessE a q d) = cop .quo (floatOfInt .f64 (evI V a - evI V a % q)) d := by
  show cop .quo (i2fV (wrapF .i64 (evI V a - V.fi 9 0 _))) d = _
  rw [hV.i _ _ _ (by decide)]
  show cop .quo (i2fV (wrapF .i64 (evI V a - evI V a % (q : Int)))) d = _
  have b1 := Int.emod_nonneg (evI V a) (show (q : Int) ≠ 0 by omega)
  have b2 := Int.emod_lt_of_pos (evI V a) (show (0 : Int) < q by omega)
  have : wrapF .i64 (evI V a - evI V a % (q : Int)) = evI V a - evI V a % (q : Int) := by
    unfold wrapF
    simp only
    rw [decide_eq_true (show -9223372036854775808 ≤ evI V a - evI V a % (q : Int) by omega), decide_eq_true (show evI V a - evI V a % (q : Int) < 9223372036854775808 by omega)]; rfl
  rw [this]; rfl
theorem flE_ok (hV : StdV V) : ∀ {e r : E}, flE e = some r → FlR (evF V e) (evF V r) := by
  intro e
  induction e with
  | tf c a b _ iha ihb =>
    intro r h
    unfold flE at h
    split at h
    · rename_i x y hx hy
      simp only [Option.some.injEq] at h
      subst h
      have h1 := iha hx
      have h2 := ihb hy
      simp only [evF]
      cases evB V c
      · exact h2
      · exact h1
    · cases h
  | lf x =>
    intro r h
    unfold flE at h
    cases hb : Nat.beq x 0 <;> rw [hb] at h
    · cases h
    · simp only [cond_true, Option.some.injEq] at h
      subst h
      have := Nat.eq_of_beq_eq_true hb
      subst this
      exact flChk_ok fl_zero
  | fb op u v _ _ =>
    intro r h
    unfold flE at h
    split at h
    · rename_i heq; cases heq
    · rename_i heq; cases heq
    · rename_i a d heq
      cases heq
      split at h
      · rename_i p hp
        have ho := linI_ok hV hp
        have b1 := ho.lo
        have b2 := ho.hi
        cases hc : (decide (-64 ≤ p.lo) && decide (p.hi ≤ 64)) <;> rw [hc] at h
        · cases h
        · simp only [cond_true] at h
          simp only [Bool.and_eq_true, decide_eq_true_eq] at hc
          cases h4 : Nat.beq d 4616189618054758400 <;> rw [h4] at h
          · simp only [cond_false] at h
            cases h8 : Nat.beq d 4620693217682128896 <;> rw [h8] at h
            · cases h
            · simp only [cond_true, Option.some.injEq] at h
              subst h
              have := Nat.eq_of_beq_eq_true h8
              subst this
              rw [show lessE a 8 4620693217682128896 = lessE a ((8 : Nat) : Int) 4620693217682128896 from rfl, lessE_ok hV (by decide) (by decide) (by omega) (by omega)]
              exact fl_at fl_eight (by omega) (by omega)
          · simp only [cond_true, Option.some.injEq] at h
            subst h
            have := Nat.eq_of_beq_eq_true h4
            subst this
            rw [show lessE a 4 4616189618054758400 = lessE a ((4 : Nat) : Int) 4616189618054758400 from rfl, lessE_ok hV (by decide) (by decide) (by omega) (by omega)]
            exact fl_at fl_four (by omega) (by omega)
      · cases h
    · cases h
  | _ => intro r h; unfold flE at h; cases h
def floorS : List SV → Option SV
  | [.c x] => match x.toF with
    | some e => match flE e with
      | some r => some (.c (.ef r))
      | none => none
    | none => none
  | _ => none
theorem floorS_holds (hV : StdV V) {f : Nat} (hw : ∀ (x : Nat) (w : World) (s : Bool) (m : Nat) (i : Int), FloatKind.f64.decode x = .number s m i → Calls P f #[.float .f64 x] w fun e w' => e = .returned (.float .f64 (FloatKind.f64.encode ((Ieee.Datum.number s m i).integral .down))) ∧ w = w') : Holds P V f floorS := by
  intro args v h ρ vs w hargs
  unfold floorS at h
  split at h
  · rename_i x
    split at h
    · rename_i e he
      split at h
      · rename_i r hr
        simp only [Option.some.injEq] at h
        subst h
        obtain ⟨s, m, i, h1, h2, h3, h4⟩ := flE_ok hV hr
        match hl : vs.toList, hargs with
        | [u], hargs =>
          have : vs = #[u] := Array.ext' hl
          subst this
          obtain ⟨y, rfl, hy⟩ := toF_ok he hargs.1
          have hyN : isN y = false := by rw [← hy.nan]; exact h4
          have : y = evF V e := by
            have := hy.1
            rw [canon_num h4, canon_num hyN] at this
            exact this.symm
          subst this
          exact (hw _ w s m i h1).mono fun e' w' ⟨he, hb⟩ => ⟨_, he, ⟨_, rfl, by rw [h2]; exact ⟨rfl, h3⟩⟩, by subst hb; exact Go.RowKit.Below.refl _ _⟩
        | [], hargs => exact hargs.elim
        | _ :: _ :: _, hargs => exact hargs.2.elim
      · cases h
    · cases h
  · cases h
end Go.Proofs.Ytilhcamdjehpnaa.Ex
