/-
  The runner beside Go's machine: both ways of what is not known, joined in what is told; names that stand for few numbers, each tried.
-/
import Derived.Test.YtbepaoliboooaaaExv
namespace Go.Proofs.Ytbepaoliboooaaa.Ex
open Go
variable {P : Program} {V : Val}

/-- What is told, joined where the ways part. -/
def runM : Nat → (Gam → Res (SV × T Blk × Nat)) → Gam → Option SV
  | 0, _, _ => none
  | n + 1, run, g => match run g with
    | .ok (v, _, _) => some v
    | .need e => match runM n run (g.add e true), runM n run (g.add e false) with
      | some v, some u => mergeV e v u
      | _, _ => none
    | _ => none
theorem runM_ok {run : Gam → Res (SV × T Blk × Nat)} : ∀ {n : Nat} {g : Gam} {v : SV}, GamOK V g → runM n run g = some v → ∃ g' u hp nx, GamOK V g' ∧ run g' = .ok (u, hp, nx) ∧ ∀ ρ rv, VR V ρ u rv → VR V ρ v rv
  | 0, _, _, _, h => by cases h
  | n + 1, g, v, hg, h => by
    unfold runM at h
    split at h
    · rename_i u hp nx hr
      simp only [Option.some.injEq] at h
      subst h
      exact ⟨g, _, hp, nx, hg, hr, fun _ _ h => h⟩
    · rename_i e hr
      split at h
      · rename_i a b ha hb
        cases he : evB V e
        · obtain ⟨g', u, hp, nx, h1, h2, h3⟩ := runM_ok (gam_cons hg he) hb
          exact ⟨g', u, hp, nx, h1, h2, fun ρ rv hv => mergeV_ok (t := false) he h ρ rv (h3 ρ rv hv)⟩
        · obtain ⟨g', u, hp, nx, h1, h2, h3⟩ := runM_ok (gam_cons hg he) ha
          exact ⟨g', u, hp, nx, h1, h2, fun ρ rv hv => mergeV_ok (t := true) he h ρ rv (h3 ρ rv hv)⟩
      · cases h
    · cases h

/-- Made of the first so many floats alone. -/
def few (n : Nat) : E → Bool
  | .vi _ | .vb _ | .vl _ | .at _ _ | .atf _ _ => false
  | .vf i => Nat.blt i n
  | .li _ | .lf _ | .lb _ | .n0 => true
  | .ib _ _ a b | .ic _ a b | .fb _ a b | .fc _ a b | .an a b | .ci a b | .cf a b | .cb a b => few n a && few n b
  | .nt a | .iw _ a | .i2f a | .fneg a | .ai _ _ a | .af _ _ a | .ab _ _ a => few n a
  | .ti c a b | .tf c a b | .tb c a b => few n c && (few n a && few n b)
theorem few_same {n : Nat} {V W : Val} (hf : ∀ i, i < n → V.f i = W.f i) (h1 : V.fi = W.fi) (h2 : V.ff = W.ff) (h3 : V.fb = W.fb) : ∀ e : E, few n e = true → evI V e = evI W e ∧ evF V e = evF W e ∧ evB V e = evB W e ∧ evS V e = evS W e := by
  intro e
  induction e with
  | vf i => intro h; exact ⟨rfl, hf i (Nat.lt_of_lt_of_le (Nat.lt_succ_self i) (Nat.le_of_ble_eq_true h)), rfl, rfl⟩
  | vi => intro h; cases h
  | vb => intro h; cases h
  | vl => intro h; cases h
  | «at» => intro h; cases h
  | atf => intro h; cases h
  | li => intro _; exact ⟨rfl, rfl, rfl, rfl⟩
  | lf => intro _; exact ⟨rfl, rfl, rfl, rfl⟩
  | lb => intro _; exact ⟨rfl, rfl, rfl, rfl⟩
  | n0 => intro _; exact ⟨rfl, rfl, rfl, rfl⟩
  | ib _ _ a b iha ihb | ic _ a b iha ihb | fb _ a b iha ihb | fc _ a b iha ihb | an a b iha ihb | ci a b iha ihb | cf a b iha ihb | cb a b iha ihb =>
    intro h
    unfold few at h
    rw [Bool.and_eq_true] at h
    obtain ⟨a1, a2, a3, a4⟩ := iha h.1
    obtain ⟨b1, b2, b3, b4⟩ := ihb h.2
    simp only [evI, evF, evB, evS, a1, a2, a3, b1, b2, b3, b4, and_self]
  | nt a iha | iw _ a iha | i2f a iha | fneg a iha | ai _ _ a iha | af _ _ a iha | ab _ _ a iha =>
    intro h
    unfold few at h
    obtain ⟨a1, a2, a3, a4⟩ := iha h
    simp only [evI, evF, evB, evS, a1, a2, a3, a4, h1, h2, h3, and_self]
  | ti c a b ihc iha ihb | tf c a b ihc iha ihb | tb c a b ihc iha ihb =>
    intro h
    unfold few at h
    rw [Bool.and_eq_true, Bool.and_eq_true] at h
    obtain ⟨c1, c2, c3, c4⟩ := ihc h.1
    obtain ⟨a1, a2, a3, a4⟩ := iha h.2.1
    obtain ⟨b1, b2, b3, b4⟩ := ihb h.2.2
    simp only [evI, evF, evB, evS, a1, a2, a3, b1, b2, b3, c3, and_self]
end Go.Proofs.Ytbepaoliboooaaa.Ex
