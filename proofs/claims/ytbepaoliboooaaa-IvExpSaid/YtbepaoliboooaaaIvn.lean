/-
  The runner beside Go's machine: iv's functions, of whatever ends, by their names.
-/
import Derived.Test.YtbepaoliboooaaaExs
import Derived.Test.YtbepaoliboooaaaIvs
namespace Go.Proofs.Ytbepaoliboooaaa.Ex
open Go
variable {P : Program} {V : Val}

/-- What the names of iv's functions stand for. -/
def ivX : Nat → Nat → List Sc → Nat
  | 20, 0, [.f a, .f b, .f c, .f d] => (addP a b c d).1
  | 20, 1, [.f a, .f b, .f c, .f d] => (addP a b c d).2
  | 21, 0, [.f a, .f b, .f c, .f d] => (subP a b c d).1
  | 21, 1, [.f a, .f b, .f c, .f d] => (subP a b c d).2
  | 22, 0, [.f a, .f b, .f c, .f d] => (mulP a b c d).1
  | 22, 1, [.f a, .f b, .f c, .f d] => (mulP a b c d).2
  | 23, 0, [.f a, .f b, .f c, .f d] => (divP a b c d).1
  | 23, 1, [.f a, .f b, .f c, .f d] => (divP a b c d).2
  | 24, 0, [.f a, .f b] => magB (canon a) (canon b)
  | _, _, _ => 0
structure IvV (V : Val) : Prop extends StdV V where
  x : ∀ j i args, 20 ≤ j → j < 30 → V.ff j i args = ivX j i args
def f4 (a b c d : E) : E := .cf a (.cf b (.cf c (.cf d .n0)))
def ivN2 (j : Nat) (G : Nat → Nat → Nat → Nat → Nat × Nat) : E → E → E → E → SV
  | .lf a, .lf b, .lf c, .lf d => pairS (G a b c d)
  | a, b, c, d => .ag [.ef (.af j 0 (f4 a b c d)), .ef (.af j 1 (f4 a b c d))]
def ivN (j : Nat) (G : Nat → Nat → Nat → Nat → Nat × Nat) : List SV → Option SV
  | [.ag [a, b], .ag [c, d]] => match a.toF, b.toF, c.toF, d.toF with
    | some a, some b, some c, some d => some (ivN2 j G a b c d)
    | _, _, _, _ => none
  | _ => none
theorem ivE_of {ρ : Rho} {a b : C} {ea eb : E} (ha : a.toF = some ea) (hb : b.toF = some eb) {v : Value} (h : VR V ρ (.ag [a, b]) v) : ∃ x y, v = iv x y ∧ FR (evF V ea) x ∧ FR (evF V eb) y := by
  obtain ⟨vs, rfl, h⟩ := h
  match hl : vs.toList, h with
  | [u, w], h =>
    obtain ⟨x, rfl, hx⟩ := toF_ok ha h.1
    obtain ⟨y, rfl, hy⟩ := toF_ok hb h.2.1
    exact ⟨x, y, by rw [show vs = #[.float .f64 x, .float .f64 y] from Array.ext' hl], hx, hy⟩
  | [], h => exact h.elim
  | [_], h => exact h.2.elim
  | _ :: _ :: _ :: _, h => exact h.2.2.elim
theorem ivN_holds {f j : Nat} {spec : Nat → Nat → Nat → Nat → Nat × Nat} (hx0 : ∀ a b c d, V.ff j 0 [.f a, .f b, .f c, .f d] = (spec a b c d).1) (hx1 : ∀ a b c d, V.ff j 1 [.f a, .f b, .f c, .f d] = (spec a b c d).2)
    (hs : ∀ a b c d a' b' c' d', FR a a' → FR b b' → FR c c' → FR d d' → spec a b c d = spec a' b' c' d')
    (hl : ∀ a b c d, (spec a b c d).1 < 18446744073709551616 ∧ (spec a b c d).2 < 18446744073709551616)
    (hw : ∀ (a b c d : Nat) (w : World), Calls P f #[iv a b, iv c d] w (Gives (iv (spec a b c d).1 (spec a b c d).2) w)) : Holds P V f (ivN j spec) := by
  intro args v h ρ vs w hargs
  unfold ivN at h
  split at h
  · rename_i a b c d
    split at h
    · rename_i ea eb ec ed e1 e2 e3 e4
      simp only [Option.some.injEq] at h
      subst h
      obtain ⟨u1, u2, rfl, h1, h2⟩ := args_two hargs
      obtain ⟨a', b', rfl, ha, hb⟩ := ivE_of e1 e2 h1
      obtain ⟨c', d', rfl, hc, hd⟩ := ivE_of e3 e4 h2
      have he := hs _ _ _ _ a' b' c' d' ha hb hc hd
      have hlt := hl a' b' c' d'
      refine (hw a' b' c' d' w).mono fun e w' ⟨hr, hbl⟩ => ⟨_, hr, ?_, hbl⟩
      rw [← he] at hlt ⊢
      unfold ivN2
      split
      · exact ⟨_, rfl, ⟨_, rfl, rfl, hlt.1⟩, ⟨_, rfl, rfl, hlt.2⟩, trivial⟩
      · refine ⟨_, rfl, ⟨_, rfl, ?_, hlt.1⟩, ⟨_, rfl, ?_, hlt.2⟩, trivial⟩
        · simp only [evF, evS, f4, hx0]
        · simp only [evF, evS, f4, hx1]
    · cases h
  · cases h
theorem addN_holds (hV : IvV V) : Holds Try.prog V 31 (ivN 20 addP) := ivN_holds (fun _ _ _ _ => by rw [hV.x _ _ _ (by decide) (by decide)]; rfl) (fun _ _ _ _ => by rw [hV.x _ _ _ (by decide) (by decide)]; rfl) addP_FR addP_lt fun a b c d w => by have h := add_any a b c d w; rw [outP_eq] at h; exact h
theorem subN_holds (hV : IvV V) : Holds Try.prog V 33 (ivN 21 subP) := ivN_holds (fun _ _ _ _ => by rw [hV.x _ _ _ (by decide) (by decide)]; rfl) (fun _ _ _ _ => by rw [hV.x _ _ _ (by decide) (by decide)]; rfl) subP_FR subP_lt fun a b c d w => by have h := sub_any a b c d w; rw [outP_eq] at h; exact h
theorem mulN_holds (hV : IvV V) : Holds Try.prog V 35 (ivN 22 mulP) := ivN_holds (fun _ _ _ _ => by rw [hV.x _ _ _ (by decide) (by decide)]; rfl) (fun _ _ _ _ => by rw [hV.x _ _ _ (by decide) (by decide)]; rfl) mulP_FR mulP_lt fun a b c d w => by have h := mul_any a b c d w; rw [show mulI a b c d = _ from aroundP_eq _ _ _ _] at h; exact h
theorem divN_holds (hV : IvV V) : Holds Try.prog V 37 (ivN 23 divP) := ivN_holds (fun _ _ _ _ => by rw [hV.x _ _ _ (by decide) (by decide)]; rfl) (fun _ _ _ _ => by rw [hV.x _ _ _ (by decide) (by decide)]; rfl) divP_FR divP_lt fun a b c d w => by have h := div_any a b c d w; rw [divP_eq] at h; exact h
end Go.Proofs.Ytbepaoliboooaaa.Ex
