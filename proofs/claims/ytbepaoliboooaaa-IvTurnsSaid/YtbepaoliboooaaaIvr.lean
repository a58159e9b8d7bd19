/-
  The runner beside Go's machine: from-tos that are made, how far from 0, the bound of e to the x, by their names.
-/
import Derived.Test.YtbepaoliboooaaaIvm
import Derived.Test.YtbepaoliboooaaaExv
namespace Go.Proofs.Ytbepaoliboooaaa
open Go.RowKit

namespace Ex
open Go
variable {P : Program} {V : Val}
/-- What more names stand for: from-tos that are made; rare numbers; the bound of e to the x; how far from 0. -/
def mkX : Nat → Nat → List Sc → Nat
  | 30, 0, [.i m, .i k, .i v] => (mkP m k v).1
  | 30, 1, [.i m, .i k, .i v] => (mkP m k v).2
  | 31, 0, [.i n] => rareB (n % 10)
  | 32, 0, [.f x] => expB (canon x)
  | 33, 0, [.f a, .f b] => magB (canon a) (canon b)
  | 34, 0, [.i m, .i k] => numB m k
  | j, i, args => ivX j i args
structure MkV (V : Val) : Prop extends IvV V where
  y : ∀ j i args, 30 ≤ j → j < 40 → V.ff j i args = mkX j i args
theorem adM_ok (l : List AD) : MkV (adV l mkX) := by
  refine ⟨⟨adV_ok l mkX, fun j i args h h2 => ?_⟩, fun j i args h h2 => ?_⟩
  · show (if j < 20 then stdF j i args else mkX j i args) = _
    rw [if_neg (by omega)]
    unfold mkX
    split <;> first | omega | rfl
  · show (if j < 20 then stdF j i args else mkX j i args) = _
    rw [if_neg (by omega)]
def i3 (a b c : E) : E := .ci a (.ci b (.ci c .n0))
def toI64 : C → Option E
  | .i .i64 n => some (.li n)
  | .ei .i64 e => some e
  | _ => none
theorem toI64_ok {ρ : Rho} {c : C} {e : E} {v : Value} (h : toI64 c = some e) (hv : CR V ρ c v) : v = .int .i64 (evI V e) := by
  unfold toI64 at h
  split at h <;> simp only [Option.some.injEq, reduceCtorEq] at h
  · subst h; exact hv
  · subst h; exact hv
def makeS : List SV → Option SV
  | [.c a, .c b, .c c] => match toI64 a, toI64 b, toI64 c with
    | some a, some b, some c => some (.ag [.ef (.af 30 0 (i3 a b c)), .ef (.af 30 1 (i3 a b c))])
    | _, _, _ => none
  | _ => none
theorem args_three {ρ : Rho} {a b c : SV} {l : List Value} (h : All2 (VR V ρ) [a, b, c] l) : ∃ x y z, l = [x, y, z] ∧ VR V ρ a x ∧ VR V ρ b y ∧ VR V ρ c z := by
  match l, h with
  | [x, y, z], h => exact ⟨x, y, z, rfl, h.1, h.2.1, h.2.2.1⟩
  | [], h => exact h.elim
  | [_], h => exact h.2.elim
  | [_, _], h => exact h.2.2.elim
  | _ :: _ :: _ :: _ :: _, h => exact h.2.2.2.elim
theorem make_holds (hV : MkV V) : Holds Try.prog V 17 makeS := by
  intro args v h ρ vs w hargs
  unfold makeS at h
  split at h
  · rename_i a b c
    split at h
    · rename_i ea eb ec h1 h2 h3
      simp only [Option.some.injEq] at h
      subst h
      obtain ⟨x, y, z, hl, g1, g2, g3⟩ := args_three hargs
      have e1 := toI64_ok h1 g1
      have e2 := toI64_ok h2 g2
      have e3 := toI64_ok h3 g3
      obtain rfl : vs = #[.int .i64 (evI V ea), .int .i64 (evI V eb), .int .i64 (evI V ec)] := by
        apply Array.ext'; rw [hl, e1, e2, e3]
      refine (mkP_any (evI V ea) (evI V eb) (evI V ec) w).mono fun e w' ⟨p, q, he, hr, hb⟩ => ⟨_, hr, ⟨_, rfl, ?_⟩, hb⟩
      have hm := (mkP_mid (evI V ea) (evI V eb) (evI V ec)).fin
      rw [← he] at hm
      refine ⟨⟨p, rfl, ?_, hm.2.2.1⟩, ⟨q, rfl, ?_, hm.2.2.2⟩, trivial⟩
      · have : evF V (.af 30 0 (i3 ea eb ec)) = p := by
          show V.ff 30 0 (evS V (i3 ea eb ec)) = p
          rw [hV.y _ _ _ (by decide) (by decide)]
          show (mkP (evI V ea) (evI V eb) (evI V ec)).1 = p
          rw [← he]
        rw [this]
      · have : evF V (.af 30 1 (i3 ea eb ec)) = q := by
          show V.ff 30 1 (evS V (i3 ea eb ec)) = q
          rw [hV.y _ _ _ (by decide) (by decide)]
          show (mkP (evI V ea) (evI V eb) (evI V ec)).2 = q
          rw [← he]
        rw [this]
    · cases h
  · cases h
/-- How far from 0, by its name. -/
def magS : List SV → Option SV
  | [.ag [a, b]] => match a.toF, b.toF with
    | some (.lf a), some (.lf b) => some (.c (.f (magB (canon a) (canon b))))
    | some a, some b => some (.c (.ef (.af 33 0 (.cf a (.cf b .n0)))))
    | _, _ => none
  | _ => none
theorem magB_FR {a b a' b' : Nat} (h : FR a a') (g : FR b b') : FR (magB (canon a) (canon b)) (magB a' b') := by
  have e1 := abs_FR h
  have e2 := abs_FR g
  unfold magB
  have : p63 = 9223372036854775808 := rfl
  rw [this] at e1 e2
  have hl : ltB (canon b % 9223372036854775808) (canon a % 9223372036854775808) = ltB (b' % 9223372036854775808) (a' % 9223372036854775808) := by
    rw [← ltB_canon, e1.1, e2.1, ltB_canon]
  rw [hl]
  split
  · exact e1
  · exact e2
theorem mag_holds (hV : MkV V) : Holds Try.prog V 41 magS := by
  intro args v h ρ vs w hargs
  unfold magS at h
  split at h
  · rename_i a b
    obtain ⟨u1, rfl, hu⟩ := args_one hargs
    have main : ∀ (ea eb : E) (v : SV), a.toF = some ea → b.toF = some eb → (∀ x, FR (magB (canon (evF V ea)) (canon (evF V eb))) x → VR V ρ v (.float .f64 x)) → Calls Try.prog 41 #[u1] w fun e w' => ∃ rv, e = .returned rv ∧ VR V ρ v rv ∧ Go.RowKit.Below w.heap.size w w' := fun ea eb v h1 h2 hv => by
      obtain ⟨x, y, rfl, hx, hy⟩ := ivE_of h1 h2 hu
      exact (mag_any x y w hx.2 hy.2).mono fun e w' ⟨he, hb⟩ => ⟨_, he, hv _ (magB_FR hx hy), hb⟩
    split at h
    · rename_i x y h1 h2
      simp only [Option.some.injEq] at h
      subst h
      exact main _ _ _ h1 h2 fun x hx => ⟨x, rfl, hx⟩
    · rename_i ea eb _ h1 h2
      simp only [Option.some.injEq] at h
      subst h
      refine main _ _ _ h1 h2 fun x hx => ⟨x, rfl, ?_⟩
      have : evF V (.af 33 0 (.cf ea (.cf eb .n0))) = magB (canon (evF V ea)) (canon (evF V eb)) := by
        show V.ff 33 0 _ = _
        rw [hV.y _ _ _ (by decide) (by decide)]; rfl
      rw [this]; exact hx
    · cases h
  · cases h
theorem expB_canon (x : Nat) : expB (canon x) = expB x := by
  cases h : isN x
  · rw [canon_num h]
  · have : isN (canon x) = true := by rw [isN_canon, h]
    unfold expB; rw [h, this, Bool.true_or, Bool.true_or, if_pos rfl, if_pos rfl]
theorem expB_lt (x : Nat) : expB x < 18446744073709551616 := by
  unfold expB
  split
  · decide
  · have sq_lt : ∀ p, (sq p).2 < 18446744073709551616 := fun p => by
      unfold sq
      rw [show mulI p.1 p.2 p.1 p.2 = iv (mulP p.1 p.2 p.1 p.2).1 (mulP p.1 p.2 p.1 p.2).2 from aroundP_eq _ _ _ _, endsOf_iv]
      exact (mulP_lt _ _ _ _).2
    have : ∀ k p, k ≠ 0 → (sqN k p).2 < 18446744073709551616 := fun k p hk => by
      cases k with
      | zero => exact absurd rfl hk
      | succ k => unfold sqN; exact sq_lt _
    exact this 10 _ (by decide)
/-- The bound of e to the x, by its name. -/
def expS : List SV → Option SV
  | [.c x] => match x.toF with
    | some (.lf x) => some (.c (.f (expB x)))
    | some e => some (.c (.ef (.af 32 0 (.cf e .n0))))
    | none => none
  | _ => none
theorem exp_holds (hV : MkV V) : Holds Try.prog V 22 expS := by
  intro args v h ρ vs w hargs
  unfold expS at h
  have fr : ∀ {x y}, FR x y → FR (expB x) (expB y) := fun {x y} h => ⟨by rw [← expB_canon x, h.1, expB_canon], expB_lt _⟩
  split at h
  · rename_i x
    obtain ⟨u1, rfl, hx⟩ := args_one hargs
    split at h
    · rename_i x' he
      simp only [Option.some.injEq] at h
      subst h
      obtain ⟨y, rfl, hy⟩ := toF_ok he hx
      exact (exp_all y w).mono fun e w' ⟨he, hb⟩ => ⟨_, he, ⟨_, rfl, fr hy⟩, hb⟩
    · rename_i e _ he
      simp only [Option.some.injEq] at h
      subst h
      obtain ⟨y, rfl, hy⟩ := toF_ok he hx
      refine (exp_all y w).mono fun e' w' ⟨he, hb⟩ => ⟨_, he, ⟨_, rfl, ?_⟩, hb⟩
      have : evF V (.af 32 0 (.cf e .n0)) = expB (evF V e) := by
        show V.ff 32 0 _ = _
        rw [hV.y _ _ _ (by decide) (by decide)]; exact expB_canon _
      rw [this]; exact fr hy
    · cases h
  · cases h
end Ex
end Go.Proofs.Ytbepaoliboooaaa
