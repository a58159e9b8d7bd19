/-
  The runner beside Go's machine: what is known of iv's functions, of ends that are known.
  The runner beside Go's machine: iv's functions, of whatever ends, by their names.
-/
import Derived.Test.YtainodgbcpkipaaGi
import Derived.Test.YtainodgbcpkipaaGo
import Derived.Test.YtainodgbcpkipaaGk
namespace Go.Proofs.Ytainodgbcpkipaa.Ex
open Go
variable {P : Program} {V : Val}

def outP (a b : Nat) : Nat × Nat := bif leB (downB a) (upB b) then (downB a, upB b) else (18442240474082181120, 9218868437227405312)
def aroundP (a b c d : Nat) : Nat × Nat := bif isN a || isN b || isN c || isN d then (18442240474082181120, 9218868437227405312) else outP (minL a [a, b, c, d]) (maxL a [a, b, c, d])
def addP (a b c d : Nat) : Nat × Nat := outP (cop .add a c) (cop .add b d)
def subP (a b c d : Nat) : Nat × Nat := outP (cop .sub a d) (cop .sub b c)
def mulP (a b c d : Nat) : Nat × Nat := aroundP (cop .mul a c) (cop .mul a d) (cop .mul b c) (cop .mul b d)
def divP (a b c d : Nat) : Nat × Nat := bif leB c 0 && leB 0 d then (18442240474082181120, 9218868437227405312) else aroundP (cop .quo a c) (cop .quo a d) (cop .quo b c) (cop .quo b d)

theorem outP_eq (a b : Nat) : outI a b = iv (outP a b).1 (outP a b).2 := by
  unfold outI makeI outP
  cases leB (downB a) (upB b) <;> rfl
theorem aroundP_eq (a b c d : Nat) : aroundI a b c d = iv (aroundP a b c d).1 (aroundP a b c d).2 := by
  unfold aroundI aroundP
  cases isN a || isN b || isN c || isN d
  · rw [if_neg (by simp)]; exact outP_eq _ _
  · rw [if_pos rfl]; rfl
theorem divP_eq (a b c d : Nat) : divI a b c d = iv (divP a b c d).1 (divP a b c d).2 := by
  unfold divI divP
  cases leB c 0 && leB 0 d
  · rw [if_neg (by simp)]; exact aroundP_eq _ _ _ _
  · rw [if_pos rfl]; rfl

theorem cop_lt (op : BinOp) (a b : Nat) : cop op a b < 18446744073709551616 := by
  have h := canon_fval op default a b
  rw [← h]
  unfold canon
  split
  · decide
  · exact fval_lt _ _ _ _
theorem outP_lt {a b : Nat} (ha : a < 18446744073709551616) (hb : b < 18446744073709551616) : (outP a b).1 < 18446744073709551616 ∧ (outP a b).2 < 18446744073709551616 := by
  unfold outP
  cases leB (downB a) (upB b)
  · exact ⟨(by decide : (18442240474082181120 : Nat) < 18446744073709551616), (by decide : (9218868437227405312 : Nat) < 18446744073709551616)⟩
  · exact ⟨downB_lt ha, upB_lt hb⟩
theorem aroundP_lt {a b c d : Nat} (ha : a < 18446744073709551616) (hb : b < 18446744073709551616) (hc : c < 18446744073709551616) (hd : d < 18446744073709551616) : (aroundP a b c d).1 < 18446744073709551616 ∧ (aroundP a b c d).2 < 18446744073709551616 := by
  unfold aroundP
  have hm : ∀ x ∈ [a, b, c, d], x < 18446744073709551616 := fun x hx => by
    simp only [List.mem_cons, List.not_mem_nil, or_false] at hx
    rcases hx with rfl | rfl | rfl | rfl <;> assumption
  cases isN a || isN b || isN c || isN d
  · exact outP_lt (minL_lt ha hm) (maxL_lt ha hm)
  · exact ⟨(by decide : (18442240474082181120 : Nat) < 18446744073709551616), (by decide : (9218868437227405312 : Nat) < 18446744073709551616)⟩

def pairS (p : Nat × Nat) : SV := .ag [.f p.1, .f p.2]
/-- Of two from-tos whose ends are known. -/
def ivF (spec : Nat → Nat → Nat → Nat → Nat × Nat) : List SV → Option SV
  | [.ag [.f a, .f b], .ag [.f c, .f d]] => some (pairS (spec a b c d))
  | _ => none

theorem iv_of {ρ : Rho} {a b : Nat} {v : Value} (h : VR V ρ (.ag [.f a, .f b]) v) : ∃ x y, v = iv x y ∧ FR a x ∧ FR b y := by
  obtain ⟨vs, rfl, h⟩ := h
  match hl : vs.toList, h with
  | [u, w], h =>
    obtain ⟨x, rfl, hx⟩ := h.1
    obtain ⟨y, rfl, hy⟩ := h.2.1
    exact ⟨x, y, by rw [show vs = #[.float .f64 x, .float .f64 y] from Array.ext' hl], hx, hy⟩
  | [], h => exact h.elim
  | [_], h => exact h.2.elim
  | _ :: _ :: _ :: _, h => exact h.2.2.elim
theorem iv_holds {f : Nat} {spec : Nat → Nat → Nat → Nat → Nat × Nat} (hs : ∀ a b c d a' b' c' d', FR a a' → FR b b' → FR c c' → FR d d' → spec a b c d = spec a' b' c' d')
    (hl : ∀ a b c d, (spec a b c d).1 < 18446744073709551616 ∧ (spec a b c d).2 < 18446744073709551616)
    (hw : ∀ (a b c d : Nat) (w : World), Calls P f #[iv a b, iv c d] w (Gives (iv (spec a b c d).1 (spec a b c d).2) w)) : Holds P V f (ivF spec) := by
  intro args v h ρ vs w hargs
  unfold ivF at h
  split at h
  · rename_i a b c d
    simp only [Option.some.injEq] at h
    subst h
    obtain ⟨u1, u2, rfl, h1, h2⟩ := args_two hargs
    obtain ⟨a', b', rfl, ha, hb⟩ := iv_of h1
    obtain ⟨c', d', rfl, hc, hd⟩ := iv_of h2
    have he := hs a b c d a' b' c' d' ha hb hc hd
    have hlt := hl a' b' c' d'
    exact (hw a' b' c' d' w).mono fun e w' ⟨hr, hbl⟩ => ⟨_, hr, by
      rw [he]
      exact ⟨_, rfl, ⟨_, rfl, rfl, hlt.1⟩, ⟨_, rfl, rfl, hlt.2⟩, trivial⟩, hbl⟩
  · cases h

theorem addP_FR (a b c d a' b' c' d' : Nat) (ha : FR a a') (hb : FR b b') (hc : FR c c') (hd : FR d d') : addP a b c d = addP a' b' c' d' := by
  unfold addP; rw [cop_FR ha hc, cop_FR hb hd]
theorem subP_FR (a b c d a' b' c' d' : Nat) (ha : FR a a') (hb : FR b b') (hc : FR c c') (hd : FR d d') : subP a b c d = subP a' b' c' d' := by
  unfold subP; rw [cop_FR ha hd, cop_FR hb hc]
theorem mulP_FR (a b c d a' b' c' d' : Nat) (ha : FR a a') (hb : FR b b') (hc : FR c c') (hd : FR d d') : mulP a b c d = mulP a' b' c' d' := by
  unfold mulP; rw [cop_FR ha hc, cop_FR ha hd, cop_FR hb hc, cop_FR hb hd]
theorem divP_FR (a b c d a' b' c' d' : Nat) (ha : FR a a') (hb : FR b b') (hc : FR c c') (hd : FR d d') : divP a b c d = divP a' b' c' d' := by
  have h0 : FR 0 0 := ⟨rfl, by decide⟩
  unfold divP; rw [cop_FR ha hc, cop_FR ha hd, cop_FR hb hc, cop_FR hb hd, leB_FR hc h0, leB_FR h0 hd]
theorem addP_lt (a b c d : Nat) : (addP a b c d).1 < 18446744073709551616 ∧ (addP a b c d).2 < 18446744073709551616 := outP_lt (cop_lt _ _ _) (cop_lt _ _ _)
theorem subP_lt (a b c d : Nat) : (subP a b c d).1 < 18446744073709551616 ∧ (subP a b c d).2 < 18446744073709551616 := outP_lt (cop_lt _ _ _) (cop_lt _ _ _)
theorem mulP_lt (a b c d : Nat) : (mulP a b c d).1 < 18446744073709551616 ∧ (mulP a b c d).2 < 18446744073709551616 := aroundP_lt (cop_lt _ _ _) (cop_lt _ _ _) (cop_lt _ _ _) (cop_lt _ _ _)
theorem divP_lt (a b c d : Nat) : (divP a b c d).1 < 18446744073709551616 ∧ (divP a b c d).2 < 18446744073709551616 := by
  unfold divP
  cases leB c 0 && leB 0 d
  · exact aroundP_lt (cop_lt _ _ _) (cop_lt _ _ _) (cop_lt _ _ _) (cop_lt _ _ _)
  · exact ⟨(by decide : (18442240474082181120 : Nat) < 18446744073709551616), (by decide : (9218868437227405312 : Nat) < 18446744073709551616)⟩
theorem sub_holds : Holds Try.prog V 41 (ivF subP) := iv_holds subP_FR subP_lt fun a b c d w => by have h := sub_any a b c d w; rw [outP_eq] at h; exact h
theorem mul_holds : Holds Try.prog V 42 (ivF mulP) := iv_holds mulP_FR mulP_lt fun a b c d w => by have h := mul_any a b c d w; rw [show mulI a b c d = _ from aroundP_eq _ _ _ _] at h; exact h
end Go.Proofs.Ytainodgbcpkipaa.Ex

namespace Go.Proofs.Ytainodgbcpkipaa.Ex
open Go
variable {P : Program} {V : Val}

/-- What the names of iv's functions stand for. -/
def ivX : Nat → Nat → List Sc → Nat
  | 20, 0, [.f a, .f b, .f c, .f d] => (addP a b c d).1
  | 20, 1, [.f a, .f b, .f c, .f d] => (addP a b c d).2
  | 21, 0, [.f a, .f b, .f c, .f d] => (subP a b c d).1
  | 21, 1, [.f a, .f b, .f c, .f d] => (subP a b c d).2
  | 22, 0, [.f a, .f b, .f c, .f d] => (mulP a b c d).1
  | 22, 1, [.f a, .f b, .f c, .f d] => (mulP a b c d).2
  | 23, 0, [.f a, .f b, .f c, .f d] => (divP a b c d).1
  | 23, 1, [.f a, .f b, .f c, .f d] => (divP a b c d).2
  | 24, 0, [.f a, .f b] => magB (canon a) (canon b)
  | _, _, _ => 0
structure IvV (V : Val) : Prop extends StdV V where
  x : ∀ j i args, 20 ≤ j → j < 30 → V.ff j i args = ivX j i args
def f4 (a b c d : E) : E := .cf a (.cf b (.cf c (.cf d .n0)))
def ivN2 (j : Nat) (G : Nat → Nat → Nat → Nat → Nat × Nat) : E → E → E → E → SV
  | .lf a, .lf b, .lf c, .lf d => pairS (G a b c d)
  | a, b, c, d => .ag [.ef (.af j 0 (f4 a b c d)), .ef (.af j 1 (f4 a b c d))]
def ivN (j : Nat) (G : Nat → Nat → Nat → Nat → Nat × Nat) : List SV → Option SV
  | [.ag [a, b], .ag [c, d]] => match a.toF, b.toF, c.toF, d.toF with
    | some a, some b, some c, some d => some (ivN2 j G a b c d)
    | _, _, _, _ => none
  | _ => none
theorem ivE_of {ρ : Rho} {a b : C} {ea eb : E} (ha : a.toF = some ea) (hb : b.toF = some eb) {v : Value} (h : VR V ρ (.ag [a, b]) v) : ∃ x y, v = iv x y ∧ FR (evF V ea) x ∧ FR (evF V eb) y := by
  obtain ⟨vs, rfl, h⟩ := h
  match hl : vs.toList, h with
  | [u, w], h =>
    obtain ⟨x, rfl, hx⟩ := toF_ok ha h.1
    obtain ⟨y, rfl, hy⟩ := toF_ok hb h.2.1
    exact ⟨x, y, by rw [show vs = #[.float .f64 x, .float .f64 y] from Array.ext' hl], hx, hy⟩
  | [], h => exact h.elim
  | [_], h => exact h.2.elim
  | _ :: _ :: _ :: _, h => exact h.2.2.elim
theorem ivN_holds {f j : Nat} {spec : Nat → Nat → Nat → Nat → Nat × Nat} (hx0 : ∀ a b c d, V.ff j 0 [.f a, .f b, .f c, .f d] = (spec a b c d).1) (hx1 : ∀ a b c d, V.ff j 1 [.f a, .f b, .f c, .f d] = (spec a b c d).2)
    (hs : ∀ a b c d a' b' c' d', FR a a' → FR b b' → FR c c' → FR d d' → spec a b c d = spec a' b' c' d')
    (hl : ∀ a b c d, (spec a b c d).1 < 18446744073709551616 ∧ (spec a b c d).2 < 18446744073709551616)
    (hw : ∀ (a b c d : Nat) (w : World), Calls P f #[iv a b, iv c d] w (Gives (iv (spec a b c d).1 (spec a b c d).2) w)) : Holds P V f (ivN j spec) := by
  intro args v h ρ vs w hargs
  unfold ivN at h
  split at h
  · rename_i a b c d
    split at h
    · rename_i ea eb ec ed e1 e2 e3 e4
      simp only [Option.some.injEq] at h
      subst h
      obtain ⟨u1, u2, rfl, h1, h2⟩ := args_two hargs
      obtain ⟨a', b', rfl, ha, hb⟩ := ivE_of e1 e2 h1
      obtain ⟨c', d', rfl, hc, hd⟩ := ivE_of e3 e4 h2
      have he := hs _ _ _ _ a' b' c' d' ha hb hc hd
      have hlt := hl a' b' c' d'
      refine (hw a' b' c' d' w).mono fun e w' ⟨hr, hbl⟩ => ⟨_, hr, ?_, hbl⟩
      rw [← he] at hlt ⊢
      unfold ivN2
      split
      · exact ⟨_, rfl, ⟨_, rfl, rfl, hlt.1⟩, ⟨_, rfl, rfl, hlt.2⟩, trivial⟩
      · refine ⟨_, rfl, ⟨_, rfl, ?_, hlt.1⟩, ⟨_, rfl, ?_, hlt.2⟩, trivial⟩
        · simp only [evF, evS, f4, hx0]
        · simp only [evF, evS, f4, hx1]
    · cases h
  · cases h
theorem subN_holds (hV : IvV V) : Holds Try.prog V 41 (ivN 21 subP) := ivN_holds (fun _ _ _ _ => by rw [hV.x _ _ _ (by decide) (by decide)]; rfl) (fun _ _ _ _ => by rw [hV.x _ _ _ (by decide) (by decide)]; rfl) subP_FR subP_lt fun a b c d w => by have h := sub_any a b c d w; rw [outP_eq] at h; exact h
theorem mulN_holds (hV : IvV V) : Holds Try.prog V 42 (ivN 22 mulP) := ivN_holds (fun _ _ _ _ => by rw [hV.x _ _ _ (by decide) (by decide)]; rfl) (fun _ _ _ _ => by rw [hV.x _ _ _ (by decide) (by decide)]; rfl) mulP_FR mulP_lt fun a b c d w => by have h := mul_any a b c d w; rw [show mulI a b c d = _ from aroundP_eq _ _ _ _] at h; exact h
end Go.Proofs.Ytainodgbcpkipaa.Ex
