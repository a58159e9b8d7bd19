/-
  The runner beside Go's machine: things that were found out beforehand, each under what it hangs on.
-/
import Derived.Test.YtbepaoliboooaaaExv
namespace Go.Proofs.Ytbepaoliboooaaa.Ex
open Go
variable {P : Program} {V : Val}

/-- What holds where other things hold. -/
abbrev Cf := List (E × Bool) × E × Bool
def allIn (l : List (E × Bool)) : List (E × Bool) → Bool
  | [] => true
  | (e, b) :: r => match lookE l e with
    | some x => (x == b) && allIn l r
    | none => false
def cfGo (l : List (E × Bool)) (e : E) : List Cf → Option Bool
  | [] => none
  | (cs, e', b) :: r => if e' = e then bif allIn l cs then some b else cfGo l e r else cfGo l e r
def CfOK (V : Val) (F : List Cf) : Prop := ∀ f, f ∈ F → (∀ c, c ∈ f.1 → evB V c.1 = c.2) → evB V f.2.1 = f.2.2
theorem lookE_mem : ∀ {l : List (E × Bool)} {e : E} {b : Bool}, lookE l e = some b → (e, b) ∈ l
  | [], _, _, h => by cases h
  | (e', b') :: l, e, b, h => by
    unfold lookE at h
    split at h
    · rename_i he; subst he; simp only [Option.some.injEq] at h; subst h; simp
    · exact List.mem_cons_of_mem _ (lookE_mem h)
theorem allIn_ok {l : List (E × Bool)} (hl : LOK V l) : ∀ {cs : List (E × Bool)}, allIn l cs = true → ∀ c, c ∈ cs → evB V c.1 = c.2
  | [], _, c, hc => by cases hc
  | (e, b) :: r, h, c, hc => by
    unfold allIn at h
    split at h
    · rename_i x hx
      simp only [Bool.and_eq_true, beq_iff_eq] at h
      obtain ⟨rfl, h⟩ := h
      rcases List.mem_cons.1 hc with rfl | hc
      · exact hl _ _ (lookE_mem hx)
      · exact allIn_ok hl h c hc
    · cases h
theorem cfGo_ok {l : List (E × Bool)} (hl : LOK V l) {e : E} {b : Bool} : ∀ {F : List Cf}, CfOK V F → cfGo l e F = some b → evB V e = b
  | [], _, h => by cases h
  | (cs, e', b') :: r, hF, h => by
    have hr : CfOK V r := fun f hf => hF f (List.mem_cons_of_mem _ hf)
    unfold cfGo at h
    split at h
    · rename_i he
      subst he
      cases ha : allIn l cs <;> rw [ha] at h
      · exact cfGo_ok hl hr h
      · simp only [cond_true, Option.some.injEq] at h
        subst h
        exact hF _ (List.mem_cons_self ..) (allIn_ok hl ha)
    · exact cfGo_ok hl hr h
def cfD (F : List Cf) (D : List (E × Bool) → E → Option Bool) (l : List (E × Bool)) (e : E) : Option Bool :=
  match cfGo l e F with
  | some b => some b
  | none => D l e
theorem cfD_ok {F : List Cf} {D : List (E × Bool) → E → Option Bool} (hF : CfOK V F) (hD : DOK V D) : DOK V (cfD F D) := by
  intro l hl e b h
  unfold cfD at h
  split at h
  · rename_i x hx
    simp only [Option.some.injEq] at h
    subst h
    exact cfGo_ok hl hF hx
  · exact hD l hl e b h
def Gam.cf (F : List Cf) : Gam := ⟨[], cfD F Gam.ex.D⟩
theorem gam_cf (hV : StdV V) {F : List Cf} (hF : CfOK V F) : GamOK V (.cf F) := ⟨(fun _ _ h => by cases h), cfD_ok hF (gam_ex hV).2⟩
end Go.Proofs.Ytbepaoliboooaaa.Ex
