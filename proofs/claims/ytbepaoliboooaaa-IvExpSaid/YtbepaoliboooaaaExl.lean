/-
  The runner beside Go's machine: one operation in its place, a region in the order of its text.
-/
import Derived.Test.YtbepaoliboooaaaExk
namespace Go.Proofs.Ytbepaoliboooaaa.Ex
open Go
variable {P : Program} {V : Val} {ρ : Rho}

structure SR (V : Val) (ρ : Rho) (N : Nat) (get : Nat → Option SV) (hg : HG) (a : Act) (w : World) : Prop where
  sz : a.tmps.size = N
  tm : TR V ρ get a.tmps
  df : a.defers = []
  hr : HR V ρ hg w

abbrev StepW (V : Val) (ρ : Rho) (hg : HG) (nx : Nat) (w : World) (hg' : HG) (nx' : Nat) (ρ' : Rho) (w' : World) : Prop := Step V ρ hg nx w (.tu []) hg' nx' ρ' w' undef
def Fresh (ρ : Rho) (nx nx' : Nat) : Prop := ∀ b, nx ≤ b → b < nx' → ρ b = none

theorem undefR : VR V ρ (.tu []) undef := ⟨#[], rfl, trivial⟩
theorem Step.toW {hg hg' : HG} {nx nx' : Nat} {w w' : World} {v : SV} {rv : Value} {ρ' : Rho} (a : Step V ρ hg nx w v hg' nx' ρ' w' rv) : StepW V ρ hg nx w hg' nx' ρ' w' := a.withVal undefR

def putG (get : Nat → Option SV) (dst : Option Nat) (v : SV) : Nat → Option SV := fun t => if dst = some t then some v else get t

theorem SR.put {N : Nat} {get : Nat → Option SV} {hg hg' : HG} {a : Act} {w w' : World} (h : SR V ρ N get hg a w) {ρ' : Rho} (he : Ext ρ ρ') (hr : HR V ρ' hg' w') {v : SV} {rv : Value} (hv : VR V ρ' v rv) {dst : Option Nat} (hd : ∀ d, dst = some d → d < N) :
    SR V ρ' N (putG get dst v) hg' (a.put dst rv) w' := by
  cases dst with
  | none => exact ⟨h.sz, fun t u ht => by unfold putG at ht; rw [if_neg (by simp)] at ht; exact (h.tm t u ht).ext he, h.df, hr⟩
  | some d =>
    have hdN := hd d rfl
    refine ⟨by simp [Act.put, h.sz], fun t u ht => ?_, h.df, hr⟩
    unfold putG at ht
    simp only [Act.put]
    by_cases htd : d = t
    · subst htd
      rw [if_pos rfl] at ht
      simp only [Option.some.injEq] at ht
      subst ht
      have : (a.tmps.setIfInBounds d rv).getD d undef = rv := by
        rw [Array.getD_eq_getD_getElem?, Array.getElem?_setIfInBounds, if_pos rfl, if_pos (by rw [h.sz]; exact hdN)]; rfl
      rw [this]; exact hv
    · rw [if_neg (by simpa using htd)] at ht
      have : (a.tmps.setIfInBounds d rv).getD t undef = a.tmps.getD t undef := by
        rw [Array.getD_eq_getD_getElem?, Array.getD_eq_getD_getElem?, Array.getElem?_setIfInBounds, if_neg htd]
      rw [this]; exact (h.tm t u ht).ext he

theorem wantedX_ok {g : Gam} (hgm : GamOK V g) {ops : Array Oper} {get : Nat → Option SV} {tmps : Array Value} (ht : TR V ρ get tmps) {o : Oper} {b : Bool} (h : wantedX g ops get o = .ok b) : Region.wanted o (yielded ops tmps) = b := by
  unfold wantedX at h
  unfold Region.wanted
  split at h
  · rename_i hg0
    simp only [Res.ok.injEq] at h
    subst h
    rw [hg0]
  · rename_i j want hg0
    rw [hg0]
    simp only
    unfold yielded
    have hslot : (ops[j]?).bind (·.dst) = slotOf ops j := rfl
    rw [hslot]
    split at h
    · rename_i hs
      simp only [Res.ok.injEq] at h
      subst h
      cases hd : slotOf ops j with
      | none => rw [hd] at hs; simp at hs
      | some d =>
        rw [hd] at hs
        simp only [Option.bind_some] at hs ⊢
        obtain ⟨vs, hv, hl⟩ := ht d _ hs
        cases ht2 : tmps[d]? with
        | none => simp
        | some x =>
          have : tmps.getD d undef = x := by rw [Array.getD_eq_getD_getElem?, ht2]; rfl
          rw [this] at hv
          subst hv
          simp
    · rename_i v _ hs
      cases hd : slotOf ops j with
      | none => rw [hd] at hs; simp at hs
      | some d =>
        rw [hd] at hs
        simp only [Option.bind_some] at hs ⊢
        split at h <;> simp only [Res.ok.injEq, reduceCtorEq] at h
        rename_i bb htr
        subst h
        have hv := truth_ok hgm htr (ht d _ hs)
        cases ht2 : tmps[d]? with
        | none =>
          have : tmps.getD d undef = undef := by rw [Array.getD_eq_getD_getElem?, ht2]; rfl
          rw [this] at hv
          simp [undef] at hv
        | some x =>
          have : tmps.getD d undef = x := by rw [Array.getD_eq_getD_getElem?, ht2]; rfl
          rw [this] at hv
          subst hv
          simp
    · cases h

theorem cond_or {α : Type} {c : Bool} {x y : Res α} {r : α} (h : (bif c then x else y) = .ok r) : x = .ok r ∨ y = .ok r := by
  cases c
  · exact .inr h
  · exact .inl h
theorem runPlan_le {call : Callee} (hcall : CallOK P V call) {hg : HG} {nx : Nat} {p : Plan} {r : Rec} (h : runPlan call hg nx p = .ok r) : nx ≤ r.nx := by
  unfold runPlan at h
  split at h
  · simp only [Res.ok.injEq] at h; subst h; exact Nat.le_refl _
  · simp only [Res.ok.injEq] at h; subst h; exact Nat.le_refl _
  · split at h
    · rename_i agg _ _ _ _ _ _
      cases agg
      · simp only [cond_false] at h
        split at h <;> simp only [Res.ok.injEq, reduceCtorEq] at h
        subst h; exact Nat.le_refl _
      · simp only [cond_true, Res.ok.injEq] at h; subst h; exact Nat.le_refl _
    · cases h
  · split at h
    · split at h
      · rcases cond_or h with h | h
        · simp only [Res.ok.injEq] at h; subst h; exact Nat.le_refl _
        · split at h <;> simp only [Res.ok.injEq, reduceCtorEq] at h
          subst h; exact Nat.le_refl _
      · cases h
    · cases h
  · split at h <;> simp only [Res.ok.injEq, reduceCtorEq] at h
    subst h; exact Nat.le_refl _
  · simp only [Res.ok.injEq] at h; subst h; simp
  · split at h
    · cases h
    · obtain ⟨⟨v, hp, nx'⟩, h1, h2⟩ := bind_ok h
      simp only at h2
      split at h2 <;> simp only [Res.ok.injEq, reduceCtorEq] at h2
      subst h2
      exact (hcall _ _ _ _ _ _ _ h1).2.1
  · split at h
    · cases h
    · rcases cond_or h with h | h
      · split at h
        · rcases cond_or h with h | h <;> simp only [Res.ok.injEq] at h <;> subst h <;> simp
        · rcases cond_or h with h | h <;> split at h <;> simp only [Res.ok.injEq, reduceCtorEq] at h <;> subst h <;> simp
        · rcases cond_or h with h | h
          · split at h <;> simp only [Res.ok.injEq, reduceCtorEq] at h
            subst h; simp
          · cases h
      · cases h
  · split at h <;> simp only [Res.ok.injEq, reduceCtorEq] at h
    subst h; simp

structure RecOK (N : Nat) (dst : Option Nat) (nx : Nat) (r : Rec) : Prop where
  le : nx ≤ r.nx
  dst : ∀ d, dst = some d → d < N
  nx : r.nx < T.most ∨ r.nx = nx
  wb : ∀ x ∈ r.wb, x.1 < T.most
  wc : ∀ x ∈ r.wc, x.1 < T.most

theorem xop_ok {g : Gam} (hgm : GamOK V g) {call : Callee} (hcall : CallOK P V call) {N : Nat} {ops : Array Oper} {o : Oper} {a : Act} {w : World} {K : Act → World → Prop} {Q : Exit → Act → World → Prop} {hg : HG} {nx : Nat} {get : Nat → Option SV} {r : Rec}
    (h : xop P g call N ops get hg nx o = .ok r) : RecOK N o.dst nx r ∧
    (SR V ρ N get hg a w → Fresh ρ nx r.nx → (∀ ρ' w' rv, Step V ρ hg nx w r.v (upd hg r) r.nx ρ' w' rv → K (a.put o.dst rv) w') →
      if Region.wanted o (yielded ops a.tmps) then o.wp P a w K Q else K (a.put o.dst undef) w) := by
  unfold xop at h
  simp only [planF_eq, runF_eq] at h
  cases hd : dstIn N o.dst <;> rw [hd] at h
  · cases h
  · simp only [cond_true] at h
    have hdst : ∀ d, o.dst = some d → d < N := fun d e => by
      rw [e] at hd
      exact Nat.le_of_ble_eq_true hd
    split at h
    · rename_i hw
      split at h
      · rename_i p hp
        split at h
        · rename_i r' hr
          cases hs : small r' <;> rw [hs] at h
          · cases h
          · simp only [cond_true, Res.ok.injEq] at h
            subst h
            unfold small at hs
            simp only [Bool.and_eq_true, List.all_eq_true] at hs
            refine ⟨⟨runPlan_le hcall hr, hdst, .inl (Nat.le_of_ble_eq_true hs.1.1), fun x hx => Nat.le_of_ble_eq_true (hs.1.2 x hx), fun x hx => Nat.le_of_ble_eq_true (hs.2 x hx)⟩, fun hsr hf hk => ?_⟩
            rw [wantedX_ok hgm hsr.tm hw, if_pos rfl]
            exact op_ok hgm hcall hsr.hr hsr.tm hp hr hf hk
        · cases h
        · cases h
      · cases h
      · cases h
    · rename_i hw
      simp only [Res.ok.injEq] at h
      subst h
      refine ⟨⟨Nat.le_refl _, hdst, .inr rfl, fun x hx => by simp at hx, fun x hx => by simp at hx⟩, fun hsr hf hk => ?_⟩
      rw [wantedX_ok hgm hsr.tm hw, if_neg (by simp)]
      exact hk ρ w undef ((Step.refl hsr.hr undefR 0).eqG (upd_none rfl rfl).symm)
    · cases h
    · cases h

/-! ### The state as maps -/
theorem putAll_get : ∀ (l : List (Nat × Option Blk)) (t : T Blk) (b : Nat), (∀ x ∈ l, x.1 < T.most) → (putAll t l).get b = (lookB l b).getD (t.get b)
  | [], t, b, _ => rfl
  | (b', x) :: l, t, b, h => by
    rw [putAll, lookB]
    by_cases hb : b = b'
    · subst hb
      have : Nat.beq b b = true := by simp
      rw [T.get_put (h (b, x) (by simp)), this]; rfl
    · have : Nat.beq b' b = false := Bool.eq_false_iff.2 fun hh => hb (Nat.eq_of_beq_eq_true hh).symm
      rw [T.get_put_ne hb, this, putAll_get l t b fun x hx => h x (by simp [hx])]; rfl
theorem putCells_get : ∀ (l : List (Nat × Nat × C)) (t : T Blk) (b : Nat), (∀ x ∈ l, x.1 < T.most) → (putCells t l).get b = (t.get b).map fun blk => writeCells b blk l
  | [], t, b, _ => by
    rw [putCells]
    cases t.get b <;> rfl
  | (b', o, c) :: l, t, b, h => by
    rw [putCells, putCells_get l _ b fun x hx => h x (by simp [hx])]
    by_cases hb : b = b'
    · subst hb
      have hbb : Nat.beq b b = true := by simp
      cases hg : t.get b with
      | none => simp [hg]
      | some blk =>
        simp only [T.get_put (h (b, o, c) (by simp)), Option.map_some, writeCells, hbb, cond_true]
    · have hbb : Nat.beq b' b = false := Bool.eq_false_iff.2 fun hh => hb (Nat.eq_of_beq_eq_true hh).symm
      cases hg : t.get b' with
      | none =>
        simp only
        cases t.get b <;> simp [writeCells, hbb]
      | some blk =>
        simp only [T.get_put_ne hb]
        cases t.get b <;> simp [writeCells, hbb]

theorem apply_hp {N : Nat} {dst : Option Nat} {nx : Nat} {s : St} {r : Rec} (h : RecOK N dst nx r) : (s.apply dst r).hp.get = upd s.hp.get r := by
  funext b
  show (putCells (putAll s.hp r.wb) r.wc).get b = _
  rw [putCells_get _ _ _ h.wc, putAll_get _ _ _ h.wb]
  rfl
theorem apply_tm {N : Nat} (hN : N ≤ T.most) {dst : Option Nat} {nx : Nat} {s : St} {r : Rec} (h : RecOK N dst nx r) : (s.apply dst r).tm.get = putG s.tm.get dst r.v := by
  funext t
  unfold putG
  cases dst with
  | none => rfl
  | some d =>
    show (s.tm.put d (some r.v)).get t = _
    by_cases ht : d = t
    · subst ht
      rw [if_pos rfl, T.get_put (Nat.lt_of_lt_of_le (h.dst d rfl) hN)]
    · rw [if_neg (by simpa using ht), T.get_put_ne (Ne.symm ht)]

theorem Fresh.mono {a b c d : Nat} (h : Fresh ρ a d) (h1 : a ≤ b) (h2 : c ≤ d) : Fresh ρ b c := fun x hx hy => h x (by omega) (by omega)
theorem Fresh.step {hg hg' : HG} {nx nx1 nx2 : Nat} {w w' : World} {v : SV} {rv : Value} {ρ' : Rho} (h : Fresh ρ nx nx2) (hs : Step V ρ hg nx w v hg' nx1 ρ' w' rv) : Fresh ρ' nx1 nx2 := fun b h1 h2 => by
  cases hb : ρ' b with
  | none => rfl
  | some q =>
    rcases hs.new b q hb with g | g
    · rw [h b (by have := hs.le; omega) h2] at g; cases g
    · omega

/-! ### A region in the order of its text -/
theorem xops_le {g : Gam} (hgm : GamOK V g) {call : Callee} (hcall : CallOK P V call) {N : Nat} {ops : Array Oper} : ∀ (l : List Oper) {s s' : St}, xops P g call N ops l s = .ok s' → s.nx ≤ s'.nx := by
  intro l
  induction l with
  | nil => intro s s' h; simp only [xops, Res.ok.injEq] at h; subst h; exact Nat.le_refl _
  | cons o l ih =>
    intro s s' h
    unfold xops at h
    simp only [T.getF_eq, St.applyF_eq] at h
    split at h
    · rename_i r hr
      have h1 := (xop_ok (V := V) (ρ := fun _ => none) (a := ⟨#[], []⟩) (w := default) (K := fun _ _ => True) (Q := fun _ _ _ => True) hgm hcall hr).1.le
      exact Nat.le_trans h1 (ih h)
    · cases h
    · cases h

theorem xops_ok {g : Gam} (hgm : GamOK V g) {call : Callee} (hcall : CallOK P V call) {N : Nat} (hN : N ≤ T.most) {ops : Array Oper} {Q : Exit → Act → World → Prop} : ∀ (l : List Oper) {ρ : Rho} {s s' : St} {a : Act} {w : World}, xops P g call N ops l s = .ok s' →
    SR V ρ N s.tm.get s.hp.get a w → Fresh ρ s.nx s'.nx → (∀ ρ' a' w', SR V ρ' N s'.tm.get s'.hp.get a' w' → StepW V ρ s.hp.get s.nx w s'.hp.get s'.nx ρ' w' → Q .normal a' w') → wpList P ops Q l a w := by
  intro l
  induction l with
  | nil =>
    intro ρ s s' a w h hs hf hk
    simp only [xops, Res.ok.injEq] at h
    subst h
    exact hk ρ a w hs (Step.refl hs.hr undefR 0)
  | cons o l ih =>
    intro ρ s s' a w h hs hf hk
    unfold xops at h
    simp only [T.getF_eq, St.applyF_eq] at h
    split at h
    · rename_i r hr
      have hx := fun K => xop_ok (V := V) (ρ := ρ) (a := a) (w := w) (K := K) (Q := Q) hgm hcall hr
      have hok := (hx fun _ _ => True).1
      have hle := xops_le hgm hcall l h
      refine wpList_step fun K hK => (hx K).2 hs (hf.mono (Nat.le_refl _) hle) fun ρ' w' rv hst => hK _ _ ?_
      refine ih (ρ := ρ') h ?_ ?_ fun ρ2 a2 w2 hs2 hst2 => hk ρ2 a2 w2 hs2 ?_
      · rw [apply_hp hok, apply_tm hN hok]
        exact hs.put hst.ext hst.hr hst.val hok.dst
      · exact hf.step hst
      · rw [apply_hp hok] at hst2
        exact hst.trans hst2
    · cases h
    · cases h
end Go.Proofs.Ytbepaoliboooaaa.Ex
