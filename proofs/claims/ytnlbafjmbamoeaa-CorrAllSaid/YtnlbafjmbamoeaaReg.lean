/-
  A region that draws its order, walked in one order: what reads may be taken ahead of what it does not wait for; what was read need hold only till all is read.
-/
import Derived.Test.YtnlbafjmbamoeaaRows
import Derived.OrdersHeld
import Derived.StillTail
import Derived.WalkKit
import Derived.Deep.Quiet
namespace Go.Proofs.Ytnlbafjmbamoeaa
open Go

section
variable {P : Program} {ops : Array Oper} {Q : Exit → Act → World → Prop} {md : Region.Mode} {S R : World → Prop} {D T T3 : List Nat}

/-- Whether what is read must still hold behind operation j: one of those that are taken ahead does not stand ahead of it by itself. -/
def needB (md : Region.Mode) (ops : Array Oper) (T : List Nat) (j : Nat) : Bool := T.any fun i => !Region.waitsFor md ops j i
theorem waits_of {j i : Nat} {oj : Oper} (hj : ops[j]? = some oj) (h : ∀ e ∈ oj.after, Region.binds md e = true → e.on ≠ i) : Region.waitsFor md ops j i = false := by
  cases hw : Region.waitsFor md ops j i with
  | false => rfl
  | true =>
    obtain ⟨o, ho, e, he, hb, hon⟩ := Region.waitsFor_spec hw
    rw [hj] at ho
    cases ho
    exact absurd hon (h e he hb)

/-- Behind operation j: as S asks, where it is one that is carried out; the world as it was, where it is not. -/
def condB (md : Region.Mode) (ops : Array Oper) (S R : World → Prop) (D T T3 : List Nat) (j : Nat) (w w' : World) : Prop := if D.contains j = true then (needB md ops T j = true → S w') ∧ (needB md ops T3 j = true → R w') else w' = w
/-- Whether one that reads has not come up. -/
def pendB (T : List Nat) (listed : Array Bool) : Bool := T.any fun t => !listed.getD t true
theorem pendB_of {listed : Array Bool} {j : Nat} (h : pendB T (listed.setIfInBounds j true) = true) : ∃ t, t ∈ T ∧ t ≠ j ∧ listed.getD t true = false := by
  obtain ⟨t, ht, hu⟩ := List.any_eq_true.1 h
  by_cases e : j = t
  · subst e
    have : (listed.setIfInBounds j true).getD j true = true := by
      rcases Nat.lt_or_ge j listed.size with h' | h'
      · simp [h']
      · simp
    rw [this] at hu
    cases hu
  · rw [getD_set_ne true e] at hu
    exact ⟨t, ht, Ne.symm e, by simpa using hu⟩
theorem need_of {listed : Array Bool} {j t : Nat} (hj : j ∈ Region.ready md ops listed) (ht : t ∈ T) (hu : listed.getD t true = false) : needB md ops T j = true := by
  obtain ⟨-, oj, hoj, hall⟩ := mem_ready.1 hj
  refine List.any_eq_true.2 ⟨t, ht, ?_⟩
  rw [waits_of hoj fun e he hb heq => ?_]
  · rfl
  · have g1 := hall e he hb
    rw [heq, getD_both hu] at g1
    cases g1
/-- Whatever order is picked. -/
def wpAnyT (P : Program) (md : Region.Mode) (ops : Array Oper) (Q : Exit → Act → World → Prop) (S R : World → Prop) (D T T3 : List Nat) : Nat → Array Bool → Act → World → Prop
  | 0, listed, a, w => Region.ready md ops listed = [] ∧ Q .normal a w
  | fuel + 1, listed, a, w =>
    (Region.ready md ops listed = [] → Q .normal a w) ∧
    ∀ i ∈ Region.ready md ops listed, wpOp P ops Q i (fun a' w' => condB md ops S R D T T3 i w w' ∧ wpAnyT P md ops Q S R D T T3 fuel (listed.setIfInBounds i true) a' w') a w

theorem wpAny_of_T : ∀ (fuel : Nat) (listed : Array Bool) (a : Act) (w : World), wpAnyT P md ops Q S R D T T3 fuel listed a w → wpAny P md ops Q fuel listed a w
  | 0, _, _, _, h => h
  | fuel + 1, _, _, _, h => ⟨h.1, fun i hi => wpOp_mono (fun a' w' h' => wpAny_of_T fuel _ a' w' h'.2) (h.2 i hi)⟩

theorem wpAnyT_first {S' : World → Prop} {i : Nat} {oi : Oper} {v : Value} (hD : D.contains i = false) (hT : (∀ w, S' w) ∨ (S' = S ∧ i ∈ T) ∨ (S' = R ∧ i ∈ T3)) (hi : ops[i]? = some oi) (hsel : ∀ (j : Nat) (o : Oper) cs b, ops[j]? = some o → o.op ≠ .select cs b)
    (hQ : ∀ c a w, Q (.panic c) (a.put oi.dst v) w → Q (.panic c) a w) :
    ∀ (fuel : Nat) (listed : Array Bool) (a : Act) (w : World),
      (∀ j oj, ops[j]? = some oj → j ≠ i → listed.getD j true = false → (∀ e ∈ oj.after, Region.binds md e = true → e.on ≠ i) → oi.apart ops oj = true) →
      i ∈ Region.ready md ops listed → YieldsIf P ops S' oi v a → (pendB T listed = true → S w) → (pendB T3 listed = true → R w) →
      wpAnyT P md ops Q S R D T T3 fuel (listed.setIfInBounds i true) (a.put oi.dst v) w → wpAnyT P md ops Q S R D T T3 (fuel + 1) listed a w := by
  have hS' : ∀ (listed : Array Bool) (w : World), i ∈ Region.ready md ops listed → (pendB T listed = true → S w) → (pendB T3 listed = true → R w) → S' w := fun listed w hr hP hP3 => by
    rcases hT with h | ⟨rfl, h⟩ | ⟨rfl, h⟩
    · exact h w
    · exact hP (List.any_eq_true.2 ⟨i, h, by rw [(mem_ready.1 hr).1]; rfl⟩)
    · exact hP3 (List.any_eq_true.2 ⟨i, h, by rw [(mem_ready.1 hr).1]; rfl⟩)
  have hc : ∀ w, condB md ops S R D T T3 i w w := fun w => by unfold condB; rw [hD]; exact rfl
  intro fuel
  induction fuel with
  | zero =>
    intro listed a w _ hr hy hP hP3 H
    refine ⟨fun h => (by rw [h] at hr; cases hr), fun j hj => ?_⟩
    by_cases hji : j = i
    · subst hji
      exact hy.wpOp hi (hS' _ _ hr hP hP3) ⟨hc w, H⟩
    · have := ready_mono hj hji
      rw [H.1] at this
      cases this
  | succ fuel ih =>
    intro listed a w hfree hr hy hP hP3 H
    refine ⟨fun h => (by rw [h] at hr; cases hr), fun j hj => ?_⟩
    by_cases hji : j = i
    · subst hji
      exact hy.wpOp hi (hS' _ _ hr hP hP3) ⟨hc w, H⟩
    · have k1 := H.2 j (ready_mono hj hji)
      obtain ⟨hun, oj, hoj, hall⟩ := mem_ready.1 hj
      have hno : ∀ e ∈ oj.after, Region.binds md e = true → e.on ≠ i := fun e he hb heq => by
        have g1 := hall e he hb
        have g0 := (mem_ready.1 hr).1
        rw [heq, getD_both g0] at g1
        cases g1
      have k2 := wpOp_putIf hoj (hfree j oj hoj hji hun hno) (fun cs b => hsel i oi cs b hi) (fun cs b => hsel j oj cs b hoj) hQ hy k1
      have hfree' : ∀ k ok, ops[k]? = some ok → k ≠ i → (listed.setIfInBounds j true).getD k true = false →
          (∀ e ∈ ok.after, Region.binds md e = true → e.on ≠ i) → oi.apart ops ok = true := fun k ok hk hki hu hn => by
        refine hfree k ok hk hki ?_ hn
        by_cases hjk : j = k
        · subst hjk; exact hun
        · rw [getD_set_ne true hjk] at hu; exact hu
      refine wpOp_mono (fun a' w' k3 => ⟨k3.2.1, ih (listed.setIfInBounds j true) a' w' hfree' (ready_mono hr (Ne.symm hji)) k3.1 (fun hp => ?_) (fun hp => ?_) ?_⟩) k2
      · obtain ⟨t, ht, -, hu⟩ := pendB_of hp
        have hcj := k3.2.1
        unfold condB at hcj
        split at hcj
        · exact hcj.1 (need_of hj ht hu)
        · rw [hcj]
          exact hP (List.any_eq_true.2 ⟨t, ht, by rw [hu]; rfl⟩)
      · obtain ⟨t, ht, -, hu⟩ := pendB_of hp
        have hcj := k3.2.1
        unfold condB at hcj
        split at hcj
        · exact hcj.2 (need_of hj ht hu)
        · rw [hcj]
          exact hP3 (List.any_eq_true.2 ⟨t, ht, by rw [hu]; rfl⟩)
      · rw [Array.setIfInBounds_comm _ _ hji]
        exact k3.2.2

/-- What an operation that only reads tells. -/
def readsUpon (v : Value) (w : World) : Result Next → Prop
  | .ok (.value u) w' => u = v ∧ w' = w
  | _ => False
/-- An operation that reads the same behind whatever was drawn. -/
def takeOp (P : Program) (ops : Array Oper) (w0 : World) (i : Nat) (K : Act → Prop) (a : Act) : Prop :=
  match ops[i]? with
  | none => False
  | some o => if Region.wanted o (yielded ops a.tmps) then ∃ v, (∀ n, readsUpon v (w0.drewN n) ((execOp a.eval o).run P (w0.drewN n))) ∧ K (a.put o.dst v) else K (a.put o.dst undef)
def Drawn (w0 w : World) : Prop := ∃ n, w = w0.drewN n
theorem takeOp_yields {w0 : World} {i : Nat} {K : Act → Prop} {a : Act} (h : takeOp P ops w0 i K a) : ∃ o v, ops[i]? = some o ∧ YieldsIf P ops (Drawn w0) o v a ∧ K (a.put o.dst v) := by
  unfold takeOp at h
  split at h
  · cases h
  · rename_i o ho
    split at h
    · rename_i hw
      obtain ⟨v, hv, hk⟩ := h
      refine ⟨o, v, ho, .inl ⟨hw, fun w hw' => ?_⟩, hk⟩
      obtain ⟨n, rfl⟩ := hw'
      have := hv n
      generalize (execOp a.eval o).run P (w0.drewN n) = r at this
      unfold readsUpon at this
      split at this
      · obtain ⟨rfl, rfl⟩ := this; rfl
      · cases this
    · rename_i hw
      exact ⟨o, undef, ho, .inr ⟨by simpa using hw, rfl⟩, h⟩

/-- An operation that reads no memory. -/
def pureOp (P : Program) (ops : Array Oper) (i : Nat) (K : Act → Prop) (a : Act) : Prop :=
  match ops[i]? with
  | none => False
  | some o => if Region.wanted o (yielded ops a.tmps) then ∃ v, (∀ w, readsUpon v w ((execOp a.eval o).run P w)) ∧ K (a.put o.dst v) else K (a.put o.dst undef)
theorem pureOp_yields {i : Nat} {K : Act → Prop} {a : Act} (h : pureOp P ops i K a) : ∃ o v, ops[i]? = some o ∧ YieldsIf P ops (fun _ => True) o v a ∧ K (a.put o.dst v) := by
  unfold pureOp at h
  split at h
  · cases h
  · rename_i o ho
    split at h
    · rename_i hw
      obtain ⟨v, hv, hk⟩ := h
      refine ⟨o, v, ho, .inl ⟨hw, fun w _ => ?_⟩, hk⟩
      have := hv w
      generalize (execOp a.eval o).run P w = r at this
      unfold readsUpon at this
      split at this
      · obtain ⟨rfl, rfl⟩ := this; rfl
      · cases this
    · rename_i hw
      exact ⟨o, undef, ho, .inr ⟨by simpa using hw, rfl⟩, h⟩

/-- One that reads, the same wherever R holds. -/
def keepOp (P : Program) (ops : Array Oper) (R : World → Prop) (i : Nat) (K : Act → Prop) (a : Act) : Prop :=
  ∃ o v, ops[i]? = some o ∧ YieldsIf P ops R o v a ∧ K (a.put o.dst v)
/-- In this order: 1 is one that reads no memory, 2 one that reads, 3 one that reads what R holds; 0 is the only one that may come up when it is its turn. -/
def ordB (md : Region.Mode) (ops : Array Oper) (D T T3 : List Nat) : List (Nat × Nat) → Array Bool → Bool
  | [], listed => (Region.ready md ops listed).isEmpty
  | (i, 0) :: l, listed => decide (Region.ready md ops listed = [i]) && (D.contains i && ordB md ops D T T3 l (listed.setIfInBounds i true))
  | (i, 1) :: l, listed => ((Region.ready md ops listed).contains i && Region.free md ops listed i) && (!D.contains i && ordB md ops D T T3 l (listed.setIfInBounds i true))
  | (i, 2) :: l, listed => ((Region.ready md ops listed).contains i && Region.free md ops listed i) && ((!D.contains i && T.contains i) && ordB md ops D T T3 l (listed.setIfInBounds i true))
  | (i, _ + 3) :: l, listed => ((Region.ready md ops listed).contains i && Region.free md ops listed i) && ((!D.contains i && T3.contains i) && ordB md ops D T T3 l (listed.setIfInBounds i true))
/-- What is to be shown, operation by operation. -/
def wpOrd (P : Program) (md : Region.Mode) (ops : Array Oper) (Q : Exit → Act → World → Prop) (w0 : World) (R : World → Prop) (T T3 : List Nat) : List (Nat × Nat) → Act → World → Prop
  | [], a, w => Q .normal a w
  | (i, 0) :: l, a, w => wpOp P ops Q i (fun a' w' => ((needB md ops T i = true → Drawn w0 w') ∧ (needB md ops T3 i = true → R w')) ∧ wpOrd P md ops Q w0 R T T3 l a' w') a w
  | (i, 1) :: l, a, w => pureOp P ops i (fun a' => wpOrd P md ops Q w0 R T T3 l a' w) a
  | (i, 2) :: l, a, w => takeOp P ops w0 i (fun a' => wpOrd P md ops Q w0 R T T3 l a' w) a
  | (i, _ + 3) :: l, a, w => keepOp P ops R i (fun a' => wpOrd P md ops Q w0 R T T3 l a' w) a
theorem pend_less {L : List Nat} {listed : Array Bool} {i : Nat} {X : Prop} (h : pendB L listed = true → X) (hp : pendB L (listed.setIfInBounds i true) = true) : X := by
  obtain ⟨t, ht, -, hu⟩ := pendB_of hp
  exact h (List.any_eq_true.2 ⟨t, ht, by rw [hu]; rfl⟩)
theorem wpAnyT_of_ord {w0 : World} (hs : Region.noSelect ops = true) (hQ : ∀ c a d v w, Q (.panic c) (a.put d v) w → Q (.panic c) a w) : ∀ (l : List (Nat × Nat)) (listed : Array Bool) (a : Act) (w : World), (pendB T listed = true → Drawn w0 w) → (pendB T3 listed = true → R w) → ordB md ops D T T3 l listed = true → wpOrd P md ops Q w0 R T T3 l a w → wpAnyT P md ops Q (Drawn w0) R D T T3 l.length listed a w
  | [], listed, a, w, _, _, hB, h => ⟨by simpa [ordB] using hB, h⟩
  | (i, 1) :: l, listed, a, w, hP, hP3, hB, h => by
    simp only [ordB, Bool.and_eq_true, Bool.not_eq_true'] at hB
    obtain ⟨⟨h1, h2⟩, h3, h4⟩ := hB
    obtain ⟨o, v, ho, hy, hr⟩ := pureOp_yields h
    exact wpAnyT_first h3 (.inl fun _ => trivial) ho (Region.noSelect_spec hs) (fun c a w => hQ c a _ _ w) l.length listed a w (Region.free_spec ho h2) (by simpa using h1) hy hP hP3 (wpAnyT_of_ord hs hQ l _ _ _ (pend_less hP) (pend_less hP3) h4 hr)
  | (i, 2) :: l, listed, a, w, hP, hP3, hB, h => by
    simp only [ordB, Bool.and_eq_true, Bool.not_eq_true'] at hB
    obtain ⟨⟨h1, h2⟩, ⟨h3, h5⟩, h4⟩ := hB
    obtain ⟨o, v, ho, hy, hr⟩ := takeOp_yields h
    exact wpAnyT_first h3 (.inr (.inl ⟨rfl, by simpa using h5⟩)) ho (Region.noSelect_spec hs) (fun c a w => hQ c a _ _ w) l.length listed a w (Region.free_spec ho h2) (by simpa using h1) hy hP hP3 (wpAnyT_of_ord hs hQ l _ _ _ (pend_less hP) (pend_less hP3) h4 hr)
  | (i, _ + 3) :: l, listed, a, w, hP, hP3, hB, h => by
    simp only [ordB, Bool.and_eq_true, Bool.not_eq_true'] at hB
    obtain ⟨⟨h1, h2⟩, ⟨h3, h5⟩, h4⟩ := hB
    obtain ⟨o, v, ho, hy, hr⟩ := h
    exact wpAnyT_first h3 (.inr (.inr ⟨rfl, by simpa using h5⟩)) ho (Region.noSelect_spec hs) (fun c a w => hQ c a _ _ w) l.length listed a w (Region.free_spec ho h2) (by simpa using h1) hy hP hP3 (wpAnyT_of_ord hs hQ l _ _ _ (pend_less hP) (pend_less hP3) h4 hr)
  | (i, 0) :: l, listed, a, w, hP, hP3, hB, h => by
    simp only [ordB, Bool.and_eq_true, decide_eq_true_eq] at hB
    obtain ⟨h1, h2, h3⟩ := hB
    refine ⟨fun h0 => (by rw [h1] at h0; cases h0), fun j hj => ?_⟩
    have hj' := hj
    rw [h1] at hj
    obtain rfl : j = i := by simpa using hj
    refine wpOp_mono (fun a' w' k => ⟨by unfold condB; rw [if_pos h2]; exact k.1, wpAnyT_of_ord hs hQ l _ a' w' (fun hp => ?_) (fun hp => ?_) h3 k.2⟩) h
    · obtain ⟨t, ht, -, hu⟩ := pendB_of hp
      exact k.1.1 (need_of hj' ht hu)
    · obtain ⟨t, ht, -, hu⟩ := pendB_of hp
      exact k.1.2 (need_of hj' ht hu)
theorem wp_region_ordR (l : List (Nat × Nat)) (R : World → Prop) {id : Nat} {a : Act} {w : World} (hm : P.follows .mixedOrders = true)
    (hB : (Region.noSelect ops && decide (l.length = ops.size) && ordB .any ops ((l.filter (·.2 == 0)).map (·.1)) ((l.filter (·.2 == 2)).map (·.1)) ((l.filter (·.2 == 3)).map (·.1)) l (Array.replicate ops.size false)) = true) (hQ : ∀ c a d v w, Q (.panic c) (a.put d v) w → Q (.panic c) a w)
    (hR : R w.drew) (h : ∀ W, W = w.drew → R W → wpOrd P .any ops Q W R ((l.filter (·.2 == 2)).map (·.1)) ((l.filter (·.2 == 3)).map (·.1)) l a W) : (Code.region id ops true).wp P Q a w := by
  simp only [Bool.and_eq_true, decide_eq_true_eq] at hB
  obtain ⟨⟨h1, h2⟩, h3⟩ := hB
  refine wp_region_any hm (wpAny_of_T (S := Drawn w.drew) (R := R) (D := (l.filter (·.2 == 0)).map (·.1)) (T := (l.filter (·.2 == 2)).map (·.1)) (T3 := (l.filter (·.2 == 3)).map (·.1)) _ _ _ _ ?_)
  rw [← h2]
  exact wpAnyT_of_ord h1 hQ l _ _ _ (fun _ => ⟨0, rfl⟩) (fun _ => hR) (by rw [← h2] at h3; exact h3) (h _ rfl hR)
theorem wp_region_ord (l : List (Nat × Nat)) {id : Nat} {a : Act} {w : World} (hm : P.follows .mixedOrders = true)
    (hB : (Region.noSelect ops && decide (l.length = ops.size) && ordB .any ops ((l.filter (·.2 == 0)).map (·.1)) ((l.filter (·.2 == 2)).map (·.1)) ((l.filter (·.2 == 3)).map (·.1)) l (Array.replicate ops.size false)) = true) (hQ : ∀ c a d v w, Q (.panic c) (a.put d v) w → Q (.panic c) a w)
    (h : ∀ W, W = w.drew → wpOrd P .any ops Q W (fun _ => True) ((l.filter (·.2 == 2)).map (·.1)) ((l.filter (·.2 == 3)).map (·.1)) l a W) : (Code.region id ops true).wp P Q a w :=
  wp_region_ordR l (fun _ => True) hm hB hQ trivial (fun W hW _ => h W hW)

/-! ### The moves -/
theorem wpOrd_pure {i : Nat} {l : List (Nat × Nat)} {a : Act} {w0 w : World} (h : ∀ K : Act → Prop, (∀ a', wpOrd P md ops Q w0 R T T3 l a' w → K a') → pureOp P ops i K a) : wpOrd P md ops Q w0 R T T3 ((i, 1) :: l) a w :=
  h _ (fun _ k => k)
theorem wpOrd_take {i : Nat} {l : List (Nat × Nat)} {a : Act} {w0 w : World} (h : ∀ K : Act → Prop, (∀ a', wpOrd P md ops Q w0 R T T3 l a' w → K a') → takeOp P ops w0 i K a) : wpOrd P md ops Q w0 R T T3 ((i, 2) :: l) a w :=
  h _ (fun _ k => k)
theorem wpOrd_keep {i : Nat} {l : List (Nat × Nat)} {a : Act} {w0 w : World} {o : Oper} {v : Value} (ho : ops[i]? = some o) (hw : Region.wanted o (yielded ops a.tmps) = true) (hy : ∀ w, R w → (execOp a.eval o).run P w = .ok (.value v) w) (h : wpOrd P md ops Q w0 R T T3 l (a.put o.dst v) w) : wpOrd P md ops Q w0 R T T3 ((i, 3) :: l) a w :=
  ⟨o, v, ho, .inl ⟨hw, hy⟩, h⟩
/-- One that is carried out. -/
def doOp (P : Program) (ops : Array Oper) (Q : Exit → Act → World → Prop) (i : Nat) (K : Act → World → Prop) (a : Act) (w : World) : Prop :=
  match ops[i]? with
  | none => False
  | some o => if Region.wanted o (yielded ops a.tmps) then o.wp P a w K Q else K (a.put o.dst undef) w
theorem wpOrd_doR {i : Nat} {l : List (Nat × Nat)} {a : Act} {w0 w : World}
    (h : ∀ K : Act → World → Prop, (∀ a' w', (needB md ops T i = true → Drawn w0 w') → (needB md ops T3 i = true → R w') → wpOrd P md ops Q w0 R T T3 l a' w' → K a' w') → doOp P ops Q i K a w) : wpOrd P md ops Q w0 R T T3 ((i, 0) :: l) a w := by
  have k := h (fun a' w' => ((needB md ops T i = true → Drawn w0 w') ∧ (needB md ops T3 i = true → R w')) ∧ wpOrd P md ops Q w0 R T T3 l a' w') (fun a' w' k1 k2 k3 => ⟨⟨k1, k2⟩, k3⟩)
  show wpOp P ops Q i _ a w
  unfold wpOp
  unfold doOp at k
  split
  · rename_i e; rw [e] at k; cases k
  · rename_i o e
    rw [e] at k
    simp only [] at k
    split
    · rename_i hw; rw [if_pos hw] at k; exact .inl k
    · rename_i hw; rw [if_neg hw] at k; exact k
theorem wpOrd_do {i : Nat} {l : List (Nat × Nat)} {a : Act} {w0 w : World}
    (h : ∀ K : Act → World → Prop, (∀ a' w', (needB md ops T i = true → Drawn w0 w') → wpOrd P md ops Q w0 (fun _ => True) T T3 l a' w' → K a' w') → doOp P ops Q i K a w) : wpOrd P md ops Q w0 (fun _ => True) T T3 ((i, 0) :: l) a w :=
  wpOrd_doR fun K hK => h K fun a' w' k1 k2 => hK a' w' k1 (fun _ => trivial) k2
theorem wpOrd_nil {a : Act} {w0 w : World} (h : Q .normal a w) : wpOrd P md ops Q w0 R T T3 [] a w := h
theorem Drawn.more {w0 w : World} (h : Drawn w0 w) (n : Nat) : Drawn w0 (w.drewN n) := by
  obtain ⟨m, rfl⟩ := h
  exact ⟨m + n, World.drewN_drewN _ _ _⟩
theorem Drawn.refl (w : World) : Drawn w w := ⟨0, rfl⟩
end
end Go.Proofs.Ytnlbafjmbamoeaa
