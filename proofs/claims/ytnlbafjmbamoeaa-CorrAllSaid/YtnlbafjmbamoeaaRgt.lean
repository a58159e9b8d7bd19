/-
  A region that draws its order, walked by a tree: where several may come up, each way is walked.
-/
import Derived.Test.YtnlbafjmbamoeaaReg
namespace Go.Proofs.Ytnlbafjmbamoeaa
open Go

/-- The ways: an operation taken ahead (1 reads no memory, 3 reads what R holds); one of several that are carried out. -/
inductive OT where
  | nil
  | stop
  | op (i k : Nat) (t : OT)
  | alt (i : Nat) (t more : OT)
def OT.heads : OT → List Nat
  | .alt i _ more => i :: more.heads
  | _ => []
def OT.deep : OT → Nat
  | .nil => 0
  | .stop => 0
  | .op _ _ t => t.deep + 1
  | .alt _ t more => max (t.deep + 1) more.deep
section
variable {P : Program} {ops : Array Oper} {Q : Exit → Act → World → Prop} {md : Region.Mode} {R : World → Prop} {D T3 : List Nat}

def ordT (md : Region.Mode) (ops : Array Oper) (D T3 : List Nat) : OT → Array Bool → Bool → Bool
  | .nil, listed, hd => hd && (Region.ready md ops listed).isEmpty
  | .stop, _, hd => !hd
  | .op i k t, listed, hd => (hd && ((Region.ready md ops listed).contains i && Region.free md ops listed i)) && ((!D.contains i && (k == 1 || (k == 3 && T3.contains i))) && ordT md ops D T3 t (listed.setIfInBounds i true) true)
  | .alt i t more, listed, hd => ((!hd || (Region.ready md ops listed).all fun j => (i :: more.heads).contains j) && (!hd || !(Region.ready md ops listed).isEmpty)) && ((D.contains i && ordT md ops D T3 t (listed.setIfInBounds i true) true) && ordT md ops D T3 more listed false)
def wpTree (P : Program) (md : Region.Mode) (ops : Array Oper) (Q : Exit → Act → World → Prop) (R : World → Prop) (T3 : List Nat) : OT → Act → World → Prop
  | .nil, a, w => Q .normal a w
  | .stop, _, _ => True
  | .op i k t, a, w => if k = 1 then pureOp P ops i (fun a' => wpTree P md ops Q R T3 t a' w) a else keepOp P ops R i (fun a' => wpTree P md ops Q R T3 t a' w) a
  | .alt i t more, a, w => wpOp P ops Q i (fun a' w' => (needB md ops T3 i = true → R w') ∧ wpTree P md ops Q R T3 t a' w') a w ∧ wpTree P md ops Q R T3 more a w
theorem alt_find {listed : Array Bool} {a : Act} {w : World} {j : Nat} : ∀ {t : OT} {hd : Bool}, j ∈ t.heads → ordT md ops D T3 t listed hd = true → wpTree P md ops Q R T3 t a w →
    ∃ s, s.deep + 1 ≤ t.deep ∧ D.contains j = true ∧ ordT md ops D T3 s (listed.setIfInBounds j true) true = true ∧ wpOp P ops Q j (fun a' w' => (needB md ops T3 j = true → R w') ∧ wpTree P md ops Q R T3 s a' w') a w
  | .nil, _, h, _, _ => by cases h
  | .stop, _, h, _, _ => by cases h
  | .op _ _ _, _, h, _, _ => by cases h
  | .alt i t more, hd, h, hB, hw => by
    simp only [ordT, Bool.and_eq_true] at hB
    obtain ⟨-, ⟨h2, h3⟩, h4⟩ := hB
    obtain ⟨w1, w2⟩ := hw
    rcases List.mem_cons.1 h with rfl | h
    · exact ⟨t, by simp only [OT.deep]; omega, h2, h3, w1⟩
    · obtain ⟨s, s1, s2, s3, s4⟩ := alt_find h h4 w2
      exact ⟨s, by simp only [OT.deep]; omega, s2, s3, s4⟩
theorem wpAnyT_of_tree (hs : Region.noSelect ops = true) (hQ : ∀ c a d v w, Q (.panic c) (a.put d v) w → Q (.panic c) a w) : ∀ (n : Nat) (t : OT) (listed : Array Bool) (a : Act) (w : World), t.deep ≤ n → (pendB T3 listed = true → R w) → ordT md ops D T3 t listed true = true → wpTree P md ops Q R T3 t a w → wpAnyT P md ops Q (fun _ => True) R D [] T3 n listed a w
  | 0, .nil, listed, a, w, _, _, hB, h => ⟨by simpa [ordT] using hB, h⟩
  | n + 1, .nil, listed, a, w, _, _, hB, h => by
    have e : Region.ready md ops listed = [] := by simpa [ordT] using hB
    exact ⟨fun _ => h, fun i hi => by rw [e] at hi; cases hi⟩
  | _, .stop, _, _, _, _, _, hB, _ => by simp [ordT] at hB
  | 0, .op i k t, _, _, _, hd, _, _, _ => by simp only [OT.deep] at hd; omega
  | 0, .alt i t more, _, _, _, hd, _, _, _ => by simp only [OT.deep] at hd; omega
  | n + 1, .op i k t, listed, a, w, hd, hP, hB, h => by
    simp only [OT.deep] at hd
    simp only [ordT, Bool.and_eq_true, Bool.not_eq_true', Bool.or_eq_true, beq_iff_eq] at hB
    obtain ⟨⟨-, h1, h2⟩, ⟨h3, hk⟩, h4⟩ := hB
    unfold wpTree at h
    split at h
    · obtain ⟨o, v, ho, hy, hr⟩ := pureOp_yields h
      exact wpAnyT_first h3 (.inl fun _ => trivial) ho (Region.noSelect_spec hs) (fun c a w => hQ c a _ _ w) n listed a w (Region.free_spec ho h2) (by simpa using h1) hy (fun _ => trivial) hP (wpAnyT_of_tree hs hQ n t _ _ _ (by omega) (pend_less hP) h4 hr)
    · rename_i h1k
      obtain ⟨o, v, ho, hy, hr⟩ := h
      rcases hk with hk | ⟨-, h5⟩
      · exact absurd hk h1k
      · exact wpAnyT_first h3 (.inr (.inr ⟨rfl, by simpa using h5⟩)) ho (Region.noSelect_spec hs) (fun c a w => hQ c a _ _ w) n listed a w (Region.free_spec ho h2) (by simpa using h1) hy (fun _ => trivial) hP (wpAnyT_of_tree hs hQ n t _ _ _ (by omega) (pend_less hP) h4 hr)
  | n + 1, .alt i t more, listed, a, w, hd, hP, hB, h => by
    have hB0 := hB
    simp only [ordT, Bool.and_eq_true, Bool.not_true, Bool.false_or, List.all_eq_true] at hB
    obtain ⟨⟨h1, h0⟩, -⟩ := hB
    refine ⟨fun e => (by rw [e] at h0; cases h0), fun j hj => ?_⟩
    have hjh : j ∈ (OT.alt i t more).heads := by
      have := h1 j hj
      exact List.contains_iff_mem.1 this
    obtain ⟨s, s1, s2, s3, s4⟩ := alt_find hjh hB0 h
    refine wpOp_mono (fun a' w' k => ⟨by unfold condB; rw [if_pos s2]; exact ⟨fun _ => trivial, k.1⟩, wpAnyT_of_tree hs hQ n s _ a' w' (by omega) (fun hp => ?_) s3 k.2⟩) s4
    obtain ⟨x, hx, -, hu⟩ := pendB_of hp
    exact k.1 (need_of hj hx hu)
theorem wp_region_tree (t : OT) (D T3 : List Nat) (R : World → Prop) {id : Nat} {a : Act} {w : World} (hm : P.follows .mixedOrders = true)
    (hB : (Region.noSelect ops && decide (t.deep ≤ ops.size) && ordT .any ops D T3 t (Array.replicate ops.size false) true) = true) (hQ : ∀ c a d v w, Q (.panic c) (a.put d v) w → Q (.panic c) a w)
    (hR : R w.drew) (h : ∀ W, W = w.drew → R W → wpTree P .any ops Q R T3 t a W) : (Code.region id ops true).wp P Q a w := by
  simp only [Bool.and_eq_true, decide_eq_true_eq] at hB
  obtain ⟨⟨h1, h2⟩, h3⟩ := hB
  exact wp_region_any hm (wpAny_of_T (S := fun _ => True) (R := R) (D := D) (T := []) (T3 := T3) _ _ _ _ (wpAnyT_of_tree h1 hQ _ t _ _ _ h2 (fun _ => hR) h3 (h _ rfl hR)))
theorem wpTree_pure {i : Nat} {t : OT} {a : Act} {w : World} (h : ∀ K : Act → Prop, (∀ a', wpTree P md ops Q R T3 t a' w → K a') → pureOp P ops i K a) : wpTree P md ops Q R T3 (.op i 1 t) a w := by
  unfold wpTree
  rw [if_pos rfl]
  exact h _ (fun _ k => k)
theorem wpTree_keep {i : Nat} {t : OT} {a : Act} {w : World} {o : Oper} {v : Value} (ho : ops[i]? = some o) (hw : Region.wanted o (yielded ops a.tmps) = true) (hy : ∀ w, R w → (execOp a.eval o).run P w = .ok (.value v) w) (h : wpTree P md ops Q R T3 t (a.put o.dst v) w) : wpTree P md ops Q R T3 (.op i 3 t) a w := by
  unfold wpTree
  rw [if_neg (by decide)]
  exact ⟨o, v, ho, .inl ⟨hw, hy⟩, h⟩
theorem wpTree_alt {i : Nat} {t more : OT} {a : Act} {w : World} (h : ∀ K : Act → World → Prop, (∀ a' w', (needB md ops T3 i = true → R w') → wpTree P md ops Q R T3 t a' w' → K a' w') → doOp P ops Q i K a w) (h2 : wpTree P md ops Q R T3 more a w) : wpTree P md ops Q R T3 (.alt i t more) a w := by
  refine ⟨?_, h2⟩
  have k := h (fun a' w' => (needB md ops T3 i = true → R w') ∧ wpTree P md ops Q R T3 t a' w') (fun a' w' k1 k2 => ⟨k1, k2⟩)
  show wpOp P ops Q i _ a w
  unfold wpOp
  unfold doOp at k
  split
  · rename_i e; rw [e] at k; cases k
  · rename_i o e
    rw [e] at k
    simp only [] at k
    split
    · rename_i hw; rw [if_pos hw] at k; exact .inl k
    · rename_i hw; rw [if_neg hw] at k; exact k
theorem wpTree_stop {a : Act} {w : World} : wpTree P md ops Q R T3 .stop a w := trivial
theorem wpTree_nil {a : Act} {w : World} (h : Q .normal a w) : wpTree P md ops Q R T3 .nil a w := h
end
end Go.Proofs.Ytnlbafjmbamoeaa
