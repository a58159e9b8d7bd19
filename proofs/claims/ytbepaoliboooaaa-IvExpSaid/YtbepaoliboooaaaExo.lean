/-
  The runner beside Go's machine: a region in whatever order, whole.
-/
import Derived.Test.YtbepaoliboooaaaExn
namespace Go.Proofs.Ytbepaoliboooaaa.Ex
open Go
variable {P : Program} {V : Val} {ρ : Rho}

theorem maskOf_bit {ms : List Nat} {o : Oper} {i : Nat} (h : (maskOf ms o).testBit i = true) : ∃ e ∈ o.after.toList, Region.binds .any e = true ∧ (i = e.on ∨ (ms.getD e.on 0).testBit i = true) := by
  unfold maskOf at h
  have gen : ∀ (l : List Edge) (x : Nat), (l.foldl (fun s e => bif Region.binds .any e then s ||| 2 ^ e.on ||| ms.getD e.on 0 else s) x).testBit i = true → x.testBit i = true ∨ ∃ e ∈ l, Region.binds .any e = true ∧ (i = e.on ∨ (ms.getD e.on 0).testBit i = true) := by
    intro l
    induction l with
    | nil => intro x h; exact .inl h
    | cons e l ih =>
      intro x h
      rw [List.foldl_cons] at h
      rcases ih _ h with g | ⟨e', h1, h2⟩
      · cases hb : Region.binds .any e <;> rw [hb] at g
        · exact .inl g
        · simp only [cond_true, Nat.testBit_or, Bool.or_eq_true] at g
          rcases g with (g | g) | g
          · exact .inl g
          · rw [Nat.testBit_two_pow] at g
            exact .inr ⟨e, by simp, hb, .inl (by simpa using g : e.on = i).symm⟩
          · exact .inr ⟨e, by simp, hb, .inr g⟩
      · exact .inr ⟨e', by simp [h1], h2⟩
  rcases gen _ _ h with g | g
  · simp at g
  · exact g

theorem masks_spec : ∀ (l : List Oper) (ms : List Nat), (∃ t, masks l ms = ms ++ t ∧ t.length = l.length) ∧ ∀ j o, l[j]? = some o → (masks l ms)[ms.length + j]? = some (maskOf ((masks l ms).take (ms.length + j)) o)
  | [], ms => ⟨⟨[], by simp [masks], rfl⟩, fun j o h => by simp at h⟩
  | o :: l, ms => by
    obtain ⟨⟨t, h1, h2⟩, h3⟩ := masks_spec l (ms ++ [maskOf ms o])
    have e : masks (o :: l) ms = masks l (ms ++ [maskOf ms o]) := rfl
    refine ⟨⟨maskOf ms o :: t, by rw [e, h1]; simp, by simp [h2]⟩, fun j o' h => ?_⟩
    cases j with
    | zero =>
      simp only [List.getElem?_cons_zero, Option.some.injEq] at h
      subst h
      rw [e, h1]
      simp
    | succ j =>
      have := h3 j o' (by simpa using h)
      rw [e]
      simp only [List.length_append, List.length_cons, List.length_nil] at this
      rw [show ms.length + (j + 1) = ms.length + (0 + 1) + j by omega]
      exact this

theorem edgesAll_spec : ∀ (l : List Oper) (k : Nat), edgesAll k l = true → ∀ j o, l[j]? = some o → ∀ e ∈ o.after.toList, Region.binds .any e = true → e.on < k + j
  | [], _, _, j, o, h => by simp at h
  | x :: l, k, h, j, o, ho => by
    unfold edgesAll at h
    simp only [Bool.and_eq_true] at h
    cases j with
    | zero =>
      simp only [List.getElem?_cons_zero, Option.some.injEq] at ho
      subst ho
      intro e he hb
      have := h.1
      unfold edgesOk at this
      rw [List.all_eq_true] at this
      have := this e he
      rw [hb] at this
      simp only [Bool.not_true, Bool.false_or] at this
      exact Nat.le_of_ble_eq_true this
    | succ j =>
      intro e he hb
      have := edgesAll_spec l (k + 1) h.2 j o (by simpa using ho) e he hb
      omega

theorem mask_step {l : List Oper} (he : edgesAll 0 l = true) {k : Nat} {o : Oper} (ho : l[k]? = some o) {i : Nat} (h : ((masks l []).getD k 0).testBit i = true) :
    ∃ e ∈ o.after.toList, Region.binds .any e = true ∧ (i = e.on ∨ ((masks l []).getD e.on 0).testBit i = true) := by
  obtain ⟨-, h3⟩ := masks_spec l []
  have h4 := h3 k o ho
  simp only [List.length_nil, Nat.zero_add] at h4
  have : (masks l []).getD k 0 = maskOf ((masks l []).take k) o := by rw [List.getD_eq_getElem?_getD, h4]; rfl
  rw [this] at h
  obtain ⟨e, e1, e2, e3⟩ := maskOf_bit h
  refine ⟨e, e1, e2, ?_⟩
  rcases e3 with e3 | e3
  · exact .inl e3
  · right
    have hlt := edgesAll_spec l 0 he k o ho e e1 e2
    have : ((masks l []).take k).getD e.on 0 = (masks l []).getD e.on 0 := by
      rw [List.getD_eq_getElem?_getD, List.getD_eq_getElem?_getD, List.getElem?_take, if_pos (by omega)]
    rwa [this] at e3

theorem apartFrom_spec {b : Item} {m : Nat} : ∀ (l : List Item) (i : Nat), apartFrom b m i l = true → ∀ k a, l[k]? = some a → m.testBit (i + k) = true ∨ apartI a b = true
  | [], _, _, k, a, h => by simp at h
  | x :: l, i, h, k, a, ha => by
    unfold apartFrom at h
    simp only [Bool.and_eq_true, Bool.or_eq_true] at h
    cases k with
    | zero =>
      simp only [List.getElem?_cons_zero, Option.some.injEq] at ha
      subst ha
      exact h.1
    | succ k =>
      have := apartFrom_spec l (i + 1) h.2 k a (by simpa using ha)
      rwa [show i + (k + 1) = i + 1 + k by omega]
theorem apartAll_spec : ∀ (l : List Item) (ms : List Nat) (done : List Item), apartAll l ms done = true → ∀ j b, l[j]? = some b → ∀ i a, i < done.length + j → (done ++ l)[i]? = some a → (ms.getD j 0).testBit i = true ∨ apartI a b = true
  | [], _, _, _, j, b, h => by simp at h
  | x :: l, [], _, h, _, _, _ => by simp [apartAll] at h
  | x :: l, m :: ms, done, h, j, b, hb => by
    unfold apartAll at h
    simp only [Bool.and_eq_true] at h
    intro i a hi ha
    cases j with
    | zero =>
      simp only [List.getElem?_cons_zero, Option.some.injEq] at hb
      subst hb
      rw [List.getElem?_append_left (by omega)] at ha
      have := apartFrom_spec done 0 h.1 i a ha
      simpa using this
    | succ j =>
      have := apartAll_spec l ms (done ++ [x]) h.2 j b (by simpa using hb) i a (by simp; omega) (by simpa using ha)
      simpa using this

theorem items_spec {g : Gam} {call : Callee} {N : Nat} {ops : Array Oper} : ∀ (l : List Oper) {s s' : St} {is : List Item}, xitems P g call N ops l s = .ok (is, s') →
    ∃ S : Nat → St, S 0 = s ∧ S l.length = s' ∧ is.length = l.length ∧ ∀ k it, is[k]? = some it → l[k]? = some it.o ∧ it.names = namesOf ops it.o ∧ xop P g call N ops (S k).tm.get (S k).hp.get (S k).nx it.o = .ok it.r ∧ S (k + 1) = (S k).apply it.o.dst it.r
  | [], s, s', is, h => by
    simp only [xitems, Res.ok.injEq, Prod.mk.injEq] at h
    obtain ⟨rfl, rfl⟩ := h
    exact ⟨fun _ => s, rfl, rfl, rfl, fun k it h => by simp at h⟩
  | o :: l, s, s', is, h => by
    unfold xitems at h
    simp only [T.getF_eq, St.applyF_eq] at h
    split at h
    · rename_i r hr
      split at h
      · rename_i is' s'' h2
        simp only [Res.ok.injEq, Prod.mk.injEq] at h
        obtain ⟨rfl, rfl⟩ := h
        obtain ⟨S, h3, h4, h5, h6⟩ := items_spec l h2
        refine ⟨fun k => match k with | 0 => s | k + 1 => S k, rfl, h4, by simp [h5], fun k it hk => ?_⟩
        cases k with
        | zero =>
          simp only [List.getElem?_cons_zero, Option.some.injEq] at hk
          subst hk
          exact ⟨rfl, rfl, hr, h3⟩
        | succ k =>
          have := h6 k it (by simpa using hk)
          exact ⟨by simpa using this.1, this.2.1, this.2.2.1, this.2.2.2⟩
      · cases h
      · cases h
    · cases h
    · cases h

def St.f (s : St) : F := ⟨s.tm.get, s.hp.get⟩

theorem Step.widen {hg hg' : HG} {nx nx' a b : Nat} {w w' : World} {v : SV} {rv : Value} {ρ' : Rho} (h : Step V ρ hg nx w v hg' nx' ρ' w' rv) (h1 : a ≤ nx) (h2 : nx' ≤ b) : Step V ρ hg a w v hg' b ρ' w' rv :=
  { h with new := fun c q hc => (h.new c q hc).imp id fun ⟨g1, g2⟩ => ⟨by omega, by omega⟩, le := by have := h.le; omega }
theorem Step.trans2 {hg hg1 hg2 : HG} {nx nx' : Nat} {w w1 w2 : World} {v1 v2 : SV} {r1 r2 : Value} {ρ1 ρ2 : Rho}
    (a : Step V ρ hg nx w v1 hg1 nx' ρ1 w1 r1) (b : Step V ρ1 hg1 nx w1 v2 hg2 nx' ρ2 w2 r2) : Step V ρ hg nx w v2 hg2 nx' ρ2 w2 r2 where
  ext := a.ext.trans b.ext
  new := fun c q h => by
    rcases b.new c q h with g | g
    · exact a.new c q g
    · exact .inr g
  le := a.le
  val := b.val
  hr := b.hr
  os := b.os.trans a.os
  tape := b.tape.trans a.tape
  output := b.output.trans a.output
  size := Nat.le_trans a.size b.size
  keep := fun k hk hn => by
    rw [b.keep k (Nat.lt_of_lt_of_le hk a.size) fun ho => ?_, a.keep k hk hn]
    rcases a.own k ho with g | g
    · exact hn g
    · omega
  frz := fun c q j h1 h2 => by
    rcases b.frz c q j h1 h2 with g | g
    · exact a.frz c q j g h2
    · exact .inr (Nat.le_trans a.size g)
  own := fun k ho => by
    rcases b.own k ho with g | g
    · exact a.own k g
    · exact .inr (Nat.le_trans a.size g)

/-- All that is known of a region that was run in the order of its text. -/
structure Ran (P : Program) (V : Val) (g : Gam) (call : Callee) (N : Nat) (ops : Array Oper) (s : St) (is : List Item) (S : Nat → St) : Prop where
  len : is.length = ops.size
  z : S 0 = s
  at_ : ∀ k it, is[k]? = some it → ops[k]? = some it.o ∧ it.names = namesOf ops it.o ∧ xop P g call N ops (S k).tm.get (S k).hp.get (S k).nx it.o = .ok it.r ∧ S (k + 1) = (S k).apply it.o.dst it.r
  edges : edgesAll 0 ops.toList = true
  apart : ∀ j b, is[j]? = some b → ∀ i a, i < j → is[i]? = some a → ((masks ops.toList []).getD j 0).testBit i = true ∨ Apart a b

variable {g : Gam} {call : Callee} {N : Nat} {ops : Array Oper} {s : St} {is : List Item} {S : Nat → St}

theorem Ran.rec_ (h : Ran P V g call N ops s is S) (hgm : GamOK V g) (hcall : CallOK P V call) {k : Nat} {it : Item} (hk : is[k]? = some it) : RecOK N it.o.dst (S k).nx it.r :=
  (xop_ok (V := V) (ρ := fun _ => none) (a := ⟨#[], []⟩) (w := default) (K := fun _ _ => True) (Q := fun _ _ _ => True) hgm hcall (h.at_ k it hk).2.2.1).1

theorem Ran.nx_succ (h : Ran P V g call N ops s is S) {k : Nat} {it : Item} (hk : is[k]? = some it) : (S (k + 1)).nx = it.r.nx := by
  rw [(h.at_ k it hk).2.2.2]; rfl
theorem Ran.nx_mono (h : Ran P V g call N ops s is S) (hgm : GamOK V g) (hcall : CallOK P V call) : ∀ (j i : Nat), i ≤ j → j ≤ is.length → (S i).nx ≤ (S j).nx := by
  intro j
  induction j with
  | zero => intro i hi _; have : i = 0 := by omega
            subst this; exact Nat.le_refl _
  | succ j ih =>
    intro i hi hj
    by_cases e : i = j + 1
    · subst e; exact Nat.le_refl _
    · have hlt : j < is.length := by omega
      have hk : is[j]? = some is[j] := List.getElem?_eq_getElem hlt
      have h1 := (h.rec_ hgm hcall hk).le
      rw [h.nx_succ hk]
      exact Nat.le_trans (ih i (by omega) (by omega)) h1

theorem foldF_none : ∀ (l : List Item) (k : Nat) (s : F) (D : Nat → Bool), (∀ i, i < l.length → D (k + i) = false) → foldF D k l s = s
  | [], _, _, _, _ => rfl
  | it :: l, k, s, D, h => by
    unfold foldF
    rw [show D k = false from h 0 (by simp)]
    simp only [Bool.false_eq_true, if_false]
    exact foldF_none l (k + 1) s D fun i hi => by have := h (i + 1) (by simpa using hi); rwa [show k + (i + 1) = k + 1 + i by omega] at this
theorem foldF_eq {D D' : Nat → Bool} : ∀ (l : List Item) (k : Nat) (s : F), (∀ i, i < l.length → D (k + i) = D' (k + i)) → foldF D k l s = foldF D' k l s
  | [], _, _, _ => rfl
  | it :: l, k, s, h => by
    unfold foldF
    have h0 := h 0 (by simp)
    simp only [Nat.add_zero] at h0
    rw [h0]
    exact foldF_eq l (k + 1) _ fun i hi => by have := h (i + 1) (by simpa using hi); rwa [show k + (i + 1) = k + 1 + i by omega] at this

theorem Ran.state (h : Ran P V g call N ops s is S) (hgm : GamOK V g) (hcall : CallOK P V call) (hN : N ≤ T.most) : ∀ k, k ≤ is.length → (S k).f = foldF (fun i => decide (i < k)) 0 is s.f := by
  intro k
  induction k with
  | zero =>
    intro _
    rw [h.z]
    exact (foldF_none is 0 s.f _ fun i _ => by simp).symm
  | succ k ih =>
    intro hk
    have hlt : k < is.length := by omega
    have hg : is[k]? = some is[k] := List.getElem?_eq_getElem hlt
    have e1 : foldF (fun i => decide (i < k + 1)) 0 is s.f = foldF (ins (fun i => decide (i < k)) k) 0 is s.f := foldF_eq is 0 _ fun i _ => by
      unfold ins
      simp only [Nat.zero_add]
      rw [Bool.eq_iff_iff]; simp; omega
    rw [e1, fold_ins (j := k) (a := is[k]) (by simp) is 0 s.f (by omega) (by rw [Nat.sub_zero]; exact hg) fun i it hi hlt' hd => by simp at hd; omega]
    rw [← ih (by omega), (h.at_ k _ hg).2.2.2]
    have hok := h.rec_ hgm hcall hg
    unfold St.f F.app
    rw [apply_hp hok, apply_tm hN hok]
    try rfl

/-- In whatever state that may come up each operation does what it did in the order of the text. -/
theorem Ran.again (h : Ran P V g call N ops s is S) (hgm : GamOK V g) (hcall : CallOK P V call) (hN : N ≤ T.most) {D : Nat → Bool} {j : Nat} {it : Item} (hj : is[j]? = some it) (hD : D j = false)
    (hclosed : ∀ k, D k = true → ∀ i, ((masks ops.toList []).getD k 0).testBit i = true → D i = true) (hpre : ∀ i, ((masks ops.toList []).getD j 0).testBit i = true → D i = true) :
    xop P g call N ops (foldF D 0 is s.f).tm (foldF D 0 is s.f).hp (S j).nx it.o = .ok it.r := by
  obtain ⟨h1, h2, h3, h4⟩ := h.at_ j it hj
  have hjl : j < is.length := by
    rcases Nat.lt_or_ge j is.length with q | q
    · exact q
    · rw [List.getElem?_eq_none q] at hj; cases hj
  have hst := h.state hgm hcall hN j (by omega)
  -- whoever is in one of the two and not in the other is apart
  have key : ∀ i a, is[i]? = some a → D (0 + i) ≠ decide (0 + i < j) → Apart a it := fun i a hi hne => by
    rw [Nat.zero_add] at hne
    rcases Nat.lt_trichotomy i j with c | c | c
    · rcases h.apart j it hj i a c hi with q | q
      · exact absurd (by rw [hpre i q]; simp [c]) hne
      · exact q
    · subst c
      rw [hD] at hne; simp at hne
    · rcases h.apart i a hi j it c hj with q | q
      · have : D i = true := by
          cases hd : D i
          · rw [hd] at hne; simp at hne; omega
          · rfl
        have := hclosed i this j q
        rw [hD] at this; cases this
      · exact ⟨fun d hd => ⟨q.d2 d hd, fun e => (q.d1 d e).2 hd⟩, fun d hd => (q.d1 d hd).1, q.m2, q.m1⟩
  have htm : ∀ t ∈ namesOf ops it.o, (foldF D 0 is s.f).tm t = (S j).tm.get t := fun t ht => by
    have e : (S j).tm.get t = (foldF (fun i => decide (i < j)) 0 is s.f).tm t := by rw [← hst]; rfl
    rw [e]
    refine fold_obs (fun s => s.tm t) (fun s s' i e => by unfold F.app putG; simp only; split <;> first | rfl | exact e) _ _ is 0 s.f s.f rfl fun i a hi hne s => ?_
    have hap := key i a hi hne
    unfold F.app putG
    simp only
    rw [if_neg]
    intro e
    exact (hap.d1 t e).1 (by rw [h2]; exact ht)
  have hblk : ∀ b, (∀ i a, is[i]? = some a → D (0 + i) ≠ decide (0 + i < j) → (∀ x ∈ a.r.wb, x.1 ≠ b) ∧ ∀ x ∈ a.r.wc, x.1 ≠ b) → (foldF D 0 is s.f).hp b = (S j).hp.get b := fun b hb => by
    have e : (S j).hp.get b = (foldF (fun i => decide (i < j)) 0 is s.f).hp b := by rw [← hst]; rfl
    rw [e]
    refine fold_obs (fun s => s.hp b) (fun s s' i e => by unfold F.app upd; simp only at e ⊢; rw [e]) _ _ is 0 s.f s.f rfl fun i a hi hne s => ?_
    exact upd_same (hb i a hi hne).1 (hb i a hi hne).2
  have hlen : ∀ b, (∀ i a, is[i]? = some a → D (0 + i) ≠ decide (0 + i < j) → ∀ x ∈ a.r.wb, x.1 ≠ b) → lens (foldF D 0 is s.f).hp b = lens (S j).hp.get b := fun b hb => by
    have e : lens (S j).hp.get b = lens (foldF (fun i => decide (i < j)) 0 is s.f).hp b := by rw [← hst]; rfl
    rw [e]
    refine fold_obs (fun s => lens s.hp b) (fun s s' i e => by unfold F.app; simp only at e ⊢; rw [upd_len, upd_len, e]) _ _ is 0 s.f s.f rfl fun i a hi hne s => ?_
    unfold F.app
    simp only
    rw [upd_len, lookB_none (hb i a hi hne)]
  have hcell : ∀ b c, (∀ i a, is[i]? = some a → D (0 + i) ≠ decide (0 + i < j) → (∀ x ∈ a.r.wb, x.1 ≠ b) ∧ ∀ x ∈ a.r.wc, ¬ (x.1 = b ∧ x.2.1 = c)) → cellAt (foldF D 0 is s.f).hp b c = cellAt (S j).hp.get b c := fun b c hb => by
    have e : cellAt (S j).hp.get b c = cellAt (foldF (fun i => decide (i < j)) 0 is s.f).hp b c := by rw [← hst]; rfl
    rw [e]
    refine fold_obs (fun s => cellAt s.hp b c) (fun s s' i e => by unfold F.app; simp only at e ⊢; rw [upd_cell, upd_cell, e]) _ _ is 0 s.f s.f rfl fun i a hi hne s => ?_
    unfold F.app
    simp only
    rw [upd_cell, lookB_none (hb i a hi hne).1]
    simp only
    cases cellAt s.hp b c with
    | none => rfl
    | some x => simp [wAt_none (hb i a hi hne).2]
  have hlike : Like it.r (S j).hp.get (foldF D 0 is s.f).hp := by
    refine ⟨fun b hb => ?_, fun x hx => ?_, fun b hb => ?_⟩
    · exact hblk b fun i a hi hne => ⟨fun y hy e => (key i a hi hne).m1.b1 y hy (e ▸ hb), fun y hy e => (key i a hi hne).m1.c1 y hy (e ▸ hb)⟩
    · refine rangeC_cells (hlen x.1 fun i a hi hne y hy e => (key i a hi hne).m1.b2 y hy x hx e) fun c hc1 hc2 => hcell x.1 c fun i a hi hne => ⟨fun y hy e => (key i a hi hne).m1.b2 y hy x hx e, fun y hy e => (key i a hi hne).m1.c2 y hy x hx ⟨e.1, by omega, by omega⟩⟩
    · exact hlen b fun i a hi hne y hy e => (key i a hi hne).m1.b4 y hy (e ▸ hb)
  unfold xop at h3 ⊢
  simp only [planF_eq, runF_eq] at h3 ⊢
  cases hd : dstIn N it.o.dst <;> rw [hd] at h3
  · cases h3
  · simp only [cond_true] at h3 ⊢
    rw [wantedX_congr htm]
    split at h3
    · rename_i hw
      rw [planOf_congr (evalX_congr htm)]
      split at h3
      · rename_i p hp
        split at h3
        · rename_i r hr
          cases hs : small r <;> rw [hs] at h3
          · cases h3
          · simp only [cond_true, Res.ok.injEq] at h3
            subst h3
            simp only [runPlan_like hr hlike, hs, cond_true]
        · cases h3
        · cases h3
      · cases h3
      · cases h3
    · exact h3
    · cases h3
    · cases h3
end Go.Proofs.Ytbepaoliboooaaa.Ex
