/-
  The runner beside Go's machine: a region in whatever order.
-/
import Derived.Test.YtbepaoliboooaaaExm
namespace Go.Proofs.Ytbepaoliboooaaa.Ex
open Go
variable {P : Program} {V : Val} {ρ : Rho}

structure F where
  tm : Nat → Option SV
  hp : HG
def F.app (s : F) (i : Item) : F := ⟨putG s.tm i.o.dst i.r.v, upd s.hp i.r⟩
def foldF (D : Nat → Bool) : Nat → List Item → F → F
  | _, [], s => s
  | k, i :: l, s => foldF D (k + 1) l (if D k = true then s.app i else s)

theorem fold_obs {α : Type} (obs : F → α) (hc : ∀ s s' i, obs s = obs s' → obs (s.app i) = obs (s'.app i)) (D D' : Nat → Bool) :
    ∀ (l : List Item) (k : Nat) (s s' : F), obs s = obs s' → (∀ j it, l[j]? = some it → D (k + j) ≠ D' (k + j) → ∀ s, obs (s.app it) = obs s) → obs (foldF D k l s) = obs (foldF D' k l s') := by
  intro l
  induction l with
  | nil => intro k s s' h _; exact h
  | cons it l ih =>
    intro k s s' h hn
    unfold foldF
    refine ih (k + 1) _ _ ?_ fun j it' hj hd => hn (j + 1) it' (by simpa using hj) (by rwa [show k + (j + 1) = k + 1 + j by omega])
    have h0 := hn 0 it rfl
    cases hD : D k <;> cases hD' : D' k
    · simpa using h
    · simp only [if_true, Bool.false_eq_true, if_false]
      rw [h0 (by simp [hD, hD']) s']; exact h
    · simp only [if_true, Bool.false_eq_true, if_false]
      rw [h0 (by simp [hD, hD']) s]; exact h
    · simp only [if_true]
      exact hc _ _ _ h

theorem lookB_none : ∀ {l : List (Nat × Option Blk)} {b : Nat}, (∀ x ∈ l, x.1 ≠ b) → lookB l b = none
  | [], _, _ => rfl
  | (c, x) :: l, b, h => by
    have : Nat.beq c b = false := Bool.eq_false_iff.2 fun hh => h (c, x) (by simp) (Nat.eq_of_beq_eq_true hh)
    rw [lookB, this]
    exact lookB_none fun y hy => h y (by simp [hy])
theorem writeCells_none : ∀ {l : List (Nat × Nat × C)} {b : Nat} (blk : Blk), (∀ x ∈ l, x.1 ≠ b) → writeCells b blk l = blk
  | [], _, _, _ => rfl
  | (c, o, x) :: l, b, blk, h => by
    have : Nat.beq c b = false := Bool.eq_false_iff.2 fun hh => h (c, o, x) (by simp) (Nat.eq_of_beq_eq_true hh)
    rw [writeCells, this]
    exact writeCells_none blk fun y hy => h y (by simp [hy])

def wAt (b i : Nat) : List (Nat × Nat × C) → Option C → Option C
  | [], x => x
  | (b', o, c) :: l, x => wAt b i l (if b' = b ∧ o = i then x.map (fun _ => c) else x)
theorem writeCells_at (b i : Nat) : ∀ (l : List (Nat × Nat × C)) (blk : Blk), (writeCells b blk l)[i]? = wAt b i l blk[i]?
  | [], _ => rfl
  | (b', o, c) :: l, blk => by
    rw [writeCells, writeCells_at b i l, wAt]
    congr 1
    by_cases hb : b' = b
    · subst hb
      have : Nat.beq b' b' = true := by simp
      rw [this]
      simp only [cond_true, true_and]
      rw [List.getElem?_set]
      by_cases ho : o = i
      · subst ho
        rw [if_pos rfl, if_pos rfl]
        by_cases hl : o < blk.length
        · rw [if_pos hl, List.getElem?_eq_getElem hl]; rfl
        · rw [if_neg hl, List.getElem?_eq_none (by omega)]; rfl
      · rw [if_neg ho, if_neg ho]
    · have : Nat.beq b' b = false := Bool.eq_false_iff.2 fun hh => hb (Nat.eq_of_beq_eq_true hh)
      rw [this, if_neg (by simp [hb])]; rfl
theorem wAt_none {b i : Nat} : ∀ {l : List (Nat × Nat × C)} {x : Option C}, (∀ y ∈ l, ¬ (y.1 = b ∧ y.2.1 = i)) → wAt b i l x = x
  | [], _, _ => rfl
  | (b', o, c) :: l, x, h => by
    rw [wAt, if_neg (h (b', o, c) (by simp)), wAt_none fun y hy => h y (by simp [hy])]

def cellAt (hg : HG) (b i : Nat) : Option (Option C) := (hg b).map (·[i]?)

theorem upd_len (hg : HG) (r : Rec) (b : Nat) : lens (upd hg r) b = (match lookB r.wb b with | some x => x.map List.length | none => lens hg b) := by
  unfold lens upd
  cases lookB r.wb b with
  | none => simp only [Option.getD_none, Option.map_map]; congr 1; funext blk; exact writeCells_len _ _ _
  | some x => simp only [Option.getD_some, Option.map_map]; congr 1; funext blk; exact writeCells_len _ _ _
theorem upd_cell (hg : HG) (r : Rec) (b i : Nat) : cellAt (upd hg r) b i = (match lookB r.wb b with | some x => x.map fun blk => wAt b i r.wc blk[i]? | none => (cellAt hg b i).map (wAt b i r.wc)) := by
  unfold cellAt upd
  cases lookB r.wb b with
  | none =>
    simp only [Option.getD_none]
    cases hg b with
    | none => rfl
    | some blk => simp [writeCells_at]
  | some x =>
    simp only [Option.getD_some]
    cases x with
    | none => rfl
    | some blk => simp [writeCells_at]

theorem upd_same {hg : HG} {r : Rec} {b : Nat} (h1 : ∀ x ∈ r.wb, x.1 ≠ b) (h2 : ∀ x ∈ r.wc, x.1 ≠ b) : upd hg r b = hg b := by
  unfold upd
  rw [lookB_none h1]
  simp only [Option.getD_none]
  cases hg b with
  | none => rfl
  | some blk => simp [writeCells_none blk h2]

theorem rangeC_cells {hg hg' : HG} {b o n : Nat} (h1 : lens hg' b = lens hg b) (h2 : ∀ i, o ≤ i → i < o + n → cellAt hg' b i = cellAt hg b i) : rangeC hg' b o n = rangeC hg b o n := by
  unfold lens at h1
  unfold cellAt at h2
  unfold rangeC
  cases hq : hg b with
  | none =>
    rw [hq] at h1
    cases hq' : hg' b with
    | none => rfl
    | some blk' => rw [hq'] at h1; cases h1
  | some blk =>
    rw [hq] at h1 h2
    cases hq' : hg' b with
    | none => rw [hq'] at h1; cases h1
    | some blk' =>
      rw [hq'] at h1 h2
      simp only [Option.map_some, Option.some.injEq] at h1 h2 ⊢
      rw [h1]
      congr 2
      apply List.ext_getElem?
      intro i
      rw [List.getElem?_take, List.getElem?_take]
      split
      · rename_i hi
        rw [List.getElem?_drop, List.getElem?_drop]
        exact h2 _ (by omega) (by omega)
      · rfl

/-- What it means that one writes nothing that the other hangs on. -/
structure Miss (r s : Rec) : Prop where
  c1 : ∀ x ∈ r.wc, x.1 ∉ s.rb
  c2 : ∀ x ∈ r.wc, ∀ y ∈ s.rc, ¬ (x.1 = y.1 ∧ y.2.1 ≤ x.2.1 ∧ x.2.1 < y.2.1 + y.2.2)
  c3 : ∀ x ∈ r.wc, ∀ y ∈ s.wb, y.1 ≠ x.1
  c4 : ∀ x ∈ r.wc, ∀ y ∈ s.wc, ¬ (y.1 = x.1 ∧ y.2.1 = x.2.1)
  b1 : ∀ x ∈ r.wb, x.1 ∉ s.rb
  b2 : ∀ x ∈ r.wb, ∀ y ∈ s.rc, x.1 ≠ y.1
  b3 : ∀ x ∈ r.wb, ∀ y ∈ s.wb, y.1 ≠ x.1
  b4 : ∀ x ∈ r.wb, x.1 ∉ s.wn
  b5 : ∀ x ∈ r.wb, ∀ y ∈ s.wc, y.1 ≠ x.1

theorem beq_ne {a b : Nat} (h : Nat.beq a b = false) : a ≠ b := fun e => by subst e; simp at h

theorem miss_of {r s : Rec} (h : hits r s = false) : Miss r s := by
  unfold hits at h
  simp only [Bool.or_eq_false_iff, List.any_eq_false, Bool.not_eq_true] at h
  obtain ⟨h1, h2⟩ := h
  refine ⟨?_, ?_, ?_, ?_, ?_, ?_, ?_, ?_, ?_⟩
  · intro x hx
    have := (h1 x hx).1.1.1
    simpa using this
  · intro x hx y hy hh
    have := (h1 x hx).1.1.2 y hy
    simp only [Bool.and_eq_false_iff] at this
    obtain ⟨e1, e2, e3⟩ := hh
    rcases this with (g | g) | g
    · exact beq_ne g e1
    · rw [Nat.ble_eq_true_of_le e2] at g; cases g
    · have : Nat.blt x.2.1 (y.2.1 + y.2.2) = true := Nat.ble_eq_true_of_le e3
      rw [this] at g; cases g
  · intro x hx y hy hh
    have := (h1 x hx).1.2 y hy
    exact beq_ne this hh.symm
  · intro x hx y hy hh
    have := (h1 x hx).2 y hy
    simp only [Bool.and_eq_false_iff] at this
    rcases this with g | g
    · exact beq_ne g hh.1.symm
    · exact beq_ne g hh.2.symm
  · intro x hx
    have := (h2 x hx).1.1.1.1
    simpa using this
  · intro x hx y hy hh
    exact beq_ne ((h2 x hx).1.1.1.2 y hy) hh
  · intro x hx y hy hh
    exact beq_ne ((h2 x hx).1.1.2 y hy) hh.symm
  · intro x hx
    have := (h2 x hx).1.2
    simpa using this
  · intro x hx y hy hh
    exact beq_ne ((h2 x hx).2 y hy) hh.symm

structure Apart (a b : Item) : Prop where
  d1 : ∀ d, a.o.dst = some d → d ∉ b.names ∧ b.o.dst ≠ some d
  d2 : ∀ d, b.o.dst = some d → d ∉ a.names
  m1 : Miss a.r b.r
  m2 : Miss b.r a.r
theorem apart_of {a b : Item} (h : apartI a b = true) : Apart a b := by
  unfold apartI at h
  simp only [Bool.and_eq_true, Bool.not_eq_true'] at h
  obtain ⟨⟨⟨h1, h2⟩, h3⟩, h4⟩ := h
  refine ⟨fun d hd => ?_, fun d hd => ?_, miss_of h3, miss_of h4⟩
  · rw [hd] at h1
    simp only [Bool.and_eq_true, Bool.not_eq_true', beq_eq_false_iff_ne] at h1
    exact ⟨by simpa using h1.1, h1.2⟩
  · rw [hd] at h2
    simpa using h2

/-! ### Two that are apart may change places -/
theorem set_write (b o : Nat) (c : C) : ∀ (l : List (Nat × Nat × C)) (blk : Blk), (∀ y ∈ l, ¬ (y.1 = b ∧ y.2.1 = o)) → writeCells b (blk.set o c) l = (writeCells b blk l).set o c
  | [], _, _ => rfl
  | (b', o', c') :: l, blk, h => by
    rw [writeCells, writeCells]
    cases hb : Nat.beq b' b
    · exact set_write b o c l blk fun y hy => h y (by simp [hy])
    · simp only [cond_true]
      have hbb := Nat.eq_of_beq_eq_true hb
      have hne : o' ≠ o := fun e => h (b', o', c') (by simp) ⟨hbb, e⟩
      rw [List.set_comm _ _ (Ne.symm hne)]
      exact set_write b o c l _ fun y hy => h y (by simp [hy])
theorem write_write (b : Nat) : ∀ (l m : List (Nat × Nat × C)) (blk : Blk), (∀ x ∈ l, ∀ y ∈ m, ¬ (y.1 = x.1 ∧ y.2.1 = x.2.1)) → writeCells b (writeCells b blk l) m = writeCells b (writeCells b blk m) l
  | [], _, _, _ => rfl
  | (b', o, c) :: l, m, blk, h => by
    rw [writeCells, write_write b l m _ fun x hx y hy => h x (by simp [hx]) y hy, writeCells]
    congr 1
    cases hb : Nat.beq b' b
    · rfl
    · simp only [cond_true]
      have hbb := Nat.eq_of_beq_eq_true hb
      exact set_write b o c m blk fun y hy hh => h (b', o, c) (by simp) y hy ⟨by rw [hh.1, hbb], hh.2⟩

theorem upd_comm {r s : Rec} (h1 : Miss r s) (h2 : Miss s r) (hg : HG) : upd (upd hg r) s = upd (upd hg s) r := by
  funext b
  by_cases hr : ∃ x ∈ r.wb, x.1 = b
  · obtain ⟨x, hx, rfl⟩ := hr
    have e1 : ∀ hg', upd hg' s x.1 = hg' x.1 := fun hg' => upd_same (fun y hy e => h1.b3 x hx y hy e) (fun y hy e => h1.b5 x hx y hy e)
    have e2 : ∀ hg' hg'', hg' x.1 = hg'' x.1 → upd hg' r x.1 = upd hg'' r x.1 := fun hg' hg'' e => by unfold upd; rw [e]
    rw [e1, e2 _ _ (e1 hg)]
  · by_cases hs : ∃ x ∈ s.wb, x.1 = b
    · obtain ⟨x, hx, rfl⟩ := hs
      have e1 : ∀ hg', upd hg' r x.1 = hg' x.1 := fun hg' => upd_same (fun y hy e => h2.b3 x hx y hy e) (fun y hy e => h2.b5 x hx y hy e)
      have e2 : ∀ hg' hg'', hg' x.1 = hg'' x.1 → upd hg' s x.1 = upd hg'' s x.1 := fun hg' hg'' e => by unfold upd; rw [e]
      rw [e1, e2 _ _ (e1 hg)]
    · have n1 : lookB r.wb b = none := lookB_none fun x hx e => hr ⟨x, hx, e⟩
      have n2 : lookB s.wb b = none := lookB_none fun x hx e => hs ⟨x, hx, e⟩
      unfold upd
      simp only [n1, n2, Option.getD_none, Option.map_map]
      congr 1
      funext blk
      exact write_write b _ _ blk h1.c4

theorem app_comm {a b : Item} (h : Apart a b) (s : F) : (s.app a).app b = (s.app b).app a := by
  unfold F.app
  congr 1
  · funext t
    unfold putG
    simp only
    by_cases ha : a.o.dst = some t
    · have hb := (h.d1 t ha).2
      rw [if_neg hb, if_pos ha, if_pos ha]
    · by_cases hb : b.o.dst = some t
      · rw [if_pos hb, if_neg ha, if_pos hb]
      · rw [if_neg hb, if_neg ha, if_neg ha, if_neg hb]
  · exact upd_comm h.m1 h.m2 s.hp

theorem fold_app (D : Nat → Bool) (a : Item) : ∀ (l : List Item) (k : Nat) (s : F), (∀ j it, l[j]? = some it → D (k + j) = true → Apart a it) → foldF D k l (s.app a) = (foldF D k l s).app a
  | [], _, _, _ => rfl
  | it :: l, k, s, h => by
    unfold foldF
    have ih := fun s => fold_app D a l (k + 1) s fun j it' hj hd => h (j + 1) it' (by simpa using hj) (by rwa [show k + (j + 1) = k + 1 + j by omega])
    cases hD : D k
    · simp only [Bool.false_eq_true, if_false]; exact ih s
    · simp only [if_true]
      rw [app_comm (h 0 it rfl hD), ih]

def ins (D : Nat → Bool) (j : Nat) : Nat → Bool := fun i => D i || i == j
theorem fold_ins {D : Nat → Bool} {j : Nat} (hj : D j = false) {a : Item} : ∀ (l : List Item) (k : Nat) (s : F), k ≤ j → l[j - k]? = some a → (∀ i it, l[i]? = some it → j < k + i → D (k + i) = true → Apart a it) → foldF (ins D j) k l s = (foldF D k l s).app a
  | [], k, s, _, h, _ => by simp at h
  | it :: l, k, s, hk, h, hap => by
    unfold foldF
    by_cases e : k = j
    · subst e
      simp only [Nat.sub_self, List.getElem?_cons_zero, Option.some.injEq] at h
      subst h
      have e1 : ins D k k = true := by simp [ins]
      rw [if_pos e1, if_neg (by rw [hj]; simp)]
      have e2 : foldF (ins D k) (k + 1) l (s.app it) = foldF D (k + 1) l (s.app it) := by
        have gen : ∀ (l : List Item) (m : Nat) (s : F), k < m → foldF (ins D k) m l s = foldF D m l s := by
          intro l
          induction l with
          | nil => intros; rfl
          | cons x l ih =>
            intro m s hm
            unfold foldF
            have : ins D k m = D m := by unfold ins; have : (m == k) = false := by simp; omega
                                         rw [this, Bool.or_false]
            rw [this]
            exact ih _ _ (by omega)
        exact gen l (k + 1) _ (by omega)
      rw [e2]
      exact fold_app D it l (k + 1) s fun i it' hi hd => hap (i + 1) it' (by simpa using hi) (by omega) (by rwa [show k + (i + 1) = k + 1 + i by omega])
    · have e1 : ins D j k = D k := by
        unfold ins
        have : (k == j) = false := by simpa using e
        rw [this, Bool.or_false]
      rw [e1]
      exact fold_ins hj l (k + 1) _ (by omega) (by rw [show j - k = (j - (k + 1)) + 1 by omega] at h; simpa using h) fun i it' hi hlt hd => hap (i + 1) it' (by simpa using hi) (by omega) (by rwa [show k + (i + 1) = k + 1 + i by omega])
end Go.Proofs.Ytbepaoliboooaaa.Ex
