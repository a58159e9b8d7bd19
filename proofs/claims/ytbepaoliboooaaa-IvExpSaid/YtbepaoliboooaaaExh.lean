/-
  The runner's operations beside Go's: loads, stores, new blocks, appends, calls.
-/
import Derived.Test.YtbepaoliboooaaaExg
namespace Go.Proofs.Ytbepaoliboooaaa.Ex
open Go
variable {P : Program} {V : Val} {ρ : Rho}

/-- What a call is good for. -/
def CallOK (P : Program) (V : Val) (call : Callee) : Prop := ∀ f args hp nx v hp' nx', call f args hp nx = .ok (v, hp', nx') →
  (∃ fn, P.funcs[f]? = some fn ∧ fn.body.isSome = true ∧ (fn.name == "runtime.NumGoroutine") = false) ∧ nx ≤ nx' ∧
  ∀ (ρ : Rho) (vs : Array Value) (w : World), All2 (VR V ρ) args vs.toList → HR V ρ hp.get w → (∀ b, nx ≤ b → b < nx' → ρ b = none) →
    Calls P f vs w fun e w' => ∃ rv ρ', e = .returned rv ∧ Step V ρ hp.get nx w v hp'.get nx' ρ' w' rv

theorem run_newObj (o : Obj) (w : World) : (newObj o).run P w = .ok w.heap.size (w.alloc o) := rfl
theorem run_newRow' (e : TypeId) (cs : Array Value) (w : World) : (newRow e cs).run P w = .ok ⟨w.heap.size, 0, none⟩ (w.alloc (.cells cs e)) := by
  simp [newRow]

theorem put_same {nx : Nat} {q : Nat × Nat × Nat × Option Nat} : put ρ nx q nx = some q := by unfold put; rw [if_pos rfl]

theorem new_wp {o : Oper} {a : Act} {w : World} {K : Act → World → Prop} {Q : Exit → Act → World → Prop} {hg : HG} (hh : HR V ρ hg w) {nx : Nat} (hf : ρ nx = none) {cs : List C} {as : Option (Nat × Nat)} {vs : Array Value} {e : TypeId}
    (hv : All2 (CR V ρ) cs vs.toList) (hcap : ∀ l c, as = some (l, c) → l ≤ c)
    (hr : (execOp a.eval o).run P w = .ok (.value (match as with | none => .pointer (some ⟨w.heap.size, 0, none⟩) | some (l, c) => .slice (some ⟨w.heap.size, 0, none⟩) l c)) (w.alloc (.cells vs e)))
    (hk : ∀ ρ' w' rv, Step V ρ hg nx w (.c (match as with | none => .p nx 0 | some (l, c) => .sl nx 0 l (.n c))) (upd hg { v := .c (match as with | none => .p nx 0 | some (l, c) => .sl nx 0 l (.n c)), wb := [(nx, some cs)], nx := nx + 1 }) (nx + 1) ρ' w' rv → K (a.put o.dst rv) w') : o.wp P a w K Q := by
  refine wp_value hr (hk _ _ _ (Step.new_ hh hf (vs := vs) (fun i c hi => ?_) (by rw [hv.len]; simp) e ?_ []))
  · obtain ⟨u, h1, h2⟩ := hv.get hi
    exact ⟨u, by simpa using h1, h2⟩
  · cases as with
    | none => exact ⟨_, put_same, rfl⟩
    | some x =>
      obtain ⟨l, c⟩ := x
      exact ⟨_, c, put_same, rfl, hcap l c rfl, rfl⟩

theorem reachGo_seen {hg : HG} : ∀ (n : Nat) (todo seen r : List Nat), reachGo hg n todo seen = some r → (∀ x ∈ seen, x ∈ r) ∧ ∀ x ∈ todo, x ∈ r := by
  intro n
  induction n with
  | zero =>
    intro todo seen r h
    cases todo with
    | nil => simp only [reachGo, Option.some.injEq] at h; subst h; exact ⟨fun _ h => h, fun _ h => by cases h⟩
    | cons b l => simp [reachGo] at h
  | succ n ih =>
    intro todo seen r h
    cases todo with
    | nil => simp only [reachGo, Option.some.injEq] at h; subst h; exact ⟨fun _ h => h, fun _ h => by cases h⟩
    | cons b l =>
      unfold reachGo at h
      split at h
      · rename_i hb
        obtain ⟨h1, h2⟩ := ih _ _ _ h
        refine ⟨h1, fun x hx => ?_⟩
        rcases List.mem_cons.1 hx with rfl | hx
        · exact h1 _ hb
        · exact h2 _ hx
      · split at h
        · obtain ⟨h1, h2⟩ := ih _ _ _ h
          refine ⟨fun x hx => h1 _ (by simp [hx]), fun x hx => ?_⟩
          rcases List.mem_cons.1 hx with rfl | hx
          · exact h1 _ (by simp)
          · exact h2 _ hx
        · obtain ⟨h1, h2⟩ := ih _ _ _ h
          refine ⟨fun x hx => h1 _ (by simp [hx]), fun x hx => ?_⟩
          rcases List.mem_cons.1 hx with rfl | hx
          · exact h1 _ (by simp)
          · exact h2 _ (by simp [hx])
theorem reach_seeds {hg : HG} {l r : List Nat} (h : reach hg l = some r) : ∀ x ∈ l, x ∈ r := (reachGo_seen _ _ _ _ h).2

theorem T.get_set_ne {α : Type} : ∀ (f : Nat) (t : T α) (n m : Nat) (x : Option α), m ≠ n → (T.set f t n x).get m = t.get m := by
  intro f
  induction f with
  | zero => intro t n m x _; rfl
  | succ f ih =>
    intro t n m x h
    have hn : ∀ k, T.get (.nil : T α) k = none := fun k => rfl
    have key : ∀ (v : Option α) (l r : T α), (bif Nat.beq n 0 then T.node x l r else bif Nat.beq (n % 2) 1 then .node v (T.set f l (n / 2) x) r else .node v l (T.set f r (n / 2 - 1) x)).get m = (T.node v l r).get m := by
      intro v l r
      cases h0 : Nat.beq n 0
      · cases h1 : Nat.beq (n % 2) 1
        · simp only [cond_false, T.get]
          cases m0 : Nat.beq m 0
          · cases m1 : Nat.beq (m % 2) 1
            · simp only [cond_false]
              refine ih _ _ _ _ ?_
              have e0 : n ≠ 0 := fun e => by subst e; simp at h0
              have e1 : ¬ n % 2 = 1 := fun e => by rw [e] at h1; simp at h1
              have e2 : m ≠ 0 := fun e => by subst e; simp at m0
              have e3 : ¬ m % 2 = 1 := fun e => by rw [e] at m1; simp at m1
              omega
            · rfl
          · rfl
        · simp only [cond_false, cond_true, T.get]
          cases m0 : Nat.beq m 0
          · cases m1 : Nat.beq (m % 2) 1
            · rfl
            · simp only [cond_false, cond_true]
              refine ih _ _ _ _ ?_
              have e1 : n % 2 = 1 := Nat.eq_of_beq_eq_true h1
              have e3 : m % 2 = 1 := Nat.eq_of_beq_eq_true m1
              omega
          · rfl
      · simp only [cond_true, T.get]
        have e0 : n = 0 := Nat.eq_of_beq_eq_true h0
        have : Nat.beq m 0 = false := Bool.eq_false_iff.2 fun hh => h (by rw [e0]; exact Nat.eq_of_beq_eq_true hh)
        rw [this]; rfl
    cases t with
    | nil =>
      have := key none .nil .nil
      have e : (T.node (none : Option α) .nil .nil).get m = none := by
        simp only [T.get]
        cases Nat.beq m 0 <;> cases Nat.beq (m % 2) 1 <;> rfl
      rw [e] at this
      exact this
    | node v l r => exact key v l r
theorem T.get_set {α : Type} : ∀ (f : Nat) (t : T α) (n : Nat) (x : Option α), n + 1 < 2 ^ f → (T.set f t n x).get n = x := by
  intro f
  induction f with
  | zero => intro t n x h; simp at h
  | succ f ih =>
    intro t n x h
    rw [Nat.pow_succ] at h
    have key : ∀ (v : Option α) (l r : T α), (bif Nat.beq n 0 then T.node x l r else bif Nat.beq (n % 2) 1 then .node v (T.set f l (n / 2) x) r else .node v l (T.set f r (n / 2 - 1) x)).get n = x := by
      intro v l r
      cases h0 : Nat.beq n 0
      · have e0 : n ≠ 0 := fun e => by subst e; simp at h0
        cases h1 : Nat.beq (n % 2) 1
        · have e1 : ¬ n % 2 = 1 := fun e => by rw [e] at h1; simp at h1
          simp only [cond_false, T.get, h0, h1]
          exact ih _ _ _ (by omega)
        · have e1 : n % 2 = 1 := Nat.eq_of_beq_eq_true h1
          simp only [cond_false, cond_true, T.get, h0, h1]
          exact ih _ _ _ (by omega)
      · simp only [cond_true, T.get, h0]
    cases t with
    | nil => exact key none .nil .nil
    | node v l r => exact key v l r
theorem T.get_put_ne {α : Type} {t : T α} {n m : Nat} {x : Option α} (h : m ≠ n) : (t.put n x).get m = t.get m := T.get_set_ne _ _ _ _ _ h
theorem T.get_put {α : Type} {t : T α} {n : Nat} {x : Option α} (h : n < T.most) : (t.put n x).get n = x := T.get_set _ _ _ _ (by unfold T.most at h; omega)
theorem T.get_put_or {α : Type} {t : T α} {n : Nat} {x : Option α} : (t.put n x).get n = x ∨ (t.put n x).get n = t.get n := by
  unfold T.put
  have : ∀ (f : Nat) (t : T α) (n : Nat), (T.set f t n x).get n = x ∨ (T.set f t n x).get n = t.get n := by
    intro f
    induction f with
    | zero => intro t n; exact .inr rfl
    | succ f ih =>
      intro t n
      have key : ∀ (v : Option α) (l r : T α), (bif Nat.beq n 0 then T.node x l r else bif Nat.beq (n % 2) 1 then .node v (T.set f l (n / 2) x) r else .node v l (T.set f r (n / 2 - 1) x)).get n = x ∨ (bif Nat.beq n 0 then T.node x l r else bif Nat.beq (n % 2) 1 then .node v (T.set f l (n / 2) x) r else .node v l (T.set f r (n / 2 - 1) x)).get n = (T.node v l r).get n := by
        intro v l r
        cases h0 : Nat.beq n 0
        · cases h1 : Nat.beq (n % 2) 1
          · simp only [cond_false, T.get, h0, h1]; exact ih _ _
          · simp only [cond_false, cond_true, T.get, h0, h1]; exact ih _ _
        · simp only [cond_true, T.get, h0]; exact .inl trivial
      cases t with
      | nil =>
        have := key none .nil .nil
        have e : (T.node (none : Option α) .nil .nil).get n = none := by
          simp only [T.get]
          cases Nat.beq n 0 <;> cases Nat.beq (n % 2) 1 <;> rfl
        rw [e] at this
        exact this
      | node v l r => exact key v l r
  exact this 32 t n

theorem heapOf_sub {hg : HG} : ∀ {l : List Nat} {b : Nat} {blk : Blk}, (heapOf hg l).get b = some blk → b ∈ l ∧ hg b = some blk
  | [], b, blk, h => by simp [heapOf, T.get] at h
  | x :: l, b, blk, h => by
    rw [heapOf] at h
    by_cases hb : b = x
    · subst hb
      rcases T.get_put_or (t := heapOf hg l) (n := b) (x := hg b) with e | e
      · rw [e] at h; exact ⟨by simp, h⟩
      · rw [e] at h; exact ⟨by simp, (heapOf_sub h).2⟩
    · rw [T.get_put_ne hb] at h
      obtain ⟨h1, h2⟩ := heapOf_sub h
      exact ⟨by simp [h1], h2⟩

theorem HR.sub {hg hg' : HG} {w : World} (h : HR V ρ hg w) (hs : ∀ b blk, hg' b = some blk → hg b = some blk) : HR V ρ hg' w := by
  have hn : ∀ b, hg' b ≠ none → hg b ≠ none := fun b hb => by
    cases e : hg' b with
    | none => exact absurd e hb
    | some blk => rw [hs b blk e]; simp
  refine ⟨⟨fun b blk hb => h.at_ b blk (hs b blk hb), fun b b' q q' h1 h2 => h.inj b b' q q' (hn b h1) (hn b' h2)⟩, fun b q j h1 h2 => ?_⟩
  obtain ⟨e1, e2⟩ := h.ro b q j h1 h2
  exact ⟨e1, fun ⟨b', q', k1, k2⟩ => e2 ⟨b', q', hn b' k1, k2⟩⟩

theorem changes_look (old new : HG) : ∀ (l : List Nat) (b : Nat), (lookB (changes old new l) b).getD (old b) = if b ∈ l then new b else old b
  | [], b => by simp [changes, lookB]
  | x :: l, b => by
    unfold changes
    have ih := changes_look old new l b
    by_cases hx : old x = new x
    · rw [if_pos hx, ih]
      by_cases hb : b = x
      · subst hb; simp [hx]
      · simp [hb]
    · rw [if_neg hx]
      simp only [lookB]
      by_cases hb : b = x
      · subst hb; simp
      · have : Nat.beq x b = false := Bool.eq_false_iff.2 fun hh => hb (Nat.eq_of_beq_eq_true hh).symm
        rw [this]
        simp only [cond_false, ih, List.mem_cons, hb, false_or]

theorem newOnes_look (new : HG) (ids : List Nat) : ∀ (l : List Nat) (b : Nat), lookB (newOnes new ids l) b = if b ∈ ids then none else if b ∈ l then (new b).map some else none
  | [], b => by simp [newOnes, lookB]
  | x :: l, b => by
    unfold newOnes
    have ih := newOnes_look new ids l b
    by_cases hx : x ∈ ids
    · rw [if_pos hx, ih]
      by_cases hb : b = x
      · subst hb; simp [hx]
      · simp [hb]
    · rw [if_neg hx]
      cases hn : new x with
      | none =>
        simp only
        rw [ih]
        by_cases hb : b = x
        · subst hb; simp [hx, hn]
        · simp [hb]
      | some blk =>
        simp only [lookB]
        by_cases hb : b = x
        · subst hb; simp [hx, hn]
        · have : Nat.beq x b = false := Bool.eq_false_iff.2 fun hh => hb (Nat.eq_of_beq_eq_true hh).symm
          rw [this]
          simp only [cond_false, ih, List.mem_cons, hb, false_or]
theorem lookB_append : ∀ (l m : List (Nat × Option Blk)) (b : Nat), lookB (l ++ m) b = (match lookB l b with | some x => some x | none => lookB m b)
  | [], m, b => rfl
  | (c, x) :: l, m, b => by
    simp only [List.cons_append, lookB]
    cases Nat.beq c b
    · exact lookB_append l m b
    · rfl
theorem changes_none (old new : HG) : ∀ (l : List Nat) (b : Nat), b ∉ l → lookB (changes old new l) b = none
  | [], b, _ => rfl
  | x :: l, b, h => by
    unfold changes
    simp only [List.mem_cons, not_or] at h
    by_cases hx : old x = new x
    · rw [if_pos hx]; exact changes_none old new l b h.2
    · rw [if_neg hx]
      have : Nat.beq x b = false := Bool.eq_false_iff.2 fun hh => h.1 (Nat.eq_of_beq_eq_true hh).symm
      simp only [lookB, this, cond_false]
      exact changes_none old new l b h.2
theorem both_look (old new : HG) (ids ids' : List Nat) (b : Nat) : (lookB (changes old new ids ++ newOnes new ids ids') b).getD (old b) = if b ∈ ids ∨ (b ∈ ids' ∧ new b ≠ none) then new b else old b := by
  have h1 := changes_look old new ids b
  rw [lookB_append]
  by_cases hb : b ∈ ids
  · rw [if_pos (.inl hb)]
    rw [if_pos hb] at h1
    cases hc : lookB (changes old new ids) b with
    | none =>
      rw [hc] at h1
      simp only [newOnes_look, if_pos hb, Option.getD_none] at h1 ⊢
      exact h1
    | some x => rw [hc] at h1; exact h1
  · rw [changes_none _ _ _ _ hb]
    simp only [newOnes_look, if_neg hb]
    by_cases hi : b ∈ ids'
    · cases hn : new b with
      | none => simp [hb, hi]
      | some blk => simp [hi]
    · simp [hb, hi]

theorem writeCells_nil (b : Nat) (blk : Blk) : writeCells b blk [] = blk := rfl

/-- A call's step as one of the whole memory. -/
theorem Step.wide {hg G0 G' : HG} {nx nx' : Nat} {w w' : World} {v : SV} {rv : Value} {ρ' : Rho} (hh : HR V ρ hg w) {ids ids' rb : List Nat} (h0 : ∀ b blk, G0 b = some blk → b ∈ ids ∧ hg b = some blk)
    (h : Step V ρ G0 nx w v G' nx' ρ' w' rv) : Step V ρ hg nx w v (upd hg { v, wb := changes hg G' ids ++ newOnes G' ids ids', rb, nx := nx' }) nx' ρ' w' rv := by
  have hupd : ∀ b, upd hg { v, wb := changes hg G' ids ++ newOnes G' ids ids', rb, nx := nx' } b = if b ∈ ids ∨ (b ∈ ids' ∧ G' b ≠ none) then G' b else hg b := fun b => by
    unfold upd
    simp only [both_look]
    cases (if b ∈ ids ∨ (b ∈ ids' ∧ G' b ≠ none) then G' b else hg b) <;> rfl
  have hown0 : ∀ k, Owns ρ G0 k → ∃ b ∈ ids, ∃ q, hg b ≠ none ∧ ρ b = some q ∧ q.1 = k := fun k ⟨b, q, h1, h2, h3⟩ => by
    cases e : G0 b with
    | none => exact absurd e h1
    | some blk => exact ⟨b, (h0 b blk e).1, q, by rw [(h0 b blk e).2]; simp, h2, h3⟩
  have hownh : ∀ k, Owns ρ G0 k → Owns ρ hg k := fun k ho => by
    obtain ⟨b, -, q, h1, h2, h3⟩ := hown0 k ho
    exact ⟨b, q, h1, h2, h3⟩
  have hapart : ∀ b q, ¬ (b ∈ ids ∨ (b ∈ ids' ∧ G' b ≠ none)) → hg b ≠ none → ρ b = some q → ¬ Owns ρ G0 q.1 := fun b q hb hn hq ho => by
    obtain ⟨b0, m0, q0, h1, h2, h3⟩ := hown0 _ ho
    have := hh.inj b0 b q0 q h1 hn h2 hq h3
    exact hb (.inl (this ▸ m0))
  have hold : ∀ b q, hg b ≠ none → ρ' b = some q → ρ b = some q := fun b q hn hq => by
    cases e : hg b with
    | none => exact absurd e hn
    | some blk =>
      obtain ⟨q0, -, -, e1, -⟩ := hh.at_ b blk e
      have := h.ext _ _ e1
      rw [hq] at this
      simp only [Option.some.injEq] at this
      rw [e1, this]
  refine { h with hr := ⟨⟨?_, ?_⟩, ?_⟩, keep := fun k hk hn => h.keep k hk fun ho => hn (hownh k ho), own := ?_ }
  · intro b blk hb
    rw [hupd] at hb
    by_cases hm : b ∈ ids ∨ (b ∈ ids' ∧ G' b ≠ none)
    · rw [if_pos hm] at hb
      exact h.hr.at_ b blk hb
    · rw [if_neg hm] at hb
      obtain ⟨q, cs, e, e1, e2, e3, e4, e5⟩ := hh.at_ b blk hb
      have hn : hg b ≠ none := by rw [hb]; simp
      refine ⟨q, cs, e, h.ext _ _ e1, ?_, e3, e4, fun i c hc => ?_⟩
      · rw [h.keep q.1 (hh.lt ⟨b, q, hn, e1, rfl⟩) (hapart b q hm hn e1)]; exact e2
      · obtain ⟨u, u1, u2⟩ := e5 i c hc
        exact ⟨u, u1, u2.ext h.ext⟩
  · intro b1 b2 q1 q2 h1 h2 g1 g2 hq
    rw [hupd] at h1 h2
    by_cases m1 : b1 ∈ ids ∨ (b1 ∈ ids' ∧ G' b1 ≠ none) <;> by_cases m2 : b2 ∈ ids ∨ (b2 ∈ ids' ∧ G' b2 ≠ none)
    · rw [if_pos m1] at h1
      rw [if_pos m2] at h2
      exact h.hr.inj b1 b2 q1 q2 h1 h2 g1 g2 hq
    · exfalso
      rw [if_pos m1] at h1
      rw [if_neg m2] at h2
      have g2' := hold b2 q2 h2 g2
      rcases h.own q1.1 ⟨b1, q1, h1, g1, rfl⟩ with g | g
      · exact hapart b2 q2 m2 h2 g2' (hq ▸ g)
      · have := hh.lt ⟨b2, q2, h2, g2', rfl⟩
        omega
    · exfalso
      rw [if_neg m1] at h1
      rw [if_pos m2] at h2
      have g1' := hold b1 q1 h1 g1
      rcases h.own q2.1 ⟨b2, q2, h2, g2, rfl⟩ with g | g
      · exact hapart b1 q1 m1 h1 g1' (hq ▸ g)
      · have := hh.lt ⟨b1, q1, h1, g1', rfl⟩
        omega
    · rw [if_neg m1] at h1
      rw [if_neg m2] at h2
      exact hh.inj b1 b2 q1 q2 h1 h2 (hold b1 q1 h1 g1) (hold b2 q2 h2 g2) hq
  · intro b q j hb hj
    obtain ⟨e1, e2⟩ := h.hr.ro b q j hb hj
    refine ⟨e1, fun ⟨b', q', h1, h2, h3⟩ => ?_⟩
    rw [hupd] at h1
    by_cases m : b' ∈ ids ∨ (b' ∈ ids' ∧ G' b' ≠ none)
    · rw [if_pos m] at h1
      exact e2 ⟨b', q', h1, h2, h3⟩
    · rw [if_neg m] at h1
      have h2' := hold b' q' h1 h2
      rcases h.frz b q j hb hj with g | g
      · exact (hh.ro b q j g hj).2 ⟨b', q', h1, h2', h3⟩
      · have := hh.lt ⟨b', q', h1, h2', h3⟩
        omega
  · rintro k ⟨b, q, h1, h2, rfl⟩
    rw [hupd] at h1
    by_cases m : b ∈ ids ∨ (b ∈ ids' ∧ G' b ≠ none)
    · rw [if_pos m] at h1
      rcases h.own q.1 ⟨b, q, h1, h2, rfl⟩ with g | g
      · exact .inl (hownh _ g)
      · exact .inr g
    · rw [if_neg m] at h1
      exact .inl ⟨b, q, h1, hold b q h1 h2, rfl⟩
end Go.Proofs.Ytbepaoliboooaaa.Ex
