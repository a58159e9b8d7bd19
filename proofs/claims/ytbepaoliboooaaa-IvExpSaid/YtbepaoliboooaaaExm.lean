/-
  The runner beside Go's machine: what an operation hangs on; operations that are apart.
-/
import Derived.Test.YtbepaoliboooaaaExl
namespace Go.Proofs.Ytbepaoliboooaaa.Ex
open Go
variable {P : Program} {V : Val} {ρ : Rho}

/-! ### What an operation hangs on -/
theorem partsX_congr {get get' : Nat → Option SV} : ∀ (l : List (Nat × Operand)), (∀ x ∈ l, evalX get' x.2 = evalX get x.2) → partsX get' l = partsX get l
  | [], _ => rfl
  | (i, x) :: l, h => by
    unfold partsX
    rw [h (i, x) (by simp), partsX_congr l fun y hy => h y (by simp [hy])]
theorem allSome_congr {α β : Type} {f f' : α → Option β} : ∀ (l : List α), (∀ x ∈ l, f' x = f x) → allSome f' l = allSome f l
  | [], _ => rfl
  | x :: l, h => by
    unfold allSome
    rw [h x (by simp), allSome_congr l fun y hy => h y (by simp [hy])]

theorem planOf_congr {g : Gam} {get get' : Nat → Option SV} {op : Op} (h : ∀ x ∈ op.operands, evalX get' x = evalX get x) : planOf P g get' op = planOf P g get op := by
  cases op
  case move x => simp only [planOf, h x (by simp [Op.operands])]
  case assign x => simp only [planOf, h x (by simp [Op.operands])]
  case pick c x y =>
    have h1 := h c (by simp [Op.operands])
    have h2 := h x (by simp [Op.operands])
    have h3 := h y (by simp [Op.operands])
    have h4 : ∀ t : Bool, evalX get' (bif t then x else y) = evalX get (bif t then x else y) := fun t => by cases t <;> assumption
    simp only [planOf, h1, h4]
  case box t x => simp only [planOf, h x (by simp [Op.operands])]
  case build t ps =>
    have : partsX get' ps.toList = partsX get ps.toList := partsX_congr _ fun x hx => h x.2 (by simp only [Op.operands, List.mem_toArray]; exact List.mem_map_of_mem hx)
    simp only [planOf, this]
  case buildSlice t n ps =>
    have : partsX get' ps.toList = partsX get ps.toList := partsX_congr _ fun x hx => h x.2 (by simp only [Op.operands, List.mem_toArray]; exact List.mem_map_of_mem hx)
    simp only [planOf, this]
  case load t x => simp only [planOf, h x (by simp [Op.operands])]
  case store t x y => simp only [planOf, h x (by simp [Op.operands]), h y (by simp [Op.operands])]
  case nilCheck x => simp only [planOf, h x (by simp [Op.operands])]
  case binOp op t x y u => simp only [planOf, h x (by simp [Op.operands]), h y (by simp [Op.operands])]
  case unOp op t x => simp only [planOf, h x (by simp [Op.operands])]
  case convert s d x => simp only [planOf, h x (by simp [Op.operands])]
  case makeFunc fn first caps =>
    have : allSome (evalX get') caps.toList = allSome (evalX get) caps.toList := allSome_congr _ fun x hx => h x (by simp only [Op.operands, Array.mem_append]; right; simpa using hx)
    have h1 : ∀ x ∈ first.toList, evalX get' x = evalX get x := fun x hx => h x (by simp only [Op.operands, Array.mem_append]; left; simpa using hx)
    cases fn <;> simp only [planOf, this]
    rcases hl : first.toList with _ | ⟨x, _ | ⟨y, l⟩⟩
    · rfl
    · have h2 := h1 x (by rw [hl]; simp)
      cases caps.isEmpty
      · rfl
      · simp only [h2]
    · rfl
  case makeSlice t x y => simp only [planOf, h x (by simp [Op.operands]), h y (by simp [Op.operands])]
  case slice t x lo hi mx =>
    have h1 := h x (by simp [Op.operands])
    have h2 : ∀ y, lo = some y → evalX get' y = evalX get y := fun y hy => h y (by subst hy; simp [Op.operands])
    have h3 : ∀ y, hi = some y → evalX get' y = evalX get y := fun y hy => h y (by subst hy; simp [Op.operands])
    have h4 : ∀ y, mx = some y → evalX get' y = evalX get y := fun y hy => h y (by subst hy; simp [Op.operands])
    cases lo <;> cases hi <;> cases mx <;> simp at h2 h3 h4 <;> simp only [planOf, h1] <;> simp_all
  case fieldAddr s x f => simp only [planOf, h x (by simp [Op.operands])]
  case field t x f => simp only [planOf, h x (by simp [Op.operands])]
  case indexAddr t x i => simp only [planOf, h x (by simp [Op.operands]), h i (by simp [Op.operands])]
  case index t x i => simp only [planOf, h x (by simp [Op.operands]), h i (by simp [Op.operands])]
  case extract t i => simp only [planOf, h t (by simp [Op.operands])]
  case call c =>
    have ha : ∀ x ∈ c.args.toList, evalX get' x = evalX get x := fun x hx => h x (by simp only [Op.operands, Call.operands, Array.mem_append]; right; simpa using hx)
    have h1 : allSome (evalX get') c.args.toList = allSome (evalX get) c.args.toList := allSome_congr _ ha
    have h2 : c.args.toList.map (evalX get') = c.args.toList.map (evalX get) := List.map_congr_left ha
    have h3 : ∀ f, c.callee = .value f → evalX get' f = evalX get f := fun f hf => h f (by simp only [Op.operands, Call.operands, hf]; simp)
    simp only [planOf, h1, h2]
    split
    · rename_i f hf; rw [h3 f hf]
    · rfl
    · rfl
  all_goals rfl

theorem evalX_congr {get get' : Nat → Option SV} {ops : Array Oper} {o : Oper} (h : ∀ t ∈ namesOf ops o, get' t = get t) : ∀ x ∈ o.op.operands, evalX get' x = evalX get x := fun x hx => by
  cases x with
  | tmp t =>
    refine h t ?_
    unfold namesOf
    rw [List.mem_append]
    left
    rw [List.mem_filterMap]
    exact ⟨.tmp t, by simpa using hx, rfl⟩
  | _ => rfl
theorem wantedX_congr {g : Gam} {get get' : Nat → Option SV} {ops : Array Oper} {o : Oper} (h : ∀ t ∈ namesOf ops o, get' t = get t) : wantedX g ops get' o = wantedX g ops get o := by
  unfold wantedX
  cases hg : o.guard with
  | none => rfl
  | some jw =>
    obtain ⟨j, want⟩ := jw
    have : (slotOf ops j).bind get' = (slotOf ops j).bind get := by
      cases hs : slotOf ops j with
      | none => rfl
      | some d => exact h d (by unfold namesOf; rw [List.mem_append]; right; rw [hg]; simp [hs])
    simp only [this]

theorem reachGo_congr {hg hg' : HG} : ∀ (n : Nat) (todo seen r : List Nat), reachGo hg n todo seen = some r → (∀ b ∈ r, hg' b = hg b) → reachGo hg' n todo seen = some r := by
  intro n
  induction n with
  | zero =>
    intro todo seen r h _
    cases todo with
    | nil => exact h
    | cons b l => simp [reachGo] at h
  | succ n ih =>
    intro todo seen r h hb
    cases todo with
    | nil => exact h
    | cons b l =>
      have hbr : b ∈ r := (reachGo_seen _ _ _ _ h).2 b (by simp)
      unfold reachGo at h ⊢
      by_cases hs : b ∈ seen
      · rw [if_pos hs] at h ⊢; exact ih _ _ _ h hb
      · rw [if_neg hs] at h ⊢
        rw [hb b hbr]
        cases hq : hg b with
        | none => rw [hq] at h; exact ih _ _ _ h hb
        | some blk => rw [hq] at h; exact ih _ _ _ h hb
theorem heapOf_congr {hg hg' : HG} : ∀ (l : List Nat), (∀ b ∈ l, hg' b = hg b) → heapOf hg' l = heapOf hg l
  | [], _ => rfl
  | b :: l, h => by rw [heapOf, heapOf, h b (by simp), heapOf_congr l fun x hx => h x (by simp [hx])]

def lens (hg : HG) (b : Nat) : Option Nat := (hg b).map List.length
theorem rangeC_len {hg hg' : HG} {b o n : Nat} (h : lens hg' b = lens hg b) {cs : List C} (hc : rangeC hg b o n = some cs) : ∃ cs', rangeC hg' b o n = some cs' := by
  obtain ⟨blk, h1, h2, -⟩ := rangeC_ok hc
  unfold lens at h
  rw [h1] at h
  cases hq : hg' b with
  | none => rw [hq] at h; cases h
  | some blk' =>
    rw [hq] at h
    simp only [Option.map_some, Option.some.injEq] at h
    unfold rangeC
    rw [hq]
    simp only
    rw [Nat.ble_eq_true_of_le (by omega : o + n ≤ blk'.length)]
    exact ⟨_, rfl⟩
theorem rangeC_eq {hg hg' : HG} {b o n : Nat} (h : hg' b = hg b) : rangeC hg' b o n = rangeC hg b o n := by unfold rangeC; rw [h]

theorem cellWrites_mem : ∀ {cs : List C} {b o : Nat}, cs ≠ [] → ∃ c, (b, o, c) ∈ cellWrites b o cs
  | [], _, _, h => absurd rfl h
  | c :: cs, b, o, _ => ⟨c, by simp [cellWrites]⟩
theorem rangeC_zero {hg : HG} {b o : Nat} {cs : List C} (h : rangeC hg b o 0 = some cs) : cs = [] := by
  obtain ⟨blk, -, -, rfl⟩ := rangeC_ok h
  simp

/-- The same of another memory that holds the same where it was read, and as many cells where it was written. -/
structure Like (r : Rec) (hg hg' : HG) : Prop where
  rb : ∀ b ∈ r.rb, hg' b = hg b
  rc : ∀ x ∈ r.rc, rangeC hg' x.1 x.2.1 x.2.2 = rangeC hg x.1 x.2.1 x.2.2
  wc : ∀ b ∈ r.wn, lens hg' b = lens hg b

theorem changes_congr {old old' : HG} (new : HG) : ∀ (l : List Nat), (∀ b ∈ l, old' b = old b) → changes old' new l = changes old new l
  | [], _ => rfl
  | b :: l, h => by unfold changes; rw [h b (by simp), changes_congr new l fun x hx => h x (by simp [hx])]
theorem app_src {call : Callee} {hg : HG} {nx : Nat} {e : TypeId} {dst : Option (Nat × Nat × Nat × Cap)} {size : Nat} {src : Option (Nat × Nat × Nat)} {r : Rec} (h : runPlan call hg nx (.app e dst size src) = .ok r) : ∀ b ∈ srcIds src, b ∈ r.rb := by
  unfold runPlan at h
  simp only at h
  split at h
  · cases h
  · rcases cond_or h with h | h
    · split at h
      · rcases cond_or h with h | h <;> simp only [Res.ok.injEq] at h <;> subst h <;> exact fun b hb => hb
      · rcases cond_or h with h | h <;> split at h <;> simp only [Res.ok.injEq, reduceCtorEq] at h <;> subst h <;> intro b hb <;> simp [hb]
      · rcases cond_or h with h | h
        · split at h <;> simp only [Res.ok.injEq, reduceCtorEq] at h
          subst h; intro b hb; simp [hb]
        · cases h
    · cases h
theorem rangeC_sub {hg hg' : HG} {b o L : Nat} {l : List C} (h : rangeC hg b o L = some l) (h' : rangeC hg' b o L = some l) {p c : Nat} (h1 : o ≤ p) (h2 : p + c ≤ o + L) : rangeC hg' b p c = rangeC hg b p c := by
  obtain ⟨blk, e1, e2, e3⟩ := rangeC_ok h
  obtain ⟨blk', f1, f2, f3⟩ := rangeC_ok h'
  unfold rangeC
  rw [e1, f1]
  have hs : (blk.drop p).take c = (blk'.drop p).take c := by
    have : ∀ x : Blk, (x.drop p).take c = ((((x.drop o).take L).drop (p - o)).take c) := fun x => by
      rw [List.drop_take, List.take_take, List.drop_drop, show o + (p - o) = p by omega, show min c (L - (p - o)) = c by omega]
    rw [this blk, this blk', ← e3, ← f3]
  have g1 : Nat.ble (p + c) blk.length = true := Nat.ble_eq_true_of_le (by omega)
  have g2 : Nat.ble (p + c) blk'.length = true := Nat.ble_eq_true_of_le (by omega)
  simp only [g1, g2, hs]
theorem selL_same {hg hg' : HG} {b s cnt : Nat} {e : E} : ∀ (n o j : Nat), (∀ d, d < n → rangeC hg' b (o + s * d) cnt = rangeC hg b (o + s * d) cnt) → selL hg' b s cnt e o j n = selL hg b s cnt e o j n
  | 0, _, _, _ => rfl
  | 1, o, j, h => by simpa [selL] using h 0 (by omega)
  | n + 2, o, j, h => by
    have h0 : rangeC hg' b o cnt = rangeC hg b o cnt := by simpa using h 0 (by omega)
    have hr := selL_same (hg := hg) (hg' := hg') (b := b) (s := s) (cnt := cnt) (e := e) (n + 1) (o + s) (j + 1) fun d hd => by
      have := h (d + 1) (by omega)
      rwa [show o + s * (d + 1) = o + s + s * d by rw [Nat.mul_succ]; omega] at this
    unfold selL
    simp only [h0, hr]
theorem runPlan_like {call : Callee} {hg hg' : HG} {nx : Nat} {p : Plan} {r : Rec} (h : runPlan call hg nx p = .ok r) (hl : Like r hg hg') : runPlan call hg' nx p = .ok r := by
  cases p with
  | val v => exact h
  | see c => exact h
  | load agg b o n =>
    unfold runPlan at h ⊢
    simp only at h ⊢
    split at h
    · rename_i cs hc
      have : r.rc = [(b, o, n)] := by
        cases agg
        · simp only [cond_false] at h
          split at h <;> simp only [Res.ok.injEq, reduceCtorEq] at h
          rw [← h]
        · simp only [cond_true, Res.ok.injEq] at h
          rw [← h]
      have he := hl.rc (b, o, n) (by rw [this]; simp)
      simp only at he
      rw [he, hc]
      exact h
    · cases h
  | loadx agg b o s n cnt e =>
    unfold runPlan at h ⊢
    simp only at h ⊢
    split at h
    · rename_i span hc
      split at h
      · rename_i cs hs
        have : r.rc = [(b, o, s * (n - 1) + cnt)] := by
          rcases cond_or h with h | h
          · simp only [Res.ok.injEq] at h
            rw [← h]
          · split at h <;> simp only [Res.ok.injEq, reduceCtorEq] at h
            rw [← h]
        have he := hl.rc (b, o, s * (n - 1) + cnt) (by rw [this]; simp)
        simp only at he
        have hc' : rangeC hg' b o (s * (n - 1) + cnt) = some span := by rw [he, hc]
        have hsel := selL_same (hg := hg) (hg' := hg') (b := b) (s := s) (cnt := cnt) (e := e) n o 0 fun d hd => rangeC_sub hc hc' (by omega) (by
          have : s * d ≤ s * (n - 1) := Nat.mul_le_mul_left s (by omega)
          omega)
        rw [hc']
        simp only
        rw [hsel, hs]
        exact h
      · cases h
    · cases h
  | store b o cs =>
    unfold runPlan at h ⊢
    simp only at h ⊢
    split at h
    · rename_i old hc
      simp only [Res.ok.injEq] at h
      obtain ⟨old', ho⟩ := rangeC_len (hl.wc b (by rw [← h]; simp)) hc
      rw [ho, ← h]
    · cases h
  | new cs as => exact h
  | call f args =>
    unfold runPlan at h ⊢
    simp only at h ⊢
    split at h
    · cases h
    · rename_i ids hids
      obtain ⟨⟨v, hp, nx'⟩, h1, h2⟩ := bind_ok h
      simp only at h2
      split at h2
      · cases h2
      · rename_i ids' hids'
        simp only [Res.ok.injEq] at h2
        have hb : ∀ b ∈ ids, hg' b = hg b := fun b hb => hl.rb b (by rw [← h2]; exact hb)
        have e1 : reach hg' (args.flatMap SV.ptrs) = some ids := reachGo_congr _ _ _ _ hids hb
        rw [e1]
        simp only
        rw [heapOf_congr ids hb, h1]
        simp only [Res.bind, hids']
        rw [← h2]
        rw [changes_congr hp.get ids hb]
  | app e dst size src =>
    have hsrc : srcCells hg' size src = srcCells hg size src := by
      have hsub := app_src h
      cases src with
      | none => rfl
      | some q => exact rangeC_eq (hl.rb q.1 (hsub q.1 (by simp [srcIds])))
    unfold runPlan at h ⊢
    simp only [hsrc] at h ⊢
    split at h
    · cases h
    · rename_i new hnew
      try rw [hnew]
      try simp only
      cases hc : Nat.ble (dstLen dst + srcLen src) 1000000 <;> rw [hc] at h
      · cases h
      · simp only [cond_true] at h ⊢
        cases dst with
        | none => exact h
        | some d =>
          obtain ⟨b, o, len, cap⟩ := d
          cases cap with
          | n k =>
            simp only at h ⊢
            cases hc2 : Nat.ble (len + srcLen src) k <;> rw [hc2] at h
            · simp only [cond_false] at h ⊢
              split at h
              · rename_i old ho
                simp only [Res.ok.injEq] at h
                rw [rangeC_eq (hl.rb b (by rw [← h]; simp)), ho, ← h]
              · cases h
            · simp only [cond_true] at h ⊢
              split at h
              · rename_i old ho
                simp only [Res.ok.injEq] at h
                obtain ⟨old', ho'⟩ := rangeC_len (hl.wc b (by rw [← h]; simp)) ho
                rw [ho', ← h]
              · cases h
          | u sz =>
            simp only at h ⊢
            cases hc2 : Nat.beq sz size <;> rw [hc2] at h
            · cases h
            · simp only [cond_true] at h ⊢
              split at h
              · rename_i old ho
                simp only [Res.ok.injEq] at h
                rw [rangeC_eq (hl.rb b (by rw [← h]; simp)), ho, ← h]
              · cases h
  | copy d size s =>
    obtain ⟨b, o, l⟩ := d
    obtain ⟨b2, o2, l2⟩ := s
    unfold runPlan at h ⊢
    simp only at h ⊢
    split at h
    · rename_i new old hn ho
      simp only [Res.ok.injEq] at h
      obtain ⟨old', ho'⟩ := rangeC_len (hl.wc b (by rw [← h]; simp)) ho
      rw [rangeC_eq (hl.rb b2 (by rw [← h]; simp)), hn, ho', ← h]
    · cases h
end Go.Proofs.Ytbepaoliboooaaa.Ex
