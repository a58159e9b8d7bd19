/-
  The runner beside Go's machine: a region in whatever order, whole.
  The runner beside Go's machine: regions, code, calls: all of it.
  The runner beside Go's machine: for laws.
  The runner beside Go's machine: what is known of math's functions, of numbers that are known.
-/
import Derived.Test.YtclhgnhbmlkomaaGh
namespace Go.Proofs.Ytclhgnhbmlkomaa.Ex
open Go
variable {P : Program} {V : Val} {ρ : Rho}

theorem maskOf_bit {ms : List Nat} {o : Oper} {i : Nat} (h : (maskOf ms o).testBit i = true) : ∃ e ∈ o.after.toList, Region.binds .any e = true ∧ (i = e.on ∨ (ms.getD e.on 0).testBit i = true) := by
  unfold maskOf at h
  have gen : ∀ (l : List Edge) (x : Nat), (l.foldl (fun s e => bif Region.binds .any e then s ||| 2 ^ e.on ||| ms.getD e.on 0 else s) x).testBit i = true → x.testBit i = true ∨ ∃ e ∈ l, Region.binds .any e = true ∧ (i = e.on ∨ (ms.getD e.on 0).testBit i = true) := by
    intro l
    induction l with
    | nil => intro x h; exact .inl h
    | cons e l ih =>
      intro x h
      rw [List.foldl_cons] at h
      rcases ih _ h with g | ⟨e', h1, h2⟩
      · cases hb : Region.binds .any e <;> rw [hb] at g
        · exact .inl g
        · simp only [cond_true, Nat.testBit_or, Bool.or_eq_true] at g
          rcases g with (g | g) | g
          · exact .inl g
          · rw [Nat.testBit_two_pow] at g
            exact .inr ⟨e, by simp, hb, .inl (by simpa using g : e.on = i).symm⟩
          · exact .inr ⟨e, by simp, hb, .inr g⟩
      · exact .inr ⟨e', by simp [h1], h2⟩
  rcases gen _ _ h with g | g
  · simp at g
  · exact g

theorem masks_spec : ∀ (l : List Oper) (ms : List Nat), (∃ t, masks l ms = ms ++ t ∧ t.length = l.length) ∧ ∀ j o, l[j]? = some o → (masks l ms)[ms.length + j]? = some (maskOf ((masks l ms).take (ms.length + j)) o)
  | [], ms => ⟨⟨[], by simp [masks], rfl⟩, fun j o h => by simp at h⟩
  | o :: l, ms => by
    obtain ⟨⟨t, h1, h2⟩, h3⟩ := masks_spec l (ms ++ [maskOf ms o])
    have e : masks (o :: l) ms = masks l (ms ++ [maskOf ms o]) := rfl
    refine ⟨⟨maskOf ms o :: t, by rw [e, h1]; simp, by simp [h2]⟩, fun j o' h => ?_⟩
    cases j with
    | zero =>
      simp only [List.getElem?_cons_zero, Option.some.injEq] at h
      subst h
      rw [e, h1]
      simp
    | succ j =>
      have := h3 j o' (by simpa using h)
      rw [e]
      simp only [List.length_append, List.length_cons, List.length_nil] at this
      rw [show ms.length + (j + 1) = ms.length + (0 + 1) + j by omega]
      exact this

theorem edgesAll_spec : ∀ (l : List Oper) (k : Nat), edgesAll k l = true → ∀ j o, l[j]? = some o → ∀ e ∈ o.after.toList, Region.binds .any e = true → e.on < k + j
  | [], _, _, j, o, h => by simp at h
  | x :: l, k, h, j, o, ho => by
    unfold edgesAll at h
    simp only [Bool.and_eq_true] at h
    cases j with
    | zero =>
      simp only [List.getElem?_cons_zero, Option.some.injEq] at ho
      subst ho
      intro e he hb
      have := h.1
      unfold edgesOk at this
      rw [List.all_eq_true] at this
      have := this e he
      rw [hb] at this
      simp only [Bool.not_true, Bool.false_or] at this
      exact Nat.le_of_ble_eq_true this
    | succ j =>
      intro e he hb
      have := edgesAll_spec l (k + 1) h.2 j o (by simpa using ho) e he hb
      omega

theorem mask_step {l : List Oper} (he : edgesAll 0 l = true) {k : Nat} {o : Oper} (ho : l[k]? = some o) {i : Nat} (h : ((masks l []).getD k 0).testBit i = true) :
    ∃ e ∈ o.after.toList, Region.binds .any e = true ∧ (i = e.on ∨ ((masks l []).getD e.on 0).testBit i = true) := by
  obtain ⟨-, h3⟩ := masks_spec l []
  have h4 := h3 k o ho
  simp only [List.length_nil, Nat.zero_add] at h4
  have : (masks l []).getD k 0 = maskOf ((masks l []).take k) o := by rw [List.getD_eq_getElem?_getD, h4]; rfl
  rw [this] at h
  obtain ⟨e, e1, e2, e3⟩ := maskOf_bit h
  refine ⟨e, e1, e2, ?_⟩
  rcases e3 with e3 | e3
  · exact .inl e3
  · right
    have hlt := edgesAll_spec l 0 he k o ho e e1 e2
    have : ((masks l []).take k).getD e.on 0 = (masks l []).getD e.on 0 := by
      rw [List.getD_eq_getElem?_getD, List.getD_eq_getElem?_getD, List.getElem?_take, if_pos (by omega)]
    rwa [this] at e3

theorem apartFrom_spec {b : Item} {m : Nat} : ∀ (l : List Item) (i : Nat), apartFrom b m i l = true → ∀ k a, l[k]? = some a → m.testBit (i + k) = true ∨ apartI a b = true
  | [], _, _, k, a, h => by simp at h
  | x :: l, i, h, k, a, ha => by
    unfold apartFrom at h
    simp only [Bool.and_eq_true, Bool.or_eq_true] at h
    cases k with
    | zero =>
      simp only [List.getElem?_cons_zero, Option.some.injEq] at ha
      subst ha
      exact h.1
    | succ k =>
      have := apartFrom_spec l (i + 1) h.2 k a (by simpa using ha)
      rwa [show i + (k + 1) = i + 1 + k by omega]
theorem apartAll_spec : ∀ (l : List Item) (ms : List Nat) (done : List Item), apartAll l ms done = true → ∀ j b, l[j]? = some b → ∀ i a, i < done.length + j → (done ++ l)[i]? = some a → (ms.getD j 0).testBit i = true ∨ apartI a b = true
  | [], _, _, _, j, b, h => by simp at h
  | x :: l, [], _, h, _, _, _ => by simp [apartAll] at h
  | x :: l, m :: ms, done, h, j, b, hb => by
    unfold apartAll at h
    simp only [Bool.and_eq_true] at h
    intro i a hi ha
    cases j with
    | zero =>
      simp only [List.getElem?_cons_zero, Option.some.injEq] at hb
      subst hb
      rw [List.getElem?_append_left (by omega)] at ha
      have := apartFrom_spec done 0 h.1 i a ha
      simpa using this
    | succ j =>
      have := apartAll_spec l ms (done ++ [x]) h.2 j b (by simpa using hb) i a (by simp; omega) (by simpa using ha)
      simpa using this

theorem items_spec {g : Gam} {call : Callee} {N : Nat} {ops : Array Oper} : ∀ (l : List Oper) {s s' : St} {is : List Item}, xitems P g call N ops l s = .ok (is, s') →
    ∃ S : Nat → St, S 0 = s ∧ S l.length = s' ∧ is.length = l.length ∧ ∀ k it, is[k]? = some it → l[k]? = some it.o ∧ it.names = namesOf ops it.o ∧ xop P g call N ops (S k).tm.get (S k).hp.get (S k).nx it.o = .ok it.r ∧ S (k + 1) = (S k).apply it.o.dst it.r
  | [], s, s', is, h => by
    simp only [xitems, Res.ok.injEq, Prod.mk.injEq] at h
    obtain ⟨rfl, rfl⟩ := h
    exact ⟨fun _ => s, rfl, rfl, rfl, fun k it h => by simp at h⟩
  | o :: l, s, s', is, h => by
    unfold xitems at h
    simp only [T.getF_eq, St.applyF_eq] at h
    split at h
    · rename_i r hr
      split at h
      · rename_i is' s'' h2
        simp only [Res.ok.injEq, Prod.mk.injEq] at h
        obtain ⟨rfl, rfl⟩ := h
        obtain ⟨S, h3, h4, h5, h6⟩ := items_spec l h2
        refine ⟨fun k => match k with | 0 => s | k + 1 => S k, rfl, h4, by simp [h5], fun k it hk => ?_⟩
        cases k with
        | zero =>
          simp only [List.getElem?_cons_zero, Option.some.injEq] at hk
          subst hk
          exact ⟨rfl, rfl, hr, h3⟩
        | succ k =>
          have := h6 k it (by simpa using hk)
          exact ⟨by simpa using this.1, this.2.1, this.2.2.1, this.2.2.2⟩
      · cases h
      · cases h
    · cases h
    · cases h

def St.f (s : St) : F := ⟨s.tm.get, s.hp.get⟩

theorem Step.widen {hg hg' : HG} {nx nx' a b : Nat} {w w' : World} {v : SV} {rv : Value} {ρ' : Rho} (h : Step V ρ hg nx w v hg' nx' ρ' w' rv) (h1 : a ≤ nx) (h2 : nx' ≤ b) : Step V ρ hg a w v hg' b ρ' w' rv :=
  { h with new := fun c q hc => (h.new c q hc).imp id fun ⟨g1, g2⟩ => ⟨by omega, by omega⟩, le := by have := h.le; omega }
theorem Step.trans2 {hg hg1 hg2 : HG} {nx nx' : Nat} {w w1 w2 : World} {v1 v2 : SV} {r1 r2 : Value} {ρ1 ρ2 : Rho}
    (a : Step V ρ hg nx w v1 hg1 nx' ρ1 w1 r1) (b : Step V ρ1 hg1 nx w1 v2 hg2 nx' ρ2 w2 r2) : Step V ρ hg nx w v2 hg2 nx' ρ2 w2 r2 where
  ext := a.ext.trans b.ext
  new := fun c q h => by
    rcases b.new c q h with g | g
    · exact a.new c q g
    · exact .inr g
  le := a.le
  val := b.val
  hr := b.hr
  os := b.os.trans a.os
  tape := b.tape.trans a.tape
  output := b.output.trans a.output
  size := Nat.le_trans a.size b.size
  keep := fun k hk hn => by
    rw [b.keep k (Nat.lt_of_lt_of_le hk a.size) fun ho => ?_, a.keep k hk hn]
    rcases a.own k ho with g | g
    · exact hn g
    · omega
  frz := fun c q j h1 h2 => by
    rcases b.frz c q j h1 h2 with g | g
    · exact a.frz c q j g h2
    · exact .inr (Nat.le_trans a.size g)
  own := fun k ho => by
    rcases b.own k ho with g | g
    · exact a.own k g
    · exact .inr (Nat.le_trans a.size g)

theorem firstC_congr {get get' : Nat → Option SV} : ∀ (l : List Operand), (∀ x ∈ l, evalX get' x = evalX get x) → firstC get' l = firstC get l
  | [], _ => rfl
  | x :: l, h => by
    unfold firstC
    rw [h x (by simp), firstC_congr l fun y hy => h y (by simp [hy])]
theorem condOf_congr {get get' : Nat → Option SV} {op : Op} (h : ∀ x ∈ op.operands, evalX get' x = evalX get x) : condOf get' op = condOf get op := by
  cases op <;> try rfl
  case load t x => simp only [condOf, h x (by simp [Op.operands])]
  case nilCheck x => simp only [condOf, h x (by simp [Op.operands])]
  case fieldAddr s x f => simp only [condOf, h x (by simp [Op.operands])]
  case indexAddr t x i => simp only [condOf, h x (by simp [Op.operands])]
  case slice t x lo hi mx => simp only [condOf, h x (by simp [Op.operands])]
  case binOp op t x y u =>
    simp only [condOf]
    exact firstC_congr _ fun z hz => by
      simp only [List.mem_cons, List.not_mem_nil, or_false] at hz
      rcases hz with rfl | rfl <;> exact h _ (by simp [Op.operands])
  case call c =>
    have ha : ∀ x ∈ c.args.toList, evalX get' x = evalX get x := fun x hx => h x (by simp only [Op.operands, Call.operands, Array.mem_append]; right; simpa using hx)
    simp only [condOf]
    rw [firstC_congr _ ha]
theorem loneC_congr {get get' : Nat → Option SV} {x : Operand} (h : evalX get' x = evalX get x) : loneC get' x = loneC get x := by
  cases x with
  | tmp t =>
    have h : get' t = get t := h
    simp only [loneC, h]
  | _ => rfl
theorem loneOf_congr {get get' : Nat → Option SV} {op : Op} (h : ∀ x ∈ op.operands, evalX get' x = evalX get x) : loneOf get' op = loneOf get op := by
  cases op <;> try rfl
  case load t x => exact loneC_congr (h x (by simp [Op.operands]))
  case nilCheck x => exact loneC_congr (h x (by simp [Op.operands]))
  case fieldAddr s x f => exact loneC_congr (h x (by simp [Op.operands]))
  case indexAddr t x i => exact loneC_congr (h x (by simp [Op.operands]))
  case slice t x lo hi mx => exact loneC_congr (h x (by simp [Op.operands]))
  case store t x y => exact loneC_congr (h x (by simp [Op.operands]))
theorem setG_congr {get get' : Nat → Option SV} {t : Nat} {c : CP} {x : Operand} (h : evalX get' x = evalX get x) : evalX (setG t c get') x = evalX (setG t c get) x := by
  cases x with
  | tmp n =>
    show (bif Nat.beq n t then some (SV.c c.toC) else get' n) = bif Nat.beq n t then some (SV.c c.toC) else get n
    rw [show get' n = get n from h]
  | _ => rfl
theorem plain1_like {g : Gam} {call : Callee} {hg hg' : HG} {nx : Nat} {op : Op} {get get' : Nat → Option SV} {r : Rec} (hx : ∀ x ∈ op.operands, evalX get' x = evalX get x) (h : plain1 P g call hg nx op get = .ok r) (hl : Like r hg hg') : plain1 P g call hg' nx op get' = .ok r := by
  unfold plain1 at h ⊢
  simp only [planF_eq, runF_eq] at h ⊢
  rw [planOf_congr hx]
  split at h
  · simp only [runPlan_like h hl]
  · cases h
  · cases h
theorem like_merge {e : E} {r1 r2 r : Rec} {hg hg' : HG} (h : mergeR none e r1 r2 = .ok r) (hl : Like r hg hg') : Like r1 hg hg' ∧ Like r2 hg hg' := by
  obtain ⟨-, -, -, v, wb, -, -, hr⟩ := mergeR_parts h
  rw [hr] at hl
  exact ⟨⟨fun b hb => hl.rb b (by simp [hb]), fun x hb => hl.rc x (by simp [hb]), fun b hb => hl.wc b (by simp [hb])⟩, ⟨fun b hb => hl.rb b (by simp [hb]), fun x hb => hl.rc x (by simp [hb]), fun b hb => hl.wc b (by simp [hb])⟩⟩
theorem rangeC_one {hg hg' : HG} {b i : Nat} {x : C} (h : rangeC hg' b i 1 = rangeC hg b i 1) (hx : ((hg b).bind fun blk => blk[i]?) = some x) : ((hg' b).bind fun blk => blk[i]?) = some x := by
  cases hb : hg b with
  | none => rw [hb] at hx; cases hx
  | some blk =>
    rw [hb, Option.bind_some] at hx
    have hi : i < blk.length := (List.getElem?_eq_some_iff.1 hx).1
    have hr : rangeC hg b i 1 = some [x] := by
      unfold rangeC
      rw [hb]
      simp only [Nat.ble_eq_true_of_le (show i + 1 ≤ blk.length by omega), cond_true, Option.some.injEq]
      rw [List.take_one, List.head?_drop, hx]; rfl
    rw [hr] at h
    obtain ⟨blk', e1, e2, e3⟩ := rangeC_ok h
    rw [e1, Option.bind_some]
    have : ((blk'.drop i).take 1)[0]? = some x := by rw [← e3]; rfl
    simpa using this
theorem mergeP_like {o : Option (E → Option Nat)} {e : E} {hg hg' : HG} {w1 w2 : List (Nat × Nat × C)} : ∀ {l r : List (Nat × Nat × C)}, mergeP o e hg w1 w2 l = some r → (∀ y ∈ r, rangeC hg' y.1 y.2.1 1 = rangeC hg y.1 y.2.1 1) → mergeP o e hg' w1 w2 l = some r
  | [], r, h, _ => h
  | (b, i, c0) :: l, r, h, hr => by
    unfold mergeP at h ⊢
    split at h
    · rename_i x hx
      split at h
      · rename_i c r' hc hl
        simp only [Option.some.injEq] at h
        subst h
        have e1 := rangeC_one (hr (b, i, c) (by simp)) hx
        have e2 := mergeP_like hl fun y hy => hr y (by simp [hy])
        simp only [e1, hc, e2]
      · cases h
    · cases h
theorem mergeN_like {o : Option (E → Option Nat)} {e : E} {r1 r2 r : Rec} {hg hg' : HG} (h : mergeN o hg e r1 r2 = .ok r) (hl : Like r hg hg') : (Like r1 hg hg' ∧ Like r2 hg hg') ∧ mergeN o hg' e r1 r2 = .ok r := by
  unfold mergeN at h ⊢
  split at h
  · rename_i r3 h3
    simp only [Res.ok.injEq] at h
    subst h
    exact ⟨like_merge h3 hl, by first | rfl | simp only [h3]⟩
  · split at h
    · rename_i r3 h3
      simp only [Res.ok.injEq] at h
      subst h
      obtain ⟨hnx, hb1, hb2, hv1, hv2, wc, hwc, hr⟩ := mergeS_parts h3
      rw [hr] at hl
      have l1 : Like r1 hg hg' := ⟨fun b hb => hl.rb b (by simp [hb]), fun x hb => hl.rc x (by simp [hb]), fun b hb => hl.wc b (by simp [hb])⟩
      have l2 : Like r2 hg hg' := ⟨fun b hb => hl.rb b (by simp [hb]), fun x hb => hl.rc x (by simp [hb]), fun b hb => hl.wc b (by simp [hb])⟩
      have hp := mergeP_like (hg' := hg') hwc fun y hy => hl.rc (y.1, y.2.1, 1) (by
        simp only [List.mem_append, List.mem_map]
        exact .inr ⟨y, hy, rfl⟩)
      refine ⟨⟨l1, l2⟩, ?_⟩
      have : mergeS o e hg' r1 r2 = some r3 := by
        unfold mergeS
        have hc : (Nat.beq r1.nx r2.nx && (r1.wb.isEmpty && r2.wb.isEmpty)) = true := by rw [hnx, hb1, hb2]; simp
        rw [hc, hv1, hv2]
        simp only [cond_true, hp]
        rw [hr]
      rw [this]
    · cases h
theorem xlin_like {o : Option (E → Option Nat)} {lt : List (E × Bool)} {run run' : CP → Res Rec} {hg hg' : HG} (hrun : ∀ x r, run x = .ok r → Like r hg hg' → run' x = .ok r) : ∀ {l : List (E × CP)} {d : CP} {r : Rec}, xlin o hg lt run l d = .ok r → Like r hg hg' → xlin o hg' lt run' l d = .ok r
  | [], d, r, h, hl => hrun d r h hl
  | (e, x) :: l, d, r, h, hl => by
    unfold xlin at h ⊢
    split at h
    · exact hrun x r h hl
    · exact xlin_like hrun h hl
    · split at h
      · rename_i r1 h1
        split at h
        · rename_i r2 h2
          obtain ⟨⟨l1, l2⟩, h'⟩ := mergeN_like h hl
          simp only [hrun x r1 h1 l1, xlin_like hrun h2 l2, h']
        · cases h
        · cases h
      · cases h
      · cases h
theorem pickG_congr {get get' : Nat → Option SV} {c : E} {t : Bool} {x : Operand} (h : evalX get' x = evalX get x) : evalX (pickG c t get') x = evalX (pickG c t get) x := by
  cases x with
  | tmp n =>
    show pickV c t (get' n) = pickV c t (get n)
    rw [show get' n = get n from h]
  | _ => rfl
theorem xrun_like {g : Gam} {call : Callee} {hg hg' : HG} {nx : Nat} {op : Op} : ∀ (f : Nat) {get get' : Nat → Option SV} {r : Rec}, (∀ x ∈ op.operands, evalX get' x = evalX get x) → xrun P g call hg nx op f get = .ok r → Like r hg hg' → xrun P g call hg' nx op f get' = .ok r := by
  intro f
  induction f with
  | zero => intro get get' r hx h hl; cases h
  | succ f ih =>
    intro get get' r hx h hl
    unfold xrun at h ⊢
    simp only [planF_eq, runF_eq] at h ⊢
    rw [planOf_congr hx, condOf_congr hx, loneOf_congr hx]
    have hp : ∀ (c : E) (t : Bool), ∀ x ∈ op.operands, evalX (pickG c t get') x = evalX (pickG c t get) x := fun c t x hm => pickG_congr (hx x hm)
    split at h
    · rename_i p hpl
      simp only [runPlan_like h hl]
    · cases h
    · split at h
      · rename_i q hq
        exact xlin_like (fun x r hr hl => plain1_like (fun y hy => setG_congr (hx y hy)) hr hl) h hl
      split at h
      · cases h
      · rename_i c hc
        split at h
        · rename_i t ht
          simp only [ih (hp c t) h hl]
        · cases h
        · split at h
          · rename_i r1 h1
            split at h
            · rename_i r2 h2
              have h : mergeR none c r1 r2 = .ok r := by
                split at h
                · rename_i r3 h3
                  simp only [Res.ok.injEq] at h
                  rw [← h]; exact h3
                · cases h
              obtain ⟨-, -, -, v, wb, -, -, hr⟩ := mergeR_parts h
              rw [hr] at hl
              have l1 : Like r1 hg hg' := ⟨fun b hb => hl.rb b (by simp [hb]), fun x hb => hl.rc x (by simp [hb]), fun b hb => hl.wc b (by simp [hb])⟩
              have l2 : Like r2 hg hg' := ⟨fun b hb => hl.rb b (by simp [hb]), fun x hb => hl.rc x (by simp [hb]), fun b hb => hl.wc b (by simp [hb])⟩
              simp only [ih (hp c true) h1 l1, ih (hp c false) h2 l2, h]
            · cases h
            · cases h
          · cases h
          · cases h

/-- All that is known of a region that was run in the order of its text. -/
structure Ran (P : Program) (V : Val) (g : Gam) (call : Callee) (N : Nat) (ops : Array Oper) (s : St) (is : List Item) (S : Nat → St) : Prop where
  len : is.length = ops.size
  z : S 0 = s
  at_ : ∀ k it, is[k]? = some it → ops[k]? = some it.o ∧ it.names = namesOf ops it.o ∧ xop P g call N ops (S k).tm.get (S k).hp.get (S k).nx it.o = .ok it.r ∧ S (k + 1) = (S k).apply it.o.dst it.r
  edges : edgesAll 0 ops.toList = true
  apart : ∀ j b, is[j]? = some b → ∀ i a, i < j → is[i]? = some a → ((masks ops.toList []).getD j 0).testBit i = true ∨ Apart a b

variable {g : Gam} {call : Callee} {N : Nat} {ops : Array Oper} {s : St} {is : List Item} {S : Nat → St}

theorem Ran.rec_ (h : Ran P V g call N ops s is S) (hgm : GamOK V g) (hcall : CallOK P V call) {k : Nat} {it : Item} (hk : is[k]? = some it) : RecOK N it.o.dst (S k).nx it.r :=
  (xop_ok (V := V) (ρ := fun _ => none) (a := ⟨#[], []⟩) (w := default) (K := fun _ _ => True) (Q := fun _ _ _ => True) hgm hcall (h.at_ k it hk).2.2.1).1

theorem Ran.nx_succ (h : Ran P V g call N ops s is S) {k : Nat} {it : Item} (hk : is[k]? = some it) : (S (k + 1)).nx = it.r.nx := by
  rw [(h.at_ k it hk).2.2.2]; rfl
theorem Ran.nx_mono (h : Ran P V g call N ops s is S) (hgm : GamOK V g) (hcall : CallOK P V call) : ∀ (j i : Nat), i ≤ j → j ≤ is.length → (S i).nx ≤ (S j).nx := by
  intro j
  induction j with
  | zero => intro i hi _; have : i = 0 := by omega
            subst this; exact Nat.le_refl _
  | succ j ih =>
    intro i hi hj
    by_cases e : i = j + 1
    · subst e; exact Nat.le_refl _
    · have hlt : j < is.length := by omega
      have hk : is[j]? = some is[j] := List.getElem?_eq_getElem hlt
      have h1 := (h.rec_ hgm hcall hk).le
      rw [h.nx_succ hk]
      exact Nat.le_trans (ih i (by omega) (by omega)) h1

theorem foldF_none : ∀ (l : List Item) (k : Nat) (s : F) (D : Nat → Bool), (∀ i, i < l.length → D (k + i) = false) → foldF D k l s = s
  | [], _, _, _, _ => rfl
  | it :: l, k, s, D, h => by
    unfold foldF
    rw [show D k = false from h 0 (by simp)]
    simp only [Bool.false_eq_true, if_false]
    exact foldF_none l (k + 1) s D fun i hi => by have := h (i + 1) (by simpa using hi); rwa [show k + (i + 1) = k + 1 + i by omega] at this
theorem foldF_eq {D D' : Nat → Bool} : ∀ (l : List Item) (k : Nat) (s : F), (∀ i, i < l.length → D (k + i) = D' (k + i)) → foldF D k l s = foldF D' k l s
  | [], _, _, _ => rfl
  | it :: l, k, s, h => by
    unfold foldF
    have h0 := h 0 (by simp)
    simp only [Nat.add_zero] at h0
    rw [h0]
    exact foldF_eq l (k + 1) _ fun i hi => by have := h (i + 1) (by simpa using hi); rwa [show k + (i + 1) = k + 1 + i by omega] at this

theorem Ran.state (h : Ran P V g call N ops s is S) (hgm : GamOK V g) (hcall : CallOK P V call) (hN : N ≤ T.most) : ∀ k, k ≤ is.length → (S k).f = foldF (fun i => decide (i < k)) 0 is s.f := by
  intro k
  induction k with
  | zero =>
    intro _
    rw [h.z]
    exact (foldF_none is 0 s.f _ fun i _ => by simp).symm
  | succ k ih =>
    intro hk
    have hlt : k < is.length := by omega
    have hg : is[k]? = some is[k] := List.getElem?_eq_getElem hlt
    have e1 : foldF (fun i => decide (i < k + 1)) 0 is s.f = foldF (ins (fun i => decide (i < k)) k) 0 is s.f := foldF_eq is 0 _ fun i _ => by
      unfold ins
      simp only [Nat.zero_add]
      rw [Bool.eq_iff_iff]; simp; omega
    rw [e1, fold_ins (j := k) (a := is[k]) (by simp) is 0 s.f (by omega) (by rw [Nat.sub_zero]; exact hg) fun i it hi hlt' hd => by simp at hd; omega]
    rw [← ih (by omega), (h.at_ k _ hg).2.2.2]
    have hok := h.rec_ hgm hcall hg
    unfold St.f F.app
    rw [apply_hp hok, apply_tm hN hok]
    try rfl

/-- In whatever state that may come up each operation does what it did in the order of the text. -/
theorem Ran.again (h : Ran P V g call N ops s is S) (hgm : GamOK V g) (hcall : CallOK P V call) (hN : N ≤ T.most) {D : Nat → Bool} {j : Nat} {it : Item} (hj : is[j]? = some it) (hD : D j = false)
    (hclosed : ∀ k, D k = true → ∀ i, ((masks ops.toList []).getD k 0).testBit i = true → D i = true) (hpre : ∀ i, ((masks ops.toList []).getD j 0).testBit i = true → D i = true) :
    xop P g call N ops (foldF D 0 is s.f).tm (foldF D 0 is s.f).hp (S j).nx it.o = .ok it.r := by
  obtain ⟨h1, h2, h3, h4⟩ := h.at_ j it hj
  have hjl : j < is.length := by
    rcases Nat.lt_or_ge j is.length with q | q
    · exact q
    · rw [List.getElem?_eq_none q] at hj; cases hj
  have hst := h.state hgm hcall hN j (by omega)
  -- whoever is in one of the two and not in the other is apart
  have key : ∀ i a, is[i]? = some a → D (0 + i) ≠ decide (0 + i < j) → Apart a it := fun i a hi hne => by
    rw [Nat.zero_add] at hne
    rcases Nat.lt_trichotomy i j with c | c | c
    · rcases h.apart j it hj i a c hi with q | q
      · exact absurd (by rw [hpre i q]; simp [c]) hne
      · exact q
    · subst c
      rw [hD] at hne; simp at hne
    · rcases h.apart i a hi j it c hj with q | q
      · have : D i = true := by
          cases hd : D i
          · rw [hd] at hne; simp at hne; omega
          · rfl
        have := hclosed i this j q
        rw [hD] at this; cases this
      · exact ⟨fun d hd => ⟨q.d2 d hd, fun e => (q.d1 d e).2 hd⟩, fun d hd => (q.d1 d hd).1, q.m2, q.m1⟩
  have htm : ∀ t ∈ namesOf ops it.o, (foldF D 0 is s.f).tm t = (S j).tm.get t := fun t ht => by
    have e : (S j).tm.get t = (foldF (fun i => decide (i < j)) 0 is s.f).tm t := by rw [← hst]; rfl
    rw [e]
    refine fold_obs (fun s => s.tm t) (fun s s' i e => by unfold F.app putG; simp only; split <;> first | rfl | exact e) _ _ is 0 s.f s.f rfl fun i a hi hne s => ?_
    have hap := key i a hi hne
    unfold F.app putG
    simp only
    rw [if_neg]
    intro e
    exact (hap.d1 t e).1 (by rw [h2]; exact ht)
  have hblk : ∀ b, (∀ i a, is[i]? = some a → D (0 + i) ≠ decide (0 + i < j) → (∀ x ∈ a.r.wb, x.1 ≠ b) ∧ ∀ x ∈ a.r.wc, x.1 ≠ b) → (foldF D 0 is s.f).hp b = (S j).hp.get b := fun b hb => by
    have e : (S j).hp.get b = (foldF (fun i => decide (i < j)) 0 is s.f).hp b := by rw [← hst]; rfl
    rw [e]
    refine fold_obs (fun s => s.hp b) (fun s s' i e => by unfold F.app upd; simp only at e ⊢; rw [e]) _ _ is 0 s.f s.f rfl fun i a hi hne s => ?_
    exact upd_same (hb i a hi hne).1 (hb i a hi hne).2
  have hlen : ∀ b, (∀ i a, is[i]? = some a → D (0 + i) ≠ decide (0 + i < j) → ∀ x ∈ a.r.wb, x.1 ≠ b) → lens (foldF D 0 is s.f).hp b = lens (S j).hp.get b := fun b hb => by
    have e : lens (S j).hp.get b = lens (foldF (fun i => decide (i < j)) 0 is s.f).hp b := by rw [← hst]; rfl
    rw [e]
    refine fold_obs (fun s => lens s.hp b) (fun s s' i e => by unfold F.app; simp only at e ⊢; rw [upd_len, upd_len, e]) _ _ is 0 s.f s.f rfl fun i a hi hne s => ?_
    unfold F.app
    simp only
    rw [upd_len, lookB_none (hb i a hi hne)]
  have hcell : ∀ b c, (∀ i a, is[i]? = some a → D (0 + i) ≠ decide (0 + i < j) → (∀ x ∈ a.r.wb, x.1 ≠ b) ∧ ∀ x ∈ a.r.wc, ¬ (x.1 = b ∧ x.2.1 = c)) → cellAt (foldF D 0 is s.f).hp b c = cellAt (S j).hp.get b c := fun b c hb => by
    have e : cellAt (S j).hp.get b c = cellAt (foldF (fun i => decide (i < j)) 0 is s.f).hp b c := by rw [← hst]; rfl
    rw [e]
    refine fold_obs (fun s => cellAt s.hp b c) (fun s s' i e => by unfold F.app; simp only at e ⊢; rw [upd_cell, upd_cell, e]) _ _ is 0 s.f s.f rfl fun i a hi hne s => ?_
    unfold F.app
    simp only
    rw [upd_cell, lookB_none (hb i a hi hne).1]
    simp only
    cases cellAt s.hp b c with
    | none => rfl
    | some x => simp [wAt_none (hb i a hi hne).2]
  have hlike : Like it.r (S j).hp.get (foldF D 0 is s.f).hp := by
    refine ⟨fun b hb => ?_, fun x hx => ?_, fun b hb => ?_⟩
    · exact hblk b fun i a hi hne => ⟨fun y hy e => (key i a hi hne).m1.b1 y hy (e ▸ hb), fun y hy e => (key i a hi hne).m1.c1 y hy (e ▸ hb)⟩
    · refine rangeC_cells (hlen x.1 fun i a hi hne y hy e => (key i a hi hne).m1.b2 y hy x hx e) fun c hc1 hc2 => hcell x.1 c fun i a hi hne => ⟨fun y hy e => (key i a hi hne).m1.b2 y hy x hx e, fun y hy e => (key i a hi hne).m1.c2 y hy x hx ⟨e.1, by omega, by omega⟩⟩
    · exact hlen b fun i a hi hne y hy e => (key i a hi hne).m1.b4 y hy (e ▸ hb)
  unfold xop at h3 ⊢
  cases hd : dstIn N it.o.dst <;> rw [hd] at h3
  · cases h3
  · simp only [cond_true] at h3 ⊢
    rw [wantedX_congr htm]
    split at h3
    · rename_i hw
      split at h3
      · rename_i r hr
        cases hs : small r <;> rw [hs] at h3
        · cases h3
        · simp only [cond_true, Res.ok.injEq] at h3
          rw [← h3] at hlike
          have hlike' : Like r (S j).hp.get (foldF D 0 is s.f).hp := by
            generalize g.nm = o at hlike
            generalize g.l = l at hlike
            cases o <;> cases l <;> first | exact hlike | exact ⟨hlike.1, hlike.2, hlike.3⟩
          simp only [xrun_like 100 (evalX_congr htm) hr hlike', hs, cond_true, h3]
      · cases h3
      · cases h3
    · exact h3
    · cases h3
    · cases h3
end Go.Proofs.Ytclhgnhbmlkomaa.Ex

namespace Go.Proofs.Ytclhgnhbmlkomaa.Ex
open Go
variable {P : Program} {V : Val}

def unl (listed : Array Bool) (n : Nat) : Nat := ((List.range n).filter fun i => !listed.getD i true).length

theorem filter_lt {α : Type} {p q : α → Bool} (h : ∀ x, q x = true → p x = true) : ∀ (l : List α) {a : α}, a ∈ l → p a = true → q a = false → (l.filter q).length < (l.filter p).length
  | [], _, ha, _, _ => by cases ha
  | x :: l, a, ha, hp, hq => by
    have hle : ∀ (l : List α), (l.filter q).length ≤ (l.filter p).length := by
      intro l
      induction l with
      | nil => simp
      | cons y l ih =>
        rw [List.filter_cons, List.filter_cons]
        cases hqy : q y
        · cases p y <;> simp <;> omega
        · simp [h y hqy]; exact ih
    rw [List.filter_cons, List.filter_cons]
    rcases List.mem_cons.1 ha with rfl | ha
    · rw [hp, hq]
      have := hle l
      simp; omega
    · have ih := filter_lt h l ha hp hq
      cases hqy : q x
      · cases p x <;> simp <;> omega
      · simp [h x hqy]; exact ih

theorem unl_set {listed : Array Bool} {n i : Nat} (hi : listed.getD i true = false) (hn : i < n) : unl (listed.setIfInBounds i true) n < unl listed n := by
  unfold unl
  have hlt : i < listed.size := by
    rcases Nat.lt_or_ge i listed.size with q | q
    · exact q
    · rw [Array.getD_eq_getD_getElem?, Array.getElem?_eq_none q] at hi; cases hi
  have hget : ∀ j, (listed.setIfInBounds i true).getD j true = if i = j then true else listed.getD j true := fun j => by
    rw [Array.getD_eq_getD_getElem?, Array.getElem?_setIfInBounds]
    by_cases e : i = j
    · rw [if_pos e, if_pos hlt, if_pos e]; rfl
    · rw [if_neg e, if_neg e, Array.getD_eq_getD_getElem?]
  refine filter_lt (fun j hj => ?_) _ (List.mem_range.2 hn) (by rw [hi]; rfl) (by rw [hget, if_pos rfl]; rfl)
  rw [hget] at hj
  by_cases e : i = j
  · rw [if_pos e] at hj; cases hj
  · rw [if_neg e] at hj; exact hj

variable {g : Gam} {call : Callee} {N : Nat} {ops : Array Oper} {s : St} {is : List Item} {S : Nat → St}

/-- What holds while a region comes up in whatever order. -/
structure Inv (V : Val) (N : Nat) (ops : Array Oper) (s s' : St) (is : List Item) (S : Nat → St) (ρ0 : Rho) (w0 : World) (listed : Array Bool) (ρ : Rho) (a : Act) (w : World) : Prop where
  size : listed.size = ops.size
  closed : ∀ k, listed.getD k false = true → ∀ i, ((masks ops.toList []).getD k 0).testBit i = true → listed.getD i false = true
  sr : SR V ρ N (foldF (fun i => listed.getD i false) 0 is s.f).tm (foldF (fun i => listed.getD i false) 0 is s.f).hp a w
  st : StepW V ρ0 s.hp.get s.nx w0 (foldF (fun i => listed.getD i false) 0 is s.f).hp s'.nx ρ w
  ids : ∀ b q, ρ b = some q → ρ0 b = some q ∨ ∃ i it, is[i]? = some it ∧ listed.getD i false = true ∧ (S i).nx ≤ b ∧ b < it.r.nx

theorem getD_or {listed : Array Bool} {n i : Nat} (hs : listed.size = n) (hi : i < n) : listed.getD i true = listed.getD i false := by
  have : i < listed.size := by omega
  rw [Array.getD_eq_getD_getElem?, Array.getD_eq_getD_getElem?, Array.getElem?_eq_getElem this]; rfl

theorem any_ok (h : Ran P V g call N ops s is S) (hgm : GamOK V g) (hcall : CallOK P V call) (hN : N ≤ T.most) {s' : St} (hs' : S is.length = s') {ρ0 : Rho} {w0 : World} (hfresh : Fresh ρ0 s.nx s'.nx) {Q : Exit → Act → World → Prop}
    (hk : ∀ ρ' a' w', SR V ρ' N s'.tm.get s'.hp.get a' w' → StepW V ρ0 s.hp.get s.nx w0 s'.hp.get s'.nx ρ' w' → Q .normal a' w') :
    ∀ (fuel : Nat) (listed : Array Bool) (ρ : Rho) (a : Act) (w : World), Inv V N ops s s' is S ρ0 w0 listed ρ a w → unl listed ops.size ≤ fuel → wpAny P .any ops Q fuel listed a w := by
  have hopsl : ∀ (k : Nat) (o : Oper), ops[k]? = some o → ops.toList[k]? = some o := fun k o e => by simpa using e
  have hfin : ∀ (listed : Array Bool) (ρ : Rho) (a : Act) (w : World), Inv V N ops s s' is S ρ0 w0 listed ρ a w → Region.ready .any ops listed = [] → Q .normal a w := by
    intro listed ρ a w hi hr
    have hall : ∀ k, k < ops.size → listed.getD k false = true := by
      intro k
      induction k using Nat.strongRecOn with
      | _ k ih =>
        intro hk
        cases hd : listed.getD k false
        · exfalso
          have hmem : k ∈ Region.ready .any ops listed := mem_ready.2 ⟨by rw [getD_or hi.size hk]; exact hd, ops[k], by simp [hk], fun e he hb => by
            have := edgesAll_spec ops.toList 0 h.edges k ops[k] (hopsl k _ (by simp [hk])) e (by simpa using he) hb
            exact ih e.on (by omega) (by omega)⟩
          rw [hr] at hmem
          cases hmem
        · rfl
    have heq : foldF (fun i => listed.getD i false) 0 is s.f = s'.f := by
      rw [← hs', h.state hgm hcall hN is.length (Nat.le_refl _)]
      refine foldF_eq is 0 _ fun i hi' => ?_
      simp only [Nat.zero_add]
      rw [hall i (by have := h.len; omega)]
      simp [hi']
    have h1 := hi.sr
    have h2 := hi.st
    rw [heq] at h1 h2
    exact hk ρ a w h1 h2
  intro fuel
  induction fuel with
  | zero =>
    intro listed ρ a w hi hu
    have hr : Region.ready .any ops listed = [] := by
      cases hr : Region.ready .any ops listed with
      | nil => rfl
      | cons i l =>
        exfalso
        have hm : i ∈ Region.ready .any ops listed := by rw [hr]; simp
        obtain ⟨h1, o, h2, -⟩ := mem_ready.1 hm
        have hlt : i < ops.size := by
          rcases Nat.lt_or_ge i ops.size with q | q
          · exact q
          · rw [Array.getElem?_eq_none q] at h2; cases h2
        have := unl_set h1 hlt
        omega
    exact ⟨hr, hfin listed ρ a w hi hr⟩
  | succ fuel ih =>
    intro listed ρ a w hi hu
    refine ⟨hfin listed ρ a w hi, fun i hm => ?_⟩
    obtain ⟨h1, o, h2, h3⟩ := mem_ready.1 hm
    have hlt : i < ops.size := by
      rcases Nat.lt_or_ge i ops.size with q | q
      · exact q
      · rw [Array.getElem?_eq_none q] at h2; cases h2
    have hil : i < is.length := by have := h.len; omega
    have hit : is[i]? = some is[i] := List.getElem?_eq_getElem hil
    generalize hite : is[i] = it at hit
    obtain ⟨a1, a2, a3, a4⟩ := h.at_ i it hit
    have hoe : it.o = o := by rw [h2] at a1; simpa using a1.symm
    have hD : listed.getD i false = false := by rw [← getD_or hi.size hlt]; exact h1
    have hpre : ∀ k, ((masks ops.toList []).getD i 0).testBit k = true → listed.getD k false = true := fun k hk' => by
      obtain ⟨e, e1, e2, e3⟩ := mask_step h.edges (hopsl i o h2) hk'
      have hl := h3 e (by simpa using e1) e2
      rcases e3 with rfl | e3
      · exact hl
      · exact hi.closed e.on hl k e3
    have hag := h.again hgm hcall hN (D := fun i => listed.getD i false) hit hD hi.closed hpre
    have hok := h.rec_ hgm hcall hit
    have hmono := h.nx_mono hgm hcall
    have hnx1 := h.nx_succ hit
    have hlo : s.nx ≤ (S i).nx := by rw [← h.z]; exact hmono i 0 (by omega) (by omega)
    have hhi : it.r.nx ≤ s'.nx := by rw [← hnx1, ← hs']; exact hmono is.length (i + 1) (by omega) (Nat.le_refl _)
    have hf : Fresh ρ (S i).nx it.r.nx := fun b hb1 hb2 => by
      cases hb : ρ b with
      | none => rfl
      | some q =>
        exfalso
        rcases hi.ids b q hb with c | ⟨j, jt, j1, j2, j3, j4⟩
        · rw [hfresh b (by omega) (by omega)] at c; cases c
        · have hjl : j < is.length := by
            rcases Nat.lt_or_ge j is.length with q | q
            · exact q
            · rw [List.getElem?_eq_none q] at j1; cases j1
          have hj1 := h.nx_succ j1
          rcases Nat.lt_trichotomy j i with c | c | c
          · have := hmono i (j + 1) (by omega) (by omega)
            omega
          · subst c; rw [hD] at j2; cases j2
          · have := hmono j (i + 1) (by omega) (by omega)
            omega
    unfold wpOp
    rw [h2]
    simp only
    have hx := (xop_ok (V := V) (ρ := ρ) (a := a) (w := w) (K := wpAny P .any ops Q fuel (listed.setIfInBounds i true)) (Q := Q) hgm hcall hag).2 hi.sr hf fun ρ' w' rv hst => ?_
    · rw [hoe] at hx
      split
      · rename_i hw
        rw [if_pos hw] at hx
        exact .inl hx
      · rename_i hw
        rw [if_neg hw] at hx
        exact hx
    · have hlsz : i < listed.size := by rw [hi.size]; exact hlt
      have hget : ∀ j, (listed.setIfInBounds i true).getD j false = (listed.getD j false || j == i) := fun j => by
        rw [Array.getD_eq_getD_getElem?, Array.getElem?_setIfInBounds]
        by_cases e : i = j
        · subst e; rw [if_pos rfl, if_pos hlsz]; simp
        · rw [if_neg e, Array.getD_eq_getD_getElem?]
          have : (j == i) = false := by simpa using fun e' => e e'.symm
          rw [this, Bool.or_false]
      have hfold : foldF (fun k => (listed.setIfInBounds i true).getD k false) 0 is s.f = (foldF (fun k => listed.getD k false) 0 is s.f).app it := by
        have e1 : foldF (fun k => (listed.setIfInBounds i true).getD k false) 0 is s.f = foldF (ins (fun k => listed.getD k false) i) 0 is s.f := foldF_eq is 0 _ fun k _ => by
          simp only [hget]; rfl
        rw [e1]
        refine fold_ins (j := i) (a := it) hD is 0 s.f (by omega) (by rw [Nat.sub_zero]; exact hit) fun k kt hk1 hk2 hk3 => ?_
        simp only [Nat.zero_add] at hk2 hk3
        rcases h.apart k kt hk1 i it hk2 hit with q | q
        · have := hi.closed k hk3 i q
          rw [hD] at this; cases this
        · exact q
      refine ih _ ρ' _ w' ⟨by simp [hi.size], ?_, ?_, ?_, ?_⟩ (by have := unl_set h1 hlt; omega)
      · intro k hk' j hj
        rw [hget] at hk' ⊢
        simp only [Bool.or_eq_true, beq_iff_eq] at hk' ⊢
        rcases hk' with c | c
        · exact .inl (hi.closed k c j hj)
        · subst c; exact .inl (hpre j hj)
      · rw [hfold]
        exact hi.sr.put hst.ext hst.hr hst.val hok.dst
      · rw [hfold]
        exact hi.st.trans2 (hst.toW.widen hlo hhi)
      · intro b q hb
        rcases hst.new b q hb with c | c
        · rcases hi.ids b q c with c | ⟨j, jt, j1, j2, j3, j4⟩
          · exact .inl c
          · exact .inr ⟨j, jt, j1, by rw [hget, j2]; rfl, j3, j4⟩
        · exact .inr ⟨i, it, hit, by rw [hget]; simp, c.1, c.2⟩

theorem Ran.of {s s' : St} {is : List Item} (h : xitems P g call N ops ops.toList s = .ok (is, s')) (h2 : (edgesAll 0 ops.toList && (namesAllR ops ops.toList (masks ops.toList []) 0 [] && loudAll is (masks ops.toList []) 0 [] [])) = true) : ∃ S, Ran P V g call N ops s is S ∧ S is.length = s' := by
  obtain ⟨S, e1, e2, e3, e4⟩ := items_spec ops.toList h
  simp only [Bool.and_eq_true] at h2
  refine ⟨S, ⟨by rw [e3]; simp, e1, fun k it hk => ?_, h2.1, fun j b hb i a hi ha => ?_⟩, by rw [e3]; exact e2⟩
  · obtain ⟨f1, f2⟩ := e4 k it hk
    exact ⟨by simpa using f1, f2⟩
  · exact (both_apart (fun k it hk => (e4 k it hk).imp_right fun g => g.1) h2.2.1 h2.2.2 hb hi ha).imp id apart_of

theorem xitems_le (hgm : GamOK V g) (hcall : CallOK P V call) : ∀ (l : List Oper) {s s' : St} {is : List Item}, xitems P g call N ops l s = .ok (is, s') → s.nx ≤ s'.nx := by
  intro l
  induction l with
  | nil => intro s s' is h; simp only [xitems, Res.ok.injEq, Prod.mk.injEq] at h; rw [← h.2]; exact Nat.le_refl _
  | cons o l ih =>
    intro s s' is h
    unfold xitems at h
    simp only [T.getF_eq, St.applyF_eq] at h
    split at h
    · rename_i r hr
      split at h
      · rename_i is' s'' h2
        simp only [Res.ok.injEq, Prod.mk.injEq] at h
        obtain ⟨-, rfl⟩ := h
        have h1 := (xop_ok (V := V) (ρ := fun _ => none) (a := ⟨#[], []⟩) (w := default) (K := fun _ _ => True) (Q := fun _ _ _ => True) hgm hcall hr).1.le
        exact Nat.le_trans h1 (ih h2)
      · cases h
      · cases h
    · cases h
    · cases h

theorem Step.fromDrew {hg hg' : HG} {nx nx' : Nat} {w w' : World} {v : SV} {rv : Value} {ρ ρ' : Rho} (h : Step V ρ hg nx { w with drawn := w.drawn + 1 } v hg' nx' ρ' w' rv) : Step V ρ hg nx w v hg' nx' ρ' w' rv :=
  ⟨h.ext, h.new, h.le, h.val, h.hr, h.os, h.tape, h.output, h.size, h.keep, h.frz, h.own⟩

theorem xdraw_ok (hm : P.follows .mixedOrders = true) (hgm : GamOK V g) (hcall : CallOK P V call) (hN : N ≤ T.most) {s s' : St} (h : xdraw P g call N ops s = .ok s') {ρ : Rho} {a : Act} {w : World} {Q : Exit → Act → World → Prop} {id : Nat}
    (hs : SR V ρ N s.tm.get s.hp.get a w) (hf : Fresh ρ s.nx s'.nx) (hk : ∀ ρ' a' w', SR V ρ' N s'.tm.get s'.hp.get a' w' → StepW V ρ s.hp.get s.nx w s'.hp.get s'.nx ρ' w' → Q .normal a' w') : (Code.region id ops true).wp P Q a w := by
  unfold xdraw at h
  split at h
  · rename_i is s'' hi
    cases hc : (edgesAll 0 ops.toList && (namesAllR ops ops.toList (masks ops.toList []) 0 [] && loudAll is (masks ops.toList []) 0 [] [])) <;> rw [hc] at h
    · cases h
    · simp only [cond_true, Res.ok.injEq] at h
      subst h
      obtain ⟨S, hran, hS⟩ := Ran.of (V := V) hi hc
      have hle := xitems_le (V := V) hgm hcall ops.toList hi
      refine wp_region_any hm ?_
      have hz : foldF (fun i => (Array.replicate ops.size false).getD i false) 0 is s.f = s.f := foldF_none is 0 _ _ fun i _ => by
        simp only [Nat.zero_add]
        rw [Array.getD_eq_getD_getElem?]
        cases hq : (Array.replicate ops.size false)[i]? with
        | none => rfl
        | some x => rw [Array.getElem?_replicate] at hq; split at hq <;> simp at hq; subst hq; rfl
      have hr0 : HR V ρ s.hp.get { w with drawn := w.drawn + 1 } := hs.hr.same fun _ _ => rfl
      refine any_ok hran hgm hcall hN hS (ρ0 := ρ) (w0 := { w with drawn := w.drawn + 1 }) hf (fun ρ' a' w' h1 h2 => hk ρ' a' w' h1 h2.fromDrew) ops.size _ ρ a _ ⟨by simp, ?_, ?_, ?_, fun b q hb => .inl hb⟩ ?_
      · intro k hk' i _
        rw [Array.getD_eq_getD_getElem?] at hk'
        cases hq : (Array.replicate ops.size false)[k]? with
        | none => rw [hq] at hk'; cases hk'
        | some x => rw [hq] at hk'; rw [Array.getElem?_replicate] at hq; split at hq <;> simp at hq; subst hq; cases hk'
      · rw [hz]
        exact ⟨hs.sz, hs.tm, hs.df, hr0⟩
      · rw [hz]
        exact (Step.refl hr0 undefR 0).widen (Nat.le_refl _) hle
      · unfold unl
        exact Nat.le_trans (List.length_filter_le _ _) (by simp)
  · cases h
  · cases h

/-! ### Code -/
def X.real : X → Exit
  | .normal => .normal
  | .exit id => .exit id
  | .ret => .ret

/-- A state that says less. -/
structure Weak (V : Val) (s s' : St) : Prop where
  nx : s.nx ≤ s'.nx
  tm : ∀ t v', s'.tm.get t = some v' → ∃ v, s.tm.get t = some v ∧ ∀ ρ rv, VR V ρ v rv → VR V ρ v' rv
  hp : ∀ b blk', s'.hp.get b = some blk' → ∃ blk, s.hp.get b = some blk ∧ blk'.length = blk.length ∧ ∀ (i : Nat) (c' : C), blk'[i]? = some c' → ∃ c, blk[i]? = some c ∧ ∀ ρ rv, CR V ρ c rv → CR V ρ c' rv

theorem Weak.live {s s' : St} (h : Weak V s s') {b : Nat} (hb : s'.hp.get b ≠ none) : s.hp.get b ≠ none := by
  cases e : s'.hp.get b with
  | none => exact absurd e hb
  | some blk => obtain ⟨x, hx, -⟩ := h.hp b blk e; rw [hx]; simp
theorem Weak.hr {s s' : St} (h : Weak V s s') {ρ : Rho} {w : World} (hr : HR V ρ s.hp.get w) : HR V ρ s'.hp.get w := by
  refine ⟨⟨fun b blk' hb => ?_, fun b b' q q' h1 h2 => hr.inj b b' q q' (h.live h1) (h.live h2)⟩, fun b q j h1 h2 => ?_⟩
  · obtain ⟨blk, k1, k2, k3⟩ := h.hp b blk' hb
    obtain ⟨q, cs, e, e1, e2, e3, e4, e5⟩ := hr.at_ b blk k1
    refine ⟨q, cs, e, e1, e2, e3, by omega, fun i c' hc => ?_⟩
    obtain ⟨c, c1, c2⟩ := k3 i c' hc
    obtain ⟨u, u1, u2⟩ := e5 i c c1
    exact ⟨u, u1, c2 _ _ u2⟩
  · obtain ⟨e1, e2⟩ := hr.ro b q j h1 h2
    exact ⟨e1, fun ⟨b', q', k1, k2⟩ => e2 ⟨b', q', h.live k1, k2⟩⟩
theorem Weak.sr {s s' : St} (h : Weak V s s') {ρ : Rho} {a : Act} {w : World} (hs : SR V ρ N s.tm.get s.hp.get a w) : SR V ρ N s'.tm.get s'.hp.get a w :=
  ⟨hs.sz, fun t v' ht => by obtain ⟨v, h1, h2⟩ := h.tm t v' ht; exact h2 _ _ (hs.tm t v h1), hs.df, h.hr hs.hr⟩
theorem Weak.step {s s' : St} (h : Weak V s s') {ρ ρ' : Rho} {hg : HG} {nx : Nat} {w w' : World} (hs : StepW V ρ hg nx w s.hp.get s.nx ρ' w') : StepW V ρ hg nx w s'.hp.get s'.nx ρ' w' :=
  { hs with new := fun b q hb => (hs.new b q hb).imp_right fun h' => ⟨h'.1, Nat.lt_of_lt_of_le h'.2 h.nx⟩, le := Nat.le_trans hs.le h.nx, hr := h.hr hs.hr, own := fun k ⟨b, q, h1, h2⟩ => hs.own k ⟨b, q, h.live h1, h2⟩ }

theorem mergeT_get {α : Type} {f : α → α → Option α} : ∀ (t t' : T α) (n : Nat), (mergeT f t t').get n = merge2 f (t.get n) (t'.get n) := by
  intro t
  induction t with
  | nil => intro t' n; simp only [mergeT, T.get]; cases t'.get n <;> rfl
  | node v l r ihl ihr =>
    intro t' n
    cases t' with
    | nil => simp only [mergeT, T.get]; generalize (bif Nat.beq n 0 then v else bif Nat.beq (n % 2) 1 then l.get (n / 2) else r.get (n / 2 - 1)) = x; cases x <;> rfl
    | node v' l' r' =>
      simp only [mergeT, T.get]
      cases Nat.beq n 0
      · cases Nat.beq (n % 2) 1
        · exact ihr _ _
        · exact ihl _ _
      · rfl
theorem merge2_some {α : Type} {f : α → α → Option α} {a b : Option α} {c : α} (h : merge2 f a b = some c) : ∃ x y, a = some x ∧ b = some y ∧ f x y = some c := by
  cases a <;> cases b <;> simp [merge2] at h
  exact ⟨_, _, rfl, rfl, h⟩

theorem merge_weak {o : Option (E → Option Nat)} (ho : NmOK V o) {e : E} {t : Bool} (he : evB V e = t) {s1 s2 : St} : Weak V (bif t then s1 else s2) (mergeSt o e s1 s2) where
  nx := by cases t; exact Nat.le_max_right _ _; exact Nat.le_max_left _ _
  tm := fun x v' h => by
    simp only [mergeSt, mergeT_get] at h
    obtain ⟨a, b, h1, h2, h3⟩ := merge2_some h
    have := mergeV_ok ho he h3
    cases t
    · exact ⟨b, h2, this⟩
    · exact ⟨a, h1, this⟩
  hp := fun x blk' h => by
    simp only [mergeSt, mergeT_get] at h
    obtain ⟨a, b, h1, h2, h3⟩ := merge2_some h
    obtain ⟨k1, k2, -⟩ := mergeL_ok ho he h3
    cases t
    · exact ⟨b, h2, k1, k2⟩
    · exact ⟨a, h1, k1, k2⟩

theorem gam_cons {e : E} {b : Bool} (hg : GamOK V g) (he : evB V e = b) : GamOK V (g.add e b) := ⟨lok_cons hg.l he, hg.D, hg.nm⟩
/-- Both ways at once: one of them was gone. -/
theorem xsplit_ok (hgm : GamOK V g) {lv : Bool} {n0 : Nat} {r : Res (X × St)} {again : Gam → Res (X × St)} {x : X} {s' : St} (h : xsplit lv n0 g r again = .ok (x, s')) :
    r = .ok (x, s') ∨ ∃ g' s1, GamOK V g' ∧ again g' = .ok (x, s1) ∧ Weak V s1 s' := by
  unfold xsplit at h
  split at h
  · rename_i e
    rcases cond_or h with h | h
    · cases h
    · split at h
      · cases h
      · split at h
        · rename_i x1 s1 h1
          split at h
          · rename_i x2 s2 h2
            split at h
            · rename_i hx
              rcases cond_or h with h | h
              · simp only [Res.ok.injEq, Prod.mk.injEq] at h
                obtain ⟨rfl, rfl⟩ := h
                right
                cases he : evB V (softE e)
                · exact ⟨g.add (softE e) false, s2, gam_cons hgm he, by rw [hx]; exact h2, merge_weak hgm.nm (t := false) he⟩
                · exact ⟨g.add (softE e) true, s1, gam_cons hgm he, h1, merge_weak hgm.nm (t := true) he⟩
              · cases h
            · cases h
          · cases h
          · cases h
        · cases h
        · cases h
  · exact .inl h

theorem xsplitC_ok (hgm : GamOK V g) {may : Bool} {n0 : Nat} {r : Res (X × St)} {again : Gam → Res (X × St)} {x : X} {s' : St} (h : xsplitC may n0 g r again = .ok (x, s')) :
    r = .ok (x, s') ∨ ∃ g' s1, GamOK V g' ∧ again g' = .ok (x, s1) ∧ Weak V s1 s' := by
  unfold xsplitC at h
  cases may
  · exact .inl h
  · exact xsplit_ok hgm h
theorem xcode_le {call : Gam → Callee} (hcall : ∀ g, GamOK V g → CallOK P V (call g)) : ∀ (n : Nat) {g : Gam} (_ : GamOK V g) (c : Code) {s s' : St} {x : X}, xcode P call N n g c s = .ok (x, s') → s.nx ≤ s'.nx := by
  intro n
  induction n with
  | zero => intro g hgm c s s' x h; cases h
  | succ n ih =>
    intro g hgm c s s' x h
    unfold xcode at h
    cases c <;> simp only at h
    case skip => simp only [Res.ok.injEq, Prod.mk.injEq] at h; rw [← h.2]; exact Nat.le_refl _
    case label => simp only [Res.ok.injEq, Prod.mk.injEq] at h; rw [← h.2]; exact Nat.le_refl _
    case ret => simp only [Res.ok.injEq, Prod.mk.injEq] at h; rw [← h.2]; exact Nat.le_refl _
    case exit => simp only [Res.ok.injEq, Prod.mk.injEq] at h; rw [← h.2]; exact Nat.le_refl _
    case region id ops draw =>
      rcases xsplit_ok hgm h with h | ⟨g', s1, hg', h1, hw⟩
      · split at h
        · rename_i s'' hr
          simp only [Res.ok.injEq, Prod.mk.injEq] at h
          rw [← h.2]
          cases draw
          · simp only [cond_false] at hr
            exact xops_le hgm (hcall g hgm) _ hr
          · simp only [cond_true] at hr
            unfold xdraw at hr
            split at hr
            · rename_i is s3 hi
              rcases cond_or hr with hr | hr
              · simp only [Res.ok.injEq] at hr
                subst hr
                exact xitems_le (V := V) hgm (hcall g hgm) _ hi
              · cases hr
            · cases hr
            · cases hr
        · cases h
        · cases h
      · have := ih hg' _ h1
        exact Nat.le_trans this hw.nx
    case seq a b =>
      split at h
      · rename_i s1 h1
        exact Nat.le_trans (ih hgm a h1) (ih hgm b h)
      · exact ih hgm a h
    case cond c a b =>
      rcases xsplitC_ok hgm h with h | ⟨g', s1, hg', h1, hw⟩
      · split at h
        · split at h
          · exact ih hgm a h
          · exact ih hgm b h
          · cases h
          · cases h
        · cases h
      · have := ih hg' _ h1
        exact Nat.le_trans this hw.nx
    case block id c =>
      rcases xsplit_ok hgm h with h | ⟨g', s1, hg', h1, hw⟩
      · split at h
        · rename_i j s1 h1
          have := ih hgm c h1
          rcases cond_or h with h | h <;> simp only [Res.ok.injEq, Prod.mk.injEq] at h <;> rw [← h.2] <;> exact this
        · exact ih hgm c h
      · have := ih hg' _ h1
        exact Nat.le_trans this hw.nx
    case loop c =>
      split at h
      · rename_i s1 h1
        exact Nat.le_trans (ih hgm c h1) (ih hgm _ h)
      · exact ih hgm c h
    all_goals cases h

/-- A loop, from its body's head on. -/
def LoopAt (P : Program) (c : Code) (Q : Exit → Act → World → Prop) (a : Act) (w : World) : Prop :=
  ∀ (b : Frame) (k : List Go.Item) (cs : List Frame), ∃ e a' w', Q e a' w' ∧ Arrives P (lone (b.at a (.code c :: .inLoop c :: k)) cs w) b k cs e a' w'
theorem loopAt_wp {c : Code} {Q : Exit → Act → World → Prop} {a : Act} {w : World} (h : LoopAt P c Q a w) : (Code.loop c).wp P Q a w := fun b k cs => by
  obtain ⟨e, a', w', hq, harr⟩ := h b k cs
  exact ⟨e, a', w', hq, .of_steps (.one step_loop) harr⟩
theorem loopAt_step {c : Code} {Q : Exit → Act → World → Prop} {a : Act} {w : World} (h : c.wp P (Exit.then (fun a' w' => LoopAt P c Q a' w') Q) a w) : LoopAt P c Q a w := by
  intro b k cs
  obtain ⟨e, a₁, w₁, hq, harr⟩ := h b (.inLoop c :: k) cs
  cases e with
  | normal =>
    obtain ⟨e₂, a₂, w₂, hq₂, harr₂⟩ := hq b k cs
    exact ⟨e₂, a₂, w₂, hq₂, .of_steps (Steps.trans harr (.one step_inLoop)) harr₂⟩
  | exit id => exact ⟨_, a₁, w₁, hq, .pass (x := .inLoop c) rfl (fun _ _ => .inl (by simp)) harr⟩
  | goto l => exact ⟨_, a₁, w₁, hq, .pass (x := .inLoop c) rfl (fun _ _ => .inl (by simp)) harr⟩
  | ret => exact ⟨_, a₁, w₁, hq, .pass (x := .inLoop c) rfl (fun _ _ => .inl (by simp)) harr⟩
  | panic ch => exact ⟨_, a₁, w₁, hq, .pass (x := .inLoop c) rfl (fun _ _ => .inl (by simp)) harr⟩
  | outgrown => exact ⟨_, a₁, w₁, hq, .pass (x := .inLoop c) rfl (fun _ _ => .inl (by simp)) harr⟩

/-- What the runner says of a piece of code holds of Go's machine. -/
def After (V : Val) (N : Nat) (ρ : Rho) (s s' : St) (w : World) (x : X) (Q : Exit → Act → World → Prop) : Prop :=
  ∀ ρ' a' w', SR V ρ' N s'.tm.get s'.hp.get a' w' → StepW V ρ s.hp.get s.nx w s'.hp.get s'.nx ρ' w' → Q x.real a' w'

theorem xcode_ok (hm : P.follows .mixedOrders = true) {call : Gam → Callee} (hcall : ∀ g, GamOK V g → CallOK P V (call g)) (hN : N ≤ T.most) : ∀ (n : Nat) {g : Gam} (_ : GamOK V g) (c : Code) {s s' : St} {x : X}, xcode P call N n g c s = .ok (x, s') →
    ∀ {ρ : Rho} {a : Act} {w : World} {Q : Exit → Act → World → Prop}, SR V ρ N s.tm.get s.hp.get a w → Fresh ρ s.nx s'.nx → After V N ρ s s' w x Q → c.wp P Q a w ∧ ∀ d, c = .loop d → LoopAt P d Q a w := by
  intro n
  induction n with
  | zero => intro g hgm c s s' x h; cases h
  | succ n ih =>
    intro g hgm c s s' x h ρ a w Q hs hf hk
    have hle := fun (c : Code) {s s' : St} {x : X} (h : xcode P call N n g c s = .ok (x, s')) => xcode_le (V := V) hcall n hgm c h
    unfold xcode at h
    cases c <;> simp only at h
    case skip =>
      simp only [Res.ok.injEq, Prod.mk.injEq] at h
      obtain ⟨rfl, rfl⟩ := h
      exact ⟨wp_skip (hk ρ a w hs (Step.refl hs.hr undefR 0)), fun d hd => by cases hd⟩
    case label =>
      simp only [Res.ok.injEq, Prod.mk.injEq] at h
      obtain ⟨rfl, rfl⟩ := h
      exact ⟨wp_label (hk ρ a w hs (Step.refl hs.hr undefR 0)), fun d hd => by cases hd⟩
    case ret =>
      simp only [Res.ok.injEq, Prod.mk.injEq] at h
      obtain ⟨rfl, rfl⟩ := h
      exact ⟨wp_ret (hk ρ a w hs (Step.refl hs.hr undefR 0)), fun d hd => by cases hd⟩
    case exit =>
      simp only [Res.ok.injEq, Prod.mk.injEq] at h
      obtain ⟨rfl, rfl⟩ := h
      exact ⟨wp_exit (hk ρ a w hs (Step.refl hs.hr undefR 0)), fun d hd => by cases hd⟩
    case region id ops draw =>
      refine ⟨?_, fun d hd => by cases hd⟩
      rcases xsplit_ok hgm h with h | ⟨g', s1, hg', h1, hw⟩
      · split at h
        · rename_i s'' hr
          simp only [Res.ok.injEq, Prod.mk.injEq] at h
          obtain ⟨rfl, rfl⟩ := h
          cases draw
          · simp only [cond_false] at hr
            exact wp_region_list (xops_ok hgm (hcall g hgm) hN ops.toList hr hs hf hk)
          · simp only [cond_true] at hr
            exact xdraw_ok hm hgm (hcall g hgm) hN hr hs hf hk
        · cases h
        · cases h
      · exact ((ih hg' _ h1) hs (hf.mono (Nat.le_refl _) hw.nx) fun ρ' a' w' hs' hst => hk ρ' a' w' (hw.sr hs') (hw.step hst)).1
    case seq a' b' =>
      refine ⟨?_, fun d hd => by cases hd⟩
      split at h
      · rename_i s1 h1
        refine wp_seq ((ih hgm a' h1) hs (hf.mono (Nat.le_refl _) (hle b' h)) fun ρ1 a1 w1 hs1 hst1 => ?_).1
        exact ((ih hgm b' h) hs1 (hf.step hst1) fun ρ2 a2 w2 hs2 hst2 => hk ρ2 a2 w2 hs2 (hst1.trans hst2)).1
      · rename_i hne
        refine wp_seq ((ih hgm a' h) hs hf fun ρ1 a1 w1 hs1 hst1 => ?_).1
        have := hk ρ1 a1 w1 hs1 hst1
        cases x with
        | normal => exact absurd h (hne _)
        | exit id => exact this
        | ret => exact this
    case cond cc a' b' =>
      refine ⟨?_, fun d hd => by cases hd⟩
      rcases xsplitC_ok hgm h with h | ⟨g', s1, hg', h1, hw⟩
      · split at h
        · rename_i v hv
          have hev := evalX_ok hs.tm hv
          split at h
          · rename_i ht
            exact wp_cond_true (truth_ok hgm ht hev) ((ih hgm a' h) hs hf hk).1
          · rename_i ht
            exact wp_cond_false (truth_ok hgm ht hev) ((ih hgm b' h) hs hf hk).1
          · cases h
          · cases h
        · cases h
      · exact ((ih hg' _ h1) hs (hf.mono (Nat.le_refl _) hw.nx) fun ρ' a' w' hs' hst => hk ρ' a' w' (hw.sr hs') (hw.step hst)).1
    case block id c =>
      refine ⟨?_, fun d hd => by cases hd⟩
      rcases (xsplit_ok hgm h).symm with ⟨g', s1, hg', h1, hw⟩ | h
      · exact ((ih hg' _ h1) hs (hf.mono (Nat.le_refl _) hw.nx) fun ρ' a' w' hs' hst => hk ρ' a' w' (hw.sr hs') (hw.step hst)).1
      refine wp_block ?_
      split at h
      · rename_i j s1 h1
        cases hj : Nat.beq j id <;> rw [hj] at h <;> simp only [cond_true, cond_false, Res.ok.injEq, Prod.mk.injEq] at h <;> obtain ⟨rfl, rfl⟩ := h
        · refine ((ih hgm c h1) hs hf fun ρ1 a1 w1 hs1 hst1 => ?_).1
          show (if j = id then _ else _)
          rw [if_neg (beq_ne hj)]
          exact hk ρ1 a1 w1 hs1 hst1
        · refine ((ih hgm c h1) hs hf fun ρ1 a1 w1 hs1 hst1 => ?_).1
          show (if j = id then _ else _)
          rw [if_pos (Nat.eq_of_beq_eq_true hj)]
          exact hk ρ1 a1 w1 hs1 hst1
      · rename_i hne
        refine ((ih hgm c h) hs hf fun ρ1 a1 w1 hs1 hst1 => ?_).1
        have := hk ρ1 a1 w1 hs1 hst1
        cases x with
        | normal => exact this
        | exit id => exact absurd h (hne _ _)
        | ret => exact this
    case loop c =>
      have hl : LoopAt P c Q a w := by
        refine loopAt_step ?_
        split at h
        · rename_i s1 h1
          refine ((ih hgm c h1) hs (hf.mono (Nat.le_refl _) (hle _ h)) fun ρ1 a1 w1 hs1 hst1 => ?_).1
          exact ((ih hgm (.loop c) h) hs1 (hf.step hst1) fun ρ2 a2 w2 hs2 hst2 => hk ρ2 a2 w2 hs2 (hst1.trans hst2)).2 c rfl
        · rename_i hne
          refine ((ih hgm c h) hs hf fun ρ1 a1 w1 hs1 hst1 => ?_).1
          have := hk ρ1 a1 w1 hs1 hst1
          cases x with
          | normal => exact absurd h (hne _)
          | exit id => exact this
          | ret => exact this
      exact ⟨loopAt_wp hl, fun d hd => by cases hd; exact hl⟩
    all_goals cases h

theorem xbody_ok (hm : P.follows .mixedOrders = true) {call : Gam → Callee} (hcall : ∀ g, GamOK V g → CallOK P V (call g)) (hN : N ≤ T.most) {fuel : Nat} {c : Code} {s : St} : ∀ (k : Nat) {g : Gam} (_ : GamOK V g) {s' : St} {x : X}, xbody P call N fuel c s k g = .ok (x, s') →
    s.nx ≤ s'.nx ∧ ∀ {ρ : Rho} {a : Act} {w : World} {Q : Exit → Act → World → Prop}, SR V ρ N s.tm.get s.hp.get a w → Fresh ρ s.nx s'.nx → After V N ρ s s' w x Q → c.wp P Q a w := by
  intro k
  induction k with
  | zero =>
    intro g hgm s' x h
    exact ⟨xcode_le (V := V) hcall fuel hgm c h, fun hs hf hk => (xcode_ok hm hcall hN fuel hgm c h hs hf hk).1⟩
  | succ k ih =>
    intro g hgm s' x h
    rcases xsplit_ok hgm h with h | ⟨g', s1, hg', h1, hw⟩
    · exact ⟨xcode_le (V := V) hcall fuel hgm c h, fun hs hf hk => (xcode_ok hm hcall hN fuel hgm c h hs hf hk).1⟩
    · obtain ⟨k1, k2⟩ := ih hg' h1
      exact ⟨Nat.le_trans k1 hw.nx, fun hs hf hk => k2 hs (hf.mono (Nat.le_refl _) hw.nx) fun ρ' a' w' hs' hst => hk ρ' a' w' (hw.sr hs') (hw.step hst)⟩

/-! ### Calls -/
theorem laid_get : ∀ (l : List SV) (k t : Nat) (v : SV), (laid k l).get t = some v → k ≤ t ∧ l[t - k]? = some v
  | [], k, t, v, h => by simp [laid, T.get] at h
  | x :: l, k, t, v, h => by
    rw [laid] at h
    by_cases e : t = k
    · subst e
      rcases T.get_put_or (t := laid (t + 1) l) (n := t) (x := some x) with c | c
      · rw [c] at h; exact ⟨Nat.le_refl _, by simpa using h⟩
      · rw [c] at h; have := (laid_get l (t + 1) t v h).1; omega
    · rw [T.get_put_ne e] at h
      obtain ⟨h1, h2⟩ := laid_get l (k + 1) t v h
      refine ⟨by omega, ?_⟩
      rw [show t - k = (t - (k + 1)) + 1 by omega]
      simpa using h2

def CtrOK (P : Program) (V : Val) (ctr : Ctr) : Prop := ∀ f G args hp nx v hp' nx', ctr f = some G → G args hp nx = some (v, hp', nx') → nx ≤ nx' ∧
  ∀ (ρ : Rho) (vs : Array Value) (w : World), All2 (VR V ρ) args vs.toList → HR V ρ hp.get w → (∀ b, nx ≤ b → b < nx' → ρ b = none) → Calls P f vs w fun e w' => ∃ rv ρ', e = .returned rv ∧ Step V ρ hp.get nx w v hp'.get nx' ρ' w' rv

def oneResult (tmps : Array Value) : ResultVar → Sem Value
  | .tmp t => pure (tmps.getD t undef)
  | .cell ad t => do loadVar t (← asAddr (tmps.getD ad undef))
theorem results_eq (fn : Func) (tmps : Array Value) : results fn tmps = (do let vs ← fn.results.mapM (oneResult tmps); pure (if h : vs.size = 1 then vs[0] else .tuple vs)) := rfl
theorem resultX_ok {s : St} {ρ : Rho} {a : Act} {w : World} (hs : SR V ρ N s.tm.get s.hp.get a w) {r : ResultVar} {v : SV} (h : resultX P s r = some v) :
    ∃ rv, (oneResult a.tmps r).run P w = .ok rv w ∧ VR V ρ v rv := by
  unfold resultX at h
  unfold oneResult
  cases r with
  | tmp t => exact ⟨_, rfl, hs.tm t v h⟩
  | cell ad t =>
    simp only at h ⊢
    have load : ∀ {agg : Bool} {b o n : Nat} {cs : List C}, s.tm.get ad = some (.c (.p b o)) → isAggP P t = some agg → sizeP P t = some n → rangeC s.hp.get b o (bif agg then n else 1) = some cs → ∃ q, a.tmps.getD ad undef = .pointer (some ⟨q.1, q.2.1 + o, none⟩) ∧ ρ b = some q := fun hp _ _ _ => by
      obtain ⟨q, hq, he⟩ := hs.tm ad _ hp
      exact ⟨q, he, hq⟩
    have hl : ∀ (x : Addr), (do loadVar t (← asAddr (.pointer (some x))) : Sem Value).run P w = (Instr.loadAt t (.pointer (some x))).run P w := fun x => by simp [asAddr, Instr.loadAt, Instr.sureAddr]
    split at h
    · rename_i b o n hp ha hsz
      cases hc : rangeC s.hp.get b o n with
      | none => rw [hc] at h; cases h
      | some cs =>
        rw [hc] at h
        simp only [Option.map_some, Option.some.injEq] at h
        subst h
        obtain ⟨q, he, hq⟩ := load hp ha hsz hc
        obtain ⟨vs, h1, h2, -⟩ := load_ok hs.hr ha hsz (o := o) hc hq
        refine ⟨_, ?_, ⟨vs.toArray, rfl, by simpa using h1⟩⟩
        rw [he, hl]
        exact h2 rfl
    · rename_i b o n hp ha hsz
      split at h
      · rename_i c hc
        simp only [Option.some.injEq] at h
        subst h
        obtain ⟨q, he, hq⟩ := load hp ha hsz (cs := [c]) hc
        obtain ⟨vs, h1, -, h3⟩ := load_ok hs.hr ha hsz (o := o) (cs := [c]) hc hq
        obtain ⟨u, hu, h4⟩ := h3 rfl
        subst hu
        refine ⟨u, ?_, h1.1⟩
        rw [he, hl]
        exact h4
      · cases h
    · cases h

theorem results_ok {s : St} {ρ : Rho} {a : Act} {w : World} (hs : SR V ρ N s.tm.get s.hp.get a w) {fn : Func} {v : SV} (h : resultsX P s fn.results.toList = some v) : ∃ rv, (results fn a.tmps).run P w = .ok rv w ∧ VR V ρ v rv := by
  unfold resultsX at h
  have hx : ∀ (rs : List ResultVar) (l : List SV), allSome (resultX P s) rs = some l → ∃ vs : List Value, (rs.mapM (oneResult a.tmps)).run P w = .ok vs w ∧ All2 (VR V ρ) l vs := by
    intro rs
    induction rs with
    | nil => intro l hl; simp only [allSome, Option.some.injEq] at hl; subst hl; exact ⟨[], by simp, trivial⟩
    | cons r rs ih =>
      intro l hl
      unfold allSome at hl
      cases hr : resultX P s r with
      | none => rw [hr] at hl; cases hl
      | some v =>
        rw [hr] at hl
        simp only at hl
        cases hm : allSome (resultX P s) rs with
        | none => rw [hm] at hl; cases hl
        | some m =>
          rw [hm] at hl
          simp only [Option.some.injEq] at hl
          subst hl
          obtain ⟨rv, h1, h2⟩ := resultX_ok hs hr
          obtain ⟨vs, h3, h4⟩ := ih m hm
          refine ⟨rv :: vs, ?_, h2, h4⟩
          rw [List.mapM_cons]
          simp only [Sem.run_bind]
          rw [h1]
          simp only [Result.andThen_ok, h3, Sem.run_pure]
  have hrun : ∀ (vs : List Value), (fn.results.toList.mapM (oneResult a.tmps)).run P w = .ok vs w → (results fn a.tmps).run P w = .ok (if h : vs.toArray.size = 1 then vs.toArray[0] else .tuple vs.toArray) w := fun vs hv => by
    rw [results_eq, Sem.run_bind, Array.mapM_eq_mapM_toList, Sem.run_map, hv]
    rfl
  split at h
  · rename_i v' hl
    simp only [Option.some.injEq] at h
    subst h
    obtain ⟨vs, h1, h2⟩ := hx _ _ hl
    match vs, h2 with
    | [u], h2 => exact ⟨u, by rw [hrun _ h1]; rfl, h2.1⟩
    | [], h2 => exact h2.elim
    | _ :: _ :: _, h2 => exact h2.2.elim
  · rename_i l hne hl
    obtain ⟨vs, h1, h2⟩ := hx _ _ hl
    cases hm : allSome toSV1? l with
    | none => rw [hm] at h; cases h
    | some m =>
      rw [hm] at h
      simp only [Option.map_some, Option.some.injEq] at h
      subst h
      refine ⟨.tuple vs.toArray, ?_, ⟨vs.toArray, rfl, ?_⟩⟩
      · rw [hrun _ h1]
        have hlen := h2.len
        have : ¬ vs.toArray.size = 1 := fun e => by
          simp only [List.size_toArray] at e
          match l, hne, hlen with
          | [], _, hlen => simp at hlen; omega
          | [x], hne, _ => exact hne x rfl
          | _ :: _ :: _, _, hlen => simp at hlen; omega
        rw [dif_neg this]
      · simp only
        clear hl hne h1 hx hrun
        induction l generalizing vs m with
        | nil =>
          simp only [allSome, Option.some.injEq] at hm
          subst hm
          cases vs with
          | nil => trivial
          | cons _ _ => exact h2.elim
        | cons x l ih =>
          cases vs with
          | nil => exact h2.elim
          | cons u vs =>
            unfold allSome at hm
            cases hx : toSV1? x with
            | none => rw [hx] at hm; cases hm
            | some y =>
              rw [hx] at hm
              simp only at hm
              cases hm2 : allSome toSV1? l with
              | none => rw [hm2] at hm; cases hm
              | some m' =>
                rw [hm2] at hm
                simp only [Option.some.injEq] at hm
                subst hm
                refine ⟨?_, ih vs h2.2 m' hm2⟩
                have h21 := h2.1
                cases x <;> simp only [toSV1?, Option.some.injEq, reduceCtorEq] at hx <;> subst hx <;> exact h21
  · cases h

theorem below_step {hg : HG} {nx : Nat} {w w' : World} {v : SV} {rv : Value} {ρ : Rho} (hh : HR V ρ hg w) (hv : VR V ρ v rv) (hb : Go.RowKit.Below w.heap.size w w') : Step V ρ hg nx w v hg nx ρ w' rv :=
  ⟨.refl _, fun _ _ h => .inl h, Nat.le_refl _, hv, hh.same fun k ho => hb.block k ho, hb.os, hb.tape, hb.output, hb.size, fun k hk _ => hb.block k hk, fun _ _ _ h _ => .inl h, fun _ h => .inl h⟩

/-- **What the runner says of a call holds of Go's machine.** -/
theorem xcallG_ok (hm : P.follows .mixedOrders = true) (hname : ∀ (f : Nat) (fn : Func), P.funcs[f]? = some fn → (fn.name == "runtime.NumGoroutine") = false) {ctr : Ctr} (hctr : CtrOK P V ctr) (fuel : Nat) : ∀ n (g : Gam), GamOK V g → CallOK P V (xcallG P ctr fuel n g) := by
  intro n
  induction n with
  | zero => intro g hgm f args hp nx v hp' nx' h; cases h
  | succ n ih =>
    intro g hgm f args hp nx v hp' nx' h
    unfold xcallG at h
    split at h
    · cases h
    · rename_i fn hfn
      split at h
      · cases h
      · rename_i c hbody
        have hfacts : ∃ fn, P.funcs[f]? = some fn ∧ fn.body.isSome = true ∧ (fn.name == "runtime.NumGoroutine") = false := ⟨fn, hfn, by rw [hbody]; rfl, hname f fn hfn⟩
        split at h
        · rename_i G hG
          split at h
          · rename_i r hv'
            simp only [Res.ok.injEq] at h
            subst h
            obtain ⟨h1, h2⟩ := hctr f G args hp nx v hp' nx' hG hv'
            exact ⟨hfacts, h1, h2⟩
          · cases h
        · cases hc : (Nat.ble args.length fn.ntmps && Nat.blt fn.ntmps T.most) <;> rw [hc] at h
          · cases h
          · simp only [cond_true] at h
            simp only [Bool.and_eq_true] at hc
            have hc1 := Nat.le_of_ble_eq_true hc.1
            have hc2 : fn.ntmps < T.most := Nat.le_of_ble_eq_true hc.2
            split at h
            · rename_i x s hx
              have hret : (x = .normal ∨ x = .ret) ∧ (match resultsX P s fn.results.toList with | some v => (.ok (v, s.hp, s.nx) : Res (SV × T Blk × Nat)) | none => .bad 97) = .ok (v, hp', nx') := by
                cases x with
                | normal => exact ⟨.inl rfl, h⟩
                | ret => exact ⟨.inr rfl, h⟩
                | exit id => cases h
              obtain ⟨hx1, hx2⟩ := hret
              split at hx2
              · rename_i v' hres
                simp only [Res.ok.injEq, Prod.mk.injEq] at hx2
                obtain ⟨rfl, rfl, rfl⟩ := hx2
                obtain ⟨hle, hwp⟩ := xbody_ok (N := fn.ntmps) hm ih (Nat.le_of_lt hc2) 40 hgm hx
                refine ⟨hfacts, hle, fun ρ vs w hargs hr hf => ?_⟩
                have hsz : vs.size = args.length := by have := hargs.len; simp at this; omega
                have hsr : SR V ρ fn.ntmps (laid 0 args).get hp.get { tmps := vs ++ Array.replicate (fn.ntmps - vs.size) undef, defers := [] } w := by
                  refine ⟨by simp; omega, fun t u ht => ?_, rfl, hr⟩
                  obtain ⟨-, h2⟩ := laid_get args 0 t u ht
                  rw [Nat.sub_zero] at h2
                  obtain ⟨rv, h3, h4⟩ := hargs.get h2
                  have hlt : t < vs.size := by
                    rcases Nat.lt_or_ge t vs.size with q | q
                    · exact q
                    · rw [List.getElem?_eq_none (by simpa using q)] at h3; cases h3
                  have : (vs ++ Array.replicate (fn.ntmps - vs.size) undef).getD t undef = rv := by
                    rw [Array.getD_eq_getD_getElem?, Array.getElem?_append_left hlt]
                    have h3' : vs[t]? = some rv := by simpa using h3
                    rw [h3']; rfl
                  rw [this]; exact h4
                refine calls_of_wp hfn hbody (hwp hsr hf fun ρ' a' w' hs' hst => ?_)
                obtain ⟨rv, hrun, hrv⟩ := results_ok hs' hres
                have hpost : bodyPost P fn (fun e w' => ∃ rv ρ', e = .returned rv ∧ Step V ρ hp.get nx w v' s.hp.get s.nx ρ' w' rv) .ret a' w' := ⟨hs'.df, rv, hrun, rv, ρ', rfl, hst.withVal hrv⟩
                rcases hx1 with rfl | rfl
                · exact hpost
                · exact hpost
              · cases hx2
            · cases h
            · cases h
theorem xcall_ok (hm : P.follows .mixedOrders = true) (hname : ∀ (f : Nat) (fn : Func), P.funcs[f]? = some fn → (fn.name == "runtime.NumGoroutine") = false) (hgm : GamOK V g) {ctr : Ctr} (hctr : CtrOK P V ctr) (fuel n : Nat) : CallOK P V (xcall P ctr g fuel n) := xcallG_ok hm hname hctr fuel n g hgm
#print axioms xcall_ok
end Go.Proofs.Ytclhgnhbmlkomaa.Ex

namespace Go.Proofs.Ytclhgnhbmlkomaa.Ex
open Go
variable {P : Program} {V : Val}

def good : Res (SV × T Blk × Nat) → Bool
  | .ok (.c (.b true), _, _) => true
  | _ => false
theorem good_ok {r : Res (SV × T Blk × Nat)} (h : good r = true) : ∃ hp nx, r = .ok (.c (.b true), hp, nx) := by
  unfold good at h
  split at h
  · exact ⟨_, _, rfl⟩
  · cases h

def resIs (r : Res (SV × T Blk × Nat)) (v : SV) : Bool :=
  match r with
  | .ok (u, _, _) => decide (u = v)
  | _ => false
theorem resIs_ok {r : Res (SV × T Blk × Nat)} {v : SV} (h : resIs r v = true) : ∃ hp nx, r = .ok (v, hp, nx) := by
  unfold resIs at h
  split at h
  · simp only [decide_eq_true_eq] at h; subst h; exact ⟨_, _, rfl⟩
  · cases h

/-- Of what was handed in: it lies in memory. -/
def Laid (V : Val) (ρ : Rho) (w : World) : Prop := ∀ b q j, ρ b = some q → q.2.2.2 = some j → q.1 < w.heap.size ∧ ∀ (i : Nat) (v : Value), (V.arr j)[i]? = some v → w.cell? ⟨q.1, q.2.1 + i, none⟩ = some v
theorem hr_laid {w : World} {ρ : Rho} (h : Laid V ρ w) : HR V ρ (T.nil : T Blk).get w := ⟨⟨fun b blk h => by simp [T.get] at h, fun b b' q q' h => absurd rfl h⟩, fun b q j h1 h2 => ⟨h b q j h1 h2, fun ⟨_, _, h, _⟩ => h rfl⟩⟩
theorem hr_nil (w : World) : HR V (fun _ => none) (T.nil : T Blk).get w := hr_laid fun _ _ _ h => by cases h

theorem below_of {ρ ρ' : Rho} {nx nx' : Nat} {w w' : World} {v : SV} {rv : Value} {hg' : HG} (h : Step V ρ (T.nil : T Blk).get nx w v hg' nx' ρ' w' rv) : Go.RowKit.Below w.heap.size w w' :=
  ⟨h.os, h.tape, h.output, h.size, fun k hk => h.keep k hk fun ⟨_, _, h1, _⟩ => h1 rfl⟩

/-- A call whose arguments bear no addresses. -/
theorem run_any (hm : P.follows .mixedOrders = true) (hname : ∀ (f : Nat) (fn : Func), P.funcs[f]? = some fn → (fn.name == "runtime.NumGoroutine") = false) {g : Gam} (hgm : GamOK V g) {ctr : Ctr} (hctr : CtrOK P V ctr) {fuel n f : Nat} {args : List SV} {v : SV} {hp : T Blk} {nx : Nat}
    (h : xcall P ctr g fuel n f args .nil 0 = .ok (v, hp, nx)) {vs : Array Value} (hargs : All2 (VR V fun _ => none) args vs.toList) (w : World) :
    Calls P f vs w fun e w' => ∃ rv ρ, e = .returned rv ∧ VR V ρ v rv ∧ Go.RowKit.Below w.heap.size w w' :=
  ((xcall_ok hm hname hgm hctr fuel n f args .nil 0 v hp nx h).2.2 (fun _ => none) vs w hargs (hr_nil w) fun _ _ _ => rfl).mono fun _ _ ⟨rv, ρ', he, hst⟩ => ⟨rv, ρ', he, hst.val, below_of hst⟩

theorem run_law (hm : P.follows .mixedOrders = true) (hname : ∀ (f : Nat) (fn : Func), P.funcs[f]? = some fn → (fn.name == "runtime.NumGoroutine") = false) {g : Gam} (hgm : GamOK V g) {ctr : Ctr} (hctr : CtrOK P V ctr) {fuel n f : Nat} {args : List SV}
    (h : good (xcall P ctr g fuel n f args .nil 0) = true) {vs : Array Value} (hargs : All2 (VR V fun _ => none) args vs.toList) (w : World) :
    Calls P f vs w fun e w' => e = .returned (.bool true) ∧ Go.RowKit.Below w.heap.size w w' := by
  obtain ⟨hp, nx, e⟩ := good_ok h
  exact (run_any hm hname hgm hctr e hargs w).mono fun e w' ⟨rv, ρ, he, hv, hb⟩ => by
    have : rv = .bool true := hv
    subst this
    exact ⟨he, hb⟩

theorem run_res (hm : P.follows .mixedOrders = true) (hname : ∀ (f : Nat) (fn : Func), P.funcs[f]? = some fn → (fn.name == "runtime.NumGoroutine") = false) {g : Gam} (hgm : GamOK V g) {ctr : Ctr} (hctr : CtrOK P V ctr) {fuel n f : Nat} {args : List SV} {v : SV}
    (h : resIs (xcall P ctr g fuel n f args .nil 0) v = true) {vs : Array Value} (hargs : All2 (VR V fun _ => none) args vs.toList) (w : World) :
    Calls P f vs w fun e w' => ∃ rv ρ, e = .returned rv ∧ VR V ρ v rv ∧ Go.RowKit.Below w.heap.size w w' := by
  obtain ⟨hp, nx, e⟩ := resIs_ok h
  exact run_any hm hname hgm hctr e hargs w

def namesOk (P : Program) : Bool := P.funcs.all fun fn => !(fn.name == "runtime.NumGoroutine")
theorem names_of (h : namesOk P = true) : ∀ (f : Nat) (fn : Func), P.funcs[f]? = some fn → (fn.name == "runtime.NumGoroutine") = false := fun f fn hf => by
  unfold namesOk at h
  rw [Array.all_eq_true_iff_forall_mem] at h
  have := h fn (Array.mem_of_getElem? hf)
  simpa using this

theorem gam_nil : GamOK V .nil := ⟨(fun _ _ h => by cases h), dok_none, nm_none⟩
theorem gam_of {l : List (E × Bool)} (h : LOK V l) : GamOK V (.of l) := ⟨h, dok_none, nm_none⟩

/-! ### Contracts by a list -/
abbrev Ctr1 := List SV → T Blk → Nat → Option (SV × T Blk × Nat)
/-- A contract that has nothing to do with blocks. -/
def pureC (G : List SV → Option SV) : Ctr1 := fun args hp nx => (G args).map fun v => (v, hp, nx)
def ctrOf : List (Nat × Ctr1) → Ctr
  | [], _ => none
  | (f, G) :: l, x => bif Nat.beq f x then some G else ctrOf l x
def Holds (P : Program) (V : Val) (f : Nat) (G : List SV → Option SV) : Prop := ∀ args v, G args = some v → ∀ (ρ : Rho) (vs : Array Value) (w : World), All2 (VR V ρ) args vs.toList → Calls P f vs w fun e w' => ∃ rv, e = .returned rv ∧ VR V ρ v rv ∧ Go.RowKit.Below w.heap.size w w'
def HoldsC (P : Program) (V : Val) (f : Nat) (G : Ctr1) : Prop := ∀ args hp nx v hp' nx', G args hp nx = some (v, hp', nx') → nx ≤ nx' ∧
  ∀ (ρ : Rho) (vs : Array Value) (w : World), All2 (VR V ρ) args vs.toList → HR V ρ hp.get w → (∀ b, nx ≤ b → b < nx' → ρ b = none) → Calls P f vs w fun e w' => ∃ rv ρ', e = .returned rv ∧ Step V ρ hp.get nx w v hp'.get nx' ρ' w' rv
theorem Holds.pure {f : Nat} {G : List SV → Option SV} (h : Holds P V f G) : HoldsC P V f (pureC G) := by
  intro args hp nx v hp' nx' hG
  unfold pureC at hG
  cases hv : G args with
  | none => rw [hv] at hG; cases hG
  | some u =>
    rw [hv] at hG
    simp only [Option.map_some, Option.some.injEq, Prod.mk.injEq] at hG
    obtain ⟨rfl, rfl, rfl⟩ := hG
    exact ⟨Nat.le_refl _, fun ρ vs w hargs hr _ => (h args u hv ρ vs w hargs).mono fun e w' ⟨rv, he, hv, hb⟩ => ⟨rv, ρ, he, below_step hr hv hb⟩⟩
theorem ctr_nil : CtrOK P V (ctrOf []) := fun f G args hp nx v hp' nx' h => by cases h
theorem ctr_consC {f : Nat} {G : Ctr1} {l : List (Nat × Ctr1)} (h : HoldsC P V f G) (hl : CtrOK P V (ctrOf l)) : CtrOK P V (ctrOf ((f, G) :: l)) := by
  intro f' G' args hp nx v hp' nx' hG hv
  unfold ctrOf at hG
  cases hb : Nat.beq f f' <;> rw [hb] at hG
  · exact hl f' G' args hp nx v hp' nx' hG hv
  · simp only [cond_true, Option.some.injEq] at hG
    subst hG
    have := Nat.eq_of_beq_eq_true hb
    subst this
    exact h args hp nx v hp' nx' hv
theorem ctr_cons {f : Nat} {G : List SV → Option SV} {l : List (Nat × Ctr1)} (h : Holds P V f G) (hl : CtrOK P V (ctrOf l)) : CtrOK P V (ctrOf ((f, pureC G) :: l)) := ctr_consC h.pure hl

/-! ### within, of what is known; Abs -/
def mkV (i : Nat → Int) (f : Nat → Nat) : Val := ⟨i, f, fun _ => false, fun _ _ _ => 0, fun _ _ _ => 0, fun _ _ _ => false, fun _ => #[]⟩
theorem emod_of {a n : Int} (h1 : 1 ≤ n) : (a.tmod n < 0 → a.tmod n + n = a % n) ∧ (0 ≤ a.tmod n → a.tmod n = a % n) := by
  have h2 := Int.emod_nonneg a (show n ≠ 0 by omega)
  have h3 := Int.emod_lt_of_pos a (show 0 < n by omega)
  have h4 : a.tmod n = if 0 ≤ a ∨ n ∣ a then a % n else a % n - n := by
    rw [Int.tmod_eq_emod]; split <;> simp; rw [Int.natAbs_of_nonneg (by omega)]
  rw [h4]; split <;> constructor <;> intro h <;> omega
def withinG (b : Bool) : Gam := .of [(.ic .eql (.vi 1) (.li 0), false), (.ic .lss (.ib .rem .i64 (.vi 0) (.vi 1)) (.li 0), b)]
/-- 'within' of any package, by its runs. -/
theorem within_run (hm : P.follows .mixedOrders = true) (hname : ∀ (f : Nat) (fn : Func), P.funcs[f]? = some fn → (fn.name == "runtime.NumGoroutine") = false) {f fuel k : Nat}
    (h1 : resIs (xcall P (ctrOf []) (withinG true) fuel k f [.c (.ei .i64 (.vi 0)), .c (.ei .i64 (.vi 1))] .nil 0) (.c (.ei .i64 (.ib .add .i64 (.ib .rem .i64 (.vi 0) (.vi 1)) (.vi 1)))) = true)
    (h2 : resIs (xcall P (ctrOf []) (withinG false) fuel k f [.c (.ei .i64 (.vi 0)), .c (.ei .i64 (.vi 1))] .nil 0) (.c (.ei .i64 (.ib .rem .i64 (.vi 0) (.vi 1)))) = true) :
    ∀ (a n : Int) (w : World), 1 ≤ n → n ≤ 9223372036854775807 → Calls P f #[.int .i64 a, .int .i64 n] w fun e w' => e = .returned (.int .i64 (a % n)) ∧ Go.RowKit.Below w.heap.size w w' := by
  intro a n w hn hn2
  have hargs : All2 (VR (mkV (fun i => if i = 0 then a else n) fun _ => 0) fun _ => none) [.c (.ei .i64 (.vi 0)), .c (.ei .i64 (.vi 1))] (#[.int .i64 a, .int .i64 n] : Array Value).toList := ⟨by simp [VR, CR, evI, mkV], by simp [VR, CR, evI, mkV], trivial⟩
  have hg : ∀ b, (decide (a.tmod n < 0) = b) → GamOK (mkV (fun i => if i = 0 then a else n) fun _ => 0) (withinG b) := fun b hb => gam_of fun e c hc => by
    simp only [List.mem_cons, Prod.mk.injEq, List.not_mem_nil, or_false] at hc
    rcases hc with ⟨rfl, rfl⟩ | ⟨rfl, rfl⟩
    · simp [evB, evI, icV, mkV]; omega
    · simpa [evB, evI, icV, mkV, ibV] using hb
  have hem := emod_of (a := a) hn
  have h3 := Int.emod_nonneg a (show n ≠ 0 by omega)
  have h4 := Int.emod_lt_of_pos a (show 0 < n by omega)
  by_cases hneg : a.tmod n < 0
  · refine (run_res hm hname (hg true (by simpa using hneg)) ctr_nil h1 hargs w).mono fun e w' ⟨rv, ρ, he, hv, hb⟩ => ⟨?_, hb⟩
    have : rv = .int .i64 (wrapF .i64 (a.tmod n + n)) := by simpa [VR, CR, evI, mkV, ibV] using hv
    have hw : wrapF .i64 (a.tmod n + n) = a % n := by
      rw [hem.1 hneg]
      unfold wrapF
      simp only
      rw [decide_eq_true (by omega : -9223372036854775808 ≤ a % n), decide_eq_true (by omega : a % n < 9223372036854775808)]
      rfl
    rw [he, this, hw]
  · refine (run_res hm hname (hg false (by simpa using hneg)) ctr_nil h2 hargs w).mono fun e w' ⟨rv, ρ, he, hv, hb⟩ => ⟨?_, hb⟩
    have : rv = .int .i64 (a.tmod n) := by simpa [VR, CR, evI, mkV, ibV] using hv
    rw [he, this, hem.2 (by omega)]

abbrev Tab := List (Nat × Int × Int)
def Tab.look : Tab → Nat → Int → Option Int
  | [], _, _ => none
  | (j, n, c) :: l, i, m => if j = i ∧ n = m then some c else Tab.look l i m
def TabOK (V : Val) (t : Tab) : Prop := ∀ j n c, (j, n, c) ∈ t → V.i j % n = c
theorem look_tab : ∀ {t : Tab} {i : Nat} {m c : Int}, TabOK V t → t.look i m = some c → V.i i % m = c
  | [], _, _, _, _, h => by cases h
  | (j, n, c') :: l, i, m, c, ht, h => by
    unfold Tab.look at h
    split at h
    · rename_i e
      simp only [Option.some.injEq] at h
      subst h
      obtain ⟨rfl, rfl⟩ := e
      exact ht _ _ _ (by simp)
    · exact look_tab (fun a b c hm => ht a b c (by simp [hm])) h
def withinF (t : Tab) : List SV → Option SV
  | [.c (.i .i64 a), .c (.i .i64 n)] => bif decide (1 ≤ n) && decide (n ≤ 9223372036854775807) then some (.c (.i .i64 (a % n))) else none
  | [.c (.ei .i64 (.vi j)), .c (.i .i64 n)] => bif decide (1 ≤ n) && decide (n ≤ 9223372036854775807) then (t.look j n).map fun c => .c (.i .i64 c) else none
  | _ => none
theorem within_holds {f : Nat} (hw : ∀ (a n : Int) (w : World), 1 ≤ n → n ≤ 9223372036854775807 → Calls P f #[.int .i64 a, .int .i64 n] w fun e w' => e = .returned (.int .i64 (a % n)) ∧ Go.RowKit.Below w.heap.size w w') {t : Tab} (ht : TabOK V t) : Holds P V f (withinF t) := by
  intro args v h ρ vs w hargs
  unfold withinF at h
  split at h
  · rename_i a n
    cases hc : (decide (1 ≤ n) && decide (n ≤ 9223372036854775807)) <;> rw [hc] at h
    · cases h
    · simp only [cond_true, Option.some.injEq] at h
      subst h
      simp only [Bool.and_eq_true, decide_eq_true_eq] at hc
      have hvs : vs = #[.int .i64 a, .int .i64 n] := by
        apply Array.ext'
        match hl : vs.toList, hargs with
        | [x, y], hargs => rw [show x = _ from hargs.1, show y = _ from hargs.2.1]
        | [], hargs => exact hargs.elim
        | [_], hargs => exact hargs.2.elim
        | _ :: _ :: _ :: _, hargs => exact hargs.2.2.elim
      subst hvs
      exact (hw a n w hc.1 hc.2).mono fun e w' ⟨he, hb⟩ => ⟨_, he, rfl, hb⟩
  · rename_i j n
    cases hc : (decide (1 ≤ n) && decide (n ≤ 9223372036854775807)) <;> rw [hc] at h
    · cases h
    · simp only [cond_true] at h
      cases hl : t.look j n with
      | none => rw [hl] at h; cases h
      | some c =>
        rw [hl] at h
        simp only [Option.map_some, Option.some.injEq] at h
        subst h
        simp only [Bool.and_eq_true, decide_eq_true_eq] at hc
        have hvs : vs = #[.int .i64 (V.i j), .int .i64 n] := by
          apply Array.ext'
          match hl : vs.toList, hargs with
          | [x, y], hargs => rw [show x = _ from hargs.1, show y = _ from hargs.2.1]; simp [evI]
          | [], hargs => exact hargs.elim
          | [_], hargs => exact hargs.2.elim
          | _ :: _ :: _ :: _, hargs => exact hargs.2.2.elim
        subst hvs
        exact (hw (V.i j) n w hc.1 hc.2).mono fun e w' ⟨he, hb⟩ => ⟨_, he, by rw [look_tab ht hl]; rfl, hb⟩
  · cases h

def absF : List SV → Option SV
  | [.c (.f x)] => some (.c (.f (canon x % p63)))
  | _ => none
theorem abs_FR {x y : Nat} (h : FR x y) : FR (canon x % p63) (y % p63) := by
  refine ⟨?_, Nat.lt_of_le_of_lt (Nat.mod_le _ _) h.2⟩
  rw [h.1]
  have hN : ∀ z, isN (z % p63) = isN z := fun z => by unfold isN; rw [Nat.mod_mod]
  cases hn : isN y
  · rw [canon_num hn]
  · have h1 : canon (y % p63) = nanB := by unfold canon; rw [hN, hn]; rfl
    have h2 : canon y = nanB := by unfold canon; rw [hn]; rfl
    rw [h1, h2]; decide
theorem abs_holds {f : Nat} (hw : ∀ (x : Nat) (w : World), x < 18446744073709551616 → Calls P f #[.float .f64 x] w fun e w' => e = .returned (.float .f64 (x % 9223372036854775808)) ∧ w = w') : Holds P V f absF := by
  intro args v h ρ vs w hargs
  unfold absF at h
  split at h
  · rename_i x
    simp only [Option.some.injEq] at h
    subst h
    match hl : vs.toList, hargs with
    | [z], hargs =>
      obtain ⟨y, rfl, f1⟩ := hargs.1
      have hvs : vs = #[.float .f64 y] := Array.ext' hl
      subst hvs
      exact (hw y w f1.2).mono fun e w' ⟨he, hb⟩ => ⟨_, he, ⟨_, rfl, abs_FR f1⟩, by subst hb; exact Go.RowKit.Below.refl _ _⟩
    | [], hargs => exact hargs.elim
    | _ :: _ :: _, hargs => exact hargs.2.elim
  · cases h
end Go.Proofs.Ytclhgnhbmlkomaa.Ex

namespace Go.Proofs.Ytclhgnhbmlkomaa.Ex
open Go
variable {P : Program} {V : Val}

theorem FR.known {x y : Nat} (h : FR x y) (hx : isN x = false) : y = x := by
  have := h.nan
  rw [hx] at this
  have e := h.1
  rw [canon_num hx, canon_num this.symm] at e
  exact e.symm
theorem upB_lt' {x : Nat} (hx : x < 18446744073709551616) : upB x < 18446744073709551616 := by
  cases hn : isN x
  · exact (up_key hx hn).2.2
  · unfold upB; rw [if_pos hn]; decide
theorem downB_lt' {x : Nat} (hx : x < 18446744073709551616) : downB x < 18446744073709551616 := by
  cases hn : isN x
  · exact (down_key hx hn).2.2
  · unfold downB; rw [if_pos hn]; decide
theorem up_FR {x y : Nat} (h : FR x y) : FR (upB (canon x)) (upB y) := by
  refine ⟨?_, upB_lt' h.2⟩
  rw [h.1]
  cases hn : isN y
  · rw [canon_num hn]
  · have h1 : canon y = nanB := by unfold canon; rw [hn]; rfl
    have h2 : upB y = nanB := by unfold upB; rw [if_pos hn]
    rw [h1, h2]; decide
theorem down_FR {x y : Nat} (h : FR x y) : FR (downB (canon x)) (downB y) := by
  refine ⟨?_, downB_lt' h.2⟩
  rw [h.1]
  cases hn : isN y
  · rw [canon_num hn]
  · have h1 : canon y = nanB := by unfold canon; rw [hn]; rfl
    have h2 : downB y = nanB := by unfold downB; rw [if_pos hn]
    rw [h1, h2]; decide

theorem args_one {R : SV → Value → Prop} {a : SV} {vs : Array Value} (h : All2 R [a] vs.toList) : ∃ v, vs = #[v] ∧ R a v := by
  match hl : vs.toList, h with
  | [x], h => exact ⟨x, Array.ext' hl, h.1⟩
  | [], h => exact h.elim
  | _ :: _ :: _, h => exact h.2.elim
theorem args_two {R : SV → Value → Prop} {a b : SV} {vs : Array Value} (h : All2 R [a, b] vs.toList) : ∃ v u, vs = #[v, u] ∧ R a v ∧ R b u := by
  match hl : vs.toList, h with
  | [x, y], h => exact ⟨x, y, Array.ext' hl, h.1, h.2.1⟩
  | [], h => exact h.elim
  | [_], h => exact h.2.elim
  | _ :: _ :: _ :: _, h => exact h.2.2.elim

/-- Nextafter, to either infinity. -/
def nextF : List SV → Option SV
  | [.c (.f x), .c (.f y)] => bif Nat.beq y 9218868437227405312 then some (.c (.f (upB (canon x)))) else bif Nat.beq y 18442240474082181120 then some (.c (.f (downB (canon x)))) else none
  | _ => none
theorem next_holds {f : Nat} (hup : ∀ (x : Nat) (w : World), x < 18446744073709551616 → Calls P f #[.float .f64 x, .float .f64 9218868437227405312] w fun e w' => e = .returned (.float .f64 (upB x)) ∧ w = w')
    (hdown : ∀ (x : Nat) (w : World), x < 18446744073709551616 → Calls P f #[.float .f64 x, .float .f64 18442240474082181120] w fun e w' => e = .returned (.float .f64 (downB x)) ∧ w = w') : Holds P V f nextF := by
  intro args v h ρ vs w hargs
  unfold nextF at h
  split at h
  · rename_i x y
    obtain ⟨u1, u2, rfl, ⟨x', rfl, hx⟩, ⟨y', rfl, hy⟩⟩ := args_two hargs
    cases h1 : Nat.beq y 9218868437227405312 <;> rw [h1] at h
    · cases h2 : Nat.beq y 18442240474082181120 <;> rw [h2] at h
      · cases h
      · simp only [cond_false, cond_true, Option.some.injEq] at h
        subst h
        have := Nat.eq_of_beq_eq_true h2
        subst this
        have := hy.known (by decide)
        subst this
        exact (hdown x' w hx.2).mono fun e w' ⟨he, hb⟩ => ⟨_, he, ⟨_, rfl, down_FR hx⟩, by subst hb; exact Go.RowKit.Below.refl _ _⟩
    · simp only [cond_true, Option.some.injEq] at h
      subst h
      have := Nat.eq_of_beq_eq_true h1
      subst this
      have := hy.known (by decide)
      subst this
      exact (hup x' w hx.2).mono fun e w' ⟨he, hb⟩ => ⟨_, he, ⟨_, rfl, up_FR hx⟩, by subst hb; exact Go.RowKit.Below.refl _ _⟩
  · cases h

def infF : List SV → Option SV
  | [.c (.i .i64 n)] => bif decide (n = 1) then some (.c (.f 9218868437227405312)) else bif decide (n = -1) then some (.c (.f 18442240474082181120)) else none
  | _ => none
theorem inf_holds {f : Nat} (hp : ∀ (w : World), Calls P f #[.int .i64 1] w fun e w' => e = .returned (.float .f64 9218868437227405312) ∧ w = w')
    (hn : ∀ (w : World), Calls P f #[.int .i64 (-1)] w fun e w' => e = .returned (.float .f64 18442240474082181120) ∧ w = w') : Holds P V f infF := by
  intro args v h ρ vs w hargs
  unfold infF at h
  split at h
  · rename_i n
    obtain ⟨u1, rfl, hu⟩ := args_one hargs
    have hu : u1 = .int .i64 n := hu
    subst hu
    cases h1 : decide (n = 1) <;> rw [h1] at h
    · cases h2 : decide (n = -1) <;> rw [h2] at h
      · cases h
      · simp only [cond_false, cond_true, Option.some.injEq] at h
        subst h
        have := of_decide_eq_true h2
        subst this
        exact (hn w).mono fun e w' ⟨he, hb⟩ => ⟨_, he, ⟨_, rfl, rfl, by decide⟩, by subst hb; exact Go.RowKit.Below.refl _ _⟩
    · simp only [cond_true, Option.some.injEq] at h
      subst h
      have := of_decide_eq_true h1
      subst this
      exact (hp w).mono fun e w' ⟨he, hb⟩ => ⟨_, he, ⟨_, rfl, rfl, by decide⟩, by subst hb; exact Go.RowKit.Below.refl _ _⟩
  · cases h
theorem ldexpB_lt' {x : Nat} {k : Int} (hx : x < 18446744073709551616) : ldexpB x k < 18446744073709551616 := by
  unfold ldexpB
  split
  · exact hx
  · exact word_lt _ (rungOf_le_inf _ _)
theorem ldexp_FR {x y : Nat} (h : FR x y) (k : Int) : FR (ldexpB (canon x) k) (ldexpB y k) := by
  refine ⟨?_, ldexpB_lt' h.2⟩
  rw [h.1]
  cases hn : isN y
  · rw [canon_num hn]
  · have h1 : canon y = nanB := by unfold canon; rw [hn]; rfl
    have h2 : ldexpB y k = y := by
      unfold ldexpB
      rw [if_pos]
      right
      unfold isN at hn
      simp only [decide_eq_true_eq] at hn
      omega
    have h3 : ldexpB nanB k = nanB := by unfold ldexpB; rw [if_pos (by decide)]
    rw [h1, h2, h3, h1]; decide
def ldexpF : List SV → Option SV
  | [.c (.f x), .c (.i .i64 k)] => bif decide (-4611686018427387904 ≤ k) && decide (k ≤ 4611686018427387904) then some (.c (.f (ldexpB (canon x) k))) else none
  | _ => none
theorem ldexp_holds {f : Nat} (hl : ∀ (x : Nat) (k : Int) (w : World), x < 18446744073709551616 → -4611686018427387904 ≤ k → k ≤ 4611686018427387904 → Calls P f #[.float .f64 x, .int .i64 k] w fun e w' => e = .returned (.float .f64 (ldexpB x k)) ∧ w = w') : Holds P V f ldexpF := by
  intro args v h ρ vs w hargs
  unfold ldexpF at h
  split at h
  · rename_i x k
    obtain ⟨u1, u2, rfl, ⟨x', rfl, hx⟩, hk⟩ := args_two hargs
    have hk : u2 = .int .i64 k := hk
    subst hk
    cases h1 : (decide (-4611686018427387904 ≤ k) && decide (k ≤ 4611686018427387904)) <;> rw [h1] at h
    · cases h
    · simp only [cond_true, Option.some.injEq] at h
      subst h
      simp only [Bool.and_eq_true, decide_eq_true_eq] at h1
      exact (hl x' k w hx.2 h1.1 h1.2).mono fun e w' ⟨he, hb⟩ => ⟨_, he, ⟨_, rfl, ldexp_FR hx k⟩, by subst hb; exact Go.RowKit.Below.refl _ _⟩
  · cases h
def nanF : List SV → Option SV
  | [] => some (.c (.f nanB))
  | _ => none
theorem nan_holds {f : Nat} (hn : ∀ (w : World), Calls P f #[] w fun e w' => e = .returned (.float .f64 nanB) ∧ w = w') : Holds P V f nanF := by
  intro args v h ρ vs w hargs
  unfold nanF at h
  split at h
  · simp only [Option.some.injEq] at h
    subst h
    match hl : vs.toList, hargs with
    | [], _ =>
      have : vs = #[] := Array.ext' hl
      subst this
      exact (hn w).mono fun e w' ⟨he, hb⟩ => ⟨_, he, ⟨_, rfl, rfl, by decide⟩, by subst hb; exact Go.RowKit.Below.refl _ _⟩
    | _ :: _, hargs => exact hargs.elim
  · cases h
end Go.Proofs.Ytclhgnhbmlkomaa.Ex
