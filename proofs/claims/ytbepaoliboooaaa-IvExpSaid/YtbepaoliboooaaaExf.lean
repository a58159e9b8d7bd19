/-
  The runner's operations beside Go's, one by one: what each yields.
-/
import Derived.Test.YtbepaoliboooaaaExe
import Derived.Laws.Slices
import Derived.Laws.MakeOwn
import Derived.Laws.AppendOwn
namespace Go.Proofs.Ytbepaoliboooaaa.Ex
open Go
variable {P : Program} {V : Val} {ρ : Rho}

def TR (V : Val) (ρ : Rho) (get : Nat → Option SV) (tmps : Array Value) : Prop := ∀ t v, get t = some v → VR V ρ v (tmps.getD t undef)

theorem ofCell_ok {v : Value} {c : C} (h : ofCell v = some c) : CR V ρ c v := by
  unfold ofCell at h
  split at h
  · simp only [Option.some.injEq] at h; subst h; rfl
  · simp only [Option.some.injEq] at h; subst h; rfl
  · rename_i x
    cases hb : Nat.blt x 18446744073709551616 <;> rw [hb] at h
    · simp at h
    · simp only [cond_true, Option.some.injEq] at h; subst h
      exact ⟨x, rfl, rfl, Nat.le_of_ble_eq_true hb⟩
  · simp only [Option.some.injEq] at h; subst h; rfl
  · simp only [Option.some.injEq] at h; subst h; rfl
  · simp only [Option.some.injEq] at h; subst h; rfl
  · rename_i f a b
    cases hb : (a.isEmpty && b.isEmpty) <;> rw [hb] at h
    · simp at h
    · simp only [cond_true, Option.some.injEq] at h; subst h
      simp only [Bool.and_eq_true, Array.isEmpty_iff] at hb
      obtain ⟨rfl, rfl⟩ := hb
      exact ⟨#[], rfl, trivial⟩
  · simp at h
theorem allSome_ok {α β : Type} {f : α → Option β} {R : β → α → Prop} (hf : ∀ a b, f a = some b → R b a) : ∀ {l : List α} {m : List β}, allSome f l = some m → All2 R m l
  | [], m, h => by simp [allSome] at h; subst h; trivial
  | a :: l, m, h => by
    unfold allSome at h
    cases ha : f a with
    | none => rw [ha] at h; simp at h
    | some b =>
      rw [ha] at h
      simp only at h
      cases hm : allSome f l with
      | none => rw [hm] at h; simp at h
      | some m' =>
        rw [hm] at h
        simp only [Option.some.injEq] at h
        subst h
        exact ⟨hf _ _ ha, allSome_ok hf hm⟩
theorem ofVal_ok {v : Value} {s : SV} (h : ofVal v = some s) : VR V ρ s v := by
  unfold ofVal at h
  split at h
  · rename_i cs
    cases hm : allSome ofCell cs.toList with
    | none => rw [hm] at h; simp at h
    | some m =>
      rw [hm] at h
      simp only [Option.map_some, Option.some.injEq] at h
      subst h
      exact ⟨cs, rfl, allSome_ok (fun _ _ => ofCell_ok) hm⟩
  · cases hc : ofCell v with
    | none => rw [hc] at h; simp at h
    | some c =>
      rw [hc] at h
      simp only [Option.map_some, Option.some.injEq] at h
      subst h
      exact ofCell_ok hc

theorem evalX_ok {get : Nat → Option SV} {a : Act} (ht : TR V ρ get a.tmps) {x : Operand} {v : SV} (h : evalX get x = some v) : VR V ρ v (a.eval x) := by
  cases x with
  | tmp t => exact ht t v h
  | const c => exact ofVal_ok h
  | global g => simp [evalX] at h
  | func f =>
    simp only [evalX, Option.some.injEq] at h
    subst h
    exact ⟨#[], rfl, trivial⟩
theorem cellsX_ok {get : Nat → Option SV} {a : Act} (ht : TR V ρ get a.tmps) {x : Operand} {cs : List C} (h : (evalX get x).bind SV.cells = some cs) : All2 (CR V ρ) cs (a.eval x).cells.toList := by
  cases hx : evalX get x with
  | none => rw [hx] at h; simp at h
  | some v =>
    rw [hx] at h
    exact (evalX_ok ht hx).cells h

/-! ### The shell of an operation -/
theorem wp_value {o : Oper} {a : Act} {w w' : World} {K : Act → World → Prop} {Q : Exit → Act → World → Prop} {rv : Value} (h : (execOp a.eval o).run P w = .ok (.value rv) w') (hk : K (a.put o.dst rv) w') : o.wp P a w K Q := by
  unfold Oper.wp
  rw [h]
  exact hk
theorem run_v {s : Sem Value} {w w' : World} {rv : Value} (h : s.run P w = .ok rv w') : (do pure (Next.value (← s)) : Sem Next).run P w = .ok (.value rv) w' := by simp [h]

/-- What an operation that only reckons gives. -/
def Val1 (P : Program) (V : Val) (ρ : Rho) (o : Oper) (a : Act) (w : World) (v : SV) : Prop := ∃ rv n, (execOp a.eval o).run P w = .ok (.value rv) (w.drewN n) ∧ VR V ρ v rv
theorem Val1.of {o : Oper} {a : Act} {w : World} {v : SV} {s : Sem Value} (he : execOp a.eval o = (do pure (Next.value (← s)))) (h : Reck P V ρ s w v) : Val1 P V ρ o a w v := by
  obtain ⟨rv, n, h1, h2⟩ := h
  exact ⟨rv, n, by rw [he]; exact run_v h1, h2⟩
theorem Val1.pure {o : Oper} {a : Act} {w : World} {v : SV} {rv : Value} (he : execOp a.eval o = Pure.pure (Next.value rv)) (h : VR V ρ v rv) : Val1 P V ρ o a w v :=
  ⟨rv, 0, by rw [he]; rfl, h⟩

theorem asNat_ok {x : Option SV} {n : Nat} (h : asNat x = some n) {v : Value} (hv : ∀ s, x = some s → VR V ρ s v) : ∃ k, v = .int k n := by
  unfold asNat at h
  split at h
  · rename_i k m
    split at h
    · rename_i j
      simp only [Option.some.injEq] at h
      subst h
      exact ⟨k, hv _ rfl⟩
    · simp at h
  · simp at h

theorem zeroP_ok {t : TypeId} {s : SV} (h : zeroP P t = some s) : ∃ i z, P.info? t = some i ∧ i.zero = some z ∧ VR V ρ s z ∧ ∀ w, (zeroValue t).run P w = .ok z w := by
  unfold zeroP at h
  cases hi : P.info? t with
  | none => rw [hi] at h; simp at h
  | some i =>
    rw [hi] at h
    simp only at h
    cases hz : i.zero with
    | none => rw [hz] at h; simp at h
    | some z =>
      rw [hz] at h
      exact ⟨i, z, rfl, hz, ofVal_ok h, fun w => by simp [zeroValue, typeInfo, hi, hz]⟩
theorem zeroC_ok {t : TypeId} {cs : List C} (h : (zeroP P t).bind SV.cells = some cs) : ∃ i z, P.info? t = some i ∧ i.zero = some z ∧ All2 (CR V ρ) cs z.cells.toList ∧ ∀ w, (zeroValue t).run P w = .ok z w := by
  cases hs : zeroP P t with
  | none => rw [hs] at h; simp at h
  | some s =>
    obtain ⟨i, z, h1, h2, h3, h4⟩ := zeroP_ok (V := V) (ρ := ρ) hs
    rw [hs] at h
    exact ⟨i, z, h1, h2, h3.cells h, h4⟩

theorem All2.of_get {l : List C} {m : List Value} (hl : l.length = m.length) (h : ∀ (i : Nat) (c : C), l[i]? = some c → ∃ v, m[i]? = some v ∧ CR V ρ c v) : All2 (CR V ρ) l m := by
  induction l generalizing m with
  | nil => cases m with
    | nil => trivial
    | cons _ _ => simp at hl
  | cons c l ih =>
    cases m with
    | nil => simp at hl
    | cons v m =>
      obtain ⟨u, h1, h2⟩ := h 0 c rfl
      simp only [List.getElem?_cons_zero, Option.some.injEq] at h1
      subst h1
      exact ⟨h2, ih (by simpa using hl) fun i c' hc => by simpa using h (i + 1) c' (by simpa using hc)⟩

/-! ### Parts laid into cells -/
theorem fold_set (vs : List Value) : ∀ (j off : Nat) (cs : Array Value), (vs.zipIdx j).foldl (fun (cs : Array Value) (x : Value × Nat) => cs.setIfInBounds (off + x.2) x.1) cs = ow cs (off + j) vs := by
  induction vs with
  | nil => intro j off cs; rfl
  | cons v vs ih =>
    intro j off cs
    simp only [List.zipIdx_cons, List.foldl_cons]
    rw [ih, ow, Nat.add_assoc]

theorem fill_ok {place : Nat → Option (Nat × Nat)} : ∀ {ps : List (Nat × List C)} {qs : List (Nat × Value)} {cells cells' : List C} {rc : Array Value},
    All2 (fun (p : Nat × List C) (q : Nat × Value) => p.1 = q.1 ∧ All2 (CR V ρ) p.2 q.2.cells.toList) ps qs → All2 (CR V ρ) cells rc.toList → fillC place cells ps = some cells' →
    ∃ rc', Instr.fill place rc qs = some rc' ∧ All2 (CR V ρ) cells' rc'.toList := by
  intro ps
  induction ps with
  | nil =>
    intro qs cells cells' rc hp hc h
    cases qs with
    | nil => simp only [fillC, Option.some.injEq] at h; subst h; exact ⟨rc, rfl, hc⟩
    | cons _ _ => exact hp.elim
  | cons p ps ih =>
    intro qs cells cells' rc hp hc h
    cases qs with
    | nil => exact hp.elim
    | cons q qs =>
      obtain ⟨⟨h1, h2⟩, h3⟩ := hp
      obtain ⟨pi, pc⟩ := p
      obtain ⟨qi, qv⟩ := q
      simp only at h1 h2
      subst h1
      unfold fillC at h
      unfold Instr.fill
      cases hpl : place pi with
      | none => rw [hpl] at h; simp at h
      | some os =>
        obtain ⟨off, size⟩ := os
        rw [hpl] at h
        simp only at h ⊢
        cases hb : (Nat.beq pc.length size && Nat.ble (off + size) cells.length) <;> rw [hb] at h
        · simp at h
        · simp only [cond_true] at h
          simp only [Bool.and_eq_true] at hb
          have e1 : pc.length = size := Nat.eq_of_beq_eq_true hb.1
          have e2 : off + size ≤ cells.length := Nat.le_of_ble_eq_true hb.2
          have l1 := h2.len
          have l2 := hc.len
          simp only [Array.length_toList] at l1 l2
          have hcond : ¬ (qv.cells.size ≠ size || decide (off + qv.cells.size > rc.size)) = true := by simp; omega
          rw [if_neg (by simpa using hcond)]
          refine ih h3 ?_ h
          have hf : (Array.foldl (fun (cs : Array Value) (x : Value × Nat) => cs.setIfInBounds (off + x.2) x.1) rc qv.cells.zipIdx) = ow rc off qv.cells.toList := by
            rw [← Array.foldl_toList, Array.toList_zipIdx]
            exact fold_set _ 0 off rc
          have hf' : (Array.foldl (fun (cs : Array Value) x => match x with | (c, j) => cs.setIfInBounds (off + j) c) rc qv.cells.zipIdx) = ow rc off qv.cells.toList := hf
          rw [hf']
          refine All2.of_get (by simp [ow_size]; omega) fun i c hi => ?_
          have hg : (ow rc off qv.cells.toList).toList[i]? = (ow rc off qv.cells.toList)[i]? := by simp
          rw [hg, ow_get _ _ _ _ (by simp; omega)]
          rw [List.append_assoc, List.getElem?_append] at hi
          simp only [List.length_take] at hi
          split at hi
          · rename_i hlt
            rw [List.getElem?_take, if_pos (by omega)] at hi
            rw [if_neg (by omega)]
            obtain ⟨u, u1, u2⟩ := hc.get hi
            exact ⟨u, by simpa using u1, u2⟩
          · rename_i hge
            rw [List.getElem?_append] at hi
            split at hi
            · rename_i hlt
              rw [if_pos (by simp; omega)]
              obtain ⟨u, u1, u2⟩ := h2.get hi
              exact ⟨u, by rw [show i - off = i - min off cells.length by omega]; exact u1, u2⟩
            · rename_i hge2
              rw [if_neg (by simp; omega)]
              rw [List.getElem?_drop] at hi
              obtain ⟨u, u1, u2⟩ := hc.get hi
              refine ⟨u, ?_, u2⟩
              rw [show i = off + size + (i - min off cells.length - pc.length) by omega]
              simpa using u1

theorem parts_ok {get : Nat → Option SV} {a : Act} (ht : TR V ρ get a.tmps) : ∀ {l : List (Nat × Operand)} {ps : List (Nat × List C)}, partsX get l = some ps →
    All2 (fun (p : Nat × List C) (q : Nat × Value) => p.1 = q.1 ∧ All2 (CR V ρ) p.2 q.2.cells.toList) ps (l.map fun (x : Nat × Operand) => (x.1, a.eval x.2))
  | [], ps, h => by simp [partsX] at h; subst h; trivial
  | (i, x) :: l, ps, h => by
    unfold partsX at h
    cases hc : (evalX get x).bind SV.cells with
    | none => rw [hc] at h; simp at h
    | some c =>
      rw [hc] at h
      simp only at h
      cases hm : partsX get l with
      | none => rw [hm] at h; simp at h
      | some m =>
        rw [hm] at h
        simp only [Option.some.injEq] at h
        subst h
        exact ⟨⟨rfl, cellsX_ok ht hc⟩, parts_ok ht hm⟩

theorem repeatC_get (z : List C) (hz : 0 < z.length) : ∀ (n i : Nat), (repeatC n z)[i]? = if i < n * z.length then z[i % z.length]? else none
  | 0, i => by simp [repeatC]
  | n + 1, i => by
    rw [repeatC, List.getElem?_append]
    split
    · rename_i h
      rw [if_pos (by rw [Nat.succ_mul]; omega), Nat.mod_eq_of_lt h]
    · rename_i h
      rw [repeatC_get z hz n]
      rw [Nat.succ_mul]
      by_cases h2 : i - z.length < n * z.length
      · rw [if_pos h2, if_pos (by omega)]
        rw [← Nat.mod_eq_sub_mod (by omega)]
      · rw [if_neg h2, if_neg (by omega)]
theorem repeatC_len (z : List C) : ∀ n, (repeatC n z).length = n * z.length
  | 0 => by simp [repeatC]
  | n + 1 => by rw [repeatC, List.length_append, repeatC_len z n, Nat.succ_mul]; omega
theorem repeat_ok {z : List C} {rz : Array Value} (h : All2 (CR V ρ) z rz.toList) (n : Nat) : All2 (CR V ρ) (repeatC n z) ((Array.range (n * z.length)).map (rz[· % rz.size]!)).toList := by
  have hl := h.len
  simp only [Array.length_toList] at hl
  by_cases hz : 0 < z.length
  · refine All2.of_get (by rw [repeatC_len]; simp) fun i c hi => ?_
    rw [repeatC_get z hz] at hi
    split at hi
    · rename_i hlt
      obtain ⟨u, u1, u2⟩ := h.get hi
      have hm : i % rz.size < rz.size := by rw [← hl]; exact Nat.mod_lt _ hz
      have hu : rz[i % rz.size]! = u := by
        rw [hl] at u1
        simp only [Array.getElem?_toList] at u1
        rw [Array.getElem!_eq_getD, Array.getD_eq_getD_getElem?, u1]; rfl
      refine ⟨u, ?_, u2⟩
      simp [hlt, hu]
    · cases hi
  · have : z.length = 0 := by omega
    have hz' : z = [] := List.eq_nil_of_length_eq_zero this
    subst hz'
    have e : repeatC n [] = [] := List.eq_nil_of_length_eq_zero (by rw [repeatC_len]; simp)
    rw [e]
    simp [All2]

theorem mapM_places {fs : Array Field} (hf : fs.all (fun f => (sizeP P f.type).isSome) = true) (w : World) :
    (fs.mapM fun f => do pure (f.offset, ← sizeOf f.type) : Sem (Array (Nat × Nat))).run P w = .ok (fs.map fun f => (f.offset, (sizeP P f.type).getD 0)) w := by
  have gen : ∀ (l : List Field), (∀ f ∈ l, (sizeP P f.type).isSome = true) → (l.mapM fun f => do pure (f.offset, ← sizeOf f.type) : Sem (List (Nat × Nat))).run P w = .ok (l.map fun f => (f.offset, (sizeP P f.type).getD 0)) w := by
    intro l
    induction l with
    | nil => intro _; simp
    | cons f l ih =>
      intro h
      obtain ⟨n, hn⟩ := Option.isSome_iff_exists.1 (h f (by simp))
      rw [List.mapM_cons]
      have hi := ih fun g hg => h g (by simp [hg])
      simp only [Sem.run_bind, run_sizeP hn, Result.andThen_ok, Sem.run_pure] at hi ⊢
      rw [hi]
      simp [hn]
  have h2 := gen fs.toList fun f hf' => by
    rw [Array.all_eq_true_iff_forall_mem] at hf
    exact hf f (by simpa using hf')
  rw [Array.mapM_eq_mapM_toList, Sem.run_map, h2]
  simp only [Result.andThen_ok, Result.ok.injEq, and_true]
  apply Array.ext'
  simp
end Go.Proofs.Ytbepaoliboooaaa.Ex
