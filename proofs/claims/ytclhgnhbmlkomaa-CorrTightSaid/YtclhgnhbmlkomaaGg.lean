/-
  The runner's operations beside Go's, one by one: what each yields.
  The runner's operations beside Go's: those that only reckon.
  The runner's operations beside Go's: loads, stores, new blocks, appends, calls.
  The runner's operations beside Go's: each of them.
-/
import Derived.Test.YtclhgnhbmlkomaaGf
import Derived.Laws.Slices
import Derived.Laws.MakeOwn
import Derived.Laws.AppendOwn
namespace Go.Proofs.Ytclhgnhbmlkomaa.Ex
open Go
variable {P : Program} {V : Val} {ρ : Rho}

def TR (V : Val) (ρ : Rho) (get : Nat → Option SV) (tmps : Array Value) : Prop := ∀ t v, get t = some v → VR V ρ v (tmps.getD t undef)

theorem ofCell_ok {v : Value} {c : C} (h : ofCell v = some c) : CR V ρ c v := by
  unfold ofCell at h
  split at h
  · simp only [Option.some.injEq] at h; subst h; rfl
  · simp only [Option.some.injEq] at h; subst h; rfl
  · rename_i x
    cases hb : Nat.blt x 18446744073709551616 <;> rw [hb] at h
    · simp at h
    · simp only [cond_true, Option.some.injEq] at h; subst h
      exact ⟨x, rfl, rfl, Nat.le_of_ble_eq_true hb⟩
  · simp only [Option.some.injEq] at h; subst h; rfl
  · simp only [Option.some.injEq] at h; subst h; rfl
  · simp only [Option.some.injEq] at h; subst h; rfl
  · rename_i f a b
    cases hb : (a.isEmpty && b.isEmpty) <;> rw [hb] at h
    · simp at h
    · simp only [cond_true, Option.some.injEq] at h; subst h
      simp only [Bool.and_eq_true, Array.isEmpty_iff] at hb
      obtain ⟨rfl, rfl⟩ := hb
      exact ⟨#[], rfl, trivial⟩
  · simp at h
theorem allSome_ok {α β : Type} {f : α → Option β} {R : β → α → Prop} (hf : ∀ a b, f a = some b → R b a) : ∀ {l : List α} {m : List β}, allSome f l = some m → All2 R m l
  | [], m, h => by simp [allSome] at h; subst h; trivial
  | a :: l, m, h => by
    unfold allSome at h
    cases ha : f a with
    | none => rw [ha] at h; simp at h
    | some b =>
      rw [ha] at h
      simp only at h
      cases hm : allSome f l with
      | none => rw [hm] at h; simp at h
      | some m' =>
        rw [hm] at h
        simp only [Option.some.injEq] at h
        subst h
        exact ⟨hf _ _ ha, allSome_ok hf hm⟩
theorem ofVal_ok {v : Value} {s : SV} (h : ofVal v = some s) : VR V ρ s v := by
  unfold ofVal at h
  split at h
  · rename_i cs
    cases hm : allSome ofCell cs.toList with
    | none => rw [hm] at h; simp at h
    | some m =>
      rw [hm] at h
      simp only [Option.map_some, Option.some.injEq] at h
      subst h
      exact ⟨cs, rfl, allSome_ok (fun _ _ => ofCell_ok) hm⟩
  · cases hc : ofCell v with
    | none => rw [hc] at h; simp at h
    | some c =>
      rw [hc] at h
      simp only [Option.map_some, Option.some.injEq] at h
      subst h
      exact ofCell_ok hc

theorem evalX_ok {get : Nat → Option SV} {a : Act} (ht : TR V ρ get a.tmps) {x : Operand} {v : SV} (h : evalX get x = some v) : VR V ρ v (a.eval x) := by
  cases x with
  | tmp t => exact ht t v h
  | const c => exact ofVal_ok h
  | global g => simp [evalX] at h
  | func f =>
    simp only [evalX, Option.some.injEq] at h
    subst h
    exact ⟨#[], rfl, trivial⟩
theorem cellsX_ok {get : Nat → Option SV} {a : Act} (ht : TR V ρ get a.tmps) {x : Operand} {cs : List C} (h : (evalX get x).bind SV.cells = some cs) : All2 (CR V ρ) cs (a.eval x).cells.toList := by
  cases hx : evalX get x with
  | none => rw [hx] at h; simp at h
  | some v =>
    rw [hx] at h
    exact (evalX_ok ht hx).cells h

/-! ### The shell of an operation -/
theorem wp_value {o : Oper} {a : Act} {w w' : World} {K : Act → World → Prop} {Q : Exit → Act → World → Prop} {rv : Value} (h : (execOp a.eval o).run P w = .ok (.value rv) w') (hk : K (a.put o.dst rv) w') : o.wp P a w K Q := by
  unfold Oper.wp
  rw [h]
  exact hk
theorem run_v {s : Sem Value} {w w' : World} {rv : Value} (h : s.run P w = .ok rv w') : (do pure (Next.value (← s)) : Sem Next).run P w = .ok (.value rv) w' := by simp [h]

/-- What an operation that only reckons gives. -/
def Val1 (P : Program) (V : Val) (ρ : Rho) (o : Oper) (a : Act) (w : World) (v : SV) : Prop := ∃ rv n, (execOp a.eval o).run P w = .ok (.value rv) (w.drewN n) ∧ VR V ρ v rv
theorem Val1.of {o : Oper} {a : Act} {w : World} {v : SV} {s : Sem Value} (he : execOp a.eval o = (do pure (Next.value (← s)))) (h : Reck P V ρ s w v) : Val1 P V ρ o a w v := by
  obtain ⟨rv, n, h1, h2⟩ := h
  exact ⟨rv, n, by rw [he]; exact run_v h1, h2⟩
theorem Val1.pure {o : Oper} {a : Act} {w : World} {v : SV} {rv : Value} (he : execOp a.eval o = Pure.pure (Next.value rv)) (h : VR V ρ v rv) : Val1 P V ρ o a w v :=
  ⟨rv, 0, by rw [he]; rfl, h⟩

theorem asNat_ok {x : Option SV} {n : Nat} (h : asNat x = some n) {v : Value} (hv : ∀ s, x = some s → VR V ρ s v) : ∃ k, v = .int k n := by
  unfold asNat at h
  split at h
  · rename_i k m
    split at h
    · rename_i j
      simp only [Option.some.injEq] at h
      subst h
      exact ⟨k, hv _ rfl⟩
    · simp at h
  · simp at h

theorem zeroP_ok {t : TypeId} {s : SV} (h : zeroP P t = some s) : ∃ i z, P.info? t = some i ∧ i.zero = some z ∧ VR V ρ s z ∧ ∀ w, (zeroValue t).run P w = .ok z w := by
  unfold zeroP at h
  cases hi : P.info? t with
  | none => rw [hi] at h; simp at h
  | some i =>
    rw [hi] at h
    simp only at h
    cases hz : i.zero with
    | none => rw [hz] at h; simp at h
    | some z =>
      rw [hz] at h
      exact ⟨i, z, rfl, hz, ofVal_ok h, fun w => by simp [zeroValue, typeInfo, hi, hz]⟩
theorem zeroC_ok {t : TypeId} {cs : List C} (h : (zeroP P t).bind SV.cells = some cs) : ∃ i z, P.info? t = some i ∧ i.zero = some z ∧ All2 (CR V ρ) cs z.cells.toList ∧ ∀ w, (zeroValue t).run P w = .ok z w := by
  cases hs : zeroP P t with
  | none => rw [hs] at h; simp at h
  | some s =>
    obtain ⟨i, z, h1, h2, h3, h4⟩ := zeroP_ok (V := V) (ρ := ρ) hs
    rw [hs] at h
    exact ⟨i, z, h1, h2, h3.cells h, h4⟩

theorem All2.of_get {l : List C} {m : List Value} (hl : l.length = m.length) (h : ∀ (i : Nat) (c : C), l[i]? = some c → ∃ v, m[i]? = some v ∧ CR V ρ c v) : All2 (CR V ρ) l m := by
  induction l generalizing m with
  | nil => cases m with
    | nil => trivial
    | cons _ _ => simp at hl
  | cons c l ih =>
    cases m with
    | nil => simp at hl
    | cons v m =>
      obtain ⟨u, h1, h2⟩ := h 0 c rfl
      simp only [List.getElem?_cons_zero, Option.some.injEq] at h1
      subst h1
      exact ⟨h2, ih (by simpa using hl) fun i c' hc => by simpa using h (i + 1) c' (by simpa using hc)⟩

/-! ### Parts laid into cells -/
theorem fold_set (vs : List Value) : ∀ (j off : Nat) (cs : Array Value), (vs.zipIdx j).foldl (fun (cs : Array Value) (x : Value × Nat) => cs.setIfInBounds (off + x.2) x.1) cs = ow cs (off + j) vs := by
  induction vs with
  | nil => intro j off cs; rfl
  | cons v vs ih =>
    intro j off cs
    simp only [List.zipIdx_cons, List.foldl_cons]
    rw [ih, ow, Nat.add_assoc]

theorem fill_ok {place : Nat → Option (Nat × Nat)} : ∀ {ps : List (Nat × List C)} {qs : List (Nat × Value)} {cells cells' : List C} {rc : Array Value},
    All2 (fun (p : Nat × List C) (q : Nat × Value) => p.1 = q.1 ∧ All2 (CR V ρ) p.2 q.2.cells.toList) ps qs → All2 (CR V ρ) cells rc.toList → fillC place cells ps = some cells' →
    ∃ rc', Instr.fill place rc qs = some rc' ∧ All2 (CR V ρ) cells' rc'.toList := by
  intro ps
  induction ps with
  | nil =>
    intro qs cells cells' rc hp hc h
    cases qs with
    | nil => simp only [fillC, Option.some.injEq] at h; subst h; exact ⟨rc, rfl, hc⟩
    | cons _ _ => exact hp.elim
  | cons p ps ih =>
    intro qs cells cells' rc hp hc h
    cases qs with
    | nil => exact hp.elim
    | cons q qs =>
      obtain ⟨⟨h1, h2⟩, h3⟩ := hp
      obtain ⟨pi, pc⟩ := p
      obtain ⟨qi, qv⟩ := q
      simp only at h1 h2
      subst h1
      unfold fillC at h
      unfold Instr.fill
      cases hpl : place pi with
      | none => rw [hpl] at h; simp at h
      | some os =>
        obtain ⟨off, size⟩ := os
        rw [hpl] at h
        simp only at h ⊢
        cases hb : (Nat.beq pc.length size && Nat.ble (off + size) cells.length) <;> rw [hb] at h
        · simp at h
        · simp only [cond_true] at h
          simp only [Bool.and_eq_true] at hb
          have e1 : pc.length = size := Nat.eq_of_beq_eq_true hb.1
          have e2 : off + size ≤ cells.length := Nat.le_of_ble_eq_true hb.2
          have l1 := h2.len
          have l2 := hc.len
          simp only [Array.length_toList] at l1 l2
          have hcond : ¬ (qv.cells.size ≠ size || decide (off + qv.cells.size > rc.size)) = true := by simp; omega
          rw [if_neg (by simpa using hcond)]
          refine ih h3 ?_ h
          have hf : (Array.foldl (fun (cs : Array Value) (x : Value × Nat) => cs.setIfInBounds (off + x.2) x.1) rc qv.cells.zipIdx) = ow rc off qv.cells.toList := by
            rw [← Array.foldl_toList, Array.toList_zipIdx]
            exact fold_set _ 0 off rc
          have hf' : (Array.foldl (fun (cs : Array Value) x => match x with | (c, j) => cs.setIfInBounds (off + j) c) rc qv.cells.zipIdx) = ow rc off qv.cells.toList := hf
          rw [hf']
          refine All2.of_get (by simp [ow_size]; omega) fun i c hi => ?_
          have hg : (ow rc off qv.cells.toList).toList[i]? = (ow rc off qv.cells.toList)[i]? := by simp
          rw [hg, ow_get _ _ _ _ (by simp; omega)]
          rw [List.append_assoc, List.getElem?_append] at hi
          simp only [List.length_take] at hi
          split at hi
          · rename_i hlt
            rw [List.getElem?_take, if_pos (by omega)] at hi
            rw [if_neg (by omega)]
            obtain ⟨u, u1, u2⟩ := hc.get hi
            exact ⟨u, by simpa using u1, u2⟩
          · rename_i hge
            rw [List.getElem?_append] at hi
            split at hi
            · rename_i hlt
              rw [if_pos (by simp; omega)]
              obtain ⟨u, u1, u2⟩ := h2.get hi
              exact ⟨u, by rw [show i - off = i - min off cells.length by omega]; exact u1, u2⟩
            · rename_i hge2
              rw [if_neg (by simp; omega)]
              rw [List.getElem?_drop] at hi
              obtain ⟨u, u1, u2⟩ := hc.get hi
              refine ⟨u, ?_, u2⟩
              rw [show i = off + size + (i - min off cells.length - pc.length) by omega]
              simpa using u1

theorem parts_ok {get : Nat → Option SV} {a : Act} (ht : TR V ρ get a.tmps) : ∀ {l : List (Nat × Operand)} {ps : List (Nat × List C)}, partsX get l = some ps →
    All2 (fun (p : Nat × List C) (q : Nat × Value) => p.1 = q.1 ∧ All2 (CR V ρ) p.2 q.2.cells.toList) ps (l.map fun (x : Nat × Operand) => (x.1, a.eval x.2))
  | [], ps, h => by simp [partsX] at h; subst h; trivial
  | (i, x) :: l, ps, h => by
    unfold partsX at h
    cases hc : (evalX get x).bind SV.cells with
    | none => rw [hc] at h; simp at h
    | some c =>
      rw [hc] at h
      simp only at h
      cases hm : partsX get l with
      | none => rw [hm] at h; simp at h
      | some m =>
        rw [hm] at h
        simp only [Option.some.injEq] at h
        subst h
        exact ⟨⟨rfl, cellsX_ok ht hc⟩, parts_ok ht hm⟩

theorem repeatC_get (z : List C) (hz : 0 < z.length) : ∀ (n i : Nat), (repeatC n z)[i]? = if i < n * z.length then z[i % z.length]? else none
  | 0, i => by simp [repeatC]
  | n + 1, i => by
    rw [repeatC, List.getElem?_append]
    split
    · rename_i h
      rw [if_pos (by rw [Nat.succ_mul]; omega), Nat.mod_eq_of_lt h]
    · rename_i h
      rw [repeatC_get z hz n]
      rw [Nat.succ_mul]
      by_cases h2 : i - z.length < n * z.length
      · rw [if_pos h2, if_pos (by omega)]
        rw [← Nat.mod_eq_sub_mod (by omega)]
      · rw [if_neg h2, if_neg (by omega)]
theorem repeatC_len (z : List C) : ∀ n, (repeatC n z).length = n * z.length
  | 0 => by simp [repeatC]
  | n + 1 => by rw [repeatC, List.length_append, repeatC_len z n, Nat.succ_mul]; omega
theorem repeat_ok {z : List C} {rz : Array Value} (h : All2 (CR V ρ) z rz.toList) (n : Nat) : All2 (CR V ρ) (repeatC n z) ((Array.range (n * z.length)).map (rz[· % rz.size]!)).toList := by
  have hl := h.len
  simp only [Array.length_toList] at hl
  by_cases hz : 0 < z.length
  · refine All2.of_get (by rw [repeatC_len]; simp) fun i c hi => ?_
    rw [repeatC_get z hz] at hi
    split at hi
    · rename_i hlt
      obtain ⟨u, u1, u2⟩ := h.get hi
      have hm : i % rz.size < rz.size := by rw [← hl]; exact Nat.mod_lt _ hz
      have hu : rz[i % rz.size]! = u := by
        rw [hl] at u1
        simp only [Array.getElem?_toList] at u1
        rw [Array.getElem!_eq_getD, Array.getD_eq_getD_getElem?, u1]; rfl
      refine ⟨u, ?_, u2⟩
      simp [hlt, hu]
    · cases hi
  · have : z.length = 0 := by omega
    have hz' : z = [] := List.eq_nil_of_length_eq_zero this
    subst hz'
    have e : repeatC n [] = [] := List.eq_nil_of_length_eq_zero (by rw [repeatC_len]; simp)
    rw [e]
    simp [All2]

theorem mapM_places {fs : Array Field} (hf : fs.all (fun f => (sizeP P f.type).isSome) = true) (w : World) :
    (fs.mapM fun f => do pure (f.offset, ← sizeOf f.type) : Sem (Array (Nat × Nat))).run P w = .ok (fs.map fun f => (f.offset, (sizeP P f.type).getD 0)) w := by
  have gen : ∀ (l : List Field), (∀ f ∈ l, (sizeP P f.type).isSome = true) → (l.mapM fun f => do pure (f.offset, ← sizeOf f.type) : Sem (List (Nat × Nat))).run P w = .ok (l.map fun f => (f.offset, (sizeP P f.type).getD 0)) w := by
    intro l
    induction l with
    | nil => intro _; simp
    | cons f l ih =>
      intro h
      obtain ⟨n, hn⟩ := Option.isSome_iff_exists.1 (h f (by simp))
      rw [List.mapM_cons]
      have hi := ih fun g hg => h g (by simp [hg])
      simp only [Sem.run_bind, run_sizeP hn, Result.andThen_ok, Sem.run_pure] at hi ⊢
      rw [hi]
      simp [hn]
  have h2 := gen fs.toList fun f hf' => by
    rw [Array.all_eq_true_iff_forall_mem] at hf
    exact hf f (by simpa using hf')
  rw [Array.mapM_eq_mapM_toList, Sem.run_map, h2]
  simp only [Result.andThen_ok, Result.ok.injEq, and_true]
  apply Array.ext'
  simp
end Go.Proofs.Ytclhgnhbmlkomaa.Ex

namespace Go.Proofs.Ytclhgnhbmlkomaa.Ex
open Go
variable {P : Program} {V : Val} {ρ : Rho}

theorem toSV1_ok {v : SV1} {x : Value} (h : V1R V ρ v x) : VR V ρ (toSV1 v) x := by cases v <;> exact h

theorem capsOf_ok : ∀ {l : List SV} {cs : List (Nat × Nat)} {vs : List Value}, capsOf l = some cs → All2 (VR V ρ) l vs →
    All2 (fun (c : Nat × Nat) w => ∃ r, ρ c.1 = some r ∧ w = Value.pointer (some ⟨r.1, r.2.1 + c.2, none⟩)) cs vs
  | [], cs, vs, h, hv => by
    simp only [capsOf, Option.some.injEq] at h; subst h
    cases vs with
    | nil => trivial
    | cons _ _ => exact hv.elim
  | s :: l, cs, vs, h, hv => by
    cases vs with
    | nil => exact hv.elim
    | cons v vs =>
      unfold capsOf at h
      split at h
      · cases h; contradiction
      · rename_i b o l' heq
        simp only [List.cons.injEq] at heq
        obtain ⟨rfl, rfl⟩ := heq
        cases hc : capsOf l with
        | none => rw [hc] at h; simp at h
        | some m =>
          rw [hc] at h
          simp only [Option.map_some, Option.some.injEq] at h
          subst h
          obtain ⟨q, h1, h2⟩ := hv.1
          exact ⟨⟨q, h1, h2⟩, capsOf_ok hc hv.2⟩
      · simp at h

theorem allEval_ok {get : Nat → Option SV} {a : Act} (ht : TR V ρ get a.tmps) {l : List Operand} {m : List SV} (h : allSome (evalX get) l = some m) : All2 (VR V ρ) m (l.map a.eval) := by
  have := allSome_ok (f := evalX get) (R := fun s x => VR V ρ s (a.eval x)) (fun x s hx => evalX_ok ht hx) h
  clear h
  induction m generalizing l with
  | nil => cases l <;> first | trivial | exact this.elim
  | cons s m ih =>
    cases l with
    | nil => exact this.elim
    | cons x l => exact ⟨this.1, ih this.2⟩

theorem addr_add (b o n : Nat) : (⟨b, o, none⟩ : Addr).add n = ⟨b, o + n, none⟩ := Addr.add_mid b o n

theorem run_field_place {b o : Nat} {f : Field} {n : Nat} (hs : sizeP P f.type = some n) (hn : n ≠ 0) (w : World) : (fieldPlace ⟨b, o, none⟩ f).run P w = .ok ⟨b, o + f.offset, none⟩ w := by
  unfold fieldPlace
  simp [run_sizeP hs, hn, addr_add]

theorem slice_known {t e : TypeId} (hu : P.underlying t = some (.slice e)) {s : Nat} (hs : sizeP P e = some s) (b o len cap : Nat) {lo hi mx : Option Value} {l h m : Nat}
    (hm : (mx = none ∧ m = cap) ∨ ∃ k, mx = some (.int k m)) (hh : (hi = none ∧ h = len) ∨ ∃ k, hi = some (.int k h)) (hl : (lo = none ∧ l = 0) ∨ ∃ k, lo = some (.int k l)) (h1 : m ≤ cap) (h2 : h ≤ m) (h3 : l ≤ h) (hmx : mx = none ∨ hi ≠ none) (w : World) :
    (Instr.sliceAt t (.slice (some ⟨b, o, none⟩) len cap) lo hi mx).run P w = .ok (.slice (some ⟨b, if m = l then o else o + l * s, none⟩) (h - l) (m - l)) w := by
  have hb : ∀ (k : IntKind) (i y : Nat) (c : BoundsCode), i ≤ y → (Instr.sliceBound (.int k i) y c).run P w = .ok i w := fun k i y c hi => by
    simp [Instr.sliceBound, asIntOf, hi]
  have hsb : (Instr.sliceBounds true len cap lo hi mx).run P w = .ok (l, h, m) w := by
    unfold Instr.sliceBounds
    rcases hm with ⟨rfl, rfl⟩ | ⟨k1, rfl⟩ <;> rcases hh with ⟨rfl, rfl⟩ | ⟨k2, rfl⟩ <;> rcases hl with ⟨rfl, rfl⟩ | ⟨k3, rfl⟩ <;> simp [hb _ _ _ _ h1, hb _ _ _ _ h2, hb _ _ _ _ h3] at hmx ⊢
  have e : (Instr.sliceAt t (.slice (some ⟨b, o, none⟩) len cap) lo hi mx).run P w = (Instr.slice t (.slice (some ⟨b, o, none⟩) len cap) lo hi mx).run P w := by
    simp [Instr.sliceAt, run_underlying hu]
  rw [e]
  simp only [Instr.slice, Sem.run_bind, run_underlying hu, hsb, run_sizeP hs, Result.andThen_ok, Sem.run_pure]
  congr 2
  split <;> simp [addr_add]

theorem opt_ok {get : Nat → Option SV} {a : Act} (ht : TR V ρ get a.tmps) {x : Option Operand} {d n : Nat} (h : (match x with | some m => asNat (evalX get m) | none => some d) = some n) : (x.map a.eval = none ∧ n = d) ∨ ∃ k, x.map a.eval = some (.int k n) := by
  cases x with
  | none => simp only [Option.some.injEq] at h; exact .inl ⟨rfl, h.symm⟩
  | some y =>
    obtain ⟨k, e⟩ := asNat_ok h fun s hs => evalX_ok ht hs
    exact .inr ⟨k, by simp [e]⟩

theorem exec_builtin {o : Oper} {c : Call} {b : Builtin} (ho : o.op = .call c) (hb : c.callee = .builtin b) (f : Operand → Value) :
    execOp f o = builtin b c.argTypes o.type (c.args.map fun | .const _ => true | _ => false) (c.args.map f) := by
  unfold execOp
  rw [ho]
  simp only [resolve, hb]
  rfl

theorem args_at {get : Nat → Option SV} {c : Call} {xs : List (Option SV)} (h : c.args.toList.map (evalX get) = xs) {i : Nat} {x : Option SV} (hx : xs[i]? = some x) {f : Operand → Value} : ∃ y, evalX get y = x ∧ (c.args.map f)[i]? = some (f y) := by
  subst h
  rw [List.getElem?_map] at hx
  cases hy : c.args.toList[i]? with
  | none => rw [hy] at hx; simp at hx
  | some y =>
    rw [hy] at hx
    simp only [Option.map_some, Option.some.injEq] at hx
    have : c.args[i]? = some y := by simpa using hy
    exact ⟨y, hx, by simp [this]⟩

theorem trimLo_ok {g : Gam} (hg : GamOK V g) {ie : E} : ∀ (k lo : Nat), (lo : Int) ≤ evI V ie → (trimLo g ie k lo : Int) ≤ evI V ie
  | 0, lo, h => h
  | k + 1, lo, h => by
    unfold trimLo
    split
    · rename_i ht
      have h1 := truthE_ok hg ht
      rw [icR_ok] at h1
      have := (lss_false _ _).1 h1
      exact trimLo_ok hg k (lo + 1) this
    · exact h
theorem trimHi_ok {g : Gam} (hg : GamOK V g) {ie : E} : ∀ (n : Nat), evI V ie < (n : Int) → evI V ie < (trimHi g ie n : Int)
  | 0, h => h
  | n + 1, h => by
    unfold trimHi
    split
    · rename_i ht
      have h1 := truthE_ok hg ht
      rw [icR_ok] at h1
      exact trimHi_ok hg n ((lss_true _ _).1 h1)
    · exact h
theorem idxY_ok {g : Gam} (hg : GamOK V g) {e : TypeId} {b o len : Nat} {ix : Option SV} {c : C} (h : idxY P g e b o len ix = .ok c) : ∃ ie s i o' n' e' i', ix = some (.c (.ei .i64 ie)) ∧ sizeP P e = some s ∧ c = .px b o' s n' e' ∧ evI V ie = ((i : Nat) : Int) ∧ i < len ∧ i' < n' ∧ evI V e' = ((i' : Nat) : Int) ∧ o' + s * i' = o + s * i := by
  unfold idxY at h
  split at h
  · rename_i ie s hs
    obtain ⟨t0, h1, h2⟩ := bind_ok h
    cases t0
    · simp only [cond_false] at h2
      obtain ⟨t1, h3, h4⟩ := bind_ok h2
      have a1 := (lss_false _ _).1 (show icV .lss (evI V ie) (evI V (.li 0)) = false by rw [← icR_ok]; exact truthE_ok hg h1)
      have a1 : (0 : Int) ≤ evI V ie := a1
      cases t1
      · cases h4
      · cases hl : Nat.ble len 1000000 <;> rw [hl] at h4
        · cases h4
        · simp only [Bool.and_self, cond_true, forceN_eq, Res.ok.injEq] at h4
          have hl := Nat.le_of_ble_eq_true hl
          have a2 := (lss_true _ _).1 (show icV .lss (evI V ie) (evI V (.li len)) = true by rw [← icR_ok]; exact truthE_ok hg h3)
          have a2 : evI V ie < (len : Int) := a2
          have l1 := trimLo_ok hg len 0 (ie := ie) (by simpa using a1)
          have l2 := trimHi_ok hg len (ie := ie) a2
          generalize trimLo g ie len 0 = lo at *
          generalize trimHi g ie len = hi at *
          refine ⟨ie, s, (evI V ie).toNat, _, _, _, (evI V ie).toNat - lo, rfl, hs, h4.symm, by omega, by omega, by omega, ?_, ?_⟩
          · cases hz : Nat.beq lo 0
            · show ibV .sub .i64 (evI V ie) lo = _
              simp only [ibV, wrapF]
              rw [decide_eq_true (by omega : -9223372036854775808 ≤ evI V ie - (lo : Int)), decide_eq_true (by omega : evI V ie - (lo : Int) < 9223372036854775808)]
              simp only [Bool.and_self, cond_true]
              omega
            · have := Nat.eq_of_beq_eq_true hz
              subst this
              show evI V ie = _
              omega
          · rw [Nat.add_assoc, ← Nat.mul_add]
            congr 2
            omega
    · cases h2
  · cases h
theorem pinS_ok {ρ : Rho} {g : Gam} (hg : GamOK V g) {x : Option SV} {s : SV} {v : Value} (h : pinS g x = some s) (hv : ∀ s, x = some s → VR V ρ s v) : VR V ρ s v := by
  unfold pinS at h
  split at h
  · rename_i e
    have h0 := hv _ rfl
    split at h
    · rename_i t0
      have b0 := truthE_ok hg t0
      rw [icR_ok, lss_false] at b0
      rw [forceN_eq] at h
      split at h
      · rename_i t1
        have b1 := truthE_ok hg t1
        rw [icR_ok, lss_true] at b1
        simp only [Option.some.injEq] at h
        subst h
        have hlo := trimLo_ok hg 40 0 (ie := e) b0
        have e1 : evI V (.li ((trimLo g e 40 0 + 1 : Nat) : Int)) = ((trimLo g e 40 0 : Nat) : Int) + 1 := rfl
        rw [e1] at b1
        have he : evI V e = ((trimLo g e 40 0 : Nat) : Int) := by omega
        have : v = .int .i64 (evI V e) := h0
        rw [this, he]; rfl
      · simp only [Option.some.injEq] at h
        subst h; exact h0
    · simp only [Option.some.injEq] at h
      subst h; exact h0
  · exact hv _ h
theorem pinNeed_no {g : Gam} {n : Nat} {x : Option SV} {p : Plan} (h : pinNeed g n x = .ok p) : False := by
  unfold pinNeed at h
  split at h
  · split at h <;> cases h
  · cases h
theorem simI_ok {g : Gam} (hg : GamOK V g) : ∀ (e : E), evI V (simI g e) = evI V e := by
  intro e
  induction e with
  | ti c a b _ iha ihb =>
    unfold simI
    show _ = bif evB V c then evI V a else evI V b
    split
    · rename_i h; rw [truthE_ok hg h, iha]; rfl
    · rename_i h; rw [truthE_ok hg h, ihb]; rfl
    · rfl
  | _ => rfl
theorem idxX_ok {g : Gam} (hg : GamOK V g) {e : TypeId} {b o len : Nat} {ix : Option SV} {c : C} (h : idxX P g e b o len ix = .ok c) : ∃ ie s i o' n' e' i', ix = some (.c (.ei .i64 ie)) ∧ sizeP P e = some s ∧ c = .px b o' s n' e' ∧ evI V ie = ((i : Nat) : Int) ∧ i < len ∧ i' < n' ∧ evI V e' = ((i' : Nat) : Int) ∧ o' + s * i' = o + s * i := by
  obtain ⟨ie, s, i, o', n', e', i', h1, h2, h3, h4, h5⟩ := idxY_ok hg h
  unfold simV at h1
  split at h1
  · simp only [Option.some.injEq, SV.c.injEq, C.ei.injEq] at h1
    obtain ⟨rfl, rfl⟩ := h1
    exact ⟨_, s, i, o', n', e', i', rfl, h2, h3, by rw [← simI_ok hg]; exact h4, h5⟩
  · exact ⟨ie, s, i, o', n', e', i', h1, h2, h3, h4, h5⟩
theorem len_ok {get : Nat → Option SV} {a : Act} (ht : TR V ρ get a.tmps) {c : Call} {v : SV} (h : planBuiltin P .len c.argTypes (c.args.toList.map (evalX get)) = .ok (.val v)) (ty : TypeId) (w : World) :
    ∃ rv, (Builtin.len_ c.argTypes ty (c.args.map a.eval)).run P w = .ok rv w ∧ VR V ρ v rv := by
  unfold planBuiltin at h
  simp only at h
  split at h
  · rename_i t x xs h0 hxs
    obtain ⟨y, hy, hay⟩ := args_at (f := a.eval) hxs (i := 0) rfl
    split at h <;> rename_i hu <;> (try (cases h; done)) <;> simp only [Res.ok.injEq, Plan.val.injEq] at h <;> subst h
    · obtain ⟨q, n, hq, he, -, -⟩ := evalX_ok ht hy
      refine ⟨_, ?_, rfl⟩
      simp [Builtin.len_, h0, hay, run_underlying hu, he, goInt]
    · have he := evalX_ok ht hy
      simp only [VR, CR] at he
      refine ⟨_, ?_, rfl⟩
      simp [Builtin.len_, h0, hay, run_underlying hu, he, goInt]
    · obtain ⟨o, n, he⟩ := evalX_ok ht hy
      refine ⟨_, ?_, rfl⟩
      simp [Builtin.len_, h0, hay, run_underlying hu, he, goInt]
    · rcases evalX_ok ht hy with ⟨q, n, hq, hj, he, -⟩ | ⟨hz, o, n, he⟩
      · refine ⟨_, ?_, rfl⟩
        simp [Builtin.len_, h0, hay, run_underlying hu, he, goInt, evI]
      · refine ⟨_, ?_, rfl⟩
        simp [Builtin.len_, h0, hay, run_underlying hu, he, goInt, evI, hz]
    · rcases evalX_ok ht hy with ⟨q, n, hq, hj, he, -⟩ | ⟨hz, o, n, he⟩
      · refine ⟨_, ?_, rfl⟩
        simp [Builtin.len_, h0, hay, run_underlying hu, he, goInt, evI]
      · refine ⟨_, ?_, rfl⟩
        simp [Builtin.len_, h0, hay, run_underlying hu, he, goInt, evI, hz]
    · refine ⟨_, ?_, rfl⟩
      simp [Builtin.len_, h0, hay, run_underlying hu, goInt]
  · cases h

theorem mmE_ok (mx : Bool) (x y : E) : evI V (mmE mx x y) = bif mx then (if evI V y > evI V x then evI V y else evI V x) else (if evI V y < evI V x then evI V y else evI V x) := by
  have h1 := icR_ok (V := V) (op := .lss) x y
  have h2 := icR_ok (V := V) (op := .lss) y x
  unfold mmE
  have fin : ∀ (c : E) (b : Bool), evB V c = b → evI V (match c with | .lb t => bif t then y else x | c => .ti c y x) = bif b then evI V y else evI V x := fun c b h => by
    split
    · rename_i t
      have : t = b := h
      subst this
      cases t <;> rfl
    · show (bif evB V c then _ else _) = _
      rw [h]
  cases mx
  · simp only [cond_false]
    refine (fin _ _ h2).trans ?_
    simp only [icV]
    by_cases h : evI V y < evI V x <;> simp [h]
  · simp only [cond_true]
    refine (fin _ _ h1).trans ?_
    simp only [icV]
    by_cases h : evI V x < evI V y <;> simp [h]
def mm2 (mx : Bool) : Value → Value → Sem Value := bif mx then Builtin.max2 else Builtin.min2
theorem mm2_int (mx : Bool) (x y : Int) (w : World) : (mm2 mx (.int .i64 x) (.int .i64 y)).run P w = .ok (.int .i64 (bif mx then (if y > x then y else x) else (if y < x then y else x))) w := by
  cases mx <;> rfl
theorem mmI_ok {get : Nat → Option SV} {a : Act} (ht : TR V ρ get a.tmps) (mx : Bool) (w : World) : ∀ (l : List Operand) (acc e : E), mmI mx acc (l.map (evalX get)) = some e → ((l.map a.eval).foldlM (mm2 mx) (.int .i64 (evI V acc))).run P w = .ok (.int .i64 (evI V e)) w
  | [], acc, e, h => by
    simp only [List.map_nil, mmI, Option.some.injEq] at h
    subst h
    rfl
  | x :: l, acc, e, h => by
    simp only [List.map_cons] at h
    cases hx : evalX get x with
    | none => rw [hx] at h; cases h
    | some s =>
      rw [hx] at h
      cases s with
      | ag _ => cases h
      | tu _ => cases h
      | c c' =>
        cases hc : c'.toI with
        | none => simp only [mmI, hc] at h; cases h
        | some q =>
          obtain ⟨k, e'⟩ := q
          cases k <;> simp only [mmI, hc] at h <;> (try (cases h; done))
          have hv : a.eval x = .int .i64 (evI V e') := toI_ok hc (evalX_ok ht hx)
          have ih := mmI_ok ht mx w l _ e h
          rw [List.map_cons, List.foldlM_cons, hv]
          have h2 := mm2_int (P := P) mx (evI V acc) (evI V e') w
          rw [← mmE_ok] at h2
          rw [Sem.run_bind, h2]
          exact ih
theorem mm_ok {get : Nat → Option SV} {a : Act} (ht : TR V ρ get a.tmps) (mx : Bool) {l : List Operand} {c : C} (h : mmC mx (l.map (evalX get)) = some c) (w : World) :
    ∃ rv x r, l.map a.eval = x :: r ∧ (r.foldlM (mm2 mx) x).run P w = .ok rv w ∧ CR V ρ c rv := by
  cases l with
  | nil => cases h
  | cons x l =>
    simp only [List.map_cons] at h
    cases hx : evalX get x with
    | none => rw [hx] at h; cases h
    | some s =>
      rw [hx] at h
      cases s with
      | ag _ => cases h
      | tu _ => cases h
      | c c' =>
        cases hc : c'.toI with
        | none => simp only [mmC, hc] at h; cases h
        | some q =>
          obtain ⟨k, e'⟩ := q
          cases k <;> simp only [mmC, hc] at h <;> (try (cases h; done))
          have hv : a.eval x = .int .i64 (evI V e') := toI_ok hc (evalX_ok ht hx)
          cases hm : mmI mx e' (l.map (evalX get)) with
          | none => rw [hm] at h; cases h
          | some e =>
            rw [hm] at h
            simp only [Option.map_some, Option.some.injEq] at h
            subst h
            refine ⟨.int .i64 (evI V e), _, _, List.map_cons, ?_, ?_⟩
            · rw [hv]
              exact mmI_ok ht mx w l e' e hm
            · unfold ofI
              split <;> rfl
/-- What only reckons. -/
theorem val_ok {g : Gam} (hg : GamOK V g) {get : Nat → Option SV} {a : Act} (ht : TR V ρ get a.tmps) {o : Oper} {v : SV} (h : planOf P g get o.op = .ok (.val v)) (w : World) : Val1 P V ρ o a w v := by
  unfold planOf at h
  split at h <;> rename_i ho <;> (try (simp only [reduceCtorEq] at h; done))
  case h_1 x =>
    obtain ⟨u, h1, h2⟩ := bind_ok h
    simp only [Res.ok.injEq, Plan.val.injEq] at h2; subst h2
    exact .pure (rv := a.eval x) (by unfold execOp; rw [ho]) (evalX_ok ht (orBad_ok h1))
  case h_2 x =>
    obtain ⟨u, h1, h2⟩ := bind_ok h
    simp only [Res.ok.injEq, Plan.val.injEq] at h2; subst h2
    exact .pure (rv := a.eval x) (by unfold execOp; rw [ho]) (evalX_ok ht (orBad_ok h1))
  case h_3 c x y =>
    obtain ⟨u, h1, h2⟩ := bind_ok h
    obtain ⟨t, h3, h4⟩ := bind_ok h2
    obtain ⟨z, h5, h6⟩ := bind_ok h4
    simp only [Res.ok.injEq, Plan.val.injEq] at h6; subst h6
    have hc := truth_ok hg h3 (evalX_ok ht (orBad_ok h1))
    have hv := evalX_ok ht (orBad_ok h5)
    refine ⟨a.eval (bif t then x else y), 0, ?_, hv⟩
    unfold execOp; rw [ho]
    simp only [hc, asBool]
    cases t <;> rfl
  case h_4 t =>
    obtain ⟨u, h1, h2⟩ := bind_ok h
    cases h2
  case h_5 t x =>
    obtain ⟨u, h1, h2⟩ := bind_ok h
    cases h2
  case h_6 t parts =>
    split at h
    · rename_i fs z ps hu hz hp
      obtain ⟨cs, h1, h2⟩ := bind_ok h
      cases hf : fs.all (fun (f : Field) => (sizeP P f.type).isSome) <;> rw [hf] at h2
      · simp at h2
      · simp only [cond_true, Res.ok.injEq, Plan.val.injEq] at h2; subst h2
        obtain ⟨i, zv, hi, hzv, hzc, hzr⟩ := zeroC_ok (V := V) (ρ := ρ) hz
        have hfill := fill_ok (V := V) (ρ := ρ) (parts_ok ht hp) hzc (orBad_ok h1)
        obtain ⟨rc, hr1, hr2⟩ := hfill
        refine Val1.of (s := Instr.build t (parts.map fun (i, x) => (i, a.eval x))) (by unfold execOp; rw [ho]) (Reck.mk (rv := .agg rc) ?_ ⟨rc, rfl, hr2⟩)
        have hpl : ∀ {F : Nat → Option (Nat × Nat)} {L : List (Nat × Value)}, Instr.fill F zv.cells L = some rc → (∀ i (f : Field), fs[i]? = some f → F i = (sizeP P f.type).map (f.offset, ·)) → (∀ i, fs[i]? = none → F i = none) →
            Instr.fill (fun i => (fs.map fun (f : Field) => (f.offset, (sizeP P f.type).getD 0))[i]?) zv.cells L = some rc := by
          intro F L hF k1 k2
          rw [← hF]
          congr 1
          funext i
          rw [Array.getElem?_map]
          cases hfi : fs[i]? with
          | none => rw [k2 i hfi]; rfl
          | some f =>
            have hm : f ∈ fs := Array.mem_of_getElem? hfi
            rw [Array.all_eq_true_iff_forall_mem] at hf
            obtain ⟨n, hn⟩ := Option.isSome_iff_exists.1 (hf f hm)
            rw [k1 i f hfi]
            simp [hn]
        have hr3 := hpl hr1 (fun i f e => by simp only [e]) (fun i e => by simp only [e])
        have hl : (parts.map fun (x : Nat × Operand) => (x.1, a.eval x.2)).toList = parts.toList.map fun (x : Nat × Operand) => (x.1, a.eval x.2) := by simp
        have hl' : (parts.map fun (x : Nat × Operand) => match x with | (i, x) => (i, a.eval x)).toList = parts.toList.map fun (x : Nat × Operand) => (x.1, a.eval x.2) := hl
        simp only [Instr.build, Sem.run_bind, hzr, run_underlying hu, mapM_places hf, Result.andThen_ok]
        rw [hl', hr3]
        rfl
    · rename_i len e z ps hu hz hp
      split at h
      · rename_i sz hs
        obtain ⟨cs, h1, h2⟩ := bind_ok h
        simp only [Res.ok.injEq, Plan.val.injEq] at h2; subst h2
        obtain ⟨i, zv, hi, hzv, hzc, hzr⟩ := zeroC_ok (V := V) (ρ := ρ) hz
        obtain ⟨rc, hr1, hr2⟩ := fill_ok (V := V) (ρ := ρ) (parts_ok ht hp) hzc (orBad_ok h1)
        refine Val1.of (s := Instr.build t (parts.map fun (i, x) => (i, a.eval x))) (by unfold execOp; rw [ho]) (Reck.mk (rv := .agg rc) ?_ ⟨rc, rfl, hr2⟩)
        have hl' : (parts.map fun (x : Nat × Operand) => match x with | (i, x) => (i, a.eval x)).toList = parts.toList.map fun (x : Nat × Operand) => (x.1, a.eval x.2) := by
          rw [Array.toList_map]
        simp only [Instr.build, Sem.run_bind, hzr, run_underlying hu, run_sizeP hs, Result.andThen_ok]
        rw [hl', hr1]
        rfl
      · simp at h
    · simp at h
  case h_7 t len parts =>
    split at h
    · split at h
      · rename_i hb
        cases hc : (Nat.beq _ _ && Nat.ble _ _) <;> rw [hc] at h
        · simp at h
        · obtain ⟨u, h1, h2⟩ := bind_ok h
          cases h2
      · simp at h
    · simp at h
  case h_8 t x =>
    split at h <;> cases h
  case h_9 t x y =>
    split at h
    · rename_i n b o' cs _ _ _
      cases hc : Nat.beq cs.length n <;> rw [hc] at h <;> cases h
    · cases h
  case h_10 x =>
    split at h <;> rename_i hx <;> (try (cases h; done)) <;> simp only [Res.ok.injEq, Plan.val.injEq] at h <;> subst h
    · have hv := evalX_ok ht hx
      obtain ⟨q, hq, he⟩ := hv
      exact .pure (rv := a.eval x) (by unfold execOp; rw [ho]; simp only [he]) (evalX_ok ht hx)
    · have hv := evalX_ok ht hx
      obtain ⟨q, he, hq⟩ := hv
      exact .pure (rv := a.eval x) (by unfold execOp; rw [ho]; simp only [he]) (evalX_ok ht hx)
    · have hv := evalX_ok ht hx
      obtain ⟨q, hq, he⟩ := hv
      exact .pure (rv := a.eval x) (by unfold execOp; rw [ho]; simp only [he]) (evalX_ok ht hx)
    · have hv := evalX_ok ht hx
      obtain ⟨q, k, hq, hk, hke, he⟩ := hv
      exact .pure (rv := a.eval x) (by unfold execOp; rw [ho]; simp only [he]) (evalX_ok ht hx)
  case h_11 op t x y yt =>
    split at h
    · rename_i sx sy hx hy
      obtain ⟨u, h1, h2⟩ := bind_ok h
      simp only [Res.ok.injEq, Plan.val.injEq] at h2; subst h2
      exact .of (by unfold execOp; rw [ho]) (binV_ok hg h1 (evalX_ok ht hx) (evalX_ok ht hy) w x y)
    · cases h
  case h_12 op t x =>
    obtain ⟨u, h1, h2⟩ := bind_ok h
    obtain ⟨u2, h3, h4⟩ := bind_ok h2
    simp only [Res.ok.injEq, Plan.val.injEq] at h4; subst h4
    exact .of (by unfold execOp; rw [ho]) (unV_ok h3 (evalX_ok ht (orBad_ok h1)) w)
  case h_13 s d x =>
    obtain ⟨u, h1, h2⟩ := bind_ok h
    obtain ⟨u2, h3, h4⟩ := bind_ok h2
    simp only [Res.ok.injEq, Plan.val.injEq] at h4; subst h4
    exact .of (by unfold execOp; rw [ho]) (convV_ok hg h3 (evalX_ok ht (orBad_ok h1)) w)
  case h_14 f first caps =>
    cases hc : first.isEmpty <;> rw [hc] at h
    · simp only [cond_false] at h
      split at h
      · rename_i x hfl hce
        split at h
        · rename_i b off hx
          simp only [Res.ok.injEq, Plan.val.injEq] at h; subst h
          have h0 : caps = #[] := Array.isEmpty_iff.1 hce
          subst h0
          have h1 : first = #[x] := Array.ext' hfl
          subst h1
          obtain ⟨q, hq, he⟩ := evalX_ok ht hx
          exact .of (s := Instr.makeFunc (.func f) (#[x].map a.eval) (#[].map a.eval)) (by unfold execOp; rw [ho]) (Reck.mk (rv := .func (.func f) #[.pointer (some ⟨q.1, q.2.1 + off, none⟩)] #[]) (by simp [Instr.makeFunc, he]) ⟨q, hq, rfl⟩)
        · cases h
      · cases h
    · simp only [cond_true] at h
      split at h
      · rename_i l hl
        obtain ⟨u, h1, h2⟩ := bind_ok h
        simp only [Res.ok.injEq, Plan.val.injEq] at h2; subst h2
        have h0 : first = #[] := Array.isEmpty_iff.1 hc
        subst h0
        refine .of (s := Instr.makeFunc (.func f) (#[].map a.eval) (caps.map a.eval)) (by unfold execOp; rw [ho]) (Reck.mk (rv := .func (.func f) #[] (caps.map a.eval)) (by simp [Instr.makeFunc]) ⟨_, rfl, ?_⟩)
        rw [Array.toList_map]
        exact capsOf_ok (orBad_ok h1) (allEval_ok ht hl)
      · cases h
  case h_15 t l c =>
    split at h
    · split at h
      · rename_i i _ _ _ _ _
        cases hc : (Nat.beq _ _ && Nat.ble _ _ && Nat.ble _ 1000000 && Nat.ble i.bytes 100000) <;> rw [hc] at h <;> cases h
      · exact (pinNeed_no h).elim
    · cases h
  case h_16 t x lo hi mx =>
    split at h
    · rename_i e b o' len cap hu hx
      split at h
      · rename_i s m hh l hs hm hhi hlo
        cases hc : (Nat.ble m cap && Nat.ble hh m && Nat.ble l hh && (mx.isNone || hi.isSome)) <;> rw [hc] at h
        · cases h
        · simp only [cond_true, Res.ok.injEq, Plan.val.injEq] at h; subst h
          simp only [Bool.and_eq_true, Bool.or_eq_true] at hc
          obtain ⟨⟨⟨c1, c2⟩, c3⟩, c4⟩ := hc
          have c1 := Nat.le_of_ble_eq_true c1
          have c2 := Nat.le_of_ble_eq_true c2
          have c3 := Nat.le_of_ble_eq_true c3
          obtain ⟨q, n, hq, he, hn1, hn2⟩ := evalX_ok ht hx
          simp only at hn2
          subst hn2
          have hmx : mx.map a.eval = none ∨ hi.map a.eval ≠ none := by
            rcases c4 with c4 | c4
            · left; cases mx <;> simp at c4 ⊢
            · right; cases hi <;> simp at c4 ⊢
          have hr := slice_known (P := P) hu hs q.1 (q.2.1 + o') len n (opt_ok ht hm) (opt_ok ht hhi) (opt_ok ht hlo) c1 c2 c3 hmx w
          refine .of (s := Instr.sliceAt t (a.eval x) (lo.map a.eval) (hi.map a.eval) (mx.map a.eval)) (by unfold execOp; rw [ho]) (Reck.mk (by rw [he]; exact hr) ⟨q, m - l, hq, ?_, by omega, rfl⟩)
          congr 3
          by_cases hml : m = l
          · rw [if_pos hml, hml]
            have : Nat.beq l l = true := by simp
            rw [this]; rfl
          · rw [if_neg hml]
            have : Nat.beq m l = false := Bool.eq_false_iff.2 fun hh => hml (Nat.eq_of_beq_eq_true hh)
            rw [this]; simp only [cond_false]; omega
      · cases h
    · rename_i e b o' len sz hu hx
      split at h
      · rename_i s hh l hs hhi hlo
        cases hc : (Nat.ble hh len && Nat.blt l hh && Nat.beq s sz) <;> rw [hc] at h
        · cases h
        · simp only [cond_true, Res.ok.injEq, Plan.val.injEq] at h; subst h
          simp only [Bool.and_eq_true] at hc
          obtain ⟨⟨c1, c2⟩, c3⟩ := hc
          have c1 := Nat.le_of_ble_eq_true c1
          have c2 : l < hh := Nat.le_of_ble_eq_true c2
          have c3 := Nat.eq_of_beq_eq_true c3
          subst c3
          obtain ⟨q, n, hq, he, hn1, hn2⟩ := evalX_ok ht hx
          simp only at hn2
          have hr := slice_known (P := P) hu hs q.1 (q.2.1 + o') len n (mx := none) (.inl ⟨rfl, rfl⟩) (opt_ok ht hhi) (opt_ok ht hlo) (Nat.le_refl _) (by omega) (by omega) (.inl rfl) w
          refine .of (s := Instr.sliceAt t (a.eval x) (lo.map a.eval) (hi.map a.eval) none) (by unfold execOp; rw [ho]; rfl) (Reck.mk (by rw [he]; exact hr) ⟨q, n - l, hq, ?_, by omega, ?_⟩)
          · congr 3
            rw [if_neg (by omega)]; omega
          · have : (n - l) * s + l * s = n * s := by rw [← Nat.add_mul]; congr 1; omega
            omega
      · cases h
    · cases h
  case h_17 s x f =>
    split at h
    · rename_i fs b o' hu hx
      split at h
      · rename_i fd hfd
        split at h
        · rename_i n hn
          cases hc : Nat.beq n 0 <;> rw [hc] at h
          · simp only [cond_false, Res.ok.injEq, Plan.val.injEq] at h; subst h
            obtain ⟨q, hq, he⟩ := evalX_ok ht hx
            have hn0 : n ≠ 0 := fun e => by subst e; simp at hc
            refine .of (s := Instr.fieldAt s (a.eval x) f) (by unfold execOp; rw [ho]) (Reck.mk (rv := .pointer (some ⟨q.1, q.2.1 + o' + fd.offset, none⟩)) ?_ ⟨q, hq, by rw [Nat.add_assoc]⟩)
            rw [he]
            simp [Instr.fieldAt, run_underlying hu, hfd, Instr.sureAddr, run_field_place hn hn0]
          · cases h
        · cases h
      · cases h
    · rename_i fs b o' s' k e hu hx
      split at h
      · rename_i fd hfd
        split at h
        · rename_i n hn
          cases hc : Nat.beq n 0 <;> rw [hc] at h
          · simp only [cond_false, Res.ok.injEq, Plan.val.injEq] at h; subst h
            obtain ⟨q, i, hq, hi, hie, he⟩ := evalX_ok ht hx
            have hn0 : n ≠ 0 := fun e => by subst e; simp at hc
            refine .of (s := Instr.fieldAt s (a.eval x) f) (by unfold execOp; rw [ho]) (Reck.mk (rv := .pointer (some ⟨q.1, q.2.1 + (o' + s' * i) + fd.offset, none⟩)) ?_ ⟨q, i, hq, hi, hie, by rw [show q.2.1 + (o' + s' * i) + fd.offset = q.2.1 + (o' + fd.offset + s' * i) by omega]⟩)
            rw [he]
            simp [Instr.fieldAt, run_underlying hu, hfd, Instr.sureAddr, run_field_place hn hn0]
          · cases h
        · cases h
      · cases h
    · cases h
  case h_18 t x f =>
    split at h
    · rename_i fs cs hu hx
      split at h
      · rename_i fd hfd
        obtain ⟨u, h1, h2⟩ := bind_ok h
        simp only [Res.ok.injEq, Plan.val.injEq] at h2; subst h2
        obtain ⟨vs, he, hv⟩ := evalX_ok ht hx
        obtain ⟨rv, hr1, hr2⟩ := part_ok (orBad_ok h1) hv w
        refine .of (s := Instr.field t (a.eval x) f) (by unfold execOp; rw [ho]) (Reck.mk (rv := rv) ?_ hr2)
        rw [he]
        simp [Instr.field, run_underlying hu, hfd, asAgg, hr1]
      · cases h
    · cases h
  case h_19 t x ix =>
    split at h
    · rename_i e b o' len cap i hu hx hi
      split at h
      · rename_i s hs
        cases hc : Nat.blt i len <;> rw [hc] at h
        · cases h
        · simp only [cond_true, Res.ok.injEq, Plan.val.injEq] at h; subst h
          have hlt : i < len := Nat.le_of_ble_eq_true hc
          obtain ⟨q, n, hq, he, -, -⟩ := evalX_ok ht hx
          obtain ⟨k, hik⟩ := asNat_ok hi fun s hs => evalX_ok ht hs
          refine .of (s := Instr.indexAt t (a.eval x) (a.eval ix)) (by unfold execOp; rw [ho]) (Reck.mk (rv := .pointer (some ⟨q.1, q.2.1 + o' + i * s, none⟩)) ?_ ⟨q, hq, by rw [Nat.add_assoc]⟩)
          rw [he, hik]
          simp [Instr.indexAt, run_underlying hu, asIntOf, hlt, run_sizeP hs, addr_add]
      · cases h
    · rename_i len e b o' i hu hx hi
      split at h
      · rename_i s hs
        cases hc : Nat.blt i len <;> rw [hc] at h
        · cases h
        · simp only [cond_true, Res.ok.injEq, Plan.val.injEq] at h; subst h
          have hlt : i < len := Nat.le_of_ble_eq_true hc
          obtain ⟨q, hq, he⟩ := evalX_ok ht hx
          obtain ⟨k, hik⟩ := asNat_ok hi fun s hs => evalX_ok ht hs
          refine .of (s := Instr.indexAt t (a.eval x) (a.eval ix)) (by unfold execOp; rw [ho]) (Reck.mk (rv := .pointer (some ⟨q.1, q.2.1 + o' + i * s, none⟩)) ?_ ⟨q, hq, by rw [Nat.add_assoc]⟩)
          rw [he, hik]
          simp [Instr.indexAt, Instr.sureAddr, run_underlying hu, asIntOf, hlt, run_sizeP hs, addr_add]
      · cases h
    · rename_i e j b i hu hx hi
      split at h
      · rename_i s hs
        cases hs1 : Nat.beq s 1 <;> rw [hs1] at h
        · cases h
        · simp only [cond_true] at h
          have hs1 := Nat.eq_of_beq_eq_true hs1
          subst hs1
          obtain ⟨t', h1, h2⟩ := bind_ok h
          cases t'
          · cases h2
          · simp only [cond_true, Res.ok.injEq, Plan.val.injEq] at h2; subst h2
            have hlt := truthE_ok hg h1
            have hlt : i < (V.arr j).size := by
              have := (lss_true _ _).1 (show icV .lss (i : Int) (Int.ofNat (V.arr j).size) = true from hlt)
              simpa using this
            obtain ⟨q, cp, hq, hj, he, hall⟩ := (evalX_ok ht hx).resolve_right fun h0 => by omega
            obtain ⟨k, hik⟩ := asNat_ok hi fun s hs => evalX_ok ht hs
            obtain ⟨n, hn⟩ := hall i _ (Array.getElem?_eq_getElem hlt)
            refine .of (s := Instr.indexAt t (a.eval x) (a.eval ix)) (by unfold execOp; rw [ho]) (Reck.mk (rv := .pointer (some ⟨q.1, q.2.1 + i, none⟩)) ?_ ⟨q, n, hq, hj, rfl, by rw [Array.getElem?_eq_getElem hlt, hn]⟩)
            rw [he, hik]
            simp [Instr.indexAt, Instr.sureAddr, run_underlying hu, asIntOf, hlt, run_sizeP hs, addr_add]
      · cases h
    · rename_i e j b i hu hx hi
      split at h
      · rename_i s hs
        cases hs1 : Nat.beq s 1 <;> rw [hs1] at h
        · cases h
        · simp only [cond_true] at h
          have hs1 := Nat.eq_of_beq_eq_true hs1
          subst hs1
          obtain ⟨t', h1, h2⟩ := bind_ok h
          cases t'
          · cases h2
          · simp only [cond_true, Res.ok.injEq, Plan.val.injEq] at h2; subst h2
            have hlt := truthE_ok hg h1
            have hlt : i < (V.arr j).size := by
              have := (lss_true _ _).1 (show icV .lss (i : Int) (Int.ofNat (V.arr j).size) = true from hlt)
              simpa using this
            obtain ⟨q, cp, hq, hj, he, hall⟩ := (evalX_ok ht hx).resolve_right fun h0 => by omega
            obtain ⟨k, hik⟩ := asNat_ok hi fun s hs => evalX_ok ht hs
            obtain ⟨n, hn, hnl⟩ := hall i _ (Array.getElem?_eq_getElem hlt)
            refine .of (s := Instr.indexAt t (a.eval x) (a.eval ix)) (by unfold execOp; rw [ho]) (Reck.mk (rv := .pointer (some ⟨q.1, q.2.1 + i, none⟩)) ?_ ⟨q, n, hq, hj, rfl, by rw [Array.getElem?_eq_getElem hlt, hn], hnl⟩)
            rw [he, hik]
            simp [Instr.indexAt, Instr.sureAddr, run_underlying hu, asIntOf, hlt, run_sizeP hs, addr_add]
      · cases h
    · rename_i e b o' len cap hu hx hi
      obtain ⟨c, h1, h2⟩ := bind_ok h
      simp only [Res.ok.injEq, Plan.val.injEq] at h2; subst h2
      obtain ⟨ie, s, i, o2, n2, e2, i2, hix, hs, rfl, hie, hlt, hlt2, hie2, hadd⟩ := idxX_ok hg h1
      obtain ⟨q, n, hq, he, -, -⟩ := evalX_ok ht hx
      have hiv : a.eval ix = .int .i64 (evI V ie) := evalX_ok ht hix
      refine .of (s := Instr.indexAt t (a.eval x) (a.eval ix)) (by unfold execOp; rw [ho]) (Reck.mk (rv := .pointer (some ⟨q.1, q.2.1 + o' + i * s, none⟩)) ?_ ⟨q, i2, hq, hlt2, hie2, by rw [hadd, show q.2.1 + o' + i * s = q.2.1 + (o' + s * i) by rw [Nat.mul_comm s i]; omega]⟩)
      rw [he, hiv, hie]
      simp [Instr.indexAt, Instr.sureAddr, run_underlying hu, asIntOf, hlt, run_sizeP hs, addr_add]
    · rename_i len e b o' hu hx hi
      obtain ⟨c, h1, h2⟩ := bind_ok h
      simp only [Res.ok.injEq, Plan.val.injEq] at h2; subst h2
      obtain ⟨ie, s, i, o2, n2, e2, i2, hix, hs, rfl, hie, hlt, hlt2, hie2, hadd⟩ := idxX_ok hg h1
      obtain ⟨q, hq, he⟩ := evalX_ok ht hx
      have hiv : a.eval ix = .int .i64 (evI V ie) := evalX_ok ht hix
      refine .of (s := Instr.indexAt t (a.eval x) (a.eval ix)) (by unfold execOp; rw [ho]) (Reck.mk (rv := .pointer (some ⟨q.1, q.2.1 + o' + i * s, none⟩)) ?_ ⟨q, i2, hq, hlt2, hie2, by rw [hadd, show q.2.1 + o' + i * s = q.2.1 + (o' + s * i) by rw [Nat.mul_comm s i]; omega]⟩)
      rw [he, hiv, hie]
      simp [Instr.indexAt, Instr.sureAddr, run_underlying hu, asIntOf, hlt, run_sizeP hs, addr_add]
    · cases h
  case h_20 t x ix =>
    split at h
    · rename_i len e cs i hu hx hi
      split at h
      · rename_i s hs
        cases hc : Nat.blt i len <;> rw [hc] at h
        · cases h
        · simp only [cond_true] at h
          obtain ⟨u, h1, h2⟩ := bind_ok h
          simp only [Res.ok.injEq, Plan.val.injEq] at h2; subst h2
          have hlt : i < len := Nat.le_of_ble_eq_true hc
          obtain ⟨vs, he, hv⟩ := evalX_ok ht hx
          obtain ⟨k, hik⟩ := asNat_ok hi fun s hs => evalX_ok ht hs
          obtain ⟨rv, hr1, hr2⟩ := part_ok (orBad_ok h1) hv w
          refine .of (s := Instr.index t (a.eval x) (a.eval ix)) (by unfold execOp; rw [ho]) (Reck.mk (rv := rv) ?_ hr2)
          rw [he, hik]
          simp [Instr.index, run_underlying hu, asIntOf, hlt, run_sizeP hs, hr1]
      · cases h
    · cases h
  case h_21 t i =>
    split at h
    · rename_i l hx
      obtain ⟨u, h1, h2⟩ := bind_ok h
      simp only [Res.ok.injEq, Plan.val.injEq] at h2; subst h2
      obtain ⟨vs, he, hv⟩ := evalX_ok ht hx
      obtain ⟨rv, hr1, hr2⟩ := hv.get (orBad_ok h1)
      have hr1' : vs[i]? = some rv := by simpa using hr1
      refine .of (s := Instr.extract (a.eval t) i) (by unfold execOp; rw [ho]) (Reck.mk (rv := rv) ?_ (toSV1_ok hr2))
      rw [he]
      simp [Instr.extract, hr1']
    · cases h
  case h_22 c =>
    split at h
    · split at h <;> cases h
    · rename_i b hb
      have hbl : b = .len ∨ (∃ mx c', (b = bif mx then .max else .min) ∧ mmC mx (c.args.toList.map (evalX get)) = some c' ∧ v = .c c') := by
        unfold planBuiltin at h
        split at h
        · exact .inl rfl
        · split at h
          · rename_i t t2 x y _ _ _
            cases hc : (Nat.beq t t2 && Nat.beq c.argTypes.size 2) <;> rw [hc] at h
            · cases h
            · simp only [cond_true] at h
              split at h
              · split at h
                · rename_i i _ _ z _ _ _ _
                  cases hc2 : (Nat.ble i.bytes 100000 && Nat.beq z.length i.size) <;> rw [hc2] at h <;> cases h
                · cases h
              · cases h
          · cases h
        · split at h
          · split at h
            · split at h <;> cases h
            · cases h
          · cases h
        · split at h
          · rename_i c' hc'
            simp only [Res.ok.injEq, Plan.val.injEq] at h
            exact .inr ⟨false, c', rfl, hc', h.symm⟩
          · cases h
        · split at h
          · rename_i c' hc'
            simp only [Res.ok.injEq, Plan.val.injEq] at h
            exact .inr ⟨true, c', rfl, hc', h.symm⟩
          · cases h
        · cases h
      rcases hbl with hbl | ⟨mx, c', hbm, hc', rfl⟩
      case inr =>
        obtain ⟨rv, x, r, hx, h1, h2⟩ := mm_ok (P := P) ht mx hc' w
        refine ⟨rv, 0, ?_, h2⟩
        rw [exec_builtin ho hb]
        subst hbm
        cases mx
        · have h3 : (Builtin.min_ c.argTypes o.type (c.args.map a.eval)).run P w = .ok rv w := by
            unfold Builtin.min_
            rw [Array.toList_map, hx]
            exact h1
          show (do pure (Next.value (← Builtin.min_ c.argTypes o.type (c.args.map a.eval))) : Sem Next).run P w = _
          exact run_v h3
        · have h3 : (Builtin.max_ c.argTypes o.type (c.args.map a.eval)).run P w = .ok rv w := by
            unfold Builtin.max_
            rw [Array.toList_map, hx]
            exact h1
          show (do pure (Next.value (← Builtin.max_ c.argTypes o.type (c.args.map a.eval))) : Sem Next).run P w = _
          exact run_v h3
      subst hbl
      obtain ⟨rv, h1, h2⟩ := len_ok ht h o.type w
      refine ⟨rv, 0, ?_, h2⟩
      rw [exec_builtin ho hb]
      show (do pure (Next.value (← Builtin.len_ c.argTypes o.type (c.args.map a.eval))) : Sem Next).run P w = _
      exact run_v h1
    · cases h
end Go.Proofs.Ytclhgnhbmlkomaa.Ex

namespace Go.Proofs.Ytclhgnhbmlkomaa.Ex
open Go
variable {P : Program} {V : Val} {ρ : Rho}

/-- What a call is good for. -/
def CallOK (P : Program) (V : Val) (call : Callee) : Prop := ∀ f args hp nx v hp' nx', call f args hp nx = .ok (v, hp', nx') →
  (∃ fn, P.funcs[f]? = some fn ∧ fn.body.isSome = true ∧ (fn.name == "runtime.NumGoroutine") = false) ∧ nx ≤ nx' ∧
  ∀ (ρ : Rho) (vs : Array Value) (w : World), All2 (VR V ρ) args vs.toList → HR V ρ hp.get w → (∀ b, nx ≤ b → b < nx' → ρ b = none) →
    Calls P f vs w fun e w' => ∃ rv ρ', e = .returned rv ∧ Step V ρ hp.get nx w v hp'.get nx' ρ' w' rv

theorem run_newObj (o : Obj) (w : World) : (newObj o).run P w = .ok w.heap.size (w.alloc o) := rfl
theorem run_newRow' (e : TypeId) (cs : Array Value) (w : World) : (newRow e cs).run P w = .ok ⟨w.heap.size, 0, none⟩ (w.alloc (.cells cs e)) := by
  simp [newRow]

theorem put_same {nx : Nat} {q : Nat × Nat × Nat × Option Nat} : put ρ nx q nx = some q := by unfold put; rw [if_pos rfl]

theorem new_wp {o : Oper} {a : Act} {w : World} {K : Act → World → Prop} {Q : Exit → Act → World → Prop} {hg : HG} (hh : HR V ρ hg w) {nx : Nat} (hf : ρ nx = none) {cs : List C} {as : Option (Nat × Nat)} {vs : Array Value} {e : TypeId}
    (hv : All2 (CR V ρ) cs vs.toList) (hcap : ∀ l c, as = some (l, c) → l ≤ c)
    (hr : (execOp a.eval o).run P w = .ok (.value (match as with | none => .pointer (some ⟨w.heap.size, 0, none⟩) | some (l, c) => .slice (some ⟨w.heap.size, 0, none⟩) l c)) (w.alloc (.cells vs e)))
    (hk : ∀ ρ' w' rv, Step V ρ hg nx w (.c (match as with | none => .p nx 0 | some (l, c) => .sl nx 0 l (.n c))) (upd hg { v := .c (match as with | none => .p nx 0 | some (l, c) => .sl nx 0 l (.n c)), wb := [(nx, some cs)], nx := nx + 1 }) (nx + 1) ρ' w' rv → K (a.put o.dst rv) w') : o.wp P a w K Q := by
  refine wp_value hr (hk _ _ _ (Step.new_ hh hf (vs := vs) (fun i c hi => ?_) (by rw [hv.len]; simp) e ?_ []))
  · obtain ⟨u, h1, h2⟩ := hv.get hi
    exact ⟨u, by simpa using h1, h2⟩
  · cases as with
    | none => exact ⟨_, put_same, rfl⟩
    | some x =>
      obtain ⟨l, c⟩ := x
      exact ⟨_, c, put_same, rfl, hcap l c rfl, rfl⟩

theorem reachGo_seen {hg : HG} : ∀ (n : Nat) (todo seen r : List Nat), reachGo hg n todo seen = some r → (∀ x ∈ seen, x ∈ r) ∧ ∀ x ∈ todo, x ∈ r := by
  intro n
  induction n with
  | zero =>
    intro todo seen r h
    cases todo with
    | nil => simp only [reachGo, Option.some.injEq] at h; subst h; exact ⟨fun _ h => h, fun _ h => by cases h⟩
    | cons b l => simp [reachGo] at h
  | succ n ih =>
    intro todo seen r h
    cases todo with
    | nil => simp only [reachGo, Option.some.injEq] at h; subst h; exact ⟨fun _ h => h, fun _ h => by cases h⟩
    | cons b l =>
      unfold reachGo at h
      split at h
      · rename_i hb
        obtain ⟨h1, h2⟩ := ih _ _ _ h
        refine ⟨h1, fun x hx => ?_⟩
        rcases List.mem_cons.1 hx with rfl | hx
        · exact h1 _ hb
        · exact h2 _ hx
      · split at h
        · obtain ⟨h1, h2⟩ := ih _ _ _ h
          refine ⟨fun x hx => h1 _ (by simp [hx]), fun x hx => ?_⟩
          rcases List.mem_cons.1 hx with rfl | hx
          · exact h1 _ (by simp)
          · exact h2 _ hx
        · obtain ⟨h1, h2⟩ := ih _ _ _ h
          refine ⟨fun x hx => h1 _ (by simp [hx]), fun x hx => ?_⟩
          rcases List.mem_cons.1 hx with rfl | hx
          · exact h1 _ (by simp)
          · exact h2 _ (by simp [hx])
theorem reach_seeds {hg : HG} {l r : List Nat} (h : reach hg l = some r) : ∀ x ∈ l, x ∈ r := (reachGo_seen _ _ _ _ h).2

theorem T.get_set_ne {α : Type} : ∀ (f : Nat) (t : T α) (n m : Nat) (x : Option α), m ≠ n → (T.set f t n x).get m = t.get m := by
  intro f
  induction f with
  | zero => intro t n m x _; rfl
  | succ f ih =>
    intro t n m x h
    have hn : ∀ k, T.get (.nil : T α) k = none := fun k => rfl
    have key : ∀ (v : Option α) (l r : T α), (bif Nat.beq n 0 then T.node x l r else bif Nat.beq (n % 2) 1 then .node v (T.set f l (n / 2) x) r else .node v l (T.set f r (n / 2 - 1) x)).get m = (T.node v l r).get m := by
      intro v l r
      cases h0 : Nat.beq n 0
      · cases h1 : Nat.beq (n % 2) 1
        · simp only [cond_false, T.get]
          cases m0 : Nat.beq m 0
          · cases m1 : Nat.beq (m % 2) 1
            · simp only [cond_false]
              refine ih _ _ _ _ ?_
              have e0 : n ≠ 0 := fun e => by subst e; simp at h0
              have e1 : ¬ n % 2 = 1 := fun e => by rw [e] at h1; simp at h1
              have e2 : m ≠ 0 := fun e => by subst e; simp at m0
              have e3 : ¬ m % 2 = 1 := fun e => by rw [e] at m1; simp at m1
              omega
            · rfl
          · rfl
        · simp only [cond_false, cond_true, T.get]
          cases m0 : Nat.beq m 0
          · cases m1 : Nat.beq (m % 2) 1
            · rfl
            · simp only [cond_false, cond_true]
              refine ih _ _ _ _ ?_
              have e1 : n % 2 = 1 := Nat.eq_of_beq_eq_true h1
              have e3 : m % 2 = 1 := Nat.eq_of_beq_eq_true m1
              omega
          · rfl
      · simp only [cond_true, T.get]
        have e0 : n = 0 := Nat.eq_of_beq_eq_true h0
        have : Nat.beq m 0 = false := Bool.eq_false_iff.2 fun hh => h (by rw [e0]; exact Nat.eq_of_beq_eq_true hh)
        rw [this]; rfl
    cases t with
    | nil =>
      have := key none .nil .nil
      have e : (T.node (none : Option α) .nil .nil).get m = none := by
        simp only [T.get]
        cases Nat.beq m 0 <;> cases Nat.beq (m % 2) 1 <;> rfl
      rw [e] at this
      exact this
    | node v l r => exact key v l r
theorem T.get_set {α : Type} : ∀ (f : Nat) (t : T α) (n : Nat) (x : Option α), n + 1 < 2 ^ f → (T.set f t n x).get n = x := by
  intro f
  induction f with
  | zero => intro t n x h; simp at h
  | succ f ih =>
    intro t n x h
    rw [Nat.pow_succ] at h
    have key : ∀ (v : Option α) (l r : T α), (bif Nat.beq n 0 then T.node x l r else bif Nat.beq (n % 2) 1 then .node v (T.set f l (n / 2) x) r else .node v l (T.set f r (n / 2 - 1) x)).get n = x := by
      intro v l r
      cases h0 : Nat.beq n 0
      · have e0 : n ≠ 0 := fun e => by subst e; simp at h0
        cases h1 : Nat.beq (n % 2) 1
        · have e1 : ¬ n % 2 = 1 := fun e => by rw [e] at h1; simp at h1
          simp only [cond_false, T.get, h0, h1]
          exact ih _ _ _ (by omega)
        · have e1 : n % 2 = 1 := Nat.eq_of_beq_eq_true h1
          simp only [cond_false, cond_true, T.get, h0, h1]
          exact ih _ _ _ (by omega)
      · simp only [cond_true, T.get, h0]
    cases t with
    | nil => exact key none .nil .nil
    | node v l r => exact key v l r
theorem T.get_put_ne {α : Type} {t : T α} {n m : Nat} {x : Option α} (h : m ≠ n) : (t.put n x).get m = t.get m := T.get_set_ne _ _ _ _ _ h
theorem T.get_put {α : Type} {t : T α} {n : Nat} {x : Option α} (h : n < T.most) : (t.put n x).get n = x := T.get_set _ _ _ _ (by unfold T.most at h; omega)
theorem T.get_put_or {α : Type} {t : T α} {n : Nat} {x : Option α} : (t.put n x).get n = x ∨ (t.put n x).get n = t.get n := by
  unfold T.put
  have : ∀ (f : Nat) (t : T α) (n : Nat), (T.set f t n x).get n = x ∨ (T.set f t n x).get n = t.get n := by
    intro f
    induction f with
    | zero => intro t n; exact .inr rfl
    | succ f ih =>
      intro t n
      have key : ∀ (v : Option α) (l r : T α), (bif Nat.beq n 0 then T.node x l r else bif Nat.beq (n % 2) 1 then .node v (T.set f l (n / 2) x) r else .node v l (T.set f r (n / 2 - 1) x)).get n = x ∨ (bif Nat.beq n 0 then T.node x l r else bif Nat.beq (n % 2) 1 then .node v (T.set f l (n / 2) x) r else .node v l (T.set f r (n / 2 - 1) x)).get n = (T.node v l r).get n := by
        intro v l r
        cases h0 : Nat.beq n 0
        · cases h1 : Nat.beq (n % 2) 1
          · simp only [cond_false, T.get, h0, h1]; exact ih _ _
          · simp only [cond_false, cond_true, T.get, h0, h1]; exact ih _ _
        · simp only [cond_true, T.get, h0]; exact .inl trivial
      cases t with
      | nil =>
        have := key none .nil .nil
        have e : (T.node (none : Option α) .nil .nil).get n = none := by
          simp only [T.get]
          cases Nat.beq n 0 <;> cases Nat.beq (n % 2) 1 <;> rfl
        rw [e] at this
        exact this
      | node v l r => exact key v l r
  exact this 32 t n

theorem heapOf_sub {hg : HG} : ∀ {l : List Nat} {b : Nat} {blk : Blk}, (heapOf hg l).get b = some blk → b ∈ l ∧ hg b = some blk
  | [], b, blk, h => by simp [heapOf, T.get] at h
  | x :: l, b, blk, h => by
    rw [heapOf] at h
    by_cases hb : b = x
    · subst hb
      rcases T.get_put_or (t := heapOf hg l) (n := b) (x := hg b) with e | e
      · rw [e] at h; exact ⟨by simp, h⟩
      · rw [e] at h; exact ⟨by simp, (heapOf_sub h).2⟩
    · rw [T.get_put_ne hb] at h
      obtain ⟨h1, h2⟩ := heapOf_sub h
      exact ⟨by simp [h1], h2⟩

theorem HR.sub {hg hg' : HG} {w : World} (h : HR V ρ hg w) (hs : ∀ b blk, hg' b = some blk → hg b = some blk) : HR V ρ hg' w := by
  have hn : ∀ b, hg' b ≠ none → hg b ≠ none := fun b hb => by
    cases e : hg' b with
    | none => exact absurd e hb
    | some blk => rw [hs b blk e]; simp
  refine ⟨⟨fun b blk hb => h.at_ b blk (hs b blk hb), fun b b' q q' h1 h2 => h.inj b b' q q' (hn b h1) (hn b' h2)⟩, fun b q j h1 h2 => ?_⟩
  obtain ⟨e1, e2⟩ := h.ro b q j h1 h2
  exact ⟨e1, fun ⟨b', q', k1, k2⟩ => e2 ⟨b', q', hn b' k1, k2⟩⟩

theorem changes_look (old new : HG) : ∀ (l : List Nat) (b : Nat), (lookB (changes old new l) b).getD (old b) = if b ∈ l then new b else old b
  | [], b => by simp [changes, lookB]
  | x :: l, b => by
    unfold changes
    have ih := changes_look old new l b
    by_cases hx : old x = new x
    · rw [if_pos hx, ih]
      by_cases hb : b = x
      · subst hb; simp [hx]
      · simp [hb]
    · rw [if_neg hx]
      simp only [lookB]
      by_cases hb : b = x
      · subst hb; simp
      · have : Nat.beq x b = false := Bool.eq_false_iff.2 fun hh => hb (Nat.eq_of_beq_eq_true hh).symm
        rw [this]
        simp only [cond_false, ih, List.mem_cons, hb, false_or]

theorem newOnes_look (new : HG) (ids : List Nat) : ∀ (l : List Nat) (b : Nat), lookB (newOnes new ids l) b = if b ∈ ids then none else if b ∈ l then (new b).map some else none
  | [], b => by simp [newOnes, lookB]
  | x :: l, b => by
    unfold newOnes
    have ih := newOnes_look new ids l b
    by_cases hx : x ∈ ids
    · rw [if_pos hx, ih]
      by_cases hb : b = x
      · subst hb; simp [hx]
      · simp [hb]
    · rw [if_neg hx]
      cases hn : new x with
      | none =>
        simp only
        rw [ih]
        by_cases hb : b = x
        · subst hb; simp [hx, hn]
        · simp [hb]
      | some blk =>
        simp only [lookB]
        by_cases hb : b = x
        · subst hb; simp [hx, hn]
        · have : Nat.beq x b = false := Bool.eq_false_iff.2 fun hh => hb (Nat.eq_of_beq_eq_true hh).symm
          rw [this]
          simp only [cond_false, ih, List.mem_cons, hb, false_or]
theorem lookB_append : ∀ (l m : List (Nat × Option Blk)) (b : Nat), lookB (l ++ m) b = (match lookB l b with | some x => some x | none => lookB m b)
  | [], m, b => rfl
  | (c, x) :: l, m, b => by
    simp only [List.cons_append, lookB]
    cases Nat.beq c b
    · exact lookB_append l m b
    · rfl
theorem changes_none (old new : HG) : ∀ (l : List Nat) (b : Nat), b ∉ l → lookB (changes old new l) b = none
  | [], b, _ => rfl
  | x :: l, b, h => by
    unfold changes
    simp only [List.mem_cons, not_or] at h
    by_cases hx : old x = new x
    · rw [if_pos hx]; exact changes_none old new l b h.2
    · rw [if_neg hx]
      have : Nat.beq x b = false := Bool.eq_false_iff.2 fun hh => h.1 (Nat.eq_of_beq_eq_true hh).symm
      simp only [lookB, this, cond_false]
      exact changes_none old new l b h.2
theorem both_look (old new : HG) (ids ids' : List Nat) (b : Nat) : (lookB (changes old new ids ++ newOnes new ids ids') b).getD (old b) = if b ∈ ids ∨ (b ∈ ids' ∧ new b ≠ none) then new b else old b := by
  have h1 := changes_look old new ids b
  rw [lookB_append]
  by_cases hb : b ∈ ids
  · rw [if_pos (.inl hb)]
    rw [if_pos hb] at h1
    cases hc : lookB (changes old new ids) b with
    | none =>
      rw [hc] at h1
      simp only [newOnes_look, if_pos hb, Option.getD_none] at h1 ⊢
      exact h1
    | some x => rw [hc] at h1; exact h1
  · rw [changes_none _ _ _ _ hb]
    simp only [newOnes_look, if_neg hb]
    by_cases hi : b ∈ ids'
    · cases hn : new b with
      | none => simp [hb, hi]
      | some blk => simp [hi]
    · simp [hb, hi]

theorem writeCells_nil (b : Nat) (blk : Blk) : writeCells b blk [] = blk := rfl

/-- A call's step as one of the whole memory. -/
theorem Step.wide {hg G0 G' : HG} {nx nx' : Nat} {w w' : World} {v : SV} {rv : Value} {ρ' : Rho} (hh : HR V ρ hg w) {ids ids' rb : List Nat} (h0 : ∀ b blk, G0 b = some blk → b ∈ ids ∧ hg b = some blk)
    (h : Step V ρ G0 nx w v G' nx' ρ' w' rv) : Step V ρ hg nx w v (upd hg { v, wb := changes hg G' ids ++ newOnes G' ids ids', rb, nx := nx' }) nx' ρ' w' rv := by
  have hupd : ∀ b, upd hg { v, wb := changes hg G' ids ++ newOnes G' ids ids', rb, nx := nx' } b = if b ∈ ids ∨ (b ∈ ids' ∧ G' b ≠ none) then G' b else hg b := fun b => by
    unfold upd
    simp only [both_look]
    cases (if b ∈ ids ∨ (b ∈ ids' ∧ G' b ≠ none) then G' b else hg b) <;> rfl
  have hown0 : ∀ k, Owns ρ G0 k → ∃ b ∈ ids, ∃ q, hg b ≠ none ∧ ρ b = some q ∧ q.1 = k := fun k ⟨b, q, h1, h2, h3⟩ => by
    cases e : G0 b with
    | none => exact absurd e h1
    | some blk => exact ⟨b, (h0 b blk e).1, q, by rw [(h0 b blk e).2]; simp, h2, h3⟩
  have hownh : ∀ k, Owns ρ G0 k → Owns ρ hg k := fun k ho => by
    obtain ⟨b, -, q, h1, h2, h3⟩ := hown0 k ho
    exact ⟨b, q, h1, h2, h3⟩
  have hapart : ∀ b q, ¬ (b ∈ ids ∨ (b ∈ ids' ∧ G' b ≠ none)) → hg b ≠ none → ρ b = some q → ¬ Owns ρ G0 q.1 := fun b q hb hn hq ho => by
    obtain ⟨b0, m0, q0, h1, h2, h3⟩ := hown0 _ ho
    have := hh.inj b0 b q0 q h1 hn h2 hq h3
    exact hb (.inl (this ▸ m0))
  have hold : ∀ b q, hg b ≠ none → ρ' b = some q → ρ b = some q := fun b q hn hq => by
    cases e : hg b with
    | none => exact absurd e hn
    | some blk =>
      obtain ⟨q0, -, -, e1, -⟩ := hh.at_ b blk e
      have := h.ext _ _ e1
      rw [hq] at this
      simp only [Option.some.injEq] at this
      rw [e1, this]
  refine { h with hr := ⟨⟨?_, ?_⟩, ?_⟩, keep := fun k hk hn => h.keep k hk fun ho => hn (hownh k ho), own := ?_ }
  · intro b blk hb
    rw [hupd] at hb
    by_cases hm : b ∈ ids ∨ (b ∈ ids' ∧ G' b ≠ none)
    · rw [if_pos hm] at hb
      exact h.hr.at_ b blk hb
    · rw [if_neg hm] at hb
      obtain ⟨q, cs, e, e1, e2, e3, e4, e5⟩ := hh.at_ b blk hb
      have hn : hg b ≠ none := by rw [hb]; simp
      refine ⟨q, cs, e, h.ext _ _ e1, ?_, e3, e4, fun i c hc => ?_⟩
      · rw [h.keep q.1 (hh.lt ⟨b, q, hn, e1, rfl⟩) (hapart b q hm hn e1)]; exact e2
      · obtain ⟨u, u1, u2⟩ := e5 i c hc
        exact ⟨u, u1, u2.ext h.ext⟩
  · intro b1 b2 q1 q2 h1 h2 g1 g2 hq
    rw [hupd] at h1 h2
    by_cases m1 : b1 ∈ ids ∨ (b1 ∈ ids' ∧ G' b1 ≠ none) <;> by_cases m2 : b2 ∈ ids ∨ (b2 ∈ ids' ∧ G' b2 ≠ none)
    · rw [if_pos m1] at h1
      rw [if_pos m2] at h2
      exact h.hr.inj b1 b2 q1 q2 h1 h2 g1 g2 hq
    · exfalso
      rw [if_pos m1] at h1
      rw [if_neg m2] at h2
      have g2' := hold b2 q2 h2 g2
      rcases h.own q1.1 ⟨b1, q1, h1, g1, rfl⟩ with g | g
      · exact hapart b2 q2 m2 h2 g2' (hq ▸ g)
      · have := hh.lt ⟨b2, q2, h2, g2', rfl⟩
        omega
    · exfalso
      rw [if_neg m1] at h1
      rw [if_pos m2] at h2
      have g1' := hold b1 q1 h1 g1
      rcases h.own q2.1 ⟨b2, q2, h2, g2, rfl⟩ with g | g
      · exact hapart b1 q1 m1 h1 g1' (hq ▸ g)
      · have := hh.lt ⟨b1, q1, h1, g1', rfl⟩
        omega
    · rw [if_neg m1] at h1
      rw [if_neg m2] at h2
      exact hh.inj b1 b2 q1 q2 h1 h2 (hold b1 q1 h1 g1) (hold b2 q2 h2 g2) hq
  · intro b q j hb hj
    obtain ⟨e1, e2⟩ := h.hr.ro b q j hb hj
    refine ⟨e1, fun ⟨b', q', h1, h2, h3⟩ => ?_⟩
    rw [hupd] at h1
    by_cases m : b' ∈ ids ∨ (b' ∈ ids' ∧ G' b' ≠ none)
    · rw [if_pos m] at h1
      exact e2 ⟨b', q', h1, h2, h3⟩
    · rw [if_neg m] at h1
      have h2' := hold b' q' h1 h2
      rcases h.frz b q j hb hj with g | g
      · exact (hh.ro b q j g hj).2 ⟨b', q', h1, h2', h3⟩
      · have := hh.lt ⟨b', q', h1, h2', h3⟩
        omega
  · rintro k ⟨b, q, h1, h2, rfl⟩
    rw [hupd] at h1
    by_cases m : b ∈ ids ∨ (b ∈ ids' ∧ G' b ≠ none)
    · rw [if_pos m] at h1
      rcases h.own q.1 ⟨b, q, h1, h2, rfl⟩ with g | g
      · exact .inl (hownh _ g)
      · exact .inr g
    · rw [if_neg m] at h1
      exact .inl ⟨b, q, h1, hold b q h1 h2, rfl⟩

/-! ### New blocks, counted anew -/
theorem posOf_ok {b : Nat} : ∀ {L : List Nat} {k b' : Nat}, posOf b L k = some b' → k ≤ b' ∧ b' < k + L.length ∧ L[b' - k]? = some b
  | [], _, _, h => by cases h
  | c :: l, k, b', h => by
    unfold posOf at h
    cases hb : Nat.beq b c <;> rw [hb] at h
    · obtain ⟨h1, h2, h3⟩ := posOf_ok (L := l) (k := k + 1) (by simpa using h)
      refine ⟨by omega, by simp only [List.length_cons]; omega, ?_⟩
      rw [show b' - k = b' - (k + 1) + 1 by omega]
      simpa using h3
    · simp only [cond_true, Option.some.injEq] at h
      subst h
      have := Nat.eq_of_beq_eq_true hb
      subst this
      simp
/-- What the names stand for, counted anew. -/
def renR (nx nx' : Nat) (L : List Nat) (ρ : Rho) : Rho := fun b => if nx ≤ b ∧ b < nx' then (L[b - nx]?).bind ρ else ρ b
theorem renB_rho {nx nx' : Nat} {L : List Nat} {ρ' : Rho} (hlen : nx + L.length ≤ nx') {b b' : Nat} (h : renB nx L b = some b') : renR nx nx' L ρ' b' = ρ' b := by
  unfold renB at h
  cases hb : Nat.blt b nx <;> rw [hb] at h
  · obtain ⟨h1, h2, h3⟩ := posOf_ok (by simpa using h)
    unfold renR
    rw [if_pos ⟨h1, by omega⟩, h3]
    rfl
  · simp only [cond_true, Option.some.injEq] at h
    subst h
    have : b < nx := Nat.le_of_ble_eq_true hb
    unfold renR
    rw [if_neg (by omega)]
theorem map_some' {α β : Type} {o : Option α} {f : α → β} {b : β} (h : o.map f = some b) : ∃ a, o = some a ∧ f a = b := by
  cases o with
  | none => cases h
  | some a => exact ⟨a, rfl, by simpa using h⟩
theorem renCaps_ok {f : Nat → Option Nat} {ρ ρ' : Rho} (hf : ∀ b b', f b = some b' → ρ' b' = ρ b) : ∀ {caps caps' : List (Nat × Nat)} {vs : List Value}, renCaps f caps = some caps' → All2 (fun (c : Nat × Nat) w => ∃ r, ρ c.1 = some r ∧ w = Value.pointer (some ⟨r.1, r.2.1 + c.2, none⟩)) caps vs → All2 (fun (c : Nat × Nat) w => ∃ r, ρ' c.1 = some r ∧ w = Value.pointer (some ⟨r.1, r.2.1 + c.2, none⟩)) caps' vs
  | [], _, vs, h, hv => by
    simp only [renCaps, Option.some.injEq] at h
    subst h
    cases vs with
    | nil => trivial
    | cons _ _ => exact hv.elim
  | (b, o) :: l, caps', vs, h, hv => by
    unfold renCaps at h
    split at h
    · rename_i b' l' h1 h2
      simp only [Option.some.injEq] at h
      subst h
      cases vs with
      | nil => exact hv.elim
      | cons v vs =>
        obtain ⟨⟨r, hr, hw⟩, ht⟩ := hv
        exact ⟨⟨r, by rw [hf _ _ h1]; exact hr, hw⟩, renCaps_ok hf h2 ht⟩
    · cases h
theorem renP_ok {f : Nat → Option Nat} {ρ ρ' : Rho} (hf : ∀ b b', f b = some b' → ρ' b' = ρ b) {c c' : CP} {v : Value} (h : renP f c = some c') (hv : CPR ρ c v) : CPR ρ' c' v := by
  cases c <;> simp only [renP] at h <;> (try (obtain ⟨b', h1, rfl⟩ := map_some' h)) <;> (try (simp only [Option.some.injEq] at h; subst h)) <;> (try exact hv)
  case p => obtain ⟨q, e1, e2⟩ := hv; exact ⟨q, by rw [hf _ _ h1]; exact e1, e2⟩
  case sl => obtain ⟨q, n, e1, e2⟩ := hv; exact ⟨q, n, by rw [hf _ _ h1]; exact e1, e2⟩
theorem renPL_ok {f : Nat → Option Nat} : ∀ {l l' : List (E × CP)} {d d' : CP}, renPL f l = some l' → renP f d = some d' → renP f (selP V l d) = some (selP V l' d')
  | [], _, d, d', h, hd => by
    simp only [renPL, Option.some.injEq] at h; subst h; exact hd
  | (e, x) :: l, l', d, d', h, hd => by
    unfold renPL at h
    split at h
    · rename_i x' m h1 h2
      simp only [Option.some.injEq] at h; subst h
      have ih := renPL_ok h2 hd
      show renP f (bif evB V e then x else selP V l d) = some (bif evB V e then x' else selP V m d')
      cases evB V e
      · exact ih
      · exact h1
    · cases h
theorem renC_ok {f : Nat → Option Nat} {ρ ρ' : Rho} (hf : ∀ b b', f b = some b' → ρ' b' = ρ b) {c c' : C} {v : Value} (h : renC f c = some c') (hv : CR V ρ c v) : CR V ρ' c' v := by
  cases c <;> simp only [renC] at h <;> (try (obtain ⟨b', h1, rfl⟩ := map_some' h)) <;> (try (simp only [Option.some.injEq] at h; subst h)) <;> (try exact hv)
  case p => obtain ⟨q, e1, e2⟩ := hv; exact ⟨q, by rw [hf _ _ h1]; exact e1, e2⟩
  case sl => obtain ⟨q, n, e1, e2⟩ := hv; exact ⟨q, n, by rw [hf _ _ h1]; exact e1, e2⟩
  case fn => obtain ⟨vs, e1, e2⟩ := hv; exact ⟨vs, e1, renCaps_ok hf h1 e2⟩
  case fm => obtain ⟨q, e1, e2⟩ := hv; exact ⟨q, by rw [hf _ _ h1]; exact e1, e2⟩
  case px => obtain ⟨q, i, e1, e2⟩ := hv; exact ⟨q, i, by rw [hf _ _ h1]; exact e1, e2⟩
  case cc l d =>
    split at h
    · rename_i l' d' h1 h2
      simp only [Option.some.injEq] at h; subst h
      exact renP_ok hf (renPL_ok h1 h2) hv
    · cases h
  case qi => rcases hv with ⟨q, n, e1, e2⟩ | hv; exact .inl ⟨q, n, by rw [hf _ _ h1]; exact e1, e2⟩; exact .inr hv
  case qf => rcases hv with ⟨q, n, e1, e2⟩ | hv; exact .inl ⟨q, n, by rw [hf _ _ h1]; exact e1, e2⟩; exact .inr hv
  case pi => obtain ⟨q, n, e1, e2⟩ := hv; exact ⟨q, n, by rw [hf _ _ h1]; exact e1, e2⟩
  case pf => obtain ⟨q, n, e1, e2⟩ := hv; exact ⟨q, n, by rw [hf _ _ h1]; exact e1, e2⟩
theorem renL_ok {f : Nat → Option Nat} {ρ ρ' : Rho} (hf : ∀ b b', f b = some b' → ρ' b' = ρ b) : ∀ {l l' : List C} {vs : List Value}, renL f l = some l' → All2 (CR V ρ) l vs → All2 (CR V ρ') l' vs
  | [], _, vs, h, hv => by
    simp only [renL, Option.some.injEq] at h
    subst h
    cases vs with
    | nil => trivial
    | cons _ _ => exact hv.elim
  | c :: l, l', vs, h, hv => by
    unfold renL at h
    split at h
    · rename_i c' l2 h1 h2
      simp only [Option.some.injEq] at h
      subst h
      cases vs with
      | nil => exact hv.elim
      | cons v vs => exact ⟨renC_ok hf h1 hv.1, renL_ok hf h2 hv.2⟩
    · cases h
theorem renL_get {f : Nat → Option Nat} : ∀ {l l' : List C}, renL f l = some l' → l'.length = l.length ∧ ∀ (i : Nat) (c' : C), l'[i]? = some c' → ∃ c, l[i]? = some c ∧ renC f c = some c'
  | [], _, h => by simp only [renL, Option.some.injEq] at h; subst h; exact ⟨rfl, fun i c h => by simp at h⟩
  | c :: l, l', h => by
    unfold renL at h
    split at h
    · rename_i c' l2 h1 h2
      simp only [Option.some.injEq] at h
      subst h
      obtain ⟨g1, g2⟩ := renL_get h2
      refine ⟨by simp [g1], fun i x hx => ?_⟩
      cases i with
      | zero => simp at hx; subst hx; exact ⟨c, rfl, h1⟩
      | succ i => exact g2 i x (by simpa using hx)
    · cases h
theorem renT_ok {f : Nat → Option Nat} {ρ ρ' : Rho} (hf : ∀ b b', f b = some b' → ρ' b' = ρ b) : ∀ {l l' : List SV1} {vs : List Value}, renT f l = some l' → All2 (V1R V ρ) l vs → All2 (V1R V ρ') l' vs
  | [], _, vs, h, hv => by
    simp only [renT, Option.some.injEq] at h
    subst h
    cases vs with
    | nil => trivial
    | cons _ _ => exact hv.elim
  | .c c :: l, l', vs, h, hv => by
    unfold renT at h
    split at h
    · rename_i c' l2 h1 h2
      simp only [Option.some.injEq] at h
      subst h
      cases vs with
      | nil => exact hv.elim
      | cons v vs => exact ⟨renC_ok hf h1 hv.1, renT_ok hf h2 hv.2⟩
    · cases h
  | .ag a :: l, l', vs, h, hv => by
    unfold renT at h
    split at h
    · rename_i a' l2 h1 h2
      simp only [Option.some.injEq] at h
      subst h
      cases vs with
      | nil => exact hv.elim
      | cons v vs =>
        obtain ⟨⟨ws, e1, e2⟩, ht⟩ := hv
        exact ⟨⟨ws, e1, renL_ok hf h1 e2⟩, renT_ok hf h2 ht⟩
    · cases h
theorem renV_ok {f : Nat → Option Nat} {ρ ρ' : Rho} (hf : ∀ b b', f b = some b' → ρ' b' = ρ b) {s s' : SV} {v : Value} (h : renV f s = some s') (hv : VR V ρ s v) : VR V ρ' s' v := by
  cases s with
  | c c => obtain ⟨c', h1, rfl⟩ := map_some' h; exact renC_ok hf h1 hv
  | ag l => obtain ⟨l', h1, rfl⟩ := map_some' h; obtain ⟨vs, e1, e2⟩ := hv; exact ⟨vs, e1, renL_ok hf h1 e2⟩
  | tu l => obtain ⟨l', h1, rfl⟩ := map_some' h; obtain ⟨vs, e1, e2⟩ := hv; exact ⟨vs, e1, renT_ok hf h1 e2⟩
theorem renH_ok {f : Nat → Option Nat} {hg : HG} : ∀ {l : List Nat} {t : T Blk}, renH f hg l = some t → ∀ b1 blk1, t.get b1 = some blk1 → ∃ b0 blk0, f b0 = some b1 ∧ hg b0 = some blk0 ∧ renL f blk0 = some blk1
  | [], t, h, b1, blk1, hb => by simp only [renH, Option.some.injEq] at h; subst h; cases hb
  | b :: l, t, h, b1, blk1, hb => by
    unfold renH at h
    split at h
    · cases h
    · rename_i t0 h0
      split at h
      · simp only [Option.some.injEq] at h
        subst h
        exact renH_ok h0 b1 blk1 hb
      · rename_i blk hblk
        split at h
        · rename_i b' blk' h1 h2
          cases hm : Nat.blt b' T.most <;> rw [hm] at h
          · cases h
          · simp only [cond_true, Option.some.injEq] at h
            subst h
            by_cases he : b' = b1
            · subst he
              rw [T.get_put (Nat.le_of_ble_eq_true hm)] at hb
              simp only [Option.some.injEq] at hb
              subst hb
              exact ⟨b, blk, h1, hblk, h2⟩
            · rw [T.get_put_ne (Ne.symm he)] at hb
              exact renH_ok h0 b1 blk1 hb
        · cases h
theorem allBelow_ok {n : Nat} : ∀ {l : List Nat}, allBelow n l = true → ∀ b ∈ l, b < n
  | [], _, b, hb => by cases hb
  | c :: l, h, b, hb => by
    unfold allBelow at h
    rw [Bool.and_eq_true] at h
    rcases List.mem_cons.1 hb with rfl | hb
    · exact Nat.le_of_ble_eq_true h.1
    · exact allBelow_ok h.2 b hb
theorem newIn_ok {nx : Nat} : ∀ {l : List Nat}, ∀ b ∈ newIn nx l, nx ≤ b
  | [], b, hb => by cases hb
  | c :: l, b, hb => by
    unfold newIn at hb
    cases hc : Nat.blt c nx <;> rw [hc] at hb
    · simp only [cond_false] at hb
      rcases List.mem_cons.1 hb with rfl | hb
      · rcases Nat.lt_or_ge b nx with g | g
        · rw [show Nat.blt b nx = true from Nat.ble_eq_true_of_le g] at hc; cases hc
        · exact g
      · exact newIn_ok b hb
    · exact newIn_ok b (by simpa using hb)
/-- A step, its new blocks counted anew. -/
theorem Step.ren {G0 G' G1 : HG} {nx nx' : Nat} {w w' : World} {v v1 : SV} {rv : Value} {ρ' : Rho} (h : Step V ρ G0 nx w v G' nx' ρ' w' rv) (hf : ∀ b, nx ≤ b → b < nx' → ρ b = none) {L : List Nat} (hlen : nx + L.length ≤ nx') (hL : ∀ b ∈ L, nx ≤ b ∧ b < nx')
    (hv : renV (renB nx L) v = some v1) (hG : ∀ b1 blk1, G1 b1 = some blk1 → ∃ b0 blk0, renB nx L b0 = some b1 ∧ G' b0 = some blk0 ∧ renL (renB nx L) blk0 = some blk1) :
    Step V ρ G0 nx w v1 G1 nx' (renR nx nx' L ρ') w' rv := by
  have hr : ∀ b b', renB nx L b = some b' → renR nx nx' L ρ' b' = ρ' b := fun b b' hb => renB_rho hlen hb
  have hin : ∀ b q, renR nx nx' L ρ' b = some q → (nx ≤ b ∧ b < nx + L.length ∧ ∃ b0, (nx ≤ b0 ∧ b0 < nx') ∧ ρ' b0 = some q) ∨ (¬ (nx ≤ b ∧ b < nx') ∧ ρ' b = some q) := fun b q hb => by
    unfold renR at hb
    split at hb
    · rename_i hc
      cases hx : L[b - nx]? with
      | none => rw [hx] at hb; cases hb
      | some b0 =>
        rw [hx] at hb
        have hlt : b - nx < L.length := by
          rcases Nat.lt_or_ge (b - nx) L.length with g | g
          · exact g
          · rw [List.getElem?_eq_none g] at hx; cases hx
        exact .inl ⟨hc.1, by omega, b0, hL b0 (List.mem_of_getElem? hx), hb⟩
    · rename_i hc
      exact .inr ⟨hc, hb⟩
  have hown : ∀ k, Owns (renR nx nx' L ρ') G1 k → Owns ρ' G' k := fun k ⟨b, q, h1, h2, h3⟩ => by
    cases e : G1 b with
    | none => exact absurd e h1
    | some blk =>
      obtain ⟨b0, blk0, e1, e2, -⟩ := hG b blk e
      exact ⟨b0, q, by rw [e2]; simp, by rw [← hr _ _ e1]; exact h2, h3⟩
  exact {
    ext := fun b q hb => by
      unfold renR
      rw [if_neg fun hc => by rw [hf b hc.1 hc.2] at hb; cases hb]
      exact h.ext b q hb
    new := fun b q hb => by
      rcases hin b q hb with ⟨h1, h2, -⟩ | ⟨h1, h2⟩
      · exact .inr ⟨h1, by omega⟩
      · rcases h.new b q h2 with g | g
        · exact .inl g
        · exact absurd g h1
    le := h.le
    val := renV_ok hr hv h.val
    hr := by
      refine ⟨⟨fun b blk hb => ?_, fun b b' q q' h1 h2 g1 g2 hq => ?_⟩, fun b q j h1 h2 => ?_⟩
      · obtain ⟨b0, blk0, e1, e2, e3⟩ := hG b blk hb
        obtain ⟨q, cs, e, f1, f2, f3, f4, f5⟩ := h.hr.at_ b0 blk0 e2
        obtain ⟨g1, g2⟩ := renL_get e3
        refine ⟨q, cs, e, by rw [hr _ _ e1]; exact f1, f2, f3, by rw [g1]; exact f4, fun i c hc => ?_⟩
        obtain ⟨c0, k1, k2⟩ := g2 i c hc
        obtain ⟨u, u1, u2⟩ := f5 i c0 k1
        exact ⟨u, u1, renC_ok hr k2 u2⟩
      · cases e : G1 b with
        | none => exact absurd e h1
        | some blk =>
          cases e' : G1 b' with
          | none => exact absurd e' h2
          | some blk' =>
            obtain ⟨b0, blk0, a1, a2, -⟩ := hG b blk e
            obtain ⟨b0', blk0', a1', a2', -⟩ := hG b' blk' e'
            have := h.hr.inj b0 b0' q q' (by rw [a2]; simp) (by rw [a2']; simp) (by rw [← hr _ _ a1]; exact g1) (by rw [← hr _ _ a1']; exact g2) hq
            subst this
            rw [a1] at a1'
            simpa using a1'
      · rcases hin b q h1 with ⟨-, -, b0, -, e⟩ | ⟨-, e⟩
        · obtain ⟨k1, k2⟩ := h.hr.ro b0 q j e h2
          exact ⟨k1, fun ho => k2 (hown _ ho)⟩
        · obtain ⟨k1, k2⟩ := h.hr.ro b q j e h2
          exact ⟨k1, fun ho => k2 (hown _ ho)⟩
    os := h.os
    tape := h.tape
    output := h.output
    size := h.size
    keep := h.keep
    frz := fun b q j h1 h2 => by
      rcases hin b q h1 with ⟨-, -, b0, hb0, e⟩ | ⟨-, e⟩
      · rcases h.frz b0 q j e h2 with g | g
        · rw [hf b0 hb0.1 hb0.2] at g; cases g
        · exact .inr g
      · exact h.frz b q j e h2
    own := fun k ho => h.own k (hown k ho) }
/-- What a call leaves, counted anew or as it was. -/
theorem compact_ok {G0 : HG} {nx nx' : Nat} {w w' : World} {v : SV} {rv : Value} {ρ' : Rho} {hp : T Blk} {ids' : List Nat} (h : Step V ρ G0 nx w v hp.get nx' ρ' w' rv) (hf : ∀ b, nx ≤ b → b < nx' → ρ b = none) :
    ∃ ρ'', Step V ρ G0 nx w (compactR nx nx' v hp ids').1 (compactR nx nx' v hp ids').2.1.get (compactR nx nx' v hp ids').2.2.2 ρ'' w' rv := by
  unfold compactR
  split
  · exact ⟨ρ', h⟩
  · rename_i b l hl
    unfold compactL
    cases hc : (Nat.ble (nx + (b :: l).length) nx' && allBelow nx' (b :: l))
    · exact ⟨ρ', h⟩
    · rw [Bool.and_eq_true] at hc
      simp only [cond_true]
      split
      · rename_i v1 hp1 hv hh
        exact ⟨_, h.ren hf (Nat.le_of_ble_eq_true hc.1) (fun x hx => ⟨newIn_ok x (by rw [hl]; exact hx), allBelow_ok hc.2 x hx⟩) hv (renH_ok hh)⟩
      · exact ⟨ρ', h⟩
theorem compact_nx {nx nx' : Nat} {v : SV} {hp : T Blk} {ids' : List Nat} : (compactR nx nx' v hp ids').2.2.2 = nx' := by
  unfold compactR
  split
  · rfl
  · rename_i b l hl
    unfold compactL
    cases hc : (Nat.ble (nx + (b :: l).length) nx' && allBelow nx' (b :: l))
    · rfl
    · simp only [cond_true]
      split <;> rfl
end Go.Proofs.Ytclhgnhbmlkomaa.Ex

namespace Go.Proofs.Ytclhgnhbmlkomaa.Ex
open Go
variable {P : Program} {V : Val} {ρ : Rho}

theorem Step.ofDrew {hg hg' : HG} {nx nx' : Nat} {w w' : World} {v : SV} {rv : Value} {ρ' : Rho} (h : Step V ρ hg nx w.drew v hg' nx' ρ' w' rv) : Step V ρ hg nx w v hg' nx' ρ' w' rv :=
  ⟨h.ext, h.new, h.le, h.val, h.hr, h.os, h.tape, h.output, h.size, h.keep, h.frz, h.own⟩
theorem Step.drop {hg hg' hg'' : HG} {nx nx' : Nat} {w w' : World} {v : SV} {rv : Value} {ρ' : Rho} (h : Step V ρ hg nx w v hg' nx' ρ' w' rv) (hs : ∀ b blk, hg'' b = some blk → hg' b = some blk) : Step V ρ hg nx w v hg'' nx' ρ' w' rv :=
  { h with hr := h.hr.sub hs, own := fun k ⟨b, q, h1, h2, h3⟩ => h.own k ⟨b, q, by
      cases e : hg'' b with
      | none => exact absurd e h1
      | some blk => rw [hs b blk e]; simp, h2, h3⟩ }
theorem HR.drew {hg : HG} {w : World} (h : HR V ρ hg w) : HR V ρ hg w.drew := h.same fun _ _ => rfl

/-- An append that has room. -/
theorem run_append_in {t ty e : TypeId} {i : TypeInfo} (ht : P.underlying t = some (.slice e)) (hi : P.info? e = some i) {g o sLen sCap m : Nat} {x : Value} {news : List Value} {w : World}
    (hlen : (Builtin.lenOf x).run P w = .ok m w) (hf : (Builtin.firstCells i.size m x).run P w = .ok news.toArray w) (hroom : sLen + m ≤ sCap) {cells : Array Value} {e' : TypeId} (hh : w.heap[g]? = some (.cells cells e' (0, 0)))
    (hfit : o + sLen * i.size + news.length ≤ cells.size) (h1 : ∀ u ∈ news, u.oneCell' = true) :
    (Builtin.append_ #[t, t] ty #[.slice (some ⟨g, o, none⟩) sLen sCap, x]).run P w = .ok (.slice (some ⟨g, o, none⟩) (sLen + m) sCap) (w.setCells g (o + sLen * i.size) news) := by
  have hc : ∀ j, j < news.length → (w.cell? ⟨g, o + sLen * i.size + 0 + j, none⟩).isSome = true := fun j hj => by
    unfold World.cell?; simp [hh]; omega
  have hz : ∀ j, j < news.length → w.frozen? ⟨g, o + sLen * i.size + 0 + j, none⟩ = false := fun j _ => by
    unfold World.frozen?; simp [hh]
  have hst := run_storeCells_cells (P := P) g (o + sLen * i.size) news 0 w hc hz h1
  simp only [Nat.add_zero] at hst
  simp [Builtin.append_, run_underlying ht, sizeOf, typeInfo, hi, hlen, hroom, hf, addr_add, hst]

/-- A slice, or none. -/
def SliceR (V : Val) (ρ : Rho) : Option (Nat × Nat × Nat × Cap) → Value → Prop
  | none, x => x = .slice none 0 0
  | some (b, o, l, c), x => CR V ρ (.sl b o l c) x
theorem asSlice_ok {x : Option SV} {s : Option (Nat × Nat × Nat × Cap)} (h : asSlice x = some s) {v : Value} (hv : ∀ u, x = some u → VR V ρ u v) : SliceR V ρ s v := by
  unfold asSlice at h
  split at h
  · simp only [Option.some.injEq] at h; subst h; exact hv _ rfl
  · simp only [Option.some.injEq] at h; subst h; exact hv _ rfl
  · cases h
/-- What is appended. -/
theorem src_ok {hg : HG} {w : World} (hh : HR V ρ hg w) {s : Option (Nat × Nat × Nat × Cap)} {size : Nat} {cs : List C}
    (hc : srcCells hg size (s.map fun q => (q.1, q.2.1, q.2.2.1)) = some cs) {x : Value}
    (hx : SliceR V ρ s x) :
    ∃ n news, n = srcLen (s.map fun q => (q.1, q.2.1, q.2.2.1)) ∧ All2 (CR V ρ) cs news ∧ news.length = n * size ∧
      (∀ (w' : World), w'.heap = w.heap → (Builtin.lenOf x).run P w' = .ok n w' ∧ (Builtin.firstCells size n x).run P w' = .ok news.toArray w') ∧
      ((s = none ∧ n = 0 ∧ x = .slice none 0 0) ∨ ∃ a c, x = .slice (some a) n c ∧ ∀ (j : Nat) (v : Value), news[j]? = some v → w.cell? (a.add j) = some v) := by
  cases s with
  | none =>
    simp only [Option.map_none, srcCells, Option.some.injEq] at hc
    subst hc
    unfold SliceR at hx
    subst hx
    exact ⟨0, [], rfl, trivial, by simp, fun w' _ => ⟨rfl, rfl⟩, .inl ⟨rfl, rfl, rfl⟩⟩
  | some q =>
    obtain ⟨b, o, l, c⟩ := q
    simp only [Option.map_some, srcCells] at hc
    obtain ⟨q, n, hq, rfl, hln, -⟩ := hx
    obtain ⟨q', vs, e, cells, e1, e2, e3, e4, e5, e6, e7⟩ := hh.range hc
    rw [hq] at e1
    simp only [Option.some.injEq] at e1
    subst e1
    have hcell : ∀ (w' : World), w'.heap = w.heap → ∀ (j : Nat) (v : Value), vs[j]? = some v → w'.cell? ((⟨q.1, q.2.1 + o, none⟩ : Addr).add j) = some v := fun w' hw' j v hj => by
      rw [addr_add]
      have := rangeAt_of (w := w') (o := q.2.1 + o) (n := l * size) (by rw [hw']; exact e2) j v (by rw [← e4]; exact hj)
      exact this
    refine ⟨l, vs, rfl, e6, e5, fun w' hw' => ⟨rfl, run_firstCells_some w' size l _ l n vs e5 (hcell w' hw')⟩, .inr ⟨_, n, rfl, hcell w rfl⟩⟩

/-- Appended where it lay: under a new name. -/
theorem Step.move {hg : HG} {w : World} (h : HR V ρ hg w) {nx : Nat} (hfresh : ρ nx = none) {b o : Nat} {old new : List C} {vs : List Value} {q : Nat × Nat × Nat × Option Nat} (hq : ρ b = some q) (hc : rangeC hg b o old.length = some old) (hv : All2 (CR V ρ) new vs)
    (hfit : o + (old.length + new.length) ≤ q.2.2.1) {v : SV} {rv : Value} (hval : VR V (put ρ nx (q.1, q.2.1 + o, q.2.2.1 - o, none)) v rv) (rb : List Nat) :
    Step V ρ hg nx w v (upd hg { v, wb := [(nx, some (old ++ new)), (b, none)], rb, nx := nx + 1 }) (nx + 1) (put ρ nx (q.1, q.2.1 + o, q.2.2.1 - o, none)) (w.setCells q.1 (q.2.1 + o + old.length) vs) rv := by
  have hx := put_ext (q := (q.1, q.2.1 + o, q.2.2.1 - o, none)) hfresh
  obtain ⟨blk, hb, hlen, hold⟩ := rangeC_ok hc
  obtain ⟨q', cells, e, e1, e2, e3, e4, e5⟩ := h.at_ b blk hb
  rw [hq] at e1
  simp only [Option.some.injEq] at e1
  subst e1
  have hbn : b ≠ nx := fun hh => by subst hh; rw [hfresh] at hq; cases hq
  have hvl := hv.len
  have hown : Owns ρ hg q.1 := ⟨b, q, by rw [hb]; simp, hq, rfl⟩
  have hupd : ∀ b', upd hg { v, wb := [(nx, some (old ++ new)), (b, none)], rb, nx := nx + 1 } b' = if b' = nx then some (old ++ new) else if b' = b then none else hg b' := fun b' => by
    unfold upd
    by_cases h1 : b' = nx
    · subst h1; simp [lookB, writeCells]
    · have n1 : Nat.beq nx b' = false := Bool.eq_false_iff.2 fun hh => h1 (Nat.eq_of_beq_eq_true hh).symm
      rw [if_neg h1]
      by_cases h2 : b' = b
      · subst h2; simp [lookB, n1]
      · have n2 : Nat.beq b b' = false := Bool.eq_false_iff.2 fun hh => h2 (Nat.eq_of_beq_eq_true hh).symm
        rw [if_neg h2]
        simp only [lookB, n1, n2, cond_false, Option.getD_none]
        cases hg b' <;> simp [writeCells]
  have hput : ∀ b', b' ≠ nx → put ρ nx (q.1, q.2.1 + o, q.2.2.1 - o, none) b' = ρ b' := fun b' hb => by unfold put; rw [if_neg hb]
  have hnone : ∀ b', hg b' ≠ none → b' ≠ nx := fun b' hb' hh => by
    subst hh
    cases hb2 : hg b' with
    | none => exact hb' hb2
    | some blk => obtain ⟨q, -, -, e1, -⟩ := h.at_ b' blk hb2; rw [hfresh] at e1; cases e1
  have hother : ∀ k, k ≠ q.1 → (w.setCells q.1 (q.2.1 + o + old.length) vs).heap[k]? = w.heap[k]? := fun k hn => heap_setCells_other _ w _ _ _ hn
  refine Step.parts h (fun b' q' j hb' hj => ?_) hx ?_ (by omega) hval ⟨?_, ?_⟩ (oo_setCells _ _ _ _).1 (tape_setCells _ _ _ _) (oo_setCells _ _ _ _).2 (by rw [size_setCells]; exact Nat.le_refl _) ?_ ?_
  · by_cases hn : b' = nx
    · subst hn; rw [put_same] at hb'; simp only [Option.some.injEq] at hb'; subst hb'; cases hj
    · rw [hput b' hn] at hb'; exact hb'
  · intro b' q' hb'
    by_cases hn : b' = nx
    · subst hn; exact .inr ⟨Nat.le_refl _, by omega⟩
    · rw [hput b' hn] at hb'; exact .inl hb'
  · intro b' blk' hb'
    rw [hupd] at hb'
    by_cases h1 : b' = nx
    · subst h1
      rw [if_pos rfl] at hb'
      simp only [Option.some.injEq] at hb'
      subst hb'
      refine ⟨_, ow cells (q.2.1 + o + old.length) vs, e, put_same, heap_setCells _ _ _ _ _ _ _ e2, by rw [ow_size]; simp only; omega, by simp only [List.length_append]; omega, ?_⟩
      intro i c hi
      simp only
      rw [ow_get _ _ _ _ (by omega)]
      rw [List.getElem?_append] at hi
      split at hi
      · rename_i hlt
        rw [if_neg (by omega)]
        have hi' : blk[o + i]? = some c := by
          rw [hold, List.getElem?_take, if_pos hlt, List.getElem?_drop] at hi
          exact hi
        obtain ⟨u, u1, u2⟩ := e5 _ _ hi'
        exact ⟨u, by rw [Nat.add_assoc]; exact u1, u2.ext hx⟩
      · rename_i hge
        have hlt2 : i - old.length < new.length := by
          rcases Nat.lt_or_ge (i - old.length) new.length with g | g
          · exact g
          · rw [List.getElem?_eq_none g] at hi; cases hi
        rw [if_pos (by omega)]
        obtain ⟨u, u1, u2⟩ := hv.get hi
        exact ⟨u, by rw [show q.2.1 + o + i - (q.2.1 + o + old.length) = i - old.length by omega]; exact u1, u2.ext hx⟩
    · rw [if_neg h1] at hb'
      by_cases h2 : b' = b
      · rw [if_pos h2] at hb'; cases hb'
      · rw [if_neg h2] at hb'
        obtain ⟨q', cells', e', f1, f2, f3, f4, f5⟩ := h.at_ b' blk' hb'
        have hq' : q'.1 ≠ q.1 := fun hh => h2 (h.inj b' b q' q (by rw [hb']; simp) (by rw [hb]; simp) f1 hq hh)
        refine ⟨q', cells', e', hx _ _ f1, by rw [hother _ hq']; exact f2, f3, f4, fun i c hi => ?_⟩
        obtain ⟨u, u1, u2⟩ := f5 i c hi
        exact ⟨u, u1, u2.ext hx⟩
  · intro b1 b2 q1 q2 h1 h2 g1 g2 hqq
    rw [hupd] at h1 h2
    have aux : ∀ b3 q3, b3 ≠ nx → (if b3 = nx then some (old ++ new) else if b3 = b then none else hg b3) ≠ none → put ρ nx (q.1, q.2.1 + o, q.2.2.1 - o, none) b3 = some q3 → hg b3 ≠ none ∧ b3 ≠ b ∧ ρ b3 = some q3 := fun b3 q3 n3 h3 g3 => by
      rw [if_neg n3] at h3
      by_cases hb3 : b3 = b
      · rw [if_pos hb3] at h3; exact absurd rfl h3
      · rw [if_neg hb3] at h3; rw [hput _ n3] at g3; exact ⟨h3, hb3, g3⟩
    by_cases n1 : b1 = nx <;> by_cases n2 : b2 = nx
    · rw [n1, n2]
    · exfalso
      obtain ⟨k1, k2, k3⟩ := aux b2 q2 n2 h2 g2
      rw [n1, put_same] at g1
      simp only [Option.some.injEq] at g1
      subst g1
      exact k2 (h.inj b2 b q2 q k1 (by rw [hb]; simp) k3 hq hqq.symm)
    · exfalso
      obtain ⟨k1, k2, k3⟩ := aux b1 q1 n1 h1 g1
      rw [n2, put_same] at g2
      simp only [Option.some.injEq] at g2
      subst g2
      exact k2 (h.inj b1 b q1 q k1 (by rw [hb]; simp) k3 hq hqq)
    · obtain ⟨k1, k2, k3⟩ := aux b1 q1 n1 h1 g1
      obtain ⟨l1, l2, l3⟩ := aux b2 q2 n2 h2 g2
      exact h.inj b1 b2 q1 q2 k1 l1 k3 l3 hqq
  · intro k hk hn
    exact hother k fun hh => hn (hh ▸ hown)
  · rintro k ⟨b1, q1, h1, g1, rfl⟩
    rw [hupd] at h1
    by_cases n1 : b1 = nx
    · rw [n1, put_same] at g1
      simp only [Option.some.injEq] at g1
      subst g1
      exact .inl hown
    · rw [if_neg n1] at h1
      rw [hput _ n1] at g1
      by_cases hb3 : b1 = b
      · rw [if_pos hb3] at h1; exact absurd rfl h1
      · rw [if_neg hb3] at h1
        exact .inl ⟨b1, q1, h1, g1, rfl⟩
end Go.Proofs.Ytclhgnhbmlkomaa.Ex
