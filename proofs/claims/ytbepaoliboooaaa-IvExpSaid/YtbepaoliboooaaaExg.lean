/-
  The runner's operations beside Go's: those that only reckon.
-/
import Derived.Test.YtbepaoliboooaaaExf
namespace Go.Proofs.Ytbepaoliboooaaa.Ex
open Go
variable {P : Program} {V : Val} {ρ : Rho}

theorem toSV1_ok {v : SV1} {x : Value} (h : V1R V ρ v x) : VR V ρ (toSV1 v) x := by cases v <;> exact h

theorem capsOf_ok : ∀ {l : List SV} {cs : List (Nat × Nat)} {vs : List Value}, capsOf l = some cs → All2 (VR V ρ) l vs →
    All2 (fun (c : Nat × Nat) w => ∃ r, ρ c.1 = some r ∧ w = Value.pointer (some ⟨r.1, r.2.1 + c.2, none⟩)) cs vs
  | [], cs, vs, h, hv => by
    simp only [capsOf, Option.some.injEq] at h; subst h
    cases vs with
    | nil => trivial
    | cons _ _ => exact hv.elim
  | s :: l, cs, vs, h, hv => by
    cases vs with
    | nil => exact hv.elim
    | cons v vs =>
      unfold capsOf at h
      split at h
      · cases h; contradiction
      · rename_i b o l' heq
        simp only [List.cons.injEq] at heq
        obtain ⟨rfl, rfl⟩ := heq
        cases hc : capsOf l with
        | none => rw [hc] at h; simp at h
        | some m =>
          rw [hc] at h
          simp only [Option.map_some, Option.some.injEq] at h
          subst h
          obtain ⟨q, h1, h2⟩ := hv.1
          exact ⟨⟨q, h1, h2⟩, capsOf_ok hc hv.2⟩
      · simp at h

theorem allEval_ok {get : Nat → Option SV} {a : Act} (ht : TR V ρ get a.tmps) {l : List Operand} {m : List SV} (h : allSome (evalX get) l = some m) : All2 (VR V ρ) m (l.map a.eval) := by
  have := allSome_ok (f := evalX get) (R := fun s x => VR V ρ s (a.eval x)) (fun x s hx => evalX_ok ht hx) h
  clear h
  induction m generalizing l with
  | nil => cases l <;> first | trivial | exact this.elim
  | cons s m ih =>
    cases l with
    | nil => exact this.elim
    | cons x l => exact ⟨this.1, ih this.2⟩

theorem addr_add (b o n : Nat) : (⟨b, o, none⟩ : Addr).add n = ⟨b, o + n, none⟩ := Addr.add_mid b o n

theorem run_field_place {b o : Nat} {f : Field} {n : Nat} (hs : sizeP P f.type = some n) (hn : n ≠ 0) (w : World) : (fieldPlace ⟨b, o, none⟩ f).run P w = .ok ⟨b, o + f.offset, none⟩ w := by
  unfold fieldPlace
  simp [run_sizeP hs, hn, addr_add]

theorem slice_known {t e : TypeId} (hu : P.underlying t = some (.slice e)) {s : Nat} (hs : sizeP P e = some s) (b o len cap : Nat) {lo hi mx : Option Value} {l h m : Nat}
    (hm : (mx = none ∧ m = cap) ∨ ∃ k, mx = some (.int k m)) (hh : (hi = none ∧ h = len) ∨ ∃ k, hi = some (.int k h)) (hl : (lo = none ∧ l = 0) ∨ ∃ k, lo = some (.int k l)) (h1 : m ≤ cap) (h2 : h ≤ m) (h3 : l ≤ h) (hmx : mx = none ∨ hi ≠ none) (w : World) :
    (Instr.sliceAt t (.slice (some ⟨b, o, none⟩) len cap) lo hi mx).run P w = .ok (.slice (some ⟨b, if m = l then o else o + l * s, none⟩) (h - l) (m - l)) w := by
  have hb : ∀ (k : IntKind) (i y : Nat) (c : BoundsCode), i ≤ y → (Instr.sliceBound (.int k i) y c).run P w = .ok i w := fun k i y c hi => by
    simp [Instr.sliceBound, asIntOf, hi]
  have hsb : (Instr.sliceBounds true len cap lo hi mx).run P w = .ok (l, h, m) w := by
    unfold Instr.sliceBounds
    rcases hm with ⟨rfl, rfl⟩ | ⟨k1, rfl⟩ <;> rcases hh with ⟨rfl, rfl⟩ | ⟨k2, rfl⟩ <;> rcases hl with ⟨rfl, rfl⟩ | ⟨k3, rfl⟩ <;> simp [hb _ _ _ _ h1, hb _ _ _ _ h2, hb _ _ _ _ h3] at hmx ⊢
  have e : (Instr.sliceAt t (.slice (some ⟨b, o, none⟩) len cap) lo hi mx).run P w = (Instr.slice t (.slice (some ⟨b, o, none⟩) len cap) lo hi mx).run P w := by
    simp [Instr.sliceAt, run_underlying hu]
  rw [e]
  simp only [Instr.slice, Sem.run_bind, run_underlying hu, hsb, run_sizeP hs, Result.andThen_ok, Sem.run_pure]
  congr 2
  split <;> simp [addr_add]

theorem opt_ok {get : Nat → Option SV} {a : Act} (ht : TR V ρ get a.tmps) {x : Option Operand} {d n : Nat} (h : (match x with | some m => asNat (evalX get m) | none => some d) = some n) : (x.map a.eval = none ∧ n = d) ∨ ∃ k, x.map a.eval = some (.int k n) := by
  cases x with
  | none => simp only [Option.some.injEq] at h; exact .inl ⟨rfl, h.symm⟩
  | some y =>
    obtain ⟨k, e⟩ := asNat_ok h fun s hs => evalX_ok ht hs
    exact .inr ⟨k, by simp [e]⟩

theorem exec_builtin {o : Oper} {c : Call} {b : Builtin} (ho : o.op = .call c) (hb : c.callee = .builtin b) (f : Operand → Value) :
    execOp f o = builtin b c.argTypes o.type (c.args.map fun | .const _ => true | _ => false) (c.args.map f) := by
  unfold execOp
  rw [ho]
  simp only [resolve, hb]
  rfl

theorem args_at {get : Nat → Option SV} {c : Call} {xs : List (Option SV)} (h : c.args.toList.map (evalX get) = xs) {i : Nat} {x : Option SV} (hx : xs[i]? = some x) {f : Operand → Value} : ∃ y, evalX get y = x ∧ (c.args.map f)[i]? = some (f y) := by
  subst h
  rw [List.getElem?_map] at hx
  cases hy : c.args.toList[i]? with
  | none => rw [hy] at hx; simp at hx
  | some y =>
    rw [hy] at hx
    simp only [Option.map_some, Option.some.injEq] at hx
    have : c.args[i]? = some y := by simpa using hy
    exact ⟨y, hx, by simp [this]⟩

theorem idxX_ok {g : Gam} (hg : GamOK V g) {e : TypeId} {b o len : Nat} {ix : Option SV} {c : C} (h : idxX P g e b o len ix = .ok c) : ∃ ie s i, ix = some (.c (.ei .i64 ie)) ∧ sizeP P e = some s ∧ c = .px b o s len ie ∧ evI V ie = ((i : Nat) : Int) ∧ i < len := by
  unfold idxX at h
  split at h
  · rename_i ie s hs
    obtain ⟨t0, h1, h2⟩ := bind_ok h
    cases t0
    · simp only [cond_false] at h2
      obtain ⟨t1, h3, h4⟩ := bind_ok h2
      cases t1
      · cases h4
      · simp only [cond_true, Res.ok.injEq] at h4
        subst h4
        have a1 := (lss_false _ _).1 (show icV .lss (evI V ie) 0 = false from truthE_ok hg h1)
        have a2 := (lss_true _ _).1 (show icV .lss (evI V ie) (len : Int) = true from truthE_ok hg h3)
        exact ⟨ie, s, (evI V ie).toNat, rfl, hs, rfl, by omega, by omega⟩
    · cases h2
  · cases h
theorem len_ok {get : Nat → Option SV} {a : Act} (ht : TR V ρ get a.tmps) {c : Call} {v : SV} (h : planBuiltin P .len c.argTypes (c.args.toList.map (evalX get)) = .ok (.val v)) (ty : TypeId) (w : World) :
    ∃ rv, (Builtin.len_ c.argTypes ty (c.args.map a.eval)).run P w = .ok rv w ∧ VR V ρ v rv := by
  unfold planBuiltin at h
  simp only at h
  split at h
  · rename_i t x xs h0 hxs
    obtain ⟨y, hy, hay⟩ := args_at (f := a.eval) hxs (i := 0) rfl
    split at h <;> rename_i hu <;> (try (cases h; done)) <;> simp only [Res.ok.injEq, Plan.val.injEq] at h <;> subst h
    · obtain ⟨q, n, hq, he, -, -⟩ := evalX_ok ht hy
      refine ⟨_, ?_, rfl⟩
      simp [Builtin.len_, h0, hay, run_underlying hu, he, goInt]
    · have he := evalX_ok ht hy
      simp only [VR, CR] at he
      refine ⟨_, ?_, rfl⟩
      simp [Builtin.len_, h0, hay, run_underlying hu, he, goInt]
    · obtain ⟨o, n, he⟩ := evalX_ok ht hy
      refine ⟨_, ?_, rfl⟩
      simp [Builtin.len_, h0, hay, run_underlying hu, he, goInt]
    · obtain ⟨q, n, hq, hj, he, -⟩ := evalX_ok ht hy
      refine ⟨_, ?_, rfl⟩
      simp [Builtin.len_, h0, hay, run_underlying hu, he, goInt, evI]
    · obtain ⟨q, n, hq, hj, he, -⟩ := evalX_ok ht hy
      refine ⟨_, ?_, rfl⟩
      simp [Builtin.len_, h0, hay, run_underlying hu, he, goInt, evI]
    · refine ⟨_, ?_, rfl⟩
      simp [Builtin.len_, h0, hay, run_underlying hu, goInt]
  · cases h

/-- What only reckons. -/
theorem val_ok {g : Gam} (hg : GamOK V g) {get : Nat → Option SV} {a : Act} (ht : TR V ρ get a.tmps) {o : Oper} {v : SV} (h : planOf P g get o.op = .ok (.val v)) (w : World) : Val1 P V ρ o a w v := by
  unfold planOf at h
  split at h <;> rename_i ho <;> (try (simp only [reduceCtorEq] at h; done))
  case h_1 x =>
    obtain ⟨u, h1, h2⟩ := bind_ok h
    simp only [Res.ok.injEq, Plan.val.injEq] at h2; subst h2
    exact .pure (rv := a.eval x) (by unfold execOp; rw [ho]) (evalX_ok ht (orBad_ok h1))
  case h_2 x =>
    obtain ⟨u, h1, h2⟩ := bind_ok h
    simp only [Res.ok.injEq, Plan.val.injEq] at h2; subst h2
    exact .pure (rv := a.eval x) (by unfold execOp; rw [ho]) (evalX_ok ht (orBad_ok h1))
  case h_3 c x y =>
    obtain ⟨u, h1, h2⟩ := bind_ok h
    obtain ⟨t, h3, h4⟩ := bind_ok h2
    obtain ⟨z, h5, h6⟩ := bind_ok h4
    simp only [Res.ok.injEq, Plan.val.injEq] at h6; subst h6
    have hc := truth_ok hg h3 (evalX_ok ht (orBad_ok h1))
    have hv := evalX_ok ht (orBad_ok h5)
    refine ⟨a.eval (bif t then x else y), 0, ?_, hv⟩
    unfold execOp; rw [ho]
    simp only [hc, asBool]
    cases t <;> rfl
  case h_4 t =>
    obtain ⟨u, h1, h2⟩ := bind_ok h
    cases h2
  case h_5 t x =>
    obtain ⟨u, h1, h2⟩ := bind_ok h
    cases h2
  case h_6 t parts =>
    split at h
    · rename_i fs z ps hu hz hp
      obtain ⟨cs, h1, h2⟩ := bind_ok h
      cases hf : fs.all (fun (f : Field) => (sizeP P f.type).isSome) <;> rw [hf] at h2
      · simp at h2
      · simp only [cond_true, Res.ok.injEq, Plan.val.injEq] at h2; subst h2
        obtain ⟨i, zv, hi, hzv, hzc, hzr⟩ := zeroC_ok (V := V) (ρ := ρ) hz
        have hfill := fill_ok (V := V) (ρ := ρ) (parts_ok ht hp) hzc (orBad_ok h1)
        obtain ⟨rc, hr1, hr2⟩ := hfill
        refine Val1.of (s := Instr.build t (parts.map fun (i, x) => (i, a.eval x))) (by unfold execOp; rw [ho]) (Reck.mk (rv := .agg rc) ?_ ⟨rc, rfl, hr2⟩)
        have hpl : ∀ {F : Nat → Option (Nat × Nat)} {L : List (Nat × Value)}, Instr.fill F zv.cells L = some rc → (∀ i (f : Field), fs[i]? = some f → F i = (sizeP P f.type).map (f.offset, ·)) → (∀ i, fs[i]? = none → F i = none) →
            Instr.fill (fun i => (fs.map fun (f : Field) => (f.offset, (sizeP P f.type).getD 0))[i]?) zv.cells L = some rc := by
          intro F L hF k1 k2
          rw [← hF]
          congr 1
          funext i
          rw [Array.getElem?_map]
          cases hfi : fs[i]? with
          | none => rw [k2 i hfi]; rfl
          | some f =>
            have hm : f ∈ fs := Array.mem_of_getElem? hfi
            rw [Array.all_eq_true_iff_forall_mem] at hf
            obtain ⟨n, hn⟩ := Option.isSome_iff_exists.1 (hf f hm)
            rw [k1 i f hfi]
            simp [hn]
        have hr3 := hpl hr1 (fun i f e => by simp only [e]) (fun i e => by simp only [e])
        have hl : (parts.map fun (x : Nat × Operand) => (x.1, a.eval x.2)).toList = parts.toList.map fun (x : Nat × Operand) => (x.1, a.eval x.2) := by simp
        have hl' : (parts.map fun (x : Nat × Operand) => match x with | (i, x) => (i, a.eval x)).toList = parts.toList.map fun (x : Nat × Operand) => (x.1, a.eval x.2) := hl
        simp only [Instr.build, Sem.run_bind, hzr, run_underlying hu, mapM_places hf, Result.andThen_ok]
        rw [hl', hr3]
        rfl
    · rename_i len e z ps hu hz hp
      split at h
      · rename_i sz hs
        obtain ⟨cs, h1, h2⟩ := bind_ok h
        simp only [Res.ok.injEq, Plan.val.injEq] at h2; subst h2
        obtain ⟨i, zv, hi, hzv, hzc, hzr⟩ := zeroC_ok (V := V) (ρ := ρ) hz
        obtain ⟨rc, hr1, hr2⟩ := fill_ok (V := V) (ρ := ρ) (parts_ok ht hp) hzc (orBad_ok h1)
        refine Val1.of (s := Instr.build t (parts.map fun (i, x) => (i, a.eval x))) (by unfold execOp; rw [ho]) (Reck.mk (rv := .agg rc) ?_ ⟨rc, rfl, hr2⟩)
        have hl' : (parts.map fun (x : Nat × Operand) => match x with | (i, x) => (i, a.eval x)).toList = parts.toList.map fun (x : Nat × Operand) => (x.1, a.eval x.2) := by
          rw [Array.toList_map]
        simp only [Instr.build, Sem.run_bind, hzr, run_underlying hu, run_sizeP hs, Result.andThen_ok]
        rw [hl', hr1]
        rfl
      · simp at h
    · simp at h
  case h_7 t len parts =>
    split at h
    · split at h
      · rename_i hb
        cases hc : (Nat.beq _ _ && Nat.ble _ _) <;> rw [hc] at h
        · simp at h
        · obtain ⟨u, h1, h2⟩ := bind_ok h
          cases h2
      · simp at h
    · simp at h
  case h_8 t x =>
    split at h <;> cases h
  case h_9 t x y =>
    split at h
    · rename_i n b o' cs _ _ _
      cases hc : Nat.beq cs.length n <;> rw [hc] at h <;> cases h
    · cases h
  case h_10 x =>
    split at h <;> rename_i hx <;> (try (cases h; done)) <;> simp only [Res.ok.injEq, Plan.val.injEq] at h <;> subst h
    · have hv := evalX_ok ht hx
      obtain ⟨q, hq, he⟩ := hv
      exact .pure (rv := a.eval x) (by unfold execOp; rw [ho]; simp only [he]) (evalX_ok ht hx)
    · have hv := evalX_ok ht hx
      obtain ⟨q, he, hq⟩ := hv
      exact .pure (rv := a.eval x) (by unfold execOp; rw [ho]; simp only [he]) (evalX_ok ht hx)
    · have hv := evalX_ok ht hx
      obtain ⟨q, hq, he⟩ := hv
      exact .pure (rv := a.eval x) (by unfold execOp; rw [ho]; simp only [he]) (evalX_ok ht hx)
    · have hv := evalX_ok ht hx
      obtain ⟨q, k, hq, hk, hke, he⟩ := hv
      exact .pure (rv := a.eval x) (by unfold execOp; rw [ho]; simp only [he]) (evalX_ok ht hx)
  case h_11 op t x y yt =>
    split at h
    · rename_i sx sy hx hy
      obtain ⟨u, h1, h2⟩ := bind_ok h
      simp only [Res.ok.injEq, Plan.val.injEq] at h2; subst h2
      exact .of (by unfold execOp; rw [ho]) (binV_ok hg h1 (evalX_ok ht hx) (evalX_ok ht hy) w x y)
    · cases h
  case h_12 op t x =>
    obtain ⟨u, h1, h2⟩ := bind_ok h
    obtain ⟨u2, h3, h4⟩ := bind_ok h2
    simp only [Res.ok.injEq, Plan.val.injEq] at h4; subst h4
    exact .of (by unfold execOp; rw [ho]) (unV_ok h3 (evalX_ok ht (orBad_ok h1)) w)
  case h_13 s d x =>
    obtain ⟨u, h1, h2⟩ := bind_ok h
    obtain ⟨u2, h3, h4⟩ := bind_ok h2
    simp only [Res.ok.injEq, Plan.val.injEq] at h4; subst h4
    exact .of (by unfold execOp; rw [ho]) (convV_ok h3 (evalX_ok ht (orBad_ok h1)) w)
  case h_14 f first caps =>
    cases hc : first.isEmpty <;> rw [hc] at h
    · simp only [cond_false] at h
      split at h
      · rename_i x hfl hce
        split at h
        · rename_i b off hx
          simp only [Res.ok.injEq, Plan.val.injEq] at h; subst h
          have h0 : caps = #[] := Array.isEmpty_iff.1 hce
          subst h0
          have h1 : first = #[x] := Array.ext' hfl
          subst h1
          obtain ⟨q, hq, he⟩ := evalX_ok ht hx
          exact .of (s := Instr.makeFunc (.func f) (#[x].map a.eval) (#[].map a.eval)) (by unfold execOp; rw [ho]) (Reck.mk (rv := .func (.func f) #[.pointer (some ⟨q.1, q.2.1 + off, none⟩)] #[]) (by simp [Instr.makeFunc, he]) ⟨q, hq, rfl⟩)
        · cases h
      · cases h
    · simp only [cond_true] at h
      split at h
      · rename_i l hl
        obtain ⟨u, h1, h2⟩ := bind_ok h
        simp only [Res.ok.injEq, Plan.val.injEq] at h2; subst h2
        have h0 : first = #[] := Array.isEmpty_iff.1 hc
        subst h0
        refine .of (s := Instr.makeFunc (.func f) (#[].map a.eval) (caps.map a.eval)) (by unfold execOp; rw [ho]) (Reck.mk (rv := .func (.func f) #[] (caps.map a.eval)) (by simp [Instr.makeFunc]) ⟨_, rfl, ?_⟩)
        rw [Array.toList_map]
        exact capsOf_ok (orBad_ok h1) (allEval_ok ht hl)
      · cases h
  case h_15 t l c =>
    split at h
    · split at h
      · rename_i i _ _ _ _ _
        cases hc : (Nat.beq _ _ && Nat.ble _ _ && Nat.ble _ 1000000 && Nat.ble i.bytes 100000) <;> rw [hc] at h <;> cases h
      · cases h
    · cases h
  case h_16 t x lo hi mx =>
    split at h
    · rename_i e b o' len cap hu hx
      split at h
      · rename_i s m hh l hs hm hhi hlo
        cases hc : (Nat.ble m cap && Nat.ble hh m && Nat.ble l hh && (mx.isNone || hi.isSome)) <;> rw [hc] at h
        · cases h
        · simp only [cond_true, Res.ok.injEq, Plan.val.injEq] at h; subst h
          simp only [Bool.and_eq_true, Bool.or_eq_true] at hc
          obtain ⟨⟨⟨c1, c2⟩, c3⟩, c4⟩ := hc
          have c1 := Nat.le_of_ble_eq_true c1
          have c2 := Nat.le_of_ble_eq_true c2
          have c3 := Nat.le_of_ble_eq_true c3
          obtain ⟨q, n, hq, he, hn1, hn2⟩ := evalX_ok ht hx
          simp only at hn2
          subst hn2
          have hmx : mx.map a.eval = none ∨ hi.map a.eval ≠ none := by
            rcases c4 with c4 | c4
            · left; cases mx <;> simp at c4 ⊢
            · right; cases hi <;> simp at c4 ⊢
          have hr := slice_known (P := P) hu hs q.1 (q.2.1 + o') len n (opt_ok ht hm) (opt_ok ht hhi) (opt_ok ht hlo) c1 c2 c3 hmx w
          refine .of (s := Instr.sliceAt t (a.eval x) (lo.map a.eval) (hi.map a.eval) (mx.map a.eval)) (by unfold execOp; rw [ho]) (Reck.mk (by rw [he]; exact hr) ⟨q, m - l, hq, ?_, by omega, rfl⟩)
          congr 3
          by_cases hml : m = l
          · rw [if_pos hml, hml]
            have : Nat.beq l l = true := by simp
            rw [this]; rfl
          · rw [if_neg hml]
            have : Nat.beq m l = false := Bool.eq_false_iff.2 fun hh => hml (Nat.eq_of_beq_eq_true hh)
            rw [this]; simp only [cond_false]; omega
      · cases h
    · rename_i e b o' len sz hu hx
      split at h
      · rename_i s hh l hs hhi hlo
        cases hc : (Nat.ble hh len && Nat.blt l hh && Nat.beq s sz) <;> rw [hc] at h
        · cases h
        · simp only [cond_true, Res.ok.injEq, Plan.val.injEq] at h; subst h
          simp only [Bool.and_eq_true] at hc
          obtain ⟨⟨c1, c2⟩, c3⟩ := hc
          have c1 := Nat.le_of_ble_eq_true c1
          have c2 : l < hh := Nat.le_of_ble_eq_true c2
          have c3 := Nat.eq_of_beq_eq_true c3
          subst c3
          obtain ⟨q, n, hq, he, hn1, hn2⟩ := evalX_ok ht hx
          simp only at hn2
          have hr := slice_known (P := P) hu hs q.1 (q.2.1 + o') len n (mx := none) (.inl ⟨rfl, rfl⟩) (opt_ok ht hhi) (opt_ok ht hlo) (Nat.le_refl _) (by omega) (by omega) (.inl rfl) w
          refine .of (s := Instr.sliceAt t (a.eval x) (lo.map a.eval) (hi.map a.eval) none) (by unfold execOp; rw [ho]; rfl) (Reck.mk (by rw [he]; exact hr) ⟨q, n - l, hq, ?_, by omega, ?_⟩)
          · congr 3
            rw [if_neg (by omega)]; omega
          · have : (n - l) * s + l * s = n * s := by rw [← Nat.add_mul]; congr 1; omega
            omega
      · cases h
    · cases h
  case h_17 s x f =>
    split at h
    · rename_i fs b o' hu hx
      split at h
      · rename_i fd hfd
        split at h
        · rename_i n hn
          cases hc : Nat.beq n 0 <;> rw [hc] at h
          · simp only [cond_false, Res.ok.injEq, Plan.val.injEq] at h; subst h
            obtain ⟨q, hq, he⟩ := evalX_ok ht hx
            have hn0 : n ≠ 0 := fun e => by subst e; simp at hc
            refine .of (s := Instr.fieldAt s (a.eval x) f) (by unfold execOp; rw [ho]) (Reck.mk (rv := .pointer (some ⟨q.1, q.2.1 + o' + fd.offset, none⟩)) ?_ ⟨q, hq, by rw [Nat.add_assoc]⟩)
            rw [he]
            simp [Instr.fieldAt, run_underlying hu, hfd, Instr.sureAddr, run_field_place hn hn0]
          · cases h
        · cases h
      · cases h
    · rename_i fs b o' s' k e hu hx
      split at h
      · rename_i fd hfd
        split at h
        · rename_i n hn
          cases hc : Nat.beq n 0 <;> rw [hc] at h
          · simp only [cond_false, Res.ok.injEq, Plan.val.injEq] at h; subst h
            obtain ⟨q, i, hq, hi, hie, he⟩ := evalX_ok ht hx
            have hn0 : n ≠ 0 := fun e => by subst e; simp at hc
            refine .of (s := Instr.fieldAt s (a.eval x) f) (by unfold execOp; rw [ho]) (Reck.mk (rv := .pointer (some ⟨q.1, q.2.1 + (o' + s' * i) + fd.offset, none⟩)) ?_ ⟨q, i, hq, hi, hie, by rw [show q.2.1 + (o' + s' * i) + fd.offset = q.2.1 + (o' + fd.offset + s' * i) by omega]⟩)
            rw [he]
            simp [Instr.fieldAt, run_underlying hu, hfd, Instr.sureAddr, run_field_place hn hn0]
          · cases h
        · cases h
      · cases h
    · cases h
  case h_18 t x f =>
    split at h
    · rename_i fs cs hu hx
      split at h
      · rename_i fd hfd
        obtain ⟨u, h1, h2⟩ := bind_ok h
        simp only [Res.ok.injEq, Plan.val.injEq] at h2; subst h2
        obtain ⟨vs, he, hv⟩ := evalX_ok ht hx
        obtain ⟨rv, hr1, hr2⟩ := part_ok (orBad_ok h1) hv w
        refine .of (s := Instr.field t (a.eval x) f) (by unfold execOp; rw [ho]) (Reck.mk (rv := rv) ?_ hr2)
        rw [he]
        simp [Instr.field, run_underlying hu, hfd, asAgg, hr1]
      · cases h
    · cases h
  case h_19 t x ix =>
    split at h
    · rename_i e b o' len cap i hu hx hi
      split at h
      · rename_i s hs
        cases hc : Nat.blt i len <;> rw [hc] at h
        · cases h
        · simp only [cond_true, Res.ok.injEq, Plan.val.injEq] at h; subst h
          have hlt : i < len := Nat.le_of_ble_eq_true hc
          obtain ⟨q, n, hq, he, -, -⟩ := evalX_ok ht hx
          obtain ⟨k, hik⟩ := asNat_ok hi fun s hs => evalX_ok ht hs
          refine .of (s := Instr.indexAt t (a.eval x) (a.eval ix)) (by unfold execOp; rw [ho]) (Reck.mk (rv := .pointer (some ⟨q.1, q.2.1 + o' + i * s, none⟩)) ?_ ⟨q, hq, by rw [Nat.add_assoc]⟩)
          rw [he, hik]
          simp [Instr.indexAt, run_underlying hu, asIntOf, hlt, run_sizeP hs, addr_add]
      · cases h
    · rename_i len e b o' i hu hx hi
      split at h
      · rename_i s hs
        cases hc : Nat.blt i len <;> rw [hc] at h
        · cases h
        · simp only [cond_true, Res.ok.injEq, Plan.val.injEq] at h; subst h
          have hlt : i < len := Nat.le_of_ble_eq_true hc
          obtain ⟨q, hq, he⟩ := evalX_ok ht hx
          obtain ⟨k, hik⟩ := asNat_ok hi fun s hs => evalX_ok ht hs
          refine .of (s := Instr.indexAt t (a.eval x) (a.eval ix)) (by unfold execOp; rw [ho]) (Reck.mk (rv := .pointer (some ⟨q.1, q.2.1 + o' + i * s, none⟩)) ?_ ⟨q, hq, by rw [Nat.add_assoc]⟩)
          rw [he, hik]
          simp [Instr.indexAt, Instr.sureAddr, run_underlying hu, asIntOf, hlt, run_sizeP hs, addr_add]
      · cases h
    · rename_i e j b i hu hx hi
      split at h
      · rename_i s hs
        cases hs1 : Nat.beq s 1 <;> rw [hs1] at h
        · cases h
        · simp only [cond_true] at h
          have hs1 := Nat.eq_of_beq_eq_true hs1
          subst hs1
          obtain ⟨t', h1, h2⟩ := bind_ok h
          cases t'
          · cases h2
          · simp only [cond_true, Res.ok.injEq, Plan.val.injEq] at h2; subst h2
            have hlt := truthE_ok hg h1
            have hlt : i < (V.arr j).size := by
              have := (lss_true _ _).1 (show icV .lss (i : Int) (Int.ofNat (V.arr j).size) = true from hlt)
              simpa using this
            obtain ⟨q, cp, hq, hj, he, hall⟩ := evalX_ok ht hx
            obtain ⟨k, hik⟩ := asNat_ok hi fun s hs => evalX_ok ht hs
            obtain ⟨n, hn⟩ := hall i _ (Array.getElem?_eq_getElem hlt)
            refine .of (s := Instr.indexAt t (a.eval x) (a.eval ix)) (by unfold execOp; rw [ho]) (Reck.mk (rv := .pointer (some ⟨q.1, q.2.1 + i, none⟩)) ?_ ⟨q, n, hq, hj, rfl, by rw [Array.getElem?_eq_getElem hlt, hn]⟩)
            rw [he, hik]
            simp [Instr.indexAt, Instr.sureAddr, run_underlying hu, asIntOf, hlt, run_sizeP hs, addr_add]
      · cases h
    · rename_i e j b i hu hx hi
      split at h
      · rename_i s hs
        cases hs1 : Nat.beq s 1 <;> rw [hs1] at h
        · cases h
        · simp only [cond_true] at h
          have hs1 := Nat.eq_of_beq_eq_true hs1
          subst hs1
          obtain ⟨t', h1, h2⟩ := bind_ok h
          cases t'
          · cases h2
          · simp only [cond_true, Res.ok.injEq, Plan.val.injEq] at h2; subst h2
            have hlt := truthE_ok hg h1
            have hlt : i < (V.arr j).size := by
              have := (lss_true _ _).1 (show icV .lss (i : Int) (Int.ofNat (V.arr j).size) = true from hlt)
              simpa using this
            obtain ⟨q, cp, hq, hj, he, hall⟩ := evalX_ok ht hx
            obtain ⟨k, hik⟩ := asNat_ok hi fun s hs => evalX_ok ht hs
            obtain ⟨n, hn, hnl⟩ := hall i _ (Array.getElem?_eq_getElem hlt)
            refine .of (s := Instr.indexAt t (a.eval x) (a.eval ix)) (by unfold execOp; rw [ho]) (Reck.mk (rv := .pointer (some ⟨q.1, q.2.1 + i, none⟩)) ?_ ⟨q, n, hq, hj, rfl, by rw [Array.getElem?_eq_getElem hlt, hn], hnl⟩)
            rw [he, hik]
            simp [Instr.indexAt, Instr.sureAddr, run_underlying hu, asIntOf, hlt, run_sizeP hs, addr_add]
      · cases h
    · rename_i e b o' len cap hu hx hi
      obtain ⟨c, h1, h2⟩ := bind_ok h
      simp only [Res.ok.injEq, Plan.val.injEq] at h2; subst h2
      obtain ⟨ie, s, i, hix, hs, rfl, hie, hlt⟩ := idxX_ok hg h1
      obtain ⟨q, n, hq, he, -, -⟩ := evalX_ok ht hx
      have hiv : a.eval ix = .int .i64 (evI V ie) := evalX_ok ht hix
      refine .of (s := Instr.indexAt t (a.eval x) (a.eval ix)) (by unfold execOp; rw [ho]) (Reck.mk (rv := .pointer (some ⟨q.1, q.2.1 + o' + i * s, none⟩)) ?_ ⟨q, i, hq, hlt, hie, by rw [show q.2.1 + o' + i * s = q.2.1 + (o' + s * i) by rw [Nat.mul_comm s i]; omega]⟩)
      rw [he, hiv, hie]
      simp [Instr.indexAt, Instr.sureAddr, run_underlying hu, asIntOf, hlt, run_sizeP hs, addr_add]
    · rename_i len e b o' hu hx hi
      obtain ⟨c, h1, h2⟩ := bind_ok h
      simp only [Res.ok.injEq, Plan.val.injEq] at h2; subst h2
      obtain ⟨ie, s, i, hix, hs, rfl, hie, hlt⟩ := idxX_ok hg h1
      obtain ⟨q, hq, he⟩ := evalX_ok ht hx
      have hiv : a.eval ix = .int .i64 (evI V ie) := evalX_ok ht hix
      refine .of (s := Instr.indexAt t (a.eval x) (a.eval ix)) (by unfold execOp; rw [ho]) (Reck.mk (rv := .pointer (some ⟨q.1, q.2.1 + o' + i * s, none⟩)) ?_ ⟨q, i, hq, hlt, hie, by rw [show q.2.1 + o' + i * s = q.2.1 + (o' + s * i) by rw [Nat.mul_comm s i]; omega]⟩)
      rw [he, hiv, hie]
      simp [Instr.indexAt, Instr.sureAddr, run_underlying hu, asIntOf, hlt, run_sizeP hs, addr_add]
    · cases h
  case h_20 t x ix =>
    split at h
    · rename_i len e cs i hu hx hi
      split at h
      · rename_i s hs
        cases hc : Nat.blt i len <;> rw [hc] at h
        · cases h
        · simp only [cond_true] at h
          obtain ⟨u, h1, h2⟩ := bind_ok h
          simp only [Res.ok.injEq, Plan.val.injEq] at h2; subst h2
          have hlt : i < len := Nat.le_of_ble_eq_true hc
          obtain ⟨vs, he, hv⟩ := evalX_ok ht hx
          obtain ⟨k, hik⟩ := asNat_ok hi fun s hs => evalX_ok ht hs
          obtain ⟨rv, hr1, hr2⟩ := part_ok (orBad_ok h1) hv w
          refine .of (s := Instr.index t (a.eval x) (a.eval ix)) (by unfold execOp; rw [ho]) (Reck.mk (rv := rv) ?_ hr2)
          rw [he, hik]
          simp [Instr.index, run_underlying hu, asIntOf, hlt, run_sizeP hs, hr1]
      · cases h
    · cases h
  case h_21 t i =>
    split at h
    · rename_i l hx
      obtain ⟨u, h1, h2⟩ := bind_ok h
      simp only [Res.ok.injEq, Plan.val.injEq] at h2; subst h2
      obtain ⟨vs, he, hv⟩ := evalX_ok ht hx
      obtain ⟨rv, hr1, hr2⟩ := hv.get (orBad_ok h1)
      have hr1' : vs[i]? = some rv := by simpa using hr1
      refine .of (s := Instr.extract (a.eval t) i) (by unfold execOp; rw [ho]) (Reck.mk (rv := rv) ?_ (toSV1_ok hr2))
      rw [he]
      simp [Instr.extract, hr1']
    · cases h
  case h_22 c =>
    split at h
    · split at h <;> cases h
    · rename_i b hb
      have hbl : b = .len := by
        unfold planBuiltin at h
        split at h
        · rfl
        · split at h
          · rename_i t t2 x y _ _ _
            cases hc : (Nat.beq t t2 && Nat.beq c.argTypes.size 2) <;> rw [hc] at h
            · cases h
            · simp only [cond_true] at h
              split at h
              · split at h
                · rename_i i _ _ z _ _ _ _
                  cases hc2 : (Nat.ble i.bytes 100000 && Nat.beq z.length i.size) <;> rw [hc2] at h <;> cases h
                · cases h
              · cases h
          · cases h
        · split at h
          · split at h
            · split at h <;> cases h
            · cases h
          · cases h
        · cases h
      subst hbl
      obtain ⟨rv, h1, h2⟩ := len_ok ht h o.type w
      refine ⟨rv, 0, ?_, h2⟩
      rw [exec_builtin ho hb]
      show (do pure (Next.value (← Builtin.len_ c.argTypes o.type (c.args.map a.eval))) : Sem Next).run P w = _
      exact run_v h1
    · cases h
end Go.Proofs.Ytbepaoliboooaaa.Ex
