/-
  The runner's operations on numbers beside Go's: of two, of one, conversions.
-/
import Derived.Test.YtbepaoliboooaaaExc
namespace Go.Proofs.Ytbepaoliboooaaa.Ex
open Go
variable {P : Program} {V : Val} {ρ : Rho}

theorem run_binI (w : World) (op : BinOp) (t : TypeId) (k k' : IntKind) (a b : Int) (hs : isShift op = true → ¬ b < 0) (hk : isShift op = false → k = k') (hd : isDiv op = true → b ≠ 0) :
    (binOp op t (.int k a) (.int k' b)).run P w = .ok (if isCmp op then .bool (icV op a b) else .int k (ibV op k a b)) w := by
  cases op <;> simp only [isShift, isDiv, reduceCtorEq, false_implies, forall_const] at hs hk hd <;> (try subst hk) <;>
    simp [binOp, Op.shift, Op.intArith, Op.intDiv, Op.intBits, Op.intCmp, ibV, icV, bitsV, wrapF_eq, isCmp, hs, hd] <;> rfl

theorem run_binF (w : World) (op : BinOp) (t : TypeId) (x y : Nat) (hop : isFArith op = true) :
    (binOp op t (.float .f64 x) (.float .f64 y)).run P w = .ok (.float .f64 (fval op w x y)) (w.drewN (ndraw op x y)) :=
  run_fop P w op (by cases op <;> simp [isFArith] at hop <;> simp) t x y

theorem run_cmpF (w : World) (op : BinOp) (t : TypeId) (x y : Nat) (hop : isCmp op = true) :
    (binOp op t (.float .f64 x) (.float .f64 y)).run P w = .ok (.bool (fcV op x y)) w := by
  cases op <;> simp [isCmp] at hop <;> simp [binOp, Op.floatCmp, fcV, ord_lt, ord_eq, ord_gt, ord_ne, ord_le, ord_ge]

theorem run_eqGuard_op (w : World) (op : BinOp) (t : TypeId) (X Y : Operand) (x y : Value) (h : op ≠ .eql ∧ op ≠ .neq) : (eqGuard op t X Y x y).run P w = .ok () w := by
  obtain ⟨h1, h2⟩ := h
  unfold eqGuard
  cases op <;> simp at h1 h2 <;> rfl
theorem run_eqGuard_cell (w : World) (op : BinOp) (t : TypeId) (X Y : Operand) {x y : Value} {a : C} (hx : CR V ρ a x) (ha : a ≠ .u) : (eqGuard op t X Y x y).run P w = .ok () w := by
  have h1 : ∀ cs, x ≠ .agg cs := fun cs e => by have := hx.one; rw [e] at this; simp [Value.oneCell'] at this
  have h2 : x ≠ .nilIface := fun e => by
    subst e
    cases a <;> simp [CR] at hx ha
  unfold eqGuard
  cases op <;> first | rfl | (cases x <;> first | rfl | (exact absurd rfl (h1 _)) | exact absurd rfl h2)

theorem eqGuardType_plain {t : TypeId} {x : C} (h : plainT P t x = true) (d : Nat) : P.eqGuardType (d + 1) t = false := by
  unfold Program.eqGuardType
  rcases plain_cases h with ⟨hu, -⟩ | ⟨k, hu, -⟩ | ⟨hu, -⟩ <;> rw [hu]
theorem eqFs_guard {rec : TypeId → SV → SV → Option C} {k : Nat} (hrec : ∀ t a b c, rec t a b = some c → P.eqGuardType k t = false) {xs ys : List C} :
    ∀ (fs : List Field) (c : C), eqFs P rec xs ys fs = some c → ∀ f ∈ fs, P.eqGuardType k f.type = false
  | [], c, _, f, hf => by cases hf
  | g :: fs, c, h, f, hf => by
    unfold eqFs at h
    cases hn : (g.name != "_") <;> rw [hn] at h
    · cases h
    · simp only [cond_true] at h
      split at h
      · split at h
        · cases h
        · rename_i c1 hc1
          split at h
          · cases h
          · rename_i c2 hc2
            rcases List.mem_cons.1 hf with rfl | hf
            · exact hrec _ _ _ _ hc1
            · exact eqFs_guard hrec fs c2 hc2 f hf
      · cases h
theorem eqD_guard : ∀ (n : Nat) (t : TypeId) (x y : SV) (c : C), eqD P n t x y = some c → ∀ k, n ≤ k → P.eqGuardType k t = false
  | 0, _, _, _, _, h, _, _ => by cases h
  | n + 1, t, x, y, c, h, k, hk => by
    obtain ⟨k, rfl⟩ : ∃ m, k = m + 1 := ⟨k - 1, by omega⟩
    unfold eqD at h
    split at h
    · rename_i xs ys
      split at h
      · rename_i fs hu
        cases hs : P.stoodInHeld t <;> rw [hs] at h
        · simp only [Bool.not_false, cond_true] at h
          have hp := eqFs_guard (k := k) (fun t a b c h => eqD_guard n t a b c h k (by omega)) fs.toList c h
          unfold Program.eqGuardType
          rw [hu]
          simp only [Array.any_eq_false]
          intro i hi hc
          rw [hp fs[i] (by simp)] at hc
          simp at hc
        · cases h
      · rename_i m e hu
        split at h
        · rename_i s hs
          unfold Program.eqGuardType
          rw [hu]
          rw [List.range_succ_eq_map] at h
          unfold eqIs at h
          split at h
          · split at h
            · cases h
            · rename_i c1 hc1
              exact eqD_guard n e _ _ c1 hc1 k (by omega)
          · cases h
        · cases h
      · cases h
    · rename_i x y
      cases hp : (plainT P t x && plainT P t y) <;> rw [hp] at h
      · cases h
      · simp only [Bool.and_eq_true] at hp
        exact eqGuardType_plain hp.1 k
    · cases h
theorem eqGuardType_agg {t : TypeId} {xs ys : List C} {c : C} (h : eqAgg P t xs ys = some c) : P.eqGuardType P.depth t = false := by
  unfold eqAgg at h
  cases hd : Nat.ble 9 P.depth <;> rw [hd] at h
  · cases h
  · simp only [cond_true] at h
    exact eqD_guard 9 t _ _ c h P.depth (Nat.le_of_ble_eq_true hd)
theorem run_eqGuard_agg (w : World) (op : BinOp) (t : TypeId) (X Y : Operand) {vx vy : Array Value} (h : P.eqGuardType P.depth t = false) : (eqGuard op t X Y (.agg vx) (.agg vy)).run P w = .ok () w := by
  unfold eqGuard
  cases op <;> first | rfl | simp [h]

theorem eqV_guard {t : TypeId} {a b : SV} {c : C} (h : eqV P t a b = some c) {vx vy : Value} (ra : VR V ρ a vx) (rb : VR V ρ b vy) (w : World) (op : BinOp) (X Y : Operand) :
    (eqGuard op t X Y vx vy).run P w = .ok () w := by
  unfold eqV at h
  split at h
  · rename_i x y
    refine run_eqGuard_cell (V := V) (ρ := ρ) w op t X Y ra ?_
    rintro rfl
    split at h
    · rename_i hq; cases y <;> simp [eqC, C.toI, C.toF, C.toB] at hq
    · unfold nilish at h; split at h <;> simp_all
  · rename_i xs ys
    obtain ⟨v1, rfl, r1⟩ := ra
    obtain ⟨v2, rfl, r2⟩ := rb
    exact run_eqGuard_agg w op t X Y (eqGuardType_agg h)
  · simp at h

/-- Values that '==' hands to 'equal' as they are. -/
def plainV : Value → Bool
  | .int _ _ | .float _ _ | .complex _ _ _ | .string _ => false
  | _ => true
theorem run_eql (w : World) (t : TypeId) {vx vy : Value} {b : Bool} (h : (Op.equal t vx vy).run P w = .ok b w) (hx : plainV vx = true) :
    (binOp .eql t vx vy).run P w = .ok (.bool b) w ∧ (binOp .neq t vx vy).run P w = .ok (.bool (!b)) w := by
  have e : binOp .eql t vx vy = (do pure (.bool (← Op.equal t vx vy))) ∧ binOp .neq t vx vy = (do pure (.bool (!(← Op.equal t vx vy)))) := by
    cases vx <;> simp [plainV] at hx <;> cases vy <;> exact ⟨rfl, rfl⟩
  rw [e.1, e.2]
  simp [h]
theorem eqable_ok {a : SV} {v : Value} (h : eqable a = true) (r : VR V ρ a v) : plainV v = true := by
  cases a with
  | c x =>
    cases x <;> simp [eqable] at h <;> simp only [VR, CR] at r
    all_goals (first | (obtain ⟨q, n, -, -, rfl, -⟩ := r; rfl) | (obtain ⟨q, n, -, -, -, rfl⟩ := r; rfl) | (obtain ⟨q, n, rfl⟩ := r; rfl) | (subst r; rfl) | (obtain ⟨q, -, rfl⟩ := r; rfl) | (obtain ⟨q, n, -, rfl, -⟩ := r; rfl) | (obtain ⟨q, rfl, -⟩ := r; rfl))
  | ag l => obtain ⟨q, rfl, -⟩ := r; rfl
  | tu l => obtain ⟨q, rfl, -⟩ := r; rfl

/-- What an operation on two gives. -/
def Reck (P : Program) (V : Val) (ρ : Rho) (s : Sem Value) (w : World) (v : SV) : Prop := ∃ rv n, s.run P w = .ok rv (w.drewN n) ∧ VR V ρ v rv

theorem Reck.mk {s : Sem Value} {w : World} {v : SV} {rv : Value} (h : s.run P w = .ok rv w) (r : VR V ρ v rv) : Reck P V ρ s w v := ⟨rv, 0, h, r⟩

theorem binII_ok {op : BinOp} {k k' : IntKind} {a b : Int} {c : C} (h : binII op k k' a b = .ok c) (w : World) (t : TypeId) :
    ∃ rv, (binOp op t (.int k a) (.int k' b)).run P w = .ok rv w ∧ CR V ρ c rv := by
  unfold binII at h
  cases hs : isShift op <;> rw [hs] at h
  · simp only [cond_false] at h
    split at h
    · rename_i hk
      cases hc : isCmp op <;> rw [hc] at h
      · simp only [cond_false] at h
        cases hd : (isDiv op && decide (b = 0)) <;> rw [hd] at h
        · simp only [cond_false, Res.ok.injEq] at h
          subst h
          refine ⟨_, run_binI w op t k k' a b (fun e => absurd e (by simp [hs])) (fun _ => hk) (fun e hb => by rw [e, hb] at hd; simp at hd), ?_⟩
          rw [hc]; rfl
        · simp at h
      · simp only [cond_true, Res.ok.injEq] at h
        subst h
        refine ⟨_, run_binI w op t k k' a b (fun e => absurd e (by simp [hs])) (fun _ => hk) (fun e _ => by cases op <;> simp [isDiv, isCmp] at e hc), ?_⟩
        rw [hc]; rfl
    · simp at h
  · simp only [cond_true] at h
    cases hb : decide (b < 0) <;> rw [hb] at h
    · simp only [cond_false, Res.ok.injEq] at h
      subst h
      have hc : isCmp op = false := by cases op <;> simp [isShift] at hs <;> rfl
      have hd : isDiv op = false := by cases op <;> simp [isShift] at hs <;> rfl
      refine ⟨_, run_binI w op t k k' a b (fun _ => by simpa using hb) (fun e => absurd e (by simp [hs])) (fun e => absurd e (by simp [hd])), ?_⟩
      rw [hc]; rfl
    · simp at h

theorem binEI_ok {g : Gam} (hg : GamOK V g) {op : BinOp} {k k' : IntKind} {a b : E} {c : C} (h : binEI g op k k' a b = .ok c) (w : World) (t : TypeId) :
    ∃ rv, (binOp op t (.int k (evI V a)) (.int k' (evI V b))).run P w = .ok rv w ∧ CR V ρ c rv := by
  unfold binEI at h
  cases hs : isShift op <;> rw [hs] at h
  · simp only [cond_false] at h
    split at h
    · rename_i hk
      cases hc : isCmp op <;> rw [hc] at h
      · simp only [cond_false] at h
        have key : (isDiv op = true → evI V b ≠ 0) ∧ c = .ei k (.ib op k a b) := by
          cases hd : isDiv op <;> rw [hd] at h
          · simp only [cond_false, Res.ok.injEq] at h
            exact ⟨fun e => absurd e (by simp), h.symm⟩
          · simp only [cond_true] at h
            split at h
            · rename_i n
              cases hn : decide (n = 0) <;> rw [hn] at h
              · simp only [cond_false, Res.ok.injEq] at h
                exact ⟨fun _ => by simpa [evI] using hn, h.symm⟩
              · simp at h
            · split at h <;> simp only [Res.ok.injEq, reduceCtorEq] at h
              rename_i ht
              have := truthE_ok hg ht
              exact ⟨fun _ => of_decide_eq_false this, h.symm⟩
        obtain ⟨h1, rfl⟩ := key
        refine ⟨_, run_binI w op t k k' _ _ (fun e => absurd e (by simp [hs])) (fun _ => hk) h1, ?_⟩
        rw [hc]; rfl
      · simp only [cond_true, Res.ok.injEq] at h
        subst h
        refine ⟨_, run_binI w op t k k' _ _ (fun e => absurd e (by simp [hs])) (fun _ => hk) (fun e _ => by cases op <;> simp [isDiv, isCmp] at e hc), ?_⟩
        rw [hc]; rfl
    · simp at h
  · simp only [cond_true] at h
    have hc : isCmp op = false := by cases op <;> simp [isShift] at hs <;> rfl
    have hd : isDiv op = false := by cases op <;> simp [isShift] at hs <;> rfl
    have key : ¬ evI V b < 0 ∧ c = .ei k (.ib op k a b) := by
      split at h
      · rename_i n
        cases hn : decide (n < 0) <;> rw [hn] at h
        · simp only [cond_false, Res.ok.injEq] at h
          exact ⟨by simpa [evI] using hn, h.symm⟩
        · simp at h
      · split at h <;> simp only [Res.ok.injEq, reduceCtorEq] at h
        rename_i ht
        have := truthE_ok hg ht
        exact ⟨of_decide_eq_false this, h.symm⟩
    obtain ⟨h1, rfl⟩ := key
    refine ⟨_, run_binI w op t k k' _ _ (fun _ => h1) (fun e => absurd e (by simp [hs])) (fun e => absurd e (by simp [hd])), ?_⟩
    rw [hc]; rfl

theorem bind_ok {α β : Type} {r : Res α} {f : α → Res β} {b : β} (h : r.bind f = .ok b) : ∃ a, r = .ok a ∧ f a = .ok b := by
  cases r <;> simp [Res.bind] at h
  exact ⟨_, rfl, h⟩
theorem orBad_ok {α : Type} {n : Nat} {o : Option α} {a : α} (h : orBad n o = .ok a) : o = some a := by
  cases o <;> simp [orBad] at h
  rw [h]

theorem run_guarded {w : World} {op : BinOp} {t : TypeId} {X Y : Operand} {vx vy : Value} (h : (eqGuard op t X Y vx vy).run P w = .ok () w) :
    (do eqGuard op t X Y vx vy; binOp op t vx vy : Sem Value).run P w = (binOp op t vx vy).run P w := by
  simp [h]

theorem float_Reck {w : World} {op : BinOp} {t : TypeId} {X Y : Operand} {x y x' y' : Nat} (f1 : FR x x') (f2 : FR y y') {c : C} (hc : isCmp op = true → CR V ρ c (.bool (fcV op x y))) (ha : isCmp op = false → isFArith op = true ∧ ∀ z, FR (cop op x y) z → CR V ρ c (.float .f64 z)) :
    Reck P V ρ (do eqGuard op t X Y (.float .f64 x') (.float .f64 y'); binOp op t (.float .f64 x') (.float .f64 y') : Sem Value) w (.c c) := by
  have hgd : (eqGuard op t X Y (.float .f64 x') (.float .f64 y')).run P w = .ok () w := by unfold eqGuard; cases op <;> rfl
  unfold Reck
  rw [run_guarded hgd]
  cases h : isCmp op
  · obtain ⟨h1, h2⟩ := ha h
    exact ⟨_, _, run_binF w op t x' y' h1, h2 _ (f1.cop f2 w)⟩
  · refine ⟨_, 0, run_cmpF w op t x' y' h, ?_⟩
    rw [← fcV_FR f1 f2]
    exact hc h
theorem int_Reck {w : World} {op : BinOp} {t : TypeId} {X Y : Operand} {k k' : IntKind} {x y : Int} {c : C} (h : ∃ rv, (binOp op t (.int k x) (.int k' y)).run P w = .ok rv w ∧ CR V ρ c rv) :
    Reck P V ρ (do eqGuard op t X Y (.int k x) (.int k' y); binOp op t (.int k x) (.int k' y) : Sem Value) w (.c c) := by
  have hgd : (eqGuard op t X Y (.int k x) (.int k' y)).run P w = .ok () w := by unfold eqGuard; cases op <;> rfl
  unfold Reck
  rw [run_guarded hgd]
  obtain ⟨rv, h1, h2⟩ := h
  exact ⟨rv, 0, h1, h2⟩

theorem binV_ok {g : Gam} (hg : GamOK V g) {op : BinOp} {t : TypeId} {a b v : SV} (h : binV P g op t a b = .ok v) {vx vy : Value} (ra : VR V ρ a vx) (rb : VR V ρ b vy) (w : World) (X Y : Operand) :
    Reck P V ρ (do eqGuard op t X Y vx vy; binOp op t vx vy : Sem Value) w v := by
  unfold binV at h
  split at h
  · obtain ⟨c, h1, h2⟩ := bind_ok h
    simp only [Res.ok.injEq] at h2
    subst h2
    simp only [VR, CR] at ra rb
    subst ra; subst rb
    exact int_Reck (binII_ok h1 w t)
  · obtain ⟨x', rfl, f1⟩ := ra
    obtain ⟨y', rfl, f2⟩ := rb
    cases hc : isCmp op <;> rw [hc] at h
    · cases hf : isFArith op <;> rw [hf] at h <;> simp at h
      subst h
      exact float_Reck f1 f2 (fun e => absurd e (by simp [hc])) (fun _ => ⟨hf, fun z hz => ⟨z, rfl, hz⟩⟩)
    · simp at h
      subst h
      exact float_Reck f1 f2 (fun _ => rfl) (fun e => absurd e (by simp [hc]))
  · split at h
    · obtain ⟨c, h1, h2⟩ := bind_ok h
      simp only [Res.ok.injEq] at h2
      subst h2
      simp only [VR, CR] at ra rb
      subst ra; subst rb
      exact int_Reck (binEI_ok hg h1 w t)
    · obtain ⟨c, h1, h2⟩ := bind_ok h
      simp only [Res.ok.injEq] at h2
      subst h2
      simp only [VR, CR] at ra rb
      subst ra; subst rb
      exact int_Reck (binEI_ok hg h1 w t)
    · obtain ⟨c, h1, h2⟩ := bind_ok h
      simp only [Res.ok.injEq] at h2
      subst h2
      simp only [VR, CR] at ra rb
      subst ra; subst rb
      exact int_Reck (binEI_ok hg h1 w t)
    all_goals try (
      obtain ⟨x', rfl, f1⟩ := ra
      obtain ⟨y', rfl, f2⟩ := rb
      cases hc : isCmp op <;> rw [hc] at h
      · cases hf : isFArith op <;> rw [hf] at h <;> simp at h
        subst h
        exact float_Reck f1 f2 (fun e => absurd e (by simp [hc])) (fun _ => ⟨hf, fun z hz => ⟨z, rfl, by simpa [evF] using hz⟩⟩)
      · simp at h
        subst h
        exact float_Reck f1 f2 (fun _ => by simp [CR, evB, evF]) (fun e => absurd e (by simp [hc])))
    split at h
    · cases hq : eqable a <;> rw [hq] at h <;> simp only [cond_false, cond_true, reduceCtorEq] at h
      obtain ⟨c, h1, h2⟩ := bind_ok h
      simp only [Res.ok.injEq] at h2
      subst h2
      have h1 := orBad_ok h1
      obtain ⟨bb, e1, e2⟩ := eqV_ok h1 ra rb w
      unfold Reck
      rw [run_guarded (eqV_guard h1 ra rb w _ X Y)]
      exact ⟨_, 0, (run_eql w t e1 (eqable_ok hq ra)).1, e2⟩
    · cases hq : eqable a <;> rw [hq] at h <;> simp only [cond_false, cond_true, reduceCtorEq] at h
      obtain ⟨c, h1, h2⟩ := bind_ok h
      simp only [Res.ok.injEq] at h2
      subst h2
      have h1 := orBad_ok h1
      cases hv : eqV P t a b with
      | none => rw [hv] at h1; simp at h1
      | some c' =>
        rw [hv] at h1
        simp only [Option.bind_some] at h1
        obtain ⟨bb, e1, e2⟩ := eqV_ok hv ra rb w
        unfold Reck
        rw [run_guarded (eqV_guard hv ra rb w _ X Y)]
        exact ⟨_, 0, (run_eql w t e1 (eqable_ok hq ra)).2, notC_ok h1 e2⟩
    · simp at h

theorem FR.neg {x y : Nat} (h : FR x y) : FR (fnegV x) (Op.negFloat .f64 y) := by
  refine ⟨?_, flip_lt h.2⟩
  unfold fnegV
  rw [canon_canon, h.1]
  cases hn : isN y
  · rw [canon_num hn]
  · have e : canon y = nanB := by unfold canon; rw [hn]; rfl
    have h1 : isN (flip y) = true := by rw [flip_isN h.2, hn]
    have h2 : canon (flip y) = nanB := by unfold canon; rw [h1]; rfl
    rw [e]
    exact (show canon (Op.negFloat .f64 nanB) = nanB by decide).trans h2.symm
theorem FR.num {x y : Nat} (h : FR x y) (hx : isN x = false) : x = y := by
  have hy := h.nan
  have := h.1
  rw [canon_num hx, canon_num (by rw [← hy]; exact hx)] at this
  exact this
theorem FR.of_lt {x : Nat} (h : x < 18446744073709551616) : FR x x := ⟨rfl, h⟩
theorem i2fV_lt (n : Int) : i2fV n < 18446744073709551616 := by
  have := floatOfInt_wf .f64 n
  simp only [Lit.wf, decide_eq_true_eq] at this
  exact this
theorem unV_ok {op : UnOp} {a v : SV} (h : unV op a = .ok v) {vx : Value} (ra : VR V ρ a vx) (w : World) : Reck P V ρ (Op.unary op vx) w v := by
  unfold unV at h
  split at h <;> simp only [Res.ok.injEq, reduceCtorEq] at h <;> subst h
  · simp only [VR, CR] at ra; subst ra
    exact Reck.mk (rv := .int _ _) rfl (by simp [VR, CR, ibV, wrapF_eq])
  · simp only [VR, CR] at ra; subst ra
    exact Reck.mk (rv := .int _ _) rfl (by simp [VR, CR, evI, ibV, wrapF_eq])
  · obtain ⟨y, rfl, f⟩ := ra
    exact Reck.mk (rv := .float _ _) rfl ⟨_, rfl, f.neg⟩
  · obtain ⟨y, rfl, f⟩ := ra
    exact Reck.mk (rv := .float _ _) rfl ⟨_, rfl, f.neg⟩
  · simp only [VR, CR] at ra; subst ra
    exact Reck.mk (rv := .bool _) rfl rfl
  · simp only [VR, CR] at ra; subst ra
    exact Reck.mk (rv := .bool _) rfl (by simp [VR, CR, evB])

theorem run_conv_ii (w : World) {s d : TypeId} {u : TypeDesc} {k q : IntKind} {n : Int} (hs : P.underlying s = some u) (hd : P.underlying d = some (.int k)) : (convert s d (.int q n)).run P w = .ok (.int k (k.wrap n)) w := by
  simp [convert, run_underlying hs, run_underlying hd, Conv.intToInt]
theorem convV_ok {s d : TypeId} {a v : SV} (h : convV P s d a = .ok v) {vx : Value} (ra : VR V ρ a vx) (w : World) : Reck P V ρ (convert s d vx) w v := by
  unfold convV at h
  split at h <;> (try (cases h; done)) <;> rename_i hd
  · rename_i hs
    simp only [Res.ok.injEq] at h; subst h
    simp only [VR, CR] at ra; subst ra
    exact Reck.mk (run_conv_ii w hs hd) (by simp [VR, CR, wrapF_eq])
  · rename_i hs
    simp only [Res.ok.injEq] at h; subst h
    simp only [VR, CR] at ra; subst ra
    exact Reck.mk (run_conv_ii w hs hd) (by simp [VR, CR, evI, wrapF_eq])
  · rename_i hs
    simp only [Res.ok.injEq] at h; subst h
    simp only [VR, CR] at ra; subst ra
    exact Reck.mk (rv := .float _ _) (by simp [convert, run_underlying hs, run_underlying hd, Conv.intToFloat]; rfl) ⟨_, rfl, FR.of_lt (i2fV_lt _)⟩
  · rename_i hs
    simp only [Res.ok.injEq] at h; subst h
    simp only [VR, CR] at ra; subst ra
    exact Reck.mk (rv := .float _ _) (by simp [convert, run_underlying hs, run_underlying hd, Conv.intToFloat]; rfl) ⟨_, rfl, FR.of_lt (i2fV_lt _)⟩
  · rename_i hs
    simp only [Res.ok.injEq] at h; subst h
    obtain ⟨y, rfl, f⟩ := ra
    exact Reck.mk (rv := .float _ _) (by simp [convert, run_underlying hs, run_underlying hd, Conv.floatToFloat]) ⟨_, rfl, f⟩
  · rename_i hs
    simp only [Res.ok.injEq] at h; subst h
    obtain ⟨y, rfl, f⟩ := ra
    exact Reck.mk (rv := .float _ _) (by simp [convert, run_underlying hs, run_underlying hd, Conv.floatToFloat]) ⟨_, rfl, f⟩
  · rename_i k n hs
    split at h
    · rename_i m hm
      cases hr : (decide (k.min ≤ m) && decide (m ≤ k.max)) <;> rw [hr] at h
      · simp at h
      · simp only [cond_true, Res.ok.injEq] at h; subst h
        obtain ⟨y, rfl, f⟩ := ra
        have hn : isN n = false := by
          cases hc : isN n
          · rfl
          · obtain ⟨s, t, e⟩ := read_isN hc
            have : FloatKind.f64.decode n = .nan s t := e
            rw [this] at hm
            simp [Ieee.Datum.toInt, Ieee.Datum.integral] at hm
        have := f.num hn
        subst this
        simp only [Bool.and_eq_true, decide_eq_true_eq] at hr
        exact Reck.mk (rv := .int k m) (by simp [convert, run_underlying hs, run_underlying hd, Conv.floatToInt, hm, hr]) rfl
    · simp at h
end Go.Proofs.Ytbepaoliboooaaa.Ex
