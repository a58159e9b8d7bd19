/-
  The runner's operations on numbers beside Go's.
-/
import Derived.Test.YtbepaoliboooaaaExb
import Derived.Laws.Cover3
import Derived.Laws.Pointers
import Derived.Laws.StructEq
namespace Go.Proofs.Ytbepaoliboooaaa.Ex
open Go

/-- What is known holds. -/
def LOK (V : Val) (l : List (E × Bool)) : Prop := ∀ e b, (e, b) ∈ l → evB V e = b
/-- What is found out holds. -/
def DOK (V : Val) (D : List (E × Bool) → E → Option Bool) : Prop := ∀ l, LOK V l → ∀ e b, D l e = some b → evB V e = b
structure GamOK (V : Val) (g : Gam) : Prop where
  l : LOK V g.l
  D : DOK V g.D
theorem dok_none {V : Val} : DOK V fun _ _ => none := fun _ _ _ _ h => by cases h
theorem lok_cons {V : Val} {l : List (E × Bool)} {e : E} {b : Bool} (h : LOK V l) (he : evB V e = b) : LOK V ((e, b) :: l) := fun x y hm => by
  rcases List.mem_cons.1 hm with h' | h'
  · cases h'; exact he
  · exact h x y h'
theorem lok_tail {V : Val} {l : List (E × Bool)} {x : E × Bool} (h : LOK V (x :: l)) : LOK V l := fun e b hm => h e b (by simp [hm])

theorem lookE_ok {V : Val} : ∀ {g : List (E × Bool)} {e : E} {b : Bool}, LOK V g → lookE g e = some b → evB V e = b
  | [], _, _, _, h => by simp [lookE] at h
  | (e', b') :: g, e, b, hg, h => by
    unfold lookE at h
    split at h
    · rename_i he
      subst he
      simp only [Option.some.injEq] at h
      subst h
      exact hg _ _ (by simp)
    · exact lookE_ok (lok_tail hg) h

theorem lss_true (a b : Int) : icV .lss a b = true ↔ a < b := by simp [icV]
theorem lss_false (a b : Int) : icV .lss a b = false ↔ b ≤ a := by simp [icV]
theorem lenOf_ok {V : Val} : ∀ {g : List (E × Bool)} {i : Int} {j : E} {b : Bool}, LOK V g → lenOf g i j = some b → evB V (.ic .lss (.li i) j) = b
  | [], _, _, _, _, h => by simp [lenOf] at h
  | x :: g, i, j, b, hg, h => by
    unfold lenOf at h
    split at h
    · rename_i e; cases e
    · rename_i i j _ _ _ m k b' g' e
      simp only [List.cons.injEq] at e
      obtain ⟨rfl, rfl⟩ := e
      cases hc : ((bif b' then decide (i ≤ m) else decide (m ≤ i)) && decide (k = j)) <;> rw [hc] at h
      · exact lenOf_ok (lok_tail hg) h
      · simp only [cond_true, Option.some.injEq] at h
        subst h
        simp only [Bool.and_eq_true, decide_eq_true_eq] at hc
        obtain ⟨h2, hk⟩ := hc
        subst hk
        have h0 : icV .lss m (evI V k) = b' := hg (.ic .lss (.li m) k) b' (by simp)
        show icV .lss i (evI V k) = b'
        cases b'
        · have h3 := of_decide_eq_true h2
          rw [lss_false] at h0 ⊢
          omega
        · have h3 := of_decide_eq_true h2
          rw [lss_true] at h0 ⊢
          omega
    · rename_i e
      simp only [List.cons.injEq] at e
      obtain ⟨rfl, rfl⟩ := e
      exact lenOf_ok (lok_tail hg) h
theorem dec_ok {V : Val} {g : Gam} {e : E} {b : Bool} (hg : GamOK V g) (h : g.dec e = some b) : evB V e = b := by
  unfold Gam.dec at h
  split at h
  · rename_i b' hl
    simp only [Option.some.injEq] at h
    subst h
    unfold lenDec at hl
    split at hl
    · exact lenOf_ok hg.l hl
    · cases hl
  · split at h
    · rename_i b' hl
      simp only [Option.some.injEq] at h
      subst h
      exact lookE_ok hg.l hl
    · exact hg.D _ hg.l _ _ h
theorem normE_ok {V : Val} (e : E) : evB V e = xor (evB V (normE e).1) (normE e).2 := by
  unfold normE
  split <;> simp [evB, icV, fcV] <;> (rw [Bool.eq_iff_iff]; simp)
theorem truthN_ok {V : Val} {g : Gam} (hg : GamOK V g) {e : E} {t b : Bool} (h : truthN g e t = .ok b) : xor (evB V e) t = b := by
  unfold truthN at h
  split at h
  · rename_i hl
    simp only [Res.ok.injEq] at h
    rw [dec_ok hg hl, h]
  · cases h

theorem truthE_ok {V : Val} {g : Gam} (hg : GamOK V g) : ∀ {e : E} {b : Bool}, truthE g e = .ok b → evB V e = b := by
  intro e
  induction e with
  | nt a ih =>
    intro b h
    unfold truthE at h
    cases ha : truthE g a <;> rw [ha] at h <;> simp only [Res.ok.injEq, reduceCtorEq] at h
    subst h
    unfold evB
    rw [ih ha]
  | an a b iha ihb =>
    intro r h
    unfold truthE at h
    cases ha : truthE g a with
    | need e => rw [ha] at h; simp at h
    | bad n => rw [ha] at h; simp at h
    | ok x =>
    rw [ha] at h
    cases x
    · simp only [Res.ok.injEq] at h
      subst h
      unfold evB; rw [iha ha]; rfl
    · unfold evB; rw [iha ha, ihb h]; rfl
  | lb x => intro b h; unfold truthE at h; simp only [Res.ok.injEq] at h; subst h; unfold evB; rfl
  | tb c a b ihc iha ihb =>
    intro r h
    unfold truthE at h
    cases hc : truthE g c with
    | need e => rw [hc] at h; simp at h
    | bad n => rw [hc] at h; simp at h
    | ok x =>
    rw [hc] at h
    have := ihc hc
    cases x
    · unfold evB; rw [this]; exact ihb h
    · unfold evB; rw [this]; exact iha h
  | _ =>
    intro r h
    unfold truthE at h
    rw [normE_ok]
    exact truthN_ok hg h

theorem truth_ok {V : Val} {ρ : Rho} {g : Gam} (hg : GamOK V g) {s : SV} {b : Bool} {v : Value} (h : truth g s = .ok b) (hv : VR V ρ s v) : v = .bool b := by
  unfold truth at h
  split at h
  · simp only [Res.ok.injEq] at h; subst h; exact hv
  · have := truthE_ok hg h
    have hv' : v = _ := hv
    rw [hv', this]
  · exact absurd h (by simp)
  · exact absurd h (by simp)

theorem toI_ok {V : Val} {ρ : Rho} {c : C} {k : IntKind} {e : E} {v : Value} (h : c.toI = some (k, e)) (hv : CR V ρ c v) : v = .int k (evI V e) := by
  cases c <;> simp only [C.toI, Option.some.injEq, Prod.mk.injEq, reduceCtorEq] at h
  · obtain ⟨rfl, rfl⟩ := h; simpa [evI, CR] using hv
  · obtain ⟨rfl, rfl⟩ := h; exact hv
theorem toF_ok {V : Val} {ρ : Rho} {c : C} {e : E} {v : Value} (h : c.toF = some e) (hv : CR V ρ c v) : ∃ y, v = .float .f64 y ∧ FR (evF V e) y := by
  cases c <;> simp only [C.toF, Option.some.injEq, reduceCtorEq] at h
  · subst h; simpa [evF, CR] using hv
  · subst h; exact hv

theorem andC_ok {V : Val} {ρ : Rho} {a b c : C} (h : andC a b = some c) {x y : Bool} (ha : CR V ρ a (.bool x)) (hb : CR V ρ b (.bool y)) : CR V ρ c (.bool (x && y)) := by
  unfold andC at h
  split at h <;> simp only [Option.some.injEq, reduceCtorEq] at h <;> subst h <;> simp only [CR, Value.bool.injEq] at ha hb ⊢ <;> subst ha <;> subst hb <;> simp [evB]
theorem notC_ok {V : Val} {ρ : Rho} {a c : C} (h : notC a = some c) {x : Bool} (ha : CR V ρ a (.bool x)) : CR V ρ c (.bool (!x)) := by
  unfold notC at h
  split at h <;> simp only [Option.some.injEq, reduceCtorEq] at h <;> subst h <;> simp only [CR, Value.bool.injEq] at ha ⊢ <;> subst ha <;> simp [evB]

theorem floatEq_FR {x y x' y' : Nat} (h : FR x x') (g : FR y y') : Op.floatEq .f64 x' y' = eqB x y := by
  rw [eqB_FR h g]; exact ord_eq x' y'

section
variable {P : Program} {V : Val} {ρ : Rho}

theorem run_equalIn_float (w : World) (d : Nat) (t : TypeId) (k : FloatKind) (a b : Nat) (h : P.underlying t = some (.float k)) : (Op.equalIn (d + 1) t (.float .f64 a) (.float .f64 b)).run P w = .ok (Op.floatEq .f64 a b) w := by
  simp [Op.equalIn, run_underlying h]

theorem toB_ok {c : C} {e : E} {v : Value} (h : c.toB = some e) (hv : CR V ρ c v) : v = .bool (evB V e) := by
  cases c <;> simp only [C.toB, Option.some.injEq, reduceCtorEq] at h
  · subst h; simpa [evB, CR] using hv
  · subst h; exact hv

theorem plain_cases {t : TypeId} {x : C} (h : plainT P t x = true) : (P.underlying t = some .bool ∧ ∃ e, x.toB = some e) ∨ (∃ k, P.underlying t = some (.int k) ∧ ∃ q, x.toI = some q) ∨ (P.underlying t = some (.float .f64) ∧ ∃ e, x.toF = some e) := by
  unfold plainT at h
  split at h <;> rename_i hu <;> try (cases h; done)
  · exact .inl ⟨hu, _, rfl⟩
  · exact .inl ⟨hu, _, rfl⟩
  · exact .inr (.inl ⟨_, hu, _, rfl⟩)
  · exact .inr (.inl ⟨_, hu, _, rfl⟩)
  · exact .inr (.inr ⟨hu, _, rfl⟩)
  · exact .inr (.inr ⟨hu, _, rfl⟩)

theorem beq_bif (x y : Bool) : (x == y) = bif x then y else !y := by cases x <;> cases y <;> rfl
theorem eqC_ok {x y c : C} (h : eqC x y = some c) {t : TypeId} (hx : plainT P t x = true) (hy : plainT P t y = true) {vx vy : Value} (rx : CR V ρ x vx) (ry : CR V ρ y vy) (d : Nat) (w : World) :
    ∃ b, (Op.equalIn (d + 1) t vx vy).run P w = .ok b w ∧ CR V ρ c (.bool b) := by
  rcases plain_cases hx with ⟨hu, e, he⟩ | ⟨k, hu, ⟨k1, e⟩, he⟩ | ⟨hu, e, he⟩ <;> rcases plain_cases hy with ⟨hu', e', he'⟩ | ⟨k', hu', ⟨k2, e'⟩, he'⟩ | ⟨hu', e', he'⟩ <;> rw [hu] at hu' <;> try (cases hu'; done)
  · have r1 := toB_ok he rx
    have r2 := toB_ok he' ry
    subst r1; subst r2
    rw [run_equalIn_bool' w d t _ _ hu]
    refine ⟨_, rfl, ?_⟩
    cases x <;> cases y <;> simp only [C.toB, reduceCtorEq] at he he' <;> simp [eqC, C.toI, C.toF, C.toB] at h <;> simp only [Option.some.injEq] at he he' <;> subst he <;> subst he' <;> subst h <;> simp [CR, evB] <;> (first | rfl | (rw [Bool.eq_iff_iff]; simp; done) | exact beq_bif _ _)
  · have r1 := toI_ok he rx
    have r2 := toI_ok he' ry
    subst r1; subst r2
    have hk : k1 = k2 ∧ CR V ρ c (.bool (evI V e == evI V e')) := by
      cases x <;> cases y <;> simp only [C.toI, reduceCtorEq] at he he' <;> simp only [Option.some.injEq, Prod.mk.injEq] at he he' <;> obtain ⟨rfl, rfl⟩ := he <;> obtain ⟨rfl, rfl⟩ := he' <;> simp [eqC, C.toI] at h <;> obtain ⟨rfl, rfl⟩ := h <;> simp [CR, evB, evI, icV] <;> (first | rfl | (rw [Bool.eq_iff_iff]; simp))
    obtain ⟨rfl, hc⟩ := hk
    rw [run_equalIn_int w d t _ _ _ _ hu]
    exact ⟨_, rfl, hc⟩
  · obtain ⟨y1, rfl, f1⟩ := toF_ok he rx
    obtain ⟨y2, rfl, f2⟩ := toF_ok he' ry
    rw [run_equalIn_float w d t _ _ _ hu, floatEq_FR f1 f2]
    refine ⟨_, rfl, ?_⟩
    cases x <;> cases y <;> simp only [C.toF, reduceCtorEq] at he he' <;> simp only [Option.some.injEq] at he he' <;> subst he <;> subst he' <;> simp [eqC, C.toI, C.toF] at h <;> subst h <;> simp [CR, evB, evF, fcV]

theorem nilish_ok {x y : C} {b : Bool} {t : TypeId} (h : nilish P t x y = some b) {vx vy : Value} (rx : CR V ρ x vx) (ry : CR V ρ y vy) (w : World) :
    (Op.equal t vx vy).run P w = .ok b w := by
  unfold nilish at h
  split at h <;> rename_i hu <;> simp only [Option.some.injEq, reduceCtorEq] at h <;> subst h <;> simp only [CR] at rx ry
  all_goals (try (obtain ⟨q, n, -, rfl, -⟩ := rx))
  all_goals (try (obtain ⟨q, n, -, rfl, -⟩ := ry))
  all_goals (try (obtain ⟨q, -, rfl⟩ := rx))
  all_goals (try (obtain ⟨q, -, rfl⟩ := ry))
  all_goals (try (obtain ⟨q, rfl, -⟩ := rx))
  all_goals (try (obtain ⟨q, rfl, -⟩ := ry))
  all_goals (try subst rx)
  all_goals (try subst ry)
  all_goals (show (Op.equalIn (9999 + 1) t _ _).run P w = _; generalize 9999 = d; simp [Op.equalIn, run_underlying hu])

theorem isAggP_true {t : TypeId} (h : isAggP P t = some true) : ∃ d, P.underlying t = some d ∧ d.isRow = true := by
  unfold isAggP at h
  split at h <;> simp at h
  · rename_i hu; exact ⟨_, hu, rfl⟩
  · rename_i hu; exact ⟨_, hu, rfl⟩
theorem isAggP_false {t : TypeId} (h : isAggP P t = some false) : ∃ d, P.underlying t = some d ∧ d.isRow = false := by
  unfold isAggP at h
  split at h <;> simp at h
  rename_i d h1 h2 hu
  refine ⟨d, hu, ?_⟩
  cases d <;> first | rfl | (exact absurd rfl (h1 _)) | (exact absurd rfl (h2 _ _))
theorem run_isAgg {t : TypeId} {b : Bool} (h : isAggP P t = some b) (w : World) : (isAgg t).run P w = .ok b w := by
  unfold isAgg
  cases b
  · obtain ⟨d, hu, hd⟩ := isAggP_false h
    rw [Sem.run_bind, run_underlying hu w]
    cases d <;> simp_all
  · obtain ⟨d, hu, hd⟩ := isAggP_true h
    rw [Sem.run_bind, run_underlying hu w]
    cases d <;> simp_all
theorem sizeP_ok {t : TypeId} {n : Nat} (h : sizeP P t = some n) : (P.info? t).map (·.size) = some n := h
theorem run_sizeP {t : TypeId} {n : Nat} (h : sizeP P t = some n) (w : World) : (sizeOf t).run P w = .ok n w := by
  unfold sizeP at h
  cases hi : P.info? t with
  | none => rw [hi] at h; simp at h
  | some i =>
    rw [hi] at h
    simp at h
    simp [sizeOf, typeInfo, hi, h]

theorem part_ok {t : TypeId} {cs : List C} {off : Nat} {v : SV} (h : partC P t cs off = some v) {rc : Array Value} (hc : All2 (CR V ρ) cs rc.toList) (w : World) : ∃ rv, (part t rc off).run P w = .ok rv w ∧ VR V ρ v rv := by
  unfold partC at h
  split at h
  · rename_i n ha hs
    cases hb : Nat.ble (off + n) cs.length <;> rw [hb] at h
    · simp at h
    · simp only [cond_true, Option.some.injEq] at h
      subst h
      refine ⟨.agg (rc.extract off (off + n)), ?_, ⟨_, rfl, ?_⟩⟩
      · simp [part, run_isAgg ha, run_sizeP hs]
      · have := (hc.drop off).take n
        simpa [Array.toList_extract, List.extract] using this
  · rename_i n ha hs
    cases hg : cs[off]? with
    | none => rw [hg] at h; simp at h
    | some c =>
      rw [hg] at h
      simp only [Option.map_some, Option.some.injEq] at h
      subst h
      obtain ⟨u, u1, u2⟩ := hc.get hg
      refine ⟨u, ?_, u2⟩
      have : rc[off]? = some u := by simpa using u1
      simp [part, run_isAgg ha, this]
  · simp at h

theorem eqFs_ok {rec : TypeId → SV → SV → Option C} {k : Nat} {w : World} (hrec : ∀ t a b c, rec t a b = some c → ∀ va vb, VR V ρ a va → VR V ρ b vb → ∃ r, (Op.equalIn k t va vb).run P w = .ok r w ∧ CR V ρ c (.bool r))
    {xs ys : List C} {vx vy : Array Value} (rx : All2 (CR V ρ) xs vx.toList) (ry : All2 (CR V ρ) ys vy.toList) :
    ∀ (fs : List Field) (c : C), eqFs P rec xs ys fs = some c → ∃ r, (Op.eqFields k vx vy fs).run P w = .ok r w ∧ CR V ρ c (.bool r)
  | [], c, h => by
    simp only [eqFs, Option.some.injEq] at h
    subst h
    exact ⟨true, by simp [Op.eqFields], rfl⟩
  | f :: fs, c, h => by
    unfold eqFs at h
    cases hn : (f.name != "_") <;> rw [hn] at h
    · cases h
    · simp only [cond_true] at h
      split at h
      · rename_i a b ha hb
        split at h
        · cases h
        · rename_i c1 hc1
          split at h
          · cases h
          · rename_i c2 hc2
            obtain ⟨va, p1, r1⟩ := part_ok ha rx w
            obtain ⟨vb, p2, r2⟩ := part_ok hb ry w
            obtain ⟨b1, s1, t1⟩ := hrec _ _ _ _ hc1 va vb r1 r2
            obtain ⟨b2, s2, t2⟩ := eqFs_ok hrec rx ry fs c2 hc2
            refine ⟨b1 && b2, ?_, andC_ok h t1 t2⟩
            have hname : f.name ≠ "_" := by simpa using hn
            simp only [Op.eqFields, hname, ne_eq, not_false_eq_true, if_true, Sem.run_bind, p1, p2, s1, Result.andThen_ok]
            cases b1
            · simp
            · simpa using s2
      · cases h

theorem eqIs_ok {rec : SV → SV → Option C} {k s : Nat} {e : TypeId} {w : World} (hrec : ∀ a b c, rec a b = some c → ∀ va vb, VR V ρ a va → VR V ρ b vb → ∃ r, (Op.equalIn k e va vb).run P w = .ok r w ∧ CR V ρ c (.bool r))
    {xs ys : List C} {vx vy : Array Value} (rx : All2 (CR V ρ) xs vx.toList) (ry : All2 (CR V ρ) ys vy.toList) :
    ∀ (is : List Nat) (c : C), eqIs P rec e s xs ys is = some c → ∃ r, (Op.eqItems k e s vx vy is).run P w = .ok r w ∧ CR V ρ c (.bool r)
  | [], c, h => by
    simp only [eqIs, Option.some.injEq] at h
    subst h
    exact ⟨true, by simp [Op.eqItems], rfl⟩
  | i :: is, c, h => by
    unfold eqIs at h
    split at h
    · rename_i a b ha hb
      split at h
      · cases h
      · rename_i c1 hc1
        split at h
        · cases h
        · rename_i c2 hc2
          obtain ⟨va, p1, r1⟩ := part_ok ha rx w
          obtain ⟨vb, p2, r2⟩ := part_ok hb ry w
          obtain ⟨b1, s1, t1⟩ := hrec _ _ _ hc1 va vb r1 r2
          obtain ⟨b2, s2, t2⟩ := eqIs_ok hrec rx ry is c2 hc2
          refine ⟨b1 && b2, ?_, andC_ok h t1 t2⟩
          simp only [Op.eqItems, Sem.run_bind, p1, p2, s1, Result.andThen_ok]
          cases b1
          · simp
          · simpa using s2
    · cases h

theorem eqD_ok (w : World) : ∀ (n : Nat) (t : TypeId) (x y : SV) (c : C), eqD P n t x y = some c → ∀ (k : Nat) (vx vy : Value), n ≤ k → VR V ρ x vx → VR V ρ y vy → ∃ r, (Op.equalIn k t vx vy).run P w = .ok r w ∧ CR V ρ c (.bool r)
  | 0, _, _, _, _, h, _, _, _, _, _, _ => by cases h
  | n + 1, t, x, y, c, h, k, vx, vy, hk, hx, hy => by
    obtain ⟨k, rfl⟩ : ∃ m, k = m + 1 := ⟨k - 1, by omega⟩
    unfold eqD at h
    split at h
    · rename_i xs ys
      obtain ⟨v1, rfl, r1⟩ := hx
      obtain ⟨v2, rfl, r2⟩ := hy
      split at h
      · rename_i fs hu
        cases hs : P.stoodInHeld t <;> rw [hs] at h
        · simp only [Bool.not_false, cond_true] at h
          have hf : P.fieldsOf t = fs := by unfold Program.fieldsOf; rw [hu]
          have hu' : P.underlying t = some (.struct (P.fieldsOf t)) := by rw [hf]; exact hu
          rw [run_equalIn_struct w k t _ _ hu' hs, hf]
          exact eqFs_ok (fun t a b c h va vb ra rb => eqD_ok w n t a b c h k va vb (by omega) ra rb) r1 r2 fs.toList c h
        · cases h
      · rename_i m e hu
        split at h
        · rename_i s hs
          obtain ⟨i, hi, hc⟩ : ∃ i, P.info? e = some i ∧ P.cellsOf e = s := by
            unfold sizeP at hs
            cases hi : P.info? e with
            | none => rw [hi] at hs; cases hs
            | some i => exact ⟨i, rfl, by unfold Program.cellsOf; rw [hs]; rfl⟩
          rw [run_equalIn_array w k v1 v2 hu hi, hc]
          exact eqIs_ok (fun a b c h va vb ra rb => eqD_ok w n e a b c h k va vb (by omega) ra rb) r1 r2 (List.range (m + 1)) c h
        · cases h
      · cases h
    · rename_i x y
      cases hp : (plainT P t x && plainT P t y) <;> rw [hp] at h
      · cases h
      · simp only [Bool.and_eq_true] at hp
        simp only [cond_true] at h
        exact eqC_ok h hp.1 hp.2 hx hy k w
    · cases h

theorem eqV_ok {t : TypeId} {a b : SV} {c : C} (h : eqV P t a b = some c) {vx vy : Value} (ra : VR V ρ a vx) (rb : VR V ρ b vy) (w : World) :
    ∃ b, (Op.equal t vx vy).run P w = .ok b w ∧ CR V ρ c (.bool b) := by
  unfold eqV at h
  split at h
  · rename_i x y
    split at h
    · rename_i r hr
      cases hp : (plainT P t x && plainT P t y) <;> rw [hp] at h
      · simp at h
      · simp only [Bool.and_eq_true] at hp
        simp only [cond_true, Option.some.injEq] at h
        subst h
        exact eqC_ok hr hp.1 hp.2 ra rb 9999 w
    · cases hn : nilish P t x y with
      | none => rw [hn] at h; simp at h
      | some q =>
        rw [hn] at h
        simp only [Option.map_some, Option.some.injEq] at h
        subst h
        exact ⟨q, nilish_ok hn ra rb w, rfl⟩
  · rename_i xs ys
    unfold eqAgg at h
    cases hd : Nat.ble 9 P.depth <;> rw [hd] at h
    · cases h
    · exact eqD_ok w 9 t (.ag xs) (.ag ys) c h 10000 vx vy (by omega) ra rb
  · simp at h

end
section
variable {V : Val}
theorem mergeC_ok {e : E} {a b : C} {t : Bool} (he : evB V e = t) {ρ : Rho} {v : Value} (h : CR V ρ (bif t then a else b) v) : CR V ρ (mergeC e a b) v := by
  unfold mergeC
  by_cases hab : a = b
  · rw [if_pos hab]; subst hab; cases t <;> exact h
  · rw [if_neg hab]
    split
    · rename_i x y hx hy
      cases t
      · obtain ⟨z, rfl, hz⟩ := toF_ok hy h
        exact ⟨z, rfl, by simpa [evF, he] using hz⟩
      · obtain ⟨z, rfl, hz⟩ := toF_ok hx h
        exact ⟨z, rfl, by simpa [evF, he] using hz⟩
    · split
      · rename_i k x k' y hx hy
        by_cases hk : k = k'
        · subst hk
          rw [if_pos rfl]
          cases t
          · have := toI_ok hy h; subst this; simp [CR, evI, he]
          · have := toI_ok hx h; subst this; simp [CR, evI, he]
        · rw [if_neg hk]; exact h.one
      · split
        · rename_i x y hx hy
          cases t
          · have := toB_ok hy h; subst this; simp [CR, evB, he]
          · have := toB_ok hx h; subst this; simp [CR, evB, he]
        · exact h.one
theorem mergeL_ok {e : E} {t : Bool} (he : evB V e = t) : ∀ {l m r : List C}, mergeL e l m = some r → r.length = (bif t then l else m).length ∧ (∀ (i : Nat) (c' : C), r[i]? = some c' → ∃ c, (bif t then l else m)[i]? = some c ∧ ∀ ρ rv, CR V ρ c rv → CR V ρ c' rv) ∧ ∀ ρ vs, All2 (CR V ρ) (bif t then l else m) vs → All2 (CR V ρ) r vs
  | [], [], r, h => by
    simp only [mergeL, Option.some.injEq] at h; subst h
    cases t <;> exact ⟨rfl, fun i c h => by simp at h, fun _ _ h => h⟩
  | a :: l, b :: m, r, h => by
    unfold mergeL at h
    split at h
    · rename_i r' hr
      simp only [Option.some.injEq] at h; subst h
      obtain ⟨h1, h2, h3⟩ := mergeL_ok he hr
      have hh : ∀ ρ rv, CR V ρ (bif t then a else b) rv → CR V ρ (mergeC e a b) rv := fun ρ rv h => mergeC_ok he h
      cases t
      · refine ⟨by simpa using h1, fun i c' hc => ?_, fun ρ vs hv => ?_⟩
        · cases i with
          | zero => simp at hc; subst hc; exact ⟨b, rfl, hh⟩
          | succ i => exact h2 i c' (by simpa using hc)
        · cases vs with
          | nil => exact hv.elim
          | cons v vs => exact ⟨hh _ _ hv.1, h3 ρ vs hv.2⟩
      · refine ⟨by simpa using h1, fun i c' hc => ?_, fun ρ vs hv => ?_⟩
        · cases i with
          | zero => simp at hc; subst hc; exact ⟨a, rfl, hh⟩
          | succ i => exact h2 i c' (by simpa using hc)
        · cases vs with
          | nil => exact hv.elim
          | cons v vs => exact ⟨hh _ _ hv.1, h3 ρ vs hv.2⟩
    · cases h
  | [], _ :: _, _, h => by cases h
  | _ :: _, [], _, h => by cases h
end
end Go.Proofs.Ytbepaoliboooaaa.Ex
