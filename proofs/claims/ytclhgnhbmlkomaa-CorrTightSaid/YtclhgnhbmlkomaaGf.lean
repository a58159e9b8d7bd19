/-
  The runner's operations on numbers beside Go's.
  The runner's operations on numbers beside Go's: of two, of one, conversions.
  The runner's blocks beside Go's memory; a step; loads, stores, new blocks.
-/
import Derived.Test.YtclhgnhbmlkomaaGe
import Derived.Laws.Cover3
import Derived.Laws.Pointers
import Derived.Laws.StructEq
import Derived.Test.YtclhgnhbmlkomaaGc
namespace Go.Proofs.Ytclhgnhbmlkomaa.Ex
open Go

/-- What is known holds. -/
def LOK (V : Val) (l : List (E × Bool)) : Prop := ∀ e b, (e, b) ∈ l → evB V e = b
/-- What is found out holds. -/
def DOK (V : Val) (D : List (E × Bool) → E → Option Bool) : Prop := ∀ l, LOK V l → ∀ e b, D l e = some b → evB V e = b
/-- Names stand for what they are given to. -/
def NmOK (V : Val) (o : Option (E → Option Nat)) : Prop := ∀ f, o = some f → ∀ e k, f e = some k → V.f k = evF V e
theorem nm_none {V : Val} : NmOK V none := fun _ h => by cases h
structure GamOK (V : Val) (g : Gam) : Prop where
  l : LOK V g.l
  D : DOK V g.D
  nm : NmOK V g.nm
theorem dok_none {V : Val} : DOK V fun _ _ => none := fun _ _ _ _ h => by cases h
theorem lok_cons {V : Val} {l : List (E × Bool)} {e : E} {b : Bool} (h : LOK V l) (he : evB V e = b) : LOK V ((e, b) :: l) := fun x y hm => by
  rcases List.mem_cons.1 hm with h' | h'
  · cases h'; exact he
  · exact h x y h'
theorem lok_tail {V : Val} {l : List (E × Bool)} {x : E × Bool} (h : LOK V (x :: l)) : LOK V l := fun e b hm => h e b (by simp [hm])

theorem lookE_ok {V : Val} : ∀ {g : List (E × Bool)} {e : E} {b : Bool}, LOK V g → lookE g e = some b → evB V e = b
  | [], _, _, _, h => by simp [lookE] at h
  | (e', b') :: g, e, b, hg, h => by
    unfold lookE at h
    split at h
    · rename_i he
      subst he
      simp only [Option.some.injEq] at h
      subst h
      exact hg _ _ (by simp)
    · exact lookE_ok (lok_tail hg) h

theorem lss_true (a b : Int) : icV .lss a b = true ↔ a < b := by simp [icV]
theorem lss_false (a b : Int) : icV .lss a b = false ↔ b ≤ a := by simp [icV]
theorem lenOf_ok {V : Val} : ∀ {g : List (E × Bool)} {i : Int} {j : E} {b : Bool}, LOK V g → lenOf g i j = some b → evB V (.ic .lss (.li i) j) = b
  | [], _, _, _, _, h => by simp [lenOf] at h
  | x :: g, i, j, b, hg, h => by
    unfold lenOf at h
    split at h
    · rename_i e; cases e
    · rename_i i j _ _ _ m k b' g' e
      simp only [List.cons.injEq] at e
      obtain ⟨rfl, rfl⟩ := e
      cases hc : ((bif b' then decide (i ≤ m) else decide (m ≤ i)) && decide (k = j)) <;> rw [hc] at h
      · exact lenOf_ok (lok_tail hg) h
      · simp only [cond_true, Option.some.injEq] at h
        subst h
        simp only [Bool.and_eq_true, decide_eq_true_eq] at hc
        obtain ⟨h2, hk⟩ := hc
        subst hk
        have h0 : icV .lss m (evI V k) = b' := hg (.ic .lss (.li m) k) b' (by simp)
        show icV .lss i (evI V k) = b'
        cases b'
        · have h3 := of_decide_eq_true h2
          rw [lss_false] at h0 ⊢
          omega
        · have h3 := of_decide_eq_true h2
          rw [lss_true] at h0 ⊢
          omega
    · rename_i e
      simp only [List.cons.injEq] at e
      obtain ⟨rfl, rfl⟩ := e
      exact lenOf_ok (lok_tail hg) h
theorem dec_ok {V : Val} {g : Gam} {e : E} {b : Bool} (hg : GamOK V g) (h : g.dec e = some b) : evB V e = b := by
  unfold Gam.dec at h
  split at h
  · rename_i b' hl
    simp only [Option.some.injEq] at h
    subst h
    unfold lenDec at hl
    split at hl
    · exact lenOf_ok hg.l hl
    · cases hl
  · split at h
    · rename_i b' hl
      simp only [Option.some.injEq] at h
      subst h
      exact lookE_ok hg.l hl
    · exact hg.D _ hg.l _ _ h
theorem normE_ok {V : Val} (e : E) : evB V e = xor (evB V (normE e).1) (normE e).2 := by
  unfold normE
  split <;> simp [evB, icV, fcV] <;> (rw [Bool.eq_iff_iff]; simp)
theorem truthN_ok {V : Val} {g : Gam} (hg : GamOK V g) {e : E} {t b : Bool} (h : truthN g e t = .ok b) : xor (evB V e) t = b := by
  unfold truthN at h
  split at h
  · rename_i hl
    simp only [Res.ok.injEq] at h
    rw [dec_ok hg hl, h]
  · cases h

theorem truthE_ok {V : Val} {g : Gam} (hg : GamOK V g) : ∀ {e : E} {b : Bool}, truthE g e = .ok b → evB V e = b := by
  intro e
  induction e with
  | nt a ih =>
    intro b h
    unfold truthE at h
    cases ha : truthE g a <;> rw [ha] at h <;> simp only [Res.ok.injEq, reduceCtorEq] at h
    subst h
    unfold evB
    rw [ih ha]
  | an a b iha ihb =>
    intro r h
    unfold truthE at h
    cases ha : truthE g a with
    | need e => rw [ha] at h; simp at h
    | bad n => rw [ha] at h; simp at h
    | ok x =>
    rw [ha] at h
    cases x
    · simp only [Res.ok.injEq] at h
      subst h
      unfold evB; rw [iha ha]; rfl
    · unfold evB; rw [iha ha, ihb h]; rfl
  | lb x => intro b h; unfold truthE at h; simp only [Res.ok.injEq] at h; subst h; unfold evB; rfl
  | tb c a b ihc iha ihb =>
    intro r h
    unfold truthE at h
    have both : ∀ {q : Res Bool}, (∀ x, q ≠ .ok x) → bothT q (truthE g a) (truthE g b) = .ok r → evB V (.tb c a b) = r := fun {q} hq h => by
      unfold bothT at h
      split at h
      · rename_i x y hx hy
        cases hxy : Bool.xor x y <;> rw [hxy] at h
        · simp only [cond_false, Res.ok.injEq] at h
          have hxy : x = y := by cases x <;> cases y <;> first | rfl | cases hxy
          subst hxy; subst h
          unfold evB; rw [iha hx, ihb hy]; cases evB V c <;> rfl
        · exact absurd h (hq r)
      · exact absurd h (hq r)
    cases hc : truthE g c with
    | need e => rw [hc] at h; exact both (fun x => by simp) h
    | bad n => rw [hc] at h; exact both (fun x => by simp) h
    | ok x =>
    rw [hc] at h
    have := ihc hc
    cases x
    · unfold evB; rw [this]; exact ihb h
    · unfold evB; rw [this]; exact iha h
  | _ =>
    intro r h
    unfold truthE at h
    rw [normE_ok]
    exact truthN_ok hg h

theorem add_ok {V : Val} {g : Gam} (hg : GamOK V g) {e : E} {b : Bool} (he : evB V e = b) : GamOK V (g.add e b) := ⟨fun e' b' hm => by
  rcases List.mem_cons.1 hm with h | h
  · cases h; exact he
  · exact hg.l _ _ h, hg.D, hg.nm⟩
theorem tell_ok {V : Val} : ∀ {e : E} {g : Gam} {b : Bool}, GamOK V g → evB V e = b → GamOK V (tell g e b) := by
  have base : ∀ {e : E} {g : Gam} {b : Bool}, GamOK V g → evB V e = b → GamOK V (g.add (normE e).1 (Bool.xor b (normE e).2)) := fun {e g b} hg he => by
    refine add_ok hg ?_
    have := normE_ok (V := V) e
    rw [he] at this
    rw [this]
    cases evB V (normE e).1 <;> cases (normE e).2 <;> rfl
  intro e
  induction e with
  | nt a ih =>
    intro g b hg he
    show GamOK V (tell g a (!b))
    unfold evB at he
    exact ih hg (by rw [← he]; simp)
  | an a c iha ihc =>
    intro g b hg he
    cases b
    · exact add_ok hg he
    · show GamOK V (tell (tell g a true) c true)
      unfold evB at he
      rw [Bool.and_eq_true] at he
      exact ihc (iha hg he.1) he.2
  | tb c a d ihc iha _ =>
    intro g b hg he
    cases d with
    | lb x =>
      cases x
      · cases b
        · exact add_ok hg he
        · show GamOK V (tell (tell g c true) a true)
          unfold evB at he
          cases hc : evB V c <;> rw [hc] at he
          · cases he
          · exact iha (ihc hg hc) he
      · exact base hg he
    | _ => exact base hg he
  | _ => intro g b hg he; exact base hg he
theorem truthT_ok {V : Val} : ∀ {e : E} {g : Gam} {b : Bool}, GamOK V g → truthT e g = .ok b → evB V e = b := by
  intro e
  induction e with
  | nt a ih =>
    intro g b hg h
    unfold truthT at h
    cases ha : truthT a g <;> rw [ha] at h <;> simp only [Res.ok.injEq, reduceCtorEq] at h
    subst h
    unfold evB
    rw [ih hg ha]
  | an a b iha ihb =>
    intro g r hg h
    unfold truthT at h
    have rest : ∀ {q : Res Bool}, (∀ x, q ≠ .ok x) → (match truthT b (tell g a true) with
      | .ok false => Res.ok false
      | _ => q) = Res.ok r → evB V (.an a b) = r := fun {q} hq h => by
      split at h
      · rename_i hb
        simp only [Res.ok.injEq] at h
        subst h
        unfold evB
        cases he : evB V a
        · rfl
        · rw [ihb (tell_ok hg he) hb]; rfl
      · exact absurd h (hq r)
    cases ha : truthT a g with
    | need e => rw [ha] at h; exact rest (fun x => by simp) h
    | bad n => rw [ha] at h; exact rest (fun x => by simp) h
    | ok x =>
    rw [ha] at h
    cases x
    · simp only [Res.ok.injEq] at h
      subst h
      unfold evB; rw [iha hg ha]; rfl
    · unfold evB; rw [iha hg ha, ihb hg h]; rfl
  | lb x => intro g b _ h; unfold truthT at h; simp only [Res.ok.injEq] at h; subst h; unfold evB; rfl
  | tb c a b ihc iha ihb =>
    intro g r hg h
    unfold truthT at h
    have both : ∀ {q : Res Bool}, (∀ x, q ≠ .ok x) → bothT q (truthT a (tell g c true)) (truthT b (tell g c false)) = .ok r → evB V (.tb c a b) = r := fun {q} hq h => by
      unfold bothT at h
      split at h
      · rename_i x y hx hy
        cases hxy : Bool.xor x y <;> rw [hxy] at h
        · simp only [cond_false, Res.ok.injEq] at h
          have hxy : x = y := by cases x <;> cases y <;> first | rfl | cases hxy
          subst hxy; subst h
          unfold evB
          cases he : evB V c
          · exact ihb (tell_ok hg he) hy
          · exact iha (tell_ok hg he) hx
        · exact absurd h (hq r)
      · exact absurd h (hq r)
    cases hc : truthT c g with
    | need e => rw [hc] at h; exact both (fun x => by simp) h
    | bad n => rw [hc] at h; exact both (fun x => by simp) h
    | ok x =>
    rw [hc] at h
    have := ihc hg hc
    cases x
    · unfold evB; rw [this]; exact ihb hg h
    · unfold evB; rw [this]; exact iha hg h
  | _ =>
    intro g r hg h
    unfold truthT at h
    rw [normE_ok]
    exact truthN_ok hg h
theorem truthU_ok {V : Val} {g : Gam} (hg : GamOK V g) {e : E} {b : Bool} (h : truthU g e = .ok b) : evB V e = b := by
  unfold truthU at h
  split at h
  · rename_i x hx
    split at h
    · rename_i b' hb
      simp only [Res.ok.injEq] at h
      subst h
      split at hb
      · exact truthT_ok hg hb
      · exact truthT_ok hg hb
      · exact truthT_ok hg hb
      · cases hb
    · cases h
  · exact truthE_ok hg h
theorem truth_ok {V : Val} {ρ : Rho} {g : Gam} (hg : GamOK V g) {s : SV} {b : Bool} {v : Value} (h : truth g s = .ok b) (hv : VR V ρ s v) : v = .bool b := by
  unfold truth at h
  split at h
  · simp only [Res.ok.injEq] at h; subst h; exact hv
  · have := truthU_ok hg h
    have hv' : v = _ := hv
    rw [hv', this]
  · exact absurd h (by simp)
  · exact absurd h (by simp)

theorem toI_ok {V : Val} {ρ : Rho} {c : C} {k : IntKind} {e : E} {v : Value} (h : c.toI = some (k, e)) (hv : CR V ρ c v) : v = .int k (evI V e) := by
  cases c <;> simp only [C.toI, Option.some.injEq, Prod.mk.injEq, reduceCtorEq] at h
  · obtain ⟨rfl, rfl⟩ := h; simpa [evI, CR] using hv
  · obtain ⟨rfl, rfl⟩ := h; exact hv
theorem toF_ok {V : Val} {ρ : Rho} {c : C} {e : E} {v : Value} (h : c.toF = some e) (hv : CR V ρ c v) : ∃ y, v = .float .f64 y ∧ FR (evF V e) y := by
  cases c <;> simp only [C.toF, Option.some.injEq, reduceCtorEq] at h
  · subst h; simpa [evF, CR] using hv
  · subst h; exact hv

theorem andC_ok {V : Val} {ρ : Rho} {a b c : C} (h : andC a b = some c) {x y : Bool} (ha : CR V ρ a (.bool x)) (hb : CR V ρ b (.bool y)) : CR V ρ c (.bool (x && y)) := by
  unfold andC at h
  split at h <;> simp only [Option.some.injEq, reduceCtorEq] at h <;> subst h <;> simp only [CR, Value.bool.injEq] at ha hb ⊢ <;> subst ha <;> subst hb <;> simp [evB]
theorem notC_ok {V : Val} {ρ : Rho} {a c : C} (h : notC a = some c) {x : Bool} (ha : CR V ρ a (.bool x)) : CR V ρ c (.bool (!x)) := by
  unfold notC at h
  split at h <;> simp only [Option.some.injEq, reduceCtorEq] at h <;> subst h <;> simp only [CR, Value.bool.injEq] at ha ⊢ <;> subst ha <;> simp [evB]

theorem floatEq_FR {x y x' y' : Nat} (h : FR x x') (g : FR y y') : Op.floatEq .f64 x' y' = eqB x y := by
  rw [eqB_FR h g]; exact ord_eq x' y'

section
variable {P : Program} {V : Val} {ρ : Rho}

theorem run_equalIn_float (w : World) (d : Nat) (t : TypeId) (k : FloatKind) (a b : Nat) (h : P.underlying t = some (.float k)) : (Op.equalIn (d + 1) t (.float .f64 a) (.float .f64 b)).run P w = .ok (Op.floatEq .f64 a b) w := by
  simp [Op.equalIn, run_underlying h]

theorem toB_ok {c : C} {e : E} {v : Value} (h : c.toB = some e) (hv : CR V ρ c v) : v = .bool (evB V e) := by
  cases c <;> simp only [C.toB, Option.some.injEq, reduceCtorEq] at h
  · subst h; simpa [evB, CR] using hv
  · subst h; exact hv

theorem plain_cases {t : TypeId} {x : C} (h : plainT P t x = true) : (P.underlying t = some .bool ∧ ∃ e, x.toB = some e) ∨ (∃ k, P.underlying t = some (.int k) ∧ ∃ q, x.toI = some q) ∨ (P.underlying t = some (.float .f64) ∧ ∃ e, x.toF = some e) := by
  unfold plainT at h
  split at h <;> rename_i hu <;> try (cases h; done)
  · exact .inl ⟨hu, _, rfl⟩
  · exact .inl ⟨hu, _, rfl⟩
  · exact .inr (.inl ⟨_, hu, _, rfl⟩)
  · exact .inr (.inl ⟨_, hu, _, rfl⟩)
  · exact .inr (.inr ⟨hu, _, rfl⟩)
  · exact .inr (.inr ⟨hu, _, rfl⟩)

theorem beq_bif (x y : Bool) : (x == y) = bif x then y else !y := by cases x <;> cases y <;> rfl
theorem eqC_ok {x y c : C} (h : eqC x y = some c) {t : TypeId} (hx : plainT P t x = true) (hy : plainT P t y = true) {vx vy : Value} (rx : CR V ρ x vx) (ry : CR V ρ y vy) (d : Nat) (w : World) :
    ∃ b, (Op.equalIn (d + 1) t vx vy).run P w = .ok b w ∧ CR V ρ c (.bool b) := by
  rcases plain_cases hx with ⟨hu, e, he⟩ | ⟨k, hu, ⟨k1, e⟩, he⟩ | ⟨hu, e, he⟩ <;> rcases plain_cases hy with ⟨hu', e', he'⟩ | ⟨k', hu', ⟨k2, e'⟩, he'⟩ | ⟨hu', e', he'⟩ <;> rw [hu] at hu' <;> try (cases hu'; done)
  · have r1 := toB_ok he rx
    have r2 := toB_ok he' ry
    subst r1; subst r2
    rw [run_equalIn_bool' w d t _ _ hu]
    refine ⟨_, rfl, ?_⟩
    cases x <;> cases y <;> simp only [C.toB, reduceCtorEq] at he he' <;> simp [eqC, C.toI, C.toF, C.toB] at h <;> simp only [Option.some.injEq] at he he' <;> subst he <;> subst he' <;> subst h <;> simp [CR, evB] <;> (first | rfl | (rw [Bool.eq_iff_iff]; simp; done) | exact beq_bif _ _)
  · have r1 := toI_ok he rx
    have r2 := toI_ok he' ry
    subst r1; subst r2
    have hk : k1 = k2 ∧ CR V ρ c (.bool (evI V e == evI V e')) := by
      cases x <;> cases y <;> simp only [C.toI, reduceCtorEq] at he he' <;> simp only [Option.some.injEq, Prod.mk.injEq] at he he' <;> obtain ⟨rfl, rfl⟩ := he <;> obtain ⟨rfl, rfl⟩ := he' <;> simp [eqC, C.toI] at h <;> obtain ⟨rfl, rfl⟩ := h <;> simp [CR, evB, evI, icV] <;> (first | rfl | (rw [Bool.eq_iff_iff]; simp))
    obtain ⟨rfl, hc⟩ := hk
    rw [run_equalIn_int w d t _ _ _ _ hu]
    exact ⟨_, rfl, hc⟩
  · obtain ⟨y1, rfl, f1⟩ := toF_ok he rx
    obtain ⟨y2, rfl, f2⟩ := toF_ok he' ry
    rw [run_equalIn_float w d t _ _ _ hu, floatEq_FR f1 f2]
    refine ⟨_, rfl, ?_⟩
    cases x <;> cases y <;> simp only [C.toF, reduceCtorEq] at he he' <;> simp only [Option.some.injEq] at he he' <;> subst he <;> subst he' <;> simp [eqC, C.toI, C.toF] at h <;> subst h <;> simp [CR, evB, evF, fcV]

theorem nilish_ok {x y : C} {b : Bool} {t : TypeId} (h : nilish P t x y = some b) {vx vy : Value} (rx : CR V ρ x vx) (ry : CR V ρ y vy) (w : World) :
    (Op.equal t vx vy).run P w = .ok b w := by
  unfold nilish at h
  split at h <;> rename_i hu <;> simp only [Option.some.injEq, reduceCtorEq] at h <;> subst h <;> simp only [CR] at rx ry
  all_goals (try (obtain ⟨q, n, -, rfl, -⟩ := rx))
  all_goals (try (obtain ⟨q, n, -, rfl, -⟩ := ry))
  all_goals (try (obtain ⟨q, -, rfl⟩ := rx))
  all_goals (try (obtain ⟨q, -, rfl⟩ := ry))
  all_goals (try (obtain ⟨q, rfl, -⟩ := rx))
  all_goals (try (obtain ⟨q, rfl, -⟩ := ry))
  all_goals (try subst rx)
  all_goals (try subst ry)
  all_goals (show (Op.equalIn (9999 + 1) t _ _).run P w = _; generalize 9999 = d; simp [Op.equalIn, run_underlying hu])

theorem isAggP_true {t : TypeId} (h : isAggP P t = some true) : ∃ d, P.underlying t = some d ∧ d.isRow = true := by
  unfold isAggP at h
  split at h <;> simp at h
  · rename_i hu; exact ⟨_, hu, rfl⟩
  · rename_i hu; exact ⟨_, hu, rfl⟩
theorem isAggP_false {t : TypeId} (h : isAggP P t = some false) : ∃ d, P.underlying t = some d ∧ d.isRow = false := by
  unfold isAggP at h
  split at h <;> simp at h
  rename_i d h1 h2 hu
  refine ⟨d, hu, ?_⟩
  cases d <;> first | rfl | (exact absurd rfl (h1 _)) | (exact absurd rfl (h2 _ _))
theorem run_isAgg {t : TypeId} {b : Bool} (h : isAggP P t = some b) (w : World) : (isAgg t).run P w = .ok b w := by
  unfold isAgg
  cases b
  · obtain ⟨d, hu, hd⟩ := isAggP_false h
    rw [Sem.run_bind, run_underlying hu w]
    cases d <;> simp_all
  · obtain ⟨d, hu, hd⟩ := isAggP_true h
    rw [Sem.run_bind, run_underlying hu w]
    cases d <;> simp_all
theorem sizeP_ok {t : TypeId} {n : Nat} (h : sizeP P t = some n) : (P.info? t).map (·.size) = some n := h
theorem run_sizeP {t : TypeId} {n : Nat} (h : sizeP P t = some n) (w : World) : (sizeOf t).run P w = .ok n w := by
  unfold sizeP at h
  cases hi : P.info? t with
  | none => rw [hi] at h; simp at h
  | some i =>
    rw [hi] at h
    simp at h
    simp [sizeOf, typeInfo, hi, h]

theorem part_ok {t : TypeId} {cs : List C} {off : Nat} {v : SV} (h : partC P t cs off = some v) {rc : Array Value} (hc : All2 (CR V ρ) cs rc.toList) (w : World) : ∃ rv, (part t rc off).run P w = .ok rv w ∧ VR V ρ v rv := by
  unfold partC at h
  split at h
  · rename_i n ha hs
    cases hb : Nat.ble (off + n) cs.length <;> rw [hb] at h
    · simp at h
    · simp only [cond_true, Option.some.injEq] at h
      subst h
      refine ⟨.agg (rc.extract off (off + n)), ?_, ⟨_, rfl, ?_⟩⟩
      · simp [part, run_isAgg ha, run_sizeP hs]
      · have := (hc.drop off).take n
        simpa [Array.toList_extract, List.extract] using this
  · rename_i n ha hs
    cases hg : cs[off]? with
    | none => rw [hg] at h; simp at h
    | some c =>
      rw [hg] at h
      simp only [Option.map_some, Option.some.injEq] at h
      subst h
      obtain ⟨u, u1, u2⟩ := hc.get hg
      refine ⟨u, ?_, u2⟩
      have : rc[off]? = some u := by simpa using u1
      simp [part, run_isAgg ha, this]
  · simp at h

theorem eqFs_ok {rec : TypeId → SV → SV → Option C} {k : Nat} {w : World} (hrec : ∀ t a b c, rec t a b = some c → ∀ va vb, VR V ρ a va → VR V ρ b vb → ∃ r, (Op.equalIn k t va vb).run P w = .ok r w ∧ CR V ρ c (.bool r))
    {xs ys : List C} {vx vy : Array Value} (rx : All2 (CR V ρ) xs vx.toList) (ry : All2 (CR V ρ) ys vy.toList) :
    ∀ (fs : List Field) (c : C), eqFs P rec xs ys fs = some c → ∃ r, (Op.eqFields k vx vy fs).run P w = .ok r w ∧ CR V ρ c (.bool r)
  | [], c, h => by
    simp only [eqFs, Option.some.injEq] at h
    subst h
    exact ⟨true, by simp [Op.eqFields], rfl⟩
  | f :: fs, c, h => by
    unfold eqFs at h
    cases hn : (f.name != "_") <;> rw [hn] at h
    · cases h
    · simp only [cond_true] at h
      split at h
      · rename_i a b ha hb
        split at h
        · cases h
        · rename_i c1 hc1
          split at h
          · cases h
          · rename_i c2 hc2
            obtain ⟨va, p1, r1⟩ := part_ok ha rx w
            obtain ⟨vb, p2, r2⟩ := part_ok hb ry w
            obtain ⟨b1, s1, t1⟩ := hrec _ _ _ _ hc1 va vb r1 r2
            obtain ⟨b2, s2, t2⟩ := eqFs_ok hrec rx ry fs c2 hc2
            refine ⟨b1 && b2, ?_, andC_ok h t1 t2⟩
            have hname : f.name ≠ "_" := by simpa using hn
            simp only [Op.eqFields, hname, ne_eq, not_false_eq_true, if_true, Sem.run_bind, p1, p2, s1, Result.andThen_ok]
            cases b1
            · simp
            · simpa using s2
      · cases h

theorem eqIs_ok {rec : SV → SV → Option C} {k s : Nat} {e : TypeId} {w : World} (hrec : ∀ a b c, rec a b = some c → ∀ va vb, VR V ρ a va → VR V ρ b vb → ∃ r, (Op.equalIn k e va vb).run P w = .ok r w ∧ CR V ρ c (.bool r))
    {xs ys : List C} {vx vy : Array Value} (rx : All2 (CR V ρ) xs vx.toList) (ry : All2 (CR V ρ) ys vy.toList) :
    ∀ (is : List Nat) (c : C), eqIs P rec e s xs ys is = some c → ∃ r, (Op.eqItems k e s vx vy is).run P w = .ok r w ∧ CR V ρ c (.bool r)
  | [], c, h => by
    simp only [eqIs, Option.some.injEq] at h
    subst h
    exact ⟨true, by simp [Op.eqItems], rfl⟩
  | i :: is, c, h => by
    unfold eqIs at h
    split at h
    · rename_i a b ha hb
      split at h
      · cases h
      · rename_i c1 hc1
        split at h
        · cases h
        · rename_i c2 hc2
          obtain ⟨va, p1, r1⟩ := part_ok ha rx w
          obtain ⟨vb, p2, r2⟩ := part_ok hb ry w
          obtain ⟨b1, s1, t1⟩ := hrec _ _ _ hc1 va vb r1 r2
          obtain ⟨b2, s2, t2⟩ := eqIs_ok hrec rx ry is c2 hc2
          refine ⟨b1 && b2, ?_, andC_ok h t1 t2⟩
          simp only [Op.eqItems, Sem.run_bind, p1, p2, s1, Result.andThen_ok]
          cases b1
          · simp
          · simpa using s2
    · cases h

theorem eqD_ok (w : World) : ∀ (n : Nat) (t : TypeId) (x y : SV) (c : C), eqD P n t x y = some c → ∀ (k : Nat) (vx vy : Value), n ≤ k → VR V ρ x vx → VR V ρ y vy → ∃ r, (Op.equalIn k t vx vy).run P w = .ok r w ∧ CR V ρ c (.bool r)
  | 0, _, _, _, _, h, _, _, _, _, _, _ => by cases h
  | n + 1, t, x, y, c, h, k, vx, vy, hk, hx, hy => by
    obtain ⟨k, rfl⟩ : ∃ m, k = m + 1 := ⟨k - 1, by omega⟩
    unfold eqD at h
    split at h
    · rename_i xs ys
      obtain ⟨v1, rfl, r1⟩ := hx
      obtain ⟨v2, rfl, r2⟩ := hy
      split at h
      · rename_i fs hu
        cases hs : P.stoodInHeld t <;> rw [hs] at h
        · simp only [Bool.not_false, cond_true] at h
          have hf : P.fieldsOf t = fs := by unfold Program.fieldsOf; rw [hu]
          have hu' : P.underlying t = some (.struct (P.fieldsOf t)) := by rw [hf]; exact hu
          rw [run_equalIn_struct w k t _ _ hu' hs, hf]
          exact eqFs_ok (fun t a b c h va vb ra rb => eqD_ok w n t a b c h k va vb (by omega) ra rb) r1 r2 fs.toList c h
        · cases h
      · rename_i m e hu
        split at h
        · rename_i s hs
          obtain ⟨i, hi, hc⟩ : ∃ i, P.info? e = some i ∧ P.cellsOf e = s := by
            unfold sizeP at hs
            cases hi : P.info? e with
            | none => rw [hi] at hs; cases hs
            | some i => exact ⟨i, rfl, by unfold Program.cellsOf; rw [hs]; rfl⟩
          rw [run_equalIn_array w k v1 v2 hu hi, hc]
          exact eqIs_ok (fun a b c h va vb ra rb => eqD_ok w n e a b c h k va vb (by omega) ra rb) r1 r2 (List.range (m + 1)) c h
        · cases h
      · cases h
    · rename_i x y
      cases hp : (plainT P t x && plainT P t y) <;> rw [hp] at h
      · cases h
      · simp only [Bool.and_eq_true] at hp
        simp only [cond_true] at h
        exact eqC_ok h hp.1 hp.2 hx hy k w
    · cases h

theorem eqV_ok {t : TypeId} {a b : SV} {c : C} (h : eqV P t a b = some c) {vx vy : Value} (ra : VR V ρ a vx) (rb : VR V ρ b vy) (w : World) :
    ∃ b, (Op.equal t vx vy).run P w = .ok b w ∧ CR V ρ c (.bool b) := by
  unfold eqV at h
  split at h
  · rename_i x y
    split at h
    · rename_i r hr
      cases hp : (plainT P t x && plainT P t y) <;> rw [hp] at h
      · simp at h
      · simp only [Bool.and_eq_true] at hp
        simp only [cond_true, Option.some.injEq] at h
        subst h
        exact eqC_ok hr hp.1 hp.2 ra rb 9999 w
    · cases hn : nilish P t x y with
      | none => rw [hn] at h; simp at h
      | some q =>
        rw [hn] at h
        simp only [Option.map_some, Option.some.injEq] at h
        subst h
        exact ⟨q, nilish_ok hn ra rb w, rfl⟩
  · rename_i xs ys
    unfold eqAgg at h
    cases hd : Nat.ble 9 P.depth <;> rw [hd] at h
    · cases h
    · exact eqD_ok w 9 t (.ag xs) (.ag ys) c h 10000 vx vy (by omega) ra rb
  · simp at h

end
section
variable {V : Val}
theorem nmF_ok {o : Option (E → Option Nat)} (ho : NmOK V o) {e : E} {ρ : Rho} {v : Value} (h : CR V ρ (.ef e) v) : CR V ρ (nmF o e) v := by
  cases o with
  | none => exact h
  | some f =>
    have hu : nmF (some f) e = (match f e with | some k => .ef (.vf k) | none => .ef e) := rfl
    rw [hu]
    cases hf : f e with
    | none => exact h
    | some k => obtain ⟨y, h1, h2⟩ := h; exact ⟨y, h1, by show FR (V.f k) y; rw [ho f rfl e k hf]; exact h2⟩
theorem nmM_ok {o : Option (E → Option Nat)} (ho : NmOK V o) {e : E} {ρ : Rho} {v : Value} (h : CR V ρ (.ef e) v) : CR V ρ (nmM o e) v := nmF_ok ho h
theorem nmC_ok {o : Option (E → Option Nat)} (ho : NmOK V o) {ρ : Rho} {c : C} {v : Value} (h : CR V ρ c v) : CR V ρ (nmC o c) v := by
  unfold nmC
  split
  · exact nmM_ok ho h
  · exact nmF_ok ho h
  · exact nmF_ok ho h
  · exact h
theorem all_map {R : C → Value → Prop} {f : C → C} (hf : ∀ c v, R c v → R (f c) v) : ∀ {l : List C} {vs : List Value}, All2 R l vs → All2 R (l.map f) vs
  | [], [], _ => trivial
  | [], _ :: _, h => h.elim
  | _ :: _, [], h => h.elim
  | _ :: _, _ :: _, h => ⟨hf _ _ h.1, all_map hf h.2⟩
theorem nmV1_ok {o : Option (E → Option Nat)} (ho : NmOK V o) {ρ : Rho} {c : SV1} {v : Value} (h : V1R V ρ c v) : V1R V ρ (nmV1 o c) v := by
  cases c with
  | c x => exact nmC_ok ho h
  | ag l => obtain ⟨vs, h1, h2⟩ := h; exact ⟨vs, h1, all_map (fun _ _ => nmC_ok ho) h2⟩
theorem all_map1 {R : SV1 → Value → Prop} {f : SV1 → SV1} (hf : ∀ c v, R c v → R (f c) v) : ∀ {l : List SV1} {vs : List Value}, All2 R l vs → All2 R (l.map f) vs
  | [], [], _ => trivial
  | [], _ :: _, h => h.elim
  | _ :: _, [], h => h.elim
  | _ :: _, _ :: _, h => ⟨hf _ _ h.1, all_map1 hf h.2⟩
theorem nmV_ok {o : Option (E → Option Nat)} (ho : NmOK V o) {ρ : Rho} {c : SV} {v : Value} (h : VR V ρ c v) : VR V ρ (nmV o c) v := by
  cases c with
  | c x => exact nmC_ok ho h
  | ag l => obtain ⟨vs, h1, h2⟩ := h; exact ⟨vs, h1, all_map (fun _ _ => nmC_ok ho) h2⟩
  | tu l => obtain ⟨vs, h1, h2⟩ := h; exact ⟨vs, h1, all_map1 (fun _ _ => nmV1_ok ho) h2⟩
theorem fcL_ok {op : BinOp} {y : Nat} : ∀ (e : E), evB V (fcL op y e) = fcV op (evF V e) y := by
  intro e
  induction e with
  | tf c a b _ iha ihb =>
    rw [fcL, evB, iha, ihb, evF]
    cases evB V c <;> rfl
  | _ => rfl
theorem fcR_ok {op : BinOp} {x : Nat} : ∀ (e : E), evB V (fcR op x e) = fcV op x (evF V e) := by
  intro e
  induction e with
  | tf c a b _ iha ihb =>
    rw [fcR, evB, iha, ihb, evF]
    cases evB V c <;> rfl
  | _ => rfl
theorem fcA_ok {op : BinOp} {a : E} : ∀ (e : E), evB V (fcA op a e) = fcV op (evF V a) (evF V e) := by
  intro e
  induction e with
  | tf c x y _ iha ihb =>
    rw [fcA, evB, iha, ihb, evF]
    cases evB V c <;> rfl
  | _ => rfl
theorem fcB_ok {op : BinOp} {b : E} : ∀ (e : E), evB V (fcB op b e) = fcV op (evF V e) (evF V b) := by
  intro e
  induction e with
  | tf c x y _ iha ihb =>
    rw [fcB, evB, iha, ihb, evF]
    cases evB V c <;> rfl
  | _ => exact fcA_ok b
theorem fcP_ok {op : BinOp} (a b : E) : evB V (fcP op a b) = fcV op (evF V a) (evF V b) := by
  unfold fcP
  split
  · cases Nat.ble (Nat.mul (leavesE a) (leavesE b)) 64
    · rfl
    · exact fcB_ok a
  · cases Nat.ble (Nat.mul (leavesE a) (leavesE b)) 64
    · rfl
    · exact fcB_ok a
  · rfl
theorem icL_ok {op : BinOp} : ∀ (x y : E), evB V (icL op x y) = icV op (evI V x) (evI V y) := by
  intro x
  induction x with
  | ti c a b _ iha ihb =>
    intro y
    rw [icL, evB, iha, ihb, evI]
    cases evB V c <;> rfl
  | li m => intro y; cases y <;> rfl
  | _ => intro y; rfl
theorem icR_ok {op : BinOp} (x : E) : ∀ (y : E), evB V (icR op x y) = icV op (evI V x) (evI V y) := by
  intro y
  induction y with
  | ti c a b _ iha ihb =>
    rw [icR, evB, iha, ihb]
    show _ = icV op (evI V x) (bif evB V c then evI V a else evI V b)
    cases evB V c <;> rfl
  | _ => exact icL_ok x _
theorem simF_ok {l : List (E × Bool)} (hl : LOK V l) : ∀ (e : E), evF V (simF l e) = evF V e := by
  intro e
  induction e with
  | tf c a b _ iha ihb =>
    unfold simF
    show _ = bif evB V c then evF V a else evF V b
    split
    · rename_i h; rw [lookE_ok hl h, iha]; rfl
    · rename_i h; rw [lookE_ok hl h, ihb]; rfl
    · rfl
  | _ => rfl
theorem simJ_ok {l : List (E × Bool)} (hl : LOK V l) : ∀ (e : E), evI V (simJ l e) = evI V e := by
  intro e
  induction e with
  | ti c a b _ iha ihb =>
    unfold simJ
    show _ = bif evB V c then evI V a else evI V b
    split
    · rename_i h; rw [lookE_ok hl h, iha]; rfl
    · rename_i h; rw [lookE_ok hl h, ihb]; rfl
    · rfl
  | _ => rfl
theorem cF_ok {ρ : Rho} {v : Value} : ∀ {e : E}, CR V ρ (.ef e) v → CR V ρ (cF e) v := fun {e} h => by
  cases e <;> exact h
theorem cI_ok {ρ : Rho} {k : IntKind} {v : Value} : ∀ {e : E}, CR V ρ (.ei k e) v → CR V ρ (cI k e) v := fun {e} h => by
  cases e <;> exact h
theorem simC_ok {l : List (E × Bool)} (hl : LOK V l) {ρ : Rho} {c : C} {v : Value} (h : CR V ρ c v) : CR V ρ (simC l c) v := by
  unfold simC
  split
  · refine cF_ok ?_
    obtain ⟨y, h1, h2⟩ := h
    exact ⟨y, h1, by rw [simF_ok hl]; exact h2⟩
  · refine cI_ok ?_
    show v = .int _ (evI V (simJ l _))
    rw [simJ_ok hl]
    exact h
  · exact h
theorem sim1_ok {l : List (E × Bool)} (hl : LOK V l) {ρ : Rho} {c : SV1} {v : Value} (h : V1R V ρ c v) : V1R V ρ (sim1 l c) v := by
  cases c with
  | c x => exact simC_ok hl h
  | ag m => obtain ⟨vs, h1, h2⟩ := h; exact ⟨vs, h1, all_map (fun _ _ => simC_ok hl) h2⟩
theorem simS_ok {l : List (E × Bool)} (hl : LOK V l) {ρ : Rho} {c : SV} {v : Value} (h : VR V ρ c v) : VR V ρ (simS l c) v := by
  cases c with
  | c x => exact simC_ok hl h
  | ag m => obtain ⟨vs, h1, h2⟩ := h; exact ⟨vs, h1, all_map (fun _ _ => simC_ok hl) h2⟩
  | tu m => obtain ⟨vs, h1, h2⟩ := h; exact ⟨vs, h1, all_map1 (fun _ _ => sim1_ok hl) h2⟩
theorem undF_ok {c : E} {t : Bool} (hc : evB V c = t) : ∀ (e : E), evF V (undF c t e) = evF V e := by
  intro e
  induction e with
  | tf c' a b _ iha ihb =>
    unfold undF
    by_cases h : c' = c
    · subst h
      rw [if_pos rfl]
      cases t
      · simp only [cond_false, ihb, evF, hc]
      · simp only [cond_true, iha, evF, hc]
    · rw [if_neg h]
  | _ => rfl
theorem undI_ok {c : E} {t : Bool} (hc : evB V c = t) : ∀ (e : E), evI V (undI c t e) = evI V e := by
  intro e
  induction e with
  | ti c' a b _ iha ihb =>
    unfold undI
    by_cases h : c' = c
    · subst h
      rw [if_pos rfl]
      cases t
      · simp only [cond_false, ihb, evI, hc]
      · simp only [cond_true, iha, evI, hc]
    · rw [if_neg h]
  | _ => rfl
theorem pickO_ok {c : E} {t : Bool} (hc : evB V c = t) {x : Option (List (E × CP) × CP)} {q : List (E × CP) × CP} (h : pickO c t x = some q) : ∃ p, x = some p ∧ selP V q.1 q.2 = selP V p.1 p.2 := by
  unfold pickO at h
  split at h
  · rename_i p
    simp only [Option.some.injEq] at h
    subst h
    exact ⟨p, rfl, pickP_ok hc p.1 p.2⟩
  · cases h
theorem mergeC_ok {o : Option (E → Option Nat)} (ho : NmOK V o) {e : E} {a b : C} {t : Bool} (he : evB V e = t) {ρ : Rho} {v : Value} (h : CR V ρ (bif t then a else b) v) : CR V ρ (mergeC o e a b) v := by
  unfold mergeC
  by_cases hab : a = b
  · rw [if_pos hab]; subst hab; cases t <;> exact h
  · rw [if_neg hab]
    split
    · rename_i x y hx hy
      cases t
      · obtain ⟨z, rfl, hz⟩ := toF_ok hy h
        exact nmM_ok ho ⟨z, rfl, by simpa [evF, he, undF_ok he] using hz⟩
      · obtain ⟨z, rfl, hz⟩ := toF_ok hx h
        exact nmM_ok ho ⟨z, rfl, by simpa [evF, he, undF_ok he] using hz⟩
    · split
      · rename_i k x k' y hx hy
        by_cases hk : k = k'
        · subst hk
          rw [if_pos rfl]
          cases t
          · have := toI_ok hy h; subst this; simp [CR, evI, he, undI_ok he]
          · have := toI_ok hx h; subst this; simp [CR, evI, he, undI_ok he]
        · rw [if_neg hk]; exact h.one
      · split
        · rename_i x y hx hy
          cases t
          · have := toB_ok hy h; subst this; simp [CR, evB, he]
          · have := toB_ok hx h; subst this; simp [CR, evB, he]
        · generalize ha : pickO e true (chainOf a) = qa
          generalize hb : pickO e false (chainOf b) = qb
          unfold joinCC
          split
          · rename_i x y
            cases Nat.ble (x.1.length + y.1.length) 60
            · exact h.one
            · show CPR ρ (selP V (guardL e x.1 ++ (e, x.2) :: y.1) y.2) v
              rw [selP_join, he]
              cases t
              · obtain ⟨p, p1, p2⟩ := pickO_ok (V := V) he hb
                show CPR ρ (selP V y.1 y.2) v
                rw [p2]
                exact chainOf_ok p1 h
              · obtain ⟨p, p1, p2⟩ := pickO_ok (V := V) he ha
                show CPR ρ (selP V x.1 x.2) v
                rw [p2]
                exact chainOf_ok p1 h
          · exact h.one
theorem mergeL_ok {o : Option (E → Option Nat)} (ho : NmOK V o) {e : E} {t : Bool} (he : evB V e = t) : ∀ {l m r : List C}, mergeL o e l m = some r → r.length = (bif t then l else m).length ∧ (∀ (i : Nat) (c' : C), r[i]? = some c' → ∃ c, (bif t then l else m)[i]? = some c ∧ ∀ ρ rv, CR V ρ c rv → CR V ρ c' rv) ∧ ∀ ρ vs, All2 (CR V ρ) (bif t then l else m) vs → All2 (CR V ρ) r vs
  | [], [], r, h => by
    simp only [mergeL, Option.some.injEq] at h; subst h
    cases t <;> exact ⟨rfl, fun i c h => by simp at h, fun _ _ h => h⟩
  | a :: l, b :: m, r, h => by
    unfold mergeL at h
    split at h
    · rename_i r' hr
      simp only [Option.some.injEq] at h; subst h
      obtain ⟨h1, h2, h3⟩ := mergeL_ok ho he hr
      have hh : ∀ ρ rv, CR V ρ (bif t then a else b) rv → CR V ρ (mergeC o e a b) rv := fun ρ rv h => mergeC_ok ho he h
      cases t
      · refine ⟨by simpa using h1, fun i c' hc => ?_, fun ρ vs hv => ?_⟩
        · cases i with
          | zero => simp at hc; subst hc; exact ⟨b, rfl, hh⟩
          | succ i => exact h2 i c' (by simpa using hc)
        · cases vs with
          | nil => exact hv.elim
          | cons v vs => exact ⟨hh _ _ hv.1, h3 ρ vs hv.2⟩
      · refine ⟨by simpa using h1, fun i c' hc => ?_, fun ρ vs hv => ?_⟩
        · cases i with
          | zero => simp at hc; subst hc; exact ⟨a, rfl, hh⟩
          | succ i => exact h2 i c' (by simpa using hc)
        · cases vs with
          | nil => exact hv.elim
          | cons v vs => exact ⟨hh _ _ hv.1, h3 ρ vs hv.2⟩
    · cases h
  | [], _ :: _, _, h => by cases h
  | _ :: _, [], _, h => by cases h
theorem mergeV_ok {o : Option (E → Option Nat)} (ho : NmOK V o) {e : E} {t : Bool} (he : evB V e = t) {a b c : SV} (h : mergeV o e a b = some c) : ∀ ρ rv, VR V ρ (bif t then a else b) rv → VR V ρ c rv := by
  unfold mergeV at h
  split at h
  · simp only [Option.some.injEq] at h; subst h
    intro ρ rv hv
    refine mergeC_ok ho (t := t) he ?_
    cases t <;> exact hv
  · rename_i l m
    cases hm : mergeL o e l m with
    | none => rw [hm] at h; cases h
    | some r =>
      rw [hm] at h
      simp only [Option.map_some, Option.some.injEq] at h; subst h
      obtain ⟨-, -, h3⟩ := mergeL_ok ho he hm
      intro ρ rv hv
      cases t
      · obtain ⟨vs, rfl, h4⟩ := hv; exact ⟨vs, rfl, h3 ρ _ h4⟩
      · obtain ⟨vs, rfl, h4⟩ := hv; exact ⟨vs, rfl, h3 ρ _ h4⟩
  · rename_i l m
    by_cases hlm : l = m
    · rw [if_pos hlm] at h
      simp only [Option.some.injEq] at h; subst h; subst hlm
      intro ρ rv hv
      cases t <;> exact hv
    · rw [if_neg hlm] at h; cases h
  · cases h
end
end Go.Proofs.Ytclhgnhbmlkomaa.Ex

namespace Go.Proofs.Ytclhgnhbmlkomaa.Ex
open Go
variable {P : Program} {V : Val} {ρ : Rho}

theorem run_binI (w : World) (op : BinOp) (t : TypeId) (k k' : IntKind) (a b : Int) (hs : isShift op = true → ¬ b < 0) (hk : isShift op = false → k = k') (hd : isDiv op = true → b ≠ 0) :
    (binOp op t (.int k a) (.int k' b)).run P w = .ok (if isCmp op then .bool (icV op a b) else .int k (ibV op k a b)) w := by
  cases op <;> simp only [isShift, isDiv, reduceCtorEq, false_implies, forall_const] at hs hk hd <;> (try subst hk) <;>
    simp [binOp, Op.shift, Op.intArith, Op.intDiv, Op.intBits, Op.intCmp, ibV, icV, bitsV, wrapF_eq, isCmp, hs, hd] <;> rfl

theorem run_binF (w : World) (op : BinOp) (t : TypeId) (x y : Nat) (hop : isFArith op = true) :
    (binOp op t (.float .f64 x) (.float .f64 y)).run P w = .ok (.float .f64 (fval op w x y)) (w.drewN (ndraw op x y)) :=
  run_fop P w op (by cases op <;> simp [isFArith] at hop <;> simp) t x y

theorem run_cmpF (w : World) (op : BinOp) (t : TypeId) (x y : Nat) (hop : isCmp op = true) :
    (binOp op t (.float .f64 x) (.float .f64 y)).run P w = .ok (.bool (fcV op x y)) w := by
  cases op <;> simp [isCmp] at hop <;> simp [binOp, Op.floatCmp, fcV, ord_lt, ord_eq, ord_gt, ord_ne, ord_le, ord_ge]

theorem run_eqGuard_op (w : World) (op : BinOp) (t : TypeId) (X Y : Operand) (x y : Value) (h : op ≠ .eql ∧ op ≠ .neq) : (eqGuard op t X Y x y).run P w = .ok () w := by
  obtain ⟨h1, h2⟩ := h
  unfold eqGuard
  cases op <;> simp at h1 h2 <;> rfl
theorem run_eqGuard_cell (w : World) (op : BinOp) (t : TypeId) (X Y : Operand) {x y : Value} {a : C} (hx : CR V ρ a x) (ha : a ≠ .u) : (eqGuard op t X Y x y).run P w = .ok () w := by
  have h1 : ∀ cs, x ≠ .agg cs := fun cs e => by have := hx.one; rw [e] at this; simp [Value.oneCell'] at this
  have h2 : x ≠ .nilIface := fun e => by
    subst e
    cases a <;> simp [CR] at hx ha
    rcases hx.plain with ⟨_, e⟩ | ⟨_, _, _, e⟩ <;> cases e
  unfold eqGuard
  cases op <;> first | rfl | (cases x <;> first | rfl | (exact absurd rfl (h1 _)) | exact absurd rfl h2)

theorem eqGuardType_plain {t : TypeId} {x : C} (h : plainT P t x = true) (d : Nat) : P.eqGuardType (d + 1) t = false := by
  unfold Program.eqGuardType
  rcases plain_cases h with ⟨hu, -⟩ | ⟨k, hu, -⟩ | ⟨hu, -⟩ <;> rw [hu]
theorem eqFs_guard {rec : TypeId → SV → SV → Option C} {k : Nat} (hrec : ∀ t a b c, rec t a b = some c → P.eqGuardType k t = false) {xs ys : List C} :
    ∀ (fs : List Field) (c : C), eqFs P rec xs ys fs = some c → ∀ f ∈ fs, P.eqGuardType k f.type = false
  | [], c, _, f, hf => by cases hf
  | g :: fs, c, h, f, hf => by
    unfold eqFs at h
    cases hn : (g.name != "_") <;> rw [hn] at h
    · cases h
    · simp only [cond_true] at h
      split at h
      · split at h
        · cases h
        · rename_i c1 hc1
          split at h
          · cases h
          · rename_i c2 hc2
            rcases List.mem_cons.1 hf with rfl | hf
            · exact hrec _ _ _ _ hc1
            · exact eqFs_guard hrec fs c2 hc2 f hf
      · cases h
theorem eqD_guard : ∀ (n : Nat) (t : TypeId) (x y : SV) (c : C), eqD P n t x y = some c → ∀ k, n ≤ k → P.eqGuardType k t = false
  | 0, _, _, _, _, h, _, _ => by cases h
  | n + 1, t, x, y, c, h, k, hk => by
    obtain ⟨k, rfl⟩ : ∃ m, k = m + 1 := ⟨k - 1, by omega⟩
    unfold eqD at h
    split at h
    · rename_i xs ys
      split at h
      · rename_i fs hu
        cases hs : P.stoodInHeld t <;> rw [hs] at h
        · simp only [Bool.not_false, cond_true] at h
          have hp := eqFs_guard (k := k) (fun t a b c h => eqD_guard n t a b c h k (by omega)) fs.toList c h
          unfold Program.eqGuardType
          rw [hu]
          simp only [Array.any_eq_false]
          intro i hi hc
          rw [hp fs[i] (by simp)] at hc
          simp at hc
        · cases h
      · rename_i m e hu
        split at h
        · rename_i s hs
          unfold Program.eqGuardType
          rw [hu]
          rw [List.range_succ_eq_map] at h
          unfold eqIs at h
          split at h
          · split at h
            · cases h
            · rename_i c1 hc1
              exact eqD_guard n e _ _ c1 hc1 k (by omega)
          · cases h
        · cases h
      · cases h
    · rename_i x y
      cases hp : (plainT P t x && plainT P t y) <;> rw [hp] at h
      · cases h
      · simp only [Bool.and_eq_true] at hp
        exact eqGuardType_plain hp.1 k
    · cases h
theorem eqGuardType_agg {t : TypeId} {xs ys : List C} {c : C} (h : eqAgg P t xs ys = some c) : P.eqGuardType P.depth t = false := by
  unfold eqAgg at h
  cases hd : Nat.ble 9 P.depth <;> rw [hd] at h
  · cases h
  · simp only [cond_true] at h
    exact eqD_guard 9 t _ _ c h P.depth (Nat.le_of_ble_eq_true hd)
theorem run_eqGuard_agg (w : World) (op : BinOp) (t : TypeId) (X Y : Operand) {vx vy : Array Value} (h : P.eqGuardType P.depth t = false) : (eqGuard op t X Y (.agg vx) (.agg vy)).run P w = .ok () w := by
  unfold eqGuard
  cases op <;> first | rfl | simp [h]

theorem eqV_guard {t : TypeId} {a b : SV} {c : C} (h : eqV P t a b = some c) {vx vy : Value} (ra : VR V ρ a vx) (rb : VR V ρ b vy) (w : World) (op : BinOp) (X Y : Operand) :
    (eqGuard op t X Y vx vy).run P w = .ok () w := by
  unfold eqV at h
  split at h
  · rename_i x y
    refine run_eqGuard_cell (V := V) (ρ := ρ) w op t X Y ra ?_
    rintro rfl
    split at h
    · rename_i hq; cases y <;> simp [eqC, C.toI, C.toF, C.toB] at hq
    · unfold nilish at h; split at h <;> simp_all
  · rename_i xs ys
    obtain ⟨v1, rfl, r1⟩ := ra
    obtain ⟨v2, rfl, r2⟩ := rb
    exact run_eqGuard_agg w op t X Y (eqGuardType_agg h)
  · simp at h

/-- Values that '==' hands to 'equal' as they are. -/
def plainV : Value → Bool
  | .int _ _ | .float _ _ | .complex _ _ _ | .string _ => false
  | _ => true
theorem run_eql (w : World) (t : TypeId) {vx vy : Value} {b : Bool} (h : (Op.equal t vx vy).run P w = .ok b w) (hx : plainV vx = true) :
    (binOp .eql t vx vy).run P w = .ok (.bool b) w ∧ (binOp .neq t vx vy).run P w = .ok (.bool (!b)) w := by
  have e : binOp .eql t vx vy = (do pure (.bool (← Op.equal t vx vy))) ∧ binOp .neq t vx vy = (do pure (.bool (!(← Op.equal t vx vy)))) := by
    cases vx <;> simp [plainV] at hx <;> cases vy <;> exact ⟨rfl, rfl⟩
  rw [e.1, e.2]
  simp [h]
theorem eqable_ok {a : SV} {v : Value} (h : eqable a = true) (r : VR V ρ a v) : plainV v = true := by
  cases a with
  | c x =>
    cases x <;> simp [eqable] at h <;> simp only [VR, CR] at r
    all_goals (first | (rcases CPR.plain r with ⟨_, rfl⟩ | ⟨_, _, _, rfl⟩ <;> rfl) | (rcases r with ⟨q, n, -, -, rfl, -⟩ | ⟨-, q, n, rfl⟩ <;> rfl) | (obtain ⟨q, n, -, -, rfl, -⟩ := r; rfl) | (obtain ⟨q, n, -, -, -, rfl⟩ := r; rfl) | (obtain ⟨q, n, rfl⟩ := r; rfl) | (subst r; rfl) | (obtain ⟨q, -, rfl⟩ := r; rfl) | (obtain ⟨q, n, -, rfl, -⟩ := r; rfl) | (obtain ⟨q, rfl, -⟩ := r; rfl))
  | ag l => obtain ⟨q, rfl, -⟩ := r; rfl
  | tu l => obtain ⟨q, rfl, -⟩ := r; rfl

/-- What an operation on two gives. -/
def Reck (P : Program) (V : Val) (ρ : Rho) (s : Sem Value) (w : World) (v : SV) : Prop := ∃ rv n, s.run P w = .ok rv (w.drewN n) ∧ VR V ρ v rv

theorem Reck.mk {s : Sem Value} {w : World} {v : SV} {rv : Value} (h : s.run P w = .ok rv w) (r : VR V ρ v rv) : Reck P V ρ s w v := ⟨rv, 0, h, r⟩

theorem binII_ok {op : BinOp} {k k' : IntKind} {a b : Int} {c : C} (h : binII op k k' a b = .ok c) (w : World) (t : TypeId) :
    ∃ rv, (binOp op t (.int k a) (.int k' b)).run P w = .ok rv w ∧ CR V ρ c rv := by
  unfold binII at h
  cases hs : isShift op <;> rw [hs] at h
  · simp only [cond_false] at h
    split at h
    · rename_i hk
      cases hc : isCmp op <;> rw [hc] at h
      · simp only [cond_false] at h
        cases hd : (isDiv op && decide (b = 0)) <;> rw [hd] at h
        · simp only [cond_false, Res.ok.injEq] at h
          subst h
          refine ⟨_, run_binI w op t k k' a b (fun e => absurd e (by simp [hs])) (fun _ => hk) (fun e hb => by rw [e, hb] at hd; simp at hd), ?_⟩
          rw [hc]; rfl
        · simp at h
      · simp only [cond_true, Res.ok.injEq] at h
        subst h
        refine ⟨_, run_binI w op t k k' a b (fun e => absurd e (by simp [hs])) (fun _ => hk) (fun e _ => by cases op <;> simp [isDiv, isCmp] at e hc), ?_⟩
        rw [hc]; rfl
    · simp at h
  · simp only [cond_true] at h
    cases hb : decide (b < 0) <;> rw [hb] at h
    · simp only [cond_false, Res.ok.injEq] at h
      subst h
      have hc : isCmp op = false := by cases op <;> simp [isShift] at hs <;> rfl
      have hd : isDiv op = false := by cases op <;> simp [isShift] at hs <;> rfl
      refine ⟨_, run_binI w op t k k' a b (fun _ => by simpa using hb) (fun e => absurd e (by simp [hs])) (fun e => absurd e (by simp [hd])), ?_⟩
      rw [hc]; rfl
    · simp at h

theorem binEI_ok {g : Gam} (hg : GamOK V g) {op : BinOp} {k k' : IntKind} {a b : E} {c : C} (h : binEI g op k k' a b = .ok c) (w : World) (t : TypeId) :
    ∃ rv, (binOp op t (.int k (evI V a)) (.int k' (evI V b))).run P w = .ok rv w ∧ CR V ρ c rv := by
  unfold binEI at h
  cases hs : isShift op <;> rw [hs] at h
  · simp only [cond_false] at h
    split at h
    · rename_i hk
      cases hc : isCmp op <;> rw [hc] at h
      · simp only [cond_false] at h
        have key : (isDiv op = true → evI V b ≠ 0) ∧ c = .ei k (.ib op k a b) := by
          cases hd : isDiv op <;> rw [hd] at h
          · simp only [cond_false, Res.ok.injEq] at h
            exact ⟨fun e => absurd e (by simp), h.symm⟩
          · simp only [cond_true] at h
            split at h
            · rename_i n
              cases hn : decide (n = 0) <;> rw [hn] at h
              · simp only [cond_false, Res.ok.injEq] at h
                exact ⟨fun _ => by simpa [evI] using hn, h.symm⟩
              · simp at h
            · split at h <;> simp only [Res.ok.injEq, reduceCtorEq] at h
              rename_i ht
              have := truthE_ok hg ht
              exact ⟨fun _ => of_decide_eq_false this, h.symm⟩
        obtain ⟨h1, rfl⟩ := key
        refine ⟨_, run_binI w op t k k' _ _ (fun e => absurd e (by simp [hs])) (fun _ => hk) h1, ?_⟩
        rw [hc]; rfl
      · simp only [cond_true, Res.ok.injEq] at h
        subst h
        refine ⟨_, run_binI w op t k k' _ _ (fun e => absurd e (by simp [hs])) (fun _ => hk) (fun e _ => by cases op <;> simp [isDiv, isCmp] at e hc), ?_⟩
        rw [hc]
        show Value.bool _ = Value.bool _
        rw [icR_ok]
    · simp at h
  · simp only [cond_true] at h
    have hc : isCmp op = false := by cases op <;> simp [isShift] at hs <;> rfl
    have hd : isDiv op = false := by cases op <;> simp [isShift] at hs <;> rfl
    have key : ¬ evI V b < 0 ∧ c = .ei k (.ib op k a b) := by
      split at h
      · rename_i n
        cases hn : decide (n < 0) <;> rw [hn] at h
        · simp only [cond_false, Res.ok.injEq] at h
          exact ⟨by simpa [evI] using hn, h.symm⟩
        · simp at h
      · split at h <;> simp only [Res.ok.injEq, reduceCtorEq] at h
        rename_i ht
        have := truthE_ok hg ht
        exact ⟨of_decide_eq_false this, h.symm⟩
    obtain ⟨h1, rfl⟩ := key
    refine ⟨_, run_binI w op t k k' _ _ (fun _ => h1) (fun e => absurd e (by simp [hs])) (fun e => absurd e (by simp [hd])), ?_⟩
    rw [hc]; rfl

theorem bind_ok {α β : Type} {r : Res α} {f : α → Res β} {b : β} (h : r.bind f = .ok b) : ∃ a, r = .ok a ∧ f a = .ok b := by
  cases r <;> simp [Res.bind] at h
  exact ⟨_, rfl, h⟩
theorem orBad_ok {α : Type} {n : Nat} {o : Option α} {a : α} (h : orBad n o = .ok a) : o = some a := by
  cases o <;> simp [orBad] at h
  rw [h]

theorem run_guarded {w : World} {op : BinOp} {t : TypeId} {X Y : Operand} {vx vy : Value} (h : (eqGuard op t X Y vx vy).run P w = .ok () w) :
    (do eqGuard op t X Y vx vy; binOp op t vx vy : Sem Value).run P w = (binOp op t vx vy).run P w := by
  simp [h]

theorem float_Reck {w : World} {op : BinOp} {t : TypeId} {X Y : Operand} {x y x' y' : Nat} (f1 : FR x x') (f2 : FR y y') {c : C} (hc : isCmp op = true → CR V ρ c (.bool (fcV op x y))) (ha : isCmp op = false → isFArith op = true ∧ ∀ z, FR (cop op x y) z → CR V ρ c (.float .f64 z)) :
    Reck P V ρ (do eqGuard op t X Y (.float .f64 x') (.float .f64 y'); binOp op t (.float .f64 x') (.float .f64 y') : Sem Value) w (.c c) := by
  have hgd : (eqGuard op t X Y (.float .f64 x') (.float .f64 y')).run P w = .ok () w := by unfold eqGuard; cases op <;> rfl
  unfold Reck
  rw [run_guarded hgd]
  cases h : isCmp op
  · obtain ⟨h1, h2⟩ := ha h
    exact ⟨_, _, run_binF w op t x' y' h1, h2 _ (f1.cop f2 w)⟩
  · refine ⟨_, 0, run_cmpF w op t x' y' h, ?_⟩
    rw [← fcV_FR f1 f2]
    exact hc h
theorem int_Reck {w : World} {op : BinOp} {t : TypeId} {X Y : Operand} {k k' : IntKind} {x y : Int} {c : C} (h : ∃ rv, (binOp op t (.int k x) (.int k' y)).run P w = .ok rv w ∧ CR V ρ c rv) :
    Reck P V ρ (do eqGuard op t X Y (.int k x) (.int k' y); binOp op t (.int k x) (.int k' y) : Sem Value) w (.c c) := by
  have hgd : (eqGuard op t X Y (.int k x) (.int k' y)).run P w = .ok () w := by unfold eqGuard; cases op <;> rfl
  unfold Reck
  rw [run_guarded hgd]
  obtain ⟨rv, h1, h2⟩ := h
  exact ⟨rv, 0, h1, h2⟩

theorem binV_ok {g : Gam} (hg : GamOK V g) {op : BinOp} {t : TypeId} {a b v : SV} (h : binV P g op t a b = .ok v) {vx vy : Value} (ra : VR V ρ a vx) (rb : VR V ρ b vy) (w : World) (X Y : Operand) :
    Reck P V ρ (do eqGuard op t X Y vx vy; binOp op t vx vy : Sem Value) w v := by
  unfold binV at h
  split at h
  · obtain ⟨c, h1, h2⟩ := bind_ok h
    simp only [Res.ok.injEq] at h2
    subst h2
    simp only [VR, CR] at ra rb
    subst ra; subst rb
    exact int_Reck (binII_ok h1 w t)
  · obtain ⟨x', rfl, f1⟩ := ra
    obtain ⟨y', rfl, f2⟩ := rb
    cases hc : isCmp op <;> rw [hc] at h
    · cases hf : isFArith op <;> rw [hf] at h <;> simp at h
      subst h
      exact float_Reck f1 f2 (fun e => absurd e (by simp [hc])) (fun _ => ⟨hf, fun z hz => ⟨z, rfl, hz⟩⟩)
    · simp at h
      subst h
      exact float_Reck f1 f2 (fun _ => rfl) (fun e => absurd e (by simp [hc]))
  · split at h
    · obtain ⟨c, h1, h2⟩ := bind_ok h
      simp only [Res.ok.injEq] at h2
      subst h2
      simp only [VR, CR] at ra rb
      subst ra; subst rb
      exact int_Reck (binEI_ok hg h1 w t)
    · obtain ⟨c, h1, h2⟩ := bind_ok h
      simp only [Res.ok.injEq] at h2
      subst h2
      simp only [VR, CR] at ra rb
      subst ra; subst rb
      exact int_Reck (binEI_ok hg h1 w t)
    · obtain ⟨c, h1, h2⟩ := bind_ok h
      simp only [Res.ok.injEq] at h2
      subst h2
      simp only [VR, CR] at ra rb
      subst ra; subst rb
      exact int_Reck (binEI_ok hg h1 w t)
    all_goals try (
      obtain ⟨x', rfl, f1⟩ := ra
      obtain ⟨y', rfl, f2⟩ := rb
      cases hc : isCmp op <;> rw [hc] at h
      · cases hf : isFArith op <;> rw [hf] at h <;> simp at h
        subst h
        exact float_Reck f1 f2 (fun e => absurd e (by simp [hc])) (fun _ => ⟨hf, fun z hz => ⟨z, rfl, by simpa [evF] using hz⟩⟩)
      · simp at h
        subst h
        exact float_Reck f1 f2 (fun _ => by simp [CR, fcP_ok, fcL_ok, fcR_ok]) (fun e => absurd e (by simp [hc])))
    split at h
    · cases hq : eqable a <;> rw [hq] at h <;> simp only [cond_false, cond_true, reduceCtorEq] at h
      obtain ⟨c, h1, h2⟩ := bind_ok h
      simp only [Res.ok.injEq] at h2
      subst h2
      have h1 := orBad_ok h1
      obtain ⟨bb, e1, e2⟩ := eqV_ok h1 ra rb w
      unfold Reck
      rw [run_guarded (eqV_guard h1 ra rb w _ X Y)]
      exact ⟨_, 0, (run_eql w t e1 (eqable_ok hq ra)).1, e2⟩
    · cases hq : eqable a <;> rw [hq] at h <;> simp only [cond_false, cond_true, reduceCtorEq] at h
      obtain ⟨c, h1, h2⟩ := bind_ok h
      simp only [Res.ok.injEq] at h2
      subst h2
      have h1 := orBad_ok h1
      cases hv : eqV P t a b with
      | none => rw [hv] at h1; simp at h1
      | some c' =>
        rw [hv] at h1
        simp only [Option.bind_some] at h1
        obtain ⟨bb, e1, e2⟩ := eqV_ok hv ra rb w
        unfold Reck
        rw [run_guarded (eqV_guard hv ra rb w _ X Y)]
        exact ⟨_, 0, (run_eql w t e1 (eqable_ok hq ra)).2, notC_ok h1 e2⟩
    · simp at h

theorem FR.neg {x y : Nat} (h : FR x y) : FR (fnegV x) (Op.negFloat .f64 y) := by
  refine ⟨?_, flip_lt h.2⟩
  unfold fnegV
  rw [canon_canon, h.1]
  cases hn : isN y
  · rw [canon_num hn]
  · have e : canon y = nanB := by unfold canon; rw [hn]; rfl
    have h1 : isN (flip y) = true := by rw [flip_isN h.2, hn]
    have h2 : canon (flip y) = nanB := by unfold canon; rw [h1]; rfl
    rw [e]
    exact (show canon (Op.negFloat .f64 nanB) = nanB by decide).trans h2.symm
theorem FR.num {x y : Nat} (h : FR x y) (hx : isN x = false) : x = y := by
  have hy := h.nan
  have := h.1
  rw [canon_num hx, canon_num (by rw [← hy]; exact hx)] at this
  exact this
theorem FR.of_lt {x : Nat} (h : x < 18446744073709551616) : FR x x := ⟨rfl, h⟩
theorem i2fV_lt (n : Int) : i2fV n < 18446744073709551616 := by
  have := floatOfInt_wf .f64 n
  simp only [Lit.wf, decide_eq_true_eq] at this
  exact this
theorem unV_ok {op : UnOp} {a v : SV} (h : unV op a = .ok v) {vx : Value} (ra : VR V ρ a vx) (w : World) : Reck P V ρ (Op.unary op vx) w v := by
  unfold unV at h
  split at h <;> simp only [Res.ok.injEq, reduceCtorEq] at h <;> subst h
  · simp only [VR, CR] at ra; subst ra
    exact Reck.mk (rv := .int _ _) rfl (by simp [VR, CR, ibV, wrapF_eq])
  · simp only [VR, CR] at ra; subst ra
    exact Reck.mk (rv := .int _ _) rfl (by simp [VR, CR, evI, ibV, wrapF_eq])
  · obtain ⟨y, rfl, f⟩ := ra
    exact Reck.mk (rv := .float _ _) rfl ⟨_, rfl, f.neg⟩
  · obtain ⟨y, rfl, f⟩ := ra
    exact Reck.mk (rv := .float _ _) rfl ⟨_, rfl, f.neg⟩
  · simp only [VR, CR] at ra; subst ra
    exact Reck.mk (rv := .bool _) rfl rfl
  · simp only [VR, CR] at ra; subst ra
    exact Reck.mk (rv := .bool _) rfl (by simp [VR, CR, evB])

theorem run_conv_ii (w : World) {s d : TypeId} {u : TypeDesc} {k q : IntKind} {n : Int} (hs : P.underlying s = some u) (hd : P.underlying d = some (.int k)) : (convert s d (.int q n)).run P w = .ok (.int k (k.wrap n)) w := by
  simp [convert, run_underlying hs, run_underlying hd, Conv.intToInt]
theorem f2iE_ok : ∀ (e : E), evI V (f2iE e) = f2iV (evF V e) := by
  intro e
  induction e with
  | tf c a b _ iha ihb =>
    rw [f2iE, evI, iha, ihb, evF]
    cases evB V c <;> rfl
  | _ => rfl
theorem i2fL_ok (e : E) : evF V (i2fL e) = i2fV (evI V e) := by cases e <;> rfl
theorem i2fE_ok (e : E) : evF V (i2fE e) = i2fV (evI V e) := by
  unfold i2fE
  split
  · rename_i c a b
    show (bif evB V c then evF V (.i2f (.f2i a)) else evF V (i2fL b)) = i2fV (bif evB V c then evI V (.f2i a) else evI V b)
    rw [i2fL_ok]
    cases evB V c <;> rfl
  · rename_i c a b _
    show (bif evB V c then evF V (i2fL a) else evF V (.i2f (.f2i b))) = i2fV (bif evB V c then evI V a else evI V (.f2i b))
    rw [i2fL_ok]
    cases evB V c <;> rfl
  · rfl
theorem convV_ok {g : Gam} (hg : GamOK V g) {s d : TypeId} {a v : SV} (h : convV P g s d a = .ok v) {vx : Value} (ra : VR V ρ a vx) (w : World) : Reck P V ρ (convert s d vx) w v := by
  unfold convV at h
  split at h <;> (try (cases h; done)) <;> rename_i hd
  · rename_i hs
    simp only [Res.ok.injEq] at h; subst h
    simp only [VR, CR] at ra; subst ra
    exact Reck.mk (run_conv_ii w hs hd) (by simp [VR, CR, wrapF_eq])
  · rename_i hs
    simp only [Res.ok.injEq] at h; subst h
    simp only [VR, CR] at ra; subst ra
    exact Reck.mk (run_conv_ii w hs hd) (by simp [VR, CR, evI, wrapF_eq])
  · rename_i hs
    simp only [Res.ok.injEq] at h; subst h
    simp only [VR, CR] at ra; subst ra
    exact Reck.mk (rv := .float _ _) (by simp [convert, run_underlying hs, run_underlying hd, Conv.intToFloat]; rfl) ⟨_, rfl, FR.of_lt (i2fV_lt _)⟩
  · rename_i hs
    simp only [Res.ok.injEq] at h; subst h
    simp only [VR, CR] at ra; subst ra
    exact Reck.mk (rv := .float _ _) (by simp [convert, run_underlying hs, run_underlying hd, Conv.intToFloat]; rfl) ⟨_, rfl, by rw [i2fE_ok]; exact FR.of_lt (i2fV_lt _)⟩
  · rename_i hs
    simp only [Res.ok.injEq] at h; subst h
    obtain ⟨y, rfl, f⟩ := ra
    exact Reck.mk (rv := .float _ _) (by simp [convert, run_underlying hs, run_underlying hd, Conv.floatToFloat]) ⟨_, rfl, f⟩
  · rename_i hs
    simp only [Res.ok.injEq] at h; subst h
    obtain ⟨y, rfl, f⟩ := ra
    exact Reck.mk (rv := .float _ _) (by simp [convert, run_underlying hs, run_underlying hd, Conv.floatToFloat]) ⟨_, rfl, f⟩
  · rename_i k n hs
    split at h
    · rename_i m hm
      cases hr : (decide (k.min ≤ m) && decide (m ≤ k.max)) <;> rw [hr] at h
      · simp at h
      · simp only [cond_true, Res.ok.injEq] at h; subst h
        obtain ⟨y, rfl, f⟩ := ra
        have hn : isN n = false := by
          cases hc : isN n
          · rfl
          · obtain ⟨s, t, e⟩ := read_isN hc
            have : FloatKind.f64.decode n = .nan s t := e
            rw [this] at hm
            simp [Ieee.Datum.toInt, Ieee.Datum.integral] at hm
        have := f.num hn
        subst this
        simp only [Bool.and_eq_true, decide_eq_true_eq] at hr
        exact Reck.mk (rv := .int k m) (by simp [convert, run_underlying hs, run_underlying hd, Conv.floatToInt, hm, hr]) rfl
    · simp at h
  · rename_i e hs
    split at h
    · rename_i t1 t2
      simp only [Res.ok.injEq] at h; subst h
      obtain ⟨y, rfl, f⟩ := ra
      have b1 := truthE_ok hg t1
      have b2 := truthE_ok hg t2
      rw [fcP_ok] at b1 b2
      obtain ⟨hn, m, hm, m1, m2⟩ := toInt_in (x := evF V e) b1 b2
      have := f.num hn
      subst this
      have a1 : IntKind.i64.min = -9223372036854775808 := by decide
      have a2 : IntKind.i64.max = 9223372036854775807 := by decide
      have n1 : (-9223372036854775808 : Int) ≤ m := by omega
      have n2 : m ≤ 9223372036854775807 := by omega
      exact Reck.mk (rv := .int .i64 m) (by simp [convert, run_underlying hs, run_underlying hd, Conv.floatToInt, hm, a1, a2, n1, n2]) (by simp [VR, CR, f2iE_ok, f2iV, hm, m1, m2])
    · simp at h
end Go.Proofs.Ytclhgnhbmlkomaa.Ex

namespace Go.Proofs.Ytclhgnhbmlkomaa.Ex
open Go
variable {P : Program} {V : Val} {ρ : Rho}

abbrev HG := Nat → Option Blk

structure HR0 (V : Val) (ρ : Rho) (hg : HG) (w : World) : Prop where
  at_ : ∀ b blk, hg b = some blk → ∃ q cs e, ρ b = some q ∧ w.heap[q.1]? = some (.cells cs e (0, 0)) ∧ q.2.1 + q.2.2.1 ≤ cs.size ∧ blk.length ≤ q.2.2.1 ∧
    ∀ i c, blk[i]? = some c → ∃ v, cs[q.2.1 + i]? = some v ∧ CR V ρ c v
  inj : ∀ b b' q q', hg b ≠ none → hg b' ≠ none → ρ b = some q → ρ b' = some q' → q.1 = q'.1 → b = b'

def Owns (ρ : Rho) (hg : HG) (k : Nat) : Prop := ∃ b q, hg b ≠ none ∧ ρ b = some q ∧ q.1 = k

/-- What nobody changes lies where it lay. -/
structure HR (V : Val) (ρ : Rho) (hg : HG) (w : World) : Prop extends HR0 V ρ hg w where
  ro : ∀ b q j, ρ b = some q → q.2.2.2 = some j → (q.1 < w.heap.size ∧ ∀ (i : Nat) (v : Value), (V.arr j)[i]? = some v → w.cell? ⟨q.1, q.2.1 + i, none⟩ = some v) ∧ ¬ Owns ρ hg q.1

structure Step (V : Val) (ρ : Rho) (hg : HG) (nx : Nat) (w : World) (v : SV) (hg' : HG) (nx' : Nat) (ρ' : Rho) (w' : World) (rv : Value) : Prop where
  ext : Ext ρ ρ'
  new : ∀ b q, ρ' b = some q → ρ b = some q ∨ (nx ≤ b ∧ b < nx')
  le : nx ≤ nx'
  val : VR V ρ' v rv
  hr : HR V ρ' hg' w'
  os : w'.os = w.os
  tape : w'.tape = w.tape
  output : w'.output = w.output
  size : w.heap.size ≤ w'.heap.size
  keep : ∀ k, k < w.heap.size → ¬ Owns ρ hg k → w'.heap[k]? = w.heap[k]?
  frz : ∀ b q j, ρ' b = some q → q.2.2.2 = some j → ρ b = some q ∨ w.heap.size ≤ q.1
  own : ∀ k, Owns ρ' hg' k → Owns ρ hg k ∨ w.heap.size ≤ k

theorem HR.lt {hg : HG} {w : World} (h : HR V ρ hg w) {k : Nat} (ho : Owns ρ hg k) : k < w.heap.size := by
  obtain ⟨b, q, h1, h2, rfl⟩ := ho
  cases hb : hg b with
  | none => exact absurd hb h1
  | some blk =>
    obtain ⟨q', cs, e, e1, e2, -⟩ := h.at_ b blk hb
    rw [h2] at e1
    simp only [Option.some.injEq] at e1
    subst e1
    rcases Nat.lt_or_ge q.1 w.heap.size with g | g
    · exact g
    · rw [Array.getElem?_eq_none g] at e2; cases e2

theorem cell_same {w w' : World} {k o : Nat} (h : w'.heap[k]? = w.heap[k]?) : w'.cell? ⟨k, o, none⟩ = w.cell? ⟨k, o, none⟩ := by
  unfold World.cell?; simp only [h]
theorem lt_of_get {w w' : World} {k : Nat} (hk : k < w.heap.size) (h : w'.heap[k]? = w.heap[k]?) : k < w'.heap.size := by
  rcases Nat.lt_or_ge k w'.heap.size with g | g
  · exact g
  · rw [Array.getElem?_eq_none g, Array.getElem?_eq_getElem hk] at h; cases h
theorem HR.same {hg : HG} {w w' : World} (h : HR V ρ hg w) (hk : ∀ k, k < w.heap.size → w'.heap[k]? = w.heap[k]?) : HR V ρ hg w' := by
  refine ⟨⟨fun b blk hb => ?_, h.inj⟩, fun b q j h1 h2 => ?_⟩
  · obtain ⟨q, cs, e, e1, e2, e3⟩ := h.at_ b blk hb
    exact ⟨q, cs, e, e1, by rw [hk q.1 (h.lt ⟨b, q, by rw [hb]; simp, e1, rfl⟩)]; exact e2, e3⟩
  · obtain ⟨⟨e1, e2⟩, e3⟩ := h.ro b q j h1 h2
    exact ⟨⟨lt_of_get e1 (hk q.1 e1), fun i v hv => by rw [cell_same (hk q.1 e1)]; exact e2 i v hv⟩, e3⟩

/-- What nobody changes is not changed. -/
theorem Step.parts {hg hg' : HG} {nx nx' : Nat} {w w' : World} {v : SV} {rv : Value} {ρ' : Rho} (h : HR V ρ hg w) (hfz : ∀ b q j, ρ' b = some q → q.2.2.2 = some j → ρ b = some q)
    (ext : Ext ρ ρ') (new : ∀ b q, ρ' b = some q → ρ b = some q ∨ (nx ≤ b ∧ b < nx')) (le : nx ≤ nx') (val : VR V ρ' v rv) (hr : HR0 V ρ' hg' w') (os : w'.os = w.os) (tape : w'.tape = w.tape) (output : w'.output = w.output) (size : w.heap.size ≤ w'.heap.size)
    (keep : ∀ k, k < w.heap.size → ¬ Owns ρ hg k → w'.heap[k]? = w.heap[k]?) (own : ∀ k, Owns ρ' hg' k → Owns ρ hg k ∨ w.heap.size ≤ k) : Step V ρ hg nx w v hg' nx' ρ' w' rv := by
  refine ⟨ext, new, le, val, ⟨hr, fun b q j h1 h2 => ?_⟩, os, tape, output, size, keep, fun b q j h1 h2 => .inl (hfz b q j h1 h2), own⟩
  obtain ⟨⟨e1, e2⟩, e3⟩ := h.ro b q j (hfz b q j h1 h2) h2
  have hsame := keep q.1 e1 e3
  refine ⟨⟨lt_of_get e1 hsame, fun i v hv => by rw [cell_same hsame]; exact e2 i v hv⟩, fun ho => ?_⟩
  rcases own q.1 ho with g | g
  · exact e3 g
  · omega

theorem HR.drewN {hg : HG} {w : World} (h : HR V ρ hg w) (n : Nat) : HR V ρ hg (w.drewN n) := h.same fun _ _ => rfl

theorem Step.refl {hg : HG} {nx : Nat} {w : World} {v : SV} {rv : Value} (h : HR V ρ hg w) (hv : VR V ρ v rv) (n : Nat) : Step V ρ hg nx w v hg nx ρ (w.drewN n) rv :=
  ⟨.refl _, fun _ _ h => .inl h, Nat.le_refl _, hv, h.drewN n, rfl, rfl, rfl, Nat.le_refl _, fun _ _ _ => rfl, fun _ _ _ h _ => .inl h, fun _ h => .inl h⟩

theorem Step.trans {hg hg1 hg2 : HG} {nx nx1 nx2 : Nat} {w w1 w2 : World} {v1 v2 : SV} {r1 r2 : Value} {ρ1 ρ2 : Rho}
    (a : Step V ρ hg nx w v1 hg1 nx1 ρ1 w1 r1) (b : Step V ρ1 hg1 nx1 w1 v2 hg2 nx2 ρ2 w2 r2) : Step V ρ hg nx w v2 hg2 nx2 ρ2 w2 r2 where
  ext := a.ext.trans b.ext
  new := fun c q h => by
    rcases b.new c q h with g | g
    · rcases a.new c q g with g | g
      · exact .inl g
      · exact .inr ⟨g.1, Nat.lt_of_lt_of_le g.2 b.le⟩
    · exact .inr ⟨Nat.le_trans a.le g.1, g.2⟩
  le := Nat.le_trans a.le b.le
  val := b.val
  hr := b.hr
  os := b.os.trans a.os
  tape := b.tape.trans a.tape
  output := b.output.trans a.output
  size := Nat.le_trans a.size b.size
  keep := fun k hk hn => by
    rw [b.keep k (Nat.lt_of_lt_of_le hk a.size) fun ho => ?_, a.keep k hk hn]
    rcases a.own k ho with g | g
    · exact hn g
    · omega
  frz := fun c q j h1 h2 => by
    rcases b.frz c q j h1 h2 with g | g
    · exact a.frz c q j g h2
    · exact .inr (Nat.le_trans a.size g)
  own := fun k ho => by
    rcases b.own k ho with g | g
    · exact a.own k g
    · exact .inr (Nat.le_trans a.size g)

theorem Step.withVal {hg hg' : HG} {nx nx' : Nat} {w w' : World} {v u : SV} {rv ru : Value} {ρ' : Rho} (a : Step V ρ hg nx w v hg' nx' ρ' w' rv) (h : VR V ρ' u ru) : Step V ρ hg nx w u hg' nx' ρ' w' ru :=
  { a with val := h }
theorem Step.eqG {hg hg' hg'' : HG} {nx nx' : Nat} {w w' : World} {v : SV} {rv : Value} {ρ' : Rho} (a : Step V ρ hg nx w v hg' nx' ρ' w' rv) (h : hg' = hg'') : Step V ρ hg nx w v hg'' nx' ρ' w' rv := h ▸ a

/-! ### Cells written one by one -/
def ow : Array Value → Nat → List Value → Array Value
  | c, _, [] => c
  | c, o, v :: r => ow (c.setIfInBounds o v) (o + 1) r
theorem ow_size : ∀ (vs : List Value) (c : Array Value) (o : Nat), (ow c o vs).size = c.size
  | [], _, _ => rfl
  | v :: r, c, o => by rw [ow, ow_size r]; simp
theorem ow_get : ∀ (vs : List Value) (c : Array Value) (o i : Nat), o + vs.length ≤ c.size → (ow c o vs)[i]? = if o ≤ i ∧ i < o + vs.length then vs[i - o]? else c[i]?
  | [], c, o, i, _ => by rw [ow, if_neg (by simp)]
  | v :: r, c, o, i, h => by
    simp only [List.length_cons] at h ⊢
    rw [ow, ow_get r _ _ _ (by simp; omega)]
    by_cases h1 : i = o
    · subst h1
      rw [if_neg (by omega), if_pos (by omega), Array.getElem?_setIfInBounds, if_pos rfl, if_pos (by omega)]
      simp
    · by_cases h2 : o + 1 ≤ i ∧ i < o + 1 + r.length
      · rw [if_pos h2, if_pos (by omega), show i - o = (i - (o + 1)) + 1 by omega]; rfl
      · rw [if_neg h2, if_neg (by omega), Array.getElem?_setIfInBounds, if_neg (by omega)]
theorem heap_setCells : ∀ (vs : List Value) (w : World) (b o : Nat) (cs : Array Value) (e : TypeId) (fz : Nat × Nat), w.heap[b]? = some (.cells cs e fz) → (w.setCells b o vs).heap[b]? = some (.cells (ow cs o vs) e fz)
  | [], _, _, _, _, _, _, h => h
  | v :: r, w, b, o, cs, e, fz, h => by
    rw [World.setCells, ow]
    refine heap_setCells r _ _ _ _ _ _ ?_
    simp only [World.setCell, Array.getElem?_modify, if_true, h, Option.map_some]
    simp
theorem heap_setCells_other : ∀ (vs : List Value) (w : World) (b o k : Nat), k ≠ b → (w.setCells b o vs).heap[k]? = w.heap[k]?
  | [], _, _, _, _, _ => rfl
  | v :: r, w, b, o, k, h => by
    rw [World.setCells, heap_setCells_other r _ _ _ _ h]
    simp only [World.setCell, Array.getElem?_modify]
    rw [if_neg (by omega)]
theorem oo_setCells : ∀ (vs : List Value) (w : World) (b o : Nat), (w.setCells b o vs).os = w.os ∧ (w.setCells b o vs).output = w.output
  | [], _, _, _ => ⟨rfl, rfl⟩
  | v :: r, w, b, o => by rw [World.setCells]; exact oo_setCells r _ _ _
theorem heap_alloc_new (w : World) (o : Obj) : (w.alloc o).heap[w.heap.size]? = some o := by
  show (w.heap.push o)[w.heap.size]? = some o
  simp
theorem tape_setCells : ∀ (vs : List Value) (w : World) (b o : Nat), (w.setCells b o vs).tape = w.tape
  | [], _, _, _ => rfl
  | v :: r, w, b, o => by rw [World.setCells, tape_setCells r]; rfl
theorem size_setCells : ∀ (vs : List Value) (w : World) (b o : Nat), (w.setCells b o vs).heap.size = w.heap.size
  | [], _, _, _ => rfl
  | v :: r, w, b, o => by rw [World.setCells, size_setCells r]; simp [World.setCell]

theorem writeCells_len : ∀ (l : List (Nat × Nat × C)) (b : Nat) (blk : Blk), (writeCells b blk l).length = blk.length
  | [], _, _ => rfl
  | (b', o, c) :: l, b, blk => by
    rw [writeCells, writeCells_len l]
    cases Nat.beq b' b <;> simp
theorem writeCells_other : ∀ (cs : List C) (o b b' : Nat) (blk : Blk), b ≠ b' → writeCells b' blk (cellWrites b o cs) = blk
  | [], _, _, _, _, _ => rfl
  | c :: cs, o, b, b', blk, h => by
    have : Nat.beq b b' = false := Bool.eq_false_iff.2 fun hh => h (Nat.eq_of_beq_eq_true hh)
    rw [cellWrites, writeCells, this]
    exact writeCells_other cs (o + 1) b b' blk h
theorem writeCells_get : ∀ (cs : List C) (o b i : Nat) (blk : Blk), o + cs.length ≤ blk.length → (writeCells b blk (cellWrites b o cs))[i]? = if o ≤ i ∧ i < o + cs.length then cs[i - o]? else blk[i]?
  | [], o, b, i, blk, _ => by rw [cellWrites, writeCells, if_neg (by simp)]
  | c :: cs, o, b, i, blk, h => by
    simp only [List.length_cons] at h ⊢
    have : Nat.beq b b = true := by simp
    rw [cellWrites, writeCells, this]
    simp only [cond_true]
    rw [writeCells_get cs _ _ _ _ (by simp; omega)]
    by_cases h1 : i = o
    · subst h1
      rw [if_neg (by omega), if_pos (by omega), List.getElem?_set, if_pos rfl, if_pos (by omega)]
      simp
    · by_cases h2 : o + 1 ≤ i ∧ i < o + 1 + cs.length
      · rw [if_pos h2, if_pos (by omega), show i - o = (i - (o + 1)) + 1 by omega]; rfl
      · rw [if_neg h2, if_neg (by omega), List.getElem?_set, if_neg (by omega)]

/-- The blocks behind what was done. -/
def upd (hg : HG) (r : Rec) : HG := fun b => ((lookB r.wb b).getD (hg b)).map fun blk => writeCells b blk r.wc

theorem upd_none {hg : HG} {r : Rec} (h1 : r.wb = []) (h2 : r.wc = []) : upd hg r = hg := by
  funext b
  unfold upd
  rw [h1, h2]
  simp [lookB, writeCells]

theorem rangeC_ok {hg : HG} {b o n : Nat} {cs : List C} (h : rangeC hg b o n = some cs) : ∃ blk, hg b = some blk ∧ o + n ≤ blk.length ∧ cs = (blk.drop o).take n := by
  unfold rangeC at h
  cases hb : hg b with
  | none => rw [hb] at h; simp at h
  | some blk =>
    rw [hb] at h
    simp only at h
    cases hc : Nat.ble (o + n) blk.length <;> rw [hc] at h
    · simp at h
    · simp only [cond_true, Option.some.injEq] at h
      exact ⟨blk, rfl, Nat.le_of_ble_eq_true hc, h.symm⟩

/-- What lies in a range. -/
theorem HR.range {hg : HG} {w : World} (h : HR V ρ hg w) {b o n : Nat} {cs : List C} (hc : rangeC hg b o n = some cs) :
    ∃ q vs e cells, ρ b = some q ∧ w.heap[q.1]? = some (.cells cells e (0, 0)) ∧ q.2.1 + o + n ≤ cells.size ∧ vs = (cells.toList.drop (q.2.1 + o)).take n ∧ vs.length = n ∧ All2 (CR V ρ) cs vs ∧ cs.length = n := by
  obtain ⟨blk, h1, h2, rfl⟩ := rangeC_ok hc
  obtain ⟨q, cells, e, e1, e2, e3, e4, e5⟩ := h.at_ b blk h1
  have hl : ((cells.toList.drop (q.2.1 + o)).take n).length = n := by simp; omega
  refine ⟨q, _, e, cells, e1, e2, by omega, rfl, hl, ?_, by simp; omega⟩
  have gen : ∀ (m k : Nat), k + m ≤ blk.length → All2 (CR V ρ) ((blk.drop k).take m) ((cells.toList.drop (q.2.1 + k)).take m) := by
    intro m
    induction m with
    | zero => intro k _; simp [All2]
    | succ m ih =>
      intro k hk
      have hk' : k < blk.length := by omega
      obtain ⟨v, hv, hcv⟩ := e5 k blk[k] (by simp [hk'])
      have hv' : cells.toList[q.2.1 + k]? = some v := by simpa using hv
      have hlt : q.2.1 + k < cells.toList.length := by simp; omega
      have hv2 : cells.toList[q.2.1 + k] = v := by rw [List.getElem?_eq_getElem hlt] at hv'; simpa using hv'
      rw [List.drop_eq_getElem_cons hk', List.drop_eq_getElem_cons hlt, List.take_succ_cons, List.take_succ_cons, hv2]
      exact ⟨hcv, by have := ih (k + 1) (by omega); rwa [← Nat.add_assoc] at this⟩
  exact gen n o h2

theorem rangeAt_of {w : World} {b o n : Nat} {cells : Array Value} {e : TypeId} {fz : Nat × Nat} (h : w.heap[b]? = some (.cells cells e fz)) : w.rangeAt b o ((cells.toList.drop o).take n) := by
  intro j v hj
  unfold World.cell?
  simp only [h]
  rw [List.getElem?_take] at hj
  split at hj
  · rw [List.getElem?_drop] at hj
    simpa using hj
  · cases hj

/-- A load. -/
theorem load_ok {hg : HG} {w : World} (h : HR V ρ hg w) {t : TypeId} {b o n : Nat} {cs : List C} {agg : Bool} (ha : isAggP P t = some agg) (hs : sizeP P t = some n) (hc : rangeC hg b o (bif agg then n else 1) = some cs)
    {q : Nat × Nat × Nat × Option Nat} (hq : ρ b = some q) :
    ∃ vs : List Value, All2 (CR V ρ) cs vs ∧ (agg = true → (Instr.loadAt t (.pointer (some ⟨q.1, q.2.1 + o, none⟩))).run P w = .ok (.agg vs.toArray) w) ∧ (agg = false → ∃ v, vs = [v] ∧ (Instr.loadAt t (.pointer (some ⟨q.1, q.2.1 + o, none⟩))).run P w = .ok v w) := by
  obtain ⟨q', vs, e, cells, e1, e2, e3, e4, e5, e6, e7⟩ := h.range hc
  rw [hq] at e1
  simp only [Option.some.injEq] at e1
  subst e1
  refine ⟨vs, e6, fun hh => ?_, fun hh => ?_⟩
  · subst hh
    obtain ⟨d, hu, hd⟩ := isAggP_true ha
    subst e4
    simp only [cond_true] at e5
    exact run_loadAt_mid w _ _ t _ d (rangeAt_of e2) hu hd (by rw [show (P.info? t).map (·.size) = some n from hs, cond_true, e5])
  · subst hh
    simp only [cond_false] at e5
    match vs, e5 with
    | [v], _ =>
      refine ⟨v, rfl, ?_⟩
      have hcell : w.cell? ⟨q.1, q.2.1 + o, none⟩ = some v := by
        have := rangeAt_of (o := q.2.1 + o) (n := 1) e2 0 v (by rw [cond_false] at e4; rw [← e4]; rfl)
        simpa using this
      simp [Instr.loadAt, Instr.sureAddr, loadVar, run_isAgg ha, hcell]

/-- A store. -/
theorem run_store {w : World} {t : TypeId} {b o : Nat} {v : Value} {cells : Array Value} {e : TypeId} (hs : sizeP P t = some v.cells.size) (hh : w.heap[b]? = some (.cells cells e (0, 0))) (hl : o + v.cells.size ≤ cells.size) (h1 : ∀ x ∈ v.cells.toList, x.oneCell' = true) :
    (Instr.storeAt t (.pointer (some ⟨b, o, none⟩)) v).run P w = .ok () (w.setCells b o v.cells.toList) := by
  have hc : ∀ j, j < v.cells.toList.length → (w.cell? ⟨b, o + j, none⟩).isSome = true := fun j hj => by
    simp only [Array.length_toList] at hj
    unfold World.cell?; simp [hh]; omega
  have hf : ∀ j, j < v.cells.toList.length → w.frozen? ⟨b, o + j, none⟩ = false := fun j _ => by
    unfold World.frozen?; simp [hh]
  have := run_storeCells_cells (P := P) b o v.cells.toList 0 w (by simpa using hc) (by simpa using hf) h1
  simp [Instr.storeAt, Instr.sureAddr, storeVar, run_sizeP hs, this]

theorem All2.one {cs : List C} {vs : List Value} (h : All2 (CR V ρ) cs vs) : ∀ x ∈ vs, x.oneCell' = true := by
  induction cs generalizing vs with
  | nil => cases vs <;> simp [All2] at h ⊢
  | cons c cs ih =>
    cases vs with
    | nil => simp [All2] at h
    | cons v vs =>
      intro x hx
      rcases List.mem_cons.1 hx with rfl | hx
      · exact CR.one h.1
      · exact ih h.2 x hx

theorem Step.cells {hg : HG} {w : World} (h : HR V ρ hg w) {nx b o : Nat} {cs old : List C} {vs : List Value} (hc : rangeC hg b o cs.length = some old) (hv : All2 (CR V ρ) cs vs)
    {q : Nat × Nat × Nat × Option Nat} (hq : ρ b = some q) {v : SV} {rv : Value} (hval : VR V ρ v rv) :
    Step V ρ hg nx w v (upd hg { v, wc := cellWrites b o cs, nx }) nx ρ (w.setCells q.1 (q.2.1 + o) vs) rv := by
  obtain ⟨blk, hb, hlen, -⟩ := rangeC_ok hc
  obtain ⟨q', cells, e, e1, e2, e3, e4, e5⟩ := h.at_ b blk hb
  rw [hq] at e1
  simp only [Option.some.injEq] at e1
  subst e1
  have hvl := hv.len
  have hown : Owns ρ hg q.1 := ⟨b, q, by rw [hb]; simp, hq, rfl⟩
  have hlt := h.lt hown
  have hne : ∀ b', upd hg { v, wc := cellWrites b o cs, nx } b' ≠ none ↔ hg b' ≠ none := fun b' => by unfold upd; simp [lookB]
  have hsame : ∀ k, Owns ρ (upd hg { v, wc := cellWrites b o cs, nx }) k ↔ Owns ρ hg k := fun k =>
    ⟨fun ⟨b', q', h1, h2⟩ => ⟨b', q', (hne b').1 h1, h2⟩, fun ⟨b', q', h1, h2⟩ => ⟨b', q', (hne b').2 h1, h2⟩⟩
  have hother : ∀ k, k < w.heap.size → k ≠ q.1 → (w.setCells q.1 (q.2.1 + o) vs).heap[k]? = w.heap[k]? := fun k hk hn => heap_setCells_other _ w _ _ _ hn
  refine Step.parts h (fun _ _ _ h _ => h) (.refl _) (fun _ _ h => .inl h) (Nat.le_refl _) hval ⟨?_, ?_⟩ (oo_setCells _ _ _ _).1 (tape_setCells _ _ _ _) (oo_setCells _ _ _ _).2 (by rw [size_setCells]; exact Nat.le_refl _) ?_ ?_
  · intro b' blk' hb'
    by_cases hbb : b = b'
    · subst hbb
      have hblk : blk' = writeCells b blk (cellWrites b o cs) := by
        unfold upd at hb'
        simp only [lookB, hb, Option.getD_none, Option.map_some, Option.some.injEq] at hb'
        exact hb'.symm
      subst hblk
      refine ⟨q, ow cells (q.2.1 + o) vs, e, hq, heap_setCells _ _ _ _ _ _ _ e2, by rw [ow_size]; exact e3, by rw [writeCells_len]; exact e4, ?_⟩
      intro i c hi
      rw [writeCells_get _ _ _ _ _ hlen] at hi
      rw [ow_get _ _ _ _ (by omega)]
      split at hi
      · rename_i hin
        rw [if_pos (by omega)]
        obtain ⟨u, h1, h2⟩ := hv.get hi
        exact ⟨u, by rw [show q.2.1 + i - (q.2.1 + o) = i - o by omega]; exact h1, h2⟩
      · rename_i hin
        rw [if_neg (by omega)]
        exact e5 i c hi
    · have hb2 : hg b' = some blk' := by
        unfold upd at hb'
        simp only [lookB, Option.getD_none] at hb'
        cases hh : hg b' with
        | none => rw [hh] at hb'; simp at hb'
        | some x =>
          rw [hh] at hb'
          simp only [Option.map_some, Option.some.injEq] at hb'
          rw [writeCells_other _ _ _ _ _ hbb] at hb'
          rw [hb']
      obtain ⟨q', cells', e', f1, f2, f3, f4, f5⟩ := h.at_ b' blk' hb2
      refine ⟨q', cells', e', f1, ?_, f3, f4, f5⟩
      have hq' : q'.1 ≠ q.1 := fun hh => hbb (h.inj b b' q q' (by rw [hb]; simp) (by rw [hb2]; simp) hq f1 hh.symm)
      rw [hother _ (h.lt ⟨b', q', by rw [hb2]; simp, f1, rfl⟩) hq']
      exact f2
  · intro b1 b2 q1 q2 h1 h2
    exact h.inj b1 b2 q1 q2 ((hne b1).1 h1) ((hne b2).1 h2)
  · intro k hk hn
    exact hother k hk fun hh => hn (hh ▸ hown)
  · intro k hk
    exact .inl ((hsame k).1 hk)

/-- A new block. -/
def put (ρ : Rho) (b : Nat) (q : Nat × Nat × Nat × Option Nat) : Rho := fun b' => if b' = b then some q else ρ b'
theorem put_ext {b : Nat} {q : Nat × Nat × Nat × Option Nat} (h : ρ b = none) : Ext ρ (put ρ b q) := fun b' q' h' => by
  unfold put
  by_cases hb : b' = b
  · subst hb; rw [h] at h'; cases h'
  · rw [if_neg hb]; exact h'

theorem Step.new_ {hg : HG} {w : World} (h : HR V ρ hg w) {nx : Nat} (hfresh : ρ nx = none) {cs : List C} {vs : Array Value} (hv : ∀ (i : Nat) (c : C), cs[i]? = some c → ∃ v, vs[i]? = some v ∧ CR V ρ c v) (hle : cs.length ≤ vs.size) (e : TypeId) {v : SV} {rv : Value}
    (hval : VR V (put ρ nx (w.heap.size, 0, vs.size, none)) v rv) (rb : List Nat) :
    Step V ρ hg nx w v (upd hg { v, wb := [(nx, some cs)], rb, nx := nx + 1 }) (nx + 1) (put ρ nx (w.heap.size, 0, vs.size, none)) (w.alloc (.cells vs e)) rv := by
  have hx := put_ext (q := (w.heap.size, 0, vs.size, none)) hfresh
  have hupd : ∀ b, upd hg { v, wb := [(nx, some cs)], rb, nx := nx + 1 } b = if b = nx then some cs else hg b := fun b => by
    unfold upd
    by_cases hb : b = nx
    · subst hb; simp [lookB, writeCells]
    · have : Nat.beq nx b = false := Bool.eq_false_iff.2 fun hh => hb (Nat.eq_of_beq_eq_true hh).symm
      rw [if_neg hb]
      simp only [lookB, this, cond_false, Option.getD_none]
      cases hg b <;> simp [writeCells]
  have hnone : ∀ b, hg b ≠ none → b ≠ nx := fun b hb hh => by
    subst hh
    cases hb' : hg b with
    | none => exact hb hb'
    | some blk => obtain ⟨q, -, -, e1, -⟩ := h.at_ b blk hb'; rw [hfresh] at e1; cases e1
  have hput : ∀ b, b ≠ nx → put ρ nx (w.heap.size, 0, vs.size, none) b = ρ b := fun b hb => by unfold put; rw [if_neg hb]
  have hputn : put ρ nx (w.heap.size, 0, vs.size, none) nx = some (w.heap.size, 0, vs.size, none) := by unfold put; rw [if_pos rfl]
  refine Step.parts h (fun b q j hb hj => ?_) hx ?_ (by omega) hval ⟨?_, ?_⟩ rfl rfl rfl (by simp) ?_ ?_
  · by_cases hn : b = nx
    · subst hn; rw [hputn] at hb; simp only [Option.some.injEq] at hb; subst hb; cases hj
    · rw [hput b hn] at hb; exact hb
  · intro b q hb
    by_cases hn : b = nx
    · subst hn; exact .inr ⟨Nat.le_refl _, by omega⟩
    · rw [hput b hn] at hb; exact .inl hb
  · intro b blk hb
    rw [hupd] at hb
    by_cases hn : b = nx
    · subst hn
      rw [if_pos rfl] at hb
      simp only [Option.some.injEq] at hb
      subst hb
      refine ⟨_, vs, e, hputn, heap_alloc_new w _, by simp, hle, fun i c hi => ?_⟩
      obtain ⟨u, h1, h2⟩ := hv i c hi
      exact ⟨u, by simpa using h1, h2.ext hx⟩
    · rw [if_neg hn] at hb
      obtain ⟨q, cells, e', f1, f2, f3, f4, f5⟩ := h.at_ b blk hb
      refine ⟨q, cells, e', by rw [hput b hn]; exact f1, ?_, f3, f4, fun i c hi => ?_⟩
      · rw [Go.RowKit.Below.heap_alloc _ _ _ (h.lt ⟨b, q, by rw [hb]; simp, f1, rfl⟩)]; exact f2
      · obtain ⟨u, h1, h2⟩ := f5 i c hi
        exact ⟨u, h1, h2.ext hx⟩
  · intro b1 b2 q1 q2 h1 h2 g1 g2 hq
    rw [hupd] at h1 h2
    by_cases n1 : b1 = nx
    · by_cases n2 : b2 = nx
      · rw [n1, n2]
      · exfalso
        subst n1
        rw [hputn] at g1
        rw [hput b2 n2] at g2
        rw [if_neg n2] at h2
        have := h.lt ⟨b2, q2, h2, g2, rfl⟩
        simp only [Option.some.injEq] at g1
        subst g1
        simp at hq
        omega
    · by_cases n2 : b2 = nx
      · exfalso
        subst n2
        rw [hputn] at g2
        rw [hput b1 n1] at g1
        rw [if_neg n1] at h1
        have := h.lt ⟨b1, q1, h1, g1, rfl⟩
        simp only [Option.some.injEq] at g2
        subst g2
        simp at hq
        omega
      · rw [hput _ n1] at g1
        rw [hput _ n2] at g2
        rw [if_neg n1] at h1
        rw [if_neg n2] at h2
        exact h.inj b1 b2 q1 q2 h1 h2 g1 g2 hq
  · intro k hk _
    exact Go.RowKit.Below.heap_alloc _ _ _ hk
  · rintro k ⟨b, q, h1, h2, rfl⟩
    rw [hupd] at h1
    by_cases hn : b = nx
    · subst hn
      rw [hputn] at h2
      simp only [Option.some.injEq] at h2
      subst h2
      exact .inr (Nat.le_refl _)
    · rw [if_neg hn] at h1
      rw [hput b hn] at h2
      exact .inl ⟨b, q, h1, h2, rfl⟩
end Go.Proofs.Ytclhgnhbmlkomaa.Ex
