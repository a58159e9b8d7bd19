/-
  The runner's operations on numbers beside Go's.
-/
import Derived.Test.YtkncchofgehnpaaExb
import Derived.Laws.Cover3
import Derived.Laws.Pointers
import Derived.Laws.StructEq
namespace Go.Proofs.Ytkncchofgehnpaa.Ex
open Go

def GamOK (V : Val) (g : Gam) : Prop := ∀ e b, (e, b) ∈ g → evB V e = b

theorem look_ok {V : Val} : ∀ {g : Gam} {e : E} {b : Bool}, GamOK V g → g.look e = some b → evB V e = b
  | [], _, _, _, h => by simp [Gam.look] at h
  | (e', b') :: g, e, b, hg, h => by
    unfold Gam.look at h
    split at h
    · rename_i he
      subst he
      simp only [Option.some.injEq] at h
      subst h
      exact hg _ _ (by simp)
    · exact look_ok (fun x y hm => hg x y (by simp [hm])) h

theorem truthE_ok {V : Val} {g : Gam} (hg : GamOK V g) : ∀ {e : E} {b : Bool}, truthE g e = .ok b → evB V e = b := by
  intro e
  induction e with
  | nt a ih =>
    intro b h
    unfold truthE at h
    cases ha : truthE g a <;> rw [ha] at h <;> simp only [Res.ok.injEq, reduceCtorEq] at h
    subst h
    unfold evB
    rw [ih ha]
  | an a b iha ihb =>
    intro r h
    unfold truthE at h
    cases ha : truthE g a with
    | need e => rw [ha] at h; simp at h
    | bad n => rw [ha] at h; simp at h
    | ok x =>
    rw [ha] at h
    cases x
    · simp only [Res.ok.injEq] at h
      subst h
      unfold evB; rw [iha ha]; rfl
    · unfold evB; rw [iha ha, ihb h]; rfl
  | lb x => intro b h; unfold truthE at h; simp only [Res.ok.injEq] at h; subst h; unfold evB; rfl
  | _ =>
    intro r h
    unfold truthE at h
    split at h
    · rename_i hl
      simp only [Res.ok.injEq] at h
      subst h
      exact look_ok hg hl
    · exact absurd h (by simp)

theorem truth_ok {V : Val} {ρ : Rho} {g : Gam} (hg : GamOK V g) {s : SV} {b : Bool} {v : Value} (h : truth g s = .ok b) (hv : VR V ρ s v) : v = .bool b := by
  unfold truth at h
  split at h
  · simp only [Res.ok.injEq] at h; subst h; exact hv
  · have := truthE_ok hg h
    have hv' : v = _ := hv
    rw [hv', this]
  · exact absurd h (by simp)
  · exact absurd h (by simp)

theorem toI_ok {V : Val} {ρ : Rho} {c : C} {k : IntKind} {e : E} {v : Value} (h : c.toI = some (k, e)) (hv : CR V ρ c v) : v = .int k (evI V e) := by
  cases c <;> simp only [C.toI, Option.some.injEq, Prod.mk.injEq, reduceCtorEq] at h
  · obtain ⟨rfl, rfl⟩ := h; simpa [evI, CR] using hv
  · obtain ⟨rfl, rfl⟩ := h; exact hv
theorem toF_ok {V : Val} {ρ : Rho} {c : C} {e : E} {v : Value} (h : c.toF = some e) (hv : CR V ρ c v) : ∃ y, v = .float .f64 y ∧ FR (evF V e) y := by
  cases c <;> simp only [C.toF, Option.some.injEq, reduceCtorEq] at h
  · subst h; simpa [evF, CR] using hv
  · subst h; exact hv

theorem andC_ok {V : Val} {ρ : Rho} {a b c : C} (h : andC a b = some c) {x y : Bool} (ha : CR V ρ a (.bool x)) (hb : CR V ρ b (.bool y)) : CR V ρ c (.bool (x && y)) := by
  unfold andC at h
  split at h <;> simp only [Option.some.injEq, reduceCtorEq] at h <;> subst h <;> simp only [CR, Value.bool.injEq] at ha hb ⊢ <;> subst ha <;> subst hb <;> simp [evB]
theorem notC_ok {V : Val} {ρ : Rho} {a c : C} (h : notC a = some c) {x : Bool} (ha : CR V ρ a (.bool x)) : CR V ρ c (.bool (!x)) := by
  unfold notC at h
  split at h <;> simp only [Option.some.injEq, reduceCtorEq] at h <;> subst h <;> simp only [CR, Value.bool.injEq] at ha ⊢ <;> subst ha <;> simp [evB]

theorem floatEq_FR {x y x' y' : Nat} (h : FR x x') (g : FR y y') : Op.floatEq .f64 x' y' = eqB x y := by
  rw [eqB_FR h g]; exact ord_eq x' y'

section
variable {P : Program} {V : Val} {ρ : Rho}

theorem run_equalIn_float (w : World) (d : Nat) (t : TypeId) (k : FloatKind) (a b : Nat) (h : P.underlying t = some (.float k)) : (Op.equalIn (d + 1) t (.float .f64 a) (.float .f64 b)).run P w = .ok (Op.floatEq .f64 a b) w := by
  simp [Op.equalIn, run_underlying h]

theorem toB_ok {c : C} {e : E} {v : Value} (h : c.toB = some e) (hv : CR V ρ c v) : v = .bool (evB V e) := by
  cases c <;> simp only [C.toB, Option.some.injEq, reduceCtorEq] at h
  · subst h; simpa [evB, CR] using hv
  · subst h; exact hv

theorem plain_cases {t : TypeId} {x : C} (h : plainT P t x = true) : (P.underlying t = some .bool ∧ ∃ e, x.toB = some e) ∨ (∃ k, P.underlying t = some (.int k) ∧ ∃ q, x.toI = some q) ∨ (P.underlying t = some (.float .f64) ∧ ∃ e, x.toF = some e) := by
  unfold plainT at h
  split at h <;> rename_i hu <;> try (cases h; done)
  · exact .inl ⟨hu, _, rfl⟩
  · exact .inl ⟨hu, _, rfl⟩
  · exact .inr (.inl ⟨_, hu, _, rfl⟩)
  · exact .inr (.inl ⟨_, hu, _, rfl⟩)
  · exact .inr (.inr ⟨hu, _, rfl⟩)
  · exact .inr (.inr ⟨hu, _, rfl⟩)

theorem eqC_ok {x y c : C} (h : eqC x y = some c) {t : TypeId} (hx : plainT P t x = true) (hy : plainT P t y = true) {vx vy : Value} (rx : CR V ρ x vx) (ry : CR V ρ y vy) (d : Nat) (w : World) :
    ∃ b, (Op.equalIn (d + 1) t vx vy).run P w = .ok b w ∧ CR V ρ c (.bool b) := by
  rcases plain_cases hx with ⟨hu, e, he⟩ | ⟨k, hu, ⟨k1, e⟩, he⟩ | ⟨hu, e, he⟩ <;> rcases plain_cases hy with ⟨hu', e', he'⟩ | ⟨k', hu', ⟨k2, e'⟩, he'⟩ | ⟨hu', e', he'⟩ <;> rw [hu] at hu' <;> try (cases hu'; done)
  · have r1 := toB_ok he rx
    have r2 := toB_ok he' ry
    subst r1; subst r2
    rw [run_equalIn_bool' w d t _ _ hu]
    refine ⟨_, rfl, ?_⟩
    cases x <;> cases y <;> simp only [C.toB, reduceCtorEq] at he he' <;> simp [eqC, C.toI, C.toF] at h <;> simp only [Option.some.injEq] at he he' <;> subst he <;> subst he' <;> subst h <;> simp [CR, evB] <;> (first | rfl | (rw [Bool.eq_iff_iff]; simp))
  · have r1 := toI_ok he rx
    have r2 := toI_ok he' ry
    subst r1; subst r2
    have hk : k1 = k2 ∧ CR V ρ c (.bool (evI V e == evI V e')) := by
      cases x <;> cases y <;> simp only [C.toI, reduceCtorEq] at he he' <;> simp only [Option.some.injEq, Prod.mk.injEq] at he he' <;> obtain ⟨rfl, rfl⟩ := he <;> obtain ⟨rfl, rfl⟩ := he' <;> simp [eqC, C.toI] at h <;> obtain ⟨rfl, rfl⟩ := h <;> simp [CR, evB, evI, icV] <;> (first | rfl | (rw [Bool.eq_iff_iff]; simp))
    obtain ⟨rfl, hc⟩ := hk
    rw [run_equalIn_int w d t _ _ _ _ hu]
    exact ⟨_, rfl, hc⟩
  · obtain ⟨y1, rfl, f1⟩ := toF_ok he rx
    obtain ⟨y2, rfl, f2⟩ := toF_ok he' ry
    rw [run_equalIn_float w d t _ _ _ hu, floatEq_FR f1 f2]
    refine ⟨_, rfl, ?_⟩
    cases x <;> cases y <;> simp only [C.toF, reduceCtorEq] at he he' <;> simp only [Option.some.injEq] at he he' <;> subst he <;> subst he' <;> simp [eqC, C.toI, C.toF] at h <;> subst h <;> simp [CR, evB, evF, fcV]

theorem nilish_ok {x y : C} {b : Bool} {t : TypeId} (h : nilish P t x y = some b) {vx vy : Value} (rx : CR V ρ x vx) (ry : CR V ρ y vy) (w : World) :
    (Op.equal t vx vy).run P w = .ok b w := by
  unfold nilish at h
  split at h <;> rename_i hu <;> simp only [Option.some.injEq, reduceCtorEq] at h <;> subst h <;> simp only [CR] at rx ry
  all_goals (try (obtain ⟨q, n, -, rfl, -⟩ := rx))
  all_goals (try (obtain ⟨q, n, -, rfl, -⟩ := ry))
  all_goals (try (obtain ⟨q, -, rfl⟩ := rx))
  all_goals (try (obtain ⟨q, -, rfl⟩ := ry))
  all_goals (try (obtain ⟨q, rfl, -⟩ := rx))
  all_goals (try (obtain ⟨q, rfl, -⟩ := ry))
  all_goals (try subst rx)
  all_goals (try subst ry)
  all_goals (show (Op.equalIn (9999 + 1) t _ _).run P w = _; generalize 9999 = d; simp [Op.equalIn, run_underlying hu])

theorem part_plain {t : TypeId} {x : C} (h : plainT P t x = true) {vs : Array Value} {n : Nat} {v : Value} (hv : vs[n]? = some v) (w : World) : (part t vs n).run P w = .ok v w := by
  have ha : ∃ d, P.underlying t = some d ∧ d.isRow = false := by
    rcases plain_cases h with ⟨hu, -⟩ | ⟨k, hu, -⟩ | ⟨hu, -⟩ <;> exact ⟨_, hu, rfl⟩
  obtain ⟨d, hu, hd⟩ := ha
  have hagg : (isAgg t).run P w = .ok false w := by
    unfold isAgg
    rw [Sem.run_bind, run_underlying hu w]
    cases d <;> simp_all
  unfold part
  rw [Sem.run_bind, hagg]
  simp [hv]

theorem eqFlds_ok {xs ys : List C} {vx vy : Array Value} (rx : All2 (CR V ρ) xs vx.toList) (ry : All2 (CR V ρ) ys vy.toList) (d : Nat) (w : World) :
    ∀ (fs : List Field) (n : Nat) (xs' ys' : List C) (c : C), xs' = xs.drop n → ys' = ys.drop n → eqFlds P n fs xs' ys' = some c → ∃ b, (Op.eqFields (d + 1) vx vy fs).run P w = .ok b w ∧ CR V ρ c (.bool b) := by
  intro fs
  induction fs with
  | nil =>
    intro n xs' ys' c hx hy h
    cases xs' <;> cases ys' <;> simp [eqFlds] at h
    subst h
    exact ⟨true, by simp [Op.eqFields], rfl⟩
  | cons f fs ih =>
    intro n xs' ys' c hx hy h
    cases xs' with
    | nil => simp [eqFlds] at h
    | cons x xt =>
      cases ys' with
      | nil => simp [eqFlds] at h
      | cons y yt =>
        unfold eqFlds at h
        cases hc : (plainT P f.type x && plainT P f.type y && Nat.beq f.offset n && f.name != "_") <;> rw [hc] at h
        · simp at h
        · simp only [Bool.and_eq_true, bne_iff_ne, ne_eq] at hc
          obtain ⟨⟨⟨px, py⟩, hn⟩, hname⟩ := hc
          have hn' : f.offset = n := Nat.eq_of_beq_eq_true hn
          simp only [cond_true] at h
          have gx : xs[n]? = some x := by have := congrArg (·[0]?) hx; simpa using this.symm
          have gy : ys[n]? = some y := by have := congrArg (·[0]?) hy; simpa using this.symm
          obtain ⟨v1, e1, r1⟩ := rx.get gx
          obtain ⟨v2, e2, r2⟩ := ry.get gy
          cases hq : eqC x y with
          | none => rw [hq] at h; simp at h
          | some a =>
            rw [hq] at h
            simp only at h
            cases hr : eqFlds P (n + 1) fs xt yt with
            | none => rw [hr] at h; simp at h
            | some b =>
              rw [hr] at h
              simp only at h
              obtain ⟨b1, s1, t1⟩ := eqC_ok hq px py r1 r2 d w
              obtain ⟨b2, s2, t2⟩ := ih (n + 1) xt yt b (by have := congrArg List.tail hx; simpa using this) (by have := congrArg List.tail hy; simpa using this) hr
              refine ⟨b1 && b2, ?_, andC_ok h t1 t2⟩
              have p1 : vx[f.offset]? = some v1 := by rw [hn']; simpa using e1
              have p2 : vy[f.offset]? = some v2 := by rw [hn']; simpa using e2
              simp only [Op.eqFields, hname, ne_eq, not_false_eq_true, if_true, Sem.run_bind, part_plain px p1, part_plain py p2, s1, Result.andThen_ok]
              cases b1
              · simp
              · simpa using s2

theorem eqV_ok {t : TypeId} {a b : SV} {c : C} (h : eqV P t a b = some c) {vx vy : Value} (ra : VR V ρ a vx) (rb : VR V ρ b vy) (w : World) :
    ∃ b, (Op.equal t vx vy).run P w = .ok b w ∧ CR V ρ c (.bool b) := by
  unfold eqV at h
  split at h
  · rename_i x y
    split at h
    · rename_i r hr
      cases hp : (plainT P t x && plainT P t y) <;> rw [hp] at h
      · simp at h
      · simp only [Bool.and_eq_true] at hp
        simp only [cond_true, Option.some.injEq] at h
        subst h
        exact eqC_ok hr hp.1 hp.2 ra rb 9999 w
    · cases hn : nilish P t x y with
      | none => rw [hn] at h; simp at h
      | some q =>
        rw [hn] at h
        simp only [Option.map_some, Option.some.injEq] at h
        subst h
        exact ⟨q, nilish_ok hn ra rb w, rfl⟩
  · rename_i xs ys
    obtain ⟨v1, rfl, r1⟩ := ra
    obtain ⟨v2, rfl, r2⟩ := rb
    unfold eqAgg at h
    split at h
    · rename_i fs hu
      cases hs : P.stoodInHeld t <;> rw [hs] at h <;> simp at h
      have hf : P.fieldsOf t = fs := by unfold Program.fieldsOf; rw [hu]
      have hu' : P.underlying t = some (.struct (P.fieldsOf t)) := by rw [hf]; exact hu
      obtain ⟨b, h1, h2⟩ := eqFlds_ok r1 r2 9998 w fs.toList 0 xs ys c rfl rfl h
      refine ⟨b, ?_, h2⟩
      show (Op.equalIn (9998 + 1 + 1) t _ _).run P w = _
      rw [run_equalIn_struct w (9998 + 1) t _ _ hu' hs, hf]
      exact h1
    · simp at h
  · simp at h

end
end Go.Proofs.Ytkncchofgehnpaa.Ex
