/-
  The runner's values beside Go's: what stands for what; each operation that only reckons.
-/
import Derived.Test.YtclhgnhbmlkomaaGd
import Derived.Test.YtclhgnhbmlkomaaGc
import Derived.Deep.MidRow
import Derived.Deep.Draws
import Derived.ChangeKeysEq
import Derived.Laws.FloatArith
import Derived.Laws.Unary
import Derived.BigFrame
import Derived.RowKit3
import Derived.Below
namespace Go.Proofs.Ytclhgnhbmlkomaa.Ex
open Go

def All2 {α β : Type} (R : α → β → Prop) : List α → List β → Prop
  | [], [] => True
  | a :: l, b :: m => R a b ∧ All2 R l m
  | _, _ => False

theorem All2.len {α β : Type} {R : α → β → Prop} : ∀ {l : List α} {m : List β}, All2 R l m → l.length = m.length
  | [], [], _ => rfl
  | _ :: _, _ :: _, h => by simp [All2.len h.2]
  | [], _ :: _, h => h.elim
  | _ :: _, [], h => h.elim
theorem All2.mono {α β : Type} {R S : α → β → Prop} (hr : ∀ a b, R a b → S a b) : ∀ {l : List α} {m : List β}, All2 R l m → All2 S l m
  | [], [], _ => trivial
  | _ :: _, _ :: _, h => ⟨hr _ _ h.1, All2.mono hr h.2⟩
  | [], _ :: _, h => h.elim
  | _ :: _, [], h => h.elim
theorem All2.get {α β : Type} {R : α → β → Prop} : ∀ {l : List α} {m : List β} {i : Nat} {a : α}, All2 R l m → l[i]? = some a → ∃ b, m[i]? = some b ∧ R a b
  | _ :: _, b :: _, 0, _, h, e => by simp at e; subst e; exact ⟨b, rfl, h.1⟩
  | _ :: _, _ :: _, i + 1, _, h, e => by simp at e ⊢; exact All2.get h.2 e
  | [], [], _, _, _, e => by simp at e
  | [], _ :: _, _, _, h, _ => h.elim
  | _ :: _, [], _, _, h, _ => h.elim
theorem All2.append {α β : Type} {R : α → β → Prop} : ∀ {l l' : List α} {m m' : List β}, All2 R l m → All2 R l' m' → All2 R (l ++ l') (m ++ m')
  | [], _, [], _, _, h => h
  | _ :: _, _, _ :: _, _, g, h => ⟨g.1, All2.append g.2 h⟩
  | [], _, _ :: _, _, h, _ => h.elim
  | _ :: _, _, [], _, h, _ => h.elim
theorem All2.drop {α β : Type} {R : α → β → Prop} : ∀ (n : Nat) {l : List α} {m : List β}, All2 R l m → All2 R (l.drop n) (m.drop n)
  | 0, _, _, h => h
  | _ + 1, [], [], h => h
  | n + 1, _ :: _, _ :: _, h => All2.drop n h.2
  | _ + 1, [], _ :: _, h => h.elim
  | _ + 1, _ :: _, [], h => h.elim
theorem All2.take {α β : Type} {R : α → β → Prop} : ∀ (n : Nat) {l : List α} {m : List β}, All2 R l m → All2 R (l.take n) (m.take n)
  | 0, _, _, _ => trivial
  | _ + 1, [], [], h => h
  | n + 1, _ :: _, _ :: _, h => ⟨h.1, All2.take n h.2⟩
  | _ + 1, [], _ :: _, h => h.elim
  | _ + 1, _ :: _, [], h => h.elim

def FR (x y : Nat) : Prop := canon x = canon y ∧ y < 18446744073709551616
theorem FR.nan {x y : Nat} (h : FR x y) : isN x = isN y := by rw [← isN_canon x, h.1, isN_canon]

/-- Where a block lies: in which, from which cell on, how many cells are there; if nobody changes it, what it holds. -/
abbrev Rho := Nat → Option (Nat × Nat × Nat × Option Nat)

def CPR (ρ : Rho) : CP → Value → Prop
  | .p0, v => v = .pointer none
  | .sl0, v => v = .slice none 0 0
  | .p m o, v => ∃ q, ρ m = some q ∧ v = .pointer (some ⟨q.1, q.2.1 + o, none⟩)
  | .sl m o l c, v => ∃ q n, ρ m = some q ∧ v = .slice (some ⟨q.1, q.2.1 + o, none⟩) l n ∧ l ≤ n ∧ (match c with | .n k => n = k | .u s => o + n * s ≤ q.2.2.1)
theorem CPR.plain {ρ : Rho} {x : CP} {v : Value} (h : CPR ρ x v) : (∃ p, v = .pointer p) ∨ ∃ p l n, v = .slice p l n := by
  cases x <;> simp only [CPR] at h
  · exact .inl ⟨_, h⟩
  · exact .inr ⟨_, _, _, h⟩
  · obtain ⟨q, -, h⟩ := h; exact .inl ⟨_, h⟩
  · obtain ⟨q, n, -, h, -⟩ := h; exact .inr ⟨_, _, _, h⟩
/-- The first whose condition holds. -/
def selP (V : Val) : List (E × CP) → CP → CP
  | [], d => d
  | (e, x) :: l, d => bif evB V e then x else selP V l d
def CR (V : Val) (ρ : Rho) : C → Value → Prop
  | .u, v => v.oneCell' = true
  | .b x, v => v = .bool x
  | .i k n, v => v = .int k n
  | .f x, v => ∃ y, v = .float .f64 y ∧ FR x y
  | .eb e, v => v = .bool (evB V e)
  | .ei k e, v => v = .int k (evI V e)
  | .ef e, v => ∃ y, v = .float .f64 y ∧ FR (evF V e) y
  | .p m o, v => ∃ q, ρ m = some q ∧ v = .pointer (some ⟨q.1, q.2.1 + o, none⟩)
  | .p0, v => v = .pointer none
  | .sl m o l c, v => ∃ q n, ρ m = some q ∧ v = .slice (some ⟨q.1, q.2.1 + o, none⟩) l n ∧ l ≤ n ∧ (match c with | .n k => n = k | .u s => o + n * s ≤ q.2.2.1)
  | .sl0, v => v = .slice none 0 0
  | .fn f caps, v => ∃ vs : Array Value, v = .func (.func f) #[] vs ∧ All2 (fun (c : Nat × Nat) w => ∃ r, ρ c.1 = some r ∧ w = Value.pointer (some ⟨r.1, r.2.1 + c.2, none⟩)) caps vs.toList
  | .fn0, v => v = .nilFunc
  | .q0, v => ∃ o c, v = .slice o 0 c
  | .qi j b, v => (∃ q c, ρ b = some q ∧ q.2.2.2 = some j ∧ v = .slice (some ⟨q.1, q.2.1, none⟩) (V.arr j).size c ∧ ∀ (i : Nat) (x : Value), (V.arr j)[i]? = some x → ∃ n, x = Value.int .i64 n) ∨ ((V.arr j).size = 0 ∧ ∃ o c, v = .slice o 0 c)
  | .qf j b, v => (∃ q c, ρ b = some q ∧ q.2.2.2 = some j ∧ v = .slice (some ⟨q.1, q.2.1, none⟩) (V.arr j).size c ∧ ∀ (i : Nat) (x : Value), (V.arr j)[i]? = some x → ∃ n, x = Value.float .f64 n ∧ n < 18446744073709551616) ∨ ((V.arr j).size = 0 ∧ ∃ o c, v = .slice o 0 c)
  | .pi j b i, v => ∃ q n, ρ b = some q ∧ q.2.2.2 = some j ∧ v = .pointer (some ⟨q.1, q.2.1 + i, none⟩) ∧ (V.arr j)[i]? = some (.int .i64 n)
  | .pf j b i, v => ∃ q n, ρ b = some q ∧ q.2.2.2 = some j ∧ v = .pointer (some ⟨q.1, q.2.1 + i, none⟩) ∧ (V.arr j)[i]? = some (.float .f64 n) ∧ n < 18446744073709551616
  | .px m o s n e, v => ∃ (q : Nat × Nat × Nat × Option Nat) (i : Nat), ρ m = some q ∧ i < n ∧ evI V e = i ∧ v = .pointer (some ⟨q.1, q.2.1 + (o + s * i), none⟩)
  | .fm f b o, v => ∃ r, ρ b = some r ∧ v = .func (.func f) #[.pointer (some ⟨r.1, r.2.1 + o, none⟩)] #[]
  | .cc l d, v => CPR ρ (selP V l d) v

theorem CPR_toC {V : Val} {ρ : Rho} {v : Value} : ∀ (x : CP), CR V ρ x.toC v ↔ CPR ρ x v
  | .p0 | .sl0 | .p _ _ | .sl _ _ _ _ => Iff.rfl
theorem chainX_sel {V : Val} {b o s j : Nat} {e : E} {d : CP} (he : evI V e = (j : Int)) : ∀ (k i : Nat), i ≤ j → selP V (chainX b o s e i k) d = if j < i + k then .p b (o + s * j) else d
  | 0, i, h => by
    rw [if_neg (by omega)]
    rfl
  | k + 1, i, h => by
    show (bif icV .eql (evI V e) (i : Int) then CP.p b (o + s * i) else selP V (chainX b o s e (i + 1) k) d) = _
    rw [he]
    by_cases hij : j = i
    · subst hij
      rw [if_pos (by omega)]
      simp [icV]
    · rw [chainX_sel he k (i + 1) (by omega)]
      have : icV .eql (j : Int) (i : Int) = false := by
        simp only [icV, decide_eq_false_iff_not]
        omega
      rw [this, cond_false]
      by_cases hk : j < i + (k + 1)
      · rw [if_pos hk, if_pos (by omega)]
      · rw [if_neg hk, if_neg (by omega)]
theorem chainX_ok {V : Val} {ρ : Rho} {v : Value} {b o s n : Nat} {e : E} (h : CR V ρ (.px b o s (n + 1) e) v) : CPR ρ (selP V (chainX b o s e 0 n) (.p b (o + s * n))) v := by
  obtain ⟨q, i, h1, h2, h3, h4⟩ := h
  rw [chainX_sel h3 n 0 (by omega)]
  by_cases hi : i < 0 + n
  · rw [if_pos hi]
    exact ⟨q, h1, h4⟩
  · rw [if_neg hi, show n = i by omega]
    exact ⟨q, h1, h4⟩
theorem chainOf_ok {V : Val} {ρ : Rho} {v : Value} {c : C} {q : List (E × CP) × CP} (h : chainOf c = some q) (hc : CR V ρ c v) : CPR ρ (selP V q.1 q.2) v := by
  unfold chainOf at h
  split at h <;> simp only [Option.some.injEq, reduceCtorEq] at h <;> subst h
  iterate 5 exact hc
  exact chainX_ok hc
theorem chainM_ok {V : Val} {ρ : Rho} {v : Value} {c : C} {q : List (E × CP) × CP} (h : chainM c = some q) (hc : CR V ρ c v) : CPR ρ (selP V q.1 q.2) v := by
  unfold chainM at h
  split at h <;> simp only [Option.some.injEq, reduceCtorEq] at h <;> subst h
  · exact hc
  · exact chainX_ok hc
theorem selP_join {V : Val} {e : E} {m : List (E × CP)} {d d' : CP} : ∀ (l : List (E × CP)), selP V (guardL e l ++ (e, d) :: m) d' = bif evB V e then selP V l d else selP V m d'
  | [] => rfl
  | (c, x) :: l => by
    show (bif (evB V e && evB V c) then x else selP V (guardL e l ++ (e, d) :: m) d') = bif evB V e then (bif evB V c then x else selP V l d) else selP V m d'
    rw [selP_join l]
    cases evB V e <;> cases evB V c <;> rfl
theorem mkCC_ok {V : Val} {ρ : Rho} {v : Value} : ∀ (l : List (E × CP)) (d : CP), CR V ρ (mkCC l d) v ↔ CPR ρ (selP V l d) v
  | [], d => CPR_toC d
  | _ :: _, _ => Iff.rfl
theorem underE_ok {V : Val} {c : E} {t : Bool} (hc : evB V c = t) : ∀ (e : E), evB V (underE c t e) = evB V e := by
  intro e
  induction e with
  | an a b iha ihb =>
    unfold underE
    by_cases h : E.an a b = c
    · rw [if_pos h, h, hc]; rfl
    · rw [if_neg h]
      show _ = (evB V a && evB V b)
      rw [← iha, ← ihb]
      split
      · rename_i h1; rw [h1]; simp [evB]
      · rename_i h1; rw [h1]; simp [evB]
      · rfl
  | _ => 
    unfold underE
    split
    · rename_i h; rw [h, hc]; rfl
    · rfl
theorem pickP_ok {V : Val} {c : E} {t : Bool} (hc : evB V c = t) : ∀ (l : List (E × CP)) (d : CP), selP V (pickP c t l d).1 (pickP c t l d).2 = selP V l d
  | [], _ => rfl
  | (e, x) :: l, d => by
    have ih := pickP_ok hc l d
    have hu := underE_ok hc e
    unfold pickP
    show _ = bif evB V e then x else selP V l d
    rw [← hu, ← ih]
    split
    · rename_i h1; rw [h1]; rfl
    · rename_i h1; rw [h1]; rfl
    · rfl
theorem pickC_ok {V : Val} {ρ : Rho} {v : Value} {c : E} {t : Bool} (hc : evB V c = t) {x : C} (h : CR V ρ x v) : CR V ρ (pickC c t x) v := by
  cases x <;> try exact h
  rename_i l d
  exact (mkCC_ok _ _).2 (by rw [pickP_ok hc]; exact h)

def V1R (V : Val) (ρ : Rho) : SV1 → Value → Prop
  | .c x, v => CR V ρ x v
  | .ag l, v => ∃ vs : Array Value, v = .agg vs ∧ All2 (CR V ρ) l vs.toList
def VR (V : Val) (ρ : Rho) : SV → Value → Prop
  | .c x, v => CR V ρ x v
  | .ag l, v => ∃ vs : Array Value, v = .agg vs ∧ All2 (CR V ρ) l vs.toList
  | .tu l, v => ∃ vs : Array Value, v = .tuple vs ∧ All2 (V1R V ρ) l vs.toList

def Ext (ρ ρ' : Rho) : Prop := ∀ b q, ρ b = some q → ρ' b = some q
theorem Ext.refl (ρ : Rho) : Ext ρ ρ := fun _ _ h => h
theorem Ext.trans {a b c : Rho} (h : Ext a b) (k : Ext b c) : Ext a c := fun _ _ e => k _ _ (h _ _ e)

theorem CR.ext {V : Val} {ρ ρ' : Rho} (hρ : Ext ρ ρ') {c : C} {v : Value} (h : CR V ρ c v) : CR V ρ' c v := by
  cases c <;> simp only [CR] at h ⊢ <;> try exact h
  case p => obtain ⟨q, h1, h2⟩ := h; exact ⟨q, hρ _ _ h1, h2⟩
  case sl => obtain ⟨q, n, h1, h2⟩ := h; exact ⟨q, n, hρ _ _ h1, h2⟩
  case fn =>
    obtain ⟨vs, h1, h2⟩ := h
    exact ⟨vs, h1, h2.mono fun c w ⟨r, hr, hw⟩ => ⟨r, hρ _ _ hr, hw⟩⟩
  case fm => obtain ⟨r, h1, h2⟩ := h; exact ⟨r, hρ _ _ h1, h2⟩
  case px => obtain ⟨q, i, h1, h2⟩ := h; exact ⟨q, i, hρ _ _ h1, h2⟩
  case cc l d =>
    generalize selP V l d = x at h ⊢
    cases x <;> simp only [CPR] at h ⊢ <;> try exact h
    · obtain ⟨q, h1, h2⟩ := h; exact ⟨q, hρ _ _ h1, h2⟩
    · obtain ⟨q, n, h1, h2⟩ := h; exact ⟨q, n, hρ _ _ h1, h2⟩
  case qi => rcases h with ⟨r, n, h1, h2⟩ | h; exact .inl ⟨r, n, hρ _ _ h1, h2⟩; exact .inr h
  case qf => rcases h with ⟨r, n, h1, h2⟩ | h; exact .inl ⟨r, n, hρ _ _ h1, h2⟩; exact .inr h
  case pi => obtain ⟨r, n, h1, h2⟩ := h; exact ⟨r, n, hρ _ _ h1, h2⟩
  case pf => obtain ⟨r, n, h1, h2⟩ := h; exact ⟨r, n, hρ _ _ h1, h2⟩
theorem V1R.ext {V : Val} {ρ ρ' : Rho} (hρ : Ext ρ ρ') {c : SV1} {v : Value} (h : V1R V ρ c v) : V1R V ρ' c v := by
  cases c
  case c => exact CR.ext hρ h
  case ag => obtain ⟨vs, h1, h2⟩ := h; exact ⟨vs, h1, h2.mono fun _ _ h => h.ext hρ⟩
theorem VR.ext {V : Val} {ρ ρ' : Rho} (hρ : Ext ρ ρ') {c : SV} {v : Value} (h : VR V ρ c v) : VR V ρ' c v := by
  cases c
  case c => exact CR.ext hρ h
  case ag => obtain ⟨vs, h1, h2⟩ := h; exact ⟨vs, h1, h2.mono fun _ _ h => h.ext hρ⟩
  case tu => obtain ⟨vs, h1, h2⟩ := h; exact ⟨vs, h1, h2.mono fun _ _ h => h.ext hρ⟩

theorem CR.one {V : Val} {ρ : Rho} {c : C} {v : Value} (h : CR V ρ c v) : v.oneCell' = true := by
  cases c <;> simp only [CR] at h
  case u => exact h
  case f => obtain ⟨y, rfl, -⟩ := h; rfl
  case ef => obtain ⟨y, rfl, -⟩ := h; rfl
  case p => obtain ⟨y, -, rfl⟩ := h; rfl
  case sl => obtain ⟨q, n, -, rfl, -⟩ := h; rfl
  case fn => obtain ⟨y, rfl, -⟩ := h; rfl
  case fm => obtain ⟨y, -, rfl⟩ := h; rfl
  case px => obtain ⟨y, i, -, -, -, rfl⟩ := h; rfl
  case cc l d =>
    generalize selP V l d = x at h
    cases x <;> simp only [CPR] at h
    · subst h; rfl
    · subst h; rfl
    · obtain ⟨y, -, rfl⟩ := h; rfl
    · obtain ⟨q, n, -, rfl, -⟩ := h; rfl
  case q0 => obtain ⟨y, n, rfl⟩ := h; rfl
  case qi => rcases h with ⟨y, n, -, -, rfl, -⟩ | ⟨-, o, c, rfl⟩ <;> rfl
  case qf => rcases h with ⟨y, n, -, -, rfl, -⟩ | ⟨-, o, c, rfl⟩ <;> rfl
  case pi => obtain ⟨y, n, -, -, rfl, -⟩ := h; rfl
  case pf => obtain ⟨y, n, -, -, rfl, -⟩ := h; rfl
  all_goals (subst h; rfl)

/-- The cells of a value. -/
theorem VR.cells {V : Val} {ρ : Rho} {s : SV} {v : Value} {cs : List C} (h : VR V ρ s v) (hc : s.cells = some cs) : All2 (CR V ρ) cs v.cells.toList := by
  cases s <;> simp only [SV.cells, Option.some.injEq, reduceCtorEq] at hc
  case c x =>
    subst hc
    have h1 := CR.one h
    have : v.cells = #[v] := by cases v <;> first | rfl | simp [Value.oneCell'] at h1
    rw [this]; exact ⟨h, trivial⟩
  case ag l =>
    subst hc
    obtain ⟨vs, rfl, h2⟩ := h
    exact h2

theorem wrapF_eq (k : IntKind) (n : Int) : wrapF k n = k.wrap n := by
  cases k <;> try rfl
  unfold wrapF
  simp only []
  by_cases h : -9223372036854775808 ≤ n ∧ n < 9223372036854775808
  · rw [decide_eq_true h.1, decide_eq_true h.2]
    simp only [Bool.and_self, cond_true]
    unfold IntKind.wrap IntKind.bits IntKind.signed
    simp only [Bool.true_and]
    have e1 : (2 : Int) ^ 64 = 18446744073709551616 := by decide
    have e2 : (2 : Int) ^ (64 - 1) = 9223372036854775808 := by decide
    rw [e1, e2]
    split
    · rename_i hh; simp at hh; omega
    · rename_i hh; simp at hh; omega
  · have : (decide (-9223372036854775808 ≤ n) && decide (n < 9223372036854775808)) = false := by simp; omega
    rw [this]; rfl

theorem cop_canon (op : BinOp) (x y : Nat) : cop op (canon x) (canon y) = cop op x y := by
  have hn : ∀ z, isN z = true → ∀ u, cop op z u = nanB ∧ cop op u z = nanB := fun z hz u => by
    unfold cop; rw [fb_nan_left op u hz, fb_nan_right op u hz]; exact ⟨rfl, rfl⟩
  by_cases hx : isN x = true
  · rw [(hn x hx _).1, (hn (canon x) (by rw [isN_canon]; exact hx) _).1]
  · by_cases hy : isN y = true
    · rw [(hn y hy _).2, (hn (canon y) (by rw [isN_canon]; exact hy) _).2]
    · rw [canon_num (by simpa using hx), canon_num (by simpa using hy)]
theorem cop_FR {op : BinOp} {x y x' y' : Nat} (h : FR x x') (g : FR y y') : cop op x y = cop op x' y' := by
  rw [← cop_canon op x y, h.1, g.1, cop_canon]
theorem eqB_FR {x y x' y' : Nat} (h : FR x x') (g : FR y y') : eqB x y = eqB x' y' := by
  have a := ord_eq x y; have b := ord_eq x' y'
  rw [← a, ← b]
  show (Ieee.double.order x y == _) = (Ieee.double.order x' y' == _)
  rw [← order_canon x y, h.1, g.1, order_canon]
theorem ltB_FR {x y x' y' : Nat} (h : FR x x') (g : FR y y') : ltB x y = ltB x' y' := by
  have a := ord_lt x y; have b := ord_lt x' y'
  rw [← a, ← b]
  show (Ieee.double.order x y == _) = (Ieee.double.order x' y' == _)
  rw [← order_canon x y, h.1, g.1, order_canon]
theorem leB_FR {x y x' y' : Nat} (h : FR x x') (g : FR y y') : leB x y = leB x' y' := by
  rw [← ord_le, ← ord_le, eqB_FR h g, ltB_FR h g]
theorem fcV_FR {op : BinOp} {x y x' y' : Nat} (h : FR x x') (g : FR y y') : fcV op x y = fcV op x' y' := by
  unfold fcV
  cases op <;> simp only [eqB_FR h g, ltB_FR h g, leB_FR h g, ltB_FR g h, leB_FR g h]
theorem FR.cop {op : BinOp} {x y x' y' : Nat} (h : FR x x') (g : FR y y') (w : World) : FR (cop op x y) (fval op w x' y') := by
  refine ⟨?_, fval_lt _ _ _ _⟩
  rw [canon_fval, ← cop_FR h g]
  rw [← canon_fval op w, canon_canon]
end Go.Proofs.Ytclhgnhbmlkomaa.Ex
