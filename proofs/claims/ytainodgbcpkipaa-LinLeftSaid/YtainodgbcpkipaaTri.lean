/-
  Names of a table: which numbers are between which; which from-tos are within which.
-/
import Derived.Test.YtainodgbcpkipaaGl
import Derived.Test.YtainodgbcpkipaaEnx
namespace Go.Proofs.Ytainodgbcpkipaa
theorem cop_nan {op : BinOp} {x y : Nat} (h : isN (cop op x y) = false) : isN x = false ∧ isN y = false := by
  have nb : isN nanB = true := by decide
  constructor
  · cases hx : isN x
    · rfl
    · unfold cop at h; rw [fb_nan_left op y hx] at h; exact absurd (show isN nanB = false from h) (by rw [nb]; simp)
  · cases hy : isN y
    · rfl
    · unfold cop at h; rw [fb_nan_right op x hy] at h; exact absurd (show isN nanB = false from h) (by rw [nb]; simp)
end Go.Proofs.Ytainodgbcpkipaa
namespace Go.Proofs.Ytainodgbcpkipaa.Ex
open Go
variable {P : Program} {V : Val}

def nofin (_ : E) : Bool := false
theorem nofin_ok : FinOK V nofin := fun _ h => by cases h
def finE (e : E) : Bool := (gd e (linF nofin e)).isSome
theorem finE_ok (hV : StdV V) {e : E} (h : finE e = true) : evF V e % p63 < infR := by
  unfold finE at h
  cases hq : gd e (linF nofin e) with
  | none => rw [hq] at h; cases h
  | some x =>
    obtain ⟨p, k⟩ := x
    obtain ⟨m, d, -, -, hi⟩ := linF_ok hV nofin_ok hq
    exact hi.fin
/-- A rest: no less than 0. -/
def atm0 : E → Bool
  | .ai 9 j (.ci _ (.ci (.li n) .n0)) => Nat.beq j 0 && decide (1 ≤ n)
  | _ => false
theorem atm0_ok (hV : StdV V) {e : E} (h : atm0 e = true) : 0 ≤ evI V e := by
  unfold atm0 at h
  split at h
  · rename_i j a n
    simp only [Bool.and_eq_true, decide_eq_true_eq] at h
    show 0 ≤ V.fi 9 j _
    rw [hV.i _ _ _ (by decide)]
    show 0 ≤ evI V a % n
    exact Int.emod_nonneg _ (by omega)
  · cases h
theorem prod0_ok (hV : StdV V) : ∀ {l : List E}, l.all atm0 = true → 0 ≤ prodM V l
  | [], _ => by unfold prodM; decide
  | a :: l, h => by
    simp only [List.all_cons, Bool.and_eq_true] at h
    unfold prodM
    exact Int.mul_nonneg (atm0_ok hV h.1) (prod0_ok hV h.2)
/-- No less than this. -/
def low0 : List (List E × Int) → Option Int
  | [] => some 0
  | ([], k) :: l => match low0 l with
    | some b => some (k + b)
    | none => none
  | (a, k) :: l => bif decide (0 ≤ k) && a.all atm0 then low0 l else none
theorem low0_ok (hV : StdV V) : ∀ {ts : List (List E × Int)} {b : Int}, low0 ts = some b → b ≤ evT V ts
  | [], b, h => by simp only [low0, Option.some.injEq] at h; subst h; exact Int.le_refl _
  | ([], k) :: l, b, h => by
    unfold low0 at h
    split at h
    · rename_i c hc
      simp only [Option.some.injEq] at h
      subst h
      have := low0_ok hV hc
      show k + c ≤ k * 1 + evT V l
      omega
    · cases h
  | (a :: m, k) :: l, b, h => by
    unfold low0 at h
    cases hc : (decide (0 ≤ k) && (a :: m).all atm0) <;> rw [hc] at h
    · cases h
    · simp only [cond_true] at h
      simp only [Bool.and_eq_true, decide_eq_true_eq] at hc
      have h1 := low0_ok hV h
      have h2 := Int.mul_nonneg hc.1 (prod0_ok hV hc.2)
      show b ≤ k * prodM V (a :: m) + evT V l
      omega
def leL (x y : Pol × Pol) : Bool := match alignL x.1 x.2 y.1 y.2 with
  | some (p, q, _) => (match low0 (q.sub p).ts with
    | some c => decide (0 ≤ c)
    | none => false) || (match cmpL .leq (p.sub q) with
    | some b => b
    | none => false)
  | none => false
def leE (a b : E) : Bool := match gd a (linF nofin a), gd b (linF nofin b) with
  | some x, some y => leL x y
  | _, _ => false
theorem leE_ok (hV : StdV V) {a b : E} (h : leE a b = true) : key (evF V a) ≤ key (evF V b) := by
  unfold leE at h
  split at h
  · rename_i x y ha hb
    obtain ⟨x1, x2⟩ := x
    obtain ⟨y1, y2⟩ := y
    unfold leL at h
    split at h
    · rename_i p q m hal
      obtain ⟨u, v, e, hu, hv, hm, iu, iv⟩ := align_ok hal (linF_ok hV nofin_ok ha) (linF_ok hV nofin_ok hb)
      have hle : u ≤ v := by
        rw [Bool.or_eq_true] at h
        rcases h with h | h
        · split at h
          · rename_i c hc
            have h1 := low0_ok hV hc
            have h2 := (hv.sub hu).eq
            simp only [decide_eq_true_eq] at h
            omega
          · cases h
        · split at h
          · rename_i b' hb'
            subst h
            have := cmpL_ok hb' (hu.sub hv)
            simp only [icV, decide_eq_true_eq] at this
            omega
          · cases h
      have h3 : fcV .leq (evF V a) (evF V b) = true := by rw [is_cmp iu iv]; simpa [icV] using hle
      exact le_keys iu.num iv.num h3
    · cases h
  · cases h

/-! ### Between two -/
/-- It is no number, or between them. -/
def Tr (V : Val) (y lo hi : E) : Prop := Ra (evF V lo) (evF V hi) ∧ (isN (evF V y) = true ∨ (key (evF V lo) ≤ key (evF V y) ∧ key (evF V y) ≤ key (evF V hi)))
def leafE (y lo hi : E) : Bool := (decide (lo = y) && (decide (hi = y) && finE y)) || (finE lo && (finE hi && (leE lo y && leE y hi)))
theorem ra_fin {a b : Nat} (ha : a % p63 < infR) (hb : b % p63 < infR) (h : key a ≤ key b) : Ra a b := by
  obtain ⟨a1, a2, a3⟩ := key_fin ha
  obtain ⟨b1, b2, b3⟩ := key_fin hb
  have := key_abs a3
  have := key_abs b3
  exact ⟨a3, b3, h, by omega, by omega⟩
theorem leafE_ok (hV : StdV V) {y lo hi : E} (h : leafE y lo hi = true) : Tr V y lo hi := by
  unfold leafE at h
  simp only [Bool.or_eq_true, Bool.and_eq_true, decide_eq_true_eq] at h
  rcases h with ⟨rfl, rfl, h⟩ | ⟨h1, h2, h3, h4⟩
  · exact ⟨Ra.point (finE_ok hV h), .inr ⟨Int.le_refl _, Int.le_refl _⟩⟩
  · have e1 := leE_ok hV h3
    have e2 := leE_ok hV h4
    exact ⟨ra_fin (finE_ok hV h1) (finE_ok hV h2) (by omega), .inr ⟨e1, e2⟩⟩
def ivIs (op : BinOp) (f : Nat) : Bool := match op with
  | .add => Nat.beq f 20
  | .sub => Nat.beq f 21
  | .mul => Nat.beq f 22
  | .quo => Nat.beq f 23
  | _ => false
theorem iv_op (hW : IvV V) {op : BinOp} {f : Nat} (h : ivIs op f = true) : ∃ F, Op2 F op ∧ ∀ a b c d, evF V (.af f 0 (f4 a b c d)) = (F (evF V a) (evF V b) (evF V c) (evF V d)).1 ∧ evF V (.af f 1 (f4 a b c d)) = (F (evF V a) (evF V b) (evF V c) (evF V d)).2 := by
  unfold ivIs at h
  split at h
  · have := Nat.eq_of_beq_eq_true h; subst this
    exact ⟨_, add_op, fun a b c d => ⟨by show V.ff 20 0 _ = _; rw [hW.x _ _ _ (by decide) (by decide)]; rfl, by show V.ff 20 1 _ = _; rw [hW.x _ _ _ (by decide) (by decide)]; rfl⟩⟩
  · have := Nat.eq_of_beq_eq_true h; subst this
    exact ⟨_, sub_op, fun a b c d => ⟨by show V.ff 21 0 _ = _; rw [hW.x _ _ _ (by decide) (by decide)]; rfl, by show V.ff 21 1 _ = _; rw [hW.x _ _ _ (by decide) (by decide)]; rfl⟩⟩
  · have := Nat.eq_of_beq_eq_true h; subst this
    exact ⟨_, mul_op, fun a b c d => ⟨by show V.ff 22 0 _ = _; rw [hW.x _ _ _ (by decide) (by decide)]; rfl, by show V.ff 22 1 _ = _; rw [hW.x _ _ _ (by decide) (by decide)]; rfl⟩⟩
  · have := Nat.eq_of_beq_eq_true h; subst this
    exact ⟨_, div_op, fun a b c d => ⟨by show V.ff 23 0 _ = _; rw [hW.x _ _ _ (by decide) (by decide)]; rfl, by show V.ff 23 1 _ = _; rw [hW.x _ _ _ (by decide) (by decide)]; rfl⟩⟩
  · cases h
abbrev Tri := List (Nat × Nat × Nat)
def memT (k l h : Nat) : Tri → Bool
  | [] => false
  | x :: r => (Nat.beq x.1 k && (Nat.beq x.2.1 l && Nat.beq x.2.2 h)) || memT k l h r
theorem memT_ok {k l h : Nat} : ∀ {L : Tri}, memT k l h L = true → (k, l, h) ∈ L
  | [], hm => by cases hm
  | (a, b, c) :: r, hm => by
    unfold memT at hm
    simp only [Bool.or_eq_true, Bool.and_eq_true] at hm
    rcases hm with ⟨h1, h2, h3⟩ | hm
    · rw [Nat.eq_of_beq_eq_true h1, Nat.eq_of_beq_eq_true h2, Nat.eq_of_beq_eq_true h3]; exact List.mem_cons_self ..
    · exact List.mem_cons_of_mem _ (memT_ok hm)
def rowE (k : Nat) : Nms → Option E
  | [] => none
  | x :: r => bif Nat.beq x.2.1 k then some x.2.2 else rowE k r
theorem rowE_ok {t : Nms} {k : Nat} {e : E} (ht : ∀ x, x ∈ t → V.f x.2.1 = evF V x.2.2) (h : rowE k t = some e) : evF V (.vf k) = evF V e := by
  induction t with
  | nil => cases h
  | cons x r ih =>
    unfold rowE at h
    cases hb : Nat.beq x.2.1 k <;> rw [hb] at h
    · exact ih (fun y hy => ht y (List.mem_cons_of_mem _ hy)) h
    · simp only [cond_true, Option.some.injEq] at h
      have := Nat.eq_of_beq_eq_true hb
      subst this; subst h
      exact ht x (List.mem_cons_self ..)
/-- What a name stands for. -/
def open1 (t : Nms) : E → E
  | .vf k => match rowE k t with
    | some e => e
    | none => .vf k
  | e => e
theorem open1_ok {t : Nms} (ht : ∀ x, x ∈ t → V.f x.2.1 = evF V x.2.2) (e : E) : evF V (open1 t e) = evF V e := by
  unfold open1
  split
  · split
    · rename_i h; exact (rowE_ok ht h).symm
    · rfl
  · rfl
def encE (t : Nms) (L : Tri) : E → E → E → Bool
  | .fb op u v, lo, hi => (match open1 t lo, open1 t hi with
    | .af f i (.cf l1 (.cf h1 (.cf l2 (.cf h2 .n0)))), .af g j args => ivIs op f && (Nat.beq i 0 && (Nat.beq g f && (Nat.beq j 1 && (decide (args = f4 l1 h1 l2 h2) && (encE t L u l1 h1 && encE t L v l2 h2)))))
    | lo, hi => leafE (.fb op u v) lo hi)
  | .tf c a b, lo, hi => (match open1 t lo, open1 t hi with
    | .tf c1 l1 l2, .tf c2 h1 h2 => decide (c1 = c) && (decide (c2 = c) && (encE t L a l1 h1 && encE t L b l2 h2))
    | lo, hi => leafE (.tf c a b) lo hi)
  | .vf k, lo, hi => (match lo, hi with
    | .vf l, .vf h => memT k l h L
    | lo, hi => leafE (.vf k) lo hi)
  | y, lo, hi => leafE y lo hi
theorem encE_ok (hW : IvV V) {t : Nms} (ht : ∀ x, x ∈ t → V.f x.2.1 = evF V x.2.2) {L : Tri} (hL : ∀ x, x ∈ L → Tr V (.vf x.1) (.vf x.2.1) (.vf x.2.2)) : ∀ (y lo hi : E), encE t L y lo hi = true → Tr V y lo hi := by
  have hV := hW.toStdV
  intro y
  induction y with
  | fb op u v ihu ihv =>
    intro lo hi h
    unfold encE at h
    unfold Tr
    rw [← open1_ok ht lo, ← open1_ok ht hi]
    generalize open1 t lo = lo at *
    generalize open1 t hi = hi at *
    show Tr V _ _ _
    split at h
    · rename_i f i l1 h1 l2 h2 g j args
      simp only [Bool.and_eq_true, decide_eq_true_eq] at h
      obtain ⟨q1, q2, q3, q4, rfl, q5, q6⟩ := h
      have := Nat.eq_of_beq_eq_true q2; subst this
      have := Nat.eq_of_beq_eq_true q3; subst this
      have := Nat.eq_of_beq_eq_true q4; subst this
      obtain ⟨F, hF, hE⟩ := iv_op hW q1
      obtain ⟨r1, t1⟩ := ihu l1 h1 q5
      obtain ⟨r2, t2⟩ := ihv l2 h2 q6
      obtain ⟨e1, e2⟩ := hE l1 h1 l2 h2
      refine ⟨?_, ?_⟩
      · show Ra (evF V (.af g 0 (f4 l1 h1 l2 h2))) _
        rw [e1, e2]; exact hF.ra r1 r2
      · show isN (cop op (evF V u) (evF V v)) = true ∨ (key (evF V (.af g 0 (f4 l1 h1 l2 h2))) ≤ key (cop op (evF V u) (evF V v)) ∧ _)
        rw [e1, e2]
        cases n : isN (cop op (evF V u) (evF V v))
        · obtain ⟨n1, n2⟩ := cop_nan n
          rw [n1] at t1; rw [n2] at t2
          obtain ⟨a1, a2⟩ := t1.resolve_left (by simp)
          obtain ⟨b1, b2⟩ := t2.resolve_left (by simp)
          exact .inr (hF.mem r1 r2 n1 n2 n a1 a2 b1 b2)
        · exact .inl rfl
    · exact leafE_ok hV h
  | tf c a b _ iha ihb =>
    intro lo hi h
    unfold encE at h
    unfold Tr
    rw [← open1_ok ht lo, ← open1_ok ht hi]
    generalize open1 t lo = lo at *
    generalize open1 t hi = hi at *
    show Tr V _ _ _
    split at h
    · rename_i c1 l1 l2 c2 h1 h2
      simp only [Bool.and_eq_true, decide_eq_true_eq] at h
      obtain ⟨rfl, rfl, q1, q2⟩ := h
      have t1 := iha _ _ q1
      have t2 := ihb _ _ q2
      unfold Tr at t1 t2 ⊢
      simp only [evF]
      cases evB V c2
      · exact t2
      · exact t1
    · exact leafE_ok hV h
  | vf k =>
    intro lo hi h
    unfold encE at h
    split at h
    · exact hL _ (memT_ok h)
    · exact leafE_ok hV h
  | _ => intro lo hi h; exact leafE_ok hV h
def row3 (t : Nms) (x : Nat × Nat × Nat) : Option (E × E × E) := match rowE x.1 t, rowE x.2.1 t, rowE x.2.2 t with
  | some a, some b, some c => some (a, b, c)
  | _, _, _ => none
def trisOK (t : Nms) : Tri → Tri → Bool
  | _, [] => true
  | acc, x :: r => (match row3 t x with
    | some (a, b, c) => encE t acc a b c
    | none => false) && trisOK t (x :: acc) r
theorem trisOK_ok (hW : IvV V) {t : Nms} (ht : ∀ x, x ∈ t → V.f x.2.1 = evF V x.2.2) : ∀ {L acc : Tri}, (∀ x, x ∈ acc → Tr V (.vf x.1) (.vf x.2.1) (.vf x.2.2)) → trisOK t acc L = true → ∀ x, x ∈ L → Tr V (.vf x.1) (.vf x.2.1) (.vf x.2.2)
  | [], _, _, _, _, hx => by cases hx
  | y :: r, acc, hacc, h, x, hx => by
    unfold trisOK at h
    rw [Bool.and_eq_true] at h
    obtain ⟨h1, h2⟩ := h
    have hy : Tr V (.vf y.1) (.vf y.2.1) (.vf y.2.2) := by
      split at h1
      · rename_i a b c hr
        have := encE_ok hW ht hacc a b c h1
        unfold row3 at hr
        split at hr
        · rename_i a' b' c' e1 e2 e3
          simp only [Option.some.injEq, Prod.mk.injEq] at hr
          obtain ⟨rfl, rfl, rfl⟩ := hr
          unfold Tr at this ⊢
          rw [rowE_ok ht e1, rowE_ok ht e2, rowE_ok ht e3]
          exact this
        · cases hr
      · cases h1
    rcases List.mem_cons.1 hx with rfl | hx
    · exact hy
    · exact trisOK_ok hW ht (fun z hz => (List.mem_cons.1 hz).elim (fun e => e ▸ hy) (hacc z)) h2 x hx
/-- What is told of how great it is. -/
def numL : List (E × Bool) → E → Bool
  | [], _ => false
  | (.fc .lss (.af 10 j (.cf z .n0)) _, b) :: r, y => (b && (Nat.beq j 0 && decide (z = y))) || numL r y
  | _ :: r, y => numL r y
theorem numL_ok (hV : StdV V) : ∀ {l : List (E × Bool)} {y : E}, LOK V l → numL l y = true → isN (evF V y) = false
  | [], _, _, h => by cases h
  | q :: l, y, hl, h => by
    unfold numL at h
    split at h
    · rename_i heq; cases heq
    · rename_i j z c b l' heq
      simp only [List.cons.injEq] at heq
      obtain ⟨rfl, rfl⟩ := heq
      simp only [Bool.or_eq_true, Bool.and_eq_true, decide_eq_true_eq] at h
      rcases h with ⟨rfl, hj, rfl⟩ | h
      · have := Nat.eq_of_beq_eq_true hj; subst this
        have hf := hl (.fc .lss (.af 10 0 (.cf z .n0)) c) true (by simp)
        have h1 : ltB (V.ff 10 0 [.f (evF V z)]) (evF V c) = true := hf
        rw [hV.f _ _ _ (by decide)] at h1
        unfold ltB at h1
        simp only [Bool.and_eq_true, Bool.not_eq_true'] at h1
        have h2 := h1.1.1
        cases hz : isN (evF V z)
        · rfl
        · have h3 : isN (stdF 10 0 [.f (evF V z)]) = true := by
            show isN (canon (evF V z) % 9223372036854775808) = true
            unfold canon; rw [if_pos hz]; decide
          rw [h3] at h2; cases h2
      · exact numL_ok hV (lok_tail hl) h
    · rename_i q' l' _ heq
      simp only [List.cons.injEq] at heq
      obtain ⟨rfl, rfl⟩ := heq
      exact numL_ok hV (lok_tail hl) h
def numIn (l : List (E × Bool)) (k : Nat) : Bool := finOf l (.vf k) || numL l (.vf k)
theorem numIn_ok (hV : StdV V) {l : List (E × Bool)} (hl : LOK V l) {k : Nat} (h : numIn l k = true) : isN (evF V (.vf k)) = false := by
  unfold numIn at h
  rw [Bool.or_eq_true] at h
  rcases h with h | h
  · exact (key_fin (finOf_ok hl _ h)).2.2
  · exact numL_ok hV hl h
def encGo (num : Nat → Bool) (a b : Nat) : Tri → Bool
  | [] => false
  | x :: r => ((Nat.beq a x.2.1 && (Nat.beq b x.1 && num x.1)) || ((Nat.beq a x.1 && (Nat.beq b x.2.2 && num x.1)) || (Nat.beq a x.2.1 && Nat.beq b x.2.2))) || encGo num a b r
theorem encGo_ok {num : Nat → Bool} (hn : ∀ k, num k = true → isN (evF V (.vf k)) = false) {a b : Nat} : ∀ {L : Tri}, (∀ x, x ∈ L → Tr V (.vf x.1) (.vf x.2.1) (.vf x.2.2)) → encGo num a b L = true → evB V (.fc .leq (.vf a) (.vf b)) = true
  | [], _, h => by cases h
  | (y, lo, hi) :: r, hL, h => by
    obtain ⟨hr, ht⟩ := hL (y, lo, hi) (List.mem_cons_self ..)
    unfold encGo at h
    simp only [Bool.or_eq_true, Bool.and_eq_true] at h
    rcases h with (⟨h1, h2, h3⟩ | ⟨h1, h2, h3⟩ | ⟨h1, h2⟩) | h
    · have := Nat.eq_of_beq_eq_true h1; subst this
      have := Nat.eq_of_beq_eq_true h2; subst this
      have n := hn _ h3
      rw [n] at ht
      show leB _ _ = true
      rw [leB_of hr.na n]
      simpa using (ht.resolve_left (by simp)).1
    · have := Nat.eq_of_beq_eq_true h1; subst this
      have := Nat.eq_of_beq_eq_true h2; subst this
      have n := hn _ h3
      rw [n] at ht
      show leB _ _ = true
      rw [leB_of n hr.nb]
      simpa using (ht.resolve_left (by simp)).2
    · have := Nat.eq_of_beq_eq_true h1; subst this
      have := Nat.eq_of_beq_eq_true h2; subst this
      show leB _ _ = true
      rw [leB_of hr.na hr.nb]
      simpa using hr.o
    · exact encGo_ok hn (fun x hx => hL x (List.mem_cons_of_mem _ hx)) h

/-! ### Within another -/
abbrev Qua := List ((Nat × Nat) × (Nat × Nat))
def Qd (V : Val) (l h l' h' : E) : Prop := Ra (evF V l) (evF V h) ∧ Ra (evF V l') (evF V h') ∧ key (evF V l') ≤ key (evF V l) ∧ key (evF V h) ≤ key (evF V h')
def leafQ (l h l' h' : E) : Bool := (finE l && (finE h && (finE l' && finE h'))) && (leE l h && (leE l' l && leE h h'))
theorem leafQ_ok (hV : StdV V) {l h l' h' : E} (g : leafQ l h l' h' = true) : Qd V l h l' h' := by
  unfold leafQ at g
  simp only [Bool.and_eq_true] at g
  obtain ⟨⟨g1, g2, g3, g4⟩, g5, g6, g7⟩ := g
  have e1 := leE_ok hV g5
  have e2 := leE_ok hV g6
  have e3 := leE_ok hV g7
  exact ⟨ra_fin (finE_ok hV g1) (finE_ok hV g2) e1, ra_fin (finE_ok hV g3) (finE_ok hV g4) (by omega), e2, e3⟩
def memQ (l h l' h' : Nat) : Qua → Bool
  | [] => false
  | x :: r => ((Nat.beq x.1.1 l && Nat.beq x.1.2 h) && (Nat.beq x.2.1 l' && Nat.beq x.2.2 h')) || memQ l h l' h' r
theorem memQ_ok {l h l' h' : Nat} : ∀ {L : Qua}, memQ l h l' h' L = true → ((l, h), (l', h')) ∈ L
  | [], hm => by cases hm
  | ((a, b), (c, d)) :: r, hm => by
    unfold memQ at hm
    simp only [Bool.or_eq_true, Bool.and_eq_true] at hm
    rcases hm with ⟨⟨h1, h2⟩, h3, h4⟩ | hm
    · rw [Nat.eq_of_beq_eq_true h1, Nat.eq_of_beq_eq_true h2, Nat.eq_of_beq_eq_true h3, Nat.eq_of_beq_eq_true h4]; exact List.mem_cons_self ..
    · exact List.mem_cons_of_mem _ (memQ_ok hm)
def ivOf : Nat → BinOp
  | 20 => .add
  | 21 => .sub
  | 22 => .mul
  | 23 => .quo
  | _ => .eql
/-- The four that an operation is of. -/
def args4 : E → Option (E × E × E × E)
  | .cf a (.cf b (.cf c (.cf d .n0))) => some (a, b, c, d)
  | _ => none
theorem args4_ok {x a b c d : E} (h : args4 x = some (a, b, c, d)) : x = f4 a b c d := by
  unfold args4 at h
  split at h
  · simp only [Option.some.injEq, Prod.mk.injEq] at h
    obtain ⟨rfl, rfl, rfl, rfl⟩ := h; rfl
  · cases h
def wdE (t : Nms) (L : Qua) : Nat → E → E → E → E → Bool
  | 0, _, _, _, _ => false
  | n + 1, l, h, l', h' => match l, h, l', h' with
    | .vf a, .vf b, .vf c, .vf d => memQ a b c d L
    | l, h, l', h' => match open1 t l, open1 t h, open1 t l', open1 t h' with
      | .tf c l1 l2, .tf c1 h1 h2, .tf c2 m1 m2, .tf c3 k1 k2 => decide (c1 = c) && (decide (c2 = c) && (decide (c3 = c) && (wdE t L n l1 h1 m1 k1 && wdE t L n l2 h2 m2 k2)))
      | .af f i x, .af g j y, .af f' i' x', .af g' j' y' => (ivIs (ivOf f) f && (Nat.beq g f && (Nat.beq f' f && Nat.beq g' f))) && ((Nat.beq i 0 && (Nat.beq j 1 && (Nat.beq i' 0 && Nat.beq j' 1))) && (decide (y = x) && (decide (y' = x') && (match args4 x, args4 x' with
        | some (a, b, c, d), some (a', b', c', d') => wdE t L n a b a' b' && wdE t L n c d c' d'
        | _, _ => false))))
      | l, h, l', h' => leafQ l h l' h'
theorem wdE_ok (hW : IvV V) {t : Nms} (ht : ∀ x, x ∈ t → V.f x.2.1 = evF V x.2.2) {L : Qua} (hL : ∀ x, x ∈ L → Qd V (.vf x.1.1) (.vf x.1.2) (.vf x.2.1) (.vf x.2.2)) : ∀ (n : Nat) (l h l' h' : E), wdE t L n l h l' h' = true → Qd V l h l' h'
  | 0, _, _, _, _, g => by cases g
  | n + 1, l, h, l', h', g => by
    have hV := hW.toStdV
    unfold wdE at g
    split at g
    · exact hL _ (memQ_ok g)
    · unfold Qd
      rw [← open1_ok ht l, ← open1_ok ht h, ← open1_ok ht l', ← open1_ok ht h']
      generalize open1 t l = l at *
      generalize open1 t h = h at *
      generalize open1 t l' = l' at *
      generalize open1 t h' = h' at *
      show Qd V _ _ _ _
      split at g
      · rename_i c l1 l2 c1 h1 h2 c2 m1 m2 c3 k1 k2
        simp only [Bool.and_eq_true, decide_eq_true_eq] at g
        obtain ⟨rfl, rfl, rfl, q1, q2⟩ := g
        have t1 := wdE_ok hW ht hL n _ _ _ _ q1
        have t2 := wdE_ok hW ht hL n _ _ _ _ q2
        unfold Qd at t1 t2 ⊢
        simp only [evF]
        cases evB V c3
        · exact t2
        · exact t1
      · rename_i f i x g1 j y f' i' x' g' j' y'
        simp only [Bool.and_eq_true, decide_eq_true_eq] at g
        obtain ⟨⟨q1, q2, q3, q4⟩, ⟨q5, q6, q7, q8⟩, rfl, rfl, g⟩ := g
        have := Nat.eq_of_beq_eq_true q2; subst this
        have := Nat.eq_of_beq_eq_true q3; subst this
        have := Nat.eq_of_beq_eq_true q4; subst this
        have := Nat.eq_of_beq_eq_true q5; subst this
        have := Nat.eq_of_beq_eq_true q6; subst this
        have := Nat.eq_of_beq_eq_true q7; subst this
        have := Nat.eq_of_beq_eq_true q8; subst this
        split at g
        · rename_i a b c d a' b' c' d' e1 e2
          rw [args4_ok e1, args4_ok e2]
          rw [Bool.and_eq_true] at g
          obtain ⟨r1, r2, r3, r4⟩ := wdE_ok hW ht hL n _ _ _ _ g.1
          obtain ⟨s1, s2, s3, s4⟩ := wdE_ok hW ht hL n _ _ _ _ g.2
          obtain ⟨F, hF, hE⟩ := iv_op hW q1
          unfold Qd
          rw [(hE a b c d).1, (hE a b c d).2, (hE a' b' c' d').1, (hE a' b' c' d').2]
          exact ⟨hF.ra r1 s1, hF.ra r2 s2, (hF.wd r1 s1 r2 s2 r3 r4 s3 s4).1, (hF.wd r1 s1 r2 s2 r3 r4 s3 s4).2⟩
        · cases g
      · exact leafQ_ok hV g
def row4 (t : Nms) (x : (Nat × Nat) × (Nat × Nat)) : Option (E × E × E × E) := match rowE x.1.1 t, rowE x.1.2 t, rowE x.2.1 t, rowE x.2.2 t with
  | some a, some b, some c, some d => some (a, b, c, d)
  | _, _, _, _ => none
def quasOK (t : Nms) : Qua → Qua → Bool
  | _, [] => true
  | acc, x :: r => (match row4 t x with
    | some (a, b, c, d) => wdE t acc 200 a b c d
    | none => false) && quasOK t (x :: acc) r
theorem quasOK_ok (hW : IvV V) {t : Nms} (ht : ∀ x, x ∈ t → V.f x.2.1 = evF V x.2.2) : ∀ {L acc : Qua}, (∀ x, x ∈ acc → Qd V (.vf x.1.1) (.vf x.1.2) (.vf x.2.1) (.vf x.2.2)) → quasOK t acc L = true → ∀ x, x ∈ L → Qd V (.vf x.1.1) (.vf x.1.2) (.vf x.2.1) (.vf x.2.2)
  | [], _, _, _, _, hx => by cases hx
  | y :: r, acc, hacc, h, x, hx => by
    unfold quasOK at h
    rw [Bool.and_eq_true] at h
    obtain ⟨h1, h2⟩ := h
    have hy : Qd V (.vf y.1.1) (.vf y.1.2) (.vf y.2.1) (.vf y.2.2) := by
      split at h1
      · rename_i a b c d hr
        have := wdE_ok hW ht hacc 200 a b c d h1
        unfold row4 at hr
        split at hr
        · rename_i a' b' c' d' e1 e2 e3 e4
          simp only [Option.some.injEq, Prod.mk.injEq] at hr
          obtain ⟨rfl, rfl, rfl, rfl⟩ := hr
          unfold Qd at this ⊢
          rw [rowE_ok ht e1, rowE_ok ht e2, rowE_ok ht e3, rowE_ok ht e4]
          exact this
        · cases hr
      · cases h1
    rcases List.mem_cons.1 hx with rfl | hx
    · exact hy
    · exact quasOK_ok hW ht (fun z hz => (List.mem_cons.1 hz).elim (fun e => e ▸ hy) (hacc z)) h2 x hx
def wdGo (a b : Nat) : Qua → Bool
  | [] => false
  | x :: r => ((Nat.beq a x.2.1 && Nat.beq b x.1.1) || ((Nat.beq a x.1.2 && Nat.beq b x.2.2) || ((Nat.beq a x.1.1 && Nat.beq b x.1.2) || (Nat.beq a x.2.1 && Nat.beq b x.2.2)))) || wdGo a b r
theorem wdGo_ok {a b : Nat} : ∀ {L : Qua}, (∀ x, x ∈ L → Qd V (.vf x.1.1) (.vf x.1.2) (.vf x.2.1) (.vf x.2.2)) → wdGo a b L = true → evB V (.fc .leq (.vf a) (.vf b)) = true
  | [], _, h => by cases h
  | ((l, h), (l', h')) :: r, hL, g => by
    obtain ⟨r1, r2, r3, r4⟩ := hL ((l, h), (l', h')) (List.mem_cons_self ..)
    unfold wdGo at g
    simp only [Bool.or_eq_true, Bool.and_eq_true] at g
    rcases g with (⟨h1, h2⟩ | ⟨h1, h2⟩ | ⟨h1, h2⟩ | ⟨h1, h2⟩) | g
    · have := Nat.eq_of_beq_eq_true h1; subst this
      have := Nat.eq_of_beq_eq_true h2; subst this
      show leB _ _ = true
      rw [leB_of r2.na r1.na]; simpa using r3
    · have := Nat.eq_of_beq_eq_true h1; subst this
      have := Nat.eq_of_beq_eq_true h2; subst this
      show leB _ _ = true
      rw [leB_of r1.nb r2.nb]; simpa using r4
    · have := Nat.eq_of_beq_eq_true h1; subst this
      have := Nat.eq_of_beq_eq_true h2; subst this
      show leB _ _ = true
      rw [leB_of r1.na r1.nb]; simpa using r1.o
    · have := Nat.eq_of_beq_eq_true h1; subst this
      have := Nat.eq_of_beq_eq_true h2; subst this
      show leB _ _ = true
      rw [leB_of r2.na r2.nb]; simpa using r2.o
    · exact wdGo_ok (fun x hx => hL x (List.mem_cons_of_mem _ hx)) g

/-! ### A way to find out -/
def triD (T : Tri) (Q : Qua) (D : List (E × Bool) → E → Option Bool) (l : List (E × Bool)) (e : E) : Option Bool := match e with
  | .fc .leq (.vf a) (.vf b) => bif encGo (numIn l) a b T || wdGo a b Q then some true else D l e
  | _ => D l e
theorem triD_ok (hW : IvV V) {t : Nms} (ht : ∀ x, x ∈ t → V.f x.2.1 = evF V x.2.2) {T : Tri} {Q : Qua} (hT : trisOK t [] T = true) (hQ : quasOK t [] Q = true) {D : List (E × Bool) → E → Option Bool} (hD : DOK V D) : DOK V (triD T Q D) := by
  intro l hl e b h
  unfold triD at h
  split at h
  · rename_i a b'
    cases hc : encGo (numIn l) a b' T || wdGo a b' Q <;> rw [hc] at h
    · exact hD l hl _ b h
    · simp only [cond_true, Option.some.injEq] at h
      subst h
      rw [Bool.or_eq_true] at hc
      rcases hc with hc | hc
      · exact encGo_ok (fun k hk => numIn_ok hW.toStdV hl hk) (trisOK_ok hW ht (by simp) hT) hc
      · exact wdGo_ok (quasOK_ok hW ht (by simp) hQ) hc
  · exact hD l hl _ b h
def Gam.tri (l : List (E × Bool)) (t : Nms) (T : Tri) (Q : Qua) : Gam := ⟨l, triD T Q exD, some (nmT t)⟩
theorem gam_tri {V : Val} (hV : StdV V) {base : Nat} {t : Nms} (hW : IvV (tabV V base t)) (h : tabGood base t = true) {l : List (E × Bool)} (hl : LOK (tabV V base t) l) {T : Tri} {Q : Qua} (hT : trisOK t [] T = true) (hQ : quasOK t [] Q = true) : GamOK (tabV V base t) (.tri l t T Q) :=
  ⟨hl, triD_ok hW (tabV_ok V h) hT hQ (dok_exact (tabV_std hV)), nm_tab V h⟩
end Go.Proofs.Ytainodgbcpkipaa.Ex
