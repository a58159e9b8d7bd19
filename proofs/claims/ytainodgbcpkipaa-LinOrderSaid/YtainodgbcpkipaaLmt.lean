/-
  Rows of which one is nothing cannot be parted; nor two that are one.
-/
import Derived.Test.YtainodgbcpkipaaLma
import Derived.Test.YtainodgbcpkipaaHi
import Derived.Test.YtainodgbcpkipaaGm
namespace Go.Proofs.Ytainodgbcpkipaa
open Ieee (double)

def one64 : Nat := 4607182418800017408
theorem V_one : V one64 = (unit : Int) := by decide +kernel
theorem V_mone : V 13830554455654793216 = -(unit : Int) := by decide +kernel
theorem V_nil : V 0 = 0 := by decide +kernel
/-- Below 2^64, no further from 0 than c. -/
def Bd (c x : Nat) : Prop := x < 18446744073709551616 ∧ x % p63 ≤ c
theorem Bd.mono {c d x : Nat} (h : Bd c x) (hc : c ≤ d) : Bd d x := ⟨h.1, Nat.le_trans h.2 hc⟩
theorem bd_key {x c : Nat} (h1 : x < 18446744073709551616) (h : -(c : Int) ≤ key x ∧ key x ≤ c) : Bd c x := by
  refine ⟨h1, ?_⟩
  rw [key_eq] at h
  unfold sgd at h
  split at h <;> omega
theorem V_abs (x : Nat) : -(U (x % p63) : Int) ≤ V x ∧ V x ≤ U (x % p63) ∧ (V x = U (x % p63) ∨ V x = -(U (x % p63) : Int)) := by
  unfold V sgd
  split <;> omega
theorem U_le {r s : Nat} (h : r ≤ s) : U r ≤ U s := by
  rcases Nat.lt_or_ge s r with g | g
  · omega
  · rcases Nat.eq_or_lt_of_le h with e | e
    · rw [e]; exact Nat.le_refl _
    · exact Nat.le_of_lt (U_mono e)
theorem bd_quo {x y : Nat} (hxy : x % p63 ≤ y % p63) (hy : y % p63 < infR) (h0 : y % p63 ≠ 0) : Bd one64 (cop .quo x y) := by
  have hk : key y ≠ 0 := by rw [key_eq]; unfold sgd; split <;> omega
  obtain ⟨-, h2, h3⟩ := quo_val (Nat.lt_of_le_of_lt hxy hy) hy hk
  have a1 := h3 one64 (by decide)
  have a2 := h3 13830554455654793216 (by decide)
  rw [V_one] at a1
  rw [V_mone] at a2
  have k1 : key one64 = 4607182418800017408 := by decide
  have k2 : key 13830554455654793216 = -4607182418800017408 := by decide
  rw [k1] at a1
  rw [k2] at a2
  have hU := U_le hxy
  obtain ⟨x1, x2, -⟩ := V_abs x
  obtain ⟨y1, y2, y3⟩ := V_abs y
  have hp := unit_pos
  have e1 : ∀ a b : Int, a ≤ b → (unit : Int) * a ≤ (unit : Int) * b := fun a b h => Int.mul_le_mul_of_nonneg_left h (by omega)
  have c1 : V x * (unit : Int) = (unit : Int) * V x := Int.mul_comm _ _
  refine bd_key h2 ?_
  show -(4607182418800017408 : Int) ≤ _ ∧ _ ≤ (4607182418800017408 : Int)
  rw [c1, Int.neg_mul] at a2
  rw [c1] at a1
  have yk := key_eq y
  rcases Int.lt_or_gt_of_ne hk with h | h
  · have hn : V y = -(U (y % p63) : Int) := by
      unfold V; rw [(neg_keys y).2 h]; rfl
    have b1 := e1 (V x) (-(V y)) (by omega)
    have b2 := e1 (V y) (V x) (by omega)
    rw [Int.mul_neg] at b1
    exact ⟨((a2.2 h).1 (by omega)), ((a1.2 h).2 (by omega))⟩
  · have hn : V y = (U (y % p63) : Int) := by
      unfold V; rw [(neg_keys y).1 h]; rfl
    have b1 := e1 (V x) (V y) (by omega)
    have b2 := e1 (-(V y)) (V x) (by omega)
    rw [Int.mul_neg] at b2
    exact ⟨((a2.1 h).1 (by omega)), ((a1.1 h).2 (by omega))⟩
theorem zero_quo {x y : Nat} (hx : x % p63 = 0) (hy : y % p63 < infR) (h0 : y % p63 ≠ 0) : Bd 0 (cop .quo x y) := by
  have hk : key y ≠ 0 := by rw [key_eq]; unfold sgd; split <;> omega
  obtain ⟨-, h2, h3⟩ := quo_val (x := x) (by rw [hx]; decide) hy hk
  have a1 := h3 0 (by decide)
  have k0 : key 0 = 0 := by decide
  have vx : V x = 0 := by unfold V; rw [hx, U_zero]; unfold sgd; split <;> rfl
  rw [V_nil, vx, k0, Int.zero_mul, Int.zero_mul] at a1
  refine bd_key h2 ?_
  rcases Int.lt_or_gt_of_ne hk with h | h
  · have := (a1.2 h).1 (Int.le_refl _); have := (a1.2 h).2 (Int.le_refl _); omega
  · have := (a1.1 h).1 (Int.le_refl _); have := (a1.1 h).2 (Int.le_refl _); omega
theorem RK_unit {x : Nat} (h : x % p63 ≤ infR) : RK (V x * (unit : Int)) (-2148) = key x := by
  have := RK_scale (V x) (-1074) low74
  have e2 : (-1074 : Int) - (low74 : Int) = -2148 := by decide
  rw [RK_V h, e2, ← unit_def] at this
  exact this
theorem cop_mul {x y : Nat} (hx : x % p63 < infR) (hy : y % p63 < infR) : ∃ r, cop .mul x y = r ∧ key r = RK (V x * V y) (-2148) ∧ isN r = false ∧ r < 18446744073709551616 := by
  have h := mul_fin hx hy
  obtain ⟨k1, k2, k3⟩ := mul_key hx hy h
  exact ⟨_, (cop_some (op := .mul) h).trans (canon_num k2), k1, k2, k3⟩
theorem cop_sub {x y : Nat} (hx : x % p63 < infR) (hy : y % p63 < infR) : ∃ r, cop .sub x y = r ∧ key r = RK (V x - V y) (-1074) ∧ isN r = false ∧ r < 18446744073709551616 := by
  have h := sub_fin hx hy
  obtain ⟨k1, k2, k3⟩ := sub_key hx hy h
  exact ⟨_, (cop_some (op := .sub) h).trans (canon_num k2), k1, k2, k3⟩
theorem U_one : U one64 = unit := by decide +kernel
theorem one_fin : one64 < infR := by decide
theorem bd_mul {q y c : Nat} (hq : q % p63 ≤ one64) (hy : y % p63 ≤ c) (hc : c < infR) : Bd c (cop .mul q y) := by
  obtain ⟨r, hr, h1, -, h3⟩ := cop_mul (Nat.lt_of_le_of_lt hq one_fin) (Nat.lt_of_le_of_lt hy hc)
  rw [hr]
  refine bd_key h3 ?_
  have hyi : y % p63 ≤ infR := Nat.le_of_lt (Nat.lt_of_le_of_lt hy hc)
  have hu := RK_unit hyi
  have hU : U (q % p63) ≤ unit := Nat.le_trans (U_le hq) (Nat.le_of_eq U_one)
  obtain ⟨q1, q2, -⟩ := V_abs q
  obtain ⟨y1, y2, y3⟩ := V_abs y
  have hk : key y = (y % p63 : Nat) ∧ V y = (U (y % p63) : Int) ∨ key y = -((y % p63 : Nat) : Int) ∧ V y = -(U (y % p63) : Int) := by
    rw [key_eq]
    unfold V sgd
    cases neg y
    · exact .inl ⟨rfl, rfl⟩
    · exact .inr ⟨rfl, rfl⟩
  rw [h1]
  generalize unit = P at *
  generalize V q = Q at *
  generalize V y = Y at *
  generalize U (q % p63) = uq at *
  generalize U (y % p63) = u at *
  generalize y % p63 = ry at *
  generalize key y = ky at *
  clear h1 hr h3 hq hyi
  have m1 : Q * (u : Int) ≤ (P : Int) * (u : Int) := Int.mul_le_mul_of_nonneg_right (by omega) (by omega)
  have m2 : -(P : Int) * (u : Int) ≤ Q * (u : Int) := Int.mul_le_mul_of_nonneg_right (by omega) (by omega)
  rw [Int.neg_mul, Int.mul_comm (P : Int)] at m2
  rw [Int.mul_comm (P : Int)] at m1
  rcases hk with ⟨e1, e2⟩ | ⟨e1, e2⟩
  · subst e2
    have r1 := RK_mono (-2148) m2
    have r2 := RK_mono (-2148) m1
    rw [RK_neg, hu] at r1
    rw [hu] at r2
    omega
  · subst e2
    rw [Int.neg_mul, RK_neg] at hu
    rw [Int.mul_neg, RK_neg]
    have r1 := RK_mono (-2148) m2
    have r2 := RK_mono (-2148) m1
    rw [RK_neg] at r1
    omega
theorem bd_sub {a b c d : Nat} (ha : a % p63 ≤ c) (hb : b % p63 ≤ c) (hd : d < infR) (hcd : U d = 2 * U c) (hc : c < infR) : Bd d (cop .sub a b) := by
  obtain ⟨r, hr, h1, -, h3⟩ := cop_sub (Nat.lt_of_le_of_lt ha hc) (Nat.lt_of_le_of_lt hb hc)
  rw [hr]
  refine bd_key h3 ?_
  have hp : p63 = 9223372036854775808 := rfl
  have hi : infR = 9218868437227405312 := rfl
  have hdm : d % p63 = d := Nat.mod_eq_of_lt (by omega)
  have hn : neg d = false := by unfold neg; rw [Nat.div_eq_of_lt (by omega)]; rfl
  have kd : key d = d := by rw [key_eq, hn, hdm]; rfl
  have vd : V d = U d := by unfold V; rw [hn, hdm]; rfl
  have rk := RK_V (x := d) (by omega)
  rw [kd] at rk
  have u1 := U_le ha
  have u2 := U_le hb
  obtain ⟨a1, a2, -⟩ := V_abs a
  obtain ⟨b1, b2, -⟩ := V_abs b
  have r1 := RK_mono (s := -(V d)) (t := V a - V b) (-1074) (by omega)
  have r2 := RK_mono (s := V a - V b) (t := V d) (-1074) (by omega)
  rw [RK_neg, rk] at r1
  rw [rk] at r2
  rw [h1]
  exact ⟨r1, r2⟩
theorem V_zero {x : Nat} (h : x % p63 = 0) : V x = 0 := by unfold V; rw [h, U_zero]; unfold sgd; split <;> rfl
theorem RK_nil (p : Int) : RK 0 p = 0 := by unfold RK; rw [show (0 : Int).natAbs = 0 from rfl, rungOf_zero]; rfl
theorem zero_mul {q y : Nat} (hq : q % p63 = 0) (hy : y % p63 < infR) : Bd 0 (cop .mul q y) := by
  obtain ⟨r, hr, h1, -, h3⟩ := cop_mul (by rw [hq]; decide) hy
  rw [hr]
  refine bd_key h3 ?_
  rw [V_zero hq, Int.zero_mul, RK_nil] at h1
  omega
theorem zero_sub {a b : Nat} (ha : a % p63 = 0) (hb : b % p63 = 0) : Bd 0 (cop .sub a b) := by
  obtain ⟨r, hr, h1, -, h3⟩ := cop_sub (by rw [ha]; decide) (by rw [hb]; decide)
  rw [hr]
  refine bd_key h3 ?_
  rw [V_zero ha, V_zero hb, Int.sub_self, RK_nil] at h1
  omega
theorem ltB_abs {x y : Nat} (hx : x % p63 ≤ infR) (hy : y % p63 ≤ infR) : ltB (ab x) (ab y) = decide (x % p63 < y % p63) := by
  have hp : p63 = 9223372036854775808 := rfl
  have k : ∀ z, key (z % p63) = (z % p63 : Nat) := fun z => by
    have h : z % p63 < p63 := Nat.mod_lt _ (by decide)
    rw [key_eq, show neg (z % p63) = false by unfold neg; rw [Nat.div_eq_of_lt h]; rfl, Nat.mod_mod]
    rfl
  unfold ltB ab
  rw [k, k, isN_of_le (by rw [Nat.mod_mod]; exact hx), isN_of_le (by rw [Nat.mod_mod]; exact hy)]
  show (true && true && decide _) = _
  rw [Bool.and_self, Bool.true_and, decide_eq_decide]
  exact Int.ofNat_lt
theorem pivF_max {g : Nat → Nat → Nat} {k : Nat} : ∀ {m : Nat}, (∀ i, k ≤ i → i ≤ k + m → g i k % p63 ≤ infR) → ∀ i, k ≤ i → i ≤ k + m → g i k % p63 ≤ g (pivF g k m) k % p63
  | 0, _, i, h1, h2 => by obtain rfl : i = k := by omega
                          exact Nat.le_refl _
  | m + 1, hN, i, h1, h2 => by
    have ih := pivF_max (m := m) (fun i a b => hN i a (by omega))
    have hp := pivF_le g k m
    rw [pivF, ltB_abs (hN _ hp.1 (by omega)) (hN _ (by omega) (by omega))]
    by_cases h : g (pivF g k m) k % p63 < g (k + 1 + m) k % p63
    · rw [decide_eq_true h, if_pos rfl]
      by_cases e : i = k + 1 + m
      · subst e; exact Nat.le_refl _
      · exact Nat.le_of_lt (Nat.lt_of_le_of_lt (ih i h1 (by omega)) h)
    · rw [decide_eq_false h, if_neg (by decide)]
      by_cases e : i = k + 1 + m
      · subst e; omega
      · exact ih i h1 (by omega)
/-- 4 times a power of two. -/
def PB (k : Nat) : Nat := 4616189618054758400 + k * 4503599627370496
theorem PB_fin {k : Nat} (h : k ≤ 10) : PB k < infR := by unfold PB infR; omega
theorem PB_two : ∀ k : Fin 10, U (PB (k.val + 1)) = 2 * U (PB k.val) := by decide +kernel
theorem dvB_spec {c : Nat} (h : dvB c = true) : c % p63 < infR ∧ c % p63 ≠ 0 := by
  unfold dvB at h
  simp only [Bool.and_eq_true, Bool.not_eq_true'] at h
  have h2 : c % p63 < infR := by have := h.2; unfold finB at this; simpa using this
  refine ⟨h2, fun e => ?_⟩
  have h1 := h.1
  unfold eqB at h1
  rw [isN_of_le (Nat.le_of_lt h2), key_eq c, e] at h1
  revert h1
  unfold sgd
  cases neg c <;> decide
/-- What a step keeps: all are no greater than that; a row is nothing. -/
theorem step_zero {g : Nat → Nat → Nat} {n k r : Nat} (hn : n ≤ 8) (hk : k < n) (hb : ∀ i j, i < n → j < n → Bd (PB k) (g i j)) (hr : k ≤ r) (hrn : r < n) (hz : ∀ c, c < n → g r c % p63 = 0) (hd : dvB (g (pivF g k (n - 1 - k)) k) = true) :
    (∀ i j, i < n → j < n → Bd (PB (k + 1)) (clF (swp g (pivF g k (n - 1 - k)) k) k n n i j)) ∧ ∃ r', k + 1 ≤ r' ∧ r' < n ∧ ∀ c, c < n → clF (swp g (pivF g k (n - 1 - k)) k) k n n r' c % p63 = 0 := by
  obtain ⟨d1, d2⟩ := dvB_spec hd
  have hp := pivF_le g k (n - 1 - k)
  have hmax := pivF_max (g := g) (k := k) (m := n - 1 - k) (fun i _ h2 => Nat.le_of_lt (Nat.lt_of_le_of_lt (hb i k (by omega) hk).2 (PB_fin (by omega))))
  generalize pivF g k (n - 1 - k) = p at *
  have hpn : p < n := by omega
  have hrp : r ≠ p := fun e => d2 (e ▸ hz k hk)
  have hsw : ∀ i, i < n → ∃ i', i' < n ∧ swp g p k i = g i' := fun i hi => ⟨_, sg_lt hpn hk hi, swp_sg g p k i⟩
  have hsk : swp g p k k = g p := swp_at2 _ _ _
  have hge : ∀ i, k ≤ i → i < n → ∃ i', k ≤ i' ∧ i' < n ∧ swp g p k i = g i' := fun i h1 h2 => ⟨sg p k i, by unfold sg; split <;> (try split) <;> omega, sg_lt hpn hk h2, swp_sg g p k i⟩
  have hP : PB k ≤ PB (k + 1) := by unfold PB; omega
  have hPo : one64 ≤ PB (k + 1) := by unfold PB one64; omega
  have two := PB_two ⟨k, by omega⟩
  have q : ∀ i, k ≤ i → i < n → Bd one64 (cop .quo (swp g p k i k) (swp g p k k k)) := fun i h1 h2 => by
    obtain ⟨i', g1, g2, g3⟩ := hge i h1 h2
    rw [g3, hsk]
    exact bd_quo (hmax i' g1 (by omega)) d1 d2
  refine ⟨fun i j hi hj => ?_, ?_⟩
  · unfold clF
    obtain ⟨i', g2, g3⟩ := hsw i hi
    by_cases h : k < i ∧ i < n
    · rw [if_pos h]
      unfold clR
      by_cases e : j = k
      · rw [if_pos e]; exact (q i (by omega) hi).mono hPo
      · rw [if_neg e]
        by_cases e2 : k < j ∧ j < n
        · rw [if_pos e2]
          refine bd_sub (c := PB k) ?_ (bd_mul (q i (by omega) hi).2 ?_ (PB_fin (by omega))).2 (PB_fin (by omega)) two (PB_fin (by omega))
          · rw [g3]; exact (hb _ _ g2 hj).2
          · rw [hsk]; exact (hb _ _ hpn hj).2
        · rw [if_neg e2, g3]; exact (hb _ _ g2 hj).mono hP
    · rw [if_neg h, g3]; exact (hb _ _ g2 hj).mono hP
  · obtain ⟨r', h1, h2, h3⟩ : ∃ r', k + 1 ≤ r' ∧ r' < n ∧ swp g p k r' = g r := by
      by_cases e : r = k
      · subst e
        exact ⟨p, by omega, hpn, swp_at1 _ _ _⟩
      · exact ⟨r, by omega, hrn, swp_ne _ hrp e⟩
    refine ⟨r', h1, h2, fun c hc => ?_⟩
    unfold clF
    rw [if_pos ⟨by omega, h2⟩]
    unfold clR
    have z : ∀ c, c < n → swp g p k r' c % p63 = 0 := fun c hc => by rw [h3]; exact hz c hc
    have zq : Bd 0 (cop .quo (swp g p k r' k) (swp g p k k k)) := by rw [hsk]; exact zero_quo (z k hk) d1 d2
    by_cases e : c = k
    · rw [if_pos e]; have := zq.2; omega
    · rw [if_neg e]
      by_cases e2 : k < c ∧ c < n
      · rw [if_pos e2]
        have m := zero_mul (q := cop .quo (swp g p k r' k) (swp g p k k k)) (y := swp g p k k c) (by have := zq.2; omega) (by rw [hsk]; exact Nat.lt_of_le_of_lt (hb _ _ hpn hc).2 (PB_fin (by omega)))
        have := (zero_sub (z c hc) (b := cop .mul (cop .quo (swp g p k r' k) (swp g p k k k)) (swp g p k k c)) (by have := m.2; omega)).2
        omega
      · rw [if_neg e2]; exact z c hc
theorem partF_zero {f : Nat → Nat → Nat} {n r : Nat} (hn : n ≤ 8) (hb : ∀ i j, i < n → j < n → Bd (PB 0) (f i j)) (hr : r < n) (hz : ∀ c, c < n → f r c % p63 = 0) : partF f n n = none := by
  have key : ∀ k, k ≤ n → ∀ g q, partF f n k = some (g, q) → (∀ i j, i < n → j < n → Bd (PB k) (g i j)) ∧ ∃ r, k ≤ r ∧ r < n ∧ ∀ c, c < n → g r c % p63 = 0 := by
    intro k
    induction k with
    | zero =>
      intro _ g q h
      simp only [partF, Option.some.injEq, Prod.mk.injEq] at h
      obtain ⟨rfl, -⟩ := h
      exact ⟨hb, r, by omega, hr, hz⟩
    | succ k ih =>
      intro hk g q h
      rw [partF] at h
      cases hp : partF f n k with
      | none => rw [hp] at h; cases h
      | some gq =>
        obtain ⟨g0, q0⟩ := gq
        rw [hp] at h
        simp only [] at h
        by_cases hd : dvB (g0 (pivF g0 k (n - 1 - k)) k) = true
        · rw [if_pos hd] at h
          simp only [Option.some.injEq, Prod.mk.injEq] at h
          obtain ⟨rfl, -⟩ := h
          obtain ⟨h1, r0, h2, h3, h4⟩ := ih (by omega) g0 q0 hp
          exact step_zero hn (by omega) h1 h2 h3 h4 hd
        · rw [if_neg hd] at h; cases h
  cases hp : partF f n n with
  | none => rfl
  | some gq =>
    obtain ⟨-, r0, h2, h3, -⟩ := key n (Nat.le_refl _) gq.1 gq.2 hp
    omega
theorem c4_bd {x : Int} (h1 : -16 ≤ x) (h2 : x ≤ 16) : Bd (PB 0) (c4 x) := by
  have h : ∀ i : Fin 33, c4 ((i.val : Int) - 16) % p63 ≤ 4616189618054758400 := by decide +kernel
  have := h ⟨(x + 16).toNat, by omega⟩
  have e : (((x + 16).toNat : Nat) : Int) - 16 = x := by omega
  simp only [e] at this
  exact ⟨cop_lt _ _ _, by unfold PB; omega⟩
theorem c4_self : ∀ i : Fin 33, (c4 ((i.val : Int) - 16) % p63 = 0 ∨ cop .quo (c4 ((i.val : Int) - 16)) (c4 ((i.val : Int) - 16)) = one64) ∧ cop .mul one64 (c4 ((i.val : Int) - 16)) = c4 ((i.val : Int) - 16) ∧ eqB (cop .sub (c4 ((i.val : Int) - 16)) (c4 ((i.val : Int) - 16))) 0 = true := by decide +kernel
theorem partF_twice {f : Nat → Nat → Nat} (x y : Int) (hx1 : -16 ≤ x) (hx2 : x ≤ 16) (hy1 : -16 ≤ y) (hy2 : y ≤ 16) (h00 : f 0 0 = c4 x) (h01 : f 0 1 = c4 y) (h10 : f 1 0 = c4 x) (h11 : f 1 1 = c4 y) : partF f 2 2 = none := by
  have sx := c4_self ⟨(x + 16).toNat, by omega⟩
  have sy := c4_self ⟨(y + 16).toNat, by omega⟩
  have ex : (((x + 16).toNat : Nat) : Int) - 16 = x := by omega
  have ey : (((y + 16).toNat : Nat) : Int) - 16 = y := by omega
  simp only [ex] at sx
  simp only [ey] at sy
  have hp : pivF f 0 1 = 0 := by
    have hN : c4 x % p63 ≤ infR := Nat.le_of_lt (Nat.lt_of_le_of_lt (c4_bd hx1 hx2).2 (PB_fin (by omega)))
    show (if ltB (ab (f 0 0)) (ab (f 1 0)) then 1 else 0) = 0
    rw [h00, h10, ltB_abs hN hN, decide_eq_false (Nat.lt_irrefl _)]
    rfl
  have h1 : partF f 2 1 = if dvB (f 0 0) then some (clF (swp f 0 0) 0 2 2, swp (fun i => i) 0 0) else none := by
    show (if dvB (f (pivF f 0 1) 0) then some (clF (swp f (pivF f 0 1) 0) 0 2 2, swp (fun i => i) (pivF f 0 1) 0) else none) = _
    rw [hp]
  have hs : swp f 0 0 = f := by
    funext i
    rw [swp_sg]; unfold sg
    by_cases e : i = 0
    · rw [if_pos e, e]
    · rw [if_neg e, if_neg e]
  rw [partF, h1, hs]
  by_cases hd : dvB (f 0 0) = true
  · rw [if_pos hd]
    simp only []
    have hp1 : pivF (clF f 0 2 2) 1 (2 - 1 - 1) = 1 := rfl
    rw [hp1]
    have hnz := (dvB_spec hd).2
    rw [h00] at hnz
    have hq := sx.1.resolve_left hnz
    have hv : clF f 0 2 2 1 1 = cop .sub (c4 y) (c4 y) := by
      show cop .sub (f 1 1) (cop .mul (cop .quo (f 1 0) (f 0 0)) (f 0 1)) = _
      rw [h11, h10, h00, h01, hq, sy.2.1]
    have hdv : dvB (clF f 0 2 2 1 1) = false := by
      unfold dvB
      rw [hv, sy.2.2]
      rfl
    rw [if_neg (by rw [hdv]; decide)]
  · rw [if_neg hd]
end Go.Proofs.Ytainodgbcpkipaa
