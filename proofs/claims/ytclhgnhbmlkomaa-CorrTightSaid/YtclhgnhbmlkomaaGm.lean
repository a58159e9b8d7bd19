/-
  Quotients of floats: to which rung they are rounded, beside any rung that they are held against. No condition but those in the statements.
  Products and sums rounded once, with their signs turned; scaling and the next numbers, with signs turned. No condition but those in the statements.
-/
import Derived.Test.YtclhgnhbmlkomaaGc
import Derived.Test.YtclhgnhbmlkomaaGb
namespace Go.Proofs.Ytclhgnhbmlkomaa
open Ieee (double)

theorem U_form (r s : Nat) : (∃ k, U r = 2 ^ (s + 1) * k) ∨ U r < 2 ^ (53 + s) := by
  unfold U
  by_cases h : r < p52
  · rw [if_pos h]
    right
    have a : 2 ^ 53 ≤ 2 ^ (53 + s) := Nat.pow_le_pow_right (by decide) (by omega)
    have b : p52 < 2 ^ 53 := by decide
    omega
  · rw [if_neg h]
    by_cases g : s + 1 ≤ r / p52 - 1
    · left
      refine ⟨(p52 + r % p52) * 2 ^ (r / p52 - 1 - (s + 1)), ?_⟩
      rw [Nat.mul_comm (2 ^ (s + 1)), Nat.mul_assoc, ← Nat.pow_add]
      congr 2
      omega
    · right
      have a : 2 ^ (r / p52 - 1) ≤ 2 ^ s := Nat.pow_le_pow_right (by decide) (by omega)
      have b : p52 + r % p52 < 2 ^ 53 := by
        have := Nat.mod_lt r (show 0 < p52 by decide)
        have : p52 + p52 = 2 ^ 53 := by decide
        omega
      rw [Nat.pow_add]
      exact Nat.mul_lt_mul_of_lt_of_le b a (Nat.two_pow_pos _)

/-- The digits of a quotient beside what it is held against. -/
theorem quo_core {D n R s : Nat} (hn : 0 < n) (hD : n * 2 ^ 53 ≤ D) (hR : (∃ k, R = 2 ^ (s + 1) * k) ∨ R < 2 ^ (53 + s)) :
    (R * n ≤ 2 * D * 2 ^ s → R ≤ (2 * (D / n) + (D % n != 0).toNat) * 2 ^ s) ∧ (2 * D * 2 ^ s ≤ R * n → (2 * (D / n) + (D % n != 0).toNat) * 2 ^ s ≤ R) := by
  have hp : 0 < 2 ^ s := Nat.two_pow_pos _
  have hdm := Nat.div_add_mod D n
  have hml := Nat.mod_lt D hn
  have hq : 2 ^ 53 ≤ D / n := (Nat.le_div_iff_mul_le hn).2 (by rw [Nat.mul_comm]; exact hD)
  rcases hR with ⟨k, rfl⟩ | hlt
  · have e : 2 ^ (s + 1) * k * n = 2 * (k * n) * 2 ^ s := by rw [Nat.pow_succ]; ac_rfl
    have e2 : 2 ^ (s + 1) * k = 2 * k * 2 ^ s := by rw [Nat.pow_succ]; ac_rfl
    rw [e, e2]
    constructor
    · intro h
      have h := Nat.le_of_mul_le_mul_right h hp
      have : k ≤ D / n := (Nat.le_div_iff_mul_le hn).2 (by omega)
      exact Nat.mul_le_mul_right _ (by omega)
    · intro h
      have h := Nat.le_of_mul_le_mul_right h hp
      refine Nat.mul_le_mul_right _ ?_
      have h1 : D / n ≤ k := by
        have := Nat.div_le_div_right (c := n) (show D ≤ k * n by omega)
        rwa [Nat.mul_div_cancel _ hn] at this
      by_cases h2 : D / n = k
      · have h3 : D % n = 0 := by
          have : n * (D / n) = k * n := by rw [h2, Nat.mul_comm]
          omega
        rw [h3, h2]; simp
      · have : (D % n != 0).toNat ≤ 1 := by cases (D % n != 0) <;> decide
        omega
  · have hz : 2 ^ (53 + s) < (2 * (D / n) + (D % n != 0).toNat) * 2 ^ s := by
      rw [Nat.pow_add]
      exact Nat.mul_lt_mul_of_pos_right (by omega) hp
    constructor
    · intro _; omega
    · intro h
      exfalso
      have a : R * n < 2 ^ (53 + s) * n := Nat.mul_lt_mul_of_pos_right hlt hn
      have b : 2 * (n * 2 ^ 53) * 2 ^ s ≤ 2 * D * 2 ^ s := Nat.mul_le_mul_right _ (by omega)
      have c : 2 * (n * 2 ^ 53) * 2 ^ s = 2 * (2 ^ (53 + s) * n) := by rw [Nat.pow_add]; ac_rfl
      omega

theorem place_low {i j : Int} {more c I J : Nat} (hi : -1074 ≤ i) (hj : -1074 ≤ j) (hI : (i + 1074).toNat = I) (hJ : (j + 1074).toNat = J) (hc : i - j - (more : Int) - 1 = -1074 - (c : Int)) : I + low74 + c = more + 1 + J := by
  have hl : low74 = 1074 := rfl
  omega
theorem place_high {i j : Int} {more c I J : Nat} (hi : -1074 ≤ i) (hj : -1074 ≤ j) (hI : (i + 1074).toNat = I) (hJ : (j + 1074).toNat = J) (hc : i - j - (more : Int) - 1 = -1074 + (c : Int)) : I + low74 = more + 1 + c + J := by
  have hl : low74 = 1074 := rfl
  omega
/-- The rung of a quotient. -/
theorem quo_rung {x y : Nat} (hx : x % p63 < infR) (hy : y % p63 < infR) (h0 : y % p63 ≠ 0) :
    ∃ q, q ≤ infR ∧ double.div x y = some (double.word (neg x ^^ neg y) q) ∧ ∀ r, r ≤ infR → (U r * U (y % p63) ≤ U (x % p63) * unit → r ≤ q) ∧ (U (x % p63) * unit ≤ U r * U (y % p63) → q ≤ r) := by
  obtain ⟨m, i, e1, hi, e2⟩ := read_fin hx
  obtain ⟨n, j, e3, hj, e4⟩ := read_fin hy
  have hUy : U (y % p63) ≠ 0 := fun e => h0 (U_inj (e.trans U_zero.symm))
  have hn0 : n ≠ 0 := by rintro rfl; rw [Nat.zero_mul] at e4; omega
  have hn : 0 < n := by omega
  unfold Ieee.Format.div
  rw [e1, e3]
  have hdig : double.fractionBits + 2 = 54 := by decide
  simp only [Ieee.Datum.quotient, hdig, if_neg hn0, Nat.shiftLeft_eq, Option.map_some, Ieee.Format.write, nearest_eq]
  generalize hmore : 54 + n.log2 - m.log2 = more
  refine ⟨_, rungOf_le_inf _ _, rfl, fun r hr => ?_⟩
  by_cases hm0 : m = 0
  · subst hm0
    rw [Nat.zero_mul] at e2
    rw [← e2]
    simp only [Nat.zero_mul, Nat.zero_div, Nat.mul_zero, Nat.zero_mod, bne_self_eq_false, Bool.toNat_false, Nat.add_zero, rungOf_zero]
    refine ⟨fun h => ?_, fun _ => Nat.zero_le _⟩
    have h : U r * U (y % p63) = 0 := by omega
    rcases Nat.mul_eq_zero.1 h with h | h
    · have := U_inj (h.trans U_zero.symm); omega
    · exact absurd h hUy
  · have hD : n * 2 ^ 53 ≤ m * 2 ^ more := by
      have a := pow_log_le hm0
      have b := lt_pow_log n
      have c : 2 ^ (m.log2 + more) ≤ m * 2 ^ more := by rw [Nat.pow_add]; exact Nat.mul_le_mul_right _ a
      have d : n * 2 ^ 53 ≤ 2 ^ (n.log2 + 1) * 2 ^ 53 := Nat.mul_le_mul_right _ (Nat.le_of_lt b)
      rw [← Nat.pow_add] at d
      have e : 2 ^ (n.log2 + 1 + 53) ≤ 2 ^ (m.log2 + more) := Nat.pow_le_pow_right (by decide) (by omega)
      omega
    rw [← e2, ← e4]
    obtain ⟨I, hI⟩ : ∃ I, (i + 1074).toNat = I := ⟨_, rfl⟩
    obtain ⟨J, hJ⟩ : ∃ J, (j + 1074).toNat = J := ⟨_, rfl⟩
    rw [hI, hJ]
    have hmul : ∀ {a b p : Nat}, a * 2 ^ p ≤ b * 2 ^ p ↔ a ≤ b := fun {a b p} => ⟨fun h => Nat.le_of_mul_le_mul_right h (Nat.two_pow_pos p), fun h => Nat.mul_le_mul_right _ h⟩
    by_cases he : i - j - (more : Int) - 1 ≤ -1074
    · -- the place is low: scale the rung
      obtain ⟨c, hc⟩ : ∃ c : Nat, i - j - (more : Int) - 1 = -1074 - (c : Int) := ⟨(-1074 - (i - j - (more : Int) - 1)).toNat, by omega⟩
      rw [hc]
      have hself : rungOf (U r * 2 ^ c) (-1074 - (c : Int)) = r := by rw [rungOf_scale, rungOf_U hr]
      have hform : (∃ k, U r * 2 ^ c = 2 ^ (0 + 1) * k) ∨ U r * 2 ^ c < 2 ^ (53 + 0) := by
        by_cases hc0 : c = 0
        · subst hc0; rw [Nat.pow_zero, Nat.mul_one]; exact U_form r 0
        · left; exact ⟨U r * 2 ^ (c - 1), by obtain ⟨c', rfl⟩ : ∃ c', c = c' + 1 := ⟨c - 1, by omega⟩; rw [Nat.add_sub_cancel, Nat.pow_add 2 c' 1, show (2 : Nat) ^ (0 + 1) = 2 ^ 1 from rfl]; ac_rfl⟩
      obtain ⟨k1, k2⟩ := quo_core (s := 0) hn hD hform
      rw [Nat.pow_zero, Nat.mul_one] at k1 k2
      have g1 : U r * (n * 2 ^ J) * 2 ^ c = U r * 2 ^ c * n * 2 ^ J := by ac_rfl
      have g2 : m * 2 ^ I * unit * 2 ^ c = 2 * (m * 2 ^ more) * 2 ^ J := by
        have q : 2 ^ I * unit * 2 ^ c = 2 * 2 ^ more * 2 ^ J := by
          rw [unit_def, ← Nat.pow_add, ← Nat.pow_add, ← Nat.pow_succ', ← Nat.pow_add]
          rw [place_low hi hj hI hJ hc]
        rw [show m * 2 ^ I * unit * 2 ^ c = m * (2 ^ I * unit * 2 ^ c) by simp only [Nat.mul_assoc], q]
        ac_rfl
      rw [Nat.mul_one] at k1 k2
      constructor
      · intro h
        have h := Nat.mul_le_mul_right (2 ^ c) h
        rw [g1, g2, hmul] at h
        have := rungOf_mono (-1074 - (c : Int)) (k1 h)
        rwa [hself] at this
      · intro h
        have h := Nat.mul_le_mul_right (2 ^ c) h
        rw [g1, g2, hmul] at h
        have := rungOf_mono (-1074 - (c : Int)) (k2 h)
        rwa [hself] at this
    · obtain ⟨c, hc⟩ : ∃ c : Nat, i - j - (more : Int) - 1 = -1074 + (c : Int) := ⟨(i - j - (more : Int) - 1 + 1074).toNat, by omega⟩
      rw [hc]
      obtain ⟨k1, k2⟩ := quo_core (s := c) hn hD (U_form r c)
      have g1 : U r * (n * 2 ^ J) = U r * n * 2 ^ J := by ac_rfl
      have g2 : m * 2 ^ I * unit = 2 * (m * 2 ^ more) * 2 ^ c * 2 ^ J := by
        have q : 2 ^ I * unit = 2 * 2 ^ more * 2 ^ c * 2 ^ J := by
          rw [unit_def, ← Nat.pow_add, ← Nat.pow_succ', ← Nat.pow_add, ← Nat.pow_add]
          rw [place_high hi hj hI hJ hc]
        rw [Nat.mul_assoc, q]
        ac_rfl
      have hsc := fun z => rungOf_scale z (-1074 + (c : Int)) c
      rw [show -1074 + (c : Int) - c = -1074 by omega] at hsc
      rw [← hsc]
      constructor
      · intro h
        rw [g1, g2, hmul] at h
        exact le_rungOf hr (k1 h)
      · intro h
        rw [g1, g2, hmul] at h
        exact rungOf_le hr (k2 h)

/-- Quotients of floats that are finite, by one that is not 0, beside any float. -/
theorem quo_val {x y : Nat} (hx : x % p63 < infR) (hy : y % p63 < infR) (h0 : key y ≠ 0) : isN (cop .quo x y) = false ∧ cop .quo x y < 18446744073709551616 ∧
    ∀ z, isN z = false → (0 < key y → (V z * V y ≤ V x * unit → key z ≤ key (cop .quo x y)) ∧ (V x * unit ≤ V z * V y → key (cop .quo x y) ≤ key z)) ∧
      (key y < 0 → (V x * unit ≤ V z * V y → key z ≤ key (cop .quo x y)) ∧ (V z * V y ≤ V x * unit → key (cop .quo x y) ≤ key z)) := by
  have hy0 : y % p63 ≠ 0 := by intro h; apply h0; rw [key_eq, h]; unfold sgd; split <;> rfl
  obtain ⟨q, hq, e, h⟩ := quo_rung hx hy hy0
  have hc : cop .quo x y = double.word (neg x ^^ neg y) q := by
    have : floatBits .quo .f64 x y = some (double.word (neg x ^^ neg y) q) := e
    unfold cop; rw [this]; exact canon_num (word_isN _ hq)
  refine ⟨by rw [hc]; exact word_isN _ hq, by rw [hc]; exact word_lt _ hq, fun z hz => ?_⟩
  rw [hc, word_key _ hq]
  have hr := isN_false hz
  have hz1 := h (z % p63) hr
  have hz0 := h 0 (Nat.zero_le _)
  rw [U_zero, Nat.zero_mul] at hz0
  have hU : ∀ r, (U r = 0 ↔ r = 0) := fun r => ⟨fun e => U_inj (e.trans U_zero.symm), fun e => by rw [e]; exact U_zero⟩
  have hUx := hU (x % p63)
  have hUz := hU (z % p63)
  rw [key_eq y, key_eq z]
  unfold V sgd
  have hUy : 0 < U (y % p63) := by have := hU (y % p63); omega
  generalize hX : U (x % p63) = X at *
  generalize hY : U (y % p63) = Y at *
  generalize hZ : U (z % p63) = Z at *
  generalize x % p63 = rx at *
  generalize y % p63 = ry at *
  generalize z % p63 = rz at *
  have hP : 0 < unit := unit_pos
  generalize unit = P at *
  have c1 : ((X : Int) * (P : Int)) = ((X * P : Nat) : Int) := by rw [Int.natCast_mul]
  have c2 : ((Z : Int) * (Y : Int)) = ((Z * Y : Nat) : Int) := by rw [Int.natCast_mul]
  have hXP : X * P = 0 ↔ X = 0 := by rw [Nat.mul_eq_zero]; omega
  have hZY : Z * Y = 0 ↔ Z = 0 := by rw [Nat.mul_eq_zero]; omega
  cases hsx : neg x <;> cases hsy : neg y <;> cases hsz : neg z <;> simp only [Bool.false_eq_true, if_false, if_true, Bool.xor_false, Bool.xor_true, Bool.not_false, Int.neg_mul, Int.mul_neg, c1, c2, bne_self_eq_false] <;> refine ⟨fun hk => ⟨fun hh => ?_, fun hh => ?_⟩, fun hk => ⟨fun hh => ?_, fun hh => ?_⟩⟩ <;> omega
end Go.Proofs.Ytclhgnhbmlkomaa

namespace Go.Proofs.Ytclhgnhbmlkomaa
open Ieee (double)

/-- The digits of a quotient, and one more, where anything is left over. -/
def st (D n : Nat) : Nat := 2 * (D / n) + (D % n != 0).toNat
theorem b01 (x : Nat) : (x != 0).toNat = if x = 0 then 0 else 1 := by
  by_cases h : x = 0 <;> simp [h]
theorem st_bit {D n : Nat} : (D % n != 0).toNat = if D % n = 0 then 0 else 1 := by
  by_cases h : D % n = 0 <;> simp [h]
theorem st_scale (D n : Nat) {c : Nat} (hc : 0 < c) : st (D * c) (n * c) = st D n := by
  unfold st
  rw [Nat.mul_div_mul_right _ _ hc, Nat.mul_mod_mul_right]
  rw [b01, b01]
  by_cases h : D % n = 0
  · rw [h, Nat.zero_mul]
  · rw [if_neg h, if_neg (Nat.mul_ne_zero h (by omega))]
theorem st_mono {D n D' n' : Nat} (hn : 0 < n) (hn' : 0 < n') (h : D * n' ≤ D' * n) : st D n ≤ st D' n' := by
  have d1 := Nat.div_add_mod D n
  have d2 := Nat.div_add_mod D' n'
  have hle : D / n ≤ D' / n' := by
    rw [Nat.le_div_iff_mul_le hn']
    have a : n * (D / n) * n' ≤ D * n' := Nat.mul_le_mul_right _ (by omega)
    have b : D / n * n' * n = n * (D / n) * n' := by ac_rfl
    exact Nat.le_of_mul_le_mul_right (show D / n * n' * n ≤ D' * n by omega) hn
  unfold st
  rw [st_bit, st_bit]
  by_cases he : D / n = D' / n'
  · by_cases h2 : D' % n' = 0
    · have e2 : D' = n' * (D / n) := by rw [he]; omega
      have : D * n' ≤ n * (D / n) * n' := by
        have : n' * (D / n) * n = n * (D / n) * n' := by ac_rfl
        rw [e2] at h; omega
      have := Nat.le_of_mul_le_mul_right this hn'
      have h1 : D % n = 0 := by omega
      rw [if_pos h1]; omega
    · rw [if_neg h2]; split <;> omega
  · split <;> split <;> omega

theorem low_sticky {f t t' j : Nat} (c : Nat) (hf : 2 ^ 53 ≤ f) (ht : t < 2 ^ (j + 1)) (ht' : t' < 2 ^ (j + 1)) (h : t = 0 ↔ t' = 0) : low c (f * 2 ^ (j + 1) + t) = low c (f * 2 ^ (j + 1) + t') := by
  have hf0 : f ≠ 0 := by have := Nat.two_pow_pos 53; omega
  have hlog : ∀ {t}, t < 2 ^ (j + 1) → (f * 2 ^ (j + 1) + t).log2 = f.log2 + (j + 1) := by
    intro t ht
    have hp := Nat.two_pow_pos (j + 1)
    have h1 : 1 * 2 ^ (j + 1) ≤ f * 2 ^ (j + 1) := Nat.mul_le_mul_right _ (by omega)
    rw [Nat.log2_eq_iff (by omega)]
    have a := pow_log_le hf0
    have b := lt_pow_log f
    have a' := Nat.mul_le_mul_right (2 ^ (j + 1)) a
    have b' := Nat.mul_le_mul_right (2 ^ (j + 1)) b
    rw [← Nat.pow_add] at a' b'
    rw [Nat.succ_mul] at b'
    rw [show f.log2 + (j + 1) + 1 = f.log2 + 1 + (j + 1) by omega]
    omega
  unfold low
  rw [hlog ht, hlog ht']
  have hl : 53 ≤ f.log2 := by
    have b := lt_pow_log f
    have : 2 ^ 53 < 2 ^ (f.log2 + 1) := by omega
    have := (Nat.pow_lt_pow_iff_right (a := 2) (by decide)).1 this
    omega
  obtain ⟨e, he⟩ : ∃ e, f.log2 + (j + 1) - (52 + c) + c = (j + 1) + (e + 1) := ⟨f.log2 + (j + 1) - (52 + c) + c - (j + 1) - 1, by omega⟩
  rw [he]
  congr 1
  have hdiv : ∀ {t}, t < 2 ^ (j + 1) → (f * 2 ^ (j + 1) + t) / 2 ^ (j + 1 + (e + 1)) = f / 2 ^ (e + 1) ∧ (f * 2 ^ (j + 1) + t) % 2 ^ (j + 1 + (e + 1)) = f % 2 ^ (e + 1) * 2 ^ (j + 1) + t := by
    intro t ht
    have hp := Nat.two_pow_pos (j + 1)
    have e1 : (f * 2 ^ (j + 1) + t) / 2 ^ (j + 1 + (e + 1)) = f / 2 ^ (e + 1) := by
      rw [Nat.pow_add 2 (j + 1) (e + 1), ← Nat.div_div_eq_div_mul, Nat.mul_comm f, Nat.mul_add_div hp, Nat.div_eq_of_lt ht, Nat.add_zero]
    refine ⟨e1, ?_⟩
    have d1 := Nat.div_add_mod (f * 2 ^ (j + 1) + t) (2 ^ (j + 1 + (e + 1)))
    have d2 := Nat.div_add_mod f (2 ^ (e + 1))
    rw [e1] at d1
    have q : 2 ^ (j + 1 + (e + 1)) * (f / 2 ^ (e + 1)) = 2 ^ (e + 1) * (f / 2 ^ (e + 1)) * 2 ^ (j + 1) := by rw [Nat.pow_add]; ac_rfl
    have q2 := congrArg (· * 2 ^ (j + 1)) d2
    simp only [Nat.add_mul] at q2
    omega
  obtain ⟨a1, a2⟩ := hdiv ht
  obtain ⟨b1, b2⟩ := hdiv ht'
  unfold rne
  rw [a1, a2, b1, b2]
  congr 1
  have hw : 2 ^ (j + 1 + (e + 1)) = 2 * (2 ^ e * 2 ^ (j + 1)) := by rw [show j + 1 + (e + 1) = 1 + e + (j + 1) by omega, Nat.pow_add, Nat.pow_add]; simp [Nat.mul_assoc]
  rw [hw]
  have tri : (f % 2 ^ (e + 1) * 2 ^ (j + 1) + 2 ^ (j + 1) ≤ 2 ^ e * 2 ^ (j + 1)) ∨ f % 2 ^ (e + 1) * 2 ^ (j + 1) = 2 ^ e * 2 ^ (j + 1) ∨ 2 ^ e * 2 ^ (j + 1) + 2 ^ (j + 1) ≤ f % 2 ^ (e + 1) * 2 ^ (j + 1) := by
    rcases Nat.lt_trichotomy (f % 2 ^ (e + 1)) (2 ^ e) with g | g | g
    · left; have := Nat.mul_le_mul_right (2 ^ (j + 1)) g; rwa [Nat.succ_mul] at this
    · right; left; rw [g]
    · right; right; have := Nat.mul_le_mul_right (2 ^ (j + 1)) g; rwa [Nat.succ_mul] at this
  generalize f % 2 ^ (e + 1) * 2 ^ (j + 1) = G at *
  generalize 2 ^ e * 2 ^ (j + 1) = W at *
  generalize 2 ^ (j + 1) = s at *
  generalize f / 2 ^ (e + 1) % 2 = par at *
  have : (2 * W < 2 * (G + t) ∨ 2 * W = 2 * (G + t) ∧ par = 1) ↔ (2 * W < 2 * (G + t') ∨ 2 * W = 2 * (G + t') ∧ par = 1) := by omega
  by_cases hc : 2 * W < 2 * (G + t) ∨ 2 * W = 2 * (G + t) ∧ par = 1
  · rw [if_pos hc, if_pos (this.1 hc)]
  · rw [if_neg hc, if_neg (fun h => hc (this.2 h))]

theorem st_low {D n : Nat} (hn : 0 < n) (hD : n * 2 ^ 53 ≤ D) (j c : Nat) : rungOf (st D n * 2 ^ j) (-1074 - (c : Int)) = rungOf (st (D * 2 ^ j) n) (-1074 - (c : Int)) := by
  have hp := Nat.two_pow_pos j
  have hq : 2 ^ 53 ≤ D / n := (Nat.le_div_iff_mul_le hn).2 (by rw [Nat.mul_comm]; exact hD)
  have d1 := Nat.div_add_mod D n
  have hml := Nat.mod_lt D hn
  have e1 : st D n * 2 ^ j = D / n * 2 ^ (j + 1) + (D % n != 0).toNat * 2 ^ j := by
    unfold st; rw [Nat.pow_succ, Nat.add_mul]; congr 1; ac_rfl
  have hDj : D * 2 ^ j = n * (D / n * 2 ^ j) + D % n * 2 ^ j := by
    have := congrArg (· * 2 ^ j) d1
    simp only [Nat.add_mul] at this
    rw [← this]; congr 1; ac_rfl
  have f1 : D * 2 ^ j / n = D / n * 2 ^ j + D % n * 2 ^ j / n := by rw [hDj, Nat.mul_add_div hn]
  have f2 : D * 2 ^ j % n = D % n * 2 ^ j % n := by rw [hDj, Nat.mul_add_mod]
  have hu : D % n * 2 ^ j / n < 2 ^ j := by
    rw [Nat.div_lt_iff_lt_mul hn, Nat.mul_comm (2 ^ j)]
    exact Nat.mul_lt_mul_of_pos_right hml hp
  have e2 : st (D * 2 ^ j) n = D / n * 2 ^ (j + 1) + (2 * (D % n * 2 ^ j / n) + (D * 2 ^ j % n != 0).toNat) := by
    unfold st; rw [f1, Nat.pow_succ, Nat.mul_add, Nat.add_assoc]; congr 1; ac_rfl
  have b1 : (D % n != 0).toNat * 2 ^ j < 2 ^ (j + 1) := by
    have : (D % n != 0).toNat * 2 ^ j ≤ 1 * 2 ^ j := Nat.mul_le_mul_right _ (by cases (D % n != 0) <;> decide)
    rw [Nat.pow_succ]; omega
  have b2 : 2 * (D % n * 2 ^ j / n) + (D * 2 ^ j % n != 0).toNat < 2 ^ (j + 1) := by
    have : (D * 2 ^ j % n != 0).toNat ≤ 1 := by cases (D * 2 ^ j % n != 0) <;> decide
    rw [Nat.pow_succ]; omega
  have b3 : (D % n != 0).toNat * 2 ^ j = 0 ↔ 2 * (D % n * 2 ^ j / n) + (D * 2 ^ j % n != 0).toNat = 0 := by
    rw [st_bit, st_bit, f2]
    have dm := Nat.div_add_mod (D % n * 2 ^ j) n
    by_cases h : D % n = 0
    · rw [h]; simp
    · have h3 : D % n * 2 ^ j ≠ 0 := Nat.mul_ne_zero h (by omega)
      rw [if_neg h, Nat.one_mul]
      constructor
      · intro h4; omega
      · intro h4
        exfalso
        have h5 : D % n * 2 ^ j / n = 0 := by omega
        have h6 : D % n * 2 ^ j % n = 0 := by
          by_cases h7 : D % n * 2 ^ j % n = 0
          · exact h7
          · rw [if_neg h7] at h4; omega
        rw [h5, h6] at dm
        omega
  have hz : 0 < D / n * 2 ^ (j + 1) := Nat.mul_pos (by have := Nat.two_pow_pos 53; omega) (Nat.two_pow_pos _)
  rw [e1, e2, rungOf_low c (by omega), rungOf_low c (by omega), low_sticky c hq b1 b2 b3]

/-- The rung of a quotient, by as many digits as one likes. -/
theorem quo_big {x y : Nat} (hx : x % p63 < infR) (hy : y % p63 < infR) (h0 : y % p63 ≠ 0) :
    ∃ L0, ∀ L : Nat, L0 ≤ L → double.div x y = some (double.word (neg x ^^ neg y) (rungOf (st (U (x % p63) * 2 ^ L) (U (y % p63))) (-1 - (L : Int)))) := by
  obtain ⟨m, i, e1, hi, e2⟩ := read_fin hx
  obtain ⟨n, j, e3, hj, e4⟩ := read_fin hy
  have hUy : U (y % p63) ≠ 0 := fun e => h0 (U_inj (e.trans U_zero.symm))
  have hn0 : n ≠ 0 := by rintro rfl; rw [Nat.zero_mul] at e4; omega
  have hn : 0 < n := by omega
  have hdig : double.fractionBits + 2 = 54 := by decide
  obtain ⟨I, hI⟩ : ∃ I, (i + 1074).toNat = I := ⟨_, rfl⟩
  obtain ⟨J, hJ⟩ : ∃ J, (j + 1074).toNat = J := ⟨_, rfl⟩
  obtain ⟨more, hmore⟩ : ∃ more, 54 + n.log2 - m.log2 = more := ⟨_, rfl⟩
  refine ⟨J + more + 1073, fun L hL => ?_⟩
  unfold Ieee.Format.div
  rw [e1, e3]
  simp only [Ieee.Datum.quotient, hdig, if_neg hn0, Nat.shiftLeft_eq, Option.map_some, Ieee.Format.write, nearest_eq, hmore]
  congr 2
  show rungOf (st (m * 2 ^ more) n) (i - j - (more : Int) - 1) = _
  rw [← e2, ← e4, hI, hJ]
  obtain ⟨k, hk⟩ : ∃ k, I + L = J + more + k := ⟨I + L - J - more, by omega⟩
  have hst : st (m * 2 ^ I * 2 ^ L) (n * 2 ^ J) = st (m * 2 ^ more * 2 ^ k) n := by
    rw [show m * 2 ^ I * 2 ^ L = m * 2 ^ more * 2 ^ k * 2 ^ J by
      rw [Nat.mul_assoc, ← Nat.pow_add, hk, Nat.pow_add, Nat.pow_add]; ac_rfl]
    exact st_scale _ _ (Nat.two_pow_pos J)
  rw [hst]
  by_cases hm0 : m = 0
  · subst hm0
    simp [st, rungOf_zero]
  · have hD : n * 2 ^ 53 ≤ m * 2 ^ more := by
      have a := pow_log_le hm0
      have b := lt_pow_log n
      have c : 2 ^ (m.log2 + more) ≤ m * 2 ^ more := by rw [Nat.pow_add]; exact Nat.mul_le_mul_right _ a
      have d : n * 2 ^ 53 ≤ 2 ^ (n.log2 + 1) * 2 ^ 53 := Nat.mul_le_mul_right _ (Nat.le_of_lt b)
      rw [← Nat.pow_add] at d
      have e : 2 ^ (n.log2 + 1 + 53) ≤ 2 ^ (m.log2 + more) := Nat.pow_le_pow_right (by decide) (by omega)
      omega
    have hc : (-1 : Int) - L = -1074 - ((L - 1073 : Nat) : Int) := by omega
    rw [hc, ← st_low hn hD k (L - 1073), ← hc, ← rungOf_scale (st (m * 2 ^ more) n) (i - j - (more : Int) - 1) k]
    congr 1
    omega

theorem neg_keys (y : Nat) : (0 < key y → neg y = false) ∧ (key y < 0 → neg y = true) := by
  rw [key_eq]; unfold sgd; cases neg y <;> simp <;> omega
theorem quo_mono {x y x' y' : Nat} (hx : x % p63 < infR) (hy : y % p63 < infR) (hx' : x' % p63 < infR) (hy' : y' % p63 < infR) (h0 : (0 < key y ∧ 0 < key y') ∨ (key y < 0 ∧ key y' < 0)) (h : V x * V y' ≤ V x' * V y) :
    key (cop .quo x y) ≤ key (cop .quo x' y') := by
  have z1 : y % p63 ≠ 0 := by intro e; rw [key_eq y, e] at h0; unfold sgd at h0; split at h0 <;> omega
  have z2 : y' % p63 ≠ 0 := by intro e; rw [key_eq y', e] at h0; unfold sgd at h0; split at h0 <;> omega
  obtain ⟨L0, q⟩ := quo_big hx hy z1
  obtain ⟨L1, q'⟩ := quo_big hx' hy' z2
  have q := q (L0 + L1) (by omega)
  have q' := q' (L0 + L1) (by omega)
  generalize L0 + L1 = L at *
  have u1 : U (y % p63) ≠ 0 := fun e => z1 (U_inj (e.trans U_zero.symm))
  have u2 : U (y' % p63) ≠ 0 := fun e => z2 (U_inj (e.trans U_zero.symm))
  have hc : ∀ {a b s r}, double.div a b = some (double.word s r) → r ≤ infR → key (cop .quo a b) = sgd s r := fun {a b s r} e hr => by
    have e' : floatBits .quo .f64 a b = some (double.word s r) := e
    have : cop .quo a b = double.word s r := by unfold cop; rw [e']; exact canon_num (word_isN _ hr)
    rw [this, word_key _ hr]
  rw [hc q (rungOf_le_inf _ _), hc q' (rungOf_le_inf _ _)]
  have hp := Nat.two_pow_pos L
  -- rungs beside each other
  have mono : ∀ {X Y X' Y' : Nat}, 0 < Y → 0 < Y' → X * Y' ≤ X' * Y → rungOf (st (X * 2 ^ L) Y) (-1 - (L : Int)) ≤ rungOf (st (X' * 2 ^ L) Y') (-1 - (L : Int)) := fun {X Y X' Y'} h1 h2 h3 => by
    apply rungOf_mono
    apply st_mono h1 h2
    have := Nat.mul_le_mul_right (2 ^ L) h3
    have a : X * 2 ^ L * Y' = X * Y' * 2 ^ L := by ac_rfl
    have b : X' * 2 ^ L * Y = X' * Y * 2 ^ L := by ac_rfl
    rw [a, b]; exact this
  have zero : ∀ {Y : Nat}, rungOf (st (0 * 2 ^ L) Y) (-1 - (L : Int)) = 0 := fun {Y} => by rw [Nat.zero_mul]; simp [st, rungOf_zero]
  have hy1 : neg y = neg y' := by
    rcases h0 with ⟨g1, g2⟩ | ⟨g1, g2⟩
    · rw [(neg_keys y).1 g1, (neg_keys y').1 g2]
    · rw [(neg_keys y).2 g1, (neg_keys y').2 g2]
  unfold V at h
  rw [← hy1] at h ⊢
  have m1 := @mono (U (x % p63)) (U (y % p63)) (U (x' % p63)) (U (y' % p63)) (by omega) (by omega)
  have m2 := @mono (U (x' % p63)) (U (y' % p63)) (U (x % p63)) (U (y % p63)) (by omega) (by omega)
  have n1 : U (x % p63) = 0 → rungOf (st (U (x % p63) * 2 ^ L) (U (y % p63))) (-1 - (L : Int)) = 0 := fun e => by rw [e]; exact zero
  have n2 : U (x' % p63) = 0 → rungOf (st (U (x' % p63) * 2 ^ L) (U (y' % p63))) (-1 - (L : Int)) = 0 := fun e => by rw [e]; exact zero
  generalize rungOf (st (U (x % p63) * 2 ^ L) (U (y % p63))) (-1 - (L : Int)) = A at *
  generalize rungOf (st (U (x' % p63) * 2 ^ L) (U (y' % p63))) (-1 - (L : Int)) = B at *
  generalize U (x % p63) = X at *
  generalize U (x' % p63) = X' at *
  generalize U (y % p63) = Y at *
  generalize U (y' % p63) = Y' at *
  have c1 : (X : Int) * (Y' : Int) = ((X * Y' : Nat) : Int) := by rw [Int.natCast_mul]
  have c2 : (X' : Int) * (Y : Int) = ((X' * Y : Nat) : Int) := by rw [Int.natCast_mul]
  have hz1 : X * Y' = 0 ↔ X = 0 := by rw [Nat.mul_eq_zero]; omega
  have hz2 : X' * Y = 0 ↔ X' = 0 := by rw [Nat.mul_eq_zero]; omega
  unfold sgd at h ⊢
  generalize X * Y' = P at *
  generalize X' * Y = Q at *
  cases hsx : neg x <;> cases hsx' : neg x' <;> cases hsy : neg y <;> rw [hsx, hsx', hsy] at h <;> simp only [Bool.false_eq_true, if_false, if_true, Bool.xor_false, Bool.xor_true, Bool.not_true, Bool.not_false, Int.neg_mul, Int.mul_neg, Int.neg_neg, c1, c2] at h ⊢ <;> omega
end Go.Proofs.Ytclhgnhbmlkomaa

namespace Go.Proofs.Ytclhgnhbmlkomaa
open Ieee (double)

/-- Two are the same number, but for its sign; or both are none. -/
def Neg (x y : Nat) : Prop := isN x = isN y ∧ (isN x = false → key x = -key y)

theorem key_inf {x : Nat} (h : x % p63 = infR) : key x = infR ∨ key x = -(infR : Int) := by
  rw [key_eq, h]; unfold sgd; cases neg x <;> simp
theorem fin_key {x : Nat} (hN : isN x = false) : x % p63 < infR ↔ -(infR : Int) < key x ∧ key x < infR := by
  have := isN_false hN
  rw [key_eq]; unfold sgd; cases neg x <;> simp <;> omega
theorem V_neg {x y : Nat} (h : key x = -key y) : V x = - V y := by
  have e : key y = - key x := by omega
  have : V (double.word (!neg x) (x % p63)) = - V x := by
    have hle : x % p63 < p63 := Nat.mod_lt _ (by decide)
    have hm : double.word (!neg x) (x % p63) % p63 = x % p63 := by
      rw [word_eq]; unfold p63 at *; split <;> omega
    have hn : neg (double.word (!neg x) (x % p63)) = !neg x := by
      rw [word_eq]; unfold neg p63 at *
      by_cases g : x / 9223372036854775808 % 2 = 1
      · have g' : (x / 9223372036854775808 % 2 == 1) = true := by simpa using g
        rw [g', Bool.not_true, if_neg (by decide), show x % 9223372036854775808 / 9223372036854775808 = 0 by omega]; rfl
      · have g' : (x / 9223372036854775808 % 2 == 1) = false := by simpa using g
        rw [g', Bool.not_false, if_pos rfl, show (9223372036854775808 + x % 9223372036854775808) / 9223372036854775808 = 1 by omega]; rfl
    unfold V; rw [hm, hn]; unfold sgd; cases neg x <;> simp
  have k2 : key (double.word (!neg x) (x % p63)) = - key x := by
    have hle : x % p63 < p63 := Nat.mod_lt _ (by decide)
    have hm : double.word (!neg x) (x % p63) % p63 = x % p63 := by
      rw [word_eq]; unfold p63 at *; split <;> omega
    have hn : neg (double.word (!neg x) (x % p63)) = !neg x := by
      rw [word_eq]; unfold neg p63 at *
      by_cases g : x / 9223372036854775808 % 2 = 1
      · have g' : (x / 9223372036854775808 % 2 == 1) = true := by simpa using g
        rw [g', Bool.not_true, if_neg (by decide), show x % 9223372036854775808 / 9223372036854775808 = 0 by omega]; rfl
      · have g' : (x / 9223372036854775808 % 2 == 1) = false := by simpa using g
        rw [g', Bool.not_false, if_pos rfl, show (9223372036854775808 + x % 9223372036854775808) / 9223372036854775808 = 1 by omega]; rfl
    rw [key_eq, key_eq, hm, hn]; unfold sgd; cases neg x <;> simp
  have : V y = V (double.word (!neg x) (x % p63)) := V_eq.2 (by rw [k2]; omega)
  omega

theorem Neg.symm {x y : Nat} (h : Neg x y) : Neg y x := ⟨h.1.symm, fun e => by have := h.2 (h.1.trans e); omega⟩
theorem Neg.fin {x y : Nat} (h : Neg x y) (hN : isN x = false) : x % p63 < infR ↔ y % p63 < infR := by
  have hy : isN y = false := h.1 ▸ hN
  have := h.2 hN
  rw [fin_key hN, fin_key hy]; omega
theorem canon_neg {x y : Nat} (h : Neg x y) : Neg (canon x) (canon y) := by
  cases hx : isN x
  · have hy : isN y = false := h.1 ▸ hx
    rw [canon_num hx, canon_num hy]; exact h
  · have hy : isN y = true := h.1 ▸ hx
    have e1 : canon x = nanB := by unfold canon; rw [if_pos hx]
    have e2 : canon y = nanB := by unfold canon; rw [if_pos hy]
    rw [e1, e2]; exact ⟨rfl, fun e => absurd e (by decide)⟩

/-- An infinite one by its sign. -/
theorem inf_neg_of {x y : Nat} (h : Neg x y) (hN : isN x = false) (hx : x % p63 = infR) : y % p63 = infR ∧ neg y = !neg x := by
  have hy : isN y = false := h.1 ▸ hN
  have hyl := isN_false hy
  have hyf : ¬ y % p63 < infR := fun g => by have := (h.fin hN).2 g; omega
  have hye : y % p63 = infR := by omega
  refine ⟨hye, ?_⟩
  have k := h.2 hN
  rw [key_eq, key_eq, hx, hye] at k
  unfold sgd infR at k
  cases hn : neg x <;> cases hm : neg y <;> simp [hn, hm] at k ⊢ <;> omega

/-- A sum of what is turned is the sum turned. -/
theorem add_neg {a b c d : Nat} (h : Neg a c) (g : Neg b d) : Neg (cop .add a b) (cop .add c d) := by
  by_cases ha : isN a = true
  · have hc : isN c = true := h.1 ▸ ha
    unfold cop; rw [fb_nan_left _ _ ha, fb_nan_left _ _ hc]; exact ⟨rfl, fun e => absurd e (by decide)⟩
  by_cases hb : isN b = true
  · have hd : isN d = true := g.1 ▸ hb
    unfold cop; rw [fb_nan_right _ _ hb, fb_nan_right _ _ hd]; exact ⟨rfl, fun e => absurd e (by decide)⟩
  have ha' : isN a = false := by simpa using ha
  have hb' : isN b = false := by simpa using hb
  have la := isN_false ha'; have lb := isN_false hb'
  by_cases fa : a % p63 < infR
  · have fc := (h.fin ha').1 fa
    by_cases fb : b % p63 < infR
    · have fd := (g.fin hb').1 fb
      have e1 := add_fin fa fb
      have e2 := add_fin fc fd
      have k1 := add_key fa fb e1
      have k2 := add_key fc fd e2
      rw [cop_some (op := .add) e1, cop_some (op := .add) e2, canon_num k1.2.1, canon_num k2.2.1]
      refine ⟨by rw [k1.2.1, k2.2.1], fun _ => ?_⟩
      rw [k1.1, k2.1, V_neg (h.2 ha'), V_neg (g.2 hb'), show -V c + -V d = -(V c + V d) by omega, RK_neg]
    · have ib : b % p63 = infR := by omega
      obtain ⟨id, nd⟩ := inf_neg_of g hb' ib
      obtain ⟨m, i, r1, _, _⟩ := read_fin fa
      obtain ⟨n, j, r2, _, _⟩ := read_fin fc
      have e1 : floatBits .add .f64 a b = some (double.word (neg b) infR) := by
        unfold floatBits; simp only [FloatKind.format, Ieee.Format.add]; rw [r1, read_inf ib]; rfl
      have e2 : floatBits .add .f64 c d = some (double.word (neg d) infR) := by
        unfold floatBits; simp only [FloatKind.format, Ieee.Format.add]; rw [r2, read_inf id]; rfl
      rw [cop_some e1, cop_some e2, nd]
      cases neg b <;> (unfold Neg; decide)
  · have ia : a % p63 = infR := by omega
    obtain ⟨ic, nc⟩ := inf_neg_of h ha' ia
    by_cases fb : b % p63 < infR
    · have fd := (g.fin hb').1 fb
      obtain ⟨m, i, r1, _, _⟩ := read_fin fb
      obtain ⟨n, j, r2, _, _⟩ := read_fin fd
      have e1 : floatBits .add .f64 a b = some (double.word (neg a) infR) := by
        unfold floatBits; simp only [FloatKind.format, Ieee.Format.add]; rw [r1, read_inf ia]; rfl
      have e2 : floatBits .add .f64 c d = some (double.word (neg c) infR) := by
        unfold floatBits; simp only [FloatKind.format, Ieee.Format.add]; rw [r2, read_inf ic]; rfl
      rw [cop_some e1, cop_some e2, nc]
      cases neg a <;> (unfold Neg; decide)
    · have ib : b % p63 = infR := by omega
      obtain ⟨id, nd⟩ := inf_neg_of g hb' ib
      unfold cop floatBits; simp only [FloatKind.format, Ieee.Format.add]
      rw [read_inf ia, read_inf ib, read_inf ic, read_inf id, nc, nd]
      cases neg a <;> cases neg b <;> (unfold Neg; decide)

theorem flip_neg {x : Nat} (hx : x < 18446744073709551616) : Neg (flip x) x := by
  have hm := flip_mod hx
  refine ⟨flip_isN hx, fun _ => ?_⟩
  rw [key_eq, key_eq, hm]
  have hn : neg (flip x) = !neg x := by
    have hle : x % p63 < p63 := Nat.mod_lt _ (by decide)
    rw [flip_eq hx, word_eq]; unfold neg p63 at *
    by_cases g : x / 9223372036854775808 % 2 = 1
    · have g' : (x / 9223372036854775808 % 2 == 1) = true := by simpa using g
      rw [g', Bool.not_true, if_neg (by decide), show x % 9223372036854775808 / 9223372036854775808 = 0 by omega]; rfl
    · have g' : (x / 9223372036854775808 % 2 == 1) = false := by simpa using g
      rw [g', Bool.not_false, if_pos rfl, show (9223372036854775808 + x % 9223372036854775808) / 9223372036854775808 = 1 by omega]; rfl
  rw [hn]; unfold sgd; cases neg x <;> simp

end Go.Proofs.Ytclhgnhbmlkomaa

namespace Go.Proofs.Ytclhgnhbmlkomaa
open Ieee (double)

/-- What a product and a sum come to, rounded once. -/
theorem fma_fin {a b c : Nat} (ha : a % p63 < infR) (hb : b % p63 < infR) (hc : c % p63 < infR) :
    double.fma a b c = some (double.word (if V a * V b + V c * unit = 0 then (neg a ^^ neg b) && neg c else decide (V a * V b + V c * unit < 0)) (rungOf (V a * V b + V c * unit).natAbs (-2148))) := by
  obtain ⟨x, i, e1, hi, e2⟩ := read_fin ha
  obtain ⟨y, j, e3, hj, e4⟩ := read_fin hb
  obtain ⟨z, t, e5, ht, e6⟩ := read_fin hc
  unfold Ieee.Format.fma
  rw [e1, e3, e5]
  simp only [Ieee.Datum.product, Ieee.Datum.sum, Option.bind_some, Option.map_some, Ieee.Format.write, nearest_eq]
  have hab : sgd (neg a ^^ neg b) (x * y * 2 ^ (i + j + 2148).toNat) = V a * V b := by
    have := sgd_sgd (neg a) (neg b) (U (a % p63)) (U (b % p63))
    have va : V a = sgd (neg a) (U (a % p63)) := rfl
    have vb : V b = sgd (neg b) (U (b % p63)) := rfl
    rw [va, vb, this, ← e2, ← e4]
    congr 1
    rw [show (i + j + 2148).toNat = (i + 1074).toNat + (j + 1074).toNat by omega, Nat.pow_add]
    simp only [Nat.mul_assoc, Nat.mul_left_comm]
  have hcc : sgd (neg c) (z * 2 ^ (t + 2148).toNat) = V c * unit := by
    have vc : V c = sgd (neg c) (U (c % p63)) := rfl
    rw [vc, ← e6, unit_def, show (t + 2148).toNat = (t + 1074).toNat + low74 by unfold low74; omega, Nat.pow_add, ← Nat.mul_assoc, sgd_mul]
  generalize hb1 : min (i + j) t = base at *
  have s1 : sgd (neg a ^^ neg b) (x * y * 2 ^ (i + j + 2148).toNat) = Ieee.signed (neg a ^^ neg b) (x * y) (i + j - base).toNat * (2 ^ (base + 2148).toNat : Nat) := by
    rw [signed_eq, ← sgd_mul, Nat.mul_assoc (x * y), ← Nat.pow_add, show (i + j - base).toNat + (base + 2148).toNat = (i + j + 2148).toNat by omega]
  have s2 : sgd (neg c) (z * 2 ^ (t + 2148).toNat) = Ieee.signed (neg c) z (t - base).toNat * (2 ^ (base + 2148).toNat : Nat) := by
    rw [signed_eq, ← sgd_mul, Nat.mul_assoc z, ← Nat.pow_add, show (t - base).toNat + (base + 2148).toNat = (t + 2148).toNat by omega]
  have hT : (Ieee.signed (neg a ^^ neg b) (x * y) (i + j - base).toNat + Ieee.signed (neg c) z (t - base).toNat) * (2 ^ (base + 2148).toNat : Nat) = V a * V b + V c * unit := by
    rw [Int.add_mul, ← s1, ← s2, hab, hcc]
  generalize Ieee.signed (neg a ^^ neg b) (x * y) (i + j - base).toNat + Ieee.signed (neg c) z (t - base).toNat = T at *
  have hr : rungOf T.natAbs base = rungOf (V a * V b + V c * unit).natAbs (-2148) := by
    have r1 := rungOf_scale T.natAbs base (base + 2148).toNat
    rw [← natAbs_pow, hT, show base - ((base + 2148).toNat : Int) = -2148 by omega] at r1
    exact r1.symm
  rw [hr]
  have z0 : T = 0 ↔ V a * V b + V c * unit = 0 := by rw [← hT, mul_pow_zero]
  have z1 : T < 0 ↔ V a * V b + V c * unit < 0 := by rw [← hT, mul_pow_neg]
  simp only [z0, z1]
theorem fma_key {a b c r : Nat} (ha : a % p63 < infR) (hb : b % p63 < infR) (hc : c % p63 < infR) (h : double.fma a b c = some r) : key r = RK (V a * V b + V c * unit) (-2148) ∧ isN r = false := by
  rw [fma_fin ha hb hc] at h
  cases h
  refine ⟨?_, word_isN _ (rungOf_le_inf _ _)⟩
  rw [word_key _ (rungOf_le_inf _ _)]
  exact sgd_RK _ fun h0 => by rw [if_neg h0]
theorem cfma_some {x y z r : Nat} (h : double.fma x y z = some r) : cfma x y z = canon r := by unfold cfma; rw [h]
theorem cfma_none {x y z : Nat} (h : double.fma x y z = none) : cfma x y z = nanB := by unfold cfma; rw [h]
theorem neg_nan : Neg nanB nanB := ⟨rfl, fun e => absurd e (by decide)⟩
theorem neg_inf (s : Bool) : Neg (canon (double.word s infR)) (canon (double.word (!s) infR)) := by cases s <;> (unfold Neg; decide)

theorem same_rung {a c : Nat} (h : Neg a c) (hN : isN a = false) : a % p63 = c % p63 := by
  have := h.2 hN
  rw [key_eq, key_eq] at this
  unfold sgd at this
  cases neg a <;> cases neg c <;> simp at this <;> omega

/-- An infinite factor leaves no number. -/
theorem mulRest_inf {a b : Nat} (h : a % p63 = infR ∨ b % p63 = infR) (ha : isN a = false) (hb : isN b = false) : mulRest a b = nanB := by
  have la := isN_false ha; have lb := isN_false hb
  have hp : (double.read a).product (double.read b) = none ∨ ∃ s, (double.read a).product (double.read b) = some (.infinity s) := by
    by_cases fa : a % p63 < infR
    · have ib : b % p63 = infR := by omega
      obtain ⟨m, i, r1, _, _⟩ := read_fin fa
      rw [r1, read_inf ib]
      by_cases m0 : m = 0
      · left; simp [Ieee.Datum.product, m0]
      · right; exact ⟨_, by simp only [Ieee.Datum.product, m0, if_false]; rfl⟩
    · rw [read_inf (by omega : a % p63 = infR)]
      by_cases fb : b % p63 < infR
      · obtain ⟨m, i, r1, _, _⟩ := read_fin fb
        rw [r1]
        by_cases m0 : m = 0
        · left; simp [Ieee.Datum.product, m0]
        · right; exact ⟨_, by simp only [Ieee.Datum.product, m0, if_false]; rfl⟩
      · rw [read_inf (by omega : b % p63 = infR)]; right; exact ⟨_, rfl⟩
  unfold mulRest
  rcases hp with hp | ⟨s, hp⟩
  · apply cfma_none; unfold Ieee.Format.fma; rw [hp]; rfl
  · have e : floatBits .mul .f64 a b = some (double.word s infR) := by
      unfold floatBits; simp only [FloatKind.format, Ieee.Format.mul]; rw [hp]; rfl
    have c : cop .mul a b = double.word s infR := by rw [cop_some e]; cases s <;> decide
    apply cfma_none
    unfold Ieee.Format.fma
    rw [hp, c]
    cases s <;> decide

/-- What a product leaves, of one factor turned. -/
theorem mulRest_neg {a b c : Nat} (h : Neg a c) : Neg (mulRest a b) (mulRest c b) := by
  cases ha : isN a
  · have hc : isN c = false := h.1 ▸ ha
    cases hb : isN b
    · have la := isN_false ha; have lb := isN_false hb
      have hr := same_rung h ha
      by_cases hi : a % p63 = infR ∨ b % p63 = infR
      · rw [mulRest_inf hi ha hb, mulRest_inf (by rw [← hr]; exact hi) hc hb]; exact neg_nan
      · have fa : a % p63 < infR := by omega
        have fb : b % p63 < infR := by omega
        have fc : c % p63 < infR := by omega
        have e1 := mul_fin fa fb
        have e2 := mul_fin fc fb
        rw [← hr] at e2
        generalize hR : rungOf (U (a % p63) * U (b % p63)) (-2148) = R at *
        have hle : R ≤ infR := by rw [← hR]; exact rungOf_le_inf _ _
        have c1 : cop .mul a b = double.word (neg a ^^ neg b) R := by rw [cop_some (op := .mul) e1, canon_num (word_isN _ hle)]
        have c2 : cop .mul c b = double.word (neg c ^^ neg b) R := by rw [cop_some (op := .mul) e2, canon_num (word_isN _ hle)]
        have f1 : flip (cop .mul a b) = double.word (!(neg a ^^ neg b)) R := by rw [flip_eq (cop_lt _ _ _), c1, word_neg _ hle, word_mod _ hle]
        have f2 : flip (cop .mul c b) = double.word (!(neg c ^^ neg b)) R := by rw [flip_eq (cop_lt _ _ _), c2, word_neg _ hle, word_mod _ hle]
        unfold mulRest
        rw [f1, f2]
        by_cases hRi : R = infR
        · have hnz : a % p63 ≠ 0 := fun e => by
            rw [e, U_zero, Nat.zero_mul, rungOf_zero] at hR
            rw [hRi] at hR; exact absurd hR (by decide)
          have hs : neg c = !neg a := by
            have k := h.2 ha
            rw [key_eq, key_eq, ← hr] at k
            unfold sgd at k
            cases hn : neg a <;> cases hm : neg c <;> simp [hn, hm] at k ⊢ <;> omega
          obtain ⟨m, i, r1, _, _⟩ := read_fin fa
          obtain ⟨n, j, r2, _, _⟩ := read_fin fb
          obtain ⟨m', i', r3, _, _⟩ := read_fin fc
          have g1 : double.fma a b (double.word (!(neg a ^^ neg b)) R) = some (double.word (!(neg a ^^ neg b)) infR) := by
            unfold Ieee.Format.fma; rw [r1, r2, hRi, read_inf (word_mod _ (Nat.le_refl _)), word_neg _ (Nat.le_refl _)]; rfl
          have g2 : double.fma c b (double.word (!(neg c ^^ neg b)) R) = some (double.word (!(neg c ^^ neg b)) infR) := by
            unfold Ieee.Format.fma; rw [r3, r2, hRi, read_inf (word_mod _ (Nat.le_refl _)), word_neg _ (Nat.le_refl _)]; rfl
          rw [cfma_some g1, cfma_some g2, hs, show (!(!neg a ^^ neg b)) = !(!(neg a ^^ neg b)) by cases neg a <;> cases neg b <;> rfl]
          exact neg_inf _
        · have w1 : double.word (!(neg a ^^ neg b)) R % p63 < infR := by rw [word_mod _ hle]; omega
          have w2 : double.word (!(neg c ^^ neg b)) R % p63 < infR := by rw [word_mod _ hle]; omega
          have g1 := fma_fin fa fb w1
          have g2 := fma_fin fc fb w2
          have k1 := fma_key fa fb w1 g1
          have k2 := fma_key fc fb w2 g2
          rw [cfma_some g1, cfma_some g2, canon_num k1.2, canon_num k2.2]
          refine ⟨by rw [k1.2, k2.2], fun _ => ?_⟩
          rw [k1.1, k2.1, ← RK_neg]
          congr 1
          have va := V_neg (h.2 ha)
          rw [va, word_V _ hle, word_V _ hle, Int.neg_mul]
          by_cases hnz : a % p63 = 0
          · have hR0 : R = 0 := by rw [← hR, hnz, U_zero, Nat.zero_mul, rungOf_zero]
            rw [hR0, U_zero]
            have : ∀ s, sgd s 0 = 0 := fun s => by cases s <;> rfl
            rw [this, this]; omega
          · have hs : neg c = !neg a := by
              have k := h.2 ha
              rw [key_eq, key_eq, ← hr] at k
              unfold sgd at k
              cases hn : neg a <;> cases hm : neg c <;> simp [hn, hm] at k ⊢ <;> omega
            rw [hs, show (!(!neg a ^^ neg b)) = !(!(neg a ^^ neg b)) by cases neg a <;> cases neg b <;> rfl]
            generalize (!(neg a ^^ neg b)) = s
            have : sgd s (U R) = - sgd (!s) (U R) := by cases s <;> simp [sgd]
            rw [this, Int.neg_mul]; omega
    · rw [show mulRest a b = nanB from cfma_none (fma_nan_mid _ _ hb), show mulRest c b = nanB from cfma_none (fma_nan_mid _ _ hb)]; exact neg_nan
  · rw [show mulRest a b = nanB from cfma_none (fma_nan_left _ _ ha), show mulRest c b = nanB from cfma_none (fma_nan_left _ _ (h.1 ▸ ha))]; exact neg_nan

/-- A product of one factor turned. -/
theorem mul_neg {a b c : Nat} (h : Neg a c) : Neg (cop .mul a b) (cop .mul c b) := by
  cases ha : isN a
  · have hc : isN c = false := h.1 ▸ ha
    cases hb : isN b
    · have la := isN_false ha; have lb := isN_false hb
      have hr := same_rung h ha
      by_cases fa : a % p63 < infR
      · have fc : c % p63 < infR := by omega
        by_cases fb : b % p63 < infR
        · have e1 := mul_fin fa fb
          have e2 := mul_fin fc fb
          have k1 := mul_key fa fb e1
          have k2 := mul_key fc fb e2
          rw [cop_some (op := .mul) e1, cop_some (op := .mul) e2, canon_num k1.2.1, canon_num k2.2.1]
          refine ⟨by rw [k1.2.1, k2.2.1], fun _ => ?_⟩
          rw [k1.1, k2.1, V_neg (h.2 ha), Int.neg_mul, RK_neg]
        · have ib : b % p63 = infR := by omega
          by_cases hnz : a % p63 = 0
          · have z1 : floatBits .mul .f64 a b = none := by
              obtain ⟨m, i, r1, _, q⟩ := read_fin fa
              rw [hnz, U_zero] at q
              have m0 : m = 0 := by
                rcases Nat.mul_eq_zero.1 q with g | g
                · exact g
                · have := Nat.two_pow_pos (i + 1074).toNat; omega
              unfold floatBits; simp only [FloatKind.format, Ieee.Format.mul]; rw [r1, read_inf ib]; simp [Ieee.Datum.product, m0]
            have z2 : floatBits .mul .f64 c b = none := by
              obtain ⟨m, i, r1, _, q⟩ := read_fin fc
              rw [← hr, hnz, U_zero] at q
              have m0 : m = 0 := by
                rcases Nat.mul_eq_zero.1 q with g | g
                · exact g
                · have := Nat.two_pow_pos (i + 1074).toNat; omega
              unfold floatBits; simp only [FloatKind.format, Ieee.Format.mul]; rw [r1, read_inf ib]; simp [Ieee.Datum.product, m0]
            unfold cop; rw [z1, z2]; exact neg_nan
          · have hs : neg c = !neg a := by
              have k := h.2 ha
              rw [key_eq, key_eq, ← hr] at k
              unfold sgd at k
              cases hn : neg a <;> cases hm : neg c <;> simp [hn, hm] at k ⊢ <;> omega
            have z1 : floatBits .mul .f64 a b = some (double.word (neg a ^^ neg b) infR) := by
              obtain ⟨m, i, r1, _, q⟩ := read_fin fa
              have m0 : m ≠ 0 := fun e => by rw [e, Nat.zero_mul] at q; exact hnz (U_inj (q.symm.trans U_zero.symm))
              unfold floatBits; simp only [FloatKind.format, Ieee.Format.mul]; rw [r1, read_inf ib]; simp [Ieee.Datum.product, m0]; cases neg a <;> cases neg b <;> rfl
            have z2 : floatBits .mul .f64 c b = some (double.word (neg c ^^ neg b) infR) := by
              obtain ⟨m, i, r1, _, q⟩ := read_fin fc
              have m0 : m ≠ 0 := fun e => by rw [e, Nat.zero_mul] at q; exact hnz (hr.trans (U_inj (q.symm.trans U_zero.symm)))
              unfold floatBits; simp only [FloatKind.format, Ieee.Format.mul]; rw [r1, read_inf ib]; simp [Ieee.Datum.product, m0]; cases neg c <;> cases neg b <;> rfl
            rw [cop_some z1, cop_some z2, hs, show (!neg a ^^ neg b) = !(neg a ^^ neg b) by cases neg a <;> cases neg b <;> rfl]
            exact neg_inf _
      · have ia : a % p63 = infR := by omega
        obtain ⟨ic, nc⟩ := inf_neg_of h ha ia
        by_cases fb : b % p63 < infR
        · obtain ⟨m, i, r1, _, _⟩ := read_fin fb
          by_cases m0 : m = 0
          · have z1 : floatBits .mul .f64 a b = none := by
              unfold floatBits; simp only [FloatKind.format, Ieee.Format.mul]; rw [r1, read_inf ia]; simp [Ieee.Datum.product, m0]
            have z2 : floatBits .mul .f64 c b = none := by
              unfold floatBits; simp only [FloatKind.format, Ieee.Format.mul]; rw [r1, read_inf ic]; simp [Ieee.Datum.product, m0]
            unfold cop; rw [z1, z2]; exact neg_nan
          · have z1 : floatBits .mul .f64 a b = some (double.word (neg a ^^ neg b) infR) := by
              unfold floatBits; simp only [FloatKind.format, Ieee.Format.mul]; rw [r1, read_inf ia]; simp [Ieee.Datum.product, m0]; rfl
            have z2 : floatBits .mul .f64 c b = some (double.word (neg c ^^ neg b) infR) := by
              unfold floatBits; simp only [FloatKind.format, Ieee.Format.mul]; rw [r1, read_inf ic]; simp [Ieee.Datum.product, m0]; rfl
            rw [cop_some z1, cop_some z2, nc, show (!neg a ^^ neg b) = !(neg a ^^ neg b) by cases neg a <;> cases neg b <;> rfl]
            exact neg_inf _
        · have ib : b % p63 = infR := by omega
          have z1 : floatBits .mul .f64 a b = some (double.word (neg a ^^ neg b) infR) := by
            unfold floatBits; simp only [FloatKind.format, Ieee.Format.mul]; rw [read_inf ib, read_inf ia]; rfl
          have z2 : floatBits .mul .f64 c b = some (double.word (neg c ^^ neg b) infR) := by
            unfold floatBits; simp only [FloatKind.format, Ieee.Format.mul]; rw [read_inf ib, read_inf ic]; rfl
          rw [cop_some z1, cop_some z2, nc, show (!neg a ^^ neg b) = !(neg a ^^ neg b) by cases neg a <;> cases neg b <;> rfl]
          exact neg_inf _
    · unfold cop; rw [fb_nan_right _ _ hb, fb_nan_right _ _ hb]; exact neg_nan
  · unfold cop; rw [fb_nan_left _ _ ha, fb_nan_left _ _ (h.1 ▸ ha)]; exact neg_nan

theorem sub_zero_neg (r : Nat) : Neg (cop .sub 0 r) r := by
  cases hN : isN r
  · have hr := isN_false hN
    by_cases hf : r % p63 < infR
    · have e := sub_fin (x := 0) (y := r) (by decide) hf
      have k := sub_key (x := 0) (y := r) (by decide) hf e
      rw [cop_some (op := .sub) e, canon_num k.2.1]
      refine ⟨by rw [k.2.1, hN], fun _ => ?_⟩
      rw [k.1, show V 0 = 0 by decide, Int.zero_sub, RK_neg, RK_V (Nat.le_of_lt hf)]
    · have hi : r % p63 = infR := by omega
      have e : floatBits .sub .f64 0 r = some (double.word (!neg r) infR) := by
        unfold floatBits; simp only [FloatKind.format, Ieee.Format.sub]; rw [read_inf hi]; rfl
      rw [cop_some e]
      unfold Neg
      rw [hN, key_eq r, hi]
      generalize neg r = s
      cases s <;> decide
  · unfold cop; rw [fb_nan_right _ _ hN]; exact ⟨by rw [hN]; decide, fun e => absurd e (by decide)⟩

/-- The difference of what is turned. -/
theorem sub_flip {a b : Nat} (hb : b < 18446744073709551616) : cop .sub a b = cop .add a (flip b) := by
  cases hN : isN b
  · have lb := isN_false hN
    by_cases fb : b % p63 < infR
    · have e : double.sub a b = double.add a (flip b) := by
        unfold Ieee.Format.sub Ieee.Format.add; rw [opposite_read b fb, flip_eq hb]
      unfold cop floatBits; simp only [FloatKind.format]; rw [e]
    · have ib : b % p63 = infR := by omega
      have e : double.sub a b = double.add a (flip b) := by
        unfold Ieee.Format.sub Ieee.Format.add
        rw [flip_eq hb, ib, read_inf ib, read_inf (word_mod _ (Nat.le_refl _)), word_neg _ (Nat.le_refl _)]; rfl
      unfold cop floatBits; simp only [FloatKind.format]; rw [e]
  · unfold cop; rw [fb_nan_right _ _ hN, fb_nan_right _ _ ((flip_isN hb).trans hN)]
theorem sub_neg {a b c d : Nat} (h : Neg a c) (g : Neg b d) (hb : b < 18446744073709551616) (hd : d < 18446744073709551616) : Neg (cop .sub a b) (cop .sub c d) := by
  rw [sub_flip hb, sub_flip hd]
  refine add_neg h ?_
  have e1 := flip_neg hb; have e2 := flip_neg hd
  refine ⟨by rw [e1.1, e2.1, g.1], fun hn => ?_⟩
  have n1 : isN b = false := e1.1 ▸ hn
  have n2 : isN d = false := g.1 ▸ n1
  have k1 := e1.2 hn
  have k2 := e2.2 (e2.1.trans n2)
  have k3 := g.2 n1
  omega
theorem sumRest_neg {a b c d : Nat} (h : Neg a c) (g : Neg b d) (ha : a < 18446744073709551616) (hc : c < 18446744073709551616) : Neg (sumRest a b) (sumRest c d) := by
  have hS := add_neg h g
  have hV := sub_neg hS h ha hc
  have hW := sub_neg hS hV (cop_lt _ _ _) (cop_lt _ _ _)
  unfold sumRest
  exact add_neg (sub_neg h hW (cop_lt _ _ _) (cop_lt _ _ _)) (sub_neg g hV (cop_lt _ _ _) (cop_lt _ _ _))

theorem up_neg {a c : Nat} (h : Neg a c) (ha : a < 18446744073709551616) (hc : c < 18446744073709551616) : Neg (upB a) (downB c) := by
  cases hN : isN a
  · have hM : isN c = false := h.1 ▸ hN
    obtain ⟨u1, u2, _⟩ := up_key ha hN
    obtain ⟨d1, d2, _⟩ := down_key hc hM
    refine ⟨by rw [u2, d2], fun _ => ?_⟩
    have k := h.2 hN
    rw [u1, d1]; split <;> split <;> omega
  · have hM : isN c = true := h.1 ▸ hN
    have e1 : upB a = nanB := by unfold upB; rw [if_pos hN]
    have e2 : downB c = nanB := by unfold downB; rw [if_pos hM]
    rw [e1, e2]; exact neg_nan
theorem scale_neg {a c : Nat} (h : Neg a c) (k : Int) : Neg (ldexpB a k) (ldexpB c k) := by
  cases hN : isN a
  · have hM : isN c = false := h.1 ▸ hN
    have hr := same_rung h hN
    unfold ldexpB
    rw [← hr]
    by_cases g : a % p63 = 0 ∨ infR ≤ a % p63
    · rw [if_pos g, if_pos g]; exact h
    · rw [if_neg g, if_neg g]
      have hle := rungOf_le_inf (U (a % p63)) (k - 1074)
      refine ⟨by rw [word_isN _ hle, word_isN _ hle], fun _ => ?_⟩
      rw [word_key _ hle, word_key _ hle]
      have hs : neg c = !neg a := by
        have k := h.2 hN
        rw [key_eq, key_eq, ← hr] at k
        unfold sgd at k
        cases hn : neg a <;> cases hm : neg c <;> simp [hn, hm] at k ⊢ <;> omega
      rw [hs]; cases neg a <;> simp [sgd]
  · have hM : isN c = true := h.1 ▸ hN
    have i1 := isN_true hN; have i2 := isN_true hM
    unfold ldexpB; rw [if_pos (.inr (by omega)), if_pos (.inr (by omega))]; exact h

end Go.Proofs.Ytclhgnhbmlkomaa
