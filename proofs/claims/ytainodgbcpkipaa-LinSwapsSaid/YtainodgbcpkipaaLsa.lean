/-
  Between what rounded sums, products, quotients lie: bounds in 1024ths. Plain functions.
-/
import Derived.Test.YtainodgbcpkipaaHlp
import Derived.Test.YtainodgbcpkipaaGq
import Derived.Test.YtainodgbcpkipaaGm
namespace Go.Proofs.Ytainodgbcpkipaa
open Ieee (double)

def low64 : Nat := 1064
/-- A 1024th, as 'V' counts. -/
def sU : Int := ((2 ^ low64 : Nat) : Int)
theorem sU_pos : 0 < sU := by unfold sU; exact Int.natCast_pos.2 (Nat.two_pow_pos _)
theorem ks_mul4 (a b c d : Int) : a * b * (c * d) = a * c * (b * d) := by ac_rfl
theorem unit_sU : (unit : Int) = 1024 * sU := by
  have e : unit = 1024 * 2 ^ low64 := by
    rw [unit_def, show low74 = 10 + low64 by decide, Nat.pow_add]
  rw [e, Int.natCast_mul]; rfl
/-- A number that is finite, from a 1024ths to b. -/
def Btw (a b : Int) (x : Nat) : Prop := x % p63 < infR ∧ a * sU ≤ V x ∧ V x ≤ b * sU
theorem fl_of (c : Int) (h1 : -9007199254740992 ≤ c) (h2 : c ≤ 9007199254740992) : ∃ z, z % p63 < infR ∧ V z = c * sU := by
  have h := is_scale (is_ofInt h1 h2) (-10) (by omega) (fits_of 54 44 (by omega) (by omega) (by omega))
  refine ⟨_, h.fin, ?_⟩
  have e := h.2.2.2
  rw [e, show ((0 : Int) + -10 + 1074).toNat = low64 from rfl]
  rfl
theorem ks_fin {x : Nat} : x % p63 < infR ↔ -(infR : Int) < key x ∧ key x < infR := by
  rw [key_eq]; unfold sgd
  have : 0 < infR := by decide
  cases neg x <;> simp only [Bool.false_eq_true, if_false, if_true] <;> omega
theorem btw_key {r : Nat} {a b : Int} (ha1 : -9007199254740992 ≤ a) (ha2 : a ≤ 9007199254740992) (hb1 : -9007199254740992 ≤ b) (hb2 : b ≤ 9007199254740992) (h1 : RK (a * sU) (-1074) ≤ key r) (h2 : key r ≤ RK (b * sU) (-1074)) : Btw a b r := by
  obtain ⟨z, z1, z2⟩ := fl_of a ha1 ha2
  obtain ⟨y, y1, y2⟩ := fl_of b hb1 hb2
  rw [← z2, RK_V (Nat.le_of_lt z1)] at h1
  rw [← y2, RK_V (Nat.le_of_lt y1)] at h2
  have f1 := ks_fin.1 z1
  have f2 := ks_fin.1 y1
  exact ⟨ks_fin.2 (by omega), by rw [← z2]; exact V_le.2 h1, by rw [← y2]; exact V_le.2 h2⟩
theorem btw_le {a b c d : Int} {x : Nat} (h : Btw a b x) (h1 : c ≤ a) (h2 : b ≤ d) : Btw c d x :=
  ⟨h.1, Int.le_trans (Int.mul_le_mul_of_nonneg_right h1 (Int.le_of_lt sU_pos)) h.2.1, Int.le_trans h.2.2 (Int.mul_le_mul_of_nonneg_right h2 (Int.le_of_lt sU_pos))⟩
theorem btw_sub {a b c d : Int} {x y : Nat} (hx : Btw a b x) (hy : Btw c d y) (h1 : -9007199254740992 ≤ a - d) (h2 : a - d ≤ 9007199254740992) (h3 : -9007199254740992 ≤ b - c) (h4 : b - c ≤ 9007199254740992) : Btw (a - d) (b - c) (cop .sub x y) := by
  obtain ⟨n1, n2, -⟩ := sub_val hx.1 hy.1
  have e1 : (a - d) * sU = a * sU - d * sU := Int.sub_mul _ _ _
  have e2 : (b - c) * sU = b * sU - c * sU := Int.sub_mul _ _ _
  have x1 := hx.2; have y1 := hy.2
  exact btw_key h1 h2 h3 h4 (by rw [n2]; exact RK_mono _ (by omega)) (by rw [n2]; exact RK_mono _ (by omega))
theorem btw_add {a b c d : Int} {x y : Nat} (hx : Btw a b x) (hy : Btw c d y) (h1 : -9007199254740992 ≤ a + c) (h2 : a + c ≤ 9007199254740992) (h3 : -9007199254740992 ≤ b + d) (h4 : b + d ≤ 9007199254740992) : Btw (a + c) (b + d) (cop .add x y) := by
  obtain ⟨n1, n2, -⟩ := add_val hx.1 hy.1
  have e1 : (a + c) * sU = a * sU + c * sU := Int.add_mul _ _ _
  have e2 : (b + d) * sU = b * sU + d * sU := Int.add_mul _ _ _
  have x1 := hx.2; have y1 := hy.2
  exact btw_key h1 h2 h3 h4 (by rw [n2]; exact RK_mono _ (by omega)) (by rw [n2]; exact RK_mono _ (by omega))
theorem ks_absmul {x y X Y : Int} (hx : -X ≤ x ∧ x ≤ X) (hy : -Y ≤ y ∧ y ≤ Y) : -(X * Y) ≤ x * y ∧ x * y ≤ X * Y := by
  have h1 : x.natAbs ≤ X.natAbs := by omega
  have h2 : y.natAbs ≤ Y.natAbs := by omega
  have h3 := Nat.mul_le_mul h1 h2
  rw [← Int.natAbs_mul, ← Int.natAbs_mul] at h3
  have h4 : 0 ≤ X * Y := Int.mul_nonneg (by omega) (by omega)
  omega
theorem btw_mul {a c e : Int} {x y : Nat} (hx : Btw (-a) a x) (hy : Btw (-c) c y) (h : a * c ≤ 1024 * e) (he : e ≤ 9007199254740992) (ha : 0 ≤ a) (hc : 0 ≤ c) : Btw (-e) e (cop .mul x y) := by
  obtain ⟨n1, n2, -⟩ := mul_val hx.1 hy.1
  have h0 : 0 ≤ a * c := Int.mul_nonneg ha hc
  have x1 := hx.2; have y1 := hy.2
  rw [Int.neg_mul] at x1 y1
  have hb := ks_absmul x1 y1
  have hs := sU_pos
  have e1 : a * sU * (c * sU) ≤ e * sU * (unit : Int) := by
    rw [unit_sU, ks_mul4 a, ks_mul4 e, Int.mul_comm e]
    exact Int.mul_le_mul_of_nonneg_right h (Int.mul_nonneg (Int.le_of_lt hs) (Int.le_of_lt hs))
  have r : ∀ m : Int, RK (m * sU) (-1074) = RK (m * sU * (unit : Int)) (-2148) := fun m => by
    have := RK_scale (m * sU) (-1074) low74
    rw [← this, unit_def]
    rfl
  have e2 : -e * sU * (unit : Int) = -(e * sU * (unit : Int)) := by rw [Int.neg_mul, Int.neg_mul]
  refine btw_key (by omega) (by omega) (by omega) he ?_ ?_
  · rw [n2, r]; exact RK_mono _ (by rw [e2]; omega)
  · rw [n2, r]; exact RK_mono _ (by omega)
theorem btw_quo {a c d e : Int} {x y : Nat} (hx : Btw (-a) a x) (hy : Btw c d y) (hc : 0 < c) (h : 1024 * a ≤ e * c) (he : e ≤ 9007199254740992) (he0 : 0 ≤ e) : Btw (-e) e (cop .quo x y) := by
  have hs := sU_pos
  have hV : 0 < V y := by have := Int.mul_pos hc hs; have := hy.2.1; omega
  have hk : 0 < key y := by
    have h0 : V 0 = 0 := by decide
    have h1 : key 0 = 0 := by decide
    have := (V_lt (x := 0) (y := y)).1 (by omega)
    omega
  obtain ⟨n1, n2, n3⟩ := quo_val hx.1 hy.1 (by omega)
  obtain ⟨z, z1, z2⟩ := fl_of e (by omega) he
  obtain ⟨u, u1, u2⟩ := fl_of (-e) (by omega) (by omega)
  have x1 := hx.2
  rw [Int.neg_mul] at x1
  have hU : (0 : Int) < (unit : Int) := Int.natCast_pos.2 unit_pos
  have b1 : a * sU * (unit : Int) ≤ e * sU * V y := by
    have t1 : a * sU * (unit : Int) ≤ e * sU * (c * sU) := by
      rw [unit_sU, ks_mul4 a, ks_mul4 e, Int.mul_comm a]
      exact Int.mul_le_mul_of_nonneg_right h (Int.mul_nonneg (Int.le_of_lt hs) (Int.le_of_lt hs))
    exact Int.le_trans t1 (Int.mul_le_mul_of_nonneg_left hy.2.1 (Int.mul_nonneg he0 (Int.le_of_lt hs)))
  have b2 : V x * (unit : Int) ≤ a * sU * (unit : Int) := Int.mul_le_mul_of_nonneg_right x1.2 (Int.le_of_lt hU)
  have b3 : -(a * sU) * (unit : Int) ≤ V x * (unit : Int) := Int.mul_le_mul_of_nonneg_right x1.1 (Int.le_of_lt hU)
  rw [Int.neg_mul] at b3
  have k1 := ((n3 z (isN_of_le (Nat.le_of_lt z1))).1 hk).2 (by rw [z2]; omega)
  have k2 := ((n3 u (isN_of_le (Nat.le_of_lt u1))).1 hk).1 (by
    have : V u * V y = -(e * sU * V y) := by rw [u2, Int.neg_mul, Int.neg_mul]
    omega)
  refine btw_key (by omega) (by omega) (by omega) he ?_ ?_
  · rw [← u2, RK_V (Nat.le_of_lt u1)]; exact k2
  · rw [← z2, RK_V (Nat.le_of_lt z1)]; exact k1
theorem btw_num {a b : Int} {x : Nat} (h : Btw a b x) : isN x = false := isN_of_le (Nat.le_of_lt h.1)
theorem btw_finB {a b : Int} {x : Nat} (h : Btw a b x) : finB x = true := decide_eq_true h.1
/-- The greater one, without signs. -/
theorem ab_less {a b c : Int} {x y : Nat} (hx : Btw (-a) a x) (hy : Btw b c y) (h : a < b) (ha : 0 ≤ a) : ltB (ab x) (ab y) = true ∧ ltB (ab y) (ab x) = false := by
  have hs := sU_pos
  have x1 := hx.2; have y1 := hy.2
  rw [Int.neg_mul] at x1
  have h1 := Int.mul_le_mul_of_nonneg_right (show a + 1 ≤ b by omega) (Int.le_of_lt hs)
  have h0 := Int.mul_nonneg ha (Int.le_of_lt hs)
  rw [Int.add_mul, Int.one_mul] at h1
  have vx : V x = sgd (neg x) (U (x % p63)) := rfl
  have vy : V y = sgd (neg y) (U (y % p63)) := rfl
  have hU : U (x % p63) < U (y % p63) := by
    unfold sgd at vx vy
    split at vx <;> split at vy <;> omega
  have hr : x % p63 < y % p63 := by
    rcases Nat.lt_or_ge (x % p63) (y % p63) with g | g
    · exact g
    · rcases Nat.lt_or_eq_of_le g with g | g
      · have := U_mono g; omega
      · rw [g] at hU; omega
  have ka : ∀ z, key (ab z) = ((z % p63 : Nat) : Int) := fun z => by
    have hz : neg (ab z) = false := by
      have : z % p63 / p63 = 0 := Nat.div_eq_of_lt (Nat.mod_lt _ (by decide))
      unfold neg ab; rw [this]; rfl
    rw [key_eq, hz]; unfold sgd ab; rw [Nat.mod_mod]; rfl
  unfold ltB
  rw [ka, ka, isN_ab, isN_ab, btw_num hx, btw_num hy]
  constructor
  · simp; omega
  · simp; omega
theorem dvB_pos {b c : Int} {y : Nat} (hy : Btw b c y) (h : 0 < b) : dvB y = true := by
  have hs := sU_pos
  have hV : 0 < V y := by have := Int.mul_pos h hs; have := hy.2.1; omega
  have h0 : V 0 = 0 := by decide
  have hk : key y ≠ key 0 := fun e => by have := V_eq.2 e; omega
  unfold dvB eqB
  rw [btw_finB hy, decide_eq_false hk]
  simp
end Go.Proofs.Ytainodgbcpkipaa
