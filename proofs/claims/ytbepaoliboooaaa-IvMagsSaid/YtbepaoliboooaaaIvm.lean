/-
  From-tos that are made, which ones; by names, for runs.
-/
import Derived.Test.YtbepaoliboooaaaIve
import Derived.Test.YtbepaoliboooaaaIvi
import Derived.Test.YtbepaoliboooaaaIvn
namespace Go.Proofs.Ytbepaoliboooaaa
open Go.RowKit
attribute [local go_sem] alloc_drewN setCell_drewN call_bits call_frombits ord_lt ord_eq ord_gt ord_ne ord_le ord_ge eqB_self run_fadd run_fsub run_fmul run_fquo run_store_f64

def numB (m k : Int) : Nat := ldexpB (floatOfInt .f64 (m % 9007199254740992 - 4503599627370496)) (k % 80 - 80)
theorem numB_is (m k : Int) : ∃ n, Is (numB m k) n (-80) ∧ n.natAbs < 2 ^ 132 := by
  have h1 := Int.emod_nonneg m (show (9007199254740992 : Int) ≠ 0 by decide)
  have h2 := Int.emod_lt_of_pos m (show (0 : Int) < 9007199254740992 by decide)
  have h3 := Int.emod_nonneg k (show (80 : Int) ≠ 0 by decide)
  have h4 := Int.emod_lt_of_pos k (show (0 : Int) < 80 by decide)
  have hi := is_scale (is_ofInt (n := m % 9007199254740992 - 4503599627370496) (by omega) (by omega)) (k % 80 - 80) (by omega) (fits_of 60 960 (by omega) (by omega) (by decide))
  have hd := hi.down (k % 80).toNat (by omega)
  have e : 0 + (k % 80 - 80) - ((k % 80).toNat : Int) = -80 := by omega
  rw [e] at hd
  refine ⟨_, hd, ?_⟩
  rw [natAbs_pow]
  have : 2 ^ (k % 80).toNat ≤ 2 ^ 79 := Nat.pow_le_pow_right (by decide) (by omega)
  have h5 : (m % 9007199254740992 - 4503599627370496).natAbs ≤ 2 ^ 52 := by omega
  have := Nat.mul_le_mul h5 this
  refine Nat.lt_of_le_of_lt this (by decide)
theorem numB_any (m k : Int) (w : World) : Calls Try.prog 24 #[.int .i64 m, .int .i64 k] w fun e w' => e = .returned (.float .f64 (numB m k)) ∧ w = w' := num_any m k w

/-- Which from-to is made. -/
def mkP (m k v : Int) : Nat × Nat :=
  if v % 5 = 0 then (numB m k, numB m k)
  else if v % 5 = 1 then (numB m k, cop .add (numB m k) (numB v k % p63))
  else if v % 5 = 2 then (cop .sub 0 (numB m k % p63), numB v m % p63)
  else if v % 5 = 3 then (floatOfInt .f64 (m % 9 - 4), floatOfInt .f64 (m % 9 - 4 + k % 5))
  else (numB m k, cop .add (numB m k) 4607182418800017408)
theorem cop_of {op : BinOp} {a b r : Nat} {p : Int} (h : floatBits op .f64 a b = some r) (hr : Is r p (-80)) : r = cop op a b := by
  rw [show cop op a b = canon r by unfold cop; rw [h], canon_num hr.num]
theorem add_up' {a b : Nat} {m n : Int} (ha : Is a m (-80)) (hb : Is b n (-80)) (hn : 0 ≤ n) (h1 : m.natAbs < 2 ^ 138) (h2 : n.natAbs < 2 ^ 138) :
    ∃ p, Is (cop .add a b) p (-80) ∧ m ≤ p ∧ p.natAbs ≤ m.natAbs + n.natAbs + 2 ^ 86 := by
  obtain ⟨r, e, h⟩ := is_add ha hb (fits_of 139 960 (by omega) (by decide) (by decide))
  rw [← cop_of (op := .add) e h]
  refine ⟨_, h, ha.add_ge hb hn e h, ?_⟩
  have := rn_size (m := m + n) (by omega)
  omega
theorem sub_down' {a b : Nat} {m n : Int} (ha : Is a m (-80)) (hb : Is b n (-80)) (hn : 0 ≤ n) (h1 : m.natAbs < 2 ^ 138) (h2 : n.natAbs < 2 ^ 138) :
    ∃ p, Is (cop .sub a b) p (-80) ∧ p ≤ m ∧ p.natAbs ≤ m.natAbs + n.natAbs + 2 ^ 86 := by
  obtain ⟨r, e, h⟩ := is_sub ha hb (fits_of 139 960 (by omega) (by decide) (by decide))
  rw [← cop_of (op := .sub) e h]
  refine ⟨_, h, ha.sub_le hb hn e h, ?_⟩
  have := rn_size (m := m - n) (by omega)
  omega
theorem mkP_mid (m k v : Int) : Mid (mkP m k v).1 (mkP m k v).2 := by
  obtain ⟨p, hx, hp⟩ := numB_is m k
  unfold mkP
  split
  · exact ⟨p, p, hx, hx, by omega, by omega, by omega⟩
  split
  · obtain ⟨q, hy, hq⟩ := numB_is v k
    obtain ⟨s, hs, h1, h2⟩ := add_up' hx (is_abs hy) (by omega) (by omega) (by omega)
    exact ⟨p, s, hx, hs, h1, by omega, by omega⟩
  split
  · obtain ⟨q, hy, hq⟩ := numB_is v m
    obtain ⟨s, hs, h1, h2⟩ := sub_down' zero_at (is_abs hx) (by omega) (by omega) (by omega)
    exact ⟨s, q.natAbs, hs, is_abs hy, by omega, by omega, by omega⟩
  split
  · have b1 := Int.emod_nonneg m (show (9 : Int) ≠ 0 by decide)
    have b2 := Int.emod_lt_of_pos m (show (0 : Int) < 9 by decide)
    have b3 := Int.emod_nonneg k (show (5 : Int) ≠ 0 by decide)
    have b4 := Int.emod_lt_of_pos k (show (0 : Int) < 5 by decide)
    exact ⟨_, _, int_at (n := m % 9 - 4) (by omega) (by omega), int_at (n := m % 9 - 4 + k % 5) (by omega) (by omega), by omega, by omega, by omega⟩
  · obtain ⟨s, hs, h1, h2⟩ := add_up' hx one_at (by omega) (by omega) (by omega)
    exact ⟨p, s, hx, hs, h1, by omega, by omega⟩

/-- As it is made. -/
def MadeP (m k v : Int) (w : World) (e : Ending) (w' : World) : Prop := ∃ a b, (a, b) = mkP m k v ∧ e = .returned (iv a b) ∧ Below w.heap.size w w'
set_option maxHeartbeats 1000000 in
theorem mkP_any (m k v : Int) (w : World) : Calls Try.prog 17 #[.int .i64 m, .int .i64 k, .int .i64 v] w (MadeP m k v w) := by
  have b0 := Int.emod_nonneg v (show (5 : Int) ≠ 0 by decide)
  have b5 := Int.emod_lt_of_pos v (show (0 : Int) < 5 by decide)
  have hx : numB m k < 18446744073709551616 := by obtain ⟨_, h, _⟩ := numB_is m k; exact h.lt
  have hy : numB v k < 18446744073709551616 := by obtain ⟨_, h, _⟩ := numB_is v k; exact h.lt
  have hz : numB v m < 18446744073709551616 := by obtain ⟨_, h, _⟩ := numB_is v m; exact h.lt
  have hA : ∃ r, (∀ w, fval .add w (numB m k) (numB v k % 9223372036854775808) = r) ∧ ndraw .add (numB m k) (numB v k % 9223372036854775808) = 0 ∧ r = cop .add (numB m k) (numB v k % p63) := by
    obtain ⟨p, hx, hp⟩ := numB_is m k
    obtain ⟨q, hy, hq⟩ := numB_is v k
    obtain ⟨r, e, h⟩ := is_add hx (is_abs hy) (fits_of 139 960 (by omega) (by decide) (by decide))
    exact ⟨r, fval_some (op := .add) e, ndraw_some (op := .add) e, cop_of (op := .add) e h⟩
  have hS : ∃ r, (∀ w, fval .sub w 0 (numB m k % 9223372036854775808) = r) ∧ ndraw .sub 0 (numB m k % 9223372036854775808) = 0 ∧ r = cop .sub 0 (numB m k % p63) := by
    obtain ⟨p, hx, hp⟩ := numB_is m k
    obtain ⟨r, e, h⟩ := is_sub zero_at (is_abs hx) (fits_of 139 960 (by omega) (by decide) (by decide))
    exact ⟨r, fval_some (op := .sub) e, ndraw_some (op := .sub) e, cop_of (op := .sub) e h⟩
  have hO : ∃ r, (∀ w, fval .add w (numB m k) 4607182418800017408 = r) ∧ ndraw .add (numB m k) 4607182418800017408 = 0 ∧ r = cop .add (numB m k) 4607182418800017408 := by
    obtain ⟨p, hx, hp⟩ := numB_is m k
    obtain ⟨r, e, h⟩ := is_add hx one_at (fits_of 139 960 (by omega) (by decide) (by decide))
    exact ⟨r, fval_some (op := .add) e, ndraw_some (op := .add) e, cop_of (op := .add) e h⟩
  have NX := numB_any m k
  have NY := numB_any v k
  have NZ := numB_any v m
  have W5 := fun W => within2_mod v 5 W (by decide) (by decide)
  have Wm := fun W => within2_mod m 9 W (by decide) (by decide)
  have Wk := fun W => within2_mod k 5 W (by decide) (by decide)
  have bm1 := Int.emod_nonneg m (show (9 : Int) ≠ 0 by decide)
  have bm2 := Int.emod_lt_of_pos m (show (0 : Int) < 9 by decide)
  have bk1 := Int.emod_nonneg k (show (5 : Int) ≠ 0 by decide)
  have bk2 := Int.emod_lt_of_pos k (show (0 : Int) < 5 by decide)
  have hM : mkP m k v = if v % 5 = 0 then (numB m k, numB m k)
    else if v % 5 = 1 then (numB m k, cop .add (numB m k) (numB v k % p63))
    else if v % 5 = 2 then (cop .sub 0 (numB m k % p63), numB v m % p63)
    else if v % 5 = 3 then (floatOfInt .f64 (m % 9 - 4), floatOfInt .f64 (m % 9 - 4 + k % 5))
    else (numB m k, cop .add (numB m k) 4607182418800017408) := rfl
  unfold MadeP
  generalize mkP m k v = M at *
  generalize v % 5 = u at *
  generalize m % 9 = um at *
  generalize k % 5 = uk at *
  generalize numB m k = x at *
  generalize numB v k = y at *
  generalize numB v m = z at *
  obtain ⟨ra, fa1, fa2, ea⟩ := hA
  obtain ⟨rs, fs1, fs2, es⟩ := hS
  obtain ⟨ro, fo1, fo2, eo⟩ := hO
  rw [← ea, ← es, ← eo] at hM
  have AX := fun W => abs_quiet x W hx
  have AY := fun W => abs_quiet y W hy
  have AZ := fun W => abs_quiet z W hz
  have hNX := Lib.hid NX
  have hNY := Lib.hid NY
  have hNZ := Lib.hid NZ
  have hW5 := Lib.hid W5
  have hWm := Lib.hid Wm
  have hWk := Lib.hid Wk
  have hAX := Lib.hid AX
  have hAY := Lib.hid AY
  have hAZ := Lib.hid AZ
  have HM := Lib.hid hM
  clear NX NY NZ W5 Wm Wk AX AY AZ hM ea es eo hx hy hz
  have hu : u = 0 ∨ u = 1 ∨ u = 2 ∨ u = 3 ∨ u = 4 := by omega
  clear b0 b5
  go_enter Try.func17, Try.ntmps17
  go_wp2_with fail
  refine (hNX.out _).mono ?_
  rintro e w' ⟨rfl, rfl⟩
  go_wp2_with fail
  refine (hW5.out _).mono ?_
  rintro e w' ⟨rfl, rfl⟩
  rcases hu with rfl | rfl | rfl | rfl | rfl
  · go_wp2_with fail
    exact bodyPost_ret (v := iv x x) (by simp [results, Try.results17, go_sem]) rfl ⟨x, x, by rw [HM.out]; rfl, rfl, (Below.refl _ _).alloc (Nat.le_refl _) _⟩
  · go_wp2_with fail
    refine (hNY.out _).mono ?_
    rintro e w' ⟨rfl, rfl⟩
    go_wp2_with fail
    refine (hAY.out _).mono ?_
    rintro e w' ⟨rfl, rfl⟩
    go_wp2_with fail
    exact bodyPost_ret (v := iv x ra) (by simp [results, Try.results17, go_sem]) rfl ⟨x, ra, by rw [HM.out]; rfl, rfl, (Below.refl _ _).alloc (Nat.le_refl _) _⟩
  · go_wp2_with fail
    refine (hAX.out _).mono ?_
    rintro e w' ⟨rfl, rfl⟩
    go_wp2_with fail
    refine (hNZ.out _).mono ?_
    rintro e w' ⟨rfl, rfl⟩
    go_wp2_with fail
    refine (hAZ.out _).mono ?_
    rintro e w' ⟨rfl, rfl⟩
    go_wp2_with fail
    exact bodyPost_ret (v := iv rs (z % 9223372036854775808)) (by simp [results, Try.results17, go_sem]) rfl ⟨_, _, by rw [HM.out]; rfl, rfl, (Below.refl _ _).alloc (Nat.le_refl _) _⟩
  · go_wp2_with fail
    refine (hWm.out _).mono ?_
    rintro e w' ⟨rfl, rfl⟩
    go_wp2_with fail
    refine (hWm.out _).mono ?_
    rintro e w' ⟨rfl, rfl⟩
    go_wp2_with fail
    refine (hWk.out _).mono ?_
    rintro e w' ⟨rfl, rfl⟩
    go_wp2_with fail
    exact bodyPost_ret (v := iv (floatOfInt .f64 (um - 4)) (floatOfInt .f64 (um - 4 + uk))) (by simp [results, Try.results17, go_sem]) rfl ⟨_, _, by rw [HM.out]; rfl, rfl, (Below.refl _ _).alloc (Nat.le_refl _) _⟩
  · go_wp2_with fail
    exact bodyPost_ret (v := iv x ro) (by simp [results, Try.results17, go_sem]) rfl ⟨x, ro, by rw [HM.out]; rfl, rfl, (Below.refl _ _).alloc (Nat.le_refl _) _⟩

end Go.Proofs.Ytbepaoliboooaaa
