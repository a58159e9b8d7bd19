/-
  The known ones, and from-tos that are made: what each call gives.
-/
import Derived.Test.YtbepaoliboooaaaIvd
import Derived.Test.YtbepaoliboooaaaMi
import Derived.Test.YtbepaoliboooaaaFpn
import Derived.Deep.RegionHeld3
namespace Go.Proofs.Ytbepaoliboooaaa
open Go.RowKit
attribute [local go_sem] alloc_drewN setCell_drewN call_bits call_frombits ord_lt ord_eq ord_gt ord_ne ord_le ord_ge eqB_self run_fadd run_fsub run_fmul run_fquo run_store_f64

/-- A from-to in memory, made behind w0, and what was ahead as it was. -/
def At (w0 : World) (B a b : Nat) (w : World) : Prop :=
  w.cell? ⟨B, 0, none⟩ = some (.float .f64 a) ∧ w.cell? ⟨B, 1, none⟩ = some (.float .f64 b) ∧ B < w.heap.size ∧ w0.heap.size ≤ B ∧ Below w0.heap.size w0 w
theorem At.below {w0 : World} {B a b : Nat} {w w' : World} (h : At w0 B a b w) (hb : Below w.heap.size w w') : At w0 B a b w' := by
  obtain ⟨h1, h2, h3, h4, h5⟩ := h
  obtain ⟨hc, _⟩ := bcell hb
  have hs := hb.size
  exact ⟨by rw [hc _ _ h3]; exact h1, by rw [hc _ _ h3]; exact h2, by omega, h4, h5.trans (hb.mono h5.size)⟩
theorem At.new {w0 w : World} (h : Below w0.heap.size w0 w) (a b : Nat) (t : TypeId) : At w0 w.heap.size a b (w.alloc (.cells #[.float .f64 a, .float .f64 b] t)) :=
  ⟨by rw [World.cell?_alloc_new]; rfl, by rw [World.cell?_alloc_new]; rfl, by simp, h.size, h.alloc h.size _⟩
theorem At.alloc {w0 : World} {B a b : Nat} {w : World} (h : At w0 B a b w) (o : Obj) : At w0 B a b (w.alloc o) :=
  h.below ((Below.refl _ _).alloc (Nat.le_refl _) _)
theorem At.drew {w0 : World} {B a b : Nat} {w : World} (h : At w0 B a b w) : At w0 B a b w.drew := h.below ((Below.refl _ _).drew)

theorem add_known (w : World) : Calls Try.prog 31 #[iv 4607182418800017408 4607182418800017408, iv 4611686018427387904 4611686018427387904] w (Gives (iv 4613937818241073151 4613937818241073153) w) :=
  (add_any _ _ _ _ w).mono fun _ _ h => h.eq (by kernel_rfl)
theorem mag_known (w : World) : Calls Try.prog 41 #[iv 13839561654909534208 4607182418800017408] w (Gives (.float .f64 4616189618054758400) w) :=
  (mag_any _ _ w (by decide) (by decide)).mono fun _ _ h => h.eq (by kernel_rfl)
theorem right_known (w : World) : Calls Try.prog 25 #[iv 4613937818241073151 4613937818241073153] w (Gives (.bool true) w) :=
  (right_any _ _ w).mono fun _ _ h => h.eq (by kernel_rfl)
theorem in_known (w : World) : Calls Try.prog 27 #[.float .f64 4613937818241073152, iv 4613937818241073151 4613937818241073153] w (Gives (.bool true) w) :=
  (in_any _ _ _ w).mono fun _ _ h => h.eq (by kernel_rfl)
theorem exp_known (w : World) : Calls Try.prog 22 #[.float .f64 0] w (Gives (.float .f64 (expB 0)) w) := exp_all 0 w
theorem exp_zero : leB 4607182418800017408 (expB 0) = true := by decide +kernel

theorem known2_any (w : World) : Calls Try.prog 16 #[] w (Gives (.bool true) w) := by
  have l1 : ltB 4613937818241073151 4613937818241073152 = true := by decide
  have l2 : ltB 4613937818241073152 4613937818241073153 = true := by decide
  have l3 : ltB 4613937818241073153 4613940070040886837 = true := by decide
  have l4 : eqB 4616189618054758400 4616189618054758400 = true := by decide
  have l5 := exp_zero
  go_enter Try.func16, Try.ntmps16
  go_wp2_with fail
  refine (add_known _).mono ?_
  rintro e w1 ⟨rfl, hb1⟩
  go_wp2_with fail
  refine (right_known _).mono ?_
  rintro e w2 ⟨rfl, hb2⟩
  have A2 := (At.new hb1 4613937818241073151 4613937818241073153 25).below hb2
  generalize w1.heap.size = B at *
  clear hb2 hb1
  obtain ⟨c0, c1, hz, -, -⟩ := id A2
  go_wp2_with fail
  refine (in_known _).mono ?_
  rintro e w3 ⟨rfl, hb3⟩
  have A3 := A2.below hb3
  clear A2 hb3 c0 c1 hz
  obtain ⟨c0, c1, hz, -, hB3⟩ := id A3
  go_wp2_with fail
  refine (mag_known _).mono ?_
  rintro e w4 ⟨rfl, hb4⟩
  have hB4 := hB3.trans (hb4.mono hB3.size)
  clear hb4
  go_wp2_with fail
  refine (exp_known _).mono ?_
  rintro e w5 ⟨rfl, hb5⟩
  have hB5 := hB4.trans (hb5.mono hB4.size)
  clear hb5
  go_wp2_with fail
  go_ret
  exact ⟨rfl, hB5⟩

theorem within2_mod (a n : Int) (w : World) (h1 : 1 ≤ n) (h2 : n ≤ 9223372036854775807) :
    Calls Try.prog 43 #[.int .i64 a, .int .i64 n] w fun e w' => e = .returned (.int .i64 (a % n)) ∧ w = w' := by
  have h2' := Int.emod_nonneg a (show n ≠ 0 by omega)
  have h3 := Int.emod_lt_of_pos a (show 0 < n by omega)
  have h := emod_of_tmod (a := a) h1
  have H := Lib.hid h
  clear h
  go_enter Try.func43, Try.ntmps43
  go_wp2
  · go_ret
    refine ⟨?_, rfl⟩
    have := H.out.1 (by assumption)
    exact ret_int (by rw [this]; unfold wrap64; omega)
  · go_ret
    refine ⟨?_, rfl⟩
    exact ret_int (H.out.2 (by assumption))
theorem within2_any (a n : Int) (w : World) (h1 : 1 ≤ n) (h2 : n ≤ 9223372036854775807) :
    Calls Try.prog 43 #[.int .i64 a, .int .i64 n] w fun e w' => ∃ u : Int, e = .returned (.int .i64 u) ∧ 0 ≤ u ∧ u < n ∧ w = w' :=
  (within2_mod a n w h1 h2).mono fun _ _ ⟨he, hw⟩ => ⟨_, he, Int.emod_nonneg a (by omega), Int.emod_lt_of_pos a (by omega), hw⟩

/-- What a from-to of numbers is: both ends are numbers, in order, of a moderate size, in steps of one power of two. -/
def Mid (a b : Nat) : Prop := ∃ m n : Int, Is a m (-80) ∧ Is b n (-80) ∧ m ≤ n ∧ m.natAbs < 2 ^ 134 ∧ n.natAbs < 2 ^ 134

theorem Is.le_of {a b : Nat} {m n k : Int} (ha : Is a m k) (hb : Is b n k) : m ≤ n ↔ key a ≤ key b := by
  rw [← V_le, ha.2.2.2, hb.2.2.2]
  have hp : (0 : Int) < (2 ^ (k + 1074).toNat : Nat) := Int.natCast_pos.2 (Nat.two_pow_pos _)
  exact ⟨fun h => Int.mul_le_mul_of_nonneg_right h (Int.le_of_lt hp), fun h => Int.le_of_mul_le_mul_right h hp⟩
theorem Is.add_ge {a b r : Nat} {m n p k : Int} (ha : Is a m k) (hb : Is b n k) (hn : 0 ≤ n) (h : Ieee.double.add a b = some r) (hr : Is r p k) : m ≤ p := by
  rw [ha.le_of hr, (add_key ha.fin hb.fin h).1, ← RK_V (Nat.le_of_lt ha.fin)]
  refine RK_mono _ ?_
  have hp : (0 : Int) ≤ (2 ^ (k + 1074).toNat : Nat) := Int.natCast_nonneg _
  have := Int.mul_nonneg hn hp
  rw [hb.2.2.2]; omega
theorem Is.sub_le {a b r : Nat} {m n p k : Int} (ha : Is a m k) (hb : Is b n k) (hn : 0 ≤ n) (h : Ieee.double.sub a b = some r) (hr : Is r p k) : p ≤ m := by
  rw [hr.le_of ha, (sub_key ha.fin hb.fin h).1, ← RK_V (Nat.le_of_lt ha.fin)]
  refine RK_mono _ ?_
  have hp : (0 : Int) ≤ (2 ^ (k + 1074).toNat : Nat) := Int.natCast_nonneg _
  have := Int.mul_nonneg hn hp
  rw [hb.2.2.2]; omega
theorem rn_size {m : Int} (h : m.natAbs < 2 ^ 139) : (rn m).natAbs ≤ m.natAbs + 2 ^ 86 := by
  have := rn_err 139 h
  have e : ((2 ^ (139 - 53) : Nat) : Int) = 77371252455336267181195264 := by decide
  rw [e] at this
  have e2 : (2 : Nat) ^ 86 = 77371252455336267181195264 := by decide
  omega
theorem add_up {a b : Nat} {m n : Int} (ha : Is a m (-80)) (hb : Is b n (-80)) (hn : 0 ≤ n) (h1 : m.natAbs < 2 ^ 138) (h2 : n.natAbs < 2 ^ 138) :
    ∃ r, (∀ w, fval .add w a b = r) ∧ ndraw .add a b = 0 ∧ ∃ p, Is r p (-80) ∧ m ≤ p ∧ p.natAbs ≤ m.natAbs + n.natAbs + 2 ^ 86 := by
  obtain ⟨r, e, h⟩ := is_add ha hb (fits_of 139 960 (by omega) (by decide) (by decide))
  refine ⟨r, fval_some (op := .add) e, ndraw_some (op := .add) e, _, h, ha.add_ge hb hn e h, ?_⟩
  have := rn_size (m := m + n) (by omega)
  omega
theorem sub_down {a b : Nat} {m n : Int} (ha : Is a m (-80)) (hb : Is b n (-80)) (hn : 0 ≤ n) (h1 : m.natAbs < 2 ^ 138) (h2 : n.natAbs < 2 ^ 138) :
    ∃ r, (∀ w, fval .sub w a b = r) ∧ ndraw .sub a b = 0 ∧ ∃ p, Is r p (-80) ∧ p ≤ m ∧ p.natAbs ≤ m.natAbs + n.natAbs + 2 ^ 86 := by
  obtain ⟨r, e, h⟩ := is_sub ha hb (fits_of 139 960 (by omega) (by decide) (by decide))
  refine ⟨r, fval_some (op := .sub) e, ndraw_some (op := .sub) e, _, h, ha.sub_le hb hn e h, ?_⟩
  have := rn_size (m := m - n) (by omega)
  omega
theorem num_mid (m k : Int) (w : World) :
    Calls Try.prog 24 #[.int .i64 m, .int .i64 k] w fun e w' => ∃ x n, e = .returned (.float .f64 x) ∧ w = w' ∧ Is x n (-80) ∧ n.natAbs < 2 ^ 132 := by
  refine (num_any m k w).mono fun e w' ⟨he, hw⟩ => ?_
  have h1 := Int.emod_nonneg m (show (9007199254740992 : Int) ≠ 0 by decide)
  have h2 := Int.emod_lt_of_pos m (show (0 : Int) < 9007199254740992 by decide)
  have h3 := Int.emod_nonneg k (show (80 : Int) ≠ 0 by decide)
  have h4 := Int.emod_lt_of_pos k (show (0 : Int) < 80 by decide)
  have hi := is_scale (is_ofInt (n := m % 9007199254740992 - 4503599627370496) (by omega) (by omega)) (k % 80 - 80) (by omega) (fits_of 60 960 (by omega) (by omega) (by decide))
  have hd := hi.down (k % 80).toNat (by omega)
  have e : 0 + (k % 80 - 80) - ((k % 80).toNat : Int) = -80 := by omega
  rw [e] at hd
  refine ⟨_, _, he, hw, hd, ?_⟩
  rw [natAbs_pow]
  have : 2 ^ (k % 80).toNat ≤ 2 ^ 79 := Nat.pow_le_pow_right (by decide) (by omega)
  have h5 : (m % 9007199254740992 - 4503599627370496).natAbs ≤ 2 ^ 52 := by omega
  have := Nat.mul_le_mul h5 this
  refine Nat.lt_of_le_of_lt this (by decide)

theorem int_at {n : Int} (h1 : -9007199254740992 ≤ n) (h2 : n ≤ 9007199254740992) : Is (floatOfInt .f64 n) (n * 1208925819614629174706176) (-80) := (is_ofInt h1 h2).down 80 (by decide)
theorem zero_at : Is 0 0 (-80) := int_at (n := 0) (by decide) (by decide)
theorem one_at : Is 4607182418800017408 1208925819614629174706176 (-80) := by
  have h := int_at (n := 1) (by decide) (by decide)
  have e : floatOfInt .f64 1 = 4607182418800017408 := by decide +kernel
  rw [e] at h; exact h
/-- Some from-to of numbers, and nothing that was ahead is changed. -/
def Made (w : World) (e : Ending) (w' : World) : Prop := ∃ a b, Mid a b ∧ e = .returned (iv a b) ∧ Below w.heap.size w w'

set_option maxHeartbeats 1000000 in
theorem make2_any (m k v : Int) (w : World) : Calls Try.prog 17 #[.int .i64 m, .int .i64 k, .int .i64 v] w (Made w) := by
  go_enter Try.func17, Try.ntmps17
  go_wp2_with fail
  refine (num_mid m k _).mono ?_
  rintro e w' ⟨x, p, rfl, rfl, hx, hp⟩
  have hax := is_abs hx
  have AX := abs_quiet x
  have HX := Lib.hid hx
  have HP := Lib.hid hp
  clear hx hp
  go_wp2_with fail
  refine (within2_any _ _ _ (by decide) (by decide)).mono ?_
  rintro e w' ⟨u, rfl, hu1, hu2, rfl⟩
  have hu : u = 0 ∨ u = 1 ∨ u = 2 ∨ u = 3 ∨ u = 4 := by omega
  clear hu1 hu2
  rcases hu with rfl | rfl | rfl | rfl | rfl
  · go_wp2_with fail
    have := HP.out
    exact bodyPost_ret (v := iv x x) (by simp [results, Try.results17, go_sem]) rfl ⟨x, x, ⟨p, p, HX.out, HX.out, by omega, by omega, by omega⟩, rfl, (Below.refl _ _).alloc (Nat.le_refl _) _⟩
  · go_wp2_with fail
    refine (num_mid v k _).mono ?_
    rintro e w' ⟨y, q, rfl, rfl, hy, hq⟩
    have hay := is_abs hy
    have HY := Lib.hid hy
    have HQ := Lib.hid hq
    clear hy hq
    go_wp2_with fail
    refine (abs_quiet y _ HY.out.lt).mono ?_
    rintro e w' ⟨rfl, rfl⟩
    have h1 := HP.out
    have h2 := HQ.out
    obtain ⟨r, f1, f2, s, hs, hs1, hs2⟩ := add_up HX.out hay (by omega) (by omega) (by omega)
    have HS := Lib.hid hs
    have HS1 := Lib.hid hs1
    have HS2 := Lib.hid hs2
    clear hay hax hs hs1 hs2 h1 h2
    go_wp2_with fail
    have h1 := HP.out
    have h2 := HQ.out
    have h3 := HS2.out
    exact bodyPost_ret (v := iv x r) (by simp [results, Try.results17, go_sem]) rfl ⟨x, r, ⟨p, s, HX.out, HS.out, HS1.out, by omega, by omega⟩, rfl, (Below.refl _ _).alloc (Nat.le_refl _) _⟩
  · go_wp2_with fail
    refine (abs_quiet x _ HX.out.lt).mono ?_
    rintro e w' ⟨rfl, rfl⟩
    have h1 := HP.out
    obtain ⟨r, f1, f2, s, hs, hs1, hs2⟩ := sub_down zero_at hax (by omega) (by omega) (by omega)
    have HS := Lib.hid hs
    have HS1 := Lib.hid hs1
    have HS2 := Lib.hid hs2
    clear hax hs hs1 hs2 h1
    go_wp2_with fail
    refine (num_mid v m _).mono ?_
    rintro e w' ⟨y, q, rfl, rfl, hy, hq⟩
    have hay := is_abs hy
    have HY := Lib.hid hy
    have HQ := Lib.hid hq
    clear hy hq
    go_wp2_with fail
    refine (abs_quiet y _ HY.out.lt).mono ?_
    rintro e w' ⟨rfl, rfl⟩
    go_wp2_with fail
    have h1 := HP.out
    have h2 := HQ.out
    have h3 := HS2.out
    have h4 := HS1.out
    exact bodyPost_ret (v := iv r (y % 9223372036854775808)) (by simp [results, Try.results17, go_sem]) rfl ⟨_, _, ⟨s, q.natAbs, HS.out, hay, by omega, by omega, by omega⟩, rfl, (Below.refl _ _).alloc (Nat.le_refl _) _⟩
  · have b1 := Int.emod_nonneg m (show (9 : Int) ≠ 0 by decide)
    have b2 := Int.emod_lt_of_pos m (show (0 : Int) < 9 by decide)
    have b3 := Int.emod_nonneg k (show (5 : Int) ≠ 0 by decide)
    have b4 := Int.emod_lt_of_pos k (show (0 : Int) < 5 by decide)
    have W9 := fun W => within2_mod m 9 W (by decide) (by decide)
    have W5 := fun W => within2_mod k 5 W (by decide) (by decide)
    generalize m % 9 = u at *
    generalize k % 5 = u3 at *
    have H9 := Lib.hid W9
    have H5 := Lib.hid W5
    clear W9 W5
    go_wp2_with fail
    refine (H9.out _).mono ?_
    rintro e w' ⟨rfl, rfl⟩
    go_wp2_with fail
    refine (H9.out _).mono ?_
    rintro e w' ⟨rfl, rfl⟩
    go_wp2_with fail
    refine (H5.out _).mono ?_
    rintro e w' ⟨rfl, rfl⟩
    go_wp2_with fail
    exact bodyPost_ret (v := iv (floatOfInt .f64 (u - 4)) (floatOfInt .f64 (u - 4 + u3))) (by simp [results, Try.results17, go_sem]) rfl ⟨_, _, ⟨_, _, int_at (n := u - 4) (by omega) (by omega), int_at (n := u - 4 + u3) (by omega) (by omega), by omega, by omega, by omega⟩, rfl, (Below.refl _ _).alloc (Nat.le_refl _) _⟩
  · have h1 := HP.out
    obtain ⟨r, f1, f2, s, hs, hs1, hs2⟩ := add_up HX.out one_at (by omega) (by omega) (by omega)
    have HS := Lib.hid hs
    have HS1 := Lib.hid hs1
    have HS2 := Lib.hid hs2
    clear hax hs hs1 hs2 h1
    go_wp2_with fail
    have h1 := HP.out
    have h3 := HS2.out
    exact bodyPost_ret (v := iv x r) (by simp [results, Try.results17, go_sem]) rfl ⟨x, r, ⟨p, s, HX.out, HS.out, HS1.out, by omega, by omega⟩, rfl, (Below.refl _ _).alloc (Nat.le_refl _) _⟩

end Go.Proofs.Ytbepaoliboooaaa
