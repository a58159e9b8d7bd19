/-
  Sums and products of whole numbers, with what is left: what the calls give; the laws of whole numbers, walked.
-/
import Derived.Test.YtjeahlknhcbiiaaFpe
import Derived.Test.YtjeahlknhcbiiaaMg
namespace Go.Proofs.Ytjeahlknhcbiiaa
open Go.RowKit
open Ieee (double)
attribute [local go_sem] alloc_drewN setCell_drewN call_bits call_frombits ord_lt ord_eq ord_gt ord_ne ord_le ord_ge eqB_self run_fadd run_fsub run_fmul run_fquo call_fma run_fneg

theorem within_range (a n : Int) (w : World) (h1 : 1 ≤ n) (h2 : n ≤ 9223372036854775807) :
    Calls Try.prog 25 #[.int .i64 a, .int .i64 n] w fun e w' => ∃ u : Int, e = .returned (.int .i64 u) ∧ 0 ≤ u ∧ u < n ∧ w = w' :=
  (within_any a n w h1 h2).mono fun _ _ ⟨he, hw⟩ => ⟨_, he, Int.emod_nonneg a (by omega), Int.emod_lt_of_pos a (by omega), hw⟩

theorem cop_is {op : BinOp} {a b r : Nat} {m k : Int} (h : floatBits op .f64 a b = some r) (hr : Is r m k) : Is (cop op a b) m k := by
  rw [cop_some h, canon_num hr.num]; exact hr

/-- A sum, and what is left. -/
theorem sum_is {A B : Nat} {p q k : Int} (ha : Is A p k) (hb : Is B q k) (hp : p.natAbs < 2 ^ 59) (hq : q.natAbs < 2 ^ 59) (hk : k ≤ 900)
    (h1 : -9007199254740992 ≤ q + (rn (p + q) - (p + q))) (h2 : q + (rn (p + q) - (p + q)) ≤ 9007199254740992)
    (h3 : -9007199254740992 ≤ rn (p + q) - (p + q)) (h4 : rn (p + q) - (p + q) ≤ 9007199254740992) :
    Is (cop .add A B) (rn (p + q)) k ∧ Is (sumRest A B) (p + q - rn (p + q)) k := by
  have F : ∀ m : Int, m.natAbs < 2 ^ 63 → Fits m k := fun m hm => fits_of 63 963 hm (by omega) (by decide)
  obtain ⟨s, e1, hs⟩ := is_add ha hb (F _ (by omega))
  have cs := cop_is (op := .add) e1 hs
  refine ⟨cs, ?_⟩
  generalize hM : rn (p + q) = M at *
  generalize hS : cop .add A B = S at *
  obtain ⟨v, e2, hv⟩ := is_sub cs ha (F _ (by omega))
  rw [show M - p = q + (M - (p + q)) by omega, rn_small h1 h2] at hv
  have cv := cop_is (op := .sub) e2 hv
  obtain ⟨x1, e3, hx1⟩ := is_sub cs cv (F _ (by omega))
  rw [show M - (q + (M - (p + q))) = p by omega, ha.self] at hx1
  have cx1 := cop_is (op := .sub) e3 hx1
  obtain ⟨x2, e4, hx2⟩ := is_sub ha cx1 (F _ (by omega))
  rw [Int.sub_self, show rn 0 = 0 by decide] at hx2
  have cx2 := cop_is (op := .sub) e4 hx2
  obtain ⟨y, e5, hy⟩ := is_sub hb cv (F _ (by omega))
  rw [show q - (q + (M - (p + q))) = p + q - M by omega, rn_small (by omega) (by omega)] at hy
  have cy := cop_is (op := .sub) e5 hy
  obtain ⟨z, e6, hz⟩ := is_add cx2 cy (F _ (by omega))
  rw [Int.zero_add, rn_small (by omega) (by omega)] at hz
  unfold sumRest
  rw [hS]
  exact cop_is (op := .add) e6 hz

/-- A product, and what is left. -/
theorem mul_is {A B : Nat} {p q k l : Int} (ha : Is A p k) (hb : Is B q l) (hkl : -1074 ≤ k + l) (hk : k + l ≤ 900) (hp : (p * q).natAbs < 2 ^ 110)
    (h1 : -9007199254740992 ≤ p * q - rn (p * q)) (h2 : p * q - rn (p * q) ≤ 9007199254740992) :
    Is (cop .mul A B) (rn (p * q)) (k + l) ∧ Is (mulRest A B) (p * q - rn (p * q)) (k + l) := by
  have F : ∀ m : Int, m.natAbs < 2 ^ 110 → Fits m (k + l) := fun m hm => fits_of 110 1010 hm (by omega) (by decide)
  obtain ⟨s, e1, hs⟩ := is_mul ha hb hkl (F _ hp)
  have cs := cop_is (op := .mul) e1 hs
  refine ⟨cs, ?_⟩
  have cf := is_flip cs
  obtain ⟨z, e2, hz⟩ := is_fma ha hb cf (F _ (by omega))
  rw [show p * q + -rn (p * q) = p * q - rn (p * q) by omega, rn_small (by omega) (by omega)] at hz
  have : mulRest A B = z := by
    unfold mulRest cfma; rw [e2]; exact canon_num hz.num
  rw [this]; exact hz

def IsTwo (m n k : Int) (w : World) (e : Ending) (w' : World) : Prop :=
  ∃ x y j, e = .returned (.tuple #[.float .f64 x, .float .f64 y]) ∧ w' = w.drewN j ∧ Is x m k ∧ Is y n k
theorem Two.is {s t : Nat} {w w' : World} {e : Ending} {m n k : Int} (h : Two s t w e w') (hs : Is s m k) (ht : Is t n k) : IsTwo m n k w e w' := by
  obtain ⟨a, b, j, h1, h2, h3, h4, _, _⟩ := h
  have e1 := canon_eq_num h3 hs.num
  have e2 := canon_eq_num h4 ht.num
  subst e1; subst e2
  exact ⟨_, _, j, h1, h2, hs, ht⟩
theorem twoSum_is {A B : Nat} {p q k : Int} (w : World) (ha : Is A p k) (hb : Is B q k) (hp : p.natAbs < 2 ^ 59) (hq : q.natAbs < 2 ^ 59) (hk : k ≤ 900)
    (h1 : -9007199254740992 ≤ q + (rn (p + q) - (p + q))) (h2 : q + (rn (p + q) - (p + q)) ≤ 9007199254740992)
    (h3 : -9007199254740992 ≤ rn (p + q) - (p + q)) (h4 : rn (p + q) - (p + q) ≤ 9007199254740992) :
    Calls Try.prog 27 #[.float .f64 A, .float .f64 B] w (IsTwo (rn (p + q)) (p + q - rn (p + q)) k w) :=
  (twoSum_any A B w).mono fun _ _ h => h.is (sum_is ha hb hp hq hk h1 h2 h3 h4).1 (sum_is ha hb hp hq hk h1 h2 h3 h4).2
theorem twoMul_is {A B : Nat} {p q k l : Int} (w : World) (ha : Is A p k) (hb : Is B q l) (hkl : -1074 ≤ k + l) (hk : k + l ≤ 900) (hp : (p * q).natAbs < 2 ^ 110)
    (h1 : -9007199254740992 ≤ p * q - rn (p * q)) (h2 : p * q - rn (p * q) ≤ 9007199254740992) :
    Calls Try.prog 29 #[.float .f64 A, .float .f64 B] w (IsTwo (rn (p * q)) (p * q - rn (p * q)) (k + l) w) :=
  (twoMul_any A B w).mono fun _ _ h => h.is (mul_is ha hb hkl hk hp h1 h2).1 (mul_is ha hb hkl hk hp h1 h2).2

theorem conv_is {a : Nat} {m : Int} (h : Is a m 0) (h1 : -9223372036854775808 ≤ m) (h2 : m ≤ 9223372036854775807) (w : World) :
    (convert 22 3 (.float .f64 a)).run Try.prog w = .ok (.int .i64 m) w :=
  run_convert_float_int w 22 3 .f64 .i64 a m (by kernel_rfl) Try.underlying3 (is_toInt h h1 h2)
theorem one_is : Is 4607182418800017408 1 0 := is_ofInt (n := 1) (by decide) (by decide)
theorem zero_is : Is 0 0 0 := is_ofInt (n := 0) (by decide) (by decide)

set_option maxRecDepth 100000 in
set_option maxHeartbeats 1000000 in
theorem fpSums_walk (a b : Int) (w : World) (_h : -9223372036854775808 ≤ a ∧ a ≤ 9223372036854775807) (_h' : -9223372036854775808 ≤ b ∧ b ≤ 9223372036854775807) :
    Calls Try.prog 4 #[.int .i64 a, .int .i64 b] w fun e w' => e = .returned (.bool true) ∧ Below w.heap.size w w' := by
  go_enter Try.func4, Try.ntmps4
  go_wp2_with (go_at_call 14; refine (known_any _).mono ?_; rintro e w' ⟨n, rfl, rfl⟩)
  refine (within_range _ _ _ (by decide) (by decide)).mono ?_
  rintro e w' ⟨u', rfl, hu1', hu2', rfl⟩
  go_wp2_with fail
  refine (within_range _ _ _ (by decide) (by decide)).mono ?_
  rintro e w' ⟨u, rfl, hu1, hu2, rfl⟩
  go_wp2_with fail
  have hx := is_ofInt (n := u' - 9007199254740992 + 1) (by omega) (by omega)
  have hy := is_ofInt (n := u - 9007199254740992 + 1) (by omega) (by omega)
  have he := rn_err (m := u' - 9007199254740992 + 1 + (u - 9007199254740992 + 1)) 54 (by omega)
  have e2 : ((2 ^ (54 - 53) : Nat) : Int) = 2 := by decide
  rw [e2] at he
  refine (twoSum_is _ hx hy (by omega) (by omega) (by decide) (by omega) (by omega) (by omega) (by omega)).mono ?_
  rintro e w' ⟨s, t, j, rfl, rfl, hs, ht⟩
  generalize hM : rn (u' - 9007199254740992 + 1 + (u - 9007199254740992 + 1)) = M at *
  generalize hD : u' - 9007199254740992 + 1 + (u - 9007199254740992 + 1) - M = D at *
  have k1 := conv_is hs (by omega) (by omega)
  have k2 := conv_is ht (by omega) (by omega)
  have k3 := is_le (is_abs ht) one_is
  rw [decide_eq_true (by omega)] at k3
  have k4 : (M + D == u' - 9007199254740992 + 1 + (u - 9007199254740992 + 1)) = true := by simp; omega
  have b1 : -18014398509481984 ≤ M := by omega
  have b2 : M ≤ 18014398509481984 := by omega
  have b3 : -1 ≤ D := by omega
  have b4 : D ≤ 1 := by omega
  have tl := ht.lt
  clear hs ht hD hM he e2 hx hy
  go_wp2_with (go_at_call 31; refine (abs_any _ _ tl).mono ?_; rintro e w' ⟨rfl, rfl⟩)
  go_ret
  exact ⟨rfl, below_drew (Below.refl _ _) _⟩

end Go.Proofs.Ytjeahlknhcbiiaa
