/-
  What a tape tells of numbers: one operation.
-/
import Derived.Test.YtnlbafjmbamoeaaTpm
import Derived.StillTailTactics
namespace Go.Proofs.Ytnlbafjmbamoeaa
open Go.RowKit
open Ieee (double)
attribute [local go_sem] alloc_drewN setCell_drewN call_bits call_frombits ord_lt ord_eq ord_gt ord_ne ord_le ord_ge eqB_self run_fadd run_fsub run_fmul run_fquo run_store_flt

/-- What two numbers make. -/
def opF (k : Int) (a b : Nat) : Nat := if k = 2 then cop .add a b else if k = 3 then cop .sub a b else if k = 4 then cop .mul a b else cop .quo a b
/-- Some number that is this one (a NaN as one). -/
def TellsF (c : Nat) (w : World) (e : Ending) (w' : World) : Prop := ∃ x n, e = .returned (.float .f64 x) ∧ canon x = c ∧ x < 18446744073709551616 ∧ w' = w.drewN n
theorem TellsF.of {op : BinOp} {w w1 : World} {a b n : Nat} : TellsF (cop op a b) w (.returned (.float .f64 (fval op w1 a b))) (w.drewN n) := ⟨_, _, rfl, canon_fval _ _ _ _, fval_lt _ _ _ _, rfl⟩
theorem one_tells (k : Int) (a b : Nat) (w : World) : Calls Try.prog 72 #[.int .i64 k, .float .f64 a, .float .f64 b] w (TellsF (opF k a b) w) := by
  unfold opF
  go_enter Try.func72, Try.ntmps72
  by_cases k2 : k = 2
  · subst k2
    go_wp2_with fail
    go_ret
    exact TellsF.of
  · by_cases k3 : k = 3
    · subst k3
      go_wp2_with fail
      go_ret
      exact TellsF.of
    · by_cases k4 : k = 4
      · subst k4
        go_wp2_with fail
        go_ret
        exact TellsF.of
      · rw [if_neg k2, if_neg k3, if_neg k4]
        go_wp2_with fail
        go_ret
        exact TellsF.of
theorem fl1_tells (a : Nat) (w : World) : Calls Try.prog 79 #[.float .f64 a] w fun e w' => e = .returned (.float .f64 a) ∧ w = w' := by
  go_enter Try.func79, Try.ntmps79
  go_wp2_with fail
  go_ret
  exact ⟨rfl, rfl⟩
theorem fl2_tells (a b : Nat) (w : World) : Calls Try.prog 80 #[.float .f64 a, .float .f64 b] w (TellsF (cop .add a b) w) := by
  go_enter Try.func80, Try.ntmps80
  go_wp2_with fail
  go_ret
  exact TellsF.of
theorem fl3_tells (a b : Nat) (w : World) : Calls Try.prog 81 #[.float .f64 a, .float .f64 b] w (TellsF (cop .sub a b) w) := by
  go_enter Try.func81, Try.ntmps81
  go_wp2_with fail
  go_ret
  exact TellsF.of
theorem fl4_tells (a b : Nat) (w : World) : Calls Try.prog 82 #[.float .f64 a, .float .f64 b] w (TellsF (cop .mul a b) w) := by
  go_enter Try.func82, Try.ntmps82
  go_wp2_with fail
  go_ret
  exact TellsF.of
theorem fl5_tells (a b : Nat) (w : World) : Calls Try.prog 83 #[.float .f64 a, .float .f64 b] w (TellsF (cop .quo a b) w) := by
  go_enter Try.func83, Try.ntmps83
  go_wp2_with fail
  go_ret
  exact TellsF.of
/-- A slice that reads as these numbers (a NaN as one). -/
def FltsC (w : World) (v : Value) (len : Nat) (f : Nat → Nat) : Prop :=
  ∃ a cap, v = .slice a len cap ∧ len ≤ 9223372036854775807 ∧ (0 < len → ∃ b off, a = some ⟨b, off, none⟩ ∧ b < w.heap.size ∧ ∀ i, i < len → ∃ y, w.cell? ⟨b, off + i, none⟩ = some (.float .f64 y) ∧ canon y = f i ∧ y < 18446744073709551616)
theorem FltsC.below {w w' : World} {v : Value} {len : Nat} {f : Nat → Nat} (h : FltsC w v len f) (hb : Below w.heap.size w w') : FltsC w' v len f := by
  obtain ⟨a, cap, h1, h2, h3⟩ := h
  refine ⟨a, cap, h1, h2, fun hl => ?_⟩
  obtain ⟨b, off, e, hs, hc⟩ := h3 hl
  obtain ⟨hk, -⟩ := belowC hb
  refine ⟨b, off, e, Nat.lt_of_lt_of_le hs hb.size, fun i hi => ?_⟩
  obtain ⟨y, c1, c2, c3⟩ := hc i hi
  exact ⟨y, by rw [hk _ _ hs]; exact c1, c2, c3⟩
/-- What an operation tells, of these numbers, of what the ones ahead of it told. -/
def valO (o : OpD) (x r : Nat → Nat) : Nat :=
  if o.k = 0 then canon o.c else if o.k = 1 then x o.a.toNat else opF o.k (r o.a.toNat) (r o.b.toNat)
def kindF : Value := .agg #[.func (.func 79) #[] #[], .func (.func 80) #[] #[], .func (.func 81) #[] #[], .func (.func 82) #[] #[], .func (.func 83) #[] #[]]
def TellsB (c : Nat) (w : World) (e : Ending) (w' : World) : Prop := ∃ x, e = .returned (.float .f64 x) ∧ canon x = c ∧ x < 18446744073709551616 ∧ Below w.heap.size w w'
theorem op_boxes (w : World) (A A2 : Nat) (k : Int) (c : Nat) :
    let W := (w.alloc (.cells #[.func (.func 79) #[] #[], .func (.func 80) #[] #[], .func (.func 81) #[] #[], .func (.func 82) #[] #[], .func (.func 83) #[] #[]] 99)).alloc (.cells #[.int .i64 k, .int .i64 A, .int .i64 A2, .float .f64 c] 47)
    W.cell? ⟨w.heap.size, 1, none⟩ = some (.func (.func 80) #[] #[]) ∧ W.cell? ⟨w.heap.size, 2, none⟩ = some (.func (.func 81) #[] #[]) ∧ W.cell? ⟨w.heap.size, 3, none⟩ = some (.func (.func 82) #[] #[]) ∧ W.cell? ⟨w.heap.size, 4, none⟩ = some (.func (.func 83) #[] #[]) ∧
    W.cell? ⟨w.heap.size + 1, 1, none⟩ = some (.int .i64 A) ∧ W.cell? ⟨w.heap.size + 1, 2, none⟩ = some (.int .i64 A2) := by
  have e : (w.alloc (.cells #[.func (.func 79) #[] #[], .func (.func 80) #[] #[], .func (.func 81) #[] #[], .func (.func 82) #[] #[], .func (.func 83) #[] #[]] 99)).heap.size = w.heap.size + 1 := by simp
  refine ⟨?_, ?_, ?_, ?_, ?_, ?_⟩
  iterate 4 (rw [World.cell?_alloc_lt _ _ _ (show w.heap.size < _ by rw [e]; omega), World.cell?_alloc_new]; rfl)
  iterate 2 (rw [← e, World.cell?_alloc_new]; rfl)
theorem belowB_nat {a n : Int} (h : belowB a n = true) : ∃ A : Nat, a = A ∧ (A : Int) < n := by
  unfold belowB at h
  simp only [Bool.and_eq_true, decide_eq_true_eq] at h
  exact ⟨a.toNat, by omega, by omega⟩
set_option maxRecDepth 100000 in
set_option maxHeartbeats 4000000 in
theorem operation_tells (o : OpD) (n i len : Nat) (x r : Nat → Nat) (vx : Value) (R cap : Nat) (w : World) (hst : standsB o i n = true) (hc : o.c < 18446744073709551616) (hx : FltsC w vx n x) (hi : i < len) (_ : len ≤ 60) (hR : R < w.heap.size)
    (hr : ∀ j, j < i → ∃ y, w.cell? ⟨R, j, none⟩ = some (.float .f64 y) ∧ canon y = r j ∧ y < 18446744073709551616) :
    Calls Try.prog 98 #[kindF, opV o, vx, .slice (some ⟨R, 0, none⟩) len cap] w (TellsB (valO o x r) w) := by
  obtain ⟨k, a, b, c⟩ := o
  have hb1 : Below w.heap.size w ((w.alloc (.cells #[.func (.func 79) #[] #[], .func (.func 80) #[] #[], .func (.func 81) #[] #[], .func (.func 82) #[] #[], .func (.func 83) #[] #[]] 99)).alloc (.cells #[.int .i64 k, .int .i64 a, .int .i64 b, .float .f64 c] 47)) := ((Below.refl _ _).alloc (Nat.le_refl _) _).alloc (by simp) _
  unfold opV valO kindF
  unfold standsB at hst
  simp only [] at hst hc ⊢
  go_enter Try.func98, Try.ntmps98
  by_cases k0 : k = 0
  · subst k0
    go_wp2_with fail
    refine (fl1_tells c _).mono ?_
    rintro e w' ⟨rfl, rfl⟩
    go_wp2_with fail
    go_ret
    exact ⟨c, rfl, rfl, hc, hb1⟩
  · by_cases k1 : k = 1
    · subst k1
      simp only [if_neg k0, if_true, Bool.and_eq_true] at hst
      obtain ⟨A, rfl, hA⟩ := belowB_nat hst.1
      obtain ⟨xa, xcap, rfl, hx1, hx2⟩ := hx
      obtain ⟨xb, xo, rfl, hxs, hxc⟩ := hx2 (by omega)
      obtain ⟨y, hy1, hy2, hy3⟩ := hxc A (by omega)
      have y1 := ((belowC hb1).1 xb (xo + A) hxs).trans hy1
      clear hxc hx2 hr hst
      go_wp2_with fail
      go_ret
      exact ⟨y, rfl, hy2, hy3, hb1⟩
    · have hk : 2 ≤ k ∧ k ≤ 5 := by
        rw [if_neg k0, if_neg k1] at hst
        by_cases h : 2 ≤ k ∧ k ≤ 5
        · exact h
        · rw [if_neg h] at hst; cases hst
      rw [if_neg k0, if_neg k1, if_pos hk] at hst
      simp only [Bool.and_eq_true] at hst
      obtain ⟨A, rfl, hA⟩ := belowB_nat hst.1
      obtain ⟨A2, rfl, hA2⟩ := belowB_nat hst.2.1
      obtain ⟨u1, hu1, hu2, hu3⟩ := hr A (by omega)
      obtain ⟨u2, hv1, hv2, hv3⟩ := hr A2 (by omega)
      have y1 := ((belowC hb1).1 R A hR).trans hu1
      have y2 := ((belowC hb1).1 R A2 hR).trans hv1
      have a1 : (A : Int) < (len : Int) := by omega
      have a2 : (A2 : Int) < (len : Int) := by omega
      have E : ∀ op, cop op (r A) (r A2) = cop op u1 u2 := fun op => by rw [← hu2, ← hv2, cop_canon_left, cop_canon_right]
      have HE := Lib.hid E
      clear E hr hst hu1 hv1 hu2 hv2 hx
      have hk' : k = 2 ∨ k = 3 ∨ k = 4 ∨ k = 5 := by omega
      rcases hk' with rfl | rfl | rfl | rfl
      · go_wp2_with fail
        obtain ⟨g1, g2, g3, g4, g5, g6⟩ := op_boxes w A A2 2 c
        generalize (w.alloc (.cells #[.func (.func 79) #[] #[], .func (.func 80) #[] #[], .func (.func 81) #[] #[], .func (.func 82) #[] #[], .func (.func 83) #[] #[]] 99)).alloc (.cells #[.int .i64 2, .int .i64 A, .int .i64 A2, .float .f64 c] 47) = W1 at *
        go_still_tail 12, (by kernel_rfl)
        change wpList _ _ _ _ _ W1.drew
        go_wp2_with fail
        refine (fl2_tells u1 u2 _).mono ?_
        rintro e w' ⟨z, m, rfl, hz1, hz2, rfl⟩
        go_wp2_with fail
        go_ret
        exact ⟨_, rfl, by rw [hz1]; exact (show opF 2 (r A) (r A2) = cop .add u1 u2 from HE.out .add).symm, hz2, below_drew hb1 _⟩
      · go_wp2_with fail
        obtain ⟨g1, g2, g3, g4, g5, g6⟩ := op_boxes w A A2 3 c
        generalize (w.alloc (.cells #[.func (.func 79) #[] #[], .func (.func 80) #[] #[], .func (.func 81) #[] #[], .func (.func 82) #[] #[], .func (.func 83) #[] #[]] 99)).alloc (.cells #[.int .i64 3, .int .i64 A, .int .i64 A2, .float .f64 c] 47) = W1 at *
        go_still_tail 12, (by kernel_rfl)
        change wpList _ _ _ _ _ W1.drew
        go_wp2_with fail
        refine (fl3_tells u1 u2 _).mono ?_
        rintro e w' ⟨z, m, rfl, hz1, hz2, rfl⟩
        go_wp2_with fail
        go_ret
        exact ⟨_, rfl, by rw [hz1]; exact (show opF 3 (r A) (r A2) = cop .sub u1 u2 from HE.out .sub).symm, hz2, below_drew hb1 _⟩
      · go_wp2_with fail
        obtain ⟨g1, g2, g3, g4, g5, g6⟩ := op_boxes w A A2 4 c
        generalize (w.alloc (.cells #[.func (.func 79) #[] #[], .func (.func 80) #[] #[], .func (.func 81) #[] #[], .func (.func 82) #[] #[], .func (.func 83) #[] #[]] 99)).alloc (.cells #[.int .i64 4, .int .i64 A, .int .i64 A2, .float .f64 c] 47) = W1 at *
        go_still_tail 12, (by kernel_rfl)
        change wpList _ _ _ _ _ W1.drew
        go_wp2_with fail
        refine (fl4_tells u1 u2 _).mono ?_
        rintro e w' ⟨z, m, rfl, hz1, hz2, rfl⟩
        go_wp2_with fail
        go_ret
        exact ⟨_, rfl, by rw [hz1]; exact (show opF 4 (r A) (r A2) = cop .mul u1 u2 from HE.out .mul).symm, hz2, below_drew hb1 _⟩
      · go_wp2_with fail
        obtain ⟨g1, g2, g3, g4, g5, g6⟩ := op_boxes w A A2 5 c
        generalize (w.alloc (.cells #[.func (.func 79) #[] #[], .func (.func 80) #[] #[], .func (.func 81) #[] #[], .func (.func 82) #[] #[], .func (.func 83) #[] #[]] 99)).alloc (.cells #[.int .i64 5, .int .i64 A, .int .i64 A2, .float .f64 c] 47) = W1 at *
        go_still_tail 12, (by kernel_rfl)
        change wpList _ _ _ _ _ W1.drew
        go_wp2_with fail
        refine (fl5_tells u1 u2 _).mono ?_
        rintro e w' ⟨z, m, rfl, hz1, hz2, rfl⟩
        go_wp2_with fail
        go_ret
        exact ⟨_, rfl, by rw [hz1]; exact (show opF 5 (r A) (r A2) = cop .quo u1 u2 from HE.out .quo).symm, hz2, below_drew hb1 _⟩
end Go.Proofs.Ytnlbafjmbamoeaa
