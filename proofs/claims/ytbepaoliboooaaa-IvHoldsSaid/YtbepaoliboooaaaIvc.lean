/-
  From, to: products, quotients, sizes of from-tos: what each call of iv gives; from-tos made of whole numbers; the chapter's examples.
-/
import Derived.Test.YtbepaoliboooaaaIvb
namespace Go.Proofs.Ytbepaoliboooaaa
open Go.RowKit
attribute [local go_sem] alloc_drewN setCell_drewN call_bits call_frombits ord_lt ord_eq ord_gt ord_ne ord_le ord_ge eqB_self run_fadd run_fsub run_fmul run_fquo run_store_f64

theorem aroundI_fval (o : BinOp) (w1 w2 w3 w4 : World) (a1 b1 a2 b2 a3 b3 a4 b4 : Nat) :
    aroundI (fval o w1 a1 b1) (fval o w2 a2 b2) (fval o w3 a3 b3) (fval o w4 a4 b4) = aroundI (cop o a1 b1) (cop o a2 b2) (cop o a3 b3) (cop o a4 b4) := by
  rw [← aroundI_canon, canon_fval, canon_fval, canon_fval, canon_fval]

def mulI (a b c d : Nat) : Value := aroundI (cop .mul a c) (cop .mul a d) (cop .mul b c) (cop .mul b d)
def divI (a b c d : Nat) : Value := if leB c 0 && leB 0 d then iv 18442240474082181120 9218868437227405312 else aroundI (cop .quo a c) (cop .quo a d) (cop .quo b c) (cop .quo b d)
def magB (a b : Nat) : Nat := if ltB (b % 9223372036854775808) (a % 9223372036854775808) then a % 9223372036854775808 else b % 9223372036854775808

set_option maxHeartbeats 1000000 in
theorem mul_any (a b c d : Nat) (w : World) : Calls Try.prog 35 #[iv a b, iv c d] w (Gives (mulI a b c d) w) := by
  unfold mulI
  obtain ⟨x, y, hxy⟩ := aroundI_two (cop .mul a c) (cop .mul a d) (cop .mul b c) (cop .mul b d)
  rw [hxy]
  have hm : ∀ W w1 w2 w3 w4, Calls Try.prog 58 #[arr4 (fval .mul w1 a c) (fval .mul w2 a d) (fval .mul w3 b c) (fval .mul w4 b d)] W (Gives (iv x y) W) := fun W w1 w2 w3 w4 =>
    (around_any _ _ _ _ W (fval_lt _ _ _ _) (fval_lt _ _ _ _) (fval_lt _ _ _ _) (fval_lt _ _ _ _)).mono fun _ _ h => h.eq (by rw [aroundI_fval, hxy])
  have HM := Lib.hid hm
  clear hm hxy
  go_enter Try.func35, Try.ntmps35
  go_wp2_with fail
  refine (HM.out _ _ _ _ _).mono ?_
  rintro e w1 ⟨rfl, hb1⟩
  obtain ⟨hc, hf⟩ := bcell hb1
  have k0 : w1.cell? ⟨w.heap.size + 2, 0, none⟩ = some (.float .f64 0) := by rw [hc _ _ (by simp)]; go_simp
  have k1 : w1.cell? ⟨w.heap.size + 2, 1, none⟩ = some (.float .f64 0) := by rw [hc _ _ (by simp)]; go_simp
  have K := Lib.hid (two_cells (.float .f64 x) (.float .f64 y) k0 k1)
  go_wp2_with fail
  exact bodyPost_ret (v := iv x y) (by simp [results, Try.results35, go_sem, K.out.1, K.out.2]) rfl ⟨rfl, (by
    refine Below.setCell (Below.setCell (Below.trans ?_ (hb1.mono (by simp <;> omega))) (by simp <;> omega) _) (by simp <;> omega) _
    repeat (first | exact Below.refl _ _ | refine below_drew ?_ _ | refine Below.alloc ?_ (by simp <;> omega) _))⟩

set_option maxHeartbeats 1000000 in
theorem div_any (a b c d : Nat) (w : World) : Calls Try.prog 37 #[iv a b, iv c d] w (Gives (divI a b c d) w) := by
  unfold divI
  have hin := fun W => in_any 0 c d W
  cases h0 : (leB c 0 && leB 0 d)
  · rw [h0] at hin
    rw [if_neg (by decide)]
    obtain ⟨x, y, hxy⟩ := aroundI_two (cop .quo a c) (cop .quo a d) (cop .quo b c) (cop .quo b d)
    rw [hxy]
    have hm : ∀ W w1 w2 w3 w4, Calls Try.prog 58 #[arr4 (fval .quo w1 a c) (fval .quo w2 a d) (fval .quo w3 b c) (fval .quo w4 b d)] W (Gives (iv x y) W) := fun W w1 w2 w3 w4 =>
      (around_any _ _ _ _ W (fval_lt _ _ _ _) (fval_lt _ _ _ _) (fval_lt _ _ _ _) (fval_lt _ _ _ _)).mono fun _ _ h => h.eq (by rw [aroundI_fval, hxy])
    have HM := Lib.hid hm
    have HI := Lib.hid hin
    clear hm hxy hin h0
    go_enter Try.func37, Try.ntmps37
    go_wp2_with fail
    refine (HI.out _).mono ?_
    rintro e w1 ⟨rfl, hb1⟩
    obtain ⟨hc, hf⟩ := bcell hb1
    go_wp2_with fail
    refine (HM.out _ _ _ _ _).mono ?_
    rintro e w2 ⟨rfl, hb2⟩
    have hc2 : ∀ b o, b < w1.heap.size → w2.cell? ⟨b, o, none⟩ = w1.cell? ⟨b, o, none⟩ := fun b o h => (bcell hb2).1 b o h
    have hf2 : ∀ b o, b < w1.heap.size → w2.frozen? ⟨b, o, none⟩ = w1.frozen? ⟨b, o, none⟩ := fun b o h => (bcell hb2).2 b o h
    have hz : w.heap.size + 2 < w1.heap.size := by have := hb1.size; simp at this; omega
    have hz2 : w.heap.size + 1 + 1 < w1.heap.size := hz
    have k0 : w2.cell? ⟨w.heap.size + 2, 0, none⟩ = some (.float .f64 0) := by rw [hc2 _ _ hz, hc _ _ (by simp)]; go_simp
    have k1 : w2.cell? ⟨w.heap.size + 2, 1, none⟩ = some (.float .f64 0) := by rw [hc2 _ _ hz, hc _ _ (by simp)]; go_simp
    have K := Lib.hid (two_cells (.float .f64 x) (.float .f64 y) k0 k1)
    go_wp2_with fail
    exact bodyPost_ret (v := iv x y) (by simp [results, Try.results37, go_sem, K.out.1, K.out.2]) rfl ⟨rfl, (by
      refine Below.setCell (Below.setCell (Below.trans (below_drew (Below.trans ?_ (hb1.mono (by simp <;> omega))) _) (hb2.mono (by simp <;> omega))) (by simp <;> omega) _) (by simp <;> omega) _
      repeat (first | exact Below.refl _ _ | refine below_drew ?_ _ | refine Below.alloc ?_ (by simp <;> omega) _))⟩
  · rw [h0] at hin
    rw [if_pos rfl]
    have HI := Lib.hid hin
    clear hin h0
    go_enter Try.func37, Try.ntmps37
    go_wp2_with fail
    refine (HI.out _).mono ?_
    rintro e w1 ⟨rfl, hb1⟩
    obtain ⟨hc, hf⟩ := bcell hb1
    go_wp2_with fail
    refine (whole_any _).mono ?_
    rintro e w2 ⟨rfl, hb2⟩
    obtain ⟨hc2, hf2⟩ := bcell hb2
    have hz : w.heap.size + 2 < w1.heap.size := by have := hb1.size; simp at this; omega
    have hz2 : w.heap.size + 1 + 1 < w1.heap.size := hz
    have k0 : w2.cell? ⟨w.heap.size + 2, 0, none⟩ = some (.float .f64 0) := by rw [hc2 _ _ hz, hc _ _ (by simp)]; go_simp
    have k1 : w2.cell? ⟨w.heap.size + 2, 1, none⟩ = some (.float .f64 0) := by rw [hc2 _ _ hz, hc _ _ (by simp)]; go_simp
    have K := Lib.hid (two_cells (.float .f64 18442240474082181120) (.float .f64 9218868437227405312) k0 k1)
    go_wp2_with fail
    exact bodyPost_ret (v := iv 18442240474082181120 9218868437227405312) (by simp [results, Try.results37, go_sem, K.out.1, K.out.2]) rfl ⟨rfl, (by
      refine Below.setCell (Below.setCell (Below.trans (Below.trans ?_ (hb1.mono (by simp <;> omega))) (hb2.mono (by omega))) (by simp <;> omega) _) (by simp <;> omega) _
      repeat (first | exact Below.refl _ _ | refine below_drew ?_ _ | refine Below.alloc ?_ (by simp <;> omega) _))⟩

theorem abs_quiet (x : Nat) (w : World) (hx : x < 18446744073709551616) : Calls Try.prog 45 #[.float .f64 x] w fun e w' => e = .returned (.float .f64 (x % 9223372036854775808)) ∧ w' = w :=
  (abs_any x w hx).mono fun _ _ ⟨h1, h2⟩ => ⟨h1, h2.symm⟩
theorem mag_any (a b : Nat) (w : World) (ha : a < 18446744073709551616) (hb : b < 18446744073709551616) : Calls Try.prog 41 #[iv a b] w (Gives (.float .f64 (magB a b)) w) := by
  unfold magB
  cases h : ltB (b % 9223372036854775808) (a % 9223372036854775808)
  · go_enter Try.func41, Try.ntmps41
    go_wp2
    go_quiet ((go_at_call 45; exact Calls.quiet_of_same (abs_quiet _ _ (by assumption))))
    go_wp2
    go_ret
    exact ⟨rfl, below_drew ((Below.refl _ _).alloc (Nat.le_refl _) _) _⟩
  · go_enter Try.func41, Try.ntmps41
    go_wp2
    go_quiet ((go_at_call 45; exact Calls.quiet_of_same (abs_quiet _ _ (by assumption))))
    go_wp2
    go_ret
    exact ⟨rfl, below_drew ((Below.refl _ _).alloc (Nat.le_refl _) _) _⟩

end Go.Proofs.Ytbepaoliboooaaa
