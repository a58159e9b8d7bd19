/-
  What a tape tells of numbers: Eval, as the program does it.
-/
import Derived.Test.YtnlbafjmbamoeaaTpr
import Derived.Deep.RegionHeld3
namespace Go.Proofs.Ytnlbafjmbamoeaa
open Go.RowKit
open Ieee (double)
attribute [local go_sem] alloc_drewN setCell_drewN call_bits call_frombits ord_lt ord_eq ord_gt ord_ne ord_le ord_ge eqB_self run_fadd run_fsub run_fmul run_fquo run_store_flt

theorem run_store_fn (P : Program) (w : World) (a : Addr) (m : Mode) (f : Fn) : (store a (.func f #[] #[]) m).run P w = stored P w a (.func f #[] #[]) m := run_store P w a _ m rfl
attribute [local go_sem] run_store_fn
theorem floats_tells (w : World) : Calls Try.prog 64 #[] w (Tells kindF w) := by
  unfold kindF
  go_enter Try.func64, Try.ntmps64
  go_wp2_with fail
  refine bodyPost_ret (v := .agg #[.func (.func 79) #[] #[], .func (.func 80) #[] #[], .func (.func 81) #[] #[], .func (.func 82) #[] #[], .func (.func 83) #[] #[]]) (by simp [results, Try.results64, go_sem]) rfl ⟨rfl, (Below.refl _ _).alloc (Nat.le_refl _) _⟩
set_option maxRecDepth 100000 in
set_option maxHeartbeats 4000000 in
theorem runF_own (T : TD) (v vx : Value) (x : Nat → Nat) (w : World) (h : TapeAt w v T) (hck : checkB T = true) (hcs : ∀ i, i < T.len → (T.op i).c < 18446744073709551616) (nn : Nat) (hn : T.n = nn) (hx : FltsC w vx nn x) :
    Calls Try.prog 74 #[kindF, v, vx] w (OwnT nn (fun i => evR T.op x (T.out i).toNat) w) := by
  have hT := h
  obtain ⟨n, len, op, lo, out⟩ := T
  obtain ⟨vo, vu, rfl, ⟨a, cap, rfl, hl1, ho⟩, ⟨a2, cap2, rfl, hl2, hu⟩⟩ := h
  simp only [] at hn
  subst hn
  have CK := Lib.hid fun (W : World) (hb : Below w.heap.size w W) => (check_tells _ _ W (hT.below hb)).mono fun _ _ h => h.eq (by rw [hck])
  have RN := Lib.hid fun (W : World) (hb : Below w.heap.size w W) => run_own _ _ vx x W (hT.below hb) hck hcs nn rfl (hx.below hb)
  obtain ⟨xa, xcap, rfl, hx1, hx2⟩ := hx
  have hkt := KT.start w (nn : Int) (.slice a len cap) (.slice a2 lo cap2) 99 26
  clear ho hu hT hck hcs hx2
  unfold kindF at *
  go_enter Try.func74, Try.ntmps74
  go_upto_region 1 with fail
  generalize hB : w.heap.size = B at *
  generalize (w.alloc (.cells #[.func (.func 79) #[] #[], .func (.func 80) #[] #[], .func (.func 81) #[] #[], .func (.func 82) #[] #[], .func (.func 83) #[] #[]] 99)).alloc (.cells #[.int .i64 nn, .slice a len cap, .slice a2 lo cap2] 26) = W at *
  obtain ⟨c1, c2, c3, c4, c5, c6, c7, c8, c9, c10, c11⟩ := id hkt
  go_wp2_with fail
  refine (CK.out _ c11).mono ?_
  rintro e w1 ⟨rfl, hb1⟩
  have hk1 := hkt.step (hb1.mono (by omega))
  clear hkt c1 c2 c3 c4 c5 c6 c7 c8 c9 c10 c11 hb1
  obtain ⟨c1, c2, c3, c4, c5, c6, c7, c8, c9, c10, c11⟩ := id hk1
  go_wp2_with fail
  refine (RN.out _ c11).mono ?_
  rintro e w2 ⟨R, rfl, hu, hb2⟩
  go_wp2_with fail
  go_ret
  exact ⟨R, rfl, by rw [hB]; exact hu.base (by have := hu.lt; have := c11.size; omega), by rw [hB]; exact c11.trans (hb2.mono (by omega))⟩
/-- A tape's three cells, and what was ahead as it was. -/
def EvS (w0 : World) (B : Nat) (n : Int) (vo vu : Value) (w' : World) : Prop := w'.cell? ⟨B, 0, none⟩ = some (.int .i64 n) ∧ w'.cell? ⟨B, 1, none⟩ = some vo ∧ w'.cell? ⟨B, 2, none⟩ = some vu ∧ B < w'.heap.size ∧ Below B w0 w'
theorem EvS.below {w0 : World} {B : Nat} {n : Int} {vo vu : Value} {w w' : World} (h : EvS w0 B n vo vu w) (hb : Below w.heap.size w w') : EvS w0 B n vo vu w' := by
  obtain ⟨h1, h2, h3, h4, h5⟩ := h
  obtain ⟨hc, -⟩ := belowC hb
  have := hb.size
  exact ⟨by rw [hc _ _ h4]; exact h1, by rw [hc _ _ h4]; exact h2, by rw [hc _ _ h4]; exact h3, by omega, h5.trans (hb.mono (by omega))⟩
set_option maxRecDepth 100000 in
set_option maxHeartbeats 4000000 in
/-- Eval of any tape that may be, at as many numbers as it has variables. -/
theorem eval_own (T : TD) (v vx : Value) (x : Nat → Nat) (w : World) (h : TapeAt w v T) (hck : checkB T = true) (hcs : ∀ i, i < T.len → (T.op i).c < 18446744073709551616) (nn : Nat) (hn : T.n = nn) (hx : FltsC w vx nn x) :
    Calls Try.prog 62 #[v, vx] w (OwnT nn (fun i => evR T.op x (T.out i).toNat) w) := by
  have RN0 := fun (W : World) (hb : Below w.heap.size w W) => runF_own T v vx x W (h.below hb) hck hcs nn hn (hx.below hb)
  obtain ⟨vo, vu, rfl, ⟨a, cap, rfl, hl1, ho⟩, ⟨a2, cap2, rfl, hl2, hu⟩⟩ := h
  generalize T.n = n at *
  generalize T.len = len at *
  generalize T.lo = lo at *
  have HB := Box3.new n (.slice a len cap) (.slice a2 lo cap2) w 26
  have hw : Below w.heap.size w (w.alloc (.cells #[.int .i64 n, .slice a len cap, .slice a2 lo cap2] 26)) := (Below.refl _ _).alloc (Nat.le_refl _) _
  have RN := Lib.hid fun (W : World) (hb : EvS w w.heap.size n (.slice a len cap) (.slice a2 lo cap2) W) => (RN0 W hb.2.2.2.2).mono (R' := fun e w' => ∃ u, e = .returned (.slice (some ⟨u, 0, none⟩) nn nn) ∧ OwnF w' w.heap.size u nn nn (fun i => evR T.op x (T.out i).toNat) ∧ EvS w w.heap.size n (.slice a len cap) (.slice a2 lo cap2) w') fun e w' ⟨u, h1, h2, h3⟩ => ⟨u, h1, h2.base (Nat.le_trans hb.2.2.2.2.size h2.lt.1), hb.below h3⟩
  have FL := Lib.hid fun (W : World) (hb : EvS w w.heap.size n (.slice a len cap) (.slice a2 lo cap2) W) => (floats_tells W).mono (R' := fun e w' => e = .returned kindF ∧ EvS w w.heap.size n (.slice a len cap) (.slice a2 lo cap2) w') fun e w' ⟨h1, h3⟩ => ⟨h1, hb.below h3⟩
  clear ho hu hck hcs hn hx RN0
  unfold kindF at *
  go_enter Try.func62, Try.ntmps62
  go_upto_region 1 with fail
  generalize hB : w.heap.size = B at *
  generalize w.alloc (.cells #[.int .i64 n, .slice a len cap, .slice a2 lo cap2] 26) = W at *
  obtain ⟨c1, c2, c3, c4⟩ := id HB
  go_region_held3 (fun w' => w'.cell? ⟨B, 0, none⟩ = some (.int .i64 n) ∧ w'.cell? ⟨B, 1, none⟩ = some (.slice a len cap) ∧ w'.cell? ⟨B, 2, none⟩ = some (.slice a2 lo cap2) ∧ B < w'.heap.size ∧ Below B w w')
    (first
      | assumption
      | exact ⟨c1, c2, c3, c4, hw.drew⟩)
    (first
      | (go_at_call 64; refine (FL.out _ (by unfold EvS; assumption)).mono ?_; rintro e w1 ⟨rfl, hs1⟩; unfold EvS at hs1)
      | (go_at_call 74; refine (RN.out _ (by unfold EvS; assumption)).mono ?_; rintro e w2 ⟨u, rfl, hu, hs2⟩; unfold EvS at hs2))
  all_goals
    go_wp2_with fail
    go_ret
    exact ⟨u, rfl, by rw [hB]; exact hu, by rw [hB]; exact hs2.2.2.2.2⟩
theorem eval_tells (T : TD) (v vx : Value) (x : Nat → Nat) (w : World) (h : TapeAt w v T) (hck : checkB T = true) (hcs : ∀ i, i < T.len → (T.op i).c < 18446744073709551616) (nn : Nat) (hn : T.n = nn) (hx : FltsC w vx nn x) :
    Calls Try.prog 62 #[v, vx] w fun e w' => ∃ u, e = .returned u ∧ FltsC w' u T.lo (fun i => evR T.op x (T.out i).toNat) ∧ Below w.heap.size w w' := by
  obtain ⟨h1, h2⟩ := checkB_lo hck hn
  rw [h1]
  exact (eval_own T v vx x w h hck hcs nn hn hx).mono fun _ _ h => h.tells (by omega)
end Go.Proofs.Ytnlbafjmbamoeaa
