/-
  Numbers that bear how they change: rows of them are made.
-/
import Derived.Test.YtnlbafjmbamoeaaJd
import Derived.Test.YtnlbafjmbamoeaaTps
import Derived.Test.YtnlbafjmbamoeaaHv
import Derived.Test.YtnlbafjmbamoeaaReg
namespace Go.Proofs.Ytnlbafjmbamoeaa
open Go.RowKit
open Ieee (double)
attribute [local go_sem] alloc_drewN setCell_drewN call_bits call_frombits ord_lt ord_eq ord_gt ord_ne ord_le ord_ge eqB_self run_fadd run_fsub run_fmul run_fquo haStoreFlt takeOp pureOp readsUpon doOp

theorem tellsB_of {c : Nat} {w : World} {e : Ending} {w' : World} (h : TellsF c w e w') : TellsB c w e w' := by
  obtain ⟨x, n, h1, h2, h3, rfl⟩ := h
  exact ⟨x, h1, h2, h3, below_drew (Below.refl _ _) _⟩
set_option maxRecDepth 100000 in
set_option maxHeartbeats 2000000 in
theorem row_tells (fn : Nat) (cs : Array Value) (n : Nat) (hn : n ≤ 1000) (g : Nat → Nat) (w : World) (hf : ∀ v W, (callFunc fn (#[v] ++ cs)).run Try.prog W = .ok (.enter fn (#[v] ++ cs)) W)
    (hc : ∀ i W, i < n → Below w.heap.size w W → Calls Try.prog fn (#[.int .i64 i] ++ cs) W (TellsB (g i) W)) :
    Calls Try.prog 86 #[.int .i64 n, .func (.func fn) #[] cs] w fun e w' => ∃ R, e = .returned (.slice (some ⟨R, 0, none⟩) n n) ∧ OwnF w' w.heap.size R n n g ∧ Below w.heap.size w w' := by
  obtain ⟨iF, hF, f1, f2, f3⟩ := info_parts infoF
  have HF := Lib.hid (show iF.zero = _ ∧ iF.size = _ ∧ iF.bytes = _ from ⟨f1, f2, f3⟩)
  have HF0 := Lib.hid hF
  have HC := Lib.hid hc
  clear hF f1 f2 f3 hc
  go_enter Try.func86, Try.ntmps86
  generalize hB : w.heap.size = B at *
  go_wp2_with (first
    | (refine wpList_make_full _ rfl _ _ _ rfl B 32 iF (.float .f64 0) 1 Try.underlying31 HF0.out HF.out.1 HF.out.2.1 .i64 .i64 (n : Int) (n : Int) n rfl rfl rfl rfl (by rw [HF.out.2.2]; omega) (by unfold maxLen; omega) (by omega) ?_)
    | fail)
  intro w2 hr1 hg1
  have hb2 : Below B w w2 := (Below.refl _ w).grown hg1 (by omega) (fun k hk => by cases hk)
  have HO := Lib.hid (ownF_made hr1)
  clear hr1 hg1
  go_wp2_with fail
  go_loopw [11] (fun i wr => ∃ (d : Nat) (h : Nat → Nat), d ≤ n ∧ i = .int .i64 d ∧ OwnF wr B B n n h ∧ (∀ k, k < d → h k = g k) ∧ Below B w wr) (fun i _ => n - (intOf i).toNat)
  case atStart => exact ⟨0, _, by omega, rfl, HO.out, fun k hk => by omega, hb2⟩
  case round =>
    clear HO hb2
    obtain ⟨d, h, hd, rfl, ho, hh, hbl⟩ := hrel
    by_cases hdn : d < n
    · have CALL := Lib.hid (HC.out d wr hdn hbl)
      have HO := Lib.hid ho
      have HH := Lib.hid hh
      have HBL := Lib.hid hbl
      clear ho hh hbl
      go_wp2_with fail
      refine CALL.out.mono ?_
      rintro e w' ⟨y, rfl, y1, y2, hb1⟩
      have hs := HBL.out.size
      have HO1 := Lib.hid (HO.out.below hb1 HO.out.lt.2)
      obtain ⟨z, z1, -, -⟩ := HO1.out.cell hdn
      have r1 := HO1.out.free d
      have HB1 := Lib.hid (HBL.out.trans (hb1.mono (by omega)))
      clear hb1
      go_wp2_with fail
      go_roundw
      case rel => exact ⟨d + 1, updN h d (g d), by omega, by go_num, HO1.out.set hdn y1 y2, fun k hk => by
        by_cases hkd : k = d
        · subst hkd; rw [updN_at]
        · rw [updN_ne _ _ hkd]; exact HH.out k (by omega), HB1.out.setCell (p := ⟨B, d, none⟩) (Nat.le_refl _) _⟩
      case measure => simp [intOf]; omega
    · obtain rfl : n = d := by omega
      go_wp2_with fail
      go_ret
      exact ⟨_, rfl, ho.congr hh, by first | exact hbl | (rw [hB]; exact hbl)⟩
end Go.Proofs.Ytnlbafjmbamoeaa
