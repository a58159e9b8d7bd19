/-
  Rows that are the same, tables that are the same, walked.
-/
import Derived.Test.YtnlbafjmbamoeaaHlp
import Derived.StillTailTactics
import Derived.Deep.QuietTactic
import Derived.BigQuiet
import Derived.RegionTactic
import Derived.Deep.RegionHeld3
import Derived.Test.YtnlbafjmbamoeaaReg
namespace Go.Proofs.Ytnlbafjmbamoeaa
open Go.RowKit
open Ieee (double)
attribute [local go_sem] alloc_drewN setCell_drewN call_bits call_frombits ord_lt ord_eq ord_gt ord_ne ord_le ord_ge eqB_self run_fadd run_fsub run_fmul run_fquo haStoreFlt takeOp pureOp readsUpon doOp

theorem sameB_canon {x y : Nat} (h : canon x = canon y) : sameB x y = true := by
  have hn : isN x = isN y := by rw [← isN_canon x, h, isN_canon]
  unfold sameB
  rw [← eqB_canon, h, eqB_self, isN_canon, hn]
  cases isN y <;> rfl
theorem sameQ {x y : Nat} (w : World) (h : sameB x y = true) : Calls Try.prog 34 #[.float .f64 x, .float .f64 y] w fun e w' => e = .returned (.bool true) ∧ w' = w :=
  (same_any x y w).mono fun _ _ ⟨h1, h2⟩ => ⟨h1.trans (by rw [h]), h2.symm⟩
set_option maxHeartbeats 1000000 in
theorem rows_true (u v : Value) (n : Nat) (f : Nat → Nat) (w : World) (hu : FRow w u n f) (hv : FRow w v n f) : Calls Try.prog 12 #[u, v] w (Tells (.bool true) w) := by
  obtain ⟨a, ca, rfl, hn, har⟩ := hu
  obtain ⟨b, cb, rfl, -, hbr⟩ := hv
  have HA := Lib.hid har
  have HB := Lib.hid hbr
  have hne : ((n : Int) != n) = false := by simp
  clear har hbr
  go_enter Try.func12, Try.ntmps12
  go_wp2_with fail
  go_loopw [5] (fun i wr => ∃ j : Nat, j ≤ n ∧ i = .int .i64 j ∧ Below w.heap.size w wr) (fun i _ => n - (intOf i).toNat)
  case atStart => exact ⟨0, by omega, rfl, Below.refl _ _⟩
  case round =>
    obtain ⟨j, hj, rfl, hbw⟩ := hrel
    by_cases hlt : j < n
    · obtain ⟨b1, o1, rfl, hs1, hc1⟩ := HA.out (by omega)
      obtain ⟨b2, o2, rfl, hs2, hc2⟩ := HB.out (by omega)
      obtain ⟨x, x1, x2, x3⟩ := hc1 j hlt
      obtain ⟨y, y1, y2, y3⟩ := hc2 j hlt
      rw [← (haCell hbw).1 _ _ hs1] at x1
      rw [← (haCell hbw).1 _ _ hs2] at y1
      have hs := sameB_canon (x2.trans y2.symm)
      have HBW := Lib.hid hbw
      clear hc1 hc2 x2 y2 hbw
      go_wp2_with fail
      go_quiet ((go_at_call 34; exact Calls.quiet_of_same (sameQ _ (by assumption))))
      go_wp2_with fail
      go_roundw
      case rel => exact ⟨j + 1, by omega, by go_num, below_drew HBW.out _⟩
      case measure => simp [intOf]; omega
    · go_wp2_with fail
      go_ret
      exact ⟨rfl, hbw⟩
end Go.Proofs.Ytnlbafjmbamoeaa
