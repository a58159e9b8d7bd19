/-
  Rows that are the same, tables that are the same, walked.
-/
import Derived.Test.YtclhgnhbmlkomaaHlp
import Derived.StillTailTactics
import Derived.Deep.QuietTactic
import Derived.BigQuiet
import Derived.RegionTactic
import Derived.Deep.RegionHeld3
import Derived.Test.YtclhgnhbmlkomaaReg
namespace Go.Proofs.Ytclhgnhbmlkomaa
open Go.RowKit
open Ieee (double)
attribute [local go_sem] alloc_drewN setCell_drewN call_bits call_frombits ord_lt ord_eq ord_gt ord_ne ord_le ord_ge eqB_self run_fadd run_fsub run_fmul run_fquo haStoreFlt takeOp pureOp readsUpon doOp

theorem sameB_canon {x y : Nat} (h : canon x = canon y) : sameB x y = true := by
  have hn : isN x = isN y := by rw [← isN_canon x, h, isN_canon]
  unfold sameB
  rw [← eqB_canon, h, eqB_self, isN_canon, hn]
  cases isN y <;> rfl
theorem sameQ {x y : Nat} (w : World) (h : sameB x y = true) : Calls Try.prog 25 #[.float .f64 x, .float .f64 y] w fun e w' => e = .returned (.bool true) ∧ w' = w :=
  (same_any x y w).mono fun _ _ ⟨h1, h2⟩ => ⟨h1.trans (by rw [h]), h2.symm⟩
set_option maxHeartbeats 1000000 in
theorem rows_true (u v : Value) (n : Nat) (f : Nat → Nat) (w : World) (hu : FRow w u n f) (hv : FRow w v n f) : Calls Try.prog 22 #[u, v] w (Tells (.bool true) w) := by
  obtain ⟨a, ca, rfl, hn, har⟩ := hu
  obtain ⟨b, cb, rfl, -, hbr⟩ := hv
  have HA := Lib.hid har
  have HB := Lib.hid hbr
  have hne : ((n : Int) != n) = false := by simp
  clear har hbr
  go_enter Try.func22, Try.ntmps22
  go_wp2_with fail
  go_loopw [5] (fun i wr => ∃ j : Nat, j ≤ n ∧ i = .int .i64 j ∧ Below w.heap.size w wr) (fun i _ => n - (intOf i).toNat)
  case atStart => exact ⟨0, by omega, rfl, Below.refl _ _⟩
  case round =>
    obtain ⟨j, hj, rfl, hbw⟩ := hrel
    by_cases hlt : j < n
    · obtain ⟨b1, o1, rfl, hs1, hc1⟩ := HA.out (by omega)
      obtain ⟨b2, o2, rfl, hs2, hc2⟩ := HB.out (by omega)
      obtain ⟨x, x1, x2, x3⟩ := hc1 j hlt
      obtain ⟨y, y1, y2, y3⟩ := hc2 j hlt
      rw [← (haCell hbw).1 _ _ hs1] at x1
      rw [← (haCell hbw).1 _ _ hs2] at y1
      have hs := sameB_canon (x2.trans y2.symm)
      have HBW := Lib.hid hbw
      clear hc1 hc2 x2 y2 hbw
      go_wp2_with fail
      go_quiet ((go_at_call 25; exact Calls.quiet_of_same (sameQ _ (by assumption))))
      go_wp2_with fail
      go_roundw
      case rel => exact ⟨j + 1, by omega, by go_num, below_drew HBW.out _⟩
      case measure => simp [intOf]; omega
    · go_wp2_with fail
      go_ret
      exact ⟨rfl, hbw⟩
set_option maxHeartbeats 1000000 in
theorem tables_true (u v : Value) (n : Nat) (m : Nat → Nat) (f : Nat → Nat → Nat) (w : World) (hu : TabR w u n m f) (hv : TabR w v n m f) : Calls Try.prog 31 #[u, v] w (Tells (.bool true) w) := by
  obtain ⟨a, ca, rfl, hn, har⟩ := hu
  obtain ⟨b, cb, rfl, -, hbr⟩ := hv
  have HA := Lib.hid har
  have HB := Lib.hid hbr
  have hne : ((n : Int) != n) = false := by simp
  clear har hbr
  go_enter Try.func31, Try.ntmps31
  go_wp2_with fail
  go_loopw [5] (fun i wr => ∃ j : Nat, j ≤ n ∧ i = .int .i64 j ∧ Below w.heap.size w wr) (fun i _ => n - (intOf i).toNat)
  case atStart => exact ⟨0, by omega, rfl, Below.refl _ _⟩
  case round =>
    obtain ⟨j, hj, rfl, hbw⟩ := hrel
    by_cases hlt : j < n
    · obtain ⟨b1, o1, rfl, hs1, hc1⟩ := HA.out (by omega)
      obtain ⟨b2, o2, rfl, hs2, hc2⟩ := HB.out (by omega)
      obtain ⟨x, x1, x2⟩ := hc1 j hlt
      obtain ⟨y, y1, y2⟩ := hc2 j hlt
      have RT := Lib.hid (fun W (hW : Below w.heap.size w W) => rows_true x y (m j) (f j) W (x2.below hW) (y2.below hW))
      have HBW := Lib.hid hbw
      have HC := Lib.hid (show ∀ W, Below w.heap.size w W → W.cell? ⟨b1, o1 + j, none⟩ = some x ∧ W.cell? ⟨b2, o2 + j, none⟩ = some y from fun W hW => ⟨((haCell hW).1 _ _ hs1).trans x1, ((haCell hW).1 _ _ hs2).trans y1⟩)
      clear hc1 hc2 x2 y2 hbw x1 y1
      go_wp2_with fail
      refine wp_region_ord [(0, 1), (1, 1), (2, 1), (3, 2), (4, 1), (5, 1), (6, 1), (7, 2), (8, 0), (9, 1)] (by kernel_rfl) (by kernel_rfl) (fun _ _ d _ _ h => by cases d <;> exact h) ?_
      intro Z hZ
      have hbZ : Below w.heap.size w Z := by rw [hZ]; exact HBW.out.drew
      clear hZ
      obtain ⟨x1, y1⟩ := HC.out _ hbZ
      iterate 8
        first
          | refine wpOrd_pure (fun K hK => ?_)
          | refine wpOrd_take (fun K hK => ?_)
        go_simp
        refine hK _ ?_
        clear hK K
      refine wpOrd_do (fun K hK => ?_)
      go_simp
      refine (RT.out Z hbZ).mono ?_
      rintro e w2 ⟨rfl, hb2⟩
      refine hK _ _ (fun h => Bool.noConfusion (Eq.trans (Eq.symm (by kernel_rfl : _ = false)) h)) ?_
      clear hK K
      iterate 1
        first
          | refine wpOrd_pure (fun K hK => ?_)
          | refine wpOrd_take (fun K hK => ?_)
        go_simp
        refine hK _ ?_
        clear hK K
      refine wpOrd_nil ?_
      have HB2 := Lib.hid (hbZ.trans (hb2.mono hbZ.size))
      clear x1 y1 hb2 hbZ
      go_wp2_with fail
      go_roundw
      case rel => exact ⟨j + 1, by omega, by go_num, HB2.out⟩
      case measure => simp [intOf]; omega
    · go_wp2_with fail
      go_ret
      exact ⟨rfl, hbw⟩
end Go.Proofs.Ytclhgnhbmlkomaa
