/-
  Rows of from-tos that are the same, walked.
-/
import Derived.Test.YtainodgbcpkipaaLri
import Derived.Test.YtainodgbcpkipaaLrd
namespace Go.Proofs.Ytainodgbcpkipaa
open Go.RowKit Ex
open Ieee (double)
attribute [local go_sem] alloc_drewN setCell_drewN call_bits call_frombits ord_lt ord_eq ord_gt ord_ne ord_le ord_ge eqB_self run_fadd run_fsub run_fmul run_fquo haStoreFlt takeOp pureOp readsUpon doOp

set_option maxHeartbeats 1000000 in
theorem isame_true (a b c d : Nat) (w : World) (h1 : canon a = canon c) (h2 : canon b = canon d) : Calls Try.prog 39 #[iv a b, iv c d] w (Tells (.bool true) w) := by
  have s1 := sameB_canon h1
  have s2 := sameB_canon h2
  unfold iv
  go_enter Try.func39, Try.ntmps39
  have hb : Below w.heap.size w ((w.alloc (.cells #[.float .f64 a, .float .f64 b] 53)).alloc (.cells #[.float .f64 c, .float .f64 d] 53)) := ((Below.refl _ _).alloc (Nat.le_refl _) _).alloc (by simp) _
  go_wp2_with fail
  refine (sameQ _ s1).mono ?_
  rintro e w' ⟨rfl, rfl⟩
  go_wp2_with fail
  refine (sameQ _ s2).mono ?_
  rintro e w' ⟨rfl, rfl⟩
  go_wp2_with fail
  go_ret
  exact ⟨rfl, hb⟩
set_option maxHeartbeats 1000000 in
theorem trows_true (u v : Value) (n : Nat) (F : Nat → Nat × Nat) (w : World) (hu : TRow w u n F) (hv : TRow w v n F) : Calls Try.prog 20 #[u, v] w (Tells (.bool true) w) := by
  obtain ⟨a, ca, rfl, hn, har⟩ := hu
  obtain ⟨b, cb, rfl, -, hbr⟩ := hv
  have HA := Lib.hid har
  have HB := Lib.hid hbr
  have hne : ((n : Int) != n) = false := by simp
  clear har hbr
  go_enter Try.func20, Try.ntmps20
  go_wp2_with fail
  go_loopw [5] (fun i wr => ∃ j : Nat, j ≤ n ∧ i = .int .i64 j ∧ Below w.heap.size w wr) (fun i _ => n - (intOf i).toNat)
  case atStart => exact ⟨0, by omega, rfl, Below.refl _ _⟩
  case round =>
    obtain ⟨j, hj, rfl, hbw⟩ := hrel
    by_cases hlt : j < n
    · obtain ⟨b1, o1, rfl, hs1, hc1⟩ := HA.out (by omega)
      obtain ⟨b2, o2, rfl, hs2, hc2⟩ := HB.out (by omega)
      obtain ⟨⟨x, x1, x2, x3⟩, ⟨y, y1, y2, y3⟩⟩ := hc1 j hlt
      obtain ⟨⟨z, z1, z2, z3⟩, ⟨t, t1, t2, t3⟩⟩ := hc2 j hlt
      rw [← (haCell hbw).1 _ _ hs1] at x1 y1
      rw [← (haCell hbw).1 _ _ hs2] at z1 t1
      have S := Lib.hid (fun W => isame_true x y z t W (x2.trans z2.symm) (y2.trans t2.symm))
      have HBW := Lib.hid hbw
      clear hc1 hc2 x2 y2 z2 t2 hbw
      go_wp2_with fail
      refine wp_region_ord [(0, 1), (1, 1), (2, 1), (3, 2), (4, 1), (5, 1), (6, 1), (7, 2), (8, 0), (9, 1)] (by kernel_rfl) (by kernel_rfl) (fun _ _ d _ _ h => by cases d <;> exact h) ?_
      intro Z hZ
      have hz : ∀ b o, Z.cell? ⟨b, o, none⟩ = wr.cell? ⟨b, o, none⟩ := fun b o => by rw [hZ]; rfl
      have hbZ : Below w.heap.size w Z := by rw [hZ]; exact HBW.out.drew
      rw [← hz] at x1 y1 z1 t1
      clear hZ hz
      iterate 8
        first
          | refine wpOrd_pure (fun K hK => ?_)
          | refine wpOrd_take (fun K hK => ?_)
        go_simp
        refine hK _ ?_
        clear hK K
      refine wpOrd_do (fun K hK => ?_)
      go_simp
      refine (S.out Z).mono ?_
      rintro e w2 ⟨rfl, hb2⟩
      refine hK _ _ (fun h => Bool.noConfusion (Eq.trans (Eq.symm (by kernel_rfl : _ = false)) h)) ?_
      clear hK K
      iterate 1
        first
          | refine wpOrd_pure (fun K hK => ?_)
          | refine wpOrd_take (fun K hK => ?_)
        go_simp
        refine hK _ ?_
        clear hK K
      refine wpOrd_nil ?_
      have HB2 := Lib.hid (hbZ.trans (hb2.mono hbZ.size))
      clear x1 y1 z1 t1 hb2 hbZ
      go_wp2_with fail
      go_roundw
      case rel => exact ⟨j + 1, by omega, by go_num, HB2.out⟩
      case measure => simp [intOf]; omega
    · go_wp2_with fail
      go_ret
      exact ⟨rfl, hbw⟩
end Go.Proofs.Ytainodgbcpkipaa
