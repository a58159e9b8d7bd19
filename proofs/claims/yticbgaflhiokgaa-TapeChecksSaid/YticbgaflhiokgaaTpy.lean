/-
  The document's word on whether a tape may be, walked: the whole.
-/
import Derived.Test.YticbgaflhiokgaaTpx
namespace Go.Proofs.Yticbgaflhiokgaa
open Go.RowKit
open Ieee (double)
attribute [local go_sem] alloc_drewN setCell_drewN call_bits call_frombits ord_lt ord_eq ord_gt ord_ne ord_le ord_ge eqB_self run_fadd run_fsub run_fmul run_fquo takeOp pureOp readsUpon doOp

attribute [local irreducible] wpOrd
set_option maxHeartbeats 4000000 in
set_option maxRecDepth 100000 in
theorem rcheck_tells (T : TD) (v : Value) (w : World) (h : TapeAt w v T) : Calls Try.prog 16 #[v] w (Tells (.bool (checkB T)) w) := by
  obtain ⟨n, len, op, lo, out⟩ := T
  obtain ⟨vo, vu, rfl, ⟨a, cap, rfl, hl1, ho⟩, ⟨a2, cap2, rfl, hl2, hu⟩⟩ := h
  simp only [] at *
  have HB := Box3.new n (.slice a len cap) (.slice a2 lo cap2) w 25
  have hw : Below w.heap.size w (w.alloc (.cells #[.int .i64 n, .slice a len cap, .slice a2 lo cap2] 25)) := (Below.refl _ _).alloc (Nat.le_refl _) _
  unfold checkB
  simp only []
  by_cases hq : 1 ≤ n ∧ n ≤ 4 ∧ len ≤ 60 ∧ (lo : Int) = n
  · obtain ⟨q1, q2, q3, q4⟩ := id hq
    rw [decide_eq_true hq, Bool.true_and]
    generalize hR : (allB len (fun i => standsB (op i) i n) && allB lo fun i => belowB (out i) len) = R
    go_enter Try.func16, Try.ntmps16
    go_wp2_with fail
    generalize hB : w.heap.size = B at *
    generalize w.alloc (.cells #[.int .i64 n, .slice a len cap, .slice a2 lo cap2] 25) = W at *
    go_loopw [3] (fun i wr => ∃ (j : Nat), j ≤ len ∧ i = .int .i64 j ∧ Below B w wr ∧ Box3 B n (.slice a len cap) (.slice a2 lo cap2) wr ∧ ∀ k, k < j → standsB (op k) k n = true) (fun i _ => len - (intOf i).toNat)
    case atStart => exact ⟨0, by omega, rfl, hw, HB, fun k hk => by omega⟩
    case round =>
      obtain ⟨j, hj, rfl, hw2, HB2, hst⟩ := hrel
      by_cases hlt : j < len
      · obtain ⟨b, off, rfl, hbs, hc⟩ := ho (by omega)
        obtain ⟨d1, d2, d3, d4⟩ := hc j hlt
        have hcl : ∀ b o, b < B → wr.cell? ⟨b, o, none⟩ = w.cell? ⟨b, o, none⟩ := fun b o h => (belowC (show Below w.heap.size w wr by rw [hB]; exact hw2)).1 b o (by rw [hB]; exact h)
        rw [← hcl _ _ hbs] at d1 d2 d3 d4
        obtain ⟨c0, c1, c2, c4⟩ := id HB2
        generalize ho' : op j = oj at *
        have RT := Lib.hid (fun W => rright_tells oj j n W)
        clear hcl
        go_wp2_with fail
        refine wp_region_ordR [(0, 1), (1, 3), (2, 1), (3, 1), (4, 3), (5, 1), (6, 1), (7, 3), (8, 0), (9, 1)] (fun W => Below wr.heap.size wr W) (by kernel_rfl) (by kernel_rfl) (fun _ _ d _ _ h => by cases d <;> exact h) ((Below.refl _ _).drew) ?_
        intro Z hZ hb3
        clear hZ
        iterate 1
          first
            | refine wpOrd_pure (fun K hK => ?_)
            | refine wpOrd_take (fun K hK => ?_)
          go_simp
          refine hK _ ?_
          clear hK K
        refine wpOrd_keep (v := .slice (some ⟨b, off, none⟩) len cap) rfl rfl (fun wk hwk => ?_) ?_
        · obtain ⟨k1, k2, k3, k4⟩ := HB2.below hwk
          go_simp
        iterate 2
          first
            | refine wpOrd_pure (fun K hK => ?_)
            | refine wpOrd_take (fun K hK => ?_)
          go_simp
          refine hK _ ?_
          clear hK K
        refine wpOrd_keep (v := opV oj) rfl rfl (fun wk hwk => ?_) ?_
        · have hbw : b < wr.heap.size := by have := hw2.size; omega
          rw [← (belowC hwk).1 _ _ hbw] at d1 d2 d3 d4
          unfold opV
          go_simp
        iterate 2
          first
            | refine wpOrd_pure (fun K hK => ?_)
            | refine wpOrd_take (fun K hK => ?_)
          go_simp
          refine hK _ ?_
          clear hK K
        refine wpOrd_keep (v := .int .i64 n) rfl rfl (fun wk hwk => ?_) ?_
        · obtain ⟨k1, k2, k3, k4⟩ := HB2.below hwk
          go_simp
        have HB3 := HB2.below hb3
        have hw3 := hw2.trans (hb3.mono (by have := hw2.size; omega))
        refine wpOrd_doR (fun K hK => ?_)
        go_simp
        refine (RT.out Z).mono ?_
        rintro e w4 ⟨rfl, hb4⟩
        refine hK _ _ (fun h => Bool.noConfusion (Eq.trans (Eq.symm (by kernel_rfl : _ = false)) h)) (fun _ => hb3.trans (hb4.mono hb3.size)) ?_
        clear hK K
        have HB4 := HB3.below hb4
        have hw4 := hw3.trans (hb4.mono (by have := hw3.size; omega))
        clear HB2 hw2 hb3 HB3 hw3 hb4 c0 c1 c2 d1 d2 d3 d4
        iterate 1
          first
            | refine wpOrd_pure (fun K hK => ?_)
            | refine wpOrd_take (fun K hK => ?_)
          go_simp
          refine hK _ ?_
          clear hK K
        refine wpOrd_nil ?_
        cases hf : standsB oj j n
        · go_wp2_with fail
          go_ret
          refine ⟨ret_bool ?_, by rw [hB]; exact hw4⟩
          rw [← hR, allB_no (p := fun i => standsB (op i) i n) hlt (show standsB (op j) j n = false by rw [ho']; exact hf)]
          rfl
        · go_wp2_with fail
          go_roundw
          case rel => exact ⟨j + 1, by omega, by go_num, hw4, HB4, fun k hk => by
            by_cases e : k = j
            · subst e; rw [ho']; exact hf
            · exact hst k (by omega)⟩
          case measure => simp [intOf]; omega
      · obtain rfl : j = len := by omega
        have h1 : allB j (fun i => standsB (op i) i n) = true := allB_iff.2 hst
        rw [h1, Bool.true_and] at hR
        clear h1 hst ho
        obtain ⟨c0, c1, c2, c4⟩ := id HB2
        go_wp2_with fail
        clear c0 c1 c2 c4 HB hw
        go_loopw [4] (fun i wr => ∃ (k : Nat), k ≤ lo ∧ i = .int .i64 k ∧ Below B w wr ∧ Box3 B n (.slice a j cap) (.slice a2 lo cap2) wr ∧ ∀ m, m < k → belowB (out m) j = true) (fun i _ => lo - (intOf i).toNat)
        case atStart => exact ⟨0, by omega, rfl, hw2, HB2, fun k hk => by omega⟩
        case round =>
          clear hw2 HB2
          obtain ⟨k, hk, rfl, hw2, HB2, hst⟩ := hrel
          by_cases hlt : k < lo
          · obtain ⟨b, off, rfl, hbs, hc⟩ := hu (by omega)
            have d1 := hc k hlt
            have hcl : ∀ b o, b < B → wr.cell? ⟨b, o, none⟩ = w.cell? ⟨b, o, none⟩ := fun b o h => (belowC (show Below w.heap.size w wr by rw [hB]; exact hw2)).1 b o (by rw [hB]; exact h)
            rw [← hcl _ _ hbs] at d1
            obtain ⟨c0, c1, c2, c4⟩ := id HB2
            generalize ho' : out k = ok at *
            have hbf : belowB ok j = (!decide (ok < 0) && !decide ((j : Int) ≤ ok)) := by unfold belowB; by_cases g1 : 0 ≤ ok <;> by_cases g2 : ok < (j : Int) <;> simp [g1, g2] <;> omega
            have HBF := Lib.hid hbf
            clear hcl hbf
            have fin : ∀ W : World, Below wr.heap.size wr W → Below B w W ∧ Box3 B n (.slice a j cap) (.slice (some ⟨b, off, none⟩) lo cap2) W := fun W hW => ⟨hw2.trans (hW.mono (by have := hw2.size; omega)), HB2.below hW⟩
            have FIN := Lib.hid fin
            clear fin hw2 HB2
            have HST := Lib.hid hst
            have HOK := Lib.hid ho'
            have HRR := Lib.hid hR
            clear hst hc hu hq q4 q1 q2 q3 ho' hR
            by_cases g1 : ok < 0
            · go_wp2_with fail
              refine wp_region_ord [(0, 1), (1, 2), (2, 1), (3, 1), (4, 2), (5, 1), (6, 1), (7, 1), (8, 2), (9, 1), (10, 1), (11, 2), (12, 1), (13, 2), (14, 1), (15, 1), (16, 1)] (by kernel_rfl) (by kernel_rfl) (fun _ _ d _ _ h => by cases d <;> exact h) ?_
              intro Z hZ
              have hz : ∀ b o, Z.cell? ⟨b, o, none⟩ = wr.cell? ⟨b, o, none⟩ := fun b o => by rw [hZ]; rfl
              have hb3 : Below wr.heap.size wr Z := by rw [hZ]; exact (Below.refl _ _).drew
              rw [← hz] at d1 c1 c2
              clear hZ hz
              iterate 17
                first
                  | refine wpOrd_pure (fun K hK => ?_)
                  | refine wpOrd_take (fun K hK => ?_)
                go_simp
                refine hK _ ?_
                clear hK K
              refine wpOrd_nil ?_
              go_wp2_with fail
              go_ret
              refine ⟨ret_bool ?_, by rw [hB]; exact (FIN.out _ hb3).1⟩
              rw [← HRR.out, allB_no (p := fun i => belowB (out i) j) hlt (show belowB (out k) j = false by rw [HOK.out, HBF.out]; simp [g1])]
            · by_cases g2 : (j : Int) ≤ ok
              · go_wp2_with fail
                refine wp_region_ord [(0, 1), (1, 2), (2, 1), (3, 1), (4, 2), (5, 1), (6, 1), (7, 1), (8, 2), (9, 1), (10, 1), (11, 2), (12, 1), (13, 2), (14, 1), (15, 1), (16, 1)] (by kernel_rfl) (by kernel_rfl) (fun _ _ d _ _ h => by cases d <;> exact h) ?_
                intro Z hZ
                have hz : ∀ b o, Z.cell? ⟨b, o, none⟩ = wr.cell? ⟨b, o, none⟩ := fun b o => by rw [hZ]; rfl
                have hb3 : Below wr.heap.size wr Z := by rw [hZ]; exact (Below.refl _ _).drew
                rw [← hz] at d1 c1 c2
                clear hZ hz
                iterate 17
                  first
                    | refine wpOrd_pure (fun K hK => ?_)
                    | refine wpOrd_take (fun K hK => ?_)
                  go_simp
                  refine hK _ ?_
                  clear hK K
                refine wpOrd_nil ?_
                go_wp2_with fail
                go_ret
                refine ⟨ret_bool ?_, by rw [hB]; exact (FIN.out _ hb3).1⟩
                rw [← HRR.out, allB_no (p := fun i => belowB (out i) j) hlt (show belowB (out k) j = false by rw [HOK.out, HBF.out]; simp [g2])]
              · go_wp2_with fail
                refine wp_region_ord [(0, 1), (1, 2), (2, 1), (3, 1), (4, 2), (5, 1), (6, 1), (7, 1), (8, 2), (9, 1), (10, 1), (11, 2), (12, 1), (13, 2), (14, 1), (15, 1), (16, 1)] (by kernel_rfl) (by kernel_rfl) (fun _ _ d _ _ h => by cases d <;> exact h) ?_
                intro Z hZ
                have hz : ∀ b o, Z.cell? ⟨b, o, none⟩ = wr.cell? ⟨b, o, none⟩ := fun b o => by rw [hZ]; rfl
                have hb3 : Below wr.heap.size wr Z := by rw [hZ]; exact (Below.refl _ _).drew
                rw [← hz] at d1 c1 c2
                clear hZ hz
                iterate 17
                  first
                    | refine wpOrd_pure (fun K hK => ?_)
                    | refine wpOrd_take (fun K hK => ?_)
                  go_simp
                  refine hK _ ?_
                  clear hK K
                refine wpOrd_nil ?_
                go_wp2_with fail
                go_roundw
                case rel => exact ⟨k + 1, by omega, by go_num, (FIN.out _ hb3).1, (FIN.out _ hb3).2, fun m hm => by
                  by_cases e : m = k
                  · subst e; rw [HOK.out, HBF.out]; simp [g1]; omega
                  · exact HST.out m (by omega)⟩
                case measure => simp [intOf]; omega
          · obtain rfl : k = lo := by omega
            have h2 : allB k (fun i => belowB (out i) j) = true := allB_iff.2 hst
            obtain ⟨c0, c1, c2, c4⟩ := id HB2
            go_wp2_with fail
            go_ret
            exact ⟨ret_bool (by rw [← hR, h2]), by rw [hB]; exact hw2⟩
  · rw [decide_eq_false hq, Bool.false_and]
    obtain ⟨c0, c1, c2, c4⟩ := id HB
    have hcases : ¬ 1 ≤ n ∨ (1 ≤ n ∧ ¬ n ≤ 4) ∨ (1 ≤ n ∧ n ≤ 4 ∧ ¬ len ≤ 60) ∨ (1 ≤ n ∧ n ≤ 4 ∧ len ≤ 60 ∧ ¬ (lo : Int) = n) := by omega
    rcases hcases with h | ⟨h1, h⟩ | ⟨h1, h2, h⟩ | ⟨h1, h2, h3, h⟩
    case' inr.inr.inr => have hne : ((lo : Int) != n) = true := by simpa using h
    all_goals
      go_enter Try.func16, Try.ntmps16
      go_wp2_with fail
      go_ret
      exact ⟨rfl, hw⟩
end Go.Proofs.Yticbgaflhiokgaa
