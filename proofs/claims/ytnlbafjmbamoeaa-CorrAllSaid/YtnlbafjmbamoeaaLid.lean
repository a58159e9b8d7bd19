/-
  A row taken from those below it, walked.
-/
import Derived.Test.YtnlbafjmbamoeaaLic
namespace Go.Proofs.Ytnlbafjmbamoeaa
open Go.RowKit
open Ieee (double)
attribute [local go_sem] alloc_drewN setCell_drewN call_bits call_frombits ord_lt ord_eq ord_gt ord_ne ord_le ord_ge eqB_self run_fadd run_fsub run_fmul run_fquo haStoreFlt takeOp pureOp readsUpon doOp

/-- The blocks that are not of X are as they were. -/
structure Rest (X : Nat → Prop) (base : Nat) (w w' : World) : Prop where
  below : Below base w w'
  block : ∀ b, ¬ X b → b < w.heap.size → w'.heap[b]? = w.heap[b]?
theorem Rest.refl (X : Nat → Prop) (base : Nat) (w : World) : Rest X base w w := ⟨Below.refl _ _, fun _ _ _ => rfl⟩
theorem Rest.trans {X : Nat → Prop} {base : Nat} {a b c : World} (h : Rest X base a b) (k : Rest X base b c) : Rest X base a c :=
  ⟨h.below.trans k.below, fun i hi hs => (k.block i hi (Nat.lt_of_lt_of_le hs h.below.size)).trans (h.block i hi hs)⟩
theorem Rest.set {X : Nat → Prop} {base : Nat} {a w : World} {b o : Nat} (h : Rest X base a w) (hb : base ≤ b) (hX : X b) (v : Value) : Rest X base a (w.setCell ⟨b, o, none⟩ v) :=
  ⟨h.below.setCell hb v, fun i hi hs => (Below.heap_setCell _ _ _ _ (fun e => hi (by rw [show i = b from e]; exact hX))).trans (h.block i hi hs)⟩
theorem Rest.drewN {X : Nat → Prop} {base : Nat} {a w : World} (h : Rest X base a w) (n : Nat) : Rest X base a (w.drewN n) := ⟨below_drew h.below n, h.block⟩
theorem Rest.of {X : Nat → Prop} {base : Nat} {a w w' : World} (h : Rest X base a w) (hb : Below w.heap.size w w') (hs : base ≤ w.heap.size) : Rest X base a w' :=
  ⟨h.below.trans (hb.mono hs), fun i hi hl => (hb.block i (Nat.lt_of_lt_of_le hl h.below.size)).trans (h.block i hi hl)⟩
theorem Grid.drewN {w : World} {base G n m : Nat} {blk cap : Nat → Nat} {f : Nat → Nat → Nat} (h : Grid w base G n m blk cap f) (q : Nat) : Grid (w.drewN q) base G n m blk cap f := h.below (below_drew (Below.refl _ _) q)
theorem Grid.cell {w : World} {base G n m : Nat} {blk cap : Nat → Nat} {f : Nat → Nat → Nat} (h : Grid w base G n m blk cap f) {i j : Nat} (hi : i < n) (hj : j < m) : FCell w (blk i) j (f i j) := (h.row i hi).cell hj
theorem copFF (op : BinOp) (w : World) {x y a b : Nat} (hx : canon x = a) (hy : canon y = b) : canon (fval op w x y) = cop op a b := by
  subst hx hy
  rw [canon_fval, cop_canon_left, cop_canon_right]
theorem updN_updN {α : Type} (f : Nat → α) (j : Nat) (b c : α) : updN (updN f j b) j c = updN f j c := by
  funext i
  unfold updN
  split <;> rfl
theorem clR_zero (f : Nat → Nat → Nat) (k i : Nat) : clR f k i (k + 1) = updN (f i) k (cop .quo (f i k) (f k k)) := by
  funext j
  unfold clR updN
  by_cases e : j = k
  · rw [if_pos e, if_pos e]
  · rw [if_neg e, if_neg e, if_neg (by omega)]
theorem clR_succ (f : Nat → Nat → Nat) {k i m : Nat} (hm : k < m) : clR f k i (m + 1) = updN (clR f k i m) m (cop .sub (f i m) (cop .mul (cop .quo (f i k) (f k k)) (f k m))) := by
  funext j
  unfold updN
  by_cases e : j = m
  · subst e
    unfold clR
    rw [if_pos rfl, if_neg (by omega), if_pos ⟨hm, by omega⟩]
  · rw [if_neg e]
    unfold clR
    by_cases e2 : j = k
    · rw [if_pos e2, if_pos e2]
    · rw [if_neg e2, if_neg e2]
      by_cases e3 : k < j ∧ j < m
      · rw [if_pos e3, if_pos ⟨e3.1, by omega⟩]
      · rw [if_neg e3, if_neg (by omega)]
theorem clF_start (f : Nat → Nat → Nat) (k n : Nat) : clF f k n (k + 1) = f := by
  funext a
  unfold clF
  rw [if_neg (by omega)]
theorem clF_row (f : Nat → Nat → Nat) (k n i : Nat) : clF f k n i i = f i := by unfold clF; rw [if_neg (by omega)]
theorem clF_top (f : Nat → Nat → Nat) (k n i : Nat) : clF f k n i k = f k := by unfold clF; rw [if_neg (by omega)]
theorem clF_next (f : Nat → Nat → Nat) {k n i : Nat} (hi : k < i) : updN (clF f k n i) i (clR f k i n) = clF f k n (i + 1) := by
  funext a
  unfold updN clF
  by_cases e : a = i
  · subst e; rw [if_pos rfl, if_pos ⟨hi, by omega⟩]
  · rw [if_neg e]
    by_cases h : k < a ∧ a < i
    · rw [if_pos h, if_pos ⟨h.1, by omega⟩]
    · rw [if_neg h, if_neg (by omega)]

set_option maxHeartbeats 4000000 in
set_option maxRecDepth 100000 in
theorem clear_tells (base G n k c : Nat) (blk cap : Nat → Nat) (f : Nat → Nat → Nat) (w : World) (h : Grid w base G n n blk cap f) (hk : k < n) (h8 : n ≤ 8) :
    Calls Try.prog 68 #[.slice (some ⟨G, 0, none⟩) n c, .int .i64 k] w fun e w' => (∃ r, e = .returned r) ∧ Grid w' base G n n blk cap (clF f k n n) ∧ Rest (fun b => ∃ i, i < n ∧ b = blk i) base w w' := by
  go_enter Try.func68, Try.ntmps68
  go_wp2_with fail
  go_loopw [4] (fun i wr => ∃ (j : Nat), k < j ∧ j ≤ n ∧ i = .int .i64 j ∧ Grid wr base G n n blk cap (clF f k n j) ∧ Rest (fun b => ∃ i, i < n ∧ b = blk i) base w wr) (fun i _ => n - (intOf i).toNat)
  case atStart => exact ⟨k + 1, by omega, by omega, by go_num, by rw [clF_start]; exact h, Rest.refl _ _ _⟩
  case round =>
    obtain ⟨i, hki, hin, rfl, hg, hR⟩ := hrel
    by_cases hlt : i < n
    · have r1 := hg.ref i hlt
      have r2 := hg.ref k hk
      have r3 := (hg.row i hlt).free
      obtain ⟨x, x1, x2, x3⟩ := hg.cell hlt hk
      obtain ⟨y, y1, y2, y3⟩ := hg.cell hk hk
      rw [clF_row] at x2
      rw [clF_top] at y2
      have HX := Lib.hid (show canon x = f i k ∧ canon y = f k k from ⟨x2, y2⟩)
      have HG := Lib.hid hg
      have HR := Lib.hid hR
      have hlo := (hg.row i hlt).lt
      clear hg hR x2 y2 h
      go_wp2_with fail
      go_still_tail 14, (by kernel_rfl)
      change wpList _ _ _ _ _ wr.drew
      go_wp2_with fail
      have hg2 : Grid ((wr.setCell ⟨blk i, k, none⟩ (.float .f64 (fval .quo wr.drew x y))).drewN (1 + ndraw .quo x y)) base G n n blk cap (updN (clF f k n i) i (clR f k i (k + 1))) := by
        have := (HG.out.set hlt hk (copFF .quo wr.drew HX.out.1 HX.out.2) (fval_lt _ _ _ _)).drewN (1 + ndraw .quo x y)
        rw [clR_zero, ← clF_row f k n i]
        rw [← clF_row f k n i] at this
        exact this
      have hR2 : Rest (fun b => ∃ i, i < n ∧ b = blk i) base w ((wr.setCell ⟨blk i, k, none⟩ (.float .f64 (fval .quo wr.drew x y))).drewN (1 + ndraw .quo x y)) := (HR.out.set hlo.1 ⟨i, hlt, rfl⟩ _).drewN _
      clear HG HR r1 r2 r3 x1 y1 hlo
      generalize (wr.setCell ⟨blk i, k, none⟩ (.float .f64 (fval .quo wr.drew x y))).drewN (1 + ndraw .quo x y) = W at *
      go_wp2_with fail
      go_loopw [5] (fun jj wr => ∃ (m : Nat), k < m ∧ m ≤ n ∧ jj = .int .i64 m ∧ Grid wr base G n n blk cap (updN (clF f k n i) i (clR f k i m)) ∧ Rest (fun b => ∃ i, i < n ∧ b = blk i) base w wr) (fun jj _ => n - (intOf jj).toNat)
      case atStart => exact ⟨k + 1, by omega, by omega, by go_num, hg2, hR2⟩
      case round =>
        clear hg2 hR2 HX x3 y3
        obtain ⟨m, hkm, hmn, rfl, hg, hR⟩ := hrel
        by_cases hlm : m < n
        · go_wp2_with fail
          refine wp_region_ord [(0, 1), (1, 1), (2, 1), (3, 2), (4, 1), (5, 1), (6, 2), (7, 1), (8, 1), (9, 1), (10, 2), (11, 1), (12, 1), (13, 2), (14, 1), (15, 1), (16, 1), (17, 2), (18, 1), (19, 1), (20, 2), (21, 0), (22, 0), (23, 1), (24, 0)] (by kernel_rfl) (by kernel_rfl) (fun _ _ d _ _ h => by cases d <;> exact h) ?_
          intro W hW
          have hg' : Grid W base G n n blk cap (updN (clF f k n i) i (clR f k i m)) := by rw [hW]; exact hg.below (Below.refl _ _).drew
          have hR' : Rest (fun b => ∃ i, i < n ∧ b = blk i) base w W := by rw [hW]; exact hR.drewN 1
          clear hg hR hW
          have r1 := hg'.ref i hlt
          have r2 := hg'.ref k hk
          have r3 := (hg'.row i hlt).free
          have hlo := (hg'.row i hlt).lt
          obtain ⟨x, x1, x2, x3⟩ := hg'.cell hlt hlm
          obtain ⟨l, l1, l2, l3⟩ := hg'.cell hlt hk
          obtain ⟨y, y1, y2, y3⟩ := hg'.cell hk hlm
          rw [updN_at] at x2 l2
          rw [updN_ne _ _ (by omega), clF_top] at y2
          have e1 : clR f k i m m = f i m := by unfold clR; rw [if_neg (by omega), if_neg (by omega)]
          have e2 : clR f k i m k = cop .quo (f i k) (f k k) := by unfold clR; rw [if_pos rfl]
          rw [e1] at x2
          rw [e2] at l2
          have HX := Lib.hid (show canon x = f i m ∧ canon l = cop .quo (f i k) (f k k) ∧ canon y = f k m from ⟨x2, l2, y2⟩)
          have HG := Lib.hid hg'
          have HR := Lib.hid hR'
          clear hg' hR' x2 y2 l2 e1 e2
          iterate 21
            first
              | refine wpOrd_pure (fun K hK => ?_)
              | refine wpOrd_take (fun K hK => ?_)
            go_simp
            refine hK _ ?_
            clear hK K
          refine wpOrd_do (fun K hK => ?_)
          go_simp
          refine hK _ _ (fun _ => ⟨_, rfl⟩) ?_
          clear hK K
          refine wpOrd_do (fun K hK => ?_)
          go_simp
          refine hK _ _ (fun _ => ⟨_, rfl⟩) ?_
          clear hK K
          iterate 1
            first
              | refine wpOrd_pure (fun K hK => ?_)
              | refine wpOrd_take (fun K hK => ?_)
            go_simp
            refine hK _ ?_
            clear hK K
          refine wpOrd_do (fun K hK => ?_)
          go_simp
          refine hK _ _ (fun h => Bool.noConfusion (Eq.trans (Eq.symm (by kernel_rfl : _ = false)) h)) ?_
          clear hK K
          refine wpOrd_nil ?_
          have hv : canon (fval .sub (W.drewN (ndraw .mul l y)) x (fval .mul W l y)) = cop .sub (f i m) (cop .mul (cop .quo (f i k) (f k k)) (f k m)) := copFF .sub _ HX.out.1 (copFF .mul _ HX.out.2.1 HX.out.2.2)
          have HV := Lib.hid hv
          clear hv
          go_wp2_with fail
          go_roundw
          case rel => exact ⟨m + 1, by omega, by omega, by go_num, by
            have := (HG.out.set hlt hlm HV.out (fval_lt _ _ _ _)).drewN
            rw [clR_succ f hkm]
            unfold updN2 at this
            rw [updN_at, updN_updN] at this
            exact this _, (HR.out.set hlo.1 ⟨i, hlt, rfl⟩ _).drewN _⟩
          case measure => simp [intOf]; omega
        · obtain rfl : m = n := by omega
          rw [clF_next f hki] at hg
          go_wp2_with fail
          go_roundw
          case rel => exact ⟨i + 1, by omega, by omega, by go_num, hg, hR⟩
          case measure => simp [intOf]; omega
    · obtain rfl : i = n := by omega
      go_wp2_with fail
      go_end0
      exact ⟨⟨_, rfl⟩, hg, hR⟩
end Go.Proofs.Ytnlbafjmbamoeaa
