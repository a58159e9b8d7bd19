/-
  Rows solved, walked.
-/
import Derived.Test.YtnlbafjmbamoeaaLif
namespace Go.Proofs.Ytnlbafjmbamoeaa
open Go.RowKit
open Ieee (double)
attribute [local go_sem] alloc_drewN setCell_drewN call_bits call_frombits ord_lt ord_eq ord_gt ord_ne ord_le ord_ge eqB_self run_fadd run_fsub run_fmul run_fquo haStoreFlt takeOp pureOp readsUpon doOp

/-- Two cells of a block. -/
def Box2 (B : Nat) (u v : Value) (w : World) : Prop := w.cell? ⟨B, 0, none⟩ = some u ∧ w.cell? ⟨B, 1, none⟩ = some v ∧ B < w.heap.size
theorem Box2.below {B : Nat} {u v : Value} {w w' : World} (h : Box2 B u v w) {C : Nat} (hb : Below C w w') (hC : B < C) : Box2 B u v w' :=
  ⟨(hb.cell (p := ⟨B, 0, none⟩) hC).trans h.1, (hb.cell (p := ⟨B, 1, none⟩) hC).trans h.2.1, Nat.lt_of_lt_of_le h.2.2 hb.size⟩
theorem Box2.new (u v : Value) (w : World) (t : TypeId) : Box2 w.heap.size u v (w.alloc (.cells #[u, v] t)) := by
  refine ⟨?_, ?_, by simp⟩ <;> rw [World.cell?_alloc_new] <;> rfl
set_option maxHeartbeats 4000000 in
set_option maxRecDepth 100000 in
theorem solve_tells (n : Nat) (vA vP vb : Value) (f : Nat → Nat → Nat) (q b : Nat → Nat) (w : World) (hA : TabR w vA n (fun _ => n) f) (hP : Ints0 w vP n (fun i => (q i : Int))) (hb : FRow w vb n b) (hq : ∀ i, i < n → q i < n) (h1 : 1 ≤ n) (h8 : n ≤ 8) :
    Calls Try.prog 48 #[.agg #[vA, vP], vb] w fun e w' => ∃ R, e = .returned (.slice (some ⟨R, 0, none⟩) n n) ∧ OwnF w' w.heap.size R n n (solveF f n (fun i => b (q i))) ∧ Below w.heap.size w w' := by
  have hb1 : Below w.heap.size w (w.alloc (.cells #[vA, vP] 57)) := (Below.refl _ _).alloc (Nat.le_refl _) _
  have hbx := Box2.new vA vP w 57
  have hA1 := hA.below hb1
  have ST := Lib.hid (stands_true _ n f _ hA1 h1 h8)
  obtain ⟨a, capA, rfl, hn, hAr⟩ := hA
  obtain ⟨p, capP, rfl, -, hPr⟩ := hP
  obtain ⟨c, capb, rfl, -, hbr⟩ := hb
  obtain ⟨ab_, ao, rfl, has, hAc⟩ := hAr (by omega)
  obtain ⟨pb, po, rfl, hps, hPc⟩ := hPr (by omega)
  obtain ⟨bb, bo, rfl, hbs, hbc⟩ := hbr (by omega)
  obtain ⟨iF, hF, f1, f2, f3⟩ := info_parts infoF
  have HF := Lib.hid (show iF.zero = _ ∧ iF.size = _ ∧ iF.bytes = _ from ⟨f1, f2, f3⟩)
  have HF0 := Lib.hid hF
  have HAC := Lib.hid hAc
  have HPC := Lib.hid hPc
  have HBC := Lib.hid hbc
  have HQ := Lib.hid hq
  clear hF f1 f2 f3 hAr hPr hbr hAc hPc hbc hq hA1
  go_enter Try.func48, Try.ntmps48
  obtain ⟨x1, x2, x3⟩ := id hbx
  go_wp2_with fail
  refine ST.out.mono ?_
  rintro e w1 ⟨rfl, rfl⟩
  generalize hB : w.heap.size = B at *
  have hW : (w.alloc (.cells #[.slice (some ⟨ab_, ao, none⟩) n capA, .slice (some ⟨pb, po, none⟩) n capP] 57)).heap.size = B + 1 := by simp [hB]
  generalize hWe : w.alloc (.cells #[.slice (some ⟨ab_, ao, none⟩) n capA, .slice (some ⟨pb, po, none⟩) n capP] 57) = W at *
  have HW := Lib.hid hW
  clear hW hWe
  have old : ∀ X, Below (B + 1) W X → ∀ b o, b < B → X.cell? ⟨b, o, none⟩ = w.cell? ⟨b, o, none⟩ := fun X hX b o hb => (hX.cell (p := ⟨b, o, none⟩) (show b < B + 1 by omega)).trans (hb1.cell (p := ⟨b, o, none⟩) hb)
  have OLD := Lib.hid old
  have BX := Lib.hid (show ∀ X, Below (B + 1) W X → Box2 B _ _ X from fun X hX => hbx.below hX (by omega))
  have hwB : Below (B + 1) W W := Below.refl _ _
  clear old
  go_wp2_with (first
    | (refine wpList_make_full _ rfl _ _ _ rfl (B + 1) 32 iF (.float .f64 0) 1 Try.underlying31 HF0.out HF.out.1 HF.out.2.1 .i64 .i64 (n : Int) (n : Int) n rfl rfl rfl rfl (by rw [HF.out.2.2]; omega) (by unfold maxLen; omega) (by rw [HW.out]; exact Nat.le_refl _) ?_))
  intro w2 hr1 hg1
  have hb2 : Below (B + 1) W w2 := (Below.refl _ W).grown hg1 (by rw [HW.out]; exact Nat.le_refl _) (fun k hk => by cases hk)
  have ho := ownF_made hr1
  generalize W.heap.size = R at *
  clear hr1 hg1 x1 x2 x3 hbx hwB
  obtain ⟨x1, x2, x3⟩ := BX.out _ hb2
  go_wp2_with fail
  clear x1 x2 x3
  go_loopw [37] (fun i wr => ∃ (i' : Nat) (g : Nat → Nat), i' ≤ n ∧ i = .int .i64 i' ∧ OwnF wr (B + 1) R n n g ∧ (∀ j, j < i' → g j = fwF f (fun i => b (q i)) j) ∧ Below (B + 1) W wr) (fun i _ => n - (intOf i).toNat)
  case atStart => exact ⟨0, _, by omega, rfl, ho, fun j hj => by omega, hb2⟩
  case round =>
    clear ho hb2
    obtain ⟨i, g, hi, rfl, ho, hg, hbl⟩ := hrel
    by_cases hlt : i < n
    · have o1 := OLD.out _ hbl
      have p1 := HPC.out i hlt
      obtain ⟨y, y1, y2, y3⟩ := HBC.out (q i) (HQ.out i hlt)
      have hqi := HQ.out i hlt
      have d1 : decide ((q i : Int) < 0) = false := by simp
      have d2 : decide (n ≤ q i) = false := by simpa using hqi
      have d3 : decide ((n : Int) ≤ (q i : Int)) = false := by simpa using hqi
      rw [← o1 _ _ hps] at p1
      rw [← o1 _ _ hbs] at y1
      have r1 := ho.free i
      obtain ⟨z, z1, -, -⟩ := ho.cell hlt
      have hRl := ho.lt
      have ho2 := ho.set hlt y2 y3
      have HO := Lib.hid ho2
      have HG := Lib.hid hg
      have hbl2 := Lib.hid (hbl.setCell (p := ⟨R, i, none⟩) hRl.1 (.float .f64 y))
      clear ho ho2 hg o1 y2 hbl
      go_wp2_with fail
      generalize wr.setCell ⟨R, i, none⟩ (.float .f64 y) = X at *
      clear r1 z1 p1 y1 y3
      go_loopw [57] (fun j wr => ∃ (m : Nat) (g : Nat → Nat), m ≤ i ∧ j = .int .i64 m ∧ OwnF wr (B + 1) R n n g ∧ (∀ j, j < i → g j = fwF f (fun i => b (q i)) j) ∧ g i = subsF (f i) (fwF f (fun i => b (q i))) (b (q i)) m ∧ Below (B + 1) W wr) (fun j _ => i - (intOf j).toNat)
      case atStart => exact ⟨0, _, by omega, rfl, HO.out, fun j hj => by rw [updN_ne _ _ (by omega)]; exact HG.out j hj, by rw [updN_at]; rfl, hbl2.out⟩
      case round =>
        clear HO HG hbl2
        obtain ⟨m, g, hm, rfl, ho, hg, hgi, hbl⟩ := hrel
        by_cases hml : m < i
        · have hmn : m < n := by omega
          have HGm := Lib.hid (show g m = _ ∧ g i = _ from ⟨hg m hml, hgi⟩)
          have HG := Lib.hid hg
          clear hg hgi
          go_wp2_with fail
          refine wp_region_ord [(0, 1), (1, 1), (2, 1), (3, 2), (4, 1), (5, 2), (6, 1), (7, 1), (8, 2), (9, 1), (10, 1), (11, 2), (12, 1), (13, 1), (14, 1), (15, 2), (16, 0), (17, 0), (18, 1), (19, 0)] (by kernel_rfl) (by kernel_rfl) (fun _ _ d _ _ h => by cases d <;> exact h) ?_
          intro Y hY
          have ho3 : OwnF Y (B + 1) R n n g := by rw [hY]; exact ho.drew
          have hbl3 : Below (B + 1) W Y := by rw [hY]; exact hbl.drew
          clear hY ho hbl
          obtain ⟨a1, a2, a3⟩ := BX.out _ hbl3
          obtain ⟨u, u1, ua, ucap, rfl, -, ur⟩ := HAC.out i hlt
          obtain ⟨ub, uo, rfl, hus, uc⟩ := ur (by omega)
          obtain ⟨l, l1, l2, l3⟩ := uc m (by omega)
          have o1 := OLD.out _ hbl3
          rw [← o1 _ _ has] at u1
          rw [← o1 _ _ (by rw [← hB]; exact hus)] at l1
          obtain ⟨x, x1, x2, x3⟩ := ho3.cell hlt
          obtain ⟨y, y1, y2, y3⟩ := ho3.cell (show m < n by omega)
          have r1 := ho3.free i
          have HX := Lib.hid (show canon x = g i ∧ canon l = f i m ∧ canon y = g m from ⟨x2, l2, y2⟩)
          have HO := Lib.hid ho3
          have HBL := Lib.hid hbl3
          clear ho3 hbl3 x2 l2 y2 ur uc o1
          iterate 16
            first
              | refine wpOrd_pure (fun K hK => ?_)
              | refine wpOrd_take (fun K hK => ?_)
            go_simp
            refine hK _ ?_
            clear hK K
          refine wpOrd_do (fun K hK => ?_)
          go_simp
          refine hK _ _ (fun _ => ⟨_, rfl⟩) ?_
          clear hK K
          refine wpOrd_do (fun K hK => ?_)
          go_simp
          refine hK _ _ (fun _ => ⟨_, rfl⟩) ?_
          clear hK K
          iterate 1
            first
              | refine wpOrd_pure (fun K hK => ?_)
              | refine wpOrd_take (fun K hK => ?_)
            go_simp
            refine hK _ ?_
            clear hK K
          refine wpOrd_do (fun K hK => ?_)
          go_simp
          refine hK _ _ (fun h => Bool.noConfusion (Eq.trans (Eq.symm (by kernel_rfl : _ = false)) h)) ?_
          clear hK K
          refine wpOrd_nil ?_
          have hv : canon (fval .sub (Y.drewN (ndraw .mul l y)) x (fval .mul Y l y)) = subsF (f i) (fwF f (fun i => b (q i))) (b (q i)) (m + 1) := by
            rw [copFF .sub _ (HX.out.1.trans HGm.out.2) (copFF .mul Y HX.out.2.1 (HX.out.2.2.trans HGm.out.1))]
            rfl
          have ho4 := fun e => (HO.out.set hlt hv (fval_lt _ _ _ _)).drewN e
          have hbl4 := fun e => below_drew (HBL.out.setCell (p := ⟨R, i, none⟩) hRl.1 (.float .f64 (fval .sub (Y.drewN (ndraw .mul l y)) x (fval .mul Y l y)))) e
          have HO4 := Lib.hid ho4
          have HBL4 := Lib.hid hbl4
          clear ho4 hbl4 hv
          go_wp2_with fail
          go_roundw
          case rel => exact ⟨m + 1, _, by omega, by go_num, HO4.out _, fun j hj => by rw [updN_ne _ _ (by omega)]; exact HG.out j hj, by rw [updN_at], HBL4.out _⟩
          case measure => simp [intOf]; omega
        · obtain rfl : m = i := by omega
          have HG := Lib.hid (show g m = fwF f (fun i => b (q i)) m by rw [hgi, fwF_eq])
          have HG2 := Lib.hid hg
          clear hg hgi
          go_wp2_with fail
          go_roundw
          case rel => exact ⟨m + 1, g, by omega, by go_num, ho, fun j hj => by
            by_cases e : j = m
            · subst e; exact HG.out
            · exact HG2.out j (by omega), hbl⟩
          case measure => simp [intOf]; omega
    · obtain rfl : i = n := by omega
      have HG := Lib.hid hg
      clear hg
      go_wp2_with fail
      generalize hY : fwF f (fun i => b (q i)) = y at *
      have HYE := Lib.hid hY
      clear hY HPC HBC HQ hlt hi
      go_loopw [10] (fun sl wr => ∃ (t : Nat) (z : Int) (g : Nat → Nat), t ≤ i ∧ z = t - 1 ∧ sl = .int .i64 z ∧ OwnF wr (B + 1) R i i g ∧ (∀ j, j < i → g j = if t ≤ j then bkF f i y j else y j) ∧ Below (B + 1) W wr) (fun sl _ => (intOf sl + 1).toNat)
      case atStart => exact ⟨i, _, g, by omega, rfl, rfl, ho, fun j hj => by rw [if_neg (by omega)]; exact HG.out j hj, hbl⟩
      case round =>
        clear ho hbl HG
        obtain ⟨t, z, g, ht, hz, rfl, ho, hg, hbl⟩ := hrel
        cases t with
        | zero =>
          have hz1 : z < 0 := by omega
          have hz2 : -2 < z := by omega
          clear hz
          have HG := Lib.hid hg
          clear hg
          go_wp2_with fail
          go_ret
          exact ⟨R, rfl, (ho.base (by rw [hB]; have := ho.lt.1; omega)).congr (fun j hj => by rw [HG.out j hj, if_pos (by omega)]; unfold solveF; rw [HYE.out]), by rw [hB]; exact hb1.trans (hbl.mono (by omega))⟩
        | succ r =>
          obtain rfl : z = (r : Int) := by omega
          have hri : r < i := by omega
          have HG := Lib.hid hg
          clear hg hz
          go_wp2_with fail
          go_loopw [11] (fun sl wr => ∃ (m : Nat) (g : Nat → Nat), r + 1 + m ≤ i ∧ sl = .int .i64 (r + 1 + m : Nat) ∧ OwnF wr (B + 1) R i i g ∧ (∀ j, j < i → g j = if j < r then y j else if j = r then subsF (fun j => f r (r + 1 + j)) (fun j => bkF f i y (r + 1 + j)) (y r) m else bkF f i y j) ∧ Below (B + 1) W wr) (fun sl _ => i - (intOf sl).toNat)
          case atStart => exact ⟨0, g, by omega, by go_num, ho, fun j hj => by
            rw [HG.out j hj]
            by_cases e : j < r
            · rw [if_neg (by omega), if_pos e]
            · rw [if_neg e]
              by_cases e2 : j = r
              · subst e2; rw [if_neg (by omega), if_pos rfl]; rfl
              · rw [if_pos (by omega), if_neg e2], hbl⟩
          case round =>
            clear ho hbl HG
            obtain ⟨m, g, hm, rfl, ho, hg, hbl⟩ := hrel
            by_cases hlt : r + 1 + m < i
            · generalize hke : r + 1 + m = k at *
              have hrk : r < k := by omega
              have HGr := Lib.hid (show g r = _ by rw [hg r hri, if_neg (by omega), if_pos rfl])
              have HGk := Lib.hid (show g k = bkF f i y k by rw [hg k hlt, if_neg (by omega), if_neg (by omega)])
              have HG := Lib.hid hg
              have HKE := Lib.hid hke
              clear hg hke
              go_wp2_with fail
              refine wp_region_ord [(0, 1), (1, 1), (2, 1), (3, 2), (4, 1), (5, 2), (6, 1), (7, 1), (8, 2), (9, 1), (10, 1), (11, 2), (12, 1), (13, 1), (14, 1), (15, 2), (16, 0), (17, 0), (18, 1), (19, 0)] (by kernel_rfl) (by kernel_rfl) (fun _ _ d _ _ h => by cases d <;> exact h) ?_
              intro Y hY
              have ho3 : OwnF Y (B + 1) R i i g := by rw [hY]; exact ho.drew
              have hbl3 : Below (B + 1) W Y := by rw [hY]; exact hbl.drew
              clear hY ho hbl
              obtain ⟨a1, a2, a3⟩ := BX.out _ hbl3
              obtain ⟨u, u1, ua, ucap, rfl, -, ur⟩ := HAC.out r hri
              obtain ⟨ub, uo, rfl, hus, uc⟩ := ur (by omega)
              obtain ⟨l, l1, l2, l3⟩ := uc k (by omega)
              have o1 := OLD.out _ hbl3
              rw [← o1 _ _ has] at u1
              rw [← o1 _ _ (by rw [← hB]; exact hus)] at l1
              obtain ⟨x, x1, x2, x3⟩ := ho3.cell hri
              obtain ⟨e, e1, e2, e3⟩ := ho3.cell hlt
              have r1 := ho3.free r
              have hRl := ho3.lt
              have HX := Lib.hid (show canon x = g r ∧ canon l = f r k ∧ canon e = g k from ⟨x2, l2, e2⟩)
              have HO := Lib.hid ho3
              have HBL := Lib.hid hbl3
              clear ho3 hbl3 x2 l2 e2 ur uc o1
              iterate 16
                first
                  | refine wpOrd_pure (fun K hK => ?_)
                  | refine wpOrd_take (fun K hK => ?_)
                go_simp
                refine hK _ ?_
                clear hK K
              refine wpOrd_do (fun K hK => ?_)
              go_simp
              refine hK _ _ (fun _ => ⟨_, rfl⟩) ?_
              clear hK K
              refine wpOrd_do (fun K hK => ?_)
              go_simp
              refine hK _ _ (fun _ => ⟨_, rfl⟩) ?_
              clear hK K
              iterate 1
                first
                  | refine wpOrd_pure (fun K hK => ?_)
                  | refine wpOrd_take (fun K hK => ?_)
                go_simp
                refine hK _ ?_
                clear hK K
              refine wpOrd_do (fun K hK => ?_)
              go_simp
              refine hK _ _ (fun h => Bool.noConfusion (Eq.trans (Eq.symm (by kernel_rfl : _ = false)) h)) ?_
              clear hK K
              refine wpOrd_nil ?_
              have hv : canon (fval .sub (Y.drewN (ndraw .mul l e)) x (fval .mul Y l e)) = subsF (fun j => f r (r + 1 + j)) (fun j => bkF f i y (r + 1 + j)) (y r) (m + 1) := by
                rw [copFF .sub _ (HX.out.1.trans HGr.out) (copFF .mul Y HX.out.2.1 (HX.out.2.2.trans HGk.out)), subsF, HKE.out]
              have ho4 := fun d => (HO.out.set hri hv (fval_lt _ _ _ _)).drewN d
              have hbl4 := fun d => below_drew (HBL.out.setCell (p := ⟨R, r, none⟩) hRl.1 (.float .f64 (fval .sub (Y.drewN (ndraw .mul l e)) x (fval .mul Y l e)))) d
              have HO4 := Lib.hid ho4
              have HBL4 := Lib.hid hbl4
              clear ho4 hbl4 hv
              go_wp2_with fail
              go_roundw
              case rel => exact ⟨m + 1, _, by have := HKE.out; omega, by rw [← Nat.add_assoc, HKE.out]; go_num, HO4.out _, fun j hj => by
                by_cases e4 : j = r
                · subst e4; rw [updN_at, if_neg (by omega), if_pos rfl]
                · rw [updN_ne _ _ e4, HG.out j hj, if_neg e4, if_neg e4], HBL4.out _⟩
              case measure => simp [intOf]; omega
            · generalize hke : r + 1 + m = k at *
              have hki : k = i := by omega
              have HGr := Lib.hid (show g r = _ by rw [hg r hri, if_neg (by omega), if_pos rfl])
              have HG := Lib.hid hg
              have hm2 : m = i - 1 - r := by omega
              have HM := Lib.hid hm2
              clear hg hke hm2
              subst hki
              go_wp2_with fail
              refine wp_region_ord [(0, 1), (1, 1), (2, 1), (3, 2), (4, 1), (5, 2), (6, 1), (7, 1), (8, 2), (9, 1), (10, 1), (11, 2), (12, 0), (13, 1), (14, 0)] (by kernel_rfl) (by kernel_rfl) (fun _ _ d _ _ h => by cases d <;> exact h) ?_
              intro Y hY
              have ho3 : OwnF Y (B + 1) R k k g := by rw [hY]; exact ho.drew
              have hbl3 : Below (B + 1) W Y := by rw [hY]; exact hbl.drew
              clear hY ho hbl
              obtain ⟨a1, a2, a3⟩ := BX.out _ hbl3
              obtain ⟨u, u1, ua, ucap, rfl, -, ur⟩ := HAC.out r hri
              obtain ⟨ub, uo, rfl, hus, uc⟩ := ur (by omega)
              obtain ⟨l, l1, l2, l3⟩ := uc r (by omega)
              have o1 := OLD.out _ hbl3
              rw [← o1 _ _ has] at u1
              rw [← o1 _ _ (by rw [← hB]; exact hus)] at l1
              obtain ⟨x, x1, x2, x3⟩ := ho3.cell hri
              have r1 := ho3.free r
              have hRl := ho3.lt
              have HX := Lib.hid (show canon x = g r ∧ canon l = f r r from ⟨x2, l2⟩)
              have HO := Lib.hid ho3
              have HBL := Lib.hid hbl3
              clear ho3 hbl3 x2 l2 ur uc o1
              iterate 12
                first
                  | refine wpOrd_pure (fun K hK => ?_)
                  | refine wpOrd_take (fun K hK => ?_)
                go_simp
                refine hK _ ?_
                clear hK K
              refine wpOrd_do (fun K hK => ?_)
              go_simp
              refine hK _ _ (fun _ => ⟨_, rfl⟩) ?_
              clear hK K
              iterate 1
                first
                  | refine wpOrd_pure (fun K hK => ?_)
                  | refine wpOrd_take (fun K hK => ?_)
                go_simp
                refine hK _ ?_
                clear hK K
              refine wpOrd_do (fun K hK => ?_)
              go_simp
              refine hK _ _ (fun h => Bool.noConfusion (Eq.trans (Eq.symm (by kernel_rfl : _ = false)) h)) ?_
              clear hK K
              refine wpOrd_nil ?_
              have hv : canon (fval .quo Y x l) = bkF f k y r := by
                rw [copFF .quo _ (HX.out.1.trans HGr.out) HX.out.2, bkF_eq f k y hri, HM.out]
              have ho4 := fun d => (HO.out.set hri hv (fval_lt _ _ _ _)).drewN d
              have hbl4 := fun d => below_drew (HBL.out.setCell (p := ⟨R, r, none⟩) hRl.1 (.float .f64 (fval .quo Y x l))) d
              have HO4 := Lib.hid ho4
              have HBL4 := Lib.hid hbl4
              clear ho4 hbl4 hv
              go_wp2_with fail
              go_roundw
              case rel => exact ⟨r, _, _, by omega, rfl, by go_num, HO4.out _, fun j hj => by
                by_cases e4 : j = r
                · subst e4; rw [updN_at, if_pos (by omega)]
                · rw [updN_ne _ _ e4, HG.out j hj, if_neg e4]
                  by_cases e5 : j < r
                  · rw [if_pos e5, if_neg (by omega)]
                  · rw [if_neg e5, if_pos (by omega)], HBL4.out _⟩
              case measure => simp [intOf]
end Go.Proofs.Ytnlbafjmbamoeaa
