/-
  The document's rows of equations, walked: solved.
-/
import Derived.Test.YtainodgbcpkipaaLig
namespace Go.Proofs.Ytainodgbcpkipaa
open Go.RowKit
open Ieee (double)
attribute [local go_sem] alloc_drewN setCell_drewN call_bits call_frombits ord_lt ord_eq ord_gt ord_ne ord_le ord_ge eqB_self run_fadd run_fsub run_fmul run_fquo haStoreFlt takeOp pureOp readsUpon doOp Int.add_sub_cancel

set_option maxHeartbeats 8000000 in
set_option maxRecDepth 100000 in
theorem rsolve_tells (n : Nat) (vA vP vb : Value) (f : Nat → Nat → Nat) (q b : Nat → Nat) (w : World) (hA : TabR w vA n (fun _ => n) f) (hP : Ints0 w vP n (fun i => (q i : Int))) (hb : FRow w vb n b) (hq : ∀ i, i < n → q i < n) (h1 : 1 ≤ n) (h8 : n ≤ 8) :
    Calls Try.prog 25 #[.agg #[vA, vP], vb] w fun e w' => ∃ R, e = .returned (.slice (some ⟨R, 0, none⟩) n n) ∧ OwnF w' w.heap.size R n n (solveF f n (fun i => b (q i))) ∧ Below w.heap.size w w' := by
  have hb1 : Below w.heap.size w (w.alloc (.cells #[vA, vP] 32)) := (Below.refl _ _).alloc (Nat.le_refl _) _
  have hbx := Box2.new vA vP w 32
  obtain ⟨a, capA, rfl, hn, hAr⟩ := hA
  obtain ⟨p, capP, rfl, -, hPr⟩ := hP
  obtain ⟨c, capb, rfl, -, hbr⟩ := hb
  obtain ⟨ab_, ao, rfl, has, hAc⟩ := hAr (by omega)
  obtain ⟨pb, po, rfl, hps, hPc⟩ := hPr (by omega)
  obtain ⟨bb, bo, rfl, hbs, hbc⟩ := hbr (by omega)
  obtain ⟨iF, hF, f1, f2, f3⟩ := info_parts infoF
  have HF := Lib.hid (show iF.zero = _ ∧ iF.size = _ ∧ iF.bytes = _ from ⟨f1, f2, f3⟩)
  have HF0 := Lib.hid hF
  have HAC := Lib.hid hAc
  have HPC := Lib.hid hPc
  have HBC := Lib.hid hbc
  have HQ := Lib.hid hq
  clear hF f1 f2 f3 hAr hPr hbr hAc hPc hbc hq
  go_enter Try.func25, Try.ntmps25
  obtain ⟨x1, x2, x3⟩ := id hbx
  generalize hB : w.heap.size = B at *
  have hW : (w.alloc (.cells #[.slice (some ⟨ab_, ao, none⟩) n capA, .slice (some ⟨pb, po, none⟩) n capP] 32)).heap.size = B + 1 := by simp [hB]
  have old : ∀ X, Below (B + 1) (w.alloc (.cells #[.slice (some ⟨ab_, ao, none⟩) n capA, .slice (some ⟨pb, po, none⟩) n capP] 32)) X → ∀ b o, b < B → X.cell? ⟨b, o, none⟩ = w.cell? ⟨b, o, none⟩ := fun X hX b o hb => (hX.cell (p := ⟨b, o, none⟩) (show b < B + 1 by omega)).trans (hb1.cell (p := ⟨b, o, none⟩) hb)
  have OLD := Lib.hid old
  have HW := Lib.hid hW
  have BX := Lib.hid (show ∀ X, Below (B + 1) (w.alloc (.cells #[.slice (some ⟨ab_, ao, none⟩) n capA, .slice (some ⟨pb, po, none⟩) n capP] 32)) X → Box2 B (.slice (some ⟨ab_, ao, none⟩) n capA) (.slice (some ⟨pb, po, none⟩) n capP) X from fun X hX => hbx.below hX (by omega))
  clear old hW x1 x2 x3 hbx
  go_wp2_with (first
    | (refine wpList_make_full _ rfl _ _ _ rfl (B + 1) 45 iF (.float .f64 0) 1 Try.underlying26 HF0.out HF.out.1 HF.out.2.1 .i64 .i64 (n : Int) (n : Int) n rfl rfl rfl rfl (by rw [HF.out.2.2]; omega) (by unfold maxLen; omega) (by rw [HW.out]; exact Nat.le_refl _) ?_))
  generalize w.alloc (.cells #[.slice (some ⟨ab_, ao, none⟩) n capA, .slice (some ⟨pb, po, none⟩) n capP] 32) = W at *
  intro w2 hr1 hg1
  have hb2 : Below (B + 1) W w2 := (Below.refl _ W).grown hg1 (by rw [HW.out]; exact Nat.le_refl _) (fun k hk => by cases hk)
  have ho := ownF_made hr1
  clear hr1 hg1
  go_wp2_with fail
  go_loopw [7] (fun i wr => ∃ (i' : Nat) (g : Nat → Nat), i' ≤ n ∧ i = .int .i64 i' ∧ OwnF wr (B + 1) (B + 1) n n g ∧ (∀ j, j < i' → g j = b (q j)) ∧ Below (B + 1) W wr) (fun i _ => n - (intOf i).toNat)
  case atStart => exact ⟨0, _, by omega, rfl, ho, fun j hj => by omega, hb2⟩
  case round =>
    clear ho hb2
    obtain ⟨i, g, hi, rfl, ho, hg, hbl⟩ := hrel
    by_cases hlt : i < n
    · have o1 := OLD.out _ hbl
      have p1 := HPC.out i hlt
      obtain ⟨y, y1, y2, y3⟩ := HBC.out (q i) (HQ.out i hlt)
      have hqi := HQ.out i hlt
      have d1 : decide ((q i : Int) < 0) = false := by simp
      have d2 : decide (n ≤ q i) = false := by simpa using hqi
      have d3 : decide ((n : Int) ≤ (q i : Int)) = false := by simpa using hqi
      rw [← o1 _ _ hps] at p1
      rw [← o1 _ _ hbs] at y1
      obtain ⟨x1, x2, x3⟩ := BX.out _ hbl
      have r1 := ho.free i
      obtain ⟨z, z1, -, -⟩ := ho.cell hlt
      have hRl := ho.lt
      have ho2 := ho.set hlt y2 y3
      have HO := Lib.hid ho2
      have HG := Lib.hid hg
      have hbl2 := Lib.hid (hbl.setCell (p := ⟨B + 1, i, none⟩) hRl.1 (.float .f64 y))
      clear ho ho2 hg o1 y2 hbl
      go_wp2_with fail
      generalize wr.setCell ⟨B + 1, i, none⟩ (.float .f64 y) = X at *
      clear r1 z1 p1 y1 y3
      go_roundw
      case rel => exact ⟨i + 1, _, by omega, by go_num, HO.out, fun j hj => by
        by_cases e : j = i
        · subst e; rw [updN_at]
        · rw [updN_ne _ _ e]; exact HG.out j (by omega), hbl2.out⟩
      case measure => simp [intOf]; omega
    · obtain rfl : n = i := by omega
      have HO := Lib.hid ho
      have HG := Lib.hid hg
      have HBL := Lib.hid hbl
      clear ho hg hbl
      go_wp2_with fail
      generalize hbq : (fun i => b (q i)) = bq at *
      have HBQ := Lib.hid (show ∀ i, b (q i) = bq i from fun i => congrFun hbq i)
      clear hbq HPC HBC HQ
      go_loopw [8] (fun i wr => ∃ (i' : Nat) (g : Nat → Nat), i' ≤ n ∧ i = .int .i64 i' ∧ OwnF wr (B + 1) (B + 1) n n g ∧ (∀ j, j < n → g j = if j < i' then fwF f bq j else bq j) ∧ Below (B + 1) W wr) (fun i _ => n - (intOf i).toNat)
      case atStart => exact ⟨0, _, by omega, rfl, HO.out, fun j hj => by rw [if_neg (by omega), HG.out j hj, HBQ.out], HBL.out⟩
      case round =>
        clear HO HG HBL
        obtain ⟨i, g, hi, rfl, ho, hg, hbl⟩ := hrel
        by_cases hil : i < n
        · have HO := Lib.hid ho
          have HG := Lib.hid hg
          have HBL := Lib.hid hbl
          clear ho hg hbl
          go_wp2_with fail
          go_loopw [9] (fun j wr => ∃ (m : Nat) (g : Nat → Nat), m ≤ i ∧ j = .int .i64 m ∧ OwnF wr (B + 1) (B + 1) n n g ∧ (∀ j, j < n → g j = if j < i then fwF f bq j else if j = i then subsF (f i) (fwF f bq) (bq i) m else bq j) ∧ Below (B + 1) W wr) (fun j _ => i - (intOf j).toNat)
          case atStart => exact ⟨0, _, by omega, rfl, HO.out, fun j hj => by
            rw [HG.out j hj]
            by_cases e : j < i
            · rw [if_pos e, if_pos e]
            · rw [if_neg e, if_neg e]
              by_cases e2 : j = i
              · subst e2; rw [if_pos rfl]; rfl
              · rw [if_neg e2], HBL.out⟩
          case round =>
            clear HO HG HBL
            obtain ⟨m, g, hm, rfl, ho, hg, hbl⟩ := hrel
            by_cases hml : m < i
            · have hmn : m < n := by omega
              have HGm := Lib.hid (show g m = fwF f bq m ∧ g i = subsF (f i) (fwF f bq) (bq i) m from ⟨by rw [hg m hmn, if_pos hml], by rw [hg i hil, if_neg (by omega), if_pos rfl]⟩)
              have HG := Lib.hid hg
              clear hg
              go_wp2_with fail
              refine wp_region_ord [(0, 1), (1, 2), (2, 1), (3, 1), (4, 2), (5, 1), (6, 1), (7, 2), (8, 1), (9, 1), (10, 1), (11, 2), (12, 0), (13, 1)] (by kernel_rfl) (by kernel_rfl) (fun _ _ d _ _ h => by cases d <;> exact h) ?_
              intro Y hY
              have ho3 : OwnF Y (B + 1) (B + 1) n n g := by rw [hY]; exact ho.drew
              have hbl3 : Below (B + 1) W Y := by rw [hY]; exact hbl.drew
              clear hY ho hbl
              obtain ⟨a1, a2, a3⟩ := BX.out _ hbl3
              obtain ⟨u, u1, ua, ucap, rfl, -, ur⟩ := HAC.out i hil
              obtain ⟨ub, uo, rfl, hus, uc⟩ := ur (by omega)
              obtain ⟨l, l1, l2, l3⟩ := uc m (by omega)
              have o1 := OLD.out _ hbl3
              rw [← o1 _ _ has] at u1
              rw [← o1 _ _ (by rw [← hB]; exact hus)] at l1
              obtain ⟨y, y1, y2, y3⟩ := ho3.cell hmn
              have HX := Lib.hid (show canon l = f i m ∧ canon y = g m from ⟨l2, y2⟩)
              have HO := Lib.hid ho3
              have HBL := Lib.hid hbl3
              clear ho3 hbl3 l2 y2 ur uc o1
              iterate 12
                first
                  | refine wpOrd_pure (fun K hK => ?_)
                  | refine wpOrd_take (fun K hK => ?_)
                go_simp
                refine hK _ ?_
                clear hK K
              refine wpOrd_do (fun K hK => ?_)
              go_simp
              refine hK _ _ (fun _ => ⟨_, rfl⟩) ?_
              clear hK K
              iterate 1
                first
                  | refine wpOrd_pure (fun K hK => ?_)
                  | refine wpOrd_take (fun K hK => ?_)
                go_simp
                refine hK _ ?_
                clear hK K
              refine wpOrd_nil ?_
              have hv : canon (fval .mul Y l y) = cop .mul (f i m) (fwF f bq m) := copFF .mul _ HX.out.1 (HX.out.2.trans HGm.out.1)
              have ho4 := HO.out.drewN (ndraw .mul l y)
              have hbl4 := below_drew HBL.out (ndraw .mul l y)
              generalize fval .mul Y l y = t at *
              generalize Y.drewN (ndraw .mul l y) = Z at *
              obtain ⟨x, s1, s2, s3⟩ := ho4.cell hil
              have r1 := ho4.free i
              have hRl := ho4.lt.1
              have HV := Lib.hid hv
              have HX2 := Lib.hid s2
              have HO4 := Lib.hid ho4
              have HBL4 := Lib.hid hbl4
              clear hv ho4 hbl4 HO HBL HX a1 a2 u1 l1 y1 s2 l3 y3
              go_wp2_with fail
              have hw : ∀ w', canon (fval .sub w' x t) = subsF (f i) (fwF f bq) (bq i) (m + 1) := fun w' => by
                rw [copFF .sub w' (HX2.out.trans HGm.out.2) HV.out]
                rfl
              have HW2 := Lib.hid hw
              clear hw
              go_roundw
              case rel => exact ⟨m + 1, _, by omega, by go_num, (HO4.out.set hil (HW2.out _) (fval_lt _ _ _ _)).drewN _, fun j hj => by
                by_cases e : j = i
                · subst e; rw [updN_at, if_neg (by omega), if_pos rfl]
                · rw [updN_ne _ _ e, HG.out j hj, if_neg e, if_neg e], below_drew (HBL4.out.setCell (p := ⟨B + 1, i, none⟩) hRl _) _⟩
              case measure => simp [intOf]; omega
            · obtain rfl : i = m := by omega
              have HG := Lib.hid hg
              clear hg
              go_wp2_with fail
              go_roundw
              case rel => exact ⟨i + 1, g, by omega, by go_num, ho, fun j hj => by
                rw [HG.out j hj]
                by_cases e : j < i
                · rw [if_pos e, if_pos (by omega)]
                · rw [if_neg e]
                  by_cases e2 : j = i
                  · subst e2; rw [if_pos rfl, if_pos (by omega), fwF_eq]
                  · rw [if_neg e2, if_neg (by omega)], hbl⟩
              case measure => simp [intOf]; omega
        · obtain rfl : n = i := by omega
          have HG := Lib.hid hg
          clear hg
          go_wp2_with fail
          generalize hY : fwF f bq = y at *
          have HYE := Lib.hid hY
          clear hY
          go_loopw [11] (fun sl wr => ∃ (t : Nat) (g : Nat → Nat), t ≤ n ∧ sl = .int .i64 t ∧ OwnF wr (B + 1) (B + 1) n n g ∧ (∀ j, j < n → g j = if t ≤ j then bkF f n y j else y j) ∧ Below (B + 1) W wr) (fun sl _ => (intOf sl).toNat)
          case atStart => exact ⟨n, g, by omega, rfl, ho, fun j hj => by rw [if_neg (by omega), HG.out j hj, if_pos hj], hbl⟩
          case round =>
            clear ho hbl HG
            obtain ⟨t, g, ht, rfl, ho, hg, hbl⟩ := hrel
            cases t with
            | zero =>
              have HG := Lib.hid hg
              clear hg
              go_wp2_with fail
              go_ret
              exact ⟨B + 1, rfl, (ho.base (by omega)).congr (fun j hj => by rw [HG.out j hj, if_pos (by omega)]; unfold solveF; rw [show (fun i => b (q i)) = bq from funext HBQ.out, HYE.out]), hb1.trans (hbl.mono (by omega))⟩
            | succ r =>
              have hri : r < n := by omega
              have HG := Lib.hid hg
              clear hg
              rw [show ((r + 1 : Nat) : Int) = (r : Int) + 1 by omega]
              have hwr : IntKind.i64.wrap (r : Int) = (r : Int) := IntWalk.i64_in _ (by omega)
              go_wp2_with fail
              go_loopw [12] (fun sl wr => ∃ (m : Nat) (g : Nat → Nat), r + 1 + m ≤ n ∧ sl = .int .i64 (r + 1 + m : Nat) ∧ OwnF wr (B + 1) (B + 1) n n g ∧ (∀ j, j < n → g j = if j < r then y j else if j = r then subsF (fun j => f r (r + 1 + j)) (fun j => bkF f n y (r + 1 + j)) (y r) m else bkF f n y j) ∧ Below (B + 1) W wr) (fun sl _ => n - (intOf sl).toNat)
              case atStart => exact ⟨0, g, by omega, by go_num, ho, fun j hj => by
                rw [HG.out j hj]
                by_cases e : j < r
                · rw [if_neg (by omega), if_pos e]
                · rw [if_neg e]
                  by_cases e2 : j = r
                  · subst e2; rw [if_neg (by omega), if_pos rfl]; rfl
                  · rw [if_pos (by omega), if_neg e2], hbl⟩
              case round =>
                clear ho hbl HG
                obtain ⟨m, g, hm, rfl, ho, hg, hbl⟩ := hrel
                by_cases hlt : r + 1 + m < n
                · generalize hke : r + 1 + m = k at *
                  have hrk : r < k := by omega
                  have HGr := Lib.hid (show g r = subsF (fun j => f r (r + 1 + j)) (fun j => bkF f n y (r + 1 + j)) (y r) m by rw [hg r hri, if_neg (by omega), if_pos rfl])
                  have HGk := Lib.hid (show g k = bkF f n y k by rw [hg k hlt, if_neg (by omega), if_neg (by omega)])
                  have HG := Lib.hid hg
                  have HKE := Lib.hid hke
                  clear hg hke
                  go_wp2_with fail
                  refine wp_region_ord [(0, 1), (1, 2), (2, 1), (3, 1), (4, 1), (5, 2), (6, 1), (7, 1), (8, 2), (9, 1), (10, 1), (11, 1), (12, 2), (13, 0), (14, 1)] (by kernel_rfl) (by kernel_rfl) (fun _ _ d _ _ h => by cases d <;> exact h) ?_
                  intro Y hY
                  have ho3 : OwnF Y (B + 1) (B + 1) n n g := by rw [hY]; exact ho.drew
                  have hbl3 : Below (B + 1) W Y := by rw [hY]; exact hbl.drew
                  clear hY ho hbl
                  obtain ⟨a1, a2, a3⟩ := BX.out _ hbl3
                  obtain ⟨u, u1, ua, ucap, rfl, -, ur⟩ := HAC.out r hri
                  obtain ⟨ub, uo, rfl, hus, uc⟩ := ur (by omega)
                  obtain ⟨l, l1, l2, l3⟩ := uc k (by omega)
                  have o1 := OLD.out _ hbl3
                  rw [← o1 _ _ has] at u1
                  rw [← o1 _ _ (by rw [← hB]; exact hus)] at l1
                  obtain ⟨e, e1, e2, e3⟩ := ho3.cell hlt
                  have HX := Lib.hid (show canon l = f r k ∧ canon e = g k from ⟨l2, e2⟩)
                  have HO := Lib.hid ho3
                  have HBL := Lib.hid hbl3
                  clear ho3 hbl3 l2 e2 ur uc o1
                  iterate 13
                    first
                      | refine wpOrd_pure (fun K hK => ?_)
                      | refine wpOrd_take (fun K hK => ?_)
                    go_simp
                    refine hK _ ?_
                    clear hK K
                  refine wpOrd_do (fun K hK => ?_)
                  go_simp
                  refine hK _ _ (fun _ => ⟨_, rfl⟩) ?_
                  clear hK K
                  iterate 1
                    first
                      | refine wpOrd_pure (fun K hK => ?_)
                      | refine wpOrd_take (fun K hK => ?_)
                    go_simp
                    refine hK _ ?_
                    clear hK K
                  refine wpOrd_nil ?_
                  have hv : canon (fval .mul Y l e) = cop .mul (f r k) (bkF f n y k) := copFF .mul _ HX.out.1 (HX.out.2.trans HGk.out)
                  have ho4 := HO.out.drewN (ndraw .mul l e)
                  have hbl4 := below_drew HBL.out (ndraw .mul l e)
                  generalize fval .mul Y l e = t at *
                  generalize Y.drewN (ndraw .mul l e) = Z at *
                  obtain ⟨x, s1, s2, s3⟩ := ho4.cell hri
                  have r1 := ho4.free r
                  have hRl := ho4.lt.1
                  have HV := Lib.hid hv
                  have HX2 := Lib.hid s2
                  have HO4 := Lib.hid ho4
                  have HBL4 := Lib.hid hbl4
                  clear hv ho4 hbl4 HO HBL HX a1 a2 u1 l1 e1 s2 l3 e3
                  go_wp2_with fail
                  have hw : ∀ w', canon (fval .sub w' x t) = subsF (fun j => f r (r + 1 + j)) (fun j => bkF f n y (r + 1 + j)) (y r) (m + 1) := fun w' => by
                    rw [copFF .sub w' (HX2.out.trans HGr.out) HV.out, subsF, HKE.out]
                  have HW2 := Lib.hid hw
                  clear hw
                  go_roundw
                  case rel => exact ⟨m + 1, _, by have := HKE.out; omega, by rw [← Nat.add_assoc, HKE.out]; go_num, (HO4.out.set hri (HW2.out _) (fval_lt _ _ _ _)).drewN _, fun j hj => by
                    by_cases e4 : j = r
                    · subst e4; rw [updN_at, if_neg (by omega), if_pos rfl]
                    · rw [updN_ne _ _ e4, HG.out j hj, if_neg e4, if_neg e4], below_drew (HBL4.out.setCell (p := ⟨B + 1, r, none⟩) hRl _) _⟩
                  case measure => simp [intOf]; omega
                · generalize hke : r + 1 + m = k at *
                  have hki : n = k := by omega
                  have HGr := Lib.hid (show g r = subsF (fun j => f r (r + 1 + j)) (fun j => bkF f n y (r + 1 + j)) (y r) m by rw [hg r hri, if_neg (by omega), if_pos rfl])
                  have HG := Lib.hid hg
                  have hm2 : m = n - 1 - r := by omega
                  have HM := Lib.hid hm2
                  clear hg hke hm2
                  subst hki
                  go_wp2_with fail
                  refine wp_region_ord [(0, 1), (1, 1), (2, 1), (3, 1), (4, 1), (5, 1), (6, 1), (7, 2), (8, 1), (9, 2), (10, 1), (11, 1), (12, 1), (13, 2), (14, 1), (15, 1), (16, 1), (17, 2), (18, 0), (19, 1), (20, 0)] (by kernel_rfl) (by kernel_rfl) (fun _ _ d _ _ h => by cases d <;> exact h) ?_
                  intro Y hY
                  have ho3 : OwnF Y (B + 1) (B + 1) n n g := by rw [hY]; exact ho.drew
                  have hbl3 : Below (B + 1) W Y := by rw [hY]; exact hbl.drew
                  clear hY ho hbl
                  obtain ⟨a1, a2, a3⟩ := BX.out _ hbl3
                  obtain ⟨u, u1, ua, ucap, rfl, -, ur⟩ := HAC.out r hri
                  obtain ⟨ub, uo, rfl, hus, uc⟩ := ur (by omega)
                  obtain ⟨l, l1, l2, l3⟩ := uc r (by omega)
                  have o1 := OLD.out _ hbl3
                  rw [← o1 _ _ has] at u1
                  rw [← o1 _ _ (by rw [← hB]; exact hus)] at l1
                  obtain ⟨x, x1, x2, x3⟩ := ho3.cell hri
                  have r1 := ho3.free r
                  have hRl := ho3.lt.1
                  have HX := Lib.hid (show canon x = g r ∧ canon l = f r r from ⟨x2, l2⟩)
                  have HO := Lib.hid ho3
                  have HBL := Lib.hid hbl3
                  clear ho3 hbl3 x2 l2 ur uc o1
                  iterate 18
                    first
                      | refine wpOrd_pure (fun K hK => ?_)
                      | refine wpOrd_take (fun K hK => ?_)
                    go_simp
                    refine hK _ ?_
                    clear hK K
                  refine wpOrd_do (fun K hK => ?_)
                  go_simp
                  refine hK _ _ (fun _ => ⟨_, rfl⟩) ?_
                  clear hK K
                  iterate 1
                    first
                      | refine wpOrd_pure (fun K hK => ?_)
                      | refine wpOrd_take (fun K hK => ?_)
                    go_simp
                    refine hK _ ?_
                    clear hK K
                  refine wpOrd_do (fun K hK => ?_)
                  go_simp
                  refine hK _ _ (fun h => Bool.noConfusion (Eq.trans (Eq.symm (by kernel_rfl : _ = false)) h)) ?_
                  clear hK K
                  refine wpOrd_nil ?_
                  have hv : canon (fval .quo Y x l) = bkF f n y r := by
                    rw [copFF .quo _ (HX.out.1.trans HGr.out) HX.out.2, bkF_eq f n y hri, HM.out]
                  have HO4 := Lib.hid (fun d => (HO.out.set hri hv (fval_lt _ _ _ _)).drewN d)
                  have HBL4 := Lib.hid (fun d => below_drew (HBL.out.setCell (p := ⟨B + 1, r, none⟩) hRl (.float .f64 (fval .quo Y x l))) d)
                  clear hv
                  go_wp2_with fail
                  go_roundw
                  case rel => exact ⟨r, _, by omega, by go_num, HO4.out _, fun j hj => by
                    by_cases e4 : j = r
                    · subst e4; rw [updN_at, if_pos (by omega)]
                    · rw [updN_ne _ _ e4, HG.out j hj, if_neg e4]
                      by_cases e5 : j < r
                      · rw [if_pos e5, if_neg (by omega)]
                      · rw [if_neg e5, if_pos (by omega)], HBL4.out _⟩
                  case measure => simp [intOf]
end Go.Proofs.Ytainodgbcpkipaa
