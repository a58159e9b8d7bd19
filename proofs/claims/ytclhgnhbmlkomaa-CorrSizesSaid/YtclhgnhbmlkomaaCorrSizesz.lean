/-
  The law of sizes and weights, walked.
-/
import Derived.Test.YtclhgnhbmlkomaaCrb
import Derived.Test.YtclhgnhbmlkomaaLrf
import Derived.Test.YtclhgnhbmlkomaaLrd
import Derived.Test.YtclhgnhbmlkomaaFlc
import Derived.Test.YtclhgnhbmlkomaaB9t
import Derived.Test.YtclhgnhbmlkomaaCrc
import Derived.Deep.RegionHeld3
import Derived.Deep.RegionLaw
import Derived.Deep.DeepCutAuto
import Derived.Deep.CutBlock
namespace Go.Proofs.Ytclhgnhbmlkomaa
open Go.RowKit
open Ieee (double)
attribute [local go_sem] alloc_drewN setCell_drewN call_bits call_frombits ord_lt ord_eq ord_gt ord_ne ord_le ord_ge eqB_self run_fadd run_fsub run_fmul run_fquo haStoreFlt takeOp pureOp readsUpon doOp

theorem flts_row {w : World} {v : Value} {zs : List Nat} (h : Flts w v zs) : FRow w v zs.length (fun i => canon (zs.getD i 0)) := by
  rcases h with ⟨o, cap, rfl, rfl⟩ | ⟨b, off, cap, rfl, hbs, hl, hc⟩
  · exact ⟨o, cap, rfl, by simp, fun h => by simp at h⟩
  · exact ⟨_, cap, rfl, hl, fun _ => ⟨b, off, rfl, hbs, fun i hi => ⟨_, (hc i hi).2, rfl, (hc i hi).1⟩⟩⟩
theorem FRow.first {w : World} {p : Option Addr} {L n c : Nat} {f : Nat → Nat} (h : FRow w (.slice p L c) L f) (hn : n ≤ L) (c' : Nat) : FRow w (.slice p n c') n f := by
  obtain ⟨a, c0, hv, h1, h2⟩ := h
  simp only [Value.slice.injEq] at hv
  obtain ⟨rfl, -, rfl⟩ := hv
  refine ⟨p, c', rfl, by omega, fun h0 => ?_⟩
  obtain ⟨b, off, e, hs, hc⟩ := h2 (by omega)
  exact ⟨b, off, e, hs, fun i hi => hc i (by omega)⟩
theorem laid0 (w : World) (o : Obj) : (w.alloc o).drew.heap[w.heap.size]? = some o := heap_alloc_new w o
theorem laid1 (w : World) (o o2 : Obj) : ((w.alloc o).alloc o2).drew.heap[w.heap.size]? = some o := by
  have h : ((w.alloc o).alloc o2).heap[w.heap.size]? = (w.alloc o).heap[w.heap.size]? := ((Below.refl (w.alloc o).heap.size (w.alloc o)).alloc (Nat.le_refl _) o2).block w.heap.size (by simp)
  exact h.trans (heap_alloc_new w o)
theorem laid2 (w : World) (o o2 : Obj) : ((w.alloc o).alloc o2).drew.heap[w.heap.size + 1]? = some o2 := by
  have h := heap_alloc_new (w.alloc o) o2
  rw [show (w.alloc o).heap.size = w.heap.size + 1 by simp] at h
  exact h
theorem laid3 (w : World) (o : Obj) : (w.alloc o).heap[w.heap.size]? = some o := heap_alloc_new w o
theorem known9_tells (w : World) : Calls Try.prog 14 #[] w (Tells (.bool true) w) :=
  (Ex.run_law (V := Ex.adV []) mixed namesAll Ex.gam_nil (ctrB_ok (Ex.adV_ok []) (t := []) (fun _ _ _ h => by cases h)) known_run (vs := #[]) trivial w).mono fun _ _ h => h
set_option maxRecDepth 100000 in
set_option maxHeartbeats 8000000 in
theorem corrSizes_any (v1 : Value) (zs1 : List Nat) (v2 : Value) (zs2 : List Nat) (a r : Nat) (x : Int) (w : World) (h1 : Fltc w v1 zs1) (h2 : Fltc w v2 zs2) (_ : a < 18446744073709551616) (_ : r < 18446744073709551616) (_ : -9223372036854775808 ≤ x ∧ x ≤ 9223372036854775807) :
    Calls Try.prog 4 #[v1, v2, .float .f64 a, .float .f64 r, .int .i64 x] w fun e w' => e = .returned (.bool true) ∧ Below w.heap.size w w' := by
  obtain ⟨h1, a1, c1, rfl, hc1⟩ := h1
  obtain ⟨h2, a2, c2, rfl, hc2⟩ := h2
  have H1 := Lib.hid (flts_row h1)
  have H2 := Lib.hid (flts_row h2)
  have hn1 : zs1.length ≤ 9223372036854775807 := by obtain ⟨_, _, hv, h, -⟩ := H1.out; exact h
  have hn2 : zs2.length ≤ 9223372036854775807 := by obtain ⟨_, _, hv, h, -⟩ := H2.out; exact h
  clear h1 h2
  go_enter Try.func4, Try.ntmps4
  generalize hB : w.heap.size = B at *
  go_wp2_with fail
  refine (known9_tells _).mono ?_
  rintro e w1 ⟨rfl, hb1⟩
  rw [hB] at hb1
  have HB1 := Lib.hid hb1
  clear hb1
  go_upto_region 3 with fail
  go_cut [11] (fun v wx => ∃ n : Nat, v = .int .i64 n ∧ n ≤ zs1.length ∧ n ≤ zs2.length ∧ n ≤ 20 ∧ Below B w wx)
  case first =>
    go_wp2_with fail
    all_goals go_meet
    all_goals first
      | exact ⟨20, rfl, by omega, by omega, by omega, HB1.out⟩
      | exact ⟨zs1.length, rfl, by omega, by omega, by omega, HB1.out⟩
      | exact ⟨zs2.length, rfl, by omega, by omega, by omega, HB1.out⟩
  case rest =>
    clear HB1
    obtain ⟨n, rfl, hnl1, hnl2, hn20, hbc⟩ := hcut
    have F1 := Lib.hid (fun W c (hW : Below B w W) => FRow.first (H1.out.below (by rw [hB]; exact hW)) hnl1 c)
    have F2 := Lib.hid (fun W c (hW : Below B w W) => FRow.first (H2.out.below (by rw [hB]; exact hW)) hnl2 c)
    have hsc : B ≤ wc.heap.size := by have := hbc.size; omega
    have HBC := Lib.hid hbc
    clear hbc
    have hi1 : n ≤ c1 := by omega
    have hi2 : n ≤ c2 := by omega
    go_upto_region 4 with fail
    go_cut [12, 13] (fun u v wx => ∃ R1 k1 R2 k2, u = .slice (some ⟨R1, 0, none⟩) n k1 ∧ v = .slice (some ⟨R2, 0, none⟩) n k2 ∧ OwnF wx B R1 n k1 (fun i => canon (zs1.getD i 0)) ∧ OwnF wx B R2 n k2 (fun i => canon (zs2.getD i 0)) ∧ R1 ≠ R2 ∧ Below B w wx)
    case first =>
      go_region_law (first
        | (refine step_appF rfl (.tmp 21) (.tmp 24) rfl B _ n _ _ (fun i => canon (zs1.getD i 0)) w rfl rfl ?_ ?_ ?_ (fun W c hW => F1.out W c hW) (by omega) ?_
           · repeat (first | exact HBC.out | assumption | refine Below.drew ?_ | refine Below.alloc ?_ (by first | omega | (simp; omega) | (have := hbA.size; omega)) _)
           · first | exact laid0 _ _ | exact laid1 _ _ _ | exact laid2 _ _ _ | exact laid3 _ _ | exact (hkA _ (by simp; omega) (by omega)).trans (laid1 _ _ _) | exact (hkA _ (by simp) (by omega)).trans (laid2 _ _ _)
           · first | omega | (have := hbA.size; omega)
           intro R1 k1 wA ho1 hbA hkA hsA hRA hlA)
        | (refine step_appF rfl (.tmp 26) (.tmp 29) rfl B _ n _ _ (fun i => canon (zs2.getD i 0)) w rfl rfl ?_ ?_ ?_ (fun W c hW => F2.out W c hW) (by omega) ?_
           · repeat (first | exact HBC.out | assumption | refine Below.drew ?_ | refine Below.alloc ?_ (by first | omega | (simp; omega) | (have := hbA.size; omega)) _)
           · first | exact laid0 _ _ | exact laid1 _ _ _ | exact laid2 _ _ _ | exact laid3 _ _ | exact (hkA _ (by simp; omega) (by omega)).trans (laid1 _ _ _) | exact (hkA _ (by simp) (by omega)).trans (laid2 _ _ _)
           · first | omega | (have := hbA.size; omega)
           intro R2 k2 wB ho2 hbB hkB hsB hRB hlB))
      all_goals (go_wp2_with fail)
      all_goals go_meet
      all_goals
        have q1 : (wc.alloc (.cells #[] 32)).drew.heap.size = wc.heap.size + 1 := by simp
        have q2 : ((wc.alloc (.cells #[] 32)).alloc (.cells #[] 32)).drew.heap.size = wc.heap.size + 2 := by simp
        have q3 : (wA.alloc (.cells #[] 32)).heap.size = wA.heap.size + 1 := by simp
        have e1 : wB.heap[R1]? = wA.heap[R1]? := by first
          | exact hkB _ hlA (by omega)
          | exact (hkB _ (by omega) (by omega)).trans (((Below.refl wA.heap.size wA).alloc (Nat.le_refl _) _).block _ hlA)
        exact ⟨R1, k1, R2, k2, rfl, rfl, ho1.kept e1, ho2, by omega, hbB⟩
    case rest =>
      clear HBC
      obtain ⟨R1, k1, R2, k2, rfl, rfl, ho1, ho2, hne, hbl⟩ := hcut
      have HO1 := Lib.hid ho1
      have HO2 := Lib.hid ho2
      have HBL := Lib.hid hbl
      clear ho1 ho2 hbl
      by_cases h0 : n = 0
      · have hn0 : ¬((0 : Int) < (n : Int)) := by omega
        clear h0
        have ho1 := HO1.out
        have ho2 := HO2.out
        have hby := HBL.out
        generalize wc = wy at *
        clear HO1 HO2 HBL
        have hO2 := ho2.flts (n := n) (by omega)
        have FX := Lib.hid (fun W (hW : Below wy.heap.size wy W) => (ho1.flts (by omega)).below hW)
        have FY := Lib.hid (fun W (hW : Below wy.heap.size wy W) => hO2.below hW)
        have HBY := Lib.hid hby
        clear ho1 ho2 hO2 hby
        go_wp2_with fail
        refine (weights_tells _ n (by omega) _ a r wy (FX.out _ (Below.refl _ _))).mono ?_
        rintro e wa ⟨u, rfl, hu, hba⟩
        go_wp2_with fail
        refine (rweights_tells _ n (by omega) _ a r wa (FX.out _ hba)).mono ?_
        rintro e wb ⟨v, rfl, hv, hbb⟩
        have hbb' := hba.trans (hbb.mono hba.size)
        go_wp2_with fail
        refine (rows_true _ _ n _ wb (hu.below hbb) hv).mono ?_
        rintro e wd ⟨rfl, hbd⟩
        have hbd' := hbb'.trans (hbd.mono hbb'.size)
        have HBD := Lib.hid hbd'
        clear hba hbb hbb' hbd hbd' hu hv
        go_wp2_with fail
        refine (size_tells _ _ n _ _ wd (FX.out _ HBD.out) (FY.out _ HBD.out)).mono ?_
        rintro e we ⟨⟨p, rfl, p1, p2⟩, hbe⟩
        have hbe' := HBD.out.trans (hbe.mono HBD.out.size)
        go_wp2_with fail
        refine (rsize_tells _ _ n _ _ we (FX.out _ hbe') (FY.out _ hbe')).mono ?_
        rintro e wf ⟨⟨q, rfl, q1, q2⟩, hbf⟩
        have hbf' := hbe'.trans (hbf.mono hbe'.size)
        go_wp2_with fail
        refine (sameQ _ (sameB_canon (p1.trans q1.symm))).mono ?_
        rintro e wg ⟨rfl, rfl⟩
        go_wp2_with fail
        go_ret
        exact ⟨rfl, HBY.out.trans (hbf'.mono (by have := HBY.out.size; omega))⟩
      · have hn0 : (0 : Int) < (n : Int) := by omega
        go_wp2_with fail
        refine (within9_any x 3 _ (by decide) (by decide)).mono ?_
        rintro e w2 ⟨rfl, hb2⟩
        have hO1 := HO1.out.below hb2 HO1.out.lt.2
        have hO2 := HO2.out.below hb2 HO2.out.lt.2
        have hBL := HBL.out.trans (hb2.mono (by have := HBL.out.size; omega))
        have hs2 := hb2.size
        clear HO1 HO2 HBL hb2
        have HO1 := Lib.hid hO1
        have HO2 := Lib.hid hO2
        have HBL := Lib.hid hBL
        clear hO1 hO2 hBL
        by_cases h3 : x % 3 = 0
        · have hd : (x % 3 == 0) = true := by rw [h3]; rfl
          generalize x % 3 = m3 at *
          go_wp2_with fail
          refine (within9_any (x.tdiv 3) n _ (by omega) (by omega)).mono ?_
          rintro e w3 ⟨rfl, hb3⟩
          have b1 := Int.emod_nonneg (x.tdiv 3) (show (n : Int) ≠ 0 by omega)
          have b2 := Int.emod_lt_of_pos (x.tdiv 3) hn0
          obtain ⟨j, hj⟩ : ∃ j : Nat, (j : Int) = x.tdiv 3 % n := ⟨(x.tdiv 3 % n).toNat, by omega⟩
          rw [← hj] at b1 b2 ⊢
          clear hj
          have hjn : j < n := by omega
          have hO1 := HO1.out.below hb3 HO1.out.lt.2
          have hO2 := HO2.out.below hb3 HO2.out.lt.2
          have hBL := HBL.out.trans (hb3.mono (by have := HBL.out.size; omega))
          clear HO1 HO2 HBL hb3 hs2
          have HO1 := Lib.hid hO1
          have HO2 := Lib.hid hO2
          have HBL := Lib.hid hBL
          clear hO1 hO2 hBL
          go_wp2_with fail
          refine (rare_tells _ _).mono ?_
          rintro e w4 ⟨⟨q0, rfl, q1⟩, hb4⟩
          have hO1 := HO1.out.below hb4 HO1.out.lt.2
          have hO2 := HO2.out.below hb4 HO2.out.lt.2
          have hBL := HBL.out.trans (hb4.mono (by have := HBL.out.size; omega))
          obtain ⟨z, z1, -, -⟩ := hO1.cell hjn
          have r1 := hO1.free j
          have ho1 := hO1.set hjn (y := q0) rfl q1
          have ho2 := hO2.other (B := R1) (o := j) hne (.float .f64 q0)
          have hby := hBL.setCell (p := ⟨R1, j, none⟩) hO1.lt.1 (.float .f64 q0)
          have HO3 := Lib.hid ho1
          have HO4 := Lib.hid ho2
          have HB5 := Lib.hid hby
          clear HO1 HO2 HBL hb4 hO1 hO2 hBL ho1 ho2 hby
          go_wp2_with fail
          have ho1 := HO3.out
          have ho2 := HO4.out
          have hby := HB5.out
          have HO1 := HO3
          have HO2 := HO4
          have HBL := HB5
          clear HO3 HO4 HB5 z1 r1
          generalize w4.setCell ⟨R1, j, none⟩ (.float .f64 q0) = wy at *
          clear HO1 HO2 HBL
          have hO2 := ho2.flts (n := n) (by omega)
          have FX := Lib.hid (fun W (hW : Below wy.heap.size wy W) => (ho1.flts (by omega)).below hW)
          have FY := Lib.hid (fun W (hW : Below wy.heap.size wy W) => hO2.below hW)
          have HBY := Lib.hid hby
          clear ho1 ho2 hO2 hby
          go_wp2_with fail
          refine (weights_tells _ n (by omega) _ a r wy (FX.out _ (Below.refl _ _))).mono ?_
          rintro e wa ⟨u, rfl, hu, hba⟩
          go_wp2_with fail
          refine (rweights_tells _ n (by omega) _ a r wa (FX.out _ hba)).mono ?_
          rintro e wb ⟨v, rfl, hv, hbb⟩
          have hbb' := hba.trans (hbb.mono hba.size)
          go_wp2_with fail
          refine (rows_true _ _ n _ wb (hu.below hbb) hv).mono ?_
          rintro e wd ⟨rfl, hbd⟩
          have hbd' := hbb'.trans (hbd.mono hbb'.size)
          have HBD := Lib.hid hbd'
          clear hba hbb hbb' hbd hbd' hu hv
          go_wp2_with fail
          refine (size_tells _ _ n _ _ wd (FX.out _ HBD.out) (FY.out _ HBD.out)).mono ?_
          rintro e we ⟨⟨p, rfl, p1, p2⟩, hbe⟩
          have hbe' := HBD.out.trans (hbe.mono HBD.out.size)
          go_wp2_with fail
          refine (rsize_tells _ _ n _ _ we (FX.out _ hbe') (FY.out _ hbe')).mono ?_
          rintro e wf ⟨⟨q, rfl, q1, q2⟩, hbf⟩
          have hbf' := hbe'.trans (hbf.mono hbe'.size)
          go_wp2_with fail
          refine (sameQ _ (sameB_canon (p1.trans q1.symm))).mono ?_
          rintro e wg ⟨rfl, rfl⟩
          go_wp2_with fail
          go_ret
          exact ⟨rfl, HBY.out.trans (hbf'.mono (by have := HBY.out.size; omega))⟩
        · have hd : (x % 3 == 0) = false := by simp; omega
          generalize x % 3 = m3 at *
          have ho1 := HO1.out
          have ho2 := HO2.out
          have hby := HBL.out
          generalize w2 = wy at *
          clear HO1 HO2 HBL
          have hO2 := ho2.flts (n := n) (by omega)
          have FX := Lib.hid (fun W (hW : Below wy.heap.size wy W) => (ho1.flts (by omega)).below hW)
          have FY := Lib.hid (fun W (hW : Below wy.heap.size wy W) => hO2.below hW)
          have HBY := Lib.hid hby
          clear ho1 ho2 hO2 hby
          go_wp2_with fail
          refine (weights_tells _ n (by omega) _ a r wy (FX.out _ (Below.refl _ _))).mono ?_
          rintro e wa ⟨u, rfl, hu, hba⟩
          go_wp2_with fail
          refine (rweights_tells _ n (by omega) _ a r wa (FX.out _ hba)).mono ?_
          rintro e wb ⟨v, rfl, hv, hbb⟩
          have hbb' := hba.trans (hbb.mono hba.size)
          go_wp2_with fail
          refine (rows_true _ _ n _ wb (hu.below hbb) hv).mono ?_
          rintro e wd ⟨rfl, hbd⟩
          have hbd' := hbb'.trans (hbd.mono hbb'.size)
          have HBD := Lib.hid hbd'
          clear hba hbb hbb' hbd hbd' hu hv
          go_wp2_with fail
          refine (size_tells _ _ n _ _ wd (FX.out _ HBD.out) (FY.out _ HBD.out)).mono ?_
          rintro e we ⟨⟨p, rfl, p1, p2⟩, hbe⟩
          have hbe' := HBD.out.trans (hbe.mono HBD.out.size)
          go_wp2_with fail
          refine (rsize_tells _ _ n _ _ we (FX.out _ hbe') (FY.out _ hbe')).mono ?_
          rintro e wf ⟨⟨q, rfl, q1, q2⟩, hbf⟩
          have hbf' := hbe'.trans (hbf.mono hbe'.size)
          go_wp2_with fail
          refine (sameQ _ (sameB_canon (p1.trans q1.symm))).mono ?_
          rintro e wg ⟨rfl, rfl⟩
          go_wp2_with fail
          go_ret
          exact ⟨rfl, HBY.out.trans (hbf'.mono (by have := HBY.out.size; omega))⟩
end Go.Proofs.Ytclhgnhbmlkomaa
