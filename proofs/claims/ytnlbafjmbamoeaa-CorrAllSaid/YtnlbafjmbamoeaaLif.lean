/-
  Rows parted, walked.
-/
import Derived.Test.YtnlbafjmbamoeaaLid
import Derived.Test.YtnlbafjmbamoeaaHi
import Derived.Deep.RegionHeld3
import Derived.Deep.DeepCutAuto
import Derived.Deep.CutBlock
namespace Go.Proofs.Ytnlbafjmbamoeaa
open Go.RowKit
open Ieee (double)
attribute [local go_sem] alloc_drewN setCell_drewN call_bits call_frombits ord_lt ord_eq ord_gt ord_ne ord_le ord_ge eqB_self run_fadd run_fsub run_fmul run_fquo haStoreFlt takeOp pureOp readsUpon doOp

/-- What parting tells: the table, the order; or nothing. -/
def PartR (n : Nat) (o : Option ((Nat → Nat → Nat) × (Nat → Nat))) (w : World) (e : Ending) (w' : World) : Prop :=
  Below w.heap.size w w' ∧ match o with
  | none => e = .returned (.tuple #[.agg #[.slice none 0 0, .slice none 0 0], .bool false])
  | some (g, q) => ∃ G R blk cap, e = .returned (.tuple #[.agg #[.slice (some ⟨G, 0, none⟩) n n, .slice (some ⟨R, 0, none⟩) n n], .bool true]) ∧ Grid w' w.heap.size G n n blk cap g ∧ OwnI w' w.heap.size R n n (fun i => (q i : Int)) ∧ R ≠ G ∧ ∀ i, i < n → blk i ≠ R
theorem run_makeInts (n : Nat) (hn : n ≤ 1000) (w : World) : (Instr.makeSlice 22 (.int .i64 n) (.int .i64 n)).run Try.prog w = .ok (.slice (some ⟨w.heap.size, 0, none⟩) n n) (w.alloc (.cells (madeCells #[.int .i64 0] n) 3)) := by
  obtain ⟨i3, hI, i1, i2, i4⟩ := info_parts infoI
  have := run_make (P := Try.prog) w 22 3 i3 (.int .i64 0) Try.underlying22 hI i1 .i64 .i64 n n (by omega) (by omega) (by rw [i4]; omega) (by omega)
  rw [i2, Int.toNat_natCast, Nat.mul_one] at this
  exact this
theorem ownI_alloc (w : World) (base n : Nat) (hb : base ≤ w.heap.size) (hn : n ≤ 1000) : OwnI (w.alloc (.cells (madeCells #[.int .i64 0] n) 3)) base w.heap.size n n fun _ => 0 :=
  ownI_made (World.ownsRow_lit w _ n hb (by unfold maxLen; omega) (by rw [size_madeCells, Nat.mul_one]))
theorem partF_none {f : Nat → Nat → Nat} {n k : Nat} (h : partF f n k = none) : ∀ {m : Nat}, k ≤ m → partF f n m = none
  | 0, hm => by obtain rfl : k = 0 := by omega
                exact h
  | m + 1, hm => by
    by_cases e : k = m + 1
    · subst e; exact h
    · rw [partF, partF_none h (show k ≤ m by omega)]
theorem finB_canon (x : Nat) : finB (canon x) = finB x := by
  rcases canon_or x with h | h
  · rw [h]
  · have e : ∀ y, isN y = true → finB y = false := fun y hy => by unfold finB; unfold isN at hy; simp at hy ⊢; omega
    rw [e x h, e (canon x) (by rw [isN_canon]; exact h)]
set_option maxHeartbeats 4000000 in
set_option maxRecDepth 100000 in
theorem part_tells (n : Nat) (v : Value) (f : Nat → Nat → Nat) (w : World) (h : TabR w v n (fun _ => n) f) (h1 : 1 ≤ n) (h8 : n ≤ 8) :
    Calls Try.prog 47 #[v] w (PartR n (partF f n n) w) := by
  have hb1 : Below w.heap.size w (w.alloc (.cells #[.slice none 0 0, .slice none 0 0] 57)) := (Below.refl _ _).alloc (Nat.le_refl _) _
  have ht := h.below hb1
  have MK := Lib.hid (run_makeInts n (by omega))
  obtain ⟨a, cap0, rfl, hn, -⟩ := id h
  have ST := Lib.hid (stands_true _ n f _ ht h1 h8)
  have HT := Lib.hid ht
  clear h ht
  go_enter Try.func47, Try.ntmps47
  go_wp2_with fail
  refine ST.out.mono ?_
  rintro e w1 ⟨rfl, rfl⟩
  go_wp2_with fail
  generalize hB : w.heap.size = B at *
  have hW : (w.alloc (.cells #[.slice none 0 0, .slice none 0 0] 57)).heap.size = B + 1 := by simp [hB]
  generalize hWe : w.alloc (.cells #[.slice none 0 0, .slice none 0 0] 57) = W at *
  have CP := Lib.hid (fun X (hX : Below W.heap.size W X) => copied_tells _ n f X (HT.out.below hX) h1 h8)
  have hl0 : W.heap[B]? = some (.cells #[.slice none 0 0, .slice none 0 0] 57 (0, 0)) := by rw [← hWe, ← hB]; exact heap_alloc_new _ _
  have LB0 := Lib.hid (show ∀ X, Below (B + 1) W X → X.cell? ⟨B, 0, none⟩ = some (.slice none 0 0) ∧ X.cell? ⟨B, 1, none⟩ = some (.slice none 0 0) ∧ X.frozen? ⟨B, 0, none⟩ = false ∧ X.frozen? ⟨B, 1, none⟩ = false from fun X hX => by
    have e := (hX.block B (by omega)).trans hl0
    refine ⟨?_, ?_, ?_, ?_⟩ <;> simp [World.cell?, World.frozen?, e] <;> rfl)
  clear hl0
  have HW := Lib.hid hW
  have HWE := Lib.hid hWe
  clear hW hWe
  go_cut [4, 5] (fun vg vp wx => ∃ G R blk cap, vg = .slice (some ⟨G, 0, none⟩) n n ∧ vp = .slice (some ⟨R, 0, none⟩) n n ∧ Grid wx (B + 1) G n n blk cap f ∧ OwnI wx (B + 1) R n n (fun _ => 0) ∧ R ≠ G ∧ (∀ i, i < n → blk i ≠ R) ∧ Below (B + 1) W wx)
  case first =>
    have mk := MK.out
    go_region_held3 (fun _ => True) (trivial) ((go_at_call 66; refine (CP.out _ (by first | exact (Below.refl _ _).drew | exact ((Below.refl _ _).drew).alloc (Nat.le_refl _) _)).mono ?_; rintro e w' ⟨G, blk, cap, rfl, hg, hb⟩))
    · clear mk
      have hs := hb.size
      have hW2 : W.drew.heap.size = B + 1 := HW.out
      rw [hW2] at hg hs
      go_wp2_with fail
      go_meet
      exact ⟨G, _, blk, cap, rfl, rfl, hg.below ((Below.refl _ _).alloc (Nat.le_refl _) _), ownI_alloc _ _ _ hs (by omega), by have := hg.hi; omega, fun i hi => by have := (hg.row i hi).lt.2; omega, ((Below.refl _ W).drew.trans (hb.mono (by rw [hW2]; exact Nat.le_refl _))).alloc hs _⟩
    · clear mk
      have hs := hb.size
      have hW3 : ((W.alloc (.cells (madeCells #[.int .i64 0] n) 3)).drew).heap.size = B + 2 := by
        show (W.alloc _).heap.size = _
        simp [HW.out]
      have ho := ((ownI_alloc W (B + 1) n (by rw [HW.out]; exact Nat.le_refl _) (by omega)).drew).below hb (by rw [HW.out, hW3]; omega)
      rw [hW3] at hg hs
      rw [HW.out] at ho
      go_wp2_with fail
      go_meet
      have hlo := hg.lo
      exact ⟨G, B + 1, blk, cap, rfl, by rw [HW.out], hg.base (by omega), ho, by omega, fun i hi => by have := (hg.row i hi).lt.1; omega, (((Below.refl _ W).alloc (by rw [HW.out]; exact Nat.le_refl _) _).drew).trans (hb.mono (by rw [hW3]; omega))⟩
  case rest =>
    obtain ⟨G, R, blk, cap, rfl, rfl, hg, ho, hRG, hbR, hbl⟩ := hcut
    go_wp2_with fail
    go_loopw [20] (fun i wr => ∃ j : Nat, j ≤ n ∧ i = .int .i64 j ∧ Grid wr (B + 1) G n n blk cap f ∧ OwnI wr (B + 1) R n n (fun i => if i < j then (i : Int) else 0) ∧ Below (B + 1) W wr) (fun i _ => n - (intOf i).toNat)
    case atStart => exact ⟨0, by omega, rfl, hg, ho.congr (fun j hj => by rw [if_neg (by omega)]), hbl⟩
    case round =>
      clear hg ho hbl
      obtain ⟨j, hj, rfl, hg, ho, hbl⟩ := hrel
      by_cases hlt : j < n
      · have r1 := ho.cell hlt
        have r2 := ho.free j
        have hR := ho.lt
        have HG := Lib.hid hg
        have HO := Lib.hid ho
        clear hg ho
        rw [if_neg (by omega)] at r1
        go_wp2_with fail
        go_roundw
        case rel => exact ⟨j + 1, by omega, by go_num, HG.out.setOther hRG (fun i hi => (hbR i hi).symm) _, (HO.out.set hlt _).congr (fun i hi => by
          by_cases e : i = j
          · subst e; rw [updN_at, if_pos (by omega)]
          · rw [updN_ne _ _ e]
            by_cases h : i < j
            · rw [if_pos h, if_pos (by omega)]
            · rw [if_neg h, if_neg (by omega)]), hbl.setCell hR.1 _⟩
        case measure => simp [intOf]; omega
      · have hj2 : j = n := by omega
        clear hlt
        have ho2 := ho.congr (g := fun i => ((fun i => i : Nat → Nat) i : Int)) (fun i hi => by rw [if_pos (by omega)])
        clear ho
        subst hj2
        go_wp2_with fail
        go_loopw [30] (fun i wr => ∃ (k : Nat) (blk cap : Nat → Nat) (g : Nat → Nat → Nat) (q : Nat → Nat), k ≤ j ∧ i = .int .i64 k ∧ partF f j k = some (g, q) ∧ Grid wr (B + 1) G j j blk cap g ∧ OwnI wr (B + 1) R j j (fun i => (q i : Int)) ∧ (∀ i, i < j → blk i ≠ R) ∧ Below (B + 1) W wr) (fun i _ => j - (intOf i).toNat)
        case atStart => exact ⟨0, blk, cap, f, fun i => i, by omega, rfl, rfl, hg, ho2, hbR, hbl⟩
        case round =>
          clear hg ho2 hbl hbR
          obtain ⟨k, blk, cap, g, q, hk, rfl, hpf, hg, ho, hbR, hbl⟩ := hrel
          by_cases hlt : k < j
          · have P1 := Lib.hid (show partF f j (k + 1) = if dvB (g (pivF g k (j - 1 - k)) k) then some (clF (swp g (pivF g k (j - 1 - k)) k) k j j, swp q (pivF g k (j - 1 - k)) k) else none by rw [partF, hpf])
            have hp := pivF_le g k (j - 1 - k)
            have PV := Lib.hid (pivot_tells j k (.slice (some ⟨G, 0, none⟩) j j) g wr (hg.tab (by omega) (by omega)) hlt h8)
            have HBR := Lib.hid hbR
            have HPF := Lib.hid hpf
            clear hpf hbR
            go_wp2_with fail
            refine PV.out.mono ?_
            rintro e w4 ⟨rfl, hb4⟩
            have hpj : pivF g k (j - 1 - k) < j := by omega
            generalize pivF g k (j - 1 - k) = p at *
            have hg4 := hg.below hb4
            have ho4 := ho.below hb4 ho.lt.2
            have hsz := hbl.size
            have hbl4 : Below (B + 1) W w4 := hbl.trans (hb4.mono (by have := HW.out; omega))
            clear hg ho hbl hb4 hsz
            obtain ⟨x, x1, x2, x3⟩ := hg4.cell hpj hlt
            have r1 := hg4.ref p hpj
            have e1 : eqB x 0 = eqB (g p k) 0 := by
              rw [← x2]
              exact (eqB_canon x 0).symm
            have e2 : finB x = finB (g p k) := by rw [← x2, finB_canon]
            have HG := Lib.hid hg4
            have HO := Lib.hid ho4
            have HBL := Lib.hid hbl4
            have hdv : dvB (g p k) = (!eqB x 0 && finB x) := by unfold dvB; rw [e1, e2]
            have HDV := Lib.hid hdv
            have HX2 := Lib.hid x2
            clear hg4 ho4 hbl4 hdv e1 e2 x2
            have LB := Lib.hid (LB0.out _ HBL.out)
            cases hz : eqB x 0 with
            | true =>
              have hz' : (!eqB x 0) = false := by rw [hz]; rfl
              obtain ⟨l1, l2, l3, l4⟩ := LB.out
              go_wp2_with fail
              have hno : partF f j (k + 1) = none := by rw [P1.out, HDV.out, hz]; rfl
              have hend : partF f j j = none := partF_none hno (by omega)
              have hb' : Below B w w4 := hb1.trans (HBL.out.mono (by omega))
              exact bodyPost_ret (v := .tuple #[.agg #[.slice none 0 0, .slice none 0 0], .bool false]) (by simp [results, Try.results47, go_sem, l1, l2]) rfl (by unfold PartR; rw [hend, hB]; exact ⟨(hb'.setCell (Nat.le_refl _) _).setCell (Nat.le_refl _) _, rfl⟩)
            | false =>
              have hz' : (!eqB x 0) = true := by rw [hz]; rfl
              go_wp2_with fail
              refine (finite_tells x _).mono ?_
              rintro e w5 ⟨rfl, hb5⟩
              have HG5 := Lib.hid (HG.out.below hb5)
              have HO5 := Lib.hid (HO.out.below hb5 HO.out.lt.2)
              have hbl5 : Below (B + 1) W w5 := HBL.out.trans (hb5.mono (by have := HBL.out.size; have := HW.out; omega))
              have HBL5 := Lib.hid hbl5
              clear hb5 hbl5 HG HO HBL LB r1 x1
              cases hf : finB x with
              | false =>
                obtain ⟨l1, l2, l3, l4⟩ := LB0.out _ HBL5.out
                go_wp2_with fail
                have hno : partF f j (k + 1) = none := by rw [P1.out, HDV.out, hz, hf]; rfl
                have hend : partF f j j = none := partF_none hno (by omega)
                have hb' : Below B w w5 := hb1.trans (HBL5.out.mono (by omega))
                exact bodyPost_ret (v := .tuple #[.agg #[.slice none 0 0, .slice none 0 0], .bool false]) (by simp [results, Try.results47, go_sem, l1, l2]) rfl (by unfold PartR; rw [hend, hB]; exact ⟨(hb'.setCell (Nat.le_refl _) _).setCell (Nat.le_refl _) _, rfl⟩)
              | true =>
                have hyes : partF f j (k + 1) = some (clF (swp g p k) k j j, swp q p k) := by rw [P1.out, HDV.out, hz, hf]; rfl
                have HY := Lib.hid hyes
                clear hyes hz hz' hf x3
                go_wp2_with fail
                refine wp_region_ord [(0, 1), (1, 1), (2, 1), (3, 1), (4, 1), (5, 1), (6, 1), (7, 2), (8, 1), (9, 1), (10, 1), (11, 2), (12, 1), (13, 0), (14, 1), (15, 0)] (by kernel_rfl) (by kernel_rfl) (fun _ _ d _ _ h => by cases d <;> exact h) ?_
                intro X hX
                have hg6 : Grid X (B + 1) G j j blk cap g := by rw [hX]; exact HG5.out.drew
                have ho6 : OwnI X (B + 1) R j j (fun i => (q i : Int)) := by rw [hX]; exact HO5.out.drew
                have hbl6 : Below (B + 1) W X := by rw [hX]; exact HBL5.out.drew
                clear hX HG5 HO5 HBL5
                have r1 := hg6.ref p hpj
                have r2 := hg6.ref k hlt
                have r3 := hg6.free p hpj
                have r4 := hg6.free k hlt
                have hGl := hg6.lo
                have HG6 := Lib.hid hg6
                have HO6 := Lib.hid ho6
                have HBL6 := Lib.hid hbl6
                clear hg6 ho6 hbl6
                iterate 13
                  first
                    | refine wpOrd_pure (fun K hK => ?_)
                    | refine wpOrd_take (fun K hK => ?_)
                  go_simp
                  refine hK _ ?_
                  clear hK K
                refine wpOrd_do (fun K hK => ?_)
                go_simp
                refine hK _ _ (fun h => Bool.noConfusion (Eq.trans (Eq.symm (by kernel_rfl : _ = false)) h)) ?_
                clear hK K
                iterate 1
                  first
                    | refine wpOrd_pure (fun K hK => ?_)
                    | refine wpOrd_take (fun K hK => ?_)
                  go_simp
                  refine hK _ ?_
                  clear hK K
                obtain ⟨z, hz⟩ := cell_set1 (.slice (some ⟨blk k, 0, none⟩) j (cap k)) r1 r2
                refine wpOrd_do (fun K hK => ?_)
                go_simp
                refine hK _ _ (fun h => Bool.noConfusion (Eq.trans (Eq.symm (by kernel_rfl : _ = false)) h)) ?_
                clear hK K
                refine wpOrd_nil ?_
                have hg7 := HG6.out.swap hpj hlt
                have ho7 := (HO6.out.other (o := p) (show G ≠ R from hRG.symm) (.slice (some ⟨blk k, 0, none⟩) j (cap k))).other (o := k) (show G ≠ R from hRG.symm) (.slice (some ⟨blk p, 0, none⟩) j (cap p))
                have hbl7 : Below (B + 1) W _ := (HBL6.out.setCell (p := ⟨G, p, none⟩) hGl (.slice (some ⟨blk k, 0, none⟩) j (cap k))).setCell (p := ⟨G, k, none⟩) hGl (.slice (some ⟨blk p, 0, none⟩) j (cap p))
                clear HG6 HO6 HBL6 r1 r2 r3 r4 hz z
                generalize (X.setCell ⟨G, p, none⟩ (.slice (some ⟨blk k, 0, none⟩) j (cap k))).setCell ⟨G, k, none⟩ (.slice (some ⟨blk p, 0, none⟩) j (cap p)) = Y at *
                have HG7 := Lib.hid hg7
                have HO7 := Lib.hid ho7
                have HBL7 := Lib.hid hbl7
                clear hg7 ho7 hbl7
                go_wp2_with fail
                refine wp_region_ord [(0, 1), (1, 1), (2, 1), (3, 1), (4, 1), (5, 1), (6, 1), (7, 2), (8, 1), (9, 1), (10, 1), (11, 2), (12, 1), (13, 0), (14, 1), (15, 0)] (by kernel_rfl) (by kernel_rfl) (fun _ _ d _ _ h => by cases d <;> exact h) ?_
                intro Z hZ
                have hg8 : Grid Z (B + 1) G j j (swp blk p k) (swp cap p k) (swp g p k) := by rw [hZ]; exact HG7.out.drew
                have ho8 : OwnI Z (B + 1) R j j (fun i => (q i : Int)) := by rw [hZ]; exact HO7.out.drew
                have hbl8 : Below (B + 1) W Z := by rw [hZ]; exact HBL7.out.drew
                clear hZ HG7 HO7 HBL7
                have r1 := ho8.cell hpj
                have r2 := ho8.cell hlt
                have r3 := ho8.free p
                have r4 := ho8.free k
                have hRl := ho8.lt.1
                have HG8 := Lib.hid hg8
                have HO8 := Lib.hid ho8
                have HBL8 := Lib.hid hbl8
                clear hg8 ho8 hbl8
                iterate 13
                  first
                    | refine wpOrd_pure (fun K hK => ?_)
                    | refine wpOrd_take (fun K hK => ?_)
                  go_simp
                  refine hK _ ?_
                  clear hK K
                refine wpOrd_do (fun K hK => ?_)
                go_simp
                refine hK _ _ (fun h => Bool.noConfusion (Eq.trans (Eq.symm (by kernel_rfl : _ = false)) h)) ?_
                clear hK K
                iterate 1
                  first
                    | refine wpOrd_pure (fun K hK => ?_)
                    | refine wpOrd_take (fun K hK => ?_)
                  go_simp
                  refine hK _ ?_
                  clear hK K
                obtain ⟨z, hz⟩ := cell_set1 (.int .i64 (q k : Int)) r1 r2
                refine wpOrd_do (fun K hK => ?_)
                go_simp
                refine hK _ _ (fun h => Bool.noConfusion (Eq.trans (Eq.symm (by kernel_rfl : _ = false)) h)) ?_
                clear hK K
                refine wpOrd_nil ?_
                have hbs : ∀ i, i < j → swp blk p k i ≠ R := fun i hi => by rw [swp_sg]; exact HBR.out _ (sg_lt hpj hlt hi)
                have hg9 := (HG8.out.setOther (o := p) hRG (fun i hi => (hbs i hi).symm) (.int .i64 (q k : Int))).setOther (o := k) hRG (fun i hi => (hbs i hi).symm) (.int .i64 (q p : Int))
                have ho9 := HO8.out.swap hpj hlt
                have hbl9 : Below (B + 1) W _ := (HBL8.out.setCell (p := ⟨R, p, none⟩) hRl (.int .i64 (q k : Int))).setCell (p := ⟨R, k, none⟩) hRl (.int .i64 (q p : Int))
                clear HG8 HO8 HBL8 r1 r2 r3 r4 hz z
                generalize (Z.setCell ⟨R, p, none⟩ (.int .i64 (q k : Int))).setCell ⟨R, k, none⟩ (.int .i64 (q p : Int)) = V at *
                have CL := Lib.hid (clear_tells (B + 1) G j k j (swp blk p k) (swp cap p k) (swp g p k) V hg9 hlt h8)
                have HO9 := Lib.hid ho9
                have HBL9 := Lib.hid hbl9
                have HBS := Lib.hid hbs
                clear hg9 ho9 hbl9 hbs
                go_wp2_with fail
                refine CL.out.mono ?_
                rintro e w6 ⟨⟨r, rfl⟩, hg6, hR6⟩
                have ho6 : OwnI w6 (B + 1) R j j (fun i => ((swp q p k i : Nat) : Int)) := (HO9.out.kept (hR6.block R (fun ⟨i, hi, he⟩ => HBS.out i hi he.symm) HO9.out.lt.2)).congr (fun i _ => by rw [swp_sg, swp_sg])
                have hbl6 := HBL9.out.trans hR6.below
                have HG6 := Lib.hid hg6
                have HO6 := Lib.hid ho6
                have HBL6 := Lib.hid hbl6
                clear hg6 hR6 ho6 hbl6 HO9 HBL9 CL
                go_wp2_with fail
                go_roundw
                case rel => exact ⟨k + 1, _, _, _, _, by omega, by go_num, HY.out, HG6.out, HO6.out, HBS.out, HBL6.out⟩
                case measure => simp [intOf]; omega
          · have hk2 : k = j := by omega
            subst hk2
            have hb' : Below B w wr := hb1.trans (hbl.mono (by omega))
            obtain ⟨l1, l2, l3, l4⟩ := LB0.out _ hbl
            have hGB := hg.lo
            have hRB := ho.lt.1
            have HG6 := Lib.hid hg
            have HO6 := Lib.hid ho
            have HBL6 := Lib.hid hb'
            have HPF := Lib.hid hpf
            have HBR := Lib.hid hbR
            clear hg ho hbl hb' hpf hbR
            go_wp2_with fail
            have n1 : ∀ v o, Grid ((wr.setCell ⟨B, 0, none⟩ v).setCell ⟨B, 1, none⟩ o) (B + 1) G k k blk cap g := fun v o => (HG6.out.setOther (by omega) (fun i hi => by have := (HG6.out.row i hi).lt.1; omega) v).setOther (by omega) (fun i hi => by have := (HG6.out.row i hi).lt.1; omega) o
            have n2 : ∀ v o, OwnI ((wr.setCell ⟨B, 0, none⟩ v).setCell ⟨B, 1, none⟩ o) (B + 1) R k k (fun i => (q i : Int)) := fun v o => (HO6.out.other (by omega) v).other (by omega) o
            exact bodyPost_ret (v := .tuple #[.agg #[.slice (some ⟨G, 0, none⟩) k k, .slice (some ⟨R, 0, none⟩) k k], .bool true]) (by simp [results, Try.results47, go_sem, l1, l2]) rfl (by
              unfold PartR
              rw [HPF.out, hB]
              exact ⟨(HBL6.out.setCell (Nat.le_refl _) _).setCell (Nat.le_refl _) _, G, R, blk, cap, rfl, (n1 _ _).base (by omega), (n2 _ _).base (by omega), hRG, HBR.out⟩)
end Go.Proofs.Ytnlbafjmbamoeaa
