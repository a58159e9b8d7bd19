/-
  The law of whose memory it is, walked.
-/
import Derived.Test.YtainodgbcpkipaaLmb
import Derived.Test.YtainodgbcpkipaaLkn
import Derived.Test.YtainodgbcpkipaaLrb
import Derived.Test.YtainodgbcpkipaaLrc
import Derived.Test.YtainodgbcpkipaaLrd
namespace Go.Proofs.Ytainodgbcpkipaa
open Go.RowKit
open Ieee (double)
attribute [local go_sem] alloc_drewN setCell_drewN call_bits call_frombits ord_lt ord_eq ord_gt ord_ne ord_le ord_ge eqB_self run_fadd run_fsub run_fmul run_fquo haStoreFlt takeOp pureOp readsUpon doOp

theorem partF_lt {f : Nat → Nat → Nat} {n : Nat} : ∀ {k : Nat} {g : Nat → Nat → Nat} {q : Nat → Nat}, k ≤ n → partF f n k = some (g, q) → ∀ i, i < n → q i < n
  | 0, g, q, _, h, i, hi => by
    simp only [partF, Option.some.injEq, Prod.mk.injEq] at h
    rw [← h.2]; exact hi
  | k + 1, g, q, hk, h, i, hi => by
    rw [partF] at h
    cases e : partF f n k with
    | none => rw [e] at h; cases h
    | some x =>
      obtain ⟨g0, q0⟩ := x
      rw [e] at h
      simp only [] at h
      split at h
      · simp only [Option.some.injEq, Prod.mk.injEq] at h
        have hp := pivF_le g0 k (n - 1 - k)
        rw [← h.2, swp_sg]
        exact partF_lt (by omega) e _ (sg_lt (by omega) (by omega) hi)
      · cases h
/-- The arguments, as they were made. -/
structure Args (W : World) (va vc vb vd : Value) (n : Nat) (f : Nat → Nat → Nat) (r : Nat → Nat) : Prop where
  a : TabR W va n (fun _ => n) f
  c : TabR W vc n (fun _ => n) f
  b : FRow W vb n r
  d : FRow W vd n r
theorem Args.below {W W' : World} {va vc vb vd : Value} {n : Nat} {f : Nat → Nat → Nat} {r : Nat → Nat} (h : Args W va vc vb vd n f r) (hb : Below W.heap.size W W') : Args W' va vc vb vd n f r := ⟨h.a.below hb, h.c.below hb, h.b.below hb, h.d.below hb⟩
set_option maxRecDepth 100000 in
set_option maxHeartbeats 8000000 in
theorem linOwn_any (a0 : Int) (v1 : Value) (zs1 : List Int) (v2 : Value) (zs2 : List Int) (a3 : Int) (w : World) (_ : -9223372036854775808 ≤ a0 ∧ a0 ≤ 9223372036854775807) (h1 : Ints w v1 zs1) (h2 : Ints w v2 zs2) (_ : -9223372036854775808 ≤ a3 ∧ a3 ≤ 9223372036854775807) :
    Calls Try.prog 11 #[.int .i64 a0, v1, v2, .int .i64 a3] w fun e w' => e = .returned (.bool true) ∧ Below w.heap.size w w' := by
  have HI1 := Lib.hid h1
  have HI2 := Lib.hid h2
  clear h1 h2
  obtain ⟨n, hk⟩ : ∃ k : Nat, (k : Int) = 1 + a0 % 5 := ⟨(1 + a0 % 5).toNat, by omega⟩
  have hn1 : 1 ≤ n := by omega
  have hn8 : n ≤ 8 := by omega
  go_enter Try.func11, Try.ntmps11
  generalize hB : w.heap.size = B at *
  go_wp2_with fail
  refine (known_tells _).mono ?_
  rintro e w1 ⟨rfl, hb1⟩
  rw [hB] at hb1
  have hs1 := hb1.size
  have MK1 := Lib.hid (make_tells a0 n hk v1 zs1 w1 (ints_below HI1.out (by rw [hB]; exact hb1)))
  go_wp2_with fail
  refine MK1.out.mono ?_
  rintro e w2 ⟨GA, cA, blkA, capA, rfl, hgA, hb2⟩
  have hB2 : Below B w w2 := hb1.trans (hb2.mono (by omega))
  have hs2 := hb2.size
  have MK2 := Lib.hid (make_tells a0 n hk v1 zs1 w2 (ints_below HI1.out (by rw [hB]; exact hB2)))
  have HA2 := Lib.hid (hgA.tab (c := cA) (by omega) (by omega))
  clear MK1 hgA hb1 hb2
  go_wp2_with fail
  refine MK2.out.mono ?_
  rintro e w3 ⟨GC, cC, blkC, capC, rfl, hgC, hb3⟩
  have hB3 : Below B w w3 := hB2.trans (hb3.mono (by omega))
  have hs3 := hb3.size
  have HA3 := Lib.hid (HA2.out.below hb3)
  have HC3 := Lib.hid (hgC.tab (c := cC) (by omega) (by omega))
  have RW1 := Lib.hid (row_tells n v2 zs2 w3 (ints_below HI2.out (by rw [hB]; exact hB3)) hn1 hn8)
  clear MK2 hgC hb3 HA2 hB2 hk
  go_wp2_with fail
  refine RW1.out.mono ?_
  rintro e w4 ⟨RB, cB, rfl, hoB, hb4⟩
  have hB4 : Below B w w4 := hB3.trans (hb4.mono (by omega))
  have hs4 := hb4.size
  have HA4 := Lib.hid (HA3.out.below hb4)
  have HC4 := Lib.hid (HC3.out.below hb4)
  have HBr4 := Lib.hid (hoB.flts (by omega))
  have RW2 := Lib.hid (row_tells n v2 zs2 w4 (ints_below HI2.out (by rw [hB]; exact hB4)) hn1 hn8)
  clear RW1 hoB hb4 HA3 HC3 hB3
  go_wp2_with fail
  refine RW2.out.mono ?_
  rintro e w5 ⟨RD, cD, rfl, hoD, hb5⟩
  have HB5 := Lib.hid (show Below B w w5 from hB4.trans (hb5.mono (by omega)))
  have hs5 := hb5.size
  have AR := Lib.hid (show Args w5 _ _ _ _ n (makeV zs1 n) (rowV zs2) from ⟨HA4.out.below hb5, HC4.out.below hb5, HBr4.out.below hb5, hoD.flts (by omega)⟩)
  clear RW2 hoD hb5 HA4 HC4 HBr4 hB4 HI1 HI2
  have PT := Lib.hid (part_tells n _ _ w5 AR.out.a hn1 hn8)
  go_wp2_with fail
  refine PT.out.mono ?_
  rintro e w6 hPR
  clear PT
  have RP := Lib.hid (fun X (hX : Below w5.heap.size w5 X) => rpart_tells n _ _ X (AR.out.below hX).c hn1 hn8)
  have TB := Lib.hid (fun X (hX : Below w5.heap.size w5 X) => tables_true _ _ n _ _ X (AR.out.below hX).a (AR.out.below hX).c)
  have RS := Lib.hid (fun X (hX : Below w5.heap.size w5 X) => rows_true _ _ n _ X (AR.out.below hX).b (AR.out.below hX).d)
  have FB := Lib.hid (fun X (hX : Below w5.heap.size w5 X) => show Below B w X from HB5.out.trans (hX.mono (by omega)))
  cases hp : partF (makeV zs1 n) n n with
  | none =>
    unfold PartR at hPR
    rw [hp] at hPR
    obtain ⟨hb6, rfl⟩ := hPR
    have hb6' := hb6.alloc hb6.size (.cells #[.slice none 0 0, .slice none 0 0] 29)
    go_wp2_with fail
    refine (RP.out _ hb6').mono ?_
    rintro e w7 hRR
    unfold RPartR at hRR
    rw [hp] at hRR
    obtain ⟨hb7, rfl⟩ := hRR
    have hb7' := hb6'.trans (hb7.mono hb6'.size)
    have hb8 := hb7'.alloc hb7'.size (.cells #[.slice none 0 0, .slice none 0 0] 32)
    clear hb6 hb6' hb7 hb7'
    go_wp2_with fail
    refine (TB.out _ hb8).mono ?_
    rintro e w9 ⟨rfl, hb9⟩
    have hb9' := hb8.trans (hb9.mono hb8.size)
    clear hb8 hb9
    go_wp2_with fail
    refine (RS.out _ hb9').mono ?_
    rintro e w10 ⟨rfl, hb10⟩
    have hb10' := hb9'.trans (hb10.mono hb9'.size)
    clear hb9' hb10
    go_wp2_with fail
    go_ret
    exact ⟨rfl, FB.out _ hb10'⟩
  | some gq =>
    obtain ⟨g, q⟩ := gq
    have HQ := Lib.hid (partF_lt (Nat.le_refl _) hp)
    unfold PartR at hPR
    rw [hp] at hPR
    obtain ⟨hb6, G2, R3, blk2, cap2, rfl, hg6, hp6, hRG, hbR⟩ := hPR
    have hs6 := hb6.size
    have hal6 : Below w6.heap.size w6 (w6.alloc (.cells #[.slice (some ⟨G2, 0, none⟩) n n, .slice (some ⟨R3, 0, none⟩) n n] 29)) := (Below.refl _ _).alloc (Nat.le_refl _) _
    have hbx6 : Box2 w6.heap.size (.slice (some ⟨G2, 0, none⟩) n n) (.slice (some ⟨R3, 0, none⟩) n n) (w6.alloc (.cells #[.slice (some ⟨G2, 0, none⟩) n n, .slice (some ⟨R3, 0, none⟩) n n] 29)) := Box2.new _ _ _ _
    have hg6' := hg6.below hal6
    have hp6' := hp6.below hal6 hp6.lt.2
    have hb6' : Below w5.heap.size w5 (w6.alloc (.cells #[.slice (some ⟨G2, 0, none⟩) n n, .slice (some ⟨R3, 0, none⟩) n n] 29)) := hb6.trans (hal6.mono hs6)
    have hPG : G2 < w6.heap.size := hg6.hi
    have hPb : ∀ i, i < n → blk2 i < w6.heap.size := fun i hi => (hg6.row i hi).lt.2
    have hPR : R3 < w6.heap.size := hp6.lt.2
    clear hg6 hp6 hb6 hal6
    have HX := Lib.hid hbx6
    have HG := Lib.hid hg6'
    have HP := Lib.hid hp6'
    have HB6 := Lib.hid hb6'
    have HPb := Lib.hid hPb
    clear hbx6 hg6' hp6' hb6' hPb hbR
    go_wp2_with fail
    generalize w6.alloc (.cells #[.slice (some ⟨G2, 0, none⟩) n n, .slice (some ⟨R3, 0, none⟩) n n] 29) = X6 at *
    generalize w6.heap.size = P at *
    clear w6
    refine (RP.out X6 HB6.out).mono ?_
    rintro e w7 hRR
    unfold RPartR at hRR
    rw [hp] at hRR
    obtain ⟨hb7, G4, R5, c4, c5, blk4, cap4, rfl, hg7, hp7, -, -⟩ := hRR
    have hal7 : Below w7.heap.size w7 (w7.alloc (.cells #[.slice (some ⟨G4, 0, none⟩) n c4, .slice (some ⟨R5, 0, none⟩) n c5] 32)) := (Below.refl _ _).alloc (Nat.le_refl _) _
    have hby : Box2 w7.heap.size (.slice (some ⟨G4, 0, none⟩) n c4) (.slice (some ⟨R5, 0, none⟩) n c5) (w7.alloc (.cells #[.slice (some ⟨G4, 0, none⟩) n c4, .slice (some ⟨R5, 0, none⟩) n c5] 32)) := Box2.new _ _ _ _
    have hx7 := HX.out.below hb7 HX.out.2.2
    have hx7' := hx7.below hal7 hx7.2.2
    obtain ⟨x1, x2, x3⟩ := id hx7
    have hg4 := hg7.below hal7
    have hr5 := hp7.below hal7 hp7.lt.2
    have hb7' := HB6.out.trans (hb7.mono HB6.out.size)
    have hg2 := (HG.out.below hb7).below hal7
    have hr3 := (HP.out.below hb7 HP.out.lt.2).below hal7 (HP.out.below hb7 HP.out.lt.2).lt.2
    have hb8 := hb7'.trans (hal7.mono hb7'.size)
    have HX8 := Lib.hid hx7'
    have HY8 := Lib.hid hby
    have HG2 := Lib.hid hg2
    have HR3 := Lib.hid hr3
    have HG4 := Lib.hid hg4
    have HR5 := Lib.hid hr5
    have HB8 := Lib.hid hb8
    clear hg7 hp7 hal7 hby hx7 hx7' hg4 hr5 hg2 hr3 hb7 hb7' hb8 HX HG HP HB6 RP
    go_wp2_with fail
    generalize w7.alloc (.cells #[.slice (some ⟨G4, 0, none⟩) n c4, .slice (some ⟨R5, 0, none⟩) n c5] 32) = X8 at *
    generalize w7.heap.size = P2 at *
    clear x1 x2 x3
    clear w7
    have SV := Lib.hid (fun X (hX : Below X8.heap.size X8 X) => solve_tells n (.slice (some ⟨G2, 0, none⟩) n n) (.slice (some ⟨R3, 0, none⟩) n n) _ g q (rowV zs2) X ((HG2.out.below hX).tab (c := n) (by omega) (by omega)) ((HR3.out.below hX HR3.out.lt.2).ints (by omega)) (AR.out.below (HB8.out.trans (hX.mono HB8.out.size))).b HQ.out hn1 hn8)
    have RSV := Lib.hid (fun X (hX : Below X8.heap.size X8 X) => rsolve_tells n (.slice (some ⟨G4, 0, none⟩) n c4) (.slice (some ⟨R5, 0, none⟩) n c5) _ g q (rowV zs2) X ((HG4.out.below hX).tab (c := c4) (by omega) (by omega)) ((HR5.out.below hX HR5.out.lt.2).ints (by omega)) (AR.out.below (HB8.out.trans (hX.mono HB8.out.size))).d HQ.out hn1 hn8)
    refine (SV.out X8 (Below.refl _ _)).mono ?_
    rintro e w9 ⟨R9, rfl, ho9, hb9⟩
    go_wp2_with fail
    go_loopw [18] (fun i wr => ∃ (d : Nat) (h : Nat → Nat), d ≤ n ∧ i = .int .i64 d ∧ OwnF wr X8.heap.size R9 n n h ∧ Below X8.heap.size X8 wr) (fun i _ => n - (intOf i).toNat)
    case atStart => exact ⟨0, _, by omega, rfl, ho9, hb9⟩
    case round =>
      clear ho9 hb9
      obtain ⟨d, h, hd, rfl, ho, hbl⟩ := hrel
      by_cases hdn : d < n
      · obtain ⟨z, z1, -, -⟩ := ho.cell hdn
        have r1 := ho.free d
        have HO := Lib.hid ((ho.set hdn rfl (ofInt_lt a3)))
        have HBL := Lib.hid (hbl.setCell (p := ⟨R9, d, none⟩) ho.lt.1 (.float .f64 (floatOfInt .f64 a3)))
        clear ho hbl
        go_wp2_with fail
        go_roundw
        case rel => exact ⟨d + 1, _, by omega, by go_num, HO.out, HBL.out⟩
        case measure => simp [intOf]; omega
      · obtain rfl : n = d := by omega
        have HBL := Lib.hid hbl
        clear ho hbl
        go_wp2_with fail
        refine wp_region_ordR [(0, 3), (1, 1), (3, 3), (4, 1), (2, 0), (5, 0), (6, 0), (7, 1)] (fun W => Below X8.heap.size X8 W) (by kernel_rfl) (by kernel_rfl) (fun _ _ d _ _ h => by cases d <;> exact h) (HBL.out.drew) ?_
        intro Z hZ hbZ
        clear hZ
        refine wpOrd_keep (v := .agg #[.slice (some ⟨G2, 0, none⟩) n n, .slice (some ⟨R3, 0, none⟩) n n]) rfl rfl (fun wk hwk => ?_) ?_
        · obtain ⟨k1, k2, k3⟩ := HX8.out.below hwk HX8.out.2.2
          go_simp
        iterate 1
          first
            | refine wpOrd_pure (fun K hK => ?_)
            | refine wpOrd_take (fun K hK => ?_)
          go_simp
          refine hK _ ?_
          clear hK K
        refine wpOrd_keep (v := .agg #[.slice (some ⟨G4, 0, none⟩) n c4, .slice (some ⟨R5, 0, none⟩) n c5]) rfl rfl (fun wk hwk => ?_) ?_
        · obtain ⟨k1, k2, k3⟩ := HY8.out.below hwk HY8.out.2.2
          go_simp
        iterate 1
          first
            | refine wpOrd_pure (fun K hK => ?_)
            | refine wpOrd_take (fun K hK => ?_)
          go_simp
          refine hK _ ?_
          clear hK K
        refine wpOrd_doR (fun K hK => ?_)
        go_simp
        refine (SV.out Z hbZ).mono ?_
        rintro e wa ⟨RX, rfl, hox, hbx⟩
        have hba := hbZ.trans (hbx.mono hbZ.size)
        refine hK _ _ (fun h => Bool.noConfusion (Eq.trans (Eq.symm (by kernel_rfl : _ = false)) h)) (fun _ => hba) ?_
        clear hK K
        refine wpOrd_doR (fun K hK => ?_)
        go_simp
        refine (RSV.out wa hba).mono ?_
        rintro e wb ⟨RY, rfl, hoy, hby⟩
        have hbb := hba.trans (hby.mono hba.size)
        have hox2 := hox.below hby hox.lt.2
        refine hK _ _ (fun h => Bool.noConfusion (Eq.trans (Eq.symm (by kernel_rfl : _ = false)) h)) (fun _ => hbb) ?_
        clear hK K
        refine wpOrd_doR (fun K hK => ?_)
        go_simp
        refine (rows_true _ _ n _ wb (hox2.flts (by omega)) (hoy.flts (by omega))).mono ?_
        rintro e wc ⟨rfl, hbc⟩
        have hbd := hbb.trans (hbc.mono hbb.size)
        refine hK _ _ (fun h => Bool.noConfusion (Eq.trans (Eq.symm (by kernel_rfl : _ = false)) h)) (fun _ => hbd) ?_
        clear hK K
        iterate 1
          first
            | refine wpOrd_pure (fun K hK => ?_)
            | refine wpOrd_take (fun K hK => ?_)
          go_simp
          refine hK _ ?_
          clear hK K
        refine wpOrd_nil ?_
        have HG9 := Lib.hid (HG2.out.below hbd)
        have HX9 := Lib.hid (HX8.out.below hbd HX8.out.2.2)
        have HB9 := Lib.hid (HB8.out.trans (hbd.mono HB8.out.size))
        clear hbZ hbx hba hby hbb hbc hbd hox hox2 hoy SV RSV HG2 HX8 HY8 HR3 HG4 HR5 HBL HB8
        go_wp2_with fail
        go_loopw [19] (fun i wr => ∃ (d : Nat) (g : Nat → Nat → Nat), d ≤ n ∧ i = .int .i64 d ∧ Grid wr w5.heap.size G2 n n blk2 cap2 g ∧ Box2 P (.slice (some ⟨G2, 0, none⟩) n n) (.slice (some ⟨R3, 0, none⟩) n n) wr ∧ Below w5.heap.size w5 wr) (fun i _ => n - (intOf i).toNat)
        case atStart => exact ⟨0, _, by omega, rfl, HG9.out, HX9.out, HB9.out⟩
        case round =>
          clear HG9 HX9 HB9
          obtain ⟨d, g, hd, rfl, hg, hbx, hbl⟩ := hrel
          obtain ⟨x1, x2, x3⟩ := id hbx
          have HG := Lib.hid hg
          have HX := Lib.hid hbx
          have HBL := Lib.hid hbl
          clear hg hbx hbl
          by_cases hdn : d < n
          · go_wp2_with fail
            clear x1 x2 x3
            go_loopw [20] (fun i wr => ∃ (e : Nat) (g : Nat → Nat → Nat), e ≤ n ∧ i = .int .i64 e ∧ Grid wr w5.heap.size G2 n n blk2 cap2 g ∧ Box2 P (.slice (some ⟨G2, 0, none⟩) n n) (.slice (some ⟨R3, 0, none⟩) n n) wr ∧ Below w5.heap.size w5 wr) (fun i _ => n - (intOf i).toNat)
            case atStart => exact ⟨0, _, by omega, rfl, HG.out, HX.out, HBL.out⟩
            case round =>
              clear HG HX HBL
              obtain ⟨e, g, he, rfl, hg, hbx, hbl⟩ := hrel
              obtain ⟨x1, x2, x3⟩ := id hbx
              have r1 := hg.ref d hdn
              by_cases hen : e < n
              · obtain ⟨z, z1, -, -⟩ := hg.cell hdn hen
                have r3 := (hg.row d hdn).free
                have HG := Lib.hid (hg.set hdn hen rfl (ofInt_lt a3))
                have HX := Lib.hid (box_other (b := blk2 d) (o := e) (x := .float .f64 (floatOfInt .f64 a3)) hbx (by have := HPb.out d hdn; omega))
                have HBL := Lib.hid (hbl.setCell (p := ⟨blk2 d, e, none⟩) (hg.row d hdn).lt.1 (.float .f64 (floatOfInt .f64 a3)))
                clear hg hbx hbl
                go_wp2_with fail
                go_roundw
                case rel => exact ⟨e + 1, _, by omega, by go_num, HG.out, HX.out, HBL.out⟩
                case measure => simp [intOf]; omega
              · have HG := Lib.hid hg
                have HX := Lib.hid hbx
                have HBL := Lib.hid hbl
                clear hg hbx hbl
                go_wp2_with fail
                go_roundw
                case rel => exact ⟨d + 1, _, by omega, by go_num, HG.out, HX.out, HBL.out⟩
                case measure => simp [intOf]; omega
          · go_wp2_with fail
            refine (TB.out _ HBL.out).mono ?_
            rintro e w9 ⟨rfl, hb9⟩
            have hb9' := HBL.out.trans (hb9.mono HBL.out.size)
            clear hb9
            go_wp2_with fail
            refine (RS.out _ hb9').mono ?_
            rintro e w10 ⟨rfl, hb10⟩
            have hb10' := hb9'.trans (hb10.mono hb9'.size)
            clear hb9' hb10
            go_wp2_with fail
            go_ret
            exact ⟨rfl, FB.out _ hb10'⟩
end Go.Proofs.Ytainodgbcpkipaa
