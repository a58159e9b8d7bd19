/-
  The law of rows of equations, whole, walked.
-/
import Derived.Test.YtainodgbcpkipaaLmc
import Derived.Test.YtainodgbcpkipaaLkn
import Derived.Test.YtainodgbcpkipaaLrb
import Derived.Test.YtainodgbcpkipaaLrc
import Derived.Test.YtainodgbcpkipaaLrd
import Derived.Test.YtainodgbcpkipaaLre
import Derived.Test.YtainodgbcpkipaaLrj
namespace Go.Proofs.Ytainodgbcpkipaa
open Go.RowKit
open Ieee (double)
attribute [local go_sem] alloc_drewN setCell_drewN call_bits call_frombits ord_lt ord_eq ord_gt ord_ne ord_le ord_ge eqB_self run_fadd run_fsub run_fmul run_fquo haStoreFlt takeOp pureOp readsUpon doOp

theorem partF_lt {f : Nat → Nat → Nat} {n : Nat} : ∀ {k : Nat} {g : Nat → Nat → Nat} {q : Nat → Nat}, k ≤ n → partF f n k = some (g, q) → ∀ i, i < n → q i < n
  | 0, g, q, _, h, i, hi => by
    simp only [partF, Option.some.injEq, Prod.mk.injEq] at h
    rw [← h.2]; exact hi
  | k + 1, g, q, hk, h, i, hi => by
    rw [partF] at h
    cases e : partF f n k with
    | none => rw [e] at h; cases h
    | some x =>
      obtain ⟨g0, q0⟩ := x
      rw [e] at h
      simp only [] at h
      split at h
      · simp only [Option.some.injEq, Prod.mk.injEq] at h
        have hp := pivF_le g0 k (n - 1 - k)
        rw [← h.2, swp_sg]
        exact partF_lt (by omega) e _ (sg_lt (by omega) (by omega) hi)
      · cases h
/-- Rows and what is asked of them, as they were made. -/
structure Args2 (W : World) (va vb : Value) (n : Nat) (f : Nat → Nat → Nat) (r : Nat → Nat) : Prop where
  a : TabR W va n (fun _ => n) f
  b : FRow W vb n r
theorem Args2.below {W W' : World} {va vb : Value} {n : Nat} {f : Nat → Nat → Nat} {r : Nat → Nat} (h : Args2 W va vb n f r) (hb : Below W.heap.size W W') : Args2 W' va vb n f r := ⟨h.a.below hb, h.b.below hb⟩
set_option maxRecDepth 100000 in
set_option maxHeartbeats 8000000 in
theorem linAll_any (a0 : Int) (v1 : Value) (zs1 : List Int) (a2 : Int) (v3 : Value) (zs3 : List Int) (w : World) (_ : -9223372036854775808 ≤ a0 ∧ a0 ≤ 9223372036854775807) (h1 : Ints w v1 zs1) (h2 : -9223372036854775808 ≤ a2 ∧ a2 ≤ 9223372036854775807) (h3 : Ints w v3 zs3) :
    Calls Try.prog 3 #[.int .i64 a0, v1, .int .i64 a2, v3] w fun e w' => e = .returned (.bool true) ∧ Below w.heap.size w w' := by
  have HI1 := Lib.hid h1
  have HI2 := Lib.hid h3
  clear h1 h3
  obtain ⟨n, hk⟩ : ∃ k : Nat, (k : Int) = 1 + a0 % 5 := ⟨(1 + a0 % 5).toNat, by omega⟩
  have hn1 : 1 ≤ n := by omega
  have hn8 : n ≤ 8 := by omega
  go_enter Try.func3, Try.ntmps3
  generalize hB : w.heap.size = B at *
  go_wp2_with fail
  refine (known_tells _).mono ?_
  rintro e w1 ⟨rfl, hb1⟩
  rw [hB] at hb1
  have hs1 := hb1.size
  have MK1 := Lib.hid (make_some a0 a2 h2 n hk v1 zs1 w1 (ints_below HI1.out (by rw [hB]; exact hb1)))
  go_wp2_with fail
  refine MK1.out.mono ?_
  rintro e w2 ⟨GA, cA, blkA, capA, f, rfl, hgA, hb2⟩
  have hB2 : Below B w w2 := hb1.trans (hb2.mono (by omega))
  have hs2 := hb2.size
  have HA2 := Lib.hid (hgA.tab (c := cA) (by omega) (by omega))
  have RW1 := Lib.hid (row_tells n v3 zs3 w2 (ints_below HI2.out (by rw [hB]; exact hB2)) hn1 hn8)
  clear MK1 hgA hb1 hb2 hk
  go_wp2_with fail
  refine RW1.out.mono ?_
  rintro e w5 ⟨RB, cB, rfl, hoB, hb5⟩
  have HB5 := Lib.hid (show Below B w w5 from hB2.trans (hb5.mono (by omega)))
  have AR := Lib.hid (show Args2 w5 _ _ n f (rowV zs3) from ⟨HA2.out.below hb5, hoB.flts (by omega)⟩)
  have hs5 := hb5.size
  clear RW1 hoB hb5 HA2 hB2 HI1 HI2
  have PT := Lib.hid (part_tells n _ _ w5 AR.out.a hn1 hn8)
  go_wp2_with fail
  refine PT.out.mono ?_
  rintro e w6 hPR
  clear PT
  have RP := Lib.hid (fun X (hX : Below w5.heap.size w5 X) => rpart_tells n _ _ X (AR.out.below hX).a hn1 hn8)
  have LF := Lib.hid (fun X (hX : Below w5.heap.size w5 X) => left_tells n _ _ _ f (rowV zs3) (rowV zs3) X (AR.out.below hX).a (AR.out.below hX).b (AR.out.below hX).b hn1 hn8)
  have RLF := Lib.hid (fun X (hX : Below w5.heap.size w5 X) => rleft_tells n _ _ _ f (rowV zs3) (rowV zs3) X (AR.out.below hX).a (AR.out.below hX).b (AR.out.below hX).b hn1 hn8)
  have FB := Lib.hid (fun X (hX : Below w5.heap.size w5 X) => show Below B w X from HB5.out.trans (hX.mono (by omega)))
  cases hp : partF f n n with
  | none =>
    unfold PartR at hPR
    rw [hp] at hPR
    obtain ⟨hb6, rfl⟩ := hPR
    have hb6' := hb6.alloc hb6.size (.cells #[.slice none 0 0, .slice none 0 0] 29)
    have HX6 := Lib.hid (Box2.new (.slice none 0 0) (.slice none 0 0) w6 29)
    clear hb6
    go_wp2_with fail
    generalize w6.alloc (.cells #[.slice none 0 0, .slice none 0 0] 29) = X6 at *
    generalize w6.heap.size = P at *
    clear w6
    refine (RP.out _ hb6').mono ?_
    rintro e w7 hRR
    unfold RPartR at hRR
    rw [hp] at hRR
    obtain ⟨hb7, rfl⟩ := hRR
    have hb7' := hb6'.trans (hb7.mono hb6'.size)
    have hb8 := hb7'.alloc hb7'.size (.cells #[.slice none 0 0, .slice none 0 0] 32)
    have hal7 : Below w7.heap.size w7 (w7.alloc (.cells #[.slice none 0 0, .slice none 0 0] 32)) := (Below.refl _ _).alloc (Nat.le_refl _) _
    have HX8 := Lib.hid ((HX6.out.below hb7 HX6.out.2.2).below hal7 (HX6.out.below hb7 HX6.out.2.2).2.2)
    have HY8 := Lib.hid (Box2.new (.slice none 0 0) (.slice none 0 0) w7 32)
    have HB8 := Lib.hid hb8
    clear hb6' hb7 hb7' HX6 hal7 hb8
    go_wp2_with fail
    generalize w7.alloc (.cells #[.slice none 0 0, .slice none 0 0] 32) = X8 at *
    generalize w7.heap.size = P2 at *
    clear w7
    go_wp2_with fail
    refine wp_region_ordR [(0, 1), (1, 1), (2, 1), (3, 1), (4, 3), (6, 3), (5, 0), (7, 0), (8, 1), (9, 1), (10, 1), (11, 1), (12, 1), (13, 1), (15, 1), (16, 1), (17, 1), (14, 0), (18, 0), (19, 0), (20, 1), (21, 1)] (fun W => Below X8.heap.size X8 W) (by kernel_rfl) (by kernel_rfl) (fun _ _ d _ _ h => by cases d <;> exact h) ((Below.refl _ _).drew) ?_
    intro Z hZ hbZ
    clear hZ
    iterate 4
      first
        | refine wpOrd_pure (fun K hK => ?_)
        | refine wpOrd_take (fun K hK => ?_)
      go_simp
      refine hK _ ?_
      clear hK K
    refine wpOrd_keep (v := .agg #[.slice none 0 0, .slice none 0 0]) rfl rfl (fun wk hwk => ?_) ?_
    · obtain ⟨k1, k2, k3⟩ := HX8.out.below hwk HX8.out.2.2
      go_simp
    refine wpOrd_keep (v := .agg #[.slice none 0 0, .slice none 0 0]) rfl rfl (fun wk hwk => ?_) ?_
    · obtain ⟨k1, k2, k3⟩ := HY8.out.below hwk HY8.out.2.2
      go_simp
    refine wpOrd_doR (fun K hK => ?_)
    go_simp
    refine (lu_tells none none 0 0 0 0 Z).mono ?_
    rintro e wa ⟨rfl, hba⟩
    have hba' := hbZ.trans (hba.mono hbZ.size)
    refine hK _ _ (fun h => Bool.noConfusion (Eq.trans (Eq.symm (by kernel_rfl : _ = false)) h)) (fun _ => hba') ?_
    clear hK K
    refine wpOrd_doR (fun K hK => ?_)
    go_simp
    refine (rsame_true _ _ _ _ 0 (fun _ _ => 0) (fun _ => 0) wa ⟨none, 0, rfl, by omega, fun h => by omega⟩ ⟨none, 0, rfl, by omega, fun h => by omega⟩ ⟨none, 0, rfl, by omega, fun h => by omega⟩ ⟨none, 0, rfl, by omega, fun h => by omega⟩).mono ?_
    rintro e wb ⟨rfl, hbb⟩
    have hbb' := hba'.trans (hbb.mono hba'.size)
    refine hK _ _ (fun h => Bool.noConfusion (Eq.trans (Eq.symm (by kernel_rfl : _ = false)) h)) (fun _ => hbb') ?_
    clear hK K
    iterate 9
      first
        | refine wpOrd_pure (fun K hK => ?_)
        | refine wpOrd_take (fun K hK => ?_)
      go_simp
      refine hK _ ?_
      clear hK K
    refine wpOrd_doR (fun K hK => ?_)
    go_simp
    refine (LF.out wb (HB8.out.trans (hbb'.mono HB8.out.size))).mono ?_
    rintro e wc ⟨R1, rfl, ho1, hbc⟩
    have hbc' := hbb'.trans (hbc.mono hbb'.size)
    refine hK _ _ (fun h => Bool.noConfusion (Eq.trans (Eq.symm (by kernel_rfl : _ = false)) h)) (fun _ => hbc') ?_
    clear hK K
    refine wpOrd_doR (fun K hK => ?_)
    go_simp
    refine (RLF.out wc (HB8.out.trans (hbc'.mono HB8.out.size))).mono ?_
    rintro e wd ⟨R2, c2, rfl, ho2, hbd⟩
    have hbd' := hbc'.trans (hbd.mono hbc'.size)
    have ho1' := ho1.below hbd ho1.lt.2
    refine hK _ _ (fun h => Bool.noConfusion (Eq.trans (Eq.symm (by kernel_rfl : _ = false)) h)) (fun _ => hbd') ?_
    clear hK K
    refine wpOrd_doR (fun K hK => ?_)
    go_simp
    refine (trows_true _ _ n _ wd (ho1'.row (by omega)) (ho2.row (by omega))).mono ?_
    rintro e we ⟨rfl, hbe⟩
    have hbe' := hbd'.trans (hbe.mono hbd'.size)
    refine hK _ _ (fun h => Bool.noConfusion (Eq.trans (Eq.symm (by kernel_rfl : _ = false)) h)) (fun _ => hbe') ?_
    clear hK K
    iterate 2
      first
        | refine wpOrd_pure (fun K hK => ?_)
        | refine wpOrd_take (fun K hK => ?_)
      go_simp
      refine hK _ ?_
      clear hK K
    refine wpOrd_nil ?_
    have HB9 := Lib.hid (HB8.out.trans (hbe'.mono HB8.out.size))
    clear hbZ hba hba' hbb hbb' hbc hbc' hbd hbd' hbe hbe' ho1 ho1' ho2 HX8 HY8 HB8
    go_wp2_with fail
    refine wp_region_ord [(0, 1), (1, 1), (2, 1), (3, 1), (4, 1), (6, 1), (7, 1), (5, 0), (8, 0), (9, 0), (10, 1), (11, 1)] (by kernel_rfl) (by kernel_rfl) (fun _ _ d _ _ h => by cases d <;> exact h) ?_
    intro Z hZ
    have hbZ : Below w5.heap.size w5 Z := by rw [hZ]; exact HB9.out.drew
    clear hZ
    iterate 7
      first
        | refine wpOrd_pure (fun K hK => ?_)
        | refine wpOrd_take (fun K hK => ?_)
      go_simp
      refine hK _ ?_
      clear hK K
    iterate 3
      refine wpOrd_do (fun K hK => ?_)
      go_simp
      refine hK _ _ (fun h => Bool.noConfusion (Eq.trans (Eq.symm (by kernel_rfl : _ = false)) h)) ?_
      clear hK K
    iterate 2
      first
        | refine wpOrd_pure (fun K hK => ?_)
        | refine wpOrd_take (fun K hK => ?_)
      go_simp
      refine hK _ ?_
      clear hK K
    refine wpOrd_nil ?_
    go_wp2_with fail
    go_ret
    exact ⟨rfl, FB.out _ hbZ⟩
  | some gq =>
    obtain ⟨g, q⟩ := gq
    have HQ := Lib.hid (partF_lt (Nat.le_refl _) hp)
    unfold PartR at hPR
    rw [hp] at hPR
    obtain ⟨hb6, G2, R3, blk2, cap2, rfl, hg6, hp6, -, -⟩ := hPR
    have hs6 := hb6.size
    have hal6 : Below w6.heap.size w6 (w6.alloc (.cells #[.slice (some ⟨G2, 0, none⟩) n n, .slice (some ⟨R3, 0, none⟩) n n] 29)) := (Below.refl _ _).alloc (Nat.le_refl _) _
    have HX := Lib.hid (Box2.new (.slice (some ⟨G2, 0, none⟩) n n) (.slice (some ⟨R3, 0, none⟩) n n) w6 29)
    have HG := Lib.hid ((hg6.below hal6).tab (c := n) (by omega) (by omega))
    have HP := Lib.hid ((hp6.below hal6 hp6.lt.2).ints (by omega))
    have HB6 := Lib.hid (hb6.trans (hal6.mono hs6))
    clear hg6 hp6 hb6 hal6
    go_wp2_with fail
    generalize w6.alloc (.cells #[.slice (some ⟨G2, 0, none⟩) n n, .slice (some ⟨R3, 0, none⟩) n n] 29) = X6 at *
    generalize w6.heap.size = P at *
    clear w6
    refine (RP.out X6 HB6.out).mono ?_
    rintro e w7 hRR
    unfold RPartR at hRR
    rw [hp] at hRR
    obtain ⟨hb7, G4, R5, c4, c5, blk4, cap4, rfl, hg7, hp7, -, -⟩ := hRR
    have hal7 : Below w7.heap.size w7 (w7.alloc (.cells #[.slice (some ⟨G4, 0, none⟩) n c4, .slice (some ⟨R5, 0, none⟩) n c5] 32)) := (Below.refl _ _).alloc (Nat.le_refl _) _
    have HY8 := Lib.hid (Box2.new (.slice (some ⟨G4, 0, none⟩) n c4) (.slice (some ⟨R5, 0, none⟩) n c5) w7 32)
    have hx7 := HX.out.below hb7 HX.out.2.2
    have HX8 := Lib.hid (hx7.below hal7 hx7.2.2)
    have hb7' := HB6.out.trans (hb7.mono HB6.out.size)
    have HG4 := Lib.hid ((hg7.below hal7).tab (c := c4) (by omega) (by omega))
    have HR5 := Lib.hid ((hp7.below hal7 hp7.lt.2).ints (by omega))
    have HG2 := Lib.hid ((HG.out.below hb7).below hal7)
    have HR3 := Lib.hid ((HP.out.below hb7).below hal7)
    have HB8 := Lib.hid (hb7'.trans (hal7.mono hb7'.size))
    clear hg7 hp7 hal7 hx7 hb7 hb7' HX HG HP HB6 RP
    go_wp2_with fail
    generalize w7.alloc (.cells #[.slice (some ⟨G4, 0, none⟩) n c4, .slice (some ⟨R5, 0, none⟩) n c5] 32) = X8 at *
    generalize w7.heap.size = P2 at *
    clear w7
    refine wp_region_ordR [(0, 1), (1, 1), (2, 1), (3, 1), (4, 3), (6, 3), (5, 0), (7, 0), (8, 1), (9, 1), (10, 1), (11, 1), (12, 1), (13, 1), (15, 1), (16, 1), (17, 1), (14, 0), (18, 0), (19, 0), (20, 1), (21, 1)] (fun W => Below X8.heap.size X8 W) (by kernel_rfl) (by kernel_rfl) (fun _ _ d _ _ h => by cases d <;> exact h) ((Below.refl _ _).drew) ?_
    intro Z hZ hbZ
    clear hZ
    iterate 4
      first
        | refine wpOrd_pure (fun K hK => ?_)
        | refine wpOrd_take (fun K hK => ?_)
      go_simp
      refine hK _ ?_
      clear hK K
    refine wpOrd_keep (v := .agg #[.slice (some ⟨G2, 0, none⟩) n n, .slice (some ⟨R3, 0, none⟩) n n]) rfl rfl (fun wk hwk => ?_) ?_
    · obtain ⟨k1, k2, k3⟩ := HX8.out.below hwk HX8.out.2.2
      go_simp
    refine wpOrd_keep (v := .agg #[.slice (some ⟨G4, 0, none⟩) n c4, .slice (some ⟨R5, 0, none⟩) n c5]) rfl rfl (fun wk hwk => ?_) ?_
    · obtain ⟨k1, k2, k3⟩ := HY8.out.below hwk HY8.out.2.2
      go_simp
    refine wpOrd_doR (fun K hK => ?_)
    go_simp
    refine (lu_tells _ _ n n n n Z).mono ?_
    rintro e wa ⟨rfl, hba⟩
    have hba' := hbZ.trans (hba.mono hbZ.size)
    refine hK _ _ (fun h => Bool.noConfusion (Eq.trans (Eq.symm (by kernel_rfl : _ = false)) h)) (fun _ => hba') ?_
    clear hK K
    refine wpOrd_doR (fun K hK => ?_)
    go_simp
    refine (rsame_true _ _ _ _ n g (fun i => (q i : Int)) wa (HG2.out.below hba') (HG4.out.below hba') (HR3.out.below hba') (HR5.out.below hba')).mono ?_
    rintro e wb ⟨rfl, hbb⟩
    have hbb' := hba'.trans (hbb.mono hba'.size)
    refine hK _ _ (fun h => Bool.noConfusion (Eq.trans (Eq.symm (by kernel_rfl : _ = false)) h)) (fun _ => hbb') ?_
    clear hK K
    iterate 9
      first
        | refine wpOrd_pure (fun K hK => ?_)
        | refine wpOrd_take (fun K hK => ?_)
      go_simp
      refine hK _ ?_
      clear hK K
    refine wpOrd_doR (fun K hK => ?_)
    go_simp
    refine (LF.out wb (HB8.out.trans (hbb'.mono HB8.out.size))).mono ?_
    rintro e wc ⟨R1, rfl, ho1, hbc⟩
    have hbc' := hbb'.trans (hbc.mono hbb'.size)
    refine hK _ _ (fun h => Bool.noConfusion (Eq.trans (Eq.symm (by kernel_rfl : _ = false)) h)) (fun _ => hbc') ?_
    clear hK K
    refine wpOrd_doR (fun K hK => ?_)
    go_simp
    refine (RLF.out wc (HB8.out.trans (hbc'.mono HB8.out.size))).mono ?_
    rintro e wd ⟨R2, c2, rfl, ho2, hbd⟩
    have hbd' := hbc'.trans (hbd.mono hbc'.size)
    have ho1' := ho1.below hbd ho1.lt.2
    refine hK _ _ (fun h => Bool.noConfusion (Eq.trans (Eq.symm (by kernel_rfl : _ = false)) h)) (fun _ => hbd') ?_
    clear hK K
    refine wpOrd_doR (fun K hK => ?_)
    go_simp
    refine (trows_true _ _ n _ wd (ho1'.row (by omega)) (ho2.row (by omega))).mono ?_
    rintro e we ⟨rfl, hbe⟩
    have hbe' := hbd'.trans (hbe.mono hbd'.size)
    refine hK _ _ (fun h => Bool.noConfusion (Eq.trans (Eq.symm (by kernel_rfl : _ = false)) h)) (fun _ => hbe') ?_
    clear hK K
    iterate 2
      first
        | refine wpOrd_pure (fun K hK => ?_)
        | refine wpOrd_take (fun K hK => ?_)
      go_simp
      refine hK _ ?_
      clear hK K
    refine wpOrd_nil ?_
    have HB9 := Lib.hid (HB8.out.trans (hbe'.mono HB8.out.size))
    have HX9 := Lib.hid (HX8.out.below hbe' HX8.out.2.2)
    have HY9 := Lib.hid (HY8.out.below hbe' HY8.out.2.2)
    have HG9 := Lib.hid (HG2.out.below hbe')
    have HR9 := Lib.hid (HR3.out.below hbe')
    have HG10 := Lib.hid (HG4.out.below hbe')
    have HR10 := Lib.hid (HR5.out.below hbe')
    clear hbZ hba hba' hbb hbb' hbc hbc' hbd hbd' hbe hbe' ho1 ho1' ho2 HX8 HY8 HB8 HG2 HG4 HR3 HR5 LF RLF
    go_wp2_with fail
    refine wp_region_ordR [(0, 1), (1, 1), (2, 1), (3, 3), (4, 1), (6, 3), (7, 1), (5, 0), (8, 0), (9, 0), (10, 1), (11, 1)] (fun W => Below we.heap.size we W) (by kernel_rfl) (by kernel_rfl) (fun _ _ d _ _ h => by cases d <;> exact h) ((Below.refl _ _).drew) ?_
    intro Z hZ hbZ
    clear hZ
    iterate 3
      first
        | refine wpOrd_pure (fun K hK => ?_)
        | refine wpOrd_take (fun K hK => ?_)
      go_simp
      refine hK _ ?_
      clear hK K
    refine wpOrd_keep (v := .agg #[.slice (some ⟨G2, 0, none⟩) n n, .slice (some ⟨R3, 0, none⟩) n n]) rfl rfl (fun wk hwk => ?_) ?_
    · obtain ⟨k1, k2, k3⟩ := HX9.out.below hwk HX9.out.2.2
      go_simp
    iterate 1
      first
        | refine wpOrd_pure (fun K hK => ?_)
        | refine wpOrd_take (fun K hK => ?_)
      go_simp
      refine hK _ ?_
      clear hK K
    refine wpOrd_keep (v := .agg #[.slice (some ⟨G4, 0, none⟩) n c4, .slice (some ⟨R5, 0, none⟩) n c5]) rfl rfl (fun wk hwk => ?_) ?_
    · obtain ⟨k1, k2, k3⟩ := HY9.out.below hwk HY9.out.2.2
      go_simp
    iterate 1
      first
        | refine wpOrd_pure (fun K hK => ?_)
        | refine wpOrd_take (fun K hK => ?_)
      go_simp
      refine hK _ ?_
      clear hK K
    refine wpOrd_doR (fun K hK => ?_)
    go_simp
    refine (solve_tells n _ _ _ g q (rowV zs3) Z (HG9.out.below hbZ) (HR9.out.below hbZ) (AR.out.below (HB9.out.trans (hbZ.mono HB9.out.size))).b HQ.out hn1 hn8).mono ?_
    rintro e wa ⟨RX, rfl, hox, hbx⟩
    have hba := hbZ.trans (hbx.mono hbZ.size)
    refine hK _ _ (fun h => Bool.noConfusion (Eq.trans (Eq.symm (by kernel_rfl : _ = false)) h)) (fun _ => hba) ?_
    clear hK K
    refine wpOrd_doR (fun K hK => ?_)
    go_simp
    refine (rsolve_tells n _ _ _ g q (rowV zs3) wa (HG10.out.below hba) (HR10.out.below hba) (AR.out.below (HB9.out.trans (hba.mono HB9.out.size))).b HQ.out hn1 hn8).mono ?_
    rintro e wb ⟨RY, rfl, hoy, hby⟩
    have hbb := hba.trans (hby.mono hba.size)
    have hox2 := hox.below hby hox.lt.2
    refine hK _ _ (fun h => Bool.noConfusion (Eq.trans (Eq.symm (by kernel_rfl : _ = false)) h)) (fun _ => hbb) ?_
    clear hK K
    refine wpOrd_doR (fun K hK => ?_)
    go_simp
    refine (rows_true _ _ n _ wb (hox2.flts (by omega)) (hoy.flts (by omega))).mono ?_
    rintro e wc ⟨rfl, hbc⟩
    have hbd := hbb.trans (hbc.mono hbb.size)
    refine hK _ _ (fun h => Bool.noConfusion (Eq.trans (Eq.symm (by kernel_rfl : _ = false)) h)) (fun _ => hbd) ?_
    clear hK K
    iterate 2
      first
        | refine wpOrd_pure (fun K hK => ?_)
        | refine wpOrd_take (fun K hK => ?_)
      go_simp
      refine hK _ ?_
      clear hK K
    refine wpOrd_nil ?_
    go_wp2_with fail
    go_ret
    exact ⟨rfl, FB.out _ (HB9.out.trans (hbd.mono HB9.out.size))⟩
end Go.Proofs.Ytainodgbcpkipaa
