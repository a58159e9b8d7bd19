/-
  The law of whether a tape may be, walked.
-/
import Derived.Test.YticbgaflhiokgaaTpz
import Derived.Test.YticbgaflhiokgaaTpw
import Derived.Test.YticbgaflhiokgaaTpx
import Derived.Test.YticbgaflhiokgaaLrf
import Derived.Test.YticbgaflhiokgaaTmv
import Derived.Test.YticbgaflhiokgaaB3n
import Derived.Deep.DeepCutAuto
import Derived.Deep.CutBlock
namespace Go.Proofs.Yticbgaflhiokgaa
open Go.RowKit
open Ieee (double)
attribute [local go_sem] alloc_drewN setCell_drewN call_bits call_frombits ord_lt ord_eq ord_gt ord_ne ord_le ord_ge eqB_self run_fadd run_fsub run_fmul run_fquo haStoreFlt takeOp pureOp readsUpon doOp

theorem known3_tells (w : World) : Calls Try.prog 12 #[] w (Tells (.bool true) w) :=
  (Ex.run_law (V := Ex.adV []) mixed namesAll Ex.gam_nil (ctrB_ok (Ex.adV_ok []) (t := []) (fun _ _ _ h => by cases h)) known_run (vs := #[]) trivial w).mono fun _ _ h => h
theorem few_tells (n : Int) (a b : Option Addr) (l c m d : Nat) (w : World) : Calls Try.prog 13 #[.agg #[.int .i64 n, .slice a l c, .slice b m d]] w fun e w' => (∃ q, e = .returned (.bool q)) ∧ Below w.heap.size w w' := by
  have hb := Box3.new n (.slice a l c) (.slice b m d) w 25
  have hw : Below w.heap.size w (w.alloc (.cells #[.int .i64 n, .slice a l c, .slice b m d] 25)) := (Below.refl _ _).alloc (Nat.le_refl _) _
  obtain ⟨c1, c2, c3, c4⟩ := hb
  go_enter Try.func13, Try.ntmps13
  go_wp2_with fail
  all_goals (go_ret; refine ⟨?_, hw⟩; first | exact ⟨_, rfl⟩ | exact .inl rfl | exact .inr rfl)
theorem OneS.cells {w0 : World} {H P g c : Nat} {T : TD} {vb : Value} {W : World} (h : OneS w0 H P T (.slice (some ⟨g, 0, none⟩) T.len c) vb W) {k : Nat} (hk : k < T.len) (h1 : T.len ≤ 1000) :
    (W.cell? ⟨g, k * 4, none⟩ = some (.int .i64 (T.op k).k) ∧ W.cell? ⟨g, k * 4 + 1, none⟩ = some (.int .i64 (T.op k).a) ∧ W.cell? ⟨g, k * 4 + 2, none⟩ = some (.int .i64 (T.op k).b) ∧ W.cell? ⟨g, k * 4 + 3, none⟩ = some (.float .f64 (T.op k).c)) ∧ ∀ o, W.frozen? ⟨g, o, none⟩ = false := by
  obtain ⟨a, cap, hv, hn, hc⟩ := ops_of_own h.ops (show T.len ≤ _ by omega)
  simp only [Value.slice.injEq] at hv
  obtain ⟨rfl, -, rfl⟩ := hv
  obtain ⟨b, off, he, hbs, hcell⟩ := hc (by omega)
  simp only [Option.some.injEq, Addr.mk.injEq] at he
  obtain ⟨rfl, rfl, -⟩ := he
  have hh := hcell k hk
  rw [Nat.zero_add] at hh
  exact ⟨hh, fun o => h.ops.frozenAt o⟩
theorem OneS.outs {w0 : World} {H P g c : Nat} {T : TD} {va : Value} {W : World} (h : OneS w0 H P T va (.slice (some ⟨g, 0, none⟩) T.lo c) W) {k : Nat} (hk : k < T.lo) (h1 : T.lo ≤ 1000) :
    W.cell? ⟨g, k, none⟩ = some (.int .i64 (T.out k)) ∧ ∀ o, W.frozen? ⟨g, o, none⟩ = false := by
  obtain ⟨a, cap, hv, hn, hc⟩ := ints_of_own h.ints (show T.lo ≤ _ by omega)
  simp only [Value.slice.injEq] at hv
  obtain ⟨rfl, -, rfl⟩ := hv
  obtain ⟨b, off, he, hbs, hcell⟩ := hc (by omega)
  simp only [Option.some.injEq, Addr.mk.injEq] at he
  obtain ⟨rfl, rfl, -⟩ := he
  have hh := hcell k hk
  rw [Nat.zero_add] at hh
  exact ⟨hh, fun o => h.ints.frozenAt o⟩
/-- How long the row in a tape's variable is. -/
def lenAt (w : World) (P : Nat) : Nat := match w.cell? ⟨P, 1, none⟩ with | some (.slice _ l _) => l | _ => 0
set_option maxRecDepth 100000 in
set_option maxHeartbeats 8000000 in
theorem tapeChecks_any (rcheck : ∀ (T : TD) (v : Value) (w : World), TapeAt w v T → Calls Try.prog 16 #[v] w (Tells (.bool (checkB T)) w)) (v0 : Value) (T0 : TD) (n : Int) (v1 : Value) (zs1 : List Int) (a3 a4 a5 : Int) (w : World) (h0 : TapeAt w v0 T0) (hn : -9223372036854775808 ≤ n ∧ n ≤ 9223372036854775807) (h1 : Intr w v1 zs1) (_ : -9223372036854775808 ≤ a3 ∧ a3 ≤ 9223372036854775807) (_ : -9223372036854775808 ≤ a4 ∧ a4 ≤ 9223372036854775807) (_ : -9223372036854775808 ≤ a5 ∧ a5 ≤ 9223372036854775807) :
    Calls Try.prog 3 #[v0, .int .i64 n, v1, .int .i64 a3, .int .i64 a4, .int .i64 a5] w fun e w' => e = .returned (.bool true) ∧ Below w.heap.size w w' := by
  have MK := Lib.hid (fun W (hW : Below w.heap.size w W) => makeT_tells n v1 zs1.length (fun i => zs1.getD i 0) true W (IntsF.below (show IntsF w v1 zs1.length (fun i => zs1.getD i 0) from Ints.read h1.1) hW) hn h1.2)
  have hT := check_make n (fun i => zs1.getD i 0) zs1.length true
  have hTl : (makeT n (fun i => zs1.getD i 0) zs1.length true).len ≤ 12 ∧ 1 ≤ (makeT n (fun i => zs1.getD i 0) zs1.length true).len ∧ (makeT n (fun i => zs1.getD i 0) zs1.length true).lo ≤ 3 ∧ 1 ≤ (makeT n (fun i => zs1.getD i 0) zs1.length true).lo := by
    have := Int.emod_nonneg n (show (3 : Int) ≠ 0 by decide)
    have := Int.emod_lt_of_pos n (show (0 : Int) < 3 by decide)
    show (1 + n % 3).toNat + 1 + min zs1.length 8 ≤ 12 ∧ 1 ≤ (1 + n % 3).toNat + 1 + min zs1.length 8 ∧ (1 + n % 3).toNat ≤ 3 ∧ 1 ≤ (1 + n % 3).toNat
    omega
  generalize makeT n (fun i => zs1.getD i 0) zs1.length true = T at *
  obtain ⟨tn, L, op, N, out⟩ := T
  simp only [] at hTl
  have HT := Lib.hid hT
  have H0 := Lib.hid h0
  obtain ⟨vo, vu, rfl, ⟨ra, rc, rfl, -⟩, ⟨rb, rd, rfl, -⟩⟩ := id h0
  generalize hgn : T0.n = n0 at *
  generalize hgl : T0.len = l0 at *
  generalize hgo : T0.lo = o0 at *
  have hbr := Box3.new n0 (.slice ra l0 rc) (.slice rb o0 rd) w 25
  have hwr : Below w.heap.size w (w.alloc (.cells #[.int .i64 n0, .slice ra l0 rc, .slice rb o0 rd] 25)) := (Below.refl _ _).alloc (Nat.le_refl _) _
  clear h1 h0 hT hgn hgl hgo
  go_enter Try.func3, Try.ntmps3
  go_wp2_with fail
  generalize hR0 : w.heap.size = R0 at *
  generalize w.alloc (.cells #[.int .i64 n0, .slice ra l0 rc, .slice rb o0 rd] 25) = W0 at *
  refine (known3_tells _).mono ?_
  rintro e w1 ⟨rfl, hb1⟩
  have hbr1 := hbr.below hb1
  have hw1 := hwr.trans (hb1.mono (by have := hbr.2.2.2; omega))
  clear hbr hwr hb1
  obtain ⟨r1, r2, r3, r4⟩ := id hbr1
  go_wp2_with fail
  refine (few_tells n0 ra rb l0 rc o0 rd w1).mono ?_
  rintro e w2 ⟨⟨q, rfl⟩, hb2⟩
  have hbr2 := hbr1.below hb2
  have hw2 := hw1.trans (hb2.mono (by omega))
  clear hb2 hw1 hbr1 r1 r2 r3 r4
  cases q with
  | false =>
    go_wp2_with fail
    go_ret
    exact ⟨rfl, by rw [hR0]; exact hw2⟩
  | true =>
    go_wp2_with fail
    refine (MK.out w2 hw2).mono ?_
    rintro e w3 ⟨ut, rfl, ht3, hb3⟩
    obtain ⟨va, vb, rfl, hops, hints, hab⟩ := ht3
    obtain ⟨ta, tc, rfl, hta⟩ := own_slice hops
    obtain ⟨tb, td, rfl, htb⟩ := own_slice hints
    obtain ⟨ga, rfl, -, -⟩ := hta (show 0 < L by omega)
    obtain ⟨gb, rfl, -, -⟩ := htb (show 0 < N by omega)
    clear hta htb
    simp only [] at hops hints hab
    have hs2 := hw2.size
    have hs3 := hb3.size
    have hw2' := hw2
    have hbr3 := hbr2.below hb3
    have hw3 := hw2.trans (hb3.mono (by omega))
    have hal : Below w3.heap.size w3 (w3.alloc (.cells #[.int .i64 tn, .slice (some ⟨ga, 0, none⟩) L tc, .slice (some ⟨gb, 0, none⟩) N td] 25)) := (Below.refl _ _).alloc (Nat.le_refl _) _
    have hM : OneS w2 w2.heap.size w3.heap.size (TD.mk tn L op N out) (.slice (some ⟨ga, 0, none⟩) L tc) (.slice (some ⟨gb, 0, none⟩) N td) (w3.alloc (.cells #[.int .i64 tn, .slice (some ⟨ga, 0, none⟩) L tc, .slice (some ⟨gb, 0, none⟩) N td] 25)) :=
      ⟨Box3.new tn _ _ w3 25, fun o => by simp [go_sem], own_below hops hal, own_below hints hal, fun e => by have := (hops.lt _ e).2; omega, fun e => by have := (hints.lt _ e).2; omega, hab, hs3, hb3.trans (hal.mono hs3)⟩
    have HM := Lib.hid hM
    have HR := Lib.hid (hbr3.below hal)
    have HW := Lib.hid (hw3.trans (hal.mono (by omega)))
    clear hM hal hops hints hab hb3 hbr2 hbr3 hw2 hw3 MK
    go_wp2_with fail
    generalize w3.alloc (.cells #[.int .i64 tn, .slice (some ⟨ga, 0, none⟩) L tc, .slice (some ⟨gb, 0, none⟩) N td] 25) = X at *
    generalize w3.heap.size = P at *
    clear w3 hs3
    have CKR := Lib.hid (fun W (hW : Below R0 w W) => check_tells T0 _ W (TapeAt.below H0.out (by rw [hR0]; exact hW)))
    have RKR := Lib.hid (fun W (hW : Below R0 w W) => rcheck T0 _ W (TapeAt.below H0.out (by rw [hR0]; exact hW)))
    have CKT := Lib.hid (fun W (hW : Below X.heap.size X W) => (check_tells (TD.mk tn L op N out) (.agg #[.int .i64 tn, .slice (some ⟨ga, 0, none⟩) L tc, .slice (some ⟨gb, 0, none⟩) N td]) W (by
      have h := HM.out.below hW
      exact ⟨_, _, rfl, ops_of_own h.ops (show L ≤ _ by omega), ints_of_own h.ints (show N ≤ _ by omega)⟩)).mono fun _ _ h => h.eq (by rw [HT.out]))
    refine wp_region_ordR [(0, 3), (2, 3), (1, 0), (3, 0), (4, 1), (5, 1), (6, 3), (7, 0), (8, 1), (9, 1)] (fun W => Below X.heap.size X W) (by kernel_rfl) (by kernel_rfl) (fun _ _ d _ _ h => by cases d <;> exact h) ((Below.refl _ _).drew) ?_
    intro Z hZ hbZ
    clear hZ
    refine wpOrd_keep (v := .agg #[.int .i64 n0, .slice ra l0 rc, .slice rb o0 rd]) rfl rfl (fun wk hwk => ?_) ?_
    · obtain ⟨k1, k2, k3, k4⟩ := HR.out.below hwk
      go_simp
    refine wpOrd_keep (v := .agg #[.int .i64 n0, .slice ra l0 rc, .slice rb o0 rd]) rfl rfl (fun wk hwk => ?_) ?_
    · obtain ⟨k1, k2, k3, k4⟩ := HR.out.below hwk
      go_simp
    have hRX : R0 ≤ X.heap.size := by have := HW.out.size; omega
    have hHX : w2.heap.size ≤ X.heap.size := HM.out.w.size
    have hBB := Lib.hid (fun W (hW : Below X.heap.size X W) => HW.out.trans (hW.mono hRX))
    refine wpOrd_doR (fun K hK => ?_)
    go_simp
    refine (CKR.out Z (hBB.out _ hbZ)).mono ?_
    rintro e wa ⟨rfl, hba⟩
    have hbA := hbZ.trans (hba.mono hbZ.size)
    refine hK _ _ (fun h => Bool.noConfusion (Eq.trans (Eq.symm (by kernel_rfl : _ = false)) h)) (fun _ => hbA) ?_
    clear hK K
    refine wpOrd_doR (fun K hK => ?_)
    go_simp
    refine (RKR.out wa (hBB.out _ hbA)).mono ?_
    rintro e wb ⟨rfl, hbb⟩
    have hbB := hbA.trans (hbb.mono hbA.size)
    refine hK _ _ (fun h => Bool.noConfusion (Eq.trans (Eq.symm (by kernel_rfl : _ = false)) h)) (fun _ => hbB) ?_
    clear hK K
    have hqq : (checkB T0 != checkB T0) = false := by simp
    generalize checkB T0 = q0 at *
    iterate 2
      first
        | refine wpOrd_pure (fun K hK => ?_)
        | refine wpOrd_take (fun K hK => ?_)
      go_simp
      refine hK _ ?_
      clear hK K
    refine wpOrd_keep (v := .agg #[.int .i64 tn, .slice (some ⟨ga, 0, none⟩) L tc, .slice (some ⟨gb, 0, none⟩) N td]) rfl rfl (fun wk hwk => ?_) ?_
    · obtain ⟨k1, k2, k3, k4⟩ := HM.out.b.below hwk
      go_simp
    refine wpOrd_doR (fun K hK => ?_)
    go_simp
    refine (CKT.out wb hbB).mono ?_
    rintro e wc ⟨rfl, hbc⟩
    have hbC := hbB.trans (hbc.mono hbB.size)
    refine hK _ _ (fun h => Bool.noConfusion (Eq.trans (Eq.symm (by kernel_rfl : _ = false)) h)) (fun _ => hbC) ?_
    clear hK K
    iterate 2
      first
        | refine wpOrd_pure (fun K hK => ?_)
        | refine wpOrd_take (fun K hK => ?_)
      go_simp
      refine hK _ ?_
      clear hK K
    refine wpOrd_nil ?_
    have HM2 := Lib.hid (HM.out.below hbC)
    have HW2 := Lib.hid (hBB.out _ hbC)
    clear hbZ hba hbA hbb hbB hbc hbC CKT CKR RKR HM HR hBB hqq
    obtain ⟨b1, b2, b3, b4⟩ := HM2.out.b
    have W9 := Lib.hid (fun W => within3_mod a4 L W (by omega) (by omega))
    have W8 := Lib.hid (fun W => within3_mod a3 8 W (by decide) (by decide))
    have m1 := Int.emod_nonneg a3 (show (8 : Int) ≠ 0 by decide)
    have m2 := Int.emod_lt_of_pos a3 (show (0 : Int) < 8 by decide)
    have m3 := Int.emod_nonneg a4 (show (L : Int) ≠ 0 by omega)
    have m4 := Int.emod_lt_of_pos a4 (show (0 : Int) < L by omega)
    obtain ⟨j, hj⟩ : ∃ j : Nat, (j : Int) = a4 % L := ⟨(a4 % L).toNat, by omega⟩
    have hjL : j < L := by omega
    go_wp2_with fail
    refine (W9.out _).mono ?_
    rintro e w' ⟨rfl, rfl⟩
    rw [← hj]
    clear hj m3 m4 W9
    go_wp2_with fail
    refine (W8.out _).mono ?_
    rintro e w' ⟨rfl, rfl⟩
    have h8 : a3 % 8 = 0 ∨ a3 % 8 = 1 ∨ a3 % 8 = 2 ∨ a3 % 8 = 3 ∨ a3 % 8 = 4 ∨ a3 % 8 = 5 ∨ a3 % 8 = 6 ∨ a3 % 8 = 7 := by omega
    generalize a3 % 8 = s at *
    clear W8 m1 m2
    go_upto_block 0 with fail
    go_cut [] (fun wx => SomeT w2 w2.heap.size P wx)
    case first =>
      rcases h8 with rfl | rfl | rfl | rfl | rfl | rfl | rfl | rfl
      · go_wp2_with fail
        refine wp_region_ordR [(0, 1), (1, 3), (2, 1), (3, 1), (4, 0), (5, 1), (6, 1), (7, 1), (8, 0)] (fun W => Below wc.heap.size wc W) (by kernel_rfl) (by kernel_rfl) (fun _ _ d _ _ h => by cases d <;> exact h) ((Below.refl _ _).drew) ?_
        intro Z hZ hbZ
        clear hZ
        iterate 1
          first
            | refine wpOrd_pure (fun K hK => ?_)
            | refine wpOrd_take (fun K hK => ?_)
          go_simp
          refine hK _ ?_
          clear hK K
        refine wpOrd_keep (v := .slice (some ⟨ga, 0, none⟩) L tc) rfl rfl (fun wk hwk => ?_) ?_
        · obtain ⟨k1, k2, k3, k4⟩ := HM2.out.b.below hwk
          go_simp
        iterate 2
          first
            | refine wpOrd_pure (fun K hK => ?_)
            | refine wpOrd_take (fun K hK => ?_)
          go_simp
          refine hK _ ?_
          clear hK K
        refine wpOrd_doR (fun K hK => ?_)
        go_simp
        refine (within3_mod a5 9 _ (by decide) (by decide)).mono ?_
        rintro e w' ⟨rfl, rfl⟩
        refine hK _ _ (fun h => Bool.noConfusion (Eq.trans (Eq.symm (by kernel_rfl : _ = false)) h)) (fun _ => hbZ) ?_
        clear hK K
        have y1 := Int.emod_nonneg a5 (show (9 : Int) ≠ 0 by decide)
        have y2 := Int.emod_lt_of_pos a5 (show (0 : Int) < 9 by decide)
        generalize a5 % 9 = y at *
        have yw : IntKind.i64.wrap (y - 1) = y - 1 := IntWalk.i64_in _ (by omega)
        have hMZ := HM2.out.below hbZ
        obtain ⟨⟨k1, k2, k3, k4⟩, kf⟩ := hMZ.cells (k := j) hjL (show L ≤ 1000 by omega)
        have HS := Lib.hid (hMZ.turnI (k := j) (r := 0) hjL (by omega) (y - 1) (show L ≤ 1000 by omega) (show N ≤ 1000 by omega))
        have kf0 := kf (j * 4)
        clear hMZ hbZ k2 k3 k4 kf
        iterate 3
          first
            | refine wpOrd_pure (fun K hK => ?_)
            | refine wpOrd_take (fun K hK => ?_)
          go_simp
          refine hK _ ?_
          clear hK K
        refine wpOrd_doR (fun K hK => ?_)
        go_simp
        refine hK _ _ (fun h => Bool.noConfusion (Eq.trans (Eq.symm (by kernel_rfl : _ = false)) h)) (fun h => Bool.noConfusion (Eq.trans (Eq.symm (by kernel_rfl : _ = false)) h)) ?_
        clear hK K
        refine wpOrd_nil ?_
        go_wp2_with fail
        go_meet
        exact HS.out
      · have lw : IntKind.i64.wrap ((L : Int) + 2) = (L : Int) + 2 := IntWalk.i64_in _ (by omega)
        go_wp2_with fail
        refine wp_region_ordR [(0, 1), (1, 3), (2, 1), (3, 1), (4, 1), (5, 3), (6, 1), (7, 1), (8, 0), (9, 1), (10, 1), (11, 1), (12, 0)] (fun W => Below wc.heap.size wc W) (by kernel_rfl) (by kernel_rfl) (fun _ _ d _ _ h => by cases d <;> exact h) ((Below.refl _ _).drew) ?_
        intro Z hZ hbZ
        clear hZ
        iterate 1
          first
            | refine wpOrd_pure (fun K hK => ?_)
            | refine wpOrd_take (fun K hK => ?_)
          go_simp
          refine hK _ ?_
          clear hK K
        refine wpOrd_keep (v := .slice (some ⟨ga, 0, none⟩) L tc) rfl rfl (fun wk hwk => ?_) ?_
        · obtain ⟨k1, k2, k3, k4⟩ := HM2.out.b.below hwk
          go_simp
        iterate 3
          first
            | refine wpOrd_pure (fun K hK => ?_)
            | refine wpOrd_take (fun K hK => ?_)
          go_simp
          refine hK _ ?_
          clear hK K
        refine wpOrd_keep (v := .slice (some ⟨ga, 0, none⟩) L tc) rfl rfl (fun wk hwk => ?_) ?_
        · obtain ⟨k1, k2, k3, k4⟩ := HM2.out.b.below hwk
          go_simp
        iterate 2
          first
            | refine wpOrd_pure (fun K hK => ?_)
            | refine wpOrd_take (fun K hK => ?_)
          go_simp
          refine hK _ ?_
          clear hK K
        refine wpOrd_doR (fun K hK => ?_)
        go_simp
        refine (within3_mod a5 ((L : Int) + 2) _ (by omega) (by omega)).mono ?_
        rintro e w' ⟨rfl, rfl⟩
        refine hK _ _ (fun h => Bool.noConfusion (Eq.trans (Eq.symm (by kernel_rfl : _ = false)) h)) (fun _ => hbZ) ?_
        clear hK K
        have y1 := Int.emod_nonneg a5 (show (L : Int) + 2 ≠ 0 by omega)
        have y2 := Int.emod_lt_of_pos a5 (show (0 : Int) < (L : Int) + 2 by omega)
        generalize a5 % ((L : Int) + 2) = y at *
        have yw : IntKind.i64.wrap (y - 1) = y - 1 := IntWalk.i64_in _ (by omega)
        have hMZ := HM2.out.below hbZ
        obtain ⟨⟨k1, k2, k3, k4⟩, kf⟩ := hMZ.cells (k := j) hjL (show L ≤ 1000 by omega)
        have HS := Lib.hid (hMZ.turnI (k := j) (r := 1) hjL (by omega) (y - 1) (show L ≤ 1000 by omega) (show N ≤ 1000 by omega))
        have kf0 := kf (j * 4 + 1)
        clear hMZ hbZ k1 k3 k4 kf
        iterate 3
          first
            | refine wpOrd_pure (fun K hK => ?_)
            | refine wpOrd_take (fun K hK => ?_)
          go_simp
          refine hK _ ?_
          clear hK K
        refine wpOrd_doR (fun K hK => ?_)
        go_simp
        refine hK _ _ (fun h => Bool.noConfusion (Eq.trans (Eq.symm (by kernel_rfl : _ = false)) h)) (fun h => Bool.noConfusion (Eq.trans (Eq.symm (by kernel_rfl : _ = false)) h)) ?_
        clear hK K
        refine wpOrd_nil ?_
        go_wp2_with fail
        go_meet
        exact HS.out
      · have jw : IntKind.i64.wrap ((j : Int) - 1) = (j : Int) - 1 := IntWalk.i64_in _ (by omega)
        have y1 := Int.emod_nonneg a5 (show (4 : Int) ≠ 0 by decide)
        have y2 := Int.emod_lt_of_pos a5 (show (0 : Int) < 4 by decide)
        obtain ⟨y, hy⟩ : ∃ y : Nat, (y : Int) = a5 % 4 := ⟨(a5 % 4).toNat, by omega⟩
        have hy4 : y < 4 := by omega
        have hy4i : (y : Int) < 4 := by omega
        have WM := Lib.hid (fun W => (within3_mod a5 4 W (by decide) (by decide)).mono fun _ _ (h : _ = Ending.returned (.int .i64 (a5 % 4)) ∧ _) => (show _ = Ending.returned (.int .i64 (y : Int)) ∧ _ by rw [hy]; exact h))
        have hz : ∃ z : Int, ∀ W : World, (W.alloc (.cells #[.int .i64 a5, .int .i64 j, .int .i64 ((j : Int) - 1), .int .i64 0] 3)).cell? ⟨W.heap.size, y, none⟩ = some (.int .i64 z) := by
          have : y = 0 ∨ y = 1 ∨ y = 2 ∨ y = 3 := by omega
          rcases this with rfl | rfl | rfl | rfl
          · exact ⟨_, fun W => by rw [World.cell?_alloc_new]; rfl⟩
          · exact ⟨_, fun W => by rw [World.cell?_alloc_new]; rfl⟩
          · exact ⟨_, fun W => by rw [World.cell?_alloc_new]; rfl⟩
          · exact ⟨_, fun W => by rw [World.cell?_alloc_new]; rfl⟩
        obtain ⟨z, hz⟩ := hz
        clear hy y1 y2
        obtain ⟨⟨k1, k2, k3, k4⟩, kf⟩ := HM2.out.cells (k := j) hjL (show L ≤ 1000 by omega)
        have kf0 := kf (j * 4 + 2)
        clear kf k1 k2 k4
        have hbz := fun O => HM2.out.below (((Below.refl wc.heap.size wc).alloc (Nat.le_refl _) O).drew)
        have hcz : ∀ O, ((wc.alloc O).drew).cell? ⟨ga, j * 4 + 2, none⟩ = some (.int .i64 (op j).b) := fun O => ((hbz O).cells (k := j) hjL (show L ≤ 1000 by omega)).1.2.2.1
        have hfz : ∀ O, ((wc.alloc O).drew).frozen? ⟨ga, j * 4 + 2, none⟩ = false := fun O => ((hbz O).cells (k := j) hjL (show L ≤ 1000 by omega)).2 _
        have HS := Lib.hid (fun W (hW : Below wc.heap.size wc W) => (HM2.out.below hW).turnI (k := j) (r := 2) hjL (by omega) z (show L ≤ 1000 by omega) (show N ≤ 1000 by omega))
        clear hbz
        go_wp2_with fail
        go_region_law (first
          | (go_at_call 17; refine (WM.out _).mono ?_; rintro e w' ⟨rfl, rfl⟩; dsimp only)
          | (go_simp; go_at_call 17; refine (WM.out _).mono ?_; rintro e w' ⟨rfl, rfl⟩; dsimp only))
        all_goals
          go_wp2_with fail
          go_meet
          exact HS.out _ (((Below.refl _ _).alloc (Nat.le_refl _) _).drew)
      · go_wp2_with fail
        refine wp_region_ordR [(0, 1), (1, 3), (2, 1), (3, 1), (4, 0), (5, 1), (6, 1), (7, 0)] (fun W => Below wc.heap.size wc W) (by kernel_rfl) (by kernel_rfl) (fun _ _ d _ _ h => by cases d <;> exact h) ((Below.refl _ _).drew) ?_
        intro Z hZ hbZ
        clear hZ
        iterate 1
          first
            | refine wpOrd_pure (fun K hK => ?_)
            | refine wpOrd_take (fun K hK => ?_)
          go_simp
          refine hK _ ?_
          clear hK K
        refine wpOrd_keep (v := .slice (some ⟨ga, 0, none⟩) L tc) rfl rfl (fun wk hwk => ?_) ?_
        · obtain ⟨k1, k2, k3, k4⟩ := HM2.out.b.below hwk
          go_simp
        iterate 2
          first
            | refine wpOrd_pure (fun K hK => ?_)
            | refine wpOrd_take (fun K hK => ?_)
          go_simp
          refine hK _ ?_
          clear hK K
        refine wpOrd_doR (fun K hK => ?_)
        go_simp
        refine (rare_tells a5 _).mono ?_
        rintro e w' ⟨⟨x, rfl, hx⟩, hbx⟩
        have hbA := hbZ.trans (hbx.mono hbZ.size)
        refine hK _ _ (fun h => Bool.noConfusion (Eq.trans (Eq.symm (by kernel_rfl : _ = false)) h)) (fun _ => hbA) ?_
        clear hK K
        have hMZ := HM2.out.below hbA
        obtain ⟨⟨k1, k2, k3, k4⟩, kf⟩ := hMZ.cells (k := j) hjL (show L ≤ 1000 by omega)
        have HS := Lib.hid (hMZ.turnC (k := j) hjL x (show L ≤ 1000 by omega) (show N ≤ 1000 by omega))
        have kf0 := kf (j * 4 + 3)
        clear hMZ hbZ hbA hbx k1 k2 k3 kf
        iterate 2
          first
            | refine wpOrd_pure (fun K hK => ?_)
            | refine wpOrd_take (fun K hK => ?_)
          go_simp
          refine hK _ ?_
          clear hK K
        refine wpOrd_doR (fun K hK => ?_)
        go_simp
        refine hK _ _ (fun h => Bool.noConfusion (Eq.trans (Eq.symm (by kernel_rfl : _ = false)) h)) (fun h => Bool.noConfusion (Eq.trans (Eq.symm (by kernel_rfl : _ = false)) h)) ?_
        clear hK K
        refine wpOrd_nil ?_
        go_wp2_with fail
        go_meet
        exact HS.out
      · have lw : IntKind.i64.wrap ((L : Int) + 2) = (L : Int) + 2 := IntWalk.i64_in _ (by omega)
        go_wp2_with fail
        refine wp_region_ordR [(0, 1), (1, 3), (2, 1), (3, 1), (4, 3), (5, 1), (7, 1), (8, 1), (9, 3), (10, 1), (11, 1), (6, 0), (12, 0), (13, 1), (14, 1), (15, 0)] (fun W => Below wc.heap.size wc W) (by kernel_rfl) (by kernel_rfl) (fun _ _ d _ _ h => by cases d <;> exact h) ((Below.refl _ _).drew) ?_
        intro Z hZ hbZ
        clear hZ
        iterate 1
          first
            | refine wpOrd_pure (fun K hK => ?_)
            | refine wpOrd_take (fun K hK => ?_)
          go_simp
          refine hK _ ?_
          clear hK K
        refine wpOrd_keep (v := .slice (some ⟨gb, 0, none⟩) N td) rfl rfl (fun wk hwk => ?_) ?_
        · obtain ⟨k1, k2, k3, k4⟩ := HM2.out.b.below hwk
          go_simp
        iterate 2
          first
            | refine wpOrd_pure (fun K hK => ?_)
            | refine wpOrd_take (fun K hK => ?_)
          go_simp
          refine hK _ ?_
          clear hK K
        refine wpOrd_keep (v := .slice (some ⟨gb, 0, none⟩) N td) rfl rfl (fun wk hwk => ?_) ?_
        · obtain ⟨k1, k2, k3, k4⟩ := HM2.out.b.below hwk
          go_simp
        iterate 3
          first
            | refine wpOrd_pure (fun K hK => ?_)
            | refine wpOrd_take (fun K hK => ?_)
          go_simp
          refine hK _ ?_
          clear hK K
        refine wpOrd_keep (v := .slice (some ⟨ga, 0, none⟩) L tc) rfl rfl (fun wk hwk => ?_) ?_
        · obtain ⟨k1, k2, k3, k4⟩ := HM2.out.b.below hwk
          go_simp
        iterate 2
          first
            | refine wpOrd_pure (fun K hK => ?_)
            | refine wpOrd_take (fun K hK => ?_)
          go_simp
          refine hK _ ?_
          clear hK K
        refine wpOrd_doR (fun K hK => ?_)
        go_simp
        refine (within3_mod a4 (N : Int) _ (by omega) (by omega)).mono ?_
        rintro e w' ⟨rfl, rfl⟩
        refine hK _ _ (fun h => Bool.noConfusion (Eq.trans (Eq.symm (by kernel_rfl : _ = false)) h)) (fun _ => hbZ) ?_
        clear hK K
        have x1 := Int.emod_nonneg a4 (show (N : Int) ≠ 0 by omega)
        have x2 := Int.emod_lt_of_pos a4 (show (0 : Int) < (N : Int) by omega)
        obtain ⟨i, hi⟩ : ∃ i : Nat, (i : Int) = a4 % N := ⟨(a4 % N).toNat, by omega⟩
        rw [← hi]
        have hiN : i < N := by omega
        clear hi x1 x2
        refine wpOrd_doR (fun K hK => ?_)
        go_simp
        refine (within3_mod a5 ((L : Int) + 2) _ (by omega) (by omega)).mono ?_
        rintro e w' ⟨rfl, rfl⟩
        refine hK _ _ (fun h => Bool.noConfusion (Eq.trans (Eq.symm (by kernel_rfl : _ = false)) h)) (fun _ => hbZ) ?_
        clear hK K
        have y1 := Int.emod_nonneg a5 (show (L : Int) + 2 ≠ 0 by omega)
        have y2 := Int.emod_lt_of_pos a5 (show (0 : Int) < (L : Int) + 2 by omega)
        generalize a5 % ((L : Int) + 2) = y at *
        have yw : IntKind.i64.wrap (y - 1) = y - 1 := IntWalk.i64_in _ (by omega)
        have hMZ := HM2.out.below hbZ
        obtain ⟨k1, kf⟩ := hMZ.outs (k := i) hiN (show N ≤ 1000 by omega)
        have HS := Lib.hid (hMZ.turnO (k := i) hiN (y - 1) (show L ≤ 1000 by omega) (show N ≤ 1000 by omega))
        have kf0 := kf i
        clear hMZ hbZ kf
        iterate 2
          first
            | refine wpOrd_pure (fun K hK => ?_)
            | refine wpOrd_take (fun K hK => ?_)
          go_simp
          refine hK _ ?_
          clear hK K
        refine wpOrd_doR (fun K hK => ?_)
        go_simp
        refine hK _ _ (fun h => Bool.noConfusion (Eq.trans (Eq.symm (by kernel_rfl : _ = false)) h)) (fun h => Bool.noConfusion (Eq.trans (Eq.symm (by kernel_rfl : _ = false)) h)) ?_
        clear hK K
        refine wpOrd_nil ?_
        go_wp2_with fail
        go_meet
        exact HS.out
      · obtain ⟨i3, gi, gz0, gz1, gz2⟩ := info_parts info3
        have GI := Lib.hid (show i3.zero = _ ∧ i3.size = _ ∧ i3.bytes = _ from ⟨gz0, gz1, gz2⟩)
        have GI0 := Lib.hid gi
        clear gi gz0 gz1 gz2
        have hhs : w2.heap.size ≤ wc.heap.size := HM2.out.w.size
        go_wp2_with (first
          | (at_builtin; refine wpList_append_own_at _ rfl _ _ 23 rfl w2.heap.size 3 i3 (.int .i64 0) 1 8 Try.underlying23 GI0.out GI.out.1 GI.out.2.1 GI.out.2.2 rfl (by decide) (.slice (some ⟨gb, 0, none⟩) N td) N (intsL out N) rfl (HM2.out.ints.alloc _) ⟨wc.heap.size, 0, none⟩ 1 1 [.int .i64 0] rfl rfl (news1 wc (.int .i64 0) 3 0) (by simp [Value.oneCell']) (by unfold maxLen; omega) (by omega) (size_alloc _ _ 0 (by omega)) ?_)
          | go_in)
        intro v' w4 hown hgrow _ hob
        obtain ⟨gg, cap1, rfl, hgl⟩ := hown.form (by omega)
        have hsA : (wc.alloc (.cells #[.int .i64 0] 3)).heap.size = wc.heap.size + 1 := by simp
        have hMA := HM2.out.below ((Below.refl wc.heap.size wc).alloc (Nat.le_refl _) (.cells #[.int .i64 0] 3))
        have HS := Lib.hid (hMA.appO hgrow hown (by
          rcases hob with e | e
          · left; rw [← e]; rfl
          · right; rw [hsA]; simpa [Value.ownBlock] using e) (show L ≤ 1000 by omega) (show N ≤ 900 by omega))
        have hbP := hgrow.block P (by have := hMA.b.2.2.2; omega) (fun e => hMA.nb e.symm)
        have z1 := (World.cell?_of_block (a := ⟨P, 2, none⟩) hbP).trans hMA.b.2.2.1
        have z2 := (World.frozen?_of_block (a := ⟨P, 2, none⟩) hbP).trans (hMA.fr 2)
        clear hown hgrow hob hMA hbP
        go_wp2_with fail
        go_meet
        exact HS.out
      · have kf0 := HM2.out.fr 0
        go_wp2_with fail
        refine (within3_mod a5 7 _ (by decide) (by decide)).mono ?_
        rintro e w' ⟨rfl, rfl⟩
        have y1 := Int.emod_nonneg a5 (show (7 : Int) ≠ 0 by decide)
        have y2 := Int.emod_lt_of_pos a5 (show (0 : Int) < 7 by decide)
        generalize a5 % 7 = y at *
        have yw : IntKind.i64.wrap (y - 1) = y - 1 := IntWalk.i64_in _ (by omega)
        have HS := Lib.hid (HM2.out.turnN (y - 1) (show L ≤ 1000 by omega) (show N ≤ 1000 by omega))
        go_wp2_with fail
        go_meet
        exact HS.out
      · have y1 := Int.emod_nonneg a5 (show (4 : Int) ≠ 0 by decide)
        have y2 := Int.emod_lt_of_pos a5 (show (0 : Int) < 4 by decide)
        have WM := Lib.hid (fun W => within3_mod a5 4 W (by decide) (by decide))
        generalize a5 % 4 = y at *
        have yw : IntKind.i64.wrap (59 + y) = 59 + y := IntWalk.i64_in _ (by omega)
        obtain ⟨i55, gi, gz0, gz1, gz2⟩ := info_parts info55
        have GI := Lib.hid (show i55.zero = _ ∧ i55.size = _ ∧ i55.bytes = _ from ⟨gz0, gz1, gz2⟩)
        have GI0 := Lib.hid gi
        clear gi gz0 gz1 gz2 b1 b2 b3 b4
        go_wp2_with fail
        go_loopw [] (fun wr => ∃ (T' : TD) (g c : Nat), 1 ≤ T'.len ∧ T'.len ≤ 62 ∧ T'.lo = N ∧ OneS w2 w2.heap.size P T' (.slice (some ⟨g, 0, none⟩) T'.len c) (.slice (some ⟨gb, 0, none⟩) N td) wr) (fun wr => 70 - lenAt wr P)
        case atStart => exact ⟨⟨tn, L, op, N, out⟩, ga, tc, hTl.2.1, by have := hTl.1; show L ≤ 62; omega, rfl, HM2.out⟩
        case round =>
          obtain ⟨⟨n3, L3, op3, N3, out3⟩, g, c, hL1, hL2, hN3, hm⟩ := hrel
          simp only [] at hL1 hL2 hN3
          subst hN3
          clear HM2
          have HMr := Lib.hid hm
          have hl1 : lenAt wr P = L3 := by unfold lenAt; rw [hm.b.2.1]
          clear hm
          go_wp2_with fail
          refine wp_region_ordR [(0, 1), (1, 3), (2, 1), (3, 1), (4, 0), (5, 1), (6, 1)] (fun W => Below wr.heap.size wr W) (by kernel_rfl) (by kernel_rfl) (fun _ _ d _ _ h => by cases d <;> exact h) ((Below.refl _ _).drew) ?_
          intro Z hZ hbZ
          clear hZ
          iterate 1
            first
              | refine wpOrd_pure (fun K hK => ?_)
              | refine wpOrd_take (fun K hK => ?_)
            go_simp
            refine hK _ ?_
            clear hK K
          refine wpOrd_keep (v := .slice (some ⟨g, 0, none⟩) L3 c) rfl rfl (fun wk hwk => ?_) ?_
          · obtain ⟨k1, k2, k3, k4⟩ := HMr.out.b.below hwk
            go_simp
          iterate 2
            first
              | refine wpOrd_pure (fun K hK => ?_)
              | refine wpOrd_take (fun K hK => ?_)
            go_simp
            refine hK _ ?_
            clear hK K
          refine wpOrd_doR (fun K hK => ?_)
          go_simp
          refine (WM.out _).mono ?_
          rintro e w' ⟨rfl, rfl⟩
          refine hK _ _ (fun h => Bool.noConfusion (Eq.trans (Eq.symm (by kernel_rfl : _ = false)) h)) (fun _ => hbZ) ?_
          clear hK K
          iterate 2
            first
              | refine wpOrd_pure (fun K hK => ?_)
              | refine wpOrd_take (fun K hK => ?_)
            go_simp
            refine hK _ ?_
            clear hK K
          refine wpOrd_nil ?_
          have HMZ := Lib.hid (HMr.out.below hbZ)
          by_cases hlt : (L3 : Int) < 59 + y
          · obtain ⟨k1, k2, k3, k4⟩ := HMZ.out.b
            have hhs : w2.heap.size ≤ Z.heap.size := HMZ.out.w.size
            go_wp2_with (first
              | (at_builtin; refine wpList_append_own_at _ rfl _ _ 22 rfl w2.heap.size 32 i55 (.agg #[.int .i64 0, .int .i64 0, .int .i64 0, .float .f64 0]) 4 32 Try.underlying22 GI0.out GI.out.1 GI.out.2.1 GI.out.2.2 rfl (by decide) (.slice (some ⟨g, 0, none⟩) L3 c) L3 (opsL op3 L3) rfl (HMZ.out.ops.alloc _) ⟨Z.heap.size, 0, none⟩ 1 1 [.int .i64 1, .int .i64 0, .int .i64 0, .float .f64 0] rfl rfl (World.news_of_block (cs := #[.int .i64 1, .int .i64 0, .int .i64 0, .float .f64 0]) (t := 32) (fr := (0, 0)) (heap_alloc_new Z _)) (by simp [Value.oneCell']) (by unfold maxLen; omega) (by omega) (by simp; omega) ?_)
              | go_in)
            intro v' w4 hown hgrow _ hob
            obtain ⟨gg, cap1, rfl, hgl⟩ := hown.form (by omega)
            have hsA : (Z.alloc (.cells #[.int .i64 1, .int .i64 0, .int .i64 0, .float .f64 0] 32)).heap.size = Z.heap.size + 1 := by simp
            have hMA := HMZ.out.below ((Below.refl Z.heap.size Z).alloc (Nat.le_refl _) (.cells #[.int .i64 1, .int .i64 0, .int .i64 0, .float .f64 0] 32))
            obtain ⟨T', e1, e2, e3, hS⟩ := hMA.appA hgrow hown (by
              rcases hob with e | e
              · left; rw [← e]; rfl
              · right; rw [hsA]; simpa [Value.ownBlock] using e)
            have HS := Lib.hid hS
            have hbP := hgrow.block P (by have := hMA.b.2.2.2; omega) (fun e => hMA.na e.symm)
            have z1 := (World.cell?_of_block (a := ⟨P, 1, none⟩) hbP).trans hMA.b.2.1
            have z2 := (World.frozen?_of_block (a := ⟨P, 1, none⟩) hbP).trans (hMA.fr 1)
            clear hown hgrow hob hMA hbP hS k1 k2 k3 k4
            go_wp2_with fail
            go_roundw
            case rel => exact ⟨T', gg, cap1, by rw [e2]; omega, by rw [e2]; simp only []; omega, e3, by rw [e2]; exact HS.out⟩
            case measure =>
              have hl2 : lenAt (w4.setCell ⟨P, 1, none⟩ (.slice (some ⟨gg, 0, none⟩) (L3 + 1) cap1)) P = L3 + 1 := by unfold lenAt; rw [HS.out.b.2.1]
              rw [hl1, hl2]
              omega
          · go_wp2_with fail
            go_meet
            exact HMZ.out.isT (show L3 ≤ 1000 by omega) (show N3 ≤ 1000 by omega)
    case rest =>
      obtain ⟨T', vo', vu', hb', ht', hw'⟩ := hcut
      obtain ⟨xo, xu, he, ho, hu⟩ := id ht'
      simp only [Value.agg.injEq, Array.mk.injEq, List.cons.injEq, and_true, true_and] at he
      obtain ⟨rfl, rfl⟩ := he
      obtain ⟨pa, pc, rfl, -⟩ := id ho
      obtain ⟨pb, pd, rfl, -⟩ := id hu
      have hwX := HW2.out.size
      have HB := Lib.hid hb'
      have HT2 := Lib.hid ht'
      have HWX := Lib.hid hw'
      clear ho hu hb' ht' hw' h8 HM2 b1 b2 b3 b4
      generalize T'.n = n' at *
      generalize T'.len = l' at *
      generalize T'.lo = o' at *
      go_wp2_with fail
      refine wp_region_ordR [(0, 3), (2, 3), (1, 0), (3, 0), (4, 1), (5, 1)] (fun W => Below wc.heap.size wc W) (by kernel_rfl) (by kernel_rfl) (fun _ _ d _ _ h => by cases d <;> exact h) ((Below.refl _ _).drew) ?_
      intro Z hZ hbZ
      clear hZ
      refine wpOrd_keep (v := .agg #[.int .i64 n', .slice pa l' pc, .slice pb o' pd]) rfl rfl (fun wk hwk => ?_) ?_
      · obtain ⟨k1, k2, k3, k4⟩ := HB.out.below hwk
        go_simp
      refine wpOrd_keep (v := .agg #[.int .i64 n', .slice pa l' pc, .slice pb o' pd]) rfl rfl (fun wk hwk => ?_) ?_
      · obtain ⟨k1, k2, k3, k4⟩ := HB.out.below hwk
        go_simp
      refine wpOrd_doR (fun K hK => ?_)
      go_simp
      refine (check_tells T' _ Z (HT2.out.below hbZ)).mono ?_
      rintro e wa ⟨rfl, hba⟩
      have hbA := hbZ.trans (hba.mono hbZ.size)
      refine hK _ _ (fun h => Bool.noConfusion (Eq.trans (Eq.symm (by kernel_rfl : _ = false)) h)) (fun _ => hbA) ?_
      clear hK K
      refine wpOrd_doR (fun K hK => ?_)
      go_simp
      refine (rcheck T' _ wa (HT2.out.below hbA)).mono ?_
      rintro e wb ⟨rfl, hbb⟩
      have hbB := hbA.trans (hbb.mono hbA.size)
      refine hK _ _ (fun h => Bool.noConfusion (Eq.trans (Eq.symm (by kernel_rfl : _ = false)) h)) (fun _ => hbB) ?_
      clear hK K
      have hqq : (checkB T' == checkB T') = true := by simp
      generalize checkB T' = q1 at *
      iterate 2
        first
          | refine wpOrd_pure (fun K hK => ?_)
          | refine wpOrd_take (fun K hK => ?_)
        go_simp
        refine hK _ ?_
        clear hK K
      refine wpOrd_nil ?_
      go_wp2_with fail
      go_ret
      exact ⟨rfl, by rw [hR0]; exact hw2'.trans ((HWX.out.trans (hbB.mono (by have := HWX.out.size; omega))).mono (by omega))⟩
end Go.Proofs.Yticbgaflhiokgaa
