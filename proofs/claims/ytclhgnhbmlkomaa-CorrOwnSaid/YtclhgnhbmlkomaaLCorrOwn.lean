/-
  Texts laid together.
-/
import Derived.Test.YtclhgnhbmlkomaaCw
import Derived.Test.YtclhgnhbmlkomaaRo
import Derived.Test.YtclhgnhbmlkomaaNmk
import Derived.Test.YtclhgnhbmlkomaaLrd
import Derived.Test.YtclhgnhbmlkomaaInr
import Derived.Test.YtclhgnhbmlkomaaTmo
import Derived.Test.YtclhgnhbmlkomaaTpo
import Derived.Test.YtclhgnhbmlkomaaRows
import Derived.WalkKit
import Derived.WalkLawsBesides
import Derived.ProofKit
import Derived.OpenShut
import Derived.Carry
/-
  The law: rows, numbers, weights are not changed; asked again it is told alike: walked.
-/
namespace Go.Proofs.Ytclhgnhbmlkomaa
open Go.RowKit
open Ieee (double)
attribute [local go_sem] alloc_drewN setCell_drewN call_bits call_frombits ord_lt ord_eq ord_gt ord_ne ord_le ord_ge eqB_self run_fadd run_fsub run_fmul run_fquo haStoreFlt takeOp pureOp readsUpon doOp run_store_fn run_store_fc run_store_slice

theorem known9o (w : World) : Calls Try.prog 14 #[] w (Tells (.bool true) w) :=
  (Ex.run_law (V := Ex.adV []) mixed namesAll Ex.gam_nil (ctrB_ok (Ex.adV_ok []) (t := []) (fun _ _ _ h => by cases h)) known_run (vs := #[]) trivial w).mono fun _ _ h => h
theorem ints_F9 {w : World} {v : Value} {zs : List Int} (h : Ints w v zs) : IntsF w v zs.length (fun i => zs.getD i 0) := by
  rcases h with ⟨o, cap, rfl, rfl⟩ | ⟨b, off, cap, rfl, hbs, hl, hc⟩
  · exact ⟨o, cap, by simp, by simp, fun h => by simp at h⟩
  · exact ⟨_, cap, rfl, hl, fun _ => ⟨b, off, rfl, hbs, hc⟩⟩
theorem lawWithin9 (a n : Int) (w : World) (h1 : 1 ≤ n) (h2 : n ≤ 9223372036854775807) :
    Calls Try.prog 16 #[.int .i64 a, .int .i64 n] w fun e w' => e = .returned (.int .i64 (a % n)) ∧ w = w' := by
  have h2' := Int.emod_nonneg a (show n ≠ 0 by omega)
  have h3 := Int.emod_lt_of_pos a (show 0 < n by omega)
  have h := emod_of_tmod (a := a) h1
  have H := Lib.hid h
  clear h
  go_enter Try.func16, Try.ntmps16
  go_wp2
  · go_ret
    refine ⟨?_, rfl⟩
    have := H.out.1 (by assumption)
    exact ret_int (by rw [this]; unfold wrap64; omega)
  · go_ret
    refine ⟨?_, rfl⟩
    exact ret_int (H.out.2 (by assumption))
/-- A step of either kind. -/
theorem corr_any (n : Nat) (T : TD) (vo vu vz vl vw : Value) (m k M : Nat) (z : Nat → Nat → Nat) (l wt : Nat → Nat) (w : World) (hx : CtxAt w n T vo vu vz vl vw m z l wt)
    (hck : checkB T = true) (hcs : ∀ i, (T.op i).c < 18446744073709551616) (hn : T.n = n) (h1 : 1 ≤ n) (h4 : n ≤ 4) (hm : 2 ≤ m) (hk : k < 43) (hM : M < 2) :
    Calls Try.prog 20 #[.agg #[.int .i64 n, vo, vu], vz, vl, .int .i64 ((2 ^ k : Nat) : Int), .int .i64 M, vw] w (SumT n (corrF T z wt (l 0) (lenF ((2 ^ k : Nat) : Int)) n (M == 1)) w) := by
  rcases (show M = 0 ∨ M = 1 by omega) with rfl | rfl
  · exact corr_adams n T vo vu vz vl vw m k z l wt w hx hck (fun i _ => hcs i) hn h1 h4 hm hk
  · exact corr_bdf n T vo vu vz vl vw m k z l wt w hx hck (fun i _ => hcs i) hn h1 h4 hm hk
/-- What is told, with a row of its own, or of none. -/
def SumV (d : Nat) (S : SumD) (w : World) (e : Ending) (w' : World) : Prop :=
  Below w.heap.size w w' ∧ ∃ (R : Nat) (p : Option Addr), e = .returned (.agg #[.slice p d d, .int .i64 S.tries, .int .i64 S.e]) ∧ FRow w' (.slice p d d) d S.d ∧ w.heap.size ≤ R ∧ (∀ k, k < 10 → R ≠ w'.heap.size + k) ∧ (0 < d → p = some ⟨R, 0, none⟩ ∧ OwnF w' w.heap.size R d d S.d)
theorem SumT.v {n : Nat} {S : SumD} {w : World} {e : Ending} {w' : World} (h : SumT n S w e w') (hn : n ≤ 4) : SumV (if S.has then n else 0) S w e w' := by
  obtain ⟨hb, h⟩ := h
  rcases h with ⟨hh, R, rfl, ho⟩ | ⟨hh, rfl⟩
  · rw [hh]
    exact ⟨hb, R, _, rfl, ho.flts (by omega), ho.lt.1, fun k _ => by have := ho.lt.2; omega, fun _ => ⟨rfl, ho⟩⟩
  · rw [hh]
    exact ⟨hb, w'.heap.size + 10, _, rfl, ⟨_, _, rfl, by simp, fun h0 => absurd h0 (by simp)⟩, by have := hb.size; omega, fun k hk => by omega, fun h0 => absurd h0 (by simp)⟩
theorem shl_step : ∀ S : Nat, S < 10 → wrap64 (2 ^ (10 + S)) = ((2 ^ (10 + S) : Nat) : Int) := by decide +kernel
set_option maxRecDepth 100000 in
set_option maxHeartbeats 8000000 in
theorem corrOwn_any (n : Int) (v1 : Value) (zs1 : List Int) (v2 : Value) (zs2 : List Int) (st mt by_ : Int) (w : World) (hn : -9223372036854775808 ≤ n ∧ n ≤ 9223372036854775807) (h1 : Intr w v1 zs1) (h2 : Intr w v2 zs2) (_ : -9223372036854775808 ≤ st ∧ st ≤ 9223372036854775807) (_ : -9223372036854775808 ≤ mt ∧ mt ≤ 9223372036854775807) (_ : -9223372036854775808 ≤ by_ ∧ by_ ≤ 9223372036854775807) :
    Calls Try.prog 12 #[.int .i64 n, v1, v2, .int .i64 st, .int .i64 mt, .int .i64 by_] w fun e w' => e = .returned (.bool true) ∧ Below w.heap.size w w' := by
  have MK := Lib.hid (fun W (hW : Below w.heap.size w W) => makeT_tells n v1 zs1.length (fun i => zs1.getD i 0) false W ((ints_F9 h1.1).below hW) hn h1.2)
  have hT := check_make n (fun i => zs1.getD i 0) zs1.length false
  have hTc : ∀ i, ((makeT n (fun i => zs1.getD i 0) zs1.length false).op i).c < 18446744073709551616 := fun i => opAt_c _ _ _ _
  have hTn : (makeT n (fun i => zs1.getD i 0) zs1.length false).n = 1 + n % 3 := rfl
  have hTl : (makeT n (fun i => zs1.getD i 0) zs1.length false).len ≤ 60 := (by
    have := Int.emod_nonneg n (show (3 : Int) ≠ 0 by decide)
    have := Int.emod_lt_of_pos n (show (0 : Int) < 3 by decide)
    show (1 + n % 3).toNat + 1 + min zs1.length 8 ≤ 60
    omega)
  generalize makeT n (fun i => zs1.getD i 0) zs1.length false = T at *
  obtain ⟨N, hN⟩ : ∃ N : Nat, (N : Int) = 1 + n % 3 := ⟨(1 + n % 3).toNat, by have := Int.emod_nonneg n (show (3 : Int) ≠ 0 by decide); omega⟩
  have hN3 : 1 ≤ N ∧ N ≤ 3 := by
    have := Int.emod_nonneg n (show (3 : Int) ≠ 0 by decide)
    have := Int.emod_lt_of_pos n (show (0 : Int) < 3 by decide)
    omega
  rw [← hN] at hTn
  have hlo := checkB_lo hT hTn
  have HTN := Lib.hid hTn
  have HTC := Lib.hid hTc
  have HTK := Lib.hid hT
  have HTL := Lib.hid hTl
  have HTO := Lib.hid hlo.1
  have MZ := Lib.hid (fun W (hW : Below w.heap.size w W) => make8_tells 2 (by omega) ((N : Int) - 1) N (by omega) v2 zs2.length (fun i => zs2.getD i 0) W ((ints_F9 h2.1).below hW))
  generalize zF zs2.length (fun i => zs2.getD i 0) N = ZF at *
  obtain ⟨M, hM⟩ : ∃ M : Nat, (M : Int) = mt % 2 := ⟨(mt % 2).toNat, by have := Int.emod_nonneg mt (show (2 : Int) ≠ 0 by decide); omega⟩
  have hM2 : M < 2 := by have := Int.emod_lt_of_pos mt (show (0 : Int) < 2 by decide); omega
  obtain ⟨S, hS⟩ : ∃ S : Nat, (S : Int) = st % 10 := ⟨(st % 10).toNat, by have := Int.emod_nonneg st (show (10 : Int) ≠ 0 by decide); omega⟩
  have hS2 : S < 10 := by have := Int.emod_lt_of_pos st (show (0 : Int) < 10 by decide); omega
  have WM := Lib.hid (fun W => (lawWithin9 mt 2 W (by decide) (by decide)).mono fun _ _ (h : _ = Ending.returned (.int .i64 (mt % 2)) ∧ _) => (show _ = Ending.returned (.int .i64 (M : Int)) ∧ _ by rw [hM]; exact h))
  have WS := Lib.hid (fun W => (lawWithin9 st 10 W (by decide) (by decide)).mono fun _ _ (h : _ = Ending.returned (.int .i64 (st % 10)) ∧ _) => (show _ = Ending.returned (.int .i64 (S : Int)) ∧ _ by rw [hS]; exact h))
  have OF := Lib.hid (fun W => rof_tells (m := M) (q := 2) hM2 (by omega) (by omega) W)
  clear hN hT hTn hTc hTl hlo hM hS h1 h2
  generalize hLF : rofF M 2 = LF at *
  clear hLF
  go_enter Try.func12, Try.ntmps12
  generalize hB : w.heap.size = B at *
  go_wp2_with fail
  refine (known9o _).mono ?_
  rintro e w1 ⟨rfl, hb1⟩
  rw [hB] at hb1
  have HB1 := Lib.hid hb1
  clear hb1
  go_wp2_with fail
  refine (MK.out w1 HB1.out).mono ?_
  rintro e w2 ⟨u, rfl, hta, hb2⟩
  obtain ⟨va, vb, rfl, hoo, hoi, -⟩ := id hta
  obtain ⟨ta, tc, rfl, -⟩ := own_slice hoo
  obtain ⟨tb, td, rfl, -⟩ := own_slice hoi
  clear hoo hoi
  have HB2 := Lib.hid (show Below B w w2 from HB1.out.trans (hb2.mono (by have := HB1.out.size; omega)))
  have hat := hta.at (by have := HTL.out; omega) (by have := HTO.out; omega)
  have hv : (Value.int .i64 T.n) = .int .i64 N := by rw [HTN.out]
  simp only [hv] at hat ⊢
  have HT2 := Lib.hid hat
  have HAL := Lib.hid (al1 w2 (.cells #[.int .i64 N, .slice ta T.len tc, .slice tb T.lo td] 26))
  clear hta hat hb2 HB1 hv
  go_wp2_with fail
  refine (WM.out _).mono ?_
  rintro e w' ⟨rfl, rfl⟩
  go_wp2_with fail
  generalize w2.alloc (.cells #[.int .i64 N, .slice ta T.len tc, .slice tb T.lo td] 26) = X at *
  generalize hP : w2.heap.size = P at *
  obtain ⟨x1, x2, x3⟩ := HAL.out
  have p0 := at_block x1 0
  have p1 := at_block x1 1
  have p2 := at_block x1 2
  have pl := lt_block x1
  simp only [List.getElem?_toArray, List.getElem?_cons_zero, List.getElem?_cons_succ] at p0 p1 p2
  have pl0 := pl
  have HX1 := Lib.hid x1
  have HTX := Lib.hid (HT2.out.below (hP ▸ x3))
  have HBX := Lib.hid (HB2.out.trans (x3.mono (by rw [← hP]; have := HB2.out.size; omega)))
  clear x1 x2 x3 HAL HT2 HB2
  have hw1 : IntKind.i64.wrap ((N : Int) - 1) = (N : Int) - 1 := IntWalk.i64_in _ (by omega)
  refine wp_region_ordR [(0, 1), (1, 3), (2, 1), (3, 1), (5, 1), (6, 3), (7, 1), (8, 1), (4, 0), (9, 0), (10, 1), (11, 1)] (fun W => Below X.heap.size X W) (by kernel_rfl) (by kernel_rfl) (fun _ _ d _ _ h => by cases d <;> exact h) ((Below.refl _ _).drew) ?_
  intro Z hZ hbZ
  clear hZ
  iterate 1
    first
      | refine wpOrd_pure (fun K hK => ?_)
      | refine wpOrd_take (fun K hK => ?_)
    go_simp
    refine hK _ ?_
    clear hK K
  refine wpOrd_keep (v := .int .i64 N) rfl rfl (fun wk hwk => ?_) ?_
  · rw [← (haCell hwk).1 _ _ pl] at p0
    go_simp
  iterate 3
    first
      | refine wpOrd_pure (fun K hK => ?_)
      | refine wpOrd_take (fun K hK => ?_)
    go_simp
    refine hK _ ?_
    clear hK K
  refine wpOrd_keep (v := .int .i64 N) rfl rfl (fun wk hwk => ?_) ?_
  · rw [← (haCell hwk).1 _ _ pl] at p0
    go_simp
  iterate 2
    first
      | refine wpOrd_pure (fun K hK => ?_)
      | refine wpOrd_take (fun K hK => ?_)
    go_simp
    refine hK _ ?_
    clear hK K
  refine wpOrd_doR (fun K hK => ?_)
  go_simp
  refine (MZ.out Z (HBX.out.trans (hbZ.mono (by have := HBX.out.size; omega)))).mono ?_
  rintro e wa ⟨GZ, cZ, blkZ, capZ, rfl, hgZ, hba⟩
  have hbA := hbZ.trans (hba.mono hbZ.size)
  refine hK _ _ (fun h => Bool.noConfusion (Eq.trans (Eq.symm (by kernel_rfl : _ = false)) h)) (fun _ => hbA) ?_
  clear hK K
  have HZA := Lib.hid (hgZ.tab (c := cZ) (by omega) (by omega))
  clear hgZ hba
  refine wpOrd_doR (fun K hK => ?_)
  go_simp
  refine (MZ.out wa (HBX.out.trans (hbA.mono (by have := HBX.out.size; omega)))).mono ?_
  rintro e wb ⟨GY, cY, blkY, capY, rfl, hgY, hbb⟩
  have hbB := hbA.trans (hbb.mono hbA.size)
  refine hK _ _ (fun h => Bool.noConfusion (Eq.trans (Eq.symm (by kernel_rfl : _ = false)) h)) (fun _ => hbB) ?_
  clear hK K
  have HZB := Lib.hid (HZA.out.below hbb)
  have HYB := Lib.hid (hgY.tab (c := cY) (by omega) (by omega))
  have HBB := Lib.hid hbB
  clear hgY hbb hbA hbB hbZ HZA p0 p1 p2 pl
  iterate 2
    first
      | refine wpOrd_pure (fun K hK => ?_)
      | refine wpOrd_take (fun K hK => ?_)
    go_simp
    refine hK _ ?_
    clear hK K
  refine wpOrd_nil ?_
  clear Z wa hw1
  go_wp2_with fail
  refine (OF.out wb).mono ?_
  rintro e wc ⟨vl, rfl, hl, hbc⟩
  have HLC := Lib.hid hl
  have HZC := Lib.hid (HZB.out.below hbc)
  have HYC := Lib.hid (HYB.out.below hbc)
  have HBC := Lib.hid (HBB.out.trans (hbc.mono HBB.out.size))
  clear hl hbc HZB HYB HBB
  have hw2 : IntKind.i64.wrap (10 + (S : Int)) = 10 + (S : Int) := IntWalk.i64_in _ (by omega)
  go_wp2_with fail
  refine (WS.out _).mono ?_
  rintro e w' ⟨rfl, rfl⟩
  go_wp2_with fail
  have hw3 := shl_step S hS2
  obtain ⟨H, hH⟩ : ∃ H : Int, ((2 ^ (10 + S) : Nat) : Int) = H := ⟨_, rfl⟩
  simp only [hw3, hH]
  clear hw2 hw3
  obtain ⟨gz, oz, kz, hze, hzl, hzr⟩ := HZC.out.rowAt (by omega)
  simp only [Value.slice.injEq, Option.some.injEq] at hze
  obtain ⟨hze, -, -⟩ := hze
  injection hze with hz1 hz2 _
  subst hz1 hz2
  obtain ⟨pr, cr, q0, hrow⟩ := hzr 0 (by omega)
  simp only [Nat.zero_add] at q0
  have HRW := Lib.hid hrow
  clear hzr hrow
  refine wp_region_ordR [(0, 1), (1, 1), (2, 3), (4, 1), (5, 1), (6, 3), (3, 0), (7, 0), (8, 1), (9, 1)] (fun W => Below wc.heap.size wc W) (by kernel_rfl) (by kernel_rfl) (fun _ _ d _ _ h => by cases d <;> exact h) ((Below.refl _ _).drew) ?_
  intro Z hZ hbZ
  clear hZ
  iterate 2
    first
      | refine wpOrd_pure (fun K hK => ?_)
      | refine wpOrd_take (fun K hK => ?_)
    go_simp
    refine hK _ ?_
    clear hK K
  refine wpOrd_keep (v := .slice pr N cr) rfl rfl (fun wk hwk => ?_) ?_
  · rw [← (haCell hwk).1 _ _ hzl] at q0
    go_simp
  iterate 2
    first
      | refine wpOrd_pure (fun K hK => ?_)
      | refine wpOrd_take (fun K hK => ?_)
    go_simp
    refine hK _ ?_
    clear hK K
  refine wpOrd_keep (v := .slice pr N cr) rfl rfl (fun wk hwk => ?_) ?_
  · rw [← (haCell hwk).1 _ _ hzl] at q0
    go_simp
  refine wpOrd_doR (fun K hK => ?_)
  go_simp
  refine (rweights_tells _ N (by omega) _ _ _ Z (HRW.out.below hbZ)).mono ?_
  rintro e wa ⟨vw, rfl, hvw, hba⟩
  have hbA := hbZ.trans (hba.mono hbZ.size)
  refine hK _ _ (fun h => Bool.noConfusion (Eq.trans (Eq.symm (by kernel_rfl : _ = false)) h)) (fun _ => hbA) ?_
  clear hK K
  refine wpOrd_doR (fun K hK => ?_)
  go_simp
  refine (rweights_tells _ N (by omega) _ _ _ wa (HRW.out.below hbA)).mono ?_
  rintro e wb ⟨vv, rfl, hvv, hbb⟩
  have hbB := hbA.trans (hbb.mono hbA.size)
  have HWB := Lib.hid (hvw.below hbb)
  have HVB := Lib.hid hvv
  refine hK _ _ (fun h => Bool.noConfusion (Eq.trans (Eq.symm (by kernel_rfl : _ = false)) h)) (fun _ => hbB) ?_
  clear hK K
  iterate 2
    first
      | refine wpOrd_pure (fun K hK => ?_)
      | refine wpOrd_take (fun K hK => ?_)
    go_simp
    refine hK _ ?_
    clear hK K
  refine wpOrd_nil ?_
  have HXB := Lib.hid (show CtxAt wb N T (.slice ta T.len tc) (.slice tb T.lo td) (.slice (some ⟨GZ, 0, none⟩) 3 cZ) vl vw 3 ZF LF (wtF (ZF 0) 4607182418800017408 4576918229304087675) from ⟨(HTX.out.below HBC.out).below hbB, HZC.out.below hbB, HLC.out.below hbB, HWB.out⟩)
  have HYB := Lib.hid (HYC.out.below hbB)
  have HBB := Lib.hid (HBC.out.trans (hbB.mono HBC.out.size))
  clear hbZ hba hbA hvw hbb hbB hvv HZC HRW HLC HYC HBC q0 hzl HTX HWB
  clear Z wa
  have SV := Lib.hid (fun W (hW : Below wb.heap.size wb W) => ((hH ▸ corr_any N T _ _ _ _ _ 3 (10 + S) M ZF LF _ W (HXB.out.below hW) HTK.out HTC.out HTN.out (by omega) (by omega) (by omega) (by omega) hM2 : Calls Try.prog 20 #[.agg #[.int .i64 N, .slice ta T.len tc, .slice tb T.lo td], .slice (some ⟨GZ, 0, none⟩) 3 cZ, vl, .int .i64 H, .int .i64 M, vw] W (SumT N (corrF T ZF (wtF (ZF 0) 4607182418800017408 4576918229304087675) (LF 0) (lenF H) N (M == 1)) W))).mono fun _ _ h => h.v (by omega))
  generalize corrF T ZF (wtF (ZF 0) 4607182418800017408 4576918229304087675) (LF 0) (lenF H) N (M == 1) = SD at *
  clear hH
  obtain ⟨D, hD⟩ : ∃ D : Nat, (if SD.has then N else 0) = D := ⟨_, rfl⟩
  have hD4 : D ≤ 4 := by rw [← hD]; split <;> omega
  simp only [hD] at SV
  clear hD
  have q := HBB.out.block P pl0
  rw [HX1.out] at q
  have q0 := at_block q 0
  have q1 := at_block q 1
  have q2 := at_block q 2
  have HQ := Lib.hid q
  simp only [List.getElem?_toArray, List.getElem?_cons_zero, List.getElem?_cons_succ] at q0 q1 q2
  clear q
  go_wp2_with fail
  refine (SV.out wb (Below.refl _ _)).mono ?_
  rintro e w9 ⟨hb9, R, p, rfl, hrow9, hR0, hR1, hown9⟩
  obtain ⟨y1, y2, y3⟩ := al1 w9 (.cells #[.slice p D D, .int .i64 SD.tries, .int .i64 SD.e] 39)
  have HR1 := Lib.hid (show R ≠ w9.heap.size ∧ R ≠ w9.heap.size + 1 ∧ R ≠ w9.heap.size + 2 from ⟨hR1 0 (by omega), hR1 1 (by omega), hR1 2 (by omega)⟩)
  clear hR1
  have HBY := Lib.hid (hb9.trans (y3.mono hb9.size))
  have HRY := Lib.hid (hrow9.below y3)
  have HOY := Lib.hid (fun h0 => (⟨(hown9 h0).1, (hown9 h0).2.below y3 (hown9 h0).2.lt.2⟩ : _ ∧ _))
  have HY1 := Lib.hid y1
  have HYS := Lib.hid y2
  clear hb9 hrow9 hown9 y2 y3 q0 q1 q2
  go_upto_region 10 with fail
  generalize w9.alloc (.cells #[.slice p D D, .int .i64 SD.tries, .int .i64 SD.e] 39) = Y at *
  generalize hQe : w9.heap.size = Q at *
  clear hQe
  clear w9
  obtain ⟨g1, g2, g3⟩ := al1 Y (.cells #[] 32 (0, 0))
  have GA := Lib.hid g1
  have HAS := Lib.hid g2
  have GB := Lib.hid g3
  have u0 := at_block y1 0
  have ul := lt_block y1
  simp only [List.getElem?_toArray, List.getElem?_cons_zero] at u0
  clear y1 g1 g2 g3
  have HRC := Lib.hid (fun W c (hW : Below Y.heap.size Y W) => (show FRow W (.slice p D c) D SD.d by
    obtain ⟨a, c0, hv, h1, h2⟩ := HRY.out.below hW
    simp only [Value.slice.injEq] at hv
    obtain ⟨rfl, -, rfl⟩ := hv
    exact ⟨_, c, rfl, h1, h2⟩))
  go_wp2_with (first
    | (refine wpList_appF rfl (.tmp 68) (.tmp 70) rfl Y.heap.size Y.heap.size D D p SD.d Y rfl rfl GB.out GA.out (Nat.le_refl _) (fun W c hb => HRC.out W c hb) (by omega) ?_)
    | fail)
  intro RC cc W hoc hbc hkc hsc hRC hRl
  have HOC := Lib.hid hoc
  have HKC := Lib.hid hkc
  have HBW := Lib.hid (HBY.out.trans (hbc.mono HBY.out.size))
  have HRC2 := Lib.hid (show RC ≠ Q ∧ RC ≠ R ∧ Q < Y.heap.size from ⟨by have := hoc.lt.1; have := HYS.out; omega, by have h1 := HYS.out; have h2 := HR1.out; have h3 : (Y.alloc (.cells #[] 32 (0, 0))).heap.size = Y.heap.size + 1 := HAS.out; rcases hRC with e | e <;> (rw [e]; try (rw [h3])) <;> omega, by have := HYS.out; omega⟩)
  have HYW := Lib.hid (HY1.out)
  have hqW : W.heap[Q]? = some (.cells #[.slice p D D, .int .i64 SD.tries, .int .i64 SD.e] 39) := (hbc.block Q HRC2.out.2.2).trans HY1.out
  have HQW := Lib.hid hqW
  have HOW := Lib.hid (fun h0 => (⟨(HOY.out h0).1, (HOY.out h0).2.below hbc (HOY.out h0).2.lt.2⟩ : _ ∧ _))
  clear hoc hbc hkc hsc hRC hRl hqW u0 ul HRC HRY
  have HQW2 := Lib.hid (lt_block HQW.out)
  clear HBY HOY HYS HY1 GA HAS GB HYW
  go_wp2_with fail
  go_loopw [24] (fun i wr => ∃ c : Nat, c ≤ D ∧ i = .int .i64 c ∧ Keep W R wr ∧ (0 < D → ∃ h, OwnF wr wb.heap.size R D D h)) (fun i _ => D - (intOf i).toNat)
  case atStart => exact ⟨0, by omega, rfl, Keep.refl _ _, fun h0 => ⟨_, (HOW.out h0).2⟩⟩
  case round =>
    obtain ⟨c, hc, rfl, hk, ho⟩ := hrel
    have hq := hk.block Q HQW2.out (fun e => HR1.out.1 e.symm)
    rw [HQW.out] at hq
    have q0 := at_block hq 0
    have q1 := at_block hq 1
    have q2 := at_block hq 2
    simp only [List.getElem?_toArray, List.getElem?_cons_zero, List.getElem?_cons_succ] at q0 q1 q2
    have HK := Lib.hid hk
    have HO := Lib.hid ho
    have HQR := Lib.hid hq
    clear hk ho hq
    by_cases hcd : c < D
    · obtain ⟨rfl, -⟩ := HOW.out (by omega)
      obtain ⟨h, ho⟩ := HO.out (by omega)
      obtain ⟨z, z1, -, -⟩ := ho.cell hcd
      have z2 := ho.free c
      have HOS := Lib.hid (ho.set hcd rfl (ofInt_lt by_))
      have HKS := Lib.hid (HK.out.set c (.float .f64 (floatOfInt .f64 by_)))
      clear ho q1 q2
      go_wp2_with fail
      go_roundw
      case rel => exact ⟨c + 1, by omega, by go_num, HKS.out, fun _ => ⟨_, HOS.out⟩⟩
      case measure => simp [intOf]; omega
    · obtain rfl : c = D := by omega
      go_upto_region 15 with fail
      clear q0 q1 q2
      have HBV := Lib.hid (HK.out.below HBW.out hR0 HBW.out.size)
      have q := HBV.out.block P (by have := HBB.out.size; omega)
      rw [HQ.out] at q
      have e0 := at_block q 0
      have e1 := at_block q 1
      have e2 := at_block q 2
      have el := lt_block q
      simp only [List.getElem?_toArray, List.getElem?_cons_zero, List.getElem?_cons_succ] at e0 e1 e2
      clear q HO
      go_wp2_with fail
      refine (SV.out wr HBV.out).mono ?_
      rintro e w15 ⟨hb15, R2, p2, rfl, hrow15, -, -, -⟩
      obtain ⟨y1, y2, y3⟩ := al1 w15 (.cells #[.slice p2 c c, .int .i64 SD.tries, .int .i64 SD.e] 39)
      have hbZ := hb15.trans (y3.mono hb15.size)
      have hrc := ((HOC.out.kept (HK.out.block RC HOC.out.lt.2 HRC2.out.2.1)).flts (by omega) : FRow wr _ c SD.d).below hbZ
      have hq := hbZ.block Q (lt_block HQR.out)
      rw [HQR.out] at hq
      have q0 := at_block hq 0
      have q1 := at_block hq 1
      have q2 := at_block hq 2
      have u0 := at_block y1 0
      have u1 := at_block y1 1
      have u2 := at_block y1 2
      simp only [List.getElem?_toArray, List.getElem?_cons_zero, List.getElem?_cons_succ] at q0 q1 q2 u0 u1 u2
      have HRZ := Lib.hid (hrow15.below y3)
      have HRC := Lib.hid hrc
      have HBZ := Lib.hid (HBV.out.trans (hbZ.mono HBV.out.size))
      clear hb15 y1 y2 y3 hbZ hrow15 hrc hq e0 e1 e2 el
      go_upto_region 16 with fail
      generalize w15.alloc (.cells #[.slice p2 c c, .int .i64 SD.tries, .int .i64 SD.e] 39) = Z at *
      generalize w15.heap.size = Q2 at *
      clear w15
      go_wp2_with fail
      refine (rows_true _ _ c SD.d Z HRZ.out HRC.out).mono ?_
      rintro e w16 ⟨rfl, hb16⟩
      have HB16 := Lib.hid (HBZ.out.trans (hb16.mono HBZ.out.size))
      clear hb16
      go_wp2_with fail
      refine (tables_true _ _ 3 _ ZF w16 (HXB.out.tab.below HB16.out) (HYB.out.below HB16.out)).mono ?_
      rintro e w17 ⟨rfl, hb17⟩
      have HB17 := Lib.hid (HB16.out.trans (hb17.mono HB16.out.size))
      clear hb17
      go_wp2_with fail
      refine (rows_true _ _ N _ w17 (HXB.out.wrow.below HB17.out) (HVB.out.below HB17.out)).mono ?_
      rintro e w18 ⟨rfl, hb18⟩
      have HB18 := Lib.hid (HBB.out.trans ((HB17.out.trans (hb18.mono HB17.out.size)).mono HBB.out.size))
      clear hb18
      go_wp2_with fail
      go_ret
      exact ⟨rfl, hB ▸ HBX.out.trans (HB18.out.mono (by have := HBX.out.size; omega))⟩
end Go.Proofs.Ytclhgnhbmlkomaa
/-
  'CorrOwn': the law answers true, whatever it is given: every input, no condition.
-/
namespace Go.Proofs.Ytclhgnhbmlkomaa.corrOwn
open Go.ChangeShapes Go.WideShapes Go.ChangeAt Go.RowKit Go.Proofs.Ytclhgnhbmlkomaa
theorem own : ownKnob Try.prog.godebug = none := by kernel_rfl
theorem laidOut : laidOutB Try.prog = true := by kernel_rfl
theorem float_lt {b : Nat} (h : (Lit.float .f64 b).wf = true) : b < 18446744073709551616 := by simpa [Lit.wf] using h
theorem int_lo {n : Int} (h : (Lit.int .i64 n).wf = true) : -9223372036854775808 ≤ n ∧ n ≤ 9223372036854775807 := by
  have a : IntKind.i64.min = -9223372036854775808 := by decide
  have b : IntKind.i64.max = 9223372036854775807 := by decide
  simp only [Lit.wf, Bool.and_eq_true, decide_eq_true_eq] at h; omega
set_option maxRecDepth 100000 in
theorem lifted (os : Os) (started : os.Started) (H : Type) (enc : TypeId × Value → H) :
    ReturnsInHanded {} Try.checked os 12 .any (Rows.corrOwnSpec.pre6 enc Try.prog Try.f12 Rows.corrOwnRow.domain false) (Rows.corrOwnSpec.post enc Try.prog Try.f12 false true false false) := by
  refine returnsInHanded_of_change (C := Try.checked) own started (by kernel_rfl) Try.func12
    (ChangeSpec.witness6 (enc := enc) (C := Try.checked) false ⟨#[], #[.int .i64 0, .slice none 0 0, .slice none 0 0, .int .i64 0, .int .i64 0, .int .i64 0], []⟩ 8 (by kernel_rfl) (by kernel_rfl) (by kernel_rfl) (by kernel_rfl)) ?_
  intro W base args ds gs before hval0 hW hcnd _
  have hval : ∀ (j : Nat) t v, Try.f12.params[j]? = some t → args[j]? = some v → Value.okWide Try.prog W .any base t v := hval0
  have hW' := hW
  obtain ⟨p, q, hA0, hV, rfl, hfz, hnd⟩ := hW
  have hA : DataW.TrodAll enc Try.prog W 0 (fun _ => true) true Try.f12.params.toList args.toList ds p := hA0
  rw [Try.params12] at hA hval
  obtain ⟨v0, vs0, d0, ds0, p0, q0, hargs, rfl, rfl, h0, r0⟩ := trodAll_cons hA
  obtain ⟨v1, vs1, d1, ds1, p1, q1, rfl, rfl, rfl, h1, r1⟩ := trodAll_cons r0
  obtain ⟨v2, vs2, d2, ds2, p2, q2, rfl, rfl, rfl, h2, r2⟩ := trodAll_cons r1
  obtain ⟨v3, vs3, d3, ds3, p3, q3, rfl, rfl, rfl, h3, r3⟩ := trodAll_cons r2
  obtain ⟨v4, vs4, d4, ds4, p4, q4, rfl, rfl, rfl, h4, r4⟩ := trodAll_cons r3
  obtain ⟨v5, vs5, d5, ds5, p5, q5, rfl, rfl, rfl, h5, r5⟩ := trodAll_cons r4
  obtain ⟨rfl, rfl, rfl⟩ := trodAll_nil r5
  obtain rfl : args = #[v0, v1, v2, v3, v4, v5] := by cases args; simp_all
  obtain ⟨rfl, rfl⟩ := trodVars_none hV
  obtain ⟨a0, rfl, rfl, rfl, w0⟩ := open_int Try.underlying3 (hval 0 3 v0 rfl rfl) h0
  have k1 := h1
  obtain ⟨zs1, z1⟩ := intr_of (hval 1 22 v1 rfl rfl) h1
  have k2 := h2
  obtain ⟨zs2, z2⟩ := intr_of (hval 2 22 v2 rfl rfl) h2
  obtain ⟨a3, rfl, rfl, rfl, w3⟩ := open_int Try.underlying3 (hval 3 3 v3 rfl rfl) h3
  obtain ⟨a4, rfl, rfl, rfl, w4⟩ := open_int Try.underlying3 (hval 4 3 v4 rfl rfl) h4
  obtain ⟨a5, rfl, rfl, rfl, w5⟩ := open_int Try.underlying3 (hval 5 3 v5 rfl rfl) h5
  clear hA0 hval0
  simp only [List.append_nil] at hW'
  refine (corrOwn_any a0 v1 zs1 v2 zs2 a3 a4 a5 W (int_lo w0) z1 z2 (int_lo w3) (int_lo w4) (int_lo w5)).mono fun e W' ⟨he, hb⟩ => ?_
  subst he
  exact ⟨_, rfl, ⟨_, _, _, [], _, [], hW', (trodAll_cons_mk (shut_bool Try.underlying4 _) trodAll_mk0), (trodAll_cons_mk (shut_int Try.underlying3 w0) (trodAll_cons_mk (Below.trod laidOut (by kernel_rfl) (of_decide_eq_true (by kernel_rfl)) k1 hb (fun x hx => hW'.lt x (by simp [hx]))) (trodAll_cons_mk (Below.trod laidOut (by kernel_rfl) (of_decide_eq_true (by kernel_rfl)) k2 hb (fun x hx => hW'.lt x (by simp [hx]))) (trodAll_cons_mk (shut_int Try.underlying3 w3) (trodAll_cons_mk (shut_int Try.underlying3 w4) (trodAll_cons_mk (shut_int Try.underlying3 w5) trodAll_mk0)))))), rfl, hb.frame _, fun h => by cases h⟩⟩

theorem over : Rows.corrOwnRow.holds Try.pinned (OpenSpec.ofChange Rows.corrOwnSpec) :=
  OpenClaim.holds_of_wide 12 Try.f12 rfl rfl rfl rfl rfl rfl rfl ⟨rfl, rfl, rfl, rfl, rfl⟩ rfl rfl rfl rfl rfl (by kernel_rfl) Try.func12 (by kernel_rfl)
    (of_decide_eq_true (by kernel_rfl)) (by unfold Func.isWrapper; first | (rw [if_pos (by decide +kernel)]; kernel_rfl) | (rw [if_neg (by decide +kernel)]; exact ⟨rfl, rfl⟩))
    (fun os started H enc _ => lifted os started H enc)

theorem proved : Rows.CorrOwnSaid :=
  over
#print axioms proved
end Go.Proofs.Ytclhgnhbmlkomaa.corrOwn
