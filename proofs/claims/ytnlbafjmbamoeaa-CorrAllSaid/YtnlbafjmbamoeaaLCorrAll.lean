/-
  Texts laid together.
-/
import Derived.Test.YtnlbafjmbamoeaaKna
import Derived.Test.YtnlbafjmbamoeaaMcb
import Derived.Test.YtnlbafjmbamoeaaRows
import Derived.WalkKit
import Derived.WalkLawsBesides
import Derived.ProofKit
import Derived.OpenShut
import Derived.Carry
/-
  The law: what is added is the document's: walked.
-/
namespace Go.Proofs.Ytnlbafjmbamoeaa
open Go.RowKit
open Ieee (double)
attribute [local go_sem] alloc_drewN setCell_drewN call_bits call_frombits ord_lt ord_eq ord_gt ord_ne ord_le ord_ge eqB_self run_fadd run_fsub run_fmul run_fquo haStoreFlt takeOp pureOp readsUpon doOp run_store_fn run_store_fc run_store_slice

theorem shl_four : ∀ e : Nat, e < 6 → IntKind.i64.wrap (64 * 2 ^ min (IntKind.u64.wrap (IntKind.i64.wrap (2 * (e : Int)))).toNat 64) = 64 * 4 ^ e := by decide +kernel
theorem shl_more : ∀ S : Nat, S < 18 → wrap64 (2 ^ (14 + S)) = ((2 ^ (14 + S) : Nat) : Int) := by decide +kernel
/-- What is told, as far as it is read. -/
def SumQ (n : Nat) (S : SumD) (w : World) (e : Ending) (w' : World) : Prop :=
  Below w.heap.size w w' ∧ ∃ p c, e = .returned (.agg #[.slice p (if S.has then n else 0) c, .int .i64 S.tries, .int .i64 S.e]) ∧ FRow w' (.slice p (if S.has then n else 0) c) (if S.has then n else 0) S.d
theorem SumT.q {n : Nat} {S : SumD} {w : World} {e : Ending} {w' : World} (h : SumT n S w e w') (hn : n ≤ 4) : SumQ n S w e w' := by
  obtain ⟨hb, h⟩ := h
  rcases h with ⟨hh, R, rfl, ho⟩ | ⟨hh, rfl⟩
  · unfold SumQ
    rw [hh]
    exact ⟨hb, _, _, rfl, ho.flts (by omega)⟩
  · unfold SumQ
    rw [hh]
    exact ⟨hb, _, _, rfl, ⟨_, _, rfl, by simp, fun h0 => absurd h0 (by simp)⟩⟩
theorem RSumT.q {n : Nat} {S : SumD} {w : World} {e : Ending} {w' : World} (h : RSumT n S w e w') (_ : n ≤ 4) : SumQ n S w e w' := by
  obtain ⟨hb, h⟩ := h
  rcases h with ⟨hh, v, rfl, ho⟩ | ⟨hh, rfl⟩
  · obtain ⟨a, c, rfl, -⟩ := id ho
    unfold SumQ
    rw [hh]
    exact ⟨hb, _, _, rfl, ho⟩
  · unfold SumQ
    rw [hh]
    exact ⟨hb, _, _, rfl, ⟨_, _, rfl, by simp, fun h0 => absurd h0 (by simp)⟩⟩
/-- A row stays where a block of other things is written. -/
theorem FRow.keepS {X W : World} {q n : Nat} {v : Value} {f : Nat → Nat} {a : Option Addr} {l c : Nat} {x y : Int} {t : TypeId} (h : FRow X v n f) (hq : X.heap[q]? = some (.cells #[.slice a l c, .int .i64 x, .int .i64 y] t)) (hk : Keep X q W) : FRow W v n f := by
  obtain ⟨a, c, rfl, h1, h2⟩ := h
  refine ⟨a, c, rfl, h1, fun h0 => ?_⟩
  obtain ⟨b, o, rfl, hb, hc⟩ := h2 h0
  have hne : b ≠ q := by
    rintro rfl
    obtain ⟨y0, e, -⟩ := hc 0 h0
    rw [at_block hq] at e
    rcases (show o + 0 = 0 ∨ o + 0 = 1 ∨ o + 0 = 2 ∨ 3 ≤ o + 0 by omega) with g | g | g | g
    · rw [g] at e; simp at e
    · rw [g] at e; simp at e
    · rw [g] at e; simp at e
    · rw [Array.getElem?_eq_none (by simpa using g)] at e; cases e
  refine ⟨b, o, rfl, Nat.lt_of_lt_of_le hb hk.size, fun i hi => ?_⟩
  exact (hc i hi).same (hk.cell hb hne _)
theorem rcorr_any (n : Nat) (T : TD) (vo vu vz vl vw : Value) (m : Nat) (t : Int) (M : Nat) (z : Nat → Nat → Nat) (l wt : Nat → Nat) (w : World) (hx : CtxAt w n T vo vu vz vl vw m z l wt)
    (hck : checkB T = true) (hcs : ∀ i, (T.op i).c < 18446744073709551616) (hn : T.n = n) (h1 : 1 ≤ n) (h4 : n ≤ 4) (hm : 2 ≤ m) (hM : M < 2) :
    Calls Try.prog 11 #[.agg #[.int .i64 n, vo, vu], vz, vl, .int .i64 t, .int .i64 M, vw] w (RSumT n (corrF T z wt (l 0) (lenF t) n (M == 1)) w) := by
  rcases (show M = 0 ∨ M = 1 by omega) with rfl | rfl
  · exact rcorr_adams n T vo vu vz vl vw m t z l wt w hx hck (fun i _ => hcs i) hn h1 h4 hm
  · exact rcorr_bdf n T vo vu vz vl vw m t z l wt w hx hck (fun i _ => hcs i) hn h1 h4 hm
set_option maxRecDepth 100000 in
set_option maxHeartbeats 8000000 in
theorem corrAll_any (n : Int) (v1 : Value) (zs1 : List Int) (dv : Bool) (od : Int) (v2 : Value) (zs2 : List Int) (st mt sm : Int) (w : World) (hn : -9223372036854775808 ≤ n ∧ n ≤ 9223372036854775807) (h1 : Intr w v1 zs1) (_ : -9223372036854775808 ≤ od ∧ od ≤ 9223372036854775807) (h2 : Intr w v2 zs2) (_ : -9223372036854775808 ≤ st ∧ st ≤ 9223372036854775807) (_ : -9223372036854775808 ≤ mt ∧ mt ≤ 9223372036854775807) (_ : -9223372036854775808 ≤ sm ∧ sm ≤ 9223372036854775807) :
    Calls Try.prog 3 #[.int .i64 n, v1, .bool dv, .int .i64 od, v2, .int .i64 st, .int .i64 mt, .int .i64 sm] w fun e w' => e = .returned (.bool true) ∧ Below w.heap.size w w' := by
  have MK := Lib.hid (fun W (hW : Below w.heap.size w W) => makeT_tells n v1 zs1.length (fun i => zs1.getD i 0) dv W ((ints_F9 h1.1).below hW) hn h1.2)
  have hT := check_make n (fun i => zs1.getD i 0) zs1.length dv
  have hTc : ∀ i, ((makeT n (fun i => zs1.getD i 0) zs1.length dv).op i).c < 18446744073709551616 := fun i => opAt_c _ _ _ _
  have hTn : (makeT n (fun i => zs1.getD i 0) zs1.length dv).n = 1 + n % 3 := rfl
  have hTl : (makeT n (fun i => zs1.getD i 0) zs1.length dv).len ≤ 60 := (by
    have := Int.emod_nonneg n (show (3 : Int) ≠ 0 by decide)
    have := Int.emod_lt_of_pos n (show (0 : Int) < 3 by decide)
    show (1 + n % 3).toNat + 1 + min zs1.length 8 ≤ 60
    omega)
  generalize makeT n (fun i => zs1.getD i 0) zs1.length dv = T at *
  obtain ⟨N, hN⟩ : ∃ N : Nat, (N : Int) = 1 + n % 3 := ⟨(1 + n % 3).toNat, by have := Int.emod_nonneg n (show (3 : Int) ≠ 0 by decide); omega⟩
  have hN3 : 1 ≤ N ∧ N ≤ 3 := by
    have := Int.emod_nonneg n (show (3 : Int) ≠ 0 by decide)
    have := Int.emod_lt_of_pos n (show (0 : Int) < 3 by decide)
    omega
  rw [← hN] at hTn
  have hlo := checkB_lo hT hTn
  have HTN := Lib.hid hTn
  have HTC := Lib.hid hTc
  have HTK := Lib.hid hT
  have HTL := Lib.hid hTl
  have HTO := Lib.hid hlo.1
  obtain ⟨O, hO⟩ : ∃ O : Nat, (O : Int) = 1 + od % 4 := ⟨(1 + od % 4).toNat, by have := Int.emod_nonneg od (show (4 : Int) ≠ 0 by decide); omega⟩
  have hO1 : 1 ≤ O ∧ O ≤ 4 := by
    have := Int.emod_nonneg od (show (4 : Int) ≠ 0 by decide)
    have := Int.emod_lt_of_pos od (show (0 : Int) < 5 by decide)
    omega
  have MZ := Lib.hid (fun W (hW : Below w.heap.size w W) => make8_tells O (by omega) ((N : Int) - 1) N (by omega) v2 zs2.length (fun i => zs2.getD i 0) W ((ints_F9 h2.1).below hW))
  generalize zF zs2.length (fun i => zs2.getD i 0) N = ZF at *
  obtain ⟨S, hS⟩ : ∃ S : Nat, (S : Int) = st % 18 := ⟨(st % 18).toNat, by have := Int.emod_nonneg st (show (18 : Int) ≠ 0 by decide); omega⟩
  have hS2 : S < 18 := by have := Int.emod_lt_of_pos st (show (0 : Int) < 18 by decide); omega
  have WM := Lib.hid (fun W => (lawWithin9 od 4 W (by decide) (by decide)).mono fun _ _ (h : _ = Ending.returned (.int .i64 (od % 4)) ∧ _) => (show _ = Ending.returned (.int .i64 ((O : Int) - 1)) ∧ _ by rw [show (O : Int) - 1 = od % 4 by omega]; exact h))
  have WS := Lib.hid (fun W => (lawWithin9 st 18 W (by decide) (by decide)).mono fun _ _ (h : _ = Ending.returned (.int .i64 (st % 18)) ∧ _) => (show _ = Ending.returned (.int .i64 (S : Int)) ∧ _ by rw [hS]; exact h))
  obtain ⟨M, hM⟩ : ∃ M : Nat, (M : Int) = mt % 2 := ⟨(mt % 2).toNat, by have := Int.emod_nonneg mt (show (2 : Int) ≠ 0 by decide); omega⟩
  have hM2 : M < 2 := by have := Int.emod_lt_of_pos mt (show (0 : Int) < 2 by decide); omega
  have WQ := Lib.hid (fun W => (lawWithin9 mt 2 W (by decide) (by decide)).mono fun _ _ (h : _ = Ending.returned (.int .i64 (mt % 2)) ∧ _) => (show _ = Ending.returned (.int .i64 (M : Int)) ∧ _ by rw [hM]; exact h))
  clear hM
  have WA := Lib.hid (fun W => lawWithin9 sm 100000 W (by decide) (by decide))
  have OF := Lib.hid (fun W => rcof_tells (m := M) (q := O) (by omega) (by omega) (by omega) W)
  clear hN hT hTn hTc hTl hlo hO hS h1 h2
  generalize hLF : coF M O = LF at *
  clear hLF
  go_enter Try.func3, Try.ntmps3
  generalize hB : w.heap.size = B at *
  go_wp2_with fail
  refine (known9o _).mono ?_
  rintro e w1 ⟨rfl, hb1⟩
  rw [hB] at hb1
  have HB1 := Lib.hid hb1
  clear hb1
  go_wp2_with fail
  refine (MK.out w1 HB1.out).mono ?_
  rintro e w2 ⟨u, rfl, hta, hb2⟩
  obtain ⟨va, vb, rfl, hoo, hoi, -⟩ := id hta
  obtain ⟨ta, tc, rfl, -⟩ := own_slice hoo
  obtain ⟨tb, td, rfl, -⟩ := own_slice hoi
  clear hoo hoi
  have HB2 := Lib.hid (show Below B w w2 from HB1.out.trans (hb2.mono (by have := HB1.out.size; omega)))
  have hat := hta.at (by have := HTL.out; omega) (by have := HTO.out; omega)
  have hv : (Value.int .i64 T.n) = .int .i64 N := by rw [HTN.out]
  simp only [hv] at hat ⊢
  have HT2 := Lib.hid hat
  have HAL := Lib.hid (al1 w2 (.cells #[.int .i64 N, .slice ta T.len tc, .slice tb T.lo td] 26))
  clear hta hat hb2 HB1 hv
  go_wp2_with fail
  refine (WQ.out _).mono ?_
  rintro e w' ⟨rfl, rfl⟩
  go_wp2_with fail
  refine (WM.out _).mono ?_
  rintro e w' ⟨rfl, rfl⟩
  have hw1 : IntKind.i64.wrap ((N : Int) - 1) = (N : Int) - 1 := IntWalk.i64_in _ (by omega)
  have hw0 : IntKind.i64.wrap (1 + ((O : Int) - 1)) = (O : Int) := by rw [show 1 + ((O : Int) - 1) = (O : Int) by omega]; exact IntWalk.i64_in _ (by omega)
  go_upto_region 6 with fail
  generalize w2.alloc (.cells #[.int .i64 N, .slice ta T.len tc, .slice tb T.lo td] 26) = X at *
  generalize hP : w2.heap.size = P at *
  obtain ⟨x1, x2, x3⟩ := HAL.out
  have p0 := at_block x1 0
  have pl0 := lt_block x1
  simp only [List.getElem?_toArray, List.getElem?_cons_zero] at p0
  have HX1 := Lib.hid x1
  have HTX := Lib.hid (HT2.out.below (hP ▸ x3))
  have HBX := Lib.hid (HB2.out.trans (x3.mono (by rw [← hP]; have := HB2.out.size; omega)))
  clear x1 x2 x3 HAL HT2 HB2
  go_wp2_with fail
  refine (MZ.out X HBX.out).mono ?_
  rintro e wa ⟨G, cG, blk, cap, rfl, hg, hba⟩
  have HG := Lib.hid hg
  have HBA := Lib.hid hba
  have q := hba.block P pl0
  rw [HX1.out] at q
  have HQ := Lib.hid q
  generalize hQF : (fun i j => cop .quo (ZF i j) (floatOfInt .f64 (64 * 4 ^ i))) = QF at *
  have HQF := Lib.hid (fun i j => (congrFun (congrFun hQF i) j).symm)
  have HG0 := Lib.hid (hg.congr (fun a c _ _ => (mixF_start QF ZF a c).symm))
  clear hg hba q p0 hw0 hw1 hQF HG
  go_wp2_with fail
  go_loopw [21] (fun i wr => ∃ e : Nat, e ≤ O + 1 ∧ i = .int .i64 e ∧ Grid wr X.heap.size G (O + 1) N blk cap (mixF QF ZF e 0) ∧ Below X.heap.size X wr) (fun i _ => O + 1 - (intOf i).toNat)
  case atStart => exact ⟨0, by omega, rfl, HG0.out, HBA.out⟩
  case round =>
    clear HG0
    obtain ⟨e, he, rfl, hg, hbl⟩ := hrel
    by_cases hen : e < O + 1
    · have r0 := hg.ref e hen
      have HG := Lib.hid hg
      have HBL := Lib.hid hbl
      have e1 : (e : Int) < (O : Int) + 1 := by omega
      clear hg hbl
      go_wp2_with fail
      generalize wr = WO at *
      go_loopw [22] (fun i wr => ∃ c : Nat, c ≤ N ∧ i = .int .i64 c ∧ Grid wr X.heap.size G (O + 1) N blk cap (mixF QF ZF e c) ∧ Below X.heap.size X wr) (fun i _ => N - (intOf i).toNat)
      case atStart => exact ⟨0, by omega, rfl, HG.out, HBL.out⟩
      case round =>
        clear HG HBL r0
        obtain ⟨c, hc, rfl, hg, hbl⟩ := hrel
        have r0 := hg.ref e hen
        by_cases hcn : c < N
        · obtain ⟨u, u1, u2, u3⟩ := (hg.row e hen).cell hcn
          have f1 := (hg.row e hen).free c
          have hR1 := (hg.row e hen).lt
          have c1 : (c : Int) < (N : Int) := by omega
          rw [mixF_at] at u2
          have HG := Lib.hid hg
          have HBL := Lib.hid hbl
          clear hg hbl
          go_wp2_with fail
          refine wp_region_ord [(0, 1), (1, 1), (2, 1), (3, 2), (4, 1), (5, 1), (6, 1), (7, 1), (8, 2), (9, 1), (10, 1), (11, 2), (12, 1), (13, 1), (14, 1), (15, 1), (16, 1), (17, 0), (18, 1), (19, 0)] (by kernel_rfl) (by kernel_rfl) (fun _ _ d _ _ h => by cases d <;> exact h) ?_
          intro Z hZ
          have hzz : ∀ b o, Z.cell? ⟨b, o, none⟩ = wr.cell? ⟨b, o, none⟩ := fun b o => by rw [hZ]; rfl
          have hzf : Z.frozen? ⟨blk e, c, none⟩ = wr.frozen? ⟨blk e, c, none⟩ := by rw [hZ]; rfl
          have HZ := Lib.hid (show Grid Z X.heap.size G (O + 1) N blk cap (mixF QF ZF e c) ∧ Below X.heap.size X Z by rw [hZ]; exact ⟨HG.out.drew, HBL.out.drew⟩)
          rw [← hzz] at r0 u1
          rw [← hzf] at f1
          clear hZ hzz hzf HG HBL
          have HN := Lib.hid (show cop .quo (ZF e c) (floatOfInt .f64 (64 * 4 ^ e)) = QF e c from (HQF.out e c).symm)
          have hsh := shl_four e (by omega)
          iterate 17
            first
              | refine wpOrd_pure (fun K hK => ?_)
              | refine wpOrd_take (fun K hK => ?_)
            go_simp
            refine hK _ ?_
            clear hK K
          generalize floatOfInt .f64 (64 * 4 ^ e) = kf at *
          clear hsh
          refine wpOrd_do (fun K hK => ?_)
          go_simp
          refine hK _ _ (fun _ => ⟨_, rfl⟩) ?_
          clear hK K
          iterate 1
            first
              | refine wpOrd_pure (fun K hK => ?_)
              | refine wpOrd_take (fun K hK => ?_)
            go_simp
            refine hK _ ?_
            clear hK K
          refine wpOrd_do (fun K hK => ?_)
          go_simp
          refine hK _ _ (fun h => Bool.noConfusion (Eq.trans (Eq.symm (by kernel_rfl : _ = false)) h)) ?_
          clear hK K
          have HG := Lib.hid (show Grid ((Z.setCell ⟨blk e, c, none⟩ (.float .f64 (fval .quo Z u kf))).drewN (ndraw .quo u kf)) X.heap.size G (O + 1) N blk cap (mixF QF ZF e (c + 1)) ∧ Below X.heap.size X ((Z.setCell ⟨blk e, c, none⟩ (.float .f64 (fval .quo Z u kf))).drewN (ndraw .quo u kf)) from by
            refine ⟨?_, below_drewN (HZ.out.2.setCell (p := ⟨blk e, c, none⟩) hR1.1 _) _⟩
            have g1 := HZ.out.1.set hen hcn (show canon (fval .quo Z u kf) = QF e c by rw [← HN.out, ← u2, canon_fval, cop_canon_left]) (fval_lt .quo Z _ _)
            exact ((g1.congr (fun a d _ _ => mixF_set QF ZF e c a d)) : Grid _ _ _ _ _ _ _ _).below (below_drewN (Below.refl _ _) _))
          clear HZ HN r0 u1 f1
          refine wpOrd_nil ?_
          go_wp2_with fail
          go_roundw
          case rel => exact ⟨c + 1, by omega, by go_num, HG.out⟩
          case measure => simp [intOf]; omega
        · obtain rfl : c = N := by omega
          have HGN := Lib.hid (hg.congr (fun a d _ hd => mixF_row QF ZF e c a d hd))
          clear hg
          go_wp2_with fail
          go_roundw
          case rel => exact ⟨e + 1, by omega, by go_num, HGN.out, hbl⟩
          case measure => simp [intOf]; omega
    · obtain rfl : e = O + 1 := by omega
      have HG := Lib.hid (hg.congr (fun a d ha _ => mixF_end QF ZF _ a d ha))
      have HBL := Lib.hid hbl
      clear hg hbl
      go_wp2_with fail
      refine (OF.out wr).mono ?_
      rintro e wc ⟨vl, rfl, hl, hbc⟩
      have HLC := Lib.hid hl
      have HZC := Lib.hid ((HG.out.below hbc).tab (c := cG) (by omega) (by omega))
      have HBC := Lib.hid (HBL.out.trans (hbc.mono HBL.out.size))
      clear hl hbc HG HBL HBA
      have hw2 : IntKind.i64.wrap (14 + (S : Int)) = 14 + (S : Int) := IntWalk.i64_in _ (by omega)
      go_wp2_with fail
      refine (WS.out _).mono ?_
      rintro e w' ⟨rfl, rfl⟩
      go_upto_region 16 with fail
      have hw3 := shl_more S hS2
      obtain ⟨H, hH⟩ : ∃ H : Int, ((2 ^ (14 + S) : Nat) : Int) = H := ⟨_, rfl⟩
      simp only [hw3, hH]
      clear hw2 hw3
      obtain ⟨gz, oz, kz, hze, hzl, hzr⟩ := HZC.out.rowAt (by omega)
      simp only [Value.slice.injEq, Option.some.injEq] at hze
      obtain ⟨hze, -, -⟩ := hze
      injection hze with hz1 hz2 _
      subst hz1 hz2
      obtain ⟨pr, cr, q0, hrow⟩ := hzr 0 (by omega)
      obtain ⟨ps, cs, q1, hros⟩ := hzr 1 (by omega)
      simp only [Nat.zero_add] at q0 q1
      have HRW := Lib.hid hrow
      have HRS := Lib.hid hros
      have HQ0 := Lib.hid q0
      have HQ1 := Lib.hid q1
      have HZL := Lib.hid hzl
      clear hzr hrow hros q1
      go_wp2_with fail
      refine wp_region_ord [(0, 1), (1, 1), (2, 2), (3, 1), (4, 0), (5, 1), (6, 1), (7, 0), (8, 0), (9, 1)] (by kernel_rfl) (by kernel_rfl) (fun _ _ d _ _ h => by cases d <;> exact h) ?_
      intro Z hZ
      have hZZ : ∀ b o, Z.cell? ⟨b, o, none⟩ = wc.cell? ⟨b, o, none⟩ := fun b o => by rw [hZ]; rfl
      have hbZ : Below wc.heap.size wc Z := by rw [hZ]; exact (Below.refl _ _).drew
      rw [← hZZ] at q0
      clear hZ hZZ
      iterate 4
        first
          | refine wpOrd_pure (fun K hK => ?_)
          | refine wpOrd_take (fun K hK => ?_)
        go_simp
        refine hK _ ?_
        clear hK K
      refine wpOrd_do (fun K hK => ?_)
      go_simp
      refine (WA.out _).mono ?_
      rintro e w' ⟨rfl, rfl⟩
      refine hK _ _ (fun _ => ⟨0, rfl⟩) ?_
      clear hK K
      iterate 2
        first
          | refine wpOrd_pure (fun K hK => ?_)
          | refine wpOrd_take (fun K hK => ?_)
        go_simp
        refine hK _ ?_
        clear hK K
      refine wpOrd_do (fun K hK => ?_)
      go_simp
      refine hK _ _ (fun _ => ⟨_, rfl⟩) ?_
      clear hK K
      generalize fval .quo Z 4607182418800017408 (floatOfInt .f64 (IntKind.i64.wrap (1 + sm % 100000))) = AT at *
      generalize ndraw .quo 4607182418800017408 (floatOfInt .f64 (IntKind.i64.wrap (1 + sm % 100000))) = nd at *
      have hbD := below_drewN hbZ nd
      generalize Z.drewN nd = Y at *
      refine wpOrd_do (fun K hK => ?_)
      go_simp
      refine (rweights_tells _ N (by omega) _ _ _ Y (HRW.out.below hbD)).mono ?_
      rintro e wd ⟨vw, rfl, hvw, hba⟩
      have hbE := hbD.trans (hba.mono hbD.size)
      have HXD := Lib.hid (show CtxAt wd N T (.slice ta T.len tc) (.slice tb T.lo td) (.slice (some ⟨G, 0, none⟩) (O + 1) cG) vl vw (O + 1) QF LF (wtF (QF 0) AT 4576918229304087675) from ⟨(HTX.out.below HBC.out).below hbE, HZC.out.below hbE, HLC.out.below hbE, hvw⟩)
      have HBD := Lib.hid (HBC.out.trans (hbE.mono HBC.out.size))
      refine hK _ _ (fun h => Bool.noConfusion (Eq.trans (Eq.symm (by kernel_rfl : _ = false)) h)) ?_
      clear hK K hvw hba hbE hbD hbZ hzl q0
      iterate 1
        first
          | refine wpOrd_pure (fun K hK => ?_)
          | refine wpOrd_take (fun K hK => ?_)
        go_simp
        refine hK _ ?_
        clear hK K
      refine wpOrd_nil ?_
      clear Z Y
      have SV := Lib.hid (fun W (hW : Below wd.heap.size wd W) => (hH ▸ corr_any N T _ _ _ _ _ (O + 1) (14 + S) M QF LF _ W (HXD.out.below hW) HTK.out HTC.out HTN.out (by omega) (by omega) (by omega) (by omega) hM2 : Calls Try.prog 10 #[.agg #[.int .i64 N, .slice ta T.len tc, .slice tb T.lo td], .slice (some ⟨G, 0, none⟩) (O + 1) cG, vl, .int .i64 H, .int .i64 M, vw] W (SumT N (corrF T QF (wtF (QF 0) AT 4576918229304087675) (LF 0) (lenF H) N (M == 1)) W)).mono fun e w' h => (h.q (by omega)))
      have SW := Lib.hid (fun W (hW : Below wd.heap.size wd W) => (rcorr_any N T _ _ _ _ _ (O + 1) H M QF LF _ W (HXD.out.below hW) HTK.out HTC.out HTN.out (by omega) (by omega) (by omega) hM2).mono fun e w' h => (h.q (by omega)))
      generalize corrF T QF (wtF (QF 0) AT 4576918229304087675) (LF 0) (lenF H) N (M == 1) = SD at *
      obtain ⟨D, hD⟩ : ∃ D : Nat, (if SD.has then N else 0) = D := ⟨_, rfl⟩
      have hD4 : D ≤ 4 := by rw [← hD]; split <;> omega
      unfold SumQ at SV SW
      simp only [hD] at SV SW
      clear hD hH
      have qq := HBD.out.block P pl0
      rw [HX1.out] at qq
      have e0 := at_block qq 0
      have e1 := at_block qq 1
      have e2 := at_block qq 2
      have el := lt_block qq
      simp only [List.getElem?_toArray, List.getElem?_cons_zero, List.getElem?_cons_succ] at e0 e1 e2
      clear qq
      have HB0 := Lib.hid (hB)
      go_upto_region 17 with fail
      go_cut [27, 28] (fun a b wx => ∃ (P2 Q2 : Nat) (p2 q2 : Option Addr) (c2 d2 : Nat), a = .pointer (some ⟨P2, 0, none⟩) ∧ b = .pointer (some ⟨Q2, 0, none⟩) ∧ wx.heap[P2]? = some (.cells #[.slice p2 D c2, .int .i64 SD.tries, .int .i64 SD.e] 39) ∧ wx.heap[Q2]? = some (.cells #[.slice q2 D d2, .int .i64 SD.tries, .int .i64 SD.e] 42) ∧ FRow wx (.slice p2 D c2) D SD.d ∧ FRow wx (.slice q2 D d2) D SD.d ∧ Below wd.heap.size wd wx)
      case first =>
        refine wp_region_tree (.op 0 3 (.op 1 1 (.op 2 1 (.op 3 1 (.op 4 1 (.op 5 1 (.op 7 3 (.op 8 1 (.op 9 1 (.op 10 1 (.op 11 1 (.op 12 1 (.alt 6 (.alt 13 (.alt 14 (.alt 15 (.alt 16 (.alt 17 .nil .stop) .stop) (.alt 16 (.alt 15 (.alt 17 .nil .stop) .stop) .stop)) (.alt 15 (.alt 14 (.alt 16 (.alt 17 .nil .stop) .stop) .stop) .stop)) (.alt 14 (.alt 13 (.alt 15 (.alt 16 (.alt 17 .nil .stop) .stop) (.alt 16 (.alt 15 (.alt 17 .nil .stop) .stop) .stop)) (.alt 15 (.alt 13 (.alt 16 (.alt 17 .nil .stop) .stop) .stop) .stop)) (.alt 15 (.alt 13 (.alt 14 (.alt 16 (.alt 17 .nil .stop) .stop) .stop) (.alt 14 (.alt 13 (.alt 16 (.alt 17 .nil .stop) .stop) .stop) .stop)) .stop))) (.alt 14 (.alt 6 (.alt 13 (.alt 15 (.alt 16 (.alt 17 .nil .stop) .stop) (.alt 16 (.alt 15 (.alt 17 .nil .stop) .stop) .stop)) (.alt 15 (.alt 13 (.alt 16 (.alt 17 .nil .stop) .stop) .stop) .stop)) (.alt 15 (.alt 6 (.alt 13 (.alt 16 (.alt 17 .nil .stop) .stop) .stop) .stop) .stop)) (.alt 15 (.alt 6 (.alt 13 (.alt 14 (.alt 16 (.alt 17 .nil .stop) .stop) .stop) (.alt 14 (.alt 13 (.alt 16 (.alt 17 .nil .stop) .stop) .stop) .stop)) (.alt 14 (.alt 6 (.alt 13 (.alt 16 (.alt 17 .nil .stop) .stop) .stop) .stop) .stop)) .stop))))))))))))))) [6, 13, 14, 15, 16, 17] [0, 7] (fun W => Below wd.heap.size wd W) (by kernel_rfl) (by kernel_rfl) (fun _ _ d _ _ h => by cases d <;> exact h) ((Below.refl _ _).drew) ?_
        intro Z hZ hbZ
        clear hZ
        refine wpTree_keep (v := .agg #[.int .i64 N, .slice ta T.len tc, .slice tb T.lo td]) rfl rfl (fun wk hwk => ?_) ?_
        · rw [← (haCell hwk).1 _ _ el] at e0 e1 e2
          go_simp
        refine wpTree_pure (fun K hK => ?_)
        go_simp
        refine hK _ ?_
        clear hK K
        refine wpTree_pure (fun K hK => ?_)
        go_simp
        refine hK _ ?_
        clear hK K
        refine wpTree_pure (fun K hK => ?_)
        go_simp
        refine hK _ ?_
        clear hK K
        refine wpTree_pure (fun K hK => ?_)
        go_simp
        refine hK _ ?_
        clear hK K
        refine wpTree_pure (fun K hK => ?_)
        go_simp
        refine hK _ ?_
        clear hK K
        refine wpTree_keep (v := .agg #[.int .i64 N, .slice ta T.len tc, .slice tb T.lo td]) rfl rfl (fun wk hwk => ?_) ?_
        · rw [← (haCell hwk).1 _ _ el] at e0 e1 e2
          go_simp
        refine wpTree_pure (fun K hK => ?_)
        go_simp
        refine hK _ ?_
        clear hK K
        refine wpTree_pure (fun K hK => ?_)
        go_simp
        refine hK _ ?_
        clear hK K
        refine wpTree_pure (fun K hK => ?_)
        go_simp
        refine hK _ ?_
        clear hK K
        refine wpTree_pure (fun K hK => ?_)
        go_simp
        refine hK _ ?_
        clear hK K
        refine wpTree_pure (fun K hK => ?_)
        go_simp
        refine hK _ ?_
        clear hK K
        have HBZ0 := Lib.hid hbZ
        clear hbZ e0 e1 e2 el
        refine wpTree_alt (fun K hK => ?_) ?_
        · go_simp
          refine (SV.out Z HBZ0.out).mono ?_
          rintro e V1 ⟨hst, p6, c6, rfl, hrw⟩
          have hbx := HBZ0.out.trans (hst.mono HBZ0.out.size)
          have HF3 := Lib.hid (hrw)
          refine hK _ _ (fun _ => hbx) ?_
          clear hK K
          have HB2 := Lib.hid hbx
          clear hbx hst hrw
          refine wpTree_alt (fun K hK => ?_) ?_
          · go_simp
            refine (SW.out V1 HB2.out).mono ?_
            rintro e V4 ⟨hst, p13, c13, rfl, hrw⟩
            have hbx := HB2.out.trans (hst.mono HB2.out.size)
            have HF6 := Lib.hid (HF3.out.below hst)
            have HF7 := Lib.hid (hrw)
            refine hK _ _ (fun _ => hbx) ?_
            clear hK K
            have HB5 := Lib.hid hbx
            clear hbx hst hrw
            refine wpTree_alt (fun K hK => ?_) ?_
            · go_simp
              obtain ⟨y1, y2, hst⟩ := al1 V4 (.cells #[.slice none 0 0, .int .i64 0, .int .i64 0] 39)
              have hbx := HB5.out.trans (hst.mono HB5.out.size)
              have HF13 := Lib.hid (HF6.out.below hst)
              have HF14 := Lib.hid (HF7.out.below hst)
              have HL12 := Lib.hid (show wd.heap.size ≤ V4.heap.size from HB5.out.size)
              refine hK _ _ (fun _ => hbx) ?_
              clear hK K
              have HB10 := Lib.hid hbx
              have HF11 := Lib.hid y1
              clear y1 y2 hst hbx
              generalize V4.alloc (.cells #[.slice none 0 0, .int .i64 0, .int .i64 0] 39) = V8 at *
              generalize V4.heap.size = k9 at *
              refine wpTree_alt (fun K hK => ?_) ?_
              · go_simp
                obtain ⟨y1, y2, hst⟩ := al1 V8 (.cells #[.slice none 0 0, .int .i64 0, .int .i64 0] 42)
                have hbx := HB10.out.trans (hst.mono HB10.out.size)
                have HF20 := Lib.hid (HF13.out.below hst)
                have HF21 := Lib.hid (HF14.out.below hst)
                have HF22 := Lib.hid ((hst.block k9 (lt_block HF11.out)).trans HF11.out)
                have HL19 := Lib.hid (show wd.heap.size ≤ V8.heap.size from HB10.out.size)
                have HN23 := Lib.hid (show k9 ≠ V8.heap.size from Nat.ne_of_lt (lt_block HF11.out))
                refine hK _ _ (fun _ => hbx) ?_
                clear hK K
                have HB17 := Lib.hid hbx
                have HF18 := Lib.hid y1
                clear y1 y2 hst hbx
                generalize V8.alloc (.cells #[.slice none 0 0, .int .i64 0, .int .i64 0] 42) = V15 at *
                generalize V8.heap.size = k16 at *
                refine wpTree_alt (fun K hK => ?_) ?_
                · have c0 := at_block HF22.out 0
                  have f0 := free_block HF22.out 0
                  have c1 := at_block HF22.out 1
                  have f1 := free_block HF22.out 1
                  have c2 := at_block HF22.out 2
                  have f2 := free_block HF22.out 2
                  simp only [List.getElem?_toArray, List.getElem?_cons_zero, List.getElem?_cons_succ] at c0 c1 c2
                  go_simp
                  have HB25 := Lib.hid (show Below wd.heap.size wd (((V15.setCell ⟨k9, 0, none⟩ (.slice p6 D c6)).setCell ⟨k9, 1, none⟩ (.int .i64 SD.tries)).setCell ⟨k9, 2, none⟩ (.int .i64 SD.e)) from (((HB17.out.setCell (p := ⟨k9, 0, none⟩) HL12.out _).setCell (p := ⟨k9, 1, none⟩) HL12.out _).setCell (p := ⟨k9, 2, none⟩) HL12.out _))
                  have HF26 := Lib.hid (show (((V15.setCell ⟨k9, 0, none⟩ (.slice p6 D c6)).setCell ⟨k9, 1, none⟩ (.int .i64 SD.tries)).setCell ⟨k9, 2, none⟩ (.int .i64 SD.e)).heap[k9]? = some (.cells #[.slice p6 D c6, .int .i64 SD.tries, .int .i64 SD.e] 39) from (heap_put (heap_put (heap_put HF22.out _) _) _))
                  have HF27 := Lib.hid (HF20.out.keepS (W := (((V15.setCell ⟨k9, 0, none⟩ (.slice p6 D c6)).setCell ⟨k9, 1, none⟩ (.int .i64 SD.tries)).setCell ⟨k9, 2, none⟩ (.int .i64 SD.e))) HF22.out ((((Keep.refl V15 k9).set 0 _).set 1 _).set 2 _))
                  have HF28 := Lib.hid (HF21.out.keepS (W := (((V15.setCell ⟨k9, 0, none⟩ (.slice p6 D c6)).setCell ⟨k9, 1, none⟩ (.int .i64 SD.tries)).setCell ⟨k9, 2, none⟩ (.int .i64 SD.e))) HF22.out ((((Keep.refl V15 k9).set 0 _).set 1 _).set 2 _))
                  have HF29 := Lib.hid (show (((V15.setCell ⟨k9, 0, none⟩ (.slice p6 D c6)).setCell ⟨k9, 1, none⟩ (.int .i64 SD.tries)).setCell ⟨k9, 2, none⟩ (.int .i64 SD.e)).heap[k16]? = _ from ((Below.heap_setCell _ _ _ _ (Ne.symm HN23.out)).trans ((Below.heap_setCell _ _ _ _ (Ne.symm HN23.out)).trans (Below.heap_setCell _ _ _ _ (Ne.symm HN23.out)))).trans HF18.out)
                  refine hK _ _ (fun _ => HB25.out) ?_
                  clear hK K c0 f0 c1 f1 c2 f2
                  generalize (((V15.setCell ⟨k9, 0, none⟩ (.slice p6 D c6)).setCell ⟨k9, 1, none⟩ (.int .i64 SD.tries)).setCell ⟨k9, 2, none⟩ (.int .i64 SD.e)) = V24 at *
                  refine wpTree_alt (fun K hK => ?_) ?_
                  · have c0 := at_block HF29.out 0
                    have f0 := free_block HF29.out 0
                    have c1 := at_block HF29.out 1
                    have f1 := free_block HF29.out 1
                    have c2 := at_block HF29.out 2
                    have f2 := free_block HF29.out 2
                    simp only [List.getElem?_toArray, List.getElem?_cons_zero, List.getElem?_cons_succ] at c0 c1 c2
                    go_simp
                    have HB31 := Lib.hid (show Below wd.heap.size wd (((V24.setCell ⟨k16, 0, none⟩ (.slice p13 D c13)).setCell ⟨k16, 1, none⟩ (.int .i64 SD.tries)).setCell ⟨k16, 2, none⟩ (.int .i64 SD.e)) from (((HB25.out.setCell (p := ⟨k16, 0, none⟩) HL19.out _).setCell (p := ⟨k16, 1, none⟩) HL19.out _).setCell (p := ⟨k16, 2, none⟩) HL19.out _))
                    have HF32 := Lib.hid (show (((V24.setCell ⟨k16, 0, none⟩ (.slice p13 D c13)).setCell ⟨k16, 1, none⟩ (.int .i64 SD.tries)).setCell ⟨k16, 2, none⟩ (.int .i64 SD.e)).heap[k16]? = some (.cells #[.slice p13 D c13, .int .i64 SD.tries, .int .i64 SD.e] 42) from (heap_put (heap_put (heap_put HF29.out _) _) _))
                    have HF33 := Lib.hid (HF27.out.keepS (W := (((V24.setCell ⟨k16, 0, none⟩ (.slice p13 D c13)).setCell ⟨k16, 1, none⟩ (.int .i64 SD.tries)).setCell ⟨k16, 2, none⟩ (.int .i64 SD.e))) HF29.out ((((Keep.refl V24 k16).set 0 _).set 1 _).set 2 _))
                    have HF34 := Lib.hid (HF28.out.keepS (W := (((V24.setCell ⟨k16, 0, none⟩ (.slice p13 D c13)).setCell ⟨k16, 1, none⟩ (.int .i64 SD.tries)).setCell ⟨k16, 2, none⟩ (.int .i64 SD.e))) HF29.out ((((Keep.refl V24 k16).set 0 _).set 1 _).set 2 _))
                    have HF35 := Lib.hid (show (((V24.setCell ⟨k16, 0, none⟩ (.slice p13 D c13)).setCell ⟨k16, 1, none⟩ (.int .i64 SD.tries)).setCell ⟨k16, 2, none⟩ (.int .i64 SD.e)).heap[k9]? = _ from ((Below.heap_setCell _ _ _ _ HN23.out).trans ((Below.heap_setCell _ _ _ _ HN23.out).trans (Below.heap_setCell _ _ _ _ HN23.out))).trans HF26.out)
                    refine hK _ _ (fun _ => HB31.out) ?_
                    clear hK K c0 f0 c1 f1 c2 f2
                    generalize (((V24.setCell ⟨k16, 0, none⟩ (.slice p13 D c13)).setCell ⟨k16, 1, none⟩ (.int .i64 SD.tries)).setCell ⟨k16, 2, none⟩ (.int .i64 SD.e)) = V30 at *
                    refine wpTree_nil ?_
                    go_wp2_with fail
                    go_meet
                    exact ⟨k9, k16, p6, p13, c6, c13, rfl, rfl, HF35.out, HF32.out, HF33.out, HF34.out, HB31.out⟩
                  exact wpTree_stop
                exact wpTree_stop
              refine wpTree_alt (fun K hK => ?_) ?_
              · have c0 := at_block HF11.out 0
                have f0 := free_block HF11.out 0
                have c1 := at_block HF11.out 1
                have f1 := free_block HF11.out 1
                have c2 := at_block HF11.out 2
                have f2 := free_block HF11.out 2
                simp only [List.getElem?_toArray, List.getElem?_cons_zero, List.getElem?_cons_succ] at c0 c1 c2
                go_simp
                have HB37 := Lib.hid (show Below wd.heap.size wd (((V8.setCell ⟨k9, 0, none⟩ (.slice p6 D c6)).setCell ⟨k9, 1, none⟩ (.int .i64 SD.tries)).setCell ⟨k9, 2, none⟩ (.int .i64 SD.e)) from (((HB10.out.setCell (p := ⟨k9, 0, none⟩) HL12.out _).setCell (p := ⟨k9, 1, none⟩) HL12.out _).setCell (p := ⟨k9, 2, none⟩) HL12.out _))
                have HF38 := Lib.hid (show (((V8.setCell ⟨k9, 0, none⟩ (.slice p6 D c6)).setCell ⟨k9, 1, none⟩ (.int .i64 SD.tries)).setCell ⟨k9, 2, none⟩ (.int .i64 SD.e)).heap[k9]? = some (.cells #[.slice p6 D c6, .int .i64 SD.tries, .int .i64 SD.e] 39) from (heap_put (heap_put (heap_put HF11.out _) _) _))
                have HF39 := Lib.hid (HF13.out.keepS (W := (((V8.setCell ⟨k9, 0, none⟩ (.slice p6 D c6)).setCell ⟨k9, 1, none⟩ (.int .i64 SD.tries)).setCell ⟨k9, 2, none⟩ (.int .i64 SD.e))) HF11.out ((((Keep.refl V8 k9).set 0 _).set 1 _).set 2 _))
                have HF40 := Lib.hid (HF14.out.keepS (W := (((V8.setCell ⟨k9, 0, none⟩ (.slice p6 D c6)).setCell ⟨k9, 1, none⟩ (.int .i64 SD.tries)).setCell ⟨k9, 2, none⟩ (.int .i64 SD.e))) HF11.out ((((Keep.refl V8 k9).set 0 _).set 1 _).set 2 _))
                refine hK _ _ (fun _ => HB37.out) ?_
                clear hK K c0 f0 c1 f1 c2 f2
                generalize (((V8.setCell ⟨k9, 0, none⟩ (.slice p6 D c6)).setCell ⟨k9, 1, none⟩ (.int .i64 SD.tries)).setCell ⟨k9, 2, none⟩ (.int .i64 SD.e)) = V36 at *
                refine wpTree_alt (fun K hK => ?_) ?_
                · go_simp
                  obtain ⟨y1, y2, hst⟩ := al1 V36 (.cells #[.slice none 0 0, .int .i64 0, .int .i64 0] 42)
                  have hbx := HB37.out.trans (hst.mono HB37.out.size)
                  have HF46 := Lib.hid (HF39.out.below hst)
                  have HF47 := Lib.hid (HF40.out.below hst)
                  have HF48 := Lib.hid ((hst.block k9 (lt_block HF38.out)).trans HF38.out)
                  have HL45 := Lib.hid (show wd.heap.size ≤ V36.heap.size from HB37.out.size)
                  have HN49 := Lib.hid (show k9 ≠ V36.heap.size from Nat.ne_of_lt (lt_block HF38.out))
                  refine hK _ _ (fun _ => hbx) ?_
                  clear hK K
                  have HB43 := Lib.hid hbx
                  have HF44 := Lib.hid y1
                  clear y1 y2 hst hbx
                  generalize V36.alloc (.cells #[.slice none 0 0, .int .i64 0, .int .i64 0] 42) = V41 at *
                  generalize V36.heap.size = k42 at *
                  refine wpTree_alt (fun K hK => ?_) ?_
                  · have c0 := at_block HF44.out 0
                    have f0 := free_block HF44.out 0
                    have c1 := at_block HF44.out 1
                    have f1 := free_block HF44.out 1
                    have c2 := at_block HF44.out 2
                    have f2 := free_block HF44.out 2
                    simp only [List.getElem?_toArray, List.getElem?_cons_zero, List.getElem?_cons_succ] at c0 c1 c2
                    go_simp
                    have HB51 := Lib.hid (show Below wd.heap.size wd (((V41.setCell ⟨k42, 0, none⟩ (.slice p13 D c13)).setCell ⟨k42, 1, none⟩ (.int .i64 SD.tries)).setCell ⟨k42, 2, none⟩ (.int .i64 SD.e)) from (((HB43.out.setCell (p := ⟨k42, 0, none⟩) HL45.out _).setCell (p := ⟨k42, 1, none⟩) HL45.out _).setCell (p := ⟨k42, 2, none⟩) HL45.out _))
                    have HF52 := Lib.hid (show (((V41.setCell ⟨k42, 0, none⟩ (.slice p13 D c13)).setCell ⟨k42, 1, none⟩ (.int .i64 SD.tries)).setCell ⟨k42, 2, none⟩ (.int .i64 SD.e)).heap[k42]? = some (.cells #[.slice p13 D c13, .int .i64 SD.tries, .int .i64 SD.e] 42) from (heap_put (heap_put (heap_put HF44.out _) _) _))
                    have HF53 := Lib.hid (HF46.out.keepS (W := (((V41.setCell ⟨k42, 0, none⟩ (.slice p13 D c13)).setCell ⟨k42, 1, none⟩ (.int .i64 SD.tries)).setCell ⟨k42, 2, none⟩ (.int .i64 SD.e))) HF44.out ((((Keep.refl V41 k42).set 0 _).set 1 _).set 2 _))
                    have HF54 := Lib.hid (HF47.out.keepS (W := (((V41.setCell ⟨k42, 0, none⟩ (.slice p13 D c13)).setCell ⟨k42, 1, none⟩ (.int .i64 SD.tries)).setCell ⟨k42, 2, none⟩ (.int .i64 SD.e))) HF44.out ((((Keep.refl V41 k42).set 0 _).set 1 _).set 2 _))
                    have HF55 := Lib.hid (show (((V41.setCell ⟨k42, 0, none⟩ (.slice p13 D c13)).setCell ⟨k42, 1, none⟩ (.int .i64 SD.tries)).setCell ⟨k42, 2, none⟩ (.int .i64 SD.e)).heap[k9]? = _ from ((Below.heap_setCell _ _ _ _ HN49.out).trans ((Below.heap_setCell _ _ _ _ HN49.out).trans (Below.heap_setCell _ _ _ _ HN49.out))).trans HF48.out)
                    refine hK _ _ (fun _ => HB51.out) ?_
                    clear hK K c0 f0 c1 f1 c2 f2
                    generalize (((V41.setCell ⟨k42, 0, none⟩ (.slice p13 D c13)).setCell ⟨k42, 1, none⟩ (.int .i64 SD.tries)).setCell ⟨k42, 2, none⟩ (.int .i64 SD.e)) = V50 at *
                    refine wpTree_nil ?_
                    go_wp2_with fail
                    go_meet
                    exact ⟨k9, k42, p6, p13, c6, c13, rfl, rfl, HF55.out, HF52.out, HF53.out, HF54.out, HB51.out⟩
                  exact wpTree_stop
                exact wpTree_stop
              exact wpTree_stop
            refine wpTree_alt (fun K hK => ?_) ?_
            · go_simp
              obtain ⟨y1, y2, hst⟩ := al1 V4 (.cells #[.slice none 0 0, .int .i64 0, .int .i64 0] 42)
              have hbx := HB5.out.trans (hst.mono HB5.out.size)
              have HF61 := Lib.hid (HF6.out.below hst)
              have HF62 := Lib.hid (HF7.out.below hst)
              have HL60 := Lib.hid (show wd.heap.size ≤ V4.heap.size from HB5.out.size)
              refine hK _ _ (fun _ => hbx) ?_
              clear hK K
              have HB58 := Lib.hid hbx
              have HF59 := Lib.hid y1
              clear y1 y2 hst hbx
              generalize V4.alloc (.cells #[.slice none 0 0, .int .i64 0, .int .i64 0] 42) = V56 at *
              generalize V4.heap.size = k57 at *
              refine wpTree_alt (fun K hK => ?_) ?_
              · go_simp
                obtain ⟨y1, y2, hst⟩ := al1 V56 (.cells #[.slice none 0 0, .int .i64 0, .int .i64 0] 39)
                have hbx := HB58.out.trans (hst.mono HB58.out.size)
                have HF68 := Lib.hid (HF61.out.below hst)
                have HF69 := Lib.hid (HF62.out.below hst)
                have HF70 := Lib.hid ((hst.block k57 (lt_block HF59.out)).trans HF59.out)
                have HL67 := Lib.hid (show wd.heap.size ≤ V56.heap.size from HB58.out.size)
                have HN71 := Lib.hid (show k57 ≠ V56.heap.size from Nat.ne_of_lt (lt_block HF59.out))
                refine hK _ _ (fun _ => hbx) ?_
                clear hK K
                have HB65 := Lib.hid hbx
                have HF66 := Lib.hid y1
                clear y1 y2 hst hbx
                generalize V56.alloc (.cells #[.slice none 0 0, .int .i64 0, .int .i64 0] 39) = V63 at *
                generalize V56.heap.size = k64 at *
                refine wpTree_alt (fun K hK => ?_) ?_
                · have c0 := at_block HF66.out 0
                  have f0 := free_block HF66.out 0
                  have c1 := at_block HF66.out 1
                  have f1 := free_block HF66.out 1
                  have c2 := at_block HF66.out 2
                  have f2 := free_block HF66.out 2
                  simp only [List.getElem?_toArray, List.getElem?_cons_zero, List.getElem?_cons_succ] at c0 c1 c2
                  go_simp
                  have HB73 := Lib.hid (show Below wd.heap.size wd (((V63.setCell ⟨k64, 0, none⟩ (.slice p6 D c6)).setCell ⟨k64, 1, none⟩ (.int .i64 SD.tries)).setCell ⟨k64, 2, none⟩ (.int .i64 SD.e)) from (((HB65.out.setCell (p := ⟨k64, 0, none⟩) HL67.out _).setCell (p := ⟨k64, 1, none⟩) HL67.out _).setCell (p := ⟨k64, 2, none⟩) HL67.out _))
                  have HF74 := Lib.hid (show (((V63.setCell ⟨k64, 0, none⟩ (.slice p6 D c6)).setCell ⟨k64, 1, none⟩ (.int .i64 SD.tries)).setCell ⟨k64, 2, none⟩ (.int .i64 SD.e)).heap[k64]? = some (.cells #[.slice p6 D c6, .int .i64 SD.tries, .int .i64 SD.e] 39) from (heap_put (heap_put (heap_put HF66.out _) _) _))
                  have HF75 := Lib.hid (HF68.out.keepS (W := (((V63.setCell ⟨k64, 0, none⟩ (.slice p6 D c6)).setCell ⟨k64, 1, none⟩ (.int .i64 SD.tries)).setCell ⟨k64, 2, none⟩ (.int .i64 SD.e))) HF66.out ((((Keep.refl V63 k64).set 0 _).set 1 _).set 2 _))
                  have HF76 := Lib.hid (HF69.out.keepS (W := (((V63.setCell ⟨k64, 0, none⟩ (.slice p6 D c6)).setCell ⟨k64, 1, none⟩ (.int .i64 SD.tries)).setCell ⟨k64, 2, none⟩ (.int .i64 SD.e))) HF66.out ((((Keep.refl V63 k64).set 0 _).set 1 _).set 2 _))
                  have HF77 := Lib.hid (show (((V63.setCell ⟨k64, 0, none⟩ (.slice p6 D c6)).setCell ⟨k64, 1, none⟩ (.int .i64 SD.tries)).setCell ⟨k64, 2, none⟩ (.int .i64 SD.e)).heap[k57]? = _ from ((Below.heap_setCell _ _ _ _ HN71.out).trans ((Below.heap_setCell _ _ _ _ HN71.out).trans (Below.heap_setCell _ _ _ _ HN71.out))).trans HF70.out)
                  refine hK _ _ (fun _ => HB73.out) ?_
                  clear hK K c0 f0 c1 f1 c2 f2
                  generalize (((V63.setCell ⟨k64, 0, none⟩ (.slice p6 D c6)).setCell ⟨k64, 1, none⟩ (.int .i64 SD.tries)).setCell ⟨k64, 2, none⟩ (.int .i64 SD.e)) = V72 at *
                  refine wpTree_alt (fun K hK => ?_) ?_
                  · have c0 := at_block HF77.out 0
                    have f0 := free_block HF77.out 0
                    have c1 := at_block HF77.out 1
                    have f1 := free_block HF77.out 1
                    have c2 := at_block HF77.out 2
                    have f2 := free_block HF77.out 2
                    simp only [List.getElem?_toArray, List.getElem?_cons_zero, List.getElem?_cons_succ] at c0 c1 c2
                    go_simp
                    have HB79 := Lib.hid (show Below wd.heap.size wd (((V72.setCell ⟨k57, 0, none⟩ (.slice p13 D c13)).setCell ⟨k57, 1, none⟩ (.int .i64 SD.tries)).setCell ⟨k57, 2, none⟩ (.int .i64 SD.e)) from (((HB73.out.setCell (p := ⟨k57, 0, none⟩) HL60.out _).setCell (p := ⟨k57, 1, none⟩) HL60.out _).setCell (p := ⟨k57, 2, none⟩) HL60.out _))
                    have HF80 := Lib.hid (show (((V72.setCell ⟨k57, 0, none⟩ (.slice p13 D c13)).setCell ⟨k57, 1, none⟩ (.int .i64 SD.tries)).setCell ⟨k57, 2, none⟩ (.int .i64 SD.e)).heap[k57]? = some (.cells #[.slice p13 D c13, .int .i64 SD.tries, .int .i64 SD.e] 42) from (heap_put (heap_put (heap_put HF77.out _) _) _))
                    have HF81 := Lib.hid (HF75.out.keepS (W := (((V72.setCell ⟨k57, 0, none⟩ (.slice p13 D c13)).setCell ⟨k57, 1, none⟩ (.int .i64 SD.tries)).setCell ⟨k57, 2, none⟩ (.int .i64 SD.e))) HF77.out ((((Keep.refl V72 k57).set 0 _).set 1 _).set 2 _))
                    have HF82 := Lib.hid (HF76.out.keepS (W := (((V72.setCell ⟨k57, 0, none⟩ (.slice p13 D c13)).setCell ⟨k57, 1, none⟩ (.int .i64 SD.tries)).setCell ⟨k57, 2, none⟩ (.int .i64 SD.e))) HF77.out ((((Keep.refl V72 k57).set 0 _).set 1 _).set 2 _))
                    have HF83 := Lib.hid (show (((V72.setCell ⟨k57, 0, none⟩ (.slice p13 D c13)).setCell ⟨k57, 1, none⟩ (.int .i64 SD.tries)).setCell ⟨k57, 2, none⟩ (.int .i64 SD.e)).heap[k64]? = _ from ((Below.heap_setCell _ _ _ _ (Ne.symm HN71.out)).trans ((Below.heap_setCell _ _ _ _ (Ne.symm HN71.out)).trans (Below.heap_setCell _ _ _ _ (Ne.symm HN71.out)))).trans HF74.out)
                    refine hK _ _ (fun _ => HB79.out) ?_
                    clear hK K c0 f0 c1 f1 c2 f2
                    generalize (((V72.setCell ⟨k57, 0, none⟩ (.slice p13 D c13)).setCell ⟨k57, 1, none⟩ (.int .i64 SD.tries)).setCell ⟨k57, 2, none⟩ (.int .i64 SD.e)) = V78 at *
                    refine wpTree_nil ?_
                    go_wp2_with fail
                    go_meet
                    exact ⟨k64, k57, p6, p13, c6, c13, rfl, rfl, HF83.out, HF80.out, HF81.out, HF82.out, HB79.out⟩
                  exact wpTree_stop
                exact wpTree_stop
              exact wpTree_stop
            exact wpTree_stop
          refine wpTree_alt (fun K hK => ?_) ?_
          · go_simp
            obtain ⟨y1, y2, hst⟩ := al1 V1 (.cells #[.slice none 0 0, .int .i64 0, .int .i64 0] 39)
            have hbx := HB2.out.trans (hst.mono HB2.out.size)
            have HF89 := Lib.hid (HF3.out.below hst)
            have HL88 := Lib.hid (show wd.heap.size ≤ V1.heap.size from HB2.out.size)
            refine hK _ _ (fun _ => hbx) ?_
            clear hK K
            have HB86 := Lib.hid hbx
            have HF87 := Lib.hid y1
            clear y1 y2 hst hbx
            generalize V1.alloc (.cells #[.slice none 0 0, .int .i64 0, .int .i64 0] 39) = V84 at *
            generalize V1.heap.size = k85 at *
            refine wpTree_alt (fun K hK => ?_) ?_
            · go_simp
              refine (SW.out V84 HB86.out).mono ?_
              rintro e V90 ⟨hst, p13, c13, rfl, hrw⟩
              have hbx := HB86.out.trans (hst.mono HB86.out.size)
              have HF92 := Lib.hid (HF89.out.below hst)
              have HF93 := Lib.hid ((hst.block k85 (lt_block HF87.out)).trans HF87.out)
              have HF94 := Lib.hid (hrw)
              refine hK _ _ (fun _ => hbx) ?_
              clear hK K
              have HB91 := Lib.hid hbx
              clear hbx hst hrw
              refine wpTree_alt (fun K hK => ?_) ?_
              · go_simp
                obtain ⟨y1, y2, hst⟩ := al1 V90 (.cells #[.slice none 0 0, .int .i64 0, .int .i64 0] 42)
                have hbx := HB91.out.trans (hst.mono HB91.out.size)
                have HF100 := Lib.hid (HF92.out.below hst)
                have HF101 := Lib.hid ((hst.block k85 (lt_block HF93.out)).trans HF93.out)
                have HF102 := Lib.hid (HF94.out.below hst)
                have HL99 := Lib.hid (show wd.heap.size ≤ V90.heap.size from HB91.out.size)
                have HN103 := Lib.hid (show k85 ≠ V90.heap.size from Nat.ne_of_lt (lt_block HF93.out))
                refine hK _ _ (fun _ => hbx) ?_
                clear hK K
                have HB97 := Lib.hid hbx
                have HF98 := Lib.hid y1
                clear y1 y2 hst hbx
                generalize V90.alloc (.cells #[.slice none 0 0, .int .i64 0, .int .i64 0] 42) = V95 at *
                generalize V90.heap.size = k96 at *
                refine wpTree_alt (fun K hK => ?_) ?_
                · have c0 := at_block HF101.out 0
                  have f0 := free_block HF101.out 0
                  have c1 := at_block HF101.out 1
                  have f1 := free_block HF101.out 1
                  have c2 := at_block HF101.out 2
                  have f2 := free_block HF101.out 2
                  simp only [List.getElem?_toArray, List.getElem?_cons_zero, List.getElem?_cons_succ] at c0 c1 c2
                  go_simp
                  have HB105 := Lib.hid (show Below wd.heap.size wd (((V95.setCell ⟨k85, 0, none⟩ (.slice p6 D c6)).setCell ⟨k85, 1, none⟩ (.int .i64 SD.tries)).setCell ⟨k85, 2, none⟩ (.int .i64 SD.e)) from (((HB97.out.setCell (p := ⟨k85, 0, none⟩) HL88.out _).setCell (p := ⟨k85, 1, none⟩) HL88.out _).setCell (p := ⟨k85, 2, none⟩) HL88.out _))
                  have HF106 := Lib.hid (show (((V95.setCell ⟨k85, 0, none⟩ (.slice p6 D c6)).setCell ⟨k85, 1, none⟩ (.int .i64 SD.tries)).setCell ⟨k85, 2, none⟩ (.int .i64 SD.e)).heap[k85]? = some (.cells #[.slice p6 D c6, .int .i64 SD.tries, .int .i64 SD.e] 39) from (heap_put (heap_put (heap_put HF101.out _) _) _))
                  have HF107 := Lib.hid (HF100.out.keepS (W := (((V95.setCell ⟨k85, 0, none⟩ (.slice p6 D c6)).setCell ⟨k85, 1, none⟩ (.int .i64 SD.tries)).setCell ⟨k85, 2, none⟩ (.int .i64 SD.e))) HF101.out ((((Keep.refl V95 k85).set 0 _).set 1 _).set 2 _))
                  have HF108 := Lib.hid (HF102.out.keepS (W := (((V95.setCell ⟨k85, 0, none⟩ (.slice p6 D c6)).setCell ⟨k85, 1, none⟩ (.int .i64 SD.tries)).setCell ⟨k85, 2, none⟩ (.int .i64 SD.e))) HF101.out ((((Keep.refl V95 k85).set 0 _).set 1 _).set 2 _))
                  have HF109 := Lib.hid (show (((V95.setCell ⟨k85, 0, none⟩ (.slice p6 D c6)).setCell ⟨k85, 1, none⟩ (.int .i64 SD.tries)).setCell ⟨k85, 2, none⟩ (.int .i64 SD.e)).heap[k96]? = _ from ((Below.heap_setCell _ _ _ _ (Ne.symm HN103.out)).trans ((Below.heap_setCell _ _ _ _ (Ne.symm HN103.out)).trans (Below.heap_setCell _ _ _ _ (Ne.symm HN103.out)))).trans HF98.out)
                  refine hK _ _ (fun _ => HB105.out) ?_
                  clear hK K c0 f0 c1 f1 c2 f2
                  generalize (((V95.setCell ⟨k85, 0, none⟩ (.slice p6 D c6)).setCell ⟨k85, 1, none⟩ (.int .i64 SD.tries)).setCell ⟨k85, 2, none⟩ (.int .i64 SD.e)) = V104 at *
                  refine wpTree_alt (fun K hK => ?_) ?_
                  · have c0 := at_block HF109.out 0
                    have f0 := free_block HF109.out 0
                    have c1 := at_block HF109.out 1
                    have f1 := free_block HF109.out 1
                    have c2 := at_block HF109.out 2
                    have f2 := free_block HF109.out 2
                    simp only [List.getElem?_toArray, List.getElem?_cons_zero, List.getElem?_cons_succ] at c0 c1 c2
                    go_simp
                    have HB111 := Lib.hid (show Below wd.heap.size wd (((V104.setCell ⟨k96, 0, none⟩ (.slice p13 D c13)).setCell ⟨k96, 1, none⟩ (.int .i64 SD.tries)).setCell ⟨k96, 2, none⟩ (.int .i64 SD.e)) from (((HB105.out.setCell (p := ⟨k96, 0, none⟩) HL99.out _).setCell (p := ⟨k96, 1, none⟩) HL99.out _).setCell (p := ⟨k96, 2, none⟩) HL99.out _))
                    have HF112 := Lib.hid (show (((V104.setCell ⟨k96, 0, none⟩ (.slice p13 D c13)).setCell ⟨k96, 1, none⟩ (.int .i64 SD.tries)).setCell ⟨k96, 2, none⟩ (.int .i64 SD.e)).heap[k96]? = some (.cells #[.slice p13 D c13, .int .i64 SD.tries, .int .i64 SD.e] 42) from (heap_put (heap_put (heap_put HF109.out _) _) _))
                    have HF113 := Lib.hid (HF107.out.keepS (W := (((V104.setCell ⟨k96, 0, none⟩ (.slice p13 D c13)).setCell ⟨k96, 1, none⟩ (.int .i64 SD.tries)).setCell ⟨k96, 2, none⟩ (.int .i64 SD.e))) HF109.out ((((Keep.refl V104 k96).set 0 _).set 1 _).set 2 _))
                    have HF114 := Lib.hid (show (((V104.setCell ⟨k96, 0, none⟩ (.slice p13 D c13)).setCell ⟨k96, 1, none⟩ (.int .i64 SD.tries)).setCell ⟨k96, 2, none⟩ (.int .i64 SD.e)).heap[k85]? = _ from ((Below.heap_setCell _ _ _ _ HN103.out).trans ((Below.heap_setCell _ _ _ _ HN103.out).trans (Below.heap_setCell _ _ _ _ HN103.out))).trans HF106.out)
                    have HF115 := Lib.hid (HF108.out.keepS (W := (((V104.setCell ⟨k96, 0, none⟩ (.slice p13 D c13)).setCell ⟨k96, 1, none⟩ (.int .i64 SD.tries)).setCell ⟨k96, 2, none⟩ (.int .i64 SD.e))) HF109.out ((((Keep.refl V104 k96).set 0 _).set 1 _).set 2 _))
                    refine hK _ _ (fun _ => HB111.out) ?_
                    clear hK K c0 f0 c1 f1 c2 f2
                    generalize (((V104.setCell ⟨k96, 0, none⟩ (.slice p13 D c13)).setCell ⟨k96, 1, none⟩ (.int .i64 SD.tries)).setCell ⟨k96, 2, none⟩ (.int .i64 SD.e)) = V110 at *
                    refine wpTree_nil ?_
                    go_wp2_with fail
                    go_meet
                    exact ⟨k85, k96, p6, p13, c6, c13, rfl, rfl, HF114.out, HF112.out, HF113.out, HF115.out, HB111.out⟩
                  exact wpTree_stop
                exact wpTree_stop
              refine wpTree_alt (fun K hK => ?_) ?_
              · have c0 := at_block HF93.out 0
                have f0 := free_block HF93.out 0
                have c1 := at_block HF93.out 1
                have f1 := free_block HF93.out 1
                have c2 := at_block HF93.out 2
                have f2 := free_block HF93.out 2
                simp only [List.getElem?_toArray, List.getElem?_cons_zero, List.getElem?_cons_succ] at c0 c1 c2
                go_simp
                have HB117 := Lib.hid (show Below wd.heap.size wd (((V90.setCell ⟨k85, 0, none⟩ (.slice p6 D c6)).setCell ⟨k85, 1, none⟩ (.int .i64 SD.tries)).setCell ⟨k85, 2, none⟩ (.int .i64 SD.e)) from (((HB91.out.setCell (p := ⟨k85, 0, none⟩) HL88.out _).setCell (p := ⟨k85, 1, none⟩) HL88.out _).setCell (p := ⟨k85, 2, none⟩) HL88.out _))
                have HF118 := Lib.hid (show (((V90.setCell ⟨k85, 0, none⟩ (.slice p6 D c6)).setCell ⟨k85, 1, none⟩ (.int .i64 SD.tries)).setCell ⟨k85, 2, none⟩ (.int .i64 SD.e)).heap[k85]? = some (.cells #[.slice p6 D c6, .int .i64 SD.tries, .int .i64 SD.e] 39) from (heap_put (heap_put (heap_put HF93.out _) _) _))
                have HF119 := Lib.hid (HF92.out.keepS (W := (((V90.setCell ⟨k85, 0, none⟩ (.slice p6 D c6)).setCell ⟨k85, 1, none⟩ (.int .i64 SD.tries)).setCell ⟨k85, 2, none⟩ (.int .i64 SD.e))) HF93.out ((((Keep.refl V90 k85).set 0 _).set 1 _).set 2 _))
                have HF120 := Lib.hid (HF94.out.keepS (W := (((V90.setCell ⟨k85, 0, none⟩ (.slice p6 D c6)).setCell ⟨k85, 1, none⟩ (.int .i64 SD.tries)).setCell ⟨k85, 2, none⟩ (.int .i64 SD.e))) HF93.out ((((Keep.refl V90 k85).set 0 _).set 1 _).set 2 _))
                refine hK _ _ (fun _ => HB117.out) ?_
                clear hK K c0 f0 c1 f1 c2 f2
                generalize (((V90.setCell ⟨k85, 0, none⟩ (.slice p6 D c6)).setCell ⟨k85, 1, none⟩ (.int .i64 SD.tries)).setCell ⟨k85, 2, none⟩ (.int .i64 SD.e)) = V116 at *
                refine wpTree_alt (fun K hK => ?_) ?_
                · go_simp
                  obtain ⟨y1, y2, hst⟩ := al1 V116 (.cells #[.slice none 0 0, .int .i64 0, .int .i64 0] 42)
                  have hbx := HB117.out.trans (hst.mono HB117.out.size)
                  have HF126 := Lib.hid (HF119.out.below hst)
                  have HF127 := Lib.hid ((hst.block k85 (lt_block HF118.out)).trans HF118.out)
                  have HF128 := Lib.hid (HF120.out.below hst)
                  have HL125 := Lib.hid (show wd.heap.size ≤ V116.heap.size from HB117.out.size)
                  have HN129 := Lib.hid (show k85 ≠ V116.heap.size from Nat.ne_of_lt (lt_block HF118.out))
                  refine hK _ _ (fun _ => hbx) ?_
                  clear hK K
                  have HB123 := Lib.hid hbx
                  have HF124 := Lib.hid y1
                  clear y1 y2 hst hbx
                  generalize V116.alloc (.cells #[.slice none 0 0, .int .i64 0, .int .i64 0] 42) = V121 at *
                  generalize V116.heap.size = k122 at *
                  refine wpTree_alt (fun K hK => ?_) ?_
                  · have c0 := at_block HF124.out 0
                    have f0 := free_block HF124.out 0
                    have c1 := at_block HF124.out 1
                    have f1 := free_block HF124.out 1
                    have c2 := at_block HF124.out 2
                    have f2 := free_block HF124.out 2
                    simp only [List.getElem?_toArray, List.getElem?_cons_zero, List.getElem?_cons_succ] at c0 c1 c2
                    go_simp
                    have HB131 := Lib.hid (show Below wd.heap.size wd (((V121.setCell ⟨k122, 0, none⟩ (.slice p13 D c13)).setCell ⟨k122, 1, none⟩ (.int .i64 SD.tries)).setCell ⟨k122, 2, none⟩ (.int .i64 SD.e)) from (((HB123.out.setCell (p := ⟨k122, 0, none⟩) HL125.out _).setCell (p := ⟨k122, 1, none⟩) HL125.out _).setCell (p := ⟨k122, 2, none⟩) HL125.out _))
                    have HF132 := Lib.hid (show (((V121.setCell ⟨k122, 0, none⟩ (.slice p13 D c13)).setCell ⟨k122, 1, none⟩ (.int .i64 SD.tries)).setCell ⟨k122, 2, none⟩ (.int .i64 SD.e)).heap[k122]? = some (.cells #[.slice p13 D c13, .int .i64 SD.tries, .int .i64 SD.e] 42) from (heap_put (heap_put (heap_put HF124.out _) _) _))
                    have HF133 := Lib.hid (HF126.out.keepS (W := (((V121.setCell ⟨k122, 0, none⟩ (.slice p13 D c13)).setCell ⟨k122, 1, none⟩ (.int .i64 SD.tries)).setCell ⟨k122, 2, none⟩ (.int .i64 SD.e))) HF124.out ((((Keep.refl V121 k122).set 0 _).set 1 _).set 2 _))
                    have HF134 := Lib.hid (show (((V121.setCell ⟨k122, 0, none⟩ (.slice p13 D c13)).setCell ⟨k122, 1, none⟩ (.int .i64 SD.tries)).setCell ⟨k122, 2, none⟩ (.int .i64 SD.e)).heap[k85]? = _ from ((Below.heap_setCell _ _ _ _ HN129.out).trans ((Below.heap_setCell _ _ _ _ HN129.out).trans (Below.heap_setCell _ _ _ _ HN129.out))).trans HF127.out)
                    have HF135 := Lib.hid (HF128.out.keepS (W := (((V121.setCell ⟨k122, 0, none⟩ (.slice p13 D c13)).setCell ⟨k122, 1, none⟩ (.int .i64 SD.tries)).setCell ⟨k122, 2, none⟩ (.int .i64 SD.e))) HF124.out ((((Keep.refl V121 k122).set 0 _).set 1 _).set 2 _))
                    refine hK _ _ (fun _ => HB131.out) ?_
                    clear hK K c0 f0 c1 f1 c2 f2
                    generalize (((V121.setCell ⟨k122, 0, none⟩ (.slice p13 D c13)).setCell ⟨k122, 1, none⟩ (.int .i64 SD.tries)).setCell ⟨k122, 2, none⟩ (.int .i64 SD.e)) = V130 at *
                    refine wpTree_nil ?_
                    go_wp2_with fail
                    go_meet
                    exact ⟨k85, k122, p6, p13, c6, c13, rfl, rfl, HF134.out, HF132.out, HF133.out, HF135.out, HB131.out⟩
                  exact wpTree_stop
                exact wpTree_stop
              exact wpTree_stop
            refine wpTree_alt (fun K hK => ?_) ?_
            · go_simp
              obtain ⟨y1, y2, hst⟩ := al1 V84 (.cells #[.slice none 0 0, .int .i64 0, .int .i64 0] 42)
              have hbx := HB86.out.trans (hst.mono HB86.out.size)
              have HF141 := Lib.hid (HF89.out.below hst)
              have HF142 := Lib.hid ((hst.block k85 (lt_block HF87.out)).trans HF87.out)
              have HL140 := Lib.hid (show wd.heap.size ≤ V84.heap.size from HB86.out.size)
              have HN143 := Lib.hid (show k85 ≠ V84.heap.size from Nat.ne_of_lt (lt_block HF87.out))
              refine hK _ _ (fun _ => hbx) ?_
              clear hK K
              have HB138 := Lib.hid hbx
              have HF139 := Lib.hid y1
              clear y1 y2 hst hbx
              generalize V84.alloc (.cells #[.slice none 0 0, .int .i64 0, .int .i64 0] 42) = V136 at *
              generalize V84.heap.size = k137 at *
              refine wpTree_alt (fun K hK => ?_) ?_
              · go_simp
                refine (SW.out V136 HB138.out).mono ?_
                rintro e V144 ⟨hst, p13, c13, rfl, hrw⟩
                have hbx := HB138.out.trans (hst.mono HB138.out.size)
                have HF146 := Lib.hid (HF141.out.below hst)
                have HF147 := Lib.hid ((hst.block k85 (lt_block HF142.out)).trans HF142.out)
                have HF148 := Lib.hid ((hst.block k137 (lt_block HF139.out)).trans HF139.out)
                have HF149 := Lib.hid (hrw)
                refine hK _ _ (fun _ => hbx) ?_
                clear hK K
                have HB145 := Lib.hid hbx
                clear hbx hst hrw
                refine wpTree_alt (fun K hK => ?_) ?_
                · have c0 := at_block HF147.out 0
                  have f0 := free_block HF147.out 0
                  have c1 := at_block HF147.out 1
                  have f1 := free_block HF147.out 1
                  have c2 := at_block HF147.out 2
                  have f2 := free_block HF147.out 2
                  simp only [List.getElem?_toArray, List.getElem?_cons_zero, List.getElem?_cons_succ] at c0 c1 c2
                  go_simp
                  have HB151 := Lib.hid (show Below wd.heap.size wd (((V144.setCell ⟨k85, 0, none⟩ (.slice p6 D c6)).setCell ⟨k85, 1, none⟩ (.int .i64 SD.tries)).setCell ⟨k85, 2, none⟩ (.int .i64 SD.e)) from (((HB145.out.setCell (p := ⟨k85, 0, none⟩) HL88.out _).setCell (p := ⟨k85, 1, none⟩) HL88.out _).setCell (p := ⟨k85, 2, none⟩) HL88.out _))
                  have HF152 := Lib.hid (show (((V144.setCell ⟨k85, 0, none⟩ (.slice p6 D c6)).setCell ⟨k85, 1, none⟩ (.int .i64 SD.tries)).setCell ⟨k85, 2, none⟩ (.int .i64 SD.e)).heap[k85]? = some (.cells #[.slice p6 D c6, .int .i64 SD.tries, .int .i64 SD.e] 39) from (heap_put (heap_put (heap_put HF147.out _) _) _))
                  have HF153 := Lib.hid (HF146.out.keepS (W := (((V144.setCell ⟨k85, 0, none⟩ (.slice p6 D c6)).setCell ⟨k85, 1, none⟩ (.int .i64 SD.tries)).setCell ⟨k85, 2, none⟩ (.int .i64 SD.e))) HF147.out ((((Keep.refl V144 k85).set 0 _).set 1 _).set 2 _))
                  have HF154 := Lib.hid (show (((V144.setCell ⟨k85, 0, none⟩ (.slice p6 D c6)).setCell ⟨k85, 1, none⟩ (.int .i64 SD.tries)).setCell ⟨k85, 2, none⟩ (.int .i64 SD.e)).heap[k137]? = _ from ((Below.heap_setCell _ _ _ _ (Ne.symm HN143.out)).trans ((Below.heap_setCell _ _ _ _ (Ne.symm HN143.out)).trans (Below.heap_setCell _ _ _ _ (Ne.symm HN143.out)))).trans HF148.out)
                  have HF155 := Lib.hid (HF149.out.keepS (W := (((V144.setCell ⟨k85, 0, none⟩ (.slice p6 D c6)).setCell ⟨k85, 1, none⟩ (.int .i64 SD.tries)).setCell ⟨k85, 2, none⟩ (.int .i64 SD.e))) HF147.out ((((Keep.refl V144 k85).set 0 _).set 1 _).set 2 _))
                  refine hK _ _ (fun _ => HB151.out) ?_
                  clear hK K c0 f0 c1 f1 c2 f2
                  generalize (((V144.setCell ⟨k85, 0, none⟩ (.slice p6 D c6)).setCell ⟨k85, 1, none⟩ (.int .i64 SD.tries)).setCell ⟨k85, 2, none⟩ (.int .i64 SD.e)) = V150 at *
                  refine wpTree_alt (fun K hK => ?_) ?_
                  · have c0 := at_block HF154.out 0
                    have f0 := free_block HF154.out 0
                    have c1 := at_block HF154.out 1
                    have f1 := free_block HF154.out 1
                    have c2 := at_block HF154.out 2
                    have f2 := free_block HF154.out 2
                    simp only [List.getElem?_toArray, List.getElem?_cons_zero, List.getElem?_cons_succ] at c0 c1 c2
                    go_simp
                    have HB157 := Lib.hid (show Below wd.heap.size wd (((V150.setCell ⟨k137, 0, none⟩ (.slice p13 D c13)).setCell ⟨k137, 1, none⟩ (.int .i64 SD.tries)).setCell ⟨k137, 2, none⟩ (.int .i64 SD.e)) from (((HB151.out.setCell (p := ⟨k137, 0, none⟩) HL140.out _).setCell (p := ⟨k137, 1, none⟩) HL140.out _).setCell (p := ⟨k137, 2, none⟩) HL140.out _))
                    have HF158 := Lib.hid (show (((V150.setCell ⟨k137, 0, none⟩ (.slice p13 D c13)).setCell ⟨k137, 1, none⟩ (.int .i64 SD.tries)).setCell ⟨k137, 2, none⟩ (.int .i64 SD.e)).heap[k137]? = some (.cells #[.slice p13 D c13, .int .i64 SD.tries, .int .i64 SD.e] 42) from (heap_put (heap_put (heap_put HF154.out _) _) _))
                    have HF159 := Lib.hid (HF153.out.keepS (W := (((V150.setCell ⟨k137, 0, none⟩ (.slice p13 D c13)).setCell ⟨k137, 1, none⟩ (.int .i64 SD.tries)).setCell ⟨k137, 2, none⟩ (.int .i64 SD.e))) HF154.out ((((Keep.refl V150 k137).set 0 _).set 1 _).set 2 _))
                    have HF160 := Lib.hid (show (((V150.setCell ⟨k137, 0, none⟩ (.slice p13 D c13)).setCell ⟨k137, 1, none⟩ (.int .i64 SD.tries)).setCell ⟨k137, 2, none⟩ (.int .i64 SD.e)).heap[k85]? = _ from ((Below.heap_setCell _ _ _ _ HN143.out).trans ((Below.heap_setCell _ _ _ _ HN143.out).trans (Below.heap_setCell _ _ _ _ HN143.out))).trans HF152.out)
                    have HF161 := Lib.hid (HF155.out.keepS (W := (((V150.setCell ⟨k137, 0, none⟩ (.slice p13 D c13)).setCell ⟨k137, 1, none⟩ (.int .i64 SD.tries)).setCell ⟨k137, 2, none⟩ (.int .i64 SD.e))) HF154.out ((((Keep.refl V150 k137).set 0 _).set 1 _).set 2 _))
                    refine hK _ _ (fun _ => HB157.out) ?_
                    clear hK K c0 f0 c1 f1 c2 f2
                    generalize (((V150.setCell ⟨k137, 0, none⟩ (.slice p13 D c13)).setCell ⟨k137, 1, none⟩ (.int .i64 SD.tries)).setCell ⟨k137, 2, none⟩ (.int .i64 SD.e)) = V156 at *
                    refine wpTree_nil ?_
                    go_wp2_with fail
                    go_meet
                    exact ⟨k85, k137, p6, p13, c6, c13, rfl, rfl, HF160.out, HF158.out, HF159.out, HF161.out, HB157.out⟩
                  exact wpTree_stop
                exact wpTree_stop
              exact wpTree_stop
            exact wpTree_stop
          refine wpTree_alt (fun K hK => ?_) ?_
          · go_simp
            obtain ⟨y1, y2, hst⟩ := al1 V1 (.cells #[.slice none 0 0, .int .i64 0, .int .i64 0] 42)
            have hbx := HB2.out.trans (hst.mono HB2.out.size)
            have HF167 := Lib.hid (HF3.out.below hst)
            have HL166 := Lib.hid (show wd.heap.size ≤ V1.heap.size from HB2.out.size)
            refine hK _ _ (fun _ => hbx) ?_
            clear hK K
            have HB164 := Lib.hid hbx
            have HF165 := Lib.hid y1
            clear y1 y2 hst hbx
            generalize V1.alloc (.cells #[.slice none 0 0, .int .i64 0, .int .i64 0] 42) = V162 at *
            generalize V1.heap.size = k163 at *
            refine wpTree_alt (fun K hK => ?_) ?_
            · go_simp
              refine (SW.out V162 HB164.out).mono ?_
              rintro e V168 ⟨hst, p13, c13, rfl, hrw⟩
              have hbx := HB164.out.trans (hst.mono HB164.out.size)
              have HF170 := Lib.hid (HF167.out.below hst)
              have HF171 := Lib.hid ((hst.block k163 (lt_block HF165.out)).trans HF165.out)
              have HF172 := Lib.hid (hrw)
              refine hK _ _ (fun _ => hbx) ?_
              clear hK K
              have HB169 := Lib.hid hbx
              clear hbx hst hrw
              refine wpTree_alt (fun K hK => ?_) ?_
              · go_simp
                obtain ⟨y1, y2, hst⟩ := al1 V168 (.cells #[.slice none 0 0, .int .i64 0, .int .i64 0] 39)
                have hbx := HB169.out.trans (hst.mono HB169.out.size)
                have HF178 := Lib.hid (HF170.out.below hst)
                have HF179 := Lib.hid ((hst.block k163 (lt_block HF171.out)).trans HF171.out)
                have HF180 := Lib.hid (HF172.out.below hst)
                have HL177 := Lib.hid (show wd.heap.size ≤ V168.heap.size from HB169.out.size)
                have HN181 := Lib.hid (show k163 ≠ V168.heap.size from Nat.ne_of_lt (lt_block HF171.out))
                refine hK _ _ (fun _ => hbx) ?_
                clear hK K
                have HB175 := Lib.hid hbx
                have HF176 := Lib.hid y1
                clear y1 y2 hst hbx
                generalize V168.alloc (.cells #[.slice none 0 0, .int .i64 0, .int .i64 0] 39) = V173 at *
                generalize V168.heap.size = k174 at *
                refine wpTree_alt (fun K hK => ?_) ?_
                · have c0 := at_block HF176.out 0
                  have f0 := free_block HF176.out 0
                  have c1 := at_block HF176.out 1
                  have f1 := free_block HF176.out 1
                  have c2 := at_block HF176.out 2
                  have f2 := free_block HF176.out 2
                  simp only [List.getElem?_toArray, List.getElem?_cons_zero, List.getElem?_cons_succ] at c0 c1 c2
                  go_simp
                  have HB183 := Lib.hid (show Below wd.heap.size wd (((V173.setCell ⟨k174, 0, none⟩ (.slice p6 D c6)).setCell ⟨k174, 1, none⟩ (.int .i64 SD.tries)).setCell ⟨k174, 2, none⟩ (.int .i64 SD.e)) from (((HB175.out.setCell (p := ⟨k174, 0, none⟩) HL177.out _).setCell (p := ⟨k174, 1, none⟩) HL177.out _).setCell (p := ⟨k174, 2, none⟩) HL177.out _))
                  have HF184 := Lib.hid (show (((V173.setCell ⟨k174, 0, none⟩ (.slice p6 D c6)).setCell ⟨k174, 1, none⟩ (.int .i64 SD.tries)).setCell ⟨k174, 2, none⟩ (.int .i64 SD.e)).heap[k174]? = some (.cells #[.slice p6 D c6, .int .i64 SD.tries, .int .i64 SD.e] 39) from (heap_put (heap_put (heap_put HF176.out _) _) _))
                  have HF185 := Lib.hid (HF178.out.keepS (W := (((V173.setCell ⟨k174, 0, none⟩ (.slice p6 D c6)).setCell ⟨k174, 1, none⟩ (.int .i64 SD.tries)).setCell ⟨k174, 2, none⟩ (.int .i64 SD.e))) HF176.out ((((Keep.refl V173 k174).set 0 _).set 1 _).set 2 _))
                  have HF186 := Lib.hid (show (((V173.setCell ⟨k174, 0, none⟩ (.slice p6 D c6)).setCell ⟨k174, 1, none⟩ (.int .i64 SD.tries)).setCell ⟨k174, 2, none⟩ (.int .i64 SD.e)).heap[k163]? = _ from ((Below.heap_setCell _ _ _ _ HN181.out).trans ((Below.heap_setCell _ _ _ _ HN181.out).trans (Below.heap_setCell _ _ _ _ HN181.out))).trans HF179.out)
                  have HF187 := Lib.hid (HF180.out.keepS (W := (((V173.setCell ⟨k174, 0, none⟩ (.slice p6 D c6)).setCell ⟨k174, 1, none⟩ (.int .i64 SD.tries)).setCell ⟨k174, 2, none⟩ (.int .i64 SD.e))) HF176.out ((((Keep.refl V173 k174).set 0 _).set 1 _).set 2 _))
                  refine hK _ _ (fun _ => HB183.out) ?_
                  clear hK K c0 f0 c1 f1 c2 f2
                  generalize (((V173.setCell ⟨k174, 0, none⟩ (.slice p6 D c6)).setCell ⟨k174, 1, none⟩ (.int .i64 SD.tries)).setCell ⟨k174, 2, none⟩ (.int .i64 SD.e)) = V182 at *
                  refine wpTree_alt (fun K hK => ?_) ?_
                  · have c0 := at_block HF186.out 0
                    have f0 := free_block HF186.out 0
                    have c1 := at_block HF186.out 1
                    have f1 := free_block HF186.out 1
                    have c2 := at_block HF186.out 2
                    have f2 := free_block HF186.out 2
                    simp only [List.getElem?_toArray, List.getElem?_cons_zero, List.getElem?_cons_succ] at c0 c1 c2
                    go_simp
                    have HB189 := Lib.hid (show Below wd.heap.size wd (((V182.setCell ⟨k163, 0, none⟩ (.slice p13 D c13)).setCell ⟨k163, 1, none⟩ (.int .i64 SD.tries)).setCell ⟨k163, 2, none⟩ (.int .i64 SD.e)) from (((HB183.out.setCell (p := ⟨k163, 0, none⟩) HL166.out _).setCell (p := ⟨k163, 1, none⟩) HL166.out _).setCell (p := ⟨k163, 2, none⟩) HL166.out _))
                    have HF190 := Lib.hid (show (((V182.setCell ⟨k163, 0, none⟩ (.slice p13 D c13)).setCell ⟨k163, 1, none⟩ (.int .i64 SD.tries)).setCell ⟨k163, 2, none⟩ (.int .i64 SD.e)).heap[k163]? = some (.cells #[.slice p13 D c13, .int .i64 SD.tries, .int .i64 SD.e] 42) from (heap_put (heap_put (heap_put HF186.out _) _) _))
                    have HF191 := Lib.hid (HF185.out.keepS (W := (((V182.setCell ⟨k163, 0, none⟩ (.slice p13 D c13)).setCell ⟨k163, 1, none⟩ (.int .i64 SD.tries)).setCell ⟨k163, 2, none⟩ (.int .i64 SD.e))) HF186.out ((((Keep.refl V182 k163).set 0 _).set 1 _).set 2 _))
                    have HF192 := Lib.hid (HF187.out.keepS (W := (((V182.setCell ⟨k163, 0, none⟩ (.slice p13 D c13)).setCell ⟨k163, 1, none⟩ (.int .i64 SD.tries)).setCell ⟨k163, 2, none⟩ (.int .i64 SD.e))) HF186.out ((((Keep.refl V182 k163).set 0 _).set 1 _).set 2 _))
                    have HF193 := Lib.hid (show (((V182.setCell ⟨k163, 0, none⟩ (.slice p13 D c13)).setCell ⟨k163, 1, none⟩ (.int .i64 SD.tries)).setCell ⟨k163, 2, none⟩ (.int .i64 SD.e)).heap[k174]? = _ from ((Below.heap_setCell _ _ _ _ (Ne.symm HN181.out)).trans ((Below.heap_setCell _ _ _ _ (Ne.symm HN181.out)).trans (Below.heap_setCell _ _ _ _ (Ne.symm HN181.out)))).trans HF184.out)
                    refine hK _ _ (fun _ => HB189.out) ?_
                    clear hK K c0 f0 c1 f1 c2 f2
                    generalize (((V182.setCell ⟨k163, 0, none⟩ (.slice p13 D c13)).setCell ⟨k163, 1, none⟩ (.int .i64 SD.tries)).setCell ⟨k163, 2, none⟩ (.int .i64 SD.e)) = V188 at *
                    refine wpTree_nil ?_
                    go_wp2_with fail
                    go_meet
                    exact ⟨k174, k163, p6, p13, c6, c13, rfl, rfl, HF193.out, HF190.out, HF191.out, HF192.out, HB189.out⟩
                  exact wpTree_stop
                exact wpTree_stop
              exact wpTree_stop
            refine wpTree_alt (fun K hK => ?_) ?_
            · go_simp
              obtain ⟨y1, y2, hst⟩ := al1 V162 (.cells #[.slice none 0 0, .int .i64 0, .int .i64 0] 39)
              have hbx := HB164.out.trans (hst.mono HB164.out.size)
              have HF199 := Lib.hid (HF167.out.below hst)
              have HF200 := Lib.hid ((hst.block k163 (lt_block HF165.out)).trans HF165.out)
              have HL198 := Lib.hid (show wd.heap.size ≤ V162.heap.size from HB164.out.size)
              have HN201 := Lib.hid (show k163 ≠ V162.heap.size from Nat.ne_of_lt (lt_block HF165.out))
              refine hK _ _ (fun _ => hbx) ?_
              clear hK K
              have HB196 := Lib.hid hbx
              have HF197 := Lib.hid y1
              clear y1 y2 hst hbx
              generalize V162.alloc (.cells #[.slice none 0 0, .int .i64 0, .int .i64 0] 39) = V194 at *
              generalize V162.heap.size = k195 at *
              refine wpTree_alt (fun K hK => ?_) ?_
              · go_simp
                refine (SW.out V194 HB196.out).mono ?_
                rintro e V202 ⟨hst, p13, c13, rfl, hrw⟩
                have hbx := HB196.out.trans (hst.mono HB196.out.size)
                have HF204 := Lib.hid (HF199.out.below hst)
                have HF205 := Lib.hid ((hst.block k163 (lt_block HF200.out)).trans HF200.out)
                have HF206 := Lib.hid ((hst.block k195 (lt_block HF197.out)).trans HF197.out)
                have HF207 := Lib.hid (hrw)
                refine hK _ _ (fun _ => hbx) ?_
                clear hK K
                have HB203 := Lib.hid hbx
                clear hbx hst hrw
                refine wpTree_alt (fun K hK => ?_) ?_
                · have c0 := at_block HF206.out 0
                  have f0 := free_block HF206.out 0
                  have c1 := at_block HF206.out 1
                  have f1 := free_block HF206.out 1
                  have c2 := at_block HF206.out 2
                  have f2 := free_block HF206.out 2
                  simp only [List.getElem?_toArray, List.getElem?_cons_zero, List.getElem?_cons_succ] at c0 c1 c2
                  go_simp
                  have HB209 := Lib.hid (show Below wd.heap.size wd (((V202.setCell ⟨k195, 0, none⟩ (.slice p6 D c6)).setCell ⟨k195, 1, none⟩ (.int .i64 SD.tries)).setCell ⟨k195, 2, none⟩ (.int .i64 SD.e)) from (((HB203.out.setCell (p := ⟨k195, 0, none⟩) HL198.out _).setCell (p := ⟨k195, 1, none⟩) HL198.out _).setCell (p := ⟨k195, 2, none⟩) HL198.out _))
                  have HF210 := Lib.hid (show (((V202.setCell ⟨k195, 0, none⟩ (.slice p6 D c6)).setCell ⟨k195, 1, none⟩ (.int .i64 SD.tries)).setCell ⟨k195, 2, none⟩ (.int .i64 SD.e)).heap[k195]? = some (.cells #[.slice p6 D c6, .int .i64 SD.tries, .int .i64 SD.e] 39) from (heap_put (heap_put (heap_put HF206.out _) _) _))
                  have HF211 := Lib.hid (HF204.out.keepS (W := (((V202.setCell ⟨k195, 0, none⟩ (.slice p6 D c6)).setCell ⟨k195, 1, none⟩ (.int .i64 SD.tries)).setCell ⟨k195, 2, none⟩ (.int .i64 SD.e))) HF206.out ((((Keep.refl V202 k195).set 0 _).set 1 _).set 2 _))
                  have HF212 := Lib.hid (show (((V202.setCell ⟨k195, 0, none⟩ (.slice p6 D c6)).setCell ⟨k195, 1, none⟩ (.int .i64 SD.tries)).setCell ⟨k195, 2, none⟩ (.int .i64 SD.e)).heap[k163]? = _ from ((Below.heap_setCell _ _ _ _ HN201.out).trans ((Below.heap_setCell _ _ _ _ HN201.out).trans (Below.heap_setCell _ _ _ _ HN201.out))).trans HF205.out)
                  have HF213 := Lib.hid (HF207.out.keepS (W := (((V202.setCell ⟨k195, 0, none⟩ (.slice p6 D c6)).setCell ⟨k195, 1, none⟩ (.int .i64 SD.tries)).setCell ⟨k195, 2, none⟩ (.int .i64 SD.e))) HF206.out ((((Keep.refl V202 k195).set 0 _).set 1 _).set 2 _))
                  refine hK _ _ (fun _ => HB209.out) ?_
                  clear hK K c0 f0 c1 f1 c2 f2
                  generalize (((V202.setCell ⟨k195, 0, none⟩ (.slice p6 D c6)).setCell ⟨k195, 1, none⟩ (.int .i64 SD.tries)).setCell ⟨k195, 2, none⟩ (.int .i64 SD.e)) = V208 at *
                  refine wpTree_alt (fun K hK => ?_) ?_
                  · have c0 := at_block HF212.out 0
                    have f0 := free_block HF212.out 0
                    have c1 := at_block HF212.out 1
                    have f1 := free_block HF212.out 1
                    have c2 := at_block HF212.out 2
                    have f2 := free_block HF212.out 2
                    simp only [List.getElem?_toArray, List.getElem?_cons_zero, List.getElem?_cons_succ] at c0 c1 c2
                    go_simp
                    have HB215 := Lib.hid (show Below wd.heap.size wd (((V208.setCell ⟨k163, 0, none⟩ (.slice p13 D c13)).setCell ⟨k163, 1, none⟩ (.int .i64 SD.tries)).setCell ⟨k163, 2, none⟩ (.int .i64 SD.e)) from (((HB209.out.setCell (p := ⟨k163, 0, none⟩) HL166.out _).setCell (p := ⟨k163, 1, none⟩) HL166.out _).setCell (p := ⟨k163, 2, none⟩) HL166.out _))
                    have HF216 := Lib.hid (show (((V208.setCell ⟨k163, 0, none⟩ (.slice p13 D c13)).setCell ⟨k163, 1, none⟩ (.int .i64 SD.tries)).setCell ⟨k163, 2, none⟩ (.int .i64 SD.e)).heap[k163]? = some (.cells #[.slice p13 D c13, .int .i64 SD.tries, .int .i64 SD.e] 42) from (heap_put (heap_put (heap_put HF212.out _) _) _))
                    have HF217 := Lib.hid (HF211.out.keepS (W := (((V208.setCell ⟨k163, 0, none⟩ (.slice p13 D c13)).setCell ⟨k163, 1, none⟩ (.int .i64 SD.tries)).setCell ⟨k163, 2, none⟩ (.int .i64 SD.e))) HF212.out ((((Keep.refl V208 k163).set 0 _).set 1 _).set 2 _))
                    have HF218 := Lib.hid (show (((V208.setCell ⟨k163, 0, none⟩ (.slice p13 D c13)).setCell ⟨k163, 1, none⟩ (.int .i64 SD.tries)).setCell ⟨k163, 2, none⟩ (.int .i64 SD.e)).heap[k195]? = _ from ((Below.heap_setCell _ _ _ _ (Ne.symm HN201.out)).trans ((Below.heap_setCell _ _ _ _ (Ne.symm HN201.out)).trans (Below.heap_setCell _ _ _ _ (Ne.symm HN201.out)))).trans HF210.out)
                    have HF219 := Lib.hid (HF213.out.keepS (W := (((V208.setCell ⟨k163, 0, none⟩ (.slice p13 D c13)).setCell ⟨k163, 1, none⟩ (.int .i64 SD.tries)).setCell ⟨k163, 2, none⟩ (.int .i64 SD.e))) HF212.out ((((Keep.refl V208 k163).set 0 _).set 1 _).set 2 _))
                    refine hK _ _ (fun _ => HB215.out) ?_
                    clear hK K c0 f0 c1 f1 c2 f2
                    generalize (((V208.setCell ⟨k163, 0, none⟩ (.slice p13 D c13)).setCell ⟨k163, 1, none⟩ (.int .i64 SD.tries)).setCell ⟨k163, 2, none⟩ (.int .i64 SD.e)) = V214 at *
                    refine wpTree_nil ?_
                    go_wp2_with fail
                    go_meet
                    exact ⟨k195, k163, p6, p13, c6, c13, rfl, rfl, HF218.out, HF216.out, HF217.out, HF219.out, HB215.out⟩
                  exact wpTree_stop
                exact wpTree_stop
              exact wpTree_stop
            exact wpTree_stop
          exact wpTree_stop
        refine wpTree_alt (fun K hK => ?_) ?_
        · go_simp
          obtain ⟨y1, y2, hst⟩ := al1 Z (.cells #[.slice none 0 0, .int .i64 0, .int .i64 0] 39)
          have hbx := HBZ0.out.trans (hst.mono HBZ0.out.size)
          have HL224 := Lib.hid (show wd.heap.size ≤ Z.heap.size from HBZ0.out.size)
          refine hK _ _ (fun _ => hbx) ?_
          clear hK K
          have HB222 := Lib.hid hbx
          have HF223 := Lib.hid y1
          clear y1 y2 hst hbx
          generalize Z.alloc (.cells #[.slice none 0 0, .int .i64 0, .int .i64 0] 39) = V220 at *
          generalize Z.heap.size = k221 at *
          refine wpTree_alt (fun K hK => ?_) ?_
          · go_simp
            refine (SV.out V220 HB222.out).mono ?_
            rintro e V225 ⟨hst, p6, c6, rfl, hrw⟩
            have hbx := HB222.out.trans (hst.mono HB222.out.size)
            have HF227 := Lib.hid ((hst.block k221 (lt_block HF223.out)).trans HF223.out)
            have HF228 := Lib.hid (hrw)
            refine hK _ _ (fun _ => hbx) ?_
            clear hK K
            have HB226 := Lib.hid hbx
            clear hbx hst hrw
            refine wpTree_alt (fun K hK => ?_) ?_
            · go_simp
              refine (SW.out V225 HB226.out).mono ?_
              rintro e V229 ⟨hst, p13, c13, rfl, hrw⟩
              have hbx := HB226.out.trans (hst.mono HB226.out.size)
              have HF231 := Lib.hid ((hst.block k221 (lt_block HF227.out)).trans HF227.out)
              have HF232 := Lib.hid (HF228.out.below hst)
              have HF233 := Lib.hid (hrw)
              refine hK _ _ (fun _ => hbx) ?_
              clear hK K
              have HB230 := Lib.hid hbx
              clear hbx hst hrw
              refine wpTree_alt (fun K hK => ?_) ?_
              · go_simp
                obtain ⟨y1, y2, hst⟩ := al1 V229 (.cells #[.slice none 0 0, .int .i64 0, .int .i64 0] 42)
                have hbx := HB230.out.trans (hst.mono HB230.out.size)
                have HF239 := Lib.hid ((hst.block k221 (lt_block HF231.out)).trans HF231.out)
                have HF240 := Lib.hid (HF232.out.below hst)
                have HF241 := Lib.hid (HF233.out.below hst)
                have HL238 := Lib.hid (show wd.heap.size ≤ V229.heap.size from HB230.out.size)
                have HN242 := Lib.hid (show k221 ≠ V229.heap.size from Nat.ne_of_lt (lt_block HF231.out))
                refine hK _ _ (fun _ => hbx) ?_
                clear hK K
                have HB236 := Lib.hid hbx
                have HF237 := Lib.hid y1
                clear y1 y2 hst hbx
                generalize V229.alloc (.cells #[.slice none 0 0, .int .i64 0, .int .i64 0] 42) = V234 at *
                generalize V229.heap.size = k235 at *
                refine wpTree_alt (fun K hK => ?_) ?_
                · have c0 := at_block HF239.out 0
                  have f0 := free_block HF239.out 0
                  have c1 := at_block HF239.out 1
                  have f1 := free_block HF239.out 1
                  have c2 := at_block HF239.out 2
                  have f2 := free_block HF239.out 2
                  simp only [List.getElem?_toArray, List.getElem?_cons_zero, List.getElem?_cons_succ] at c0 c1 c2
                  go_simp
                  have HB244 := Lib.hid (show Below wd.heap.size wd (((V234.setCell ⟨k221, 0, none⟩ (.slice p6 D c6)).setCell ⟨k221, 1, none⟩ (.int .i64 SD.tries)).setCell ⟨k221, 2, none⟩ (.int .i64 SD.e)) from (((HB236.out.setCell (p := ⟨k221, 0, none⟩) HL224.out _).setCell (p := ⟨k221, 1, none⟩) HL224.out _).setCell (p := ⟨k221, 2, none⟩) HL224.out _))
                  have HF245 := Lib.hid (show (((V234.setCell ⟨k221, 0, none⟩ (.slice p6 D c6)).setCell ⟨k221, 1, none⟩ (.int .i64 SD.tries)).setCell ⟨k221, 2, none⟩ (.int .i64 SD.e)).heap[k221]? = some (.cells #[.slice p6 D c6, .int .i64 SD.tries, .int .i64 SD.e] 39) from (heap_put (heap_put (heap_put HF239.out _) _) _))
                  have HF246 := Lib.hid (HF240.out.keepS (W := (((V234.setCell ⟨k221, 0, none⟩ (.slice p6 D c6)).setCell ⟨k221, 1, none⟩ (.int .i64 SD.tries)).setCell ⟨k221, 2, none⟩ (.int .i64 SD.e))) HF239.out ((((Keep.refl V234 k221).set 0 _).set 1 _).set 2 _))
                  have HF247 := Lib.hid (HF241.out.keepS (W := (((V234.setCell ⟨k221, 0, none⟩ (.slice p6 D c6)).setCell ⟨k221, 1, none⟩ (.int .i64 SD.tries)).setCell ⟨k221, 2, none⟩ (.int .i64 SD.e))) HF239.out ((((Keep.refl V234 k221).set 0 _).set 1 _).set 2 _))
                  have HF248 := Lib.hid (show (((V234.setCell ⟨k221, 0, none⟩ (.slice p6 D c6)).setCell ⟨k221, 1, none⟩ (.int .i64 SD.tries)).setCell ⟨k221, 2, none⟩ (.int .i64 SD.e)).heap[k235]? = _ from ((Below.heap_setCell _ _ _ _ (Ne.symm HN242.out)).trans ((Below.heap_setCell _ _ _ _ (Ne.symm HN242.out)).trans (Below.heap_setCell _ _ _ _ (Ne.symm HN242.out)))).trans HF237.out)
                  refine hK _ _ (fun _ => HB244.out) ?_
                  clear hK K c0 f0 c1 f1 c2 f2
                  generalize (((V234.setCell ⟨k221, 0, none⟩ (.slice p6 D c6)).setCell ⟨k221, 1, none⟩ (.int .i64 SD.tries)).setCell ⟨k221, 2, none⟩ (.int .i64 SD.e)) = V243 at *
                  refine wpTree_alt (fun K hK => ?_) ?_
                  · have c0 := at_block HF248.out 0
                    have f0 := free_block HF248.out 0
                    have c1 := at_block HF248.out 1
                    have f1 := free_block HF248.out 1
                    have c2 := at_block HF248.out 2
                    have f2 := free_block HF248.out 2
                    simp only [List.getElem?_toArray, List.getElem?_cons_zero, List.getElem?_cons_succ] at c0 c1 c2
                    go_simp
                    have HB250 := Lib.hid (show Below wd.heap.size wd (((V243.setCell ⟨k235, 0, none⟩ (.slice p13 D c13)).setCell ⟨k235, 1, none⟩ (.int .i64 SD.tries)).setCell ⟨k235, 2, none⟩ (.int .i64 SD.e)) from (((HB244.out.setCell (p := ⟨k235, 0, none⟩) HL238.out _).setCell (p := ⟨k235, 1, none⟩) HL238.out _).setCell (p := ⟨k235, 2, none⟩) HL238.out _))
                    have HF251 := Lib.hid (show (((V243.setCell ⟨k235, 0, none⟩ (.slice p13 D c13)).setCell ⟨k235, 1, none⟩ (.int .i64 SD.tries)).setCell ⟨k235, 2, none⟩ (.int .i64 SD.e)).heap[k235]? = some (.cells #[.slice p13 D c13, .int .i64 SD.tries, .int .i64 SD.e] 42) from (heap_put (heap_put (heap_put HF248.out _) _) _))
                    have HF252 := Lib.hid (show (((V243.setCell ⟨k235, 0, none⟩ (.slice p13 D c13)).setCell ⟨k235, 1, none⟩ (.int .i64 SD.tries)).setCell ⟨k235, 2, none⟩ (.int .i64 SD.e)).heap[k221]? = _ from ((Below.heap_setCell _ _ _ _ HN242.out).trans ((Below.heap_setCell _ _ _ _ HN242.out).trans (Below.heap_setCell _ _ _ _ HN242.out))).trans HF245.out)
                    have HF253 := Lib.hid (HF246.out.keepS (W := (((V243.setCell ⟨k235, 0, none⟩ (.slice p13 D c13)).setCell ⟨k235, 1, none⟩ (.int .i64 SD.tries)).setCell ⟨k235, 2, none⟩ (.int .i64 SD.e))) HF248.out ((((Keep.refl V243 k235).set 0 _).set 1 _).set 2 _))
                    have HF254 := Lib.hid (HF247.out.keepS (W := (((V243.setCell ⟨k235, 0, none⟩ (.slice p13 D c13)).setCell ⟨k235, 1, none⟩ (.int .i64 SD.tries)).setCell ⟨k235, 2, none⟩ (.int .i64 SD.e))) HF248.out ((((Keep.refl V243 k235).set 0 _).set 1 _).set 2 _))
                    refine hK _ _ (fun _ => HB250.out) ?_
                    clear hK K c0 f0 c1 f1 c2 f2
                    generalize (((V243.setCell ⟨k235, 0, none⟩ (.slice p13 D c13)).setCell ⟨k235, 1, none⟩ (.int .i64 SD.tries)).setCell ⟨k235, 2, none⟩ (.int .i64 SD.e)) = V249 at *
                    refine wpTree_nil ?_
                    go_wp2_with fail
                    go_meet
                    exact ⟨k221, k235, p6, p13, c6, c13, rfl, rfl, HF252.out, HF251.out, HF253.out, HF254.out, HB250.out⟩
                  exact wpTree_stop
                exact wpTree_stop
              refine wpTree_alt (fun K hK => ?_) ?_
              · have c0 := at_block HF231.out 0
                have f0 := free_block HF231.out 0
                have c1 := at_block HF231.out 1
                have f1 := free_block HF231.out 1
                have c2 := at_block HF231.out 2
                have f2 := free_block HF231.out 2
                simp only [List.getElem?_toArray, List.getElem?_cons_zero, List.getElem?_cons_succ] at c0 c1 c2
                go_simp
                have HB256 := Lib.hid (show Below wd.heap.size wd (((V229.setCell ⟨k221, 0, none⟩ (.slice p6 D c6)).setCell ⟨k221, 1, none⟩ (.int .i64 SD.tries)).setCell ⟨k221, 2, none⟩ (.int .i64 SD.e)) from (((HB230.out.setCell (p := ⟨k221, 0, none⟩) HL224.out _).setCell (p := ⟨k221, 1, none⟩) HL224.out _).setCell (p := ⟨k221, 2, none⟩) HL224.out _))
                have HF257 := Lib.hid (show (((V229.setCell ⟨k221, 0, none⟩ (.slice p6 D c6)).setCell ⟨k221, 1, none⟩ (.int .i64 SD.tries)).setCell ⟨k221, 2, none⟩ (.int .i64 SD.e)).heap[k221]? = some (.cells #[.slice p6 D c6, .int .i64 SD.tries, .int .i64 SD.e] 39) from (heap_put (heap_put (heap_put HF231.out _) _) _))
                have HF258 := Lib.hid (HF232.out.keepS (W := (((V229.setCell ⟨k221, 0, none⟩ (.slice p6 D c6)).setCell ⟨k221, 1, none⟩ (.int .i64 SD.tries)).setCell ⟨k221, 2, none⟩ (.int .i64 SD.e))) HF231.out ((((Keep.refl V229 k221).set 0 _).set 1 _).set 2 _))
                have HF259 := Lib.hid (HF233.out.keepS (W := (((V229.setCell ⟨k221, 0, none⟩ (.slice p6 D c6)).setCell ⟨k221, 1, none⟩ (.int .i64 SD.tries)).setCell ⟨k221, 2, none⟩ (.int .i64 SD.e))) HF231.out ((((Keep.refl V229 k221).set 0 _).set 1 _).set 2 _))
                refine hK _ _ (fun _ => HB256.out) ?_
                clear hK K c0 f0 c1 f1 c2 f2
                generalize (((V229.setCell ⟨k221, 0, none⟩ (.slice p6 D c6)).setCell ⟨k221, 1, none⟩ (.int .i64 SD.tries)).setCell ⟨k221, 2, none⟩ (.int .i64 SD.e)) = V255 at *
                refine wpTree_alt (fun K hK => ?_) ?_
                · go_simp
                  obtain ⟨y1, y2, hst⟩ := al1 V255 (.cells #[.slice none 0 0, .int .i64 0, .int .i64 0] 42)
                  have hbx := HB256.out.trans (hst.mono HB256.out.size)
                  have HF265 := Lib.hid ((hst.block k221 (lt_block HF257.out)).trans HF257.out)
                  have HF266 := Lib.hid (HF258.out.below hst)
                  have HF267 := Lib.hid (HF259.out.below hst)
                  have HL264 := Lib.hid (show wd.heap.size ≤ V255.heap.size from HB256.out.size)
                  have HN268 := Lib.hid (show k221 ≠ V255.heap.size from Nat.ne_of_lt (lt_block HF257.out))
                  refine hK _ _ (fun _ => hbx) ?_
                  clear hK K
                  have HB262 := Lib.hid hbx
                  have HF263 := Lib.hid y1
                  clear y1 y2 hst hbx
                  generalize V255.alloc (.cells #[.slice none 0 0, .int .i64 0, .int .i64 0] 42) = V260 at *
                  generalize V255.heap.size = k261 at *
                  refine wpTree_alt (fun K hK => ?_) ?_
                  · have c0 := at_block HF263.out 0
                    have f0 := free_block HF263.out 0
                    have c1 := at_block HF263.out 1
                    have f1 := free_block HF263.out 1
                    have c2 := at_block HF263.out 2
                    have f2 := free_block HF263.out 2
                    simp only [List.getElem?_toArray, List.getElem?_cons_zero, List.getElem?_cons_succ] at c0 c1 c2
                    go_simp
                    have HB270 := Lib.hid (show Below wd.heap.size wd (((V260.setCell ⟨k261, 0, none⟩ (.slice p13 D c13)).setCell ⟨k261, 1, none⟩ (.int .i64 SD.tries)).setCell ⟨k261, 2, none⟩ (.int .i64 SD.e)) from (((HB262.out.setCell (p := ⟨k261, 0, none⟩) HL264.out _).setCell (p := ⟨k261, 1, none⟩) HL264.out _).setCell (p := ⟨k261, 2, none⟩) HL264.out _))
                    have HF271 := Lib.hid (show (((V260.setCell ⟨k261, 0, none⟩ (.slice p13 D c13)).setCell ⟨k261, 1, none⟩ (.int .i64 SD.tries)).setCell ⟨k261, 2, none⟩ (.int .i64 SD.e)).heap[k261]? = some (.cells #[.slice p13 D c13, .int .i64 SD.tries, .int .i64 SD.e] 42) from (heap_put (heap_put (heap_put HF263.out _) _) _))
                    have HF272 := Lib.hid (show (((V260.setCell ⟨k261, 0, none⟩ (.slice p13 D c13)).setCell ⟨k261, 1, none⟩ (.int .i64 SD.tries)).setCell ⟨k261, 2, none⟩ (.int .i64 SD.e)).heap[k221]? = _ from ((Below.heap_setCell _ _ _ _ HN268.out).trans ((Below.heap_setCell _ _ _ _ HN268.out).trans (Below.heap_setCell _ _ _ _ HN268.out))).trans HF265.out)
                    have HF273 := Lib.hid (HF266.out.keepS (W := (((V260.setCell ⟨k261, 0, none⟩ (.slice p13 D c13)).setCell ⟨k261, 1, none⟩ (.int .i64 SD.tries)).setCell ⟨k261, 2, none⟩ (.int .i64 SD.e))) HF263.out ((((Keep.refl V260 k261).set 0 _).set 1 _).set 2 _))
                    have HF274 := Lib.hid (HF267.out.keepS (W := (((V260.setCell ⟨k261, 0, none⟩ (.slice p13 D c13)).setCell ⟨k261, 1, none⟩ (.int .i64 SD.tries)).setCell ⟨k261, 2, none⟩ (.int .i64 SD.e))) HF263.out ((((Keep.refl V260 k261).set 0 _).set 1 _).set 2 _))
                    refine hK _ _ (fun _ => HB270.out) ?_
                    clear hK K c0 f0 c1 f1 c2 f2
                    generalize (((V260.setCell ⟨k261, 0, none⟩ (.slice p13 D c13)).setCell ⟨k261, 1, none⟩ (.int .i64 SD.tries)).setCell ⟨k261, 2, none⟩ (.int .i64 SD.e)) = V269 at *
                    refine wpTree_nil ?_
                    go_wp2_with fail
                    go_meet
                    exact ⟨k221, k261, p6, p13, c6, c13, rfl, rfl, HF272.out, HF271.out, HF273.out, HF274.out, HB270.out⟩
                  exact wpTree_stop
                exact wpTree_stop
              exact wpTree_stop
            refine wpTree_alt (fun K hK => ?_) ?_
            · go_simp
              obtain ⟨y1, y2, hst⟩ := al1 V225 (.cells #[.slice none 0 0, .int .i64 0, .int .i64 0] 42)
              have hbx := HB226.out.trans (hst.mono HB226.out.size)
              have HF280 := Lib.hid ((hst.block k221 (lt_block HF227.out)).trans HF227.out)
              have HF281 := Lib.hid (HF228.out.below hst)
              have HL279 := Lib.hid (show wd.heap.size ≤ V225.heap.size from HB226.out.size)
              have HN282 := Lib.hid (show k221 ≠ V225.heap.size from Nat.ne_of_lt (lt_block HF227.out))
              refine hK _ _ (fun _ => hbx) ?_
              clear hK K
              have HB277 := Lib.hid hbx
              have HF278 := Lib.hid y1
              clear y1 y2 hst hbx
              generalize V225.alloc (.cells #[.slice none 0 0, .int .i64 0, .int .i64 0] 42) = V275 at *
              generalize V225.heap.size = k276 at *
              refine wpTree_alt (fun K hK => ?_) ?_
              · go_simp
                refine (SW.out V275 HB277.out).mono ?_
                rintro e V283 ⟨hst, p13, c13, rfl, hrw⟩
                have hbx := HB277.out.trans (hst.mono HB277.out.size)
                have HF285 := Lib.hid ((hst.block k221 (lt_block HF280.out)).trans HF280.out)
                have HF286 := Lib.hid (HF281.out.below hst)
                have HF287 := Lib.hid ((hst.block k276 (lt_block HF278.out)).trans HF278.out)
                have HF288 := Lib.hid (hrw)
                refine hK _ _ (fun _ => hbx) ?_
                clear hK K
                have HB284 := Lib.hid hbx
                clear hbx hst hrw
                refine wpTree_alt (fun K hK => ?_) ?_
                · have c0 := at_block HF285.out 0
                  have f0 := free_block HF285.out 0
                  have c1 := at_block HF285.out 1
                  have f1 := free_block HF285.out 1
                  have c2 := at_block HF285.out 2
                  have f2 := free_block HF285.out 2
                  simp only [List.getElem?_toArray, List.getElem?_cons_zero, List.getElem?_cons_succ] at c0 c1 c2
                  go_simp
                  have HB290 := Lib.hid (show Below wd.heap.size wd (((V283.setCell ⟨k221, 0, none⟩ (.slice p6 D c6)).setCell ⟨k221, 1, none⟩ (.int .i64 SD.tries)).setCell ⟨k221, 2, none⟩ (.int .i64 SD.e)) from (((HB284.out.setCell (p := ⟨k221, 0, none⟩) HL224.out _).setCell (p := ⟨k221, 1, none⟩) HL224.out _).setCell (p := ⟨k221, 2, none⟩) HL224.out _))
                  have HF291 := Lib.hid (show (((V283.setCell ⟨k221, 0, none⟩ (.slice p6 D c6)).setCell ⟨k221, 1, none⟩ (.int .i64 SD.tries)).setCell ⟨k221, 2, none⟩ (.int .i64 SD.e)).heap[k221]? = some (.cells #[.slice p6 D c6, .int .i64 SD.tries, .int .i64 SD.e] 39) from (heap_put (heap_put (heap_put HF285.out _) _) _))
                  have HF292 := Lib.hid (HF286.out.keepS (W := (((V283.setCell ⟨k221, 0, none⟩ (.slice p6 D c6)).setCell ⟨k221, 1, none⟩ (.int .i64 SD.tries)).setCell ⟨k221, 2, none⟩ (.int .i64 SD.e))) HF285.out ((((Keep.refl V283 k221).set 0 _).set 1 _).set 2 _))
                  have HF293 := Lib.hid (show (((V283.setCell ⟨k221, 0, none⟩ (.slice p6 D c6)).setCell ⟨k221, 1, none⟩ (.int .i64 SD.tries)).setCell ⟨k221, 2, none⟩ (.int .i64 SD.e)).heap[k276]? = _ from ((Below.heap_setCell _ _ _ _ (Ne.symm HN282.out)).trans ((Below.heap_setCell _ _ _ _ (Ne.symm HN282.out)).trans (Below.heap_setCell _ _ _ _ (Ne.symm HN282.out)))).trans HF287.out)
                  have HF294 := Lib.hid (HF288.out.keepS (W := (((V283.setCell ⟨k221, 0, none⟩ (.slice p6 D c6)).setCell ⟨k221, 1, none⟩ (.int .i64 SD.tries)).setCell ⟨k221, 2, none⟩ (.int .i64 SD.e))) HF285.out ((((Keep.refl V283 k221).set 0 _).set 1 _).set 2 _))
                  refine hK _ _ (fun _ => HB290.out) ?_
                  clear hK K c0 f0 c1 f1 c2 f2
                  generalize (((V283.setCell ⟨k221, 0, none⟩ (.slice p6 D c6)).setCell ⟨k221, 1, none⟩ (.int .i64 SD.tries)).setCell ⟨k221, 2, none⟩ (.int .i64 SD.e)) = V289 at *
                  refine wpTree_alt (fun K hK => ?_) ?_
                  · have c0 := at_block HF293.out 0
                    have f0 := free_block HF293.out 0
                    have c1 := at_block HF293.out 1
                    have f1 := free_block HF293.out 1
                    have c2 := at_block HF293.out 2
                    have f2 := free_block HF293.out 2
                    simp only [List.getElem?_toArray, List.getElem?_cons_zero, List.getElem?_cons_succ] at c0 c1 c2
                    go_simp
                    have HB296 := Lib.hid (show Below wd.heap.size wd (((V289.setCell ⟨k276, 0, none⟩ (.slice p13 D c13)).setCell ⟨k276, 1, none⟩ (.int .i64 SD.tries)).setCell ⟨k276, 2, none⟩ (.int .i64 SD.e)) from (((HB290.out.setCell (p := ⟨k276, 0, none⟩) HL279.out _).setCell (p := ⟨k276, 1, none⟩) HL279.out _).setCell (p := ⟨k276, 2, none⟩) HL279.out _))
                    have HF297 := Lib.hid (show (((V289.setCell ⟨k276, 0, none⟩ (.slice p13 D c13)).setCell ⟨k276, 1, none⟩ (.int .i64 SD.tries)).setCell ⟨k276, 2, none⟩ (.int .i64 SD.e)).heap[k276]? = some (.cells #[.slice p13 D c13, .int .i64 SD.tries, .int .i64 SD.e] 42) from (heap_put (heap_put (heap_put HF293.out _) _) _))
                    have HF298 := Lib.hid (show (((V289.setCell ⟨k276, 0, none⟩ (.slice p13 D c13)).setCell ⟨k276, 1, none⟩ (.int .i64 SD.tries)).setCell ⟨k276, 2, none⟩ (.int .i64 SD.e)).heap[k221]? = _ from ((Below.heap_setCell _ _ _ _ HN282.out).trans ((Below.heap_setCell _ _ _ _ HN282.out).trans (Below.heap_setCell _ _ _ _ HN282.out))).trans HF291.out)
                    have HF299 := Lib.hid (HF292.out.keepS (W := (((V289.setCell ⟨k276, 0, none⟩ (.slice p13 D c13)).setCell ⟨k276, 1, none⟩ (.int .i64 SD.tries)).setCell ⟨k276, 2, none⟩ (.int .i64 SD.e))) HF293.out ((((Keep.refl V289 k276).set 0 _).set 1 _).set 2 _))
                    have HF300 := Lib.hid (HF294.out.keepS (W := (((V289.setCell ⟨k276, 0, none⟩ (.slice p13 D c13)).setCell ⟨k276, 1, none⟩ (.int .i64 SD.tries)).setCell ⟨k276, 2, none⟩ (.int .i64 SD.e))) HF293.out ((((Keep.refl V289 k276).set 0 _).set 1 _).set 2 _))
                    refine hK _ _ (fun _ => HB296.out) ?_
                    clear hK K c0 f0 c1 f1 c2 f2
                    generalize (((V289.setCell ⟨k276, 0, none⟩ (.slice p13 D c13)).setCell ⟨k276, 1, none⟩ (.int .i64 SD.tries)).setCell ⟨k276, 2, none⟩ (.int .i64 SD.e)) = V295 at *
                    refine wpTree_nil ?_
                    go_wp2_with fail
                    go_meet
                    exact ⟨k221, k276, p6, p13, c6, c13, rfl, rfl, HF298.out, HF297.out, HF299.out, HF300.out, HB296.out⟩
                  exact wpTree_stop
                exact wpTree_stop
              exact wpTree_stop
            exact wpTree_stop
          refine wpTree_alt (fun K hK => ?_) ?_
          · go_simp
            obtain ⟨y1, y2, hst⟩ := al1 V220 (.cells #[.slice none 0 0, .int .i64 0, .int .i64 0] 42)
            have hbx := HB222.out.trans (hst.mono HB222.out.size)
            have HF306 := Lib.hid ((hst.block k221 (lt_block HF223.out)).trans HF223.out)
            have HL305 := Lib.hid (show wd.heap.size ≤ V220.heap.size from HB222.out.size)
            have HN307 := Lib.hid (show k221 ≠ V220.heap.size from Nat.ne_of_lt (lt_block HF223.out))
            refine hK _ _ (fun _ => hbx) ?_
            clear hK K
            have HB303 := Lib.hid hbx
            have HF304 := Lib.hid y1
            clear y1 y2 hst hbx
            generalize V220.alloc (.cells #[.slice none 0 0, .int .i64 0, .int .i64 0] 42) = V301 at *
            generalize V220.heap.size = k302 at *
            refine wpTree_alt (fun K hK => ?_) ?_
            · go_simp
              refine (SV.out V301 HB303.out).mono ?_
              rintro e V308 ⟨hst, p6, c6, rfl, hrw⟩
              have hbx := HB303.out.trans (hst.mono HB303.out.size)
              have HF310 := Lib.hid ((hst.block k221 (lt_block HF306.out)).trans HF306.out)
              have HF311 := Lib.hid ((hst.block k302 (lt_block HF304.out)).trans HF304.out)
              have HF312 := Lib.hid (hrw)
              refine hK _ _ (fun _ => hbx) ?_
              clear hK K
              have HB309 := Lib.hid hbx
              clear hbx hst hrw
              refine wpTree_alt (fun K hK => ?_) ?_
              · go_simp
                refine (SW.out V308 HB309.out).mono ?_
                rintro e V313 ⟨hst, p13, c13, rfl, hrw⟩
                have hbx := HB309.out.trans (hst.mono HB309.out.size)
                have HF315 := Lib.hid ((hst.block k221 (lt_block HF310.out)).trans HF310.out)
                have HF316 := Lib.hid ((hst.block k302 (lt_block HF311.out)).trans HF311.out)
                have HF317 := Lib.hid (HF312.out.below hst)
                have HF318 := Lib.hid (hrw)
                refine hK _ _ (fun _ => hbx) ?_
                clear hK K
                have HB314 := Lib.hid hbx
                clear hbx hst hrw
                refine wpTree_alt (fun K hK => ?_) ?_
                · have c0 := at_block HF315.out 0
                  have f0 := free_block HF315.out 0
                  have c1 := at_block HF315.out 1
                  have f1 := free_block HF315.out 1
                  have c2 := at_block HF315.out 2
                  have f2 := free_block HF315.out 2
                  simp only [List.getElem?_toArray, List.getElem?_cons_zero, List.getElem?_cons_succ] at c0 c1 c2
                  go_simp
                  have HB320 := Lib.hid (show Below wd.heap.size wd (((V313.setCell ⟨k221, 0, none⟩ (.slice p6 D c6)).setCell ⟨k221, 1, none⟩ (.int .i64 SD.tries)).setCell ⟨k221, 2, none⟩ (.int .i64 SD.e)) from (((HB314.out.setCell (p := ⟨k221, 0, none⟩) HL224.out _).setCell (p := ⟨k221, 1, none⟩) HL224.out _).setCell (p := ⟨k221, 2, none⟩) HL224.out _))
                  have HF321 := Lib.hid (show (((V313.setCell ⟨k221, 0, none⟩ (.slice p6 D c6)).setCell ⟨k221, 1, none⟩ (.int .i64 SD.tries)).setCell ⟨k221, 2, none⟩ (.int .i64 SD.e)).heap[k221]? = some (.cells #[.slice p6 D c6, .int .i64 SD.tries, .int .i64 SD.e] 39) from (heap_put (heap_put (heap_put HF315.out _) _) _))
                  have HF322 := Lib.hid (show (((V313.setCell ⟨k221, 0, none⟩ (.slice p6 D c6)).setCell ⟨k221, 1, none⟩ (.int .i64 SD.tries)).setCell ⟨k221, 2, none⟩ (.int .i64 SD.e)).heap[k302]? = _ from ((Below.heap_setCell _ _ _ _ (Ne.symm HN307.out)).trans ((Below.heap_setCell _ _ _ _ (Ne.symm HN307.out)).trans (Below.heap_setCell _ _ _ _ (Ne.symm HN307.out)))).trans HF316.out)
                  have HF323 := Lib.hid (HF317.out.keepS (W := (((V313.setCell ⟨k221, 0, none⟩ (.slice p6 D c6)).setCell ⟨k221, 1, none⟩ (.int .i64 SD.tries)).setCell ⟨k221, 2, none⟩ (.int .i64 SD.e))) HF315.out ((((Keep.refl V313 k221).set 0 _).set 1 _).set 2 _))
                  have HF324 := Lib.hid (HF318.out.keepS (W := (((V313.setCell ⟨k221, 0, none⟩ (.slice p6 D c6)).setCell ⟨k221, 1, none⟩ (.int .i64 SD.tries)).setCell ⟨k221, 2, none⟩ (.int .i64 SD.e))) HF315.out ((((Keep.refl V313 k221).set 0 _).set 1 _).set 2 _))
                  refine hK _ _ (fun _ => HB320.out) ?_
                  clear hK K c0 f0 c1 f1 c2 f2
                  generalize (((V313.setCell ⟨k221, 0, none⟩ (.slice p6 D c6)).setCell ⟨k221, 1, none⟩ (.int .i64 SD.tries)).setCell ⟨k221, 2, none⟩ (.int .i64 SD.e)) = V319 at *
                  refine wpTree_alt (fun K hK => ?_) ?_
                  · have c0 := at_block HF322.out 0
                    have f0 := free_block HF322.out 0
                    have c1 := at_block HF322.out 1
                    have f1 := free_block HF322.out 1
                    have c2 := at_block HF322.out 2
                    have f2 := free_block HF322.out 2
                    simp only [List.getElem?_toArray, List.getElem?_cons_zero, List.getElem?_cons_succ] at c0 c1 c2
                    go_simp
                    have HB326 := Lib.hid (show Below wd.heap.size wd (((V319.setCell ⟨k302, 0, none⟩ (.slice p13 D c13)).setCell ⟨k302, 1, none⟩ (.int .i64 SD.tries)).setCell ⟨k302, 2, none⟩ (.int .i64 SD.e)) from (((HB320.out.setCell (p := ⟨k302, 0, none⟩) HL305.out _).setCell (p := ⟨k302, 1, none⟩) HL305.out _).setCell (p := ⟨k302, 2, none⟩) HL305.out _))
                    have HF327 := Lib.hid (show (((V319.setCell ⟨k302, 0, none⟩ (.slice p13 D c13)).setCell ⟨k302, 1, none⟩ (.int .i64 SD.tries)).setCell ⟨k302, 2, none⟩ (.int .i64 SD.e)).heap[k302]? = some (.cells #[.slice p13 D c13, .int .i64 SD.tries, .int .i64 SD.e] 42) from (heap_put (heap_put (heap_put HF322.out _) _) _))
                    have HF328 := Lib.hid (show (((V319.setCell ⟨k302, 0, none⟩ (.slice p13 D c13)).setCell ⟨k302, 1, none⟩ (.int .i64 SD.tries)).setCell ⟨k302, 2, none⟩ (.int .i64 SD.e)).heap[k221]? = _ from ((Below.heap_setCell _ _ _ _ HN307.out).trans ((Below.heap_setCell _ _ _ _ HN307.out).trans (Below.heap_setCell _ _ _ _ HN307.out))).trans HF321.out)
                    have HF329 := Lib.hid (HF323.out.keepS (W := (((V319.setCell ⟨k302, 0, none⟩ (.slice p13 D c13)).setCell ⟨k302, 1, none⟩ (.int .i64 SD.tries)).setCell ⟨k302, 2, none⟩ (.int .i64 SD.e))) HF322.out ((((Keep.refl V319 k302).set 0 _).set 1 _).set 2 _))
                    have HF330 := Lib.hid (HF324.out.keepS (W := (((V319.setCell ⟨k302, 0, none⟩ (.slice p13 D c13)).setCell ⟨k302, 1, none⟩ (.int .i64 SD.tries)).setCell ⟨k302, 2, none⟩ (.int .i64 SD.e))) HF322.out ((((Keep.refl V319 k302).set 0 _).set 1 _).set 2 _))
                    refine hK _ _ (fun _ => HB326.out) ?_
                    clear hK K c0 f0 c1 f1 c2 f2
                    generalize (((V319.setCell ⟨k302, 0, none⟩ (.slice p13 D c13)).setCell ⟨k302, 1, none⟩ (.int .i64 SD.tries)).setCell ⟨k302, 2, none⟩ (.int .i64 SD.e)) = V325 at *
                    refine wpTree_nil ?_
                    go_wp2_with fail
                    go_meet
                    exact ⟨k221, k302, p6, p13, c6, c13, rfl, rfl, HF328.out, HF327.out, HF329.out, HF330.out, HB326.out⟩
                  exact wpTree_stop
                exact wpTree_stop
              exact wpTree_stop
            exact wpTree_stop
          exact wpTree_stop
        refine wpTree_alt (fun K hK => ?_) ?_
        · go_simp
          obtain ⟨y1, y2, hst⟩ := al1 Z (.cells #[.slice none 0 0, .int .i64 0, .int .i64 0] 42)
          have hbx := HBZ0.out.trans (hst.mono HBZ0.out.size)
          have HL335 := Lib.hid (show wd.heap.size ≤ Z.heap.size from HBZ0.out.size)
          refine hK _ _ (fun _ => hbx) ?_
          clear hK K
          have HB333 := Lib.hid hbx
          have HF334 := Lib.hid y1
          clear y1 y2 hst hbx
          generalize Z.alloc (.cells #[.slice none 0 0, .int .i64 0, .int .i64 0] 42) = V331 at *
          generalize Z.heap.size = k332 at *
          refine wpTree_alt (fun K hK => ?_) ?_
          · go_simp
            refine (SV.out V331 HB333.out).mono ?_
            rintro e V336 ⟨hst, p6, c6, rfl, hrw⟩
            have hbx := HB333.out.trans (hst.mono HB333.out.size)
            have HF338 := Lib.hid ((hst.block k332 (lt_block HF334.out)).trans HF334.out)
            have HF339 := Lib.hid (hrw)
            refine hK _ _ (fun _ => hbx) ?_
            clear hK K
            have HB337 := Lib.hid hbx
            clear hbx hst hrw
            refine wpTree_alt (fun K hK => ?_) ?_
            · go_simp
              refine (SW.out V336 HB337.out).mono ?_
              rintro e V340 ⟨hst, p13, c13, rfl, hrw⟩
              have hbx := HB337.out.trans (hst.mono HB337.out.size)
              have HF342 := Lib.hid ((hst.block k332 (lt_block HF338.out)).trans HF338.out)
              have HF343 := Lib.hid (HF339.out.below hst)
              have HF344 := Lib.hid (hrw)
              refine hK _ _ (fun _ => hbx) ?_
              clear hK K
              have HB341 := Lib.hid hbx
              clear hbx hst hrw
              refine wpTree_alt (fun K hK => ?_) ?_
              · go_simp
                obtain ⟨y1, y2, hst⟩ := al1 V340 (.cells #[.slice none 0 0, .int .i64 0, .int .i64 0] 39)
                have hbx := HB341.out.trans (hst.mono HB341.out.size)
                have HF350 := Lib.hid ((hst.block k332 (lt_block HF342.out)).trans HF342.out)
                have HF351 := Lib.hid (HF343.out.below hst)
                have HF352 := Lib.hid (HF344.out.below hst)
                have HL349 := Lib.hid (show wd.heap.size ≤ V340.heap.size from HB341.out.size)
                have HN353 := Lib.hid (show k332 ≠ V340.heap.size from Nat.ne_of_lt (lt_block HF342.out))
                refine hK _ _ (fun _ => hbx) ?_
                clear hK K
                have HB347 := Lib.hid hbx
                have HF348 := Lib.hid y1
                clear y1 y2 hst hbx
                generalize V340.alloc (.cells #[.slice none 0 0, .int .i64 0, .int .i64 0] 39) = V345 at *
                generalize V340.heap.size = k346 at *
                refine wpTree_alt (fun K hK => ?_) ?_
                · have c0 := at_block HF348.out 0
                  have f0 := free_block HF348.out 0
                  have c1 := at_block HF348.out 1
                  have f1 := free_block HF348.out 1
                  have c2 := at_block HF348.out 2
                  have f2 := free_block HF348.out 2
                  simp only [List.getElem?_toArray, List.getElem?_cons_zero, List.getElem?_cons_succ] at c0 c1 c2
                  go_simp
                  have HB355 := Lib.hid (show Below wd.heap.size wd (((V345.setCell ⟨k346, 0, none⟩ (.slice p6 D c6)).setCell ⟨k346, 1, none⟩ (.int .i64 SD.tries)).setCell ⟨k346, 2, none⟩ (.int .i64 SD.e)) from (((HB347.out.setCell (p := ⟨k346, 0, none⟩) HL349.out _).setCell (p := ⟨k346, 1, none⟩) HL349.out _).setCell (p := ⟨k346, 2, none⟩) HL349.out _))
                  have HF356 := Lib.hid (show (((V345.setCell ⟨k346, 0, none⟩ (.slice p6 D c6)).setCell ⟨k346, 1, none⟩ (.int .i64 SD.tries)).setCell ⟨k346, 2, none⟩ (.int .i64 SD.e)).heap[k346]? = some (.cells #[.slice p6 D c6, .int .i64 SD.tries, .int .i64 SD.e] 39) from (heap_put (heap_put (heap_put HF348.out _) _) _))
                  have HF357 := Lib.hid (show (((V345.setCell ⟨k346, 0, none⟩ (.slice p6 D c6)).setCell ⟨k346, 1, none⟩ (.int .i64 SD.tries)).setCell ⟨k346, 2, none⟩ (.int .i64 SD.e)).heap[k332]? = _ from ((Below.heap_setCell _ _ _ _ HN353.out).trans ((Below.heap_setCell _ _ _ _ HN353.out).trans (Below.heap_setCell _ _ _ _ HN353.out))).trans HF350.out)
                  have HF358 := Lib.hid (HF351.out.keepS (W := (((V345.setCell ⟨k346, 0, none⟩ (.slice p6 D c6)).setCell ⟨k346, 1, none⟩ (.int .i64 SD.tries)).setCell ⟨k346, 2, none⟩ (.int .i64 SD.e))) HF348.out ((((Keep.refl V345 k346).set 0 _).set 1 _).set 2 _))
                  have HF359 := Lib.hid (HF352.out.keepS (W := (((V345.setCell ⟨k346, 0, none⟩ (.slice p6 D c6)).setCell ⟨k346, 1, none⟩ (.int .i64 SD.tries)).setCell ⟨k346, 2, none⟩ (.int .i64 SD.e))) HF348.out ((((Keep.refl V345 k346).set 0 _).set 1 _).set 2 _))
                  refine hK _ _ (fun _ => HB355.out) ?_
                  clear hK K c0 f0 c1 f1 c2 f2
                  generalize (((V345.setCell ⟨k346, 0, none⟩ (.slice p6 D c6)).setCell ⟨k346, 1, none⟩ (.int .i64 SD.tries)).setCell ⟨k346, 2, none⟩ (.int .i64 SD.e)) = V354 at *
                  refine wpTree_alt (fun K hK => ?_) ?_
                  · have c0 := at_block HF357.out 0
                    have f0 := free_block HF357.out 0
                    have c1 := at_block HF357.out 1
                    have f1 := free_block HF357.out 1
                    have c2 := at_block HF357.out 2
                    have f2 := free_block HF357.out 2
                    simp only [List.getElem?_toArray, List.getElem?_cons_zero, List.getElem?_cons_succ] at c0 c1 c2
                    go_simp
                    have HB361 := Lib.hid (show Below wd.heap.size wd (((V354.setCell ⟨k332, 0, none⟩ (.slice p13 D c13)).setCell ⟨k332, 1, none⟩ (.int .i64 SD.tries)).setCell ⟨k332, 2, none⟩ (.int .i64 SD.e)) from (((HB355.out.setCell (p := ⟨k332, 0, none⟩) HL335.out _).setCell (p := ⟨k332, 1, none⟩) HL335.out _).setCell (p := ⟨k332, 2, none⟩) HL335.out _))
                    have HF362 := Lib.hid (show (((V354.setCell ⟨k332, 0, none⟩ (.slice p13 D c13)).setCell ⟨k332, 1, none⟩ (.int .i64 SD.tries)).setCell ⟨k332, 2, none⟩ (.int .i64 SD.e)).heap[k332]? = some (.cells #[.slice p13 D c13, .int .i64 SD.tries, .int .i64 SD.e] 42) from (heap_put (heap_put (heap_put HF357.out _) _) _))
                    have HF363 := Lib.hid (HF358.out.keepS (W := (((V354.setCell ⟨k332, 0, none⟩ (.slice p13 D c13)).setCell ⟨k332, 1, none⟩ (.int .i64 SD.tries)).setCell ⟨k332, 2, none⟩ (.int .i64 SD.e))) HF357.out ((((Keep.refl V354 k332).set 0 _).set 1 _).set 2 _))
                    have HF364 := Lib.hid (HF359.out.keepS (W := (((V354.setCell ⟨k332, 0, none⟩ (.slice p13 D c13)).setCell ⟨k332, 1, none⟩ (.int .i64 SD.tries)).setCell ⟨k332, 2, none⟩ (.int .i64 SD.e))) HF357.out ((((Keep.refl V354 k332).set 0 _).set 1 _).set 2 _))
                    have HF365 := Lib.hid (show (((V354.setCell ⟨k332, 0, none⟩ (.slice p13 D c13)).setCell ⟨k332, 1, none⟩ (.int .i64 SD.tries)).setCell ⟨k332, 2, none⟩ (.int .i64 SD.e)).heap[k346]? = _ from ((Below.heap_setCell _ _ _ _ (Ne.symm HN353.out)).trans ((Below.heap_setCell _ _ _ _ (Ne.symm HN353.out)).trans (Below.heap_setCell _ _ _ _ (Ne.symm HN353.out)))).trans HF356.out)
                    refine hK _ _ (fun _ => HB361.out) ?_
                    clear hK K c0 f0 c1 f1 c2 f2
                    generalize (((V354.setCell ⟨k332, 0, none⟩ (.slice p13 D c13)).setCell ⟨k332, 1, none⟩ (.int .i64 SD.tries)).setCell ⟨k332, 2, none⟩ (.int .i64 SD.e)) = V360 at *
                    refine wpTree_nil ?_
                    go_wp2_with fail
                    go_meet
                    exact ⟨k346, k332, p6, p13, c6, c13, rfl, rfl, HF365.out, HF362.out, HF363.out, HF364.out, HB361.out⟩
                  exact wpTree_stop
                exact wpTree_stop
              exact wpTree_stop
            refine wpTree_alt (fun K hK => ?_) ?_
            · go_simp
              obtain ⟨y1, y2, hst⟩ := al1 V336 (.cells #[.slice none 0 0, .int .i64 0, .int .i64 0] 39)
              have hbx := HB337.out.trans (hst.mono HB337.out.size)
              have HF371 := Lib.hid ((hst.block k332 (lt_block HF338.out)).trans HF338.out)
              have HF372 := Lib.hid (HF339.out.below hst)
              have HL370 := Lib.hid (show wd.heap.size ≤ V336.heap.size from HB337.out.size)
              have HN373 := Lib.hid (show k332 ≠ V336.heap.size from Nat.ne_of_lt (lt_block HF338.out))
              refine hK _ _ (fun _ => hbx) ?_
              clear hK K
              have HB368 := Lib.hid hbx
              have HF369 := Lib.hid y1
              clear y1 y2 hst hbx
              generalize V336.alloc (.cells #[.slice none 0 0, .int .i64 0, .int .i64 0] 39) = V366 at *
              generalize V336.heap.size = k367 at *
              refine wpTree_alt (fun K hK => ?_) ?_
              · go_simp
                refine (SW.out V366 HB368.out).mono ?_
                rintro e V374 ⟨hst, p13, c13, rfl, hrw⟩
                have hbx := HB368.out.trans (hst.mono HB368.out.size)
                have HF376 := Lib.hid ((hst.block k332 (lt_block HF371.out)).trans HF371.out)
                have HF377 := Lib.hid (HF372.out.below hst)
                have HF378 := Lib.hid ((hst.block k367 (lt_block HF369.out)).trans HF369.out)
                have HF379 := Lib.hid (hrw)
                refine hK _ _ (fun _ => hbx) ?_
                clear hK K
                have HB375 := Lib.hid hbx
                clear hbx hst hrw
                refine wpTree_alt (fun K hK => ?_) ?_
                · have c0 := at_block HF378.out 0
                  have f0 := free_block HF378.out 0
                  have c1 := at_block HF378.out 1
                  have f1 := free_block HF378.out 1
                  have c2 := at_block HF378.out 2
                  have f2 := free_block HF378.out 2
                  simp only [List.getElem?_toArray, List.getElem?_cons_zero, List.getElem?_cons_succ] at c0 c1 c2
                  go_simp
                  have HB381 := Lib.hid (show Below wd.heap.size wd (((V374.setCell ⟨k367, 0, none⟩ (.slice p6 D c6)).setCell ⟨k367, 1, none⟩ (.int .i64 SD.tries)).setCell ⟨k367, 2, none⟩ (.int .i64 SD.e)) from (((HB375.out.setCell (p := ⟨k367, 0, none⟩) HL370.out _).setCell (p := ⟨k367, 1, none⟩) HL370.out _).setCell (p := ⟨k367, 2, none⟩) HL370.out _))
                  have HF382 := Lib.hid (show (((V374.setCell ⟨k367, 0, none⟩ (.slice p6 D c6)).setCell ⟨k367, 1, none⟩ (.int .i64 SD.tries)).setCell ⟨k367, 2, none⟩ (.int .i64 SD.e)).heap[k367]? = some (.cells #[.slice p6 D c6, .int .i64 SD.tries, .int .i64 SD.e] 39) from (heap_put (heap_put (heap_put HF378.out _) _) _))
                  have HF383 := Lib.hid (show (((V374.setCell ⟨k367, 0, none⟩ (.slice p6 D c6)).setCell ⟨k367, 1, none⟩ (.int .i64 SD.tries)).setCell ⟨k367, 2, none⟩ (.int .i64 SD.e)).heap[k332]? = _ from ((Below.heap_setCell _ _ _ _ HN373.out).trans ((Below.heap_setCell _ _ _ _ HN373.out).trans (Below.heap_setCell _ _ _ _ HN373.out))).trans HF376.out)
                  have HF384 := Lib.hid (HF377.out.keepS (W := (((V374.setCell ⟨k367, 0, none⟩ (.slice p6 D c6)).setCell ⟨k367, 1, none⟩ (.int .i64 SD.tries)).setCell ⟨k367, 2, none⟩ (.int .i64 SD.e))) HF378.out ((((Keep.refl V374 k367).set 0 _).set 1 _).set 2 _))
                  have HF385 := Lib.hid (HF379.out.keepS (W := (((V374.setCell ⟨k367, 0, none⟩ (.slice p6 D c6)).setCell ⟨k367, 1, none⟩ (.int .i64 SD.tries)).setCell ⟨k367, 2, none⟩ (.int .i64 SD.e))) HF378.out ((((Keep.refl V374 k367).set 0 _).set 1 _).set 2 _))
                  refine hK _ _ (fun _ => HB381.out) ?_
                  clear hK K c0 f0 c1 f1 c2 f2
                  generalize (((V374.setCell ⟨k367, 0, none⟩ (.slice p6 D c6)).setCell ⟨k367, 1, none⟩ (.int .i64 SD.tries)).setCell ⟨k367, 2, none⟩ (.int .i64 SD.e)) = V380 at *
                  refine wpTree_alt (fun K hK => ?_) ?_
                  · have c0 := at_block HF383.out 0
                    have f0 := free_block HF383.out 0
                    have c1 := at_block HF383.out 1
                    have f1 := free_block HF383.out 1
                    have c2 := at_block HF383.out 2
                    have f2 := free_block HF383.out 2
                    simp only [List.getElem?_toArray, List.getElem?_cons_zero, List.getElem?_cons_succ] at c0 c1 c2
                    go_simp
                    have HB387 := Lib.hid (show Below wd.heap.size wd (((V380.setCell ⟨k332, 0, none⟩ (.slice p13 D c13)).setCell ⟨k332, 1, none⟩ (.int .i64 SD.tries)).setCell ⟨k332, 2, none⟩ (.int .i64 SD.e)) from (((HB381.out.setCell (p := ⟨k332, 0, none⟩) HL335.out _).setCell (p := ⟨k332, 1, none⟩) HL335.out _).setCell (p := ⟨k332, 2, none⟩) HL335.out _))
                    have HF388 := Lib.hid (show (((V380.setCell ⟨k332, 0, none⟩ (.slice p13 D c13)).setCell ⟨k332, 1, none⟩ (.int .i64 SD.tries)).setCell ⟨k332, 2, none⟩ (.int .i64 SD.e)).heap[k332]? = some (.cells #[.slice p13 D c13, .int .i64 SD.tries, .int .i64 SD.e] 42) from (heap_put (heap_put (heap_put HF383.out _) _) _))
                    have HF389 := Lib.hid (HF384.out.keepS (W := (((V380.setCell ⟨k332, 0, none⟩ (.slice p13 D c13)).setCell ⟨k332, 1, none⟩ (.int .i64 SD.tries)).setCell ⟨k332, 2, none⟩ (.int .i64 SD.e))) HF383.out ((((Keep.refl V380 k332).set 0 _).set 1 _).set 2 _))
                    have HF390 := Lib.hid (show (((V380.setCell ⟨k332, 0, none⟩ (.slice p13 D c13)).setCell ⟨k332, 1, none⟩ (.int .i64 SD.tries)).setCell ⟨k332, 2, none⟩ (.int .i64 SD.e)).heap[k367]? = _ from ((Below.heap_setCell _ _ _ _ (Ne.symm HN373.out)).trans ((Below.heap_setCell _ _ _ _ (Ne.symm HN373.out)).trans (Below.heap_setCell _ _ _ _ (Ne.symm HN373.out)))).trans HF382.out)
                    have HF391 := Lib.hid (HF385.out.keepS (W := (((V380.setCell ⟨k332, 0, none⟩ (.slice p13 D c13)).setCell ⟨k332, 1, none⟩ (.int .i64 SD.tries)).setCell ⟨k332, 2, none⟩ (.int .i64 SD.e))) HF383.out ((((Keep.refl V380 k332).set 0 _).set 1 _).set 2 _))
                    refine hK _ _ (fun _ => HB387.out) ?_
                    clear hK K c0 f0 c1 f1 c2 f2
                    generalize (((V380.setCell ⟨k332, 0, none⟩ (.slice p13 D c13)).setCell ⟨k332, 1, none⟩ (.int .i64 SD.tries)).setCell ⟨k332, 2, none⟩ (.int .i64 SD.e)) = V386 at *
                    refine wpTree_nil ?_
                    go_wp2_with fail
                    go_meet
                    exact ⟨k367, k332, p6, p13, c6, c13, rfl, rfl, HF390.out, HF388.out, HF389.out, HF391.out, HB387.out⟩
                  exact wpTree_stop
                exact wpTree_stop
              exact wpTree_stop
            exact wpTree_stop
          refine wpTree_alt (fun K hK => ?_) ?_
          · go_simp
            obtain ⟨y1, y2, hst⟩ := al1 V331 (.cells #[.slice none 0 0, .int .i64 0, .int .i64 0] 39)
            have hbx := HB333.out.trans (hst.mono HB333.out.size)
            have HF397 := Lib.hid ((hst.block k332 (lt_block HF334.out)).trans HF334.out)
            have HL396 := Lib.hid (show wd.heap.size ≤ V331.heap.size from HB333.out.size)
            have HN398 := Lib.hid (show k332 ≠ V331.heap.size from Nat.ne_of_lt (lt_block HF334.out))
            refine hK _ _ (fun _ => hbx) ?_
            clear hK K
            have HB394 := Lib.hid hbx
            have HF395 := Lib.hid y1
            clear y1 y2 hst hbx
            generalize V331.alloc (.cells #[.slice none 0 0, .int .i64 0, .int .i64 0] 39) = V392 at *
            generalize V331.heap.size = k393 at *
            refine wpTree_alt (fun K hK => ?_) ?_
            · go_simp
              refine (SV.out V392 HB394.out).mono ?_
              rintro e V399 ⟨hst, p6, c6, rfl, hrw⟩
              have hbx := HB394.out.trans (hst.mono HB394.out.size)
              have HF401 := Lib.hid ((hst.block k332 (lt_block HF397.out)).trans HF397.out)
              have HF402 := Lib.hid ((hst.block k393 (lt_block HF395.out)).trans HF395.out)
              have HF403 := Lib.hid (hrw)
              refine hK _ _ (fun _ => hbx) ?_
              clear hK K
              have HB400 := Lib.hid hbx
              clear hbx hst hrw
              refine wpTree_alt (fun K hK => ?_) ?_
              · go_simp
                refine (SW.out V399 HB400.out).mono ?_
                rintro e V404 ⟨hst, p13, c13, rfl, hrw⟩
                have hbx := HB400.out.trans (hst.mono HB400.out.size)
                have HF406 := Lib.hid ((hst.block k332 (lt_block HF401.out)).trans HF401.out)
                have HF407 := Lib.hid ((hst.block k393 (lt_block HF402.out)).trans HF402.out)
                have HF408 := Lib.hid (HF403.out.below hst)
                have HF409 := Lib.hid (hrw)
                refine hK _ _ (fun _ => hbx) ?_
                clear hK K
                have HB405 := Lib.hid hbx
                clear hbx hst hrw
                refine wpTree_alt (fun K hK => ?_) ?_
                · have c0 := at_block HF407.out 0
                  have f0 := free_block HF407.out 0
                  have c1 := at_block HF407.out 1
                  have f1 := free_block HF407.out 1
                  have c2 := at_block HF407.out 2
                  have f2 := free_block HF407.out 2
                  simp only [List.getElem?_toArray, List.getElem?_cons_zero, List.getElem?_cons_succ] at c0 c1 c2
                  go_simp
                  have HB411 := Lib.hid (show Below wd.heap.size wd (((V404.setCell ⟨k393, 0, none⟩ (.slice p6 D c6)).setCell ⟨k393, 1, none⟩ (.int .i64 SD.tries)).setCell ⟨k393, 2, none⟩ (.int .i64 SD.e)) from (((HB405.out.setCell (p := ⟨k393, 0, none⟩) HL396.out _).setCell (p := ⟨k393, 1, none⟩) HL396.out _).setCell (p := ⟨k393, 2, none⟩) HL396.out _))
                  have HF412 := Lib.hid (show (((V404.setCell ⟨k393, 0, none⟩ (.slice p6 D c6)).setCell ⟨k393, 1, none⟩ (.int .i64 SD.tries)).setCell ⟨k393, 2, none⟩ (.int .i64 SD.e)).heap[k393]? = some (.cells #[.slice p6 D c6, .int .i64 SD.tries, .int .i64 SD.e] 39) from (heap_put (heap_put (heap_put HF407.out _) _) _))
                  have HF413 := Lib.hid (show (((V404.setCell ⟨k393, 0, none⟩ (.slice p6 D c6)).setCell ⟨k393, 1, none⟩ (.int .i64 SD.tries)).setCell ⟨k393, 2, none⟩ (.int .i64 SD.e)).heap[k332]? = _ from ((Below.heap_setCell _ _ _ _ HN398.out).trans ((Below.heap_setCell _ _ _ _ HN398.out).trans (Below.heap_setCell _ _ _ _ HN398.out))).trans HF406.out)
                  have HF414 := Lib.hid (HF408.out.keepS (W := (((V404.setCell ⟨k393, 0, none⟩ (.slice p6 D c6)).setCell ⟨k393, 1, none⟩ (.int .i64 SD.tries)).setCell ⟨k393, 2, none⟩ (.int .i64 SD.e))) HF407.out ((((Keep.refl V404 k393).set 0 _).set 1 _).set 2 _))
                  have HF415 := Lib.hid (HF409.out.keepS (W := (((V404.setCell ⟨k393, 0, none⟩ (.slice p6 D c6)).setCell ⟨k393, 1, none⟩ (.int .i64 SD.tries)).setCell ⟨k393, 2, none⟩ (.int .i64 SD.e))) HF407.out ((((Keep.refl V404 k393).set 0 _).set 1 _).set 2 _))
                  refine hK _ _ (fun _ => HB411.out) ?_
                  clear hK K c0 f0 c1 f1 c2 f2
                  generalize (((V404.setCell ⟨k393, 0, none⟩ (.slice p6 D c6)).setCell ⟨k393, 1, none⟩ (.int .i64 SD.tries)).setCell ⟨k393, 2, none⟩ (.int .i64 SD.e)) = V410 at *
                  refine wpTree_alt (fun K hK => ?_) ?_
                  · have c0 := at_block HF413.out 0
                    have f0 := free_block HF413.out 0
                    have c1 := at_block HF413.out 1
                    have f1 := free_block HF413.out 1
                    have c2 := at_block HF413.out 2
                    have f2 := free_block HF413.out 2
                    simp only [List.getElem?_toArray, List.getElem?_cons_zero, List.getElem?_cons_succ] at c0 c1 c2
                    go_simp
                    have HB417 := Lib.hid (show Below wd.heap.size wd (((V410.setCell ⟨k332, 0, none⟩ (.slice p13 D c13)).setCell ⟨k332, 1, none⟩ (.int .i64 SD.tries)).setCell ⟨k332, 2, none⟩ (.int .i64 SD.e)) from (((HB411.out.setCell (p := ⟨k332, 0, none⟩) HL335.out _).setCell (p := ⟨k332, 1, none⟩) HL335.out _).setCell (p := ⟨k332, 2, none⟩) HL335.out _))
                    have HF418 := Lib.hid (show (((V410.setCell ⟨k332, 0, none⟩ (.slice p13 D c13)).setCell ⟨k332, 1, none⟩ (.int .i64 SD.tries)).setCell ⟨k332, 2, none⟩ (.int .i64 SD.e)).heap[k332]? = some (.cells #[.slice p13 D c13, .int .i64 SD.tries, .int .i64 SD.e] 42) from (heap_put (heap_put (heap_put HF413.out _) _) _))
                    have HF419 := Lib.hid (show (((V410.setCell ⟨k332, 0, none⟩ (.slice p13 D c13)).setCell ⟨k332, 1, none⟩ (.int .i64 SD.tries)).setCell ⟨k332, 2, none⟩ (.int .i64 SD.e)).heap[k393]? = _ from ((Below.heap_setCell _ _ _ _ (Ne.symm HN398.out)).trans ((Below.heap_setCell _ _ _ _ (Ne.symm HN398.out)).trans (Below.heap_setCell _ _ _ _ (Ne.symm HN398.out)))).trans HF412.out)
                    have HF420 := Lib.hid (HF414.out.keepS (W := (((V410.setCell ⟨k332, 0, none⟩ (.slice p13 D c13)).setCell ⟨k332, 1, none⟩ (.int .i64 SD.tries)).setCell ⟨k332, 2, none⟩ (.int .i64 SD.e))) HF413.out ((((Keep.refl V410 k332).set 0 _).set 1 _).set 2 _))
                    have HF421 := Lib.hid (HF415.out.keepS (W := (((V410.setCell ⟨k332, 0, none⟩ (.slice p13 D c13)).setCell ⟨k332, 1, none⟩ (.int .i64 SD.tries)).setCell ⟨k332, 2, none⟩ (.int .i64 SD.e))) HF413.out ((((Keep.refl V410 k332).set 0 _).set 1 _).set 2 _))
                    refine hK _ _ (fun _ => HB417.out) ?_
                    clear hK K c0 f0 c1 f1 c2 f2
                    generalize (((V410.setCell ⟨k332, 0, none⟩ (.slice p13 D c13)).setCell ⟨k332, 1, none⟩ (.int .i64 SD.tries)).setCell ⟨k332, 2, none⟩ (.int .i64 SD.e)) = V416 at *
                    refine wpTree_nil ?_
                    go_wp2_with fail
                    go_meet
                    exact ⟨k393, k332, p6, p13, c6, c13, rfl, rfl, HF419.out, HF418.out, HF420.out, HF421.out, HB417.out⟩
                  exact wpTree_stop
                exact wpTree_stop
              exact wpTree_stop
            exact wpTree_stop
          exact wpTree_stop
        exact wpTree_stop
      case rest =>
        obtain ⟨P2, Q2, p2, q2, c2, d2, rfl, rfl, hp, hq, hr1, hr2, hb⟩ := hcut
        have a0 := at_block hp 0
        have a1 := at_block hp 1
        have a2 := at_block hp 2
        have b0 := at_block hq 0
        have b1 := at_block hq 1
        have b2 := at_block hq 2
        simp only [List.getElem?_toArray, List.getElem?_cons_zero, List.getElem?_cons_succ] at a0 a1 a2 b0 b1 b2
        have HBZ := Lib.hid (HBX.out.trans ((HBD.out.trans (hb.mono HBD.out.size)).mono (by have := HBX.out.size; omega)))
        have HR1 := Lib.hid hr1
        have HR2 := Lib.hid hr2
        clear e0 e1 e2 el hb hp hq hr1 hr2
        go_wp2_with fail
        refine (rows_true _ _ D SD.d wc HR1.out HR2.out).mono ?_
        rintro e w16 ⟨rfl, hb16⟩
        have HB16 := Lib.hid (HBZ.out.trans (hb16.mono (by have := HBZ.out.size; omega)))
        clear hb16
        go_wp2_with fail
        go_ret
        exact ⟨rfl, HB16.out⟩
end Go.Proofs.Ytnlbafjmbamoeaa
/-
  'CorrAll': the law answers true, whatever it is given: every input, no condition.
-/
namespace Go.Proofs.Ytnlbafjmbamoeaa.corrAll
open Go.ChangeShapes Go.WideShapes Go.ChangeAt Go.RowKit Go.Proofs.Ytnlbafjmbamoeaa
theorem own : ownKnob Try.prog.godebug = none := by kernel_rfl
theorem laidOut : laidOutB Try.prog = true := by kernel_rfl
theorem float_lt {b : Nat} (h : (Lit.float .f64 b).wf = true) : b < 18446744073709551616 := by simpa [Lit.wf] using h
theorem int_lo {n : Int} (h : (Lit.int .i64 n).wf = true) : -9223372036854775808 ≤ n ∧ n ≤ 9223372036854775807 := by
  have a : IntKind.i64.min = -9223372036854775808 := by decide
  have b : IntKind.i64.max = 9223372036854775807 := by decide
  simp only [Lit.wf, Bool.and_eq_true, decide_eq_true_eq] at h; omega
set_option maxRecDepth 100000 in
theorem lifted (os : Os) (started : os.Started) (H : Type) (enc : TypeId × Value → H) :
    ReturnsInHanded {} Try.checked os 3 .any (Rows.corrAllSpec.pre6 enc Try.prog Try.f3 Rows.corrAllRow.domain false) (Rows.corrAllSpec.post enc Try.prog Try.f3 false true false false) := by
  refine returnsInHanded_of_change (C := Try.checked) own started (by kernel_rfl) Try.func3
    (ChangeSpec.witness6 (enc := enc) (C := Try.checked) false ⟨#[], #[.int .i64 0, .slice none 0 0, .bool false, .int .i64 0, .slice none 0 0, .int .i64 0, .int .i64 0, .int .i64 0], []⟩ 8 (by kernel_rfl) (by kernel_rfl) (by kernel_rfl) (by kernel_rfl)) ?_
  intro W base args ds gs before hval0 hW hcnd _
  have hval : ∀ (j : Nat) t v, Try.f3.params[j]? = some t → args[j]? = some v → Value.okWide Try.prog W .any base t v := hval0
  have hW' := hW
  obtain ⟨p, q, hA0, hV, rfl, hfz, hnd⟩ := hW
  have hA : DataW.TrodAll enc Try.prog W 0 (fun _ => true) true Try.f3.params.toList args.toList ds p := hA0
  rw [Try.params3] at hA hval
  obtain ⟨v0, vs0, d0, ds0, p0, q0, hargs, rfl, rfl, h0, r0⟩ := trodAll_cons hA
  obtain ⟨v1, vs1, d1, ds1, p1, q1, rfl, rfl, rfl, h1, r1⟩ := trodAll_cons r0
  obtain ⟨v2, vs2, d2, ds2, p2, q2, rfl, rfl, rfl, h2, r2⟩ := trodAll_cons r1
  obtain ⟨v3, vs3, d3, ds3, p3, q3, rfl, rfl, rfl, h3, r3⟩ := trodAll_cons r2
  obtain ⟨v4, vs4, d4, ds4, p4, q4, rfl, rfl, rfl, h4, r4⟩ := trodAll_cons r3
  obtain ⟨v5, vs5, d5, ds5, p5, q5, rfl, rfl, rfl, h5, r5⟩ := trodAll_cons r4
  obtain ⟨v6, vs6, d6, ds6, p6, q6, rfl, rfl, rfl, h6, r6⟩ := trodAll_cons r5
  obtain ⟨v7, vs7, d7, ds7, p7, q7, rfl, rfl, rfl, h7, r7⟩ := trodAll_cons r6
  obtain ⟨rfl, rfl, rfl⟩ := trodAll_nil r7
  obtain rfl : args = #[v0, v1, v2, v3, v4, v5, v6, v7] := by cases args; simp_all
  obtain ⟨rfl, rfl⟩ := trodVars_none hV
  obtain ⟨a0, rfl, rfl, rfl, w0⟩ := open_int Try.underlying3 (hval 0 3 v0 rfl rfl) h0
  have k1 := h1
  obtain ⟨zs1, z1⟩ := intr_of (hval 1 22 v1 rfl rfl) h1
  obtain ⟨a2, rfl, rfl, rfl⟩ := open_bool Try.underlying4 (hval 2 4 v2 rfl rfl) h2
  obtain ⟨a3, rfl, rfl, rfl, w3⟩ := open_int Try.underlying3 (hval 3 3 v3 rfl rfl) h3
  have k4 := h4
  obtain ⟨zs4, z4⟩ := intr_of (hval 4 22 v4 rfl rfl) h4
  obtain ⟨a5, rfl, rfl, rfl, w5⟩ := open_int Try.underlying3 (hval 5 3 v5 rfl rfl) h5
  obtain ⟨a6, rfl, rfl, rfl, w6⟩ := open_int Try.underlying3 (hval 6 3 v6 rfl rfl) h6
  obtain ⟨a7, rfl, rfl, rfl, w7⟩ := open_int Try.underlying3 (hval 7 3 v7 rfl rfl) h7
  clear hA0 hval0
  simp only [List.append_nil] at hW'
  refine (corrAll_any a0 v1 zs1 a2 a3 v4 zs4 a5 a6 a7 W (int_lo w0) z1 (int_lo w3) z4 (int_lo w5) (int_lo w6) (int_lo w7)).mono fun e W' ⟨he, hb⟩ => ?_
  subst he
  exact ⟨_, rfl, ⟨_, _, _, [], _, [], hW', (trodAll_cons_mk (shut_bool Try.underlying4 _) trodAll_mk0), (trodAll_cons_mk (shut_int Try.underlying3 w0) (trodAll_cons_mk (Below.trod laidOut (by kernel_rfl) (of_decide_eq_true (by kernel_rfl)) k1 hb (fun x hx => hW'.lt x (by simp [hx]))) (trodAll_cons_mk (shut_bool Try.underlying4 _) (trodAll_cons_mk (shut_int Try.underlying3 w3) (trodAll_cons_mk (Below.trod laidOut (by kernel_rfl) (of_decide_eq_true (by kernel_rfl)) k4 hb (fun x hx => hW'.lt x (by simp [hx]))) (trodAll_cons_mk (shut_int Try.underlying3 w5) (trodAll_cons_mk (shut_int Try.underlying3 w6) (trodAll_cons_mk (shut_int Try.underlying3 w7) trodAll_mk0)))))))), rfl, hb.frame _, fun h => by cases h⟩⟩

theorem over : Rows.corrAllRow.holds Try.pinned (OpenSpec.ofChange Rows.corrAllSpec) :=
  OpenClaim.holds_of_wide 3 Try.f3 rfl rfl rfl rfl rfl rfl rfl ⟨rfl, rfl, rfl, rfl, rfl⟩ rfl rfl rfl rfl rfl (by kernel_rfl) Try.func3 (by kernel_rfl)
    (of_decide_eq_true (by kernel_rfl)) (by unfold Func.isWrapper; first | (rw [if_pos (by decide +kernel)]; kernel_rfl) | (rw [if_neg (by decide +kernel)]; exact ⟨rfl, rfl⟩))
    (fun os started H enc _ => lifted os started H enc)

theorem proved : Rows.CorrAllSaid :=
  over
#print axioms proved
end Go.Proofs.Ytnlbafjmbamoeaa.corrAll
