/-
  Tables that the laws of equations make: with a rare number among them, too.
-/
import Derived.Test.YtainodgbcpkipaaLma
import Derived.Test.YtainodgbcpkipaaLrf
import Derived.Test.YtainodgbcpkipaaReg
import Derived.Test.YtainodgbcpkipaaLid
namespace Go.Proofs.Ytainodgbcpkipaa
open Go.RowKit
open Ieee (double)
attribute [local go_sem] alloc_drewN setCell_drewN call_bits call_frombits ord_lt ord_eq ord_gt ord_ne ord_le ord_ge eqB_self run_fadd run_fsub run_fmul run_fquo haStoreFlt takeOp pureOp readsUpon doOp

theorem within_nat (a : Int) (k : Nat) (h1 : 1 ≤ k) (h2 : k ≤ 1000) (w : World) : Calls Try.prog 27 #[.int .i64 a, .int .i64 k] w fun e w' => ∃ i : Nat, i < k ∧ e = .returned (.int .i64 (i : Int)) ∧ w' = w :=
  (lawWithin_mod a k w (by omega) (by omega)).mono fun _ _ ⟨e1, e2⟩ => by
    have q1 := Int.emod_nonneg a (show (k : Int) ≠ 0 by omega)
    have q2 := Int.emod_lt_of_pos a (show (0 : Int) < k by omega)
    exact ⟨(a % k).toNat, by omega, by rw [e1, Int.toNat_of_nonneg q1], e2.symm⟩
set_option maxRecDepth 100000 in
set_option maxHeartbeats 4000000 in
theorem make_some (n x : Int) (_ : -9223372036854775808 ≤ x ∧ x ≤ 9223372036854775807) (k : Nat) (hk : (k : Int) = 1 + n % 5) (v : Value) (zs : List Int) (w : World) (h : Ints w v zs) :
    Calls Try.prog 14 #[.int .i64 n, v, .int .i64 x] w fun e w' => ∃ (G c : Nat) (blk cap : Nat → Nat) (f : Nat → Nat → Nat), e = .returned (.slice (some ⟨G, 0, none⟩) k c) ∧ Grid w' w.heap.size G k k blk cap f ∧ Below w.heap.size w w' := by
  obtain ⟨a, cap0, rfl, hl, hr⟩ := h.read
  obtain ⟨iF, hF, f1, f2, f3⟩ := info_parts infoF
  obtain ⟨iS, hS, s1, s2, s3⟩ := info_parts infoS
  have HF := Lib.hid (show iF.zero = _ ∧ iF.size = _ ∧ iF.bytes = _ from ⟨f1, f2, f3⟩)
  have HF0 := Lib.hid hF
  have HS := Lib.hid (show iS.zero = _ ∧ iS.size = _ ∧ iS.bytes = _ from ⟨s1, s2, s3⟩)
  have HS0 := Lib.hid hS
  have HR := Lib.hid hr
  clear hF f1 f2 f3 hS s1 s2 s3 hr h
  go_enter Try.func14, Try.ntmps14
  generalize hB : w.heap.size = B at *
  go_wp2_with fail
  refine (lawWithin_mod n 5 _ (by decide) (by decide)).mono ?_
  rintro e w' ⟨rfl, rfl⟩
  have b1 := Int.emod_nonneg n (show (5 : Int) ≠ 0 by decide)
  have b2 := Int.emod_lt_of_pos n (show (0 : Int) < 5 by decide)
  generalize n % 5 = m at *
  obtain rfl : m = (k : Int) - 1 := by omega
  have hk1 : 1 ≤ k := by omega
  have hk5 : k ≤ 5 := by omega
  have e0 : (1 : Int) + ((k : Int) - 1) = k := by omega
  clear hk b1 b2
  go_wp2_with fail
  clear e0
  go_loopw [8, 9] (fun va i wr => ∃ (r : Nat) (blk cap : Nat → Nat), r ≤ k ∧ i = .int .i64 r ∧ GridV wr B va r k blk cap (makeV zs k) ∧ Below B w wr) (fun _ i _ => k - (intOf i).toNat)
  case atStart => exact ⟨0, _, _, by omega, rfl, GridV.start _ _ _ _, Below.refl _ _⟩
  case round =>
    obtain ⟨r, blk, cap, hr, rfl, hg, hbl⟩ := hrel
    by_cases hlt : r < k
    · have _hn := hlt
      have hgl := hg.lt
      have hsz := hbl.size
      have HG := Lib.hid hg
      have HGL := Lib.hid hgl
      obtain ⟨rs, hrs, -⟩ := hg.own
      obtain ⟨va', vcap, rfl⟩ := own_slice1 hrs
      have hrk : r * k ≤ 4 * 5 := Nat.mul_le_mul (by omega) hk5
      have m1 : (0 : Int) ≤ (r : Int) * (k : Int) := by rw [← Int.natCast_mul]; omega
      have m2 : (r : Int) * (k : Int) ≤ 20 := by rw [← Int.natCast_mul]; omega
      have m3 : ((r * k : Nat) : Int) = (r : Int) * (k : Int) := Int.natCast_mul _ _
      have HM3 := Lib.hid m3
      clear hg hgl hrs m3 rs
      go_wp2_with fail
      obtain ⟨wo, rfl⟩ : ∃ wo : World, wo = wr := ⟨_, rfl⟩
      generalize hH : wo.heap.size = H at *
      go_loopw [10, 11] (fun vr j wr => ∃ (c : Nat) (qs : List Value), c ≤ k ∧ j = .int .i64 c ∧ wr.ownsRow H 45 1 vr c qs ∧ FVals qs c (makeV zs k r) ∧ Below H wo wr) (fun _ j _ => k - (intOf j).toNat)
      case atStart => exact ⟨0, [], by omega, rfl, World.ownsRow_nil _ _ _ _, FVals.nil _ _, Below.refl _ _⟩
      case round =>
        obtain ⟨c, qs, hc, rfl, ho, hq, hbx⟩ := hrel
        obtain ⟨ra, rcap, rfl⟩ := own_slice1 ho
        by_cases hcl : c < k
        · have hv : makeV zs k r c = c4 (nth zs (r * 7 + c) (r * k + c) % 33 - 16) := rfl
          have HV := Lib.hid hv
          have HQ := Lib.hid hq
          have HO := Lib.hid ho
          have hsx := hbx.size
          clear hv hq ho
          by_cases hz : r * k + c < zs.length
          · obtain ⟨b, off, rfl, hbs, hcc⟩ := HR.out (by omega)
            have d1 := hcc _ hz
            have hbw : Below B w wr := hbl.trans (hbx.mono (by omega))
            rw [← show wr.cell? ⟨b, off + (r * k + c), none⟩ = w.cell? ⟨b, off + (r * k + c), none⟩ from hbw.cell (p := ⟨b, off + (r * k + c), none⟩) hbs] at d1
            have hnth : nth zs (r * 7 + c) (r * k + c) = zs.getD (r * k + c) 0 := if_pos hz
            generalize zs.getD (r * k + c) 0 = u at *
            have HN := Lib.hid hnth
            have hzi : (r : Int) * (k : Int) + (c : Int) < (zs.length : Int) := by have := HM3.out; omega
            have hzn : ((r : Int) * (k : Int) + (c : Int)).toNat = r * k + c := by have := HM3.out; omega
            clear hcc hnth
            go_wp2_with fail
            refine (lawWithin_mod u 33 _ (by decide) (by decide)).mono ?_
            rintro e w' ⟨rfl, rfl⟩
            have b1 := Int.emod_nonneg u (show (33 : Int) ≠ 0 by decide)
            have b2 := Int.emod_lt_of_pos u (show (0 : Int) < 33 by decide)
            have HU := Lib.hid (show makeV zs k r c = c4 (u % 33 - 16) by rw [HV.out, HN.out])
            generalize u % 33 = t at *
            obtain ⟨k1, k2, k3, k4⟩ := c4_val (x := t - 16) (by omega) (by omega)
            have HK := Lib.hid k3
            clear k3 HN HV
            generalize c4 (t - 16) = y at *
            go_wp2_with (first
              | (at_builtin; refine wpList_append_own_at _ rfl _ _ 26 rfl H 45 iF (.float .f64 0) 1 8 Try.underlying26 HF0.out HF.out.1 HF.out.2.1 HF.out.2.2 rfl (by decide) (.slice ra c rcap) c qs rfl (own_drewN (HO.out.alloc _) _) ⟨wr.heap.size, 0, none⟩ 1 1 [.float .f64 y] rfl rfl (news1 wr (.float .f64 y) 45 _) (by simp [Value.oneCell']) (by unfold maxLen; omega) (by omega) (size_alloc _ _ _ (by omega)) ?_)
              | go_in)
            intro v' w2 hown' hgrow _ _
            have hb2 : Below H wr w2 := (below_drew ((Below.refl H wr).alloc (by omega) _) 0).trans (below_grown (own_drewN (HO.out.alloc _) 0) (Nat.le_refl _) (size_alloc _ _ _ (by omega)) hgrow)
            have hql := HO.out.1
            have hq' := HQ.out.app (by omega) (HK.out.trans HU.out.symm) k4
            have HQ' := Lib.hid hq'
            have HO' := Lib.hid hown'
            clear hq' hown' hgrow k1 k2
            go_wp2_with fail
            go_roundw
            case rel => exact ⟨c + 1, _, by omega, by go_num, HO'.out, HQ'.out, hbx.trans hb2⟩
            case measure => simp [intOf]; omega
          · have hnth : nth zs (r * 7 + c) (r * k + c) = (r : Int) * 7 + (c : Int) := by
              unfold nth
              rw [if_neg hz]
            have HN := Lib.hid hnth
            have hzi : ¬ (r : Int) * (k : Int) + (c : Int) < (zs.length : Int) := by have := HM3.out; omega
            clear hnth
            go_wp2_with fail
            refine (lawWithin_mod ((r : Int) * 7 + (c : Int)) 33 _ (by decide) (by decide)).mono ?_
            rintro e w' ⟨rfl, rfl⟩
            have b1 := Int.emod_nonneg ((r : Int) * 7 + (c : Int)) (show (33 : Int) ≠ 0 by decide)
            have b2 := Int.emod_lt_of_pos ((r : Int) * 7 + (c : Int)) (show (0 : Int) < 33 by decide)
            have HU := Lib.hid (show makeV zs k r c = c4 (((r : Int) * 7 + (c : Int)) % 33 - 16) by rw [HV.out, HN.out])
            generalize ((r : Int) * 7 + (c : Int)) % 33 = t at *
            obtain ⟨k1, k2, k3, k4⟩ := c4_val (x := t - 16) (by omega) (by omega)
            have HK := Lib.hid k3
            clear k3 HN HV
            generalize c4 (t - 16) = y at *
            go_wp2_with (first
              | (at_builtin; refine wpList_append_own_at _ rfl _ _ 26 rfl H 45 iF (.float .f64 0) 1 8 Try.underlying26 HF0.out HF.out.1 HF.out.2.1 HF.out.2.2 rfl (by decide) (.slice ra c rcap) c qs rfl (own_drewN (HO.out.alloc _) _) ⟨wr.heap.size, 0, none⟩ 1 1 [.float .f64 y] rfl rfl (news1 wr (.float .f64 y) 45 _) (by simp [Value.oneCell']) (by unfold maxLen; omega) (by omega) (size_alloc _ _ _ (by omega)) ?_)
              | go_in)
            intro v' w2 hown' hgrow _ _
            have hb2 : Below H wr w2 := (below_drew ((Below.refl H wr).alloc (by omega) _) 0).trans (below_grown (own_drewN (HO.out.alloc _) 0) (Nat.le_refl _) (size_alloc _ _ _ (by omega)) hgrow)
            have hql := HO.out.1
            have hq' := HQ.out.app (by omega) (HK.out.trans HU.out.symm) k4
            have HQ' := Lib.hid hq'
            have HO' := Lib.hid hown'
            clear hq' hown' hgrow k1 k2
            go_wp2_with fail
            go_roundw
            case rel => exact ⟨c + 1, _, by omega, by go_num, HO'.out, HQ'.out, hbx.trans hb2⟩
            case measure => simp [intOf]; omega
        · obtain rfl : c = k := by omega
          obtain ⟨R, rcap', hv, hO⟩ := hq.own ho (by omega)
          simp only [Value.slice.injEq] at hv
          obtain ⟨rfl, -, rfl⟩ := hv
          have HO := Lib.hid hO
          have hRl := hO.lt
          have hbw : Below B w wr := hbl.trans (hbx.mono (by omega))
          have hg1 : GridV wr B (.slice va' r vcap) r c blk cap (makeV zs c) := HG.out.keep hbx HGL.out.1 HGL.out.2
          obtain ⟨rs, hrs, -⟩ := hg1.own
          have hrl := hrs.1
          have HG1 := Lib.hid hg1
          have HRS := Lib.hid hrs
          have hsx := hbx.size
          clear hO hq ho hg1 hrs
          go_wp2_with (first
            | (at_builtin; refine wpList_append_own_at _ rfl _ _ 24 rfl B 26 iS (.slice none 0 0) 1 24 Try.underlying24 HS0.out HS.out.1 HS.out.2.1 HS.out.2.2 rfl (by decide) (.slice va' r vcap) r rs rfl (HRS.out.alloc _) ⟨wr.heap.size, 0, none⟩ 1 1 [.slice (some ⟨R, 0, none⟩) c rcap] rfl rfl (news1 wr (.slice (some ⟨R, 0, none⟩) c rcap) 26 0) (by simp [Value.oneCell']) (by unfold maxLen; omega) (by omega) (by simp; omega) ?_)
            | go_in)
          intro v' w2 hown' hgrow _ hob
          have hb2 : Below B wr w2 := ((Below.refl B wr).alloc (by omega) _).trans (below_grown (HRS.out.alloc _) (Nat.le_refl _) (by simp; omega) hgrow)
          have hne : ∀ i, i < r → blk i ≠ R := fun i hi => by have := HGL.out.2 i hi; omega
          have hne0 : (Value.slice va' r vcap).ownBlock ≠ some R := fun e => by have := HGL.out.1 R e; omega
          have hg2 := HG1.out.app HRS.out (HO.out.base (by omega)) hne0 hne ((Below.refl _ _).alloc (Nat.le_refl _) _) hgrow hown' (fun k hk => by
            rcases hob with e | e
            · rw [e] at hk; exact .inl hk
            · rw [e] at hk; simp only [Option.some.injEq] at hk; right; rw [← hk]; simp)
          have HG2 := Lib.hid hg2
          clear hown' hgrow hob hne hne0 hg2
          go_wp2_with fail
          go_roundw
          case rel => exact ⟨r + 1, _, _, by omega, by go_num, HG2.out, hbw.trans hb2⟩
          case measure => simp [intOf]; omega
    · obtain rfl : k = r := by omega
      obtain ⟨G, c, hv, hG⟩ := hg.grid (by omega)
      have HG := Lib.hid hG
      have HBL := Lib.hid hbl
      subst hv
      clear hG hg hbl
      go_wp2_with fail
      refine ((lawWithin_mod x 9 wr (by decide) (by decide)).mono ?_)
      rintro e w' ⟨rfl, rfl⟩
      by_cases h9 : x % 9 = 0
      · rw [h9]
        go_wp2_with fail
        refine wp_region_ordR [(0, 1), (1, 1), (2, 1), (3, 1), (7, 1), (8, 1), (9, 1), (11, 1), (12, 1), (4, 0), (5, 1), (6, 3), (10, 0), (13, 0), (14, 1), (15, 0)] (fun W => (∃ f, Grid W B G k k blk cap f) ∧ Below B w W) (by kernel_rfl) (by kernel_rfl) (fun _ _ d _ _ h => by cases d <;> exact h) (⟨⟨_, HG.out.drew⟩, HBL.out.drew⟩) ?_
        intro Z hZ hR
        clear hZ
        iterate 9
          first
            | refine wpOrd_pure (fun K hK => ?_)
            | refine wpOrd_take (fun K hK => ?_)
          go_simp
          refine hK _ ?_
          clear hK K
        obtain ⟨⟨f, hf⟩, hbz⟩ := id hR
        have HR2 := Lib.hid hR
        have HF := Lib.hid hf
        have HBZ := Lib.hid hbz
        clear hR hf hbz
        refine wpOrd_doR (fun K hK => ?_)
        go_simp
        refine (within_nat _ k (by omega) (by omega) Z).mono ?_
        rintro e w' ⟨i, hi, rfl, rfl⟩
        refine hK _ _ (fun h => Bool.noConfusion (Eq.trans (Eq.symm (by kernel_rfl : _ = false)) h)) (fun _ => HR2.out) ?_
        clear hK K
        iterate 1
          first
            | refine wpOrd_pure (fun K hK => ?_)
            | refine wpOrd_take (fun K hK => ?_)
          go_simp
          refine hK _ ?_
          clear hK K
        refine wpOrd_keep (v := .slice (some ⟨blk i, 0, none⟩) k (cap i)) rfl rfl (fun wk hwk => ?_) ?_
        · obtain ⟨⟨f2, hf2⟩, -⟩ := hwk
          have k1 := hf2.ref i hi
          clear hf2
          go_simp
        refine wpOrd_doR (fun K hK => ?_)
        go_simp
        refine (within_nat _ k (by omega) (by omega) w').mono ?_
        rintro e w2 ⟨j, hj, rfl, rfl⟩
        refine hK _ _ (fun h => Bool.noConfusion (Eq.trans (Eq.symm (by kernel_rfl : _ = false)) h)) (fun _ => HR2.out) ?_
        clear hK K
        refine wpOrd_doR (fun K hK => ?_)
        go_simp
        refine (rare_tells _ w2).mono ?_
        rintro e w3 ⟨⟨b, rfl, hb⟩, hbw⟩
        have g3 := HF.out.below hbw
        have b3 := HBZ.out.trans (hbw.mono (by have := HBZ.out.size; omega))
        refine hK _ _ (fun h => Bool.noConfusion (Eq.trans (Eq.symm (by kernel_rfl : _ = false)) h)) (fun _ => ⟨⟨_, g3⟩, b3⟩) ?_
        clear hK K
        have r3 := (g3.row i hi).free
        obtain ⟨z, z1, -, -⟩ := g3.cell hi hj
        have HG4 := Lib.hid (g3.set hi hj rfl hb)
        have HB4 := Lib.hid (b3.setCell (p := ⟨blk i, j, none⟩) (g3.row i hi).lt.1 (.float .f64 b))
        clear g3 b3 hbw HR2 HF HBZ
        iterate 1
          first
            | refine wpOrd_pure (fun K hK => ?_)
            | refine wpOrd_take (fun K hK => ?_)
          go_simp
          refine hK _ ?_
          clear hK K
        refine wpOrd_doR (fun K hK => ?_)
        go_simp
        refine hK _ _ (fun h => Bool.noConfusion (Eq.trans (Eq.symm (by kernel_rfl : _ = false)) h)) (fun _ => ⟨⟨_, HG4.out⟩, HB4.out⟩) ?_
        clear hK K
        refine wpOrd_nil ?_
        go_wp2_with fail
        go_ret
        exact ⟨G, c, blk, cap, _, rfl, HG4.out, HB4.out⟩
      · have hn9 : (x % 9 == 0) = false := by simpa using h9
        go_wp2_with fail
        go_ret
        exact ⟨G, c, blk, cap, _, rfl, HG.out, HBL.out⟩
end Go.Proofs.Ytainodgbcpkipaa
