/-
  Tables that the laws of equations make.
-/
import Derived.Test.YtainodgbcpkipaaLma
namespace Go.Proofs.Ytainodgbcpkipaa
open Go.RowKit
open Ieee (double)
attribute [local go_sem] alloc_drewN setCell_drewN call_bits call_frombits ord_lt ord_eq ord_gt ord_ne ord_le ord_ge eqB_self run_fadd run_fsub run_fmul run_fquo haStoreFlt

set_option maxRecDepth 100000 in
set_option maxHeartbeats 4000000 in
theorem make_tells (n : Int) (k : Nat) (hk : (k : Int) = 1 + n % 5) (v : Value) (zs : List Int) (w : World) (h : Ints w v zs) :
    Calls Try.prog 14 #[.int .i64 n, v, .int .i64 1] w fun e w' => ∃ (G c : Nat) (blk cap : Nat → Nat), e = .returned (.slice (some ⟨G, 0, none⟩) k c) ∧ Grid w' w.heap.size G k k blk cap (makeV zs k) ∧ Below w.heap.size w w' := by
  obtain ⟨a, cap0, rfl, hl, hr⟩ := h.read
  obtain ⟨iF, hF, f1, f2, f3⟩ := info_parts infoF
  obtain ⟨iS, hS, s1, s2, s3⟩ := info_parts infoS
  have HF := Lib.hid (show iF.zero = _ ∧ iF.size = _ ∧ iF.bytes = _ from ⟨f1, f2, f3⟩)
  have HF0 := Lib.hid hF
  have HS := Lib.hid (show iS.zero = _ ∧ iS.size = _ ∧ iS.bytes = _ from ⟨s1, s2, s3⟩)
  have HS0 := Lib.hid hS
  have HR := Lib.hid hr
  clear hF f1 f2 f3 hS s1 s2 s3 hr h
  go_enter Try.func14, Try.ntmps14
  generalize hB : w.heap.size = B at *
  go_wp2_with fail
  refine (lawWithin_mod n 5 _ (by decide) (by decide)).mono ?_
  rintro e w' ⟨rfl, rfl⟩
  have b1 := Int.emod_nonneg n (show (5 : Int) ≠ 0 by decide)
  have b2 := Int.emod_lt_of_pos n (show (0 : Int) < 5 by decide)
  generalize n % 5 = m at *
  obtain rfl : m = (k : Int) - 1 := by omega
  have hk1 : 1 ≤ k := by omega
  have hk5 : k ≤ 5 := by omega
  have e0 : (1 : Int) + ((k : Int) - 1) = k := by omega
  clear hk b1 b2
  go_wp2_with fail
  clear e0
  go_loopw [8, 9] (fun va i wr => ∃ (r : Nat) (blk cap : Nat → Nat), r ≤ k ∧ i = .int .i64 r ∧ GridV wr B va r k blk cap (makeV zs k) ∧ Below B w wr) (fun _ i _ => k - (intOf i).toNat)
  case atStart => exact ⟨0, _, _, by omega, rfl, GridV.start _ _ _ _, Below.refl _ _⟩
  case round =>
    obtain ⟨r, blk, cap, hr, rfl, hg, hbl⟩ := hrel
    by_cases hlt : r < k
    · have hgl := hg.lt
      have hsz := hbl.size
      have HG := Lib.hid hg
      have HGL := Lib.hid hgl
      obtain ⟨rs, hrs, -⟩ := hg.own
      obtain ⟨va', vcap, rfl⟩ := own_slice1 hrs
      have hrk : r * k ≤ 4 * 5 := Nat.mul_le_mul (by omega) hk5
      have m1 : (0 : Int) ≤ (r : Int) * (k : Int) := by rw [← Int.natCast_mul]; omega
      have m2 : (r : Int) * (k : Int) ≤ 20 := by rw [← Int.natCast_mul]; omega
      have m3 : ((r * k : Nat) : Int) = (r : Int) * (k : Int) := Int.natCast_mul _ _
      have HM3 := Lib.hid m3
      clear hg hgl hrs m3 rs
      go_wp2_with fail
      obtain ⟨wo, rfl⟩ : ∃ wo : World, wo = wr := ⟨_, rfl⟩
      generalize hH : wo.heap.size = H at *
      go_loopw [10, 11] (fun vr j wr => ∃ (c : Nat) (qs : List Value), c ≤ k ∧ j = .int .i64 c ∧ wr.ownsRow H 45 1 vr c qs ∧ FVals qs c (makeV zs k r) ∧ Below H wo wr) (fun _ j _ => k - (intOf j).toNat)
      case atStart => exact ⟨0, [], by omega, rfl, World.ownsRow_nil _ _ _ _, FVals.nil _ _, Below.refl _ _⟩
      case round =>
        obtain ⟨c, qs, hc, rfl, ho, hq, hbx⟩ := hrel
        obtain ⟨ra, rcap, rfl⟩ := own_slice1 ho
        by_cases hcl : c < k
        · have hv : makeV zs k r c = c4 (nth zs (r * 7 + c) (r * k + c) % 33 - 16) := rfl
          have HV := Lib.hid hv
          have HQ := Lib.hid hq
          have HO := Lib.hid ho
          have hsx := hbx.size
          clear hv hq ho
          by_cases hz : r * k + c < zs.length
          · obtain ⟨b, off, rfl, hbs, hcc⟩ := HR.out (by omega)
            have d1 := hcc _ hz
            have hbw : Below B w wr := hbl.trans (hbx.mono (by omega))
            rw [← show wr.cell? ⟨b, off + (r * k + c), none⟩ = w.cell? ⟨b, off + (r * k + c), none⟩ from hbw.cell (p := ⟨b, off + (r * k + c), none⟩) hbs] at d1
            have hnth : nth zs (r * 7 + c) (r * k + c) = zs.getD (r * k + c) 0 := if_pos hz
            generalize zs.getD (r * k + c) 0 = u at *
            have HN := Lib.hid hnth
            have hzi : (r : Int) * (k : Int) + (c : Int) < (zs.length : Int) := by have := HM3.out; omega
            have hzn : ((r : Int) * (k : Int) + (c : Int)).toNat = r * k + c := by have := HM3.out; omega
            clear hcc hnth
            go_wp2_with fail
            refine (lawWithin_mod u 33 _ (by decide) (by decide)).mono ?_
            rintro e w' ⟨rfl, rfl⟩
            have b1 := Int.emod_nonneg u (show (33 : Int) ≠ 0 by decide)
            have b2 := Int.emod_lt_of_pos u (show (0 : Int) < 33 by decide)
            have HU := Lib.hid (show makeV zs k r c = c4 (u % 33 - 16) by rw [HV.out, HN.out])
            generalize u % 33 = t at *
            obtain ⟨k1, k2, k3, k4⟩ := c4_val (x := t - 16) (by omega) (by omega)
            have HK := Lib.hid k3
            clear k3 HN HV
            generalize c4 (t - 16) = y at *
            go_wp2_with (first
              | (at_builtin; refine wpList_append_own_at _ rfl _ _ 26 rfl H 45 iF (.float .f64 0) 1 8 Try.underlying26 HF0.out HF.out.1 HF.out.2.1 HF.out.2.2 rfl (by decide) (.slice ra c rcap) c qs rfl (own_drewN (HO.out.alloc _) _) ⟨wr.heap.size, 0, none⟩ 1 1 [.float .f64 y] rfl rfl (news1 wr (.float .f64 y) 45 _) (by simp [Value.oneCell']) (by unfold maxLen; omega) (by omega) (size_alloc _ _ _ (by omega)) ?_)
              | go_in)
            intro v' w2 hown' hgrow _ _
            have hb2 : Below H wr w2 := (below_drew ((Below.refl H wr).alloc (by omega) _) 0).trans (below_grown (own_drewN (HO.out.alloc _) 0) (Nat.le_refl _) (size_alloc _ _ _ (by omega)) hgrow)
            have hql := HO.out.1
            have hq' := HQ.out.app (by omega) (HK.out.trans HU.out.symm) k4
            have HQ' := Lib.hid hq'
            have HO' := Lib.hid hown'
            clear hq' hown' hgrow k1 k2
            go_wp2_with fail
            go_roundw
            case rel => exact ⟨c + 1, _, by omega, by go_num, HO'.out, HQ'.out, hbx.trans hb2⟩
            case measure => simp [intOf]; omega
          · have hnth : nth zs (r * 7 + c) (r * k + c) = (r : Int) * 7 + (c : Int) := by
              unfold nth
              rw [if_neg hz]
            have HN := Lib.hid hnth
            have hzi : ¬ (r : Int) * (k : Int) + (c : Int) < (zs.length : Int) := by have := HM3.out; omega
            clear hnth
            go_wp2_with fail
            refine (lawWithin_mod ((r : Int) * 7 + (c : Int)) 33 _ (by decide) (by decide)).mono ?_
            rintro e w' ⟨rfl, rfl⟩
            have b1 := Int.emod_nonneg ((r : Int) * 7 + (c : Int)) (show (33 : Int) ≠ 0 by decide)
            have b2 := Int.emod_lt_of_pos ((r : Int) * 7 + (c : Int)) (show (0 : Int) < 33 by decide)
            have HU := Lib.hid (show makeV zs k r c = c4 (((r : Int) * 7 + (c : Int)) % 33 - 16) by rw [HV.out, HN.out])
            generalize ((r : Int) * 7 + (c : Int)) % 33 = t at *
            obtain ⟨k1, k2, k3, k4⟩ := c4_val (x := t - 16) (by omega) (by omega)
            have HK := Lib.hid k3
            clear k3 HN HV
            generalize c4 (t - 16) = y at *
            go_wp2_with (first
              | (at_builtin; refine wpList_append_own_at _ rfl _ _ 26 rfl H 45 iF (.float .f64 0) 1 8 Try.underlying26 HF0.out HF.out.1 HF.out.2.1 HF.out.2.2 rfl (by decide) (.slice ra c rcap) c qs rfl (own_drewN (HO.out.alloc _) _) ⟨wr.heap.size, 0, none⟩ 1 1 [.float .f64 y] rfl rfl (news1 wr (.float .f64 y) 45 _) (by simp [Value.oneCell']) (by unfold maxLen; omega) (by omega) (size_alloc _ _ _ (by omega)) ?_)
              | go_in)
            intro v' w2 hown' hgrow _ _
            have hb2 : Below H wr w2 := (below_drew ((Below.refl H wr).alloc (by omega) _) 0).trans (below_grown (own_drewN (HO.out.alloc _) 0) (Nat.le_refl _) (size_alloc _ _ _ (by omega)) hgrow)
            have hql := HO.out.1
            have hq' := HQ.out.app (by omega) (HK.out.trans HU.out.symm) k4
            have HQ' := Lib.hid hq'
            have HO' := Lib.hid hown'
            clear hq' hown' hgrow k1 k2
            go_wp2_with fail
            go_roundw
            case rel => exact ⟨c + 1, _, by omega, by go_num, HO'.out, HQ'.out, hbx.trans hb2⟩
            case measure => simp [intOf]; omega
        · obtain rfl : c = k := by omega
          obtain ⟨R, rcap', hv, hO⟩ := hq.own ho (by omega)
          simp only [Value.slice.injEq] at hv
          obtain ⟨rfl, -, rfl⟩ := hv
          have HO := Lib.hid hO
          have hRl := hO.lt
          have hbw : Below B w wr := hbl.trans (hbx.mono (by omega))
          have hg1 : GridV wr B (.slice va' r vcap) r c blk cap (makeV zs c) := HG.out.keep hbx HGL.out.1 HGL.out.2
          obtain ⟨rs, hrs, -⟩ := hg1.own
          have hrl := hrs.1
          have HG1 := Lib.hid hg1
          have HRS := Lib.hid hrs
          have hsx := hbx.size
          clear hO hq ho hg1 hrs
          go_wp2_with (first
            | (at_builtin; refine wpList_append_own_at _ rfl _ _ 24 rfl B 26 iS (.slice none 0 0) 1 24 Try.underlying24 HS0.out HS.out.1 HS.out.2.1 HS.out.2.2 rfl (by decide) (.slice va' r vcap) r rs rfl (HRS.out.alloc _) ⟨wr.heap.size, 0, none⟩ 1 1 [.slice (some ⟨R, 0, none⟩) c rcap] rfl rfl (news1 wr (.slice (some ⟨R, 0, none⟩) c rcap) 26 0) (by simp [Value.oneCell']) (by unfold maxLen; omega) (by omega) (by simp; omega) ?_)
            | go_in)
          intro v' w2 hown' hgrow _ hob
          have hb2 : Below B wr w2 := ((Below.refl B wr).alloc (by omega) _).trans (below_grown (HRS.out.alloc _) (Nat.le_refl _) (by simp; omega) hgrow)
          have hne : ∀ i, i < r → blk i ≠ R := fun i hi => by have := HGL.out.2 i hi; omega
          have hne0 : (Value.slice va' r vcap).ownBlock ≠ some R := fun e => by have := HGL.out.1 R e; omega
          have hg2 := HG1.out.app HRS.out (HO.out.base (by omega)) hne0 hne ((Below.refl _ _).alloc (Nat.le_refl _) _) hgrow hown' (fun k hk => by
            rcases hob with e | e
            · rw [e] at hk; exact .inl hk
            · rw [e] at hk; simp only [Option.some.injEq] at hk; right; rw [← hk]; simp)
          have HG2 := Lib.hid hg2
          clear hown' hgrow hob hne hne0 hg2
          go_wp2_with fail
          go_roundw
          case rel => exact ⟨r + 1, _, _, by omega, by go_num, HG2.out, hbw.trans hb2⟩
          case measure => simp [intOf]; omega
    · obtain rfl : r = k := by omega
      obtain ⟨G, c, hv, hG⟩ := hg.grid (by omega)
      have HV := Lib.hid hv
      have HG := Lib.hid hG
      subst hv
      clear hG hg
      go_wp2_with fail
      refine ((lawWithin_mod 1 9 wr (by decide) (by decide)).mono ?_)
      rintro e w' ⟨rfl, rfl⟩
      go_wp2_with fail
      go_ret
      exact ⟨G, c, blk, cap, rfl, HG.out, hbl⟩
end Go.Proofs.Ytainodgbcpkipaa
