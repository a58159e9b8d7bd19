/-
  Rows of derivatives that the laws make.
-/
import Derived.Test.YtnlbafjmbamoeaaJh
import Derived.Test.YtnlbafjmbamoeaaTpn
import Derived.Maps.AppendAt
namespace Go.Proofs.Ytnlbafjmbamoeaa
open Go.RowKit
open Ieee (double)
attribute [local go_sem] alloc_drewN setCell_drewN call_bits call_frombits ord_lt ord_eq ord_gt ord_ne ord_le ord_ge eqB_self run_fadd run_fsub run_fmul run_fquo haStoreFlt

theorem lawWithin8 (a n : Int) (w : World) (h1 : 1 ≤ n) (h2 : n ≤ 9223372036854775807) :
    Calls Try.prog 15 #[.int .i64 a, .int .i64 n] w fun e w' => e = .returned (.int .i64 (a % n)) ∧ w = w' := by
  have h2' := Int.emod_nonneg a (show n ≠ 0 by omega)
  have h3 := Int.emod_lt_of_pos a (show 0 < n by omega)
  have h := emod_of_tmod (a := a) h1
  have H := Lib.hid h
  clear h
  go_enter Try.func15, Try.ntmps15
  go_wp2
  · go_ret
    refine ⟨?_, rfl⟩
    have := H.out.1 (by assumption)
    exact ret_int (by rw [this]; unfold wrap64; omega)
  · go_ret
    refine ⟨?_, rfl⟩
    exact ret_int (H.out.2 (by assumption))
/-- A whole number from -100 to 100. -/
def f201 (t : Int) : Nat := canon (floatOfInt .f64 (t - 100))
theorem f201_lt : ∀ i : Fin 201, floatOfInt .f64 ((i.val : Int) - 100) < 18446744073709551616 := by decide +kernel
theorem f201_val {t : Int} (h1 : 0 ≤ t) (h2 : t < 201) : canon (floatOfInt .f64 (t - 100)) = f201 t ∧ floatOfInt .f64 (t - 100) < 18446744073709551616 := by
  refine ⟨rfl, ?_⟩
  have h := f201_lt ⟨t.toNat, by omega⟩
  simp only [Int.toNat_of_nonneg h1] at h
  exact h
/-- The i-th of these, another one if there are not so many. -/
def nthF (ln : Nat) (ns : Nat → Int) (d : Int) (i : Nat) : Int := if i < ln then ns i else d
def zF (ln : Nat) (ns : Nat → Int) (k i j : Nat) : Nat := f201 (nthF ln ns ((i : Int) + j) (i * k + j) % 201)
/-- A table of its own. -/
def Grid8 (n m : Nat) (f : Nat → Nat → Nat) (w : World) (e : Ending) (w' : World) : Prop := ∃ (G c : Nat) (blk cap : Nat → Nat), e = .returned (.slice (some ⟨G, 0, none⟩) n c) ∧ Grid w' w.heap.size G n m blk cap f ∧ Below w.heap.size w w'
set_option maxRecDepth 100000 in
set_option maxHeartbeats 4000000 in
theorem make8_tells (q : Nat) (hq5 : q ≤ 6) (n : Int) (k : Nat) (hk : (k : Int) = 1 + n % 3) (v : Value) (ln : Nat) (ns : Nat → Int) (w : World) (h : IntsF w v ln ns) :
    Calls Try.prog 7 #[.int .i64 q, .int .i64 n, v] w (Grid8 (q + 1) k (zF ln ns k) w) := by
  obtain ⟨a, cap0, rfl, hl, hr⟩ := h
  obtain ⟨iF, hF, f1, f2, f3⟩ := info_parts infoF
  obtain ⟨iS, hS, s1, s2, s3⟩ := info_parts infoSl
  have HF := Lib.hid (show iF.zero = _ ∧ iF.size = _ ∧ iF.bytes = _ from ⟨f1, f2, f3⟩)
  have HF0 := Lib.hid hF
  have HS := Lib.hid (show iS.zero = _ ∧ iS.size = _ ∧ iS.bytes = _ from ⟨s1, s2, s3⟩)
  have HS0 := Lib.hid hS
  have HR := Lib.hid hr
  clear hF f1 f2 f3 hS s1 s2 s3 hr
  go_enter Try.func7, Try.ntmps7
  generalize hB : w.heap.size = B at *
  go_wp2_with fail
  refine (lawWithin8 n 3 _ (by decide) (by decide)).mono ?_
  rintro e w' ⟨rfl, rfl⟩
  have b1 := Int.emod_nonneg n (show (3 : Int) ≠ 0 by decide)
  have b2 := Int.emod_lt_of_pos n (show (0 : Int) < 3 by decide)
  generalize n % 3 = m at *
  obtain rfl : m = (k : Int) - 1 := by omega
  have hk1 : 1 ≤ k := by omega
  have hk5 : k ≤ 3 := by omega
  have e0 : (1 : Int) + ((k : Int) - 1) = k := by omega
  clear hk b1 b2
  go_wp2_with fail
  clear e0
  go_loopw [7, 9] (fun va i wr => ∃ (r : Nat) (blk cap : Nat → Nat), r ≤ q + 1 ∧ i = .int .i64 r ∧ GridV wr B va r k blk cap (zF ln ns k) ∧ Below B w wr) (fun _ i _ => q + 1 - (intOf i).toNat)
  case atStart => exact ⟨0, _, _, by omega, rfl, GridV.start _ _ _ _, Below.refl _ _⟩
  case round =>
    obtain ⟨r, blk, cap, hr, rfl, hg, hbl⟩ := hrel
    by_cases hlt : r < q + 1
    · have hgl := hg.lt
      have hsz := hbl.size
      have HG := Lib.hid hg
      have HGL := Lib.hid hgl
      obtain ⟨rs, hrs, -⟩ := hg.own
      obtain ⟨va', vcap, rfl⟩ := own_slice1 hrs
      have hrk : r * k ≤ 6 * 3 := Nat.mul_le_mul (by omega) hk5
      have m1 : (0 : Int) ≤ (r : Int) * (k : Int) := by rw [← Int.natCast_mul]; omega
      have m2 : (r : Int) * (k : Int) ≤ 18 := by rw [← Int.natCast_mul]; omega
      have m3 : ((r * k : Nat) : Int) = (r : Int) * (k : Int) := Int.natCast_mul _ _
      have HM3 := Lib.hid m3
      have hrq : decide (r ≤ q) = true := by simp; omega
      clear hg hgl hrs m3 rs
      go_wp2_with fail
      obtain ⟨wo, rfl⟩ : ∃ wo : World, wo = wr := ⟨_, rfl⟩
      generalize hH : wo.heap.size = H at *
      go_loopw [10, 11] (fun vr j wr => ∃ (c : Nat) (qs : List Value), c ≤ k ∧ j = .int .i64 c ∧ wr.ownsRow H 32 1 vr c qs ∧ FVals qs c (zF ln ns k r) ∧ Below H wo wr) (fun _ j _ => k - (intOf j).toNat)
      case atStart => exact ⟨0, [], by omega, rfl, World.ownsRow_nil _ _ _ _, FVals.nil _ _, Below.refl _ _⟩
      case round =>
        obtain ⟨c, qs, hc, rfl, ho, hq, hbx⟩ := hrel
        obtain ⟨ra, rcap, rfl⟩ := own_slice1 ho
        by_cases hcl : c < k
        · have hv : zF ln ns k r c = f201 (nthF ln ns ((r : Int) + c) (r * k + c) % 201) := rfl
          have HV := Lib.hid hv
          have HQ := Lib.hid hq
          have HO := Lib.hid ho
          have hsx := hbx.size
          clear hv hq ho
          by_cases hz : r * k + c < ln
          · obtain ⟨b, off, rfl, hbs, hcc⟩ := HR.out (by omega)
            have d1 := hcc _ hz
            have hbw : Below B w wr := hbl.trans (hbx.mono (by omega))
            rw [← show wr.cell? ⟨b, off + (r * k + c), none⟩ = w.cell? ⟨b, off + (r * k + c), none⟩ from hbw.cell (p := ⟨b, off + (r * k + c), none⟩) hbs] at d1
            have hnth : nthF ln ns ((r : Int) + c) (r * k + c) = ns (r * k + c) := if_pos hz
            generalize ns (r * k + c) = u at *
            have HN := Lib.hid hnth
            have hzi : (r : Int) * (k : Int) + (c : Int) < (ln : Int) := by have := HM3.out; omega
            have hzn : ((r : Int) * (k : Int) + (c : Int)).toNat = r * k + c := by have := HM3.out; omega
            clear hcc hnth
            go_wp2_with fail
            refine (lawWithin8 u 201 _ (by decide) (by decide)).mono ?_
            rintro e w' ⟨rfl, rfl⟩
            have b1 := Int.emod_nonneg u (show (201 : Int) ≠ 0 by decide)
            have b2 := Int.emod_lt_of_pos u (show (0 : Int) < 201 by decide)
            have HU := Lib.hid (show zF ln ns k r c = f201 (u % 201) by rw [HV.out, HN.out])
            generalize u % 201 = t at *
            obtain ⟨k3, k4⟩ := f201_val (t := t) (by omega) (by omega)
            have HK := Lib.hid k3
            clear k3 HN HV
            go_wp2_with (first
              | (at_builtin; refine wpList_append_own_at _ rfl _ _ 31 rfl H 32 iF (.float .f64 0) 1 8 Try.underlying31 HF0.out HF.out.1 HF.out.2.1 HF.out.2.2 rfl (by decide) (.slice ra c rcap) c qs rfl (HO.out.alloc _) ⟨wr.heap.size, 0, none⟩ 1 1 [.float .f64 (floatOfInt .f64 (t - 100))] rfl rfl (news1 wr (.float .f64 (floatOfInt .f64 (t - 100))) 32 0) (by simp [Value.oneCell']) (by unfold maxLen; omega) (by omega) (by simp; omega) ?_)
              | go_in)
            intro v' w2 hown' hgrow _ _
            have hb2 : Below H wr w2 := ((Below.refl H wr).alloc (by omega) _).trans (below_grown (HO.out.alloc _) (Nat.le_refl _) (by simp; omega) hgrow)
            have hql := HO.out.1
            have hq' := HQ.out.app (by omega) (HK.out.trans HU.out.symm) k4
            have HQ' := Lib.hid hq'
            have HO' := Lib.hid hown'
            clear hq' hown' hgrow
            go_wp2_with fail
            go_roundw
            case rel => exact ⟨c + 1, _, by omega, by go_num, HO'.out, HQ'.out, hbx.trans hb2⟩
            case measure => simp [intOf]; omega
          · have hnth : nthF ln ns ((r : Int) + c) (r * k + c) = (r : Int) + (c : Int) := by
              unfold nthF
              rw [if_neg hz]
            have HN := Lib.hid hnth
            have hzi : ¬ (r : Int) * (k : Int) + (c : Int) < (ln : Int) := by have := HM3.out; omega
            clear hnth
            go_wp2_with fail
            refine (lawWithin8 ((r : Int) + (c : Int)) 201 _ (by decide) (by decide)).mono ?_
            rintro e w' ⟨rfl, rfl⟩
            have b1 := Int.emod_nonneg ((r : Int) + (c : Int)) (show (201 : Int) ≠ 0 by decide)
            have b2 := Int.emod_lt_of_pos ((r : Int) + (c : Int)) (show (0 : Int) < 201 by decide)
            have HU := Lib.hid (show zF ln ns k r c = f201 (((r : Int) + (c : Int)) % 201) by rw [HV.out, HN.out])
            generalize ((r : Int) + (c : Int)) % 201 = t at *
            obtain ⟨k3, k4⟩ := f201_val (t := t) (by omega) (by omega)
            have HK := Lib.hid k3
            clear k3 HN HV
            go_wp2_with (first
              | (at_builtin; refine wpList_append_own_at _ rfl _ _ 31 rfl H 32 iF (.float .f64 0) 1 8 Try.underlying31 HF0.out HF.out.1 HF.out.2.1 HF.out.2.2 rfl (by decide) (.slice ra c rcap) c qs rfl (HO.out.alloc _) ⟨wr.heap.size, 0, none⟩ 1 1 [.float .f64 (floatOfInt .f64 (t - 100))] rfl rfl (news1 wr (.float .f64 (floatOfInt .f64 (t - 100))) 32 0) (by simp [Value.oneCell']) (by unfold maxLen; omega) (by omega) (by simp; omega) ?_)
              | go_in)
            intro v' w2 hown' hgrow _ _
            have hb2 : Below H wr w2 := ((Below.refl H wr).alloc (by omega) _).trans (below_grown (HO.out.alloc _) (Nat.le_refl _) (by simp; omega) hgrow)
            have hql := HO.out.1
            have hq' := HQ.out.app (by omega) (HK.out.trans HU.out.symm) k4
            have HQ' := Lib.hid hq'
            have HO' := Lib.hid hown'
            clear hq' hown' hgrow
            go_wp2_with fail
            go_roundw
            case rel => exact ⟨c + 1, _, by omega, by go_num, HO'.out, HQ'.out, hbx.trans hb2⟩
            case measure => simp [intOf]; omega
        · obtain rfl : c = k := by omega
          obtain ⟨R, rcap', hv, hO⟩ := hq.own ho (by omega)
          simp only [Value.slice.injEq] at hv
          obtain ⟨rfl, -, rfl⟩ := hv
          have HO := Lib.hid hO
          have hRl := hO.lt
          have hbw : Below B w wr := hbl.trans (hbx.mono (by omega))
          have hg1 : GridV wr B (.slice va' r vcap) r c blk cap (zF ln ns c) := HG.out.keep hbx HGL.out.1 HGL.out.2
          obtain ⟨rs, hrs, -⟩ := hg1.own
          have hrl := hrs.1
          have HG1 := Lib.hid hg1
          have HRS := Lib.hid hrs
          have hsx := hbx.size
          clear hO hq ho hg1 hrs
          go_wp2_with (first
            | (at_builtin; refine wpList_append_own_at _ rfl _ _ 29 rfl B 31 iS (.slice none 0 0) 1 24 Try.underlying29 HS0.out HS.out.1 HS.out.2.1 HS.out.2.2 rfl (by decide) (.slice va' r vcap) r rs rfl (HRS.out.alloc _) ⟨wr.heap.size, 0, none⟩ 1 1 [.slice (some ⟨R, 0, none⟩) c rcap] rfl rfl (news1 wr (.slice (some ⟨R, 0, none⟩) c rcap) 31 0) (by simp [Value.oneCell']) (by unfold maxLen; omega) (by omega) (by simp; omega) ?_)
            | go_in)
          intro v' w2 hown' hgrow _ hob
          have hb2 : Below B wr w2 := ((Below.refl B wr).alloc (by omega) _).trans (below_grown (HRS.out.alloc _) (Nat.le_refl _) (by simp; omega) hgrow)
          have hne : ∀ i, i < r → blk i ≠ R := fun i hi => by have := HGL.out.2 i hi; omega
          have hne0 : (Value.slice va' r vcap).ownBlock ≠ some R := fun e => by have := HGL.out.1 R e; omega
          have hg2 := HG1.out.app HRS.out (HO.out.base (by omega)) hne0 hne ((Below.refl _ _).alloc (Nat.le_refl _) _) hgrow hown' (fun k hk => by
            rcases hob with e | e
            · rw [e] at hk; exact .inl hk
            · rw [e] at hk; simp only [Option.some.injEq] at hk; right; rw [← hk]; simp)
          have HG2 := Lib.hid hg2
          clear hown' hgrow hob hne hne0 hg2
          go_wp2_with fail
          go_roundw
          case rel => exact ⟨r + 1, _, _, by omega, by go_num, HG2.out, hbw.trans hb2⟩
          case measure => simp [intOf]; omega
    · obtain rfl : r = q + 1 := by omega
      obtain ⟨G, c, hv, hG⟩ := hg.grid (by omega)
      have HV := Lib.hid hv
      have HG := Lib.hid hG
      subst hv
      clear hG hg
      go_wp2_with fail
      go_ret
      exact ⟨G, c, blk, cap, rfl, by rw [hB]; exact HG.out, by rw [hB]; exact hbl⟩
end Go.Proofs.Ytnlbafjmbamoeaa
