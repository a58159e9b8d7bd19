/-
  Texts laid together.
-/
import Derived.Test.YtclhgnhbmlkomaaJh
import Derived.Test.YtclhgnhbmlkomaaTpn
import Derived.Maps.AppendAt
import Derived.Test.YtclhgnhbmlkomaaCw
import Derived.Test.YtclhgnhbmlkomaaRo
import Derived.Test.YtclhgnhbmlkomaaLrd
import Derived.Test.YtclhgnhbmlkomaaInr
import Derived.Test.YtclhgnhbmlkomaaTmo
import Derived.Test.YtclhgnhbmlkomaaTpo
import Derived.Test.YtclhgnhbmlkomaaTpt
import Derived.Test.YtclhgnhbmlkomaaRows
import Derived.WalkKit
import Derived.WalkLawsBesides
import Derived.ProofKit
import Derived.OpenShut
import Derived.Carry
/-
  Rows of derivatives that the laws make.
-/
namespace Go.Proofs.Ytclhgnhbmlkomaa
open Go.RowKit
open Ieee (double)
attribute [local go_sem] alloc_drewN setCell_drewN call_bits call_frombits ord_lt ord_eq ord_gt ord_ne ord_le ord_ge eqB_self run_fadd run_fsub run_fmul run_fquo haStoreFlt

theorem lawWithin8 (a n : Int) (w : World) (h1 : 1 ≤ n) (h2 : n ≤ 9223372036854775807) :
    Calls Try.prog 34 #[.int .i64 a, .int .i64 n] w fun e w' => e = .returned (.int .i64 (a % n)) ∧ w = w' := by
  have h2' := Int.emod_nonneg a (show n ≠ 0 by omega)
  have h3 := Int.emod_lt_of_pos a (show 0 < n by omega)
  have h := emod_of_tmod (a := a) h1
  have H := Lib.hid h
  clear h
  go_enter Try.func34, Try.ntmps34
  go_wp2
  · go_ret
    refine ⟨?_, rfl⟩
    have := H.out.1 (by assumption)
    exact ret_int (by rw [this]; unfold wrap64; omega)
  · go_ret
    refine ⟨?_, rfl⟩
    exact ret_int (H.out.2 (by assumption))
/-- A whole number from -100 to 100. -/
def f201 (t : Int) : Nat := canon (floatOfInt .f64 (t - 100))
theorem f201_lt : ∀ i : Fin 201, floatOfInt .f64 ((i.val : Int) - 100) < 18446744073709551616 := by decide +kernel
theorem f201_val {t : Int} (h1 : 0 ≤ t) (h2 : t < 201) : canon (floatOfInt .f64 (t - 100)) = f201 t ∧ floatOfInt .f64 (t - 100) < 18446744073709551616 := by
  refine ⟨rfl, ?_⟩
  have h := f201_lt ⟨t.toNat, by omega⟩
  simp only [Int.toNat_of_nonneg h1] at h
  exact h
/-- The i-th of these, another one if there are not so many. -/
def nthF (ln : Nat) (ns : Nat → Int) (d : Int) (i : Nat) : Int := if i < ln then ns i else d
def zF (ln : Nat) (ns : Nat → Int) (k i j : Nat) : Nat := f201 (nthF ln ns ((i : Int) + j) (i * k + j) % 201)
/-- A table of its own. -/
def Grid8 (n m : Nat) (f : Nat → Nat → Nat) (w : World) (e : Ending) (w' : World) : Prop := ∃ (G c : Nat) (blk cap : Nat → Nat), e = .returned (.slice (some ⟨G, 0, none⟩) n c) ∧ Grid w' w.heap.size G n m blk cap f ∧ Below w.heap.size w w'
set_option maxRecDepth 100000 in
set_option maxHeartbeats 4000000 in
theorem make8_tells (q : Nat) (hq5 : q ≤ 6) (n : Int) (k : Nat) (hk : (k : Int) = 1 + n % 3) (v : Value) (ln : Nat) (ns : Nat → Int) (w : World) (h : IntsF w v ln ns) :
    Calls Try.prog 17 #[.int .i64 q, .int .i64 n, v] w (Grid8 (q + 1) k (zF ln ns k) w) := by
  obtain ⟨a, cap0, rfl, hl, hr⟩ := h
  obtain ⟨iF, hF, f1, f2, f3⟩ := info_parts infoF
  obtain ⟨iS, hS, s1, s2, s3⟩ := info_parts infoSl
  have HF := Lib.hid (show iF.zero = _ ∧ iF.size = _ ∧ iF.bytes = _ from ⟨f1, f2, f3⟩)
  have HF0 := Lib.hid hF
  have HS := Lib.hid (show iS.zero = _ ∧ iS.size = _ ∧ iS.bytes = _ from ⟨s1, s2, s3⟩)
  have HS0 := Lib.hid hS
  have HR := Lib.hid hr
  clear hF f1 f2 f3 hS s1 s2 s3 hr
  go_enter Try.func17, Try.ntmps17
  generalize hB : w.heap.size = B at *
  go_wp2_with fail
  refine (lawWithin8 n 3 _ (by decide) (by decide)).mono ?_
  rintro e w' ⟨rfl, rfl⟩
  have b1 := Int.emod_nonneg n (show (3 : Int) ≠ 0 by decide)
  have b2 := Int.emod_lt_of_pos n (show (0 : Int) < 3 by decide)
  generalize n % 3 = m at *
  obtain rfl : m = (k : Int) - 1 := by omega
  have hk1 : 1 ≤ k := by omega
  have hk5 : k ≤ 3 := by omega
  have e0 : (1 : Int) + ((k : Int) - 1) = k := by omega
  clear hk b1 b2
  go_wp2_with fail
  clear e0
  go_loopw [7, 9] (fun va i wr => ∃ (r : Nat) (blk cap : Nat → Nat), r ≤ q + 1 ∧ i = .int .i64 r ∧ GridV wr B va r k blk cap (zF ln ns k) ∧ Below B w wr) (fun _ i _ => q + 1 - (intOf i).toNat)
  case atStart => exact ⟨0, _, _, by omega, rfl, GridV.start _ _ _ _, Below.refl _ _⟩
  case round =>
    obtain ⟨r, blk, cap, hr, rfl, hg, hbl⟩ := hrel
    by_cases hlt : r < q + 1
    · have hgl := hg.lt
      have hsz := hbl.size
      have HG := Lib.hid hg
      have HGL := Lib.hid hgl
      obtain ⟨rs, hrs, -⟩ := hg.own
      obtain ⟨va', vcap, rfl⟩ := own_slice1 hrs
      have hrk : r * k ≤ 6 * 3 := Nat.mul_le_mul (by omega) hk5
      have m1 : (0 : Int) ≤ (r : Int) * (k : Int) := by rw [← Int.natCast_mul]; omega
      have m2 : (r : Int) * (k : Int) ≤ 18 := by rw [← Int.natCast_mul]; omega
      have m3 : ((r * k : Nat) : Int) = (r : Int) * (k : Int) := Int.natCast_mul _ _
      have HM3 := Lib.hid m3
      have hrq : decide (r ≤ q) = true := by simp; omega
      clear hg hgl hrs m3 rs
      go_wp2_with fail
      obtain ⟨wo, rfl⟩ : ∃ wo : World, wo = wr := ⟨_, rfl⟩
      generalize hH : wo.heap.size = H at *
      go_loopw [10, 11] (fun vr j wr => ∃ (c : Nat) (qs : List Value), c ≤ k ∧ j = .int .i64 c ∧ wr.ownsRow H 32 1 vr c qs ∧ FVals qs c (zF ln ns k r) ∧ Below H wo wr) (fun _ j _ => k - (intOf j).toNat)
      case atStart => exact ⟨0, [], by omega, rfl, World.ownsRow_nil _ _ _ _, FVals.nil _ _, Below.refl _ _⟩
      case round =>
        obtain ⟨c, qs, hc, rfl, ho, hq, hbx⟩ := hrel
        obtain ⟨ra, rcap, rfl⟩ := own_slice1 ho
        by_cases hcl : c < k
        · have hv : zF ln ns k r c = f201 (nthF ln ns ((r : Int) + c) (r * k + c) % 201) := rfl
          have HV := Lib.hid hv
          have HQ := Lib.hid hq
          have HO := Lib.hid ho
          have hsx := hbx.size
          clear hv hq ho
          by_cases hz : r * k + c < ln
          · obtain ⟨b, off, rfl, hbs, hcc⟩ := HR.out (by omega)
            have d1 := hcc _ hz
            have hbw : Below B w wr := hbl.trans (hbx.mono (by omega))
            rw [← show wr.cell? ⟨b, off + (r * k + c), none⟩ = w.cell? ⟨b, off + (r * k + c), none⟩ from hbw.cell (p := ⟨b, off + (r * k + c), none⟩) hbs] at d1
            have hnth : nthF ln ns ((r : Int) + c) (r * k + c) = ns (r * k + c) := if_pos hz
            generalize ns (r * k + c) = u at *
            have HN := Lib.hid hnth
            have hzi : (r : Int) * (k : Int) + (c : Int) < (ln : Int) := by have := HM3.out; omega
            have hzn : ((r : Int) * (k : Int) + (c : Int)).toNat = r * k + c := by have := HM3.out; omega
            clear hcc hnth
            go_wp2_with fail
            refine (lawWithin8 u 201 _ (by decide) (by decide)).mono ?_
            rintro e w' ⟨rfl, rfl⟩
            have b1 := Int.emod_nonneg u (show (201 : Int) ≠ 0 by decide)
            have b2 := Int.emod_lt_of_pos u (show (0 : Int) < 201 by decide)
            have HU := Lib.hid (show zF ln ns k r c = f201 (u % 201) by rw [HV.out, HN.out])
            generalize u % 201 = t at *
            obtain ⟨k3, k4⟩ := f201_val (t := t) (by omega) (by omega)
            have HK := Lib.hid k3
            clear k3 HN HV
            go_wp2_with (first
              | (at_builtin; refine wpList_append_own_at _ rfl _ _ 31 rfl H 32 iF (.float .f64 0) 1 8 Try.underlying31 HF0.out HF.out.1 HF.out.2.1 HF.out.2.2 rfl (by decide) (.slice ra c rcap) c qs rfl (HO.out.alloc _) ⟨wr.heap.size, 0, none⟩ 1 1 [.float .f64 (floatOfInt .f64 (t - 100))] rfl rfl (news1 wr (.float .f64 (floatOfInt .f64 (t - 100))) 32 0) (by simp [Value.oneCell']) (by unfold maxLen; omega) (by omega) (by simp; omega) ?_)
              | go_in)
            intro v' w2 hown' hgrow _ _
            have hb2 : Below H wr w2 := ((Below.refl H wr).alloc (by omega) _).trans (below_grown (HO.out.alloc _) (Nat.le_refl _) (by simp; omega) hgrow)
            have hql := HO.out.1
            have hq' := HQ.out.app (by omega) (HK.out.trans HU.out.symm) k4
            have HQ' := Lib.hid hq'
            have HO' := Lib.hid hown'
            clear hq' hown' hgrow
            go_wp2_with fail
            go_roundw
            case rel => exact ⟨c + 1, _, by omega, by go_num, HO'.out, HQ'.out, hbx.trans hb2⟩
            case measure => simp [intOf]; omega
          · have hnth : nthF ln ns ((r : Int) + c) (r * k + c) = (r : Int) + (c : Int) := by
              unfold nthF
              rw [if_neg hz]
            have HN := Lib.hid hnth
            have hzi : ¬ (r : Int) * (k : Int) + (c : Int) < (ln : Int) := by have := HM3.out; omega
            clear hnth
            go_wp2_with fail
            refine (lawWithin8 ((r : Int) + (c : Int)) 201 _ (by decide) (by decide)).mono ?_
            rintro e w' ⟨rfl, rfl⟩
            have b1 := Int.emod_nonneg ((r : Int) + (c : Int)) (show (201 : Int) ≠ 0 by decide)
            have b2 := Int.emod_lt_of_pos ((r : Int) + (c : Int)) (show (0 : Int) < 201 by decide)
            have HU := Lib.hid (show zF ln ns k r c = f201 (((r : Int) + (c : Int)) % 201) by rw [HV.out, HN.out])
            generalize ((r : Int) + (c : Int)) % 201 = t at *
            obtain ⟨k3, k4⟩ := f201_val (t := t) (by omega) (by omega)
            have HK := Lib.hid k3
            clear k3 HN HV
            go_wp2_with (first
              | (at_builtin; refine wpList_append_own_at _ rfl _ _ 31 rfl H 32 iF (.float .f64 0) 1 8 Try.underlying31 HF0.out HF.out.1 HF.out.2.1 HF.out.2.2 rfl (by decide) (.slice ra c rcap) c qs rfl (HO.out.alloc _) ⟨wr.heap.size, 0, none⟩ 1 1 [.float .f64 (floatOfInt .f64 (t - 100))] rfl rfl (news1 wr (.float .f64 (floatOfInt .f64 (t - 100))) 32 0) (by simp [Value.oneCell']) (by unfold maxLen; omega) (by omega) (by simp; omega) ?_)
              | go_in)
            intro v' w2 hown' hgrow _ _
            have hb2 : Below H wr w2 := ((Below.refl H wr).alloc (by omega) _).trans (below_grown (HO.out.alloc _) (Nat.le_refl _) (by simp; omega) hgrow)
            have hql := HO.out.1
            have hq' := HQ.out.app (by omega) (HK.out.trans HU.out.symm) k4
            have HQ' := Lib.hid hq'
            have HO' := Lib.hid hown'
            clear hq' hown' hgrow
            go_wp2_with fail
            go_roundw
            case rel => exact ⟨c + 1, _, by omega, by go_num, HO'.out, HQ'.out, hbx.trans hb2⟩
            case measure => simp [intOf]; omega
        · obtain rfl : c = k := by omega
          obtain ⟨R, rcap', hv, hO⟩ := hq.own ho (by omega)
          simp only [Value.slice.injEq] at hv
          obtain ⟨rfl, -, rfl⟩ := hv
          have HO := Lib.hid hO
          have hRl := hO.lt
          have hbw : Below B w wr := hbl.trans (hbx.mono (by omega))
          have hg1 : GridV wr B (.slice va' r vcap) r c blk cap (zF ln ns c) := HG.out.keep hbx HGL.out.1 HGL.out.2
          obtain ⟨rs, hrs, -⟩ := hg1.own
          have hrl := hrs.1
          have HG1 := Lib.hid hg1
          have HRS := Lib.hid hrs
          have hsx := hbx.size
          clear hO hq ho hg1 hrs
          go_wp2_with (first
            | (at_builtin; refine wpList_append_own_at _ rfl _ _ 29 rfl B 31 iS (.slice none 0 0) 1 24 Try.underlying29 HS0.out HS.out.1 HS.out.2.1 HS.out.2.2 rfl (by decide) (.slice va' r vcap) r rs rfl (HRS.out.alloc _) ⟨wr.heap.size, 0, none⟩ 1 1 [.slice (some ⟨R, 0, none⟩) c rcap] rfl rfl (news1 wr (.slice (some ⟨R, 0, none⟩) c rcap) 31 0) (by simp [Value.oneCell']) (by unfold maxLen; omega) (by omega) (by simp; omega) ?_)
            | go_in)
          intro v' w2 hown' hgrow _ hob
          have hb2 : Below B wr w2 := ((Below.refl B wr).alloc (by omega) _).trans (below_grown (HRS.out.alloc _) (Nat.le_refl _) (by simp; omega) hgrow)
          have hne : ∀ i, i < r → blk i ≠ R := fun i hi => by have := HGL.out.2 i hi; omega
          have hne0 : (Value.slice va' r vcap).ownBlock ≠ some R := fun e => by have := HGL.out.1 R e; omega
          have hg2 := HG1.out.app HRS.out (HO.out.base (by omega)) hne0 hne ((Below.refl _ _).alloc (Nat.le_refl _) _) hgrow hown' (fun k hk => by
            rcases hob with e | e
            · rw [e] at hk; exact .inl hk
            · rw [e] at hk; simp only [Option.some.injEq] at hk; right; rw [← hk]; simp)
          have HG2 := Lib.hid hg2
          clear hown' hgrow hob hne hne0 hg2
          go_wp2_with fail
          go_roundw
          case rel => exact ⟨r + 1, _, _, by omega, by go_num, HG2.out, hbw.trans hb2⟩
          case measure => simp [intOf]; omega
    · obtain rfl : r = q + 1 := by omega
      obtain ⟨G, c, hv, hG⟩ := hg.grid (by omega)
      have HV := Lib.hid hv
      have HG := Lib.hid hG
      subst hv
      clear hG hg
      go_wp2_with fail
      go_ret
      exact ⟨G, c, blk, cap, rfl, by rw [hB]; exact HG.out, by rw [hB]; exact hbl⟩
end Go.Proofs.Ytclhgnhbmlkomaa
/-
  What the laws of steps have in common.
-/
namespace Go.Proofs.Ytclhgnhbmlkomaa
open Go.RowKit
open Ieee (double)
attribute [local go_sem] alloc_drewN setCell_drewN call_bits call_frombits ord_lt ord_eq ord_gt ord_ne ord_le ord_ge eqB_self run_fadd run_fsub run_fmul run_fquo haStoreFlt takeOp pureOp readsUpon doOp run_store_fn run_store_fc run_store_slice

theorem known9o (w : World) : Calls Try.prog 14 #[] w (Tells (.bool true) w) :=
  (Ex.run_law (V := Ex.adV []) mixed namesAll Ex.gam_nil (ctrB_ok (Ex.adV_ok []) (t := []) (fun _ _ _ h => by cases h)) known_run (vs := #[]) trivial w).mono fun _ _ h => h
theorem ints_F9 {w : World} {v : Value} {zs : List Int} (h : Ints w v zs) : IntsF w v zs.length (fun i => zs.getD i 0) := by
  rcases h with ⟨o, cap, rfl, rfl⟩ | ⟨b, off, cap, rfl, hbs, hl, hc⟩
  · exact ⟨o, cap, by simp, by simp, fun h => by simp at h⟩
  · exact ⟨_, cap, rfl, hl, fun _ => ⟨b, off, rfl, hbs, hc⟩⟩
theorem lawWithin9 (a n : Int) (w : World) (h1 : 1 ≤ n) (h2 : n ≤ 9223372036854775807) :
    Calls Try.prog 16 #[.int .i64 a, .int .i64 n] w fun e w' => e = .returned (.int .i64 (a % n)) ∧ w = w' := by
  have h2' := Int.emod_nonneg a (show n ≠ 0 by omega)
  have h3 := Int.emod_lt_of_pos a (show 0 < n by omega)
  have h := emod_of_tmod (a := a) h1
  have H := Lib.hid h
  clear h
  go_enter Try.func16, Try.ntmps16
  go_wp2
  · go_ret
    refine ⟨?_, rfl⟩
    have := H.out.1 (by assumption)
    exact ret_int (by rw [this]; unfold wrap64; omega)
  · go_ret
    refine ⟨?_, rfl⟩
    exact ret_int (H.out.2 (by assumption))
/-- A step of either kind. -/
theorem corr_any (n : Nat) (T : TD) (vo vu vz vl vw : Value) (m k M : Nat) (z : Nat → Nat → Nat) (l wt : Nat → Nat) (w : World) (hx : CtxAt w n T vo vu vz vl vw m z l wt)
    (hck : checkB T = true) (hcs : ∀ i, (T.op i).c < 18446744073709551616) (hn : T.n = n) (h1 : 1 ≤ n) (h4 : n ≤ 4) (hm : 2 ≤ m) (hk : k < 43) (hM : M < 2) :
    Calls Try.prog 20 #[.agg #[.int .i64 n, vo, vu], vz, vl, .int .i64 ((2 ^ k : Nat) : Int), .int .i64 M, vw] w (SumT n (corrF T z wt (l 0) (lenF ((2 ^ k : Nat) : Int)) n (M == 1)) w) := by
  rcases (show M = 0 ∨ M = 1 by omega) with rfl | rfl
  · exact corr_adams n T vo vu vz vl vw m k z l wt w hx hck (fun i _ => hcs i) hn h1 h4 hm hk
  · exact corr_bdf n T vo vu vz vl vw m k z l wt w hx hck (fun i _ => hcs i) hn h1 h4 hm hk
/-- What is told, with a row of its own, or of none. -/
def SumV (d : Nat) (S : SumD) (w : World) (e : Ending) (w' : World) : Prop :=
  Below w.heap.size w w' ∧ ∃ (R : Nat) (p : Option Addr), e = .returned (.agg #[.slice p d d, .int .i64 S.tries, .int .i64 S.e]) ∧ FRow w' (.slice p d d) d S.d ∧ w.heap.size ≤ R ∧ (∀ k, k < 10 → R ≠ w'.heap.size + k) ∧ (0 < d → p = some ⟨R, 0, none⟩ ∧ OwnF w' w.heap.size R d d S.d)
theorem SumT.v {n : Nat} {S : SumD} {w : World} {e : Ending} {w' : World} (h : SumT n S w e w') (hn : n ≤ 4) : SumV (if S.has then n else 0) S w e w' := by
  obtain ⟨hb, h⟩ := h
  rcases h with ⟨hh, R, rfl, ho⟩ | ⟨hh, rfl⟩
  · rw [hh]
    exact ⟨hb, R, _, rfl, ho.flts (by omega), ho.lt.1, fun k _ => by have := ho.lt.2; omega, fun _ => ⟨rfl, ho⟩⟩
  · rw [hh]
    exact ⟨hb, w'.heap.size + 10, _, rfl, ⟨_, _, rfl, by simp, fun h0 => absurd h0 (by simp)⟩, by have := hb.size; omega, fun k hk => by omega, fun h0 => absurd h0 (by simp)⟩
theorem shl_step : ∀ S : Nat, S < 10 → wrap64 (2 ^ (10 + S)) = ((2 ^ (10 + S) : Nat) : Int) := by decide +kernel
/-- What a search that ended well has: so many tries' outcome. -/
def iterF (g : (Nat → Nat) → Nat → Nat) : Nat → (Nat → Nat) → Nat → Nat
  | 0, x => x
  | j + 1, x => iterF g j (g x)
theorem iterF_succ (g : (Nat → Nat) → Nat → Nat) : ∀ (j : Nat) (x : Nat → Nat), iterF g (j + 1) x = g (iterF g j x)
  | 0, _ => rfl
  | j + 1, x => by rw [iterF, iterF_succ g j (g x)]; rfl
theorem seek_has (nx : (Nat → Nat) → (Nat → Nat) × Nat) (n : Nat) : ∀ (k : Nat) (x : Nat → Nat), k ≤ 4 → (seekF nx n k x).has = true → (seekF nx n k x).e = 0 ∧ ∃ j, 1 ≤ j ∧ j ≤ k ∧ (seekF nx n k x).tries = (4 - k) + j ∧ (seekF nx n k x).d = iterF (fun y => (nx y).1) j x
  | 0, x, _, h => by unfold seekF at h; cases h
  | k + 1, x, hk, h => by
    unfold seekF at h ⊢
    split at h
    · cases h
    · rename_i h1
      rw [if_neg h1]
      split at h
      · rename_i h2
        rw [if_pos h2]
        exact ⟨rfl, 1, by omega, by omega, by show 4 - k = 4 - (k + 1) + 1; omega, rfl⟩
      · rename_i h2
        rw [if_neg h2]
        split at h
        · cases h
        · rename_i h3
          rw [if_neg h3]
          obtain ⟨a, j, b1, b2, b3, b4⟩ := seek_has nx n k (nx x).1 (by omega) h
          exact ⟨a, j + 1, by omega, by omega, by omega, b4⟩
theorem seek_not (nx : (Nat → Nat) → (Nat → Nat) × Nat) (n : Nat) : ∀ (k : Nat) (x : Nat → Nat), 1 ≤ k → k ≤ 4 → (seekF nx n k x).has = false → (seekF nx n k x).e ≠ 0 ∧ 1 ≤ (seekF nx n k x).tries ∧ (seekF nx n k x).tries ≤ 4
  | 0, x, h, _, _ => by omega
  | k + 1, x, _, hk, h => by
    unfold seekF at h ⊢
    split at h
    · rename_i h1
      rw [if_pos h1]
      exact ⟨show (2 : Int) ≠ 0 by decide, by show 1 ≤ 4 - k; omega, by show 4 - k ≤ 4; omega⟩
    · rename_i h1
      rw [if_neg h1]
      split at h
      · cases h
      · rename_i h2
        rw [if_neg h2]
        split at h
        · rename_i h3
          rw [if_pos h3]
          exact ⟨show (6 : Int) ≠ 0 by decide, show 1 ≤ 4 by decide, show 4 ≤ 4 by decide⟩
        · rename_i h3
          rw [if_neg h3]
          exact seek_not nx n k (nx x).1 (by omega) (by omega) h
end Go.Proofs.Ytclhgnhbmlkomaa
/-
  The law: what is added leaves nothing: walked.
-/
namespace Go.Proofs.Ytclhgnhbmlkomaa
open Go.RowKit
open Ieee (double)
attribute [local go_sem] alloc_drewN setCell_drewN call_bits call_frombits ord_lt ord_eq ord_gt ord_ne ord_le ord_ge eqB_self run_fadd run_fsub run_fmul run_fquo haStoreFlt takeOp pureOp readsUpon doOp run_store_fn run_store_fc run_store_slice

theorem shl_four : ∀ e : Nat, e < 6 → IntKind.i64.wrap (64 * 2 ^ min (IntKind.u64.wrap (IntKind.i64.wrap (2 * (e : Int)))).toNat 64) = 64 * 4 ^ e := by decide +kernel
theorem shl_more : ∀ S : Nat, S < 14 → wrap64 (2 ^ (14 + S)) = ((2 ^ (14 + S) : Nat) : Int) := by decide +kernel
set_option maxRecDepth 100000 in
set_option maxHeartbeats 8000000 in
theorem corrLeaves_any (n : Int) (v1 : Value) (zs1 : List Int) (od : Int) (v2 : Value) (zs2 : List Int) (st : Int) (w : World) (hn : -9223372036854775808 ≤ n ∧ n ≤ 9223372036854775807) (h1 : Intr w v1 zs1) (_ : -9223372036854775808 ≤ od ∧ od ≤ 9223372036854775807) (h2 : Intr w v2 zs2) (_ : -9223372036854775808 ≤ st ∧ st ≤ 9223372036854775807) :
    Calls Try.prog 6 #[.int .i64 n, v1, .int .i64 od, v2, .int .i64 st] w fun e w' => e = .returned (.bool true) ∧ Below w.heap.size w w' := by
  have MK := Lib.hid (fun W (hW : Below w.heap.size w W) => makeT_tells n v1 zs1.length (fun i => zs1.getD i 0) false W ((ints_F9 h1.1).below hW) hn h1.2)
  have hT := check_make n (fun i => zs1.getD i 0) zs1.length false
  have hTc : ∀ i, ((makeT n (fun i => zs1.getD i 0) zs1.length false).op i).c < 18446744073709551616 := fun i => opAt_c _ _ _ _
  have hTn : (makeT n (fun i => zs1.getD i 0) zs1.length false).n = 1 + n % 3 := rfl
  have hTl : (makeT n (fun i => zs1.getD i 0) zs1.length false).len ≤ 60 := (by
    have := Int.emod_nonneg n (show (3 : Int) ≠ 0 by decide)
    have := Int.emod_lt_of_pos n (show (0 : Int) < 3 by decide)
    show (1 + n % 3).toNat + 1 + min zs1.length 8 ≤ 60
    omega)
  generalize makeT n (fun i => zs1.getD i 0) zs1.length false = T at *
  obtain ⟨N, hN⟩ : ∃ N : Nat, (N : Int) = 1 + n % 3 := ⟨(1 + n % 3).toNat, by have := Int.emod_nonneg n (show (3 : Int) ≠ 0 by decide); omega⟩
  have hN3 : 1 ≤ N ∧ N ≤ 3 := by
    have := Int.emod_nonneg n (show (3 : Int) ≠ 0 by decide)
    have := Int.emod_lt_of_pos n (show (0 : Int) < 3 by decide)
    omega
  rw [← hN] at hTn
  have hlo := checkB_lo hT hTn
  have HTN := Lib.hid hTn
  have HTC := Lib.hid hTc
  have HTK := Lib.hid hT
  have HTL := Lib.hid hTl
  have HTO := Lib.hid hlo.1
  obtain ⟨O, hO⟩ : ∃ O : Nat, (O : Int) = 1 + od % 5 := ⟨(1 + od % 5).toNat, by have := Int.emod_nonneg od (show (5 : Int) ≠ 0 by decide); omega⟩
  have hO1 : 1 ≤ O ∧ O ≤ 5 := by
    have := Int.emod_nonneg od (show (5 : Int) ≠ 0 by decide)
    have := Int.emod_lt_of_pos od (show (0 : Int) < 5 by decide)
    omega
  have MZ := Lib.hid (fun W (hW : Below w.heap.size w W) => make8_tells O (by omega) ((N : Int) - 1) N (by omega) v2 zs2.length (fun i => zs2.getD i 0) W ((ints_F9 h2.1).below hW))
  generalize zF zs2.length (fun i => zs2.getD i 0) N = ZF at *
  obtain ⟨S, hS⟩ : ∃ S : Nat, (S : Int) = st % 14 := ⟨(st % 14).toNat, by have := Int.emod_nonneg st (show (14 : Int) ≠ 0 by decide); omega⟩
  have hS2 : S < 14 := by have := Int.emod_lt_of_pos st (show (0 : Int) < 10 by decide); omega
  have WM := Lib.hid (fun W => (lawWithin9 od 5 W (by decide) (by decide)).mono fun _ _ (h : _ = Ending.returned (.int .i64 (od % 5)) ∧ _) => (show _ = Ending.returned (.int .i64 ((O : Int) - 1)) ∧ _ by rw [show (O : Int) - 1 = od % 5 by omega]; exact h))
  have WS := Lib.hid (fun W => (lawWithin9 st 14 W (by decide) (by decide)).mono fun _ _ (h : _ = Ending.returned (.int .i64 (st % 14)) ∧ _) => (show _ = Ending.returned (.int .i64 (S : Int)) ∧ _ by rw [hS]; exact h))
  have OF := Lib.hid (fun W => rof_tells (m := 0) (q := O) (by omega) (by omega) (by omega) W)
  clear hN hT hTn hTc hTl hlo hO hS h1 h2
  generalize hLF : rofF 0 O = LF at *
  clear hLF
  go_enter Try.func6, Try.ntmps6
  generalize hB : w.heap.size = B at *
  go_wp2_with fail
  refine (known9o _).mono ?_
  rintro e w1 ⟨rfl, hb1⟩
  rw [hB] at hb1
  have HB1 := Lib.hid hb1
  clear hb1
  go_wp2_with fail
  refine (MK.out w1 HB1.out).mono ?_
  rintro e w2 ⟨u, rfl, hta, hb2⟩
  obtain ⟨va, vb, rfl, hoo, hoi, -⟩ := id hta
  obtain ⟨ta, tc, rfl, -⟩ := own_slice hoo
  obtain ⟨tb, td, rfl, -⟩ := own_slice hoi
  clear hoo hoi
  have HB2 := Lib.hid (show Below B w w2 from HB1.out.trans (hb2.mono (by have := HB1.out.size; omega)))
  have hat := hta.at (by have := HTL.out; omega) (by have := HTO.out; omega)
  have hv : (Value.int .i64 T.n) = .int .i64 N := by rw [HTN.out]
  simp only [hv] at hat ⊢
  have HT2 := Lib.hid hat
  have HAL := Lib.hid (al1 w2 (.cells #[.int .i64 N, .slice ta T.len tc, .slice tb T.lo td] 26))
  clear hta hat hb2 HB1 hv
  go_wp2_with fail
  refine (WM.out _).mono ?_
  rintro e w' ⟨rfl, rfl⟩
  have hw1 : IntKind.i64.wrap ((N : Int) - 1) = (N : Int) - 1 := IntWalk.i64_in _ (by omega)
  have hw0 : IntKind.i64.wrap (1 + ((O : Int) - 1)) = (O : Int) := by rw [show 1 + ((O : Int) - 1) = (O : Int) by omega]; exact IntWalk.i64_in _ (by omega)
  go_upto_region 5 with fail
  generalize w2.alloc (.cells #[.int .i64 N, .slice ta T.len tc, .slice tb T.lo td] 26) = X at *
  generalize hP : w2.heap.size = P at *
  obtain ⟨x1, x2, x3⟩ := HAL.out
  have p0 := at_block x1 0
  have pl0 := lt_block x1
  simp only [List.getElem?_toArray, List.getElem?_cons_zero] at p0
  have HX1 := Lib.hid x1
  have HTX := Lib.hid (HT2.out.below (hP ▸ x3))
  have HBX := Lib.hid (HB2.out.trans (x3.mono (by rw [← hP]; have := HB2.out.size; omega)))
  clear x1 x2 x3 HAL HT2 HB2
  go_wp2_with fail
  refine (MZ.out X HBX.out).mono ?_
  rintro e wa ⟨G, cG, blk, cap, rfl, hg, hba⟩
  have HG := Lib.hid hg
  have HBA := Lib.hid hba
  have q := hba.block P pl0
  rw [HX1.out] at q
  have HQ := Lib.hid q
  generalize hQF : (fun i j => cop .quo (ZF i j) (floatOfInt .f64 (64 * 4 ^ i))) = QF at *
  have HQF := Lib.hid (fun i j => (congrFun (congrFun hQF i) j).symm)
  have HG0 := Lib.hid (hg.congr (fun a c _ _ => (mixF_start QF ZF a c).symm))
  clear hg hba q p0 hw0 hw1 hQF HG
  go_wp2_with fail
  go_loopw [14] (fun i wr => ∃ e : Nat, e ≤ O + 1 ∧ i = .int .i64 e ∧ Grid wr X.heap.size G (O + 1) N blk cap (mixF QF ZF e 0) ∧ Below X.heap.size X wr) (fun i _ => O + 1 - (intOf i).toNat)
  case atStart => exact ⟨0, by omega, rfl, HG0.out, HBA.out⟩
  case round =>
    clear HG0
    obtain ⟨e, he, rfl, hg, hbl⟩ := hrel
    by_cases hen : e < O + 1
    · have r0 := hg.ref e hen
      have HG := Lib.hid hg
      have HBL := Lib.hid hbl
      have e1 : (e : Int) < (O : Int) + 1 := by omega
      clear hg hbl
      go_wp2_with fail
      generalize wr = WO at *
      go_loopw [15] (fun i wr => ∃ c : Nat, c ≤ N ∧ i = .int .i64 c ∧ Grid wr X.heap.size G (O + 1) N blk cap (mixF QF ZF e c) ∧ Below X.heap.size X wr) (fun i _ => N - (intOf i).toNat)
      case atStart => exact ⟨0, by omega, rfl, HG.out, HBL.out⟩
      case round =>
        clear HG HBL r0
        obtain ⟨c, hc, rfl, hg, hbl⟩ := hrel
        have r0 := hg.ref e hen
        by_cases hcn : c < N
        · obtain ⟨u, u1, u2, u3⟩ := (hg.row e hen).cell hcn
          have f1 := (hg.row e hen).free c
          have hR1 := (hg.row e hen).lt
          have c1 : (c : Int) < (N : Int) := by omega
          rw [mixF_at] at u2
          have HG := Lib.hid hg
          have HBL := Lib.hid hbl
          clear hg hbl
          go_wp2_with fail
          refine wp_region_ord [(0, 1), (1, 1), (2, 1), (3, 2), (4, 1), (5, 1), (6, 1), (7, 1), (8, 2), (9, 1), (10, 1), (11, 2), (12, 1), (13, 1), (14, 1), (15, 1), (16, 1), (17, 0), (18, 1), (19, 0)] (by kernel_rfl) (by kernel_rfl) (fun _ _ d _ _ h => by cases d <;> exact h) ?_
          intro Z hZ
          have hzz : ∀ b o, Z.cell? ⟨b, o, none⟩ = wr.cell? ⟨b, o, none⟩ := fun b o => by rw [hZ]; rfl
          have hzf : Z.frozen? ⟨blk e, c, none⟩ = wr.frozen? ⟨blk e, c, none⟩ := by rw [hZ]; rfl
          have HZ := Lib.hid (show Grid Z X.heap.size G (O + 1) N blk cap (mixF QF ZF e c) ∧ Below X.heap.size X Z by rw [hZ]; exact ⟨HG.out.drew, HBL.out.drew⟩)
          rw [← hzz] at r0 u1
          rw [← hzf] at f1
          clear hZ hzz hzf HG HBL
          have HN := Lib.hid (show cop .quo (ZF e c) (floatOfInt .f64 (64 * 4 ^ e)) = QF e c from (HQF.out e c).symm)
          have hsh := shl_four e (by omega)
          iterate 17
            first
              | refine wpOrd_pure (fun K hK => ?_)
              | refine wpOrd_take (fun K hK => ?_)
            go_simp
            refine hK _ ?_
            clear hK K
          generalize floatOfInt .f64 (64 * 4 ^ e) = kf at *
          clear hsh
          refine wpOrd_do (fun K hK => ?_)
          go_simp
          refine hK _ _ (fun _ => ⟨_, rfl⟩) ?_
          clear hK K
          iterate 1
            first
              | refine wpOrd_pure (fun K hK => ?_)
              | refine wpOrd_take (fun K hK => ?_)
            go_simp
            refine hK _ ?_
            clear hK K
          refine wpOrd_do (fun K hK => ?_)
          go_simp
          refine hK _ _ (fun h => Bool.noConfusion (Eq.trans (Eq.symm (by kernel_rfl : _ = false)) h)) ?_
          clear hK K
          have HG := Lib.hid (show Grid ((Z.setCell ⟨blk e, c, none⟩ (.float .f64 (fval .quo Z u kf))).drewN (ndraw .quo u kf)) X.heap.size G (O + 1) N blk cap (mixF QF ZF e (c + 1)) ∧ Below X.heap.size X ((Z.setCell ⟨blk e, c, none⟩ (.float .f64 (fval .quo Z u kf))).drewN (ndraw .quo u kf)) from by
            refine ⟨?_, below_drewN (HZ.out.2.setCell (p := ⟨blk e, c, none⟩) hR1.1 _) _⟩
            have g1 := HZ.out.1.set hen hcn (show canon (fval .quo Z u kf) = QF e c by rw [← HN.out, ← u2, canon_fval, cop_canon_left]) (fval_lt .quo Z _ _)
            exact ((g1.congr (fun a d _ _ => mixF_set QF ZF e c a d)) : Grid _ _ _ _ _ _ _ _).below (below_drewN (Below.refl _ _) _))
          clear HZ HN r0 u1 f1
          refine wpOrd_nil ?_
          go_wp2_with fail
          go_roundw
          case rel => exact ⟨c + 1, by omega, by go_num, HG.out⟩
          case measure => simp [intOf]; omega
        · obtain rfl : c = N := by omega
          have HGN := Lib.hid (hg.congr (fun a d _ hd => mixF_row QF ZF e c a d hd))
          clear hg
          go_wp2_with fail
          go_roundw
          case rel => exact ⟨e + 1, by omega, by go_num, HGN.out, hbl⟩
          case measure => simp [intOf]; omega
    · obtain rfl : e = O + 1 := by omega
      have HG := Lib.hid (hg.congr (fun a d ha _ => mixF_end QF ZF _ a d ha))
      have HBL := Lib.hid hbl
      clear hg hbl
      go_wp2_with fail
      refine (OF.out wr).mono ?_
      rintro e wc ⟨vl, rfl, hl, hbc⟩
      have HLC := Lib.hid hl
      have HZC := Lib.hid ((HG.out.below hbc).tab (c := cG) (by omega) (by omega))
      have HBC := Lib.hid (HBL.out.trans (hbc.mono HBL.out.size))
      clear hl hbc HG HBL HBA
      have hw2 : IntKind.i64.wrap (14 + (S : Int)) = 14 + (S : Int) := IntWalk.i64_in _ (by omega)
      go_wp2_with fail
      refine (WS.out _).mono ?_
      rintro e w' ⟨rfl, rfl⟩
      go_upto_region 15 with fail
      have hw3 := shl_more S hS2
      obtain ⟨H, hH⟩ : ∃ H : Int, ((2 ^ (14 + S) : Nat) : Int) = H := ⟨_, rfl⟩
      simp only [hw3, hH]
      clear hw2 hw3
      obtain ⟨gz, oz, kz, hze, hzl, hzr⟩ := HZC.out.rowAt (by omega)
      simp only [Value.slice.injEq, Option.some.injEq] at hze
      obtain ⟨hze, -, -⟩ := hze
      injection hze with hz1 hz2 _
      subst hz1 hz2
      obtain ⟨pr, cr, q0, hrow⟩ := hzr 0 (by omega)
      obtain ⟨ps, cs, q1, hros⟩ := hzr 1 (by omega)
      simp only [Nat.zero_add] at q0 q1
      have HRW := Lib.hid hrow
      have HRS := Lib.hid hros
      have HQ0 := Lib.hid q0
      have HQ1 := Lib.hid q1
      have HZL := Lib.hid hzl
      clear hzr hrow hros q1
      go_wp2_with fail
      refine (rweights_tells _ N (by omega) _ _ _ wc HRW.out).mono ?_
      rintro e wb ⟨vw, rfl, hvw, hba⟩
      have HXB := Lib.hid (show CtxAt wb N T (.slice ta T.len tc) (.slice tb T.lo td) (.slice (some ⟨G, 0, none⟩) (O + 1) cG) vl vw (O + 1) QF LF _ from ⟨(HTX.out.below HBC.out).below hba, HZC.out.below hba, HLC.out.below hba, hvw⟩)
      have HBB := Lib.hid (HBC.out.trans (hba.mono HBC.out.size))
      have HBW := Lib.hid hba
      have SV := Lib.hid (hH ▸ corr_adams N T _ _ _ _ _ (O + 1) (14 + S) QF LF _ wb HXB.out HTK.out (fun i _ => HTC.out i) HTN.out (by omega) (by omega) (by omega) (by omega) : Calls Try.prog 20 #[.agg #[.int .i64 N, .slice ta T.len tc, .slice tb T.lo td], .slice (some ⟨G, 0, none⟩) (O + 1) cG, vl, .int .i64 H, .int .i64 0, vw] wb (SumT N (corrF T QF (wtF (QF 0) 4562254508917369340 4562254508917369340) (LF 0) (lenF H) N false) wb))
      have hcf : corrF T QF (wtF (QF 0) 4562254508917369340 4562254508917369340) (LF 0) (lenF H) N false = seekF (adamsF T (QF 0) (QF 1) (wtF (QF 0) 4562254508917369340 4562254508917369340) (LF 0) (lenF H) N) N 4 (fun _ => 0) := by unfold corrF; rw [if_neg (by decide)]
      have SH := Lib.hid (fun h => seek_has (adamsF T (QF 0) (QF 1) (wtF (QF 0) 4562254508917369340 4562254508917369340) (LF 0) (lenF H) N) N 4 (fun _ => 0) (by omega) h)
      have SN := Lib.hid (fun h => seek_not (adamsF T (QF 0) (QF 1) (wtF (QF 0) 4562254508917369340 4562254508917369340) (LF 0) (lenF H) N) N 4 (fun _ => 0) (by omega) (by omega) h)
      rw [hcf] at SV
      have hnx : (fun y => (adamsF T (QF 0) (QF 1) (wtF (QF 0) 4562254508917369340 4562254508917369340) (LF 0) (lenF H) N y).1) = slopeF T (QF 0) (QF 1) (LF 0) (lenF H) := rfl
      rw [hnx] at SH
      generalize seekF (adamsF T (QF 0) (QF 1) (wtF (QF 0) 4562254508917369340 4562254508917369340) (LF 0) (lenF H) N) N 4 (fun _ => 0) = SD at *
      clear hcf hnx hvw hba hH
      have qq := HBB.out.block P pl0
      rw [HX1.out] at qq
      have e0 := at_block qq 0
      have e1 := at_block qq 1
      have e2 := at_block qq 2
      have HQ := Lib.hid qq
      simp only [List.getElem?_toArray, List.getElem?_cons_zero, List.getElem?_cons_succ] at e0 e1 e2
      clear qq
      go_wp2_with fail
      refine SV.out.mono ?_
      rintro e w9 ⟨hb9, hd⟩
      have HB9 := Lib.hid hb9
      clear SV hb9 e0 e1 e2
      rcases hd with ⟨hh, R, rfl, hoR⟩ | ⟨hh, rfl⟩
      · obtain ⟨h0, j, j1, j4, jt, jd⟩ := SH.out hh
        have hne : (SD.e != 0) = false := by rw [h0]; rfl
        have t1 : ¬ (SD.tries : Int) < 1 := by omega
        have t2 : ¬ (4 : Int) < (SD.tries : Int) := by omega
        have hnn : ((N : Int) != N) = false := by simp
        have hjt : SD.tries = j := by omega
        have HJ := Lib.hid jd
        have HJT := Lib.hid hjt
        have HPX := Lib.hid (HBB.out.trans (HB9.out.mono HBB.out.size))
        have qq := HPX.out.block P pl0
        rw [HX1.out] at qq
        have e0 := at_block qq 0
        have pl9 := lt_block qq
        simp only [List.getElem?_toArray, List.getElem?_cons_zero] at e0
        obtain ⟨y1, y2, y3⟩ := al1 w9 (.cells #[.slice (some ⟨R, 0, none⟩) N N, .int .i64 SD.tries, .int .i64 SD.e] 39)
        have HYQ := Lib.hid y1
        have HYX := Lib.hid (HPX.out.trans (y3.mono HPX.out.size))
        have HYW := Lib.hid (HBW.out.trans ((HB9.out.trans (y3.mono HB9.out.size)).mono HBW.out.size))
        have HOY := Lib.hid (hoR.below y3 hoR.lt.2)
        have HYB := Lib.hid (HB9.out.trans (y3.mono HB9.out.size))
        have HQY := Lib.hid ((y3.block P pl9).trans qq)
        clear SN SH hh hoR h0 hjt jd jt y1 y2 y3 qq q0
        go_upto_region 21 with fail
        clear e0
        generalize w9.alloc (.cells #[.slice (some ⟨R, 0, none⟩) N N, .int .i64 SD.tries, .int .i64 SD.e] 39) = Y at *
        generalize w9.heap.size = Q at *
        clear pl9
        clear HB9 HPX
        clear w9
        have e0 := at_block HQY.out 0
        simp only [List.getElem?_toArray, List.getElem?_cons_zero] at e0
        obtain ⟨iF, hF, f1, f2, f3⟩ := info_parts infoF
        have HF := Lib.hid (show iF.zero = _ ∧ iF.size = _ ∧ iF.bytes = _ from ⟨f1, f2, f3⟩)
        have HF0 := Lib.hid hF
        clear hF f1 f2 f3
        go_wp2_with (first
          | (refine wpList_make_full _ rfl _ _ _ rfl Y.heap.size 32 iF (.float .f64 0) 1 Try.underlying31 HF0.out HF.out.1 HF.out.2.1 .i64 .i64 (N : Int) (N : Int) N rfl rfl rfl rfl (by rw [HF.out.2.2]; omega) (by unfold maxLen; omega) (by omega) ?_)
          | fail)
        intro w10 hr10 hg10
        have HB10 := Lib.hid ((Below.refl _ _).grown hg10 (by omega) (fun k hk => by cases hk) : Below Y.heap.size Y w10)
        have HO10 := Lib.hid (ownF_made hr10)
        clear hr10 hg10 e0
        obtain ⟨bl, ol, cl, rfl, hbl0, hlr⟩ := HXB.out.lrow.numAt (by omega)
        obtain ⟨yl, l1, l2, l3⟩ := hlr 0 (by omega)
        rw [Nat.add_zero] at l1
        have HL1 := Lib.hid ((HYB.out.cell (p := ⟨bl, ol, none⟩) hbl0).trans l1)
        have HLL := Lib.hid (Nat.lt_of_lt_of_le hbl0 HYB.out.size)
        have HL2 := Lib.hid l2
        obtain ⟨b0, o0, c0, hv0, hb0, hr0⟩ := HRW.out.numAt (by omega)
        obtain ⟨b1, o1, c1, hv1, hb1, hr1⟩ := HRS.out.numAt (by omega)
        simp only [Value.slice.injEq] at hv0 hv1
        obtain ⟨rfl, -, rfl⟩ := hv0
        obtain ⟨rfl, -, rfl⟩ := hv1
        have HZ0 := Lib.hid hr0
        have HZ1 := Lib.hid hr1
        have hYs := HYW.out.size
        have HV0 := Lib.hid (show b0 < wc.heap.size ∧ b1 < wc.heap.size ∧ G < wc.heap.size from ⟨hb0, hb1, HZL.out⟩)
        clear hlr l1 l2 l3 hbl0 hr0 hr1 hb0 hb1 hzl
        have hPY : P < Y.heap.size := lt_block HQY.out
        have hQY : Q < Y.heap.size := lt_block HYQ.out
        have EV := Lib.hid (fun W (hW : Below Y.heap.size Y W) va x (hx : FRow W va N x) => refEval_tells T _ va x W ((HXB.out.tape.below HYB.out).below hW) HTK.out (fun i _ => HTC.out i) N HTN.out hx)
        generalize hSL : slopeF T (QF 0) (QF 1) (LF 0) (lenF H) = SL at *
        have HSL := Lib.hid hSL
        clear hSL
        go_wp2_with fail
        go_loopw [21, 22] (fun vp i wr => ∃ (k Rp : Nat), k ≤ j ∧ i = .int .i64 k ∧ vp = .slice (some ⟨Rp, 0, none⟩) N N ∧ OwnF wr Y.heap.size Rp N N (iterF SL k (fun _ => 0)) ∧ Below Y.heap.size Y wr) (fun _ i _ => j - (intOf i).toNat)
        case atStart => exact ⟨0, _, by omega, rfl, rfl, HO10.out, HB10.out⟩
        case round =>
          obtain ⟨k, Rp, hk, rfl, rfl, ho, hbl⟩ := hrel
          have HP := Lib.hid ho
          have HBL := Lib.hid hbl
          have hq := (hbl.block Q hQY).trans HYQ.out
          have q0 := at_block hq 0
          have q1 := at_block hq 1
          have q2 := at_block hq 2
          simp only [List.getElem?_toArray, List.getElem?_cons_zero, List.getElem?_cons_succ] at q0 q1 q2
          clear ho hbl hq q2
          by_cases hkj : k < j
          · have k1 : (k : Int) < (SD.tries : Int) := by have := HJT.out; omega
            clear q0
            go_wp2_with fail
            have HWO := Lib.hid (HYW.out.trans (HBL.out.mono hYs))
            have hWs := HBL.out.size
            clear q1
            generalize wr = WO at *
            go_loopw [23, 24] (fun vr i wr => ∃ (e : Nat) (qs : List Value), e ≤ N ∧ i = .int .i64 e ∧ wr.ownsRow WO.heap.size 32 1 vr e qs ∧ FVals qs e (atF (QF 0) (iterF SL k (fun _ => 0)) (LF 0)) ∧ Below WO.heap.size WO wr) (fun _ i _ => N - (intOf i).toNat)
            case atStart => exact ⟨0, [], by omega, rfl, World.ownsRow_nil _ _ _ _, FVals.nil _ _, Below.refl _ _⟩
            case round =>
              obtain ⟨e, qs, he, rfl, ho, hq, hbl⟩ := hrel
              obtain ⟨va, vcap, rfl⟩ := own_slice1 ho
              have HBW2 := Lib.hid (HBL.out.trans (hbl.mono hWs))
              have p0 := at_block ((HBW2.out.block P hPY).trans HQY.out) 0
              simp only [List.getElem?_toArray, List.getElem?_cons_zero] at p0
              have HO := Lib.hid ho
              have HQq := Lib.hid hq
              have HBI := Lib.hid hbl
              clear ho hq hbl
              by_cases hen : e < N
              · obtain ⟨u, u1, u2, u3⟩ := HP.out.cell hen
                have l1 := (HBW2.out.cell (p := ⟨bl, ol, none⟩) HLL.out).trans HL1.out
                rw [← HBI.out.cell (p := ⟨Rp, e, none⟩) HP.out.lt.2] at u1
                have e1 : (e : Int) < (N : Int) := by omega
                have U2 := Lib.hid u2
                clear u2
                go_wp2_with fail
                refine wp_region_ord [(0, 1), (1, 1), (2, 2), (3, 1), (4, 1), (5, 1), (6, 2), (7, 0), (8, 1)] (by kernel_rfl) (by kernel_rfl) (fun _ _ d _ _ h => by cases d <;> exact h) ?_
                intro Z hZ
                have hzz : ∀ b o, Z.cell? ⟨b, o, none⟩ = wr.cell? ⟨b, o, none⟩ := fun b o => by rw [hZ]; rfl
                have HZ := Lib.hid (show Below wr.heap.size wr Z by rw [hZ]; exact (Below.refl _ _).drew)
                rw [← hzz] at u1 l1
                clear hZ hzz
                iterate 7
                  first
                    | refine wpOrd_pure (fun K hK => ?_)
                    | refine wpOrd_take (fun K hK => ?_)
                  go_simp
                  refine hK _ ?_
                  clear hK K
                refine wpOrd_do (fun K hK => ?_)
                go_simp
                refine hK _ _ (fun _ => ⟨_, rfl⟩) ?_
                clear hK K
                iterate 1
                  first
                    | refine wpOrd_pure (fun K hK => ?_)
                    | refine wpOrd_take (fun K hK => ?_)
                  go_simp
                  refine hK _ ?_
                  clear hK K
                refine wpOrd_nil ?_
                have HY2 := Lib.hid (show canon (fval .mul Z yl u) = cop .mul (LF 0) (iterF SL k (fun _ => 0) e) by rw [canon_fval, ← HL2.out, ← U2.out, cop_canon_left, cop_canon_right])
                have HZ2 := Lib.hid (below_drewN HZ.out (ndraw .mul yl u))
                clear HZ u1 l1 p0
                generalize Z.drewN (ndraw .mul yl u) = W2 at *
                have hyl := fval_lt .mul Z yl u
                generalize fval .mul Z yl u = yy at *
                have HO2 := Lib.hid (own_below HO.out HZ2.out)
                have HB2w := Lib.hid (HBI.out.trans (HZ2.out.mono HBI.out.size))
                have HBc := Lib.hid (HWO.out.trans (HB2w.out.mono HWO.out.size))
                obtain ⟨x, x1, x2, x3⟩ := HZ0.out e hen
                rw [← HBc.out.cell (p := ⟨b0, o0 + e, none⟩) HV0.out.1] at x1
                have g0 := (HBc.out.cell (p := ⟨G, 0, none⟩) HV0.out.2.2).trans HQ0.out
                have KX := Lib.hid (fun (w : World) => (show canon (fval .add w x yy) = atF (QF 0) (iterF SL k (fun _ => 0)) (LF 0) e by unfold atF; rw [canon_fval, ← x2, ← HY2.out, cop_canon_left, cop_canon_right]))
                clear x2 hyl
                have hW2s : WO.heap.size ≤ W2.heap.size := HB2w.out.size
                go_wp2_with (first
                  | (at_builtin; refine wpList_append_own_at _ rfl _ _ 31 rfl WO.heap.size 32 iF (.float .f64 0) 1 8 Try.underlying31 HF0.out HF.out.1 HF.out.2.1 HF.out.2.2 rfl (by decide) (.slice va e vcap) e qs rfl (own_drewN (HO2.out.alloc _) _) ⟨W2.heap.size, 0, none⟩ 1 1 [.float .f64 _] rfl rfl (news1 _ _ 32 _) (by simp [Value.oneCell']) (by unfold maxLen; omega) (by omega) (size_alloc _ _ _ (by omega)) ?_)
                  | go_in)
                intro v' w4 hown' hgrow _ _
                have hb2 : Below WO.heap.size W2 w4 := (below_drewN ((Below.refl WO.heap.size W2).alloc (by omega) _) _).trans (below_grown (own_drewN (HO2.out.alloc _) _) (Nat.le_refl _) (size_alloc _ _ _ (by omega)) hgrow)
                have hql := HO2.out.1
                have HQ' := Lib.hid (HQq.out.app (f := atF (QF 0) (iterF SL k (fun _ => 0)) (LF 0)) (by omega) (KX.out W2) (fval_lt _ W2 _ _))
                have HO' := Lib.hid hown'
                have HB2 := Lib.hid (HB2w.out.trans hb2)
                clear hown' hgrow hb2 x1 g0
                go_wp2_with fail
                go_roundw
                case rel => exact ⟨e + 1, _, by omega, by go_num, HO'.out, HQ'.out, HB2.out⟩
                case measure => simp [intOf]; omega
              · obtain rfl : e = N := by omega
                have hR := HQq.out.row HO.out (by omega)
                have hBx := HBI.out
                have p1 := at_block ((HBW2.out.block P hPY).trans HQY.out) 1
                have p2 := at_block ((HBW2.out.block P hPY).trans HQY.out) 2
                simp only [List.getElem?_toArray, List.getElem?_cons_zero, List.getElem?_cons_succ] at p1 p2
                have hPw : P < wr.heap.size := by have := HBW2.out.size; omega
                have EC := Lib.hid (EV.out wr HBW2.out _ _ hR)
                clear hR hBx
                go_wp2_with fail
                refine EC.out.mono ?_
                rintro e' w5 ⟨vf, rfl, hf, hb5⟩
                have hlo : T.lo = e := HTO.out
                rw [hlo] at hf
                clear hlo
                obtain ⟨bf, of, cf, rfl, hbf, hfr⟩ := (show FRow w5 vf e _ from hf).numAt (by omega)
                have HFR := Lib.hid hfr
                have HB5 := Lib.hid (HBW2.out.trans (hb5.mono HBW2.out.size))
                have p0 := at_block ((HB5.out.block P hPY).trans HQY.out) 0
                simp only [List.getElem?_toArray, List.getElem?_cons_zero] at p0
                clear hf hfr hb5 p1 p2 EC HO HQq HBI HBW2
                have hs5 := HB5.out.size
                go_wp2_with (first
                  | (refine wpList_make_full _ rfl _ _ _ rfl w5.heap.size 32 iF (.float .f64 0) 1 Try.underlying31 HF0.out HF.out.1 HF.out.2.1 .i64 .i64 (e : Int) (e : Int) e rfl rfl rfl rfl (by rw [HF.out.2.2]; omega) (by unfold maxLen; omega) (by omega) ?_)
                  | fail)
                intro w6 hr6 hg6
                have HB6 := Lib.hid ((Below.refl _ _).grown hg6 (by omega) (fun k hk => by cases hk) : Below w5.heap.size w5 w6)
                have HO6 := Lib.hid (ownF_made hr6)
                clear hr6 hg6 p0
                generalize hHe : w5.heap.size = H5 at *
                go_wp2_with fail
                go_loopw [28] (fun i wr => ∃ (c : Nat) (h : Nat → Nat), c ≤ e ∧ i = .int .i64 c ∧ OwnF wr H5 H5 e e h ∧ (∀ d, d < c → h d = SL (iterF SL k (fun _ => 0)) d) ∧ Below H5 w5 wr) (fun i _ => e - (intOf i).toNat)
                case atStart => exact ⟨0, _, by omega, rfl, HO6.out, fun d hd => by omega, HB6.out⟩
                case round =>
                  clear HO6 HB6
                  obtain ⟨c, h, hc, rfl, ho, hh, hbl⟩ := hrel
                  have HB7 := Lib.hid (HB5.out.trans (hbl.mono (by omega)))
                  have p0 := at_block ((HB7.out.block P hPY).trans HQY.out) 0
                  simp only [List.getElem?_toArray, List.getElem?_cons_zero] at p0
                  have HO := Lib.hid ho
                  have HH := Lib.hid hh
                  have HBI := Lib.hid hbl
                  have hH5 : H5 ≤ wr.heap.size := hHe ▸ hbl.size
                  clear ho hh hbl
                  by_cases hen : c < e
                  · obtain ⟨y, y1, y2, y3⟩ := HFR.out c hen
                    rw [← HBI.out.cell (p := ⟨bf, of + c, none⟩) (hHe ▸ hbf)] at y1
                    have yl5 : bf < wr.heap.size := by omega
                    have Y2 := Lib.hid y2
                    have e1 : (c : Int) < (e : Int) := by omega
                    clear y2
                    go_wp2_with fail
                    clear p0
                    refine wp_region_ordR [(0, 1), (2, 1), (3, 1), (4, 1), (5, 3), (1, 0), (6, 0), (7, 1)] (fun W => Below wr.heap.size wr W) (by kernel_rfl) (by kernel_rfl) (fun _ _ d _ _ h => by cases d <;> exact h) ((Below.refl _ _).drew) ?_
                    intro Z hZ hbZ
                    clear hZ
                    iterate 4
                      first
                        | refine wpOrd_pure (fun K hK => ?_)
                        | refine wpOrd_take (fun K hK => ?_)
                      go_simp
                      refine hK _ ?_
                      clear hK K
                    refine wpOrd_keep (v := .float .f64 y) rfl rfl (fun wk hwk => ?_) ?_
                    · rw [← (haCell hwk).1 _ _ yl5] at y1
                      go_simp
                    refine wpOrd_doR (fun K hK => ?_)
                    go_simp
                    refine (rlength_tells H Z).mono ?_
                    rintro e' w7 ⟨hv, nd, rfl, k2, k3, rfl⟩
                    have hbA := below_drewN hbZ nd
                    refine hK _ _ (fun h => Bool.noConfusion (Eq.trans (Eq.symm (by kernel_rfl : _ = false)) h)) (fun _ => hbA) ?_
                    clear hK K
                    refine wpOrd_doR (fun K hK => ?_)
                    go_simp
                    refine hK _ _ (fun _ => ⟨_, rfl⟩) (fun _ => below_drewN hbZ _) ?_
                    clear hK K
                    iterate 1
                      first
                        | refine wpOrd_pure (fun K hK => ?_)
                        | refine wpOrd_take (fun K hK => ?_)
                      go_simp
                      refine hK _ ?_
                      clear hK K
                    refine wpOrd_nil ?_
                    have HK2 := Lib.hid (show canon (fval .mul (Z.drewN nd) hv y) = cop .mul (lenF H) (evR T.op (atF (QF 0) (iterF SL k (fun _ => 0)) (LF 0)) (T.out c).toNat) by rw [canon_fval, ← k2, ← Y2.out, cop_canon_left, cop_canon_right])
                    have hb8 := below_drewN hbZ (nd + ndraw .mul hv y)
                    clear hbA k2 k3 y1 yl5 hbZ
                    have hvl := fval_lt .mul (Z.drewN nd) hv y
                    generalize Z.drewN (nd + ndraw .mul hv y) = W8 at *
                    generalize fval .mul (Z.drewN nd) hv y = vv at *
                    clear Z
                    have hb9 := HB7.out.trans (hb8.mono (by have := HB7.out.size; omega))
                    have hbc := HYW.out.trans (hb9.mono hYs)
                    obtain ⟨x, x1, x2, x3⟩ := HZ1.out c hen
                    rw [← hbc.cell (p := ⟨b1, o1 + c, none⟩) HV0.out.2.1] at x1
                    have g1 := (hbc.cell (p := ⟨G, 1, none⟩) HV0.out.2.2).trans HQ1.out
                    have ho8 := HO.out.below hb8 HO.out.lt.2
                    have z2 := ho8.free c
                    obtain ⟨z, z1, -, -⟩ := ho8.cell hen
                    have HK3 := Lib.hid (fun (w : World) => (show canon (fval .sub w vv x) = SL (iterF SL k (fun _ => 0)) c by
                      have hs := congrFun (congrFun HSL.out (iterF SL k (fun _ => 0))) c
                      rw [← hs]
                      unfold slopeF
                      rw [canon_fval, ← x2, ← HK2.out, cop_canon_left, cop_canon_right]))
                    have ho9 := ho8.set hen (HK3.out W8) (fval_lt .sub W8 vv x)
                    have HFN := Lib.hid (show OwnF ((W8.setCell ⟨H5, c, none⟩ (.float .f64 (fval .sub W8 vv x))).drewN (ndraw .sub vv x)) H5 H5 e e (updN h c (SL (iterF SL k (fun _ => 0)) c)) ∧ (∀ d, d < c + 1 → updN h c (SL (iterF SL k (fun _ => 0)) c) d = SL (iterF SL k (fun _ => 0)) d) ∧ Below H5 w5 ((W8.setCell ⟨H5, c, none⟩ (.float .f64 (fval .sub W8 vv x))).drewN (ndraw .sub vv x)) from
                      ⟨ho9.below (below_drewN (Below.refl _ _) _) ho9.lt.2, fun d hd => by
                        by_cases hdc : d = c
                        · subst hdc
                          unfold updN; rw [if_pos rfl]
                        · unfold updN; rw [if_neg hdc]; exact HH.out d (by omega), below_drewN ((HBI.out.trans (hb8.mono hH5)).setCell (p := ⟨H5, c, none⟩) (Nat.le_refl _) _) _⟩)
                    clear hb8 hb9 hbc ho8 ho9 x2 hvl
                    go_wp2_with fail
                    go_roundw
                    case rel => exact ⟨c + 1, _, by omega, by go_num, HFN.out⟩
                    case measure => simp [intOf]; omega
                  · obtain rfl : c = e := by omega
                    have HPP := Lib.hid (((HO.out.base (b' := Y.heap.size) (by have := HB5.out.size; omega)).congr (fun d hd => (HH.out d hd).trans (congrFun (iterF_succ SL k (fun _ => 0)) d).symm)))
                    go_wp2_with fail
                    go_roundw
                    case rel =>
                      exact ⟨k + 1, _, by omega, by go_num, rfl, HPP.out, HB7.out⟩
                    case measure => simp [intOf]; omega
          · obtain rfl : k = j := by omega
            have k1 : ¬ (k : Int) < (SD.tries : Int) := by have := HJT.out; omega
            have hql : Q < wr.heap.size := by have := HBL.out.size; omega
            have HFP := Lib.hid (show FRow wr (.slice (some ⟨Rp, 0, none⟩) N N) N SD.d from by rw [HJ.out]; exact HP.out.flts (by omega))
            have HFD := Lib.hid (show FRow wr (.slice (some ⟨R, 0, none⟩) N N) N SD.d from (HOY.out.flts (by omega) : FRow Y _ N SD.d).below HBL.out)
            have HBD := Lib.hid (HBX.out.trans ((HYX.out.trans (HBL.out.mono HYX.out.size)).mono (by have := HBX.out.size; omega)))
            go_wp2_with fail
            refine (rows_true _ _ N SD.d wr HFP.out HFD.out).mono ?_
            rintro e' w16 ⟨rfl, hb16⟩
            have HB16 := Lib.hid (HBD.out.trans (hb16.mono (by have := HBD.out.size; omega)))
            clear hb16
            go_wp2_with fail
            go_ret
            exact ⟨rfl, HB16.out⟩
      · obtain ⟨n1, n2, n3⟩ := SN.out hh
        have n1' : (SD.e != 0) = true := by simpa using n1
        have n2' : (1 : Int) ≤ (SD.tries : Int) := by omega
        have n3' : (SD.tries : Int) ≤ 4 := by omega
        have HBD := Lib.hid (HBX.out.trans ((HBB.out.trans (HB9.out.mono HBB.out.size)).mono (by have := HBX.out.size; omega)))
        clear SN SH hh
        go_wp2_with fail
        go_ret
        exact ⟨rfl, HBD.out.alloc (by have := HBD.out.size; omega) _⟩
end Go.Proofs.Ytclhgnhbmlkomaa
/-
  'CorrLeaves': the law answers true, whatever it is given: every input, no condition.
-/
namespace Go.Proofs.Ytclhgnhbmlkomaa.corrLeaves
open Go.ChangeShapes Go.WideShapes Go.ChangeAt Go.RowKit Go.Proofs.Ytclhgnhbmlkomaa
theorem own : ownKnob Try.prog.godebug = none := by kernel_rfl
theorem laidOut : laidOutB Try.prog = true := by kernel_rfl
theorem float_lt {b : Nat} (h : (Lit.float .f64 b).wf = true) : b < 18446744073709551616 := by simpa [Lit.wf] using h
theorem int_lo {n : Int} (h : (Lit.int .i64 n).wf = true) : -9223372036854775808 ≤ n ∧ n ≤ 9223372036854775807 := by
  have a : IntKind.i64.min = -9223372036854775808 := by decide
  have b : IntKind.i64.max = 9223372036854775807 := by decide
  simp only [Lit.wf, Bool.and_eq_true, decide_eq_true_eq] at h; omega
set_option maxRecDepth 100000 in
theorem lifted (os : Os) (started : os.Started) (H : Type) (enc : TypeId × Value → H) :
    ReturnsInHanded {} Try.checked os 6 .any (Rows.corrLeavesSpec.pre6 enc Try.prog Try.f6 Rows.corrLeavesRow.domain false) (Rows.corrLeavesSpec.post enc Try.prog Try.f6 false true false false) := by
  refine returnsInHanded_of_change (C := Try.checked) own started (by kernel_rfl) Try.func6
    (ChangeSpec.witness6 (enc := enc) (C := Try.checked) false ⟨#[], #[.int .i64 0, .slice none 0 0, .int .i64 0, .slice none 0 0, .int .i64 0], []⟩ 8 (by kernel_rfl) (by kernel_rfl) (by kernel_rfl) (by kernel_rfl)) ?_
  intro W base args ds gs before hval0 hW hcnd _
  have hval : ∀ (j : Nat) t v, Try.f6.params[j]? = some t → args[j]? = some v → Value.okWide Try.prog W .any base t v := hval0
  have hW' := hW
  obtain ⟨p, q, hA0, hV, rfl, hfz, hnd⟩ := hW
  have hA : DataW.TrodAll enc Try.prog W 0 (fun _ => true) true Try.f6.params.toList args.toList ds p := hA0
  rw [Try.params6] at hA hval
  obtain ⟨v0, vs0, d0, ds0, p0, q0, hargs, rfl, rfl, h0, r0⟩ := trodAll_cons hA
  obtain ⟨v1, vs1, d1, ds1, p1, q1, rfl, rfl, rfl, h1, r1⟩ := trodAll_cons r0
  obtain ⟨v2, vs2, d2, ds2, p2, q2, rfl, rfl, rfl, h2, r2⟩ := trodAll_cons r1
  obtain ⟨v3, vs3, d3, ds3, p3, q3, rfl, rfl, rfl, h3, r3⟩ := trodAll_cons r2
  obtain ⟨v4, vs4, d4, ds4, p4, q4, rfl, rfl, rfl, h4, r4⟩ := trodAll_cons r3
  obtain ⟨rfl, rfl, rfl⟩ := trodAll_nil r4
  obtain rfl : args = #[v0, v1, v2, v3, v4] := by cases args; simp_all
  obtain ⟨rfl, rfl⟩ := trodVars_none hV
  obtain ⟨a0, rfl, rfl, rfl, w0⟩ := open_int Try.underlying3 (hval 0 3 v0 rfl rfl) h0
  have k1 := h1
  obtain ⟨zs1, z1⟩ := intr_of (hval 1 22 v1 rfl rfl) h1
  obtain ⟨a2, rfl, rfl, rfl, w2⟩ := open_int Try.underlying3 (hval 2 3 v2 rfl rfl) h2
  have k3 := h3
  obtain ⟨zs3, z3⟩ := intr_of (hval 3 22 v3 rfl rfl) h3
  obtain ⟨a4, rfl, rfl, rfl, w4⟩ := open_int Try.underlying3 (hval 4 3 v4 rfl rfl) h4
  clear hA0 hval0
  simp only [List.append_nil] at hW'
  refine (corrLeaves_any a0 v1 zs1 a2 v3 zs3 a4 W (int_lo w0) z1 (int_lo w2) z3 (int_lo w4)).mono fun e W' ⟨he, hb⟩ => ?_
  subst he
  exact ⟨_, rfl, ⟨_, _, _, [], _, [], hW', (trodAll_cons_mk (shut_bool Try.underlying4 _) trodAll_mk0), (trodAll_cons_mk (shut_int Try.underlying3 w0) (trodAll_cons_mk (Below.trod laidOut (by kernel_rfl) (of_decide_eq_true (by kernel_rfl)) k1 hb (fun x hx => hW'.lt x (by simp [hx]))) (trodAll_cons_mk (shut_int Try.underlying3 w2) (trodAll_cons_mk (Below.trod laidOut (by kernel_rfl) (of_decide_eq_true (by kernel_rfl)) k3 hb (fun x hx => hW'.lt x (by simp [hx]))) (trodAll_cons_mk (shut_int Try.underlying3 w4) trodAll_mk0))))), rfl, hb.frame _, fun h => by cases h⟩⟩

theorem over : Rows.corrLeavesRow.holds Try.pinned (OpenSpec.ofChange Rows.corrLeavesSpec) :=
  OpenClaim.holds_of_wide 6 Try.f6 rfl rfl rfl rfl rfl rfl rfl ⟨rfl, rfl, rfl, rfl, rfl⟩ rfl rfl rfl rfl rfl (by kernel_rfl) Try.func6 (by kernel_rfl)
    (of_decide_eq_true (by kernel_rfl)) (by unfold Func.isWrapper; first | (rw [if_pos (by decide +kernel)]; kernel_rfl) | (rw [if_neg (by decide +kernel)]; exact ⟨rfl, rfl⟩))
    (fun os started H enc _ => lifted os started H enc)

theorem proved : Rows.CorrLeavesSaid :=
  over
#print axioms proved
end Go.Proofs.Ytclhgnhbmlkomaa.corrLeaves
