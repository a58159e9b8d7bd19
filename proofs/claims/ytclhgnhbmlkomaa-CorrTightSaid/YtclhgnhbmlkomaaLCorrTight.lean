/-
  Texts laid together.
-/
import Derived.Test.YtclhgnhbmlkomaaJh
import Derived.Test.YtclhgnhbmlkomaaTpn
import Derived.Maps.AppendAt
import Derived.Test.YtclhgnhbmlkomaaCw
import Derived.Test.YtclhgnhbmlkomaaRo
import Derived.Test.YtclhgnhbmlkomaaLrd
import Derived.Test.YtclhgnhbmlkomaaInr
import Derived.Test.YtclhgnhbmlkomaaTmo
import Derived.Test.YtclhgnhbmlkomaaTpo
import Derived.Test.YtclhgnhbmlkomaaGm
import Derived.Test.YtclhgnhbmlkomaaReg
import Derived.Test.YtclhgnhbmlkomaaRows
import Derived.WalkKit
import Derived.WalkLawsBesides
import Derived.ProofKit
import Derived.OpenShut
import Derived.Carry
/-
  Rows of derivatives that the laws make.
-/
namespace Go.Proofs.Ytclhgnhbmlkomaa
open Go.RowKit
open Ieee (double)
attribute [local go_sem] alloc_drewN setCell_drewN call_bits call_frombits ord_lt ord_eq ord_gt ord_ne ord_le ord_ge eqB_self run_fadd run_fsub run_fmul run_fquo haStoreFlt

theorem lawWithin8 (a n : Int) (w : World) (h1 : 1 ≤ n) (h2 : n ≤ 9223372036854775807) :
    Calls Try.prog 34 #[.int .i64 a, .int .i64 n] w fun e w' => e = .returned (.int .i64 (a % n)) ∧ w = w' := by
  have h2' := Int.emod_nonneg a (show n ≠ 0 by omega)
  have h3 := Int.emod_lt_of_pos a (show 0 < n by omega)
  have h := emod_of_tmod (a := a) h1
  have H := Lib.hid h
  clear h
  go_enter Try.func34, Try.ntmps34
  go_wp2
  · go_ret
    refine ⟨?_, rfl⟩
    have := H.out.1 (by assumption)
    exact ret_int (by rw [this]; unfold wrap64; omega)
  · go_ret
    refine ⟨?_, rfl⟩
    exact ret_int (H.out.2 (by assumption))
/-- A whole number from -100 to 100. -/
def f201 (t : Int) : Nat := canon (floatOfInt .f64 (t - 100))
theorem f201_lt : ∀ i : Fin 201, floatOfInt .f64 ((i.val : Int) - 100) < 18446744073709551616 := by decide +kernel
theorem f201_val {t : Int} (h1 : 0 ≤ t) (h2 : t < 201) : canon (floatOfInt .f64 (t - 100)) = f201 t ∧ floatOfInt .f64 (t - 100) < 18446744073709551616 := by
  refine ⟨rfl, ?_⟩
  have h := f201_lt ⟨t.toNat, by omega⟩
  simp only [Int.toNat_of_nonneg h1] at h
  exact h
/-- The i-th of these, another one if there are not so many. -/
def nthF (ln : Nat) (ns : Nat → Int) (d : Int) (i : Nat) : Int := if i < ln then ns i else d
def zF (ln : Nat) (ns : Nat → Int) (k i j : Nat) : Nat := f201 (nthF ln ns ((i : Int) + j) (i * k + j) % 201)
/-- A table of its own. -/
def Grid8 (n m : Nat) (f : Nat → Nat → Nat) (w : World) (e : Ending) (w' : World) : Prop := ∃ (G c : Nat) (blk cap : Nat → Nat), e = .returned (.slice (some ⟨G, 0, none⟩) n c) ∧ Grid w' w.heap.size G n m blk cap f ∧ Below w.heap.size w w'
set_option maxRecDepth 100000 in
set_option maxHeartbeats 4000000 in
theorem make8_tells (q : Nat) (hq5 : q ≤ 6) (n : Int) (k : Nat) (hk : (k : Int) = 1 + n % 3) (v : Value) (ln : Nat) (ns : Nat → Int) (w : World) (h : IntsF w v ln ns) :
    Calls Try.prog 17 #[.int .i64 q, .int .i64 n, v] w (Grid8 (q + 1) k (zF ln ns k) w) := by
  obtain ⟨a, cap0, rfl, hl, hr⟩ := h
  obtain ⟨iF, hF, f1, f2, f3⟩ := info_parts infoF
  obtain ⟨iS, hS, s1, s2, s3⟩ := info_parts infoSl
  have HF := Lib.hid (show iF.zero = _ ∧ iF.size = _ ∧ iF.bytes = _ from ⟨f1, f2, f3⟩)
  have HF0 := Lib.hid hF
  have HS := Lib.hid (show iS.zero = _ ∧ iS.size = _ ∧ iS.bytes = _ from ⟨s1, s2, s3⟩)
  have HS0 := Lib.hid hS
  have HR := Lib.hid hr
  clear hF f1 f2 f3 hS s1 s2 s3 hr
  go_enter Try.func17, Try.ntmps17
  generalize hB : w.heap.size = B at *
  go_wp2_with fail
  refine (lawWithin8 n 3 _ (by decide) (by decide)).mono ?_
  rintro e w' ⟨rfl, rfl⟩
  have b1 := Int.emod_nonneg n (show (3 : Int) ≠ 0 by decide)
  have b2 := Int.emod_lt_of_pos n (show (0 : Int) < 3 by decide)
  generalize n % 3 = m at *
  obtain rfl : m = (k : Int) - 1 := by omega
  have hk1 : 1 ≤ k := by omega
  have hk5 : k ≤ 3 := by omega
  have e0 : (1 : Int) + ((k : Int) - 1) = k := by omega
  clear hk b1 b2
  go_wp2_with fail
  clear e0
  go_loopw [7, 9] (fun va i wr => ∃ (r : Nat) (blk cap : Nat → Nat), r ≤ q + 1 ∧ i = .int .i64 r ∧ GridV wr B va r k blk cap (zF ln ns k) ∧ Below B w wr) (fun _ i _ => q + 1 - (intOf i).toNat)
  case atStart => exact ⟨0, _, _, by omega, rfl, GridV.start _ _ _ _, Below.refl _ _⟩
  case round =>
    obtain ⟨r, blk, cap, hr, rfl, hg, hbl⟩ := hrel
    by_cases hlt : r < q + 1
    · have hgl := hg.lt
      have hsz := hbl.size
      have HG := Lib.hid hg
      have HGL := Lib.hid hgl
      obtain ⟨rs, hrs, -⟩ := hg.own
      obtain ⟨va', vcap, rfl⟩ := own_slice1 hrs
      have hrk : r * k ≤ 6 * 3 := Nat.mul_le_mul (by omega) hk5
      have m1 : (0 : Int) ≤ (r : Int) * (k : Int) := by rw [← Int.natCast_mul]; omega
      have m2 : (r : Int) * (k : Int) ≤ 18 := by rw [← Int.natCast_mul]; omega
      have m3 : ((r * k : Nat) : Int) = (r : Int) * (k : Int) := Int.natCast_mul _ _
      have HM3 := Lib.hid m3
      have hrq : decide (r ≤ q) = true := by simp; omega
      clear hg hgl hrs m3 rs
      go_wp2_with fail
      obtain ⟨wo, rfl⟩ : ∃ wo : World, wo = wr := ⟨_, rfl⟩
      generalize hH : wo.heap.size = H at *
      go_loopw [10, 11] (fun vr j wr => ∃ (c : Nat) (qs : List Value), c ≤ k ∧ j = .int .i64 c ∧ wr.ownsRow H 32 1 vr c qs ∧ FVals qs c (zF ln ns k r) ∧ Below H wo wr) (fun _ j _ => k - (intOf j).toNat)
      case atStart => exact ⟨0, [], by omega, rfl, World.ownsRow_nil _ _ _ _, FVals.nil _ _, Below.refl _ _⟩
      case round =>
        obtain ⟨c, qs, hc, rfl, ho, hq, hbx⟩ := hrel
        obtain ⟨ra, rcap, rfl⟩ := own_slice1 ho
        by_cases hcl : c < k
        · have hv : zF ln ns k r c = f201 (nthF ln ns ((r : Int) + c) (r * k + c) % 201) := rfl
          have HV := Lib.hid hv
          have HQ := Lib.hid hq
          have HO := Lib.hid ho
          have hsx := hbx.size
          clear hv hq ho
          by_cases hz : r * k + c < ln
          · obtain ⟨b, off, rfl, hbs, hcc⟩ := HR.out (by omega)
            have d1 := hcc _ hz
            have hbw : Below B w wr := hbl.trans (hbx.mono (by omega))
            rw [← show wr.cell? ⟨b, off + (r * k + c), none⟩ = w.cell? ⟨b, off + (r * k + c), none⟩ from hbw.cell (p := ⟨b, off + (r * k + c), none⟩) hbs] at d1
            have hnth : nthF ln ns ((r : Int) + c) (r * k + c) = ns (r * k + c) := if_pos hz
            generalize ns (r * k + c) = u at *
            have HN := Lib.hid hnth
            have hzi : (r : Int) * (k : Int) + (c : Int) < (ln : Int) := by have := HM3.out; omega
            have hzn : ((r : Int) * (k : Int) + (c : Int)).toNat = r * k + c := by have := HM3.out; omega
            clear hcc hnth
            go_wp2_with fail
            refine (lawWithin8 u 201 _ (by decide) (by decide)).mono ?_
            rintro e w' ⟨rfl, rfl⟩
            have b1 := Int.emod_nonneg u (show (201 : Int) ≠ 0 by decide)
            have b2 := Int.emod_lt_of_pos u (show (0 : Int) < 201 by decide)
            have HU := Lib.hid (show zF ln ns k r c = f201 (u % 201) by rw [HV.out, HN.out])
            generalize u % 201 = t at *
            obtain ⟨k3, k4⟩ := f201_val (t := t) (by omega) (by omega)
            have HK := Lib.hid k3
            clear k3 HN HV
            go_wp2_with (first
              | (at_builtin; refine wpList_append_own_at _ rfl _ _ 31 rfl H 32 iF (.float .f64 0) 1 8 Try.underlying31 HF0.out HF.out.1 HF.out.2.1 HF.out.2.2 rfl (by decide) (.slice ra c rcap) c qs rfl (HO.out.alloc _) ⟨wr.heap.size, 0, none⟩ 1 1 [.float .f64 (floatOfInt .f64 (t - 100))] rfl rfl (news1 wr (.float .f64 (floatOfInt .f64 (t - 100))) 32 0) (by simp [Value.oneCell']) (by unfold maxLen; omega) (by omega) (by simp; omega) ?_)
              | go_in)
            intro v' w2 hown' hgrow _ _
            have hb2 : Below H wr w2 := ((Below.refl H wr).alloc (by omega) _).trans (below_grown (HO.out.alloc _) (Nat.le_refl _) (by simp; omega) hgrow)
            have hql := HO.out.1
            have hq' := HQ.out.app (by omega) (HK.out.trans HU.out.symm) k4
            have HQ' := Lib.hid hq'
            have HO' := Lib.hid hown'
            clear hq' hown' hgrow
            go_wp2_with fail
            go_roundw
            case rel => exact ⟨c + 1, _, by omega, by go_num, HO'.out, HQ'.out, hbx.trans hb2⟩
            case measure => simp [intOf]; omega
          · have hnth : nthF ln ns ((r : Int) + c) (r * k + c) = (r : Int) + (c : Int) := by
              unfold nthF
              rw [if_neg hz]
            have HN := Lib.hid hnth
            have hzi : ¬ (r : Int) * (k : Int) + (c : Int) < (ln : Int) := by have := HM3.out; omega
            clear hnth
            go_wp2_with fail
            refine (lawWithin8 ((r : Int) + (c : Int)) 201 _ (by decide) (by decide)).mono ?_
            rintro e w' ⟨rfl, rfl⟩
            have b1 := Int.emod_nonneg ((r : Int) + (c : Int)) (show (201 : Int) ≠ 0 by decide)
            have b2 := Int.emod_lt_of_pos ((r : Int) + (c : Int)) (show (0 : Int) < 201 by decide)
            have HU := Lib.hid (show zF ln ns k r c = f201 (((r : Int) + (c : Int)) % 201) by rw [HV.out, HN.out])
            generalize ((r : Int) + (c : Int)) % 201 = t at *
            obtain ⟨k3, k4⟩ := f201_val (t := t) (by omega) (by omega)
            have HK := Lib.hid k3
            clear k3 HN HV
            go_wp2_with (first
              | (at_builtin; refine wpList_append_own_at _ rfl _ _ 31 rfl H 32 iF (.float .f64 0) 1 8 Try.underlying31 HF0.out HF.out.1 HF.out.2.1 HF.out.2.2 rfl (by decide) (.slice ra c rcap) c qs rfl (HO.out.alloc _) ⟨wr.heap.size, 0, none⟩ 1 1 [.float .f64 (floatOfInt .f64 (t - 100))] rfl rfl (news1 wr (.float .f64 (floatOfInt .f64 (t - 100))) 32 0) (by simp [Value.oneCell']) (by unfold maxLen; omega) (by omega) (by simp; omega) ?_)
              | go_in)
            intro v' w2 hown' hgrow _ _
            have hb2 : Below H wr w2 := ((Below.refl H wr).alloc (by omega) _).trans (below_grown (HO.out.alloc _) (Nat.le_refl _) (by simp; omega) hgrow)
            have hql := HO.out.1
            have hq' := HQ.out.app (by omega) (HK.out.trans HU.out.symm) k4
            have HQ' := Lib.hid hq'
            have HO' := Lib.hid hown'
            clear hq' hown' hgrow
            go_wp2_with fail
            go_roundw
            case rel => exact ⟨c + 1, _, by omega, by go_num, HO'.out, HQ'.out, hbx.trans hb2⟩
            case measure => simp [intOf]; omega
        · obtain rfl : c = k := by omega
          obtain ⟨R, rcap', hv, hO⟩ := hq.own ho (by omega)
          simp only [Value.slice.injEq] at hv
          obtain ⟨rfl, -, rfl⟩ := hv
          have HO := Lib.hid hO
          have hRl := hO.lt
          have hbw : Below B w wr := hbl.trans (hbx.mono (by omega))
          have hg1 : GridV wr B (.slice va' r vcap) r c blk cap (zF ln ns c) := HG.out.keep hbx HGL.out.1 HGL.out.2
          obtain ⟨rs, hrs, -⟩ := hg1.own
          have hrl := hrs.1
          have HG1 := Lib.hid hg1
          have HRS := Lib.hid hrs
          have hsx := hbx.size
          clear hO hq ho hg1 hrs
          go_wp2_with (first
            | (at_builtin; refine wpList_append_own_at _ rfl _ _ 29 rfl B 31 iS (.slice none 0 0) 1 24 Try.underlying29 HS0.out HS.out.1 HS.out.2.1 HS.out.2.2 rfl (by decide) (.slice va' r vcap) r rs rfl (HRS.out.alloc _) ⟨wr.heap.size, 0, none⟩ 1 1 [.slice (some ⟨R, 0, none⟩) c rcap] rfl rfl (news1 wr (.slice (some ⟨R, 0, none⟩) c rcap) 31 0) (by simp [Value.oneCell']) (by unfold maxLen; omega) (by omega) (by simp; omega) ?_)
            | go_in)
          intro v' w2 hown' hgrow _ hob
          have hb2 : Below B wr w2 := ((Below.refl B wr).alloc (by omega) _).trans (below_grown (HRS.out.alloc _) (Nat.le_refl _) (by simp; omega) hgrow)
          have hne : ∀ i, i < r → blk i ≠ R := fun i hi => by have := HGL.out.2 i hi; omega
          have hne0 : (Value.slice va' r vcap).ownBlock ≠ some R := fun e => by have := HGL.out.1 R e; omega
          have hg2 := HG1.out.app HRS.out (HO.out.base (by omega)) hne0 hne ((Below.refl _ _).alloc (Nat.le_refl _) _) hgrow hown' (fun k hk => by
            rcases hob with e | e
            · rw [e] at hk; exact .inl hk
            · rw [e] at hk; simp only [Option.some.injEq] at hk; right; rw [← hk]; simp)
          have HG2 := Lib.hid hg2
          clear hown' hgrow hob hne hne0 hg2
          go_wp2_with fail
          go_roundw
          case rel => exact ⟨r + 1, _, _, by omega, by go_num, HG2.out, hbw.trans hb2⟩
          case measure => simp [intOf]; omega
    · obtain rfl : r = q + 1 := by omega
      obtain ⟨G, c, hv, hG⟩ := hg.grid (by omega)
      have HV := Lib.hid hv
      have HG := Lib.hid hG
      subst hv
      clear hG hg
      go_wp2_with fail
      go_ret
      exact ⟨G, c, blk, cap, rfl, by rw [hB]; exact HG.out, by rw [hB]; exact hbl⟩
end Go.Proofs.Ytclhgnhbmlkomaa
/-
  What the laws of steps have in common.
-/
namespace Go.Proofs.Ytclhgnhbmlkomaa
open Go.RowKit
open Ieee (double)
attribute [local go_sem] alloc_drewN setCell_drewN call_bits call_frombits ord_lt ord_eq ord_gt ord_ne ord_le ord_ge eqB_self run_fadd run_fsub run_fmul run_fquo haStoreFlt takeOp pureOp readsUpon doOp run_store_fn run_store_fc run_store_slice

theorem known9o (w : World) : Calls Try.prog 14 #[] w (Tells (.bool true) w) :=
  (Ex.run_law (V := Ex.adV []) mixed namesAll Ex.gam_nil (ctrB_ok (Ex.adV_ok []) (t := []) (fun _ _ _ h => by cases h)) known_run (vs := #[]) trivial w).mono fun _ _ h => h
theorem ints_F9 {w : World} {v : Value} {zs : List Int} (h : Ints w v zs) : IntsF w v zs.length (fun i => zs.getD i 0) := by
  rcases h with ⟨o, cap, rfl, rfl⟩ | ⟨b, off, cap, rfl, hbs, hl, hc⟩
  · exact ⟨o, cap, by simp, by simp, fun h => by simp at h⟩
  · exact ⟨_, cap, rfl, hl, fun _ => ⟨b, off, rfl, hbs, hc⟩⟩
theorem lawWithin9 (a n : Int) (w : World) (h1 : 1 ≤ n) (h2 : n ≤ 9223372036854775807) :
    Calls Try.prog 16 #[.int .i64 a, .int .i64 n] w fun e w' => e = .returned (.int .i64 (a % n)) ∧ w = w' := by
  have h2' := Int.emod_nonneg a (show n ≠ 0 by omega)
  have h3 := Int.emod_lt_of_pos a (show 0 < n by omega)
  have h := emod_of_tmod (a := a) h1
  have H := Lib.hid h
  clear h
  go_enter Try.func16, Try.ntmps16
  go_wp2
  · go_ret
    refine ⟨?_, rfl⟩
    have := H.out.1 (by assumption)
    exact ret_int (by rw [this]; unfold wrap64; omega)
  · go_ret
    refine ⟨?_, rfl⟩
    exact ret_int (H.out.2 (by assumption))
/-- A step of either kind. -/
theorem corr_any (n : Nat) (T : TD) (vo vu vz vl vw : Value) (m k M : Nat) (z : Nat → Nat → Nat) (l wt : Nat → Nat) (w : World) (hx : CtxAt w n T vo vu vz vl vw m z l wt)
    (hck : checkB T = true) (hcs : ∀ i, (T.op i).c < 18446744073709551616) (hn : T.n = n) (h1 : 1 ≤ n) (h4 : n ≤ 4) (hm : 2 ≤ m) (hk : k < 43) (hM : M < 2) :
    Calls Try.prog 20 #[.agg #[.int .i64 n, vo, vu], vz, vl, .int .i64 ((2 ^ k : Nat) : Int), .int .i64 M, vw] w (SumT n (corrF T z wt (l 0) (lenF ((2 ^ k : Nat) : Int)) n (M == 1)) w) := by
  rcases (show M = 0 ∨ M = 1 by omega) with rfl | rfl
  · exact corr_adams n T vo vu vz vl vw m k z l wt w hx hck (fun i _ => hcs i) hn h1 h4 hm hk
  · exact corr_bdf n T vo vu vz vl vw m k z l wt w hx hck (fun i _ => hcs i) hn h1 h4 hm hk
/-- What is told, with a row of its own, or of none. -/
def SumV (d : Nat) (S : SumD) (w : World) (e : Ending) (w' : World) : Prop :=
  Below w.heap.size w w' ∧ ∃ (R : Nat) (p : Option Addr), e = .returned (.agg #[.slice p d d, .int .i64 S.tries, .int .i64 S.e]) ∧ FRow w' (.slice p d d) d S.d ∧ w.heap.size ≤ R ∧ (∀ k, k < 10 → R ≠ w'.heap.size + k) ∧ (0 < d → p = some ⟨R, 0, none⟩ ∧ OwnF w' w.heap.size R d d S.d)
theorem SumT.v {n : Nat} {S : SumD} {w : World} {e : Ending} {w' : World} (h : SumT n S w e w') (hn : n ≤ 4) : SumV (if S.has then n else 0) S w e w' := by
  obtain ⟨hb, h⟩ := h
  rcases h with ⟨hh, R, rfl, ho⟩ | ⟨hh, rfl⟩
  · rw [hh]
    exact ⟨hb, R, _, rfl, ho.flts (by omega), ho.lt.1, fun k _ => by have := ho.lt.2; omega, fun _ => ⟨rfl, ho⟩⟩
  · rw [hh]
    exact ⟨hb, w'.heap.size + 10, _, rfl, ⟨_, _, rfl, by simp, fun h0 => absurd h0 (by simp)⟩, by have := hb.size; omega, fun k hk => by omega, fun h0 => absurd h0 (by simp)⟩
theorem shl_step : ∀ S : Nat, S < 10 → wrap64 (2 ^ (10 + S)) = ((2 ^ (10 + S) : Nat) : Int) := by decide +kernel
/-- What a search that ended well has: so many tries' outcome. -/
def iterF (g : (Nat → Nat) → Nat → Nat) : Nat → (Nat → Nat) → Nat → Nat
  | 0, x => x
  | j + 1, x => iterF g j (g x)
theorem iterF_succ (g : (Nat → Nat) → Nat → Nat) : ∀ (j : Nat) (x : Nat → Nat), iterF g (j + 1) x = g (iterF g j x)
  | 0, _ => rfl
  | j + 1, x => by rw [iterF, iterF_succ g j (g x)]; rfl
theorem seek_has (nx : (Nat → Nat) → (Nat → Nat) × Nat) (n : Nat) : ∀ (k : Nat) (x : Nat → Nat), k ≤ 4 → (seekF nx n k x).has = true → (seekF nx n k x).e = 0 ∧ ∃ j, 1 ≤ j ∧ j ≤ k ∧ (seekF nx n k x).tries = (4 - k) + j ∧ (seekF nx n k x).d = iterF (fun y => (nx y).1) j x
  | 0, x, _, h => by unfold seekF at h; cases h
  | k + 1, x, hk, h => by
    unfold seekF at h ⊢
    split at h
    · cases h
    · rename_i h1
      rw [if_neg h1]
      split at h
      · rename_i h2
        rw [if_pos h2]
        exact ⟨rfl, 1, by omega, by omega, by show 4 - k = 4 - (k + 1) + 1; omega, rfl⟩
      · rename_i h2
        rw [if_neg h2]
        split at h
        · cases h
        · rename_i h3
          rw [if_neg h3]
          obtain ⟨a, j, b1, b2, b3, b4⟩ := seek_has nx n k (nx x).1 (by omega) h
          exact ⟨a, j + 1, by omega, by omega, by omega, b4⟩
theorem seek_not (nx : (Nat → Nat) → (Nat → Nat) × Nat) (n : Nat) : ∀ (k : Nat) (x : Nat → Nat), 1 ≤ k → k ≤ 4 → (seekF nx n k x).has = false → (seekF nx n k x).e ≠ 0 ∧ 1 ≤ (seekF nx n k x).tries ∧ (seekF nx n k x).tries ≤ 4
  | 0, x, h, _, _ => by omega
  | k + 1, x, _, hk, h => by
    unfold seekF at h ⊢
    split at h
    · rename_i h1
      rw [if_pos h1]
      exact ⟨show (2 : Int) ≠ 0 by decide, by show 1 ≤ 4 - k; omega, by show 4 - k ≤ 4; omega⟩
    · rename_i h1
      rw [if_neg h1]
      split at h
      · cases h
      · rename_i h2
        rw [if_neg h2]
        split at h
        · rename_i h3
          rw [if_pos h3]
          exact ⟨show (6 : Int) ≠ 0 by decide, show 1 ≤ 4 by decide, show 4 ≤ 4 by decide⟩
        · rename_i h3
          rw [if_neg h3]
          exact seek_not nx n k (nx x).1 (by omega) (by omega) h
end Go.Proofs.Ytclhgnhbmlkomaa
/-
  Weights that are greater are no later.
-/
namespace Go.Proofs.Ytclhgnhbmlkomaa
open Go.RowKit
open Ieee (double)

theorem quo_tight {y w1 w2 : Nat} (hy : y < p63) (h1 : w1 % p63 < infR) (h2 : w2 % p63 < infR) (k1 : 0 < key w1) (k2 : key w1 ≤ key w2) (hn : isN (cop .quo y w1) = false) : isN (cop .quo y w2) = false ∧ key (cop .quo y w2) ≤ key (cop .quo y w1) := by
  have ym : y % p63 = y := Nat.mod_eq_of_lt hy
  have hng : neg y = false := by unfold neg; rw [Nat.div_eq_of_lt hy]; rfl
  rcases Nat.lt_trichotomy y infR with h | h | h
  · have hyf : y % p63 < infR := by omega
    refine ⟨(quo_val hyf h2 (by omega)).1, quo_mono hyf h2 hyf h1 (.inl ⟨by omega, k1⟩) ?_⟩
    refine Int.mul_le_mul_of_nonneg_left (V_le.2 k2) ?_
    have hv0 : V 0 = 0 := by decide
    rw [← hv0]
    refine V_le.2 ?_
    have : key 0 = 0 := by decide
    rw [this, key_eq y, hng]
    unfold sgd
    rw [if_neg (by decide)]
    exact Int.natCast_nonneg _
  · have e : ∀ w, w % p63 < infR → 0 < key w → cop .quo y w = double.word false infR := fun w hw kw => by
      have hnw : neg w = false := by rw [key_eq] at kw; unfold sgd at kw; cases hh : neg w with
        | false => rfl
        | true => rw [hh] at kw; simp at kw; omega
      obtain ⟨m, p, e, -, -⟩ := read_fin hw
      have hr : double.read y = .infinity false := by rw [read_inf (by omega), hng]
      have : floatBits .quo .f64 y w = some (double.word (false ^^ neg w) infR) := by
        show double.div _ _ = _
        unfold Ieee.Format.div
        rw [hr, e]
        rfl
      rw [hnw] at this
      unfold cop; rw [this]; exact canon_num (word_isN _ (Nat.le_refl _))
    rw [e w1 h1 k1, e w2 h2 (by omega)]
    exact ⟨word_isN _ (Nat.le_refl _), Int.le_refl _⟩
  · have : isN y = true := by unfold isN; rw [ym]; exact decide_eq_true h
    unfold cop at hn
    rw [fb_nan_left .quo w1 this] at hn
    exact absurd hn (by decide)
theorem grF_ge {x : Nat → Nat} {n : Nat} (hx : ∀ i, i < n → isN (x i) = false) : ∀ {k : Nat}, k ≤ n → ∀ i, i < k → key (x i) ≤ key (grF x k) ∧ isN (grF x k) = false
  | 0, _, i, hi => by omega
  | k + 1, hk, i, hi => by
    unfold grF
    by_cases h0 : k = 0
    · rw [if_pos h0]
      obtain rfl : i = 0 := by omega
      exact ⟨Int.le_refl _, hx 0 (by omega)⟩
    · rw [if_neg h0]
      have hr := grF_ge hx (k := k) (by omega)
      have n1 := (hr 0 (by omega)).2
      have n2 := hx k (by omega)
      have hl : ltB (grF x k) (x k) = decide (key (grF x k) < key (x k)) := by unfold ltB; rw [n1, n2]; rfl
      rw [hl]
      by_cases hc : key (grF x k) < key (x k)
      · rw [if_pos (decide_eq_true hc)]
        refine ⟨?_, n2⟩
        rcases Nat.lt_or_ge i k with h | h
        · have := (hr i h).1; omega
        · obtain rfl : i = k := by omega
          exact Int.le_refl _
      · rw [if_neg (by simpa using hc)]
        refine ⟨?_, n1⟩
        rcases Nat.lt_or_ge i k with h | h
        · exact (hr i h).1
        · obtain rfl : i = k := by omega
          omega
theorem grF_one (x : Nat → Nat) : ∀ {k : Nat}, 0 < k → ∃ i, i < k ∧ grF x k = x i
  | 0, h => by omega
  | k + 1, _ => by
    unfold grF
    by_cases h0 : k = 0
    · rw [if_pos h0]; exact ⟨0, by omega, rfl⟩
    · rw [if_neg h0]
      obtain ⟨i, h1, h2⟩ := grF_one x (k := k) (by omega)
      split
      · exact ⟨k, by omega, rfl⟩
      · exact ⟨i, by omega, h2⟩
theorem nanF_not {x : Nat → Nat} : ∀ {n : Nat}, nanF x n = false ↔ ∀ i, i < n → isN (x i) = false
  | 0 => ⟨fun _ i hi => by omega, fun _ => rfl⟩
  | n + 1 => by
    unfold nanF
    rw [Bool.or_eq_false_iff, nanF_not (x := x) (n := n)]
    refine ⟨fun ⟨h1, h2⟩ i hi => ?_, fun h => ⟨fun i hi => h i (by omega), h n (by omega)⟩⟩
    rcases Nat.lt_or_ge i n with g | g
    · exact h1 i g
    · obtain rfl : i = n := by omega
      exact h2
/-- Weights of which none is less. -/
def Tighter (n : Nat) (w1 w2 : Nat → Nat) : Prop := ∀ i, i < n → w1 i % p63 < infR ∧ w2 i % p63 < infR ∧ 0 < key (w1 i) ∧ key (w1 i) ≤ key (w2 i)
theorem worst_tight {n : Nat} (h0 : 0 < n) {w1 w2 : Nat → Nat} (h : Tighter n w1 w2) (x : Nat → Nat) {b : Nat} (hb : leB 9218868437227405312 b = false) (hw : leB (worstF (byW x w1) n) b = true) : leB (worstF (byW x w2) n) b = true := by
  unfold worstF at hw ⊢
  cases hn : nanF (byW x w1) n with
  | true => rw [hn, if_pos rfl, hb] at hw; cases hw
  | false =>
    rw [hn, if_neg (by decide)] at hw
    have h1 := nanF_not.1 hn
    have h2 : ∀ i, i < n → isN (byW x w2 i) = false ∧ key (byW x w2 i) ≤ key (byW x w1 i) := fun i hi => by
      obtain ⟨a1, a2, a3, a4⟩ := h i hi
      exact quo_tight (y := ab (x i)) (Nat.mod_lt _ (by decide)) a1 a2 a3 a4 (h1 i hi)
    rw [nanF_not.2 (fun i hi => (h2 i hi).1), if_neg (by decide)]
    obtain ⟨i, hi, he⟩ := grF_one (byW x w2) h0
    obtain ⟨g1, g2⟩ := grF_ge h1 (Nat.le_refl n) i hi
    unfold leB at hw ⊢
    rw [he]
    simp only [Bool.and_eq_true, decide_eq_true_eq, Bool.not_eq_true'] at hw ⊢
    exact ⟨⟨(h2 i hi).1, hw.1.2⟩, by have := (h2 i hi).2; omega⟩
theorem seek_tight {nx ny : (Nat → Nat) → (Nat → Nat) × Nat} {n : Nat} (h1 : ∀ x, (ny x).1 = (nx x).1) (h2 : ∀ x, leB (nx x).2 4562146422526312448 = true → leB (ny x).2 4562146422526312448 = true) :
    ∀ (k : Nat) (x : Nat → Nat), k ≤ 4 → (seekF nx n k x).has = true → (seekF ny n k x).has = true ∧ (seekF ny n k x).tries ≤ (seekF nx n k x).tries
  | 0, x, _, h => by unfold seekF at h; cases h
  | k + 1, x, hk, h => by
    have hj := seek_has nx n (k + 1) x hk h
    obtain ⟨-, j, j1, j2, j3, -⟩ := hj
    rw [j3]
    unfold seekF at h ⊢
    rw [h1 x]
    split at h
    · cases h
    · rename_i g1
      rw [if_neg g1]
      split at h
      · rename_i g2
        rw [if_pos (h2 x g2)]
        exact ⟨rfl, by show 4 - k ≤ _; omega⟩
      · rename_i g2
        split at h
        · cases h
        · rename_i g3
          by_cases g4 : leB (ny x).2 4562146422526312448 = true
          · rw [if_pos g4]
            exact ⟨rfl, by show 4 - k ≤ _; omega⟩
          · rw [if_neg g4, if_neg g3]
            obtain ⟨r1, r2⟩ := seek_tight h1 h2 k (nx x).1 (by omega) h
            refine ⟨r1, ?_⟩
            have e : (seekF nx n (k + 1) x).tries = (seekF nx n k (nx x).1).tries := by
              rw [seekF, if_neg g1, if_neg g2, if_neg g3]
            omega
/-- What is added by greater weights: no later. -/
theorem corr_tight (T : TD) (z : Nat → Nat → Nat) {w1 w2 : Nat → Nat} (l0 h n : Nat) (bdf : Bool) (h0 : 0 < n) (ht : Tighter n w1 w2) (hh : (corrF T z w1 l0 h n bdf).has = true) :
    (corrF T z w2 l0 h n bdf).has = true ∧ (corrF T z w2 l0 h n bdf).tries ≤ (corrF T z w1 l0 h n bdf).tries := by
  have hb : leB 9218868437227405312 4562146422526312448 = false := by decide
  unfold corrF at hh ⊢
  cases bdf with
  | false =>
    simp only [Bool.false_eq_true, if_false] at hh ⊢
    exact seek_tight (nx := adamsF T (z 0) (z 1) w1 l0 h n) (ny := adamsF T (z 0) (z 1) w2 l0 h n) (fun x => rfl) (fun x hx => worst_tight h0 ht _ hb hx) 4 _ (by omega) hh
  | true =>
    simp only [if_true] at hh ⊢
    split at hh
    · cases hh
    · exact seek_tight (nx := bdfF T (z 0) (z 1) w1 l0 h n _ _) (ny := bdfF T (z 0) (z 1) w2 l0 h n _ _) (fun x => rfl) (fun x hx => worst_tight h0 ht _ hb hx) 4 _ (by omega) hh
theorem corr_ok (T : TD) (z : Nat → Nat → Nat) {w1 : Nat → Nat} (l0 h n : Nat) (bdf : Bool) : ((corrF T z w1 l0 h n bdf).has = true → (corrF T z w1 l0 h n bdf).e = 0 ∧ 1 ≤ (corrF T z w1 l0 h n bdf).tries) ∧ ((corrF T z w1 l0 h n bdf).has = false → (corrF T z w1 l0 h n bdf).e ≠ 0) := by
  unfold corrF
  cases bdf with
  | false =>
    simp only [Bool.false_eq_true, if_false]
    exact ⟨fun h => by obtain ⟨a, j, b, c, d, -⟩ := seek_has _ _ _ _ (by omega) h; exact ⟨a, by omega⟩, fun h => (seek_not _ _ _ _ (by omega) (by omega) h).1⟩
  | true =>
    simp only [if_true]
    split
    · exact ⟨fun h => (by cases h), fun _ => show (4 : Int) ≠ 0 by decide⟩
    · exact ⟨fun h => by obtain ⟨a, j, b, c, d, -⟩ := seek_has _ _ _ _ (by omega) h; exact ⟨a, by omega⟩, fun h => (seek_not _ _ _ _ (by omega) (by omega) h).1⟩
/-- The weights of a table's own first row. -/
def wtOK (t : Nat) : Bool :=
  let z := cop .quo (f201 t) (floatOfInt .f64 (64 * 4 ^ 0))
  let w1 := cop .add 4562254508917369340 (cop .mul 4562254508917369340 (ab z))
  let w2 := cop .add 4566758108544739836 (cop .mul 4566758108544739836 (ab z))
  decide (w1 % p63 < infR ∧ w2 % p63 < infR ∧ 0 < key w1 ∧ key w1 ≤ key w2)
theorem wt_all : ∀ i : Fin 201, wtOK i.val = true := by decide +kernel
theorem wt_tight {n : Nat} {Z : Nat → Nat → Nat} (hz : ∀ i, ∃ t : Int, 0 ≤ t ∧ t < 201 ∧ Z 0 i = f201 t) (z0 : Nat → Nat) (hz0 : ∀ i, z0 i = cop .quo (Z 0 i) (floatOfInt .f64 (64 * 4 ^ 0))) : Tighter n (wtF z0 4562254508917369340 4562254508917369340) (wtF z0 4566758108544739836 4566758108544739836) := fun i _ => by
  obtain ⟨t, t1, t2, te⟩ := hz i
  have h := wt_all ⟨t.toNat, by omega⟩
  have he : ((t.toNat : Nat) : Int) = t := by omega
  unfold wtOK at h
  simp only [decide_eq_true_eq, he] at h
  unfold wtF
  rw [hz0 i, te]
  exact h
end Go.Proofs.Ytclhgnhbmlkomaa
/-
  A region that draws its order, walked by a tree: where several may come up, each way is walked.
-/
namespace Go.Proofs.Ytclhgnhbmlkomaa
open Go

/-- The ways: an operation taken ahead (1 reads no memory, 3 reads what R holds); one of several that are carried out. -/
inductive OT where
  | nil
  | stop
  | op (i k : Nat) (t : OT)
  | alt (i : Nat) (t more : OT)
def OT.heads : OT → List Nat
  | .alt i _ more => i :: more.heads
  | _ => []
def OT.deep : OT → Nat
  | .nil => 0
  | .stop => 0
  | .op _ _ t => t.deep + 1
  | .alt _ t more => max (t.deep + 1) more.deep
section
variable {P : Program} {ops : Array Oper} {Q : Exit → Act → World → Prop} {md : Region.Mode} {R : World → Prop} {D T3 : List Nat}

def ordT (md : Region.Mode) (ops : Array Oper) (D T3 : List Nat) : OT → Array Bool → Bool → Bool
  | .nil, listed, hd => hd && (Region.ready md ops listed).isEmpty
  | .stop, _, hd => !hd
  | .op i k t, listed, hd => (hd && ((Region.ready md ops listed).contains i && Region.free md ops listed i)) && ((!D.contains i && (k == 1 || (k == 3 && T3.contains i))) && ordT md ops D T3 t (listed.setIfInBounds i true) true)
  | .alt i t more, listed, hd => ((!hd || (Region.ready md ops listed).all fun j => (i :: more.heads).contains j) && (!hd || !(Region.ready md ops listed).isEmpty)) && ((D.contains i && ordT md ops D T3 t (listed.setIfInBounds i true) true) && ordT md ops D T3 more listed false)
def wpTree (P : Program) (md : Region.Mode) (ops : Array Oper) (Q : Exit → Act → World → Prop) (R : World → Prop) (T3 : List Nat) : OT → Act → World → Prop
  | .nil, a, w => Q .normal a w
  | .stop, _, _ => True
  | .op i k t, a, w => if k = 1 then pureOp P ops i (fun a' => wpTree P md ops Q R T3 t a' w) a else keepOp P ops R i (fun a' => wpTree P md ops Q R T3 t a' w) a
  | .alt i t more, a, w => wpOp P ops Q i (fun a' w' => (needB md ops T3 i = true → R w') ∧ wpTree P md ops Q R T3 t a' w') a w ∧ wpTree P md ops Q R T3 more a w
theorem alt_find {listed : Array Bool} {a : Act} {w : World} {j : Nat} : ∀ {t : OT} {hd : Bool}, j ∈ t.heads → ordT md ops D T3 t listed hd = true → wpTree P md ops Q R T3 t a w →
    ∃ s, s.deep + 1 ≤ t.deep ∧ D.contains j = true ∧ ordT md ops D T3 s (listed.setIfInBounds j true) true = true ∧ wpOp P ops Q j (fun a' w' => (needB md ops T3 j = true → R w') ∧ wpTree P md ops Q R T3 s a' w') a w
  | .nil, _, h, _, _ => by cases h
  | .stop, _, h, _, _ => by cases h
  | .op _ _ _, _, h, _, _ => by cases h
  | .alt i t more, hd, h, hB, hw => by
    simp only [ordT, Bool.and_eq_true] at hB
    obtain ⟨-, ⟨h2, h3⟩, h4⟩ := hB
    obtain ⟨w1, w2⟩ := hw
    rcases List.mem_cons.1 h with rfl | h
    · exact ⟨t, by simp only [OT.deep]; omega, h2, h3, w1⟩
    · obtain ⟨s, s1, s2, s3, s4⟩ := alt_find h h4 w2
      exact ⟨s, by simp only [OT.deep]; omega, s2, s3, s4⟩
theorem wpAnyT_of_tree (hs : Region.noSelect ops = true) (hQ : ∀ c a d v w, Q (.panic c) (a.put d v) w → Q (.panic c) a w) : ∀ (n : Nat) (t : OT) (listed : Array Bool) (a : Act) (w : World), t.deep ≤ n → (pendB T3 listed = true → R w) → ordT md ops D T3 t listed true = true → wpTree P md ops Q R T3 t a w → wpAnyT P md ops Q (fun _ => True) R D [] T3 n listed a w
  | 0, .nil, listed, a, w, _, _, hB, h => ⟨by simpa [ordT] using hB, h⟩
  | n + 1, .nil, listed, a, w, _, _, hB, h => by
    have e : Region.ready md ops listed = [] := by simpa [ordT] using hB
    exact ⟨fun _ => h, fun i hi => by rw [e] at hi; cases hi⟩
  | _, .stop, _, _, _, _, _, hB, _ => by simp [ordT] at hB
  | 0, .op i k t, _, _, _, hd, _, _, _ => by simp only [OT.deep] at hd; omega
  | 0, .alt i t more, _, _, _, hd, _, _, _ => by simp only [OT.deep] at hd; omega
  | n + 1, .op i k t, listed, a, w, hd, hP, hB, h => by
    simp only [OT.deep] at hd
    simp only [ordT, Bool.and_eq_true, Bool.not_eq_true', Bool.or_eq_true, beq_iff_eq] at hB
    obtain ⟨⟨-, h1, h2⟩, ⟨h3, hk⟩, h4⟩ := hB
    unfold wpTree at h
    split at h
    · obtain ⟨o, v, ho, hy, hr⟩ := pureOp_yields h
      exact wpAnyT_first h3 (.inl fun _ => trivial) ho (Region.noSelect_spec hs) (fun c a w => hQ c a _ _ w) n listed a w (Region.free_spec ho h2) (by simpa using h1) hy (fun _ => trivial) hP (wpAnyT_of_tree hs hQ n t _ _ _ (by omega) (pend_less hP) h4 hr)
    · rename_i h1k
      obtain ⟨o, v, ho, hy, hr⟩ := h
      rcases hk with hk | ⟨-, h5⟩
      · exact absurd hk h1k
      · exact wpAnyT_first h3 (.inr (.inr ⟨rfl, by simpa using h5⟩)) ho (Region.noSelect_spec hs) (fun c a w => hQ c a _ _ w) n listed a w (Region.free_spec ho h2) (by simpa using h1) hy (fun _ => trivial) hP (wpAnyT_of_tree hs hQ n t _ _ _ (by omega) (pend_less hP) h4 hr)
  | n + 1, .alt i t more, listed, a, w, hd, hP, hB, h => by
    have hB0 := hB
    simp only [ordT, Bool.and_eq_true, Bool.not_true, Bool.false_or, List.all_eq_true] at hB
    obtain ⟨⟨h1, h0⟩, -⟩ := hB
    refine ⟨fun e => (by rw [e] at h0; cases h0), fun j hj => ?_⟩
    have hjh : j ∈ (OT.alt i t more).heads := by
      have := h1 j hj
      exact List.contains_iff_mem.1 this
    obtain ⟨s, s1, s2, s3, s4⟩ := alt_find hjh hB0 h
    refine wpOp_mono (fun a' w' k => ⟨by unfold condB; rw [if_pos s2]; exact ⟨fun _ => trivial, k.1⟩, wpAnyT_of_tree hs hQ n s _ a' w' (by omega) (fun hp => ?_) s3 k.2⟩) s4
    obtain ⟨x, hx, -, hu⟩ := pendB_of hp
    exact k.1 (need_of hj hx hu)
theorem wp_region_tree (t : OT) (D T3 : List Nat) (R : World → Prop) {id : Nat} {a : Act} {w : World} (hm : P.follows .mixedOrders = true)
    (hB : (Region.noSelect ops && decide (t.deep ≤ ops.size) && ordT .any ops D T3 t (Array.replicate ops.size false) true) = true) (hQ : ∀ c a d v w, Q (.panic c) (a.put d v) w → Q (.panic c) a w)
    (hR : R w.drew) (h : ∀ W, W = w.drew → R W → wpTree P .any ops Q R T3 t a W) : (Code.region id ops true).wp P Q a w := by
  simp only [Bool.and_eq_true, decide_eq_true_eq] at hB
  obtain ⟨⟨h1, h2⟩, h3⟩ := hB
  exact wp_region_any hm (wpAny_of_T (S := fun _ => True) (R := R) (D := D) (T := []) (T3 := T3) _ _ _ _ (wpAnyT_of_tree h1 hQ _ t _ _ _ h2 (fun _ => hR) h3 (h _ rfl hR)))
theorem wpTree_pure {i : Nat} {t : OT} {a : Act} {w : World} (h : ∀ K : Act → Prop, (∀ a', wpTree P md ops Q R T3 t a' w → K a') → pureOp P ops i K a) : wpTree P md ops Q R T3 (.op i 1 t) a w := by
  unfold wpTree
  rw [if_pos rfl]
  exact h _ (fun _ k => k)
theorem wpTree_keep {i : Nat} {t : OT} {a : Act} {w : World} {o : Oper} {v : Value} (ho : ops[i]? = some o) (hw : Region.wanted o (yielded ops a.tmps) = true) (hy : ∀ w, R w → (execOp a.eval o).run P w = .ok (.value v) w) (h : wpTree P md ops Q R T3 t (a.put o.dst v) w) : wpTree P md ops Q R T3 (.op i 3 t) a w := by
  unfold wpTree
  rw [if_neg (by decide)]
  exact ⟨o, v, ho, .inl ⟨hw, hy⟩, h⟩
theorem wpTree_alt {i : Nat} {t more : OT} {a : Act} {w : World} (h : ∀ K : Act → World → Prop, (∀ a' w', (needB md ops T3 i = true → R w') → wpTree P md ops Q R T3 t a' w' → K a' w') → doOp P ops Q i K a w) (h2 : wpTree P md ops Q R T3 more a w) : wpTree P md ops Q R T3 (.alt i t more) a w := by
  refine ⟨?_, h2⟩
  have k := h (fun a' w' => (needB md ops T3 i = true → R w') ∧ wpTree P md ops Q R T3 t a' w') (fun a' w' k1 k2 => ⟨k1, k2⟩)
  show wpOp P ops Q i _ a w
  unfold wpOp
  unfold doOp at k
  split
  · rename_i e; rw [e] at k; cases k
  · rename_i o e
    rw [e] at k
    simp only [] at k
    split
    · rename_i hw; rw [if_pos hw] at k; exact .inl k
    · rename_i hw; rw [if_neg hw] at k; exact k
theorem wpTree_stop {a : Act} {w : World} : wpTree P md ops Q R T3 .stop a w := trivial
theorem wpTree_nil {a : Act} {w : World} (h : Q .normal a w) : wpTree P md ops Q R T3 .nil a w := h
end
end Go.Proofs.Ytclhgnhbmlkomaa
/-
  The law: with weights twice as great it is found as soon: walked.
-/
namespace Go.Proofs.Ytclhgnhbmlkomaa
open Go.RowKit
open Ieee (double)
attribute [local go_sem] alloc_drewN setCell_drewN call_bits call_frombits ord_lt ord_eq ord_gt ord_ne ord_le ord_ge eqB_self run_fadd run_fsub run_fmul run_fquo haStoreFlt takeOp pureOp readsUpon doOp run_store_fn run_store_fc run_store_slice

theorem shl_four : ∀ e : Nat, e < 6 → IntKind.i64.wrap (64 * 2 ^ min (IntKind.u64.wrap (IntKind.i64.wrap (2 * (e : Int)))).toNat 64) = 64 * 4 ^ e := by decide +kernel
theorem shl_more : ∀ S : Nat, S < 14 → wrap64 (2 ^ (14 + S)) = ((2 ^ (14 + S) : Nat) : Int) := by decide +kernel
theorem put3 {W : World} {k : Nat} {u0 u1 u2 : Value} (h : W.heap[k]? = some (.cells #[u0, u1, u2] 39)) (v0 v1 v2 : Value) : (((W.setCell ⟨k, 0, none⟩ v0).setCell ⟨k, 1, none⟩ v1).setCell ⟨k, 2, none⟩ v2).heap[k]? = some (.cells #[v0, v1, v2] 39) :=
  heap_put (heap_put (heap_put h v0) v1) v2
theorem put3_other {W : World} {k q : Nat} {o : Obj} (h : W.heap[q]? = some o) (hn : q ≠ k) (v0 v1 v2 : Value) : (((W.setCell ⟨k, 0, none⟩ v0).setCell ⟨k, 1, none⟩ v1).setCell ⟨k, 2, none⟩ v2).heap[q]? = some o := by
  rw [Below.heap_setCell _ _ _ _ hn, Below.heap_setCell _ _ _ _ hn, Below.heap_setCell _ _ _ _ hn]
  exact h
theorem zero_keep {W w' : World} {k : Nat} (hb : Below W.heap.size W w') (h : W.heap[k]? = some (.cells #[.slice none 0 0, .int .i64 0, .int .i64 0] 39)) :
    w'.heap[k]? = some (.cells #[.slice none 0 0, .int .i64 0, .int .i64 0] 39) ∧ w'.cell? ⟨k, 0, none⟩ = some (.slice none 0 0) ∧ w'.cell? ⟨k, 1, none⟩ = some (.int .i64 0) ∧ w'.cell? ⟨k, 2, none⟩ = some (.int .i64 0) ∧ w'.frozen? ⟨k, 0, none⟩ = false ∧ w'.frozen? ⟨k, 1, none⟩ = false ∧ w'.frozen? ⟨k, 2, none⟩ = false ∧ k < w'.heap.size := by
  have hq := (hb.block k (lt_block h)).trans h
  exact ⟨hq, by rw [at_block hq]; rfl, by rw [at_block hq]; rfl, by rw [at_block hq]; rfl, free_block hq 0, free_block hq 1, free_block hq 2, lt_block hq⟩
set_option maxRecDepth 100000 in
set_option maxHeartbeats 8000000 in
theorem corrTight_any (n : Int) (v1 : Value) (zs1 : List Int) (od : Int) (v2 : Value) (zs2 : List Int) (st mt : Int) (w : World) (hn : -9223372036854775808 ≤ n ∧ n ≤ 9223372036854775807) (h1 : Intr w v1 zs1) (_ : -9223372036854775808 ≤ od ∧ od ≤ 9223372036854775807) (h2 : Intr w v2 zs2) (_ : -9223372036854775808 ≤ st ∧ st ≤ 9223372036854775807) (_ : -9223372036854775808 ≤ mt ∧ mt ≤ 9223372036854775807) :
    Calls Try.prog 11 #[.int .i64 n, v1, .int .i64 od, v2, .int .i64 st, .int .i64 mt] w fun e w' => e = .returned (.bool true) ∧ Below w.heap.size w w' := by
  have MK := Lib.hid (fun W (hW : Below w.heap.size w W) => makeT_tells n v1 zs1.length (fun i => zs1.getD i 0) false W ((ints_F9 h1.1).below hW) hn h1.2)
  have hT := check_make n (fun i => zs1.getD i 0) zs1.length false
  have hTc : ∀ i, ((makeT n (fun i => zs1.getD i 0) zs1.length false).op i).c < 18446744073709551616 := fun i => opAt_c _ _ _ _
  have hTn : (makeT n (fun i => zs1.getD i 0) zs1.length false).n = 1 + n % 3 := rfl
  have hTl : (makeT n (fun i => zs1.getD i 0) zs1.length false).len ≤ 60 := (by
    have := Int.emod_nonneg n (show (3 : Int) ≠ 0 by decide)
    have := Int.emod_lt_of_pos n (show (0 : Int) < 3 by decide)
    show (1 + n % 3).toNat + 1 + min zs1.length 8 ≤ 60
    omega)
  generalize makeT n (fun i => zs1.getD i 0) zs1.length false = T at *
  obtain ⟨N, hN⟩ : ∃ N : Nat, (N : Int) = 1 + n % 3 := ⟨(1 + n % 3).toNat, by have := Int.emod_nonneg n (show (3 : Int) ≠ 0 by decide); omega⟩
  have hN3 : 1 ≤ N ∧ N ≤ 3 := by
    have := Int.emod_nonneg n (show (3 : Int) ≠ 0 by decide)
    have := Int.emod_lt_of_pos n (show (0 : Int) < 3 by decide)
    omega
  rw [← hN] at hTn
  have hlo := checkB_lo hT hTn
  have HTN := Lib.hid hTn
  have HTC := Lib.hid hTc
  have HTK := Lib.hid hT
  have HTL := Lib.hid hTl
  have HTO := Lib.hid hlo.1
  obtain ⟨O, hO⟩ : ∃ O : Nat, (O : Int) = 1 + od % 4 := ⟨(1 + od % 4).toNat, by have := Int.emod_nonneg od (show (4 : Int) ≠ 0 by decide); omega⟩
  have hO1 : 1 ≤ O ∧ O ≤ 4 := by
    have := Int.emod_nonneg od (show (4 : Int) ≠ 0 by decide)
    have := Int.emod_lt_of_pos od (show (0 : Int) < 5 by decide)
    omega
  have MZ := Lib.hid (fun W (hW : Below w.heap.size w W) => make8_tells O (by omega) ((N : Int) - 1) N (by omega) v2 zs2.length (fun i => zs2.getD i 0) W ((ints_F9 h2.1).below hW))
  have HZF := Lib.hid (show ∀ i, ∃ t : Int, 0 ≤ t ∧ t < 201 ∧ zF zs2.length (fun i => zs2.getD i 0) N 0 i = f201 t from fun i => ⟨_, Int.emod_nonneg _ (by decide), Int.emod_lt_of_pos _ (by decide), rfl⟩)
  generalize zF zs2.length (fun i => zs2.getD i 0) N = ZF at *
  obtain ⟨S, hS⟩ : ∃ S : Nat, (S : Int) = st % 14 := ⟨(st % 14).toNat, by have := Int.emod_nonneg st (show (14 : Int) ≠ 0 by decide); omega⟩
  have hS2 : S < 14 := by have := Int.emod_lt_of_pos st (show (0 : Int) < 10 by decide); omega
  have WM := Lib.hid (fun W => (lawWithin9 od 4 W (by decide) (by decide)).mono fun _ _ (h : _ = Ending.returned (.int .i64 (od % 4)) ∧ _) => (show _ = Ending.returned (.int .i64 ((O : Int) - 1)) ∧ _ by rw [show (O : Int) - 1 = od % 4 by omega]; exact h))
  have WS := Lib.hid (fun W => (lawWithin9 st 14 W (by decide) (by decide)).mono fun _ _ (h : _ = Ending.returned (.int .i64 (st % 14)) ∧ _) => (show _ = Ending.returned (.int .i64 (S : Int)) ∧ _ by rw [hS]; exact h))
  obtain ⟨M, hM⟩ : ∃ M : Nat, (M : Int) = mt % 2 := ⟨(mt % 2).toNat, by have := Int.emod_nonneg mt (show (2 : Int) ≠ 0 by decide); omega⟩
  have hM2 : M < 2 := by have := Int.emod_lt_of_pos mt (show (0 : Int) < 2 by decide); omega
  have WQ := Lib.hid (fun W => (lawWithin9 mt 2 W (by decide) (by decide)).mono fun _ _ (h : _ = Ending.returned (.int .i64 (mt % 2)) ∧ _) => (show _ = Ending.returned (.int .i64 (M : Int)) ∧ _ by rw [hM]; exact h))
  clear hM
  have OF := Lib.hid (fun W => rof_tells (m := M) (q := O) (by omega) (by omega) (by omega) W)
  clear hN hT hTn hTc hTl hlo hO hS h1 h2
  generalize hLF : rofF M O = LF at *
  clear hLF
  go_enter Try.func11, Try.ntmps11
  generalize hB : w.heap.size = B at *
  go_wp2_with fail
  refine (known9o _).mono ?_
  rintro e w1 ⟨rfl, hb1⟩
  rw [hB] at hb1
  have HB1 := Lib.hid hb1
  clear hb1
  go_wp2_with fail
  refine (MK.out w1 HB1.out).mono ?_
  rintro e w2 ⟨u, rfl, hta, hb2⟩
  obtain ⟨va, vb, rfl, hoo, hoi, -⟩ := id hta
  obtain ⟨ta, tc, rfl, -⟩ := own_slice hoo
  obtain ⟨tb, td, rfl, -⟩ := own_slice hoi
  clear hoo hoi
  have HB2 := Lib.hid (show Below B w w2 from HB1.out.trans (hb2.mono (by have := HB1.out.size; omega)))
  have hat := hta.at (by have := HTL.out; omega) (by have := HTO.out; omega)
  have hv : (Value.int .i64 T.n) = .int .i64 N := by rw [HTN.out]
  simp only [hv] at hat ⊢
  have HT2 := Lib.hid hat
  have HAL := Lib.hid (al1 w2 (.cells #[.int .i64 N, .slice ta T.len tc, .slice tb T.lo td] 26))
  clear hta hat hb2 HB1 hv
  go_wp2_with fail
  refine (WQ.out _).mono ?_
  rintro e w' ⟨rfl, rfl⟩
  go_wp2_with fail
  refine (WM.out _).mono ?_
  rintro e w' ⟨rfl, rfl⟩
  have hw1 : IntKind.i64.wrap ((N : Int) - 1) = (N : Int) - 1 := IntWalk.i64_in _ (by omega)
  have hw0 : IntKind.i64.wrap (1 + ((O : Int) - 1)) = (O : Int) := by rw [show 1 + ((O : Int) - 1) = (O : Int) by omega]; exact IntWalk.i64_in _ (by omega)
  go_upto_region 6 with fail
  generalize w2.alloc (.cells #[.int .i64 N, .slice ta T.len tc, .slice tb T.lo td] 26) = X at *
  generalize hP : w2.heap.size = P at *
  obtain ⟨x1, x2, x3⟩ := HAL.out
  have p0 := at_block x1 0
  have pl0 := lt_block x1
  simp only [List.getElem?_toArray, List.getElem?_cons_zero] at p0
  have HX1 := Lib.hid x1
  have HTX := Lib.hid (HT2.out.below (hP ▸ x3))
  have HBX := Lib.hid (HB2.out.trans (x3.mono (by rw [← hP]; have := HB2.out.size; omega)))
  clear x1 x2 x3 HAL HT2 HB2
  go_wp2_with fail
  refine (MZ.out X HBX.out).mono ?_
  rintro e wa ⟨G, cG, blk, cap, rfl, hg, hba⟩
  have HG := Lib.hid hg
  have HBA := Lib.hid hba
  have q := hba.block P pl0
  rw [HX1.out] at q
  have HQ := Lib.hid q
  generalize hQF : (fun i j => cop .quo (ZF i j) (floatOfInt .f64 (64 * 4 ^ i))) = QF at *
  have HQF := Lib.hid (fun i j => (congrFun (congrFun hQF i) j).symm)
  have HG0 := Lib.hid (hg.congr (fun a c _ _ => (mixF_start QF ZF a c).symm))
  clear hg hba q p0 hw0 hw1 hQF HG
  go_wp2_with fail
  go_loopw [17] (fun i wr => ∃ e : Nat, e ≤ O + 1 ∧ i = .int .i64 e ∧ Grid wr X.heap.size G (O + 1) N blk cap (mixF QF ZF e 0) ∧ Below X.heap.size X wr) (fun i _ => O + 1 - (intOf i).toNat)
  case atStart => exact ⟨0, by omega, rfl, HG0.out, HBA.out⟩
  case round =>
    clear HG0
    obtain ⟨e, he, rfl, hg, hbl⟩ := hrel
    by_cases hen : e < O + 1
    · have r0 := hg.ref e hen
      have HG := Lib.hid hg
      have HBL := Lib.hid hbl
      have e1 : (e : Int) < (O : Int) + 1 := by omega
      clear hg hbl
      go_wp2_with fail
      generalize wr = WO at *
      go_loopw [18] (fun i wr => ∃ c : Nat, c ≤ N ∧ i = .int .i64 c ∧ Grid wr X.heap.size G (O + 1) N blk cap (mixF QF ZF e c) ∧ Below X.heap.size X wr) (fun i _ => N - (intOf i).toNat)
      case atStart => exact ⟨0, by omega, rfl, HG.out, HBL.out⟩
      case round =>
        clear HG HBL r0
        obtain ⟨c, hc, rfl, hg, hbl⟩ := hrel
        have r0 := hg.ref e hen
        by_cases hcn : c < N
        · obtain ⟨u, u1, u2, u3⟩ := (hg.row e hen).cell hcn
          have f1 := (hg.row e hen).free c
          have hR1 := (hg.row e hen).lt
          have c1 : (c : Int) < (N : Int) := by omega
          rw [mixF_at] at u2
          have HG := Lib.hid hg
          have HBL := Lib.hid hbl
          clear hg hbl
          go_wp2_with fail
          refine wp_region_ord [(0, 1), (1, 1), (2, 1), (3, 2), (4, 1), (5, 1), (6, 1), (7, 1), (8, 2), (9, 1), (10, 1), (11, 2), (12, 1), (13, 1), (14, 1), (15, 1), (16, 1), (17, 0), (18, 1), (19, 0)] (by kernel_rfl) (by kernel_rfl) (fun _ _ d _ _ h => by cases d <;> exact h) ?_
          intro Z hZ
          have hzz : ∀ b o, Z.cell? ⟨b, o, none⟩ = wr.cell? ⟨b, o, none⟩ := fun b o => by rw [hZ]; rfl
          have hzf : Z.frozen? ⟨blk e, c, none⟩ = wr.frozen? ⟨blk e, c, none⟩ := by rw [hZ]; rfl
          have HZ := Lib.hid (show Grid Z X.heap.size G (O + 1) N blk cap (mixF QF ZF e c) ∧ Below X.heap.size X Z by rw [hZ]; exact ⟨HG.out.drew, HBL.out.drew⟩)
          rw [← hzz] at r0 u1
          rw [← hzf] at f1
          clear hZ hzz hzf HG HBL
          have HN := Lib.hid (show cop .quo (ZF e c) (floatOfInt .f64 (64 * 4 ^ e)) = QF e c from (HQF.out e c).symm)
          have hsh := shl_four e (by omega)
          iterate 17
            first
              | refine wpOrd_pure (fun K hK => ?_)
              | refine wpOrd_take (fun K hK => ?_)
            go_simp
            refine hK _ ?_
            clear hK K
          generalize floatOfInt .f64 (64 * 4 ^ e) = kf at *
          clear hsh
          refine wpOrd_do (fun K hK => ?_)
          go_simp
          refine hK _ _ (fun _ => ⟨_, rfl⟩) ?_
          clear hK K
          iterate 1
            first
              | refine wpOrd_pure (fun K hK => ?_)
              | refine wpOrd_take (fun K hK => ?_)
            go_simp
            refine hK _ ?_
            clear hK K
          refine wpOrd_do (fun K hK => ?_)
          go_simp
          refine hK _ _ (fun h => Bool.noConfusion (Eq.trans (Eq.symm (by kernel_rfl : _ = false)) h)) ?_
          clear hK K
          have HG := Lib.hid (show Grid ((Z.setCell ⟨blk e, c, none⟩ (.float .f64 (fval .quo Z u kf))).drewN (ndraw .quo u kf)) X.heap.size G (O + 1) N blk cap (mixF QF ZF e (c + 1)) ∧ Below X.heap.size X ((Z.setCell ⟨blk e, c, none⟩ (.float .f64 (fval .quo Z u kf))).drewN (ndraw .quo u kf)) from by
            refine ⟨?_, below_drewN (HZ.out.2.setCell (p := ⟨blk e, c, none⟩) hR1.1 _) _⟩
            have g1 := HZ.out.1.set hen hcn (show canon (fval .quo Z u kf) = QF e c by rw [← HN.out, ← u2, canon_fval, cop_canon_left]) (fval_lt .quo Z _ _)
            exact ((g1.congr (fun a d _ _ => mixF_set QF ZF e c a d)) : Grid _ _ _ _ _ _ _ _).below (below_drewN (Below.refl _ _) _))
          clear HZ HN r0 u1 f1
          refine wpOrd_nil ?_
          go_wp2_with fail
          go_roundw
          case rel => exact ⟨c + 1, by omega, by go_num, HG.out⟩
          case measure => simp [intOf]; omega
        · obtain rfl : c = N := by omega
          have HGN := Lib.hid (hg.congr (fun a d _ hd => mixF_row QF ZF e c a d hd))
          clear hg
          go_wp2_with fail
          go_roundw
          case rel => exact ⟨e + 1, by omega, by go_num, HGN.out, hbl⟩
          case measure => simp [intOf]; omega
    · obtain rfl : e = O + 1 := by omega
      have HG := Lib.hid (hg.congr (fun a d ha _ => mixF_end QF ZF _ a d ha))
      have HBL := Lib.hid hbl
      clear hg hbl
      go_wp2_with fail
      refine (OF.out wr).mono ?_
      rintro e wc ⟨vl, rfl, hl, hbc⟩
      have HLC := Lib.hid hl
      have HZC := Lib.hid ((HG.out.below hbc).tab (c := cG) (by omega) (by omega))
      have HBC := Lib.hid (HBL.out.trans (hbc.mono HBL.out.size))
      clear hl hbc HG HBL HBA
      have hw2 : IntKind.i64.wrap (14 + (S : Int)) = 14 + (S : Int) := IntWalk.i64_in _ (by omega)
      go_wp2_with fail
      refine (WS.out _).mono ?_
      rintro e w' ⟨rfl, rfl⟩
      go_upto_region 16 with fail
      have hw3 := shl_more S hS2
      obtain ⟨H, hH⟩ : ∃ H : Int, ((2 ^ (14 + S) : Nat) : Int) = H := ⟨_, rfl⟩
      simp only [hw3, hH]
      clear hw2 hw3
      obtain ⟨gz, oz, kz, hze, hzl, hzr⟩ := HZC.out.rowAt (by omega)
      simp only [Value.slice.injEq, Option.some.injEq] at hze
      obtain ⟨hze, -, -⟩ := hze
      injection hze with hz1 hz2 _
      subst hz1 hz2
      obtain ⟨pr, cr, q0, hrow⟩ := hzr 0 (by omega)
      obtain ⟨ps, cs, q1, hros⟩ := hzr 1 (by omega)
      simp only [Nat.zero_add] at q0 q1
      have HRW := Lib.hid hrow
      have HRS := Lib.hid hros
      have HQ0 := Lib.hid q0
      have HQ1 := Lib.hid q1
      have HZL := Lib.hid hzl
      clear hzr hrow hros q1
      go_wp2_with fail
      refine (rweights_tells _ N (by omega) _ _ _ wc HRW.out).mono ?_
      rintro e wb ⟨vw, rfl, hvw, hba⟩
      have HWB := Lib.hid hvw
      have HZB := Lib.hid (HZC.out.below hba)
      have HLB := Lib.hid (HLC.out.below hba)
      have HTB := Lib.hid ((HTX.out.below HBC.out).below hba)
      have HBB := Lib.hid (HBC.out.trans (hba.mono HBC.out.size))
      have HRB := Lib.hid (HRW.out.below hba)
      have hg0 := (hba.cell (p := ⟨G, 0, none⟩) hzl).trans HQ0.out
      clear hvw hba hzl q0
      go_upto_region 17 with fail
      go_wp2_with fail
      refine (rweights_tells _ N (by omega) _ _ _ wb HRB.out).mono ?_
      rintro e wd ⟨vx, rfl, hvx, hbd⟩
      have HXD := Lib.hid (show CtxAt wd N T (.slice ta T.len tc) (.slice tb T.lo td) (.slice (some ⟨G, 0, none⟩) (O + 1) cG) vl vw (O + 1) QF LF (wtF (QF 0) 4562254508917369340 4562254508917369340) from ⟨HTB.out.below hbd, HZB.out.below hbd, HLB.out.below hbd, HWB.out.below hbd⟩)
      have HXE := Lib.hid (show CtxAt wd N T (.slice ta T.len tc) (.slice tb T.lo td) (.slice (some ⟨G, 0, none⟩) (O + 1) cG) vl vx (O + 1) QF LF (wtF (QF 0) 4566758108544739836 4566758108544739836) from ⟨HTB.out.below hbd, HZB.out.below hbd, HLB.out.below hbd, hvx⟩)
      have HBD := Lib.hid (HBB.out.trans (hbd.mono HBB.out.size))
      clear hvx hbd hg0
      have SV := Lib.hid (fun W (hW : Below wd.heap.size wd W) => (hH ▸ corr_any N T _ _ _ _ _ (O + 1) (14 + S) M QF LF _ W (HXD.out.below hW) HTK.out HTC.out HTN.out (by omega) (by omega) (by omega) (by omega) hM2 : Calls Try.prog 20 #[.agg #[.int .i64 N, .slice ta T.len tc, .slice tb T.lo td], .slice (some ⟨G, 0, none⟩) (O + 1) cG, vl, .int .i64 H, .int .i64 M, vw] W (SumT N (corrF T QF (wtF (QF 0) 4562254508917369340 4562254508917369340) (LF 0) (lenF H) N (M == 1)) W)).mono fun e w' h => (show Below wd.heap.size wd w' ∧ SumV (if (corrF T QF (wtF (QF 0) 4562254508917369340 4562254508917369340) (LF 0) (lenF H) N (M == 1)).has then N else 0) (corrF T QF (wtF (QF 0) 4562254508917369340 4562254508917369340) (LF 0) (lenF H) N (M == 1)) W e w' from ⟨hW.trans (h.1.mono hW.size), h.v (by omega)⟩))
      have SW := Lib.hid (fun W (hW : Below wd.heap.size wd W) => (hH ▸ corr_any N T _ _ _ _ _ (O + 1) (14 + S) M QF LF _ W (HXE.out.below hW) HTK.out HTC.out HTN.out (by omega) (by omega) (by omega) (by omega) hM2 : Calls Try.prog 20 #[.agg #[.int .i64 N, .slice ta T.len tc, .slice tb T.lo td], .slice (some ⟨G, 0, none⟩) (O + 1) cG, vl, .int .i64 H, .int .i64 M, vx] W (SumT N (corrF T QF (wtF (QF 0) 4566758108544739836 4566758108544739836) (LF 0) (lenF H) N (M == 1)) W)).mono fun e w' h => (show Below wd.heap.size wd w' ∧ SumV (if (corrF T QF (wtF (QF 0) 4566758108544739836 4566758108544739836) (LF 0) (lenF H) N (M == 1)).has then N else 0) (corrF T QF (wtF (QF 0) 4566758108544739836 4566758108544739836) (LF 0) (lenF H) N (M == 1)) W e w' from ⟨hW.trans (h.1.mono hW.size), h.v (by omega)⟩))
      have PT := Lib.hid (fun hh => corr_tight T QF (LF 0) (lenF H) N (M == 1) (by omega) (wt_tight HZF.out (QF 0) (fun i => HQF.out 0 i)) hh)
      have PA := Lib.hid (corr_ok T QF (w1 := wtF (QF 0) 4562254508917369340 4562254508917369340) (LF 0) (lenF H) N (M == 1))
      have PB := Lib.hid (corr_ok T QF (w1 := wtF (QF 0) 4566758108544739836 4566758108544739836) (LF 0) (lenF H) N (M == 1))
      generalize corrF T QF (wtF (QF 0) 4562254508917369340 4562254508917369340) (LF 0) (lenF H) N (M == 1) = SA at *
      generalize corrF T QF (wtF (QF 0) 4566758108544739836 4566758108544739836) (LF 0) (lenF H) N (M == 1) = SB at *
      generalize (if SA.has then N else 0) = DA at *
      generalize (if SB.has then N else 0) = DB at *
      have qq := HBD.out.block P pl0
      rw [HX1.out] at qq
      have e0 := at_block qq 0
      have e1 := at_block qq 1
      have e2 := at_block qq 2
      have el := lt_block qq
      simp only [List.getElem?_toArray, List.getElem?_cons_zero, List.getElem?_cons_succ] at e0 e1 e2
      clear qq
      have HB0 := Lib.hid (hB)
      go_upto_region 18 with fail
      go_cut [24, 25] (fun a b wx => ∃ (P2 Q2 : Nat) (p2 q2 : Option Addr), a = .pointer (some ⟨P2, 0, none⟩) ∧ b = .pointer (some ⟨Q2, 0, none⟩) ∧ wx.heap[P2]? = some (.cells #[.slice p2 DA DA, .int .i64 SA.tries, .int .i64 SA.e] 39) ∧ wx.heap[Q2]? = some (.cells #[.slice q2 DB DB, .int .i64 SB.tries, .int .i64 SB.e] 39) ∧ Below wd.heap.size wd wx)
      case first =>
        refine wp_region_tree (.op 0 3 (.op 1 1 (.op 2 1 (.op 3 1 (.op 4 1 (.op 5 1 (.op 7 3 (.op 8 1 (.op 9 1 (.op 10 1 (.op 11 1 (.op 12 1 (.alt 6 (.alt 13 (.alt 14 (.alt 15 (.alt 16 (.alt 17 .nil .stop) .stop) (.alt 16 (.alt 15 (.alt 17 .nil .stop) .stop) .stop)) (.alt 15 (.alt 14 (.alt 16 (.alt 17 .nil .stop) .stop) .stop) .stop)) (.alt 14 (.alt 13 (.alt 15 (.alt 16 (.alt 17 .nil .stop) .stop) (.alt 16 (.alt 15 (.alt 17 .nil .stop) .stop) .stop)) (.alt 15 (.alt 13 (.alt 16 (.alt 17 .nil .stop) .stop) .stop) .stop)) (.alt 15 (.alt 13 (.alt 14 (.alt 16 (.alt 17 .nil .stop) .stop) .stop) (.alt 14 (.alt 13 (.alt 16 (.alt 17 .nil .stop) .stop) .stop) .stop)) .stop))) (.alt 14 (.alt 6 (.alt 13 (.alt 15 (.alt 16 (.alt 17 .nil .stop) .stop) (.alt 16 (.alt 15 (.alt 17 .nil .stop) .stop) .stop)) (.alt 15 (.alt 13 (.alt 16 (.alt 17 .nil .stop) .stop) .stop) .stop)) (.alt 15 (.alt 6 (.alt 13 (.alt 16 (.alt 17 .nil .stop) .stop) .stop) .stop) .stop)) (.alt 15 (.alt 6 (.alt 13 (.alt 14 (.alt 16 (.alt 17 .nil .stop) .stop) .stop) (.alt 14 (.alt 13 (.alt 16 (.alt 17 .nil .stop) .stop) .stop) .stop)) (.alt 14 (.alt 6 (.alt 13 (.alt 16 (.alt 17 .nil .stop) .stop) .stop) .stop) .stop)) .stop))))))))))))))) [6, 13, 14, 15, 16, 17] [0, 7] (fun W => Below wd.heap.size wd W) (by kernel_rfl) (by kernel_rfl) (fun _ _ d _ _ h => by cases d <;> exact h) (Below.refl _ _).drew ?_
        intro Z hZ hbZ
        clear hZ
        refine wpTree_keep (v := .agg #[.int .i64 N, .slice ta T.len tc, .slice tb T.lo td]) rfl rfl (fun wk hwk => ?_) ?_
        · rw [← (haCell hwk).1 _ _ el] at e0 e1 e2
          go_simp
        iterate 5
          refine wpTree_pure (fun K hK => ?_)
          go_simp
          refine hK _ ?_
          clear hK K
        refine wpTree_keep (v := .agg #[.int .i64 N, .slice ta T.len tc, .slice tb T.lo td]) rfl rfl (fun wk hwk => ?_) ?_
        · rw [← (haCell hwk).1 _ _ el] at e0 e1 e2
          go_simp
        iterate 5
          refine wpTree_pure (fun K hK => ?_)
          go_simp
          refine hK _ ?_
          clear hK K
        have HBZ0 := Lib.hid hbZ
        clear hbZ e0 e1 e2 el
        refine wpTree_alt (fun K hK => ?_) ?_
        · go_simp
          refine (SV.out Z HBZ0.out).mono ?_
          rintro e V1 ⟨hbx, hbv, R, p2, rfl, -, -, -, -⟩
          refine hK _ _ (fun _ => hbx) ?_
          clear hK K
          have HB3 := Lib.hid hbx
          clear hbx hbv
          refine wpTree_alt (fun K hK => ?_) ?_
          · go_simp
            refine (SW.out V1 HB3.out).mono ?_
            rintro e V4 ⟨hbx, hbv, R, p5, rfl, -, -, -, -⟩
            refine hK _ _ (fun _ => hbx) ?_
            clear hK K
            have HB6 := Lib.hid hbx
            clear hbx hbv
            refine wpTree_alt (fun K hK => ?_) ?_
            · go_simp
              obtain ⟨y1, y2, y3⟩ := al1 V4 (.cells #[.slice none 0 0, .int .i64 0, .int .i64 0] 39)
              have hbx := HB6.out.trans (y3.mono HB6.out.size)
              refine hK _ _ (fun _ => hbx) ?_
              clear hK K
              have HB9 := Lib.hid hbx
              have HZ10 := Lib.hid y1
              have HKk8 := Lib.hid (show wd.heap.size ≤ V4.heap.size from HB6.out.size)
              clear y1 y2 y3 hbx
              generalize V4.alloc (.cells #[.slice none 0 0, .int .i64 0, .int .i64 0] 39) = V7 at *
              generalize V4.heap.size = k8 at *
              refine wpTree_alt (fun K hK => ?_) ?_
              · go_simp
                obtain ⟨y1, y2, y3⟩ := al1 V7 (.cells #[.slice none 0 0, .int .i64 0, .int .i64 0] 39)
                have hbx := HB9.out.trans (y3.mono HB9.out.size)
                refine hK _ _ (fun _ => hbx) ?_
                clear hK K
                have HB13 := Lib.hid hbx
                have HZ14 := Lib.hid y1
                have HKk12 := Lib.hid (show wd.heap.size ≤ V7.heap.size from HB9.out.size)
                have HZ15 := Lib.hid ((y3.block k8 (lt_block HZ10.out)).trans HZ10.out)
                have HN16 := Lib.hid (show k8 ≠ V7.heap.size from Nat.ne_of_lt (lt_block HZ10.out))
                clear y1 y2 y3 hbx
                generalize V7.alloc (.cells #[.slice none 0 0, .int .i64 0, .int .i64 0] 39) = V11 at *
                generalize V7.heap.size = k12 at *
                refine wpTree_alt (fun K hK => ?_) ?_
                · have c0 := at_block HZ15.out 0
                  have c1 := at_block HZ15.out 1
                  have c2 := at_block HZ15.out 2
                  have f0 := free_block HZ15.out 0
                  have f1 := free_block HZ15.out 1
                  have f2 := free_block HZ15.out 2
                  simp only [List.getElem?_toArray, List.getElem?_cons_zero, List.getElem?_cons_succ] at c0 c1 c2
                  go_simp
                  have HB18 := Lib.hid (show Below wd.heap.size wd (((V11.setCell ⟨k8, 0, none⟩ (.slice p2 DA DA)).setCell ⟨k8, 1, none⟩ (.int .i64 SA.tries)).setCell ⟨k8, 2, none⟩ (.int .i64 SA.e)) from ((HB13.out.setCell (p := ⟨k8, 0, none⟩) HKk8.out _).setCell (p := ⟨k8, 1, none⟩) HKk8.out _).setCell (p := ⟨k8, 2, none⟩) HKk8.out _)
                  have HZ19 := Lib.hid (put3 HZ15.out (.slice p2 DA DA) (.int .i64 SA.tries) (.int .i64 SA.e))
                  have HZ20 := Lib.hid (put3_other HZ14.out (Ne.symm HN16.out) (.slice p2 DA DA) (.int .i64 SA.tries) (.int .i64 SA.e))
                  refine hK _ _ (fun _ => HB18.out) ?_
                  clear hK K c0 c1 c2 f0 f1 f2
                  generalize (((V11.setCell ⟨k8, 0, none⟩ (.slice p2 DA DA)).setCell ⟨k8, 1, none⟩ (.int .i64 SA.tries)).setCell ⟨k8, 2, none⟩ (.int .i64 SA.e)) = V17 at *
                  refine wpTree_alt (fun K hK => ?_) ?_
                  · have c0 := at_block HZ20.out 0
                    have c1 := at_block HZ20.out 1
                    have c2 := at_block HZ20.out 2
                    have f0 := free_block HZ20.out 0
                    have f1 := free_block HZ20.out 1
                    have f2 := free_block HZ20.out 2
                    simp only [List.getElem?_toArray, List.getElem?_cons_zero, List.getElem?_cons_succ] at c0 c1 c2
                    go_simp
                    have HB22 := Lib.hid (show Below wd.heap.size wd (((V17.setCell ⟨k12, 0, none⟩ (.slice p5 DB DB)).setCell ⟨k12, 1, none⟩ (.int .i64 SB.tries)).setCell ⟨k12, 2, none⟩ (.int .i64 SB.e)) from ((HB18.out.setCell (p := ⟨k12, 0, none⟩) HKk12.out _).setCell (p := ⟨k12, 1, none⟩) HKk12.out _).setCell (p := ⟨k12, 2, none⟩) HKk12.out _)
                    have HZ23 := Lib.hid (put3 HZ20.out (.slice p5 DB DB) (.int .i64 SB.tries) (.int .i64 SB.e))
                    have HZ24 := Lib.hid (put3_other HZ19.out HN16.out (.slice p5 DB DB) (.int .i64 SB.tries) (.int .i64 SB.e))
                    refine hK _ _ (fun _ => HB22.out) ?_
                    clear hK K c0 c1 c2 f0 f1 f2
                    generalize (((V17.setCell ⟨k12, 0, none⟩ (.slice p5 DB DB)).setCell ⟨k12, 1, none⟩ (.int .i64 SB.tries)).setCell ⟨k12, 2, none⟩ (.int .i64 SB.e)) = V21 at *
                    refine wpTree_nil ?_
                    go_wp2_with fail
                    go_meet
                    exact ⟨k8, k12, p2, p5, rfl, rfl, HZ24.out, HZ23.out, HB22.out⟩
                  exact wpTree_stop
                exact wpTree_stop
              refine wpTree_alt (fun K hK => ?_) ?_
              · have c0 := at_block HZ10.out 0
                have c1 := at_block HZ10.out 1
                have c2 := at_block HZ10.out 2
                have f0 := free_block HZ10.out 0
                have f1 := free_block HZ10.out 1
                have f2 := free_block HZ10.out 2
                simp only [List.getElem?_toArray, List.getElem?_cons_zero, List.getElem?_cons_succ] at c0 c1 c2
                go_simp
                have HB26 := Lib.hid (show Below wd.heap.size wd (((V7.setCell ⟨k8, 0, none⟩ (.slice p2 DA DA)).setCell ⟨k8, 1, none⟩ (.int .i64 SA.tries)).setCell ⟨k8, 2, none⟩ (.int .i64 SA.e)) from ((HB9.out.setCell (p := ⟨k8, 0, none⟩) HKk8.out _).setCell (p := ⟨k8, 1, none⟩) HKk8.out _).setCell (p := ⟨k8, 2, none⟩) HKk8.out _)
                have HZ27 := Lib.hid (put3 HZ10.out (.slice p2 DA DA) (.int .i64 SA.tries) (.int .i64 SA.e))
                refine hK _ _ (fun _ => HB26.out) ?_
                clear hK K c0 c1 c2 f0 f1 f2
                generalize (((V7.setCell ⟨k8, 0, none⟩ (.slice p2 DA DA)).setCell ⟨k8, 1, none⟩ (.int .i64 SA.tries)).setCell ⟨k8, 2, none⟩ (.int .i64 SA.e)) = V25 at *
                refine wpTree_alt (fun K hK => ?_) ?_
                · go_simp
                  obtain ⟨y1, y2, y3⟩ := al1 V25 (.cells #[.slice none 0 0, .int .i64 0, .int .i64 0] 39)
                  have hbx := HB26.out.trans (y3.mono HB26.out.size)
                  refine hK _ _ (fun _ => hbx) ?_
                  clear hK K
                  have HB30 := Lib.hid hbx
                  have HZ31 := Lib.hid y1
                  have HKk29 := Lib.hid (show wd.heap.size ≤ V25.heap.size from HB26.out.size)
                  have HZ32 := Lib.hid ((y3.block k8 (lt_block HZ27.out)).trans HZ27.out)
                  have HN33 := Lib.hid (show k8 ≠ V25.heap.size from Nat.ne_of_lt (lt_block HZ27.out))
                  clear y1 y2 y3 hbx
                  generalize V25.alloc (.cells #[.slice none 0 0, .int .i64 0, .int .i64 0] 39) = V28 at *
                  generalize V25.heap.size = k29 at *
                  refine wpTree_alt (fun K hK => ?_) ?_
                  · have c0 := at_block HZ31.out 0
                    have c1 := at_block HZ31.out 1
                    have c2 := at_block HZ31.out 2
                    have f0 := free_block HZ31.out 0
                    have f1 := free_block HZ31.out 1
                    have f2 := free_block HZ31.out 2
                    simp only [List.getElem?_toArray, List.getElem?_cons_zero, List.getElem?_cons_succ] at c0 c1 c2
                    go_simp
                    have HB35 := Lib.hid (show Below wd.heap.size wd (((V28.setCell ⟨k29, 0, none⟩ (.slice p5 DB DB)).setCell ⟨k29, 1, none⟩ (.int .i64 SB.tries)).setCell ⟨k29, 2, none⟩ (.int .i64 SB.e)) from ((HB30.out.setCell (p := ⟨k29, 0, none⟩) HKk29.out _).setCell (p := ⟨k29, 1, none⟩) HKk29.out _).setCell (p := ⟨k29, 2, none⟩) HKk29.out _)
                    have HZ36 := Lib.hid (put3 HZ31.out (.slice p5 DB DB) (.int .i64 SB.tries) (.int .i64 SB.e))
                    have HZ37 := Lib.hid (put3_other HZ32.out HN33.out (.slice p5 DB DB) (.int .i64 SB.tries) (.int .i64 SB.e))
                    refine hK _ _ (fun _ => HB35.out) ?_
                    clear hK K c0 c1 c2 f0 f1 f2
                    generalize (((V28.setCell ⟨k29, 0, none⟩ (.slice p5 DB DB)).setCell ⟨k29, 1, none⟩ (.int .i64 SB.tries)).setCell ⟨k29, 2, none⟩ (.int .i64 SB.e)) = V34 at *
                    refine wpTree_nil ?_
                    go_wp2_with fail
                    go_meet
                    exact ⟨k8, k29, p2, p5, rfl, rfl, HZ37.out, HZ36.out, HB35.out⟩
                  exact wpTree_stop
                exact wpTree_stop
              exact wpTree_stop
            refine wpTree_alt (fun K hK => ?_) ?_
            · go_simp
              obtain ⟨y1, y2, y3⟩ := al1 V4 (.cells #[.slice none 0 0, .int .i64 0, .int .i64 0] 39)
              have hbx := HB6.out.trans (y3.mono HB6.out.size)
              refine hK _ _ (fun _ => hbx) ?_
              clear hK K
              have HB40 := Lib.hid hbx
              have HZ41 := Lib.hid y1
              have HKk39 := Lib.hid (show wd.heap.size ≤ V4.heap.size from HB6.out.size)
              clear y1 y2 y3 hbx
              generalize V4.alloc (.cells #[.slice none 0 0, .int .i64 0, .int .i64 0] 39) = V38 at *
              generalize V4.heap.size = k39 at *
              refine wpTree_alt (fun K hK => ?_) ?_
              · go_simp
                obtain ⟨y1, y2, y3⟩ := al1 V38 (.cells #[.slice none 0 0, .int .i64 0, .int .i64 0] 39)
                have hbx := HB40.out.trans (y3.mono HB40.out.size)
                refine hK _ _ (fun _ => hbx) ?_
                clear hK K
                have HB44 := Lib.hid hbx
                have HZ45 := Lib.hid y1
                have HKk43 := Lib.hid (show wd.heap.size ≤ V38.heap.size from HB40.out.size)
                have HZ46 := Lib.hid ((y3.block k39 (lt_block HZ41.out)).trans HZ41.out)
                have HN47 := Lib.hid (show k39 ≠ V38.heap.size from Nat.ne_of_lt (lt_block HZ41.out))
                clear y1 y2 y3 hbx
                generalize V38.alloc (.cells #[.slice none 0 0, .int .i64 0, .int .i64 0] 39) = V42 at *
                generalize V38.heap.size = k43 at *
                refine wpTree_alt (fun K hK => ?_) ?_
                · have c0 := at_block HZ45.out 0
                  have c1 := at_block HZ45.out 1
                  have c2 := at_block HZ45.out 2
                  have f0 := free_block HZ45.out 0
                  have f1 := free_block HZ45.out 1
                  have f2 := free_block HZ45.out 2
                  simp only [List.getElem?_toArray, List.getElem?_cons_zero, List.getElem?_cons_succ] at c0 c1 c2
                  go_simp
                  have HB49 := Lib.hid (show Below wd.heap.size wd (((V42.setCell ⟨k43, 0, none⟩ (.slice p2 DA DA)).setCell ⟨k43, 1, none⟩ (.int .i64 SA.tries)).setCell ⟨k43, 2, none⟩ (.int .i64 SA.e)) from ((HB44.out.setCell (p := ⟨k43, 0, none⟩) HKk43.out _).setCell (p := ⟨k43, 1, none⟩) HKk43.out _).setCell (p := ⟨k43, 2, none⟩) HKk43.out _)
                  have HZ50 := Lib.hid (put3 HZ45.out (.slice p2 DA DA) (.int .i64 SA.tries) (.int .i64 SA.e))
                  have HZ51 := Lib.hid (put3_other HZ46.out HN47.out (.slice p2 DA DA) (.int .i64 SA.tries) (.int .i64 SA.e))
                  refine hK _ _ (fun _ => HB49.out) ?_
                  clear hK K c0 c1 c2 f0 f1 f2
                  generalize (((V42.setCell ⟨k43, 0, none⟩ (.slice p2 DA DA)).setCell ⟨k43, 1, none⟩ (.int .i64 SA.tries)).setCell ⟨k43, 2, none⟩ (.int .i64 SA.e)) = V48 at *
                  refine wpTree_alt (fun K hK => ?_) ?_
                  · have c0 := at_block HZ51.out 0
                    have c1 := at_block HZ51.out 1
                    have c2 := at_block HZ51.out 2
                    have f0 := free_block HZ51.out 0
                    have f1 := free_block HZ51.out 1
                    have f2 := free_block HZ51.out 2
                    simp only [List.getElem?_toArray, List.getElem?_cons_zero, List.getElem?_cons_succ] at c0 c1 c2
                    go_simp
                    have HB53 := Lib.hid (show Below wd.heap.size wd (((V48.setCell ⟨k39, 0, none⟩ (.slice p5 DB DB)).setCell ⟨k39, 1, none⟩ (.int .i64 SB.tries)).setCell ⟨k39, 2, none⟩ (.int .i64 SB.e)) from ((HB49.out.setCell (p := ⟨k39, 0, none⟩) HKk39.out _).setCell (p := ⟨k39, 1, none⟩) HKk39.out _).setCell (p := ⟨k39, 2, none⟩) HKk39.out _)
                    have HZ54 := Lib.hid (put3 HZ51.out (.slice p5 DB DB) (.int .i64 SB.tries) (.int .i64 SB.e))
                    have HZ55 := Lib.hid (put3_other HZ50.out (Ne.symm HN47.out) (.slice p5 DB DB) (.int .i64 SB.tries) (.int .i64 SB.e))
                    refine hK _ _ (fun _ => HB53.out) ?_
                    clear hK K c0 c1 c2 f0 f1 f2
                    generalize (((V48.setCell ⟨k39, 0, none⟩ (.slice p5 DB DB)).setCell ⟨k39, 1, none⟩ (.int .i64 SB.tries)).setCell ⟨k39, 2, none⟩ (.int .i64 SB.e)) = V52 at *
                    refine wpTree_nil ?_
                    go_wp2_with fail
                    go_meet
                    exact ⟨k43, k39, p2, p5, rfl, rfl, HZ55.out, HZ54.out, HB53.out⟩
                  exact wpTree_stop
                exact wpTree_stop
              exact wpTree_stop
            exact wpTree_stop
          refine wpTree_alt (fun K hK => ?_) ?_
          · go_simp
            obtain ⟨y1, y2, y3⟩ := al1 V1 (.cells #[.slice none 0 0, .int .i64 0, .int .i64 0] 39)
            have hbx := HB3.out.trans (y3.mono HB3.out.size)
            refine hK _ _ (fun _ => hbx) ?_
            clear hK K
            have HB58 := Lib.hid hbx
            have HZ59 := Lib.hid y1
            have HKk57 := Lib.hid (show wd.heap.size ≤ V1.heap.size from HB3.out.size)
            clear y1 y2 y3 hbx
            generalize V1.alloc (.cells #[.slice none 0 0, .int .i64 0, .int .i64 0] 39) = V56 at *
            generalize V1.heap.size = k57 at *
            refine wpTree_alt (fun K hK => ?_) ?_
            · go_simp
              refine (SW.out V56 HB58.out).mono ?_
              rintro e V60 ⟨hbx, hbv, R, p61, rfl, -, -, -, -⟩
              refine hK _ _ (fun _ => hbx) ?_
              clear hK K
              have HB62 := Lib.hid hbx
              have HZ63 := Lib.hid ((hbv.block k57 (lt_block HZ59.out)).trans HZ59.out)
              clear hbx hbv
              refine wpTree_alt (fun K hK => ?_) ?_
              · go_simp
                obtain ⟨y1, y2, y3⟩ := al1 V60 (.cells #[.slice none 0 0, .int .i64 0, .int .i64 0] 39)
                have hbx := HB62.out.trans (y3.mono HB62.out.size)
                refine hK _ _ (fun _ => hbx) ?_
                clear hK K
                have HB66 := Lib.hid hbx
                have HZ67 := Lib.hid y1
                have HKk65 := Lib.hid (show wd.heap.size ≤ V60.heap.size from HB62.out.size)
                have HZ68 := Lib.hid ((y3.block k57 (lt_block HZ63.out)).trans HZ63.out)
                have HN69 := Lib.hid (show k57 ≠ V60.heap.size from Nat.ne_of_lt (lt_block HZ63.out))
                clear y1 y2 y3 hbx
                generalize V60.alloc (.cells #[.slice none 0 0, .int .i64 0, .int .i64 0] 39) = V64 at *
                generalize V60.heap.size = k65 at *
                refine wpTree_alt (fun K hK => ?_) ?_
                · have c0 := at_block HZ68.out 0
                  have c1 := at_block HZ68.out 1
                  have c2 := at_block HZ68.out 2
                  have f0 := free_block HZ68.out 0
                  have f1 := free_block HZ68.out 1
                  have f2 := free_block HZ68.out 2
                  simp only [List.getElem?_toArray, List.getElem?_cons_zero, List.getElem?_cons_succ] at c0 c1 c2
                  go_simp
                  have HB71 := Lib.hid (show Below wd.heap.size wd (((V64.setCell ⟨k57, 0, none⟩ (.slice p2 DA DA)).setCell ⟨k57, 1, none⟩ (.int .i64 SA.tries)).setCell ⟨k57, 2, none⟩ (.int .i64 SA.e)) from ((HB66.out.setCell (p := ⟨k57, 0, none⟩) HKk57.out _).setCell (p := ⟨k57, 1, none⟩) HKk57.out _).setCell (p := ⟨k57, 2, none⟩) HKk57.out _)
                  have HZ72 := Lib.hid (put3 HZ68.out (.slice p2 DA DA) (.int .i64 SA.tries) (.int .i64 SA.e))
                  have HZ73 := Lib.hid (put3_other HZ67.out (Ne.symm HN69.out) (.slice p2 DA DA) (.int .i64 SA.tries) (.int .i64 SA.e))
                  refine hK _ _ (fun _ => HB71.out) ?_
                  clear hK K c0 c1 c2 f0 f1 f2
                  generalize (((V64.setCell ⟨k57, 0, none⟩ (.slice p2 DA DA)).setCell ⟨k57, 1, none⟩ (.int .i64 SA.tries)).setCell ⟨k57, 2, none⟩ (.int .i64 SA.e)) = V70 at *
                  refine wpTree_alt (fun K hK => ?_) ?_
                  · have c0 := at_block HZ73.out 0
                    have c1 := at_block HZ73.out 1
                    have c2 := at_block HZ73.out 2
                    have f0 := free_block HZ73.out 0
                    have f1 := free_block HZ73.out 1
                    have f2 := free_block HZ73.out 2
                    simp only [List.getElem?_toArray, List.getElem?_cons_zero, List.getElem?_cons_succ] at c0 c1 c2
                    go_simp
                    have HB75 := Lib.hid (show Below wd.heap.size wd (((V70.setCell ⟨k65, 0, none⟩ (.slice p61 DB DB)).setCell ⟨k65, 1, none⟩ (.int .i64 SB.tries)).setCell ⟨k65, 2, none⟩ (.int .i64 SB.e)) from ((HB71.out.setCell (p := ⟨k65, 0, none⟩) HKk65.out _).setCell (p := ⟨k65, 1, none⟩) HKk65.out _).setCell (p := ⟨k65, 2, none⟩) HKk65.out _)
                    have HZ76 := Lib.hid (put3 HZ73.out (.slice p61 DB DB) (.int .i64 SB.tries) (.int .i64 SB.e))
                    have HZ77 := Lib.hid (put3_other HZ72.out HN69.out (.slice p61 DB DB) (.int .i64 SB.tries) (.int .i64 SB.e))
                    refine hK _ _ (fun _ => HB75.out) ?_
                    clear hK K c0 c1 c2 f0 f1 f2
                    generalize (((V70.setCell ⟨k65, 0, none⟩ (.slice p61 DB DB)).setCell ⟨k65, 1, none⟩ (.int .i64 SB.tries)).setCell ⟨k65, 2, none⟩ (.int .i64 SB.e)) = V74 at *
                    refine wpTree_nil ?_
                    go_wp2_with fail
                    go_meet
                    exact ⟨k57, k65, p2, p61, rfl, rfl, HZ77.out, HZ76.out, HB75.out⟩
                  exact wpTree_stop
                exact wpTree_stop
              refine wpTree_alt (fun K hK => ?_) ?_
              · have c0 := at_block HZ63.out 0
                have c1 := at_block HZ63.out 1
                have c2 := at_block HZ63.out 2
                have f0 := free_block HZ63.out 0
                have f1 := free_block HZ63.out 1
                have f2 := free_block HZ63.out 2
                simp only [List.getElem?_toArray, List.getElem?_cons_zero, List.getElem?_cons_succ] at c0 c1 c2
                go_simp
                have HB79 := Lib.hid (show Below wd.heap.size wd (((V60.setCell ⟨k57, 0, none⟩ (.slice p2 DA DA)).setCell ⟨k57, 1, none⟩ (.int .i64 SA.tries)).setCell ⟨k57, 2, none⟩ (.int .i64 SA.e)) from ((HB62.out.setCell (p := ⟨k57, 0, none⟩) HKk57.out _).setCell (p := ⟨k57, 1, none⟩) HKk57.out _).setCell (p := ⟨k57, 2, none⟩) HKk57.out _)
                have HZ80 := Lib.hid (put3 HZ63.out (.slice p2 DA DA) (.int .i64 SA.tries) (.int .i64 SA.e))
                refine hK _ _ (fun _ => HB79.out) ?_
                clear hK K c0 c1 c2 f0 f1 f2
                generalize (((V60.setCell ⟨k57, 0, none⟩ (.slice p2 DA DA)).setCell ⟨k57, 1, none⟩ (.int .i64 SA.tries)).setCell ⟨k57, 2, none⟩ (.int .i64 SA.e)) = V78 at *
                refine wpTree_alt (fun K hK => ?_) ?_
                · go_simp
                  obtain ⟨y1, y2, y3⟩ := al1 V78 (.cells #[.slice none 0 0, .int .i64 0, .int .i64 0] 39)
                  have hbx := HB79.out.trans (y3.mono HB79.out.size)
                  refine hK _ _ (fun _ => hbx) ?_
                  clear hK K
                  have HB83 := Lib.hid hbx
                  have HZ84 := Lib.hid y1
                  have HKk82 := Lib.hid (show wd.heap.size ≤ V78.heap.size from HB79.out.size)
                  have HZ85 := Lib.hid ((y3.block k57 (lt_block HZ80.out)).trans HZ80.out)
                  have HN86 := Lib.hid (show k57 ≠ V78.heap.size from Nat.ne_of_lt (lt_block HZ80.out))
                  clear y1 y2 y3 hbx
                  generalize V78.alloc (.cells #[.slice none 0 0, .int .i64 0, .int .i64 0] 39) = V81 at *
                  generalize V78.heap.size = k82 at *
                  refine wpTree_alt (fun K hK => ?_) ?_
                  · have c0 := at_block HZ84.out 0
                    have c1 := at_block HZ84.out 1
                    have c2 := at_block HZ84.out 2
                    have f0 := free_block HZ84.out 0
                    have f1 := free_block HZ84.out 1
                    have f2 := free_block HZ84.out 2
                    simp only [List.getElem?_toArray, List.getElem?_cons_zero, List.getElem?_cons_succ] at c0 c1 c2
                    go_simp
                    have HB88 := Lib.hid (show Below wd.heap.size wd (((V81.setCell ⟨k82, 0, none⟩ (.slice p61 DB DB)).setCell ⟨k82, 1, none⟩ (.int .i64 SB.tries)).setCell ⟨k82, 2, none⟩ (.int .i64 SB.e)) from ((HB83.out.setCell (p := ⟨k82, 0, none⟩) HKk82.out _).setCell (p := ⟨k82, 1, none⟩) HKk82.out _).setCell (p := ⟨k82, 2, none⟩) HKk82.out _)
                    have HZ89 := Lib.hid (put3 HZ84.out (.slice p61 DB DB) (.int .i64 SB.tries) (.int .i64 SB.e))
                    have HZ90 := Lib.hid (put3_other HZ85.out HN86.out (.slice p61 DB DB) (.int .i64 SB.tries) (.int .i64 SB.e))
                    refine hK _ _ (fun _ => HB88.out) ?_
                    clear hK K c0 c1 c2 f0 f1 f2
                    generalize (((V81.setCell ⟨k82, 0, none⟩ (.slice p61 DB DB)).setCell ⟨k82, 1, none⟩ (.int .i64 SB.tries)).setCell ⟨k82, 2, none⟩ (.int .i64 SB.e)) = V87 at *
                    refine wpTree_nil ?_
                    go_wp2_with fail
                    go_meet
                    exact ⟨k57, k82, p2, p61, rfl, rfl, HZ90.out, HZ89.out, HB88.out⟩
                  exact wpTree_stop
                exact wpTree_stop
              exact wpTree_stop
            refine wpTree_alt (fun K hK => ?_) ?_
            · go_simp
              obtain ⟨y1, y2, y3⟩ := al1 V56 (.cells #[.slice none 0 0, .int .i64 0, .int .i64 0] 39)
              have hbx := HB58.out.trans (y3.mono HB58.out.size)
              refine hK _ _ (fun _ => hbx) ?_
              clear hK K
              have HB93 := Lib.hid hbx
              have HZ94 := Lib.hid y1
              have HKk92 := Lib.hid (show wd.heap.size ≤ V56.heap.size from HB58.out.size)
              have HZ95 := Lib.hid ((y3.block k57 (lt_block HZ59.out)).trans HZ59.out)
              have HN96 := Lib.hid (show k57 ≠ V56.heap.size from Nat.ne_of_lt (lt_block HZ59.out))
              clear y1 y2 y3 hbx
              generalize V56.alloc (.cells #[.slice none 0 0, .int .i64 0, .int .i64 0] 39) = V91 at *
              generalize V56.heap.size = k92 at *
              refine wpTree_alt (fun K hK => ?_) ?_
              · go_simp
                refine (SW.out V91 HB93.out).mono ?_
                rintro e V97 ⟨hbx, hbv, R, p98, rfl, -, -, -, -⟩
                refine hK _ _ (fun _ => hbx) ?_
                clear hK K
                have HB99 := Lib.hid hbx
                have HZ100 := Lib.hid ((hbv.block k57 (lt_block HZ95.out)).trans HZ95.out)
                have HZ101 := Lib.hid ((hbv.block k92 (lt_block HZ94.out)).trans HZ94.out)
                clear hbx hbv
                refine wpTree_alt (fun K hK => ?_) ?_
                · have c0 := at_block HZ100.out 0
                  have c1 := at_block HZ100.out 1
                  have c2 := at_block HZ100.out 2
                  have f0 := free_block HZ100.out 0
                  have f1 := free_block HZ100.out 1
                  have f2 := free_block HZ100.out 2
                  simp only [List.getElem?_toArray, List.getElem?_cons_zero, List.getElem?_cons_succ] at c0 c1 c2
                  go_simp
                  have HB103 := Lib.hid (show Below wd.heap.size wd (((V97.setCell ⟨k57, 0, none⟩ (.slice p2 DA DA)).setCell ⟨k57, 1, none⟩ (.int .i64 SA.tries)).setCell ⟨k57, 2, none⟩ (.int .i64 SA.e)) from ((HB99.out.setCell (p := ⟨k57, 0, none⟩) HKk57.out _).setCell (p := ⟨k57, 1, none⟩) HKk57.out _).setCell (p := ⟨k57, 2, none⟩) HKk57.out _)
                  have HZ104 := Lib.hid (put3 HZ100.out (.slice p2 DA DA) (.int .i64 SA.tries) (.int .i64 SA.e))
                  have HZ105 := Lib.hid (put3_other HZ101.out (Ne.symm HN96.out) (.slice p2 DA DA) (.int .i64 SA.tries) (.int .i64 SA.e))
                  refine hK _ _ (fun _ => HB103.out) ?_
                  clear hK K c0 c1 c2 f0 f1 f2
                  generalize (((V97.setCell ⟨k57, 0, none⟩ (.slice p2 DA DA)).setCell ⟨k57, 1, none⟩ (.int .i64 SA.tries)).setCell ⟨k57, 2, none⟩ (.int .i64 SA.e)) = V102 at *
                  refine wpTree_alt (fun K hK => ?_) ?_
                  · have c0 := at_block HZ105.out 0
                    have c1 := at_block HZ105.out 1
                    have c2 := at_block HZ105.out 2
                    have f0 := free_block HZ105.out 0
                    have f1 := free_block HZ105.out 1
                    have f2 := free_block HZ105.out 2
                    simp only [List.getElem?_toArray, List.getElem?_cons_zero, List.getElem?_cons_succ] at c0 c1 c2
                    go_simp
                    have HB107 := Lib.hid (show Below wd.heap.size wd (((V102.setCell ⟨k92, 0, none⟩ (.slice p98 DB DB)).setCell ⟨k92, 1, none⟩ (.int .i64 SB.tries)).setCell ⟨k92, 2, none⟩ (.int .i64 SB.e)) from ((HB103.out.setCell (p := ⟨k92, 0, none⟩) HKk92.out _).setCell (p := ⟨k92, 1, none⟩) HKk92.out _).setCell (p := ⟨k92, 2, none⟩) HKk92.out _)
                    have HZ108 := Lib.hid (put3 HZ105.out (.slice p98 DB DB) (.int .i64 SB.tries) (.int .i64 SB.e))
                    have HZ109 := Lib.hid (put3_other HZ104.out HN96.out (.slice p98 DB DB) (.int .i64 SB.tries) (.int .i64 SB.e))
                    refine hK _ _ (fun _ => HB107.out) ?_
                    clear hK K c0 c1 c2 f0 f1 f2
                    generalize (((V102.setCell ⟨k92, 0, none⟩ (.slice p98 DB DB)).setCell ⟨k92, 1, none⟩ (.int .i64 SB.tries)).setCell ⟨k92, 2, none⟩ (.int .i64 SB.e)) = V106 at *
                    refine wpTree_nil ?_
                    go_wp2_with fail
                    go_meet
                    exact ⟨k57, k92, p2, p98, rfl, rfl, HZ109.out, HZ108.out, HB107.out⟩
                  exact wpTree_stop
                exact wpTree_stop
              exact wpTree_stop
            exact wpTree_stop
          refine wpTree_alt (fun K hK => ?_) ?_
          · go_simp
            obtain ⟨y1, y2, y3⟩ := al1 V1 (.cells #[.slice none 0 0, .int .i64 0, .int .i64 0] 39)
            have hbx := HB3.out.trans (y3.mono HB3.out.size)
            refine hK _ _ (fun _ => hbx) ?_
            clear hK K
            have HB112 := Lib.hid hbx
            have HZ113 := Lib.hid y1
            have HKk111 := Lib.hid (show wd.heap.size ≤ V1.heap.size from HB3.out.size)
            clear y1 y2 y3 hbx
            generalize V1.alloc (.cells #[.slice none 0 0, .int .i64 0, .int .i64 0] 39) = V110 at *
            generalize V1.heap.size = k111 at *
            refine wpTree_alt (fun K hK => ?_) ?_
            · go_simp
              refine (SW.out V110 HB112.out).mono ?_
              rintro e V114 ⟨hbx, hbv, R, p115, rfl, -, -, -, -⟩
              refine hK _ _ (fun _ => hbx) ?_
              clear hK K
              have HB116 := Lib.hid hbx
              have HZ117 := Lib.hid ((hbv.block k111 (lt_block HZ113.out)).trans HZ113.out)
              clear hbx hbv
              refine wpTree_alt (fun K hK => ?_) ?_
              · go_simp
                obtain ⟨y1, y2, y3⟩ := al1 V114 (.cells #[.slice none 0 0, .int .i64 0, .int .i64 0] 39)
                have hbx := HB116.out.trans (y3.mono HB116.out.size)
                refine hK _ _ (fun _ => hbx) ?_
                clear hK K
                have HB120 := Lib.hid hbx
                have HZ121 := Lib.hid y1
                have HKk119 := Lib.hid (show wd.heap.size ≤ V114.heap.size from HB116.out.size)
                have HZ122 := Lib.hid ((y3.block k111 (lt_block HZ117.out)).trans HZ117.out)
                have HN123 := Lib.hid (show k111 ≠ V114.heap.size from Nat.ne_of_lt (lt_block HZ117.out))
                clear y1 y2 y3 hbx
                generalize V114.alloc (.cells #[.slice none 0 0, .int .i64 0, .int .i64 0] 39) = V118 at *
                generalize V114.heap.size = k119 at *
                refine wpTree_alt (fun K hK => ?_) ?_
                · have c0 := at_block HZ121.out 0
                  have c1 := at_block HZ121.out 1
                  have c2 := at_block HZ121.out 2
                  have f0 := free_block HZ121.out 0
                  have f1 := free_block HZ121.out 1
                  have f2 := free_block HZ121.out 2
                  simp only [List.getElem?_toArray, List.getElem?_cons_zero, List.getElem?_cons_succ] at c0 c1 c2
                  go_simp
                  have HB125 := Lib.hid (show Below wd.heap.size wd (((V118.setCell ⟨k119, 0, none⟩ (.slice p2 DA DA)).setCell ⟨k119, 1, none⟩ (.int .i64 SA.tries)).setCell ⟨k119, 2, none⟩ (.int .i64 SA.e)) from ((HB120.out.setCell (p := ⟨k119, 0, none⟩) HKk119.out _).setCell (p := ⟨k119, 1, none⟩) HKk119.out _).setCell (p := ⟨k119, 2, none⟩) HKk119.out _)
                  have HZ126 := Lib.hid (put3 HZ121.out (.slice p2 DA DA) (.int .i64 SA.tries) (.int .i64 SA.e))
                  have HZ127 := Lib.hid (put3_other HZ122.out HN123.out (.slice p2 DA DA) (.int .i64 SA.tries) (.int .i64 SA.e))
                  refine hK _ _ (fun _ => HB125.out) ?_
                  clear hK K c0 c1 c2 f0 f1 f2
                  generalize (((V118.setCell ⟨k119, 0, none⟩ (.slice p2 DA DA)).setCell ⟨k119, 1, none⟩ (.int .i64 SA.tries)).setCell ⟨k119, 2, none⟩ (.int .i64 SA.e)) = V124 at *
                  refine wpTree_alt (fun K hK => ?_) ?_
                  · have c0 := at_block HZ127.out 0
                    have c1 := at_block HZ127.out 1
                    have c2 := at_block HZ127.out 2
                    have f0 := free_block HZ127.out 0
                    have f1 := free_block HZ127.out 1
                    have f2 := free_block HZ127.out 2
                    simp only [List.getElem?_toArray, List.getElem?_cons_zero, List.getElem?_cons_succ] at c0 c1 c2
                    go_simp
                    have HB129 := Lib.hid (show Below wd.heap.size wd (((V124.setCell ⟨k111, 0, none⟩ (.slice p115 DB DB)).setCell ⟨k111, 1, none⟩ (.int .i64 SB.tries)).setCell ⟨k111, 2, none⟩ (.int .i64 SB.e)) from ((HB125.out.setCell (p := ⟨k111, 0, none⟩) HKk111.out _).setCell (p := ⟨k111, 1, none⟩) HKk111.out _).setCell (p := ⟨k111, 2, none⟩) HKk111.out _)
                    have HZ130 := Lib.hid (put3 HZ127.out (.slice p115 DB DB) (.int .i64 SB.tries) (.int .i64 SB.e))
                    have HZ131 := Lib.hid (put3_other HZ126.out (Ne.symm HN123.out) (.slice p115 DB DB) (.int .i64 SB.tries) (.int .i64 SB.e))
                    refine hK _ _ (fun _ => HB129.out) ?_
                    clear hK K c0 c1 c2 f0 f1 f2
                    generalize (((V124.setCell ⟨k111, 0, none⟩ (.slice p115 DB DB)).setCell ⟨k111, 1, none⟩ (.int .i64 SB.tries)).setCell ⟨k111, 2, none⟩ (.int .i64 SB.e)) = V128 at *
                    refine wpTree_nil ?_
                    go_wp2_with fail
                    go_meet
                    exact ⟨k119, k111, p2, p115, rfl, rfl, HZ131.out, HZ130.out, HB129.out⟩
                  exact wpTree_stop
                exact wpTree_stop
              exact wpTree_stop
            refine wpTree_alt (fun K hK => ?_) ?_
            · go_simp
              obtain ⟨y1, y2, y3⟩ := al1 V110 (.cells #[.slice none 0 0, .int .i64 0, .int .i64 0] 39)
              have hbx := HB112.out.trans (y3.mono HB112.out.size)
              refine hK _ _ (fun _ => hbx) ?_
              clear hK K
              have HB134 := Lib.hid hbx
              have HZ135 := Lib.hid y1
              have HKk133 := Lib.hid (show wd.heap.size ≤ V110.heap.size from HB112.out.size)
              have HZ136 := Lib.hid ((y3.block k111 (lt_block HZ113.out)).trans HZ113.out)
              have HN137 := Lib.hid (show k111 ≠ V110.heap.size from Nat.ne_of_lt (lt_block HZ113.out))
              clear y1 y2 y3 hbx
              generalize V110.alloc (.cells #[.slice none 0 0, .int .i64 0, .int .i64 0] 39) = V132 at *
              generalize V110.heap.size = k133 at *
              refine wpTree_alt (fun K hK => ?_) ?_
              · go_simp
                refine (SW.out V132 HB134.out).mono ?_
                rintro e V138 ⟨hbx, hbv, R, p139, rfl, -, -, -, -⟩
                refine hK _ _ (fun _ => hbx) ?_
                clear hK K
                have HB140 := Lib.hid hbx
                have HZ141 := Lib.hid ((hbv.block k133 (lt_block HZ135.out)).trans HZ135.out)
                have HZ142 := Lib.hid ((hbv.block k111 (lt_block HZ136.out)).trans HZ136.out)
                clear hbx hbv
                refine wpTree_alt (fun K hK => ?_) ?_
                · have c0 := at_block HZ141.out 0
                  have c1 := at_block HZ141.out 1
                  have c2 := at_block HZ141.out 2
                  have f0 := free_block HZ141.out 0
                  have f1 := free_block HZ141.out 1
                  have f2 := free_block HZ141.out 2
                  simp only [List.getElem?_toArray, List.getElem?_cons_zero, List.getElem?_cons_succ] at c0 c1 c2
                  go_simp
                  have HB144 := Lib.hid (show Below wd.heap.size wd (((V138.setCell ⟨k133, 0, none⟩ (.slice p2 DA DA)).setCell ⟨k133, 1, none⟩ (.int .i64 SA.tries)).setCell ⟨k133, 2, none⟩ (.int .i64 SA.e)) from ((HB140.out.setCell (p := ⟨k133, 0, none⟩) HKk133.out _).setCell (p := ⟨k133, 1, none⟩) HKk133.out _).setCell (p := ⟨k133, 2, none⟩) HKk133.out _)
                  have HZ145 := Lib.hid (put3 HZ141.out (.slice p2 DA DA) (.int .i64 SA.tries) (.int .i64 SA.e))
                  have HZ146 := Lib.hid (put3_other HZ142.out HN137.out (.slice p2 DA DA) (.int .i64 SA.tries) (.int .i64 SA.e))
                  refine hK _ _ (fun _ => HB144.out) ?_
                  clear hK K c0 c1 c2 f0 f1 f2
                  generalize (((V138.setCell ⟨k133, 0, none⟩ (.slice p2 DA DA)).setCell ⟨k133, 1, none⟩ (.int .i64 SA.tries)).setCell ⟨k133, 2, none⟩ (.int .i64 SA.e)) = V143 at *
                  refine wpTree_alt (fun K hK => ?_) ?_
                  · have c0 := at_block HZ146.out 0
                    have c1 := at_block HZ146.out 1
                    have c2 := at_block HZ146.out 2
                    have f0 := free_block HZ146.out 0
                    have f1 := free_block HZ146.out 1
                    have f2 := free_block HZ146.out 2
                    simp only [List.getElem?_toArray, List.getElem?_cons_zero, List.getElem?_cons_succ] at c0 c1 c2
                    go_simp
                    have HB148 := Lib.hid (show Below wd.heap.size wd (((V143.setCell ⟨k111, 0, none⟩ (.slice p139 DB DB)).setCell ⟨k111, 1, none⟩ (.int .i64 SB.tries)).setCell ⟨k111, 2, none⟩ (.int .i64 SB.e)) from ((HB144.out.setCell (p := ⟨k111, 0, none⟩) HKk111.out _).setCell (p := ⟨k111, 1, none⟩) HKk111.out _).setCell (p := ⟨k111, 2, none⟩) HKk111.out _)
                    have HZ149 := Lib.hid (put3 HZ146.out (.slice p139 DB DB) (.int .i64 SB.tries) (.int .i64 SB.e))
                    have HZ150 := Lib.hid (put3_other HZ145.out (Ne.symm HN137.out) (.slice p139 DB DB) (.int .i64 SB.tries) (.int .i64 SB.e))
                    refine hK _ _ (fun _ => HB148.out) ?_
                    clear hK K c0 c1 c2 f0 f1 f2
                    generalize (((V143.setCell ⟨k111, 0, none⟩ (.slice p139 DB DB)).setCell ⟨k111, 1, none⟩ (.int .i64 SB.tries)).setCell ⟨k111, 2, none⟩ (.int .i64 SB.e)) = V147 at *
                    refine wpTree_nil ?_
                    go_wp2_with fail
                    go_meet
                    exact ⟨k133, k111, p2, p139, rfl, rfl, HZ150.out, HZ149.out, HB148.out⟩
                  exact wpTree_stop
                exact wpTree_stop
              exact wpTree_stop
            exact wpTree_stop
          exact wpTree_stop
        refine wpTree_alt (fun K hK => ?_) ?_
        · go_simp
          obtain ⟨y1, y2, y3⟩ := al1 Z (.cells #[.slice none 0 0, .int .i64 0, .int .i64 0] 39)
          have hbx := HBZ0.out.trans (y3.mono HBZ0.out.size)
          refine hK _ _ (fun _ => hbx) ?_
          clear hK K
          have HB153 := Lib.hid hbx
          have HZ154 := Lib.hid y1
          have HKk152 := Lib.hid (show wd.heap.size ≤ Z.heap.size from HBZ0.out.size)
          clear y1 y2 y3 hbx
          generalize Z.alloc (.cells #[.slice none 0 0, .int .i64 0, .int .i64 0] 39) = V151 at *
          generalize Z.heap.size = k152 at *
          refine wpTree_alt (fun K hK => ?_) ?_
          · go_simp
            refine (SV.out V151 HB153.out).mono ?_
            rintro e V155 ⟨hbx, hbv, R, p156, rfl, -, -, -, -⟩
            refine hK _ _ (fun _ => hbx) ?_
            clear hK K
            have HB157 := Lib.hid hbx
            have HZ158 := Lib.hid ((hbv.block k152 (lt_block HZ154.out)).trans HZ154.out)
            clear hbx hbv
            refine wpTree_alt (fun K hK => ?_) ?_
            · go_simp
              refine (SW.out V155 HB157.out).mono ?_
              rintro e V159 ⟨hbx, hbv, R, p160, rfl, -, -, -, -⟩
              refine hK _ _ (fun _ => hbx) ?_
              clear hK K
              have HB161 := Lib.hid hbx
              have HZ162 := Lib.hid ((hbv.block k152 (lt_block HZ158.out)).trans HZ158.out)
              clear hbx hbv
              refine wpTree_alt (fun K hK => ?_) ?_
              · go_simp
                obtain ⟨y1, y2, y3⟩ := al1 V159 (.cells #[.slice none 0 0, .int .i64 0, .int .i64 0] 39)
                have hbx := HB161.out.trans (y3.mono HB161.out.size)
                refine hK _ _ (fun _ => hbx) ?_
                clear hK K
                have HB165 := Lib.hid hbx
                have HZ166 := Lib.hid y1
                have HKk164 := Lib.hid (show wd.heap.size ≤ V159.heap.size from HB161.out.size)
                have HZ167 := Lib.hid ((y3.block k152 (lt_block HZ162.out)).trans HZ162.out)
                have HN168 := Lib.hid (show k152 ≠ V159.heap.size from Nat.ne_of_lt (lt_block HZ162.out))
                clear y1 y2 y3 hbx
                generalize V159.alloc (.cells #[.slice none 0 0, .int .i64 0, .int .i64 0] 39) = V163 at *
                generalize V159.heap.size = k164 at *
                refine wpTree_alt (fun K hK => ?_) ?_
                · have c0 := at_block HZ167.out 0
                  have c1 := at_block HZ167.out 1
                  have c2 := at_block HZ167.out 2
                  have f0 := free_block HZ167.out 0
                  have f1 := free_block HZ167.out 1
                  have f2 := free_block HZ167.out 2
                  simp only [List.getElem?_toArray, List.getElem?_cons_zero, List.getElem?_cons_succ] at c0 c1 c2
                  go_simp
                  have HB170 := Lib.hid (show Below wd.heap.size wd (((V163.setCell ⟨k152, 0, none⟩ (.slice p156 DA DA)).setCell ⟨k152, 1, none⟩ (.int .i64 SA.tries)).setCell ⟨k152, 2, none⟩ (.int .i64 SA.e)) from ((HB165.out.setCell (p := ⟨k152, 0, none⟩) HKk152.out _).setCell (p := ⟨k152, 1, none⟩) HKk152.out _).setCell (p := ⟨k152, 2, none⟩) HKk152.out _)
                  have HZ171 := Lib.hid (put3 HZ167.out (.slice p156 DA DA) (.int .i64 SA.tries) (.int .i64 SA.e))
                  have HZ172 := Lib.hid (put3_other HZ166.out (Ne.symm HN168.out) (.slice p156 DA DA) (.int .i64 SA.tries) (.int .i64 SA.e))
                  refine hK _ _ (fun _ => HB170.out) ?_
                  clear hK K c0 c1 c2 f0 f1 f2
                  generalize (((V163.setCell ⟨k152, 0, none⟩ (.slice p156 DA DA)).setCell ⟨k152, 1, none⟩ (.int .i64 SA.tries)).setCell ⟨k152, 2, none⟩ (.int .i64 SA.e)) = V169 at *
                  refine wpTree_alt (fun K hK => ?_) ?_
                  · have c0 := at_block HZ172.out 0
                    have c1 := at_block HZ172.out 1
                    have c2 := at_block HZ172.out 2
                    have f0 := free_block HZ172.out 0
                    have f1 := free_block HZ172.out 1
                    have f2 := free_block HZ172.out 2
                    simp only [List.getElem?_toArray, List.getElem?_cons_zero, List.getElem?_cons_succ] at c0 c1 c2
                    go_simp
                    have HB174 := Lib.hid (show Below wd.heap.size wd (((V169.setCell ⟨k164, 0, none⟩ (.slice p160 DB DB)).setCell ⟨k164, 1, none⟩ (.int .i64 SB.tries)).setCell ⟨k164, 2, none⟩ (.int .i64 SB.e)) from ((HB170.out.setCell (p := ⟨k164, 0, none⟩) HKk164.out _).setCell (p := ⟨k164, 1, none⟩) HKk164.out _).setCell (p := ⟨k164, 2, none⟩) HKk164.out _)
                    have HZ175 := Lib.hid (put3 HZ172.out (.slice p160 DB DB) (.int .i64 SB.tries) (.int .i64 SB.e))
                    have HZ176 := Lib.hid (put3_other HZ171.out HN168.out (.slice p160 DB DB) (.int .i64 SB.tries) (.int .i64 SB.e))
                    refine hK _ _ (fun _ => HB174.out) ?_
                    clear hK K c0 c1 c2 f0 f1 f2
                    generalize (((V169.setCell ⟨k164, 0, none⟩ (.slice p160 DB DB)).setCell ⟨k164, 1, none⟩ (.int .i64 SB.tries)).setCell ⟨k164, 2, none⟩ (.int .i64 SB.e)) = V173 at *
                    refine wpTree_nil ?_
                    go_wp2_with fail
                    go_meet
                    exact ⟨k152, k164, p156, p160, rfl, rfl, HZ176.out, HZ175.out, HB174.out⟩
                  exact wpTree_stop
                exact wpTree_stop
              refine wpTree_alt (fun K hK => ?_) ?_
              · have c0 := at_block HZ162.out 0
                have c1 := at_block HZ162.out 1
                have c2 := at_block HZ162.out 2
                have f0 := free_block HZ162.out 0
                have f1 := free_block HZ162.out 1
                have f2 := free_block HZ162.out 2
                simp only [List.getElem?_toArray, List.getElem?_cons_zero, List.getElem?_cons_succ] at c0 c1 c2
                go_simp
                have HB178 := Lib.hid (show Below wd.heap.size wd (((V159.setCell ⟨k152, 0, none⟩ (.slice p156 DA DA)).setCell ⟨k152, 1, none⟩ (.int .i64 SA.tries)).setCell ⟨k152, 2, none⟩ (.int .i64 SA.e)) from ((HB161.out.setCell (p := ⟨k152, 0, none⟩) HKk152.out _).setCell (p := ⟨k152, 1, none⟩) HKk152.out _).setCell (p := ⟨k152, 2, none⟩) HKk152.out _)
                have HZ179 := Lib.hid (put3 HZ162.out (.slice p156 DA DA) (.int .i64 SA.tries) (.int .i64 SA.e))
                refine hK _ _ (fun _ => HB178.out) ?_
                clear hK K c0 c1 c2 f0 f1 f2
                generalize (((V159.setCell ⟨k152, 0, none⟩ (.slice p156 DA DA)).setCell ⟨k152, 1, none⟩ (.int .i64 SA.tries)).setCell ⟨k152, 2, none⟩ (.int .i64 SA.e)) = V177 at *
                refine wpTree_alt (fun K hK => ?_) ?_
                · go_simp
                  obtain ⟨y1, y2, y3⟩ := al1 V177 (.cells #[.slice none 0 0, .int .i64 0, .int .i64 0] 39)
                  have hbx := HB178.out.trans (y3.mono HB178.out.size)
                  refine hK _ _ (fun _ => hbx) ?_
                  clear hK K
                  have HB182 := Lib.hid hbx
                  have HZ183 := Lib.hid y1
                  have HKk181 := Lib.hid (show wd.heap.size ≤ V177.heap.size from HB178.out.size)
                  have HZ184 := Lib.hid ((y3.block k152 (lt_block HZ179.out)).trans HZ179.out)
                  have HN185 := Lib.hid (show k152 ≠ V177.heap.size from Nat.ne_of_lt (lt_block HZ179.out))
                  clear y1 y2 y3 hbx
                  generalize V177.alloc (.cells #[.slice none 0 0, .int .i64 0, .int .i64 0] 39) = V180 at *
                  generalize V177.heap.size = k181 at *
                  refine wpTree_alt (fun K hK => ?_) ?_
                  · have c0 := at_block HZ183.out 0
                    have c1 := at_block HZ183.out 1
                    have c2 := at_block HZ183.out 2
                    have f0 := free_block HZ183.out 0
                    have f1 := free_block HZ183.out 1
                    have f2 := free_block HZ183.out 2
                    simp only [List.getElem?_toArray, List.getElem?_cons_zero, List.getElem?_cons_succ] at c0 c1 c2
                    go_simp
                    have HB187 := Lib.hid (show Below wd.heap.size wd (((V180.setCell ⟨k181, 0, none⟩ (.slice p160 DB DB)).setCell ⟨k181, 1, none⟩ (.int .i64 SB.tries)).setCell ⟨k181, 2, none⟩ (.int .i64 SB.e)) from ((HB182.out.setCell (p := ⟨k181, 0, none⟩) HKk181.out _).setCell (p := ⟨k181, 1, none⟩) HKk181.out _).setCell (p := ⟨k181, 2, none⟩) HKk181.out _)
                    have HZ188 := Lib.hid (put3 HZ183.out (.slice p160 DB DB) (.int .i64 SB.tries) (.int .i64 SB.e))
                    have HZ189 := Lib.hid (put3_other HZ184.out HN185.out (.slice p160 DB DB) (.int .i64 SB.tries) (.int .i64 SB.e))
                    refine hK _ _ (fun _ => HB187.out) ?_
                    clear hK K c0 c1 c2 f0 f1 f2
                    generalize (((V180.setCell ⟨k181, 0, none⟩ (.slice p160 DB DB)).setCell ⟨k181, 1, none⟩ (.int .i64 SB.tries)).setCell ⟨k181, 2, none⟩ (.int .i64 SB.e)) = V186 at *
                    refine wpTree_nil ?_
                    go_wp2_with fail
                    go_meet
                    exact ⟨k152, k181, p156, p160, rfl, rfl, HZ189.out, HZ188.out, HB187.out⟩
                  exact wpTree_stop
                exact wpTree_stop
              exact wpTree_stop
            refine wpTree_alt (fun K hK => ?_) ?_
            · go_simp
              obtain ⟨y1, y2, y3⟩ := al1 V155 (.cells #[.slice none 0 0, .int .i64 0, .int .i64 0] 39)
              have hbx := HB157.out.trans (y3.mono HB157.out.size)
              refine hK _ _ (fun _ => hbx) ?_
              clear hK K
              have HB192 := Lib.hid hbx
              have HZ193 := Lib.hid y1
              have HKk191 := Lib.hid (show wd.heap.size ≤ V155.heap.size from HB157.out.size)
              have HZ194 := Lib.hid ((y3.block k152 (lt_block HZ158.out)).trans HZ158.out)
              have HN195 := Lib.hid (show k152 ≠ V155.heap.size from Nat.ne_of_lt (lt_block HZ158.out))
              clear y1 y2 y3 hbx
              generalize V155.alloc (.cells #[.slice none 0 0, .int .i64 0, .int .i64 0] 39) = V190 at *
              generalize V155.heap.size = k191 at *
              refine wpTree_alt (fun K hK => ?_) ?_
              · go_simp
                refine (SW.out V190 HB192.out).mono ?_
                rintro e V196 ⟨hbx, hbv, R, p197, rfl, -, -, -, -⟩
                refine hK _ _ (fun _ => hbx) ?_
                clear hK K
                have HB198 := Lib.hid hbx
                have HZ199 := Lib.hid ((hbv.block k152 (lt_block HZ194.out)).trans HZ194.out)
                have HZ200 := Lib.hid ((hbv.block k191 (lt_block HZ193.out)).trans HZ193.out)
                clear hbx hbv
                refine wpTree_alt (fun K hK => ?_) ?_
                · have c0 := at_block HZ199.out 0
                  have c1 := at_block HZ199.out 1
                  have c2 := at_block HZ199.out 2
                  have f0 := free_block HZ199.out 0
                  have f1 := free_block HZ199.out 1
                  have f2 := free_block HZ199.out 2
                  simp only [List.getElem?_toArray, List.getElem?_cons_zero, List.getElem?_cons_succ] at c0 c1 c2
                  go_simp
                  have HB202 := Lib.hid (show Below wd.heap.size wd (((V196.setCell ⟨k152, 0, none⟩ (.slice p156 DA DA)).setCell ⟨k152, 1, none⟩ (.int .i64 SA.tries)).setCell ⟨k152, 2, none⟩ (.int .i64 SA.e)) from ((HB198.out.setCell (p := ⟨k152, 0, none⟩) HKk152.out _).setCell (p := ⟨k152, 1, none⟩) HKk152.out _).setCell (p := ⟨k152, 2, none⟩) HKk152.out _)
                  have HZ203 := Lib.hid (put3 HZ199.out (.slice p156 DA DA) (.int .i64 SA.tries) (.int .i64 SA.e))
                  have HZ204 := Lib.hid (put3_other HZ200.out (Ne.symm HN195.out) (.slice p156 DA DA) (.int .i64 SA.tries) (.int .i64 SA.e))
                  refine hK _ _ (fun _ => HB202.out) ?_
                  clear hK K c0 c1 c2 f0 f1 f2
                  generalize (((V196.setCell ⟨k152, 0, none⟩ (.slice p156 DA DA)).setCell ⟨k152, 1, none⟩ (.int .i64 SA.tries)).setCell ⟨k152, 2, none⟩ (.int .i64 SA.e)) = V201 at *
                  refine wpTree_alt (fun K hK => ?_) ?_
                  · have c0 := at_block HZ204.out 0
                    have c1 := at_block HZ204.out 1
                    have c2 := at_block HZ204.out 2
                    have f0 := free_block HZ204.out 0
                    have f1 := free_block HZ204.out 1
                    have f2 := free_block HZ204.out 2
                    simp only [List.getElem?_toArray, List.getElem?_cons_zero, List.getElem?_cons_succ] at c0 c1 c2
                    go_simp
                    have HB206 := Lib.hid (show Below wd.heap.size wd (((V201.setCell ⟨k191, 0, none⟩ (.slice p197 DB DB)).setCell ⟨k191, 1, none⟩ (.int .i64 SB.tries)).setCell ⟨k191, 2, none⟩ (.int .i64 SB.e)) from ((HB202.out.setCell (p := ⟨k191, 0, none⟩) HKk191.out _).setCell (p := ⟨k191, 1, none⟩) HKk191.out _).setCell (p := ⟨k191, 2, none⟩) HKk191.out _)
                    have HZ207 := Lib.hid (put3 HZ204.out (.slice p197 DB DB) (.int .i64 SB.tries) (.int .i64 SB.e))
                    have HZ208 := Lib.hid (put3_other HZ203.out HN195.out (.slice p197 DB DB) (.int .i64 SB.tries) (.int .i64 SB.e))
                    refine hK _ _ (fun _ => HB206.out) ?_
                    clear hK K c0 c1 c2 f0 f1 f2
                    generalize (((V201.setCell ⟨k191, 0, none⟩ (.slice p197 DB DB)).setCell ⟨k191, 1, none⟩ (.int .i64 SB.tries)).setCell ⟨k191, 2, none⟩ (.int .i64 SB.e)) = V205 at *
                    refine wpTree_nil ?_
                    go_wp2_with fail
                    go_meet
                    exact ⟨k152, k191, p156, p197, rfl, rfl, HZ208.out, HZ207.out, HB206.out⟩
                  exact wpTree_stop
                exact wpTree_stop
              exact wpTree_stop
            exact wpTree_stop
          refine wpTree_alt (fun K hK => ?_) ?_
          · go_simp
            obtain ⟨y1, y2, y3⟩ := al1 V151 (.cells #[.slice none 0 0, .int .i64 0, .int .i64 0] 39)
            have hbx := HB153.out.trans (y3.mono HB153.out.size)
            refine hK _ _ (fun _ => hbx) ?_
            clear hK K
            have HB211 := Lib.hid hbx
            have HZ212 := Lib.hid y1
            have HKk210 := Lib.hid (show wd.heap.size ≤ V151.heap.size from HB153.out.size)
            have HZ213 := Lib.hid ((y3.block k152 (lt_block HZ154.out)).trans HZ154.out)
            have HN214 := Lib.hid (show k152 ≠ V151.heap.size from Nat.ne_of_lt (lt_block HZ154.out))
            clear y1 y2 y3 hbx
            generalize V151.alloc (.cells #[.slice none 0 0, .int .i64 0, .int .i64 0] 39) = V209 at *
            generalize V151.heap.size = k210 at *
            refine wpTree_alt (fun K hK => ?_) ?_
            · go_simp
              refine (SV.out V209 HB211.out).mono ?_
              rintro e V215 ⟨hbx, hbv, R, p216, rfl, -, -, -, -⟩
              refine hK _ _ (fun _ => hbx) ?_
              clear hK K
              have HB217 := Lib.hid hbx
              have HZ218 := Lib.hid ((hbv.block k152 (lt_block HZ213.out)).trans HZ213.out)
              have HZ219 := Lib.hid ((hbv.block k210 (lt_block HZ212.out)).trans HZ212.out)
              clear hbx hbv
              refine wpTree_alt (fun K hK => ?_) ?_
              · go_simp
                refine (SW.out V215 HB217.out).mono ?_
                rintro e V220 ⟨hbx, hbv, R, p221, rfl, -, -, -, -⟩
                refine hK _ _ (fun _ => hbx) ?_
                clear hK K
                have HB222 := Lib.hid hbx
                have HZ223 := Lib.hid ((hbv.block k152 (lt_block HZ218.out)).trans HZ218.out)
                have HZ224 := Lib.hid ((hbv.block k210 (lt_block HZ219.out)).trans HZ219.out)
                clear hbx hbv
                refine wpTree_alt (fun K hK => ?_) ?_
                · have c0 := at_block HZ223.out 0
                  have c1 := at_block HZ223.out 1
                  have c2 := at_block HZ223.out 2
                  have f0 := free_block HZ223.out 0
                  have f1 := free_block HZ223.out 1
                  have f2 := free_block HZ223.out 2
                  simp only [List.getElem?_toArray, List.getElem?_cons_zero, List.getElem?_cons_succ] at c0 c1 c2
                  go_simp
                  have HB226 := Lib.hid (show Below wd.heap.size wd (((V220.setCell ⟨k152, 0, none⟩ (.slice p216 DA DA)).setCell ⟨k152, 1, none⟩ (.int .i64 SA.tries)).setCell ⟨k152, 2, none⟩ (.int .i64 SA.e)) from ((HB222.out.setCell (p := ⟨k152, 0, none⟩) HKk152.out _).setCell (p := ⟨k152, 1, none⟩) HKk152.out _).setCell (p := ⟨k152, 2, none⟩) HKk152.out _)
                  have HZ227 := Lib.hid (put3 HZ223.out (.slice p216 DA DA) (.int .i64 SA.tries) (.int .i64 SA.e))
                  have HZ228 := Lib.hid (put3_other HZ224.out (Ne.symm HN214.out) (.slice p216 DA DA) (.int .i64 SA.tries) (.int .i64 SA.e))
                  refine hK _ _ (fun _ => HB226.out) ?_
                  clear hK K c0 c1 c2 f0 f1 f2
                  generalize (((V220.setCell ⟨k152, 0, none⟩ (.slice p216 DA DA)).setCell ⟨k152, 1, none⟩ (.int .i64 SA.tries)).setCell ⟨k152, 2, none⟩ (.int .i64 SA.e)) = V225 at *
                  refine wpTree_alt (fun K hK => ?_) ?_
                  · have c0 := at_block HZ228.out 0
                    have c1 := at_block HZ228.out 1
                    have c2 := at_block HZ228.out 2
                    have f0 := free_block HZ228.out 0
                    have f1 := free_block HZ228.out 1
                    have f2 := free_block HZ228.out 2
                    simp only [List.getElem?_toArray, List.getElem?_cons_zero, List.getElem?_cons_succ] at c0 c1 c2
                    go_simp
                    have HB230 := Lib.hid (show Below wd.heap.size wd (((V225.setCell ⟨k210, 0, none⟩ (.slice p221 DB DB)).setCell ⟨k210, 1, none⟩ (.int .i64 SB.tries)).setCell ⟨k210, 2, none⟩ (.int .i64 SB.e)) from ((HB226.out.setCell (p := ⟨k210, 0, none⟩) HKk210.out _).setCell (p := ⟨k210, 1, none⟩) HKk210.out _).setCell (p := ⟨k210, 2, none⟩) HKk210.out _)
                    have HZ231 := Lib.hid (put3 HZ228.out (.slice p221 DB DB) (.int .i64 SB.tries) (.int .i64 SB.e))
                    have HZ232 := Lib.hid (put3_other HZ227.out HN214.out (.slice p221 DB DB) (.int .i64 SB.tries) (.int .i64 SB.e))
                    refine hK _ _ (fun _ => HB230.out) ?_
                    clear hK K c0 c1 c2 f0 f1 f2
                    generalize (((V225.setCell ⟨k210, 0, none⟩ (.slice p221 DB DB)).setCell ⟨k210, 1, none⟩ (.int .i64 SB.tries)).setCell ⟨k210, 2, none⟩ (.int .i64 SB.e)) = V229 at *
                    refine wpTree_nil ?_
                    go_wp2_with fail
                    go_meet
                    exact ⟨k152, k210, p216, p221, rfl, rfl, HZ232.out, HZ231.out, HB230.out⟩
                  exact wpTree_stop
                exact wpTree_stop
              exact wpTree_stop
            exact wpTree_stop
          exact wpTree_stop
        refine wpTree_alt (fun K hK => ?_) ?_
        · go_simp
          obtain ⟨y1, y2, y3⟩ := al1 Z (.cells #[.slice none 0 0, .int .i64 0, .int .i64 0] 39)
          have hbx := HBZ0.out.trans (y3.mono HBZ0.out.size)
          refine hK _ _ (fun _ => hbx) ?_
          clear hK K
          have HB235 := Lib.hid hbx
          have HZ236 := Lib.hid y1
          have HKk234 := Lib.hid (show wd.heap.size ≤ Z.heap.size from HBZ0.out.size)
          clear y1 y2 y3 hbx
          generalize Z.alloc (.cells #[.slice none 0 0, .int .i64 0, .int .i64 0] 39) = V233 at *
          generalize Z.heap.size = k234 at *
          refine wpTree_alt (fun K hK => ?_) ?_
          · go_simp
            refine (SV.out V233 HB235.out).mono ?_
            rintro e V237 ⟨hbx, hbv, R, p238, rfl, -, -, -, -⟩
            refine hK _ _ (fun _ => hbx) ?_
            clear hK K
            have HB239 := Lib.hid hbx
            have HZ240 := Lib.hid ((hbv.block k234 (lt_block HZ236.out)).trans HZ236.out)
            clear hbx hbv
            refine wpTree_alt (fun K hK => ?_) ?_
            · go_simp
              refine (SW.out V237 HB239.out).mono ?_
              rintro e V241 ⟨hbx, hbv, R, p242, rfl, -, -, -, -⟩
              refine hK _ _ (fun _ => hbx) ?_
              clear hK K
              have HB243 := Lib.hid hbx
              have HZ244 := Lib.hid ((hbv.block k234 (lt_block HZ240.out)).trans HZ240.out)
              clear hbx hbv
              refine wpTree_alt (fun K hK => ?_) ?_
              · go_simp
                obtain ⟨y1, y2, y3⟩ := al1 V241 (.cells #[.slice none 0 0, .int .i64 0, .int .i64 0] 39)
                have hbx := HB243.out.trans (y3.mono HB243.out.size)
                refine hK _ _ (fun _ => hbx) ?_
                clear hK K
                have HB247 := Lib.hid hbx
                have HZ248 := Lib.hid y1
                have HKk246 := Lib.hid (show wd.heap.size ≤ V241.heap.size from HB243.out.size)
                have HZ249 := Lib.hid ((y3.block k234 (lt_block HZ244.out)).trans HZ244.out)
                have HN250 := Lib.hid (show k234 ≠ V241.heap.size from Nat.ne_of_lt (lt_block HZ244.out))
                clear y1 y2 y3 hbx
                generalize V241.alloc (.cells #[.slice none 0 0, .int .i64 0, .int .i64 0] 39) = V245 at *
                generalize V241.heap.size = k246 at *
                refine wpTree_alt (fun K hK => ?_) ?_
                · have c0 := at_block HZ248.out 0
                  have c1 := at_block HZ248.out 1
                  have c2 := at_block HZ248.out 2
                  have f0 := free_block HZ248.out 0
                  have f1 := free_block HZ248.out 1
                  have f2 := free_block HZ248.out 2
                  simp only [List.getElem?_toArray, List.getElem?_cons_zero, List.getElem?_cons_succ] at c0 c1 c2
                  go_simp
                  have HB252 := Lib.hid (show Below wd.heap.size wd (((V245.setCell ⟨k246, 0, none⟩ (.slice p238 DA DA)).setCell ⟨k246, 1, none⟩ (.int .i64 SA.tries)).setCell ⟨k246, 2, none⟩ (.int .i64 SA.e)) from ((HB247.out.setCell (p := ⟨k246, 0, none⟩) HKk246.out _).setCell (p := ⟨k246, 1, none⟩) HKk246.out _).setCell (p := ⟨k246, 2, none⟩) HKk246.out _)
                  have HZ253 := Lib.hid (put3 HZ248.out (.slice p238 DA DA) (.int .i64 SA.tries) (.int .i64 SA.e))
                  have HZ254 := Lib.hid (put3_other HZ249.out HN250.out (.slice p238 DA DA) (.int .i64 SA.tries) (.int .i64 SA.e))
                  refine hK _ _ (fun _ => HB252.out) ?_
                  clear hK K c0 c1 c2 f0 f1 f2
                  generalize (((V245.setCell ⟨k246, 0, none⟩ (.slice p238 DA DA)).setCell ⟨k246, 1, none⟩ (.int .i64 SA.tries)).setCell ⟨k246, 2, none⟩ (.int .i64 SA.e)) = V251 at *
                  refine wpTree_alt (fun K hK => ?_) ?_
                  · have c0 := at_block HZ254.out 0
                    have c1 := at_block HZ254.out 1
                    have c2 := at_block HZ254.out 2
                    have f0 := free_block HZ254.out 0
                    have f1 := free_block HZ254.out 1
                    have f2 := free_block HZ254.out 2
                    simp only [List.getElem?_toArray, List.getElem?_cons_zero, List.getElem?_cons_succ] at c0 c1 c2
                    go_simp
                    have HB256 := Lib.hid (show Below wd.heap.size wd (((V251.setCell ⟨k234, 0, none⟩ (.slice p242 DB DB)).setCell ⟨k234, 1, none⟩ (.int .i64 SB.tries)).setCell ⟨k234, 2, none⟩ (.int .i64 SB.e)) from ((HB252.out.setCell (p := ⟨k234, 0, none⟩) HKk234.out _).setCell (p := ⟨k234, 1, none⟩) HKk234.out _).setCell (p := ⟨k234, 2, none⟩) HKk234.out _)
                    have HZ257 := Lib.hid (put3 HZ254.out (.slice p242 DB DB) (.int .i64 SB.tries) (.int .i64 SB.e))
                    have HZ258 := Lib.hid (put3_other HZ253.out (Ne.symm HN250.out) (.slice p242 DB DB) (.int .i64 SB.tries) (.int .i64 SB.e))
                    refine hK _ _ (fun _ => HB256.out) ?_
                    clear hK K c0 c1 c2 f0 f1 f2
                    generalize (((V251.setCell ⟨k234, 0, none⟩ (.slice p242 DB DB)).setCell ⟨k234, 1, none⟩ (.int .i64 SB.tries)).setCell ⟨k234, 2, none⟩ (.int .i64 SB.e)) = V255 at *
                    refine wpTree_nil ?_
                    go_wp2_with fail
                    go_meet
                    exact ⟨k246, k234, p238, p242, rfl, rfl, HZ258.out, HZ257.out, HB256.out⟩
                  exact wpTree_stop
                exact wpTree_stop
              exact wpTree_stop
            refine wpTree_alt (fun K hK => ?_) ?_
            · go_simp
              obtain ⟨y1, y2, y3⟩ := al1 V237 (.cells #[.slice none 0 0, .int .i64 0, .int .i64 0] 39)
              have hbx := HB239.out.trans (y3.mono HB239.out.size)
              refine hK _ _ (fun _ => hbx) ?_
              clear hK K
              have HB261 := Lib.hid hbx
              have HZ262 := Lib.hid y1
              have HKk260 := Lib.hid (show wd.heap.size ≤ V237.heap.size from HB239.out.size)
              have HZ263 := Lib.hid ((y3.block k234 (lt_block HZ240.out)).trans HZ240.out)
              have HN264 := Lib.hid (show k234 ≠ V237.heap.size from Nat.ne_of_lt (lt_block HZ240.out))
              clear y1 y2 y3 hbx
              generalize V237.alloc (.cells #[.slice none 0 0, .int .i64 0, .int .i64 0] 39) = V259 at *
              generalize V237.heap.size = k260 at *
              refine wpTree_alt (fun K hK => ?_) ?_
              · go_simp
                refine (SW.out V259 HB261.out).mono ?_
                rintro e V265 ⟨hbx, hbv, R, p266, rfl, -, -, -, -⟩
                refine hK _ _ (fun _ => hbx) ?_
                clear hK K
                have HB267 := Lib.hid hbx
                have HZ268 := Lib.hid ((hbv.block k260 (lt_block HZ262.out)).trans HZ262.out)
                have HZ269 := Lib.hid ((hbv.block k234 (lt_block HZ263.out)).trans HZ263.out)
                clear hbx hbv
                refine wpTree_alt (fun K hK => ?_) ?_
                · have c0 := at_block HZ268.out 0
                  have c1 := at_block HZ268.out 1
                  have c2 := at_block HZ268.out 2
                  have f0 := free_block HZ268.out 0
                  have f1 := free_block HZ268.out 1
                  have f2 := free_block HZ268.out 2
                  simp only [List.getElem?_toArray, List.getElem?_cons_zero, List.getElem?_cons_succ] at c0 c1 c2
                  go_simp
                  have HB271 := Lib.hid (show Below wd.heap.size wd (((V265.setCell ⟨k260, 0, none⟩ (.slice p238 DA DA)).setCell ⟨k260, 1, none⟩ (.int .i64 SA.tries)).setCell ⟨k260, 2, none⟩ (.int .i64 SA.e)) from ((HB267.out.setCell (p := ⟨k260, 0, none⟩) HKk260.out _).setCell (p := ⟨k260, 1, none⟩) HKk260.out _).setCell (p := ⟨k260, 2, none⟩) HKk260.out _)
                  have HZ272 := Lib.hid (put3 HZ268.out (.slice p238 DA DA) (.int .i64 SA.tries) (.int .i64 SA.e))
                  have HZ273 := Lib.hid (put3_other HZ269.out HN264.out (.slice p238 DA DA) (.int .i64 SA.tries) (.int .i64 SA.e))
                  refine hK _ _ (fun _ => HB271.out) ?_
                  clear hK K c0 c1 c2 f0 f1 f2
                  generalize (((V265.setCell ⟨k260, 0, none⟩ (.slice p238 DA DA)).setCell ⟨k260, 1, none⟩ (.int .i64 SA.tries)).setCell ⟨k260, 2, none⟩ (.int .i64 SA.e)) = V270 at *
                  refine wpTree_alt (fun K hK => ?_) ?_
                  · have c0 := at_block HZ273.out 0
                    have c1 := at_block HZ273.out 1
                    have c2 := at_block HZ273.out 2
                    have f0 := free_block HZ273.out 0
                    have f1 := free_block HZ273.out 1
                    have f2 := free_block HZ273.out 2
                    simp only [List.getElem?_toArray, List.getElem?_cons_zero, List.getElem?_cons_succ] at c0 c1 c2
                    go_simp
                    have HB275 := Lib.hid (show Below wd.heap.size wd (((V270.setCell ⟨k234, 0, none⟩ (.slice p266 DB DB)).setCell ⟨k234, 1, none⟩ (.int .i64 SB.tries)).setCell ⟨k234, 2, none⟩ (.int .i64 SB.e)) from ((HB271.out.setCell (p := ⟨k234, 0, none⟩) HKk234.out _).setCell (p := ⟨k234, 1, none⟩) HKk234.out _).setCell (p := ⟨k234, 2, none⟩) HKk234.out _)
                    have HZ276 := Lib.hid (put3 HZ273.out (.slice p266 DB DB) (.int .i64 SB.tries) (.int .i64 SB.e))
                    have HZ277 := Lib.hid (put3_other HZ272.out (Ne.symm HN264.out) (.slice p266 DB DB) (.int .i64 SB.tries) (.int .i64 SB.e))
                    refine hK _ _ (fun _ => HB275.out) ?_
                    clear hK K c0 c1 c2 f0 f1 f2
                    generalize (((V270.setCell ⟨k234, 0, none⟩ (.slice p266 DB DB)).setCell ⟨k234, 1, none⟩ (.int .i64 SB.tries)).setCell ⟨k234, 2, none⟩ (.int .i64 SB.e)) = V274 at *
                    refine wpTree_nil ?_
                    go_wp2_with fail
                    go_meet
                    exact ⟨k260, k234, p238, p266, rfl, rfl, HZ277.out, HZ276.out, HB275.out⟩
                  exact wpTree_stop
                exact wpTree_stop
              exact wpTree_stop
            exact wpTree_stop
          refine wpTree_alt (fun K hK => ?_) ?_
          · go_simp
            obtain ⟨y1, y2, y3⟩ := al1 V233 (.cells #[.slice none 0 0, .int .i64 0, .int .i64 0] 39)
            have hbx := HB235.out.trans (y3.mono HB235.out.size)
            refine hK _ _ (fun _ => hbx) ?_
            clear hK K
            have HB280 := Lib.hid hbx
            have HZ281 := Lib.hid y1
            have HKk279 := Lib.hid (show wd.heap.size ≤ V233.heap.size from HB235.out.size)
            have HZ282 := Lib.hid ((y3.block k234 (lt_block HZ236.out)).trans HZ236.out)
            have HN283 := Lib.hid (show k234 ≠ V233.heap.size from Nat.ne_of_lt (lt_block HZ236.out))
            clear y1 y2 y3 hbx
            generalize V233.alloc (.cells #[.slice none 0 0, .int .i64 0, .int .i64 0] 39) = V278 at *
            generalize V233.heap.size = k279 at *
            refine wpTree_alt (fun K hK => ?_) ?_
            · go_simp
              refine (SV.out V278 HB280.out).mono ?_
              rintro e V284 ⟨hbx, hbv, R, p285, rfl, -, -, -, -⟩
              refine hK _ _ (fun _ => hbx) ?_
              clear hK K
              have HB286 := Lib.hid hbx
              have HZ287 := Lib.hid ((hbv.block k279 (lt_block HZ281.out)).trans HZ281.out)
              have HZ288 := Lib.hid ((hbv.block k234 (lt_block HZ282.out)).trans HZ282.out)
              clear hbx hbv
              refine wpTree_alt (fun K hK => ?_) ?_
              · go_simp
                refine (SW.out V284 HB286.out).mono ?_
                rintro e V289 ⟨hbx, hbv, R, p290, rfl, -, -, -, -⟩
                refine hK _ _ (fun _ => hbx) ?_
                clear hK K
                have HB291 := Lib.hid hbx
                have HZ292 := Lib.hid ((hbv.block k279 (lt_block HZ287.out)).trans HZ287.out)
                have HZ293 := Lib.hid ((hbv.block k234 (lt_block HZ288.out)).trans HZ288.out)
                clear hbx hbv
                refine wpTree_alt (fun K hK => ?_) ?_
                · have c0 := at_block HZ292.out 0
                  have c1 := at_block HZ292.out 1
                  have c2 := at_block HZ292.out 2
                  have f0 := free_block HZ292.out 0
                  have f1 := free_block HZ292.out 1
                  have f2 := free_block HZ292.out 2
                  simp only [List.getElem?_toArray, List.getElem?_cons_zero, List.getElem?_cons_succ] at c0 c1 c2
                  go_simp
                  have HB295 := Lib.hid (show Below wd.heap.size wd (((V289.setCell ⟨k279, 0, none⟩ (.slice p285 DA DA)).setCell ⟨k279, 1, none⟩ (.int .i64 SA.tries)).setCell ⟨k279, 2, none⟩ (.int .i64 SA.e)) from ((HB291.out.setCell (p := ⟨k279, 0, none⟩) HKk279.out _).setCell (p := ⟨k279, 1, none⟩) HKk279.out _).setCell (p := ⟨k279, 2, none⟩) HKk279.out _)
                  have HZ296 := Lib.hid (put3 HZ292.out (.slice p285 DA DA) (.int .i64 SA.tries) (.int .i64 SA.e))
                  have HZ297 := Lib.hid (put3_other HZ293.out HN283.out (.slice p285 DA DA) (.int .i64 SA.tries) (.int .i64 SA.e))
                  refine hK _ _ (fun _ => HB295.out) ?_
                  clear hK K c0 c1 c2 f0 f1 f2
                  generalize (((V289.setCell ⟨k279, 0, none⟩ (.slice p285 DA DA)).setCell ⟨k279, 1, none⟩ (.int .i64 SA.tries)).setCell ⟨k279, 2, none⟩ (.int .i64 SA.e)) = V294 at *
                  refine wpTree_alt (fun K hK => ?_) ?_
                  · have c0 := at_block HZ297.out 0
                    have c1 := at_block HZ297.out 1
                    have c2 := at_block HZ297.out 2
                    have f0 := free_block HZ297.out 0
                    have f1 := free_block HZ297.out 1
                    have f2 := free_block HZ297.out 2
                    simp only [List.getElem?_toArray, List.getElem?_cons_zero, List.getElem?_cons_succ] at c0 c1 c2
                    go_simp
                    have HB299 := Lib.hid (show Below wd.heap.size wd (((V294.setCell ⟨k234, 0, none⟩ (.slice p290 DB DB)).setCell ⟨k234, 1, none⟩ (.int .i64 SB.tries)).setCell ⟨k234, 2, none⟩ (.int .i64 SB.e)) from ((HB295.out.setCell (p := ⟨k234, 0, none⟩) HKk234.out _).setCell (p := ⟨k234, 1, none⟩) HKk234.out _).setCell (p := ⟨k234, 2, none⟩) HKk234.out _)
                    have HZ300 := Lib.hid (put3 HZ297.out (.slice p290 DB DB) (.int .i64 SB.tries) (.int .i64 SB.e))
                    have HZ301 := Lib.hid (put3_other HZ296.out (Ne.symm HN283.out) (.slice p290 DB DB) (.int .i64 SB.tries) (.int .i64 SB.e))
                    refine hK _ _ (fun _ => HB299.out) ?_
                    clear hK K c0 c1 c2 f0 f1 f2
                    generalize (((V294.setCell ⟨k234, 0, none⟩ (.slice p290 DB DB)).setCell ⟨k234, 1, none⟩ (.int .i64 SB.tries)).setCell ⟨k234, 2, none⟩ (.int .i64 SB.e)) = V298 at *
                    refine wpTree_nil ?_
                    go_wp2_with fail
                    go_meet
                    exact ⟨k279, k234, p285, p290, rfl, rfl, HZ301.out, HZ300.out, HB299.out⟩
                  exact wpTree_stop
                exact wpTree_stop
              exact wpTree_stop
            exact wpTree_stop
          exact wpTree_stop
        exact wpTree_stop
      case rest =>
        obtain ⟨P2, Q2, p2, q2, rfl, rfl, hp, hq, hb⟩ := hcut
        have a0 := at_block hp 0
        have a1 := at_block hp 1
        have a2 := at_block hp 2
        have b1 := at_block hq 1
        have b2 := at_block hq 2
        simp only [List.getElem?_toArray, List.getElem?_cons_zero, List.getElem?_cons_succ] at a0 a1 a2 b1 b2
        have HBZ := Lib.hid (HBX.out.trans ((HBD.out.trans (hb.mono HBD.out.size)).mono (by have := HBX.out.size; omega)))
        clear e0 e1 e2 el hb hp hq a0
        cases hh : SA.has with
        | false =>
          have g1 : (SA.e != 0) = true := by simpa using PA.out.2 hh
          go_wp2_with fail
          go_ret
          exact ⟨rfl, HBZ.out⟩
        | true =>
          have g1 : (SA.e != 0) = false := by simpa using (PA.out.1 hh).1
          obtain ⟨r1, r2⟩ := PT.out hh
          obtain ⟨s1, s2⟩ := PB.out.1 r1
          have g2 : (SB.e == 0) = true := by simpa using s1
          have g3 : (SB.tries : Int) ≤ (SA.tries : Int) := by omega
          have g4 : (1 : Int) ≤ (SB.tries : Int) := by omega
          go_wp2_with fail
          go_ret
          exact ⟨rfl, HBZ.out⟩
end Go.Proofs.Ytclhgnhbmlkomaa
/-
  'CorrTight': the law answers true, whatever it is given: every input, no condition.
-/
namespace Go.Proofs.Ytclhgnhbmlkomaa.corrTight
open Go.ChangeShapes Go.WideShapes Go.ChangeAt Go.RowKit Go.Proofs.Ytclhgnhbmlkomaa
theorem own : ownKnob Try.prog.godebug = none := by kernel_rfl
theorem laidOut : laidOutB Try.prog = true := by kernel_rfl
theorem float_lt {b : Nat} (h : (Lit.float .f64 b).wf = true) : b < 18446744073709551616 := by simpa [Lit.wf] using h
theorem int_lo {n : Int} (h : (Lit.int .i64 n).wf = true) : -9223372036854775808 ≤ n ∧ n ≤ 9223372036854775807 := by
  have a : IntKind.i64.min = -9223372036854775808 := by decide
  have b : IntKind.i64.max = 9223372036854775807 := by decide
  simp only [Lit.wf, Bool.and_eq_true, decide_eq_true_eq] at h; omega
set_option maxRecDepth 100000 in
theorem lifted (os : Os) (started : os.Started) (H : Type) (enc : TypeId × Value → H) :
    ReturnsInHanded {} Try.checked os 11 .any (Rows.corrTightSpec.pre6 enc Try.prog Try.f11 Rows.corrTightRow.domain false) (Rows.corrTightSpec.post enc Try.prog Try.f11 false true false false) := by
  refine returnsInHanded_of_change (C := Try.checked) own started (by kernel_rfl) Try.func11
    (ChangeSpec.witness6 (enc := enc) (C := Try.checked) false ⟨#[], #[.int .i64 0, .slice none 0 0, .int .i64 0, .slice none 0 0, .int .i64 0, .int .i64 0], []⟩ 8 (by kernel_rfl) (by kernel_rfl) (by kernel_rfl) (by kernel_rfl)) ?_
  intro W base args ds gs before hval0 hW hcnd _
  have hval : ∀ (j : Nat) t v, Try.f11.params[j]? = some t → args[j]? = some v → Value.okWide Try.prog W .any base t v := hval0
  have hW' := hW
  obtain ⟨p, q, hA0, hV, rfl, hfz, hnd⟩ := hW
  have hA : DataW.TrodAll enc Try.prog W 0 (fun _ => true) true Try.f11.params.toList args.toList ds p := hA0
  rw [Try.params11] at hA hval
  obtain ⟨v0, vs0, d0, ds0, p0, q0, hargs, rfl, rfl, h0, r0⟩ := trodAll_cons hA
  obtain ⟨v1, vs1, d1, ds1, p1, q1, rfl, rfl, rfl, h1, r1⟩ := trodAll_cons r0
  obtain ⟨v2, vs2, d2, ds2, p2, q2, rfl, rfl, rfl, h2, r2⟩ := trodAll_cons r1
  obtain ⟨v3, vs3, d3, ds3, p3, q3, rfl, rfl, rfl, h3, r3⟩ := trodAll_cons r2
  obtain ⟨v4, vs4, d4, ds4, p4, q4, rfl, rfl, rfl, h4, r4⟩ := trodAll_cons r3
  obtain ⟨v5, vs5, d5, ds5, p5, q5, rfl, rfl, rfl, h5, r5⟩ := trodAll_cons r4
  obtain ⟨rfl, rfl, rfl⟩ := trodAll_nil r5
  obtain rfl : args = #[v0, v1, v2, v3, v4, v5] := by cases args; simp_all
  obtain ⟨rfl, rfl⟩ := trodVars_none hV
  obtain ⟨a0, rfl, rfl, rfl, w0⟩ := open_int Try.underlying3 (hval 0 3 v0 rfl rfl) h0
  have k1 := h1
  obtain ⟨zs1, z1⟩ := intr_of (hval 1 22 v1 rfl rfl) h1
  obtain ⟨a2, rfl, rfl, rfl, w2⟩ := open_int Try.underlying3 (hval 2 3 v2 rfl rfl) h2
  have k3 := h3
  obtain ⟨zs3, z3⟩ := intr_of (hval 3 22 v3 rfl rfl) h3
  obtain ⟨a4, rfl, rfl, rfl, w4⟩ := open_int Try.underlying3 (hval 4 3 v4 rfl rfl) h4
  obtain ⟨a5, rfl, rfl, rfl, w5⟩ := open_int Try.underlying3 (hval 5 3 v5 rfl rfl) h5
  clear hA0 hval0
  simp only [List.append_nil] at hW'
  refine (corrTight_any a0 v1 zs1 a2 v3 zs3 a4 a5 W (int_lo w0) z1 (int_lo w2) z3 (int_lo w4) (int_lo w5)).mono fun e W' ⟨he, hb⟩ => ?_
  subst he
  exact ⟨_, rfl, ⟨_, _, _, [], _, [], hW', (trodAll_cons_mk (shut_bool Try.underlying4 _) trodAll_mk0), (trodAll_cons_mk (shut_int Try.underlying3 w0) (trodAll_cons_mk (Below.trod laidOut (by kernel_rfl) (of_decide_eq_true (by kernel_rfl)) k1 hb (fun x hx => hW'.lt x (by simp [hx]))) (trodAll_cons_mk (shut_int Try.underlying3 w2) (trodAll_cons_mk (Below.trod laidOut (by kernel_rfl) (of_decide_eq_true (by kernel_rfl)) k3 hb (fun x hx => hW'.lt x (by simp [hx]))) (trodAll_cons_mk (shut_int Try.underlying3 w4) (trodAll_cons_mk (shut_int Try.underlying3 w5) trodAll_mk0)))))), rfl, hb.frame _, fun h => by cases h⟩⟩

theorem over : Rows.corrTightRow.holds Try.pinned (OpenSpec.ofChange Rows.corrTightSpec) :=
  OpenClaim.holds_of_wide 11 Try.f11 rfl rfl rfl rfl rfl rfl rfl ⟨rfl, rfl, rfl, rfl, rfl⟩ rfl rfl rfl rfl rfl (by kernel_rfl) Try.func11 (by kernel_rfl)
    (of_decide_eq_true (by kernel_rfl)) (by unfold Func.isWrapper; first | (rw [if_pos (by decide +kernel)]; kernel_rfl) | (rw [if_neg (by decide +kernel)]; exact ⟨rfl, rfl⟩))
    (fun os started H enc _ => lifted os started H enc)

theorem proved : Rows.CorrTightSaid :=
  over
#print axioms proved
end Go.Proofs.Ytclhgnhbmlkomaa.corrTight
