/-
  What a step adds: plain functions; the program's small ones, walked.
-/
import Derived.Test.YtnlbafjmbamoeaaJh
import Derived.Test.YtnlbafjmbamoeaaCrb
import Derived.Test.YtnlbafjmbamoeaaLig
namespace Go.Proofs.Ytnlbafjmbamoeaa
open Go.RowKit
open Ieee (double)
attribute [local go_sem] alloc_drewN setCell_drewN call_bits call_frombits ord_lt ord_eq ord_gt ord_ne ord_le ord_ge eqB_self run_fadd run_fsub run_fmul run_fquo haStoreFlt takeOp pureOp readsUpon doOp run_store_fn run_store_fc

/-- How long so many ticks are. -/
def lenF (t : Int) : Nat := cop .quo (FloatKind.f64.nearest t) 4742290407621132288
/-- Where a try is. -/
def atF (z0 d : Nat → Nat) (l0 : Nat) (i : Nat) : Nat := cop .add (z0 i) (cop .mul l0 (d i))
/-- What must be added for the slope to be the field's. -/
def slopeF (T : TD) (z0 z1 : Nat → Nat) (l0 h : Nat) (d : Nat → Nat) (i : Nat) : Nat := cop .sub (cop .mul h (evR T.op (atF z0 d l0) (T.out i).toNat)) (z1 i)
theorem atF_canon (w v : World) (a l b : Nat) : canon (fval .add w a (fval .mul v l b)) = cop .add a (cop .mul l b) := by
  rw [canon_fval, ← cop_canon_right, canon_fval]
theorem slopeF_canon (w v : World) (a h b : Nat) : canon (fval .sub w (fval .mul v h a) b) = cop .sub (cop .mul h a) b := by
  rw [canon_fval, ← cop_canon_left, canon_fval]
theorem length_tells (t : Int) (w : World) : Calls Try.prog 18 #[.int .i64 t] w (TellsF (lenF t) w) := by
  unfold lenF
  go_enter Try.func18, Try.ntmps18
  go_wp2_with fail
  go_ret
  exact TellsF.of
theorem rlength_tells (t : Int) (w : World) : Calls Try.prog 26 #[.int .i64 t] w (TellsF (lenF t) w) := by
  unfold lenF
  go_enter Try.func26, Try.ntmps26
  go_wp2_with fail
  go_ret
  exact TellsF.of
theorem step_bits : ∀ k, k < 43 → (1 : Int) ≤ 2 ^ k ∧ (2 : Int) ^ k ≤ 4398046511104 := by decide
theorem step_and : ∀ k, k < 43 → (bits BinOp.and IntKind.i64 ((2 ^ k : Nat) : Int) (((2 ^ k : Nat) : Int) - 1) == 0) = true := by decide
set_option maxRecDepth 100000 in
theorem pow2_tells (k : Nat) (hk : k < 43) (w : World) : Calls Try.prog 43 #[.int .i64 ((2 ^ k : Nat) : Int), .int .i64 4398046511104] w (Tells (.bool true) w) := by
  obtain ⟨h1, h2⟩ := step_bits k hk
  have h3 := step_and k hk
  go_enter Try.func43, Try.ntmps43
  generalize hp : ((2 ^ k : Nat) : Int) = p at *
  have h1' : 1 ≤ p := by rw [← hp]; simpa using h1
  have h2' : p ≤ 4398046511104 := by rw [← hp]; simpa using h2
  clear h1 h2
  go_wp2_with fail
  go_ret
  exact ⟨rfl, Below.refl _ _⟩
theorem isStep_tells (k : Nat) (hk : k < 43) (w : World) : Calls Try.prog 20 #[.int .i64 ((2 ^ k : Nat) : Int)] w (Tells (.bool true) w) := by
  have P := Lib.hid (pow2_tells k hk w)
  go_enter Try.func20, Try.ntmps20
  generalize ((2 ^ k : Nat) : Int) = p at *
  go_wp2_with fail
  refine P.out.mono ?_
  rintro e w1 ⟨rfl, hb⟩
  go_wp2_with fail
  go_ret
  exact ⟨rfl, hb⟩
set_option maxRecDepth 100000 in
set_option maxHeartbeats 2000000 in
theorem less_tells (va vb : Value) (n : Nat) (hn2 : n ≤ 1000) (f g : Nat → Nat) (w : World) (ha : FRow w va n f) (hb : FRow w vb n g) :
    Calls Try.prog 45 #[va, vb] w (OwnT n (fun i => cop .sub (f i) (g i)) w) := by
  obtain ⟨pa, ca, rfl, hn, har⟩ := ha
  obtain ⟨pb, cb, rfl, -, hbr⟩ := hb
  obtain ⟨iF, hF, f1, f2, f3⟩ := info_parts infoF
  have HF := Lib.hid (show iF.zero = _ ∧ iF.size = _ ∧ iF.bytes = _ from ⟨f1, f2, f3⟩)
  have HF0 := Lib.hid hF
  have HAR := Lib.hid har
  have HBR := Lib.hid hbr
  clear har hbr hF f1 f2 f3
  go_enter Try.func45, Try.ntmps45
  generalize hB : w.heap.size = B at *
  go_wp2_with (first
    | (refine wpList_make_full _ rfl _ _ _ rfl B 32 iF (.float .f64 0) 1 Try.underlying31 HF0.out HF.out.1 HF.out.2.1 .i64 .i64 (n : Int) (n : Int) n rfl rfl rfl rfl (by rw [HF.out.2.2]; omega) (by unfold maxLen; omega) (by omega) ?_)
    | fail)
  intro w2 hr1 hg1
  have hb2 : Below B w w2 := (Below.refl _ w).grown hg1 (by omega) (fun k hk => by cases hk)
  have HO := Lib.hid (ownF_made hr1)
  clear hr1 hg1
  go_wp2_with fail
  go_loopw [12] (fun i wr => ∃ (d : Nat) (h : Nat → Nat), d ≤ n ∧ i = .int .i64 d ∧ OwnF wr B B n n h ∧ (∀ k, k < d → h k = cop .sub (f k) (g k)) ∧ Below B w wr) (fun i _ => n - (intOf i).toNat)
  case atStart => exact ⟨0, _, by omega, rfl, HO.out, fun k hk => by omega, hb2⟩
  case round =>
    clear HO hb2
    obtain ⟨d, h, hd, rfl, ho, hh, hbl⟩ := hrel
    by_cases hdn : d < n
    · obtain ⟨b1, o1, rfl, hs1, hc1⟩ := HAR.out (by omega)
      obtain ⟨b2, o2, rfl, hs2, hc2⟩ := HBR.out (by omega)
      obtain ⟨y, y1, y2, y3⟩ := hc1 d hdn
      obtain ⟨z, z1, z2, z3⟩ := hc2 d hdn
      rw [← hbl.cell (p := ⟨b1, o1 + d, none⟩) hs1] at y1
      rw [← hbl.cell (p := ⟨b2, o2 + d, none⟩) hs2] at z1
      obtain ⟨u, u1, -, -⟩ := ho.cell hdn
      have r1 := ho.free d
      have K1 := Lib.hid (fun w => (show canon (fval .sub w y z) = cop .sub (f d) (g d) by rw [canon_fval, ← y2, ← z2, cop_canon_left, cop_canon_right]))
      have HO := Lib.hid ho
      have HH := Lib.hid hh
      have HBL := Lib.hid hbl
      have hd1 : (d : Int) < (n : Int) := by omega
      clear hc1 hc2 y2 z2 ho hh hbl
      go_wp2_with fail
      refine wp_region_ord [(0, 1), (1, 1), (2, 1), (3, 1), (4, 1), (5, 2), (6, 1), (7, 1), (8, 1), (9, 2), (10, 0), (11, 1), (12, 0)] (by kernel_rfl) (by kernel_rfl) (fun _ _ d _ _ h => by cases d <;> exact h) ?_
      intro Z hZ
      have hz : ∀ b o, Z.cell? ⟨b, o, none⟩ = wr.cell? ⟨b, o, none⟩ := fun b o => by rw [hZ]; rfl
      have hz2 : ∀ b o, Z.frozen? ⟨b, o, none⟩ = wr.frozen? ⟨b, o, none⟩ := fun b o => by rw [hZ]; rfl
      have HZ := Lib.hid (show OwnF Z B B n n h ∧ Below B w Z by rw [hZ]; exact ⟨HO.out.drew, HBL.out.drew⟩)
      rw [← hz] at y1 z1 u1
      rw [← hz2] at r1
      clear hZ hz hz2 HO HBL
      iterate 10
        first
          | refine wpOrd_pure (fun K hK => ?_)
          | refine wpOrd_take (fun K hK => ?_)
        go_simp
        refine hK _ ?_
        clear hK K
      refine wpOrd_do (fun K hK => ?_)
      go_simp
      refine hK _ _ (fun _ => ⟨_, rfl⟩) ?_
      clear hK K
      iterate 1
        first
          | refine wpOrd_pure (fun K hK => ?_)
          | refine wpOrd_take (fun K hK => ?_)
        go_simp
        refine hK _ ?_
        clear hK K
      refine wpOrd_do (fun K hK => ?_)
      go_simp
      refine hK _ _ (fun h => Bool.noConfusion (Eq.trans (Eq.symm (by kernel_rfl : _ = false)) h)) ?_
      clear hK K
      refine wpOrd_nil ?_
      have REL := Lib.hid (show OwnF _ B B n n (updN h d (cop .sub (f d) (g d))) ∧ Below B w _ from ⟨(HZ.out.1.set hdn (K1.out Z) (fval_lt _ _ _ _)).drewN (ndraw .sub y z), below_drewN (HZ.out.2.setCell (p := ⟨B, d, none⟩) (Nat.le_refl _) (.float .f64 (fval .sub Z y z))) (ndraw .sub y z)⟩)
      go_wp2_with fail
      go_roundw
      case rel => exact ⟨d + 1, _, by omega, by go_num, REL.out.1, fun k hk => by
        by_cases hkd : k = d
        · subst hkd; rw [updN_at]
        · rw [updN_ne _ _ hkd]; exact HH.out k (by omega), REL.out.2⟩
      case measure => simp [intOf]; omega
    · obtain rfl : n = d := by omega
      go_wp2_with fail
      go_ret
      exact ⟨_, rfl, by rw [hB]; exact ho.congr hh, by rw [hB]; exact hbl⟩
set_option maxRecDepth 100000 in
set_option maxHeartbeats 2000000 in
theorem allfin_tells (va : Value) (n : Nat) (f : Nat → Nat) (w : World) (ha : FRow w va n f) :
    Calls Try.prog 24 #[va] w (Tells (.bool (allB n fun i => finB (f i))) w) := by
  obtain ⟨pa, ca, rfl, hn, har⟩ := ha
  have HAR := Lib.hid har
  clear har
  go_enter Try.func24, Try.ntmps24
  go_wp2_with fail
  go_loopw [7] (fun i wr => ∃ d : Nat, d ≤ n ∧ i = .int .i64 d ∧ allB d (fun i => finB (f i)) = true ∧ Below w.heap.size w wr) (fun i _ => n - (intOf i).toNat)
  case atStart => exact ⟨0, by omega, rfl, rfl, Below.refl _ _⟩
  case round =>
    obtain ⟨d, hd, rfl, hh, hbl⟩ := hrel
    by_cases hdn : d < n
    · obtain ⟨b1, o1, rfl, hs1, hc1⟩ := HAR.out (by omega)
      obtain ⟨y, y1, y2, y3⟩ := hc1 d hdn
      rw [← hbl.cell (p := ⟨b1, o1 + d, none⟩) hs1] at y1
      have HH := Lib.hid hh
      have HBL := Lib.hid hbl
      have HY := Lib.hid (show finB y = finB (f d) by rw [← y2, finB_canon])
      have hd1 : (d : Int) < (n : Int) := by omega
      clear hc1 y2 hh hbl
      go_wp2_with fail
      refine (finite_tells y _).mono ?_
      rintro e w1 ⟨rfl, hb1⟩
      have HB1 := Lib.hid (HBL.out.trans (hb1.mono HBL.out.size))
      clear hb1
      cases hf : finB y with
      | true =>
        have h2 : allB (d + 1) (fun i => finB (f i)) = true := by rw [allB, HH.out, ← HY.out, hf]; rfl
        have H2 := Lib.hid h2
        clear h2
        go_wp2_with fail
        go_roundw
        case rel => exact ⟨d + 1, by omega, by go_num, H2.out, HB1.out⟩
        case measure => simp [intOf]; omega
      | false =>
        have h2 : allB n (fun i => finB (f i)) = false := allB_no hdn (by rw [← HY.out]; exact hf)
        have H2 := Lib.hid h2
        clear h2
        go_wp2_with fail
        go_ret
        exact ⟨ret_bool H2.out.symm, HB1.out⟩
    · obtain rfl : n = d := by omega
      have HH := Lib.hid hh
      clear hh
      go_wp2_with fail
      go_ret
      exact ⟨ret_bool HH.out.symm, hbl⟩
end Go.Proofs.Ytnlbafjmbamoeaa
