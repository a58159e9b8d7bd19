/-
  Numbers that the laws of tapes make.
-/
import Derived.Test.YticbgaflhiokgaaTpn
import Derived.Test.YticbgaflhiokgaaHv
import Derived.Test.YticbgaflhiokgaaGl
import Derived.Maps.AppendAt
namespace Go.Proofs.Yticbgaflhiokgaa
open Go.RowKit
open Ieee (double)
attribute [local go_sem] alloc_drewN setCell_drewN call_bits call_frombits ord_lt ord_eq ord_gt ord_ne ord_le ord_ge eqB_self run_fadd run_fsub run_fmul run_fquo haStoreFlt

def c8 (x : Int) : Nat := cop .quo (floatOfInt .f64 x) 4620693217682128896
theorem c8_num : ∀ i : Fin 65, isN (c8 ((i.val : Int) - 32)) = false := by decide +kernel
theorem c8_val {x : Int} (h1 : -32 ≤ x) (h2 : x ≤ 32) : (∀ w, fval .quo w (floatOfInt .f64 x) 4620693217682128896 = c8 x) ∧ ndraw .quo (floatOfInt .f64 x) 4620693217682128896 = 0 ∧ canon (c8 x) = c8 x ∧ c8 x < 18446744073709551616 := by
  have h := c8_num ⟨(x + 32).toNat, by omega⟩
  have e : (((x + 32).toNat : Nat) : Int) - 32 = x := by omega
  simp only [e] at h
  exact ⟨(fval_num h).1, (fval_num h).2, canon_cop _ _ _, cop_lt _ _ _⟩
/-- The i-th of these, another one if there are not so many. -/
def nth (zs : List Int) (d : Int) (i : Nat) : Int := if i < zs.length then zs.getD i 0 else d
def valV (zs : List Int) (i : Nat) : Nat := c8 (nth zs i i % 65 - 32)
theorem Ints.read {w : World} {v : Value} {zs : List Int} (h : Ints w v zs) : ∃ a cap, v = .slice a zs.length cap ∧ zs.length ≤ 9223372036854775807 ∧ (0 < zs.length → ∃ b off, a = some ⟨b, off, none⟩ ∧ b < w.heap.size ∧ ∀ i, i < zs.length → w.cell? ⟨b, off + i, none⟩ = some (.int .i64 (zs.getD i 0))) := by
  rcases h with ⟨o, cap, rfl, rfl⟩ | ⟨b, off, cap, rfl, hbs, hl, hc⟩
  · exact ⟨o, cap, rfl, by simp, fun h => by simp at h⟩
  · exact ⟨_, cap, rfl, hl, fun _ => ⟨b, off, rfl, hbs, hc⟩⟩
theorem ints_below {w w' : World} {v : Value} {zs : List Int} (h : Ints w v zs) (hb : Below w.heap.size w w') : Ints w' v zs := by
  rcases h with h | ⟨b, off, cap, rfl, hbs, hl, hc⟩
  · exact .inl h
  · exact .inr ⟨b, off, cap, rfl, Nat.lt_of_lt_of_le hbs hb.size, hl, fun i hi => ((haCell hb).1 _ _ hbs).trans (hc i hi)⟩
set_option maxRecDepth 100000 in
set_option maxHeartbeats 1000000 in
theorem values_tells (n : Nat) (v : Value) (zs : List Int) (w : World) (h : Ints w v zs) (h1 : 1 ≤ n) (h8 : n ≤ 8) :
    Calls Try.prog 19 #[.int .i64 n, v] w fun e w' => ∃ R cap, e = .returned (.slice (some ⟨R, 0, none⟩) n cap) ∧ OwnF w' w.heap.size R n cap (valV zs) ∧ Below w.heap.size w w' := by
  obtain ⟨a, cap0, rfl, hl, hr⟩ := h.read
  obtain ⟨iF, hF, f1, f2, f3⟩ := info_parts infoF
  have HF := Lib.hid (show iF.zero = _ ∧ iF.size = _ ∧ iF.bytes = _ from ⟨f1, f2, f3⟩)
  have HF0 := Lib.hid hF
  have HR := Lib.hid hr
  clear hF f1 f2 f3 hr h
  go_enter Try.func19, Try.ntmps19
  generalize hB : w.heap.size = B at *
  go_wp2_with fail
  go_loopw [5, 6] (fun vr i wr => ∃ (j : Nat) (qs : List Value), j ≤ n ∧ i = .int .i64 j ∧ wr.ownsRow B 30 1 vr j qs ∧ FVals qs j (valV zs) ∧ Below B w wr) (fun _ i _ => n - (intOf i).toNat)
  case atStart => exact ⟨0, [], by omega, rfl, World.ownsRow_nil _ _ _ _, FVals.nil _ _, Below.refl _ _⟩
  case round =>
    obtain ⟨j, qs, hj, rfl, ho, hq, hbl⟩ := hrel
    obtain ⟨va, vcap, rfl⟩ := own_slice1 ho
    by_cases hlt : j < n
    · have HQ := Lib.hid hq
      have hsz := hbl.size
      have hrow : valV zs j = c8 (nth zs j j % 65 - 32) := rfl
      have HROW := Lib.hid hrow
      clear hq hrow
      by_cases hz : j < zs.length
      · obtain ⟨b, off, rfl, hbs, hc⟩ := HR.out (by omega)
        have d1 := hc j hz
        rw [← show wr.cell? ⟨b, off + j, none⟩ = w.cell? ⟨b, off + j, none⟩ from hbl.cell (p := ⟨b, off + j, none⟩) hbs] at d1
        have hnth : nth zs j j = zs.getD j 0 := if_pos hz
        generalize zs.getD j 0 = u at *
        have HN := Lib.hid hnth
        clear hc hnth
        go_wp2_with fail
        refine (within3_mod u 65 _ (by decide) (by decide)).mono ?_
        rintro e w' ⟨rfl, rfl⟩
        have b1 := Int.emod_nonneg u (show (65 : Int) ≠ 0 by decide)
        have b2 := Int.emod_lt_of_pos u (show (0 : Int) < 65 by decide)
        have HU := Lib.hid (show valV zs j = c8 (u % 65 - 32) by rw [HROW.out, HN.out])
        generalize u % 65 = t at *
        obtain ⟨k1, k2, k3, k4⟩ := c8_val (x := t - 32) (by omega) (by omega)
        have HK := Lib.hid k3
        have HO := Lib.hid ho
        clear k3 ho HN HROW
        generalize c8 (t - 32) = y at *
        go_wp2_with (first
          | (at_builtin; refine wpList_append_own_at _ rfl _ _ 35 rfl B 30 iF (.float .f64 0) 1 8 Try.underlying35 HF0.out HF.out.1 HF.out.2.1 HF.out.2.2 rfl (by decide) (.slice va j vcap) j qs rfl (own_drewN (HO.out.alloc _) _) ⟨wr.heap.size, 0, none⟩ 1 1 [.float .f64 y] rfl rfl (news1 wr (.float .f64 y) 30 _) (by simp [Value.oneCell']) (by unfold maxLen; omega) (by omega) (size_alloc _ _ _ (by omega)) ?_)
          | go_in)
        intro v' w2 hown' hgrow _ _
        have hb2 : Below B wr w2 := (below_drew ((Below.refl B wr).alloc (by omega) _) 0).trans (below_grown (own_drewN (HO.out.alloc _) 0) (Nat.le_refl _) (size_alloc _ _ _ (by omega)) hgrow)
        have hql := HO.out.1
        have hq' := HQ.out.app (by omega) (HK.out.trans HU.out.symm) k4
        have HQ' := Lib.hid hq'
        have HO' := Lib.hid hown'
        clear hq' hown' hgrow k1 k2
        go_wp2_with fail
        go_roundw
        case rel => exact ⟨j + 1, _, by omega, by go_num, HO'.out, HQ'.out, hbl.trans hb2⟩
        case measure => simp [intOf]; omega
      · have hnth : nth zs j j = (j : Int) := if_neg hz
        have HN := Lib.hid hnth
        clear hnth
        go_wp2_with fail
        refine (within3_mod (j : Int) 65 _ (by decide) (by decide)).mono ?_
        rintro e w' ⟨rfl, rfl⟩
        have b1 := Int.emod_nonneg (j : Int) (show (65 : Int) ≠ 0 by decide)
        have b2 := Int.emod_lt_of_pos (j : Int) (show (0 : Int) < 65 by decide)
        have HU := Lib.hid (show valV zs j = c8 ((j : Int) % 65 - 32) by rw [HROW.out, HN.out])
        generalize (j : Int) % 65 = t at *
        obtain ⟨k1, k2, k3, k4⟩ := c8_val (x := t - 32) (by omega) (by omega)
        have HK := Lib.hid k3
        have HO := Lib.hid ho
        clear k3 ho HN HROW
        generalize c8 (t - 32) = y at *
        go_wp2_with (first
          | (at_builtin; refine wpList_append_own_at _ rfl _ _ 35 rfl B 30 iF (.float .f64 0) 1 8 Try.underlying35 HF0.out HF.out.1 HF.out.2.1 HF.out.2.2 rfl (by decide) (.slice va j vcap) j qs rfl (own_drewN (HO.out.alloc _) _) ⟨wr.heap.size, 0, none⟩ 1 1 [.float .f64 y] rfl rfl (news1 wr (.float .f64 y) 30 _) (by simp [Value.oneCell']) (by unfold maxLen; omega) (by omega) (size_alloc _ _ _ (by omega)) ?_)
          | go_in)
        intro v' w2 hown' hgrow _ _
        have hb2 : Below B wr w2 := (below_drew ((Below.refl B wr).alloc (by omega) _) 0).trans (below_grown (own_drewN (HO.out.alloc _) 0) (Nat.le_refl _) (size_alloc _ _ _ (by omega)) hgrow)
        have hql := HO.out.1
        have hq' := HQ.out.app (by omega) (HK.out.trans HU.out.symm) k4
        have HQ' := Lib.hid hq'
        have HO' := Lib.hid hown'
        clear hq' hown' hgrow k1 k2
        go_wp2_with fail
        go_roundw
        case rel => exact ⟨j + 1, _, by omega, by go_num, HO'.out, HQ'.out, hbl.trans hb2⟩
        case measure => simp [intOf]; omega
    · obtain rfl : j = n := by omega
      obtain ⟨R, cap, hv, hO⟩ := hq.own ho (by omega)
      simp only [Value.slice.injEq] at hv
      obtain ⟨rfl, -, rfl⟩ := hv
      have HO := Lib.hid hO
      clear hO ho hq
      go_wp2_with fail
      go_ret
      exact ⟨R, vcap, rfl, HO.out, hbl⟩
end Go.Proofs.Yticbgaflhiokgaa
