/-
  The law of many whole numbers, walked.
-/
import Derived.Test.YtjeahlknhcbiiaaFpg
import Derived.ChangeSlices
namespace Go.Proofs.Ytjeahlknhcbiiaa
open Go.RowKit
open Ieee (double)
attribute [local go_sem] alloc_drewN setCell_drewN call_bits call_frombits ord_lt ord_eq ord_gt ord_ne ord_le ord_ge eqB_self run_fadd run_fsub run_fmul run_fquo call_fma run_fneg

/-- A slice that reads as these whole numbers. -/
def Ints (w : World) (v : Value) (zs : List Int) : Prop :=
  (∃ o cap, v = .slice o 0 cap ∧ zs = []) ∨ ∃ b off cap, v = .slice (some ⟨b, off, none⟩) zs.length cap ∧ b < w.heap.size ∧ zs.length ≤ 9223372036854775807 ∧ (∀ i, i < zs.length → w.cell? ⟨b, off + i, none⟩ = some (.int .i64 (zs.getD i 0)))

theorem many_step {S : Nat} {p L T q : Int} (W : World) (hS : Is S p 0) (hsum : p + L = T) (hL : -640 ≤ L ∧ L ≤ 640) (hT : -180143985094820480 ≤ T ∧ T ≤ 180143985094820480) (h1 : -4503599627370496 < q) (h2 : q < 4503599627370496) :
    Calls Try.prog 27 #[.float .f64 S, .float .f64 (floatOfInt .f64 q)] W fun e w' => ∃ x y n M D, e = .returned (.tuple #[.float .f64 x, .float .f64 y]) ∧ w' = W.drewN n ∧ Is x M 0 ∧ Is y D 0 ∧ M + D = p + q ∧ -16 ≤ D ∧ D ≤ 16 := by
  have he := rn_err (m := p + q) 58 (by omega)
  have e2 : ((2 ^ (58 - 53) : Nat) : Int) = 32 := by decide
  rw [e2] at he
  refine (twoSum_is W hS (is_ofInt (n := q) (by omega) (by omega)) (by omega) (by omega) (by decide) (by omega) (by omega) (by omega) (by omega)).mono ?_
  rintro e w' ⟨x, y, n, he1, hw, hx, hy⟩
  exact ⟨x, y, n, _, _, he1, hw, hx, hy, by omega, by omega, by omega⟩

set_option maxRecDepth 100000 in
set_option maxHeartbeats 2000000 in
theorem fpMany_walk (v : Value) (zs : List Int) (w : World) (h : Ints w v zs) :
    Calls Try.prog 13 #[v] w fun e w' => e = .returned (.bool true) ∧ Below w.heap.size w w' := by
  rcases h with ⟨o, cap, rfl, rfl⟩ | ⟨b, off, cap, rfl, hbs, hlen, hcell⟩
  · have hk := fun w => conv_is zero_is (by decide) (by decide) w
    go_enter Try.func13, Try.ntmps13
    go_wp2_with (go_at_call 14; refine (known_any _).mono ?_; rintro e w' ⟨d0, rfl, rfl⟩)
    refine wp_loop_rounds 1 ?_
    rw [rounds_succ]
    go_wp2_with fail
    go_ret
    exact ⟨rfl, below_drew (Below.refl _ _) _⟩
  · generalize zs.length = len at *
    have HC := Lib.hid hcell
    clear hcell
    have hk := fun w => conv_is zero_is (by decide) (by decide) w
    go_enter Try.func13, Try.ntmps13
    go_wp2_with (go_at_call 14; refine (known_any _).mono ?_; rintro e w' ⟨d0, rfl, rfl⟩)
    go_loopw [3, 4, 5, 6] (fun s l t i wr => ∃ (j : Nat) (S : Nat) (p L T : Int) (n : Nat), j ≤ 40 ∧ j ≤ len ∧ i = .int .i64 j ∧ s = .float .f64 S ∧ Is S p 0 ∧ l = .int .i64 L ∧ t = .int .i64 T ∧ p + L = T ∧ -(j * 16 : Int) ≤ L ∧ L ≤ j * 16 ∧ -(j * 4503599627370496 : Int) ≤ T ∧ T ≤ j * 4503599627370496 ∧ wr = w.drewN n) (fun _ _ _ i _ => 40 - (intOf i).toNat)
    case atStart => exact ⟨0, 0, 0, 0, 0, d0, by omega, by omega, rfl, rfl, zero_is, rfl, rfl, rfl, by omega, by omega, by omega, by omega, rfl⟩
    case round =>
      obtain ⟨j, S, p, L, T, n, hj, hjl, rfl, rfl, hS, rfl, rfl, hsum, hL1, hL2, hT1, hT2, rfl⟩ := hrel
      by_cases hlt : j < len
      · by_cases h40 : j < 40
        · have hcl := HC.out j hlt
          generalize zs.getD j 0 = z at *
          have HS := Lib.hid hS
          have HSum := Lib.hid hsum
          clear hS hsum
          have STEP := Lib.hid (fun q W h1 h2 => many_step (q := q) W HS.out (L := L) (T := T) HSum.out (by omega) (by omega) h1 h2)
          go_wp2_with fail
          refine (within_range _ _ _ (by decide) (by decide)).mono ?_
          rintro e w' ⟨k, rfl, hk1, hk2, rfl⟩
          by_cases h3 : j % 3 = 2
          · have c3 : (((j : Int) % 3) == 2) = true := by simp; omega
            have c3' : (j : Int) % 3 = 2 := by omega
            have C3 := Lib.hid c3'
            clear c3'
            go_wp2_with fail
            refine (STEP.out (-k) _ (by omega) (by omega)).mono ?_
            rintro e w' ⟨x, y, n', M, D, rfl, rfl, hx, hy, hMD, hD1, hD2⟩
            have k2 := conv_is hy (by omega) (by omega)
            have HX := Lib.hid hx
            have HMD := Lib.hid hMD
            clear hx hy hMD h3 C3
            go_wp2_with fail
            go_roundw
            case rel => exact ⟨j + 1, x, M, L + D, T + -k, _, by omega, by omega, by go_num, rfl, HX.out, by go_num, by go_num, by have := HMD.out; have := HSum.out; omega, by omega, by omega, by omega, by omega, rfl⟩
            case measure => simp [intOf]; omega
          · have c3 : (((j : Int) % 3) == 2) = false := by simp; omega
            have c3' : ¬ (j : Int) % 3 = 2 := by omega
            clear h3
            go_wp2_with fail
            refine (STEP.out k _ (by omega) (by omega)).mono ?_
            rintro e w' ⟨x, y, n', M, D, rfl, rfl, hx, hy, hMD, hD1, hD2⟩
            have k2 := conv_is hy (by omega) (by omega)
            have HX := Lib.hid hx
            have HMD := Lib.hid hMD
            clear hx hy hMD
            go_wp2_with fail
            go_roundw
            case rel => exact ⟨j + 1, x, M, L + D, T + k, _, by omega, by omega, by go_num, rfl, HX.out, by go_num, by go_num, by have := HMD.out; have := HSum.out; omega, by omega, by omega, by omega, by omega, rfl⟩
            case measure => simp [intOf]; omega
        · obtain rfl : j = 40 := by omega
          have k2 := conv_is hS (by omega) (by omega)
          have k3 : (p + L == T) = true := by simp; exact hsum
          have b1 : -180143985094820480 ≤ p := by omega
          have b2 : p ≤ 180143985094820480 := by omega
          clear hS hsum
          go_wp2_with fail
          go_ret
          exact ⟨rfl, below_drew (Below.refl _ _) _⟩
      · obtain rfl : j = len := by omega
        have k2 := conv_is hS (by omega) (by omega)
        have k3 : (p + L == T) = true := by simp; exact hsum
        have b1 : -180143985094820480 ≤ p := by omega
        have b2 : p ≤ 180143985094820480 := by omega
        clear hS hsum
        go_wp2_with fail
        go_ret
        exact ⟨rfl, below_drew (Below.refl _ _) _⟩

open Go.ChangeShapes Go.WideShapes in
theorem ints_of {H : Type} {enc : TypeId × Value → H} {W : World} {v : Value} {d : DataW H} {ps : List MemPlace} {base : Nat}
    (hv : Value.okWide Try.prog W .any base 43 v) (h : DataW.Trod enc Try.prog W 0 (fun _ => true) true 43 v d ps) : ∃ zs, Ints W v zs := by
  have hc : Try.prog.cellsOf 3 = 1 := by kernel_rfl
  obtain ⟨a0, len, cap, rfl⟩ := okWide_slice Try.underlying43 hv
  obtain ⟨fuel, hf⟩ := h
  rcases open_ints Try.underlying43 Try.underlying3 hc hf with ⟨hcs, _⟩ | ⟨a, len', cap', zs, hcs, _, hl, hm, hz, _, hcell, _⟩
  · simp [Value.cells] at hcs
    obtain ⟨rfl, rfl, rfl⟩ := hcs
    exact ⟨[], .inl ⟨none, 0, rfl, rfl⟩⟩
  · simp [Value.cells] at hcs
    obtain ⟨rfl, rfl, rfl⟩ := hcs
    simp only [if_true] at hz
    by_cases h0 : len = 0
    · subst h0; exact ⟨[], .inl ⟨_, _, rfl, rfl⟩⟩
    · obtain ⟨b, off, spot⟩ := a
      have hspot : spot = none := by simpa [Addr.add] using World.cell?_spot (hcell 0 (by omega))
      subst hspot
      have hlen : (zs.take len).length = len := by simp; omega
      refine ⟨zs.take len, .inr ⟨b, off, cap, by rw [hlen], ?_, ?_, ?_⟩⟩
      · have h0 := hcell 0 (by omega)
        rcases Nat.lt_or_ge b W.heap.size with g | g
        · exact g
        · exfalso
          have : W.heap[b]? = none := Array.getElem?_eq_none g
          simp [World.cell?, Addr.add, this] at h0
      · rw [hlen]; unfold maxLen at hm; omega
      · intro i hi
        rw [hlen] at hi
        rw [← add_plain, hcell i (by omega)]
        simp [List.getD, hi]

end Go.Proofs.Ytjeahlknhcbiiaa
