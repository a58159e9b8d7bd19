/-
  The best row, walked.
-/
import Derived.Test.YtnlbafjmbamoeaaLib
import Derived.Test.YtnlbafjmbamoeaaReg
import Derived.Deep.RegionHeld3
namespace Go.Proofs.Ytnlbafjmbamoeaa
open Go.RowKit
open Ieee (double)
attribute [local go_sem] alloc_drewN setCell_drewN call_bits call_frombits ord_lt ord_eq ord_gt ord_ne ord_le ord_ge eqB_self run_fadd run_fsub run_fmul run_fquo haStoreFlt

theorem absQ (x : Nat) (w : World) (hx : x < 18446744073709551616) : Calls Try.prog 38 #[.float .f64 x] w fun e w' => e = .returned (.float .f64 (ab x)) ∧ w' = w :=
  (abs_any x w hx).mono fun _ _ ⟨h1, h2⟩ => ⟨h1, h2.symm⟩
set_option maxHeartbeats 1000000 in
set_option maxRecDepth 100000 in
theorem pivot_tells (n k : Nat) (v : Value) (f : Nat → Nat → Nat) (w : World) (h : TabR w v n (fun _ => n) f) (hk : k < n) (h8 : n ≤ 8) :
    Calls Try.prog 67 #[v, .int .i64 k] w (Tells (.int .i64 (pivF f k (n - 1 - k) : Nat)) w) := by
  obtain ⟨a, cap, rfl, hn, hr⟩ := h
  obtain ⟨b, off, rfl, hbs, hc⟩ := hr (by omega)
  have HC := Lib.hid hc
  clear hr hc
  go_enter Try.func67, Try.ntmps67
  go_wp2_with fail
  go_loopw [5, 6] (fun p i wr => ∃ (j : Nat), k < j ∧ j ≤ n ∧ i = .int .i64 j ∧ p = .int .i64 (pivF f k (j - 1 - k) : Nat) ∧ Below w.heap.size w wr) (fun _ i _ => n - (intOf i).toNat)
  case atStart => exact ⟨k + 1, by omega, by omega, by go_num, by rw [show k + 1 - 1 - k = 0 by omega]; rfl, Below.refl _ _⟩
  case round =>
    obtain ⟨j, hkj, hjn, rfl, rfl, hbw⟩ := hrel
    have hcw : ∀ p o, p < w.heap.size → wr.cell? ⟨p, o, none⟩ = w.cell? ⟨p, o, none⟩ := (haCell hbw).1
    have hp := pivF_le f k (j - 1 - k)
    by_cases hlt : j < n
    · have e1 : j + 1 - 1 - k = j - 1 - k + 1 := by omega
      have e2 : k + 1 + (j - 1 - k) = j := by omega
      obtain ⟨u1, hu1, c1, cap1, rfl, hl1, hu3⟩ := HC.out j hlt
      obtain ⟨u2, hu2, c2, cap2, rfl, hl2, hu4⟩ := HC.out (pivF f k (j - 1 - k)) (by omega)
      obtain ⟨b1, o1, rfl, hs1, hf1⟩ := hu3 (by omega)
      obtain ⟨b2, o2, rfl, hs2, hf2⟩ := hu4 (by omega)
      obtain ⟨x, x1, x2, x3⟩ := hf1 k hk
      obtain ⟨y, y1, y2, y3⟩ := hf2 k hk
      rw [← hcw _ _ hs1] at x1
      rw [← hcw _ _ hs2] at y1
      rw [← hcw _ _ hbs] at hu1 hu2
      have E := Lib.hid (ltB_ab y2 x2)
      have P1 := Lib.hid (show pivF f k (j + 1 - 1 - k) = if ltB (ab (f (pivF f k (j - 1 - k)) k)) (ab (f j k)) then j else pivF f k (j - 1 - k) by rw [e1, pivF, e2])
      generalize hpe : pivF f k (j - 1 - k) = p at *
      have HPe := Lib.hid hpe
      clear hf1 hf2 hu3 hu4 hpe x2 y2 hcw e1 e2
      have hpn : p < n := by omega
      go_wp2_with fail
      go_quiet ((go_at_call 38; exact Calls.quiet_of_same (absQ _ _ (by assumption))))
      have hE := E.out
      cases hb : ltB (ab y) (ab x) with
      | false =>
        rw [hb] at hE
        have Q1 := Lib.hid (show pivF f k (j + 1 - 1 - k) = _ by rw [P1.out, ← hE])
        clear P1 hE
        go_wp2_with fail
        go_roundw
        case rel => exact ⟨j + 1, by omega, by omega, by go_num, by rw [Q1.out]; rfl, below_drew hbw _⟩
        case measure => simp [intOf]; omega
      | true =>
        rw [hb] at hE
        have Q1 := Lib.hid (show pivF f k (j + 1 - 1 - k) = _ by rw [P1.out, ← hE])
        clear P1 hE
        go_wp2_with fail
        go_roundw
        case rel => exact ⟨j + 1, by omega, by omega, by go_num, by rw [Q1.out]; rfl, below_drew hbw _⟩
        case measure => simp [intOf]; omega
    · go_wp2_with fail
      go_ret
      have : j = n := by omega
      subst this
      exact ⟨rfl, hbw⟩
end Go.Proofs.Ytnlbafjmbamoeaa
