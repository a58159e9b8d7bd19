/-
  Rows of equations, walked: whether they stand, copied, the best row.
-/
import Derived.Test.YtnlbafjmbamoeaaHlp
import Derived.StillTailTactics
import Derived.Deep.QuietTactic
import Derived.BigQuiet
import Derived.RegionTactic
namespace Go.Proofs.Ytnlbafjmbamoeaa
open Go.RowKit
open Ieee (double)
attribute [local go_sem] alloc_drewN setCell_drewN call_bits call_frombits ord_lt ord_eq ord_gt ord_ne ord_le ord_ge eqB_self run_fadd run_fsub run_fmul run_fquo haStoreFlt

set_option maxHeartbeats 1000000 in
theorem even_true (v : Value) (n k : Nat) (m : Nat → Nat) (f : Nat → Nat → Nat) (w : World) (h : TabR w v n m f) (hk : ∀ i, i < n → m i = k) :
    Calls Try.prog 42 #[v, .int .i64 k] w fun e w' => e = .returned (.bool true) ∧ w = w' := by
  obtain ⟨a, cap, rfl, hn, hr⟩ := h
  have HR := Lib.hid hr
  have HK := Lib.hid hk
  clear hr hk
  go_enter Try.func42, Try.ntmps42
  go_wp2_with fail
  go_loop [9] (fun i => ∃ j : Nat, j ≤ n ∧ i = .int .i64 j) (fun i => n - (intOf i).toNat)
  case atStart => exact ⟨0, by omega, rfl⟩
  case round =>
    obtain ⟨j, hj, rfl⟩ := hrel
    by_cases hlt : j < n
    · obtain ⟨b, off, rfl, hbs, hc⟩ := HR.out (by omega)
      obtain ⟨u, hu, a2, cap2, rfl, hu2, -⟩ := hc j hlt
      have e1 := HK.out j hlt
      rw [e1] at hu hu2
      clear hc e1
      have hne : ((k : Int) != k) = false := by simp
      go_wp2_with fail
      go_round
      case rel => exact ⟨j + 1, by omega, by go_num⟩
      case measure => simp [intOf]; omega
    · go_wp2_with fail
      go_ret
      exact ⟨rfl, rfl⟩
theorem stands_true (v : Value) (n : Nat) (f : Nat → Nat → Nat) (w : World) (h : TabR w v n (fun _ => n) f) (h1 : 1 ≤ n) (h8 : n ≤ 8) :
    Calls Try.prog 65 #[v] w fun e w' => e = .returned (.bool true) ∧ w = w' := by
  have h0 := h
  obtain ⟨a, cap, rfl, hn, hr⟩ := h0
  clear hr
  have E := Lib.hid (fun W (hW : TabR W (.slice a n cap) n (fun _ => n) f) => even_true (.slice a n cap) n n (fun _ => n) f W hW (fun _ _ => rfl))
  have H := Lib.hid h
  clear h
  go_enter Try.func65, Try.ntmps65
  go_wp2_with fail
  refine (E.out _ H.out).mono ?_
  rintro e w' ⟨rfl, rfl⟩
  go_wp2_with fail
  go_ret
  exact ⟨rfl, rfl⟩
end Go.Proofs.Ytnlbafjmbamoeaa
