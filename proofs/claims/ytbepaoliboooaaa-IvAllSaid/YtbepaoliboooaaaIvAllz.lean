/-
  'IvAll': whatever it is given.
-/
import Derived.Test.YtbepaoliboooaaaIvAll0
import Derived.Test.YtbepaoliboooaaaIvAll1
namespace Go.Proofs.Ytbepaoliboooaaa
open Go.RowKit Ex
theorem ivAll_any (a0 a1 : Nat) (a2 a3 a4 a5 a6 a7 : Int) (w : World) (h0 : a0 < 18446744073709551616) (h1 : a1 < 18446744073709551616) (_h2 : -9223372036854775808 ≤ a2 ∧ a2 ≤ 9223372036854775807) (_h3 : -9223372036854775808 ≤ a3 ∧ a3 ≤ 9223372036854775807) (_h4 : -9223372036854775808 ≤ a4 ∧ a4 ≤ 9223372036854775807) (_h5 : -9223372036854775808 ≤ a5 ∧ a5 ≤ 9223372036854775807) (_h6 : -9223372036854775808 ≤ a6 ∧ a6 ≤ 9223372036854775807) (_h7 : -9223372036854775808 ≤ a7 ∧ a7 ≤ 9223372036854775807) :
    Calls Try.prog 3 #[.float .f64 a0, .float .f64 a1, .int .i64 a2, .int .i64 a3, .int .i64 a4, .int .i64 a5, .int .i64 a6, .int .i64 a7] w fun e w' => e = .returned (.bool true) ∧ Below w.heap.size w w' := by
  have main : ∀ g, GamOK (adV [.f a0, .f a1, .i a2, .i a3, .i a4, .i a5, .i a6, .i a7] mkX) g → lawRunA g = true → Calls Try.prog 3 #[.float .f64 a0, .float .f64 a1, .int .i64 a2, .int .i64 a3, .int .i64 a4, .int .i64 a5, .int .i64 a6, .int .i64 a7] w fun e w' => e = .returned (.bool true) ∧ Below w.heap.size w w' := fun g hg hr => by
    refine run_drive mixed namesAll (ds := [.f a0, .f a1, .i a2, .i a3, .i a4, .i a5, .i a6, .i a7]) (xf := mkX) hg (ctrA_ok (adM_ok _)) (nx0 := 10) (k := 10) (fuel := 1000000) (n := 100) (by simp) (vs := #[.float .f64 a0, .float .f64 a1, .int .i64 a2, .int .i64 a3, .int .i64 a4, .int .i64 a5, .int .i64 a6, .int .i64 a7]) ⟨⟨rfl, h0⟩, ⟨rfl, h1⟩, rfl, rfl, rfl, rfl, rfl, rfl, trivial⟩ fun ks hk => ?_
    simp only [List.map_cons, List.map_nil, AD.kind, shapes, shapes1, List.flatMap_cons, List.flatMap_nil, List.append_nil, List.mem_cons, List.not_mem_nil, or_false] at hk
    subst hk
    exact hr
  have hM := adM_ok [.f a0, .f a1, .i a2, .i a3, .i a4, .i a5, .i a6, .i a7]
  have hG := gam_cf hM.toStdV (allF_ok hM)
  generalize adV [.f a0, .f a1, .i a2, .i a3, .i a4, .i a5, .i a6, .i a7] mkX = Z at *
  have cons : ∀ b0 b1 b2 b3, evB Z c0 = b0 → evB Z c1 = b1 → evB Z c2 = b2 → evB Z c3 = b3 → GamOK Z (gOf b0 b1 b2 b3) := fun b0 b1 b2 b3 e0 e1 e2 e3 => gam_cons (gam_cons (gam_cons (gam_cons hG e0) e1) e2) e3
  cases e0 : evB Z c0 <;> cases e1 : evB Z c1 <;> cases e2 : evB Z c2 <;> cases e3 : evB Z c3
  · exact main _ (cons _ _ _ _ e0 e1 e2 e3) all_fffn
  · cases e4 : evB Z c4
    · exact main _ (gam_cons (cons _ _ _ _ e0 e1 e2 e3) e4) all_ffff
    · exact main _ (gam_cons (cons _ _ _ _ e0 e1 e2 e3) e4) all_ffft
  · exact main _ (cons _ _ _ _ e0 e1 e2 e3) all_fftn
  · cases e4 : evB Z c4
    · exact main _ (gam_cons (cons _ _ _ _ e0 e1 e2 e3) e4) all_fftf
    · exact main _ (gam_cons (cons _ _ _ _ e0 e1 e2 e3) e4) all_fftt
  · exact main _ (cons _ _ _ _ e0 e1 e2 e3) all_ftfn
  · cases e4 : evB Z c4
    · exact main _ (gam_cons (cons _ _ _ _ e0 e1 e2 e3) e4) all_ftff
    · exact main _ (gam_cons (cons _ _ _ _ e0 e1 e2 e3) e4) all_ftft
  · exact main _ (cons _ _ _ _ e0 e1 e2 e3) all_fttn
  · cases e4 : evB Z c4
    · exact main _ (gam_cons (cons _ _ _ _ e0 e1 e2 e3) e4) all_fttf
    · exact main _ (gam_cons (cons _ _ _ _ e0 e1 e2 e3) e4) all_fttt
  · exact main _ (cons _ _ _ _ e0 e1 e2 e3) all_tffn
  · cases e4 : evB Z c4
    · exact main _ (gam_cons (cons _ _ _ _ e0 e1 e2 e3) e4) all_tfff
    · exact main _ (gam_cons (cons _ _ _ _ e0 e1 e2 e3) e4) all_tfft
  · exact main _ (cons _ _ _ _ e0 e1 e2 e3) all_tftn
  · cases e4 : evB Z c4
    · exact main _ (gam_cons (cons _ _ _ _ e0 e1 e2 e3) e4) all_tftf
    · exact main _ (gam_cons (cons _ _ _ _ e0 e1 e2 e3) e4) all_tftt
  · exact main _ (cons _ _ _ _ e0 e1 e2 e3) all_ttfn
  · cases e4 : evB Z c4
    · exact main _ (gam_cons (cons _ _ _ _ e0 e1 e2 e3) e4) all_ttff
    · exact main _ (gam_cons (cons _ _ _ _ e0 e1 e2 e3) e4) all_ttft
  · exact main _ (cons _ _ _ _ e0 e1 e2 e3) all_tttn
  · cases e4 : evB Z c4
    · exact main _ (gam_cons (cons _ _ _ _ e0 e1 e2 e3) e4) all_tttf
    · exact main _ (gam_cons (cons _ _ _ _ e0 e1 e2 e3) e4) all_tttt
end Go.Proofs.Ytbepaoliboooaaa
