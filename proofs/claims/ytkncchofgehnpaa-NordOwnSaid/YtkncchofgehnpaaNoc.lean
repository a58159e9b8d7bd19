/-
  Rows of derivatives: laws of whichever numbers, by runs for each shape: what all of them need.
-/
import Derived.Test.YtkncchofgehnpaaExt
import Derived.Test.YtkncchofgehnpaaNoa
namespace Go.Proofs.Ytkncchofgehnpaa
open Go.RowKit Ex
theorem within8_any : ∀ (a n : Int) (w : World), 1 ≤ n → n ≤ 9223372036854775807 → Calls Try.prog 14 #[.int .i64 a, .int .i64 n] w fun e w' => e = .returned (.int .i64 (a % n)) ∧ Below w.heap.size w w' := within_run mixed namesAll within1 within2
set_option maxRecDepth 1000000 in
set_option maxHeartbeats 100000000 in
theorem known8 : good (xcall Try.prog (ctr []) [] 1000000 40 13 [] .nil 0) = true := by kernel_rfl
def ctrS (t : Tab) : Ctr := ctrOf [(13, pureC knownF), (60, pureC ldexpS), (35, pureC sameF), (14, pureC (withinS t))]
theorem ctrS_ok {V : Val} (hV : StdV V) {t : Tab} (ht : TabOK V t) : CtrOK Try.prog V (ctrS t) :=
  ctr_cons (known_holds known8) (ctr_cons (ldexpS_holds hV fun x k w hx h1 h2 => mldexp_any x k w hx h1 h2) (ctr_cons (same_holds hV same_any) (ctr_cons (withinS_holds hV within8_any ht) ctr_nil)))
/-- Each shape: an order, a count. -/
theorem fifteen {p : Nat → Nat → Prop} (h0 : ∀ k, k < 3 → p 0 k) (h1 : ∀ k, k < 3 → p 1 k) (h2 : ∀ k, k < 3 → p 2 k) (h3 : ∀ k, k < 3 → p 3 k) (h4 : ∀ k, k < 3 → p 4 k) : ∀ q, q < 5 → ∀ k, k < 3 → p q k := by
  intro q hq
  match q, hq with
  | 0, _ => exact h0
  | 1, _ => exact h1
  | 2, _ => exact h2
  | 3, _ => exact h3
  | 4, _ => exact h4
  | n + 5, h => omega
theorem three {p : Nat → Prop} (h0 : p 0) (h1 : p 1) (h2 : p 2) : ∀ k, k < 3 → p k := by
  intro k hk
  match k, hk with
  | 0, _ => exact h0
  | 1, _ => exact h1
  | 2, _ => exact h2
  | n + 3, h => omega
noncomputable def ownRun (x : SV) (q k : Nat) : Bool := good (xcall Try.prog (ctrS [(0, 5, q), (1, 3, k)]) [] 1000000 40 8 [.c (.ei .i64 (.vi 0)), .c (.ei .i64 (.vi 1)), x, .c (.ei .i64 (.vi 2))] .nil 10)
theorem nordOwn_of (hq0 : ∀ q, q < 5 → ∀ k, k < 3 → ownRun (.c .q0) q k = true) (hqi : ∀ q, q < 5 → ∀ k, k < 3 → ownRun (.c (.qi 0 0)) q k = true) (a b : Int) (v : Value) (zs : List Int) (c : Int) (w : World) (hz : Ints w v zs) :
    Calls Try.prog 8 #[.int .i64 a, .int .i64 b, v, .int .i64 c] w fun e w' => e = .returned (.bool true) ∧ Below w.heap.size w w' := by
  obtain ⟨q, hq, h1⟩ := emod_cases a 5 (by decide)
  obtain ⟨k, hk, h2⟩ := emod_cases b 3 (by decide)
  have hV := stdV_ok (fun i => if i = 0 then a else if i = 1 then b else c) (fun _ => 0) (arr1 zs)
  generalize hVe : stdV (fun i => if i = 0 then a else if i = 1 then b else c) (fun _ => 0) (arr1 zs) = V at hV
  have hi : V.i = fun i => if i = 0 then a else if i = 1 then b else c := by rw [← hVe]; rfl
  have ha : V.arr = arr1 zs := by rw [← hVe]; rfl
  have ht : TabOK V [(0, ((5 : Nat) : Int), (q : Int)), (1, ((3 : Nat) : Int), (k : Int))] := tab2 (by rw [hi]; exact h1) (by rw [hi]; exact h2)
  rcases ints_arg hz with ⟨o, cp, rfl⟩ | ⟨bb, off, hv⟩
  · exact run_lawI mixed namesAll gam_nil (ctrS_ok hV ht) (hq0 q hq k hk) (ρ := fun _ => none) (fun _ _ => rfl) (vs := #[.int .i64 a, .int .i64 b, .slice o 0 cp, .int .i64 c]) ⟨by simp [VR, CR, evI, hi], by simp [VR, CR, evI, hi], ⟨o, cp, rfl⟩, by simp [VR, CR, evI, hi], trivial⟩ (fun _ _ _ h => by cases h)
  · obtain ⟨hv1, hv2⟩ := hv V ha
    exact run_lawI mixed namesAll gam_nil (ctrS_ok hV ht) (hqi q hq k hk) (ρ := rho1 bb off) (fun b hb => by unfold rho1; rw [if_neg (by omega)]) (vs := #[.int .i64 a, .int .i64 b, v, .int .i64 c]) ⟨by simp [VR, CR, evI, hi], by simp [VR, CR, evI, hi], hv1, by simp [VR, CR, evI, hi], trivial⟩ hv2
end Go.Proofs.Ytkncchofgehnpaa
