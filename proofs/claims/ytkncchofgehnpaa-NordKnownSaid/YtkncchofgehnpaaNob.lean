/-
  Rows of derivatives: rows that are known.
-/
import Derived.Test.YtkncchofgehnpaaNoa
namespace Go.Proofs.Ytkncchofgehnpaa
open Go.RowKit Ex

set_option maxRecDepth 1000000 in
set_option maxHeartbeats 100000000 in
theorem nord_runs : (List.range 4).all (fun k => good (xcall Try.prog (ctr [(0, 4, k)]) [] 1000000 40 10 [.c (.ei .i64 (.vi 0))] .nil 0)) = true := by kernel_rfl
theorem nordKnown_any (a : Int) (w : World) (_h : -9223372036854775808 ≤ a ∧ a ≤ 9223372036854775807) : Calls Try.prog 10 #[.int .i64 a] w fun e w' => e = .returned (.bool true) ∧ Below w.heap.size w w' := by
  obtain ⟨k, hk, he⟩ := emod_cases a 4 (by decide)
  have hr := List.all_eq_true.1 nord_runs k (List.mem_range.2 hk)
  exact law_run (V := V3 a 0 0) (tab1 he) hr (vs := #[.int .i64 a]) ⟨rfl, trivial⟩ w
end Go.Proofs.Ytkncchofgehnpaa
