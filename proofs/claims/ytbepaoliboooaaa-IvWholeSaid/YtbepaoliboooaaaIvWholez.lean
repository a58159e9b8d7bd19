/-
  'IvWhole': whatever it is given.
-/
import Derived.Test.YtbepaoliboooaaaIvx
namespace Go.Proofs.Ytbepaoliboooaaa
open Go.RowKit Ex
def wholeF : List Cf := [([], .fc .eql (hw 20 0) (.lf NI), true), ([], .fc .eql (hw 20 1) (.lf PI), true), ([], .fc .eql (wh 21 0) (.lf NI), true), ([], .fc .eql (wh 21 1) (.lf PI), true),
  ([], .fc .eql (.tf (.fc .lss (.lf NI) (ma 0)) (.lf NI) (ma 0)) (.lf NI), true), ([], .fc .eql (.tf (.fc .lss (ma 1) (.lf PI)) (.lf PI) (ma 1)) (.lf PI), true), ([], .fc .leq (.lf NI) (ma 0), true), ([], .fc .leq (ma 1) (.lf PI), true),
  ([(.fc .leq (ma 0) (.lf 0), false)], .fc .eql (wh 23 0) (.lf NI), true), ([(.fc .leq (ma 0) (.lf 0), false)], .fc .eql (wh 23 1) (.lf PI), true), ([(.fc .leq (ma 0) (.lf 0), false)], .fc .eql (wh 22 0) (.lf NI), true), ([(.fc .leq (ma 0) (.lf 0), false)], .fc .eql (wh 22 1) (.lf PI), true),
  ([(.fc .leq (.lf 0) (ma 1), false)], .fc .eql (wh 23 0) (.lf NI), true), ([(.fc .leq (.lf 0) (ma 1), false)], .fc .eql (wh 23 1) (.lf PI), true), ([(.fc .leq (.lf 0) (ma 1), false)], .fc .eql (wh 22 0) (.lf NI), true), ([(.fc .leq (.lf 0) (ma 1), false)], .fc .eql (wh 22 1) (.lf PI), true)]
theorem wholeF_ok {V : Val} (hM : MkV V) : CfOK V wholeF := by
  obtain ⟨a, b, ha, hb, h⟩ := ev_ma hM
  obtain ⟨w1, w2, w3, w4⟩ := mid_whole h
  have e1 : eqB NI NI = true := by decide
  have e2 : eqB PI PI = true := by decide
  intro f hf hcond
  simp only [wholeF, List.mem_cons, List.not_mem_nil, or_false] at hf
  rcases hf with rfl | rfl | rfl | rfl | rfl | rfl | rfl | rfl | rfl | rfl | rfl | rfl | rfl | rfl | rfl | rfl <;> simp only [List.mem_cons, List.not_mem_nil, or_false, forall_eq, false_implies, implies_true] at hcond <;> simp only [ev_eql, ev_tf, ev_lf, ev_lss, ev_leq, wh, hw, ev20 hM, ev21 hM, ev22 hM, ev23 hM, ha, hb] at hcond ⊢
  · rw [addP_whole h]; exact e1
  · rw [addP_whole h]; exact e2
  · rw [subP_whole h]; exact e1
  · rw [subP_whole h]; exact e2
  · rw [w1]; exact e1
  · rw [w2]; exact e2
  · exact w3
  · exact w4
  · rw [divP_whole2 h fun q => by rw [hcond] at q; cases q]; exact e1
  · rw [divP_whole2 h fun q => by rw [hcond] at q; cases q]; exact e2
  · rw [mulP_whole2 h fun q => by rw [hcond] at q; cases q]; exact e1
  · rw [mulP_whole2 h fun q => by rw [hcond] at q; cases q]; exact e2
  · rw [divP_whole2 h fun _ => hcond]; exact e1
  · rw [divP_whole2 h fun _ => hcond]; exact e2
  · rw [mulP_whole2 h fun _ => hcond]; exact e1
  · rw [mulP_whole2 h fun _ => hcond]; exact e2
set_option maxRecDepth 1000000 in
set_option maxHeartbeats 100000000 in
theorem ivWhole_run : lawRun 13 10 40 [.i, .i, .i] wholeF = true := by kernel_rfl
theorem ivWhole_any (a0 a1 a2 : Int) (w : World) (_h0 : -9223372036854775808 ≤ a0 ∧ a0 ≤ 9223372036854775807) (_h1 : -9223372036854775808 ≤ a1 ∧ a1 ≤ 9223372036854775807) (_h2 : -9223372036854775808 ≤ a2 ∧ a2 ≤ 9223372036854775807) :
    Calls Try.prog 13 #[.int .i64 a0, .int .i64 a1, .int .i64 a2] w fun e w' => e = .returned (.bool true) ∧ Below w.heap.size w w' := by
  refine law_of (ds := [.i a0, .i a1, .i a2]) (nx0 := 10) (k := 40) (by simp) (wholeF_ok (adM_ok _)) (vs := #[.int .i64 a0, .int .i64 a1, .int .i64 a2]) ⟨rfl, rfl, rfl, trivial⟩ fun ks hk => ?_
  simp only [List.map_cons, List.map_nil, AD.kind, shapes, shapes1, List.flatMap_cons, List.flatMap_nil, List.append_nil, List.mem_cons, List.not_mem_nil, or_false] at hk
  subst hk
  exact ivWhole_run
end Go.Proofs.Ytbepaoliboooaaa
