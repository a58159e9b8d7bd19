/-
  'IvMags': whatever it is given.
-/
import Derived.Test.YtbepaoliboooaaaIvx
namespace Go.Proofs.Ytbepaoliboooaaa
open Go.RowKit Ex
def magA : E := mg (ma 0) (ma 1)
def magC : E := mg (mb 0) (mb 1)
def magsF : List Cf := [([], .fc .leq magA magA, true), ([], .fc .leq magC magC, true), ([], .fc .leq (mg (two 20 0) (two 20 1)) (.af 20 1 (f4 magA magA magC magC)), true), ([], .fc .leq (mg (two 21 0) (two 21 1)) (.af 20 1 (f4 magA magA magC magC)), true),
  ([], .fc .leq (mg (two 22 0) (two 22 1)) (.af 22 1 (f4 magA magA magC magC)), true), ([], .fc .leq (.lf 0) magA, true)]
theorem magsF_ok {V : Val} (hM : MkV V) : CfOK V magsF := by
  obtain ⟨a, b, ha, hb, h⟩ := ev_ma hM
  obtain ⟨c, d, hc, hd, g⟩ := ev_mb hM
  obtain ⟨n1, n2, -, -⟩ := h.ends
  obtain ⟨n3, n4, -, -⟩ := g.ends
  obtain ⟨m1, m2, m3, m4, m5⟩ := mag_key n1 n2
  obtain ⟨k1, k2, k3, k4, k5⟩ := mag_key n3 n4
  have hA : evF V magA = magB a b := by unfold magA mg; rw [ev33 hM, ha, hb, canon_num n1, canon_num n2]
  have hC : evF V magC = magB c d := by unfold magC mg; rw [ev33 hM, hc, hd, canon_num n3, canon_num n4]
  have z : key 0 = 0 := by decide
  have o1 : isN (addP a b c d).1 = false := (outP_num _ _).1
  have o2 : isN (addP a b c d).2 = false := (outP_num _ _).2
  have o3 : isN (subP a b c d).1 = false := (outP_num _ _).1
  have o4 : isN (subP a b c d).2 = false := (outP_num _ _).2
  have o5 : isN (mulP a b c d).1 = false := (aroundP_num _ _ _ _).1
  have o6 : isN (mulP a b c d).2 = false := (aroundP_num _ _ _ _).2
  intro f hf _
  simp only [magsF, List.mem_cons, List.not_mem_nil, or_false] at hf
  rcases hf with rfl | rfl | rfl | rfl | rfl | rfl <;> simp only [ev_leq, ev_lf, two, mg, ev33 hM, ev20 hM, ev21 hM, ev22 hM, ha, hb, hc, hd, hA, hC]
  · rw [leB_of m1 m1]; simp
  · rw [leB_of k1 k1]; simp
  · rw [canon_num o1, canon_num o2]; exact mags_add h g
  · rw [canon_num o3, canon_num o4]; exact mags_sub h g
  · rw [canon_num o5, canon_num o6]; exact mags_mul h g
  · rw [leB_of (by decide) m1, z]; simpa using m5
set_option maxRecDepth 1000000 in
set_option maxHeartbeats 100000000 in
theorem ivMags_run : lawRun 12 10 40 [.i, .i, .i, .i, .i, .i] magsF = true := by kernel_rfl
theorem ivMags_any (a0 a1 a2 a3 a4 a5 : Int) (w : World) (_h0 : -9223372036854775808 ≤ a0 ∧ a0 ≤ 9223372036854775807) (_h1 : -9223372036854775808 ≤ a1 ∧ a1 ≤ 9223372036854775807) (_h2 : -9223372036854775808 ≤ a2 ∧ a2 ≤ 9223372036854775807) (_h3 : -9223372036854775808 ≤ a3 ∧ a3 ≤ 9223372036854775807) (_h4 : -9223372036854775808 ≤ a4 ∧ a4 ≤ 9223372036854775807) (_h5 : -9223372036854775808 ≤ a5 ∧ a5 ≤ 9223372036854775807) :
    Calls Try.prog 12 #[.int .i64 a0, .int .i64 a1, .int .i64 a2, .int .i64 a3, .int .i64 a4, .int .i64 a5] w fun e w' => e = .returned (.bool true) ∧ Below w.heap.size w w' := by
  refine law_of (ds := [.i a0, .i a1, .i a2, .i a3, .i a4, .i a5]) (nx0 := 10) (k := 40) (by simp) (magsF_ok (adM_ok _)) (vs := #[.int .i64 a0, .int .i64 a1, .int .i64 a2, .int .i64 a3, .int .i64 a4, .int .i64 a5]) ⟨rfl, rfl, rfl, rfl, rfl, rfl, trivial⟩ fun ks hk => ?_
  simp only [List.map_cons, List.map_nil, AD.kind, shapes, shapes1, List.flatMap_cons, List.flatMap_nil, List.append_nil, List.mem_cons, List.not_mem_nil, or_false] at hk
  subst hk
  exact ivMags_run
end Go.Proofs.Ytbepaoliboooaaa
