/-
  'IvWider': whatever it is given.
-/
import Derived.Test.YtbepaoliboooaaaIvx
import Derived.Test.YtbepaoliboooaaaIvw
namespace Go.Proofs.Ytbepaoliboooaaa
open Go.RowKit Ex
def w1E : E := .i2f (.ai 9 0 (.ci (.vi 6) (.ci (.li 9) .n0)))
def w2E : E := .i2f (.ai 9 0 (.ci (.ib .quo .i64 (.vi 6) (.li 9)) (.ci (.li 9) .n0)))
def loE : E := .fb .sub (ma 0) w1E
def hiE : E := .fb .add (mb 1) w2E
def wid (o j : Nat) : E := .af o j (f4 loE (ma 1) (mb 0) hiE)
def widerF : List Cf := [([], .fc .leq (wid 20 0) (two 20 0), true), ([], .fc .leq (two 20 1) (wid 20 1), true), ([], .fc .leq (wid 21 0) (two 21 0), true), ([], .fc .leq (two 21 1) (wid 21 1), true), ([], .fc .leq (wid 22 0) (two 22 0), true), ([], .fc .leq (two 22 1) (wid 22 1), true), ([], .fc .leq (wid 23 0) (two 23 0), true), ([], .fc .leq (two 23 1) (wid 23 1), true),
  ([], .fc .leq (.tf (.fc .lss (mb 0) (ma 0)) (mb 0) (ma 0)) (ma 0), true), ([], .fc .leq (ma 1) (.tf (.fc .lss (ma 1) (mb 1)) (mb 1) (ma 1)), true), ([], .fc .leq (.tf (.fc .lss (mb 0) (ma 0)) (mb 0) (ma 0)) (mb 0), true), ([], .fc .leq (mb 1) (.tf (.fc .lss (ma 1) (mb 1)) (mb 1) (ma 1)), true),
  ([], .fc .leq (.fb .sub (mg (ma 0) (ma 1)) w1E) (mg loE (ma 1)), true)]
theorem ev_w {V : Val} (hV : StdV V) (e : E) : ∃ n : Int, evF V (.i2f (.ai 9 0 (.ci e (.ci (.li 9) .n0)))) = floatOfInt .f64 n ∧ 0 ≤ n ∧ n < 9 := by
  refine ⟨evI V e % 9, ?_, Int.emod_nonneg _ (by decide), Int.emod_lt_of_pos _ (by decide)⟩
  show i2fV (V.fi 9 0 _) = _
  rw [hV.i _ _ _ (by decide)]; rfl
theorem pick_le {x y : Nat} (h1 : isN x = false) (h2 : isN y = false) : leB (bif ltB x y then x else y) y = true ∧ leB (bif ltB x y then x else y) x = true := by
  rw [ltB_of h1 h2]
  by_cases h : key x < key y
  · rw [decide_eq_true h]; simp only [cond_true]; rw [leB_of h1 h2, leB_of h1 h1]; simp only [decide_eq_true_eq]; omega
  · rw [decide_eq_false h]; simp only [cond_false]; rw [leB_of h2 h2, leB_of h2 h1]; simp only [decide_eq_true_eq]; omega
theorem pick_ge {x y : Nat} (h1 : isN x = false) (h2 : isN y = false) : leB x (bif ltB x y then y else x) = true ∧ leB y (bif ltB x y then y else x) = true := by
  rw [ltB_of h1 h2]
  by_cases h : key x < key y
  · rw [decide_eq_true h]; simp only [cond_true]; rw [leB_of h1 h2, leB_of h2 h2]; simp only [decide_eq_true_eq]; omega
  · rw [decide_eq_false h]; simp only [cond_false]; rw [leB_of h1 h1, leB_of h2 h1]; simp only [decide_eq_true_eq]; omega
theorem widerF_ok {Z : Val} (hM : MkV Z) : CfOK Z widerF := by
  have hV := hM.toIvV.toStdV
  obtain ⟨a, b, ha, hb, h⟩ := ev_ma hM
  obtain ⟨c, d, hc, hd, g⟩ := ev_mb hM
  obtain ⟨n, hn, n0, n9⟩ := ev_w hV (.vi 6)
  obtain ⟨m, hm, m0, m9⟩ := ev_w hV (.ib .quo .i64 (.vi 6) (.li 9))
  have hn' : evF Z w1E = floatOfInt .f64 n := hn
  have hm' : evF Z w2E = floatOfInt .f64 m := hm
  have iw := int_at (n := n) (by omega) (by omega)
  have iv := int_at (n := m) (by omega) (by omega)
  have hfo := h.fo
  have gfo := g.fo
  obtain ⟨x1, x2, hx1, hx2, hx3, hx4, hx5⟩ := h
  obtain ⟨y1, y2, hy1, hy2, hy3, hy4, hy5⟩ := g
  obtain ⟨lo, il, hl1, hl2⟩ := sub_down' hx1 iw (by omega) (by omega) (by omega)
  obtain ⟨hi, ih, hh1, hh2⟩ := add_up' hy2 iv (by omega) (by omega) (by omega)
  have kl := (il.le_of hx1).1 hl1
  have kh := (hy2.le_of ih).1 hh1
  have h' : Fo (cop .sub a (floatOfInt .f64 n)) b := ⟨il.fin, hfo.b, by have := hfo.o; omega⟩
  have g' : Fo c (cop .add d (floatOfInt .f64 m)) := ⟨gfo.a, ih.fin, by have := gfo.o; omega⟩
  have hlo : evF Z loE = cop .sub a (floatOfInt .f64 n) := by unfold loE; rw [ev_sub, ha, hn']
  have hhi : evF Z hiE = cop .add d (floatOfInt .f64 m) := by unfold hiE; rw [ev_add, hd, hm']
  have A := wide_add hfo gfo h' g' kl (Int.le_refl _) (Int.le_refl _) kh
  have S := wide_sub hfo gfo h' g' kl (Int.le_refl _) (Int.le_refl _) kh
  have M := wide_mul hfo gfo h' g' kl (Int.le_refl _) (Int.le_refl _) kh
  have D := wide_div hfo gfo h' g' kl (Int.le_refl _) (Int.le_refl _) kh
  have na := (key_fin hfo.a).2.2
  have nb := (key_fin hfo.b).2.2
  have nc := (key_fin gfo.a).2.2
  have nd := (key_fin gfo.b).2.2
  have nl := (key_fin h'.a).2.2
  intro f hf _
  simp only [widerF, List.mem_cons, List.not_mem_nil, or_false] at hf
  rcases hf with rfl | rfl | rfl | rfl | rfl | rfl | rfl | rfl | rfl | rfl | rfl | rfl | rfl <;> simp only [ev_leq, ev_tf, ev_sub, ev_lss, two, wid, mg, ev20 hM, ev21 hM, ev22 hM, ev23 hM, ev33 hM, ha, hb, hc, hd, hlo, hhi, hn']
  · exact A.1
  · exact A.2
  · exact S.1
  · exact S.2
  · exact M.1
  · exact M.2
  · exact D.1
  · exact D.2
  · exact (pick_le nc na).1
  · exact (pick_ge nb nd).1
  · exact (pick_le nc na).2
  · exact (pick_ge nb nd).2
  · rw [canon_num na, canon_num nb, canon_num nl]
    obtain ⟨p1, p2, p3, p4, p5⟩ := mag_key na nb
    obtain ⟨q1, q2, -, -, -⟩ := mag_key nl nb
    obtain ⟨s1, s2, -⟩ := sub_val (mag_fin hfo.a hfo.b) iw.fin
    rw [leB_of s1 q1, s2]
    simp only [decide_eq_true_eq]
    have w0 : 0 ≤ V (floatOfInt .f64 n) := by
      rw [iw.2.2.2]; exact Int.mul_nonneg (by omega) (Int.natCast_nonneg _)
    have := RK_mono (-1074) (show V (magB a b) - V (floatOfInt .f64 n) ≤ V (magB a b) by omega)
    rw [RK_V (Nat.le_of_lt (mag_fin hfo.a hfo.b))] at this
    have ho := hfo.o
    rw [q2]; rw [p2] at this
    omega
set_option maxRecDepth 1000000 in
set_option maxHeartbeats 100000000 in
theorem ivWider_run : lawRun 5 10 40 [.i, .i, .i, .i, .i, .i, .i] widerF = true := by kernel_rfl
theorem ivWider_any (a0 a1 a2 a3 a4 a5 a6 : Int) (w : World) (_h0 : -9223372036854775808 ≤ a0 ∧ a0 ≤ 9223372036854775807) (_h1 : -9223372036854775808 ≤ a1 ∧ a1 ≤ 9223372036854775807) (_h2 : -9223372036854775808 ≤ a2 ∧ a2 ≤ 9223372036854775807) (_h3 : -9223372036854775808 ≤ a3 ∧ a3 ≤ 9223372036854775807) (_h4 : -9223372036854775808 ≤ a4 ∧ a4 ≤ 9223372036854775807) (_h5 : -9223372036854775808 ≤ a5 ∧ a5 ≤ 9223372036854775807) (_h6 : -9223372036854775808 ≤ a6 ∧ a6 ≤ 9223372036854775807) :
    Calls Try.prog 5 #[.int .i64 a0, .int .i64 a1, .int .i64 a2, .int .i64 a3, .int .i64 a4, .int .i64 a5, .int .i64 a6] w fun e w' => e = .returned (.bool true) ∧ Below w.heap.size w w' := by
  refine law_of (ds := [.i a0, .i a1, .i a2, .i a3, .i a4, .i a5, .i a6]) (nx0 := 10) (k := 40) (by simp) (widerF_ok (adM_ok _)) (vs := #[.int .i64 a0, .int .i64 a1, .int .i64 a2, .int .i64 a3, .int .i64 a4, .int .i64 a5, .int .i64 a6]) ⟨rfl, rfl, rfl, rfl, rfl, rfl, rfl, trivial⟩ fun ks hk => ?_
  simp only [List.map_cons, List.map_nil, AD.kind, shapes, shapes1, List.flatMap_cons, List.flatMap_nil, List.append_nil, List.mem_cons, List.not_mem_nil, or_false] at hk
  subst hk
  exact ivWider_run
end Go.Proofs.Ytbepaoliboooaaa
