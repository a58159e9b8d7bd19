/-
  'IvExp': whatever it is given.
-/
import Derived.Test.YtbepaoliboooaaaIvExpa
import Derived.Test.YtbepaoliboooaaaIvExp0
import Derived.Test.YtbepaoliboooaaaIvExp1
import Derived.Test.YtbepaoliboooaaaIvExp2
import Derived.Test.YtbepaoliboooaaaIvExp3
namespace Go.Proofs.Ytbepaoliboooaaa
open Go.RowKit Ex
theorem chk_all {n : Int} (h1 : -2000 ≤ n) (h2 : n < 2000) : chk n = true := by
  by_cases g20 : n < 0
  · by_cases g10 : n < -1000
    · by_cases g5 : n < -1500
      · by_cases g2 : n < -1800
        · by_cases g1 : n < -1900
          · exact chkN_ok chk_0 n (by omega) (by omega)
          · exact chkN_ok chk_1 n (by omega) (by omega)
        · by_cases g3 : n < -1700
          · exact chkN_ok chk_2 n (by omega) (by omega)
          · by_cases g4 : n < -1600
            · exact chkN_ok chk_3 n (by omega) (by omega)
            · exact chkN_ok chk_4 n (by omega) (by omega)
      · by_cases g7 : n < -1300
        · by_cases g6 : n < -1400
          · exact chkN_ok chk_5 n (by omega) (by omega)
          · exact chkN_ok chk_6 n (by omega) (by omega)
        · by_cases g8 : n < -1200
          · exact chkN_ok chk_7 n (by omega) (by omega)
          · by_cases g9 : n < -1100
            · exact chkN_ok chk_8 n (by omega) (by omega)
            · exact chkN_ok chk_9 n (by omega) (by omega)
    · by_cases g15 : n < -500
      · by_cases g12 : n < -800
        · by_cases g11 : n < -900
          · exact chkN_ok chk_10 n (by omega) (by omega)
          · exact chkN_ok chk_11 n (by omega) (by omega)
        · by_cases g13 : n < -700
          · exact chkN_ok chk_12 n (by omega) (by omega)
          · by_cases g14 : n < -600
            · exact chkN_ok chk_13 n (by omega) (by omega)
            · exact chkN_ok chk_14 n (by omega) (by omega)
      · by_cases g17 : n < -300
        · by_cases g16 : n < -400
          · exact chkN_ok chk_15 n (by omega) (by omega)
          · exact chkN_ok chk_16 n (by omega) (by omega)
        · by_cases g18 : n < -200
          · exact chkN_ok chk_17 n (by omega) (by omega)
          · by_cases g19 : n < -100
            · exact chkN_ok chk_18 n (by omega) (by omega)
            · exact chkN_ok chk_19 n (by omega) (by omega)
  · by_cases g30 : n < 1000
    · by_cases g25 : n < 500
      · by_cases g22 : n < 200
        · by_cases g21 : n < 100
          · exact chkN_ok chk_20 n (by omega) (by omega)
          · exact chkN_ok chk_21 n (by omega) (by omega)
        · by_cases g23 : n < 300
          · exact chkN_ok chk_22 n (by omega) (by omega)
          · by_cases g24 : n < 400
            · exact chkN_ok chk_23 n (by omega) (by omega)
            · exact chkN_ok chk_24 n (by omega) (by omega)
      · by_cases g27 : n < 700
        · by_cases g26 : n < 600
          · exact chkN_ok chk_25 n (by omega) (by omega)
          · exact chkN_ok chk_26 n (by omega) (by omega)
        · by_cases g28 : n < 800
          · exact chkN_ok chk_27 n (by omega) (by omega)
          · by_cases g29 : n < 900
            · exact chkN_ok chk_28 n (by omega) (by omega)
            · exact chkN_ok chk_29 n (by omega) (by omega)
    · by_cases g35 : n < 1500
      · by_cases g32 : n < 1200
        · by_cases g31 : n < 1100
          · exact chkN_ok chk_30 n (by omega) (by omega)
          · exact chkN_ok chk_31 n (by omega) (by omega)
        · by_cases g33 : n < 1300
          · exact chkN_ok chk_32 n (by omega) (by omega)
          · by_cases g34 : n < 1400
            · exact chkN_ok chk_33 n (by omega) (by omega)
            · exact chkN_ok chk_34 n (by omega) (by omega)
      · by_cases g37 : n < 1700
        · by_cases g36 : n < 1600
          · exact chkN_ok chk_35 n (by omega) (by omega)
          · exact chkN_ok chk_36 n (by omega) (by omega)
        · by_cases g38 : n < 1800
          · exact chkN_ok chk_37 n (by omega) (by omega)
          · by_cases g39 : n < 1900
            · exact chkN_ok chk_38 n (by omega) (by omega)
            · exact chkN_ok chk_39 n (by omega) (by omega)
def XE : E := .fb .quo (.i2f (.ib .sub .i64 (.ai 9 0 (.ci (.vi 0) (.ci (.li 4000) .n0))) (.li 2000))) (.lf 4625196817309499392)
def ZE : E := .fb .add XE (.fb .quo (.i2f (.ai 9 0 (.ci (.vi 1) (.ci (.li 50) .n0)))) (.lf 4634204016564240384))
def eE (e : E) : E := .af 32 0 (.cf e .n0)
def expF : List Cf := [([], .fc .leq (.fb .add (.lf C1) XE) (eE XE), true), ([], .fc .leq (eE XE) (eE ZE), true), ([], .fc .lss (.lf 0) (eE XE), true), ([], .fc .leq (.lf C1) (.fb .mul (eE XE) (eE (.fb .sub (.lf 0) XE))), true),
  ([(.fc .lss XE (.lf 0), false), (.fc .lss (.lf 4636737291354636288) XE, false)], .fc .leq (.fb .mul (sEgo 30 1 (.af 10 0 (.cf XE .n0)) (.lf C1) (.lf C1)) (.lf CC)) (eE XE), true)]
theorem ev32 {Z : Val} (hM : MkV Z) (e : E) : evF Z (eE e) = expB (evF Z e) := by
  show Z.ff 32 0 _ = _
  rw [hM.y _ _ _ (by decide) (by decide)]
  exact expB_canon _
theorem expF_ok {Z : Val} (hM : MkV Z) : CfOK Z expF := by
  have hV := hM.toIvV.toStdV
  have hn : ∃ n : Int, evF Z XE = xr n ∧ -2000 ≤ n ∧ n < 2000 := by
    refine ⟨Z.i 0 % 4000 - 2000, ?_, by have := Int.emod_nonneg (Z.i 0) (show (4000 : Int) ≠ 0 by decide); omega, by have := Int.emod_lt_of_pos (Z.i 0) (show (0 : Int) < 4000 by decide); omega⟩
    show cop .quo (i2fV (wrapF .i64 (Z.fi 9 0 _ - 2000))) _ = _
    rw [hV.i _ _ _ (by decide)]
    show cop .quo (i2fV (wrapF .i64 (Z.i 0 % 4000 - 2000))) _ = _
    have h1 := Int.emod_nonneg (Z.i 0) (show (4000 : Int) ≠ 0 by decide)
    have h2 := Int.emod_lt_of_pos (Z.i 0) (show (0 : Int) < 4000 by decide)
    have : wrapF .i64 (Z.i 0 % 4000 - 2000) = Z.i 0 % 4000 - 2000 := by
      unfold wrapF
      simp only
      rw [decide_eq_true (by omega : -9223372036854775808 ≤ Z.i 0 % 4000 - 2000), decide_eq_true (by omega : Z.i 0 % 4000 - 2000 < 9223372036854775808)]; rfl
    rw [this]; rfl
  have hj : ∃ j : Int, evF Z (.fb .quo (.i2f (.ai 9 0 (.ci (.vi 1) (.ci (.li 50) .n0)))) (.lf 4634204016564240384)) = cop .quo (floatOfInt .f64 j) C64 ∧ 0 ≤ j ∧ j < 50 := by
    refine ⟨Z.i 1 % 50, ?_, Int.emod_nonneg _ (by decide), Int.emod_lt_of_pos _ (by decide)⟩
    show cop .quo (i2fV (Z.fi 9 0 _)) _ = _
    rw [hV.i _ _ _ (by decide)]; rfl
  obtain ⟨n, hn, n1, n2⟩ := hn
  obtain ⟨j, hj, j1, j2⟩ := hj
  have i1 := xr_is6 (n := n) (by omega) (by omega)
  have i2 := yr_is (n := j) (by omega) (by omega)
  have i3 := cop_add_is i1 i2 (by omega) (by omega) (by decide)
  have i0 := (is_ofInt (n := 0) (by decide) (by decide)).down 6 (by decide)
  rw [show floatOfInt .f64 0 = 0 by decide +kernel, Int.zero_mul, show (0 : Int) - ((6 : Nat) : Int) = -6 by decide] at i0
  have i4 := cop_sub_is i0 i1 (by omega) (by omega) (by decide)
  have r1 := rg_of i1 (by omega) (by omega)
  have r3 := rg_of i3 (by omega) (by omega)
  have r4 := rg_of i4 (by omega) (by omega)
  have c := chk_all n1 n2
  unfold chk at c
  rw [forceN_eq, forceN_eq, forceN_eq] at c
  simp only [Bool.and_eq_true] at c
  obtain ⟨c1, c2, c3, c4⟩ := c
  rw [← exp_eq r1] at c1 c2 c3 c4
  rw [← exp_eq r4] at c3
  have hZ : evF Z ZE = cop .add (xr n) (cop .quo (floatOfInt .f64 j) C64) := by unfold ZE; rw [ev_add, hn, hj]
  intro f hf hcond
  simp only [expF, List.mem_cons, List.not_mem_nil, or_false] at hf
  rcases hf with rfl | rfl | rfl | rfl | rfl
  · simp only [ev_leq, ev_add, ev_lf, ev32 hM, hn]; exact c1
  · simp only [ev_leq, ev32 hM, hn, hZ]
    exact exp_mono r1 r3 ((i1.le_of i3).1 (by omega))
  · simp only [ev_lss, ev_lf, ev32 hM, hn]; exact c2
  · show leB C1 (cop .mul (evF Z (eE XE)) (evF Z (eE (.fb .sub (.lf 0) XE)))) = true
    rw [ev32 hM, ev32 hM, ev_sub, hn]; exact c3
  · simp only [List.mem_cons, List.not_mem_nil, or_false, forall_eq_or_imp, forall_eq, ev_lss, ev_lf, hn] at hcond
    obtain ⟨q1, q2⟩ := hcond
    have x4 := xr_is (n := n) (by omega) (by omega)
    have z4 := (is_ofInt (n := 0) (by decide) (by decide)).down 4 (by decide)
    rw [show floatOfInt .f64 0 = 0 by decide +kernel, Int.zero_mul, show (0 : Int) - ((4 : Nat) : Int) = -4 by decide] at z4
    have h4 : Is 4636737291354636288 1600 (-4) := by
      have := (is_ofInt (n := 100) (by decide) (by decide)).down 4 (by decide)
      rwa [show floatOfInt .f64 100 = 4636737291354636288 by decide +kernel, show (100 : Int) * ((2 ^ 4 : Nat) : Int) = 1600 by decide, show (0 : Int) - ((4 : Nat) : Int) = -4 by decide] at this
    have g1 : 0 ≤ n := by
      rw [ltB_of x4.num z4.num] at q1
      have := of_decide_eq_false q1
      exact (z4.le_of x4).2 (by omega)
    have g2 : n ≤ 1600 := by
      rw [ltB_of h4.num x4.num] at q2
      have := of_decide_eq_false q2
      exact (x4.le_of h4).2 (by omega)
    rw [decide_eq_true g1, decide_eq_true g2] at c4
    show leB (cop .mul (evF Z (sEgo 30 1 (.af 10 0 (.cf XE .n0)) (.lf C1) (.lf C1))) CC) (evF Z (eE XE)) = true
    have ha : evF Z (.af 10 0 (.cf XE .n0)) = xr n % p63 := by
      show Z.ff 10 0 _ = _
      rw [hV.f _ _ _ (by decide)]
      show canon (evF Z XE) % p63 = _
      rw [hn, canon_num x4.num]
    rw [sEgo_ok, ha, ev32 hM, hn]
    exact c4
set_option maxRecDepth 1000000 in
set_option maxHeartbeats 100000000 in
theorem ivExp_run : lawRun 7 10 40 [.i, .i] expF = true := by kernel_rfl
theorem ivExp_any (a0 a1 : Int) (w : World) (_h0 : -9223372036854775808 ≤ a0 ∧ a0 ≤ 9223372036854775807) (_h1 : -9223372036854775808 ≤ a1 ∧ a1 ≤ 9223372036854775807) :
    Calls Try.prog 7 #[.int .i64 a0, .int .i64 a1] w fun e w' => e = .returned (.bool true) ∧ Below w.heap.size w w' := by
  refine law_of (ds := [.i a0, .i a1]) (nx0 := 10) (k := 40) (by simp) (expF_ok (adM_ok _)) (vs := #[.int .i64 a0, .int .i64 a1]) ⟨rfl, rfl, trivial⟩ fun ks hk => ?_
  simp only [List.map_cons, List.map_nil, AD.kind, shapes, shapes1, List.flatMap_cons, List.flatMap_nil, List.append_nil, List.mem_cons, List.not_mem_nil, or_false] at hk
  subst hk
  exact ivExp_run
end Go.Proofs.Ytbepaoliboooaaa
