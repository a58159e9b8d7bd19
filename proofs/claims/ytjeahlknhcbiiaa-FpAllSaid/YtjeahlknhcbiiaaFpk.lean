/-
  The law of all single numbers, walked: the program's calls and the document's give the same numbers.
-/
import Derived.Test.YtjeahlknhcbiiaaFpi
namespace Go.Proofs.Ytjeahlknhcbiiaa
open Go.RowKit
open Ieee (double)
attribute [local go_sem] alloc_drewN setCell_drewN call_bits call_frombits ord_lt ord_eq ord_gt ord_ne ord_le ord_ge eqB_self run_fadd run_fsub run_fmul run_fquo call_fma run_fneg

theorem same_self (v : Nat) : sameB v v = true := by
  unfold sameB
  cases h : isN v
  · rw [eqB_of_key h h]; simp
  · simp
theorem same_canon {x y : Nat} (h : canon x = canon y) : sameB x y = true := by
  have hn := isN_of_canon h
  unfold sameB
  cases hx : isN x
  · have hy : isN y = false := hn ▸ hx
    rw [eqB_of_key hx hy, key_of_canon h hx]; simp
  · have hy : isN y = true := hn ▸ hx
    rw [hy]; simp
theorem same_of_canon (x y : Nat) : sameB (canon x) (canon y) = sameB x y := by
  unfold sameB; rw [eqB_canon, isN_canon, isN_canon]
theorem mul_inf_cases {a b : Nat} (h : a % p63 = infR ∨ b % p63 = infR) (ha : isN a = false) (hb : isN b = false) : cop .mul a b = nanB ∨ ∃ s, cop .mul a b = double.word s infR := by
  have la := isN_false ha; have lb := isN_false hb
  have hp : (double.read a).product (double.read b) = none ∨ ∃ s, (double.read a).product (double.read b) = some (.infinity s) := by
    by_cases fa : a % p63 < infR
    · have ib : b % p63 = infR := by omega
      obtain ⟨m, i, r1, _, _⟩ := read_fin fa
      rw [r1, read_inf ib]
      by_cases m0 : m = 0
      · left; simp [Ieee.Datum.product, m0]
      · right; exact ⟨_, by simp only [Ieee.Datum.product, m0, if_false]; rfl⟩
    · rw [read_inf (by omega : a % p63 = infR)]
      by_cases fb : b % p63 < infR
      · obtain ⟨m, i, r1, _, _⟩ := read_fin fb
        rw [r1]
        by_cases m0 : m = 0
        · left; simp [Ieee.Datum.product, m0]
        · right; exact ⟨_, by simp only [Ieee.Datum.product, m0, if_false]; rfl⟩
      · rw [read_inf (by omega : b % p63 = infR)]; right; exact ⟨_, rfl⟩
  rcases hp with hp | ⟨s, hp⟩
  · left; unfold cop floatBits; simp only [FloatKind.format, Ieee.Format.mul]; rw [hp]; rfl
  · right
    have e : floatBits .mul .f64 a b = some (double.word s infR) := by
      unfold floatBits; simp only [FloatKind.format, Ieee.Format.mul]; rw [hp]; rfl
    exact ⟨s, by rw [cop_some e]; cases s <;> decide⟩
theorem rest_same (a b : Nat) : sameB (mulRest a b) (mulRest0 a b) = true := by
  have hpl := cop_lt .mul a b
  unfold mulRest mulRest0
  cases hN : isN (cop .mul a b)
  · by_cases h0 : cop .mul a b % p63 = 0
    · -- the product is 0
      have ha : isN a = false := by
        cases h : isN a
        · rfl
        · have : cop .mul a b = nanB := by unfold cop; rw [fb_nan_left _ _ h]
          rw [this] at hN; exact absurd hN (by decide)
      have hb : isN b = false := by
        cases h : isN b
        · rfl
        · have : cop .mul a b = nanB := by unfold cop; rw [fb_nan_right _ _ h]
          rw [this] at hN; exact absurd hN (by decide)
      have la := isN_false ha; have lb := isN_false hb
      by_cases hi : a % p63 = infR ∨ b % p63 = infR
      · rcases mul_inf_cases hi ha hb with e | ⟨s, e⟩
        · rw [e] at hN; exact absurd hN (by decide)
        · rw [e, word_mod _ (Nat.le_refl _)] at h0; exact absurd h0 (by decide)
      · have fa : a % p63 < infR := by omega
        have fb : b % p63 < infR := by omega
        generalize cop .mul a b = p at *
        have z1 : flip p % p63 < infR := by rw [flip_mod hpl, h0]; decide
        have v1 : V (flip p) = 0 := by unfold V; rw [flip_mod hpl, h0, U_zero]; cases neg (flip p) <;> rfl
        have fp : p % p63 < infR := by rw [h0]; decide
        have vp : V p = 0 := by unfold V; rw [h0, U_zero]; cases neg p <;> rfl
        have e := sub_fin (x := 0) (y := p) (by decide) fp
        rw [vp] at e
        have k := sub_key (x := 0) (y := p) (by decide) fp e
        have e' : cop .sub 0 p = 0 := by
          rw [cop_some (op := .sub) e, canon_num k.2.1, show V 0 = 0 by decide]
          cases neg p <;> decide
        rw [e']
        have g1 := fma_fin fa fb z1
        have g2 := fma_fin (c := 0) fa fb (by decide)
        have k1 := fma_key fa fb z1 g1
        have k2 := fma_key (c := 0) fa fb (by decide) g2
        rw [cfma_some g1, cfma_some g2, canon_num k1.2, canon_num k2.2]
        unfold sameB
        rw [eqB_of_key k1.2 k2.2, k1.1, k2.1, v1, show V 0 = 0 by decide]; simp
    · -- turned, and taken from 0, it is one
      have : flip (cop .mul a b) = cop .sub 0 (cop .mul a b) := by
        generalize cop .mul a b = p at *
        have lp := isN_false hN
        rw [flip_eq hpl]
        by_cases fp : p % p63 < infR
        · have e := sub_fin (x := 0) (y := p) (by decide) fp
          have k := sub_key (x := 0) (y := p) (by decide) fp e
          rw [cop_some (op := .sub) e, canon_num k.2.1, show V 0 = 0 by decide, Int.zero_sub, Int.natAbs_neg]
          have hv : (V p).natAbs = U (p % p63) := by unfold V sgd; split <;> simp
          have hU : U (p % p63) ≠ 0 := fun g => h0 (U_inj (g.trans U_zero.symm))
          rw [hv, rungOf_U (Nat.le_of_lt fp), if_neg (by omega)]
          congr 1
          unfold V sgd
          cases neg p
          · simp only [Bool.false_eq_true, if_false, Bool.not_false]; symm; rw [decide_eq_true_eq]; omega
          · simp only [if_true, Bool.not_true]; symm; rw [decide_eq_false_iff_not]; omega
        · have ip : p % p63 = infR := by omega
          have e : floatBits .sub .f64 0 p = some (double.word (!neg p) infR) := by
            unfold floatBits; simp only [FloatKind.format, Ieee.Format.sub]; rw [read_inf ip]; rfl
          rw [cop_some e, ip, canon_num (word_isN _ (Nat.le_refl _))]
      rw [this]; exact same_self _
  · have e : cop .sub 0 (cop .mul a b) = nanB := by unfold cop at hN ⊢; rw [fb_nan_right _ _ hN]
    rw [e, cfma_none (fma_nan _ _ ((flip_isN hpl).trans hN)), cfma_none (fma_nan _ _ (by decide))]
    decide

set_option maxRecDepth 100000 in
set_option maxHeartbeats 2000000 in
theorem fpAll_walk (a b : Nat) (m k n : Int) (w : World) (ha : a < 18446744073709551616) (hb : b < 18446744073709551616) (_h1 : -9223372036854775808 ≤ m ∧ m ≤ 9223372036854775807) (_h2 : -9223372036854775808 ≤ k ∧ k ≤ 9223372036854775807) (_h3 : -9223372036854775808 ≤ n ∧ n ≤ 9223372036854775807) :
    Calls Try.prog 3 #[.float .f64 a, .float .f64 b, .int .i64 m, .int .i64 k, .int .i64 n] w fun e w' => e = .returned (.bool true) ∧ Below w.heap.size w w' := by
  have k1 := Int.emod_nonneg k (show (4001 : Int) ≠ 0 by decide)
  have k2 := Int.emod_lt_of_pos k (show (0 : Int) < 4001 by decide)
  go_enter Try.func3, Try.ntmps3
  go_wp2_with (go_at_call 14; refine (known_any _).mono ?_; rintro e w' ⟨d0, rfl, rfl⟩)
  refine (num_is _ _ _).mono ?_
  rintro e w' ⟨x, N, kk, rfl, rfl, hx, hk1, hk2, hn1, hn2⟩
  have hxl := hx.lt
  clear hx hk1 hk2 hn1 hn2
  go_wp2_with fail
  refine (rare_any _ _).mono ?_
  rintro e w1 ⟨rfl, hb1⟩
  go_wp2_with fail
  refine (rare_any _ _).mono ?_
  rintro e w2 ⟨rfl, hb2⟩
  have r1 := rareB_lt (n % 10)
  have r2 := rareB_lt (m % 10)
  generalize rareB (n % 10) = q1 at *
  generalize rareB (m % 10) = q2 at *
  have hbw : Below w.heap.size w w2 := Below.trans (below_undrew hb1) (hb2.mono (by have := hb1.size; simpa using this))
  clear hb1 hb2
  go_wp2_with fail
  have hbW := hbw.alloc hbw.size (.cells #[.float .f64 a, .float .f64 b, .float .f64 x, .float .f64 q1, .float .f64 q2, .float .f64 4607182418800017408] 22)
  have hcell : ∀ i, i < 6 → ∃ y, y < 18446744073709551616 ∧ (w2.alloc (.cells #[.float .f64 a, .float .f64 b, .float .f64 x, .float .f64 q1, .float .f64 q2, .float .f64 4607182418800017408] 22)).cell? ⟨w2.heap.size, i, none⟩ = some (.float .f64 y) := by
    intro i hi
    rw [World.cell?_alloc_new]
    have : i = 0 ∨ i = 1 ∨ i = 2 ∨ i = 3 ∨ i = 4 ∨ i = 5 := by omega
    rcases this with rfl | rfl | rfl | rfl | rfl | rfl
    · exact ⟨a, ha, rfl⟩
    · exact ⟨b, hb, rfl⟩
    · exact ⟨x, hxl, rfl⟩
    · exact ⟨q1, r1, rfl⟩
    · exact ⟨q2, r2, rfl⟩
    · exact ⟨_, by decide, rfl⟩
  generalize w2.alloc (.cells #[.float .f64 a, .float .f64 b, .float .f64 x, .float .f64 q1, .float .f64 q2, .float .f64 4607182418800017408] 22) = W at *
  generalize w2.heap.size = B at *
  have HC := Lib.hid hcell
  clear hcell hbw
  go_loopw [12] (fun i wr => ∃ (j d : Nat), j ≤ 6 ∧ i = .int .i64 j ∧ wr = W.drewN d) (fun i _ => 6 - (intOf i).toNat)
  case atStart => exact ⟨0, 0, by omega, rfl, rfl⟩
  case round =>
    obtain ⟨j, d, hj, rfl, rfl⟩ := hrel
    by_cases hlt : j < 6
    · obtain ⟨y, hyl, hcy⟩ := HC.out j hlt
      have hS := same_self
      go_wp2_with (first | (go_at_call 17; refine (same_any _ _ _).mono ?_; rintro e w' ⟨rfl, rfl⟩) | (go_at_call 18; refine (up_any _ _ hyl).mono ?_; rintro e w' ⟨rfl, rfl⟩) | (go_at_call 20; refine (down_any _ _ hyl).mono ?_; rintro e w' ⟨rfl, rfl⟩) | (go_at_call 19; refine (rup_any _ _ hyl).mono ?_; rintro e w' ⟨rfl, rfl⟩) | (go_at_call 21; refine (rdown_any _ _ hyl).mono ?_; rintro e w' ⟨rfl, rfl⟩) | (go_at_call 22; refine (finite_any _ _).mono ?_; rintro e w' ⟨d1, rfl, rfl⟩) | (go_at_call 23; refine (rfinite_any _ _).mono ?_; rintro e w' ⟨d2, rfl, rfl⟩) | (go_at_call 25; refine (within_any _ _ _ (by decide) (by decide)).mono ?_; rintro e w' ⟨rfl, rfl⟩) | (go_at_call 24; refine (scale_any _ _ _ hyl (by omega) (by omega)).mono ?_; rintro e w' ⟨rfl, rfl⟩) | (go_at_call 26; refine (rscale_any _ _ _ hyl (by omega) (by omega)).mono ?_; rintro e w' ⟨rfl, rfl⟩))
      clear hS hcy
      rename_i d2 d1
      go_loopw [14] (fun i wr => ∃ (c d : Nat), c ≤ 6 ∧ i = .int .i64 c ∧ wr = W.drewN d) (fun i _ => 6 - (intOf i).toNat)
      case atStart => exact ⟨0, _, by omega, rfl, rfl⟩
      case round =>
        obtain ⟨c, d, hc, rfl, rfl⟩ := hrel
        by_cases hlt2 : c < 6
        · obtain ⟨z, hzl, hcz⟩ := HC.out c hlt2
          go_wp2_with fail
          refine (twoSum_any _ _ _).mono ?_
          rintro e w' ⟨s, e1, d3, rfl, rfl, hs, he1, _, _⟩
          go_wp2_with fail
          refine (rtwoSum_any _ _ _).mono ?_
          rintro e w' ⟨t, e2, d4, rfl, rfl, ht, he2, _, _⟩
          go_wp2_with fail
          refine (twoMul_any _ _ _).mono ?_
          rintro e w' ⟨p, g1, d5, rfl, rfl, hp, hg1, _, _⟩
          go_wp2_with fail
          refine (rtwoMul_any _ _ _).mono ?_
          rintro e w' ⟨q, g2, d6, rfl, rfl, hq, hg2, _, _⟩
          have c1 := same_canon (hs.trans ht.symm)
          have c2 := same_canon (he1.trans he2.symm)
          have c3 := same_canon (hp.trans hq.symm)
          have c4 : sameB g1 g2 = true := by
            have h := rest_same y z
            rw [← hg1, ← hg2] at h
            rwa [same_of_canon] at h
          clear hs ht he1 he2 hp hq hg1 hg2
          go_wp2_with (go_at_call 17; refine (same_any _ _ _).mono ?_; rintro e w' ⟨rfl, rfl⟩)
          go_roundw
          case rel => exact ⟨c + 1, _, by omega, by go_num, rfl⟩
          case measure => simp [intOf]; omega
        · obtain rfl : c = 6 := by omega
          go_wp2_with fail
          go_roundw
          case rel => exact ⟨j + 1, _, by omega, by go_num, rfl⟩
          case measure => simp [intOf]; omega
    · obtain rfl : j = 6 := by omega
      go_wp2_with fail
      go_ret
      exact ⟨rfl, below_drew hbW _⟩

end Go.Proofs.Ytjeahlknhcbiiaa
