/-
  The laws of numbers with signs turned, of many sums, and of all single numbers, walked.
-/
import Derived.Test.YtjeahlknhcbiiaaFph
import Derived.Test.YtjeahlknhcbiiaaMi
namespace Go.Proofs.Ytjeahlknhcbiiaa
open Go.RowKit
open Ieee (double)
attribute [local go_sem] alloc_drewN setCell_drewN call_bits call_frombits ord_lt ord_eq ord_gt ord_ne ord_le ord_ge eqB_self run_fadd run_fsub run_fmul run_fquo call_fma run_fneg

theorem isN_of_canon {x c : Nat} (h : canon x = canon c) : isN x = isN c := by rw [← isN_canon x, h, isN_canon]
theorem key_of_canon {x c : Nat} (h : canon x = canon c) (hN : isN x = false) : key x = key c := by
  have hc : isN c = false := (isN_of_canon h) ▸ hN
  rw [canon_num hN, canon_num hc] at h; rw [h]
theorem neg_of_canon {x y c d : Nat} (h : Neg c d) (hx : canon x = canon c) (hy : canon y = canon d) : Neg x y := by
  refine ⟨by rw [isN_of_canon hx, isN_of_canon hy, h.1], fun hN => ?_⟩
  have hc : isN c = false := (isN_of_canon hx) ▸ hN
  have hd : isN d = false := h.1 ▸ hc
  have hy' : isN y = false := (isN_of_canon hy).trans hd
  rw [key_of_canon hx hN, key_of_canon hy hy', h.2 hc]
theorem fsub0_neg (w : World) (a : Nat) : Neg (fval .sub w 0 a) a := neg_of_canon (sub_zero_neg a) (cc (canon_fval _ _ _ _)) rfl
theorem same_of_neg {s t : Nat} (h : Neg s t) (w : World) : sameB s (fval .sub w 0 t) = true := by
  have g := fsub0_neg w t
  unfold sameB
  cases hN : isN s
  · have h1 : isN t = false := h.1 ▸ hN
    have h2 : isN (fval .sub w 0 t) = false := g.1.trans h1
    rw [eqB_of_key hN h2, h.2 hN, g.2 h2]; simp
  · have h1 : isN t = true := h.1 ▸ hN
    have h2 : isN (fval .sub w 0 t) = true := g.1.trans h1
    rw [h2]; simp

set_option maxRecDepth 100000 in
set_option maxHeartbeats 2000000 in
theorem fpTurns_walk (a b : Nat) (k : Int) (w : World) (ha : a < 18446744073709551616) (_hb : b < 18446744073709551616) (_h3 : -9223372036854775808 ≤ k ∧ k ≤ 9223372036854775807) :
    Calls Try.prog 10 #[.float .f64 a, .float .f64 b, .int .i64 k] w fun e w' => e = .returned (.bool true) ∧ Below w.heap.size w w' := by
  have k1 := Int.emod_nonneg k (show (100 : Int) ≠ 0 by decide)
  have k2 := Int.emod_lt_of_pos k (show (0 : Int) < 100 by decide)
  have hd := downB_lt ha
  have hl : ∀ W, fval .sub W 0 a < 18446744073709551616 := fun W => fval_lt _ _ _ _
  have c5 : ∀ W W', sameB (upB (fval .sub W 0 a)) (fval .sub W' 0 (downB a)) = true := fun W W' => same_of_neg (up_neg (fsub0_neg W a) (fval_lt _ _ _ _) ha) W'
  have c6 : ∀ W W', sameB (ldexpB (fval .sub W 0 a) (k % 100)) (fval .sub W' 0 (ldexpB a (k % 100))) = true := fun W W' => same_of_neg (scale_neg (fsub0_neg W a) _) W'
  have C5 := Lib.hid c5
  have C6 := Lib.hid c6
  have HL := Lib.hid hl
  clear c5 c6 hl
  go_enter Try.func10, Try.ntmps10
  go_wp2_with (go_at_call 14; refine (known_any _).mono ?_; rintro e w' ⟨d0, rfl, rfl⟩)
  refine (twoSum_any _ _ _).mono ?_
  rintro e w' ⟨s, e1, d1, rfl, rfl, hs, he1, hsl, hel⟩
  go_wp2_with fail
  refine (twoSum_any _ _ _).mono ?_
  rintro e w' ⟨t, e2, d2, rfl, rfl, ht, he2, htl, hel2⟩
  go_wp2_with fail
  refine (twoMul_any _ _ _).mono ?_
  rintro e w' ⟨p, g1, d3, rfl, rfl, hp, hg1, hpl, hgl⟩
  go_wp2_with fail
  refine (twoMul_any _ _ _).mono ?_
  rintro e w' ⟨q, g2, d4, rfl, rfl, hq, hg2, hql, hgl2⟩
  have q1 := same_of_neg (neg_of_canon (add_neg (fsub0_neg _ a) (fsub0_neg _ b)).symm (cc hs) (cc ht))
  have q2 := same_of_neg (neg_of_canon (sumRest_neg (fsub0_neg _ a) (fsub0_neg _ b) (fval_lt _ _ _ _) ha).symm (he1.trans (by rw [← he1, canon_canon])) (he2.trans (by rw [← he2, canon_canon])))
  have q3 := same_of_neg (neg_of_canon (mul_neg (b := b) (fsub0_neg _ a)).symm (cc hp) (cc hq))
  have q4 := same_of_neg (neg_of_canon (mulRest_neg (b := b) (fsub0_neg _ a)).symm (hg1.trans (by rw [← hg1, canon_canon])) (hg2.trans (by rw [← hg2, canon_canon])))
  clear hs ht he1 he2 hp hq hg1 hg2
  have c5 := C5.out
  have c6 := C6.out
  go_wp2_with (first | (go_at_call 17; refine (same_any _ _ _).mono ?_; rintro e w' ⟨rfl, rfl⟩) | (go_at_call 18; refine (up_any _ _ (fval_lt _ _ _ _)).mono ?_; rintro e w' ⟨rfl, rfl⟩) | (go_at_call 20; refine (down_any _ _ ha).mono ?_; rintro e w' ⟨rfl, rfl⟩) | (go_at_call 25; refine (within_any _ _ _ (by decide) (by decide)).mono ?_; rintro e w' ⟨rfl, rfl⟩) | (go_at_call 24; refine (scale_any _ _ _ (by first | exact ha | exact fval_lt _ _ _ _) (by omega) (by omega)).mono ?_; rintro e w' ⟨rfl, rfl⟩))
  go_ret
  exact ⟨rfl, below_drew (Below.refl _ _) _⟩

end Go.Proofs.Ytjeahlknhcbiiaa
