/-
  Numbers with their signs turned: what sums, differences, products then are. No condition but those in the statements.
-/
import Derived.Test.YtbepaoliboooaaaMg
namespace Go.Proofs.Ytbepaoliboooaaa
open Ieee (double)

/-- Two are the same number, but for its sign; or both are none. -/
def Neg (x y : Nat) : Prop := isN x = isN y ∧ (isN x = false → key x = -key y)

theorem key_inf {x : Nat} (h : x % p63 = infR) : key x = infR ∨ key x = -(infR : Int) := by
  rw [key_eq, h]; unfold sgd; cases neg x <;> simp
theorem fin_key {x : Nat} (hN : isN x = false) : x % p63 < infR ↔ -(infR : Int) < key x ∧ key x < infR := by
  have := isN_false hN
  rw [key_eq]; unfold sgd; cases neg x <;> simp <;> omega
theorem V_neg {x y : Nat} (h : key x = -key y) : V x = - V y := by
  have e : key y = - key x := by omega
  have : V (double.word (!neg x) (x % p63)) = - V x := by
    have hle : x % p63 < p63 := Nat.mod_lt _ (by decide)
    have hm : double.word (!neg x) (x % p63) % p63 = x % p63 := by
      rw [word_eq]; unfold p63 at *; split <;> omega
    have hn : neg (double.word (!neg x) (x % p63)) = !neg x := by
      rw [word_eq]; unfold neg p63 at *
      by_cases g : x / 9223372036854775808 % 2 = 1
      · have g' : (x / 9223372036854775808 % 2 == 1) = true := by simpa using g
        rw [g', Bool.not_true, if_neg (by decide), show x % 9223372036854775808 / 9223372036854775808 = 0 by omega]; rfl
      · have g' : (x / 9223372036854775808 % 2 == 1) = false := by simpa using g
        rw [g', Bool.not_false, if_pos rfl, show (9223372036854775808 + x % 9223372036854775808) / 9223372036854775808 = 1 by omega]; rfl
    unfold V; rw [hm, hn]; unfold sgd; cases neg x <;> simp
  have k2 : key (double.word (!neg x) (x % p63)) = - key x := by
    have hle : x % p63 < p63 := Nat.mod_lt _ (by decide)
    have hm : double.word (!neg x) (x % p63) % p63 = x % p63 := by
      rw [word_eq]; unfold p63 at *; split <;> omega
    have hn : neg (double.word (!neg x) (x % p63)) = !neg x := by
      rw [word_eq]; unfold neg p63 at *
      by_cases g : x / 9223372036854775808 % 2 = 1
      · have g' : (x / 9223372036854775808 % 2 == 1) = true := by simpa using g
        rw [g', Bool.not_true, if_neg (by decide), show x % 9223372036854775808 / 9223372036854775808 = 0 by omega]; rfl
      · have g' : (x / 9223372036854775808 % 2 == 1) = false := by simpa using g
        rw [g', Bool.not_false, if_pos rfl, show (9223372036854775808 + x % 9223372036854775808) / 9223372036854775808 = 1 by omega]; rfl
    rw [key_eq, key_eq, hm, hn]; unfold sgd; cases neg x <;> simp
  have : V y = V (double.word (!neg x) (x % p63)) := V_eq.2 (by rw [k2]; omega)
  omega

theorem Neg.symm {x y : Nat} (h : Neg x y) : Neg y x := ⟨h.1.symm, fun e => by have := h.2 (h.1.trans e); omega⟩
theorem Neg.fin {x y : Nat} (h : Neg x y) (hN : isN x = false) : x % p63 < infR ↔ y % p63 < infR := by
  have hy : isN y = false := h.1 ▸ hN
  have := h.2 hN
  rw [fin_key hN, fin_key hy]; omega
theorem canon_neg {x y : Nat} (h : Neg x y) : Neg (canon x) (canon y) := by
  cases hx : isN x
  · have hy : isN y = false := h.1 ▸ hx
    rw [canon_num hx, canon_num hy]; exact h
  · have hy : isN y = true := h.1 ▸ hx
    have e1 : canon x = nanB := by unfold canon; rw [if_pos hx]
    have e2 : canon y = nanB := by unfold canon; rw [if_pos hy]
    rw [e1, e2]; exact ⟨rfl, fun e => absurd e (by decide)⟩

/-- An infinite one by its sign. -/
theorem inf_neg_of {x y : Nat} (h : Neg x y) (hN : isN x = false) (hx : x % p63 = infR) : y % p63 = infR ∧ neg y = !neg x := by
  have hy : isN y = false := h.1 ▸ hN
  have hyl := isN_false hy
  have hyf : ¬ y % p63 < infR := fun g => by have := (h.fin hN).2 g; omega
  have hye : y % p63 = infR := by omega
  refine ⟨hye, ?_⟩
  have k := h.2 hN
  rw [key_eq, key_eq, hx, hye] at k
  unfold sgd infR at k
  cases hn : neg x <;> cases hm : neg y <;> simp [hn, hm] at k ⊢ <;> omega

/-- A sum of what is turned is the sum turned. -/
theorem add_neg {a b c d : Nat} (h : Neg a c) (g : Neg b d) : Neg (cop .add a b) (cop .add c d) := by
  by_cases ha : isN a = true
  · have hc : isN c = true := h.1 ▸ ha
    unfold cop; rw [fb_nan_left _ _ ha, fb_nan_left _ _ hc]; exact ⟨rfl, fun e => absurd e (by decide)⟩
  by_cases hb : isN b = true
  · have hd : isN d = true := g.1 ▸ hb
    unfold cop; rw [fb_nan_right _ _ hb, fb_nan_right _ _ hd]; exact ⟨rfl, fun e => absurd e (by decide)⟩
  have ha' : isN a = false := by simpa using ha
  have hb' : isN b = false := by simpa using hb
  have la := isN_false ha'; have lb := isN_false hb'
  by_cases fa : a % p63 < infR
  · have fc := (h.fin ha').1 fa
    by_cases fb : b % p63 < infR
    · have fd := (g.fin hb').1 fb
      have e1 := add_fin fa fb
      have e2 := add_fin fc fd
      have k1 := add_key fa fb e1
      have k2 := add_key fc fd e2
      rw [cop_some (op := .add) e1, cop_some (op := .add) e2, canon_num k1.2.1, canon_num k2.2.1]
      refine ⟨by rw [k1.2.1, k2.2.1], fun _ => ?_⟩
      rw [k1.1, k2.1, V_neg (h.2 ha'), V_neg (g.2 hb'), show -V c + -V d = -(V c + V d) by omega, RK_neg]
    · have ib : b % p63 = infR := by omega
      obtain ⟨id, nd⟩ := inf_neg_of g hb' ib
      obtain ⟨m, i, r1, _, _⟩ := read_fin fa
      obtain ⟨n, j, r2, _, _⟩ := read_fin fc
      have e1 : floatBits .add .f64 a b = some (double.word (neg b) infR) := by
        unfold floatBits; simp only [FloatKind.format, Ieee.Format.add]; rw [r1, read_inf ib]; rfl
      have e2 : floatBits .add .f64 c d = some (double.word (neg d) infR) := by
        unfold floatBits; simp only [FloatKind.format, Ieee.Format.add]; rw [r2, read_inf id]; rfl
      rw [cop_some e1, cop_some e2, nd]
      cases neg b <;> (unfold Neg; decide)
  · have ia : a % p63 = infR := by omega
    obtain ⟨ic, nc⟩ := inf_neg_of h ha' ia
    by_cases fb : b % p63 < infR
    · have fd := (g.fin hb').1 fb
      obtain ⟨m, i, r1, _, _⟩ := read_fin fb
      obtain ⟨n, j, r2, _, _⟩ := read_fin fd
      have e1 : floatBits .add .f64 a b = some (double.word (neg a) infR) := by
        unfold floatBits; simp only [FloatKind.format, Ieee.Format.add]; rw [r1, read_inf ia]; rfl
      have e2 : floatBits .add .f64 c d = some (double.word (neg c) infR) := by
        unfold floatBits; simp only [FloatKind.format, Ieee.Format.add]; rw [r2, read_inf ic]; rfl
      rw [cop_some e1, cop_some e2, nc]
      cases neg a <;> (unfold Neg; decide)
    · have ib : b % p63 = infR := by omega
      obtain ⟨id, nd⟩ := inf_neg_of g hb' ib
      unfold cop floatBits; simp only [FloatKind.format, Ieee.Format.add]
      rw [read_inf ia, read_inf ib, read_inf ic, read_inf id, nc, nd]
      cases neg a <;> cases neg b <;> (unfold Neg; decide)

theorem flip_neg {x : Nat} (hx : x < 18446744073709551616) : Neg (flip x) x := by
  have hm := flip_mod hx
  refine ⟨flip_isN hx, fun _ => ?_⟩
  rw [key_eq, key_eq, hm]
  have hn : neg (flip x) = !neg x := by
    have hle : x % p63 < p63 := Nat.mod_lt _ (by decide)
    rw [flip_eq hx, word_eq]; unfold neg p63 at *
    by_cases g : x / 9223372036854775808 % 2 = 1
    · have g' : (x / 9223372036854775808 % 2 == 1) = true := by simpa using g
      rw [g', Bool.not_true, if_neg (by decide), show x % 9223372036854775808 / 9223372036854775808 = 0 by omega]; rfl
    · have g' : (x / 9223372036854775808 % 2 == 1) = false := by simpa using g
      rw [g', Bool.not_false, if_pos rfl, show (9223372036854775808 + x % 9223372036854775808) / 9223372036854775808 = 1 by omega]; rfl
  rw [hn]; unfold sgd; cases neg x <;> simp

end Go.Proofs.Ytbepaoliboooaaa
