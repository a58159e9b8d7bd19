/-
  Products and sums rounded once, with their signs turned; scaling and the next numbers, with signs turned. No condition but those in the statements.
-/
import Derived.Test.YtbepaoliboooaaaMg
namespace Go.Proofs.Ytbepaoliboooaaa
open Ieee (double)

/-- Two are the same number, but for its sign; or both are none. -/
def Neg (x y : Nat) : Prop := isN x = isN y ∧ (isN x = false → key x = -key y)

theorem key_inf {x : Nat} (h : x % p63 = infR) : key x = infR ∨ key x = -(infR : Int) := by
  rw [key_eq, h]; unfold sgd; cases neg x <;> simp
theorem fin_key {x : Nat} (hN : isN x = false) : x % p63 < infR ↔ -(infR : Int) < key x ∧ key x < infR := by
  have := isN_false hN
  rw [key_eq]; unfold sgd; cases neg x <;> simp <;> omega
theorem V_neg {x y : Nat} (h : key x = -key y) : V x = - V y := by
  have e : key y = - key x := by omega
  have : V (double.word (!neg x) (x % p63)) = - V x := by
    have hle : x % p63 < p63 := Nat.mod_lt _ (by decide)
    have hm : double.word (!neg x) (x % p63) % p63 = x % p63 := by
      rw [word_eq]; unfold p63 at *; split <;> omega
    have hn : neg (double.word (!neg x) (x % p63)) = !neg x := by
      rw [word_eq]; unfold neg p63 at *
      by_cases g : x / 9223372036854775808 % 2 = 1
      · have g' : (x / 9223372036854775808 % 2 == 1) = true := by simpa using g
        rw [g', Bool.not_true, if_neg (by decide), show x % 9223372036854775808 / 9223372036854775808 = 0 by omega]; rfl
      · have g' : (x / 9223372036854775808 % 2 == 1) = false := by simpa using g
        rw [g', Bool.not_false, if_pos rfl, show (9223372036854775808 + x % 9223372036854775808) / 9223372036854775808 = 1 by omega]; rfl
    unfold V; rw [hm, hn]; unfold sgd; cases neg x <;> simp
  have k2 : key (double.word (!neg x) (x % p63)) = - key x := by
    have hle : x % p63 < p63 := Nat.mod_lt _ (by decide)
    have hm : double.word (!neg x) (x % p63) % p63 = x % p63 := by
      rw [word_eq]; unfold p63 at *; split <;> omega
    have hn : neg (double.word (!neg x) (x % p63)) = !neg x := by
      rw [word_eq]; unfold neg p63 at *
      by_cases g : x / 9223372036854775808 % 2 = 1
      · have g' : (x / 9223372036854775808 % 2 == 1) = true := by simpa using g
        rw [g', Bool.not_true, if_neg (by decide), show x % 9223372036854775808 / 9223372036854775808 = 0 by omega]; rfl
      · have g' : (x / 9223372036854775808 % 2 == 1) = false := by simpa using g
        rw [g', Bool.not_false, if_pos rfl, show (9223372036854775808 + x % 9223372036854775808) / 9223372036854775808 = 1 by omega]; rfl
    rw [key_eq, key_eq, hm, hn]; unfold sgd; cases neg x <;> simp
  have : V y = V (double.word (!neg x) (x % p63)) := V_eq.2 (by rw [k2]; omega)
  omega

theorem Neg.symm {x y : Nat} (h : Neg x y) : Neg y x := ⟨h.1.symm, fun e => by have := h.2 (h.1.trans e); omega⟩
theorem Neg.fin {x y : Nat} (h : Neg x y) (hN : isN x = false) : x % p63 < infR ↔ y % p63 < infR := by
  have hy : isN y = false := h.1 ▸ hN
  have := h.2 hN
  rw [fin_key hN, fin_key hy]; omega
theorem canon_neg {x y : Nat} (h : Neg x y) : Neg (canon x) (canon y) := by
  cases hx : isN x
  · have hy : isN y = false := h.1 ▸ hx
    rw [canon_num hx, canon_num hy]; exact h
  · have hy : isN y = true := h.1 ▸ hx
    have e1 : canon x = nanB := by unfold canon; rw [if_pos hx]
    have e2 : canon y = nanB := by unfold canon; rw [if_pos hy]
    rw [e1, e2]; exact ⟨rfl, fun e => absurd e (by decide)⟩

/-- An infinite one by its sign. -/
theorem inf_neg_of {x y : Nat} (h : Neg x y) (hN : isN x = false) (hx : x % p63 = infR) : y % p63 = infR ∧ neg y = !neg x := by
  have hy : isN y = false := h.1 ▸ hN
  have hyl := isN_false hy
  have hyf : ¬ y % p63 < infR := fun g => by have := (h.fin hN).2 g; omega
  have hye : y % p63 = infR := by omega
  refine ⟨hye, ?_⟩
  have k := h.2 hN
  rw [key_eq, key_eq, hx, hye] at k
  unfold sgd infR at k
  cases hn : neg x <;> cases hm : neg y <;> simp [hn, hm] at k ⊢ <;> omega

/-- A sum of what is turned is the sum turned. -/
theorem add_neg {a b c d : Nat} (h : Neg a c) (g : Neg b d) : Neg (cop .add a b) (cop .add c d) := by
  by_cases ha : isN a = true
  · have hc : isN c = true := h.1 ▸ ha
    unfold cop; rw [fb_nan_left _ _ ha, fb_nan_left _ _ hc]; exact ⟨rfl, fun e => absurd e (by decide)⟩
  by_cases hb : isN b = true
  · have hd : isN d = true := g.1 ▸ hb
    unfold cop; rw [fb_nan_right _ _ hb, fb_nan_right _ _ hd]; exact ⟨rfl, fun e => absurd e (by decide)⟩
  have ha' : isN a = false := by simpa using ha
  have hb' : isN b = false := by simpa using hb
  have la := isN_false ha'; have lb := isN_false hb'
  by_cases fa : a % p63 < infR
  · have fc := (h.fin ha').1 fa
    by_cases fb : b % p63 < infR
    · have fd := (g.fin hb').1 fb
      have e1 := add_fin fa fb
      have e2 := add_fin fc fd
      have k1 := add_key fa fb e1
      have k2 := add_key fc fd e2
      rw [cop_some (op := .add) e1, cop_some (op := .add) e2, canon_num k1.2.1, canon_num k2.2.1]
      refine ⟨by rw [k1.2.1, k2.2.1], fun _ => ?_⟩
      rw [k1.1, k2.1, V_neg (h.2 ha'), V_neg (g.2 hb'), show -V c + -V d = -(V c + V d) by omega, RK_neg]
    · have ib : b % p63 = infR := by omega
      obtain ⟨id, nd⟩ := inf_neg_of g hb' ib
      obtain ⟨m, i, r1, _, _⟩ := read_fin fa
      obtain ⟨n, j, r2, _, _⟩ := read_fin fc
      have e1 : floatBits .add .f64 a b = some (double.word (neg b) infR) := by
        unfold floatBits; simp only [FloatKind.format, Ieee.Format.add]; rw [r1, read_inf ib]; rfl
      have e2 : floatBits .add .f64 c d = some (double.word (neg d) infR) := by
        unfold floatBits; simp only [FloatKind.format, Ieee.Format.add]; rw [r2, read_inf id]; rfl
      rw [cop_some e1, cop_some e2, nd]
      cases neg b <;> (unfold Neg; decide)
  · have ia : a % p63 = infR := by omega
    obtain ⟨ic, nc⟩ := inf_neg_of h ha' ia
    by_cases fb : b % p63 < infR
    · have fd := (g.fin hb').1 fb
      obtain ⟨m, i, r1, _, _⟩ := read_fin fb
      obtain ⟨n, j, r2, _, _⟩ := read_fin fd
      have e1 : floatBits .add .f64 a b = some (double.word (neg a) infR) := by
        unfold floatBits; simp only [FloatKind.format, Ieee.Format.add]; rw [r1, read_inf ia]; rfl
      have e2 : floatBits .add .f64 c d = some (double.word (neg c) infR) := by
        unfold floatBits; simp only [FloatKind.format, Ieee.Format.add]; rw [r2, read_inf ic]; rfl
      rw [cop_some e1, cop_some e2, nc]
      cases neg a <;> (unfold Neg; decide)
    · have ib : b % p63 = infR := by omega
      obtain ⟨id, nd⟩ := inf_neg_of g hb' ib
      unfold cop floatBits; simp only [FloatKind.format, Ieee.Format.add]
      rw [read_inf ia, read_inf ib, read_inf ic, read_inf id, nc, nd]
      cases neg a <;> cases neg b <;> (unfold Neg; decide)

theorem flip_neg {x : Nat} (hx : x < 18446744073709551616) : Neg (flip x) x := by
  have hm := flip_mod hx
  refine ⟨flip_isN hx, fun _ => ?_⟩
  rw [key_eq, key_eq, hm]
  have hn : neg (flip x) = !neg x := by
    have hle : x % p63 < p63 := Nat.mod_lt _ (by decide)
    rw [flip_eq hx, word_eq]; unfold neg p63 at *
    by_cases g : x / 9223372036854775808 % 2 = 1
    · have g' : (x / 9223372036854775808 % 2 == 1) = true := by simpa using g
      rw [g', Bool.not_true, if_neg (by decide), show x % 9223372036854775808 / 9223372036854775808 = 0 by omega]; rfl
    · have g' : (x / 9223372036854775808 % 2 == 1) = false := by simpa using g
      rw [g', Bool.not_false, if_pos rfl, show (9223372036854775808 + x % 9223372036854775808) / 9223372036854775808 = 1 by omega]; rfl
  rw [hn]; unfold sgd; cases neg x <;> simp

end Go.Proofs.Ytbepaoliboooaaa

namespace Go.Proofs.Ytbepaoliboooaaa
open Ieee (double)

/-- What a product and a sum come to, rounded once. -/
theorem fma_fin {a b c : Nat} (ha : a % p63 < infR) (hb : b % p63 < infR) (hc : c % p63 < infR) :
    double.fma a b c = some (double.word (if V a * V b + V c * unit = 0 then (neg a ^^ neg b) && neg c else decide (V a * V b + V c * unit < 0)) (rungOf (V a * V b + V c * unit).natAbs (-2148))) := by
  obtain ⟨x, i, e1, hi, e2⟩ := read_fin ha
  obtain ⟨y, j, e3, hj, e4⟩ := read_fin hb
  obtain ⟨z, t, e5, ht, e6⟩ := read_fin hc
  unfold Ieee.Format.fma
  rw [e1, e3, e5]
  simp only [Ieee.Datum.product, Ieee.Datum.sum, Option.bind_some, Option.map_some, Ieee.Format.write, nearest_eq]
  have hab : sgd (neg a ^^ neg b) (x * y * 2 ^ (i + j + 2148).toNat) = V a * V b := by
    have := sgd_sgd (neg a) (neg b) (U (a % p63)) (U (b % p63))
    have va : V a = sgd (neg a) (U (a % p63)) := rfl
    have vb : V b = sgd (neg b) (U (b % p63)) := rfl
    rw [va, vb, this, ← e2, ← e4]
    congr 1
    rw [show (i + j + 2148).toNat = (i + 1074).toNat + (j + 1074).toNat by omega, Nat.pow_add]
    simp only [Nat.mul_assoc, Nat.mul_left_comm]
  have hcc : sgd (neg c) (z * 2 ^ (t + 2148).toNat) = V c * unit := by
    have vc : V c = sgd (neg c) (U (c % p63)) := rfl
    rw [vc, ← e6, unit_def, show (t + 2148).toNat = (t + 1074).toNat + low74 by unfold low74; omega, Nat.pow_add, ← Nat.mul_assoc, sgd_mul]
  generalize hb1 : min (i + j) t = base at *
  have s1 : sgd (neg a ^^ neg b) (x * y * 2 ^ (i + j + 2148).toNat) = Ieee.signed (neg a ^^ neg b) (x * y) (i + j - base).toNat * (2 ^ (base + 2148).toNat : Nat) := by
    rw [signed_eq, ← sgd_mul, Nat.mul_assoc (x * y), ← Nat.pow_add, show (i + j - base).toNat + (base + 2148).toNat = (i + j + 2148).toNat by omega]
  have s2 : sgd (neg c) (z * 2 ^ (t + 2148).toNat) = Ieee.signed (neg c) z (t - base).toNat * (2 ^ (base + 2148).toNat : Nat) := by
    rw [signed_eq, ← sgd_mul, Nat.mul_assoc z, ← Nat.pow_add, show (t - base).toNat + (base + 2148).toNat = (t + 2148).toNat by omega]
  have hT : (Ieee.signed (neg a ^^ neg b) (x * y) (i + j - base).toNat + Ieee.signed (neg c) z (t - base).toNat) * (2 ^ (base + 2148).toNat : Nat) = V a * V b + V c * unit := by
    rw [Int.add_mul, ← s1, ← s2, hab, hcc]
  generalize Ieee.signed (neg a ^^ neg b) (x * y) (i + j - base).toNat + Ieee.signed (neg c) z (t - base).toNat = T at *
  have hr : rungOf T.natAbs base = rungOf (V a * V b + V c * unit).natAbs (-2148) := by
    have r1 := rungOf_scale T.natAbs base (base + 2148).toNat
    rw [← natAbs_pow, hT, show base - ((base + 2148).toNat : Int) = -2148 by omega] at r1
    exact r1.symm
  rw [hr]
  have z0 : T = 0 ↔ V a * V b + V c * unit = 0 := by rw [← hT, mul_pow_zero]
  have z1 : T < 0 ↔ V a * V b + V c * unit < 0 := by rw [← hT, mul_pow_neg]
  simp only [z0, z1]
theorem fma_key {a b c r : Nat} (ha : a % p63 < infR) (hb : b % p63 < infR) (hc : c % p63 < infR) (h : double.fma a b c = some r) : key r = RK (V a * V b + V c * unit) (-2148) ∧ isN r = false := by
  rw [fma_fin ha hb hc] at h
  cases h
  refine ⟨?_, word_isN _ (rungOf_le_inf _ _)⟩
  rw [word_key _ (rungOf_le_inf _ _)]
  exact sgd_RK _ fun h0 => by rw [if_neg h0]
theorem cfma_some {x y z r : Nat} (h : double.fma x y z = some r) : cfma x y z = canon r := by unfold cfma; rw [h]
theorem cfma_none {x y z : Nat} (h : double.fma x y z = none) : cfma x y z = nanB := by unfold cfma; rw [h]
theorem neg_nan : Neg nanB nanB := ⟨rfl, fun e => absurd e (by decide)⟩
theorem neg_inf (s : Bool) : Neg (canon (double.word s infR)) (canon (double.word (!s) infR)) := by cases s <;> (unfold Neg; decide)

theorem same_rung {a c : Nat} (h : Neg a c) (hN : isN a = false) : a % p63 = c % p63 := by
  have := h.2 hN
  rw [key_eq, key_eq] at this
  unfold sgd at this
  cases neg a <;> cases neg c <;> simp at this <;> omega

/-- An infinite factor leaves no number. -/
theorem mulRest_inf {a b : Nat} (h : a % p63 = infR ∨ b % p63 = infR) (ha : isN a = false) (hb : isN b = false) : mulRest a b = nanB := by
  have la := isN_false ha; have lb := isN_false hb
  have hp : (double.read a).product (double.read b) = none ∨ ∃ s, (double.read a).product (double.read b) = some (.infinity s) := by
    by_cases fa : a % p63 < infR
    · have ib : b % p63 = infR := by omega
      obtain ⟨m, i, r1, _, _⟩ := read_fin fa
      rw [r1, read_inf ib]
      by_cases m0 : m = 0
      · left; simp [Ieee.Datum.product, m0]
      · right; exact ⟨_, by simp only [Ieee.Datum.product, m0, if_false]; rfl⟩
    · rw [read_inf (by omega : a % p63 = infR)]
      by_cases fb : b % p63 < infR
      · obtain ⟨m, i, r1, _, _⟩ := read_fin fb
        rw [r1]
        by_cases m0 : m = 0
        · left; simp [Ieee.Datum.product, m0]
        · right; exact ⟨_, by simp only [Ieee.Datum.product, m0, if_false]; rfl⟩
      · rw [read_inf (by omega : b % p63 = infR)]; right; exact ⟨_, rfl⟩
  unfold mulRest
  rcases hp with hp | ⟨s, hp⟩
  · apply cfma_none; unfold Ieee.Format.fma; rw [hp]; rfl
  · have e : floatBits .mul .f64 a b = some (double.word s infR) := by
      unfold floatBits; simp only [FloatKind.format, Ieee.Format.mul]; rw [hp]; rfl
    have c : cop .mul a b = double.word s infR := by rw [cop_some e]; cases s <;> decide
    apply cfma_none
    unfold Ieee.Format.fma
    rw [hp, c]
    cases s <;> decide

/-- What a product leaves, of one factor turned. -/
theorem mulRest_neg {a b c : Nat} (h : Neg a c) : Neg (mulRest a b) (mulRest c b) := by
  cases ha : isN a
  · have hc : isN c = false := h.1 ▸ ha
    cases hb : isN b
    · have la := isN_false ha; have lb := isN_false hb
      have hr := same_rung h ha
      by_cases hi : a % p63 = infR ∨ b % p63 = infR
      · rw [mulRest_inf hi ha hb, mulRest_inf (by rw [← hr]; exact hi) hc hb]; exact neg_nan
      · have fa : a % p63 < infR := by omega
        have fb : b % p63 < infR := by omega
        have fc : c % p63 < infR := by omega
        have e1 := mul_fin fa fb
        have e2 := mul_fin fc fb
        rw [← hr] at e2
        generalize hR : rungOf (U (a % p63) * U (b % p63)) (-2148) = R at *
        have hle : R ≤ infR := by rw [← hR]; exact rungOf_le_inf _ _
        have c1 : cop .mul a b = double.word (neg a ^^ neg b) R := by rw [cop_some (op := .mul) e1, canon_num (word_isN _ hle)]
        have c2 : cop .mul c b = double.word (neg c ^^ neg b) R := by rw [cop_some (op := .mul) e2, canon_num (word_isN _ hle)]
        have f1 : flip (cop .mul a b) = double.word (!(neg a ^^ neg b)) R := by rw [flip_eq (cop_lt _ _ _), c1, word_neg _ hle, word_mod _ hle]
        have f2 : flip (cop .mul c b) = double.word (!(neg c ^^ neg b)) R := by rw [flip_eq (cop_lt _ _ _), c2, word_neg _ hle, word_mod _ hle]
        unfold mulRest
        rw [f1, f2]
        by_cases hRi : R = infR
        · have hnz : a % p63 ≠ 0 := fun e => by
            rw [e, U_zero, Nat.zero_mul, rungOf_zero] at hR
            rw [hRi] at hR; exact absurd hR (by decide)
          have hs : neg c = !neg a := by
            have k := h.2 ha
            rw [key_eq, key_eq, ← hr] at k
            unfold sgd at k
            cases hn : neg a <;> cases hm : neg c <;> simp [hn, hm] at k ⊢ <;> omega
          obtain ⟨m, i, r1, _, _⟩ := read_fin fa
          obtain ⟨n, j, r2, _, _⟩ := read_fin fb
          obtain ⟨m', i', r3, _, _⟩ := read_fin fc
          have g1 : double.fma a b (double.word (!(neg a ^^ neg b)) R) = some (double.word (!(neg a ^^ neg b)) infR) := by
            unfold Ieee.Format.fma; rw [r1, r2, hRi, read_inf (word_mod _ (Nat.le_refl _)), word_neg _ (Nat.le_refl _)]; rfl
          have g2 : double.fma c b (double.word (!(neg c ^^ neg b)) R) = some (double.word (!(neg c ^^ neg b)) infR) := by
            unfold Ieee.Format.fma; rw [r3, r2, hRi, read_inf (word_mod _ (Nat.le_refl _)), word_neg _ (Nat.le_refl _)]; rfl
          rw [cfma_some g1, cfma_some g2, hs, show (!(!neg a ^^ neg b)) = !(!(neg a ^^ neg b)) by cases neg a <;> cases neg b <;> rfl]
          exact neg_inf _
        · have w1 : double.word (!(neg a ^^ neg b)) R % p63 < infR := by rw [word_mod _ hle]; omega
          have w2 : double.word (!(neg c ^^ neg b)) R % p63 < infR := by rw [word_mod _ hle]; omega
          have g1 := fma_fin fa fb w1
          have g2 := fma_fin fc fb w2
          have k1 := fma_key fa fb w1 g1
          have k2 := fma_key fc fb w2 g2
          rw [cfma_some g1, cfma_some g2, canon_num k1.2, canon_num k2.2]
          refine ⟨by rw [k1.2, k2.2], fun _ => ?_⟩
          rw [k1.1, k2.1, ← RK_neg]
          congr 1
          have va := V_neg (h.2 ha)
          rw [va, word_V _ hle, word_V _ hle, Int.neg_mul]
          by_cases hnz : a % p63 = 0
          · have hR0 : R = 0 := by rw [← hR, hnz, U_zero, Nat.zero_mul, rungOf_zero]
            rw [hR0, U_zero]
            have : ∀ s, sgd s 0 = 0 := fun s => by cases s <;> rfl
            rw [this, this]; omega
          · have hs : neg c = !neg a := by
              have k := h.2 ha
              rw [key_eq, key_eq, ← hr] at k
              unfold sgd at k
              cases hn : neg a <;> cases hm : neg c <;> simp [hn, hm] at k ⊢ <;> omega
            rw [hs, show (!(!neg a ^^ neg b)) = !(!(neg a ^^ neg b)) by cases neg a <;> cases neg b <;> rfl]
            generalize (!(neg a ^^ neg b)) = s
            have : sgd s (U R) = - sgd (!s) (U R) := by cases s <;> simp [sgd]
            rw [this, Int.neg_mul]; omega
    · rw [show mulRest a b = nanB from cfma_none (fma_nan_mid _ _ hb), show mulRest c b = nanB from cfma_none (fma_nan_mid _ _ hb)]; exact neg_nan
  · rw [show mulRest a b = nanB from cfma_none (fma_nan_left _ _ ha), show mulRest c b = nanB from cfma_none (fma_nan_left _ _ (h.1 ▸ ha))]; exact neg_nan

/-- A product of one factor turned. -/
theorem mul_neg {a b c : Nat} (h : Neg a c) : Neg (cop .mul a b) (cop .mul c b) := by
  cases ha : isN a
  · have hc : isN c = false := h.1 ▸ ha
    cases hb : isN b
    · have la := isN_false ha; have lb := isN_false hb
      have hr := same_rung h ha
      by_cases fa : a % p63 < infR
      · have fc : c % p63 < infR := by omega
        by_cases fb : b % p63 < infR
        · have e1 := mul_fin fa fb
          have e2 := mul_fin fc fb
          have k1 := mul_key fa fb e1
          have k2 := mul_key fc fb e2
          rw [cop_some (op := .mul) e1, cop_some (op := .mul) e2, canon_num k1.2.1, canon_num k2.2.1]
          refine ⟨by rw [k1.2.1, k2.2.1], fun _ => ?_⟩
          rw [k1.1, k2.1, V_neg (h.2 ha), Int.neg_mul, RK_neg]
        · have ib : b % p63 = infR := by omega
          by_cases hnz : a % p63 = 0
          · have z1 : floatBits .mul .f64 a b = none := by
              obtain ⟨m, i, r1, _, q⟩ := read_fin fa
              rw [hnz, U_zero] at q
              have m0 : m = 0 := by
                rcases Nat.mul_eq_zero.1 q with g | g
                · exact g
                · have := Nat.two_pow_pos (i + 1074).toNat; omega
              unfold floatBits; simp only [FloatKind.format, Ieee.Format.mul]; rw [r1, read_inf ib]; simp [Ieee.Datum.product, m0]
            have z2 : floatBits .mul .f64 c b = none := by
              obtain ⟨m, i, r1, _, q⟩ := read_fin fc
              rw [← hr, hnz, U_zero] at q
              have m0 : m = 0 := by
                rcases Nat.mul_eq_zero.1 q with g | g
                · exact g
                · have := Nat.two_pow_pos (i + 1074).toNat; omega
              unfold floatBits; simp only [FloatKind.format, Ieee.Format.mul]; rw [r1, read_inf ib]; simp [Ieee.Datum.product, m0]
            unfold cop; rw [z1, z2]; exact neg_nan
          · have hs : neg c = !neg a := by
              have k := h.2 ha
              rw [key_eq, key_eq, ← hr] at k
              unfold sgd at k
              cases hn : neg a <;> cases hm : neg c <;> simp [hn, hm] at k ⊢ <;> omega
            have z1 : floatBits .mul .f64 a b = some (double.word (neg a ^^ neg b) infR) := by
              obtain ⟨m, i, r1, _, q⟩ := read_fin fa
              have m0 : m ≠ 0 := fun e => by rw [e, Nat.zero_mul] at q; exact hnz (U_inj (q.symm.trans U_zero.symm))
              unfold floatBits; simp only [FloatKind.format, Ieee.Format.mul]; rw [r1, read_inf ib]; simp [Ieee.Datum.product, m0]; cases neg a <;> cases neg b <;> rfl
            have z2 : floatBits .mul .f64 c b = some (double.word (neg c ^^ neg b) infR) := by
              obtain ⟨m, i, r1, _, q⟩ := read_fin fc
              have m0 : m ≠ 0 := fun e => by rw [e, Nat.zero_mul] at q; exact hnz (hr.trans (U_inj (q.symm.trans U_zero.symm)))
              unfold floatBits; simp only [FloatKind.format, Ieee.Format.mul]; rw [r1, read_inf ib]; simp [Ieee.Datum.product, m0]; cases neg c <;> cases neg b <;> rfl
            rw [cop_some z1, cop_some z2, hs, show (!neg a ^^ neg b) = !(neg a ^^ neg b) by cases neg a <;> cases neg b <;> rfl]
            exact neg_inf _
      · have ia : a % p63 = infR := by omega
        obtain ⟨ic, nc⟩ := inf_neg_of h ha ia
        by_cases fb : b % p63 < infR
        · obtain ⟨m, i, r1, _, _⟩ := read_fin fb
          by_cases m0 : m = 0
          · have z1 : floatBits .mul .f64 a b = none := by
              unfold floatBits; simp only [FloatKind.format, Ieee.Format.mul]; rw [r1, read_inf ia]; simp [Ieee.Datum.product, m0]
            have z2 : floatBits .mul .f64 c b = none := by
              unfold floatBits; simp only [FloatKind.format, Ieee.Format.mul]; rw [r1, read_inf ic]; simp [Ieee.Datum.product, m0]
            unfold cop; rw [z1, z2]; exact neg_nan
          · have z1 : floatBits .mul .f64 a b = some (double.word (neg a ^^ neg b) infR) := by
              unfold floatBits; simp only [FloatKind.format, Ieee.Format.mul]; rw [r1, read_inf ia]; simp [Ieee.Datum.product, m0]; rfl
            have z2 : floatBits .mul .f64 c b = some (double.word (neg c ^^ neg b) infR) := by
              unfold floatBits; simp only [FloatKind.format, Ieee.Format.mul]; rw [r1, read_inf ic]; simp [Ieee.Datum.product, m0]; rfl
            rw [cop_some z1, cop_some z2, nc, show (!neg a ^^ neg b) = !(neg a ^^ neg b) by cases neg a <;> cases neg b <;> rfl]
            exact neg_inf _
        · have ib : b % p63 = infR := by omega
          have z1 : floatBits .mul .f64 a b = some (double.word (neg a ^^ neg b) infR) := by
            unfold floatBits; simp only [FloatKind.format, Ieee.Format.mul]; rw [read_inf ib, read_inf ia]; rfl
          have z2 : floatBits .mul .f64 c b = some (double.word (neg c ^^ neg b) infR) := by
            unfold floatBits; simp only [FloatKind.format, Ieee.Format.mul]; rw [read_inf ib, read_inf ic]; rfl
          rw [cop_some z1, cop_some z2, nc, show (!neg a ^^ neg b) = !(neg a ^^ neg b) by cases neg a <;> cases neg b <;> rfl]
          exact neg_inf _
    · unfold cop; rw [fb_nan_right _ _ hb, fb_nan_right _ _ hb]; exact neg_nan
  · unfold cop; rw [fb_nan_left _ _ ha, fb_nan_left _ _ (h.1 ▸ ha)]; exact neg_nan

theorem sub_zero_neg (r : Nat) : Neg (cop .sub 0 r) r := by
  cases hN : isN r
  · have hr := isN_false hN
    by_cases hf : r % p63 < infR
    · have e := sub_fin (x := 0) (y := r) (by decide) hf
      have k := sub_key (x := 0) (y := r) (by decide) hf e
      rw [cop_some (op := .sub) e, canon_num k.2.1]
      refine ⟨by rw [k.2.1, hN], fun _ => ?_⟩
      rw [k.1, show V 0 = 0 by decide, Int.zero_sub, RK_neg, RK_V (Nat.le_of_lt hf)]
    · have hi : r % p63 = infR := by omega
      have e : floatBits .sub .f64 0 r = some (double.word (!neg r) infR) := by
        unfold floatBits; simp only [FloatKind.format, Ieee.Format.sub]; rw [read_inf hi]; rfl
      rw [cop_some e]
      unfold Neg
      rw [hN, key_eq r, hi]
      generalize neg r = s
      cases s <;> decide
  · unfold cop; rw [fb_nan_right _ _ hN]; exact ⟨by rw [hN]; decide, fun e => absurd e (by decide)⟩

/-- The difference of what is turned. -/
theorem sub_flip {a b : Nat} (hb : b < 18446744073709551616) : cop .sub a b = cop .add a (flip b) := by
  cases hN : isN b
  · have lb := isN_false hN
    by_cases fb : b % p63 < infR
    · have e : double.sub a b = double.add a (flip b) := by
        unfold Ieee.Format.sub Ieee.Format.add; rw [opposite_read b fb, flip_eq hb]
      unfold cop floatBits; simp only [FloatKind.format]; rw [e]
    · have ib : b % p63 = infR := by omega
      have e : double.sub a b = double.add a (flip b) := by
        unfold Ieee.Format.sub Ieee.Format.add
        rw [flip_eq hb, ib, read_inf ib, read_inf (word_mod _ (Nat.le_refl _)), word_neg _ (Nat.le_refl _)]; rfl
      unfold cop floatBits; simp only [FloatKind.format]; rw [e]
  · unfold cop; rw [fb_nan_right _ _ hN, fb_nan_right _ _ ((flip_isN hb).trans hN)]
theorem sub_neg {a b c d : Nat} (h : Neg a c) (g : Neg b d) (hb : b < 18446744073709551616) (hd : d < 18446744073709551616) : Neg (cop .sub a b) (cop .sub c d) := by
  rw [sub_flip hb, sub_flip hd]
  refine add_neg h ?_
  have e1 := flip_neg hb; have e2 := flip_neg hd
  refine ⟨by rw [e1.1, e2.1, g.1], fun hn => ?_⟩
  have n1 : isN b = false := e1.1 ▸ hn
  have n2 : isN d = false := g.1 ▸ n1
  have k1 := e1.2 hn
  have k2 := e2.2 (e2.1.trans n2)
  have k3 := g.2 n1
  omega
theorem sumRest_neg {a b c d : Nat} (h : Neg a c) (g : Neg b d) (ha : a < 18446744073709551616) (hc : c < 18446744073709551616) : Neg (sumRest a b) (sumRest c d) := by
  have hS := add_neg h g
  have hV := sub_neg hS h ha hc
  have hW := sub_neg hS hV (cop_lt _ _ _) (cop_lt _ _ _)
  unfold sumRest
  exact add_neg (sub_neg h hW (cop_lt _ _ _) (cop_lt _ _ _)) (sub_neg g hV (cop_lt _ _ _) (cop_lt _ _ _))

theorem up_neg {a c : Nat} (h : Neg a c) (ha : a < 18446744073709551616) (hc : c < 18446744073709551616) : Neg (upB a) (downB c) := by
  cases hN : isN a
  · have hM : isN c = false := h.1 ▸ hN
    obtain ⟨u1, u2, _⟩ := up_key ha hN
    obtain ⟨d1, d2, _⟩ := down_key hc hM
    refine ⟨by rw [u2, d2], fun _ => ?_⟩
    have k := h.2 hN
    rw [u1, d1]; split <;> split <;> omega
  · have hM : isN c = true := h.1 ▸ hN
    have e1 : upB a = nanB := by unfold upB; rw [if_pos hN]
    have e2 : downB c = nanB := by unfold downB; rw [if_pos hM]
    rw [e1, e2]; exact neg_nan
theorem scale_neg {a c : Nat} (h : Neg a c) (k : Int) : Neg (ldexpB a k) (ldexpB c k) := by
  cases hN : isN a
  · have hM : isN c = false := h.1 ▸ hN
    have hr := same_rung h hN
    unfold ldexpB
    rw [← hr]
    by_cases g : a % p63 = 0 ∨ infR ≤ a % p63
    · rw [if_pos g, if_pos g]; exact h
    · rw [if_neg g, if_neg g]
      have hle := rungOf_le_inf (U (a % p63)) (k - 1074)
      refine ⟨by rw [word_isN _ hle, word_isN _ hle], fun _ => ?_⟩
      rw [word_key _ hle, word_key _ hle]
      have hs : neg c = !neg a := by
        have k := h.2 hN
        rw [key_eq, key_eq, ← hr] at k
        unfold sgd at k
        cases hn : neg a <;> cases hm : neg c <;> simp [hn, hm] at k ⊢ <;> omega
      rw [hs]; cases neg a <;> simp [sgd]
  · have hM : isN c = true := h.1 ▸ hN
    have i1 := isN_true hN; have i2 := isN_true hM
    unfold ldexpB; rw [if_pos (.inr (by omega)), if_pos (.inr (by omega))]; exact h

end Go.Proofs.Ytbepaoliboooaaa
