/-
  Many whole numbers added, taken away, one by one: between what their from-to is.
-/
import Derived.Test.YtbepaoliboooaaaEnx
namespace Go.Proofs.Ytbepaoliboooaaa
open Ex
open Ieee (double)

theorem is_key {a b : Nat} {m n k : Int} (ha : Is a m k) (hb : Is b n k) : key a ≤ key b ↔ m ≤ n := by
  have h := is_le ha hb
  rw [leB_of ha.num hb.num] at h
  have := decide_eq_decide.1 h
  exact this
theorem is_keq {a b : Nat} {m k : Int} (ha : Is a m k) (hb : Is b m k) : key a = key b :=
  Int.le_antisymm ((is_key ha hb).2 (Int.le_refl _)) ((is_key hb ha).2 (Int.le_refl _))
theorem cadd_is {a b : Nat} {m n k : Int} (ha : Is a m k) (hb : Is b n k) (hf : Fits (m + n) k) (h1 : -9007199254740992 ≤ m + n) (h2 : m + n ≤ 9007199254740992) : Is (cop .add a b) (m + n) k := by
  obtain ⟨r, hr, hi⟩ := is_add ha hb hf
  rw [cop_some (show floatBits .add .f64 a b = some r from hr), canon_num hi.num]
  rw [rn_small h1 h2] at hi
  exact hi
theorem csub_is {a b : Nat} {m n k : Int} (ha : Is a m k) (hb : Is b n k) (hf : Fits (m - n) k) (h1 : -9007199254740992 ≤ m - n) (h2 : m - n ≤ 9007199254740992) : Is (cop .sub a b) (m - n) k := by
  obtain ⟨r, hr, hi⟩ := is_sub ha hb hf
  rw [cop_some (show floatBits .sub .f64 a b = some r from hr), canon_num hi.num]
  rw [rn_small h1 h2] at hi
  exact hi
theorem cmul_is {a b : Nat} {m n : Int} (ha : Is a m 0) (hb : Is b n 0) (hf : Fits (m * n) 0) (h1 : -9007199254740992 ≤ m * n) (h2 : m * n ≤ 9007199254740992) : Is (cop .mul a b) (m * n) 0 := by
  obtain ⟨r, hr, hi⟩ := is_mul ha hb (by decide) (by simpa using hf)
  rw [cop_some (show floatBits .mul .f64 a b = some r from hr), canon_num hi.num]
  rw [rn_small h1 h2] at hi
  simpa using hi
theorem fits_53 {m k : Int} (h1 : -9007199254740992 ≤ m) (h2 : m ≤ 9007199254740992) (hk : k ≤ 0) : Fits m k := fits_of 54 900 (by omega) (by omega) (by omega)

/-- So many times 2 to the -30. -/
def D30 (m : Int) : Nat := ldexpB (floatOfInt .f64 m) (-30)
theorem D30_is {m : Int} (h1 : -9007199254740992 ≤ m) (h2 : m ≤ 9007199254740992) : Is (D30 m) m (-30) := by
  have := is_scale (is_ofInt h1 h2) (-30) (by decide) (by simpa using fits_53 h1 h2 (by decide))
  simpa [D30] using this
theorem whole30 {x : Nat} {k : Int} (h : Is x k 0) : Is x (k * 1073741824) (-30) := by
  have := h.down 30 (by decide)
  simpa using this

structure SI (a b : Nat) (S : Int) (j : Nat) : Prop where
  ra : Ra a b
  l : key (D30 (S * 1073741824 - j)) ≤ key a
  m1 : key a ≤ key (D30 (S * 1073741824))
  m2 : key (D30 (S * 1073741824)) ≤ key b
  u : key b ≤ key (D30 (S * 1073741824 + j))
theorem SI.zero {x : Nat} (h : Is x 0 0) : SI x x 0 0 := by
  have hx : Is x 0 (-30) := by simpa using whole30 h
  have hd : Is (D30 0) 0 (-30) := D30_is (by decide) (by decide)
  have e := is_keq hx hd
  exact ⟨Ra.point h.fin, by simp [e], by simp [e], by simp [e], by simp [e]⟩
theorem out_wide30 {p q : Nat} {m n : Int} (hp : Is p m (-30)) (hq : Is q n (-30)) (hm : -9007199254740990 ≤ m) (hmn : m ≤ n) (hn : n ≤ 9007199254740990) :
    key (D30 (m - 1)) ≤ key (outP p q).1 ∧ key (outP p q).2 ≤ key (D30 (n + 1)) := by
  rw [outP_val hp.lt hq.lt hp.num hq.num ((is_key hp hq).2 hmn)]
  obtain ⟨D1, -, -⟩ := down_key hp.lt hp.num
  obtain ⟨U1, -, -⟩ := up_key hq.lt hq.num
  have k1 : ¬ key p ≤ key (D30 (m - 1)) := fun h => by
    have := (is_key hp (D30_is (m := m - 1) (by omega) (by omega))).1 h
    omega
  have k2 : ¬ key (D30 (n + 1)) ≤ key q := fun h => by
    have := (is_key (D30_is (m := n + 1) (by omega) (by omega)) hq).1 h
    omega
  constructor
  · show _ ≤ key (downB p)
    split at D1 <;> omega
  · show key (upB q) ≤ _
    split at U1 <;> omega
theorem SI.add {a b x : Nat} {S k : Int} {j : Nat} (h : SI a b S j) (hx : Is x k 0) (hS : -100000 ≤ S ∧ S ≤ 100000) (hk : -1000 ≤ k ∧ k ≤ 1000) (hj : j ≤ 1000) : SI (addP a b x x).1 (addP a b x x).2 (S + k) (j + 1) := by
  have X := whole30 hx
  have g := Ra.point hx.fin
  have DS := D30_is (m := S * 1073741824) (by omega) (by omega)
  have DL := D30_is (m := S * 1073741824 - j) (by omega) (by omega)
  have DU := D30_is (m := S * 1073741824 + j) (by omega) (by omega)
  have c1 := cadd_is DS X (fits_53 (by omega) (by omega) (by decide)) (by omega) (by omega)
  have c2 := cadd_is DL X (fits_53 (by omega) (by omega) (by decide)) (by omega) (by omega)
  have c3 := cadd_is DU X (fits_53 (by omega) (by omega) (by decide)) (by omega) (by omega)
  have DR : Ra (D30 (S * 1073741824 - j)) (D30 (S * 1073741824 + j)) := by
    have p1 := Ra.point DL.fin
    have p2 := Ra.point DU.fin
    exact ⟨p1.na, p2.nb, (is_key DL DU).2 (by omega), p1.la, p2.lb⟩
  have hm := add_op.mem h.ra g DS.num hx.num c1.num h.m1 h.m2 (Int.le_refl _) (Int.le_refl _)
  have hw := add_op.wd h.ra g DR g h.l h.u (Int.le_refl _) (Int.le_refl _)
  have ho := out_wide30 c2 c3 (by omega) (by omega) (by omega)
  have e1 : S * 1073741824 + k * 1073741824 = (S + k) * 1073741824 := by omega
  have e2 : S * 1073741824 - j + k * 1073741824 - 1 = (S + k) * 1073741824 - ((j + 1 : Nat) : Int) := by omega
  have e3 : S * 1073741824 + j + k * 1073741824 + 1 = (S + k) * 1073741824 + ((j + 1 : Nat) : Int) := by omega
  rw [e2, e3] at ho
  have eq := is_keq c1 (D30_is (m := S * 1073741824 + k * 1073741824) (by omega) (by omega))
  rw [e1] at eq
  refine ⟨add_op.ra h.ra g, Int.le_trans ho.1 hw.1, ?_, ?_, Int.le_trans hw.2 ho.2⟩
  · rw [← eq]; exact hm.1
  · rw [← eq]; exact hm.2
theorem SI.sub {a b x : Nat} {S k : Int} {j : Nat} (h : SI a b S j) (hx : Is x k 0) (hS : -100000 ≤ S ∧ S ≤ 100000) (hk : -1000 ≤ k ∧ k ≤ 1000) (hj : j ≤ 1000) : SI (subP a b x x).1 (subP a b x x).2 (S - k) (j + 1) := by
  have X := whole30 hx
  have g := Ra.point hx.fin
  have DS := D30_is (m := S * 1073741824) (by omega) (by omega)
  have DL := D30_is (m := S * 1073741824 - j) (by omega) (by omega)
  have DU := D30_is (m := S * 1073741824 + j) (by omega) (by omega)
  have c1 := csub_is DS X (fits_53 (by omega) (by omega) (by decide)) (by omega) (by omega)
  have c2 := csub_is DL X (fits_53 (by omega) (by omega) (by decide)) (by omega) (by omega)
  have c3 := csub_is DU X (fits_53 (by omega) (by omega) (by decide)) (by omega) (by omega)
  have DR : Ra (D30 (S * 1073741824 - j)) (D30 (S * 1073741824 + j)) := by
    have p1 := Ra.point DL.fin
    have p2 := Ra.point DU.fin
    exact ⟨p1.na, p2.nb, (is_key DL DU).2 (by omega), p1.la, p2.lb⟩
  have hm := sub_op.mem h.ra g DS.num hx.num c1.num h.m1 h.m2 (Int.le_refl _) (Int.le_refl _)
  have hw := sub_op.wd h.ra g DR g h.l h.u (Int.le_refl _) (Int.le_refl _)
  have ho := out_wide30 c2 c3 (by omega) (by omega) (by omega)
  have e1 : S * 1073741824 - k * 1073741824 = (S - k) * 1073741824 := by omega
  have e2 : S * 1073741824 - j - k * 1073741824 - 1 = (S - k) * 1073741824 - ((j + 1 : Nat) : Int) := by omega
  have e3 : S * 1073741824 + j - k * 1073741824 + 1 = (S - k) * 1073741824 + ((j + 1 : Nat) : Int) := by omega
  rw [e2, e3] at ho
  have eq := is_keq c1 (D30_is (m := S * 1073741824 - k * 1073741824) (by omega) (by omega))
  rw [e1] at eq
  refine ⟨sub_op.ra h.ra g, Int.le_trans ho.1 hw.1, ?_, ?_, Int.le_trans hw.2 ho.2⟩
  · rw [← eq]; exact hm.1
  · rw [← eq]; exact hm.2
theorem SI.within {a b x : Nat} {S : Int} {j : Nat} (h : SI a b S j) (hx : Is x S 0) (hS : -100000 ≤ S ∧ S ≤ 100000) : leB a x = true ∧ leB x b = true := by
  have eq := is_keq (whole30 hx) (D30_is (m := S * 1073741824) (by omega) (by omega))
  rw [leB_of h.ra.na hx.num, leB_of hx.num h.ra.nb, eq]
  exact ⟨decide_eq_true h.m1, decide_eq_true h.m2⟩
theorem small_key : key (D30 80) < key 4517329193108106637 := by decide +kernel
theorem SI.narrow {a b : Nat} {S : Int} {j : Nat} (h : SI a b S j) (hS : -100000 ≤ S ∧ S ≤ 100000) (hj : j ≤ 40) (w : World) : ltB (fval .sub w b a) 4517329193108106637 = true := by
  have DL := D30_is (m := S * 1073741824 - j) (by omega) (by omega)
  have DU := D30_is (m := S * 1073741824 + j) (by omega) (by omega)
  have c := csub_is DU DL (fits_53 (by omega) (by omega) (by decide)) (by omega) (by omega)
  have D8 := D30_is (m := 80) (by decide) (by decide)
  have k1 := (is_key c D8).2 (by omega)
  have pL := Ra.point DL.fin
  have pU := Ra.point DU.fin
  have la := pL.lb
  have ub := pU.la
  have h2 := h.l
  have h3 := h.u
  have hlb := h.ra.lb
  have hla := h.ra.la
  have ka := fl_key h.ra.na
  have kL := fl_key DL.num
  have nlow : isN (cop .add b (fl a)) = false := add_nh h.ra.nb (fl_isN h.ra.na) hlb (by omega)
  have nhi : isN (cop .add (D30 (S * 1073741824 + j)) (fl (D30 (S * 1073741824 - j)))) = false := by rw [← sub_add DL.num]; exact c.num
  have hh := add_high h.ra.nb (fl_isN h.ra.na) DU.num (fl_isN DL.num) (by have := pU.lb; omega) (by have := pL.la; omega) h3 (by omega) nlow
  rw [← sub_add DL.num, ← sub_add h.ra.na] at hh
  rw [← sub_add h.ra.na] at nlow
  have hs := small_key
  have e1 : canon (fval .sub w b a) = cop .sub b a := canon_fval _ _ _ _
  have nf : isN (fval .sub w b a) = false := by rw [← isN_canon, e1]; exact nlow
  have e2 : fval .sub w b a = cop .sub b a := by rw [← e1, canon_num nf]
  rw [e2, ltB_of nlow (by decide)]
  exact decide_eq_true (by omega)

structure PI2 (a b : Nat) (T : Int) : Prop where
  ra : Ra a b
  m1 : key a ≤ key (floatOfInt .f64 T)
  m2 : key (floatOfInt .f64 T) ≤ key b
theorem PI2.mul {a b x : Nat} {T k : Int} (h : PI2 a b T) (hx : Is x k 0) (hT : -1099511627776 < T ∧ T < 1099511627776) (hk : -1000 ≤ k ∧ k ≤ 1000) : PI2 (mulP a b x x).1 (mulP a b x x).2 (T * k) ∧ -1099511627776000 ≤ T * k ∧ T * k ≤ 1099511627776000 := by
  have b1 : -1099511627776000 ≤ T * k ∧ T * k ≤ 1099511627776000 := by
    have h1 : T.natAbs * k.natAbs ≤ 1099511627776 * 1000 := Nat.mul_le_mul (by omega) (by omega)
    rw [← Int.natAbs_mul] at h1
    omega
  have g := Ra.point hx.fin
  have IT := is_ofInt (n := T) (by omega) (by omega)
  have c1 := cmul_is IT hx (fits_53 (by omega) (by omega) (by decide)) (by omega) (by omega)
  have hm := mul_op.mem h.ra g IT.num hx.num c1.num h.m1 h.m2 (Int.le_refl _) (Int.le_refl _)
  have eq := is_keq c1 (is_ofInt (n := T * k) (by omega) (by omega))
  refine ⟨⟨mul_op.ra h.ra g, ?_, ?_⟩, b1⟩
  · rw [← eq]; exact hm.1
  · rw [← eq]; exact hm.2
theorem PI2.within {a b : Nat} {T : Int} (h : PI2 a b T) (h1 : -9007199254740992 ≤ T) (h2 : T ≤ 9007199254740992) : leB a (floatOfInt .f64 T) = true ∧ leB (floatOfInt .f64 T) b = true := by
  have hx := is_ofInt (n := T) h1 h2
  rw [leB_of h.ra.na hx.num, leB_of hx.num h.ra.nb]
  exact ⟨decide_eq_true h.m1, decide_eq_true h.m2⟩
theorem PI2.one {x : Nat} (h : Is x 1 0) : PI2 x x 1 := by
  have e := is_keq h (is_ofInt (n := 1) (by decide) (by decide))
  exact ⟨Ra.point h.fin, by rw [e]; exact Int.le_refl _, by rw [e]; exact Int.le_refl _⟩
end Go.Proofs.Ytbepaoliboooaaa
