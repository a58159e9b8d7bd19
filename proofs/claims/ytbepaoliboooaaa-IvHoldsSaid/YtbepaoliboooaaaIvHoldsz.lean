/-
  'IvHolds': whatever it is given.
-/
import Derived.Test.YtbepaoliboooaaaIvx
import Derived.Test.YtbepaoliboooaaaMr
import Derived.Test.YtbepaoliboooaaaEnb
namespace Go.Proofs.Ytbepaoliboooaaa
open Ex

def e52 : Nat := 52
def e134 : Nat := 134
def e914 : Nat := 914
def e994 : Nat := 994
def e2046 : Nat := 2046
theorem U_inf : U infR = 2 ^ e52 * 2 ^ e2046 := by
  have h1 : infR % p52 = 0 := by decide
  have h2 : infR / p52 - 1 = e2046 := by decide
  have h3 : p52 = 2 ^ e52 := by decide
  unfold U
  rw [if_neg (by decide), h1, h2, Nat.add_zero, h3]
theorem sm_of {m : Int} {B e : Nat} (h : m.natAbs < 2 ^ B) (hB : B + e ≤ 2098) : Sm (m * (2 ^ e : Nat)) := by
  have h1 : m.natAbs * 2 ^ e < 2 ^ B * 2 ^ e := Nat.mul_lt_mul_of_pos_right h (Nat.two_pow_pos e)
  have h2 : 2 ^ B * 2 ^ e ≤ U infR := by
    rw [← Nat.pow_add, U_inf, ← Nat.pow_add]
    have : e52 + e2046 = 2098 := rfl
    exact Nat.pow_le_pow_right (by decide) (by omega)
  have h3 : (m * (2 ^ e : Nat)).natAbs < U infR := by rw [Int.natAbs_mul, Int.natAbs_natCast]; omega
  generalize m * ((2 ^ e : Nat) : Int) = t at *
  unfold Sm
  omega
theorem low_eq : 1074 = low74 := rfl
theorem unit_eq : (2 ^ 1074 : Nat) = unit := by rw [unit_def, ← low_eq]
theorem quo_num {m y : Nat} (hm : isN m = false) (hl : m < 18446744073709551616) (hy : y % p63 < infR) (h0 : key y ≠ 0) : isN (cop .quo m y) = false := by
  by_cases h1 : key m = infR
  · rw [is_pi hl h1]
    rcases Int.lt_or_gt_of_ne h0 with g | g
    · rw [((quo_infs' hy h0).2 g).2]; decide
    · rw [((quo_infs' hy h0).1 g).2]; decide
  · by_cases h2 : key m = -(infR : Int)
    · rw [is_ni hl h2]
      rcases Int.lt_or_gt_of_ne h0 with g | g
      · rw [((quo_infs' hy h0).2 g).1]; decide
      · rw [((quo_infs' hy h0).1 g).1]; decide
    · exact (quo_val (fin_of_key hm h1 h2) hy h0).1
/-- What is around four is around each. -/
theorem around_in {p q r t a : Nat} (hp : isN p = false ∧ p < 18446744073709551616) (hq : isN q = false ∧ q < 18446744073709551616) (hr : isN r = false ∧ r < 18446744073709551616) (ht : isN t = false ∧ t < 18446744073709551616) (ha : isN a = false) :
    ((key p ≤ key a ∨ key q ≤ key a ∨ key r ≤ key a ∨ key t ≤ key a) → leB (aroundP p q r t).1 a = true) ∧ ((key a ≤ key p ∨ key a ≤ key q ∨ key a ≤ key r ∨ key a ≤ key t) → leB a (aroundP p q r t).2 = true) := by
  obtain ⟨l1, l2, l3⟩ := minL4 hp.1 hq.1 hr.1 ht.1
  obtain ⟨x1, x2, x3⟩ := maxL4 hp.1 hq.1 hr.1 ht.1
  have b1 := mem4_lt l3 hp.2 hq.2 hr.2 ht.2
  have b2 := mem4_lt x3 hp.2 hq.2 hr.2 ht.2
  unfold aroundP
  rw [hp.1, hq.1, hr.1, ht.1]
  simp only [Bool.or_self, cond_false]
  clear l3 x3
  generalize minL p [p, q, r, t] = L at *
  generalize maxL p [p, q, r, t] = M at *
  have hLM : key L ≤ key M := by rw [l2, x2]; omega
  rw [outP_val b1 b2 l1 x1 hLM]
  obtain ⟨D1, D2, -⟩ := down_key b1 l1
  obtain ⟨U1, U2, -⟩ := up_key b2 x1
  have k1 := key_abs l1
  have k2 := key_abs x1
  rw [leB_of D2 ha, leB_of ha U2]
  simp only [decide_eq_true_eq]
  constructor
  · intro h
    have : key L ≤ key a := by rw [l2]; rcases h with h | h | h | h <;> omega
    split at D1 <;> omega
  · intro h
    have : key a ≤ key M := by rw [x2]; rcases h with h | h | h | h <;> omega
    split at U1 <;> omega

theorem lo_le {x a : Nat} (h : Lo x (V a)) (ha : isN a = false) : leB x a = true := by
  rw [leB_of h.1 ha]
  simp only [decide_eq_true_eq]
  rcases h.2 with g | g
  · have := key_abs ha; omega
  · exact V_le.1 g
theorem hi_ge {x a : Nat} (h : Hi x (V a)) (ha : isN a = false) : leB a x = true := by
  rw [leB_of ha h.1]
  simp only [decide_eq_true_eq]
  rcases h.2 with g | g
  · have := key_abs ha; omega
  · exact V_le.1 g
end Go.Proofs.Ytbepaoliboooaaa

namespace Go.Proofs.Ytbepaoliboooaaa
open Go.RowKit Ex
namespace Ex
open Go
variable {P : Program} {V : Val}
/-- A rest: no less than 0. -/
def atomN : E → Bool
  | .ai 9 j (.ci _ (.ci (.li n) .n0)) => Nat.beq j 0 && decide (1 ≤ n)
  | _ => false
theorem atomN_ok (hV : StdV V) {e : E} (h : atomN e = true) : 0 ≤ evI V e := by
  unfold atomN at h
  split at h
  · rename_i j a n
    simp only [Bool.and_eq_true, decide_eq_true_eq] at h
    show 0 ≤ V.fi 9 j _
    rw [hV.i _ _ _ (by decide)]
    show 0 ≤ evI V a % n
    exact Int.emod_nonneg _ (by omega)
  · cases h
theorem prodN_ok (hV : StdV V) : ∀ {l : List E}, l.all atomN = true → 0 ≤ prodM V l
  | [], _ => by unfold prodM; decide
  | a :: l, h => by
    simp only [List.all_cons, Bool.and_eq_true] at h
    unfold prodM
    exact Int.mul_nonneg (atomN_ok hV h.1) (prodN_ok hV h.2)
/-- No less than this. -/
def lowT : List (List E × Int) → Option Int
  | [] => some 0
  | ([], k) :: l => match lowT l with
    | some b => some (k + b)
    | none => none
  | (a, k) :: l => bif decide (0 ≤ k) && a.all atomN then lowT l else none
theorem lowT_ok (hV : StdV V) : ∀ {ts : List (List E × Int)} {b : Int}, lowT ts = some b → b ≤ evT V ts
  | [], b, h => by simp only [lowT, Option.some.injEq] at h; subst h; exact Int.le_refl _
  | ([], k) :: l, b, h => by
    unfold lowT at h
    split at h
    · rename_i c hc
      simp only [Option.some.injEq] at h
      subst h
      have := lowT_ok hV hc
      show k + c ≤ k * 1 + evT V l
      omega
    · cases h
  | (a :: m, k) :: l, b, h => by
    unfold lowT at h
    cases hc : (decide (0 ≤ k) && (a :: m).all atomN) <;> rw [hc] at h
    · cases h
    · simp only [cond_true] at h
      simp only [Bool.and_eq_true, decide_eq_true_eq] at hc
      have h1 := lowT_ok hV h
      have h2 := Int.mul_nonneg hc.1 (prodN_ok hV hc.2)
      show b ≤ k * prodM V (a :: m) + evT V l
      omega
def posD (e : E) : Bool := match linI e with
  | some p => match lowT p.ts with
    | some b => decide (1 ≤ b) && decide (p.hi ≤ 9223372036854775807)
    | none => false
  | none => false
theorem posD_ok (hV : StdV V) {e : E} (h : posD e = true) : 1 ≤ evI V e ∧ evI V e ≤ 9223372036854775807 := by
  unfold posD at h
  split at h
  · rename_i p hp
    have ok := linI_ok hV hp
    split at h
    · rename_i b hb
      simp only [Bool.and_eq_true, decide_eq_true_eq] at h
      have := lowT_ok hV hb
      have e1 := ok.eq
      have e2 := ok.hi
      omega
    · cases h
  · cases h
def withinP (args : List SV) : Option SV :=
  match withinS [] args with
  | some v => some v
  | none => match args with
    | [.c a, .c n] => match toI64 a, toI64 n with
      | some ea, some en => bif posD en then some (.c (.ei .i64 (.ai 9 0 (.ci ea (.ci en .n0))))) else none
      | _, _ => none
    | _ => none
theorem withinP_holds (hV : StdV V) {f : Nat} (hw : ∀ (a n : Int) (w : World), 1 ≤ n → n ≤ 9223372036854775807 → Calls P f #[.int .i64 a, .int .i64 n] w fun e w' => e = .returned (.int .i64 (a % n)) ∧ Go.RowKit.Below w.heap.size w w') : Holds P V f withinP := by
  intro args v h ρ vs w hargs
  unfold withinP at h
  split at h
  · rename_i u hu
    simp only [Option.some.injEq] at h
    subst h
    exact withinS_holds hV hw (t := []) (fun _ _ _ h => by cases h) args _ hu ρ vs w hargs
  · split at h
    · rename_i a n
      split at h
      · rename_i ea en h1 h2
        cases hp : posD en <;> rw [hp] at h
        · cases h
        · simp only [cond_true, Option.some.injEq] at h
          subst h
          obtain ⟨u1, u2, rfl, g1, g2⟩ := args_two hargs
          have e1 := toI64_ok h1 g1
          have e2 := toI64_ok h2 g2
          subst e1; subst e2
          obtain ⟨b1, b2⟩ := posD_ok hV hp
          exact (hw _ _ w b1 b2).mono fun e' w' ⟨he, hb⟩ => ⟨_, he, by
            show Value.int .i64 (evI V ea % evI V en) = .int .i64 (evI V (.ai 9 0 (.ci ea (.ci en .n0))))
            simp [evI, evS, hV.i, stdI], hb⟩
      · cases h
    · cases h
end Ex
def ctrP : List (Nat × Ctr1) := (43, pureC withinP) :: ctrS
theorem ctrP_ok {V : Val} (hV : MkV V) : CtrOK Try.prog V (ctrOf ctrP) := ctr_cons (withinP_holds hV.toIvV.toStdV within2r_any) (ctrS_ok hV)
/-- One run. -/
noncomputable def lawRunP (f nx k : Nat) (ks : List Kd) (F : List Cf) : Bool := drive k (fun g => xcall Try.prog (ctrOf ctrP) g 1000000 100 f (svs 0 ks) .nil nx) (.cf F)
theorem law_ofP {ds : List AD} {f nx0 k : Nat} (hnx : ds.length ≤ nx0) {F : List Cf} (hF : CfOK (adV ds mkX) F) {vs : Array Value} {w : World} (hargs : All2 (fun d v => ADOK w v d) ds vs.toList)
    (h : ∀ ks, ks ∈ shapes (ds.map AD.kind) → lawRunP f nx0 k ks F = true) :
    Calls Try.prog f vs w fun e w' => e = .returned (.bool true) ∧ Below w.heap.size w w' :=
  run_drive mixed namesAll (gam_cf (adM_ok ds).toStdV hF) (ctrP_ok (adM_ok ds)) hnx hargs fun ks hk => h ks hk
end Go.Proofs.Ytbepaoliboooaaa

namespace Go.Proofs.Ytbepaoliboooaaa
open Go.RowKit Ex

def wE (e : E) (n : E) : E := .ai 9 0 (.ci e (.ci n .n0))
def XE : E := .ib .sub .i64 (wE (.vi 0) (.li 2001)) (.li 1000)
def YE : E := .ib .sub .i64 (wE (.vi 2) (.li 2001)) (.li 1000)
def VE : E := .ib .add .i64 XE (wE (.vi 1) (.li 100))
def WE : E := .ib .add .i64 YE (wE (.vi 3) (.li 100))
def SE : E := .ib .add .i64 XE (wE (.vi 4) (.ib .add .i64 (.ib .sub .i64 VE XE) (.li 1)))
def TE : E := .ib .add .i64 YE (wE (.vi 5) (.ib .add .i64 (.ib .sub .i64 WE YE) (.li 1)))
def hq (o j : Nat) : E := .af o j (f4 (.i2f XE) (.i2f VE) (.i2f YE) (.i2f WE))
def hk (j : Nat) : E := .tf (.ic .lss TE (.li 0)) (.af 23 j (f4 (.i2f (.ib .mul .i64 VE TE)) (.i2f (.ib .mul .i64 XE TE)) (.i2f TE) (.i2f TE))) (.af 23 j (f4 (.i2f (.ib .mul .i64 XE TE)) (.i2f (.ib .mul .i64 VE TE)) (.i2f TE) (.i2f TE)))
def zT (b : Bool) : List (E × Bool) := [(.ic .eql TE (.li 0), b)]
def holdsF : List Cf := [([], .fc .leq (hq 20 0) (.i2f (.ib .add .i64 SE TE)), true), ([], .fc .leq (.i2f (.ib .add .i64 SE TE)) (hq 20 1), true), ([], .fc .leq (hq 21 0) (.i2f (.ib .sub .i64 SE TE)), true), ([], .fc .leq (.i2f (.ib .sub .i64 SE TE)) (hq 21 1), true),
  ([], .fc .leq (hq 22 0) (.i2f (.ib .mul .i64 SE TE)), true), ([], .fc .leq (.i2f (.ib .mul .i64 SE TE)) (hq 22 1), true), (zT true, .fc .eql (hq 23 0) (.lf NI), true), (zT true, .fc .eql (hq 23 1) (.lf PI), true),
  (zT false, .fc .leq (hk 0) (.i2f SE), true), (zT false, .fc .leq (.i2f SE) (hk 1), true), (zT false, .fc .leq (hk 0) (.i2f XE), true), (zT false, .fc .leq (.i2f XE) (hk 1), true), (zT false, .fc .leq (hk 0) (.i2f VE), true), (zT false, .fc .leq (.i2f VE) (hk 1), true)]
theorem wrap_small {n : Int} (h1 : -9223372036854775808 ≤ n) (h2 : n < 9223372036854775808) : wrapF .i64 n = n := by
  unfold wrapF
  simp only
  rw [decide_eq_true h1, decide_eq_true h2]; rfl
theorem ev_add64 {Z : Val} {a b : E} {x y : Int} (ha : evI Z a = x) (hb : evI Z b = y) (h1 : -4611686018427387904 ≤ x + y) (h2 : x + y ≤ 4611686018427387904) : evI Z (.ib .add .i64 a b) = x + y := by
  show wrapF .i64 (evI Z a + evI Z b) = _
  rw [ha, hb, wrap_small (by omega) (by omega)]
theorem ev_sub64 {Z : Val} {a b : E} {x y : Int} (ha : evI Z a = x) (hb : evI Z b = y) (h1 : -4611686018427387904 ≤ x - y) (h2 : x - y ≤ 4611686018427387904) : evI Z (.ib .sub .i64 a b) = x - y := by
  show wrapF .i64 (evI Z a - evI Z b) = _
  rw [ha, hb, wrap_small (by omega) (by omega)]
theorem ev_mul64 {Z : Val} {a b : E} {x y : Int} (ha : evI Z a = x) (hb : evI Z b = y) (h1 : -4611686018427387904 ≤ x * y) (h2 : x * y ≤ 4611686018427387904) : evI Z (.ib .mul .i64 a b) = x * y := by
  show wrapF .i64 (evI Z a * evI Z b) = _
  rw [ha, hb, wrap_small (by omega) (by omega)]
theorem ev_in {Z : Val} (hV : StdV Z) {e n : E} {k : Int} (hk : evI Z n = k) (h : 1 ≤ k) : ∃ r, evI Z (wE e n) = r ∧ 0 ≤ r ∧ r < k := by
  refine ⟨evI Z e % k, ?_, Int.emod_nonneg _ (by omega), Int.emod_lt_of_pos _ (by omega)⟩
  show Z.fi 9 0 _ = _
  rw [hV.i _ _ _ (by decide)]
  show evI Z e % evI Z n = _
  rw [hk]
theorem ev_lit {Z : Val} (n : Int) : evI Z (.li n) = n := rfl
/-- The numbers of the law. -/
theorem ev_nums {Z : Val} (hV : StdV Z) (e1 e2 e3 : E) : ∃ x v s : Int, evI Z (.ib .sub .i64 (wE e1 (.li 2001)) (.li 1000)) = x ∧ evI Z (.ib .add .i64 (.ib .sub .i64 (wE e1 (.li 2001)) (.li 1000)) (wE e2 (.li 100))) = v ∧
    evI Z (.ib .add .i64 (.ib .sub .i64 (wE e1 (.li 2001)) (.li 1000)) (wE e3 (.ib .add .i64 (.ib .sub .i64 (.ib .add .i64 (.ib .sub .i64 (wE e1 (.li 2001)) (.li 1000)) (wE e2 (.li 100))) (.ib .sub .i64 (wE e1 (.li 2001)) (.li 1000))) (.li 1)))) = s ∧ x ≤ s ∧ s ≤ v ∧ -1000 ≤ x ∧ v ≤ 1100 := by
  obtain ⟨r1, h1, a1, b1⟩ := ev_in hV (e := e1) (ev_lit 2001) (by decide)
  have hx := ev_sub64 h1 (ev_lit 1000) (by omega) (by omega)
  obtain ⟨r2, h2, a2, b2⟩ := ev_in hV (e := e2) (ev_lit 100) (by decide)
  have hv := ev_add64 hx h2 (by omega) (by omega)
  have hn := ev_add64 (ev_sub64 hv hx (by omega) (by omega)) (ev_lit 1) (by omega) (by omega)
  obtain ⟨r3, h3, a3, b3⟩ := ev_in hV (e := e3) hn (by omega)
  have hs := ev_add64 hx h3 (by omega) (by omega)
  exact ⟨_, _, _, hx, hv, hs, by omega, by omega, by omega, by omega⟩
theorem ev_i2f {Z : Val} {e : E} {n : Int} (h : evI Z e = n) : evF Z (.i2f e) = floatOfInt .f64 n := by rw [← h]; rfl
/-- A whole number as a float: exactly, beside others. -/
theorem int_V {n : Int} (h1 : -9007199254740992 ≤ n) (h2 : n ≤ 9007199254740992) : V (floatOfInt .f64 n) = n * (2 ^ low74 : Nat) := by rw [V_ofInt h1 h2, unit_def]
theorem int_mul {x y X Y : Int} (hx : -X ≤ x ∧ x ≤ X) (hy : -Y ≤ y ∧ y ≤ Y) : -(X * Y) ≤ x * y ∧ x * y ≤ X * Y := by
  have := nmul_le (x := x) (y := y) (X := X) (Y := Y) (by omega) (by omega)
  omega
theorem hold_add {x v y w s t : Int} (h1 : x ≤ s) (h2 : s ≤ v) (h3 : y ≤ t) (h4 : t ≤ w) (h5 : -1000 ≤ x) (h6 : v ≤ 1100) (h7 : -1000 ≤ y) (h8 : w ≤ 1100) :
    (leB (addP (floatOfInt .f64 x) (floatOfInt .f64 v) (floatOfInt .f64 y) (floatOfInt .f64 w)).1 (floatOfInt .f64 (s + t)) = true ∧ leB (floatOfInt .f64 (s + t)) (addP (floatOfInt .f64 x) (floatOfInt .f64 v) (floatOfInt .f64 y) (floatOfInt .f64 w)).2 = true) ∧
    (leB (subP (floatOfInt .f64 x) (floatOfInt .f64 v) (floatOfInt .f64 y) (floatOfInt .f64 w)).1 (floatOfInt .f64 (s - t)) = true ∧ leB (floatOfInt .f64 (s - t)) (subP (floatOfInt .f64 x) (floatOfInt .f64 v) (floatOfInt .f64 y) (floatOfInt .f64 w)).2 = true) ∧
    (leB (mulP (floatOfInt .f64 x) (floatOfInt .f64 v) (floatOfInt .f64 y) (floatOfInt .f64 w)).1 (floatOfInt .f64 (s * t)) = true ∧ leB (floatOfInt .f64 (s * t)) (mulP (floatOfInt .f64 x) (floatOfInt .f64 v) (floatOfInt .f64 y) (floatOfInt .f64 w)).2 = true) := by
  have hst := int_mul (x := s) (y := t) (X := 1100) (Y := 1100) (by omega) (by omega)
  have P0 : (0 : Int) ≤ ((2 ^ low74 : Nat) : Int) := Int.natCast_nonneg _
  have le : ∀ {a b : Int}, a ≤ b → a * ((2 ^ low74 : Nat) : Int) ≤ b * ((2 ^ low74 : Nat) : Int) := fun h => Int.mul_le_mul_of_nonneg_right h P0
  have lo : ∀ {a b : Int}, -1100 ≤ a → a ≤ b → b ≤ 1100 → Lo (floatOfInt .f64 a) (b * (2 ^ low74 : Nat)) ∧ Hi (floatOfInt .f64 b) (a * (2 ^ low74 : Nat)) := fun {a b} g1 g2 g3 =>
    ⟨⟨ofInt_isN _, .inr (by rw [int_V (by omega) (by omega)]; exact le g2)⟩, ⟨ofInt_isN _, .inr (by rw [int_V (by omega) (by omega)]; exact le g2)⟩⟩
  have sm : ∀ {a : Int}, a.natAbs < 2 ^ 30 → Sm (a * (2 ^ low74 : Nat)) := fun h => sm_of (B := 30) h (by decide)
  have l1 := (lo (a := x) (b := s) (by omega) h1 (by omega)).1
  have l2 := (lo (a := s) (b := v) (by omega) h2 (by omega)).2
  have l3 := (lo (a := y) (b := t) (by omega) h3 (by omega)).1
  have l4 := (lo (a := t) (b := w) (by omega) h4 (by omega)).2
  have hs : Sm (s * (2 ^ low74 : Nat)) := sm (by omega)
  have ht : Sm (t * (2 ^ low74 : Nat)) := sm (by omega)
  have A := add_enc l1 l2 l3 l4 hs ht
  have B := sub_enc l1 l2 l3 l4 hs ht
  have M := mul_enc (R := s * t * (2 ^ low74 : Nat)) l1 l2 l3 l4 hs ht (by rw [unit_eq, unit_def]; generalize ((2 ^ low74 : Nat) : Int) = Q; ac_rfl)
  rw [← Int.add_mul, ← int_V (n := s + t) (by omega) (by omega)] at A
  rw [← Int.sub_mul, ← int_V (n := s - t) (by omega) (by omega)] at B
  rw [← int_V (n := s * t) (by omega) (by omega)] at M
  exact ⟨⟨lo_le A.1 (ofInt_isN _), hi_ge A.2 (ofInt_isN _)⟩, ⟨lo_le B.1 (ofInt_isN _), hi_ge B.2 (ofInt_isN _)⟩, ⟨lo_le M.1 (ofInt_isN _), hi_ge M.2 (ofInt_isN _)⟩⟩
theorem quo_int {x t : Int} (hx : -1100 ≤ x ∧ x ≤ 1100) (ht : -1100 ≤ t ∧ t ≤ 1100) (h0 : t ≠ 0) : isN (cop .quo (floatOfInt .f64 (x * t)) (floatOfInt .f64 t)) = false ∧ key (cop .quo (floatOfInt .f64 (x * t)) (floatOfInt .f64 t)) = key (floatOfInt .f64 x) := by
  have hm := int_mul (x := x) (y := t) (X := 1100) (Y := 1100) (by omega) (by omega)
  obtain ⟨r, e, h⟩ := is_quo (a := floatOfInt .f64 (x * t)) (b := floatOfInt .f64 t) (m := x) (n := t) (k := 0) (l := 0) (is_ofInt (by omega) (by omega)) (is_ofInt (by omega) (by omega)) h0 (by omega) (by omega) (by decide) (fits_of 20 30 (by omega) (by decide) (by decide))
  rw [Int.sub_self] at h
  have hi := is_ofInt (n := x) (by omega) (by omega)
  have hc : cop .quo (floatOfInt .f64 (x * t)) (floatOfInt .f64 t) = r := by
    have e' : floatBits .quo .f64 (floatOfInt .f64 (x * t)) (floatOfInt .f64 t) = some r := e
    unfold cop; rw [e']; exact canon_num h.num
  rw [hc]
  refine ⟨h.num, V_eq.1 ?_⟩
  rw [h.2.2.2, hi.2.2.2]
theorem int_key {a b : Int} (h : a ≤ b) (ha : -1100 ≤ a) (hb : b ≤ 1100) : key (floatOfInt .f64 a) ≤ key (floatOfInt .f64 b) := by
  rw [← V_le, int_V (by omega) (by omega), int_V (by omega) (by omega)]
  exact Int.mul_le_mul_of_nonneg_right h (Int.natCast_nonneg _)
theorem int_zero {t : Int} (ht : -1100 ≤ t ∧ t ≤ 1100) : (leB (floatOfInt .f64 t) 0 && leB 0 (floatOfInt .f64 t)) = decide (t = 0) := by
  have hi := is_ofInt (n := t) (by omega) (by omega)
  have h0 := is_ofInt (n := 0) (by omega) (by omega)
  have e : floatOfInt .f64 0 = 0 := by decide +kernel
  rw [e] at h0
  rw [is_le hi h0, is_le h0 hi]
  by_cases h : t = 0
  · subst h; rfl
  · rw [decide_eq_false h]
    by_cases g : t ≤ 0
    · rw [decide_eq_false (show ¬ 0 ≤ t by omega), Bool.and_false]
    · rw [decide_eq_false g, Bool.false_and]
theorem hold_div {x v s t : Int} (h1 : x ≤ s) (h2 : s ≤ v) (h3 : -1000 ≤ x) (h4 : v ≤ 1100) (ht : -1100 ≤ t ∧ t ≤ 1100) (h0 : t ≠ 0) {z : Int} (hz1 : x ≤ z) (hz2 : z ≤ v) :
    (leB (divP (floatOfInt .f64 (v * t)) (floatOfInt .f64 (x * t)) (floatOfInt .f64 t) (floatOfInt .f64 t)).1 (floatOfInt .f64 z) = true ∧ leB (floatOfInt .f64 z) (divP (floatOfInt .f64 (v * t)) (floatOfInt .f64 (x * t)) (floatOfInt .f64 t) (floatOfInt .f64 t)).2 = true) ∧
    (leB (divP (floatOfInt .f64 (x * t)) (floatOfInt .f64 (v * t)) (floatOfInt .f64 t) (floatOfInt .f64 t)).1 (floatOfInt .f64 z) = true ∧ leB (floatOfInt .f64 z) (divP (floatOfInt .f64 (x * t)) (floatOfInt .f64 (v * t)) (floatOfInt .f64 t) (floatOfInt .f64 t)).2 = true) := by
  have qx := quo_int (x := x) (t := t) (by omega) ht h0
  have qv := quo_int (x := v) (t := t) (by omega) ht h0
  have k1 := int_key hz1 (by omega) (by omega)
  have k2 := int_key hz2 (by omega) (by omega)
  unfold divP
  rw [int_zero ht, decide_eq_false h0]
  simp only [cond_false]
  have I := around_in (a := floatOfInt .f64 z) ⟨qv.1, cop_lt _ _ _⟩ ⟨qv.1, cop_lt _ _ _⟩ ⟨qx.1, cop_lt _ _ _⟩ ⟨qx.1, cop_lt _ _ _⟩ (ofInt_isN _)
  have J := around_in (a := floatOfInt .f64 z) ⟨qx.1, cop_lt _ _ _⟩ ⟨qx.1, cop_lt _ _ _⟩ ⟨qv.1, cop_lt _ _ _⟩ ⟨qv.1, cop_lt _ _ _⟩ (ofInt_isN _)
  rw [qx.2, qv.2] at I J
  exact ⟨⟨I.1 (.inr (.inr (.inl k1))), I.2 (.inl k2)⟩, ⟨J.1 (.inl k1), J.2 (.inr (.inr (.inl k2)))⟩⟩
theorem holdsF_ok {Z : Val} (hM : MkV Z) : CfOK Z holdsF := by
  have hV := hM.toIvV.toStdV
  obtain ⟨x, v, s, hx, hv, hs, i1, i2, i3', i4⟩ := ev_nums hV (.vi 0) (.vi 1) (.vi 4)
  obtain ⟨y, w, t, hy, hw, ht, j1, j2, j3, j4⟩ := ev_nums hV (.vi 2) (.vi 3) (.vi 5)
  have hx : evI Z XE = x := hx
  have hv : evI Z VE = v := hv
  have hs : evI Z SE = s := hs
  have hy : evI Z YE = y := hy
  have hw : evI Z WE = w := hw
  have ht : evI Z TE = t := ht
  have m1 := int_mul (x := s) (y := t) (X := 1100) (Y := 1100) (by omega) (by omega)
  have m2 := int_mul (x := v) (y := t) (X := 1100) (Y := 1100) (by omega) (by omega)
  have m3 := int_mul (x := x) (y := t) (X := 1100) (Y := 1100) (by omega) (by omega)
  have ea := ev_i2f (ev_add64 hs ht (by omega) (by omega))
  have es := ev_i2f (ev_sub64 hs ht (by omega) (by omega))
  have em := ev_i2f (ev_mul64 hs ht (by omega) (by omega))
  have evt := ev_i2f (ev_mul64 hv ht (by omega) (by omega))
  have ext := ev_i2f (ev_mul64 hx ht (by omega) (by omega))
  have fx := ev_i2f hx
  have fv := ev_i2f hv
  have fy := ev_i2f hy
  have fw := ev_i2f hw
  have fs := ev_i2f hs
  have ft := ev_i2f ht
  have A := hold_add i1 i2 j1 j2 i3' i4 j3 j4
  have D := fun (z : Int) (h0 : t ≠ 0) (a : x ≤ z) (b : z ≤ v) => hold_div i1 i2 i3' i4 (t := t) (by omega) h0 a b
  have eT : evB Z (.ic .eql TE (.li 0)) = decide (t = 0) := by show decide (evI Z TE = 0) = _; rw [ht]
  have lT : evB Z (.ic .lss TE (.li 0)) = decide (t < 0) := by show decide (evI Z TE < 0) = _; rw [ht]
  have W0 : t = 0 → divP (floatOfInt .f64 x) (floatOfInt .f64 v) (floatOfInt .f64 y) (floatOfInt .f64 w) = (NI, PI) := fun h0 => by
    have iy := is_ofInt (n := y) (by omega) (by omega)
    have iw := is_ofInt (n := w) (by omega) (by omega)
    have i0 := is_ofInt (n := 0) (by omega) (by omega)
    have e : floatOfInt .f64 0 = 0 := by decide +kernel
    rw [e] at i0
    unfold divP
    rw [is_le iy i0, is_le i0 iw, decide_eq_true (show y ≤ 0 by omega), decide_eq_true (show 0 ≤ w by omega)]; rfl
  have pick : ∀ (j : Nat) (p q : Nat), (∀ z, z = j → True) → evF Z (.af 23 j (f4 (.i2f (.ib .mul .i64 VE TE)) (.i2f (.ib .mul .i64 XE TE)) (.i2f TE) (.i2f TE))) = p → evF Z (.af 23 j (f4 (.i2f (.ib .mul .i64 XE TE)) (.i2f (.ib .mul .i64 VE TE)) (.i2f TE) (.i2f TE))) = q → evF Z (hk j) = p ∨ evF Z (hk j) = q := fun j p q _ hp hq => by
    unfold hk
    rw [ev_tf, lT, hp, hq]
    by_cases h : t < 0
    · rw [decide_eq_true h]; exact .inl rfl
    · rw [decide_eq_false h]; exact .inr rfl
  have e1 := ev23 hM (.i2f (.ib .mul .i64 VE TE)) (.i2f (.ib .mul .i64 XE TE)) (.i2f TE) (.i2f TE)
  have e2 := ev23 hM (.i2f (.ib .mul .i64 XE TE)) (.i2f (.ib .mul .i64 VE TE)) (.i2f TE) (.i2f TE)
  rw [evt, ext, ft] at e1 e2
  have p0 := pick 0 _ _ (fun _ _ => trivial) e1.1 e2.1
  have p1 := pick 1 _ _ (fun _ _ => trivial) e1.2 e2.2
  have lo : ∀ z, t ≠ 0 → x ≤ z → z ≤ v → leB (evF Z (hk 0)) (floatOfInt .f64 z) = true ∧ leB (floatOfInt .f64 z) (evF Z (hk 1)) = true := fun z h0 a b => by
    obtain ⟨⟨d1, d2⟩, d3, d4⟩ := D z h0 a b
    constructor
    · rcases p0 with e | e <;> rw [e] <;> assumption
    · rcases p1 with e | e <;> rw [e] <;> assumption
  intro f hf hcond
  simp only [holdsF, List.mem_cons, List.not_mem_nil, or_false] at hf
  rcases hf with rfl | rfl | rfl | rfl | rfl | rfl | rfl | rfl | rfl | rfl | rfl | rfl | rfl | rfl <;> simp only [zT, List.mem_cons, List.not_mem_nil, or_false, forall_eq, false_implies, implies_true, eT, decide_eq_true_eq, decide_eq_false_iff_not] at hcond <;> simp only [ev_leq, ev_eql, ev_lf, hq, ev20 hM, ev21 hM, ev22 hM, ev23 hM, ea, es, em, fx, fv, fy, fw, fs]
  · exact A.1.1
  · exact A.1.2
  · exact A.2.1.1
  · exact A.2.1.2
  · exact A.2.2.1
  · exact A.2.2.2
  · rw [W0 hcond]; decide
  · rw [W0 hcond]; decide
  · exact (lo s hcond i1 i2).1
  · exact (lo s hcond i1 i2).2
  · exact (lo x hcond (Int.le_refl _) (by omega)).1
  · exact (lo x hcond (Int.le_refl _) (by omega)).2
  · exact (lo v hcond (by omega) (Int.le_refl _)).1
  · exact (lo v hcond (by omega) (Int.le_refl _)).2
set_option maxRecDepth 1000000 in
set_option maxHeartbeats 100000000 in
theorem ivHolds_run : lawRunP 4 10 40 [.i, .i, .i, .i, .i, .i] holdsF = true := by kernel_rfl
theorem ivHolds_any (a0 a1 a2 a3 a4 a5 : Int) (w : World) (_h0 : -9223372036854775808 ≤ a0 ∧ a0 ≤ 9223372036854775807) (_h1 : -9223372036854775808 ≤ a1 ∧ a1 ≤ 9223372036854775807) (_h2 : -9223372036854775808 ≤ a2 ∧ a2 ≤ 9223372036854775807) (_h3 : -9223372036854775808 ≤ a3 ∧ a3 ≤ 9223372036854775807) (_h4 : -9223372036854775808 ≤ a4 ∧ a4 ≤ 9223372036854775807) (_h5 : -9223372036854775808 ≤ a5 ∧ a5 ≤ 9223372036854775807) :
    Calls Try.prog 4 #[.int .i64 a0, .int .i64 a1, .int .i64 a2, .int .i64 a3, .int .i64 a4, .int .i64 a5] w fun e w' => e = .returned (.bool true) ∧ Below w.heap.size w w' := by
  refine law_ofP (ds := [.i a0, .i a1, .i a2, .i a3, .i a4, .i a5]) (nx0 := 10) (k := 40) (by simp) (holdsF_ok (adM_ok _)) (vs := #[.int .i64 a0, .int .i64 a1, .int .i64 a2, .int .i64 a3, .int .i64 a4, .int .i64 a5]) ⟨rfl, rfl, rfl, rfl, rfl, rfl, trivial⟩ fun ks hk => ?_
  simp only [List.map_cons, List.map_nil, AD.kind, shapes, shapes1, List.flatMap_cons, List.flatMap_nil, List.append_nil, List.mem_cons, List.not_mem_nil, or_false] at hk
  subst hk
  exact ivHolds_run
end Go.Proofs.Ytbepaoliboooaaa
