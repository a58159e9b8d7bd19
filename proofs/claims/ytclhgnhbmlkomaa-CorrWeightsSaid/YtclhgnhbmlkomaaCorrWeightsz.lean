/-
  'CorrWeights': whatever it is given: all numbers are whole, times a power of two, and small.
-/
import Derived.Test.YtclhgnhbmlkomaaB9t
namespace Go.Proofs.Ytclhgnhbmlkomaa
open Go.RowKit Ex

def cwV (i : Nat) : E := .i2f (.ib .sub .i64 (.ai 9 0 (.ci (.at 0 i) (.ci (.li 2001) .n0))) (.li 1000))
def cwA : E := .fb .quo (.i2f (.ib .add .i64 (.li 1) (.ai 9 0 (.ci (.vi 1) (.ci (.li 1000) .n0))))) (.lf 4652218415073722368)
def cwR : E := .fb .quo (.i2f (.ai 9 0 (.ci (.vi 2) (.ci (.li 1000) .n0)))) (.lf 4652218415073722368)
def cwM : E := .i2f (.ai 9 0 (.ci (.vi 3) (.ci (.li 9) .n0)))
def cwW (a v : E) : E := .fb .add a (.fb .mul cwR (.af 10 0 (.cf v .n0)))
def cwN (i : Nat) : E := .fb .sub (.lf 0) (cwV i)
def cwD (i : Nat) : E := .fb .mul (.lf 4611686018427387904) (cwV i)
def cwF1 (i : Nat) : List Cf := [([], .ab 8 0 (.cf (cwW cwA (cwV i)) (.cf (cwW cwA (cwN i)) .n0)), true), ([], .fc .leq cwA (cwW cwA (cwV i)), true), ([], .fc .leq (cwW cwA (cwV i)) (cwW cwA (cwD i)), true), ([], .fc .leq (cwW cwA (cwV i)) (cwW (.fb .add cwA cwM) (cwV i)), true)]
def cwF : List Cf := (List.range 9).flatMap cwF1

theorem cw_within {V : Val} (hV : StdV V) (x : E) (n : Int) (hn : 1 ≤ n) : ∃ m : Int, evI V (.ai 9 0 (.ci x (.ci (.li n) .n0))) = m ∧ 0 ≤ m ∧ m < n := by
  refine ⟨evI V x % n, ?_, Int.emod_nonneg _ (by omega), Int.emod_lt_of_pos _ (by omega)⟩
  simp [evI, evS, hV.i, stdI]
theorem cw_abs {V : Val} (hV : StdV V) {v : E} {n k : Int} (h : Is (evF V v) n k) : Is (evF V (.af 10 0 (.cf v .n0))) (n.natAbs : Int) k := by
  have : evF V (.af 10 0 (.cf v .n0)) = evF V v % 9223372036854775808 := by
    simp [evF, evS, hV.f, stdF, canon_num h.num]
    rfl
  rw [this]
  exact is_abs h
theorem cw_int {V : Val} {e : E} {n : Int} (he : evI V e = n) (h1 : -9007199254740992 ≤ n) (h2 : n ≤ 9007199254740992) : Is (evF V (.i2f e)) n 0 := by
  show Is (i2fV (evI V e)) n 0
  rw [he]
  exact is_ofInt h1 h2
theorem cw_cop {op : BinOp} {a b r : Nat} {p k : Int} (h : floatBits op .f64 a b = some r) (hr : Is r p k) : Is (cop op a b) p k := by
  have : cop op a b = canon r := by unfold cop; rw [h]
  rw [this, canon_num hr.num]; exact hr
theorem cw_at {a : Nat} {m k l : Int} (h : Is a m k) (hk : k = l) : Is a m l := by rw [← hk]; exact h
theorem cw_rn {m : Int} (h : m.natAbs < 9007199254740992) : rn m = m := (is_ofInt (n := m) (by omega) (by omega)).self
theorem cw_1024 : Is 4652218415073722368 1024 0 := by
  have h := is_ofInt (n := 1024) (by decide) (by decide)
  have e : floatOfInt .f64 1024 = 4652218415073722368 := by decide +kernel
  rw [e] at h; exact h
theorem cw_two : Is 4611686018427387904 2 0 := by
  have h := is_ofInt (n := 2) (by decide) (by decide)
  have e : floatOfInt .f64 2 = 4611686018427387904 := by decide +kernel
  rw [e] at h; exact h
theorem cw_zero : Is 0 0 0 := by
  have h := is_ofInt (n := 0) (by decide) (by decide)
  have e : floatOfInt .f64 0 = 0 := by decide +kernel
  rw [e] at h; exact h
/-- Divided by 1024. -/
theorem cw_part {a : Nat} {m : Int} (h : Is a m 0) (hm : m.natAbs ≤ 2000) : Is (cop .quo a 4652218415073722368) m (-10) := by
  have hb : Is 4652218415073722368 1 10 := by
    obtain ⟨h1, h2, -, h4⟩ := cw_1024
    refine ⟨h1, h2, by decide, ?_⟩
    rw [h4]; decide +kernel
  obtain ⟨r, e, hr⟩ := is_quo (m := m) (n := 1) (k := 0) (l := 10) (by rw [Int.mul_one]; exact h) hb (by decide) (by omega) (by omega) (by decide) (fits_of 11 960 (by omega) (by decide) (by decide))
  exact cw_at (cw_cop (op := .quo) e hr) (by decide)
theorem cw_add {a b : Nat} {m n : Int} (ha : Is a m (-10)) (hb : Is b n (-10)) (h : (m + n).natAbs < 9007199254740992) : Is (cop .add a b) (m + n) (-10) := by
  obtain ⟨r, e, hr⟩ := is_add ha hb (fits_of 53 960 (by omega) (by decide) (by decide))
  rw [cw_rn h] at hr
  exact cw_cop (op := .add) e hr
theorem cw_mul {a b : Nat} {m n k : Int} (ha : Is a m k) (hb : Is b n 0) (hk : -10 ≤ k) (hk2 : k ≤ 0) (h : (m * n).natAbs < 9007199254740992) : Is (cop .mul a b) (m * n) k := by
  obtain ⟨r, e, hr⟩ := is_mul ha hb (by omega) (fits_of 53 960 (by omega) (by omega) (by decide))
  rw [cw_rn h] at hr
  exact cw_at (cw_cop (op := .mul) e hr) (by omega)
theorem cw_sum {V : Val} (hV : StdV V) {a v : E} {x n r : Int} (ha : Is (evF V a) x (-10)) (hv : Is (evF V v) n 0) (hr : Is (evF V cwR) r (-10)) (h0 : 0 ≤ x) (h1 : x ≤ 20000) (h2 : 0 ≤ r) (h3 : r ≤ 1000) (h4 : n.natAbs ≤ 2000) :
    Is (evF V (cwW a v)) (x + r * (n.natAbs : Int)) (-10) := by
  have hm : 0 ≤ r * (n.natAbs : Int) := Int.mul_nonneg h2 (by omega)
  have hm2 : r * (n.natAbs : Int) ≤ 1000 * 2000 := Int.mul_le_mul h3 (by omega) (by omega) (by decide)
  exact cw_add ha (cw_mul hr (cw_abs hV hv) (by decide) (by decide) (by omega)) (by omega)
theorem cw_ok {V : Val} (hV : StdV V) : CfOK V cwF := by
  have key : ∀ i f, f ∈ cwF1 i → evB V f.2.1 = f.2.2 := fun i f hf => by
    obtain ⟨n, en, n1, n2⟩ := cw_within hV (.at 0 i) 2001 (by decide)
    obtain ⟨a, ea, a1, a2⟩ := cw_within hV (.vi 1) 1000 (by decide)
    obtain ⟨r, er, r1, r2⟩ := cw_within hV (.vi 2) 1000 (by decide)
    obtain ⟨m, em, m1, m2⟩ := cw_within hV (.vi 3) 9 (by decide)
    have eV : evI V (.ib .sub .i64 (.ai 9 0 (.ci (.at 0 i) (.ci (.li 2001) .n0))) (.li 1000)) = n - 1000 := by
      show wrapF .i64 (evI V _ - 1000) = _
      rw [en]; exact wrap_in (by omega) (by omega)
    have eA : evI V (.ib .add .i64 (.li 1) (.ai 9 0 (.ci (.vi 1) (.ci (.li 1000) .n0)))) = 1 + a := by
      show wrapF .i64 (1 + evI V _) = _
      rw [ea]; exact wrap_in (by omega) (by omega)
    have hv : Is (evF V (cwV i)) (n - 1000) 0 := cw_int eV (by omega) (by omega)
    have hA : Is (evF V cwA) (1 + a) (-10) := cw_part (cw_int eA (by omega) (by omega)) (by omega)
    have hR : Is (evF V cwR) r (-10) := cw_part (cw_int er (by omega) (by omega)) (by omega)
    have hM : Is (evF V cwM) (m * (2 ^ 10 : Nat)) (-10) := (cw_int em (by omega) (by omega)).down 10 (by decide)
    have hN : Is (evF V (cwN i)) (0 - (n - 1000)) 0 := by
      obtain ⟨q, e, hq⟩ := is_sub cw_zero hv (fits_of 53 960 (by omega) (by decide) (by decide))
      rw [cw_rn (by omega)] at hq
      exact cw_cop (op := .sub) e hq
    have hD : Is (evF V (cwD i)) (2 * (n - 1000)) 0 := cw_mul cw_two hv (by decide) (by decide) (by omega)
    have hA2 : Is (evF V (.fb .add cwA cwM)) (1 + a + m * (2 ^ 10 : Nat)) (-10) := cw_add hA hM (by omega)
    have w1 := cw_sum hV hA hv hR (by omega) (by omega) r1 (by omega) (by omega)
    have w2 := cw_sum hV hA hN hR (by omega) (by omega) r1 (by omega) (by omega)
    have w3 := cw_sum hV hA hD hR (by omega) (by omega) r1 (by omega) (by omega)
    have w4 := cw_sum hV hA2 hv hR (by omega) (by omega) r1 (by omega) (by omega)
    have p0 : 0 ≤ r * ((n - 1000).natAbs : Int) := Int.mul_nonneg r1 (by omega)
    have p1 : r * ((n - 1000).natAbs : Int) ≤ r * ((2 * (n - 1000)).natAbs : Int) := Int.mul_le_mul_of_nonneg_left (by omega) r1
    simp only [cwF1, List.mem_cons, List.not_mem_nil, or_false] at hf
    rcases hf with rfl | rfl | rfl | rfl
    · show evB V (.ab 8 0 (.cf (cwW cwA (cwV i)) (.cf (cwW cwA (cwN i)) .n0))) = true
      have hs : evB V (.ab 8 0 (.cf (cwW cwA (cwV i)) (.cf (cwW cwA (cwN i)) .n0))) = sameB (evF V (cwW cwA (cwV i))) (evF V (cwW cwA (cwN i))) := by simp [evB, evS, hV.b, stdB]
      rw [hs]
      unfold sameB
      rw [is_eq w1 w2, decide_eq_true (by rw [show (0 - (n - 1000)).natAbs = (n - 1000).natAbs by omega])]
      rfl
    · show leB (evF V cwA) (evF V (cwW cwA (cwV i))) = true
      rw [is_le hA w1]; exact decide_eq_true (by omega)
    · show leB (evF V (cwW cwA (cwV i))) (evF V (cwW cwA (cwD i))) = true
      rw [is_le w1 w3]; exact decide_eq_true (by omega)
    · show leB (evF V (cwW cwA (cwV i))) (evF V (cwW (.fb .add cwA cwM) (cwV i))) = true
      rw [is_le w1 w4]; exact decide_eq_true (by omega)
  intro f hf _
  simp only [cwF, List.mem_flatMap] at hf
  obtain ⟨i, -, hf⟩ := hf
  exact key i f hf

def gW (ls : List (E × Bool)) : Gam := ⟨ls, cfD cwF exD, none⟩
noncomputable def cwRun (L : Nat) : Bool := drive 200 (fun g => xcall Try.prog (ctrOf (ctrS [])) g 1000000 100 10 (svs 0 [.q, .i, .i, .i]) .nil 10) (gW (lenL 0 L 9 ++ []))
set_option maxRecDepth 1000000 in
set_option maxHeartbeats 100000000 in
theorem cwRun0 : cwRun 0 = true := by kernel_rfl
set_option maxRecDepth 1000000 in
set_option maxHeartbeats 100000000 in
theorem cwRun1 : cwRun 1 = true := by kernel_rfl
set_option maxRecDepth 1000000 in
set_option maxHeartbeats 100000000 in
theorem cwRun2 : cwRun 2 = true := by kernel_rfl
set_option maxRecDepth 1000000 in
set_option maxHeartbeats 100000000 in
theorem cwRun3 : cwRun 3 = true := by kernel_rfl
set_option maxRecDepth 1000000 in
set_option maxHeartbeats 100000000 in
theorem cwRun4 : cwRun 4 = true := by kernel_rfl
set_option maxRecDepth 1000000 in
set_option maxHeartbeats 100000000 in
theorem cwRun5 : cwRun 5 = true := by kernel_rfl
set_option maxRecDepth 1000000 in
set_option maxHeartbeats 100000000 in
theorem cwRun6 : cwRun 6 = true := by kernel_rfl
set_option maxRecDepth 1000000 in
set_option maxHeartbeats 100000000 in
theorem cwRun7 : cwRun 7 = true := by kernel_rfl
set_option maxRecDepth 1000000 in
set_option maxHeartbeats 100000000 in
theorem cwRun8 : cwRun 8 = true := by kernel_rfl
set_option maxRecDepth 1000000 in
set_option maxHeartbeats 100000000 in
theorem cwRun9 : cwRun 9 = true := by kernel_rfl
theorem corrWeights_any (v0 : Value) (zs0 : List Int) (a1 : Int) (a2 : Int) (a3 : Int) (w : World) (h0 : Ints w v0 zs0) (_h1 : -9223372036854775808 ≤ a1 ∧ a1 ≤ 9223372036854775807) (_h2 : -9223372036854775808 ≤ a2 ∧ a2 ≤ 9223372036854775807) (_h3 : -9223372036854775808 ≤ a3 ∧ a3 ≤ 9223372036854775807) :
    Calls Try.prog 10 #[v0, .int .i64 a1, .int .i64 a2, .int .i64 a3] w fun e w' => e = .returned (.bool true) ∧ Below w.heap.size w w' := by
  have hV : StdV (adV [.is zs0, .i a1, .i a2, .i a3]) := adV_ok _
  obtain ⟨ls, h3, h4⟩ := lensAll_ok (adV [.is zs0, .i a1, .i a2, .i a3]) [(0, 9)]
  have hT : StdV (tabV (adV [.is zs0, .i a1, .i a2, .i a3]) 100 []) := tabV_std hV
  refine run_driveT mixed namesAll (ds := [.is zs0, .i a1, .i a2, .i a3]) (base := 100) (nx0 := 10) (k := 200) (fuel := 1000000) (n := 100) (by simp) (ctr := ctrOf (ctrS [])) (xf := fun _ _ _ => 0) (fun t => ctrS_ok (tabV_st (adV_ok _)) (fun _ _ _ h => by cases h)) (by simp) (vs := #[v0, .int .i64 a1, .int .i64 a2, .int .i64 a3]) ⟨h0, rfl, rfl, rfl, trivial⟩ fun ks hk => ⟨[], gW ls, ⟨h4 _ rfl, cfD_ok (cw_ok hT) (dok_exact hT), nm_none⟩, ?_⟩
  have hk : ks = [.q, .i, .i, .i] := by simpa [AD.kind, shapes, shapes1] using hk
  subst hk
  simp only [lensAll, List.mem_flatMap, List.mem_map, List.mem_range] at h3
  obtain ⟨L, hL, ls1, hl1, rfl⟩ := h3
  obtain rfl : ls1 = [] := by simpa [lensAll] using hl1
  have hc : L = 0 ∨ L = 1 ∨ L = 2 ∨ L = 3 ∨ L = 4 ∨ L = 5 ∨ L = 6 ∨ L = 7 ∨ L = 8 ∨ L = 9 := by omega
  rcases hc with rfl | rfl | rfl | rfl | rfl | rfl | rfl | rfl | rfl | rfl
  · exact cwRun0
  · exact cwRun1
  · exact cwRun2
  · exact cwRun3
  · exact cwRun4
  · exact cwRun5
  · exact cwRun6
  · exact cwRun7
  · exact cwRun8
  · exact cwRun9
end Go.Proofs.Ytclhgnhbmlkomaa
