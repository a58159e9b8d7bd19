/-
  'JacLines': whatever it is given: numbers and places are eighths between -4 and 4, each tried.
-/
import Derived.Test.YtlgifofnejncpaaB4t
namespace Go.Proofs.Ytlgifofnejncpaa
open Go.RowKit Ex

def jlC (w : Nat) : Nat := cop .quo (i2fV ((w : Int) - 32)) 4620693217682128896
def jlT : Nat := 9223372036854775809
def jlIn (x : Nat) (a : Nat × Nat) : Bool := leB a.1 x && (leB x a.2 && (!ltB 4616302208045442662 (canon a.1 % p63) && !ltB 4616302208045442662 (canon a.2 % p63)))
def jlChk (w : Nat) : Bool :=
  jlIn (jlC w) (addP (mulP 4607182418800017408 4607182418800017408 (jlC w) (jlC w)).1 (mulP 4607182418800017408 4607182418800017408 (jlC w) (jlC w)).2 jlT 1) &&
  (decide (mulP 0 0 (jlC w) (jlC w) = (jlT, 1)) && decide (mulP (cop .sub (jlC w) 4607182418800017408) (cop .add (jlC w) 4607182418800017408) 0 0 = (jlT, 1)))
theorem jl_all : (List.range 65).all jlChk = true := by decide +kernel
theorem jl_zero : jlIn 0 (addP jlT 1 jlT 1) = true := by decide +kernel
theorem jl_w {w : Nat} (h : w < 65) : jlChk w = true := List.all_eq_true.1 jl_all w (List.mem_range.2 h)

def jlE (s i : Nat) : E := .fb .quo (.i2f (.ib .sub .i64 (.ai 9 0 (.ci (.ti (.ic .lss (.li i) (.vl s)) (.at s i) (.li i)) (.ci (.li 65) .n0))) (.li 32))) (.lf 4620693217682128896)
def jlA (i j : Nat) : E := .af 22 j (f4 (.fb .sub (jlE 2 i) (.lf 4607182418800017408)) (.fb .add (jlE 2 i) (.lf 4607182418800017408)) (.lf 0) (.lf 0))
def jlB (x i j : Nat) : E := .af 22 j (f4 (.lf x) (.lf x) (jlE 0 i) (jlE 0 i))
def jlZ (x i j : Nat) : E := .af 20 j (f4 (jlB x i 0) (jlB x i 1) (jlA i 0) (jlA i 1))
def jlF1 (i : Nat) : List Cf := [
  ([], .fc .leq (jlZ 4607182418800017408 i 0) (jlE 0 i), true), ([], .fc .leq (jlE 0 i) (jlZ 4607182418800017408 i 1), true),
  ([], .fc .lss (.lf 4616302208045442662) (.af 10 0 (.cf (jlZ 4607182418800017408 i 0) .n0)), false), ([], .fc .lss (.lf 4616302208045442662) (.af 10 0 (.cf (jlZ 4607182418800017408 i 1) .n0)), false),
  ([], .fc .leq (jlZ 0 i 0) (.lf 0), true), ([], .fc .leq (.lf 0) (jlZ 0 i 1), true),
  ([], .fc .lss (.lf 4616302208045442662) (.af 10 0 (.cf (jlZ 0 i 0) .n0)), false), ([], .fc .lss (.lf 4616302208045442662) (.af 10 0 (.cf (jlZ 0 i 1) .n0)), false)]
def jlF : List Cf := (List.range 4).flatMap jlF1

theorem jl_ev {V : Val} (hV : StdV V) (s i : Nat) : ∃ w : Nat, w < 65 ∧ evF V (jlE s i) = jlC w := by
  have h1 : ∀ x : E, evI V (.ai 9 0 (.ci x (.ci (.li 65) .n0))) = evI V x % 65 := fun x => by simp [evI, evS, hV.i, stdI]
  refine ⟨(evI V (.ti (.ic .lss (.li i) (.vl s)) (.at s i) (.li i)) % 65).toNat, ?_, ?_⟩
  · have := Int.emod_lt_of_pos (evI V (.ti (.ic .lss (.li i) (.vl s)) (.at s i) (.li i))) (show (0 : Int) < 65 by decide)
    omega
  · have p := Int.emod_nonneg (evI V (.ti (.ic .lss (.li i) (.vl s)) (.at s i) (.li i))) (show (65 : Int) ≠ 0 by decide)
    have q := Int.emod_lt_of_pos (evI V (.ti (.ic .lss (.li i) (.vl s)) (.at s i) (.li i))) (show (0 : Int) < 65 by decide)
    have e : evI V (.ib .sub .i64 (.ai 9 0 (.ci (.ti (.ic .lss (.li i) (.vl s)) (.at s i) (.li i)) (.ci (.li 65) .n0))) (.li 32)) = (((evI V (.ti (.ic .lss (.li i) (.vl s)) (.at s i) (.li i)) % 65).toNat : Nat) : Int) - 32 := by
      show wrapF .i64 (evI V (.ai 9 0 (.ci (.ti (.ic .lss (.li i) (.vl s)) (.at s i) (.li i)) (.ci (.li 65) .n0))) - 32) = _
      rw [h1, wrap_in (by omega) (by omega)]
      omega
    show cop .quo (i2fV (evI V (.ib .sub .i64 (.ai 9 0 (.ci (.ti (.ic .lss (.li i) (.vl s)) (.at s i) (.li i)) (.ci (.li 65) .n0))) (.li 32)))) 4620693217682128896 = _
    rw [e]; rfl
theorem jl_22 {V : Val} (hW : IvV V) (a b c d : E) : evF V (.af 22 0 (f4 a b c d)) = (mulP (evF V a) (evF V b) (evF V c) (evF V d)).1 ∧ evF V (.af 22 1 (f4 a b c d)) = (mulP (evF V a) (evF V b) (evF V c) (evF V d)).2 :=
  ⟨by show V.ff 22 0 _ = _; rw [hW.x _ _ _ (by decide) (by decide)]; rfl, by show V.ff 22 1 _ = _; rw [hW.x _ _ _ (by decide) (by decide)]; rfl⟩
theorem jl_20 {V : Val} (hW : IvV V) (a b c d : E) : evF V (.af 20 0 (f4 a b c d)) = (addP (evF V a) (evF V b) (evF V c) (evF V d)).1 ∧ evF V (.af 20 1 (f4 a b c d)) = (addP (evF V a) (evF V b) (evF V c) (evF V d)).2 :=
  ⟨by show V.ff 20 0 _ = _; rw [hW.x _ _ _ (by decide) (by decide)]; rfl, by show V.ff 20 1 _ = _; rw [hW.x _ _ _ (by decide) (by decide)]; rfl⟩
theorem jl_abs {V : Val} (hV : StdV V) (e : E) : evF V (.af 10 0 (.cf e .n0)) = canon (evF V e) % p63 := by simp [evF, evS, hV.f, stdF]
theorem jl_parts {x : Nat} {a : Nat × Nat} (h : jlIn x a = true) : leB a.1 x = true ∧ leB x a.2 = true ∧ ltB 4616302208045442662 (canon a.1 % p63) = false ∧ ltB 4616302208045442662 (canon a.2 % p63) = false := by
  unfold jlIn at h
  simpa using h
theorem jl_ok {V : Val} (hW : IvV V) : CfOK V jlF := by
  have hV := hW.toStdV
  have key : ∀ i f, f ∈ jlF1 i → evB V f.2.1 = f.2.2 := fun i f hf => by
    obtain ⟨w, hw, ec⟩ := jl_ev hV 0 i
    obtain ⟨u, hu, ex⟩ := jl_ev hV 2 i
    have cw := jl_w hw
    have cu := jl_w hu
    unfold jlChk at cw cu
    simp only [Bool.and_eq_true, decide_eq_true_eq] at cw cu
    have a0 : evF V (jlA i 0) = jlT := by
      rw [jlA, (jl_22 hW _ _ _ _).1]
      show (mulP (cop .sub (evF V (jlE 2 i)) 4607182418800017408) (cop .add (evF V (jlE 2 i)) 4607182418800017408) 0 0).1 = _
      rw [ex, cu.2.2]
    have a1 : evF V (jlA i 1) = 1 := by
      rw [jlA, (jl_22 hW _ _ _ _).2]
      show (mulP (cop .sub (evF V (jlE 2 i)) 4607182418800017408) (cop .add (evF V (jlE 2 i)) 4607182418800017408) 0 0).2 = _
      rw [ex, cu.2.2]
    have b0 : ∀ x, evF V (jlB x i 0) = (mulP x x (jlC w) (jlC w)).1 := fun x => by
      rw [jlB, (jl_22 hW _ _ _ _).1, ec]; rfl
    have b1 : ∀ x, evF V (jlB x i 1) = (mulP x x (jlC w) (jlC w)).2 := fun x => by
      rw [jlB, (jl_22 hW _ _ _ _).2, ec]; rfl
    have z0 : ∀ x, evF V (jlZ x i 0) = (addP (mulP x x (jlC w) (jlC w)).1 (mulP x x (jlC w) (jlC w)).2 jlT 1).1 := fun x => by
      rw [jlZ, (jl_20 hW _ _ _ _).1, a0, a1, b0, b1]
    have z1 : ∀ x, evF V (jlZ x i 1) = (addP (mulP x x (jlC w) (jlC w)).1 (mulP x x (jlC w) (jlC w)).2 jlT 1).2 := fun x => by
      rw [jlZ, (jl_20 hW _ _ _ _).2, a0, a1, b0, b1]
    obtain ⟨d1, d2, d3, d4⟩ := jl_parts cw.1
    obtain ⟨o1, o2, o3, o4⟩ := jl_parts jl_zero
    have e0 := z0 0
    have e1 := z1 0
    rw [cw.2.1] at e0 e1
    simp only [jlF1, List.mem_cons, List.not_mem_nil, or_false] at hf
    rcases hf with rfl | rfl | rfl | rfl | rfl | rfl | rfl | rfl
    · show leB (evF V (jlZ _ i 0)) (evF V (jlE 0 i)) = true
      rw [z0, ec]; exact d1
    · show leB (evF V (jlE 0 i)) (evF V (jlZ _ i 1)) = true
      rw [z1, ec]; exact d2
    · show ltB 4616302208045442662 (evF V (.af 10 0 (.cf (jlZ _ i 0) .n0))) = false
      rw [jl_abs hV, z0]; exact d3
    · show ltB 4616302208045442662 (evF V (.af 10 0 (.cf (jlZ _ i 1) .n0))) = false
      rw [jl_abs hV, z1]; exact d4
    · show leB (evF V (jlZ 0 i 0)) 0 = true
      rw [e0]; exact o1
    · show leB 0 (evF V (jlZ 0 i 1)) = true
      rw [e1]; exact o2
    · show ltB 4616302208045442662 (evF V (.af 10 0 (.cf (jlZ 0 i 0) .n0))) = false
      rw [jl_abs hV, e0]; exact o3
    · show ltB 4616302208045442662 (evF V (.af 10 0 (.cf (jlZ 0 i 1) .n0))) = false
      rw [jl_abs hV, e1]; exact o4
  intro f hf _
  simp only [jlF, List.mem_flatMap] at hf
  obtain ⟨i, -, hf⟩ := hf
  exact key i f hf

def jlG : Gam := ⟨[], cfD jlF exD, none⟩
noncomputable def jlRun (c : Int) : Bool := drive 200 (fun g => xcall Try.prog (ctrOf (ctrS [(1, 4, c)])) g 1000000 100 6 (svs 0 [.q, .i, .q]) .nil 10) jlG
set_option maxRecDepth 1000000 in
set_option maxHeartbeats 100000000 in
theorem jlRun0 : jlRun 0 = true := by kernel_rfl
set_option maxRecDepth 1000000 in
set_option maxHeartbeats 100000000 in
theorem jlRun1 : jlRun 1 = true := by kernel_rfl
set_option maxRecDepth 1000000 in
set_option maxHeartbeats 100000000 in
theorem jlRun2 : jlRun 2 = true := by kernel_rfl
set_option maxRecDepth 1000000 in
set_option maxHeartbeats 100000000 in
theorem jlRun3 : jlRun 3 = true := by kernel_rfl
theorem jacLines_any (v0 : Value) (zs0 : List Int) (a1 : Int) (v2 : Value) (zs2 : List Int) (w : World) (h0 : Ints w v0 zs0) (_h1 : -9223372036854775808 ≤ a1 ∧ a1 ≤ 9223372036854775807) (h2 : Ints w v2 zs2) :
    Calls Try.prog 6 #[v0, .int .i64 a1, v2] w fun e w' => e = .returned (.bool true) ∧ Below w.heap.size w w' := by
  have hM : MkV (adV [.is zs0, .i a1, .is zs2] mkX) := adM_ok _
  obtain ⟨tb, h3, h4⟩ := tabs_ok (V := adV [.is zs0, .i a1, .is zs2] mkX) [(1, 4)] (by decide)
  have hT : MkV (tabV (adV [.is zs0, .i a1, .is zs2] mkX) 100 []) := tabV_st hM
  refine run_driveT mixed namesAll (ds := [.is zs0, .i a1, .is zs2]) (base := 100) (nx0 := 10) (k := 200) (fuel := 1000000) (n := 100) (by simp) (ctr := ctrOf (ctrS tb)) (xf := mkX) (fun t => ctrS_ok (tabV_st hM) h4) (by simp) (vs := #[v0, .int .i64 a1, v2]) ⟨h0, rfl, h2, trivial⟩ fun ks hk => ⟨[], jlG, ⟨lok_nil, cfD_ok (jl_ok hT.toIvV) (dok_exact hT.toIvV.toStdV), nm_none⟩, ?_⟩
  have hk : ks = [.q, .i, .q] := by simpa [AD.kind, shapes, shapes1] using hk
  subst hk
  simp only [tabs, List.range, List.range.loop, List.flatMap_cons, List.flatMap_nil, List.map_cons, List.map_nil, List.append_nil, List.cons_append, List.nil_append, List.mem_cons, List.not_mem_nil, or_false] at h3
  rcases h3 with rfl | rfl | rfl | rfl
  · exact jlRun0
  · exact jlRun1
  · exact jlRun2
  · exact jlRun3
end Go.Proofs.Ytlgifofnejncpaa
