/-
  'IvAll': what was found out beforehand.
-/
import Derived.Test.YtbepaoliboooaaaRvb
namespace Go.Proofs.Ytbepaoliboooaaa
open Go.RowKit Ex
def nA (j : Nat) : E := .af 30 j (i3 (.vi 2) (.vi 3) (.vi 4))
def nB (j : Nat) : E := .af 30 j (i3 (.vi 5) (.vi 6) (.vi 7))
def rA : E := .af 31 0 (.ci (.vi 2) .n0)
def rB : E := .af 31 0 (.ci (.vi 5) .n0)
def aE (e : E) : E := .af 10 0 (.cf e .n0)
def gE (a b : E) : E := .af 33 0 (.cf a (.cf b .n0))
def xE (e : E) : E := .af 32 0 (.cf e .n0)
def uE : E := .af 34 0 (.ci (.vi 2) (.ci (.vi 3) .n0))
def lt2 (a b : E) (t : Bool) : E × Bool := (.fc .lss (aE a) (aE b), t)
def allF : List Cf := [([], .fc .eql (xE (.vf 0)) (xE (.vf 0)), true), ([], .fc .eql (xE uE) (xE uE), true), ([], .fc .leq (nA 0) (nA 1), true), ([], .fc .leq (nB 0) (nB 1), true),
  ([lt2 (nA 0) (nA 1) true], .fc .eql (gE (nA 0) (nA 1)) (aE (nA 1)), true), ([lt2 (nA 0) (nA 1) false], .fc .eql (gE (nA 0) (nA 1)) (aE (nA 0)), true),
  ([lt2 (nB 0) (nB 1) true], .fc .eql (gE (nB 0) (nB 1)) (aE (nB 1)), true), ([lt2 (nB 0) (nB 1) false], .fc .eql (gE (nB 0) (nB 1)) (aE (nB 0)), true),
  ([(.fc .leq rA rB, true), lt2 rA rB true], .fc .eql (gE rA rB) (aE rB), true), ([(.fc .leq rA rB, true), lt2 rA rB false], .fc .eql (gE rA rB) (aE rA), true)]
theorem leq_ev {Z : Val} (a b : E) : evB Z (.fc .leq a b) = leB (evF Z a) (evF Z b) := rfl
theorem eql_ev {Z : Val} (a b : E) : evB Z (.fc .eql a b) = eqB (evF Z a) (evF Z b) := rfl
theorem abs_num {x : Nat} (h : isN x = false) : isN (x % 9223372036854775808) = false ∧ key (x % 9223372036854775808) = ((key x).natAbs : Int) := ⟨(abs_key h).1, (abs_key h).2.1⟩
theorem mag_pick {a b : Nat} (h1 : isN a = false) (h2 : isN b = false) : (ltB (a % 9223372036854775808) (b % 9223372036854775808) = true → eqB (magB a b) (b % 9223372036854775808) = true) ∧ (ltB (a % 9223372036854775808) (b % 9223372036854775808) = false → eqB (magB a b) (a % 9223372036854775808) = true) := by
  obtain ⟨a1, a2⟩ := abs_num h1
  obtain ⟨b1, b2⟩ := abs_num h2
  obtain ⟨m1, m2, -⟩ := mag_key h1 h2
  rw [ltB_of a1 b1, eqB_of m1 b1, eqB_of m1 a1, a2, b2, m2]
  simp only [decide_eq_true_eq, decide_eq_false_iff_not]
  omega
theorem leB_num {a b : Nat} (h : leB a b = true) : isN a = false ∧ isN b = false := by
  unfold leB at h
  simp only [Bool.and_eq_true, Bool.not_eq_true'] at h
  exact h.1
theorem allF_ok {Z : Val} (hM : MkV Z) : CfOK Z allF := by
  have hV := hM.toIvV.toStdV
  have ex : ∀ e, evF Z (xE e) = expB (evF Z e) := fun e => by
    show Z.ff 32 0 _ = _
    rw [hM.y _ _ _ (by decide) (by decide)]; exact expB_canon _
  have ab : ∀ e, isN (evF Z e) = false → evF Z (aE e) = evF Z e % 9223372036854775808 := fun e h => by
    show Z.ff 10 0 _ = _
    rw [hV.f _ _ _ (by decide)]
    show canon (evF Z e) % p63 = _
    rw [canon_num h]; rfl
  have mg : ∀ a b, isN (evF Z a) = false → isN (evF Z b) = false → evF Z (gE a b) = magB (evF Z a) (evF Z b) := fun a b h1 h2 => by
    show Z.ff 33 0 _ = _
    rw [hM.y _ _ _ (by decide) (by decide)]
    show magB (canon (evF Z a)) (canon (evF Z b)) = _
    rw [canon_num h1, canon_num h2]
  have mk : ∀ a b c, Mid (evF Z (.af 30 0 (i3 a b c))) (evF Z (.af 30 1 (i3 a b c))) := fun a b c => by
    have e0 : evF Z (.af 30 0 (i3 a b c)) = (mkP (evI Z a) (evI Z b) (evI Z c)).1 := by show Z.ff 30 0 _ = _; rw [hM.y _ _ _ (by decide) (by decide)]; rfl
    have e1 : evF Z (.af 30 1 (i3 a b c)) = (mkP (evI Z a) (evI Z b) (evI Z c)).2 := by show Z.ff 30 1 _ = _; rw [hM.y _ _ _ (by decide) (by decide)]; rfl
    rw [e0, e1]; exact mkP_mid _ _ _
  have A : Mid (evF Z (nA 0)) (evF Z (nA 1)) := mk _ _ _
  have B : Mid (evF Z (nB 0)) (evF Z (nB 1)) := mk _ _ _
  have pick : ∀ (a b : E) (t : Bool), isN (evF Z a) = false → isN (evF Z b) = false → evB Z (lt2 a b t).1 = t → evB Z (.fc .eql (gE a b) (aE (bif t then b else a))) = true := fun a b t h1 h2 h => by
    have p := mag_pick h1 h2
    have hl : ltB (evF Z (aE a)) (evF Z (aE b)) = t := h
    rw [ab a h1, ab b h2] at hl
    rw [eql_ev, mg a b h1 h2]
    cases t
    · simp only [cond_false]; rw [ab a h1]; exact p.2 hl
    · simp only [cond_true]; rw [ab b h2]; exact p.1 hl
  intro f hf hcond
  simp only [allF, List.mem_cons, List.not_mem_nil, or_false] at hf
  rcases hf with rfl | rfl | rfl | rfl | rfl | rfl | rfl | rfl | rfl | rfl
  · rw [eql_ev, ex, eqB_self, expB_num]; rfl
  · rw [eql_ev, ex, eqB_self, expB_num]; rfl
  · exact A.ends.2.2.2
  · exact B.ends.2.2.2
  · exact pick (nA 0) (nA 1) true A.ends.1 A.ends.2.1 (hcond (lt2 (nA 0) (nA 1) true) (by simp))
  · exact pick (nA 0) (nA 1) false A.ends.1 A.ends.2.1 (hcond (lt2 (nA 0) (nA 1) false) (by simp))
  · exact pick (nB 0) (nB 1) true B.ends.1 B.ends.2.1 (hcond (lt2 (nB 0) (nB 1) true) (by simp))
  · exact pick (nB 0) (nB 1) false B.ends.1 B.ends.2.1 (hcond (lt2 (nB 0) (nB 1) false) (by simp))
  · have q := leB_num (hcond (.fc .leq rA rB, true) (by simp))
    exact pick rA rB true q.1 q.2 (hcond (lt2 rA rB true) (by simp))
  · have q := leB_num (hcond (.fc .leq rA rB, true) (by simp))
    exact pick rA rB false q.1 q.2 (hcond (lt2 rA rB false) (by simp))
def c0 : E := .fc .leq (.vf 0) (.vf 1)
def c1 : E := .fc .lss (aE (nA 0)) (aE (nA 1))
def c2 : E := .fc .lss (aE (nB 0)) (aE (nB 1))
def c3 : E := .fc .leq rA rB
def c4 : E := .fc .lss (aE rA) (aE rB)
def gOf (b0 b1 b2 b3 : Bool) : Gam := ((((Gam.cf allF).add c0 b0).add c1 b1).add c2 b2).add c3 b3
noncomputable def lawRunA (g : Gam) : Bool := drive 10 (fun g => xcall Try.prog (ctrOf ctrA) g 1000000 100 3 (svs 0 [.f, .f, .i, .i, .i, .i, .i, .i]) .nil 10) g
end Go.Proofs.Ytbepaoliboooaaa
