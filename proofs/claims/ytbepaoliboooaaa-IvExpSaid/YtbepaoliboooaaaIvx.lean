/-
  What the names stand for, said of runs: from-tos that are made, what iv tells of them.
-/
import Derived.Test.YtbepaoliboooaaaBM2
import Derived.Test.YtbepaoliboooaaaIvo
namespace Go.Proofs.Ytbepaoliboooaaa
open Go.RowKit Ex

theorem ev30 {V : Val} (hM : MkV V) (a b c : E) : evF V (.af 30 0 (i3 a b c)) = (mkP (evI V a) (evI V b) (evI V c)).1 ∧ evF V (.af 30 1 (i3 a b c)) = (mkP (evI V a) (evI V b) (evI V c)).2 :=
  ⟨by show V.ff 30 0 _ = _; rw [hM.y _ _ _ (by decide) (by decide)]; rfl, by show V.ff 30 1 _ = _; rw [hM.y _ _ _ (by decide) (by decide)]; rfl⟩
theorem ev20 {V : Val} (hM : MkV V) (a b c d : E) : evF V (.af 20 0 (f4 a b c d)) = (addP (evF V a) (evF V b) (evF V c) (evF V d)).1 ∧ evF V (.af 20 1 (f4 a b c d)) = (addP (evF V a) (evF V b) (evF V c) (evF V d)).2 :=
  ⟨by show V.ff 20 0 _ = _; rw [hM.x _ _ _ (by decide) (by decide)]; rfl, by show V.ff 20 1 _ = _; rw [hM.x _ _ _ (by decide) (by decide)]; rfl⟩
theorem ev21 {V : Val} (hM : MkV V) (a b c d : E) : evF V (.af 21 0 (f4 a b c d)) = (subP (evF V a) (evF V b) (evF V c) (evF V d)).1 ∧ evF V (.af 21 1 (f4 a b c d)) = (subP (evF V a) (evF V b) (evF V c) (evF V d)).2 :=
  ⟨by show V.ff 21 0 _ = _; rw [hM.x _ _ _ (by decide) (by decide)]; rfl, by show V.ff 21 1 _ = _; rw [hM.x _ _ _ (by decide) (by decide)]; rfl⟩
theorem ev22 {V : Val} (hM : MkV V) (a b c d : E) : evF V (.af 22 0 (f4 a b c d)) = (mulP (evF V a) (evF V b) (evF V c) (evF V d)).1 ∧ evF V (.af 22 1 (f4 a b c d)) = (mulP (evF V a) (evF V b) (evF V c) (evF V d)).2 :=
  ⟨by show V.ff 22 0 _ = _; rw [hM.x _ _ _ (by decide) (by decide)]; rfl, by show V.ff 22 1 _ = _; rw [hM.x _ _ _ (by decide) (by decide)]; rfl⟩
theorem ev23 {V : Val} (hM : MkV V) (a b c d : E) : evF V (.af 23 0 (f4 a b c d)) = (divP (evF V a) (evF V b) (evF V c) (evF V d)).1 ∧ evF V (.af 23 1 (f4 a b c d)) = (divP (evF V a) (evF V b) (evF V c) (evF V d)).2 :=
  ⟨by show V.ff 23 0 _ = _; rw [hM.x _ _ _ (by decide) (by decide)]; rfl, by show V.ff 23 1 _ = _; rw [hM.x _ _ _ (by decide) (by decide)]; rfl⟩
theorem ev33 {V : Val} (hM : MkV V) (a b : E) : evF V (.af 33 0 (.cf a (.cf b .n0))) = magB (canon (evF V a)) (canon (evF V b)) := by
  show V.ff 33 0 _ = _; rw [hM.y _ _ _ (by decide) (by decide)]; rfl
theorem ev33' {V : Val} (hM : MkV V) (a b : E) (h1 : isN (evF V a) = false) (h2 : isN (evF V b) = false) : evF V (.af 33 0 (.cf a (.cf b .n0))) = magB (evF V a) (evF V b) := by
  rw [ev33 hM, canon_num h1, canon_num h2]
theorem ev_tf {V : Val} (c a b : E) : evF V (.tf c a b) = bif evB V c then evF V a else evF V b := rfl
theorem ev_eql {V : Val} (a b : E) : evB V (.fc .eql a b) = eqB (evF V a) (evF V b) := rfl
theorem ev_leq {V : Val} (a b : E) : evB V (.fc .leq a b) = leB (evF V a) (evF V b) := rfl
theorem ev_lss {V : Val} (a b : E) : evB V (.fc .lss a b) = ltB (evF V a) (evF V b) := rfl
theorem ev_sub {V : Val} (a b : E) : evF V (.fb .sub a b) = cop .sub (evF V a) (evF V b) := rfl
theorem ev_add {V : Val} (a b : E) : evF V (.fb .add a b) = cop .add (evF V a) (evF V b) := rfl
theorem ev_lf {V : Val} (x : Nat) : evF V (.lf x) = x := rfl

/-- The first, the second from-to that a law makes. -/
def ma (j : Nat) : E := .af 30 j (i3 (.vi 0) (.vi 1) (.vi 2))
def mb (j : Nat) : E := .af 30 j (i3 (.vi 3) (.vi 4) (.vi 5))
/-- What iv tells of both; the other way about. -/
def two (o j : Nat) : E := .af o j (f4 (ma 0) (ma 1) (mb 0) (mb 1))
def owt (o j : Nat) : E := .af o j (f4 (mb 0) (mb 1) (ma 0) (ma 1))
def wh (o j : Nat) : E := .af o j (f4 (.lf NI) (.lf PI) (ma 0) (ma 1))
def hw (o j : Nat) : E := .af o j (f4 (ma 0) (ma 1) (.lf NI) (.lf PI))
def mg (a b : E) : E := .af 33 0 (.cf a (.cf b .n0))
theorem ev_ma {V : Val} (hM : MkV V) : ∃ a b, evF V (ma 0) = a ∧ evF V (ma 1) = b ∧ Mid a b := ⟨_, _, (ev30 hM _ _ _).1, (ev30 hM _ _ _).2, mkP_mid _ _ _⟩
theorem ev_mb {V : Val} (hM : MkV V) : ∃ a b, evF V (mb 0) = a ∧ evF V (mb 1) = b ∧ Mid a b := ⟨_, _, (ev30 hM _ _ _).1, (ev30 hM _ _ _).2, mkP_mid _ _ _⟩
end Go.Proofs.Ytbepaoliboooaaa
