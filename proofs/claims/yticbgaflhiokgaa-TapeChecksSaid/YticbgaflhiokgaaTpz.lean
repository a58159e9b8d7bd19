/-
  A tape of a call's own, one thing of it turned: still a tape. (Facts for the law of checks.)
-/
import Derived.Test.YticbgaflhiokgaaTmo
namespace Go.Proofs.Yticbgaflhiokgaa
open Go.RowKit
open Ieee (double)

/-- A tape that is a call's own, and the variable that holds it. -/
structure OneS (w0 : World) (H P : Nat) (T : TD) (va vb : Value) (W : World) : Prop where
  b : Box3 P T.n va vb W
  fr : ∀ o, W.frozen? ⟨P, o, none⟩ = false
  ops : W.ownsRow H 32 4 va T.len (opsL T.op T.len)
  ints : W.ownsRow H 3 1 vb T.lo (intsL T.out T.lo)
  na : va.ownBlock ≠ some P
  nb : vb.ownBlock ≠ some P
  ab : ∀ k, va.ownBlock = some k → vb.ownBlock ≠ some k
  hp : H ≤ P
  w : Below H w0 W
theorem OneS.below {w0 : World} {H P : Nat} {T : TD} {va vb : Value} {W W' : World} (h : OneS w0 H P T va vb W) (hb : Below W.heap.size W W') : OneS w0 H P T va vb W' :=
  ⟨h.b.below hb, fun o => ((belowC hb).2 _ _ h.b.2.2.2).trans (h.fr o), own_below h.ops hb, own_below h.ints hb, h.na, h.nb, h.ab, h.hp, h.w.trans (hb.mono (by have := h.b.2.2.2; have := h.hp; omega))⟩
/-- Some tape lies there. -/
def SomeT (w0 : World) (H P : Nat) (W : World) : Prop := ∃ (T : TD) (vo vu : Value), Box3 P T.n vo vu W ∧ TapeAt W (.agg #[.int .i64 T.n, vo, vu]) T ∧ Below H w0 W
theorem OneS.isT {w0 : World} {H P : Nat} {T : TD} {va vb : Value} {W : World} (h : OneS w0 H P T va vb W) (h1 : T.len ≤ 1000) (h2 : T.lo ≤ 1000) : SomeT w0 H P W :=
  ⟨T, va, vb, h.b, ⟨va, vb, rfl, ops_of_own h.ops (by omega), ints_of_own h.ints (by omega)⟩, h.w⟩
theorem box3_keep {B : Nat} {n : Int} {vo vu : Value} {w w' : World} (h : Box3 B n vo vu w) (hb : w'.heap[B]? = w.heap[B]?) (hs : w.heap.size ≤ w'.heap.size) : Box3 B n vo vu w' :=
  ⟨(World.cell?_of_block (a := ⟨B, 0, none⟩) hb).trans h.1, (World.cell?_of_block (a := ⟨B, 1, none⟩) hb).trans h.2.1, (World.cell?_of_block (a := ⟨B, 2, none⟩) hb).trans h.2.2.1, Nat.lt_of_lt_of_le h.2.2.2 hs⟩
/-- One operation's kind, or where it takes its numbers, turned. -/
theorem OneS.turnI {w0 : World} {H P g c : Nat} {T : TD} {vb : Value} {W : World} (h : OneS w0 H P T (.slice (some ⟨g, 0, none⟩) T.len c) vb W) {k r : Nat} (hk : k < T.len) (hr : r < 3) (x : Int) (h1 : T.len ≤ 1000) (h2 : T.lo ≤ 1000) :
    SomeT w0 H P (W.setCell ⟨g, k * 4 + r, none⟩ (.int .i64 x)) := by
  have hg := h.ops.lt g rfl
  have hgP : g ≠ P := fun e => h.na (by rw [← e]; rfl)
  have ho := ops_of_own h.ops (show T.len ≤ _ by omega)
  obtain ⟨a, cap, hv, hn, hc⟩ := ho
  simp only [Value.slice.injEq] at hv
  obtain ⟨rfl, -, rfl⟩ := hv
  obtain ⟨b, off, he, hbs, hcell⟩ := hc (by omega)
  simp only [Option.some.injEq, Addr.mk.injEq] at he
  obtain ⟨rfl, rfl, -⟩ := he
  have hi := ints_of_own (own_setN (D := g) (o := k * 4 + r) (u := .int .i64 x) h.ints (h.ab g rfl)) (show T.lo ≤ _ by omega)
  have hcc : ∀ o, o ≠ k * 4 + r → (W.setCell ⟨g, k * 4 + r, none⟩ (.int .i64 x)).cell? ⟨g, o, none⟩ = W.cell? ⟨g, o, none⟩ := fun o ho => World.cell?_setCell_other _ _ _ _ (fun q => by injection q with _ q2 _; omega)
  have hat : ∃ z, W.cell? ⟨g, k * 4 + r, none⟩ = some z := by
    obtain ⟨c1, c2, c3, c4⟩ := hcell k hk
    rw [Nat.zero_add] at c1 c2 c3
    have : r = 0 ∨ r = 1 ∨ r = 2 := by omega
    rcases this with rfl | rfl | rfl
    · exact ⟨_, c1⟩
    · exact ⟨_, c2⟩
    · exact ⟨_, c3⟩
  obtain ⟨z, hz⟩ := hat
  have hself : (W.setCell ⟨g, k * 4 + r, none⟩ (.int .i64 x)).cell? ⟨g, k * 4 + r, none⟩ = some (.int .i64 x) := by simp [go_sem, hz]
  refine ⟨⟨T.n, T.len, fun i => if i = k then ⟨if r = 0 then x else (T.op i).k, if r = 1 then x else (T.op i).a, if r = 2 then x else (T.op i).b, (T.op i).c⟩ else T.op i, T.lo, T.out⟩, _, vb,
    box3_keep h.b (Below.heap_setCell _ _ _ _ (fun e => hgP e.symm)) (by simp [World.setCell]), ⟨_, _, rfl, ⟨_, c, rfl, hn, fun _ => ⟨g, 0, rfl, by simp [World.setCell]; exact hg.2, fun i hi => ?_⟩⟩, hi⟩, h.w.setCell (p := ⟨g, k * 4 + r, none⟩) hg.1 _⟩
  obtain ⟨c1, c2, c3, c4⟩ := hcell i hi
  rw [Nat.zero_add] at c1 c2 c3 c4 ⊢
  by_cases e : i = k
  · subst e
    have : r = 0 ∨ r = 1 ∨ r = 2 := by omega
    rcases this with rfl | rfl | rfl
    · exact ⟨by simpa using hself, by rw [hcc _ (by omega), c2]; simp, by rw [hcc _ (by omega), c3]; simp, by rw [hcc _ (by omega), c4]; simp⟩
    · exact ⟨by rw [hcc _ (by omega), c1]; simp, by simpa using hself, by rw [hcc _ (by omega), c3]; simp, by rw [hcc _ (by omega), c4]; simp⟩
    · exact ⟨by rw [hcc _ (by omega), c1]; simp, by rw [hcc _ (by omega), c2]; simp, by simpa using hself, by rw [hcc _ (by omega), c4]; simp⟩
  · simp only [if_neg e]
    exact ⟨by rw [hcc _ (by omega)]; exact c1, by rw [hcc _ (by omega)]; exact c2, by rw [hcc _ (by omega)]; exact c3, by rw [hcc _ (by omega)]; exact c4⟩
theorem OneS.turnC {w0 : World} {H P g c : Nat} {T : TD} {vb : Value} {W : World} (h : OneS w0 H P T (.slice (some ⟨g, 0, none⟩) T.len c) vb W) {k : Nat} (hk : k < T.len) (x : Nat) (h1 : T.len ≤ 1000) (h2 : T.lo ≤ 1000) :
    SomeT w0 H P (W.setCell ⟨g, k * 4 + 3, none⟩ (.float .f64 x)) := by
  have hg := h.ops.lt g rfl
  have hgP : g ≠ P := fun e => h.na (by rw [← e]; rfl)
  have ho := ops_of_own h.ops (show T.len ≤ _ by omega)
  obtain ⟨a, cap, hv, hn, hc⟩ := ho
  simp only [Value.slice.injEq] at hv
  obtain ⟨rfl, -, rfl⟩ := hv
  obtain ⟨b, off, he, hbs, hcell⟩ := hc (by omega)
  simp only [Option.some.injEq, Addr.mk.injEq] at he
  obtain ⟨rfl, rfl, -⟩ := he
  have hi := ints_of_own (own_setN (D := g) (o := k * 4 + 3) (u := .float .f64 x) h.ints (h.ab g rfl)) (show T.lo ≤ _ by omega)
  have hcc : ∀ o, o ≠ k * 4 + 3 → (W.setCell ⟨g, k * 4 + 3, none⟩ (.float .f64 x)).cell? ⟨g, o, none⟩ = W.cell? ⟨g, o, none⟩ := fun o ho => World.cell?_setCell_other _ _ _ _ (fun q => by injection q with _ q2 _; omega)
  have hz := (hcell k hk).2.2.2
  rw [Nat.zero_add] at hz
  have hself : (W.setCell ⟨g, k * 4 + 3, none⟩ (.float .f64 x)).cell? ⟨g, k * 4 + 3, none⟩ = some (.float .f64 x) := by simp [go_sem, hz]
  refine ⟨⟨T.n, T.len, fun i => if i = k then ⟨(T.op i).k, (T.op i).a, (T.op i).b, x⟩ else T.op i, T.lo, T.out⟩, _, vb,
    box3_keep h.b (Below.heap_setCell _ _ _ _ (fun e => hgP e.symm)) (by simp [World.setCell]), ⟨_, _, rfl, ⟨_, c, rfl, hn, fun _ => ⟨g, 0, rfl, by simp [World.setCell]; exact hg.2, fun i hi => ?_⟩⟩, hi⟩, h.w.setCell (p := ⟨g, k * 4 + 3, none⟩) hg.1 _⟩
  obtain ⟨c1, c2, c3, c4⟩ := hcell i hi
  rw [Nat.zero_add] at c1 c2 c3 c4 ⊢
  by_cases e : i = k
  · subst e
    exact ⟨by rw [hcc _ (by omega), c1]; simp, by rw [hcc _ (by omega), c2]; simp, by rw [hcc _ (by omega), c3]; simp, by simpa using hself⟩
  · simp only [if_neg e]
    exact ⟨by rw [hcc _ (by omega)]; exact c1, by rw [hcc _ (by omega)]; exact c2, by rw [hcc _ (by omega)]; exact c3, by rw [hcc _ (by omega)]; exact c4⟩
theorem OneS.turnO {w0 : World} {H P g c : Nat} {T : TD} {va : Value} {W : World} (h : OneS w0 H P T va (.slice (some ⟨g, 0, none⟩) T.lo c) W) {k : Nat} (hk : k < T.lo) (x : Int) (h1 : T.len ≤ 1000) (h2 : T.lo ≤ 1000) :
    SomeT w0 H P (W.setCell ⟨g, k, none⟩ (.int .i64 x)) := by
  have hg := h.ints.lt g rfl
  have hgP : g ≠ P := fun e => h.nb (by rw [← e]; rfl)
  have ho := ops_of_own (own_setN (D := g) (o := k) (u := .int .i64 x) h.ops (fun e => h.ab g e rfl)) (show T.len ≤ _ by omega)
  obtain ⟨a, cap, hv, hn, hc⟩ := ints_of_own h.ints (show T.lo ≤ _ by omega)
  simp only [Value.slice.injEq] at hv
  obtain ⟨rfl, -, rfl⟩ := hv
  obtain ⟨b, off, he, hbs, hcell⟩ := hc (by omega)
  simp only [Option.some.injEq, Addr.mk.injEq] at he
  obtain ⟨rfl, rfl, -⟩ := he
  have hz := hcell k hk
  rw [Nat.zero_add] at hz
  refine ⟨⟨T.n, T.len, T.op, T.lo, fun i => if i = k then x else T.out i⟩, va, _,
    box3_keep h.b (Below.heap_setCell _ _ _ _ (fun e => hgP e.symm)) (by simp [World.setCell]), ⟨_, _, rfl, ho, ⟨_, c, rfl, hn, fun _ => ⟨g, 0, rfl, by simp [World.setCell]; exact hg.2, fun i hi => ?_⟩⟩⟩, h.w.setCell (p := ⟨g, k, none⟩) hg.1 _⟩
  have c1 := hcell i hi
  rw [Nat.zero_add] at c1 ⊢
  by_cases e : i = k
  · subst e; simp [go_sem, hz]
  · simp only [if_neg e]
    rw [World.cell?_setCell_other _ _ _ _ (fun q => by injection q with _ q2 _; omega)]; exact c1
theorem OneS.turnN {w0 : World} {H P : Nat} {T : TD} {va vb : Value} {W : World} (h : OneS w0 H P T va vb W) (x : Int) (h1 : T.len ≤ 1000) (h2 : T.lo ≤ 1000) :
    SomeT w0 H P (W.setCell ⟨P, 0, none⟩ (.int .i64 x)) := by
  obtain ⟨b1, b2, b3, b4⟩ := h.b
  refine ⟨⟨x, T.len, T.op, T.lo, T.out⟩, va, vb, ⟨by simp [go_sem, b1], ?_, ?_, by simp [World.setCell]; exact b4⟩, ⟨_, _, rfl, ops_of_own (own_setN h.ops h.na) (show T.len ≤ _ by omega), ints_of_own (own_setN h.ints h.nb) (show T.lo ≤ _ by omega)⟩, h.w.setCell (p := ⟨P, 0, none⟩) h.hp _⟩
  · rw [World.cell?_setCell_other _ _ _ _ (fun q => by injection q with _ q2 _; omega)]; exact b2
  · rw [World.cell?_setCell_other _ _ _ _ (fun q => by injection q with _ q2 _; omega)]; exact b3
theorem intsL_congr {f g : Nat → Int} : ∀ k : Nat, (∀ i, i < k → f i = g i) → intsL f k = intsL g k
  | 0, _ => rfl
  | k + 1, h => by rw [intsL, intsL, intsL_congr k (fun i hi => h i (by omega)), h k (by omega)]
theorem OneS.appO {w0 : World} {H P gg cap1 : Nat} {T : TD} {va vb : Value} {A wn : World} (h : OneS w0 H P T va vb A) (hg : A.grownBy wn vb.ownBlock)
    (ho : wn.ownsRow H 3 1 (.slice (some ⟨gg, 0, none⟩) (T.lo + 1) cap1) (T.lo + 1) (intsL T.out T.lo ++ [.int .i64 0])) (hat : vb.ownBlock = some gg ∨ gg = A.heap.size) (h1 : T.len ≤ 1000) (h2 : T.lo ≤ 900) :
    SomeT w0 H P (wn.setCell ⟨P, 2, none⟩ (.slice (some ⟨gg, 0, none⟩) (T.lo + 1) cap1)) := by
  have hP : P < A.heap.size := h.b.2.2.2
  have hs := hg.size
  have hH := h.hp
  have hgp : gg ≠ P := by
    rcases hat with e | e
    · exact fun q => h.nb (by rw [e, q])
    · omega
  have b1 : wn.heap[P]? = A.heap[P]? := hg.block P hP (fun e => h.nb e.symm)
  obtain ⟨c1, c2, c3, c4⟩ := box3_keep h.b b1 hs
  have hops := h.ops.kept hg (by
    cases hv : va.ownBlock with
    | none => exact .inl rfl
    | some b => exact .inr (fun e => h.ab b hv e.symm))
  refine ⟨⟨T.n, T.len, T.op, T.lo + 1, fun i => if i < T.lo then T.out i else 0⟩, va, .slice (some ⟨gg, 0, none⟩) (T.lo + 1) cap1, ⟨?_, ?_, by simp [go_sem, c3], by simp [World.setCell]; omega⟩, ⟨_, _, rfl, ops_of_own (own_setN hops h.na) (show T.len ≤ _ by omega), ints_of_own (own_setN (D := P) (o := 2) (u := .slice (some ⟨gg, 0, none⟩) (T.lo + 1) cap1) (by
    show wn.ownsRow H 3 1 _ (T.lo + 1) (intsL (fun i => if i < T.lo then T.out i else 0) (T.lo + 1))
    rw [intsL, intsL_congr (g := T.out) T.lo (fun i hi => if_pos hi), if_neg (Nat.lt_irrefl _)]
    exact ho) (by simp only [Value.ownBlock, ne_eq, Option.some.injEq]; exact hgp)) (show T.lo + 1 ≤ _ by omega)⟩, (h.w.grown hg (by omega) (fun b hb => (h.ints.lt b hb).1)).setCell (p := ⟨P, 2, none⟩) hH _⟩
  · rw [World.cell?_setCell_other _ _ _ _ (fun q => by injection q with _ q2 _; omega)]; exact c1
  · rw [World.cell?_setCell_other _ _ _ _ (fun q => by injection q with _ q2 _; omega)]; exact c2
theorem OneS.appA {w0 : World} {H P gg cap1 : Nat} {T : TD} {va vb : Value} {A wn : World} (h : OneS w0 H P T va vb A) (hg : A.grownBy wn va.ownBlock)
    (ho : wn.ownsRow H 32 4 (.slice (some ⟨gg, 0, none⟩) (T.len + 1) cap1) (T.len + 1) (opsL T.op T.len ++ [.int .i64 1, .int .i64 0, .int .i64 0, .float .f64 0])) (hat : va.ownBlock = some gg ∨ gg = A.heap.size) :
    ∃ T' : TD, T'.n = T.n ∧ T'.len = T.len + 1 ∧ T'.lo = T.lo ∧ OneS w0 H P T' (.slice (some ⟨gg, 0, none⟩) (T.len + 1) cap1) vb (wn.setCell ⟨P, 1, none⟩ (.slice (some ⟨gg, 0, none⟩) (T.len + 1) cap1)) := by
  have hP : P < A.heap.size := h.b.2.2.2
  have hs := hg.size
  have hH := h.hp
  have hgp : gg ≠ P ∧ vb.ownBlock ≠ some gg := by
    rcases hat with e | e
    · exact ⟨fun q => h.na (by rw [e, q]), h.ab gg e⟩
    · exact ⟨by omega, fun q => by have := (h.ints.lt gg q).2; omega⟩
  have b1 : wn.heap[P]? = A.heap[P]? := hg.block P hP (fun e => h.na e.symm)
  obtain ⟨c1, c2, c3, c4⟩ := box3_keep h.b b1 hs
  have hints := h.ints.kept hg (by
    cases hv : vb.ownBlock with
    | none => exact .inl rfl
    | some b => exact .inr (fun e => h.ab b e.symm hv))
  refine ⟨⟨T.n, T.len + 1, fun i => if i < T.len then T.op i else ⟨1, 0, 0, 0⟩, T.lo, T.out⟩, rfl, rfl, rfl, ⟨?_, by simp [go_sem, c2], ?_, by simp [World.setCell]; omega⟩, fun o => ?_, own_setN (by
    show wn.ownsRow H 32 4 _ (T.len + 1) (opsL (fun i => if i < T.len then T.op i else ⟨1, 0, 0, 0⟩) (T.len + 1))
    rw [opsL, opsL_congr (op' := T.op) T.len (fun i hi => if_pos hi), if_neg (Nat.lt_irrefl _)]
    exact ho) (by simp only [Value.ownBlock, ne_eq, Option.some.injEq]; exact hgp.1), own_setN hints h.nb, by simp only [Value.ownBlock, ne_eq, Option.some.injEq]; exact hgp.1, h.nb, fun k hk => ?_, hH, (h.w.grown hg (by omega) (fun b hb => (h.ops.lt b hb).1)).setCell (p := ⟨P, 1, none⟩) hH _⟩
  · rw [World.cell?_setCell_other _ _ _ _ (fun q => by injection q with _ q2 _; omega)]; exact c1
  · rw [World.cell?_setCell_other _ _ _ _ (fun q => by injection q with _ q2 _; omega)]; exact c3
  · have := (World.frozen?_of_block (a := ⟨P, o, none⟩) b1).trans (h.fr o)
    simp [go_sem, this]
  · simp only [Value.ownBlock, Option.some.injEq] at hk
    rw [← hk]; exact hgp.2
end Go.Proofs.Yticbgaflhiokgaa
