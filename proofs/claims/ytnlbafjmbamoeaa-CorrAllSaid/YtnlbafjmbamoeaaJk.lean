/-
  What stays while one block is written, others are made.
-/
import Derived.Test.YtnlbafjmbamoeaaJb
namespace Go.Proofs.Ytnlbafjmbamoeaa
open Go.RowKit
open Ieee (double)

/-- All that was there, but one block, is as it was. -/
structure Keep (X : World) (q : Nat) (W : World) : Prop where
  out : Below 0 X W
  block : ∀ k, k < X.heap.size → k ≠ q → W.heap[k]? = X.heap[k]?
theorem Keep.refl (X : World) (q : Nat) : Keep X q X := ⟨Below.refl _ _, fun _ _ _ => rfl⟩
theorem Keep.size {X : World} {q : Nat} {W : World} (h : Keep X q W) : X.heap.size ≤ W.heap.size := h.out.size
theorem Keep.drewN {X : World} {q : Nat} {W : World} (h : Keep X q W) (n : Nat) : Keep X q (W.drewN n) := ⟨below_drewN h.out n, h.block⟩
theorem Keep.drew {X : World} {q : Nat} {W : World} (h : Keep X q W) : Keep X q W.drew := h.drewN 1
theorem Keep.step {X : World} {q : Nat} {W W' : World} (h : Keep X q W) (hb : Below W.heap.size W W') : Keep X q W' :=
  ⟨h.out.trans (hb.mono (Nat.zero_le _)), fun k hk hn => (hb.block k (Nat.lt_of_lt_of_le hk h.size)).trans (h.block k hk hn)⟩
theorem Keep.set {X : World} {q : Nat} {W : World} (h : Keep X q W) (o : Nat) (v : Value) : Keep X q (W.setCell ⟨q, o, none⟩ v) :=
  ⟨h.out.setCell (Nat.zero_le _) v, fun k hk hn => (Below.heap_setCell _ _ _ _ hn).trans (h.block k hk hn)⟩
theorem Keep.set2 {X : World} {q : Nat} {W : World} (h : Keep X q W) {p : Addr} (hp : p.block = q) (v : Value) : Keep X q (W.setCell p v) :=
  ⟨h.out.setCell (Nat.zero_le _) v, fun k hk hn => (Below.heap_setCell _ _ _ _ (by rw [hp]; exact hn)).trans (h.block k hk hn)⟩
theorem Keep.cell {X : World} {q : Nat} {W : World} (h : Keep X q W) {b : Nat} (hb : b < X.heap.size) (hn : b ≠ q) (o : Nat) : W.cell? ⟨b, o, none⟩ = X.cell? ⟨b, o, none⟩ := World.cell?_of_block (a := ⟨b, o, none⟩) (h.block b hb hn)
theorem Keep.free {X : World} {q : Nat} {W : World} (h : Keep X q W) {b : Nat} (hb : b < X.heap.size) (hn : b ≠ q) (o : Nat) : W.frozen? ⟨b, o, none⟩ = X.frozen? ⟨b, o, none⟩ := World.frozen?_of_block (a := ⟨b, o, none⟩) (h.block b hb hn)
theorem Keep.below {X : World} {q : Nat} {W : World} (h : Keep X q W) {B : Nat} {w : World} (hb : Below B w X) (hq : B ≤ q) (hs : B ≤ X.heap.size) : Below B w W :=
  ⟨h.out.os.trans hb.os, h.out.tape.trans hb.tape, h.out.output.trans hb.output, Nat.le_trans hb.size h.out.size, fun k hk => (h.block k (by omega) (by omega)).trans (hb.block k hk)⟩
theorem FRow.keep {X W : World} {q : Nat} {v : Value} {n : Nat} {f : Nat → Nat} {w : World} (hk : Keep X q W) (hb : Below w.heap.size w X) (hq : w.heap.size ≤ q) (h : FRow w v n f) : FRow W v n f := h.below (hk.below hb hq hb.size)
theorem FRow.keepB {X W : World} {q : Nat} {v : Value} {n : Nat} {f : Nat → Nat} {w : World} {B : Nat} (h : FRow w v n f) (hB : w.heap.size = B) (hk : Keep X q W) (hb : Below B w X) (hq : B ≤ q) : FRow W v n f := by
  subst hB
  exact FRow.keep hk hb hq h
theorem KB.keep {X W : World} {q K : Nat} (hk : Keep X q W) (hn : K ≠ q) (h : KB K X) : KB K W := by
  obtain ⟨h1, h2, h3, h4, h5, h6⟩ := h
  have := hk.size
  exact ⟨by rw [hk.cell h6 hn]; exact h1, by rw [hk.cell h6 hn]; exact h2, by rw [hk.cell h6 hn]; exact h3, by rw [hk.cell h6 hn]; exact h4, by rw [hk.cell h6 hn]; exact h5, by omega⟩
theorem CB.keep {X W : World} {q K : Nat} {v : Value} (hk : Keep X q W) (hn : K ≠ q) (h : CB K v X) : CB K v W := by
  obtain ⟨h1, h6⟩ := h
  have := hk.size
  exact ⟨by rw [hk.cell h6 hn]; exact h1, by omega⟩
theorem DB.keep {X W : World} {q K y : Nat} {v : Value} (hk : Keep X q W) (hn : K ≠ q) (h : DB K y v X) : DB K y v W := by
  obtain ⟨h1, h2, h6⟩ := h
  have := hk.size
  exact ⟨by rw [hk.cell h6 hn]; exact h1, by rw [hk.cell h6 hn]; exact h2, by omega⟩
end Go.Proofs.Ytnlbafjmbamoeaa
