/-
  Tapes, whatever they are: how they lie in memory; whether one may be.
-/
import Derived.Test.YtnlbafjmbamoeaaGj
import Derived.Test.YtnlbafjmbamoeaaHa
import Derived.ChangeSlices
namespace Go.Proofs.Ytnlbafjmbamoeaa
open Go.RowKit
open Ieee (double)
attribute [local go_sem] alloc_drewN setCell_drewN call_bits call_frombits ord_lt ord_eq ord_gt ord_ne ord_le ord_ge eqB_self run_fadd run_fsub run_fmul run_fquo

theorem belowC {W w1 : World} (hb : Below W.heap.size W w1) : (∀ b o, b < W.heap.size → w1.cell? ⟨b, o, none⟩ = W.cell? ⟨b, o, none⟩) ∧ (∀ b o, b < W.heap.size → w1.frozen? ⟨b, o, none⟩ = W.frozen? ⟨b, o, none⟩) :=
  ⟨fun b o h => hb.cell (p := ⟨b, o, none⟩) h, fun b o h => hb.frozen (p := ⟨b, o, none⟩) h⟩

/-- An operation. -/
structure OpD where
  k : Int
  a : Int
  b : Int
  c : Nat
def opV (o : OpD) : Value := .agg #[.int .i64 o.k, .int .i64 o.a, .int .i64 o.b, .float .f64 o.c]
def belowB (a n : Int) : Bool := decide (0 ≤ a) && decide (a < n)
def standsB (o : OpD) (i n : Int) : Bool :=
  if o.k = 0 then finB o.c && (o.a == 0 && o.b == 0)
  else if o.k = 1 then belowB o.a n && (o.b == 0 && eqB o.c 0)
  else if 2 ≤ o.k ∧ o.k ≤ 5 then belowB o.a i && (belowB o.b i && eqB o.c 0)
  else false

theorem below_tells (a n : Int) (w : World) : Calls Try.prog 61 #[.int .i64 a, .int .i64 n] w (Tells (.bool (belowB a n)) w) := by
  go_enter Try.func61, Try.ntmps61
  go_wp2_with fail
  · go_ret
    refine ⟨ret_bool ?_, Below.refl _ _⟩
    have h : 0 ≤ a := by assumption
    unfold belowB
    rw [decide_eq_true h, Bool.true_and]
  · go_ret
    refine ⟨ret_bool ?_, Below.refl _ _⟩
    have h : ¬ 0 ≤ a := by omega
    unfold belowB
    rw [decide_eq_false h, Bool.false_and]
/-- An operation in memory. -/
def Box4 (B : Nat) (o : OpD) (w : World) : Prop :=
  w.cell? ⟨B, 0, none⟩ = some (.int .i64 o.k) ∧ w.cell? ⟨B, 1, none⟩ = some (.int .i64 o.a) ∧ w.cell? ⟨B, 2, none⟩ = some (.int .i64 o.b) ∧ w.cell? ⟨B, 3, none⟩ = some (.float .f64 o.c) ∧ B < w.heap.size
theorem Box4.below {B : Nat} {o : OpD} {w w' : World} (h : Box4 B o w) (hb : Below w.heap.size w w') : Box4 B o w' := by
  obtain ⟨h1, h2, h3, h4, h5⟩ := h
  obtain ⟨hc, -⟩ := belowC hb
  have := hb.size
  exact ⟨by rw [hc _ _ h5]; exact h1, by rw [hc _ _ h5]; exact h2, by rw [hc _ _ h5]; exact h3, by rw [hc _ _ h5]; exact h4, by omega⟩
theorem Box4.new (o : OpD) (w : World) (t : TypeId) : Box4 w.heap.size o (w.alloc (.cells #[.int .i64 o.k, .int .i64 o.a, .int .i64 o.b, .float .f64 o.c] t)) := by
  refine ⟨?_, ?_, ?_, ?_, by simp⟩ <;> rw [World.cell?_alloc_new] <;> rfl
theorem stands_tells (o : OpD) (i n : Int) (w : World) : Calls Try.prog 60 #[opV o, .int .i64 i, .int .i64 n] w (Tells (.bool (standsB o i n)) w) := by
  obtain ⟨k, a, b, c⟩ := o
  have HB := Box4.new ⟨k, a, b, c⟩ w 47
  have hw : Below w.heap.size w (w.alloc (.cells #[.int .i64 k, .int .i64 a, .int .i64 b, .float .f64 c] 47)) := (Below.refl _ _).alloc (Nat.le_refl _) _
  unfold opV standsB
  simp only []
  go_enter Try.func60, Try.ntmps60
  by_cases k0 : k = 0
  · subst k0
    go_wp2_with fail
    refine (finite_tells c _).mono ?_
    rintro e w1 ⟨rfl, hb1⟩
    obtain ⟨c0, c1, c2, c3, c4⟩ := HB.below hb1
    have hw1 := hw.trans (hb1.mono hw.size)
    clear HB hb1 hw
    simp only [] at c0 c1 c2 c3
    generalize hB : w.heap.size = B at *
    cases hf : finB c
    all_goals go_wp2_with fail
    all_goals (go_ret; refine ⟨ret_bool ?_, by rw [hB]; exact hw1⟩; simp_all)
  · by_cases k1 : k = 1
    · subst k1
      go_wp2_with fail
      refine (below_tells a n _).mono ?_
      rintro e w1 ⟨rfl, hb1⟩
      obtain ⟨c0, c1, c2, c3, c4⟩ := HB.below hb1
      have hw1 := hw.trans (hb1.mono hw.size)
      clear HB hb1 hw
      simp only [] at c0 c1 c2 c3
      generalize hB : w.heap.size = B at *
      cases hf : belowB a n
      all_goals go_wp2_with fail
      all_goals (go_ret; refine ⟨ret_bool ?_, by rw [hB]; exact hw1⟩; simp_all)
    · by_cases k2 : 2 ≤ k ∧ k ≤ 5
      · have hk : k = 2 ∨ k = 3 ∨ k = 4 ∨ k = 5 := by omega
        rcases hk with rfl | rfl | rfl | rfl
        all_goals
          go_wp2_with fail
          refine (below_tells a i _).mono ?_
          rintro e w1 ⟨rfl, hb1⟩
          have HB1 := HB.below hb1
          have hw1 := hw.trans (hb1.mono hw.size)
          clear HB hb1 hw
          obtain ⟨c0, c1, c2, c3, c4⟩ := id HB1
          simp only [] at c0 c1 c2 c3
          generalize hB : w.heap.size = B at *
          cases hf : belowB a i
          · go_wp2_with fail
            go_ret
            refine ⟨ret_bool ?_, by rw [hB]; exact hw1⟩
            simp_all
          · go_wp2_with fail
            refine (below_tells b i _).mono ?_
            rintro e w2 ⟨rfl, hb2⟩
            have HB2 := HB1.below hb2
            have hw2 := hw1.trans (hb2.mono (by have := hw1.size; omega))
            clear HB1 hb2 hw1 c0 c1 c2 c3 c4
            obtain ⟨c0, c1, c2, c3, c4⟩ := id HB2
            simp only [] at c0 c1 c2 c3
            cases hg : belowB b i
            all_goals go_wp2_with fail
            all_goals (go_ret; refine ⟨ret_bool ?_, by rw [hB]; exact hw2⟩; simp_all)
      · go_wp2_with fail
        all_goals first | omega | (go_ret; refine ⟨ret_bool ?_, hw⟩; simp_all)
end Go.Proofs.Ytnlbafjmbamoeaa
