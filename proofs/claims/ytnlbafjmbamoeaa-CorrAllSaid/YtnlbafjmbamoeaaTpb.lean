/-
  Whether a tape may be: as the program finds it.
-/
import Derived.Test.YtnlbafjmbamoeaaTpa
import Derived.StillTailTactics
namespace Go.Proofs.Ytnlbafjmbamoeaa
open Go.RowKit
open Ieee (double)
attribute [local go_sem] alloc_drewN setCell_drewN call_bits call_frombits ord_lt ord_eq ord_gt ord_ne ord_le ord_ge eqB_self run_fadd run_fsub run_fmul run_fquo

def allB : Nat → (Nat → Bool) → Bool
  | 0, _ => true
  | k + 1, p => allB k p && p k
theorem allB_iff {p : Nat → Bool} : ∀ {n : Nat}, allB n p = true ↔ ∀ i, i < n → p i = true
  | 0 => ⟨fun _ i h => by omega, fun _ => rfl⟩
  | n + 1 => by
    unfold allB
    rw [Bool.and_eq_true, allB_iff]
    constructor
    · rintro ⟨h1, h2⟩ i hi
      by_cases e : i = n
      · subst e; exact h2
      · exact h1 i (by omega)
    · exact fun h => ⟨fun i hi => h i (by omega), h n (by omega)⟩
theorem allB_no {p : Nat → Bool} {n i : Nat} (hi : i < n) (h : p i = false) : allB n p = false := by
  cases e : allB n p
  · rfl
  · rw [allB_iff.1 e i hi] at h; cases h

/-- A tape. -/
structure TD where
  n : Int
  len : Nat
  op : Nat → OpD
  lo : Nat
  out : Nat → Int
def OpsAt (w : World) (v : Value) (len : Nat) (op : Nat → OpD) : Prop :=
  ∃ a cap, v = .slice a len cap ∧ len ≤ 9223372036854775807 ∧ (0 < len → ∃ b off, a = some ⟨b, off, none⟩ ∧ b < w.heap.size ∧ ∀ i, i < len →
    w.cell? ⟨b, off + i * 4, none⟩ = some (.int .i64 (op i).k) ∧ w.cell? ⟨b, off + i * 4 + 1, none⟩ = some (.int .i64 (op i).a) ∧ w.cell? ⟨b, off + i * 4 + 2, none⟩ = some (.int .i64 (op i).b) ∧ w.cell? ⟨b, off + i * 4 + 3, none⟩ = some (.float .f64 (op i).c))
def IntsF (w : World) (v : Value) (len : Nat) (f : Nat → Int) : Prop :=
  ∃ a cap, v = .slice a len cap ∧ len ≤ 9223372036854775807 ∧ (0 < len → ∃ b off, a = some ⟨b, off, none⟩ ∧ b < w.heap.size ∧ ∀ i, i < len → w.cell? ⟨b, off + i, none⟩ = some (.int .i64 (f i)))
def TapeAt (w : World) (v : Value) (T : TD) : Prop := ∃ vo vu, v = .agg #[.int .i64 T.n, vo, vu] ∧ OpsAt w vo T.len T.op ∧ IntsF w vu T.lo T.out
theorem OpsAt.below {w w' : World} {v : Value} {len : Nat} {op : Nat → OpD} (h : OpsAt w v len op) (hb : Below w.heap.size w w') : OpsAt w' v len op := by
  obtain ⟨a, cap, h1, h2, h3⟩ := h
  refine ⟨a, cap, h1, h2, fun hl => ?_⟩
  obtain ⟨b, off, e, hs, hc⟩ := h3 hl
  obtain ⟨hk, -⟩ := belowC hb
  refine ⟨b, off, e, Nat.lt_of_lt_of_le hs hb.size, fun i hi => ?_⟩
  obtain ⟨c1, c2, c3, c4⟩ := hc i hi
  exact ⟨by rw [hk _ _ hs]; exact c1, by rw [hk _ _ hs]; exact c2, by rw [hk _ _ hs]; exact c3, by rw [hk _ _ hs]; exact c4⟩
theorem IntsF.below {w w' : World} {v : Value} {len : Nat} {f : Nat → Int} (h : IntsF w v len f) (hb : Below w.heap.size w w') : IntsF w' v len f := by
  obtain ⟨a, cap, h1, h2, h3⟩ := h
  refine ⟨a, cap, h1, h2, fun hl => ?_⟩
  obtain ⟨b, off, e, hs, hc⟩ := h3 hl
  obtain ⟨hk, -⟩ := belowC hb
  exact ⟨b, off, e, Nat.lt_of_lt_of_le hs hb.size, fun i hi => by rw [hk _ _ hs]; exact hc i hi⟩
theorem TapeAt.below {w w' : World} {v : Value} {T : TD} (h : TapeAt w v T) (hb : Below w.heap.size w w') : TapeAt w' v T := by
  obtain ⟨vo, vu, h1, h2, h3⟩ := h
  exact ⟨vo, vu, h1, h2.below hb, h3.below hb⟩
def checkB (T : TD) : Bool :=
  decide (1 ≤ T.n ∧ T.n ≤ 4 ∧ T.len ≤ 60 ∧ (T.lo : Int) = T.n) && (allB T.len (fun i => standsB (T.op i) i T.n) && allB T.lo fun i => belowB (T.out i) T.len)

/-- A tape's three cells in memory. -/
def Box3 (B : Nat) (n : Int) (vo vu : Value) (w : World) : Prop :=
  w.cell? ⟨B, 0, none⟩ = some (.int .i64 n) ∧ w.cell? ⟨B, 1, none⟩ = some vo ∧ w.cell? ⟨B, 2, none⟩ = some vu ∧ B < w.heap.size
theorem Box3.below {B : Nat} {n : Int} {vo vu : Value} {w w' : World} (h : Box3 B n vo vu w) (hb : Below w.heap.size w w') : Box3 B n vo vu w' := by
  obtain ⟨h1, h2, h3, h5⟩ := h
  obtain ⟨hc, -⟩ := belowC hb
  have := hb.size
  exact ⟨by rw [hc _ _ h5]; exact h1, by rw [hc _ _ h5]; exact h2, by rw [hc _ _ h5]; exact h3, by omega⟩
theorem Box3.new (n : Int) (vo vu : Value) (w : World) (t : TypeId) : Box3 w.heap.size n vo vu (w.alloc (.cells #[.int .i64 n, vo, vu] t)) := by
  refine ⟨?_, ?_, ?_, by simp⟩ <;> rw [World.cell?_alloc_new] <;> rfl

set_option maxRecDepth 100000 in
set_option maxHeartbeats 4000000 in
theorem check_tells (T : TD) (v : Value) (w : World) (h : TapeAt w v T) : Calls Try.prog 41 #[v] w (Tells (.bool (checkB T)) w) := by
  obtain ⟨n, len, op, lo, out⟩ := T
  obtain ⟨vo, vu, rfl, ⟨a, cap, rfl, hl1, ho⟩, ⟨a2, cap2, rfl, hl2, hu⟩⟩ := h
  simp only [] at *
  have HB := Box3.new n (.slice a len cap) (.slice a2 lo cap2) w 26
  have hw : Below w.heap.size w (w.alloc (.cells #[.int .i64 n, .slice a len cap, .slice a2 lo cap2] 26)) := (Below.refl _ _).alloc (Nat.le_refl _) _
  unfold checkB
  simp only []
  by_cases hq : 1 ≤ n ∧ n ≤ 4 ∧ len ≤ 60 ∧ (lo : Int) = n
  · obtain ⟨q1, q2, q3, q4⟩ := id hq
    rw [decide_eq_true hq, Bool.true_and]
    generalize hR : (allB len (fun i => standsB (op i) i n) && allB lo fun i => belowB (out i) len) = R
    go_enter Try.func41, Try.ntmps41
    go_wp2_with fail
    generalize hB : w.heap.size = B at *
    generalize w.alloc (.cells #[.int .i64 n, .slice a len cap, .slice a2 lo cap2] 26) = W at *
    go_loopw [30] (fun i wr => ∃ (j : Nat), j ≤ len ∧ i = .int .i64 j ∧ Below B w wr ∧ Box3 B n (.slice a len cap) (.slice a2 lo cap2) wr ∧ ∀ k, k < j → standsB (op k) k n = true) (fun i _ => len - (intOf i).toNat)
    case atStart => exact ⟨0, by omega, rfl, hw, HB, fun k hk => by omega⟩
    case round =>
      obtain ⟨j, hj, rfl, hw2, HB2, hst⟩ := hrel
      by_cases hlt : j < len
      · obtain ⟨b, off, rfl, hbs, hc⟩ := ho (by omega)
        obtain ⟨d1, d2, d3, d4⟩ := hc j hlt
        have hcl : ∀ b o, b < B → wr.cell? ⟨b, o, none⟩ = w.cell? ⟨b, o, none⟩ := fun b o h => (belowC (show Below w.heap.size w wr by rw [hB]; exact hw2)).1 b o (by rw [hB]; exact h)
        rw [← hcl _ _ hbs] at d1 d2 d3 d4
        obtain ⟨c0, c1, c2, c4⟩ := id HB2
        generalize ho' : op j = oj at *
        go_wp2_with fail
        go_still_tail 8, (by kernel_rfl)
        change wpList _ _ _ _ _ wr.drew
        have hb3 : Below wr.heap.size wr wr.drew := (Below.refl _ _).drew
        have HB3 := HB2.below hb3
        have hw3 := hw2.trans (hb3.mono (by have := hw2.size; omega))
        clear HB2 hw2 hb3 c0 c1 c2 c4 d1 d2 d3 d4
        generalize wr.drew = W3 at *
        go_wp2_with fail
        refine (stands_tells oj j n _).mono ?_
        rintro e w4 ⟨rfl, hb4⟩
        have HB4 := HB3.below hb4
        have hw4 := hw3.trans (hb4.mono (by have := hw3.size; omega))
        clear HB3 hw3 hb4
        cases hf : standsB oj j n
        · go_wp2_with fail
          go_ret
          refine ⟨ret_bool ?_, by rw [hB]; exact hw4⟩
          rw [← hR, allB_no (p := fun i => standsB (op i) i n) hlt (show standsB (op j) j n = false by rw [ho']; exact hf)]
          rfl
        · go_wp2_with fail
          go_roundw
          case rel => exact ⟨j + 1, by omega, by go_num, hw4, HB4, fun k hk => by
            by_cases e : k = j
            · subst e; rw [ho']; exact hf
            · exact hst k (by omega)⟩
          case measure => simp [intOf]; omega
      · obtain rfl : j = len := by omega
        have h1 : allB j (fun i => standsB (op i) i n) = true := allB_iff.2 hst
        rw [h1, Bool.true_and] at hR
        clear h1 hst ho
        obtain ⟨c0, c1, c2, c4⟩ := id HB2
        go_wp2_with fail
        clear c0 c1 c2 c4 HB hw
        go_loopw [46] (fun i wr => ∃ (k : Nat), k ≤ lo ∧ i = .int .i64 k ∧ Below B w wr ∧ Box3 B n (.slice a j cap) (.slice a2 lo cap2) wr ∧ ∀ m, m < k → belowB (out m) j = true) (fun i _ => lo - (intOf i).toNat)
        case atStart => exact ⟨0, by omega, rfl, hw2, HB2, fun k hk => by omega⟩
        case round =>
          clear hw2 HB2
          obtain ⟨k, hk, rfl, hw2, HB2, hst⟩ := hrel
          by_cases hlt : k < lo
          · obtain ⟨b, off, rfl, hbs, hc⟩ := hu (by omega)
            have d1 := hc k hlt
            have hcl : ∀ b o, b < B → wr.cell? ⟨b, o, none⟩ = w.cell? ⟨b, o, none⟩ := fun b o h => (belowC (show Below w.heap.size w wr by rw [hB]; exact hw2)).1 b o (by rw [hB]; exact h)
            rw [← hcl _ _ hbs] at d1
            obtain ⟨c0, c1, c2, c4⟩ := id HB2
            generalize ho' : out k = ok at *
            go_wp2_with fail
            go_still_tail 8, (by kernel_rfl)
            change wpList _ _ _ _ _ wr.drew
            have hb3 : Below wr.heap.size wr wr.drew := (Below.refl _ _).drew
            have HB3 := HB2.below hb3
            have hw3 := hw2.trans (hb3.mono (by have := hw2.size; omega))
            clear HB2 hw2 hb3 c0 c1 c2 c4 d1
            generalize wr.drew = W3 at *
            go_wp2_with fail
            refine (below_tells ok j _).mono ?_
            rintro e w4 ⟨rfl, hb4⟩
            have HB4 := HB3.below hb4
            have hw4 := hw3.trans (hb4.mono (by have := hw3.size; omega))
            clear HB3 hw3 hb4
            cases hf : belowB ok j
            · go_wp2_with fail
              go_ret
              refine ⟨ret_bool ?_, by rw [hB]; exact hw4⟩
              rw [← hR, allB_no (p := fun i => belowB (out i) j) hlt (show belowB (out k) j = false by rw [ho']; exact hf)]
            · go_wp2_with fail
              go_roundw
              case rel => exact ⟨k + 1, by omega, by go_num, hw4, HB4, fun m hm => by
                by_cases e : m = k
                · subst e; rw [ho']; exact hf
                · exact hst m (by omega)⟩
              case measure => simp [intOf]; omega
          · obtain rfl : k = lo := by omega
            have h1 : allB k (fun i => belowB (out i) j) = true := allB_iff.2 hst
            rw [h1] at hR
            clear h1 hst
            go_wp2_with fail
            go_ret
            exact ⟨ret_bool hR, by rw [hB]; exact hw2⟩
  · rw [decide_eq_false hq, Bool.false_and]
    obtain ⟨c0, c1, c2, c4⟩ := id HB
    have hcases : ¬ 1 ≤ n ∨ (1 ≤ n ∧ ¬ n ≤ 4) ∨ (1 ≤ n ∧ n ≤ 4 ∧ ¬ len ≤ 60) ∨ (1 ≤ n ∧ n ≤ 4 ∧ len ≤ 60 ∧ ¬ (lo : Int) = n) := by omega
    rcases hcases with h | ⟨h1, h⟩ | ⟨h1, h2, h⟩ | ⟨h1, h2, h3, h⟩
    case' inr.inr.inr => have hne : ((lo : Int) != n) = true := by simpa using h
    all_goals
      go_enter Try.func41, Try.ntmps41
      go_wp2_with fail
      go_ret
      exact ⟨rfl, hw⟩
end Go.Proofs.Ytnlbafjmbamoeaa
