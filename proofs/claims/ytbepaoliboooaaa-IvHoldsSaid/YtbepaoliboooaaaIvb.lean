/-
  From, to: products, quotients, sizes: what each call of iv gives, of the bits of the ends; it makes new memory alone.
-/
import Derived.Test.YtbepaoliboooaaaIva
namespace Go.Proofs.Ytbepaoliboooaaa
open Go.RowKit
attribute [local go_sem] alloc_drewN setCell_drewN call_bits call_frombits ord_lt ord_eq ord_gt ord_ne ord_le ord_ge eqB_self run_fadd run_fsub run_fmul run_fquo run_store_f64

/-- How far a look at some has come. -/
def mnK (a b c d : Nat) (k : Nat) : Nat := minL a ([a, b, c, d].take k)
def mxK (a b c d : Nat) (k : Nat) : Nat := maxL a ([a, b, c, d].take k)
def at4 (a b c d : Nat) (k : Nat) : Nat := [a, b, c, d].getD k 0
theorem take_snoc4 (a b c d : Nat) {k : Nat} (hk : k < 4) : [a, b, c, d].take (k + 1) = [a, b, c, d].take k ++ [at4 a b c d k] := by
  have : k = 0 ∨ k = 1 ∨ k = 2 ∨ k = 3 := by omega
  rcases this with rfl | rfl | rfl | rfl <;> rfl
theorem mnK_succ (a b c d : Nat) {k : Nat} (hk : k < 4) : mnK a b c d (k + 1) = if ltB (at4 a b c d k) (mnK a b c d k) then at4 a b c d k else mnK a b c d k := by
  unfold mnK; rw [take_snoc4 a b c d hk, minL_snoc]
theorem mxK_succ (a b c d : Nat) {k : Nat} (hk : k < 4) : mxK a b c d (k + 1) = if ltB (mxK a b c d k) (at4 a b c d k) then at4 a b c d k else mxK a b c d k := by
  unfold mxK; rw [take_snoc4 a b c d hk, maxL_snoc]
/-- No number among the first k. -/
def none4 (a b c d : Nat) (k : Nat) : Bool := ([a, b, c, d].take k).any isN
theorem none4_succ (a b c d : Nat) {k : Nat} (hk : k < 4) : none4 a b c d (k + 1) = (none4 a b c d k || isN (at4 a b c d k)) := by
  unfold none4; rw [take_snoc4 a b c d hk]; simp
theorem none4_all (a b c d : Nat) : none4 a b c d 4 = (isN a || isN b || isN c || isN d) := by
  unfold none4; simp [Bool.or_assoc]
theorem none4_later {a b c d : Nat} {k : Nat} (hk : k ≤ 4) (h : none4 a b c d k = true) : none4 a b c d 4 = true := by
  have : k = 0 ∨ k = 1 ∨ k = 2 ∨ k = 3 ∨ k = 4 := by omega
  unfold none4 at *
  rcases this with rfl | rfl | rfl | rfl | rfl <;> simp at h ⊢
  · simp [h]
  · rcases h with h | h <;> simp [h]
  · rcases h with h | h | h <;> simp [h]
  · rcases h with h | h | h | h <;> simp [h]

theorem idx4 (a b c d : Nat) {k : Nat} (hk : k < 4) (w : World) : (Instr.index 57 (.agg #[.float .f64 a, .float .f64 b, .float .f64 c, .float .f64 d]) (.int .i64 k)).run Try.prog w = .ok (.float .f64 (at4 a b c d k)) w := by
  have i0 : ∀ w, (Instr.index 57 (.agg #[.float .f64 a, .float .f64 b, .float .f64 c, .float .f64 d]) (.int .i64 0)).run Try.prog w = .ok (.float .f64 a) w := fun _ => by kernel_rfl
  have i1 : ∀ w, (Instr.index 57 (.agg #[.float .f64 a, .float .f64 b, .float .f64 c, .float .f64 d]) (.int .i64 1)).run Try.prog w = .ok (.float .f64 b) w := fun _ => by kernel_rfl
  have i2 : ∀ w, (Instr.index 57 (.agg #[.float .f64 a, .float .f64 b, .float .f64 c, .float .f64 d]) (.int .i64 2)).run Try.prog w = .ok (.float .f64 c) w := fun _ => by kernel_rfl
  have i3 : ∀ w, (Instr.index 57 (.agg #[.float .f64 a, .float .f64 b, .float .f64 c, .float .f64 d]) (.int .i64 3)).run Try.prog w = .ok (.float .f64 d) w := fun _ => by kernel_rfl
  have : k = 0 ∨ k = 1 ∨ k = 2 ∨ k = 3 := by omega
  rcases this with rfl | rfl | rfl | rfl
  · exact i0 w
  · exact i1 w
  · exact i2 w
  · exact i3 w

def endsV (a b c d : Nat) : Value := if none4 a b c d 4 then .tuple #[.float .f64 0, .float .f64 0, .bool false] else .tuple #[.float .f64 (mnK a b c d 4), .float .f64 (mxK a b c d 4), .bool true]
abbrev arr4 (a b c d : Nat) : Value := .agg #[.float .f64 a, .float .f64 b, .float .f64 c, .float .f64 d]

set_option maxHeartbeats 1000000 in
theorem ends_any (a b c d : Nat) (w : World) : Calls Try.prog 69 #[arr4 a b c d] w (Gives (endsV a b c d) w) := by
  go_enter Try.func69, Try.ntmps69
  go_wp2
  go_quiet (fail)
  go_wp2
  go_loop [2, 3, 12] (fun lo hi i => ∃ k : Nat, k ≤ 4 ∧ i = .int .i64 k ∧ none4 a b c d k = false ∧ lo = .float .f64 (mnK a b c d k) ∧ hi = .float .f64 (mxK a b c d k)) (fun _ _ i => 4 - (intOf i).toNat)
  case atStart => exact ⟨0, by omega, rfl, rfl, rfl, rfl⟩
  case round =>
    obtain ⟨k, hk, rfl, hn, rfl, rfl⟩ := hrel
    by_cases hlt : k < 4
    · have hx := fun w => idx4 a b c d hlt w
      have N1 := Lib.hid (none4_succ a b c d hlt)
      have N2 := Lib.hid (mnK_succ a b c d hlt)
      have N3 := Lib.hid (mxK_succ a b c d hlt)
      have hn' := Lib.hid hn
      have hl := Lib.hid (fun h => none4_later (a := a) (b := b) (c := c) (d := d) (k := k + 1) (by omega) h)
      clear hn
      generalize at4 a b c d k = x at *
      generalize hmn : mnK a b c d k = mn at *
      generalize hmx : mxK a b c d k = mx at *
      clear hmn hmx
      cases h1 : isN x
      · cases h2 : ltB x mn <;> cases h3 : ltB mx x
        all_goals
          go_wp2
          go_round
          case rel => exact ⟨k + 1, by omega, by go_num, by rw [N1.out, hn'.out, h1]; rfl, by rw [N2.out, h2]; rfl, by rw [N3.out, h3]; rfl⟩
          case measure => simp [intOf]; omega
      · go_wp2
        go_ret3
        have e4 : none4 a b c d 4 = true := hl.out (by rw [N1.out, h1]; simp)
        refine ⟨?_, below_drew ((Below.refl _ _).alloc (Nat.le_refl _) _) _⟩
        unfold endsV; rw [if_pos e4]; rfl
    · obtain rfl : k = 4 := by omega
      have hn' := Lib.hid hn
      clear hn
      go_wp2
      go_ret3
      refine ⟨?_, below_drew ((Below.refl _ _).alloc (Nat.le_refl _) _) _⟩
      unfold endsV; rw [hn'.out]; rfl

theorem outI_lt {a b : Nat} (ha : a < 18446744073709551616) (hb : b < 18446744073709551616) : ∃ x y, outI a b = iv x y ∧ x < 18446744073709551616 ∧ y < 18446744073709551616 := by
  unfold outI makeI; split
  · exact ⟨_, _, rfl, downB_lt ha, upB_lt hb⟩
  · exact ⟨_, _, rfl, by decide, by decide⟩
theorem minL_lt {xs : List Nat} : ∀ {lo : Nat}, lo < 18446744073709551616 → (∀ x ∈ xs, x < 18446744073709551616) → minL lo xs < 18446744073709551616 := by
  induction xs with
  | nil => intro lo h _; exact h
  | cons y ys ih =>
    intro lo h hx
    refine ih ?_ (fun x m => hx x (by simp [m]))
    split
    · exact hx y (by simp)
    · exact h
theorem maxL_lt {xs : List Nat} : ∀ {lo : Nat}, lo < 18446744073709551616 → (∀ x ∈ xs, x < 18446744073709551616) → maxL lo xs < 18446744073709551616 := by
  induction xs with
  | nil => intro lo h _; exact h
  | cons y ys ih =>
    intro lo h hx
    refine ih ?_ (fun x m => hx x (by simp [m]))
    split
    · exact hx y (by simp)
    · exact h
theorem aroundI_two (a b c d : Nat) : ∃ x y, aroundI a b c d = iv x y := by
  unfold aroundI; split
  · exact ⟨_, _, rfl⟩
  · exact outI_two _ _

set_option maxHeartbeats 1000000 in
theorem around_any (a b c d : Nat) (w : World) (ha : a < 18446744073709551616) (hb : b < 18446744073709551616) (hc' : c < 18446744073709551616) (hd : d < 18446744073709551616) :
    Calls Try.prog 58 #[arr4 a b c d] w (Gives (aroundI a b c d) w) := by
  have hall : ∀ x ∈ [a, b, c, d], x < 18446744073709551616 := by simp [ha, hb, hc', hd]
  have l1 := minL_lt (xs := [a, b, c, d]) ha hall
  have l2 := maxL_lt (xs := [a, b, c, d]) ha hall
  have he := fun w => ends_any a b c d w
  unfold endsV at he
  unfold aroundI
  rw [none4_all] at he
  cases hn : (isN a || isN b || isN c || isN d)
  · rw [hn, if_neg (by decide)] at he
    rw [if_neg (by decide)]
    have e1 : mnK a b c d 4 = minL a [a, b, c, d] := rfl
    have e2 : mxK a b c d 4 = maxL a [a, b, c, d] := rfl
    rw [e1, e2] at he
    generalize minL a [a, b, c, d] = lo at *
    generalize maxL a [a, b, c, d] = hi at *
    have ho := fun w => outwards_any lo hi w l1 l2
    obtain ⟨x, y, hxy⟩ := outI_two lo hi
    rw [hxy] at ho ⊢
    have HE := Lib.hid he
    have HO := Lib.hid ho
    clear he ho hxy e1 e2 hn hall ha hb hc' hd
    go_enter Try.func58, Try.ntmps58
    go_wp2_with fail
    refine (HE.out _).mono ?_
    rintro e w1 ⟨rfl, hb1⟩
    obtain ⟨hc, hf⟩ := bcell hb1
    go_wp2_with fail
    refine (HO.out _).mono ?_
    rintro e w2 ⟨rfl, hb2⟩
    obtain ⟨hc2, hf2⟩ := bcell hb2
    have hz : w.heap.size < w1.heap.size := by have := hb1.size; simp at this; omega
    have hz1 : w.heap.size + 1 < w1.heap.size := by have := hb1.size; simp at this; omega
    have k0 : w2.cell? ⟨w.heap.size + 1, 0, none⟩ = some (.float .f64 0) := by rw [hc2 _ _ hz1, hc _ _ (by simp <;> omega)]; go_simp
    have k1 : w2.cell? ⟨w.heap.size + 1, 1, none⟩ = some (.float .f64 0) := by rw [hc2 _ _ hz1, hc _ _ (by simp <;> omega)]; go_simp
    have K := Lib.hid (two_cells (.float .f64 x) (.float .f64 y) k0 k1)
    go_wp2_with fail
    exact bodyPost_ret (v := iv x y) (by simp [results, Try.results58, go_sem, K.out.1, K.out.2]) rfl ⟨rfl, (by
      refine Below.setCell (Below.setCell (Below.trans (Below.trans ?_ (hb1.mono (by simp <;> omega))) (hb2.mono (by omega))) (by simp <;> omega) _) (by simp <;> omega) _
      repeat (first | exact Below.refl _ _ | refine below_drew ?_ _ | refine Below.alloc ?_ (by simp <;> omega) _))⟩
  · rw [hn, if_pos rfl] at he
    rw [if_pos rfl]
    have HE := Lib.hid he
    clear he hn hall ha hb hc' hd l1 l2
    go_enter Try.func58, Try.ntmps58
    go_wp2_with fail
    refine (HE.out _).mono ?_
    rintro e w1 ⟨rfl, hb1⟩
    obtain ⟨hc, hf⟩ := bcell hb1
    go_wp2_with fail
    refine (whole_any _).mono ?_
    rintro e w2 ⟨rfl, hb2⟩
    obtain ⟨hc2, hf2⟩ := bcell hb2
    have hz : w.heap.size < w1.heap.size := by have := hb1.size; simp at this; omega
    have hz1 : w.heap.size + 1 < w1.heap.size := by have := hb1.size; simp at this; omega
    have k0 : w2.cell? ⟨w.heap.size + 1, 0, none⟩ = some (.float .f64 0) := by rw [hc2 _ _ hz1, hc _ _ (by simp <;> omega)]; go_simp
    have k1 : w2.cell? ⟨w.heap.size + 1, 1, none⟩ = some (.float .f64 0) := by rw [hc2 _ _ hz1, hc _ _ (by simp <;> omega)]; go_simp
    have K := Lib.hid (two_cells (.float .f64 18442240474082181120) (.float .f64 9218868437227405312) k0 k1)
    go_wp2_with fail
    exact bodyPost_ret (v := iv 18442240474082181120 9218868437227405312) (by simp [results, Try.results58, go_sem, K.out.1, K.out.2]) rfl ⟨rfl, (by
      refine Below.setCell (Below.setCell (Below.trans (Below.trans ?_ (hb1.mono (by simp <;> omega))) (hb2.mono (by omega))) (by simp <;> omega) _) (by simp <;> omega) _
      repeat (first | exact Below.refl _ _ | refine below_drew ?_ _ | refine Below.alloc ?_ (by simp <;> omega) _))⟩

end Go.Proofs.Ytbepaoliboooaaa
