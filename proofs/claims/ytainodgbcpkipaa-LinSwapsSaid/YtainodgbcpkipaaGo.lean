/-
  From, to: products, quotients, sizes of from-tos: what each call of iv gives; from-tos made of whole numbers; the chapter's examples.
-/
import Derived.Test.YtainodgbcpkipaaGj
namespace Go.Proofs.Ytainodgbcpkipaa
open Go.RowKit
attribute [local go_sem] alloc_drewN setCell_drewN call_bits call_frombits ord_lt ord_eq ord_gt ord_ne ord_le ord_ge eqB_self run_fadd run_fsub run_fmul run_fquo

theorem bcell {W w1 : World} (hb : Below W.heap.size W w1) : (∀ b o, b < W.heap.size → w1.cell? ⟨b, o, none⟩ = W.cell? ⟨b, o, none⟩) ∧ (∀ b o, b < W.heap.size → w1.frozen? ⟨b, o, none⟩ = W.frozen? ⟨b, o, none⟩) :=
  ⟨fun b o h => hb.cell (p := ⟨b, o, none⟩) h, fun b o h => hb.frozen (p := ⟨b, o, none⟩) h⟩

theorem run_store_f64 (P : Program) (w : World) (a : Addr) (m : Mode) (b : Nat) : (store a (.float .f64 b) m).run P w = stored P w a (.float .f64 b) m := run_store P w a _ m rfl
attribute [local go_sem] run_store_f64

abbrev iv (lo hi : Nat) : Value := .agg #[.float .f64 lo, .float .f64 hi]


def makeI (a b : Nat) : Value := if leB a b then iv a b else iv 18442240474082181120 9218868437227405312
def outI (a b : Nat) : Value := makeI (downB a) (upB b)
/-- The least and the greatest of some, from the first on. -/
def minL (lo : Nat) : List Nat → Nat
  | [] => lo
  | x :: xs => minL (if ltB x lo then x else lo) xs
def maxL (hi : Nat) : List Nat → Nat
  | [] => hi
  | x :: xs => maxL (if ltB hi x then x else hi) xs
theorem minL_snoc (xs : List Nat) : ∀ lo x, minL lo (xs ++ [x]) = if ltB x (minL lo xs) then x else minL lo xs := by
  induction xs with
  | nil => intro lo x; rfl
  | cons y ys ih => intro lo x; exact ih _ x
theorem maxL_snoc (xs : List Nat) : ∀ hi x, maxL hi (xs ++ [x]) = if ltB (maxL hi xs) x then x else maxL hi xs := by
  induction xs with
  | nil => intro lo x; rfl
  | cons y ys ih => intro lo x; exact ih _ x
def aroundI (a b c d : Nat) : Value :=
  if isN a || isN b || isN c || isN d then iv 18442240474082181120 9218868437227405312 else outI (minL a [a, b, c, d]) (maxL a [a, b, c, d])

theorem downB_canon (x : Nat) : downB (canon x) = downB x := by
  cases h : isN x
  · rw [canon_num h]
  · have e : canon x = nanB := by unfold canon; rw [if_pos h]
    rw [e]; unfold downB; rw [h, if_pos rfl, if_pos (by decide)]
theorem upB_canon (x : Nat) : upB (canon x) = upB x := by
  cases h : isN x
  · rw [canon_num h]
  · have e : canon x = nanB := by unfold canon; rw [if_pos h]
    rw [e]; unfold upB; rw [h, if_pos rfl, if_pos (by decide)]
theorem aroundI_canon (a b c d : Nat) : aroundI (canon a) (canon b) (canon c) (canon d) = aroundI a b c d := by
  unfold aroundI
  rw [isN_canon, isN_canon, isN_canon, isN_canon]
  by_cases h : (isN a || isN b || isN c || isN d) = true
  · rw [if_pos h, if_pos h]
  · rw [if_neg h, if_neg h]
    have h' : isN a = false ∧ isN b = false ∧ isN c = false ∧ isN d = false := by
      cases h1 : isN a <;> cases h2 : isN b <;> cases h3 : isN c <;> cases h4 : isN d <;> simp [h1, h2, h3, h4] at h ⊢
    rw [canon_num h'.1, canon_num h'.2.1, canon_num h'.2.2.1, canon_num h'.2.2.2]
theorem upB_lt {x : Nat} (hx : x < 18446744073709551616) : upB x < 18446744073709551616 := by
  cases h : isN x
  · exact (up_key hx h).2.2
  · unfold upB; rw [if_pos h]; decide
theorem downB_lt {x : Nat} (hx : x < 18446744073709551616) : downB x < 18446744073709551616 := by
  cases h : isN x
  · exact (down_key hx h).2.2
  · unfold downB; rw [if_pos h]; decide

theorem two_cells {w1 : World} {B : Nat} {u v : Value} (x y : Value) (h0 : w1.cell? ⟨B, 0, none⟩ = some u) (h1 : w1.cell? ⟨B, 1, none⟩ = some v) :
    ((w1.setCell ⟨B, 0, none⟩ x).setCell ⟨B, 1, none⟩ y).cell? ⟨B, 0, none⟩ = some x ∧ ((w1.setCell ⟨B, 0, none⟩ x).setCell ⟨B, 1, none⟩ y).cell? ⟨B, 1, none⟩ = some y := by
  have n1 : (⟨B, 1, none⟩ : Addr) ≠ ⟨B, 0, none⟩ := by simp
  have n0 : (⟨B, 0, none⟩ : Addr) ≠ ⟨B, 1, none⟩ := by simp
  constructor
  · rw [World.cell?_setCell_other _ _ _ _ n1, World.cell?_setCell_same _ _ _ h0]
  · refine World.cell?_setCell_same _ _ _ (u := v) ?_
    rw [World.cell?_setCell_other _ _ _ _ n0, h1]
def Gives (v : Value) (w : World) (e : Ending) (w' : World) : Prop := e = .returned v ∧ Below w.heap.size w w'
theorem Gives.eq {v u : Value} {w w' : World} {e : Ending} (h : Gives v w e w') (hv : v = u) : Gives u w e w' := hv ▸ h

theorem right_any (a b : Nat) (w : World) : Calls Try.prog 67 #[iv a b] w (Gives (.bool (leB a b)) w) := by
  go_enter Try.func67, Try.ntmps67
  go_wp2
  go_ret
  exact ⟨rfl, (Below.refl _ _).alloc (Nat.le_refl _) _⟩

theorem whole_any (w : World) : Calls Try.prog 64 #[] w (Gives (iv 18442240474082181120 9218868437227405312) w) := by
  go_enter Try.func64, Try.ntmps64
  go_wp2_with (go_at_call 50; first | (with_reducible refine (inf_pos _).mono ?_; rintro e w' ⟨rfl, rfl⟩) | (with_reducible refine (inf_neg _).mono ?_; rintro e w' ⟨rfl, rfl⟩))
  exact bodyPost_ret (v := iv 18442240474082181120 9218868437227405312) (by simp [results, Try.results64, go_sem]) rfl ⟨rfl, (Below.refl _ _).alloc (Nat.le_refl _) _⟩

theorem make_any (a b : Nat) (w : World) : Calls Try.prog 60 #[.float .f64 a, .float .f64 b] w (Gives (makeI a b) w) := by
  unfold makeI
  cases h : leB a b
  · rw [if_neg (by decide)]
    go_enter Try.func60, Try.ntmps60
    go_wp2_with fail
    refine (right_any _ _ _).mono ?_
    rintro e w1 ⟨rfl, hb⟩
    obtain ⟨hc, hf⟩ := bcell hb
    go_wp2_with fail
    refine (whole_any _).mono ?_
    rintro e w2 ⟨rfl, hb2⟩
    obtain ⟨hc2, hf2⟩ := bcell hb2
    have hz : w.heap.size < w1.heap.size := by have := hb.size; simp at this; omega
    have hz1 : w.heap.size + 1 < w1.heap.size := by have := hb.size; simp at this; omega
    have k0 : w2.cell? ⟨w.heap.size, 0, none⟩ = some (.float .f64 0) := by rw [hc2 _ _ hz, hc _ _ (by simp; omega)]; go_simp
    have k1 : w2.cell? ⟨w.heap.size, 1, none⟩ = some (.float .f64 0) := by rw [hc2 _ _ hz, hc _ _ (by simp; omega)]; go_simp
    have k := two_cells (.float .f64 18442240474082181120) (.float .f64 9218868437227405312) k0 k1
    have K := Lib.hid k
    clear k
    go_wp2_with fail
    exact bodyPost_ret (v := iv 18442240474082181120 9218868437227405312) (by simp [results, Try.results60, go_sem, K.out.1, K.out.2]) rfl ⟨rfl, Below.setCell (Below.setCell (Below.trans (Below.trans (((Below.refl _ _).alloc (Nat.le_refl _) _).alloc (by simp) _) (hb.mono (by simp; omega))) (hb2.mono (by omega))) (by simp) _) (by simp) _⟩
  · rw [if_pos rfl]
    go_enter Try.func60, Try.ntmps60
    go_wp2_with fail
    refine (right_any _ _ _).mono ?_
    rintro e w1 ⟨rfl, hb⟩
    obtain ⟨hc, hf⟩ := bcell hb
    have k0 : w1.cell? ⟨w.heap.size, 0, none⟩ = some (.float .f64 0) := by rw [hc _ _ (by simp; omega)]; go_simp
    have k1 : w1.cell? ⟨w.heap.size, 1, none⟩ = some (.float .f64 0) := by rw [hc _ _ (by simp; omega)]; go_simp
    have K := Lib.hid (two_cells (.float .f64 a) (.float .f64 b) k0 k1)
    go_wp2_with fail
    exact bodyPost_ret (v := iv a b) (by simp [results, Try.results60, go_sem, K.out.1, K.out.2]) rfl ⟨rfl, Below.setCell (Below.setCell (Below.trans (((Below.refl _ _).alloc (Nat.le_refl _) _).alloc (by simp) _) (hb.mono (by simp; omega))) (by simp) _) (by simp) _⟩

theorem makeI_two (a b : Nat) : ∃ x y, makeI a b = iv x y := by unfold makeI; split <;> exact ⟨_, _, rfl⟩

theorem outwards_any (a b : Nat) (w : World) (ha : a < 18446744073709551616) (hb : b < 18446744073709551616) : Calls Try.prog 54 #[.float .f64 a, .float .f64 b] w (Gives (outI a b) w) := by
  unfold outI
  have hm := fun w => make_any (downB a) (upB b) w
  obtain ⟨x, y, hxy⟩ := makeI_two (downB a) (upB b)
  rw [hxy] at hm ⊢
  have HM := Lib.hid hm
  clear hm hxy
  go_enter Try.func54, Try.ntmps54
  go_wp2_with (first | (go_at_call 62; refine (up_any _ _ hb).mono ?_; rintro e w' ⟨rfl, rfl⟩) | (go_at_call 61; refine (down_any _ _ ha).mono ?_; rintro e w' ⟨rfl, rfl⟩))
  refine (HM.out _).mono ?_
  rintro e w1 ⟨rfl, hb1⟩
  obtain ⟨hc, hf⟩ := bcell hb1
  have k0 : w1.cell? ⟨w.heap.size, 0, none⟩ = some (.float .f64 0) := by rw [hc _ _ (by simp)]; go_simp
  have k1 : w1.cell? ⟨w.heap.size, 1, none⟩ = some (.float .f64 0) := by rw [hc _ _ (by simp)]; go_simp
  have K := Lib.hid (two_cells (.float .f64 x) (.float .f64 y) k0 k1)
  go_wp2_with fail
  exact bodyPost_ret (v := iv x y) (by simp [results, Try.results54, go_sem, K.out.1, K.out.2]) rfl ⟨rfl, Below.setCell (Below.setCell (Below.trans ((Below.refl _ _).alloc (Nat.le_refl _) _) (hb1.mono (by simp))) (by simp) _) (by simp) _⟩

theorem outI_canon (a b : Nat) : outI (canon a) (canon b) = outI a b := by unfold outI; rw [downB_canon, upB_canon]
theorem outI_fval (o p : BinOp) (w v : World) (a b c d : Nat) : outI (fval o w a b) (fval p v c d) = outI (cop o a b) (cop p c d) := by
  rw [← outI_canon, canon_fval, canon_fval]
theorem outI_two (a b : Nat) : ∃ x y, outI a b = iv x y := makeI_two _ _

theorem sub_any (a b c d : Nat) (w : World) : Calls Try.prog 41 #[iv a b, iv c d] w (Gives (outI (cop .sub a d) (cop .sub b c)) w) := by
  obtain ⟨x, y, hxy⟩ := outI_two (cop .sub a d) (cop .sub b c)
  rw [hxy]
  have hm : ∀ W w w', Calls Try.prog 54 #[.float .f64 (fval .sub w a d), .float .f64 (fval .sub w' b c)] W (Gives (iv x y) W) := fun W w w' =>
    (outwards_any _ _ W (fval_lt _ _ _ _) (fval_lt _ _ _ _)).mono fun _ _ h => h.eq (by rw [outI_fval, hxy])
  have HM := Lib.hid hm
  clear hm hxy
  go_enter Try.func41, Try.ntmps41
  go_wp2_with fail
  refine (HM.out _ _ _).mono ?_
  rintro e w1 ⟨rfl, hb1⟩
  obtain ⟨hc, hf⟩ := bcell hb1
  have k0 : w1.cell? ⟨w.heap.size + 2, 0, none⟩ = some (.float .f64 0) := by rw [hc _ _ (by simp)]; go_simp
  have k1 : w1.cell? ⟨w.heap.size + 2, 1, none⟩ = some (.float .f64 0) := by rw [hc _ _ (by simp)]; go_simp
  have K := Lib.hid (two_cells (.float .f64 x) (.float .f64 y) k0 k1)
  go_wp2_with fail
  exact bodyPost_ret (v := iv x y) (by simp [results, Try.results41, go_sem, K.out.1, K.out.2]) rfl ⟨rfl, (by
    refine Below.setCell (Below.setCell (Below.trans ?_ (hb1.mono (by simp <;> omega))) (by simp <;> omega) _) (by simp <;> omega) _
    repeat (first | exact Below.refl _ _ | refine below_drew ?_ _ | refine Below.alloc ?_ (by simp <;> omega) _))⟩


end Go.Proofs.Ytainodgbcpkipaa

namespace Go.Proofs.Ytainodgbcpkipaa
open Go.RowKit
attribute [local go_sem] alloc_drewN setCell_drewN call_bits call_frombits ord_lt ord_eq ord_gt ord_ne ord_le ord_ge eqB_self run_fadd run_fsub run_fmul run_fquo run_store_f64

/-- How far a look at some has come. -/
def mnK (a b c d : Nat) (k : Nat) : Nat := minL a ([a, b, c, d].take k)
def mxK (a b c d : Nat) (k : Nat) : Nat := maxL a ([a, b, c, d].take k)
def at4 (a b c d : Nat) (k : Nat) : Nat := [a, b, c, d].getD k 0
theorem take_snoc4 (a b c d : Nat) {k : Nat} (hk : k < 4) : [a, b, c, d].take (k + 1) = [a, b, c, d].take k ++ [at4 a b c d k] := by
  have : k = 0 ∨ k = 1 ∨ k = 2 ∨ k = 3 := by omega
  rcases this with rfl | rfl | rfl | rfl <;> rfl
theorem mnK_succ (a b c d : Nat) {k : Nat} (hk : k < 4) : mnK a b c d (k + 1) = if ltB (at4 a b c d k) (mnK a b c d k) then at4 a b c d k else mnK a b c d k := by
  unfold mnK; rw [take_snoc4 a b c d hk, minL_snoc]
theorem mxK_succ (a b c d : Nat) {k : Nat} (hk : k < 4) : mxK a b c d (k + 1) = if ltB (mxK a b c d k) (at4 a b c d k) then at4 a b c d k else mxK a b c d k := by
  unfold mxK; rw [take_snoc4 a b c d hk, maxL_snoc]
/-- No number among the first k. -/
def none4 (a b c d : Nat) (k : Nat) : Bool := ([a, b, c, d].take k).any isN
theorem none4_succ (a b c d : Nat) {k : Nat} (hk : k < 4) : none4 a b c d (k + 1) = (none4 a b c d k || isN (at4 a b c d k)) := by
  unfold none4; rw [take_snoc4 a b c d hk]; simp
theorem none4_all (a b c d : Nat) : none4 a b c d 4 = (isN a || isN b || isN c || isN d) := by
  unfold none4; simp [Bool.or_assoc]
theorem none4_later {a b c d : Nat} {k : Nat} (hk : k ≤ 4) (h : none4 a b c d k = true) : none4 a b c d 4 = true := by
  have : k = 0 ∨ k = 1 ∨ k = 2 ∨ k = 3 ∨ k = 4 := by omega
  unfold none4 at *
  rcases this with rfl | rfl | rfl | rfl | rfl <;> simp at h ⊢
  · simp [h]
  · rcases h with h | h <;> simp [h]
  · rcases h with h | h | h <;> simp [h]
  · rcases h with h | h | h | h <;> simp [h]

theorem idx4 (a b c d : Nat) {k : Nat} (hk : k < 4) (w : World) : (Instr.index 78 (.agg #[.float .f64 a, .float .f64 b, .float .f64 c, .float .f64 d]) (.int .i64 k)).run Try.prog w = .ok (.float .f64 (at4 a b c d k)) w := by
  have i0 : ∀ w, (Instr.index 78 (.agg #[.float .f64 a, .float .f64 b, .float .f64 c, .float .f64 d]) (.int .i64 0)).run Try.prog w = .ok (.float .f64 a) w := fun _ => by kernel_rfl
  have i1 : ∀ w, (Instr.index 78 (.agg #[.float .f64 a, .float .f64 b, .float .f64 c, .float .f64 d]) (.int .i64 1)).run Try.prog w = .ok (.float .f64 b) w := fun _ => by kernel_rfl
  have i2 : ∀ w, (Instr.index 78 (.agg #[.float .f64 a, .float .f64 b, .float .f64 c, .float .f64 d]) (.int .i64 2)).run Try.prog w = .ok (.float .f64 c) w := fun _ => by kernel_rfl
  have i3 : ∀ w, (Instr.index 78 (.agg #[.float .f64 a, .float .f64 b, .float .f64 c, .float .f64 d]) (.int .i64 3)).run Try.prog w = .ok (.float .f64 d) w := fun _ => by kernel_rfl
  have : k = 0 ∨ k = 1 ∨ k = 2 ∨ k = 3 := by omega
  rcases this with rfl | rfl | rfl | rfl
  · exact i0 w
  · exact i1 w
  · exact i2 w
  · exact i3 w

def endsV (a b c d : Nat) : Value := if none4 a b c d 4 then .tuple #[.float .f64 0, .float .f64 0, .bool false] else .tuple #[.float .f64 (mnK a b c d 4), .float .f64 (mxK a b c d 4), .bool true]
abbrev arr4 (a b c d : Nat) : Value := .agg #[.float .f64 a, .float .f64 b, .float .f64 c, .float .f64 d]

set_option maxHeartbeats 1000000 in
theorem ends_any (a b c d : Nat) (w : World) : Calls Try.prog 63 #[arr4 a b c d] w (Gives (endsV a b c d) w) := by
  go_enter Try.func63, Try.ntmps63
  go_wp2
  go_quiet (fail)
  go_wp2
  go_loop [2, 3, 12] (fun lo hi i => ∃ k : Nat, k ≤ 4 ∧ i = .int .i64 k ∧ none4 a b c d k = false ∧ lo = .float .f64 (mnK a b c d k) ∧ hi = .float .f64 (mxK a b c d k)) (fun _ _ i => 4 - (intOf i).toNat)
  case atStart => exact ⟨0, by omega, rfl, rfl, rfl, rfl⟩
  case round =>
    obtain ⟨k, hk, rfl, hn, rfl, rfl⟩ := hrel
    by_cases hlt : k < 4
    · have hx := fun w => idx4 a b c d hlt w
      have N1 := Lib.hid (none4_succ a b c d hlt)
      have N2 := Lib.hid (mnK_succ a b c d hlt)
      have N3 := Lib.hid (mxK_succ a b c d hlt)
      have hn' := Lib.hid hn
      have hl := Lib.hid (fun h => none4_later (a := a) (b := b) (c := c) (d := d) (k := k + 1) (by omega) h)
      clear hn
      generalize at4 a b c d k = x at *
      generalize hmn : mnK a b c d k = mn at *
      generalize hmx : mxK a b c d k = mx at *
      clear hmn hmx
      cases h1 : isN x
      · cases h2 : ltB x mn <;> cases h3 : ltB mx x
        all_goals
          go_wp2
          go_round
          case rel => exact ⟨k + 1, by omega, by go_num, by rw [N1.out, hn'.out, h1]; rfl, by rw [N2.out, h2]; rfl, by rw [N3.out, h3]; rfl⟩
          case measure => simp [intOf]; omega
      · go_wp2
        go_ret3
        have e4 : none4 a b c d 4 = true := hl.out (by rw [N1.out, h1]; simp)
        refine ⟨?_, below_drew ((Below.refl _ _).alloc (Nat.le_refl _) _) _⟩
        unfold endsV; rw [if_pos e4]; rfl
    · obtain rfl : k = 4 := by omega
      have hn' := Lib.hid hn
      clear hn
      go_wp2
      go_ret3
      refine ⟨?_, below_drew ((Below.refl _ _).alloc (Nat.le_refl _) _) _⟩
      unfold endsV; rw [hn'.out]; rfl

theorem outI_lt {a b : Nat} (ha : a < 18446744073709551616) (hb : b < 18446744073709551616) : ∃ x y, outI a b = iv x y ∧ x < 18446744073709551616 ∧ y < 18446744073709551616 := by
  unfold outI makeI; split
  · exact ⟨_, _, rfl, downB_lt ha, upB_lt hb⟩
  · exact ⟨_, _, rfl, by decide, by decide⟩
theorem minL_lt {xs : List Nat} : ∀ {lo : Nat}, lo < 18446744073709551616 → (∀ x ∈ xs, x < 18446744073709551616) → minL lo xs < 18446744073709551616 := by
  induction xs with
  | nil => intro lo h _; exact h
  | cons y ys ih =>
    intro lo h hx
    refine ih ?_ (fun x m => hx x (by simp [m]))
    split
    · exact hx y (by simp)
    · exact h
theorem maxL_lt {xs : List Nat} : ∀ {lo : Nat}, lo < 18446744073709551616 → (∀ x ∈ xs, x < 18446744073709551616) → maxL lo xs < 18446744073709551616 := by
  induction xs with
  | nil => intro lo h _; exact h
  | cons y ys ih =>
    intro lo h hx
    refine ih ?_ (fun x m => hx x (by simp [m]))
    split
    · exact hx y (by simp)
    · exact h
theorem aroundI_two (a b c d : Nat) : ∃ x y, aroundI a b c d = iv x y := by
  unfold aroundI; split
  · exact ⟨_, _, rfl⟩
  · exact outI_two _ _

set_option maxHeartbeats 1000000 in
theorem around_any (a b c d : Nat) (w : World) (ha : a < 18446744073709551616) (hb : b < 18446744073709551616) (hc' : c < 18446744073709551616) (hd : d < 18446744073709551616) :
    Calls Try.prog 55 #[arr4 a b c d] w (Gives (aroundI a b c d) w) := by
  have hall : ∀ x ∈ [a, b, c, d], x < 18446744073709551616 := by simp [ha, hb, hc', hd]
  have l1 := minL_lt (xs := [a, b, c, d]) ha hall
  have l2 := maxL_lt (xs := [a, b, c, d]) ha hall
  have he := fun w => ends_any a b c d w
  unfold endsV at he
  unfold aroundI
  rw [none4_all] at he
  cases hn : (isN a || isN b || isN c || isN d)
  · rw [hn, if_neg (by decide)] at he
    rw [if_neg (by decide)]
    have e1 : mnK a b c d 4 = minL a [a, b, c, d] := rfl
    have e2 : mxK a b c d 4 = maxL a [a, b, c, d] := rfl
    rw [e1, e2] at he
    generalize minL a [a, b, c, d] = lo at *
    generalize maxL a [a, b, c, d] = hi at *
    have ho := fun w => outwards_any lo hi w l1 l2
    obtain ⟨x, y, hxy⟩ := outI_two lo hi
    rw [hxy] at ho ⊢
    have HE := Lib.hid he
    have HO := Lib.hid ho
    clear he ho hxy e1 e2 hn hall ha hb hc' hd
    go_enter Try.func55, Try.ntmps55
    go_wp2_with fail
    refine (HE.out _).mono ?_
    rintro e w1 ⟨rfl, hb1⟩
    obtain ⟨hc, hf⟩ := bcell hb1
    go_wp2_with fail
    refine (HO.out _).mono ?_
    rintro e w2 ⟨rfl, hb2⟩
    obtain ⟨hc2, hf2⟩ := bcell hb2
    have hz : w.heap.size < w1.heap.size := by have := hb1.size; simp at this; omega
    have hz1 : w.heap.size + 1 < w1.heap.size := by have := hb1.size; simp at this; omega
    have k0 : w2.cell? ⟨w.heap.size + 1, 0, none⟩ = some (.float .f64 0) := by rw [hc2 _ _ hz1, hc _ _ (by simp <;> omega)]; go_simp
    have k1 : w2.cell? ⟨w.heap.size + 1, 1, none⟩ = some (.float .f64 0) := by rw [hc2 _ _ hz1, hc _ _ (by simp <;> omega)]; go_simp
    have K := Lib.hid (two_cells (.float .f64 x) (.float .f64 y) k0 k1)
    go_wp2_with fail
    exact bodyPost_ret (v := iv x y) (by simp [results, Try.results55, go_sem, K.out.1, K.out.2]) rfl ⟨rfl, (by
      refine Below.setCell (Below.setCell (Below.trans (Below.trans ?_ (hb1.mono (by simp <;> omega))) (hb2.mono (by omega))) (by simp <;> omega) _) (by simp <;> omega) _
      repeat (first | exact Below.refl _ _ | refine below_drew ?_ _ | refine Below.alloc ?_ (by simp <;> omega) _))⟩
  · rw [hn, if_pos rfl] at he
    rw [if_pos rfl]
    have HE := Lib.hid he
    clear he hn hall ha hb hc' hd l1 l2
    go_enter Try.func55, Try.ntmps55
    go_wp2_with fail
    refine (HE.out _).mono ?_
    rintro e w1 ⟨rfl, hb1⟩
    obtain ⟨hc, hf⟩ := bcell hb1
    go_wp2_with fail
    refine (whole_any _).mono ?_
    rintro e w2 ⟨rfl, hb2⟩
    obtain ⟨hc2, hf2⟩ := bcell hb2
    have hz : w.heap.size < w1.heap.size := by have := hb1.size; simp at this; omega
    have hz1 : w.heap.size + 1 < w1.heap.size := by have := hb1.size; simp at this; omega
    have k0 : w2.cell? ⟨w.heap.size + 1, 0, none⟩ = some (.float .f64 0) := by rw [hc2 _ _ hz1, hc _ _ (by simp <;> omega)]; go_simp
    have k1 : w2.cell? ⟨w.heap.size + 1, 1, none⟩ = some (.float .f64 0) := by rw [hc2 _ _ hz1, hc _ _ (by simp <;> omega)]; go_simp
    have K := Lib.hid (two_cells (.float .f64 18442240474082181120) (.float .f64 9218868437227405312) k0 k1)
    go_wp2_with fail
    exact bodyPost_ret (v := iv 18442240474082181120 9218868437227405312) (by simp [results, Try.results55, go_sem, K.out.1, K.out.2]) rfl ⟨rfl, (by
      refine Below.setCell (Below.setCell (Below.trans (Below.trans ?_ (hb1.mono (by simp <;> omega))) (hb2.mono (by omega))) (by simp <;> omega) _) (by simp <;> omega) _
      repeat (first | exact Below.refl _ _ | refine below_drew ?_ _ | refine Below.alloc ?_ (by simp <;> omega) _))⟩

end Go.Proofs.Ytainodgbcpkipaa

namespace Go.Proofs.Ytainodgbcpkipaa
open Go.RowKit
attribute [local go_sem] alloc_drewN setCell_drewN call_bits call_frombits ord_lt ord_eq ord_gt ord_ne ord_le ord_ge eqB_self run_fadd run_fsub run_fmul run_fquo run_store_f64

theorem aroundI_fval (o : BinOp) (w1 w2 w3 w4 : World) (a1 b1 a2 b2 a3 b3 a4 b4 : Nat) :
    aroundI (fval o w1 a1 b1) (fval o w2 a2 b2) (fval o w3 a3 b3) (fval o w4 a4 b4) = aroundI (cop o a1 b1) (cop o a2 b2) (cop o a3 b3) (cop o a4 b4) := by
  rw [← aroundI_canon, canon_fval, canon_fval, canon_fval, canon_fval]

def mulI (a b c d : Nat) : Value := aroundI (cop .mul a c) (cop .mul a d) (cop .mul b c) (cop .mul b d)
def divI (a b c d : Nat) : Value := if leB c 0 && leB 0 d then iv 18442240474082181120 9218868437227405312 else aroundI (cop .quo a c) (cop .quo a d) (cop .quo b c) (cop .quo b d)
def magB (a b : Nat) : Nat := if ltB (b % 9223372036854775808) (a % 9223372036854775808) then a % 9223372036854775808 else b % 9223372036854775808

set_option maxHeartbeats 1000000 in
theorem mul_any (a b c d : Nat) (w : World) : Calls Try.prog 42 #[iv a b, iv c d] w (Gives (mulI a b c d) w) := by
  unfold mulI
  obtain ⟨x, y, hxy⟩ := aroundI_two (cop .mul a c) (cop .mul a d) (cop .mul b c) (cop .mul b d)
  rw [hxy]
  have hm : ∀ W w1 w2 w3 w4, Calls Try.prog 55 #[arr4 (fval .mul w1 a c) (fval .mul w2 a d) (fval .mul w3 b c) (fval .mul w4 b d)] W (Gives (iv x y) W) := fun W w1 w2 w3 w4 =>
    (around_any _ _ _ _ W (fval_lt _ _ _ _) (fval_lt _ _ _ _) (fval_lt _ _ _ _) (fval_lt _ _ _ _)).mono fun _ _ h => h.eq (by rw [aroundI_fval, hxy])
  have HM := Lib.hid hm
  clear hm hxy
  go_enter Try.func42, Try.ntmps42
  go_wp2_with fail
  refine (HM.out _ _ _ _ _).mono ?_
  rintro e w1 ⟨rfl, hb1⟩
  obtain ⟨hc, hf⟩ := bcell hb1
  have k0 : w1.cell? ⟨w.heap.size + 2, 0, none⟩ = some (.float .f64 0) := by rw [hc _ _ (by simp)]; go_simp
  have k1 : w1.cell? ⟨w.heap.size + 2, 1, none⟩ = some (.float .f64 0) := by rw [hc _ _ (by simp)]; go_simp
  have K := Lib.hid (two_cells (.float .f64 x) (.float .f64 y) k0 k1)
  go_wp2_with fail
  exact bodyPost_ret (v := iv x y) (by simp [results, Try.results42, go_sem, K.out.1, K.out.2]) rfl ⟨rfl, (by
    refine Below.setCell (Below.setCell (Below.trans ?_ (hb1.mono (by simp <;> omega))) (by simp <;> omega) _) (by simp <;> omega) _
    repeat (first | exact Below.refl _ _ | refine below_drew ?_ _ | refine Below.alloc ?_ (by simp <;> omega) _))⟩


theorem abs_quiet (x : Nat) (w : World) (hx : x < 18446744073709551616) : Calls Try.prog 26 #[.float .f64 x] w fun e w' => e = .returned (.float .f64 (x % 9223372036854775808)) ∧ w' = w :=
  (abs_any x w hx).mono fun _ _ ⟨h1, h2⟩ => ⟨h1, h2.symm⟩

end Go.Proofs.Ytainodgbcpkipaa
