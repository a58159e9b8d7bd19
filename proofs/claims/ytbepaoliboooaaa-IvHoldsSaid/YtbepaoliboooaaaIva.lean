/-
  From, to: what each call of iv gives, of the bits of the ends; it makes new memory alone.
-/
import Derived.Test.YtbepaoliboooaaaFpo
namespace Go.Proofs.Ytbepaoliboooaaa
open Go.RowKit
attribute [local go_sem] alloc_drewN setCell_drewN call_bits call_frombits ord_lt ord_eq ord_gt ord_ne ord_le ord_ge eqB_self run_fadd run_fsub run_fmul run_fquo

theorem bcell {W w1 : World} (hb : Below W.heap.size W w1) : (∀ b o, b < W.heap.size → w1.cell? ⟨b, o, none⟩ = W.cell? ⟨b, o, none⟩) ∧ (∀ b o, b < W.heap.size → w1.frozen? ⟨b, o, none⟩ = W.frozen? ⟨b, o, none⟩) :=
  ⟨fun b o h => hb.cell (p := ⟨b, o, none⟩) h, fun b o h => hb.frozen (p := ⟨b, o, none⟩) h⟩

theorem run_store_f64 (P : Program) (w : World) (a : Addr) (m : Mode) (b : Nat) : (store a (.float .f64 b) m).run P w = stored P w a (.float .f64 b) m := run_store P w a _ m rfl
attribute [local go_sem] run_store_f64

abbrev iv (lo hi : Nat) : Value := .agg #[.float .f64 lo, .float .f64 hi]


def makeI (a b : Nat) : Value := if leB a b then iv a b else iv 18442240474082181120 9218868437227405312
def outI (a b : Nat) : Value := makeI (downB a) (upB b)
/-- The least and the greatest of some, from the first on. -/
def minL (lo : Nat) : List Nat → Nat
  | [] => lo
  | x :: xs => minL (if ltB x lo then x else lo) xs
def maxL (hi : Nat) : List Nat → Nat
  | [] => hi
  | x :: xs => maxL (if ltB hi x then x else hi) xs
theorem minL_snoc (xs : List Nat) : ∀ lo x, minL lo (xs ++ [x]) = if ltB x (minL lo xs) then x else minL lo xs := by
  induction xs with
  | nil => intro lo x; rfl
  | cons y ys ih => intro lo x; exact ih _ x
theorem maxL_snoc (xs : List Nat) : ∀ hi x, maxL hi (xs ++ [x]) = if ltB (maxL hi xs) x then x else maxL hi xs := by
  induction xs with
  | nil => intro lo x; rfl
  | cons y ys ih => intro lo x; exact ih _ x
def aroundI (a b c d : Nat) : Value :=
  if isN a || isN b || isN c || isN d then iv 18442240474082181120 9218868437227405312 else outI (minL a [a, b, c, d]) (maxL a [a, b, c, d])

theorem downB_canon (x : Nat) : downB (canon x) = downB x := by
  cases h : isN x
  · rw [canon_num h]
  · have e : canon x = nanB := by unfold canon; rw [if_pos h]
    rw [e]; unfold downB; rw [h, if_pos rfl, if_pos (by decide)]
theorem upB_canon (x : Nat) : upB (canon x) = upB x := by
  cases h : isN x
  · rw [canon_num h]
  · have e : canon x = nanB := by unfold canon; rw [if_pos h]
    rw [e]; unfold upB; rw [h, if_pos rfl, if_pos (by decide)]
theorem aroundI_canon (a b c d : Nat) : aroundI (canon a) (canon b) (canon c) (canon d) = aroundI a b c d := by
  unfold aroundI
  rw [isN_canon, isN_canon, isN_canon, isN_canon]
  by_cases h : (isN a || isN b || isN c || isN d) = true
  · rw [if_pos h, if_pos h]
  · rw [if_neg h, if_neg h]
    have h' : isN a = false ∧ isN b = false ∧ isN c = false ∧ isN d = false := by
      cases h1 : isN a <;> cases h2 : isN b <;> cases h3 : isN c <;> cases h4 : isN d <;> simp [h1, h2, h3, h4] at h ⊢
    rw [canon_num h'.1, canon_num h'.2.1, canon_num h'.2.2.1, canon_num h'.2.2.2]
theorem upB_lt {x : Nat} (hx : x < 18446744073709551616) : upB x < 18446744073709551616 := by
  cases h : isN x
  · exact (up_key hx h).2.2
  · unfold upB; rw [if_pos h]; decide
theorem downB_lt {x : Nat} (hx : x < 18446744073709551616) : downB x < 18446744073709551616 := by
  cases h : isN x
  · exact (down_key hx h).2.2
  · unfold downB; rw [if_pos h]; decide

theorem two_cells {w1 : World} {B : Nat} {u v : Value} (x y : Value) (h0 : w1.cell? ⟨B, 0, none⟩ = some u) (h1 : w1.cell? ⟨B, 1, none⟩ = some v) :
    ((w1.setCell ⟨B, 0, none⟩ x).setCell ⟨B, 1, none⟩ y).cell? ⟨B, 0, none⟩ = some x ∧ ((w1.setCell ⟨B, 0, none⟩ x).setCell ⟨B, 1, none⟩ y).cell? ⟨B, 1, none⟩ = some y := by
  have n1 : (⟨B, 1, none⟩ : Addr) ≠ ⟨B, 0, none⟩ := by simp
  have n0 : (⟨B, 0, none⟩ : Addr) ≠ ⟨B, 1, none⟩ := by simp
  constructor
  · rw [World.cell?_setCell_other _ _ _ _ n1, World.cell?_setCell_same _ _ _ h0]
  · refine World.cell?_setCell_same _ _ _ (u := v) ?_
    rw [World.cell?_setCell_other _ _ _ _ n0, h1]
def Gives (v : Value) (w : World) (e : Ending) (w' : World) : Prop := e = .returned v ∧ Below w.heap.size w w'
theorem Gives.eq {v u : Value} {w w' : World} {e : Ending} (h : Gives v w e w') (hv : v = u) : Gives u w e w' := hv ▸ h

theorem right_any (a b : Nat) (w : World) : Calls Try.prog 25 #[iv a b] w (Gives (.bool (leB a b)) w) := by
  go_enter Try.func25, Try.ntmps25
  go_wp2
  go_ret
  exact ⟨rfl, (Below.refl _ _).alloc (Nat.le_refl _) _⟩

theorem whole_any (w : World) : Calls Try.prog 50 #[] w (Gives (iv 18442240474082181120 9218868437227405312) w) := by
  go_enter Try.func50, Try.ntmps50
  go_wp2_with (go_at_call 44; first | (with_reducible refine (inf_pos _).mono ?_; rintro e w' ⟨rfl, rfl⟩) | (with_reducible refine (inf_neg _).mono ?_; rintro e w' ⟨rfl, rfl⟩))
  exact bodyPost_ret (v := iv 18442240474082181120 9218868437227405312) (by simp [results, Try.results50, go_sem]) rfl ⟨rfl, (Below.refl _ _).alloc (Nat.le_refl _) _⟩

theorem make_any (a b : Nat) (w : World) : Calls Try.prog 20 #[.float .f64 a, .float .f64 b] w (Gives (makeI a b) w) := by
  unfold makeI
  cases h : leB a b
  · rw [if_neg (by decide)]
    go_enter Try.func20, Try.ntmps20
    go_wp2_with fail
    refine (right_any _ _ _).mono ?_
    rintro e w1 ⟨rfl, hb⟩
    obtain ⟨hc, hf⟩ := bcell hb
    go_wp2_with fail
    refine (whole_any _).mono ?_
    rintro e w2 ⟨rfl, hb2⟩
    obtain ⟨hc2, hf2⟩ := bcell hb2
    have hz : w.heap.size < w1.heap.size := by have := hb.size; simp at this; omega
    have hz1 : w.heap.size + 1 < w1.heap.size := by have := hb.size; simp at this; omega
    have k0 : w2.cell? ⟨w.heap.size, 0, none⟩ = some (.float .f64 0) := by rw [hc2 _ _ hz, hc _ _ (by simp; omega)]; go_simp
    have k1 : w2.cell? ⟨w.heap.size, 1, none⟩ = some (.float .f64 0) := by rw [hc2 _ _ hz, hc _ _ (by simp; omega)]; go_simp
    have k := two_cells (.float .f64 18442240474082181120) (.float .f64 9218868437227405312) k0 k1
    have K := Lib.hid k
    clear k
    go_wp2_with fail
    exact bodyPost_ret (v := iv 18442240474082181120 9218868437227405312) (by simp [results, Try.results20, go_sem, K.out.1, K.out.2]) rfl ⟨rfl, Below.setCell (Below.setCell (Below.trans (Below.trans (((Below.refl _ _).alloc (Nat.le_refl _) _).alloc (by simp) _) (hb.mono (by simp; omega))) (hb2.mono (by omega))) (by simp) _) (by simp) _⟩
  · rw [if_pos rfl]
    go_enter Try.func20, Try.ntmps20
    go_wp2_with fail
    refine (right_any _ _ _).mono ?_
    rintro e w1 ⟨rfl, hb⟩
    obtain ⟨hc, hf⟩ := bcell hb
    have k0 : w1.cell? ⟨w.heap.size, 0, none⟩ = some (.float .f64 0) := by rw [hc _ _ (by simp; omega)]; go_simp
    have k1 : w1.cell? ⟨w.heap.size, 1, none⟩ = some (.float .f64 0) := by rw [hc _ _ (by simp; omega)]; go_simp
    have K := Lib.hid (two_cells (.float .f64 a) (.float .f64 b) k0 k1)
    go_wp2_with fail
    exact bodyPost_ret (v := iv a b) (by simp [results, Try.results20, go_sem, K.out.1, K.out.2]) rfl ⟨rfl, Below.setCell (Below.setCell (Below.trans (((Below.refl _ _).alloc (Nat.le_refl _) _).alloc (by simp) _) (hb.mono (by simp; omega))) (by simp) _) (by simp) _⟩

theorem makeI_two (a b : Nat) : ∃ x y, makeI a b = iv x y := by unfold makeI; split <;> exact ⟨_, _, rfl⟩

theorem outwards_any (a b : Nat) (w : World) (ha : a < 18446744073709551616) (hb : b < 18446744073709551616) : Calls Try.prog 55 #[.float .f64 a, .float .f64 b] w (Gives (outI a b) w) := by
  unfold outI
  have hm := fun w => make_any (downB a) (upB b) w
  obtain ⟨x, y, hxy⟩ := makeI_two (downB a) (upB b)
  rw [hxy] at hm ⊢
  have HM := Lib.hid hm
  clear hm hxy
  go_enter Try.func55, Try.ntmps55
  go_wp2_with (first | (go_at_call 67; refine (up_any _ _ hb).mono ?_; rintro e w' ⟨rfl, rfl⟩) | (go_at_call 66; refine (down_any _ _ ha).mono ?_; rintro e w' ⟨rfl, rfl⟩))
  refine (HM.out _).mono ?_
  rintro e w1 ⟨rfl, hb1⟩
  obtain ⟨hc, hf⟩ := bcell hb1
  have k0 : w1.cell? ⟨w.heap.size, 0, none⟩ = some (.float .f64 0) := by rw [hc _ _ (by simp)]; go_simp
  have k1 : w1.cell? ⟨w.heap.size, 1, none⟩ = some (.float .f64 0) := by rw [hc _ _ (by simp)]; go_simp
  have K := Lib.hid (two_cells (.float .f64 x) (.float .f64 y) k0 k1)
  go_wp2_with fail
  exact bodyPost_ret (v := iv x y) (by simp [results, Try.results55, go_sem, K.out.1, K.out.2]) rfl ⟨rfl, Below.setCell (Below.setCell (Below.trans ((Below.refl _ _).alloc (Nat.le_refl _) _) (hb1.mono (by simp))) (by simp) _) (by simp) _⟩

theorem outI_canon (a b : Nat) : outI (canon a) (canon b) = outI a b := by unfold outI; rw [downB_canon, upB_canon]
theorem outI_fval (o p : BinOp) (w v : World) (a b c d : Nat) : outI (fval o w a b) (fval p v c d) = outI (cop o a b) (cop p c d) := by
  rw [← outI_canon, canon_fval, canon_fval]
theorem outI_two (a b : Nat) : ∃ x y, outI a b = iv x y := makeI_two _ _

/-- A function of two from-tos that is one sum or difference of each end. -/
theorem add_any (a b c d : Nat) (w : World) : Calls Try.prog 31 #[iv a b, iv c d] w (Gives (outI (cop .add a c) (cop .add b d)) w) := by
  obtain ⟨x, y, hxy⟩ := outI_two (cop .add a c) (cop .add b d)
  rw [hxy]
  have hm : ∀ W w w', Calls Try.prog 55 #[.float .f64 (fval .add w a c), .float .f64 (fval .add w' b d)] W (Gives (iv x y) W) := fun W w w' =>
    (outwards_any _ _ W (fval_lt _ _ _ _) (fval_lt _ _ _ _)).mono fun _ _ h => h.eq (by rw [outI_fval, hxy])
  have HM := Lib.hid hm
  clear hm hxy
  go_enter Try.func31, Try.ntmps31
  go_wp2_with fail
  refine (HM.out _ _ _).mono ?_
  rintro e w1 ⟨rfl, hb1⟩
  obtain ⟨hc, hf⟩ := bcell hb1
  have k0 : w1.cell? ⟨w.heap.size + 2, 0, none⟩ = some (.float .f64 0) := by rw [hc _ _ (by simp)]; go_simp
  have k1 : w1.cell? ⟨w.heap.size + 2, 1, none⟩ = some (.float .f64 0) := by rw [hc _ _ (by simp)]; go_simp
  have K := Lib.hid (two_cells (.float .f64 x) (.float .f64 y) k0 k1)
  go_wp2_with fail
  exact bodyPost_ret (v := iv x y) (by simp [results, Try.results31, go_sem, K.out.1, K.out.2]) rfl ⟨rfl, (by
    refine Below.setCell (Below.setCell (Below.trans ?_ (hb1.mono (by simp <;> omega))) (by simp <;> omega) _) (by simp <;> omega) _
    repeat (first | exact Below.refl _ _ | refine below_drew ?_ _ | refine Below.alloc ?_ (by simp <;> omega) _))⟩
theorem sub_any (a b c d : Nat) (w : World) : Calls Try.prog 33 #[iv a b, iv c d] w (Gives (outI (cop .sub a d) (cop .sub b c)) w) := by
  obtain ⟨x, y, hxy⟩ := outI_two (cop .sub a d) (cop .sub b c)
  rw [hxy]
  have hm : ∀ W w w', Calls Try.prog 55 #[.float .f64 (fval .sub w a d), .float .f64 (fval .sub w' b c)] W (Gives (iv x y) W) := fun W w w' =>
    (outwards_any _ _ W (fval_lt _ _ _ _) (fval_lt _ _ _ _)).mono fun _ _ h => h.eq (by rw [outI_fval, hxy])
  have HM := Lib.hid hm
  clear hm hxy
  go_enter Try.func33, Try.ntmps33
  go_wp2_with fail
  refine (HM.out _ _ _).mono ?_
  rintro e w1 ⟨rfl, hb1⟩
  obtain ⟨hc, hf⟩ := bcell hb1
  have k0 : w1.cell? ⟨w.heap.size + 2, 0, none⟩ = some (.float .f64 0) := by rw [hc _ _ (by simp)]; go_simp
  have k1 : w1.cell? ⟨w.heap.size + 2, 1, none⟩ = some (.float .f64 0) := by rw [hc _ _ (by simp)]; go_simp
  have K := Lib.hid (two_cells (.float .f64 x) (.float .f64 y) k0 k1)
  go_wp2_with fail
  exact bodyPost_ret (v := iv x y) (by simp [results, Try.results33, go_sem, K.out.1, K.out.2]) rfl ⟨rfl, (by
    refine Below.setCell (Below.setCell (Below.trans ?_ (hb1.mono (by simp <;> omega))) (by simp <;> omega) _) (by simp <;> omega) _
    repeat (first | exact Below.refl _ _ | refine below_drew ?_ _ | refine Below.alloc ?_ (by simp <;> omega) _))⟩

theorem in_any (x a b : Nat) (w : World) : Calls Try.prog 27 #[.float .f64 x, iv a b] w (Gives (.bool (leB a x && leB x b)) w) := by
  cases h1 : leB a x <;> cases h2 : leB x b
  all_goals
    go_enter Try.func27, Try.ntmps27
    go_wp2
    go_ret
    exact ⟨rfl, (Below.refl _ _).alloc (Nat.le_refl _) _⟩
theorem inside_any (a b c d : Nat) (w : World) : Calls Try.prog 29 #[iv a b, iv c d] w (Gives (.bool (leB c a && leB b d)) w) := by
  cases h1 : leB c a <;> cases h2 : leB b d
  all_goals
    go_enter Try.func29, Try.ntmps29
    go_wp2
    go_ret
    exact ⟨rfl, ((Below.refl _ _).alloc (Nat.le_refl _) _).alloc (by simp) _⟩
theorem join_any (a b c d : Nat) (w : World) : Calls Try.prog 39 #[iv a b, iv c d] w (Gives (iv (if ltB c a then c else a) (if ltB b d then d else b)) w) := by
  cases h1 : ltB c a <;> cases h2 : ltB b d
  all_goals
    go_enter Try.func39, Try.ntmps39
    go_wp2
  · exact bodyPost_ret (v := iv a b) (by simp [results, Try.results39, go_sem]) rfl ⟨rfl, by repeat (first | exact Below.refl _ _ | refine Below.setCell ?_ (by simp) _ | refine Below.alloc ?_ (by simp; try omega) _)⟩
  · exact bodyPost_ret (v := iv a d) (by simp [results, Try.results39, go_sem]) rfl ⟨rfl, by repeat (first | exact Below.refl _ _ | refine Below.setCell ?_ (by simp) _ | refine Below.alloc ?_ (by simp; try omega) _)⟩
  · exact bodyPost_ret (v := iv c b) (by simp [results, Try.results39, go_sem]) rfl ⟨rfl, by repeat (first | exact Below.refl _ _ | refine Below.setCell ?_ (by simp) _ | refine Below.alloc ?_ (by simp; try omega) _)⟩
  · exact bodyPost_ret (v := iv c d) (by simp [results, Try.results39, go_sem]) rfl ⟨rfl, by repeat (first | exact Below.refl _ _ | refine Below.setCell ?_ (by simp) _ | refine Below.alloc ?_ (by simp; try omega) _)⟩

end Go.Proofs.Ytbepaoliboooaaa
