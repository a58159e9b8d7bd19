/-
  The known ones, and from-tos that are made: what each call gives.
  From-tos turned about: the plain facts.
-/
import Derived.Test.YtbepaoliboooaaaGo
import Derived.Deep.RegionHeld3
import Derived.Test.YtbepaoliboooaaaGm
import Derived.Test.YtbepaoliboooaaaGn
namespace Go.Proofs.Ytbepaoliboooaaa
open Go.RowKit
attribute [local go_sem] alloc_drewN setCell_drewN call_bits call_frombits ord_lt ord_eq ord_gt ord_ne ord_le ord_ge eqB_self run_fadd run_fsub run_fmul run_fquo run_store_f64

def endsOf : Value → Nat × Nat
  | .agg #[.float .f64 a, .float .f64 b] => (a, b)
  | _ => (0, 0)
theorem endsOf_iv (a b : Nat) : endsOf (iv a b) = (a, b) := rfl
theorem mulI_two (a b c d : Nat) : mulI a b c d = iv (endsOf (mulI a b c d)).1 (endsOf (mulI a b c d)).2 := by
  unfold mulI; obtain ⟨x, y, h⟩ := aroundI_two (cop .mul a c) (cop .mul a d) (cop .mul b c) (cop .mul b d); rw [h, endsOf_iv]
theorem divI_two (a b c d : Nat) : divI a b c d = iv (endsOf (divI a b c d)).1 (endsOf (divI a b c d)).2 := by
  unfold divI; split
  · rfl
  · obtain ⟨x, y, h⟩ := aroundI_two (cop .quo a c) (cop .quo a d) (cop .quo b c) (cop .quo b d); rw [h, endsOf_iv]
theorem outI_two' (a b : Nat) : outI a b = iv (endsOf (outI a b)).1 (endsOf (outI a b)).2 := by
  obtain ⟨x, y, h⟩ := outI_two a b; rw [h, endsOf_iv]

def sq (p : Nat × Nat) : Nat × Nat := endsOf (mulI p.1 p.2 p.1 p.2)
def sqN : Nat → Nat × Nat → Nat × Nat
  | 0, p => p
  | k + 1, p => sq (sqN k p)
def part (x : Nat) : Nat × Nat := endsOf (divI x x 4652218415073722368 4652218415073722368)
def less1 (x : Nat) : Nat × Nat := endsOf (outI (cop .sub 4607182418800017408 (part x).2) (cop .sub 4607182418800017408 (part x).1))
def inv1 (x : Nat) : Nat × Nat := endsOf (divI 4607182418800017408 4607182418800017408 (less1 x).1 (less1 x).2)
def expB (x : Nat) : Nat := if isN x || leB 4647714815446351872 x then 9218868437227405312 else (sqN 10 (inv1 x)).2

/-- Two from-tos in memory, below which all is as it was. -/
def Held (w0 : World) (B C a b c d : Nat) (w : World) : Prop :=
  w.cell? ⟨B, 0, none⟩ = some (.float .f64 a) ∧ w.cell? ⟨B, 1, none⟩ = some (.float .f64 b) ∧ w.cell? ⟨C, 0, none⟩ = some (.float .f64 c) ∧ w.cell? ⟨C, 1, none⟩ = some (.float .f64 d) ∧ B < w.heap.size ∧ C < w.heap.size ∧ Below w0.heap.size w0 w
theorem Held.below {w0 : World} {B C a b c d : Nat} {w w' : World} (h : Held w0 B C a b c d w) (hb : Below w.heap.size w w') : Held w0 B C a b c d w' := by
  obtain ⟨h1, h2, h3, h4, h5, h6, h7⟩ := h
  obtain ⟨hc, _⟩ := bcell hb
  have hs := hb.size
  exact ⟨by rw [hc _ _ h5]; exact h1, by rw [hc _ _ h5]; exact h2, by rw [hc _ _ h6]; exact h3, by rw [hc _ _ h6]; exact h4, by omega, by omega, h7.trans (hb.mono h7.size)⟩
theorem Held.alloc {w0 : World} {B C a b c d : Nat} {w : World} (h : Held w0 B C a b c d w) (o : Obj) : Held w0 B C a b c d (w.alloc o) :=
  h.below ((Below.refl _ _).alloc (Nat.le_refl _) _)
theorem Held.drew {w0 : World} {B C a b c d : Nat} {w : World} (h : Held w0 B C a b c d w) : Held w0 B C a b c d w.drew :=
  h.below ((Below.refl _ _).drew)

theorem Held.set {w0 : World} {B C a b c d D o : Nat} {w : World} (h : Held w0 B C a b c d w) (v : Value) (h1 : D ≠ B) (h2 : D ≠ C) (h3 : w0.heap.size ≤ D) : Held w0 B C a b c d (w.setCell ⟨D, o, none⟩ v) := by
  obtain ⟨g1, g2, g3, g4, g5, g6, g7⟩ := h
  have hs : (w.setCell ⟨D, o, none⟩ v).heap.size = w.heap.size := by simp [World.setCell]
  have n1 : ∀ i, (⟨D, o, none⟩ : Addr) ≠ ⟨B, i, none⟩ := fun i h => h1 (by injection h)
  have n2 : ∀ i, (⟨D, o, none⟩ : Addr) ≠ ⟨C, i, none⟩ := fun i h => h2 (by injection h)
  have k1 : ∀ i, (w.setCell ⟨D, o, none⟩ v).cell? ⟨B, i, none⟩ = w.cell? ⟨B, i, none⟩ := fun i => by first | (exact World.cell?_setCell_other _ _ _ _ (n1 i)) | (exact World.cell?_setCell_other _ _ _ _ (n1 i).symm) | (simp [World.cell?_setCell_other, n1 i, h1, Ne.symm h1])
  have k2 : ∀ i, (w.setCell ⟨D, o, none⟩ v).cell? ⟨C, i, none⟩ = w.cell? ⟨C, i, none⟩ := fun i => by first | (exact World.cell?_setCell_other _ _ _ _ (n2 i)) | (exact World.cell?_setCell_other _ _ _ _ (n2 i).symm) | (simp [World.cell?_setCell_other, n2 i, h2, Ne.symm h2])
  exact ⟨by rw [k1]; exact g1, by rw [k1]; exact g2, by rw [k2]; exact g3, by rw [k2]; exact g4, by omega, by omega, g7.setCell h3 v⟩

set_option maxHeartbeats 2000000 in
theorem exp_any (x : Nat) (w : World) (h1 : isN x = false) (h2 : leB 4647714815446351872 x = false) : Calls Try.prog 22 #[.float .f64 x] w (Gives (.float .f64 (sqN 10 (inv1 x)).2) w) := by
  have hd := fun W => (div_any x x 4652218415073722368 4652218415073722368 W).mono fun _ _ h => h.eq (divI_two _ _ _ _)
  have hs := fun W => (sub_any 4607182418800017408 4607182418800017408 (part x).1 (part x).2 W).mono fun _ _ h => h.eq (outI_two' _ _)
  have hi := fun W => (div_any 4607182418800017408 4607182418800017408 (less1 x).1 (less1 x).2 W).mono fun _ _ h => h.eq (divI_two _ _ _ _)
  have hm := fun p W => (mul_any (sqN p (inv1 x)).1 (sqN p (inv1 x)).2 (sqN p (inv1 x)).1 (sqN p (inv1 x)).2 W).mono fun _ _ h => h.eq (mulI_two _ _ _ _)
  have e1 : endsOf (divI x x 4652218415073722368 4652218415073722368) = part x := rfl
  have e2 : endsOf (outI (cop .sub 4607182418800017408 (part x).2) (cop .sub 4607182418800017408 (part x).1)) = less1 x := rfl
  have e3 : endsOf (divI 4607182418800017408 4607182418800017408 (less1 x).1 (less1 x).2) = inv1 x := rfl
  have e4 : ∀ p, endsOf (mulI (sqN p (inv1 x)).1 (sqN p (inv1 x)).2 (sqN p (inv1 x)).1 (sqN p (inv1 x)).2) = sqN (p + 1) (inv1 x) := fun _ => rfl
  rw [e1] at hd
  rw [e2] at hs
  rw [e3] at hi
  simp only [e4] at hm
  have e5 : sqN 0 (inv1 x) = inv1 x := rfl
  rw [← e5] at hi
  generalize part x = P at *
  generalize less1 x = Q at *
  generalize inv1 x = Y at *
  obtain ⟨P1, P2⟩ := P
  obtain ⟨Q1, Q2⟩ := Q
  have HD := Lib.hid hd
  have HS := Lib.hid hs
  have HI := Lib.hid hi
  have HM := Lib.hid hm
  clear hd hs hi hm e1 e2 e3 e4 e5
  generalize hR : sqN 0 Y = R at *
  obtain ⟨R1, R2⟩ := R
  have HR := Lib.hid hR
  clear hR
  go_enter Try.func22, Try.ntmps22
  go_wp2_with fail
  refine (HD.out _).mono ?_
  rintro e w1 ⟨rfl, hb1⟩
  obtain ⟨hc, hf⟩ := bcell hb1
  have hz : w.heap.size + 1 ≤ w1.heap.size := by have := hb1.size; simp at this; omega
  have c0 : w1.cell? ⟨w.heap.size, 0, none⟩ = some (.float .f64 4607182418800017408) := by rw [hc _ _ (by simp)]; go_simp
  have c1 : w1.cell? ⟨w.heap.size, 1, none⟩ = some (.float .f64 4607182418800017408) := by rw [hc _ _ (by simp)]; go_simp
  have hw : Below w.heap.size w w1 := Below.trans ((Below.refl _ _).alloc (by simp) _) (hb1.mono (by simp <;> omega))
  clear hc hf hb1
  go_wp2_with fail
  have c0' : (w1.alloc (.cells #[.float .f64 P1, .float .f64 P2] 25)).cell? ⟨w.heap.size, 0, none⟩ = some (.float .f64 4607182418800017408) := by rw [World.cell?_alloc_lt _ _ _ (show w.heap.size < w1.heap.size by omega)]; exact c0
  have c1' : (w1.alloc (.cells #[.float .f64 P1, .float .f64 P2] 25)).cell? ⟨w.heap.size, 1, none⟩ = some (.float .f64 4607182418800017408) := by rw [World.cell?_alloc_lt _ _ _ (show w.heap.size < w1.heap.size by omega)]; exact c1
  have p0 : (w1.alloc (.cells #[.float .f64 P1, .float .f64 P2] 25)).cell? ⟨w1.heap.size, 0, none⟩ = some (.float .f64 P1) := by rw [World.cell?_alloc_new]; rfl
  have p1 : (w1.alloc (.cells #[.float .f64 P1, .float .f64 P2] 25)).cell? ⟨w1.heap.size, 1, none⟩ = some (.float .f64 P2) := by rw [World.cell?_alloc_new]; rfl
  have hw4 : Below w.heap.size w (w1.alloc (.cells #[.float .f64 P1, .float .f64 P2] 25)) := hw.alloc (by omega) _
  have z4 : w1.heap.size < (w1.alloc (.cells #[.float .f64 P1, .float .f64 P2] 25)).heap.size := by simp
  generalize w1.alloc (.cells #[.float .f64 P1, .float .f64 P2] 25) = W4 at *
  have z3 : w.heap.size < W4.heap.size := by omega
  clear c0 c1 hw hz
  generalize w1.heap.size = B4 at *
  have hHS : ∀ W, Held w w.heap.size B4 4607182418800017408 4607182418800017408 P1 P2 W → Calls Try.prog 33 #[iv 4607182418800017408 4607182418800017408, iv P1 P2] W fun e w' => e = .returned (iv Q1 Q2) ∧ W.heap.size ≤ w'.heap.size ∧ (∀ n, n < W.heap.size → n < w'.heap.size) ∧ (∀ b o, b < W.heap.size → w'.cell? ⟨b, o, none⟩ = W.cell? ⟨b, o, none⟩) ∧ (∀ b o, b < W.heap.size → w'.frozen? ⟨b, o, none⟩ = W.frozen? ⟨b, o, none⟩) ∧ Held w w.heap.size B4 4607182418800017408 4607182418800017408 P1 P2 w' :=
    fun W h => (HS.out W).mono fun _ _ g => ⟨g.1, g.2.size, fun n hn => Nat.lt_of_lt_of_le hn g.2.size, (bcell g.2).1, (bcell g.2).2, h.below g.2⟩
  have hHI : ∀ W, Held w w.heap.size B4 4607182418800017408 4607182418800017408 P1 P2 W → Calls Try.prog 37 #[iv 4607182418800017408 4607182418800017408, iv Q1 Q2] W fun e w' => e = .returned (iv R1 R2) ∧ W.heap.size ≤ w'.heap.size ∧ (∀ n, n < W.heap.size → n < w'.heap.size) ∧ (∀ b o, b < W.heap.size → w'.cell? ⟨b, o, none⟩ = W.cell? ⟨b, o, none⟩) ∧ (∀ b o, b < W.heap.size → w'.frozen? ⟨b, o, none⟩ = W.frozen? ⟨b, o, none⟩) ∧ Held w w.heap.size B4 4607182418800017408 4607182418800017408 P1 P2 w' :=
    fun W h => (HI.out W).mono fun _ _ g => ⟨g.1, g.2.size, fun n hn => Nat.lt_of_lt_of_le hn g.2.size, (bcell g.2).1, (bcell g.2).2, h.below g.2⟩
  have HS' := Lib.hid hHS
  have HI' := Lib.hid hHI
  clear hHS hHI HS HI HD
  have hS0 : Held w w.heap.size B4 4607182418800017408 4607182418800017408 P1 P2 W4 := ⟨c0', c1', p0, p1, z3, z4, hw4⟩
  go_region_held3 (fun w' => w'.cell? ⟨w.heap.size, 0, none⟩ = some (.float .f64 4607182418800017408) ∧ w'.cell? ⟨w.heap.size, 1, none⟩ = some (.float .f64 4607182418800017408) ∧ w'.cell? ⟨B4, 0, none⟩ = some (.float .f64 P1) ∧ w'.cell? ⟨B4, 1, none⟩ = some (.float .f64 P2) ∧ w.heap.size < w'.heap.size ∧ B4 < w'.heap.size ∧ Below w.heap.size w w')
    (first | assumption | (show Held w w.heap.size B4 4607182418800017408 4607182418800017408 P1 P2 _; first | assumption | exact Held.alloc (by assumption) _ | exact Held.drew (by assumption) | exact Held.set (Held.set (by assumption) _ (by omega) (by omega) (by omega)) _ (by omega) (by omega) (by omega)))
    (first | (go_at_call 33; refine (HS'.out _ (by unfold Held; assumption)).mono ?_; rintro e w5 ⟨rfl, hz5, hy5, hc5, hf5, hs5⟩; unfold Held at hs5) | (go_at_call 37; refine (HI'.out _ (by unfold Held; assumption)).mono ?_; rintro e w6 ⟨rfl, hz6, hy6, hc6, hf6, hs6⟩; unfold Held at hs6))
  rename_i hh
  have q0 : (w6.alloc (.cells #[.float .f64 R1, .float .f64 R2] 25)).cell? ⟨w6.heap.size, 0, none⟩ = some (.float .f64 R1) := by rw [World.cell?_alloc_new]; rfl
  have q1 : (w6.alloc (.cells #[.float .f64 R1, .float .f64 R2] 25)).cell? ⟨w6.heap.size, 1, none⟩ = some (.float .f64 R2) := by rw [World.cell?_alloc_new]; rfl
  have q7 : (w6.alloc (.cells #[.float .f64 R1, .float .f64 R2] 25)).frozen? ⟨w6.heap.size, 0, none⟩ = false := by simp [go_sem]
  have q8 : (w6.alloc (.cells #[.float .f64 R1, .float .f64 R2] 25)).frozen? ⟨w6.heap.size, 1, none⟩ = false := by simp [go_sem]
  have q2 : w6.heap.size < (w6.alloc (.cells #[.float .f64 R1, .float .f64 R2] 25)).heap.size := by simp
  have q3 : w.heap.size ≤ w6.heap.size := by have := hs6.2.2.2.2.2.2.size; omega
  generalize w6.alloc (.cells #[.float .f64 R1, .float .f64 R2] 25) = W5 at *
  generalize w6.heap.size = B5 at *
  have q4 := hh.2.2.2.2.2.2
  clear hh HS' HI' hS0 hz5 hy5 hc5 hf5 hs5 hz6 hy6 hc6 hf6 hs6
  rotate_left
  rename_i hh
  have q6 : w5.heap.size < w6.heap.size := hy6 _ (by simp)
  have q0 : ((w6.setCell ⟨w5.heap.size, 0, none⟩ (.float .f64 R1)).setCell ⟨w5.heap.size, 1, none⟩ (.float .f64 R2)).cell? ⟨w5.heap.size, 0, none⟩ = some (.float .f64 R1) := by simp [go_sem, hc6 _ _ (show w5.heap.size < _ by simp)]
  have q1 : ((w6.setCell ⟨w5.heap.size, 0, none⟩ (.float .f64 R1)).setCell ⟨w5.heap.size, 1, none⟩ (.float .f64 R2)).cell? ⟨w5.heap.size, 1, none⟩ = some (.float .f64 R2) := by simp [go_sem, hc6 _ _ (show w5.heap.size < _ by simp)]
  have q7 : ((w6.setCell ⟨w5.heap.size, 0, none⟩ (.float .f64 R1)).setCell ⟨w5.heap.size, 1, none⟩ (.float .f64 R2)).frozen? ⟨w5.heap.size, 0, none⟩ = false := by simp [go_sem, hf6 _ _ (show w5.heap.size < _ by simp)]
  have q8 : ((w6.setCell ⟨w5.heap.size, 0, none⟩ (.float .f64 R1)).setCell ⟨w5.heap.size, 1, none⟩ (.float .f64 R2)).frozen? ⟨w5.heap.size, 1, none⟩ = false := by simp [go_sem, hf6 _ _ (show w5.heap.size < _ by simp)]
  have q2 : w5.heap.size < ((w6.setCell ⟨w5.heap.size, 0, none⟩ (.float .f64 R1)).setCell ⟨w5.heap.size, 1, none⟩ (.float .f64 R2)).heap.size := by simp [World.setCell]; omega
  have q3 : w.heap.size ≤ w5.heap.size := by have := hs5.2.2.2.2.2.2.size; omega
  generalize (w6.setCell ⟨w5.heap.size, 0, none⟩ (.float .f64 R1)).setCell ⟨w5.heap.size, 1, none⟩ (.float .f64 R2) = W5 at *
  generalize w5.heap.size = B5 at *
  have q4 := hh.2.2.2.2.2.2
  clear hh HS' HI' hS0 hz5 hy5 hc5 hf5 hs5 hz6 hy6 hc6 hf6 hs6
  rotate_left
  rename_i hh
  have q6 : W4.heap.size < w6.heap.size := hy6 _ (hy5 _ (by simp))
  have q0 : ((w6.setCell ⟨W4.heap.size, 0, none⟩ (.float .f64 R1)).setCell ⟨W4.heap.size, 1, none⟩ (.float .f64 R2)).cell? ⟨W4.heap.size, 0, none⟩ = some (.float .f64 R1) := by simp [go_sem, hc6 _ _ (hy5 W4.heap.size (by simp)), hc5 _ _ (show W4.heap.size < _ by simp)]
  have q1 : ((w6.setCell ⟨W4.heap.size, 0, none⟩ (.float .f64 R1)).setCell ⟨W4.heap.size, 1, none⟩ (.float .f64 R2)).cell? ⟨W4.heap.size, 1, none⟩ = some (.float .f64 R2) := by simp [go_sem, hc6 _ _ (hy5 W4.heap.size (by simp)), hc5 _ _ (show W4.heap.size < _ by simp)]
  have q7 : ((w6.setCell ⟨W4.heap.size, 0, none⟩ (.float .f64 R1)).setCell ⟨W4.heap.size, 1, none⟩ (.float .f64 R2)).frozen? ⟨W4.heap.size, 0, none⟩ = false := by simp [go_sem, hf6 _ _ (hy5 W4.heap.size (by simp)), hf5 _ _ (show W4.heap.size < _ by simp)]
  have q8 : ((w6.setCell ⟨W4.heap.size, 0, none⟩ (.float .f64 R1)).setCell ⟨W4.heap.size, 1, none⟩ (.float .f64 R2)).frozen? ⟨W4.heap.size, 1, none⟩ = false := by simp [go_sem, hf6 _ _ (hy5 W4.heap.size (by simp)), hf5 _ _ (show W4.heap.size < _ by simp)]
  have q2 : W4.heap.size < ((w6.setCell ⟨W4.heap.size, 0, none⟩ (.float .f64 R1)).setCell ⟨W4.heap.size, 1, none⟩ (.float .f64 R2)).heap.size := by simp [World.setCell]; omega
  have q3 : w.heap.size ≤ W4.heap.size := by omega
  generalize (w6.setCell ⟨W4.heap.size, 0, none⟩ (.float .f64 R1)).setCell ⟨W4.heap.size, 1, none⟩ (.float .f64 R2) = W5 at *
  generalize W4.heap.size = B5 at *
  have q4 := hh.2.2.2.2.2.2
  clear hh HS' HI' hS0 hz5 hy5 hc5 hf5 hs5 hz6 hy6 hc6 hf6 hs6
  rotate_left
  all_goals go_wp2_with fail
  all_goals (
    go_loopw [25] (fun i wr => ∃ (j : Nat), j ≤ 10 ∧ i = .int .i64 j ∧ wr.cell? ⟨B5, 0, none⟩ = some (.float .f64 (sqN j Y).1) ∧ wr.cell? ⟨B5, 1, none⟩ = some (.float .f64 (sqN j Y).2) ∧ B5 < wr.heap.size ∧ wr.frozen? ⟨B5, 0, none⟩ = false ∧ wr.frozen? ⟨B5, 1, none⟩ = false ∧ Below w.heap.size w wr) (fun i _ => (10 - (match i with | .int _ n => n | _ => 0)).toNat)
    case atStart => exact ⟨0, by omega, rfl, by rw [HR.out]; exact q0, by rw [HR.out]; exact q1, q2, q7, q8, q4⟩
    case round =>
      obtain ⟨j, hj, rfl, g0, g1, g2, g3, g5, g4⟩ := hrel
      by_cases hlt : j < 10
      · have hm := HM.out j
        have HMj := Lib.hid hm
        clear HM hm HR q0 q1 q2
        go_wp2_with fail
        refine (HMj.out _).mono ?_
        rintro e w7 ⟨rfl, hb7⟩
        obtain ⟨hc7, hf7⟩ := bcell hb7
        have z7 := hb7.size
        have hw7 : Below w.heap.size w w7 := g4.trans (hb7.mono (by omega))
        have m0 : (w7.frozen? ⟨B5, 0, none⟩) = false := by rw [hf7 _ _ g2]; exact g3
        have m5 : (w7.frozen? ⟨B5, 1, none⟩) = false := by rw [hf7 _ _ g2]; exact g5
        have m1 : w7.cell? ⟨B5, 0, none⟩ = some (.float .f64 (sqN j Y).1) := by rw [hc7 _ _ g2]; exact g0
        have m2 : w7.cell? ⟨B5, 1, none⟩ = some (.float .f64 (sqN j Y).2) := by rw [hc7 _ _ g2]; exact g1
        have m3 : B5 < w7.heap.size := by omega
        clear hc7 hf7 z7 HMj g0 g1 g2 g3 g5 g4 hb7
        go_wp2_with fail
        go_roundw
        case rel => exact ⟨j + 1, by omega, by go_num, by simp [go_sem, m1], by simp [go_sem, m2], by simp [World.setCell]; exact m3, by simp [go_sem, m0], by simp [go_sem, m5], (hw7.setCell q3 _).setCell q3 _⟩
        case measure => simp; omega
      · have : j = 10 := by omega
        subst this
        go_wp2_with fail
        go_ret
        exact ⟨rfl, g4⟩)

theorem exp_top (x : Nat) (w : World) (h : (isN x || leB 4647714815446351872 x) = true) : Calls Try.prog 22 #[.float .f64 x] w (Gives (.float .f64 9218868437227405312) w) := by
  go_enter Try.func22, Try.ntmps22
  by_cases h1 : isN x = true
  · go_wp2_with fail
    refine (inf_pos _).mono ?_
    rintro e w' ⟨rfl, rfl⟩
    go_wp2_with fail
    go_ret
    exact ⟨rfl, Below.refl _ _⟩
  · have h1' : isN x = false := by simpa using h1
    have h2 : leB 4647714815446351872 x = true := by simpa [h1'] using h
    clear h h1
    go_wp2_with fail
    refine (inf_pos _).mono ?_
    rintro e w' ⟨rfl, rfl⟩
    go_wp2_with fail
    go_ret
    exact ⟨rfl, Below.refl _ _⟩

theorem exp_all (x : Nat) (w : World) : Calls Try.prog 22 #[.float .f64 x] w (Gives (.float .f64 (expB x)) w) := by
  unfold expB
  by_cases h : (isN x || leB 4647714815446351872 x) = true
  · rw [if_pos h]; exact exp_top x w h
  · rw [if_neg h]
    simp only [Bool.or_eq_true, not_or, Bool.not_eq_true] at h
    exact exp_any x w h.1 h.2

end Go.Proofs.Ytbepaoliboooaaa

namespace Go.Proofs.Ytbepaoliboooaaa
open Go.RowKit
attribute [local go_sem] alloc_drewN setCell_drewN call_bits call_frombits ord_lt ord_eq ord_gt ord_ne ord_le ord_ge eqB_self run_fadd run_fsub run_fmul run_fquo run_store_f64

/-- A from-to in memory, made behind w0, and what was ahead as it was. -/
def At (w0 : World) (B a b : Nat) (w : World) : Prop :=
  w.cell? ⟨B, 0, none⟩ = some (.float .f64 a) ∧ w.cell? ⟨B, 1, none⟩ = some (.float .f64 b) ∧ B < w.heap.size ∧ w0.heap.size ≤ B ∧ Below w0.heap.size w0 w
theorem At.below {w0 : World} {B a b : Nat} {w w' : World} (h : At w0 B a b w) (hb : Below w.heap.size w w') : At w0 B a b w' := by
  obtain ⟨h1, h2, h3, h4, h5⟩ := h
  obtain ⟨hc, _⟩ := bcell hb
  have hs := hb.size
  exact ⟨by rw [hc _ _ h3]; exact h1, by rw [hc _ _ h3]; exact h2, by omega, h4, h5.trans (hb.mono h5.size)⟩
theorem At.new {w0 w : World} (h : Below w0.heap.size w0 w) (a b : Nat) (t : TypeId) : At w0 w.heap.size a b (w.alloc (.cells #[.float .f64 a, .float .f64 b] t)) :=
  ⟨by rw [World.cell?_alloc_new]; rfl, by rw [World.cell?_alloc_new]; rfl, by simp, h.size, h.alloc h.size _⟩
theorem At.alloc {w0 : World} {B a b : Nat} {w : World} (h : At w0 B a b w) (o : Obj) : At w0 B a b (w.alloc o) :=
  h.below ((Below.refl _ _).alloc (Nat.le_refl _) _)
theorem At.drew {w0 : World} {B a b : Nat} {w : World} (h : At w0 B a b w) : At w0 B a b w.drew := h.below ((Below.refl _ _).drew)

theorem add_known (w : World) : Calls Try.prog 31 #[iv 4607182418800017408 4607182418800017408, iv 4611686018427387904 4611686018427387904] w (Gives (iv 4613937818241073151 4613937818241073153) w) :=
  (add_any _ _ _ _ w).mono fun _ _ h => h.eq (by kernel_rfl)
theorem mag_known (w : World) : Calls Try.prog 41 #[iv 13839561654909534208 4607182418800017408] w (Gives (.float .f64 4616189618054758400) w) :=
  (mag_any _ _ w (by decide) (by decide)).mono fun _ _ h => h.eq (by kernel_rfl)
theorem right_known (w : World) : Calls Try.prog 25 #[iv 4613937818241073151 4613937818241073153] w (Gives (.bool true) w) :=
  (right_any _ _ w).mono fun _ _ h => h.eq (by kernel_rfl)
theorem in_known (w : World) : Calls Try.prog 27 #[.float .f64 4613937818241073152, iv 4613937818241073151 4613937818241073153] w (Gives (.bool true) w) :=
  (in_any _ _ _ w).mono fun _ _ h => h.eq (by kernel_rfl)
theorem exp_known (w : World) : Calls Try.prog 22 #[.float .f64 0] w (Gives (.float .f64 (expB 0)) w) := exp_all 0 w
theorem exp_zero : leB 4607182418800017408 (expB 0) = true := by decide +kernel

theorem known2_any (w : World) : Calls Try.prog 16 #[] w (Gives (.bool true) w) := by
  have l1 : ltB 4613937818241073151 4613937818241073152 = true := by decide
  have l2 : ltB 4613937818241073152 4613937818241073153 = true := by decide
  have l3 : ltB 4613937818241073153 4613940070040886837 = true := by decide
  have l4 : eqB 4616189618054758400 4616189618054758400 = true := by decide
  have l5 := exp_zero
  go_enter Try.func16, Try.ntmps16
  go_wp2_with fail
  refine (add_known _).mono ?_
  rintro e w1 ⟨rfl, hb1⟩
  go_wp2_with fail
  refine (right_known _).mono ?_
  rintro e w2 ⟨rfl, hb2⟩
  have A2 := (At.new hb1 4613937818241073151 4613937818241073153 25).below hb2
  generalize w1.heap.size = B at *
  clear hb2 hb1
  obtain ⟨c0, c1, hz, -, -⟩ := id A2
  go_wp2_with fail
  refine (in_known _).mono ?_
  rintro e w3 ⟨rfl, hb3⟩
  have A3 := A2.below hb3
  clear A2 hb3 c0 c1 hz
  obtain ⟨c0, c1, hz, -, hB3⟩ := id A3
  go_wp2_with fail
  refine (mag_known _).mono ?_
  rintro e w4 ⟨rfl, hb4⟩
  have hB4 := hB3.trans (hb4.mono hB3.size)
  clear hb4
  go_wp2_with fail
  refine (exp_known _).mono ?_
  rintro e w5 ⟨rfl, hb5⟩
  have hB5 := hB4.trans (hb5.mono hB4.size)
  clear hb5
  go_wp2_with fail
  go_ret
  exact ⟨rfl, hB5⟩

theorem within2_mod (a n : Int) (w : World) (h1 : 1 ≤ n) (h2 : n ≤ 9223372036854775807) :
    Calls Try.prog 43 #[.int .i64 a, .int .i64 n] w fun e w' => e = .returned (.int .i64 (a % n)) ∧ w = w' := by
  have h2' := Int.emod_nonneg a (show n ≠ 0 by omega)
  have h3 := Int.emod_lt_of_pos a (show 0 < n by omega)
  have h := emod_of_tmod (a := a) h1
  have H := Lib.hid h
  clear h
  go_enter Try.func43, Try.ntmps43
  go_wp2
  · go_ret
    refine ⟨?_, rfl⟩
    have := H.out.1 (by assumption)
    exact ret_int (by rw [this]; unfold wrap64; omega)
  · go_ret
    refine ⟨?_, rfl⟩
    exact ret_int (H.out.2 (by assumption))
theorem within2_any (a n : Int) (w : World) (h1 : 1 ≤ n) (h2 : n ≤ 9223372036854775807) :
    Calls Try.prog 43 #[.int .i64 a, .int .i64 n] w fun e w' => ∃ u : Int, e = .returned (.int .i64 u) ∧ 0 ≤ u ∧ u < n ∧ w = w' :=
  (within2_mod a n w h1 h2).mono fun _ _ ⟨he, hw⟩ => ⟨_, he, Int.emod_nonneg a (by omega), Int.emod_lt_of_pos a (by omega), hw⟩

/-- What a from-to of numbers is: both ends are numbers, in order, of a moderate size, in steps of one power of two. -/
def Mid (a b : Nat) : Prop := ∃ m n : Int, Is a m (-80) ∧ Is b n (-80) ∧ m ≤ n ∧ m.natAbs < 2 ^ 134 ∧ n.natAbs < 2 ^ 134

theorem Is.le_of {a b : Nat} {m n k : Int} (ha : Is a m k) (hb : Is b n k) : m ≤ n ↔ key a ≤ key b := by
  rw [← V_le, ha.2.2.2, hb.2.2.2]
  have hp : (0 : Int) < (2 ^ (k + 1074).toNat : Nat) := Int.natCast_pos.2 (Nat.two_pow_pos _)
  exact ⟨fun h => Int.mul_le_mul_of_nonneg_right h (Int.le_of_lt hp), fun h => Int.le_of_mul_le_mul_right h hp⟩
theorem Is.add_ge {a b r : Nat} {m n p k : Int} (ha : Is a m k) (hb : Is b n k) (hn : 0 ≤ n) (h : Ieee.double.add a b = some r) (hr : Is r p k) : m ≤ p := by
  rw [ha.le_of hr, (add_key ha.fin hb.fin h).1, ← RK_V (Nat.le_of_lt ha.fin)]
  refine RK_mono _ ?_
  have hp : (0 : Int) ≤ (2 ^ (k + 1074).toNat : Nat) := Int.natCast_nonneg _
  have := Int.mul_nonneg hn hp
  rw [hb.2.2.2]; omega
theorem Is.sub_le {a b r : Nat} {m n p k : Int} (ha : Is a m k) (hb : Is b n k) (hn : 0 ≤ n) (h : Ieee.double.sub a b = some r) (hr : Is r p k) : p ≤ m := by
  rw [hr.le_of ha, (sub_key ha.fin hb.fin h).1, ← RK_V (Nat.le_of_lt ha.fin)]
  refine RK_mono _ ?_
  have hp : (0 : Int) ≤ (2 ^ (k + 1074).toNat : Nat) := Int.natCast_nonneg _
  have := Int.mul_nonneg hn hp
  rw [hb.2.2.2]; omega
theorem rn_size {m : Int} (h : m.natAbs < 2 ^ 139) : (rn m).natAbs ≤ m.natAbs + 2 ^ 86 := by
  have := rn_err 139 h
  have e : ((2 ^ (139 - 53) : Nat) : Int) = 77371252455336267181195264 := by decide
  rw [e] at this
  have e2 : (2 : Nat) ^ 86 = 77371252455336267181195264 := by decide
  omega
theorem add_up {a b : Nat} {m n : Int} (ha : Is a m (-80)) (hb : Is b n (-80)) (hn : 0 ≤ n) (h1 : m.natAbs < 2 ^ 138) (h2 : n.natAbs < 2 ^ 138) :
    ∃ r, (∀ w, fval .add w a b = r) ∧ ndraw .add a b = 0 ∧ ∃ p, Is r p (-80) ∧ m ≤ p ∧ p.natAbs ≤ m.natAbs + n.natAbs + 2 ^ 86 := by
  obtain ⟨r, e, h⟩ := is_add ha hb (fits_of 139 960 (by omega) (by decide) (by decide))
  refine ⟨r, fval_some (op := .add) e, ndraw_some (op := .add) e, _, h, ha.add_ge hb hn e h, ?_⟩
  have := rn_size (m := m + n) (by omega)
  omega
theorem sub_down {a b : Nat} {m n : Int} (ha : Is a m (-80)) (hb : Is b n (-80)) (hn : 0 ≤ n) (h1 : m.natAbs < 2 ^ 138) (h2 : n.natAbs < 2 ^ 138) :
    ∃ r, (∀ w, fval .sub w a b = r) ∧ ndraw .sub a b = 0 ∧ ∃ p, Is r p (-80) ∧ p ≤ m ∧ p.natAbs ≤ m.natAbs + n.natAbs + 2 ^ 86 := by
  obtain ⟨r, e, h⟩ := is_sub ha hb (fits_of 139 960 (by omega) (by decide) (by decide))
  refine ⟨r, fval_some (op := .sub) e, ndraw_some (op := .sub) e, _, h, ha.sub_le hb hn e h, ?_⟩
  have := rn_size (m := m - n) (by omega)
  omega
theorem num_mid (m k : Int) (w : World) :
    Calls Try.prog 24 #[.int .i64 m, .int .i64 k] w fun e w' => ∃ x n, e = .returned (.float .f64 x) ∧ w = w' ∧ Is x n (-80) ∧ n.natAbs < 2 ^ 132 := by
  refine (num_any m k w).mono fun e w' ⟨he, hw⟩ => ?_
  have h1 := Int.emod_nonneg m (show (9007199254740992 : Int) ≠ 0 by decide)
  have h2 := Int.emod_lt_of_pos m (show (0 : Int) < 9007199254740992 by decide)
  have h3 := Int.emod_nonneg k (show (80 : Int) ≠ 0 by decide)
  have h4 := Int.emod_lt_of_pos k (show (0 : Int) < 80 by decide)
  have hi := is_scale (is_ofInt (n := m % 9007199254740992 - 4503599627370496) (by omega) (by omega)) (k % 80 - 80) (by omega) (fits_of 60 960 (by omega) (by omega) (by decide))
  have hd := hi.down (k % 80).toNat (by omega)
  have e : 0 + (k % 80 - 80) - ((k % 80).toNat : Int) = -80 := by omega
  rw [e] at hd
  refine ⟨_, _, he, hw, hd, ?_⟩
  rw [natAbs_pow]
  have : 2 ^ (k % 80).toNat ≤ 2 ^ 79 := Nat.pow_le_pow_right (by decide) (by omega)
  have h5 : (m % 9007199254740992 - 4503599627370496).natAbs ≤ 2 ^ 52 := by omega
  have := Nat.mul_le_mul h5 this
  refine Nat.lt_of_le_of_lt this (by decide)

theorem int_at {n : Int} (h1 : -9007199254740992 ≤ n) (h2 : n ≤ 9007199254740992) : Is (floatOfInt .f64 n) (n * 1208925819614629174706176) (-80) := (is_ofInt h1 h2).down 80 (by decide)
theorem zero_at : Is 0 0 (-80) := int_at (n := 0) (by decide) (by decide)
theorem one_at : Is 4607182418800017408 1208925819614629174706176 (-80) := by
  have h := int_at (n := 1) (by decide) (by decide)
  have e : floatOfInt .f64 1 = 4607182418800017408 := by decide +kernel
  rw [e] at h; exact h
/-- Some from-to of numbers, and nothing that was ahead is changed. -/
def Made (w : World) (e : Ending) (w' : World) : Prop := ∃ a b, Mid a b ∧ e = .returned (iv a b) ∧ Below w.heap.size w w'

set_option maxHeartbeats 1000000 in
theorem make2_any (m k v : Int) (w : World) : Calls Try.prog 17 #[.int .i64 m, .int .i64 k, .int .i64 v] w (Made w) := by
  go_enter Try.func17, Try.ntmps17
  go_wp2_with fail
  refine (num_mid m k _).mono ?_
  rintro e w' ⟨x, p, rfl, rfl, hx, hp⟩
  have hax := is_abs hx
  have AX := abs_quiet x
  have HX := Lib.hid hx
  have HP := Lib.hid hp
  clear hx hp
  go_wp2_with fail
  refine (within2_any _ _ _ (by decide) (by decide)).mono ?_
  rintro e w' ⟨u, rfl, hu1, hu2, rfl⟩
  have hu : u = 0 ∨ u = 1 ∨ u = 2 ∨ u = 3 ∨ u = 4 := by omega
  clear hu1 hu2
  rcases hu with rfl | rfl | rfl | rfl | rfl
  · go_wp2_with fail
    have := HP.out
    exact bodyPost_ret (v := iv x x) (by simp [results, Try.results17, go_sem]) rfl ⟨x, x, ⟨p, p, HX.out, HX.out, by omega, by omega, by omega⟩, rfl, (Below.refl _ _).alloc (Nat.le_refl _) _⟩
  · go_wp2_with fail
    refine (num_mid v k _).mono ?_
    rintro e w' ⟨y, q, rfl, rfl, hy, hq⟩
    have hay := is_abs hy
    have HY := Lib.hid hy
    have HQ := Lib.hid hq
    clear hy hq
    go_wp2_with fail
    refine (abs_quiet y _ HY.out.lt).mono ?_
    rintro e w' ⟨rfl, rfl⟩
    have h1 := HP.out
    have h2 := HQ.out
    obtain ⟨r, f1, f2, s, hs, hs1, hs2⟩ := add_up HX.out hay (by omega) (by omega) (by omega)
    have HS := Lib.hid hs
    have HS1 := Lib.hid hs1
    have HS2 := Lib.hid hs2
    clear hay hax hs hs1 hs2 h1 h2
    go_wp2_with fail
    have h1 := HP.out
    have h2 := HQ.out
    have h3 := HS2.out
    exact bodyPost_ret (v := iv x r) (by simp [results, Try.results17, go_sem]) rfl ⟨x, r, ⟨p, s, HX.out, HS.out, HS1.out, by omega, by omega⟩, rfl, (Below.refl _ _).alloc (Nat.le_refl _) _⟩
  · go_wp2_with fail
    refine (abs_quiet x _ HX.out.lt).mono ?_
    rintro e w' ⟨rfl, rfl⟩
    have h1 := HP.out
    obtain ⟨r, f1, f2, s, hs, hs1, hs2⟩ := sub_down zero_at hax (by omega) (by omega) (by omega)
    have HS := Lib.hid hs
    have HS1 := Lib.hid hs1
    have HS2 := Lib.hid hs2
    clear hax hs hs1 hs2 h1
    go_wp2_with fail
    refine (num_mid v m _).mono ?_
    rintro e w' ⟨y, q, rfl, rfl, hy, hq⟩
    have hay := is_abs hy
    have HY := Lib.hid hy
    have HQ := Lib.hid hq
    clear hy hq
    go_wp2_with fail
    refine (abs_quiet y _ HY.out.lt).mono ?_
    rintro e w' ⟨rfl, rfl⟩
    go_wp2_with fail
    have h1 := HP.out
    have h2 := HQ.out
    have h3 := HS2.out
    have h4 := HS1.out
    exact bodyPost_ret (v := iv r (y % 9223372036854775808)) (by simp [results, Try.results17, go_sem]) rfl ⟨_, _, ⟨s, q.natAbs, HS.out, hay, by omega, by omega, by omega⟩, rfl, (Below.refl _ _).alloc (Nat.le_refl _) _⟩
  · have b1 := Int.emod_nonneg m (show (9 : Int) ≠ 0 by decide)
    have b2 := Int.emod_lt_of_pos m (show (0 : Int) < 9 by decide)
    have b3 := Int.emod_nonneg k (show (5 : Int) ≠ 0 by decide)
    have b4 := Int.emod_lt_of_pos k (show (0 : Int) < 5 by decide)
    have W9 := fun W => within2_mod m 9 W (by decide) (by decide)
    have W5 := fun W => within2_mod k 5 W (by decide) (by decide)
    generalize m % 9 = u at *
    generalize k % 5 = u3 at *
    have H9 := Lib.hid W9
    have H5 := Lib.hid W5
    clear W9 W5
    go_wp2_with fail
    refine (H9.out _).mono ?_
    rintro e w' ⟨rfl, rfl⟩
    go_wp2_with fail
    refine (H9.out _).mono ?_
    rintro e w' ⟨rfl, rfl⟩
    go_wp2_with fail
    refine (H5.out _).mono ?_
    rintro e w' ⟨rfl, rfl⟩
    go_wp2_with fail
    exact bodyPost_ret (v := iv (floatOfInt .f64 (u - 4)) (floatOfInt .f64 (u - 4 + u3))) (by simp [results, Try.results17, go_sem]) rfl ⟨_, _, ⟨_, _, int_at (n := u - 4) (by omega) (by omega), int_at (n := u - 4 + u3) (by omega) (by omega), by omega, by omega, by omega⟩, rfl, (Below.refl _ _).alloc (Nat.le_refl _) _⟩
  · have h1 := HP.out
    obtain ⟨r, f1, f2, s, hs, hs1, hs2⟩ := add_up HX.out one_at (by omega) (by omega) (by omega)
    have HS := Lib.hid hs
    have HS1 := Lib.hid hs1
    have HS2 := Lib.hid hs2
    clear hax hs hs1 hs2 h1
    go_wp2_with fail
    have h1 := HP.out
    have h3 := HS2.out
    exact bodyPost_ret (v := iv x r) (by simp [results, Try.results17, go_sem]) rfl ⟨x, r, ⟨p, s, HX.out, HS.out, HS1.out, by omega, by omega⟩, rfl, (Below.refl _ _).alloc (Nat.le_refl _) _⟩

end Go.Proofs.Ytbepaoliboooaaa

namespace Go.Proofs.Ytbepaoliboooaaa
open Ieee (double)

theorem Mid.fin {a b : Nat} (h : Mid a b) : a % p63 < infR ∧ b % p63 < infR ∧ a < 18446744073709551616 ∧ b < 18446744073709551616 := by
  obtain ⟨m, n, h1, h2, -⟩ := h
  exact ⟨h1.fin, h2.fin, h1.lt, h2.lt⟩
theorem add_sym {x y : Nat} (hx : x % p63 < infR) (hy : y % p63 < infR) : cop .add x y = cop .add y x := by
  rw [cop_some (op := .add) (add_fin hx hy), cop_some (op := .add) (add_fin hy hx), Int.add_comm, Bool.and_comm]
theorem mul_sym {x y : Nat} (hx : x % p63 < infR) (hy : y % p63 < infR) : cop .mul x y = cop .mul y x := by
  rw [cop_some (op := .mul) (mul_fin hx hy), cop_some (op := .mul) (mul_fin hy hx), Nat.mul_comm, Bool.xor_comm]
theorem sub_val {x y : Nat} (hx : x % p63 < infR) (hy : y % p63 < infR) : isN (cop .sub x y) = false ∧ key (cop .sub x y) = RK (V x - V y) (-1074) ∧ cop .sub x y < 18446744073709551616 := by
  have e := sub_fin hx hy
  have k := sub_key hx hy e
  have c : cop .sub x y = _ := cop_some (op := .sub) e
  rw [canon_num k.2.1] at c
  rw [c]; exact ⟨k.2.1, k.1, k.2.2⟩
theorem add_val {x y : Nat} (hx : x % p63 < infR) (hy : y % p63 < infR) : isN (cop .add x y) = false ∧ key (cop .add x y) = RK (V x + V y) (-1074) ∧ cop .add x y < 18446744073709551616 := by
  have e := add_fin hx hy
  have k := add_key hx hy e
  have c : cop .add x y = _ := cop_some (op := .add) e
  rw [canon_num k.2.1] at c
  rw [c]; exact ⟨k.2.1, k.1, k.2.2⟩
theorem mul_val {x y : Nat} (hx : x % p63 < infR) (hy : y % p63 < infR) : isN (cop .mul x y) = false ∧ key (cop .mul x y) = RK (V x * V y) (-2148) ∧ cop .mul x y < 18446744073709551616 := by
  have e := mul_fin hx hy
  have k := mul_key hx hy e
  have c : cop .mul x y = _ := cop_some (op := .mul) e
  rw [canon_num k.2.1] at c
  rw [c]; exact ⟨k.2.1, k.1, k.2.2⟩

theorem Mid.ends {a b : Nat} (h : Mid a b) : isN a = false ∧ isN b = false ∧ key a ≤ key b ∧ leB a b = true := by
  obtain ⟨m, n, h1, h2, h3, -, -⟩ := h
  refine ⟨h1.num, h2.num, (h1.le_of h2).1 h3, ?_⟩
  rw [is_le h1 h2]; simpa using h3
theorem leB_of {x y : Nat} (h1 : isN x = false) (h2 : isN y = false) : leB x y = decide (key x ≤ key y) := by unfold leB; rw [h1, h2]; rfl
theorem ltB_of {x y : Nat} (h1 : isN x = false) (h2 : isN y = false) : ltB x y = decide (key x < key y) := by unfold ltB; rw [h1, h2]; rfl
theorem eqB_of {x y : Nat} (h1 : isN x = false) (h2 : isN y = false) : eqB x y = decide (key x = key y) := by unfold eqB; rw [h1, h2]; rfl

/-- What is told has ends that are numbers. -/
theorem outI_num (p q : Nat) : ∃ x y, outI p q = iv x y ∧ isN x = false ∧ isN y = false := by
  unfold outI makeI
  cases h : leB (downB p) (upB q)
  · exact ⟨_, _, rfl, by decide, by decide⟩
  · simp [leB] at h
    exact ⟨_, _, rfl, h.1.1, h.1.2⟩
theorem aroundI_num (a b c d : Nat) : ∃ x y, aroundI a b c d = iv x y ∧ isN x = false ∧ isN y = false := by
  unfold aroundI
  split
  · exact ⟨_, _, rfl, by decide, by decide⟩
  · exact outI_num _ _

theorem addI_sym {a b c d : Nat} (h : Mid a b) (g : Mid c d) : outI (cop .add a c) (cop .add b d) = outI (cop .add c a) (cop .add d b) := by
  rw [add_sym h.fin.1 g.fin.1, add_sym h.fin.2.1 g.fin.2.1]

theorem downB_same {x y : Nat} (hx : x < 18446744073709551616) (hy : y < 18446744073709551616) (h1 : isN x = false) (h2 : isN y = false) (h : key x = key y) : downB x = downB y := by
  rcases of_key hx hy h with rfl | ⟨g1, g2⟩
  · rfl
  · have n1 : x ≠ p63 + infR := by rintro rfl; revert g1; decide
    have n2 : y ≠ p63 + infR := by rintro rfl; revert g2; decide
    unfold downB; rw [h1, h2, if_neg n1, if_neg n2, if_pos g1, if_pos g2]
theorem upB_same {x y : Nat} (hx : x < 18446744073709551616) (hy : y < 18446744073709551616) (h1 : isN x = false) (h2 : isN y = false) (h : key x = key y) : upB x = upB y := by
  rcases of_key hx hy h with rfl | ⟨g1, g2⟩
  · rfl
  · have n1 : x ≠ infR := by rintro rfl; revert g1; decide
    have n2 : y ≠ infR := by rintro rfl; revert g2; decide
    unfold upB; rw [h1, h2, if_neg n1, if_neg n2, if_pos g1, if_pos g2]

theorem pick_lo {x y : Nat} (h1 : isN x = false) (h2 : isN y = false) : isN (if ltB x y then x else y) = false ∧ key (if ltB x y then x else y) = min (key x) (key y) ∧ ((if ltB x y then x else y) = x ∨ (if ltB x y then x else y) = y) := by
  cases h : ltB x y <;> simp [ltB, h1, h2] at h <;> simp [h1, h2] <;> omega
theorem minL4 {a b c d : Nat} (h1 : isN a = false) (h2 : isN b = false) (h3 : isN c = false) (h4 : isN d = false) :
    isN (minL a [a, b, c, d]) = false ∧ key (minL a [a, b, c, d]) = min (min (key a) (key b)) (min (key c) (key d)) ∧ minL a [a, b, c, d] ∈ [a, b, c, d] := by
  simp only [minL]
  obtain ⟨p1, p2, p3⟩ := pick_lo h1 h1
  generalize (if ltB a a then a else a) = A at *
  obtain ⟨q1, q2, q3⟩ := pick_lo h2 p1
  generalize (if ltB b A then b else A) = B at *
  obtain ⟨r1, r2, r3⟩ := pick_lo h3 q1
  generalize (if ltB c B then c else B) = C at *
  obtain ⟨s1, s2, s3⟩ := pick_lo h4 r1
  generalize (if ltB d C then d else C) = D at *
  refine ⟨s1, by omega, ?_⟩
  rcases s3 with rfl | rfl <;> rcases r3 with rfl | rfl <;> rcases q3 with rfl | rfl <;> rcases p3 with rfl | rfl <;> simp
theorem pick_hi {x y : Nat} (h1 : isN x = false) (h2 : isN y = false) : isN (if ltB y x then x else y) = false ∧ key (if ltB y x then x else y) = max (key x) (key y) ∧ ((if ltB y x then x else y) = x ∨ (if ltB y x then x else y) = y) := by
  cases h : ltB y x <;> simp [ltB, h1, h2] at h <;> simp [h1, h2] <;> omega
theorem maxL4 {a b c d : Nat} (h1 : isN a = false) (h2 : isN b = false) (h3 : isN c = false) (h4 : isN d = false) :
    isN (maxL a [a, b, c, d]) = false ∧ key (maxL a [a, b, c, d]) = max (max (key a) (key b)) (max (key c) (key d)) ∧ maxL a [a, b, c, d] ∈ [a, b, c, d] := by
  simp only [maxL]
  obtain ⟨p1, p2, p3⟩ := pick_hi h1 h1
  generalize (if ltB a a then a else a) = A at *
  obtain ⟨q1, q2, q3⟩ := pick_hi h2 p1
  generalize (if ltB A b then b else A) = B at *
  obtain ⟨r1, r2, r3⟩ := pick_hi h3 q1
  generalize (if ltB B c then c else B) = C at *
  obtain ⟨s1, s2, s3⟩ := pick_hi h4 r1
  generalize (if ltB C d then d else C) = D at *
  refine ⟨s1, by omega, ?_⟩
  rcases s3 with rfl | rfl <;> rcases r3 with rfl | rfl <;> rcases q3 with rfl | rfl <;> rcases p3 with rfl | rfl <;> simp
theorem mem4_lt {x a b c d : Nat} (h : x ∈ [a, b, c, d]) (h1 : a < 18446744073709551616) (h2 : b < 18446744073709551616) (h3 : c < 18446744073709551616) (h4 : d < 18446744073709551616) : x < 18446744073709551616 := by
  simp at h; rcases h with rfl | rfl | rfl | rfl <;> assumption
/-- The two in the middle may change places. -/
theorem around_swap {a b c d : Nat} (h1 : isN a = false) (h2 : isN b = false) (h3 : isN c = false) (h4 : isN d = false) (l1 : a < 18446744073709551616) (l2 : b < 18446744073709551616) (l3 : c < 18446744073709551616) (l4 : d < 18446744073709551616) :
    aroundI a b c d = aroundI a c b d := by
  obtain ⟨m1, m2, m3⟩ := minL4 h1 h2 h3 h4
  obtain ⟨n1, n2, n3⟩ := minL4 h1 h3 h2 h4
  obtain ⟨x1, x2, x3⟩ := maxL4 h1 h2 h3 h4
  obtain ⟨y1, y2, y3⟩ := maxL4 h1 h3 h2 h4
  unfold aroundI outI
  simp only [h1, h2, h3, h4, Bool.or_self, Bool.false_eq_true, if_false]
  rw [downB_same (mem4_lt m3 l1 l2 l3 l4) (mem4_lt n3 l1 l3 l2 l4) m1 n1 (by omega), upB_same (mem4_lt x3 l1 l2 l3 l4) (mem4_lt y3 l1 l3 l2 l4) x1 y1 (by omega)]
theorem mulI_sym {a b c d : Nat} (h : Mid a b) (g : Mid c d) : mulI a b c d = mulI c d a b := by
  obtain ⟨a1, b1, -, -⟩ := h.fin
  obtain ⟨c1, d1, -, -⟩ := g.fin
  unfold mulI
  rw [mul_sym c1 a1, mul_sym c1 b1, mul_sym d1 a1, mul_sym d1 b1]
  have p1 := mul_val a1 c1
  have p2 := mul_val a1 d1
  have p3 := mul_val b1 c1
  have p4 := mul_val b1 d1
  exact around_swap p1.1 p2.1 p3.1 p4.1 p1.2.2 p2.2.2 p3.2.2 p4.2.2

theorem zero_sub_val {r : Nat} (hN : isN r = false) : isN (cop .sub 0 r) = false ∧ key (cop .sub 0 r) = - key r := by
  have hr := isN_false hN
  by_cases hf : r % p63 < infR
  · have k := sub_val (x := 0) (y := r) (by decide) hf
    refine ⟨k.1, ?_⟩
    rw [k.2.1, show V 0 = 0 by decide, Int.zero_sub, RK_neg, RK_V (Nat.le_of_lt hf)]
  · have hi : r % p63 = infR := by omega
    have e : Ieee.double.sub 0 r = some (double.word (!neg r) infR) := by
      unfold Ieee.Format.sub; rw [read_inf hi]; rfl
    have c : cop .sub 0 r = _ := cop_some (op := .sub) e
    rw [c, key_eq r, hi]
    generalize neg r = s
    cases s <;> decide
/-- Taken away the other way about it is turned. -/
theorem subI_turn {a b c d : Nat} (h : Mid a b) (g : Mid c d) : ∃ s1 s2 t1 t2, outI (cop .sub a d) (cop .sub b c) = iv s1 s2 ∧ outI (cop .sub c b) (cop .sub d a) = iv t1 t2 ∧
    isN s1 = false ∧ isN s2 = false ∧ isN t1 = false ∧ isN t2 = false ∧ eqB s1 (cop .sub 0 t2) = true ∧ eqB s2 (cop .sub 0 t1) = true := by
  obtain ⟨a1, b1, -, -⟩ := h.fin
  obtain ⟨c1, d1, -, -⟩ := g.fin
  have e1 := V_le.2 h.ends.2.2.1
  have e2 := V_le.2 g.ends.2.2.1
  obtain ⟨p1, p2, p3⟩ := sub_val a1 d1
  obtain ⟨q1, q2, q3⟩ := sub_val b1 c1
  obtain ⟨r1, r2, r3⟩ := sub_val c1 b1
  obtain ⟨u1, u2, u3⟩ := sub_val d1 a1
  have k1 := RK_mono (-1074) (show V a - V d ≤ V b - V c by omega)
  have k2 := RK_neg (V a - V d) (-1074)
  have k3 := RK_neg (V b - V c) (-1074)
  rw [show -(V a - V d) = V d - V a by omega] at k2
  rw [show -(V b - V c) = V c - V b by omega] at k3
  have b1 := RK_bound (V a - V d) (-1074)
  have b2 := RK_bound (V b - V c) (-1074)
  obtain ⟨D1, D2, D3⟩ := down_key p3 p1
  obtain ⟨U1, U2, U3⟩ := up_key q3 q1
  obtain ⟨E1, E2, E3⟩ := down_key r3 r1
  obtain ⟨F1, F2, F3⟩ := up_key u3 u1
  have hi : infR = 9218868437227405312 := rfl
  rw [p2] at D1; rw [q2] at U1; rw [r2, k3] at E1; rw [u2, k2] at F1
  generalize RK (V a - V d) (-1074) = K at *
  generalize RK (V b - V c) (-1074) = L at *
  have l1 : leB (downB (cop .sub a d)) (upB (cop .sub b c)) = true := by
    rw [leB_of D2 U2]; simp only [decide_eq_true_eq]; split at D1 <;> split at U1 <;> omega
  have l2 : leB (downB (cop .sub c b)) (upB (cop .sub d a)) = true := by
    rw [leB_of E2 F2]; simp only [decide_eq_true_eq]; split at E1 <;> split at F1 <;> omega
  unfold outI makeI
  rw [if_pos l1, if_pos l2]
  obtain ⟨z1, z2⟩ := zero_sub_val F2
  obtain ⟨z3, z4⟩ := zero_sub_val E2
  refine ⟨_, _, _, _, rfl, rfl, D2, U2, E2, F2, ?_, ?_⟩
  · rw [eqB_of D2 z1, z2]; simp only [decide_eq_true_eq]; split at D1 <;> split at F1 <;> omega
  · rw [eqB_of U2 z3, z4]; simp only [decide_eq_true_eq]; split at U1 <;> split at E1 <;> omega

end Go.Proofs.Ytbepaoliboooaaa
