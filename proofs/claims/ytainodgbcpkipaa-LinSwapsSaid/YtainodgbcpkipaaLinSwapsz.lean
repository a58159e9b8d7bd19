/-
  The law of two rows in each other's place, walked.
-/
import Derived.Test.YtainodgbcpkipaaLsd
import Derived.Test.YtainodgbcpkipaaLmb
import Derived.Test.YtainodgbcpkipaaLkn
import Derived.Test.YtainodgbcpkipaaLrb
import Derived.Test.YtainodgbcpkipaaLig
namespace Go.Proofs.Ytainodgbcpkipaa
open Go.RowKit
open Ieee (double)
attribute [local go_sem] alloc_drewN setCell_drewN call_bits call_frombits ord_lt ord_eq ord_gt ord_ne ord_le ord_ge eqB_self run_fadd run_fsub run_fmul run_fquo haStoreFlt takeOp pureOp readsUpon doOp

/-- Two tables that are apart, and what else is known of where they lie. -/
structure Pair (w0 W : World) (B H GA GC n : Nat) (bA cA bC cC : Nat → Nat) (f g : Nat → Nat → Nat) : Prop where
  a : Grid W B GA n n bA cA f
  c : Grid W H GC n n bC cC g
  ga : GA < H
  ba : ∀ i, i < n → bA i < H
  w : Below B w0 W
theorem Pair.below {w0 W W' : World} {B H GA GC n : Nat} {bA cA bC cC : Nat → Nat} {f g : Nat → Nat → Nat} (h : Pair w0 W B H GA GC n bA cA bC cC f g) (hB : B ≤ W.heap.size) (hb : Below W.heap.size W W') : Pair w0 W' B H GA GC n bA cA bC cC f g :=
  ⟨h.a.below hb, h.c.below hb, h.ga, h.ba, h.w.trans (hb.mono hB)⟩
/-- The arguments, as they were made. -/
structure Args3 (W : World) (va vc vb vd : Value) (n : Nat) (f g : Nat → Nat → Nat) (r s : Nat → Nat) : Prop where
  a : TabR W va n (fun _ => n) f
  c : TabR W vc n (fun _ => n) g
  b : FRow W vb n r
  d : FRow W vd n s
theorem Args3.below {W W' : World} {va vc vb vd : Value} {n : Nat} {f g : Nat → Nat → Nat} {r s : Nat → Nat} (h : Args3 W va vc vb vd n f g r s) (hb : Below W.heap.size W W') : Args3 W' va vc vb vd n f g r s := ⟨h.a.below hb, h.c.below hb, h.b.below hb, h.d.below hb⟩
theorem sg_sg (i j t : Nat) : sg i j (sg i j t) = t := by
  unfold sg
  by_cases h1 : t = j
  · subst h1
    by_cases h2 : i = t
    · subst h2; simp
    · simp [h2]
  · by_cases h2 : t = i
    · subst h2; simp [h1]
    · simp [h1, h2]
set_option maxRecDepth 100000 in
set_option maxHeartbeats 8000000 in
theorem linSwaps_any (a0 : Int) (v1 : Value) (zs1 : List Int) (v2 : Value) (zs2 : List Int) (a3 a4 : Int) (w : World) (_ : -9223372036854775808 ≤ a0 ∧ a0 ≤ 9223372036854775807) (h1 : Ints w v1 zs1) (h2 : Ints w v2 zs2) (_ : -9223372036854775808 ≤ a3 ∧ a3 ≤ 9223372036854775807) (_ : -9223372036854775808 ≤ a4 ∧ a4 ≤ 9223372036854775807) :
    Calls Try.prog 9 #[.int .i64 a0, v1, v2, .int .i64 a3, .int .i64 a4] w fun e w' => e = .returned (.bool true) ∧ Below w.heap.size w w' := by
  have HI1 := Lib.hid h1
  have HI2 := Lib.hid h2
  clear h1 h2
  obtain ⟨n, hk⟩ : ∃ k : Nat, (k : Int) = 1 + a0 % 5 := ⟨(1 + a0 % 5).toNat, by omega⟩
  have hn1 : 1 ≤ n := by omega
  have hn5 : n ≤ 5 := by omega
  go_enter Try.func9, Try.ntmps9
  generalize hB : w.heap.size = B at *
  go_wp2_with fail
  refine (known_tells _).mono ?_
  rintro e w1 ⟨rfl, hb1⟩
  rw [hB] at hb1
  have hs1 := hb1.size
  have MK1 := Lib.hid (make_tells a0 n hk v1 zs1 w1 (ints_below HI1.out (by rw [hB]; exact hb1)))
  go_wp2_with fail
  refine MK1.out.mono ?_
  rintro e w2 ⟨GA, cA, blkA, capA, rfl, hgA, hb2⟩
  have hB2 : Below B w w2 := hb1.trans (hb2.mono (by omega))
  have hs2 := hb2.size
  have MK2 := Lib.hid (make_tells a0 n hk v1 zs1 w2 (ints_below HI1.out (by rw [hB]; exact hB2)))
  have HA2 := Lib.hid (hgA.base (b' := B) (by omega))
  clear MK1 hgA hb1 hb2
  go_wp2_with fail
  refine MK2.out.mono ?_
  rintro e w3 ⟨GC, cC, blkC, capC, rfl, hgC, hb3⟩
  have hs3 := hb3.size
  have HP3 := Lib.hid (show Pair w w3 B w2.heap.size GA GC n blkA capA blkC capC (dg (makeV zs1 n) 0) (dg (makeV zs1 n) 0) from
    ⟨(HA2.out.below hb3).congr (fun i j _ _ => by unfold dg; rw [if_neg (by omega)]), hgC.congr (fun i j _ _ => by unfold dg; rw [if_neg (by omega)]), HA2.out.hi, fun i hi => (HA2.out.row i hi).lt.2, hB2.trans (hb3.mono (by omega))⟩)
  have hHB : B ≤ w2.heap.size := by omega
  clear MK2 hgC hb3 HA2 hB2 hk
  generalize w2.heap.size = H at *
  clear hs2 hs3 hs1
  go_wp2_with fail
  go_loopw [14] (fun i wr => ∃ d : Nat, d ≤ n ∧ i = .int .i64 d ∧ Pair w wr B H GA GC n blkA capA blkC capC (dg (makeV zs1 n) d) (dg (makeV zs1 n) d)) (fun i _ => n - (intOf i).toNat)
  case atStart => exact ⟨0, by omega, rfl, HP3.out⟩
  case round =>
    clear HP3
    obtain ⟨d, hd, rfl, hp⟩ := hrel
    by_cases hdn : d < n
    · have ra := hp.a.ref d hdn
      have rc := hp.c.ref d hdn
      obtain ⟨x, x1, x2, x3⟩ := hp.a.cell hdn hdn
      obtain ⟨y, y1, y2, y3⟩ := hp.c.cell hdn hdn
      have fa := (hp.a.row d hdn).free d
      have fc := (hp.c.row d hdn).free d
      have hv : ∀ z, canon z = dg (makeV zs1 n) d d d → (∀ W, fval .add W z f40 = cop .add (makeV zs1 n d d) f40) ∧ ndraw .add z f40 = 0 := fun z hz => by
        have e0 : dg (makeV zs1 n) d d d = makeV zs1 n d d := by unfold dg; rw [if_neg (by omega)]
        have hb := (makeV_btw zs1 n d d).2
        have e1 : cop .add z f40 = cop .add (makeV zs1 n d d) f40 := by rw [← cop_canon_left, hz, e0]
        have := fval_num (op := .add) (a := z) (b := f40) (by rw [e1]; exact btw_num hb)
        exact ⟨fun W => (this.1 W).trans e1, this.2⟩
      obtain ⟨u1, u2⟩ := hv x x2
      obtain ⟨t1, t2⟩ := hv y y2
      have HP := Lib.hid hp
      clear hv hp
      unfold f40 at u1 u2 t1 t2
      go_wp2_with fail
      refine wp_region_ord [(0, 1), (1, 1), (2, 1), (3, 2), (4, 1), (5, 1), (6, 1), (7, 1), (8, 2), (9, 1), (10, 1), (11, 1), (12, 1), (13, 2), (14, 1), (15, 1), (16, 2), (18, 1), (19, 1), (20, 1), (21, 2), (22, 1), (23, 1), (24, 2), (17, 1), (25, 1), (26, 1), (27, 0), (28, 1), (29, 0)] (by kernel_rfl) (by kernel_rfl) (fun _ _ d _ _ h => by cases d <;> exact h) ?_
      intro Z hZ
      have hz : ∀ b o, Z.cell? ⟨b, o, none⟩ = wr.cell? ⟨b, o, none⟩ := fun b o => by rw [hZ]; rfl
      have hzf : ∀ b o, Z.frozen? ⟨b, o, none⟩ = wr.frozen? ⟨b, o, none⟩ := fun b o => by rw [hZ]; rfl
      have hpZ : Pair w Z B H GA GC n blkA capA blkC capC (dg (makeV zs1 n) d) (dg (makeV zs1 n) d) := HP.out.below (by have := HP.out.w.size; omega) (by rw [hZ]; exact (Below.refl _ _).drew)
      have hne1 : blkA d < H := hpZ.ba d hdn
      have hne2 : H ≤ blkC d := (hpZ.c.row d hdn).lt.1
      have hga := hpZ.ga
      have hgc := hpZ.c.lo
      have hset : Pair w ((Z.setCell ⟨blkA d, d, none⟩ (.float .f64 (cop .add (makeV zs1 n d d) f40))).setCell ⟨blkC d, d, none⟩ (.float .f64 (cop .add (makeV zs1 n d d) f40))) B H GA GC n blkA capA blkC capC (dg (makeV zs1 n) (d + 1)) (dg (makeV zs1 n) (d + 1)) := by
        have e0 : dg (makeV zs1 n) d d d = makeV zs1 n d d := by unfold dg; rw [if_neg (by omega)]
        have es : ∀ i j, updN2 (dg (makeV zs1 n) d) d d (cop .add (makeV zs1 n d d) f40) i j = dg (makeV zs1 n) (d + 1) i j := dg_set _ d
        refine ⟨((hpZ.a.set hdn hdn (canon_cop _ _ _) (cop_lt _ _ _)).setOther (by omega) (fun i hi => by have := hpZ.ba i hi; omega) _).congr (fun i j _ _ => es i j),
          ((hpZ.c.setOther (by omega) (fun i hi => by have := (hpZ.c.row i hi).lt.1; omega) _).set hdn hdn (canon_cop _ _ _) (cop_lt _ _ _)).congr (fun i j _ _ => es i j), hga, hpZ.ba, ?_⟩
        exact (hpZ.w.setCell (p := ⟨blkA d, d, none⟩) (hpZ.a.row d hdn).lt.1 _).setCell (p := ⟨blkC d, d, none⟩) (show B ≤ blkC d by omega) _
      have HS := Lib.hid hset
      have hne3 : blkA d ≠ blkC d := by omega
      unfold f40 at HS
      rw [← hz] at ra rc x1 y1
      rw [← hzf] at fa fc
      clear hZ hz hzf hpZ hset hga hgc HP
      iterate 24
        first
          | refine wpOrd_pure (fun K hK => ?_)
          | refine wpOrd_take (fun K hK => ?_)
        go_simp
        refine hK _ ?_
        clear hK K
      iterate 2
        refine wpOrd_pure (fun K hK => ?_)
        go_simp
        refine ⟨_, fun _ => ⟨rfl, rfl⟩, hK _ ?_⟩
        clear hK K
      iterate 1
        first
          | refine wpOrd_pure (fun K hK => ?_)
          | refine wpOrd_take (fun K hK => ?_)
        go_simp
        refine hK _ ?_
        clear hK K
      refine wpOrd_do (fun K hK => ?_)
      go_simp
      refine hK _ _ (fun h => Bool.noConfusion (Eq.trans (Eq.symm (by kernel_rfl : _ = false)) h)) ?_
      clear hK K
      iterate 1
        first
          | refine wpOrd_pure (fun K hK => ?_)
          | refine wpOrd_take (fun K hK => ?_)
        go_simp
        refine hK _ ?_
        clear hK K
      refine wpOrd_do (fun K hK => ?_)
      go_simp
      refine hK _ _ (fun h => Bool.noConfusion (Eq.trans (Eq.symm (by kernel_rfl : _ = false)) h)) ?_
      clear hK K
      refine wpOrd_nil ?_
      clear ra rc x1 y1 fa fc
      go_wp2_with fail
      go_roundw
      case rel => exact ⟨d + 1, by omega, by go_num, HS.out⟩
      case measure => simp [intOf]; omega
    · obtain rfl : n = d := by omega
      have HP := Lib.hid hp
      clear hp
      go_wp2_with fail
      refine (lawWithin_mod a3 n _ (by omega) (by omega)).mono ?_
      rintro e w' ⟨rfl, rfl⟩
      go_wp2_with fail
      refine (lawWithin_mod a4 n _ (by omega) (by omega)).mono ?_
      rintro e w' ⟨rfl, rfl⟩
      obtain ⟨i, hi⟩ : ∃ i : Nat, (i : Int) = a3 % n := ⟨(a3 % n).toNat, by have := Int.emod_nonneg a3 (show (n : Int) ≠ 0 by omega); omega⟩
      obtain ⟨j, hj⟩ : ∃ j : Nat, (j : Int) = a4 % n := ⟨(a4 % n).toNat, by have := Int.emod_nonneg a4 (show (n : Int) ≠ 0 by omega); omega⟩
      have hin : i < n := by have := Int.emod_lt_of_pos a3 (show (0 : Int) < n by omega); omega
      have hjn : j < n := by have := Int.emod_lt_of_pos a4 (show (0 : Int) < n by omega); omega
      rw [← hi, ← hj]
      clear hi hj
      have hBr : B ≤ wr.heap.size := by have := HP.out.w.size; omega
      have RW1 := Lib.hid (row_tells n v2 zs2 wr (ints_below HI2.out (by rw [hB]; exact HP.out.w)) hn1 (by omega))
      go_wp2_with fail
      refine RW1.out.mono ?_
      rintro e w4 ⟨RB, cB, rfl, hoB, hb4⟩
      have HP4 := Lib.hid (HP.out.below hBr hb4)
      have hB4 : B ≤ w4.heap.size := by have := hb4.size; omega
      have HO4 := Lib.hid hoB
      have hRB : GC < RB := Nat.lt_of_lt_of_le HP.out.c.hi hoB.lt.1
      have hRB2 : ∀ i, i < n → blkC i < RB := fun i hi => Nat.lt_of_lt_of_le (HP.out.c.row i hi).lt.2 hoB.lt.1
      have RW2 := Lib.hid (row_tells n v2 zs2 w4 (ints_below HI2.out (by rw [hB]; exact HP4.out.w)) hn1 (by omega))
      clear RW1 HP hoB hb4
      go_wp2_with fail
      refine RW2.out.mono ?_
      rintro e w5 ⟨RD, cD, rfl, hoD, hb5⟩
      have HP5 := Lib.hid (HP4.out.below hB4 hb5)
      have HO5 := Lib.hid (HO4.out.below hb5 HO4.out.lt.2)
      have HD5 := Lib.hid hoD
      have hRD : RB < RD := Nat.lt_of_lt_of_le HO4.out.lt.2 hoD.lt.1
      have hB5 : B ≤ w5.heap.size := by have := hb5.size; omega
      have hBRD : B ≤ RD := by have := hoD.lt.1; omega
      clear RW2 HP4 HO4 hoD hb5
      have r1 := HP5.out.c.ref i hin
      have r2 := HP5.out.c.ref j hjn
      have f1 := HP5.out.c.free i hin
      have f2 := HP5.out.c.free j hjn
      go_wp2_with fail
      refine wp_region_ord [(0, 1), (1, 1), (2, 1), (3, 1), (4, 1), (5, 1), (6, 1), (7, 2), (8, 1), (9, 1), (10, 1), (11, 2), (12, 1), (13, 0), (14, 1), (15, 0)] (by kernel_rfl) (by kernel_rfl) (fun _ _ d _ _ h => by cases d <;> exact h) ?_
      intro Z hZ
      have hz : ∀ b o, Z.cell? ⟨b, o, none⟩ = w5.cell? ⟨b, o, none⟩ := fun b o => by rw [hZ]; rfl
      have hzf : ∀ b o, Z.frozen? ⟨b, o, none⟩ = w5.frozen? ⟨b, o, none⟩ := fun b o => by rw [hZ]; rfl
      have hbZ : Below w5.heap.size w5 Z := by rw [hZ]; exact (Below.refl _ _).drew
      rw [← hz] at r1 r2
      rw [← hzf] at f1 f2
      clear hZ hz hzf
      obtain ⟨z1, s1⟩ := cell_set1 (.slice (some ⟨blkC j, 0, none⟩) n (capC j)) r1 r2
      have s2 : (Z.setCell ⟨GC, i, none⟩ (.slice (some ⟨blkC j, 0, none⟩) n (capC j))).frozen? ⟨GC, j, none⟩ = false := by simp [go_sem, f2]
      iterate 13
        first
          | refine wpOrd_pure (fun K hK => ?_)
          | refine wpOrd_take (fun K hK => ?_)
        go_simp
        refine hK _ ?_
        clear hK K
      refine wpOrd_do (fun K hK => ?_)
      go_simp
      refine hK _ _ (fun h => Bool.noConfusion (Eq.trans (Eq.symm (by kernel_rfl : _ = false)) h)) ?_
      clear hK K
      iterate 1
        first
          | refine wpOrd_pure (fun K hK => ?_)
          | refine wpOrd_take (fun K hK => ?_)
        go_simp
        refine hK _ ?_
        clear hK K
      generalize hZ1 : Z.setCell ⟨GC, i, none⟩ (.slice (some ⟨blkC j, 0, none⟩) n (capC j)) = Z1 at *
      refine wpOrd_do (fun K hK => ?_)
      go_simp
      refine hK _ _ (fun h => Bool.noConfusion (Eq.trans (Eq.symm (by kernel_rfl : _ = false)) h)) ?_
      clear hK K
      refine wpOrd_nil ?_
      have hPZ := HP5.out.below hB5 hbZ
      have hsw := hPZ.c.swap hin hjn
      rw [hZ1] at hsw
      have HA6 := Lib.hid ((hPZ.a.setOther (B := GC) (o := i) (by have := hPZ.ga; have := hPZ.c.lo; omega) (fun t ht => by have := hPZ.ba t ht; have := hPZ.c.lo; omega) (.slice (some ⟨blkC j, 0, none⟩) n (capC j))).setOther (B := GC) (o := j) (by have := hPZ.ga; have := hPZ.c.lo; omega) (fun t ht => by have := hPZ.ba t ht; have := hPZ.c.lo; omega) (.slice (some ⟨blkC i, 0, none⟩) n (capC i)))
      have HO6 := Lib.hid (((HO5.out.below hbZ HO5.out.lt.2).other (B := GC) (o := i) (by omega) (.slice (some ⟨blkC j, 0, none⟩) n (capC j))).other (B := GC) (o := j) (by omega) (.slice (some ⟨blkC i, 0, none⟩) n (capC i)))
      have HD6 := Lib.hid (((HD5.out.below hbZ HD5.out.lt.2).other (B := GC) (o := i) (by omega) (.slice (some ⟨blkC j, 0, none⟩) n (capC j))).other (B := GC) (o := j) (by omega) (.slice (some ⟨blkC i, 0, none⟩) n (capC i)))
      have hbA : ∀ t, t < n → blkA t < RD := fun t ht => by have := hPZ.ba t ht; have := hPZ.c.lo; omega
      have hGA : GA < RD := by have := hPZ.ga; have := hPZ.c.lo; omega
      have HB6 := Lib.hid ((hPZ.w.setCell (p := ⟨GC, i, none⟩) (show B ≤ GC by have := hPZ.c.lo; omega) (.slice (some ⟨blkC j, 0, none⟩) n (capC j))).setCell (p := ⟨GC, j, none⟩) (show B ≤ GC by have := hPZ.c.lo; omega) (.slice (some ⟨blkC i, 0, none⟩) n (capC i)))
      have HC6 := Lib.hid hsw
      rw [hZ1] at HA6 HO6 HD6 HB6
      clear hPZ hsw hbZ HP5 HO5 HD5 r1 r2 f1 f2 s1 s2 hZ1
      generalize Z1.setCell ⟨GC, j, none⟩ (.slice (some ⟨blkC i, 0, none⟩) n (capC i)) = W6 at *
      clear Z1 Z
      obtain ⟨x, x1, x2, x3⟩ := HD6.out.cell hin
      obtain ⟨y, y1, y2, y3⟩ := HD6.out.cell hjn
      have g1 := HD6.out.free i
      have g2 := HD6.out.free j
      go_wp2_with fail
      refine wp_region_ord [(0, 1), (1, 1), (2, 1), (3, 1), (4, 1), (5, 1), (6, 1), (7, 2), (8, 1), (9, 1), (10, 1), (11, 2), (12, 1), (13, 0), (14, 1), (15, 0)] (by kernel_rfl) (by kernel_rfl) (fun _ _ d _ _ h => by cases d <;> exact h) ?_
      intro Z hZ
      have hz : ∀ b o, Z.cell? ⟨b, o, none⟩ = W6.cell? ⟨b, o, none⟩ := fun b o => by rw [hZ]; rfl
      have hzf : ∀ b o, Z.frozen? ⟨b, o, none⟩ = W6.frozen? ⟨b, o, none⟩ := fun b o => by rw [hZ]; rfl
      have hbZ : Below W6.heap.size W6 Z := by rw [hZ]; exact (Below.refl _ _).drew
      rw [← hz] at x1 y1
      rw [← hzf] at g1 g2
      clear hZ hz hzf
      obtain ⟨z1, s1⟩ := cell_set1 (.float .f64 y) x1 y1
      have s2 : (Z.setCell ⟨RD, i, none⟩ (.float .f64 y)).frozen? ⟨RD, j, none⟩ = false := by simp [go_sem, g2]
      iterate 13
        first
          | refine wpOrd_pure (fun K hK => ?_)
          | refine wpOrd_take (fun K hK => ?_)
        go_simp
        refine hK _ ?_
        clear hK K
      refine wpOrd_do (fun K hK => ?_)
      go_simp
      refine hK _ _ (fun h => Bool.noConfusion (Eq.trans (Eq.symm (by kernel_rfl : _ = false)) h)) ?_
      clear hK K
      iterate 1
        first
          | refine wpOrd_pure (fun K hK => ?_)
          | refine wpOrd_take (fun K hK => ?_)
        go_simp
        refine hK _ ?_
        clear hK K
      generalize hZ1 : Z.setCell ⟨RD, i, none⟩ (.float .f64 y) = Z1 at *
      refine wpOrd_do (fun K hK => ?_)
      go_simp
      refine hK _ _ (fun h => Bool.noConfusion (Eq.trans (Eq.symm (by kernel_rfl : _ = false)) h)) ?_
      clear hK K
      refine wpOrd_nil ?_
      have hDD := ((HD6.out.below hbZ HD6.out.lt.2).set hin y2 y3).set hjn x2 x3
      have hlo := HC6.out.lo
      have hA := ((HA6.out.below hbZ).setOther (B := RD) (o := i) (by have := HA6.out.hi; omega) (fun t ht => by have := hbA t ht; omega) (.float .f64 y)).setOther (B := RD) (o := j) (by have := HA6.out.hi; omega) (fun t ht => by have := hbA t ht; omega) (.float .f64 x)
      have hC := ((HC6.out.below hbZ).setOther (B := RD) (o := i) (by omega) (fun t ht => by have := hRB2 _ (sg_lt hin hjn ht); rw [swp_sg]; omega) (.float .f64 y)).setOther (B := RD) (o := j) (by omega) (fun t ht => by have := hRB2 _ (sg_lt hin hjn ht); rw [swp_sg]; omega) (.float .f64 x)
      have hO := ((HO6.out.below hbZ HO6.out.lt.2).other (B := RD) (o := i) (by omega) (.float .f64 y)).other (B := RD) (o := j) (by omega) (.float .f64 x)
      have hb6 := HB6.out.size
      have hW := ((HB6.out.trans (hbZ.mono (by omega))).setCell (p := ⟨RD, i, none⟩) hBRD (.float .f64 y)).setCell (p := ⟨RD, j, none⟩) hBRD (.float .f64 x)
      rw [hZ1] at hA hC hO hW hDD
      have HAR := Lib.hid (show Args3 _ _ _ _ _ n (dg (makeV zs1 n) n) (swp (dg (makeV zs1 n) n) i j) (rowV zs2) (swp (rowV zs2) i j) from ⟨hA.tab (c := cA) (by omega) (by omega), hC.tab (c := cC) (by omega) (by omega), hO.flts (by omega), hDD.flts (by omega)⟩)
      have HW := Lib.hid hW
      clear hA hC hO hW hDD HA6 HC6 HO6 HD6 HB6 hbZ x1 y1 g1 g2 s1 s2 x2 x3 y2 y3 hZ1 hlo hb6
      generalize Z1.setCell ⟨RD, j, none⟩ (.float .f64 x) = W7 at *
      clear Z1 Z W6
      have hG := great_dg (n := n) (fun a b => makeV_btw zs1 n a b)
      have hBest := great_best hn5 hG
      obtain ⟨q0, e0, hq0⟩ := part_all hBest (s := fun t => t) (fun _ h => h) (fun _ _ => rfl) (fun _ => rfl)
      obtain ⟨q1, e1, hq1⟩ := part_all hBest (s := sg i j) (fun t ht => sg_lt hin hjn ht) (fun t ht => by unfold sg; rw [if_neg (by omega), if_neg (by omega)]) (sg_sg i j)
      have e0' : partF (dg (makeV zs1 n) n) n n = some (elF (dg (makeV zs1 n) n) n n, q0) := e0
      have e1' : partF (swp (dg (makeV zs1 n) n) i j) n n = some (elF (dg (makeV zs1 n) n) n n, q1) := by rw [← e1]; congr 1; funext t; rw [swp_sg]
      have E0 := Lib.hid e0'
      have E1 := Lib.hid e1'
      have HQ0 := Lib.hid hq0
      have HQ1 := Lib.hid hq1
      have FIN := Lib.hid (fun t (ht : t < n) => great_solve hn5 hG (fun t _ => rowV_btw zs2 t) t ht)
      clear e0 e1 e0' e1' hq0 hq1 hBest hG
      generalize elF (dg (makeV zs1 n) n) n n = g at *
      generalize dg (makeV zs1 n) n = f at *
      go_wp2_with fail
      refine (part_tells n _ _ W7 HAR.out.a hn1 (by omega)).mono ?_
      rintro e w6 hPR
      unfold PartR at hPR
      rw [E0.out] at hPR
      obtain ⟨hb6, G2, R3, blk2, cap2, rfl, hg6, hp6, -, -⟩ := hPR
      have hs6 := hb6.size
      have hal6 : Below w6.heap.size w6 (w6.alloc (.cells #[.slice (some ⟨G2, 0, none⟩) n n, .slice (some ⟨R3, 0, none⟩) n n] 29)) := (Below.refl _ _).alloc (Nat.le_refl _) _
      have HX := Lib.hid (Box2.new (.slice (some ⟨G2, 0, none⟩) n n) (.slice (some ⟨R3, 0, none⟩) n n) w6 29)
      have HG := Lib.hid ((hg6.below hal6).tab (c := n) (by omega) (by omega))
      have HP := Lib.hid ((hp6.below hal6 hp6.lt.2).ints (by omega))
      have HB6 := Lib.hid (hb6.trans (hal6.mono hs6))
      clear hg6 hp6 hb6 hal6
      go_wp2_with fail
      generalize w6.alloc (.cells #[.slice (some ⟨G2, 0, none⟩) n n, .slice (some ⟨R3, 0, none⟩) n n] 29) = X6 at *
      generalize w6.heap.size = P at *
      clear w6
      refine (part_tells n _ _ X6 (HAR.out.below HB6.out).c hn1 (by omega)).mono ?_
      rintro e w7 hPR
      unfold PartR at hPR
      rw [E1.out] at hPR
      obtain ⟨hb7, G4, R5, blk4, cap4, rfl, hg7, hp7, -, -⟩ := hPR
      have hal7 : Below w7.heap.size w7 (w7.alloc (.cells #[.slice (some ⟨G4, 0, none⟩) n n, .slice (some ⟨R5, 0, none⟩) n n] 29)) := (Below.refl _ _).alloc (Nat.le_refl _) _
      have HY8 := Lib.hid (Box2.new (.slice (some ⟨G4, 0, none⟩) n n) (.slice (some ⟨R5, 0, none⟩) n n) w7 29)
      have hx7 := HX.out.below hb7 HX.out.2.2
      have HX8 := Lib.hid (hx7.below hal7 hx7.2.2)
      have hb7' := HB6.out.trans (hb7.mono HB6.out.size)
      have HG4 := Lib.hid ((hg7.below hal7).tab (c := n) (by omega) (by omega))
      have HR5 := Lib.hid ((hp7.below hal7 hp7.lt.2).ints (by omega))
      have HG2 := Lib.hid ((HG.out.below hb7).below hal7)
      have HR3 := Lib.hid ((HP.out.below hb7).below hal7)
      have HB8 := Lib.hid (hb7'.trans (hal7.mono hb7'.size))
      clear hg7 hp7 hal7 hx7 hb7 hb7' HX HG HP HB6
      go_wp2_with fail
      generalize w7.alloc (.cells #[.slice (some ⟨G4, 0, none⟩) n n, .slice (some ⟨R5, 0, none⟩) n n] 29) = X8 at *
      generalize w7.heap.size = P2 at *
      clear w7
      refine wp_region_ordR [(0, 3), (1, 1), (3, 3), (4, 1), (2, 0), (5, 0), (6, 1), (7, 1)] (fun W => Below X8.heap.size X8 W) (by kernel_rfl) (by kernel_rfl) (fun _ _ d _ _ h => by cases d <;> exact h) ((Below.refl _ _).drew) ?_
      intro Z hZ hbZ
      clear hZ
      refine wpOrd_keep (v := .agg #[.slice (some ⟨G2, 0, none⟩) n n, .slice (some ⟨R3, 0, none⟩) n n]) rfl rfl (fun wk hwk => ?_) ?_
      · obtain ⟨k1, k2, k3⟩ := HX8.out.below hwk HX8.out.2.2
        go_simp
      iterate 1
        first
          | refine wpOrd_pure (fun K hK => ?_)
          | refine wpOrd_take (fun K hK => ?_)
        go_simp
        refine hK _ ?_
        clear hK K
      refine wpOrd_keep (v := .agg #[.slice (some ⟨G4, 0, none⟩) n n, .slice (some ⟨R5, 0, none⟩) n n]) rfl rfl (fun wk hwk => ?_) ?_
      · obtain ⟨k1, k2, k3⟩ := HY8.out.below hwk HY8.out.2.2
        go_simp
      iterate 1
        first
          | refine wpOrd_pure (fun K hK => ?_)
          | refine wpOrd_take (fun K hK => ?_)
        go_simp
        refine hK _ ?_
        clear hK K
      refine wpOrd_doR (fun K hK => ?_)
      go_simp
      refine (solve_tells n _ _ _ g q0 (rowV zs2) Z (HG2.out.below hbZ) (HR3.out.below hbZ) (HAR.out.below (HB8.out.trans (hbZ.mono HB8.out.size))).b (fun t ht => by rw [HQ0.out]; exact ht) hn1 (by omega)).mono ?_
      rintro e wa ⟨RX, rfl, hox, hbx⟩
      have hba := hbZ.trans (hbx.mono hbZ.size)
      refine hK _ _ (fun h => Bool.noConfusion (Eq.trans (Eq.symm (by kernel_rfl : _ = false)) h)) (fun _ => hba) ?_
      clear hK K
      refine wpOrd_doR (fun K hK => ?_)
      go_simp
      refine (solve_tells n _ _ _ g q1 (swp (rowV zs2) i j) wa (HG4.out.below hba) (HR5.out.below hba) (HAR.out.below (HB8.out.trans (hba.mono HB8.out.size))).d (fun t ht => by rw [HQ1.out]; exact sg_lt hin hjn ht) hn1 (by omega)).mono ?_
      rintro e wb ⟨RY, rfl, hoy, hby⟩
      have hbb := hba.trans (hby.mono hba.size)
      refine hK _ _ (fun h => Bool.noConfusion (Eq.trans (Eq.symm (by kernel_rfl : _ = false)) h)) (fun _ => hbb) ?_
      clear hK K
      have v1 : (fun t => rowV zs2 (q0 t)) = rowV zs2 := by funext t; rw [HQ0.out]
      have v2 : (fun t => swp (rowV zs2) i j (q1 t)) = rowV zs2 := by funext t; rw [HQ1.out, swp_sg, sg_sg]
      rw [v1] at hox
      rw [v2] at hoy
      have HFX := Lib.hid (hox.below hby hox.lt.2)
      have HFY := Lib.hid hoy
      have HBB := Lib.hid (HW.out.trans ((HB8.out.trans (hbb.mono HB8.out.size)).mono (by have := HW.out.size; omega)))
      clear hox hoy hbx hba hby hbb hbZ v1 v2 HX8 HY8 HG2 HR3 HG4 HR5 HAR HB8 HW
      iterate 2
        first
          | refine wpOrd_pure (fun K hK => ?_)
          | refine wpOrd_take (fun K hK => ?_)
        go_simp
        refine hK _ ?_
        clear hK K
      refine wpOrd_nil ?_
      have hnn : ((n : Int) != n) = false := by simp
      go_wp2_with fail
      go_loopw [25] (fun i wr => ∃ t : Nat, t ≤ n ∧ i = .int .i64 t ∧ Below wb.heap.size wb wr) (fun i _ => n - (intOf i).toNat)
      case atStart => exact ⟨0, by omega, rfl, Below.refl _ _⟩
      case round =>
        obtain ⟨t, ht, rfl, hbt⟩ := hrel
        by_cases htn : t < n
        · obtain ⟨x, x1, x2, x3⟩ := (HFX.out.below hbt HFX.out.lt.2).cell htn
          obtain ⟨y, y1, y2, y3⟩ := (HFY.out.below hbt HFY.out.lt.2).cell htn
          have DN := Lib.hid (fun W => diff_none x2 y2 (FIN.out t htn) W)
          have HBT := Lib.hid hbt
          clear x2 y2 hbt
          go_wp2_with fail
          refine wp_region_ord [(0, 1), (1, 1), (2, 1), (3, 2), (4, 1), (5, 1), (6, 1), (7, 2), (8, 0), (9, 0), (10, 1)] (by kernel_rfl) (by kernel_rfl) (fun _ _ d _ _ h => by cases d <;> exact h) ?_
          intro Z hZ
          have hz : ∀ b o, Z.cell? ⟨b, o, none⟩ = wr.cell? ⟨b, o, none⟩ := fun b o => by rw [hZ]; rfl
          have HZ := Lib.hid (show Below wb.heap.size wb Z by rw [hZ]; exact HBT.out.drew)
          rw [← hz] at x1 y1
          clear hZ hz
          iterate 8
            first
              | refine wpOrd_pure (fun K hK => ?_)
              | refine wpOrd_take (fun K hK => ?_)
            go_simp
            refine hK _ ?_
            clear hK K
          refine wpOrd_do (fun K hK => ?_)
          go_simp
          refine hK _ _ (fun _ => ⟨_, rfl⟩) ?_
          clear hK K
          refine wpOrd_do (fun K hK => ?_)
          go_simp
          obtain ⟨d1, d2⟩ := DN.out Z
          have HZ2 := Lib.hid (below_drewN HZ.out (ndraw .sub x y))
          generalize fval .sub Z x y = u at *
          generalize hZ2 : Z.drewN (ndraw .sub x y) = Z2 at *
          refine (rabsQ u _ d2).mono ?_
          rintro e w' ⟨rfl, rfl⟩
          refine hK _ _ (fun _ => ⟨_, hZ2.symm⟩) ?_
          clear hK K
          iterate 1
            first
              | refine wpOrd_pure (fun K hK => ?_)
              | refine wpOrd_take (fun K hK => ?_)
            go_simp
            refine hK _ ?_
            clear hK K
          refine wpOrd_nil ?_
          go_wp2_with fail
          go_roundw
          case rel => exact ⟨t + 1, by omega, by go_num, HZ2.out⟩
          case measure => simp [intOf]; omega
        · go_wp2_with fail
          go_ret
          exact ⟨rfl, HBB.out.trans (hbt.mono (by have := HBB.out.size; omega))⟩
end Go.Proofs.Ytainodgbcpkipaa
