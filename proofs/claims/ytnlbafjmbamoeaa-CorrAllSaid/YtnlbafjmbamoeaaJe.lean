/-
  Numbers that bear how they change: one operation, as the program does it.
-/
import Derived.Test.YtnlbafjmbamoeaaJc
namespace Go.Proofs.Ytnlbafjmbamoeaa
open Go.RowKit
open Ieee (double)
attribute [local go_sem] alloc_drewN setCell_drewN call_bits call_frombits ord_lt ord_eq ord_gt ord_ne ord_le ord_ge eqB_self run_fadd run_fsub run_fmul run_fquo haStoreFlt takeOp pureOp readsUpon doOp

def kindD (K N : Nat) : Value := .agg #[.func (.func 85) #[] #[.pointer (some ⟨K, 0, none⟩), .pointer (some ⟨N, 0, none⟩)], .func (.func 88) #[] #[.pointer (some ⟨K, 0, none⟩), .pointer (some ⟨N, 0, none⟩)], .func (.func 90) #[] #[.pointer (some ⟨K, 0, none⟩), .pointer (some ⟨N, 0, none⟩)], .func (.func 92) #[] #[.pointer (some ⟨K, 0, none⟩), .pointer (some ⟨N, 0, none⟩)], .func (.func 94) #[] #[.pointer (some ⟨K, 0, none⟩), .pointer (some ⟨N, 0, none⟩)]]
/-- Number j of a row of such: it does not lie in R. -/
def DVal (w : World) (b j c n : Nat) (f : Nat → Nat) (R : Nat) : Prop :=
  ∃ y u, w.cell? ⟨b, j * 2, none⟩ = some (.float .f64 y) ∧ canon y = c ∧ y < 18446744073709551616 ∧ w.cell? ⟨b, j * 2 + 1, none⟩ = some u ∧ FRow w u n f ∧ u.ownBlock ≠ some R
theorem DVal.below {w w' : World} {b j c n R : Nat} {f : Nat → Nat} (h : DVal w b j c n f R) (hb : Below w.heap.size w w') (hl : b < w.heap.size) : DVal w' b j c n f R := by
  obtain ⟨y, u, h1, h2, h3, h4, h5, h6⟩ := h
  exact ⟨y, u, by rw [(haCell hb).1 _ _ hl]; exact h1, h2, h3, by rw [(haCell hb).1 _ _ hl]; exact h4, h5.below hb, h6⟩
/-- What an operation tells. -/
def DualO (c : Nat) (f : Nat → Nat) (n R : Nat) (w : World) (e : Ending) (w' : World) : Prop :=
  ∃ y u, e = .returned (.agg #[.float .f64 y, u]) ∧ canon y = c ∧ y < 18446744073709551616 ∧ FRow w' u n f ∧ u.ownBlock ≠ some R ∧ Below w.heap.size w w'
set_option maxRecDepth 100000 in
set_option maxHeartbeats 4000000 in
theorem dop_tells (o : OpD) (n i len Kd N : Nat) (hn : n ≤ 1000) (x r : Nat → Nat) (d : Nat → Nat → Nat) (XB R cap xcap : Nat) (w : World) (hst : standsB o i n = true) (hc : o.c < 18446744073709551616) (hk : KB Kd w) (hN : CB N (.int .i64 n) w)
    (hXl : XB < w.heap.size) (hx : ∀ v, v < n → DVal w XB v (x v) n (fun k => if k = v then 4607182418800017408 else 0) R) (hi : i < len) (_ : len ≤ 60) (hR : R < w.heap.size)
    (hr : ∀ j, j < i → DVal w R j (r j) n (d j) R) :
    Calls Try.prog 96 #[kindD Kd N, opV o, .slice (some ⟨XB, 0, none⟩) n xcap, .slice (some ⟨R, 0, none⟩) len cap] w (DualO (valO o x r) (valD o r (valO o x r) d) n R w) := by
  obtain ⟨k, a, b, c⟩ := o
  have AL := al3 w (.cells #[.func (.func 85) #[] #[.pointer (some ⟨Kd, 0, none⟩), .pointer (some ⟨N, 0, none⟩)], .func (.func 88) #[] #[.pointer (some ⟨Kd, 0, none⟩), .pointer (some ⟨N, 0, none⟩)], .func (.func 90) #[] #[.pointer (some ⟨Kd, 0, none⟩), .pointer (some ⟨N, 0, none⟩)], .func (.func 92) #[] #[.pointer (some ⟨Kd, 0, none⟩), .pointer (some ⟨N, 0, none⟩)], .func (.func 94) #[] #[.pointer (some ⟨Kd, 0, none⟩), .pointer (some ⟨N, 0, none⟩)]] 113) (.cells #[.int .i64 k, .int .i64 a, .int .i64 b, .float .f64 c] 47) (.cells #[.float .f64 0, .slice none 0 0] 117)
  unfold opV valO valD kindD
  unfold standsB at hst
  simp only [] at hst hc ⊢
  go_enter Try.func96, Try.ntmps96
  go_upto_region 1 with fail
  have hkl : Kd < w.heap.size := hk.2.2.2.2.2
  have hNl : N < w.heap.size := hN.2
  have hkX := hk.below AL.2.2.2.2
  have hNX := hN.below AL.2.2.2.2
  have hcw := (haCell AL.2.2.2.2).1
  have HX2 := Lib.hid (fun v (hv : v < n) => (show ∃ y p l, _ = _ ∧ canon y = x v ∧ y < 18446744073709551616 ∧ _ = _ ∧ FRow w (.slice p n l) n _ ∧ (Value.slice p n l).ownBlock ≠ some R by
    obtain ⟨y, u, y1, y2, y3, u1, u2, u3⟩ := hx v hv
    obtain ⟨p, l, rfl, u4⟩ := id u2
    exact ⟨y, p, l, (hcw _ _ hXl).trans y1, y2, y3, (hcw _ _ hXl).trans u1, u2, u3⟩))
  have HR2 := Lib.hid (fun j (hj : j < i) => (show ∃ y p l, _ = _ ∧ canon y = r j ∧ y < 18446744073709551616 ∧ _ = _ ∧ FRow w (.slice p n l) n _ ∧ (Value.slice p n l).ownBlock ≠ some R by
    obtain ⟨y, u, y1, y2, y3, u1, u2, u3⟩ := hr j hj
    obtain ⟨p, l, rfl, u4⟩ := id u2
    exact ⟨y, p, l, (hcw _ _ hR).trans y1, y2, y3, (hcw _ _ hR).trans u1, u2, u3⟩))
  clear hcw
  clear hx hr hk hN
  generalize hB : w.heap.size = B at *
  generalize ((w.alloc (.cells #[.func (.func 85) #[] #[.pointer (some ⟨Kd, 0, none⟩), .pointer (some ⟨N, 0, none⟩)], .func (.func 88) #[] #[.pointer (some ⟨Kd, 0, none⟩), .pointer (some ⟨N, 0, none⟩)], .func (.func 90) #[] #[.pointer (some ⟨Kd, 0, none⟩), .pointer (some ⟨N, 0, none⟩)], .func (.func 92) #[] #[.pointer (some ⟨Kd, 0, none⟩), .pointer (some ⟨N, 0, none⟩)], .func (.func 94) #[] #[.pointer (some ⟨Kd, 0, none⟩), .pointer (some ⟨N, 0, none⟩)]] 113)).alloc (.cells #[.int .i64 k, .int .i64 a, .int .i64 b, .float .f64 c] 47)).alloc (.cells #[.float .f64 0, .slice none 0 0] 117) = X at *
  obtain ⟨x1, x2, x3, x4, x5⟩ := AL
  have g0 := (at_block x1 0)
  have g1 := (at_block x1 1)
  have g2 := (at_block x1 2)
  have g3 := (at_block x1 3)
  have g4 := (at_block x1 4)
  have p0 := (at_block x2 0)
  have p1 := (at_block x2 1)
  have p2 := (at_block x2 2)
  have p3 := (at_block x2 3)
  have gl := lt_block x1
  have pl := lt_block x2
  have HX := Lib.hid x3
  simp only [List.getElem?_toArray, List.getElem?_cons_zero, List.getElem?_cons_succ] at g0 g1 g2 g3 g4 p0 p1 p2 p3
  clear x1 x2 x3
  by_cases k0 : k = 0
  · subst k0
    clear HX2 HR2
    go_wp2_with fail
    refine (du1_tells c n Kd N hc hn _ hkX hNX).mono ?_
    rintro e w2 ⟨y, R2, rfl, y1, y2, ho, hb2⟩
    have w2r := (hb2.block (B + 2) (by omega)).trans HX.out
    obtain ⟨q0, q1, q2⟩ := DB.of w2r
    have qf0 := free_block w2r 0
    have qf1 := free_block w2r 1
    clear w2r HX
    go_wp2_with fail
    have hkk : Keep X (B + 2) w2 := (Keep.refl X (B + 2)).step hb2
    have HB := Lib.hid (show Below B w ((w2.setCell ⟨B + 2, 0, none⟩ (.float .f64 y)).setCell ⟨B + 2, 1, none⟩ (.slice (some ⟨R2, 0, none⟩) n n)) from ((hkk.set 0 _).set 1 _).below x5 (by omega) (by omega))
    obtain ⟨e0, e1⟩ := set2_ok (x := .float .f64 y) (y := .slice (some ⟨R2, 0, none⟩) n n) q0 q1
    have hlt := ho.lt
    have ho' := (ho.other (B := B + 2) (o := 0) (by omega) (.float .f64 y)).other (B := B + 2) (o := 1) (by omega) (.slice (some ⟨R2, 0, none⟩) n n)
    have HO := Lib.hid (ho'.flts (by omega))
    clear ho ho' hb2 hkk
    generalize (w2.setCell ⟨B + 2, 0, none⟩ (.float .f64 y)).setCell ⟨B + 2, 1, none⟩ (.slice (some ⟨R2, 0, none⟩) n n) = W5 at *
    refine bodyPost_ret (v := .agg #[.float .f64 y, .slice (some ⟨R2, 0, none⟩) n n]) (by simp [results, Try.results96, go_sem, e0, e1]) rfl ⟨y, _, rfl, y1, y2, HO.out, fun h => ?_, by rw [hB]; exact HB.out⟩
    simp only [Value.ownBlock, Option.some.injEq] at h
    omega
  · by_cases k1 : k = 1
    · subst k1
      simp only [if_neg k0, if_true, Bool.and_eq_true] at hst
      obtain ⟨A, rfl, hA⟩ := belowB_nat hst.1
      obtain ⟨y, p, l, y1, y2, y3, u1, u2, u3⟩ := HX2.out A (by omega)
      have U2 := Lib.hid (fun W (h : Keep X (B + 2) W) => u2.keepB hB h x5 (by omega))
      have hAn : (A : Int) < (n : Int) := by omega
      have z1 := HX.out
      obtain ⟨q0, q1, q2⟩ := DB.of z1
      have qf0 := free_block z1 0
      have qf1 := free_block z1 1
      have hXX : XB < X.heap.size := by omega
      clear HX2 HR2 u2 z1 HX hst
      go_wp2_with fail
      have hkk := ((Keep.refl X (B + 2)).set 0 (.float .f64 y)).set 1 (.slice p n l)
      have HB := Lib.hid (hkk.below x5 (by omega) (by omega))
      obtain ⟨e0, e1⟩ := set2_ok (x := .float .f64 y) (y := .slice p n l) q0 q1
      have HU := Lib.hid (U2.out _ hkk)
      clear hkk
      generalize (X.setCell ⟨B + 2, 0, none⟩ (.float .f64 y)).setCell ⟨B + 2, 1, none⟩ (.slice p n l) = W5 at *
      exact bodyPost_ret (v := .agg #[.float .f64 y, .slice p n l]) (by simp [results, Try.results96, go_sem, e0, e1]) rfl ⟨y, _, rfl, y2, y3, HU.out, u3, by rw [hB]; exact HB.out⟩
    · have hk : 2 ≤ k ∧ k ≤ 5 := by
        rw [if_neg k0, if_neg k1] at hst
        by_cases h : 2 ≤ k ∧ k ≤ 5
        · exact h
        · rw [if_neg h] at hst; cases hst
      rw [if_neg k0, if_neg k1, if_pos hk] at hst
      simp only [Bool.and_eq_true] at hst
      obtain ⟨A, rfl, hA⟩ := belowB_nat hst.1
      obtain ⟨A2, rfl, hA2⟩ := belowB_nat hst.2.1
      obtain ⟨y, p, l, y1, y2, y3, u1, u2, u3⟩ := HR2.out A (by omega)
      obtain ⟨z, p', l', z1, z2, z3, v1, v2, v3⟩ := HR2.out A2 (by omega)
      have U2 := Lib.hid (fun W (h : Keep X (B + 2) W) => u2.keepB hB h x5 (by omega))
      have V2 := Lib.hid (fun W (h : Keep X (B + 2) W) => v2.keepB hB h x5 (by omega))
      have YZ := Lib.hid (show canon y = r A ∧ canon z = r A2 from ⟨y2, z2⟩)
      have a1 : (A : Int) < (len : Int) := by omega
      have a2 : (A2 : Int) < (len : Int) := by omega
      have hRX : R < X.heap.size := by omega
      clear HX2 HR2 u2 v2 y2 z2 hst u3 v3
      have hk' : k = 2 ∨ k = 3 ∨ k = 4 ∨ k = 5 := by omega
      rcases hk' with rfl | rfl | rfl | rfl
      · go_wp2_with fail
        refine wp_region_ordR [(0, 1), (1, 3), (2, 1), (3, 1), (4, 3), (5, 1), (6, 3), (7, 1), (8, 1), (9, 3), (10, 1), (11, 3), (12, 0), (13, 0)] (Keep X (B + 2)) (by kernel_rfl) (by kernel_rfl) (fun _ _ d _ _ h => by cases d <;> exact h) ((Keep.refl X (B + 2)).drew) ?_
        intro Z hZ hkZ
        have zz := (congrArg (fun W => W.heap[B + 2]?) hZ).trans HX.out
        have zl := lt_block zz
        clear hZ
        iterate 1
          first
            | refine wpOrd_pure (fun K hK => ?_)
            | refine wpOrd_take (fun K hK => ?_)
          go_simp
          refine hK _ ?_
          clear hK K
        refine wpOrd_keep (v := .func (.func 88) #[] #[.pointer (some ⟨Kd, 0, none⟩), .pointer (some ⟨N, 0, none⟩)]) rfl rfl (fun wk hwk => ?_) ?_
        · rw [← hwk.cell gl (by omega)] at g1
          go_simp
        iterate 2
          first
            | refine wpOrd_pure (fun K hK => ?_)
            | refine wpOrd_take (fun K hK => ?_)
          go_simp
          refine hK _ ?_
          clear hK K
        refine wpOrd_keep (v := .int .i64 A) rfl rfl (fun wk hwk => ?_) ?_
        · rw [← hwk.cell pl (by omega)] at p1
          go_simp
        iterate 1
          first
            | refine wpOrd_pure (fun K hK => ?_)
            | refine wpOrd_take (fun K hK => ?_)
          go_simp
          refine hK _ ?_
          clear hK K
        refine wpOrd_keep (v := .agg #[.float .f64 y, .slice p n l]) rfl rfl (fun wk hwk => ?_) ?_
        · rw [← hwk.cell hRX (by omega)] at y1 u1
          go_simp
        iterate 2
          first
            | refine wpOrd_pure (fun K hK => ?_)
            | refine wpOrd_take (fun K hK => ?_)
          go_simp
          refine hK _ ?_
          clear hK K
        refine wpOrd_keep (v := .int .i64 A2) rfl rfl (fun wk hwk => ?_) ?_
        · rw [← hwk.cell pl (by omega)] at p2
          go_simp
        iterate 1
          first
            | refine wpOrd_pure (fun K hK => ?_)
            | refine wpOrd_take (fun K hK => ?_)
          go_simp
          refine hK _ ?_
          clear hK K
        refine wpOrd_keep (v := .agg #[.float .f64 z, .slice p' n l']) rfl rfl (fun wk hwk => ?_) ?_
        · rw [← hwk.cell hRX (by omega)] at z1 v1
          go_simp
        refine wpOrd_doR (fun K hK => ?_)
        go_simp
        refine (du2_tells n Kd N y z _ _ (d A) (d A2) hn Z (hkX.keep hkZ (by omega)) (hNX.keep hkZ (by omega)) (U2.out Z hkZ) (V2.out Z hkZ)).mono ?_
        rintro e w2 ⟨s, R2, rfl, s1, s2, ho, hb2⟩
        refine hK _ _ (fun h => Bool.noConfusion (Eq.trans (Eq.symm (by kernel_rfl : _ = false)) h)) (fun _ => (hkZ.step hb2)) ?_
        clear hK K
        have w2r := (hb2.block (B + 2) zl).trans zz
        obtain ⟨q0, q1, q2⟩ := DB.of w2r
        have qf0 := free_block w2r 0
        have qf1 := free_block w2r 1
        clear w2r zz
        refine wpOrd_doR (fun K hK => ?_)
        go_simp
        refine hK _ _ (fun h => Bool.noConfusion (Eq.trans (Eq.symm (by kernel_rfl : _ = false)) h)) (fun h => Bool.noConfusion (Eq.trans (Eq.symm (by kernel_rfl : _ = false)) h)) ?_
        clear hK K
        refine wpOrd_nil ?_
        have hkk := ((hkZ.step hb2).set 0 (.float .f64 s)).set 1 (.slice (some ⟨R2, 0, none⟩) n n)
        have HB := Lib.hid (hkk.below x5 (by omega) (by omega))
        obtain ⟨e0, e1⟩ := set2_ok (x := .float .f64 s) (y := .slice (some ⟨R2, 0, none⟩) n n) q0 q1
        have hR2 : B + 3 ≤ R2 := by have := ho.lt; have := hkZ.size; omega
        have ho' := (ho.other (B := B + 2) (o := 0) (by omega) (.float .f64 s)).other (B := B + 2) (o := 1) (by omega) (.slice (some ⟨R2, 0, none⟩) n n)
        have HO := Lib.hid (ho'.flts (by omega))
        have S1 := Lib.hid s1
        clear ho ho' hb2 hkk s1
        generalize (w2.setCell ⟨B + 2, 0, none⟩ (.float .f64 s)).setCell ⟨B + 2, 1, none⟩ (.slice (some ⟨R2, 0, none⟩) n n) = W5 at *
        go_wp2_with fail
        refine bodyPost_ret (v := .agg #[.float .f64 s, .slice (some ⟨R2, 0, none⟩) n n]) (by simp [results, Try.results96, go_sem, e0, e1]) rfl ⟨s, _, rfl, ?_, s2, HO.out.congr (fun j _ => ?_), fun h => ?_, by rw [hB]; exact HB.out⟩
        · rw [S1.out, ← cop_canon_left, ← cop_canon_right, YZ.out.1, YZ.out.2]; rfl
        · rfl
        · simp only [Value.ownBlock, Option.some.injEq] at h
          omega
      · go_wp2_with fail
        refine wp_region_ordR [(0, 1), (1, 3), (2, 1), (3, 1), (4, 3), (5, 1), (6, 3), (7, 1), (8, 1), (9, 3), (10, 1), (11, 3), (12, 0), (13, 0)] (Keep X (B + 2)) (by kernel_rfl) (by kernel_rfl) (fun _ _ d _ _ h => by cases d <;> exact h) ((Keep.refl X (B + 2)).drew) ?_
        intro Z hZ hkZ
        have zz := (congrArg (fun W => W.heap[B + 2]?) hZ).trans HX.out
        have zl := lt_block zz
        clear hZ
        iterate 1
          first
            | refine wpOrd_pure (fun K hK => ?_)
            | refine wpOrd_take (fun K hK => ?_)
          go_simp
          refine hK _ ?_
          clear hK K
        refine wpOrd_keep (v := .func (.func 90) #[] #[.pointer (some ⟨Kd, 0, none⟩), .pointer (some ⟨N, 0, none⟩)]) rfl rfl (fun wk hwk => ?_) ?_
        · rw [← hwk.cell gl (by omega)] at g2
          go_simp
        iterate 2
          first
            | refine wpOrd_pure (fun K hK => ?_)
            | refine wpOrd_take (fun K hK => ?_)
          go_simp
          refine hK _ ?_
          clear hK K
        refine wpOrd_keep (v := .int .i64 A) rfl rfl (fun wk hwk => ?_) ?_
        · rw [← hwk.cell pl (by omega)] at p1
          go_simp
        iterate 1
          first
            | refine wpOrd_pure (fun K hK => ?_)
            | refine wpOrd_take (fun K hK => ?_)
          go_simp
          refine hK _ ?_
          clear hK K
        refine wpOrd_keep (v := .agg #[.float .f64 y, .slice p n l]) rfl rfl (fun wk hwk => ?_) ?_
        · rw [← hwk.cell hRX (by omega)] at y1 u1
          go_simp
        iterate 2
          first
            | refine wpOrd_pure (fun K hK => ?_)
            | refine wpOrd_take (fun K hK => ?_)
          go_simp
          refine hK _ ?_
          clear hK K
        refine wpOrd_keep (v := .int .i64 A2) rfl rfl (fun wk hwk => ?_) ?_
        · rw [← hwk.cell pl (by omega)] at p2
          go_simp
        iterate 1
          first
            | refine wpOrd_pure (fun K hK => ?_)
            | refine wpOrd_take (fun K hK => ?_)
          go_simp
          refine hK _ ?_
          clear hK K
        refine wpOrd_keep (v := .agg #[.float .f64 z, .slice p' n l']) rfl rfl (fun wk hwk => ?_) ?_
        · rw [← hwk.cell hRX (by omega)] at z1 v1
          go_simp
        refine wpOrd_doR (fun K hK => ?_)
        go_simp
        refine (du3_tells n Kd N y z _ _ (d A) (d A2) hn Z (hkX.keep hkZ (by omega)) (hNX.keep hkZ (by omega)) (U2.out Z hkZ) (V2.out Z hkZ)).mono ?_
        rintro e w2 ⟨s, R2, rfl, s1, s2, ho, hb2⟩
        refine hK _ _ (fun h => Bool.noConfusion (Eq.trans (Eq.symm (by kernel_rfl : _ = false)) h)) (fun _ => (hkZ.step hb2)) ?_
        clear hK K
        have w2r := (hb2.block (B + 2) zl).trans zz
        obtain ⟨q0, q1, q2⟩ := DB.of w2r
        have qf0 := free_block w2r 0
        have qf1 := free_block w2r 1
        clear w2r zz
        refine wpOrd_doR (fun K hK => ?_)
        go_simp
        refine hK _ _ (fun h => Bool.noConfusion (Eq.trans (Eq.symm (by kernel_rfl : _ = false)) h)) (fun h => Bool.noConfusion (Eq.trans (Eq.symm (by kernel_rfl : _ = false)) h)) ?_
        clear hK K
        refine wpOrd_nil ?_
        have hkk := ((hkZ.step hb2).set 0 (.float .f64 s)).set 1 (.slice (some ⟨R2, 0, none⟩) n n)
        have HB := Lib.hid (hkk.below x5 (by omega) (by omega))
        obtain ⟨e0, e1⟩ := set2_ok (x := .float .f64 s) (y := .slice (some ⟨R2, 0, none⟩) n n) q0 q1
        have hR2 : B + 3 ≤ R2 := by have := ho.lt; have := hkZ.size; omega
        have ho' := (ho.other (B := B + 2) (o := 0) (by omega) (.float .f64 s)).other (B := B + 2) (o := 1) (by omega) (.slice (some ⟨R2, 0, none⟩) n n)
        have HO := Lib.hid (ho'.flts (by omega))
        have S1 := Lib.hid s1
        clear ho ho' hb2 hkk s1
        generalize (w2.setCell ⟨B + 2, 0, none⟩ (.float .f64 s)).setCell ⟨B + 2, 1, none⟩ (.slice (some ⟨R2, 0, none⟩) n n) = W5 at *
        go_wp2_with fail
        refine bodyPost_ret (v := .agg #[.float .f64 s, .slice (some ⟨R2, 0, none⟩) n n]) (by simp [results, Try.results96, go_sem, e0, e1]) rfl ⟨s, _, rfl, ?_, s2, HO.out.congr (fun j _ => ?_), fun h => ?_, by rw [hB]; exact HB.out⟩
        · rw [S1.out, ← cop_canon_left, ← cop_canon_right, YZ.out.1, YZ.out.2]; rfl
        · rfl
        · simp only [Value.ownBlock, Option.some.injEq] at h
          omega
      · go_wp2_with fail
        refine wp_region_ordR [(0, 1), (1, 3), (2, 1), (3, 1), (4, 3), (5, 1), (6, 3), (7, 1), (8, 1), (9, 3), (10, 1), (11, 3), (12, 0), (13, 0)] (Keep X (B + 2)) (by kernel_rfl) (by kernel_rfl) (fun _ _ d _ _ h => by cases d <;> exact h) ((Keep.refl X (B + 2)).drew) ?_
        intro Z hZ hkZ
        have zz := (congrArg (fun W => W.heap[B + 2]?) hZ).trans HX.out
        have zl := lt_block zz
        clear hZ
        iterate 1
          first
            | refine wpOrd_pure (fun K hK => ?_)
            | refine wpOrd_take (fun K hK => ?_)
          go_simp
          refine hK _ ?_
          clear hK K
        refine wpOrd_keep (v := .func (.func 92) #[] #[.pointer (some ⟨Kd, 0, none⟩), .pointer (some ⟨N, 0, none⟩)]) rfl rfl (fun wk hwk => ?_) ?_
        · rw [← hwk.cell gl (by omega)] at g3
          go_simp
        iterate 2
          first
            | refine wpOrd_pure (fun K hK => ?_)
            | refine wpOrd_take (fun K hK => ?_)
          go_simp
          refine hK _ ?_
          clear hK K
        refine wpOrd_keep (v := .int .i64 A) rfl rfl (fun wk hwk => ?_) ?_
        · rw [← hwk.cell pl (by omega)] at p1
          go_simp
        iterate 1
          first
            | refine wpOrd_pure (fun K hK => ?_)
            | refine wpOrd_take (fun K hK => ?_)
          go_simp
          refine hK _ ?_
          clear hK K
        refine wpOrd_keep (v := .agg #[.float .f64 y, .slice p n l]) rfl rfl (fun wk hwk => ?_) ?_
        · rw [← hwk.cell hRX (by omega)] at y1 u1
          go_simp
        iterate 2
          first
            | refine wpOrd_pure (fun K hK => ?_)
            | refine wpOrd_take (fun K hK => ?_)
          go_simp
          refine hK _ ?_
          clear hK K
        refine wpOrd_keep (v := .int .i64 A2) rfl rfl (fun wk hwk => ?_) ?_
        · rw [← hwk.cell pl (by omega)] at p2
          go_simp
        iterate 1
          first
            | refine wpOrd_pure (fun K hK => ?_)
            | refine wpOrd_take (fun K hK => ?_)
          go_simp
          refine hK _ ?_
          clear hK K
        refine wpOrd_keep (v := .agg #[.float .f64 z, .slice p' n l']) rfl rfl (fun wk hwk => ?_) ?_
        · rw [← hwk.cell hRX (by omega)] at z1 v1
          go_simp
        refine wpOrd_doR (fun K hK => ?_)
        go_simp
        refine (du4_tells n Kd N y z _ _ (d A) (d A2) hn Z (hkX.keep hkZ (by omega)) (hNX.keep hkZ (by omega)) (U2.out Z hkZ) (V2.out Z hkZ)).mono ?_
        rintro e w2 ⟨s, R2, rfl, s1, s2, ho, hb2⟩
        refine hK _ _ (fun h => Bool.noConfusion (Eq.trans (Eq.symm (by kernel_rfl : _ = false)) h)) (fun _ => (hkZ.step hb2)) ?_
        clear hK K
        have w2r := (hb2.block (B + 2) zl).trans zz
        obtain ⟨q0, q1, q2⟩ := DB.of w2r
        have qf0 := free_block w2r 0
        have qf1 := free_block w2r 1
        clear w2r zz
        refine wpOrd_doR (fun K hK => ?_)
        go_simp
        refine hK _ _ (fun h => Bool.noConfusion (Eq.trans (Eq.symm (by kernel_rfl : _ = false)) h)) (fun h => Bool.noConfusion (Eq.trans (Eq.symm (by kernel_rfl : _ = false)) h)) ?_
        clear hK K
        refine wpOrd_nil ?_
        have hkk := ((hkZ.step hb2).set 0 (.float .f64 s)).set 1 (.slice (some ⟨R2, 0, none⟩) n n)
        have HB := Lib.hid (hkk.below x5 (by omega) (by omega))
        obtain ⟨e0, e1⟩ := set2_ok (x := .float .f64 s) (y := .slice (some ⟨R2, 0, none⟩) n n) q0 q1
        have hR2 : B + 3 ≤ R2 := by have := ho.lt; have := hkZ.size; omega
        have ho' := (ho.other (B := B + 2) (o := 0) (by omega) (.float .f64 s)).other (B := B + 2) (o := 1) (by omega) (.slice (some ⟨R2, 0, none⟩) n n)
        have HO := Lib.hid (ho'.flts (by omega))
        have S1 := Lib.hid s1
        clear ho ho' hb2 hkk s1
        generalize (w2.setCell ⟨B + 2, 0, none⟩ (.float .f64 s)).setCell ⟨B + 2, 1, none⟩ (.slice (some ⟨R2, 0, none⟩) n n) = W5 at *
        go_wp2_with fail
        refine bodyPost_ret (v := .agg #[.float .f64 s, .slice (some ⟨R2, 0, none⟩) n n]) (by simp [results, Try.results96, go_sem, e0, e1]) rfl ⟨s, _, rfl, ?_, s2, HO.out.congr (fun j _ => ?_), fun h => ?_, by rw [hB]; exact HB.out⟩
        · rw [S1.out, ← cop_canon_left, ← cop_canon_right, YZ.out.1, YZ.out.2]; rfl
        · simp only [YZ.out.1, YZ.out.2]; rfl
        · simp only [Value.ownBlock, Option.some.injEq] at h
          omega
      · go_wp2_with fail
        refine wp_region_ordR [(0, 1), (1, 3), (2, 1), (3, 1), (4, 3), (5, 1), (6, 3), (7, 1), (8, 1), (9, 3), (10, 1), (11, 3), (12, 0), (13, 0)] (Keep X (B + 2)) (by kernel_rfl) (by kernel_rfl) (fun _ _ d _ _ h => by cases d <;> exact h) ((Keep.refl X (B + 2)).drew) ?_
        intro Z hZ hkZ
        have zz := (congrArg (fun W => W.heap[B + 2]?) hZ).trans HX.out
        have zl := lt_block zz
        clear hZ
        iterate 1
          first
            | refine wpOrd_pure (fun K hK => ?_)
            | refine wpOrd_take (fun K hK => ?_)
          go_simp
          refine hK _ ?_
          clear hK K
        refine wpOrd_keep (v := .func (.func 94) #[] #[.pointer (some ⟨Kd, 0, none⟩), .pointer (some ⟨N, 0, none⟩)]) rfl rfl (fun wk hwk => ?_) ?_
        · rw [← hwk.cell gl (by omega)] at g4
          go_simp
        iterate 2
          first
            | refine wpOrd_pure (fun K hK => ?_)
            | refine wpOrd_take (fun K hK => ?_)
          go_simp
          refine hK _ ?_
          clear hK K
        refine wpOrd_keep (v := .int .i64 A) rfl rfl (fun wk hwk => ?_) ?_
        · rw [← hwk.cell pl (by omega)] at p1
          go_simp
        iterate 1
          first
            | refine wpOrd_pure (fun K hK => ?_)
            | refine wpOrd_take (fun K hK => ?_)
          go_simp
          refine hK _ ?_
          clear hK K
        refine wpOrd_keep (v := .agg #[.float .f64 y, .slice p n l]) rfl rfl (fun wk hwk => ?_) ?_
        · rw [← hwk.cell hRX (by omega)] at y1 u1
          go_simp
        iterate 2
          first
            | refine wpOrd_pure (fun K hK => ?_)
            | refine wpOrd_take (fun K hK => ?_)
          go_simp
          refine hK _ ?_
          clear hK K
        refine wpOrd_keep (v := .int .i64 A2) rfl rfl (fun wk hwk => ?_) ?_
        · rw [← hwk.cell pl (by omega)] at p2
          go_simp
        iterate 1
          first
            | refine wpOrd_pure (fun K hK => ?_)
            | refine wpOrd_take (fun K hK => ?_)
          go_simp
          refine hK _ ?_
          clear hK K
        refine wpOrd_keep (v := .agg #[.float .f64 z, .slice p' n l']) rfl rfl (fun wk hwk => ?_) ?_
        · rw [← hwk.cell hRX (by omega)] at z1 v1
          go_simp
        refine wpOrd_doR (fun K hK => ?_)
        go_simp
        refine (du5_tells n Kd N y z _ _ (d A) (d A2) hn Z (hkX.keep hkZ (by omega)) (hNX.keep hkZ (by omega)) (U2.out Z hkZ) (V2.out Z hkZ)).mono ?_
        rintro e w2 ⟨s, R2, rfl, s1, s2, ho, hb2⟩
        refine hK _ _ (fun h => Bool.noConfusion (Eq.trans (Eq.symm (by kernel_rfl : _ = false)) h)) (fun _ => (hkZ.step hb2)) ?_
        clear hK K
        have w2r := (hb2.block (B + 2) zl).trans zz
        obtain ⟨q0, q1, q2⟩ := DB.of w2r
        have qf0 := free_block w2r 0
        have qf1 := free_block w2r 1
        clear w2r zz
        refine wpOrd_doR (fun K hK => ?_)
        go_simp
        refine hK _ _ (fun h => Bool.noConfusion (Eq.trans (Eq.symm (by kernel_rfl : _ = false)) h)) (fun h => Bool.noConfusion (Eq.trans (Eq.symm (by kernel_rfl : _ = false)) h)) ?_
        clear hK K
        refine wpOrd_nil ?_
        have hkk := ((hkZ.step hb2).set 0 (.float .f64 s)).set 1 (.slice (some ⟨R2, 0, none⟩) n n)
        have HB := Lib.hid (hkk.below x5 (by omega) (by omega))
        obtain ⟨e0, e1⟩ := set2_ok (x := .float .f64 s) (y := .slice (some ⟨R2, 0, none⟩) n n) q0 q1
        have hR2 : B + 3 ≤ R2 := by have := ho.lt; have := hkZ.size; omega
        have ho' := (ho.other (B := B + 2) (o := 0) (by omega) (.float .f64 s)).other (B := B + 2) (o := 1) (by omega) (.slice (some ⟨R2, 0, none⟩) n n)
        have HO := Lib.hid (ho'.flts (by omega))
        have S1 := Lib.hid s1
        clear ho ho' hb2 hkk s1
        generalize (w2.setCell ⟨B + 2, 0, none⟩ (.float .f64 s)).setCell ⟨B + 2, 1, none⟩ (.slice (some ⟨R2, 0, none⟩) n n) = W5 at *
        go_wp2_with fail
        refine bodyPost_ret (v := .agg #[.float .f64 s, .slice (some ⟨R2, 0, none⟩) n n]) (by simp [results, Try.results96, go_sem, e0, e1]) rfl ⟨s, _, rfl, ?_, s2, HO.out.congr (fun j _ => ?_), fun h => ?_, by rw [hB]; exact HB.out⟩
        · rw [S1.out, ← cop_canon_left, ← cop_canon_right, YZ.out.1, YZ.out.2]; rfl
        · simp only [YZ.out.2]; rw [← cop_canon_left .quo y, ← cop_canon_right .quo _ z, YZ.out.1, YZ.out.2]; rfl
        · simp only [Value.ownBlock, Option.some.injEq] at h
          omega
end Go.Proofs.Ytnlbafjmbamoeaa
