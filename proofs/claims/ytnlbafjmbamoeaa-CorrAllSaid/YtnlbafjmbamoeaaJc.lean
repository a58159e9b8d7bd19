/-
  Numbers that bear how they change: what two make, as the program makes it.
-/
import Derived.Test.YtnlbafjmbamoeaaJk
namespace Go.Proofs.Ytnlbafjmbamoeaa
open Go.RowKit
open Ieee (double)
attribute [local go_sem] alloc_drewN setCell_drewN call_bits call_frombits ord_lt ord_eq ord_gt ord_ne ord_le ord_ge eqB_self run_fadd run_fsub run_fmul run_fquo haStoreFlt takeOp pureOp readsUpon doOp

/-- Some number, in a row of its own how it changes. -/
def DualT (c : Nat) (f : Nat → Nat) (n : Nat) (w : World) (e : Ending) (w' : World) : Prop :=
  ∃ y R, e = .returned (.agg #[.float .f64 y, .slice (some ⟨R, 0, none⟩) n n]) ∧ canon y = c ∧ y < 18446744073709551616 ∧ OwnF w' w.heap.size R n n f ∧ Below w.heap.size w w'
theorem set2_ok {w : World} {q : Nat} {x y a b : Value} (h0 : w.cell? ⟨q, 0, none⟩ = some a) (h1 : w.cell? ⟨q, 1, none⟩ = some b) :
    ((w.setCell ⟨q, 0, none⟩ x).setCell ⟨q, 1, none⟩ y).cell? ⟨q, 0, none⟩ = some x ∧ ((w.setCell ⟨q, 0, none⟩ x).setCell ⟨q, 1, none⟩ y).cell? ⟨q, 1, none⟩ = some y := by
  refine ⟨?_, ?_⟩ <;> simp [go_sem, h0, h1]
set_option maxRecDepth 100000 in
set_option maxHeartbeats 2000000 in
theorem du1_tells (c n Kd N : Nat) (hc2 : c < 18446744073709551616) (hn : n ≤ 1000) (w : World) (hk : KB Kd w) (hN : CB N (.int .i64 n) w) :
    Calls Try.prog 85 #[.float .f64 c, .pointer (some ⟨Kd, 0, none⟩), .pointer (some ⟨N, 0, none⟩)] w (DualT (canon c) (fun _ => 0) n w) := by
  have AL := al1 w (.cells #[.float .f64 0, .slice none 0 0] 117)
  go_enter Try.func85, Try.ntmps85
  go_upto_region 1 with fail
  generalize hB : w.heap.size = B at *
  generalize w.alloc (.cells #[.float .f64 0, .slice none 0 0] 117) = X at *
  obtain ⟨x1, x4, x5⟩ := AL
  have hkX := hk.below (hB ▸ x5)
  have hNX := hN.below (hB ▸ x5)
  have hKl : Kd < B := by rw [← hB]; exact hk.2.2.2.2.2
  have hNl : N < B := by rw [← hB]; exact hN.2
  have HX := Lib.hid x1
  obtain ⟨k0, k1, k2, k3, k4, k5⟩ := id hkX
  obtain ⟨n0, n1⟩ := id hNX
  clear x1
  refine wp_region_ordR [(0, 1), (1, 3), (2, 1), (4, 3), (5, 1), (3, 0), (6, 0), (7, 1), (8, 0)] (Keep X B) (by kernel_rfl) (by kernel_rfl) (fun _ _ d _ _ h => by cases d <;> exact h) ((Keep.refl X B).drew) ?_
  intro Z hZ hkZ
  have z1 : Z.heap[B]? = some (.cells #[.float .f64 0, .slice none 0 0] 117) := by rw [hZ]; exact HX.out
  have zl := lt_block z1
  clear hZ
  iterate 1
    first
      | refine wpOrd_pure (fun K hK => ?_)
      | refine wpOrd_take (fun K hK => ?_)
    go_simp
    refine hK _ ?_
    clear hK K
  refine wpOrd_keep (v := .func (.func 79) #[] #[]) rfl rfl (fun wk hwk => ?_) ?_
  · rw [← hwk.cell k5 (by omega)] at k0
    go_simp
  iterate 1
    first
      | refine wpOrd_pure (fun K hK => ?_)
      | refine wpOrd_take (fun K hK => ?_)
    go_simp
    refine hK _ ?_
    clear hK K
  refine wpOrd_keep (v := .int .i64 n) rfl rfl (fun wk hwk => ?_) ?_
  · rw [← hwk.cell n1 (by omega)] at n0
    go_simp
  iterate 1
    first
      | refine wpOrd_pure (fun K hK => ?_)
      | refine wpOrd_take (fun K hK => ?_)
    go_simp
    refine hK _ ?_
    clear hK K
  refine wpOrd_doR (fun K hK => ?_)
  go_simp
  refine (fl1_tells c _).mono ?_
  rintro e w1 ⟨rfl, rfl⟩
  refine hK _ _ (fun h => Bool.noConfusion (Eq.trans (Eq.symm (by kernel_rfl : _ = false)) h)) (fun _ => hkZ) ?_
  clear hK K
  refine wpOrd_doR (fun K hK => ?_)
  go_simp
  refine (row_tells 87 #[.pointer (some ⟨Kd, 0, none⟩)] n hn (fun _ => 0) _ (fun _ _ => rfl) (fun i W hi hb => du11_tells i Kd W ((hkX.keep hkZ (by omega)).below hb))).mono ?_
  rintro e w2 ⟨R, rfl, ho, hb2⟩
  refine hK _ _ (fun h => Bool.noConfusion (Eq.trans (Eq.symm (by kernel_rfl : _ = false)) h)) (fun _ => (hkZ.step hb2)) ?_
  clear hK K
  iterate 1
    first
      | refine wpOrd_pure (fun K hK => ?_)
      | refine wpOrd_take (fun K hK => ?_)
    go_simp
    refine hK _ ?_
    clear hK K
  have w2r := (hb2.block B zl).trans z1
  obtain ⟨q0, q1, q2⟩ := DB.of w2r
  have qf0 := free_block w2r 0
  have qf1 := free_block w2r 1
  clear w2r z1
  refine wpOrd_doR (fun K hK => ?_)
  go_simp
  refine hK _ _ (fun h => Bool.noConfusion (Eq.trans (Eq.symm (by kernel_rfl : _ = false)) h)) (fun h => Bool.noConfusion (Eq.trans (Eq.symm (by kernel_rfl : _ = false)) h)) ?_
  clear hK K
  refine wpOrd_nil ?_
  have HB := Lib.hid (show Below B w ((w2.setCell ⟨B, 0, none⟩ (.float .f64 c)).setCell ⟨B, 1, none⟩ (.slice (some ⟨R, 0, none⟩) n n)) from (((hkZ.step hb2).set 0 _).set 1 _).below x5 (Nat.le_refl _) (by omega))
  obtain ⟨e0, e1⟩ := set2_ok (x := .float .f64 c) (y := .slice (some ⟨R, 0, none⟩) n n) q0 q1
  have ho' := (ho.other (B := B) (o := 0) (by have := ho.lt; omega) (.float .f64 c)).other (B := B) (o := 1) (by have := ho.lt; omega) (.slice (some ⟨R, 0, none⟩) n n)
  have HO := Lib.hid (ho'.base (b' := B) (by have := ho.lt; omega))
  clear ho ho' hb2
  generalize (w2.setCell ⟨B, 0, none⟩ (.float .f64 c)).setCell ⟨B, 1, none⟩ (.slice (some ⟨R, 0, none⟩) n n) = W5 at *
  go_wp2_with fail
  exact bodyPost_ret (v := .agg #[.float .f64 c, .slice (some ⟨R, 0, none⟩) n n]) (by simp [results, Try.results85, go_sem, e0, e1]) rfl ⟨c, R, rfl, rfl, hc2, by rw [hB]; exact HO.out, by rw [hB]; exact HB.out⟩
set_option maxRecDepth 100000 in
set_option maxHeartbeats 2000000 in
theorem du2_tells (n Kd N : Nat) (y z : Nat) (va vb : Value) (f g : Nat → Nat) (hn : n ≤ 1000) (w : World) (hk : KB Kd w) (hN : CB N (.int .i64 n) w) (hf : FRow w va n f) (hg : FRow w vb n g) :
    Calls Try.prog 88 #[.agg #[.float .f64 y, va], .agg #[.float .f64 z, vb], .pointer (some ⟨Kd, 0, none⟩), .pointer (some ⟨N, 0, none⟩)] w (DualT (cop .add y z) (fun i => cop .add (f i) (g i)) n w) := by
  have AL := al3 w (.cells #[.float .f64 y, va] 117) (.cells #[.float .f64 z, vb] 117) (.cells #[.float .f64 0, .slice none 0 0] 117)
  obtain ⟨ua, la, rfl⟩ : ∃ p c, va = .slice p n c := by obtain ⟨p, c, rfl, -⟩ := hf; exact ⟨p, c, rfl⟩
  obtain ⟨ub, lb, rfl⟩ : ∃ p c, vb = .slice p n c := by obtain ⟨p, c, rfl, -⟩ := hg; exact ⟨p, c, rfl⟩
  go_enter Try.func88, Try.ntmps88
  go_upto_region 1 with fail
  have hkl : Kd < w.heap.size := hk.2.2.2.2.2
  have hNl : N < w.heap.size := hN.2
  have hkX := hk.below AL.2.2.2.2
  have hNX := hN.below AL.2.2.2.2
  have HF := Lib.hid (fun (X W : World) (q : Nat) (hX : Below w.heap.size w X) (hq : w.heap.size ≤ q) (hw : Keep X q W) => (FRow.keep hw hX hq hf : FRow W _ n f))
  have HG := Lib.hid (fun (X W : World) (q : Nat) (hX : Below w.heap.size w X) (hq : w.heap.size ≤ q) (hw : Keep X q W) => (FRow.keep hw hX hq hg : FRow W _ n g))
  clear hf hg
  generalize hB : w.heap.size = B at *
  generalize ((w.alloc (.cells #[.float .f64 y, .slice ua n la] 117)).alloc (.cells #[.float .f64 z, .slice ub n lb] 117)).alloc (.cells #[.float .f64 0, .slice none 0 0] 117) = X at *
  obtain ⟨x1, x2, x3, x4, x5⟩ := AL
  have hA := DB.of x1
  have hD := DB.of x2
  have HX := Lib.hid x3
  obtain ⟨k0, k1, k2, k3, k4, k5⟩ := id hkX
  obtain ⟨n0, n1⟩ := id hNX
  obtain ⟨a0, a1, a2⟩ := id hA
  obtain ⟨d0, d1, d2⟩ := id hD
  clear x1 x2 x3
  refine wp_region_ordR [(0, 1), (1, 3), (2, 1), (3, 3), (4, 1), (5, 3), (7, 3), (8, 1), (6, 0), (9, 0), (10, 1), (11, 0)] (Keep X (B + 2)) (by kernel_rfl) (by kernel_rfl) (fun _ _ d _ _ h => by cases d <;> exact h) ((Keep.refl X (B + 2)).drew) ?_
  intro Z hZ hkZ
  have z1 : Z.heap[B + 2]? = some (.cells #[.float .f64 0, .slice none 0 0] 117) := by rw [hZ]; exact HX.out
  have zl := lt_block z1
  clear hZ
  iterate 1
    first
      | refine wpOrd_pure (fun K hK => ?_)
      | refine wpOrd_take (fun K hK => ?_)
    go_simp
    refine hK _ ?_
    clear hK K
  refine wpOrd_keep (v := .func (.func 80) #[] #[]) rfl rfl (fun wk hwk => ?_) ?_
  · rw [← hwk.cell k5 (by omega)] at k1
    go_simp
  iterate 1
    first
      | refine wpOrd_pure (fun K hK => ?_)
      | refine wpOrd_take (fun K hK => ?_)
    go_simp
    refine hK _ ?_
    clear hK K
  refine wpOrd_keep (v := .float .f64 y) rfl rfl (fun wk hwk => ?_) ?_
  · rw [← hwk.cell a2 (by omega)] at a0
    go_simp
  iterate 1
    first
      | refine wpOrd_pure (fun K hK => ?_)
      | refine wpOrd_take (fun K hK => ?_)
    go_simp
    refine hK _ ?_
    clear hK K
  refine wpOrd_keep (v := .float .f64 z) rfl rfl (fun wk hwk => ?_) ?_
  · rw [← hwk.cell d2 (by omega)] at d0
    go_simp
  refine wpOrd_keep (v := .int .i64 n) rfl rfl (fun wk hwk => ?_) ?_
  · rw [← hwk.cell n1 (by omega)] at n0
    go_simp
  iterate 1
    first
      | refine wpOrd_pure (fun K hK => ?_)
      | refine wpOrd_take (fun K hK => ?_)
    go_simp
    refine hK _ ?_
    clear hK K
  refine wpOrd_doR (fun K hK => ?_)
  go_simp
  refine (fl2_tells y z _).mono ?_
  rintro e w1 ⟨s, m, rfl, s1, s2, rfl⟩
  have hk6 := hkZ.drewN m
  refine hK _ _ (fun h => Bool.noConfusion (Eq.trans (Eq.symm (by kernel_rfl : _ = false)) h)) (fun _ => hk6) ?_
  clear hK K
  refine wpOrd_doR (fun K hK => ?_)
  go_simp
  refine (row_tells 89 #[.pointer (some ⟨Kd, 0, none⟩), .pointer (some ⟨B, 0, none⟩), .pointer (some ⟨B + 1, 0, none⟩)] n hn (fun i => cop .add (f i) (g i)) _ (fun _ _ => rfl) (fun i W hi hb => (du21_tells i Kd B (B + 1) n y z _ _ f g W hi ((hkX.keep hk6 (by omega)).below hb) ((hA.keep hk6 (by omega)).below hb) ((hD.keep hk6 (by omega)).below hb) ((HF.out X _ (B + 2) x5 (by omega) hk6).below hb) ((HG.out X _ (B + 2) x5 (by omega) hk6).below hb)))).mono ?_
  rintro e w2 ⟨R, rfl, ho, hb2⟩
  refine hK _ _ (fun h => Bool.noConfusion (Eq.trans (Eq.symm (by kernel_rfl : _ = false)) h)) (fun _ => (hk6.step hb2)) ?_
  clear hK K
  iterate 1
    first
      | refine wpOrd_pure (fun K hK => ?_)
      | refine wpOrd_take (fun K hK => ?_)
    go_simp
    refine hK _ ?_
    clear hK K
  have w2r := (hb2.block (B + 2) zl).trans z1
  obtain ⟨q0, q1, q2⟩ := DB.of w2r
  have qf0 := free_block w2r 0
  have qf1 := free_block w2r 1
  clear w2r z1
  refine wpOrd_doR (fun K hK => ?_)
  go_simp
  refine hK _ _ (fun h => Bool.noConfusion (Eq.trans (Eq.symm (by kernel_rfl : _ = false)) h)) (fun h => Bool.noConfusion (Eq.trans (Eq.symm (by kernel_rfl : _ = false)) h)) ?_
  clear hK K
  refine wpOrd_nil ?_
  have HB := Lib.hid (show Below B w ((w2.setCell ⟨B + 2, 0, none⟩ (.float .f64 s)).setCell ⟨B + 2, 1, none⟩ (.slice (some ⟨R, 0, none⟩) n n)) from (((hk6.step hb2).set 0 _).set 1 _).below x5 (by omega) (by omega))
  obtain ⟨e0, e1⟩ := set2_ok (x := .float .f64 s) (y := .slice (some ⟨R, 0, none⟩) n n) q0 q1
  have hR : B + 3 ≤ R := by have := ho.lt; have := hk6.size; omega
  have ho' := (ho.other (B := B + 2) (o := 0) (by omega) (.float .f64 s)).other (B := B + 2) (o := 1) (by omega) (.slice (some ⟨R, 0, none⟩) n n)
  have HO := Lib.hid (ho'.base (b' := B) (by omega))
  clear ho ho' hb2
  generalize (w2.setCell ⟨B + 2, 0, none⟩ (.float .f64 s)).setCell ⟨B + 2, 1, none⟩ (.slice (some ⟨R, 0, none⟩) n n) = W5 at *
  go_wp2_with fail
  exact bodyPost_ret (v := .agg #[.float .f64 s, .slice (some ⟨R, 0, none⟩) n n]) (by simp [results, Try.results88, go_sem, e0, e1]) rfl ⟨s, R, rfl, s1, s2, by rw [hB]; exact HO.out, by rw [hB]; exact HB.out⟩
set_option maxRecDepth 100000 in
set_option maxHeartbeats 2000000 in
theorem du3_tells (n Kd N : Nat) (y z : Nat) (va vb : Value) (f g : Nat → Nat) (hn : n ≤ 1000) (w : World) (hk : KB Kd w) (hN : CB N (.int .i64 n) w) (hf : FRow w va n f) (hg : FRow w vb n g) :
    Calls Try.prog 90 #[.agg #[.float .f64 y, va], .agg #[.float .f64 z, vb], .pointer (some ⟨Kd, 0, none⟩), .pointer (some ⟨N, 0, none⟩)] w (DualT (cop .sub y z) (fun i => cop .sub (f i) (g i)) n w) := by
  have AL := al3 w (.cells #[.float .f64 y, va] 117) (.cells #[.float .f64 z, vb] 117) (.cells #[.float .f64 0, .slice none 0 0] 117)
  obtain ⟨ua, la, rfl⟩ : ∃ p c, va = .slice p n c := by obtain ⟨p, c, rfl, -⟩ := hf; exact ⟨p, c, rfl⟩
  obtain ⟨ub, lb, rfl⟩ : ∃ p c, vb = .slice p n c := by obtain ⟨p, c, rfl, -⟩ := hg; exact ⟨p, c, rfl⟩
  go_enter Try.func90, Try.ntmps90
  go_upto_region 1 with fail
  have hkl : Kd < w.heap.size := hk.2.2.2.2.2
  have hNl : N < w.heap.size := hN.2
  have hkX := hk.below AL.2.2.2.2
  have hNX := hN.below AL.2.2.2.2
  have HF := Lib.hid (fun (X W : World) (q : Nat) (hX : Below w.heap.size w X) (hq : w.heap.size ≤ q) (hw : Keep X q W) => (FRow.keep hw hX hq hf : FRow W _ n f))
  have HG := Lib.hid (fun (X W : World) (q : Nat) (hX : Below w.heap.size w X) (hq : w.heap.size ≤ q) (hw : Keep X q W) => (FRow.keep hw hX hq hg : FRow W _ n g))
  clear hf hg
  generalize hB : w.heap.size = B at *
  generalize ((w.alloc (.cells #[.float .f64 y, .slice ua n la] 117)).alloc (.cells #[.float .f64 z, .slice ub n lb] 117)).alloc (.cells #[.float .f64 0, .slice none 0 0] 117) = X at *
  obtain ⟨x1, x2, x3, x4, x5⟩ := AL
  have hA := DB.of x1
  have hD := DB.of x2
  have HX := Lib.hid x3
  obtain ⟨k0, k1, k2, k3, k4, k5⟩ := id hkX
  obtain ⟨n0, n1⟩ := id hNX
  obtain ⟨a0, a1, a2⟩ := id hA
  obtain ⟨d0, d1, d2⟩ := id hD
  clear x1 x2 x3
  refine wp_region_ordR [(0, 1), (1, 3), (2, 1), (3, 3), (4, 1), (5, 3), (7, 3), (8, 1), (6, 0), (9, 0), (10, 1), (11, 0)] (Keep X (B + 2)) (by kernel_rfl) (by kernel_rfl) (fun _ _ d _ _ h => by cases d <;> exact h) ((Keep.refl X (B + 2)).drew) ?_
  intro Z hZ hkZ
  have z1 : Z.heap[B + 2]? = some (.cells #[.float .f64 0, .slice none 0 0] 117) := by rw [hZ]; exact HX.out
  have zl := lt_block z1
  clear hZ
  iterate 1
    first
      | refine wpOrd_pure (fun K hK => ?_)
      | refine wpOrd_take (fun K hK => ?_)
    go_simp
    refine hK _ ?_
    clear hK K
  refine wpOrd_keep (v := .func (.func 81) #[] #[]) rfl rfl (fun wk hwk => ?_) ?_
  · rw [← hwk.cell k5 (by omega)] at k2
    go_simp
  iterate 1
    first
      | refine wpOrd_pure (fun K hK => ?_)
      | refine wpOrd_take (fun K hK => ?_)
    go_simp
    refine hK _ ?_
    clear hK K
  refine wpOrd_keep (v := .float .f64 y) rfl rfl (fun wk hwk => ?_) ?_
  · rw [← hwk.cell a2 (by omega)] at a0
    go_simp
  iterate 1
    first
      | refine wpOrd_pure (fun K hK => ?_)
      | refine wpOrd_take (fun K hK => ?_)
    go_simp
    refine hK _ ?_
    clear hK K
  refine wpOrd_keep (v := .float .f64 z) rfl rfl (fun wk hwk => ?_) ?_
  · rw [← hwk.cell d2 (by omega)] at d0
    go_simp
  refine wpOrd_keep (v := .int .i64 n) rfl rfl (fun wk hwk => ?_) ?_
  · rw [← hwk.cell n1 (by omega)] at n0
    go_simp
  iterate 1
    first
      | refine wpOrd_pure (fun K hK => ?_)
      | refine wpOrd_take (fun K hK => ?_)
    go_simp
    refine hK _ ?_
    clear hK K
  refine wpOrd_doR (fun K hK => ?_)
  go_simp
  refine (fl3_tells y z _).mono ?_
  rintro e w1 ⟨s, m, rfl, s1, s2, rfl⟩
  have hk6 := hkZ.drewN m
  refine hK _ _ (fun h => Bool.noConfusion (Eq.trans (Eq.symm (by kernel_rfl : _ = false)) h)) (fun _ => hk6) ?_
  clear hK K
  refine wpOrd_doR (fun K hK => ?_)
  go_simp
  refine (row_tells 91 #[.pointer (some ⟨Kd, 0, none⟩), .pointer (some ⟨B, 0, none⟩), .pointer (some ⟨B + 1, 0, none⟩)] n hn (fun i => cop .sub (f i) (g i)) _ (fun _ _ => rfl) (fun i W hi hb => (du31_tells i Kd B (B + 1) n y z _ _ f g W hi ((hkX.keep hk6 (by omega)).below hb) ((hA.keep hk6 (by omega)).below hb) ((hD.keep hk6 (by omega)).below hb) ((HF.out X _ (B + 2) x5 (by omega) hk6).below hb) ((HG.out X _ (B + 2) x5 (by omega) hk6).below hb)))).mono ?_
  rintro e w2 ⟨R, rfl, ho, hb2⟩
  refine hK _ _ (fun h => Bool.noConfusion (Eq.trans (Eq.symm (by kernel_rfl : _ = false)) h)) (fun _ => (hk6.step hb2)) ?_
  clear hK K
  iterate 1
    first
      | refine wpOrd_pure (fun K hK => ?_)
      | refine wpOrd_take (fun K hK => ?_)
    go_simp
    refine hK _ ?_
    clear hK K
  have w2r := (hb2.block (B + 2) zl).trans z1
  obtain ⟨q0, q1, q2⟩ := DB.of w2r
  have qf0 := free_block w2r 0
  have qf1 := free_block w2r 1
  clear w2r z1
  refine wpOrd_doR (fun K hK => ?_)
  go_simp
  refine hK _ _ (fun h => Bool.noConfusion (Eq.trans (Eq.symm (by kernel_rfl : _ = false)) h)) (fun h => Bool.noConfusion (Eq.trans (Eq.symm (by kernel_rfl : _ = false)) h)) ?_
  clear hK K
  refine wpOrd_nil ?_
  have HB := Lib.hid (show Below B w ((w2.setCell ⟨B + 2, 0, none⟩ (.float .f64 s)).setCell ⟨B + 2, 1, none⟩ (.slice (some ⟨R, 0, none⟩) n n)) from (((hk6.step hb2).set 0 _).set 1 _).below x5 (by omega) (by omega))
  obtain ⟨e0, e1⟩ := set2_ok (x := .float .f64 s) (y := .slice (some ⟨R, 0, none⟩) n n) q0 q1
  have hR : B + 3 ≤ R := by have := ho.lt; have := hk6.size; omega
  have ho' := (ho.other (B := B + 2) (o := 0) (by omega) (.float .f64 s)).other (B := B + 2) (o := 1) (by omega) (.slice (some ⟨R, 0, none⟩) n n)
  have HO := Lib.hid (ho'.base (b' := B) (by omega))
  clear ho ho' hb2
  generalize (w2.setCell ⟨B + 2, 0, none⟩ (.float .f64 s)).setCell ⟨B + 2, 1, none⟩ (.slice (some ⟨R, 0, none⟩) n n) = W5 at *
  go_wp2_with fail
  exact bodyPost_ret (v := .agg #[.float .f64 s, .slice (some ⟨R, 0, none⟩) n n]) (by simp [results, Try.results90, go_sem, e0, e1]) rfl ⟨s, R, rfl, s1, s2, by rw [hB]; exact HO.out, by rw [hB]; exact HB.out⟩
set_option maxRecDepth 100000 in
set_option maxHeartbeats 2000000 in
theorem du4_tells (n Kd N : Nat) (y z : Nat) (va vb : Value) (f g : Nat → Nat) (hn : n ≤ 1000) (w : World) (hk : KB Kd w) (hN : CB N (.int .i64 n) w) (hf : FRow w va n f) (hg : FRow w vb n g) :
    Calls Try.prog 92 #[.agg #[.float .f64 y, va], .agg #[.float .f64 z, vb], .pointer (some ⟨Kd, 0, none⟩), .pointer (some ⟨N, 0, none⟩)] w (DualT (cop .mul y z) (fun i => cop .add (cop .mul (f i) (canon z)) (cop .mul (canon y) (g i))) n w) := by
  have AL := al3 w (.cells #[.float .f64 y, va] 117) (.cells #[.float .f64 z, vb] 117) (.cells #[.float .f64 0, .slice none 0 0] 117)
  obtain ⟨ua, la, rfl⟩ : ∃ p c, va = .slice p n c := by obtain ⟨p, c, rfl, -⟩ := hf; exact ⟨p, c, rfl⟩
  obtain ⟨ub, lb, rfl⟩ : ∃ p c, vb = .slice p n c := by obtain ⟨p, c, rfl, -⟩ := hg; exact ⟨p, c, rfl⟩
  go_enter Try.func92, Try.ntmps92
  go_upto_region 1 with fail
  have hkl : Kd < w.heap.size := hk.2.2.2.2.2
  have hNl : N < w.heap.size := hN.2
  have hkX := hk.below AL.2.2.2.2
  have hNX := hN.below AL.2.2.2.2
  have HF := Lib.hid (fun (X W : World) (q : Nat) (hX : Below w.heap.size w X) (hq : w.heap.size ≤ q) (hw : Keep X q W) => (FRow.keep hw hX hq hf : FRow W _ n f))
  have HG := Lib.hid (fun (X W : World) (q : Nat) (hX : Below w.heap.size w X) (hq : w.heap.size ≤ q) (hw : Keep X q W) => (FRow.keep hw hX hq hg : FRow W _ n g))
  clear hf hg
  generalize hB : w.heap.size = B at *
  generalize ((w.alloc (.cells #[.float .f64 y, .slice ua n la] 117)).alloc (.cells #[.float .f64 z, .slice ub n lb] 117)).alloc (.cells #[.float .f64 0, .slice none 0 0] 117) = X at *
  obtain ⟨x1, x2, x3, x4, x5⟩ := AL
  have hA := DB.of x1
  have hD := DB.of x2
  have HX := Lib.hid x3
  obtain ⟨k0, k1, k2, k3, k4, k5⟩ := id hkX
  obtain ⟨n0, n1⟩ := id hNX
  obtain ⟨a0, a1, a2⟩ := id hA
  obtain ⟨d0, d1, d2⟩ := id hD
  clear x1 x2 x3
  refine wp_region_ordR [(0, 1), (1, 3), (2, 1), (3, 3), (4, 1), (5, 3), (7, 3), (8, 1), (6, 0), (9, 0), (10, 1), (11, 0)] (Keep X (B + 2)) (by kernel_rfl) (by kernel_rfl) (fun _ _ d _ _ h => by cases d <;> exact h) ((Keep.refl X (B + 2)).drew) ?_
  intro Z hZ hkZ
  have z1 : Z.heap[B + 2]? = some (.cells #[.float .f64 0, .slice none 0 0] 117) := by rw [hZ]; exact HX.out
  have zl := lt_block z1
  clear hZ
  iterate 1
    first
      | refine wpOrd_pure (fun K hK => ?_)
      | refine wpOrd_take (fun K hK => ?_)
    go_simp
    refine hK _ ?_
    clear hK K
  refine wpOrd_keep (v := .func (.func 82) #[] #[]) rfl rfl (fun wk hwk => ?_) ?_
  · rw [← hwk.cell k5 (by omega)] at k3
    go_simp
  iterate 1
    first
      | refine wpOrd_pure (fun K hK => ?_)
      | refine wpOrd_take (fun K hK => ?_)
    go_simp
    refine hK _ ?_
    clear hK K
  refine wpOrd_keep (v := .float .f64 y) rfl rfl (fun wk hwk => ?_) ?_
  · rw [← hwk.cell a2 (by omega)] at a0
    go_simp
  iterate 1
    first
      | refine wpOrd_pure (fun K hK => ?_)
      | refine wpOrd_take (fun K hK => ?_)
    go_simp
    refine hK _ ?_
    clear hK K
  refine wpOrd_keep (v := .float .f64 z) rfl rfl (fun wk hwk => ?_) ?_
  · rw [← hwk.cell d2 (by omega)] at d0
    go_simp
  refine wpOrd_keep (v := .int .i64 n) rfl rfl (fun wk hwk => ?_) ?_
  · rw [← hwk.cell n1 (by omega)] at n0
    go_simp
  iterate 1
    first
      | refine wpOrd_pure (fun K hK => ?_)
      | refine wpOrd_take (fun K hK => ?_)
    go_simp
    refine hK _ ?_
    clear hK K
  refine wpOrd_doR (fun K hK => ?_)
  go_simp
  refine (fl4_tells y z _).mono ?_
  rintro e w1 ⟨s, m, rfl, s1, s2, rfl⟩
  have hk6 := hkZ.drewN m
  refine hK _ _ (fun h => Bool.noConfusion (Eq.trans (Eq.symm (by kernel_rfl : _ = false)) h)) (fun _ => hk6) ?_
  clear hK K
  refine wpOrd_doR (fun K hK => ?_)
  go_simp
  refine (row_tells 93 #[.pointer (some ⟨Kd, 0, none⟩), .pointer (some ⟨B, 0, none⟩), .pointer (some ⟨B + 1, 0, none⟩)] n hn (fun i => cop .add (cop .mul (f i) (canon z)) (cop .mul (canon y) (g i))) _ (fun _ _ => rfl) (fun i W hi hb => (du41_tells i Kd B (B + 1) n y z _ _ f g W hi ((hkX.keep hk6 (by omega)).below hb) ((hA.keep hk6 (by omega)).below hb) ((hD.keep hk6 (by omega)).below hb) ((HF.out X _ (B + 2) x5 (by omega) hk6).below hb) ((HG.out X _ (B + 2) x5 (by omega) hk6).below hb)))).mono ?_
  rintro e w2 ⟨R, rfl, ho, hb2⟩
  refine hK _ _ (fun h => Bool.noConfusion (Eq.trans (Eq.symm (by kernel_rfl : _ = false)) h)) (fun _ => (hk6.step hb2)) ?_
  clear hK K
  iterate 1
    first
      | refine wpOrd_pure (fun K hK => ?_)
      | refine wpOrd_take (fun K hK => ?_)
    go_simp
    refine hK _ ?_
    clear hK K
  have w2r := (hb2.block (B + 2) zl).trans z1
  obtain ⟨q0, q1, q2⟩ := DB.of w2r
  have qf0 := free_block w2r 0
  have qf1 := free_block w2r 1
  clear w2r z1
  refine wpOrd_doR (fun K hK => ?_)
  go_simp
  refine hK _ _ (fun h => Bool.noConfusion (Eq.trans (Eq.symm (by kernel_rfl : _ = false)) h)) (fun h => Bool.noConfusion (Eq.trans (Eq.symm (by kernel_rfl : _ = false)) h)) ?_
  clear hK K
  refine wpOrd_nil ?_
  have HB := Lib.hid (show Below B w ((w2.setCell ⟨B + 2, 0, none⟩ (.float .f64 s)).setCell ⟨B + 2, 1, none⟩ (.slice (some ⟨R, 0, none⟩) n n)) from (((hk6.step hb2).set 0 _).set 1 _).below x5 (by omega) (by omega))
  obtain ⟨e0, e1⟩ := set2_ok (x := .float .f64 s) (y := .slice (some ⟨R, 0, none⟩) n n) q0 q1
  have hR : B + 3 ≤ R := by have := ho.lt; have := hk6.size; omega
  have ho' := (ho.other (B := B + 2) (o := 0) (by omega) (.float .f64 s)).other (B := B + 2) (o := 1) (by omega) (.slice (some ⟨R, 0, none⟩) n n)
  have HO := Lib.hid (ho'.base (b' := B) (by omega))
  clear ho ho' hb2
  generalize (w2.setCell ⟨B + 2, 0, none⟩ (.float .f64 s)).setCell ⟨B + 2, 1, none⟩ (.slice (some ⟨R, 0, none⟩) n n) = W5 at *
  go_wp2_with fail
  exact bodyPost_ret (v := .agg #[.float .f64 s, .slice (some ⟨R, 0, none⟩) n n]) (by simp [results, Try.results92, go_sem, e0, e1]) rfl ⟨s, R, rfl, s1, s2, by rw [hB]; exact HO.out, by rw [hB]; exact HB.out⟩
set_option maxRecDepth 100000 in
set_option maxHeartbeats 2000000 in
theorem du5_tells (n Kd N : Nat) (y z : Nat) (va vb : Value) (f g : Nat → Nat) (hn : n ≤ 1000) (w : World) (hk : KB Kd w) (hN : CB N (.int .i64 n) w) (hf : FRow w va n f) (hg : FRow w vb n g) :
    Calls Try.prog 94 #[.agg #[.float .f64 y, va], .agg #[.float .f64 z, vb], .pointer (some ⟨Kd, 0, none⟩), .pointer (some ⟨N, 0, none⟩)] w (DualT (cop .quo y z) (fun i => cop .quo (cop .sub (f i) (cop .mul (cop .quo y z) (g i))) (canon z)) n w) := by
  have AL := al3 w (.cells #[.float .f64 y, va] 117) (.cells #[.float .f64 z, vb] 117) (.cells #[.float .f64 0, .slice none 0 0] 117)
  obtain ⟨ua, la, rfl⟩ : ∃ p c, va = .slice p n c := by obtain ⟨p, c, rfl, -⟩ := hf; exact ⟨p, c, rfl⟩
  obtain ⟨ub, lb, rfl⟩ : ∃ p c, vb = .slice p n c := by obtain ⟨p, c, rfl, -⟩ := hg; exact ⟨p, c, rfl⟩
  go_enter Try.func94, Try.ntmps94
  go_upto_region 1 with fail
  have hkl : Kd < w.heap.size := hk.2.2.2.2.2
  have hNl : N < w.heap.size := hN.2
  have hkX := hk.below AL.2.2.2.2
  have hNX := hN.below AL.2.2.2.2
  have HF := Lib.hid (fun (X W : World) (q : Nat) (hX : Below w.heap.size w X) (hq : w.heap.size ≤ q) (hw : Keep X q W) => (FRow.keep hw hX hq hf : FRow W _ n f))
  have HG := Lib.hid (fun (X W : World) (q : Nat) (hX : Below w.heap.size w X) (hq : w.heap.size ≤ q) (hw : Keep X q W) => (FRow.keep hw hX hq hg : FRow W _ n g))
  clear hf hg
  generalize hB : w.heap.size = B at *
  generalize ((w.alloc (.cells #[.float .f64 y, .slice ua n la] 117)).alloc (.cells #[.float .f64 z, .slice ub n lb] 117)).alloc (.cells #[.float .f64 0, .slice none 0 0] 117) = X at *
  obtain ⟨x1, x2, x3, x4, x5⟩ := AL
  have hA := DB.of x1
  have hD := DB.of x2
  have HX := Lib.hid x3
  obtain ⟨k0, k1, k2, k3, k4, k5⟩ := id hkX
  obtain ⟨n0, n1⟩ := id hNX
  obtain ⟨a0, a1, a2⟩ := id hA
  obtain ⟨d0, d1, d2⟩ := id hD
  clear x1 x2 x3
  go_wp2_with fail
  refine (fl5_tells y z _).mono ?_
  rintro e w1 ⟨s, m, rfl, s1, s2, rfl⟩
  go_upto_region 2 with fail
  obtain ⟨p1, p4, p5⟩ := al1 X (.cells #[.float .f64 s] 32)
  rw [x4] at p1 p4
  have p5' : Below X.heap.size X ((X.alloc (.cells #[.float .f64 s] 32)).drewN m) := below_drewN p5 m
  have p1' : ((X.alloc (.cells #[.float .f64 s] 32)).drewN m).heap[B + 3]? = some (.cells #[.float .f64 s] 32) := p1
  have p4' : ((X.alloc (.cells #[.float .f64 s] 32)).drewN m).heap.size = B + 4 := p4
  clear p1 p4 p5 k0 k1 k2 k3 k4 k5 n0 n1 a0 a1 a2 d0 d1 d2
  have hs : (X.heap.size = B + 3) = True := by rw [x4]; simp
  generalize (X.alloc (.cells #[.float .f64 s] 32)).drewN m = Y at *
  have y5 : Below B w Y := x5.trans (p5'.mono (by omega))
  have HY := Lib.hid ((p5'.block (B + 2) (by omega)).trans HX.out)
  have hQ := CB.of p1'
  have hkY := hkX.below p5'
  have hNY := hNX.below p5'
  have hAY := hA.below p5'
  have hDY := hD.below p5'
  obtain ⟨c0, c1⟩ := id hQ
  obtain ⟨n0, n1⟩ := id hNY
  clear p1' hkX hNX hA hD HX hs p5' x4 x5
  refine wp_region_ordR [(0, 3), (1, 3), (2, 1), (3, 0), (4, 1), (5, 0)] (Keep Y (B + 2)) (by kernel_rfl) (by kernel_rfl) (fun _ _ d _ _ h => by cases d <;> exact h) ((Keep.refl Y (B + 2)).drew) ?_
  intro Z hZ hkZ
  have z1 : Z.heap[B + 2]? = some (.cells #[.float .f64 0, .slice none 0 0] 117) := by rw [hZ]; exact HY.out
  have zl := lt_block z1
  clear hZ
  refine wpOrd_keep (v := .float .f64 s) rfl rfl (fun wk hwk => ?_) ?_
  · rw [← hwk.cell c1 (by omega)] at c0
    go_simp
  refine wpOrd_keep (v := .int .i64 n) rfl rfl (fun wk hwk => ?_) ?_
  · rw [← hwk.cell n1 (by omega)] at n0
    go_simp
  iterate 1
    first
      | refine wpOrd_pure (fun K hK => ?_)
      | refine wpOrd_take (fun K hK => ?_)
    go_simp
    refine hK _ ?_
    clear hK K
  refine wpOrd_doR (fun K hK => ?_)
  go_simp
  refine (row_tells 95 #[.pointer (some ⟨Kd, 0, none⟩), .pointer (some ⟨B, 0, none⟩), .pointer (some ⟨B + 3, 0, none⟩), .pointer (some ⟨B + 1, 0, none⟩)] n hn (fun i => cop .quo (cop .sub (f i) (cop .mul (cop .quo y z) (g i))) (canon z)) _ (fun _ _ => rfl) (fun i W hi hb => s1 ▸ (du51_tells i Kd B (B + 1) (B + 3) n y z s _ _ f g W hi ((hkY.keep hkZ (by omega)).below hb) ((hAY.keep hkZ (by omega)).below hb) ((hDY.keep hkZ (by omega)).below hb) ((hQ.keep hkZ (by omega)).below hb) ((HF.out Y _ (B + 2) y5 (by omega) hkZ).below hb) ((HG.out Y _ (B + 2) y5 (by omega) hkZ).below hb)))).mono ?_
  rintro e w2 ⟨R, rfl, ho, hb2⟩
  refine hK _ _ (fun h => Bool.noConfusion (Eq.trans (Eq.symm (by kernel_rfl : _ = false)) h)) (fun _ => (hkZ.step hb2)) ?_
  clear hK K
  iterate 1
    first
      | refine wpOrd_pure (fun K hK => ?_)
      | refine wpOrd_take (fun K hK => ?_)
    go_simp
    refine hK _ ?_
    clear hK K
  have w2r := (hb2.block (B + 2) zl).trans z1
  obtain ⟨q0, q1, q2⟩ := DB.of w2r
  have qf0 := free_block w2r 0
  have qf1 := free_block w2r 1
  clear w2r z1
  refine wpOrd_doR (fun K hK => ?_)
  go_simp
  refine hK _ _ (fun h => Bool.noConfusion (Eq.trans (Eq.symm (by kernel_rfl : _ = false)) h)) (fun h => Bool.noConfusion (Eq.trans (Eq.symm (by kernel_rfl : _ = false)) h)) ?_
  clear hK K
  refine wpOrd_nil ?_
  have HB := Lib.hid (show Below B w ((w2.setCell ⟨B + 2, 0, none⟩ (.float .f64 s)).setCell ⟨B + 2, 1, none⟩ (.slice (some ⟨R, 0, none⟩) n n)) from (((hkZ.step hb2).set 0 _).set 1 _).below y5 (by omega) (by omega))
  obtain ⟨e0, e1⟩ := set2_ok (x := .float .f64 s) (y := .slice (some ⟨R, 0, none⟩) n n) q0 q1
  have hR : B + 4 ≤ R := by have := ho.lt; have := hkZ.size; omega
  have ho' := (ho.other (B := B + 2) (o := 0) (by omega) (.float .f64 s)).other (B := B + 2) (o := 1) (by omega) (.slice (some ⟨R, 0, none⟩) n n)
  have HO := Lib.hid (ho'.base (b' := B) (by omega))
  clear ho ho' hb2
  generalize (w2.setCell ⟨B + 2, 0, none⟩ (.float .f64 s)).setCell ⟨B + 2, 1, none⟩ (.slice (some ⟨R, 0, none⟩) n n) = W5 at *
  go_wp2_with fail
  exact bodyPost_ret (v := .agg #[.float .f64 s, .slice (some ⟨R, 0, none⟩) n n]) (by simp [results, Try.results94, go_sem, e0, e1]) rfl ⟨s, R, rfl, s1, s2, by rw [hB]; exact HO.out, by rw [hB]; exact HB.out⟩
end Go.Proofs.Ytnlbafjmbamoeaa
