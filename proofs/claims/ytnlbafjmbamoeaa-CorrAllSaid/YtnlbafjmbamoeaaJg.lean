/-
  How a field changes, as the program tells it: what it is run on; clones.
-/
import Derived.Test.YtnlbafjmbamoeaaJf
import Derived.Test.YtnlbafjmbamoeaaCrc
namespace Go.Proofs.Ytnlbafjmbamoeaa
open Go.RowKit
open Ieee (double)
attribute [local go_sem] alloc_drewN setCell_drewN call_bits call_frombits ord_lt ord_eq ord_gt ord_ne ord_le ord_ge eqB_self run_fadd run_fsub run_fmul run_fquo haStoreFlt takeOp pureOp readsUpon doOp run_store_fn

theorem FltsC.row {w : World} {v : Value} {n : Nat} {f : Nat → Nat} (h : FltsC w v n f) : FRow w v n f := h
theorem FRow.flts {w : World} {v : Value} {n : Nat} {f : Nat → Nat} (h : FRow w v n f) : FltsC w v n f := h
theorem KB.of {K : Nat} {t : TypeId} {w : World} (h : w.heap[K]? = some (.cells #[.func (.func 79) #[] #[], .func (.func 80) #[] #[], .func (.func 81) #[] #[], .func (.func 82) #[] #[], .func (.func 83) #[] #[]] t)) : KB K w :=
  ⟨by rw [at_block h]; rfl, by rw [at_block h]; rfl, by rw [at_block h]; rfl, by rw [at_block h]; rfl, by rw [at_block h]; rfl, lt_block h⟩
/-- Append of what is read to a new slice of none. -/
theorem wpList_appF {ops : Array Oper} {rest : List Oper} {o : Oper} {a : Act} {w : World} {Q : Exit → Act → World → Prop} (hg : o.guard = none) (s x : Operand)
    (ho : o.op = .call { callee := .builtin .append, args := #[s, x], argTypes := #[31, 31] })
    (B H n c : Nat) (p : Option Addr) (f : Nat → Nat) (w0 : World) (hs : a.eval s = .slice (some ⟨H, 0, none⟩) 0 0) (hx : a.eval x = .slice p n c)
    (hb : Below B w0 w) (hH : w.heap[H]? = some (.cells #[] 32 (0, 0))) (hB : B ≤ H) (hr : ∀ W c, Below B w0 W → FRow W (.slice p n c) n f) (hn : n ≤ 1000)
    (h : ∀ R cap w', OwnF w' B R n cap f → Below B w0 w' → (∀ k, k < w.heap.size → k ≠ H → w'.heap[k]? = w.heap[k]?) → w.heap.size ≤ w'.heap.size → (R = H ∨ R = w.heap.size) → R < w'.heap.size → wpList Try.prog ops Q rest (a.put o.dst (.slice (some ⟨R, 0, none⟩) n cap)) w') :
    wpList Try.prog ops Q (o :: rest) a w := by
  refine wpList_plain hg fun K hK => ?_
  have k := step_appF (ops := ops) (K := K) (Q := Q) (E := True) hg s x ho B H n c p f w0 hs hx hb hH hB hr hn (fun R cap w' h1 h2 h3 h4 h5 h6 => hK _ _ (h R cap w' h1 h2 h3 h4 h5 h6))
  rwa [if_pos (by simp [Region.wanted, hg])] at k
theorem nil_eq (a : Addr) (n c : Nat) (w : World) : (binOp .eql 31 (.slice (some a) n c) (.slice none 0 0)).run Try.prog w = .ok (.bool false) w := by
  have h : (Op.equal 31 (.slice (some a) n c) (.slice none 0 0)).run Try.prog w = .ok false w := by
    show (Op.equalIn (9999 + 1) 31 _ _).run _ w = _
    generalize 9999 = d
    simp [Op.equalIn, run_underlying Try.underlying31]
  simp [binOp, h]
set_option maxRecDepth 100000 in
set_option maxHeartbeats 1000000 in
theorem clone_tells (p : Option Addr) (n c : Nat) (f : Nat → Nat) (w : World) (hr : FRow w (.slice p n c) n f) (h0 : 0 < n) (hn : n ≤ 1000) :
    Calls Try.prog 78 #[.slice p n c] w fun e w' => ∃ R cap, e = .returned (.slice (some ⟨R, 0, none⟩) n cap) ∧ OwnF w' w.heap.size R n cap f ∧ Below w.heap.size w w' := by
  obtain ⟨b, off, rfl⟩ : ∃ b off, p = some ⟨b, off, none⟩ := by
    obtain ⟨a, c', hv, -, h⟩ := hr
    simp only [Value.slice.injEq] at hv
    obtain ⟨rfl, -, rfl⟩ := hv
    obtain ⟨b, off, rfl, -⟩ := h h0
    exact ⟨b, off, rfl⟩
  have hal := al1 w (.cells #[] 32)
  have HR := Lib.hid (fun W c' (hb : Below w.heap.size w W) => (show FRow W (.slice (some ⟨b, off, none⟩) n c') n f by
    obtain ⟨a, c0, hv, h1, h2⟩ := hr.below hb
    simp only [Value.slice.injEq] at hv
    obtain ⟨rfl, -, rfl⟩ := hv
    exact ⟨_, c', rfl, h1, h2⟩))
  have HA := Lib.hid hal
  clear hal hr
  go_enter Try.func78, Try.ntmps78
  have hne := nil_eq ⟨b, off, none⟩ n c w
  go_wp2_with (first
    | (refine wpList_appF rfl (.tmp 5) (.tmp 6) rfl w.heap.size w.heap.size n c (some ⟨b, off, none⟩) f w rfl rfl HA.out.2.2 HA.out.1 (Nat.le_refl _) (fun W c' hb => HR.out W c' hb) hn ?_)
    | fail)
  intro R cap w' ho hb hk hs hR hl
  clear hk hs hR hl
  go_wp2_with fail
  go_ret
  exact ⟨R, cap, rfl, ho, hb⟩
theorem KB.set {K R : Nat} {w : World} (h : KB K w) (hn : K ≠ R) (o : Nat) (v : Value) : KB K (w.setCell ⟨R, o, none⟩ v) := h.keep ((Keep.refl w R).set o v) hn
theorem CB.set {K R : Nat} {u : Value} {w : World} (h : CB K u w) (hn : K ≠ R) (o : Nat) (v : Value) : CB K u (w.setCell ⟨R, o, none⟩ v) := h.keep ((Keep.refl w R).set o v) hn
set_option maxRecDepth 100000 in
set_option maxHeartbeats 4000000 in
theorem vars_tells (n : Nat) (hn : n ≤ 1000) (vx : Value) (x : Nat → Nat) (w : World) (hx : FRow w vx n x) :
    Calls Try.prog 77 #[kindF, vx] w fun e w' => ∃ R, e = .returned (.slice (some ⟨R, 0, none⟩) n n) ∧ R < w'.heap.size ∧ (∀ v, v < n → DVal w' R v (x v) n (fun k => if k = v then 4607182418800017408 else 0) R) ∧ Below w.heap.size w w' := by
  obtain ⟨xa, xc, rfl, hx1, hx2⟩ := hx
  obtain ⟨iD, hi, hz0, hz1, hz2⟩ := info_parts infoD
  have HI := Lib.hid (show iD.zero = _ ∧ iD.size = _ ∧ iD.bytes = _ from ⟨hz0, hz1, hz2⟩)
  have HI0 := Lib.hid hi
  have HX := Lib.hid hx2
  clear hx2 hz0 hz1 hz2 hi
  have AL := al1 w (.cells #[.func (.func 79) #[] #[], .func (.func 80) #[] #[], .func (.func 81) #[] #[], .func (.func 82) #[] #[], .func (.func 83) #[] #[]] 99)
  unfold kindF
  go_enter Try.func77, Try.ntmps77
  go_upto_region 1 with fail
  generalize hB : w.heap.size = B at *
  generalize w.alloc (.cells #[.func (.func 79) #[] #[], .func (.func 80) #[] #[], .func (.func 81) #[] #[], .func (.func 82) #[] #[], .func (.func 83) #[] #[]] 99) = X at *
  obtain ⟨x1, x4, x5⟩ := AL
  have hkX := KB.of x1
  clear x1
  go_wp2_with (first
    | (refine wpList_make_full _ rfl _ _ _ rfl (B + 1) 117 iD (.agg #[.float .f64 0, .slice none 0 0]) 2 Try.underlying109 HI0.out HI.out.1 HI.out.2.1 .i64 .i64 (n : Int) (n : Int) n rfl rfl rfl rfl (by rw [HI.out.2.2]; omega) (by unfold maxLen; omega) (by omega) ?_)
    | go_in)
  intro w1 hr0 hg0
  have hb1 : Below X.heap.size X w1 := (Below.refl _ X).grown hg0 (by omega) (fun k hk => by cases hk)
  have hk1 := hkX.below hb1
  have hR := (hr0.lt (B + 1) rfl).2
  have hrg : DReg w1 (B + 1) n 0 x n (fun v k => if k = v then 4607182418800017408 else 0) := DReg.made hr0 _ _ _
  have hbw : Below B w w1 := x5.trans (hb1.mono (by omega))
  clear hr0 hg0 hkX hb1 x4 x5
  go_wp2_with fail
  go_loopw [12] (fun i wr => ∃ j : Nat, j ≤ n ∧ i = .int .i64 j ∧ KB B wr ∧ DReg wr (B + 1) n j x n (fun v k => if k = v then 4607182418800017408 else 0) ∧ Below B w wr) (fun i _ => n - (intOf i).toNat)
  case atStart => exact ⟨0, by omega, rfl, hk1, hrg, hbw⟩
  case round =>
    clear hk1 hrg hbw hR
    obtain ⟨j, hj, rfl, hk1, hrg, hbw⟩ := hrel
    by_cases hlt : j < n
    · obtain ⟨b, off, rfl, hbs, hc⟩ := HX.out (by omega)
      obtain ⟨y, y1, y2, y3⟩ := hc j hlt
      have hbs' : b < wr.heap.size := by have := hbw.size; omega
      rw [← hbw.cell (p := ⟨b, off + j, none⟩) hbs] at y1
      have HRG := Lib.hid hrg
      have HBW := Lib.hid hbw
      have HK := Lib.hid hk1
      have hrl := hrg.lt
      have hBs := hbw.size
      have hlt' : (j : Int) < (n : Int) := by omega
      clear hc hrg hbw hk1
      go_upto_region 5 with fail
      obtain ⟨a1, a4, a5⟩ := al1 wr (.cells #[.int .i64 j] 3)
      rw [← a5.cell (p := ⟨b, off + j, none⟩) hbs'] at y1
      have HJ := Lib.hid a1
      have hXs : (wr.alloc (.cells #[.int .i64 j] 3)).heap.size = wr.heap.size + 1 := a4
      clear a1 a4
      have a5' := Lib.hid a5
      clear a5
      have hIs : wr.heap.size < (wr.alloc (.cells #[.int .i64 j] 3)).heap.size := by omega
      have hbs2 : b < (wr.alloc (.cells #[.int .i64 j] 3)).heap.size := by omega
      clear hXs
      generalize hIe : wr.heap.size = I at *
      generalize wr.alloc (.cells #[.int .i64 j] 3) = X2 at *
      have i0 := at_block HJ.out 0
      simp only [List.getElem?_toArray, List.getElem?_cons_zero] at i0
      refine wp_region_ordR [(0, 1), (1, 3), (2, 1), (3, 3), (4, 1), (5, 3), (6, 1), (7, 1), (8, 1), (9, 0), (10, 1), (11, 1), (12, 0)] (fun W => Below X2.heap.size X2 W) (by kernel_rfl) (by kernel_rfl) (fun _ _ d _ _ h => by cases d <;> exact h) ((Below.refl _ _).drew) ?_
      intro Z hZ hbZ
      clear hZ
      iterate 1
        first
          | refine wpOrd_pure (fun K hK => ?_)
          | refine wpOrd_take (fun K hK => ?_)
        go_simp
        refine hK _ ?_
        clear hK K
      refine wpOrd_keep (v := .int .i64 j) rfl rfl (fun wk hwk => ?_) ?_
      · rw [← (haCell hwk).1 _ _ hIs] at i0
        go_simp
      iterate 1
        first
          | refine wpOrd_pure (fun K hK => ?_)
          | refine wpOrd_take (fun K hK => ?_)
        go_simp
        refine hK _ ?_
        clear hK K
      refine wpOrd_keep (v := .int .i64 j) rfl rfl (fun wk hwk => ?_) ?_
      · rw [← (haCell hwk).1 _ _ hIs] at i0
        go_simp
      iterate 1
        first
          | refine wpOrd_pure (fun K hK => ?_)
          | refine wpOrd_take (fun K hK => ?_)
        go_simp
        refine hK _ ?_
        clear hK K
      refine wpOrd_keep (v := .float .f64 y) rfl rfl (fun wk hwk => ?_) ?_
      · rw [← (haCell hwk).1 _ _ hbs2] at y1
        go_simp
      iterate 3
        first
          | refine wpOrd_pure (fun K hK => ?_)
          | refine wpOrd_take (fun K hK => ?_)
        go_simp
        refine hK _ ?_
        clear hK K
      refine wpOrd_doR (fun K hK => ?_)
      go_simp
      have hkZ := (HK.out.below (hIe ▸ a5'.out)).below hbZ
      have hiZ := (CB.of HJ.out).below hbZ
      refine (row_tells 97 #[.pointer (some ⟨I, 0, none⟩), .pointer (some ⟨B, 0, none⟩)] n hn (fun k => if k = j then 4607182418800017408 else 0) _ (fun _ _ => rfl) (fun i W hi hb => var1_tells i j B I W (hkZ.below hb) (hiZ.below hb))).mono ?_
      rintro e w2 ⟨R, rfl, ho, hb2⟩
      refine hK _ _ (fun h => Bool.noConfusion (Eq.trans (Eq.symm (by kernel_rfl : _ = false)) h)) (fun _ => (hbZ.trans (hb2.mono hbZ.size))) ?_
      clear hK K
      iterate 2
        first
          | refine wpOrd_pure (fun K hK => ?_)
          | refine wpOrd_take (fun K hK => ?_)
        go_simp
        refine hK _ ?_
        clear hK K
      have hb3 := (hbZ.trans (hb2.mono hbZ.size))
      have hb4 : Below I wr w2 := a5'.out.trans (hb3.mono (by omega))
      have hrg2 := HRG.out.below (hIe ▸ hb4)
      obtain ⟨v0, s0⟩ := hrg2.ex (j * 2) (by omega)
      obtain ⟨v1, s1⟩ := hrg2.ex (j * 2 + 1) (by omega)
      have f0 := hrg2.free (j * 2)
      have f1 := hrg2.free (j * 2 + 1)
      refine wpOrd_doR (fun K hK => ?_)
      go_simp
      refine hK _ _ (fun h => Bool.noConfusion (Eq.trans (Eq.symm (by kernel_rfl : _ = false)) h)) (fun h => Bool.noConfusion (Eq.trans (Eq.symm (by kernel_rfl : _ = false)) h)) ?_
      clear hK K
      refine wpOrd_nil ?_
      have hne : R ≠ B + 1 := by have := ho.lt; have := hbZ.size; omega
      have REL := Lib.hid (hrg2.set hlt (y := y) y2 y3 (ho.flts (by omega)) (fun e => by simp only [Value.ownBlock, Option.some.injEq] at e; omega))
      have HK2 := Lib.hid ((((hkZ.below hb2).set (show B ≠ B + 1 by omega) (j * 2) (.float .f64 y))).set (show B ≠ B + 1 by omega) (j * 2 + 1) (.slice (some ⟨R, 0, none⟩) n n) : KB B _)
      have HB2 := Lib.hid (((HBW.out.trans (hb4.mono (by omega))).setCell (p := ⟨B + 1, j * 2, none⟩) (by show B ≤ B + 1; omega) (.float .f64 y)).setCell (p := ⟨B + 1, j * 2 + 1, none⟩) (by show B ≤ B + 1; omega) (.slice (some ⟨R, 0, none⟩) n n))
      clear hrg2 hb3 hb4 ho hb2 hkZ hiZ
      go_wp2_with fail
      go_roundw
      case rel => exact ⟨j + 1, by omega, by go_num, HK2.out, REL.out, HB2.out⟩
      case measure => simp [intOf]; omega
    · obtain rfl : j = n := by omega
      go_wp2_with fail
      go_ret
      exact ⟨B + 1, rfl, hrg.lt, hrg.val, by first | exact hbw | (rw [hB]; exact hbw)⟩
end Go.Proofs.Ytnlbafjmbamoeaa
