/-
  What a step adds: one try, all tries, as the program makes them.
-/
import Derived.Test.YtnlbafjmbamoeaaCt
namespace Go.Proofs.Ytnlbafjmbamoeaa
open Go.RowKit
open Ieee (double)
attribute [local go_sem] alloc_drewN setCell_drewN call_bits call_frombits ord_lt ord_eq ord_gt ord_ne ord_le ord_ge eqB_self run_fadd run_fsub run_fmul run_fquo haStoreFlt takeOp pureOp readsUpon doOp run_store_fn run_store_fc

theorem leB_canon (x y : Nat) : leB (canon x) (canon y) = leB x y := by rw [← ord_le, ← ord_le, ltB_canon, eqB_canon]
/-- What a try leads to, and how far that is. -/
def NextT (n : Nat) (g : Nat → Nat) (far : Nat) (w : World) (e : Ending) (w' : World) : Prop :=
  ∃ R y, e = .returned (.tuple #[.slice (some ⟨R, 0, none⟩) n n, .float .f64 y]) ∧ OwnF w' w.heap.size R n n g ∧ canon y = far ∧ y < 18446744073709551616 ∧ Below w.heap.size w w'
/-- A try by Adams. -/
def adamsF (T : TD) (z0 z1 wt : Nat → Nat) (l0 h n : Nat) (d : Nat → Nat) : (Nat → Nat) × Nat := (slopeF T z0 z1 l0 h d, worstF (byW (fun i => cop .sub (slopeF T z0 z1 l0 h d i) (d i)) wt) n)
/-- A try by Bdf: by rows that are parted. -/
def bdfF (T : TD) (z0 z1 wt : Nat → Nat) (l0 h n : Nat) (g : Nat → Nat → Nat) (q : Nat → Nat) (d : Nat → Nat) : (Nat → Nat) × Nat :=
  let x := solveF g n (fun i => (fun i => cop .sub (slopeF T z0 z1 l0 h d i) (d i)) (q i))
  (fun i => cop .add (d i) (x i), worstF (byW x wt) n)
set_option maxRecDepth 100000 in
set_option maxHeartbeats 4000000 in
theorem adams_tells (n : Nat) (T : TD) (vo vu vz vl vw vd p1 p2 : Value) (m : Nat) (z : Nat → Nat → Nat) (l wt d : Nat → Nat) (h b : Nat) (w : World) (hx : CtxAt w n T vo vu vz vl vw m z l wt) (hw : WK b n vo vu vz vl vw h p1 p2 w) (hd : FRow w vd n d)
    (hck : checkB T = true) (hcs : ∀ i, i < T.len → (T.op i).c < 18446744073709551616) (hn : T.n = n) (h1 : 1 ≤ n) (h4 : n ≤ 4) (hm : 2 ≤ m) :
    Calls Try.prog 21 #[.pointer (some ⟨b, 0, none⟩), vd] w (NextT n (adamsF T (z 0) (z 1) wt (l 0) h n d).1 (adamsF T (z 0) (z 1) wt (l 0) h n d).2 w) := by
  unfold adamsF
  have SL := Lib.hid (slope_tells n T vo vu vz vl vw vd p1 p2 m z l wt d h b w hx hw hd hck hcs hn h1 h4 hm)
  have HX := Lib.hid hx
  have HW := Lib.hid hw
  have HD := Lib.hid hd
  obtain ⟨bd, od, cd, rfl, -, -⟩ := hd.numAt (by omega)
  clear hx hw hck hcs hd
  go_enter Try.func21, Try.ntmps21
  go_wp2_with fail
  refine SL.out.mono ?_
  rintro e w1 ⟨R, rfl, hg, hb1⟩
  have HG := Lib.hid hg
  have HB1 := Lib.hid hb1
  obtain ⟨w0, w1', w2', w3, w4, w5, w6, w7, w8, w9⟩ := (HW.out.below hb1).cells
  clear hg hb1 w0 w1' w2' w3 w4 w6 w7 w8 SL
  go_wp2_with fail
  refine wp_region_ordR [(0, 1), (1, 1), (2, 1), (4, 1), (5, 1), (6, 1), (7, 3), (3, 0), (8, 0), (9, 1), (10, 1)] (fun W => Below w1.heap.size w1 W) (by kernel_rfl) (by kernel_rfl) (fun _ _ d _ _ h => by cases d <;> exact h) ((Below.refl _ _).drew) ?_
  intro Z hZ hbZ
  clear hZ
  iterate 6
    first
      | refine wpOrd_pure (fun K hK => ?_)
      | refine wpOrd_take (fun K hK => ?_)
    go_simp
    refine hK _ ?_
    clear hK K
  refine wpOrd_keep (v := vw) rfl rfl (fun wk hwk => ?_) ?_
  · rw [← (haCell hwk).1 _ _ w9] at w5
    go_simp
  refine wpOrd_doR (fun K hK => ?_)
  go_simp
  refine (less_tells _ _ n (by omega) (slopeF T (z 0) (z 1) (l 0) h d) d Z ((HG.out.below hbZ HG.out.lt.2).flts (by omega)) ((HD.out.below HB1.out).below hbZ)).mono ?_
  rintro e w2 ⟨R2, rfl, hg2, hb2⟩
  have hbA := hbZ.trans (hb2.mono hbZ.size)
  refine hK _ _ (fun h => Bool.noConfusion (Eq.trans (Eq.symm (by kernel_rfl : _ = false)) h)) (fun _ => hbA) ?_
  clear hK K
  refine wpOrd_doR (fun K hK => ?_)
  go_simp
  refine (size_tells _ _ n (fun i => cop .sub (slopeF T (z 0) (z 1) (l 0) h d i) (d i)) wt w2 (hg2.flts (by omega)) ((HX.out.wrow.below HB1.out).below hbA)).mono ?_
  rintro e w3 ⟨⟨y, rfl, y1, y2⟩, hb3⟩
  have hbB := hbA.trans (hb3.mono hbA.size)
  refine hK _ _ (fun h => Bool.noConfusion (Eq.trans (Eq.symm (by kernel_rfl : _ = false)) h)) (fun _ => hbB) ?_
  clear hK K
  iterate 2
    first
      | refine wpOrd_pure (fun K hK => ?_)
      | refine wpOrd_take (fun K hK => ?_)
    go_simp
    refine hK _ ?_
    clear hK K
  refine wpOrd_nil ?_
  have HR := Lib.hid (show OwnF w3 w.heap.size R n n _ ∧ Below w.heap.size w w3 from ⟨HG.out.below hbB HG.out.lt.2, HB1.out.trans (hbB.mono HB1.out.size)⟩)
  clear hbZ hg2 hb2 hbA hb3 hbB w5
  go_wp2_with fail
  go_ret2
  exact ⟨R, y, rfl, HR.out.1, y1, y2, HR.out.2⟩
set_option maxRecDepth 100000 in
set_option maxHeartbeats 4000000 in
theorem bdf_tells (n : Nat) (T : TD) (vo vu vz vl vw vd p1 p2 : Value) (m : Nat) (z : Nat → Nat → Nat) (l wt d : Nat → Nat) (h b : Nat) (g : Nat → Nat → Nat) (q : Nat → Nat) (w : World) (hx : CtxAt w n T vo vu vz vl vw m z l wt) (hw : WK b n vo vu vz vl vw h p1 p2 w) (hd : FRow w vd n d)
    (hp1 : TabR w p1 n (fun _ => n) g) (hp2 : Ints0 w p2 n (fun i => (q i : Int))) (hq : ∀ i, i < n → q i < n)
    (hck : checkB T = true) (hcs : ∀ i, i < T.len → (T.op i).c < 18446744073709551616) (hn : T.n = n) (h1 : 1 ≤ n) (h4 : n ≤ 4) (hm : 2 ≤ m) :
    Calls Try.prog 23 #[.pointer (some ⟨b, 0, none⟩), vd] w (NextT n (bdfF T (z 0) (z 1) wt (l 0) h n g q d).1 (bdfF T (z 0) (z 1) wt (l 0) h n g q d).2 w) := by
  unfold bdfF
  have SL := Lib.hid (fun W (hb : Below w.heap.size w W) => slope_tells n T vo vu vz vl vw vd p1 p2 m z l wt d h b W (hx.below hb) (hw.below hb) (hd.below hb) hck hcs hn h1 h4 hm)
  have SV := Lib.hid (fun W (vb : Value) (bb : Nat → Nat) (hb : Below w.heap.size w W) hB => solve_tells n p1 p2 vb g q bb W (hp1.below hb) (hp2.below hb) hB hq h1 (by omega))
  have HX := Lib.hid hx
  have HW := Lib.hid hw
  have HD := Lib.hid hd
  obtain ⟨bd, od, cd, rfl, hbd, hdr⟩ := hd.numAt (by omega)
  obtain ⟨pa1, pc1, rfl, -, -⟩ := hp1
  obtain ⟨pa2, pc2, rfl, -, -⟩ := hp2
  have HDR := Lib.hid hdr
  obtain ⟨iF, hF, f1, f2, f3⟩ := info_parts infoF
  have HF := Lib.hid (show iF.zero = _ ∧ iF.size = _ ∧ iF.bytes = _ from ⟨f1, f2, f3⟩)
  have HF0 := Lib.hid hF
  obtain ⟨w0, w1', w2', w3, w4, w5, w6, w7, w8, w9⟩ := hw.cells
  clear hx hw hck hcs hd hdr hq hF f1 f2 f3 w0 w1' w2' w3 w4 w5 w6
  go_enter Try.func23, Try.ntmps23
  go_wp2_with fail
  refine wp_region_ordR [(0, 1), (1, 1), (2, 1), (3, 3), (4, 1), (5, 1), (7, 1), (6, 0), (8, 0), (9, 0), (10, 1)] (fun W => Below w.heap.size w W) (by kernel_rfl) (by kernel_rfl) (fun _ _ d _ _ h => by cases d <;> exact h) ((Below.refl _ _).drew) ?_
  intro Z hZ hbZ
  clear hZ
  iterate 3
    first
      | refine wpOrd_pure (fun K hK => ?_)
      | refine wpOrd_take (fun K hK => ?_)
    go_simp
    refine hK _ ?_
    clear hK K
  refine wpOrd_keep (v := .agg #[.slice pa1 n pc1, .slice pa2 n pc2]) rfl rfl (fun wk hwk => ?_) ?_
  · rw [← (haCell hwk).1 _ _ w9] at w7 w8
    go_simp
  iterate 3
    first
      | refine wpOrd_pure (fun K hK => ?_)
      | refine wpOrd_take (fun K hK => ?_)
    go_simp
    refine hK _ ?_
    clear hK K
  refine wpOrd_doR (fun K hK => ?_)
  go_simp
  refine (SL.out Z hbZ).mono ?_
  rintro e w1 ⟨R1, rfl, hg1, hb1⟩
  have hbA := hbZ.trans (hb1.mono hbZ.size)
  refine hK _ _ (fun h => Bool.noConfusion (Eq.trans (Eq.symm (by kernel_rfl : _ = false)) h)) (fun _ => hbA) ?_
  clear hK K
  refine wpOrd_doR (fun K hK => ?_)
  go_simp
  refine (less_tells _ _ n (by omega) (slopeF T (z 0) (z 1) (l 0) h d) d w1 (hg1.flts (by omega)) (HD.out.below hbA)).mono ?_
  rintro e w2 ⟨R2, rfl, hg2, hb2⟩
  have hbB := hbA.trans (hb2.mono hbA.size)
  refine hK _ _ (fun h => Bool.noConfusion (Eq.trans (Eq.symm (by kernel_rfl : _ = false)) h)) (fun _ => hbB) ?_
  clear hK K
  refine wpOrd_doR (fun K hK => ?_)
  go_simp
  refine (SV.out w2 _ (fun i => cop .sub (slopeF T (z 0) (z 1) (l 0) h d i) (d i)) hbB (hg2.flts (by omega))).mono ?_
  rintro e w3 ⟨R3, rfl, hg3, hb3⟩
  have hbC := hbB.trans (hb3.mono hbB.size)
  refine hK _ _ (fun h => Bool.noConfusion (Eq.trans (Eq.symm (by kernel_rfl : _ = false)) h)) (fun _ => hbC) ?_
  clear hK K
  iterate 1
    first
      | refine wpOrd_pure (fun K hK => ?_)
      | refine wpOrd_take (fun K hK => ?_)
    go_simp
    refine hK _ ?_
    clear hK K
  refine wpOrd_nil ?_
  have HG3 := Lib.hid hg3
  have HBC := Lib.hid hbC
  have hs3 := hbC.size
  clear hbZ hg1 hb1 hbA hg2 hb2 hbB hg3 hb3 hbC w7 w8 SL SV
  generalize hxx : solveF g n (fun i => (fun i => cop .sub (slopeF T (z 0) (z 1) (l 0) h d i) (d i)) (q i)) = x at *
  have HXX := Lib.hid hxx
  clear hxx
  go_wp2_with (first
    | (refine wpList_make_full _ rfl _ _ _ rfl w3.heap.size 32 iF (.float .f64 0) 1 Try.underlying31 HF0.out HF.out.1 HF.out.2.1 .i64 .i64 (n : Int) (n : Int) n rfl rfl rfl rfl (by rw [HF.out.2.2]; omega) (by unfold maxLen; omega) (by omega) ?_)
    | fail)
  intro w4 hr1 hg1
  have hb4 : Below w3.heap.size w3 w4 := (Below.refl _ _).grown hg1 (by omega) (fun k hk => by cases hk)
  have HO := Lib.hid (ownF_made hr1)
  have HB4 := Lib.hid hb4
  have hHs := hb4.size
  clear hr1 hg1 hb4
  generalize hHe : w3.heap.size = H at *
  go_upto_region 3 with fail
  go_upto_block 0 with fail
  go_cut [] (fun wx => OwnF wx H H n n (fun i => cop .add (d i) (x i)) ∧ Below H w3 wx)
  case first =>
    go_wp2_with fail
    go_loopw [24] (fun i wr => ∃ (e : Nat) (p : Nat → Nat), e ≤ n ∧ i = .int .i64 e ∧ OwnF wr H H n n p ∧ (∀ k, k < e → p k = cop .add (d k) (x k)) ∧ Below H w3 wr) (fun i _ => n - (intOf i).toNat)
    case atStart => exact ⟨0, _, by omega, rfl, HO.out, fun k hk => by omega, HB4.out⟩
    case round =>
      clear HO HB4
      obtain ⟨e, p, he, rfl, ho, hh, hbl⟩ := hrel
      by_cases hen : e < n
      · obtain ⟨y, y1, y2, y3⟩ := HDR.out e hen
        obtain ⟨u, u1, u2, u3⟩ := HG3.out.cell hen
        rw [← HBC.out.cell (p := ⟨bd, od + e, none⟩) hbd, ← hbl.cell (p := ⟨bd, od + e, none⟩) (by show bd < H; omega)] at y1
        rw [← hbl.cell (p := ⟨R3, e, none⟩) (by have := HG3.out.lt; show R3 < H; omega)] at u1
        obtain ⟨v, v1, -, -⟩ := ho.cell hen
        have r1 := ho.free e
        have K1 := Lib.hid (fun w => (show canon (fval .add w y u) = cop .add (d e) (x e) by rw [canon_fval, ← y2, ← u2, cop_canon_left, cop_canon_right]))
        have HO := Lib.hid ho
        have HH := Lib.hid hh
        have HBL := Lib.hid hbl
        have e1 : (e : Int) < (n : Int) := by omega
        clear y2 u2 ho hh hbl
        go_wp2_with fail
        refine wp_region_ord [(0, 1), (1, 1), (2, 1), (3, 1), (4, 1), (5, 2), (6, 1), (7, 1), (8, 1), (9, 2), (10, 0), (11, 1), (12, 0)] (by kernel_rfl) (by kernel_rfl) (fun _ _ d _ _ h => by cases d <;> exact h) ?_
        intro Z hZ
        have hz : ∀ b o, Z.cell? ⟨b, o, none⟩ = wr.cell? ⟨b, o, none⟩ := fun b o => by rw [hZ]; rfl
        have hz2 : ∀ b o, Z.frozen? ⟨b, o, none⟩ = wr.frozen? ⟨b, o, none⟩ := fun b o => by rw [hZ]; rfl
        have HZ := Lib.hid (show OwnF Z H H n n p ∧ Below H w3 Z by rw [hZ]; exact ⟨HO.out.drew, HBL.out.drew⟩)
        rw [← hz] at y1 u1 v1
        rw [← hz2] at r1
        clear hZ hz hz2 HO HBL
        iterate 10
          first
            | refine wpOrd_pure (fun K hK => ?_)
            | refine wpOrd_take (fun K hK => ?_)
          go_simp
          refine hK _ ?_
          clear hK K
        refine wpOrd_do (fun K hK => ?_)
        go_simp
        refine hK _ _ (fun _ => ⟨_, rfl⟩) ?_
        clear hK K
        iterate 1
          first
            | refine wpOrd_pure (fun K hK => ?_)
            | refine wpOrd_take (fun K hK => ?_)
          go_simp
          refine hK _ ?_
          clear hK K
        refine wpOrd_do (fun K hK => ?_)
        go_simp
        refine hK _ _ (fun h => Bool.noConfusion (Eq.trans (Eq.symm (by kernel_rfl : _ = false)) h)) ?_
        clear hK K
        refine wpOrd_nil ?_
        have REL := Lib.hid (show OwnF _ H H n n (updN p e (cop .add (d e) (x e))) ∧ Below H w3 _ from ⟨(HZ.out.1.set hen (K1.out Z) (fval_lt _ _ _ _)).drewN (ndraw .add y u), below_drewN (HZ.out.2.setCell (p := ⟨H, e, none⟩) (Nat.le_refl _) (.float .f64 (fval .add Z y u))) (ndraw .add y u)⟩)
        go_wp2_with fail
        go_roundw
        case rel => exact ⟨e + 1, _, by omega, by go_num, REL.out.1, fun k hk => by
          by_cases hkd : k = e
          · subst hkd; rw [updN_at]
          · rw [updN_ne _ _ hkd]; exact HH.out k (by omega), REL.out.2⟩
        case measure => simp [intOf]; omega
      · obtain rfl : n = e := by omega
        go_wp2_with fail
        go_meet
        exact ⟨ho.congr hh, hbl⟩
  case rest =>
    clear HO HB4
    obtain ⟨ho, hbl⟩ := hcut
    have hbw : Below w.heap.size w wc := HBC.out.trans (hbl.mono (by omega))
    obtain ⟨w0, w1', w2', w3', w4', w5, w6, w7, w8, w9'⟩ := (HW.out.below hbw).cells
    have HO := Lib.hid ho
    have HBW := Lib.hid hbw
    have SZ := Lib.hid (size_tells (.slice (some ⟨R3, 0, none⟩) n n) vw n x wt wc ((HG3.out.below hbl (by have := HG3.out.lt; omega)).flts (by omega)) (HX.out.wrow.below hbw))
    clear ho hbl hbw w0 w1' w2' w3' w4' w6 w7 w8
    go_wp2_with fail
    refine SZ.out.mono ?_
    rintro e w5' ⟨⟨y, rfl, y1, y2⟩, hb5⟩
    have HR := Lib.hid (show OwnF w5' w.heap.size H n n _ ∧ Below w.heap.size w w5' from ⟨(HO.out.below hb5 HO.out.lt.2).base (by omega), HBW.out.trans (hb5.mono HBW.out.size)⟩)
    clear hb5 w5
    go_wp2_with fail
    go_ret2
    exact ⟨H, y, rfl, by rw [HXX.out]; exact HR.out.1, by rw [HXX.out]; exact y1, y2, HR.out.2⟩
/-- How a search ended. -/
structure SumD where
  d : Nat → Nat
  has : Bool
  tries : Nat
  e : Int
/-- Tries, k of them at most, of four. -/
def seekF (nx : (Nat → Nat) → (Nat → Nat) × Nat) (n : Nat) : Nat → (Nat → Nat) → SumD
  | 0, x => ⟨x, false, 0, 0⟩
  | k + 1, x =>
    if allB n (fun i => finB ((nx x).1 i)) = false then ⟨x, false, 4 - k, 2⟩
    else if leB (nx x).2 4562146422526312448 then ⟨(nx x).1, true, 4 - k, 0⟩
    else if k = 0 then ⟨x, false, 4, 6⟩ else seekF nx n k (nx x).1
/-- What a search tells. -/
def FromT (n : Nat) (S : SumD) (w : World) (e : Ending) (w' : World) : Prop :=
  Below w.heap.size w w' ∧ ((S.has = true ∧ ∃ R, e = .returned (.tuple #[.slice (some ⟨R, 0, none⟩) n n, .int .i64 S.tries, .int .i64 S.e]) ∧ OwnF w' w.heap.size R n n S.d) ∨ (S.has = false ∧ e = .returned (.tuple #[.slice none 0 0, .int .i64 S.tries, .int .i64 S.e])))
set_option maxRecDepth 100000 in
set_option maxHeartbeats 4000000 in
theorem from_tells (n : Nat) (h1 : 1 ≤ n) (h4 : n ≤ 4) (fn : Nat) (vb : Value) (nx : (Nat → Nat) → (Nat → Nat) × Nat) (R0 : Nat) (x0 : Nat → Nat) (w : World) (B0 : Nat) (hx : OwnF w B0 R0 n n x0) (hf : ∀ args W, (callFunc fn args).run Try.prog W = .ok (.enter fn args) W)
    (hc : ∀ R x W, Below w.heap.size w W → FRow W (.slice (some ⟨R, 0, none⟩) n n) n x → Calls Try.prog fn #[vb, .slice (some ⟨R, 0, none⟩) n n] W (NextT n (nx x).1 (nx x).2 W)) :
    Calls Try.prog 25 #[.agg #[.func (.func fn) #[vb] #[], .func (.func 24) #[] #[]], .slice (some ⟨R0, 0, none⟩) n n] w (FromT n (seekF nx n 4 x0) w) := by
  have HC := Lib.hid hc
  have HX := Lib.hid hx
  obtain ⟨S, hS⟩ : ∃ S, S = seekF nx n 4 x0 := ⟨_, rfl⟩
  rw [← hS]
  have hS' := Lib.hid hS
  clear hc hx hS
  have AL := al1 w (.cells #[.func (.func fn) #[vb] #[], .func (.func 24) #[] #[]] 65)
  go_enter Try.func25, Try.ntmps25
  go_upto_region 1 with fail
  generalize hB : w.heap.size = B at *
  generalize w.alloc (.cells #[.func (.func fn) #[vb] #[], .func (.func 24) #[] #[]] 65) = X at *
  obtain ⟨x1, x4, x5⟩ := AL
  have HX1 := Lib.hid x1
  have hxx := HX.out.below (hB ▸ x5) HX.out.lt.2
  clear x1
  go_wp2_with fail
  go_loopw [1, 8] (fun v t wr => ∃ (k R : Nat) (x : Nat → Nat), 1 ≤ k ∧ k ≤ 4 ∧ t = .int .i64 k ∧ v = .slice (some ⟨R, 0, none⟩) n n ∧ OwnF wr 0 R n n x ∧ seekF nx n (5 - k) x = S ∧ wr.heap[B]? = some (.cells #[.func (.func fn) #[vb] #[], .func (.func 24) #[] #[]] 65) ∧ Below B w wr) (fun _ t _ => 5 - (intOf t).toNat)
  case atStart => exact ⟨1, R0, x0, by omega, by omega, rfl, rfl, hxx.base (Nat.zero_le _), hS'.out.symm, HX1.out, x5⟩
  case round =>
    clear hxx hS' HX1
    obtain ⟨k, R, x, hk1, hk4, rfl, rfl, ho, hs, hbx, hbl⟩ := hrel
    obtain ⟨k', hk'⟩ : ∃ k', 5 - k = k' + 1 := ⟨4 - k, by omega⟩
    rw [hk'] at hs
    have hs2 : seekF nx n (k' + 1) x = if allB n (fun i => finB ((nx x).1 i)) = false then ⟨x, false, 4 - k', 2⟩ else if leB (nx x).2 4562146422526312448 then ⟨(nx x).1, true, 4 - k', 0⟩ else if k' = 0 then ⟨x, false, 4, 6⟩ else seekF nx n k' (nx x).1 := rfl
    rw [hs2, show 4 - k' = k by omega] at hs
    have CALL := Lib.hid (HC.out R x wr hbl (ho.flts (by omega)))
    have HS := Lib.hid hs
    have HBL := Lib.hid hbl
    have HBX := Lib.hid hbx
    have b0 := at_block hbx 0
    have bl := lt_block hbx
    simp only [List.getElem?_toArray, List.getElem?_cons_zero] at b0
    have hBs := hbl.size
    clear hs hs2 hbl ho hbx
    go_wp2_with fail
    refine CALL.out.mono ?_
    rintro e w1 ⟨R', y, rfl, hg, y1, y2, hb1⟩
    have HLE := Lib.hid (show leB y 4562146422526312448 = leB (nx x).2 4562146422526312448 by rw [← y1]; exact (leB_canon y 4562146422526312448).symm)
    have b1 := at_block ((hb1.block B bl).trans HBX.out) 1
    simp only [List.getElem?_toArray, List.getElem?_cons_zero, List.getElem?_cons_succ] at b1
    have FN := Lib.hid (allfin_tells (.slice (some ⟨R', 0, none⟩) n n) n (nx x).1 w1 (hg.flts (by omega)))
    have HG := Lib.hid hg
    have hb1' := HBL.out.trans (hb1.mono (by omega))
    have HB1 := Lib.hid hb1'
    have HBX1 := Lib.hid ((hb1.block B bl).trans HBX.out)
    clear hg hb1 hb1' b0 CALL y1
    go_wp2_with fail
    refine FN.out.mono ?_
    rintro e w2 ⟨rfl, hb2⟩
    have hs1 := HB1.out.size
    have HG2 := Lib.hid (HG.out.below hb2 HG.out.lt.2)
    have HB2 := Lib.hid (HB1.out.trans (hb2.mono (by omega)))
    have HBX2 := Lib.hid ((hb2.block B (lt_block HBX1.out)).trans HBX1.out)
    clear hb2 b1 FN
    cases hfin : allB n (fun i => finB ((nx x).1 i)) with
    | false =>
      have hs := HS.out
      rw [hfin, if_pos rfl] at hs
      subst hs
      go_wp2_with fail
      refine bodyPost_ret (v := .tuple #[.slice none 0 0, .int .i64 k, .int .i64 2]) (by simp [results, Try.results25, go_sem]) rfl ⟨by rw [hB]; exact HB2.out, .inr ⟨rfl, rfl⟩⟩
    | true =>
      have hs := HS.out
      rw [hfin, if_neg (by decide)] at hs
      cases hle : leB y 4562146422526312448 with
      | true =>
        rw [← HLE.out, hle, if_pos rfl] at hs
        subst hs
        go_wp2_with fail
        refine bodyPost_ret (v := .tuple #[.slice (some ⟨R', 0, none⟩) n n, .int .i64 k, .int .i64 0]) (by simp [results, Try.results25, go_sem]) rfl ⟨by rw [hB]; exact HB2.out, .inl ⟨rfl, R', rfl, by rw [hB]; exact HG2.out.base (by have := HG2.out.lt; omega)⟩⟩
      | false =>
        rw [← HLE.out, hle, if_neg (by decide)] at hs
        by_cases hk5 : k = 4
        · subst hk5
          rw [if_pos (by omega)] at hs
          subst hs
          go_wp2_with fail
          refine bodyPost_ret (v := .tuple #[.slice none 0 0, .int .i64 4, .int .i64 6]) (by simp [results, Try.results25, go_sem]) rfl ⟨by rw [hB]; exact HB2.out, .inr ⟨rfl, rfl⟩⟩
        · rw [if_neg (by omega)] at hs
          have HS2 := Lib.hid hs
          have hk4' : ((k : Int) == 4) = false := by simp; omega
          clear hs
          go_wp2_with fail
          go_roundw
          case rel => exact ⟨k + 1, R', (nx x).1, by omega, by omega, by go_num, rfl, HG2.out.base (Nat.zero_le _), by rw [show 5 - (k + 1) = k' by omega]; exact HS2.out, HBX2.out, HB2.out⟩
          case measure => simp [intOf]; omega
end Go.Proofs.Ytnlbafjmbamoeaa
