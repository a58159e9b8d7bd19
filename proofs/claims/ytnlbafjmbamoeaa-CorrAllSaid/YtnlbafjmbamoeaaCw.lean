/-
  What a step adds, as the program tells it.
-/
import Derived.Test.YtnlbafjmbamoeaaCv
namespace Go.Proofs.Ytnlbafjmbamoeaa
open Go.RowKit
open Ieee (double)
attribute [local go_sem] alloc_drewN setCell_drewN call_bits call_frombits ord_lt ord_eq ord_gt ord_ne ord_le ord_ge eqB_self run_fadd run_fsub run_fmul run_fquo haStoreFlt takeOp pureOp readsUpon doOp run_store_fn run_store_fc run_store_slice

/-- What a step adds. -/
def corrF (T : TD) (z : Nat → Nat → Nat) (wt : Nat → Nat) (l0 h n : Nat) (bdf : Bool) : SumD :=
  if bdf then match partF (newtF T (z 0) l0 h) n n with
    | none => ⟨fun _ => 0, false, 0, 4⟩
    | some (g, q) => seekF (bdfF T (z 0) (z 1) wt l0 h n g q) n 4 (fun _ => 0)
  else seekF (adamsF T (z 0) (z 1) wt l0 h n) n 4 (fun _ => 0)
theorem slopeF_h (T : TD) (z0 z1 : Nat → Nat) (l0 h : Nat) : slopeF T z0 z1 l0 (canon h) = slopeF T z0 z1 l0 h := by
  funext d i
  unfold slopeF
  rw [cop_canon_left]
theorem adamsF_h (T : TD) (z0 z1 wt : Nat → Nat) (l0 h n : Nat) : adamsF T z0 z1 wt l0 (canon h) n = adamsF T z0 z1 wt l0 h n := by
  funext d
  unfold adamsF
  rw [slopeF_h]
theorem bdfF_h (T : TD) (z0 z1 wt : Nat → Nat) (l0 h n : Nat) (g : Nat → Nat → Nat) (q : Nat → Nat) : bdfF T z0 z1 wt l0 (canon h) n g q = bdfF T z0 z1 wt l0 h n g q := by
  funext d
  unfold bdfF
  rw [slopeF_h]
theorem newtF_h (T : TD) (z0 : Nat → Nat) (l0 h : Nat) : newtF T z0 l0 (canon h) = newtF T z0 l0 h := by
  funext i j
  unfold newtF
  rw [cop_canon_left]
theorem corrF_h (T : TD) (z : Nat → Nat → Nat) (wt : Nat → Nat) (l0 h n : Nat) (bdf : Bool) : corrF T z wt l0 (canon h) n bdf = corrF T z wt l0 h n bdf := by
  unfold corrF
  simp only [newtF_h, bdfF_h, adamsF_h]
/-- What is told of a step: what is added; nothing. -/
def SumT (n : Nat) (S : SumD) (w : World) (e : Ending) (w' : World) : Prop :=
  Below w.heap.size w w' ∧ ((S.has = true ∧ ∃ R, e = .returned (.agg #[.slice (some ⟨R, 0, none⟩) n n, .int .i64 S.tries, .int .i64 S.e]) ∧ OwnF w' w.heap.size R n n S.d) ∨ (S.has = false ∧ e = .returned (.agg #[.slice none 0 0, .int .i64 S.tries, .int .i64 S.e])))
theorem partF_lt {f : Nat → Nat → Nat} {n : Nat} : ∀ {k : Nat} {g : Nat → Nat → Nat} {q : Nat → Nat}, k ≤ n → partF f n k = some (g, q) → ∀ i, i < n → q i < n
  | 0, g, q, _, h, i, hi => by
    simp only [partF, Option.some.injEq, Prod.mk.injEq] at h
    rw [← h.2]; exact hi
  | k + 1, g, q, hk, h, i, hi => by
    rw [partF] at h
    cases e : partF f n k with
    | none => rw [e] at h; cases h
    | some x =>
      obtain ⟨g0, q0⟩ := x
      rw [e] at h
      simp only [] at h
      split at h
      · simp only [Option.some.injEq, Prod.mk.injEq] at h
        have hp := pivF_le g0 k (n - 1 - k)
        rw [← h.2, swp_sg]
        exact partF_lt (by omega) e _ (sg_lt (by omega) (by omega) hi)
      · cases h
theorem CtxAt.keep {X W w : World} {q n : Nat} {T : TD} {vo vu vz vl vw : Value} {m : Nat} {z : Nat → Nat → Nat} {l wt : Nat → Nat} (h : CtxAt w n T vo vu vz vl vw m z l wt) (hk : Keep X q W) (hb : Below w.heap.size w X) (hq : w.heap.size ≤ q) : CtxAt W n T vo vu vz vl vw m z l wt := h.below (hk.below hb hq hb.size)
set_option maxRecDepth 100000 in
set_option maxHeartbeats 4000000 in
theorem corr_adams (n : Nat) (T : TD) (vo vu vz vl vw : Value) (m k : Nat) (z : Nat → Nat → Nat) (l wt : Nat → Nat) (w : World) (hx : CtxAt w n T vo vu vz vl vw m z l wt)
    (hck : checkB T = true) (hcs : ∀ i, i < T.len → (T.op i).c < 18446744073709551616) (hn : T.n = n) (h1 : 1 ≤ n) (h4 : n ≤ 4) (hm : 2 ≤ m) (hk : k < 43) :
    Calls Try.prog 10 #[.agg #[.int .i64 n, vo, vu], vz, vl, .int .i64 ((2 ^ k : Nat) : Int), .int .i64 0, vw] w (SumT n (corrF T z wt (l 0) (lenF ((2 ^ k : Nat) : Int)) n false) w) := by
  obtain ⟨bz, oz, cz, rfl, -, -⟩ := hx.tab.rowAt (by omega)
  obtain ⟨bl, ol, cl, rfl, -, -⟩ := hx.lrow.numAt (by omega)
  obtain ⟨bw, ow, cw, rfl, -, -⟩ := hx.wrow.numAt (by omega)
  have LN := Lib.hid (fun W => length_tells ((2 ^ k : Nat) : Int) W)
  have IS := Lib.hid (fun W => isStep_tells k hk W)
  have HX := Lib.hid hx
  have HCK := Lib.hid hck
  have HCS := Lib.hid hcs
  obtain ⟨iF, hF, f1, f2, f3⟩ := info_parts infoF
  have HF := Lib.hid (show iF.zero = _ ∧ iF.size = _ ∧ iF.bytes = _ from ⟨f1, f2, f3⟩)
  have HF0 := Lib.hid hF
  generalize hL : lenF ((2 ^ k : Nat) : Int) = L at *
  generalize ((2 ^ k : Nat) : Int) = p at *
  clear hx hck hcs hF f1 f2 f3 hk hL
  have AL := al2 w (.cells #[.int .i64 n, vo, vu] 26) (.cells #[.slice none 0 0, .int .i64 0, .int .i64 0] 39)
  go_enter Try.func10, Try.ntmps10
  go_upto_region 1 with fail
  generalize hB : w.heap.size = B at *
  generalize (w.alloc (.cells #[.int .i64 n, vo, vu] 26)).alloc (.cells #[.slice none 0 0, .int .i64 0, .int .i64 0] 39) = X at *
  obtain ⟨x1, x2, x4, x5⟩ := AL
  have p0 := at_block x1 0
  have p1 := at_block x1 1
  have p2 := at_block x1 2
  have pl := lt_block x1
  simp only [List.getElem?_toArray, List.getElem?_cons_zero, List.getElem?_cons_succ] at p0 p1 p2
  have HX1 := Lib.hid x1
  have HX2 := Lib.hid x2
  clear x1 x2
  refine wp_region_ordR [(0, 3), (1, 1), (2, 1), (3, 1), (4, 1), (5, 0), (6, 1), (7, 0), (8, 1)] (fun W => Below X.heap.size X W) (by kernel_rfl) (by kernel_rfl) (fun _ _ d _ _ h => by cases d <;> exact h) ((Below.refl _ _).drew) ?_
  intro Z hZ hbZ
  clear hZ
  refine wpOrd_keep (v := .agg #[.int .i64 n, vo, vu]) rfl rfl (fun wk hwk => ?_) ?_
  · rw [← (haCell hwk).1 _ _ pl] at p0 p1 p2
    go_simp
  iterate 4
    first
      | refine wpOrd_pure (fun K hK => ?_)
      | refine wpOrd_take (fun K hK => ?_)
    go_simp
    refine hK _ ?_
    clear hK K
  refine wpOrd_doR (fun K hK => ?_)
  go_simp
  refine (LN.out Z).mono ?_
  rintro e w1 ⟨h, nd, rfl, y1, y2, rfl⟩
  have hbA := below_drewN hbZ nd
  refine hK _ _ (fun h => Bool.noConfusion (Eq.trans (Eq.symm (by kernel_rfl : _ = false)) h)) (fun _ => hbA) ?_
  clear hK K
  iterate 1
    first
      | refine wpOrd_pure (fun K hK => ?_)
      | refine wpOrd_take (fun K hK => ?_)
    go_simp
    refine hK _ ?_
    clear hK K
  refine wpOrd_doR (fun K hK => ?_)
  go_simp
  have HYA := Lib.hid (al1 Z (.cells #[.int .i64 n, vo, vu, .slice (some ⟨bz, oz, none⟩) m cz, .slice (some ⟨bl, ol, none⟩) m cl, .slice (some ⟨bw, ow, none⟩) n cw, .float .f64 h, .slice none 0 0, .slice none 0 0] 59))
  have hbY : Below X.heap.size X ((Z.alloc (.cells #[.int .i64 n, vo, vu, .slice (some ⟨bz, oz, none⟩) m cz, .slice (some ⟨bl, ol, none⟩) m cl, .slice (some ⟨bw, ow, none⟩) n cw, .float .f64 h, .slice none 0 0, .slice none 0 0] 59)).drewN nd) := below_drewN (hbZ.trans (HYA.out.2.2.mono hbZ.size)) nd
  refine hK _ _ (fun h => Bool.noConfusion (Eq.trans (Eq.symm (by kernel_rfl : _ = false)) h)) (fun _ => hbY) ?_
  clear hK K
  iterate 1
    first
      | refine wpOrd_pure (fun K hK => ?_)
      | refine wpOrd_take (fun K hK => ?_)
    go_simp
    refine hK _ ?_
    clear hK K
  refine wpOrd_nil ?_
  have HWK := Lib.hid (show WK Z.heap.size n vo vu (.slice (some ⟨bz, oz, none⟩) m cz) (.slice (some ⟨bl, ol, none⟩) m cl) (.slice (some ⟨bw, ow, none⟩) n cw) h (.slice none 0 0) (.slice none 0 0) ((Z.alloc (.cells #[.int .i64 n, vo, vu, .slice (some ⟨bz, oz, none⟩) m cz, .slice (some ⟨bl, ol, none⟩) m cl, .slice (some ⟨bw, ow, none⟩) n cw, .float .f64 h, .slice none 0 0, .slice none 0 0] 59)).drewN nd) from HYA.out.1)
  have HBY := Lib.hid hbY
  have hbs : B + 2 ≤ Z.heap.size := by have := hbZ.size; omega
  clear hbZ hbA hbY p0 p1 p2 pl HYA
  generalize (Z.alloc (.cells #[.int .i64 n, vo, vu, .slice (some ⟨bz, oz, none⟩) m cz, .slice (some ⟨bl, ol, none⟩) m cl, .slice (some ⟨bw, ow, none⟩) n cw, .float .f64 h, .slice none 0 0, .slice none 0 0] 59)).drewN nd = Y at *
  generalize Z.heap.size = b at *
  clear Z
  have HWY := Lib.hid (x5.trans (HBY.out.mono (by omega)))
  have HXY := Lib.hid (HX.out.below (hB ▸ HWY.out))
  go_wp2_with fail
  refine (wstands_tells n T vo vu _ _ _ _ _ m z l wt h b Y HXY.out HWK.out HCK.out hm h1).mono ?_
  rintro e w3 ⟨rfl, hb3⟩
  have HB3 := Lib.hid hb3
  clear hb3
  go_wp2_with fail
  refine (IS.out w3).mono ?_
  rintro e w4 ⟨rfl, hb4⟩
  have HB4 := Lib.hid (HB3.out.trans (hb4.mono HB3.out.size))
  have HX4 := Lib.hid (HXY.out.below HB4.out)
  have HW4 := Lib.hid (HWK.out.below HB4.out)
  clear hb4 HB3
  have HBM0 := Lib.hid (HBY.out.trans (HB4.out.mono HBY.out.size))
  have HBM := Lib.hid (show Below B w w4 from HWY.out.trans (HB4.out.mono (by have := HBY.out.size; omega)))
  have tp := (HBM0.out.cell (p := ⟨B, 0, none⟩) (by show B < X.heap.size; omega)).trans (at_block HX1.out 0)
  simp only [List.getElem?_toArray, List.getElem?_cons_zero] at tp
  have hpl : B < w4.heap.size := by have := HBM0.out.size; omega
  have hBM : B ≤ w4.heap.size := by omega
  go_wp2_with (first
    | (refine wpList_make_full _ rfl _ _ _ rfl w4.heap.size 32 iF (.float .f64 0) 1 Try.underlying31 HF0.out HF.out.1 HF.out.2.1 .i64 .i64 (n : Int) (n : Int) n rfl rfl rfl rfl (by rw [HF.out.2.2]; omega) (by unfold maxLen; omega) (by omega) ?_)
    | fail)
  intro w5 hr5 hg5
  have hb5 : Below w4.heap.size w4 w5 := (Below.refl _ _).grown hg5 (by omega) (fun k hk => by cases hk)
  have HO5 := Lib.hid (ownF_made hr5)
  have HB5 := Lib.hid hb5
  clear hr5 hg5 hb5 tp hpl
  go_wp2_with fail
  refine (from_tells n h1 h4 21 (.pointer (some ⟨b, 0, none⟩)) (adamsF T (z 0) (z 1) wt (l 0) h n) w4.heap.size (fun _ => 0) w5 _ HO5.out (fun _ _ => rfl) (fun R x W hb hr => adams_tells n T vo vu _ _ _ _ _ _ m z l wt x h b W ((HX4.out.below HB5.out).below hb) ((HW4.out.below HB5.out).below hb) hr HCK.out HCS.out hn h1 h4 hm)).mono ?_
  rintro e w6 ⟨hb6, hd6⟩
  have hbW : Below w5.heap.size w5 w6 := hb6
  have hq : w6.heap[B + 1]? = some (.cells #[.slice none 0 0, .int .i64 0, .int .i64 0] 39) := by
    have := HB5.out.size
    have h0 := HBM0.out.size
    rw [hb6.block (B + 1) (by omega), HB5.out.block (B + 1) (by omega), HBM0.out.block (B + 1) (by omega)]
    exact HX2.out
  have q0 := at_block hq 0
  have q1 := at_block hq 1
  have q2 := at_block hq 2
  have f0 := free_block hq 0
  have f1 := free_block hq 1
  have f2 := free_block hq 2
  simp only [List.getElem?_toArray, List.getElem?_cons_zero, List.getElem?_cons_succ] at q0 q1 q2
  have hs5 := HB5.out.size
  have hX5 : B + 2 ≤ w5.heap.size := by have := HBM0.out.size; omega
  have HB6 := Lib.hid (HBM.out.trans ((HB5.out.trans (hb6.mono hs5)).mono hBM))
  have SC := Lib.hid (show corrF T z wt (l 0) L n false = seekF (adamsF T (z 0) (z 1) wt (l 0) h n) n 4 (fun _ => 0) from by rw [← y1, corrF_h]; unfold corrF; rw [if_neg (by decide)])
  clear hb6 hq hbW
  rcases hd6 with ⟨hh, R, rfl, hR⟩ | ⟨hh, rfl⟩
  · have HK := Lib.hid (((((Keep.refl w6 (B + 1)).set 0 (.slice (some ⟨R, 0, none⟩) n n)).set 1 (.int .i64 (seekF (adamsF T (z 0) (z 1) wt (l 0) h n) n 4 (fun _ => 0)).tries)).set 2 (.int .i64 (seekF (adamsF T (z 0) (z 1) wt (l 0) h n) n 4 (fun _ => 0)).e)))
    have HH := Lib.hid hh
    have HR := Lib.hid hR
    clear hh hR
    generalize seekF (adamsF T (z 0) (z 1) wt (l 0) h n) n 4 (fun _ => 0) = S at *
    go_wp2_with fail
    refine bodyPost_ret (v := .agg #[.slice (some ⟨R, 0, none⟩) n n, .int .i64 S.tries, .int .i64 S.e]) (by simp [results, Try.results10, go_sem, q0, q1, q2]) rfl ⟨by rw [hB]; exact HK.out.below HB6.out (by omega) (by have := HB6.out.size; omega), ?_⟩
    rw [SC.out, hB]
    exact .inl ⟨HH.out, R, rfl, ((HR.out.base (b' := B) (by have := HR.out.lt; omega)).kept (HK.out.block R HR.out.lt.2 (by have := HR.out.lt; omega)))⟩
  · have HK := Lib.hid (((((Keep.refl w6 (B + 1)).set 0 (.slice none 0 0)).set 1 (.int .i64 (seekF (adamsF T (z 0) (z 1) wt (l 0) h n) n 4 (fun _ => 0)).tries)).set 2 (.int .i64 (seekF (adamsF T (z 0) (z 1) wt (l 0) h n) n 4 (fun _ => 0)).e)))
    have HH := Lib.hid hh
    clear hh
    generalize seekF (adamsF T (z 0) (z 1) wt (l 0) h n) n 4 (fun _ => 0) = S at *
    go_wp2_with fail
    refine bodyPost_ret (v := .agg #[.slice none 0 0, .int .i64 S.tries, .int .i64 S.e]) (by simp [results, Try.results10, go_sem, q0, q1, q2]) rfl ⟨by rw [hB]; exact HK.out.below HB6.out (by omega) (by have := HB6.out.size; omega), ?_⟩
    rw [SC.out]
    exact .inr ⟨HH.out, rfl⟩
set_option maxRecDepth 100000 in
set_option maxHeartbeats 4000000 in
theorem corr_bdf (n : Nat) (T : TD) (vo vu vz vl vw : Value) (m k : Nat) (z : Nat → Nat → Nat) (l wt : Nat → Nat) (w : World) (hx : CtxAt w n T vo vu vz vl vw m z l wt)
    (hck : checkB T = true) (hcs : ∀ i, i < T.len → (T.op i).c < 18446744073709551616) (hn : T.n = n) (h1 : 1 ≤ n) (h4 : n ≤ 4) (hm : 2 ≤ m) (hk : k < 43) :
    Calls Try.prog 10 #[.agg #[.int .i64 n, vo, vu], vz, vl, .int .i64 ((2 ^ k : Nat) : Int), .int .i64 1, vw] w (SumT n (corrF T z wt (l 0) (lenF ((2 ^ k : Nat) : Int)) n true) w) := by
  obtain ⟨bz, oz, cz, rfl, -, -⟩ := hx.tab.rowAt (by omega)
  obtain ⟨bl, ol, cl, rfl, -, -⟩ := hx.lrow.numAt (by omega)
  obtain ⟨bw, ow, cw, rfl, -, -⟩ := hx.wrow.numAt (by omega)
  have LN := Lib.hid (fun W => length_tells ((2 ^ k : Nat) : Int) W)
  have IS := Lib.hid (fun W => isStep_tells k hk W)
  have HX := Lib.hid hx
  have HCK := Lib.hid hck
  have HCS := Lib.hid hcs
  obtain ⟨iF, hF, f1, f2, f3⟩ := info_parts infoF
  have HF := Lib.hid (show iF.zero = _ ∧ iF.size = _ ∧ iF.bytes = _ from ⟨f1, f2, f3⟩)
  have HF0 := Lib.hid hF
  generalize hL : lenF ((2 ^ k : Nat) : Int) = L at *
  generalize ((2 ^ k : Nat) : Int) = p at *
  clear hx hck hcs hF f1 f2 f3 hk hL
  have AL := al2 w (.cells #[.int .i64 n, vo, vu] 26) (.cells #[.slice none 0 0, .int .i64 0, .int .i64 0] 39)
  go_enter Try.func10, Try.ntmps10
  go_upto_region 1 with fail
  generalize hB : w.heap.size = B at *
  generalize (w.alloc (.cells #[.int .i64 n, vo, vu] 26)).alloc (.cells #[.slice none 0 0, .int .i64 0, .int .i64 0] 39) = X at *
  obtain ⟨x1, x2, x4, x5⟩ := AL
  have p0 := at_block x1 0
  have p1 := at_block x1 1
  have p2 := at_block x1 2
  have pl := lt_block x1
  simp only [List.getElem?_toArray, List.getElem?_cons_zero, List.getElem?_cons_succ] at p0 p1 p2
  have HX1 := Lib.hid x1
  have HX2 := Lib.hid x2
  clear x1 x2
  refine wp_region_ordR [(0, 3), (1, 1), (2, 1), (3, 1), (4, 1), (5, 0), (6, 1), (7, 0), (8, 1)] (fun W => Below X.heap.size X W) (by kernel_rfl) (by kernel_rfl) (fun _ _ d _ _ h => by cases d <;> exact h) ((Below.refl _ _).drew) ?_
  intro Z hZ hbZ
  clear hZ
  refine wpOrd_keep (v := .agg #[.int .i64 n, vo, vu]) rfl rfl (fun wk hwk => ?_) ?_
  · rw [← (haCell hwk).1 _ _ pl] at p0 p1 p2
    go_simp
  iterate 4
    first
      | refine wpOrd_pure (fun K hK => ?_)
      | refine wpOrd_take (fun K hK => ?_)
    go_simp
    refine hK _ ?_
    clear hK K
  refine wpOrd_doR (fun K hK => ?_)
  go_simp
  refine (LN.out Z).mono ?_
  rintro e w1 ⟨h, nd, rfl, y1, y2, rfl⟩
  have hbA := below_drewN hbZ nd
  refine hK _ _ (fun h => Bool.noConfusion (Eq.trans (Eq.symm (by kernel_rfl : _ = false)) h)) (fun _ => hbA) ?_
  clear hK K
  iterate 1
    first
      | refine wpOrd_pure (fun K hK => ?_)
      | refine wpOrd_take (fun K hK => ?_)
    go_simp
    refine hK _ ?_
    clear hK K
  refine wpOrd_doR (fun K hK => ?_)
  go_simp
  have HYA := Lib.hid (al1 Z (.cells #[.int .i64 n, vo, vu, .slice (some ⟨bz, oz, none⟩) m cz, .slice (some ⟨bl, ol, none⟩) m cl, .slice (some ⟨bw, ow, none⟩) n cw, .float .f64 h, .slice none 0 0, .slice none 0 0] 59))
  have hbY : Below X.heap.size X ((Z.alloc (.cells #[.int .i64 n, vo, vu, .slice (some ⟨bz, oz, none⟩) m cz, .slice (some ⟨bl, ol, none⟩) m cl, .slice (some ⟨bw, ow, none⟩) n cw, .float .f64 h, .slice none 0 0, .slice none 0 0] 59)).drewN nd) := below_drewN (hbZ.trans (HYA.out.2.2.mono hbZ.size)) nd
  refine hK _ _ (fun h => Bool.noConfusion (Eq.trans (Eq.symm (by kernel_rfl : _ = false)) h)) (fun _ => hbY) ?_
  clear hK K
  iterate 1
    first
      | refine wpOrd_pure (fun K hK => ?_)
      | refine wpOrd_take (fun K hK => ?_)
    go_simp
    refine hK _ ?_
    clear hK K
  refine wpOrd_nil ?_
  have HWK := Lib.hid (show WK Z.heap.size n vo vu (.slice (some ⟨bz, oz, none⟩) m cz) (.slice (some ⟨bl, ol, none⟩) m cl) (.slice (some ⟨bw, ow, none⟩) n cw) h (.slice none 0 0) (.slice none 0 0) ((Z.alloc (.cells #[.int .i64 n, vo, vu, .slice (some ⟨bz, oz, none⟩) m cz, .slice (some ⟨bl, ol, none⟩) m cl, .slice (some ⟨bw, ow, none⟩) n cw, .float .f64 h, .slice none 0 0, .slice none 0 0] 59)).drewN nd) from HYA.out.1)
  have HBY := Lib.hid hbY
  have hbs : B + 2 ≤ Z.heap.size := by have := hbZ.size; omega
  clear hbZ hbA hbY p0 p1 p2 pl HYA
  generalize (Z.alloc (.cells #[.int .i64 n, vo, vu, .slice (some ⟨bz, oz, none⟩) m cz, .slice (some ⟨bl, ol, none⟩) m cl, .slice (some ⟨bw, ow, none⟩) n cw, .float .f64 h, .slice none 0 0, .slice none 0 0] 59)).drewN nd = Y at *
  generalize Z.heap.size = b at *
  clear Z
  have HWY := Lib.hid (x5.trans (HBY.out.mono (by omega)))
  have HXY := Lib.hid (HX.out.below (hB ▸ HWY.out))
  go_wp2_with fail
  refine (wstands_tells n T vo vu _ _ _ _ _ m z l wt h b Y HXY.out HWK.out HCK.out hm h1).mono ?_
  rintro e w3 ⟨rfl, hb3⟩
  have HB3 := Lib.hid hb3
  clear hb3
  go_wp2_with fail
  refine (IS.out w3).mono ?_
  rintro e w4 ⟨rfl, hb4⟩
  have HB4 := Lib.hid (HB3.out.trans (hb4.mono HB3.out.size))
  have HX4 := Lib.hid (HXY.out.below HB4.out)
  have HW4 := Lib.hid (HWK.out.below HB4.out)
  clear hb4 HB3
  go_wp2_with fail
  refine (wpart_tells n T vo vu _ _ _ _ _ m z l wt h b w4 HX4.out HW4.out HCK.out HCS.out hn h1 h4 hm).mono ?_
  rintro e w7 ⟨hk7, hm7⟩
  have HK7 := Lib.hid hk7
  have HM7 := Lib.hid hm7
  have hs4 := HB4.out.size
  have hsy := HBY.out.size
  have hs7 := hk7.size
  have HBM0 := Lib.hid (hk7.below (HBY.out.trans (HB4.out.mono HBY.out.size)) (by omega) (by omega))
  clear hk7 hm7
  cases hp : partF (newtF T (z 0) (l 0) h) n n with
  | none =>
    have hm := HM7.out
    rw [hp] at hm
    simp only [] at hm
    subst hm
    have hq : w7.heap[B + 1]? = some (.cells #[.slice none 0 0, .int .i64 0, .int .i64 0] 39) := by
      rw [HBM0.out.block (B + 1) (by omega)]
      exact HX2.out
    have q0 := at_block hq 0
    have q1 := at_block hq 1
    have q2 := at_block hq 2
    have f0 := free_block hq 0
    have f1 := free_block hq 1
    have f2 := free_block hq 2
    simp only [List.getElem?_toArray, List.getElem?_cons_zero, List.getElem?_cons_succ] at q0 q1 q2
    have HB7 := Lib.hid (x5.trans (HBM0.out.mono (by omega)))
    have SC := Lib.hid (show corrF T z wt (l 0) L n true = ⟨fun _ => 0, false, 0, 4⟩ from by rw [← y1, corrF_h]; unfold corrF; rw [if_pos rfl, hp])
    have HK := Lib.hid (((((Keep.refl w7 (B + 1)).set 0 (.slice none 0 0)).set 1 (.int .i64 0)).set 2 (.int .i64 4)))
    clear hq hp HM7
    go_wp2_with fail
    refine bodyPost_ret (v := .agg #[.slice none 0 0, .int .i64 0, .int .i64 4]) (by simp [results, Try.results10, go_sem, q0, q1, q2]) rfl ⟨by rw [hB]; exact HK.out.below HB7.out (by omega) (by omega), ?_⟩
    rw [SC.out]
    exact .inr ⟨rfl, rfl⟩
  | some gq =>
    obtain ⟨g, q⟩ := gq
    have hm := HM7.out
    rw [hp] at hm
    simp only [] at hm
    obtain ⟨rfl, pp1, pp2, hw7, ht7, hi7⟩ := hm
    have HX7 := Lib.hid (HX.out.below (show Below w.heap.size w w7 by rw [hB]; exact x5.trans (HBM0.out.mono (by omega))))
    have HW7 := Lib.hid hw7
    have HT7 := Lib.hid ht7
    have HI7 := Lib.hid hi7
    have HQ := Lib.hid (partF_lt (Nat.le_refl _) hp)
    have SC0 := Lib.hid (show corrF T z wt (l 0) L n true = seekF (bdfF T (z 0) (z 1) wt (l 0) h n g q) n 4 (fun _ => 0) from by rw [← y1, corrF_h]; unfold corrF; rw [if_pos rfl, hp])
    clear hw7 ht7 hi7 hp HM7
    have HBM := Lib.hid (show Below B w w7 from x5.trans (HBM0.out.mono (by omega)))
    have tp := (HBM0.out.cell (p := ⟨B, 0, none⟩) (by show B < X.heap.size; omega)).trans (at_block HX1.out 0)
    simp only [List.getElem?_toArray, List.getElem?_cons_zero] at tp
    have hpl : B < w7.heap.size := by have := HBM0.out.size; omega
    have hBM : B ≤ w7.heap.size := by omega
    go_wp2_with (first
      | (refine wpList_make_full _ rfl _ _ _ rfl w7.heap.size 32 iF (.float .f64 0) 1 Try.underlying31 HF0.out HF.out.1 HF.out.2.1 .i64 .i64 (n : Int) (n : Int) n rfl rfl rfl rfl (by rw [HF.out.2.2]; omega) (by unfold maxLen; omega) (by omega) ?_)
      | fail)
    intro w5 hr5 hg5
    have hb5 : Below w7.heap.size w7 w5 := (Below.refl _ _).grown hg5 (by omega) (fun k hk => by cases hk)
    have HO5 := Lib.hid (ownF_made hr5)
    have HB5 := Lib.hid hb5
    clear hr5 hg5 hb5 tp hpl
    go_wp2_with fail
    refine (from_tells n h1 h4 23 (.pointer (some ⟨b, 0, none⟩)) (bdfF T (z 0) (z 1) wt (l 0) h n g q) w7.heap.size (fun _ => 0) w5 _ HO5.out (fun _ _ => rfl) (fun R x W hb hr => bdf_tells n T vo vu _ _ _ _ _ _ m z l wt x h b g q W ((HX7.out.below HB5.out).below hb) ((HW7.out.below HB5.out).below hb) hr ((HT7.out.below HB5.out).below hb) ((HI7.out.below HB5.out).below hb) HQ.out HCK.out HCS.out hn h1 h4 hm)).mono ?_
    rintro e w6 ⟨hb6, hd6⟩
    have hbW : Below w5.heap.size w5 w6 := hb6
    have hq : w6.heap[B + 1]? = some (.cells #[.slice none 0 0, .int .i64 0, .int .i64 0] 39) := by
      have := HB5.out.size
      have h0 := HBM0.out.size
      rw [hb6.block (B + 1) (by omega), HB5.out.block (B + 1) (by omega), HBM0.out.block (B + 1) (by omega)]
      exact HX2.out
    have q0 := at_block hq 0
    have q1 := at_block hq 1
    have q2 := at_block hq 2
    have f0 := free_block hq 0
    have f1 := free_block hq 1
    have f2 := free_block hq 2
    simp only [List.getElem?_toArray, List.getElem?_cons_zero, List.getElem?_cons_succ] at q0 q1 q2
    have hs5 := HB5.out.size
    have hX5 : B + 2 ≤ w5.heap.size := by have := HBM0.out.size; omega
    have HB6 := Lib.hid (HBM.out.trans ((HB5.out.trans (hb6.mono hs5)).mono hBM))
    have SC := Lib.hid (show corrF T z wt (l 0) L n true = seekF (bdfF T (z 0) (z 1) wt (l 0) h n g q) n 4 (fun _ => 0) from SC0.out)
    clear hb6 hq hbW
    rcases hd6 with ⟨hh, R, rfl, hR⟩ | ⟨hh, rfl⟩
    · have HK := Lib.hid (((((Keep.refl w6 (B + 1)).set 0 (.slice (some ⟨R, 0, none⟩) n n)).set 1 (.int .i64 (seekF (bdfF T (z 0) (z 1) wt (l 0) h n g q) n 4 (fun _ => 0)).tries)).set 2 (.int .i64 (seekF (bdfF T (z 0) (z 1) wt (l 0) h n g q) n 4 (fun _ => 0)).e)))
      have HH := Lib.hid hh
      have HR := Lib.hid hR
      clear hh hR
      generalize seekF (bdfF T (z 0) (z 1) wt (l 0) h n g q) n 4 (fun _ => 0) = S at *
      go_wp2_with fail
      refine bodyPost_ret (v := .agg #[.slice (some ⟨R, 0, none⟩) n n, .int .i64 S.tries, .int .i64 S.e]) (by simp [results, Try.results10, go_sem, q0, q1, q2]) rfl ⟨by rw [hB]; exact HK.out.below HB6.out (by omega) (by have := HB6.out.size; omega), ?_⟩
      rw [SC.out, hB]
      exact .inl ⟨HH.out, R, rfl, ((HR.out.base (b' := B) (by have := HR.out.lt; omega)).kept (HK.out.block R HR.out.lt.2 (by have := HR.out.lt; omega)))⟩
    · have HK := Lib.hid (((((Keep.refl w6 (B + 1)).set 0 (.slice none 0 0)).set 1 (.int .i64 (seekF (bdfF T (z 0) (z 1) wt (l 0) h n g q) n 4 (fun _ => 0)).tries)).set 2 (.int .i64 (seekF (bdfF T (z 0) (z 1) wt (l 0) h n g q) n 4 (fun _ => 0)).e)))
      have HH := Lib.hid hh
      clear hh
      generalize seekF (bdfF T (z 0) (z 1) wt (l 0) h n g q) n 4 (fun _ => 0) = S at *
      go_wp2_with fail
      refine bodyPost_ret (v := .agg #[.slice none 0 0, .int .i64 S.tries, .int .i64 S.e]) (by simp [results, Try.results10, go_sem, q0, q1, q2]) rfl ⟨by rw [hB]; exact HK.out.below HB6.out (by omega) (by have := HB6.out.size; omega), ?_⟩
      rw [SC.out]
      exact .inr ⟨HH.out, rfl⟩
end Go.Proofs.Ytnlbafjmbamoeaa
