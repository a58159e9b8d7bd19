/-
  How a field changes, as the program tells it.
-/
import Derived.Test.YtnlbafjmbamoeaaJg
namespace Go.Proofs.Ytnlbafjmbamoeaa
open Go.RowKit
open Ieee (double)
attribute [local go_sem] alloc_drewN setCell_drewN call_bits call_frombits ord_lt ord_eq ord_gt ord_ne ord_le ord_ge eqB_self run_fadd run_fsub run_fmul run_fquo haStoreFlt takeOp pureOp readsUpon doOp run_store_fn

theorem run_store_fc (P : Program) (w : World) (a : Addr) (m : Mode) (f : Fn) (b : Array Value) : (store a (.func f #[] b) m).run P w = stored P w a (.func f #[] b) m := run_store P w a _ m rfl
attribute [local go_sem] run_store_fc
/-- A table that is being made, a call's own: its first i rows are there. -/
structure GReg (w : World) (base G n i m : Nat) (blk cap : Nat → Nat) (f : Nat → Nat → Nat) : Prop where
  ex : ∀ k, k < n → ∃ v, w.cell? ⟨G, k, none⟩ = some v
  free : ∀ k, w.frozen? ⟨G, k, none⟩ = false
  lo : base ≤ G
  lt : G < w.heap.size
  val : ∀ k, k < i → w.cell? ⟨G, k, none⟩ = some (.slice (some ⟨blk k, 0, none⟩) m (cap k)) ∧ OwnF w base (blk k) m (cap k) (f k) ∧ blk k ≠ G
  inj : ∀ a b, a < i → b < i → blk a = blk b → a = b
theorem GReg.below {w w' : World} {base G n i m : Nat} {blk cap : Nat → Nat} {f : Nat → Nat → Nat} (h : GReg w base G n i m blk cap f) (hb : Below w.heap.size w w') : GReg w' base G n i m blk cap f := by
  obtain ⟨hc, hf⟩ := haCell hb
  have := hb.size
  have := h.lt
  refine ⟨fun k hk => by rw [hc _ _ h.lt]; exact h.ex k hk, fun k => by rw [hf _ _ h.lt]; exact h.free k, h.lo, by omega, fun k hk => ?_, h.inj⟩
  obtain ⟨h1, h2, h3⟩ := h.val k hk
  exact ⟨by rw [hc _ _ h.lt]; exact h1, h2.below hb h2.lt.2, h3⟩
theorem GReg.set {w : World} {base G n i m R c : Nat} {blk cap : Nat → Nat} {f : Nat → Nat → Nat} (h : GReg w base G n i m blk cap f) (hi : i < n) (ho : OwnF w base R m c (f i)) (hne : R ≠ G) (hnew : ∀ k, k < i → blk k ≠ R) :
    GReg (w.setCell ⟨G, i, none⟩ (.slice (some ⟨R, 0, none⟩) m c)) base G n (i + 1) m (updN blk i R) (updN cap i c) f := by
  obtain ⟨v0, e0⟩ := h.ex i hi
  refine ⟨fun k hk => ?_, fun k => by rw [free_put]; exact h.free k, h.lo, by simp [World.setCell]; exact h.lt, fun k hk => ?_, fun a b ha hb => ?_⟩
  · rw [cell_put _ e0]
    split
    · exact ⟨_, rfl⟩
    · exact h.ex k hk
  · rw [cell_put _ e0]
    by_cases e : k = i
    · subst e
      rw [if_pos rfl, updN_at, updN_at]
      exact ⟨rfl, ho.other (fun e => hne e.symm) _, hne⟩
    · obtain ⟨h1, h2, h3⟩ := h.val k (by omega)
      rw [if_neg e, updN_ne _ _ e, updN_ne _ _ e]
      exact ⟨h1, h2.other (fun e => h3 e.symm) _, h3⟩
  · by_cases ea : a = i
    · by_cases eb : b = i
      · intro _; omega
      · subst ea
        rw [updN_at, updN_ne _ _ eb]
        exact fun q => absurd q.symm (hnew b (by omega))
    · by_cases eb : b = i
      · subst eb
        rw [updN_at, updN_ne _ _ ea]
        exact fun q => absurd q (hnew a (by omega))
      · rw [updN_ne _ _ ea, updN_ne _ _ eb]
        exact h.inj a b (by omega) (by omega)
theorem GReg.grid {w : World} {base G n m : Nat} {blk cap : Nat → Nat} {f : Nat → Nat → Nat} (h : GReg w base G n n m blk cap f) : Grid w base G n m blk cap f :=
  ⟨fun i hi => (h.val i hi).1, fun i _ => h.free i, fun i hi => (h.val i hi).2.1, fun i j hi hj => h.inj i j hi hj, fun i hi => (h.val i hi).2.2, h.lo, h.lt⟩
theorem infoSl : (Try.prog.info? 31).map (fun i => (i.zero, i.size, i.bytes)) = some (some (.slice none 0 0), 1, 24) := by kernel_rfl
theorem GReg.made {w : World} {B G n m : Nat} {t : TypeId} {xs : List Value} (h : w.ownsRow B t 1 (.slice (some ⟨G, 0, none⟩) n n) n xs) (f : Nat → Nat → Nat) : GReg w B G n 0 m (fun _ => 0) (fun _ => 0) f := by
  have hl := h.1
  exact ⟨fun o ho => ⟨xs[o]'(by omega), (h.cellAt o (by omega)).trans (List.getElem?_eq_getElem (by omega))⟩, fun o => h.frozenAt o, (h.lt G rfl).1, (h.lt G rfl).2, fun j hj => by omega, fun a b ha => by omega⟩
/-- A table of none yet holds no number. -/
theorem made_no {w : World} {B G n : Nat} {t : TypeId} (h : w.ownsRow B t 1 (.slice (some ⟨G, 0, none⟩) n n) n (madeCells #[Value.slice none 0 0] n).toList) (o y : Nat) : w.cell? ⟨G, o, none⟩ ≠ some (.float .f64 y) := by
  rcases id h.2 with ⟨e, -⟩ | ⟨g, c, cur, e, -, hh, -, -, hs, ht⟩
  · cases e
  · simp only [Value.slice.injEq, Option.some.injEq, Addr.mk.injEq] at e
    obtain ⟨⟨rfl, -⟩, -, rfl⟩ := e
    rw [at_block hh]
    intro e
    have hc : cur.toList = (madeCells #[Value.slice none 0 0] n).toList := by
      rw [← ht, List.take_of_length_le (by simp; omega)]
    have e2 : cur.toList[o]? = some (.float .f64 y) := by rw [← e]; simp
    rw [hc, toList_madeCells_one, List.getElem?_replicate] at e2
    split at e2 <;> simp at e2
set_option maxRecDepth 100000 in
set_option maxHeartbeats 1000000 in
theorem duals_tells (n : Nat) (w : World) : Calls Try.prog 75 #[kindF, .int .i64 n] w fun e w' => ∃ Kd N, e = .returned (kindD Kd N) ∧ KB Kd w' ∧ CB N (.int .i64 n) w' ∧ Below w.heap.size w w' := by
  unfold kindF kindD
  have AL := al3 w (.cells #[.func (.func 79) #[] #[], .func (.func 80) #[] #[], .func (.func 81) #[] #[], .func (.func 82) #[] #[], .func (.func 83) #[] #[]] 99) (.cells #[.int .i64 n] 3) (.cells #[.nilFunc, .nilFunc, .nilFunc, .nilFunc, .nilFunc] 113)
  go_enter Try.func75, Try.ntmps75
  go_upto_region 1 with fail
  generalize hB : w.heap.size = B at *
  generalize ((w.alloc (.cells #[.func (.func 79) #[] #[], .func (.func 80) #[] #[], .func (.func 81) #[] #[], .func (.func 82) #[] #[], .func (.func 83) #[] #[]] 99)).alloc (.cells #[.int .i64 n] 3)).alloc (.cells #[.nilFunc, .nilFunc, .nilFunc, .nilFunc, .nilFunc] 113) = X at *
  obtain ⟨x1, x2, x3, x4, x5⟩ := AL
  have hk := KB.of x1
  have hn := CB.of x2
  have q0 := at_block x3 0
  have q1 := at_block x3 1
  have q2 := at_block x3 2
  have q3 := at_block x3 3
  have q4 := at_block x3 4
  simp only [List.getElem?_toArray, List.getElem?_cons_zero, List.getElem?_cons_succ] at q0 q1 q2 q3 q4
  have r0 := free_block x3 0
  have r1 := free_block x3 1
  have r2 := free_block x3 2
  have r3 := free_block x3 3
  have r4 := free_block x3 4
  clear x1 x2 x3
  go_wp2_with fail
  have HK := Lib.hid (fun W (h : Keep X (B + 2) W) => (show KB B W ∧ CB (B + 1) (.int .i64 n) W ∧ Below B w W from ⟨hk.keep h (by omega), hn.keep h (by omega), h.below x5 (by omega) (by omega)⟩))
  exact bodyPost_ret (v := .agg #[.func (.func 85) #[] #[.pointer (some ⟨B, 0, none⟩), .pointer (some ⟨B + 1, 0, none⟩)], .func (.func 88) #[] #[.pointer (some ⟨B, 0, none⟩), .pointer (some ⟨B + 1, 0, none⟩)], .func (.func 90) #[] #[.pointer (some ⟨B, 0, none⟩), .pointer (some ⟨B + 1, 0, none⟩)], .func (.func 92) #[] #[.pointer (some ⟨B, 0, none⟩), .pointer (some ⟨B + 1, 0, none⟩)], .func (.func 94) #[] #[.pointer (some ⟨B, 0, none⟩), .pointer (some ⟨B + 1, 0, none⟩)]]) (by simp [results, Try.results75, go_sem, q0, q1, q2, q3, q4]) rfl ⟨B, B + 1, rfl, by rw [hB]; exact HK.out _ ((((((Keep.refl X (B + 2)).set 0 _).set 1 _).set 2 _).set 3 _).set 4 _)⟩
/-- A table of its own: these numbers. -/
def GridT (n : Nat) (f : Nat → Nat → Nat) (w : World) (e : Ending) (w' : World) : Prop := ∃ G blk cap, e = .returned (.slice (some ⟨G, 0, none⟩) n n) ∧ Grid w' w.heap.size G n n blk cap f ∧ Below w.heap.size w w'
set_option maxRecDepth 100000 in
set_option maxHeartbeats 4000000 in
theorem changes_tells (T : TD) (v vx : Value) (x : Nat → Nat) (w : World) (h : TapeAt w v T) (hck : checkB T = true) (hcs : ∀ i, i < T.len → (T.op i).c < 18446744073709551616) (nn : Nat) (hn : T.n = nn) (hx : FltsC w vx nn x) :
    Calls Try.prog 63 #[kindF, v, vx] w (GridT nn (fun i => dvR T.op x (T.out i).toNat) w) := by
  have hT := h
  obtain ⟨n, len, op, lo, out⟩ := T
  obtain ⟨vo, vu, rfl, ⟨a, cap, rfl, hl1, ho⟩, ⟨a2, cap2, rfl, hl2, hu⟩⟩ := h
  simp only [] at hn
  subst hn
  have hc1 := hck
  unfold checkB at hc1
  simp only [Bool.and_eq_true, decide_eq_true_eq] at hc1
  obtain ⟨⟨q1, q2, q3, q4⟩, -, -⟩ := hc1
  have CK := Lib.hid fun (W : World) (hb : Below w.heap.size w W) => (check_tells _ _ W (hT.below hb)).mono fun _ _ h => h.eq (by rw [hck])
  have RN := Lib.hid fun (W : World) (Kd N XB xcap : Nat) (hb : Below w.heap.size w W) h1 h2 h3 h4 => drun_tells _ _ x Kd N XB xcap W (hT.below hb) hck hcs nn rfl h1 h2 h3 h4
  have VR := Lib.hid fun (W : World) (hb : Below w.heap.size w W) => vars_tells nn (by omega) vx x W (hx.row.below hb)
  obtain ⟨xa, xcap, rfl, hx1, hx2⟩ := hx
  obtain ⟨iS, hS, s1, s2, s3⟩ := info_parts infoSl
  have HS := Lib.hid (show iS.zero = _ ∧ iS.size = _ ∧ iS.bytes = _ from ⟨s1, s2, s3⟩)
  have HS0 := Lib.hid hS
  have AL := al2 w (.cells #[.func (.func 79) #[] #[], .func (.func 80) #[] #[], .func (.func 81) #[] #[], .func (.func 82) #[] #[], .func (.func 83) #[] #[]] 99) (.cells #[.int .i64 nn, .slice a len cap, .slice a2 lo cap2] 26)
  clear ho hu hT hck hcs hx2 hS s1 s2 s3
  unfold kindF
  go_enter Try.func63, Try.ntmps63
  go_upto_region 1 with fail
  generalize hB : w.heap.size = B at *
  generalize (w.alloc (.cells #[.func (.func 79) #[] #[], .func (.func 80) #[] #[], .func (.func 81) #[] #[], .func (.func 82) #[] #[], .func (.func 83) #[] #[]] 99)).alloc (.cells #[.int .i64 nn, .slice a len cap, .slice a2 lo cap2] 26) = X at *
  obtain ⟨x1, x2, x4, x5⟩ := AL
  have p0 := at_block x2 0
  have p1 := at_block x2 1
  have p2 := at_block x2 2
  simp only [List.getElem?_toArray, List.getElem?_cons_zero, List.getElem?_cons_succ] at p0 p1 p2
  go_wp2_with fail
  refine (CK.out _ x5).mono ?_
  rintro e w1 ⟨rfl, hb1⟩
  have y1 := Lib.hid ((hb1.block B (by omega)).trans x1)
  have y2 := Lib.hid ((hb1.block (B + 1) (by omega)).trans x2)
  have y5 := Lib.hid (x5.trans (hb1.mono (by omega)))
  have hs1 := hb1.size
  clear p0 p1 p2 x1 x2 x5 hb1
  have p0 := at_block y2.out 0
  simp only [List.getElem?_toArray, List.getElem?_cons_zero] at p0
  go_wp2_with (first
    | (refine wpList_make_full _ rfl _ _ _ rfl w1.heap.size 31 iS (.slice none 0 0) 1 Try.underlying29 HS0.out HS.out.1 HS.out.2.1 .i64 .i64 (nn : Int) (nn : Int) nn rfl rfl rfl rfl (by rw [HS.out.2.2]; omega) (by unfold maxLen; omega) (by omega) ?_)
    | fail)
  intro w2 hr0 hg0
  have hb2 : Below w1.heap.size w1 w2 := (Below.refl _ _).grown hg0 (by omega) (fun k hk => by cases hk)
  have hG := (hr0.lt w1.heap.size rfl).2
  have NOF := Lib.hid (made_no hr0)
  have HGR := Lib.hid (GReg.made (m := nn) hr0 (fun i => dvR op x (out i).toNat))
  have z1 := Lib.hid ((hb2.block B (by omega)).trans y1.out)
  have z2 := Lib.hid ((hb2.block (B + 1) (by omega)).trans y2.out)
  have z5 := Lib.hid (y5.out.trans (hb2.mono (by omega)))
  clear hr0 hg0 hb2 p0 y1 y2 y5
  generalize hGe : w1.heap.size = G at *
  go_upto_region 4 with fail
  have g0 := at_block z1.out 0
  have g1 := at_block z1.out 1
  have g2 := at_block z1.out 2
  have g3 := at_block z1.out 3
  have g4 := at_block z1.out 4
  have p0 := at_block z2.out 0
  have p1 := at_block z2.out 1
  have p2 := at_block z2.out 2
  have gl := lt_block z1.out
  have pl := lt_block z2.out
  simp only [List.getElem?_toArray, List.getElem?_cons_zero, List.getElem?_cons_succ] at g0 g1 g2 g3 g4 p0 p1 p2
  refine wp_region_ordR [(0, 3), (1, 1), (2, 3), (4, 3), (5, 3), (6, 1), (10, 1), (3, 0), (7, 0), (8, 0), (9, 1)] (fun W => Below w2.heap.size w2 W) (by kernel_rfl) (by kernel_rfl) (fun _ _ d _ _ h => by cases d <;> exact h) ((Below.refl _ _).drew) ?_
  intro Z hZ hbZ
  clear hZ
  refine wpOrd_keep (v := kindF) rfl rfl (fun wk hwk => ?_) ?_
  · rw [← (haCell hwk).1 _ _ gl] at g0 g1 g2 g3 g4
    unfold kindF
    go_simp
  iterate 1
    first
      | refine wpOrd_pure (fun K hK => ?_)
      | refine wpOrd_take (fun K hK => ?_)
    go_simp
    refine hK _ ?_
    clear hK K
  refine wpOrd_keep (v := .int .i64 nn) rfl rfl (fun wk hwk => ?_) ?_
  · rw [← (haCell hwk).1 _ _ pl] at p0
    go_simp
  refine wpOrd_keep (v := .agg #[.int .i64 nn, .slice a len cap, .slice a2 lo cap2]) rfl rfl (fun wk hwk => ?_) ?_
  · rw [← (haCell hwk).1 _ _ pl] at p0 p1 p2
    go_simp
  refine wpOrd_keep (v := kindF) rfl rfl (fun wk hwk => ?_) ?_
  · rw [← (haCell hwk).1 _ _ gl] at g0 g1 g2 g3 g4
    unfold kindF
    go_simp
  iterate 2
    first
      | refine wpOrd_pure (fun K hK => ?_)
      | refine wpOrd_take (fun K hK => ?_)
    go_simp
    refine hK _ ?_
    clear hK K
  refine wpOrd_doR (fun K hK => ?_)
  go_simp
  refine (duals_tells nn _).mono ?_
  rintro e w3 ⟨Kd, N, rfl, hk3, hN3, hb3⟩
  have hb3' := hbZ.trans (hb3.mono hbZ.size)
  refine hK _ _ (fun h => Bool.noConfusion (Eq.trans (Eq.symm (by kernel_rfl : _ = false)) h)) (fun _ => hb3') ?_
  clear hK K
  refine wpOrd_doR (fun K hK => ?_)
  go_simp
  refine (VR.out w3 (z5.out.trans (hb3'.mono (by omega)))).mono ?_
  rintro e w4 ⟨XB, rfl, hXl, hxv, hb4⟩
  have hb4' := hb3'.trans (hb4.mono hb3'.size)
  refine hK _ _ (fun h => Bool.noConfusion (Eq.trans (Eq.symm (by kernel_rfl : _ = false)) h)) (fun _ => hb4') ?_
  clear hK K
  refine wpOrd_doR (fun K hK => ?_)
  go_simp
  refine (RN.out w4 Kd N XB nn (z5.out.trans (hb4'.mono (by omega))) (hk3.below hb4) (hN3.below hb4) hXl hxv).mono ?_
  rintro e w5 ⟨Q, rfl, hQl, hqv, hb5⟩
  have hb5' := hb4'.trans (hb5.mono hb4'.size)
  refine hK _ _ (fun h => Bool.noConfusion (Eq.trans (Eq.symm (by kernel_rfl : _ = false)) h)) (fun _ => hb5') ?_
  clear hK K
  iterate 1
    first
      | refine wpOrd_pure (fun K hK => ?_)
      | refine wpOrd_take (fun K hK => ?_)
    go_simp
    refine hK _ ?_
    clear hK K
  refine wpOrd_nil ?_
  have HG5 := Lib.hid (HGR.out.below hb5')
  have NO5 := Lib.hid (show ∀ o y, w5.cell? ⟨G, o, none⟩ ≠ some (.float .f64 y) from fun o y => by rw [hb5'.cell (p := ⟨G, o, none⟩) hG]; exact NOF.out o y)
  have HB5 := Lib.hid (z5.out.trans (hb5'.mono (by omega)))
  have HQV := Lib.hid (fun i hi => (show ∃ y p l, w5.cell? ⟨Q, i * 2, none⟩ = some (.float .f64 y) ∧ w5.cell? ⟨Q, i * 2 + 1, none⟩ = some (.slice p nn l) ∧ FRow w5 (.slice p nn l) nn (dvR op x (out i).toNat) ∧ (Value.slice p nn l).ownBlock ≠ some G ∧ Q ≠ G by
    obtain ⟨y, u, y1, y2, y3, u1, u2, u3⟩ := hqv i hi
    obtain ⟨p, l, rfl, u4, u5⟩ := id u2
    refine ⟨y, p, l, y1, u1, u2, fun e => ?_, fun e => ?_⟩
    · obtain ⟨b, o, rfl, hb, hc⟩ := u5 (by omega)
      simp only [Value.ownBlock, Option.some.injEq] at e
      subst e
      obtain ⟨y, y1, -⟩ := hc 0 (by omega)
      exact NO5.out _ _ y1
    · subst e
      exact NO5.out _ _ y1))
  clear hbZ hb3 hb3' hb4 hb4' hb5 hb5' g0 g1 g2 g3 g4 p0 p1 p2 gl pl hk3 hN3 hXl hxv hqv NOF HGR z1 z2 z5
  have hGl := HG5.out.lt
  have hn1 : 0 < nn := by omega
  go_wp2_with fail
  go_loopw [33] (fun i wr => ∃ (j : Nat) (blk cp : Nat → Nat), j ≤ nn ∧ i = .int .i64 j ∧ Keep w5 G wr ∧ GReg wr G G nn j nn blk cp (fun i => dvR op x (out i).toNat)) (fun i _ => nn - (intOf i).toNat)
  case atStart => exact ⟨0, _, _, by omega, rfl, Keep.refl _ _, HG5.out⟩
  case round =>
    clear HG5
    obtain ⟨j, blk, cp, hj, rfl, hkp, hrg⟩ := hrel
    by_cases hlt : j < nn
    · obtain ⟨y, p, l, y1, u1, u2, u3, hQG⟩ := HQV.out j hlt
      rw [← hkp.cell hQl hQG] at y1 u1
      have hu : FRow wr (.slice p nn l) nn (dvR op x (out j).toNat) := by
        obtain ⟨a, c, hv, h1, h2⟩ := u2
        refine ⟨a, c, hv, h1, fun h0 => ?_⟩
        obtain ⟨b, o, rfl, hb, hc⟩ := h2 h0
        simp only [Value.slice.injEq] at hv
        obtain ⟨rfl, -, rfl⟩ := hv
        have hne : b ≠ G := fun e => u3 (by rw [e]; rfl)
        exact ⟨b, o, rfl, Nat.lt_of_lt_of_le hb hkp.size, fun i hi => (hc i hi).same (hkp.cell hb hne _)⟩
      have hal := al1 wr (.cells #[.float .f64 y, .slice p nn l] 117)
      have CL := Lib.hid (clone_tells p nn l (dvR op x (out j).toNat) (wr.alloc (.cells #[.float .f64 y, .slice p nn l] 117)) (hu.below hal.2.2) hn1 (by omega))
      have HKP := Lib.hid hkp
      have HRG := Lib.hid hrg
      have HAL := Lib.hid hal
      have hwG : G < wr.heap.size := hrg.lt
      have hlt' : (j : Int) < (nn : Int) := by omega
      clear hkp hrg u2 hu hal
      go_wp2_with fail
      refine CL.out.mono ?_
      rintro e w6 ⟨R, c6, rfl, ho, hb6⟩
      have hb7 : Below wr.heap.size wr w6 := HAL.out.2.2.trans (hb6.mono (by rw [HAL.out.2.1]; omega))
      have hrg6 := HRG.out.below hb7
      obtain ⟨v0, s0⟩ := hrg6.ex j (by omega)
      have f0 := hrg6.free j
      have hRl : wr.heap.size < R := by have := ho.lt; have := HAL.out.2.1; omega
      have REL := Lib.hid (hrg6.set hlt (ho.base (b' := G) (by omega)) (by omega) (fun k hk => by have := (HRG.out.val k hk).2.1.lt; omega))
      have HK6 := Lib.hid ((HKP.out.step hb7).set j (.slice (some ⟨R, 0, none⟩) nn c6))
      clear hb6 hb7 hrg6 ho HRG HKP CL HAL
      go_wp2_with fail
      go_roundw
      case rel => exact ⟨j + 1, _, _, by omega, by go_num, HK6.out, REL.out⟩
      case measure => simp [intOf]; omega
    · obtain rfl : j = nn := by omega
      go_wp2_with fail
      go_ret
      have hGB : B ≤ G := by omega
      exact ⟨G, blk, cp, rfl, by rw [hB]; exact hrg.grid.base hGB, by rw [hB]; exact hkp.below HB5.out hGB (by omega)⟩
set_option maxRecDepth 100000 in
set_option maxHeartbeats 4000000 in
/-- Jac of any tape that may be, at as many numbers as it has variables. -/
theorem jac_tells (T : TD) (v vx : Value) (x : Nat → Nat) (w : World) (h : TapeAt w v T) (hck : checkB T = true) (hcs : ∀ i, i < T.len → (T.op i).c < 18446744073709551616) (nn : Nat) (hn : T.n = nn) (hx : FltsC w vx nn x) :
    Calls Try.prog 46 #[v, vx] w (GridT nn (fun i => dvR T.op x (T.out i).toNat) w) := by
  have hT := h
  obtain ⟨n, len, op, lo, out⟩ := T
  obtain ⟨vo, vu, rfl, ⟨a, cap, rfl, hl1, ho⟩, ⟨a2, cap2, rfl, hl2, hu⟩⟩ := h
  simp only [] at hn
  subst hn
  have CH := Lib.hid fun (W : World) (hb : Below w.heap.size w W) => changes_tells _ _ vx x W (hT.below hb) hck hcs nn rfl (hx.below hb)
  obtain ⟨xa, xcap, rfl, hx1, hx2⟩ := hx
  have AL := al1 w (.cells #[.int .i64 nn, .slice a len cap, .slice a2 lo cap2] 26)
  clear ho hu hT hck hcs hx2
  go_enter Try.func46, Try.ntmps46
  go_upto_region 1 with fail
  generalize hB : w.heap.size = B at *
  generalize w.alloc (.cells #[.int .i64 nn, .slice a len cap, .slice a2 lo cap2] 26) = X at *
  obtain ⟨x2, x4, x5⟩ := AL
  have p0 := at_block x2 0
  have p1 := at_block x2 1
  have p2 := at_block x2 2
  have pl := lt_block x2
  simp only [List.getElem?_toArray, List.getElem?_cons_zero, List.getElem?_cons_succ] at p0 p1 p2
  refine wp_region_ordR [(1, 3), (2, 1), (0, 0), (3, 0), (4, 1)] (fun W => Below X.heap.size X W) (by kernel_rfl) (by kernel_rfl) (fun _ _ d _ _ h => by cases d <;> exact h) ((Below.refl _ _).drew) ?_
  intro Z hZ hbZ
  clear hZ
  refine wpOrd_keep (v := .agg #[.int .i64 nn, .slice a len cap, .slice a2 lo cap2]) rfl rfl (fun wk hwk => ?_) ?_
  · rw [← (haCell hwk).1 _ _ pl] at p0 p1 p2
    go_simp
  iterate 1
    first
      | refine wpOrd_pure (fun K hK => ?_)
      | refine wpOrd_take (fun K hK => ?_)
    go_simp
    refine hK _ ?_
    clear hK K
  refine wpOrd_doR (fun K hK => ?_)
  go_simp
  refine (floats_tells _).mono ?_
  rintro e w1 ⟨rfl, hb1⟩
  have hb1' := hbZ.trans (hb1.mono hbZ.size)
  refine hK _ _ (fun h => Bool.noConfusion (Eq.trans (Eq.symm (by kernel_rfl : _ = false)) h)) (fun _ => hb1') ?_
  clear hK K
  refine wpOrd_doR (fun K hK => ?_)
  go_simp
  refine (CH.out w1 (x5.trans (hb1'.mono (by omega)))).mono ?_
  rintro e w2 ⟨G, blk, cp, rfl, hg, hb2⟩
  have hb2' := hb1'.trans (hb2.mono hb1'.size)
  refine hK _ _ (fun h => Bool.noConfusion (Eq.trans (Eq.symm (by kernel_rfl : _ = false)) h)) (fun _ => hb2') ?_
  clear hK K
  iterate 1
    first
      | refine wpOrd_pure (fun K hK => ?_)
      | refine wpOrd_take (fun K hK => ?_)
    go_simp
    refine hK _ ?_
    clear hK K
  refine wpOrd_nil ?_
  have hs1 := hb1'.size
  have HG := Lib.hid (hg.base (b' := B) (by omega))
  have HB := Lib.hid (x5.trans (hb2'.mono (by omega)))
  clear hb1 hb1' hb2 hb2' hbZ hg p0 p1 p2
  go_wp2_with fail
  go_ret
  exact ⟨G, blk, cp, rfl, by rw [hB]; exact HG.out, by rw [hB]; exact HB.out⟩
end Go.Proofs.Ytnlbafjmbamoeaa
