/-
  What a step adds: the slope, as the program reckons it.
-/
import Derived.Test.YtnlbafjmbamoeaaCs
namespace Go.Proofs.Ytnlbafjmbamoeaa
open Go.RowKit
open Ieee (double)
attribute [local go_sem] alloc_drewN setCell_drewN call_bits call_frombits ord_lt ord_eq ord_gt ord_ne ord_le ord_ge eqB_self run_fadd run_fsub run_fmul run_fquo haStoreFlt takeOp pureOp readsUpon doOp run_store_fn run_store_fc

theorem even_tells (v : Value) (m n : Nat) (z : Nat → Nat → Nat) (w : World) (h : TabR w v m (fun _ => n) z) :
    Calls Try.prog 42 #[v, .int .i64 n] w (Tells (.bool true) w) := by
  obtain ⟨a, cap, rfl, hn, hc⟩ := h
  have HC := Lib.hid hc
  clear hc
  go_enter Try.func42, Try.ntmps42
  go_wp2_with fail
  go_loop [9] (fun i => ∃ d : Nat, d ≤ m ∧ i = .int .i64 d) (fun i => m - (intOf i).toNat)
  case atStart => exact ⟨0, by omega, rfl⟩
  case round =>
    obtain ⟨d, hd, rfl⟩ := hrel
    by_cases hdn : d < m
    · obtain ⟨b, off, rfl, hbs, hr⟩ := HC.out (by omega)
      obtain ⟨u, hu, a2, cap2, rfl, hu2, -⟩ := hr d hdn
      have hne : ((n : Int) != n) = false := by simp
      have hd1 : (d : Int) < (m : Int) := by omega
      clear hr
      go_wp2_with fail
      go_round
      case rel => exact ⟨d + 1, by omega, by go_num⟩
      case measure => simp [intOf]; omega
    · go_wp2_with fail
      go_ret
      exact ⟨rfl, Below.refl _ _⟩
theorem atF_of (w v : World) {y l u a b c : Nat} (h1 : canon y = a) (h2 : canon l = b) (h3 : canon u = c) : canon (fval .add w y (fval .mul v l u)) = cop .add a (cop .mul b c) := by
  subst h1 h2 h3
  rw [atF_canon]
  simp only [cop_canon_left, cop_canon_right]
theorem slopeF_of (w v : World) {y l u a b : Nat} (h1 : canon y = a) (h3 : canon u = b) : canon (fval .sub w (fval .mul v l y) u) = cop .sub (cop .mul l a) b := by
  subst h1 h3
  rw [slopeF_canon]
  simp only [cop_canon_right]
/-- What a step hangs on. -/
structure CtxAt (w : World) (n : Nat) (T : TD) (vo vu vz vl vw : Value) (m : Nat) (z : Nat → Nat → Nat) (l wt : Nat → Nat) : Prop where
  tape : TapeAt w (.agg #[.int .i64 n, vo, vu]) T
  tab : TabR w vz m (fun _ => n) z
  lrow : FRow w vl m l
  wrow : FRow w vw n wt
theorem CtxAt.below {w w' : World} {n : Nat} {T : TD} {vo vu vz vl vw : Value} {m : Nat} {z : Nat → Nat → Nat} {l wt : Nat → Nat} (h : CtxAt w n T vo vu vz vl vw m z l wt) (hb : Below w.heap.size w w') : CtxAt w' n T vo vu vz vl vw m z l wt :=
  ⟨h.tape.below hb, h.tab.below hb, h.lrow.below hb, h.wrow.below hb⟩
/-- All that tries hang on, in a block. -/
def WK (b n : Nat) (vo vu vz vl vw : Value) (h : Nat) (p1 p2 : Value) (w : World) : Prop := w.heap[b]? = some (.cells #[.int .i64 n, vo, vu, vz, vl, vw, .float .f64 h, p1, p2] 59)
theorem WK.below {b n : Nat} {vo vu vz vl vw : Value} {h : Nat} {p1 p2 : Value} {w w' : World} (k : WK b n vo vu vz vl vw h p1 p2 w) (hb : Below w.heap.size w w') : WK b n vo vu vz vl vw h p1 p2 w' := (hb.block b (lt_block k)).trans k
theorem WK.cells {b n : Nat} {vo vu vz vl vw : Value} {h : Nat} {p1 p2 : Value} {w : World} (k : WK b n vo vu vz vl vw h p1 p2 w) :
    w.cell? ⟨b, 0, none⟩ = some (.int .i64 n) ∧ w.cell? ⟨b, 1, none⟩ = some vo ∧ w.cell? ⟨b, 2, none⟩ = some vu ∧ w.cell? ⟨b, 3, none⟩ = some vz ∧ w.cell? ⟨b, 4, none⟩ = some vl ∧ w.cell? ⟨b, 5, none⟩ = some vw ∧ w.cell? ⟨b, 6, none⟩ = some (.float .f64 h) ∧ w.cell? ⟨b, 7, none⟩ = some p1 ∧ w.cell? ⟨b, 8, none⟩ = some p2 ∧ b < w.heap.size := by
  refine ⟨?_, ?_, ?_, ?_, ?_, ?_, ?_, ?_, ?_, lt_block k⟩ <;> (rw [at_block k]; rfl)
/-- Row i of a table that has one. -/
theorem TabR.rowAt {w : World} {v : Value} {m n : Nat} {z : Nat → Nat → Nat} (h : TabR w v m (fun _ => n) z) (h0 : 0 < m) : ∃ b off cap, v = .slice (some ⟨b, off, none⟩) m cap ∧ b < w.heap.size ∧ ∀ i, i < m → ∃ p c, w.cell? ⟨b, off + i, none⟩ = some (.slice p n c) ∧ FRow w (.slice p n c) n (z i) := by
  obtain ⟨a, cap, rfl, hn, hc⟩ := h
  obtain ⟨b, off, rfl, hb, hr⟩ := hc h0
  refine ⟨b, off, cap, rfl, hb, fun i hi => ?_⟩
  obtain ⟨u, hu, p, c, rfl, h2, h3⟩ := hr i hi
  exact ⟨p, c, hu, _, c, rfl, h2, h3⟩
/-- Number i of a row that has one. -/
theorem FRow.numAt {w : World} {v : Value} {n : Nat} {f : Nat → Nat} (h : FRow w v n f) (h0 : 0 < n) : ∃ b off cap, v = .slice (some ⟨b, off, none⟩) n cap ∧ b < w.heap.size ∧ ∀ i, i < n → FCell w b (off + i) (f i) := by
  obtain ⟨a, cap, rfl, hn, hc⟩ := h
  obtain ⟨b, off, rfl, hb, hr⟩ := hc h0
  exact ⟨b, off, cap, rfl, hb, hr⟩
set_option maxRecDepth 100000 in
set_option maxHeartbeats 4000000 in
theorem slope_tells (n : Nat) (T : TD) (vo vu vz vl vw vd p1 p2 : Value) (m : Nat) (z : Nat → Nat → Nat) (l wt d : Nat → Nat) (h b : Nat) (w : World) (hx : CtxAt w n T vo vu vz vl vw m z l wt) (hw : WK b n vo vu vz vl vw h p1 p2 w) (hd : FRow w vd n d)
    (hck : checkB T = true) (hcs : ∀ i, i < T.len → (T.op i).c < 18446744073709551616) (hn : T.n = n) (h1 : 1 ≤ n) (h4 : n ≤ 4) (hm : 2 ≤ m) :
    Calls Try.prog 44 #[.pointer (some ⟨b, 0, none⟩), vd] w (OwnT n (slopeF T (z 0) (z 1) (l 0) h d) w) := by
  obtain ⟨bz, oz, cz, rfl, hbz, hz⟩ := hx.tab.rowAt (by omega)
  obtain ⟨pz0, cz0, z0, hz0⟩ := hz 0 (by omega)
  obtain ⟨pz1, cz1, z1, hz1⟩ := hz 1 (by omega)
  obtain ⟨b0, o0, c0, hv0, hb0, hr0⟩ := hz0.numAt (by omega)
  obtain ⟨b1, o1, c1, hv1, hb1, hr1⟩ := hz1.numAt (by omega)
  simp only [Value.slice.injEq, true_and] at hv0 hv1
  obtain ⟨rfl, rfl⟩ := hv0
  obtain ⟨rfl, rfl⟩ := hv1
  obtain ⟨bl, ol, cl, rfl, hbl', hl⟩ := hx.lrow.numAt (by omega)
  obtain ⟨y0, ly1, ly2, ly3⟩ := hl 0 (by omega)
  obtain ⟨bd, od, cd, rfl, hbd, hdr⟩ := hd.numAt (by omega)
  rw [Nat.add_zero] at z0 ly1
  have EV := Lib.hid (fun (W : World) (vy : Value) (hb : Below w.heap.size w W) hy => eval_own T (.agg #[.int .i64 n, vo, vu]) vy (atF (z 0) d (l 0)) W (hx.tape.below hb) hck hcs n hn hy)
  have HR0 := Lib.hid hr0
  have HR1 := Lib.hid hr1
  have HDR := Lib.hid hdr
  have HW := Lib.hid hw
  obtain ⟨iF, hF, f1, f2, f3⟩ := info_parts infoF
  have HF := Lib.hid (show iF.zero = _ ∧ iF.size = _ ∧ iF.bytes = _ from ⟨f1, f2, f3⟩)
  have HF0 := Lib.hid hF
  have hm0 : 0 < m := by omega
  have hm1 : (1 : Int) < (m : Int) := by omega
  clear hx hw hd hck hcs hz hz0 hz1 hr0 hr1 hl hdr hF f1 f2 f3
  go_enter Try.func44, Try.ntmps44
  generalize hB : w.heap.size = B at *
  go_wp2_with (first
    | (refine wpList_make_full _ rfl _ _ _ rfl B 32 iF (.float .f64 0) 1 Try.underlying31 HF0.out HF.out.1 HF.out.2.1 .i64 .i64 (n : Int) (n : Int) n rfl rfl rfl rfl (by rw [HF.out.2.2]; omega) (by unfold maxLen; omega) (by omega) ?_)
    | fail)
  intro w2 hr1 hg1
  have hb2 : Below B w w2 := (Below.refl _ w).grown hg1 (by omega) (fun k hk => by cases hk)
  have HO := Lib.hid (ownF_made hr1)
  clear hr1 hg1
  go_upto_region 2 with fail
  go_upto_block 0 with fail
  go_cut [] (fun wx => OwnF wx B B n n (atF (z 0) d (l 0)) ∧ Below B w wx)
  case first =>
    go_wp2_with fail
    go_loopw [14] (fun i wr => ∃ (e : Nat) (q : Nat → Nat), e ≤ n ∧ i = .int .i64 e ∧ OwnF wr B B n n q ∧ (∀ k, k < e → q k = atF (z 0) d (l 0) k) ∧ Below B w wr) (fun i _ => n - (intOf i).toNat)
    case atStart => exact ⟨0, _, by omega, rfl, HO.out, fun k hk => by omega, hb2⟩
    case round =>
      clear HO hb2
      obtain ⟨e, q, he, rfl, ho, hh, hbl⟩ := hrel
      by_cases hen : e < n
      · obtain ⟨y, y1, y2, y3⟩ := HR0.out e hen
        obtain ⟨u, u1, u2, u3⟩ := HDR.out e hen
        rw [← hbl.cell (p := ⟨b0, o0 + e, none⟩) hb0] at y1
        rw [← hbl.cell (p := ⟨bd, od + e, none⟩) hbd] at u1
        have lz0 := (hbl.cell (p := ⟨bz, oz, none⟩) hbz).trans z0
        have ll := (hbl.cell (p := ⟨bl, ol, none⟩) hbl').trans ly1
        obtain ⟨w0, w1, w2', w3, w4, w5, w6, w7, w8, w9⟩ := (HW.out.below (hB ▸ hbl)).cells
        obtain ⟨v, v1, -, -⟩ := ho.cell hen
        have r1 := ho.free e
        have K1 := Lib.hid (fun w v => atF_of w v y2 ly2 u2)
        have HO := Lib.hid ho
        have HH := Lib.hid hh
        have HBL := Lib.hid hbl
        have e1 : (e : Int) < (n : Int) := by omega
        clear y2 u2 ho hh hbl w0 w1 w2' w5 w6 w7 w8
        go_wp2_with fail
        refine wp_region_ord [(0, 1), (1, 1), (2, 1), (3, 1), (4, 1), (5, 2), (6, 1), (7, 2), (8, 1), (9, 1), (10, 2), (11, 1), (12, 1), (13, 1), (14, 2), (15, 1), (16, 2), (17, 1), (18, 1), (19, 1), (20, 2), (21, 0), (22, 0), (23, 1), (24, 0)] (by kernel_rfl) (by kernel_rfl) (fun _ _ d _ _ h => by cases d <;> exact h) ?_
        intro Z hZ
        have hz : ∀ b o, Z.cell? ⟨b, o, none⟩ = wr.cell? ⟨b, o, none⟩ := fun b o => by rw [hZ]; rfl
        have hz2 : ∀ b o, Z.frozen? ⟨b, o, none⟩ = wr.frozen? ⟨b, o, none⟩ := fun b o => by rw [hZ]; rfl
        have HZ := Lib.hid (show OwnF Z B B n n q ∧ Below B w Z by rw [hZ]; exact ⟨HO.out.drew, HBL.out.drew⟩)
        rw [← hz] at y1 u1 lz0 ll w3 w4 v1
        rw [← hz2] at r1
        clear hZ hz hz2 HO HBL
        iterate 21
          first
            | refine wpOrd_pure (fun K hK => ?_)
            | refine wpOrd_take (fun K hK => ?_)
          go_simp
          refine hK _ ?_
          clear hK K
        refine wpOrd_do (fun K hK => ?_)
        go_simp
        refine hK _ _ (fun _ => ⟨_, rfl⟩) ?_
        clear hK K
        refine wpOrd_do (fun K hK => ?_)
        go_simp
        refine hK _ _ (fun _ => ⟨_, rfl⟩) ?_
        clear hK K
        iterate 1
          first
            | refine wpOrd_pure (fun K hK => ?_)
            | refine wpOrd_take (fun K hK => ?_)
          go_simp
          refine hK _ ?_
          clear hK K
        refine wpOrd_do (fun K hK => ?_)
        go_simp
        refine hK _ _ (fun h => Bool.noConfusion (Eq.trans (Eq.symm (by kernel_rfl : _ = false)) h)) ?_
        clear hK K
        refine wpOrd_nil ?_
        have REL := Lib.hid (show OwnF _ B B n n (updN q e (atF (z 0) d (l 0) e)) ∧ Below B w _ from ⟨(HZ.out.1.set hen (K1.out (Z.drewN (ndraw .mul y0 u)) Z) (fval_lt _ _ _ _)).drewN (ndraw .mul y0 u + ndraw .add y (fval .mul Z y0 u)), below_drewN (HZ.out.2.setCell (p := ⟨B, e, none⟩) (Nat.le_refl _) (.float .f64 (fval .add (Z.drewN (ndraw .mul y0 u)) y (fval .mul Z y0 u)))) (ndraw .mul y0 u + ndraw .add y (fval .mul Z y0 u))⟩)
        go_wp2_with fail
        go_roundw
        case rel => exact ⟨e + 1, _, by omega, by go_num, REL.out.1, fun k hk => by
          by_cases hkd : k = e
          · subst hkd; rw [updN_at]
          · rw [updN_ne _ _ hkd]; exact HH.out k (by omega), REL.out.2⟩
        case measure => simp [intOf]; omega
      · obtain rfl : n = e := by omega
        go_wp2_with fail
        go_meet
        exact ⟨ho.congr hh, hbl⟩
  case rest =>
    obtain ⟨ho, hbl⟩ := hcut
    have HO := Lib.hid ho
    have HBL := Lib.hid hbl
    obtain ⟨w0, w1, w2', w3, w4, w5, w6, w7, w8, w9⟩ := (HW.out.below (hB ▸ hbl)).cells
    clear ho hbl w3 w4 w5 w6 w7 w8 hb2
    go_wp2_with fail
    refine (EV.out wc _ HBL.out (HO.out.flts (by omega))).mono ?_
    rintro e w3 ⟨R, rfl, hg, hb3⟩
    have hsz := HBL.out.size
    have HG := Lib.hid (hg.base (b' := B) (by have := hg.lt; omega))
    have HB3 := Lib.hid (HBL.out.trans (hb3.mono (by omega)))
    have hRB : B ≤ R := by have := hg.lt; omega
    clear hg hb3 w0 w1 w2'
    go_wp2_with fail
    go_loopw [50] (fun i wr => ∃ (e : Nat) (q : Nat → Nat), e ≤ n ∧ i = .int .i64 e ∧ OwnF wr B R n n q ∧ (∀ k, k < e → q k = slopeF T (z 0) (z 1) (l 0) h d k) ∧ (∀ k, e ≤ k → q k = evR T.op (atF (z 0) d (l 0)) (T.out k).toNat) ∧ Below B w wr) (fun i _ => n - (intOf i).toNat)
    case atStart => exact ⟨0, _, by omega, rfl, HG.out, fun k hk => by omega, fun k hk => rfl, HB3.out⟩
    case round =>
      clear HG HB3
      obtain ⟨e, q, he, rfl, ho, hh, hh2, hbl⟩ := hrel
      by_cases hen : e < n
      · obtain ⟨u, u1, u2, u3⟩ := HR1.out e hen
        rw [← hbl.cell (p := ⟨b1, o1 + e, none⟩) hb1] at u1
        have lz1 := (hbl.cell (p := ⟨bz, oz + 1, none⟩) hbz).trans z1
        obtain ⟨w0, w1, w2', w3, w4, w5, w6, w7, w8, w9⟩ := (HW.out.below (hB ▸ hbl)).cells
        obtain ⟨v, v1, v2, -⟩ := ho.cell hen
        rw [hh2 e (by omega)] at v2
        have r1 := ho.free e
        have K1 := Lib.hid (fun w v => slopeF_of w v (l := h) v2 u2)
        have HO := Lib.hid ho
        have HH := Lib.hid hh
        have HH2 := Lib.hid hh2
        have HBL := Lib.hid hbl
        have e1 : (e : Int) < (n : Int) := by omega
        clear v2 u2 ho hh hh2 hbl w0 w1 w2' w4 w5 w7 w8
        go_wp2_with fail
        refine wp_region_ord [(0, 1), (1, 1), (2, 1), (3, 1), (4, 1), (5, 2), (6, 1), (7, 1), (8, 1), (9, 2), (11, 1), (12, 1), (13, 1), (14, 2), (15, 1), (16, 2), (17, 1), (18, 1), (19, 2), (10, 0), (20, 0), (21, 1), (22, 0)] (by kernel_rfl) (by kernel_rfl) (fun _ _ d _ _ h => by cases d <;> exact h) ?_
        intro Z hZ
        have hz : ∀ b o, Z.cell? ⟨b, o, none⟩ = wr.cell? ⟨b, o, none⟩ := fun b o => by rw [hZ]; rfl
        have hz2 : ∀ b o, Z.frozen? ⟨b, o, none⟩ = wr.frozen? ⟨b, o, none⟩ := fun b o => by rw [hZ]; rfl
        have HZ := Lib.hid (show OwnF Z B R n n q ∧ Below B w Z by rw [hZ]; exact ⟨HO.out.drew, HBL.out.drew⟩)
        rw [← hz] at u1 lz1 w3 w6 v1
        rw [← hz2] at r1
        clear hZ hz hz2 HO HBL
        iterate 19
          first
            | refine wpOrd_pure (fun K hK => ?_)
            | refine wpOrd_take (fun K hK => ?_)
          go_simp
          refine hK _ ?_
          clear hK K
        refine wpOrd_do (fun K hK => ?_)
        go_simp
        refine hK _ _ (fun _ => ⟨_, rfl⟩) ?_
        clear hK K
        refine wpOrd_do (fun K hK => ?_)
        go_simp
        refine hK _ _ (fun _ => ⟨_, rfl⟩) ?_
        clear hK K
        iterate 1
          first
            | refine wpOrd_pure (fun K hK => ?_)
            | refine wpOrd_take (fun K hK => ?_)
          go_simp
          refine hK _ ?_
          clear hK K
        refine wpOrd_do (fun K hK => ?_)
        go_simp
        refine hK _ _ (fun h => Bool.noConfusion (Eq.trans (Eq.symm (by kernel_rfl : _ = false)) h)) ?_
        clear hK K
        refine wpOrd_nil ?_
        have REL := Lib.hid (show OwnF _ B R n n (updN q e (slopeF T (z 0) (z 1) (l 0) h d e)) ∧ Below B w _ from ⟨(HZ.out.1.set hen (K1.out (Z.drewN (ndraw .mul h v)) Z) (fval_lt _ _ _ _)).drewN (ndraw .mul h v + ndraw .sub (fval .mul Z h v) u), below_drewN (HZ.out.2.setCell (p := ⟨R, e, none⟩) hRB (.float .f64 (fval .sub (Z.drewN (ndraw .mul h v)) (fval .mul Z h v) u))) (ndraw .mul h v + ndraw .sub (fval .mul Z h v) u)⟩)
        go_wp2_with fail
        go_roundw
        case rel => exact ⟨e + 1, _, by omega, by go_num, REL.out.1, fun k hk => by
          by_cases hkd : k = e
          · subst hkd; rw [updN_at]
          · rw [updN_ne _ _ hkd]; exact HH.out k (by omega), fun k hk => by rw [updN_ne _ _ (by omega)]; exact HH2.out k (by omega), REL.out.2⟩
        case measure => simp [intOf]; omega
      · obtain rfl : n = e := by omega
        go_wp2_with fail
        go_ret
        exact ⟨_, rfl, by rw [hB]; exact ho.congr hh, by rw [hB]; exact hbl⟩
end Go.Proofs.Ytnlbafjmbamoeaa
