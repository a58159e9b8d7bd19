/-
  What a step adds: the equations of the Bdf tries, parted by the program.
-/
import Derived.Test.YtnlbafjmbamoeaaCu
namespace Go.Proofs.Ytnlbafjmbamoeaa
open Go.RowKit
open Ieee (double)
attribute [local go_sem] alloc_drewN setCell_drewN call_bits call_frombits ord_lt ord_eq ord_gt ord_ne ord_le ord_ge eqB_self run_fadd run_fsub run_fmul run_fquo haStoreFlt takeOp pureOp readsUpon doOp run_store_fn run_store_fc run_store_slice

set_option maxRecDepth 100000 in
set_option maxHeartbeats 4000000 in
theorem wstands_tells (n : Nat) (T : TD) (vo vu vz vl vw p1 p2 : Value) (m : Nat) (z : Nat → Nat → Nat) (l wt : Nat → Nat) (h b : Nat) (w : World) (hx : CtxAt w n T vo vu vz vl vw m z l wt) (hw : WK b n vo vu vz vl vw h p1 p2 w)
    (hck : checkB T = true) (hm : 2 ≤ m) (h1 : 1 ≤ n) :
    Calls Try.prog 19 #[.pointer (some ⟨b, 0, none⟩)] w (Tells (.bool true) w) := by
  have CK := Lib.hid (fun W (hb : Below w.heap.size w W) => (check_tells T _ W (hx.tape.below hb)).mono fun _ _ h => h.eq (by rw [hck]))
  have EV := Lib.hid (fun W (hb : Below w.heap.size w W) => even_tells vz m n z W (hx.tab.below hb))
  obtain ⟨bz, oz, cz, rfl, -, -⟩ := hx.tab.rowAt (by omega)
  obtain ⟨bl, ol, cl, rfl, -, -⟩ := hx.lrow.numAt (by omega)
  obtain ⟨bw, ow, cw, rfl, -, -⟩ := hx.wrow.numAt (by omega)
  have hm2 : decide (2 ≤ (m : Int)) = true := by simp; omega
  have hm2' : (2 : Int) ≤ (m : Int) := by omega
  have hmm : ((m : Int) == m) = true := by simp
  have hnn : ((n : Int) == n) = true := by simp
  have HW := Lib.hid hw
  obtain ⟨w0, w1', w2', w3, w4, w5, w6, w7, w8, w9⟩ := hw.cells
  clear hx hck hw w6 w7 w8
  go_enter Try.func19, Try.ntmps19
  go_wp2_with fail
  refine wp_region_ordR [(0, 1), (1, 1), (2, 1), (3, 3), (4, 0), (5, 1), (6, 1), (7, 1), (8, 1), (9, 3), (10, 1), (11, 1), (12, 1), (13, 1), (14, 1), (15, 1), (16, 1), (17, 3), (18, 1), (19, 0), (20, 1), (21, 1), (22, 1), (23, 1), (24, 1), (25, 3), (26, 1), (27, 1), (28, 1), (29, 1), (30, 3), (31, 1), (32, 1), (33, 1), (34, 1), (35, 1), (36, 1), (37, 1), (38, 3), (39, 1), (40, 1), (41, 1), (42, 1), (43, 1)] (fun W => Below w.heap.size w W) (by kernel_rfl) (by kernel_rfl) (fun _ _ d _ _ h => by cases d <;> exact h) ((Below.refl _ _).drew) ?_
  intro Z hZ hbZ
  clear hZ
  iterate 3
    first
      | refine wpOrd_pure (fun K hK => ?_)
      | refine wpOrd_take (fun K hK => ?_)
    go_simp
    refine hK _ ?_
    clear hK K
  refine wpOrd_keep (v := .agg #[.int .i64 n, vo, vu]) rfl rfl (fun wk hwk => ?_) ?_
  · rw [← (haCell hwk).1 _ _ w9] at w0 w1' w2'
    go_simp
  refine wpOrd_doR (fun K hK => ?_)
  go_simp
  refine (CK.out Z hbZ).mono ?_
  rintro e w1 ⟨rfl, hb1⟩
  have hbA := hbZ.trans (hb1.mono hbZ.size)
  refine hK _ _ (fun h => Bool.noConfusion (Eq.trans (Eq.symm (by kernel_rfl : _ = false)) h)) (fun _ => hbA) ?_
  clear hK K
  iterate 4
    first
      | refine wpOrd_pure (fun K hK => ?_)
      | refine wpOrd_take (fun K hK => ?_)
    go_simp
    refine hK _ ?_
    clear hK K
  refine wpOrd_keep (v := .slice (some ⟨bz, oz, none⟩) m cz) rfl rfl (fun wk hwk => ?_) ?_
  · rw [← (haCell hwk).1 _ _ w9] at w3
    go_simp
  iterate 7
    first
      | refine wpOrd_pure (fun K hK => ?_)
      | refine wpOrd_take (fun K hK => ?_)
    go_simp
    refine hK _ ?_
    clear hK K
  refine wpOrd_keep (v := .slice (some ⟨bz, oz, none⟩) m cz) rfl rfl (fun wk hwk => ?_) ?_
  · rw [← (haCell hwk).1 _ _ w9] at w3
    go_simp
  iterate 1
    first
      | refine wpOrd_pure (fun K hK => ?_)
      | refine wpOrd_take (fun K hK => ?_)
    go_simp
    refine hK _ ?_
    clear hK K
  refine wpOrd_doR (fun K hK => ?_)
  go_simp
  refine (EV.out w1 hbA).mono ?_
  rintro e w2 ⟨rfl, hb2⟩
  have hbB := hbA.trans (hb2.mono hbA.size)
  refine hK _ _ (fun h => Bool.noConfusion (Eq.trans (Eq.symm (by kernel_rfl : _ = false)) h)) (fun _ => hbB) ?_
  clear hK K
  iterate 5
    first
      | refine wpOrd_pure (fun K hK => ?_)
      | refine wpOrd_take (fun K hK => ?_)
    go_simp
    refine hK _ ?_
    clear hK K
  refine wpOrd_keep (v := .slice (some ⟨bl, ol, none⟩) m cl) rfl rfl (fun wk hwk => ?_) ?_
  · rw [← (haCell hwk).1 _ _ w9] at w4
    go_simp
  iterate 4
    first
      | refine wpOrd_pure (fun K hK => ?_)
      | refine wpOrd_take (fun K hK => ?_)
    go_simp
    refine hK _ ?_
    clear hK K
  refine wpOrd_keep (v := .slice (some ⟨bz, oz, none⟩) m cz) rfl rfl (fun wk hwk => ?_) ?_
  · rw [← (haCell hwk).1 _ _ w9] at w3
    go_simp
  iterate 7
    first
      | refine wpOrd_pure (fun K hK => ?_)
      | refine wpOrd_take (fun K hK => ?_)
    go_simp
    refine hK _ ?_
    clear hK K
  refine wpOrd_keep (v := .slice (some ⟨bw, ow, none⟩) n cw) rfl rfl (fun wk hwk => ?_) ?_
  · rw [← (haCell hwk).1 _ _ w9] at w5
    go_simp
  iterate 5
    first
      | refine wpOrd_pure (fun K hK => ?_)
      | refine wpOrd_take (fun K hK => ?_)
    go_simp
    refine hK _ ?_
    clear hK K
  refine wpOrd_nil ?_
  have HB := Lib.hid hbB
  clear hbZ hb1 hbA hb2 hbB w0 w1' w2' w3 w4 w5
  go_wp2_with fail
  go_ret
  exact ⟨rfl, HB.out⟩
/-- What the equations of the Bdf tries have on their left. -/
def newtF (T : TD) (z0 : Nat → Nat) (l0 h : Nat) (i j : Nat) : Nat := cop .sub (if i = j then 4607182418800017408 else 0) (cop .mul (cop .mul h l0) (dvR T.op z0 (T.out i).toNat j))
/-- A table of which what lies ahead of i, j was turned. -/
def mixF (N J : Nat → Nat → Nat) (i j a c : Nat) : Nat := if a < i ∨ (a = i ∧ c < j) then N a c else J a c
theorem mixF_start (N J : Nat → Nat → Nat) (a c : Nat) : mixF N J 0 0 a c = J a c := by unfold mixF; rw [if_neg (by omega)]
theorem mixF_row (N J : Nat → Nat → Nat) (i n a c : Nat) (hc : c < n) : mixF N J i n a c = mixF N J (i + 1) 0 a c := by
  unfold mixF
  by_cases h : a < i ∨ (a = i ∧ c < n)
  · rw [if_pos h, if_pos (by omega)]
  · rw [if_neg h, if_neg (by omega)]
theorem mixF_end (N J : Nat → Nat → Nat) (n a c : Nat) (ha : a < n) : mixF N J n 0 a c = N a c := by unfold mixF; rw [if_pos (by omega)]
theorem mixF_at (N J : Nat → Nat → Nat) (i j : Nat) : mixF N J i j i j = J i j := by unfold mixF; rw [if_neg (by omega)]
theorem mixF_set (N J : Nat → Nat → Nat) (i j a c : Nat) : updN2 (mixF N J i j) i j (N i j) a c = mixF N J i (j + 1) a c := by
  by_cases h : a = i ∧ c = j
  · obtain ⟨rfl, rfl⟩ := h
    rw [updN2_at]
    unfold mixF
    rw [if_pos (by omega)]
  · rw [updN2_ne _ _ (by omega)]
    unfold mixF
    by_cases g : a < i ∨ (a = i ∧ c < j)
    · rw [if_pos g, if_pos (by omega)]
    · rw [if_neg g, if_neg (by omega)]
theorem newt_of (w v : World) {o y u a b : Nat} (h2 : canon y = a) (h3 : canon u = b) : canon (fval .sub w o (fval .mul v y u)) = cop .sub o (cop .mul a b) := by
  subst h2 h3
  rw [canon_fval, ← cop_canon_right, canon_fval]
  simp only [cop_canon_left, cop_canon_right]
/-- What parting leaves in the block: the parts; or nothing. -/
def PartW (b n : Nat) (vo vu vz vl vw : Value) (h : Nat) (o : Option ((Nat → Nat → Nat) × (Nat → Nat))) (w : World) (e : Ending) (w' : World) : Prop :=
  Keep w b w' ∧ match o with
  | none => e = .returned (.bool false)
  | some (g, q) => e = .returned (.bool true) ∧ ∃ p1 p2, WK b n vo vu vz vl vw h p1 p2 w' ∧ TabR w' p1 n (fun _ => n) g ∧ Ints0 w' p2 n (fun i => (q i : Int))
theorem heap_put {w : World} {b o : Nat} {cs : Array Value} {t : TypeId} {fr : Nat × Nat} (h : w.heap[b]? = some (.cells cs t fr)) (v : Value) : (w.setCell ⟨b, o, none⟩ v).heap[b]? = some (.cells (cs.setIfInBounds o v) t fr) := by
  simp only [World.setCell, Array.getElem?_modify, if_true, h]
  rfl
theorem WK.put {b n : Nat} {vo vu vz vl vw : Value} {h : Nat} {p1 p2 : Value} {w : World} (k : WK b n vo vu vz vl vw h p1 p2 w) (u v : Value) : WK b n vo vu vz vl vw h u v ((w.setCell ⟨b, 7, none⟩ u).setCell ⟨b, 8, none⟩ v) := by
  unfold WK
  rw [heap_put (heap_put k u) v]
  rfl
set_option maxRecDepth 100000 in
set_option maxHeartbeats 4000000 in
theorem wpart_tells (n : Nat) (T : TD) (vo vu vz vl vw p1 p2 : Value) (m : Nat) (z : Nat → Nat → Nat) (l wt : Nat → Nat) (h b : Nat) (w : World) (hx : CtxAt w n T vo vu vz vl vw m z l wt) (hw : WK b n vo vu vz vl vw h p1 p2 w)
    (hck : checkB T = true) (hcs : ∀ i, i < T.len → (T.op i).c < 18446744073709551616) (hn : T.n = n) (h1 : 1 ≤ n) (h4 : n ≤ 4) (hm : 2 ≤ m) :
    Calls Try.prog 22 #[.pointer (some ⟨b, 0, none⟩)] w (PartW b n vo vu vz vl vw h (partF (newtF T (z 0) (l 0) h) n n) w) := by
  obtain ⟨bz, oz, cz, rfl, hbz, hz⟩ := hx.tab.rowAt (by omega)
  obtain ⟨pz0, cz0, z0, hz0⟩ := hz 0 (by omega)
  obtain ⟨bl, ol, cl, rfl, hbl', hl⟩ := hx.lrow.numAt (by omega)
  obtain ⟨y0, ly1, ly2, ly3⟩ := hl 0 (by omega)
  rw [Nat.add_zero] at z0 ly1
  have JC := Lib.hid (fun (W : World) (hb : Below w.heap.size w W) => jac_tells T _ (.slice pz0 n cz0) (z 0) W (hx.tape.below hb) hck hcs n hn (hz0.below hb))
  have HW := Lib.hid hw
  have hm0 : 0 < m := by omega
  obtain ⟨w0, w1', w2', w3, w4, w5, w6, w7, w8, w9⟩ := hw.cells
  clear hx hw hck hcs hz hl hz0 w5 w7 w8
  go_enter Try.func22, Try.ntmps22
  go_wp2_with fail
  refine wp_region_ordR [(0, 1), (1, 1), (2, 1), (3, 3), (4, 1), (5, 1), (6, 1), (7, 3), (8, 1), (9, 3), (10, 0), (11, 1)] (fun W => Below w.heap.size w W) (by kernel_rfl) (by kernel_rfl) (fun _ _ d _ _ h => by cases d <;> exact h) ((Below.refl _ _).drew) ?_
  intro Z hZ hbZ
  clear hZ
  iterate 3
    first
      | refine wpOrd_pure (fun K hK => ?_)
      | refine wpOrd_take (fun K hK => ?_)
    go_simp
    refine hK _ ?_
    clear hK K
  refine wpOrd_keep (v := .agg #[.int .i64 n, vo, vu]) rfl rfl (fun wk hwk => ?_) ?_
  · rw [← (haCell hwk).1 _ _ w9] at w0 w1' w2'
    go_simp
  iterate 3
    first
      | refine wpOrd_pure (fun K hK => ?_)
      | refine wpOrd_take (fun K hK => ?_)
    go_simp
    refine hK _ ?_
    clear hK K
  refine wpOrd_keep (v := .slice (some ⟨bz, oz, none⟩) m cz) rfl rfl (fun wk hwk => ?_) ?_
  · rw [← (haCell hwk).1 _ _ w9] at w3
    go_simp
  iterate 1
    first
      | refine wpOrd_pure (fun K hK => ?_)
      | refine wpOrd_take (fun K hK => ?_)
    go_simp
    refine hK _ ?_
    clear hK K
  refine wpOrd_keep (v := .slice pz0 n cz0) rfl rfl (fun wk hwk => ?_) ?_
  · rw [← (haCell hwk).1 _ _ hbz] at z0
    go_simp
  refine wpOrd_doR (fun K hK => ?_)
  go_simp
  refine (JC.out Z hbZ).mono ?_
  rintro e w1 ⟨G, blk, cp, rfl, hg, hb1⟩
  have hbA := hbZ.trans (hb1.mono hbZ.size)
  refine hK _ _ (fun h => Bool.noConfusion (Eq.trans (Eq.symm (by kernel_rfl : _ = false)) h)) (fun _ => hbA) ?_
  clear hK K
  iterate 1
    first
      | refine wpOrd_pure (fun K hK => ?_)
      | refine wpOrd_take (fun K hK => ?_)
    go_simp
    refine hK _ ?_
    clear hK K
  refine wpOrd_nil ?_
  have HG := Lib.hid (hg.base (b' := w.heap.size) hbZ.size)
  have HB1 := Lib.hid hbA
  have hs1 := hbA.size
  obtain ⟨w0, w1', w2', w3, w4, w5, w6, w7, w8, w9'⟩ := (HW.out.below hbA).cells
  have ll := (hbA.cell (p := ⟨bl, ol, none⟩) hbl').trans ly1
  clear hbZ hg hb1 hbA w0 w1' w2' w3 w5 w7 w8 z0 ly1
  go_wp2_with fail
  refine wp_region_ord [(0, 1), (1, 1), (2, 1), (3, 2), (4, 1), (5, 1), (6, 1), (7, 2), (8, 1), (9, 2), (10, 0), (11, 1)] (by kernel_rfl) (by kernel_rfl) (fun _ _ d _ _ h => by cases d <;> exact h) ?_
  intro Z hZ
  have hzz : ∀ b o, Z.cell? ⟨b, o, none⟩ = w1.cell? ⟨b, o, none⟩ := fun b o => by rw [hZ]; rfl
  have HZ := Lib.hid (show Grid Z w.heap.size G n n blk cp _ ∧ Below w.heap.size w Z by rw [hZ]; exact ⟨HG.out.drew, HB1.out.drew⟩)
  rw [← hzz] at w4 w6 ll
  clear hZ hzz HG HB1
  iterate 10
    first
      | refine wpOrd_pure (fun K hK => ?_)
      | refine wpOrd_take (fun K hK => ?_)
    go_simp
    refine hK _ ?_
    clear hK K
  refine wpOrd_do (fun K hK => ?_)
  go_simp
  refine hK _ _ (fun _ => ⟨_, rfl⟩) ?_
  clear hK K
  iterate 1
    first
      | refine wpOrd_pure (fun K hK => ?_)
      | refine wpOrd_take (fun K hK => ?_)
    go_simp
    refine hK _ ?_
    clear hK K
  refine wpOrd_nil ?_
  have HY := Lib.hid (show canon (fval .mul Z h y0) = cop .mul h (l 0) by rw [canon_fval, ← ly2, cop_canon_right])
  have HG := Lib.hid (show Grid (Z.drewN (ndraw .mul h y0)) w.heap.size G n n blk cp _ from HZ.out.1.below (below_drewN (Below.refl _ _) _))
  have HB1 := Lib.hid (below_drewN HZ.out.2 (ndraw .mul h y0))
  clear w4 w6 ll HZ ly2 ly3
  generalize Z.drewN (ndraw .mul h y0) = W2 at *
  generalize fval .mul Z h y0 = by_ at *
  have hOF := Lib.hid (show ∀ i j, newtF T (z 0) (l 0) h i j = cop .sub (if i = j then 4607182418800017408 else 0) (cop .mul (canon by_) (dvR T.op (z 0) (T.out i).toNat j)) from fun i j => by rw [HY.out]; rfl)
  generalize newtF T (z 0) (l 0) h = N at *
  generalize hJe : (fun i => dvR T.op (z 0) (T.out i).toNat) = J at *
  have HJ := Lib.hid (show ∀ i, dvR T.op (z 0) (T.out i).toNat = J i from fun i => by rw [← hJe])
  have HG0 := Lib.hid (HG.out.congr (fun a c _ _ => (mixF_start N J a c).symm))
  clear hJe HG HY
  go_wp2_with fail
  go_loopw [34] (fun i wr => ∃ e : Nat, e ≤ n ∧ i = .int .i64 e ∧ Grid wr w.heap.size G n n blk cp (mixF N J e 0) ∧ Below w.heap.size w wr) (fun i _ => n - (intOf i).toNat)
  case atStart => exact ⟨0, by omega, rfl, HG0.out, HB1.out⟩
  case round =>
    clear HG0 HB1
    obtain ⟨e, he, rfl, hg, hbl⟩ := hrel
    by_cases hen : e < n
    · have r0 := hg.ref e hen
      have HG := Lib.hid hg
      have HBL := Lib.hid hbl
      have e1 : (e : Int) < (n : Int) := by omega
      clear hg hbl
      go_wp2_with fail
      generalize wr = WO at *
      go_loopw [41] (fun i wr => ∃ c : Nat, c ≤ n ∧ i = .int .i64 c ∧ Grid wr w.heap.size G n n blk cp (mixF N J e c) ∧ Below w.heap.size w wr) (fun i _ => n - (intOf i).toNat)
      case atStart => exact ⟨0, by omega, rfl, HG.out, HBL.out⟩
      case round =>
        clear HG HBL r0
        obtain ⟨c, hc, rfl, hg, hbl⟩ := hrel
        by_cases hcn : c < n
        · obtain ⟨u, u1, u2, u3⟩ := (hg.row e hen).cell hcn
          have f1 := (hg.row e hen).free c
          have hR1 := (hg.row e hen).lt
          have c1 : (c : Int) < (n : Int) := by omega
          rw [mixF_at] at u2
          have K1 := Lib.hid (fun w v => newt_of w v (o := if e = c then 4607182418800017408 else 0) (rfl : canon by_ = canon by_) u2)
          have HN := Lib.hid (show cop .sub (if e = c then 4607182418800017408 else 0) (cop .mul (canon by_) (J e c)) = N e c by rw [hOF.out e c, HJ.out e])
          have HG := Lib.hid hg
          have HBL := Lib.hid hbl
          clear u2 hg hbl
          have fin : ∀ o, (o = if e = c then 4607182418800017408 else 0) → ∀ (W1 : World), Grid ((wr.setCell ⟨blk e, c, none⟩ (.float .f64 (fval .sub W1 o (fval .mul wr by_ u)))).drewN (ndraw .mul by_ u + ndraw .sub o (fval .mul wr by_ u))) w.heap.size G n n blk cp (mixF N J e (c + 1)) ∧ Below w.heap.size w ((wr.setCell ⟨blk e, c, none⟩ (.float .f64 (fval .sub W1 o (fval .mul wr by_ u)))).drewN (ndraw .mul by_ u + ndraw .sub o (fval .mul wr by_ u))) := fun o ho W1 => by
            subst ho
            refine ⟨?_, below_drewN (HBL.out.setCell (p := ⟨blk e, c, none⟩) hR1.1 _) _⟩
            have g1 := HG.out.set hen hcn ((K1.out W1 wr).trans HN.out) (fval_lt .sub W1 _ _)
            exact ((g1.congr (fun a d _ _ => mixF_set N J e c a d)) : Grid _ _ _ _ _ _ _ _).below (below_drewN (Below.refl _ _) _)
          have FIN := Lib.hid fin
          clear fin
          by_cases hec : e = c
          · have hcc : ((e : Int) == c) = true := by simp; omega
            have FX := Lib.hid (fun W => FIN.out 4607182418800017408 (by rw [if_pos hec]) W)
            clear hec FIN K1
            go_wp2_with fail
            go_roundw
            case rel => exact ⟨c + 1, by omega, by go_num, FX.out _⟩
            case measure => simp [intOf]; omega
          · have hcc : ((e : Int) == c) = false := by simp; omega
            have FX := Lib.hid (fun W => FIN.out 0 (by rw [if_neg hec]) W)
            clear hec FIN K1
            go_wp2_with fail
            go_roundw
            case rel => exact ⟨c + 1, by omega, by go_num, FX.out _⟩
            case measure => simp [intOf]; omega
        · obtain rfl : c = n := by omega
          have HGN := Lib.hid (hg.congr (fun a d _ hd => mixF_row N J e c a d hd))
          clear hg
          go_wp2_with fail
          go_roundw
          case rel => exact ⟨e + 1, by omega, by go_num, HGN.out, hbl⟩
          case measure => simp [intOf]; omega
    · obtain rfl : e = n := by omega
      have HGN := Lib.hid (hg.congr (fun a d ha _ => mixF_end N J e a d ha))
      have HBL := Lib.hid hbl
      have PT := Lib.hid (part_tells e (.slice (some ⟨G, 0, none⟩) e e) N wr (HGN.out.tab (by omega) (by omega)) h1 (by omega))
      clear hg hbl hOF
      go_wp2_with fail
      refine PT.out.mono ?_
      rintro e' w3 ⟨hb3, hm3⟩
      have hbA := HBL.out.trans (hb3.mono HBL.out.size)
      have hwA := HW.out.below hbA
      obtain ⟨w0, w1', w2', w3', w4, w5, w6, w7, w8, w9'⟩ := hwA.cells
      have f7 := free_block hwA 7
      have f8 := free_block hwA 8
      cases hp : partF N e e with
      | none =>
        rw [hp] at hm3
        simp only [] at hm3
        subst hm3
        have HK := Lib.hid (show Keep w b _ from (((Keep.refl w b).step hbA).set 7 (.slice none 0 0)).set 8 (.slice none 0 0))
        clear hbA hwA hb3 w0 w1' w2' w3' w4 w5 w6
        go_wp2_with fail
        go_ret
        exact ⟨HK.out, by rw [hp]; rfl⟩
      | some gq =>
        obtain ⟨g, q⟩ := gq
        rw [hp] at hm3
        simp only [] at hm3
        obtain ⟨G2, R2, blk2, cap2, rfl, hg2, hi2, -, -⟩ := hm3
        have hkk := (((Keep.refl w b).step hbA).set 7 (.slice (some ⟨G2, 0, none⟩) e e)).set 8 (.slice (some ⟨R2, 0, none⟩) e e)
        have HK := Lib.hid hkk
        have HG2 := Lib.hid (show Grid _ wr.heap.size G2 e e blk2 cap2 g from hg2)
        have HI2 := Lib.hid (show OwnI _ wr.heap.size R2 e e _ from hi2)
        have HWA := Lib.hid hwA
        clear hbA hwA hb3 hkk hg2 hi2 w0 w1' w2' w3' w4 w5 w6
        go_wp2_with fail
        go_ret
        have hs4 := HBL.out.size
        refine ⟨HK.out, ?_⟩
        rw [hp]
        exact ⟨rfl, _, _, HWA.out.put _ _, ((((HG2.out.setOther (by have := HG2.out.lo; omega) (fun i hi => by have := (HG2.out.row i hi).lt; omega) _).setOther (by have := HG2.out.lo; omega) (fun i hi => by have := (HG2.out.row i hi).lt; omega) _)).tab (by omega) (by omega)), ((HI2.out.other (by have := HI2.out.lt; omega) _).other (by have := HI2.out.lt; omega) _).ints (by omega)⟩
end Go.Proofs.Ytnlbafjmbamoeaa
