/-
  Numbers that bear how they change: all operations, as the program does them.
-/
import Derived.Test.YtnlbafjmbamoeaaJe
import Derived.Deep.DeepCutAuto
import Derived.Deep.CutBlock
namespace Go.Proofs.Ytnlbafjmbamoeaa
open Go.RowKit
open Ieee (double)
attribute [local go_sem] alloc_drewN setCell_drewN call_bits call_frombits ord_lt ord_eq ord_gt ord_ne ord_le ord_ge eqB_self run_fadd run_fsub run_fmul run_fquo haStoreFlt takeOp pureOp readsUpon doOp

theorem cell_put {w : World} {R p o : Nat} {x : Value} (u : Value) (hx : w.cell? ⟨R, p, none⟩ = some x) : (w.setCell ⟨R, p, none⟩ u).cell? ⟨R, o, none⟩ = if o = p then some u else w.cell? ⟨R, o, none⟩ := by
  by_cases h : o = p
  · subst h; rw [if_pos rfl]; simp [go_sem, hx]
  · rw [if_neg h, World.cell?_setCell_other _ _ _ _ (fun q => h (by injection q with _ q2 _; omega))]
theorem free_put {w : World} {R p o : Nat} (u : Value) : (w.setCell ⟨R, p, none⟩ u).frozen? ⟨R, o, none⟩ = w.frozen? ⟨R, o, none⟩ := by simp [go_sem]
theorem FRow.blk {w : World} {v : Value} {n : Nat} {f : Nat → Nat} (h : FRow w v n f) (h0 : 0 < n) {k : Nat} (hk : v.ownBlock = some k) : k < w.heap.size := by
  obtain ⟨a, c, rfl, -, h1⟩ := h
  obtain ⟨b, o, rfl, hb, -⟩ := h1 h0
  simp only [Value.ownBlock, Option.some.injEq] at hk
  omega
/-- A block of so many numbers that bear how they change, a call's own: the first i are reckoned. -/
structure DReg (w : World) (R len i : Nat) (c : Nat → Nat) (n : Nat) (f : Nat → Nat → Nat) : Prop where
  ex : ∀ o, o < len * 2 → ∃ v, w.cell? ⟨R, o, none⟩ = some v
  free : ∀ o, w.frozen? ⟨R, o, none⟩ = false
  lt : R < w.heap.size
  val : ∀ j, j < i → DVal w R j (c j) n (f j) R
theorem DReg.below {w w' : World} {R len i n : Nat} {c : Nat → Nat} {f : Nat → Nat → Nat} (h : DReg w R len i c n f) (hb : Below w.heap.size w w') : DReg w' R len i c n f := by
  obtain ⟨hc, hf⟩ := haCell hb
  have := hb.size
  have := h.lt
  exact ⟨fun o ho => by rw [hc _ _ h.lt]; exact h.ex o ho, fun o => by rw [hf _ _ h.lt]; exact h.free o, by omega, fun j hj => (h.val j hj).below hb h.lt⟩
theorem FRow.set {w : World} {v : Value} {n : Nat} {f : Nat → Nat} (h : FRow w v n f) {R : Nat} (hn : v.ownBlock ≠ some R) (o : Nat) (u : Value) : FRow (w.setCell ⟨R, o, none⟩ u) v n f := by
  obtain ⟨a, c, rfl, h1, h2⟩ := h
  refine ⟨a, c, rfl, h1, fun h0 => ?_⟩
  obtain ⟨b, o', rfl, hb, hc⟩ := h2 h0
  have hne : b ≠ R := fun e => hn (by rw [e]; rfl)
  exact ⟨b, o', rfl, by simp [World.setCell]; exact hb, fun i hi => (hc i hi).same (World.cell?_of_block (a := ⟨b, o' + i, none⟩) (Below.heap_setCell _ _ _ _ hne))⟩
theorem DReg.set {w : World} {R len i n : Nat} {c : Nat → Nat} {f : Nat → Nat → Nat} (h : DReg w R len i c n f) (hi : i < len) {y : Nat} {p : Option Addr} {l : Nat} (y1 : canon y = c i) (y2 : y < 18446744073709551616) (hu : FRow w (.slice p n l) n (f i)) (hn : (Value.slice p n l).ownBlock ≠ some R) :
    DReg ((w.setCell ⟨R, i * 2, none⟩ (.float .f64 y)).setCell ⟨R, i * 2 + 1, none⟩ (.slice p n l)) R len (i + 1) c n f := by
  obtain ⟨v0, e0⟩ := h.ex (i * 2) (by omega)
  obtain ⟨v1, e1⟩ := h.ex (i * 2 + 1) (by omega)
  have e1' : (w.setCell ⟨R, i * 2, none⟩ (.float .f64 y)).cell? ⟨R, i * 2 + 1, none⟩ = some v1 := by rw [cell_put _ e0, if_neg (by omega)]; exact e1
  have get : ∀ o, ((w.setCell ⟨R, i * 2, none⟩ (.float .f64 y)).setCell ⟨R, i * 2 + 1, none⟩ (.slice p n l)).cell? ⟨R, o, none⟩ = if o = i * 2 + 1 then some (.slice p n l) else if o = i * 2 then some (.float .f64 y) else w.cell? ⟨R, o, none⟩ := fun o => by rw [cell_put _ e1', cell_put _ e0]
  have row : ∀ {v g}, FRow w v n g → v.ownBlock ≠ some R → FRow ((w.setCell ⟨R, i * 2, none⟩ (.float .f64 y)).setCell ⟨R, i * 2 + 1, none⟩ (.slice p n l)) v n g := fun h hn => (h.set hn _ _).set hn _ _
  refine ⟨fun o ho => ?_, fun o => by rw [free_put, free_put]; exact h.free o, by simp [World.setCell]; exact h.lt, fun j hj => ?_⟩
  · rw [get]
    split
    · exact ⟨_, rfl⟩
    · split
      · exact ⟨_, rfl⟩
      · exact h.ex o ho
  · by_cases e : j = i
    · subst e
      exact ⟨y, _, by rw [get, if_neg (by omega), if_pos rfl], y1, y2, by rw [get, if_pos rfl], row hu hn, hn⟩
    · obtain ⟨z, u, z1, z2, z3, u1, u2, u3⟩ := h.val j (by omega)
      exact ⟨z, u, by rw [get, if_neg (by omega), if_neg (by omega)]; exact z1, z2, z3, by rw [get, if_neg (by omega), if_neg (by omega)]; exact u1, row u2 u3, u3⟩
theorem DReg.made {w : World} {B R len cap : Nat} {t : TypeId} {xs : List Value} (h : w.ownsRow B t 2 (.slice (some ⟨R, 0, none⟩) len cap) len xs) (n : Nat) (c : Nat → Nat) (f : Nat → Nat → Nat) : DReg w R len 0 c n f := by
  have hl := h.1
  refine ⟨fun o ho => ⟨xs[o]'(by omega), (h.cellAt o (by omega)).trans (List.getElem?_eq_getElem (by omega))⟩, fun o => h.frozenAt o, (h.lt R rfl).2, fun j hj => by omega⟩
theorem infoD : (Try.prog.info? 117).map (fun i => (i.zero, i.size, i.bytes)) = some (some (.agg #[.float .f64 0, .slice none 0 0]), 2, 32) := by kernel_rfl
/-- The kind of numbers, and a tape, where a call has put them. -/
def KTD (w0 : World) (B Kd N : Nat) (n : Int) (vo vu : Value) (W : World) : Prop :=
  W.heap[B]? = some (.cells #[.func (.func 85) #[] #[.pointer (some ⟨Kd, 0, none⟩), .pointer (some ⟨N, 0, none⟩)], .func (.func 88) #[] #[.pointer (some ⟨Kd, 0, none⟩), .pointer (some ⟨N, 0, none⟩)], .func (.func 90) #[] #[.pointer (some ⟨Kd, 0, none⟩), .pointer (some ⟨N, 0, none⟩)], .func (.func 92) #[] #[.pointer (some ⟨Kd, 0, none⟩), .pointer (some ⟨N, 0, none⟩)], .func (.func 94) #[] #[.pointer (some ⟨Kd, 0, none⟩), .pointer (some ⟨N, 0, none⟩)]] 113) ∧
  W.heap[B + 1]? = some (.cells #[.int .i64 n, vo, vu] 26) ∧ Below B w0 W
theorem KTD.step {w0 : World} {B Kd N : Nat} {n : Int} {vo vu : Value} {W W' : World} (h : KTD w0 B Kd N n vo vu W) (hb : Below (B + 2) W W') : KTD w0 B Kd N n vo vu W' :=
  ⟨(hb.block B (by omega)).trans h.1, (hb.block (B + 1) (by omega)).trans h.2.1, h.2.2.trans (hb.mono (by omega))⟩
set_option maxRecDepth 100000 in
set_option maxHeartbeats 4000000 in
theorem drun_tells (T : TD) (v : Value) (x : Nat → Nat) (Kd N XB xcap : Nat) (w : World) (h : TapeAt w v T) (hck : checkB T = true) (hcs : ∀ i, i < T.len → (T.op i).c < 18446744073709551616) (nn : Nat) (hn : T.n = nn) (hk : KB Kd w) (hN : CB N (.int .i64 nn) w)
    (hXl : XB < w.heap.size) (hx : ∀ v, v < nn → DVal w XB v (x v) nn (fun k => if k = v then 4607182418800017408 else 0) XB) :
    Calls Try.prog 76 #[kindD Kd N, v, .slice (some ⟨XB, 0, none⟩) nn xcap] w fun e w' => ∃ Q, e = .returned (.slice (some ⟨Q, 0, none⟩) nn nn) ∧ Q < w'.heap.size ∧ (∀ i, i < nn → DVal w' Q i (evR T.op x (T.out i).toNat) nn (dvR T.op x (T.out i).toNat) Q) ∧ Below w.heap.size w w' := by
  obtain ⟨n, len, op, lo, out⟩ := T
  obtain ⟨vo, vu, rfl, ⟨a, cap, rfl, hl1, ho⟩, ⟨a2, cap2, rfl, hl2, hu⟩⟩ := h
  unfold checkB at hck
  simp only [Bool.and_eq_true, decide_eq_true_eq] at hck hcs hn ho hu hl1 hl2 ⊢
  subst hn
  obtain ⟨⟨q1, q2, q3, q4⟩, hs1, hs2⟩ := hck
  obtain rfl : nn = lo := by omega
  clear q4
  have HS1 := Lib.hid (allB_iff.1 hs1)
  have HS2 := Lib.hid (allB_iff.1 hs2)
  have HCS := Lib.hid hcs
  have HO := Lib.hid ho
  have HU := Lib.hid hu
  have hxs : ∀ v, v < nn → ∀ R, w.heap.size ≤ R → DVal w XB v (x v) nn (fun k => if k = v then 4607182418800017408 else 0) R := fun v hv R hR => by
    obtain ⟨y, u, y1, y2, y3, u1, u2, u3⟩ := hx v hv
    exact ⟨y, u, y1, y2, y3, u1, u2, fun e => by have := u2.blk (by omega) e; omega⟩
  have HX := Lib.hid hxs
  have HK := Lib.hid hk
  have HN := Lib.hid hN
  obtain ⟨iD, hi, hz0, hz1, hz2⟩ := info_parts infoD
  have HI := Lib.hid (show iD.zero = _ ∧ iD.size = _ ∧ iD.bytes = _ from ⟨hz0, hz1, hz2⟩)
  have HI0 := Lib.hid hi
  unfold kindD
  obtain ⟨l1, l2, l3, l4⟩ := al2 w (.cells #[.func (.func 85) #[] #[.pointer (some ⟨Kd, 0, none⟩), .pointer (some ⟨N, 0, none⟩)], .func (.func 88) #[] #[.pointer (some ⟨Kd, 0, none⟩), .pointer (some ⟨N, 0, none⟩)], .func (.func 90) #[] #[.pointer (some ⟨Kd, 0, none⟩), .pointer (some ⟨N, 0, none⟩)], .func (.func 92) #[] #[.pointer (some ⟨Kd, 0, none⟩), .pointer (some ⟨N, 0, none⟩)], .func (.func 94) #[] #[.pointer (some ⟨Kd, 0, none⟩), .pointer (some ⟨N, 0, none⟩)]] 113) (.cells #[.int .i64 nn, .slice a len cap, .slice a2 nn cap2] 26)
  have hkt : KTD w w.heap.size Kd N nn (.slice a len cap) (.slice a2 nn cap2) _ := ⟨l1, l2, l4⟩
  clear hs1 hs2 hcs ho hu hx hxs hz0 hz1 hz2 hi hk hN l1 l2 l4
  go_enter Try.func76, Try.ntmps76
  go_upto_region 1 with fail
  have hkl : Kd < w.heap.size := HK.out.2.2.2.2.2
  have hNl : N < w.heap.size := HN.out.2
  generalize hB : w.heap.size = B at *
  generalize (w.alloc (.cells #[.func (.func 85) #[] #[.pointer (some ⟨Kd, 0, none⟩), .pointer (some ⟨N, 0, none⟩)], .func (.func 88) #[] #[.pointer (some ⟨Kd, 0, none⟩), .pointer (some ⟨N, 0, none⟩)], .func (.func 90) #[] #[.pointer (some ⟨Kd, 0, none⟩), .pointer (some ⟨N, 0, none⟩)], .func (.func 92) #[] #[.pointer (some ⟨Kd, 0, none⟩), .pointer (some ⟨N, 0, none⟩)], .func (.func 94) #[] #[.pointer (some ⟨Kd, 0, none⟩), .pointer (some ⟨N, 0, none⟩)]] 113)).alloc (.cells #[.int .i64 nn, .slice a len cap, .slice a2 nn cap2] 26) = X at *
  have p1 := at_block hkt.2.1 1
  have pl := lt_block hkt.2.1
  simp only [List.getElem?_toArray, List.getElem?_cons_zero, List.getElem?_cons_succ] at p1
  go_wp2_with (first
    | (refine wpList_make_full _ rfl _ _ _ rfl (B + 2) 117 iD (.agg #[.float .f64 0, .slice none 0 0]) 2 Try.underlying109 HI0.out HI.out.1 HI.out.2.1 .i64 .i64 (len : Int) (len : Int) len rfl rfl rfl rfl (by rw [HI.out.2.2]; omega) (by unfold maxLen; omega) (by omega) ?_)
    | go_in)
  intro w1 hr0 hg0
  have hk1 := hkt.step ((Below.refl (B + 2) X).grown hg0 (by omega) (fun k hk => by cases hk))
  have hR := (hr0.lt (B + 2) rfl).2
  have hrg : DReg w1 (B + 2) len 0 (evR op x) nn (dvR op x) := DReg.made hr0 _ _ _
  clear hr0 hg0 hkt p1 pl l3
  have p1 := at_block hk1.2.1 1
  have pl := lt_block hk1.2.1
  simp only [List.getElem?_toArray, List.getElem?_cons_zero, List.getElem?_cons_succ] at p1
  go_upto_region 2 with fail
  go_upto_block 0 with fail
  go_cut [] (fun wx => KTD w B Kd N nn (.slice a len cap) (.slice a2 nn cap2) wx ∧ DReg wx (B + 2) len len (evR op x) nn (dvR op x))
  case first =>
    go_wp2_with fail
    go_loopw [20] (fun i wr => ∃ j : Nat, j ≤ len ∧ i = .int .i64 j ∧ KTD w B Kd N nn (.slice a len cap) (.slice a2 nn cap2) wr ∧ DReg wr (B + 2) len j (evR op x) nn (dvR op x)) (fun i _ => len - (intOf i).toNat)
    case atStart => exact ⟨0, by omega, rfl, hk1, hrg⟩
    case round =>
      clear hk1 hrg p1 pl hR
      obtain ⟨j, hj, rfl, hk1, hrg⟩ := hrel
      have g0 := at_block hk1.1 0
      have g1 := at_block hk1.1 1
      have g2 := at_block hk1.1 2
      have g3 := at_block hk1.1 3
      have g4 := at_block hk1.1 4
      have gl := lt_block hk1.1
      have p1 := at_block hk1.2.1 1
      have pl := lt_block hk1.2.1
      simp only [List.getElem?_toArray, List.getElem?_cons_zero, List.getElem?_cons_succ] at g0 g1 g2 g3 g4 p1
      by_cases hlt : j < len
      · obtain ⟨b, off, rfl, hbs, hc⟩ := HO.out (by omega)
        obtain ⟨d1, d2, d3, d4⟩ := hc j hlt
        have hbw : Below w.heap.size w wr := by rw [hB]; exact hk1.2.2
        have hcl := (haCell hbw).1
        rw [← hcl _ _ (by rw [hB]; exact hbs)] at d1 d2 d3 d4
        have hst := HS1.out j hlt
        have hcc := HCS.out j hlt
        have hkr := HK.out.below hbw
        have hNr := HN.out.below hbw
        have hxr := fun v hv => (HX.out v hv (B + 2) (by omega)).below hbw (by omega)
        have hin : (op j).k ≠ 0 → (op j).k ≠ 1 → (op j).a.toNat < j ∧ (op j).b.toNat < j := fun k0 k1 => by
          unfold standsB at hst
          rw [if_neg k0, if_neg k1] at hst
          split at hst
          · simp only [Bool.and_eq_true] at hst
            obtain ⟨A, hA, hA2⟩ := belowB_nat hst.1
            obtain ⟨A', hA', hA2'⟩ := belowB_nat hst.2.1
            omega
          · cases hst
        have hv := evR_eq op x j hin
        have hv' := dvR_eq op x j hin
        have CALL := Lib.hid fun (W' : World) (hb : Below wr.heap.size wr W') => dop_tells (op j) nn j len Kd N (by omega) x (evR op x) (dvR op x) XB (B + 2) len xcap W' hst hcc (hkr.below hb) (hNr.below hb) (by have := hb.size; omega) (fun v hv => (hxr v hv).below hb (by omega)) hlt (by omega) (by have := hb.size; have := hrg.lt; omega) (fun i hi => (hrg.val i hi).below hb hrg.lt)
        have HV := Lib.hid (show evR op x j = _ ∧ dvR op x j = _ from ⟨hv, hv'⟩)
        have HK1 := Lib.hid hk1
        have HRG := Lib.hid hrg
        have hrl := hrg.lt
        clear hc hcl hst hcc hxr hkr hNr hin hv hv' hbw hk1 hrg
        unfold opV kindD at CALL
        generalize op j = oj at *
        go_wp2_with fail
        have hal : Below wr.heap.size wr (wr.alloc (.cells #[.int .i64 oj.k, .int .i64 oj.a, .int .i64 oj.b, .float .f64 oj.c] 47)) := (Below.refl _ _).alloc (Nat.le_refl _) _
        refine (CALL.out _ hal).mono ?_
        rintro e w2 ⟨y, u, rfl, y1, y2, hu, hn2, hb2⟩
        have hb3 : Below wr.heap.size wr w2 := hal.trans (hb2.mono (by simp))
        obtain ⟨p, l, rfl⟩ : ∃ p c, u = .slice p nn c := by obtain ⟨p, c, rfl, -⟩ := hu; exact ⟨p, c, rfl⟩
        have hrg2 := HRG.out.below hb3
        obtain ⟨v0, s0⟩ := hrg2.ex (j * 2) (by omega)
        obtain ⟨v1, s1⟩ := hrg2.ex (j * 2 + 1) (by omega)
        have f0 := hrg2.free (j * 2)
        have f1 := hrg2.free (j * 2 + 1)
        have REL := Lib.hid (hrg2.set hlt (y := y) (by rw [y1, ← HV.out.1]) y2 (by rw [HV.out.2, HV.out.1]; exact hu) hn2)
        have HK2 := Lib.hid (((HK1.out.step (hb3.mono (by omega))).step ((Below.refl (B + 2) w2).setCell (p := ⟨B + 2, j * 2, none⟩) (Nat.le_refl _) (.float .f64 y))).step ((Below.refl (B + 2) _).setCell (p := ⟨B + 2, j * 2 + 1, none⟩) (Nat.le_refl _) (.slice p nn l)))
        clear CALL g0 g1 g2 g3 g4 p1 d1 d2 d3 d4 hb2 hb3 hrg2 hu hal HK1 HRG
        go_wp2_with fail
        go_roundw
        case rel => exact ⟨j + 1, by omega, by go_num, HK2.out, REL.out⟩
        case measure => simp [intOf]; omega
      · obtain rfl : j = len := by omega
        go_wp2_with fail
        go_meet
        exact ⟨hk1, hrg⟩
  case rest =>
    clear hk1 hrg p1 pl hR
    obtain ⟨hk1, hrg⟩ := hcut
    have p2 := at_block hk1.2.1 2
    have pl := lt_block hk1.2.1
    simp only [List.getElem?_toArray, List.getElem?_cons_zero, List.getElem?_cons_succ] at p2
    have HVAL := Lib.hid (fun j (hj : j < len) => (show ∃ y p l, wc.cell? ⟨B + 2, j * 2, none⟩ = some (.float .f64 y) ∧ canon y = evR op x j ∧ y < 18446744073709551616 ∧ wc.cell? ⟨B + 2, j * 2 + 1, none⟩ = some (.slice p nn l) ∧ FRow wc (.slice p nn l) nn (dvR op x j) by
      obtain ⟨y, u, y1, y2, y3, u1, u2, u3⟩ := hrg.val j hj
      obtain ⟨p, l, rfl, u4⟩ := id u2
      exact ⟨y, p, l, y1, y2, y3, u1, u2⟩))
    have hrl := hrg.lt
    clear hrg
    go_wp2_with (first
      | (refine wpList_make_full _ rfl _ _ _ rfl wc.heap.size 117 iD (.agg #[.float .f64 0, .slice none 0 0]) 2 Try.underlying109 HI0.out HI.out.1 HI.out.2.1 .i64 .i64 (nn : Int) (nn : Int) nn rfl rfl rfl rfl (by rw [HI.out.2.2]; omega) (by unfold maxLen; omega) (by omega) ?_)
      | go_in)
    intro w2 hq0 hg0
    have hQ := (hq0.lt wc.heap.size rfl).2
    have hb2 : Below wc.heap.size wc w2 := (Below.refl _ _).grown hg0 (by omega) (fun k hk => by cases hk)
    have hqg : DReg w2 wc.heap.size nn 0 (fun i => evR op x (out i).toNat) nn (fun i => dvR op x (out i).toNat) := DReg.made hq0 _ _ _
    have hB2 := Lib.hid (hk1.step (hb2.mono (by omega)))
    have HB2 := Lib.hid hb2
    rw [← hb2.cell (p := ⟨B + 1, 2, none⟩) (by show B + 1 < wc.heap.size; omega)] at p2
    clear hq0 hg0 hb2 hk1
    generalize hQe : wc.heap.size = Q at *
    go_wp2_with fail
    go_loopw [41] (fun i wr => ∃ j : Nat, j ≤ nn ∧ i = .int .i64 j ∧ Keep w2 Q wr ∧ DReg wr Q nn j (fun i => evR op x (out i).toNat) nn (fun i => dvR op x (out i).toNat)) (fun i _ => nn - (intOf i).toNat)
    case atStart => exact ⟨0, by omega, rfl, Keep.refl _ _, hqg⟩
    case round =>
      clear hqg
      obtain ⟨j, hj, rfl, hkp, hrg⟩ := hrel
      have hbw : Below w.heap.size w wr := by rw [hB]; exact hkp.below hB2.out.2.2 (by omega) (by omega)
      by_cases hlt : j < nn
      · obtain ⟨b, off, rfl, hbs, hc⟩ := HU.out (by omega)
        have d1 := hc j hlt
        rw [← (haCell hbw).1 _ _ (by rw [hB]; exact hbs)] at d1
        obtain ⟨A, hA, hA2⟩ := belowB_nat (HS2.out j hlt)
        obtain ⟨y, p, l, y1, y2, y3, u1, u2⟩ := HVAL.out A (by omega)
        rw [← HB2.out.cell (p := ⟨B + 2, A * 2, none⟩) hrl, ← hkp.cell (by omega) (by omega)] at y1
        rw [← HB2.out.cell (p := ⟨B + 2, A * 2 + 1, none⟩) hrl, ← hkp.cell (by omega) (by omega)] at u1
        have hu := u2.keepB hQe hkp HB2.out (Nat.le_refl _)
        have hn2 : (Value.slice p nn l).ownBlock ≠ some Q := fun e => by have := u2.blk (by omega) e; omega
        have hAn : ((out j).toNat) = A := by omega
        rw [hA] at d1
        obtain ⟨v0, s0⟩ := hrg.ex (j * 2) (by omega)
        obtain ⟨v1, s1⟩ := hrg.ex (j * 2 + 1) (by omega)
        have f0 := hrg.free (j * 2)
        have f1 := hrg.free (j * 2 + 1)
        have REL := Lib.hid (hrg.set hlt (y := y) (by rw [y2, ← hAn]) y3 (by rw [hAn]; exact hu) hn2)
        have HKP := Lib.hid ((hkp.set (j * 2) (.float .f64 y)).set (j * 2 + 1) (.slice p nn l))
        have hQB : Q ≠ B + 2 := by omega
        have hBQ : B + 2 ≠ Q := by omega
        clear hc hbw hkp hrg u2 hu y2
        go_wp2_with fail
        go_roundw
        case rel => exact ⟨j + 1, by omega, by go_num, HKP.out, REL.out⟩
        case measure => simp [intOf]; omega
      · obtain rfl : j = nn := by omega
        go_wp2_with fail
        go_ret
        exact ⟨Q, rfl, hrg.lt, hrg.val, by first | exact hbw | (rw [← hB]; exact hbw)⟩
end Go.Proofs.Ytnlbafjmbamoeaa
