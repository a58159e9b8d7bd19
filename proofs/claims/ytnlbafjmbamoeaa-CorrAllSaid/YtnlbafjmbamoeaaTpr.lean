/-
  What a tape tells of numbers: all its operations, as the program does them.
-/
import Derived.Test.YtnlbafjmbamoeaaTpe
import Derived.Deep.DeepCutAuto
import Derived.Deep.CutBlock
namespace Go.Proofs.Ytnlbafjmbamoeaa
open Go.RowKit
open Ieee (double)
attribute [local go_sem] alloc_drewN setCell_drewN call_bits call_frombits ord_lt ord_eq ord_gt ord_ne ord_le ord_ge eqB_self run_fadd run_fsub run_fmul run_fquo run_store_flt

/-- What the first so many operations tell. -/
def evL (op : Nat → OpD) (x : Nat → Nat) : Nat → List Nat
  | 0 => []
  | i + 1 => evL op x i ++ [valO (op i) x fun j => (evL op x i).getD j 0]
def evR (op : Nat → OpD) (x : Nat → Nat) (j : Nat) : Nat := valO (op j) x fun i => (evL op x j).getD i 0
theorem evL_len (op : Nat → OpD) (x : Nat → Nat) : ∀ i, (evL op x i).length = i
  | 0 => rfl
  | i + 1 => by rw [evL, List.length_append, evL_len op x i]; rfl
theorem evL_get (op : Nat → OpD) (x : Nat → Nat) {j : Nat} : ∀ {i : Nat}, j < i → (evL op x i).getD j 0 = evR op x j
  | i + 1, h => by
    have hl := evL_len op x i
    rw [evL]
    by_cases e : j = i
    · subst e
      unfold evR
      simp [List.getD, hl]
    · have : ∀ y, (evL op x i ++ [y]).getD j 0 = (evL op x i).getD j 0 := fun y => by simp [List.getD, List.getElem?_append_left (show j < (evL op x i).length by omega)]
      rw [this]
      exact evL_get op x (by omega)
theorem info_f : (Try.prog.info? 32).map (fun i => (i.zero, i.size, i.bytes)) = some (some (.float .f64 0), 1, 8) := by kernel_rfl
/-- The kind of numbers, and a tape, where a call has put them. -/
def KT (w0 : World) (B : Nat) (n : Int) (vo vu : Value) (w : World) : Prop :=
  w.cell? ⟨B, 0, none⟩ = some (.func (.func 79) #[] #[]) ∧ w.cell? ⟨B, 1, none⟩ = some (.func (.func 80) #[] #[]) ∧ w.cell? ⟨B, 2, none⟩ = some (.func (.func 81) #[] #[]) ∧ w.cell? ⟨B, 3, none⟩ = some (.func (.func 82) #[] #[]) ∧ w.cell? ⟨B, 4, none⟩ = some (.func (.func 83) #[] #[]) ∧
  w.cell? ⟨B + 1, 0, none⟩ = some (.int .i64 n) ∧ w.cell? ⟨B + 1, 1, none⟩ = some vo ∧ w.cell? ⟨B + 1, 2, none⟩ = some vu ∧ B + 1 < w.heap.size ∧ w0.heap.size = B ∧ Below B w0 w
theorem KT.step {w0 : World} {B : Nat} {n : Int} {vo vu : Value} {w w' : World} (h : KT w0 B n vo vu w) (hb : Below (B + 2) w w') : KT w0 B n vo vu w' := by
  obtain ⟨h1, h2, h3, h4, h5, h6, h7, h8, h9, h10, h11⟩ := h
  have hc : ∀ b o, b < B + 2 → w'.cell? ⟨b, o, none⟩ = w.cell? ⟨b, o, none⟩ := fun b o h => hb.cell (p := ⟨b, o, none⟩) h
  have := hb.size
  exact ⟨by rw [hc _ _ (by omega)]; exact h1, by rw [hc _ _ (by omega)]; exact h2, by rw [hc _ _ (by omega)]; exact h3, by rw [hc _ _ (by omega)]; exact h4, by rw [hc _ _ (by omega)]; exact h5, by rw [hc _ _ (by omega)]; exact h6, by rw [hc _ _ (by omega)]; exact h7, by rw [hc _ _ (by omega)]; exact h8, by omega, h10, h11.trans (hb.mono (by omega))⟩
theorem KT.start (w : World) (n : Int) (vo vu : Value) (s t : TypeId) : KT w w.heap.size n vo vu ((w.alloc (.cells #[.func (.func 79) #[] #[], .func (.func 80) #[] #[], .func (.func 81) #[] #[], .func (.func 82) #[] #[], .func (.func 83) #[] #[]] s)).alloc (.cells #[.int .i64 n, vo, vu] t)) := by
  have e : (w.alloc (.cells #[.func (.func 79) #[] #[], .func (.func 80) #[] #[], .func (.func 81) #[] #[], .func (.func 82) #[] #[], .func (.func 83) #[] #[]] s)).heap.size = w.heap.size + 1 := by simp
  refine ⟨?_, ?_, ?_, ?_, ?_, ?_, ?_, ?_, by simp, rfl, ((Below.refl _ _).alloc (Nat.le_refl _) _).alloc (by rw [e]; omega) _⟩
  iterate 5 (rw [World.cell?_alloc_lt _ _ _ (show w.heap.size < _ by rw [e]; omega), World.cell?_alloc_new]; rfl)
  iterate 3 (rw [← e, World.cell?_alloc_new]; rfl)
/-- The registers: the first so many are reckoned. -/
def Regs (w : World) (H R len i : Nat) (f : Nat → Nat) : Prop :=
  ∃ rs : List Value, w.ownsRow H 32 1 (.slice (some ⟨R, 0, none⟩) len len) len rs ∧ ∀ j, j < i → ∃ y, rs[j]? = some (.float .f64 y) ∧ canon y = f j ∧ y < 18446744073709551616
/-- A row of its own: these numbers. -/
def OwnT (n : Nat) (f : Nat → Nat) (w : World) (e : Ending) (w' : World) : Prop := ∃ R, e = .returned (.slice (some ⟨R, 0, none⟩) n n) ∧ OwnF w' w.heap.size R n n f ∧ Below w.heap.size w w'
theorem OwnT.tells {n : Nat} {f : Nat → Nat} {w w' : World} {e : Ending} (hn : n ≤ 9223372036854775807) (h : OwnT n f w e w') : ∃ u, e = .returned u ∧ FltsC w' u n f ∧ Below w.heap.size w w' := by
  obtain ⟨R, h1, h2, h3⟩ := h
  exact ⟨_, h1, h2.flts hn, h3⟩
theorem checkB_lo {T : TD} (h : checkB T = true) {nn : Nat} (hn : T.n = nn) : T.lo = nn ∧ nn ≤ 4 := by
  unfold checkB at h
  simp only [Bool.and_eq_true, decide_eq_true_eq] at h
  omega
set_option maxRecDepth 100000 in
set_option maxHeartbeats 4000000 in
theorem run_own (T : TD) (v vx : Value) (x : Nat → Nat) (w : World) (h : TapeAt w v T) (hck : checkB T = true) (hcs : ∀ i, i < T.len → (T.op i).c < 18446744073709551616) (nn : Nat) (hn : T.n = nn) (hx : FltsC w vx nn x) :
    Calls Try.prog 84 #[kindF, v, vx] w (OwnT nn (fun i => evR T.op x (T.out i).toNat) w) := by
  obtain ⟨n, len, op, lo, out⟩ := T
  obtain ⟨vo, vu, rfl, ⟨a, cap, rfl, hl1, ho⟩, ⟨a2, cap2, rfl, hl2, hu⟩⟩ := h
  unfold checkB at hck
  simp only [Bool.and_eq_true, decide_eq_true_eq] at hck hcs hn ho hu hl1 hl2 ⊢
  subst hn
  obtain ⟨⟨q1, q2, q3, q4⟩, hs1, hs2⟩ := hck
  obtain rfl : nn = lo := by omega
  clear q4
  have HS1 := Lib.hid (allB_iff.1 hs1)
  have HS2 := Lib.hid (allB_iff.1 hs2)
  have HCS := Lib.hid hcs
  have HO := Lib.hid ho
  have HU := Lib.hid hu
  have HX := Lib.hid hx
  obtain ⟨iF, hi, hz0, hz1, hz2⟩ := info_parts info_f
  have HI := Lib.hid (show iF.zero = _ ∧ iF.size = _ ∧ iF.bytes = _ from ⟨hz0, hz1, hz2⟩)
  have HI0 := Lib.hid hi
  have hkt := KT.start w (nn : Int) (.slice a len cap) (.slice a2 nn cap2) 99 26
  clear hs1 hs2 hcs ho hu hx hz0 hz1 hz2 hi
  unfold kindF
  go_enter Try.func84, Try.ntmps84
  go_upto_region 1 with fail
  generalize hB : w.heap.size = B at *
  generalize (w.alloc (.cells #[.func (.func 79) #[] #[], .func (.func 80) #[] #[], .func (.func 81) #[] #[], .func (.func 82) #[] #[], .func (.func 83) #[] #[]] 99)).alloc (.cells #[.int .i64 nn, .slice a len cap, .slice a2 nn cap2] 26) = W at *
  obtain ⟨c1, c2, c3, c4, c5, c6, c7, c8, c9, c10, c11⟩ := id hkt
  go_wp2_with (first
    | (refine wpList_make_full _ rfl _ _ _ rfl (B + 2) 32 iF (.float .f64 0) 1 Try.underlying31 HI0.out HI.out.1 HI.out.2.1 .i64 .i64 (len : Int) (len : Int) len rfl rfl rfl rfl (by rw [HI.out.2.2]; omega) (by unfold maxLen; omega) (by omega) ?_)
    | go_in)
  intro w1 hr0 hg0
  have hR := (hr0.lt W.heap.size rfl)
  have hk1 := hkt.step ((Below.refl (B + 2) W).grown hg0 (by omega) (fun k hk => by cases hk))
  generalize hRe : W.heap.size = R at *
  have hrg : Regs w1 (B + 2) R len 0 (evR op x) := ⟨_, hr0, fun j hj => by omega⟩
  clear hr0 hg0 hkt c1 c2 c3 c4 c5 c6 c7 c8 c9 c10 c11
  go_upto_region 2 with fail
  obtain ⟨c1, c2, c3, c4, c5, c6, c7, c8, c9, c10, c11⟩ := id hk1
  go_upto_block 0 with fail
  go_cut [] (fun wx => KT w B nn (.slice a len cap) (.slice a2 nn cap2) wx ∧ Regs wx (B + 2) R len len (evR op x) ∧ R < wx.heap.size)
  case first =>
    obtain ⟨c1, c2, c3, c4, c5, c6, c7, c8, c9, c10, c11⟩ := id hk1
    go_wp2_with fail
    go_loopw [20] (fun i wr => ∃ j : Nat, j ≤ len ∧ i = .int .i64 j ∧ KT w B nn (.slice a len cap) (.slice a2 nn cap2) wr ∧ Regs wr (B + 2) R len j (evR op x) ∧ R < wr.heap.size) (fun i _ => len - (intOf i).toNat)
    case atStart => exact ⟨0, by omega, rfl, hk1, hrg, hR.2⟩
    case round =>
      clear hk1 hrg c1 c2 c3 c4 c5 c6 c7 c8 c9 c10 c11
      obtain ⟨j, hj, rfl, hk1, ⟨rs, hown, hrs⟩, hRs⟩ := hrel
      obtain ⟨c1, c2, c3, c4, c5, c6, c7, c8, c9, c10, c11⟩ := id hk1
      by_cases hlt : j < len
      · obtain ⟨b, off, rfl, hbs, hc⟩ := HO.out (by omega)
        obtain ⟨d1, d2, d3, d4⟩ := hc j hlt
        have hbw : Below w.heap.size w wr := by rw [hB]; exact c11
        have hcl := (belowC hbw).1
        rw [← hcl _ _ (by rw [hB]; exact hbs)] at d1 d2 d3 d4
        have hst := HS1.out j hlt
        have hcc := HCS.out j hlt
        have hxw := HX.out.below hbw
        have hv : evR op x j = valO (op j) x (fun i => (evL op x j).getD i 0) := rfl
        have hcells : ∀ i, i < j → ∃ y, wr.cell? ⟨R, i, none⟩ = some (.float .f64 y) ∧ canon y = (evL op x j).getD i 0 ∧ y < 18446744073709551616 := fun i hi => by
          obtain ⟨y, y1, y2, y3⟩ := hrs i hi
          exact ⟨y, by rw [hown.cellAt i (by omega)]; exact y1, by rw [y2, evL_get op x hi], y3⟩
        have CALL := Lib.hid fun (W' : World) (hb : Below wr.heap.size wr W') => operation_tells (op j) nn j len x (fun i => (evL op x j).getD i 0) vx R len W' hst hcc (hxw.below hb) hlt (by omega) (Nat.lt_of_lt_of_le hRs hb.size) (fun i hi => by
          obtain ⟨y, y1, y2, y3⟩ := hcells i hi
          exact ⟨y, by rw [(belowC hb).1 _ _ hRs]; exact y1, y2, y3⟩)
        have hv' := Lib.hid hv
        clear hc hcl hst hcc hxw hv hcells
        have hBs : B < wr.heap.size := by omega
        unfold opV kindF at CALL
        generalize op j = oj at *
        go_wp2_with fail
        refine (CALL.out _ ((Below.refl _ _).alloc (Nat.le_refl _) _)).mono ?_
        rintro e w2 ⟨y, rfl, hy1, hy2, hb2⟩
        have hb3 : Below wr.heap.size wr w2 := ((Below.refl _ _).alloc (Nat.le_refl _) _).trans (hb2.mono (by simp))
        have hsz := hb3.size
        have hk2 := hk1.step (hb3.mono (show B + 2 ≤ wr.heap.size by omega))
        have own2 := own_below hown hb3
        have hlen := hown.1
        obtain ⟨u0, hu0⟩ : ∃ u, rs[j]? = some u := ⟨_, List.getElem?_eq_getElem (by omega)⟩
        have s1 := (own2.cellAt j (by omega)).trans hu0
        have s2 := own2.frozenAt j
        clear CALL c1 c2 c3 c4 c5 c6 c7 c8 c9 c10 c11 d1 d2 d3 d4 hb2 hb3 hk1 hown
        go_wp2_with fail
        go_roundw
        case rel => exact ⟨j + 1, by omega, by go_num, hk2.step ((Below.refl (B + 2) w2).setCell (p := ⟨R, j, none⟩) hR.1 _), ⟨rs.set j (.float .f64 y), (own2.stored j _).1, fun i hi => by
            by_cases e : i = j
            · subst e
              exact ⟨y, by rw [List.getElem?_set_self (by omega)], by rw [hy1, hv'.out], hy2⟩
            · obtain ⟨z, z1, z2, z3⟩ := hrs i (by omega)
              exact ⟨z, by rw [List.getElem?_set_ne (Ne.symm e)]; exact z1, z2, z3⟩⟩, by simp [World.setCell]; omega⟩
        case measure => simp [intOf]; omega
      · obtain rfl : j = len := by omega
        go_wp2_with fail
        go_meet
        exact ⟨hk1, ⟨rs, hown, hrs⟩, hRs⟩
  case rest =>
    clear hk1 hrg c1 c2 c3 c4 c5 c6 c7 c8 c9 c10 c11
    obtain ⟨hk1, ⟨rs, hown, hrs⟩, hRs⟩ := hcut
    obtain ⟨c1, c2, c3, c4, c5, c6, c7, c8, c9, c10, c11⟩ := id hk1
    go_wp2_with (first
      | (refine wpList_make_full _ rfl _ _ _ rfl wc.heap.size 32 iF (.float .f64 0) 1 Try.underlying31 HI0.out HI.out.1 HI.out.2.1 .i64 .i64 (nn : Int) (nn : Int) nn rfl rfl rfl rfl (by rw [HI.out.2.2]; omega) (by unfold maxLen; omega) (by omega) ?_)
      | go_in)
    intro w2 hq0 hg0
    have hQ := (hq0.lt wc.heap.size rfl)
    have hk2 := hk1.step ((Below.refl (B + 2) wc).grown hg0 (by omega) (fun k hk => by cases hk))
    have own1 := hown.kept hg0 (.inr (by simp [Value.ownBlock]))
    have hqg : Regs w2 wc.heap.size wc.heap.size nn 0 (fun i => evR op x (out i).toNat) := ⟨_, hq0, fun j hj => by omega⟩
    have hR2 : R < w2.heap.size := by omega
    clear hq0 hg0 hk1 hown c1 c2 c3 c4 c5 c6 c7 c8 c9 c10 c11
    generalize wc.heap.size = Q at *
    have HRS := Lib.hid hrs
    clear hrs
    obtain ⟨c1, c2, c3, c4, c5, c6, c7, c8, c9, c10, c11⟩ := id hk2
    go_wp2_with fail
    go_loopw [41] (fun i wr => ∃ j : Nat, j ≤ nn ∧ i = .int .i64 j ∧ KT w B nn (.slice a len cap) (.slice a2 nn cap2) wr ∧ wr.ownsRow (B + 2) 32 1 (.slice (some ⟨R, 0, none⟩) len len) len rs ∧ Regs wr Q Q nn j (fun i => evR op x (out i).toNat) ∧ R < wr.heap.size ∧ Q < wr.heap.size) (fun i _ => nn - (intOf i).toNat)
    case atStart => exact ⟨0, by omega, rfl, hk2, own1, hqg, hR2, hQ.2⟩
    case round =>
      clear hk2 own1 hqg c1 c2 c3 c4 c5 c6 c7 c8 c9 c10 c11
      obtain ⟨j, hj, rfl, hk1, hown, ⟨qs, hqo, hqs⟩, hRs, hQs⟩ := hrel
      obtain ⟨c1, c2, c3, c4, c5, c6, c7, c8, c9, c10, c11⟩ := id hk1
      by_cases hlt : j < nn
      · obtain ⟨b, off, rfl, hbs, hc⟩ := HU.out (by omega)
        have d1 := hc j hlt
        have hbw : Below w.heap.size w wr := by rw [hB]; exact c11
        rw [← (belowC hbw).1 _ _ (by rw [hB]; exact hbs)] at d1
        obtain ⟨A, hA, hA2⟩ := belowB_nat (HS2.out j hlt)
        obtain ⟨y, y1, y2, y3⟩ := HRS.out A (by omega)
        have d2 := (hown.cellAt A (by omega)).trans y1
        have hlen := hqo.1
        obtain ⟨u0, hu0⟩ : ∃ u, qs[j]? = some u := ⟨_, List.getElem?_eq_getElem (by omega)⟩
        have s1 := (hqo.cellAt j (by omega)).trans hu0
        have s2 := hqo.frozenAt j
        have hAn : ((out j).toNat) = A := by omega
        rw [hA] at d1
        have hRQ : R ≠ Q := by omega
        have hQR := hRQ.symm
        clear hc
        go_wp2_with fail
        go_roundw
        case rel => exact ⟨j + 1, by omega, by go_num, hk1.step ((Below.refl (B + 2) wr).setCell (p := ⟨Q, j, none⟩) (show B + 2 ≤ Q by omega) _), own_setN hown (by simp [Value.ownBlock]; exact hRQ), ⟨qs.set j (.float .f64 y), (hqo.stored j _).1, fun i hi => by
            by_cases e : i = j
            · subst e
              exact ⟨y, by rw [List.getElem?_set_self (by omega)], by rw [y2]; show evR op x A = evR op x (out i).toNat; rw [hAn], y3⟩
            · obtain ⟨z, z1, z2, z3⟩ := hqs i (by omega)
              exact ⟨z, by rw [List.getElem?_set_ne (Ne.symm e)]; exact z1, z2, z3⟩⟩, by simp [World.setCell]; omega, by simp [World.setCell]; omega⟩
        case measure => simp [intOf]; omega
      · obtain rfl : j = nn := by omega
        go_wp2_with fail
        go_ret
        exact ⟨Q, rfl, (show OwnF wr Q Q j j _ from ⟨qs, hqo, hqs⟩).base (by rw [hB]; omega), by rw [hB]; exact c11⟩
theorem run_tells (T : TD) (v vx : Value) (x : Nat → Nat) (w : World) (h : TapeAt w v T) (hck : checkB T = true) (hcs : ∀ i, i < T.len → (T.op i).c < 18446744073709551616) (nn : Nat) (hn : T.n = nn) (hx : FltsC w vx nn x) :
    Calls Try.prog 84 #[kindF, v, vx] w fun e w' => ∃ u, e = .returned u ∧ FltsC w' u T.lo (fun i => evR T.op x (T.out i).toNat) ∧ Below w.heap.size w w' := by
  obtain ⟨h1, h2⟩ := checkB_lo hck hn
  rw [h1]
  exact (run_own T v vx x w h hck hcs nn hn hx).mono fun _ _ h => h.tells (by omega)
end Go.Proofs.Ytnlbafjmbamoeaa
