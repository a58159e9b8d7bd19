/-
  What a tape tells of numbers, as the document does it.
-/
import Derived.Test.YtnlbafjmbamoeaaTps
import Derived.Deep.AppendLies
namespace Go.Proofs.Ytnlbafjmbamoeaa
open Go.RowKit
open Ieee (double)
attribute [local go_sem] alloc_drewN setCell_drewN call_bits call_frombits ord_lt ord_eq ord_gt ord_ne ord_le ord_ge eqB_self run_fadd run_fsub run_fmul run_fquo run_store_flt

theorem EvS.step {w0 : World} {B : Nat} {n : Int} {vo vu : Value} {w w' : World} (h : EvS w0 B n vo vu w) (hb : Below (B + 1) w w') : EvS w0 B n vo vu w' := by
  obtain ⟨h1, h2, h3, h4, h5⟩ := h
  have hc : ∀ b o, b < B + 1 → w'.cell? ⟨b, o, none⟩ = w.cell? ⟨b, o, none⟩ := fun b o h => hb.cell (p := ⟨b, o, none⟩) h
  have := hb.size
  exact ⟨by rw [hc _ _ (by omega)]; exact h1, by rw [hc _ _ (by omega)]; exact h2, by rw [hc _ _ (by omega)]; exact h3, by omega, h5.trans (hb.mono (by omega))⟩
theorem EvS.start (w : World) (n : Int) (vo vu : Value) (t : TypeId) : EvS w w.heap.size n vo vu (w.alloc (.cells #[.int .i64 n, vo, vu] t)) := by
  refine ⟨?_, ?_, ?_, by simp, (Below.refl _ _).alloc (Nat.le_refl _) _⟩
  all_goals (rw [World.cell?_alloc_new]; rfl)
theorem Regs.below {w w' : World} {H R len i : Nat} {f : Nat → Nat} (h : Regs w H R len i f) (hb : Below w.heap.size w w') : Regs w' H R len i f := by
  obtain ⟨rs, h1, h2⟩ := h
  exact ⟨rs, own_below h1 hb, h2⟩
set_option maxRecDepth 100000 in
set_option maxHeartbeats 4000000 in
theorem refEval_tells (T : TD) (v vx : Value) (x : Nat → Nat) (w : World) (h : TapeAt w v T) (hck : checkB T = true) (hcs : ∀ i, i < T.len → (T.op i).c < 18446744073709551616) (nn : Nat) (hn : T.n = nn) (hx : FltsC w vx nn x) :
    Calls Try.prog 52 #[v, vx] w fun e w' => ∃ u, e = .returned u ∧ FltsC w' u T.lo (fun i => evR T.op x (T.out i).toNat) ∧ Below w.heap.size w w' := by
  obtain ⟨n, len, op, lo, out⟩ := T
  obtain ⟨vo, vu, rfl, ⟨a, cap, rfl, hl1, ho⟩, ⟨a2, cap2, rfl, hl2, hu⟩⟩ := h
  unfold checkB at hck
  simp only [Bool.and_eq_true, decide_eq_true_eq] at hck hcs hn ho hu hl1 hl2 ⊢
  subst hn
  obtain ⟨⟨q1, q2, q3, q4⟩, hs1, hs2⟩ := hck
  obtain rfl : nn = lo := by omega
  clear q4
  have HS1 := Lib.hid (allB_iff.1 hs1)
  have HS2 := Lib.hid (allB_iff.1 hs2)
  have HCS := Lib.hid hcs
  have HO := Lib.hid ho
  have HU := Lib.hid hu
  have HX := Lib.hid hx
  obtain ⟨iF, hi, hz0, hz1, hz2⟩ := info_parts info_f
  have HI := Lib.hid (show iF.zero = _ ∧ iF.size = _ ∧ iF.bytes = _ from ⟨hz0, hz1, hz2⟩)
  have HI0 := Lib.hid hi
  have hkt := EvS.start w (nn : Int) (.slice a len cap) (.slice a2 nn cap2) 26
  obtain ⟨xa, xcap, rfl, hx1, -⟩ := id hx
  clear hs1 hs2 hcs ho hu hx hz0 hz1 hz2 hi
  go_enter Try.func52, Try.ntmps52
  go_upto_region 1 with fail
  generalize hB : w.heap.size = B at *
  generalize w.alloc (.cells #[.int .i64 nn, .slice a len cap, .slice a2 nn cap2] 26) = W at *
  obtain ⟨c1, c2, c3, c4, c5⟩ := id hkt
  go_wp2_with (first
    | (refine wpList_make_full _ rfl _ _ _ rfl (B + 1) 32 iF (.float .f64 0) 1 Try.underlying31 HI0.out HI.out.1 HI.out.2.1 .i64 .i64 (len : Int) (len : Int) len rfl rfl rfl rfl (by rw [HI.out.2.2]; omega) (by unfold maxLen; omega) (by omega) ?_)
    | go_in)
  intro w1 hr0 hg0
  have hR := (hr0.lt W.heap.size rfl)
  have hk1 := hkt.step ((Below.refl (B + 1) W).grown hg0 (by omega) (fun k hk => by cases hk))
  generalize hRe : W.heap.size = R at *
  have hrg : Regs w1 (B + 1) R len 0 (evR op x) := ⟨_, hr0, fun j hj => by omega⟩
  clear hr0 hg0 hkt c1 c2 c3 c4 c5
  go_upto_region 2 with fail
  obtain ⟨c1, c2, c3, c4, c5⟩ := id hk1
  go_upto_block 0 with fail
  go_cut [] (fun wx => EvS w B nn (.slice a len cap) (.slice a2 nn cap2) wx ∧ Regs wx (B + 1) R len len (evR op x) ∧ R < wx.heap.size)
  case first =>
    go_wp2_with fail
    go_loopw [6] (fun i wr => ∃ j : Nat, j ≤ len ∧ i = .int .i64 j ∧ EvS w B nn (.slice a len cap) (.slice a2 nn cap2) wr ∧ Regs wr (B + 1) R len j (evR op x) ∧ R < wr.heap.size) (fun i _ => len - (intOf i).toNat)
    case atStart => exact ⟨0, by omega, rfl, hk1, hrg, hR.2⟩
    case round =>
      clear hk1 hrg c1 c2 c3 c4 c5
      obtain ⟨j, hj, rfl, hk1, ⟨rs, hown, hrs⟩, hRs⟩ := hrel
      obtain ⟨c1, c2, c3, c4, c5⟩ := id hk1
      by_cases hlt : j < len
      · obtain ⟨b, off, rfl, hbs, hc⟩ := HO.out (by omega)
        obtain ⟨d1, d2, d3, d4⟩ := hc j hlt
        have hbw : Below w.heap.size w wr := by rw [hB]; exact c5
        have hcl := (belowC hbw).1
        rw [← hcl _ _ (by rw [hB]; exact hbs)] at d1 d2 d3 d4
        have hst := HS1.out j hlt
        have hcc := HCS.out j hlt
        have hxw := HX.out.below hbw
        have hv : evR op x j = valO (op j) x (fun i => (evL op x j).getD i 0) := rfl
        have hlen := hown.1
        obtain ⟨u0, hu0⟩ : ∃ u, rs[j]? = some u := ⟨_, List.getElem?_eq_getElem (by omega)⟩
        have s1 := (hown.cellAt j (by omega)).trans hu0
        have s2 := hown.frozenAt j
        have hRX : R ≠ wr.heap.size := by omega
        have hXR := hRX.symm
        generalize op j = oj at *
        obtain ⟨k, ka, kb, kc⟩ := oj
        unfold standsB at hst
        simp only [] at d1 d2 d3 d4 hst hcc
        have rel : ∀ (w' : World) (y : Nat), Below wr.heap.size wr w' → canon y = valO ⟨k, ka, kb, kc⟩ x (fun i => (evL op x j).getD i 0) → y < 18446744073709551616 → Regs (w'.setCell ⟨R, j, none⟩ (.float .f64 y)) (B + 1) R len (j + 1) (evR op x) := fun w' y hb hy hy2 =>
          ⟨rs.set j (.float .f64 y), ((own_below hown hb).stored j _).1, fun i hi => by
            by_cases e : i = j
            · subst e
              exact ⟨y, by rw [List.getElem?_set_self (by omega)], by rw [hy, hv], hy2⟩
            · obtain ⟨z, z1, z2, z3⟩ := hrs i (by omega)
              exact ⟨z, by rw [List.getElem?_set_ne (Ne.symm e)]; exact z1, z2, z3⟩⟩
        have REL := Lib.hid rel
        clear rel
        by_cases k0 : k = 0
        · subst k0
          clear hv hc hcl hst hxw
          go_wp2_with fail
          go_roundw
          case rel => exact ⟨j + 1, by omega, by go_num, hk1.step (((Below.refl (B + 1) wr).setCell (p := ⟨R, j, none⟩) hR.1 _).alloc (by simp [World.setCell]; omega) _), (REL.out wr kc (Below.refl _ _) rfl hcc).below ((Below.refl _ _).alloc (Nat.le_refl _) _), by simp [World.setCell]; omega⟩
          case measure => simp [intOf]; omega
        · by_cases k1 : k = 1
          · subst k1
            simp only [if_neg k0, if_true, Bool.and_eq_true] at hst
            obtain ⟨A, rfl, hA⟩ := belowB_nat hst.1
            obtain ⟨xa', xcap', hxe, -, hx2⟩ := hxw
            simp only [Value.slice.injEq] at hxe
            obtain ⟨rfl, -, rfl⟩ := hxe
            obtain ⟨xb, xo, rfl, hxs, hxc⟩ := hx2 (by omega)
            obtain ⟨y, y1, y2, y3⟩ := hxc A (by omega)
            clear hv hc hcl hst hxc hx2 k0
            go_wp2_with fail
            go_roundw
            case rel => exact ⟨j + 1, by omega, by go_num, hk1.step (((Below.refl (B + 1) wr).setCell (p := ⟨R, j, none⟩) hR.1 _).alloc (by simp [World.setCell]; omega) _), (REL.out wr y (Below.refl _ _) y2 y3).below ((Below.refl _ _).alloc (Nat.le_refl _) _), by simp [World.setCell]; omega⟩
            case measure => simp [intOf]; omega
          · have hk : 2 ≤ k ∧ k ≤ 5 := by
              rw [if_neg k0, if_neg k1] at hst
              by_cases h : 2 ≤ k ∧ k ≤ 5
              · exact h
              · rw [if_neg h] at hst; cases hst
            rw [if_neg k0, if_neg k1, if_pos hk] at hst
            simp only [Bool.and_eq_true] at hst
            obtain ⟨A, rfl, hA⟩ := belowB_nat hst.1
            obtain ⟨A2, rfl, hA2⟩ := belowB_nat hst.2.1
            obtain ⟨u1, hu1, hu2, hu3⟩ := hrs A (by omega)
            obtain ⟨u2, hv1, hv2, hv3⟩ := hrs A2 (by omega)
            have y1 := (hown.cellAt A (by omega)).trans hu1
            have y2 := (hown.cellAt A2 (by omega)).trans hv1
            have E : opF k u1 u2 = valO ⟨k, A, A2, kc⟩ x (fun i => (evL op x j).getD i 0) := by
              unfold valO
              simp only []
              rw [if_neg k0, if_neg k1, Int.toNat_natCast, Int.toNat_natCast, evL_get op x (show A < j by omega), evL_get op x (show A2 < j by omega), ← hu2, ← hv2]
              unfold opF
              simp only [cop_canon_left, cop_canon_right]
            have HE := Lib.hid E
            have ON := Lib.hid fun W => one_tells k u1 u2 W
            clear E hv hc hcl hst hu1 hv1 hu2 hv2 hxw hk
            have hb1 : Below wr.heap.size wr (wr.alloc (.cells #[.int .i64 k, .int .i64 A, .int .i64 A2, .float .f64 kc] 47)) := (Below.refl _ _).alloc (Nat.le_refl _) _
            have box := Box4.new ⟨k, A, A2, kc⟩ wr 47
            have y1' := ((belowC hb1).1 R A hRs).trans y1
            have y2' := ((belowC hb1).1 R A2 hRs).trans y2
            have s1' := ((belowC hb1).1 R j hRs).trans s1
            have s2' := ((belowC hb1).2 R j hRs).trans s2
            have a1 : (A : Int) < (len : Int) := by omega
            have a2 : (A2 : Int) < (len : Int) := by omega
            go_wp2_with fail
            generalize wr.alloc (.cells #[.int .i64 k, .int .i64 A, .int .i64 A2, .float .f64 kc] 47) = W1 at *
            obtain ⟨g0, g1, g2, g3, g4⟩ := box
            simp only [] at g0 g1 g2 g3
            clear y1 y2 s1 s2 c1 c2 c3 c4 c5 d1 d2 d3 d4
            generalize hXe : wr.heap.size = X at *
            have n1 : (⟨R, j, none⟩ : Addr) ≠ ⟨R, A, none⟩ := fun e => by injection e; omega
            have n2 : (⟨R, j, none⟩ : Addr) ≠ ⟨R, A2, none⟩ := fun e => by injection e; omega
            have n3 : ∀ o, (⟨R, j, none⟩ : Addr) ≠ ⟨X, o, none⟩ := fun o e => by injection e; omega
            have hoth : ∀ {p : Addr} {v : Value}, p ≠ ⟨R, j, none⟩ → W1.cell? p = some v → ∀ z m, ((W1.setCell ⟨R, j, none⟩ z).drewN m).cell? p = some v := fun {p v} hp hv z m => by
              show (W1.setCell ⟨R, j, none⟩ z).cell? p = some v
              first
                | (rw [World.cell?_setCell_other _ _ _ _ hp]; exact hv)
                | (rw [World.cell?_setCell_other _ _ _ _ hp.symm]; exact hv)
            go_region_held3 (fun w' => w'.cell? ⟨R, A, none⟩ = some (.float .f64 u1) ∧ w'.cell? ⟨R, A2, none⟩ = some (.float .f64 u2) ∧ w'.cell? ⟨X, 0, none⟩ = some (.int .i64 k) ∧ w'.cell? ⟨X, 1, none⟩ = some (.int .i64 A) ∧ w'.cell? ⟨X, 2, none⟩ = some (.int .i64 A2))
              (first
                | go_keep
                | exact ⟨hoth n1.symm y1' _ _, hoth n2.symm y2' _ _, hoth (n3 0).symm g0 _ _, hoth (n3 1).symm g1 _ _, hoth (n3 2).symm g2 _ _⟩)
              ((go_at_call 72; refine (ON.out _).mono ?_; rintro e w' ⟨z, m, rfl, hz1, hz2, rfl⟩))
            have hsz := hb1.size
            go_wp2_with fail
            go_roundw
            case rel => exact ⟨j + 1, by omega, by go_num, hk1.step (below_drew ((hb1.mono (show B + 1 ≤ X by omega)).setCell (p := ⟨R, j, none⟩) hR.1 _) _), (REL.out W1 z hb1 (by rw [hz1]; exact HE.out) hz2).below (below_drew (Below.refl _ _) _), show R < ((W1.setCell ⟨R, j, none⟩ (.float .f64 z)).drewN (1 + m)).heap.size by simp [World.setCell]; omega⟩
            case measure => simp [intOf]; omega
      · obtain rfl : j = len := by omega
        go_wp2_with fail
        go_meet
        exact ⟨hk1, ⟨rs, hown, hrs⟩, hRs⟩
  case rest =>
    clear hk1 hrg c1 c2 c3 c4 c5
    obtain ⟨hk1, ⟨rs, hown, hrs⟩, hRs⟩ := hcut
    have HRS := Lib.hid hrs
    clear hrs
    obtain ⟨c1, c2, c3, c4, c5⟩ := id hk1
    go_wp2_with fail
    generalize hQ : wc.heap.size = Q at *
    go_loopw [8, 9] (fun vo i wr => ∃ j : Nat, j ≤ nn ∧ i = .int .i64 j ∧ EvS w B nn (.slice a len cap) (.slice a2 nn cap2) wr ∧ wr.ownsRow (B + 1) 32 1 (.slice (some ⟨R, 0, none⟩) len len) len rs ∧ (∃ qs : List Value, wr.ownsRow Q 32 1 vo j qs ∧ ∀ i, i < j → ∃ y, qs[i]? = some (.float .f64 y) ∧ canon y = evR op x (out i).toNat ∧ y < 18446744073709551616) ∧ Q ≤ wr.heap.size) (fun _ i _ => nn - (intOf i).toNat)
    case atStart => exact ⟨0, by omega, rfl, hk1, hown, ⟨[], World.ownsRow_nil _ _ _ _, fun i hi => by omega⟩, by omega⟩
    case round =>
      clear hk1 hown c1 c2 c3 c4 c5
      obtain ⟨j, hj, rfl, hk1, hown, ⟨qs, hqo, hqs⟩, hQs⟩ := hrel
      obtain ⟨c1, c2, c3, c4, c5⟩ := id hk1
      obtain ⟨va, vcap, rfl, -⟩ := own_slice hqo
      by_cases hlt : j < nn
      · obtain ⟨b, off, rfl, hbs, hc⟩ := HU.out (by omega)
        have d1 := hc j hlt
        have hbw : Below w.heap.size w wr := by rw [hB]; exact c5
        rw [← (belowC hbw).1 _ _ (by rw [hB]; exact hbs)] at d1
        obtain ⟨A, hA, hA2⟩ := belowB_nat (HS2.out j hlt)
        obtain ⟨y, y1, y2, y3⟩ := HRS.out A (by omega)
        have d2 := (hown.cellAt A (by omega)).trans y1
        have hAn : ((out j).toNat) = A := by omega
        rw [hA] at d1
        clear hc
        go_wp2_with (first
          | (at_builtin; refine wpList_append_own _ rfl _ _ 31 rfl Q 32 iF (.float .f64 0) 1 8 Try.underlying31 HI0.out HI.out.1 HI.out.2.1 HI.out.2.2 rfl (by decide) (.slice va j vcap) j qs rfl (hqo.alloc _) ⟨wr.heap.size, 0, none⟩ 1 1 [.float .f64 y] rfl rfl (World.news_of_block (cs := #[.float .f64 y]) (t := 32) (fr := (0, 0)) (heap_alloc_new wr _)) (by simp [Value.oneCell']) (by unfold maxLen; omega) (by omega) (by simp; omega) ?_)
          | go_in)
        intro v' w2 hown' hgrow _
        have hb2 : Below Q wr w2 := ((Below.refl Q wr).alloc hQs _).trans (below_own (hqo.alloc _) (Nat.le_refl _) (by simp; omega) hgrow)
        have hRQ : (Value.slice (some ⟨R, 0, none⟩) len len).ownBlock = none ∨ (Value.slice (some ⟨R, 0, none⟩) len len).ownBlock ≠ (Value.slice va j vcap).ownBlock := .inr fun e => by
          have := (hqo.lt R e.symm).1
          omega
        have hown2 := (hown.alloc _).kept hgrow hRQ
        have hsz := hb2.size
        clear hgrow
        go_wp2_with fail
        go_roundw
        case rel => exact ⟨j + 1, by omega, by go_num, hk1.step (hb2.mono (by omega)), hown2, ⟨_, hown', fun i hi => by
            have hl := hqo.1
            by_cases e : i = j
            · subst e
              exact ⟨y, by rw [List.getElem?_append_right (by omega)]; simp [show i - qs.length = 0 by omega], by rw [y2, hAn], y3⟩
            · obtain ⟨z, z1, z2, z3⟩ := hqs i (by omega)
              exact ⟨z, by rw [List.getElem?_append_left (by omega)]; exact z1, z2, z3⟩⟩, by omega⟩
        case measure => simp [intOf]; omega
      · obtain rfl : j = nn := by omega
        go_wp2_with fail
        go_ret
        obtain ⟨va', vcap', he, hq⟩ := own_slice hqo
        refine ⟨_, rfl, ⟨_, _, rfl, by omega, fun h0 => ?_⟩, by first | exact c5 | (rw [hB]; exact c5)⟩
        simp only [Value.slice.injEq] at he
        obtain ⟨rfl, -, rfl⟩ := he
        obtain ⟨g, rfl, hg, hcell⟩ := hq h0
        refine ⟨g, 0, rfl, hg, fun i hi => ?_⟩
        obtain ⟨y, y1, y2, y3⟩ := hqs i hi
        exact ⟨y, by rw [Nat.zero_add, hcell i (by omega)]; exact y1, y2, y3⟩
end Go.Proofs.Ytnlbafjmbamoeaa
