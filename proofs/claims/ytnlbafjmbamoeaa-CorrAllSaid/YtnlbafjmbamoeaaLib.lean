/-
  Rows of equations, copied.
-/
import Derived.Test.YtnlbafjmbamoeaaLia
import Derived.Test.YtnlbafjmbamoeaaHg
namespace Go.Proofs.Ytnlbafjmbamoeaa
open Go.RowKit
open Ieee (double)
attribute [local go_sem] alloc_drewN setCell_drewN call_bits call_frombits ord_lt ord_eq ord_gt ord_ne ord_le ord_ge eqB_self run_fadd run_fsub run_fmul run_fquo haStoreFlt

set_option maxHeartbeats 1000000 in
set_option maxRecDepth 100000 in
theorem copied_tells (v : Value) (n : Nat) (f : Nat → Nat → Nat) (w : World) (h : TabR w v n (fun _ => n) f) (h1 : 1 ≤ n) (h8 : n ≤ 8) :
    Calls Try.prog 66 #[v] w fun e w' => ∃ G blk cap, e = .returned (.slice (some ⟨G, 0, none⟩) n n) ∧ Grid w' w.heap.size G n n blk cap f ∧ Below w.heap.size w w' := by
  obtain ⟨a, cap, rfl, hn, hr⟩ := h
  obtain ⟨b, off, rfl, hbs, hc⟩ := hr (by omega)
  have HC := Lib.hid hc
  clear hr hc
  obtain ⟨iS, hS, s1, s2, s3⟩ := info_parts infoS
  obtain ⟨iF, hF, f1, f2, f3⟩ := info_parts infoF
  have HS := Lib.hid (show iS.zero = _ ∧ iS.size = _ ∧ iS.bytes = _ from ⟨s1, s2, s3⟩)
  have HS0 := Lib.hid hS
  have HF := Lib.hid (show iF.zero = _ ∧ iF.size = _ ∧ iF.bytes = _ from ⟨f1, f2, f3⟩)
  have HF0 := Lib.hid hF
  clear hS s1 s2 s3 hF f1 f2 f3
  go_enter Try.func66, Try.ntmps66
  generalize hB : w.heap.size = B at *
  go_wp2_with (first
    | (refine wpList_make_full _ rfl _ _ _ rfl B 31 iS (.slice none 0 0) 1 Try.underlying101 HS0.out HS.out.1 HS.out.2.1 .i64 .i64 (n : Int) (n : Int) n rfl rfl rfl rfl (by rw [HS.out.2.2]; omega) (by unfold maxLen; omega) (by omega) ?_))
  intro w1 hr0 hg0
  have hb1 : Below B w w1 := (Below.refl B w).grown hg0 (by omega) (fun k hk => by cases hk)
  have hP0 : GridP w1 B B n 0 n (fun _ => 0) (fun _ => n) f := ⟨⟨_, hr0, fun i hi => by omega⟩, fun i hi => by omega, fun i k hi => by omega, fun i hi => by omega⟩
  have hbB : b < B := hbs
  clear hr0 hg0
  go_wp2_with fail
  go_loopw [11] (fun i wr => ∃ (j : Nat) (blk : Nat → Nat) (g : Nat → Nat → Nat), j ≤ n ∧ i = .int .i64 j ∧ Below B w wr ∧ GridP wr B B n j n blk (fun _ => n) g ∧ ∀ r c, r < j → c < n → g r c = f r c) (fun i _ => n - (intOf i).toNat)
  case atStart => exact ⟨0, _, _, by omega, rfl, hb1, hP0, fun r c h => by omega⟩
  case round =>
    clear hP0 hb1
    obtain ⟨j, blk, g, hj, rfl, hb2, hP, hg⟩ := hrel
    by_cases hlt : j < n
    · obtain ⟨u, hu, a2, cap2, rfl, hu2, hu3⟩ := HC.out j hlt
      obtain ⟨b2, off2, rfl, hb2s, hfc⟩ := hu3 (by omega)
      have hw : ∀ p o, p < B → wr.cell? ⟨p, o, none⟩ = w.cell? ⟨p, o, none⟩ := fun p o hp => hb2.cell (p := ⟨p, o, none⟩) hp
      rw [← hw _ _ hbB] at hu
      have hfc2 : ∀ i, i < n → FCell wr b2 (off2 + i) (f j i) := fun i hi => (hfc i hi).same (hw _ _ (by rw [hB] at hb2s; exact hb2s))
      have HFC := Lib.hid hfc2
      have HG := Lib.hid hg
      have HP := Lib.hid hP
      have hGl := hP.lt
      have hbl : ∀ i, i < j → blk i < wr.heap.size := fun i hi => (hP.row i hi).lt.2
      have HBL := Lib.hid hbl
      have hsz := hb2.size
      clear hfc hfc2 hg hw hu3 hP hbl
      go_wp2_with (first
        | (refine wpList_make_full _ rfl _ _ _ rfl B 32 iF (.float .f64 0) 1 Try.underlying31 HF0.out HF.out.1 HF.out.2.1 .i64 .i64 (n : Int) (n : Int) n rfl rfl rfl rfl (by rw [HF.out.2.2]; omega) (by unfold maxLen; omega) (by omega) ?_))
      intro w2 hr1 hg1
      have hb3 : Below wr.heap.size wr w2 := (Below.refl _ wr).grown hg1 (by omega) (fun k hk => by cases hk)
      have hP2 := HP.out.below hb3 hGl.2 HBL.out
      have ho := ownF_made hr1
      have hR := ho.lt
      generalize hRe : wr.heap.size = R at *
      have hP3 := hP2.next hlt ho (by omega) (fun i hi => by have := HBL.out i hi; omega)
      have hb4 : Below B w w2 := hb2.trans (hb3.mono (by omega))
      obtain ⟨⟨u0, hu0⟩, hu1⟩ := hP2.head hlt
      have hBR : R ≠ B := by omega
      obtain ⟨cur, hh, hcl, -⟩ := ho.heap
      obtain ⟨ys, hy1, hy2, hy3, hy4⟩ := flts_list HFC.out
      have HH := Lib.hid hh
      have HY := Lib.hid (show ys.length = n ∧ _ ∧ _ ∧ _ from ⟨hy1, hy2, hy3, hy4⟩)
      have HP2 := Lib.hid hP2
      have HP3 := Lib.hid hP3
      have HO := Lib.hid ho
      have HRe := Lib.hid hRe
      clear hh hy1 hy2 hy3 hy4 hP2 hP3 ho hRe hr1 hg1
      have hb2B : b2 < B := by rw [hB] at hb2s; exact hb2s
      have W5 := Lib.hid (show ∀ v, (w2.setCell ⟨B, j, none⟩ v).heap[R]? = some (.cells cur.toArray 32 (0, 0)) ∧ ∀ i u, ys[i]? = some u → (w2.setCell ⟨B, j, none⟩ v).cell? ((⟨b2, off2, none⟩ : Addr).add i) = some u from fun v => ⟨by rw [Below.heap_setCell _ _ _ _ hBR]; exact HH.out, fun i u hu => by
        have e1 := HY.out.2.2.1 i u hu
        have e2 : w2.cell? ⟨b2, off2 + i, none⟩ = wr.cell? ⟨b2, off2 + i, none⟩ := hb3.cell (p := ⟨b2, off2 + i, none⟩) (show b2 < R by omega)
        have e3 : (w2.setCell ⟨B, j, none⟩ v).cell? ⟨b2, off2 + i, none⟩ = w2.cell? ⟨b2, off2 + i, none⟩ := World.cell?_of_block (a := ⟨b2, off2 + i, none⟩) (Below.heap_setCell _ _ _ _ (show b2 ≠ B by omega))
        have e4 : (⟨b2, off2, none⟩ : Addr).add i = ⟨b2, off2 + i, none⟩ := by simp [Addr.add]
        rw [e4]
        exact e3.trans (e2.trans e1)⟩)
      go_wp2_with (refine wpList_copy_splice rfl (.tmp 25) (.tmp 26) _ _ rfl 32 Try.underlying31 (by rw [HF0.out]; exact congrArg some HF.out.2.1) _ _ n n n cap2 rfl rfl R 0 cur 32 (W5.out _).1 ys (by rw [HY.out.1]; simp) (fun _ => ⟨rfl, _, rfl, (W5.out _).2⟩) (by rw [HY.out.1, hcl]; omega) HY.out.2.2.2 R _ (Below.refl _ _) (Nat.le_refl _) ?_)
      intro w6 hh6 hb6
      have hP6 := HP3.out.fill (k := j) (g := f j) (by omega) (hb6.block B (by omega)) (fun i hi hne => by rw [updN_ne _ _ hne]; exact hb6.block _ (by have := HBL.out i (by omega); omega)) (by rw [updN_at, updN_at]; exact ownF_spliced (by omega) (by unfold maxLen; omega) hcl HY.out.1 hh6.out HY.out.2.1)
      rw [updN_const] at hP6
      have hb7 : Below B w w6 := (hb4.setCell (Nat.le_refl _) _).trans (hb6.mono (by omega))
      have HP6 := Lib.hid hP6
      clear hP6 hb6 hb4 hb3
      go_wp2_with fail
      go_roundw
      case rel => exact ⟨j + 1, updN blk j R, _, by omega, by go_num, hb7, HP6.out, fun r c hr hc => by
        by_cases e : r = j
        · subst e; rw [updN_at]
        · rw [updN_ne _ _ e, updN_ne _ _ e]; exact HG.out r c (by omega) hc⟩
      case measure => simp [intOf]; omega
    · go_wp2_with fail
      go_ret
      have : j = n := by omega
      subst this
      exact ⟨B, blk, _, rfl, (hP.congr hg).grid, hb2⟩
end Go.Proofs.Ytnlbafjmbamoeaa
