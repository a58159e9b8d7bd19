/-
  The document's rows of equations, walked: copied.
-/
import Derived.Test.YtainodgbcpkipaaHv
import Derived.Test.YtainodgbcpkipaaLif
import Derived.Maps.AppendAt
namespace Go.Proofs.Ytainodgbcpkipaa
open Go.RowKit
open Ieee (double)
attribute [local go_sem] alloc_drewN setCell_drewN call_bits call_frombits ord_lt ord_eq ord_gt ord_ne ord_le ord_ge eqB_self run_fadd run_fsub run_fmul run_fquo haStoreFlt takeOp pureOp readsUpon doOp

set_option maxRecDepth 100000 in
set_option maxHeartbeats 4000000 in
theorem rcopied_tells (v : Value) (n : Nat) (f : Nat → Nat → Nat) (w : World) (h : TabR w v n (fun _ => n) f) (h1 : 1 ≤ n) (h8 : n ≤ 8) :
    Calls Try.prog 37 #[v] w fun e w' => ∃ G c blk cap, e = .returned (.slice (some ⟨G, 0, none⟩) n c) ∧ Grid w' w.heap.size G n n blk cap f ∧ Below w.heap.size w w' := by
  obtain ⟨a, cap0, rfl, hn, hr⟩ := h
  obtain ⟨b, off, rfl, hbs, hc⟩ := hr (by omega)
  have HC := Lib.hid hc
  obtain ⟨iF, hF, f1, f2, f3⟩ := info_parts infoF
  obtain ⟨iS, hS, s1, s2, s3⟩ := info_parts infoS
  have HF := Lib.hid (show iF.zero = _ ∧ iF.size = _ ∧ iF.bytes = _ from ⟨f1, f2, f3⟩)
  have HF0 := Lib.hid hF
  have HS := Lib.hid (show iS.zero = _ ∧ iS.size = _ ∧ iS.bytes = _ from ⟨s1, s2, s3⟩)
  have HS0 := Lib.hid hS
  clear hF f1 f2 f3 hS s1 s2 s3 hr hc
  go_enter Try.func37, Try.ntmps37
  generalize hB : w.heap.size = B at *
  go_wp2_with fail
  go_loopw [3, 4] (fun va i wr => ∃ (r : Nat) (blk cap : Nat → Nat), r ≤ n ∧ i = .int .i64 r ∧ GridV wr B va r n blk cap f ∧ Below B w wr) (fun _ i _ => n - (intOf i).toNat)
  case atStart => exact ⟨0, _, _, by omega, rfl, GridV.start _ _ _ _, Below.refl _ _⟩
  case round =>
    obtain ⟨r, blk, cap, hr, rfl, hg, hbl⟩ := hrel
    by_cases hlt : r < n
    · have hgl := hg.lt
      have hsz := hbl.size
      have HG := Lib.hid hg
      have HGL := Lib.hid hgl
      obtain ⟨rs, hrs, -⟩ := hg.own
      obtain ⟨va', vcap, rfl⟩ := own_slice1 hrs
      obtain ⟨u, hu, a2, cap2, rfl, hu2, hu3⟩ := HC.out r hlt
      obtain ⟨b2, off2, rfl, hb2s, hfc⟩ := hu3 (by omega)
      have hw : ∀ p o, p < B → wr.cell? ⟨p, o, none⟩ = w.cell? ⟨p, o, none⟩ := fun p o hp => hbl.cell (p := ⟨p, o, none⟩) hp
      rw [← hw _ _ hbs] at hu
      obtain ⟨ys, y1, y2, y3, y4⟩ := flts_list (w := wr) (b := b2) (off := off2) (n := n) (f := f r) (fun i hi => (hfc i hi).same (hw _ _ (by rw [← hB]; exact hb2s)))
      have HY := Lib.hid (show ys.length = n ∧ FVals ys n (f r) ∧ (∀ j v, ys[j]? = some v → wr.cell? ⟨b2, off2 + j, none⟩ = some v) ∧ ∀ v ∈ ys, v.oneCell' = true from ⟨y1, y2, y3, y4⟩)
      have hb2B : b2 < B := by rw [← hB]; exact hb2s
      clear hg hgl hrs rs hfc hu3 hw y1 y2 y3 y4
      have hal : Below wr.heap.size wr (wr.alloc (.cells #[] 45)) := (Below.refl _ _).alloc (Nat.le_refl _) _
      have hu' : (wr.alloc (.cells #[] 45)).cell? ⟨b, off + r, none⟩ = some (.slice (some ⟨b2, off2, none⟩) n cap2) := ((haCell hal).1 b (off + r) (by omega)).trans hu
      have he : (wr.alloc (.cells #[] 45)).ownsRow B 45 1 (.slice (some ⟨wr.heap.size, 0, none⟩) 0 0) 0 [] := ⟨by simp, .inr ⟨_, 0, #[], rfl, by omega, heap_alloc_new _ _, Nat.le_refl _, by unfold maxLen; omega, by simp, by simp⟩⟩
      have hn2 : ∀ j v, ys[j]? = some v → (wr.alloc (.cells #[] 45)).cell? ((⟨b2, off2, none⟩ : Addr).add j) = some v := fun j v hv => by
        have e4 : (⟨b2, off2, none⟩ : Addr).add j = ⟨b2, off2 + j, none⟩ := by simp [Addr.add]
        rw [e4, (haCell hal).1 b2 (off2 + j) (by omega)]
        exact HY.out.2.2.1 j v hv
      have hH : (wr.alloc (.cells #[] 45)).heap.size = wr.heap.size + 1 := by simp
      have HAL := Lib.hid hal
      have HE := Lib.hid he
      have HN2 := Lib.hid hn2
      have HH := Lib.hid hH
      clear hal he hn2 hH hu
      go_wp2_with (first
        | (at_builtin; refine wpList_append_own_at _ rfl (.tmp 12) (.tmp 16) 26 rfl B 45 iF (.float .f64 0) 1 8 Try.underlying26 HF0.out HF.out.1 HF.out.2.1 HF.out.2.2 rfl (by decide) (.slice (some ⟨wr.heap.size, 0, none⟩) 0 0) 0 [] rfl HE.out ⟨b2, off2, none⟩ n cap2 ys rfl (by rw [HY.out.1]; omega) HN2.out HY.out.2.2.2 (by unfold maxLen; omega) (by omega) (by rw [HH.out]; omega) ?_)
        | go_in)
      intro v' w2 hown' hgrow _ hob
      obtain ⟨R, rcap, rfl, hO⟩ := HY.out.2.1.own hown' (by omega)
      have hRl : wr.heap.size ≤ R := by
        rcases hob with e | e
        · have : R = wr.heap.size := by simpa [Value.ownBlock] using e
          omega
        · have : R = (wr.alloc (.cells #[] 45)).heap.size := by simpa [Value.ownBlock] using e
          have := HH.out; omega
      have hb2 : Below wr.heap.size wr w2 := HAL.out.trans (below_grown (base := wr.heap.size) (E := 45) (size := 1) (n := 0) (qs := []) (v := .slice (some ⟨wr.heap.size, 0, none⟩) 0 0) ⟨by simp, .inr ⟨_, 0, #[], rfl, Nat.le_refl _, heap_alloc_new _ _, Nat.le_refl _, by unfold maxLen; omega, by simp, by simp⟩⟩ (Nat.le_refl _) (by rw [HH.out]; omega) hgrow)
      have hg2 : GridV w2 B (.slice va' r vcap) r n blk cap f := HG.out.keep hb2 HGL.out.1 HGL.out.2
      have hne : ∀ i, i < r → blk i ≠ R := fun i hi => by have := HGL.out.2 i hi; omega
      have hne0 : (Value.slice va' r vcap).ownBlock ≠ some R := fun e => by have := HGL.out.1 R e; omega
      have hbl2 : Below B w w2 := hbl.trans (hb2.mono (by omega))
      obtain ⟨rs, hrs, -⟩ := hg2.own
      have hrl := hrs.1
      have HG2 := Lib.hid hg2
      have HRS := Lib.hid hrs
      have HO := Lib.hid hO
      have HNE := Lib.hid (show (∀ i, i < r → blk i ≠ R) ∧ _ from ⟨hne, hne0⟩)
      have hsz2 := hbl2.size
      clear hown' hgrow hob hb2 hg2 hne hne0 hrs hO HAL HE HN2 HH hu'
      go_wp2_with (first
        | (at_builtin; refine wpList_append_own_at _ rfl (.tmp 11) (.tmp 18) 24 rfl B 26 iS (.slice none 0 0) 1 24 Try.underlying24 HS0.out HS.out.1 HS.out.2.1 HS.out.2.2 rfl (by decide) (.slice va' r vcap) r rs rfl (HRS.out.alloc _) ⟨w2.heap.size, 0, none⟩ 1 1 [.slice (some ⟨R, 0, none⟩) n rcap] rfl rfl (news1 w2 (.slice (some ⟨R, 0, none⟩) n rcap) 26 0) (by simp [Value.oneCell']) (by unfold maxLen; omega) (by omega) (by simp; omega) ?_)
        | go_in)
      intro v'' w3 hown'' hgrow _ hob
      have hb3 : Below B w2 w3 := ((Below.refl B w2).alloc (by omega) _).trans (below_grown (HRS.out.alloc _) (Nat.le_refl _) (by simp; omega) hgrow)
      have hg3 := HG2.out.app HRS.out HO.out HNE.out.2 HNE.out.1 ((Below.refl _ _).alloc (Nat.le_refl _) _) hgrow hown'' (fun k hk => by
        rcases hob with e | e
        · rw [e] at hk; exact .inl hk
        · rw [e] at hk; simp only [Option.some.injEq] at hk; right; rw [← hk]; simp)
      have HG3 := Lib.hid hg3
      have HB3 := Lib.hid (hbl2.trans hb3)
      clear hown'' hgrow hob hg3 hb3
      go_wp2_with fail
      go_roundw
      case rel => exact ⟨r + 1, _, _, by omega, by go_num, HG3.out, HB3.out⟩
      case measure => simp [intOf]; omega
    · obtain rfl : r = n := by omega
      obtain ⟨G, c, hv, hG⟩ := hg.grid (by omega)
      have HG := Lib.hid hG
      subst hv
      clear hG hg
      go_wp2_with fail
      go_ret
      exact ⟨G, c, blk, cap, rfl, HG.out, hbl⟩
end Go.Proofs.Ytainodgbcpkipaa
