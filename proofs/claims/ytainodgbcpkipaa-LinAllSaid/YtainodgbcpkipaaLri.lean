/-
  What is left of equations, walked: the document's; rows of from-tos that are the same.
-/
import Derived.Test.YtainodgbcpkipaaLrh
import Derived.Maps.AppendAt
namespace Go.Proofs.Ytainodgbcpkipaa
open Go.RowKit Ex
open Ieee (double)
attribute [local go_sem] alloc_drewN setCell_drewN call_bits call_frombits ord_lt ord_eq ord_gt ord_ne ord_le ord_ge eqB_self run_fadd run_fsub run_fmul run_fquo haStoreFlt takeOp pureOp readsUpon doOp

theorem news2 (w : World) (u v : Value) (t : TypeId) : ∀ j x, ([u, v] : List Value)[j]? = some x → (w.alloc (.cells #[u, v] t)).cell? ((⟨w.heap.size, 0, none⟩ : Addr).add j) = some x := fun j x hx => by
  have e : ∀ i, (⟨w.heap.size, 0, none⟩ : Addr).add i = ⟨w.heap.size, i, none⟩ := fun i => by unfold Addr.add; split <;> simp_all
  rcases j with - | - | j
  · simp only [List.getElem?_cons_zero, Option.some.injEq] at hx
    subst hx
    rw [e, World.cell?_alloc_new]; rfl
  · simp only [List.getElem?_cons_succ, List.getElem?_cons_zero, Option.some.injEq] at hx
    subst hx
    rw [e, World.cell?_alloc_new]; rfl
  · simp at hx
set_option maxHeartbeats 4000000 in
set_option maxRecDepth 100000 in
theorem rleft_tells (n : Nat) (va vx vb : Value) (f : Nat → Nat → Nat) (x b : Nat → Nat) (w : World) (ha : TabR w va n (fun _ => n) f) (hx : FRow w vx n x) (hb : FRow w vb n b) (h1 : 1 ≤ n) (h8 : n ≤ 8) :
    Calls Try.prog 22 #[va, vx, vb] w fun e w' => ∃ R c, e = .returned (.slice (some ⟨R, 0, none⟩) n c) ∧ OwnT w' w.heap.size R n c (fun i => leftW (f i) x (b i) n) ∧ Below w.heap.size w w' := by
  obtain ⟨aa, ca, rfl, hn, har⟩ := ha
  obtain ⟨xa, cx, rfl, -, hxr⟩ := hx
  obtain ⟨ba, cb, rfl, -, hbr⟩ := hb
  obtain ⟨iT, hT, g1, g2, g3⟩ := info_parts infoT
  have HT := Lib.hid (show iT.zero = _ ∧ iT.size = _ ∧ iT.bytes = _ from ⟨g1, g2, g3⟩)
  have HT0 := Lib.hid hT
  have HAR := Lib.hid har
  have HXR := Lib.hid hxr
  have HBR := Lib.hid hbr
  clear hT g1 g2 g3 har hxr hbr
  go_enter Try.func22, Try.ntmps22
  generalize hB : w.heap.size = B at *
  go_wp2_with fail
  go_loopw [7, 8] (fun vr i wr => ∃ (d : Nat) (qs : List Value), d ≤ n ∧ i = .int .i64 d ∧ wr.ownsRow B 53 2 vr d qs ∧ TVals qs d (fun i => leftW (f i) x (b i) n) ∧ Below B w wr) (fun _ i _ => n - (intOf i).toNat)
  case atStart => exact ⟨0, [], by omega, rfl, World.ownsRow_nil _ _ _ _, TVals.nil _ _, Below.refl _ _⟩
  case round =>
    obtain ⟨d, qs, hd, rfl, ho, hq, hbl⟩ := hrel
    obtain ⟨va, vcap, rfl⟩ := own_slice1 ho
    by_cases hdn : d < n
    · obtain ⟨ab, ao, rfl, has, hac⟩ := HAR.out (by omega)
      obtain ⟨u0, hu0, ra, rc, rfl, -, hrr⟩ := hac d hdn
      obtain ⟨b2, o2, rfl, hs2, hc2⟩ := hrr (by omega)
      obtain ⟨bb, bo, rfl, hsb, hcb⟩ := HBR.out (by omega)
      obtain ⟨y, y1, y2, y3⟩ := hcb d hdn
      rw [hB] at hs2
      rw [← hbl.cell (p := ⟨bb, bo + d, none⟩) hsb] at y1
      have HU0 := Lib.hid hu0
      have HRR := Lib.hid hc2
      have HO := Lib.hid ho
      have HQ := Lib.hid hq
      have HBL := Lib.hid hbl
      have hBs : B ≤ wr.heap.size := by have := hbl.size; omega
      have hob := ho.lt
      clear hac hrr hcb hc2 ho hq hbl hu0
      go_wp2_with fail
      refine (rpoint_tells y _).mono ?_
      rintro e w3 ⟨rfl, hb3⟩
      have hb3s := hb3.size
      have hO3 := own_kept HO.out (fun k hk => hb3.block k (hob k hk).2)
      have hal : Below w3.heap.size w3 (w3.alloc (.cells #[.float .f64 y, .float .f64 y] 53)) := (Below.refl _ _).alloc (Nat.le_refl _) _
      have HO4 := Lib.hid (own_kept hO3 (fun k hk => hal.block k (hO3.lt k hk).2))
      have HX4 := Lib.hid (IvBox.new w3 53 y2 y3 y2 y3)
      have HB4 := Lib.hid (show Below B w (w3.alloc (.cells #[.float .f64 y, .float .f64 y] 53)) from (HBL.out.trans (hb3.mono (by omega))).trans (hal.mono (by omega)))
      have HOB := Lib.hid (show ∀ k, (Value.slice va d vcap).ownBlock = some k → k ≠ w3.heap.size from fun k hk => by have := (hob k hk).2; omega)
      have hBX : B ≤ w3.heap.size := by omega
      clear hb3 hO3 hal HO HBL y1 hob
      go_wp2_with fail
      generalize w3.alloc (.cells #[.float .f64 y, .float .f64 y] 53) = X4 at *
      generalize w3.heap.size = X at *
      clear w3
      go_loopw [10] (fun i ws => ∃ (e p q : Nat), e ≤ n ∧ i = .int .i64 e ∧ leftW (f d) x (b d) e = (p, q) ∧ ws.ownsRow B 53 2 (.slice va d vcap) d qs ∧ IvBox X p q ws ∧ Below B w ws) (fun i _ => n - (intOf i).toNat)
      case atStart => exact ⟨0, _, _, by omega, rfl, rfl, HO4.out, HX4.out, HB4.out⟩
      case round =>
        clear HO4 HX4 HB4 X4
        obtain ⟨e, p, q, he, rfl, hpq, ho, hx, hbs⟩ := hrel
        by_cases hen : e < n
        · obtain ⟨xb, xo, rfl, hsx, hxc⟩ := HXR.out (by omega)
          obtain ⟨z, z1, z2, z3⟩ := hxc e hen
          obtain ⟨c, c1, c2, c3⟩ := HRR.out e hen
          have hss : B ≤ wr.heap.size := by have := hbs.size; omega
          have hu := HU0.out
          rw [← hbs.cell (p := ⟨xb, xo + e, none⟩) hsx] at z1
          rw [← hbs.cell (p := ⟨b2, o2 + e, none⟩) hs2] at c1
          rw [← hbs.cell (p := ⟨ab, ao + d, none⟩) has] at hu
          have HPQ := Lib.hid hpq
          have HO := Lib.hid ho
          have HX := Lib.hid hx
          have HBS := Lib.hid hbs
          clear hxc hpq ho hx hbs
          go_wp2_with fail
          refine wp_region_ordR [(0, 3), (1, 1), (2, 1), (3, 1), (4, 3), (5, 1), (6, 1), (7, 3), (9, 1), (10, 1), (11, 1), (12, 3), (8, 0), (13, 0), (14, 0), (15, 0), (16, 0)] (fun W => Below wr.heap.size wr W) (by kernel_rfl) (by kernel_rfl) (fun _ _ d _ _ h => by cases d <;> exact h) ((Below.refl _ _).drew) ?_
          intro Z hZ hbZ
          clear hZ
          obtain ⟨⟨u, u1, u2, u3⟩, ⟨v, v1, v2, v3⟩, x3, x4, x5⟩ := id HX.out
          refine wpOrd_keep (v := iv u v) rfl rfl (fun wk hwk => ?_) ?_
          · rw [← (haCell hwk).1 _ _ x5] at u1 v1
            unfold iv
            go_simp
          iterate 3
            first
              | refine wpOrd_pure (fun K hK => ?_)
              | refine wpOrd_take (fun K hK => ?_)
            go_simp
            refine hK _ ?_
            clear hK K
          refine wpOrd_keep (v := .slice (some ⟨b2, o2, none⟩) n rc) rfl rfl (fun wk hwk => ?_) ?_
          · rw [← (haCell hwk).1 _ _ (Nat.lt_of_lt_of_le has hss)] at hu
            go_simp
          iterate 2
            first
              | refine wpOrd_pure (fun K hK => ?_)
              | refine wpOrd_take (fun K hK => ?_)
            go_simp
            refine hK _ ?_
            clear hK K
          refine wpOrd_keep (v := .float .f64 c) rfl rfl (fun wk hwk => ?_) ?_
          · rw [← (haCell hwk).1 _ _ (Nat.lt_of_lt_of_le hs2 hss)] at c1
            go_simp
          iterate 3
            first
              | refine wpOrd_pure (fun K hK => ?_)
              | refine wpOrd_take (fun K hK => ?_)
            go_simp
            refine hK _ ?_
            clear hK K
          refine wpOrd_keep (v := .float .f64 z) rfl rfl (fun wk hwk => ?_) ?_
          · rw [← (haCell hwk).1 _ _ (Nat.lt_of_lt_of_le hsx hss)] at z1
            go_simp
          refine wpOrd_doR (fun K hK => ?_)
          go_simp
          refine (rpoint_tells c _).mono ?_
          rintro e1 wa ⟨rfl, hba⟩
          have hbA := hbZ.trans (hba.mono hbZ.size)
          refine hK _ _ (fun h => Bool.noConfusion (Eq.trans (Eq.symm (by kernel_rfl : _ = false)) h)) (fun _ => hbA) ?_
          clear hK K
          refine wpOrd_doR (fun K hK => ?_)
          go_simp
          refine (rpoint_tells z _).mono ?_
          rintro e1 wb ⟨rfl, hbb⟩
          have hbB := hbA.trans (hbb.mono hbA.size)
          refine hK _ _ (fun h => Bool.noConfusion (Eq.trans (Eq.symm (by kernel_rfl : _ = false)) h)) (fun _ => hbB) ?_
          clear hK K
          refine wpOrd_doR (fun K hK => ?_)
          go_simp
          refine (rMul_call c c z z c3 c3 z3 z3 _).mono ?_
          rintro e1 wc ⟨rfl, hbc⟩
          have hbC := hbB.trans (hbc.mono hbB.size)
          refine hK _ _ (fun h => Bool.noConfusion (Eq.trans (Eq.symm (by kernel_rfl : _ = false)) h)) (fun _ => hbC) ?_
          clear hK K
          have hm := mulP_canon c2 c2 z2 z2
          have hms := mulP_self c c z z
          have hml := mulP_lt c c z z
          generalize mulP c c z z = mm at *
          obtain ⟨m1, m2⟩ := mm
          have hs := subP_canon u2 v2 hms.1 hms.2
          have hW : leftW (f d) x (b d) (e + 1) = subP u v m1 m2 := by
            rw [hs, leftW, HPQ.out, ← hm]
          refine wpOrd_doR (fun K hK => ?_)
          go_simp
          refine (rSub_call u v m1 m2 u3 v3 hml.1 hml.2 _).mono ?_
          rintro e1 wd ⟨rfl, hbd⟩
          have hbD := hbC.trans (hbd.mono hbC.size)
          refine hK _ _ (fun h => Bool.noConfusion (Eq.trans (Eq.symm (by kernel_rfl : _ = false)) h)) (fun _ => hbD) ?_
          clear hK K
          have k1 := subP_self u v m1 m2
          have k2 := subP_lt u v m1 m2
          generalize subP u v m1 m2 = pq at *
          obtain ⟨r1, r2⟩ := pq
          have hXD := HX.out.below hbD
          have HXS := Lib.hid (hXD.set k1.1 k2.1 k1.2 k2.2)
          obtain ⟨⟨t1, t2, -, -⟩, ⟨t3, t4, -, -⟩, t5, t6, t7⟩ := id hXD
          have hOD := own_kept HO.out (fun k hk => hbD.block k (HO.out.lt k hk).2)
          have HOS := Lib.hid (own_kept hOD (w' := (wd.setCell ⟨X, 0, none⟩ (.float .f64 r1)).setCell ⟨X, 1, none⟩ (.float .f64 r2)) (fun k hk => by
            rw [Below.heap_setCell _ _ _ _ (HOB.out k hk), Below.heap_setCell _ _ _ _ (HOB.out k hk)]))
          have hBD := HBS.out.trans (hbD.mono hss)
          have HBD := Lib.hid ((hBD.setCell (p := ⟨X, 0, none⟩) (show B ≤ X by omega) (.float .f64 r1)).setCell (p := ⟨X, 1, none⟩) (show B ≤ X by omega) (.float .f64 r2))
          have HWD := Lib.hid hW
          clear hbZ hba hbA hbb hbB hbc hbC hbd hbD hXD hOD hBD k1 k2 hm hms hml hs hW HO HBS HX u1 v1 x3 x4 x5 z1 c1 hu
          dsimp only [iv]
          refine wpOrd_doR (fun K hK => ?_)
          go_simp
          refine hK _ _ (fun h => Bool.noConfusion (Eq.trans (Eq.symm (by kernel_rfl : _ = false)) h)) (fun h => Bool.noConfusion (Eq.trans (Eq.symm (by kernel_rfl : _ = false)) h)) ?_
          clear hK K
          refine wpOrd_nil ?_
          clear t2 t4 t5 t6 t7
          go_wp2_with fail
          go_roundw
          case rel => exact ⟨e + 1, by omega, by go_num, r1, r2, HWD.out, HOS.out, HXS.out, HBD.out⟩
          case measure => simp [intOf]; omega
        · obtain rfl : n = e := by omega
          obtain ⟨⟨u, u1, u2, u3⟩, ⟨v, v1, v2, v3⟩, x3, x4, x5⟩ := id hx
          have HO := Lib.hid ho
          have HBS := Lib.hid hbs
          have HPQ := Lib.hid hpq
          have hss : B ≤ wr.heap.size := by have := hbs.size; omega
          clear ho hbs hx hpq
          go_wp2_with (first
            | (at_builtin; go_loud (refine wpList_append_own_at _ rfl _ _ 38 rfl B 53 iT (.agg #[.float .f64 0, .float .f64 0]) 2 16 Try.underlying38 HT0.out HT.out.1 HT.out.2.1 HT.out.2.2 rfl (by decide) (.slice va d vcap) d qs rfl (HO.out.alloc _) ⟨wr.heap.size, 0, none⟩ 1 1 [.float .f64 u, .float .f64 v] rfl rfl (news2 wr (.float .f64 u) (.float .f64 v) 53) (by simp [Value.oneCell']) (by unfold maxLen; omega) (by omega) (size_alloc _ _ 0 (by omega)) ?_))
            | go_in)
          intro v' w2 hown' hgrow _ _
          have hb2 : Below B wr w2 := ((Below.refl B wr).alloc (by omega) _).trans (below_grown (HO.out.alloc _) (Nat.le_refl _) (size_alloc _ _ 0 (by omega)) hgrow)
          have hql := HO.out.1
          have HQ' := Lib.hid (HQ.out.app (by omega) (by rw [HPQ.out]; exact u2) u3 (by rw [HPQ.out]; exact v2) v3)
          have HO' := Lib.hid hown'
          have HB2 := Lib.hid (HBS.out.trans (hb2))
          clear hown' hgrow hb2 u1 v1 x3 x4 x5
          go_wp2_with fail
          go_roundw
          case rel => exact ⟨d + 1, _, by omega, by go_num, HO'.out, HQ'.out, HB2.out⟩
          case measure => simp [intOf]; omega
    · obtain rfl : d = n := by omega
      obtain ⟨R, cap, hv, hO⟩ := hq.own ho (by omega)
      simp only [Value.slice.injEq] at hv
      obtain ⟨rfl, -, rfl⟩ := hv
      have HO := Lib.hid hO
      clear hO ho hq
      go_wp2_with fail
      go_ret
      exact ⟨R, vcap, rfl, HO.out, hbl⟩
end Go.Proofs.Ytainodgbcpkipaa
