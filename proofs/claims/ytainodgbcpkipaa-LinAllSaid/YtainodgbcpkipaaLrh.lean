/-
  What is left of equations, walked: the program's and the document's.
-/
import Derived.Test.YtainodgbcpkipaaLrg
import Derived.Test.YtainodgbcpkipaaLia
import Derived.Test.YtainodgbcpkipaaReg
namespace Go.Proofs.Ytainodgbcpkipaa
open Go.RowKit Ex
open Ieee (double)
attribute [local go_sem] alloc_drewN setCell_drewN call_bits call_frombits ord_lt ord_eq ord_gt ord_ne ord_le ord_ge eqB_self run_fadd run_fsub run_fmul run_fquo haStoreFlt takeOp pureOp readsUpon doOp

theorem infoT : (Try.prog.info? 53).map (fun i => (i.zero, i.size, i.bytes)) = some (some (.agg #[.float .f64 0, .float .f64 0]), 2, 16) := by kernel_rfl
theorem point_tells (a : Nat) (w : World) : Calls Try.prog 40 #[.float .f64 a] w (Tells (iv a a) w) := by
  go_enter Try.func40, Try.ntmps40
  have hb := (Below.refl w.heap.size w).alloc (Nat.le_refl _) (.cells #[.float .f64 a, .float .f64 a] 53)
  go_wp2_with fail
  exact bodyPost_ret (v := iv a a) (by simp [iv, results, Try.results40, go_sem]) rfl ⟨rfl, hb⟩
theorem rpoint_tells (a : Nat) (w : World) : Calls Try.prog 43 #[.float .f64 a] w (Tells (iv a a) w) := by
  go_enter Try.func43, Try.ntmps43
  have hb := (Below.refl w.heap.size w).alloc (Nat.le_refl _) (.cells #[.float .f64 a, .float .f64 a] 53)
  go_wp2_with fail
  exact bodyPost_ret (v := iv a a) (by simp [iv, results, Try.results43, go_sem]) rfl ⟨rfl, hb⟩
theorem subT_tells (a b c d : Nat) (w : World) : Calls Try.prog 41 #[iv a b, iv c d] w (Tells (iv (subP a b c d).1 (subP a b c d).2) w) := (sub_any a b c d w).mono fun _ _ h => Gives.eq h (outP_eq _ _)
theorem mulT_tells (a b c d : Nat) (w : World) : Calls Try.prog 42 #[iv a b, iv c d] w (Tells (iv (mulP a b c d).1 (mulP a b c d).2) w) := (mul_any a b c d w).mono fun _ _ h => Gives.eq h (aroundP_eq _ _ _ _)
/-- A from-to that lies in a block of its own. -/
def IvBox (b u v : Nat) (w : World) : Prop := FCell w b 0 u ∧ FCell w b 1 v ∧ w.frozen? ⟨b, 0, none⟩ = false ∧ w.frozen? ⟨b, 1, none⟩ = false ∧ b < w.heap.size
theorem IvBox.below {b u v : Nat} {w w' : World} (h : IvBox b u v w) (hb : Below w.heap.size w w') : IvBox b u v w' := by
  obtain ⟨h1, h2, h3, h4, h5⟩ := h
  exact ⟨h1.same ((haCell hb).1 _ _ h5), h2.same ((haCell hb).1 _ _ h5), ((haCell hb).2 _ _ h5).trans h3, ((haCell hb).2 _ _ h5).trans h4, Nat.lt_of_lt_of_le h5 hb.size⟩
theorem IvBox.new {y z u v : Nat} (w : World) (t : TypeId) (h1 : canon y = u) (h2 : y < 18446744073709551616) (h3 : canon z = v) (h4 : z < 18446744073709551616) : IvBox w.heap.size u v (w.alloc (.cells #[.float .f64 y, .float .f64 z] t)) := by
  refine ⟨⟨y, ?_, h1, h2⟩, ⟨z, ?_, h3, h4⟩, ?_, ?_, by simp⟩
  · rw [World.cell?_alloc_new]; rfl
  · rw [World.cell?_alloc_new]; rfl
  · simp [go_sem]
  · simp [go_sem]
theorem IvBox.set {b u v y z p q : Nat} {w : World} (h : IvBox b u v w) (h1 : canon y = p) (h2 : y < 18446744073709551616) (h3 : canon z = q) (h4 : z < 18446744073709551616) : IvBox b p q ((w.setCell ⟨b, 0, none⟩ (.float .f64 y)).setCell ⟨b, 1, none⟩ (.float .f64 z)) := by
  obtain ⟨⟨y0, c1, -, -⟩, ⟨z0, c2, -, -⟩, f1, f2, hs⟩ := h
  refine ⟨⟨y, ?_, h1, h2⟩, ⟨z, ?_, h3, h4⟩, ?_, ?_, by simp [World.setCell]; exact hs⟩
  · simp [go_sem, c1]
  · simp [go_sem, c2]
  · simp [go_sem, f1]
  · simp [go_sem, f2]
set_option maxHeartbeats 4000000 in
set_option maxRecDepth 100000 in
theorem left_tells (n : Nat) (va vx vb : Value) (f : Nat → Nat → Nat) (x b : Nat → Nat) (w : World) (ha : TabR w va n (fun _ => n) f) (hx : FRow w vx n x) (hb : FRow w vb n b) (h1 : 1 ≤ n) (h8 : n ≤ 8) :
    Calls Try.prog 21 #[va, vx, vb] w fun e w' => ∃ R, e = .returned (.slice (some ⟨R, 0, none⟩) n n) ∧ OwnT w' w.heap.size R n n (fun i => leftW (f i) x (b i) n) ∧ Below w.heap.size w w' := by
  obtain ⟨aa, ca, rfl, hn, har⟩ := id ha
  obtain ⟨xa, cx, rfl, -, hxr⟩ := hx
  obtain ⟨ba, cb, rfl, -, hbr⟩ := hb
  obtain ⟨iT, hT, g1, g2, g3⟩ := info_parts infoT
  have HT := Lib.hid (show iT.zero = _ ∧ iT.size = _ ∧ iT.bytes = _ from ⟨g1, g2, g3⟩)
  have HT0 := Lib.hid hT
  have E := Lib.hid (stands_true _ n f w ha h1 h8)
  have HAR := Lib.hid har
  have HXR := Lib.hid hxr
  have HBR := Lib.hid hbr
  have hne : ((n : Int) != n) = false := by simp
  clear hT g1 g2 g3 ha har hxr hbr
  go_enter Try.func21, Try.ntmps21
  go_wp2_with fail
  refine E.out.mono ?_
  rintro e w1 ⟨rfl, rfl⟩
  go_wp2_with (first
    | (refine wpList_make_full _ rfl _ _ _ rfl w.heap.size 53 iT (.agg #[.float .f64 0, .float .f64 0]) 2 Try.underlying38 HT0.out HT.out.1 HT.out.2.1 .i64 .i64 (n : Int) (n : Int) n rfl rfl rfl rfl (by rw [HT.out.2.2]; omega) (by unfold maxLen; omega) (by omega) ?_)
    | fail)
  intro w2 hr1 hg1
  have hb2 : Below w.heap.size w w2 := (Below.refl _ w).grown hg1 (Nat.le_refl _) (fun k hk => by cases hk)
  have HO := Lib.hid (ownT_made hr1)
  have hb2s := hb2.size
  generalize hB : w.heap.size = B at *
  clear hr1 hg1
  go_wp2_with fail
  go_loopw [35] (fun i wr => ∃ (d : Nat) (F : Nat → Nat × Nat), d ≤ n ∧ i = .int .i64 d ∧ OwnT wr B B n n F ∧ (∀ k, k < d → F k = leftW (f k) x (b k) n) ∧ Below B w wr) (fun i _ => n - (intOf i).toNat)
  case atStart => exact ⟨0, _, by omega, rfl, HO.out, fun k hk => by omega, hb2⟩
  case round =>
    clear HO hb2 hb2s
    obtain ⟨d, F, hd, rfl, ho, hF, hbl⟩ := hrel
    by_cases hdn : d < n
    · obtain ⟨ab, ao, rfl, has, hac⟩ := HAR.out (by omega)
      obtain ⟨u, hu, ra, rc, rfl, -, hrr⟩ := hac d hdn
      obtain ⟨b2, o2, rfl, hs2, hc2⟩ := hrr (by omega)
      obtain ⟨bb, bo, rfl, hsb, hcb⟩ := HBR.out (by omega)
      obtain ⟨y, y1, y2, y3⟩ := hcb d hdn
      rw [hB] at hs2
      rw [← hbl.cell (p := ⟨ab, ao + d, none⟩) has] at hu
      rw [← hbl.cell (p := ⟨bb, bo + d, none⟩) hsb] at y1
      have HRR := Lib.hid hc2
      have HO := Lib.hid ho
      have HF := Lib.hid hF
      have HBL := Lib.hid hbl
      have hBs := hbl.size
      clear hac hrr hcb hc2 ho hF hbl
      go_wp2_with fail
      refine (point_tells y _).mono ?_
      rintro e w3 ⟨rfl, hb3⟩
      have hb3s := hb3.size
      have hO3 := HO.out.below hb3 HO.out.lt.2
      have hBX : B < w3.heap.size := hO3.lt.2
      have hal : Below w3.heap.size w3 (w3.alloc (.cells #[.float .f64 y, .float .f64 y] 53)) := (Below.refl _ _).alloc (Nat.le_refl _) _
      have HO4 := Lib.hid (hO3.below hal hBX)
      have HX4 := Lib.hid (IvBox.new w3 53 y2 y3 y2 y3)
      have HB4 := Lib.hid (show Below B w (w3.alloc (.cells #[.float .f64 y, .float .f64 y] 53)) from (HBL.out.trans (hb3.mono (by omega))).trans (hal.mono (by omega)))
      clear hb3 hO3 hal HO HBL y1 hu
      go_wp2_with fail
      generalize w3.alloc (.cells #[.float .f64 y, .float .f64 y] 53) = X4 at *
      generalize w3.heap.size = X at *
      clear w3
      go_loopw [47] (fun i ws => ∃ (e p q : Nat), e ≤ n ∧ i = .int .i64 e ∧ leftW (f d) x (b d) e = (p, q) ∧ OwnT ws B B n n F ∧ IvBox X p q ws ∧ Below B w ws) (fun i _ => n - (intOf i).toNat)
      case atStart => exact ⟨0, _, _, by omega, rfl, rfl, HO4.out, HX4.out, HB4.out⟩
      case round =>
        clear HO4 HX4 HB4 X4
        obtain ⟨e, p, q, he, rfl, hpq, ho, hx, hbs⟩ := hrel
        by_cases hen : e < n
        · obtain ⟨xb, xo, rfl, hsx, hxc⟩ := HXR.out (by omega)
          obtain ⟨z, z1, z2, z3⟩ := hxc e hen
          obtain ⟨c, c1, c2, c3⟩ := HRR.out e hen
          have hss : B ≤ wr.heap.size := by have := hbs.size; omega
          rw [← hbs.cell (p := ⟨xb, xo + e, none⟩) hsx] at z1
          rw [← hbs.cell (p := ⟨b2, o2 + e, none⟩) hs2] at c1
          have HPQ := Lib.hid hpq
          have HO := Lib.hid ho
          have HX := Lib.hid hx
          have HBS := Lib.hid hbs
          clear hxc hpq ho hx hbs
          go_wp2_with fail
          refine wp_region_ordR [(0, 3), (1, 1), (3, 1), (4, 1), (5, 1), (6, 3), (2, 0), (7, 0), (8, 0), (9, 0), (10, 0)] (fun W => Below wr.heap.size wr W) (by kernel_rfl) (by kernel_rfl) (fun _ _ d _ _ h => by cases d <;> exact h) ((Below.refl _ _).drew) ?_
          intro Z hZ hbZ
          clear hZ
          obtain ⟨⟨u, u1, u2, u3⟩, ⟨v, v1, v2, v3⟩, x3, x4, x5⟩ := id HX.out
          refine wpOrd_keep (v := iv u v) rfl rfl (fun wk hwk => ?_) ?_
          · rw [← (haCell hwk).1 _ _ x5] at u1 v1
            unfold iv
            go_simp
          iterate 4
            first
              | refine wpOrd_pure (fun K hK => ?_)
              | refine wpOrd_take (fun K hK => ?_)
            go_simp
            refine hK _ ?_
            clear hK K
          refine wpOrd_keep (v := .float .f64 z) rfl rfl (fun wk hwk => ?_) ?_
          · rw [← (haCell hwk).1 _ _ (Nat.lt_of_lt_of_le hsx hss)] at z1
            go_simp
          refine wpOrd_doR (fun K hK => ?_)
          go_simp
          refine (point_tells c _).mono ?_
          rintro e1 wa ⟨rfl, hba⟩
          have hbA := hbZ.trans (hba.mono hbZ.size)
          refine hK _ _ (fun h => Bool.noConfusion (Eq.trans (Eq.symm (by kernel_rfl : _ = false)) h)) (fun _ => hbA) ?_
          clear hK K
          refine wpOrd_doR (fun K hK => ?_)
          go_simp
          refine (point_tells z _).mono ?_
          rintro e1 wb ⟨rfl, hbb⟩
          have hbB := hbA.trans (hbb.mono hbA.size)
          refine hK _ _ (fun h => Bool.noConfusion (Eq.trans (Eq.symm (by kernel_rfl : _ = false)) h)) (fun _ => hbB) ?_
          clear hK K
          refine wpOrd_doR (fun K hK => ?_)
          go_simp
          refine (mulT_tells c c z z _).mono ?_
          rintro e1 wc ⟨rfl, hbc⟩
          have hbC := hbB.trans (hbc.mono hbB.size)
          refine hK _ _ (fun h => Bool.noConfusion (Eq.trans (Eq.symm (by kernel_rfl : _ = false)) h)) (fun _ => hbC) ?_
          clear hK K

          have hm := mulP_canon c2 c2 z2 z2
          have hms := mulP_self c c z z
          generalize mulP c c z z = mm at *
          obtain ⟨m1, m2⟩ := mm
          have hs := subP_canon u2 v2 hms.1 hms.2
          have hW : leftW (f d) x (b d) (e + 1) = subP u v m1 m2 := by
            rw [hs, leftW, HPQ.out, ← hm]
          refine wpOrd_doR (fun K hK => ?_)
          go_simp

          refine (subT_tells u v m1 m2 _).mono ?_
          rintro e1 wd ⟨rfl, hbd⟩
          have hbD := hbC.trans (hbd.mono hbC.size)
          refine hK _ _ (fun h => Bool.noConfusion (Eq.trans (Eq.symm (by kernel_rfl : _ = false)) h)) (fun _ => hbD) ?_
          clear hK K
          have k1 := subP_self u v m1 m2
          have k2 := subP_lt u v m1 m2
          generalize subP u v m1 m2 = pq at *
          obtain ⟨r1, r2⟩ := pq
          have hXD := HX.out.below hbD
          have HXS := Lib.hid (hXD.set k1.1 k2.1 k1.2 k2.2)
          obtain ⟨⟨t1, t2, -, -⟩, ⟨t3, t4, -, -⟩, t5, t6, t7⟩ := id hXD
          have hOD := HO.out.below hbD HO.out.lt.2
          have HOS := Lib.hid ((hOD.other (B := X) (o := 0) (by omega) (.float .f64 r1)).other (B := X) (o := 1) (by omega) (.float .f64 r2))
          have hBD := HBS.out.trans (hbD.mono hss)
          have HBD := Lib.hid ((hBD.setCell (p := ⟨X, 0, none⟩) (show B ≤ X by omega) (.float .f64 r1)).setCell (p := ⟨X, 1, none⟩) (show B ≤ X by omega) (.float .f64 r2))
          have HWD := Lib.hid hW
          clear hbZ hba hbA hbb hbB hbc hbC hbd hbD hXD hOD hBD k1 k2 hm hms hs hW HO HBS HX u1 v1 x3 x4 x5 z1 c1

          dsimp only [iv]
          refine wpOrd_doR (fun K hK => ?_)
          go_simp
          refine hK _ _ (fun h => Bool.noConfusion (Eq.trans (Eq.symm (by kernel_rfl : _ = false)) h)) (fun h => Bool.noConfusion (Eq.trans (Eq.symm (by kernel_rfl : _ = false)) h)) ?_
          clear hK K
          refine wpOrd_nil ?_
          clear t2 t4 t5 t6 t7
          go_wp2_with fail
          go_roundw
          case rel => exact ⟨_, _, _, ⟨e + 1, by omega, by go_num, r1, r2, HWD.out, HOS.out, HXS.out, HBD.out⟩, rfl, rfl, rfl⟩
          case measure => simp [intOf]; omega
        · obtain rfl : n = e := by omega
          obtain ⟨⟨u, u1, u2, u3⟩, ⟨v, v1, v2, v3⟩, x3, x4, x5⟩ := id hx
          obtain ⟨⟨y0, o1, -, -⟩, ⟨z0, o2, -, -⟩⟩ := ho.cell hdn
          have f1 := ho.free (d * 2)
          have f2 := ho.free (d * 2 + 1)
          have HO := Lib.hid ho
          have HBS := Lib.hid hbs
          have HPQ := Lib.hid hpq
          clear ho hbs hx hpq
          go_wp2_with fail
          go_roundw
          case rel => exact ⟨d + 1, updN F d (p, q), by omega, by go_num, HO.out.set hdn u2 u3 v2 v3, fun k hk => by
            by_cases hkd : k = d
            · subst hkd; rw [updN_at, HPQ.out]
            · rw [updN_ne _ _ hkd]; exact HF.out k (by omega), (HBS.out.setCell (p := ⟨B, d * 2, none⟩) (Nat.le_refl _) _).setCell (p := ⟨B, d * 2 + 1, none⟩) (Nat.le_refl _) _⟩
          case measure => simp [intOf]; omega
    · obtain rfl : d = n := by omega
      go_wp2_with fail
      go_ret
      exact ⟨B, rfl, by rw [hB]; exact ho.congr (fun k hk => hF k hk), by rw [hB]; exact hbl⟩
end Go.Proofs.Ytainodgbcpkipaa
