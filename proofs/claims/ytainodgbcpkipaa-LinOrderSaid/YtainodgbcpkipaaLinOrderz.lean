/-
  The law of rows of one number each, walked.
-/
import Derived.Test.YtainodgbcpkipaaLmb
import Derived.Test.YtainodgbcpkipaaLmp
import Derived.Test.YtainodgbcpkipaaLkn
import Derived.Test.YtainodgbcpkipaaLig
namespace Go.Proofs.Ytainodgbcpkipaa
open Go.RowKit
open Ieee (double)
attribute [local go_sem] alloc_drewN setCell_drewN call_bits call_frombits ord_lt ord_eq ord_gt ord_ne ord_le ord_ge eqB_self run_fadd run_fsub run_fmul run_fquo haStoreFlt takeOp pureOp readsUpon doOp

theorem withinQ (a n : Int) (w : World) (h1 : 1 ≤ n) (h2 : n ≤ 9223372036854775807) :
    Calls Try.prog 27 #[.int .i64 a, .int .i64 n] w fun e w' => e = .returned (.int .i64 (a % n)) ∧ w' = w := (lawWithin_mod a n w h1 h2).mono fun _ _ h => ⟨h.1, h.2.symm⟩
theorem rowU (zs : List Int) (i : Nat) : -100 ≤ nth zs i i % 201 - 100 ∧ nth zs i i % 201 - 100 ≤ 100 := by
  have h1 := Int.emod_nonneg (nth zs i i) (show (201 : Int) ≠ 0 by decide)
  have h2 := Int.emod_lt_of_pos (nth zs i i) (show (0 : Int) < 201 by decide)
  omega
set_option maxRecDepth 100000 in
set_option maxHeartbeats 8000000 in
theorem linOrder_any (v0 : Value) (zs0 : List Int) (v1 : Value) (zs1 : List Int) (a2 : Int) (w : World) (h0 : Ints w v0 zs0) (h1 : Ints w v1 zs1) (_ : -9223372036854775808 ≤ a2 ∧ a2 ≤ 9223372036854775807) :
    Calls Try.prog 6 #[v0, v1, .int .i64 a2] w fun e w' => e = .returned (.bool true) ∧ Below w.heap.size w w' := by
  have HI0 := Lib.hid h0
  have HI1 := Lib.hid h1
  obtain ⟨ao, acap, rfl, hal, har⟩ := h0.read
  have HA := Lib.hid har
  clear h0 h1 har
  obtain ⟨iS, hS, s1, s2, s3⟩ := info_parts infoS
  obtain ⟨iF, hF, f1, f2, f3⟩ := info_parts infoF
  obtain ⟨iI, hI, i1, i2, i3⟩ := info_parts infoI
  have HS := Lib.hid (show iS.zero = _ ∧ iS.size = _ ∧ iS.bytes = _ from ⟨s1, s2, s3⟩)
  have HS0 := Lib.hid hS
  have HF := Lib.hid (show iF.zero = _ ∧ iF.size = _ ∧ iF.bytes = _ from ⟨f1, f2, f3⟩)
  have HF0 := Lib.hid hF
  have HN := Lib.hid (show iI.zero = _ ∧ iI.size = _ ∧ iI.bytes = _ from ⟨i1, i2, i3⟩)
  have HN0 := Lib.hid hI
  clear hS s1 s2 s3 hF f1 f2 f3 hI i1 i2 i3
  go_enter Try.func6, Try.ntmps6
  generalize hB : w.heap.size = B at *
  go_wp2_with fail
  refine (known_tells _).mono ?_
  rintro e w1 ⟨rfl, hb1⟩
  rw [hB] at hb1
  go_wp2_with fail
  refine (lawWithin_mod a2 8 _ (by decide) (by decide)).mono ?_
  rintro e w' ⟨rfl, rfl⟩
  have b1 := Int.emod_nonneg a2 (show (8 : Int) ≠ 0 by decide)
  have b2 := Int.emod_lt_of_pos a2 (show (0 : Int) < 8 by decide)
  generalize a2 % 8 = m at *
  obtain ⟨k, hk⟩ : ∃ k : Nat, (k : Int) = 1 + m := ⟨(1 + m).toNat, by omega⟩
  obtain rfl : m = (k : Int) - 1 := by omega
  have hk1 : 1 ≤ k := by omega
  have hk8 : k ≤ 8 := by omega
  have e0 : (1 : Int) + ((k : Int) - 1) = k := by omega
  have hbs := hb1.size
  clear hk b1 b2
  go_wp2_with fail
  clear e0
  go_loopw [8, 9] (fun vt i wr => ∃ (j : Nat) (qs : List Value), j ≤ k ∧ i = .int .i64 j ∧ wr.ownsRow B 3 1 vt j qs ∧ IVals qs j (fun i => (i : Int)) ∧ Below B w wr) (fun _ i _ => k - (intOf i).toNat)
  case atStart => exact ⟨0, [], by omega, rfl, World.ownsRow_nil _ _ _ _, IVals.nil _ _, hb1⟩
  case round =>
    clear hb1 hbs
    obtain ⟨j, qs, hj, rfl, ho, hq, hbl⟩ := hrel
    by_cases hlt : j < k
    · obtain ⟨va, vcap, rfl⟩ := own_slice1 ho
      have HO := Lib.hid ho
      have HQ := Lib.hid hq
      have hsz := hbl.size
      clear ho hq
      go_wp2_with (first
        | (at_builtin; refine wpList_append_own_at _ rfl _ _ 22 rfl B 3 iI (.int .i64 0) 1 8 Try.underlying22 HN0.out HN.out.1 HN.out.2.1 HN.out.2.2 rfl (by decide) (.slice va j vcap) j qs rfl (HO.out.alloc _) ⟨wr.heap.size, 0, none⟩ 1 1 [.int .i64 j] rfl rfl (news1 wr (.int .i64 j) 3 0) (by simp [Value.oneCell']) (by unfold maxLen; omega) (by omega) (by simp; omega) ?_)
        | go_in)
      intro v' w2 hown' hgrow _ _
      have hb2 : Below B wr w2 := ((Below.refl B wr).alloc (by omega) _).trans (below_grown (HO.out.alloc _) (Nat.le_refl _) (by simp; omega) hgrow)
      have hql := HO.out.1
      have HQ' := Lib.hid (HQ.out.app (by omega) (y := (j : Int)) rfl)
      have HO' := Lib.hid hown'
      clear hown' hgrow
      go_wp2_with fail
      go_roundw
      case rel => exact ⟨j + 1, _, by omega, by go_num, HO'.out, HQ'.out, hbl.trans hb2⟩
      case measure => simp [intOf]; omega
    · obtain rfl : j = k := by omega
      obtain ⟨T, tc, rfl, hT⟩ := hq.own ho (by omega)
      clear ho hq hlt hj
      go_upto_block 2 with fail
      go_cut [] (fun wx => ∃ t : Nat → Nat, OwnI wx B T j tc (fun i => (t i : Int)) ∧ (∀ i, i < j → t i < j) ∧ (∀ i i', i < j → i' < j → t i = t i' → i = i') ∧ Below B w wx)
      case first =>
        go_wp2_with fail
        go_loopw [10] (fun i wr => ∃ (r : Nat) (t : Nat → Nat), r ≤ zs0.length ∧ r ≤ 20 ∧ i = .int .i64 r ∧ OwnI wr B T j tc (fun i => (t i : Int)) ∧ (∀ i, i < j → t i < j) ∧ (∀ i i', i < j → i' < j → t i = t i' → i = i') ∧ Below B w wr) (fun i _ => zs0.length - (intOf i).toNat)
        case atStart => exact ⟨0, fun i => i, by omega, by omega, rfl, hT, fun i hi => hi, fun i i' _ _ e => e, hbl⟩
        case round =>
          clear hT hbl
          obtain ⟨r, t, hr, hr20, rfl, hT, ht, hti, hbl⟩ := hrel
          have HT := Lib.hid (show (∀ i, i < j → t i < j) ∧ ∀ i i', i < j → i' < j → t i = t i' → i = i' from ⟨ht, hti⟩)
          clear ht hti
          by_cases hlt : r < zs0.length ∧ r < 20
          · obtain ⟨hl1, hl2⟩ := hlt
            obtain ⟨b, off, rfl, hbs, hc⟩ := HA.out (by omega)
            have d1 := hc r hl1
            rw [← show wr.cell? ⟨b, off + r, none⟩ = w.cell? ⟨b, off + r, none⟩ from hbl.cell (p := ⟨b, off + r, none⟩) hbs] at d1
            generalize zs0.getD r 0 = u at *
            have HTO := Lib.hid hT
            have HBL := Lib.hid hbl
            have hjn : (1 : Int) ≤ (j : Int) := by omega
            have hjm : (j : Int) ≤ 9223372036854775807 := by omega
            have q1 := Int.emod_nonneg u (show (j : Int) ≠ 0 by omega)
            have q2 := Int.emod_lt_of_pos u (show (0 : Int) < (j : Int) by omega)
            have hd1 : decide ((r : Int) < 20) = true := by simp; omega
            have hd2 : decide (r < 20) = true := by simpa using hl2
            clear hc hT hbl
            go_wp2_with fail
            go_quiet ((go_at_call 27; exact Calls.quiet_of_same (withinQ _ _ _ hjn hjm)))
            obtain ⟨y, hy⟩ : ∃ y : Nat, u % (j : Int) = y := ⟨(u % (j : Int)).toNat, by omega⟩
            obtain ⟨x, hx⟩ : ∃ x : Nat, (r : Int) % (j : Int) = x := ⟨r % j, rfl⟩
            have hyj : y < j := by rw [hy] at q2; omega
            have hxj : x < j := by have := Nat.mod_lt r (show 0 < j by omega); omega
            rw [hy, hx]
            have HT1 := Lib.hid (HTO.out.drewN nq)
            have HB1 := Lib.hid (below_drew HBL.out nq)
            generalize wr.drewN nq = X at *
            clear hy hx q1 q2 d1 HTO HBL
            go_wp2_with fail
            refine wp_region_ord [(0, 1), (1, 1), (2, 1), (3, 1), (4, 1), (5, 1), (6, 1), (7, 2), (8, 1), (9, 1), (10, 1), (11, 2), (12, 1), (13, 0), (14, 1), (15, 0)] (by kernel_rfl) (by kernel_rfl) (fun _ _ d _ _ h => by cases d <;> exact h) ?_
            intro Z hZ
            have ho8 : OwnI Z B T j tc (fun i => (t i : Int)) := by rw [hZ]; exact HT1.out.drew
            have hbl8 : Below B w Z := by rw [hZ]; exact HB1.out.drew
            clear hZ HT1 HB1
            have r1 := ho8.cell hxj
            have r2 := ho8.cell hyj
            have r3 := ho8.free x
            have r4 := ho8.free y
            have hTl := ho8.lt.1
            have HO8 := Lib.hid ho8
            have HBL8 := Lib.hid hbl8
            clear ho8 hbl8
            iterate 13
              first
                | refine wpOrd_pure (fun K hK => ?_)
                | refine wpOrd_take (fun K hK => ?_)
              go_simp
              refine hK _ ?_
              clear hK K
            refine wpOrd_do (fun K hK => ?_)
            go_simp
            refine hK _ _ (fun h => Bool.noConfusion (Eq.trans (Eq.symm (by kernel_rfl : _ = false)) h)) ?_
            clear hK K
            iterate 1
              first
                | refine wpOrd_pure (fun K hK => ?_)
                | refine wpOrd_take (fun K hK => ?_)
              go_simp
              refine hK _ ?_
              clear hK K
            obtain ⟨z, hz⟩ := cell_set1 (.int .i64 (t y : Int)) r1 r2
            refine wpOrd_do (fun K hK => ?_)
            go_simp
            refine hK _ _ (fun h => Bool.noConfusion (Eq.trans (Eq.symm (by kernel_rfl : _ = false)) h)) ?_
            clear hK K
            refine wpOrd_nil ?_
            have HO9 := Lib.hid (HO8.out.swap hxj hyj)
            have HB9 := Lib.hid (show Below B w _ from (HBL8.out.setCell (p := ⟨T, x, none⟩) hTl (.int .i64 (t y : Int))).setCell (p := ⟨T, y, none⟩) hTl (.int .i64 (t x : Int)))
            clear HO8 HBL8 r1 r2 r3 r4 hz
            go_wp2_with fail
            go_roundw
            case rel => exact ⟨r + 1, swp t x y, by omega, by omega, by go_num, HO9.out.congr (fun i _ => by rw [swp_sg, swp_sg]), fun i hi => by rw [swp_sg]; exact HT.out.1 _ (sg_lt hxj hyj hi), fun i i' hi hi' e => by
              rw [swp_sg, swp_sg] at e
              exact sg_inj (HT.out.2 _ _ (sg_lt hxj hyj hi) (sg_lt hxj hyj hi') e), HB9.out⟩
            case measure => simp [intOf]; omega
          · have HTO := Lib.hid hT
            have HBL := Lib.hid hbl
            clear hT hbl
            go_wp2_with fail
            all_goals
              go_meet
              exact ⟨t, HTO.out, HT.out.1, HT.out.2, HBL.out⟩
      case rest =>
        clear hT hbl HA
        obtain ⟨t, hT, ht, hti, hbl⟩ := hcut
        have HT := Lib.hid (show (∀ i, i < j → t i < j) ∧ ∀ i i', i < j → i' < j → t i = t i' → i = i' from ⟨ht, hti⟩)
        have hTl := hT.lt
        have hsz := hbl.size
        have HTO := Lib.hid hT
        have HBL := Lib.hid hbl
        clear ht hti hT hbl
        go_wp2_with (refine wpList_make_full _ rfl _ _ _ rfl B 26 iS (.slice none 0 0) 1 Try.underlying24 HS0.out HS.out.1 HS.out.2.1 .i64 .i64 (j : Int) (j : Int) j rfl rfl rfl rfl (by rw [HS.out.2.2]; omega) (by unfold maxLen; omega) (by omega) ?_)
        intro w3 hr3 hg3
        have hb3 : Below wc.heap.size wc w3 := (Below.refl _ wc).grown hg3 (by omega) (fun k hk => by cases hk)
        generalize hG : wc.heap.size = G at *
        have hP0 : GridP w3 B G j 0 j (fun _ => 0) (fun _ => j) (oneF t) := ⟨⟨_, hr3, fun i hi => by omega⟩, fun i hi => by omega, fun i k hi => by omega, fun i hi => by omega⟩
        have hT3 := HTO.out.below hb3 (by omega)
        have hbl3 := HBL.out.trans (hb3.mono (by omega))
        clear hr3 hg3 hb3 HTO HBL
        go_wp2_with fail
        go_loopw [14] (fun i wr => ∃ (r : Nat) (blk : Nat → Nat), r ≤ j ∧ i = .int .i64 r ∧ GridP wr B G j r j blk (fun _ => j) (oneF t) ∧ OwnI wr B T j tc (fun i => (t i : Int)) ∧ (∀ i, i < r → blk i ≠ T) ∧ Below B w wr) (fun i _ => j - (intOf i).toNat)
        case atStart => exact ⟨0, _, by omega, rfl, hP0, hT3, fun i hi => by omega, hbl3⟩
        case round =>
          clear hP0 hT3 hbl3
          obtain ⟨r, blk, hr, rfl, hP, hTo, hbT, hbl⟩ := hrel
          by_cases hlt : r < j
          · have hGl := hP.lt
            have hTl2 := hTo.lt
            have hsz2 := hbl.size
            have HBK := Lib.hid (show (∀ i, i < r → blk i < wr.heap.size) ∧ ∀ i, i < r → blk i ≠ T from ⟨fun i hi => (hP.row i hi).lt.2, hbT⟩)
            have HP := Lib.hid hP
            have HTO := Lib.hid hTo
            have HBL := Lib.hid hbl
            clear hP hTo hbT hbl
            go_wp2_with (refine wpList_make_full _ rfl _ _ _ rfl B 45 iF (.float .f64 0) 1 Try.underlying26 HF0.out HF.out.1 HF.out.2.1 .i64 .i64 (j : Int) (j : Int) j rfl rfl rfl rfl (by rw [HF.out.2.2]; omega) (by unfold maxLen; omega) (by omega) ?_)
            intro w4 hr4 hg4
            have hb4 : Below wr.heap.size wr w4 := (Below.refl _ wr).grown hg4 (by omega) (fun k hk => by cases hk)
            generalize hR : wr.heap.size = R at *
            have hP4 := HP.out.below hb4 hGl.2 HBK.out.1
            have ho4 := ownF_made hr4
            have hRl := ho4.lt
            have hT4 := HTO.out.below hb4 hTl2.2
            have hbl4 := HBL.out.trans (hb4.mono (by omega))
            obtain ⟨⟨u0, hu0⟩, hu1⟩ := hP4.head hlt
            have hP5 := hP4.next hlt ho4 (by omega) (fun i hi => by have := HBK.out.1 i hi; omega)
            have hT5 := hT4.other (o := r) (show G ≠ T by omega) (.slice (some ⟨R, 0, none⟩) j j)
            have ho5 := ho4.other (o := r) (show G ≠ R by omega) (.slice (some ⟨R, 0, none⟩) j j)
            have hbl5 : Below B w (w4.setCell ⟨G, r, none⟩ (.slice (some ⟨R, 0, none⟩) j j)) := hbl4.setCell (by show B ≤ G; omega) _
            have HP5 := Lib.hid hP5
            have HT5 := Lib.hid hT5
            have HO5 := Lib.hid ho5
            have HB5 := Lib.hid hbl5
            clear hr4 hg4 hb4 hP4 ho4 hT4 hbl4 hP5 hT5 ho5 hbl5 HP HTO HBL hR
            go_wp2_with fail
            generalize w4.setCell ⟨G, r, none⟩ (.slice (some ⟨R, 0, none⟩) j j) = X at *
            clear hu0 hu1
            refine wp_region_ord [(0, 1), (1, 1), (2, 1), (3, 2), (4, 1), (5, 1), (6, 1), (7, 2), (8, 1), (9, 0)] (by kernel_rfl) (by kernel_rfl) (fun _ _ d _ _ h => by cases d <;> exact h) ?_
            intro Z hZ
            have hP6 : GridP Z B G j (r + 1) j (updN blk r R) (updN (fun _ => j) r j) (updN (oneF t) r fun _ => 0) := by rw [hZ]; exact HP5.out.below (Below.refl X.heap.size X).drew HP5.out.lt.2 (fun i hi => (HP5.out.row i hi).lt.2)
            have hT6 : OwnI Z B T j tc (fun i => (t i : Int)) := by rw [hZ]; exact HT5.out.drew
            have ho6 : OwnF Z B R j j (fun _ => 0) := by rw [hZ]; exact HO5.out.drew
            have hbl6 : Below B w Z := by rw [hZ]; exact HB5.out.drew
            clear hZ HP5 HT5 HO5 HB5
            have r1 : Z.cell? ⟨G, r, none⟩ = some (.slice (some ⟨R, 0, none⟩) j j) := by
              obtain ⟨rs, g1, g2⟩ := hP6.own
              have := (g1.cellAt r (by omega)).trans (g2 r (by omega))
              rw [updN_at, updN_at] at this
              exact this
            have htr := HT.out.1 r hlt
            have r2 := hT6.cell hlt
            obtain ⟨z, z1, -, -⟩ := ho6.cell htr
            have r3 := ho6.free (t r)
            have hP7 := (hP6.fill (k := r) (w' := Z.setCell ⟨R, t r, none⟩ (.float .f64 four64)) (g := updN (fun _ => 0) (t r) four64) (by omega) (Below.heap_setCell _ _ _ _ (by show G ≠ R; omega)) (fun i hi hne => Below.heap_setCell _ _ _ _ (by rw [updN_ne _ _ hne]; have := HBK.out.1 i (by omega); show blk i ≠ R; omega)) (by rw [updN_at, updN_at]; exact ho6.set htr (by decide) (by decide))).congr (g := oneF t) (fun i c hi hc => by
              by_cases e : i = r
              · subst e; rw [updN_at]; rfl
              · rw [updN_ne _ _ e, updN_ne _ _ e])
            have hT7 := hT6.other (o := t r) (show R ≠ T by omega) (.float .f64 four64)
            have hbl7 : Below B w (Z.setCell ⟨R, t r, none⟩ (.float .f64 four64)) := hbl6.setCell hRl.1 _
            rw [updN_const] at hP7
            have HP7 := Lib.hid hP7
            have HT7 := Lib.hid hT7
            have HB7 := Lib.hid hbl7
            clear hP6 hT6 ho6 hbl6 hP7 hT7 hbl7
            iterate 9
              first
                | refine wpOrd_pure (fun K hK => ?_)
                | refine wpOrd_take (fun K hK => ?_)
              go_simp
              refine hK _ ?_
              clear hK K
            refine wpOrd_do (fun K hK => ?_)
            go_simp
            refine hK _ _ (fun h => Bool.noConfusion (Eq.trans (Eq.symm (by kernel_rfl : _ = false)) h)) ?_
            clear hK K
            refine wpOrd_nil ?_
            go_wp2_with fail
            go_roundw
            case rel => exact ⟨r + 1, updN blk r R, by omega, by go_num, HP7.out, HT7.out, fun i hi => by
              by_cases e : i = r
              · subst e; rw [updN_at]; omega
              · rw [updN_ne _ _ e]; exact HBK.out.2 i (by omega), HB7.out⟩
            case measure => simp [intOf]; omega
          · obtain rfl : r = j := by omega
            have hGr := hP.grid
            have HG := Lib.hid hGr
            have HTO := Lib.hid hTo
            have HBL := Lib.hid hbl
            have HBT := Lib.hid hbT
            have hsz2 := hbl.size
            have RT := Lib.hid (row_tells r v1 zs1 wr (ints_below HI1.out (by rw [hB]; exact hbl)) hk1 hk8)
            clear hP hTo hbT hbl hGr
            go_wp2_with fail
            refine RT.out.mono ?_
            rintro e w5 ⟨R2, c2, rfl, ho5, hb5⟩
            have HG5 := Lib.hid (HG.out.below hb5)
            have HT5 := Lib.hid (HTO.out.below hb5 HTO.out.lt.2)
            have HB5 := Lib.hid (HBL.out.trans (hb5.mono (by omega)))
            have hsz5 := hb5.size
            have HO5 := Lib.hid ho5
            obtain ⟨g, q, g1, g2, g3, g4⟩ := partF_one (f := oneF t) (t := t) (n := r) (fun _ _ _ _ => rfl) HT.out.1 HT.out.2
            have PT := Lib.hid (part_tells r _ (oneF t) w5 (HG5.out.tab (c := r) (by omega) (by omega)) hk1 hk8)
            have HPF := Lib.hid g1
            have HGQ := Lib.hid (show (∀ i j, i < r → j < r → g i j = oneF (fun i => i) i j) ∧ (∀ i, i < r → q i < r) ∧ ∀ i, i < r → t (q i) = i from ⟨g2, g3, g4⟩)
            clear RT HG HTO HBL ho5 hb5 g1 g2 g3 g4
            go_wp2_with fail
            refine PT.out.mono ?_
            rintro e w6 hPR
            unfold PartR at hPR
            rw [HPF.out] at hPR
            obtain ⟨hb6, G2, R3, blk2, cap2, rfl, hg6, hp6, -, -⟩ := hPR
            have HT6 := Lib.hid (HT5.out.below hb6 HT5.out.lt.2)
            have HB6 := Lib.hid (HB5.out.trans (hb6.mono (by omega)))
            have HO6 := Lib.hid (HO5.out.below hb6 HO5.out.lt.2)
            have HG6 := Lib.hid hg6
            have HP6 := Lib.hid hp6
            have hsz6 := hb6.size
            clear PT HG5 HT5 HB5 HO5 hg6 hp6 hb6
            go_wp2_with fail
            have hal6 : Below w6.heap.size w6 (w6.alloc (.cells #[.slice (some ⟨G2, 0, none⟩) r r, .slice (some ⟨R3, 0, none⟩) r r] 29)) := (Below.refl _ _).alloc (Nat.le_refl _) _
            have HT7 := Lib.hid (HT6.out.below hal6 HT6.out.lt.2)
            have HB7 := Lib.hid (HB6.out.trans (hal6.mono (by omega)))
            have HO7 := Lib.hid (HO6.out.below hal6 HO6.out.lt.2)
            have SV := Lib.hid (solve_tells r (.slice (some ⟨G2, 0, none⟩) r r) (.slice (some ⟨R3, 0, none⟩) r r) (.slice (some ⟨R2, 0, none⟩) r c2) g q (rowV zs1) _ ((HG6.out.below hal6).tab (c := r) (by omega) (by omega)) ((HP6.out.below hal6 HP6.out.lt.2).ints (by omega)) (HO7.out.flts (by omega)) HGQ.out.2.1 hk1 hk8)
            have hsz7 : B ≤ (w6.alloc (.cells #[.slice (some ⟨G2, 0, none⟩) r r, .slice (some ⟨R3, 0, none⟩) r r] 29)).heap.size := by simp; omega
            clear HT6 HB6 HO6 HG6 HP6 hal6
            generalize w6.alloc (.cells #[.slice (some ⟨G2, 0, none⟩) r r, .slice (some ⟨R3, 0, none⟩) r r] 29) = w7 at *
            refine SV.out.mono ?_
            rintro e w8 ⟨R5, rfl, ho8, hb8⟩
            have hsv := solve_one (g := g) (b := fun i => rowV zs1 (q i)) (u := fun i => nth zs1 (q i) (q i) % 201 - 100) (n := r) HGQ.out.1 (fun i hi => ⟨rfl, (rowU zs1 (q i)).1, (rowU zs1 (q i)).2⟩)
            have HO8 := Lib.hid (ho8.congr (g := fun i => d8 (nth zs1 (q i) (q i) % 201 - 100)) hsv)
            have HT8 := Lib.hid (HT7.out.below hb8 HT7.out.lt.2)
            have HB8 := Lib.hid (HB7.out.trans (hb8.mono hsz7))
            have HR8 := Lib.hid (HO7.out.below hb8 HO7.out.lt.2)
            clear SV HT7 HB7 HO7 ho8 hb8 hsv
            go_wp2_with fail
            go_loopw [19] (fun i wr => ∃ d : Nat, d ≤ r ∧ i = .int .i64 d ∧ Below w8.heap.size w8 wr) (fun i _ => r - (intOf i).toNat)
            case atStart => exact ⟨0, by omega, rfl, Below.refl _ _⟩
            case round =>
              obtain ⟨d, hd, rfl, hb9⟩ := hrel
              by_cases hdr : d < r
              · go_wp2_with fail
                refine wp_region_ord [(0, 1), (1, 1), (2, 1), (3, 1), (4, 2), (5, 1), (6, 2), (7, 1), (8, 1), (9, 1), (10, 2), (11, 0), (12, 1)] (by kernel_rfl) (by kernel_rfl) (fun _ _ d _ _ h => by cases d <;> exact h) ?_
                intro Z hZ
                have hbZ : Below w8.heap.size w8 Z := by rw [hZ]; exact hb9.drew
                clear hZ hb9
                have r1 := (HT8.out.below hbZ HT8.out.lt.2).cell hdr
                have htd := HT.out.1 d hdr
                obtain ⟨x, x1, x2, x3⟩ := (HO8.out.below hbZ HO8.out.lt.2).cell htd
                obtain ⟨y, y1, y2, y3⟩ := (HR8.out.below hbZ HR8.out.lt.2).cell hdr
                have hqd : q (t d) = d := HT.out.2 _ _ (HGQ.out.2.1 _ htd) hdr (HGQ.out.2.2 _ htd)
                rw [hqd] at x2
                obtain ⟨U1, U2⟩ := rowU zs1 d
                have y2' : canon y = c8 (nth zs1 d d % 201 - 100) := y2
                generalize nth zs1 d d % 201 - 100 = U at *
                have fU := c8_fact U1 U2
                have hx : x = d8 U := canon_eq_num x2 fU.2.2.2.2
                have hy : ∀ W, fval .quo W y 4616189618054758400 = d8 U := fun W => canon_eq_num (by rw [canon_fval, ← cop_canon_left, y2']; rfl) fU.2.2.2.2
                have hnd : isN (d8 U) = false := fU.2.2.2.2
                have heq : eqB (d8 U) (d8 U) = true := by rw [eqB_self, hnd]; rfl
                subst hx
                have HBZ := Lib.hid hbZ
                clear hqd y2 y2' x2 x3 U1 U2 fU hbZ hnd
                iterate 11
                  first
                    | refine wpOrd_pure (fun K hK => ?_)
                    | refine wpOrd_take (fun K hK => ?_)
                  go_simp
                  refine hK _ ?_
                  clear hK K
                refine wpOrd_do (fun K hK => ?_)
                go_simp
                refine hK _ _ (fun _ => ⟨_, rfl⟩) ?_
                clear hK K
                iterate 1
                  first
                    | refine wpOrd_pure (fun K hK => ?_)
                    | refine wpOrd_take (fun K hK => ?_)
                  go_simp
                  refine hK _ ?_
                  clear hK K
                refine wpOrd_nil ?_
                go_wp2_with fail
                go_roundw
                case rel => exact ⟨d + 1, by omega, by go_num, below_drew HBZ.out _⟩
                case measure => simp [intOf]; omega
              · go_wp2_with fail
                go_ret
                exact ⟨rfl, HB8.out.trans (hb9.mono (by have := HB8.out.size; omega))⟩
end Go.Proofs.Ytainodgbcpkipaa
