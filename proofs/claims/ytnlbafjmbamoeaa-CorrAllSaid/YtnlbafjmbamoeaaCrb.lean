/-
  How great numbers are by weights, walked: the program's and the document's.
-/
import Derived.Test.YtnlbafjmbamoeaaCra
import Derived.Test.YtnlbafjmbamoeaaHv
import Derived.Test.YtnlbafjmbamoeaaReg
import Derived.Maps.AppendAt
namespace Go.Proofs.Ytnlbafjmbamoeaa
open Go.RowKit
open Ieee (double)
attribute [local go_sem] alloc_drewN setCell_drewN call_bits call_frombits ord_lt ord_eq ord_gt ord_ne ord_le ord_ge eqB_self run_fadd run_fsub run_fmul run_fquo haStoreFlt takeOp pureOp readsUpon doOp

theorem canon_ab {y c : Nat} (h : canon y = c) : canon (ab y) = canon (ab c) := by
  subst h
  rcases canon_or y with h | h
  · rw [h]
  · have e : ∀ z, isN z = true → canon z = nanB := fun z hz => by unfold canon; rw [if_pos hz]
    rw [e (ab y) (by rw [isN_ab]; exact h), e (ab (canon y)) (by rw [isN_ab, isN_canon]; exact h)]
theorem ab_lt (y : Nat) : ab y < 18446744073709551616 := Nat.lt_of_lt_of_le (Nat.mod_lt y (by decide)) (by decide)
theorem quo_ab {y z c d : Nat} (h1 : canon y = c) (h2 : canon z = d) (w : World) : canon (fval .quo w (ab y) z) = cop .quo (ab c) d := by
  rw [canon_fval, ← cop_canon_left, canon_ab h1, cop_canon_left, ← cop_canon_right, h2]
theorem absW (x : Nat) (w : World) (hx : x < 18446744073709551616) : Calls Try.prog 38 #[.float .f64 x] w fun e w' => e = .returned (.float .f64 (ab x)) ∧ w' = w :=
  (abs_any x w hx).mono fun _ _ ⟨h1, h2⟩ => ⟨h1, h2.symm⟩
theorem rabsW (x : Nat) (w : World) (hx : x < 18446744073709551616) : Calls Try.prog 17 #[.float .f64 x] w fun e w' => e = .returned (.float .f64 (ab x)) ∧ w' = w := by
  go_enter Try.func17, Try.ntmps17
  go_wp2_with fail
  refine (absW x _ hx).mono ?_
  rintro e w' ⟨rfl, rfl⟩
  go_wp2_with fail
  go_ret
  exact ⟨rfl, rfl⟩
/-- Each number by its weight. -/
def byW (f g : Nat → Nat) (i : Nat) : Nat := cop .quo (ab (f i)) (g i)
set_option maxRecDepth 100000 in
set_option maxHeartbeats 2000000 in
theorem size1_tells (va vb : Value) (n p q : Nat) (f g : Nat → Nat) (W : World) (ha : FRow W va n f) (hb : FRow W vb n g) (hp : W.cell? ⟨p, 0, none⟩ = some va) (hq : W.cell? ⟨q, 0, none⟩ = some vb) (i : Nat) (hi : i < n) :
    Calls Try.prog 37 #[.int .i64 i, .pointer (some ⟨p, 0, none⟩), .pointer (some ⟨q, 0, none⟩)] W fun e W' => (∃ y, e = .returned (.float .f64 y) ∧ canon y = byW f g i ∧ y < 18446744073709551616) ∧ Below W.heap.size W W' := by
  obtain ⟨a, ca, rfl, hn, har⟩ := ha
  obtain ⟨b, cb, rfl, -, hbr⟩ := hb
  obtain ⟨b1, o1, rfl, hs1, hc1⟩ := har (by omega)
  obtain ⟨b2, o2, rfl, hs2, hc2⟩ := hbr (by omega)
  obtain ⟨y, y1, y2, y3⟩ := hc1 i hi
  obtain ⟨z, z1, z2, z3⟩ := hc2 i hi
  have K := Lib.hid (quo_ab y2 z2)
  clear har hbr hc1 hc2 y2 z2
  go_enter Try.func37, Try.ntmps37
  go_wp2_with fail
  refine wp_region_ord [(0, 2), (1, 1), (2, 1), (3, 2), (5, 2), (6, 1), (7, 1), (8, 2), (4, 0), (9, 0), (10, 1)] (by kernel_rfl) (by kernel_rfl) (fun _ _ d _ _ h => by cases d <;> exact h) ?_
  intro Z hZ
  have hz : ∀ b o, Z.cell? ⟨b, o, none⟩ = W.cell? ⟨b, o, none⟩ := fun b o => by rw [hZ]; rfl
  have HZ := Lib.hid (show Below W.heap.size W Z by rw [hZ]; exact (Below.refl _ _).drew)
  rw [← hz] at hp hq y1 z1
  clear hZ hz
  iterate 8
    first
      | refine wpOrd_pure (fun K hK => ?_)
      | refine wpOrd_take (fun K hK => ?_)
    go_simp
    refine hK _ ?_
    clear hK K
  refine wpOrd_do (fun K hK => ?_)
  go_simp
  refine (absW y _ y3).mono ?_
  rintro e w' ⟨rfl, rfl⟩
  refine hK _ _ (fun _ => ⟨0, rfl⟩) ?_
  clear hK K
  refine wpOrd_do (fun K hK => ?_)
  go_simp
  refine hK _ _ (fun _ => ⟨_, rfl⟩) ?_
  clear hK K
  iterate 1
    first
      | refine wpOrd_pure (fun K hK => ?_)
      | refine wpOrd_take (fun K hK => ?_)
    go_simp
    refine hK _ ?_
    clear hK K
  refine wpOrd_nil ?_
  go_wp2_with fail
  go_ret
  exact ⟨⟨_, rfl, K.out _, fval_lt _ _ _ _⟩, below_drew HZ.out _⟩
theorem rinfW (w : World) : Calls Try.prog 53 #[] w fun e w' => e = .returned (.float .f64 9218868437227405312) ∧ w' = w := by
  go_enter Try.func53, Try.ntmps53
  go_wp2_with fail
  refine (inf_pos _).mono ?_
  rintro e w' ⟨rfl, rfl⟩
  go_wp2_with fail
  go_ret
  exact ⟨rfl, rfl⟩
theorem nanF_more {x : Nat → Nat} {d : Nat} (h : nanF x d = true) : ∀ {n : Nat}, d ≤ n → nanF x n = true
  | 0, hn => by obtain rfl : d = 0 := by omega
                exact h
  | n + 1, hn => by
    by_cases e : d = n + 1
    · subst e; exact h
    · rw [nanF, nanF_more h (show d ≤ n by omega), Bool.true_or]
set_option maxRecDepth 100000 in
set_option maxHeartbeats 2000000 in
theorem size_tells (va vb : Value) (n : Nat) (f g : Nat → Nat) (w : World) (ha : FRow w va n f) (hb : FRow w vb n g) :
    Calls Try.prog 13 #[va, vb] w fun e w' => (∃ y, e = .returned (.float .f64 y) ∧ canon y = worstF (byW f g) n ∧ y < 18446744073709551616) ∧ Below w.heap.size w w' := by
  have e1 : (w.alloc (.cells #[va] 31)).heap.size = w.heap.size + 1 := by simp
  have hb2 : Below w.heap.size w ((w.alloc (.cells #[va] 31)).alloc (.cells #[vb] 31)) := ((Below.refl _ _).alloc (Nat.le_refl _) _).alloc (by rw [e1]; omega) _
  have c1 : ((w.alloc (.cells #[va] 31)).alloc (.cells #[vb] 31)).cell? ⟨w.heap.size, 0, none⟩ = some va := by
    rw [World.cell?_alloc_lt _ _ _ (show w.heap.size < _ by rw [e1]; omega), World.cell?_alloc_new]; rfl
  have c2 : ((w.alloc (.cells #[va] 31)).alloc (.cells #[vb] 31)).cell? ⟨w.heap.size + 1, 0, none⟩ = some vb := by
    rw [← e1, World.cell?_alloc_new]; rfl
  have S1 := Lib.hid (fun i W (hi : i < n) (hW : Below (w.heap.size + 2) ((w.alloc (.cells #[va] 31)).alloc (.cells #[vb] 31)) W) => size1_tells va vb n w.heap.size (w.heap.size + 1) f g W (ha.below (hb2.trans (hW.mono (by omega)))) (hb.below (hb2.trans (hW.mono (by omega))))
    ((hW.cell (p := ⟨w.heap.size, 0, none⟩) (show w.heap.size < _ by omega)).trans c1) ((hW.cell (p := ⟨w.heap.size + 1, 0, none⟩) (show w.heap.size + 1 < _ by omega)).trans c2) i hi)
  obtain ⟨a, ca, rfl, hn, -⟩ := ha
  obtain ⟨b, cb, rfl, -, -⟩ := hb
  have hs : ((w.alloc (.cells #[.slice a n ca] 31)).alloc (.cells #[.slice b n cb] 31)).heap.size = w.heap.size + 2 := by simp
  have W2 := Lib.hid (worst_tells 37 (.pointer (some ⟨w.heap.size, 0, none⟩)) (.pointer (some ⟨w.heap.size + 1, 0, none⟩)) n hn (byW f g) ((w.alloc (.cells #[.slice a n ca] 31)).alloc (.cells #[.slice b n cb] 31)) (fun _ _ => rfl) (fun i W hi hW => S1.out i W hi (by rw [← hs]; exact hW)))
  have hne : ((n : Int) != n) = false := by simp
  have HB2 := Lib.hid hb2
  clear S1 e1 hb2 hs
  go_enter Try.func13, Try.ntmps13
  go_wp2_with fail
  refine W2.out.mono ?_
  rintro e w1 ⟨⟨y, rfl, y1, y2⟩, hb1⟩
  have hb1' := HB2.out.trans (hb1.mono HB2.out.size)
  go_wp2_with fail
  go_ret
  exact ⟨⟨y, rfl, y1, y2⟩, hb1'⟩
set_option maxRecDepth 100000 in
set_option maxHeartbeats 2000000 in
theorem rsize_tells (va vb : Value) (n : Nat) (f g : Nat → Nat) (w : World) (ha : FRow w va n f) (hb : FRow w vb n g) :
    Calls Try.prog 32 #[va, vb] w fun e w' => (∃ y, e = .returned (.float .f64 y) ∧ canon y = worstF (byW f g) n ∧ y < 18446744073709551616) ∧ Below w.heap.size w w' := by
  obtain ⟨a, ca, rfl, hn, har⟩ := ha
  obtain ⟨b, cb, rfl, -, hbr⟩ := hb
  have HAR := Lib.hid har
  have HBR := Lib.hid hbr
  clear har hbr
  go_enter Try.func32, Try.ntmps32
  go_wp2_with fail
  go_loopw [5, 6] (fun v i wr => ∃ (d z : Nat), d ≤ n ∧ i = .int .i64 d ∧ v = .float .f64 z ∧ canon z = grF (byW f g) d ∧ z < 18446744073709551616 ∧ nanF (byW f g) d = false ∧ Below w.heap.size w wr) (fun _ i _ => n - (intOf i).toNat)
  case atStart => exact ⟨0, 0, by omega, rfl, rfl, rfl, by decide, rfl, Below.refl _ _⟩
  case round =>
    obtain ⟨d, t, hd, rfl, rfl, t1, t2, t3, hbl⟩ := hrel
    by_cases hdn : d < n
    · obtain ⟨b1, o1, rfl, hs1, hc1⟩ := HAR.out (by omega)
      obtain ⟨b2, o2, rfl, hs2, hc2⟩ := HBR.out (by omega)
      obtain ⟨y, y1, y2, y3⟩ := hc1 d hdn
      obtain ⟨z, z1, z2, z3⟩ := hc2 d hdn
      rw [← (haCell hbl).1 _ _ hs1] at y1
      rw [← (haCell hbl).1 _ _ hs2] at z1
      have K := Lib.hid (quo_ab y2 z2)
      have HBL := Lib.hid hbl
      clear hc1 hc2 y2 z2 hbl
      go_wp2_with fail
      refine wp_region_ord [(0, 1), (1, 1), (2, 1), (3, 2), (5, 1), (6, 1), (7, 1), (8, 2), (4, 0), (9, 0), (10, 1)] (by kernel_rfl) (by kernel_rfl) (fun _ _ d _ _ h => by cases d <;> exact h) ?_
      intro Z hZ
      have hz : ∀ b o, Z.cell? ⟨b, o, none⟩ = wr.cell? ⟨b, o, none⟩ := fun b o => by rw [hZ]; rfl
      have HZ := Lib.hid (show Below w.heap.size w Z by rw [hZ]; exact HBL.out.drew)
      rw [← hz] at y1 z1
      clear hZ hz
      iterate 8
        first
          | refine wpOrd_pure (fun K hK => ?_)
          | refine wpOrd_take (fun K hK => ?_)
        go_simp
        refine hK _ ?_
        clear hK K
      refine wpOrd_do (fun K hK => ?_)
      go_simp
      refine (rabsW y _ y3).mono ?_
      rintro e w' ⟨rfl, rfl⟩
      refine hK _ _ (fun _ => ⟨0, rfl⟩) ?_
      clear hK K
      refine wpOrd_do (fun K hK => ?_)
      go_simp
      refine hK _ _ (fun _ => ⟨_, rfl⟩) ?_
      clear hK K
      iterate 1
        first
          | refine wpOrd_pure (fun K hK => ?_)
          | refine wpOrd_take (fun K hK => ?_)
        go_simp
        refine hK _ ?_
        clear hK K
      refine wpOrd_nil ?_
      have HX := Lib.hid (show canon (fval .quo w' (ab y) z) = byW f g d ∧ fval .quo w' (ab y) z < 18446744073709551616 from ⟨K.out w', fval_lt _ _ _ _⟩)
      have HZ2 := Lib.hid (below_drewN HZ.out (ndraw .quo (ab y) z))
      clear HZ K y1 z1
      generalize w'.drewN (ndraw .quo (ab y) z) = w2 at *
      generalize fval .quo w' (ab y) z = u at *
      have hne : (!eqB u u) = isN u := by rw [eqB_self, Bool.not_not]
      have hn1 : nanF (byW f g) (d + 1) = isN u := by rw [nanF, t3, Bool.false_or, isN_of_canon HX.out.1]
      cases hu : isN u with
      | true =>
        have hw : worstF (byW f g) n = 9218868437227405312 := by unfold worstF; rw [nanF_more (hn1.trans hu) (show d + 1 ≤ n by omega), if_pos rfl]
        go_wp2_with fail
        refine (rinfW _).mono ?_
        rintro e w' ⟨rfl, rfl⟩
        go_wp2_with fail
        go_ret
        exact ⟨⟨_, rfl, by rw [hw]; decide, by decide⟩, HZ2.out⟩
      | false =>
        rw [hu] at hn1
        by_cases hd0 : d = 0
        · subst hd0
          have hg : grF (byW f g) 1 = byW f g 0 := rfl
          have h00 : ((0 : Int) == 0) = true := rfl
          go_wp2_with fail
          go_roundw
          case rel => exact ⟨1, u, by omega, by go_num, rfl, HX.out.1, HX.out.2, hn1, HZ2.out⟩
          case measure => simp [intOf]; omega
        · have hg : grF (byW f g) (d + 1) = if ltB (grF (byW f g) d) (byW f g d) then byW f g d else grF (byW f g) d := by rw [grF, if_neg hd0]
          rw [← t1, ← HX.out.1, ltB_canon] at hg
          have h00 : ((d : Int) == 0) = false := by simp; omega
          cases hb : ltB t u with
          | true =>
            rw [hb, if_pos rfl] at hg
            go_wp2_with fail
            go_roundw
            case rel => exact ⟨d + 1, u, by omega, by go_num, rfl, hg.symm, HX.out.2, hn1, HZ2.out⟩
            case measure => simp [intOf]; omega
          | false =>
            rw [hb, if_neg (by decide)] at hg
            go_wp2_with fail
            go_roundw
            case rel => exact ⟨d + 1, t, by omega, by go_num, rfl, hg.symm, t2, hn1, HZ2.out⟩
            case measure => simp [intOf]; omega
    · obtain rfl : n = d := by omega
      have hw : worstF (byW f g) n = grF (byW f g) n := by unfold worstF; rw [t3, if_neg (by decide)]
      go_wp2_with fail
      go_ret
      exact ⟨⟨t, rfl, by rw [hw]; exact t1, t2⟩, hbl⟩
/-- How far off numbers may be. -/
def wtF (f : Nat → Nat) (a r i : Nat) : Nat := cop .add a (cop .mul r (ab (f i)))
theorem wt_val {y c : Nat} (h : canon y = c) (a r : Nat) (w v : World) : canon (fval .add w a (fval .mul v r (ab y))) = cop .add a (cop .mul r (ab c)) := by
  rw [canon_fval, ← cop_canon_right, canon_fval, ← cop_canon_right .mul r (ab y), canon_ab h, cop_canon_right]
theorem FVals.row {w : World} {base n : Nat} {v : Value} {qs : List Value} {f : Nat → Nat} (h : FVals qs n f) (ho : w.ownsRow base 32 1 v n qs) (hn : n ≤ 9223372036854775807) : FRow w v n f := by
  by_cases h0 : 0 < n
  · obtain ⟨R, cap, rfl, hO⟩ := h.own ho h0
    exact hO.flts hn
  · obtain ⟨a, cap, rfl⟩ := own_slice1 ho
    exact ⟨a, cap, rfl, hn, fun h => absurd h h0⟩
set_option maxRecDepth 100000 in
set_option maxHeartbeats 2000000 in
theorem rweights_tells (va : Value) (n : Nat) (hn2 : n ≤ 1000) (f : Nat → Nat) (a r : Nat) (w : World) (ha : FRow w va n f) :
    Calls Try.prog 9 #[va, .float .f64 a, .float .f64 r] w fun e w' => ∃ v, e = .returned v ∧ FRow w' v n (wtF f a r) ∧ Below w.heap.size w w' := by
  obtain ⟨pa, ca, rfl, hn, har⟩ := ha
  obtain ⟨iF, hF, f1, f2, f3⟩ := info_parts infoF
  have HF := Lib.hid (show iF.zero = _ ∧ iF.size = _ ∧ iF.bytes = _ from ⟨f1, f2, f3⟩)
  have HF0 := Lib.hid hF
  have HAR := Lib.hid har
  clear har hF f1 f2 f3
  go_enter Try.func9, Try.ntmps9
  generalize hB : w.heap.size = B at *
  go_wp2_with fail
  go_loopw [7, 8] (fun vr i wr => ∃ (d : Nat) (qs : List Value), d ≤ n ∧ i = .int .i64 d ∧ wr.ownsRow B 32 1 vr d qs ∧ FVals qs d (wtF f a r) ∧ Below B w wr) (fun _ i _ => n - (intOf i).toNat)
  case atStart => exact ⟨0, [], by omega, rfl, World.ownsRow_nil _ _ _ _, FVals.nil _ _, Below.refl _ _⟩
  case round =>
    obtain ⟨d, qs, hd, rfl, ho, hq, hbl⟩ := hrel
    obtain ⟨vb, vcap, rfl⟩ := own_slice1 ho
    by_cases hdn : d < n
    · obtain ⟨b1, o1, rfl, hs1, hc1⟩ := HAR.out (by omega)
      obtain ⟨y, y1, y2, y3⟩ := hc1 d hdn
      rw [← hbl.cell (p := ⟨b1, o1 + d, none⟩) hs1] at y1
      have HO := Lib.hid ho
      have HQ := Lib.hid hq
      have HBL := Lib.hid hbl
      have K := Lib.hid (wt_val y2 a r)
      have hsz : B ≤ wr.heap.size := by have := hbl.size; omega
      clear hc1 y2 ho hq hbl
      go_wp2_with fail
      refine (rabsW y _ y3).mono ?_
      rintro e w' ⟨rfl, rfl⟩
      go_wp2_with (first
        | (at_builtin; refine wpList_append_own_at _ rfl _ _ 31 rfl B 32 iF (.float .f64 0) 1 8 Try.underlying31 HF0.out HF.out.1 HF.out.2.1 HF.out.2.2 rfl (by decide) (.slice vb d vcap) d qs rfl (own_drewN (HO.out.alloc _) _) ⟨w'.heap.size, 0, none⟩ 1 1 [.float .f64 _] rfl rfl (news1 _ _ 32 _) (by simp [Value.oneCell']) (by unfold maxLen; omega) (by omega) (size_alloc _ _ _ (by omega)) ?_)
        | go_in)
      intro v' w2 hown' hgrow _ _
      have hb2 : Below B w' w2 := (below_drewN ((Below.refl B w').alloc hsz _) _).trans (below_grown (own_drewN (HO.out.alloc _) _) (Nat.le_refl _) (size_alloc _ _ _ hsz) hgrow)
      have hql := HO.out.1
      have HQ' := Lib.hid (HQ.out.app (by omega) (K.out (w'.drewN (ndraw .mul r (ab y))) w') (fval_lt _ _ _ _))
      have HO' := Lib.hid hown'
      have HB2 := Lib.hid (HBL.out.trans hb2)
      clear hown' hgrow hb2 y1
      go_wp2_with fail
      go_roundw
      case rel => exact ⟨d + 1, _, by omega, by go_num, HO'.out, HQ'.out, HB2.out⟩
      case measure => simp [intOf]; omega
    · obtain rfl : d = n := by omega
      have hR := hq.row ho (by omega)
      go_wp2_with fail
      go_ret
      exact ⟨_, rfl, hR, hbl⟩
end Go.Proofs.Ytnlbafjmbamoeaa
