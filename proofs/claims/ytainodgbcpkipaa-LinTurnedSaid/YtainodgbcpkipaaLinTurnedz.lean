/-
  The law of rows that cannot be parted, walked.
-/
import Derived.Test.YtainodgbcpkipaaLmb
import Derived.Test.YtainodgbcpkipaaLmt
import Derived.Test.YtainodgbcpkipaaLkn
import Derived.Test.YtainodgbcpkipaaLif
namespace Go.Proofs.Ytainodgbcpkipaa
open Go.RowKit
open Ieee (double)
attribute [local go_sem] alloc_drewN setCell_drewN call_bits call_frombits ord_lt ord_eq ord_gt ord_ne ord_le ord_ge eqB_self run_fadd run_fsub run_fmul run_fquo haStoreFlt takeOp pureOp readsUpon doOp

def tgtV (a4 : Bool) (zs : List Int) (k j d : Nat) : Nat := if a4 = true then 0 else makeV zs k j d
theorem nth33 (zs : List Int) (d : Int) (i : Nat) : -16 ≤ nth zs d i % 33 - 16 ∧ nth zs d i % 33 - 16 ≤ 16 := by
  have h1 := Int.emod_nonneg (nth zs d i) (show (33 : Int) ≠ 0 by decide)
  have h2 := Int.emod_lt_of_pos (nth zs d i) (show (0 : Int) < 33 by decide)
  omega
set_option maxRecDepth 100000 in
set_option maxHeartbeats 4000000 in
theorem linTurned_any (a0 : Int) (v1 : Value) (zs1 : List Int) (a2 a3 : Int) (a4 : Bool) (w : World) (_ : -9223372036854775808 ≤ a0 ∧ a0 ≤ 9223372036854775807) (h1 : Ints w v1 zs1) (_ : -9223372036854775808 ≤ a2 ∧ a2 ≤ 9223372036854775807) (_ : -9223372036854775808 ≤ a3 ∧ a3 ≤ 9223372036854775807) :
    Calls Try.prog 5 #[.int .i64 a0, v1, .int .i64 a2, .int .i64 a3, .bool a4] w fun e w' => e = .returned (.bool true) ∧ Below w.heap.size w w' := by
  have HI := Lib.hid h1
  clear h1
  go_enter Try.func5, Try.ntmps5
  go_wp2_with fail
  refine (known_tells _).mono ?_
  rintro e w1 ⟨rfl, hb1⟩
  have HI1 := Lib.hid (show Ints w1 v1 zs1 from ints_below HI.out hb1)
  clear HI
  go_wp2_with fail
  refine (lawWithin_mod a0 4 _ (by decide) (by decide)).mono ?_
  rintro e w' ⟨rfl, rfl⟩
  have b1 := Int.emod_nonneg a0 (show (4 : Int) ≠ 0 by decide)
  have b2 := Int.emod_lt_of_pos a0 (show (0 : Int) < 4 by decide)
  generalize a0 % 4 = m at *
  obtain ⟨k, hk⟩ : ∃ k : Nat, (k : Int) = 1 + (1 + m) % 5 := ⟨(2 + m).toNat, by omega⟩
  have hk2 : 2 ≤ k := by omega
  have hk5 : k ≤ 5 := by omega
  have MK := Lib.hid (make_tells (1 + m) k hk v1 zs1 w1 HI1.out)
  clear hk
  go_wp2_with fail
  refine MK.out.mono ?_
  rintro e w2 ⟨G, c, blk, cap, rfl, hg, hb2⟩
  have hb : Below w.heap.size w w2 := hb1.trans (hb2.mono hb1.size)
  have HG := Lib.hid hg
  have HB := Lib.hid hb
  have hGl := hg.lo
  have hs1 := hb1.size
  clear hg hb hb1 hb2 MK
  go_wp2_with fail
  refine (lawWithin_mod a2 k _ (by omega) (by omega)).mono ?_
  rintro e w' ⟨rfl, rfl⟩
  have c1 := Int.emod_nonneg a2 (show (k : Int) ≠ 0 by omega)
  have c2 := Int.emod_lt_of_pos a2 (show (0 : Int) < k by omega)
  go_wp2_with fail
  refine (lawWithin_mod a3 k _ (by omega) (by omega)).mono ?_
  rintro e w' ⟨rfl, rfl⟩
  have c3 := Int.emod_nonneg a3 (show (k : Int) ≠ 0 by omega)
  have c4 := Int.emod_lt_of_pos a3 (show (0 : Int) < k by omega)
  obtain ⟨i, hi⟩ : ∃ i : Nat, a2 % k = i := ⟨(a2 % k).toNat, by omega⟩
  obtain ⟨j0, hj0⟩ : ∃ j : Nat, a3 % k = j := ⟨(a3 % k).toNat, by omega⟩
  rw [hi] at c1 c2
  rw [hj0] at c3 c4
  rw [hi, hj0]
  clear hi hj0
  have hik : i < k := by omega
  have hjk : j0 < k := by omega
  clear c1 c2 c3 c4
  go_upto_if 37 with (fail)
  go_cut [14] (fun vj wx => ∃ j : Nat, vj = .int .i64 j ∧ j < k ∧ j ≠ i ∧ wx = w2)
  case first =>
    by_cases e : i = j0
    · subst e
      have hb : ((i : Int) == (i : Int)) = true := by simp
      go_wp2_with fail
      go_meet
      refine ⟨(i + 1) % k, by first | rfl | go_num | (congr 1; omega), Nat.mod_lt _ (by omega), ?_, rfl⟩
      by_cases e : i + 1 < k
      · rw [Nat.mod_eq_of_lt e]; omega
      · rw [show i + 1 = k by omega, Nat.mod_self]; omega
    · have hb : ((i : Int) == (j0 : Int)) = false := by simp; omega
      go_wp2_with fail
      go_meet
      exact ⟨j0, rfl, hjk, fun q => e q.symm, rfl⟩
  case rest =>
    clear hjk
    obtain ⟨j, rfl, hj, hji, rfl⟩ := hcut
    go_wp2_with fail
    go_loopw [15] (fun cc wr => ∃ (t : Nat) (g : Nat → Nat → Nat), t ≤ k ∧ cc = .int .i64 t ∧ Grid wr w1.heap.size G k k blk cap g ∧ (∀ r d, r < k → d < k → g r d = if r = i ∧ d < t then tgtV a4 zs1 k j d else makeV zs1 k r d) ∧ Below w.heap.size w wr) (fun cc _ => k - (intOf cc).toNat)
    case atStart => exact ⟨0, _, by omega, rfl, HG.out, fun r d _ _ => by rw [if_neg (by omega)], HB.out⟩
    case round =>
      clear HG HB
      obtain ⟨t, g, ht, rfl, hg, hgv, hb⟩ := hrel
      by_cases hlt : t < k
      · have HGV := Lib.hid hgv
        have HB := Lib.hid hb
        clear hgv hb
        have hw0 : w.heap.size ≤ blk i := by have := (hg.row i hik).lt.1; omega
        obtain ⟨x, x1, -, -⟩ := hg.cell hik hlt
        have r1 := hg.ref i hik
        have r2 := (hg.row i hik).free
        have hg1 := hg.set hik hlt (y := 0) (c := 0) rfl (by decide)
        cases a4 with
        | true =>
          have HG := Lib.hid hg1
          clear hg hg1
          go_wp2_with fail
          go_roundw
          case rel => exact ⟨t + 1, _, by omega, by go_num, HG.out, fun r d hr hd => by
            by_cases e : r = i ∧ d = t
            · rw [e.1, e.2, updN2_at, if_pos (show i = i ∧ t < t + 1 from ⟨rfl, by omega⟩)]; rfl
            · rw [updN2_ne _ _ (by omega), HGV.out r d hr hd]
              by_cases e2 : r = i ∧ d < t
              · rw [if_pos e2, if_pos (show r = i ∧ d < t + 1 from ⟨e2.1, by omega⟩)]
              · rw [if_neg e2, if_neg (show ¬ (r = i ∧ d < t + 1) by omega)], HB.out.setCell hw0 _⟩
          case measure => simp [intOf]; omega
        | false =>
          have HG := Lib.hid hg1
          clear hg hg1
          go_wp2_with fail
          generalize hYe : wr.setCell ⟨blk i, t, none⟩ (.float .f64 0) = Y at *
          have HBY : Below w.heap.size w Y := by rw [← hYe]; exact HB.out.setCell hw0 _
          clear r1 r2 x1 x hYe
          refine wp_region_ord [(0, 1), (1, 1), (2, 1), (3, 2), (4, 1), (5, 1), (6, 1), (7, 1), (8, 2), (9, 1), (10, 1), (11, 2), (12, 1), (13, 0)] (by kernel_rfl) (by kernel_rfl) (fun _ _ d _ _ h => by cases d <;> exact h) ?_
          intro Z hZ
          have hg2 : Grid Z w1.heap.size G k k blk cap (updN2 g i t 0) := by rw [hZ]; exact HG.out.drew
          have hb2 : Below w.heap.size w Z := by rw [hZ]; exact HBY.drew
          clear hZ HG HBY
          have r1 := hg2.ref i hik
          have r2 := hg2.ref j hj
          have r3 := (hg2.row i hik).free
          obtain ⟨x, x1, x2, x3⟩ := hg2.cell hj hlt
          obtain ⟨z, z1, -, -⟩ := hg2.cell hik hlt
          rw [updN2_ne _ _ (.inl hji), HGV.out j t hj hlt, if_neg (by omega)] at x2
          have HG3 := Lib.hid (hg2.set hik hlt x2 x3)
          have HB3 := Lib.hid (hb2.setCell hw0 (.float .f64 x) : Below w.heap.size w (Z.setCell ⟨blk i, t, none⟩ (.float .f64 x)))
          clear hg2 hb2 x2
          iterate 13
            first
              | refine wpOrd_pure (fun K hK => ?_)
              | refine wpOrd_take (fun K hK => ?_)
            go_simp
            refine hK _ ?_
            clear hK K
          refine wpOrd_do (fun K hK => ?_)
          go_simp
          refine hK _ _ (fun h => Bool.noConfusion (Eq.trans (Eq.symm (by kernel_rfl : _ = false)) h)) ?_
          clear hK K
          refine wpOrd_nil ?_
          go_wp2_with fail
          go_roundw
          case rel => exact ⟨t + 1, _, by omega, by go_num, HG3.out, fun r d hr hd => by
            by_cases e : r = i ∧ d = t
            · rw [e.1, e.2, updN2_at, if_pos (show i = i ∧ t < t + 1 from ⟨rfl, by omega⟩)]; rfl
            · rw [updN2_ne _ _ (by omega), updN2_ne _ _ (by omega), HGV.out r d hr hd]
              by_cases e2 : r = i ∧ d < t
              · rw [if_pos e2, if_pos (show r = i ∧ d < t + 1 from ⟨e2.1, by omega⟩)]
              · rw [if_neg e2, if_neg (show ¬ (r = i ∧ d < t + 1) by omega)], HB3.out⟩
          case measure => simp [intOf]; omega
      · obtain rfl : t = k := by omega
        have HB := Lib.hid hb
        have hgv2 : ∀ r d, r < t → d < t → g r d = if r = i then tgtV a4 zs1 t j d else makeV zs1 t r d := fun r d hr hd => by
          rw [hgv r d hr hd]
          by_cases e : r = i
          · rw [if_pos e, if_pos (show r = i ∧ d < t from ⟨e, hd⟩)]
          · rw [if_neg e, if_neg (show ¬ (r = i ∧ d < t) by omega)]
        have HGV := Lib.hid hgv2
        clear hgv hgv2 hb
        have finish : partF g t t = none → Calls Try.prog 16 #[.slice (some ⟨G, 0, none⟩) t c] wr fun e w' => e = .returned (.tuple #[.agg #[.slice none 0 0, .slice none 0 0], .bool false]) ∧ Below wr.heap.size wr w' := fun hp =>
          (part_tells t _ g wr (hg.tab (by omega) (by omega)) (by omega) (by omega)).mono fun e w' h => by
            unfold PartR at h
            rw [hp] at h
            exact ⟨h.2, h.1⟩
        have FIN := Lib.hid finish
        clear finish hg
        cases a4 with
        | true =>
          have hz : partF g t t = none := partF_zero (r := i) (by omega) (fun r d hr hd => by
            rw [HGV.out r d hr hd]
            by_cases e : r = i
            · rw [if_pos e]
              show Bd (PB 0) 0
              exact ⟨by decide, by decide⟩
            · rw [if_neg e]; exact c4_bd (nth33 _ _ _).1 (nth33 _ _ _).2) hik (fun d hd => by rw [HGV.out i d hik hd, if_pos rfl]; rfl)
          have PT := Lib.hid (FIN.out hz)
          clear hz FIN HGV
          go_wp2_with fail
          all_goals
            refine PT.out.mono ?_
            rintro e w3 ⟨rfl, hb3⟩
            have hb4 := HB.out.trans (hb3.mono HB.out.size)
            clear hb3
            go_wp2_with fail
            go_ret
            exact ⟨rfl, (hb4.alloc hb4.size _)⟩
        | false =>
          by_cases h2 : t = 2
          · subst h2
            have hall : ∀ r d, r < 2 → d < 2 → g r d = makeV zs1 2 j d := fun r d hr hd => by
              rw [HGV.out r d hr hd]
              by_cases e : r = i
              · rw [if_pos e]; rfl
              · rw [if_neg e, show r = j by omega]
            have hz : partF g 2 2 = none := partF_twice (nth zs1 (j * 7 + 0) (j * 2 + 0) % 33 - 16) (nth zs1 (j * 7 + 1) (j * 2 + 1) % 33 - 16) (nth33 _ _ _).1 (nth33 _ _ _).2 (nth33 _ _ _).1 (nth33 _ _ _).2 (hall 0 0 (by omega) (by omega)) (hall 0 1 (by omega) (by omega)) (hall 1 0 (by omega) (by omega)) (hall 1 1 (by omega) (by omega))
            have PT := Lib.hid (FIN.out hz)
            clear hz hall FIN HGV
            go_wp2_with fail
            refine PT.out.mono ?_
            rintro e w3 ⟨rfl, hb3⟩
            have hb4 := HB.out.trans (hb3.mono HB.out.size)
            clear hb3
            go_wp2_with fail
            go_ret
            exact ⟨rfl, (hb4.alloc hb4.size _)⟩
          · have h3 : 2 < t := by omega
            go_wp2_with fail
            go_ret
            exact ⟨rfl, HB.out⟩
end Go.Proofs.Ytainodgbcpkipaa
