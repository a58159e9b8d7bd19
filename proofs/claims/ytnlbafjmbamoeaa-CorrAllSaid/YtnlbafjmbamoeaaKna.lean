/-
  The laws of steps: the step that is known, by contracts: walked.
-/
import Derived.Test.YtnlbafjmbamoeaaCkn
import Derived.Test.YtnlbafjmbamoeaaCrb
namespace Go.Proofs.Ytnlbafjmbamoeaa
open Go.RowKit
open Ieee (double)
attribute [local go_sem] alloc_drewN setCell_drewN call_bits call_frombits ord_lt ord_eq ord_gt ord_ne ord_le ord_ge eqB_self run_fadd run_fsub run_fmul run_fquo haStoreFlt takeOp pureOp readsUpon doOp run_store_fn run_store_fc run_store_slice

def knT : TD := ⟨1, 1, fun _ => ⟨0, 0, 0, 0⟩, 1, fun _ => 0⟩
def knZ (r _i : Nat) : Nat := if r = 0 then 4607182418800017408 else 0
def knO (_i : Nat) : Nat := 4607182418800017408
theorem kn_check : checkB knT = true := by decide +kernel
theorem kn_sum : (corrF knT knZ knO 4607182418800017408 (lenF ((2 ^ 20 : Nat) : Int)) 1 false).has = true ∧ (corrF knT knZ knO 4607182418800017408 (lenF ((2 ^ 20 : Nat) : Int)) 1 false).e = 0 ∧ (corrF knT knZ knO 4607182418800017408 (lenF ((2 ^ 20 : Nat) : Int)) 1 false).tries = 1 ∧ (corrF knT knZ knO 4607182418800017408 (lenF ((2 ^ 20 : Nat) : Int)) 1 false).d 0 = 0 := by decide +kernel
theorem al8 (w : World) (o0 o1 o2 o3 o4 o5 o6 o7 : Obj) : let X := (((((((w.alloc o0).alloc o1).alloc o2).alloc o3).alloc o4).alloc o5).alloc o6).alloc o7
    X.heap[w.heap.size]? = some o0 ∧ X.heap[w.heap.size + 1]? = some o1 ∧ X.heap[w.heap.size + 3]? = some o3 ∧ X.heap[w.heap.size + 4]? = some o4 ∧ X.heap[w.heap.size + 5]? = some o5 ∧ X.heap[w.heap.size + 6]? = some o6 ∧ X.heap[w.heap.size + 7]? = some o7 ∧ Below w.heap.size w X ∧ X.heap.size = w.heap.size + 8 := by
  intro X
  obtain ⟨x1, x2, x4, x5⟩ := al2 w o0 o1
  obtain ⟨y1, y2, y4, y5⟩ := al2 ((w.alloc o0).alloc o1) o2 o3
  obtain ⟨z1, z2, z4, z5⟩ := al2 ((((w.alloc o0).alloc o1).alloc o2).alloc o3) o4 o5
  obtain ⟨u1, u2, u4, u5⟩ := al2 ((((((w.alloc o0).alloc o1).alloc o2).alloc o3).alloc o4).alloc o5) o6 o7
  have hX : X = (((((((w.alloc o0).alloc o1).alloc o2).alloc o3).alloc o4).alloc o5).alloc o6).alloc o7 := rfl
  rw [← hX] at u1 u2 u4 u5
  clear hX
  clear_value X
  generalize (((((w.alloc o0).alloc o1).alloc o2).alloc o3).alloc o4).alloc o5 = C at *
  generalize (((w.alloc o0).alloc o1).alloc o2).alloc o3 = B at *
  generalize (w.alloc o0).alloc o1 = A at *
  have b1 : Below B.heap.size B X := z5.trans (u5.mono (by omega))
  have b2 : Below A.heap.size A X := y5.trans (b1.mono (by omega))
  refine ⟨(b2.block _ (by omega)).trans x1, (b2.block _ (by omega)).trans x2, ?_, ?_, ?_, ?_, ?_, x5.trans (b2.mono (by omega)), by omega⟩
  · rw [show w.heap.size + 3 = A.heap.size + 1 by omega]; exact (b1.block _ (by omega)).trans y2
  · rw [show w.heap.size + 4 = B.heap.size by omega]; exact (u5.block _ (by omega)).trans z1
  · rw [show w.heap.size + 5 = B.heap.size + 1 by omega]; exact (u5.block _ (by omega)).trans z2
  · rw [show w.heap.size + 6 = C.heap.size by omega]; exact u1
  · rw [show w.heap.size + 7 = C.heap.size + 1 by omega]; exact u2
theorem frow_one {w : World} {b n : Nat} {x : Nat → Nat} (h : ∀ i, i < n → ∃ y, w.cell? ⟨b, i, none⟩ = some (.float .f64 y) ∧ canon y = x i ∧ y < 18446744073709551616) (hb : b < w.heap.size) (hn : n ≤ 10) : FRow w (.slice (some ⟨b, 0, none⟩) n n) n x :=
  ⟨_, _, rfl, by omega, fun _ => ⟨b, 0, rfl, hb, fun i hi => by rw [Nat.zero_add]; exact h i hi⟩⟩
set_option maxRecDepth 100000 in
set_option maxHeartbeats 4000000 in
theorem known9o (w : World) : Calls Try.prog 4 #[] w (Tells (.bool true) w) := by
  go_enter Try.func4, Try.ntmps4
  generalize hB : w.heap.size = B at *
  have AL := al8 w (.cells #[.int .i64 0, .int .i64 0, .int .i64 0, .float .f64 0] 47) (.cells #[.int .i64 0] 3) (.cells #[.int .i64 1, .slice (some ⟨B, 0, none⟩) 1 1, .slice (some ⟨B + 1, 0, none⟩) 1 1] 26) (.cells #[.float .f64 4607182418800017408] 32) (.cells #[.float .f64 0] 32) (.cells #[.slice (some ⟨B + 1 + 1 + 1, 0, none⟩) 1 1, .slice (some ⟨B + 1 + 1 + 1 + 1, 0, none⟩) 1 1] 31) (.cells #[.float .f64 4607182418800017408, .float .f64 4607182418800017408] 32) (.cells #[.float .f64 4607182418800017408] 32)
  simp only [] at AL
  rw [hB] at AL
  have AL := Lib.hid AL
  go_upto_region 2 with fail
  go_wp2_with fail
  generalize ((((((((w.alloc (.cells #[.int .i64 0, .int .i64 0, .int .i64 0, .float .f64 0] 47)).alloc (.cells #[.int .i64 0] 3)).alloc (.cells #[.int .i64 1, .slice (some ⟨B, 0, none⟩) 1 1, .slice (some ⟨B + 1, 0, none⟩) 1 1] 26)).alloc (.cells #[.float .f64 4607182418800017408] 32)).alloc (.cells #[.float .f64 0] 32)).alloc (.cells #[.slice (some ⟨B + 1 + 1 + 1, 0, none⟩) 1 1, .slice (some ⟨B + 1 + 1 + 1 + 1, 0, none⟩) 1 1] 31)).alloc (.cells #[.float .f64 4607182418800017408, .float .f64 4607182418800017408] 32)).alloc (.cells #[.float .f64 4607182418800017408] 32)) = X at *
  obtain ⟨x0, x1, x3, x4, x5, x6, x7, hb, hs⟩ := AL.out
  have hT : TapeAt X (.agg #[.int .i64 (1 : Nat), .slice (some ⟨B, 0, none⟩) 1 1, .slice (some ⟨B + 1, 0, none⟩) 1 1]) knT := by
    refine ⟨_, _, rfl, ⟨_, _, rfl, by decide, fun _ => ⟨B, 0, rfl, by omega, fun i hi => ?_⟩⟩, ⟨_, _, rfl, by decide, fun _ => ⟨B + 1, 0, rfl, by omega, fun i hi => ?_⟩⟩⟩
    · obtain rfl : i = 0 := by have : i < 1 := hi; omega
      exact ⟨at_block x0 0, at_block x0 1, at_block x0 2, at_block x0 3⟩
    · obtain rfl : i = 0 := by have : i < 1 := hi; omega
      exact at_block x1 0
  have hz : TabR X (.slice (some ⟨B + 1 + 1 + 1 + 1 + 1, 0, none⟩) 2 2) 2 (fun _ => 1) knZ := by
    refine ⟨_, _, rfl, by decide, fun _ => ⟨B + 5, 0, rfl, by omega, fun i hi => ?_⟩⟩
    have hi2 : i < 2 := hi
    rcases (show i = 0 ∨ i = 1 by omega) with rfl | rfl
    · exact ⟨_, at_block x5 0, frow_one (b := B + 3) (fun j hj => by
        obtain rfl : j = 0 := by omega
        exact ⟨4607182418800017408, at_block x3 0, by decide +kernel, by decide⟩) (by omega) (by omega)⟩
    · exact ⟨_, at_block x5 1, frow_one (b := B + 4) (fun j hj => by
        obtain rfl : j = 0 := by omega
        exact ⟨0, at_block x4 0, by decide +kernel, by decide⟩) (by omega) (by omega)⟩
  have hl : FRow X (.slice (some ⟨B + 1 + 1 + 1 + 1 + 1 + 1, 0, none⟩) 2 2) 2 knO := frow_one (b := B + 6) (fun j hj => by
    rcases (show j = 0 ∨ j = 1 by omega) with rfl | rfl
    · exact ⟨4607182418800017408, at_block x6 0, by decide +kernel, by decide⟩
    · exact ⟨4607182418800017408, at_block x6 1, by decide +kernel, by decide⟩) (by omega) (by omega)
  have hw : FRow X (.slice (some ⟨B + 1 + 1 + 1 + 1 + 1 + 1 + 1, 0, none⟩) 1 1) 1 knO := frow_one (b := B + 7) (fun j hj => by
    obtain rfl : j = 0 := by omega
    exact ⟨4607182418800017408, at_block x7 0, by decide +kernel, by decide⟩) (by omega) (by omega)
  have TC := corr_adams 1 knT _ _ _ _ _ 2 20 knZ knO knO X ⟨hT, hz, hl, hw⟩ kn_check (fun _ _ => (by show 0 < 18446744073709551616; decide)) rfl (by decide) (by decide) (by decide) (by decide)
  clear x0 x1 x3 x4 x5 x6 x7 AL hT hz hl hw
  have KS := kn_sum
  simp only [show knO 0 = 4607182418800017408 from rfl] at TC
  generalize corrF knT knZ knO 4607182418800017408 (lenF ((2 ^ 20 : Nat) : Int)) 1 false = R at TC KS
  refine TC.mono ?_
  intro e' w2 hR
  obtain ⟨k1, k2, k3, k4⟩ := KS
  obtain ⟨hbR, hR⟩ := hR
  rcases hR with ⟨-, Rb, rfl, hor⟩ | ⟨hh, -⟩
  case inr => rw [k1] at hh; cases hh
  rw [k2, k3]
  have hd := hor.cell (j := 0) (by omega)
  have HAL := Lib.hid (al1 w2 (.cells #[.slice (some ⟨Rb, 0, none⟩) 1 1, .int .i64 1, .int .i64 0] 39))
  have HBW := Lib.hid (hb.trans (hbR.mono (by omega)))
  have hlt := hor.lt.2
  clear TC hor
  go_upto_region 3 with fail
  generalize (w2.alloc (.cells #[.slice (some ⟨Rb, 0, none⟩) 1 1, .int .i64 1, .int .i64 0] 39)) = Y at *
  obtain ⟨P, hP⟩ : ∃ P, w2.heap.size = P := ⟨_, rfl⟩
  rw [hP] at HAL
  simp only [hP]
  have HY := Lib.hid HAL.out.1
  have hYs := HAL.out.2.1
  have hBP : B + 8 ≤ P := by have := hbR.size; omega
  obtain ⟨yd, d1, d2, d3⟩ := (show FCell w2 Rb 0 _ from hd).same ((haCell (W := w2) (w1 := Y) (by rw [hP]; exact HAL.out.2.2)).1 _ _ hlt)
  rw [k4] at d2
  have hyd : eqB yd 0 = true := by rw [← eqB_canon, d2]; decide +kernel
  have HDC := Lib.hid d1
  have HBY := Lib.hid (HBW.out.trans ((hP ▸ HAL.out.2.2 : Below w2.heap.size w2 Y).mono (by omega)))
  have hn0 : FRow Y (.slice none 0 0) 0 (fun _ => 0) := ⟨none, 0, rfl, by decide, fun h => absurd h (by decide)⟩
  have SZ := Lib.hid (size_tells (.slice none 0 0) (.slice none 0 0) 0 (fun _ => 0) (fun _ => 0) Y hn0 hn0)
  have hRl : Rb < Y.heap.size := by omega
  clear hn0 hd d1 d2 d3 HAL hbR
  go_wp2_with fail
  refine SZ.out.mono ?_
  rintro e3 w3 ⟨⟨y, rfl, y1, y2⟩, hb3⟩
  have hy : eqB y 0 = true := by rw [← eqB_canon, y1]; decide +kernel
  have HB3 := Lib.hid hb3
  obtain ⟨z1, z2, z3, z4⟩ := al2 w3 (.cells #[.float .f64 13837309855095848960] 32) (.cells #[.float .f64 4611686018427387904] 32)
  have hw3 := hb3.size
  have HR1 := Lib.hid (frow_one (w := (w3.alloc (.cells #[.float .f64 13837309855095848960] 32)).alloc (.cells #[.float .f64 4611686018427387904] 32)) (b := w3.heap.size) (n := 1) (x := fun _ => 13837309855095848960) (fun j hj => by
    obtain rfl : j = 0 := by omega
    exact ⟨_, at_block z1 0, by decide +kernel, by decide⟩) (by omega) (by omega))
  have HR2 := Lib.hid (frow_one (w := (w3.alloc (.cells #[.float .f64 13837309855095848960] 32)).alloc (.cells #[.float .f64 4611686018427387904] 32)) (b := w3.heap.size + 1) (n := 1) (x := fun _ => 4611686018427387904) (fun j hj => by
    obtain rfl : j = 0 := by omega
    exact ⟨_, at_block z2 0, by decide +kernel, by decide⟩) (by omega) (by omega))
  have HZ4 := Lib.hid z4
  clear y1 y2 hb3 z1 z2 z3 z4
  go_wp2_with fail
  generalize (w3.alloc (.cells #[.float .f64 13837309855095848960] 32)).alloc (.cells #[.float .f64 4611686018427387904] 32) = V at *
  refine (size_tells _ _ 1 _ _ V HR1.out HR2.out).mono ?_
  rintro e4 w4 ⟨⟨u, rfl, u1, u2⟩, hb4⟩
  have hu : eqB u 4609434218613702656 = true := by rw [← eqB_canon, u1]; decide +kernel
  have HB4 := Lib.hid (HB3.out.trans ((HZ4.out.mono hw3).trans (hb4.mono (by have := HZ4.out.size; omega))))
  have hp := (HB4.out.block P (by omega)).trans HY.out
  have p0 := at_block hp 0
  have p1 := at_block hp 1
  have p2 := at_block hp 2
  have dd := (HB4.out.cell (p := ⟨Rb, 0, none⟩) hRl).trans HDC.out
  simp only [List.getElem?_toArray, List.getElem?_cons_zero, List.getElem?_cons_succ] at p0 p1 p2
  have HBF := Lib.hid (HBY.out.trans (HB4.out.mono (by omega)))
  clear u1 u2 hb4 hp
  go_wp2_with fail
  go_ret
  exact ⟨rfl, hB ▸ HBF.out⟩
end Go.Proofs.Ytnlbafjmbamoeaa
