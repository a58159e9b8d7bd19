/-
  Two partings that are the same, walked; the program's laid as the document's.
-/
import Derived.Test.YtainodgbcpkipaaLrc
import Derived.Test.YtainodgbcpkipaaLrd
namespace Go.Proofs.Ytainodgbcpkipaa
open Go.RowKit
open Ieee (double)
attribute [local go_sem] alloc_drewN setCell_drewN call_bits call_frombits ord_lt ord_eq ord_gt ord_ne ord_le ord_ge eqB_self run_fadd run_fsub run_fmul run_fquo haStoreFlt takeOp pureOp readsUpon doOp

set_option maxHeartbeats 4000000 in
theorem rsame_true (a b p q : Value) (n : Nat) (f : Nat → Nat → Nat) (g : Nat → Int) (w : World) (ha : TabR w a n (fun _ => n) f) (hb : TabR w b n (fun _ => n) f) (hp : Ints0 w p n g) (hq : Ints0 w q n g) :
    Calls Try.prog 18 #[.agg #[a, p], .agg #[b, q]] w (Tells (.bool true) w) := by
  have hb1 : Below w.heap.size w (w.alloc (.cells #[a, p] 32)) := (Below.refl _ _).alloc (Nat.le_refl _) _
  have hx1 := Box2.new a p w 32
  have hb2 : Below (w.alloc (.cells #[a, p] 32)).heap.size (w.alloc (.cells #[a, p] 32)) ((w.alloc (.cells #[a, p] 32)).alloc (.cells #[b, q] 32)) := (Below.refl _ _).alloc (Nat.le_refl _) _
  have hx2 := Box2.new b q (w.alloc (.cells #[a, p] 32)) 32
  have hx1' := hx1.below hb2 hx1.2.2
  have hb3 := hb1.trans (hb2.mono hb1.size)
  have TT := Lib.hid (fun X (hX : Below w.heap.size w X) => tables_true a b n (fun _ => n) f X (ha.below hX) (hb.below hX))
  obtain ⟨pa, pc, rfl, hn, hpr⟩ := hp
  obtain ⟨qa, qc, rfl, -, hqr⟩ := hq
  have HPR := Lib.hid hpr
  have HQR := Lib.hid hqr
  have hne : ((n : Int) != n) = false := by simp
  clear hpr hqr ha hb
  go_enter Try.func18, Try.ntmps18
  have hsz : (w.alloc (.cells #[a, .slice pa n pc] 32)).heap.size = w.heap.size + 1 := by simp
  rw [hsz] at hx2 hb2
  generalize hX : (w.alloc (.cells #[a, .slice pa n pc] 32)).alloc (.cells #[b, .slice qa n qc] 32) = X at *
  have HX1 := Lib.hid hx1'
  have HX2 := Lib.hid hx2
  have HB := Lib.hid hb3
  have HXE := Lib.hid hX
  obtain ⟨x1, x2, x3⟩ := id hx1'
  obtain ⟨y1, y2, y3⟩ := id hx2
  clear hx1 hx1' hx2 hb1 hb2 hb3 hsz
  go_wp2_with fail
  refine (TT.out X HB.out).mono ?_
  rintro e w2 ⟨rfl, hb2⟩
  have hbw := HB.out.trans (hb2.mono HB.out.size)
  have HX1' := Lib.hid (HX1.out.below hb2 HX1.out.2.2)
  have HX2' := Lib.hid (HX2.out.below hb2 HX2.out.2.2)
  clear x1 x2 x3 y1 y2 y3 HX1 HX2 hb2 HXE TT
  obtain ⟨x1, x2, x3⟩ := HX1'.out
  obtain ⟨y1, y2, y3⟩ := HX2'.out
  go_wp2_with fail
  clear x1 x2 x3 y1 y2 y3
  go_loopw [5] (fun i wr => ∃ j : Nat, j ≤ n ∧ i = .int .i64 j ∧ Below w2.heap.size w2 wr) (fun i _ => n - (intOf i).toNat)
  case atStart => exact ⟨0, by omega, rfl, Below.refl _ _⟩
  case round =>
    obtain ⟨j, hj, rfl, hbr⟩ := hrel
    obtain ⟨x1, x2, x3⟩ := HX1'.out.below hbr HX1'.out.2.2
    obtain ⟨y1, y2, y3⟩ := HX2'.out.below hbr HX2'.out.2.2
    by_cases hlt : j < n
    · obtain ⟨b1, o1, rfl, hs1, hc1⟩ := HPR.out (by omega)
      obtain ⟨b2, o2, rfl, hs2, hc2⟩ := HQR.out (by omega)
      have c1 := hc1 j hlt
      have c2 := hc2 j hlt
      have hbA := hbw.trans (hbr.mono hbw.size)
      rw [← (haCell hbA).1 _ _ hs1] at c1
      rw [← (haCell hbA).1 _ _ hs2] at c2
      have hgg : (g j != g j) = false := by simp
      have HBR := Lib.hid hbr
      clear hc1 hc2 hbA hbr
      go_wp2_with fail
      refine wp_region_ord [(0, 1), (1, 2), (2, 1), (3, 1), (4, 2), (5, 1), (6, 2), (7, 1), (8, 1), (9, 2), (10, 1)] (by kernel_rfl) (by kernel_rfl) (fun _ _ d _ _ h => by cases d <;> exact h) ?_
      intro Z hZ
      have hz : ∀ b o, Z.cell? ⟨b, o, none⟩ = wr.cell? ⟨b, o, none⟩ := fun b o => by rw [hZ]; rfl
      have HZ := Lib.hid (show Below w2.heap.size w2 Z by rw [hZ]; exact HBR.out.drew)
      rw [← hz] at x1 x2 y1 y2 c1 c2
      clear hZ hz
      iterate 11
        first
          | refine wpOrd_pure (fun K hK => ?_)
          | refine wpOrd_take (fun K hK => ?_)
        go_simp
        refine hK _ ?_
        clear hK K
      refine wpOrd_nil ?_
      go_wp2_with fail
      go_roundw
      case rel => exact ⟨j + 1, by omega, by go_num, HZ.out⟩
      case measure => simp [intOf]; omega
    · go_wp2_with fail
      go_ret
      exact ⟨rfl, hbw.trans (hbr.mono hbw.size)⟩
theorem lu_tells (a1 p1 : Option Addr) (n c m d : Nat) (w : World) : Calls Try.prog 19 #[.agg #[.slice a1 n c, .slice p1 m d]] w (Tells (.agg #[.slice a1 n c, .slice p1 m d]) w) := by
  have hb1 : Below w.heap.size w (w.alloc (.cells #[.slice a1 n c, .slice p1 m d] 29)) := (Below.refl _ _).alloc (Nat.le_refl _) _
  have hx1 := Box2.new (.slice a1 n c) (.slice p1 m d) w 29
  go_enter Try.func19, Try.ntmps19
  obtain ⟨x1, x2, x3⟩ := id hx1
  have hb2 := hb1.alloc (by simp) (.cells #[.slice a1 n c, .slice p1 m d] 32)
  go_wp2_with fail
  exact bodyPost_ret (v := .agg #[.slice a1 n c, .slice p1 m d]) (by simp [results, Try.results19, go_sem]) rfl ⟨rfl, hb2⟩
end Go.Proofs.Ytainodgbcpkipaa
