/-
  The law of many whole numbers, walked: from-tos that are added, taken away, multiplied.
-/
import Derived.Test.YtbepaoliboooaaaIvManya
import Derived.Deep.RegionHeld3
namespace Go.Proofs.Ytbepaoliboooaaa
open Go.RowKit
attribute [local go_sem] alloc_drewN setCell_drewN call_bits call_frombits ord_lt ord_eq ord_gt ord_ne ord_le ord_ge eqB_self run_fadd run_fsub run_fmul run_fquo run_store_f64

/-- Two from-tos in memory, made behind w0, and what was ahead as it was. -/
def Two (w0 : World) (B C a b c d : Nat) (w : World) : Prop :=
  w.cell? ⟨B, 0, none⟩ = some (.float .f64 a) ∧ w.cell? ⟨B, 1, none⟩ = some (.float .f64 b) ∧ w.cell? ⟨C, 0, none⟩ = some (.float .f64 c) ∧ w.cell? ⟨C, 1, none⟩ = some (.float .f64 d) ∧
  w.frozen? ⟨B, 0, none⟩ = false ∧ w.frozen? ⟨B, 1, none⟩ = false ∧ w.frozen? ⟨C, 0, none⟩ = false ∧ w.frozen? ⟨C, 1, none⟩ = false ∧
  B < w.heap.size ∧ C < w.heap.size ∧ w0.heap.size ≤ B ∧ w0.heap.size ≤ C ∧ B ≠ C ∧ Below w0.heap.size w0 w
theorem Two.below {w0 : World} {B C a b c d : Nat} {w w' : World} (h : Two w0 B C a b c d w) (hb : Below w.heap.size w w') : Two w0 B C a b c d w' := by
  obtain ⟨h1, h2, h3, h4, h5, h6, h7, h8, h9, h10, h11, h12, h13, h14⟩ := h
  obtain ⟨hc, hf⟩ := bcell hb
  have hs := hb.size
  exact ⟨by rw [hc _ _ h9]; exact h1, by rw [hc _ _ h9]; exact h2, by rw [hc _ _ h10]; exact h3, by rw [hc _ _ h10]; exact h4,
    by rw [hf _ _ h9]; exact h5, by rw [hf _ _ h9]; exact h6, by rw [hf _ _ h10]; exact h7, by rw [hf _ _ h10]; exact h8, by omega, by omega, h11, h12, h13, h14.trans (hb.mono h14.size)⟩

theorem Two.start {w0 w : World} (h : Below w0.heap.size w0 w) (a b c d : Nat) (t : TypeId) : Two w0 w.heap.size (w.heap.size + 1) a b c d ((w.alloc (.cells #[.float .f64 a, .float .f64 b] t)).alloc (.cells #[.float .f64 c, .float .f64 d] t)) := by
  have hs := h.size
  have e : (w.alloc (.cells #[.float .f64 a, .float .f64 b] t)).heap.size = w.heap.size + 1 := by simp
  refine ⟨?_, ?_, ?_, ?_, ?_, ?_, ?_, ?_, by simp; omega, by simp, hs, by omega, by omega, (h.alloc hs _).alloc (by rw [e]; omega) _⟩
  · rw [World.cell?_alloc_lt _ _ _ (show w.heap.size < _ by rw [e]; omega), World.cell?_alloc_new]; rfl
  · rw [World.cell?_alloc_lt _ _ _ (show w.heap.size < _ by rw [e]; omega), World.cell?_alloc_new]; rfl
  · rw [← e, World.cell?_alloc_new]; rfl
  · rw [← e, World.cell?_alloc_new]; rfl
  all_goals simp [go_sem]
theorem zero_is0 : Is 0 0 0 := by have := is_ofInt (n := 0) (by decide) (by decide); have e : floatOfInt .f64 0 = 0 := by decide +kernel
                                  rwa [e] at this
theorem one_is0 : Is 4607182418800017408 1 0 := by have := is_ofInt (n := 1) (by decide) (by decide); have e : floatOfInt .f64 1 = 4607182418800017408 := by decide +kernel
                                                   rwa [e] at this
theorem Two.alloc {w0 : World} {B C a b c d : Nat} {w : World} (h : Two w0 B C a b c d w) (o : Obj) : Two w0 B C a b c d (w.alloc o) := h.below ((Below.refl _ _).alloc (Nat.le_refl _) _)
theorem Two.set1 {w0 : World} {B C a b c d : Nat} {w : World} (h : Two w0 B C a b c d w) (x y : Nat) : Two w0 B C x y c d ((w.setCell ⟨B, 0, none⟩ (.float .f64 x)).setCell ⟨B, 1, none⟩ (.float .f64 y)) := by
  obtain ⟨h1, h2, h3, h4, h5, h6, h7, h8, h9, h10, h11, h12, h13, h14⟩ := h
  refine ⟨by simp [go_sem, h1], by simp [go_sem, h2], by simp [go_sem, h3], by simp [go_sem, h4], by simp [go_sem, h5], by simp [go_sem, h6], by simp [go_sem, h7], by simp [go_sem, h8], by simp [World.setCell]; exact h9, by simp [World.setCell]; exact h10, h11, h12, h13, (h14.setCell h11 _).setCell h11 _⟩
theorem Two.set2 {w0 : World} {B C a b c d : Nat} {w : World} (h : Two w0 B C a b c d w) (x y : Nat) : Two w0 B C a b x y ((w.setCell ⟨C, 0, none⟩ (.float .f64 x)).setCell ⟨C, 1, none⟩ (.float .f64 y)) := by
  obtain ⟨h1, h2, h3, h4, h5, h6, h7, h8, h9, h10, h11, h12, h13, h14⟩ := h
  refine ⟨by simp [go_sem, h1], by simp [go_sem, h2], by simp [go_sem, h3], by simp [go_sem, h4], by simp [go_sem, h5], by simp [go_sem, h6], by simp [go_sem, h7], by simp [go_sem, h8], by simp [World.setCell]; exact h9, by simp [World.setCell]; exact h10, h11, h12, h13, (h14.setCell h12 _).setCell h12 _⟩
theorem addP_any (a b c d : Nat) (w : World) : Calls Try.prog 31 #[iv a b, iv c d] w (Gives (iv (Ex.addP a b c d).1 (Ex.addP a b c d).2) w) := (add_any a b c d w).mono fun _ _ h => h.eq (Ex.outP_eq _ _)
theorem subP_any (a b c d : Nat) (w : World) : Calls Try.prog 33 #[iv a b, iv c d] w (Gives (iv (Ex.subP a b c d).1 (Ex.subP a b c d).2) w) := (sub_any a b c d w).mono fun _ _ h => h.eq (Ex.outP_eq _ _)
theorem mulP_any (a b c d : Nat) (w : World) : Calls Try.prog 35 #[iv a b, iv c d] w (Gives (iv (Ex.mulP a b c d).1 (Ex.mulP a b c d).2) w) := (mul_any a b c d w).mono fun _ _ h => h.eq (Ex.aroundP_eq _ _ _ _)
theorem in_yes {x a b : Nat} (h1 : leB a x = true) (h2 : leB x b = true) (w : World) : Calls Try.prog 27 #[.float .f64 x, iv a b] w (Gives (.bool true) w) := (in_any x a b w).mono fun _ _ h => h.eq (by rw [h1, h2]; rfl)
theorem makeI_point {x : Nat} (h : isN x = false) : makeI x x = iv x x := by
  unfold makeI
  rw [leB_of h h, decide_eq_true (Int.le_refl _)]
  rfl
theorem make_point (x : Nat) (h : isN x = false) (w : World) : Calls Try.prog 20 #[.float .f64 x, .float .f64 x] w (Gives (iv x x) w) :=
  (make_any x x w).mono fun _ _ g => g.eq (makeI_point h)
set_option maxRecDepth 100000 in
set_option maxHeartbeats 4000000 in
theorem ivMany_any (v : Value) (zs : List Int) (w : World) (h : Ints w v zs) :
    Calls Try.prog 15 #[v] w fun e w' => e = .returned (.bool true) ∧ Below w.heap.size w w' := by
  rcases h with ⟨o, cap, rfl, rfl⟩ | ⟨b, off, cap, rfl, hbs, hlen, hcell⟩
  · have M0 := fun W => make_point 0 (by decide) W
    have M1 := fun W => make_point 4607182418800017408 (by decide) W
    go_enter Try.func15, Try.ntmps15
    go_wp2_with (go_at_call 16; refine (known2_any _).mono ?_; rintro e w1 ⟨rfl, hb1⟩)
    refine (M0 _).mono ?_
    rintro e w2 ⟨rfl, hb2⟩
    go_wp2_with fail
    refine (M1 _).mono ?_
    rintro e w3 ⟨rfl, hb3⟩
    go_wp2_with fail
    have hb0 := (hb1.trans (hb2.mono hb1.size)).trans (hb3.mono (Nat.le_trans hb1.size hb2.size))
    have h2 := Two.start hb0 0 0 4607182418800017408 4607182418800017408 25
    have hC : w3.heap.size + 1 ≠ w3.heap.size := by omega
    generalize (w3.alloc (.cells #[.float .f64 0, .float .f64 0] 25)).alloc (.cells #[.float .f64 4607182418800017408, .float .f64 4607182418800017408] 25) = W at *
    generalize w3.heap.size + 1 = C at *
    generalize w3.heap.size = B at *
    clear M0 M1 hb1 hb2 hb3 hb0
    have hS := SI.zero zero_is0
    have hT := PI2.one one_is0
    refine wp_loop_rounds 1 ?_
    rw [rounds_succ]
    obtain ⟨e1, e2⟩ := hS.within (is_ofInt (n := 0) (by omega) (by omega)) (by omega)
    obtain ⟨e3, e4⟩ := hT.within (by omega) (by omega)
    have I1 := fun W => in_yes e1 e2 W
    have I2 := fun W => in_yes e3 e4 W
    have N1 := fun W => hS.narrow (by omega) (by omega) W
    have NN := Lib.hid N1
    clear N1 hS hT e1 e2 e3 e4
    obtain ⟨p1, p2, p3, p4, p5, p6, p7, p8, p9, p10, p11, p12, p13, p14⟩ := id h2
    go_wp2_with fail
    refine (I1 _).mono ?_
    rintro e w4 ⟨rfl, hb4⟩
    have H4 := h2.below hb4
    clear hb4 h2 p1 p2 p3 p4 p5 p6 p7 p8 p9 p10 p11 p12 p13 p14
    obtain ⟨p1, p2, p3, p4, p5, p6, p7, p8, p9, p10, p11, p12, p13, p14⟩ := id H4
    go_wp2_with fail
    refine (I2 _).mono ?_
    rintro e w5 ⟨rfl, hb5⟩
    have H5 := H4.below hb5
    clear hb5 H4 p1 p2 p3 p4 p5 p6 p7 p8 p9 p10 p11 p12 p13 p14
    obtain ⟨p1, p2, p3, p4, p5, p6, p7, p8, p9, p10, p11, p12, p13, p14⟩ := id H5
    have N1 := NN.out
    go_wp2_with fail
    go_ret
    exact ⟨rfl, below_drew p14 _⟩
  · generalize zs.length = len at *
    have HC := Lib.hid hcell
    clear hcell
    have M0 := fun W => make_point 0 (by decide) W
    have M1 := fun W => make_point 4607182418800017408 (by decide) W
    go_enter Try.func15, Try.ntmps15
    go_wp2_with (go_at_call 16; refine (known2_any _).mono ?_; rintro e w1 ⟨rfl, hb1⟩)
    refine (M0 _).mono ?_
    rintro e w2 ⟨rfl, hb2⟩
    go_wp2_with fail
    refine (M1 _).mono ?_
    rintro e w3 ⟨rfl, hb3⟩
    go_wp2_with fail
    have hb0 := (hb1.trans (hb2.mono hb1.size)).trans (hb3.mono (Nat.le_trans hb1.size hb2.size))
    have h2 := Two.start hb0 0 0 4607182418800017408 4607182418800017408 25
    have hC : w3.heap.size + 1 ≠ w3.heap.size := by omega
    generalize (w3.alloc (.cells #[.float .f64 0, .float .f64 0] 25)).alloc (.cells #[.float .f64 4607182418800017408, .float .f64 4607182418800017408] 25) = W at *
    generalize w3.heap.size + 1 = C at *
    generalize w3.heap.size = B at *
    clear M0 M1 hb1 hb2 hb3 hb0
    go_loopw [5, 6, 7] (fun sm pr i wr => ∃ (j : Nat) (S T : Int) (p q r t : Nat), j ≤ 40 ∧ j ≤ len ∧ i = .int .i64 j ∧ sm = .int .i64 S ∧ pr = .int .i64 T ∧ SI p q S j ∧ PI2 r t T ∧ -(j * 1000 : Int) ≤ S ∧ S ≤ j * 1000 ∧ -1099511627776000 ≤ T ∧ T ≤ 1099511627776000 ∧ Two w B C p q r t wr) (fun _ _ i _ => 40 - (intOf i).toNat)
    case atStart => exact ⟨0, 0, 1, _, _, _, _, by omega, by omega, rfl, rfl, rfl, SI.zero zero_is0, PI2.one one_is0, by omega, by omega, by omega, by omega, h2⟩
    case round =>
      obtain ⟨j, S, T, p, q, r, t, hj, hjl, rfl, rfl, rfl, hS, hT, hS1, hS2, hT1, hT2, h2⟩ := hrel
      by_cases hlt : j < len
      · by_cases h40 : j < 40
        · have hcl := HC.out j hlt
          generalize zs.getD j 0 = z at *
          have hbel := h2.2.2.2.2.2.2.2.2.2.2.2.2.2
          rw [← (bcell hbel).1 _ _ hbs] at hcl
          have HS := Lib.hid hS
          have HT := Lib.hid hT
          have H2 := Lib.hid h2
          clear hS hT h2 hbel
          go_wp2_with fail
          refine (within2_mod z 2001 _ (by decide) (by decide)).mono ?_
          rintro e w4 ⟨rfl, rfl⟩
          have b1 := Int.emod_nonneg z (show (2001 : Int) ≠ 0 by decide)
          have b2 := Int.emod_lt_of_pos z (show (0 : Int) < 2001 by decide)
          generalize z % 2001 = u at *
          go_wp2_with fail
          refine (make_point (floatOfInt .f64 (u - 1000)) (ofInt_isN _) _).mono ?_
          rintro e w5 ⟨rfl, hb5⟩
          have hx := is_ofInt (n := u - 1000) (by omega) (by omega)
          have H5 := H2.out.below hb5
          clear hb5 H2 hcl
          generalize hX : floatOfInt .f64 (u - 1000) = x at *
          have HX := Lib.hid hx
          clear hX hx
          obtain ⟨p1, p2, p3, p4, p5, p6, p7, p8, p9, p10, p11, p12, p13, p14⟩ := id H5
          by_cases h2 : j % 2 = 0
          · have c3 : (((j : Int) % 2) == 0) = true := by simp; omega
            go_wp2_with fail
            refine (addP_any p q x x _).mono ?_
            rintro e w6 ⟨rfl, hb6⟩
            have hn := HS.out.add HX.out (by omega) (by omega) (by omega)
            have H6 := (H5.alloc (.cells #[.float .f64 x, .float .f64 x] 25)).below hb6
            have x0 : w6.cell? ⟨w5.heap.size, 0, none⟩ = some (.float .f64 x) := by rw [(bcell hb6).1 _ _ (by simp)]; simp [go_sem]
            have x1 : w6.cell? ⟨w5.heap.size, 1, none⟩ = some (.float .f64 x) := by rw [(bcell hb6).1 _ _ (by simp)]; simp [go_sem]
            have x2 : w5.heap.size < w6.heap.size := by have := hb6.size; simp at this; omega
            generalize (Ex.addP p q x x).1 = p' at *
            generalize (Ex.addP p q x x).2 = q' at *
            have hXB : w5.heap.size ≠ B := by omega
            have hXC : w5.heap.size ≠ C := by omega
            have hBX := hXB.symm
            have hCX := hXC.symm
            have hCB := p13.symm
            have HN := Lib.hid hn
            clear hn hb6 H5 p1 p2 p3 p4 p5 p6 p7 p8 p9 p10 p11 p12 p13 p14 c3 HS
            generalize w5.heap.size = X at *
            obtain ⟨p1, p2, p3, p4, p5, p6, p7, p8, p9, p10, p11, p12, p13, p14⟩ := id H6
            go_wp2_with fail
            · obtain ⟨hm, m1, m2⟩ := HT.out.mul HX.out (by omega) (by omega)
              refine (mulP_any r t x x _).mono ?_
              rintro e w7 ⟨rfl, hb7⟩
              have H7 := (H6.set1 p' q').below hb7
              generalize (Ex.mulP r t x x).1 = r' at *
              generalize (Ex.mulP r t x x).2 = t' at *
              have HM := Lib.hid hm
              clear hm hb7 H6 p1 p2 p3 p4 p5 p6 p7 p8 p9 p10 p11 p12 p13 p14 x0 x1 x2 HT
              obtain ⟨p1, p2, p3, p4, p5, p6, p7, p8, p9, p10, p11, p12, p13, p14⟩ := id H7
              go_wp2_with fail
              go_roundw
              case rel => exact ⟨j + 1, _, _, p', q', r', t', by omega, by omega, by go_num, rfl, rfl, HN.out, HM.out, by omega, by omega, by omega, by omega, H7.set2 _ _⟩
              case measure => simp [intOf]; omega
            all_goals go_roundw
            all_goals first
              | exact ⟨j + 1, _, _, p', q', r, t, by omega, by omega, by go_num, rfl, rfl, HN.out, HT.out, by omega, by omega, by omega, by omega, H6.set1 _ _⟩
              | (simp [intOf]; omega)
          · have c3 : (((j : Int) % 2) == 0) = false := by simp; omega
            go_wp2_with fail
            refine (subP_any p q x x _).mono ?_
            rintro e w6 ⟨rfl, hb6⟩
            have hn := HS.out.sub HX.out (by omega) (by omega) (by omega)
            have H6 := (H5.alloc (.cells #[.float .f64 x, .float .f64 x] 25)).below hb6
            have x0 : w6.cell? ⟨w5.heap.size, 0, none⟩ = some (.float .f64 x) := by rw [(bcell hb6).1 _ _ (by simp)]; simp [go_sem]
            have x1 : w6.cell? ⟨w5.heap.size, 1, none⟩ = some (.float .f64 x) := by rw [(bcell hb6).1 _ _ (by simp)]; simp [go_sem]
            have x2 : w5.heap.size < w6.heap.size := by have := hb6.size; simp at this; omega
            generalize (Ex.subP p q x x).1 = p' at *
            generalize (Ex.subP p q x x).2 = q' at *
            have hXB : w5.heap.size ≠ B := by omega
            have hXC : w5.heap.size ≠ C := by omega
            have hBX := hXB.symm
            have hCX := hXC.symm
            have hCB := p13.symm
            have HN := Lib.hid hn
            clear hn hb6 H5 p1 p2 p3 p4 p5 p6 p7 p8 p9 p10 p11 p12 p13 p14 c3 HS
            generalize w5.heap.size = X at *
            obtain ⟨p1, p2, p3, p4, p5, p6, p7, p8, p9, p10, p11, p12, p13, p14⟩ := id H6
            go_wp2_with fail
            · obtain ⟨hm, m1, m2⟩ := HT.out.mul HX.out (by omega) (by omega)
              refine (mulP_any r t x x _).mono ?_
              rintro e w7 ⟨rfl, hb7⟩
              have H7 := (H6.set1 p' q').below hb7
              generalize (Ex.mulP r t x x).1 = r' at *
              generalize (Ex.mulP r t x x).2 = t' at *
              have HM := Lib.hid hm
              clear hm hb7 H6 p1 p2 p3 p4 p5 p6 p7 p8 p9 p10 p11 p12 p13 p14 x0 x1 x2 HT
              obtain ⟨p1, p2, p3, p4, p5, p6, p7, p8, p9, p10, p11, p12, p13, p14⟩ := id H7
              go_wp2_with fail
              go_roundw
              case rel => exact ⟨j + 1, _, _, p', q', r', t', by omega, by omega, by go_num, rfl, rfl, HN.out, HM.out, by omega, by omega, by omega, by omega, H7.set2 _ _⟩
              case measure => simp [intOf]; omega
            all_goals go_roundw
            all_goals first
              | exact ⟨j + 1, _, _, p', q', r, t, by omega, by omega, by go_num, rfl, rfl, HN.out, HT.out, by omega, by omega, by omega, by omega, H6.set1 _ _⟩
              | (simp [intOf]; omega)
        · have hj40 : j = 40 := by omega
          obtain ⟨e1, e2⟩ := hS.within (is_ofInt (n := S) (by omega) (by omega)) (by omega)
          obtain ⟨e3, e4⟩ := hT.within (by omega) (by omega)
          have I1 := fun W => in_yes e1 e2 W
          have I2 := fun W => in_yes e3 e4 W
          have N1 := fun W => hS.narrow (by omega) (by omega) W
          have NN := Lib.hid N1
          clear N1 hS hT e1 e2 e3 e4
          obtain ⟨p1, p2, p3, p4, p5, p6, p7, p8, p9, p10, p11, p12, p13, p14⟩ := id h2
          go_wp2_with fail
          refine (I1 _).mono ?_
          rintro e w4 ⟨rfl, hb4⟩
          have H4 := h2.below hb4
          clear hb4 h2 p1 p2 p3 p4 p5 p6 p7 p8 p9 p10 p11 p12 p13 p14
          obtain ⟨p1, p2, p3, p4, p5, p6, p7, p8, p9, p10, p11, p12, p13, p14⟩ := id H4
          go_wp2_with fail
          refine (I2 _).mono ?_
          rintro e w5 ⟨rfl, hb5⟩
          have H5 := H4.below hb5
          clear hb5 H4 p1 p2 p3 p4 p5 p6 p7 p8 p9 p10 p11 p12 p13 p14
          obtain ⟨p1, p2, p3, p4, p5, p6, p7, p8, p9, p10, p11, p12, p13, p14⟩ := id H5
          have N1 := NN.out
          go_wp2_with fail
          go_ret
          exact ⟨rfl, below_drew p14 _⟩
      · have hjl : j = len := by omega
        obtain ⟨e1, e2⟩ := hS.within (is_ofInt (n := S) (by omega) (by omega)) (by omega)
        obtain ⟨e3, e4⟩ := hT.within (by omega) (by omega)
        have I1 := fun W => in_yes e1 e2 W
        have I2 := fun W => in_yes e3 e4 W
        have N1 := fun W => hS.narrow (by omega) (by omega) W
        have NN := Lib.hid N1
        clear N1 hS hT e1 e2 e3 e4
        obtain ⟨p1, p2, p3, p4, p5, p6, p7, p8, p9, p10, p11, p12, p13, p14⟩ := id h2
        go_wp2_with fail
        refine (I1 _).mono ?_
        rintro e w4 ⟨rfl, hb4⟩
        have H4 := h2.below hb4
        clear hb4 h2 p1 p2 p3 p4 p5 p6 p7 p8 p9 p10 p11 p12 p13 p14
        obtain ⟨p1, p2, p3, p4, p5, p6, p7, p8, p9, p10, p11, p12, p13, p14⟩ := id H4
        go_wp2_with fail
        refine (I2 _).mono ?_
        rintro e w5 ⟨rfl, hb5⟩
        have H5 := H4.below hb5
        clear hb5 H4 p1 p2 p3 p4 p5 p6 p7 p8 p9 p10 p11 p12 p13 p14
        obtain ⟨p1, p2, p3, p4, p5, p6, p7, p8, p9, p10, p11, p12, p13, p14⟩ := id H5
        have N1 := NN.out
        go_wp2_with fail
        go_ret
        exact ⟨rfl, below_drew p14 _⟩
end Go.Proofs.Ytbepaoliboooaaa
