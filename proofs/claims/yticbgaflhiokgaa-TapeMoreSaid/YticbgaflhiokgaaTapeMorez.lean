/-
  The law of tapes with more operations behind, walked.
-/
import Derived.Test.YticbgaflhiokgaaTmo
import Derived.Test.YticbgaflhiokgaaTmv
import Derived.Test.YticbgaflhiokgaaInr
import Derived.Test.YticbgaflhiokgaaTps
import Derived.Test.YticbgaflhiokgaaB3n
import Derived.Test.YticbgaflhiokgaaLrd
namespace Go.Proofs.Yticbgaflhiokgaa
open Go.RowKit
open Ieee (double)
attribute [local go_sem] alloc_drewN setCell_drewN call_bits call_frombits ord_lt ord_eq ord_gt ord_ne ord_le ord_ge eqB_self run_fadd run_fsub run_fmul run_fquo haStoreFlt takeOp pureOp readsUpon doOp

theorem known3_tells (w : World) : Calls Try.prog 12 #[] w (Tells (.bool true) w) :=
  (Ex.run_law (V := Ex.adV []) mixed namesAll Ex.gam_nil (ctrB_ok (Ex.adV_ok []) (t := []) (fun _ _ _ h => by cases h)) known_run (vs := #[]) trivial w).mono fun _ _ h => h
theorem ints_F {w : World} {v : Value} {zs : List Int} (h : Ints w v zs) : IntsF w v zs.length (fun i => zs.getD i 0) := h.read
/-- Two tapes, one of which is grown. -/
structure MoreS (w0 : World) (H P : Nat) (T : TD) (m : Int) (va vb vb' : Value) (k : Nat) (vu : Value) (W : World) : Prop where
  bt : Box3 P T.n va vb W
  bu : Box3 (P + 1) T.n vu vb' W
  fr : W.frozen? ⟨P + 1, 1, none⟩ = false
  own : W.ownsRow H 32 4 vu (T.len + k) (opsL (opM T m) (T.len + k))
  ints : W.ownsRow H 3 1 vb' T.lo (intsL T.out T.lo)
  ne : ∀ b, vu.ownBlock = some b → b ≠ P ∧ b ≠ P + 1 ∧ vb'.ownBlock ≠ some b
  ni : ∀ b, vb'.ownBlock = some b → b ≠ P ∧ b ≠ P + 1
  hp : H ≤ P
  w : Below H w0 W
theorem MoreS.below {w0 : World} {H P : Nat} {T : TD} {m : Int} {va vb vb' : Value} {k : Nat} {vu : Value} {W W' : World} (h : MoreS w0 H P T m va vb vb' k vu W) (hb : Below W.heap.size W W') : MoreS w0 H P T m va vb vb' k vu W' :=
  ⟨h.bt.below hb, h.bu.below hb, ((haCell hb).2 _ _ h.bu.2.2.2).trans h.fr, own_below h.own hb, own_below h.ints hb, h.ne, h.ni, h.hp, h.w.trans (hb.mono (by have := h.bt.2.2.2; have := h.hp; omega))⟩
theorem intsL_set0 (f : Nat → Int) (c : Int) : ∀ k : Nat, (intsL f k).set 0 (.int .i64 c) = intsL (fun i => if i = 0 then c else f i) k
  | 0 => rfl
  | 1 => rfl
  | k + 2 => by
    have hl := intsL_len f (k + 1)
    have h := intsL_set0 f c (k + 1)
    show (intsL f (k + 1) ++ [Value.int .i64 (f (k + 1))]).set 0 (.int .i64 c) = intsL (fun i => if i = 0 then c else f i) (k + 1) ++ [.int .i64 (if k + 1 = 0 then c else f (k + 1))]
    rw [List.set_append_left _ _ (by rw [hl]; omega), h, if_neg (by omega)]
theorem box3_block {B : Nat} {n : Int} {vo vu : Value} {w w' : World} (h : Box3 B n vo vu w) (hb : w'.heap[B]? = w.heap[B]?) (hs : w.heap.size ≤ w'.heap.size) : Box3 B n vo vu w' :=
  ⟨(World.cell?_of_block (a := ⟨B, 0, none⟩) hb).trans h.1, (World.cell?_of_block (a := ⟨B, 1, none⟩) hb).trans h.2.1, (World.cell?_of_block (a := ⟨B, 2, none⟩) hb).trans h.2.2.1, Nat.lt_of_lt_of_le h.2.2.2 hs⟩
theorem MoreS.app {w0 : World} {H P : Nat} {T : TD} {m : Int} {va vb vb' : Value} {k : Nat} {vu : Value} {A wn : World} {gg cap1 : Nat} (h : MoreS w0 H P T m va vb vb' k vu A) (hg : A.grownBy wn vu.ownBlock)
    (ho : wn.ownsRow H 32 4 (.slice (some ⟨gg, 0, none⟩) (T.len + (k + 1)) cap1) (T.len + (k + 1)) (opsL (opM T m) (T.len + (k + 1)))) (hat : vu.ownBlock = some gg ∨ gg = A.heap.size) :
    MoreS w0 H P T m va vb vb' (k + 1) (.slice (some ⟨gg, 0, none⟩) (T.len + (k + 1)) cap1) (wn.setCell ⟨P + 1, 1, none⟩ (.slice (some ⟨gg, 0, none⟩) (T.len + (k + 1)) cap1)) := by
  have hP : P + 1 < A.heap.size := h.bu.2.2.2
  have hs := hg.size
  have hH := h.hp
  have hgp : gg ≠ P ∧ gg ≠ P + 1 ∧ vb'.ownBlock ≠ some gg := by
    rcases hat with e | e
    · exact h.ne gg e
    · exact ⟨by omega, by omega, fun q => by have := (h.ints.lt gg q).2; omega⟩
  have b1 : wn.heap[P]? = A.heap[P]? := hg.block P (by omega) (fun e => (h.ne P e.symm).1 rfl)
  have b2 : wn.heap[P + 1]? = A.heap[P + 1]? := hg.block (P + 1) hP (fun e => (h.ne (P + 1) e.symm).2.1 rfl)
  have bt := box3_block h.bt b1 hs
  have bu := box3_block h.bu b2 hs
  have fr : wn.frozen? ⟨P + 1, 1, none⟩ = false := (World.frozen?_of_block (a := ⟨P + 1, 1, none⟩) b2).trans h.fr
  have hi := h.ints.kept hg (by
    cases hv : vb'.ownBlock with
    | none => exact .inl rfl
    | some b => exact .inr (fun e => (h.ne b e.symm).2.2 hv))
  refine ⟨box3_block bt (Below.heap_setCell _ _ _ _ (by simp)) (by simp [World.setCell]), ⟨?_, ?_, ?_, by simp [World.setCell]; omega⟩, by simp [go_sem, fr], own_setN ho (by simp only [Value.ownBlock, ne_eq, Option.some.injEq]; omega), own_setN hi (fun e => (h.ni _ e).2 rfl), fun b hb => ?_, h.ni, hH, ?_⟩
  · rw [World.cell?_setCell_other _ _ _ _ (fun q => by injection q with _ q2 _; omega)]; exact bu.1
  · have := bu.2.1
    simp [go_sem, this]
  · rw [World.cell?_setCell_other _ _ _ _ (fun q => by injection q with _ q2 _; omega)]; exact bu.2.2.1
  · simp only [Value.ownBlock, Option.some.injEq] at hb
    rw [← hb]; exact hgp
  · exact (h.w.grown hg (by omega) (fun b hb => (h.own.lt b hb).1)).setCell (p := ⟨P + 1, 1, none⟩) (show H ≤ P + 1 by omega) _
set_option maxRecDepth 100000 in
set_option maxHeartbeats 8000000 in
theorem tapeMore_any (n : Int) (v1 : Value) (zs1 : List Int) (d : Bool) (v3 : Value) (zs3 : List Int) (m : Int) (w : World) (hn : -9223372036854775808 ≤ n ∧ n ≤ 9223372036854775807) (h1 : Intr w v1 zs1) (h3 : Intr w v3 zs3) (hm : -9223372036854775808 ≤ m ∧ m ≤ 9223372036854775807) :
    Calls Try.prog 9 #[.int .i64 n, v1, .bool d, v3, .int .i64 m] w fun e w' => e = .returned (.bool true) ∧ Below w.heap.size w w' := by
  have MK := Lib.hid (fun W (hW : Below w.heap.size w W) => makeT_tells n v1 zs1.length (fun i => zs1.getD i 0) d W ((ints_F h1.1).below hW) hn h1.2)
  have VL := Lib.hid (fun W (hW : Below w.heap.size w W) => values_tells (1 + n % 3).toNat v3 zs3 W (ints_below h3.1 hW) (by have := Int.emod_nonneg n (show (3 : Int) ≠ 0 by decide); omega) (by have := Int.emod_lt_of_pos n (show (0 : Int) < 3 by decide); omega))
  have hT := check_make n (fun i => zs1.getD i 0) zs1.length d
  have hTc : ∀ i, ((makeT n (fun i => zs1.getD i 0) zs1.length d).op i).c < 18446744073709551616 := fun i => opAt_c _ _ _ _
  have hTl : (makeT n (fun i => zs1.getD i 0) zs1.length d).len ≤ 12 ∧ 1 ≤ (makeT n (fun i => zs1.getD i 0) zs1.length d).len := by
    have := Int.emod_nonneg n (show (3 : Int) ≠ 0 by decide)
    have := Int.emod_lt_of_pos n (show (0 : Int) < 3 by decide)
    show (1 + n % 3).toNat + 1 + min zs1.length 8 ≤ 12 ∧ 1 ≤ (1 + n % 3).toNat + 1 + min zs1.length 8
    omega
  have hTn : (makeT n (fun i => zs1.getD i 0) zs1.length d).n = 1 + n % 3 := rfl
  have hTo : (makeT n (fun i => zs1.getD i 0) zs1.length d).lo = (1 + n % 3).toNat := rfl
  generalize makeT n (fun i => zs1.getD i 0) zs1.length d = T at *
  obtain ⟨N0, hN⟩ : ∃ N : Nat, (N : Int) = 1 + n % 3 := ⟨(1 + n % 3).toNat, by have := Int.emod_nonneg n (show (3 : Int) ≠ 0 by decide); omega⟩
  have hN2 : (1 + n % 3).toNat = N0 := by omega
  rw [hN2] at VL hTo
  rw [← hN] at hTn
  have hN3 : 1 ≤ N0 ∧ N0 ≤ 3 := by
    have := Int.emod_nonneg n (show (3 : Int) ≠ 0 by decide)
    have := Int.emod_lt_of_pos n (show (0 : Int) < 3 by decide)
    omega
  obtain ⟨tn, L, op, N, out⟩ := T
  simp only [] at hTn hTo hTl
  subst hTn
  subst hTo
  clear h1 h3 hN hN2
  have HT := Lib.hid hT
  have HTC := Lib.hid hTc
  clear hT hTc
  go_enter Try.func9, Try.ntmps9
  generalize hB : w.heap.size = B at *
  go_wp2_with fail
  refine (known3_tells _).mono ?_
  rintro e w1 ⟨rfl, hb1⟩
  rw [hB] at hb1
  have hs1 := hb1.size
  go_wp2_with fail
  refine (MK.out w1 hb1).mono ?_
  rintro e w2 ⟨ut, rfl, ht2, hb2⟩
  have hB2 : Below B w w2 := hb1.trans (hb2.mono (by omega))
  have hs2 := hb2.size
  have HT2 := Lib.hid (ht2.at (show L ≤ _ by omega) (show N ≤ _ by omega))
  clear ht2 hb2 hb1
  go_wp2_with fail
  refine (MK.out w2 hB2).mono ?_
  rintro e w3 ⟨uu, rfl, hu3, hb3⟩
  have hs3 := hb3.size
  obtain ⟨va, vb, rfl, ⟨ta, tc, rfl, -⟩, ⟨tb, td, rfl, -⟩⟩ := id HT2.out
  obtain ⟨va', vb', rfl, huo, hui, hune⟩ := id hu3
  obtain ⟨ua, uc, rfl, -⟩ := own_slice huo
  obtain ⟨ub, ud, rfl, -⟩ := own_slice hui
  have e1 : (w3.alloc (.cells #[.int .i64 N, .slice ta L tc, .slice tb N td] 25)).heap.size = w3.heap.size + 1 := by simp
  have hal : Below w3.heap.size w3 ((w3.alloc (.cells #[.int .i64 N, .slice ta L tc, .slice tb N td] 25)).alloc (.cells #[.int .i64 N, .slice ua L uc, .slice ub N ud] 25)) := ((Below.refl _ _).alloc (Nat.le_refl _) _).alloc (by rw [e1]; omega) _
  have hM : MoreS w2 w2.heap.size w3.heap.size (TD.mk N L op N out) m (.slice ta L tc) (.slice tb N td) (.slice ub N ud) 0 (.slice ua L uc) ((w3.alloc (.cells #[.int .i64 N, .slice ta L tc, .slice tb N td] 25)).alloc (.cells #[.int .i64 N, .slice ua L uc, .slice ub N ud] 25)) := by
    have hq : Below (w3.heap.size + 1) (w3.alloc (.cells #[.int .i64 N, .slice ta L tc, .slice tb N td] 25)) ((w3.alloc (.cells #[.int .i64 N, .slice ta L tc, .slice tb N td] 25)).alloc (.cells #[.int .i64 N, .slice ua L uc, .slice ub N ud] 25)) := (Below.refl _ _).alloc (by rw [e1]; omega) _
    have hbu := Box3.new (N : Int) (.slice ua L uc) (.slice ub N ud) (w3.alloc (.cells #[.int .i64 N, .slice ta L tc, .slice tb N td] 25)) 25
    rw [e1] at hbu
    refine ⟨?_, ?_, ?_, ?_, ?_, fun b hb => ?_, fun b hb => ?_, by omega, ?_⟩
    · exact (Box3.new (N : Int) (.slice ta L tc) (.slice tb N td) w3 25).below (by rw [e1]; exact hq)
    · exact hbu
    · rw [← e1]; simp [go_sem]
    · show World.ownsRow _ _ _ _ _ (L + 0) (opsL (opM (TD.mk N L op N out) m) (L + 0))
      rw [opsL_congr (op := opM (TD.mk N L op N out) m) (op' := op) (L + 0) (fun i hi => by unfold opM; rw [if_pos (by simpa using hi)])]
      exact own_below huo hal
    · exact own_below hui hal
    · have := (huo.lt b hb).2
      exact ⟨by omega, by omega, hune b hb⟩
    · have := (hui.lt b hb).2
      exact ⟨by omega, by omega⟩
    · exact hb3.trans (hal.mono hs3)
  have hubP : ∀ b, (Value.slice ub N ud).ownBlock = some b → b < w3.heap.size := fun b hb => (hui.lt b hb).2
  have HM := Lib.hid hM
  have hX := hB2.trans (hM.w.mono (show B ≤ w2.heap.size by omega))
  clear hM hal huo hui hune hu3 hb3 e1
  go_wp2_with fail
  generalize hXe : (w3.alloc (.cells #[.int .i64 N, .slice ta L tc, .slice tb N td] 25)).alloc (.cells #[.int .i64 N, .slice ua L uc, .slice ub N ud] 25) = X at *
  generalize hPe : w3.heap.size = P at *
  refine (VL.out X hX).mono ?_
  rintro e w4 ⟨RX, cx, rfl, hox, hb4⟩
  have HM4 := Lib.hid (HM.out.below hb4)
  have hRP : P + 1 < RX := Nat.lt_of_lt_of_le HM.out.bu.2.2.2 hox.lt.1
  have hxr0 : (Value.slice ua L uc).ownBlock ≠ some RX := fun e => by
    have := (HM.out.own.lt RX e).2
    have := hox.lt.1
    omega
  have HXR := Lib.hid (hox.base (b' := B) (by have := hox.lt.1; have := hX.size; omega))
  have hX4 : w2.heap.size ≤ w4.heap.size := by have := hb4.size; have := HM.out.w.size; omega
  clear HM hox hb4 hX hXe hPe X MK VL hs3 w3
  have wr9 : IntKind.i64.wrap (m.tdiv 9) = m.tdiv 9 := IntWalk.i64_in _ (by
    have h9 := Int.natAbs_tdiv m 9
    have e9 : (9 : Int).natAbs = 9 := rfl
    rw [e9] at h9
    have : m.natAbs / 9 = m.natAbs.div 9 := rfl
    omega)
  have m1 := Int.emod_nonneg m (show (9 : Int) ≠ 0 by decide)
  have m2 := Int.emod_lt_of_pos m (show (0 : Int) < 9 by decide)
  obtain ⟨K, hK⟩ : ∃ K : Nat, (K : Int) = m % 9 := ⟨(m % 9).toNat, by omega⟩
  have hK8 : K ≤ 8 := by omega
  have W9 := Lib.hid (fun W => (within3_mod m 9 W (by decide) (by decide)).mono fun _ _ (h : _ = Ending.returned (.int .i64 (m % 9)) ∧ _) => (show _ = Ending.returned (.int .i64 (K : Int)) ∧ _ by rw [hK]; exact h))
  clear m1 m2 hK
  obtain ⟨iO, hO, o1, o2, o3⟩ := info_parts info55
  have HO := Lib.hid (show iO.zero = _ ∧ iO.size = _ ∧ iO.bytes = _ from ⟨o1, o2, o3⟩)
  have HO0 := Lib.hid hO
  clear hO o1 o2 o3
  go_wp2_with fail
  go_loopw [14] (fun i wr => ∃ (k : Nat) (uo : Option Addr) (ucap : Nat), k ≤ K ∧ i = .int .i64 k ∧ MoreS w2 w2.heap.size P (TD.mk N L op N out) m (.slice ta L tc) (.slice tb N td) (.slice ub N ud) k (.slice uo (L + k : Nat) ucap) wr ∧ OwnF wr B RX N cx (valV zs3) ∧ (Value.slice uo (L + k : Nat) ucap).ownBlock ≠ some RX) (fun i _ => K - (intOf i).toNat)
  case atStart => exact ⟨0, ua, uc, by omega, rfl, HM4.out, HXR.out, hxr0⟩
  case round =>
    obtain ⟨k, uo, ucap, hk, rfl, hm, hox, hxr⟩ := hrel
    have HMk := Lib.hid hm
    have HOX := Lib.hid hox
    clear hox HXR HM4 hxr0
    go_wp2_with fail
    refine (W9.out _).mono ?_
    rintro e w' ⟨rfl, rfl⟩
    by_cases hkK : k < K
    · have hkl : ((k : Int) < (K : Int)) := by omega
      obtain ⟨t1, t2, t3, t4⟩ := hm.bt
      obtain ⟨u1, u2, u3, u4⟩ := hm.bu
      have f1 := hm.fr
      have WA := Lib.hid fun W => within3_mod m ((L + k : Nat) : Int) W (by omega) (by omega)
      have WB := Lib.hid fun W => within3_mod (m.tdiv 9) ((L + k : Nat) : Int) W (by omega) (by omega)
      clear hm
      go_wp2_with fail
      refine wp_region_ordR [(0, 1), (1, 3), (2, 1), (3, 1), (4, 3), (5, 1), (7, 1), (8, 1), (9, 1), (10, 3), (11, 1), (6, 0), (12, 0), (13, 1), (14, 0), (15, 0), (16, 1), (17, 0)] (fun W => W.cell? ⟨P + 1, 1, none⟩ = some (.slice uo (L + k : Nat) ucap)) (by kernel_rfl) (by kernel_rfl) (fun _ _ d _ _ h => by cases d <;> exact h) (u2) ?_
      intro Z hZ hrZ
      have hbZ : Below wr.heap.size wr Z := by rw [hZ]; exact (Below.refl _ _).drew
      clear hZ
      iterate 1
        first
          | refine wpOrd_pure (fun K hK => ?_)
          | refine wpOrd_take (fun K hK => ?_)
        go_simp
        refine hK _ ?_
        clear hK K
      refine wpOrd_keep (v := .slice uo (L + k : Nat) ucap) rfl rfl (fun wk hwk => ?_) ?_
      · go_simp
      iterate 2
        first
          | refine wpOrd_pure (fun K hK => ?_)
          | refine wpOrd_take (fun K hK => ?_)
        go_simp
        refine hK _ ?_
        clear hK K
      refine wpOrd_keep (v := .slice uo (L + k : Nat) ucap) rfl rfl (fun wk hwk => ?_) ?_
      · go_simp
      iterate 4
        first
          | refine wpOrd_pure (fun K hK => ?_)
          | refine wpOrd_take (fun K hK => ?_)
        go_simp
        refine hK _ ?_
        clear hK K
      refine wpOrd_keep (v := .slice uo (L + k : Nat) ucap) rfl rfl (fun wk hwk => ?_) ?_
      · go_simp
      iterate 1
        first
          | refine wpOrd_pure (fun K hK => ?_)
          | refine wpOrd_take (fun K hK => ?_)
        go_simp
        refine hK _ ?_
        clear hK K
      refine wpOrd_doR (fun K hK => ?_)
      go_simp
      refine (WA.out _).mono ?_
      rintro e w' ⟨rfl, rfl⟩
      refine hK _ _ (fun h => Bool.noConfusion (Eq.trans (Eq.symm (by kernel_rfl : _ = false)) h)) (fun _ => hrZ) ?_
      clear hK K
      refine wpOrd_doR (fun K hK => ?_)
      go_simp
      refine (WB.out _).mono ?_
      rintro e w' ⟨rfl, rfl⟩
      refine hK _ _ (fun h => Bool.noConfusion (Eq.trans (Eq.symm (by kernel_rfl : _ = false)) h)) (fun _ => hrZ) ?_
      clear hK K
      iterate 1
        first
          | refine wpOrd_pure (fun K hK => ?_)
          | refine wpOrd_take (fun K hK => ?_)
        go_simp
        refine hK _ ?_
        clear hK K
      refine wpOrd_doR (fun K hK => ?_)
      go_simp
      have hal : Below Z.heap.size Z (Z.alloc (.cells #[.int .i64 4, .int .i64 (m % ((L : Int) + (k : Int))), .int .i64 (m.tdiv 9 % ((L : Int) + (k : Int))), .float .f64 0] 32)) := (Below.refl _ _).alloc (Nat.le_refl _) _
      have hbA := hbZ.trans (hal.mono hbZ.size)
      have hmA := HMk.out.below hbA
      refine hK _ _ (fun h => Bool.noConfusion (Eq.trans (Eq.symm (by kernel_rfl : _ = false)) h)) (fun _ => hmA.bu.2.1) ?_
      clear hK K
      have hsA : (Z.alloc (.cells #[.int .i64 4, .int .i64 (m % ((L : Int) + (k : Int))), .int .i64 (m.tdiv 9 % ((L : Int) + (k : Int))), .float .f64 0] 32)).heap.size = Z.heap.size + 1 := by simp
      have hsZ : w2.heap.size ≤ Z.heap.size := by have := hbZ.size; have := HMk.out.w.size; omega
      have hoe : opsL (opM (TD.mk N L op N out) m) (L + (k + 1)) = opsL (opM (TD.mk N L op N out) m) (L + k) ++ [.int .i64 4, .int .i64 (m % ((L : Int) + (k : Int))), .int .i64 (m.tdiv 9 % ((L : Int) + (k : Int))), .float .f64 0] := by
        show opsL _ (L + k + 1) = _
        rw [opsL]
        congr 1
        unfold opM cellsO
        rw [if_neg (by simp)]
        simp
      refine wpOrd_doR (fun K hK => ?_)
      refine doOp_of rfl ?_
      refine step_append_lies _ (by rfl) _ _ _ (by rfl) w2.heap.size 32 iO (.agg #[.int .i64 0, .int .i64 0, .int .i64 0, .float .f64 0]) 4 32 Try.underlying22 HO0.out HO.out.1 HO.out.2.1 HO.out.2.2 rfl (by decide) _ (L + k) (opsL (opM (TD.mk N L op N out) m) (L + k)) (by rfl) hmA.own ⟨Z.heap.size, 0, none⟩ 1 1 [.int .i64 4, .int .i64 (m % ((L : Int) + (k : Int))), .int .i64 (m.tdiv 9 % ((L : Int) + (k : Int))), .float .f64 0] (by rfl) (by rfl) (World.news_of_block (cs := #[.int .i64 4, .int .i64 (m % ((L : Int) + (k : Int))), .int .i64 (m.tdiv 9 % ((L : Int) + (k : Int))), .float .f64 0]) (t := 32) (fr := (0, 0)) (heap_alloc_new Z _)) (by simp [Value.oneCell']) (by omega) (by unfold maxLen; omega) (by omega) (by omega) (Z.heap.size + 1) hsA ?_
      intro gg cap1 wn hown1 hgrow hat hlt1
      rw [← hoe] at hown1
      have hm2 := hmA.app hgrow hown1 (by rw [hsA]; exact hat)
      have hoA := HOX.out.below hbA HOX.out.lt.2
      have hoW := (hoA.kept (hgrow.block RX (by have := HOX.out.lt.2; have := hbZ.size; omega) (fun e => hxr e.symm))).other (B := P + 1) (o := 1) (by omega) (.slice (some ⟨gg, 0, none⟩) (L + (k + 1)) cap1)
      have hxr2 : (Value.slice (some ⟨gg, 0, none⟩) (L + (k + 1)) cap1).ownBlock ≠ some RX := fun e => by
        simp only [Value.ownBlock, Option.some.injEq] at e
        rcases hat with q | q
        · exact hxr (by rw [q, e])
        · have := HOX.out.lt.2; have := hbZ.size; omega
      have z1 := (hgrow.block (P + 1) (by have := hmA.bu.2.2.2; omega) (fun e => (hmA.ne (P + 1) e.symm).2.1 rfl))
      have z2 := (World.cell?_of_block (a := ⟨P + 1, 1, none⟩) z1).trans hmA.bu.2.1
      have z3 := (World.frozen?_of_block (a := ⟨P + 1, 1, none⟩) z1).trans hmA.fr
      have HM2 := Lib.hid hm2
      have HOW := Lib.hid hoW
      clear hown1 hgrow hat hmA hm2 hoA hoW hoe hbA hal hbZ hrZ z1 u1 u2 u3 u4 t1 t2 t3 t4 f1 HMk HOX
      refine hK _ _ (fun h => Bool.noConfusion (Eq.trans (Eq.symm (by kernel_rfl : _ = false)) h)) (fun _ => z2) ?_
      clear hK K
      iterate 1
        first
          | refine wpOrd_pure (fun K hK => ?_)
          | refine wpOrd_take (fun K hK => ?_)
        go_simp
        refine hK _ ?_
        clear hK K
      refine wpOrd_doR (fun K hK => ?_)
      go_simp
      refine hK _ _ (fun h => Bool.noConfusion (Eq.trans (Eq.symm (by kernel_rfl : _ = false)) h)) (fun h => Bool.noConfusion (Eq.trans (Eq.symm (by kernel_rfl : _ = false)) h)) ?_
      clear hK K
      refine wpOrd_nil ?_
      clear z2 z3
      go_wp2_with fail
      go_roundw
      case rel => exact ⟨k + 1, _, _, by omega, by go_num, HM2.out, HOW.out, hxr2⟩
      case measure => simp [intOf]; omega
    · obtain rfl : k = K := by omega
      have hkl : ¬((k : Int) < (k : Int)) := by omega
      clear hm
      have hck : checkB (TD.mk N L op N out) = true := HT.out
      have hckU : checkB (moreT (TD.mk N L op N out) m k) = true := check_more m k hck (show 1 ≤ L by omega) (show L + k ≤ 60 by omega)
      have CKU := Lib.hid (fun W (hW : Below wr.heap.size wr W) => (check_tells (moreT (TD.mk N L op N out) m k) (.agg #[.int .i64 N, .slice uo (L + k : Nat) ucap, .slice ub N ud]) W (by
        have h := HMk.out.below hW
        exact ⟨_, _, rfl, ops_of_own h.own (show L + k ≤ _ by omega), ints_of_own h.ints (show N ≤ _ by omega)⟩)).mono fun _ _ h => h.eq (by rw [hckU]))
      have EVT := Lib.hid (fun W (hW : Below wr.heap.size wr W) => eval_tells (TD.mk N L op N out) (.agg #[.int .i64 N, .slice ta L tc, .slice tb N td]) (.slice (some ⟨RX, 0, none⟩) N cx) (valV zs3) W (HT2.out.below (HMk.out.below hW).w) hck (fun i _ => HTC.out i) N rfl ((HOX.out.below hW HOX.out.lt.2).flts (by omega)))
      have EVU := Lib.hid (fun W (hW : Below wr.heap.size wr W) => eval_tells (moreT (TD.mk N L op N out) m k) (.agg #[.int .i64 N, .slice uo (L + k : Nat) ucap, .slice ub N ud]) (.slice (some ⟨RX, 0, none⟩) N cx) (valV zs3) W (by
        have h := HMk.out.below hW
        exact ⟨_, _, rfl, ops_of_own h.own (show L + k ≤ _ by omega), ints_of_own h.ints (show N ≤ _ by omega)⟩) hckU (fun i _ => opM_c m HTC.out i) N rfl ((HOX.out.below hW HOX.out.lt.2).flts (by omega)))
      have EQ := Lib.hid (show ∀ i, i < N → evR (opM (TD.mk N L op N out) m) (valV zs3) (out i).toNat = evR op (valV zs3) (out i).toNat from fun i hi => by
        have hb := (check_parts hck).2.2 i hi
        unfold belowB at hb
        simp only [Bool.and_eq_true, decide_eq_true_eq] at hb
        exact evR_congr (L := L) (fun t ht => by unfold opM; rw [if_pos (show t < L from ht)]) (by omega))
      have HCK := Lib.hid hckU
      clear hck hckU
      go_wp2_with fail
      refine wp_region_ordR [(0, 3), (1, 0), (2, 1), (3, 1), (4, 3), (5, 1), (7, 3), (8, 1), (6, 0), (9, 0), (10, 0), (11, 1), (12, 1)] (fun W => Below wr.heap.size wr W) (by kernel_rfl) (by kernel_rfl) (fun _ _ d _ _ h => by cases d <;> exact h) ((Below.refl _ _).drew) ?_
      intro Z hZ hbZ
      clear hZ
      refine wpOrd_keep (v := .agg #[.int .i64 N, .slice uo (L + k : Nat) ucap, .slice ub N ud]) rfl rfl (fun wk hwk => ?_) ?_
      · obtain ⟨k1, k2, k3, k4⟩ := HMk.out.bu.below hwk
        go_simp
      refine wpOrd_doR (fun K hK => ?_)
      go_simp
      refine (CKU.out Z hbZ).mono ?_
      rintro e wa ⟨rfl, hba⟩
      have hbA := hbZ.trans (hba.mono hbZ.size)
      refine hK _ _ (fun h => Bool.noConfusion (Eq.trans (Eq.symm (by kernel_rfl : _ = false)) h)) (fun _ => hbA) ?_
      clear hK K
      iterate 2
        first
          | refine wpOrd_pure (fun K hK => ?_)
          | refine wpOrd_take (fun K hK => ?_)
        go_simp
        refine hK _ ?_
        clear hK K
      refine wpOrd_keep (v := .agg #[.int .i64 N, .slice ta L tc, .slice tb N td]) rfl rfl (fun wk hwk => ?_) ?_
      · obtain ⟨k1, k2, k3, k4⟩ := HMk.out.bt.below hwk
        go_simp
      iterate 1
        first
          | refine wpOrd_pure (fun K hK => ?_)
          | refine wpOrd_take (fun K hK => ?_)
        go_simp
        refine hK _ ?_
        clear hK K
      refine wpOrd_keep (v := .agg #[.int .i64 N, .slice uo (L + k : Nat) ucap, .slice ub N ud]) rfl rfl (fun wk hwk => ?_) ?_
      · obtain ⟨k1, k2, k3, k4⟩ := HMk.out.bu.below hwk
        go_simp
      iterate 1
        first
          | refine wpOrd_pure (fun K hK => ?_)
          | refine wpOrd_take (fun K hK => ?_)
        go_simp
        refine hK _ ?_
        clear hK K
      refine wpOrd_doR (fun K hK => ?_)
      go_simp
      refine (EVT.out wa hbA).mono ?_
      rintro e wb ⟨yt, rfl, hyt, hbb⟩
      have hbB := hbA.trans (hbb.mono hbA.size)
      refine hK _ _ (fun h => Bool.noConfusion (Eq.trans (Eq.symm (by kernel_rfl : _ = false)) h)) (fun _ => hbB) ?_
      clear hK K
      refine wpOrd_doR (fun K hK => ?_)
      go_simp
      refine (EVU.out wb hbB).mono ?_
      rintro e wc ⟨yu, rfl, hyu, hbc⟩
      have hbC := hbB.trans (hbc.mono hbB.size)
      refine hK _ _ (fun h => Bool.noConfusion (Eq.trans (Eq.symm (by kernel_rfl : _ = false)) h)) (fun _ => hbC) ?_
      clear hK K
      have hr1 : FRow wc yt N (fun i => evR op (valV zs3) (out i).toNat) := hyt.below hbc
      have hr2 : FRow wc yu N (fun i => evR (opM (TD.mk N L op N out) m) (valV zs3) (out i).toNat) := hyu
      refine wpOrd_doR (fun K hK => ?_)
      go_simp
      refine (rows_true _ _ N _ wc hr1 (hr2.congr EQ.out)).mono ?_
      rintro e we ⟨rfl, hbe⟩
      have hbE := hbC.trans (hbe.mono hbC.size)
      refine hK _ _ (fun h => Bool.noConfusion (Eq.trans (Eq.symm (by kernel_rfl : _ = false)) h)) (fun _ => hbE) ?_
      clear hK K
      iterate 2
        first
          | refine wpOrd_pure (fun K hK => ?_)
          | refine wpOrd_take (fun K hK => ?_)
        go_simp
        refine hK _ ?_
        clear hK K
      refine wpOrd_nil ?_
      have HM9 := Lib.hid (HMk.out.below hbE)
      have HO9 := Lib.hid (HOX.out.below hbE HOX.out.lt.2)
      clear hr1 hr2 hyt hyu hbZ hba hbA hbb hbB hbc hbC hbe hbE HMk HOX CKU EVT EVU EQ
      obtain ⟨q, hq⟩ : ∃ q : Nat, N = q + 1 := ⟨N - 1, by omega⟩
      have hqN : q < N := by omega
      have hN0 : 0 < N := by omega
      have wN : IntKind.i64.wrap ((N : Int) - 1) = (q : Int) := by rw [IntWalk.i64_in _ (by omega)]; omega
      have HQ := Lib.hid hq
      clear hq
      obtain ⟨u1, u2, u3, u4⟩ := HM9.out.bu
      obtain ⟨ub', ud', he, hcell⟩ := own_slice HM9.out.ints
      simp only [Value.slice.injEq] at he
      obtain ⟨rfl, -, rfl⟩ := he
      obtain ⟨g, rfl, hg, hc⟩ := hcell (show 0 < N by omega)
      have c0 := (hc 0 (show 0 < N * 1 by omega)).trans (intsL_get out (show 0 < N by omega))
      have cN := (hc q (show q < N * 1 by omega)).trans (intsL_get out hqN)
      have fz := HM9.out.ints.frozenAt 0
      clear hc hcell
      go_wp2_with fail
      refine wp_region_ord [(0, 1), (1, 2), (2, 1), (3, 2), (4, 1), (5, 2), (6, 1), (7, 1), (8, 2), (9, 1), (10, 0)] (by kernel_rfl) (by kernel_rfl) (fun _ _ d _ _ h => by cases d <;> exact h) ?_
      intro Z hZ
      have hz : ∀ b o, Z.cell? ⟨b, o, none⟩ = we.cell? ⟨b, o, none⟩ := fun b o => by rw [hZ]; rfl
      have hzf : ∀ b o, Z.frozen? ⟨b, o, none⟩ = we.frozen? ⟨b, o, none⟩ := fun b o => by rw [hZ]; rfl
      have hbZ : Below we.heap.size we Z := by rw [hZ]; exact (Below.refl _ _).drew
      rw [← hz] at u1 u3 c0 cN
      rw [← hzf] at fz
      have hMZ := HM9.out.below hbZ
      have hOZ := HO9.out.below hbZ HO9.out.lt.2
      clear hZ hz hzf hbZ u2
      iterate 10
        first
          | refine wpOrd_pure (fun K hK => ?_)
          | refine wpOrd_take (fun K hK => ?_)
        go_simp
        refine hK _ ?_
        clear hK K
      refine wpOrd_do (fun K hK => ?_)
      go_simp
      refine hK _ _ (fun h => Bool.noConfusion (Eq.trans (Eq.symm (by kernel_rfl : _ = false)) h)) ?_
      clear hK K
      refine wpOrd_nil ?_
      have hni := hMZ.ni g rfl
      have hgR : g ≠ RX := by have := hubP g rfl; omega
      have hW : Below w2.heap.size w2 (Z.setCell ⟨g, 0, none⟩ (.int .i64 (out q))) := hMZ.w.setCell (p := ⟨g, 0, none⟩) (hMZ.ints.lt g rfl).1 _
      have hB3 := box3_block (w' := Z.setCell ⟨g, 0, none⟩ (.int .i64 (out q))) hMZ.bu (Below.heap_setCell _ _ _ _ (fun e => hni.2 e.symm)) (by simp [World.setCell])
      have hOw := own_setN (D := g) (o := 0) (u := .int .i64 (out q)) hMZ.own (fun e => (hMZ.ne g e).2.2 rfl)
      have hIn : (Z.setCell ⟨g, 0, none⟩ (.int .i64 (out q))).ownsRow w2.heap.size 3 1 (.slice (some ⟨g, 0, none⟩) N ud) N (intsL (lastT (moreT (TD.mk N L op N out) m k)).out N) := by
        have h := (hMZ.ints.stored 0 (.int .i64 (out q))).1
        rw [intsL_set0] at h
        rw [show (lastT (moreT (TD.mk N L op N out) m k)).out = fun i => if i = 0 then out q else out i from by
          funext i
          show (if i = 0 then out (N - 1) else out i) = _
          rw [show N - 1 = q by have := HQ.out; omega]]
        exact h
      have hOX := hOZ.other (B := g) (o := 0) hgR (.int .i64 (out q))
      have HB3 := Lib.hid hB3
      have HTA := Lib.hid (show TapeAt (Z.setCell ⟨g, 0, none⟩ (.int .i64 (out q))) (.agg #[.int .i64 N, .slice uo (L + k : Nat) ucap, .slice (some ⟨g, 0, none⟩) N ud]) (lastT (moreT (TD.mk N L op N out) m k)) from
        ⟨_, _, rfl, ops_of_own hOw (show L + k ≤ _ by omega), ints_of_own hIn (show N ≤ _ by omega)⟩)
      have HOX := Lib.hid hOX
      have HW := Lib.hid hW
      clear hMZ hOZ hni hgR hW hB3 hOw hIn hOX HM9 HO9 u1 u3 u4 c0 cN fz hg
      generalize Z.setCell ⟨g, 0, none⟩ (.int .i64 (out q)) = W5 at *
      clear Z
      obtain ⟨u1, u2, u3, u4⟩ := HB3.out
      go_wp2_with fail
      refine (eval_tells (lastT (moreT (TD.mk N L op N out) m k)) _ (.slice (some ⟨RX, 0, none⟩) N cx) (valV zs3) W5 HTA.out (check_last HCK.out) (fun i _ => opM_c m HTC.out i) N rfl (HOX.out.flts (by omega))).mono ?_
      rintro e w6 ⟨yu, rfl, hyu, hb6⟩
      have HB6 := Lib.hid (HB3.out.below hb6)
      obtain ⟨ya, yc, rfl, -, hyr⟩ := (show FltsC w6 yu N (fun i => evR (opM (TD.mk N L op N out) m) (valV zs3) (if i = 0 then out (N - 1) else out i).toNat) from hyu)
      obtain ⟨yb, yo, rfl, hys, hyc⟩ := hyr hN0
      obtain ⟨y0, p1, p2, p3⟩ := hyc 0 hN0
      obtain ⟨yq, q1, q2, q3⟩ := hyc q hqN
      have hsame : canon y0 = canon yq := by
        rw [p2, q2]
        show evR _ _ (if 0 = 0 then out (N - 1) else out 0).toNat = evR _ _ (if q = 0 then out (N - 1) else out q).toNat
        rw [if_pos rfl, show N - 1 = q by have := HQ.out; omega]
        split <;> rfl
      have SM := Lib.hid (fun W => sameQ W (sameB_canon hsame))
      rw [Nat.add_zero] at p1
      have HW6 := Lib.hid (HW.out.trans (hb6.mono (by have := HW.out.size; omega)))
      clear u1 u2 u3 u4 hyr hyc p2 q2 hb6 HB3 HW HOX HTA
      obtain ⟨u1, u2, u3, u4⟩ := HB6.out
      have hnn : ((N : Int) == (N : Int)) = true := by simp
      go_wp2_with fail
      refine wp_region_ord [(0, 1), (1, 1), (2, 1), (3, 2), (4, 1), (5, 1), (6, 1), (7, 1), (8, 2), (9, 1), (10, 1), (11, 2), (12, 1), (13, 1), (14, 2), (15, 0), (16, 1), (17, 1)] (by kernel_rfl) (by kernel_rfl) (fun _ _ d _ _ h => by cases d <;> exact h) ?_
      intro Z hZ
      have hz : ∀ b o, Z.cell? ⟨b, o, none⟩ = w6.cell? ⟨b, o, none⟩ := fun b o => by rw [hZ]; rfl
      have HZ := Lib.hid (show Below w2.heap.size w2 Z by rw [hZ]; exact HW6.out.drew)
      rw [← hz] at u1 p1 q1
      clear hZ hz u2 u3
      iterate 15
        first
          | refine wpOrd_pure (fun K hK => ?_)
          | refine wpOrd_take (fun K hK => ?_)
        go_simp
        refine hK _ ?_
        clear hK K
      refine wpOrd_do (fun K hK => ?_)
      go_simp
      refine (SM.out Z).mono ?_
      rintro e w' ⟨rfl, rfl⟩
      refine hK _ _ (fun _ => ⟨0, rfl⟩) ?_
      clear hK K
      iterate 2
        first
          | refine wpOrd_pure (fun K hK => ?_)
          | refine wpOrd_take (fun K hK => ?_)
        go_simp
        refine hK _ ?_
        clear hK K
      refine wpOrd_nil ?_
      go_wp2_with fail
      go_ret
      exact ⟨rfl, hB2.trans (HZ.out.mono (by have := hB2.size; omega))⟩
end Go.Proofs.Yticbgaflhiokgaa
