/-
  Texts laid together.
-/
import Derived.Test.YtnlbafjmbamoeaaHi
import Derived.Test.YtnlbafjmbamoeaaReg
import Derived.Test.YtnlbafjmbamoeaaRgt
import Derived.Test.YtnlbafjmbamoeaaJk
import Derived.IntWalk
import Derived.Deep.CutBlock
import Derived.OwnWalk
import Derived.Test.YtnlbafjmbamoeaaTpn
import Derived.Laws.Rows
import Derived.Deep.AppendLies
/-
  The methods' numbers: fractions in lowest terms, walked.
-/
namespace Go.Proofs.Ytnlbafjmbamoeaa
open Go.RowKit
open Ieee (double)
attribute [local go_sem] alloc_drewN setCell_drewN takeOp pureOp readsUpon doOp

/-- What may be turned about. -/
def Sml (x : Int) : Prop := -4611686018427387904 ≤ x ∧ x ≤ 4611686018427387904
theorem tmod_nat (p q : Nat) : (p : Int).tmod (q : Int) = ((p % q : Nat) : Int) := by
  rw [Int.tmod_eq_emod_of_nonneg (by omega)]; rfl
set_option maxRecDepth 100000 in
theorem cfgcd_tells (a : Int) (b : Nat) (ha : Sml a) (hb : b ≤ 4611686018427387904) (w : World) :
    Calls Try.prog 73 #[.int .i64 a, .int .i64 b] w fun e w' => e = .returned (.int .i64 (Nat.gcd a.natAbs b : Nat)) ∧ Drawn w w' := by
  unfold Sml at ha
  go_enter Try.func73, Try.ntmps73
  go_upto_if 6 with fail
  go_cut [0] (fun v wx => v = .int .i64 (a.natAbs : Nat) ∧ wx = w)
  case first =>
    by_cases h : a < 0
    · have k1 : IntKind.i64.wrap (-a) = -a := IntWalk.i64_in _ (by omega)
      go_wp2_with fail
      go_meet
      exact ⟨by rw [show ((a.natAbs : Nat) : Int) = -a by omega], rfl⟩
    · have h2 : 0 ≤ a := by omega
      go_wp2_with fail
      go_meet
      exact ⟨by rw [show ((a.natAbs : Nat) : Int) = a by omega], rfl⟩
  case rest =>
    obtain ⟨rfl, rfl⟩ := hcut
    have hA : a.natAbs ≤ 4611686018427387904 := by omega
    obtain ⟨c, hc⟩ : ∃ c, a.natAbs = c := ⟨_, rfl⟩
    have HC := Lib.hid hc
    simp only [hc] at hA ⊢
    clear hc
    go_wp2_with fail
    go_loopw [0, 1] (fun x y wr => ∃ p q : Nat, x = .int .i64 p ∧ y = .int .i64 q ∧ p ≤ 4611686018427387904 ∧ q ≤ 4611686018427387904 ∧ Nat.gcd p q = Nat.gcd c b ∧ Drawn wc wr) (fun _ y _ => (intOf y).toNat)
    case atStart => exact ⟨c, b, rfl, rfl, hA, hb, rfl, 0, rfl⟩
    case round =>
      obtain ⟨p, q, rfl, rfl, p2, q2, hg, hd⟩ := hrel
      have HD := Lib.hid hd
      clear hd
      by_cases h0 : q = 0
      · subst h0
        go_wp2_with fail
        go_ret
        refine ⟨?_, HD.out⟩
        rw [HC.out, ← hg, Nat.gcd_zero_right]
        rfl
      · have t1 := tmod_nat p q
        have t2 : p % q < q := Nat.mod_lt _ (by omega)
        have h1 : ¬ (q : Int) = 0 := by omega
        have h2 : ((q : Int) != 0) = true := by simpa using h1
        have HGn := Lib.hid (show Nat.gcd q (p % q) = Nat.gcd c b by rw [← hg, Nat.gcd_comm p q, Nat.gcd_rec q p, Nat.gcd_comm])
        have k1 : IntKind.i64.wrap ((p % q : Nat) : Int) = ((p % q : Nat) : Int) := IntWalk.i64_in _ (by omega)
        clear hg
        go_wp2_with fail
        refine wp_region_ord [(0, 1), (1, 1), (2, 1), (3, 1), (4, 1), (5, 1)] (by kernel_rfl) (by kernel_rfl) (fun _ _ d _ _ h => by cases d <;> exact h) ?_
        intro Z hZ
        have HZ := Lib.hid (show Drawn wc Z by rw [hZ]; exact HD.out.more 1)
        clear hZ HD
        iterate 6
          first
            | refine wpOrd_pure (fun K hK => ?_)
            | refine wpOrd_take (fun K hK => ?_)
          go_simp
          refine hK _ ?_
          clear hK K
        refine wpOrd_nil ?_
        go_wp2_with fail
        go_roundw
        case rel => exact ⟨q, p % q, rfl, by go_num, by omega, by omega, HGn.out, HZ.out⟩
        case measure => simp [intOf]; omega
/-- A fraction, in lowest terms: its numbers. -/
def lowN (n d : Int) : Int := if n = 0 then 0 else (if d < 0 then -n else n).tdiv (Nat.gcd n.natAbs d.natAbs : Nat)
def lowD (n d : Int) : Int := if n = 0 then 1 else (if d < 0 then -d else d).tdiv (Nat.gcd n.natAbs d.natAbs : Nat)
theorem tdiv_rng {x : Int} (g : Nat) (h : Sml x) : IntKind.i64.wrap (x.tdiv (g : Int)) = x.tdiv (g : Int) := by
  refine IntWalk.i64_in _ ?_
  unfold Sml at h
  have h1 : (x.tdiv (g : Int)).natAbs ≤ x.natAbs := by
    rw [Int.natAbs_tdiv]
    exact Nat.div_le_self _ _
  omega
set_option maxRecDepth 100000 in
theorem cflow_tells (n d : Int) (hn : Sml n) (hd : Sml d) (h0 : d ≠ 0) (w : World) :
    Calls Try.prog 59 #[.int .i64 n, .int .i64 d] w fun e w' => e = .returned (.tuple #[.int .i64 (lowN n d), .int .i64 (lowD n d)]) ∧ Drawn w w' := by
  go_enter Try.func59, Try.ntmps59
  go_upto_if 8 with fail
  go_cut [0, 1] (fun u v wx => u = .int .i64 (if d < 0 then -n else n) ∧ v = .int .i64 (d.natAbs : Nat) ∧ wx = w)
  case first =>
    unfold Sml at hn hd
    by_cases h : d < 0
    · have k1 : IntKind.i64.wrap (-d) = -d := IntWalk.i64_in _ (by omega)
      have k2 : IntKind.i64.wrap (-n) = -n := IntWalk.i64_in _ (by omega)
      go_wp2_with fail
      go_meet
      exact ⟨by rw [if_pos h], by rw [show ((d.natAbs : Nat) : Int) = -d by omega], rfl⟩
    · have h2 : 0 ≤ d := by omega
      go_wp2_with fail
      go_meet
      exact ⟨by rw [if_neg (by omega)], by rw [show ((d.natAbs : Nat) : Int) = d by omega], rfl⟩
  case rest =>
    obtain ⟨rfl, rfl, rfl⟩ := hcut
    by_cases hz : n = 0
    · subst hz
      have e0 : (if d < 0 then -(0 : Int) else 0) = 0 := by split <;> rfl
      rw [e0]
      go_wp2_with fail
      exact bodyPost_ret (v := .tuple #[.int .i64 0, .int .i64 1]) (by simp [results, Try.results59, go_sem]) rfl ⟨rfl, 0, rfl⟩
    · obtain ⟨x, hx⟩ : ∃ x, (if d < 0 then -n else n) = x := ⟨_, rfl⟩
      have hx0 : x ≠ 0 := by rw [← hx]; split <;> omega
      have hxs : Sml x := by unfold Sml at hn ⊢; rw [← hx]; split <;> omega
      have hxa : x.natAbs = n.natAbs := by rw [← hx]; split <;> omega
      have q1 : (x == 0) = false := by simpa using hx0
      have GC := Lib.hid (fun W => cfgcd_tells x d.natAbs hxs (by unfold Sml at hd; omega) W)
      have HL := Lib.hid (show lowN n d = x.tdiv (Nat.gcd x.natAbs d.natAbs : Nat) ∧ lowD n d = (d.natAbs : Int).tdiv (Nat.gcd x.natAbs d.natAbs : Nat) by
        unfold lowN lowD
        rw [if_neg hz, if_neg hz, hx, hxa]
        refine ⟨rfl, ?_⟩
        congr 1
        split <;> omega)
      have hgp : 0 < Nat.gcd x.natAbs d.natAbs := Nat.gcd_pos_of_pos_right _ (by omega)
      have k1 := tdiv_rng (Nat.gcd x.natAbs d.natAbs) hxs
      have k2 := tdiv_rng (x := (d.natAbs : Int)) (Nat.gcd x.natAbs d.natAbs) (by unfold Sml at hd ⊢; omega)
      rw [Int.tdiv_eq_ediv_of_nonneg (by omega)] at k2
      simp only [hx]
      clear hx hx0 hxs hxa hn hd h0 hz
      generalize Nat.gcd x.natAbs d.natAbs = g at *
      have g1 : ¬ (g : Int) < 0 := by omega
      have g2 : ¬ g = 0 := by omega
      go_wp2_with fail
      refine (GC.out _).mono ?_
      rintro e w2 ⟨rfl, hd⟩
      have HD := Lib.hid hd
      clear hd
      go_wp2_with fail
      refine wp_region_ord [(0, 1), (1, 1), (2, 1), (3, 1), (4, 1), (5, 1), (6, 1), (7, 1)] (by kernel_rfl) (by kernel_rfl) (fun _ _ d _ _ h => by cases d <;> exact h) ?_
      intro Z hZ
      have HZ := Lib.hid (show Drawn wc Z by rw [hZ]; exact HD.out.more 1)
      clear hZ HD
      iterate 8
        first
          | refine wpOrd_pure (fun K hK => ?_)
          | refine wpOrd_take (fun K hK => ?_)
        go_simp
        refine hK _ ?_
        clear hK K
      refine wpOrd_nil ?_
      go_wp2_with fail
      refine bodyPost_ret (v := .tuple #[.int .i64 (x.tdiv g), .int .i64 ((d.natAbs : Int) / g)]) (by simp [results, Try.results59, go_sem]) rfl ⟨?_, HZ.out⟩
      rw [HL.out.1, HL.out.2, Int.tdiv_eq_ediv_of_nonneg (a := (d.natAbs : Int)) (by omega)]
end Go.Proofs.Ytnlbafjmbamoeaa
/-
  The methods' numbers: products of s + 1, s + 2 .., walked.
-/
namespace Go.Proofs.Ytnlbafjmbamoeaa
open Go.RowKit
open Ieee (double)
attribute [local go_sem] alloc_drewN setCell_drewN takeOp pureOp readsUpon doOp

/-- What (s + 1) .. (s + i) has at the power j. -/
def pwF : Nat → Nat → Int
  | 0, j => if j = 0 then 1 else 0
  | i + 1, j => (if j = 0 then 0 else pwF i (j - 1)) + ((i : Int) + 1) * pwF i j
theorem pwF_zero : ∀ (i j : Nat), i < j → pwF i j = 0
  | 0, j, h => by unfold pwF; rw [if_neg (by omega)]
  | i + 1, j, h => by
    unfold pwF
    rw [pwF_zero i j (by omega), Int.mul_zero]
    split
    · omega
    · rw [pwF_zero i (j - 1) (by omega)]; rfl
theorem pwF_small : ∀ (i : Fin 7) (j : Fin 9), 0 ≤ pwF i.val j.val ∧ pwF i.val j.val ≤ 10000 := by decide +kernel
theorem pwF_bd {i j : Nat} (hi : i < 7) (hj : j < 9) : 0 ≤ pwF i j ∧ pwF i j ≤ 10000 := pwF_small ⟨i, hi⟩ ⟨j, hj⟩
theorem own_one (w : World) (x : Int) : OwnI (w.alloc (.cells #[.int .i64 x] 3)) w.heap.size w.heap.size 1 1 (fun _ => x) :=
  ⟨[.int .i64 x], ⟨rfl, .inr ⟨w.heap.size, 1, #[.int .i64 x], rfl, Nat.le_refl _, heap_alloc_new w _, Nat.le_refl _, by decide, rfl, rfl⟩⟩, fun j hj => match j, hj with | 0, _ => rfl⟩
theorem mul_bd {a b c : Int} (h1 : 0 ≤ a) (h2 : a ≤ b) (h3 : 0 ≤ c) (h4 : c ≤ 10000) (hb : b ≤ 10) : 0 ≤ a * c ∧ a * c ≤ 100000 := by
  constructor
  · exact Int.mul_nonneg h1 h3
  · have := Int.mul_le_mul (show a ≤ 10 by omega) h4 h3 (by decide)
    omega
/-- The row on the way, j powers told. -/
def pwQ (i j m : Nat) : Int := if m < j then pwF (i + 1) m else if m = j then (if j = 0 then 0 else pwF i (j - 1)) else 0
theorem pwF_top : ∀ i : Nat, pwF i i = 1
  | 0 => rfl
  | i + 1 => by
    unfold pwF
    rw [if_neg (by omega), show i + 1 - 1 = i by omega, pwF_top i, pwF_zero i (i + 1) (by omega), Int.mul_zero]; rfl
theorem pwF_end (e : Nat) : pwF (e + 1) (e + 1) = pwF e e := by rw [pwF_top, pwF_top]
theorem pwQ_step (e j i : Nat) : updN (updN (pwQ e j) j (pwF (e + 1) j)) (j + 1) (pwF e j) i = pwQ e (j + 1) i := by
  by_cases h1 : i = j + 1
  · subst h1
    rw [updN_at]
    unfold pwQ
    rw [if_neg (by omega), if_pos rfl, if_neg (by omega)]; rfl
  · rw [updN_ne _ _ h1]
    by_cases h2 : i = j
    · subst h2
      rw [updN_at]
      unfold pwQ
      rw [if_pos (by omega)]
    · rw [updN_ne _ _ h2]
      unfold pwQ
      by_cases h3 : i < j
      · rw [if_pos h3, if_pos (by omega)]
      · rw [if_neg h3, if_neg h2, if_neg (by omega), if_neg h1]
set_option maxRecDepth 100000 in
set_option maxHeartbeats 1000000 in
theorem cfrproduct_tells (k : Nat) (hk : k ≤ 5) (w : World) :
    Calls Try.prog 58 #[.int .i64 k] w fun e w' => ∃ R c, e = .returned (.slice (some ⟨R, 0, none⟩) (k + 1) c) ∧ OwnI w' w.heap.size R (k + 1) c (pwF k) ∧ Below w.heap.size w w' := by
  obtain ⟨iI, hI, g1, g2, g3⟩ := info_parts infoI
  have HI := Lib.hid (show iI.zero = _ ∧ iI.size = _ ∧ iI.bytes = _ from ⟨g1, g2, g3⟩)
  have HI0 := Lib.hid hI
  clear hI g1 g2 g3
  go_enter Try.func58, Try.ntmps58
  go_upto_block 0 with fail
  have hO := own_one w 1
  have hbA := (Below.refl w.heap.size w).alloc (Nat.le_refl _) (.cells #[.int .i64 1] 3)
  generalize w.alloc (.cells #[.int .i64 1] 3) = X at *
  generalize hB : w.heap.size = B at *
  have HO := Lib.hid (hO.congr (g := pwF 0) (fun j hj => by obtain rfl : j = 0 := by omega
                                                            rfl))
  have HB0 := Lib.hid hbA
  clear hO hbA
  go_wp2_with fail
  go_loopw [3, 4] (fun p i wr => ∃ (e R c : Nat), e ≤ k ∧ i = .int .i64 ((e + 1 : Nat) : Int) ∧ p = .slice (some ⟨R, 0, none⟩) (e + 1) c ∧ OwnI wr B R (e + 1) c (pwF e) ∧ Below B w wr) (fun _ i _ => k + 1 - (intOf i).toNat)
  case atStart => exact ⟨0, _, _, by omega, rfl, rfl, HO.out, HB0.out⟩
  case round =>
    clear HO HB0
    obtain ⟨e, R, c, he, rfl, rfl, ho, hb⟩ := hrel
    have HO := Lib.hid ho
    have HB1 := Lib.hid hb
    have hsz : B ≤ wr.heap.size := by have := hb.size; omega
    clear ho hb
    by_cases hek : e < k
    · have h1 : ((e + 1 : Nat) : Int) ≤ (k : Int) := by omega
      have k1 : IntKind.i64.wrap (((e + 1 : Nat) : Int) + 1) = ((e + 2 : Nat) : Int) := IntWalk.i64_in _ (by omega)
      go_wp2_with (first
        | (refine wpList_make_full _ rfl _ _ _ rfl wr.heap.size 3 iI (.int .i64 0) 1 Try.underlying22 HI0.out HI.out.1 HI.out.2.1 .i64 .i64 ((e + 2 : Nat) : Int) ((e + 2 : Nat) : Int) (e + 2) rfl rfl rfl rfl (by rw [HI.out.2.2]; omega) (by unfold maxLen; omega) (by omega) ?_)
        | fail)
      intro W1 hr1 hg1
      have hb1 : Below wr.heap.size wr W1 := (Below.refl _ _).grown hg1 (by omega) (fun k hk => by cases hk)
      have hq1 := ownI_made hr1
      have hq2 := (hq1.lt).2
      have HQ1 := Lib.hid (hq1.congr (g := pwQ e 0) (fun j hj => by
        unfold pwQ
        rw [if_neg (by omega)]
        split
        · rw [if_pos rfl]
        · rfl))
      have hR := HO.out.lt
      have HO1 := Lib.hid (HO.out.below hb1 hR.2)
      have HB2 := Lib.hid (HB1.out.trans (hb1.mono hsz))
      clear hr1 hg1 hq1
      generalize hQ : wr.heap.size = Q at *
      go_wp2_with fail
      go_loopw [6] (fun i w2 => ∃ j : Nat, j ≤ e + 1 ∧ i = .int .i64 j ∧ OwnI w2 Q Q (e + 2) (e + 2) (pwQ e j) ∧ Keep W1 Q w2) (fun i _ => e + 1 - (intOf i).toNat)
      case atStart => exact ⟨0, by omega, rfl, HQ1.out, Keep.refl _ _⟩
      case round =>
        clear HQ1
        obtain ⟨j, hj, rfl, hq, hkp⟩ := hrel
        have HQ1 := Lib.hid hq
        have HKP := Lib.hid hkp
        have HP := Lib.hid (HO1.out.kept (hkp.block R (by omega) (by omega)))
        clear hq hkp
        rename World => W2
        by_cases hje : j < e + 1
        · have j1 : (j : Int) < (e : Int) + 1 := by omega
          have j2 : (j : Int) < (e : Int) + 2 := by omega
          have j3 : (j : Int) + 1 < (e : Int) + 2 := by omega
          have j4 : 0 ≤ (j : Int) + 1 := by omega
          have u1 := HQ1.out.cell (j := j) (by omega)
          have u2 := HP.out.cell hje
          have f1 := HQ1.out.free j
          have hx1 : pwQ e j j = if j = 0 then 0 else pwF e (j - 1) := by unfold pwQ; rw [if_neg (by omega), if_pos rfl]
          have hx2 := pwF_bd (i := e) (j := j) (by omega) (by omega)
          have hx3 : 0 ≤ pwQ e j j ∧ pwQ e j j ≤ 10000 := by
            rw [hx1]; split
            · decide
            · exact pwF_bd (by omega) (by omega)
          have hm := mul_bd (a := (e : Int) + 1) (b := 10) (c := pwF e j) (by omega) (by omega) hx2.1 hx2.2 (by omega)
          have k2 : IntKind.i64.wrap (((e : Int) + 1) * pwF e j) = ((e : Int) + 1) * pwF e j := IntWalk.i64_in _ (by omega)
          have k3 : IntKind.i64.wrap (pwQ e j j + ((e : Int) + 1) * pwF e j) = pwQ e j j + ((e : Int) + 1) * pwF e j := IntWalk.i64_in _ (by omega)
          have HN := Lib.hid (show pwQ e j j + ((e : Int) + 1) * pwF e j = pwF (e + 1) j by rw [hx1]; rfl)
          have u3 := HQ1.out.cell (j := j + 1) (by omega)
          have hx4 : pwQ e j (j + 1) = 0 := by unfold pwQ; rw [if_neg (by omega), if_neg (by omega)]
          rw [hx4] at u3
          generalize pwQ e j j = x at *
          clear hx1 hx3 hm hx4
          go_upto_region 9 with fail
          refine wp_region_ord [(0, 1), (1, 1), (2, 1), (3, 1), (4, 1), (5, 2), (6, 1), (7, 1), (8, 1), (9, 1), (10, 2), (11, 1), (12, 1), (13, 1), (14, 0)] (by kernel_rfl) (by kernel_rfl) (fun _ _ d _ _ h => by cases d <;> exact h) ?_
          intro Z hZ
          have hZZ : ∀ b o, Z.cell? ⟨b, o, none⟩ = W2.cell? ⟨b, o, none⟩ := fun b o => by rw [hZ]; rfl
          have hzf : ∀ b o, Z.frozen? ⟨b, o, none⟩ = W2.frozen? ⟨b, o, none⟩ := fun b o => by rw [hZ]; rfl
          have HQZ := Lib.hid (show OwnI Z Q Q (e + 2) (e + 2) (pwQ e j) ∧ Keep W1 Q Z by rw [hZ]; exact ⟨HQ1.out.drew, HKP.out.drew⟩)
          rw [← hZZ] at u1 u2 u3
          rw [← hzf] at f1
          clear hZ hZZ hzf HQ1 HKP
          iterate 14
            first
              | refine wpOrd_pure (fun K hK => ?_)
              | refine wpOrd_take (fun K hK => ?_)
            go_simp
            refine hK _ ?_
            clear hK K
          refine wpOrd_do (fun K hK => ?_)
          go_simp
          refine hK _ _ (fun h => Bool.noConfusion (Eq.trans (Eq.symm (by kernel_rfl : _ = false)) h)) ?_
          clear hK K
          have u4 := (HQZ.out.1.set (j := j) (by omega) (x + ((e : Int) + 1) * pwF e j)).cell (j := j + 1) (by omega)
          rw [updN_ne _ _ (by omega)] at u4
          have hx4 : pwQ e j (j + 1) = 0 := by unfold pwQ; rw [if_neg (by omega), if_neg (by omega)]
          rw [hx4] at u4
          have u5 := ((HQZ.out.2.set (o := j) (.int .i64 (x + ((e : Int) + 1) * pwF e j))).cell (b := R) (by omega) (by omega) j).trans (HO1.out.cell hje)
          have f5 := (HQZ.out.1.set (j := j) (by omega) (x + ((e : Int) + 1) * pwF e j)).free (j + 1)
          have HQY := Lib.hid (show OwnI (Z.setCell ⟨Q, j, none⟩ (.int .i64 (x + ((e : Int) + 1) * pwF e j))) Q Q (e + 2) (e + 2) _ ∧ Keep W1 Q (Z.setCell ⟨Q, j, none⟩ (.int .i64 (x + ((e : Int) + 1) * pwF e j))) from ⟨HQZ.out.1.set (by omega) _, HQZ.out.2.set _ _⟩)
          refine wpOrd_nil ?_
          generalize Z.setCell ⟨Q, j, none⟩ (.int .i64 (x + ((e : Int) + 1) * pwF e j)) = Y at *
          have k4 : IntKind.i64.wrap ((j : Int) + 1) = ((j + 1 : Nat) : Int) := IntWalk.i64_in _ (by omega)
          have k5 : IntKind.i64.wrap (pwF e j) = pwF e j := IntWalk.i64_in _ (by omega)
          clear u1 u2 u3 f1 HQZ k2 k3 hx4 HP
          go_upto_region 10 with fail
          refine wp_region_ord [(0, 1), (1, 1), (2, 1), (3, 1), (4, 1), (5, 1), (6, 1), (7, 2), (8, 1), (9, 1), (10, 1), (11, 2), (12, 1), (13, 1), (14, 0)] (by kernel_rfl) (by kernel_rfl) (fun _ _ d _ _ h => by cases d <;> exact h) ?_
          intro Z2 hZ
          have hZZ : ∀ b o, Z2.cell? ⟨b, o, none⟩ = Y.cell? ⟨b, o, none⟩ := fun b o => by rw [hZ]; rfl
          have hzf : ∀ b o, Z2.frozen? ⟨b, o, none⟩ = Y.frozen? ⟨b, o, none⟩ := fun b o => by rw [hZ]; rfl
          have HQZ := Lib.hid (show OwnI Z2 Q Q (e + 2) (e + 2) _ ∧ Keep W1 Q Z2 by rw [hZ]; exact ⟨HQY.out.1.drew, HQY.out.2.drew⟩)
          rw [← hZZ] at u4 u5
          rw [← hzf] at f5
          clear hZ hZZ hzf HQY
          iterate 14
            first
              | refine wpOrd_pure (fun K hK => ?_)
              | refine wpOrd_take (fun K hK => ?_)
            go_simp
            refine hK _ ?_
            clear hK K
          refine wpOrd_do (fun K hK => ?_)
          go_simp
          refine hK _ _ (fun h => Bool.noConfusion (Eq.trans (Eq.symm (by kernel_rfl : _ = false)) h)) ?_
          clear hK K
          have HQW := Lib.hid (show OwnI (Z2.setCell ⟨Q, j + 1, none⟩ (.int .i64 (pwF e j))) Q Q (e + 2) (e + 2) (pwQ e (j + 1)) ∧ Keep W1 Q (Z2.setCell ⟨Q, j + 1, none⟩ (.int .i64 (pwF e j))) from ⟨(HQZ.out.1.set (by omega) _).congr (fun i hi => by
            rw [show x + ((e : Int) + 1) * pwF e j = pwF (e + 1) j from HN.out]
            exact pwQ_step e j i), HQZ.out.2.set _ _⟩)
          refine wpOrd_nil ?_
          generalize Z2.setCell ⟨Q, j + 1, none⟩ (.int .i64 (pwF e j)) = Y2 at *
          clear u4 u5 f5 HQZ k4 k5
          go_wp2_with fail
          go_roundw
          case rel => exact ⟨j + 1, by omega, by go_num, HQW.out⟩
          case measure => simp [intOf]; omega
        · obtain rfl : j = e + 1 := by omega
          have HQF := Lib.hid (HQ1.out.congr (g := pwF (e + 1)) (fun i hi => by
            unfold pwQ
            by_cases h : i < e + 1
            · rw [if_pos h]
            · rw [if_neg h, if_pos (by omega), if_neg (by omega), show i = e + 1 by omega, pwF_end]
              rfl))
          have HBF := Lib.hid (HKP.out.below HB2.out (show B ≤ Q by omega) (by omega))
          have j1 : ¬ ((e + 1 : Nat) : Int) < (e : Int) + 1 := by omega
          clear HQ1 HP
          go_wp2_with fail
          go_roundw
          case rel => exact ⟨e + 1, Q, e + 2, by omega, by go_num, rfl, HQF.out.base (by omega), HBF.out⟩
          case measure => simp [intOf]; omega
    · obtain rfl : e = k := by omega
      have h1 : ¬ ((e + 1 : Nat) : Int) ≤ (e : Int) := by omega
      go_wp2_with fail
      go_ret
      exact ⟨R, c, rfl, hB ▸ HO.out, hB ▸ HB1.out⟩
end Go.Proofs.Ytnlbafjmbamoeaa
/-
  The methods' numbers: products, and what divides, as the program tells them: walked.
-/
namespace Go.Proofs.Ytnlbafjmbamoeaa
open Go.RowKit
open Ieee (double)
attribute [local go_sem] alloc_drewN setCell_drewN takeOp pureOp readsUpon doOp

/-- The row on the way, from the top down to k. -/
def pwD (i k m : Nat) : Int := if k < m then pwF (i + 1) m else pwF i m
theorem pwD_step (i k m : Nat) (hk : 0 < k) : updN (pwD i k) k (pwF i (k - 1) + ((i : Int) + 1) * pwF i k) m = pwD i (k - 1) m := by
  by_cases h : m = k
  · subst h
    rw [updN_at]
    unfold pwD
    rw [if_pos (by omega)]
    show _ = (if m = 0 then 0 else pwF i (m - 1)) + ((i : Int) + 1) * pwF i m
    rw [if_neg (by omega)]
  · rw [updN_ne _ _ h]
    unfold pwD
    by_cases h2 : k < m
    · rw [if_pos h2, if_pos (by omega)]
    · rw [if_neg h2, if_neg (by omega)]
end Go.Proofs.Ytnlbafjmbamoeaa
/-
  The methods' numbers, as the program tells them: walked.
-/
namespace Go.Proofs.Ytnlbafjmbamoeaa
open Go.RowKit
open Ieee (double)
attribute [local go_sem] alloc_drewN setCell_drewN takeOp pureOp readsUpon doOp

/-- Signs by turns. -/
def sgF : Nat → Int
  | 0 => 1
  | e + 1 => -sgF e
theorem sgF_bd : ∀ e, sgF e = 1 ∨ sgF e = -1
  | 0 => .inl rfl
  | e + 1 => by
    rcases sgF_bd e with h | h
    · exact .inr (by show -sgF e = -1; rw [h])
    · exact .inl (by show -sgF e = 1; rw [h]; rfl)
/-- Adams: a number of a power above 0, by all; what they are together, by signs; the row on the way. -/
def aLF (q e : Nat) : Int := pwF (q - 1) e * (pwF q 0).tdiv ((e : Int) + 1)
def aSF (q : Nat) : Nat → Int
  | 0 => 0
  | e + 1 => aSF q e + sgF e * aLF q e
def aMF (q e j : Nat) : Int := if j = 0 then aSF q e else if j ≤ e then aLF q (j - 1) else 0
def aDen (q : Nat) : Int := pwF q 0 * pwF (q - 1) 0
theorem aF_small : ∀ (q : Fin 6) (e : Fin 6), (-100000000 ≤ aLF q.val e.val ∧ aLF q.val e.val ≤ 100000000) ∧ (-100000000 ≤ aSF q.val e.val ∧ aSF q.val e.val ≤ 100000000) ∧ (-100000000 ≤ (pwF q.val 0).tdiv ((e.val : Int) + 1) ∧ (pwF q.val 0).tdiv ((e.val : Int) + 1) ≤ 100000000) ∧ -100000000 ≤ aDen q.val ∧ aDen q.val ≤ 100000000 ∧ (-100000000 ≤ sgF e.val * aLF q.val e.val ∧ sgF e.val * aLF q.val e.val ≤ 100000000) := by decide +kernel
end Go.Proofs.Ytnlbafjmbamoeaa
/-
  The methods' numbers in lowest terms, as the program tells them: walked.
-/
namespace Go.Proofs.Ytnlbafjmbamoeaa
open Go.RowKit
open Ieee (double)
attribute [local go_sem] alloc_drewN setCell_drewN takeOp pureOp readsUpon doOp

theorem heap_put_c {w : World} {b o : Nat} {cs : Array Value} {t : TypeId} {fr : Nat × Nat} (h : w.heap[b]? = some (.cells cs t fr)) (v : Value) : (w.setCell ⟨b, o, none⟩ v).heap[b]? = some (.cells (cs.setIfInBounds o v) t fr) := by
  simp only [World.setCell, Array.getElem?_modify, if_true, h]
  rfl
theorem rowOK_c {w : World} {g : Nat} {old : Array Value} {t : TypeId} (hg : w.heap[g]? = some (.cells old t (0, 0))) (cells : Array Value) : Keep w g (w.setRow g cells) ∧ (w.setRow g cells).heap[g]? = some (.cells cells t (0, 0)) ∧ (w.setRow g cells).heap.size = w.heap.size :=
  ⟨⟨⟨rfl, rfl, rfl, by simp, fun k hk => absurd hk (Nat.not_lt_zero k)⟩, fun k _ hn => setRow_other w g k cells hn⟩, setRow_heap w g old cells t _ hg, setRow_size w g cells⟩
def aggD_c : TypeDesc → Bool
  | .struct _ => true
  | .array _ _ => true
  | _ => false
/-- A result that lies in a block. -/
theorem ret_row_c {fn : Func} {R : Ending → World → Prop} {a : Act} {w : World} (sl ty : Nat) (hres : fn.results = #[.cell sl ty]) (g : Nat) (t : TypeId) (cs : Array Value) (d : TypeDesc) (ha : a.tmps.getD sl undef = .pointer (some ⟨g, 0, none⟩)) (hg : w.heap[g]? = some (.cells cs t (0, 0)))
    (hu : Try.prog.underlying ty = some d) (hag : aggD_c d = true) (hi : (Try.prog.info? ty).map (·.size) = some cs.size) (hd : a.defers = []) (hR : R (.returned (.agg cs)) w) : bodyPost Try.prog fn R .ret a w := by
  refine bodyPost_ret (v := .agg cs) ?_ hd hR
  have hl := run_loadVar_row (P := Try.prog) w g t ty cs (0, 0) d hg hu (by cases d <;> first | rfl | cases hag) hi
  have ha' : a.tmps[sl]?.getD undef = .pointer (some ⟨g, 0, none⟩) := by rw [← ha, Array.getD_eq_getD_getElem?]
  simp [results, hres, ha', asAddr, hl]
/-- A slice is made, wherever it may be its turn. -/
theorem step_make {ops : Array Oper} {o : Oper} {a : Act} {w : World} {K : Act → World → Prop} {Q : Exit → Act → World → Prop} {E : Prop} (hg : o.guard = none) (l c : Operand) (t : TypeId) (hop : o.op = Op.makeSlice t l c)
    (base : Nat) (e : TypeId) (i : TypeInfo) (z : Value) (size : Nat) (h1 : Try.prog.underlying t = some (.slice e)) (h2 : Try.prog.info? e = some i) (h3 : i.zero = some z) (h4 : i.size = size)
    (kl kc : IntKind) (L C : Int) (n : Nat) (hl : a.eval l = .int kl L) (hc : a.eval c = .int kc C) (hL : L = (n : Int)) (hC : C = (n : Int)) (b2 : i.bytes * n ≤ 281474976710656) (b3 : n ≤ maxLen) (b4 : base ≤ w.heap.size)
    (hK : ∀ w', w'.ownsRow base e size (.slice (some ⟨w.heap.size, 0, none⟩) n n) n (madeCells z.cells (n * size)).toList → w.grownBy w' none → K (a.put o.dst (.slice (some ⟨w.heap.size, 0, none⟩) n n)) w') :
    if Region.wanted o (yielded ops a.tmps) = true then Oper.wp Try.prog o a w K Q else E := by
  rw [if_pos (by simp [Region.wanted, hg])]
  obtain ⟨w', hrun, r1, r2⟩ := run_make_full (P := Try.prog) w base t e i z size h1 h2 h3 h4 kl kc n b2 b3 b4
  subst hL
  subst hC
  unfold Oper.wp
  simp [execOp, hop, hl, hc, hrun, Result.andThen]
  exact hK w' r1 r2
theorem own_made1 {w : World} {base R n : Nat} (h : w.ownsRow base 3 1 (.slice (some ⟨R, 0, none⟩) n n) n (madeCells (Value.int .i64 0).cells (n * 1)).toList) : OwnI w base R n n fun _ => 0 := by
  rw [Nat.mul_one] at h
  exact ownI_made h
/-- A number in lowest terms by d, what it is divided by. -/
def lwN (f : Nat → Nat) (d i : Nat) : Int := ((f i : Int) / (Nat.gcd (f i) d : Nat))
def lwD (f : Nat → Nat) (d i : Nat) : Int := ((d : Int) / (Nat.gcd (f i) d : Nat))
def lwM (g : Nat → Int) (e i : Nat) : Int := if i < e then g i else 0
theorem lwM_step (g : Nat → Int) (e i : Nat) : updN (lwM g e) e (g e) i = lwM g (e + 1) i := by
  by_cases h : i = e
  · subst h; rw [updN_at]; unfold lwM; rw [if_pos (by omega)]
  · rw [updN_ne _ _ h]
    unfold lwM
    by_cases h2 : i < e
    · rw [if_pos h2, if_pos (by omega)]
    · rw [if_neg h2, if_neg (by omega)]
theorem div_rng {x g : Nat} (h : x ≤ 4611686018427387904) : IntKind.i64.wrap ((x : Int) / (g : Int)) = (x : Int) / (g : Int) := by
  refine IntWalk.i64_in _ ?_
  have h1 : x / g ≤ x := Nat.div_le_self _ _
  have e : (x : Int) / (g : Int) = ((x / g : Nat) : Int) := rfl
  rw [e]
  generalize x / g = y at *
  clear e
  omega
/-- A row of fractions that is a call's own. -/
def RowOwn (t : Nat) (w : World) (base : Nat) (v : Value) (n : Nat) (f g : Nat → Int) : Prop := t = t ∧ ∃ A C a c, v = .agg #[.slice (some ⟨A, 0, none⟩) n a, .slice (some ⟨C, 0, none⟩) n c] ∧ OwnI w base A n a f ∧ OwnI w base C n c g
end Go.Proofs.Ytnlbafjmbamoeaa
/-
  The methods' numbers, of each method and order, as the program tells them: walked.
-/
namespace Go.Proofs.Ytnlbafjmbamoeaa
open Go.RowKit
open Ieee (double)
attribute [local go_sem] alloc_drewN setCell_drewN call_bits call_frombits ord_lt ord_eq ord_gt ord_ne ord_le ord_ge eqB_self run_fadd run_fsub run_fmul run_fquo haStoreFlt takeOp pureOp readsUpon doOp

/-- What the numbers are, before they are brought into lowest terms. -/
def exF (m q i : Nat) : Nat := if m = 0 then (aMF q q i).toNat else (pwF q i).toNat
def exG (m q : Nat) : Nat := if m = 0 then (aDen q).toNat else (pwF q 1).toNat
def exN (m q : Nat) : Nat → Int := lwN (exF m q) (exG m q)
def exD (m q : Nat) : Nat → Int := lwD (exF m q) (exG m q)
theorem ex_small : ∀ (q : Fin 6) (i : Fin 6), 1 ≤ q.val → (0 ≤ aMF q.val q.val i.val ∧ aMF q.val q.val i.val ≤ 100000000) ∧ (0 < aDen q.val ∧ aDen q.val ≤ 100000000) ∧ 0 < pwF q.val 1 ∧ pwF q.val 1 ≤ 10000 := by decide +kernel
theorem own_cast {w : World} {base R n cap : Nat} {f : Nat → Int} (h : OwnI w base R n cap f) (hp : ∀ i, i < n → 0 ≤ f i) : ∀ i, i < n → w.cell? ⟨R, i, none⟩ = some (.int .i64 ((f i).toNat : Nat)) := fun i hi => by
  rw [h.cell hi, show (((f i).toNat : Nat) : Int) = f i from Int.toNat_of_nonneg (hp i hi)]
/-- The methods' numbers. -/
def coF (m q i : Nat) : Nat := cop .quo (floatOfInt .f64 (exN m q i)) (floatOfInt .f64 (exD m q i))
theorem coF_num : ∀ (m : Fin 2) (q : Fin 6) (i : Fin 6), 1 ≤ q.val → isN (coF m.val q.val i.val) = false := by decide +kernel
end Go.Proofs.Ytnlbafjmbamoeaa
/-
  The methods' numbers, as the document tells them: two rows that grow together.
-/
namespace Go.Proofs.Ytnlbafjmbamoeaa
open Go.RowKit
open Ieee (double)
attribute [local go_sem] alloc_drewN setCell_drewN takeOp pureOp readsUpon doOp

theorem own_kp_c {X W : World} {q base n size : Nat} {E t : TypeId} {v : Value} {qs : List Value} {cs : Array Value} (h : X.ownsRow base E size v n qs) (hq : X.heap[q]? = some (.cells cs t (0, 0))) (hk : Keep X q W) (ht : (t == E) = false) : W.ownsRow base E size v n qs := by
  obtain ⟨h1, h2⟩ := h
  refine ⟨h1, ?_⟩
  rcases h2 with h2 | ⟨g, c, cur, rfl, hg, hh, r⟩
  · exact .inl h2
  · have hne : g ≠ q := by
      rintro rfl
      rw [hh] at hq
      simp only [Option.some.injEq, Obj.cells.injEq] at hq
      obtain ⟨-, rfl, -⟩ := hq
      simp at ht
    exact .inr ⟨g, c, cur, rfl, hg, (hk.block g (lt_block hh) hne).trans hh, r⟩
/-- Two rows of whole numbers that a struct of its own holds, or is to hold. -/
structure TwoS (P : Nat) (uN uD vN vD : Value) (kN kD : Nat) (f g : Nat → Int) (w0 W : World) : Prop where
  bel : Below P w0 W
  blk : W.heap[P]? = some (.cells #[uN, uD] 50 (0, 0))
  num : W.ownsRow (P + 1) 3 1 vN kN (intsL f kN)
  den : W.ownsRow (P + 1) 3 1 vD kD (intsL g kD)
  ne : ∀ j, vN.ownBlock = some j → vD.ownBlock ≠ some j
section
variable {P kN kD : Nat} {uN uD vN vD : Value} {f g : Nat → Int} {w0 W W' : World}
theorem TwoS.lt (h : TwoS P uN uD vN vD kN kD f g w0 W) : P + 1 ≤ W.heap.size := lt_block h.blk
theorem TwoS.step (h : TwoS P uN uD vN vD kN kD f g w0 W) (hb : Below W.heap.size W W') : TwoS P uN uD vN vD kN kD f g w0 W' := by
  have hl := h.lt
  exact ⟨h.bel.trans (hb.mono (by omega)), (hb.block P hl).trans h.blk, own_below h.num hb, own_below h.den hb, h.ne⟩
theorem TwoS.appN {gg c : Nat} (h : TwoS P uN uD vN vD kN kD f g w0 W) (hg : W.grownBy W' vN.ownBlock) (hat : vN.ownBlock = some gg ∨ gg = W.heap.size) (ho : W'.ownsRow (P + 1) 3 1 (.slice (some ⟨gg, 0, none⟩) (kN + 1) c) (kN + 1) (intsL f (kN + 1))) : TwoS P uN uD (.slice (some ⟨gg, 0, none⟩) (kN + 1) c) vD (kN + 1) kD f g w0 W' := by
  have hl := h.lt
  have hB := (Below.refl (P + 1) W).grown hg hl (fun k hk => (h.num.lt k hk).1)
  refine ⟨h.bel.trans (hB.mono (by omega)), (hB.block P (by omega)).trans h.blk, ho, h.den.kept hg ?_, fun j hj => ?_⟩
  · cases hv : vD.ownBlock with
    | none => exact .inl rfl
    | some j => exact .inr (fun e => h.ne j e.symm hv)
  · have e : j = gg := by injection hj with e; exact e.symm
    subst e
    rcases hat with e | e
    · exact h.ne j e
    · exact fun e2 => by have := (h.den.lt j e2).2; omega
theorem TwoS.appD {gg c : Nat} (h : TwoS P uN uD vN vD kN kD f g w0 W) (hg : W.grownBy W' vD.ownBlock) (hat : vD.ownBlock = some gg ∨ gg = W.heap.size) (ho : W'.ownsRow (P + 1) 3 1 (.slice (some ⟨gg, 0, none⟩) (kD + 1) c) (kD + 1) (intsL g (kD + 1))) : TwoS P uN uD vN (.slice (some ⟨gg, 0, none⟩) (kD + 1) c) kN (kD + 1) f g w0 W' := by
  have hl := h.lt
  have hB := (Below.refl (P + 1) W).grown hg hl (fun k hk => (h.den.lt k hk).1)
  refine ⟨h.bel.trans (hB.mono (by omega)), (hB.block P (by omega)).trans h.blk, h.num.kept hg ?_, ho, fun j hj e2 => ?_⟩
  · cases hv : vN.ownBlock with
    | none => exact .inl rfl
    | some j => exact .inr (fun e => h.ne j hv e.symm)
  · have e : j = gg := by injection e2 with e; exact e.symm
    subst e
    rcases hat with e | e
    · exact h.ne j hj e
    · have := (h.num.lt j hj).2; omega
theorem TwoS.put {uN' uD' : Value} (h : TwoS P uN uD vN vD kN kD f g w0 W) (hk : Keep W P W') (e : W'.heap[P]? = some (.cells #[uN', uD'] 50 (0, 0))) : TwoS P uN' uD' vN vD kN kD f g w0 W' :=
  ⟨hk.below h.bel (Nat.le_refl _) (by have := h.lt; omega), e, own_kp_c h.num h.blk hk rfl, own_kp_c h.den h.blk hk rfl, h.ne⟩
theorem TwoS.setN (h : TwoS P uN uD vN vD kN kD f g w0 W) (u : Value) : TwoS P u uD vN vD kN kD f g w0 (W.setCell ⟨P, 0, none⟩ u) := h.put ((Keep.refl W P).set 0 u) ((heap_put_c h.blk u).trans rfl)
theorem TwoS.setD (h : TwoS P uN uD vN vD kN kD f g w0 W) (u : Value) : TwoS P uN u vN vD kN kD f g w0 (W.setCell ⟨P, 1, none⟩ u) := h.put ((Keep.refl W P).set 1 u) ((heap_put_c h.blk u).trans rfl)
theorem TwoS.congr {f2 g2 : Nat → Int} (h : TwoS P uN uD vN vD kN kD f g w0 W) (e1 : intsL f2 kN = intsL f kN) (e2 : intsL g2 kD = intsL g kD) : TwoS P uN uD vN vD kN kD f2 g2 w0 W := ⟨h.bel, h.blk, by rw [e1]; exact h.num, by rw [e2]; exact h.den, h.ne⟩
end
end Go.Proofs.Ytnlbafjmbamoeaa
/-
  The methods' numbers, as the document tells them: of Adams, walked.
-/
namespace Go.Proofs.Ytnlbafjmbamoeaa
open Go.RowKit
open Ieee (double)
attribute [local go_sem] alloc_drewN setCell_drewN takeOp pureOp readsUpon doOp

theorem Drawn.below {w w' : World} (h : Drawn w w') : Below w.heap.size w w' := by
  obtain ⟨n, rfl⟩ := h
  exact below_drewN (Below.refl _ _) n
def qnN (q k : Nat) : Int := lowN (pwF (q - 1) k) (pwF (q - 1) 0 * ((k : Int) + 1))
def qnD (q k : Nat) : Int := lowD (pwF (q - 1) k) (pwF (q - 1) 0 * ((k : Int) + 1))
def sgR (k : Nat) : Int := if (k + 1) % 2 = 1 then -1 else 1
/-- What they are together, as a fraction. -/
def rS (q : Nat) : Nat → Int × Int
  | 0 => (0, 1)
  | k + 1 => (lowN ((rS q k).1 * qnD q k + sgR k * qnN q k * (rS q k).2) ((rS q k).2 * qnD q k), lowD ((rS q k).1 * qnD q k + sgR k * qnN q k * (rS q k).2) ((rS q k).2 * qnD q k))
theorem rS_succ (q k : Nat) : rS q (k + 1) = (lowN ((rS q k).1 * qnD q k + sgR k * qnN q k * (rS q k).2) ((rS q k).2 * qnD q k), lowD ((rS q k).1 * qnD q k + sgR k * qnN q k * (rS q k).2) ((rS q k).2 * qnD q k)) := by rw [rS]
def rFN (q i : Nat) : Int := if i = 0 then 0 else qnN q (i - 1)
def rFD (q i : Nat) : Int := if i = 0 then 1 else qnD q (i - 1)
def raN (q i : Nat) : Int := if i = 0 then lowN (-(rS q q).1) (rS q q).2 else qnN q (i - 1)
def raD (q i : Nat) : Int := if i = 0 then lowD (-(rS q q).1) (rS q q).2 else qnD q (i - 1)
def okI (x : Int) : Bool := decide (-1000000000000 ≤ x) && decide (x ≤ 1000000000000)
theorem okI_bd {x : Int} (h : okI x = true) : -1000000000000 ≤ x ∧ x ≤ 1000000000000 := by simpa [okI] using h
theorem okI_sml {x : Int} (h : okI x = true) : Sml x := by have := okI_bd h; unfold Sml; omega
def rOK (q k : Nat) : Bool := okI (pwF (q - 1) k) && (okI (pwF (q - 1) 0 * ((k : Int) + 1)) && (pwF (q - 1) 0 * ((k : Int) + 1) != 0 && (okI ((rS q k).1 * qnD q k) && (okI (sgR k * qnN q k) && (okI (sgR k * qnN q k * (rS q k).2) && (okI ((rS q k).1 * qnD q k + sgR k * qnN q k * (rS q k).2) && (okI ((rS q k).2 * qnD q k) && (rS q k).2 * qnD q k != 0)))))))
def rEnd (q : Nat) : Bool := okI (rS q q).1 && (okI (rS q q).2 && (rS q q).2 != 0)
theorem r_ok : ∀ (q : Fin 6) (k : Fin 5), 1 ≤ q.val → k.val < q.val → rOK q.val k.val = true ∧ rEnd q.val = true := by decide +kernel
set_option maxRecDepth 100000 in
set_option maxHeartbeats 4000000 in
theorem cfradams_tells (q : Nat) (h1 : 1 ≤ q) (h5 : q ≤ 5) (w : World) :
    Calls Try.prog 39 #[.int .i64 q] w fun e w' => ∃ v, e = .returned v ∧ RowOwn 0 w' w.heap.size v (q + 1) (raN q) (raD q) ∧ Below w.heap.size w w' := by
  obtain ⟨iI, hI, g1, g2, g3⟩ := info_parts infoI
  have HI := Lib.hid (show iI.zero = _ ∧ iI.size = _ ∧ iI.bytes = _ from ⟨g1, g2, g3⟩)
  have HI0 := Lib.hid hI
  clear hI g1 g2 g3
  have PR := Lib.hid (fun W => cfrproduct_tells (q - 1) (by omega) W)
  rw [show q - 1 + 1 = q by omega] at PR
  have k0 : IntKind.i64.wrap ((q : Int) - 1) = ((q - 1 : Nat) : Int) := by rw [show ((q - 1 : Nat) : Int) = (q : Int) - 1 by omega]; exact IntWalk.i64_in _ (by omega)
  have AL := al1 w (.cells #[.slice none 0 0, .slice none 0 0] 50)
  go_enter Try.func39, Try.ntmps39
  go_upto_region 1 with fail
  generalize w.alloc (.cells #[.slice none 0 0, .slice none 0 0] 50) = X0 at *
  generalize hB : w.heap.size = B at *
  obtain ⟨x1, x2, x3⟩ := AL
  have HX := Lib.hid x1
  have HBX := Lib.hid x3
  clear x1 x3
  go_wp2_with fail
  refine (PR.out X0).mono ?_
  rintro e X ⟨Rp, cp, rfl, ho, hb⟩
  have HPR := Lib.hid ho
  have HB1 := Lib.hid hb
  have AL := Lib.hid (al1 X (.cells #[.slice none 0 0, .slice none 0 0] 50))
  clear ho hb k0
  go_upto_region 3 with fail
  generalize X.alloc (.cells #[.slice none 0 0, .slice none 0 0] 50) = Y at *
  obtain ⟨P, hP⟩ : ∃ P, X.heap.size = P := ⟨_, rfl⟩
  have HFN := Lib.hid (show intsL (rFN q) (0 + 1) = intsL (rFN q) 0 ++ [.int .i64 0] from rfl)
  have HFD := Lib.hid (show intsL (rFD q) (0 + 1) = intsL (rFD q) 0 ++ [.int .i64 1] from rfl)
  have HS := Lib.hid (show TwoS P (.slice none 0 0) (.slice none 0 0) (.slice none 0 0) (.slice none 0 0) 0 0 (rFN q) (rFD q) X Y from ⟨hP ▸ AL.out.2.2, hP ▸ AL.out.1, World.ownsRow_nil _ _ _ _, World.ownsRow_nil _ _ _ _, fun j hj => by cases hj⟩)
  have hPl : B < P := by have := HB1.out.size; omega
  have hRp : Rp < P := hP ▸ HPR.out.lt.2
  have hBp : X0.heap.size ≤ P := hP ▸ HB1.out.size
  have HPX := Lib.hid hP
  simp only [hP]
  clear AL hP
  go_cut [] (fun wx => ∃ vN vD, TwoS P vN vD vN vD (0 + 1) (0 + 1) (rFN q) (rFD q) X wx)
  case first =>
    refine wp_region_tree (.op 0 1 (.op 1 3 (.op 4 1 (.op 5 3 (.alt 2 (.alt 3 (.op 8 1 (.alt 6 (.alt 7 (.alt 9 (.op 10 1 (.alt 11 .nil .stop)) .stop) .stop) .stop)) (.alt 6 (.alt 3 (.op 8 1 (.alt 7 (.alt 9 (.op 10 1 (.alt 11 .nil .stop)) .stop) .stop)) .stop) .stop)) (.alt 6 (.alt 2 (.alt 3 (.op 8 1 (.alt 7 (.alt 9 (.op 10 1 (.alt 11 .nil .stop)) .stop) .stop)) .stop) .stop) .stop)))))) [2, 3, 6, 7, 9, 11] [1, 5] (fun W => W.cell? ⟨P, 0, none⟩ = some (.slice none 0 0) ∧ W.cell? ⟨P, 1, none⟩ = some (.slice none 0 0)) (by kernel_rfl) (by kernel_rfl) (fun _ _ d _ _ h => by cases d <;> exact h) (⟨at_block HS.out.blk 0, at_block HS.out.blk 1⟩) ?_
    intro Z hZ hrZ
    have HS0 := Lib.hid (HS.out.step (show Below _ _ Z by rw [hZ]; exact (Below.refl _ _).drew))
    clear hZ hrZ HS
    refine wpTree_pure (fun K hK => ?_)
    go_simp
    refine hK _ ?_
    clear hK K
    refine wpTree_keep (v := .slice none 0 0) rfl rfl (fun wk hwk => ?_) ?_
    · obtain ⟨k1, k2⟩ := hwk
      go_simp
    refine wpTree_pure (fun K hK => ?_)
    go_simp
    refine hK _ ?_
    clear hK K
    refine wpTree_keep (v := .slice none 0 0) rfl rfl (fun wk hwk => ?_) ?_
    · obtain ⟨k1, k2⟩ := hwk
      go_simp
    refine wpTree_alt (fun K hK => ?_) ?_
    go_simp
    obtain ⟨y1, y2, hst⟩ := al1 Z (.cells #[.int .i64 0] 3)
    have HS2 := Lib.hid (HS0.out.step hst)
    have He5 := Lib.hid (show ∀ j, Value.ownBlock (.slice none 0 0) = some j → j ≠ Z.heap.size from fun j hj => Nat.ne_of_lt (HS0.out.num.lt j hj).2)
    refine hK _ _ (fun _ => ⟨at_block HS2.out.blk 0, at_block HS2.out.blk 1⟩) ?_
    clear hK K
    have Hz3 := Lib.hid y1
    clear y1 y2 hst
    generalize Z.alloc (.cells #[.int .i64 0] 3) = V1 at *
    generalize Z.heap.size = k4 at *
    refine wpTree_alt (fun K hK => ?_) ?_
    refine doOp_of rfl ?_
    refine step_append_lies _ (by rfl) _ _ 22 (by rfl) (P + 1) 3 iI (.int .i64 0) 1 8 Try.underlying22 HI0.out HI.out.1 HI.out.2.1 HI.out.2.2 rfl (by decide) _ (0) _ (by rfl) HS2.out.num ⟨k4, 0, none⟩ 1 1 [.int .i64 0] (by rfl) (by rfl) (World.news_of_block (cs := #[.int .i64 0]) (t := 3) (fr := (0, 0)) Hz3.out) (by simp [Value.oneCell']) (by omega) (by unfold maxLen; omega) (by omega) (HS2.out.lt) _ rfl ?_
    intro g8 c9 V6 hown hgrow hat _
    have HS7 := Lib.hid (HS2.out.appN (gg := g8) hgrow hat (by rw [HFN.out]; exact hown))
    refine hK _ _ (fun _ => ⟨at_block HS7.out.blk 0, at_block HS7.out.blk 1⟩) ?_
    clear hK K hown hgrow hat
    refine wpTree_pure (fun K hK => ?_)
    go_simp
    refine hK _ ?_
    clear hK K
    refine wpTree_alt (fun K hK => ?_) ?_
    go_simp
    obtain ⟨y1, y2, hst⟩ := al1 V6 (.cells #[.int .i64 1] 3)
    have HS11 := Lib.hid (HS7.out.step hst)
    have He14 := Lib.hid (show ∀ j, Value.ownBlock (.slice (some ⟨g8, 0, none⟩) (0 + 1) c9) = some j → j ≠ V6.heap.size from fun j hj => Nat.ne_of_lt (HS7.out.num.lt j hj).2)
    refine hK _ _ (fun _ => ⟨at_block HS11.out.blk 0, at_block HS11.out.blk 1⟩) ?_
    clear hK K
    have Hz12 := Lib.hid y1
    clear y1 y2 hst
    generalize V6.alloc (.cells #[.int .i64 1] 3) = V10 at *
    generalize V6.heap.size = k13 at *
    refine wpTree_alt (fun K hK => ?_) ?_
    refine doOp_of rfl ?_
    refine step_append_lies _ (by rfl) _ _ 22 (by rfl) (P + 1) 3 iI (.int .i64 0) 1 8 Try.underlying22 HI0.out HI.out.1 HI.out.2.1 HI.out.2.2 rfl (by decide) _ (0) _ (by rfl) HS11.out.den ⟨k13, 0, none⟩ 1 1 [.int .i64 1] (by rfl) (by rfl) (World.news_of_block (cs := #[.int .i64 1]) (t := 3) (fr := (0, 0)) Hz12.out) (by simp [Value.oneCell']) (by omega) (by unfold maxLen; omega) (by omega) (HS11.out.lt) _ rfl ?_
    intro g17 c18 V15 hown hgrow hat _
    have HS16 := Lib.hid (HS11.out.appD (gg := g17) hgrow hat (by rw [HFD.out]; exact hown))
    refine hK _ _ (fun _ => ⟨at_block HS16.out.blk 0, at_block HS16.out.blk 1⟩) ?_
    clear hK K hown hgrow hat
    refine wpTree_alt (fun K hK => ?_) ?_
    have c0 := at_block HS16.out.blk 0
    have f0 := free_block HS16.out.blk 0
    simp only [List.getElem?_toArray, List.getElem?_cons_zero] at c0
    go_simp
    have HS20 := Lib.hid (HS16.out.setN (.slice (some ⟨g8, 0, none⟩) (0 + 1) c9))
    refine hK _ _ (fun h => Bool.noConfusion (Eq.trans (Eq.symm (by kernel_rfl : _ = false)) h)) ?_
    clear hK K c0 f0
    generalize V15.setCell ⟨P, 0, none⟩ (.slice (some ⟨g8, 0, none⟩) (0 + 1) c9) = V19 at *
    refine wpTree_pure (fun K hK => ?_)
    go_simp
    refine hK _ ?_
    clear hK K
    refine wpTree_alt (fun K hK => ?_) ?_
    have c0 := at_block HS20.out.blk 1
    have f0 := free_block HS20.out.blk 1
    simp only [List.getElem?_toArray, List.getElem?_cons_zero, List.getElem?_cons_succ] at c0
    go_simp
    have HS22 := Lib.hid (HS20.out.setD (.slice (some ⟨g17, 0, none⟩) (0 + 1) c18))
    refine hK _ _ (fun h => Bool.noConfusion (Eq.trans (Eq.symm (by kernel_rfl : _ = false)) h)) ?_
    clear hK K c0 f0
    generalize V19.setCell ⟨P, 1, none⟩ (.slice (some ⟨g17, 0, none⟩) (0 + 1) c18) = V21 at *
    refine wpTree_nil ?_
    go_wp2_with fail
    go_meet
    exact ⟨_, _, HS22.out⟩
    exact wpTree_stop
    exact wpTree_stop
    exact wpTree_stop
    exact wpTree_stop
    refine wpTree_alt (fun K hK => ?_) ?_
    go_simp
    obtain ⟨y1, y2, hst⟩ := al1 V1 (.cells #[.int .i64 1] 3)
    have HS24 := Lib.hid (HS2.out.step hst)
    have Hz28 := Lib.hid ((hst.block k4 (lt_block Hz3.out)).trans Hz3.out)
    have He27 := Lib.hid (show ∀ j, Value.ownBlock (.slice none 0 0) = some j → j ≠ V1.heap.size from fun j hj => Nat.ne_of_lt (HS2.out.num.lt j hj).2)
    refine hK _ _ (fun _ => ⟨at_block HS24.out.blk 0, at_block HS24.out.blk 1⟩) ?_
    clear hK K
    have Hz25 := Lib.hid y1
    clear y1 y2 hst
    generalize V1.alloc (.cells #[.int .i64 1] 3) = V23 at *
    generalize V1.heap.size = k26 at *
    refine wpTree_alt (fun K hK => ?_) ?_
    refine doOp_of rfl ?_
    refine step_append_lies _ (by rfl) _ _ 22 (by rfl) (P + 1) 3 iI (.int .i64 0) 1 8 Try.underlying22 HI0.out HI.out.1 HI.out.2.1 HI.out.2.2 rfl (by decide) _ (0) _ (by rfl) HS24.out.num ⟨k4, 0, none⟩ 1 1 [.int .i64 0] (by rfl) (by rfl) (World.news_of_block (cs := #[.int .i64 0]) (t := 3) (fr := (0, 0)) Hz28.out) (by simp [Value.oneCell']) (by omega) (by unfold maxLen; omega) (by omega) (HS24.out.lt) _ rfl ?_
    intro g31 c32 V29 hown hgrow hat _
    have HS30 := Lib.hid (HS24.out.appN (gg := g31) hgrow hat (by rw [HFN.out]; exact hown))
    have Hz33 := Lib.hid ((hgrow.block k26 (lt_block Hz25.out) (fun e => He27.out _ e.symm rfl)).trans Hz25.out)
    refine hK _ _ (fun _ => ⟨at_block HS30.out.blk 0, at_block HS30.out.blk 1⟩) ?_
    clear hK K hown hgrow hat
    refine wpTree_pure (fun K hK => ?_)
    go_simp
    refine hK _ ?_
    clear hK K
    refine wpTree_alt (fun K hK => ?_) ?_
    refine doOp_of rfl ?_
    refine step_append_lies _ (by rfl) _ _ 22 (by rfl) (P + 1) 3 iI (.int .i64 0) 1 8 Try.underlying22 HI0.out HI.out.1 HI.out.2.1 HI.out.2.2 rfl (by decide) _ (0) _ (by rfl) HS30.out.den ⟨k26, 0, none⟩ 1 1 [.int .i64 1] (by rfl) (by rfl) (World.news_of_block (cs := #[.int .i64 1]) (t := 3) (fr := (0, 0)) Hz33.out) (by simp [Value.oneCell']) (by omega) (by unfold maxLen; omega) (by omega) (HS30.out.lt) _ rfl ?_
    intro g36 c37 V34 hown hgrow hat _
    have HS35 := Lib.hid (HS30.out.appD (gg := g36) hgrow hat (by rw [HFD.out]; exact hown))
    refine hK _ _ (fun _ => ⟨at_block HS35.out.blk 0, at_block HS35.out.blk 1⟩) ?_
    clear hK K hown hgrow hat
    refine wpTree_alt (fun K hK => ?_) ?_
    have c0 := at_block HS35.out.blk 0
    have f0 := free_block HS35.out.blk 0
    simp only [List.getElem?_toArray, List.getElem?_cons_zero] at c0
    go_simp
    have HS39 := Lib.hid (HS35.out.setN (.slice (some ⟨g31, 0, none⟩) (0 + 1) c32))
    refine hK _ _ (fun h => Bool.noConfusion (Eq.trans (Eq.symm (by kernel_rfl : _ = false)) h)) ?_
    clear hK K c0 f0
    generalize V34.setCell ⟨P, 0, none⟩ (.slice (some ⟨g31, 0, none⟩) (0 + 1) c32) = V38 at *
    refine wpTree_pure (fun K hK => ?_)
    go_simp
    refine hK _ ?_
    clear hK K
    refine wpTree_alt (fun K hK => ?_) ?_
    have c0 := at_block HS39.out.blk 1
    have f0 := free_block HS39.out.blk 1
    simp only [List.getElem?_toArray, List.getElem?_cons_zero, List.getElem?_cons_succ] at c0
    go_simp
    have HS41 := Lib.hid (HS39.out.setD (.slice (some ⟨g36, 0, none⟩) (0 + 1) c37))
    refine hK _ _ (fun h => Bool.noConfusion (Eq.trans (Eq.symm (by kernel_rfl : _ = false)) h)) ?_
    clear hK K c0 f0
    generalize V38.setCell ⟨P, 1, none⟩ (.slice (some ⟨g36, 0, none⟩) (0 + 1) c37) = V40 at *
    refine wpTree_nil ?_
    go_wp2_with fail
    go_meet
    exact ⟨_, _, HS41.out⟩
    exact wpTree_stop
    exact wpTree_stop
    exact wpTree_stop
    exact wpTree_stop
    exact wpTree_stop
    refine wpTree_alt (fun K hK => ?_) ?_
    go_simp
    obtain ⟨y1, y2, hst⟩ := al1 Z (.cells #[.int .i64 1] 3)
    have HS43 := Lib.hid (HS0.out.step hst)
    have He46 := Lib.hid (show ∀ j, Value.ownBlock (.slice none 0 0) = some j → j ≠ Z.heap.size from fun j hj => Nat.ne_of_lt (HS0.out.num.lt j hj).2)
    refine hK _ _ (fun _ => ⟨at_block HS43.out.blk 0, at_block HS43.out.blk 1⟩) ?_
    clear hK K
    have Hz44 := Lib.hid y1
    clear y1 y2 hst
    generalize Z.alloc (.cells #[.int .i64 1] 3) = V42 at *
    generalize Z.heap.size = k45 at *
    refine wpTree_alt (fun K hK => ?_) ?_
    go_simp
    obtain ⟨y1, y2, hst⟩ := al1 V42 (.cells #[.int .i64 0] 3)
    have HS48 := Lib.hid (HS43.out.step hst)
    have Hz52 := Lib.hid ((hst.block k45 (lt_block Hz44.out)).trans Hz44.out)
    have He51 := Lib.hid (show ∀ j, Value.ownBlock (.slice none 0 0) = some j → j ≠ V42.heap.size from fun j hj => Nat.ne_of_lt (HS43.out.num.lt j hj).2)
    refine hK _ _ (fun _ => ⟨at_block HS48.out.blk 0, at_block HS48.out.blk 1⟩) ?_
    clear hK K
    have Hz49 := Lib.hid y1
    clear y1 y2 hst
    generalize V42.alloc (.cells #[.int .i64 0] 3) = V47 at *
    generalize V42.heap.size = k50 at *
    refine wpTree_alt (fun K hK => ?_) ?_
    refine doOp_of rfl ?_
    refine step_append_lies _ (by rfl) _ _ 22 (by rfl) (P + 1) 3 iI (.int .i64 0) 1 8 Try.underlying22 HI0.out HI.out.1 HI.out.2.1 HI.out.2.2 rfl (by decide) _ (0) _ (by rfl) HS48.out.num ⟨k50, 0, none⟩ 1 1 [.int .i64 0] (by rfl) (by rfl) (World.news_of_block (cs := #[.int .i64 0]) (t := 3) (fr := (0, 0)) Hz49.out) (by simp [Value.oneCell']) (by omega) (by unfold maxLen; omega) (by omega) (HS48.out.lt) _ rfl ?_
    intro g55 c56 V53 hown hgrow hat _
    have HS54 := Lib.hid (HS48.out.appN (gg := g55) hgrow hat (by rw [HFN.out]; exact hown))
    have Hz57 := Lib.hid ((hgrow.block k45 (lt_block Hz52.out) (fun e => He46.out _ e.symm rfl)).trans Hz52.out)
    refine hK _ _ (fun _ => ⟨at_block HS54.out.blk 0, at_block HS54.out.blk 1⟩) ?_
    clear hK K hown hgrow hat
    refine wpTree_pure (fun K hK => ?_)
    go_simp
    refine hK _ ?_
    clear hK K
    refine wpTree_alt (fun K hK => ?_) ?_
    refine doOp_of rfl ?_
    refine step_append_lies _ (by rfl) _ _ 22 (by rfl) (P + 1) 3 iI (.int .i64 0) 1 8 Try.underlying22 HI0.out HI.out.1 HI.out.2.1 HI.out.2.2 rfl (by decide) _ (0) _ (by rfl) HS54.out.den ⟨k45, 0, none⟩ 1 1 [.int .i64 1] (by rfl) (by rfl) (World.news_of_block (cs := #[.int .i64 1]) (t := 3) (fr := (0, 0)) Hz57.out) (by simp [Value.oneCell']) (by omega) (by unfold maxLen; omega) (by omega) (HS54.out.lt) _ rfl ?_
    intro g60 c61 V58 hown hgrow hat _
    have HS59 := Lib.hid (HS54.out.appD (gg := g60) hgrow hat (by rw [HFD.out]; exact hown))
    refine hK _ _ (fun _ => ⟨at_block HS59.out.blk 0, at_block HS59.out.blk 1⟩) ?_
    clear hK K hown hgrow hat
    refine wpTree_alt (fun K hK => ?_) ?_
    have c0 := at_block HS59.out.blk 0
    have f0 := free_block HS59.out.blk 0
    simp only [List.getElem?_toArray, List.getElem?_cons_zero] at c0
    go_simp
    have HS63 := Lib.hid (HS59.out.setN (.slice (some ⟨g55, 0, none⟩) (0 + 1) c56))
    refine hK _ _ (fun h => Bool.noConfusion (Eq.trans (Eq.symm (by kernel_rfl : _ = false)) h)) ?_
    clear hK K c0 f0
    generalize V58.setCell ⟨P, 0, none⟩ (.slice (some ⟨g55, 0, none⟩) (0 + 1) c56) = V62 at *
    refine wpTree_pure (fun K hK => ?_)
    go_simp
    refine hK _ ?_
    clear hK K
    refine wpTree_alt (fun K hK => ?_) ?_
    have c0 := at_block HS63.out.blk 1
    have f0 := free_block HS63.out.blk 1
    simp only [List.getElem?_toArray, List.getElem?_cons_zero, List.getElem?_cons_succ] at c0
    go_simp
    have HS65 := Lib.hid (HS63.out.setD (.slice (some ⟨g60, 0, none⟩) (0 + 1) c61))
    refine hK _ _ (fun h => Bool.noConfusion (Eq.trans (Eq.symm (by kernel_rfl : _ = false)) h)) ?_
    clear hK K c0 f0
    generalize V62.setCell ⟨P, 1, none⟩ (.slice (some ⟨g60, 0, none⟩) (0 + 1) c61) = V64 at *
    refine wpTree_nil ?_
    go_wp2_with fail
    go_meet
    exact ⟨_, _, HS65.out⟩
    exact wpTree_stop
    exact wpTree_stop
    exact wpTree_stop
    exact wpTree_stop
    exact wpTree_stop
    exact wpTree_stop
  case rest =>
    clear HS HFN HFD
    obtain ⟨vN, vD, hS⟩ := hcut
    have HS := Lib.hid hS
    clear hS
    go_wp2_with fail
    go_loopw [5, 6, 7] (fun x y i wr => ∃ (e : Nat) (vN vD : Value), e ≤ q ∧ i = .int .i64 ((e : Int) + 1) ∧ x = .int .i64 (rS q e).1 ∧ y = .int .i64 (rS q e).2 ∧ TwoS P vN vD vN vD (e + 1) (e + 1) (rFN q) (rFD q) X wr) (fun _ _ i _ => q + 1 - (intOf i).toNat)
    case atStart => exact ⟨0, vN, vD, by omega, rfl, rfl, rfl, HS.out⟩
    case round =>
      clear HS
      obtain ⟨e, vN, vD, he, rfl, rfl, rfl, hS⟩ := hrel
      obtain ⟨aN, cN, rfl⟩ := own_slice1 hS.num
      obtain ⟨aD, cD, rfl⟩ := own_slice1 hS.den
      have HS := Lib.hid hS
      by_cases heq : e < q
      · have j1 : (e : Int) + 1 ≤ (q : Int) := by omega
        have j2 : ((e : Int) + 1) - 1 < (q : Int) := by omega
        have hok := r_ok ⟨q, by omega⟩ ⟨e, by omega⟩ h1 heq
        simp only [rOK, Bool.and_eq_true, bne_iff_ne, ne_eq] at hok
        obtain ⟨⟨o1, o2, o3, o4, o5, o6, o7, o8, o9⟩, -⟩ := hok
        have LW := Lib.hid (fun W => (show Calls Try.prog 59 #[.int .i64 (pwF (q - 1) e), .int .i64 (pwF (q - 1) 0 * ((e : Int) + 1))] W (fun e2 w' => e2 = .returned (.tuple #[.int .i64 (qnN q e), .int .i64 (qnD q e)]) ∧ Drawn W w') from cflow_tells (pwF (q - 1) e) (pwF (q - 1) 0 * ((e : Int) + 1)) (okI_sml o1) (okI_sml o2) o3 W))
        have LW2 := Lib.hid (fun W => cflow_tells ((rS q e).1 * qnD q e + sgR e * qnN q e * (rS q e).2) ((rS q e).2 * qnD q e) (okI_sml o7) (okI_sml o8) o9 W)
        have RS1 := Lib.hid (rS_succ q e)
        have hwr : ∀ x : Int, okI x = true → IntKind.i64.wrap x = x := fun x hx => IntWalk.i64_in _ (by have := okI_bd hx; omega)
        have k1 := hwr _ o2
        have KK := Lib.hid (show _ ∧ _ ∧ _ ∧ _ ∧ _ from ⟨hwr _ o4, hwr _ o5, hwr _ o6, hwr _ o7, hwr _ o8⟩)
        have k2 : IntKind.i64.wrap (e : Int) = (e : Int) := IntWalk.i64_in _ (by omega)
        have j5 : (e : Int) < (q : Int) := by omega
        have j6 : e < q := heq
        have bl := hS.bel
        have u1 := (bl.cell (p := ⟨Rp, e, none⟩) hRp).trans (HPR.out.cell heq)
        have u2 := (bl.cell (p := ⟨Rp, 0, none⟩) hRp).trans (HPR.out.cell (j := 0) (by omega))
        have j3 : (0 : Int) < (q : Int) := by omega
        have j4 : 0 < q := by omega
        clear o1 o2 o3 o4 o5 o6 o7 o8 o9 hwr hS bl
        go_upto_region 8 with fail
        refine wp_region_ord [(0, 1), (1, 1), (2, 1), (3, 1), (4, 2), (5, 1), (6, 1), (7, 2), (8, 1), (9, 1), (10, 0), (11, 1), (12, 1), (13, 1), (14, 1), (15, 1)] (by kernel_rfl) (by kernel_rfl) (fun _ _ d _ _ h => by cases d <;> exact h) ?_
        intro Z hZ
        have hZZ : ∀ b o, Z.cell? ⟨b, o, none⟩ = wr.cell? ⟨b, o, none⟩ := fun b o => by rw [hZ]; rfl
        have HSZ := Lib.hid (HS.out.step (show Below _ _ Z by rw [hZ]; exact (Below.refl _ _).drew))
        rw [← hZZ] at u1 u2
        clear hZ hZZ HS
        iterate 10
          first
            | refine wpOrd_pure (fun K hK => ?_)
            | refine wpOrd_take (fun K hK => ?_)
          go_simp
          refine hK _ ?_
          clear hK K
        refine wpOrd_do (fun K hK => ?_)
        go_simp
        refine (LW.out Z).mono ?_
        rintro e2 w2 ⟨rfl, hd⟩
        have HS := Lib.hid (HSZ.out.step hd.below)
        refine hK _ _ (fun _ => hd) ?_
        clear hK K hd HSZ u1 u2 k1 k2
        iterate 5
          first
            | refine wpOrd_pure (fun K hK => ?_)
            | refine wpOrd_take (fun K hK => ?_)
          go_simp
          refine hK _ ?_
          clear hK K
        refine wpOrd_nil ?_
        have HFN := Lib.hid (show intsL (rFN q) (e + 1 + 1) = intsL (rFN q) (e + 1) ++ [.int .i64 (qnN q e)] from rfl)
        have HFD := Lib.hid (show intsL (rFD q) (e + 1 + 1) = intsL (rFD q) (e + 1) ++ [.int .i64 (qnD q e)] from rfl)
        go_upto_region 9 with fail
        go_cut [] (fun wx => ∃ vN vD, TwoS P vN vD vN vD (e + 1 + 1) (e + 1 + 1) (rFN q) (rFD q) X wx)
        case first =>
          refine wp_region_tree (.op 0 1 (.op 1 3 (.op 2 1 (.op 5 1 (.op 6 3 (.op 7 1 (.alt 3 (.alt 4 (.op 10 1 (.alt 8 (.alt 9 (.alt 11 (.op 12 1 (.alt 13 .nil .stop)) .stop) .stop) .stop)) (.alt 8 (.alt 4 (.op 10 1 (.alt 9 (.alt 11 (.op 12 1 (.alt 13 .nil .stop)) .stop) .stop)) .stop) .stop)) (.alt 8 (.alt 3 (.alt 4 (.op 10 1 (.alt 9 (.alt 11 (.op 12 1 (.alt 13 .nil .stop)) .stop) .stop)) .stop) .stop) .stop)))))))) [3, 4, 8, 9, 11, 13] [1, 6] (fun W => W.cell? ⟨P, 0, none⟩ = some (.slice aN (e + 1) cN) ∧ W.cell? ⟨P, 1, none⟩ = some (.slice aD (e + 1) cD)) (by kernel_rfl) (by kernel_rfl) (fun _ _ d _ _ h => by cases d <;> exact h) (⟨at_block HS.out.blk 0, at_block HS.out.blk 1⟩) ?_
          intro Z hZ hrZ
          have HS0 := Lib.hid (HS.out.step (show Below _ _ Z by rw [hZ]; exact (Below.refl _ _).drew))
          clear hZ hrZ HS
          refine wpTree_pure (fun K hK => ?_)
          go_simp
          refine hK _ ?_
          clear hK K
          refine wpTree_keep (v := .slice aN (e + 1) cN) rfl rfl (fun wk hwk => ?_) ?_
          · obtain ⟨k1, k2⟩ := hwk
            go_simp
          refine wpTree_pure (fun K hK => ?_)
          go_simp
          refine hK _ ?_
          clear hK K
          refine wpTree_pure (fun K hK => ?_)
          go_simp
          refine hK _ ?_
          clear hK K
          refine wpTree_keep (v := .slice aD (e + 1) cD) rfl rfl (fun wk hwk => ?_) ?_
          · obtain ⟨k1, k2⟩ := hwk
            go_simp
          refine wpTree_pure (fun K hK => ?_)
          go_simp
          refine hK _ ?_
          clear hK K
          refine wpTree_alt (fun K hK => ?_) ?_
          go_simp
          obtain ⟨y1, y2, hst⟩ := al1 Z (.cells #[.int .i64 (qnN q e)] 3)
          have HS2 := Lib.hid (HS0.out.step hst)
          have He5 := Lib.hid (show ∀ j, Value.ownBlock (.slice aN (e + 1) cN) = some j → j ≠ Z.heap.size from fun j hj => Nat.ne_of_lt (HS0.out.num.lt j hj).2)
          refine hK _ _ (fun _ => ⟨at_block HS2.out.blk 0, at_block HS2.out.blk 1⟩) ?_
          clear hK K
          have Hz3 := Lib.hid y1
          clear y1 y2 hst
          generalize Z.alloc (.cells #[.int .i64 (qnN q e)] 3) = V1 at *
          generalize Z.heap.size = k4 at *
          refine wpTree_alt (fun K hK => ?_) ?_
          refine doOp_of rfl ?_
          refine step_append_lies _ (by rfl) _ _ 22 (by rfl) (P + 1) 3 iI (.int .i64 0) 1 8 Try.underlying22 HI0.out HI.out.1 HI.out.2.1 HI.out.2.2 rfl (by decide) _ ((e + 1)) _ (by rfl) HS2.out.num ⟨k4, 0, none⟩ 1 1 [.int .i64 (qnN q e)] (by rfl) (by rfl) (World.news_of_block (cs := #[.int .i64 (qnN q e)]) (t := 3) (fr := (0, 0)) Hz3.out) (by simp [Value.oneCell']) (by omega) (by unfold maxLen; omega) (by omega) (HS2.out.lt) _ rfl ?_
          intro g8 c9 V6 hown hgrow hat _
          have HS7 := Lib.hid (HS2.out.appN (gg := g8) hgrow hat (by rw [HFN.out]; exact hown))
          refine hK _ _ (fun _ => ⟨at_block HS7.out.blk 0, at_block HS7.out.blk 1⟩) ?_
          clear hK K hown hgrow hat
          refine wpTree_pure (fun K hK => ?_)
          go_simp
          refine hK _ ?_
          clear hK K
          refine wpTree_alt (fun K hK => ?_) ?_
          go_simp
          obtain ⟨y1, y2, hst⟩ := al1 V6 (.cells #[.int .i64 (qnD q e)] 3)
          have HS11 := Lib.hid (HS7.out.step hst)
          have He14 := Lib.hid (show ∀ j, Value.ownBlock (.slice (some ⟨g8, 0, none⟩) ((e + 1) + 1) c9) = some j → j ≠ V6.heap.size from fun j hj => Nat.ne_of_lt (HS7.out.num.lt j hj).2)
          refine hK _ _ (fun _ => ⟨at_block HS11.out.blk 0, at_block HS11.out.blk 1⟩) ?_
          clear hK K
          have Hz12 := Lib.hid y1
          clear y1 y2 hst
          generalize V6.alloc (.cells #[.int .i64 (qnD q e)] 3) = V10 at *
          generalize V6.heap.size = k13 at *
          refine wpTree_alt (fun K hK => ?_) ?_
          refine doOp_of rfl ?_
          refine step_append_lies _ (by rfl) _ _ 22 (by rfl) (P + 1) 3 iI (.int .i64 0) 1 8 Try.underlying22 HI0.out HI.out.1 HI.out.2.1 HI.out.2.2 rfl (by decide) _ ((e + 1)) _ (by rfl) HS11.out.den ⟨k13, 0, none⟩ 1 1 [.int .i64 (qnD q e)] (by rfl) (by rfl) (World.news_of_block (cs := #[.int .i64 (qnD q e)]) (t := 3) (fr := (0, 0)) Hz12.out) (by simp [Value.oneCell']) (by omega) (by unfold maxLen; omega) (by omega) (HS11.out.lt) _ rfl ?_
          intro g17 c18 V15 hown hgrow hat _
          have HS16 := Lib.hid (HS11.out.appD (gg := g17) hgrow hat (by rw [HFD.out]; exact hown))
          refine hK _ _ (fun _ => ⟨at_block HS16.out.blk 0, at_block HS16.out.blk 1⟩) ?_
          clear hK K hown hgrow hat
          refine wpTree_alt (fun K hK => ?_) ?_
          have c0 := at_block HS16.out.blk 0
          have f0 := free_block HS16.out.blk 0
          simp only [List.getElem?_toArray, List.getElem?_cons_zero] at c0
          go_simp
          have HS20 := Lib.hid (HS16.out.setN (.slice (some ⟨g8, 0, none⟩) ((e + 1) + 1) c9))
          refine hK _ _ (fun h => Bool.noConfusion (Eq.trans (Eq.symm (by kernel_rfl : _ = false)) h)) ?_
          clear hK K c0 f0
          generalize V15.setCell ⟨P, 0, none⟩ (.slice (some ⟨g8, 0, none⟩) ((e + 1) + 1) c9) = V19 at *
          refine wpTree_pure (fun K hK => ?_)
          go_simp
          refine hK _ ?_
          clear hK K
          refine wpTree_alt (fun K hK => ?_) ?_
          have c0 := at_block HS20.out.blk 1
          have f0 := free_block HS20.out.blk 1
          simp only [List.getElem?_toArray, List.getElem?_cons_zero, List.getElem?_cons_succ] at c0
          go_simp
          have HS22 := Lib.hid (HS20.out.setD (.slice (some ⟨g17, 0, none⟩) ((e + 1) + 1) c18))
          refine hK _ _ (fun h => Bool.noConfusion (Eq.trans (Eq.symm (by kernel_rfl : _ = false)) h)) ?_
          clear hK K c0 f0
          generalize V19.setCell ⟨P, 1, none⟩ (.slice (some ⟨g17, 0, none⟩) ((e + 1) + 1) c18) = V21 at *
          refine wpTree_nil ?_
          go_wp2_with fail
          go_meet
          exact ⟨_, _, HS22.out⟩
          exact wpTree_stop
          exact wpTree_stop
          exact wpTree_stop
          exact wpTree_stop
          refine wpTree_alt (fun K hK => ?_) ?_
          go_simp
          obtain ⟨y1, y2, hst⟩ := al1 V1 (.cells #[.int .i64 (qnD q e)] 3)
          have HS24 := Lib.hid (HS2.out.step hst)
          have Hz28 := Lib.hid ((hst.block k4 (lt_block Hz3.out)).trans Hz3.out)
          have He27 := Lib.hid (show ∀ j, Value.ownBlock (.slice aN (e + 1) cN) = some j → j ≠ V1.heap.size from fun j hj => Nat.ne_of_lt (HS2.out.num.lt j hj).2)
          refine hK _ _ (fun _ => ⟨at_block HS24.out.blk 0, at_block HS24.out.blk 1⟩) ?_
          clear hK K
          have Hz25 := Lib.hid y1
          clear y1 y2 hst
          generalize V1.alloc (.cells #[.int .i64 (qnD q e)] 3) = V23 at *
          generalize V1.heap.size = k26 at *
          refine wpTree_alt (fun K hK => ?_) ?_
          refine doOp_of rfl ?_
          refine step_append_lies _ (by rfl) _ _ 22 (by rfl) (P + 1) 3 iI (.int .i64 0) 1 8 Try.underlying22 HI0.out HI.out.1 HI.out.2.1 HI.out.2.2 rfl (by decide) _ ((e + 1)) _ (by rfl) HS24.out.num ⟨k4, 0, none⟩ 1 1 [.int .i64 (qnN q e)] (by rfl) (by rfl) (World.news_of_block (cs := #[.int .i64 (qnN q e)]) (t := 3) (fr := (0, 0)) Hz28.out) (by simp [Value.oneCell']) (by omega) (by unfold maxLen; omega) (by omega) (HS24.out.lt) _ rfl ?_
          intro g31 c32 V29 hown hgrow hat _
          have HS30 := Lib.hid (HS24.out.appN (gg := g31) hgrow hat (by rw [HFN.out]; exact hown))
          have Hz33 := Lib.hid ((hgrow.block k26 (lt_block Hz25.out) (fun e => He27.out _ e.symm rfl)).trans Hz25.out)
          refine hK _ _ (fun _ => ⟨at_block HS30.out.blk 0, at_block HS30.out.blk 1⟩) ?_
          clear hK K hown hgrow hat
          refine wpTree_pure (fun K hK => ?_)
          go_simp
          refine hK _ ?_
          clear hK K
          refine wpTree_alt (fun K hK => ?_) ?_
          refine doOp_of rfl ?_
          refine step_append_lies _ (by rfl) _ _ 22 (by rfl) (P + 1) 3 iI (.int .i64 0) 1 8 Try.underlying22 HI0.out HI.out.1 HI.out.2.1 HI.out.2.2 rfl (by decide) _ ((e + 1)) _ (by rfl) HS30.out.den ⟨k26, 0, none⟩ 1 1 [.int .i64 (qnD q e)] (by rfl) (by rfl) (World.news_of_block (cs := #[.int .i64 (qnD q e)]) (t := 3) (fr := (0, 0)) Hz33.out) (by simp [Value.oneCell']) (by omega) (by unfold maxLen; omega) (by omega) (HS30.out.lt) _ rfl ?_
          intro g36 c37 V34 hown hgrow hat _
          have HS35 := Lib.hid (HS30.out.appD (gg := g36) hgrow hat (by rw [HFD.out]; exact hown))
          refine hK _ _ (fun _ => ⟨at_block HS35.out.blk 0, at_block HS35.out.blk 1⟩) ?_
          clear hK K hown hgrow hat
          refine wpTree_alt (fun K hK => ?_) ?_
          have c0 := at_block HS35.out.blk 0
          have f0 := free_block HS35.out.blk 0
          simp only [List.getElem?_toArray, List.getElem?_cons_zero] at c0
          go_simp
          have HS39 := Lib.hid (HS35.out.setN (.slice (some ⟨g31, 0, none⟩) ((e + 1) + 1) c32))
          refine hK _ _ (fun h => Bool.noConfusion (Eq.trans (Eq.symm (by kernel_rfl : _ = false)) h)) ?_
          clear hK K c0 f0
          generalize V34.setCell ⟨P, 0, none⟩ (.slice (some ⟨g31, 0, none⟩) ((e + 1) + 1) c32) = V38 at *
          refine wpTree_pure (fun K hK => ?_)
          go_simp
          refine hK _ ?_
          clear hK K
          refine wpTree_alt (fun K hK => ?_) ?_
          have c0 := at_block HS39.out.blk 1
          have f0 := free_block HS39.out.blk 1
          simp only [List.getElem?_toArray, List.getElem?_cons_zero, List.getElem?_cons_succ] at c0
          go_simp
          have HS41 := Lib.hid (HS39.out.setD (.slice (some ⟨g36, 0, none⟩) ((e + 1) + 1) c37))
          refine hK _ _ (fun h => Bool.noConfusion (Eq.trans (Eq.symm (by kernel_rfl : _ = false)) h)) ?_
          clear hK K c0 f0
          generalize V38.setCell ⟨P, 1, none⟩ (.slice (some ⟨g36, 0, none⟩) ((e + 1) + 1) c37) = V40 at *
          refine wpTree_nil ?_
          go_wp2_with fail
          go_meet
          exact ⟨_, _, HS41.out⟩
          exact wpTree_stop
          exact wpTree_stop
          exact wpTree_stop
          exact wpTree_stop
          exact wpTree_stop
          refine wpTree_alt (fun K hK => ?_) ?_
          go_simp
          obtain ⟨y1, y2, hst⟩ := al1 Z (.cells #[.int .i64 (qnD q e)] 3)
          have HS43 := Lib.hid (HS0.out.step hst)
          have He46 := Lib.hid (show ∀ j, Value.ownBlock (.slice aN (e + 1) cN) = some j → j ≠ Z.heap.size from fun j hj => Nat.ne_of_lt (HS0.out.num.lt j hj).2)
          refine hK _ _ (fun _ => ⟨at_block HS43.out.blk 0, at_block HS43.out.blk 1⟩) ?_
          clear hK K
          have Hz44 := Lib.hid y1
          clear y1 y2 hst
          generalize Z.alloc (.cells #[.int .i64 (qnD q e)] 3) = V42 at *
          generalize Z.heap.size = k45 at *
          refine wpTree_alt (fun K hK => ?_) ?_
          go_simp
          obtain ⟨y1, y2, hst⟩ := al1 V42 (.cells #[.int .i64 (qnN q e)] 3)
          have HS48 := Lib.hid (HS43.out.step hst)
          have Hz52 := Lib.hid ((hst.block k45 (lt_block Hz44.out)).trans Hz44.out)
          have He51 := Lib.hid (show ∀ j, Value.ownBlock (.slice aN (e + 1) cN) = some j → j ≠ V42.heap.size from fun j hj => Nat.ne_of_lt (HS43.out.num.lt j hj).2)
          refine hK _ _ (fun _ => ⟨at_block HS48.out.blk 0, at_block HS48.out.blk 1⟩) ?_
          clear hK K
          have Hz49 := Lib.hid y1
          clear y1 y2 hst
          generalize V42.alloc (.cells #[.int .i64 (qnN q e)] 3) = V47 at *
          generalize V42.heap.size = k50 at *
          refine wpTree_alt (fun K hK => ?_) ?_
          refine doOp_of rfl ?_
          refine step_append_lies _ (by rfl) _ _ 22 (by rfl) (P + 1) 3 iI (.int .i64 0) 1 8 Try.underlying22 HI0.out HI.out.1 HI.out.2.1 HI.out.2.2 rfl (by decide) _ ((e + 1)) _ (by rfl) HS48.out.num ⟨k50, 0, none⟩ 1 1 [.int .i64 (qnN q e)] (by rfl) (by rfl) (World.news_of_block (cs := #[.int .i64 (qnN q e)]) (t := 3) (fr := (0, 0)) Hz49.out) (by simp [Value.oneCell']) (by omega) (by unfold maxLen; omega) (by omega) (HS48.out.lt) _ rfl ?_
          intro g55 c56 V53 hown hgrow hat _
          have HS54 := Lib.hid (HS48.out.appN (gg := g55) hgrow hat (by rw [HFN.out]; exact hown))
          have Hz57 := Lib.hid ((hgrow.block k45 (lt_block Hz52.out) (fun e => He46.out _ e.symm rfl)).trans Hz52.out)
          refine hK _ _ (fun _ => ⟨at_block HS54.out.blk 0, at_block HS54.out.blk 1⟩) ?_
          clear hK K hown hgrow hat
          refine wpTree_pure (fun K hK => ?_)
          go_simp
          refine hK _ ?_
          clear hK K
          refine wpTree_alt (fun K hK => ?_) ?_
          refine doOp_of rfl ?_
          refine step_append_lies _ (by rfl) _ _ 22 (by rfl) (P + 1) 3 iI (.int .i64 0) 1 8 Try.underlying22 HI0.out HI.out.1 HI.out.2.1 HI.out.2.2 rfl (by decide) _ ((e + 1)) _ (by rfl) HS54.out.den ⟨k45, 0, none⟩ 1 1 [.int .i64 (qnD q e)] (by rfl) (by rfl) (World.news_of_block (cs := #[.int .i64 (qnD q e)]) (t := 3) (fr := (0, 0)) Hz57.out) (by simp [Value.oneCell']) (by omega) (by unfold maxLen; omega) (by omega) (HS54.out.lt) _ rfl ?_
          intro g60 c61 V58 hown hgrow hat _
          have HS59 := Lib.hid (HS54.out.appD (gg := g60) hgrow hat (by rw [HFD.out]; exact hown))
          refine hK _ _ (fun _ => ⟨at_block HS59.out.blk 0, at_block HS59.out.blk 1⟩) ?_
          clear hK K hown hgrow hat
          refine wpTree_alt (fun K hK => ?_) ?_
          have c0 := at_block HS59.out.blk 0
          have f0 := free_block HS59.out.blk 0
          simp only [List.getElem?_toArray, List.getElem?_cons_zero] at c0
          go_simp
          have HS63 := Lib.hid (HS59.out.setN (.slice (some ⟨g55, 0, none⟩) ((e + 1) + 1) c56))
          refine hK _ _ (fun h => Bool.noConfusion (Eq.trans (Eq.symm (by kernel_rfl : _ = false)) h)) ?_
          clear hK K c0 f0
          generalize V58.setCell ⟨P, 0, none⟩ (.slice (some ⟨g55, 0, none⟩) ((e + 1) + 1) c56) = V62 at *
          refine wpTree_pure (fun K hK => ?_)
          go_simp
          refine hK _ ?_
          clear hK K
          refine wpTree_alt (fun K hK => ?_) ?_
          have c0 := at_block HS63.out.blk 1
          have f0 := free_block HS63.out.blk 1
          simp only [List.getElem?_toArray, List.getElem?_cons_zero, List.getElem?_cons_succ] at c0
          go_simp
          have HS65 := Lib.hid (HS63.out.setD (.slice (some ⟨g60, 0, none⟩) ((e + 1) + 1) c61))
          refine hK _ _ (fun h => Bool.noConfusion (Eq.trans (Eq.symm (by kernel_rfl : _ = false)) h)) ?_
          clear hK K c0 f0
          generalize V62.setCell ⟨P, 1, none⟩ (.slice (some ⟨g60, 0, none⟩) ((e + 1) + 1) c61) = V64 at *
          refine wpTree_nil ?_
          go_wp2_with fail
          go_meet
          exact ⟨_, _, HS65.out⟩
          exact wpTree_stop
          exact wpTree_stop
          exact wpTree_stop
          exact wpTree_stop
          exact wpTree_stop
          exact wpTree_stop
        case rest =>
          clear HS HFN HFD
          obtain ⟨vN, vD, hS⟩ := hcut
          have HS := Lib.hid hS
          clear hS
          go_upto_if 57 with fail
          go_cut [10] (fun v wx => v = .int .i64 (sgR e) ∧ wx = wc)
          case first =>
            by_cases hp : (e + 1) % 2 = 1
            · have hq : (((e : Int) + 1) % 2 == 1) = true := by
                have : ((e : Int) + 1) % 2 = 1 := by omega
                simpa using this
              have hsg := Lib.hid (show sgR e = -1 by unfold sgR; rw [if_pos hp])
              clear hp
              go_wp2_with fail
              go_meet
              exact ⟨by rw [hsg.out], rfl⟩
            · have hq : (((e : Int) + 1) % 2 == 1) = false := by
                have : ¬ ((e : Int) + 1) % 2 = 1 := by omega
                simpa using this
              have hsg := Lib.hid (show sgR e = 1 by unfold sgR; rw [if_neg hp])
              clear hp
              go_wp2_with fail
              go_meet
              exact ⟨by rw [hsg.out], rfl⟩
          case rest =>
            obtain ⟨rfl, rfl⟩ := hcut
            obtain ⟨k1, k2, k3, k4, k5⟩ := KK.out
            go_wp2_with fail
            refine (LW2.out _).mono ?_
            rintro e2 w3 ⟨rfl, hd⟩
            have HSF := Lib.hid (HS.out.step hd.below)
            clear hd HS k1 k2 k3 k4 k5
            go_wp2_with fail
            go_roundw
            case rel => exact ⟨e + 1, vN, vD, by omega, by go_num, by rw [RS1.out], by rw [RS1.out], HSF.out⟩
            case measure => simp [intOf]; omega
      · obtain rfl : e = q := by omega
        have hok := (r_ok ⟨e, by omega⟩ ⟨0, by omega⟩ h1 (by show 0 < e; omega)).2
        simp only [rEnd, Bool.and_eq_true, bne_iff_ne, ne_eq] at hok
        obtain ⟨o1, o2, o3⟩ := hok
        have b1 := okI_bd o1
        have k1 : IntKind.i64.wrap (-(rS e e).1) = -(rS e e).1 := IntWalk.i64_in _ (by omega)
        have LW := Lib.hid (fun W => (show Calls Try.prog 59 #[.int .i64 (-(rS e e).1), .int .i64 (rS e e).2] W (fun e2 w' => e2 = .returned (.tuple #[.int .i64 (raN e 0), .int .i64 (raD e 0)]) ∧ Drawn W w') from cflow_tells (-(rS e e).1) (rS e e).2 (by unfold Sml; omega) (okI_sml o2) o3 W))
        obtain ⟨gN, rfl⟩ : ∃ b, aN = some ⟨b, 0, none⟩ := by
          rcases hS.num.2 with ⟨hv, h0⟩ | ⟨b, c, cur, hv, -⟩
          · simp at hv
          · simp only [Value.slice.injEq] at hv
            exact ⟨b, hv.1⟩
        obtain ⟨gD, rfl⟩ : ∃ b, aD = some ⟨b, 0, none⟩ := by
          rcases hS.den.2 with ⟨hv, h0⟩ | ⟨b, c, cur, hv, -⟩
          · simp at hv
          · simp only [Value.slice.injEq] at hv
            exact ⟨b, hv.1⟩
        have hne : gN ≠ gD := fun e2 => hS.ne gN rfl (by rw [e2]; rfl)
        have hlN := hS.num.lt gN rfl
        have hlD := hS.den.lt gD rfl
        have HT := Lib.hid (show OwnI wr (P + 1) gN (e + 1) cN (rFN e) ∧ OwnI wr (P + 1) gD (e + 1) cD (rFD e) ∧ wr.heap[P]? = some (.cells #[.slice (some ⟨gN, 0, none⟩) (e + 1) cN, .slice (some ⟨gD, 0, none⟩) (e + 1) cD] 50) ∧ Below P X wr from ⟨⟨_, hS.num, fun j hj => intsL_get _ hj⟩, ⟨_, hS.den, fun j hj => intsL_get _ hj⟩, hS.blk, hS.bel⟩)
        have p0 := at_block hS.blk 0
        have p1 := at_block hS.blk 1
        simp only [List.getElem?_toArray, List.getElem?_cons_zero, List.getElem?_cons_succ] at p0 p1
        have n0 := HT.out.1.cell (j := 0) (by omega)
        have d0 := HT.out.2.1.cell (j := 0) (by omega)
        have fN := HT.out.1.free 0
        have fD := HT.out.2.1.free 0
        have j1 : ¬ (e : Int) + 1 ≤ (e : Int) := by omega
        have j2 : (0 : Int) < (e : Int) + 1 := by omega
        clear o1 o2 o3 b1 hS HS
        go_upto_region 14 with fail
        refine wp_region_ordR [(0, 1), (1, 2), (2, 1), (3, 3), (4, 1), (5, 1), (6, 1), (7, 0), (8, 1), (9, 1), (10, 1), (11, 1), (12, 0), (13, 1), (14, 0)] (fun W => W.cell? ⟨P, 1, none⟩ = some (.slice (some ⟨gD, 0, none⟩) (e + 1) cD)) (by kernel_rfl) (by kernel_rfl) (fun _ _ d _ _ h => by cases d <;> exact h) (p1) ?_
        intro Z hZ hrZ
        have hZZ : ∀ b o, Z.cell? ⟨b, o, none⟩ = wr.cell? ⟨b, o, none⟩ := fun b o => by rw [hZ]; rfl
        have hzf : ∀ b o, Z.frozen? ⟨b, o, none⟩ = wr.frozen? ⟨b, o, none⟩ := fun b o => by rw [hZ]; rfl
        have HZ := Lib.hid (show OwnI Z (P + 1) gN (e + 1) cN (rFN e) ∧ OwnI Z (P + 1) gD (e + 1) cD (rFD e) ∧ Z.heap[P]? = some (.cells #[.slice (some ⟨gN, 0, none⟩) (e + 1) cN, .slice (some ⟨gD, 0, none⟩) (e + 1) cD] 50) ∧ Below P X Z by rw [hZ]; exact ⟨HT.out.1.drew, HT.out.2.1.drew, HT.out.2.2.1, HT.out.2.2.2.drew⟩)
        rw [← hZZ] at p0 n0 d0
        rw [← hzf] at fN fD
        clear hZ hZZ hzf HT p1
        iterate 3
          first
            | refine wpOrd_pure (fun K hK => ?_)
            | refine wpOrd_take (fun K hK => ?_)
          go_simp
          refine hK _ ?_
          clear hK K
        refine wpOrd_keep (v := .slice (some ⟨gD, 0, none⟩) (e + 1) cD) rfl rfl (fun wk hwk => ?_) ?_
        · go_simp
        iterate 3
          first
            | refine wpOrd_pure (fun K hK => ?_)
            | refine wpOrd_take (fun K hK => ?_)
          go_simp
          refine hK _ ?_
          clear hK K
        refine wpOrd_doR (fun K hK => ?_)
        go_simp
        refine (LW.out Z).mono ?_
        rintro e2 V ⟨rfl, hd⟩
        have hVV : ∀ b o, V.cell? ⟨b, o, none⟩ = Z.cell? ⟨b, o, none⟩ := fun b o => by obtain ⟨nd, rfl⟩ := hd; rfl
        have hvf : ∀ b o, V.frozen? ⟨b, o, none⟩ = Z.frozen? ⟨b, o, none⟩ := fun b o => by obtain ⟨nd, rfl⟩ := hd; rfl
        have HV := Lib.hid (show OwnI V (P + 1) gN (e + 1) cN (rFN e) ∧ OwnI V (P + 1) gD (e + 1) cD (rFD e) ∧ V.heap[P]? = some (.cells #[.slice (some ⟨gN, 0, none⟩) (e + 1) cN, .slice (some ⟨gD, 0, none⟩) (e + 1) cD] 50) ∧ Below P X V by obtain ⟨nd, rfl⟩ := hd; exact ⟨HZ.out.1.drewN nd, HZ.out.2.1.drewN nd, HZ.out.2.2.1, below_drewN HZ.out.2.2.2 nd⟩)
        rw [← hVV] at hrZ n0 d0
        rw [← hvf] at fN fD
        refine hK _ _ (fun _ => hd) (fun _ => hrZ) ?_
        clear hK K hd hVV hvf HZ p0
        iterate 4
          first
            | refine wpOrd_pure (fun K hK => ?_)
            | refine wpOrd_take (fun K hK => ?_)
          go_simp
          refine hK _ ?_
          clear hK K
        have HY := Lib.hid (show OwnI (V.setCell ⟨gN, 0, none⟩ (.int .i64 (raN e 0))) (P + 1) gN (e + 1) cN (raN e) ∧ OwnI (V.setCell ⟨gN, 0, none⟩ (.int .i64 (raN e 0))) (P + 1) gD (e + 1) cD (rFD e) ∧ (V.setCell ⟨gN, 0, none⟩ (.int .i64 (raN e 0))).heap[P]? = some (.cells #[.slice (some ⟨gN, 0, none⟩) (e + 1) cN, .slice (some ⟨gD, 0, none⟩) (e + 1) cD] 50) ∧ Below P X (V.setCell ⟨gN, 0, none⟩ (.int .i64 (raN e 0))) from
          ⟨(HV.out.1.set (by omega) _).congr (fun i hi => by
            by_cases h : i = 0
            · subst h; rw [updN_at]
            · rw [updN_ne _ _ h]; unfold rFN raN; rw [if_neg h, if_neg h]), HV.out.2.1.other hne _, (Below.heap_setCell _ _ _ _ (show P ≠ gN by omega)).trans HV.out.2.2.1, HV.out.2.2.2.setCell (p := ⟨gN, 0, none⟩) (by show P ≤ gN; omega) _⟩)
        have p1 := at_block HY.out.2.2.1 1
        have d1 := HY.out.2.1.cell (j := 0) (by omega)
        have fE := HY.out.2.1.free 0
        simp only [List.getElem?_toArray, List.getElem?_cons_zero, List.getElem?_cons_succ] at p1
        refine wpOrd_doR (fun K hK => ?_)
        go_simp
        refine hK _ _ (fun h => Bool.noConfusion (Eq.trans (Eq.symm (by kernel_rfl : _ = false)) h)) (fun _ => p1) ?_
        clear hK K
        generalize V.setCell ⟨gN, 0, none⟩ (.int .i64 (raN e 0)) = Y2 at *
        clear n0 d0 fN fD hrZ HV p1
        iterate 1
          first
            | refine wpOrd_pure (fun K hK => ?_)
            | refine wpOrd_take (fun K hK => ?_)
          go_simp
          refine hK _ ?_
          clear hK K
        have HW := Lib.hid (show OwnI (Y2.setCell ⟨gD, 0, none⟩ (.int .i64 (raD e 0))) (P + 1) gN (e + 1) cN (raN e) ∧ OwnI (Y2.setCell ⟨gD, 0, none⟩ (.int .i64 (raD e 0))) (P + 1) gD (e + 1) cD (raD e) ∧ (Y2.setCell ⟨gD, 0, none⟩ (.int .i64 (raD e 0))).heap[P]? = some (.cells #[.slice (some ⟨gN, 0, none⟩) (e + 1) cN, .slice (some ⟨gD, 0, none⟩) (e + 1) cD] 50) ∧ Below P X (Y2.setCell ⟨gD, 0, none⟩ (.int .i64 (raD e 0))) from
          ⟨HY.out.1.other (fun h => hne h.symm) _, (HY.out.2.1.set (by omega) _).congr (fun i hi => by
            by_cases h : i = 0
            · subst h; rw [updN_at]
            · rw [updN_ne _ _ h]; unfold rFD raD; rw [if_neg h, if_neg h]), (Below.heap_setCell _ _ _ _ (show P ≠ gD by omega)).trans HY.out.2.2.1, HY.out.2.2.2.setCell (p := ⟨gD, 0, none⟩) (by show P ≤ gD; omega) _⟩)
        refine wpOrd_doR (fun K hK => ?_)
        go_simp
        refine hK _ _ (fun h => Bool.noConfusion (Eq.trans (Eq.symm (by kernel_rfl : _ = false)) h)) (fun h => Bool.noConfusion (Eq.trans (Eq.symm (by kernel_rfl : _ = false)) h)) ?_
        clear hK K
        refine wpOrd_nil ?_
        generalize Y2.setCell ⟨gD, 0, none⟩ (.int .i64 (raD e 0)) = V2 at *
        clear d1 fE HY
        have hPX := HPX.out
        have hbX : Below X0.heap.size X0 V2 := HB1.out.trans (HW.out.2.2.2.mono hBp)
        have hRB := (hbX.block B (by omega)).trans HX.out
        have hrow := rowOK_c hRB #[.slice (some ⟨gN, 0, none⟩) (e + 1) cN, .slice (some ⟨gD, 0, none⟩) (e + 1) cD]
        have HRX := Lib.hid hRB
        have HRR := Lib.hid hrow.2.1
        have HKR := Lib.hid hrow.1
        have HBF := Lib.hid (HBX.out.trans (hbX.mono (by omega)))
        clear hRB hrow hbX hPX
        go_wp2_with (first
          | (refine wpList_load_row rfl 50 _ rfl P rfl 50 #[.slice (some ⟨gN, 0, none⟩) (e + 1) cN, .slice (some ⟨gD, 0, none⟩) (e + 1) cD] _ _ HW.out.2.2.1 Try.underlying50 rfl (by kernel_rfl) ?_)
          | (refine wpList_store_row rfl 50 _ _ rfl B #[.slice (some ⟨gN, 0, none⟩) (e + 1) cN, .slice (some ⟨gD, 0, none⟩) (e + 1) cD] rfl rfl 50 _ HRX.out (by kernel_rfl) rfl (by simp [Value.oneCell']) ?_)
          | fail)
        refine ret_row_c 2 50 Try.results39 B 50 #[.slice (some ⟨gN, 0, none⟩) (e + 1) cN, .slice (some ⟨gD, 0, none⟩) (e + 1) cD] _ rfl HRR.out Try.underlying50 rfl (by kernel_rfl) rfl ?_
        refine ⟨_, rfl, ⟨rfl, gN, gD, cN, cD, rfl, ?_, ?_⟩, hB ▸ HKR.out.below HBF.out (Nat.le_refl B) (by have := HBF.out.size; omega)⟩
        · exact ((HW.out.1.base (b' := B) (by omega)).kept (HKR.out.block gN (HW.out.1.lt.2) (by omega)))
        · exact ((HW.out.2.1.base (b' := B) (by omega)).kept (HKR.out.block gD (HW.out.2.1.lt.2) (by omega)))
end Go.Proofs.Ytnlbafjmbamoeaa
/-
  The methods' numbers, as the document tells them: of Bdf, of each method; walked.
-/
namespace Go.Proofs.Ytnlbafjmbamoeaa
open Go.RowKit
open Ieee (double)
attribute [local go_sem] alloc_drewN setCell_drewN call_bits call_frombits ord_lt ord_eq ord_gt ord_ne ord_le ord_ge eqB_self run_fadd run_fsub run_fmul run_fquo haStoreFlt takeOp pureOp readsUpon doOp

def bN (q k : Nat) : Int := lowN (pwF q k) (pwF q 1)
def bD (q k : Nat) : Int := lowD (pwF q k) (pwF q 1)
theorem b_ok : ∀ (q : Fin 6), 1 ≤ q.val → pwF q.val 1 ≠ 0 := by decide +kernel
set_option maxRecDepth 100000 in
set_option maxHeartbeats 4000000 in
theorem cfrbdf_tells (q : Nat) (h1 : 1 ≤ q) (h5 : q ≤ 5) (w : World) :
    Calls Try.prog 40 #[.int .i64 q] w fun e w' => ∃ v, e = .returned v ∧ RowOwn 0 w' w.heap.size v (q + 1) (bN q) (bD q) ∧ Below w.heap.size w w' := by
  obtain ⟨iI, hI, g1, g2, g3⟩ := info_parts infoI
  have HI := Lib.hid (show iI.zero = _ ∧ iI.size = _ ∧ iI.bytes = _ from ⟨g1, g2, g3⟩)
  have HI0 := Lib.hid hI
  clear hI g1 g2 g3
  have PR := Lib.hid (fun W => cfrproduct_tells q h5 W)
  have AL := al1 w (.cells #[.slice none 0 0, .slice none 0 0] 50)
  go_enter Try.func40, Try.ntmps40
  go_upto_region 1 with fail
  generalize w.alloc (.cells #[.slice none 0 0, .slice none 0 0] 50) = X0 at *
  generalize hB : w.heap.size = B at *
  obtain ⟨x1, x2, x3⟩ := AL
  have HX := Lib.hid x1
  have HBX := Lib.hid x3
  clear x1 x3
  go_wp2_with fail
  refine (PR.out X0).mono ?_
  rintro e X ⟨Rp, cp, rfl, ho, hb⟩
  have HPR := Lib.hid ho
  have HB1 := Lib.hid hb
  have AL := Lib.hid (al1 X (.cells #[.slice none 0 0, .slice none 0 0] 50))
  clear ho hb
  go_upto_region 3 with fail
  generalize X.alloc (.cells #[.slice none 0 0, .slice none 0 0] 50) = Y at *
  obtain ⟨P, hP⟩ : ∃ P, X.heap.size = P := ⟨_, rfl⟩
  have HS := Lib.hid (show TwoS P (.slice none 0 0) (.slice none 0 0) (.slice none 0 0) (.slice none 0 0) 0 0 (bN q) (bD q) X Y from ⟨hP ▸ AL.out.2.2, hP ▸ AL.out.1, World.ownsRow_nil _ _ _ _, World.ownsRow_nil _ _ _ _, fun j hj => by cases hj⟩)
  have hPl : B < P := by have := HB1.out.size; omega
  have hRp : Rp < P := hP ▸ HPR.out.lt.2
  have hBp : X0.heap.size ≤ P := hP ▸ HB1.out.size
  have HPX := Lib.hid hP
  simp only [hP]
  clear AL hP
  go_wp2_with fail
  go_loopw [5] (fun i wr => ∃ (e : Nat) (vN vD : Value), e ≤ q + 1 ∧ i = .int .i64 e ∧ TwoS P vN vD vN vD e e (bN q) (bD q) X wr) (fun i _ => q + 1 - (intOf i).toNat)
  case atStart => exact ⟨0, _, _, by omega, rfl, HS.out⟩
  case round =>
    clear HS
    obtain ⟨e, vN, vD, he, rfl, hS⟩ := hrel
    obtain ⟨aN, cN, rfl⟩ := own_slice1 hS.num
    obtain ⟨aD, cD, rfl⟩ := own_slice1 hS.den
    have HS := Lib.hid hS
    by_cases heq : e ≤ q
    · have j1 : (e : Int) ≤ (q : Int) := by omega
      have hs1 : ∀ k, k ≤ q → Sml (pwF q k) := fun k hk => by have := pwF_bd (i := q) (j := k) (by omega) (by omega); unfold Sml; omega
      have LW := Lib.hid (fun W => (show Calls Try.prog 59 #[.int .i64 (pwF q e), .int .i64 (pwF q 1)] W (fun e2 w' => e2 = .returned (.tuple #[.int .i64 (bN q e), .int .i64 (bD q e)]) ∧ Drawn W w') from cflow_tells (pwF q e) (pwF q 1) (hs1 e heq) (hs1 1 h1) (b_ok ⟨q, by omega⟩ h1) W))
      have bl := hS.bel
      have u1 := (bl.cell (p := ⟨Rp, e, none⟩) hRp).trans (HPR.out.cell (j := e) (by omega))
      have u2 := (bl.cell (p := ⟨Rp, 1, none⟩) hRp).trans (HPR.out.cell (j := 1) (by omega))
      have j3 : (1 : Int) < (q : Int) + 1 := by omega
      have j4 : 1 < q + 1 := by omega
      have j5 : (e : Int) < (q : Int) + 1 := by omega
      have j6 : 0 < q := by omega
      have j7 : e < q + 1 := by omega
      clear hs1 hS bl
      go_upto_region 6 with fail
      refine wp_region_ord [(0, 1), (1, 1), (2, 1), (3, 2), (4, 1), (5, 1), (6, 2), (7, 0), (8, 1), (9, 1), (10, 1), (11, 1), (12, 1)] (by kernel_rfl) (by kernel_rfl) (fun _ _ d _ _ h => by cases d <;> exact h) ?_
      intro Z hZ
      have hZZ : ∀ b o, Z.cell? ⟨b, o, none⟩ = wr.cell? ⟨b, o, none⟩ := fun b o => by rw [hZ]; rfl
      have HSZ := Lib.hid (HS.out.step (show Below _ _ Z by rw [hZ]; exact (Below.refl _ _).drew))
      rw [← hZZ] at u1 u2
      clear hZ hZZ HS
      iterate 7
        first
          | refine wpOrd_pure (fun K hK => ?_)
          | refine wpOrd_take (fun K hK => ?_)
        go_simp
        refine hK _ ?_
        clear hK K
      refine wpOrd_do (fun K hK => ?_)
      go_simp
      refine (LW.out Z).mono ?_
      rintro e2 w2 ⟨rfl, hd⟩
      have HS := Lib.hid (HSZ.out.step hd.below)
      refine hK _ _ (fun _ => hd) ?_
      clear hK K hd HSZ u1 u2
      iterate 5
        first
          | refine wpOrd_pure (fun K hK => ?_)
          | refine wpOrd_take (fun K hK => ?_)
        go_simp
        refine hK _ ?_
        clear hK K
      refine wpOrd_nil ?_
      have HFN := Lib.hid (show intsL (bN q) (e + 1) = intsL (bN q) e ++ [.int .i64 (bN q e)] from rfl)
      have HFD := Lib.hid (show intsL (bD q) (e + 1) = intsL (bD q) e ++ [.int .i64 (bD q e)] from rfl)
      go_upto_region 7 with fail
      refine wp_region_tree (.op 0 1 (.op 1 3 (.op 2 1 (.op 5 1 (.op 6 3 (.op 7 1 (.alt 3 (.alt 4 (.op 10 1 (.alt 8 (.alt 9 (.alt 11 (.op 12 1 (.alt 13 .nil .stop)) .stop) .stop) .stop)) (.alt 8 (.alt 4 (.op 10 1 (.alt 9 (.alt 11 (.op 12 1 (.alt 13 .nil .stop)) .stop) .stop)) .stop) .stop)) (.alt 8 (.alt 3 (.alt 4 (.op 10 1 (.alt 9 (.alt 11 (.op 12 1 (.alt 13 .nil .stop)) .stop) .stop)) .stop) .stop) .stop)))))))) [3, 4, 8, 9, 11, 13] [1, 6] (fun W => W.cell? ⟨P, 0, none⟩ = some (.slice aN e cN) ∧ W.cell? ⟨P, 1, none⟩ = some (.slice aD e cD)) (by kernel_rfl) (by kernel_rfl) (fun _ _ d _ _ h => by cases d <;> exact h) (⟨at_block HS.out.blk 0, at_block HS.out.blk 1⟩) ?_
      intro Z hZ hrZ
      have HS0 := Lib.hid (HS.out.step (show Below _ _ Z by rw [hZ]; exact (Below.refl _ _).drew))
      clear hZ hrZ HS
      refine wpTree_pure (fun K hK => ?_)
      go_simp
      refine hK _ ?_
      clear hK K
      refine wpTree_keep (v := .slice aN e cN) rfl rfl (fun wk hwk => ?_) ?_
      · obtain ⟨k1, k2⟩ := hwk
        go_simp
      refine wpTree_pure (fun K hK => ?_)
      go_simp
      refine hK _ ?_
      clear hK K
      refine wpTree_pure (fun K hK => ?_)
      go_simp
      refine hK _ ?_
      clear hK K
      refine wpTree_keep (v := .slice aD e cD) rfl rfl (fun wk hwk => ?_) ?_
      · obtain ⟨k1, k2⟩ := hwk
        go_simp
      refine wpTree_pure (fun K hK => ?_)
      go_simp
      refine hK _ ?_
      clear hK K
      refine wpTree_alt (fun K hK => ?_) ?_
      go_simp
      obtain ⟨y1, y2, hst⟩ := al1 Z (.cells #[.int .i64 (bN q e)] 3)
      have HS2 := Lib.hid (HS0.out.step hst)
      have He5 := Lib.hid (show ∀ j, Value.ownBlock (.slice aN e cN) = some j → j ≠ Z.heap.size from fun j hj => Nat.ne_of_lt (HS0.out.num.lt j hj).2)
      refine hK _ _ (fun _ => ⟨at_block HS2.out.blk 0, at_block HS2.out.blk 1⟩) ?_
      clear hK K
      have Hz3 := Lib.hid y1
      clear y1 y2 hst
      generalize Z.alloc (.cells #[.int .i64 (bN q e)] 3) = V1 at *
      generalize Z.heap.size = k4 at *
      refine wpTree_alt (fun K hK => ?_) ?_
      refine doOp_of rfl ?_
      refine step_append_lies _ (by rfl) _ _ 22 (by rfl) (P + 1) 3 iI (.int .i64 0) 1 8 Try.underlying22 HI0.out HI.out.1 HI.out.2.1 HI.out.2.2 rfl (by decide) _ (e) _ (by rfl) HS2.out.num ⟨k4, 0, none⟩ 1 1 [.int .i64 (bN q e)] (by rfl) (by rfl) (World.news_of_block (cs := #[.int .i64 (bN q e)]) (t := 3) (fr := (0, 0)) Hz3.out) (by simp [Value.oneCell']) (by omega) (by unfold maxLen; omega) (by omega) (HS2.out.lt) _ rfl ?_
      intro g8 c9 V6 hown hgrow hat _
      have HS7 := Lib.hid (HS2.out.appN (gg := g8) hgrow hat (by rw [HFN.out]; exact hown))
      refine hK _ _ (fun _ => ⟨at_block HS7.out.blk 0, at_block HS7.out.blk 1⟩) ?_
      clear hK K hown hgrow hat
      refine wpTree_pure (fun K hK => ?_)
      go_simp
      refine hK _ ?_
      clear hK K
      refine wpTree_alt (fun K hK => ?_) ?_
      go_simp
      obtain ⟨y1, y2, hst⟩ := al1 V6 (.cells #[.int .i64 (bD q e)] 3)
      have HS11 := Lib.hid (HS7.out.step hst)
      have He14 := Lib.hid (show ∀ j, Value.ownBlock (.slice (some ⟨g8, 0, none⟩) (e + 1) c9) = some j → j ≠ V6.heap.size from fun j hj => Nat.ne_of_lt (HS7.out.num.lt j hj).2)
      refine hK _ _ (fun _ => ⟨at_block HS11.out.blk 0, at_block HS11.out.blk 1⟩) ?_
      clear hK K
      have Hz12 := Lib.hid y1
      clear y1 y2 hst
      generalize V6.alloc (.cells #[.int .i64 (bD q e)] 3) = V10 at *
      generalize V6.heap.size = k13 at *
      refine wpTree_alt (fun K hK => ?_) ?_
      refine doOp_of rfl ?_
      refine step_append_lies _ (by rfl) _ _ 22 (by rfl) (P + 1) 3 iI (.int .i64 0) 1 8 Try.underlying22 HI0.out HI.out.1 HI.out.2.1 HI.out.2.2 rfl (by decide) _ (e) _ (by rfl) HS11.out.den ⟨k13, 0, none⟩ 1 1 [.int .i64 (bD q e)] (by rfl) (by rfl) (World.news_of_block (cs := #[.int .i64 (bD q e)]) (t := 3) (fr := (0, 0)) Hz12.out) (by simp [Value.oneCell']) (by omega) (by unfold maxLen; omega) (by omega) (HS11.out.lt) _ rfl ?_
      intro g17 c18 V15 hown hgrow hat _
      have HS16 := Lib.hid (HS11.out.appD (gg := g17) hgrow hat (by rw [HFD.out]; exact hown))
      refine hK _ _ (fun _ => ⟨at_block HS16.out.blk 0, at_block HS16.out.blk 1⟩) ?_
      clear hK K hown hgrow hat
      refine wpTree_alt (fun K hK => ?_) ?_
      have c0 := at_block HS16.out.blk 0
      have f0 := free_block HS16.out.blk 0
      simp only [List.getElem?_toArray, List.getElem?_cons_zero] at c0
      go_simp
      have HS20 := Lib.hid (HS16.out.setN (.slice (some ⟨g8, 0, none⟩) (e + 1) c9))
      refine hK _ _ (fun h => Bool.noConfusion (Eq.trans (Eq.symm (by kernel_rfl : _ = false)) h)) ?_
      clear hK K c0 f0
      generalize V15.setCell ⟨P, 0, none⟩ (.slice (some ⟨g8, 0, none⟩) (e + 1) c9) = V19 at *
      refine wpTree_pure (fun K hK => ?_)
      go_simp
      refine hK _ ?_
      clear hK K
      refine wpTree_alt (fun K hK => ?_) ?_
      have c0 := at_block HS20.out.blk 1
      have f0 := free_block HS20.out.blk 1
      simp only [List.getElem?_toArray, List.getElem?_cons_zero, List.getElem?_cons_succ] at c0
      go_simp
      have HS22 := Lib.hid (HS20.out.setD (.slice (some ⟨g17, 0, none⟩) (e + 1) c18))
      refine hK _ _ (fun h => Bool.noConfusion (Eq.trans (Eq.symm (by kernel_rfl : _ = false)) h)) ?_
      clear hK K c0 f0
      generalize V19.setCell ⟨P, 1, none⟩ (.slice (some ⟨g17, 0, none⟩) (e + 1) c18) = V21 at *
      refine wpTree_nil ?_
      go_wp2_with fail
      go_roundw
      case rel => exact ⟨e + 1, _, _, by omega, by go_num, HS22.out⟩
      case measure => simp [intOf]; omega
      exact wpTree_stop
      exact wpTree_stop
      exact wpTree_stop
      exact wpTree_stop
      refine wpTree_alt (fun K hK => ?_) ?_
      go_simp
      obtain ⟨y1, y2, hst⟩ := al1 V1 (.cells #[.int .i64 (bD q e)] 3)
      have HS24 := Lib.hid (HS2.out.step hst)
      have Hz28 := Lib.hid ((hst.block k4 (lt_block Hz3.out)).trans Hz3.out)
      have He27 := Lib.hid (show ∀ j, Value.ownBlock (.slice aN e cN) = some j → j ≠ V1.heap.size from fun j hj => Nat.ne_of_lt (HS2.out.num.lt j hj).2)
      refine hK _ _ (fun _ => ⟨at_block HS24.out.blk 0, at_block HS24.out.blk 1⟩) ?_
      clear hK K
      have Hz25 := Lib.hid y1
      clear y1 y2 hst
      generalize V1.alloc (.cells #[.int .i64 (bD q e)] 3) = V23 at *
      generalize V1.heap.size = k26 at *
      refine wpTree_alt (fun K hK => ?_) ?_
      refine doOp_of rfl ?_
      refine step_append_lies _ (by rfl) _ _ 22 (by rfl) (P + 1) 3 iI (.int .i64 0) 1 8 Try.underlying22 HI0.out HI.out.1 HI.out.2.1 HI.out.2.2 rfl (by decide) _ (e) _ (by rfl) HS24.out.num ⟨k4, 0, none⟩ 1 1 [.int .i64 (bN q e)] (by rfl) (by rfl) (World.news_of_block (cs := #[.int .i64 (bN q e)]) (t := 3) (fr := (0, 0)) Hz28.out) (by simp [Value.oneCell']) (by omega) (by unfold maxLen; omega) (by omega) (HS24.out.lt) _ rfl ?_
      intro g31 c32 V29 hown hgrow hat _
      have HS30 := Lib.hid (HS24.out.appN (gg := g31) hgrow hat (by rw [HFN.out]; exact hown))
      have Hz33 := Lib.hid ((hgrow.block k26 (lt_block Hz25.out) (fun e => He27.out _ e.symm rfl)).trans Hz25.out)
      refine hK _ _ (fun _ => ⟨at_block HS30.out.blk 0, at_block HS30.out.blk 1⟩) ?_
      clear hK K hown hgrow hat
      refine wpTree_pure (fun K hK => ?_)
      go_simp
      refine hK _ ?_
      clear hK K
      refine wpTree_alt (fun K hK => ?_) ?_
      refine doOp_of rfl ?_
      refine step_append_lies _ (by rfl) _ _ 22 (by rfl) (P + 1) 3 iI (.int .i64 0) 1 8 Try.underlying22 HI0.out HI.out.1 HI.out.2.1 HI.out.2.2 rfl (by decide) _ (e) _ (by rfl) HS30.out.den ⟨k26, 0, none⟩ 1 1 [.int .i64 (bD q e)] (by rfl) (by rfl) (World.news_of_block (cs := #[.int .i64 (bD q e)]) (t := 3) (fr := (0, 0)) Hz33.out) (by simp [Value.oneCell']) (by omega) (by unfold maxLen; omega) (by omega) (HS30.out.lt) _ rfl ?_
      intro g36 c37 V34 hown hgrow hat _
      have HS35 := Lib.hid (HS30.out.appD (gg := g36) hgrow hat (by rw [HFD.out]; exact hown))
      refine hK _ _ (fun _ => ⟨at_block HS35.out.blk 0, at_block HS35.out.blk 1⟩) ?_
      clear hK K hown hgrow hat
      refine wpTree_alt (fun K hK => ?_) ?_
      have c0 := at_block HS35.out.blk 0
      have f0 := free_block HS35.out.blk 0
      simp only [List.getElem?_toArray, List.getElem?_cons_zero] at c0
      go_simp
      have HS39 := Lib.hid (HS35.out.setN (.slice (some ⟨g31, 0, none⟩) (e + 1) c32))
      refine hK _ _ (fun h => Bool.noConfusion (Eq.trans (Eq.symm (by kernel_rfl : _ = false)) h)) ?_
      clear hK K c0 f0
      generalize V34.setCell ⟨P, 0, none⟩ (.slice (some ⟨g31, 0, none⟩) (e + 1) c32) = V38 at *
      refine wpTree_pure (fun K hK => ?_)
      go_simp
      refine hK _ ?_
      clear hK K
      refine wpTree_alt (fun K hK => ?_) ?_
      have c0 := at_block HS39.out.blk 1
      have f0 := free_block HS39.out.blk 1
      simp only [List.getElem?_toArray, List.getElem?_cons_zero, List.getElem?_cons_succ] at c0
      go_simp
      have HS41 := Lib.hid (HS39.out.setD (.slice (some ⟨g36, 0, none⟩) (e + 1) c37))
      refine hK _ _ (fun h => Bool.noConfusion (Eq.trans (Eq.symm (by kernel_rfl : _ = false)) h)) ?_
      clear hK K c0 f0
      generalize V38.setCell ⟨P, 1, none⟩ (.slice (some ⟨g36, 0, none⟩) (e + 1) c37) = V40 at *
      refine wpTree_nil ?_
      go_wp2_with fail
      go_roundw
      case rel => exact ⟨e + 1, _, _, by omega, by go_num, HS41.out⟩
      case measure => simp [intOf]; omega
      exact wpTree_stop
      exact wpTree_stop
      exact wpTree_stop
      exact wpTree_stop
      exact wpTree_stop
      refine wpTree_alt (fun K hK => ?_) ?_
      go_simp
      obtain ⟨y1, y2, hst⟩ := al1 Z (.cells #[.int .i64 (bD q e)] 3)
      have HS43 := Lib.hid (HS0.out.step hst)
      have He46 := Lib.hid (show ∀ j, Value.ownBlock (.slice aN e cN) = some j → j ≠ Z.heap.size from fun j hj => Nat.ne_of_lt (HS0.out.num.lt j hj).2)
      refine hK _ _ (fun _ => ⟨at_block HS43.out.blk 0, at_block HS43.out.blk 1⟩) ?_
      clear hK K
      have Hz44 := Lib.hid y1
      clear y1 y2 hst
      generalize Z.alloc (.cells #[.int .i64 (bD q e)] 3) = V42 at *
      generalize Z.heap.size = k45 at *
      refine wpTree_alt (fun K hK => ?_) ?_
      go_simp
      obtain ⟨y1, y2, hst⟩ := al1 V42 (.cells #[.int .i64 (bN q e)] 3)
      have HS48 := Lib.hid (HS43.out.step hst)
      have Hz52 := Lib.hid ((hst.block k45 (lt_block Hz44.out)).trans Hz44.out)
      have He51 := Lib.hid (show ∀ j, Value.ownBlock (.slice aN e cN) = some j → j ≠ V42.heap.size from fun j hj => Nat.ne_of_lt (HS43.out.num.lt j hj).2)
      refine hK _ _ (fun _ => ⟨at_block HS48.out.blk 0, at_block HS48.out.blk 1⟩) ?_
      clear hK K
      have Hz49 := Lib.hid y1
      clear y1 y2 hst
      generalize V42.alloc (.cells #[.int .i64 (bN q e)] 3) = V47 at *
      generalize V42.heap.size = k50 at *
      refine wpTree_alt (fun K hK => ?_) ?_
      refine doOp_of rfl ?_
      refine step_append_lies _ (by rfl) _ _ 22 (by rfl) (P + 1) 3 iI (.int .i64 0) 1 8 Try.underlying22 HI0.out HI.out.1 HI.out.2.1 HI.out.2.2 rfl (by decide) _ (e) _ (by rfl) HS48.out.num ⟨k50, 0, none⟩ 1 1 [.int .i64 (bN q e)] (by rfl) (by rfl) (World.news_of_block (cs := #[.int .i64 (bN q e)]) (t := 3) (fr := (0, 0)) Hz49.out) (by simp [Value.oneCell']) (by omega) (by unfold maxLen; omega) (by omega) (HS48.out.lt) _ rfl ?_
      intro g55 c56 V53 hown hgrow hat _
      have HS54 := Lib.hid (HS48.out.appN (gg := g55) hgrow hat (by rw [HFN.out]; exact hown))
      have Hz57 := Lib.hid ((hgrow.block k45 (lt_block Hz52.out) (fun e => He46.out _ e.symm rfl)).trans Hz52.out)
      refine hK _ _ (fun _ => ⟨at_block HS54.out.blk 0, at_block HS54.out.blk 1⟩) ?_
      clear hK K hown hgrow hat
      refine wpTree_pure (fun K hK => ?_)
      go_simp
      refine hK _ ?_
      clear hK K
      refine wpTree_alt (fun K hK => ?_) ?_
      refine doOp_of rfl ?_
      refine step_append_lies _ (by rfl) _ _ 22 (by rfl) (P + 1) 3 iI (.int .i64 0) 1 8 Try.underlying22 HI0.out HI.out.1 HI.out.2.1 HI.out.2.2 rfl (by decide) _ (e) _ (by rfl) HS54.out.den ⟨k45, 0, none⟩ 1 1 [.int .i64 (bD q e)] (by rfl) (by rfl) (World.news_of_block (cs := #[.int .i64 (bD q e)]) (t := 3) (fr := (0, 0)) Hz57.out) (by simp [Value.oneCell']) (by omega) (by unfold maxLen; omega) (by omega) (HS54.out.lt) _ rfl ?_
      intro g60 c61 V58 hown hgrow hat _
      have HS59 := Lib.hid (HS54.out.appD (gg := g60) hgrow hat (by rw [HFD.out]; exact hown))
      refine hK _ _ (fun _ => ⟨at_block HS59.out.blk 0, at_block HS59.out.blk 1⟩) ?_
      clear hK K hown hgrow hat
      refine wpTree_alt (fun K hK => ?_) ?_
      have c0 := at_block HS59.out.blk 0
      have f0 := free_block HS59.out.blk 0
      simp only [List.getElem?_toArray, List.getElem?_cons_zero] at c0
      go_simp
      have HS63 := Lib.hid (HS59.out.setN (.slice (some ⟨g55, 0, none⟩) (e + 1) c56))
      refine hK _ _ (fun h => Bool.noConfusion (Eq.trans (Eq.symm (by kernel_rfl : _ = false)) h)) ?_
      clear hK K c0 f0
      generalize V58.setCell ⟨P, 0, none⟩ (.slice (some ⟨g55, 0, none⟩) (e + 1) c56) = V62 at *
      refine wpTree_pure (fun K hK => ?_)
      go_simp
      refine hK _ ?_
      clear hK K
      refine wpTree_alt (fun K hK => ?_) ?_
      have c0 := at_block HS63.out.blk 1
      have f0 := free_block HS63.out.blk 1
      simp only [List.getElem?_toArray, List.getElem?_cons_zero, List.getElem?_cons_succ] at c0
      go_simp
      have HS65 := Lib.hid (HS63.out.setD (.slice (some ⟨g60, 0, none⟩) (e + 1) c61))
      refine hK _ _ (fun h => Bool.noConfusion (Eq.trans (Eq.symm (by kernel_rfl : _ = false)) h)) ?_
      clear hK K c0 f0
      generalize V62.setCell ⟨P, 1, none⟩ (.slice (some ⟨g60, 0, none⟩) (e + 1) c61) = V64 at *
      refine wpTree_nil ?_
      go_wp2_with fail
      go_roundw
      case rel => exact ⟨e + 1, _, _, by omega, by go_num, HS65.out⟩
      case measure => simp [intOf]; omega
      exact wpTree_stop
      exact wpTree_stop
      exact wpTree_stop
      exact wpTree_stop
      exact wpTree_stop
      exact wpTree_stop
    · obtain rfl : e = q + 1 := by omega
      obtain ⟨gN, rfl⟩ : ∃ b, aN = some ⟨b, 0, none⟩ := by
        rcases hS.num.2 with ⟨hv, h0⟩ | ⟨b, c, cur, hv, -⟩
        · simp at hv
        · simp only [Value.slice.injEq] at hv
          exact ⟨b, hv.1⟩
      obtain ⟨gD, rfl⟩ : ∃ b, aD = some ⟨b, 0, none⟩ := by
        rcases hS.den.2 with ⟨hv, h0⟩ | ⟨b, c, cur, hv, -⟩
        · simp at hv
        · simp only [Value.slice.injEq] at hv
          exact ⟨b, hv.1⟩
      have hlN := hS.num.lt gN rfl
      have hlD := hS.den.lt gD rfl
      have HW := Lib.hid (show OwnI wr (P + 1) gN (q + 1) cN (bN q) ∧ OwnI wr (P + 1) gD (q + 1) cD (bD q) ∧ wr.heap[P]? = some (.cells #[.slice (some ⟨gN, 0, none⟩) (q + 1) cN, .slice (some ⟨gD, 0, none⟩) (q + 1) cD] 50) ∧ Below P X wr from ⟨⟨_, hS.num, fun j hj => intsL_get _ hj⟩, ⟨_, hS.den, fun j hj => intsL_get _ hj⟩, hS.blk, hS.bel⟩)
      have j1 : ¬ ((q + 1 : Nat) : Int) ≤ (q : Int) := by omega
      clear hS HS
      have hPX := HPX.out
      have hbX : Below X0.heap.size X0 wr := HB1.out.trans (HW.out.2.2.2.mono hBp)
      have hRB := (hbX.block B (by omega)).trans HX.out
      have hrow := rowOK_c hRB #[.slice (some ⟨gN, 0, none⟩) (q + 1) cN, .slice (some ⟨gD, 0, none⟩) (q + 1) cD]
      have HRX := Lib.hid hRB
      have HRR := Lib.hid hrow.2.1
      have HKR := Lib.hid hrow.1
      have HBF := Lib.hid (HBX.out.trans (hbX.mono (by omega)))
      clear hRB hrow hbX hPX
      go_wp2_with (first
        | (refine wpList_load_row rfl 50 _ rfl P rfl 50 #[.slice (some ⟨gN, 0, none⟩) (q + 1) cN, .slice (some ⟨gD, 0, none⟩) (q + 1) cD] _ _ HW.out.2.2.1 Try.underlying50 rfl (by kernel_rfl) ?_)
        | (refine wpList_store_row rfl 50 _ _ rfl B #[.slice (some ⟨gN, 0, none⟩) (q + 1) cN, .slice (some ⟨gD, 0, none⟩) (q + 1) cD] rfl rfl 50 _ HRX.out (by kernel_rfl) rfl (by simp [Value.oneCell']) ?_)
        | fail)
      refine ret_row_c 2 50 Try.results40 B 50 #[.slice (some ⟨gN, 0, none⟩) (q + 1) cN, .slice (some ⟨gD, 0, none⟩) (q + 1) cD] _ rfl HRR.out Try.underlying50 rfl (by kernel_rfl) rfl ?_
      refine ⟨_, rfl, ⟨rfl, gN, gD, cN, cD, rfl, ?_, ?_⟩, hB ▸ HKR.out.below HBF.out (Nat.le_refl B) (by have := HBF.out.size; omega)⟩
      · exact ((HW.out.1.base (b' := B) (by omega)).kept (HKR.out.block gN (HW.out.1.lt.2) (by omega)))
      · exact ((HW.out.2.1.base (b' := B) (by omega)).kept (HKR.out.block gD (HW.out.2.1.lt.2) (by omega)))
end Go.Proofs.Ytnlbafjmbamoeaa
/-
  The methods' numbers, as the document tells them: of each method and order; walked.
-/
namespace Go.Proofs.Ytnlbafjmbamoeaa
open Go.RowKit
open Ieee (double)
attribute [local go_sem] alloc_drewN setCell_drewN call_bits call_frombits ord_lt ord_eq ord_gt ord_ne ord_le ord_ge eqB_self run_fadd run_fsub run_fmul run_fquo haStoreFlt takeOp pureOp readsUpon doOp

theorem RowOwn.congr {t : Nat} {w : World} {base n : Nat} {v : Value} {f g f2 g2 : Nat → Int} (h : RowOwn t w base v n f g) (e : ∀ i, i < n → f i = f2 i ∧ g i = g2 i) : RowOwn t w base v n f2 g2 := by
  obtain ⟨h0, A, C, a, c, rfl, h1, h2⟩ := h
  exact ⟨h0, A, C, a, c, rfl, h1.congr (fun i hi => (e i hi).1), h2.congr (fun i hi => (e i hi).2)⟩
theorem ex_adams : ∀ (q : Fin 6) (i : Fin 6), 1 ≤ q.val → raN q.val i.val = exN 0 q.val i.val ∧ raD q.val i.val = exD 0 q.val i.val ∨ q.val < i.val := by decide +kernel
theorem ex_bdf : ∀ (q : Fin 5) (i : Fin 6), 1 ≤ q.val → bN q.val i.val = exN 1 q.val i.val ∧ bD q.val i.val = exD 1 q.val i.val := by decide +kernel
set_option maxRecDepth 100000 in
set_option maxHeartbeats 1000000 in
theorem cfrexact_tells {m q : Nat} (hm : m < 2) (h1 : 1 ≤ q) (h5 : q + m ≤ 5) (w : World) :
    Calls Try.prog 16 #[.int .i64 m, .int .i64 q] w fun e w' => ∃ v, e = .returned (.tuple #[v, .bool true]) ∧ RowOwn 0 w' w.heap.size v (q + 1) (exN m q) (exD m q) ∧ Below w.heap.size w w' := by
  have PA := Lib.hid (fun W => cfradams_tells q h1 (by omega) W)
  have PB := Lib.hid (fun W => cfrbdf_tells q h1 (by omega) W)
  have AL := al1 w (.cells #[.slice none 0 0, .slice none 0 0] 50)
  go_enter Try.func16, Try.ntmps16
  go_upto_region 1 with fail
  generalize w.alloc (.cells #[.slice none 0 0, .slice none 0 0] 50) = X at *
  generalize hB : w.heap.size = B at *
  obtain ⟨x1, x2, x3⟩ := AL
  have HX := Lib.hid x1
  have HBX := Lib.hid x3
  clear x1 x3
  have j1 : (1 : Int) ≤ (q : Int) := by omega
  have j0 : 1 ≤ q := h1
  have j3 : 0 < q := h1
  rcases (show m = 0 ∨ m = 1 by omega) with rfl | rfl
  · have j2 : (q : Int) ≤ 5 := by omega
    have j4 : q ≤ 5 := by omega
    go_wp2_with fail
    refine (PA.out X).mono ?_
    rintro e w2 ⟨v, rfl, ho, hb⟩
    replace ho := ho.congr (f2 := exN 0 q) (g2 := exD 0 q) (fun i hi => by
      rcases ex_adams ⟨q, by omega⟩ ⟨i, by omega⟩ h1 with h | h
      · exact h
      · have h' : q < i := h
        omega)
    obtain ⟨-, A, C, a, c, rfl, hA, hC⟩ := ho
    have hr := (hb.block B (by omega)).trans HX.out
    have c0 := at_block hr 0
    have c1 := at_block hr 1
    have f0 := free_block hr 0
    have f1 := free_block hr 1
    simp only [List.getElem?_toArray, List.getElem?_cons_zero, List.getElem?_cons_succ] at c0 c1
    have hlA := hA.lt
    have hlC := hC.lt
    have HF := Lib.hid (show OwnI ((w2.setCell ⟨B, 0, none⟩ (.slice (some ⟨A, 0, none⟩) (q + 1) a)).setCell ⟨B, 1, none⟩ (.slice (some ⟨C, 0, none⟩) (q + 1) c)) B A (q + 1) a _ ∧ OwnI ((w2.setCell ⟨B, 0, none⟩ (.slice (some ⟨A, 0, none⟩) (q + 1) a)).setCell ⟨B, 1, none⟩ (.slice (some ⟨C, 0, none⟩) (q + 1) c)) B C (q + 1) c _ ∧ Below B w ((w2.setCell ⟨B, 0, none⟩ (.slice (some ⟨A, 0, none⟩) (q + 1) a)).setCell ⟨B, 1, none⟩ (.slice (some ⟨C, 0, none⟩) (q + 1) c)) from
      ⟨((hA.base (b' := B) (by omega)).other (by omega) _).other (by omega) _, ((hC.base (b' := B) (by omega)).other (by omega) _).other (by omega) _, ((HBX.out.trans (hb.mono (by omega))).setCell (p := ⟨B, 0, none⟩) (Nat.le_refl B) _).setCell (p := ⟨B, 1, none⟩) (Nat.le_refl B) _⟩)
    have e0 := at_block (heap_put_c (o := 1) (heap_put_c (o := 0) hr (.slice (some ⟨A, 0, none⟩) (q + 1) a)) (.slice (some ⟨C, 0, none⟩) (q + 1) c)) 0
    have e1 := at_block (heap_put_c (o := 1) (heap_put_c (o := 0) hr (.slice (some ⟨A, 0, none⟩) (q + 1) a)) (.slice (some ⟨C, 0, none⟩) (q + 1) c)) 1
    replace e0 : _ = some (Value.slice (some ⟨A, 0, none⟩) (q + 1) a) := e0
    replace e1 : _ = some (Value.slice (some ⟨C, 0, none⟩) (q + 1) c) := e1
    clear hA hC hr hb hlA hlC
    go_wp2_with fail
    exact bodyPost_ret (v := .tuple #[.agg #[.slice (some ⟨A, 0, none⟩) (q + 1) a, .slice (some ⟨C, 0, none⟩) (q + 1) c], .bool true]) (by simp [results, Try.results16, go_sem, e0, e1]) rfl ⟨_, rfl, ⟨rfl, A, C, a, c, rfl, hB ▸ HF.out.1, hB ▸ HF.out.2.1⟩, hB ▸ HF.out.2.2⟩
  · have j2 : (q : Int) ≤ 4 := by omega
    have j4 : q ≤ 4 := by omega
    go_wp2_with fail
    refine (PB.out X).mono ?_
    rintro e w2 ⟨v, rfl, ho, hb⟩
    replace ho := ho.congr (f2 := exN 1 q) (g2 := exD 1 q) (fun i hi => ex_bdf ⟨q, by omega⟩ ⟨i, by omega⟩ h1)
    obtain ⟨-, A, C, a, c, rfl, hA, hC⟩ := ho
    have hr := (hb.block B (by omega)).trans HX.out
    have c0 := at_block hr 0
    have c1 := at_block hr 1
    have f0 := free_block hr 0
    have f1 := free_block hr 1
    simp only [List.getElem?_toArray, List.getElem?_cons_zero, List.getElem?_cons_succ] at c0 c1
    have hlA := hA.lt
    have hlC := hC.lt
    have HF := Lib.hid (show OwnI ((w2.setCell ⟨B, 0, none⟩ (.slice (some ⟨A, 0, none⟩) (q + 1) a)).setCell ⟨B, 1, none⟩ (.slice (some ⟨C, 0, none⟩) (q + 1) c)) B A (q + 1) a _ ∧ OwnI ((w2.setCell ⟨B, 0, none⟩ (.slice (some ⟨A, 0, none⟩) (q + 1) a)).setCell ⟨B, 1, none⟩ (.slice (some ⟨C, 0, none⟩) (q + 1) c)) B C (q + 1) c _ ∧ Below B w ((w2.setCell ⟨B, 0, none⟩ (.slice (some ⟨A, 0, none⟩) (q + 1) a)).setCell ⟨B, 1, none⟩ (.slice (some ⟨C, 0, none⟩) (q + 1) c)) from
      ⟨((hA.base (b' := B) (by omega)).other (by omega) _).other (by omega) _, ((hC.base (b' := B) (by omega)).other (by omega) _).other (by omega) _, ((HBX.out.trans (hb.mono (by omega))).setCell (p := ⟨B, 0, none⟩) (Nat.le_refl B) _).setCell (p := ⟨B, 1, none⟩) (Nat.le_refl B) _⟩)
    have e0 := at_block (heap_put_c (o := 1) (heap_put_c (o := 0) hr (.slice (some ⟨A, 0, none⟩) (q + 1) a)) (.slice (some ⟨C, 0, none⟩) (q + 1) c)) 0
    have e1 := at_block (heap_put_c (o := 1) (heap_put_c (o := 0) hr (.slice (some ⟨A, 0, none⟩) (q + 1) a)) (.slice (some ⟨C, 0, none⟩) (q + 1) c)) 1
    replace e0 : _ = some (Value.slice (some ⟨A, 0, none⟩) (q + 1) a) := e0
    replace e1 : _ = some (Value.slice (some ⟨C, 0, none⟩) (q + 1) c) := e1
    clear hA hC hr hb hlA hlC
    go_wp2_with fail
    exact bodyPost_ret (v := .tuple #[.agg #[.slice (some ⟨A, 0, none⟩) (q + 1) a, .slice (some ⟨C, 0, none⟩) (q + 1) c], .bool true]) (by simp [results, Try.results16, go_sem, e0, e1]) rfl ⟨_, rfl, ⟨rfl, A, C, a, c, rfl, hB ▸ HF.out.1, hB ▸ HF.out.2.1⟩, hB ▸ HF.out.2.2⟩
set_option maxRecDepth 100000 in
set_option maxHeartbeats 1000000 in
theorem rcof_tells {m q : Nat} (hm : m < 2) (h1 : 1 ≤ q) (h5 : q + m ≤ 5) (w : World) :
    Calls Try.prog 8 #[.int .i64 m, .int .i64 q] w fun e w' => ∃ v, e = .returned (.tuple #[v, .bool true]) ∧ FRow w' v (q + 1) (coF m q) ∧ Below w.heap.size w w' := by
  obtain ⟨iF, hF, g1, g2, g3⟩ := info_parts infoF
  have HF := Lib.hid (show iF.zero = _ ∧ iF.size = _ ∧ iF.bytes = _ from ⟨g1, g2, g3⟩)
  have HF0 := Lib.hid hF
  clear hF g1 g2 g3
  have EX := Lib.hid (cfrexact_tells hm h1 h5 w)
  go_enter Try.func8, Try.ntmps8
  generalize hB : w.heap.size = B at *
  go_wp2_with fail
  refine EX.out.mono ?_
  rintro e w1 ⟨v, rfl, ⟨-, A, C, a, c, rfl, hA, hC⟩, hb⟩
  have AL := Lib.hid (al1 w1 (.cells #[.slice (some ⟨A, 0, none⟩) (q + 1) a, .slice (some ⟨C, 0, none⟩) (q + 1) c] 50))
  have HA := Lib.hid hA
  have HC := Lib.hid hC
  have HB1 := Lib.hid hb
  clear hA hC hb
  go_upto_region 2 with fail
  generalize w1.alloc (.cells #[.slice (some ⟨A, 0, none⟩) (q + 1) a, .slice (some ⟨C, 0, none⟩) (q + 1) c] 50) = X at *
  generalize hP : w1.heap.size = P at *
  obtain ⟨x1, x2, x3⟩ := AL.out
  have HX := Lib.hid x1
  have HAX := Lib.hid (HA.out.below x3 (hP ▸ HA.out.lt.2))
  have HCX := Lib.hid (HC.out.below x3 (hP ▸ HC.out.lt.2))
  have hB1 : B ≤ P := by have := HB1.out.size; omega
  have HBX := Lib.hid (HB1.out.trans (x3.mono hB1))
  have hPX : P < X.heap.size := by omega
  have hAl := HAX.out.lt
  have hCl := HCX.out.lt
  clear x1 x2 x3 AL HA HC HB1
  go_wp2_with fail
  go_loopw [8, 9] (fun v i wr => ∃ (e : Nat) (qs : List Value), e ≤ q + 1 ∧ i = .int .i64 e ∧ wr.ownsRow X.heap.size 32 1 v e qs ∧ FVals qs e (coF m q) ∧ Below X.heap.size X wr) (fun _ i _ => q + 1 - (intOf i).toNat)
  case atStart => exact ⟨0, [], by omega, rfl, World.ownsRow_nil _ _ _ _, fun j hj => by omega, Below.refl _ _⟩
  case round =>
    obtain ⟨e, qs, he, rfl, ho, hv, hb⟩ := hrel
    obtain ⟨va, vc, rfl⟩ := own_slice1 ho
    have HO := Lib.hid ho
    have HV := Lib.hid hv
    have HB2 := Lib.hid hb
    have hp := (hb.block P hPX).trans HX.out
    have p0 := at_block hp 0
    have p1 := at_block hp 1
    simp only [List.getElem?_toArray, List.getElem?_cons_zero, List.getElem?_cons_succ] at p0 p1
    by_cases hen : e < q + 1
    · have j1 : (e : Int) < (q : Int) + 1 := by omega
      have u1 := (hb.cell (p := ⟨A, e, none⟩) (show A < _ by omega)).trans (HAX.out.cell hen)
      have u2 := (hb.cell (p := ⟨C, e, none⟩) (show C < _ by omega)).trans (HCX.out.cell hen)
      obtain ⟨n1, n2⟩ := fval_num (coF_num ⟨m, hm⟩ ⟨q, by omega⟩ ⟨e, by omega⟩ h1)
      simp only [] at n1 n2
      have n1' : ∀ w, fval .quo w (floatOfInt .f64 (exN m q e)) (floatOfInt .f64 (exD m q e)) = coF m q e := n1
      have hcn : canon (coF m q e) = coF m q e := canon_cop _ _ _
      have hcl : coF m q e < 18446744073709551616 := cop_lt _ _ _
      have hws := hb.size
      clear ho hv hb hp n1
      go_upto_region 8 with fail
      refine wp_region_ordR [(0, 1), (1, 1), (2, 3), (3, 1), (4, 1), (5, 3), (6, 1), (7, 1), (8, 3), (9, 1), (10, 1), (11, 3), (12, 1), (13, 1), (14, 0), (15, 0), (16, 1)] (fun W => W.cell? ⟨P, 0, none⟩ = some (.slice (some ⟨A, 0, none⟩) (q + 1) a) ∧ W.cell? ⟨A, e, none⟩ = some (.int .i64 (exN m q e)) ∧ W.cell? ⟨P, 1, none⟩ = some (.slice (some ⟨C, 0, none⟩) (q + 1) c) ∧ W.cell? ⟨C, e, none⟩ = some (.int .i64 (exD m q e))) (by kernel_rfl) (by kernel_rfl) (fun _ _ d _ _ h => by cases d <;> exact h) (⟨p0, u1, p1, u2⟩) ?_
      intro Z hZ hrZ
      have hbZ : Below wr.heap.size wr Z := by rw [hZ]; exact (Below.refl _ _).drew
      have hOZ := own_below HO.out hbZ
      have hZs := hbZ.size
      clear hZ p0 u1 p1 u2 HO
      iterate 2
        first
          | refine wpOrd_pure (fun K hK => ?_)
          | refine wpOrd_take (fun K hK => ?_)
        go_simp
        refine hK _ ?_
        clear hK K
      refine wpOrd_keep (v := .slice (some ⟨A, 0, none⟩) (q + 1) a) rfl rfl (fun wk hwk => ?_) ?_
      · obtain ⟨k1, k2, k3, k4⟩ := hwk
        go_simp
      iterate 2
        first
          | refine wpOrd_pure (fun K hK => ?_)
          | refine wpOrd_take (fun K hK => ?_)
        go_simp
        refine hK _ ?_
        clear hK K
      refine wpOrd_keep (v := .int .i64 (exN m q e)) rfl rfl (fun wk hwk => ?_) ?_
      · obtain ⟨k1, k2, k3, k4⟩ := hwk
        go_simp
      iterate 2
        first
          | refine wpOrd_pure (fun K hK => ?_)
          | refine wpOrd_take (fun K hK => ?_)
        go_simp
        refine hK _ ?_
        clear hK K
      refine wpOrd_keep (v := .slice (some ⟨C, 0, none⟩) (q + 1) c) rfl rfl (fun wk hwk => ?_) ?_
      · obtain ⟨k1, k2, k3, k4⟩ := hwk
        go_simp
      iterate 2
        first
          | refine wpOrd_pure (fun K hK => ?_)
          | refine wpOrd_take (fun K hK => ?_)
        go_simp
        refine hK _ ?_
        clear hK K
      refine wpOrd_keep (v := .int .i64 (exD m q e)) rfl rfl (fun wk hwk => ?_) ?_
      · obtain ⟨k1, k2, k3, k4⟩ := hwk
        go_simp
      iterate 1
        first
          | refine wpOrd_pure (fun K hK => ?_)
          | refine wpOrd_take (fun K hK => ?_)
        go_simp
        refine hK _ ?_
        clear hK K
      refine wpOrd_pure (fun K hK => ?_)
      go_simp
      refine ⟨_, fun _ => ⟨rfl, rfl⟩, hK _ ?_⟩
      clear hK K
      obtain ⟨y1, y2, y3⟩ := al1 Z (.cells #[.float .f64 (coF m q e)] 32)
      have q1 := (y3.cell (p := ⟨P, 0, none⟩) (show P < _ by omega)).trans hrZ.1
      have q2 := (y3.cell (p := ⟨A, e, none⟩) (show A < _ by omega)).trans hrZ.2.1
      have q3 := (y3.cell (p := ⟨P, 1, none⟩) (show P < _ by omega)).trans hrZ.2.2.1
      have q4 := (y3.cell (p := ⟨C, e, none⟩) (show C < _ by omega)).trans hrZ.2.2.2
      refine wpOrd_doR (fun K hK => ?_)
      go_simp
      refine hK _ _ (fun h => Bool.noConfusion (Eq.trans (Eq.symm (by kernel_rfl : _ = false)) h)) (fun _ => ⟨q1, q2, q3, q4⟩) ?_
      clear hK K
      have hOA := own_below hOZ y3
      refine wpOrd_doR (fun K hK => ?_)
      refine doOp_of rfl ?_
      refine step_append_lies _ (by rfl) _ _ 31 (by rfl) X.heap.size 32 iF (.float .f64 0) 1 8 Try.underlying31 HF0.out HF.out.1 HF.out.2.1 HF.out.2.2 rfl (by decide) _ e qs (by rfl) hOA ⟨Z.heap.size, 0, none⟩ 1 1 [.float .f64 (coF m q e)] (by rfl) (by rfl) (World.news_of_block (cs := #[.float .f64 (coF m q e)]) (t := 32) (fr := (0, 0)) y1) (by simp [Value.oneCell']) (by omega) (by unfold maxLen; omega) (by omega) (by omega) (Z.heap.size + 1) y2 ?_
      intro gg cap1 wn hown1 hgrow hat hlt1
      have hne : ∀ b, b < X.heap.size → some b ≠ (Value.slice va e vc).ownBlock := fun b hb e2 => by have := (hOA.lt b e2.symm).1; omega
      have z1 := hgrow.cell q1 (hne P (by omega))
      have z2 := hgrow.cell q2 (hne A (by omega))
      have z3 := hgrow.cell q3 (hne P (by omega))
      have z4 := hgrow.cell q4 (hne C (by omega))
      have HN := Lib.hid (show wn.ownsRow X.heap.size 32 1 (.slice (some ⟨gg, 0, none⟩) (e + 1) cap1) (e + 1) _ ∧ FVals _ (e + 1) (coF m q) ∧ Below X.heap.size X wn from ⟨hown1, FVals.app HV.out (by have := hOA.1; omega) hcn hcl, (HB2.out.trans (hbZ.mono hws)).trans ((y3.mono (by omega)).trans ((Below.refl _ _).grown hgrow (by omega) (fun k hk => (hOA.lt k hk).1)))⟩)
      refine hK _ _ (fun h => Bool.noConfusion (Eq.trans (Eq.symm (by kernel_rfl : _ = false)) h)) (fun _ => ⟨z1, z2, z3, z4⟩) ?_
      clear hK K hown1 hgrow hat hlt1 hOA hOZ q1 q2 q3 q4 z1 z2 z3 z4 hbZ hrZ y1 y2 y3 hne HV HB2
      iterate 1
        first
          | refine wpOrd_pure (fun K hK => ?_)
          | refine wpOrd_take (fun K hK => ?_)
        go_simp
        refine hK _ ?_
        clear hK K
      refine wpOrd_nil ?_
      go_wp2_with fail
      go_roundw
      case rel => exact ⟨e + 1, _, by omega, by go_num, HN.out⟩
      case measure => simp [intOf]; omega
    · obtain rfl : e = q + 1 := by omega
      obtain ⟨R2, c2, e2, hof⟩ := FVals.own (show FVals qs (q + 1) (coF m q) from hv) ho (by omega)
      have HR := Lib.hid (show FRow wr (.slice va (q + 1) vc) (q + 1) (coF m q) by rw [e2]; exact hof.flts (by omega))
      clear e2 hof
      have HBF := Lib.hid (HBX.out.trans (hb.mono (by omega)))
      clear ho hv hb hp p1
      go_wp2_with fail
      exact bodyPost_ret (v := .tuple #[.slice va (q + 1) vc, .bool true]) (by simp [results, Try.results8, go_sem]) rfl ⟨_, rfl, HR.out, hB ▸ HBF.out⟩
end Go.Proofs.Ytnlbafjmbamoeaa
