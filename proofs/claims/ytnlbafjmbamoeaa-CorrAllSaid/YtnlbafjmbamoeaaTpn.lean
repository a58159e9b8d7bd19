/-
  The tapes that a law makes of numbers, walked.
-/
import Derived.Test.YtnlbafjmbamoeaaTpm
import Derived.Deep.AppendLies
import Derived.Deep.RegionLaw
import Derived.Deep.DeepCutAuto
import Derived.Deep.CutBlock
import Derived.IntWalk
import Derived.Deep.RegionHeld3
import Derived.Test.YtnlbafjmbamoeaaReg
namespace Go.Proofs.Ytnlbafjmbamoeaa
open Go.RowKit
open Ieee (double)
attribute [local go_sem] alloc_drewN setCell_drewN call_bits call_frombits ord_lt ord_eq ord_gt ord_ne ord_le ord_ge eqB_self run_fadd run_fsub run_fmul run_fquo run_store_flt takeOp pureOp readsUpon doOp

theorem doOp_of {P : Program} {ops : Array Oper} {Q : Exit → Act → World → Prop} {i : Nat} {K : Act → World → Prop} {a : Act} {w : World} {o : Oper} (ho : ops[i]? = some o) (h : if Region.wanted o (yielded ops a.tmps) = true then Oper.wp P o a w K Q else K (a.put o.dst undef) w) : doOp P ops Q i K a w := by
  unfold doOp
  rw [ho]
  exact h
/-- A tape that is a call's own. -/
def TapeOwn (w : World) (base : Nat) (u : Value) (T : TD) : Prop := ∃ va vb, u = .agg #[.int .i64 T.n, va, vb] ∧ w.ownsRow base 47 4 va T.len (opsL T.op T.len) ∧ w.ownsRow base 3 1 vb T.lo (intsL T.out T.lo) ∧ ∀ k, va.ownBlock = some k → vb.ownBlock ≠ some k
theorem own_low {w : World} {base b' n size : Nat} {E : TypeId} {v : Value} {qs : List Value} (h : w.ownsRow base E size v n qs) (hb : b' ≤ base) : w.ownsRow b' E size v n qs := by
  obtain ⟨h1, h2⟩ := h
  refine ⟨h1, ?_⟩
  rcases h2 with h2 | ⟨g, c, cur, rfl, hg, r⟩
  · exact .inl h2
  · exact .inr ⟨g, c, cur, rfl, Nat.le_trans hb hg, r⟩
theorem TapeOwn.at {w : World} {base : Nat} {u : Value} {T : TD} (h : TapeOwn w base u T) (h1 : T.len ≤ 9223372036854775807) (h2 : T.lo ≤ 9223372036854775807) : TapeAt w u T := by
  obtain ⟨va, vb, rfl, ha, hb, -⟩ := h
  exact ⟨va, vb, rfl, ops_of_own ha h1, ints_of_own hb h2⟩
theorem TapeOwn.below {w w' : World} {base : Nat} {u : Value} {T : TD} (h : TapeOwn w base u T) (hb : Below w.heap.size w w') : TapeOwn w' base u T := by
  obtain ⟨va, vb, rfl, ha, hc, hd⟩ := h
  exact ⟨va, vb, rfl, own_below ha hb, own_below hc hb, hd⟩
theorem own_block {w w' : World} {base n size : Nat} {E : TypeId} {v : Value} {qs : List Value} (h : w.ownsRow base E size v n qs) (hb : ∀ k, v.ownBlock = some k → w'.heap[k]? = w.heap[k]?) : w'.ownsRow base E size v n qs := by
  obtain ⟨h1, h2⟩ := h
  refine ⟨h1, ?_⟩
  rcases h2 with h2 | ⟨g, c, cur, rfl, hg, hh, r⟩
  · exact .inl h2
  · exact .inr ⟨g, c, cur, rfl, hg, (hb g rfl).trans hh, r⟩
theorem cst_num : ∀ i : Fin 33, isN (cop .quo (floatOfInt .f64 ((i.val : Int) - 16)) 4616189618054758400) = false ∧ isN (cop .quo (floatOfInt .f64 ((i.val : Int) - 16)) 4620693217682128896) = false := by decide +kernel
/-- A quotient that is a number is drawn nothing for. -/
theorem fval_num {op : BinOp} {a b : Nat} (h : isN (cop op a b) = false) : (∀ w, fval op w a b = cop op a b) ∧ ndraw op a b = 0 := by
  have e : ∃ r, floatBits op .f64 a b = some r := by
    cases e : floatBits op .f64 a b with
    | some r => exact ⟨r, rfl⟩
    | none =>
      rw [show cop op a b = nanB by unfold cop; rw [e]] at h
      exact absurd h (by decide)
  obtain ⟨r, hr⟩ := e
  refine ⟨fun w => ?_, by unfold ndraw; rw [hr]; rfl⟩
  have e1 : canon (fval op w a b) = cop op a b := canon_fval _ _ _ _
  have nf : isN (fval op w a b) = false := by rw [← isN_canon, e1]; exact h
  rw [← e1, canon_num nf]
theorem cst_val {x : Int} {d : Nat} (h1 : -16 ≤ x) (h2 : x ≤ 16) (hd : d = 4616189618054758400 ∨ d = 4620693217682128896) (_ : d = d) : (∀ w, fval .quo w (floatOfInt .f64 x) d = cst x d) ∧ ndraw .quo (floatOfInt .f64 x) d = 0 ∧ True := by
  have h := cst_num ⟨(x + 16).toNat, by omega⟩
  have e : (((x + 16).toNat : Nat) : Int) - 16 = x := by omega
  simp only [e] at h
  unfold cst
  rcases hd with rfl | rfl
  · exact ⟨(fval_num h.1).1, (fval_num h.1).2, trivial⟩
  · exact ⟨(fval_num h.2).1, (fval_num h.2).2, trivial⟩
theorem MV.start (w : World) (n : Int) (t : TypeId) : MV w w.heap.size n (.slice none 0 0) (.slice none 0 0) ((w.alloc (.cells #[.int .i64 0, .slice none 0 0, .slice none 0 0] t)).alloc (.cells #[.int .i64 n, .slice none 0 0, .slice none 0 0] t)) := by
  have e : (w.alloc (.cells #[.int .i64 0, .slice none 0 0, .slice none 0 0] t)).heap.size = w.heap.size + 1 := by simp
  refine ⟨?_, ?_, ?_, ?_, ?_, ?_, ?_, ?_, ?_, ?_, ?_, ?_, by simp, rfl, ((Below.refl _ _).alloc (Nat.le_refl _) _).alloc (by rw [e]; omega) _⟩
  iterate 3 (rw [← e, World.cell?_alloc_new]; rfl)
  iterate 3 simp [go_sem]
  iterate 3 (rw [World.cell?_alloc_lt _ _ _ (show w.heap.size < _ by rw [e]; omega), World.cell?_alloc_new]; rfl)
  all_goals simp [go_sem]
def Rng (x : Int) : Prop := -9223372036854775808 ≤ x ∧ x ≤ 9223372036854775807
set_option maxRecDepth 100000 in
set_option maxHeartbeats 4000000 in
theorem make_own (n : Int) (v : Value) (ln : Nat) (ns : Nat → Int) (div : Bool) (w : World) (h : IntsF w v ln ns) (hn : Rng n) (hns : ∀ i, i < ln → Rng (ns i)) (op : Nat → OpD) (out : Nat → Int)
    (hop1 : ∀ i : Nat, (i : Int) < 1 + n % 3 → op i = ⟨1, i, 0, 0⟩) (hop2 : op (1 + n % 3).toNat = ⟨0, 0, 0, cst (n % 17 - 8) 4616189618054758400⟩)
    (hop3 : ∀ i : Nat, op ((1 + n % 3).toNat + 1 + i) = opOf (ns i) (((1 + n % 3).toNat + 1 + i : Nat) : Int) div)
    (hout : ∀ i : Nat, out i = (((1 + n % 3).toNat + 1 + min ln 8 : Nat) : Int) - 1 - (n.tdiv 3 + i) % (min 3 ((1 + n % 3).toNat + 1 + min ln 8) : Nat)) :
    Calls Try.prog 5 #[.int .i64 n, v, .bool div] w fun e w' => ∃ u, e = .returned u ∧ TapeOwn w' w.heap.size u ⟨1 + n % 3, (1 + n % 3).toNat + 1 + min ln 8, op, (1 + n % 3).toNat, out⟩ ∧ Below w.heap.size w w' := by
  obtain ⟨a, cap, rfl, hln, hcell⟩ := h
  have HC := Lib.hid hcell
  clear hcell
  have n1 := Int.emod_nonneg n (show (3 : Int) ≠ 0 by decide)
  have n2 := Int.emod_lt_of_pos n (show (0 : Int) < 3 by decide)
  obtain ⟨i55, hi, hz0, hz1, hz2⟩ := info_parts info55
  obtain ⟨i3, gi, gz0, gz1, gz2⟩ := info_parts info3
  have HI := Lib.hid (show i55.zero = _ ∧ i55.size = _ ∧ i55.bytes = _ from ⟨hz0, hz1, hz2⟩)
  have GI := Lib.hid (show i3.zero = _ ∧ i3.size = _ ∧ i3.bytes = _ from ⟨gz0, gz1, gz2⟩)
  have HI0 := Lib.hid hi
  have GI0 := Lib.hid gi
  clear hz0 hz1 hz2 gz0 gz1 gz2 hi gi
  have HNS := Lib.hid hns
  clear hns
  have H3 := Lib.hid hop3
  have H2 := Lib.hid hop2
  have HO := Lib.hid hout
  clear hop3 hop2 hout
  have m1 := Int.emod_nonneg n (show (17 : Int) ≠ 0 by decide)
  have m2 := Int.emod_lt_of_pos n (show (0 : Int) < 17 by decide)
  have W17 := Lib.hid fun W => within3_mod n 17 W (by decide) (by decide)
  have HK := Lib.hid (cst_val (x := n % 17 - 8) (d := 4616189618054758400) (by omega) (by omega) (by decide) (by decide))
  have W3 := fun W => within3_mod n 3 W (by decide) (by decide)
  go_enter Try.func5, Try.ntmps5
  go_wp2_with fail
  refine (W3 _).mono ?_
  rintro e w1 ⟨rfl, rfl⟩
  go_wp2_with fail
  have hm : MV w w.heap.size (1 + n % 3) (.slice none 0 0) (.slice none 0 0) ((w.alloc (.cells #[.int .i64 0, .slice none 0 0, .slice none 0 0] 26)).alloc (.cells #[.int .i64 (1 + n % 3), .slice none 0 0, .slice none 0 0] 26)) := MV.start _ _ _
  generalize (w.alloc (.cells #[.int .i64 0, .slice none 0 0, .slice none 0 0] 26)).alloc (.cells #[.int .i64 (1 + n % 3), .slice none 0 0, .slice none 0 0] 26) = W at *
  generalize hB : w.heap.size = B at *
  clear W3
  generalize hr : n % 3 = r at *
  go_loopw [8] (fun i wr => ∃ (j : Nat) (vo : Value), (j : Int) ≤ 1 + r ∧ i = .int .i64 j ∧ MV w B (1 + r) vo (.slice none 0 0) wr ∧ wr.ownsRow (B + 2) 47 4 vo j (opsL op j)) (fun i _ => (1 + r).toNat - (intOf i).toNat)
  case atStart => exact ⟨0, _, by omega, rfl, hm, World.ownsRow_nil _ _ _ _⟩
  case round =>
    clear hm
    obtain ⟨j, vo, hj, rfl, hm, hown⟩ := hrel
    by_cases hlt : (j : Int) < 1 + r
    · have hop := hop1 j hlt
      obtain ⟨c1, c2, c3, c4, c5, c6, c7, c8, c9, c10, c11, c12, c13, c14, c15⟩ := id hm
      go_wp2_with (first
        | (at_builtin; refine wpList_append_own _ rfl _ _ 24 rfl (B + 2) 47 i55 (.agg #[.int .i64 0, .int .i64 0, .int .i64 0, .float .f64 0]) 4 32 Try.underlying24 HI0.out HI.out.1 HI.out.2.1 HI.out.2.2 rfl (by decide) _ _ _ rfl (hown.alloc _) ⟨wr.heap.size, 0, none⟩ 1 1 (cellsO (op j)) rfl rfl ?c1 ?c2 ?c3 ?c4 ?c5 ?_)
        | go_in)
      case c1 =>
        intro k u hk
        rw [hop] at hk
        match k, hk with
        | 0, hk => simp [cellsO] at hk; subst hk; simp [Addr.add, go_sem]
        | 1, hk => simp [cellsO] at hk; subst hk; simp [Addr.add, go_sem]
        | 2, hk => simp [cellsO] at hk; subst hk; simp [Addr.add, go_sem]
        | 3, hk => simp [cellsO] at hk; subst hk; simp [Addr.add, go_sem]
        | k + 4, hk => simp [cellsO] at hk
      case c2 => intro u hu; simp only [cellsO, List.mem_cons, List.not_mem_nil, or_false] at hu; rcases hu with rfl | rfl | rfl | rfl <;> rfl
      case c3 => unfold maxLen; omega
      case c4 => omega
      case c5 => simp; omega
      intro v' w1 hown' hgrow _
      have hm1 := (hm.step ((Below.refl (B + 2) wr).alloc (by omega) _)).step (below_own (hown.alloc _) (Nat.le_refl _) (by simp; omega) hgrow)
      have ho1 : w1.ownsRow (B + 2) 47 4 v' (j + 1) (opsL op (j + 1)) := by rw [opsL, hop]; exact hown'
      obtain ⟨a', cap', rfl, -⟩ := own_slice ho1
      clear hown' hgrow hm hown c1 c2 c3 c4 c5 c6 c7 c8 c9 c10 c11 c12 c13 c14 c15
      obtain ⟨c1, c2, c3, c4, c5, c6, c7, c8, c9, c10, c11, c12, c13, c14, c15⟩ := id hm1
      go_wp2_with fail
      go_roundw
      case rel => exact ⟨j + 1, _, by omega, by go_num, hm1.set1 _, own_set ho1 (by omega)⟩
      case measure => simp [intOf]; omega
    · obtain ⟨va, vcap, rfl, -⟩ := own_slice hown
      have hjN : (1 + r).toNat = j := by omega
      obtain ⟨c1, c2, c3, c4, c5, c6, c7, c8, c9, c10, c11, c12, c13, c14, c15⟩ := id hm
      go_upto_region 6 with fail
      go_cut [] (fun wx => ∃ va vcap, MV w B (1 + r) (.slice va (j + 1) vcap) (.slice none 0 0) wx ∧ wx.ownsRow (B + 2) 47 4 (.slice va (j + 1) vcap) (j + 1) (opsL op (j + 1)))
      case first =>
        have hwr : IntKind.i64.wrap (n % 17 - 8) = n % 17 - 8 := IntWalk.i64_in _ (by omega)
        have hne : some (B + 1) ≠ (Value.slice va j vcap).ownBlock := fun e => by have := (hown.lt _ e.symm).1; omega
        have hcz : ∀ O, (wr.alloc O).drew.cell? ⟨B + 1, 1, none⟩ = some (.slice va j vcap) := fun O => (((Below.refl (B + 2) wr).alloc (by omega) O).cell (p := ⟨B + 1, 1, none⟩) (by simp)).trans c2
        have hfz : ∀ O, (wr.alloc O).drew.frozen? ⟨B + 1, 1, none⟩ = false := fun O => (((Below.refl (B + 2) wr).alloc (by omega) O).frozen (p := ⟨B + 1, 1, none⟩) (by simp)).trans c5
        have hk1 := HK.out.1
        have hk2 := HK.out.2.1
        have hk3 := HK.out.2.2
        generalize hC : cst (n % 17 - 8) 4616189618054758400 = kc at *
        go_region_law (first
          | (refine step_append_lies _ (by rfl) _ _ _ (by rfl) (B + 2) 47 i55 (.agg #[.int .i64 0, .int .i64 0, .int .i64 0, .float .f64 0]) 4 32 Try.underlying24 HI0.out HI.out.1 HI.out.2.1 HI.out.2.2 rfl (by decide) _ j (opsL op j) (by rfl) ((hown.alloc _).drew)
                ⟨wr.heap.size, 0, none⟩ 1 1 [.int .i64 0, .int .i64 0, .int .i64 0, .float .f64 kc] (by rfl) (by rfl) (World.news_of_block (cs := #[.int .i64 0, .int .i64 0, .int .i64 0, .float .f64 kc]) (t := 47) (fr := (0, 0)) (heap_alloc_new wr _)) (by simp [Value.oneCell']) (by omega) (by unfold maxLen; omega) (by omega) (by simp; omega) (wr.heap.size + 1) (by simp) ?_; intro gg cap1 w1 hown1 hgrow hat hlt1; have z1 := hgrow.cell (hcz _) hne; have z2 := (World.frozen?_of_block (a := ⟨B + 1, 1, none⟩) (hgrow.block (B + 1) (by simp; omega) hne)).trans (hfz _))
          | (go_simp; go_at_call 14; refine (W17.out _).mono ?_; rintro e w' ⟨rfl, rfl⟩))
        all_goals
          have hm1 := (hm.step (((Below.refl (B + 2) wr).alloc (by omega) _).drew)).step (below_own ((hown.alloc _).drew) (Nat.le_refl _) (by simp; omega) hgrow)
          have h2 := H2.out
          have ho1 : w1.ownsRow (B + 2) 47 4 (.slice (some ⟨gg, 0, none⟩) (j + 1) cap1) (j + 1) (opsL op (j + 1)) := by rw [opsL, ← hjN, h2, hjN]; exact hown1
          go_wp2_with fail
          go_meet
          exact ⟨_, _, hm1.set1 _, own_set ho1 (by omega)⟩
      case rest =>
        clear hm hown c1 c2 c3 c4 c5 c6 c7 c8 c9 c10 c11 c12 c13 c14 c15
        obtain ⟨va, vcap, hm, hown⟩ := hcut
        obtain ⟨c1, c2, c3, c4, c5, c6, c7, c8, c9, c10, c11, c12, c13, c14, c15⟩ := id hm
        go_upto_block 2 with fail
        go_cut [] (fun wx => ∃ va vcap, MV w B (1 + r) (.slice va (j + 1 + min ln 8) vcap) (.slice none 0 0) wx ∧ wx.ownsRow (B + 2) 47 4 (.slice va (j + 1 + min ln 8) vcap) (j + 1 + min ln 8) (opsL op (j + 1 + min ln 8)))
        case first =>
          go_wp2_with fail
          go_loopw [9] (fun i wr => ∃ (m : Nat) (va : Option Addr) (vcap : Nat), m ≤ ln ∧ m ≤ 8 ∧ i = .int .i64 m ∧ MV w B (1 + r) (.slice va (j + 1 + m) vcap) (.slice none 0 0) wr ∧ wr.ownsRow (B + 2) 47 4 (.slice va (j + 1 + m) vcap) (j + 1 + m) (opsL op (j + 1 + m))) (fun i _ => 8 - (intOf i).toNat)
          case atStart => exact ⟨0, _, _, by omega, by omega, rfl, hm, hown⟩
          case round =>
            clear hm hown c1 c2 c3 c4 c5 c6 c7 c8 c9 c10 c11 c12 c13 c14 c15
            obtain ⟨m, va, vcap, hm1, hm2, rfl, hm, hown⟩ := hrel
            obtain ⟨c1, c2, c3, c4, c5, c6, c7, c8, c9, c10, c11, c12, c13, c14, c15⟩ := id hm
            by_cases hlt : m < ln
            · by_cases h8 : m < 8
              · obtain ⟨b, off, rfl, hbs, hc⟩ := HC.out (by omega)
                have hcl := hc m hlt
                rw [← (belowC (show Below w.heap.size w wr by rw [hB]; exact c15)).1 _ _ (by rw [hB]; exact hbs)] at hcl
                have hk := HNS.out m hlt
                have ho3 := H3.out m
                rw [hjN] at ho3
                clear hc
                generalize ns m = k at *
                obtain ⟨k1, k2⟩ := hk
                have WK := fun W => within3_mod k 3 W (by decide) (by decide)
                go_wp2_with fail
                refine (WK _).mono ?_
                rintro e w2 ⟨rfl, rfl⟩
                have b1 := Int.emod_nonneg k (show (3 : Int) ≠ 0 by decide)
                have b2 := Int.emod_lt_of_pos k (show (0 : Int) < 3 by decide)
                generalize hk3 : k % 3 = k3 at *
                clear WK
                go_wp2_with fail
                refine (within3_mod _ _ _ (by omega) (by omega)).mono ?_
                rintro e w2 ⟨rfl, rfl⟩
                generalize hka : k.tdiv 4 % ((j : Int) + 1 + m) = ka at *
                go_wp2_with fail
                refine (within3_mod _ _ _ (by omega) (by omega)).mono ?_
                rintro e w2 ⟨rfl, rfl⟩
                generalize hkb : k.tdiv 40 % ((j : Int) + 1 + m) = kb at *
                have hsz := c13
                have own1 := hown.alloc (.cells #[.int .i64 (2 + k3), .int .i64 ka, .int .i64 kb, .float .f64 0] 47)
                have mv1 := hm.step ((Below.refl (B + 2) wr).alloc (by omega) (.cells #[.int .i64 (2 + k3), .int .i64 ka, .int .i64 kb, .float .f64 0] 47))
                have box1 := Box4.new ⟨2 + k3, ka, kb, 0⟩ wr 47
                go_upto_region 13 with fail
                have fz : ∀ o, (wr.alloc (.cells #[.int .i64 (2 + k3), .int .i64 ka, .int .i64 kb, .float .f64 0] 47)).frozen? ⟨wr.heap.size, o, none⟩ = false := fun o => by simp [go_sem]
                have f0 := fz 0
                have f1 := fz 1
                have f2 := fz 2
                have f3 := fz 3
                have hvx : (Value.slice va (j + 1 + m) vcap).ownBlock ≠ some wr.heap.size := fun e => by have := (hown.lt _ e).2; omega
                have hX : B + 2 ≤ wr.heap.size := by omega
                have hW : (wr.alloc (.cells #[.int .i64 (2 + k3), .int .i64 ka, .int .i64 kb, .float .f64 0] 47)).heap.size = wr.heap.size + 1 := by simp
                clear fz c1 c2 c3 c4 c5 c6 c7 c8 c9 c10 c11 c12 c13 c14 c15 hsz hcl hm hown
                obtain ⟨d0, d1, d2, d3, d4⟩ := id box1
                simp only [] at d0 d1 d2 d3
                generalize wr.alloc (.cells #[.int .i64 (2 + k3), .int .i64 ka, .int .i64 kb, .float .f64 0] 47) = W1 at *
                generalize wr.heap.size = X at *
                obtain ⟨c1, c2, c3, c4, c5, c6, c7, c8, c9, c10, c11, c12, c13, c14, c15⟩ := id mv1
                have hXB : X ≠ B + 1 := by omega
                have hBX := hXB.symm
                have hW' := Nat.le_of_eq hW
                have hW2 := Nat.le_of_eq hW.symm
                clear hW box1
                by_cases e11 : k % 11 = 0
                · have hop : op (j + 1 + m) = ⟨0, 0, 0, cst (k.tdiv 11 % 33 - 16) 4620693217682128896⟩ := by
                    rw [ho3]
                    unfold opOf
                    rw [if_pos e11]
                  have g1 := Int.emod_nonneg (k.tdiv 11) (show (33 : Int) ≠ 0 by decide)
                  have g2 := Int.emod_lt_of_pos (k.tdiv 11) (show (0 : Int) < 33 by decide)
                  have hkv := cst_val (x := k.tdiv 11 % 33 - 16) (d := 4620693217682128896) (by omega) (by omega) (by decide) (by decide)
                  have q11 : (k % 11 == 0) = true := by simp; exact e11
                  generalize cst (k.tdiv 11 % 33 - 16) 4620693217682128896 = kc at *
                  have hk1 := hkv.1
                  have hk2 := hkv.2.1
                  clear hkv e11 ho3
                  cases div
                  · have mvf := mv1.step ((((((Below.refl (B + 2) W1).setCell (p := ⟨X, 0, none⟩) hX (.int .i64 0)).setCell (p := ⟨X, 1, none⟩) hX (.int .i64 0)).setCell (p := ⟨X, 2, none⟩) hX (.int .i64 0)).setCell (p := ⟨X, 3, none⟩) hX (.float .f64 kc)))
                    go_wp2_with (first
                      | (go_at_call 14; refine (within3_mod _ _ _ (by decide) (by decide)).mono ?_; rintro e w3 ⟨rfl, rfl⟩)
                      | (at_builtin; refine wpList_append_own _ rfl _ _ 24 rfl (B + 2) 47 i55 (.agg #[.int .i64 0, .int .i64 0, .int .i64 0, .float .f64 0]) 4 32 Try.underlying24 HI0.out HI.out.1 HI.out.2.1 HI.out.2.2 rfl (by decide) (.slice va (j + 1 + m) vcap) (j + 1 + m) (opsL op (j + 1 + m)) rfl (World.ownsRow.alloc (own_setN (own_setN (own_setN (own_setN own1 hvx) hvx) hvx) hvx) _) ⟨W1.heap.size, 0, none⟩ 1 1 [.int .i64 0, .int .i64 0, .int .i64 0, .float .f64 kc] rfl rfl (World.news_of_block (cs := #[.int .i64 0, .int .i64 0, .int .i64 0, .float .f64 kc]) (t := 47) (fr := (0, 0)) (heap_new_at (w := ((((W1.setCell ⟨X, 0, none⟩ (.int .i64 0)).setCell ⟨X, 1, none⟩ (.int .i64 0)).setCell ⟨X, 2, none⟩ (.int .i64 0)).setCell ⟨X, 3, none⟩ (.float .f64 kc))) (by simp [World.setCell]))) (by simp [Value.oneCell']) (by unfold maxLen; omega) (by omega) (by have := mvf.2.2.2.2.2.2.2.2.2.2.2.2.1; simp; omega) ?_)
                      | go_in)
                    intro v' w1 hown' hgrow _
                    have hm1 := (mvf.step ((Below.refl (B + 2) ((((W1.setCell ⟨X, 0, none⟩ (.int .i64 0)).setCell ⟨X, 1, none⟩ (.int .i64 0)).setCell ⟨X, 2, none⟩ (.int .i64 0)).setCell ⟨X, 3, none⟩ (.float .f64 kc))).alloc (by have := mvf.2.2.2.2.2.2.2.2.2.2.2.2.1; omega) _)).step (below_own (World.ownsRow.alloc (own_setN (own_setN (own_setN (own_setN own1 hvx) hvx) hvx) hvx) _) (Nat.le_refl _) (by have := mvf.2.2.2.2.2.2.2.2.2.2.2.2.1; simp; omega) hgrow)
                    have ho1 : w1.ownsRow (B + 2) 47 4 v' (j + 1 + (m + 1)) (opsL op (j + 1 + (m + 1))) := by
                      show w1.ownsRow (B + 2) 47 4 v' (j + 1 + m + 1) (opsL op (j + 1 + m) ++ cellsO (op (j + 1 + m)))
                      rw [hop]; exact hown'
                    obtain ⟨a', cap', rfl, -⟩ := own_slice ho1
                    clear hown' hgrow own1 mv1 mvf d0 d1 d2 d3 d4 c1 c2 c3 c4 c5 c6 c7 c8 c9 c10 c11 c12 c13 c14 c15
                    obtain ⟨c1, c2, c3, c4, c5, c6, c7, c8, c9, c10, c11, c12, c13, c14, c15⟩ := id hm1
                    go_wp2_with fail
                    go_roundw
                    case rel => exact ⟨m + 1, _, _, by omega, by omega, by go_num, hm1.set1 _, own_set ho1 (by omega)⟩
                    case measure => simp [intOf]; omega
                  · by_cases e7 : k % 7 = 0
                    · have q7 : (k % 7 == 0) = true := by simp; exact e7
                      clear e7
                      have mvf := mv1.step (((((((Below.refl (B + 2) W1).setCell (p := ⟨X, 0, none⟩) hX (.int .i64 5)).setCell (p := ⟨X, 0, none⟩) hX (.int .i64 0)).setCell (p := ⟨X, 1, none⟩) hX (.int .i64 0)).setCell (p := ⟨X, 2, none⟩) hX (.int .i64 0)).setCell (p := ⟨X, 3, none⟩) hX (.float .f64 kc)))
                      go_wp2_with (first
                        | (go_at_call 14; refine (within3_mod _ _ _ (by decide) (by decide)).mono ?_; rintro e w3 ⟨rfl, rfl⟩)
                        | (at_builtin; refine wpList_append_own _ rfl _ _ 24 rfl (B + 2) 47 i55 (.agg #[.int .i64 0, .int .i64 0, .int .i64 0, .float .f64 0]) 4 32 Try.underlying24 HI0.out HI.out.1 HI.out.2.1 HI.out.2.2 rfl (by decide) (.slice va (j + 1 + m) vcap) (j + 1 + m) (opsL op (j + 1 + m)) rfl (World.ownsRow.alloc (own_setN (own_setN (own_setN (own_setN (own_setN own1 hvx) hvx) hvx) hvx) hvx) _) ⟨W1.heap.size, 0, none⟩ 1 1 [.int .i64 0, .int .i64 0, .int .i64 0, .float .f64 kc] rfl rfl (World.news_of_block (cs := #[.int .i64 0, .int .i64 0, .int .i64 0, .float .f64 kc]) (t := 47) (fr := (0, 0)) (heap_new_at (w := (((((W1.setCell ⟨X, 0, none⟩ (.int .i64 5)).setCell ⟨X, 0, none⟩ (.int .i64 0)).setCell ⟨X, 1, none⟩ (.int .i64 0)).setCell ⟨X, 2, none⟩ (.int .i64 0)).setCell ⟨X, 3, none⟩ (.float .f64 kc))) (by simp [World.setCell]))) (by simp [Value.oneCell']) (by unfold maxLen; omega) (by omega) (by have := mvf.2.2.2.2.2.2.2.2.2.2.2.2.1; simp; omega) ?_)
                        | go_in)
                      intro v' w1 hown' hgrow _
                      have hm1 := (mvf.step ((Below.refl (B + 2) (((((W1.setCell ⟨X, 0, none⟩ (.int .i64 5)).setCell ⟨X, 0, none⟩ (.int .i64 0)).setCell ⟨X, 1, none⟩ (.int .i64 0)).setCell ⟨X, 2, none⟩ (.int .i64 0)).setCell ⟨X, 3, none⟩ (.float .f64 kc))).alloc (by have := mvf.2.2.2.2.2.2.2.2.2.2.2.2.1; omega) _)).step (below_own (World.ownsRow.alloc (own_setN (own_setN (own_setN (own_setN (own_setN own1 hvx) hvx) hvx) hvx) hvx) _) (Nat.le_refl _) (by have := mvf.2.2.2.2.2.2.2.2.2.2.2.2.1; simp; omega) hgrow)
                      have ho1 : w1.ownsRow (B + 2) 47 4 v' (j + 1 + (m + 1)) (opsL op (j + 1 + (m + 1))) := by
                        show w1.ownsRow (B + 2) 47 4 v' (j + 1 + m + 1) (opsL op (j + 1 + m) ++ cellsO (op (j + 1 + m)))
                        rw [hop]; exact hown'
                      obtain ⟨a', cap', rfl, -⟩ := own_slice ho1
                      clear hown' hgrow own1 mv1 mvf d0 d1 d2 d3 d4 c1 c2 c3 c4 c5 c6 c7 c8 c9 c10 c11 c12 c13 c14 c15
                      obtain ⟨c1, c2, c3, c4, c5, c6, c7, c8, c9, c10, c11, c12, c13, c14, c15⟩ := id hm1
                      go_wp2_with fail
                      go_roundw
                      case rel => exact ⟨m + 1, _, _, by omega, by omega, by go_num, hm1.set1 _, own_set ho1 (by omega)⟩
                      case measure => simp [intOf]; omega
                    · have q7 : (k % 7 == 0) = false := by simp; exact e7
                      clear e7
                      have mvf := mv1.step ((((((Below.refl (B + 2) W1).setCell (p := ⟨X, 0, none⟩) hX (.int .i64 0)).setCell (p := ⟨X, 1, none⟩) hX (.int .i64 0)).setCell (p := ⟨X, 2, none⟩) hX (.int .i64 0)).setCell (p := ⟨X, 3, none⟩) hX (.float .f64 kc)))
                      go_wp2_with (first
                        | (go_at_call 14; refine (within3_mod _ _ _ (by decide) (by decide)).mono ?_; rintro e w3 ⟨rfl, rfl⟩)
                        | (at_builtin; refine wpList_append_own _ rfl _ _ 24 rfl (B + 2) 47 i55 (.agg #[.int .i64 0, .int .i64 0, .int .i64 0, .float .f64 0]) 4 32 Try.underlying24 HI0.out HI.out.1 HI.out.2.1 HI.out.2.2 rfl (by decide) (.slice va (j + 1 + m) vcap) (j + 1 + m) (opsL op (j + 1 + m)) rfl (World.ownsRow.alloc (own_setN (own_setN (own_setN (own_setN own1 hvx) hvx) hvx) hvx) _) ⟨W1.heap.size, 0, none⟩ 1 1 [.int .i64 0, .int .i64 0, .int .i64 0, .float .f64 kc] rfl rfl (World.news_of_block (cs := #[.int .i64 0, .int .i64 0, .int .i64 0, .float .f64 kc]) (t := 47) (fr := (0, 0)) (heap_new_at (w := ((((W1.setCell ⟨X, 0, none⟩ (.int .i64 0)).setCell ⟨X, 1, none⟩ (.int .i64 0)).setCell ⟨X, 2, none⟩ (.int .i64 0)).setCell ⟨X, 3, none⟩ (.float .f64 kc))) (by simp [World.setCell]))) (by simp [Value.oneCell']) (by unfold maxLen; omega) (by omega) (by have := mvf.2.2.2.2.2.2.2.2.2.2.2.2.1; simp; omega) ?_)
                        | go_in)
                      intro v' w1 hown' hgrow _
                      have hm1 := (mvf.step ((Below.refl (B + 2) ((((W1.setCell ⟨X, 0, none⟩ (.int .i64 0)).setCell ⟨X, 1, none⟩ (.int .i64 0)).setCell ⟨X, 2, none⟩ (.int .i64 0)).setCell ⟨X, 3, none⟩ (.float .f64 kc))).alloc (by have := mvf.2.2.2.2.2.2.2.2.2.2.2.2.1; omega) _)).step (below_own (World.ownsRow.alloc (own_setN (own_setN (own_setN (own_setN own1 hvx) hvx) hvx) hvx) _) (Nat.le_refl _) (by have := mvf.2.2.2.2.2.2.2.2.2.2.2.2.1; simp; omega) hgrow)
                      have ho1 : w1.ownsRow (B + 2) 47 4 v' (j + 1 + (m + 1)) (opsL op (j + 1 + (m + 1))) := by
                        show w1.ownsRow (B + 2) 47 4 v' (j + 1 + m + 1) (opsL op (j + 1 + m) ++ cellsO (op (j + 1 + m)))
                        rw [hop]; exact hown'
                      obtain ⟨a', cap', rfl, -⟩ := own_slice ho1
                      clear hown' hgrow own1 mv1 mvf d0 d1 d2 d3 d4 c1 c2 c3 c4 c5 c6 c7 c8 c9 c10 c11 c12 c13 c14 c15
                      obtain ⟨c1, c2, c3, c4, c5, c6, c7, c8, c9, c10, c11, c12, c13, c14, c15⟩ := id hm1
                      go_wp2_with fail
                      go_roundw
                      case rel => exact ⟨m + 1, _, _, by omega, by omega, by go_num, hm1.set1 _, own_set ho1 (by omega)⟩
                      case measure => simp [intOf]; omega
                · have q11 : (k % 11 == 0) = false := by simp; exact e11
                  by_cases e5 : div = true ∧ k % 7 = 0
                  · have hop : op (j + 1 + m) = ⟨5, ka, kb, 0⟩ := by
                      rw [ho3]
                      unfold opOf
                      rw [if_neg e11, if_pos e5, ← hka, ← hkb]
                      rfl
                    obtain ⟨e51, e7⟩ := e5
                    have q7 : (k % 7 == 0) = true := by simp; exact e7
                    subst e51
                    clear e11 e7 ho3
                    have mvf := mv1.step (((Below.refl (B + 2) W1).setCell (p := ⟨X, 0, none⟩) hX (.int .i64 5)))
                    go_wp2_with (first
                      | (go_at_call 14; refine (within3_mod _ _ _ (by decide) (by decide)).mono ?_; rintro e w3 ⟨rfl, rfl⟩)
                      | (at_builtin; refine wpList_append_own _ rfl _ _ 24 rfl (B + 2) 47 i55 (.agg #[.int .i64 0, .int .i64 0, .int .i64 0, .float .f64 0]) 4 32 Try.underlying24 HI0.out HI.out.1 HI.out.2.1 HI.out.2.2 rfl (by decide) (.slice va (j + 1 + m) vcap) (j + 1 + m) (opsL op (j + 1 + m)) rfl (World.ownsRow.alloc (own_setN own1 hvx) _) ⟨W1.heap.size, 0, none⟩ 1 1 [.int .i64 5, .int .i64 ka, .int .i64 kb, .float .f64 0] rfl rfl (World.news_of_block (cs := #[.int .i64 5, .int .i64 ka, .int .i64 kb, .float .f64 0]) (t := 47) (fr := (0, 0)) (heap_new_at (w := (W1.setCell ⟨X, 0, none⟩ (.int .i64 5))) (by simp [World.setCell]))) (by simp [Value.oneCell']) (by unfold maxLen; omega) (by omega) (by have := mvf.2.2.2.2.2.2.2.2.2.2.2.2.1; simp; omega) ?_)
                      | go_in)
                    intro v' w1 hown' hgrow _
                    have hm1 := (mvf.step ((Below.refl (B + 2) (W1.setCell ⟨X, 0, none⟩ (.int .i64 5))).alloc (by have := mvf.2.2.2.2.2.2.2.2.2.2.2.2.1; omega) _)).step (below_own (World.ownsRow.alloc (own_setN own1 hvx) _) (Nat.le_refl _) (by have := mvf.2.2.2.2.2.2.2.2.2.2.2.2.1; simp; omega) hgrow)
                    have ho1 : w1.ownsRow (B + 2) 47 4 v' (j + 1 + (m + 1)) (opsL op (j + 1 + (m + 1))) := by
                      show w1.ownsRow (B + 2) 47 4 v' (j + 1 + m + 1) (opsL op (j + 1 + m) ++ cellsO (op (j + 1 + m)))
                      rw [hop]; exact hown'
                    obtain ⟨a', cap', rfl, -⟩ := own_slice ho1
                    clear hown' hgrow own1 mv1 mvf d0 d1 d2 d3 d4 c1 c2 c3 c4 c5 c6 c7 c8 c9 c10 c11 c12 c13 c14 c15
                    obtain ⟨c1, c2, c3, c4, c5, c6, c7, c8, c9, c10, c11, c12, c13, c14, c15⟩ := id hm1
                    go_wp2_with fail
                    go_roundw
                    case rel => exact ⟨m + 1, _, _, by omega, by omega, by go_num, hm1.set1 _, own_set ho1 (by omega)⟩
                    case measure => simp [intOf]; omega
                  · have hop : op (j + 1 + m) = ⟨2 + k3, ka, kb, 0⟩ := by
                      rw [ho3]
                      unfold opOf
                      rw [if_neg e11, if_neg e5, ← hka, ← hkb, ← hk3]
                      rfl
                    cases div
                    · clear e11 e5 ho3
                      have mvf := mv1.step ((Below.refl (B + 2) W1))
                      go_wp2_with (first
                        | (go_at_call 14; refine (within3_mod _ _ _ (by decide) (by decide)).mono ?_; rintro e w3 ⟨rfl, rfl⟩)
                        | (at_builtin; refine wpList_append_own _ rfl _ _ 24 rfl (B + 2) 47 i55 (.agg #[.int .i64 0, .int .i64 0, .int .i64 0, .float .f64 0]) 4 32 Try.underlying24 HI0.out HI.out.1 HI.out.2.1 HI.out.2.2 rfl (by decide) (.slice va (j + 1 + m) vcap) (j + 1 + m) (opsL op (j + 1 + m)) rfl (World.ownsRow.alloc own1 _) ⟨W1.heap.size, 0, none⟩ 1 1 [.int .i64 (2 + k3), .int .i64 ka, .int .i64 kb, .float .f64 0] rfl rfl (World.news_of_block (cs := #[.int .i64 (2 + k3), .int .i64 ka, .int .i64 kb, .float .f64 0]) (t := 47) (fr := (0, 0)) (heap_alloc_new W1 _)) (by simp [Value.oneCell']) (by unfold maxLen; omega) (by omega) (by have := mvf.2.2.2.2.2.2.2.2.2.2.2.2.1; simp; omega) ?_)
                        | go_in)
                      intro v' w1 hown' hgrow _
                      have hm1 := (mvf.step ((Below.refl (B + 2) W1).alloc (by have := mvf.2.2.2.2.2.2.2.2.2.2.2.2.1; omega) _)).step (below_own (World.ownsRow.alloc own1 _) (Nat.le_refl _) (by have := mvf.2.2.2.2.2.2.2.2.2.2.2.2.1; simp; omega) hgrow)
                      have ho1 : w1.ownsRow (B + 2) 47 4 v' (j + 1 + (m + 1)) (opsL op (j + 1 + (m + 1))) := by
                        show w1.ownsRow (B + 2) 47 4 v' (j + 1 + m + 1) (opsL op (j + 1 + m) ++ cellsO (op (j + 1 + m)))
                        rw [hop]; exact hown'
                      obtain ⟨a', cap', rfl, -⟩ := own_slice ho1
                      clear hown' hgrow own1 mv1 mvf d0 d1 d2 d3 d4 c1 c2 c3 c4 c5 c6 c7 c8 c9 c10 c11 c12 c13 c14 c15
                      obtain ⟨c1, c2, c3, c4, c5, c6, c7, c8, c9, c10, c11, c12, c13, c14, c15⟩ := id hm1
                      go_wp2_with fail
                      go_roundw
                      case rel => exact ⟨m + 1, _, _, by omega, by omega, by go_num, hm1.set1 _, own_set ho1 (by omega)⟩
                      case measure => simp [intOf]; omega
                    · have e7 : ¬ k % 7 = 0 := fun e => e5 ⟨rfl, e⟩
                      have q7 : (k % 7 == 0) = false := by simp; exact e7
                      clear e11 e5 ho3 e7
                      have mvf := mv1.step ((Below.refl (B + 2) W1))
                      go_wp2_with (first
                        | (go_at_call 14; refine (within3_mod _ _ _ (by decide) (by decide)).mono ?_; rintro e w3 ⟨rfl, rfl⟩)
                        | (at_builtin; refine wpList_append_own _ rfl _ _ 24 rfl (B + 2) 47 i55 (.agg #[.int .i64 0, .int .i64 0, .int .i64 0, .float .f64 0]) 4 32 Try.underlying24 HI0.out HI.out.1 HI.out.2.1 HI.out.2.2 rfl (by decide) (.slice va (j + 1 + m) vcap) (j + 1 + m) (opsL op (j + 1 + m)) rfl (World.ownsRow.alloc own1 _) ⟨W1.heap.size, 0, none⟩ 1 1 [.int .i64 (2 + k3), .int .i64 ka, .int .i64 kb, .float .f64 0] rfl rfl (World.news_of_block (cs := #[.int .i64 (2 + k3), .int .i64 ka, .int .i64 kb, .float .f64 0]) (t := 47) (fr := (0, 0)) (heap_alloc_new W1 _)) (by simp [Value.oneCell']) (by unfold maxLen; omega) (by omega) (by have := mvf.2.2.2.2.2.2.2.2.2.2.2.2.1; simp; omega) ?_)
                        | go_in)
                      intro v' w1 hown' hgrow _
                      have hm1 := (mvf.step ((Below.refl (B + 2) W1).alloc (by have := mvf.2.2.2.2.2.2.2.2.2.2.2.2.1; omega) _)).step (below_own (World.ownsRow.alloc own1 _) (Nat.le_refl _) (by have := mvf.2.2.2.2.2.2.2.2.2.2.2.2.1; simp; omega) hgrow)
                      have ho1 : w1.ownsRow (B + 2) 47 4 v' (j + 1 + (m + 1)) (opsL op (j + 1 + (m + 1))) := by
                        show w1.ownsRow (B + 2) 47 4 v' (j + 1 + m + 1) (opsL op (j + 1 + m) ++ cellsO (op (j + 1 + m)))
                        rw [hop]; exact hown'
                      obtain ⟨a', cap', rfl, -⟩ := own_slice ho1
                      clear hown' hgrow own1 mv1 mvf d0 d1 d2 d3 d4 c1 c2 c3 c4 c5 c6 c7 c8 c9 c10 c11 c12 c13 c14 c15
                      obtain ⟨c1, c2, c3, c4, c5, c6, c7, c8, c9, c10, c11, c12, c13, c14, c15⟩ := id hm1
                      go_wp2_with fail
                      go_roundw
                      case rel => exact ⟨m + 1, _, _, by omega, by omega, by go_num, hm1.set1 _, own_set ho1 (by omega)⟩
                      case measure => simp [intOf]; omega
              · obtain rfl : m = 8 := by omega
                have hmin : min ln 8 = 8 := by omega
                clear h8
                go_wp2_with fail
                all_goals (go_meet; rw [hmin]; exact ⟨_, _, hm, hown⟩)
            · obtain rfl : m = ln := by omega
              have hmin : min m 8 = m := by omega
              go_wp2_with fail
              all_goals (go_meet; rw [hmin]; exact ⟨_, _, hm, hown⟩)
        case rest =>
          clear hm hown c1 c2 c3 c4 c5 c6 c7 c8 c9 c10 c11 c12 c13 c14 c15
          obtain ⟨va, vcap, hm, hown⟩ := hcut
          obtain ⟨c1, c2, c3, c4, c5, c6, c7, c8, c9, c10, c11, c12, c13, c14, c15⟩ := id hm
          go_wp2_with fail
          have hH : ∀ k, (Value.slice va (j + 1 + min ln 8) vcap).ownBlock = some k → k < wc.heap.size := fun k e => (hown.lt k e).2
          have hHB : B + 2 ≤ wc.heap.size := by omega
          generalize hL : j + 1 + min ln 8 = L at *
          generalize hHe : wc.heap.size = H at *
          have hL1 : 2 ≤ L := by omega
          have hL2 : L ≤ 12 := by omega
          go_loopw [13] (fun i wr => ∃ (q : Nat) (ua : Option Addr) (ucap : Nat), q ≤ j ∧ i = .int .i64 q ∧ MV w B (1 + r) (.slice va L vcap) (.slice ua q ucap) wr ∧ H ≤ wr.heap.size ∧ wr.ownsRow H 3 1 (.slice ua q ucap) q (intsL out q) ∧ wr.ownsRow (B + 2) 47 4 (.slice va L vcap) L (opsL op L)) (fun i _ => j - (intOf i).toNat)
          case atStart => exact ⟨0, _, _, by omega, rfl, hm, by omega, World.ownsRow_nil _ _ _ _, hown⟩
          case round =>
            clear hm hown c1 c2 c3 c4 c5 c6 c7 c8 c9 c10 c11 c12 c13 c14 c15
            obtain ⟨q, ua, ucap, hq, rfl, hm, hHs, hu, hown⟩ := hrel
            obtain ⟨c1, c2, c3, c4, c5, c6, c7, c8, c9, c10, c11, c12, c13, c14, c15⟩ := id hm
            by_cases hlt : q < j
            · have tb : -3074457345618258603 ≤ n.tdiv 3 ∧ n.tdiv 3 ≤ 3074457345618258603 := by
                have := Int.natAbs_tdiv n 3
                have e3 : (3 : Int).natAbs = 3 := rfl
                rw [e3] at this
                have := hn.1
                have := hn.2
                have : n.natAbs / 3 = n.natAbs.div 3 := rfl
                omega
              have ho := HO.out q
              rw [hjN, hL] at ho
              have w1 : IntKind.i64.wrap ((L : Int) - 1) = (L : Int) - 1 := IntWalk.i64_in _ (by omega)
              have w2 : IntKind.i64.wrap (n.tdiv 3) = n.tdiv 3 := IntWalk.i64_in _ (by omega)
              have w3 : IntKind.i64.wrap (n.tdiv 3 + (q : Int)) = n.tdiv 3 + (q : Int) := IntWalk.i64_in _ (by omega)
              have hM : ((min 3 L : Nat) : Int) = if (L : Int) < 3 then (L : Int) else 3 := by split <;> omega
              have hM1 : 1 ≤ (if (L : Int) < 3 then (L : Int) else 3) ∧ (if (L : Int) < 3 then (L : Int) else 3) ≤ 3 := by split <;> omega
              rw [hM] at ho
              have m1 := Int.emod_nonneg (n.tdiv 3 + (q : Int)) (show (if (L : Int) < 3 then (L : Int) else 3) ≠ 0 by omega)
              have m2 := Int.emod_lt_of_pos (n.tdiv 3 + (q : Int)) (show 0 < (if (L : Int) < 3 then (L : Int) else 3) by omega)
              have WM := Lib.hid fun W => within3_mod (n.tdiv 3 + (q : Int)) (if (L : Int) < 3 then (L : Int) else 3) W (by omega) (by omega)
              generalize hx : (n.tdiv 3 + (q : Int)) % (if (L : Int) < 3 then (L : Int) else 3) = x at *
              have x1 : x < 3 := by omega
              clear m2 hM hM1
              have w4 : IntKind.i64.wrap ((L : Int) - 1 - x) = (L : Int) - 1 - x := IntWalk.i64_in _ (by omega)
              have hne : some (B + 1) ≠ (Value.slice ua q ucap).ownBlock := fun e => by have := (hu.lt _ e.symm).1; omega
              have hcz : ∀ O, (wr.alloc O).drew.cell? ⟨B + 1, 2, none⟩ = some (.slice ua q ucap) := fun O => (((Below.refl (B + 2) wr).alloc (by omega) O).cell (p := ⟨B + 1, 2, none⟩) (by simp)).trans c3
              have hfz : ∀ O, (wr.alloc O).drew.frozen? ⟨B + 1, 2, none⟩ = false := fun O => (((Below.refl (B + 2) wr).alloc (by omega) O).frozen (p := ⟨B + 1, 2, none⟩) (by simp)).trans c6
              have ho' := Lib.hid ho
              have hm' := Lib.hid hm
              have hu' := Lib.hid hu
              have hown' := Lib.hid hown
              have c15' := Lib.hid c15
              clear hx ho hm hu hown c7 c8 c9 c10 c11 c12 c14 c15 HC HNS H3 H2 W17 HK HI HI0 hop1 hn tb HO m1 x1
              have hH' := Lib.hid hH
              clear hH
              clear n1 n2
              go_wp2_with fail
              have hBw : B + 2 ≤ wr.heap.size := by omega
              refine wp_region_ordR [(0, 1), (1, 3), (2, 1), (3, 3), (4, 1), (5, 1), (6, 1), (7, 1), (8, 1), (9, 1), (10, 1), (11, 3), (12, 1), (13, 1), (14, 0), (15, 1), (16, 0), (17, 0), (18, 1), (19, 0)] (fun W => W.cell? ⟨B + 1, 1, none⟩ = some (.slice va L vcap) ∧ W.cell? ⟨B + 1, 2, none⟩ = some (.slice ua q ucap)) (by kernel_rfl) (by kernel_rfl) (fun _ _ d _ _ h => by cases d <;> exact h) (⟨c2, c3⟩) ?_
              intro Z hZ hrZ
              have hbZ : Below wr.heap.size wr Z := by rw [hZ]; exact (Below.refl _ _).drew
              clear hZ
              iterate 1
                first
                  | refine wpOrd_pure (fun K hK => ?_)
                  | refine wpOrd_take (fun K hK => ?_)
                go_simp
                refine hK _ ?_
                clear hK K
              refine wpOrd_keep (v := .slice ua q ucap) rfl rfl (fun wk hwk => ?_) ?_
              · obtain ⟨k1, k2⟩ := hwk
                go_simp
              iterate 1
                first
                  | refine wpOrd_pure (fun K hK => ?_)
                  | refine wpOrd_take (fun K hK => ?_)
                go_simp
                refine hK _ ?_
                clear hK K
              refine wpOrd_keep (v := .slice va L vcap) rfl rfl (fun wk hwk => ?_) ?_
              · obtain ⟨k1, k2⟩ := hwk
                go_simp
              iterate 7
                first
                  | refine wpOrd_pure (fun K hK => ?_)
                  | refine wpOrd_take (fun K hK => ?_)
                go_simp
                refine hK _ ?_
                clear hK K
              refine wpOrd_keep (v := .slice va L vcap) rfl rfl (fun wk hwk => ?_) ?_
              · obtain ⟨k1, k2⟩ := hwk
                go_simp
              iterate 2
                first
                  | refine wpOrd_pure (fun K hK => ?_)
                  | refine wpOrd_take (fun K hK => ?_)
                go_simp
                refine hK _ ?_
                clear hK K
              refine wpOrd_doR (fun K hK => ?_)
              go_simp
              refine (WM.out _).mono ?_
              rintro e w' ⟨rfl, rfl⟩
              refine hK _ _ (fun h => Bool.noConfusion (Eq.trans (Eq.symm (by kernel_rfl : _ = false)) h)) (fun _ => hrZ) ?_
              clear hK K
              iterate 1
                first
                  | refine wpOrd_pure (fun K hK => ?_)
                  | refine wpOrd_take (fun K hK => ?_)
                go_simp
                refine hK _ ?_
                clear hK K
              refine wpOrd_doR (fun K hK => ?_)
              go_simp
              have hal : Below Z.heap.size Z (Z.alloc (.cells #[.int .i64 ((L : Int) - 1 - x)] 3)) := (Below.refl _ _).alloc (Nat.le_refl _) _
              have hbA := hbZ.trans (hal.mono hbZ.size)
              have c2A := (hbA.cell (p := ⟨B + 1, 1, none⟩) (show B + 1 < _ by omega)).trans c2
              have c3A := (hbA.cell (p := ⟨B + 1, 2, none⟩) (show B + 1 < _ by omega)).trans c3
              refine hK _ _ (fun h => Bool.noConfusion (Eq.trans (Eq.symm (by kernel_rfl : _ = false)) h)) (fun _ => ⟨c2A, c3A⟩) ?_
              clear hK K
              have huA : (Z.alloc (.cells #[.int .i64 ((L : Int) - 1 - x)] 3)).ownsRow H 3 1 (.slice ua q ucap) q (intsL out q) := own_block hu'.out (fun k hk => hbA.block k (hu'.out.lt k hk).2)
              have hvA : (Z.alloc (.cells #[.int .i64 ((L : Int) - 1 - x)] 3)).ownsRow (B + 2) 47 4 (.slice va L vcap) L (opsL op L) := own_block hown'.out (fun k hk => hbA.block k (hown'.out.lt k hk).2)
              have hsA : (Z.alloc (.cells #[.int .i64 ((L : Int) - 1 - x)] 3)).heap.size = Z.heap.size + 1 := by simp
              have hsZ := hbZ.size
              have c6A := (hbA.frozen (p := ⟨B + 1, 2, none⟩) (show B + 1 < _ by omega)).trans c6
              refine wpOrd_doR (fun K hK => ?_)
              refine doOp_of rfl ?_
              refine step_append_lies _ (by rfl) _ _ _ (by rfl) H 3 i3 (.int .i64 0) 1 8 Try.underlying22 GI0.out GI.out.1 GI.out.2.1 GI.out.2.2 rfl (by decide) _ q (intsL out q) (by rfl) huA ⟨Z.heap.size, 0, none⟩ 1 1 [.int .i64 ((L : Int) - 1 - x)] (by rfl) (by rfl) (World.news_of_block (cs := #[.int .i64 ((L : Int) - 1 - x)]) (t := 3) (fr := (0, 0)) (heap_alloc_new Z _)) (by simp [Value.oneCell']) (by omega) (by unfold maxLen; omega) (by omega) (by omega) (Z.heap.size + 1) hsA ?_
              intro gg cap1 wn hown1 hgrow hat hlt1
              have hb1 : Below (B + 2) wr wn := (hbA.mono (show B + 2 ≤ wr.heap.size by omega)).trans (below_own huA hHB (by omega) hgrow)
              have z1 := hgrow.cell c3A hne
              have z3 := hgrow.cell c2A hne
              have z2 := (World.frozen?_of_block (a := ⟨B + 1, 2, none⟩) (hgrow.block (B + 1) (by omega) hne)).trans c6A
              have hn1 : wn.ownsRow H 3 1 (.slice (some ⟨gg, 0, none⟩) (q + 1) cap1) (q + 1) (intsL out (q + 1)) := by
                show wn.ownsRow _ _ _ _ _ (intsL out q ++ [.int .i64 (out q)])
                rw [ho'.out]; exact hown1
              have hk1 := hvA.kept hgrow (by
                cases hv : (Value.slice va L vcap).ownBlock with
                | none => exact .inl rfl
                | some k => exact .inr (fun e => by have := (hu'.out.lt k e.symm).1; have := hH'.out k hv; omega))
              have hH2 : H ≤ wn.heap.size := by have := hgrow.size; omega
              have hm1 := (hm'.out.step hb1).set2 (.slice (some ⟨gg, 0, none⟩) (q + 1) cap1)
              have HM1 := Lib.hid hm1
              have HN1 := Lib.hid hn1
              have HK1 := Lib.hid hk1
              clear hown1 hgrow hat hm1 hn1 hk1 hb1 huA hvA hbA hal c3A c6A c2A c3 c2 hbZ hrZ
              refine hK _ _ (fun h => Bool.noConfusion (Eq.trans (Eq.symm (by kernel_rfl : _ = false)) h)) (fun _ => ⟨z3, z1⟩) ?_
              clear hK K
              iterate 1
                first
                  | refine wpOrd_pure (fun K hK => ?_)
                  | refine wpOrd_take (fun K hK => ?_)
                go_simp
                refine hK _ ?_
                clear hK K
              refine wpOrd_doR (fun K hK => ?_)
              go_simp
              refine hK _ _ (fun h => Bool.noConfusion (Eq.trans (Eq.symm (by kernel_rfl : _ = false)) h)) (fun h => Bool.noConfusion (Eq.trans (Eq.symm (by kernel_rfl : _ = false)) h)) ?_
              clear hK K
              refine wpOrd_nil ?_
              clear z1 z2 z3
              go_wp2_with fail
              go_roundw
              case rel => exact ⟨q + 1, _, _, by omega, by go_num, HM1.out, by simp [World.setCell]; omega, own_set HN1.out (by omega), own_set HK1.out (by omega)⟩
              case measure => simp [intOf]; omega
            · obtain rfl : q = j := by omega
              go_wp2_with fail
              refine bodyPost_ret (v := .agg #[.int .i64 (1 + r), .slice va L vcap, .slice ua q ucap]) (by simp [results, Try.results5, go_sem, c7, c8, c9]) rfl ⟨_, rfl, ?_, ?_⟩
              · rw [hr, hjN, hL, c14]
                exact ⟨_, _, rfl, own_low (own_set (own_set (own_set hown (by omega)) (by omega)) (by omega)) (by omega), own_low (own_set (own_set (own_set hu (by omega)) (by omega)) (by omega)) (by omega), fun k hk e => by have := hH k hk; have := (hu.lt k e).1; omega⟩
              · rw [c14]
                exact ((c15.setCell (by simp) _).setCell (by simp) _).setCell (by simp) _
end Go.Proofs.Ytnlbafjmbamoeaa
