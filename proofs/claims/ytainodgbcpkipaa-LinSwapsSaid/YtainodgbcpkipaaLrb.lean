/-
  The document's rows of equations, walked: parted.
-/
import Derived.Test.YtainodgbcpkipaaLra
import Derived.Test.YtainodgbcpkipaaLig
namespace Go.Proofs.Ytainodgbcpkipaa
open Go.RowKit
open Ieee (double)
attribute [local go_sem] alloc_drewN setCell_drewN call_bits call_frombits ord_lt ord_eq ord_gt ord_ne ord_le ord_ge eqB_self run_fadd run_fsub run_fmul run_fquo haStoreFlt takeOp pureOp readsUpon doOp

/-- What is under way: the table, the order, where both stand. -/
structure PS (W w : World) (B G R L n c c2 : Nat) (blk cap : Nat → Nat) (g : Nat → Nat → Nat) (q : Nat → Nat) : Prop where
  grid : Grid w (B + 1) G n n blk cap g
  perm : OwnI w (B + 1) R n c2 (fun i => (q i : Int))
  box : Box2 L (.slice (some ⟨G, 0, none⟩) n c) (.slice (some ⟨R, 0, none⟩) n c2) w
  below : Below (B + 1) W w
  rg : R ≠ G
  br : ∀ i, i < n → blk i ≠ R
  lg : L ≠ G
  lr : L ≠ R
  bl : ∀ i, i < n → blk i ≠ L
  lo : B + 1 ≤ W.heap.size
theorem PS.go {W w w' : World} {B G R L n c c2 : Nat} {blk cap : Nat → Nat} {g : Nat → Nat → Nat} {q : Nat → Nat} (h : PS W w B G R L n c c2 blk cap g q) (hb : Below w.heap.size w w') : PS W w' B G R L n c c2 blk cap g q :=
  ⟨h.grid.below hb, h.perm.below hb h.perm.lt.2, h.box.below hb h.box.2.2, h.below.trans (hb.mono (Nat.le_trans h.lo h.below.size)), h.rg, h.br, h.lg, h.lr, h.bl, h.lo⟩
theorem PS.drew {W w : World} {B G R L n c c2 : Nat} {blk cap : Nat → Nat} {g : Nat → Nat → Nat} {q : Nat → Nat} (h : PS W w B G R L n c c2 blk cap g q) : PS W w.drew B G R L n c c2 blk cap g q := h.go (Below.refl _ _).drew
theorem PS.drewN {W w : World} {B G R L n c c2 : Nat} {blk cap : Nat → Nat} {g : Nat → Nat → Nat} {q : Nat → Nat} (h : PS W w B G R L n c c2 blk cap g q) (k : Nat) : PS W (w.drewN k) B G R L n c c2 blk cap g q := h.go (below_drew (Below.refl _ _) k)
theorem box_other {w : World} {L b o : Nat} {u v x : Value} (h : Box2 L u v w) (hb : b ≠ L) : Box2 L u v (w.setCell ⟨b, o, none⟩ x) := by
  have e : (w.setCell ⟨b, o, none⟩ x).heap[L]? = w.heap[L]? := Below.heap_setCell _ _ _ _ (fun q => hb q.symm)
  exact ⟨(World.cell?_of_block (a := ⟨L, 0, none⟩) e).trans h.1, (World.cell?_of_block (a := ⟨L, 1, none⟩) e).trans h.2.1, by simp [World.setCell]; exact h.2.2⟩
theorem PS.set {W w : World} {B G R L n c c2 : Nat} {blk cap : Nat → Nat} {g : Nat → Nat → Nat} {q : Nat → Nat} (h : PS W w B G R L n c c2 blk cap g q) {i j y d : Nat} (hi : i < n) (hj : j < n) (h1 : canon y = d) (h2 : y < 18446744073709551616) :
    PS W (w.setCell ⟨blk i, j, none⟩ (.float .f64 y)) B G R L n c c2 blk cap (updN2 g i j d) q :=
  ⟨h.grid.set hi hj h1 h2, h.perm.other (h.br i hi) _, box_other h.box (h.bl i hi), h.below.setCell (h.grid.row i hi).lt.1 _, h.rg, h.br, h.lg, h.lr, h.bl, h.lo⟩
theorem PS.congr {W w : World} {B G R L n c c2 : Nat} {blk cap : Nat → Nat} {g g' : Nat → Nat → Nat} {q : Nat → Nat} (h : PS W w B G R L n c c2 blk cap g q) (e : ∀ i j, i < n → j < n → g i j = g' i j) : PS W w B G R L n c c2 blk cap g' q :=
  ⟨h.grid.congr e, h.perm, h.box, h.below, h.rg, h.br, h.lg, h.lr, h.bl, h.lo⟩
theorem PS.swapG {W w : World} {B G R L n c c2 p k : Nat} {blk cap : Nat → Nat} {g : Nat → Nat → Nat} {q : Nat → Nat} (h : PS W w B G R L n c c2 blk cap g q) (hp : p < n) (hk : k < n) :
    PS W ((w.setCell ⟨G, k, none⟩ (.slice (some ⟨blk p, 0, none⟩) n (cap p))).setCell ⟨G, p, none⟩ (.slice (some ⟨blk k, 0, none⟩) n (cap k))) B G R L n c c2 (swp blk k p) (swp cap k p) (swp g k p) q :=
  ⟨h.grid.swap hk hp, (h.perm.other h.rg.symm _).other h.rg.symm _, box_other (box_other h.box h.lg.symm) h.lg.symm, (h.below.setCell h.grid.lo _).setCell h.grid.lo _, h.rg, fun i hi => by rw [swp_sg]; exact h.br _ (sg_lt hk hp hi), h.lg, h.lr, fun i hi => by rw [swp_sg]; exact h.bl _ (sg_lt hk hp hi), h.lo⟩
theorem PS.swapR {W w : World} {B G R L n c c2 p k : Nat} {blk cap : Nat → Nat} {g : Nat → Nat → Nat} {q : Nat → Nat} (h : PS W w B G R L n c c2 blk cap g q) (hp : p < n) (hk : k < n) :
    PS W ((w.setCell ⟨R, k, none⟩ (.int .i64 (q p))).setCell ⟨R, p, none⟩ (.int .i64 (q k))) B G R L n c c2 blk cap g (swp q k p) :=
  ⟨(h.grid.setOther h.rg (fun i hi e => h.br i hi e.symm) _).setOther h.rg (fun i hi e => h.br i hi e.symm) _, (h.perm.swap hk hp).congr (fun i _ => by rw [swp_sg, swp_sg]), box_other (box_other h.box h.lr.symm) h.lr.symm, (h.below.setCell h.perm.lt.1 _).setCell h.perm.lt.1 _, h.rg, h.br, h.lg, h.lr, h.bl, h.lo⟩
theorem Grid.belowN {w w' : World} {base G n m H : Nat} {blk cap : Nat → Nat} {f : Nat → Nat → Nat} (h : Grid w base G n m blk cap f) (hb : Below H w w') (hG : G < H) (hB : ∀ i, i < n → blk i < H) : Grid w' base G n m blk cap f :=
  ⟨fun i hi => (hb.cell (p := ⟨G, i, none⟩) hG).trans (h.ref i hi), fun i hi => (hb.frozen (p := ⟨G, i, none⟩) hG).trans (h.free i hi), fun i hi => (h.row i hi).below hb (hB i hi), h.inj, h.off, h.lo, Nat.lt_of_lt_of_le h.hi hb.size⟩
theorem box_set1 {w : World} {L : Nat} {u v : Value} (h : Box2 L u v w) (x : Value) : Box2 L u x (w.setCell ⟨L, 1, none⟩ x) := by
  obtain ⟨h1, h2, h3⟩ := h
  exact ⟨by simp [go_sem, h1], by simp [go_sem, h2], by simp [World.setCell]; exact h3⟩
theorem swp_comm {α : Type} (f : Nat → α) (p k : Nat) : swp f k p = swp f p k := by
  funext i
  rw [swp_sg, swp_sg]
  congr 1
  unfold sg
  by_cases h1 : i = p
  · by_cases h2 : i = k
    · rw [if_pos h1, if_pos h2]; omega
    · rw [if_pos h1, if_neg h2, if_pos h1]
  · by_cases h2 : i = k
    · rw [if_neg h1, if_pos h2, if_pos h2]
    · rw [if_neg h1, if_neg h2, if_neg h2, if_neg h1]
theorem run_store_slice (P : Program) (w : World) (a : Addr) (m : Mode) (p : Option Addr) (n c : Nat) : (store a (.slice p n c) m).run P w = stored P w a (.slice p n c) m := run_store P w a _ m rfl
/-- What parting tells: the table, the order; or nothing. -/
def RPartR (n : Nat) (o : Option ((Nat → Nat → Nat) × (Nat → Nat))) (w : World) (e : Ending) (w' : World) : Prop :=
  Below w.heap.size w w' ∧ match o with
  | none => e = .returned (.tuple #[.agg #[.slice none 0 0, .slice none 0 0], .bool false])
  | some (g, q) => ∃ G R c c2 blk cap, e = .returned (.tuple #[.agg #[.slice (some ⟨G, 0, none⟩) n c, .slice (some ⟨R, 0, none⟩) n c2], .bool true]) ∧ Grid w' w.heap.size G n n blk cap g ∧ OwnI w' w.heap.size R n c2 (fun i => (q i : Int)) ∧ R ≠ G ∧ ∀ i, i < n → blk i ≠ R
theorem rabsQ (x : Nat) (w : World) (hx : x < 18446744073709551616) : Calls Try.prog 29 #[.float .f64 x] w fun e w' => e = .returned (.float .f64 (ab x)) ∧ w' = w := by
  go_enter Try.func29, Try.ntmps29
  go_wp2_with fail
  refine (absQ x _ hx).mono ?_
  rintro e w' ⟨rfl, rfl⟩
  go_wp2_with fail
  go_ret
  exact ⟨rfl, rfl⟩
theorem rfinite_tells (a : Nat) (w : World) : Calls Try.prog 38 #[.float .f64 a] w (Tells (.bool (finB a)) w) := by
  have hz := fun w => eqz_fval w a
  have H := Lib.hid hz
  clear hz
  go_enter Try.func38, Try.ntmps38
  go_wp2
  go_ret
  exact ⟨ret_bool (H.out _), below_drew (Below.refl _ _) _⟩
set_option maxRecDepth 100000 in
set_option maxHeartbeats 8000000 in
theorem rpart_tells (n : Nat) (v : Value) (f : Nat → Nat → Nat) (w : World) (h : TabR w v n (fun _ => n) f) (h1 : 1 ≤ n) (h8 : n ≤ 8) :
    Calls Try.prog 17 #[v] w (RPartR n (partF f n n) w) := by
  have hb1 : Below w.heap.size w (w.alloc (.cells #[.slice none 0 0, .slice none 0 0] 32)) := (Below.refl _ _).alloc (Nat.le_refl _) _
  have ht := h.below hb1
  obtain ⟨iI, hI, i1, i2, i3⟩ := info_parts infoI
  have HN := Lib.hid (show iI.zero = _ ∧ iI.size = _ ∧ iI.bytes = _ from ⟨i1, i2, i3⟩)
  have HN0 := Lib.hid hI
  obtain ⟨a, cap0, rfl, hn, -⟩ := id h
  have CP := Lib.hid (rcopied_tells _ n f _ ht h1 h8)
  clear h ht hI i1 i2 i3
  go_enter Try.func17, Try.ntmps17
  go_wp2_with fail
  refine CP.out.mono ?_
  rintro e w2 ⟨G, c, blk, cap, rfl, hg, hb2⟩
  generalize hB : w.heap.size = B at *
  have hW : (w.alloc (.cells #[.slice none 0 0, .slice none 0 0] 32)).heap.size = B + 1 := by simp [hB]
  rw [hW] at hg hb2
  have hl0 : (w.alloc (.cells #[.slice none 0 0, .slice none 0 0] 32)).heap[B]? = some (.cells #[.slice none 0 0, .slice none 0 0] 32 (0, 0)) := by rw [← hB]; exact heap_alloc_new _ _
  generalize w.alloc (.cells #[.slice none 0 0, .slice none 0 0] 32) = W at *
  have LB0 := Lib.hid (show ∀ X, Below (B + 1) W X → X.cell? ⟨B, 0, none⟩ = some (.slice none 0 0) ∧ X.cell? ⟨B, 1, none⟩ = some (.slice none 0 0) ∧ X.frozen? ⟨B, 0, none⟩ = false ∧ X.frozen? ⟨B, 1, none⟩ = false from fun X hX => by
    have e := (hX.block B (by omega)).trans hl0
    refine ⟨?_, ?_, ?_, ?_⟩ <;> simp [World.cell?, World.frozen?, e] <;> rfl)
  have HW := Lib.hid hW
  have HG := Lib.hid hg
  have HB2 := Lib.hid hb2
  clear hl0 hW hg CP hb2
  go_wp2_with fail
  generalize hL : w2.heap.size = L at *
  have hLs : B + 1 ≤ L := by have := HB2.out.size; have := HW.out; omega
  have hGL : G < L := by have := HG.out.hi; omega
  have hbL0 : ∀ i, i < n → blk i < L := fun i hi => by have := (HG.out.row i hi).lt.2; omega
  have HBL0 := Lib.hid hbL0
  have hal : Below w2.heap.size w2 (w2.alloc (.cells #[.slice (some ⟨G, 0, none⟩) n c, .slice none 0 0] 32)) := (Below.refl _ _).alloc (Nat.le_refl _) _
  have hbx0 : Box2 L (.slice (some ⟨G, 0, none⟩) n c) (.slice none 0 0) (w2.alloc (.cells #[.slice (some ⟨G, 0, none⟩) n c, .slice none 0 0] 32)) := by rw [← hL]; exact Box2.new _ _ _ _
  have hfr0 : (w2.alloc (.cells #[.slice (some ⟨G, 0, none⟩) n c, .slice none 0 0] 32)).frozen? ⟨L, 1, none⟩ = false := by rw [← hL]; simp [go_sem]
  have hg0 := HG.out.below hal
  have hb0 : Below (B + 1) W (w2.alloc (.cells #[.slice (some ⟨G, 0, none⟩) n c, .slice none 0 0] 32)) := HB2.out.alloc (by omega) _
  generalize w2.alloc (.cells #[.slice (some ⟨G, 0, none⟩) n c, .slice none 0 0] 32) = X at *
  clear hbL0 hal HG HB2 hL
  clear w2
  go_loopw [6] (fun i wr => ∃ (r : Nat) (vp : Value) (qs : List Value), r ≤ n ∧ i = .int .i64 r ∧ Box2 L (.slice (some ⟨G, 0, none⟩) n c) vp wr ∧ wr.frozen? ⟨L, 1, none⟩ = false ∧ wr.ownsRow (B + 1) 3 1 vp r qs ∧ IVals qs r (fun i => (i : Int)) ∧ (∀ k, vp.ownBlock = some k → L < k) ∧ Grid wr (B + 1) G n n blk cap f ∧ Below (B + 1) W wr) (fun i _ => n - (intOf i).toNat)
  case atStart => exact ⟨0, _, [], by omega, rfl, hbx0, hfr0, World.ownsRow_nil _ _ _ _, IVals.nil _ _, (fun k hk => by cases hk), hg0, hb0⟩
  case round =>
    clear hbx0 hfr0 hg0 hb0
    obtain ⟨r, vp, qs, hr, rfl, hbx, hfr, ho, hq, hvp, hg, hbl⟩ := hrel
    obtain ⟨va, vcap, rfl⟩ := own_slice1 ho
    by_cases hlt : r < n
    · have _hn := hlt
      obtain ⟨x1, x2, x3⟩ := id hbx
      have HO := Lib.hid ho
      have HQ := Lib.hid hq
      have HVP := Lib.hid hvp
      have HG := Lib.hid hg
      have HBL := Lib.hid hbl
      have HBX := Lib.hid hbx
      have HFR := Lib.hid hfr
      have hsz := hbl.size
      have hWs := HW.out
      have HWs := Lib.hid hWs
      have hB1 : B + 1 ≤ wr.heap.size := by omega
      have hGs := hg.hi
      clear ho hq hvp hg hbl hbx hfr hWs
      go_wp2_with (first
        | (at_builtin; refine wpList_append_own_at _ rfl _ _ 22 rfl (B + 1) 3 iI (.int .i64 0) 1 8 Try.underlying22 HN0.out HN.out.1 HN.out.2.1 HN.out.2.2 rfl (by decide) (.slice va r vcap) r qs rfl (HO.out.alloc _) ⟨wr.heap.size, 0, none⟩ 1 1 [.int .i64 r] rfl rfl (news1 wr (.int .i64 r) 3 0) (by simp [Value.oneCell']) (by unfold maxLen; omega) (by omega) (by simp; omega) ?_)
        | go_in)
      intro v' w4 hown' hgrow _ hob
      have hvL : (Value.slice va r vcap).ownBlock ≠ some L := fun e => by have := HVP.out L e; omega
      have hb4 : Below (L + 1) wr w4 := ((Below.refl (L + 1) wr).alloc (by omega) _).grown hgrow (by simp; omega) (fun k hk => HVP.out k hk)
      have hbx4 := HBX.out.below hb4 (by omega)
      have hfr4 : w4.frozen? ⟨L, 1, none⟩ = false := (hb4.frozen (p := ⟨L, 1, none⟩) (show L < L + 1 by omega)).trans HFR.out
      have hg4 := HG.out.belowN hb4 (by omega) (fun i hi => by have := HBL0.out i hi; omega)
      have hbl4 := HBL.out.trans (hb4.mono (by omega))
      have hvp' : ∀ k, v'.ownBlock = some k → L < k := fun k hk => by
        rcases hob with e | e
        · rw [e] at hk; exact HVP.out k hk
        · rw [e] at hk; simp only [Option.some.injEq] at hk; rw [← hk]; first | omega | (simp; omega)
      obtain ⟨va', vcap', rfl⟩ := own_slice1 hown'
      have hql := HO.out.1
      have HQ' := Lib.hid (HQ.out.app (by omega) (y := (r : Int)) rfl)
      obtain ⟨x1, x2, x3⟩ := id hbx4
      have HBX4 := Lib.hid (box_set1 hbx4 (.slice va' (r + 1) vcap'))
      have HG4 := Lib.hid (hg4.setOther (B := L) (o := 1) (by omega) (fun i hi => by have := HBL0.out i hi; omega) (.slice va' (r + 1) vcap'))
      have HBL4 := Lib.hid (hbl4.setCell (p := ⟨L, 1, none⟩) hLs (.slice va' (r + 1) vcap'))
      have HFR4 := Lib.hid (show (w4.setCell ⟨L, 1, none⟩ (.slice va' (r + 1) vcap')).frozen? ⟨L, 1, none⟩ = false by simp [go_sem, hfr4])
      have HO4 := Lib.hid (own_kept (w' := w4.setCell ⟨L, 1, none⟩ (.slice va' (r + 1) vcap')) hown' (fun k hk => Below.heap_setCell _ _ _ _ (by have := hvp' k hk; show k ≠ L; omega)))
      have HVP4 := Lib.hid hvp'
      clear hown' hgrow hob hvL hb4 hbx4 hg4 hbl4 hvp' HO HQ HVP HG HBL HBX HFR
      go_wp2_with fail
      go_roundw
      case rel => exact ⟨r + 1, _, _, by omega, by go_num, HBX4.out, HFR4.out, HO4.out, HQ'.out, HVP4.out, HG4.out, HBL4.out⟩
      case measure => simp [intOf]; omega
    · obtain rfl : n = r := by omega
      obtain ⟨R, c2, hv, hO⟩ := hq.own ho (by omega)
      simp only [Value.slice.injEq] at hv
      obtain ⟨rfl, -, rfl⟩ := hv
      have hLR : L < R := hvp R rfl
      have hps : PS W wr B G R L n c vcap blk cap f (fun i => i) := ⟨hg, hO, hbx, hbl, by omega, fun i hi => by have := HBL0.out i hi; omega, by omega, by omega, fun i hi => by have := HBL0.out i hi; omega, by rw [HW.out]; exact Nat.le_refl _⟩
      have HPS := Lib.hid hps
      clear hg hO hbx hbl ho hq hvp hfr hps hlt hr hGL
      go_wp2_with fail
      go_loopw [7] (fun i wr => ∃ (k : Nat) (blk cap : Nat → Nat) (g : Nat → Nat → Nat) (q : Nat → Nat), k ≤ n ∧ i = .int .i64 k ∧ partF f n k = some (g, q) ∧ PS W wr B G R L n c vcap blk cap g q) (fun i _ => n - (intOf i).toNat)
      case atStart => exact ⟨0, _, _, _, _, by omega, rfl, rfl, HPS.out⟩
      case round =>
        clear HPS HBL0
        obtain ⟨k, blk, cap, g, q, hk, rfl, hpf, hps⟩ := hrel
        by_cases hlt : k < n
        · have P1 := Lib.hid (show partF f n (k + 1) = if dvB (g (pivF g k (n - 1 - k)) k) then some (clF (swp g (pivF g k (n - 1 - k)) k) k n n, swp q (pivF g k (n - 1 - k)) k) else none by rw [partF, hpf])
          have HP0 := Lib.hid hps
          clear hpf hps
          go_wp2_with fail
          go_loopw [8, 9] (fun p i wr => ∃ (j : Nat), k < j ∧ j ≤ n ∧ i = .int .i64 j ∧ p = .int .i64 (pivF g k (j - 1 - k) : Nat) ∧ PS W wr B G R L n c vcap blk cap g q) (fun _ i _ => n - (intOf i).toNat)
          case atStart => exact ⟨k + 1, by omega, by omega, by go_num, by rw [show k + 1 - 1 - k = 0 by omega]; rfl, HP0.out⟩
          case round =>
            clear HP0
            obtain ⟨j, hkj, hjn, rfl, rfl, hps⟩ := hrel
            have hp := pivF_le g k (j - 1 - k)
            by_cases hlj : j < n
            · have _hn := hlj
              have e1 : j + 1 - 1 - k = j - 1 - k + 1 := by omega
              have e2 : k + 1 + (j - 1 - k) = j := by omega
              have P2 := Lib.hid (show pivF g k (j + 1 - 1 - k) = if ltB (ab (g (pivF g k (j - 1 - k)) k)) (ab (g j k)) then j else pivF g k (j - 1 - k) by rw [e1, pivF, e2])
              clear e1 e2
              have hpn : pivF g k (j - 1 - k) < n := by omega
              generalize pivF g k (j - 1 - k) = p at *
              obtain ⟨x, x1, x2, x3⟩ := hps.grid.cell hlj hlt
              obtain ⟨y, y1, y2, y3⟩ := hps.grid.cell hpn hlt
              have r1 := hps.grid.ref j hlj
              have r2 := hps.grid.ref p hpn
              obtain ⟨b1, b2, b3⟩ := hps.box
              have E := Lib.hid (ltB_ab y2 x2)
              have HP := Lib.hid hps
              clear hps x2 y2
              go_wp2_with fail
              go_quiet ((go_at_call 29; exact Calls.quiet_of_same (rabsQ _ _ (by assumption))))
              have hE := E.out
              cases hb : ltB (ab y) (ab x) with
              | false =>
                rw [hb] at hE
                have Q1 := Lib.hid (show pivF g k (j + 1 - 1 - k) = _ by rw [P2.out, ← hE])
                clear P2 hE
                go_wp2_with fail
                go_roundw
                case rel => exact ⟨j + 1, by omega, by omega, by go_num, by rw [Q1.out]; rfl, HP.out.drewN _⟩
                case measure => simp [intOf]; omega
              | true =>
                rw [hb] at hE
                have Q1 := Lib.hid (show pivF g k (j + 1 - 1 - k) = _ by rw [P2.out, ← hE])
                clear P2 hE
                go_wp2_with fail
                go_roundw
                case rel => exact ⟨j + 1, by omega, by omega, by go_num, by rw [Q1.out]; rfl, HP.out.drewN _⟩
                case measure => simp [intOf]; omega
            · obtain rfl : n = j := by omega
              have hpn : pivF g k (n - 1 - k) < n := by omega
              generalize pivF g k (n - 1 - k) = p at *
              obtain ⟨x, x1, x2, x3⟩ := hps.grid.cell hpn hlt
              have r1 := hps.grid.ref p hpn
              obtain ⟨b1, b2, b3⟩ := hps.box
              have e1 : eqB x 0 = eqB (g p k) 0 := by
                rw [← x2]
                exact (eqB_canon x 0).symm
              have e2 : finB x = finB (g p k) := by rw [← x2, finB_canon]
              have hdv : dvB (g p k) = (!eqB x 0 && finB x) := by unfold dvB; rw [e1, e2]
              have HDV := Lib.hid hdv
              have HP := Lib.hid hps
              clear hps hdv e1 e2 x2
              cases hz : eqB x 0 with
              | true =>
                have hz' : (!eqB x 0) = false := by rw [hz]; rfl
                obtain ⟨l1, l2, l3, l4⟩ := LB0.out _ HP.out.below
                go_wp2_with fail
                have hno : partF f n (k + 1) = none := by rw [P1.out, HDV.out, hz]; rfl
                have hend : partF f n n = none := partF_none hno (by omega)
                have hb' : Below B w wr := hb1.trans (HP.out.below.mono (by omega))
                exact bodyPost_ret (v := .tuple #[.agg #[.slice none 0 0, .slice none 0 0], .bool false]) (by simp [results, Try.results17, go_sem, l1, l2]) rfl (by unfold RPartR; rw [hend, hB]; exact ⟨(hb'.setCell (Nat.le_refl _) _).setCell (Nat.le_refl _) _, rfl⟩)
              | false =>
                have hz' : (!eqB x 0) = true := by rw [hz]; rfl
                go_wp2_with fail
                refine (rfinite_tells x _).mono ?_
                rintro e w5 ⟨rfl, hb5⟩
                have HP5 := Lib.hid (HP.out.go hb5)
                clear hb5 HP r1 x1 b1 b2 b3
                cases hf : finB x with
                | false =>
                  obtain ⟨l1, l2, l3, l4⟩ := LB0.out _ HP5.out.below
                  go_wp2_with fail
                  have hno : partF f n (k + 1) = none := by rw [P1.out, HDV.out, hz, hf]; rfl
                  have hend : partF f n n = none := partF_none hno (by omega)
                  have hb' : Below B w w5 := hb1.trans (HP5.out.below.mono (by omega))
                  exact bodyPost_ret (v := .tuple #[.agg #[.slice none 0 0, .slice none 0 0], .bool false]) (by simp [results, Try.results17, go_sem, l1, l2]) rfl (by unfold RPartR; rw [hend, hB]; exact ⟨(hb'.setCell (Nat.le_refl _) _).setCell (Nat.le_refl _) _, rfl⟩)
                | true =>
                  have hyes : partF f n (k + 1) = some (clF (swp g k p) k n n, swp q k p) := by rw [P1.out, HDV.out, hz, hf, swp_comm g p k, swp_comm q p k]; rfl
                  have HY := Lib.hid hyes
                  clear hyes hz hz' hf x3 P1 HDV
                  go_wp2_with fail
                  refine wp_region_ordR [(0, 1), (1, 2), (2, 1), (3, 1), (4, 3), (5, 1), (6, 1), (7, 2), (8, 1), (9, 1), (10, 2), (11, 1), (12, 3), (13, 1), (14, 1), (15, 2), (16, 1), (17, 0), (18, 1), (19, 0)] (fun w => Box2 L (.slice (some ⟨G, 0, none⟩) n c) (.slice (some ⟨R, 0, none⟩) n vcap) w) (by kernel_rfl) (by kernel_rfl) (fun _ _ d _ _ h => by cases d <;> exact h) (HP5.out.drew.box) ?_
                  intro X2 hX2 hbx2
                  have hps : PS W X2 B G R L n c vcap blk cap g q := by rw [hX2]; exact HP5.out.drew
                  clear hX2 HP5
                  have r1 := hps.grid.ref p hpn
                  have r2 := hps.grid.ref k hlt
                  have r3 := hps.grid.free p hpn
                  have r4 := hps.grid.free k hlt
                  obtain ⟨b1, b2, b3⟩ := id hbx2
                  have HB6 := Lib.hid hbx2
                  have HP6 := Lib.hid hps
                  have HLG := Lib.hid hps.lg.symm
                  clear hps hbx2
                  iterate 4
                    first
                      | refine wpOrd_pure (fun K hK => ?_)
                      | refine wpOrd_take (fun K hK => ?_)
                    go_simp
                    refine hK _ ?_
                    clear hK K
                  refine wpOrd_keep (v := .slice (some ⟨G, 0, none⟩) n c) rfl rfl (fun wk hwk => ?_) ?_
                  · obtain ⟨k1, k2, k3⟩ := hwk
                    go_simp
                  iterate 7
                    first
                      | refine wpOrd_pure (fun K hK => ?_)
                      | refine wpOrd_take (fun K hK => ?_)
                    go_simp
                    refine hK _ ?_
                    clear hK K
                  refine wpOrd_keep (v := .slice (some ⟨G, 0, none⟩) n c) rfl rfl (fun wk hwk => ?_) ?_
                  · obtain ⟨k1, k2, k3⟩ := hwk
                    go_simp
                  iterate 4
                    first
                      | refine wpOrd_pure (fun K hK => ?_)
                      | refine wpOrd_take (fun K hK => ?_)
                    go_simp
                    refine hK _ ?_
                    clear hK K
                  refine wpOrd_doR (fun K hK => ?_)
                  go_simp
                  refine hK _ _ (fun h => Bool.noConfusion (Eq.trans (Eq.symm (by kernel_rfl : _ = false)) h)) (fun _ => box_other HB6.out HLG.out) ?_
                  clear hK K
                  iterate 1
                    first
                      | refine wpOrd_pure (fun K hK => ?_)
                      | refine wpOrd_take (fun K hK => ?_)
                    go_simp
                    refine hK _ ?_
                    clear hK K
                  obtain ⟨z, hz⟩ := cell_set1 (.slice (some ⟨blk p, 0, none⟩) n (cap p)) r2 r1
                  refine wpOrd_doR (fun K hK => ?_)
                  go_simp
                  refine hK _ _ (fun h => Bool.noConfusion (Eq.trans (Eq.symm (by kernel_rfl : _ = false)) h)) (fun _ => box_other (box_other HB6.out HLG.out) HLG.out) ?_
                  clear hK K
                  refine wpOrd_nil ?_
                  have hps7 := HP6.out.swapG hpn hlt
                  clear HP6 HB6 HLG r1 r2 r3 r4 b1 b2 b3 hz z
                  generalize (X2.setCell ⟨G, k, none⟩ (.slice (some ⟨blk p, 0, none⟩) n (cap p))).setCell ⟨G, p, none⟩ (.slice (some ⟨blk k, 0, none⟩) n (cap k)) = Y at *
                  have HP7 := Lib.hid hps7
                  clear hps7
                  go_wp2_with fail
                  refine wp_region_ordR [(0, 1), (1, 2), (2, 1), (3, 1), (4, 3), (5, 1), (6, 1), (7, 2), (8, 1), (9, 1), (10, 2), (11, 1), (12, 3), (13, 1), (14, 1), (15, 2), (16, 1), (17, 0), (18, 1), (19, 0)] (fun w => Box2 L (.slice (some ⟨G, 0, none⟩) n c) (.slice (some ⟨R, 0, none⟩) n vcap) w) (by kernel_rfl) (by kernel_rfl) (fun _ _ d _ _ h => by cases d <;> exact h) (HP7.out.drew.box) ?_
                  intro X3 hX3 hbx3
                  have hps : PS W X3 B G R L n c vcap (swp blk k p) (swp cap k p) (swp g k p) q := by rw [hX3]; exact HP7.out.drew
                  clear hX3 HP7
                  have r1 := hps.perm.cell hpn
                  have r2 := hps.perm.cell hlt
                  have r3 := hps.perm.free p
                  have r4 := hps.perm.free k
                  obtain ⟨b1, b2, b3⟩ := id hbx3
                  have HB6 := Lib.hid hbx3
                  have HP6 := Lib.hid hps
                  have HLR := Lib.hid hps.lr.symm
                  clear hps hbx3
                  iterate 4
                    first
                      | refine wpOrd_pure (fun K hK => ?_)
                      | refine wpOrd_take (fun K hK => ?_)
                    go_simp
                    refine hK _ ?_
                    clear hK K
                  refine wpOrd_keep (v := .slice (some ⟨R, 0, none⟩) n vcap) rfl rfl (fun wk hwk => ?_) ?_
                  · obtain ⟨k1, k2, k3⟩ := hwk
                    go_simp
                  iterate 7
                    first
                      | refine wpOrd_pure (fun K hK => ?_)
                      | refine wpOrd_take (fun K hK => ?_)
                    go_simp
                    refine hK _ ?_
                    clear hK K
                  refine wpOrd_keep (v := .slice (some ⟨R, 0, none⟩) n vcap) rfl rfl (fun wk hwk => ?_) ?_
                  · obtain ⟨k1, k2, k3⟩ := hwk
                    go_simp
                  iterate 4
                    first
                      | refine wpOrd_pure (fun K hK => ?_)
                      | refine wpOrd_take (fun K hK => ?_)
                    go_simp
                    refine hK _ ?_
                    clear hK K
                  refine wpOrd_doR (fun K hK => ?_)
                  go_simp
                  refine hK _ _ (fun h => Bool.noConfusion (Eq.trans (Eq.symm (by kernel_rfl : _ = false)) h)) (fun _ => box_other HB6.out HLR.out) ?_
                  clear hK K
                  iterate 1
                    first
                      | refine wpOrd_pure (fun K hK => ?_)
                      | refine wpOrd_take (fun K hK => ?_)
                    go_simp
                    refine hK _ ?_
                    clear hK K
                  obtain ⟨z, hz⟩ := cell_set1 (.int .i64 (q p : Int)) r2 r1
                  refine wpOrd_doR (fun K hK => ?_)
                  go_simp
                  refine hK _ _ (fun h => Bool.noConfusion (Eq.trans (Eq.symm (by kernel_rfl : _ = false)) h)) (fun _ => box_other (box_other HB6.out HLR.out) HLR.out) ?_
                  clear hK K
                  refine wpOrd_nil ?_
                  have hps8 := HP6.out.swapR hpn hlt
                  clear HP6 HB6 HLR r1 r2 r3 r4 b1 b2 b3 hz z
                  generalize (X3.setCell ⟨R, k, none⟩ (.int .i64 (q p : Int))).setCell ⟨R, p, none⟩ (.int .i64 (q k : Int)) = V at *
                  generalize swp g k p = g2 at *
                  generalize swp q k p = q2 at *
                  generalize swp blk k p = blk2 at *
                  generalize swp cap k p = cap2 at *
                  have HP8 := Lib.hid hps8
                  clear hps8
                  go_wp2_with fail
                  go_loopw [10] (fun i wr => ∃ (j : Nat), k < j ∧ j ≤ n ∧ i = .int .i64 j ∧ PS W wr B G R L n c vcap blk2 cap2 (clF g2 k n j) q2) (fun i _ => n - (intOf i).toNat)
                  case atStart => exact ⟨k + 1, by omega, by omega, by go_num, by rw [clF_start]; exact HP8.out⟩
                  case round =>
                    clear HP8
                    obtain ⟨i, hki, hin, rfl, hps⟩ := hrel
                    by_cases hil : i < n
                    · have HP := Lib.hid hps
                      clear hps
                      go_wp2_with fail
                      refine wp_region_ord [(0, 1), (1, 2), (2, 1), (3, 1), (4, 2), (5, 1), (6, 1), (7, 2), (8, 1), (9, 1), (10, 2), (11, 1), (12, 1), (13, 2), (14, 1), (15, 2), (16, 1), (17, 1), (18, 2), (19, 1), (20, 1), (21, 2), (22, 0), (23, 1), (24, 0)] (by kernel_rfl) (by kernel_rfl) (fun _ _ d _ _ h => by cases d <;> exact h) ?_
                      intro X4 hX4
                      have hps : PS W X4 B G R L n c vcap blk2 cap2 (clF g2 k n i) q2 := by rw [hX4]; exact HP.out.drew
                      clear hX4 HP
                      have r1 := hps.grid.ref i hil
                      have r2 := hps.grid.ref k hlt
                      have r3 := (hps.grid.row i hil).free
                      obtain ⟨x, x1, x2, x3⟩ := hps.grid.cell hil hlt
                      obtain ⟨y, y1, y2, y3⟩ := hps.grid.cell hlt hlt
                      rw [clF_row] at x2
                      rw [clF_top] at y2
                      have HX := Lib.hid (show canon x = g2 i k ∧ canon y = g2 k k from ⟨x2, y2⟩)
                      obtain ⟨b1, b2, b3⟩ := hps.box
                      have HP := Lib.hid hps
                      clear hps x2 y2
                      iterate 22
                        first
                          | refine wpOrd_pure (fun K hK => ?_)
                          | refine wpOrd_take (fun K hK => ?_)
                        go_simp
                        refine hK _ ?_
                        clear hK K
                      refine wpOrd_do (fun K hK => ?_)
                      go_simp
                      refine hK _ _ (fun _ => ⟨_, rfl⟩) ?_
                      clear hK K
                      iterate 1
                        first
                          | refine wpOrd_pure (fun K hK => ?_)
                          | refine wpOrd_take (fun K hK => ?_)
                        go_simp
                        refine hK _ ?_
                        clear hK K
                      refine wpOrd_do (fun K hK => ?_)
                      go_simp
                      refine hK _ _ (fun h => Bool.noConfusion (Eq.trans (Eq.symm (by kernel_rfl : _ = false)) h)) ?_
                      clear hK K
                      refine wpOrd_nil ?_
                      have e3 : updN2 (clF g2 k n i) i k (cop .quo (g2 i k) (g2 k k)) = updN (clF g2 k n i) i (clR g2 k i (k + 1)) := by unfold updN2; rw [clF_row, clR_zero]
                      have hv : canon (fval .quo X4 x y) = cop .quo (g2 i k) (g2 k k) := copFF .quo _ HX.out.1 HX.out.2
                      have hps9 := (HP.out.set hil hlt hv (fval_lt _ _ _ _)).drewN (ndraw .quo x y)
                      rw [e3] at hps9
                      clear HP HX hv e3 r1 r2 r3 x1 y1 b1 b2 b3
                      generalize (X4.setCell ⟨blk2 i, k, none⟩ (.float .f64 (fval .quo X4 x y))).drewN (ndraw .quo x y) = Z4 at *
                      have HP9 := Lib.hid hps9
                      clear hps9
                      go_wp2_with fail
                      go_loopw [11] (fun jj wr => ∃ (m : Nat), k < m ∧ m ≤ n ∧ jj = .int .i64 m ∧ PS W wr B G R L n c vcap blk2 cap2 (updN (clF g2 k n i) i (clR g2 k i m)) q2) (fun jj _ => n - (intOf jj).toNat)
                      case atStart => exact ⟨k + 1, by omega, by omega, by go_num, HP9.out⟩
                      case round =>
                        clear HP9 x3 y3
                        obtain ⟨m, hkm, hmn, rfl, hps⟩ := hrel
                        by_cases hml : m < n
                        · have HP := Lib.hid hps
                          clear hps
                          go_wp2_with fail
                          refine wp_region_ord [(0, 1), (1, 2), (2, 1), (3, 1), (4, 2), (5, 1), (6, 1), (7, 2), (8, 1), (9, 2), (10, 1), (11, 1), (12, 2), (13, 1), (14, 1), (15, 2), (16, 0), (17, 1)] (by kernel_rfl) (by kernel_rfl) (fun _ _ d _ _ h => by cases d <;> exact h) ?_
                          intro X5 hX5
                          have hps : PS W X5 B G R L n c vcap blk2 cap2 (updN (clF g2 k n i) i (clR g2 k i m)) q2 := by rw [hX5]; exact HP.out.drew
                          clear hX5 HP
                          have r1 := hps.grid.ref i hil
                          have r2 := hps.grid.ref k hlt
                          obtain ⟨l, l1, l2, l3⟩ := hps.grid.cell hil hlt
                          obtain ⟨y, y1, y2, y3⟩ := hps.grid.cell hlt hml
                          rw [updN_at] at l2
                          rw [updN_ne _ _ (by omega), clF_top] at y2
                          have e2 : clR g2 k i m k = cop .quo (g2 i k) (g2 k k) := by unfold clR; rw [if_pos rfl]
                          rw [e2] at l2
                          have HX := Lib.hid (show canon l = cop .quo (g2 i k) (g2 k k) ∧ canon y = g2 k m from ⟨l2, y2⟩)
                          obtain ⟨b1, b2, b3⟩ := hps.box
                          have HP := Lib.hid hps
                          clear hps l2 y2 e2
                          iterate 16
                            first
                              | refine wpOrd_pure (fun K hK => ?_)
                              | refine wpOrd_take (fun K hK => ?_)
                            go_simp
                            refine hK _ ?_
                            clear hK K
                          refine wpOrd_do (fun K hK => ?_)
                          go_simp
                          refine hK _ _ (fun _ => ⟨_, rfl⟩) ?_
                          clear hK K
                          iterate 1
                            first
                              | refine wpOrd_pure (fun K hK => ?_)
                              | refine wpOrd_take (fun K hK => ?_)
                            go_simp
                            refine hK _ ?_
                            clear hK K
                          refine wpOrd_nil ?_
                          have hv : canon (fval .mul X5 l y) = cop .mul (cop .quo (g2 i k) (g2 k k)) (g2 k m) := copFF .mul _ HX.out.1 HX.out.2
                          have hps5 := HP.out.drewN (ndraw .mul l y)
                          generalize fval .mul X5 l y = t at *
                          generalize X5.drewN (ndraw .mul l y) = Z5 at *
                          clear HP HX r1 r2 l1 y1 b1 b2 b3 l3 y3
                          have HV := Lib.hid hv
                          have HP := Lib.hid hps5
                          clear hps5 hv
                          go_wp2_with fail
                          refine wp_region_ord [(0, 1), (1, 2), (2, 1), (3, 1), (4, 2), (5, 1), (6, 1), (7, 2), (8, 1), (9, 1), (10, 2), (11, 1), (12, 1), (13, 2), (14, 1), (15, 0), (16, 1), (17, 0)] (by kernel_rfl) (by kernel_rfl) (fun _ _ d _ _ h => by cases d <;> exact h) ?_
                          intro X6 hX6
                          have hps : PS W X6 B G R L n c vcap blk2 cap2 (updN (clF g2 k n i) i (clR g2 k i m)) q2 := by rw [hX6]; exact HP.out.drew
                          clear hX6 HP
                          have r1 := hps.grid.ref i hil
                          have r3 := (hps.grid.row i hil).free
                          obtain ⟨x, x1, x2, x3⟩ := hps.grid.cell hil hml
                          rw [updN_at] at x2
                          have e1 : clR g2 k i m m = g2 i m := by unfold clR; rw [if_neg (by omega), if_neg (by omega)]
                          rw [e1] at x2
                          have HX := Lib.hid x2
                          obtain ⟨b1, b2, b3⟩ := hps.box
                          have HP := Lib.hid hps
                          clear hps x2 e1
                          iterate 15
                            first
                              | refine wpOrd_pure (fun K hK => ?_)
                              | refine wpOrd_take (fun K hK => ?_)
                            go_simp
                            refine hK _ ?_
                            clear hK K
                          refine wpOrd_do (fun K hK => ?_)
                          go_simp
                          refine hK _ _ (fun _ => ⟨_, rfl⟩) ?_
                          clear hK K
                          iterate 1
                            first
                              | refine wpOrd_pure (fun K hK => ?_)
                              | refine wpOrd_take (fun K hK => ?_)
                            go_simp
                            refine hK _ ?_
                            clear hK K
                          refine wpOrd_do (fun K hK => ?_)
                          go_simp
                          refine hK _ _ (fun h => Bool.noConfusion (Eq.trans (Eq.symm (by kernel_rfl : _ = false)) h)) ?_
                          clear hK K
                          refine wpOrd_nil ?_
                          have hw : canon (fval .sub X6 x t) = cop .sub (g2 i m) (cop .mul (cop .quo (g2 i k) (g2 k k)) (g2 k m)) := copFF .sub _ HX.out HV.out
                          have hps6 := (HP.out.set hil hml hw (fval_lt _ _ _ _)).drewN (ndraw .sub x t)
                          unfold updN2 at hps6
                          rw [updN_at, updN_updN, ← clR_succ g2 hkm] at hps6
                          have HP6 := Lib.hid hps6
                          clear hps6 HP HX HV r1 r3 x1 b1 b2 b3 hw
                          go_wp2_with fail
                          go_roundw
                          case rel => exact ⟨m + 1, by omega, by omega, by go_num, HP6.out⟩
                          case measure => simp [intOf]; omega
                        · obtain rfl : n = m := by omega
                          rw [clF_next g2 hki] at hps
                          have HP := Lib.hid hps
                          clear hps
                          go_wp2_with fail
                          go_roundw
                          case rel => exact ⟨i + 1, by omega, by omega, by go_num, HP.out⟩
                          case measure => simp [intOf]; omega
                    · obtain rfl : n = i := by omega
                      have HP := Lib.hid hps
                      clear hps
                      go_wp2_with fail
                      go_roundw
                      case rel => exact ⟨k + 1, _, _, _, _, by omega, by go_num, HY.out, HP.out⟩
                      case measure => simp [intOf]; omega
        · obtain rfl : n = k := by omega
          have hb' : Below B w wr := hb1.trans (hps.below.mono (by omega))
          obtain ⟨l1, l2, l3, l4⟩ := LB0.out _ hps.below
          obtain ⟨b1, b2, b3⟩ := hps.box
          have HP := Lib.hid hps
          have HPF := Lib.hid hpf
          have HBW := Lib.hid hb'
          clear hps hpf hb'
          go_wp2_with fail
          have n1 : ∀ v o, Grid ((wr.setCell ⟨B, 0, none⟩ v).setCell ⟨B, 1, none⟩ o) (B + 1) G n n blk cap g := fun v o => (HP.out.grid.setOther (by have := HP.out.grid.lo; omega) (fun i hi => by have := (HP.out.grid.row i hi).lt.1; omega) v).setOther (by have := HP.out.grid.lo; omega) (fun i hi => by have := (HP.out.grid.row i hi).lt.1; omega) o
          have n2 : ∀ v o, OwnI ((wr.setCell ⟨B, 0, none⟩ v).setCell ⟨B, 1, none⟩ o) (B + 1) R n vcap (fun i => (q i : Int)) := fun v o => (HP.out.perm.other (by have := HP.out.perm.lt.1; omega) v).other (by have := HP.out.perm.lt.1; omega) o
          exact bodyPost_ret (v := .tuple #[.agg #[.slice (some ⟨G, 0, none⟩) n c, .slice (some ⟨R, 0, none⟩) n vcap], .bool true]) (by simp [results, Try.results17, go_sem, l1, l2]) rfl (by
            unfold RPartR
            rw [HPF.out, hB]
            exact ⟨(HBW.out.setCell (Nat.le_refl _) _).setCell (Nat.le_refl _) _, G, R, c, vcap, blk, cap, rfl, (n1 _ _).base (by omega), (n2 _ _).base (by omega), HP.out.rg, HP.out.br⟩)
end Go.Proofs.Ytainodgbcpkipaa
