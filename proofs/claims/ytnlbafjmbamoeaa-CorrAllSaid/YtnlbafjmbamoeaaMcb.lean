/-
  Texts laid together.
-/
import Derived.Test.YtnlbafjmbamoeaaHv
import Derived.Test.YtnlbafjmbamoeaaLif
import Derived.Maps.AppendAt
import Derived.Test.YtnlbafjmbamoeaaLig
import Derived.Test.YtnlbafjmbamoeaaCw
import Derived.Test.YtnlbafjmbamoeaaJi
import Derived.Test.YtnlbafjmbamoeaaLrd
import Derived.Test.YtnlbafjmbamoeaaTpt
import Derived.Deep.AppendLies
import Derived.Test.YtnlbafjmbamoeaaRgt
import Derived.Deep.CutBlock
/-
  The document's rows of equations, walked: copied.
-/
namespace Go.Proofs.Ytnlbafjmbamoeaa
open Go.RowKit
open Ieee (double)
attribute [local go_sem] alloc_drewN setCell_drewN call_bits call_frombits ord_lt ord_eq ord_gt ord_ne ord_le ord_ge eqB_self run_fadd run_fsub run_fmul run_fquo haStoreFlt takeOp pureOp readsUpon doOp

set_option maxRecDepth 100000 in
set_option maxHeartbeats 4000000 in
theorem rcopied_tells (v : Value) (n : Nat) (f : Nat → Nat → Nat) (w : World) (h : TabR w v n (fun _ => n) f) (h1 : 1 ≤ n) (h8 : n ≤ 8) :
    Calls Try.prog 71 #[v] w fun e w' => ∃ G c blk cap, e = .returned (.slice (some ⟨G, 0, none⟩) n c) ∧ Grid w' w.heap.size G n n blk cap f ∧ Below w.heap.size w w' := by
  obtain ⟨a, cap0, rfl, hn, hr⟩ := h
  obtain ⟨b, off, rfl, hbs, hc⟩ := hr (by omega)
  have HC := Lib.hid hc
  obtain ⟨iF, hF, f1, f2, f3⟩ := info_parts infoF
  obtain ⟨iS, hS, s1, s2, s3⟩ := info_parts infoS
  have HF := Lib.hid (show iF.zero = _ ∧ iF.size = _ ∧ iF.bytes = _ from ⟨f1, f2, f3⟩)
  have HF0 := Lib.hid hF
  have HS := Lib.hid (show iS.zero = _ ∧ iS.size = _ ∧ iS.bytes = _ from ⟨s1, s2, s3⟩)
  have HS0 := Lib.hid hS
  clear hF f1 f2 f3 hS s1 s2 s3 hr hc
  go_enter Try.func71, Try.ntmps71
  generalize hB : w.heap.size = B at *
  go_wp2_with fail
  go_loopw [3, 4] (fun va i wr => ∃ (r : Nat) (blk cap : Nat → Nat), r ≤ n ∧ i = .int .i64 r ∧ GridV wr B va r n blk cap f ∧ Below B w wr) (fun _ i _ => n - (intOf i).toNat)
  case atStart => exact ⟨0, _, _, by omega, rfl, GridV.start _ _ _ _, Below.refl _ _⟩
  case round =>
    obtain ⟨r, blk, cap, hr, rfl, hg, hbl⟩ := hrel
    by_cases hlt : r < n
    · have hgl := hg.lt
      have hsz := hbl.size
      have HG := Lib.hid hg
      have HGL := Lib.hid hgl
      obtain ⟨rs, hrs, -⟩ := hg.own
      obtain ⟨va', vcap, rfl⟩ := own_slice1 hrs
      obtain ⟨u, hu, a2, cap2, rfl, hu2, hu3⟩ := HC.out r hlt
      obtain ⟨b2, off2, rfl, hb2s, hfc⟩ := hu3 (by omega)
      have hw : ∀ p o, p < B → wr.cell? ⟨p, o, none⟩ = w.cell? ⟨p, o, none⟩ := fun p o hp => hbl.cell (p := ⟨p, o, none⟩) hp
      rw [← hw _ _ hbs] at hu
      obtain ⟨ys, y1, y2, y3, y4⟩ := flts_list (w := wr) (b := b2) (off := off2) (n := n) (f := f r) (fun i hi => (hfc i hi).same (hw _ _ (by rw [← hB]; exact hb2s)))
      have HY := Lib.hid (show ys.length = n ∧ FVals ys n (f r) ∧ (∀ j v, ys[j]? = some v → wr.cell? ⟨b2, off2 + j, none⟩ = some v) ∧ ∀ v ∈ ys, v.oneCell' = true from ⟨y1, y2, y3, y4⟩)
      have hb2B : b2 < B := by rw [← hB]; exact hb2s
      clear hg hgl hrs rs hfc hu3 hw y1 y2 y3 y4
      have hal : Below wr.heap.size wr (wr.alloc (.cells #[] 32)) := (Below.refl _ _).alloc (Nat.le_refl _) _
      have hu' : (wr.alloc (.cells #[] 32)).cell? ⟨b, off + r, none⟩ = some (.slice (some ⟨b2, off2, none⟩) n cap2) := ((haCell hal).1 b (off + r) (by omega)).trans hu
      have he : (wr.alloc (.cells #[] 32)).ownsRow B 32 1 (.slice (some ⟨wr.heap.size, 0, none⟩) 0 0) 0 [] := ⟨by simp, .inr ⟨_, 0, #[], rfl, by omega, heap_alloc_new _ _, Nat.le_refl _, by unfold maxLen; omega, by simp, by simp⟩⟩
      have hn2 : ∀ j v, ys[j]? = some v → (wr.alloc (.cells #[] 32)).cell? ((⟨b2, off2, none⟩ : Addr).add j) = some v := fun j v hv => by
        have e4 : (⟨b2, off2, none⟩ : Addr).add j = ⟨b2, off2 + j, none⟩ := by simp [Addr.add]
        rw [e4, (haCell hal).1 b2 (off2 + j) (by omega)]
        exact HY.out.2.2.1 j v hv
      have hH : (wr.alloc (.cells #[] 32)).heap.size = wr.heap.size + 1 := by simp
      have HAL := Lib.hid hal
      have HE := Lib.hid he
      have HN2 := Lib.hid hn2
      have HH := Lib.hid hH
      clear hal he hn2 hH hu
      go_wp2_with (first
        | (at_builtin; refine wpList_append_own_at _ rfl (.tmp 12) (.tmp 16) 31 rfl B 32 iF (.float .f64 0) 1 8 Try.underlying31 HF0.out HF.out.1 HF.out.2.1 HF.out.2.2 rfl (by decide) (.slice (some ⟨wr.heap.size, 0, none⟩) 0 0) 0 [] rfl HE.out ⟨b2, off2, none⟩ n cap2 ys rfl (by rw [HY.out.1]; omega) HN2.out HY.out.2.2.2 (by unfold maxLen; omega) (by omega) (by rw [HH.out]; omega) ?_)
        | go_in)
      intro v' w2 hown' hgrow _ hob
      obtain ⟨R, rcap, rfl, hO⟩ := HY.out.2.1.own hown' (by omega)
      have hRl : wr.heap.size ≤ R := by
        rcases hob with e | e
        · have : R = wr.heap.size := by simpa [Value.ownBlock] using e
          omega
        · have : R = (wr.alloc (.cells #[] 32)).heap.size := by simpa [Value.ownBlock] using e
          have := HH.out; omega
      have hb2 : Below wr.heap.size wr w2 := HAL.out.trans (below_grown (base := wr.heap.size) (E := 32) (size := 1) (n := 0) (qs := []) (v := .slice (some ⟨wr.heap.size, 0, none⟩) 0 0) ⟨by simp, .inr ⟨_, 0, #[], rfl, Nat.le_refl _, heap_alloc_new _ _, Nat.le_refl _, by unfold maxLen; omega, by simp, by simp⟩⟩ (Nat.le_refl _) (by rw [HH.out]; omega) hgrow)
      have hg2 : GridV w2 B (.slice va' r vcap) r n blk cap f := HG.out.keep hb2 HGL.out.1 HGL.out.2
      have hne : ∀ i, i < r → blk i ≠ R := fun i hi => by have := HGL.out.2 i hi; omega
      have hne0 : (Value.slice va' r vcap).ownBlock ≠ some R := fun e => by have := HGL.out.1 R e; omega
      have hbl2 : Below B w w2 := hbl.trans (hb2.mono (by omega))
      obtain ⟨rs, hrs, -⟩ := hg2.own
      have hrl := hrs.1
      have HG2 := Lib.hid hg2
      have HRS := Lib.hid hrs
      have HO := Lib.hid hO
      have HNE := Lib.hid (show (∀ i, i < r → blk i ≠ R) ∧ _ from ⟨hne, hne0⟩)
      have hsz2 := hbl2.size
      clear hown' hgrow hob hb2 hg2 hne hne0 hrs hO HAL HE HN2 HH hu'
      go_wp2_with (first
        | (at_builtin; refine wpList_append_own_at _ rfl (.tmp 11) (.tmp 18) 29 rfl B 31 iS (.slice none 0 0) 1 24 Try.underlying29 HS0.out HS.out.1 HS.out.2.1 HS.out.2.2 rfl (by decide) (.slice va' r vcap) r rs rfl (HRS.out.alloc _) ⟨w2.heap.size, 0, none⟩ 1 1 [.slice (some ⟨R, 0, none⟩) n rcap] rfl rfl (news1 w2 (.slice (some ⟨R, 0, none⟩) n rcap) 31 0) (by simp [Value.oneCell']) (by unfold maxLen; omega) (by omega) (by simp; omega) ?_)
        | go_in)
      intro v'' w3 hown'' hgrow _ hob
      have hb3 : Below B w2 w3 := ((Below.refl B w2).alloc (by omega) _).trans (below_grown (HRS.out.alloc _) (Nat.le_refl _) (by simp; omega) hgrow)
      have hg3 := HG2.out.app HRS.out HO.out HNE.out.2 HNE.out.1 ((Below.refl _ _).alloc (Nat.le_refl _) _) hgrow hown'' (fun k hk => by
        rcases hob with e | e
        · rw [e] at hk; exact .inl hk
        · rw [e] at hk; simp only [Option.some.injEq] at hk; right; rw [← hk]; simp)
      have HG3 := Lib.hid hg3
      have HB3 := Lib.hid (hbl2.trans hb3)
      clear hown'' hgrow hob hg3 hb3
      go_wp2_with fail
      go_roundw
      case rel => exact ⟨r + 1, _, _, by omega, by go_num, HG3.out, HB3.out⟩
      case measure => simp [intOf]; omega
    · obtain rfl : r = n := by omega
      obtain ⟨G, c, hv, hG⟩ := hg.grid (by omega)
      have HG := Lib.hid hG
      subst hv
      clear hG hg
      go_wp2_with fail
      go_ret
      exact ⟨G, c, blk, cap, rfl, HG.out, hbl⟩
end Go.Proofs.Ytnlbafjmbamoeaa
/-
  The document's rows of equations, walked: parted.
-/
namespace Go.Proofs.Ytnlbafjmbamoeaa
open Go.RowKit
open Ieee (double)
attribute [local go_sem] alloc_drewN setCell_drewN call_bits call_frombits ord_lt ord_eq ord_gt ord_ne ord_le ord_ge eqB_self run_fadd run_fsub run_fmul run_fquo haStoreFlt takeOp pureOp readsUpon doOp

/-- What is under way: the table, the order, where both stand. -/
structure PS (W w : World) (B G R L n c c2 : Nat) (blk cap : Nat → Nat) (g : Nat → Nat → Nat) (q : Nat → Nat) : Prop where
  grid : Grid w (B + 1) G n n blk cap g
  perm : OwnI w (B + 1) R n c2 (fun i => (q i : Int))
  box : Box2 L (.slice (some ⟨G, 0, none⟩) n c) (.slice (some ⟨R, 0, none⟩) n c2) w
  below : Below (B + 1) W w
  rg : R ≠ G
  br : ∀ i, i < n → blk i ≠ R
  lg : L ≠ G
  lr : L ≠ R
  bl : ∀ i, i < n → blk i ≠ L
  lo : B + 1 ≤ W.heap.size
theorem PS.go {W w w' : World} {B G R L n c c2 : Nat} {blk cap : Nat → Nat} {g : Nat → Nat → Nat} {q : Nat → Nat} (h : PS W w B G R L n c c2 blk cap g q) (hb : Below w.heap.size w w') : PS W w' B G R L n c c2 blk cap g q :=
  ⟨h.grid.below hb, h.perm.below hb h.perm.lt.2, h.box.below hb h.box.2.2, h.below.trans (hb.mono (Nat.le_trans h.lo h.below.size)), h.rg, h.br, h.lg, h.lr, h.bl, h.lo⟩
theorem PS.drew {W w : World} {B G R L n c c2 : Nat} {blk cap : Nat → Nat} {g : Nat → Nat → Nat} {q : Nat → Nat} (h : PS W w B G R L n c c2 blk cap g q) : PS W w.drew B G R L n c c2 blk cap g q := h.go (Below.refl _ _).drew
theorem PS.drewN {W w : World} {B G R L n c c2 : Nat} {blk cap : Nat → Nat} {g : Nat → Nat → Nat} {q : Nat → Nat} (h : PS W w B G R L n c c2 blk cap g q) (k : Nat) : PS W (w.drewN k) B G R L n c c2 blk cap g q := h.go (below_drew (Below.refl _ _) k)
theorem box_other {w : World} {L b o : Nat} {u v x : Value} (h : Box2 L u v w) (hb : b ≠ L) : Box2 L u v (w.setCell ⟨b, o, none⟩ x) := by
  have e : (w.setCell ⟨b, o, none⟩ x).heap[L]? = w.heap[L]? := Below.heap_setCell _ _ _ _ (fun q => hb q.symm)
  exact ⟨(World.cell?_of_block (a := ⟨L, 0, none⟩) e).trans h.1, (World.cell?_of_block (a := ⟨L, 1, none⟩) e).trans h.2.1, by simp [World.setCell]; exact h.2.2⟩
theorem PS.set {W w : World} {B G R L n c c2 : Nat} {blk cap : Nat → Nat} {g : Nat → Nat → Nat} {q : Nat → Nat} (h : PS W w B G R L n c c2 blk cap g q) {i j y d : Nat} (hi : i < n) (hj : j < n) (h1 : canon y = d) (h2 : y < 18446744073709551616) :
    PS W (w.setCell ⟨blk i, j, none⟩ (.float .f64 y)) B G R L n c c2 blk cap (updN2 g i j d) q :=
  ⟨h.grid.set hi hj h1 h2, h.perm.other (h.br i hi) _, box_other h.box (h.bl i hi), h.below.setCell (h.grid.row i hi).lt.1 _, h.rg, h.br, h.lg, h.lr, h.bl, h.lo⟩
theorem PS.congr {W w : World} {B G R L n c c2 : Nat} {blk cap : Nat → Nat} {g g' : Nat → Nat → Nat} {q : Nat → Nat} (h : PS W w B G R L n c c2 blk cap g q) (e : ∀ i j, i < n → j < n → g i j = g' i j) : PS W w B G R L n c c2 blk cap g' q :=
  ⟨h.grid.congr e, h.perm, h.box, h.below, h.rg, h.br, h.lg, h.lr, h.bl, h.lo⟩
theorem PS.swapG {W w : World} {B G R L n c c2 p k : Nat} {blk cap : Nat → Nat} {g : Nat → Nat → Nat} {q : Nat → Nat} (h : PS W w B G R L n c c2 blk cap g q) (hp : p < n) (hk : k < n) :
    PS W ((w.setCell ⟨G, k, none⟩ (.slice (some ⟨blk p, 0, none⟩) n (cap p))).setCell ⟨G, p, none⟩ (.slice (some ⟨blk k, 0, none⟩) n (cap k))) B G R L n c c2 (swp blk k p) (swp cap k p) (swp g k p) q :=
  ⟨h.grid.swap hk hp, (h.perm.other h.rg.symm _).other h.rg.symm _, box_other (box_other h.box h.lg.symm) h.lg.symm, (h.below.setCell h.grid.lo _).setCell h.grid.lo _, h.rg, fun i hi => by rw [swp_sg]; exact h.br _ (sg_lt hk hp hi), h.lg, h.lr, fun i hi => by rw [swp_sg]; exact h.bl _ (sg_lt hk hp hi), h.lo⟩
theorem PS.swapR {W w : World} {B G R L n c c2 p k : Nat} {blk cap : Nat → Nat} {g : Nat → Nat → Nat} {q : Nat → Nat} (h : PS W w B G R L n c c2 blk cap g q) (hp : p < n) (hk : k < n) :
    PS W ((w.setCell ⟨R, k, none⟩ (.int .i64 (q p))).setCell ⟨R, p, none⟩ (.int .i64 (q k))) B G R L n c c2 blk cap g (swp q k p) :=
  ⟨(h.grid.setOther h.rg (fun i hi e => h.br i hi e.symm) _).setOther h.rg (fun i hi e => h.br i hi e.symm) _, (h.perm.swap hk hp).congr (fun i _ => by rw [swp_sg, swp_sg]), box_other (box_other h.box h.lr.symm) h.lr.symm, (h.below.setCell h.perm.lt.1 _).setCell h.perm.lt.1 _, h.rg, h.br, h.lg, h.lr, h.bl, h.lo⟩
theorem Grid.belowN {w w' : World} {base G n m H : Nat} {blk cap : Nat → Nat} {f : Nat → Nat → Nat} (h : Grid w base G n m blk cap f) (hb : Below H w w') (hG : G < H) (hB : ∀ i, i < n → blk i < H) : Grid w' base G n m blk cap f :=
  ⟨fun i hi => (hb.cell (p := ⟨G, i, none⟩) hG).trans (h.ref i hi), fun i hi => (hb.frozen (p := ⟨G, i, none⟩) hG).trans (h.free i hi), fun i hi => (h.row i hi).below hb (hB i hi), h.inj, h.off, h.lo, Nat.lt_of_lt_of_le h.hi hb.size⟩
theorem box_set1 {w : World} {L : Nat} {u v : Value} (h : Box2 L u v w) (x : Value) : Box2 L u x (w.setCell ⟨L, 1, none⟩ x) := by
  obtain ⟨h1, h2, h3⟩ := h
  exact ⟨by simp [go_sem, h1], by simp [go_sem, h2], by simp [World.setCell]; exact h3⟩
theorem swp_comm {α : Type} (f : Nat → α) (p k : Nat) : swp f k p = swp f p k := by
  funext i
  rw [swp_sg, swp_sg]
  congr 1
  unfold sg
  by_cases h1 : i = p
  · by_cases h2 : i = k
    · rw [if_pos h1, if_pos h2]; omega
    · rw [if_pos h1, if_neg h2, if_pos h1]
  · by_cases h2 : i = k
    · rw [if_neg h1, if_pos h2, if_pos h2]
    · rw [if_neg h1, if_neg h2, if_neg h2, if_neg h1]
theorem run_store_slice (P : Program) (w : World) (a : Addr) (m : Mode) (p : Option Addr) (n c : Nat) : (store a (.slice p n c) m).run P w = stored P w a (.slice p n c) m := run_store P w a _ m rfl
/-- What parting tells: the table, the order; or nothing. -/
def RPartR (n : Nat) (o : Option ((Nat → Nat → Nat) × (Nat → Nat))) (w : World) (e : Ending) (w' : World) : Prop :=
  Below w.heap.size w w' ∧ match o with
  | none => e = .returned (.tuple #[.agg #[.slice none 0 0, .slice none 0 0], .bool false])
  | some (g, q) => ∃ G R c c2 blk cap, e = .returned (.tuple #[.agg #[.slice (some ⟨G, 0, none⟩) n c, .slice (some ⟨R, 0, none⟩) n c2], .bool true]) ∧ Grid w' w.heap.size G n n blk cap g ∧ OwnI w' w.heap.size R n c2 (fun i => (q i : Int)) ∧ R ≠ G ∧ ∀ i, i < n → blk i ≠ R
theorem rabsQ (x : Nat) (w : World) (hx : x < 18446744073709551616) : Calls Try.prog 17 #[.float .f64 x] w fun e w' => e = .returned (.float .f64 (ab x)) ∧ w' = w := by
  go_enter Try.func17, Try.ntmps17
  go_wp2_with fail
  refine (absQ x _ hx).mono ?_
  rintro e w' ⟨rfl, rfl⟩
  go_wp2_with fail
  go_ret
  exact ⟨rfl, rfl⟩
theorem rfinite_tells (a : Nat) (w : World) : Calls Try.prog 33 #[.float .f64 a] w (Tells (.bool (finB a)) w) := by
  have hz := fun w => eqz_fval w a
  have H := Lib.hid hz
  clear hz
  go_enter Try.func33, Try.ntmps33
  go_wp2
  go_ret
  exact ⟨ret_bool (H.out _), below_drew (Below.refl _ _) _⟩
set_option maxRecDepth 100000 in
set_option maxHeartbeats 8000000 in
theorem rpart_tells (n : Nat) (v : Value) (f : Nat → Nat → Nat) (w : World) (h : TabR w v n (fun _ => n) f) (h1 : 1 ≤ n) (h8 : n ≤ 8) :
    Calls Try.prog 51 #[v] w (RPartR n (partF f n n) w) := by
  have hb1 : Below w.heap.size w (w.alloc (.cells #[.slice none 0 0, .slice none 0 0] 67)) := (Below.refl _ _).alloc (Nat.le_refl _) _
  have ht := h.below hb1
  obtain ⟨iI, hI, i1, i2, i3⟩ := info_parts infoI
  have HN := Lib.hid (show iI.zero = _ ∧ iI.size = _ ∧ iI.bytes = _ from ⟨i1, i2, i3⟩)
  have HN0 := Lib.hid hI
  obtain ⟨a, cap0, rfl, hn, -⟩ := id h
  have CP := Lib.hid (rcopied_tells _ n f _ ht h1 h8)
  clear h ht hI i1 i2 i3
  go_enter Try.func51, Try.ntmps51
  go_wp2_with fail
  refine CP.out.mono ?_
  rintro e w2 ⟨G, c, blk, cap, rfl, hg, hb2⟩
  generalize hB : w.heap.size = B at *
  have hW : (w.alloc (.cells #[.slice none 0 0, .slice none 0 0] 67)).heap.size = B + 1 := by simp [hB]
  rw [hW] at hg hb2
  have hl0 : (w.alloc (.cells #[.slice none 0 0, .slice none 0 0] 67)).heap[B]? = some (.cells #[.slice none 0 0, .slice none 0 0] 67 (0, 0)) := by rw [← hB]; exact heap_alloc_new _ _
  generalize w.alloc (.cells #[.slice none 0 0, .slice none 0 0] 67) = W at *
  have LB0 := Lib.hid (show ∀ X, Below (B + 1) W X → X.cell? ⟨B, 0, none⟩ = some (.slice none 0 0) ∧ X.cell? ⟨B, 1, none⟩ = some (.slice none 0 0) ∧ X.frozen? ⟨B, 0, none⟩ = false ∧ X.frozen? ⟨B, 1, none⟩ = false from fun X hX => by
    have e := (hX.block B (by omega)).trans hl0
    refine ⟨?_, ?_, ?_, ?_⟩ <;> simp [World.cell?, World.frozen?, e] <;> rfl)
  have HW := Lib.hid hW
  have HG := Lib.hid hg
  have HB2 := Lib.hid hb2
  clear hl0 hW hg CP hb2
  go_wp2_with fail
  generalize hL : w2.heap.size = L at *
  have hLs : B + 1 ≤ L := by have := HB2.out.size; have := HW.out; omega
  have hGL : G < L := by have := HG.out.hi; omega
  have hbL0 : ∀ i, i < n → blk i < L := fun i hi => by have := (HG.out.row i hi).lt.2; omega
  have HBL0 := Lib.hid hbL0
  have hal : Below w2.heap.size w2 (w2.alloc (.cells #[.slice (some ⟨G, 0, none⟩) n c, .slice none 0 0] 67)) := (Below.refl _ _).alloc (Nat.le_refl _) _
  have hbx0 : Box2 L (.slice (some ⟨G, 0, none⟩) n c) (.slice none 0 0) (w2.alloc (.cells #[.slice (some ⟨G, 0, none⟩) n c, .slice none 0 0] 67)) := by rw [← hL]; exact Box2.new _ _ _ _
  have hfr0 : (w2.alloc (.cells #[.slice (some ⟨G, 0, none⟩) n c, .slice none 0 0] 67)).frozen? ⟨L, 1, none⟩ = false := by rw [← hL]; simp [go_sem]
  have hg0 := HG.out.below hal
  have hb0 : Below (B + 1) W (w2.alloc (.cells #[.slice (some ⟨G, 0, none⟩) n c, .slice none 0 0] 67)) := HB2.out.alloc (by omega) _
  generalize w2.alloc (.cells #[.slice (some ⟨G, 0, none⟩) n c, .slice none 0 0] 67) = X at *
  clear hbL0 hal HG HB2 hL
  clear w2
  go_loopw [6] (fun i wr => ∃ (r : Nat) (vp : Value) (qs : List Value), r ≤ n ∧ i = .int .i64 r ∧ Box2 L (.slice (some ⟨G, 0, none⟩) n c) vp wr ∧ wr.frozen? ⟨L, 1, none⟩ = false ∧ wr.ownsRow (B + 1) 3 1 vp r qs ∧ IVals qs r (fun i => (i : Int)) ∧ (∀ k, vp.ownBlock = some k → L < k) ∧ Grid wr (B + 1) G n n blk cap f ∧ Below (B + 1) W wr) (fun i _ => n - (intOf i).toNat)
  case atStart => exact ⟨0, _, [], by omega, rfl, hbx0, hfr0, World.ownsRow_nil _ _ _ _, IVals.nil _ _, (fun k hk => by cases hk), hg0, hb0⟩
  case round =>
    clear hbx0 hfr0 hg0 hb0
    obtain ⟨r, vp, qs, hr, rfl, hbx, hfr, ho, hq, hvp, hg, hbl⟩ := hrel
    obtain ⟨va, vcap, rfl⟩ := own_slice1 ho
    by_cases hlt : r < n
    · have _hn := hlt
      obtain ⟨x1, x2, x3⟩ := id hbx
      have HO := Lib.hid ho
      have HQ := Lib.hid hq
      have HVP := Lib.hid hvp
      have HG := Lib.hid hg
      have HBL := Lib.hid hbl
      have HBX := Lib.hid hbx
      have HFR := Lib.hid hfr
      have hsz := hbl.size
      have hWs := HW.out
      have HWs := Lib.hid hWs
      have hB1 : B + 1 ≤ wr.heap.size := by omega
      have hGs := hg.hi
      clear ho hq hvp hg hbl hbx hfr hWs
      go_wp2_with (first
        | (at_builtin; refine wpList_append_own_at _ rfl _ _ 22 rfl (B + 1) 3 iI (.int .i64 0) 1 8 Try.underlying22 HN0.out HN.out.1 HN.out.2.1 HN.out.2.2 rfl (by decide) (.slice va r vcap) r qs rfl (HO.out.alloc _) ⟨wr.heap.size, 0, none⟩ 1 1 [.int .i64 r] rfl rfl (news1 wr (.int .i64 r) 3 0) (by simp [Value.oneCell']) (by unfold maxLen; omega) (by omega) (by simp; omega) ?_)
        | go_in)
      intro v' w4 hown' hgrow _ hob
      have hvL : (Value.slice va r vcap).ownBlock ≠ some L := fun e => by have := HVP.out L e; omega
      have hb4 : Below (L + 1) wr w4 := ((Below.refl (L + 1) wr).alloc (by omega) _).grown hgrow (by simp; omega) (fun k hk => HVP.out k hk)
      have hbx4 := HBX.out.below hb4 (by omega)
      have hfr4 : w4.frozen? ⟨L, 1, none⟩ = false := (hb4.frozen (p := ⟨L, 1, none⟩) (show L < L + 1 by omega)).trans HFR.out
      have hg4 := HG.out.belowN hb4 (by omega) (fun i hi => by have := HBL0.out i hi; omega)
      have hbl4 := HBL.out.trans (hb4.mono (by omega))
      have hvp' : ∀ k, v'.ownBlock = some k → L < k := fun k hk => by
        rcases hob with e | e
        · rw [e] at hk; exact HVP.out k hk
        · rw [e] at hk; simp only [Option.some.injEq] at hk; rw [← hk]; first | omega | (simp; omega)
      obtain ⟨va', vcap', rfl⟩ := own_slice1 hown'
      have hql := HO.out.1
      have HQ' := Lib.hid (HQ.out.app (by omega) (y := (r : Int)) rfl)
      obtain ⟨x1, x2, x3⟩ := id hbx4
      have HBX4 := Lib.hid (box_set1 hbx4 (.slice va' (r + 1) vcap'))
      have HG4 := Lib.hid (hg4.setOther (B := L) (o := 1) (by omega) (fun i hi => by have := HBL0.out i hi; omega) (.slice va' (r + 1) vcap'))
      have HBL4 := Lib.hid (hbl4.setCell (p := ⟨L, 1, none⟩) hLs (.slice va' (r + 1) vcap'))
      have HFR4 := Lib.hid (show (w4.setCell ⟨L, 1, none⟩ (.slice va' (r + 1) vcap')).frozen? ⟨L, 1, none⟩ = false by simp [go_sem, hfr4])
      have HO4 := Lib.hid (own_kept (w' := w4.setCell ⟨L, 1, none⟩ (.slice va' (r + 1) vcap')) hown' (fun k hk => Below.heap_setCell _ _ _ _ (by have := hvp' k hk; show k ≠ L; omega)))
      have HVP4 := Lib.hid hvp'
      clear hown' hgrow hob hvL hb4 hbx4 hg4 hbl4 hvp' HO HQ HVP HG HBL HBX HFR
      go_wp2_with fail
      go_roundw
      case rel => exact ⟨r + 1, _, _, by omega, by go_num, HBX4.out, HFR4.out, HO4.out, HQ'.out, HVP4.out, HG4.out, HBL4.out⟩
      case measure => simp [intOf]; omega
    · obtain rfl : n = r := by omega
      obtain ⟨R, c2, hv, hO⟩ := hq.own ho (by omega)
      simp only [Value.slice.injEq] at hv
      obtain ⟨rfl, -, rfl⟩ := hv
      have hLR : L < R := hvp R rfl
      have hps : PS W wr B G R L n c vcap blk cap f (fun i => i) := ⟨hg, hO, hbx, hbl, by omega, fun i hi => by have := HBL0.out i hi; omega, by omega, by omega, fun i hi => by have := HBL0.out i hi; omega, by rw [HW.out]; exact Nat.le_refl _⟩
      have HPS := Lib.hid hps
      clear hg hO hbx hbl ho hq hvp hfr hps hlt hr hGL
      go_wp2_with fail
      go_loopw [7] (fun i wr => ∃ (k : Nat) (blk cap : Nat → Nat) (g : Nat → Nat → Nat) (q : Nat → Nat), k ≤ n ∧ i = .int .i64 k ∧ partF f n k = some (g, q) ∧ PS W wr B G R L n c vcap blk cap g q) (fun i _ => n - (intOf i).toNat)
      case atStart => exact ⟨0, _, _, _, _, by omega, rfl, rfl, HPS.out⟩
      case round =>
        clear HPS HBL0
        obtain ⟨k, blk, cap, g, q, hk, rfl, hpf, hps⟩ := hrel
        by_cases hlt : k < n
        · have P1 := Lib.hid (show partF f n (k + 1) = if dvB (g (pivF g k (n - 1 - k)) k) then some (clF (swp g (pivF g k (n - 1 - k)) k) k n n, swp q (pivF g k (n - 1 - k)) k) else none by rw [partF, hpf])
          have HP0 := Lib.hid hps
          clear hpf hps
          go_wp2_with fail
          go_loopw [8, 9] (fun p i wr => ∃ (j : Nat), k < j ∧ j ≤ n ∧ i = .int .i64 j ∧ p = .int .i64 (pivF g k (j - 1 - k) : Nat) ∧ PS W wr B G R L n c vcap blk cap g q) (fun _ i _ => n - (intOf i).toNat)
          case atStart => exact ⟨k + 1, by omega, by omega, by go_num, by rw [show k + 1 - 1 - k = 0 by omega]; rfl, HP0.out⟩
          case round =>
            clear HP0
            obtain ⟨j, hkj, hjn, rfl, rfl, hps⟩ := hrel
            have hp := pivF_le g k (j - 1 - k)
            by_cases hlj : j < n
            · have _hn := hlj
              have e1 : j + 1 - 1 - k = j - 1 - k + 1 := by omega
              have e2 : k + 1 + (j - 1 - k) = j := by omega
              have P2 := Lib.hid (show pivF g k (j + 1 - 1 - k) = if ltB (ab (g (pivF g k (j - 1 - k)) k)) (ab (g j k)) then j else pivF g k (j - 1 - k) by rw [e1, pivF, e2])
              clear e1 e2
              have hpn : pivF g k (j - 1 - k) < n := by omega
              generalize pivF g k (j - 1 - k) = p at *
              obtain ⟨x, x1, x2, x3⟩ := hps.grid.cell hlj hlt
              obtain ⟨y, y1, y2, y3⟩ := hps.grid.cell hpn hlt
              have r1 := hps.grid.ref j hlj
              have r2 := hps.grid.ref p hpn
              obtain ⟨b1, b2, b3⟩ := hps.box
              have E := Lib.hid (ltB_ab y2 x2)
              have HP := Lib.hid hps
              clear hps x2 y2
              go_wp2_with fail
              go_quiet ((go_at_call 17; exact Calls.quiet_of_same (rabsQ _ _ (by assumption))))
              have hE := E.out
              cases hb : ltB (ab y) (ab x) with
              | false =>
                rw [hb] at hE
                have Q1 := Lib.hid (show pivF g k (j + 1 - 1 - k) = _ by rw [P2.out, ← hE])
                clear P2 hE
                go_wp2_with fail
                go_roundw
                case rel => exact ⟨j + 1, by omega, by omega, by go_num, by rw [Q1.out]; rfl, HP.out.drewN _⟩
                case measure => simp [intOf]; omega
              | true =>
                rw [hb] at hE
                have Q1 := Lib.hid (show pivF g k (j + 1 - 1 - k) = _ by rw [P2.out, ← hE])
                clear P2 hE
                go_wp2_with fail
                go_roundw
                case rel => exact ⟨j + 1, by omega, by omega, by go_num, by rw [Q1.out]; rfl, HP.out.drewN _⟩
                case measure => simp [intOf]; omega
            · obtain rfl : n = j := by omega
              have hpn : pivF g k (n - 1 - k) < n := by omega
              generalize pivF g k (n - 1 - k) = p at *
              obtain ⟨x, x1, x2, x3⟩ := hps.grid.cell hpn hlt
              have r1 := hps.grid.ref p hpn
              obtain ⟨b1, b2, b3⟩ := hps.box
              have e1 : eqB x 0 = eqB (g p k) 0 := by
                rw [← x2]
                exact (eqB_canon x 0).symm
              have e2 : finB x = finB (g p k) := by rw [← x2, finB_canon]
              have hdv : dvB (g p k) = (!eqB x 0 && finB x) := by unfold dvB; rw [e1, e2]
              have HDV := Lib.hid hdv
              have HP := Lib.hid hps
              clear hps hdv e1 e2 x2
              cases hz : eqB x 0 with
              | true =>
                have hz' : (!eqB x 0) = false := by rw [hz]; rfl
                obtain ⟨l1, l2, l3, l4⟩ := LB0.out _ HP.out.below
                go_wp2_with fail
                have hno : partF f n (k + 1) = none := by rw [P1.out, HDV.out, hz]; rfl
                have hend : partF f n n = none := partF_none hno (by omega)
                have hb' : Below B w wr := hb1.trans (HP.out.below.mono (by omega))
                exact bodyPost_ret (v := .tuple #[.agg #[.slice none 0 0, .slice none 0 0], .bool false]) (by simp [results, Try.results51, go_sem, l1, l2]) rfl (by unfold RPartR; rw [hend, hB]; exact ⟨(hb'.setCell (Nat.le_refl _) _).setCell (Nat.le_refl _) _, rfl⟩)
              | false =>
                have hz' : (!eqB x 0) = true := by rw [hz]; rfl
                go_wp2_with fail
                refine (rfinite_tells x _).mono ?_
                rintro e w5 ⟨rfl, hb5⟩
                have HP5 := Lib.hid (HP.out.go hb5)
                clear hb5 HP r1 x1 b1 b2 b3
                cases hf : finB x with
                | false =>
                  obtain ⟨l1, l2, l3, l4⟩ := LB0.out _ HP5.out.below
                  go_wp2_with fail
                  have hno : partF f n (k + 1) = none := by rw [P1.out, HDV.out, hz, hf]; rfl
                  have hend : partF f n n = none := partF_none hno (by omega)
                  have hb' : Below B w w5 := hb1.trans (HP5.out.below.mono (by omega))
                  exact bodyPost_ret (v := .tuple #[.agg #[.slice none 0 0, .slice none 0 0], .bool false]) (by simp [results, Try.results51, go_sem, l1, l2]) rfl (by unfold RPartR; rw [hend, hB]; exact ⟨(hb'.setCell (Nat.le_refl _) _).setCell (Nat.le_refl _) _, rfl⟩)
                | true =>
                  have hyes : partF f n (k + 1) = some (clF (swp g k p) k n n, swp q k p) := by rw [P1.out, HDV.out, hz, hf, swp_comm g p k, swp_comm q p k]; rfl
                  have HY := Lib.hid hyes
                  clear hyes hz hz' hf x3 P1 HDV
                  go_wp2_with fail
                  refine wp_region_ordR [(0, 1), (1, 2), (2, 1), (3, 1), (4, 3), (5, 1), (6, 1), (7, 2), (8, 1), (9, 1), (10, 2), (11, 1), (12, 3), (13, 1), (14, 1), (15, 2), (16, 1), (17, 0), (18, 1), (19, 0)] (fun w => Box2 L (.slice (some ⟨G, 0, none⟩) n c) (.slice (some ⟨R, 0, none⟩) n vcap) w) (by kernel_rfl) (by kernel_rfl) (fun _ _ d _ _ h => by cases d <;> exact h) (HP5.out.drew.box) ?_
                  intro X2 hX2 hbx2
                  have hps : PS W X2 B G R L n c vcap blk cap g q := by rw [hX2]; exact HP5.out.drew
                  clear hX2 HP5
                  have r1 := hps.grid.ref p hpn
                  have r2 := hps.grid.ref k hlt
                  have r3 := hps.grid.free p hpn
                  have r4 := hps.grid.free k hlt
                  obtain ⟨b1, b2, b3⟩ := id hbx2
                  have HB6 := Lib.hid hbx2
                  have HP6 := Lib.hid hps
                  have HLG := Lib.hid hps.lg.symm
                  clear hps hbx2
                  iterate 4
                    first
                      | refine wpOrd_pure (fun K hK => ?_)
                      | refine wpOrd_take (fun K hK => ?_)
                    go_simp
                    refine hK _ ?_
                    clear hK K
                  refine wpOrd_keep (v := .slice (some ⟨G, 0, none⟩) n c) rfl rfl (fun wk hwk => ?_) ?_
                  · obtain ⟨k1, k2, k3⟩ := hwk
                    go_simp
                  iterate 7
                    first
                      | refine wpOrd_pure (fun K hK => ?_)
                      | refine wpOrd_take (fun K hK => ?_)
                    go_simp
                    refine hK _ ?_
                    clear hK K
                  refine wpOrd_keep (v := .slice (some ⟨G, 0, none⟩) n c) rfl rfl (fun wk hwk => ?_) ?_
                  · obtain ⟨k1, k2, k3⟩ := hwk
                    go_simp
                  iterate 4
                    first
                      | refine wpOrd_pure (fun K hK => ?_)
                      | refine wpOrd_take (fun K hK => ?_)
                    go_simp
                    refine hK _ ?_
                    clear hK K
                  refine wpOrd_doR (fun K hK => ?_)
                  go_simp
                  refine hK _ _ (fun h => Bool.noConfusion (Eq.trans (Eq.symm (by kernel_rfl : _ = false)) h)) (fun _ => box_other HB6.out HLG.out) ?_
                  clear hK K
                  iterate 1
                    first
                      | refine wpOrd_pure (fun K hK => ?_)
                      | refine wpOrd_take (fun K hK => ?_)
                    go_simp
                    refine hK _ ?_
                    clear hK K
                  obtain ⟨z, hz⟩ := cell_set1 (.slice (some ⟨blk p, 0, none⟩) n (cap p)) r2 r1
                  refine wpOrd_doR (fun K hK => ?_)
                  go_simp
                  refine hK _ _ (fun h => Bool.noConfusion (Eq.trans (Eq.symm (by kernel_rfl : _ = false)) h)) (fun _ => box_other (box_other HB6.out HLG.out) HLG.out) ?_
                  clear hK K
                  refine wpOrd_nil ?_
                  have hps7 := HP6.out.swapG hpn hlt
                  clear HP6 HB6 HLG r1 r2 r3 r4 b1 b2 b3 hz z
                  generalize (X2.setCell ⟨G, k, none⟩ (.slice (some ⟨blk p, 0, none⟩) n (cap p))).setCell ⟨G, p, none⟩ (.slice (some ⟨blk k, 0, none⟩) n (cap k)) = Y at *
                  have HP7 := Lib.hid hps7
                  clear hps7
                  go_wp2_with fail
                  refine wp_region_ordR [(0, 1), (1, 2), (2, 1), (3, 1), (4, 3), (5, 1), (6, 1), (7, 2), (8, 1), (9, 1), (10, 2), (11, 1), (12, 3), (13, 1), (14, 1), (15, 2), (16, 1), (17, 0), (18, 1), (19, 0)] (fun w => Box2 L (.slice (some ⟨G, 0, none⟩) n c) (.slice (some ⟨R, 0, none⟩) n vcap) w) (by kernel_rfl) (by kernel_rfl) (fun _ _ d _ _ h => by cases d <;> exact h) (HP7.out.drew.box) ?_
                  intro X3 hX3 hbx3
                  have hps : PS W X3 B G R L n c vcap (swp blk k p) (swp cap k p) (swp g k p) q := by rw [hX3]; exact HP7.out.drew
                  clear hX3 HP7
                  have r1 := hps.perm.cell hpn
                  have r2 := hps.perm.cell hlt
                  have r3 := hps.perm.free p
                  have r4 := hps.perm.free k
                  obtain ⟨b1, b2, b3⟩ := id hbx3
                  have HB6 := Lib.hid hbx3
                  have HP6 := Lib.hid hps
                  have HLR := Lib.hid hps.lr.symm
                  clear hps hbx3
                  iterate 4
                    first
                      | refine wpOrd_pure (fun K hK => ?_)
                      | refine wpOrd_take (fun K hK => ?_)
                    go_simp
                    refine hK _ ?_
                    clear hK K
                  refine wpOrd_keep (v := .slice (some ⟨R, 0, none⟩) n vcap) rfl rfl (fun wk hwk => ?_) ?_
                  · obtain ⟨k1, k2, k3⟩ := hwk
                    go_simp
                  iterate 7
                    first
                      | refine wpOrd_pure (fun K hK => ?_)
                      | refine wpOrd_take (fun K hK => ?_)
                    go_simp
                    refine hK _ ?_
                    clear hK K
                  refine wpOrd_keep (v := .slice (some ⟨R, 0, none⟩) n vcap) rfl rfl (fun wk hwk => ?_) ?_
                  · obtain ⟨k1, k2, k3⟩ := hwk
                    go_simp
                  iterate 4
                    first
                      | refine wpOrd_pure (fun K hK => ?_)
                      | refine wpOrd_take (fun K hK => ?_)
                    go_simp
                    refine hK _ ?_
                    clear hK K
                  refine wpOrd_doR (fun K hK => ?_)
                  go_simp
                  refine hK _ _ (fun h => Bool.noConfusion (Eq.trans (Eq.symm (by kernel_rfl : _ = false)) h)) (fun _ => box_other HB6.out HLR.out) ?_
                  clear hK K
                  iterate 1
                    first
                      | refine wpOrd_pure (fun K hK => ?_)
                      | refine wpOrd_take (fun K hK => ?_)
                    go_simp
                    refine hK _ ?_
                    clear hK K
                  obtain ⟨z, hz⟩ := cell_set1 (.int .i64 (q p : Int)) r2 r1
                  refine wpOrd_doR (fun K hK => ?_)
                  go_simp
                  refine hK _ _ (fun h => Bool.noConfusion (Eq.trans (Eq.symm (by kernel_rfl : _ = false)) h)) (fun _ => box_other (box_other HB6.out HLR.out) HLR.out) ?_
                  clear hK K
                  refine wpOrd_nil ?_
                  have hps8 := HP6.out.swapR hpn hlt
                  clear HP6 HB6 HLR r1 r2 r3 r4 b1 b2 b3 hz z
                  generalize (X3.setCell ⟨R, k, none⟩ (.int .i64 (q p : Int))).setCell ⟨R, p, none⟩ (.int .i64 (q k : Int)) = V at *
                  generalize swp g k p = g2 at *
                  generalize swp q k p = q2 at *
                  generalize swp blk k p = blk2 at *
                  generalize swp cap k p = cap2 at *
                  have HP8 := Lib.hid hps8
                  clear hps8
                  go_wp2_with fail
                  go_loopw [10] (fun i wr => ∃ (j : Nat), k < j ∧ j ≤ n ∧ i = .int .i64 j ∧ PS W wr B G R L n c vcap blk2 cap2 (clF g2 k n j) q2) (fun i _ => n - (intOf i).toNat)
                  case atStart => exact ⟨k + 1, by omega, by omega, by go_num, by rw [clF_start]; exact HP8.out⟩
                  case round =>
                    clear HP8
                    obtain ⟨i, hki, hin, rfl, hps⟩ := hrel
                    by_cases hil : i < n
                    · have HP := Lib.hid hps
                      clear hps
                      go_wp2_with fail
                      refine wp_region_ord [(0, 1), (1, 2), (2, 1), (3, 1), (4, 2), (5, 1), (6, 1), (7, 2), (8, 1), (9, 1), (10, 2), (11, 1), (12, 1), (13, 2), (14, 1), (15, 2), (16, 1), (17, 1), (18, 2), (19, 1), (20, 1), (21, 2), (22, 0), (23, 1), (24, 0)] (by kernel_rfl) (by kernel_rfl) (fun _ _ d _ _ h => by cases d <;> exact h) ?_
                      intro X4 hX4
                      have hps : PS W X4 B G R L n c vcap blk2 cap2 (clF g2 k n i) q2 := by rw [hX4]; exact HP.out.drew
                      clear hX4 HP
                      have r1 := hps.grid.ref i hil
                      have r2 := hps.grid.ref k hlt
                      have r3 := (hps.grid.row i hil).free
                      obtain ⟨x, x1, x2, x3⟩ := hps.grid.cell hil hlt
                      obtain ⟨y, y1, y2, y3⟩ := hps.grid.cell hlt hlt
                      rw [clF_row] at x2
                      rw [clF_top] at y2
                      have HX := Lib.hid (show canon x = g2 i k ∧ canon y = g2 k k from ⟨x2, y2⟩)
                      obtain ⟨b1, b2, b3⟩ := hps.box
                      have HP := Lib.hid hps
                      clear hps x2 y2
                      iterate 22
                        first
                          | refine wpOrd_pure (fun K hK => ?_)
                          | refine wpOrd_take (fun K hK => ?_)
                        go_simp
                        refine hK _ ?_
                        clear hK K
                      refine wpOrd_do (fun K hK => ?_)
                      go_simp
                      refine hK _ _ (fun _ => ⟨_, rfl⟩) ?_
                      clear hK K
                      iterate 1
                        first
                          | refine wpOrd_pure (fun K hK => ?_)
                          | refine wpOrd_take (fun K hK => ?_)
                        go_simp
                        refine hK _ ?_
                        clear hK K
                      refine wpOrd_do (fun K hK => ?_)
                      go_simp
                      refine hK _ _ (fun h => Bool.noConfusion (Eq.trans (Eq.symm (by kernel_rfl : _ = false)) h)) ?_
                      clear hK K
                      refine wpOrd_nil ?_
                      have e3 : updN2 (clF g2 k n i) i k (cop .quo (g2 i k) (g2 k k)) = updN (clF g2 k n i) i (clR g2 k i (k + 1)) := by unfold updN2; rw [clF_row, clR_zero]
                      have hv : canon (fval .quo X4 x y) = cop .quo (g2 i k) (g2 k k) := copFF .quo _ HX.out.1 HX.out.2
                      have hps9 := (HP.out.set hil hlt hv (fval_lt _ _ _ _)).drewN (ndraw .quo x y)
                      rw [e3] at hps9
                      clear HP HX hv e3 r1 r2 r3 x1 y1 b1 b2 b3
                      generalize (X4.setCell ⟨blk2 i, k, none⟩ (.float .f64 (fval .quo X4 x y))).drewN (ndraw .quo x y) = Z4 at *
                      have HP9 := Lib.hid hps9
                      clear hps9
                      go_wp2_with fail
                      go_loopw [11] (fun jj wr => ∃ (m : Nat), k < m ∧ m ≤ n ∧ jj = .int .i64 m ∧ PS W wr B G R L n c vcap blk2 cap2 (updN (clF g2 k n i) i (clR g2 k i m)) q2) (fun jj _ => n - (intOf jj).toNat)
                      case atStart => exact ⟨k + 1, by omega, by omega, by go_num, HP9.out⟩
                      case round =>
                        clear HP9 x3 y3
                        obtain ⟨m, hkm, hmn, rfl, hps⟩ := hrel
                        by_cases hml : m < n
                        · have HP := Lib.hid hps
                          clear hps
                          go_wp2_with fail
                          refine wp_region_ord [(0, 1), (1, 2), (2, 1), (3, 1), (4, 2), (5, 1), (6, 1), (7, 2), (8, 1), (9, 2), (10, 1), (11, 1), (12, 2), (13, 1), (14, 1), (15, 2), (16, 0), (17, 1)] (by kernel_rfl) (by kernel_rfl) (fun _ _ d _ _ h => by cases d <;> exact h) ?_
                          intro X5 hX5
                          have hps : PS W X5 B G R L n c vcap blk2 cap2 (updN (clF g2 k n i) i (clR g2 k i m)) q2 := by rw [hX5]; exact HP.out.drew
                          clear hX5 HP
                          have r1 := hps.grid.ref i hil
                          have r2 := hps.grid.ref k hlt
                          obtain ⟨l, l1, l2, l3⟩ := hps.grid.cell hil hlt
                          obtain ⟨y, y1, y2, y3⟩ := hps.grid.cell hlt hml
                          rw [updN_at] at l2
                          rw [updN_ne _ _ (by omega), clF_top] at y2
                          have e2 : clR g2 k i m k = cop .quo (g2 i k) (g2 k k) := by unfold clR; rw [if_pos rfl]
                          rw [e2] at l2
                          have HX := Lib.hid (show canon l = cop .quo (g2 i k) (g2 k k) ∧ canon y = g2 k m from ⟨l2, y2⟩)
                          obtain ⟨b1, b2, b3⟩ := hps.box
                          have HP := Lib.hid hps
                          clear hps l2 y2 e2
                          iterate 16
                            first
                              | refine wpOrd_pure (fun K hK => ?_)
                              | refine wpOrd_take (fun K hK => ?_)
                            go_simp
                            refine hK _ ?_
                            clear hK K
                          refine wpOrd_do (fun K hK => ?_)
                          go_simp
                          refine hK _ _ (fun _ => ⟨_, rfl⟩) ?_
                          clear hK K
                          iterate 1
                            first
                              | refine wpOrd_pure (fun K hK => ?_)
                              | refine wpOrd_take (fun K hK => ?_)
                            go_simp
                            refine hK _ ?_
                            clear hK K
                          refine wpOrd_nil ?_
                          have hv : canon (fval .mul X5 l y) = cop .mul (cop .quo (g2 i k) (g2 k k)) (g2 k m) := copFF .mul _ HX.out.1 HX.out.2
                          have hps5 := HP.out.drewN (ndraw .mul l y)
                          generalize fval .mul X5 l y = t at *
                          generalize X5.drewN (ndraw .mul l y) = Z5 at *
                          clear HP HX r1 r2 l1 y1 b1 b2 b3 l3 y3
                          have HV := Lib.hid hv
                          have HP := Lib.hid hps5
                          clear hps5 hv
                          go_wp2_with fail
                          refine wp_region_ord [(0, 1), (1, 2), (2, 1), (3, 1), (4, 2), (5, 1), (6, 1), (7, 2), (8, 1), (9, 1), (10, 2), (11, 1), (12, 1), (13, 2), (14, 1), (15, 0), (16, 1), (17, 0)] (by kernel_rfl) (by kernel_rfl) (fun _ _ d _ _ h => by cases d <;> exact h) ?_
                          intro X6 hX6
                          have hps : PS W X6 B G R L n c vcap blk2 cap2 (updN (clF g2 k n i) i (clR g2 k i m)) q2 := by rw [hX6]; exact HP.out.drew
                          clear hX6 HP
                          have r1 := hps.grid.ref i hil
                          have r3 := (hps.grid.row i hil).free
                          obtain ⟨x, x1, x2, x3⟩ := hps.grid.cell hil hml
                          rw [updN_at] at x2
                          have e1 : clR g2 k i m m = g2 i m := by unfold clR; rw [if_neg (by omega), if_neg (by omega)]
                          rw [e1] at x2
                          have HX := Lib.hid x2
                          obtain ⟨b1, b2, b3⟩ := hps.box
                          have HP := Lib.hid hps
                          clear hps x2 e1
                          iterate 15
                            first
                              | refine wpOrd_pure (fun K hK => ?_)
                              | refine wpOrd_take (fun K hK => ?_)
                            go_simp
                            refine hK _ ?_
                            clear hK K
                          refine wpOrd_do (fun K hK => ?_)
                          go_simp
                          refine hK _ _ (fun _ => ⟨_, rfl⟩) ?_
                          clear hK K
                          iterate 1
                            first
                              | refine wpOrd_pure (fun K hK => ?_)
                              | refine wpOrd_take (fun K hK => ?_)
                            go_simp
                            refine hK _ ?_
                            clear hK K
                          refine wpOrd_do (fun K hK => ?_)
                          go_simp
                          refine hK _ _ (fun h => Bool.noConfusion (Eq.trans (Eq.symm (by kernel_rfl : _ = false)) h)) ?_
                          clear hK K
                          refine wpOrd_nil ?_
                          have hw : canon (fval .sub X6 x t) = cop .sub (g2 i m) (cop .mul (cop .quo (g2 i k) (g2 k k)) (g2 k m)) := copFF .sub _ HX.out HV.out
                          have hps6 := (HP.out.set hil hml hw (fval_lt _ _ _ _)).drewN (ndraw .sub x t)
                          unfold updN2 at hps6
                          rw [updN_at, updN_updN, ← clR_succ g2 hkm] at hps6
                          have HP6 := Lib.hid hps6
                          clear hps6 HP HX HV r1 r3 x1 b1 b2 b3 hw
                          go_wp2_with fail
                          go_roundw
                          case rel => exact ⟨m + 1, by omega, by omega, by go_num, HP6.out⟩
                          case measure => simp [intOf]; omega
                        · obtain rfl : n = m := by omega
                          rw [clF_next g2 hki] at hps
                          have HP := Lib.hid hps
                          clear hps
                          go_wp2_with fail
                          go_roundw
                          case rel => exact ⟨i + 1, by omega, by omega, by go_num, HP.out⟩
                          case measure => simp [intOf]; omega
                    · obtain rfl : n = i := by omega
                      have HP := Lib.hid hps
                      clear hps
                      go_wp2_with fail
                      go_roundw
                      case rel => exact ⟨k + 1, _, _, _, _, by omega, by go_num, HY.out, HP.out⟩
                      case measure => simp [intOf]; omega
        · obtain rfl : n = k := by omega
          have hb' : Below B w wr := hb1.trans (hps.below.mono (by omega))
          obtain ⟨l1, l2, l3, l4⟩ := LB0.out _ hps.below
          obtain ⟨b1, b2, b3⟩ := hps.box
          have HP := Lib.hid hps
          have HPF := Lib.hid hpf
          have HBW := Lib.hid hb'
          clear hps hpf hb'
          go_wp2_with fail
          have n1 : ∀ v o, Grid ((wr.setCell ⟨B, 0, none⟩ v).setCell ⟨B, 1, none⟩ o) (B + 1) G n n blk cap g := fun v o => (HP.out.grid.setOther (by have := HP.out.grid.lo; omega) (fun i hi => by have := (HP.out.grid.row i hi).lt.1; omega) v).setOther (by have := HP.out.grid.lo; omega) (fun i hi => by have := (HP.out.grid.row i hi).lt.1; omega) o
          have n2 : ∀ v o, OwnI ((wr.setCell ⟨B, 0, none⟩ v).setCell ⟨B, 1, none⟩ o) (B + 1) R n vcap (fun i => (q i : Int)) := fun v o => (HP.out.perm.other (by have := HP.out.perm.lt.1; omega) v).other (by have := HP.out.perm.lt.1; omega) o
          exact bodyPost_ret (v := .tuple #[.agg #[.slice (some ⟨G, 0, none⟩) n c, .slice (some ⟨R, 0, none⟩) n vcap], .bool true]) (by simp [results, Try.results51, go_sem, l1, l2]) rfl (by
            unfold RPartR
            rw [HPF.out, hB]
            exact ⟨(HBW.out.setCell (Nat.le_refl _) _).setCell (Nat.le_refl _) _, G, R, c, vcap, blk, cap, rfl, (n1 _ _).base (by omega), (n2 _ _).base (by omega), HP.out.rg, HP.out.br⟩)
end Go.Proofs.Ytnlbafjmbamoeaa
/-
  The document's rows of equations, walked: solved.
-/
namespace Go.Proofs.Ytnlbafjmbamoeaa
open Go.RowKit
open Ieee (double)
attribute [local go_sem] alloc_drewN setCell_drewN call_bits call_frombits ord_lt ord_eq ord_gt ord_ne ord_le ord_ge eqB_self run_fadd run_fsub run_fmul run_fquo haStoreFlt takeOp pureOp readsUpon doOp Int.add_sub_cancel

set_option maxHeartbeats 8000000 in
set_option maxRecDepth 100000 in
theorem rsolve_tells (n : Nat) (vA vP vb : Value) (f : Nat → Nat → Nat) (q b : Nat → Nat) (w : World) (hA : TabR w vA n (fun _ => n) f) (hP : Ints0 w vP n (fun i => (q i : Int))) (hb : FRow w vb n b) (hq : ∀ i, i < n → q i < n) (h1 : 1 ≤ n) (h8 : n ≤ 8) :
    Calls Try.prog 29 #[.agg #[vA, vP], vb] w fun e w' => ∃ R, e = .returned (.slice (some ⟨R, 0, none⟩) n n) ∧ OwnF w' w.heap.size R n n (solveF f n (fun i => b (q i))) ∧ Below w.heap.size w w' := by
  have hb1 : Below w.heap.size w (w.alloc (.cells #[vA, vP] 67)) := (Below.refl _ _).alloc (Nat.le_refl _) _
  have hbx := Box2.new vA vP w 67
  obtain ⟨a, capA, rfl, hn, hAr⟩ := hA
  obtain ⟨p, capP, rfl, -, hPr⟩ := hP
  obtain ⟨c, capb, rfl, -, hbr⟩ := hb
  obtain ⟨ab_, ao, rfl, has, hAc⟩ := hAr (by omega)
  obtain ⟨pb, po, rfl, hps, hPc⟩ := hPr (by omega)
  obtain ⟨bb, bo, rfl, hbs, hbc⟩ := hbr (by omega)
  obtain ⟨iF, hF, f1, f2, f3⟩ := info_parts infoF
  have HF := Lib.hid (show iF.zero = _ ∧ iF.size = _ ∧ iF.bytes = _ from ⟨f1, f2, f3⟩)
  have HF0 := Lib.hid hF
  have HAC := Lib.hid hAc
  have HPC := Lib.hid hPc
  have HBC := Lib.hid hbc
  have HQ := Lib.hid hq
  clear hF f1 f2 f3 hAr hPr hbr hAc hPc hbc hq
  go_enter Try.func29, Try.ntmps29
  obtain ⟨x1, x2, x3⟩ := id hbx
  generalize hB : w.heap.size = B at *
  have hW : (w.alloc (.cells #[.slice (some ⟨ab_, ao, none⟩) n capA, .slice (some ⟨pb, po, none⟩) n capP] 67)).heap.size = B + 1 := by simp [hB]
  have old : ∀ X, Below (B + 1) (w.alloc (.cells #[.slice (some ⟨ab_, ao, none⟩) n capA, .slice (some ⟨pb, po, none⟩) n capP] 67)) X → ∀ b o, b < B → X.cell? ⟨b, o, none⟩ = w.cell? ⟨b, o, none⟩ := fun X hX b o hb => (hX.cell (p := ⟨b, o, none⟩) (show b < B + 1 by omega)).trans (hb1.cell (p := ⟨b, o, none⟩) hb)
  have OLD := Lib.hid old
  have HW := Lib.hid hW
  have BX := Lib.hid (show ∀ X, Below (B + 1) (w.alloc (.cells #[.slice (some ⟨ab_, ao, none⟩) n capA, .slice (some ⟨pb, po, none⟩) n capP] 67)) X → Box2 B (.slice (some ⟨ab_, ao, none⟩) n capA) (.slice (some ⟨pb, po, none⟩) n capP) X from fun X hX => hbx.below hX (by omega))
  clear old hW x1 x2 x3 hbx
  go_wp2_with (first
    | (refine wpList_make_full _ rfl _ _ _ rfl (B + 1) 32 iF (.float .f64 0) 1 Try.underlying31 HF0.out HF.out.1 HF.out.2.1 .i64 .i64 (n : Int) (n : Int) n rfl rfl rfl rfl (by rw [HF.out.2.2]; omega) (by unfold maxLen; omega) (by rw [HW.out]; exact Nat.le_refl _) ?_))
  generalize w.alloc (.cells #[.slice (some ⟨ab_, ao, none⟩) n capA, .slice (some ⟨pb, po, none⟩) n capP] 67) = W at *
  intro w2 hr1 hg1
  have hb2 : Below (B + 1) W w2 := (Below.refl _ W).grown hg1 (by rw [HW.out]; exact Nat.le_refl _) (fun k hk => by cases hk)
  have ho := ownF_made hr1
  clear hr1 hg1
  go_wp2_with fail
  go_loopw [7] (fun i wr => ∃ (i' : Nat) (g : Nat → Nat), i' ≤ n ∧ i = .int .i64 i' ∧ OwnF wr (B + 1) (B + 1) n n g ∧ (∀ j, j < i' → g j = b (q j)) ∧ Below (B + 1) W wr) (fun i _ => n - (intOf i).toNat)
  case atStart => exact ⟨0, _, by omega, rfl, ho, fun j hj => by omega, hb2⟩
  case round =>
    clear ho hb2
    obtain ⟨i, g, hi, rfl, ho, hg, hbl⟩ := hrel
    by_cases hlt : i < n
    · have o1 := OLD.out _ hbl
      have p1 := HPC.out i hlt
      obtain ⟨y, y1, y2, y3⟩ := HBC.out (q i) (HQ.out i hlt)
      have hqi := HQ.out i hlt
      have d1 : decide ((q i : Int) < 0) = false := by simp
      have d2 : decide (n ≤ q i) = false := by simpa using hqi
      have d3 : decide ((n : Int) ≤ (q i : Int)) = false := by simpa using hqi
      rw [← o1 _ _ hps] at p1
      rw [← o1 _ _ hbs] at y1
      obtain ⟨x1, x2, x3⟩ := BX.out _ hbl
      have r1 := ho.free i
      obtain ⟨z, z1, -, -⟩ := ho.cell hlt
      have hRl := ho.lt
      have ho2 := ho.set hlt y2 y3
      have HO := Lib.hid ho2
      have HG := Lib.hid hg
      have hbl2 := Lib.hid (hbl.setCell (p := ⟨B + 1, i, none⟩) hRl.1 (.float .f64 y))
      clear ho ho2 hg o1 y2 hbl
      go_wp2_with fail
      generalize wr.setCell ⟨B + 1, i, none⟩ (.float .f64 y) = X at *
      clear r1 z1 p1 y1 y3
      go_roundw
      case rel => exact ⟨i + 1, _, by omega, by go_num, HO.out, fun j hj => by
        by_cases e : j = i
        · subst e; rw [updN_at]
        · rw [updN_ne _ _ e]; exact HG.out j (by omega), hbl2.out⟩
      case measure => simp [intOf]; omega
    · obtain rfl : n = i := by omega
      have HO := Lib.hid ho
      have HG := Lib.hid hg
      have HBL := Lib.hid hbl
      clear ho hg hbl
      go_wp2_with fail
      generalize hbq : (fun i => b (q i)) = bq at *
      have HBQ := Lib.hid (show ∀ i, b (q i) = bq i from fun i => congrFun hbq i)
      clear hbq HPC HBC HQ
      go_loopw [8] (fun i wr => ∃ (i' : Nat) (g : Nat → Nat), i' ≤ n ∧ i = .int .i64 i' ∧ OwnF wr (B + 1) (B + 1) n n g ∧ (∀ j, j < n → g j = if j < i' then fwF f bq j else bq j) ∧ Below (B + 1) W wr) (fun i _ => n - (intOf i).toNat)
      case atStart => exact ⟨0, _, by omega, rfl, HO.out, fun j hj => by rw [if_neg (by omega), HG.out j hj, HBQ.out], HBL.out⟩
      case round =>
        clear HO HG HBL
        obtain ⟨i, g, hi, rfl, ho, hg, hbl⟩ := hrel
        by_cases hil : i < n
        · have HO := Lib.hid ho
          have HG := Lib.hid hg
          have HBL := Lib.hid hbl
          clear ho hg hbl
          go_wp2_with fail
          go_loopw [9] (fun j wr => ∃ (m : Nat) (g : Nat → Nat), m ≤ i ∧ j = .int .i64 m ∧ OwnF wr (B + 1) (B + 1) n n g ∧ (∀ j, j < n → g j = if j < i then fwF f bq j else if j = i then subsF (f i) (fwF f bq) (bq i) m else bq j) ∧ Below (B + 1) W wr) (fun j _ => i - (intOf j).toNat)
          case atStart => exact ⟨0, _, by omega, rfl, HO.out, fun j hj => by
            rw [HG.out j hj]
            by_cases e : j < i
            · rw [if_pos e, if_pos e]
            · rw [if_neg e, if_neg e]
              by_cases e2 : j = i
              · subst e2; rw [if_pos rfl]; rfl
              · rw [if_neg e2], HBL.out⟩
          case round =>
            clear HO HG HBL
            obtain ⟨m, g, hm, rfl, ho, hg, hbl⟩ := hrel
            by_cases hml : m < i
            · have hmn : m < n := by omega
              have HGm := Lib.hid (show g m = fwF f bq m ∧ g i = subsF (f i) (fwF f bq) (bq i) m from ⟨by rw [hg m hmn, if_pos hml], by rw [hg i hil, if_neg (by omega), if_pos rfl]⟩)
              have HG := Lib.hid hg
              clear hg
              go_wp2_with fail
              refine wp_region_ord [(0, 1), (1, 2), (2, 1), (3, 1), (4, 2), (5, 1), (6, 1), (7, 2), (8, 1), (9, 1), (10, 1), (11, 2), (12, 0), (13, 1)] (by kernel_rfl) (by kernel_rfl) (fun _ _ d _ _ h => by cases d <;> exact h) ?_
              intro Y hY
              have ho3 : OwnF Y (B + 1) (B + 1) n n g := by rw [hY]; exact ho.drew
              have hbl3 : Below (B + 1) W Y := by rw [hY]; exact hbl.drew
              clear hY ho hbl
              obtain ⟨a1, a2, a3⟩ := BX.out _ hbl3
              obtain ⟨u, u1, ua, ucap, rfl, -, ur⟩ := HAC.out i hil
              obtain ⟨ub, uo, rfl, hus, uc⟩ := ur (by omega)
              obtain ⟨l, l1, l2, l3⟩ := uc m (by omega)
              have o1 := OLD.out _ hbl3
              rw [← o1 _ _ has] at u1
              rw [← o1 _ _ (by rw [← hB]; exact hus)] at l1
              obtain ⟨y, y1, y2, y3⟩ := ho3.cell hmn
              have HX := Lib.hid (show canon l = f i m ∧ canon y = g m from ⟨l2, y2⟩)
              have HO := Lib.hid ho3
              have HBL := Lib.hid hbl3
              clear ho3 hbl3 l2 y2 ur uc o1
              iterate 12
                first
                  | refine wpOrd_pure (fun K hK => ?_)
                  | refine wpOrd_take (fun K hK => ?_)
                go_simp
                refine hK _ ?_
                clear hK K
              refine wpOrd_do (fun K hK => ?_)
              go_simp
              refine hK _ _ (fun _ => ⟨_, rfl⟩) ?_
              clear hK K
              iterate 1
                first
                  | refine wpOrd_pure (fun K hK => ?_)
                  | refine wpOrd_take (fun K hK => ?_)
                go_simp
                refine hK _ ?_
                clear hK K
              refine wpOrd_nil ?_
              have hv : canon (fval .mul Y l y) = cop .mul (f i m) (fwF f bq m) := copFF .mul _ HX.out.1 (HX.out.2.trans HGm.out.1)
              have ho4 := HO.out.drewN (ndraw .mul l y)
              have hbl4 := below_drew HBL.out (ndraw .mul l y)
              generalize fval .mul Y l y = t at *
              generalize Y.drewN (ndraw .mul l y) = Z at *
              obtain ⟨x, s1, s2, s3⟩ := ho4.cell hil
              have r1 := ho4.free i
              have hRl := ho4.lt.1
              have HV := Lib.hid hv
              have HX2 := Lib.hid s2
              have HO4 := Lib.hid ho4
              have HBL4 := Lib.hid hbl4
              clear hv ho4 hbl4 HO HBL HX a1 a2 u1 l1 y1 s2 l3 y3
              go_wp2_with fail
              have hw : ∀ w', canon (fval .sub w' x t) = subsF (f i) (fwF f bq) (bq i) (m + 1) := fun w' => by
                rw [copFF .sub w' (HX2.out.trans HGm.out.2) HV.out]
                rfl
              have HW2 := Lib.hid hw
              clear hw
              go_roundw
              case rel => exact ⟨m + 1, _, by omega, by go_num, (HO4.out.set hil (HW2.out _) (fval_lt _ _ _ _)).drewN _, fun j hj => by
                by_cases e : j = i
                · subst e; rw [updN_at, if_neg (by omega), if_pos rfl]
                · rw [updN_ne _ _ e, HG.out j hj, if_neg e, if_neg e], below_drew (HBL4.out.setCell (p := ⟨B + 1, i, none⟩) hRl _) _⟩
              case measure => simp [intOf]; omega
            · obtain rfl : i = m := by omega
              have HG := Lib.hid hg
              clear hg
              go_wp2_with fail
              go_roundw
              case rel => exact ⟨i + 1, g, by omega, by go_num, ho, fun j hj => by
                rw [HG.out j hj]
                by_cases e : j < i
                · rw [if_pos e, if_pos (by omega)]
                · rw [if_neg e]
                  by_cases e2 : j = i
                  · subst e2; rw [if_pos rfl, if_pos (by omega), fwF_eq]
                  · rw [if_neg e2, if_neg (by omega)], hbl⟩
              case measure => simp [intOf]; omega
        · obtain rfl : n = i := by omega
          have HG := Lib.hid hg
          clear hg
          go_wp2_with fail
          generalize hY : fwF f bq = y at *
          have HYE := Lib.hid hY
          clear hY
          go_loopw [11] (fun sl wr => ∃ (t : Nat) (g : Nat → Nat), t ≤ n ∧ sl = .int .i64 t ∧ OwnF wr (B + 1) (B + 1) n n g ∧ (∀ j, j < n → g j = if t ≤ j then bkF f n y j else y j) ∧ Below (B + 1) W wr) (fun sl _ => (intOf sl).toNat)
          case atStart => exact ⟨n, g, by omega, rfl, ho, fun j hj => by rw [if_neg (by omega), HG.out j hj, if_pos hj], hbl⟩
          case round =>
            clear ho hbl HG
            obtain ⟨t, g, ht, rfl, ho, hg, hbl⟩ := hrel
            cases t with
            | zero =>
              have HG := Lib.hid hg
              clear hg
              go_wp2_with fail
              go_ret
              exact ⟨B + 1, rfl, (ho.base (by omega)).congr (fun j hj => by rw [HG.out j hj, if_pos (by omega)]; unfold solveF; rw [show (fun i => b (q i)) = bq from funext HBQ.out, HYE.out]), hb1.trans (hbl.mono (by omega))⟩
            | succ r =>
              have hri : r < n := by omega
              have HG := Lib.hid hg
              clear hg
              rw [show ((r + 1 : Nat) : Int) = (r : Int) + 1 by omega]
              have hwr : IntKind.i64.wrap (r : Int) = (r : Int) := IntWalk.i64_in _ (by omega)
              go_wp2_with fail
              go_loopw [12] (fun sl wr => ∃ (m : Nat) (g : Nat → Nat), r + 1 + m ≤ n ∧ sl = .int .i64 (r + 1 + m : Nat) ∧ OwnF wr (B + 1) (B + 1) n n g ∧ (∀ j, j < n → g j = if j < r then y j else if j = r then subsF (fun j => f r (r + 1 + j)) (fun j => bkF f n y (r + 1 + j)) (y r) m else bkF f n y j) ∧ Below (B + 1) W wr) (fun sl _ => n - (intOf sl).toNat)
              case atStart => exact ⟨0, g, by omega, by go_num, ho, fun j hj => by
                rw [HG.out j hj]
                by_cases e : j < r
                · rw [if_neg (by omega), if_pos e]
                · rw [if_neg e]
                  by_cases e2 : j = r
                  · subst e2; rw [if_neg (by omega), if_pos rfl]; rfl
                  · rw [if_pos (by omega), if_neg e2], hbl⟩
              case round =>
                clear ho hbl HG
                obtain ⟨m, g, hm, rfl, ho, hg, hbl⟩ := hrel
                by_cases hlt : r + 1 + m < n
                · generalize hke : r + 1 + m = k at *
                  have hrk : r < k := by omega
                  have HGr := Lib.hid (show g r = subsF (fun j => f r (r + 1 + j)) (fun j => bkF f n y (r + 1 + j)) (y r) m by rw [hg r hri, if_neg (by omega), if_pos rfl])
                  have HGk := Lib.hid (show g k = bkF f n y k by rw [hg k hlt, if_neg (by omega), if_neg (by omega)])
                  have HG := Lib.hid hg
                  have HKE := Lib.hid hke
                  clear hg hke
                  go_wp2_with fail
                  refine wp_region_ord [(0, 1), (1, 2), (2, 1), (3, 1), (4, 1), (5, 2), (6, 1), (7, 1), (8, 2), (9, 1), (10, 1), (11, 1), (12, 2), (13, 0), (14, 1)] (by kernel_rfl) (by kernel_rfl) (fun _ _ d _ _ h => by cases d <;> exact h) ?_
                  intro Y hY
                  have ho3 : OwnF Y (B + 1) (B + 1) n n g := by rw [hY]; exact ho.drew
                  have hbl3 : Below (B + 1) W Y := by rw [hY]; exact hbl.drew
                  clear hY ho hbl
                  obtain ⟨a1, a2, a3⟩ := BX.out _ hbl3
                  obtain ⟨u, u1, ua, ucap, rfl, -, ur⟩ := HAC.out r hri
                  obtain ⟨ub, uo, rfl, hus, uc⟩ := ur (by omega)
                  obtain ⟨l, l1, l2, l3⟩ := uc k (by omega)
                  have o1 := OLD.out _ hbl3
                  rw [← o1 _ _ has] at u1
                  rw [← o1 _ _ (by rw [← hB]; exact hus)] at l1
                  obtain ⟨e, e1, e2, e3⟩ := ho3.cell hlt
                  have HX := Lib.hid (show canon l = f r k ∧ canon e = g k from ⟨l2, e2⟩)
                  have HO := Lib.hid ho3
                  have HBL := Lib.hid hbl3
                  clear ho3 hbl3 l2 e2 ur uc o1
                  iterate 13
                    first
                      | refine wpOrd_pure (fun K hK => ?_)
                      | refine wpOrd_take (fun K hK => ?_)
                    go_simp
                    refine hK _ ?_
                    clear hK K
                  refine wpOrd_do (fun K hK => ?_)
                  go_simp
                  refine hK _ _ (fun _ => ⟨_, rfl⟩) ?_
                  clear hK K
                  iterate 1
                    first
                      | refine wpOrd_pure (fun K hK => ?_)
                      | refine wpOrd_take (fun K hK => ?_)
                    go_simp
                    refine hK _ ?_
                    clear hK K
                  refine wpOrd_nil ?_
                  have hv : canon (fval .mul Y l e) = cop .mul (f r k) (bkF f n y k) := copFF .mul _ HX.out.1 (HX.out.2.trans HGk.out)
                  have ho4 := HO.out.drewN (ndraw .mul l e)
                  have hbl4 := below_drew HBL.out (ndraw .mul l e)
                  generalize fval .mul Y l e = t at *
                  generalize Y.drewN (ndraw .mul l e) = Z at *
                  obtain ⟨x, s1, s2, s3⟩ := ho4.cell hri
                  have r1 := ho4.free r
                  have hRl := ho4.lt.1
                  have HV := Lib.hid hv
                  have HX2 := Lib.hid s2
                  have HO4 := Lib.hid ho4
                  have HBL4 := Lib.hid hbl4
                  clear hv ho4 hbl4 HO HBL HX a1 a2 u1 l1 e1 s2 l3 e3
                  go_wp2_with fail
                  have hw : ∀ w', canon (fval .sub w' x t) = subsF (fun j => f r (r + 1 + j)) (fun j => bkF f n y (r + 1 + j)) (y r) (m + 1) := fun w' => by
                    rw [copFF .sub w' (HX2.out.trans HGr.out) HV.out, subsF, HKE.out]
                  have HW2 := Lib.hid hw
                  clear hw
                  go_roundw
                  case rel => exact ⟨m + 1, _, by have := HKE.out; omega, by rw [← Nat.add_assoc, HKE.out]; go_num, (HO4.out.set hri (HW2.out _) (fval_lt _ _ _ _)).drewN _, fun j hj => by
                    by_cases e4 : j = r
                    · subst e4; rw [updN_at, if_neg (by omega), if_pos rfl]
                    · rw [updN_ne _ _ e4, HG.out j hj, if_neg e4, if_neg e4], below_drew (HBL4.out.setCell (p := ⟨B + 1, r, none⟩) hRl _) _⟩
                  case measure => simp [intOf]; omega
                · generalize hke : r + 1 + m = k at *
                  have hki : n = k := by omega
                  have HGr := Lib.hid (show g r = subsF (fun j => f r (r + 1 + j)) (fun j => bkF f n y (r + 1 + j)) (y r) m by rw [hg r hri, if_neg (by omega), if_pos rfl])
                  have HG := Lib.hid hg
                  have hm2 : m = n - 1 - r := by omega
                  have HM := Lib.hid hm2
                  clear hg hke hm2
                  subst hki
                  go_wp2_with fail
                  refine wp_region_ord [(0, 1), (1, 1), (2, 1), (3, 1), (4, 1), (5, 1), (6, 1), (7, 2), (8, 1), (9, 2), (10, 1), (11, 1), (12, 1), (13, 2), (14, 1), (15, 1), (16, 1), (17, 2), (18, 0), (19, 1), (20, 0)] (by kernel_rfl) (by kernel_rfl) (fun _ _ d _ _ h => by cases d <;> exact h) ?_
                  intro Y hY
                  have ho3 : OwnF Y (B + 1) (B + 1) n n g := by rw [hY]; exact ho.drew
                  have hbl3 : Below (B + 1) W Y := by rw [hY]; exact hbl.drew
                  clear hY ho hbl
                  obtain ⟨a1, a2, a3⟩ := BX.out _ hbl3
                  obtain ⟨u, u1, ua, ucap, rfl, -, ur⟩ := HAC.out r hri
                  obtain ⟨ub, uo, rfl, hus, uc⟩ := ur (by omega)
                  obtain ⟨l, l1, l2, l3⟩ := uc r (by omega)
                  have o1 := OLD.out _ hbl3
                  rw [← o1 _ _ has] at u1
                  rw [← o1 _ _ (by rw [← hB]; exact hus)] at l1
                  obtain ⟨x, x1, x2, x3⟩ := ho3.cell hri
                  have r1 := ho3.free r
                  have hRl := ho3.lt.1
                  have HX := Lib.hid (show canon x = g r ∧ canon l = f r r from ⟨x2, l2⟩)
                  have HO := Lib.hid ho3
                  have HBL := Lib.hid hbl3
                  clear ho3 hbl3 x2 l2 ur uc o1
                  iterate 18
                    first
                      | refine wpOrd_pure (fun K hK => ?_)
                      | refine wpOrd_take (fun K hK => ?_)
                    go_simp
                    refine hK _ ?_
                    clear hK K
                  refine wpOrd_do (fun K hK => ?_)
                  go_simp
                  refine hK _ _ (fun _ => ⟨_, rfl⟩) ?_
                  clear hK K
                  iterate 1
                    first
                      | refine wpOrd_pure (fun K hK => ?_)
                      | refine wpOrd_take (fun K hK => ?_)
                    go_simp
                    refine hK _ ?_
                    clear hK K
                  refine wpOrd_do (fun K hK => ?_)
                  go_simp
                  refine hK _ _ (fun h => Bool.noConfusion (Eq.trans (Eq.symm (by kernel_rfl : _ = false)) h)) ?_
                  clear hK K
                  refine wpOrd_nil ?_
                  have hv : canon (fval .quo Y x l) = bkF f n y r := by
                    rw [copFF .quo _ (HX.out.1.trans HGr.out) HX.out.2, bkF_eq f n y hri, HM.out]
                  have HO4 := Lib.hid (fun d => (HO.out.set hri hv (fval_lt _ _ _ _)).drewN d)
                  have HBL4 := Lib.hid (fun d => below_drew (HBL.out.setCell (p := ⟨B + 1, r, none⟩) hRl (.float .f64 (fval .quo Y x l))) d)
                  clear hv
                  go_wp2_with fail
                  go_roundw
                  case rel => exact ⟨r, _, by omega, by go_num, HO4.out _, fun j hj => by
                    by_cases e4 : j = r
                    · subst e4; rw [updN_at, if_pos (by omega)]
                    · rw [updN_ne _ _ e4, HG.out j hj, if_neg e4]
                      by_cases e5 : j < r
                      · rw [if_pos e5, if_neg (by omega)]
                      · rw [if_neg e5, if_pos (by omega)], HBL4.out _⟩
                  case measure => simp [intOf]
end Go.Proofs.Ytnlbafjmbamoeaa
/-
  What a step adds, as the document does it: its small functions.
-/
namespace Go.Proofs.Ytnlbafjmbamoeaa
open Go.RowKit
open Ieee (double)
attribute [local go_sem] alloc_drewN setCell_drewN call_bits call_frombits ord_lt ord_eq ord_gt ord_ne ord_le ord_ge eqB_self run_fadd run_fsub run_fmul run_fquo haStoreFlt takeOp pureOp readsUpon doOp run_store_fn run_store_fc run_store_slice

theorem doOp_of' {P : Program} {ops : Array Oper} {Q : Exit → Act → World → Prop} {i : Nat} {K : Act → World → Prop} {a : Act} {w : World} {o : Oper} (ho : ops[i]? = some o) (h : if Region.wanted o (yielded ops a.tmps) = true then Oper.wp P o a w K Q else K (a.put o.dst undef) w) : doOp P ops Q i K a w := by
  unfold doOp
  rw [ho]
  exact h
/-- A number more behind a row of its own. -/
theorem step_app1 {ops : Array Oper} {o : Oper} {a : Act} {w : World} {K : Act → World → Prop} {Q : Exit → Act → World → Prop} {E : Prop} (hg : o.guard = none) (s x : Operand)
    (ho : o.op = .call { callee := .builtin .append, args := #[s, x], argTypes := #[31, 31] })
    (B : Nat) (v : Value) (n : Nat) (qs : List Value) (hs : a.eval s = v) (hown : w.ownsRow B 32 1 v n qs) (H z : Nat) (hx : a.eval x = .slice (some ⟨H, 0, none⟩) 1 1) (hz : w.cell? ⟨H, 0, none⟩ = some (.float .f64 z)) (hn : n ≤ 1000) (hB : B ≤ w.heap.size)
    (h : ∀ g cap w', w'.ownsRow B 32 1 (.slice (some ⟨g, 0, none⟩) (n + 1) cap) (n + 1) (qs ++ [.float .f64 z]) → Below B w w' → K (a.put o.dst (.slice (some ⟨g, 0, none⟩) (n + 1) cap)) w') :
    if Region.wanted o (yielded ops a.tmps) = true then Oper.wp Try.prog o a w K Q else E := by
  obtain ⟨iF, hF, f1, f2, f3⟩ := info_parts infoF
  refine step_append_lies _ hg s x 31 ho B 32 iF (.float .f64 0) 1 8 Try.underlying31 hF f1 f2 f3 rfl (by decide) v n qs hs hown ⟨H, 0, none⟩ 1 1 [.float .f64 z] hx rfl (fun j u hj => ?_) (by simp [Value.oneCell']) (by omega) (by unfold maxLen; omega) (by omega) hB _ rfl (fun g cap w' h1 h2 h3 h4 => h g cap w' h1 ((Below.refl B w).grown h2 hB (fun k hk => (hown.lt k hk).1)))
  match j, hj with
  | 0, hj =>
    simp only [List.getElem?_cons_zero, Option.some.injEq] at hj
    subst hj
    simpa [Addr.add] using hz
theorem drewN_size (w : World) (n : Nat) : (w.drewN n).heap.size = w.heap.size := rfl
set_option maxRecDepth 100000 in
set_option maxHeartbeats 4000000 in
theorem rminus_tells (va vb : Value) (n : Nat) (hn2 : n ≤ 900) (f g : Nat → Nat) (w : World) (ha : FRow w va n f) (hb : FRow w vb n g) :
    Calls Try.prog 30 #[va, vb] w fun e w' => ∃ v, e = .returned v ∧ FRow w' v n (fun i => cop .sub (f i) (g i)) ∧ Below w.heap.size w w' := by
  obtain ⟨pa, ca, rfl, hn, har⟩ := ha
  obtain ⟨pb, cb, rfl, -, hbr⟩ := hb
  have HAR := Lib.hid har
  have HBR := Lib.hid hbr
  clear har hbr
  go_enter Try.func30, Try.ntmps30
  generalize hB : w.heap.size = B at *
  go_wp2_with fail
  go_loopw [5, 6] (fun vr i wr => ∃ (d : Nat) (qs : List Value), d ≤ n ∧ i = .int .i64 d ∧ wr.ownsRow B 32 1 vr d qs ∧ FVals qs d (fun i => cop .sub (f i) (g i)) ∧ Below B w wr) (fun _ i _ => n - (intOf i).toNat)
  case atStart => exact ⟨0, [], by omega, rfl, World.ownsRow_nil _ _ _ _, FVals.nil _ _, Below.refl _ _⟩
  case round =>
    obtain ⟨d, qs, hd, rfl, ho, hq, hbl⟩ := hrel
    obtain ⟨vb, vcap, rfl⟩ := own_slice1 ho
    by_cases hdn : d < n
    · obtain ⟨b1, o1, rfl, hs1, hc1⟩ := HAR.out (by omega)
      obtain ⟨b2, o2, rfl, hs2, hc2⟩ := HBR.out (by omega)
      obtain ⟨y, y1, y2, y3⟩ := hc1 d hdn
      obtain ⟨z, z1, z2, z3⟩ := hc2 d hdn
      have HO := Lib.hid ho
      have HQ := Lib.hid hq
      have HBL := Lib.hid hbl
      have K1 := Lib.hid (fun w => (show canon (fval .sub w y z) = cop .sub (f d) (g d) by rw [canon_fval, ← y2, ← z2, cop_canon_left, cop_canon_right]))
      have hsz : B ≤ wr.heap.size := by have := hbl.size; omega
      have hd1 : (d : Int) < (n : Int) := by omega
      clear hc1 hc2 y2 z2 ho hq hbl
      go_wp2_with fail
      refine wp_region_ordR [(0, 1), (1, 1), (2, 1), (3, 1), (4, 3), (5, 1), (6, 1), (7, 1), (8, 3), (9, 0), (10, 0), (11, 0), (12, 1)] (fun W => Below B w W) (by kernel_rfl) (by kernel_rfl) (fun _ _ d _ _ h => by cases d <;> exact h) (HBL.out.drew) ?_
      intro Z hZ hbZ
      have HOZ := Lib.hid (show Z.ownsRow B 32 1 (.slice vb d vcap) d qs by rw [hZ]; exact own_drewN HO.out 1)
      clear hZ
      iterate 4
        first
          | refine wpOrd_pure (fun K hK => ?_)
          | refine wpOrd_take (fun K hK => ?_)
        go_simp
        refine hK _ ?_
        clear hK K
      refine wpOrd_keep (v := .float .f64 y) rfl rfl (fun wk hwk => ?_) ?_
      · rw [← hwk.cell (p := ⟨b1, o1 + d, none⟩) hs1] at y1
        go_simp
      iterate 3
        first
          | refine wpOrd_pure (fun K hK => ?_)
          | refine wpOrd_take (fun K hK => ?_)
        go_simp
        refine hK _ ?_
        clear hK K
      refine wpOrd_keep (v := .float .f64 z) rfl rfl (fun wk hwk => ?_) ?_
      · rw [← hwk.cell (p := ⟨b2, o2 + d, none⟩) hs2] at z1
        go_simp
      refine wpOrd_doR (fun K hK => ?_)
      go_simp
      refine hK _ _ (fun h => Bool.noConfusion (Eq.trans (Eq.symm (by kernel_rfl : _ = false)) h)) (fun _ => below_drewN hbZ _) ?_
      clear hK K
      refine wpOrd_doR (fun K hK => ?_)
      go_simp
      have hsZ : B ≤ Z.heap.size := by have := hbZ.size; omega
      have hbZ2 : Below B w ((Z.alloc (.cells #[.float .f64 (fval .sub Z y z)] 32)).drewN (ndraw .sub y z)) := below_drewN (hbZ.alloc hsZ _) _
      refine hK _ _ (fun h => Bool.noConfusion (Eq.trans (Eq.symm (by kernel_rfl : _ = false)) h)) (fun _ => hbZ2) ?_
      clear hK K
      refine wpOrd_doR (fun K hK => ?_)
      refine doOp_of' rfl ?_
      refine step_app1 (by rfl) _ _ (by rfl) B (.slice vb d vcap) d qs (by rfl) (own_drewN (HOZ.out.alloc _) _) Z.heap.size (fval .sub Z y z) (by rfl) (by show (Z.alloc _).cell? _ = _; rw [World.cell?_alloc_new]; rfl) (by omega) (by rw [drewN_size]; simp; omega) (fun gg cap w' hown' hb' => ?_)
      have hb2 : Below B w w' := hbZ2.trans hb'
      refine hK _ _ (fun h => Bool.noConfusion (Eq.trans (Eq.symm (by kernel_rfl : _ = false)) h)) (fun _ => hb2) ?_
      clear hK K
      iterate 1
        first
          | refine wpOrd_pure (fun K hK => ?_)
          | refine wpOrd_take (fun K hK => ?_)
        go_simp
        refine hK _ ?_
        clear hK K
      refine wpOrd_nil ?_
      have hql := HO.out.1
      have HQ' := Lib.hid (HQ.out.app (by omega) (K1.out Z) (fval_lt _ _ _ _))
      have HO' := Lib.hid hown'
      have HB2 := Lib.hid hb2
      clear hown' hb' hb2 hbZ hbZ2 y1 z1
      go_wp2_with fail
      go_roundw
      case rel => exact ⟨d + 1, _, by omega, by go_num, HO'.out, HQ'.out, HB2.out⟩
      case measure => simp [intOf]; omega
    · obtain rfl : d = n := by omega
      have hR := hq.row ho (by omega)
      go_wp2_with fail
      go_ret
      exact ⟨_, rfl, hR, hbl⟩
set_option maxRecDepth 100000 in
set_option maxHeartbeats 4000000 in
theorem rplus_tells (va vb : Value) (n : Nat) (hn2 : n ≤ 900) (f g : Nat → Nat) (w : World) (ha : FRow w va n f) (hb : FRow w vb n g) :
    Calls Try.prog 31 #[va, vb] w fun e w' => ∃ v, e = .returned v ∧ FRow w' v n (fun i => cop .add (f i) (g i)) ∧ Below w.heap.size w w' := by
  obtain ⟨pa, ca, rfl, hn, har⟩ := ha
  obtain ⟨pb, cb, rfl, -, hbr⟩ := hb
  have HAR := Lib.hid har
  have HBR := Lib.hid hbr
  clear har hbr
  go_enter Try.func31, Try.ntmps31
  generalize hB : w.heap.size = B at *
  go_wp2_with fail
  go_loopw [5, 6] (fun vr i wr => ∃ (d : Nat) (qs : List Value), d ≤ n ∧ i = .int .i64 d ∧ wr.ownsRow B 32 1 vr d qs ∧ FVals qs d (fun i => cop .add (f i) (g i)) ∧ Below B w wr) (fun _ i _ => n - (intOf i).toNat)
  case atStart => exact ⟨0, [], by omega, rfl, World.ownsRow_nil _ _ _ _, FVals.nil _ _, Below.refl _ _⟩
  case round =>
    obtain ⟨d, qs, hd, rfl, ho, hq, hbl⟩ := hrel
    obtain ⟨vb, vcap, rfl⟩ := own_slice1 ho
    by_cases hdn : d < n
    · obtain ⟨b1, o1, rfl, hs1, hc1⟩ := HAR.out (by omega)
      obtain ⟨b2, o2, rfl, hs2, hc2⟩ := HBR.out (by omega)
      obtain ⟨y, y1, y2, y3⟩ := hc1 d hdn
      obtain ⟨z, z1, z2, z3⟩ := hc2 d hdn
      have HO := Lib.hid ho
      have HQ := Lib.hid hq
      have HBL := Lib.hid hbl
      have K1 := Lib.hid (fun w => (show canon (fval .add w y z) = cop .add (f d) (g d) by rw [canon_fval, ← y2, ← z2, cop_canon_left, cop_canon_right]))
      have hsz : B ≤ wr.heap.size := by have := hbl.size; omega
      have hd1 : (d : Int) < (n : Int) := by omega
      clear hc1 hc2 y2 z2 ho hq hbl
      go_wp2_with fail
      refine wp_region_ordR [(0, 1), (1, 1), (2, 1), (3, 1), (4, 3), (5, 1), (6, 1), (7, 1), (8, 3), (9, 0), (10, 0), (11, 0), (12, 1)] (fun W => Below B w W) (by kernel_rfl) (by kernel_rfl) (fun _ _ d _ _ h => by cases d <;> exact h) (HBL.out.drew) ?_
      intro Z hZ hbZ
      have HOZ := Lib.hid (show Z.ownsRow B 32 1 (.slice vb d vcap) d qs by rw [hZ]; exact own_drewN HO.out 1)
      clear hZ
      iterate 4
        first
          | refine wpOrd_pure (fun K hK => ?_)
          | refine wpOrd_take (fun K hK => ?_)
        go_simp
        refine hK _ ?_
        clear hK K
      refine wpOrd_keep (v := .float .f64 y) rfl rfl (fun wk hwk => ?_) ?_
      · rw [← hwk.cell (p := ⟨b1, o1 + d, none⟩) hs1] at y1
        go_simp
      iterate 3
        first
          | refine wpOrd_pure (fun K hK => ?_)
          | refine wpOrd_take (fun K hK => ?_)
        go_simp
        refine hK _ ?_
        clear hK K
      refine wpOrd_keep (v := .float .f64 z) rfl rfl (fun wk hwk => ?_) ?_
      · rw [← hwk.cell (p := ⟨b2, o2 + d, none⟩) hs2] at z1
        go_simp
      refine wpOrd_doR (fun K hK => ?_)
      go_simp
      refine hK _ _ (fun h => Bool.noConfusion (Eq.trans (Eq.symm (by kernel_rfl : _ = false)) h)) (fun _ => below_drewN hbZ _) ?_
      clear hK K
      refine wpOrd_doR (fun K hK => ?_)
      go_simp
      have hsZ : B ≤ Z.heap.size := by have := hbZ.size; omega
      have hbZ2 : Below B w ((Z.alloc (.cells #[.float .f64 (fval .add Z y z)] 32)).drewN (ndraw .add y z)) := below_drewN (hbZ.alloc hsZ _) _
      refine hK _ _ (fun h => Bool.noConfusion (Eq.trans (Eq.symm (by kernel_rfl : _ = false)) h)) (fun _ => hbZ2) ?_
      clear hK K
      refine wpOrd_doR (fun K hK => ?_)
      refine doOp_of' rfl ?_
      refine step_app1 (by rfl) _ _ (by rfl) B (.slice vb d vcap) d qs (by rfl) (own_drewN (HOZ.out.alloc _) _) Z.heap.size (fval .add Z y z) (by rfl) (by show (Z.alloc _).cell? _ = _; rw [World.cell?_alloc_new]; rfl) (by omega) (by rw [drewN_size]; simp; omega) (fun gg cap w' hown' hb' => ?_)
      have hb2 : Below B w w' := hbZ2.trans hb'
      refine hK _ _ (fun h => Bool.noConfusion (Eq.trans (Eq.symm (by kernel_rfl : _ = false)) h)) (fun _ => hb2) ?_
      clear hK K
      iterate 1
        first
          | refine wpOrd_pure (fun K hK => ?_)
          | refine wpOrd_take (fun K hK => ?_)
        go_simp
        refine hK _ ?_
        clear hK K
      refine wpOrd_nil ?_
      have hql := HO.out.1
      have HQ' := Lib.hid (HQ.out.app (by omega) (K1.out Z) (fval_lt _ _ _ _))
      have HO' := Lib.hid hown'
      have HB2 := Lib.hid hb2
      clear hown' hb' hb2 hbZ hbZ2 y1 z1
      go_wp2_with fail
      go_roundw
      case rel => exact ⟨d + 1, _, by omega, by go_num, HO'.out, HQ'.out, HB2.out⟩
      case measure => simp [intOf]; omega
    · obtain rfl : d = n := by omega
      have hR := hq.row ho (by omega)
      go_wp2_with fail
      go_ret
      exact ⟨_, rfl, hR, hbl⟩
end Go.Proofs.Ytnlbafjmbamoeaa
/-
  What a step adds, as the document does it: the slope, the equations parted.
-/
namespace Go.Proofs.Ytnlbafjmbamoeaa
open Go.RowKit
open Ieee (double)
attribute [local go_sem] alloc_drewN setCell_drewN call_bits call_frombits ord_lt ord_eq ord_gt ord_ne ord_le ord_ge eqB_self run_fadd run_fsub run_fmul run_fquo haStoreFlt takeOp pureOp readsUpon doOp run_store_fn run_store_fc run_store_slice

theorem slopeF_l (T : TD) (z0 z1 : Nat → Nat) (l0 h : Nat) : slopeF T z0 z1 (canon l0) h = slopeF T z0 z1 l0 h := by
  have e : ∀ d, atF z0 d (canon l0) = atF z0 d l0 := fun d => by
    funext i
    unfold atF
    rw [cop_canon_left]
  funext d i
  unfold slopeF
  rw [e]
theorem newtF_l (T : TD) (z0 : Nat → Nat) (l0 h : Nat) : newtF T z0 (canon l0) h = newtF T z0 l0 h := by
  funext i j
  unfold newtF
  rw [cop_canon_right]
set_option maxRecDepth 100000 in
set_option maxHeartbeats 4000000 in
theorem left_tells' (n : Nat) (T : TD) (vo vu vz vd : Value) (m : Nat) (z : Nat → Nat → Nat) (d : Nat → Nat) (l0 h : Nat) (w : World) (hT : TapeAt w (.agg #[.int .i64 n, vo, vu]) T) (hZ : TabR w vz m (fun _ => n) z) (hd : FRow w vd n d)
    (hck : checkB T = true) (hcs : ∀ i, i < T.len → (T.op i).c < 18446744073709551616) (hn : T.n = n) (h1 : 1 ≤ n) (h4 : n ≤ 4) (hm : 2 ≤ m) :
    Calls Try.prog 28 #[.agg #[.int .i64 n, vo, vu], vz, .float .f64 l0, .float .f64 h, vd] w fun e w' => ∃ v, e = .returned v ∧ FRow w' v n (slopeF T (z 0) (z 1) l0 h d) ∧ Below w.heap.size w w' := by
  obtain ⟨bz, oz, cz, rfl, hbz, hz⟩ := hZ.rowAt (by omega)
  obtain ⟨pz0, cz0, z0, hz0⟩ := hz 0 (by omega)
  obtain ⟨pz1, cz1, z1, hz1⟩ := hz 1 (by omega)
  obtain ⟨b0, o0, c0, hv0, hb0, hr0⟩ := hz0.numAt (by omega)
  obtain ⟨b1, o1, c1, hv1, hb1, hr1⟩ := hz1.numAt (by omega)
  simp only [Value.slice.injEq, true_and] at hv0 hv1
  obtain ⟨rfl, rfl⟩ := hv0
  obtain ⟨rfl, rfl⟩ := hv1
  obtain ⟨bd, od, cd, rfl, hbd, hdr⟩ := hd.numAt (by omega)
  rw [Nat.add_zero] at z0
  have hlo := checkB_lo hck hn
  have EV := Lib.hid (fun (W : World) (vy : Value) (hb : Below w.heap.size w W) hy => refEval_tells T (.agg #[.int .i64 n, vo, vu]) vy (atF (z 0) d l0) W (hT.below hb) hck hcs n hn hy)
  rw [hlo.1] at EV
  have HR0 := Lib.hid hr0
  have HR1 := Lib.hid hr1
  have HDR := Lib.hid hdr
  obtain ⟨iF, hF, f1, f2, f3⟩ := info_parts infoF
  have HF := Lib.hid (show iF.zero = _ ∧ iF.size = _ ∧ iF.bytes = _ from ⟨f1, f2, f3⟩)
  have HF0 := Lib.hid hF
  have hm0 : 0 < m := by omega
  have hm1 : (1 : Int) < (m : Int) := by omega
  have AL := al1 w (.cells #[.int .i64 n, vo, vu] 26)
  clear hT hZ hd hck hcs hz hz0 hz1 hr0 hr1 hdr hF f1 f2 f3 hlo
  go_enter Try.func28, Try.ntmps28
  go_upto_region 1 with fail
  generalize hB : w.heap.size = B at *
  generalize w.alloc (.cells #[.int .i64 n, vo, vu] 26) = X at *
  obtain ⟨x1, x4, x5⟩ := AL
  have HX1 := Lib.hid x1
  clear x1
  go_upto_region 2 with fail
  go_upto_block 0 with fail
  go_cut [11] (fun vy wx => FRow wx vy n (atF (z 0) d l0) ∧ Below (B + 1) X wx)
  case first =>
    go_wp2_with fail
    go_loopw [11, 13] (fun vr i wr => ∃ (e : Nat) (qs : List Value), e ≤ n ∧ i = .int .i64 e ∧ wr.ownsRow (B + 1) 32 1 vr e qs ∧ FVals qs e (atF (z 0) d l0) ∧ Below (B + 1) X wr) (fun _ i _ => n - (intOf i).toNat)
    case atStart => exact ⟨0, [], by omega, rfl, World.ownsRow_nil _ _ _ _, FVals.nil _ _, Below.refl _ _⟩
    case round =>
      obtain ⟨e, qs, he, rfl, ho, hq, hbl⟩ := hrel
      obtain ⟨va, vcap, rfl⟩ := own_slice1 ho
      by_cases hen : e < n
      · obtain ⟨y, y1, y2, y3⟩ := HR0.out e hen
        obtain ⟨u, u1, u2, u3⟩ := HDR.out e hen
        have hbw : Below B w wr := x5.trans (hbl.mono (by omega))
        have hsz := hbl.size
        rw [← hbw.cell (p := ⟨b0, o0 + e, none⟩) hb0] at y1
        rw [← hbw.cell (p := ⟨bd, od + e, none⟩) hbd] at u1
        have lz0 := (hbw.cell (p := ⟨bz, oz, none⟩) hbz).trans z0
        have K1 := Lib.hid (fun w v => atF_of w v y2 (rfl : canon l0 = canon l0) u2)
        have KA := Lib.hid (show cop .add (z 0 e) (cop .mul (canon l0) (d e)) = atF (z 0) d l0 e by unfold atF; rw [cop_canon_left])
        have HO := Lib.hid ho
        have HQ := Lib.hid hq
        have HBL := Lib.hid hbl
        have e1 : (e : Int) < (n : Int) := by omega
        clear y2 u2 ho hq hbl hbw
        go_wp2_with (first
          | (at_builtin; refine wpList_append_own_at _ rfl _ _ 31 rfl (B + 1) 32 iF (.float .f64 0) 1 8 Try.underlying31 HF0.out HF.out.1 HF.out.2.1 HF.out.2.2 rfl (by decide) (.slice va e vcap) e qs rfl (own_drewN (HO.out.alloc _) _) ⟨wr.heap.size, 0, none⟩ 1 1 [.float .f64 _] rfl rfl (news1 _ _ 32 _) (by simp [Value.oneCell']) (by unfold maxLen; omega) (by omega) (size_alloc _ _ _ (by omega)) ?_)
          | go_in)
        intro v' w2 hown' hgrow _ _
        have hb2 : Below (B + 1) wr w2 := (below_drewN ((Below.refl (B + 1) wr).alloc (by omega) _) _).trans (below_grown (own_drewN (HO.out.alloc _) _) (Nat.le_refl _) (size_alloc _ _ _ (by omega)) hgrow)
        have hql := HO.out.1
        have HQ' := Lib.hid (HQ.out.app (by omega) ((K1.out (wr.drewN (ndraw .mul l0 u)) wr).trans KA.out) (fval_lt _ _ _ _))
        have HO' := Lib.hid hown'
        have HB2 := Lib.hid (HBL.out.trans hb2)
        clear hown' hgrow hb2 y1 u1 lz0
        go_wp2_with fail
        go_roundw
        case rel => exact ⟨e + 1, _, by omega, by go_num, HO'.out, HQ'.out, HB2.out⟩
        case measure => simp [intOf]; omega
      · obtain rfl : e = n := by omega
        have hR := hq.row ho (by omega)
        go_wp2_with fail
        go_meet
        exact ⟨hR, hbl⟩
  case rest =>
    obtain ⟨hy, hbl⟩ := hcut
    obtain ⟨py, cy, rfl, -, -⟩ := id hy
    have HY := Lib.hid hy
    have HBL := Lib.hid hbl
    have hsz := hbl.size
    have hbx := (hbl.block B (by omega)).trans HX1.out
    have p0 := at_block hbx 0
    have p1 := at_block hbx 1
    have p2 := at_block hbx 2
    simp only [List.getElem?_toArray, List.getElem?_cons_zero, List.getElem?_cons_succ] at p0 p1 p2
    have EC := Lib.hid (EV.out wc _ (x5.trans (hbl.mono (by omega))) hy)
    clear hy hbl hbx
    go_wp2_with fail
    refine EC.out.mono ?_
    rintro e w3 ⟨vf, rfl, hf, hb3⟩
    obtain ⟨bf, of, cf, rfl, hbf, hfr⟩ := (show FRow w3 vf n _ from hf).numAt (by omega)
    have HFR := Lib.hid hfr
    have hb3s := hb3.size
    have HB3 := Lib.hid (HBL.out.trans (hb3.mono (by omega)))
    have HY3 := Lib.hid (HY.out.below hb3)
    clear hf hfr hb3 p0 p1 p2 EC HY
    go_wp2_with fail
    generalize hHe : w3.heap.size = H at *
    go_loopw [12, 16] (fun vr i wr => ∃ (e : Nat) (qs : List Value), e ≤ n ∧ i = .int .i64 e ∧ wr.ownsRow H 32 1 vr e qs ∧ FVals qs e (slopeF T (z 0) (z 1) l0 h d) ∧ Below H w3 wr) (fun _ i _ => n - (intOf i).toNat)
    case atStart => exact ⟨0, [], by omega, rfl, World.ownsRow_nil _ _ _ _, FVals.nil _ _, Below.refl _ _⟩
    case round =>
      obtain ⟨e, qs, he, rfl, ho, hq, hbl⟩ := hrel
      obtain ⟨va, vcap, rfl⟩ := own_slice1 ho
      by_cases hen : e < n
      · obtain ⟨y, y1, y2, y3⟩ := HFR.out e hen
        obtain ⟨u, u1, u2, u3⟩ := HR1.out e hen
        have hbw : Below B w wr := x5.trans ((HB3.out.mono (by omega)).trans (hbl.mono (by omega)))
        have hsz2 := hbl.size
        rw [← hbl.cell (p := ⟨bf, of + e, none⟩) hbf] at y1
        rw [← hbw.cell (p := ⟨b1, o1 + e, none⟩) hb1] at u1
        have lz1 := (hbw.cell (p := ⟨bz, oz + 1, none⟩) hbz).trans z1
        have K1 := Lib.hid (fun w v => slopeF_of w v (l := h) y2 u2)
        have HO := Lib.hid ho
        have HQ := Lib.hid hq
        have HBL2 := Lib.hid hbl
        have e1 : (e : Int) < (n : Int) := by omega
        clear y2 u2 ho hq hbl hbw
        go_wp2_with (first
          | (at_builtin; refine wpList_append_own_at _ rfl _ _ 31 rfl H 32 iF (.float .f64 0) 1 8 Try.underlying31 HF0.out HF.out.1 HF.out.2.1 HF.out.2.2 rfl (by decide) (.slice va e vcap) e qs rfl (own_drewN (HO.out.alloc _) _) ⟨wr.heap.size, 0, none⟩ 1 1 [.float .f64 _] rfl rfl (news1 _ _ 32 _) (by simp [Value.oneCell']) (by unfold maxLen; omega) (by omega) (size_alloc _ _ _ (by omega)) ?_)
          | go_in)
        intro v' w4 hown' hgrow _ _
        have hb2 : Below H wr w4 := (below_drewN ((Below.refl H wr).alloc (by omega) _) _).trans (below_grown (own_drewN (HO.out.alloc _) _) (Nat.le_refl _) (size_alloc _ _ _ (by omega)) hgrow)
        have hql := HO.out.1
        have HQ' := Lib.hid (HQ.out.app (f := slopeF T (z 0) (z 1) l0 h d) (by omega) (K1.out (wr.drewN (ndraw .mul h y)) wr) (fval_lt _ _ _ _))
        have HO' := Lib.hid hown'
        have HB2 := Lib.hid (HBL2.out.trans hb2)
        clear hown' hgrow hb2 y1 u1 lz1
        go_wp2_with fail
        go_roundw
        case rel => exact ⟨e + 1, _, by omega, by go_num, HO'.out, HQ'.out, HB2.out⟩
        case measure => simp [intOf]; omega
      · obtain rfl : e = n := by omega
        have hR := hq.row ho (by omega)
        have HBB := Lib.hid (x5.trans ((HB3.out.mono (show B ≤ B + 1 by omega)).trans (hbl.mono (show B ≤ H by omega))))
        go_wp2_with fail
        go_ret
        exact ⟨_, rfl, hR, by rw [hB]; exact HBB.out⟩
set_option maxRecDepth 100000 in
set_option maxHeartbeats 4000000 in
theorem newton_tells (n : Nat) (T : TD) (vo vu vz : Value) (m : Nat) (z : Nat → Nat → Nat) (l0 h : Nat) (w : World) (hT : TapeAt w (.agg #[.int .i64 n, vo, vu]) T) (hZ : TabR w vz m (fun _ => n) z)
    (hck : checkB T = true) (hcs : ∀ i, i < T.len → (T.op i).c < 18446744073709551616) (hn : T.n = n) (h1 : 1 ≤ n) (h4 : n ≤ 4) (hm : 2 ≤ m) :
    Calls Try.prog 27 #[.agg #[.int .i64 n, vo, vu], vz, .float .f64 l0, .float .f64 h] w (RPartR n (partF (newtF T (z 0) l0 h) n n) w) := by
  obtain ⟨bz, oz, cz, rfl, hbz, hz⟩ := hZ.rowAt (by omega)
  obtain ⟨pz0, cz0, z0, hz0⟩ := hz 0 (by omega)
  rw [Nat.add_zero] at z0
  have JC := Lib.hid (fun (W : World) (hb : Below w.heap.size w W) => rjac_tells T _ (.slice pz0 n cz0) (z 0) W (hT.below hb) hck hcs n hn (hz0.below hb))
  have hm0 : 0 < m := by omega
  have AL := al2 w (.cells #[.int .i64 n, vo, vu] 26) (.cells #[.slice none 0 0, .slice none 0 0] 67)
  clear hT hZ hck hcs hz hz0
  go_enter Try.func27, Try.ntmps27
  go_upto_region 1 with fail
  generalize hB : w.heap.size = B at *
  generalize (w.alloc (.cells #[.int .i64 n, vo, vu] 26)).alloc (.cells #[.slice none 0 0, .slice none 0 0] 67) = X at *
  obtain ⟨x1, x2, x4, x5⟩ := AL
  have p0 := at_block x1 0
  have p1 := at_block x1 1
  have p2 := at_block x1 2
  have pl := lt_block x1
  simp only [List.getElem?_toArray, List.getElem?_cons_zero, List.getElem?_cons_succ] at p0 p1 p2
  have HX2 := Lib.hid x2
  have z0' := (x5.cell (p := ⟨bz, oz, none⟩) hbz).trans z0
  have hbz' : bz < X.heap.size := by omega
  clear x1 x2 z0
  refine wp_region_ordR [(0, 3), (1, 1), (2, 1), (3, 3), (4, 0), (5, 1)] (fun W => Below X.heap.size X W) (by kernel_rfl) (by kernel_rfl) (fun _ _ d _ _ h => by cases d <;> exact h) ((Below.refl _ _).drew) ?_
  intro Z hZ hbZ
  clear hZ
  refine wpOrd_keep (v := .agg #[.int .i64 n, vo, vu]) rfl rfl (fun wk hwk => ?_) ?_
  · rw [← (haCell hwk).1 _ _ pl] at p0 p1 p2
    go_simp
  iterate 2
    first
      | refine wpOrd_pure (fun K hK => ?_)
      | refine wpOrd_take (fun K hK => ?_)
    go_simp
    refine hK _ ?_
    clear hK K
  refine wpOrd_keep (v := .slice pz0 n cz0) rfl rfl (fun wk hwk => ?_) ?_
  · rw [← (haCell hwk).1 _ _ hbz'] at z0'
    go_simp
  refine wpOrd_doR (fun K hK => ?_)
  go_simp
  refine (JC.out Z (x5.trans (hbZ.mono (by omega)))).mono ?_
  rintro e w1 ⟨G, cG, blk, cp, rfl, hg, hb1⟩
  have hbA := hbZ.trans (hb1.mono hbZ.size)
  refine hK _ _ (fun h => Bool.noConfusion (Eq.trans (Eq.symm (by kernel_rfl : _ = false)) h)) (fun _ => hbA) ?_
  clear hK K
  iterate 1
    first
      | refine wpOrd_pure (fun K hK => ?_)
      | refine wpOrd_take (fun K hK => ?_)
    go_simp
    refine hK _ ?_
    clear hK K
  refine wpOrd_nil ?_
  have hsA := hbA.size
  have HG := Lib.hid (hg.base (b' := B + 2) (by have := hbZ.size; omega))
  have HBA := Lib.hid hbA
  clear hbZ hg hb1 hbA p0 p1 p2 z0' pl hbz'
  go_upto_region 3 with fail
  have HY := Lib.hid (show canon (fval .mul w1 h l0) = cop .mul h l0 from canon_fval _ _ _ _)
  have HG1 := Lib.hid (show Grid (w1.drewN (ndraw .mul h l0)) (B + 2) G n n blk cp _ from HG.out.below (below_drewN (Below.refl _ _) _))
  have HB1 := Lib.hid (below_drewN HBA.out (ndraw .mul h l0))
  generalize w1.drewN (ndraw .mul h l0) = W2 at *
  generalize fval .mul w1 h l0 = by_ at *
  have hOF := Lib.hid (show ∀ i j, newtF T (z 0) l0 h i j = cop .sub (if i = j then 4607182418800017408 else 0) (cop .mul (canon by_) (dvR T.op (z 0) (T.out i).toNat j)) from fun i j => by rw [HY.out]; rfl)
  generalize newtF T (z 0) l0 h = N at *
  generalize hJe : (fun i => dvR T.op (z 0) (T.out i).toNat) = J at *
  have HJ := Lib.hid (show ∀ i, dvR T.op (z 0) (T.out i).toNat = J i from fun i => by rw [← hJe])
  have HG0 := Lib.hid (HG1.out.congr (fun a c _ _ => (mixF_start N J a c).symm))
  clear hJe HG HG1 HY HBA
  go_wp2_with fail
  go_loopw [12] (fun i wr => ∃ e : Nat, e ≤ n ∧ i = .int .i64 e ∧ Grid wr (B + 2) G n n blk cp (mixF N J e 0) ∧ Below (B + 2) X wr) (fun i _ => n - (intOf i).toNat)
  case atStart => exact ⟨0, by omega, rfl, HG0.out, HB1.out.mono (by omega)⟩
  case round =>
    clear HG0 HB1
    obtain ⟨e, he, rfl, hg, hbl⟩ := hrel
    by_cases hen : e < n
    · have HG := Lib.hid hg
      have HBL := Lib.hid hbl
      have e1 : (e : Int) < (n : Int) := by omega
      clear hg hbl
      go_wp2_with fail
      generalize wr = WO at *
      go_loopw [13] (fun i wr => ∃ c : Nat, c ≤ n ∧ i = .int .i64 c ∧ Grid wr (B + 2) G n n blk cp (mixF N J e c) ∧ Below (B + 2) X wr) (fun i _ => n - (intOf i).toNat)
      case atStart => exact ⟨0, by omega, rfl, HG.out, HBL.out⟩
      case round =>
        clear HG HBL
        obtain ⟨c, hc, rfl, hg, hbl⟩ := hrel
        by_cases hcn : c < n
        · obtain ⟨u, u1, u2, u3⟩ := (hg.row e hen).cell hcn
          have r0 := hg.ref e hen
          have f1 := (hg.row e hen).free c
          have hR1 := (hg.row e hen).lt
          have c1 : (c : Int) < (n : Int) := by omega
          rw [mixF_at] at u2
          have K1 := Lib.hid (fun w v => newt_of w v (o := if e = c then 4607182418800017408 else 0) (rfl : canon by_ = canon by_) u2)
          have HN := Lib.hid (show cop .sub (if e = c then 4607182418800017408 else 0) (cop .mul (canon by_) (J e c)) = N e c by rw [hOF.out e c, HJ.out e])
          have HG := Lib.hid hg
          have HBL := Lib.hid hbl
          clear u2 hg hbl
          have fin : ∀ o, (o = if e = c then 4607182418800017408 else 0) → ∀ (W1 : World), Grid ((wr.setCell ⟨blk e, c, none⟩ (.float .f64 (fval .sub W1 o (fval .mul wr by_ u)))).drewN (ndraw .mul by_ u + ndraw .sub o (fval .mul wr by_ u))) (B + 2) G n n blk cp (mixF N J e (c + 1)) ∧ Below (B + 2) X ((wr.setCell ⟨blk e, c, none⟩ (.float .f64 (fval .sub W1 o (fval .mul wr by_ u)))).drewN (ndraw .mul by_ u + ndraw .sub o (fval .mul wr by_ u))) := fun o ho W1 => by
            subst ho
            refine ⟨?_, below_drewN (HBL.out.setCell (p := ⟨blk e, c, none⟩) hR1.1 _) _⟩
            have g1 := HG.out.set hen hcn ((K1.out W1 wr).trans HN.out) (fval_lt .sub W1 _ _)
            exact ((g1.congr (fun a d _ _ => mixF_set N J e c a d)) : Grid _ _ _ _ _ _ _ _).below (below_drewN (Below.refl _ _) _)
          have FIN := Lib.hid fin
          clear fin
          by_cases hec : e = c
          · have hcc : ((e : Int) == c) = true := by simp; omega
            have FX := Lib.hid (fun W => FIN.out 4607182418800017408 (by rw [if_pos hec]) W)
            clear hec FIN K1
            go_wp2_with fail
            go_roundw
            case rel => exact ⟨c + 1, by omega, by go_num, FX.out _⟩
            case measure => simp [intOf]; omega
          · have hcc : ((e : Int) == c) = false := by simp; omega
            have FX := Lib.hid (fun W => FIN.out 0 (by rw [if_neg hec]) W)
            clear hec FIN K1
            go_wp2_with fail
            go_roundw
            case rel => exact ⟨c + 1, by omega, by go_num, FX.out _⟩
            case measure => simp [intOf]; omega
        · obtain rfl : c = n := by omega
          have HGN := Lib.hid (hg.congr (fun a d _ hd => mixF_row N J e c a d hd))
          clear hg
          go_wp2_with fail
          go_roundw
          case rel => exact ⟨e + 1, by omega, by go_num, HGN.out, hbl⟩
          case measure => simp [intOf]; omega
    · obtain rfl : e = n := by omega
      have HGN := Lib.hid (hg.congr (fun a d ha _ => mixF_end N J e a d ha))
      have HBL := Lib.hid (show Below (B + 2) X wr from hbl)
      have hsl := hbl.size
      have PT := Lib.hid (rpart_tells e (.slice (some ⟨G, 0, none⟩) e cG) N wr (HGN.out.tab (by omega) (by omega)) h1 (by omega))
      clear hg hbl hOF
      go_wp2_with fail
      refine PT.out.mono ?_
      rintro e' w3 ⟨hb3, hm3⟩
      have hbA := HBL.out.trans (hb3.mono (by omega))
      have hq := (hbA.block (B + 1) (by omega)).trans HX2.out
      have q0 := at_block hq 0
      have q1 := at_block hq 1
      have f0 := free_block hq 0
      have f1 := free_block hq 1
      simp only [List.getElem?_toArray, List.getElem?_cons_zero, List.getElem?_cons_succ] at q0 q1
      have HB3 := Lib.hid (x5.trans (hbA.mono (by omega)))
      have hs3 := hb3.size
      cases hp : partF N e e with
      | none =>
        rw [hp] at hm3
        simp only [] at hm3
        subst hm3
        have HK := Lib.hid (((Keep.refl w3 (B + 1)).set 0 (.slice none 0 0)).set 1 (.slice none 0 0))
        clear hbA hq hb3
        go_wp2_with fail
        refine bodyPost_ret (v := .tuple #[.agg #[.slice none 0 0, .slice none 0 0], .bool false]) (by simp [results, Try.results27, go_sem, q0, q1]) rfl ⟨by rw [hB]; exact HK.out.below HB3.out (by omega) (by omega), by rw [hp]⟩
      | some gq =>
        obtain ⟨g, q⟩ := gq
        rw [hp] at hm3
        simp only [] at hm3
        obtain ⟨G2, R2, c1, c2, blk2, cap2, rfl, hg2, hi2, hne, hne2⟩ := hm3
        have HK := Lib.hid (((Keep.refl w3 (B + 1)).set 0 (.slice (some ⟨G2, 0, none⟩) e c1)).set 1 (.slice (some ⟨R2, 0, none⟩) e c2))
        have HG2 := Lib.hid hg2
        have HI2 := Lib.hid hi2
        have hG2 := hg2.lo
        have hR2 := hi2.lt
        clear hbA hq hb3 hg2 hi2
        go_wp2_with fail
        refine bodyPost_ret (v := .tuple #[.agg #[.slice (some ⟨G2, 0, none⟩) e c1, .slice (some ⟨R2, 0, none⟩) e c2], .bool true]) (by simp [results, Try.results27, go_sem, q0, q1]) rfl ⟨by rw [hB]; exact HK.out.below HB3.out (by omega) (by omega), ?_⟩
        rw [hp]
        have hlo : ∀ i, i < e → B + 1 ≠ blk2 i := fun i hi => by have := (HG2.out.row i hi).lt; omega
        exact ⟨G2, R2, c1, c2, blk2, cap2, rfl, (((HG2.out.setOther (by omega) hlo _).setOther (by omega) hlo _).base (by omega)), (((HI2.out.other (by omega) _).other (by omega) _).base (by omega)), hne, hne2⟩
end Go.Proofs.Ytnlbafjmbamoeaa
/-
  What a step adds, as the document tells it.
-/
namespace Go.Proofs.Ytnlbafjmbamoeaa
open Go.RowKit
open Ieee (double)
attribute [local go_sem] alloc_drewN setCell_drewN call_bits call_frombits ord_lt ord_eq ord_gt ord_ne ord_le ord_ge eqB_self run_fadd run_fsub run_fmul run_fquo haStoreFlt takeOp pureOp readsUpon doOp run_store_fn run_store_fc run_store_slice

theorem seekF_step (nx : (Nat → Nat) → (Nat → Nat) × Nat) (n k : Nat) (x : Nat → Nat) : seekF nx n (k + 1) x = if allB n (fun i => finB ((nx x).1 i)) = false then ⟨x, false, 4 - k, 2⟩ else if leB (nx x).2 4562146422526312448 then ⟨(nx x).1, true, 4 - k, 0⟩ else if k = 0 then ⟨x, false, 4, 6⟩ else seekF nx n k (nx x).1 := rfl
theorem bdfF_l (T : TD) (z0 z1 wt : Nat → Nat) (l0 h n : Nat) (g : Nat → Nat → Nat) (q : Nat → Nat) : bdfF T z0 z1 wt (canon l0) h n g q = bdfF T z0 z1 wt l0 h n g q := by
  funext d
  unfold bdfF
  rw [slopeF_l]
theorem adamsF_l (T : TD) (z0 z1 wt : Nat → Nat) (l0 h n : Nat) : adamsF T z0 z1 wt (canon l0) h n = adamsF T z0 z1 wt l0 h n := by
  funext d
  unfold adamsF
  rw [slopeF_l]
/-- What is told of a step: what is added; nothing. -/
def RSumT (n : Nat) (S : SumD) (w : World) (e : Ending) (w' : World) : Prop :=
  Below w.heap.size w w' ∧ ((S.has = true ∧ ∃ v, e = .returned (.agg #[v, .int .i64 S.tries, .int .i64 S.e]) ∧ FRow w' v n S.d) ∨ (S.has = false ∧ e = .returned (.agg #[.slice none 0 0, .int .i64 S.tries, .int .i64 S.e])))
/-- A row whose block the result's is not. -/
theorem FRow.kept {X W : World} {q n : Nat} {v : Value} {f : Nat → Nat} (h : FRow X v n f) (hk : Keep X q W) (hn : ∀ k, v.ownBlock = some k → k ≠ q) : FRow W v n f := by
  obtain ⟨a, c, rfl, h1, h2⟩ := h
  refine ⟨a, c, rfl, h1, fun h0 => ?_⟩
  obtain ⟨b, o, rfl, hb, hc⟩ := h2 h0
  exact ⟨b, o, rfl, Nat.lt_of_lt_of_le hb hk.size, fun i hi => (hc i hi).same (hk.cell hb (hn b rfl) _)⟩
theorem no_flt {w : World} {b : Nat} {t : TypeId} {v : Value} {n : Nat} {f : Nat → Nat} (h : w.heap[b]? = some (.cells #[.slice none 0 0, .int .i64 0, .int .i64 0] t)) (hr : FRow w v n f) (h0 : 0 < n) (k : Nat) (hk : v.ownBlock = some k) : k ≠ b := by
  rintro rfl
  obtain ⟨a, c, rfl, h1, h2⟩ := hr
  obtain ⟨b', o, rfl, hb, hc⟩ := h2 h0
  simp only [Value.ownBlock, Option.some.injEq] at hk
  subst hk
  obtain ⟨y, y1, -⟩ := hc 0 h0
  rw [at_block h] at y1
  match o, y1 with
  | 0, y1 => simp at y1
  | 1, y1 => simp at y1
  | 2, y1 => simp at y1
  | _ + 3, y1 => simp at y1
set_option maxRecDepth 100000 in
set_option maxHeartbeats 8000000 in
theorem rcorr_adams (n : Nat) (T : TD) (vo vu vz vl vw : Value) (m : Nat) (t : Int) (z : Nat → Nat → Nat) (l wt : Nat → Nat) (w : World) (hx : CtxAt w n T vo vu vz vl vw m z l wt)
    (hck : checkB T = true) (hcs : ∀ i, i < T.len → (T.op i).c < 18446744073709551616) (hn : T.n = n) (h1 : 1 ≤ n) (h4 : n ≤ 4) (hm : 2 ≤ m) :
    Calls Try.prog 11 #[.agg #[.int .i64 n, vo, vu], vz, vl, .int .i64 t, .int .i64 0, vw] w (RSumT n (corrF T z wt (l 0) (lenF t) n false) w) := by
  obtain ⟨bl, ol, cl, rfl, hbl', hl⟩ := hx.lrow.numAt (by omega)
  obtain ⟨y0, ly1, ly2, ly3⟩ := hl 0 (by omega)
  rw [Nat.add_zero] at ly1
  obtain ⟨bz, oz, cz, rfl, -, -⟩ := hx.tab.rowAt (by omega)
  obtain ⟨bw, ow, cw, rfl, -, -⟩ := hx.wrow.numAt (by omega)
  have hm0 : 0 < m := by omega
  have HX := Lib.hid hx
  have HCK := Lib.hid hck
  have HCS := Lib.hid hcs
  obtain ⟨iF, hF, f1, f2, f3⟩ := info_parts infoF
  have HF := Lib.hid (show iF.zero = _ ∧ iF.size = _ ∧ iF.bytes = _ from ⟨f1, f2, f3⟩)
  have HF0 := Lib.hid hF
  have LY2 := Lib.hid ly2
  clear hx hck hcs hF f1 f2 f3 hl ly2
  have AL := al2 w (.cells #[.int .i64 n, vo, vu] 26) (.cells #[.slice none 0 0, .int .i64 0, .int .i64 0] 42)
  go_enter Try.func11, Try.ntmps11
  go_upto_region 1 with fail
  generalize hB : w.heap.size = B at *
  generalize (w.alloc (.cells #[.int .i64 n, vo, vu] 26)).alloc (.cells #[.slice none 0 0, .int .i64 0, .int .i64 0] 42) = X at *
  obtain ⟨x1, x2, x4, x5⟩ := AL
  have HX1 := Lib.hid x1
  have HX2 := Lib.hid x2
  clear x1 x2
  go_wp2_with fail
  refine (rlength_tells t X).mono ?_
  rintro e w1 ⟨h, nd, rfl, y1, y2, rfl⟩
  have Y1 := Lib.hid y1
  have hbX : Below X.heap.size X (X.drewN nd) := below_drewN (Below.refl _ _) nd
  have hp0 := (hbX.cell (p := ⟨B, 0, none⟩) (by show B < X.heap.size; omega)).trans (at_block HX1.out 0)
  simp only [List.getElem?_toArray, List.getElem?_cons_zero] at hp0
  have hpl : B < (X.drewN nd).heap.size := by show B < X.heap.size; omega
  have hXs : (X.drewN nd).heap.size = B + 2 := x4
  have HBX := Lib.hid hbX
  have HXS := Lib.hid hXs
  clear y1 hbX hXs
  generalize X.drewN nd = X1 at *
  go_wp2_with (first
    | (refine wpList_make_full _ rfl _ _ _ rfl (B + 2) 32 iF (.float .f64 0) 1 Try.underlying31 HF0.out HF.out.1 HF.out.2.1 .i64 .i64 (n : Int) (n : Int) n rfl rfl rfl rfl (by rw [HF.out.2.2]; omega) (by unfold maxLen; omega) (by rw [HXS.out]; exact Nat.le_refl _) ?_)
    | fail)
  intro w2 hr2 hg2
  have hb2 : Below (B + 2) X1 w2 := (Below.refl _ _).grown hg2 (by have := HXS.out; omega) (fun k hk => by cases hk)
  have HO2 := Lib.hid (ownF_made hr2)
  have HB2 := Lib.hid ((HBX.out.mono (show B + 2 ≤ X.heap.size by omega)).trans hb2)
  clear hr2 hg2 hb2 hp0 hpl
  go_upto_region 4 with fail
  have LA := Lib.hid (al1 w2 (.cells #[.slice none 0 0, .slice none 0 0] 67))
  have HB3 := Lib.hid (HB2.out.trans (LA.out.2.2.mono (by have := HB2.out.size; omega)))
  have HO3 := Lib.hid (HO2.out.below LA.out.2.2 HO2.out.lt.2)
  have HL3 := Lib.hid LA.out.1
  have hLBs : B + 2 < w2.heap.size := by have := HO2.out.lt; rw [HXS.out] at this; omega
  have hL3s : w2.heap.size < (w2.alloc (.cells #[.slice none 0 0, .slice none 0 0] 67)).heap.size := by have := LA.out.2.1; omega
  clear LA HO2
  generalize hLBe : w2.heap.size = LB at *
  generalize w2.alloc (.cells #[.slice none 0 0, .slice none 0 0] 67) = W at *
  have HXW := Lib.hid (HX.out.below (show Below w.heap.size w W by rw [hB]; exact x5.trans (HB3.out.mono (by omega))))
  have SC := Lib.hid (show corrF T z wt (l 0) (lenF t) n false = seekF (adamsF T (z 0) (z 1) wt y0 h n) n 4 (fun _ => 0) from by rw [← Y1.out, ← LY2.out, corrF_h]; unfold corrF; rw [if_neg (by decide), adamsF_l])
  generalize hS : seekF (adamsF T (z 0) (z 1) wt y0 h n) n 4 (fun _ => 0) = S at *
  have HS := Lib.hid hS
  have HBW := Lib.hid HB3.out
  clear hS HB2 HB3
  have hLW := hL3s
  generalize hHe : W.heap.size = H at *
  go_wp2_with fail
  go_loopw [14, 18] (fun v kk wr => ∃ (k : Nat) (x : Nat → Nat), 1 ≤ k ∧ k ≤ 4 ∧ kk = .int .i64 k ∧ FRow wr v n x ∧ seekF (adamsF T (z 0) (z 1) wt y0 h n) n (5 - k) x = S ∧ Below H W wr) (fun _ kk _ => 5 - (intOf kk).toNat)
  case atStart => exact ⟨1, _, by omega, by omega, rfl, HO3.out.flts (by omega), HS.out, Below.refl _ _⟩
  case round =>
    clear HO3 HS
    obtain ⟨k, x, hk1, hk4, rfl, hxr, hs, hbl⟩ := hrel
    obtain ⟨k', hk'⟩ : ∃ k', 5 - k = k' + 1 := ⟨4 - k, by omega⟩
    rw [hk', seekF_step, show 4 - k' = k by omega] at hs
    have HXR := Lib.hid hxr
    obtain ⟨px, cx, rfl, -, -⟩ := id hxr
    have HS := Lib.hid hs
    have HBL := Lib.hid hbl
    have hbs : H ≤ wr.heap.size := by have := hbl.size; omega
    have hkk : k + k' = 4 := by omega
    have HXr := Lib.hid (HXW.out.below (hHe ▸ hbl))
    have p0 := ((hbl.cell (p := ⟨B, 0, none⟩) (by show B < H; omega)).trans (HBW.out.cell (p := ⟨B, 0, none⟩) (by show B < B + 2; omega))).trans (at_block HX1.out 0)
    have p1 := ((hbl.cell (p := ⟨B, 1, none⟩) (by show B < H; omega)).trans (HBW.out.cell (p := ⟨B, 1, none⟩) (by show B < B + 2; omega))).trans (at_block HX1.out 1)
    have p2 := ((hbl.cell (p := ⟨B, 2, none⟩) (by show B < H; omega)).trans (HBW.out.cell (p := ⟨B, 2, none⟩) (by show B < B + 2; omega))).trans (at_block HX1.out 2)
    simp only [List.getElem?_toArray, List.getElem?_cons_zero, List.getElem?_cons_succ] at p0 p1 p2
    have hpl : B < wr.heap.size := by omega
    have lyW := ((hbl.cell (p := ⟨bl, ol, none⟩) (by show bl < H; omega)).trans (HBW.out.cell (p := ⟨bl, ol, none⟩) (by show bl < B + 2; omega))).trans ((x5.cell (p := ⟨bl, ol, none⟩) hbl').trans ly1)
    have hblW : bl < wr.heap.size := by omega
    have RES := Lib.hid (fun W' (hW : Below H W W') => (show W'.heap[B + 1]? = some (.cells #[.slice none 0 0, .int .i64 0, .int .i64 0] 42) from ((hW.block (B + 1) (by omega)).trans (HBW.out.block (B + 1) (by omega))).trans HX2.out))
    have FINB := Lib.hid (fun W' W2 (hW : Below H W W') (hk : Keep W' (B + 1) W2) => (show Below B w W2 from hk.below (x5.trans ((HBW.out.mono (show B ≤ B + 2 by omega)).trans (hW.mono (by omega)))) (by omega) (by have := hW.size; omega)))
    clear hs hxr hbl hk'
    go_wp2_with fail
    refine wp_region_ordR [(0, 3), (1, 1), (2, 1), (3, 1), (4, 3), (5, 1), (6, 1), (7, 0), (8, 1)] (fun W' => Below wr.heap.size wr W') (by kernel_rfl) (by kernel_rfl) (fun _ _ d _ _ h => by cases d <;> exact h) ((Below.refl _ _).drew) ?_
    intro Z hZ hbZ
    clear hZ
    refine wpOrd_keep (v := .agg #[.int .i64 n, vo, vu]) rfl rfl (fun wk hwk => ?_) ?_
    · rw [← (haCell hwk).1 _ _ hpl] at p0 p1 p2
      go_simp
    iterate 3
      first
        | refine wpOrd_pure (fun K hK => ?_)
        | refine wpOrd_take (fun K hK => ?_)
      go_simp
      refine hK _ ?_
      clear hK K
    refine wpOrd_keep (v := .float .f64 y0) rfl rfl (fun wk hwk => ?_) ?_
    · rw [← (haCell hwk).1 _ _ hblW] at lyW
      go_simp
    iterate 2
      first
        | refine wpOrd_pure (fun K hK => ?_)
        | refine wpOrd_take (fun K hK => ?_)
      go_simp
      refine hK _ ?_
      clear hK K
    refine wpOrd_doR (fun K hK => ?_)
    go_simp
    refine (left_tells' n T vo vu _ _ m z x y0 h Z (HXr.out.tape.below hbZ) (HXr.out.tab.below hbZ) (HXR.out.below hbZ) HCK.out HCS.out hn h1 h4 hm).mono ?_
    rintro e w4 ⟨vg, rfl, hg, hb4⟩
    have hbA := hbZ.trans (hb4.mono hbZ.size)
    refine hK _ _ (fun h => Bool.noConfusion (Eq.trans (Eq.symm (by kernel_rfl : _ = false)) h)) (fun _ => hbA) ?_
    clear hK K
    iterate 1
      first
        | refine wpOrd_pure (fun K hK => ?_)
        | refine wpOrd_take (fun K hK => ?_)
      go_simp
      refine hK _ ?_
      clear hK K
    refine wpOrd_nil ?_
    obtain ⟨pg, cg, rfl, -, -⟩ := id hg
    have HG := Lib.hid hg
    have HBA := Lib.hid hbA
    have hsA := hbA.size
    clear hbZ hg hb4 hbA p0 p1 p2 lyW
    go_wp2_with fail
    refine (rminus_tells _ _ n (by omega) (slopeF T (z 0) (z 1) y0 h x) x w4 HG.out (HXR.out.below HBA.out)).mono ?_
    rintro e w5 ⟨vm, rfl, hm5, hb5⟩
    have hsB := hb5.size
    have HB5 := Lib.hid (HBA.out.trans (hb5.mono hsA))
    have HG5 := Lib.hid (HG.out.below hb5)
    have HM5 := Lib.hid hm5
    clear hb5 hm5
    go_wp2_with fail
    refine (rsize_tells _ _ n (fun i => cop .sub (slopeF T (z 0) (z 1) y0 h x i) (x i)) wt w5 HM5.out (HXr.out.wrow.below HB5.out)).mono ?_
    rintro e w6 ⟨⟨y, rfl, y1, y2⟩, hb6⟩
    have HB6 := Lib.hid (HB5.out.trans (hb6.mono (by omega)))
    have hs6 := hb6.size
    have HGN := Lib.hid (show FRow w6 (.slice pg n cg) n ((adamsF T (z 0) (z 1) wt y0 h n) x).1 from HG5.out.below hb6)
    have YN := Lib.hid (show canon y = ((adamsF T (z 0) (z 1) wt y0 h n) x).2 from y1)
    clear hb6 y1 HG HG5 HM5
    generalize (adamsF T (z 0) (z 1) wt y0 h n) x = N at *
    have hs6' : wr.heap.size ≤ w6.heap.size := HB6.out.size
    go_wp2_with fail
    generalize w6 = V at *
    go_loopw [22] (fun i ws => ∃ c : Nat, c ≤ n ∧ i = .int .i64 c ∧ allB c (fun i => finB (N.1 i)) = true ∧ Below V.heap.size V ws) (fun i _ => n - (intOf i).toNat)
    case atStart => exact ⟨0, by omega, rfl, rfl, Below.refl _ _⟩
    case round =>
      obtain ⟨c, hc, rfl, hh, hb7⟩ := hrel
      by_cases hcn : c < n
      · obtain ⟨bn, on, cn', hvn, hbn, hnr⟩ := HGN.out.numAt (by omega)
        simp only [Value.slice.injEq, true_and] at hvn
        obtain ⟨rfl, rfl⟩ := hvn
        obtain ⟨u, u1, u2, u3⟩ := hnr c hcn
        rw [← hb7.cell (p := ⟨bn, on + c, none⟩) hbn] at u1
        have HH := Lib.hid hh
        have HB7 := Lib.hid hb7
        have HU := Lib.hid (show finB u = finB (N.1 c) by rw [← u2, finB_canon])
        have c1 : (c : Int) < (n : Int) := by omega
        have hs7 := hb7.size
        clear hnr u2 hh hb7
        go_wp2_with fail
        refine (rfinite_tells u _).mono ?_
        rintro e w8 ⟨rfl, hb8⟩
        have HB8 := Lib.hid (HB7.out.trans (hb8.mono hs7))
        clear hb8 u1
        cases hf : finB u with
        | true =>
          have H2 := Lib.hid (show allB (c + 1) (fun i => finB (N.1 i)) = true by rw [allB, HH.out, ← HU.out, hf]; rfl)
          go_wp2_with fail
          go_roundw
          case rel => exact ⟨c + 1, by omega, by go_num, H2.out, HB8.out⟩
          case measure => simp [intOf]; omega
        | false =>
          have H2 := Lib.hid (show allB n (fun i => finB (N.1 i)) = false from allB_no hcn (by rw [← HU.out]; exact hf))
          have hs := HS.out
          rw [H2.out, if_pos rfl] at hs
          have hW8 : Below H W w8 := HBL.out.trans ((HB6.out.trans (HB8.out.mono hs6')).mono hbs)
          have hq := RES.out w8 hW8
          have q0 := at_block hq 0
          have q1 := at_block hq 1
          have q2 := at_block hq 2
          have f0 := free_block hq 0
          have f1 := free_block hq 1
          have f2 := free_block hq 2
          simp only [List.getElem?_toArray, List.getElem?_cons_zero, List.getElem?_cons_succ] at q0 q1 q2
          have HK := Lib.hid (FINB.out w8 _ hW8 (((((Keep.refl w8 (B + 1)).set 0 (.slice none 0 0)).set 1 (.int .i64 k)).set 2 (.int .i64 2))))
          have SC2 := Lib.hid (SC.out.trans hs.symm)
          clear hq hs hW8
          go_wp2_with fail
          refine bodyPost_ret (v := .agg #[.slice none 0 0, .int .i64 k, .int .i64 2]) (by simp [results, Try.results11, go_sem, q0, q1, q2]) rfl ⟨by rw [hB]; exact HK.out, ?_⟩
          rw [SC2.out]
          exact .inr ⟨rfl, rfl⟩
      · obtain rfl : c = n := by omega
        have hs := HS.out
        rw [hh, if_neg (by decide)] at hs
        have HLE := Lib.hid (show leB y 4562146422526312448 = leB N.2 4562146422526312448 by rw [← YN.out]; exact (leB_canon y 4562146422526312448).symm)
        have hW8 : Below H W wr := HBL.out.trans ((HB6.out.trans (hb7.mono hs6')).mono hbs)
        have HW8 := Lib.hid hW8
        have HGV := Lib.hid (HGN.out.below hb7)
        have HS2 := Lib.hid hs
        clear hs hh hb7 hW8
        cases hle : leB y 4562146422526312448 with
        | true =>
          have hs := HS2.out
          rw [← HLE.out, hle, if_pos rfl] at hs
          have hq := RES.out wr HW8.out
          have NB := Lib.hid (no_flt hq HGV.out h1)
          have q0 := at_block hq 0
          have q1 := at_block hq 1
          have q2 := at_block hq 2
          have f0 := free_block hq 0
          have f1 := free_block hq 1
          have f2 := free_block hq 2
          simp only [List.getElem?_toArray, List.getElem?_cons_zero, List.getElem?_cons_succ] at q0 q1 q2
          have hkp := (((Keep.refl wr (B + 1)).set 0 (.slice pg c cg)).set 1 (.int .i64 k)).set 2 (.int .i64 0)
          have HK := Lib.hid (FINB.out wr _ HW8.out hkp)
          have HGK := Lib.hid (HGV.out.kept hkp NB.out)
          have SC2 := Lib.hid (SC.out.trans hs.symm)
          clear hq hs hkp
          go_wp2_with fail
          refine bodyPost_ret (v := .agg #[.slice pg c cg, .int .i64 k, .int .i64 0]) (by simp [results, Try.results11, go_sem, q0, q1, q2]) rfl ⟨by rw [hB]; exact HK.out, ?_⟩
          rw [SC2.out]
          exact .inl ⟨rfl, _, rfl, HGK.out⟩
        | false =>
          have hs := HS2.out
          rw [← HLE.out, hle, if_neg (by decide)] at hs
          by_cases hk5 : k = 4
          · subst hk5
            rw [if_pos (by omega)] at hs
            have hq := RES.out wr HW8.out
            have q0 := at_block hq 0
            have q1 := at_block hq 1
            have q2 := at_block hq 2
            have f0 := free_block hq 0
            have f1 := free_block hq 1
            have f2 := free_block hq 2
            simp only [List.getElem?_toArray, List.getElem?_cons_zero, List.getElem?_cons_succ] at q0 q1 q2
            have HK := Lib.hid (FINB.out wr _ HW8.out ((((Keep.refl wr (B + 1)).set 0 (.slice none 0 0)).set 1 (.int .i64 4)).set 2 (.int .i64 6)))
            have SC2 := Lib.hid (SC.out.trans hs.symm)
            clear hq hs
            go_wp2_with fail
            refine bodyPost_ret (v := .agg #[.slice none 0 0, .int .i64 4, .int .i64 6]) (by simp [results, Try.results11, go_sem, q0, q1, q2]) rfl ⟨by rw [hB]; exact HK.out, ?_⟩
            rw [SC2.out]
            exact .inr ⟨rfl, rfl⟩
          · rw [if_neg (by omega)] at hs
            have HS3 := Lib.hid hs
            have hk4' : ((k : Int) == 4) = false := by simp; omega
            clear hs
            go_wp2_with fail
            go_roundw
            case rel => exact ⟨k + 1, _, by omega, by omega, by go_num, HGV.out, by rw [show 5 - (k + 1) = k' by omega]; exact HS3.out, HW8.out⟩
            case measure => simp [intOf]; omega
end Go.Proofs.Ytnlbafjmbamoeaa
/-
  What a step adds, as the document tells it, by Bdf.
-/
namespace Go.Proofs.Ytnlbafjmbamoeaa
open Go.RowKit
open Ieee (double)
attribute [local go_sem] alloc_drewN setCell_drewN call_bits call_frombits ord_lt ord_eq ord_gt ord_ne ord_le ord_ge eqB_self run_fadd run_fsub run_fmul run_fquo haStoreFlt takeOp pureOp readsUpon doOp run_store_fn run_store_fc run_store_slice

/-- What newton tells, in blocks that no other is written over. -/
def LuK (n H G2 R2 cg2 : Nat) (g : Nat → Nat → Nat) (q : Nat → Nat) (w : World) : Prop := 0 < n ∧ ∃ H' blk cap, H ≤ H' ∧ Grid w H' G2 n n blk cap g ∧ OwnI w H' R2 n cg2 fun i => (q i : Int)
theorem own_heap {w : World} {base R n cap : Nat} {E : TypeId} {rs : List Value} (h : w.ownsRow base E 1 (.slice (some ⟨R, 0, none⟩) n cap) n rs) : ∃ arr, w.heap[R]? = some (.cells arr E (0, 0)) := by
  rcases id h.2 with ⟨h2, -⟩ | ⟨g, c, cur, hv, hg, hh, -⟩
  · cases h2
  · simp only [Value.slice.injEq, Option.some.injEq, Addr.mk.injEq] at hv
    obtain ⟨⟨rfl, -⟩, -, rfl⟩ := hv
    exact ⟨_, hh⟩
theorem LuK.below {n H G2 R2 cg2 : Nat} {g : Nat → Nat → Nat} {q : Nat → Nat} {w w' : World} (h : LuK n H G2 R2 cg2 g q w) (hb : Below w.heap.size w w') : LuK n H G2 R2 cg2 g q w' := by
  obtain ⟨h0, H', blk, cap, h1, h2, h3⟩ := h
  exact ⟨h0, H', blk, cap, h1, h2.below hb, h3.below hb h3.lt.2⟩
theorem LuK.put {n H G2 R2 cg2 P : Nat} {g : Nat → Nat → Nat} {q : Nat → Nat} {X W : World} {cs : Array Value} {t : TypeId} (h : LuK n H G2 R2 cg2 g q X) (hz : X.heap[P]? = some (.cells cs t)) (hk : Keep X P W) (h1 : cs[0]? = some (.slice none 0 0)) (h2 : (t == 32 || t == 3) = false) : LuK n H G2 R2 cg2 g q W := by
  obtain ⟨h0, H', blk, cap, hH, hg, hi⟩ := h
  simp only [Bool.or_eq_false_iff, beq_eq_false_iff_ne] at h2
  have n1 : G2 ≠ P := fun e => by
    have e1 := hg.ref 0 h0
    rw [e, at_block hz, h1] at e1
    simp at e1
  have n2 : ∀ i, i < n → blk i ≠ P := fun i hi e => by
    obtain ⟨rs, r1, -⟩ := hg.row i hi
    obtain ⟨arr, r2⟩ := own_heap r1
    rw [e, hz] at r2
    simp only [Option.some.injEq, Obj.cells.injEq] at r2
    exact h2.1 r2.2.1
  have n3 : R2 ≠ P := fun e => by
    obtain ⟨rs, r1, -⟩ := hi
    obtain ⟨arr, r2⟩ := own_heap r1
    rw [e, hz] at r2
    simp only [Option.some.injEq, Obj.cells.injEq] at r2
    exact h2.2 r2.2.1
  have hG := hk.block G2 hg.hi n1
  exact ⟨h0, H', blk, cap, hH, ⟨fun i hi => (World.cell?_of_block (a := ⟨G2, i, none⟩) hG).trans (hg.ref i hi), fun i hi => (World.frozen?_of_block (a := ⟨G2, i, none⟩) hG).trans (hg.free i hi), fun i hi => (hg.row i hi).kept (hk.block _ (hg.row i hi).lt.2 (n2 i hi)), hg.inj, hg.off, hg.lo, Nat.lt_of_lt_of_le hg.hi hk.size⟩, hi.kept (hk.block R2 hi.lt.2 n3)⟩
set_option maxRecDepth 100000 in
set_option maxHeartbeats 8000000 in
theorem rcorr_bdf (n : Nat) (T : TD) (vo vu vz vl vw : Value) (m : Nat) (t : Int) (z : Nat → Nat → Nat) (l wt : Nat → Nat) (w : World) (hx : CtxAt w n T vo vu vz vl vw m z l wt)
    (hck : checkB T = true) (hcs : ∀ i, i < T.len → (T.op i).c < 18446744073709551616) (hn : T.n = n) (h1 : 1 ≤ n) (h4 : n ≤ 4) (hm : 2 ≤ m) :
    Calls Try.prog 11 #[.agg #[.int .i64 n, vo, vu], vz, vl, .int .i64 t, .int .i64 1, vw] w (RSumT n (corrF T z wt (l 0) (lenF t) n true) w) := by
  obtain ⟨bl, ol, cl, rfl, hbl', hl⟩ := hx.lrow.numAt (by omega)
  obtain ⟨y0, ly1, ly2, ly3⟩ := hl 0 (by omega)
  rw [Nat.add_zero] at ly1
  obtain ⟨bz, oz, cz, rfl, -, -⟩ := hx.tab.rowAt (by omega)
  obtain ⟨bw, ow, cw, rfl, -, -⟩ := hx.wrow.numAt (by omega)
  have hm0 : 0 < m := by omega
  have HX := Lib.hid hx
  have HCK := Lib.hid hck
  have HCS := Lib.hid hcs
  obtain ⟨iF, hF, f1, f2, f3⟩ := info_parts infoF
  have HF := Lib.hid (show iF.zero = _ ∧ iF.size = _ ∧ iF.bytes = _ from ⟨f1, f2, f3⟩)
  have HF0 := Lib.hid hF
  have LY2 := Lib.hid ly2
  clear hx hck hcs hF f1 f2 f3 hl ly2
  have AL := al2 w (.cells #[.int .i64 n, vo, vu] 26) (.cells #[.slice none 0 0, .int .i64 0, .int .i64 0] 42)
  go_enter Try.func11, Try.ntmps11
  go_upto_region 1 with fail
  generalize hB : w.heap.size = B at *
  generalize (w.alloc (.cells #[.int .i64 n, vo, vu] 26)).alloc (.cells #[.slice none 0 0, .int .i64 0, .int .i64 0] 42) = X at *
  obtain ⟨x1, x2, x4, x5⟩ := AL
  have HX1 := Lib.hid x1
  have HX2 := Lib.hid x2
  clear x1 x2
  go_wp2_with fail
  refine (rlength_tells t X).mono ?_
  rintro e w1 ⟨h, nd, rfl, y1, y2, rfl⟩
  have Y1 := Lib.hid y1
  have hbX : Below X.heap.size X (X.drewN nd) := below_drewN (Below.refl _ _) nd
  have hp0 := (hbX.cell (p := ⟨B, 0, none⟩) (by show B < X.heap.size; omega)).trans (at_block HX1.out 0)
  simp only [List.getElem?_toArray, List.getElem?_cons_zero] at hp0
  have hpl : B < (X.drewN nd).heap.size := by show B < X.heap.size; omega
  have hXs : (X.drewN nd).heap.size = B + 2 := x4
  have HBX := Lib.hid hbX
  have HXS := Lib.hid hXs
  clear y1 hbX hXs
  generalize X.drewN nd = X1 at *
  go_wp2_with (first
    | (refine wpList_make_full _ rfl _ _ _ rfl (B + 2) 32 iF (.float .f64 0) 1 Try.underlying31 HF0.out HF.out.1 HF.out.2.1 .i64 .i64 (n : Int) (n : Int) n rfl rfl rfl rfl (by rw [HF.out.2.2]; omega) (by unfold maxLen; omega) (by rw [HXS.out]; exact Nat.le_refl _) ?_)
    | fail)
  intro w2 hr2 hg2
  have hb2 : Below (B + 2) X1 w2 := (Below.refl _ _).grown hg2 (by have := HXS.out; omega) (fun k hk => by cases hk)
  have HO2 := Lib.hid (ownF_made hr2)
  have HB2 := Lib.hid ((HBX.out.mono (show B + 2 ≤ X.heap.size by omega)).trans hb2)
  clear hr2 hg2 hb2 hp0 hpl
  go_upto_region 4 with fail
  have LA := Lib.hid (al1 w2 (.cells #[.slice none 0 0, .slice none 0 0] 67))
  have HB3 := Lib.hid (HB2.out.trans (LA.out.2.2.mono (by have := HB2.out.size; omega)))
  have HO3 := Lib.hid (HO2.out.below LA.out.2.2 HO2.out.lt.2)
  have HL3 := Lib.hid LA.out.1
  have hLBs : B + 2 < w2.heap.size := by have := HO2.out.lt; rw [HXS.out] at this; omega
  have hL3s : w2.heap.size < (w2.alloc (.cells #[.slice none 0 0, .slice none 0 0] 67)).heap.size := by have := LA.out.2.1; omega
  clear LA HO2
  generalize hLBe : w2.heap.size = LB at *
  generalize w2.alloc (.cells #[.slice none 0 0, .slice none 0 0] 67) = W at *
  have HXW := Lib.hid (HX.out.below (show Below w.heap.size w W by rw [hB]; exact x5.trans (HB3.out.mono (by omega))))
  have p0 := (HB3.out.cell (p := ⟨B, 0, none⟩) (by show B < B + 2; omega)).trans (at_block HX1.out 0)
  have p1 := (HB3.out.cell (p := ⟨B, 1, none⟩) (by show B < B + 2; omega)).trans (at_block HX1.out 1)
  have p2 := (HB3.out.cell (p := ⟨B, 2, none⟩) (by show B < B + 2; omega)).trans (at_block HX1.out 2)
  simp only [List.getElem?_toArray, List.getElem?_cons_zero, List.getElem?_cons_succ] at p0 p1 p2
  have hpl : B < W.heap.size := by omega
  have lyW := (HB3.out.cell (p := ⟨bl, ol, none⟩) (by show bl < B + 2; omega)).trans ((x5.cell (p := ⟨bl, ol, none⟩) hbl').trans ly1)
  have hblW : bl < W.heap.size := by omega
  cases hp : partF (newtF T (z 0) y0 h) n n with
  | none =>
    have NT := Lib.hid (fun (V : World) (hb : Below W.heap.size W V) => (show Calls Try.prog 27 #[.agg #[.int .i64 n, vo, vu], .slice (some ⟨bz, oz, none⟩) m cz, .float .f64 y0, .float .f64 h] V (fun e w' => Below V.heap.size V w' ∧ e = .returned (.tuple #[.agg #[.slice none 0 0, .slice none 0 0], .bool false])) from by
      have hh := newton_tells n T vo vu _ m z y0 h V (HXW.out.tape.below hb) (HXW.out.tab.below hb) HCK.out HCS.out hn h1 h4 hm
      rw [hp] at hh
      exact hh))
    go_upto_region 5 with fail
    go_cut [16, 17] (fun a b wx => ∃ P, a = .pointer (some ⟨P, 0, none⟩) ∧ b = .bool false ∧ Below W.heap.size W wx)
    case first =>
      refine wp_region_tree (.op 0 3 (.op 1 1 (.op 2 1 (.op 3 1 (.op 4 3 (.op 5 1 (.alt 6 (.op 7 1 (.op 8 1 (.op 9 1 (.alt 10 (.alt 11 (.op 12 1 .nil) .stop) .stop)))) (.alt 10 (.alt 6 (.op 7 1 (.op 8 1 (.op 9 1 (.alt 11 (.op 12 1 .nil) .stop)))) .stop) .stop)))))))) [6, 10, 11] [0, 4] (fun W' => Below W.heap.size W W') (by kernel_rfl) (by kernel_rfl) (fun _ _ d _ _ h => by cases d <;> exact h) ((Below.refl _ _).drew) ?_
      intro Z hZ hbZ
      clear hZ
      refine wpTree_keep (v := .agg #[.int .i64 n, vo, vu]) rfl rfl (fun wk hwk => ?_) ?_
      · rw [← (haCell hwk).1 _ _ hpl] at p0 p1 p2
        go_simp
      refine wpTree_pure (fun K hK => ?_)
      go_simp
      refine hK _ ?_
      clear hK K
      refine wpTree_pure (fun K hK => ?_)
      go_simp
      refine hK _ ?_
      clear hK K
      refine wpTree_pure (fun K hK => ?_)
      go_simp
      refine hK _ ?_
      clear hK K
      refine wpTree_keep (v := .float .f64 y0) rfl rfl (fun wk hwk => ?_) ?_
      · rw [← (haCell hwk).1 _ _ hblW] at lyW
        go_simp
      refine wpTree_pure (fun K hK => ?_)
      go_simp
      refine hK _ ?_
      clear hK K
      have HBZ0 := Lib.hid hbZ
      clear hbZ
      refine wpTree_alt (fun K hK => ?_) ?_
      · go_simp
        refine (NT.out Z HBZ0.out).mono ?_
        rintro e V1 ⟨hst, rfl⟩
        have hbx := HBZ0.out.trans (hst.mono HBZ0.out.size)
        refine hK _ _ (fun _ => hbx) ?_
        clear hK K
        have HB2 := Lib.hid hbx
        clear hbx hst
        refine wpTree_pure (fun K hK => ?_)
        go_simp
        refine hK _ ?_
        clear hK K
        refine wpTree_pure (fun K hK => ?_)
        go_simp
        refine hK _ ?_
        clear hK K
        refine wpTree_pure (fun K hK => ?_)
        go_simp
        refine hK _ ?_
        clear hK K
        refine wpTree_alt (fun K hK => ?_) ?_
        · go_simp
          obtain ⟨y1, y2, hst⟩ := al1 V1 (.cells #[.slice none 0 0, .slice none 0 0] 67)
          have hbx := HB2.out.trans (hst.mono HB2.out.size)
          have HL7 := Lib.hid (show W.heap.size ≤ V1.heap.size from HB2.out.size)
          refine hK _ _ (fun _ => hbx) ?_
          clear hK K
          have HB5 := Lib.hid hbx
          have HF6 := Lib.hid y1
          clear y1 y2 hst hbx
          generalize V1.alloc (.cells #[.slice none 0 0, .slice none 0 0] 67) = V3 at *
          generalize V1.heap.size = k4 at *
          refine wpTree_alt (fun K hK => ?_) ?_
          · have c0 := at_block HF6.out 0
            have f0 := free_block HF6.out 0
            have c1 := at_block HF6.out 1
            have f1 := free_block HF6.out 1
            simp only [List.getElem?_toArray, List.getElem?_cons_zero, List.getElem?_cons_succ] at c0 c1
            go_simp
            have HB9 := Lib.hid (show Below W.heap.size W ((V3.setCell ⟨k4, 0, none⟩ (.slice none 0 0)).setCell ⟨k4, 1, none⟩ (.slice none 0 0)) from ((HB5.out.setCell (p := ⟨k4, 0, none⟩) HL7.out _).setCell (p := ⟨k4, 1, none⟩) HL7.out _))
            have HF10 := Lib.hid (show ((V3.setCell ⟨k4, 0, none⟩ (.slice none 0 0)).setCell ⟨k4, 1, none⟩ (.slice none 0 0)).heap[k4]? = some (.cells #[.slice none 0 0, .slice none 0 0] 67) from (heap_put (heap_put HF6.out _) _))
            refine hK _ _ (fun _ => HB9.out) ?_
            clear hK K c0 f0 c1 f1
            generalize ((V3.setCell ⟨k4, 0, none⟩ (.slice none 0 0)).setCell ⟨k4, 1, none⟩ (.slice none 0 0)) = V8 at *
            refine wpTree_pure (fun K hK => ?_)
            go_simp
            refine hK _ ?_
            clear hK K
            refine wpTree_nil ?_
            go_wp2_with fail
            go_meet
            exact ⟨_, rfl, rfl, HB9.out⟩
          exact wpTree_stop
        exact wpTree_stop
      refine wpTree_alt (fun K hK => ?_) ?_
      · go_simp
        obtain ⟨y1, y2, hst⟩ := al1 Z (.cells #[.slice none 0 0, .slice none 0 0] 67)
        have hbx := HBZ0.out.trans (hst.mono HBZ0.out.size)
        have HL15 := Lib.hid (show W.heap.size ≤ Z.heap.size from HBZ0.out.size)
        refine hK _ _ (fun _ => hbx) ?_
        clear hK K
        have HB13 := Lib.hid hbx
        have HF14 := Lib.hid y1
        clear y1 y2 hst hbx
        generalize Z.alloc (.cells #[.slice none 0 0, .slice none 0 0] 67) = V11 at *
        generalize Z.heap.size = k12 at *
        refine wpTree_alt (fun K hK => ?_) ?_
        · go_simp
          refine (NT.out V11 HB13.out).mono ?_
          rintro e V16 ⟨hst, rfl⟩
          have hbx := HB13.out.trans (hst.mono HB13.out.size)
          have HF18 := Lib.hid ((hst.block k12 (lt_block HF14.out)).trans HF14.out)
          refine hK _ _ (fun _ => hbx) ?_
          clear hK K
          have HB17 := Lib.hid hbx
          clear hbx hst
          refine wpTree_pure (fun K hK => ?_)
          go_simp
          refine hK _ ?_
          clear hK K
          refine wpTree_pure (fun K hK => ?_)
          go_simp
          refine hK _ ?_
          clear hK K
          refine wpTree_pure (fun K hK => ?_)
          go_simp
          refine hK _ ?_
          clear hK K
          refine wpTree_alt (fun K hK => ?_) ?_
          · have c0 := at_block HF18.out 0
            have f0 := free_block HF18.out 0
            have c1 := at_block HF18.out 1
            have f1 := free_block HF18.out 1
            simp only [List.getElem?_toArray, List.getElem?_cons_zero, List.getElem?_cons_succ] at c0 c1
            go_simp
            have HB20 := Lib.hid (show Below W.heap.size W ((V16.setCell ⟨k12, 0, none⟩ (.slice none 0 0)).setCell ⟨k12, 1, none⟩ (.slice none 0 0)) from ((HB17.out.setCell (p := ⟨k12, 0, none⟩) HL15.out _).setCell (p := ⟨k12, 1, none⟩) HL15.out _))
            have HF21 := Lib.hid (show ((V16.setCell ⟨k12, 0, none⟩ (.slice none 0 0)).setCell ⟨k12, 1, none⟩ (.slice none 0 0)).heap[k12]? = some (.cells #[.slice none 0 0, .slice none 0 0] 67) from (heap_put (heap_put HF18.out _) _))
            refine hK _ _ (fun _ => HB20.out) ?_
            clear hK K c0 f0 c1 f1
            generalize ((V16.setCell ⟨k12, 0, none⟩ (.slice none 0 0)).setCell ⟨k12, 1, none⟩ (.slice none 0 0)) = V19 at *
            refine wpTree_pure (fun K hK => ?_)
            go_simp
            refine hK _ ?_
            clear hK K
            refine wpTree_nil ?_
            go_wp2_with fail
            go_meet
            exact ⟨_, rfl, rfl, HB20.out⟩
          exact wpTree_stop
        exact wpTree_stop
      exact wpTree_stop
    case rest =>
      obtain ⟨P, rfl, rfl, hb7⟩ := hcut
      have hq := ((hb7.block (B + 1) (by omega)).trans (HB3.out.block (B + 1) (by omega))).trans HX2.out
      have HBZ := Lib.hid (x5.trans ((HB3.out.mono (show B ≤ B + 2 by omega)).trans (hb7.mono (by omega))))
      have hs7 := hb7.size
      have q0 := at_block hq 0
      have q1 := at_block hq 1
      have q2 := at_block hq 2
      have f0 := free_block hq 0
      have f1 := free_block hq 1
      have f2 := free_block hq 2
      simp only [List.getElem?_toArray, List.getElem?_cons_zero, List.getElem?_cons_succ] at q0 q1 q2
      have SC := Lib.hid (show corrF T z wt (l 0) (lenF t) n true = ⟨fun _ => 0, false, 0, 4⟩ from by rw [← Y1.out, ← LY2.out, corrF_h]; unfold corrF; rw [if_pos rfl, newtF_l, hp])
      have HK := Lib.hid (((((Keep.refl wc (B + 1)).set 0 (.slice none 0 0)).set 1 (.int .i64 0)).set 2 (.int .i64 4)))
      clear hq hp hb7 p0 p1 p2 NT
      go_wp2_with fail
      refine bodyPost_ret (v := .agg #[.slice none 0 0, .int .i64 0, .int .i64 4]) (by simp [results, Try.results11, go_sem, q0, q1, q2]) rfl ⟨by rw [hB]; exact HK.out.below HBZ.out (by omega) (by omega), ?_⟩
      rw [SC.out]
      exact .inr ⟨rfl, rfl⟩
  | some gq =>
    obtain ⟨g, q⟩ := gq
    have NT := Lib.hid (fun (V : World) (hb : Below W.heap.size W V) => (show Calls Try.prog 27 #[.agg #[.int .i64 n, vo, vu], .slice (some ⟨bz, oz, none⟩) m cz, .float .f64 y0, .float .f64 h] V (fun e w' => Below V.heap.size V w' ∧ ∃ G2 R2 cg1 cg2, e = .returned (.tuple #[.agg #[.slice (some ⟨G2, 0, none⟩) n cg1, .slice (some ⟨R2, 0, none⟩) n cg2], .bool true]) ∧ LuK n W.heap.size G2 R2 cg2 g q w') from by
      have hh := newton_tells n T vo vu _ m z y0 h V (HXW.out.tape.below hb) (HXW.out.tab.below hb) HCK.out HCS.out hn h1 h4 hm
      rw [hp] at hh
      refine hh.mono ?_
      rintro e V2 ⟨a1, G2, R2, cg1, cg2, blk, cap, a2, a3, a4, -, -⟩
      exact ⟨a1, G2, R2, cg1, cg2, a2, by omega, _, blk, cap, hb.size, a3, a4⟩))
    go_upto_region 5 with fail
    go_cut [16, 17] (fun a b wx => ∃ P G2 R2 cg1 cg2, a = .pointer (some ⟨P, 0, none⟩) ∧ b = .bool true ∧ wx.heap[P]? = some (.cells #[.slice (some ⟨G2, 0, none⟩) n cg1, .slice (some ⟨R2, 0, none⟩) n cg2] 67) ∧ LuK n W.heap.size G2 R2 cg2 g q wx ∧ Below W.heap.size W wx)
    case first =>
      refine wp_region_tree (.op 0 3 (.op 1 1 (.op 2 1 (.op 3 1 (.op 4 3 (.op 5 1 (.alt 6 (.op 7 1 (.op 8 1 (.op 9 1 (.alt 10 (.alt 11 (.op 12 1 .nil) .stop) .stop)))) (.alt 10 (.alt 6 (.op 7 1 (.op 8 1 (.op 9 1 (.alt 11 (.op 12 1 .nil) .stop)))) .stop) .stop)))))))) [6, 10, 11] [0, 4] (fun W' => Below W.heap.size W W') (by kernel_rfl) (by kernel_rfl) (fun _ _ d _ _ h => by cases d <;> exact h) ((Below.refl _ _).drew) ?_
      intro Z hZ hbZ
      clear hZ
      refine wpTree_keep (v := .agg #[.int .i64 n, vo, vu]) rfl rfl (fun wk hwk => ?_) ?_
      · rw [← (haCell hwk).1 _ _ hpl] at p0 p1 p2
        go_simp
      refine wpTree_pure (fun K hK => ?_)
      go_simp
      refine hK _ ?_
      clear hK K
      refine wpTree_pure (fun K hK => ?_)
      go_simp
      refine hK _ ?_
      clear hK K
      refine wpTree_pure (fun K hK => ?_)
      go_simp
      refine hK _ ?_
      clear hK K
      refine wpTree_keep (v := .float .f64 y0) rfl rfl (fun wk hwk => ?_) ?_
      · rw [← (haCell hwk).1 _ _ hblW] at lyW
        go_simp
      refine wpTree_pure (fun K hK => ?_)
      go_simp
      refine hK _ ?_
      clear hK K
      have HBZ0 := Lib.hid hbZ
      clear hbZ
      refine wpTree_alt (fun K hK => ?_) ?_
      · go_simp
        refine (NT.out Z HBZ0.out).mono ?_
        rintro e V1 ⟨hst, G2, R2, cg1, cg2, rfl, hlk⟩
        have hbx := HBZ0.out.trans (hst.mono HBZ0.out.size)
        have HF3 := Lib.hid (hlk)
        refine hK _ _ (fun _ => hbx) ?_
        clear hK K
        have HB2 := Lib.hid hbx
        clear hbx hst hlk
        refine wpTree_pure (fun K hK => ?_)
        go_simp
        refine hK _ ?_
        clear hK K
        refine wpTree_pure (fun K hK => ?_)
        go_simp
        refine hK _ ?_
        clear hK K
        refine wpTree_pure (fun K hK => ?_)
        go_simp
        refine hK _ ?_
        clear hK K
        refine wpTree_alt (fun K hK => ?_) ?_
        · go_simp
          obtain ⟨y1, y2, hst⟩ := al1 V1 (.cells #[.slice none 0 0, .slice none 0 0] 67)
          have hbx := HB2.out.trans (hst.mono HB2.out.size)
          have HF9 := Lib.hid (HF3.out.below hst)
          have HL8 := Lib.hid (show W.heap.size ≤ V1.heap.size from HB2.out.size)
          refine hK _ _ (fun _ => hbx) ?_
          clear hK K
          have HB6 := Lib.hid hbx
          have HF7 := Lib.hid y1
          clear y1 y2 hst hbx
          generalize V1.alloc (.cells #[.slice none 0 0, .slice none 0 0] 67) = V4 at *
          generalize V1.heap.size = k5 at *
          refine wpTree_alt (fun K hK => ?_) ?_
          · have c0 := at_block HF7.out 0
            have f0 := free_block HF7.out 0
            have c1 := at_block HF7.out 1
            have f1 := free_block HF7.out 1
            simp only [List.getElem?_toArray, List.getElem?_cons_zero, List.getElem?_cons_succ] at c0 c1
            go_simp
            have HB11 := Lib.hid (show Below W.heap.size W ((V4.setCell ⟨k5, 0, none⟩ (.slice (some ⟨G2, 0, none⟩) n cg1)).setCell ⟨k5, 1, none⟩ (.slice (some ⟨R2, 0, none⟩) n cg2)) from ((HB6.out.setCell (p := ⟨k5, 0, none⟩) HL8.out _).setCell (p := ⟨k5, 1, none⟩) HL8.out _))
            have HF12 := Lib.hid (show ((V4.setCell ⟨k5, 0, none⟩ (.slice (some ⟨G2, 0, none⟩) n cg1)).setCell ⟨k5, 1, none⟩ (.slice (some ⟨R2, 0, none⟩) n cg2)).heap[k5]? = some (.cells #[.slice (some ⟨G2, 0, none⟩) n cg1, .slice (some ⟨R2, 0, none⟩) n cg2] 67) from (heap_put (heap_put HF7.out _) _))
            have HF13 := Lib.hid (HF9.out.put (W := ((V4.setCell ⟨k5, 0, none⟩ (.slice (some ⟨G2, 0, none⟩) n cg1)).setCell ⟨k5, 1, none⟩ (.slice (some ⟨R2, 0, none⟩) n cg2))) HF7.out (((Keep.refl V4 k5).set 0 _).set 1 _) rfl rfl)
            refine hK _ _ (fun _ => HB11.out) ?_
            clear hK K c0 f0 c1 f1
            generalize ((V4.setCell ⟨k5, 0, none⟩ (.slice (some ⟨G2, 0, none⟩) n cg1)).setCell ⟨k5, 1, none⟩ (.slice (some ⟨R2, 0, none⟩) n cg2)) = V10 at *
            refine wpTree_pure (fun K hK => ?_)
            go_simp
            refine hK _ ?_
            clear hK K
            refine wpTree_nil ?_
            go_wp2_with fail
            go_meet
            exact ⟨k5, _, _, _, _, rfl, rfl, HF12.out, HF13.out, HB11.out⟩
          exact wpTree_stop
        exact wpTree_stop
      refine wpTree_alt (fun K hK => ?_) ?_
      · go_simp
        obtain ⟨y1, y2, hst⟩ := al1 Z (.cells #[.slice none 0 0, .slice none 0 0] 67)
        have hbx := HBZ0.out.trans (hst.mono HBZ0.out.size)
        have HL18 := Lib.hid (show W.heap.size ≤ Z.heap.size from HBZ0.out.size)
        refine hK _ _ (fun _ => hbx) ?_
        clear hK K
        have HB16 := Lib.hid hbx
        have HF17 := Lib.hid y1
        clear y1 y2 hst hbx
        generalize Z.alloc (.cells #[.slice none 0 0, .slice none 0 0] 67) = V14 at *
        generalize Z.heap.size = k15 at *
        refine wpTree_alt (fun K hK => ?_) ?_
        · go_simp
          refine (NT.out V14 HB16.out).mono ?_
          rintro e V19 ⟨hst, G2, R2, cg1, cg2, rfl, hlk⟩
          have hbx := HB16.out.trans (hst.mono HB16.out.size)
          have HF21 := Lib.hid ((hst.block k15 (lt_block HF17.out)).trans HF17.out)
          have HF22 := Lib.hid (hlk)
          refine hK _ _ (fun _ => hbx) ?_
          clear hK K
          have HB20 := Lib.hid hbx
          clear hbx hst hlk
          refine wpTree_pure (fun K hK => ?_)
          go_simp
          refine hK _ ?_
          clear hK K
          refine wpTree_pure (fun K hK => ?_)
          go_simp
          refine hK _ ?_
          clear hK K
          refine wpTree_pure (fun K hK => ?_)
          go_simp
          refine hK _ ?_
          clear hK K
          refine wpTree_alt (fun K hK => ?_) ?_
          · have c0 := at_block HF21.out 0
            have f0 := free_block HF21.out 0
            have c1 := at_block HF21.out 1
            have f1 := free_block HF21.out 1
            simp only [List.getElem?_toArray, List.getElem?_cons_zero, List.getElem?_cons_succ] at c0 c1
            go_simp
            have HB24 := Lib.hid (show Below W.heap.size W ((V19.setCell ⟨k15, 0, none⟩ (.slice (some ⟨G2, 0, none⟩) n cg1)).setCell ⟨k15, 1, none⟩ (.slice (some ⟨R2, 0, none⟩) n cg2)) from ((HB20.out.setCell (p := ⟨k15, 0, none⟩) HL18.out _).setCell (p := ⟨k15, 1, none⟩) HL18.out _))
            have HF25 := Lib.hid (show ((V19.setCell ⟨k15, 0, none⟩ (.slice (some ⟨G2, 0, none⟩) n cg1)).setCell ⟨k15, 1, none⟩ (.slice (some ⟨R2, 0, none⟩) n cg2)).heap[k15]? = some (.cells #[.slice (some ⟨G2, 0, none⟩) n cg1, .slice (some ⟨R2, 0, none⟩) n cg2] 67) from (heap_put (heap_put HF21.out _) _))
            have HF26 := Lib.hid (HF22.out.put (W := ((V19.setCell ⟨k15, 0, none⟩ (.slice (some ⟨G2, 0, none⟩) n cg1)).setCell ⟨k15, 1, none⟩ (.slice (some ⟨R2, 0, none⟩) n cg2))) HF21.out (((Keep.refl V19 k15).set 0 _).set 1 _) rfl rfl)
            refine hK _ _ (fun _ => HB24.out) ?_
            clear hK K c0 f0 c1 f1
            generalize ((V19.setCell ⟨k15, 0, none⟩ (.slice (some ⟨G2, 0, none⟩) n cg1)).setCell ⟨k15, 1, none⟩ (.slice (some ⟨R2, 0, none⟩) n cg2)) = V23 at *
            refine wpTree_pure (fun K hK => ?_)
            go_simp
            refine hK _ ?_
            clear hK K
            refine wpTree_nil ?_
            go_wp2_with fail
            go_meet
            exact ⟨k15, _, _, _, _, rfl, rfl, HF25.out, HF26.out, HB24.out⟩
          exact wpTree_stop
        exact wpTree_stop
      exact wpTree_stop
    case rest =>
    obtain ⟨P, G2, R2, cg1, cg2, rfl, rfl, hP, hlk, hb7⟩ := hcut
    obtain ⟨-, H0, blk2, cap2, hHH, hg2, hi2⟩ := hlk
    have t0 := at_block hP 0
    have t1 := at_block hP 1
    simp only [List.getElem?_toArray, List.getElem?_cons_zero, List.getElem?_cons_succ] at t0 t1
    have HB7 := Lib.hid hb7
    have hs7 := hb7.size
    have hl7 := lt_block hP
    have HG2 := Lib.hid hg2
    have HI2 := Lib.hid hi2
    have HQ := Lib.hid (partF_lt (Nat.le_refl _) hp)
    have SC := Lib.hid (show corrF T z wt (l 0) (lenF t) n true = seekF (bdfF T (z 0) (z 1) wt y0 h n g q) n 4 (fun _ => 0) from by rw [← Y1.out, ← LY2.out, corrF_h]; unfold corrF; rw [if_pos rfl, newtF_l, hp]; simp only [bdfF_l])
    clear hb7 hP hg2 hi2 hp p0 p1 p2 lyW NT
    have hLq := (HB7.out.block LB hL3s).trans HL3.out
    have q0 := at_block hLq 0
    have q1 := at_block hLq 1
    have f0 := free_block hLq 0
    have f1 := free_block hLq 1
    simp only [List.getElem?_toArray, List.getElem?_cons_zero, List.getElem?_cons_succ] at q0 q1
    go_upto_region 9 with fail
    obtain ⟨L0, L1⟩ := set2_ok (x := .slice (some ⟨G2, 0, none⟩) n cg1) (y := .slice (some ⟨R2, 0, none⟩) n cg2) q0 q1
    have hk8 := ((Keep.refl wc LB).set 0 (.slice (some ⟨G2, 0, none⟩) n cg1)).set 1 (.slice (some ⟨R2, 0, none⟩) n cg2)
    have HBW := Lib.hid (show Below (B + 2) X _ from hk8.below (HB3.out.trans (HB7.out.mono (by omega))) (by omega) (by omega))
    have HO3' := Lib.hid ((HO3.out.below HB7.out HO3.out.lt.2).kept (hk8.block _ (HO3.out.below HB7.out HO3.out.lt.2).lt.2 (by have := HXS.out; omega)))
    have HT8 := Lib.hid (((HG2.out.setOther (B := LB) (o := 0) (by have := HG2.out.lo; omega) (fun i hi => by have := (HG2.out.row i hi).lt; omega) (.slice (some ⟨G2, 0, none⟩) n cg1)).setOther (B := LB) (o := 1) (by have := HG2.out.lo; omega) (fun i hi => by have := (HG2.out.row i hi).lt; omega) (.slice (some ⟨R2, 0, none⟩) n cg2)).tab (c := cg1) (by omega) (by omega))
    have HI8 := Lib.hid (((HI2.out.other (B := LB) (o := 0) (by have := HI2.out.lt; omega) (.slice (some ⟨G2, 0, none⟩) n cg1)).other (B := LB) (o := 1) (by have := HI2.out.lt; omega) (.slice (some ⟨R2, 0, none⟩) n cg2)).ints (by omega))
    have hk8s := hk8.size
    clear hk8 q0 q1 f0 f1 t0 t1 hLq HO3
    generalize (wc.setCell ⟨LB, 0, none⟩ (.slice (some ⟨G2, 0, none⟩) n cg1)).setCell ⟨LB, 1, none⟩ (.slice (some ⟨R2, 0, none⟩) n cg2) = W2 at *
    have HXW2 := Lib.hid (HX.out.below (show Below w.heap.size w W2 by rw [hB]; exact x5.trans (HBW.out.mono (by omega))))
    have HL8 := Lib.hid (show W2.cell? ⟨LB, 0, none⟩ = _ ∧ W2.cell? ⟨LB, 1, none⟩ = _ from ⟨L0, L1⟩)
    have hLW2 : LB < W2.heap.size := by omega
    generalize hS : seekF (bdfF T (z 0) (z 1) wt y0 h n g q) n 4 (fun _ => 0) = S at *
    have HS := Lib.hid hS
    clear hS HB7 HB3 HB2 HXW L0 L1
    have hLW := hLW2
    generalize hHe : W2.heap.size = H at *
    go_wp2_with fail
    go_loopw [14, 18] (fun v kk wr => ∃ (k : Nat) (x : Nat → Nat), 1 ≤ k ∧ k ≤ 4 ∧ kk = .int .i64 k ∧ FRow wr v n x ∧ seekF (bdfF T (z 0) (z 1) wt y0 h n g q) n (5 - k) x = S ∧ Below H W2 wr) (fun _ kk _ => 5 - (intOf kk).toNat)
    case atStart => exact ⟨1, _, by omega, by omega, rfl, HO3'.out.flts (by omega), HS.out, Below.refl _ _⟩
    case round =>
      clear HO3' HS
      obtain ⟨k, x, hk1, hk4, rfl, hxr, hs, hbl⟩ := hrel
      obtain ⟨k', hk'⟩ : ∃ k', 5 - k = k' + 1 := ⟨4 - k, by omega⟩
      rw [hk', seekF_step, show 4 - k' = k by omega] at hs
      have HXR := Lib.hid hxr
      obtain ⟨px, cx, rfl, -, -⟩ := id hxr
      have HS := Lib.hid hs
      have HBL := Lib.hid hbl
      have hbs : H ≤ wr.heap.size := by have := hbl.size; omega
      have hkk : k + k' = 4 := by omega
      have HXr := Lib.hid (HXW2.out.below (hHe ▸ hbl))
      have p0 := ((hbl.cell (p := ⟨B, 0, none⟩) (by show B < H; omega)).trans (HBW.out.cell (p := ⟨B, 0, none⟩) (by show B < B + 2; omega))).trans (at_block HX1.out 0)
      have p1 := ((hbl.cell (p := ⟨B, 1, none⟩) (by show B < H; omega)).trans (HBW.out.cell (p := ⟨B, 1, none⟩) (by show B < B + 2; omega))).trans (at_block HX1.out 1)
      have p2 := ((hbl.cell (p := ⟨B, 2, none⟩) (by show B < H; omega)).trans (HBW.out.cell (p := ⟨B, 2, none⟩) (by show B < B + 2; omega))).trans (at_block HX1.out 2)
      simp only [List.getElem?_toArray, List.getElem?_cons_zero, List.getElem?_cons_succ] at p0 p1 p2
      have hpl : B < wr.heap.size := by omega
      have lyW := ((hbl.cell (p := ⟨bl, ol, none⟩) (by show bl < H; omega)).trans (HBW.out.cell (p := ⟨bl, ol, none⟩) (by show bl < B + 2; omega))).trans ((x5.cell (p := ⟨bl, ol, none⟩) hbl').trans ly1)
      have hblW : bl < wr.heap.size := by omega
      have RES := Lib.hid (fun W2' (hW : Below H W2 W2') => (show W2'.heap[B + 1]? = some (.cells #[.slice none 0 0, .int .i64 0, .int .i64 0] 42) from ((hW.block (B + 1) (by omega)).trans (HBW.out.block (B + 1) (by omega))).trans HX2.out))
      have FINB := Lib.hid (fun V1 V2 (hW : Below H W2 V1) (hk : Keep V1 (B + 1) V2) => (show Below B w V2 from hk.below (x5.trans ((HBW.out.mono (show B ≤ B + 2 by omega)).trans (hW.mono (by omega)))) (by omega) (by have := hW.size; omega)))
      clear hs hxr hbl hk'
      go_wp2_with fail
      refine wp_region_ordR [(0, 3), (1, 1), (2, 1), (3, 1), (4, 3), (5, 1), (6, 1), (7, 0), (8, 1)] (fun W2' => Below wr.heap.size wr W2') (by kernel_rfl) (by kernel_rfl) (fun _ _ d _ _ h => by cases d <;> exact h) ((Below.refl _ _).drew) ?_
      intro Z hZ hbZ
      clear hZ
      refine wpOrd_keep (v := .agg #[.int .i64 n, vo, vu]) rfl rfl (fun wk hwk => ?_) ?_
      · rw [← (haCell hwk).1 _ _ hpl] at p0 p1 p2
        go_simp
      iterate 3
        first
          | refine wpOrd_pure (fun K hK => ?_)
          | refine wpOrd_take (fun K hK => ?_)
        go_simp
        refine hK _ ?_
        clear hK K
      refine wpOrd_keep (v := .float .f64 y0) rfl rfl (fun wk hwk => ?_) ?_
      · rw [← (haCell hwk).1 _ _ hblW] at lyW
        go_simp
      iterate 2
        first
          | refine wpOrd_pure (fun K hK => ?_)
          | refine wpOrd_take (fun K hK => ?_)
        go_simp
        refine hK _ ?_
        clear hK K
      refine wpOrd_doR (fun K hK => ?_)
      go_simp
      refine (left_tells' n T vo vu _ _ m z x y0 h Z (HXr.out.tape.below hbZ) (HXr.out.tab.below hbZ) (HXR.out.below hbZ) HCK.out HCS.out hn h1 h4 hm).mono ?_
      rintro e w4 ⟨vg, rfl, hg, hb4⟩
      have hbA := hbZ.trans (hb4.mono hbZ.size)
      refine hK _ _ (fun h => Bool.noConfusion (Eq.trans (Eq.symm (by kernel_rfl : _ = false)) h)) (fun _ => hbA) ?_
      clear hK K
      iterate 1
        first
          | refine wpOrd_pure (fun K hK => ?_)
          | refine wpOrd_take (fun K hK => ?_)
        go_simp
        refine hK _ ?_
        clear hK K
      refine wpOrd_nil ?_
      obtain ⟨pg, cg, rfl, -, -⟩ := id hg
      have HG := Lib.hid hg
      have HBA := Lib.hid hbA
      have hsA := hbA.size
      clear hbZ hg hb4 hbA p0 p1 p2 lyW
      have L0 := (HBL.out.cell (p := ⟨LB, 0, none⟩) (by show LB < H; omega)).trans HL8.out.1
      have L1 := (HBL.out.cell (p := ⟨LB, 1, none⟩) (by show LB < H; omega)).trans HL8.out.2
      rw [← HBA.out.cell (p := ⟨LB, 0, none⟩) (by show LB < wr.heap.size; omega)] at L0
      rw [← HBA.out.cell (p := ⟨LB, 1, none⟩) (by show LB < wr.heap.size; omega)] at L1
      have hLw4 : LB < w4.heap.size := by omega
      have HTA := Lib.hid ((HT8.out.below (hHe ▸ HBL.out)).below HBA.out)
      have HIA := Lib.hid ((HI8.out.below (hHe ▸ HBL.out)).below HBA.out)
      go_wp2_with fail
      refine wp_region_ordR [(0, 3), (1, 1), (2, 1), (3, 0), (4, 0), (5, 1)] (fun W2' => Below w4.heap.size w4 W2') (by kernel_rfl) (by kernel_rfl) (fun _ _ d _ _ h => by cases d <;> exact h) ((Below.refl _ _).drew) ?_
      intro Z hZ hbZ
      clear hZ
      refine wpOrd_keep (v := .agg #[.slice (some ⟨G2, 0, none⟩) n cg1, .slice (some ⟨R2, 0, none⟩) n cg2]) rfl rfl (fun wk hwk => ?_) ?_
      · rw [← (haCell hwk).1 _ _ hLw4] at L0 L1
        go_simp
      iterate 2
        first
          | refine wpOrd_pure (fun K hK => ?_)
          | refine wpOrd_take (fun K hK => ?_)
        go_simp
        refine hK _ ?_
        clear hK K
      refine wpOrd_doR (fun K hK => ?_)
      go_simp
      refine (rminus_tells _ _ n (by omega) (slopeF T (z 0) (z 1) y0 h x) x Z (HG.out.below hbZ) ((HXR.out.below HBA.out).below hbZ)).mono ?_
      rintro e w5 ⟨vm, rfl, hm5, hb5⟩
      have hbB := hbZ.trans (hb5.mono hbZ.size)
      refine hK _ _ (fun h => Bool.noConfusion (Eq.trans (Eq.symm (by kernel_rfl : _ = false)) h)) (fun _ => hbB) ?_
      clear hK K
      refine wpOrd_doR (fun K hK => ?_)
      go_simp
      refine (rsolve_tells n _ _ vm g q (fun i => cop .sub (slopeF T (z 0) (z 1) y0 h x i) (x i)) w5 (HTA.out.below hbB) (HIA.out.below hbB) hm5 HQ.out h1 (by omega)).mono ?_
      rintro e w7 ⟨RS, rfl, hS7, hb7⟩
      have hbC := hbB.trans (hb7.mono hbB.size)
      refine hK _ _ (fun h => Bool.noConfusion (Eq.trans (Eq.symm (by kernel_rfl : _ = false)) h)) (fun _ => hbC) ?_
      clear hK K
      iterate 1
        first
          | refine wpOrd_pure (fun K hK => ?_)
          | refine wpOrd_take (fun K hK => ?_)
        go_simp
        refine hK _ ?_
        clear hK K
      refine wpOrd_nil ?_
      have HS7 := Lib.hid hS7
      have HBC := Lib.hid hbC
      have hsC := hbC.size
      clear hbZ hm5 hb5 hbB hS7 hb7 hbC L0 L1
      go_wp2_with fail
      refine (rplus_tells _ _ n (by omega) x (solveF g n (fun i => (fun i => cop .sub (slopeF T (z 0) (z 1) y0 h x i) (x i)) (q i))) w7 ((HXR.out.below HBA.out).below HBC.out) (HS7.out.flts (by omega))).mono ?_
      rintro e w8 ⟨vd, rfl, hd8, hb8⟩
      obtain ⟨pd, cd, rfl, -, -⟩ := id hd8
      have HD8 := Lib.hid hd8
      have HS8 := Lib.hid (HS7.out.below hb8 HS7.out.lt.2)
      have HBD := Lib.hid (HBC.out.trans (hb8.mono hsC))
      have hsD := hb8.size
      clear hd8 hb8 HS7
      go_wp2_with fail
      refine (rsize_tells _ _ n (solveF g n (fun i => (fun i => cop .sub (slopeF T (z 0) (z 1) y0 h x i) (x i)) (q i))) wt w8 (HS8.out.flts (by omega)) (((HXr.out.wrow.below HBA.out).below HBD.out))).mono ?_
      rintro e w6 ⟨⟨y, rfl, y1, y2⟩, hb6⟩
      have HB6 := Lib.hid (HBA.out.trans ((HBD.out.trans (hb6.mono (by omega))).mono hsA))
      have HGN := Lib.hid (show FRow w6 (.slice pd n cd) n ((bdfF T (z 0) (z 1) wt y0 h n g q) x).1 from HD8.out.below hb6)
      have YN := Lib.hid (show canon y = ((bdfF T (z 0) (z 1) wt y0 h n g q) x).2 from y1)
      clear hb6 y1 HG HD8 HS8
      generalize (bdfF T (z 0) (z 1) wt y0 h n g q) x = N at *
      have hs6' : wr.heap.size ≤ w6.heap.size := HB6.out.size
      go_wp2_with fail
      generalize w6 = V at *
      go_loopw [22] (fun i ws => ∃ c : Nat, c ≤ n ∧ i = .int .i64 c ∧ allB c (fun i => finB (N.1 i)) = true ∧ Below V.heap.size V ws) (fun i _ => n - (intOf i).toNat)
      case atStart => exact ⟨0, by omega, rfl, rfl, Below.refl _ _⟩
      case round =>
        obtain ⟨c, hc, rfl, hh, hb7⟩ := hrel
        by_cases hcn : c < n
        · obtain ⟨bn, on, cn', hvn, hbn, hnr⟩ := HGN.out.numAt (by omega)
          simp only [Value.slice.injEq, true_and] at hvn
          obtain ⟨rfl, rfl⟩ := hvn
          obtain ⟨u, u1, u2, u3⟩ := hnr c hcn
          rw [← hb7.cell (p := ⟨bn, on + c, none⟩) hbn] at u1
          have HH := Lib.hid hh
          have HB7 := Lib.hid hb7
          have HU := Lib.hid (show finB u = finB (N.1 c) by rw [← u2, finB_canon])
          have c1 : (c : Int) < (n : Int) := by omega
          have hs7 := hb7.size
          clear hnr u2 hh hb7
          go_wp2_with fail
          refine (rfinite_tells u _).mono ?_
          rintro e w8 ⟨rfl, hb8⟩
          have HB8 := Lib.hid (HB7.out.trans (hb8.mono hs7))
          clear hb8 u1
          cases hf : finB u with
          | true =>
            have H2 := Lib.hid (show allB (c + 1) (fun i => finB (N.1 i)) = true by rw [allB, HH.out, ← HU.out, hf]; rfl)
            go_wp2_with fail
            go_roundw
            case rel => exact ⟨c + 1, by omega, by go_num, H2.out, HB8.out⟩
            case measure => simp [intOf]; omega
          | false =>
            have H2 := Lib.hid (show allB n (fun i => finB (N.1 i)) = false from allB_no hcn (by rw [← HU.out]; exact hf))
            have hs := HS.out
            rw [H2.out, if_pos rfl] at hs
            have hW8 : Below H W2 w8 := HBL.out.trans ((HB6.out.trans (HB8.out.mono hs6')).mono hbs)
            have hq := RES.out w8 hW8
            have q0 := at_block hq 0
            have q1 := at_block hq 1
            have q2 := at_block hq 2
            have f0 := free_block hq 0
            have f1 := free_block hq 1
            have f2 := free_block hq 2
            simp only [List.getElem?_toArray, List.getElem?_cons_zero, List.getElem?_cons_succ] at q0 q1 q2
            have HK := Lib.hid (FINB.out w8 _ hW8 (((((Keep.refl w8 (B + 1)).set 0 (.slice none 0 0)).set 1 (.int .i64 k)).set 2 (.int .i64 2))))
            have SC2 := Lib.hid (SC.out.trans hs.symm)
            clear hq hs hW8
            go_wp2_with fail
            refine bodyPost_ret (v := .agg #[.slice none 0 0, .int .i64 k, .int .i64 2]) (by simp [results, Try.results11, go_sem, q0, q1, q2]) rfl ⟨by rw [hB]; exact HK.out, ?_⟩
            rw [SC2.out]
            exact .inr ⟨rfl, rfl⟩
        · obtain rfl : c = n := by omega
          have hs := HS.out
          rw [hh, if_neg (by decide)] at hs
          have HLE := Lib.hid (show leB y 4562146422526312448 = leB N.2 4562146422526312448 by rw [← YN.out]; exact (leB_canon y 4562146422526312448).symm)
          have hW8 : Below H W2 wr := HBL.out.trans ((HB6.out.trans (hb7.mono hs6')).mono hbs)
          have HW8 := Lib.hid hW8
          have HGV := Lib.hid (HGN.out.below hb7)
          have HS2 := Lib.hid hs
          clear hs hh hb7 hW8
          cases hle : leB y 4562146422526312448 with
          | true =>
            have hs := HS2.out
            rw [← HLE.out, hle, if_pos rfl] at hs
            have hq := RES.out wr HW8.out
            have NB := Lib.hid (no_flt hq HGV.out h1)
            have q0 := at_block hq 0
            have q1 := at_block hq 1
            have q2 := at_block hq 2
            have f0 := free_block hq 0
            have f1 := free_block hq 1
            have f2 := free_block hq 2
            simp only [List.getElem?_toArray, List.getElem?_cons_zero, List.getElem?_cons_succ] at q0 q1 q2
            have hkp := (((Keep.refl wr (B + 1)).set 0 (.slice pd c cd)).set 1 (.int .i64 k)).set 2 (.int .i64 0)
            have HK := Lib.hid (FINB.out wr _ HW8.out hkp)
            have HGK := Lib.hid (HGV.out.kept hkp NB.out)
            have SC2 := Lib.hid (SC.out.trans hs.symm)
            clear hq hs hkp
            go_wp2_with fail
            refine bodyPost_ret (v := .agg #[.slice pd c cd, .int .i64 k, .int .i64 0]) (by simp [results, Try.results11, go_sem, q0, q1, q2]) rfl ⟨by rw [hB]; exact HK.out, ?_⟩
            rw [SC2.out]
            exact .inl ⟨rfl, _, rfl, HGK.out⟩
          | false =>
            have hs := HS2.out
            rw [← HLE.out, hle, if_neg (by decide)] at hs
            by_cases hk5 : k = 4
            · subst hk5
              rw [if_pos (by omega)] at hs
              have hq := RES.out wr HW8.out
              have q0 := at_block hq 0
              have q1 := at_block hq 1
              have q2 := at_block hq 2
              have f0 := free_block hq 0
              have f1 := free_block hq 1
              have f2 := free_block hq 2
              simp only [List.getElem?_toArray, List.getElem?_cons_zero, List.getElem?_cons_succ] at q0 q1 q2
              have HK := Lib.hid (FINB.out wr _ HW8.out ((((Keep.refl wr (B + 1)).set 0 (.slice none 0 0)).set 1 (.int .i64 4)).set 2 (.int .i64 6)))
              have SC2 := Lib.hid (SC.out.trans hs.symm)
              clear hq hs
              go_wp2_with fail
              refine bodyPost_ret (v := .agg #[.slice none 0 0, .int .i64 4, .int .i64 6]) (by simp [results, Try.results11, go_sem, q0, q1, q2]) rfl ⟨by rw [hB]; exact HK.out, ?_⟩
              rw [SC2.out]
              exact .inr ⟨rfl, rfl⟩
            · rw [if_neg (by omega)] at hs
              have HS3 := Lib.hid hs
              have hk4' : ((k : Int) == 4) = false := by simp; omega
              clear hs
              go_wp2_with fail
              go_roundw
              case rel => exact ⟨k + 1, _, by omega, by omega, by go_num, HGV.out, by rw [show 5 - (k + 1) = k' by omega]; exact HS3.out, HW8.out⟩
              case measure => simp [intOf]; omega
end Go.Proofs.Ytnlbafjmbamoeaa
