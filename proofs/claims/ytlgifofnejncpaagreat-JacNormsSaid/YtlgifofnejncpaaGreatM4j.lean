/-
  Stage 4: laws of whatever is handed in, by runs that know what is a number.
-/
import Derived.Test.YtlgifofnejncpaaGreatJacNormsb
import Derived.Test.YtlgifofnejncpaaGreatMem
namespace Go.Proofs.YtlgifofnejncpaaGreat
open Go.RowKit Ex
/-- What is told ahead, way by way: each way a run of its own. -/
inductive Ex.Spl where
  | leaf
  | node (e : E) (a b : Spl)
def Ex.Spl.each (R : List (E × Bool) → Prop) : Spl → List (E × Bool) → Prop
  | .leaf, l => R l
  | .node e a b, l => a.each R ((e, true) :: l) ∧ b.each R ((e, false) :: l)
theorem Ex.Spl.each_ok {V : Val} {R : List (E × Bool) → Prop} : ∀ (s : Spl) {l : List (E × Bool)}, s.each R l → LOK V l → ∃ l', R l' ∧ LOK V l'
  | .leaf, l, h, hl => ⟨l, h, hl⟩
  | .node e a b, l, h, hl => by
    cases he : evB V e
    · exact Ex.Spl.each_ok b h.2 (lok_cons hl he)
    · exact Ex.Spl.each_ok a h.1 (lok_cons hl he)
def Ex.Gam.jn (l : List (E × Bool)) (t : Nms) : Gam := ⟨l, jnD t, some (nmT t)⟩
theorem gam_jn {V : Val} (hM : MkV V) {base : Nat} {t : Nms} (h : tabGood base t = true) {l : List (E × Bool)} (hl : LOK (tabV V base t) l) : GamOK (tabV V base t) (.jn l t) := ⟨hl, jnD_ok (tabV_st hM) (tabV_ok V h), nm_tab V h⟩
def ctrJ (tb : Tab) (t : Nms) : List (Nat × Ctr1) := (23, pureC (magR t)) :: ctrN tb
/-- One run, with names. -/
noncomputable def lawRunJ (f nx k : Nat) (ks : List Kd) (tb : Tab) (ls : List (E × Bool)) (t : Nms) : Bool := drive k (fun g => xcall Tryz.prog (ctrOf (ctrJ tb t)) g 1000000 100 f (svs 0 ks) .nil nx) (.jn ls t)
theorem law_ofJ {ds : List AD} {f nx0 k base : Nat} (hb : ds.length ≤ base) (hnx : ds.length ≤ nx0) {l : List (Nat × Nat)} (hl : ∀ x ∈ l, 0 < x.2) {lens : List (Nat × Nat)} {vs : Array Value} {w : World} (hargs : All2 (fun d v => ADOK w v d) ds vs.toList)
    (h : ∀ ks, ks ∈ shapes (ds.map AD.kind) → ∀ tb, tb ∈ tabs l → ∀ ls, ls ∈ lensAll lens → ∃ t, tabGood base t = true ∧ ∃ s : Spl, s.each (fun l' => lawRunJ f nx0 k ks tb l' t = true) ls) :
    Calls Tryz.prog f vs w fun e w' => e = .returned (.bool true) ∧ Below w.heap.size w w' := by
  obtain ⟨tb, h1, h2⟩ := tabs_ok (V := adV ds mkX) l hl
  obtain ⟨ls, h3, h4⟩ := lensAll_ok (adV ds mkX) lens
  exact run_driveM mixed namesAll hb (xf := mkX) hnx hargs fun ks hk => by
    obtain ⟨t, g1, s, g2⟩ := h ks hk tb h1 ls h3
    obtain ⟨l', g3, h5⟩ := Ex.Spl.each_ok (V := tabV (adV ds mkX) base t) s g2 (h4 _ rfl)
    have hg := gam_jn (adM_ok ds) g1 h5
    have hc : CtrOK Tryz.prog (tabV (adV ds mkX) base t) (ctrOf (ctrJ tb t)) := ctr_cons (magR_holds (tabV_st (adM_ok ds)) (tabV_ok _ g1)) (ctrN_ok (tabV_st (adM_ok ds)) h2)
    exact ⟨t, .jn l' t, ctrOf (ctrJ tb t), hg, hc, g3⟩
end Go.Proofs.YtlgifofnejncpaaGreat
