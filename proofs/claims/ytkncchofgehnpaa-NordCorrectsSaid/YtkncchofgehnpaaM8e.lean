/-
  Stage 8: laws of whatever is handed in, by runs that know how far off rounding is.
-/
import Derived.Test.YtkncchofgehnpaaB8t
import Derived.Test.YtkncchofgehnpaaErr
namespace Go.Proofs.Ytkncchofgehnpaa
open Go.RowKit Ex
def Ex.Gam.err (l : List (E × Bool)) (t : Nms) : Gam := ⟨l, errD exD, some (nmT t)⟩
theorem gam_err {V : Val} (hV : StdV V) {base : Nat} {t : Nms} (h : tabGood base t = true) {l : List (E × Bool)} (hl : LOK (tabV V base t) l) : GamOK (tabV V base t) (.err l t) := ⟨hl, errD_ok (tabV_std hV) (dok_exact (tabV_std hV)), nm_tab V h⟩
/-- One run, with names. -/
noncomputable def lawRunE (f nx k : Nat) (ks : List Kd) (tb : Tab) (ls : List (E × Bool)) (t : Nms) : Bool := drive k (fun g => xcall Try.prog (ctrOf (ctrS tb)) g 1000000 100 f (svs 0 ks) .nil nx) (.err ls t)
theorem law_ofE {ds : List AD} {f nx0 k base : Nat} (hb : ds.length ≤ base) (hnx : ds.length ≤ nx0) {l : List (Nat × Nat)} (hl : ∀ x ∈ l, 0 < x.2) {lens : List (Nat × Nat)} {vs : Array Value} {w : World} (hargs : All2 (fun d v => ADOK w v d) ds vs.toList)
    (h : ∀ ks, ks ∈ shapes (ds.map AD.kind) → ∀ tb, tb ∈ tabs l → ∀ ls, ls ∈ lensAll lens → ∃ t, tabGood base t = true ∧ lawRunE f nx0 k ks tb ls t = true) :
    Calls Try.prog f vs w fun e w' => e = .returned (.bool true) ∧ Below w.heap.size w w' := by
  obtain ⟨tb, h1, h2⟩ := tabs_ok (V := adV ds) l hl
  obtain ⟨ls, h3, h4⟩ := lensAll_ok (adV ds) lens
  exact run_driveT mixed namesAll hb (ctr := ctrOf (ctrS tb)) (xf := fun _ _ _ => 0) (fun t => ctrS_ok (tabV_st (adV_ok ds)) h2) hnx hargs fun ks hk => by
    obtain ⟨t, g1, g2⟩ := h ks hk tb h1 ls h3
    exact ⟨t, _, gam_err (adV_ok ds) g1 (h4 _ rfl), g2⟩
end Go.Proofs.Ytkncchofgehnpaa
