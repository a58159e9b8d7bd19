/-
  Stage 4: laws of whatever is handed in, by runs that remember what calls told.
-/
import Derived.Test.YtkaliagakdecaaaB4n
import Derived.Test.YtkaliagakdecaaaMem
namespace Go.Proofs.Ytkaliagakdecaaa
open Go.RowKit Ex

noncomputable def memRun (tb : Tab) (ls : List (E × Bool)) (t : Nms) : Ex.Callee := xcall Try.prog (ctrOf (ctrS tb)) (.tab ls t) 1000000 100
def mkM (a : List SV) (h : List (Nat × Blk)) (n : Nat) (v : SV) (b : Nat × Blk) (n' : Nat) : Memo := ⟨a, h, n, v, h ++ [b], n'⟩
noncomputable def mok (tb : Tab) (ls : List (E × Bool)) (t : Nms) (f : Nat) (m : Memo) : Bool := memoOK m (memRun tb ls t f m.args (tOf m.hp) m.nx)
noncomputable def lawRunM (f nx k : Nat) (ks : List Kd) (tb : Tab) (ls : List (E × Bool)) (t : Nms) (ms : List (Nat × List Memo)) : Bool := drive k (fun g => xcall Try.prog (ctrOf (memCtr ms (ctrS tb))) g 1000000 100 f (svs 0 ks) .nil nx) (.tab ls t)
theorem law_ofM {ds : List AD} {f nx0 k base : Nat} (hb : ds.length ≤ base) (hnx : ds.length ≤ nx0) {l : List (Nat × Nat)} (hl : ∀ x ∈ l, 0 < x.2) {lens : List (Nat × Nat)} {vs : Array Value} {w : World} (hargs : All2 (fun d v => ADOK w v d) ds vs.toList)
    (h : ∀ ks, ks ∈ shapes (ds.map AD.kind) → ∀ tb, tb ∈ tabs l → ∀ ls, ls ∈ lensAll lens → ∃ t, tabGood base t = true ∧ ∃ ms, AllMem (memRun [] ls t) ms ∧ lawRunM f nx0 k ks tb ls t ms = true) :
    Calls Try.prog f vs w fun e w' => e = .returned (.bool true) ∧ Below w.heap.size w w' := by
  obtain ⟨tb, h1, h2⟩ := tabs_ok (V := adV ds) l hl
  obtain ⟨ls, h3, h4⟩ := lensAll_ok (adV ds) lens
  exact run_driveM mixed namesAll hb (xf := fun _ _ _ => 0) hnx hargs fun ks hk => by
    obtain ⟨t, g1, ms, g2, g3⟩ := h ks hk tb h1 ls h3
    have hg : GamOK (tabV (adV ds) base t) (.tab ls t) := gam_tab (adV_ok ds) g1 (h4 _ rfl)
    have hc : CtrOK Try.prog (tabV (adV ds) base t) (ctrOf (ctrS tb)) := ctrS_ok (tabV_st (adV_ok ds)) h2
    have hm : Ex.CallOK Try.prog (tabV (adV ds) base t) (memRun [] ls t) := xcall_ok mixed namesAll hg (ctrS_ok (tabV_st (adV_ok ds)) (fun _ _ _ h => by cases h)) 1000000 100
    have hq := memCtr_ok hm hc g2
    exact ⟨t, .tab ls t, ctrOf (memCtr ms (ctrS tb)), hg, hq, g3⟩
end Go.Proofs.Ytkaliagakdecaaa
