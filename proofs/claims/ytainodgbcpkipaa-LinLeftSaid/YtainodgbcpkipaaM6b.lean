/-
  Stage 6: laws of whatever is handed in, by runs that remember what calls told, with what is between what.
-/
import Derived.Test.YtainodgbcpkipaaB6s
import Derived.Test.YtainodgbcpkipaaMem
import Derived.Test.YtainodgbcpkipaaBd
namespace Go.Proofs.Ytainodgbcpkipaa
open Go.RowKit Ex

noncomputable def memRun (tb : Tab) (ls : List (E × Bool)) (t : Nms) : Ex.Callee := xcall Try.prog (ctrOf (ctrS tb)) (.tab ls t) 1000000 100
noncomputable def mok (tb : Tab) (ls : List (E × Bool)) (t : Nms) (f : Nat) (m : Memo) : Bool := memoOK m (memRun tb ls t f m.args (tOf m.hp) m.nx)
noncomputable def lawRunS (f nx k : Nat) (ks : List Kd) (tb : Tab) (ls : List (E × Bool)) (t : Nms) (TS : TrS) (N : List E) (QE : QuE) (ms : List (Nat × List Memo)) : Bool := drive k (fun g => xcall Try.prog (ctrOf (memCtr ms (ctrS tb))) g 1000000 100 f (svs 0 ks) .nil nx) (.bd ls t TS N QE)
theorem law_ofS {ds : List AD} {f nx0 k base : Nat} (hb : ds.length ≤ base) (hnx : ds.length ≤ nx0) {l : List (Nat × Nat)} (hl : ∀ x ∈ l, 0 < x.2) {lens : List (Nat × Nat)} {vs : Array Value} {w : World} (hargs : All2 (fun d v => ADOK w v d) ds vs.toList)
    (h : ∀ ks, ks ∈ shapes (ds.map AD.kind) → ∀ tb, tb ∈ tabs l → ∀ ls, ls ∈ lensAll lens → ∃ t, tabGood base t = true ∧ ∃ T TS N Q QE, trisOK t [] T = true ∧ tssOK t T TS = true ∧ numsOK t N = true ∧ quasOK t [] Q = true ∧ qesOK t Q QE = true ∧ ∃ ms, AllMem (memRun tb ls t) ms ∧ lawRunS f nx0 k ks tb ls t TS N QE ms = true) :
    Calls Try.prog f vs w fun e w' => e = .returned (.bool true) ∧ Below w.heap.size w w' := by
  obtain ⟨tb, h1, h2⟩ := tabs_ok (V := adV ds ivX) l hl
  obtain ⟨ls, h3, h4⟩ := lensAll_ok (adV ds ivX) lens
  exact run_driveM mixed namesAll hb (xf := ivX) hnx hargs fun ks hk => by
    obtain ⟨t, g1, T, TS, N, Q, QE, hT, hE, hN, hQ, hR, ms, g2, g3⟩ := h ks hk tb h1 ls h3
    have hst := tabV_st (base := base) (t := t) (adI_ok ds)
    have hg : GamOK (tabV (adV ds ivX) base t) (.tab ls t) := gam_tab (adI_ok ds).toStdV g1 (h4 _ rfl)
    have hg2 : GamOK (tabV (adV ds ivX) base t) (.bd ls t TS N QE) := gam_bd (adI_ok ds).toStdV hst g1 (h4 _ rfl) hT hE hN hQ hR
    have hc : CtrOK Try.prog (tabV (adV ds ivX) base t) (ctrOf (ctrS tb)) := ctrS_ok hst h2
    have hm : Ex.CallOK Try.prog (tabV (adV ds ivX) base t) (memRun tb ls t) := xcall_ok mixed namesAll hg hc 1000000 100
    have hq := memCtr_ok hm hc g2
    exact ⟨t, .bd ls t TS N QE, ctrOf (memCtr ms (ctrS tb)), hg2, hq, g3⟩
end Go.Proofs.Ytainodgbcpkipaa
