/-
  Stage 9: laws of whatever is handed in, by runs: what all of them need.
-/
import Derived.Test.YtclhgnhbmlkomaaGl
import Derived.Test.YtclhgnhbmlkomaaGj
namespace Go.Proofs.Ytclhgnhbmlkomaa
open Go.RowKit Ex

set_option maxRecDepth 1000000 in
theorem within9a : resIs (xcall Try.prog (ctrOf []) (withinG true) 1000 5 16 [.c (.ei .i64 (.vi 0)), .c (.ei .i64 (.vi 1))] .nil 0) (.c (.ei .i64 (.ib .add .i64 (.ib .rem .i64 (.vi 0) (.vi 1)) (.vi 1)))) = true := by kernel_rfl
set_option maxRecDepth 1000000 in
theorem within9b : resIs (xcall Try.prog (ctrOf []) (withinG false) 1000 5 16 [.c (.ei .i64 (.vi 0)), .c (.ei .i64 (.vi 1))] .nil 0) (.c (.ei .i64 (.ib .rem .i64 (.vi 0) (.vi 1)))) = true := by kernel_rfl
theorem within9_any : ∀ (a n : Int) (w : World), 1 ≤ n → n ≤ 9223372036854775807 → Calls Try.prog 16 #[.int .i64 a, .int .i64 n] w fun e w' => e = .returned (.int .i64 (a % n)) ∧ Below w.heap.size w w' := within_run mixed namesAll within9a within9b

def ctrB (t : Tab) : List (Nat × Ctr1) := [(51, pureC infF), (50, pureC nanF), (28, pureC absS), (25, pureC sameF), (16, pureC (withinS t))]
theorem ctrB_ok {V : Val} (hV : StdV V) {t : Tab} (ht : TabOK V t) : CtrOK Try.prog V (ctrOf (ctrB t)) :=
  ctr_cons (inf_holds inf_pos inf_neg) (ctr_cons (nan_holds nan_any) (ctr_cons (absS_holds hV fun x w hx => abs_any x w hx) (ctr_cons (same_holds hV same_any) (ctr_cons (withinS_holds hV within9_any ht) (ctr_nil)))))

def knownF : List SV → Option SV
  | [] => some (.c (.b true))
  | _ => none
/-- What is said ahead of each law, once and for all. -/
theorem known_holds {f : Nat} {V : Val} (h : good (xcall Try.prog (ctrOf (ctrB [])) .nil 1000000 40 f [] .nil 0) = true) : Holds Try.prog V f knownF := by
  intro args v hv ρ vs w hargs
  unfold knownF at hv
  split at hv
  · simp only [Option.some.injEq] at hv
    subst hv
    match hl : vs.toList, hargs with
    | [], _ =>
      have : vs = #[] := Array.ext' hl
      subst this
      exact (run_law (V := adV []) mixed namesAll gam_nil (ctrB_ok (adV_ok []) (t := []) (fun _ _ _ h => by cases h)) h (vs := #[]) trivial w).mono fun e w' ⟨he, hb⟩ => ⟨_, he, rfl, hb⟩
    | _ :: _, hargs => exact hargs.elim
  · cases hv
set_option maxRecDepth 1000000 in
set_option maxHeartbeats 100000000 in
theorem known_run : good (xcall Try.prog (ctrOf (ctrB [])) .nil 1000000 40 14 [] .nil 0) = true := by kernel_rfl
def ctrS (t : Tab) : List (Nat × Ctr1) := (14, pureC knownF) :: ctrB t
theorem ctrS_ok {V : Val} (hV : StdV V) {t : Tab} (ht : TabOK V t) : CtrOK Try.prog V (ctrOf (ctrS t)) := ctr_cons (known_holds known_run) (ctrB_ok hV ht)
/-- One run, with names. -/
noncomputable def lawRunT (f nx k : Nat) (ks : List Kd) (tb : Tab) (ls : List (E × Bool)) (t : Nms) : Bool := drive k (fun g => xcall Try.prog (ctrOf (ctrS tb)) g 1000000 100 f (svs 0 ks) .nil nx) (.tab ls t)
theorem tabV_st {V : Val} (hV : StdV V) {base : Nat} {t : Nms} : StdV (tabV V base t) := tabV_std hV
theorem law_ofT {ds : List AD} {f nx0 k base : Nat} (hb : ds.length ≤ base) (hnx : ds.length ≤ nx0) {l : List (Nat × Nat)} (hl : ∀ x ∈ l, 0 < x.2) {lens : List (Nat × Nat)} {vs : Array Value} {w : World} (hargs : All2 (fun d v => ADOK w v d) ds vs.toList)
    (h : ∀ ks, ks ∈ shapes (ds.map AD.kind) → ∀ tb, tb ∈ tabs l → ∀ ls, ls ∈ lensAll lens → ∃ t, tabGood base t = true ∧ lawRunT f nx0 k ks tb ls t = true) :
    Calls Try.prog f vs w fun e w' => e = .returned (.bool true) ∧ Below w.heap.size w w' := by
  obtain ⟨tb, h1, h2⟩ := tabs_ok (V := adV ds) l hl
  obtain ⟨ls, h3, h4⟩ := lensAll_ok (adV ds) lens
  exact run_driveT mixed namesAll hb (ctr := ctrOf (ctrS tb)) (xf := fun _ _ _ => 0) (fun t => ctrS_ok (tabV_st (adV_ok ds)) h2) hnx hargs fun ks hk => by
    obtain ⟨t, g1, g2⟩ := h ks hk tb h1 ls h3
    exact ⟨t, _, gam_tab (adV_ok ds) g1 (h4 _ rfl), g2⟩
end Go.Proofs.Ytclhgnhbmlkomaa
