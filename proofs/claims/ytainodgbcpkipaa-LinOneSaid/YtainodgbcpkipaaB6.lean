/-
  Stage 6: laws of whatever is handed in, by runs: what all of them need.
-/
import Derived.Test.YtainodgbcpkipaaExv
import Derived.Test.YtainodgbcpkipaaFpa
namespace Go.Proofs.Ytainodgbcpkipaa
open Go.RowKit Ex

theorem mixed : Try.prog.follows .mixedOrders = true := Try.checked.mixed
theorem namesGood : namesOk Try.prog = true := by kernel_rfl
theorem namesAll : ∀ (f : Nat) (fn : Func), Try.prog.funcs[f]? = some fn → (fn.name == "runtime.NumGoroutine") = false := names_of namesGood

set_option maxRecDepth 1000000 in
theorem within6a : resIs (xcall Try.prog (ctrOf []) (withinG true) 1000 5 27 [.c (.ei .i64 (.vi 0)), .c (.ei .i64 (.vi 1))] .nil 0) (.c (.ei .i64 (.ib .add .i64 (.ib .rem .i64 (.vi 0) (.vi 1)) (.vi 1)))) = true := by kernel_rfl
set_option maxRecDepth 1000000 in
theorem within6b : resIs (xcall Try.prog (ctrOf []) (withinG false) 1000 5 27 [.c (.ei .i64 (.vi 0)), .c (.ei .i64 (.vi 1))] .nil 0) (.c (.ei .i64 (.ib .rem .i64 (.vi 0) (.vi 1)))) = true := by kernel_rfl
theorem within6_any : ∀ (a n : Int) (w : World), 1 ≤ n → n ≤ 9223372036854775807 → Calls Try.prog 27 #[.int .i64 a, .int .i64 n] w fun e w' => e = .returned (.int .i64 (a % n)) ∧ Below w.heap.size w w' := within_run mixed namesAll within6a within6b

def ctrB (t : Tab) : List (Nat × Ctr1) := [(66, pureC nextS), (50, pureC infF), (49, pureC nanF), (26, pureC absS), (46, pureC sameF), (27, pureC (withinS t))]
theorem ctrB_ok {V : Val} (hV : StdV V) {t : Tab} (ht : TabOK V t) : CtrOK Try.prog V (ctrOf (ctrB t)) :=
  ctr_cons (nextS_holds hV next_up next_down) (ctr_cons (inf_holds inf_pos inf_neg) (ctr_cons (nan_holds nan_any) (ctr_cons (absS_holds hV fun x w hx => abs_any x w hx) (ctr_cons (same_holds hV same_any) (ctr_cons (withinS_holds hV within6_any ht) (ctr_nil))))))

def knownF : List SV → Option SV
  | [] => some (.c (.b true))
  | _ => none
/-- What is said ahead of each law, once and for all. -/
theorem known_holds {f : Nat} {V : Val} (h : good (xcall Try.prog (ctrOf (ctrB [])) .nil 1000000 40 f [] .nil 0) = true) : Holds Try.prog V f knownF := by
  intro args v hv ρ vs w hargs
  unfold knownF at hv
  split at hv
  · simp only [Option.some.injEq] at hv
    subst hv
    match hl : vs.toList, hargs with
    | [], _ =>
      have : vs = #[] := Array.ext' hl
      subst this
      exact (run_law (V := adV []) mixed namesAll gam_nil (ctrB_ok (adV_ok []) (t := []) (fun _ _ _ h => by cases h)) h (vs := #[]) trivial w).mono fun e w' ⟨he, hb⟩ => ⟨_, he, rfl, hb⟩
    | _ :: _, hargs => exact hargs.elim
  · cases hv
set_option maxRecDepth 1000000 in
set_option maxHeartbeats 100000000 in
theorem known_run : good (xcall Try.prog (ctrOf (ctrB [])) .nil 1000000 40 13 [] .nil 0) = true := by kernel_rfl
def ctrS (t : Tab) : List (Nat × Ctr1) := (13, pureC knownF) :: ctrB t
theorem ctrS_ok {V : Val} (hV : StdV V) {t : Tab} (ht : TabOK V t) : CtrOK Try.prog V (ctrOf (ctrS t)) := ctr_cons (known_holds known_run) (ctrB_ok hV ht)
/-- One run. -/
noncomputable def lawRun (f nx k : Nat) (ks : List Kd) (t : Tab) : Bool := drive k (fun g => xcall Try.prog (ctrOf (ctrS t)) g 1000000 100 f (svs 0 ks) .nil nx) .ex
theorem law_of {ds : List AD} {f nx0 k : Nat} (hnx : ds.length ≤ nx0) {l : List (Nat × Nat)} (hl : ∀ x ∈ l, 0 < x.2) {vs : Array Value} {w : World} (hargs : All2 (fun d v => ADOK w v d) ds vs.toList)
    (h : ∀ ks, ks ∈ shapes (ds.map AD.kind) → ∀ t, t ∈ tabs l → lawRun f nx0 k ks t = true) :
    Calls Try.prog f vs w fun e w' => e = .returned (.bool true) ∧ Below w.heap.size w w' := by
  obtain ⟨t, h1, h2⟩ := tabs_ok (V := adV ds) l hl
  exact run_drive mixed namesAll (gam_ex (adV_ok ds)) (ctrS_ok (adV_ok ds) h2) hnx hargs fun ks hk => h ks hk t h1
end Go.Proofs.Ytainodgbcpkipaa
