/-
  Stage 2: laws by runs, over what was found out beforehand: what all of them need.
-/
import Derived.Test.YtbepaoliboooaaaExv
import Derived.Test.YtbepaoliboooaaaFpa
import Derived.Test.YtbepaoliboooaaaIvm
namespace Go.Proofs.Ytbepaoliboooaaa
open Go.RowKit Ex

theorem mixed : Try.prog.follows .mixedOrders = true := Try.checked.mixed
theorem namesGood : namesOk Try.prog = true := by kernel_rfl
theorem namesAll : ∀ (f : Nat) (fn : Func), Try.prog.funcs[f]? = some fn → (fn.name == "runtime.NumGoroutine") = false := names_of namesGood

set_option maxRecDepth 1000000 in
theorem within2a : resIs (xcall Try.prog (ctrOf []) (withinG true) 1000 5 43 [.c (.ei .i64 (.vi 0)), .c (.ei .i64 (.vi 1))] .nil 0) (.c (.ei .i64 (.ib .add .i64 (.ib .rem .i64 (.vi 0) (.vi 1)) (.vi 1)))) = true := by kernel_rfl
set_option maxRecDepth 1000000 in
theorem within2b : resIs (xcall Try.prog (ctrOf []) (withinG false) 1000 5 43 [.c (.ei .i64 (.vi 0)), .c (.ei .i64 (.vi 1))] .nil 0) (.c (.ei .i64 (.ib .rem .i64 (.vi 0) (.vi 1)))) = true := by kernel_rfl
theorem within2r_any : ∀ (a n : Int) (w : World), 1 ≤ n → n ≤ 9223372036854775807 → Calls Try.prog 43 #[.int .i64 a, .int .i64 n] w fun e w' => e = .returned (.int .i64 (a % n)) ∧ Below w.heap.size w w' := within_run mixed namesAll within2a within2b

def ctrB : List (Nat × Ctr1) := [(17, pureC makeS), (31, pureC (ivN 20 addP)), (33, pureC (ivN 21 subP)), (35, pureC (ivN 22 mulP)), (37, pureC (ivN 23 divP)), (41, pureC magS), (22, pureC expS), (44, pureC infF), (46, pureC nanF), (45, pureC absS), (43, pureC (withinS []))]
theorem ctrB_ok {V : Val} (hM : MkV V) : CtrOK Try.prog V (ctrOf ctrB) := by
  have hW := hM.toIvV
  have hV := hW.toStdV
  have ht : TabOK V [] := fun _ _ _ h => by cases h
  exact ctr_cons (make_holds hM) (ctr_cons (addN_holds hW) (ctr_cons (subN_holds hW) (ctr_cons (mulN_holds hW) (ctr_cons (divN_holds hW) (ctr_cons (mag_holds hM) (ctr_cons (exp_holds hM) (ctr_cons (inf_holds inf_pos inf_neg) (ctr_cons (nan_holds nan_any) (ctr_cons (absS_holds hV fun x w hx => abs_any x w hx) (ctr_cons (withinS_holds hV within2r_any ht) ctr_nil))))))))))

def knownF : List SV → Option SV
  | [] => some (.c (.b true))
  | _ => none
/-- What is said ahead of each law, once and for all. -/
theorem known_holds {f : Nat} {V : Val} (h : good (xcall Try.prog (ctrOf ctrB) .nil 1000000 40 f [] .nil 0) = true) : Holds Try.prog V f knownF := by
  intro args v hv ρ vs w hargs
  unfold knownF at hv
  split at hv
  · simp only [Option.some.injEq] at hv
    subst hv
    match hl : vs.toList, hargs with
    | [], _ =>
      have : vs = #[] := Array.ext' hl
      subst this
      exact (run_law (V := adV [] mkX) mixed namesAll gam_nil (ctrB_ok (adM_ok [])) h (vs := #[]) trivial w).mono fun e w' ⟨he, hb⟩ => ⟨_, he, rfl, hb⟩
    | _ :: _, hargs => exact hargs.elim
  · cases hv
set_option maxRecDepth 1000000 in
set_option maxHeartbeats 100000000 in
theorem known_run : good (xcall Try.prog (ctrOf ctrB) .nil 1000000 40 16 [] .nil 0) = true := by kernel_rfl
def ctrS : List (Nat × Ctr1) := (16, pureC knownF) :: ctrB
theorem ctrS_ok {V : Val} (hV : MkV V) : CtrOK Try.prog V (ctrOf ctrS) := ctr_cons (known_holds known_run) (ctrB_ok hV)
/-- One run. -/
noncomputable def lawRun (f nx k : Nat) (ks : List Kd) (F : List Cf) : Bool := drive k (fun g => xcall Try.prog (ctrOf ctrS) g 1000000 100 f (svs 0 ks) .nil nx) (.cf F)
theorem law_of {ds : List AD} {f nx0 k : Nat} (hnx : ds.length ≤ nx0) {F : List Cf} (hF : CfOK (adV ds mkX) F) {vs : Array Value} {w : World} (hargs : All2 (fun d v => ADOK w v d) ds vs.toList)
    (h : ∀ ks, ks ∈ shapes (ds.map AD.kind) → lawRun f nx0 k ks F = true) :
    Calls Try.prog f vs w fun e w' => e = .returned (.bool true) ∧ Below w.heap.size w w' :=
  run_drive mixed namesAll (gam_cf (adM_ok ds).toStdV hF) (ctrS_ok (adM_ok ds)) hnx hargs fun ks hk => h ks hk
end Go.Proofs.Ytbepaoliboooaaa
