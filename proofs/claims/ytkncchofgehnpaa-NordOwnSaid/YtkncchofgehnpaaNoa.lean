/-
  Stage 8: what is said of few cases, by running them: what all of them need.
-/
import Derived.Test.YtkncchofgehnpaaExr
import Derived.Test.YtkncchofgehnpaaRows
import Derived.Test.YtkncchofgehnpaaFpc
import Derived.KernelRfl
namespace Go.Proofs.Ytkncchofgehnpaa
open Go.RowKit Ex

theorem mixed : Try.prog.follows .mixedOrders = true := Try.checked.mixed
theorem namesGood : namesOk Try.prog = true := by kernel_rfl
theorem namesAll : ∀ (f : Nat) (fn : Func), Try.prog.funcs[f]? = some fn → (fn.name == "runtime.NumGoroutine") = false := names_of namesGood

set_option maxRecDepth 1000000 in
theorem within1 : resIs (xcall Try.prog (ctrOf []) (withinG true) 1000 5 14 [.c (.ei .i64 (.vi 0)), .c (.ei .i64 (.vi 1))] .nil 0) (.c (.ei .i64 (.ib .add .i64 (.ib .rem .i64 (.vi 0) (.vi 1)) (.vi 1)))) = true := by kernel_rfl
set_option maxRecDepth 1000000 in
theorem within2 : resIs (xcall Try.prog (ctrOf []) (withinG false) 1000 5 14 [.c (.ei .i64 (.vi 0)), .c (.ei .i64 (.vi 1))] .nil 0) (.c (.ei .i64 (.ib .rem .i64 (.vi 0) (.vi 1)))) = true := by kernel_rfl

def ctr (t : Tab) : Ctr := ctrOf [(60, pureC ldexpF), (14, pureC (withinF t))]
theorem ctr_ok {V : Val} {t : Tab} (ht : TabOK V t) : CtrOK Try.prog V (ctr t) :=
  ctr_cons (ldexp_holds fun x k w hx h1 h2 => mldexp_any x k w hx h1 h2) (ctr_cons (within_holds (within_run mixed namesAll within1 within2) ht) ctr_nil)

/-- A law of whole numbers, of which as much as is asked is known. -/
theorem law_run {f : Nat} {t : Tab} {V : Val} (ht : TabOK V t) {args : List SV} (h : good (xcall Try.prog (ctr t) [] 1000000 40 f args .nil 0) = true) {vs : Array Value} (hargs : All2 (VR V fun _ => none) args vs.toList) (w : World) :
    Calls Try.prog f vs w fun e w' => e = .returned (.bool true) ∧ Below w.heap.size w w' :=
  run_law mixed namesAll gam_nil (ctr_ok ht) h hargs w

def knownF : List SV → Option SV
  | [] => some (.c (.b true))
  | _ => none
/-- What is said ahead of each law, once and for all. -/
theorem known_holds {f : Nat} {V : Val} (h : good (xcall Try.prog (ctr []) [] 1000000 40 f [] .nil 0) = true) : Holds Try.prog V f knownF := by
  intro args v hv ρ vs w hargs
  unfold knownF at hv
  split at hv
  · simp only [Option.some.injEq] at hv
    subst hv
    match hl : vs.toList, hargs with
    | [], _ =>
      have : vs = #[] := Array.ext' hl
      subst this
      exact (law_run (V := V) (t := []) (fun _ _ _ h => by cases h) h (vs := #[]) trivial w).mono fun e w' ⟨he, hb⟩ => ⟨_, he, rfl, hb⟩
    | _ :: _, hargs => exact hargs.elim
  · cases hv
def ctrK (k : Nat) (t : Tab) : Ctr := ctrOf [(k, pureC knownF), (60, pureC ldexpF), (14, pureC (withinF t))]
theorem ctrK_ok {k : Nat} (hk : good (xcall Try.prog (ctr []) [] 1000000 40 k [] .nil 0) = true) {V : Val} {t : Tab} (ht : TabOK V t) : CtrOK Try.prog V (ctrK k t) :=
  ctr_cons (known_holds hk) (ctr_ok ht)
theorem law_runK {k : Nat} (hk : good (xcall Try.prog (ctr []) [] 1000000 40 k [] .nil 0) = true) {f : Nat} {t : Tab} {V : Val} (ht : TabOK V t) {args : List SV} (h : good (xcall Try.prog (ctrK k t) [] 1000000 40 f args .nil 0) = true) {vs : Array Value} (hargs : All2 (VR V fun _ => none) args vs.toList) (w : World) :
    Calls Try.prog f vs w fun e w' => e = .returned (.bool true) ∧ Below w.heap.size w w' :=
  run_law mixed namesAll gam_nil (ctrK_ok hk ht) h hargs w

theorem emod_cases (a : Int) (n : Nat) (hn : 0 < n) : ∃ k, k < n ∧ a % (n : Int) = (k : Int) :=
  ⟨(a % (n : Int)).toNat, by have := Int.emod_lt_of_pos a (show (0 : Int) < n by omega); have := Int.emod_nonneg a (show (n : Int) ≠ 0 by omega); omega, by have := Int.emod_nonneg a (show (n : Int) ≠ 0 by omega); omega⟩

def V3 (a b c : Int) : Val := mkV (fun i => if i = 0 then a else if i = 1 then b else c) fun _ => 0

theorem tab1 {V : Val} {n c : Int} (h : V.i 0 % n = c) : TabOK V [(0, n, c)] := fun j n' c' hm => by
  simp only [List.mem_cons, Prod.mk.injEq, List.not_mem_nil, or_false] at hm
  obtain ⟨rfl, rfl, rfl⟩ := hm
  exact h
theorem tab2 {V : Val} {n c n2 c2 : Int} (h : V.i 0 % n = c) (h2 : V.i 1 % n2 = c2) : TabOK V [(0, n, c), (1, n2, c2)] := fun j n' c' hm => by
  simp only [List.mem_cons, Prod.mk.injEq, List.not_mem_nil, or_false] at hm
  rcases hm with ⟨rfl, rfl, rfl⟩ | ⟨rfl, rfl, rfl⟩
  · exact h
  · exact h2
end Go.Proofs.Ytkncchofgehnpaa
