/-
  The runner beside Go's machine: for laws.
-/
import Derived.Test.YtbepaoliboooaaaExp
namespace Go.Proofs.Ytbepaoliboooaaa.Ex
open Go
variable {P : Program} {V : Val}

def good : Res (SV × T Blk × Nat) → Bool
  | .ok (.c (.b true), _, _) => true
  | _ => false
theorem good_ok {r : Res (SV × T Blk × Nat)} (h : good r = true) : ∃ hp nx, r = .ok (.c (.b true), hp, nx) := by
  unfold good at h
  split at h
  · exact ⟨_, _, rfl⟩
  · cases h

def resIs (r : Res (SV × T Blk × Nat)) (v : SV) : Bool :=
  match r with
  | .ok (u, _, _) => decide (u = v)
  | _ => false
theorem resIs_ok {r : Res (SV × T Blk × Nat)} {v : SV} (h : resIs r v = true) : ∃ hp nx, r = .ok (v, hp, nx) := by
  unfold resIs at h
  split at h
  · simp only [decide_eq_true_eq] at h; subst h; exact ⟨_, _, rfl⟩
  · cases h

/-- Of what was handed in: it lies in memory. -/
def Laid (V : Val) (ρ : Rho) (w : World) : Prop := ∀ b q j, ρ b = some q → q.2.2.2 = some j → q.1 < w.heap.size ∧ ∀ (i : Nat) (v : Value), (V.arr j)[i]? = some v → w.cell? ⟨q.1, q.2.1 + i, none⟩ = some v
theorem hr_laid {w : World} {ρ : Rho} (h : Laid V ρ w) : HR V ρ (T.nil : T Blk).get w := ⟨⟨fun b blk h => by simp [T.get] at h, fun b b' q q' h => absurd rfl h⟩, fun b q j h1 h2 => ⟨h b q j h1 h2, fun ⟨_, _, h, _⟩ => h rfl⟩⟩
theorem hr_nil (w : World) : HR V (fun _ => none) (T.nil : T Blk).get w := hr_laid fun _ _ _ h => by cases h

theorem below_of {ρ ρ' : Rho} {nx nx' : Nat} {w w' : World} {v : SV} {rv : Value} {hg' : HG} (h : Step V ρ (T.nil : T Blk).get nx w v hg' nx' ρ' w' rv) : Go.RowKit.Below w.heap.size w w' :=
  ⟨h.os, h.tape, h.output, h.size, fun k hk => h.keep k hk fun ⟨_, _, h1, _⟩ => h1 rfl⟩

/-- A call whose arguments bear no addresses. -/
theorem run_any (hm : P.follows .mixedOrders = true) (hname : ∀ (f : Nat) (fn : Func), P.funcs[f]? = some fn → (fn.name == "runtime.NumGoroutine") = false) {g : Gam} (hgm : GamOK V g) {ctr : Ctr} (hctr : CtrOK P V ctr) {fuel n f : Nat} {args : List SV} {v : SV} {hp : T Blk} {nx : Nat}
    (h : xcall P ctr g fuel n f args .nil 0 = .ok (v, hp, nx)) {vs : Array Value} (hargs : All2 (VR V fun _ => none) args vs.toList) (w : World) :
    Calls P f vs w fun e w' => ∃ rv ρ, e = .returned rv ∧ VR V ρ v rv ∧ Go.RowKit.Below w.heap.size w w' :=
  ((xcall_ok hm hname hgm hctr fuel n f args .nil 0 v hp nx h).2.2 (fun _ => none) vs w hargs (hr_nil w) fun _ _ _ => rfl).mono fun _ _ ⟨rv, ρ', he, hst⟩ => ⟨rv, ρ', he, hst.val, below_of hst⟩

theorem run_law (hm : P.follows .mixedOrders = true) (hname : ∀ (f : Nat) (fn : Func), P.funcs[f]? = some fn → (fn.name == "runtime.NumGoroutine") = false) {g : Gam} (hgm : GamOK V g) {ctr : Ctr} (hctr : CtrOK P V ctr) {fuel n f : Nat} {args : List SV}
    (h : good (xcall P ctr g fuel n f args .nil 0) = true) {vs : Array Value} (hargs : All2 (VR V fun _ => none) args vs.toList) (w : World) :
    Calls P f vs w fun e w' => e = .returned (.bool true) ∧ Go.RowKit.Below w.heap.size w w' := by
  obtain ⟨hp, nx, e⟩ := good_ok h
  exact (run_any hm hname hgm hctr e hargs w).mono fun e w' ⟨rv, ρ, he, hv, hb⟩ => by
    have : rv = .bool true := hv
    subst this
    exact ⟨he, hb⟩

theorem run_res (hm : P.follows .mixedOrders = true) (hname : ∀ (f : Nat) (fn : Func), P.funcs[f]? = some fn → (fn.name == "runtime.NumGoroutine") = false) {g : Gam} (hgm : GamOK V g) {ctr : Ctr} (hctr : CtrOK P V ctr) {fuel n f : Nat} {args : List SV} {v : SV}
    (h : resIs (xcall P ctr g fuel n f args .nil 0) v = true) {vs : Array Value} (hargs : All2 (VR V fun _ => none) args vs.toList) (w : World) :
    Calls P f vs w fun e w' => ∃ rv ρ, e = .returned rv ∧ VR V ρ v rv ∧ Go.RowKit.Below w.heap.size w w' := by
  obtain ⟨hp, nx, e⟩ := resIs_ok h
  exact run_any hm hname hgm hctr e hargs w

def namesOk (P : Program) : Bool := P.funcs.all fun fn => !(fn.name == "runtime.NumGoroutine")
theorem names_of (h : namesOk P = true) : ∀ (f : Nat) (fn : Func), P.funcs[f]? = some fn → (fn.name == "runtime.NumGoroutine") = false := fun f fn hf => by
  unfold namesOk at h
  rw [Array.all_eq_true_iff_forall_mem] at h
  have := h fn (Array.mem_of_getElem? hf)
  simpa using this

theorem gam_nil : GamOK V .nil := ⟨(fun _ _ h => by cases h), dok_none⟩
theorem gam_of {l : List (E × Bool)} (h : LOK V l) : GamOK V (.of l) := ⟨h, dok_none⟩

/-! ### Contracts by a list -/
abbrev Ctr1 := List SV → T Blk → Nat → Option (SV × T Blk × Nat)
/-- A contract that has nothing to do with blocks. -/
def pureC (G : List SV → Option SV) : Ctr1 := fun args hp nx => (G args).map fun v => (v, hp, nx)
def ctrOf : List (Nat × Ctr1) → Ctr
  | [], _ => none
  | (f, G) :: l, x => bif Nat.beq f x then some G else ctrOf l x
def Holds (P : Program) (V : Val) (f : Nat) (G : List SV → Option SV) : Prop := ∀ args v, G args = some v → ∀ (ρ : Rho) (vs : Array Value) (w : World), All2 (VR V ρ) args vs.toList → Calls P f vs w fun e w' => ∃ rv, e = .returned rv ∧ VR V ρ v rv ∧ Go.RowKit.Below w.heap.size w w'
def HoldsC (P : Program) (V : Val) (f : Nat) (G : Ctr1) : Prop := ∀ args hp nx v hp' nx', G args hp nx = some (v, hp', nx') → nx ≤ nx' ∧
  ∀ (ρ : Rho) (vs : Array Value) (w : World), All2 (VR V ρ) args vs.toList → HR V ρ hp.get w → (∀ b, nx ≤ b → b < nx' → ρ b = none) → Calls P f vs w fun e w' => ∃ rv ρ', e = .returned rv ∧ Step V ρ hp.get nx w v hp'.get nx' ρ' w' rv
theorem Holds.pure {f : Nat} {G : List SV → Option SV} (h : Holds P V f G) : HoldsC P V f (pureC G) := by
  intro args hp nx v hp' nx' hG
  unfold pureC at hG
  cases hv : G args with
  | none => rw [hv] at hG; cases hG
  | some u =>
    rw [hv] at hG
    simp only [Option.map_some, Option.some.injEq, Prod.mk.injEq] at hG
    obtain ⟨rfl, rfl, rfl⟩ := hG
    exact ⟨Nat.le_refl _, fun ρ vs w hargs hr _ => (h args u hv ρ vs w hargs).mono fun e w' ⟨rv, he, hv, hb⟩ => ⟨rv, ρ, he, below_step hr hv hb⟩⟩
theorem ctr_nil : CtrOK P V (ctrOf []) := fun f G args hp nx v hp' nx' h => by cases h
theorem ctr_consC {f : Nat} {G : Ctr1} {l : List (Nat × Ctr1)} (h : HoldsC P V f G) (hl : CtrOK P V (ctrOf l)) : CtrOK P V (ctrOf ((f, G) :: l)) := by
  intro f' G' args hp nx v hp' nx' hG hv
  unfold ctrOf at hG
  cases hb : Nat.beq f f' <;> rw [hb] at hG
  · exact hl f' G' args hp nx v hp' nx' hG hv
  · simp only [cond_true, Option.some.injEq] at hG
    subst hG
    have := Nat.eq_of_beq_eq_true hb
    subst this
    exact h args hp nx v hp' nx' hv
theorem ctr_cons {f : Nat} {G : List SV → Option SV} {l : List (Nat × Ctr1)} (h : Holds P V f G) (hl : CtrOK P V (ctrOf l)) : CtrOK P V (ctrOf ((f, pureC G) :: l)) := ctr_consC h.pure hl

/-! ### within, of what is known; Abs -/
def mkV (i : Nat → Int) (f : Nat → Nat) : Val := ⟨i, f, fun _ => false, fun _ _ _ => 0, fun _ _ _ => 0, fun _ _ _ => false, fun _ => #[]⟩
theorem emod_of {a n : Int} (h1 : 1 ≤ n) : (a.tmod n < 0 → a.tmod n + n = a % n) ∧ (0 ≤ a.tmod n → a.tmod n = a % n) := by
  have h2 := Int.emod_nonneg a (show n ≠ 0 by omega)
  have h3 := Int.emod_lt_of_pos a (show 0 < n by omega)
  have h4 : a.tmod n = if 0 ≤ a ∨ n ∣ a then a % n else a % n - n := by
    rw [Int.tmod_eq_emod]; split <;> simp; rw [Int.natAbs_of_nonneg (by omega)]
  rw [h4]; split <;> constructor <;> intro h <;> omega
def withinG (b : Bool) : Gam := .of [(.ic .eql (.vi 1) (.li 0), false), (.ic .lss (.ib .rem .i64 (.vi 0) (.vi 1)) (.li 0), b)]
/-- 'within' of any package, by its runs. -/
theorem within_run (hm : P.follows .mixedOrders = true) (hname : ∀ (f : Nat) (fn : Func), P.funcs[f]? = some fn → (fn.name == "runtime.NumGoroutine") = false) {f fuel k : Nat}
    (h1 : resIs (xcall P (ctrOf []) (withinG true) fuel k f [.c (.ei .i64 (.vi 0)), .c (.ei .i64 (.vi 1))] .nil 0) (.c (.ei .i64 (.ib .add .i64 (.ib .rem .i64 (.vi 0) (.vi 1)) (.vi 1)))) = true)
    (h2 : resIs (xcall P (ctrOf []) (withinG false) fuel k f [.c (.ei .i64 (.vi 0)), .c (.ei .i64 (.vi 1))] .nil 0) (.c (.ei .i64 (.ib .rem .i64 (.vi 0) (.vi 1)))) = true) :
    ∀ (a n : Int) (w : World), 1 ≤ n → n ≤ 9223372036854775807 → Calls P f #[.int .i64 a, .int .i64 n] w fun e w' => e = .returned (.int .i64 (a % n)) ∧ Go.RowKit.Below w.heap.size w w' := by
  intro a n w hn hn2
  have hargs : All2 (VR (mkV (fun i => if i = 0 then a else n) fun _ => 0) fun _ => none) [.c (.ei .i64 (.vi 0)), .c (.ei .i64 (.vi 1))] (#[.int .i64 a, .int .i64 n] : Array Value).toList := ⟨by simp [VR, CR, evI, mkV], by simp [VR, CR, evI, mkV], trivial⟩
  have hg : ∀ b, (decide (a.tmod n < 0) = b) → GamOK (mkV (fun i => if i = 0 then a else n) fun _ => 0) (withinG b) := fun b hb => gam_of fun e c hc => by
    simp only [List.mem_cons, Prod.mk.injEq, List.not_mem_nil, or_false] at hc
    rcases hc with ⟨rfl, rfl⟩ | ⟨rfl, rfl⟩
    · simp [evB, evI, icV, mkV]; omega
    · simpa [evB, evI, icV, mkV, ibV] using hb
  have hem := emod_of (a := a) hn
  have h3 := Int.emod_nonneg a (show n ≠ 0 by omega)
  have h4 := Int.emod_lt_of_pos a (show 0 < n by omega)
  by_cases hneg : a.tmod n < 0
  · refine (run_res hm hname (hg true (by simpa using hneg)) ctr_nil h1 hargs w).mono fun e w' ⟨rv, ρ, he, hv, hb⟩ => ⟨?_, hb⟩
    have : rv = .int .i64 (wrapF .i64 (a.tmod n + n)) := by simpa [VR, CR, evI, mkV, ibV] using hv
    have hw : wrapF .i64 (a.tmod n + n) = a % n := by
      rw [hem.1 hneg]
      unfold wrapF
      simp only
      rw [decide_eq_true (by omega : -9223372036854775808 ≤ a % n), decide_eq_true (by omega : a % n < 9223372036854775808)]
      rfl
    rw [he, this, hw]
  · refine (run_res hm hname (hg false (by simpa using hneg)) ctr_nil h2 hargs w).mono fun e w' ⟨rv, ρ, he, hv, hb⟩ => ⟨?_, hb⟩
    have : rv = .int .i64 (a.tmod n) := by simpa [VR, CR, evI, mkV, ibV] using hv
    rw [he, this, hem.2 (by omega)]

abbrev Tab := List (Nat × Int × Int)
def Tab.look : Tab → Nat → Int → Option Int
  | [], _, _ => none
  | (j, n, c) :: l, i, m => if j = i ∧ n = m then some c else Tab.look l i m
def TabOK (V : Val) (t : Tab) : Prop := ∀ j n c, (j, n, c) ∈ t → V.i j % n = c
theorem look_tab : ∀ {t : Tab} {i : Nat} {m c : Int}, TabOK V t → t.look i m = some c → V.i i % m = c
  | [], _, _, _, _, h => by cases h
  | (j, n, c') :: l, i, m, c, ht, h => by
    unfold Tab.look at h
    split at h
    · rename_i e
      simp only [Option.some.injEq] at h
      subst h
      obtain ⟨rfl, rfl⟩ := e
      exact ht _ _ _ (by simp)
    · exact look_tab (fun a b c hm => ht a b c (by simp [hm])) h
def withinF (t : Tab) : List SV → Option SV
  | [.c (.i .i64 a), .c (.i .i64 n)] => bif decide (1 ≤ n) && decide (n ≤ 9223372036854775807) then some (.c (.i .i64 (a % n))) else none
  | [.c (.ei .i64 (.vi j)), .c (.i .i64 n)] => bif decide (1 ≤ n) && decide (n ≤ 9223372036854775807) then (t.look j n).map fun c => .c (.i .i64 c) else none
  | _ => none
theorem within_holds {f : Nat} (hw : ∀ (a n : Int) (w : World), 1 ≤ n → n ≤ 9223372036854775807 → Calls P f #[.int .i64 a, .int .i64 n] w fun e w' => e = .returned (.int .i64 (a % n)) ∧ Go.RowKit.Below w.heap.size w w') {t : Tab} (ht : TabOK V t) : Holds P V f (withinF t) := by
  intro args v h ρ vs w hargs
  unfold withinF at h
  split at h
  · rename_i a n
    cases hc : (decide (1 ≤ n) && decide (n ≤ 9223372036854775807)) <;> rw [hc] at h
    · cases h
    · simp only [cond_true, Option.some.injEq] at h
      subst h
      simp only [Bool.and_eq_true, decide_eq_true_eq] at hc
      have hvs : vs = #[.int .i64 a, .int .i64 n] := by
        apply Array.ext'
        match hl : vs.toList, hargs with
        | [x, y], hargs => rw [show x = _ from hargs.1, show y = _ from hargs.2.1]
        | [], hargs => exact hargs.elim
        | [_], hargs => exact hargs.2.elim
        | _ :: _ :: _ :: _, hargs => exact hargs.2.2.elim
      subst hvs
      exact (hw a n w hc.1 hc.2).mono fun e w' ⟨he, hb⟩ => ⟨_, he, rfl, hb⟩
  · rename_i j n
    cases hc : (decide (1 ≤ n) && decide (n ≤ 9223372036854775807)) <;> rw [hc] at h
    · cases h
    · simp only [cond_true] at h
      cases hl : t.look j n with
      | none => rw [hl] at h; cases h
      | some c =>
        rw [hl] at h
        simp only [Option.map_some, Option.some.injEq] at h
        subst h
        simp only [Bool.and_eq_true, decide_eq_true_eq] at hc
        have hvs : vs = #[.int .i64 (V.i j), .int .i64 n] := by
          apply Array.ext'
          match hl : vs.toList, hargs with
          | [x, y], hargs => rw [show x = _ from hargs.1, show y = _ from hargs.2.1]; simp [evI]
          | [], hargs => exact hargs.elim
          | [_], hargs => exact hargs.2.elim
          | _ :: _ :: _ :: _, hargs => exact hargs.2.2.elim
        subst hvs
        exact (hw (V.i j) n w hc.1 hc.2).mono fun e w' ⟨he, hb⟩ => ⟨_, he, by rw [look_tab ht hl]; rfl, hb⟩
  · cases h

def absF : List SV → Option SV
  | [.c (.f x)] => some (.c (.f (canon x % p63)))
  | _ => none
theorem abs_FR {x y : Nat} (h : FR x y) : FR (canon x % p63) (y % p63) := by
  refine ⟨?_, Nat.lt_of_le_of_lt (Nat.mod_le _ _) h.2⟩
  rw [h.1]
  have hN : ∀ z, isN (z % p63) = isN z := fun z => by unfold isN; rw [Nat.mod_mod]
  cases hn : isN y
  · rw [canon_num hn]
  · have h1 : canon (y % p63) = nanB := by unfold canon; rw [hN, hn]; rfl
    have h2 : canon y = nanB := by unfold canon; rw [hn]; rfl
    rw [h1, h2]; decide
theorem abs_holds {f : Nat} (hw : ∀ (x : Nat) (w : World), x < 18446744073709551616 → Calls P f #[.float .f64 x] w fun e w' => e = .returned (.float .f64 (x % 9223372036854775808)) ∧ w = w') : Holds P V f absF := by
  intro args v h ρ vs w hargs
  unfold absF at h
  split at h
  · rename_i x
    simp only [Option.some.injEq] at h
    subst h
    match hl : vs.toList, hargs with
    | [z], hargs =>
      obtain ⟨y, rfl, f1⟩ := hargs.1
      have hvs : vs = #[.float .f64 y] := Array.ext' hl
      subst hvs
      exact (hw y w f1.2).mono fun e w' ⟨he, hb⟩ => ⟨_, he, ⟨_, rfl, abs_FR f1⟩, by subst hb; exact Go.RowKit.Below.refl _ _⟩
    | [], hargs => exact hargs.elim
    | _ :: _ :: _, hargs => exact hargs.2.elim
  · cases h
end Go.Proofs.Ytbepaoliboooaaa.Ex
