/-
  The methods' numbers: what is said of few cases, by running them.
-/
import Derived.Test.YtcjeebbfgogfgaaExq
import Derived.Test.YtcjeebbfgogfgaaRows
import Derived.KernelRfl
import Derived.WalkKit
import Derived.WalkSpells
import Derived.WalkLawsBesides
import Derived.Laws.Externs
import Derived.Laws.BitsAllLaws
namespace Go.Proofs.Ytcjeebbfgogfgaa
open Go.RowKit Ex

theorem call_bits (n : Nat) (w : World) : (callFunc 32 #[.float .f64 n]).run Try.prog w = .ok (.value (.int .u64 n)) w := by
  rw [run_callFunc_extern (e := Extern.MathFloatBits.float64bits) Try.func32 (by kernel_rfl) (by kernel_rfl) (by kernel_rfl) (by kernel_rfl)]
  rfl
theorem call_frombits (n : Int) (w : World) : (callFunc 31 #[.int .u64 n]).run Try.prog w = .ok (.value (.float .f64 n.toNat)) w := by
  rw [run_callFunc_extern (e := Extern.MathFloatBits.float64frombits) Try.func31 (by kernel_rfl) (by kernel_rfl) (by kernel_rfl) (by kernel_rfl)]
  rfl
attribute [local go_sem] call_bits call_frombits
theorem ret_float {a b : Nat} (h : a = b) : Ending.returned (.float .f64 a) = .returned (.float .f64 b) := by rw [h]
theorem bits_abs {x : Nat} (hx : x < 18446744073709551616) : (bits .andNot .u64 (x : Int) 9223372036854775808).toNat = x % 9223372036854775808 := by
  have h := u64_andNot_nat x 9223372036854775808 hx (by decide)
  have e : ((9223372036854775808 : Nat) : Int) = 9223372036854775808 := rfl
  rw [← e, h, Int.toNat_natCast]
  exact Nat.and_two_pow_sub_one_eq_mod x 63
theorem abs_any (x : Nat) (w : World) (hx : x < 18446744073709551616) : Calls Try.prog 26 #[.float .f64 x] w fun e w' => e = .returned (.float .f64 (x % 9223372036854775808)) ∧ w = w' := by
  go_enter Try.func26, Try.ntmps26
  go_wp2
  go_ret
  exact ⟨ret_float (bits_abs hx), rfl⟩

theorem mixed : Try.prog.follows .mixedOrders = true := Try.checked.mixed
theorem namesGood : namesOk Try.prog = true := by kernel_rfl
theorem namesAll : ∀ (f : Nat) (fn : Func), Try.prog.funcs[f]? = some fn → (fn.name == "runtime.NumGoroutine") = false := names_of namesGood

set_option maxRecDepth 1000000 in
theorem within1 : resIs (xcall Try.prog (ctrOf []) (withinG true) 1000 5 11 [.c (.ei .i64 (.vi 0)), .c (.ei .i64 (.vi 1))] .nil 0) (.c (.ei .i64 (.ib .add .i64 (.ib .rem .i64 (.vi 0) (.vi 1)) (.vi 1)))) = true := by kernel_rfl
set_option maxRecDepth 1000000 in
theorem within2 : resIs (xcall Try.prog (ctrOf []) (withinG false) 1000 5 11 [.c (.ei .i64 (.vi 0)), .c (.ei .i64 (.vi 1))] .nil 0) (.c (.ei .i64 (.ib .rem .i64 (.vi 0) (.vi 1)))) = true := by kernel_rfl

def ctr (t : Tab) : Ctr := ctrOf [(26, absF), (11, withinF t)]
theorem ctr_ok {V : Val} {t : Tab} (ht : TabOK V t) : CtrOK Try.prog V (ctr t) :=
  ctr_cons (abs_holds fun x w hx => abs_any x w hx) (ctr_cons (within_holds (within_run mixed namesAll within1 within2) ht) ctr_nil)

/-- A law of whole numbers, of which as much as is asked is known. -/
theorem law_run {f : Nat} {t : Tab} {V : Val} (ht : TabOK V t) {args : List SV} (h : good (xcall Try.prog (ctr t) [] 1000000 40 f args .nil 0) = true) {vs : Array Value} (hargs : All2 (VR V fun _ => none) args vs.toList) (w : World) :
    Calls Try.prog f vs w fun e w' => e = .returned (.bool true) ∧ Below w.heap.size w w' :=
  run_law mixed namesAll gam_nil (ctr_ok ht) h hargs w

theorem emod_cases (a : Int) (n : Nat) (hn : 0 < n) : ∃ k, k < n ∧ a % (n : Int) = (k : Int) :=
  ⟨(a % (n : Int)).toNat, by have := Int.emod_lt_of_pos a (show (0 : Int) < n by omega); have := Int.emod_nonneg a (show (n : Int) ≠ 0 by omega); omega, by have := Int.emod_nonneg a (show (n : Int) ≠ 0 by omega); omega⟩

def V3 (a b c : Int) : Val := mkV (fun i => if i = 0 then a else if i = 1 then b else c) fun _ => 0

theorem tab1 {V : Val} {n c : Int} (h : V.i 0 % n = c) : TabOK V [(0, n, c)] := fun j n' c' hm => by
  simp only [List.mem_cons, Prod.mk.injEq, List.not_mem_nil, or_false] at hm
  obtain ⟨rfl, rfl, rfl⟩ := hm
  exact h
theorem tab2 {V : Val} {n c n2 c2 : Int} (h : V.i 0 % n = c) (h2 : V.i 1 % n2 = c2) : TabOK V [(0, n, c), (1, n2, c2)] := fun j n' c' hm => by
  simp only [List.mem_cons, Prod.mk.injEq, List.not_mem_nil, or_false] at hm
  rcases hm with ⟨rfl, rfl, rfl⟩ | ⟨rfl, rfl, rfl⟩
  · exact h
  · exact h2

/-- Either method, each of its orders. -/
noncomputable def one (f : Nat) (rest : List SV) (m q : Nat) : Bool :=
  good (xcall Try.prog (ctr [(0, 2, m), (1, ((5 - m : Nat) : Int), q)]) [] 1000000 40 f ([.c (.ei .i64 (.vi 0)), .c (.ei .i64 (.vi 1))] ++ rest) .nil 0)
theorem nine {P : Nat → Nat → Prop} (a0 : P 0 0) (a1 : P 0 1) (a2 : P 0 2) (a3 : P 0 3) (a4 : P 0 4) (b0 : P 1 0) (b1 : P 1 1) (b2 : P 1 2) (b3 : P 1 3) : ∀ m, m < 2 → ∀ q, q < 5 - m → P m q := by
  intro m hm q hq
  match m, q with
  | 0, 0 => exact a0
  | 0, 1 => exact a1
  | 0, 2 => exact a2
  | 0, 3 => exact a3
  | 0, 4 => exact a4
  | 1, 0 => exact b0
  | 1, 1 => exact b1
  | 1, 2 => exact b2
  | 1, 3 => exact b3
  | 0, n + 5 => omega
  | 1, n + 4 => omega
  | n + 2, _ => omega
theorem both_ok {f : Nat} {rest : List SV} (h : ∀ m, m < 2 → ∀ q, q < 5 - m → one f rest m q = true) (a b c : Int) {vs : Array Value} (hargs : All2 (VR (V3 a b c) fun _ => none) ([.c (.ei .i64 (.vi 0)), .c (.ei .i64 (.vi 1))] ++ rest) vs.toList) (w : World) :
    Calls Try.prog f vs w fun e w' => e = .returned (.bool true) ∧ Below w.heap.size w w' := by
  obtain ⟨m, hm, h1⟩ := emod_cases a 2 (by decide)
  obtain ⟨q, hq, h2⟩ := emod_cases b (5 - m) (by omega)
  exact law_run (V := V3 a b c) (tab2 h1 h2) (h m hm q hq) hargs w
end Go.Proofs.Ytcjeebbfgogfgaa
