/-
  What the laws of steps have in common.
-/
import Derived.Test.YtnlbafjmbamoeaaCw
import Derived.Test.YtnlbafjmbamoeaaMcf
import Derived.Test.YtnlbafjmbamoeaaNmk
import Derived.Test.YtnlbafjmbamoeaaLrd
import Derived.Test.YtnlbafjmbamoeaaInr
import Derived.Test.YtnlbafjmbamoeaaTmo
import Derived.Test.YtnlbafjmbamoeaaTpo
namespace Go.Proofs.Ytnlbafjmbamoeaa
open Go.RowKit
open Ieee (double)
attribute [local go_sem] alloc_drewN setCell_drewN call_bits call_frombits ord_lt ord_eq ord_gt ord_ne ord_le ord_ge eqB_self run_fadd run_fsub run_fmul run_fquo haStoreFlt takeOp pureOp readsUpon doOp run_store_fn run_store_fc run_store_slice

theorem ints_F9 {w : World} {v : Value} {zs : List Int} (h : Ints w v zs) : IntsF w v zs.length (fun i => zs.getD i 0) := by
  rcases h with ⟨o, cap, rfl, rfl⟩ | ⟨b, off, cap, rfl, hbs, hl, hc⟩
  · exact ⟨o, cap, by simp, by simp, fun h => by simp at h⟩
  · exact ⟨_, cap, rfl, hl, fun _ => ⟨b, off, rfl, hbs, hc⟩⟩
theorem lawWithin9 (a n : Int) (w : World) (h1 : 1 ≤ n) (h2 : n ≤ 9223372036854775807) :
    Calls Try.prog 6 #[.int .i64 a, .int .i64 n] w fun e w' => e = .returned (.int .i64 (a % n)) ∧ w = w' := by
  have h2' := Int.emod_nonneg a (show n ≠ 0 by omega)
  have h3 := Int.emod_lt_of_pos a (show 0 < n by omega)
  have h := emod_of_tmod (a := a) h1
  have H := Lib.hid h
  clear h
  go_enter Try.func6, Try.ntmps6
  go_wp2
  · go_ret
    refine ⟨?_, rfl⟩
    have := H.out.1 (by assumption)
    exact ret_int (by rw [this]; unfold wrap64; omega)
  · go_ret
    refine ⟨?_, rfl⟩
    exact ret_int (H.out.2 (by assumption))
/-- A step of either kind. -/
theorem corr_any (n : Nat) (T : TD) (vo vu vz vl vw : Value) (m k M : Nat) (z : Nat → Nat → Nat) (l wt : Nat → Nat) (w : World) (hx : CtxAt w n T vo vu vz vl vw m z l wt)
    (hck : checkB T = true) (hcs : ∀ i, (T.op i).c < 18446744073709551616) (hn : T.n = n) (h1 : 1 ≤ n) (h4 : n ≤ 4) (hm : 2 ≤ m) (hk : k < 43) (hM : M < 2) :
    Calls Try.prog 10 #[.agg #[.int .i64 n, vo, vu], vz, vl, .int .i64 ((2 ^ k : Nat) : Int), .int .i64 M, vw] w (SumT n (corrF T z wt (l 0) (lenF ((2 ^ k : Nat) : Int)) n (M == 1)) w) := by
  rcases (show M = 0 ∨ M = 1 by omega) with rfl | rfl
  · exact corr_adams n T vo vu vz vl vw m k z l wt w hx hck (fun i _ => hcs i) hn h1 h4 hm hk
  · exact corr_bdf n T vo vu vz vl vw m k z l wt w hx hck (fun i _ => hcs i) hn h1 h4 hm hk
/-- What is told, with a row of its own, or of none. -/
def SumV (d : Nat) (S : SumD) (w : World) (e : Ending) (w' : World) : Prop :=
  Below w.heap.size w w' ∧ ∃ (R : Nat) (p : Option Addr), e = .returned (.agg #[.slice p d d, .int .i64 S.tries, .int .i64 S.e]) ∧ FRow w' (.slice p d d) d S.d ∧ w.heap.size ≤ R ∧ (∀ k, k < 10 → R ≠ w'.heap.size + k) ∧ (0 < d → p = some ⟨R, 0, none⟩ ∧ OwnF w' w.heap.size R d d S.d)
theorem SumT.v {n : Nat} {S : SumD} {w : World} {e : Ending} {w' : World} (h : SumT n S w e w') (hn : n ≤ 4) : SumV (if S.has then n else 0) S w e w' := by
  obtain ⟨hb, h⟩ := h
  rcases h with ⟨hh, R, rfl, ho⟩ | ⟨hh, rfl⟩
  · rw [hh]
    exact ⟨hb, R, _, rfl, ho.flts (by omega), ho.lt.1, fun k _ => by have := ho.lt.2; omega, fun _ => ⟨rfl, ho⟩⟩
  · rw [hh]
    exact ⟨hb, w'.heap.size + 10, _, rfl, ⟨_, _, rfl, by simp, fun h0 => absurd h0 (by simp)⟩, by have := hb.size; omega, fun k hk => by omega, fun h0 => absurd h0 (by simp)⟩
theorem shl_step : ∀ S : Nat, S < 10 → wrap64 (2 ^ (10 + S)) = ((2 ^ (10 + S) : Nat) : Int) := by decide +kernel
/-- What a search that ended well has: so many tries' outcome. -/
def iterF (g : (Nat → Nat) → Nat → Nat) : Nat → (Nat → Nat) → Nat → Nat
  | 0, x => x
  | j + 1, x => iterF g j (g x)
theorem iterF_succ (g : (Nat → Nat) → Nat → Nat) : ∀ (j : Nat) (x : Nat → Nat), iterF g (j + 1) x = g (iterF g j x)
  | 0, _ => rfl
  | j + 1, x => by rw [iterF, iterF_succ g j (g x)]; rfl
theorem seek_has (nx : (Nat → Nat) → (Nat → Nat) × Nat) (n : Nat) : ∀ (k : Nat) (x : Nat → Nat), k ≤ 4 → (seekF nx n k x).has = true → (seekF nx n k x).e = 0 ∧ ∃ j, 1 ≤ j ∧ j ≤ k ∧ (seekF nx n k x).tries = (4 - k) + j ∧ (seekF nx n k x).d = iterF (fun y => (nx y).1) j x
  | 0, x, _, h => by unfold seekF at h; cases h
  | k + 1, x, hk, h => by
    unfold seekF at h ⊢
    split at h
    · cases h
    · rename_i h1
      rw [if_neg h1]
      split at h
      · rename_i h2
        rw [if_pos h2]
        exact ⟨rfl, 1, by omega, by omega, by show 4 - k = 4 - (k + 1) + 1; omega, rfl⟩
      · rename_i h2
        rw [if_neg h2]
        split at h
        · cases h
        · rename_i h3
          rw [if_neg h3]
          obtain ⟨a, j, b1, b2, b3, b4⟩ := seek_has nx n k (nx x).1 (by omega) h
          exact ⟨a, j + 1, by omega, by omega, by omega, b4⟩
theorem seek_not (nx : (Nat → Nat) → (Nat → Nat) × Nat) (n : Nat) : ∀ (k : Nat) (x : Nat → Nat), 1 ≤ k → k ≤ 4 → (seekF nx n k x).has = false → (seekF nx n k x).e ≠ 0 ∧ 1 ≤ (seekF nx n k x).tries ∧ (seekF nx n k x).tries ≤ 4
  | 0, x, h, _, _ => by omega
  | k + 1, x, _, hk, h => by
    unfold seekF at h ⊢
    split at h
    · rename_i h1
      rw [if_pos h1]
      exact ⟨show (2 : Int) ≠ 0 by decide, by show 1 ≤ 4 - k; omega, by show 4 - k ≤ 4; omega⟩
    · rename_i h1
      rw [if_neg h1]
      split at h
      · cases h
      · rename_i h2
        rw [if_neg h2]
        split at h
        · rename_i h3
          rw [if_pos h3]
          exact ⟨show (6 : Int) ≠ 0 by decide, show 1 ≤ 4 by decide, show 4 ≤ 4 by decide⟩
        · rename_i h3
          rw [if_neg h3]
          exact seek_not nx n k (nx x).1 (by omega) (by omega) h
end Go.Proofs.Ytnlbafjmbamoeaa
