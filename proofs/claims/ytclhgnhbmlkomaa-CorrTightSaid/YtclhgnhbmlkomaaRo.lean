/-
  The methods' numbers, by runs of just these.
-/
import Derived.Test.YtclhgnhbmlkomaaB9t
import Derived.Test.YtclhgnhbmlkomaaHa
namespace Go.Proofs.Ytclhgnhbmlkomaa
open Go.RowKit Ex
open Ieee (double)

def isF : C → Bool
  | .f _ => true
  | _ => false
def unF : C → Nat
  | .f x => x
  | _ => 0
/-- A row of numbers, and that there is one. -/
def rowOut : Res (SV × T Blk × Nat) → Option (List Nat)
  | .ok (.tu [.c (.sl m 0 n _), .c (.b true)], hp, _) => match hp.get m with
    | some blk => if n ≤ blk.length then some ((blk.take n).map unF) else none
    | none => none
  | _ => none
def fltB : Res (SV × T Blk × Nat) → Bool
  | .ok (.tu [.c (.sl m 0 n _), .c (.b true)], hp, _) => match hp.get m with
    | some blk => decide (n ≤ blk.length) && (blk.take n).all isF
    | none => false
  | _ => false
theorem row_tellsO {V : Val} (hm : (Try.prog).follows .mixedOrders = true) (hname : ∀ (f : Nat) (fn : Func), (Try.prog).funcs[f]? = some fn → (fn.name == "runtime.NumGoroutine") = false) {g : Gam} (hgm : GamOK V g) {ctr : Ctr} (hctr : CtrOK Try.prog V ctr) {fuel n f k : Nat} {args : List SV} {l : List Nat}
    (h : rowOut (xcall Try.prog ctr g fuel n f args .nil 0) = some l) (hB : fltB (xcall Try.prog ctr g fuel n f args .nil 0) = true) (hl : l.length = k) (hk : k ≤ 1000) {vs : Array Value} (hargs : All2 (VR V fun _ => none) args vs.toList) (w : World) :
    Calls Try.prog f vs w fun e w' => ∃ v, e = .returned (.tuple #[v, .bool true]) ∧ FRow w' v k (fun i => canon (l.getD i 0)) ∧ Below w.heap.size w w' := by
  generalize hr : xcall Try.prog ctr g fuel n f args .nil 0 = r at *
  unfold rowOut at h
  split at h
  · rename_i m len c hp nx
    have hB2 : (match hp.get m with | some blk => decide (len ≤ blk.length) && (blk.take len).all isF | none => false) = true := hB
    cases hb : hp.get m with
    | none => rw [hb] at hB2; cases hB2
    | some blk =>
      rw [hb] at hB2 h
      simp only [Bool.and_eq_true, decide_eq_true_eq] at hB2
      obtain ⟨hle, hall⟩ := hB2
      simp only [] at h
      rw [if_pos hle] at h
      simp only [Option.some.injEq] at h
      have hlen : len = k := by rw [← hl, ← h]; simp; omega
      subst hlen
      refine ((xcall_ok hm hname hgm hctr fuel n f args .nil 0 _ hp nx hr).2.2 (fun _ => none) vs w hargs (hr_nil w) fun _ _ _ => rfl).mono fun e w' ⟨rv, ρ', he, hst⟩ => ?_
      obtain ⟨q, cs, ety, hq, hcs, hsz, hbl, hget⟩ := hst.hr.at_ m blk hb
      obtain ⟨vs', rfl, hv⟩ := hst.val
      obtain ⟨vl⟩ := vs'
      match vl, hv with
      | [a, b], hv =>
        obtain ⟨⟨q', cp, hq', rfl, -, -⟩, hb2, -⟩ := hv
        rw [hq] at hq'
        simp only [Option.some.injEq] at hq'
        subst hq'
        have hb2' : b = .bool true := hb2
        subst hb2'
        refine ⟨_, he, ⟨_, cp, rfl, by omega, fun h0 => ⟨q.1, q.2.1 + 0, rfl, ?_, fun i hi => ?_⟩⟩, below_of hst⟩
        · rcases Nat.lt_or_ge q.1 w'.heap.size with h | h
          · exact h
          · rw [Array.getElem?_eq_none h] at hcs; cases hcs
        · obtain ⟨cc, hbi⟩ : ∃ cc, blk[i]? = some cc := ⟨_, List.getElem?_eq_getElem (show i < blk.length by omega)⟩
          obtain ⟨v, hv1, hv2⟩ := hget i _ hbi
          have hti : (blk.take len)[i]? = some cc := by rw [List.getElem?_take_of_lt hi]; exact hbi
          have hf := List.all_eq_true.1 hall _ (List.mem_of_getElem? hti)
          have hli : l.getD i 0 = unF cc := by
            rw [← h, List.getD_eq_getElem?_getD, List.getElem?_map, hti]
            rfl
          show FCell w' _ _ (canon (l.getD i 0))
          rw [hli]
          cases cc with
          | f x =>
            obtain ⟨y, rfl, g1, g2⟩ := hv2
            exact ⟨y, by simp only [World.cell?, hcs]; simpa using hv1, g1.symm, g2⟩
          | _ => cases hf
  · cases h
def rowB (r : Res (SV × T Blk × Nat)) (k : Nat) : Bool := fltB r && match rowOut r with
  | some l => decide (l.length = k)
  | none => false
/-- The document's numbers of a method. -/
noncomputable def rofR (m q : Nat) : Res (SV × T Blk × Nat) := xcall Try.prog (ctrOf (ctrB [])) .nil 1000000 40 18 [.c (.i .i64 m), .c (.i .i64 q)] .nil 0
noncomputable def rofF (m q i : Nat) : Nat := canon (((rowOut (rofR m q)).getD []).getD i 0)
set_option maxRecDepth 1000000 in
set_option maxHeartbeats 100000000 in
theorem rof_runs : rowB (rofR 0 1) 2 = true ∧ rowB (rofR 0 2) 3 = true ∧ rowB (rofR 0 3) 4 = true ∧ rowB (rofR 0 4) 5 = true ∧ rowB (rofR 0 5) 6 = true ∧ rowB (rofR 1 1) 2 = true ∧ rowB (rofR 1 2) 3 = true ∧ rowB (rofR 1 3) 4 = true ∧ rowB (rofR 1 4) 5 = true := by
  refine ⟨?_, ?_, ?_, ?_, ?_, ?_, ?_, ?_, ?_⟩ <;> kernel_rfl
theorem rof_run {m q : Nat} (hm : m < 2) (h1 : 1 ≤ q) (h5 : q + m ≤ 5) : rowB (rofR m q) (q + 1) = true := by
  obtain ⟨r1, r2, r3, r4, r5, s1, s2, s3, s4⟩ := rof_runs
  have : (m = 0 ∧ (q = 1 ∨ q = 2 ∨ q = 3 ∨ q = 4 ∨ q = 5)) ∨ (m = 1 ∧ (q = 1 ∨ q = 2 ∨ q = 3 ∨ q = 4)) := by omega
  rcases this with ⟨rfl, rfl | rfl | rfl | rfl | rfl⟩ | ⟨rfl, rfl | rfl | rfl | rfl⟩
  · exact r1
  · exact r2
  · exact r3
  · exact r4
  · exact r5
  · exact s1
  · exact s2
  · exact s3
  · exact s4
/-- The document's numbers of any method that it has. -/
theorem rof_tells {m q : Nat} (hm : m < 2) (h1 : 1 ≤ q) (h5 : q + m ≤ 5) (w : World) :
    Calls Try.prog 18 #[.int .i64 m, .int .i64 q] w fun e w' => ∃ v, e = .returned (.tuple #[v, .bool true]) ∧ FRow w' v (q + 1) (rofF m q) ∧ Below w.heap.size w w' := by
  have h := rof_run hm h1 h5
  unfold rowB at h
  rw [Bool.and_eq_true] at h
  obtain ⟨hB, hl⟩ := h
  cases ho : rowOut (rofR m q) with
  | none => rw [ho] at hl; cases hl
  | some l =>
    rw [ho] at hl
    have hl' := of_decide_eq_true hl
    have e : ∀ i, rofF m q i = canon (l.getD i 0) := fun i => by unfold rofF; rw [ho, Option.getD_some]
    refine (row_tellsO (V := adV []) mixed namesAll gam_nil (ctrB_ok (adV_ok []) (t := []) (fun _ _ _ h => by cases h)) ho hB hl' (by omega) (vs := #[.int .i64 m, .int .i64 q]) ⟨rfl, rfl, trivial⟩ w).mono fun e' w' ⟨v, h1, h2, h3⟩ => ⟨v, h1, h2.congr (fun j _ => (e j).symm), h3⟩
end Go.Proofs.Ytclhgnhbmlkomaa
