/-
  Stage 4: laws of whatever is handed in, by runs: what all of them need.
-/
import Derived.Test.YtlgifofnejncpaaGreatGl
import Derived.Test.YtlgifofnejncpaaGreatGj
import Derived.Test.YtlgifofnejncpaaGreatGr
import Derived.Test.YtlgifofnejncpaaGreatGp
namespace Go.Proofs.YtlgifofnejncpaaGreat
open Go.RowKit Ex

set_option maxRecDepth 1000000 in
theorem within4a : resIs (xcall Tryz.prog (ctrOf []) (withinG true) 1000 5 12 [.c (.ei .i64 (.vi 0)), .c (.ei .i64 (.vi 1))] .nil 0) (.c (.ei .i64 (.ib .add .i64 (.ib .rem .i64 (.vi 0) (.vi 1)) (.vi 1)))) = true := by kernel_rfl
set_option maxRecDepth 1000000 in
theorem within4b : resIs (xcall Tryz.prog (ctrOf []) (withinG false) 1000 5 12 [.c (.ei .i64 (.vi 0)), .c (.ei .i64 (.vi 1))] .nil 0) (.c (.ei .i64 (.ib .rem .i64 (.vi 0) (.vi 1)))) = true := by kernel_rfl
theorem within4_any : ∀ (a n : Int) (w : World), 1 ≤ n → n ≤ 9223372036854775807 → Calls Tryz.prog 12 #[.int .i64 a, .int .i64 n] w fun e w' => e = .returned (.int .i64 (a % n)) ∧ Below w.heap.size w w' := within_run mixed namesAll within4a within4b

def ctrB (t : Tab) : List (Nat × Ctr1) := [(87, pureC nextS), (31, pureC infF), (30, pureC nanF), (35, pureC absS), (20, pureC sameF), (74, pureC (ivN 20 addP)), (75, pureC (ivN 21 subP)), (76, pureC (ivN 22 mulP)), (77, pureC (ivN 23 divP)), (14, pureC makeS), (13, pureC rareS), (86, pureC magS), (40, pureC (ivN 20 addP)), (41, pureC (ivN 21 subP)), (42, pureC (ivN 22 mulP)), (43, pureC (ivN 23 divP)), (12, pureC (withinS t))]
theorem ctrB_ok {V : Val} (hM : MkV V) {t : Tab} (ht : TabOK V t) : CtrOK Tryz.prog V (ctrOf (ctrB t)) := have hW := hM.toIvV; have hV := hW.toStdV;
  ctr_cons (nextS_holds hV next_up next_down) (ctr_cons (inf_holds inf_pos inf_neg) (ctr_cons (nan_holds nan_any) (ctr_cons (absS_holds hV fun x w hx => abs_any x w hx) (ctr_cons (same_holds hV same_any) (ctr_cons (addN_holds hW) (ctr_cons (subN_holds hW) (ctr_cons (mulN_holds hW) (ctr_cons (divN_holds hW) (ctr_cons (make_holds hM) (ctr_cons (rare_holds hM) (ctr_cons (mag_holds hM) (ctr_cons (rAdd_holds hW) (ctr_cons (rSub_holds hW) (ctr_cons (rMul_holds hW) (ctr_cons (rDiv_holds hW) (ctr_cons (withinS_holds hV within4_any ht) (ctr_nil)))))))))))))))))

def knownF : List SV → Option SV
  | [] => some (.c (.b true))
  | _ => none
/-- What is said ahead of each law, once and for all. -/
theorem known_holds {f : Nat} {V : Val} (h : good (xcall Tryz.prog (ctrOf (ctrB [])) .nil 1000000 40 f [] .nil 0) = true) : Holds Tryz.prog V f knownF := by
  intro args v hv ρ vs w hargs
  unfold knownF at hv
  split at hv
  · simp only [Option.some.injEq] at hv
    subst hv
    match hl : vs.toList, hargs with
    | [], _ =>
      have : vs = #[] := Array.ext' hl
      subst this
      exact (run_law (V := adV [] mkX) mixed namesAll gam_nil (ctrB_ok (adM_ok []) (t := []) (fun _ _ _ h => by cases h)) h (vs := #[]) trivial w).mono fun e w' ⟨he, hb⟩ => ⟨_, he, rfl, hb⟩
    | _ :: _, hargs => exact hargs.elim
  · cases hv
set_option maxRecDepth 1000000 in
set_option maxHeartbeats 100000000 in
theorem known_run : good (xcall Tryz.prog (ctrOf (ctrB [])) .nil 1000000 40 6 [] .nil 0) = true := by kernel_rfl
def ctrS (t : Tab) : List (Nat × Ctr1) := (6, pureC knownF) :: ctrB t
theorem ctrS_ok {V : Val} (hV : MkV V) {t : Tab} (ht : TabOK V t) : CtrOK Tryz.prog V (ctrOf (ctrS t)) := ctr_cons (known_holds known_run) (ctrB_ok hV ht)
/-- One run, with names. -/
noncomputable def lawRunT (f nx k : Nat) (ks : List Kd) (tb : Tab) (ls : List (E × Bool)) (t : Nms) : Bool := drive k (fun g => xcall Tryz.prog (ctrOf (ctrS tb)) g 1000000 100 f (svs 0 ks) .nil nx) (.tab ls t)
theorem tabV_st {V : Val} (hV : MkV V) {base : Nat} {t : Nms} : MkV (tabV V base t) := ⟨⟨tabV_std hV.toIvV.toStdV, hV.x⟩, hV.y⟩
theorem law_ofT {ds : List AD} {f nx0 k base : Nat} (hb : ds.length ≤ base) (hnx : ds.length ≤ nx0) {l : List (Nat × Nat)} (hl : ∀ x ∈ l, 0 < x.2) {lens : List (Nat × Nat)} {vs : Array Value} {w : World} (hargs : All2 (fun d v => ADOK w v d) ds vs.toList)
    (h : ∀ ks, ks ∈ shapes (ds.map AD.kind) → ∀ tb, tb ∈ tabs l → ∀ ls, ls ∈ lensAll lens → ∃ t, tabGood base t = true ∧ lawRunT f nx0 k ks tb ls t = true) :
    Calls Tryz.prog f vs w fun e w' => e = .returned (.bool true) ∧ Below w.heap.size w w' := by
  obtain ⟨tb, h1, h2⟩ := tabs_ok (V := adV ds mkX) l hl
  obtain ⟨ls, h3, h4⟩ := lensAll_ok (adV ds mkX) lens
  exact run_driveT mixed namesAll hb (ctr := ctrOf (ctrS tb)) (xf := mkX) (fun t => ctrS_ok (tabV_st (adM_ok ds)) h2) hnx hargs fun ks hk => by
    obtain ⟨t, g1, g2⟩ := h ks hk tb h1 ls h3
    exact ⟨t, _, gam_tab (adM_ok ds).toIvV.toStdV g1 (h4 _ rfl), g2⟩
end Go.Proofs.YtlgifofnejncpaaGreat
