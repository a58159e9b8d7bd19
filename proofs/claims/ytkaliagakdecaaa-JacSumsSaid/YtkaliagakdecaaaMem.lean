/-
  The runner beside Go's machine: what a call was found to tell, remembered, for a longer run.
-/
import Derived.Test.YtkaliagakdecaaaGl
namespace Go.Proofs.Ytkaliagakdecaaa.Ex
open Go
variable {P : Program} {V : Val}

/-- What a call tells, of just these, from just these blocks. -/
structure Memo where
  args : List SV
  hp : List (Nat × Blk)
  nx : Nat
  v : SV
  hp' : List (Nat × Blk)
  nx' : Nat
def tOf : List (Nat × Blk) → T Blk
  | [] => .nil
  | (b, x) :: l => (tOf l).put b (some x)
def lowH : List (Nat × Blk) → Bool
  | [] => true
  | (b, _) :: l => Nat.blt b T.most && lowH l
def subH (hp : T Blk) : List (Nat × Blk) → Bool
  | [] => true
  | (b, x) :: l => (match hp.get b with
    | some y => decide (x = y)
    | none => false) && subH hp l
def memoF : List Memo → Ctr1
  | [] => fun _ _ _ => none
  | m :: l => fun args hp nx => bif Nat.beq nx m.nx && (decide (args = m.args) && subH hp m.hp) then some (m.v, tOf m.hp', m.nx') else memoF l args hp nx
def memoOK (m : Memo) : Res (SV × T Blk × Nat) → Bool
  | .ok (v, hp, nx') => (lowH m.hp && lowH m.hp') && (decide (v = m.v) && (Nat.beq nx' m.nx' && subH hp m.hp'))
  | _ => false
theorem tOf_ok : ∀ {l : List (Nat × Blk)}, lowH l = true → ∀ {b : Nat} {x : Blk}, (tOf l).get b = some x → (b, x) ∈ l
  | [], _, b, x, h => by cases h
  | (c, y) :: l, hl, b, x, h => by
    unfold lowH at hl
    rw [Bool.and_eq_true] at hl
    unfold tOf at h
    by_cases hc : c = b
    · subst hc
      rw [T.get_put (Nat.le_of_ble_eq_true hl.1)] at h
      simp only [Option.some.injEq] at h
      subst h
      simp
    · rw [T.get_put_ne (Ne.symm hc)] at h
      exact List.mem_cons_of_mem _ (tOf_ok hl.2 h)
theorem subH_ok {hp : T Blk} : ∀ {l : List (Nat × Blk)}, subH hp l = true → ∀ {b : Nat} {x : Blk}, (b, x) ∈ l → hp.get b = some x
  | [], _, _, _, h => by cases h
  | (c, y) :: l, hl, b, x, h => by
    unfold subH at hl
    rw [Bool.and_eq_true] at hl
    rcases List.mem_cons.1 h with h | h
    · cases h
      have h1 := hl.1
      split at h1
      · rename_i z hz
        rw [hz, of_decide_eq_true h1]
      · cases h1
    · exact subH_ok hl.2 h
theorem owns_sub {ρ : Rho} {G H : HG} (h : ∀ b x, H b = some x → G b = some x) {k : Nat} (ho : Owns ρ H k) : Owns ρ G k := by
  obtain ⟨b, q, h1, h2, h3⟩ := ho
  cases e : H b with
  | none => exact absurd e h1
  | some x => exact ⟨b, q, by rw [h b x e]; simp, h2, h3⟩
theorem memo_holds {call : Callee} (hcall : CallOK P V call) {f : Nat} : ∀ {ms : List Memo}, (∀ m ∈ ms, memoOK m (call f m.args (tOf m.hp) m.nx) = true) → HoldsC P V f (memoF ms)
  | [], _ => fun args hp nx v hp' nx' h => by cases h
  | m :: ms, hms => by
    intro args hp nx v hp' nx' h
    have hm := hms m (by simp)
    unfold memoF at h
    cases hc : (Nat.beq nx m.nx && (decide (args = m.args) && subH hp m.hp)) <;> rw [hc] at h
    · exact memo_holds hcall (ms := ms) (fun x hx => hms x (List.mem_cons_of_mem _ hx)) args hp nx v hp' nx' (by simpa using h)
    · simp only [cond_true, Option.some.injEq, Prod.mk.injEq] at h
      obtain ⟨rfl, rfl, rfl⟩ := h
      simp only [Bool.and_eq_true, decide_eq_true_eq] at hc
      obtain ⟨c1, rfl, c3⟩ := hc
      have c1 := Nat.eq_of_beq_eq_true c1
      subst c1
      unfold memoOK at hm
      split at hm
      · rename_i v0 hp0 n0 he
        simp only [Bool.and_eq_true, decide_eq_true_eq] at hm
        obtain ⟨⟨l1, l2⟩, rfl, hn, hs⟩ := hm
        have hn := Nat.eq_of_beq_eq_true hn
        subst hn
        obtain ⟨-, g2, g3⟩ := hcall _ _ _ _ _ _ _ he
        refine ⟨g2, fun ρ vs w ha hr hf => ?_⟩
        have s1 : ∀ b x, (tOf m.hp).get b = some x → hp.get b = some x := fun b x hb => subH_ok c3 (tOf_ok l1 hb)
        have s2 : ∀ b x, (tOf m.hp').get b = some x → hp0.get b = some x := fun b x hb => subH_ok hs (tOf_ok l2 hb)
        refine (g3 ρ vs w ha (hr.sub s1) hf).mono fun e w' ⟨rv, ρ', hrv, hst⟩ => ⟨rv, ρ', hrv, ?_⟩
        exact { hst with hr := hst.hr.sub s2, keep := fun k hk hn => hst.keep k hk fun ho => hn (owns_sub s1 ho), own := fun k ho => (hst.own k (owns_sub s2 ho)).imp_left (owns_sub s1) }
      · cases hm
def AllM (c : Callee) (f : Nat) : List Memo → Prop
  | [] => True
  | m :: l => memoOK m (c f m.args (tOf m.hp) m.nx) = true ∧ AllM c f l
def AllMem (c : Callee) : List (Nat × List Memo) → Prop
  | [] => True
  | x :: r => AllM c x.1 x.2 ∧ AllMem c r
theorem AllM.mem {c : Callee} {f : Nat} : ∀ {l : List Memo}, AllM c f l → ∀ m ∈ l, memoOK m (c f m.args (tOf m.hp) m.nx) = true
  | [], _, m, hm => by cases hm
  | n :: l, h, m, hm => by
    rcases List.mem_cons.1 hm with rfl | hm
    · exact h.1
    · exact AllM.mem h.2 m hm
def memCtr : List (Nat × List Memo) → List (Nat × Ctr1) → List (Nat × Ctr1)
  | [], l => l
  | x :: r, l => (x.1, memoF x.2) :: memCtr r l
theorem memCtr_ok {c : Callee} (hc : CallOK P V c) {l : List (Nat × Ctr1)} (hl : CtrOK P V (ctrOf l)) : ∀ {ms : List (Nat × List Memo)}, AllMem c ms → CtrOK P V (ctrOf (memCtr ms l))
  | [], _ => hl
  | _ :: _, h => ctr_consC (memo_holds hc (AllM.mem h.1)) (memCtr_ok hc hl h.2)
/-- A law of whatever is handed in: for each shape a table of names, and what is remembered. -/
theorem run_driveM (hm : P.follows .mixedOrders = true) (hname : ∀ (f : Nat) (fn : Func), P.funcs[f]? = some fn → (fn.name == "runtime.NumGoroutine") = false) {ds : List AD} {xf : Nat → Nat → List Sc → Nat} {base : Nat} (hb : ds.length ≤ base) {k fuel n f nx0 : Nat} (hnx : ds.length ≤ nx0)
    {vs : Array Value} {w : World} (hargs : All2 (fun d v => ADOK w v d) ds vs.toList)
    (h : ∀ ks, ks ∈ shapes (ds.map AD.kind) → ∃ t g ctr, GamOK (tabV (adV ds xf) base t) g ∧ CtrOK P (tabV (adV ds xf) base t) ctr ∧ drive k (fun g => xcall P ctr g fuel n f (svs 0 ks) .nil nx0) g = true) :
    Calls P f vs w fun e w' => e = .returned (.bool true) ∧ Go.RowKit.Below w.heap.size w w' := by
  obtain ⟨ks, los, h1, h2⟩ := looks_of hargs
  obtain ⟨t, g, ctr, hgm, hctr, hd⟩ := h ks h1
  obtain ⟨g', hg', hgood⟩ := drive_ok hgm hd
  obtain ⟨c, hp, nx, e, hc⟩ := goodG_ok hg' hgood
  have hl := looks_len h2
  have hkl : ks.length = ds.length := by rw [shapes_len h1]; simp
  have ha := svs_args (tabV_like (adV ds xf) base t) (ρ := rhoL los) 0 (fun i hi => if_pos (by omega)) (looks_args (xf := xf) 0 (fun i => by rw [Nat.zero_add]) (fun i => by rw [Nat.zero_add]) h2)
  have hlaid : Laid (tabV (adV ds xf) base t) (rhoL los) w := looks_laid (xf := xf) h2
  refine ((xcall_ok hm hname hg' hctr fuel n f (svs 0 ks) .nil nx0 _ hp nx e).2.2 (rhoL los) vs w ha (hr_laid hlaid) fun b hb _ => ?_).mono fun e w' ⟨rv, ρ', he, hst⟩ => ?_
  · unfold rhoL
    rw [List.getElem?_eq_none (by omega)]
  · have : rv = .bool true := hc _ _ hst.val
    subst this
    exact ⟨he, below_of hst⟩
end Go.Proofs.Ytkaliagakdecaaa.Ex
