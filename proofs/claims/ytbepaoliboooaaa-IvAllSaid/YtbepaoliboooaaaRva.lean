/-
  The document's from-tos, by the same names: sums, differences, products, quotients.
-/
import Derived.Test.YtbepaoliboooaaaBM2
import Derived.Test.YtbepaoliboooaaaExu
import Derived.Test.YtbepaoliboooaaaIvo
namespace Go.Proofs.Ytbepaoliboooaaa
open Go.RowKit Ex

def dnE (p : E) : E := .af 12 0 (.cf p .n0)
def upE (p : E) : E := .af 11 0 (.cf p .n0)
def out0 (p q : E) : E := .tf (.fc .leq (dnE p) (upE q)) (dnE p) (.lf 18442240474082181120)
def out1 (p q : E) : E := .tf (.fc .leq (dnE p) (upE q)) (upE q) (.lf 9218868437227405312)
def pkL (x lo : E) : E := .tf (.fc .lss x lo) x lo
def pkH (x hi : E) : E := .tf (.fc .lss hi x) x hi
def mn4 (a b c d : E) : E := pkL d (pkL c (pkL b a))
def mx4 (a b c d : E) : E := pkH d (pkH c (pkH b a))
def numE (c e w : E) : E := .tf (.fc .eql c c) e w
def ar0 (a b c d : E) : E := numE a (numE b (numE c (numE d (out0 (mn4 a b c d) (mx4 a b c d)) (.lf 18442240474082181120)) (.lf 18442240474082181120)) (.lf 18442240474082181120)) (.lf 18442240474082181120)
def ar1 (a b c d : E) : E := numE a (numE b (numE c (numE d (out1 (mn4 a b c d) (mx4 a b c d)) (.lf 9218868437227405312)) (.lf 9218868437227405312)) (.lf 9218868437227405312)) (.lf 9218868437227405312)
def isSV (v : SV) : Option SV → Bool
  | some u => decide (u = v)
  | none => false
theorem isSV_ok {v : SV} {o : Option SV} (h : isSV v o = true) : o = some v := by
  unfold isSV at h
  split at h
  · rw [of_decide_eq_true h]
  · cases h
def ctr0 : List (Nat × Ctr1) := [(45, pureC absS), (44, pureC infF), (68, pureC nextS)]
theorem ctr0_ok {V : Val} (hV : StdV V) : CtrOK Try.prog V (ctrOf ctr0) := ctr_cons (absS_holds hV fun x w hx => abs_any x w hx) (ctr_cons (inf_holds inf_pos inf_neg) (ctr_cons (nextS_holds hV next_up next_down) ctr_nil))
def ivA : List SV := [.ag [.ef (.vf 0), .ef (.vf 1)], .ag [.ef (.vf 2), .ef (.vf 3)]]
noncomputable def refRun (f : Nat) : Option SV := runM 60 (fun g => xcall Try.prog (ctrOf ctr0) g 1000000 100 f ivA .nil 0) .nil
set_option maxRecDepth 1000000 in
set_option maxHeartbeats 100000000 in
theorem rAdd_run : isSV (.ag [.ef (out0 (.fb .add (.vf 0) (.vf 2)) (.fb .add (.vf 1) (.vf 3))), .ef (out1 (.fb .add (.vf 0) (.vf 2)) (.fb .add (.vf 1) (.vf 3)))]) (refRun 32) = true := by kernel_rfl
set_option maxRecDepth 1000000 in
set_option maxHeartbeats 100000000 in
theorem rSub_run : isSV (.ag [.ef (out0 (.fb .sub (.vf 0) (.vf 3)) (.fb .sub (.vf 1) (.vf 2))), .ef (out1 (.fb .sub (.vf 0) (.vf 3)) (.fb .sub (.vf 1) (.vf 2)))]) (refRun 34) = true := by kernel_rfl
def cor (f : E → E → E → E → E) (op : BinOp) : E := f (.fb op (.vf 0) (.vf 2)) (.fb op (.vf 0) (.vf 3)) (.fb op (.vf 1) (.vf 2)) (.fb op (.vf 1) (.vf 3))
def divE (e w : E) : E := .tf (.fc .leq (.vf 2) (.lf 0)) (.tf (.fc .leq (.lf 0) (.vf 3)) w e) e
set_option maxRecDepth 1000000 in
set_option maxHeartbeats 100000000 in
theorem rMul_run : isSV (.ag [.ef (cor ar0 .mul), .ef (cor ar1 .mul)]) (refRun 36) = true := by kernel_rfl
set_option maxRecDepth 1000000 in
set_option maxHeartbeats 100000000 in
theorem rDiv_run : isSV (.ag [.ef (divE (cor ar0 .quo) (.lf 18442240474082181120)), .ef (divE (cor ar1 .quo) (.lf 9218868437227405312))]) (refRun 38) = true := by kernel_rfl

/-! ### What that is -/
section
variable {V : Val} (hV : StdV V)
include hV
theorem ev_dn (p : E) : evF V (dnE p) = downB (evF V p) := by
  show V.ff 12 0 _ = _
  rw [hV.f _ _ _ (by decide)]; exact downB_canon _
theorem ev_up (p : E) : evF V (upE p) = upB (evF V p) := by
  show V.ff 11 0 _ = _
  rw [hV.f _ _ _ (by decide)]; exact upB_canon _
theorem ev_out (p q : E) : evF V (out0 p q) = (outP (evF V p) (evF V q)).1 ∧ evF V (out1 p q) = (outP (evF V p) (evF V q)).2 := by
  have h0 : evF V (out0 p q) = bif leB (evF V (dnE p)) (evF V (upE q)) then evF V (dnE p) else 18442240474082181120 := rfl
  have h1 : evF V (out1 p q) = bif leB (evF V (dnE p)) (evF V (upE q)) then evF V (upE q) else 9218868437227405312 := rfl
  rw [h0, h1, ev_dn hV, ev_up hV]
  unfold outP
  cases leB (downB (evF V p)) (upB (evF V q)) <;> exact ⟨rfl, rfl⟩
omit hV in
theorem ev_mn (a b c d : E) : evF V (mn4 a b c d) = minL (evF V a) [evF V a, evF V b, evF V c, evF V d] := by
  have e : ∀ x lo : E, evF V (pkL x lo) = if ltB (evF V x) (evF V lo) then evF V x else evF V lo := fun x lo => by
    show (bif ltB (evF V x) (evF V lo) then evF V x else evF V lo) = _
    cases ltB (evF V x) (evF V lo) <;> rfl
  unfold mn4
  rw [e, e, e]
  simp only [minL, ite_self]
omit hV in
theorem ev_mx (a b c d : E) : evF V (mx4 a b c d) = maxL (evF V a) [evF V a, evF V b, evF V c, evF V d] := by
  have e : ∀ x hi : E, evF V (pkH x hi) = if ltB (evF V hi) (evF V x) then evF V x else evF V hi := fun x hi => by
    show (bif ltB (evF V hi) (evF V x) then evF V x else evF V hi) = _
    cases ltB (evF V hi) (evF V x) <;> rfl
  unfold mx4
  rw [e, e, e]
  simp only [maxL, ite_self]
omit hV in
theorem ev_num (c e w : E) : evF V (numE c e w) = bif isN (evF V c) then evF V w else evF V e := by
  show (bif eqB (evF V c) (evF V c) then evF V e else evF V w) = _
  rw [eqB_self]
  cases isN (evF V c) <;> rfl
theorem ev_ar (a b c d : E) : evF V (ar0 a b c d) = (aroundP (evF V a) (evF V b) (evF V c) (evF V d)).1 ∧ evF V (ar1 a b c d) = (aroundP (evF V a) (evF V b) (evF V c) (evF V d)).2 := by
  unfold ar0 ar1
  simp only [ev_num, (ev_out hV _ _).1, (ev_out hV _ _).2, ev_mn, ev_mx]
  unfold aroundP
  cases isN (evF V a) <;> cases isN (evF V b) <;> cases isN (evF V c) <;> cases isN (evF V d) <;> exact ⟨rfl, rfl⟩
end
/-- A call of it, of whatever ends. -/
theorem ref_call {f : Nat} {spec : Nat → Nat → Nat → Nat → Nat × Nat} {e0 e1 : E} (hrun : isSV (.ag [.ef e0, .ef e1]) (refRun f) = true)
    (hs : ∀ V : Val, StdV V → evF V e0 = (spec (V.f 0) (V.f 1) (V.f 2) (V.f 3)).1 ∧ evF V e1 = (spec (V.f 0) (V.f 1) (V.f 2) (V.f 3)).2) (hn : ∀ a b c d, isN (spec a b c d).1 = false ∧ isN (spec a b c d).2 = false)
    (a b c d : Nat) (ha : a < 18446744073709551616) (hb : b < 18446744073709551616) (hc : c < 18446744073709551616) (hd : d < 18446744073709551616) (w : World) :
    Calls Try.prog f #[iv a b, iv c d] w (Gives (iv (spec a b c d).1 (spec a b c d).2) w) := by
  let V : Val := stdV (fun _ => 0) (fun i => match i with | 0 => a | 1 => b | 2 => c | _ => d) (fun _ => #[])
  have hV : StdV V := stdV_ok _ _ _
  obtain ⟨g, u, hp, nx, hg, hr, hu⟩ := runM_ok (V := V) gam_nil (isSV_ok hrun)
  have hargs : All2 (VR V fun _ => none) ivA (#[iv a b, iv c d] : Array Value).toList := ⟨⟨_, rfl, ⟨a, rfl, rfl, ha⟩, ⟨b, rfl, rfl, hb⟩, trivial⟩, ⟨_, rfl, ⟨c, rfl, rfl, hc⟩, ⟨d, rfl, rfl, hd⟩, trivial⟩, trivial⟩
  refine (run_any mixed namesAll hg (ctr0_ok hV) hr hargs w).mono fun e w' ⟨rv, ρ, he, hv, hbl⟩ => ?_
  obtain ⟨x, y, rfl, hx, hy⟩ := ivE_of (a := .ef e0) (b := .ef e1) rfl rfl (hu ρ rv hv)
  obtain ⟨h0, h1⟩ := hs V hV
  rw [h0] at hx
  rw [h1] at hy
  have n := hn a b c d
  have q0 := hx.known n.1
  have q1 := hy.known n.2
  exact ⟨by rw [he, q0, q1]; rfl, hbl⟩
theorem ref_holds {V : Val} {f j : Nat} {spec : Nat → Nat → Nat → Nat → Nat × Nat} (hx0 : ∀ a b c d, V.ff j 0 [.f a, .f b, .f c, .f d] = (spec a b c d).1) (hx1 : ∀ a b c d, V.ff j 1 [.f a, .f b, .f c, .f d] = (spec a b c d).2)
    (hs : ∀ a b c d a' b' c' d', FR a a' → FR b b' → FR c c' → FR d d' → spec a b c d = spec a' b' c' d') (hl : ∀ a b c d, (spec a b c d).1 < 18446744073709551616 ∧ (spec a b c d).2 < 18446744073709551616)
    (hw : ∀ (a b c d : Nat), a < 18446744073709551616 → b < 18446744073709551616 → c < 18446744073709551616 → d < 18446744073709551616 → ∀ w : World, Calls Try.prog f #[iv a b, iv c d] w (Gives (iv (spec a b c d).1 (spec a b c d).2) w)) : Holds Try.prog V f (ivN j spec) := by
  intro args v h ρ vs w hargs
  unfold ivN at h
  split at h
  · rename_i a b c d
    split at h
    · rename_i ea eb ec ed e1 e2 e3 e4
      simp only [Option.some.injEq] at h
      subst h
      obtain ⟨u1, u2, rfl, h1, h2⟩ := args_two hargs
      obtain ⟨a', b', rfl, ha, hb⟩ := ivE_of e1 e2 h1
      obtain ⟨c', d', rfl, hc, hd⟩ := ivE_of e3 e4 h2
      have he := hs _ _ _ _ a' b' c' d' ha hb hc hd
      have hlt := hl a' b' c' d'
      refine (hw a' b' c' d' ha.2 hb.2 hc.2 hd.2 w).mono fun e w' ⟨hr, hbl⟩ => ⟨_, hr, ?_, hbl⟩
      rw [← he] at hlt ⊢
      unfold ivN2
      split
      · exact ⟨_, rfl, ⟨_, rfl, rfl, hlt.1⟩, ⟨_, rfl, rfl, hlt.2⟩, trivial⟩
      · refine ⟨_, rfl, ⟨_, rfl, ?_, hlt.1⟩, ⟨_, rfl, ?_, hlt.2⟩, trivial⟩
        · simp only [evF, evS, f4, hx0]
        · simp only [evF, evS, f4, hx1]
    · cases h
  · cases h
theorem rAdd_call (a b c d : Nat) (ha : a < 18446744073709551616) (hb : b < 18446744073709551616) (hc : c < 18446744073709551616) (hd : d < 18446744073709551616) (w : World) : Calls Try.prog 32 #[iv a b, iv c d] w (Gives (iv (addP a b c d).1 (addP a b c d).2) w) := @ref_call _ addP _ _ rAdd_run (fun _ hV => ev_out hV _ _) (fun _ _ _ _ => outP_num _ _) a b c d ha hb hc hd w
theorem rSub_call (a b c d : Nat) (ha : a < 18446744073709551616) (hb : b < 18446744073709551616) (hc : c < 18446744073709551616) (hd : d < 18446744073709551616) (w : World) : Calls Try.prog 34 #[iv a b, iv c d] w (Gives (iv (subP a b c d).1 (subP a b c d).2) w) := @ref_call _ subP _ _ rSub_run (fun _ hV => ev_out hV _ _) (fun _ _ _ _ => outP_num _ _) a b c d ha hb hc hd w
theorem rMul_call (a b c d : Nat) (ha : a < 18446744073709551616) (hb : b < 18446744073709551616) (hc : c < 18446744073709551616) (hd : d < 18446744073709551616) (w : World) : Calls Try.prog 36 #[iv a b, iv c d] w (Gives (iv (mulP a b c d).1 (mulP a b c d).2) w) := @ref_call _ mulP _ _ rMul_run (fun _ hV => ev_ar hV _ _ _ _) (fun _ _ _ _ => aroundP_num _ _ _ _) a b c d ha hb hc hd w
theorem rDiv_call (a b c d : Nat) (ha : a < 18446744073709551616) (hb : b < 18446744073709551616) (hc : c < 18446744073709551616) (hd : d < 18446744073709551616) (w : World) : Calls Try.prog 38 #[iv a b, iv c d] w (Gives (iv (divP a b c d).1 (divP a b c d).2) w) := @ref_call _ divP _ _ rDiv_run (fun V hV => by
  have h := ev_ar hV (.fb .quo (.vf 0) (.vf 2)) (.fb .quo (.vf 0) (.vf 3)) (.fb .quo (.vf 1) (.vf 2)) (.fb .quo (.vf 1) (.vf 3))
  have d : ∀ e w : E, evF V (divE e w) = bif leB (V.f 2) 0 then (bif leB 0 (V.f 3) then evF V w else evF V e) else evF V e := fun _ _ => rfl
  rw [d, d]
  unfold cor
  rw [h.1, h.2]
  unfold divP
  cases leB (V.f 2) 0 <;> cases leB 0 (V.f 3) <;> exact ⟨rfl, rfl⟩) divP_num a b c d ha hb hc hd w
theorem rAdd_holds {V : Val} (hV : IvV V) : Holds Try.prog V 32 (ivN 20 addP) := ref_holds (fun _ _ _ _ => by rw [hV.x _ _ _ (by decide) (by decide)]; rfl) (fun _ _ _ _ => by rw [hV.x _ _ _ (by decide) (by decide)]; rfl) addP_FR addP_lt rAdd_call
theorem rSub_holds {V : Val} (hV : IvV V) : Holds Try.prog V 34 (ivN 21 subP) := ref_holds (fun _ _ _ _ => by rw [hV.x _ _ _ (by decide) (by decide)]; rfl) (fun _ _ _ _ => by rw [hV.x _ _ _ (by decide) (by decide)]; rfl) subP_FR subP_lt rSub_call
theorem rMul_holds {V : Val} (hV : IvV V) : Holds Try.prog V 36 (ivN 22 mulP) := ref_holds (fun _ _ _ _ => by rw [hV.x _ _ _ (by decide) (by decide)]; rfl) (fun _ _ _ _ => by rw [hV.x _ _ _ (by decide) (by decide)]; rfl) mulP_FR mulP_lt rMul_call
theorem rDiv_holds {V : Val} (hV : IvV V) : Holds Try.prog V 38 (ivN 23 divP) := ref_holds (fun _ _ _ _ => by rw [hV.x _ _ _ (by decide) (by decide)]; rfl) (fun _ _ _ _ => by rw [hV.x _ _ _ (by decide) (by decide)]; rfl) divP_FR divP_lt rDiv_call
end Go.Proofs.Ytbepaoliboooaaa
