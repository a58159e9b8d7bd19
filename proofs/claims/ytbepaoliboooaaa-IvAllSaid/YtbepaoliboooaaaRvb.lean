/-
  The document's bound of e to the x; rare numbers by their name; all that iv and the document tell, by the same names.
-/
import Derived.Test.YtbepaoliboooaaaRva
namespace Go.Proofs.Ytbepaoliboooaaa
open Go.RowKit Ex

def partE (j : Nat) : E := .af 23 j (f4 (.vf 0) (.vf 0) (.lf 4652218415073722368) (.lf 4652218415073722368))
def lessE (j : Nat) : E := .af 21 j (f4 (.lf 4607182418800017408) (.lf 4607182418800017408) (partE 0) (partE 1))
def invE (j : Nat) : E := .af 23 j (f4 (.lf 4607182418800017408) (.lf 4607182418800017408) (lessE 0) (lessE 1))
def sqE : Nat → Nat → E
  | 0, j => invE j
  | k + 1, j => .af 35 j (.cf (sqE k 0) (.cf (sqE k 1) .n0))
def expE : E := .tf (.fc .eql (.vf 0) (.vf 0)) (.tf (.fc .leq (.lf 4647714815446351872) (.vf 0)) (.lf 9218868437227405312) (sqE 10 1)) (.lf 9218868437227405312)
def sqX : Nat → Nat → List Sc → Nat
  | 35, 0, [.f a, .f b] => (mulP a b a b).1
  | 35, 1, [.f a, .f b] => (mulP a b a b).2
  | j, i, args => if j < 20 then stdF j i args else ivX j i args
def expV (x : Nat) : Val := ⟨fun _ => 0, fun _ => x, fun _ => false, stdI, sqX, stdB, fun _ => #[]⟩
theorem expV_ok (x : Nat) : IvV (expV x) := by
  refine ⟨⟨fun _ _ _ _ => rfl, fun j i args h => ?_, fun _ _ _ _ => rfl⟩, fun j i args h h2 => ?_⟩
  · show sqX j i args = _
    unfold sqX
    split <;> first | omega | exact if_pos h
  · show sqX j i args = _
    unfold sqX
    split <;> first | omega | exact if_neg (by omega)
def sqS : List SV → Option SV
  | [.ag [a, b], .ag [c, d]] => if a = c ∧ b = d then (match a.toF, b.toF with
    | some a, some b => some (.ag [.ef (.af 35 0 (.cf a (.cf b .n0))), .ef (.af 35 1 (.cf a (.cf b .n0)))])
    | _, _ => none) else none
  | _ => none
theorem sqS_holds (x : Nat) : Holds Try.prog (expV x) 36 sqS := by
  intro args v h ρ vs w hargs
  unfold sqS at h
  split at h
  · rename_i a b c d
    split at h
    · rename_i hab
      obtain ⟨rfl, rfl⟩ := hab
      split at h
      · rename_i ea eb e1 e2
        simp only [Option.some.injEq] at h
        subst h
        obtain ⟨u1, u2, rfl, h1, h2⟩ := args_two hargs
        obtain ⟨a', b', rfl, ha, hb⟩ := ivE_of e1 e2 h1
        obtain ⟨c', d', rfl, hc, hd⟩ := ivE_of e1 e2 h2
        have he := mulP_FR _ _ _ _ a' b' c' d' ha hb hc hd
        have hlt := mulP_lt a' b' c' d'
        refine (rMul_call a' b' c' d' ha.2 hb.2 hc.2 hd.2 w).mono fun e w' ⟨hr, hbl⟩ => ⟨_, hr, ?_, hbl⟩
        rw [← he] at hlt ⊢
        exact ⟨_, rfl, ⟨_, rfl, rfl, hlt.1⟩, ⟨_, rfl, rfl, hlt.2⟩, trivial⟩
      · cases h
    · cases h
  · cases h
def ctrE : List (Nat × Ctr1) := [(44, pureC infF), (34, pureC (ivN 21 subP)), (38, pureC (ivN 23 divP)), (36, pureC sqS)]
theorem ctrE_ok (x : Nat) : CtrOK Try.prog (expV x) (ctrOf ctrE) := ctr_cons (inf_holds inf_pos inf_neg) (ctr_cons (rSub_holds (expV_ok x)) (ctr_cons (rDiv_holds (expV_ok x)) (ctr_cons (sqS_holds x) ctr_nil)))
set_option maxRecDepth 1000000 in
set_option maxHeartbeats 100000000 in
theorem rExp_run : isSV (.c (.ef expE)) (runM 60 (fun g => xcall Try.prog (ctrOf ctrE) g 1000000 100 23 [.c (.ef (.vf 0))] .nil 0) .nil) = true := by kernel_rfl
theorem endsOf_mul' (a b c d : Nat) : endsOf (mulI a b c d) = mulP a b c d := by
  rw [show mulI a b c d = iv (mulP a b c d).1 (mulP a b c d).2 from aroundP_eq _ _ _ _, endsOf_iv]
theorem endsOf_div' (a b c d : Nat) : endsOf (divI a b c d) = divP a b c d := by rw [divP_eq, endsOf_iv]
theorem endsOf_sub' (a b c d : Nat) : endsOf (outI (cop .sub a d) (cop .sub b c)) = subP a b c d := by rw [outP_eq, endsOf_iv]; rfl
theorem ev_sq (x : Nat) : ∀ k, evF (expV x) (sqE k 0) = (sqN k (inv1 x)).1 ∧ evF (expV x) (sqE k 1) = (sqN k (inv1 x)).2
  | 0 => by
    have h : inv1 x = divP 4607182418800017408 4607182418800017408 (less1 x).1 (less1 x).2 := endsOf_div' _ _ _ _
    have g : less1 x = subP 4607182418800017408 4607182418800017408 (part x).1 (part x).2 := endsOf_sub' _ _ _ _
    have p : part x = divP x x 4652218415073722368 4652218415073722368 := endsOf_div' _ _ _ _
    show evF (expV x) (invE 0) = (inv1 x).1 ∧ evF (expV x) (invE 1) = (inv1 x).2
    rw [h, g, p]
    exact ⟨rfl, rfl⟩
  | k + 1 => by
    obtain ⟨h1, h2⟩ := ev_sq x k
    have e : sqN (k + 1) (inv1 x) = mulP (sqN k (inv1 x)).1 (sqN k (inv1 x)).2 (sqN k (inv1 x)).1 (sqN k (inv1 x)).2 := by
      show sq (sqN k (inv1 x)) = _
      unfold sq; exact endsOf_mul' _ _ _ _
    have e0 : evF (expV x) (sqE (k + 1) 0) = (mulP (evF (expV x) (sqE k 0)) (evF (expV x) (sqE k 1)) (evF (expV x) (sqE k 0)) (evF (expV x) (sqE k 1))).1 := rfl
    have e1 : evF (expV x) (sqE (k + 1) 1) = (mulP (evF (expV x) (sqE k 0)) (evF (expV x) (sqE k 1)) (evF (expV x) (sqE k 0)) (evF (expV x) (sqE k 1))).2 := rfl
    rw [e0, e1, h1, h2, e]
    exact ⟨rfl, rfl⟩
theorem sqN_num : ∀ (k : Nat) (p : Nat × Nat), k ≠ 0 → isN (sqN k p).2 = false
  | 0, _, h => absurd rfl h
  | k + 1, p, _ => by
    show isN (sq (sqN k p)).2 = false
    unfold sq
    rw [endsOf_mul']
    exact (aroundP_num _ _ _ _).2
theorem expB_num (x : Nat) : isN (expB x) = false := by
  unfold expB
  split
  · decide
  · exact sqN_num 10 _ (by decide)
theorem ev_exp (x : Nat) : evF (expV x) expE = expB x := by
  have h : evF (expV x) expE = bif eqB x x then (bif leB 4647714815446351872 x then 9218868437227405312 else evF (expV x) (sqE 10 1)) else 9218868437227405312 := rfl
  rw [h, (ev_sq x 10).2, eqB_self]
  unfold expB
  cases isN x <;> cases leB 4647714815446351872 x <;> rfl
theorem rExp_call (x : Nat) (hx : x < 18446744073709551616) (w : World) : Calls Try.prog 23 #[.float .f64 x] w (Gives (.float .f64 (expB x)) w) := by
  obtain ⟨g, u, hp, nx, hg, hr, hu⟩ := runM_ok (V := expV x) gam_nil (isSV_ok rExp_run)
  have hargs : All2 (VR (expV x) fun _ => none) [.c (.ef (.vf 0))] (#[.float .f64 x] : Array Value).toList := ⟨⟨x, rfl, rfl, hx⟩, trivial⟩
  refine (run_any mixed namesAll hg (ctrE_ok x) hr hargs w).mono fun e w' ⟨rv, ρ, he, hv, hbl⟩ => ?_
  obtain ⟨y, rfl, hy⟩ := hu ρ rv hv
  rw [ev_exp] at hy
  exact ⟨by rw [he, hy.known (expB_num x)], hbl⟩
theorem rExp_holds {V : Val} (hV : MkV V) : Holds Try.prog V 23 expS := by
  intro args v h ρ vs w hargs
  unfold expS at h
  have fr : ∀ {x y}, FR x y → FR (expB x) (expB y) := fun {x y} h => ⟨by rw [← expB_canon x, h.1, expB_canon], expB_lt _⟩
  split at h
  · rename_i x
    obtain ⟨u1, rfl, hx⟩ := args_one hargs
    split at h
    · rename_i x' he
      simp only [Option.some.injEq] at h
      subst h
      obtain ⟨y, rfl, hy⟩ := toF_ok he hx
      exact (rExp_call y hy.2 w).mono fun e w' ⟨he, hb⟩ => ⟨_, he, ⟨_, rfl, fr hy⟩, hb⟩
    · rename_i e _ he
      simp only [Option.some.injEq] at h
      subst h
      obtain ⟨y, rfl, hy⟩ := toF_ok he hx
      refine (rExp_call y hy.2 w).mono fun e' w' ⟨he, hb⟩ => ⟨_, he, ⟨_, rfl, ?_⟩, hb⟩
      have : evF V (.af 32 0 (.cf e .n0)) = expB (evF V e) := by
        show V.ff 32 0 _ = _
        rw [hV.y _ _ _ (by decide) (by decide)]; exact expB_canon _
      rw [this]; exact fr hy
    · cases h
  · cases h
def rareS : List SV → Option SV
  | [.c a] => match toI64 a with
    | some e => some (.c (.ef (.af 31 0 (.ci e .n0))))
    | none => none
  | _ => none
def numS : List SV → Option SV
  | [.c a, .c b] => match toI64 a, toI64 b with
    | some a, some b => some (.c (.ef (.af 34 0 (.ci a (.ci b .n0)))))
    | _, _ => none
  | _ => none
theorem num_holds {V : Val} (hV : MkV V) : Holds Try.prog V 24 numS := by
  intro args v h ρ vs w hargs
  unfold numS at h
  split at h
  · rename_i a b
    split at h
    · rename_i ea eb h1 h2
      simp only [Option.some.injEq] at h
      subst h
      obtain ⟨u1, u2, rfl, g1, g2⟩ := args_two hargs
      have e1 := toI64_ok h1 g1
      have e2 := toI64_ok h2 g2
      subst e1; subst e2
      refine (numB_any (evI V ea) (evI V eb) w).mono fun e' w' ⟨hr, hb⟩ => ⟨_, hr, ⟨_, rfl, ?_⟩, by subst hb; exact Below.refl _ _⟩
      have : evF V (.af 34 0 (.ci ea (.ci eb .n0))) = numB (evI V ea) (evI V eb) := by
        show V.ff 34 0 _ = _
        rw [hV.y _ _ _ (by decide) (by decide)]; rfl
      rw [this]
      obtain ⟨_, hi, _⟩ := numB_is (evI V ea) (evI V eb)
      exact ⟨rfl, hi.lt⟩
    · cases h
  · cases h
theorem rare_holds {V : Val} (hV : MkV V) : Holds Try.prog V 48 rareS := by
  intro args v h ρ vs w hargs
  unfold rareS at h
  split at h
  · rename_i a
    split at h
    · rename_i e he
      simp only [Option.some.injEq] at h
      subst h
      obtain ⟨u1, rfl, hx⟩ := args_one hargs
      have e1 := toI64_ok he hx
      subst e1
      refine (rare_any (evI V e) w).mono fun e' w' ⟨hr, hb⟩ => ⟨_, hr, ⟨_, rfl, ?_⟩, hb⟩
      have : evF V (.af 31 0 (.ci e .n0)) = rareB (evI V e % 10) := by
        show V.ff 31 0 _ = _
        rw [hV.y _ _ _ (by decide) (by decide)]; rfl
      rw [this]; exact ⟨rfl, rareB_lt _⟩
    · cases h
  · cases h
def ctrA : List (Nat × Ctr1) := [(32, pureC (ivN 20 addP)), (34, pureC (ivN 21 subP)), (36, pureC (ivN 22 mulP)), (38, pureC (ivN 23 divP)), (23, pureC expS), (48, pureC rareS), (24, pureC numS), (49, pureC sameF)] ++ ctrS
theorem ctrA_ok {V : Val} (hM : MkV V) : CtrOK Try.prog V (ctrOf ctrA) :=
  ctr_cons (rAdd_holds hM.toIvV) (ctr_cons (rSub_holds hM.toIvV) (ctr_cons (rMul_holds hM.toIvV) (ctr_cons (rDiv_holds hM.toIvV) (ctr_cons (rExp_holds hM) (ctr_cons (rare_holds hM) (ctr_cons (num_holds hM) (ctr_cons (same_holds hM.toIvV.toStdV same_any) (ctrS_ok hM))))))))
end Go.Proofs.Ytbepaoliboooaaa
