/-
  How far from 0 a from-to is, by the document: the same, where its ends are numbers.
-/
import Derived.Test.YtlgifofnejncpaaGreatJacNormsa
namespace Go.Proofs.YtlgifofnejncpaaGreat
open Go.RowKit Ex
def abE (e : E) : E := .af 10 0 (.cf e .n0)
noncomputable def refRun1 (f : Nat) : Option SV := runM 60 (fun g => xcall Tryz.prog (ctrOf ctr0) g 1000000 100 f [.ag [.ef (.vf 0), .ef (.vf 1)]] .nil 0) .nil
set_option maxRecDepth 1000000 in
set_option maxHeartbeats 100000000 in
theorem rMag_run : isSV (.c (.ef (.tf (.fc .lss (abE (.vf 0)) (abE (.vf 1))) (abE (.vf 1)) (abE (.vf 0))))) (refRun1 23) = true := by kernel_rfl
theorem abs_num {x : Nat} (h : isN x = false) : isN (x % p63) = false ∧ key (x % p63) = ((x % p63 : Nat) : Int) ∧ x % p63 < 18446744073709551616 := by
  have hlt : x % p63 < p63 := Nat.mod_lt _ (by decide)
  refine ⟨?_, ?_, ?_⟩
  · unfold isN at h ⊢
    rw [Nat.mod_mod]; exact h
  · unfold key
    rw [if_neg (by rw [Nat.div_eq_of_lt hlt]; decide), Nat.mod_mod]
  · exact Nat.lt_trans hlt (by decide)
theorem mag_either {a b : Nat} (ha : isN a = false) (hb : isN b = false) : (bif ltB (a % p63) (b % p63) then b % p63 else a % p63) = magB a b := by
  obtain ⟨a1, a2, -⟩ := abs_num ha
  obtain ⟨b1, b2, -⟩ := abs_num hb
  unfold magB
  have e1 : ltB (a % p63) (b % p63) = decide (a % p63 < b % p63) := by
    unfold ltB; rw [a1, b1, a2, b2]; simp only [Bool.not_false, Bool.and_self, Bool.true_and, Int.ofNat_lt]
  have e2 : ltB (b % 9223372036854775808) (a % 9223372036854775808) = decide (b % p63 < a % p63) := by
    show ltB (b % p63) (a % p63) = _
    unfold ltB; rw [a1, b1, a2, b2]; simp only [Bool.not_false, Bool.and_self, Bool.true_and, Int.ofNat_lt]
  rw [e1, e2]
  show _ = if decide (b % p63 < a % p63) = true then a % p63 else b % p63
  rcases Nat.lt_trichotomy (a % p63) (b % p63) with h | h | h
  · rw [decide_eq_true h, decide_eq_false (by omega)]; rfl
  · rw [decide_eq_false (by omega), decide_eq_false (by omega), h]; rfl
  · rw [decide_eq_false (by omega), decide_eq_true h]; rfl
theorem rMag_call (a b : Nat) (ha : a < 18446744073709551616) (hb : b < 18446744073709551616) (na : isN a = false) (nb : isN b = false) (w : World) : Calls Tryz.prog 23 #[iv a b] w (Gives (.float .f64 (magB a b)) w) := by
  let V : Val := stdV (fun _ => 0) (fun i => match i with | 0 => a | _ => b) (fun _ => #[])
  have hV : StdV V := stdV_ok _ _ _
  obtain ⟨g, u, hp, nx, hg, hr, hu⟩ := runM_ok (V := V) gam_nil (isSV_ok rMag_run)
  have hargs : All2 (VR V fun _ => none) [.ag [.ef (.vf 0), .ef (.vf 1)]] (#[iv a b] : Array Value).toList := ⟨⟨_, rfl, ⟨a, rfl, rfl, ha⟩, ⟨b, rfl, rfl, hb⟩, trivial⟩, trivial⟩
  refine (run_any mixed namesAll hg (ctr0_ok hV) hr hargs w).mono fun e w' ⟨rv, ρ, he, hv, hbl⟩ => ?_
  obtain ⟨x, rfl, hx⟩ := hu ρ rv hv
  have ab : ∀ e : E, evF V (abE e) = canon (evF V e) % p63 := fun e => by
    show V.ff 10 0 _ = _
    rw [hV.f _ _ _ (by decide)]; rfl
  have hval : evF V (.tf (.fc .lss (abE (.vf 0)) (abE (.vf 1))) (abE (.vf 1)) (abE (.vf 0))) = magB a b := by
    show (bif ltB (evF V (abE (.vf 0))) (evF V (abE (.vf 1))) then evF V (abE (.vf 1)) else evF V (abE (.vf 0))) = _
    rw [ab, ab]
    have e0 : evF V (.vf 0) = a := rfl
    have e1 : evF V (.vf 1) = b := rfl
    rw [e0, e1, canon_num na, canon_num nb]
    exact mag_either na nb
  rw [hval] at hx
  have hn : isN (magB a b) = false := by
    rw [← mag_either na nb]
    cases ltB (a % p63) (b % p63)
    · exact (abs_num na).1
    · exact (abs_num nb).1
  have := hx.known hn
  exact ⟨by rw [he, this], hbl⟩
/-- What is a number, by a table of names alone. -/
def numT (t : Nms) : Nat → E → Bool
  | 0, _ => false
  | n + 1, x => selfT [] t (n + 1) x || match x with
    | .vf k => match defN k t with
      | some e => numT t n e
      | none => false
    | .tf (.fc .leq p q) a b => (decide (a = p) || (decide (a = q) || numT t n a)) && numT t n b
    | .tf _ a b => numT t n a && numT t n b
    | _ => false
theorem numT_ok {V : Val} (hM : MkV V) {t : Nms} (ht : ∀ x, x ∈ t → V.f x.2.1 = evF V x.2.2) : ∀ (n : Nat) {x : E}, numT t n x = true → isN (evF V x) = false
  | 0, _, h => by cases h
  | n + 1, x, h => by
    unfold numT at h
    rw [Bool.or_eq_true] at h
    rcases h with h | h
    · exact selfT_ok hM (fun _ _ h => by cases h) ht _ h
    · split at h
      · rename_i k
        split at h
        · rename_i e he
          obtain ⟨y, h1, h2, h3⟩ := defN_ok he
          have := numT_ok hM ht n h
          rw [← h3, ← ht y h1, h2] at this
          exact this
        · cases h
      · rename_i p q a b
        simp only [Bool.and_eq_true, Bool.or_eq_true, decide_eq_true_eq] at h
        have hb := numT_ok hM ht n h.2
        show isN (bif leB (evF V p) (evF V q) then evF V a else evF V b) = false
        cases hc : leB (evF V p) (evF V q)
        · exact hb
        · show isN (evF V a) = false
          unfold leB at hc
          simp only [Bool.and_eq_true, Bool.not_eq_true'] at hc
          rcases h.1 with h1 | h1 | h1
          · rw [h1]; exact hc.1.1
          · rw [h1]; exact hc.1.2
          · exact numT_ok hM ht n h1
      · rename_i c a b _
        rw [Bool.and_eq_true] at h
        have h1 := numT_ok hM ht n h.1
        have h2 := numT_ok hM ht n h.2
        show isN (bif evB V c then evF V a else evF V b) = false
        cases evB V c
        · exact h2
        · exact h1
      · cases h
def magR (t : Nms) : List SV → Option SV
  | [.ag [a, b]] => match a.toF, b.toF with
    | some x, some y => bif numT t 30 x && numT t 30 y then magS [.ag [a, b]] else none
    | _, _ => none
  | _ => none
theorem magR_holds {V : Val} (hV : MkV V) {t : Nms} (ht : ∀ x, x ∈ t → V.f x.2.1 = evF V x.2.2) : Holds Tryz.prog V 23 (magR t) := by
  intro args v h ρ vs w hargs
  unfold magR at h
  split at h
  · rename_i a b
    obtain ⟨u1, rfl, hu⟩ := args_one hargs
    split at h
    · rename_i ea eb h1 h2
      cases hc : (numT t 30 ea && numT t 30 eb) <;> rw [hc] at h
      · cases h
      · simp only [cond_true] at h
        rw [Bool.and_eq_true] at hc
        have n1 := numT_ok hV ht 30 hc.1
        have n2 := numT_ok hV ht 30 hc.2
        obtain ⟨x, y, rfl, hx, hy⟩ := ivE_of h1 h2 hu
        have k1 : isN x = false := by rw [← hx.nan]; exact n1
        have k2 : isN y = false := by rw [← hy.nan]; exact n2
        have main : ∀ (v : SV), (∀ z, FR (magB (canon (evF V ea)) (canon (evF V eb))) z → VR V ρ v (.float .f64 z)) → Calls Tryz.prog 23 #[iv x y] w fun e w' => ∃ rv, e = .returned rv ∧ VR V ρ v rv ∧ Go.RowKit.Below w.heap.size w w' := fun v hv =>
          (rMag_call x y hx.2 hy.2 k1 k2 w).mono fun e w' ⟨he, hb⟩ => ⟨_, he, hv _ (magB_FR hx hy), hb⟩
        unfold magS at h
        simp only [h1, h2] at h
        split at h
        · rename_i x' y' e1 e2
          simp only [Option.some.injEq] at h e1 e2
          subst h
          subst e1
          subst e2
          exact main _ fun z hz => ⟨z, rfl, hz⟩
        · rename_i ea' eb' _ e1 e2
          simp only [Option.some.injEq] at h e1 e2
          subst h
          subst e1
          subst e2
          refine main _ fun z hz => ⟨z, rfl, ?_⟩
          have : evF V (.af 33 0 (.cf ea (.cf eb .n0))) = magB (canon (evF V ea)) (canon (evF V eb)) := by
            show V.ff 33 0 _ = _
            rw [hV.y _ _ _ (by decide) (by decide)]; rfl
          rw [this]; exact hz
        · cases h
    · cases h
  · cases h
end Go.Proofs.YtlgifofnejncpaaGreat
