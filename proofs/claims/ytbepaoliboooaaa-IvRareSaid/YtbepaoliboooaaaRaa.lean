/-
  'IvRare': ends that are not as others are: each of them tried.
-/
import Derived.Test.YtbepaoliboooaaaB2
import Derived.Test.YtbepaoliboooaaaIvn
import Derived.Test.YtbepaoliboooaaaExu
import Derived.Test.YtbepaoliboooaaaFpn
namespace Go.Proofs.Ytbepaoliboooaaa
open Go.RowKit Ex

def mkR (i : Nat → Int) (f : Nat → Nat) : Val := ⟨i, f, fun _ => false, stdI, fun j k args => if j < 20 then stdF j k args else ivX j k args, stdB, fun _ => #[]⟩
theorem mkR_ok (i : Nat → Int) (f : Nat → Nat) : IvV (mkR i f) := ⟨⟨fun _ _ _ _ => rfl, fun _ _ _ h => if_pos h, fun _ _ _ _ => rfl⟩, fun _ _ _ h _ => if_neg (by omega)⟩
def rareN : List SV → Option SV
  | [.c (.i .i64 n)] => some (.c (.f (rareB (n % 10))))
  | [.c (.ei .i64 (.vi p))] => some (.c (.ef (.vf p)))
  | _ => none
theorem rareN_holds {V : Val} (h : ∀ p, V.f p = rareB (V.i p % 10)) : Holds Try.prog V 48 rareN := by
  intro args v hv ρ vs w hargs
  unfold rareN at hv
  split at hv
  · rename_i n
    simp only [Option.some.injEq] at hv
    subst hv
    obtain ⟨u, rfl, hu⟩ := args_one hargs
    have hu : u = .int .i64 n := hu
    subst hu
    exact (rare_any n w).mono fun e w' ⟨he, hb⟩ => ⟨_, he, ⟨_, rfl, rfl, rareB_lt _⟩, hb⟩
  · rename_i p
    simp only [Option.some.injEq] at hv
    subst hv
    obtain ⟨u, rfl, hu⟩ := args_one hargs
    have hu : u = .int .i64 (V.i p) := hu
    subst hu
    exact (rare_any _ w).mono fun e w' ⟨he, hb⟩ => ⟨_, he, ⟨_, rfl, by simp only [evF, h], rareB_lt _⟩, hb⟩
  · cases hv
def ctrR : List (Nat × Ctr1) := (16, pureC knownF) :: (48, pureC rareN) :: (31, pureC (ivN 20 addP)) :: (33, pureC (ivN 21 subP)) :: (35, pureC (ivN 22 mulP)) :: (37, pureC (ivN 23 divP)) :: ctrB []
theorem ctrR_ok {V : Val} (hV : IvV V) (h : ∀ p, V.f p = rareB (V.i p % 10)) : CtrOK Try.prog V (ctrOf ctrR) :=
  ctr_cons (known_holds known_run) (ctr_cons (rareN_holds h) (ctr_cons (addN_holds hV) (ctr_cons (subN_holds hV) (ctr_cons (mulN_holds hV) (ctr_cons (divN_holds hV) (ctrB_ok hV.toStdV fun _ _ _ h => by cases h))))))
def rareL : List Nat := [nanB, 9218868437227405312, 18442240474082181120, 0, 1, 18442240474082181119, 9218868437227405311, 4607182418800017408, 4602678819172646912, 13835058055282163712]
theorem rare_mem (n : Int) (h1 : 0 ≤ n) (h2 : n < 10) : rareB n ∈ rareL := by
  have hk : n = 0 ∨ n = 1 ∨ n = 2 ∨ n = 3 ∨ n = 4 ∨ n = 5 ∨ n = 6 ∨ n = 7 ∨ n = 8 ∨ n = 9 := by omega
  rcases hk with rfl | rfl | rfl | rfl | rfl | rfl | rfl | rfl | rfl | rfl <;> decide
noncomputable def rareRun : Option SV := runM 60 (fun g => xcall Try.prog (ctrOf ctrR) g 1000000 60 14 [.c (.ei .i64 (.vi 0)), .c (.ei .i64 (.vi 1)), .c (.ei .i64 (.vi 2)), .c (.ei .i64 (.vi 3))] .nil 0) .nil
def four (a b c d : Nat) (i : Nat) : Nat := match i with | 0 => a | 1 => b | 2 => c | _ => d
noncomputable def rareChk (a : Nat) : Bool := match rareRun with
  | some (.c (.eb e)) => few 4 e && rareL.all fun b => rareL.all fun c => rareL.all fun d => evB (mkR (fun _ => 0) (four a b c d)) e
  | _ => false
theorem ivRare_of (h : ∀ a, a ∈ rareL → rareChk a = true) (i0 i1 i2 i3 : Int) (w : World) :
    Calls Try.prog 14 #[.int .i64 i0, .int .i64 i1, .int .i64 i2, .int .i64 i3] w fun e w' => e = .returned (.bool true) ∧ Below w.heap.size w w' := by
  let i : Nat → Int := fun p => match p with | 0 => i0 | 1 => i1 | 2 => i2 | _ => i3
  let f : Nat → Nat := fun p => rareB (i p % 10)
  have hf : ∀ p, f p ∈ rareL := fun p => rare_mem _ (Int.emod_nonneg _ (by decide)) (Int.emod_lt_of_pos _ (by decide))
  have hc := h (f 0) (hf 0)
  unfold rareChk at hc
  split at hc
  · rename_i e he
    simp only [Bool.and_eq_true, List.all_eq_true] at hc
    obtain ⟨h1, h2⟩ := hc
    have h3 := h2 (f 1) (hf 1) (f 2) (hf 2) (f 3) (hf 3)
    have hs := (few_same (V := mkR i f) (W := mkR (fun _ => 0) (four (f 0) (f 1) (f 2) (f 3))) (fun j hj => by
      have : j = 0 ∨ j = 1 ∨ j = 2 ∨ j = 3 := by omega
      rcases this with rfl | rfl | rfl | rfl <;> rfl) rfl rfl rfl e h1).2.2.1
    rw [h3] at hs
    unfold rareRun at he
    obtain ⟨g', u, hp, nx, k1, k2, k3⟩ := runM_ok (V := mkR i f) gam_nil he
    refine (run_any mixed namesAll k1 (ctrR_ok (mkR_ok i f) fun p => rfl) k2 (vs := #[.int .i64 i0, .int .i64 i1, .int .i64 i2, .int .i64 i3]) ⟨rfl, rfl, rfl, rfl, trivial⟩ w).mono fun e' w' ⟨rv, ρ, g1, g2, g3⟩ => ⟨?_, g3⟩
    have : rv = .bool (evB (mkR i f) e) := k3 _ _ g2
    rw [g1, this, hs]
  · cases hc
end Go.Proofs.Ytbepaoliboooaaa
