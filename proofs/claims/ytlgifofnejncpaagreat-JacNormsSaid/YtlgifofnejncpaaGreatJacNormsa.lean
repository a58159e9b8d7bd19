/-
  What is not above minus infinity is it; what was taken one number up is above it; what is a number, by a table of names.
-/
import Derived.Test.YtlgifofnejncpaaGreatB4z
namespace Go.Proofs.YtlgifofnejncpaaGreat
open Go.RowKit Ex
def niW : Nat := 18442240474082181120
theorem niW_key : key niW = -(infR : Int) ∧ isN niW = false := by decide +kernel
theorem key_low {x : Nat} (h : isN x = false) : -(infR : Int) ≤ key x := by
  have : x % p63 ≤ infR := by simpa [isN] using h
  unfold key
  split <;> omega
theorem ni_eq {x : Nat} (h : isN x = false) (h2 : ltB niW x = false) : eqB x niW = true := by
  have hk := key_low h
  unfold ltB at h2
  unfold eqB
  rw [niW_key.2, niW_key.1, h] at h2 ⊢
  simp at h2 ⊢
  omega
theorem up_above {x : Nat} (h : isN (upB x) = false) : ltB niW (upB x) = true := by
  unfold ltB
  rw [niW_key.2, h, niW_key.1]
  have key' : -(infR : Int) < key (upB x) := by
    unfold upB at h ⊢
    by_cases h1 : isN x = true
    · rw [if_pos h1] at h; exact absurd h (by decide)
    · rw [if_neg h1] at h ⊢
      have hx : x % p63 ≤ infR := by simpa [isN] using h1
      by_cases h2 : x = infR
      · rw [if_pos h2]; subst h2; decide
      · rw [if_neg h2]
        by_cases h3 : x % p63 = 0
        · rw [if_pos h3]; decide
        · rw [if_neg h3]
          have hx' : x % 9223372036854775808 ≤ 9218868437227405312 := hx
          have h3' : ¬ x % 9223372036854775808 = 0 := h3
          have eR : ((infR : Nat) : Int) = 9218868437227405312 := rfl
          rw [eR]
          by_cases h4 : neg x = true
          · rw [if_pos h4]
            have h4' : x / 9223372036854775808 % 2 = 1 := show x / p63 % 2 = 1 by simpa [neg] using h4
            have q1 : (x - 1) / 9223372036854775808 % 2 = 1 := by omega
            unfold key
            rw [if_pos (show (x - 1) / p63 % 2 = 1 from q1)]
            show (-9218868437227405312 : Int) < -(((x - 1) % 9223372036854775808 : Nat) : Int)
            omega
          · rw [if_neg h4]
            have h4' : ¬ x / 9223372036854775808 % 2 = 1 := show ¬ x / p63 % 2 = 1 by simpa [neg] using h4
            have q1 : ¬ (x + 1) / 9223372036854775808 % 2 = 1 := by omega
            unfold key
            rw [if_neg (show ¬ (x + 1) / p63 % 2 = 1 from q1)]
            omega
  simp [key']

def isT (l : List (E × Bool)) (e : E) : Bool := match lookE l e with
  | some true => true
  | _ => false
def isF (l : List (E × Bool)) (e : E) : Bool := match lookE l e with
  | some false => true
  | _ => false
theorem isT_ok {V : Val} {l : List (E × Bool)} (hl : LOK V l) {e : E} (h : isT l e = true) : evB V e = true := by
  unfold isT at h
  split at h
  · rename_i hk; exact lookE_ok hl hk
  · cases h
theorem isF_ok {V : Val} {l : List (E × Bool)} (hl : LOK V l) {e : E} (h : isF l e = true) : evB V e = false := by
  unfold isF at h
  split at h
  · rename_i hk; exact lookE_ok hl hk
  · cases h
def defN (k : Nat) : Nms → Option E
  | [] => none
  | x :: r => bif Nat.beq x.2.1 k then some x.2.2 else defN k r
theorem defN_ok {k : Nat} : ∀ {t : Nms} {e : E}, defN k t = some e → ∃ x, x ∈ t ∧ x.2.1 = k ∧ x.2.2 = e
  | [], _, h => by cases h
  | x :: r, e, h => by
    unfold defN at h
    cases hb : Nat.beq x.2.1 k <;> rw [hb] at h
    · obtain ⟨y, h1, h2⟩ := defN_ok (t := r) (by simpa using h)
      exact ⟨y, List.mem_cons_of_mem _ h1, h2⟩
    · simp only [cond_true, Option.some.injEq] at h
      exact ⟨x, List.mem_cons_self .., Nat.eq_of_beq_eq_true hb, h⟩
/-- Is it a number, as far as is known? -/
def selfT (l : List (E × Bool)) (t : Nms) : Nat → E → Bool
  | 0, _ => false
  | n + 1, x => isT l (.fc .eql x x) || match x with
    | .vf k => match defN k t with
      | some e => selfT l t n e
      | none => false
    | .tf _ a b => selfT l t n a && selfT l t n b
    | .af 30 j (.ci _ (.ci _ (.ci _ .n0))) => Nat.beq j 0 || Nat.beq j 1
    | .lf x => !isN x
    | _ => false
theorem selfT_ok {V : Val} (hM : MkV V) {l : List (E × Bool)} (hl : LOK V l) {t : Nms} (ht : ∀ x, x ∈ t → V.f x.2.1 = evF V x.2.2) : ∀ (n : Nat) {x : E}, selfT l t n x = true → isN (evF V x) = false
  | 0, _, h => by cases h
  | n + 1, x, h => by
    unfold selfT at h
    rw [Bool.or_eq_true] at h
    rcases h with h | h
    · have : eqB (evF V x) (evF V x) = true := isT_ok hl h
      rw [eqB_self] at this
      simpa using this
    · split at h
      · rename_i k
        split at h
        · rename_i e he
          obtain ⟨y, h1, h2, h3⟩ := defN_ok he
          have := selfT_ok hM hl ht n h
          rw [← h3, ← ht y h1, h2] at this
          exact this
        · cases h
      · rename_i c a b
        rw [Bool.and_eq_true] at h
        have h1 := selfT_ok hM hl ht n h.1
        have h2 := selfT_ok hM hl ht n h.2
        show isN (bif evB V c then evF V a else evF V b) = false
        cases evB V c
        · exact h2
        · exact h1
      · rename_i j a b c
        have hm := (mkP_mid (evI V a) (evI V b) (evI V c)).fin
        rw [Bool.or_eq_true] at h
        rcases h with h | h
        · have := Nat.eq_of_beq_eq_true h
          subst this
          have e : evF V (.af 30 0 (.ci a (.ci b (.ci c .n0)))) = (mkP (evI V a) (evI V b) (evI V c)).1 := by
            show V.ff 30 0 _ = _; rw [hM.y _ _ _ (by decide) (by decide)]; rfl
          rw [e]
          exact isN_of_le (Nat.le_of_lt hm.1)
        · have := Nat.eq_of_beq_eq_true h
          subst this
          have e : evF V (.af 30 1 (.ci a (.ci b (.ci c .n0)))) = (mkP (evI V a) (evI V b) (evI V c)).2 := by
            show V.ff 30 1 _ = _; rw [hM.y _ _ _ (by decide) (by decide)]; rfl
          rw [e]
          exact isN_of_le (Nat.le_of_lt hm.2.1)
      · show isN _ = false
        rename_i x
        show isN x = false
        simpa using h
      · cases h
def niDec (t : Nms) (l : List (E × Bool)) : E → Option Bool
  | .fc .eql a b => if a = b then (bif selfT l t 30 a then some true else none) else match b with
    | .lf x => bif Nat.beq x niW && (isF l (.fc .lss (.lf niW) a) && selfT l t 30 a) then some true else none
    | _ => none
  | .ab 8 j (.cf a (.cf (.lf x) .n0)) => bif Nat.beq j 0 && (Nat.beq x niW && (isF l (.fc .lss (.lf niW) a) && selfT l t 30 a)) then some true else none
  | .fc .lss (.lf x) (.vf k) => match defN k t with
    | some (.af 11 j (.cf _ .n0)) => bif Nat.beq j 0 && (Nat.beq x niW && selfT l t 30 (.vf k)) then some true else none
    | _ => none
  | _ => none
theorem niDec_ok {V : Val} (hM : MkV V) {l : List (E × Bool)} (hl : LOK V l) {t : Nms} (ht : ∀ x, x ∈ t → V.f x.2.1 = evF V x.2.2) {e : E} {r : Bool} (h : niDec t l e = some r) : evB V e = r := by
  have hV := hM.toIvV.toStdV
  have cs : ∀ {c : Bool}, (bif c then some true else none) = some r → c = true ∧ r = true := fun {c} h => by
    cases c
    · cases h
    · simp only [cond_true, Option.some.injEq] at h; exact ⟨rfl, h.symm⟩
  unfold niDec at h
  split at h
  · rename_i a b
    split at h
    · rename_i hab
      subst hab
      obtain ⟨h1, rfl⟩ := cs h
      show eqB _ _ = true
      rw [eqB_self, selfT_ok hM hl ht _ h1]; rfl
    · split at h
      · rename_i x _
        obtain ⟨h1, rfl⟩ := cs h
        simp only [Bool.and_eq_true] at h1
        have hx := Nat.eq_of_beq_eq_true h1.1
        subst hx
        exact ni_eq (selfT_ok hM hl ht _ h1.2.2) (isF_ok hl h1.2.1)
      · cases h
  · rename_i j a x
    obtain ⟨h1, rfl⟩ := cs h
    simp only [Bool.and_eq_true] at h1
    have hj := Nat.eq_of_beq_eq_true h1.1
    have hx := Nat.eq_of_beq_eq_true h1.2.1
    subst hx; subst hj
    have : evB V (.ab 8 0 (.cf a (.cf (.lf niW) .n0))) = sameB (evF V a) niW := by simp [evB, evF, evS, hV.b, stdB]
    rw [this]
    unfold sameB
    rw [ni_eq (selfT_ok hM hl ht _ h1.2.2.2) (isF_ok hl h1.2.2.1)]; rfl
  · rename_i x k
    split at h
    · rename_i j a he
      obtain ⟨h1, rfl⟩ := cs h
      simp only [Bool.and_eq_true] at h1
      have hj := Nat.eq_of_beq_eq_true h1.1
      have hx := Nat.eq_of_beq_eq_true h1.2.1
      subst hx; subst hj
      have hs := selfT_ok hM hl ht _ h1.2.2
      obtain ⟨y, y1, y2, y3⟩ := defN_ok he
      have hk : evF V (.vf k) = upB (canon (evF V a)) := by
        show V.f k = _
        rw [← y2, ht y y1, y3]
        simp [evF, evS, hV.f, stdF]
      rw [hk] at hs
      show ltB niW (evF V (.vf k)) = true
      rw [hk]
      exact up_above hs
    · cases h
  · cases h
def jnD (t : Nms) (l : List (E × Bool)) (e : E) : Option Bool :=
  match niDec t l e with
  | some b => some b
  | none => exD l e
theorem jnD_ok {V : Val} (hM : MkV V) {t : Nms} (ht : ∀ x, x ∈ t → V.f x.2.1 = evF V x.2.2) : DOK V (jnD t) := fun l hl e b h => by
  unfold jnD at h
  split at h
  · rename_i b' hb
    simp only [Option.some.injEq] at h
    subst h
    exact niDec_ok hM hl ht hb
  · exact dok_exact hM.toIvV.toStdV l hl e b h
/-- Whether two are the same, way by way. -/
def saA (a : E) : E → E
  | .tf c x y => .tb c (saA a x) (saA a y)
  | b => if a = b then .lb true else match a, b with
    | .lf x, .lf y => .lb (sameB x y)
    | a, b => .ab 8 0 (.cf a (.cf b .n0))
def saB (b : E) : E → E
  | .tf c x y => .tb c (saB b x) (saB b y)
  | a => saA a b
theorem sa_leaf {V : Val} (hV : StdV V) (a b : E) : evB V (if a = b then .lb true else match a, b with
    | .lf x, .lf y => .lb (sameB x y)
    | a, b => .ab 8 0 (.cf a (.cf b .n0))) = sameB (evF V a) (evF V b) := by
  split
  · rename_i hab
    subst hab
    rw [sameB_self]; rfl
  · split
    · rfl
    · simp [evB, evS, hV.b, stdB]
theorem saA_ok {V : Val} (hV : StdV V) {a : E} : ∀ (e : E), evB V (saA a e) = sameB (evF V a) (evF V e) := by
  intro e
  induction e with
  | tf c x y _ iha ihb =>
    rw [saA, evB, iha, ihb, evF]
    cases evB V c <;> rfl
  | _ => exact sa_leaf hV a _
theorem saB_ok {V : Val} (hV : StdV V) {b : E} : ∀ (e : E), evB V (saB b e) = sameB (evF V e) (evF V b) := by
  intro e
  induction e with
  | tf c x y _ iha ihb =>
    rw [saB, evB, iha, ihb, evF]
    cases evB V c <;> rfl
  | _ => exact saA_ok hV b
def sameP : List SV → Option SV
  | [.c x, .c y] => match x.toF, y.toF with
    | some a, some b => some (.c (.eb (saB b a)))
    | _, _ => none
  | _ => none
theorem sameP_holds {P : Program} {V : Val} (hV : StdV V) {f : Nat} (hw : ∀ (a b : Nat) (w : World), Calls P f #[.float .f64 a, .float .f64 b] w fun e w' => e = .returned (.bool (sameB a b)) ∧ w = w') : Holds P V f sameP := by
  intro args v h ρ vs w hargs
  unfold sameP at h
  split at h
  · rename_i x y
    obtain ⟨u1, u2, rfl, h1, h2⟩ := args_two hargs
    split at h
    · rename_i a b ha hb
      obtain ⟨x', rfl, hx⟩ := toF_ok ha h1
      obtain ⟨y', rfl, hy⟩ := toF_ok hb h2
      simp only [Option.some.injEq] at h
      subst h
      exact (hw x' y' w).mono fun e w' ⟨he, hb⟩ => ⟨_, he, by show Value.bool _ = Value.bool _; rw [saB_ok hV, sameB_FR hx hy], by subst hb; exact Go.RowKit.Below.refl _ _⟩
    · cases h
  · cases h
def ctrN (tb : Tab) : List (Nat × Ctr1) := (20, pureC sameP) :: ctrS tb
theorem ctrN_ok {V : Val} (hM : MkV V) {t : Tab} (ht : TabOK V t) : CtrOK Tryz.prog V (ctrOf (ctrN t)) := ctr_cons (sameP_holds hM.toIvV.toStdV same_any) (ctrS_ok hM ht)
end Go.Proofs.YtlgifofnejncpaaGreat
