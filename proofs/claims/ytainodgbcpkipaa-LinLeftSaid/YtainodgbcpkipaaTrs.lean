/-
  Which numbers are between which, where they are reckoned otherwise: exactly the same number.
-/
import Derived.Test.YtainodgbcpkipaaTrf
namespace Go.Proofs.Ytainodgbcpkipaa.Ex
open Go
variable {P : Program} {V : Val}

/-- With all names opened. -/
def openA (t : Nms) : Nat → E → E
  | 0, e => e
  | n + 1, .vf k => match rowE k t with
    | some e => openA t n e
    | none => .vf k
  | n + 1, .fb op a b => .fb op (openA t n a) (openA t n b)
  | n + 1, .tf c a b => .tf c (openA t n a) (openA t n b)
  | _ + 1, e => e
theorem openA_ok {t : Nms} (ht : ∀ x, x ∈ t → V.f x.2.1 = evF V x.2.2) : ∀ (n : Nat) (e : E), evF V (openA t n e) = evF V e
  | 0, _ => rfl
  | n + 1, e => by
    unfold openA
    split
    · rename_i h; cases h
    · rename_i h
      cases h
      split
      · rename_i e' he
        rw [openA_ok ht n e']; exact (rowE_ok ht he).symm
      · rfl
    · rename_i h
      cases h
      simp only [evF, openA_ok ht n]
    · rename_i h
      cases h
      simp only [evF, openA_ok ht n]
    · rfl
def eqX (t : Nms) (a b : E) : Bool := decide (a = b) || (match cmpF nofin .eql (openA t 200 a) (openA t 200 b) with
  | some x => x
  | none => false)
theorem eqX_ok (hV : StdV V) {t : Nms} (ht : ∀ x, x ∈ t → V.f x.2.1 = evF V x.2.2) {a b : E} (h : eqX t a b = true) : isN (evF V a) = isN (evF V b) ∧ key (evF V a) = key (evF V b) := by
  unfold eqX at h
  simp only [Bool.or_eq_true, decide_eq_true_eq] at h
  rcases h with rfl | h
  · exact ⟨rfl, rfl⟩
  · split at h
    · rename_i x hx
      subst h
      obtain ⟨h1, h2, h3⟩ := cmpF_ok hV nofin_ok hx
      rw [openA_ok ht, openA_ok ht] at h1
      rw [openA_ok ht] at h2 h3
      refine ⟨by rw [h2, h3], ?_⟩
      have h4 : eqB (evF V a) (evF V b) = true := h1
      unfold eqB at h4
      simp only [Bool.and_eq_true, decide_eq_true_eq] at h4
      exact h4.2
    · cases h
/-- Each: a number, the same as it is reckoned beside what it is between, these. -/
abbrev TrS := List ((E × E) × (E × E))
def tssOK (t : Nms) (T : Tri) : TrS → Bool
  | [] => true
  | x :: r => (encE t T x.1.2 x.2.1 x.2.2 && eqX t x.1.2 x.1.1) && tssOK t T r
theorem tssOK_ok (hW : IvV V) {t : Nms} (ht : ∀ x, x ∈ t → V.f x.2.1 = evF V x.2.2) {T : Tri} (hT : ∀ x, x ∈ T → Tr V (.vf x.1) (.vf x.2.1) (.vf x.2.2)) : ∀ {L : TrS}, tssOK t T L = true → ∀ x, x ∈ L.map (fun x => (x.1.1, x.2.1, x.2.2)) → Tr V x.1 x.2.1 x.2.2
  | [], _, _, hx => by cases hx
  | y :: r, h, x, hx => by
    unfold tssOK at h
    simp only [Bool.and_eq_true] at h
    rw [List.map_cons] at hx
    rcases List.mem_cons.1 hx with rfl | hx
    · obtain ⟨r1, r2⟩ := encE_ok hW ht hT _ _ _ h.1.1
      obtain ⟨e1, e2⟩ := eqX_ok hW.toStdV ht h.1.2
      refine ⟨r1, ?_⟩
      show isN (evF V y.1.1) = true ∨ _
      rw [← e1, ← e2]; exact r2
    · exact tssOK_ok hW ht hT h.2 x hx
def numsOK (t : Nms) : List E → Bool
  | [] => true
  | e :: r => finE (openA t 200 e) && numsOK t r
theorem numsOK_ok (hV : StdV V) {t : Nms} (ht : ∀ x, x ∈ t → V.f x.2.1 = evF V x.2.2) : ∀ {L : List E}, numsOK t L = true → ∀ e, e ∈ L → isN (evF V e) = false
  | [], _, _, he => by cases he
  | a :: r, h, e, he => by
    unfold numsOK at h
    rw [Bool.and_eq_true] at h
    rcases List.mem_cons.1 he with rfl | he
    · have := finE_ok hV h.1
      rw [openA_ok ht] at this
      exact (key_fin this).2.2
    · exact numsOK_ok hV ht h.2 e he
def memE (e : E) : List E → Bool
  | [] => false
  | x :: r => decide (x = e) || memE e r
theorem memE_ok {e : E} : ∀ {L : List E}, memE e L = true → e ∈ L
  | [], h => by cases h
  | x :: r, h => by
    unfold memE at h
    simp only [Bool.or_eq_true, decide_eq_true_eq] at h
    rcases h with rfl | h
    · exact List.mem_cons_self ..
    · exact List.mem_cons_of_mem _ (memE_ok h)
def triS (TE : TrE) (N : List E) (QE : QuE) (D : List (E × Bool) → E → Option Bool) (l : List (E × Bool)) (e : E) : Option Bool := match e with
  | .fc .leq a b => bif encG (fun x => memE x N || numE l x) a b TE || wdG a b QE then some true else D l e
  | _ => D l e
theorem triS_ok (hW : IvV V) {t : Nms} (ht : ∀ x, x ∈ t → V.f x.2.1 = evF V x.2.2) {T : Tri} {TS : TrS} {N : List E} {Q : Qua} {QE : QuE} (hT : trisOK t [] T = true) (hE : tssOK t T TS = true) (hN : numsOK t N = true) (hQ : quasOK t [] Q = true) (hR : qesOK t Q QE = true) {D : List (E × Bool) → E → Option Bool} (hD : DOK V D) : DOK V (triS (TS.map fun x => (x.1.1, x.2.1, x.2.2)) N QE D) := by
  intro l hl e b h
  unfold triS at h
  split at h
  · rename_i a b'
    cases hc : encG (fun x => memE x N || numE l x) a b' (TS.map fun x => (x.1.1, x.2.1, x.2.2)) || wdG a b' QE <;> rw [hc] at h
    · exact hD l hl _ b h
    · simp only [cond_true, Option.some.injEq] at h
      subst h
      rw [Bool.or_eq_true] at hc
      rcases hc with hc | hc
      · refine encG_ok (fun k hk => ?_) (tssOK_ok hW ht (trisOK_ok hW ht (by simp) hT) hE) hc
        rw [Bool.or_eq_true] at hk
        rcases hk with hk | hk
        · exact numsOK_ok hW.toStdV ht hN _ (memE_ok hk)
        · exact numE_ok hW.toStdV hl hk
      · exact wdG_ok (qesOK_ok hW ht (quasOK_ok hW ht (by simp) hQ) hR) hc
  · exact hD l hl _ b h
def Gam.trs (l : List (E × Bool)) (t : Nms) (TS : TrS) (N : List E) (QE : QuE) : Gam := ⟨l, triS (TS.map fun x => (x.1.1, x.2.1, x.2.2)) N QE exD, some (nmT t)⟩
theorem gam_trs {V : Val} (hV : StdV V) {base : Nat} {t : Nms} (hW : IvV (tabV V base t)) (h : tabGood base t = true) {l : List (E × Bool)} (hl : LOK (tabV V base t) l) {T : Tri} {TS : TrS} {N : List E} {Q : Qua} {QE : QuE} (hT : trisOK t [] T = true) (hE : tssOK t T TS = true) (hN : numsOK t N = true) (hQ : quasOK t [] Q = true) (hR : qesOK t Q QE = true) : GamOK (tabV V base t) (.trs l t TS N QE) :=
  ⟨hl, triS_ok hW (tabV_ok V h) hT hE hN hQ hR (dok_exact (tabV_std hV)), nm_tab V h⟩
end Go.Proofs.Ytainodgbcpkipaa.Ex
