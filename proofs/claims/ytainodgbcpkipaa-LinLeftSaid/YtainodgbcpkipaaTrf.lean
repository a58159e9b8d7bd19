/-
  Which numbers are between which: of names, and of what is made of them.
-/
import Derived.Test.YtainodgbcpkipaaTri
namespace Go.Proofs.Ytainodgbcpkipaa.Ex
open Go
variable {P : Program} {V : Val}

abbrev TrE := List (E × E × E)
def tesOK (t : Nms) (T : Tri) : TrE → Bool
  | [] => true
  | x :: r => encE t T x.1 x.2.1 x.2.2 && tesOK t T r
theorem tesOK_ok (hW : IvV V) {t : Nms} (ht : ∀ x, x ∈ t → V.f x.2.1 = evF V x.2.2) {T : Tri} (hT : ∀ x, x ∈ T → Tr V (.vf x.1) (.vf x.2.1) (.vf x.2.2)) : ∀ {L : TrE}, tesOK t T L = true → ∀ x, x ∈ L → Tr V x.1 x.2.1 x.2.2
  | [], _, _, hx => by cases hx
  | y :: r, h, x, hx => by
    unfold tesOK at h
    rw [Bool.and_eq_true] at h
    rcases List.mem_cons.1 hx with rfl | hx
    · exact encE_ok hW ht hT _ _ _ h.1
    · exact tesOK_ok hW ht hT h.2 x hx
def numE (l : List (E × Bool)) (e : E) : Bool := finOf l e || (numL l e || finE e)
theorem numE_ok (hV : StdV V) {l : List (E × Bool)} (hl : LOK V l) {e : E} (h : numE l e = true) : isN (evF V e) = false := by
  unfold numE at h
  simp only [Bool.or_eq_true] at h
  rcases h with h | h | h
  · exact (key_fin (finOf_ok hl _ h)).2.2
  · exact numL_ok hV hl h
  · exact (key_fin (finE_ok hV h)).2.2
def encG (num : E → Bool) (a b : E) : TrE → Bool
  | [] => false
  | x :: r => ((decide (x.2.1 = a) && (decide (x.1 = b) && num x.1)) || ((decide (x.1 = a) && (decide (x.2.2 = b) && num x.1)) || (decide (x.2.1 = a) && decide (x.2.2 = b)))) || encG num a b r
theorem encG_ok {num : E → Bool} (hn : ∀ k, num k = true → isN (evF V k) = false) {a b : E} : ∀ {L : TrE}, (∀ x, x ∈ L → Tr V x.1 x.2.1 x.2.2) → encG num a b L = true → evB V (.fc .leq a b) = true
  | [], _, h => by cases h
  | (y, lo, hi) :: r, hL, h => by
    obtain ⟨hr, ht⟩ := hL (y, lo, hi) (List.mem_cons_self ..)
    unfold encG at h
    simp only [Bool.or_eq_true, Bool.and_eq_true, decide_eq_true_eq] at h
    rcases h with (⟨h1, h2, h3⟩ | ⟨h1, h2, h3⟩ | ⟨h1, h2⟩) | h
    · subst h1; subst h2
      have n := hn _ h3
      rw [n] at ht
      show leB _ _ = true
      rw [leB_of hr.na n]
      simpa using (ht.resolve_left (by simp)).1
    · subst h1; subst h2
      have n := hn _ h3
      rw [n] at ht
      show leB _ _ = true
      rw [leB_of n hr.nb]
      simpa using (ht.resolve_left (by simp)).2
    · subst h1; subst h2
      show leB _ _ = true
      rw [leB_of hr.na hr.nb]
      simpa using hr.o
    · exact encG_ok hn (fun x hx => hL x (List.mem_cons_of_mem _ hx)) h
abbrev QuE := List ((E × E) × (E × E))
def qesOK (t : Nms) (Q : Qua) : QuE → Bool
  | [] => true
  | x :: r => wdE t Q 200 x.1.1 x.1.2 x.2.1 x.2.2 && qesOK t Q r
theorem qesOK_ok (hW : IvV V) {t : Nms} (ht : ∀ x, x ∈ t → V.f x.2.1 = evF V x.2.2) {Q : Qua} (hQ : ∀ x, x ∈ Q → Qd V (.vf x.1.1) (.vf x.1.2) (.vf x.2.1) (.vf x.2.2)) : ∀ {L : QuE}, qesOK t Q L = true → ∀ x, x ∈ L → Qd V x.1.1 x.1.2 x.2.1 x.2.2
  | [], _, _, hx => by cases hx
  | y :: r, h, x, hx => by
    unfold qesOK at h
    rw [Bool.and_eq_true] at h
    rcases List.mem_cons.1 hx with rfl | hx
    · exact wdE_ok hW ht hQ _ _ _ _ _ h.1
    · exact qesOK_ok hW ht hQ h.2 x hx
def wdG (a b : E) : QuE → Bool
  | [] => false
  | x :: r => ((decide (x.2.1 = a) && decide (x.1.1 = b)) || ((decide (x.1.2 = a) && decide (x.2.2 = b)) || ((decide (x.1.1 = a) && decide (x.1.2 = b)) || (decide (x.2.1 = a) && decide (x.2.2 = b))))) || wdG a b r
theorem wdG_ok {a b : E} : ∀ {L : QuE}, (∀ x, x ∈ L → Qd V x.1.1 x.1.2 x.2.1 x.2.2) → wdG a b L = true → evB V (.fc .leq a b) = true
  | [], _, h => by cases h
  | ((l, h), (l', h')) :: r, hL, g => by
    obtain ⟨r1, r2, r3, r4⟩ := hL ((l, h), (l', h')) (List.mem_cons_self ..)
    unfold wdG at g
    simp only [Bool.or_eq_true, Bool.and_eq_true, decide_eq_true_eq] at g
    rcases g with (⟨h1, h2⟩ | ⟨h1, h2⟩ | ⟨h1, h2⟩ | ⟨h1, h2⟩) | g
    · subst h1; subst h2
      show leB _ _ = true
      rw [leB_of r2.na r1.na]; simpa using r3
    · subst h1; subst h2
      show leB _ _ = true
      rw [leB_of r1.nb r2.nb]; simpa using r4
    · subst h1; subst h2
      show leB _ _ = true
      rw [leB_of r1.na r1.nb]; simpa using r1.o
    · subst h1; subst h2
      show leB _ _ = true
      rw [leB_of r2.na r2.nb]; simpa using r2.o
    · exact wdG_ok (fun x hx => hL x (List.mem_cons_of_mem _ hx)) g
def triF (TE : TrE) (QE : QuE) (D : List (E × Bool) → E → Option Bool) (l : List (E × Bool)) (e : E) : Option Bool := match e with
  | .fc .leq a b => bif encG (numE l) a b TE || wdG a b QE then some true else D l e
  | _ => D l e
theorem triF_ok (hW : IvV V) {t : Nms} (ht : ∀ x, x ∈ t → V.f x.2.1 = evF V x.2.2) {T : Tri} {TE : TrE} {Q : Qua} {QE : QuE} (hT : trisOK t [] T = true) (hE : tesOK t T TE = true) (hQ : quasOK t [] Q = true) (hR : qesOK t Q QE = true) {D : List (E × Bool) → E → Option Bool} (hD : DOK V D) : DOK V (triF TE QE D) := by
  intro l hl e b h
  unfold triF at h
  split at h
  · rename_i a b'
    cases hc : encG (numE l) a b' TE || wdG a b' QE <;> rw [hc] at h
    · exact hD l hl _ b h
    · simp only [cond_true, Option.some.injEq] at h
      subst h
      rw [Bool.or_eq_true] at hc
      rcases hc with hc | hc
      · exact encG_ok (fun k hk => numE_ok hW.toStdV hl hk) (tesOK_ok hW ht (trisOK_ok hW ht (by simp) hT) hE) hc
      · exact wdG_ok (qesOK_ok hW ht (quasOK_ok hW ht (by simp) hQ) hR) hc
  · exact hD l hl _ b h
def Gam.trf (l : List (E × Bool)) (t : Nms) (TE : TrE) (QE : QuE) : Gam := ⟨l, triF TE QE exD, some (nmT t)⟩
theorem gam_trf {V : Val} (hV : StdV V) {base : Nat} {t : Nms} (hW : IvV (tabV V base t)) (h : tabGood base t = true) {l : List (E × Bool)} (hl : LOK (tabV V base t) l) {T : Tri} {TE : TrE} {Q : Qua} {QE : QuE} (hT : trisOK t [] T = true) (hE : tesOK t T TE = true) (hQ : quasOK t [] Q = true) (hR : qesOK t Q QE = true) : GamOK (tabV V base t) (.trf l t TE QE) :=
  ⟨hl, triF_ok hW (tabV_ok V h) hT hE hQ hR (dok_exact (tabV_std hV)), nm_tab V h⟩
end Go.Proofs.Ytainodgbcpkipaa.Ex
