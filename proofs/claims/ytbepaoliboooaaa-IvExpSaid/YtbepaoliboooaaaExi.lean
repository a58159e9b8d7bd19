/-
  The runner's operations beside Go's: each of them.
-/
import Derived.Test.YtbepaoliboooaaaExh
namespace Go.Proofs.Ytbepaoliboooaaa.Ex
open Go
variable {P : Program} {V : Val} {ρ : Rho}

theorem Step.ofDrew {hg hg' : HG} {nx nx' : Nat} {w w' : World} {v : SV} {rv : Value} {ρ' : Rho} (h : Step V ρ hg nx w.drew v hg' nx' ρ' w' rv) : Step V ρ hg nx w v hg' nx' ρ' w' rv :=
  ⟨h.ext, h.new, h.le, h.val, h.hr, h.os, h.tape, h.output, h.size, h.keep, h.frz, h.own⟩
theorem Step.drop {hg hg' hg'' : HG} {nx nx' : Nat} {w w' : World} {v : SV} {rv : Value} {ρ' : Rho} (h : Step V ρ hg nx w v hg' nx' ρ' w' rv) (hs : ∀ b blk, hg'' b = some blk → hg' b = some blk) : Step V ρ hg nx w v hg'' nx' ρ' w' rv :=
  { h with hr := h.hr.sub hs, own := fun k ⟨b, q, h1, h2, h3⟩ => h.own k ⟨b, q, by
      cases e : hg'' b with
      | none => exact absurd e h1
      | some blk => rw [hs b blk e]; simp, h2, h3⟩ }
theorem HR.drew {hg : HG} {w : World} (h : HR V ρ hg w) : HR V ρ hg w.drew := h.same fun _ _ => rfl

/-- An append that has room. -/
theorem run_append_in {t ty e : TypeId} {i : TypeInfo} (ht : P.underlying t = some (.slice e)) (hi : P.info? e = some i) {g o sLen sCap m : Nat} {x : Value} {news : List Value} {w : World}
    (hlen : (Builtin.lenOf x).run P w = .ok m w) (hf : (Builtin.firstCells i.size m x).run P w = .ok news.toArray w) (hroom : sLen + m ≤ sCap) {cells : Array Value} {e' : TypeId} (hh : w.heap[g]? = some (.cells cells e' (0, 0)))
    (hfit : o + sLen * i.size + news.length ≤ cells.size) (h1 : ∀ u ∈ news, u.oneCell' = true) :
    (Builtin.append_ #[t, t] ty #[.slice (some ⟨g, o, none⟩) sLen sCap, x]).run P w = .ok (.slice (some ⟨g, o, none⟩) (sLen + m) sCap) (w.setCells g (o + sLen * i.size) news) := by
  have hc : ∀ j, j < news.length → (w.cell? ⟨g, o + sLen * i.size + 0 + j, none⟩).isSome = true := fun j hj => by
    unfold World.cell?; simp [hh]; omega
  have hz : ∀ j, j < news.length → w.frozen? ⟨g, o + sLen * i.size + 0 + j, none⟩ = false := fun j _ => by
    unfold World.frozen?; simp [hh]
  have hst := run_storeCells_cells (P := P) g (o + sLen * i.size) news 0 w hc hz h1
  simp only [Nat.add_zero] at hst
  simp [Builtin.append_, run_underlying ht, sizeOf, typeInfo, hi, hlen, hroom, hf, addr_add, hst]

/-- A slice, or none. -/
def SliceR (V : Val) (ρ : Rho) : Option (Nat × Nat × Nat × Cap) → Value → Prop
  | none, x => x = .slice none 0 0
  | some (b, o, l, c), x => CR V ρ (.sl b o l c) x
theorem asSlice_ok {x : Option SV} {s : Option (Nat × Nat × Nat × Cap)} (h : asSlice x = some s) {v : Value} (hv : ∀ u, x = some u → VR V ρ u v) : SliceR V ρ s v := by
  unfold asSlice at h
  split at h
  · simp only [Option.some.injEq] at h; subst h; exact hv _ rfl
  · simp only [Option.some.injEq] at h; subst h; exact hv _ rfl
  · cases h
/-- What is appended. -/
theorem src_ok {hg : HG} {w : World} (hh : HR V ρ hg w) {s : Option (Nat × Nat × Nat × Cap)} {size : Nat} {cs : List C}
    (hc : srcCells hg size (s.map fun q => (q.1, q.2.1, q.2.2.1)) = some cs) {x : Value}
    (hx : SliceR V ρ s x) :
    ∃ n news, n = srcLen (s.map fun q => (q.1, q.2.1, q.2.2.1)) ∧ All2 (CR V ρ) cs news ∧ news.length = n * size ∧
      (∀ (w' : World), w'.heap = w.heap → (Builtin.lenOf x).run P w' = .ok n w' ∧ (Builtin.firstCells size n x).run P w' = .ok news.toArray w') ∧
      ((s = none ∧ n = 0 ∧ x = .slice none 0 0) ∨ ∃ a c, x = .slice (some a) n c ∧ ∀ (j : Nat) (v : Value), news[j]? = some v → w.cell? (a.add j) = some v) := by
  cases s with
  | none =>
    simp only [Option.map_none, srcCells, Option.some.injEq] at hc
    subst hc
    unfold SliceR at hx
    subst hx
    exact ⟨0, [], rfl, trivial, by simp, fun w' _ => ⟨rfl, rfl⟩, .inl ⟨rfl, rfl, rfl⟩⟩
  | some q =>
    obtain ⟨b, o, l, c⟩ := q
    simp only [Option.map_some, srcCells] at hc
    obtain ⟨q, n, hq, rfl, hln, -⟩ := hx
    obtain ⟨q', vs, e, cells, e1, e2, e3, e4, e5, e6, e7⟩ := hh.range hc
    rw [hq] at e1
    simp only [Option.some.injEq] at e1
    subst e1
    have hcell : ∀ (w' : World), w'.heap = w.heap → ∀ (j : Nat) (v : Value), vs[j]? = some v → w'.cell? ((⟨q.1, q.2.1 + o, none⟩ : Addr).add j) = some v := fun w' hw' j v hj => by
      rw [addr_add]
      have := rangeAt_of (w := w') (o := q.2.1 + o) (n := l * size) (by rw [hw']; exact e2) j v (by rw [← e4]; exact hj)
      exact this
    refine ⟨l, vs, rfl, e6, e5, fun w' hw' => ⟨rfl, run_firstCells_some w' size l _ l n vs e5 (hcell w' hw')⟩, .inr ⟨_, n, rfl, hcell w rfl⟩⟩

/-- Appended where it lay: under a new name. -/
theorem Step.move {hg : HG} {w : World} (h : HR V ρ hg w) {nx : Nat} (hfresh : ρ nx = none) {b o : Nat} {old new : List C} {vs : List Value} {q : Nat × Nat × Nat × Option Nat} (hq : ρ b = some q) (hc : rangeC hg b o old.length = some old) (hv : All2 (CR V ρ) new vs)
    (hfit : o + (old.length + new.length) ≤ q.2.2.1) {v : SV} {rv : Value} (hval : VR V (put ρ nx (q.1, q.2.1 + o, q.2.2.1 - o, none)) v rv) (rb : List Nat) :
    Step V ρ hg nx w v (upd hg { v, wb := [(nx, some (old ++ new)), (b, none)], rb, nx := nx + 1 }) (nx + 1) (put ρ nx (q.1, q.2.1 + o, q.2.2.1 - o, none)) (w.setCells q.1 (q.2.1 + o + old.length) vs) rv := by
  have hx := put_ext (q := (q.1, q.2.1 + o, q.2.2.1 - o, none)) hfresh
  obtain ⟨blk, hb, hlen, hold⟩ := rangeC_ok hc
  obtain ⟨q', cells, e, e1, e2, e3, e4, e5⟩ := h.at_ b blk hb
  rw [hq] at e1
  simp only [Option.some.injEq] at e1
  subst e1
  have hbn : b ≠ nx := fun hh => by subst hh; rw [hfresh] at hq; cases hq
  have hvl := hv.len
  have hown : Owns ρ hg q.1 := ⟨b, q, by rw [hb]; simp, hq, rfl⟩
  have hupd : ∀ b', upd hg { v, wb := [(nx, some (old ++ new)), (b, none)], rb, nx := nx + 1 } b' = if b' = nx then some (old ++ new) else if b' = b then none else hg b' := fun b' => by
    unfold upd
    by_cases h1 : b' = nx
    · subst h1; simp [lookB, writeCells]
    · have n1 : Nat.beq nx b' = false := Bool.eq_false_iff.2 fun hh => h1 (Nat.eq_of_beq_eq_true hh).symm
      rw [if_neg h1]
      by_cases h2 : b' = b
      · subst h2; simp [lookB, n1]
      · have n2 : Nat.beq b b' = false := Bool.eq_false_iff.2 fun hh => h2 (Nat.eq_of_beq_eq_true hh).symm
        rw [if_neg h2]
        simp only [lookB, n1, n2, cond_false, Option.getD_none]
        cases hg b' <;> simp [writeCells]
  have hput : ∀ b', b' ≠ nx → put ρ nx (q.1, q.2.1 + o, q.2.2.1 - o, none) b' = ρ b' := fun b' hb => by unfold put; rw [if_neg hb]
  have hnone : ∀ b', hg b' ≠ none → b' ≠ nx := fun b' hb' hh => by
    subst hh
    cases hb2 : hg b' with
    | none => exact hb' hb2
    | some blk => obtain ⟨q, -, -, e1, -⟩ := h.at_ b' blk hb2; rw [hfresh] at e1; cases e1
  have hother : ∀ k, k ≠ q.1 → (w.setCells q.1 (q.2.1 + o + old.length) vs).heap[k]? = w.heap[k]? := fun k hn => heap_setCells_other _ w _ _ _ hn
  refine Step.parts h (fun b' q' j hb' hj => ?_) hx ?_ (by omega) hval ⟨?_, ?_⟩ (oo_setCells _ _ _ _).1 (tape_setCells _ _ _ _) (oo_setCells _ _ _ _).2 (by rw [size_setCells]; exact Nat.le_refl _) ?_ ?_
  · by_cases hn : b' = nx
    · subst hn; rw [put_same] at hb'; simp only [Option.some.injEq] at hb'; subst hb'; cases hj
    · rw [hput b' hn] at hb'; exact hb'
  · intro b' q' hb'
    by_cases hn : b' = nx
    · subst hn; exact .inr ⟨Nat.le_refl _, by omega⟩
    · rw [hput b' hn] at hb'; exact .inl hb'
  · intro b' blk' hb'
    rw [hupd] at hb'
    by_cases h1 : b' = nx
    · subst h1
      rw [if_pos rfl] at hb'
      simp only [Option.some.injEq] at hb'
      subst hb'
      refine ⟨_, ow cells (q.2.1 + o + old.length) vs, e, put_same, heap_setCells _ _ _ _ _ _ _ e2, by rw [ow_size]; simp only; omega, by simp only [List.length_append]; omega, ?_⟩
      intro i c hi
      simp only
      rw [ow_get _ _ _ _ (by omega)]
      rw [List.getElem?_append] at hi
      split at hi
      · rename_i hlt
        rw [if_neg (by omega)]
        have hi' : blk[o + i]? = some c := by
          rw [hold, List.getElem?_take, if_pos hlt, List.getElem?_drop] at hi
          exact hi
        obtain ⟨u, u1, u2⟩ := e5 _ _ hi'
        exact ⟨u, by rw [Nat.add_assoc]; exact u1, u2.ext hx⟩
      · rename_i hge
        have hlt2 : i - old.length < new.length := by
          rcases Nat.lt_or_ge (i - old.length) new.length with g | g
          · exact g
          · rw [List.getElem?_eq_none g] at hi; cases hi
        rw [if_pos (by omega)]
        obtain ⟨u, u1, u2⟩ := hv.get hi
        exact ⟨u, by rw [show q.2.1 + o + i - (q.2.1 + o + old.length) = i - old.length by omega]; exact u1, u2.ext hx⟩
    · rw [if_neg h1] at hb'
      by_cases h2 : b' = b
      · rw [if_pos h2] at hb'; cases hb'
      · rw [if_neg h2] at hb'
        obtain ⟨q', cells', e', f1, f2, f3, f4, f5⟩ := h.at_ b' blk' hb'
        have hq' : q'.1 ≠ q.1 := fun hh => h2 (h.inj b' b q' q (by rw [hb']; simp) (by rw [hb]; simp) f1 hq hh)
        refine ⟨q', cells', e', hx _ _ f1, by rw [hother _ hq']; exact f2, f3, f4, fun i c hi => ?_⟩
        obtain ⟨u, u1, u2⟩ := f5 i c hi
        exact ⟨u, u1, u2.ext hx⟩
  · intro b1 b2 q1 q2 h1 h2 g1 g2 hqq
    rw [hupd] at h1 h2
    have aux : ∀ b3 q3, b3 ≠ nx → (if b3 = nx then some (old ++ new) else if b3 = b then none else hg b3) ≠ none → put ρ nx (q.1, q.2.1 + o, q.2.2.1 - o, none) b3 = some q3 → hg b3 ≠ none ∧ b3 ≠ b ∧ ρ b3 = some q3 := fun b3 q3 n3 h3 g3 => by
      rw [if_neg n3] at h3
      by_cases hb3 : b3 = b
      · rw [if_pos hb3] at h3; exact absurd rfl h3
      · rw [if_neg hb3] at h3; rw [hput _ n3] at g3; exact ⟨h3, hb3, g3⟩
    by_cases n1 : b1 = nx <;> by_cases n2 : b2 = nx
    · rw [n1, n2]
    · exfalso
      obtain ⟨k1, k2, k3⟩ := aux b2 q2 n2 h2 g2
      rw [n1, put_same] at g1
      simp only [Option.some.injEq] at g1
      subst g1
      exact k2 (h.inj b2 b q2 q k1 (by rw [hb]; simp) k3 hq hqq.symm)
    · exfalso
      obtain ⟨k1, k2, k3⟩ := aux b1 q1 n1 h1 g1
      rw [n2, put_same] at g2
      simp only [Option.some.injEq] at g2
      subst g2
      exact k2 (h.inj b1 b q1 q k1 (by rw [hb]; simp) k3 hq hqq)
    · obtain ⟨k1, k2, k3⟩ := aux b1 q1 n1 h1 g1
      obtain ⟨l1, l2, l3⟩ := aux b2 q2 n2 h2 g2
      exact h.inj b1 b2 q1 q2 k1 l1 k3 l3 hqq
  · intro k hk hn
    exact hother k fun hh => hn (hh ▸ hown)
  · rintro k ⟨b1, q1, h1, g1, rfl⟩
    rw [hupd] at h1
    by_cases n1 : b1 = nx
    · rw [n1, put_same] at g1
      simp only [Option.some.injEq] at g1
      subst g1
      exact .inl hown
    · rw [if_neg n1] at h1
      rw [hput _ n1] at g1
      by_cases hb3 : b1 = b
      · rw [if_pos hb3] at h1; exact absurd rfl h1
      · rw [if_neg hb3] at h1
        exact .inl ⟨b1, q1, h1, g1, rfl⟩
end Go.Proofs.Ytbepaoliboooaaa.Ex
