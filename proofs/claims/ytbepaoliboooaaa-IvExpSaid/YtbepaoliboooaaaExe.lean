/-
  The runner's blocks beside Go's memory; a step; loads, stores, new blocks.
-/
import Derived.Test.YtbepaoliboooaaaExd
namespace Go.Proofs.Ytbepaoliboooaaa.Ex
open Go
variable {P : Program} {V : Val} {ρ : Rho}

abbrev HG := Nat → Option Blk

structure HR0 (V : Val) (ρ : Rho) (hg : HG) (w : World) : Prop where
  at_ : ∀ b blk, hg b = some blk → ∃ q cs e, ρ b = some q ∧ w.heap[q.1]? = some (.cells cs e (0, 0)) ∧ q.2.1 + q.2.2.1 ≤ cs.size ∧ blk.length ≤ q.2.2.1 ∧
    ∀ i c, blk[i]? = some c → ∃ v, cs[q.2.1 + i]? = some v ∧ CR V ρ c v
  inj : ∀ b b' q q', hg b ≠ none → hg b' ≠ none → ρ b = some q → ρ b' = some q' → q.1 = q'.1 → b = b'

def Owns (ρ : Rho) (hg : HG) (k : Nat) : Prop := ∃ b q, hg b ≠ none ∧ ρ b = some q ∧ q.1 = k

/-- What nobody changes lies where it lay. -/
structure HR (V : Val) (ρ : Rho) (hg : HG) (w : World) : Prop extends HR0 V ρ hg w where
  ro : ∀ b q j, ρ b = some q → q.2.2.2 = some j → (q.1 < w.heap.size ∧ ∀ (i : Nat) (v : Value), (V.arr j)[i]? = some v → w.cell? ⟨q.1, q.2.1 + i, none⟩ = some v) ∧ ¬ Owns ρ hg q.1

structure Step (V : Val) (ρ : Rho) (hg : HG) (nx : Nat) (w : World) (v : SV) (hg' : HG) (nx' : Nat) (ρ' : Rho) (w' : World) (rv : Value) : Prop where
  ext : Ext ρ ρ'
  new : ∀ b q, ρ' b = some q → ρ b = some q ∨ (nx ≤ b ∧ b < nx')
  le : nx ≤ nx'
  val : VR V ρ' v rv
  hr : HR V ρ' hg' w'
  os : w'.os = w.os
  tape : w'.tape = w.tape
  output : w'.output = w.output
  size : w.heap.size ≤ w'.heap.size
  keep : ∀ k, k < w.heap.size → ¬ Owns ρ hg k → w'.heap[k]? = w.heap[k]?
  frz : ∀ b q j, ρ' b = some q → q.2.2.2 = some j → ρ b = some q ∨ w.heap.size ≤ q.1
  own : ∀ k, Owns ρ' hg' k → Owns ρ hg k ∨ w.heap.size ≤ k

theorem HR.lt {hg : HG} {w : World} (h : HR V ρ hg w) {k : Nat} (ho : Owns ρ hg k) : k < w.heap.size := by
  obtain ⟨b, q, h1, h2, rfl⟩ := ho
  cases hb : hg b with
  | none => exact absurd hb h1
  | some blk =>
    obtain ⟨q', cs, e, e1, e2, -⟩ := h.at_ b blk hb
    rw [h2] at e1
    simp only [Option.some.injEq] at e1
    subst e1
    rcases Nat.lt_or_ge q.1 w.heap.size with g | g
    · exact g
    · rw [Array.getElem?_eq_none g] at e2; cases e2

theorem cell_same {w w' : World} {k o : Nat} (h : w'.heap[k]? = w.heap[k]?) : w'.cell? ⟨k, o, none⟩ = w.cell? ⟨k, o, none⟩ := by
  unfold World.cell?; simp only [h]
theorem lt_of_get {w w' : World} {k : Nat} (hk : k < w.heap.size) (h : w'.heap[k]? = w.heap[k]?) : k < w'.heap.size := by
  rcases Nat.lt_or_ge k w'.heap.size with g | g
  · exact g
  · rw [Array.getElem?_eq_none g, Array.getElem?_eq_getElem hk] at h; cases h
theorem HR.same {hg : HG} {w w' : World} (h : HR V ρ hg w) (hk : ∀ k, k < w.heap.size → w'.heap[k]? = w.heap[k]?) : HR V ρ hg w' := by
  refine ⟨⟨fun b blk hb => ?_, h.inj⟩, fun b q j h1 h2 => ?_⟩
  · obtain ⟨q, cs, e, e1, e2, e3⟩ := h.at_ b blk hb
    exact ⟨q, cs, e, e1, by rw [hk q.1 (h.lt ⟨b, q, by rw [hb]; simp, e1, rfl⟩)]; exact e2, e3⟩
  · obtain ⟨⟨e1, e2⟩, e3⟩ := h.ro b q j h1 h2
    exact ⟨⟨lt_of_get e1 (hk q.1 e1), fun i v hv => by rw [cell_same (hk q.1 e1)]; exact e2 i v hv⟩, e3⟩

/-- What nobody changes is not changed. -/
theorem Step.parts {hg hg' : HG} {nx nx' : Nat} {w w' : World} {v : SV} {rv : Value} {ρ' : Rho} (h : HR V ρ hg w) (hfz : ∀ b q j, ρ' b = some q → q.2.2.2 = some j → ρ b = some q)
    (ext : Ext ρ ρ') (new : ∀ b q, ρ' b = some q → ρ b = some q ∨ (nx ≤ b ∧ b < nx')) (le : nx ≤ nx') (val : VR V ρ' v rv) (hr : HR0 V ρ' hg' w') (os : w'.os = w.os) (tape : w'.tape = w.tape) (output : w'.output = w.output) (size : w.heap.size ≤ w'.heap.size)
    (keep : ∀ k, k < w.heap.size → ¬ Owns ρ hg k → w'.heap[k]? = w.heap[k]?) (own : ∀ k, Owns ρ' hg' k → Owns ρ hg k ∨ w.heap.size ≤ k) : Step V ρ hg nx w v hg' nx' ρ' w' rv := by
  refine ⟨ext, new, le, val, ⟨hr, fun b q j h1 h2 => ?_⟩, os, tape, output, size, keep, fun b q j h1 h2 => .inl (hfz b q j h1 h2), own⟩
  obtain ⟨⟨e1, e2⟩, e3⟩ := h.ro b q j (hfz b q j h1 h2) h2
  have hsame := keep q.1 e1 e3
  refine ⟨⟨lt_of_get e1 hsame, fun i v hv => by rw [cell_same hsame]; exact e2 i v hv⟩, fun ho => ?_⟩
  rcases own q.1 ho with g | g
  · exact e3 g
  · omega

theorem HR.drewN {hg : HG} {w : World} (h : HR V ρ hg w) (n : Nat) : HR V ρ hg (w.drewN n) := h.same fun _ _ => rfl

theorem Step.refl {hg : HG} {nx : Nat} {w : World} {v : SV} {rv : Value} (h : HR V ρ hg w) (hv : VR V ρ v rv) (n : Nat) : Step V ρ hg nx w v hg nx ρ (w.drewN n) rv :=
  ⟨.refl _, fun _ _ h => .inl h, Nat.le_refl _, hv, h.drewN n, rfl, rfl, rfl, Nat.le_refl _, fun _ _ _ => rfl, fun _ _ _ h _ => .inl h, fun _ h => .inl h⟩

theorem Step.trans {hg hg1 hg2 : HG} {nx nx1 nx2 : Nat} {w w1 w2 : World} {v1 v2 : SV} {r1 r2 : Value} {ρ1 ρ2 : Rho}
    (a : Step V ρ hg nx w v1 hg1 nx1 ρ1 w1 r1) (b : Step V ρ1 hg1 nx1 w1 v2 hg2 nx2 ρ2 w2 r2) : Step V ρ hg nx w v2 hg2 nx2 ρ2 w2 r2 where
  ext := a.ext.trans b.ext
  new := fun c q h => by
    rcases b.new c q h with g | g
    · rcases a.new c q g with g | g
      · exact .inl g
      · exact .inr ⟨g.1, Nat.lt_of_lt_of_le g.2 b.le⟩
    · exact .inr ⟨Nat.le_trans a.le g.1, g.2⟩
  le := Nat.le_trans a.le b.le
  val := b.val
  hr := b.hr
  os := b.os.trans a.os
  tape := b.tape.trans a.tape
  output := b.output.trans a.output
  size := Nat.le_trans a.size b.size
  keep := fun k hk hn => by
    rw [b.keep k (Nat.lt_of_lt_of_le hk a.size) fun ho => ?_, a.keep k hk hn]
    rcases a.own k ho with g | g
    · exact hn g
    · omega
  frz := fun c q j h1 h2 => by
    rcases b.frz c q j h1 h2 with g | g
    · exact a.frz c q j g h2
    · exact .inr (Nat.le_trans a.size g)
  own := fun k ho => by
    rcases b.own k ho with g | g
    · exact a.own k g
    · exact .inr (Nat.le_trans a.size g)

theorem Step.withVal {hg hg' : HG} {nx nx' : Nat} {w w' : World} {v u : SV} {rv ru : Value} {ρ' : Rho} (a : Step V ρ hg nx w v hg' nx' ρ' w' rv) (h : VR V ρ' u ru) : Step V ρ hg nx w u hg' nx' ρ' w' ru :=
  { a with val := h }
theorem Step.eqG {hg hg' hg'' : HG} {nx nx' : Nat} {w w' : World} {v : SV} {rv : Value} {ρ' : Rho} (a : Step V ρ hg nx w v hg' nx' ρ' w' rv) (h : hg' = hg'') : Step V ρ hg nx w v hg'' nx' ρ' w' rv := h ▸ a

/-! ### Cells written one by one -/
def ow : Array Value → Nat → List Value → Array Value
  | c, _, [] => c
  | c, o, v :: r => ow (c.setIfInBounds o v) (o + 1) r
theorem ow_size : ∀ (vs : List Value) (c : Array Value) (o : Nat), (ow c o vs).size = c.size
  | [], _, _ => rfl
  | v :: r, c, o => by rw [ow, ow_size r]; simp
theorem ow_get : ∀ (vs : List Value) (c : Array Value) (o i : Nat), o + vs.length ≤ c.size → (ow c o vs)[i]? = if o ≤ i ∧ i < o + vs.length then vs[i - o]? else c[i]?
  | [], c, o, i, _ => by rw [ow, if_neg (by simp)]
  | v :: r, c, o, i, h => by
    simp only [List.length_cons] at h ⊢
    rw [ow, ow_get r _ _ _ (by simp; omega)]
    by_cases h1 : i = o
    · subst h1
      rw [if_neg (by omega), if_pos (by omega), Array.getElem?_setIfInBounds, if_pos rfl, if_pos (by omega)]
      simp
    · by_cases h2 : o + 1 ≤ i ∧ i < o + 1 + r.length
      · rw [if_pos h2, if_pos (by omega), show i - o = (i - (o + 1)) + 1 by omega]; rfl
      · rw [if_neg h2, if_neg (by omega), Array.getElem?_setIfInBounds, if_neg (by omega)]
theorem heap_setCells : ∀ (vs : List Value) (w : World) (b o : Nat) (cs : Array Value) (e : TypeId) (fz : Nat × Nat), w.heap[b]? = some (.cells cs e fz) → (w.setCells b o vs).heap[b]? = some (.cells (ow cs o vs) e fz)
  | [], _, _, _, _, _, _, h => h
  | v :: r, w, b, o, cs, e, fz, h => by
    rw [World.setCells, ow]
    refine heap_setCells r _ _ _ _ _ _ ?_
    simp only [World.setCell, Array.getElem?_modify, if_true, h, Option.map_some]
    simp
theorem heap_setCells_other : ∀ (vs : List Value) (w : World) (b o k : Nat), k ≠ b → (w.setCells b o vs).heap[k]? = w.heap[k]?
  | [], _, _, _, _, _ => rfl
  | v :: r, w, b, o, k, h => by
    rw [World.setCells, heap_setCells_other r _ _ _ _ h]
    simp only [World.setCell, Array.getElem?_modify]
    rw [if_neg (by omega)]
theorem oo_setCells : ∀ (vs : List Value) (w : World) (b o : Nat), (w.setCells b o vs).os = w.os ∧ (w.setCells b o vs).output = w.output
  | [], _, _, _ => ⟨rfl, rfl⟩
  | v :: r, w, b, o => by rw [World.setCells]; exact oo_setCells r _ _ _
theorem heap_alloc_new (w : World) (o : Obj) : (w.alloc o).heap[w.heap.size]? = some o := by
  show (w.heap.push o)[w.heap.size]? = some o
  simp
theorem tape_setCells : ∀ (vs : List Value) (w : World) (b o : Nat), (w.setCells b o vs).tape = w.tape
  | [], _, _, _ => rfl
  | v :: r, w, b, o => by rw [World.setCells, tape_setCells r]; rfl
theorem size_setCells : ∀ (vs : List Value) (w : World) (b o : Nat), (w.setCells b o vs).heap.size = w.heap.size
  | [], _, _, _ => rfl
  | v :: r, w, b, o => by rw [World.setCells, size_setCells r]; simp [World.setCell]

theorem writeCells_len : ∀ (l : List (Nat × Nat × C)) (b : Nat) (blk : Blk), (writeCells b blk l).length = blk.length
  | [], _, _ => rfl
  | (b', o, c) :: l, b, blk => by
    rw [writeCells, writeCells_len l]
    cases Nat.beq b' b <;> simp
theorem writeCells_other : ∀ (cs : List C) (o b b' : Nat) (blk : Blk), b ≠ b' → writeCells b' blk (cellWrites b o cs) = blk
  | [], _, _, _, _, _ => rfl
  | c :: cs, o, b, b', blk, h => by
    have : Nat.beq b b' = false := Bool.eq_false_iff.2 fun hh => h (Nat.eq_of_beq_eq_true hh)
    rw [cellWrites, writeCells, this]
    exact writeCells_other cs (o + 1) b b' blk h
theorem writeCells_get : ∀ (cs : List C) (o b i : Nat) (blk : Blk), o + cs.length ≤ blk.length → (writeCells b blk (cellWrites b o cs))[i]? = if o ≤ i ∧ i < o + cs.length then cs[i - o]? else blk[i]?
  | [], o, b, i, blk, _ => by rw [cellWrites, writeCells, if_neg (by simp)]
  | c :: cs, o, b, i, blk, h => by
    simp only [List.length_cons] at h ⊢
    have : Nat.beq b b = true := by simp
    rw [cellWrites, writeCells, this]
    simp only [cond_true]
    rw [writeCells_get cs _ _ _ _ (by simp; omega)]
    by_cases h1 : i = o
    · subst h1
      rw [if_neg (by omega), if_pos (by omega), List.getElem?_set, if_pos rfl, if_pos (by omega)]
      simp
    · by_cases h2 : o + 1 ≤ i ∧ i < o + 1 + cs.length
      · rw [if_pos h2, if_pos (by omega), show i - o = (i - (o + 1)) + 1 by omega]; rfl
      · rw [if_neg h2, if_neg (by omega), List.getElem?_set, if_neg (by omega)]

/-- The blocks behind what was done. -/
def upd (hg : HG) (r : Rec) : HG := fun b => ((lookB r.wb b).getD (hg b)).map fun blk => writeCells b blk r.wc

theorem upd_none {hg : HG} {r : Rec} (h1 : r.wb = []) (h2 : r.wc = []) : upd hg r = hg := by
  funext b
  unfold upd
  rw [h1, h2]
  simp [lookB, writeCells]

theorem rangeC_ok {hg : HG} {b o n : Nat} {cs : List C} (h : rangeC hg b o n = some cs) : ∃ blk, hg b = some blk ∧ o + n ≤ blk.length ∧ cs = (blk.drop o).take n := by
  unfold rangeC at h
  cases hb : hg b with
  | none => rw [hb] at h; simp at h
  | some blk =>
    rw [hb] at h
    simp only at h
    cases hc : Nat.ble (o + n) blk.length <;> rw [hc] at h
    · simp at h
    · simp only [cond_true, Option.some.injEq] at h
      exact ⟨blk, rfl, Nat.le_of_ble_eq_true hc, h.symm⟩

/-- What lies in a range. -/
theorem HR.range {hg : HG} {w : World} (h : HR V ρ hg w) {b o n : Nat} {cs : List C} (hc : rangeC hg b o n = some cs) :
    ∃ q vs e cells, ρ b = some q ∧ w.heap[q.1]? = some (.cells cells e (0, 0)) ∧ q.2.1 + o + n ≤ cells.size ∧ vs = (cells.toList.drop (q.2.1 + o)).take n ∧ vs.length = n ∧ All2 (CR V ρ) cs vs ∧ cs.length = n := by
  obtain ⟨blk, h1, h2, rfl⟩ := rangeC_ok hc
  obtain ⟨q, cells, e, e1, e2, e3, e4, e5⟩ := h.at_ b blk h1
  have hl : ((cells.toList.drop (q.2.1 + o)).take n).length = n := by simp; omega
  refine ⟨q, _, e, cells, e1, e2, by omega, rfl, hl, ?_, by simp; omega⟩
  have gen : ∀ (m k : Nat), k + m ≤ blk.length → All2 (CR V ρ) ((blk.drop k).take m) ((cells.toList.drop (q.2.1 + k)).take m) := by
    intro m
    induction m with
    | zero => intro k _; simp [All2]
    | succ m ih =>
      intro k hk
      have hk' : k < blk.length := by omega
      obtain ⟨v, hv, hcv⟩ := e5 k blk[k] (by simp [hk'])
      have hv' : cells.toList[q.2.1 + k]? = some v := by simpa using hv
      have hlt : q.2.1 + k < cells.toList.length := by simp; omega
      have hv2 : cells.toList[q.2.1 + k] = v := by rw [List.getElem?_eq_getElem hlt] at hv'; simpa using hv'
      rw [List.drop_eq_getElem_cons hk', List.drop_eq_getElem_cons hlt, List.take_succ_cons, List.take_succ_cons, hv2]
      exact ⟨hcv, by have := ih (k + 1) (by omega); rwa [← Nat.add_assoc] at this⟩
  exact gen n o h2

theorem rangeAt_of {w : World} {b o n : Nat} {cells : Array Value} {e : TypeId} {fz : Nat × Nat} (h : w.heap[b]? = some (.cells cells e fz)) : w.rangeAt b o ((cells.toList.drop o).take n) := by
  intro j v hj
  unfold World.cell?
  simp only [h]
  rw [List.getElem?_take] at hj
  split at hj
  · rw [List.getElem?_drop] at hj
    simpa using hj
  · cases hj

/-- A load. -/
theorem load_ok {hg : HG} {w : World} (h : HR V ρ hg w) {t : TypeId} {b o n : Nat} {cs : List C} {agg : Bool} (ha : isAggP P t = some agg) (hs : sizeP P t = some n) (hc : rangeC hg b o (bif agg then n else 1) = some cs)
    {q : Nat × Nat × Nat × Option Nat} (hq : ρ b = some q) :
    ∃ vs : List Value, All2 (CR V ρ) cs vs ∧ (agg = true → (Instr.loadAt t (.pointer (some ⟨q.1, q.2.1 + o, none⟩))).run P w = .ok (.agg vs.toArray) w) ∧ (agg = false → ∃ v, vs = [v] ∧ (Instr.loadAt t (.pointer (some ⟨q.1, q.2.1 + o, none⟩))).run P w = .ok v w) := by
  obtain ⟨q', vs, e, cells, e1, e2, e3, e4, e5, e6, e7⟩ := h.range hc
  rw [hq] at e1
  simp only [Option.some.injEq] at e1
  subst e1
  refine ⟨vs, e6, fun hh => ?_, fun hh => ?_⟩
  · subst hh
    obtain ⟨d, hu, hd⟩ := isAggP_true ha
    subst e4
    simp only [cond_true] at e5
    exact run_loadAt_mid w _ _ t _ d (rangeAt_of e2) hu hd (by rw [show (P.info? t).map (·.size) = some n from hs, cond_true, e5])
  · subst hh
    simp only [cond_false] at e5
    match vs, e5 with
    | [v], _ =>
      refine ⟨v, rfl, ?_⟩
      have hcell : w.cell? ⟨q.1, q.2.1 + o, none⟩ = some v := by
        have := rangeAt_of (o := q.2.1 + o) (n := 1) e2 0 v (by rw [cond_false] at e4; rw [← e4]; rfl)
        simpa using this
      simp [Instr.loadAt, Instr.sureAddr, loadVar, run_isAgg ha, hcell]

/-- A store. -/
theorem run_store {w : World} {t : TypeId} {b o : Nat} {v : Value} {cells : Array Value} {e : TypeId} (hs : sizeP P t = some v.cells.size) (hh : w.heap[b]? = some (.cells cells e (0, 0))) (hl : o + v.cells.size ≤ cells.size) (h1 : ∀ x ∈ v.cells.toList, x.oneCell' = true) :
    (Instr.storeAt t (.pointer (some ⟨b, o, none⟩)) v).run P w = .ok () (w.setCells b o v.cells.toList) := by
  have hc : ∀ j, j < v.cells.toList.length → (w.cell? ⟨b, o + j, none⟩).isSome = true := fun j hj => by
    simp only [Array.length_toList] at hj
    unfold World.cell?; simp [hh]; omega
  have hf : ∀ j, j < v.cells.toList.length → w.frozen? ⟨b, o + j, none⟩ = false := fun j _ => by
    unfold World.frozen?; simp [hh]
  have := run_storeCells_cells (P := P) b o v.cells.toList 0 w (by simpa using hc) (by simpa using hf) h1
  simp [Instr.storeAt, Instr.sureAddr, storeVar, run_sizeP hs, this]

theorem All2.one {cs : List C} {vs : List Value} (h : All2 (CR V ρ) cs vs) : ∀ x ∈ vs, x.oneCell' = true := by
  induction cs generalizing vs with
  | nil => cases vs <;> simp [All2] at h ⊢
  | cons c cs ih =>
    cases vs with
    | nil => simp [All2] at h
    | cons v vs =>
      intro x hx
      rcases List.mem_cons.1 hx with rfl | hx
      · exact CR.one h.1
      · exact ih h.2 x hx

theorem Step.cells {hg : HG} {w : World} (h : HR V ρ hg w) {nx b o : Nat} {cs old : List C} {vs : List Value} (hc : rangeC hg b o cs.length = some old) (hv : All2 (CR V ρ) cs vs)
    {q : Nat × Nat × Nat × Option Nat} (hq : ρ b = some q) {v : SV} {rv : Value} (hval : VR V ρ v rv) :
    Step V ρ hg nx w v (upd hg { v, wc := cellWrites b o cs, nx }) nx ρ (w.setCells q.1 (q.2.1 + o) vs) rv := by
  obtain ⟨blk, hb, hlen, -⟩ := rangeC_ok hc
  obtain ⟨q', cells, e, e1, e2, e3, e4, e5⟩ := h.at_ b blk hb
  rw [hq] at e1
  simp only [Option.some.injEq] at e1
  subst e1
  have hvl := hv.len
  have hown : Owns ρ hg q.1 := ⟨b, q, by rw [hb]; simp, hq, rfl⟩
  have hlt := h.lt hown
  have hne : ∀ b', upd hg { v, wc := cellWrites b o cs, nx } b' ≠ none ↔ hg b' ≠ none := fun b' => by unfold upd; simp [lookB]
  have hsame : ∀ k, Owns ρ (upd hg { v, wc := cellWrites b o cs, nx }) k ↔ Owns ρ hg k := fun k =>
    ⟨fun ⟨b', q', h1, h2⟩ => ⟨b', q', (hne b').1 h1, h2⟩, fun ⟨b', q', h1, h2⟩ => ⟨b', q', (hne b').2 h1, h2⟩⟩
  have hother : ∀ k, k < w.heap.size → k ≠ q.1 → (w.setCells q.1 (q.2.1 + o) vs).heap[k]? = w.heap[k]? := fun k hk hn => heap_setCells_other _ w _ _ _ hn
  refine Step.parts h (fun _ _ _ h _ => h) (.refl _) (fun _ _ h => .inl h) (Nat.le_refl _) hval ⟨?_, ?_⟩ (oo_setCells _ _ _ _).1 (tape_setCells _ _ _ _) (oo_setCells _ _ _ _).2 (by rw [size_setCells]; exact Nat.le_refl _) ?_ ?_
  · intro b' blk' hb'
    by_cases hbb : b = b'
    · subst hbb
      have hblk : blk' = writeCells b blk (cellWrites b o cs) := by
        unfold upd at hb'
        simp only [lookB, hb, Option.getD_none, Option.map_some, Option.some.injEq] at hb'
        exact hb'.symm
      subst hblk
      refine ⟨q, ow cells (q.2.1 + o) vs, e, hq, heap_setCells _ _ _ _ _ _ _ e2, by rw [ow_size]; exact e3, by rw [writeCells_len]; exact e4, ?_⟩
      intro i c hi
      rw [writeCells_get _ _ _ _ _ hlen] at hi
      rw [ow_get _ _ _ _ (by omega)]
      split at hi
      · rename_i hin
        rw [if_pos (by omega)]
        obtain ⟨u, h1, h2⟩ := hv.get hi
        exact ⟨u, by rw [show q.2.1 + i - (q.2.1 + o) = i - o by omega]; exact h1, h2⟩
      · rename_i hin
        rw [if_neg (by omega)]
        exact e5 i c hi
    · have hb2 : hg b' = some blk' := by
        unfold upd at hb'
        simp only [lookB, Option.getD_none] at hb'
        cases hh : hg b' with
        | none => rw [hh] at hb'; simp at hb'
        | some x =>
          rw [hh] at hb'
          simp only [Option.map_some, Option.some.injEq] at hb'
          rw [writeCells_other _ _ _ _ _ hbb] at hb'
          rw [hb']
      obtain ⟨q', cells', e', f1, f2, f3, f4, f5⟩ := h.at_ b' blk' hb2
      refine ⟨q', cells', e', f1, ?_, f3, f4, f5⟩
      have hq' : q'.1 ≠ q.1 := fun hh => hbb (h.inj b b' q q' (by rw [hb]; simp) (by rw [hb2]; simp) hq f1 hh.symm)
      rw [hother _ (h.lt ⟨b', q', by rw [hb2]; simp, f1, rfl⟩) hq']
      exact f2
  · intro b1 b2 q1 q2 h1 h2
    exact h.inj b1 b2 q1 q2 ((hne b1).1 h1) ((hne b2).1 h2)
  · intro k hk hn
    exact hother k hk fun hh => hn (hh ▸ hown)
  · intro k hk
    exact .inl ((hsame k).1 hk)

/-- A new block. -/
def put (ρ : Rho) (b : Nat) (q : Nat × Nat × Nat × Option Nat) : Rho := fun b' => if b' = b then some q else ρ b'
theorem put_ext {b : Nat} {q : Nat × Nat × Nat × Option Nat} (h : ρ b = none) : Ext ρ (put ρ b q) := fun b' q' h' => by
  unfold put
  by_cases hb : b' = b
  · subst hb; rw [h] at h'; cases h'
  · rw [if_neg hb]; exact h'

theorem Step.new_ {hg : HG} {w : World} (h : HR V ρ hg w) {nx : Nat} (hfresh : ρ nx = none) {cs : List C} {vs : Array Value} (hv : ∀ (i : Nat) (c : C), cs[i]? = some c → ∃ v, vs[i]? = some v ∧ CR V ρ c v) (hle : cs.length ≤ vs.size) (e : TypeId) {v : SV} {rv : Value}
    (hval : VR V (put ρ nx (w.heap.size, 0, vs.size, none)) v rv) (rb : List Nat) :
    Step V ρ hg nx w v (upd hg { v, wb := [(nx, some cs)], rb, nx := nx + 1 }) (nx + 1) (put ρ nx (w.heap.size, 0, vs.size, none)) (w.alloc (.cells vs e)) rv := by
  have hx := put_ext (q := (w.heap.size, 0, vs.size, none)) hfresh
  have hupd : ∀ b, upd hg { v, wb := [(nx, some cs)], rb, nx := nx + 1 } b = if b = nx then some cs else hg b := fun b => by
    unfold upd
    by_cases hb : b = nx
    · subst hb; simp [lookB, writeCells]
    · have : Nat.beq nx b = false := Bool.eq_false_iff.2 fun hh => hb (Nat.eq_of_beq_eq_true hh).symm
      rw [if_neg hb]
      simp only [lookB, this, cond_false, Option.getD_none]
      cases hg b <;> simp [writeCells]
  have hnone : ∀ b, hg b ≠ none → b ≠ nx := fun b hb hh => by
    subst hh
    cases hb' : hg b with
    | none => exact hb hb'
    | some blk => obtain ⟨q, -, -, e1, -⟩ := h.at_ b blk hb'; rw [hfresh] at e1; cases e1
  have hput : ∀ b, b ≠ nx → put ρ nx (w.heap.size, 0, vs.size, none) b = ρ b := fun b hb => by unfold put; rw [if_neg hb]
  have hputn : put ρ nx (w.heap.size, 0, vs.size, none) nx = some (w.heap.size, 0, vs.size, none) := by unfold put; rw [if_pos rfl]
  refine Step.parts h (fun b q j hb hj => ?_) hx ?_ (by omega) hval ⟨?_, ?_⟩ rfl rfl rfl (by simp) ?_ ?_
  · by_cases hn : b = nx
    · subst hn; rw [hputn] at hb; simp only [Option.some.injEq] at hb; subst hb; cases hj
    · rw [hput b hn] at hb; exact hb
  · intro b q hb
    by_cases hn : b = nx
    · subst hn; exact .inr ⟨Nat.le_refl _, by omega⟩
    · rw [hput b hn] at hb; exact .inl hb
  · intro b blk hb
    rw [hupd] at hb
    by_cases hn : b = nx
    · subst hn
      rw [if_pos rfl] at hb
      simp only [Option.some.injEq] at hb
      subst hb
      refine ⟨_, vs, e, hputn, heap_alloc_new w _, by simp, hle, fun i c hi => ?_⟩
      obtain ⟨u, h1, h2⟩ := hv i c hi
      exact ⟨u, by simpa using h1, h2.ext hx⟩
    · rw [if_neg hn] at hb
      obtain ⟨q, cells, e', f1, f2, f3, f4, f5⟩ := h.at_ b blk hb
      refine ⟨q, cells, e', by rw [hput b hn]; exact f1, ?_, f3, f4, fun i c hi => ?_⟩
      · rw [Go.RowKit.Below.heap_alloc _ _ _ (h.lt ⟨b, q, by rw [hb]; simp, f1, rfl⟩)]; exact f2
      · obtain ⟨u, h1, h2⟩ := f5 i c hi
        exact ⟨u, h1, h2.ext hx⟩
  · intro b1 b2 q1 q2 h1 h2 g1 g2 hq
    rw [hupd] at h1 h2
    by_cases n1 : b1 = nx
    · by_cases n2 : b2 = nx
      · rw [n1, n2]
      · exfalso
        subst n1
        rw [hputn] at g1
        rw [hput b2 n2] at g2
        rw [if_neg n2] at h2
        have := h.lt ⟨b2, q2, h2, g2, rfl⟩
        simp only [Option.some.injEq] at g1
        subst g1
        simp at hq
        omega
    · by_cases n2 : b2 = nx
      · exfalso
        subst n2
        rw [hputn] at g2
        rw [hput b1 n1] at g1
        rw [if_neg n1] at h1
        have := h.lt ⟨b1, q1, h1, g1, rfl⟩
        simp only [Option.some.injEq] at g2
        subst g2
        simp at hq
        omega
      · rw [hput _ n1] at g1
        rw [hput _ n2] at g2
        rw [if_neg n1] at h1
        rw [if_neg n2] at h2
        exact h.inj b1 b2 q1 q2 h1 h2 g1 g2 hq
  · intro k hk _
    exact Go.RowKit.Below.heap_alloc _ _ _ hk
  · rintro k ⟨b, q, h1, h2, rfl⟩
    rw [hupd] at h1
    by_cases hn : b = nx
    · subst hn
      rw [hputn] at h2
      simp only [Option.some.injEq] at h2
      subst h2
      exact .inr (Nat.le_refl _)
    · rw [if_neg hn] at h1
      rw [hput b hn] at h2
      exact .inl ⟨b, q, h1, h2, rfl⟩
end Go.Proofs.Ytbepaoliboooaaa.Ex
