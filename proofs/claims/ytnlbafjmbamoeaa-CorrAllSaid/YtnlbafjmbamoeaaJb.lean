/-
  Numbers that bear how they change: sums, products, quotients, as the program makes them.
-/
import Derived.Test.YtnlbafjmbamoeaaJa
import Derived.Deep.RegionHeld3
namespace Go.Proofs.Ytnlbafjmbamoeaa
open Go.RowKit
open Ieee (double)
attribute [local go_sem] alloc_drewN setCell_drewN call_bits call_frombits ord_lt ord_eq ord_gt ord_ne ord_le ord_ge eqB_self run_fadd run_fsub run_fmul run_fquo haStoreFlt takeOp pureOp readsUpon doOp

theorem at_block {w : World} {b : Nat} {cs : Array Value} {t : TypeId} {fr : Nat × Nat} (h : w.heap[b]? = some (.cells cs t fr)) (o : Nat) : w.cell? ⟨b, o, none⟩ = cs[o]? := by simp [World.cell?, h]
theorem lt_block {w : World} {b : Nat} {o : Obj} (h : w.heap[b]? = some o) : b < w.heap.size := by
  rcases Nat.lt_or_ge b w.heap.size with g | g
  · exact g
  · rw [Array.getElem?_eq_none g] at h; cases h
theorem al1 (w : World) (o : Obj) : (w.alloc o).heap[w.heap.size]? = some o ∧ (w.alloc o).heap.size = w.heap.size + 1 ∧ Below w.heap.size w (w.alloc o) := ⟨heap_alloc_new w o, by simp, (Below.refl _ _).alloc (Nat.le_refl _) _⟩
theorem al2 (w : World) (o p : Obj) : ((w.alloc o).alloc p).heap[w.heap.size]? = some o ∧ ((w.alloc o).alloc p).heap[w.heap.size + 1]? = some p ∧ ((w.alloc o).alloc p).heap.size = w.heap.size + 2 ∧ Below w.heap.size w ((w.alloc o).alloc p) := by
  obtain ⟨h1, h2, h3⟩ := al1 w o
  obtain ⟨g1, g2, g3⟩ := al1 (w.alloc o) p
  rw [h2] at g1 g2
  exact ⟨(g3.block _ (by omega)).trans h1, g1, g2, h3.trans (g3.mono (by omega))⟩
theorem al3 (w : World) (o p q : Obj) : (((w.alloc o).alloc p).alloc q).heap[w.heap.size]? = some o ∧ (((w.alloc o).alloc p).alloc q).heap[w.heap.size + 1]? = some p ∧ (((w.alloc o).alloc p).alloc q).heap[w.heap.size + 2]? = some q ∧ (((w.alloc o).alloc p).alloc q).heap.size = w.heap.size + 3 ∧ Below w.heap.size w (((w.alloc o).alloc p).alloc q) := by
  obtain ⟨h1, h2, h3, h4⟩ := al2 w o p
  obtain ⟨g1, g2, g3⟩ := al1 ((w.alloc o).alloc p) q
  rw [h3] at g1 g2
  exact ⟨(g3.block _ (by omega)).trans h1, (g3.block _ (by omega)).trans h2, g1, g2, h4.trans (g3.mono (by omega))⟩
theorem free_block {w : World} {b : Nat} {cs : Array Value} {t : TypeId} (h : w.heap[b]? = some (.cells cs t)) (o : Nat) : w.frozen? ⟨b, o, none⟩ = false := by simp [World.frozen?, h]
/-- The kind of numbers in a block. -/
def KB (K : Nat) (w : World) : Prop :=
  w.cell? ⟨K, 0, none⟩ = some (.func (.func 79) #[] #[]) ∧ w.cell? ⟨K, 1, none⟩ = some (.func (.func 80) #[] #[]) ∧ w.cell? ⟨K, 2, none⟩ = some (.func (.func 81) #[] #[]) ∧ w.cell? ⟨K, 3, none⟩ = some (.func (.func 82) #[] #[]) ∧ w.cell? ⟨K, 4, none⟩ = some (.func (.func 83) #[] #[]) ∧ K < w.heap.size
theorem KB.below {K : Nat} {w w' : World} (h : KB K w) (hb : Below w.heap.size w w') : KB K w' := by
  obtain ⟨h1, h2, h3, h4, h5, h6⟩ := h
  obtain ⟨hc, -⟩ := haCell hb
  have := hb.size
  exact ⟨by rw [hc _ _ h6]; exact h1, by rw [hc _ _ h6]; exact h2, by rw [hc _ _ h6]; exact h3, by rw [hc _ _ h6]; exact h4, by rw [hc _ _ h6]; exact h5, by omega⟩
/-- A cell in a block. -/
def CB (N : Nat) (v : Value) (w : World) : Prop := w.cell? ⟨N, 0, none⟩ = some v ∧ N < w.heap.size
theorem CB.below {N : Nat} {v : Value} {w w' : World} (h : CB N v w) (hb : Below w.heap.size w w') : CB N v w' := by
  obtain ⟨h1, h6⟩ := h
  have := hb.size
  exact ⟨by rw [(haCell hb).1 _ _ h6]; exact h1, by omega⟩
/-- A number that bears how it changes, in a block. -/
def DB (A y : Nat) (v : Value) (w : World) : Prop := w.cell? ⟨A, 0, none⟩ = some (.float .f64 y) ∧ w.cell? ⟨A, 1, none⟩ = some v ∧ A < w.heap.size
theorem DB.below {A y : Nat} {v : Value} {w w' : World} (h : DB A y v w) (hb : Below w.heap.size w w') : DB A y v w' := by
  obtain ⟨h1, h2, h6⟩ := h
  obtain ⟨hc, -⟩ := haCell hb
  have := hb.size
  exact ⟨by rw [hc _ _ h6]; exact h1, by rw [hc _ _ h6]; exact h2, by omega⟩
theorem DB.of {A y : Nat} {v : Value} {t : TypeId} {w : World} (h : w.heap[A]? = some (.cells #[.float .f64 y, v] t)) : DB A y v w := ⟨by rw [at_block h]; rfl, by rw [at_block h]; rfl, lt_block h⟩
theorem CB.of {A : Nat} {v : Value} {t : TypeId} {w : World} (h : w.heap[A]? = some (.cells #[v] t)) : CB A v w := ⟨by rw [at_block h]; rfl, lt_block h⟩
/-! ### How one changes, by one variable -/
theorem du11_tells (i K : Nat) (w : World) (hk : KB K w) : Calls Try.prog 87 #[.int .i64 i, .pointer (some ⟨K, 0, none⟩)] w (TellsB 0 w) := by
  obtain ⟨k0, k1, k2, k3, k4, k5⟩ := hk
  go_enter Try.func87, Try.ntmps87
  go_wp2_with fail
  refine (fl1_tells 0 _).mono ?_
  rintro e w' ⟨rfl, rfl⟩
  go_wp2_with fail
  go_ret
  exact ⟨0, rfl, rfl, by decide, Below.refl _ _⟩
theorem var1_tells (v i K I : Nat) (w : World) (hk : KB K w) (hi : CB I (.int .i64 i) w) : Calls Try.prog 97 #[.int .i64 v, .pointer (some ⟨I, 0, none⟩), .pointer (some ⟨K, 0, none⟩)] w (TellsB (if v = i then 4607182418800017408 else 0) w) := by
  obtain ⟨k0, k1, k2, k3, k4, k5⟩ := hk
  obtain ⟨i0, i1⟩ := hi
  go_enter Try.func97, Try.ntmps97
  by_cases h : v = i
  · subst h
    rw [if_pos rfl]
    go_wp2_with fail
    refine (fl1_tells _ _).mono ?_
    rintro e w' ⟨rfl, rfl⟩
    go_wp2_with fail
    go_ret
    exact ⟨_, rfl, by decide, by decide, Below.refl _ _⟩
  · have hne : ((v : Int) == (i : Int)) = false := by simp; omega
    rw [if_neg h]
    go_wp2_with fail
    refine (fl1_tells 0 _).mono ?_
    rintro e w' ⟨rfl, rfl⟩
    go_wp2_with fail
    go_ret
    exact ⟨_, rfl, by decide, by decide, Below.refl _ _⟩
set_option maxRecDepth 100000 in
theorem du21_tells (i K A B n : Nat) (y z : Nat) (va vb : Value) (f g : Nat → Nat) (w : World) (hi : i < n) (hk : KB K w) (ha : DB A y va w) (hb : DB B z vb w) (hf : FRow w va n f) (hg : FRow w vb n g) :
    Calls Try.prog 89 #[.int .i64 i, .pointer (some ⟨K, 0, none⟩), .pointer (some ⟨A, 0, none⟩), .pointer (some ⟨B, 0, none⟩)] w (TellsB (cop .add (f i) (g i)) w) := by
  obtain ⟨k0, k1, k2, k3, k4, k5⟩ := hk
  obtain ⟨a0, a1, a2⟩ := ha
  obtain ⟨b0, b1, b2⟩ := hb
  obtain ⟨pa, ca, rfl, hn, har⟩ := hf
  obtain ⟨pb, cb, rfl, -, hbr⟩ := hg
  obtain ⟨q1, o1, rfl, hs1, hc1⟩ := har (by omega)
  obtain ⟨q2, o2, rfl, hs2, hc2⟩ := hbr (by omega)
  obtain ⟨u, u1, u2, u3⟩ := hc1 i hi
  obtain ⟨v, v1, v2, v3⟩ := hc2 i hi
  have K1 := Lib.hid (show cop .add (f i) (g i) = cop .add u v by rw [← u2, ← v2, cop_canon_left, cop_canon_right])
  clear har hbr hc1 hc2 u2 v2
  go_enter Try.func89, Try.ntmps89
  go_wp2_with fail
  refine wp_region_ord [(0, 1), (1, 2), (2, 1), (3, 2), (4, 1), (5, 1), (6, 2), (7, 1), (8, 2), (9, 1), (10, 1), (11, 2), (12, 0), (13, 1)] (by kernel_rfl) (by kernel_rfl) (fun _ _ d _ _ h => by cases d <;> exact h) ?_
  intro Z hZ
  have hz : ∀ b o, Z.cell? ⟨b, o, none⟩ = w.cell? ⟨b, o, none⟩ := fun b o => by rw [hZ]; rfl
  have HZ := Lib.hid (show Below w.heap.size w Z by rw [hZ]; exact (Below.refl _ _).drew)
  rw [← hz] at k0 k1 k2 k3 k4 a0 a1 b0 b1 u1 v1
  clear hZ hz
  iterate 12
    first
      | refine wpOrd_pure (fun K hK => ?_)
      | refine wpOrd_take (fun K hK => ?_)
    go_simp
    refine hK _ ?_
    clear hK K
  refine wpOrd_do (fun K hK => ?_)
  go_simp
  refine (fl2_tells u v _).mono ?_
  rintro e w' ⟨x, m, rfl, x1, x2, rfl⟩
  refine hK _ _ (fun _ => ⟨m, rfl⟩) ?_
  clear hK K
  iterate 1
    first
      | refine wpOrd_pure (fun K hK => ?_)
      | refine wpOrd_take (fun K hK => ?_)
    go_simp
    refine hK _ ?_
    clear hK K
  refine wpOrd_nil ?_
  go_wp2_with fail
  go_ret
  exact ⟨x, rfl, by rw [x1, K1.out], x2, below_drew HZ.out _⟩
set_option maxRecDepth 100000 in
theorem du31_tells (i K A B n : Nat) (y z : Nat) (va vb : Value) (f g : Nat → Nat) (w : World) (hi : i < n) (hk : KB K w) (ha : DB A y va w) (hb : DB B z vb w) (hf : FRow w va n f) (hg : FRow w vb n g) :
    Calls Try.prog 91 #[.int .i64 i, .pointer (some ⟨K, 0, none⟩), .pointer (some ⟨A, 0, none⟩), .pointer (some ⟨B, 0, none⟩)] w (TellsB (cop .sub (f i) (g i)) w) := by
  obtain ⟨k0, k1, k2, k3, k4, k5⟩ := hk
  obtain ⟨a0, a1, a2⟩ := ha
  obtain ⟨b0, b1, b2⟩ := hb
  obtain ⟨pa, ca, rfl, hn, har⟩ := hf
  obtain ⟨pb, cb, rfl, -, hbr⟩ := hg
  obtain ⟨q1, o1, rfl, hs1, hc1⟩ := har (by omega)
  obtain ⟨q2, o2, rfl, hs2, hc2⟩ := hbr (by omega)
  obtain ⟨u, u1, u2, u3⟩ := hc1 i hi
  obtain ⟨v, v1, v2, v3⟩ := hc2 i hi
  have K1 := Lib.hid (show cop .sub (f i) (g i) = cop .sub u v by rw [← u2, ← v2, cop_canon_left, cop_canon_right])
  clear har hbr hc1 hc2 u2 v2
  go_enter Try.func91, Try.ntmps91
  go_wp2_with fail
  refine wp_region_ord [(0, 1), (1, 2), (2, 1), (3, 2), (4, 1), (5, 1), (6, 2), (7, 1), (8, 2), (9, 1), (10, 1), (11, 2), (12, 0), (13, 1)] (by kernel_rfl) (by kernel_rfl) (fun _ _ d _ _ h => by cases d <;> exact h) ?_
  intro Z hZ
  have hz : ∀ b o, Z.cell? ⟨b, o, none⟩ = w.cell? ⟨b, o, none⟩ := fun b o => by rw [hZ]; rfl
  have HZ := Lib.hid (show Below w.heap.size w Z by rw [hZ]; exact (Below.refl _ _).drew)
  rw [← hz] at k0 k1 k2 k3 k4 a0 a1 b0 b1 u1 v1
  clear hZ hz
  iterate 12
    first
      | refine wpOrd_pure (fun K hK => ?_)
      | refine wpOrd_take (fun K hK => ?_)
    go_simp
    refine hK _ ?_
    clear hK K
  refine wpOrd_do (fun K hK => ?_)
  go_simp
  refine (fl3_tells u v _).mono ?_
  rintro e w' ⟨x, m, rfl, x1, x2, rfl⟩
  refine hK _ _ (fun _ => ⟨m, rfl⟩) ?_
  clear hK K
  iterate 1
    first
      | refine wpOrd_pure (fun K hK => ?_)
      | refine wpOrd_take (fun K hK => ?_)
    go_simp
    refine hK _ ?_
    clear hK K
  refine wpOrd_nil ?_
  go_wp2_with fail
  go_ret
  exact ⟨x, rfl, by rw [x1, K1.out], x2, below_drew HZ.out _⟩
set_option maxRecDepth 100000 in
theorem du41_tells (i K A B n : Nat) (y z : Nat) (va vb : Value) (f g : Nat → Nat) (w : World) (hi : i < n) (hk : KB K w) (ha : DB A y va w) (hb : DB B z vb w) (hf : FRow w va n f) (hg : FRow w vb n g) :
    Calls Try.prog 93 #[.int .i64 i, .pointer (some ⟨K, 0, none⟩), .pointer (some ⟨A, 0, none⟩), .pointer (some ⟨B, 0, none⟩)] w (TellsB (cop .add (cop .mul (f i) (canon z)) (cop .mul (canon y) (g i))) w) := by
  obtain ⟨k0, k1, k2, k3, k4, k5⟩ := hk
  obtain ⟨a0, a1, a2⟩ := ha
  obtain ⟨b0, b1, b2⟩ := hb
  obtain ⟨pa, ca, rfl, hn, har⟩ := hf
  obtain ⟨pb, cb, rfl, -, hbr⟩ := hg
  obtain ⟨q1, o1, rfl, hs1, hc1⟩ := har (by omega)
  obtain ⟨q2, o2, rfl, hs2, hc2⟩ := hbr (by omega)
  obtain ⟨u, u1, u2, u3⟩ := hc1 i hi
  obtain ⟨v, v1, v2, v3⟩ := hc2 i hi
  have K1 := Lib.hid (show cop .add (cop .mul (f i) (canon z)) (cop .mul (canon y) (g i)) = cop .add (cop .mul u z) (cop .mul y v) by rw [← u2, ← v2]; simp only [cop_canon_left, cop_canon_right])
  clear har hbr hc1 hc2 u2 v2
  go_enter Try.func93, Try.ntmps93
  go_wp2_with fail
  refine wp_region_ord [(0, 1), (1, 2), (2, 1), (3, 2), (4, 1), (5, 2), (6, 1), (7, 1), (8, 2), (9, 1), (10, 2), (12, 1), (13, 2), (14, 1), (15, 2), (16, 1), (17, 2), (18, 1), (19, 1), (20, 2), (11, 0), (21, 0), (22, 0), (23, 1)] (by kernel_rfl) (by kernel_rfl) (fun _ _ d _ _ h => by cases d <;> exact h) ?_
  intro Z hZ
  have hz : ∀ b o, Z.cell? ⟨b, o, none⟩ = w.cell? ⟨b, o, none⟩ := fun b o => by rw [hZ]; rfl
  have HZ := Lib.hid (show Below w.heap.size w Z by rw [hZ]; exact (Below.refl _ _).drew)
  rw [← hz] at k0 k1 k2 k3 k4 a0 a1 b0 b1 u1 v1
  clear hZ hz
  iterate 20
    first
      | refine wpOrd_pure (fun K hK => ?_)
      | refine wpOrd_take (fun K hK => ?_)
    go_simp
    refine hK _ ?_
    clear hK K
  refine wpOrd_do (fun K hK => ?_)
  go_simp
  refine (fl4_tells u z _).mono ?_
  rintro e w' ⟨s, m, rfl, s1, s2, rfl⟩
  refine hK _ _ (fun _ => ⟨m, rfl⟩) ?_
  clear hK K
  refine wpOrd_do (fun K hK => ?_)
  go_simp
  refine (fl4_tells y v _).mono ?_
  rintro e w' ⟨t, m2, rfl, t1, t2, rfl⟩
  refine hK _ _ (fun _ => (Drawn.more ⟨m, rfl⟩ m2)) ?_
  clear hK K
  refine wpOrd_do (fun K hK => ?_)
  go_simp
  refine (fl2_tells s t _).mono ?_
  rintro e w' ⟨x, m3, rfl, x1, x2, rfl⟩
  refine hK _ _ (fun _ => (Drawn.more ⟨m + m2, rfl⟩ m3)) ?_
  clear hK K
  iterate 1
    first
      | refine wpOrd_pure (fun K hK => ?_)
      | refine wpOrd_take (fun K hK => ?_)
    go_simp
    refine hK _ ?_
    clear hK K
  refine wpOrd_nil ?_
  go_wp2_with fail
  go_ret
  exact ⟨x, rfl, by rw [x1, K1.out, ← s1, ← t1, cop_canon_left, cop_canon_right], x2, below_drew (below_drew HZ.out _) _⟩
set_option maxRecDepth 100000 in
theorem du51_tells (i K A B Q n : Nat) (y z q : Nat) (va vb : Value) (f g : Nat → Nat) (w : World) (hi : i < n) (hk : KB K w) (ha : DB A y va w) (hb : DB B z vb w) (hq : CB Q (.float .f64 q) w) (hf : FRow w va n f) (hg : FRow w vb n g) :
    Calls Try.prog 95 #[.int .i64 i, .pointer (some ⟨K, 0, none⟩), .pointer (some ⟨A, 0, none⟩), .pointer (some ⟨Q, 0, none⟩), .pointer (some ⟨B, 0, none⟩)] w (TellsB (cop .quo (cop .sub (f i) (cop .mul (canon q) (g i))) (canon z)) w) := by
  obtain ⟨k0, k1, k2, k3, k4, k5⟩ := hk
  obtain ⟨a0, a1, a2⟩ := ha
  obtain ⟨b0, b1, b2⟩ := hb
  obtain ⟨c0, c1⟩ := hq
  obtain ⟨pa, ca, rfl, hn, har⟩ := hf
  obtain ⟨pb, cb, rfl, -, hbr⟩ := hg
  obtain ⟨q1, o1, rfl, hs1, hc1⟩ := har (by omega)
  obtain ⟨q2, o2, rfl, hs2, hc2⟩ := hbr (by omega)
  obtain ⟨u, u1, u2, u3⟩ := hc1 i hi
  obtain ⟨v, v1, v2, v3⟩ := hc2 i hi
  have K1 := Lib.hid (show cop .quo (cop .sub (f i) (cop .mul (canon q) (g i))) (canon z) = cop .quo (cop .sub u (cop .mul q v)) z by rw [← u2, ← v2]; simp only [cop_canon_left, cop_canon_right])
  clear har hbr hc1 hc2 u2 v2
  go_enter Try.func95, Try.ntmps95
  go_wp2_with fail
  refine wp_region_ord [(0, 1), (1, 2), (2, 1), (3, 2), (4, 1), (5, 2), (6, 1), (7, 1), (8, 2), (9, 1), (10, 2), (11, 2), (12, 1), (13, 2), (14, 1), (15, 1), (16, 2), (19, 1), (20, 2), (17, 0), (18, 0), (21, 0), (22, 1)] (by kernel_rfl) (by kernel_rfl) (fun _ _ d _ _ h => by cases d <;> exact h) ?_
  intro Z hZ
  have hz : ∀ b o, Z.cell? ⟨b, o, none⟩ = w.cell? ⟨b, o, none⟩ := fun b o => by rw [hZ]; rfl
  have HZ := Lib.hid (show Below w.heap.size w Z by rw [hZ]; exact (Below.refl _ _).drew)
  rw [← hz] at k0 k1 k2 k3 k4 a0 a1 b0 b1 c0 u1 v1
  clear hZ hz
  iterate 19
    first
      | refine wpOrd_pure (fun K hK => ?_)
      | refine wpOrd_take (fun K hK => ?_)
    go_simp
    refine hK _ ?_
    clear hK K
  refine wpOrd_do (fun K hK => ?_)
  go_simp
  refine (fl4_tells q v _).mono ?_
  rintro e w' ⟨s, m, rfl, s1, s2, rfl⟩
  refine hK _ _ (fun _ => ⟨m, rfl⟩) ?_
  clear hK K
  refine wpOrd_do (fun K hK => ?_)
  go_simp
  refine (fl3_tells u s _).mono ?_
  rintro e w' ⟨t, m2, rfl, t1, t2, rfl⟩
  refine hK _ _ (fun _ => (Drawn.more ⟨m, rfl⟩ m2)) ?_
  clear hK K
  refine wpOrd_do (fun K hK => ?_)
  go_simp
  refine (fl5_tells t z _).mono ?_
  rintro e w' ⟨x, m3, rfl, x1, x2, rfl⟩
  refine hK _ _ (fun _ => (Drawn.more ⟨m + m2, rfl⟩ m3)) ?_
  clear hK K
  iterate 1
    first
      | refine wpOrd_pure (fun K hK => ?_)
      | refine wpOrd_take (fun K hK => ?_)
    go_simp
    refine hK _ ?_
    clear hK K
  refine wpOrd_nil ?_
  go_wp2_with fail
  go_ret
  exact ⟨x, rfl, by rw [x1, K1.out, ← cop_canon_left, t1, ← s1, cop_canon_right], x2, below_drew (below_drew HZ.out _) _⟩
end Go.Proofs.Ytnlbafjmbamoeaa
