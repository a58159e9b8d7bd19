/-
  The runner beside Go's machine: laws of whatever is handed in: numbers, slices of numbers; what is not known is tried both ways.
-/
import Derived.Test.YtbepaoliboooaaaExz
import Derived.Test.YtbepaoliboooaaaRows
import Derived.KernelRfl
import Derived.ChangeSlices
namespace Go.Proofs.Ytbepaoliboooaaa
open Go.RowKit

/-- A slice that reads as these whole numbers. -/
def Ints (w : World) (v : Value) (zs : List Int) : Prop :=
  (∃ o cap, v = .slice o 0 cap ∧ zs = []) ∨ ∃ b off cap, v = .slice (some ⟨b, off, none⟩) zs.length cap ∧ b < w.heap.size ∧ zs.length ≤ 9223372036854775807 ∧ (∀ i, i < zs.length → w.cell? ⟨b, off + i, none⟩ = some (.int .i64 (zs.getD i 0)))
/-- A slice that reads as these floats. -/
def Flts (w : World) (v : Value) (xs : List Nat) : Prop :=
  (∃ o cap, v = .slice o 0 cap ∧ xs = []) ∨ ∃ b off cap, v = .slice (some ⟨b, off, none⟩) xs.length cap ∧ b < w.heap.size ∧ xs.length ≤ 9223372036854775807 ∧ (∀ i, i < xs.length → xs.getD i 0 < 18446744073709551616 ∧ w.cell? ⟨b, off + i, none⟩ = some (.float .f64 (xs.getD i 0)))

namespace Ex
open Go
variable {P : Program} {V : Val}

/-! ### What is handed in -/
inductive AD where
  | i (n : Int) | f (x : Nat) | b (t : Bool) | is (zs : List Int) | fs (xs : List Nat)
inductive Kd where
  | i | f | b | q | g | z
  deriving DecidableEq
inductive Kd0 where
  | i | f | b | is | fs
  deriving DecidableEq
def AD.kind : AD → Kd0
  | .i _ => .i | .f _ => .f | .b _ => .b | .is _ => .is | .fs _ => .fs
def ADOK (w : World) (v : Value) : AD → Prop
  | .i n => v = .int .i64 n
  | .f x => v = .float .f64 x ∧ x < 18446744073709551616
  | .b t => v = .bool t
  | .is zs => Ints w v zs
  | .fs xs => Flts w v xs
def fltsArr (xs : List Nat) : Array Value := (xs.map fun n => Value.float .f64 n).toArray
def adV (l : List AD) (xf : Nat → Nat → List Sc → Nat := fun _ _ _ => 0) : Val :=
  ⟨fun p => match l[p]? with | some (.i n) => n | _ => 0, fun p => match l[p]? with | some (.f n) => n | _ => 0, fun p => match l[p]? with | some (.b n) => n | _ => false, stdI, fun j i args => if j < 20 then stdF j i args else xf j i args, stdB,
   fun p => match l[p]? with | some (.is zs) => intsArr zs | some (.fs xs) => fltsArr xs | _ => #[]⟩
theorem adV_ok (l : List AD) (xf : Nat → Nat → List Sc → Nat := fun _ _ _ => 0) : StdV (adV l xf) := ⟨fun _ _ _ _ => rfl, fun _ _ _ h => if_pos h, fun _ _ _ _ => rfl⟩
def svK (p : Nat) : Kd → SV
  | .i => .c (.ei .i64 (.vi p)) | .f => .c (.ef (.vf p)) | .b => .c (.eb (.vb p)) | .q => .c (.qi p p) | .g => .c (.qf p p) | .z => .c .q0
def svs : Nat → List Kd → List SV
  | _, [] => []
  | p, k :: r => svK p k :: svs (p + 1) r
def shapes1 : Kd0 → List Kd
  | .i => [.i] | .f => [.f] | .b => [.b] | .is => [.z, .q] | .fs => [.z, .g]
def shapes : List Kd0 → List (List Kd)
  | [] => [[]]
  | k :: r => (shapes1 k).flatMap fun a => (shapes r).map (a :: ·)

/-- How one of them looks. -/
def Look (w : World) (d : AD) (v : Value) (k : Kd) (lo : Option (Nat × Nat)) : Prop :=
  match k with
  | .i => ∃ n, d = .i n ∧ v = .int .i64 n ∧ lo = none
  | .f => ∃ x, d = .f x ∧ v = .float .f64 x ∧ x < 18446744073709551616 ∧ lo = none
  | .b => ∃ t, d = .b t ∧ v = .bool t ∧ lo = none
  | .z => ∃ o c, v = .slice o 0 c ∧ lo = none
  | .q => ∃ zs b off cap, d = .is zs ∧ v = .slice (some ⟨b, off, none⟩) zs.length cap ∧ lo = some (b, off) ∧ b < w.heap.size ∧ (∀ i, i < zs.length → w.cell? ⟨b, off + i, none⟩ = some (.int .i64 (zs.getD i 0)))
  | .g => ∃ xs b off cap, d = .fs xs ∧ v = .slice (some ⟨b, off, none⟩) xs.length cap ∧ lo = some (b, off) ∧ b < w.heap.size ∧ (∀ i, i < xs.length → xs.getD i 0 < 18446744073709551616 ∧ w.cell? ⟨b, off + i, none⟩ = some (.float .f64 (xs.getD i 0)))
theorem look_of {w : World} {d : AD} {v : Value} (h : ADOK w v d) : ∃ k lo, k ∈ shapes1 d.kind ∧ Look w d v k lo := by
  cases d with
  | i n => exact ⟨.i, none, by simp [shapes1, AD.kind], n, rfl, h, rfl⟩
  | f x => exact ⟨.f, none, by simp [shapes1, AD.kind], x, rfl, h.1, h.2, rfl⟩
  | b t => exact ⟨.b, none, by simp [shapes1, AD.kind], t, rfl, h, rfl⟩
  | is zs =>
    rcases h with ⟨o, c, h1, -⟩ | ⟨b, off, cap, h1, h2, -, h3⟩
    · exact ⟨.z, none, by simp [shapes1, AD.kind], o, c, h1, rfl⟩
    · exact ⟨.q, some (b, off), by simp [shapes1, AD.kind], zs, b, off, cap, rfl, h1, rfl, h2, h3⟩
  | fs xs =>
    rcases h with ⟨o, c, h1, -⟩ | ⟨b, off, cap, h1, h2, -, h3⟩
    · exact ⟨.z, none, by simp [shapes1, AD.kind], o, c, h1, rfl⟩
    · exact ⟨.g, some (b, off), by simp [shapes1, AD.kind], xs, b, off, cap, rfl, h1, rfl, h2, h3⟩
def Looks (w : World) : List AD → List Value → List Kd → List (Option (Nat × Nat)) → Prop
  | [], [], [], [] => True
  | d :: ds, v :: vs, k :: ks, lo :: los => Look w d v k lo ∧ Looks w ds vs ks los
  | _, _, _, _ => False
theorem looks_of {w : World} : ∀ {ds : List AD} {vs : List Value}, All2 (fun d v => ADOK w v d) ds vs → ∃ ks los, ks ∈ shapes (ds.map AD.kind) ∧ Looks w ds vs ks los
  | [], [], _ => ⟨[], [], by simp [shapes], trivial⟩
  | d :: ds, v :: vs, h => by
    obtain ⟨k, lo, h1, h2⟩ := look_of h.1
    obtain ⟨ks, los, h3, h4⟩ := looks_of h.2
    refine ⟨k :: ks, lo :: los, ?_, h2, h4⟩
    simp only [List.map_cons, shapes, List.mem_flatMap, List.mem_map]
    exact ⟨k, h1, ks, h3, rfl⟩
  | [], _ :: _, h => h.elim
  | _ :: _, [], h => h.elim
theorem looks_get {w : World} : ∀ {ds : List AD} {vs : List Value} {ks : List Kd} {los : List (Option (Nat × Nat))}, Looks w ds vs ks los → ∀ {i : Nat} {lo}, los[i]? = some lo → ∃ d v k, ds[i]? = some d ∧ vs[i]? = some v ∧ ks[i]? = some k ∧ Look w d v k lo
  | [], [], [], [], _, i, lo, hi => by simp at hi
  | d :: ds, v :: vs, k :: ks, lo' :: los, h, 0, lo, hi => by simp at hi; subst hi; exact ⟨d, v, k, rfl, rfl, rfl, h.1⟩
  | d :: ds, v :: vs, k :: ks, lo' :: los, h, i + 1, lo, hi => by
    obtain ⟨d', v', k', e1, e2, e3, e4⟩ := looks_get h.2 (i := i) (by simpa using hi)
    exact ⟨d', v', k', by simpa using e1, by simpa using e2, by simpa using e3, e4⟩
def rhoL (los : List (Option (Nat × Nat))) : Rho := fun p => match los[p]? with | some (some (b, o)) => some (b, o, 0, some p) | _ => none
theorem rhoL_some {los : List (Option (Nat × Nat))} {p : Nat} {q : Nat × Nat × Nat × Option Nat} (h : rhoL los p = some q) : ∃ b o, los[p]? = some (some (b, o)) ∧ q = (b, o, 0, some p) := by
  unfold rhoL at h
  split at h
  · rename_i b o hl; simp only [Option.some.injEq] at h; exact ⟨b, o, hl, h.symm⟩
  · cases h
theorem ints_at {zs : List Int} {i : Nat} {v : Value} (h : (intsArr zs)[i]? = some v) : i < zs.length ∧ v = .int .i64 (zs.getD i 0) := by
  unfold intsArr at h
  rw [List.getElem?_toArray, List.getElem?_map] at h
  cases hz : zs[i]? with
  | none => rw [hz] at h; cases h
  | some n =>
    rw [hz] at h; simp only [Option.map_some, Option.some.injEq] at h
    have hlt : i < zs.length := by
      rcases Nat.lt_or_ge i zs.length with q | q
      · exact q
      · rw [List.getElem?_eq_none q] at hz; cases hz
    exact ⟨hlt, by rw [← h]; simp [List.getD, hz]⟩
theorem flts_at {zs : List Nat} {i : Nat} {v : Value} (h : (fltsArr zs)[i]? = some v) : i < zs.length ∧ v = .float .f64 (zs.getD i 0) := by
  unfold fltsArr at h
  rw [List.getElem?_toArray, List.getElem?_map] at h
  cases hz : zs[i]? with
  | none => rw [hz] at h; cases h
  | some n =>
    rw [hz] at h; simp only [Option.map_some, Option.some.injEq] at h
    have hlt : i < zs.length := by
      rcases Nat.lt_or_ge i zs.length with q | q
      · exact q
      · rw [List.getElem?_eq_none q] at hz; cases hz
    exact ⟨hlt, by rw [← h]; simp [List.getD, hz]⟩
theorem looks_args {xf : Nat → Nat → List Sc → Nat} {w : World} {dsA : List AD} {losA : List (Option (Nat × Nat))} : ∀ {ds : List AD} {vs : List Value} {ks : List Kd} {los : List (Option (Nat × Nat))} (p : Nat), (∀ i, dsA[p + i]? = ds[i]?) → (∀ i, losA[p + i]? = los[i]?) → Looks w ds vs ks los → All2 (VR (adV dsA xf) (rhoL losA)) (svs p ks) vs
  | [], [], [], [], _, _, _, _ => trivial
  | d :: ds, v :: vs, k :: ks, lo :: los, p, h1, h2, h => by
    have e1 : dsA[p]? = some d := by simpa using h1 0
    have e2 : losA[p]? = some lo := by simpa using h2 0
    refine ⟨?_, looks_args (p + 1) (fun i => by rw [show p + 1 + i = p + (i + 1) by omega, h1 (i + 1)]; rfl) (fun i => by rw [show p + 1 + i = p + (i + 1) by omega, h2 (i + 1)]; rfl) h.2⟩
    have hl := h.1
    cases k with
    | i => obtain ⟨n, rfl, rfl, -⟩ := hl; simp [svK, VR, CR, evI, adV, e1]
    | f => obtain ⟨n, rfl, rfl, hx, -⟩ := hl; simp [svK, VR, CR, evF, adV, e1, FR, hx]
    | b => obtain ⟨n, rfl, rfl, -⟩ := hl; simp [svK, VR, CR, evB, adV, e1]
    | z => obtain ⟨o, c, rfl, -⟩ := hl; exact ⟨o, c, rfl⟩
    | q =>
      obtain ⟨zs, b, off, cap, rfl, rfl, rfl, hb, hc⟩ := hl
      have ha : (adV dsA xf).arr p = intsArr zs := by simp [adV, e1]
      refine ⟨(b, off, 0, some p), cap, by simp [rhoL, e2], rfl, by rw [ha]; simp [intsArr], fun i x hx => ?_⟩
      rw [ha] at hx
      exact ⟨_, (ints_at hx).2⟩
    | g =>
      obtain ⟨zs, b, off, cap, rfl, rfl, rfl, hb, hc⟩ := hl
      have ha : (adV dsA xf).arr p = fltsArr zs := by simp [adV, e1]
      refine ⟨(b, off, 0, some p), cap, by simp [rhoL, e2], rfl, by rw [ha]; simp [fltsArr], fun i x hx => ?_⟩
      rw [ha] at hx
      obtain ⟨q1, q2⟩ := flts_at hx
      exact ⟨_, q2, (hc i q1).1⟩
theorem looks_laid {xf : Nat → Nat → List Sc → Nat} {w : World} {ds : List AD} {vs : List Value} {ks : List Kd} {los : List (Option (Nat × Nat))} (h : Looks w ds vs ks los) : Laid (adV ds xf) (rhoL los) w := by
  intro p q j h1 h2
  obtain ⟨b, o, hl, rfl⟩ := rhoL_some h1
  simp only [Option.some.injEq] at h2
  subst h2
  obtain ⟨d, v, k, e1, e2, e3, hk⟩ := looks_get h hl
  cases k with
  | i => obtain ⟨n, -, -, h⟩ := hk; cases h
  | f => obtain ⟨n, -, -, -, h⟩ := hk; cases h
  | b => obtain ⟨n, -, -, h⟩ := hk; cases h
  | z => obtain ⟨_, _, -, h⟩ := hk; cases h
  | q =>
    obtain ⟨zs, b', off, cap, rfl, rfl, h, hb, hc⟩ := hk
    cases h
    have ha : (adV ds xf).arr p = intsArr zs := by simp [adV, e1]
    refine ⟨hb, fun i v hv => ?_⟩
    rw [ha] at hv
    obtain ⟨q1, q2⟩ := ints_at hv
    rw [q2]; exact hc i q1
  | g =>
    obtain ⟨zs, b', off, cap, rfl, rfl, h, hb, hc⟩ := hk
    cases h
    have ha : (adV ds xf).arr p = fltsArr zs := by simp [adV, e1]
    refine ⟨hb, fun i v hv => ?_⟩
    rw [ha] at hv
    obtain ⟨q1, q2⟩ := flts_at hv
    rw [q2]; exact (hc i q1).2
theorem looks_len {w : World} : ∀ {ds : List AD} {vs : List Value} {ks : List Kd} {los : List (Option (Nat × Nat))}, Looks w ds vs ks los → los.length = ds.length
  | [], [], [], [], _ => rfl
  | d :: ds, v :: vs, k :: ks, lo :: los, h => by simp [looks_len h.2]

/-! ### What is not known, both ways -/
def drive : Nat → (Gam → Res (SV × T Blk × Nat)) → Gam → Bool
  | 0, _, _ => false
  | n + 1, run, g => match run g with
    | .ok (.c (.b true), _, _) => true
    | .ok (.c (.eb e), _, _) => match truthE g e with
      | .ok true => true
      | .need e => drive n run (g.add e true) && drive n run (g.add e false)
      | _ => false
    | .need e => drive n run (g.add e true) && drive n run (g.add e false)
    | _ => false
/-- It says 'true', as far as is known. -/
def goodG (g : Gam) : Res (SV × T Blk × Nat) → Bool
  | .ok (.c (.b true), _, _) => true
  | .ok (.c (.eb e), _, _) => match truthE g e with
    | .ok true => true
    | _ => false
  | _ => false
theorem goodG_ok {g : Gam} (hg : GamOK V g) {r : Res (SV × T Blk × Nat)} (h : goodG g r = true) : ∃ c hp nx, r = .ok (.c c, hp, nx) ∧ ∀ ρ v, CR V ρ c v → v = .bool true := by
  unfold goodG at h
  split at h
  · exact ⟨_, _, _, rfl, fun ρ v hv => hv⟩
  · split at h
    · rename_i ht
      exact ⟨_, _, _, rfl, fun ρ v hv => by
        have := truthE_ok hg ht
        have hv' : v = .bool (evB V _) := hv
        rw [hv', this]⟩
    · cases h
  · cases h
theorem drive_ok {run : Gam → Res (SV × T Blk × Nat)} : ∀ {n : Nat} {g : Gam}, GamOK V g → drive n run g = true → ∃ g', GamOK V g' ∧ goodG g' (run g') = true
  | 0, _, _, h => by cases h
  | n + 1, g, hg, h => by
    unfold drive at h
    have split' : ∀ e, (drive n run (g.add e true) && drive n run (g.add e false)) = true → ∃ g', GamOK V g' ∧ goodG g' (run g') = true := fun e h => by
      simp only [Bool.and_eq_true] at h
      cases he : evB V e
      · exact drive_ok (gam_cons hg he) h.2
      · exact drive_ok (gam_cons hg he) h.1
    split at h
    · rename_i hr
      exact ⟨g, hg, by rw [hr]; rfl⟩
    · rename_i e _ _ hr
      split at h
      · rename_i ht
        exact ⟨g, hg, by rw [hr]; simp only [goodG, ht]⟩
      · exact split' _ h
      · cases h
    · exact split' _ h
    · cases h
/-- A law of whatever is handed in, of one shape. -/
theorem run_drive (hm : P.follows .mixedOrders = true) (hname : ∀ (f : Nat) (fn : Func), P.funcs[f]? = some fn → (fn.name == "runtime.NumGoroutine") = false) {ds : List AD} {xf : Nat → Nat → List Sc → Nat} {g : Gam} (hgm : GamOK (adV ds xf) g) {ctr : Ctr} (hctr : CtrOK P (adV ds xf) ctr) {k fuel n f nx0 : Nat} (hnx : ds.length ≤ nx0)
    {vs : Array Value} {w : World} (hargs : All2 (fun d v => ADOK w v d) ds vs.toList)
    (h : ∀ ks, ks ∈ shapes (ds.map AD.kind) → drive k (fun g => xcall P ctr g fuel n f (svs 0 ks) .nil nx0) g = true) :
    Calls P f vs w fun e w' => e = .returned (.bool true) ∧ Go.RowKit.Below w.heap.size w w' := by
  obtain ⟨ks, los, h1, h2⟩ := looks_of hargs
  obtain ⟨g', hg', hgood⟩ := drive_ok hgm (h ks h1)
  obtain ⟨c, hp, nx, e, hc⟩ := goodG_ok hg' hgood
  have hl := looks_len h2
  refine ((xcall_ok hm hname hg' hctr fuel n f (svs 0 ks) .nil nx0 _ hp nx e).2.2 (rhoL los) vs w (looks_args 0 (fun i => by rw [Nat.zero_add]) (fun i => by rw [Nat.zero_add]) h2) (hr_laid (looks_laid h2)) fun b hb _ => ?_).mono fun e w' ⟨rv, ρ', he, hst⟩ => ?_
  · unfold rhoL
    rw [List.getElem?_eq_none (by omega)]
  · have : rv = .bool true := hc _ _ hst.val
    subst this
    exact ⟨he, below_of hst⟩

/-- Each table of rests. -/
def tabs : List (Nat × Nat) → List Tab
  | [] => [[]]
  | (j, n) :: r => (List.range n).flatMap fun (c : Nat) => (tabs r).map ((j, (n : Int), (c : Int)) :: ·)
theorem tabs_ok : ∀ (l : List (Nat × Nat)), (∀ x ∈ l, 0 < x.2) → ∃ t ∈ tabs l, TabOK V t
  | [], _ => ⟨[], by simp [tabs], fun _ _ _ h => by cases h⟩
  | (j, n) :: r, h => by
    obtain ⟨t, h1, h2⟩ := tabs_ok r fun x hx => h x (by simp [hx])
    have hn : (0 : Int) < n := by have := h (j, n) (by simp); simp at this; omega
    have a := Int.emod_nonneg (V.i j) (show (n : Int) ≠ 0 by omega)
    have b := Int.emod_lt_of_pos (V.i j) hn
    refine ⟨(j, (n : Int), ((V.i j % n).toNat : Int)) :: t, ?_, fun x y z hm => ?_⟩
    · simp only [tabs, List.mem_flatMap, List.mem_map, List.mem_range]
      exact ⟨(V.i j % n).toNat, by omega, t, h1, rfl⟩
    · rcases List.mem_cons.1 hm with h' | h'
      · cases h'; omega
      · exact h2 _ _ _ h'
end Ex

open Go.ChangeShapes Go.WideShapes in
set_option maxRecDepth 100000 in
theorem ints_of {H : Type} {enc : TypeId × Value → H} {W : World} {v : Value} {d : DataW H} {ps : List MemPlace} {base : Nat}
    (hv : Value.okWide Try.prog W .any base 50 v) (h : DataW.Trod enc Try.prog W 0 (fun _ => true) true 50 v d ps) : ∃ zs, Ints W v zs := by
  have hc : Try.prog.cellsOf 3 = 1 := by kernel_rfl
  obtain ⟨a0, len, cap, rfl⟩ := okWide_slice Try.underlying50 hv
  obtain ⟨fuel, hf⟩ := h
  rcases open_ints Try.underlying50 Try.underlying3 hc hf with ⟨hcs, _⟩ | ⟨a, len', cap', zs, hcs, _, hl, hm, hz, _, hcell, _⟩
  · simp [Value.cells] at hcs
    obtain ⟨rfl, rfl, rfl⟩ := hcs
    exact ⟨[], .inl ⟨none, 0, rfl, rfl⟩⟩
  · simp [Value.cells] at hcs
    obtain ⟨rfl, rfl, rfl⟩ := hcs
    simp only [if_true] at hz
    by_cases h0 : len = 0
    · subst h0; exact ⟨[], .inl ⟨_, _, rfl, rfl⟩⟩
    · obtain ⟨b, off, spot⟩ := a
      have hspot : spot = none := by simpa [Addr.add] using World.cell?_spot (hcell 0 (by omega))
      subst hspot
      have hlen : (zs.take len).length = len := by simp; omega
      refine ⟨zs.take len, .inr ⟨b, off, cap, by rw [hlen], ?_, ?_, ?_⟩⟩
      · have h0 := hcell 0 (by omega)
        rcases Nat.lt_or_ge b W.heap.size with g | g
        · exact g
        · exfalso
          have : W.heap[b]? = none := Array.getElem?_eq_none g
          simp [World.cell?, Addr.add, this] at h0
      · rw [hlen]; unfold maxLen at hm; omega
      · intro i hi
        rw [hlen] at hi
        rw [← add_plain, hcell i (by omega)]
        simp [List.getD, hi]
end Go.Proofs.Ytbepaoliboooaaa

namespace Go.Proofs.Ytbepaoliboooaaa.Ex
open Go
variable {P : Program} {V : Val}

/-- What holds where other things hold. -/
abbrev Cf := List (E × Bool) × E × Bool
def allIn (l : List (E × Bool)) : List (E × Bool) → Bool
  | [] => true
  | (e, b) :: r => match lookE l e with
    | some x => (x == b) && allIn l r
    | none => false
def cfGo (l : List (E × Bool)) (e : E) : List Cf → Option Bool
  | [] => none
  | (cs, e', b) :: r => if e' = e then bif allIn l cs then some b else cfGo l e r else cfGo l e r
def CfOK (V : Val) (F : List Cf) : Prop := ∀ f, f ∈ F → (∀ c, c ∈ f.1 → evB V c.1 = c.2) → evB V f.2.1 = f.2.2
theorem lookE_mem : ∀ {l : List (E × Bool)} {e : E} {b : Bool}, lookE l e = some b → (e, b) ∈ l
  | [], _, _, h => by cases h
  | (e', b') :: l, e, b, h => by
    unfold lookE at h
    split at h
    · rename_i he; subst he; simp only [Option.some.injEq] at h; subst h; simp
    · exact List.mem_cons_of_mem _ (lookE_mem h)
theorem allIn_ok {l : List (E × Bool)} (hl : LOK V l) : ∀ {cs : List (E × Bool)}, allIn l cs = true → ∀ c, c ∈ cs → evB V c.1 = c.2
  | [], _, c, hc => by cases hc
  | (e, b) :: r, h, c, hc => by
    unfold allIn at h
    split at h
    · rename_i x hx
      simp only [Bool.and_eq_true, beq_iff_eq] at h
      obtain ⟨rfl, h⟩ := h
      rcases List.mem_cons.1 hc with rfl | hc
      · exact hl _ _ (lookE_mem hx)
      · exact allIn_ok hl h c hc
    · cases h
theorem cfGo_ok {l : List (E × Bool)} (hl : LOK V l) {e : E} {b : Bool} : ∀ {F : List Cf}, CfOK V F → cfGo l e F = some b → evB V e = b
  | [], _, h => by cases h
  | (cs, e', b') :: r, hF, h => by
    have hr : CfOK V r := fun f hf => hF f (List.mem_cons_of_mem _ hf)
    unfold cfGo at h
    split at h
    · rename_i he
      subst he
      cases ha : allIn l cs <;> rw [ha] at h
      · exact cfGo_ok hl hr h
      · simp only [cond_true, Option.some.injEq] at h
        subst h
        exact hF _ (List.mem_cons_self ..) (allIn_ok hl ha)
    · exact cfGo_ok hl hr h
def cfD (F : List Cf) (D : List (E × Bool) → E → Option Bool) (l : List (E × Bool)) (e : E) : Option Bool :=
  match cfGo l e F with
  | some b => some b
  | none => D l e
theorem cfD_ok {F : List Cf} {D : List (E × Bool) → E → Option Bool} (hF : CfOK V F) (hD : DOK V D) : DOK V (cfD F D) := by
  intro l hl e b h
  unfold cfD at h
  split at h
  · rename_i x hx
    simp only [Option.some.injEq] at h
    subst h
    exact cfGo_ok hl hF hx
  · exact hD l hl e b h
def Gam.cf (F : List Cf) : Gam := ⟨[], cfD F Gam.ex.D⟩
theorem gam_cf (hV : StdV V) {F : List Cf} (hF : CfOK V F) : GamOK V (.cf F) := ⟨(fun _ _ h => by cases h), cfD_ok hF (gam_ex hV).2⟩
end Go.Proofs.Ytbepaoliboooaaa.Ex
