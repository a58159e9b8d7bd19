/-
  The runner beside Go's machine: laws of whatever is handed in: numbers, slices of numbers; what is not known is tried both ways.
  The runner beside Go's machine: both ways of what is not known, joined in what is told; names that stand for few numbers, each tried.
  The runner beside Go's machine: names for floats that are made of others, by a table.
  What a seat's program keeps to.
-/
import Derived.Test.YtclhgnhbmlkomaaGk
import Derived.Test.YtclhgnhbmlkomaaRows
import Derived.KernelRfl
import Derived.ChangeSlices
namespace Go.Proofs.Ytclhgnhbmlkomaa
open Go.RowKit

/-- A slice that reads as these whole numbers. -/
def Ints (w : World) (v : Value) (zs : List Int) : Prop :=
  (∃ o cap, v = .slice o 0 cap ∧ zs = []) ∨ ∃ b off cap, v = .slice (some ⟨b, off, none⟩) zs.length cap ∧ b < w.heap.size ∧ zs.length ≤ 9223372036854775807 ∧ (∀ i, i < zs.length → w.cell? ⟨b, off + i, none⟩ = some (.int .i64 (zs.getD i 0)))
/-- A slice that reads as these floats. -/
def Flts (w : World) (v : Value) (xs : List Nat) : Prop :=
  (∃ o cap, v = .slice o 0 cap ∧ xs = []) ∨ ∃ b off cap, v = .slice (some ⟨b, off, none⟩) xs.length cap ∧ b < w.heap.size ∧ xs.length ≤ 9223372036854775807 ∧ (∀ i, i < xs.length → xs.getD i 0 < 18446744073709551616 ∧ w.cell? ⟨b, off + i, none⟩ = some (.float .f64 (xs.getD i 0)))

namespace Ex
open Go
variable {P : Program} {V : Val}

/-! ### What is handed in -/
inductive AD where
  | i (n : Int) | f (x : Nat) | b (t : Bool) | is (zs : List Int) | fs (xs : List Nat)
inductive Kd where
  | i | f | b | q | g | z
  deriving DecidableEq
inductive Kd0 where
  | i | f | b | is | fs
  deriving DecidableEq
def AD.kind : AD → Kd0
  | .i _ => .i | .f _ => .f | .b _ => .b | .is _ => .is | .fs _ => .fs
def ADOK (w : World) (v : Value) : AD → Prop
  | .i n => v = .int .i64 n
  | .f x => v = .float .f64 x ∧ x < 18446744073709551616
  | .b t => v = .bool t
  | .is zs => Ints w v zs
  | .fs xs => Flts w v xs
def fltsArr (xs : List Nat) : Array Value := (xs.map fun n => Value.float .f64 n).toArray
def adV (l : List AD) (xf : Nat → Nat → List Sc → Nat := fun _ _ _ => 0) : Val :=
  ⟨fun p => match l[p]? with | some (.i n) => n | _ => 0, fun p => match l[p]? with | some (.f n) => n | _ => 0, fun p => match l[p]? with | some (.b n) => n | _ => false, stdI, fun j i args => if j < 20 then stdF j i args else xf j i args, stdB,
   fun p => match l[p]? with | some (.is zs) => intsArr zs | some (.fs xs) => fltsArr xs | _ => #[]⟩
theorem adV_ok (l : List AD) (xf : Nat → Nat → List Sc → Nat := fun _ _ _ => 0) : StdV (adV l xf) := ⟨fun _ _ _ _ => rfl, fun _ _ _ h => if_pos h, fun _ _ _ _ => rfl⟩
def svK (p : Nat) : Kd → SV
  | .i => .c (.ei .i64 (.vi p)) | .f => .c (.ef (.vf p)) | .b => .c (.eb (.vb p)) | .q => .c (.qi p p) | .g => .c (.qf p p) | .z => .c .q0
def svs : Nat → List Kd → List SV
  | _, [] => []
  | p, k :: r => svK p k :: svs (p + 1) r
def shapes1 : Kd0 → List Kd
  | .i => [.i] | .f => [.f] | .b => [.b] | .is => [.q] | .fs => [.g]
def shapes : List Kd0 → List (List Kd)
  | [] => [[]]
  | k :: r => (shapes1 k).flatMap fun a => (shapes r).map (a :: ·)

/-- How one of them looks. -/
def Look (w : World) (d : AD) (v : Value) (k : Kd) (lo : Option (Nat × Nat)) : Prop :=
  match k with
  | .i => ∃ n, d = .i n ∧ v = .int .i64 n ∧ lo = none
  | .f => ∃ x, d = .f x ∧ v = .float .f64 x ∧ x < 18446744073709551616 ∧ lo = none
  | .b => ∃ t, d = .b t ∧ v = .bool t ∧ lo = none
  | .z => ∃ o c, v = .slice o 0 c ∧ lo = none
  | .q => (∃ zs b off cap, d = .is zs ∧ v = .slice (some ⟨b, off, none⟩) zs.length cap ∧ lo = some (b, off) ∧ b < w.heap.size ∧ (∀ i, i < zs.length → w.cell? ⟨b, off + i, none⟩ = some (.int .i64 (zs.getD i 0)))) ∨ (d = .is [] ∧ lo = none ∧ ∃ o c, v = .slice o 0 c)
  | .g => (∃ xs b off cap, d = .fs xs ∧ v = .slice (some ⟨b, off, none⟩) xs.length cap ∧ lo = some (b, off) ∧ b < w.heap.size ∧ (∀ i, i < xs.length → xs.getD i 0 < 18446744073709551616 ∧ w.cell? ⟨b, off + i, none⟩ = some (.float .f64 (xs.getD i 0)))) ∨ (d = .fs [] ∧ lo = none ∧ ∃ o c, v = .slice o 0 c)
theorem look_of {w : World} {d : AD} {v : Value} (h : ADOK w v d) : ∃ k lo, k ∈ shapes1 d.kind ∧ Look w d v k lo := by
  cases d with
  | i n => exact ⟨.i, none, by simp [shapes1, AD.kind], n, rfl, h, rfl⟩
  | f x => exact ⟨.f, none, by simp [shapes1, AD.kind], x, rfl, h.1, h.2, rfl⟩
  | b t => exact ⟨.b, none, by simp [shapes1, AD.kind], t, rfl, h, rfl⟩
  | is zs =>
    rcases h with ⟨o, c, h1, rfl⟩ | ⟨b, off, cap, h1, h2, -, h3⟩
    · exact ⟨.q, none, by simp [shapes1, AD.kind], .inr ⟨rfl, rfl, o, c, h1⟩⟩
    · exact ⟨.q, some (b, off), by simp [shapes1, AD.kind], .inl ⟨zs, b, off, cap, rfl, h1, rfl, h2, h3⟩⟩
  | fs xs =>
    rcases h with ⟨o, c, h1, rfl⟩ | ⟨b, off, cap, h1, h2, -, h3⟩
    · exact ⟨.g, none, by simp [shapes1, AD.kind], .inr ⟨rfl, rfl, o, c, h1⟩⟩
    · exact ⟨.g, some (b, off), by simp [shapes1, AD.kind], .inl ⟨xs, b, off, cap, rfl, h1, rfl, h2, h3⟩⟩
def Looks (w : World) : List AD → List Value → List Kd → List (Option (Nat × Nat)) → Prop
  | [], [], [], [] => True
  | d :: ds, v :: vs, k :: ks, lo :: los => Look w d v k lo ∧ Looks w ds vs ks los
  | _, _, _, _ => False
theorem looks_of {w : World} : ∀ {ds : List AD} {vs : List Value}, All2 (fun d v => ADOK w v d) ds vs → ∃ ks los, ks ∈ shapes (ds.map AD.kind) ∧ Looks w ds vs ks los
  | [], [], _ => ⟨[], [], by simp [shapes], trivial⟩
  | d :: ds, v :: vs, h => by
    obtain ⟨k, lo, h1, h2⟩ := look_of h.1
    obtain ⟨ks, los, h3, h4⟩ := looks_of h.2
    refine ⟨k :: ks, lo :: los, ?_, h2, h4⟩
    simp only [List.map_cons, shapes, List.mem_flatMap, List.mem_map]
    exact ⟨k, h1, ks, h3, rfl⟩
  | [], _ :: _, h => h.elim
  | _ :: _, [], h => h.elim
theorem looks_get {w : World} : ∀ {ds : List AD} {vs : List Value} {ks : List Kd} {los : List (Option (Nat × Nat))}, Looks w ds vs ks los → ∀ {i : Nat} {lo}, los[i]? = some lo → ∃ d v k, ds[i]? = some d ∧ vs[i]? = some v ∧ ks[i]? = some k ∧ Look w d v k lo
  | [], [], [], [], _, i, lo, hi => by simp at hi
  | d :: ds, v :: vs, k :: ks, lo' :: los, h, 0, lo, hi => by simp at hi; subst hi; exact ⟨d, v, k, rfl, rfl, rfl, h.1⟩
  | d :: ds, v :: vs, k :: ks, lo' :: los, h, i + 1, lo, hi => by
    obtain ⟨d', v', k', e1, e2, e3, e4⟩ := looks_get h.2 (i := i) (by simpa using hi)
    exact ⟨d', v', k', by simpa using e1, by simpa using e2, by simpa using e3, e4⟩
def rhoL (los : List (Option (Nat × Nat))) : Rho := fun p => match los[p]? with | some (some (b, o)) => some (b, o, 0, some p) | _ => none
theorem rhoL_some {los : List (Option (Nat × Nat))} {p : Nat} {q : Nat × Nat × Nat × Option Nat} (h : rhoL los p = some q) : ∃ b o, los[p]? = some (some (b, o)) ∧ q = (b, o, 0, some p) := by
  unfold rhoL at h
  split at h
  · rename_i b o hl; simp only [Option.some.injEq] at h; exact ⟨b, o, hl, h.symm⟩
  · cases h
theorem ints_at {zs : List Int} {i : Nat} {v : Value} (h : (intsArr zs)[i]? = some v) : i < zs.length ∧ v = .int .i64 (zs.getD i 0) := by
  unfold intsArr at h
  rw [List.getElem?_toArray, List.getElem?_map] at h
  cases hz : zs[i]? with
  | none => rw [hz] at h; cases h
  | some n =>
    rw [hz] at h; simp only [Option.map_some, Option.some.injEq] at h
    have hlt : i < zs.length := by
      rcases Nat.lt_or_ge i zs.length with q | q
      · exact q
      · rw [List.getElem?_eq_none q] at hz; cases hz
    exact ⟨hlt, by rw [← h]; simp [List.getD, hz]⟩
theorem flts_at {zs : List Nat} {i : Nat} {v : Value} (h : (fltsArr zs)[i]? = some v) : i < zs.length ∧ v = .float .f64 (zs.getD i 0) := by
  unfold fltsArr at h
  rw [List.getElem?_toArray, List.getElem?_map] at h
  cases hz : zs[i]? with
  | none => rw [hz] at h; cases h
  | some n =>
    rw [hz] at h; simp only [Option.map_some, Option.some.injEq] at h
    have hlt : i < zs.length := by
      rcases Nat.lt_or_ge i zs.length with q | q
      · exact q
      · rw [List.getElem?_eq_none q] at hz; cases hz
    exact ⟨hlt, by rw [← h]; simp [List.getD, hz]⟩
theorem looks_args {xf : Nat → Nat → List Sc → Nat} {w : World} {dsA : List AD} {losA : List (Option (Nat × Nat))} : ∀ {ds : List AD} {vs : List Value} {ks : List Kd} {los : List (Option (Nat × Nat))} (p : Nat), (∀ i, dsA[p + i]? = ds[i]?) → (∀ i, losA[p + i]? = los[i]?) → Looks w ds vs ks los → All2 (VR (adV dsA xf) (rhoL losA)) (svs p ks) vs
  | [], [], [], [], _, _, _, _ => trivial
  | d :: ds, v :: vs, k :: ks, lo :: los, p, h1, h2, h => by
    have e1 : dsA[p]? = some d := by simpa using h1 0
    have e2 : losA[p]? = some lo := by simpa using h2 0
    refine ⟨?_, looks_args (p + 1) (fun i => by rw [show p + 1 + i = p + (i + 1) by omega, h1 (i + 1)]; rfl) (fun i => by rw [show p + 1 + i = p + (i + 1) by omega, h2 (i + 1)]; rfl) h.2⟩
    have hl := h.1
    cases k with
    | i => obtain ⟨n, rfl, rfl, -⟩ := hl; simp [svK, VR, CR, evI, adV, e1]
    | f => obtain ⟨n, rfl, rfl, hx, -⟩ := hl; simp [svK, VR, CR, evF, adV, e1, FR, hx]
    | b => obtain ⟨n, rfl, rfl, -⟩ := hl; simp [svK, VR, CR, evB, adV, e1]
    | z => obtain ⟨o, c, rfl, -⟩ := hl; exact ⟨o, c, rfl⟩
    | q =>
      rcases hl with ⟨zs, b, off, cap, rfl, rfl, rfl, hb, hc⟩ | ⟨rfl, rfl, o, c, rfl⟩
      case inr => exact .inr ⟨by simp [adV, e1, intsArr], o, c, rfl⟩
      have ha : (adV dsA xf).arr p = intsArr zs := by simp [adV, e1]
      refine .inl ⟨(b, off, 0, some p), cap, by simp [rhoL, e2], rfl, by rw [ha]; simp [intsArr], fun i x hx => ?_⟩
      rw [ha] at hx
      exact ⟨_, (ints_at hx).2⟩
    | g =>
      rcases hl with ⟨zs, b, off, cap, rfl, rfl, rfl, hb, hc⟩ | ⟨rfl, rfl, o, c, rfl⟩
      case inr => exact .inr ⟨by simp [adV, e1, fltsArr], o, c, rfl⟩
      have ha : (adV dsA xf).arr p = fltsArr zs := by simp [adV, e1]
      refine .inl ⟨(b, off, 0, some p), cap, by simp [rhoL, e2], rfl, by rw [ha]; simp [fltsArr], fun i x hx => ?_⟩
      rw [ha] at hx
      obtain ⟨q1, q2⟩ := flts_at hx
      exact ⟨_, q2, (hc i q1).1⟩
theorem looks_laid {xf : Nat → Nat → List Sc → Nat} {w : World} {ds : List AD} {vs : List Value} {ks : List Kd} {los : List (Option (Nat × Nat))} (h : Looks w ds vs ks los) : Laid (adV ds xf) (rhoL los) w := by
  intro p q j h1 h2
  obtain ⟨b, o, hl, rfl⟩ := rhoL_some h1
  simp only [Option.some.injEq] at h2
  subst h2
  obtain ⟨d, v, k, e1, e2, e3, hk⟩ := looks_get h hl
  cases k with
  | i => obtain ⟨n, -, -, h⟩ := hk; cases h
  | f => obtain ⟨n, -, -, -, h⟩ := hk; cases h
  | b => obtain ⟨n, -, -, h⟩ := hk; cases h
  | z => obtain ⟨_, _, -, h⟩ := hk; cases h
  | q =>
    rcases hk with ⟨zs, b', off, cap, rfl, rfl, h, hb, hc⟩ | ⟨-, h, -⟩
    case inr => cases h
    cases h
    have ha : (adV ds xf).arr p = intsArr zs := by simp [adV, e1]
    refine ⟨hb, fun i v hv => ?_⟩
    rw [ha] at hv
    obtain ⟨q1, q2⟩ := ints_at hv
    rw [q2]; exact hc i q1
  | g =>
    rcases hk with ⟨zs, b', off, cap, rfl, rfl, h, hb, hc⟩ | ⟨-, h, -⟩
    case inr => cases h
    cases h
    have ha : (adV ds xf).arr p = fltsArr zs := by simp [adV, e1]
    refine ⟨hb, fun i v hv => ?_⟩
    rw [ha] at hv
    obtain ⟨q1, q2⟩ := flts_at hv
    rw [q2]; exact (hc i q1).2
theorem looks_len {w : World} : ∀ {ds : List AD} {vs : List Value} {ks : List Kd} {los : List (Option (Nat × Nat))}, Looks w ds vs ks los → los.length = ds.length
  | [], [], [], [], _ => rfl
  | d :: ds, v :: vs, k :: ks, lo :: los, h => by simp [looks_len h.2]

/-! ### What is not known, both ways -/
def drive : Nat → (Gam → Res (SV × T Blk × Nat)) → Gam → Bool
  | 0, _, _ => false
  | n + 1, run, g => match run g with
    | .ok (.c (.b true), _, _) => true
    | .ok (.c (.eb e), _, _) => match truthU g e with
      | .ok true => true
      | .need e => drive n run (g.add e true) && drive n run (g.add e false)
      | _ => false
    | .need e => drive n run (g.add (softE e) true) && drive n run (g.add (softE e) false)
    | _ => false
/-- It says 'true', as far as is known. -/
def goodG (g : Gam) : Res (SV × T Blk × Nat) → Bool
  | .ok (.c (.b true), _, _) => true
  | .ok (.c (.eb e), _, _) => match truthU g e with
    | .ok true => true
    | _ => false
  | _ => false
theorem goodG_ok {g : Gam} (hg : GamOK V g) {r : Res (SV × T Blk × Nat)} (h : goodG g r = true) : ∃ c hp nx, r = .ok (.c c, hp, nx) ∧ ∀ ρ v, CR V ρ c v → v = .bool true := by
  unfold goodG at h
  split at h
  · exact ⟨_, _, _, rfl, fun ρ v hv => hv⟩
  · split at h
    · rename_i ht
      exact ⟨_, _, _, rfl, fun ρ v hv => by
        have := truthU_ok hg ht
        have hv' : v = .bool (evB V _) := hv
        rw [hv', this]⟩
    · cases h
  · cases h
theorem drive_ok {run : Gam → Res (SV × T Blk × Nat)} : ∀ {n : Nat} {g : Gam}, GamOK V g → drive n run g = true → ∃ g', GamOK V g' ∧ goodG g' (run g') = true
  | 0, _, _, h => by cases h
  | n + 1, g, hg, h => by
    unfold drive at h
    have split' : ∀ e, (drive n run (g.add e true) && drive n run (g.add e false)) = true → ∃ g', GamOK V g' ∧ goodG g' (run g') = true := fun e h => by
      simp only [Bool.and_eq_true] at h
      cases he : evB V e
      · exact drive_ok (gam_cons hg he) h.2
      · exact drive_ok (gam_cons hg he) h.1
    split at h
    · rename_i hr
      exact ⟨g, hg, by rw [hr]; rfl⟩
    · rename_i e _ _ hr
      split at h
      · rename_i ht
        exact ⟨g, hg, by rw [hr]; simp only [goodG, ht]⟩
      · exact split' _ h
      · cases h
    · exact split' _ h
    · cases h
/-- A law of whatever is handed in, of one shape. -/
theorem run_drive (hm : P.follows .mixedOrders = true) (hname : ∀ (f : Nat) (fn : Func), P.funcs[f]? = some fn → (fn.name == "runtime.NumGoroutine") = false) {ds : List AD} {xf : Nat → Nat → List Sc → Nat} {g : Gam} (hgm : GamOK (adV ds xf) g) {ctr : Ctr} (hctr : CtrOK P (adV ds xf) ctr) {k fuel n f nx0 : Nat} (hnx : ds.length ≤ nx0)
    {vs : Array Value} {w : World} (hargs : All2 (fun d v => ADOK w v d) ds vs.toList)
    (h : ∀ ks, ks ∈ shapes (ds.map AD.kind) → drive k (fun g => xcall P ctr g fuel n f (svs 0 ks) .nil nx0) g = true) :
    Calls P f vs w fun e w' => e = .returned (.bool true) ∧ Go.RowKit.Below w.heap.size w w' := by
  obtain ⟨ks, los, h1, h2⟩ := looks_of hargs
  obtain ⟨g', hg', hgood⟩ := drive_ok hgm (h ks h1)
  obtain ⟨c, hp, nx, e, hc⟩ := goodG_ok hg' hgood
  have hl := looks_len h2
  refine ((xcall_ok hm hname hg' hctr fuel n f (svs 0 ks) .nil nx0 _ hp nx e).2.2 (rhoL los) vs w (looks_args 0 (fun i => by rw [Nat.zero_add]) (fun i => by rw [Nat.zero_add]) h2) (hr_laid (looks_laid h2)) fun b hb _ => ?_).mono fun e w' ⟨rv, ρ', he, hst⟩ => ?_
  · unfold rhoL
    rw [List.getElem?_eq_none (by omega)]
  · have : rv = .bool true := hc _ _ hst.val
    subst this
    exact ⟨he, below_of hst⟩

/-- Each table of rests. -/
def tabs : List (Nat × Nat) → List Tab
  | [] => [[]]
  | (j, n) :: r => (List.range n).flatMap fun (c : Nat) => (tabs r).map ((j, (n : Int), (c : Int)) :: ·)
theorem tabs_ok : ∀ (l : List (Nat × Nat)), (∀ x ∈ l, 0 < x.2) → ∃ t ∈ tabs l, TabOK V t
  | [], _ => ⟨[], by simp [tabs], fun _ _ _ h => by cases h⟩
  | (j, n) :: r, h => by
    obtain ⟨t, h1, h2⟩ := tabs_ok r fun x hx => h x (by simp [hx])
    have hn : (0 : Int) < n := by have := h (j, n) (by simp); simp at this; omega
    have a := Int.emod_nonneg (V.i j) (show (n : Int) ≠ 0 by omega)
    have b := Int.emod_lt_of_pos (V.i j) hn
    refine ⟨(j, (n : Int), ((V.i j % n).toNat : Int)) :: t, ?_, fun x y z hm => ?_⟩
    · simp only [tabs, List.mem_flatMap, List.mem_map, List.mem_range]
      exact ⟨(V.i j % n).toNat, by omega, t, h1, rfl⟩
    · rcases List.mem_cons.1 hm with h' | h'
      · cases h'; omega
      · exact h2 _ _ _ h'
end Ex

open Go.ChangeShapes Go.WideShapes in
set_option maxRecDepth 100000 in
theorem ints_of {H : Type} {enc : TypeId × Value → H} {W : World} {v : Value} {d : DataW H} {ps : List MemPlace} {base : Nat}
    (hv : Value.okWide Try.prog W .any base 22 v) (h : DataW.Trod enc Try.prog W 0 (fun _ => true) true 22 v d ps) : ∃ zs, Ints W v zs := by
  have hc : Try.prog.cellsOf 3 = 1 := by kernel_rfl
  obtain ⟨a0, len, cap, rfl⟩ := okWide_slice Try.underlying22 hv
  obtain ⟨fuel, hf⟩ := h
  rcases open_ints Try.underlying22 Try.underlying3 hc hf with ⟨hcs, _⟩ | ⟨a, len', cap', zs, hcs, _, hl, hm, hz, _, hcell, _⟩
  · simp [Value.cells] at hcs
    obtain ⟨rfl, rfl, rfl⟩ := hcs
    exact ⟨[], .inl ⟨none, 0, rfl, rfl⟩⟩
  · simp [Value.cells] at hcs
    obtain ⟨rfl, rfl, rfl⟩ := hcs
    simp only [if_true] at hz
    by_cases h0 : len = 0
    · subst h0; exact ⟨[], .inl ⟨_, _, rfl, rfl⟩⟩
    · obtain ⟨b, off, spot⟩ := a
      have hspot : spot = none := by simpa [Addr.add] using World.cell?_spot (hcell 0 (by omega))
      subst hspot
      have hlen : (zs.take len).length = len := by simp; omega
      refine ⟨zs.take len, .inr ⟨b, off, cap, by rw [hlen], ?_, ?_, ?_⟩⟩
      · have h0 := hcell 0 (by omega)
        rcases Nat.lt_or_ge b W.heap.size with g | g
        · exact g
        · exfalso
          have : W.heap[b]? = none := Array.getElem?_eq_none g
          simp [World.cell?, Addr.add, this] at h0
      · rw [hlen]; unfold maxLen at hm; omega
      · intro i hi
        rw [hlen] at hi
        rw [← add_plain, hcell i (by omega)]
        simp [List.getD, hi]
end Go.Proofs.Ytclhgnhbmlkomaa

namespace Go.Proofs.Ytclhgnhbmlkomaa.Ex
open Go
variable {P : Program} {V : Val}

/-- What holds where other things hold. -/
abbrev Cf := List (E × Bool) × E × Bool
def allIn (l : List (E × Bool)) : List (E × Bool) → Bool
  | [] => true
  | (e, b) :: r => match lookE l e with
    | some x => (x == b) && allIn l r
    | none => false
def cfGo (l : List (E × Bool)) (e : E) : List Cf → Option Bool
  | [] => none
  | (cs, e', b) :: r => if e' = e then bif allIn l cs then some b else cfGo l e r else cfGo l e r
def CfOK (V : Val) (F : List Cf) : Prop := ∀ f, f ∈ F → (∀ c, c ∈ f.1 → evB V c.1 = c.2) → evB V f.2.1 = f.2.2
theorem lookE_mem : ∀ {l : List (E × Bool)} {e : E} {b : Bool}, lookE l e = some b → (e, b) ∈ l
  | [], _, _, h => by cases h
  | (e', b') :: l, e, b, h => by
    unfold lookE at h
    split at h
    · rename_i he; subst he; simp only [Option.some.injEq] at h; subst h; simp
    · exact List.mem_cons_of_mem _ (lookE_mem h)
theorem allIn_ok {l : List (E × Bool)} (hl : LOK V l) : ∀ {cs : List (E × Bool)}, allIn l cs = true → ∀ c, c ∈ cs → evB V c.1 = c.2
  | [], _, c, hc => by cases hc
  | (e, b) :: r, h, c, hc => by
    unfold allIn at h
    split at h
    · rename_i x hx
      simp only [Bool.and_eq_true, beq_iff_eq] at h
      obtain ⟨rfl, h⟩ := h
      rcases List.mem_cons.1 hc with rfl | hc
      · exact hl _ _ (lookE_mem hx)
      · exact allIn_ok hl h c hc
    · cases h
theorem cfGo_ok {l : List (E × Bool)} (hl : LOK V l) {e : E} {b : Bool} : ∀ {F : List Cf}, CfOK V F → cfGo l e F = some b → evB V e = b
  | [], _, h => by cases h
  | (cs, e', b') :: r, hF, h => by
    have hr : CfOK V r := fun f hf => hF f (List.mem_cons_of_mem _ hf)
    unfold cfGo at h
    split at h
    · rename_i he
      subst he
      cases ha : allIn l cs <;> rw [ha] at h
      · exact cfGo_ok hl hr h
      · simp only [cond_true, Option.some.injEq] at h
        subst h
        exact hF _ (List.mem_cons_self ..) (allIn_ok hl ha)
    · exact cfGo_ok hl hr h
def cfD (F : List Cf) (D : List (E × Bool) → E → Option Bool) (l : List (E × Bool)) (e : E) : Option Bool :=
  match cfGo l e F with
  | some b => some b
  | none => D l e
theorem cfD_ok {F : List Cf} {D : List (E × Bool) → E → Option Bool} (hF : CfOK V F) (hD : DOK V D) : DOK V (cfD F D) := by
  intro l hl e b h
  unfold cfD at h
  split at h
  · rename_i x hx
    simp only [Option.some.injEq] at h
    subst h
    exact cfGo_ok hl hF hx
  · exact hD l hl e b h
def Gam.cf (F : List Cf) : Gam := ⟨[], cfD F Gam.ex.D, none⟩
theorem gam_cf (hV : StdV V) {F : List Cf} (hF : CfOK V F) : GamOK V (.cf F) := ⟨(fun _ _ h => by cases h), cfD_ok hF (gam_ex hV).D, nm_none⟩
end Go.Proofs.Ytclhgnhbmlkomaa.Ex

namespace Go.Proofs.Ytclhgnhbmlkomaa.Ex
open Go
variable {P : Program} {V : Val}

/-- What is told, joined where the ways part. -/
def runM : Nat → (Gam → Res (SV × T Blk × Nat)) → Gam → Option SV
  | 0, _, _ => none
  | n + 1, run, g => match run g with
    | .ok (v, _, _) => some v
    | .need e => match runM n run (g.add e true), runM n run (g.add e false) with
      | some v, some u => mergeV none e v u
      | _, _ => none
    | _ => none
theorem runM_ok {run : Gam → Res (SV × T Blk × Nat)} : ∀ {n : Nat} {g : Gam} {v : SV}, GamOK V g → runM n run g = some v → ∃ g' u hp nx, GamOK V g' ∧ run g' = .ok (u, hp, nx) ∧ ∀ ρ rv, VR V ρ u rv → VR V ρ v rv
  | 0, _, _, _, h => by cases h
  | n + 1, g, v, hg, h => by
    unfold runM at h
    split at h
    · rename_i u hp nx hr
      simp only [Option.some.injEq] at h
      subst h
      exact ⟨g, _, hp, nx, hg, hr, fun _ _ h => h⟩
    · rename_i e hr
      split at h
      · rename_i a b ha hb
        cases he : evB V e
        · obtain ⟨g', u, hp, nx, h1, h2, h3⟩ := runM_ok (gam_cons hg he) hb
          exact ⟨g', u, hp, nx, h1, h2, fun ρ rv hv => mergeV_ok nm_none (t := false) he h ρ rv (h3 ρ rv hv)⟩
        · obtain ⟨g', u, hp, nx, h1, h2, h3⟩ := runM_ok (gam_cons hg he) ha
          exact ⟨g', u, hp, nx, h1, h2, fun ρ rv hv => mergeV_ok nm_none (t := true) he h ρ rv (h3 ρ rv hv)⟩
      · cases h
    · cases h

/-- Made of the first so many floats alone. -/
def few (n : Nat) : E → Bool
  | .vi _ | .vb _ | .vl _ | .at _ _ | .atf _ _ => false
  | .vf i => Nat.blt i n
  | .li _ | .lf _ | .lb _ | .n0 => true
  | .ib _ _ a b | .ic _ a b | .fb _ a b | .fc _ a b | .an a b | .ci a b | .cf a b | .cb a b => few n a && few n b
  | .nt a | .iw _ a | .i2f a | .f2i a | .fneg a | .ai _ _ a | .af _ _ a | .ab _ _ a => few n a
  | .ti c a b | .tf c a b | .tb c a b => few n c && (few n a && few n b)
theorem few_same {n : Nat} {V W : Val} (hf : ∀ i, i < n → V.f i = W.f i) (h1 : V.fi = W.fi) (h2 : V.ff = W.ff) (h3 : V.fb = W.fb) : ∀ e : E, few n e = true → evI V e = evI W e ∧ evF V e = evF W e ∧ evB V e = evB W e ∧ evS V e = evS W e := by
  intro e
  induction e with
  | vf i => intro h; exact ⟨rfl, hf i (Nat.lt_of_lt_of_le (Nat.lt_succ_self i) (Nat.le_of_ble_eq_true h)), rfl, rfl⟩
  | vi => intro h; cases h
  | vb => intro h; cases h
  | vl => intro h; cases h
  | «at» => intro h; cases h
  | atf => intro h; cases h
  | li => intro _; exact ⟨rfl, rfl, rfl, rfl⟩
  | lf => intro _; exact ⟨rfl, rfl, rfl, rfl⟩
  | lb => intro _; exact ⟨rfl, rfl, rfl, rfl⟩
  | n0 => intro _; exact ⟨rfl, rfl, rfl, rfl⟩
  | ib _ _ a b iha ihb | ic _ a b iha ihb | fb _ a b iha ihb | fc _ a b iha ihb | an a b iha ihb | ci a b iha ihb | cf a b iha ihb | cb a b iha ihb =>
    intro h
    unfold few at h
    rw [Bool.and_eq_true] at h
    obtain ⟨a1, a2, a3, a4⟩ := iha h.1
    obtain ⟨b1, b2, b3, b4⟩ := ihb h.2
    simp only [evI, evF, evB, evS, a1, a2, a3, b1, b2, b3, b4, and_self]
  | nt a iha | iw _ a iha | i2f a iha | f2i a iha | fneg a iha | ai _ _ a iha | af _ _ a iha | ab _ _ a iha =>
    intro h
    unfold few at h
    obtain ⟨a1, a2, a3, a4⟩ := iha h
    simp only [evI, evF, evB, evS, a1, a2, a3, a4, h1, h2, h3, and_self]
  | ti c a b ihc iha ihb | tf c a b ihc iha ihb | tb c a b ihc iha ihb =>
    intro h
    unfold few at h
    rw [Bool.and_eq_true, Bool.and_eq_true] at h
    obtain ⟨c1, c2, c3, c4⟩ := ihc h.1
    obtain ⟨a1, a2, a3, a4⟩ := iha h.2.1
    obtain ⟨b1, b2, b3, b4⟩ := ihb h.2.2
    simp only [evI, evF, evB, evS, a1, a2, a3, b1, b2, b3, c3, and_self]
end Go.Proofs.Ytclhgnhbmlkomaa.Ex

namespace Go.Proofs.Ytclhgnhbmlkomaa.Ex
open Go
variable {P : Program}

/-- Names of floats in it are all less than this. -/
def fbelow (n : Nat) : E → Bool
  | .vf i => Nat.blt i n
  | .vi _ | .vb _ | .vl _ | .at _ _ | .atf _ _ | .li _ | .lf _ | .lb _ | .n0 => true
  | .ib _ _ a b | .ic _ a b | .fb _ a b | .fc _ a b | .an a b | .ci a b | .cf a b | .cb a b => fbelow n a && fbelow n b
  | .nt a | .iw _ a | .i2f a | .f2i a | .fneg a | .ai _ _ a | .af _ _ a | .ab _ _ a => fbelow n a
  | .ti c a b | .tf c a b | .tb c a b => fbelow n c && (fbelow n a && fbelow n b)
/-- All but the floats' names are the same. -/
structure Like0 (V W : Val) : Prop where
  i : V.i = W.i
  b : V.b = W.b
  fi : V.fi = W.fi
  ff : V.ff = W.ff
  fb : V.fb = W.fb
  arr : V.arr = W.arr
theorem fbelow_same {n : Nat} {V W : Val} (hf : ∀ i, i < n → V.f i = W.f i) (h : Like0 V W) : ∀ e : E, fbelow n e = true → evI V e = evI W e ∧ evF V e = evF W e ∧ evB V e = evB W e ∧ evS V e = evS W e := by
  intro e
  induction e with
  | vf i => intro h; exact ⟨rfl, hf i (Nat.lt_of_lt_of_le (Nat.lt_succ_self i) (Nat.le_of_ble_eq_true h)), rfl, rfl⟩
  | vi => intro _; simp only [evI, evF, evB, evS, h.i, and_self]
  | vb => intro _; simp only [evI, evF, evB, evS, h.b, and_self]
  | vl => intro _; simp only [evI, evF, evB, evS, h.arr, and_self]
  | «at» => intro _; simp only [evI, evF, evB, evS, h.arr, and_self]
  | atf => intro _; simp only [evI, evF, evB, evS, h.arr, and_self]
  | li => intro _; exact ⟨rfl, rfl, rfl, rfl⟩
  | lf => intro _; exact ⟨rfl, rfl, rfl, rfl⟩
  | lb => intro _; exact ⟨rfl, rfl, rfl, rfl⟩
  | n0 => intro _; exact ⟨rfl, rfl, rfl, rfl⟩
  | ib _ _ a b iha ihb | ic _ a b iha ihb | fb _ a b iha ihb | fc _ a b iha ihb | an a b iha ihb | ci a b iha ihb | cf a b iha ihb | cb a b iha ihb =>
    intro h
    unfold fbelow at h
    rw [Bool.and_eq_true] at h
    obtain ⟨a1, a2, a3, a4⟩ := iha h.1
    obtain ⟨b1, b2, b3, b4⟩ := ihb h.2
    simp only [evI, evF, evB, evS, a1, a2, a3, b1, b2, b3, b4, and_self]
  | nt a iha | iw _ a iha | i2f a iha | f2i a iha | fneg a iha | ai _ _ a iha | af _ _ a iha | ab _ _ a iha =>
    intro h'
    unfold fbelow at h'
    obtain ⟨a1, a2, a3, a4⟩ := iha h'
    simp only [evI, evF, evB, evS, a1, a2, a3, a4, h.fi, h.ff, h.fb, and_self]
  | ti c a b ihc iha ihb | tf c a b ihc iha ihb | tb c a b ihc iha ihb =>
    intro h
    unfold fbelow at h
    rw [Bool.and_eq_true, Bool.and_eq_true] at h
    obtain ⟨c1, c2, c3, c4⟩ := ihc h.1
    obtain ⟨a1, a2, a3, a4⟩ := iha h.2.1
    obtain ⟨b1, b2, b3, b4⟩ := ihb h.2.2
    simp only [evI, evF, evB, evS, a1, a2, a3, b1, b2, b3, c3, and_self]

/-- A table: of each float a number by which it is found, its name, what it is made of. -/
abbrev Nms := List (Nat × Nat × E)
def extF (V : Val) (base : Nat) (l : List Nat) : Val := { V with f := fun i => if i < base then V.f i else l.getD (i - base) 0 }
theorem extF_like (V : Val) (base : Nat) (l m : List Nat) : Like0 (extF V base l) (extF V base m) := ⟨rfl, rfl, rfl, rfl, rfl, rfl⟩
def valsT (V : Val) (base : Nat) : Nms → List Nat → List Nat
  | [], acc => acc
  | x :: r, acc => valsT V base r (acc ++ [evF (extF V base acc) x.2.2])
def tabV (V : Val) (base : Nat) (t : Nms) : Val := extF V base (valsT V base t [])
/-- Each is made of those before; they are counted. -/
def tabGood (k : Nat) : Nms → Bool
  | [] => true
  | x :: r => (Nat.beq x.2.1 k && fbelow k x.2.2) && tabGood (k + 1) r
theorem getD_append {l m : List Nat} {i : Nat} (h : i < l.length) : (l ++ m).getD i 0 = l.getD i 0 := by
  simp [List.getD, List.getElem?_append_left h]
theorem valsT_ok (V : Val) (base : Nat) : ∀ (t : Nms) (acc : List Nat), (∀ i, i < acc.length → (valsT V base t acc).getD i 0 = acc.getD i 0) ∧
    (tabGood (base + acc.length) t = true → ∀ x, x ∈ t → (extF V base (valsT V base t acc)).f x.2.1 = evF (extF V base (valsT V base t acc)) x.2.2)
  | [], acc => ⟨fun _ _ => rfl, fun _ _ h => by cases h⟩
  | x :: r, acc => by
    obtain ⟨h1, h2⟩ := valsT_ok V base r (acc ++ [evF (extF V base acc) x.2.2])
    have hl : (acc ++ [evF (extF V base acc) x.2.2]).length = acc.length + 1 := by simp
    rw [hl] at h1 h2
    have h1' : ∀ i, i < acc.length → (valsT V base (x :: r) acc).getD i 0 = acc.getD i 0 := fun i hi => by
      show (valsT V base r _).getD i 0 = _
      rw [h1 i (by omega), getD_append hi]
    refine ⟨h1', fun hg y hy => ?_⟩
    unfold tabGood at hg
    simp only [Bool.and_eq_true] at hg
    obtain ⟨⟨g1, g2⟩, g3⟩ := hg
    have g1 := Nat.eq_of_beq_eq_true g1
    rcases List.mem_cons.1 hy with rfl | hy
    · have hb := (fbelow_same (n := base + acc.length) (V := extF V base (valsT V base (y :: r) acc)) (W := extF V base acc) (fun i hi => by
        show (if i < base then V.f i else _) = (if i < base then V.f i else _)
        by_cases hlt : i < base
        · rw [if_pos hlt, if_pos hlt]
        · rw [if_neg hlt, if_neg hlt, h1' _ (by omega)]) (extF_like ..) y.2.2 g2).2.1
      rw [hb, g1]
      show (if base + acc.length < base then _ else (valsT V base r _).getD (base + acc.length - base) 0) = _
      rw [if_neg (by omega), show base + acc.length - base = acc.length by omega, h1 acc.length (by omega)]
      simp [List.getD]
    · exact h2 (by rw [← Nat.add_assoc]; exact g3) y hy
theorem tabV_ok (V : Val) {base : Nat} {t : Nms} (h : tabGood base t = true) : ∀ x, x ∈ t → (tabV V base t).f x.2.1 = evF (tabV V base t) x.2.2 :=
  (valsT_ok V base t []).2 h

def opN : BinOp → Nat
  | .add => 1 | .sub => 2 | .mul => 3 | .quo => 4 | .rem => 5 | .eql => 6 | .lss => 7 | .leq => 8 | _ => 9
def mixN (a b : Nat) : Nat := Nat.mod (Nat.add (Nat.mul a 1000003) b) 4294967291
/-- A number by which it is found. -/
def hsh : E → Nat
  | .vi i => mixN 1 i | .vf i => mixN 2 i | .vb i => mixN 3 i
  | .li n => mixN 4 (match n with | .ofNat k => k + k | .negSucc k => k + k + 1) | .lf x => mixN 5 x | .lb b => bif b then 6 else 7
  | .ib op _ a b => mixN (mixN (opN op + 10) (hsh a)) (hsh b)
  | .ic op a b => mixN (mixN (opN op + 20) (hsh a)) (hsh b)
  | .fb op a b => mixN (mixN (opN op + 30) (hsh a)) (hsh b)
  | .fc op a b => mixN (mixN (opN op + 40) (hsh a)) (hsh b)
  | .an a b => mixN (mixN 50 (hsh a)) (hsh b)
  | .nt a => mixN 51 (hsh a) | .iw _ a => mixN 52 (hsh a) | .i2f a => mixN 53 (hsh a) | .f2i a => mixN 57 (hsh a) | .fneg a => mixN 54 (hsh a)
  | .ai f i a => mixN (mixN (100 + f) i) (hsh a) | .af f i a => mixN (mixN (200 + f) i) (hsh a) | .ab f i a => mixN (mixN (300 + f) i) (hsh a)
  | .n0 => 60 | .ci a r => mixN (mixN 61 (hsh a)) (hsh r) | .cf a r => mixN (mixN 62 (hsh a)) (hsh r) | .cb a r => mixN (mixN 63 (hsh a)) (hsh r)
  | .vl j => mixN 64 j | .at j i => mixN (mixN 65 j) i | .atf j i => mixN (mixN 66 j) i
  | .ti c a b => mixN (mixN (mixN 70 (hsh c)) (hsh a)) (hsh b) | .tf c a b => mixN (mixN (mixN 71 (hsh c)) (hsh a)) (hsh b) | .tb c a b => mixN (mixN (mixN 72 (hsh c)) (hsh a)) (hsh b)
def findN (h : Nat) (e : E) : Nms → Option Nat
  | [] => none
  | x :: r => bif Nat.beq x.1 h then (if x.2.2 = e then some x.2.1 else findN h e r) else findN h e r
def nmT (t : Nms) (e : E) : Option Nat := forceN (hsh e) fun h => findN h e t
theorem findN_ok {h : Nat} {e : E} : ∀ {t : Nms} {k : Nat}, findN h e t = some k → ∃ x, x ∈ t ∧ x.2.2 = e ∧ x.2.1 = k
  | [], _, hk => by cases hk
  | x :: r, k, hk => by
    have rest : findN h e r = some k → ∃ y, y ∈ x :: r ∧ y.2.2 = e ∧ y.2.1 = k := fun hk => by
      obtain ⟨y, h1, h2⟩ := findN_ok hk
      exact ⟨y, List.mem_cons_of_mem _ h1, h2⟩
    unfold findN at hk
    cases hb : Nat.beq x.1 h <;> rw [hb] at hk
    · exact rest hk
    · simp only [cond_true] at hk
      split at hk
      · rename_i he
        simp only [Option.some.injEq] at hk
        exact ⟨x, List.mem_cons_self .., he, hk⟩
      · exact rest hk
theorem nm_tab (V : Val) {base : Nat} {t : Nms} (h : tabGood base t = true) : NmOK (tabV V base t) (some (nmT t)) := by
  intro f hf e k hk
  simp only [Option.some.injEq] at hf
  subst hf
  unfold nmT at hk
  rw [forceN_eq] at hk
  obtain ⟨x, hx, rfl, rfl⟩ := findN_ok hk
  exact tabV_ok V h x hx

theorem svs_args {V W : Val} (h : Like0 W V) {ρ : Rho} : ∀ {ks : List Kd} {vs : List Value} (p : Nat), (∀ i, i < p + ks.length → W.f i = V.f i) → All2 (VR V ρ) (svs p ks) vs → All2 (VR W ρ) (svs p ks) vs
  | [], [], _, _, _ => trivial
  | [], _ :: _, _, _, h => h.elim
  | _ :: _, [], _, _, h => h.elim
  | k :: ks, v :: vs, p, hf, ha => by
    refine ⟨?_, svs_args h (p + 1) (fun i hi => hf i (by simp only [List.length_cons]; omega)) ha.2⟩
    have h1 := ha.1
    have hp := hf p (by simp only [List.length_cons]; omega)
    cases k with
    | i => simp only [svK, VR, CR, evI] at h1 ⊢; rw [h.i]; exact h1
    | f => simp only [svK, VR, CR, evF] at h1 ⊢; rw [hp]; exact h1
    | b => simp only [svK, VR, CR, evB] at h1 ⊢; rw [h.b]; exact h1
    | z => exact h1
    | q => simp only [svK, VR, CR] at h1 ⊢; rw [h.arr]; exact h1
    | g => simp only [svK, VR, CR] at h1 ⊢; rw [h.arr]; exact h1
theorem tabV_like (V : Val) (base : Nat) (t : Nms) : Like0 (tabV V base t) V := ⟨rfl, rfl, rfl, rfl, rfl, rfl⟩
theorem shapes_len : ∀ {ds : List Kd0} {ks : List Kd}, ks ∈ shapes ds → ks.length = ds.length
  | [], ks, h => by simp [shapes] at h; subst h; rfl
  | d :: ds, ks, h => by
    simp only [shapes, List.mem_flatMap, List.mem_map] at h
    obtain ⟨k, -, r, h2, rfl⟩ := h
    simp [shapes_len h2]
/-- A law of whatever is handed in: for each shape a table of names. -/
theorem run_driveT (hm : P.follows .mixedOrders = true) (hname : ∀ (f : Nat) (fn : Func), P.funcs[f]? = some fn → (fn.name == "runtime.NumGoroutine") = false) {ds : List AD} {xf : Nat → Nat → List Sc → Nat} {base : Nat} (hb : ds.length ≤ base) {ctr : Ctr} (hctr : ∀ t, CtrOK P (tabV (adV ds xf) base t) ctr) {k fuel n f nx0 : Nat} (hnx : ds.length ≤ nx0)
    {vs : Array Value} {w : World} (hargs : All2 (fun d v => ADOK w v d) ds vs.toList)
    (h : ∀ ks, ks ∈ shapes (ds.map AD.kind) → ∃ t g, GamOK (tabV (adV ds xf) base t) g ∧ drive k (fun g => xcall P ctr g fuel n f (svs 0 ks) .nil nx0) g = true) :
    Calls P f vs w fun e w' => e = .returned (.bool true) ∧ Go.RowKit.Below w.heap.size w w' := by
  obtain ⟨ks, los, h1, h2⟩ := looks_of hargs
  obtain ⟨t, g, hgm, hd⟩ := h ks h1
  obtain ⟨g', hg', hgood⟩ := drive_ok hgm hd
  obtain ⟨c, hp, nx, e, hc⟩ := goodG_ok hg' hgood
  have hl := looks_len h2
  have hkl : ks.length = ds.length := by rw [shapes_len h1]; simp
  have ha := svs_args (tabV_like (adV ds xf) base t) (ρ := rhoL los) 0 (fun i hi => if_pos (by omega)) (looks_args (xf := xf) 0 (fun i => by rw [Nat.zero_add]) (fun i => by rw [Nat.zero_add]) h2)
  have hlaid : Laid (tabV (adV ds xf) base t) (rhoL los) w := looks_laid (xf := xf) h2
  refine ((xcall_ok hm hname hg' (hctr t) fuel n f (svs 0 ks) .nil nx0 _ hp nx e).2.2 (rhoL los) vs w ha (hr_laid hlaid) fun b hb _ => ?_).mono fun e w' ⟨rv, ρ', he, hst⟩ => ?_
  · unfold rhoL
    rw [List.getElem?_eq_none (by omega)]
  · have : rv = .bool true := hc _ _ hst.val
    subst this
    exact ⟨he, below_of hst⟩
/-- What is known of how long a slice is: so long, or this at least. -/
def lenL (j L M : Nat) : List (E × Bool) :=
  (bif Nat.beq L M then [] else [(.ic .lss (.li L) (.vl j), false)]) ++ (match L with | 0 => [] | k + 1 => [(.ic .lss (.li k) (.vl j), true)])
theorem lenL_ok (n j M : Nat) : ∃ L, L ≤ M ∧ ∀ V : Val, (V.arr j).size = n → LOK V (lenL j L M) := by
  have key : ∀ L, (L ≠ M → n ≤ L) → L ≤ n → ∀ V : Val, (V.arr j).size = n → LOK V (lenL j L M) := fun L h1 h2 V hn e b hm => by
    unfold lenL at hm
    rw [List.mem_append] at hm
    rcases hm with hm | hm
    · cases hb : Nat.beq L M <;> rw [hb] at hm
      · simp only [cond_false, List.mem_singleton, Prod.mk.injEq] at hm
        obtain ⟨rfl, rfl⟩ := hm
        have := h1 fun e => by subst e; simp at hb
        refine decide_eq_false (?_ : ¬ ((L : Int) < ((V.arr j).size : Int)))
        omega
      · cases hm
    · split at hm
      · cases hm
      · simp only [List.mem_singleton, Prod.mk.injEq] at hm
        obtain ⟨rfl, rfl⟩ := hm
        refine decide_eq_true (?_ : ((_ : Nat) : Int) < ((V.arr j).size : Int))
        omega
  rcases Nat.lt_or_ge n M with h | h
  · exact ⟨n, Nat.le_of_lt h, key _ (fun _ => Nat.le_refl _) (Nat.le_refl _)⟩
  · exact ⟨M, Nat.le_refl _, key M (fun e => absurd rfl e) h⟩
theorem lok_append {V : Val} {l m : List (E × Bool)} (h : LOK V l) (g : LOK V m) : LOK V (l ++ m) := fun e b hm => (List.mem_append.1 hm).elim (h e b) (g e b)
/-- Each row of lengths. -/
def lensAll : List (Nat × Nat) → List (List (E × Bool))
  | [] => [[]]
  | (j, M) :: r => (List.range (M + 1)).flatMap fun L => (lensAll r).map (lenL j L M ++ ·)
theorem lensAll_ok (V : Val) : ∀ lens : List (Nat × Nat), ∃ ls, ls ∈ lensAll lens ∧ ∀ W : Val, W.arr = V.arr → LOK W ls
  | [] => ⟨[], by simp [lensAll], fun _ _ _ _ h => by cases h⟩
  | (j, M) :: r => by
    obtain ⟨ls, h1, h2⟩ := lensAll_ok V r
    obtain ⟨L, h3, h4⟩ := lenL_ok (V.arr j).size j M
    refine ⟨lenL j L M ++ ls, ?_, fun W hW => lok_append (h4 W (by rw [hW])) (h2 W hW)⟩
    simp only [lensAll, List.mem_flatMap, List.mem_map, List.mem_range]
    exact ⟨L, by omega, ls, h1, rfl⟩
theorem lok_nil {V : Val} : LOK V [] := fun _ _ h => by cases h
/-- What is known at the start: how long slices are; exact numbers; names. -/
def Gam.tab (l : List (E × Bool)) (t : Nms) : Gam := ⟨l, exD, some (nmT t)⟩
theorem tabV_std {V : Val} (hV : StdV V) {base : Nat} {t : Nms} : StdV (tabV V base t) := ⟨hV.i, hV.f, hV.b⟩
theorem gam_tab {V : Val} (hV : StdV V) {base : Nat} {t : Nms} (h : tabGood base t = true) {l : List (E × Bool)} (hl : LOK (tabV V base t) l) : GamOK (tabV V base t) (.tab l t) := ⟨hl, dok_exact (tabV_std hV), nm_tab V h⟩
end Go.Proofs.Ytclhgnhbmlkomaa.Ex

namespace Go.Proofs.Ytclhgnhbmlkomaa
open Go.RowKit Ex

theorem mixed : Try.prog.follows .mixedOrders = true := Try.checked.mixed
theorem namesGood : namesOk Try.prog = true := by kernel_rfl
theorem namesAll : ∀ (f : Nat) (fn : Func), Try.prog.funcs[f]? = some fn → (fn.name == "runtime.NumGoroutine") = false := names_of namesGood

end Go.Proofs.Ytclhgnhbmlkomaa
