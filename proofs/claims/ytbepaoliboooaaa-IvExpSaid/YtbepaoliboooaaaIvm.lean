/-
  From-tos that are made, which ones; by names, for runs.
-/
import Derived.Test.YtbepaoliboooaaaIve
import Derived.Test.YtbepaoliboooaaaIvi
import Derived.Test.YtbepaoliboooaaaIvn
import Derived.Test.YtbepaoliboooaaaExv
namespace Go.Proofs.Ytbepaoliboooaaa
open Go.RowKit
attribute [local go_sem] alloc_drewN setCell_drewN call_bits call_frombits ord_lt ord_eq ord_gt ord_ne ord_le ord_ge eqB_self run_fadd run_fsub run_fmul run_fquo run_store_f64

def numB (m k : Int) : Nat := ldexpB (floatOfInt .f64 (m % 9007199254740992 - 4503599627370496)) (k % 80 - 80)
theorem numB_is (m k : Int) : ∃ n, Is (numB m k) n (-80) ∧ n.natAbs < 2 ^ 132 := by
  have h1 := Int.emod_nonneg m (show (9007199254740992 : Int) ≠ 0 by decide)
  have h2 := Int.emod_lt_of_pos m (show (0 : Int) < 9007199254740992 by decide)
  have h3 := Int.emod_nonneg k (show (80 : Int) ≠ 0 by decide)
  have h4 := Int.emod_lt_of_pos k (show (0 : Int) < 80 by decide)
  have hi := is_scale (is_ofInt (n := m % 9007199254740992 - 4503599627370496) (by omega) (by omega)) (k % 80 - 80) (by omega) (fits_of 60 960 (by omega) (by omega) (by decide))
  have hd := hi.down (k % 80).toNat (by omega)
  have e : 0 + (k % 80 - 80) - ((k % 80).toNat : Int) = -80 := by omega
  rw [e] at hd
  refine ⟨_, hd, ?_⟩
  rw [natAbs_pow]
  have : 2 ^ (k % 80).toNat ≤ 2 ^ 79 := Nat.pow_le_pow_right (by decide) (by omega)
  have h5 : (m % 9007199254740992 - 4503599627370496).natAbs ≤ 2 ^ 52 := by omega
  have := Nat.mul_le_mul h5 this
  refine Nat.lt_of_le_of_lt this (by decide)
theorem numB_any (m k : Int) (w : World) : Calls Try.prog 24 #[.int .i64 m, .int .i64 k] w fun e w' => e = .returned (.float .f64 (numB m k)) ∧ w = w' := num_any m k w

/-- Which from-to is made. -/
def mkP (m k v : Int) : Nat × Nat :=
  if v % 5 = 0 then (numB m k, numB m k)
  else if v % 5 = 1 then (numB m k, cop .add (numB m k) (numB v k % p63))
  else if v % 5 = 2 then (cop .sub 0 (numB m k % p63), numB v m % p63)
  else if v % 5 = 3 then (floatOfInt .f64 (m % 9 - 4), floatOfInt .f64 (m % 9 - 4 + k % 5))
  else (numB m k, cop .add (numB m k) 4607182418800017408)
theorem cop_of {op : BinOp} {a b r : Nat} {p : Int} (h : floatBits op .f64 a b = some r) (hr : Is r p (-80)) : r = cop op a b := by
  rw [show cop op a b = canon r by unfold cop; rw [h], canon_num hr.num]
theorem add_up' {a b : Nat} {m n : Int} (ha : Is a m (-80)) (hb : Is b n (-80)) (hn : 0 ≤ n) (h1 : m.natAbs < 2 ^ 138) (h2 : n.natAbs < 2 ^ 138) :
    ∃ p, Is (cop .add a b) p (-80) ∧ m ≤ p ∧ p.natAbs ≤ m.natAbs + n.natAbs + 2 ^ 86 := by
  obtain ⟨r, e, h⟩ := is_add ha hb (fits_of 139 960 (by omega) (by decide) (by decide))
  rw [← cop_of (op := .add) e h]
  refine ⟨_, h, ha.add_ge hb hn e h, ?_⟩
  have := rn_size (m := m + n) (by omega)
  omega
theorem sub_down' {a b : Nat} {m n : Int} (ha : Is a m (-80)) (hb : Is b n (-80)) (hn : 0 ≤ n) (h1 : m.natAbs < 2 ^ 138) (h2 : n.natAbs < 2 ^ 138) :
    ∃ p, Is (cop .sub a b) p (-80) ∧ p ≤ m ∧ p.natAbs ≤ m.natAbs + n.natAbs + 2 ^ 86 := by
  obtain ⟨r, e, h⟩ := is_sub ha hb (fits_of 139 960 (by omega) (by decide) (by decide))
  rw [← cop_of (op := .sub) e h]
  refine ⟨_, h, ha.sub_le hb hn e h, ?_⟩
  have := rn_size (m := m - n) (by omega)
  omega
theorem mkP_mid (m k v : Int) : Mid (mkP m k v).1 (mkP m k v).2 := by
  obtain ⟨p, hx, hp⟩ := numB_is m k
  unfold mkP
  split
  · exact ⟨p, p, hx, hx, by omega, by omega, by omega⟩
  split
  · obtain ⟨q, hy, hq⟩ := numB_is v k
    obtain ⟨s, hs, h1, h2⟩ := add_up' hx (is_abs hy) (by omega) (by omega) (by omega)
    exact ⟨p, s, hx, hs, h1, by omega, by omega⟩
  split
  · obtain ⟨q, hy, hq⟩ := numB_is v m
    obtain ⟨s, hs, h1, h2⟩ := sub_down' zero_at (is_abs hx) (by omega) (by omega) (by omega)
    exact ⟨s, q.natAbs, hs, is_abs hy, by omega, by omega, by omega⟩
  split
  · have b1 := Int.emod_nonneg m (show (9 : Int) ≠ 0 by decide)
    have b2 := Int.emod_lt_of_pos m (show (0 : Int) < 9 by decide)
    have b3 := Int.emod_nonneg k (show (5 : Int) ≠ 0 by decide)
    have b4 := Int.emod_lt_of_pos k (show (0 : Int) < 5 by decide)
    exact ⟨_, _, int_at (n := m % 9 - 4) (by omega) (by omega), int_at (n := m % 9 - 4 + k % 5) (by omega) (by omega), by omega, by omega, by omega⟩
  · obtain ⟨s, hs, h1, h2⟩ := add_up' hx one_at (by omega) (by omega) (by omega)
    exact ⟨p, s, hx, hs, h1, by omega, by omega⟩

/-- As it is made. -/
def MadeP (m k v : Int) (w : World) (e : Ending) (w' : World) : Prop := ∃ a b, (a, b) = mkP m k v ∧ e = .returned (iv a b) ∧ Below w.heap.size w w'
set_option maxHeartbeats 1000000 in
theorem mkP_any (m k v : Int) (w : World) : Calls Try.prog 17 #[.int .i64 m, .int .i64 k, .int .i64 v] w (MadeP m k v w) := by
  have b0 := Int.emod_nonneg v (show (5 : Int) ≠ 0 by decide)
  have b5 := Int.emod_lt_of_pos v (show (0 : Int) < 5 by decide)
  have hx : numB m k < 18446744073709551616 := by obtain ⟨_, h, _⟩ := numB_is m k; exact h.lt
  have hy : numB v k < 18446744073709551616 := by obtain ⟨_, h, _⟩ := numB_is v k; exact h.lt
  have hz : numB v m < 18446744073709551616 := by obtain ⟨_, h, _⟩ := numB_is v m; exact h.lt
  have hA : ∃ r, (∀ w, fval .add w (numB m k) (numB v k % 9223372036854775808) = r) ∧ ndraw .add (numB m k) (numB v k % 9223372036854775808) = 0 ∧ r = cop .add (numB m k) (numB v k % p63) := by
    obtain ⟨p, hx, hp⟩ := numB_is m k
    obtain ⟨q, hy, hq⟩ := numB_is v k
    obtain ⟨r, e, h⟩ := is_add hx (is_abs hy) (fits_of 139 960 (by omega) (by decide) (by decide))
    exact ⟨r, fval_some (op := .add) e, ndraw_some (op := .add) e, cop_of (op := .add) e h⟩
  have hS : ∃ r, (∀ w, fval .sub w 0 (numB m k % 9223372036854775808) = r) ∧ ndraw .sub 0 (numB m k % 9223372036854775808) = 0 ∧ r = cop .sub 0 (numB m k % p63) := by
    obtain ⟨p, hx, hp⟩ := numB_is m k
    obtain ⟨r, e, h⟩ := is_sub zero_at (is_abs hx) (fits_of 139 960 (by omega) (by decide) (by decide))
    exact ⟨r, fval_some (op := .sub) e, ndraw_some (op := .sub) e, cop_of (op := .sub) e h⟩
  have hO : ∃ r, (∀ w, fval .add w (numB m k) 4607182418800017408 = r) ∧ ndraw .add (numB m k) 4607182418800017408 = 0 ∧ r = cop .add (numB m k) 4607182418800017408 := by
    obtain ⟨p, hx, hp⟩ := numB_is m k
    obtain ⟨r, e, h⟩ := is_add hx one_at (fits_of 139 960 (by omega) (by decide) (by decide))
    exact ⟨r, fval_some (op := .add) e, ndraw_some (op := .add) e, cop_of (op := .add) e h⟩
  have NX := numB_any m k
  have NY := numB_any v k
  have NZ := numB_any v m
  have W5 := fun W => within2_mod v 5 W (by decide) (by decide)
  have Wm := fun W => within2_mod m 9 W (by decide) (by decide)
  have Wk := fun W => within2_mod k 5 W (by decide) (by decide)
  have bm1 := Int.emod_nonneg m (show (9 : Int) ≠ 0 by decide)
  have bm2 := Int.emod_lt_of_pos m (show (0 : Int) < 9 by decide)
  have bk1 := Int.emod_nonneg k (show (5 : Int) ≠ 0 by decide)
  have bk2 := Int.emod_lt_of_pos k (show (0 : Int) < 5 by decide)
  have hM : mkP m k v = if v % 5 = 0 then (numB m k, numB m k)
    else if v % 5 = 1 then (numB m k, cop .add (numB m k) (numB v k % p63))
    else if v % 5 = 2 then (cop .sub 0 (numB m k % p63), numB v m % p63)
    else if v % 5 = 3 then (floatOfInt .f64 (m % 9 - 4), floatOfInt .f64 (m % 9 - 4 + k % 5))
    else (numB m k, cop .add (numB m k) 4607182418800017408) := rfl
  unfold MadeP
  generalize mkP m k v = M at *
  generalize v % 5 = u at *
  generalize m % 9 = um at *
  generalize k % 5 = uk at *
  generalize numB m k = x at *
  generalize numB v k = y at *
  generalize numB v m = z at *
  obtain ⟨ra, fa1, fa2, ea⟩ := hA
  obtain ⟨rs, fs1, fs2, es⟩ := hS
  obtain ⟨ro, fo1, fo2, eo⟩ := hO
  rw [← ea, ← es, ← eo] at hM
  have AX := fun W => abs_quiet x W hx
  have AY := fun W => abs_quiet y W hy
  have AZ := fun W => abs_quiet z W hz
  have hNX := Lib.hid NX
  have hNY := Lib.hid NY
  have hNZ := Lib.hid NZ
  have hW5 := Lib.hid W5
  have hWm := Lib.hid Wm
  have hWk := Lib.hid Wk
  have hAX := Lib.hid AX
  have hAY := Lib.hid AY
  have hAZ := Lib.hid AZ
  have HM := Lib.hid hM
  clear NX NY NZ W5 Wm Wk AX AY AZ hM ea es eo hx hy hz
  have hu : u = 0 ∨ u = 1 ∨ u = 2 ∨ u = 3 ∨ u = 4 := by omega
  clear b0 b5
  go_enter Try.func17, Try.ntmps17
  go_wp2_with fail
  refine (hNX.out _).mono ?_
  rintro e w' ⟨rfl, rfl⟩
  go_wp2_with fail
  refine (hW5.out _).mono ?_
  rintro e w' ⟨rfl, rfl⟩
  rcases hu with rfl | rfl | rfl | rfl | rfl
  · go_wp2_with fail
    exact bodyPost_ret (v := iv x x) (by simp [results, Try.results17, go_sem]) rfl ⟨x, x, by rw [HM.out]; rfl, rfl, (Below.refl _ _).alloc (Nat.le_refl _) _⟩
  · go_wp2_with fail
    refine (hNY.out _).mono ?_
    rintro e w' ⟨rfl, rfl⟩
    go_wp2_with fail
    refine (hAY.out _).mono ?_
    rintro e w' ⟨rfl, rfl⟩
    go_wp2_with fail
    exact bodyPost_ret (v := iv x ra) (by simp [results, Try.results17, go_sem]) rfl ⟨x, ra, by rw [HM.out]; rfl, rfl, (Below.refl _ _).alloc (Nat.le_refl _) _⟩
  · go_wp2_with fail
    refine (hAX.out _).mono ?_
    rintro e w' ⟨rfl, rfl⟩
    go_wp2_with fail
    refine (hNZ.out _).mono ?_
    rintro e w' ⟨rfl, rfl⟩
    go_wp2_with fail
    refine (hAZ.out _).mono ?_
    rintro e w' ⟨rfl, rfl⟩
    go_wp2_with fail
    exact bodyPost_ret (v := iv rs (z % 9223372036854775808)) (by simp [results, Try.results17, go_sem]) rfl ⟨_, _, by rw [HM.out]; rfl, rfl, (Below.refl _ _).alloc (Nat.le_refl _) _⟩
  · go_wp2_with fail
    refine (hWm.out _).mono ?_
    rintro e w' ⟨rfl, rfl⟩
    go_wp2_with fail
    refine (hWm.out _).mono ?_
    rintro e w' ⟨rfl, rfl⟩
    go_wp2_with fail
    refine (hWk.out _).mono ?_
    rintro e w' ⟨rfl, rfl⟩
    go_wp2_with fail
    exact bodyPost_ret (v := iv (floatOfInt .f64 (um - 4)) (floatOfInt .f64 (um - 4 + uk))) (by simp [results, Try.results17, go_sem]) rfl ⟨_, _, by rw [HM.out]; rfl, rfl, (Below.refl _ _).alloc (Nat.le_refl _) _⟩
  · go_wp2_with fail
    exact bodyPost_ret (v := iv x ro) (by simp [results, Try.results17, go_sem]) rfl ⟨x, ro, by rw [HM.out]; rfl, rfl, (Below.refl _ _).alloc (Nat.le_refl _) _⟩

end Go.Proofs.Ytbepaoliboooaaa

namespace Go.Proofs.Ytbepaoliboooaaa
open Go.RowKit

namespace Ex
open Go
variable {P : Program} {V : Val}
/-- What more names stand for: from-tos that are made; rare numbers; the bound of e to the x; how far from 0. -/
def mkX : Nat → Nat → List Sc → Nat
  | 30, 0, [.i m, .i k, .i v] => (mkP m k v).1
  | 30, 1, [.i m, .i k, .i v] => (mkP m k v).2
  | 31, 0, [.i n] => rareB (n % 10)
  | 32, 0, [.f x] => expB (canon x)
  | 33, 0, [.f a, .f b] => magB (canon a) (canon b)
  | 34, 0, [.i m, .i k] => numB m k
  | j, i, args => ivX j i args
structure MkV (V : Val) : Prop extends IvV V where
  y : ∀ j i args, 30 ≤ j → j < 40 → V.ff j i args = mkX j i args
theorem adM_ok (l : List AD) : MkV (adV l mkX) := by
  refine ⟨⟨adV_ok l mkX, fun j i args h h2 => ?_⟩, fun j i args h h2 => ?_⟩
  · show (if j < 20 then stdF j i args else mkX j i args) = _
    rw [if_neg (by omega)]
    unfold mkX
    split <;> first | omega | rfl
  · show (if j < 20 then stdF j i args else mkX j i args) = _
    rw [if_neg (by omega)]
def i3 (a b c : E) : E := .ci a (.ci b (.ci c .n0))
def toI64 : C → Option E
  | .i .i64 n => some (.li n)
  | .ei .i64 e => some e
  | _ => none
theorem toI64_ok {ρ : Rho} {c : C} {e : E} {v : Value} (h : toI64 c = some e) (hv : CR V ρ c v) : v = .int .i64 (evI V e) := by
  unfold toI64 at h
  split at h <;> simp only [Option.some.injEq, reduceCtorEq] at h
  · subst h; exact hv
  · subst h; exact hv
def makeS : List SV → Option SV
  | [.c a, .c b, .c c] => match toI64 a, toI64 b, toI64 c with
    | some a, some b, some c => some (.ag [.ef (.af 30 0 (i3 a b c)), .ef (.af 30 1 (i3 a b c))])
    | _, _, _ => none
  | _ => none
theorem args_three {ρ : Rho} {a b c : SV} {l : List Value} (h : All2 (VR V ρ) [a, b, c] l) : ∃ x y z, l = [x, y, z] ∧ VR V ρ a x ∧ VR V ρ b y ∧ VR V ρ c z := by
  match l, h with
  | [x, y, z], h => exact ⟨x, y, z, rfl, h.1, h.2.1, h.2.2.1⟩
  | [], h => exact h.elim
  | [_], h => exact h.2.elim
  | [_, _], h => exact h.2.2.elim
  | _ :: _ :: _ :: _ :: _, h => exact h.2.2.2.elim
theorem make_holds (hV : MkV V) : Holds Try.prog V 17 makeS := by
  intro args v h ρ vs w hargs
  unfold makeS at h
  split at h
  · rename_i a b c
    split at h
    · rename_i ea eb ec h1 h2 h3
      simp only [Option.some.injEq] at h
      subst h
      obtain ⟨x, y, z, hl, g1, g2, g3⟩ := args_three hargs
      have e1 := toI64_ok h1 g1
      have e2 := toI64_ok h2 g2
      have e3 := toI64_ok h3 g3
      obtain rfl : vs = #[.int .i64 (evI V ea), .int .i64 (evI V eb), .int .i64 (evI V ec)] := by
        apply Array.ext'; rw [hl, e1, e2, e3]
      refine (mkP_any (evI V ea) (evI V eb) (evI V ec) w).mono fun e w' ⟨p, q, he, hr, hb⟩ => ⟨_, hr, ⟨_, rfl, ?_⟩, hb⟩
      have hm := (mkP_mid (evI V ea) (evI V eb) (evI V ec)).fin
      rw [← he] at hm
      refine ⟨⟨p, rfl, ?_, hm.2.2.1⟩, ⟨q, rfl, ?_, hm.2.2.2⟩, trivial⟩
      · have : evF V (.af 30 0 (i3 ea eb ec)) = p := by
          show V.ff 30 0 (evS V (i3 ea eb ec)) = p
          rw [hV.y _ _ _ (by decide) (by decide)]
          show (mkP (evI V ea) (evI V eb) (evI V ec)).1 = p
          rw [← he]
        rw [this]
      · have : evF V (.af 30 1 (i3 ea eb ec)) = q := by
          show V.ff 30 1 (evS V (i3 ea eb ec)) = q
          rw [hV.y _ _ _ (by decide) (by decide)]
          show (mkP (evI V ea) (evI V eb) (evI V ec)).2 = q
          rw [← he]
        rw [this]
    · cases h
  · cases h
/-- How far from 0, by its name. -/
def magS : List SV → Option SV
  | [.ag [a, b]] => match a.toF, b.toF with
    | some (.lf a), some (.lf b) => some (.c (.f (magB (canon a) (canon b))))
    | some a, some b => some (.c (.ef (.af 33 0 (.cf a (.cf b .n0)))))
    | _, _ => none
  | _ => none
theorem magB_FR {a b a' b' : Nat} (h : FR a a') (g : FR b b') : FR (magB (canon a) (canon b)) (magB a' b') := by
  have e1 := abs_FR h
  have e2 := abs_FR g
  unfold magB
  have : p63 = 9223372036854775808 := rfl
  rw [this] at e1 e2
  have hl : ltB (canon b % 9223372036854775808) (canon a % 9223372036854775808) = ltB (b' % 9223372036854775808) (a' % 9223372036854775808) := by
    rw [← ltB_canon, e1.1, e2.1, ltB_canon]
  rw [hl]
  split
  · exact e1
  · exact e2
theorem mag_holds (hV : MkV V) : Holds Try.prog V 41 magS := by
  intro args v h ρ vs w hargs
  unfold magS at h
  split at h
  · rename_i a b
    obtain ⟨u1, rfl, hu⟩ := args_one hargs
    have main : ∀ (ea eb : E) (v : SV), a.toF = some ea → b.toF = some eb → (∀ x, FR (magB (canon (evF V ea)) (canon (evF V eb))) x → VR V ρ v (.float .f64 x)) → Calls Try.prog 41 #[u1] w fun e w' => ∃ rv, e = .returned rv ∧ VR V ρ v rv ∧ Go.RowKit.Below w.heap.size w w' := fun ea eb v h1 h2 hv => by
      obtain ⟨x, y, rfl, hx, hy⟩ := ivE_of h1 h2 hu
      exact (mag_any x y w hx.2 hy.2).mono fun e w' ⟨he, hb⟩ => ⟨_, he, hv _ (magB_FR hx hy), hb⟩
    split at h
    · rename_i x y h1 h2
      simp only [Option.some.injEq] at h
      subst h
      exact main _ _ _ h1 h2 fun x hx => ⟨x, rfl, hx⟩
    · rename_i ea eb _ h1 h2
      simp only [Option.some.injEq] at h
      subst h
      refine main _ _ _ h1 h2 fun x hx => ⟨x, rfl, ?_⟩
      have : evF V (.af 33 0 (.cf ea (.cf eb .n0))) = magB (canon (evF V ea)) (canon (evF V eb)) := by
        show V.ff 33 0 _ = _
        rw [hV.y _ _ _ (by decide) (by decide)]; rfl
      rw [this]; exact hx
    · cases h
  · cases h
theorem expB_canon (x : Nat) : expB (canon x) = expB x := by
  cases h : isN x
  · rw [canon_num h]
  · have : isN (canon x) = true := by rw [isN_canon, h]
    unfold expB; rw [h, this, Bool.true_or, Bool.true_or, if_pos rfl, if_pos rfl]
theorem expB_lt (x : Nat) : expB x < 18446744073709551616 := by
  unfold expB
  split
  · decide
  · have sq_lt : ∀ p, (sq p).2 < 18446744073709551616 := fun p => by
      unfold sq
      rw [show mulI p.1 p.2 p.1 p.2 = iv (mulP p.1 p.2 p.1 p.2).1 (mulP p.1 p.2 p.1 p.2).2 from aroundP_eq _ _ _ _, endsOf_iv]
      exact (mulP_lt _ _ _ _).2
    have : ∀ k p, k ≠ 0 → (sqN k p).2 < 18446744073709551616 := fun k p hk => by
      cases k with
      | zero => exact absurd rfl hk
      | succ k => unfold sqN; exact sq_lt _
    exact this 10 _ (by decide)
/-- The bound of e to the x, by its name. -/
def expS : List SV → Option SV
  | [.c x] => match x.toF with
    | some (.lf x) => some (.c (.f (expB x)))
    | some e => some (.c (.ef (.af 32 0 (.cf e .n0))))
    | none => none
  | _ => none
theorem exp_holds (hV : MkV V) : Holds Try.prog V 22 expS := by
  intro args v h ρ vs w hargs
  unfold expS at h
  have fr : ∀ {x y}, FR x y → FR (expB x) (expB y) := fun {x y} h => ⟨by rw [← expB_canon x, h.1, expB_canon], expB_lt _⟩
  split at h
  · rename_i x
    obtain ⟨u1, rfl, hx⟩ := args_one hargs
    split at h
    · rename_i x' he
      simp only [Option.some.injEq] at h
      subst h
      obtain ⟨y, rfl, hy⟩ := toF_ok he hx
      exact (exp_all y w).mono fun e w' ⟨he, hb⟩ => ⟨_, he, ⟨_, rfl, fr hy⟩, hb⟩
    · rename_i e _ he
      simp only [Option.some.injEq] at h
      subst h
      obtain ⟨y, rfl, hy⟩ := toF_ok he hx
      refine (exp_all y w).mono fun e' w' ⟨he, hb⟩ => ⟨_, he, ⟨_, rfl, ?_⟩, hb⟩
      have : evF V (.af 32 0 (.cf e .n0)) = expB (evF V e) := by
        show V.ff 32 0 _ = _
        rw [hV.y _ _ _ (by decide) (by decide)]; exact expB_canon _
      rw [this]; exact fr hy
    · cases h
  · cases h
end Ex
end Go.Proofs.Ytbepaoliboooaaa
