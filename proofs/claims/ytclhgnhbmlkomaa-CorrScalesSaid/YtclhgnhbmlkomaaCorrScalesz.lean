/-
  'CorrScales': whatever it is given.
-/
import Derived.Test.YtclhgnhbmlkomaaCorrScales0
import Derived.Test.YtclhgnhbmlkomaaCorrScales2
import Derived.Test.YtclhgnhbmlkomaaCorrScalesN0
import Derived.Test.YtclhgnhbmlkomaaCorrScalesN1
import Derived.Test.YtclhgnhbmlkomaaCorrScalesN2
import Derived.Test.YtclhgnhbmlkomaaCorrScalesN3
namespace Go.Proofs.Ytclhgnhbmlkomaa
open Go.RowKit Ex

theorem scRun_all : ∀ (n : Nat) (c : Bool), n ≤ 12 → scRun n c true = true := by
  intro n c hn
  have hc : n = 0 ∨ n = 1 ∨ n = 2 ∨ n = 3 ∨ n = 4 ∨ n = 5 ∨ n = 6 ∨ n = 7 ∨ n = 8 ∨ n = 9 ∨ n = 10 ∨ n = 11 ∨ n = 12 := by omega
  rcases hc with rfl | rfl | rfl | rfl | rfl | rfl | rfl | rfl | rfl | rfl | rfl | rfl | rfl
  · cases c
    · exact scRun_0ft
    · exact scRun_0tt
  · cases c
    · exact scRun_1ft
    · exact scRun_1tt
  · cases c
    · exact scRun_2ft
    · exact scRun_2tt
  · cases c
    · exact scRun_3ft
    · exact scRun_3tt
  · cases c
    · exact scRun_4ft
    · exact scRun_4tt
  · cases c
    · exact scRun_5ft
    · exact scRun_5tt
  · cases c
    · exact scRun_6ft
    · exact scRun_6tt
  · cases c
    · exact scRun_7ft
    · exact scRun_7tt
  · cases c
    · exact scRun_8ft
    · exact scRun_8tt
  · cases c
    · exact scRun_9ft
    · exact scRun_9tt
  · cases c
    · exact scRun_10ft
    · exact scRun_10tt
  · cases c
    · exact scRun_11ft
    · exact scRun_11tt
  · cases c
    · exact scRun_12ft
    · exact scRun_12tt
theorem scB_all : ∀ (k : Nat) (c : Bool), k < 48 → scRunB k c = true := by
  intro k c hk
  have hc : k = 0 ∨ k = 1 ∨ k = 2 ∨ k = 3 ∨ k = 4 ∨ k = 5 ∨ k = 6 ∨ k = 7 ∨ k = 8 ∨ k = 9 ∨ k = 10 ∨ k = 11 ∨ k = 12 ∨ k = 13 ∨ k = 14 ∨ k = 15 ∨ k = 16 ∨ k = 17 ∨ k = 18 ∨ k = 19 ∨ k = 20 ∨ k = 21 ∨ k = 22 ∨ k = 23 ∨ k = 24 ∨ k = 25 ∨ k = 26 ∨ k = 27 ∨ k = 28 ∨ k = 29 ∨ k = 30 ∨ k = 31 ∨ k = 32 ∨ k = 33 ∨ k = 34 ∨ k = 35 ∨ k = 36 ∨ k = 37 ∨ k = 38 ∨ k = 39 ∨ k = 40 ∨ k = 41 ∨ k = 42 ∨ k = 43 ∨ k = 44 ∨ k = 45 ∨ k = 46 ∨ k = 47 := by omega
  rcases hc with rfl | rfl | rfl | rfl | rfl | rfl | rfl | rfl | rfl | rfl | rfl | rfl | rfl | rfl | rfl | rfl | rfl | rfl | rfl | rfl | rfl | rfl | rfl | rfl | rfl | rfl | rfl | rfl | rfl | rfl | rfl | rfl | rfl | rfl | rfl | rfl | rfl | rfl | rfl | rfl | rfl | rfl | rfl | rfl | rfl | rfl | rfl | rfl
  · cases c
    · exact scB_0f
    · exact scB_0t
  · cases c
    · exact scB_1f
    · exact scB_1t
  · cases c
    · exact scB_2f
    · exact scB_2t
  · cases c
    · exact scB_3f
    · exact scB_3t
  · cases c
    · exact scB_4f
    · exact scB_4t
  · cases c
    · exact scB_5f
    · exact scB_5t
  · cases c
    · exact scB_6f
    · exact scB_6t
  · cases c
    · exact scB_7f
    · exact scB_7t
  · cases c
    · exact scB_8f
    · exact scB_8t
  · cases c
    · exact scB_9f
    · exact scB_9t
  · cases c
    · exact scB_10f
    · exact scB_10t
  · cases c
    · exact scB_11f
    · exact scB_11t
  · cases c
    · exact scB_12f
    · exact scB_12t
  · cases c
    · exact scB_13f
    · exact scB_13t
  · cases c
    · exact scB_14f
    · exact scB_14t
  · cases c
    · exact scB_15f
    · exact scB_15t
  · cases c
    · exact scB_16f
    · exact scB_16t
  · cases c
    · exact scB_17f
    · exact scB_17t
  · cases c
    · exact scB_18f
    · exact scB_18t
  · cases c
    · exact scB_19f
    · exact scB_19t
  · cases c
    · exact scB_20f
    · exact scB_20t
  · cases c
    · exact scB_21f
    · exact scB_21t
  · cases c
    · exact scB_22f
    · exact scB_22t
  · cases c
    · exact scB_23f
    · exact scB_23t
  · cases c
    · exact scB_24f
    · exact scB_24t
  · cases c
    · exact scB_25f
    · exact scB_25t
  · cases c
    · exact scB_26f
    · exact scB_26t
  · cases c
    · exact scB_27f
    · exact scB_27t
  · cases c
    · exact scB_28f
    · exact scB_28t
  · cases c
    · exact scB_29f
    · exact scB_29t
  · cases c
    · exact scB_30f
    · exact scB_30t
  · cases c
    · exact scB_31f
    · exact scB_31t
  · cases c
    · exact scB_32f
    · exact scB_32t
  · cases c
    · exact scB_33f
    · exact scB_33t
  · cases c
    · exact scB_34f
    · exact scB_34t
  · cases c
    · exact scB_35f
    · exact scB_35t
  · cases c
    · exact scB_36f
    · exact scB_36t
  · cases c
    · exact scB_37f
    · exact scB_37t
  · cases c
    · exact scB_38f
    · exact scB_38t
  · cases c
    · exact scB_39f
    · exact scB_39t
  · cases c
    · exact scB_40f
    · exact scB_40t
  · cases c
    · exact scB_41f
    · exact scB_41t
  · cases c
    · exact scB_42f
    · exact scB_42t
  · cases c
    · exact scB_43f
    · exact scB_43t
  · cases c
    · exact scB_44f
    · exact scB_44t
  · cases c
    · exact scB_45f
    · exact scB_45t
  · cases c
    · exact scB_46f
    · exact scB_46t
  · cases c
    · exact scB_47f
    · exact scB_47t
theorem sc_flts {w : World} {v : Value} {xs : List Nat} (h : Flts w v xs) (i : Nat) : floatAt (fltsArr xs) i < 18446744073709551616 := by
  have e : floatAt (fltsArr xs) i = xs.getD i 0 := by
    unfold floatAt fltsArr
    rw [List.getElem?_toArray, List.getElem?_map]
    cases hx : xs[i]? with
    | none => simp [List.getD, hx]
    | some n => simp [List.getD, hx]
  rw [e]
  rcases h with ⟨o, c, -, rfl⟩ | ⟨b, off, cap, -, -, -, h3⟩
  · simp [List.getD]
  · rcases Nat.lt_or_ge i xs.length with g | g
    · exact (h3 i g).1
    · simp [List.getD, List.getElem?_eq_none g]
theorem sc_lens {V : Val} {c : Bool} (hc : decide ((V.arr 1).size < (V.arr 0).size) = c) {n : Nat} (hn : LOK V (lenL (bif c then 1 else 0) n 12)) : LOK V (scLens n c) := by
  intro e b hm
  unfold scLens at hm
  rcases List.mem_cons.1 hm with h | hm
  · cases h
    show decide (((V.arr 1).size : Int) < ((V.arr 0).size : Int)) = c
    rw [← hc]
    by_cases h : (V.arr 1).size < (V.arr 0).size
    · rw [decide_eq_true h, decide_eq_true (by omega)]
    · rw [decide_eq_false h, decide_eq_false (by omega)]
  rcases List.mem_append.1 hm with hm | hm
  · exact hn e b hm
  · cases n with
    | zero => cases hm
    | succ m =>
      simp only [List.mem_singleton, Prod.mk.injEq] at hm
      obtain ⟨rfl, rfl⟩ := hm
      have h := hn (.ic .lss (.li m) (.vl (bif c then 1 else 0))) true (by simp [lenL])
      cases c
      · have h : decide ((m : Int) < ((V.arr 0).size : Int)) = true := h
        have h := of_decide_eq_true h
        have hc := of_decide_eq_false hc
        exact decide_eq_true (show (m : Int) < ((V.arr 1).size : Int) by omega)
      · have h : decide ((m : Int) < ((V.arr 1).size : Int)) = true := h
        have h := of_decide_eq_true h
        have hc := of_decide_eq_true hc
        exact decide_eq_true (show (m : Int) < ((V.arr 0).size : Int) by omega)
theorem sc_len : (scAll 12).length = 48 := by decide
theorem sc_take {n : Nat} (hn : n ≤ 12) : scAll n = (scAll 12).take (4 * n) := by
  have hc : n = 0 ∨ n = 1 ∨ n = 2 ∨ n = 3 ∨ n = 4 ∨ n = 5 ∨ n = 6 ∨ n = 7 ∨ n = 8 ∨ n = 9 ∨ n = 10 ∨ n = 11 ∨ n = 12 := by omega
  rcases hc with rfl | rfl | rfl | rfl | rfl | rfl | rfl | rfl | rfl | rfl | rfl | rfl | rfl <;> rfl
theorem sc_first {V : Val} {l : List (E × Bool)} : ∀ m : Nat, m ≤ l.length → (∀ j x, j < m → l[j]? = some x → evB V x.1 = x.2) ∨ ∃ k e b, k < m ∧ l[k]? = some (e, b) ∧ (∀ j x, j < k → l[j]? = some x → evB V x.1 = x.2) ∧ evB V e = !b
  | 0, _ => .inl fun j x h => by omega
  | m + 1, hm => by
    rcases sc_first (V := V) (l := l) m (by omega) with h | ⟨k, e, b, h1, h2⟩
    · obtain ⟨⟨e, b⟩, hq⟩ : ∃ q, l[m]'(by omega) = q := ⟨_, rfl⟩
      have hx : l[m]? = some (e, b) := by rw [List.getElem?_eq_getElem (show m < l.length by omega), hq]
      cases he : (evB V e == b)
      · refine .inr ⟨m, e, b, by omega, hx, h, ?_⟩
        cases hb : evB V e <;> cases b <;> simp [hb] at he ⊢
      · refine .inl fun j x hj hjx => ?_
        rcases Nat.lt_or_ge j m with g | g
        · exact h j x g hjx
        · obtain rfl : j = m := by omega
          rw [hx] at hjx
          cases hjx
          simpa using he
    · exact .inr ⟨k, e, b, by omega, h2⟩
theorem sc_bad {V : Val} {n : Nat} (hn : n ≤ 12) (h : ¬ ∀ c, c ∈ scAll n → evB V c.1 = c.2) : ∃ k, k < 4 * n ∧ LOK V (scBad k) := by
  rcases sc_first (V := V) (l := scAll 12) (4 * n) (by rw [sc_len]; omega) with g | ⟨k, e, b, h1, h2, h3, h4⟩
  · refine absurd (fun c hm => ?_) h
    rw [sc_take hn] at hm
    obtain ⟨j, hj⟩ := List.getElem?_of_mem hm
    rw [List.getElem?_take] at hj
    split at hj
    · rename_i hlt
      exact g j c hlt hj
    · cases hj
  · refine ⟨k, h1, fun x y hm => ?_⟩
    unfold scBad at hm
    rw [h2] at hm
    rcases List.mem_cons.1 hm with hm | hm
    · cases hm; exact h4
    · obtain ⟨j, hj⟩ := List.getElem?_of_mem hm
      rw [List.getElem?_take] at hj
      split at hj
      · rename_i hlt
        exact h3 j (x, y) hlt hj
      · cases hj
theorem sc_badL {V : Val} {c : Bool} (hc : decide ((V.arr 1).size < (V.arr 0).size) = c) {n k : Nat} (hn : LOK V (lenL (bif c then 1 else 0) n 12)) (hk : k < 4 * n) (hb : LOK V (scBad k)) : LOK V (scBadL k c) := by
  have hl := sc_lens hc hn
  obtain ⟨m, rfl⟩ : ∃ m, n = m + 1 := ⟨n - 1, by omega⟩
  have hm : (m : Int) < ((V.arr 0).size : Int) ∧ (m : Int) < ((V.arr 1).size : Int) := by
    have h := hn (.ic .lss (.li m) (.vl (bif c then 1 else 0))) true (by simp [lenL])
    cases c
    · have h : decide ((m : Int) < ((V.arr 0).size : Int)) = true := h
      have h := of_decide_eq_true h
      have hc := of_decide_eq_false hc
      omega
    · have h : decide ((m : Int) < ((V.arr 1).size : Int)) = true := h
      have h := of_decide_eq_true h
      have hc := of_decide_eq_true hc
      omega
  intro e b he
  unfold scBadL at he
  rcases List.mem_cons.1 he with h | he
  · cases h; exact hl _ _ (by unfold scLens; simp)
  rcases List.mem_cons.1 he with h | he
  · cases h
    exact decide_eq_true (show ((k / 4 : Nat) : Int) < ((V.arr 0).size : Int) by omega)
  rcases List.mem_cons.1 he with h | he
  · cases h
    exact decide_eq_true (show ((k / 4 : Nat) : Int) < ((V.arr 1).size : Int) by omega)
  · exact hb e b he
theorem corrScales_any (v0 : Value) (zs0 : List Nat) (v1 : Value) (zs1 : List Nat) (w : World) (h0 : Flts w v0 zs0) (h1 : Flts w v1 zs1) :
    Calls Try.prog 13 #[v0, v1] w fun e w' => e = .returned (.bool true) ∧ Below w.heap.size w w' := by
  have hT : StdV (tabV (adV [.fs zs0, .fs zs1]) 100 []) := tabV_std (adV_ok _)
  obtain ⟨c, hc⟩ : ∃ c, decide ((((tabV (adV [.fs zs0, .fs zs1]) 100 []).arr 1).size) < ((tabV (adV [.fs zs0, .fs zs1]) 100 []).arr 0).size) = c := ⟨_, rfl⟩
  obtain ⟨n, hn, h4⟩ := lenL_ok (((tabV (adV [.fs zs0, .fs zs1]) 100 []).arr (bif c then 1 else 0)).size) (bif c then 1 else 0) 12
  have hl := sc_lens hc (h4 _ rfl)
  have ha : ∀ i, floatAt ((tabV (adV [.fs zs0, .fs zs1]) 100 []).arr 0) i < 18446744073709551616 := fun i => sc_flts h0 i
  refine run_driveT mixed namesAll (ds := [.fs zs0, .fs zs1]) (base := 100) (nx0 := 10) (k := 400) (fuel := 1000000) (n := 100) (by simp) (ctr := ctrOf (ctrS [])) (xf := fun _ _ _ => 0) (fun t => ctrS_ok (tabV_st (adV_ok _)) (fun _ _ _ h => by cases h)) (by simp) (vs := #[v0, v1]) ⟨h0, h1, trivial⟩ fun ks hk => ?_
  have hk : ks = [.g, .g] := by simpa [AD.kind, shapes, shapes1] using hk
  subst hk
  by_cases hall : ∀ c, c ∈ scAll n → evB (tabV (adV [.fs zs0, .fs zs1]) 100 []) c.1 = c.2
  · refine ⟨[], _, ⟨?_, cfD_ok ?_ (dok_exact hT), nm_none⟩, scRun_all n c hn⟩
    · exact lok_append hl fun e b hm => hall (e, b) hm
    · cases n with
      | zero => exact fun _ h => by cases h
      | succ k => exact sc_ok fun i hi => sc_ev hT ha fun c hm => hall c (List.mem_flatMap.2 ⟨i, List.mem_range.2 (by omega), hm⟩)
  · obtain ⟨k, hk, hb⟩ := sc_bad hn hall
    exact ⟨[], _, ⟨sc_badL hc (h4 _ rfl) hk hb, dok_exact hT, nm_none⟩, scB_all k c (by omega)⟩
end Go.Proofs.Ytclhgnhbmlkomaa
