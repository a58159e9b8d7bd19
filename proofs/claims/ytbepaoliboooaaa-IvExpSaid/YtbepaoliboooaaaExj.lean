/-
  The runner's operations beside Go's: each of them.
-/
import Derived.Test.YtbepaoliboooaaaExi
namespace Go.Proofs.Ytbepaoliboooaaa.Ex
open Go
variable {P : Program} {V : Val} {ρ : Rho}

theorem app_wp {o : Oper} {a : Act} {w : World} {K : Act → World → Prop} {Q : Exit → Act → World → Prop} {hg : HG} (hh : HR V ρ hg w) {nx : Nat} {call : Callee} {c : Call} (ho : o.op = .call c) (hcb : c.callee = .builtin .append)
    {get : Nat → Option SV} (ht : TR V ρ get a.tmps) {p : Plan} (hp : planBuiltin P .append c.argTypes (c.args.toList.map (evalX get)) = .ok p) {r : Rec} (hr : runPlan call hg nx p = .ok r) (hf : ∀ b, nx ≤ b → b < r.nx → ρ b = none)
    (hk : ∀ ρ' w' rv, Step V ρ hg nx w r.v (upd hg r) r.nx ρ' w' rv → K (a.put o.dst rv) w') : o.wp P a w K Q := by
  unfold planBuiltin at hp
  simp only at hp
  split at hp
  · rename_i t t2 x y h0 h1 hargs
    cases hc : (Nat.beq t t2 && Nat.beq c.argTypes.size 2) <;> rw [hc] at hp
    · cases hp
    · simp only [cond_true] at hp
      simp only [Bool.and_eq_true] at hc
      have htt := Nat.eq_of_beq_eq_true hc.1
      have hsz := Nat.eq_of_beq_eq_true hc.2
      subst htt
      split at hp
      · rename_i e hu
        split at hp
        · rename_i i d s z hi hd hs hz
          cases hc2 : (Nat.ble i.bytes 100000 && Nat.beq z.length i.size) <;> rw [hc2] at hp
          · cases hp
          · simp only [cond_true, Res.ok.injEq] at hp
            subst hp
            simp only [Bool.and_eq_true] at hc2
            have hbytes := Nat.le_of_ble_eq_true hc2.1
            have hzl := Nat.eq_of_beq_eq_true hc2.2
            obtain ⟨i2, zv, hi2, hzv, hzc, hzr⟩ := zeroC_ok (V := V) (ρ := ρ) hz
            rw [hi] at hi2
            simp only [Option.some.injEq] at hi2
            subst hi2
            have hzs : zv.cells.size = i.size := by have := hzc.len; simp at this; omega
            have hats : c.argTypes = #[t, t] := by
              apply Array.ext'
              have hl : c.argTypes.toList.length = 2 := by simpa using hsz
              match hm : c.argTypes.toList, hl with
              | [u, v], _ =>
                have e0 : c.argTypes.toList[0]? = some t := by simpa using h0
                have e1 : c.argTypes.toList[1]? = some t := by simpa using h1
                rw [hm] at e0 e1
                simp at e0 e1
                rw [e0, e1]
            have hargs2 : ∃ X Y, c.args.map a.eval = #[a.eval X, a.eval Y] ∧ evalX get X = x ∧ evalX get Y = y := by
              match hm : c.args.toList with
              | [] => rw [hm] at hargs; simp at hargs
              | [X] => rw [hm] at hargs; simp at hargs
              | [X, Y] =>
                rw [hm] at hargs
                simp at hargs
                refine ⟨X, Y, ?_, hargs.1, hargs.2⟩
                apply Array.ext'
                simp [hm]
              | X :: Y :: Z :: l => rw [hm] at hargs; simp at hargs
            obtain ⟨X, Y, hXY, hX, hY⟩ := hargs2
            have hexec : execOp a.eval o = (do pure (Next.value (← Builtin.append_ #[t, t] o.type #[a.eval X, a.eval Y]))) := by
              rw [exec_builtin ho hcb, hats, hXY]; rfl
            have hsY : SliceR V ρ s (a.eval Y) := asSlice_ok hs fun u hu => evalX_ok ht (hY.trans hu)
            have hdX : SliceR V ρ d (a.eval X) := asSlice_ok hd fun u hu => evalX_ok ht (hX.trans hu)
            unfold runPlan at hr
            simp only at hr
            split at hr
            · cases hr
            · rename_i new hnew
              obtain ⟨n, news, hn, hnv, hnl, hsrc, hsx⟩ := src_ok (P := P) hh hnew hsY
              rw [← hn] at hr
              obtain ⟨hlen, hfirst⟩ := hsrc w rfl
              have hnl2 := hnv.len
              cases d with
              | none =>
                simp only [dstLen] at hr
                unfold SliceR at hdX
                rw [hdX] at hexec
                cases hc3 : Nat.ble (0 + n) 1000000 <;> rw [hc3] at hr
                · cases hr
                · simp only [cond_true] at hr
                  have hsmall := Nat.le_of_ble_eq_true hc3
                  cases hc4 : Nat.beq n 0 <;> rw [hc4] at hr
                  · simp only [cond_false, Res.ok.injEq] at hr
                    have hn0 : n ≠ 0 := fun e => by subst e; simp at hc4
                    rcases hsx with ⟨-, h, -⟩ | ⟨ad, cp, hx, hcell⟩
                    · exact absurd h hn0
                    · have hb1 : n * i.bytes ≤ 281474976710656 := Nat.le_trans (Nat.mul_le_mul (by omega : n ≤ 1000000) hbytes) (by decide)
                      have hrun := run_append_nil (P := P) w t o.type e i zv hu hi hzv ad n cp news (by omega) hcell (by omega) (by omega) hb1
                      rw [hx] at hexec
                      have hge := grownCap_ge w n 0 e
                      subst hr
                      have hf0 : ρ nx = none := hf nx (Nat.le_refl _) (by simp)
                      have hsize : (news.toArray ++ Builtin.zeroCells zv.cells (grownCap w n 0 e - n)).size = grownCap w n 0 e * i.size := by
                        rw [Array.size_append, size_zeroCells, hzs, List.size_toArray, hnl, ← Nat.add_mul]
                        congr 1; omega
                      refine wp_value (by rw [hexec]; exact run_v hrun) (hk _ _ _ (Step.ofDrew (Step.new_ hh.drew hf0 (fun j cc hj => ?_) (by rw [hsize]; rw [hnl2, hnl]; exact Nat.mul_le_mul_right _ hge) e ?_ _)))
                      · obtain ⟨u, u1, u2⟩ := hnv.get hj
                        refine ⟨u, ?_, u2⟩
                        have hlt : j < news.length := by
                          rcases Nat.lt_or_ge j news.length with g | g
                          · exact g
                          · rw [List.getElem?_eq_none g] at u1; cases u1
                        rw [Array.getElem?_append_left (by simpa using hlt)]
                        simpa using u1
                      · exact ⟨_, grownCap w n 0 e, put_same, rfl, hge, by simp only; rw [hsize]; omega⟩
                  · simp only [cond_true, Res.ok.injEq] at hr
                    have hn0 := Nat.eq_of_beq_eq_true hc4
                    subst hn0
                    subst hr
                    have hz0 : news = [] := List.eq_nil_of_length_eq_zero (by omega)
                    subst hz0
                    refine wp_value (w' := w) (rv := .slice none 0 0) ?_ (hk _ _ _ ((Step.refl hh (v := .c .sl0) (rv := .slice none 0 0) rfl 0).eqG (upd_none rfl rfl).symm))
                    rw [hexec]
                    refine run_v ?_
                    simp [Builtin.append_, run_underlying hu, sizeOf, typeInfo, hi, hlen, hfirst]
              | some dd =>
                obtain ⟨b, off, len, cap⟩ := dd
                simp only [dstLen] at hr
                cases hc3 : Nat.ble (len + n) 1000000 <;> rw [hc3] at hr
                · cases hr
                · simp only [cond_true] at hr
                  have hsmall := Nat.le_of_ble_eq_true hc3
                  obtain ⟨q, scap, hq, hXe, hlc, hcap⟩ := hdX
                  rw [hXe] at hexec
                  have hfit : ∀ old : Nat, old < len + n → Builtin.nextslicecap (len + n) old * i.bytes ≤ 281474976710656 := fun old ho' => by
                    have := nextslicecap_le ho'
                    exact Nat.le_trans (Nat.mul_le_mul (by omega : _ ≤ 2000000) hbytes) (by decide)
                  have grow : ∀ (oldc : List C), rangeC hg b off (len * i.size) = some oldc → scap < len + n → ∀ (rb : List Nat), ρ nx = none →
                      ∃ rv w', (execOp a.eval o).run P w = .ok (.value rv) w' ∧ Step V ρ hg nx w (.c (.sl nx 0 (len + n) (.u i.size))) (upd hg { v := .c (.sl nx 0 (len + n) (.u i.size)), wb := [(nx, some (oldc ++ new))], rb, nx := nx + 1 }) (nx + 1) (put ρ nx (w.heap.size, 0, (len + n + (grownCap w (len + n) scap e - (len + n))) * i.size, none)) w' rv := by
                    intro oldc hold hlt rb hf0
                    obtain ⟨q', vs, e', cells, e1, e2, e3, e4, e5, e6, e7⟩ := hh.range hold
                    rw [hq] at e1
                    simp only [Option.some.injEq] at e1
                    subst e1
                    have hoc : ∀ (j : Nat) (v : Value), vs[j]? = some v → w.cell? ((⟨q.1, q.2.1 + off, none⟩ : Addr).add j) = some v := fun j v hj => by
                      rw [addr_add]
                      exact rangeAt_of (o := q.2.1 + off) (n := len * i.size) e2 j v (by rw [← e4]; exact hj)
                    have hge := grownCap_ge w (len + n) scap e
                    rcases hsx with ⟨-, h, -⟩ | ⟨ad, cp, hx, hcell⟩
                    · omega
                    · have hrun := run_append_grow (P := P) w t o.type e i zv hu hi hzv ⟨q.1, q.2.1 + off, none⟩ len scap vs e5 hoc ad n cp news (by omega) hcell hlt (by omega) (hfit scap hlt)
                      rw [hx] at hexec
                      have hsize : (vs.toArray ++ news.toArray ++ Builtin.zeroCells zv.cells (grownCap w (len + n) scap e - (len + n))).size = (len + n + (grownCap w (len + n) scap e - (len + n))) * i.size := by
                        rw [Array.size_append, Array.size_append, size_zeroCells, hzs, List.size_toArray, List.size_toArray, e5, hnl, Nat.add_mul, Nat.add_mul]
                      have hov := All2.append e6 hnv
                      have hst := Step.new_ (V := V) (w := w.drew) hh.drew hf0 (cs := oldc ++ new) (vs := vs.toArray ++ news.toArray ++ Builtin.zeroCells zv.cells (grownCap w (len + n) scap e - (len + n))) (fun j cc hj => ?_) (by rw [hsize, hov.len, List.length_append, e5, hnl, ← Nat.add_mul]; exact Nat.mul_le_mul_right _ (by omega)) e
                        (v := .c (.sl nx 0 (len + n) (.u i.size))) (rv := .slice (some ⟨w.heap.size, 0, none⟩) (len + n) (grownCap w (len + n) scap e)) ⟨_, _, put_same, rfl, by omega, ?_⟩ rb
                      · rw [hsize] at hst
                        exact ⟨_, _, by rw [hexec]; exact run_v hrun, hst.ofDrew⟩
                      · obtain ⟨u, u1, u2⟩ := hov.get hj
                        refine ⟨u, ?_, u2⟩
                        have hlt : j < (vs ++ news).length := by
                          rcases Nat.lt_or_ge j (vs ++ news).length with g | g
                          · exact g
                          · rw [List.getElem?_eq_none g] at u1; cases u1
                        rw [Array.getElem?_append_left (by simpa using hlt)]
                        simpa using u1
                      · simp only; rw [hsize]; rw [show len + n + (grownCap w (len + n) scap e - (len + n)) = grownCap w (len + n) scap e by omega]; omega
                  cases cap with
                  | n k =>
                    simp only at hcap
                    subst hcap
                    simp only at hr
                    cases hc4 : Nat.ble (len + n) scap <;> rw [hc4] at hr
                    · simp only [cond_false] at hr
                      split at hr
                      · rename_i old hold
                        simp only [Res.ok.injEq] at hr
                        subst hr
                        have hlt : scap < len + n := by
                          rcases Nat.lt_or_ge scap (len + n) with g | g
                          · exact g
                          · rw [Nat.ble_eq_true_of_le g] at hc4; cases hc4
                        obtain ⟨rv, w', g1, g2⟩ := grow old hold hlt _ (hf nx (Nat.le_refl _) (by simp))
                        exact wp_value g1 (hk _ _ _ g2)
                      · cases hr
                    · simp only [cond_true] at hr
                      have hroom := Nat.le_of_ble_eq_true hc4
                      split at hr
                      · rename_i old hold
                        simp only [Res.ok.injEq] at hr
                        subst hr
                        obtain ⟨q', vs, e', cells, e1, e2, e3, e4, e5, e6, e7⟩ := hh.range hold
                        rw [hq] at e1
                        simp only [Option.some.injEq] at e1
                        subst e1
                        have hrun := run_append_in (P := P) (ty := o.type) (sLen := len) (o := q.2.1 + off) hu hi hlen hfirst hroom e2 (by omega) hnv.one
                        have hst := Step.cells (v := .c (.sl b off (len + n) (.n scap))) (rv := .slice (some ⟨q.1, q.2.1 + off, none⟩) (len + n) scap) hh (nx := nx) hold hnv hq ⟨q, scap, hq, rfl, hroom, rfl⟩
                        rw [show q.2.1 + off + len * i.size = q.2.1 + (off + len * i.size) by omega] at hrun
                        exact wp_value (by rw [hexec]; exact run_v hrun) (hk _ _ _ hst)
                      · cases hr
                  | u sz =>
                    simp only at hcap hr
                    cases hc4 : Nat.beq sz i.size <;> rw [hc4] at hr
                    · cases hr
                    · simp only [cond_true] at hr
                      have hsz2 := Nat.eq_of_beq_eq_true hc4
                      subst hsz2
                      split at hr
                      · rename_i old hold
                        simp only [Res.ok.injEq] at hr
                        subst hr
                        have hf0 : ρ nx = none := hf nx (Nat.le_refl _) (by simp)
                        by_cases hroom : len + n ≤ scap
                        · obtain ⟨q', vs, e', cells, e1, e2, e3, e4, e5, e6, e7⟩ := hh.range hold
                          rw [hq] at e1
                          simp only [Option.some.injEq] at e1
                          subst e1
                          obtain ⟨blk, hb, hblen, hbold⟩ := rangeC_ok hold
                          obtain ⟨q', cells', e'', f1, f2, f3, f4, f5⟩ := hh.at_ b blk hb
                          rw [hq] at f1
                          simp only [Option.some.injEq] at f1
                          subst f1
                          rw [e2] at f2
                          simp only [Option.some.injEq, Obj.cells.injEq] at f2
                          obtain ⟨rfl, -, -⟩ := f2
                          have hcs : (len + n) * i.size ≤ scap * i.size := Nat.mul_le_mul_right _ hroom
                          rw [Nat.add_mul] at hcs
                          have hrun := run_append_in (P := P) (ty := o.type) (sLen := len) (o := q.2.1 + off) hu hi hlen hfirst hroom e2 (by omega) hnv.one
                          have hst := Step.move (v := .c (.sl nx 0 (len + n) (.u i.size))) (rv := .slice (some ⟨q.1, q.2.1 + off, none⟩) (len + n) scap) hh hf0 hq (old := old) (o := off) (by rw [e7]; exact hold) hnv (by rw [e7, hnl2, hnl]; omega) ⟨_, scap, put_same, rfl, hroom, by simp only; omega⟩ (b :: srcIds (s.map fun q => (q.1, q.2.1, q.2.2.1)))
                          rw [e7] at hst
                          exact wp_value (by rw [hexec]; exact run_v hrun) (hk _ _ _ hst)
                        · obtain ⟨rv, w', g1, g2⟩ := grow old hold (by omega) [] hf0
                          refine wp_value g1 (hk _ _ _ (g2.drop fun b' blk hb' => ?_))
                          unfold upd at hb' ⊢
                          simp only [lookB] at hb' ⊢
                          cases n1 : Nat.beq nx b' <;> rw [n1] at hb'
                          · cases n2 : Nat.beq b b' <;> rw [n2] at hb'
                            · exact hb'
                            · simp at hb'
                          · exact hb'
                      · cases hr
        · cases hp
      · cases hp
  · cases hp
end Go.Proofs.Ytbepaoliboooaaa.Ex
