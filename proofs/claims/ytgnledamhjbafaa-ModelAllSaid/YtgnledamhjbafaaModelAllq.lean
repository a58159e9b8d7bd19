/-
  'ModelAll': the law answers true, whatever it is given: every input, no condition.
-/
import Derived.Test.YtgnledamhjbafaaQz
import Derived.Great.BuildSlice
import Derived.Great.FillDense
import Derived.Test.YtgnledamhjbafaaRows
import Derived.WalkKit
import Derived.WalkLawsBesides
import Derived.ProofKit
import Derived.OpenShut
import Derived.Carry
namespace Go.Proofs.Ytgnledamhjbafaa
open Go.RowKit
open Ieee (double)
open Lib
attribute [local go_sem] zf ze zh zd zu zt zw zx zy zA zj zk zm zn zo zF yd zU zG xq
theorem fl40:∀ i:Fin 40,finN (floatOfInt .f64 (i.val:Int)):=by decide +kernel
theorem far_fin (far:Int):finN (floatOfInt .f64 (far % 40)):=by
 have a:=Int.emod_nonneg far (show (40:Int)≠0 by decide);have b:=Int.emod_lt_of_pos far (show (0:Int)<40 by decide);have h:=fl40 ⟨(far % 40).toNat,by omega⟩;have e:(((far % 40).toNat:Nat):Int)=far % 40:=by omega
 simp only [e] at h;exact h
theorem add_num {x y:Nat} (hx:finN x) (hy:finN y):isN (cop .add x y)=false:=(uk (show x % p63<zc from hx.1) (show y % p63<zc from hy.1)).1
def farF (zs:List Int) (r far:Int) (k:Nat):PQ:=if k=0 then (cop .add (mkF zs r 0).1 (floatOfInt .f64 (far % 40)),cop .add (mkF zs r 0).2 (floatOfInt .f64 (far % 40))) else mkF zs r k
theorem farF_lt (zs:List Int) (r far:Int) (k:Nat):ltQ (farF zs r far k):=by
 unfold farF;split
 ·exact ⟨zL _ _ _,zL _ _ _⟩
 ·exact ⟨(mkF_fin zs r k).1.2,(mkF_fin zs r k).2.2⟩
theorem mkF_lt (zs:List Int) (r:Int) (k:Nat):ltQ (mkF zs r k):=⟨(mkF_fin zs r k).1.2,(mkF_fin zs r k).2.2⟩
theorem oneF_lt {x:Nat} (hx:x<18446744073709551616) (k:Nat):ltQ (oneF x k):=by
 unfold oneF; split
 ·exact ⟨hx,hx⟩
 ·exact ltQ_zero
def rowP (x y:Nat→PQ) (i:Nat):Nat→PQ:=if i=1 then y else if i=3 then oneF 4607182418800017408 else x
def rowR (x y:Nat→PQ) (i:Nat):Nat→PQ:=if i=0 then y else if i=3 then y else x
def rowsF (x y:Nat→PQ) (e:Nat):PQ:=if e % 20<10 then rowP x y (e / 20) (e % 20) else rowR x y (e / 20) (e % 20-10)
theorem rowsF_p (x y:Nat→PQ) {i k:Nat} (hk:k<10):rowsF x y (i*20+k)=rowP x y i k:=by
 unfold rowsF;rw [if_pos (by omega),show (i*20+k) / 20=i by omega,show (i*20+k) % 20=k by omega]
theorem rowsF_r (x y:Nat→PQ) {i k:Nat} (hk:k<10):rowsF x y (i*20+10+k)=rowR x y i k:=by
 unfold rowsF;rw [if_neg (by omega),show (i*20+10+k) / 20=i by omega,show (i*20+10+k) % 20-10=k by omega]
theorem rowP_lt {x y:Nat→PQ} (hx:∀ k,ltQ (x k)) (hy:∀ k,ltQ (y k)) (i k:Nat):ltQ (rowP x y i k):=by
 unfold rowP; split
 ·exact hy k
 ·split
  ·exact oneF_lt (by decide) k
  ·exact hx k
theorem rowR_lt {x y:Nat→PQ} (hx:∀ k,ltQ (x k)) (hy:∀ k,ltQ (y k)) (i k:Nat):ltQ (rowR x y i k):=by
 unfold rowR; split
 ·exact hy k
 ·split
  ·exact hy k
  ·exact hx k
theorem clQ_split (F:Nat→PQ) (m:Nat):∀ n,clQ F (m+n)=clQ F m ++ clQ (fun k=>F (m+k)) n
 | 0=>by simp [clQ]
 | n+1=>by rw [← Nat.add_assoc,clQ,clQ_split F m n,clQ,List.append_assoc]
theorem PB.at {w:World} {b n:Nat} {F:Nat→PQ} (h:PB w b n F) {s m:Nat} (hs:s+m≤n) {G:Nat→PQ} (hG:∀ k,k<m→F (s+k)=G k):w.rangeAt b (s*2) (clQ G m):=fun j v hv=>by
 have hl:=clQ_len G m;have hj:j<m*2:=by rw [← hl]; exact (List.getElem?_eq_some_iff.1 hv).1
 rw [← hv];obtain ⟨g1,g2⟩:=clQ_get G (k:=j / 2) (n:=m) (by omega);have e:j / 2*2=j∨j / 2*2+1=j:=by omega
 rcases e with e | e
 ·rw [show s*2+j=(s+j / 2)*2 by omega,h.at0 _ (by omega),hG _ (by omega),← g1,e]
 ·rw [show s*2+j=(s+j / 2)*2+1 by omega,h.at1 _ (by omega),hG _ (by omega),← g2,e]
theorem exec_loadAtM {a:Act} {o:Oper} {w:World} {b s:Nat} {F:Nat→PQ} (x:Operand) (ho:o.op=.load 29 x) (hx:a.eval x=.pointer (some ⟨b,s,none⟩)) (h:w.rangeAt b s (clQ F 10)):(execOp a.eval o).run Try.prog w=.ok (.value (modV F)) w:=by
 obtain ⟨d,hu,hd⟩:=modT;have e:=run_loadAt_mid w b s 29 (clQ F 10) d h hu hd (by rw [clQ_len]; exact infoM);unfold execOp;simp only [ho,hx,Sem.run_bind,e,Result.andThen_ok,Sem.run_pure];rfl
theorem setCells_other {b k:Nat} (hk:k≠b):∀ (vs:List Value) (o:Nat) (w:World),(w.setCells b o vs).heap[k]? = w.heap[k]?
 | [],_,_=>rfl
 | v :: r,o,w=>by
  rw [World.setCells,setCells_other hk r (o+1) _];exact Below.heap_setCell _ _ _ _ (fun e=>hk (by simpa using e))
theorem wpList_storeN {ops:Array Oper} {rest:List Oper} {o:Oper} {a:Act} {w:World} {Q:Exit→Act→World→Prop} (hg:o.guard=none) (x y:Operand) (ho:o.op=.store 29 x y) {b:Nat} {F:Nat→PQ} (G:Nat→PQ) (hx:a.eval x=.pointer (some ⟨b,0,none⟩)) (hy:a.eval y=.agg (clQ G 10).toArray) (hp:PB w b 10 F)
  (h:∀ w',PB w' b 10 G→(∀ k,k≠b→w'.heap[k]? = w.heap[k]?)→Below b w w'→w'.heap.size=w.heap.size→wpList Try.prog ops Q rest (a.put o.dst undef) w'):wpList Try.prog ops Q (o :: rest) a w:=by
 refine wpList_store_mid hg 29 x y ho b 0 (clQ G 10).toArray hx hy ?_ ?_ (all_oneCell_toArray (clQ_one G 10)) ?_
 ·rw [List.size_toArray,clQ_len]; exact hp.there
 ·rw [List.size_toArray,clQ_len]; exact infoM
 ·obtain ⟨h1,h2⟩:=hp.put G;exact h _ h1 (fun k hk=>setCells_other hk _ _ _) h2 (setCells_size _ _ _)
theorem build32 (F G:Nat→PQ) (w:World):(Instr.build 32 #[(0,modV F),(1,modV G)]).run Try.prog w=.ok (.agg (clQ F 10 ++ clQ G 10).toArray) w:=run_build w 32 _ _ (by kernel_rfl)
theorem doOp_of {P:Program} {ops:Array Oper} {Q:Exit→Act→World→Prop} {i:Nat} {K:Act→World→Prop} {a:Act} {w:World} {o:Oper} (ho:ops[i]? = some o) (hg:o.guard=none) (h:Oper.wp P o a w K Q):xq P ops Q i K a w:=by
 unfold xq;rw [ho];simp only [Region.wanted,hg,if_true];exact h
theorem wp_storeW {op:Oper} {a:Act} {w:World} {K:Act→World→Prop} {Q:Exit→Act→World→Prop} (x y:Operand) (ho:op.op=.store 29 x y) {b:Nat} {F:Nat→PQ} (G:Nat→PQ) (hx:a.eval x=.pointer (some ⟨b,0,none⟩)) (hy:a.eval y=.agg (clQ G 10).toArray) (hp:PB w b 10 F)
  (h:∀ w',PB w' b 10 G→(∀ k,k≠b→w'.heap[k]? = w.heap[k]?)→Below b w w'→w'.heap.size=w.heap.size→K (a.put op.dst undef) w'):op.wp Try.prog a w K Q:=by
 refine wp_store_mid 29 x y ho b 0 (clQ G 10).toArray hx hy ?_ ?_ (all_oneCell_toArray (clQ_one G 10)) ?_
 ·rw [List.size_toArray,clQ_len]; exact hp.there
 ·rw [List.size_toArray,clQ_len]; exact infoM
 ·obtain ⟨h1,h2⟩:=hp.put G;exact h _ h1 (fun k hk=>setCells_other hk _ _ _) h2 (setCells_size _ _ _)
theorem valuesN_tells (n:Nat) (h9:n≤9) (v:Value) (zs:List Int) (w:World) (h:tx w v zs):Calls Try.prog 26 #[.int .i64 n,v] w fun e w'=>∃ vz,e=.returned vz∧yH w' vz n (su zs)∧Below w.heap.size w w':=by
 by_cases h0:n=0
 ·subst h0;refine (values0_tells v w).mono ?_;rintro e w' ⟨rfl,hb⟩;exact ⟨_,rfl,⟨none,0,rfl,by decide,fun h=>absurd h (by decide)⟩,hb⟩
 ·refine (values9_tells n v zs w h (by omega) h9).mono ?_;rintro e w' ⟨R,cap,rfl,ho,hb⟩;exact ⟨_,rfl,ho.flts (by omega),hb⟩
theorem ofM_same {n:Nat} {f:Nat→Nat} {F G:Nat→PQ} (h:OfM n f F) (g:OfM n f G) (k:Nat) (hk:k<10):eqQ (F k) (G k):=by
 by_cases e:k<9∧k<n
 ·obtain ⟨a1,a2,-⟩:=(h k hk).1 e;obtain ⟨b1,b2,-⟩:=(g k hk).1 e;exact ⟨a1.trans b1.symm,by rw [a2,b2]; exact a1.trans b1.symm⟩
 ·rw [(h k hk).2 e,(g k hk).2 e]; exact ⟨rfl,rfl⟩
theorem exec_build32 {a:Act} {o:Oper} {w:World} {F G:Nat→PQ} (x y:Operand) (ho:o.op=.build 32 #[(0,x),(1,y)]) (hx:a.eval x=modV F) (hy:a.eval y=modV G):(execOp a.eval o).run Try.prog w=.ok (.value (.agg (clQ F 10 ++ clQ G 10).toArray)) w:=by
 have e:=build32 F G w;have em:(#[(0,x),(1,y)]:Array (Nat × Operand)).map (fun (i,z)=>(i,a.eval z))=#[(0,modV F),(1,modV G)]:=by simp [hx,hy]
 unfold execOp;simp only [ho,Sem.run_bind];rw [em,e];rfl
theorem rangeAt_below {w w':World} {b o:Nat} {cs:List Value} (h:w.rangeAt b o cs) (hb:Below w.heap.size w w') (hl:b<w.heap.size):w'.rangeAt b o cs:=fun j v hv=>((zW hb).1 _ _ hl).trans (h j v hv)
theorem infoRows:(Try.prog.info? 32).map (fun i=>(i.zero,i.size))=some (some (.agg (clQ (fun _=>(0,0)) 20).toArray),40):=by kernel_rfl
theorem rows_cells (fx fy:Nat→PQ):clQ (rowsF fx fy) 80=(clQ fx 10 ++ clQ fy 10) ++ ((clQ fy 10 ++ clQ fx 10) ++ ((clQ fx 10 ++ clQ fx 10) ++ (clQ (oneF 4607182418800017408) 10 ++ clQ fy 10))):=by
 have g0:clQ (rowsF fx fy) 10=clQ fx 10:=clQ_congr fun k hk=>(congrArg (rowsF fx fy) (show k=0*20+k by omega)).trans ((rowsF_p fx fy hk).trans rfl)
 have g1:clQ (fun k=>rowsF fx fy (10+k)) 10=clQ fy 10:=clQ_congr fun k hk=>(congrArg (rowsF fx fy) (show 10+k=0*20+10+k by omega)).trans ((rowsF_r fx fy hk).trans rfl)
 have g2:clQ (fun k=>rowsF fx fy (10+(10+k))) 10=clQ fy 10:=clQ_congr fun k hk=>(congrArg (rowsF fx fy) (show 10+(10+k)=1*20+k by omega)).trans ((rowsF_p fx fy hk).trans rfl)
 have g3:clQ (fun k=>rowsF fx fy (10+(10+(10+k)))) 10=clQ fx 10:=clQ_congr fun k hk=>(congrArg (rowsF fx fy) (show 10+(10+(10+k))=1*20+10+k by omega)).trans ((rowsF_r fx fy hk).trans rfl)
 have g4:clQ (fun k=>rowsF fx fy (10+(10+(10+(10+k))))) 10=clQ fx 10:=clQ_congr fun k hk=>(congrArg (rowsF fx fy) (show 10+(10+(10+(10+k)))=2*20+k by omega)).trans ((rowsF_p fx fy hk).trans rfl)
 have g5:clQ (fun k=>rowsF fx fy (10+(10+(10+(10+(10+k)))))) 10=clQ fx 10:=clQ_congr fun k hk=>(congrArg (rowsF fx fy) (show 10+(10+(10+(10+(10+k))))=2*20+10+k by omega)).trans ((rowsF_r fx fy hk).trans rfl)
 have g6:clQ (fun k=>rowsF fx fy (10+(10+(10+(10+(10+(10+k))))))) 10=clQ (oneF 4607182418800017408) 10:=clQ_congr fun k hk=>(congrArg (rowsF fx fy) (show 10+(10+(10+(10+(10+(10+k)))))=3*20+k by omega)).trans ((rowsF_p fx fy hk).trans rfl)
 have g7:clQ (fun k=>rowsF fx fy (10+(10+(10+(10+(10+(10+(10+k)))))))) 10=clQ fy 10:=clQ_congr fun k hk=>(congrArg (rowsF fx fy) (show 10+(10+(10+(10+(10+(10+(10+k))))))=3*20+10+k by omega)).trans ((rowsF_r fx fy hk).trans rfl)
 rw [show (80:Nat)=10+(10+(10+(10+(10+(10+(10+10)))))) from rfl,clQ_split,clQ_split,clQ_split,clQ_split,clQ_split,clQ_split,clQ_split];rw [g0,g1,g2,g3,g4,g5,g6,g7];simp only [List.append_assoc]
theorem buildRows (fx fy:Nat→PQ) (w:World):(Instr.buildSlice 35 4 #[(0,.agg (clQ fx 10 ++ clQ fy 10).toArray),(1,.agg (clQ fy 10 ++ clQ fx 10).toArray),(2,.agg (clQ fx 10 ++ clQ fx 10).toArray),(3,.agg (clQ (oneF 4607182418800017408) 10 ++ clQ fy 10).toArray)]).run Try.prog w=.ok (.slice (some ⟨w.heap.size,0,none⟩) 4 4) (w.alloc (.cells (clQ (rowsF fx fy) 80).toArray 32)):=by
 have hz:=infoRows
 cases hq:Try.prog.info? 32 with
 | none=>simp [hq] at hz
 | some i=>
  simp only [hq,Option.map_some,Option.some.injEq,Prod.mk.injEq] at hz
  have hs:∀ F G:Nat→PQ,(Value.agg (clQ F 10 ++ clQ G 10).toArray).cells.size=40:=fun F G=>by
   show (clQ F 10 ++ clQ G 10).toArray.size=40;rw [List.size_toArray,List.length_append,clQ_len,clQ_len]
  have hf:=Great.fill_whole (s:=40) (by decide) [.agg (clQ fx 10 ++ clQ fy 10).toArray,.agg (clQ fy 10 ++ clQ fx 10).toArray,.agg (clQ fx 10 ++ clQ fx 10).toArray,.agg (clQ (oneF 4607182418800017408) 10 ++ clQ fy 10).toArray] ((Array.range (4*40)).map ((Value.agg (clQ (fun _=>(0,0)) 20).toArray).cells[· % (Value.agg (clQ (fun _=>(0,0)) 20).toArray).cells.size]!)) (fun v hv=>by
   simp only [List.mem_cons,List.not_mem_nil,or_false] at hv;rcases hv with rfl | rfl | rfl | rfl<;>exact hs _ _) (by simp)
  refine run_buildSlice w 35 32 4 _ _ i _ Try.underlying35 hq hz.1 (by rw [hz.2]; decide) (by rw [hz.2]; decide) ?_;rw [hz.2];refine Eq.trans (show _=_ from hf) ?_;rw [rows_cells];rfl
theorem wp_rows {o:Oper} {a:Act} {w:World} {K:Act→World→Prop} {Q:Exit→Act→World→Prop} {fx fy:Nat→PQ} (x0 x1 x2 x3:Operand) (ho:o.op=.buildSlice 35 4 #[(0,x0),(1,x1),(2,x2),(3,x3)]) (h0:a.eval x0=.agg (clQ fx 10 ++ clQ fy 10).toArray) (h1:a.eval x1=.agg (clQ fy 10 ++ clQ fx 10).toArray) (h2:a.eval x2=.agg (clQ fx 10 ++ clQ fx 10).toArray) (h3:a.eval x3=.agg (clQ (oneF 4607182418800017408) 10 ++ clQ fy 10).toArray)
  (h:K (a.put o.dst (.slice (some ⟨w.heap.size,0,none⟩) 4 4)) (w.alloc (.cells (clQ (rowsF fx fy) 80).toArray 32))):o.wp Try.prog a w K Q:=by
 have e:=buildRows fx fy w;have em:(#[(0,x0),(1,x1),(2,x2),(3,x3)]:Array (Nat × Operand)).map (fun (i,z)=>(i,a.eval z))=#[(0,.agg (clQ fx 10 ++ clQ fy 10).toArray),(1,.agg (clQ fy 10 ++ clQ fx 10).toArray),(2,.agg (clQ fx 10 ++ clQ fx 10).toArray),(3,.agg (clQ (oneF 4607182418800017408) 10 ++ clQ fy 10).toArray)]:=by simp [h0,h1,h2,h3]
 unfold Oper.wp execOp;simp only [ho,Sem.run_bind];rw [em,e];exact h
set_option maxRecDepth 100000
set_option maxHeartbeats 16000000
theorem modelAll_any (v0:Value) (zs0:List Int) (v1:Value) (zs1:List Int) (a b far:Int) (w:World) (hi0:Intr w v0 zs0) (hi1:Intr w v1 zs1) (_:-9223372036854775808≤a∧a≤9223372036854775807) (_:-9223372036854775808≤b∧b≤9223372036854775807) (_:-9223372036854775808≤far∧far≤9223372036854775807) :
  Calls Try.prog 3 #[v0,v1,.int .i64 a,.int .i64 b,.int .i64 far] w (fun e w'=>e=.returned (.bool true)∧Below w.heap.size w w'):=by
 have h0:=hi0.1;have h1:=hi1.1;have KN:=hid known5_tells;go_enter Try.func3,Try.ntmps3;go_wp2_with fail;refine (KN.out _).mono ?_;rintro e w1 ⟨rfl,hc1⟩;have H0:=hid (rC h0 hc1);have H1:=hid (rC h1 hc1);have HB1:=hid hc1;clear h0 h1 hc1;go_wp2_with fail;refine (make5_tells v0 zs0 a _ H0.out).mono ?_;rintro e w2 ⟨rfl,hc2⟩;have H2:=hid (rC H1.out hc2);have HB2:=hid (HB1.out.trans (hc2.mono HB1.out.size));clear H0 H1 hc2 HB1;unfold modV;go_wp2_with fail;refine (make5_tells v1 zs1 b _ H2.out).mono ?_;rintro e w3 ⟨rfl,hc3⟩;have H3:=hid (rC H2.out hc3);have HB3:=hid (HB2.out.trans (hc3.mono HB2.out.size));clear H2 hc3 HB2;unfold modV;obtain ⟨z1,z2,z3,z4⟩:=begin1 w3;go_wp2_with (first | (refine wpList_storeN rfl _ _ rfl (mkF zs0 a) rfl rfl z1 ?_) | fail)
 intro w4 hx4 ho4 hb4 hs4;have hz2:=z2.same (ho4 _ (by omega)) (by first | omega | (rw [hs4]; exact z2.lt));have hbb4:=z4.trans hb4;clear z1 z2;go_wp2_with (first | (refine wpList_storeN rfl _ _ rfl (mkF zs1 b) rfl rfl hz2 ?_) | fail)
 intro w5 hy5 ho5 hb5 hs5;have hxs:w5.heap.size=w3.heap.size+2:=by omega
 have HX:=hid (hx4.same (ho5 _ (by omega)) (by omega));have HY:=hid hy5;have hbb5:Below w3.heap.size w3 w5:=hbb4.trans (hb5.mono (by omega));have HBB:=hid hbb5;have hBX:w.heap.size≤w3.heap.size:=HB3.out.size;clear hx4 ho4 hb4 hs4 hz2 hbb4 hy5 ho5 hb5 hs5 hbb5 z3 z4;generalize hX:w3.heap.size=X at *;clear w1 w2 w4;have y0:=HY.out.at0 0 (by decide);have y1:=HY.out.at1 0 (by decide);simp only [Nat.zero_mul,Nat.zero_add] at y0 y1;have lY:X+1<w5.heap.size:=by omega
 have KA:=ut (add_num (mkF_fin zs1 b 0).1 (far_fin far));have KB2:=ut (add_num (mkF_fin zs1 b 0).2 (far_fin far));obtain ⟨ka1,ka2⟩:=KA;obtain ⟨kb1,kb2⟩:=KB2;have HFY:=hid (show (cop .add (mkF zs1 b 0).1 (floatOfInt .f64 (far % 40)),cop .add (mkF zs1 b 0).2 (floatOfInt .f64 (far % 40)))=farF zs1 b far 0 from rfl)
 have HFZ:=hid (show ∀ k,k<10→vM (mkF zs1 b) 0 (cop .add (mkF zs1 b 0).1 (floatOfInt .f64 (far % 40)),cop .add (mkF zs1 b 0).2 (floatOfInt .f64 (far % 40))) k=farF zs1 b far k from fun k _=>by
  by_cases e:k=0
  ·subst e; rw [yp]; rfl
  ·rw [zY _ _ e]; unfold farF; rw [if_neg e])
 have LX:=hid (mkF_lt zs0 a);have LY:=hid (farF_lt zs1 b far);generalize mkF zs0 a=fx at *;generalize farF zs1 b far=fy at *;have bm1:=Int.emod_nonneg far (show (40:Int)≠0 by decide);have bm2:=Int.emod_lt_of_pos far (show (0:Int)<40 by decide);have hd0:∀ W:World,W.drewN 0=W:=fun W=>rfl
 go_upto_region 4 with fail
 refine wL [(0,1),(1,1),(2,1),(3,3),(4,1),(8,1),(9,1),(10,1),(11,3),(12,1),(16,1),(20,1),(5,0),(6,1),(7,1),(17,1),(18,1),(13,0),(14,1),(15,1),(19,0),(21,1),(22,1),(23,0)] (fun W=>Below w5.heap.size w5 W) (by kernel_rfl) (by kernel_rfl) (fun _ _ d _ _ h=>by cases d<;>exact h) ((Below.refl _ _).drew) ?_;intro Z hZ hbZ;clear hZ
 iterate 3
  first
   | refine sT (fun K hK=>?_)
   | refine sU (fun K hK=>?_)
  go_simp;refine hK _ ?_;clear hK K
 refine sV (v:=.float .f64 (mkF zs1 b 0).1) rfl rfl (fun wk hwk=>?_) ?_
 ·rw [← (zW hwk).1 _ _ lY] at y0;go_simp
 iterate 4
  first
   | refine sT (fun K hK=>?_)
   | refine sU (fun K hK=>?_)
  go_simp;refine hK _ ?_;clear hK K
 refine sV (v:=.float .f64 (mkF zs1 b 0).2) rfl rfl (fun wk hwk=>?_) ?_
 ·rw [← (zW hwk).1 _ _ lY] at y1;go_simp
 iterate 3
  first
   | refine sT (fun K hK=>?_)
   | refine sU (fun K hK=>?_)
  go_simp;refine hK _ ?_;clear hK K
 refine uX (fun K hK=>?_);go_simp;refine (within5_mod far 40 _ (by decide) (by decide)).mono ?_;rintro e w4 ⟨rfl,rfl⟩;refine hK _ _ (fun h=>Bool.noConfusion (Eq.trans (Eq.symm (by kernel_rfl:_=false)) h)) (fun _=>hbZ) ?_;clear hK K
 iterate 4
  first
   | refine sT (fun K hK=>?_)
   | refine sU (fun K hK=>?_)
  go_simp;refine hK _ ?_;clear hK K
 refine uX (fun K hK=>?_);go_simp;refine (within5_mod far 40 _ (by decide) (by decide)).mono ?_;rintro e w4 ⟨rfl,rfl⟩;refine hK _ _ (fun h=>Bool.noConfusion (Eq.trans (Eq.symm (by kernel_rfl:_=false)) h)) (fun _=>hbZ) ?_;clear hK K
 iterate 2
  first
   | refine sT (fun K hK=>?_)
   | refine sU (fun K hK=>?_)
  go_simp;refine hK _ ?_;clear hK K
 have hy:=HY.out.below hbZ lY;have t0:=hy.at0 0 (by decide);have t1:=hy.free 0;have t2:=hy.at1 0 (by decide);have t3:=hy.free 1;have hs:=hy.set (k:=0) (by decide) (cop .add (mkF zs1 b 0).1 (floatOfInt .f64 (far % 40)),cop .add (mkF zs1 b 0).2 (floatOfInt .f64 (far % 40)))
 have HE:=hid (show PB ((Z.setCell ⟨X+1,0*2,none⟩ (.float .f64 ((cop .add (mkF zs1 b 0).1 (floatOfInt .f64 (far % 40)),cop .add (mkF zs1 b 0).2 (floatOfInt .f64 (far % 40)))).1)).setCell ⟨X+1,0*2+1,none⟩ (.float .f64 ((cop .add (mkF zs1 b 0).1 (floatOfInt .f64 (far % 40)),cop .add (mkF zs1 b 0).2 (floatOfInt .f64 (far % 40)))).2)) X 10 fx∧PB ((Z.setCell ⟨X+1,0*2,none⟩ (.float .f64 ((cop .add (mkF zs1 b 0).1 (floatOfInt .f64 (far % 40)),cop .add (mkF zs1 b 0).2 (floatOfInt .f64 (far % 40)))).1)).setCell ⟨X+1,0*2+1,none⟩ (.float .f64 ((cop .add (mkF zs1 b 0).1 (floatOfInt .f64 (far % 40)),cop .add (mkF zs1 b 0).2 (floatOfInt .f64 (far % 40)))).2)) (X+1) 10 fy∧Below X w3 ((Z.setCell ⟨X+1,0*2,none⟩ (.float .f64 ((cop .add (mkF zs1 b 0).1 (floatOfInt .f64 (far % 40)),cop .add (mkF zs1 b 0).2 (floatOfInt .f64 (far % 40)))).1)).setCell ⟨X+1,0*2+1,none⟩ (.float .f64 ((cop .add (mkF zs1 b 0).1 (floatOfInt .f64 (far % 40)),cop .add (mkF zs1 b 0).2 (floatOfInt .f64 (far % 40)))).2))∧X+2≤((Z.setCell ⟨X+1,0*2,none⟩ (.float .f64 ((cop .add (mkF zs1 b 0).1 (floatOfInt .f64 (far % 40)),cop .add (mkF zs1 b 0).2 (floatOfInt .f64 (far % 40)))).1)).setCell ⟨X+1,0*2+1,none⟩ (.float .f64 ((cop .add (mkF zs1 b 0).1 (floatOfInt .f64 (far % 40)),cop .add (mkF zs1 b 0).2 (floatOfInt .f64 (far % 40)))).2)).heap.size from
  ⟨((HX.out.below hbZ (by omega)).other (by omega) _).other (by omega) _,hs.congr HFZ.out,((HBB.out.trans (hbZ.mono (by omega))).setCell (p:=⟨X+1,0*2,none⟩) (show X≤X+1 by omega) _).setCell (p:=⟨X+1,0*2+1,none⟩) (show X≤X+1 by omega) _,by have:=hbZ.size; simp [World.setCell]; omega⟩)
 simp only [Nat.zero_mul,Nat.zero_add] at t0 t2 HE;clear hs hy HX HY HBB HFZ hbZ;refine uX (fun K hK=>?_);go_simp;refine hK _ _ (fun h=>Bool.noConfusion (Eq.trans (Eq.symm (by kernel_rfl:_=false)) h)) (fun h=>Bool.noConfusion (Eq.trans (Eq.symm (by kernel_rfl:_=false)) h)) ?_;clear hK K
 iterate 2
  first
   | refine sT (fun K hK=>?_)
   | refine sU (fun K hK=>?_)
  go_simp;refine hK _ ?_;clear hK K
 refine uX (fun K hK=>?_);go_simp;refine hK _ _ (fun h=>Bool.noConfusion (Eq.trans (Eq.symm (by kernel_rfl:_=false)) h)) (fun h=>Bool.noConfusion (Eq.trans (Eq.symm (by kernel_rfl:_=false)) h)) ?_;clear hK K;refine rE ?_;clear t0 t1 t2 t3 y0 y1 ka1 ka2 kb1 kb2 hd0 lY hxs;go_upto_region 5 with fail
 generalize ((_:World).setCell ⟨X+1,0,none⟩ (.float .f64 ((cop .add (mkF zs1 b 0).1 (floatOfInt .f64 (far % 40)),cop .add (mkF zs1 b 0).2 (floatOfInt .f64 (far % 40)))).1)).setCell ⟨X+1,1,none⟩ (.float .f64 ((cop .add (mkF zs1 b 0).1 (floatOfInt .f64 (far % 40)),cop .add (mkF zs1 b 0).2 (floatOfInt .f64 (far % 40)))).2)=w6 at *;clear w5 Z;have O1:=hid (of1_tells 4607182418800017408 (by decide) (by decide));have lX:X<w6.heap.size:=HE.out.1.lt;have lY:X+1<w6.heap.size:=HE.out.2.1.lt;refine wL [(0,3),(1,3),(2,3),(3,3),(4,3),(5,3),(6,3),(7,3),(8,3),(11,3),(9,0),(10,0),(12,3),(13,0),(14,1)] (fun W=>Below w6.heap.size w6 W) (by kernel_rfl) (by kernel_rfl) (fun _ _ d _ _ h=>by cases d<;>exact h) ((Below.refl _ _).drew) ?_;intro Z hZ hbZ;clear hZ;refine sV (v:=modV fx) rfl rfl (fun wk hwk=>exec_loadM _ rfl (by go_simp) ((HE.out.1).below hwk lX)) ?_;refine sV (v:=modV fy) rfl rfl (fun wk hwk=>exec_loadM _ rfl (by go_simp) ((HE.out.2.1).below hwk lY)) ?_;refine sV (v:=.agg (clQ fx 10 ++ clQ fy 10).toArray) rfl rfl (fun wk hwk=>exec_build32 _ _ rfl (by go_simp) (by go_simp)) ?_;refine sV (v:=modV fy) rfl rfl (fun wk hwk=>exec_loadM _ rfl (by go_simp) ((HE.out.2.1).below hwk lY)) ?_;refine sV (v:=modV fx) rfl rfl (fun wk hwk=>exec_loadM _ rfl (by go_simp) ((HE.out.1).below hwk lX)) ?_;refine sV (v:=.agg (clQ fy 10 ++ clQ fx 10).toArray) rfl rfl (fun wk hwk=>exec_build32 _ _ rfl (by go_simp) (by go_simp)) ?_;refine sV (v:=modV fx) rfl rfl (fun wk hwk=>exec_loadM _ rfl (by go_simp) ((HE.out.1).below hwk lX)) ?_;refine sV (v:=modV fx) rfl rfl (fun wk hwk=>exec_loadM _ rfl (by go_simp) ((HE.out.1).below hwk lX)) ?_;refine sV (v:=.agg (clQ fx 10 ++ clQ fx 10).toArray) rfl rfl (fun wk hwk=>exec_build32 _ _ rfl (by go_simp) (by go_simp)) ?_;refine sV (v:=modV fy) rfl rfl (fun wk hwk=>exec_loadM _ rfl (by go_simp) ((HE.out.2.1).below hwk lY)) ?_;refine uX (fun K hK=>?_);go_simp;have hn:Below Z.heap.size Z (Z.alloc (.cells #[.float .f64 4607182418800017408] 24)):=(Below.refl _ _).alloc (Nat.le_refl _) _;have hbn:=hbZ.trans (hn.mono hbZ.size);refine hK _ _ (fun h=>Bool.noConfusion (Eq.trans (Eq.symm (by kernel_rfl:_=false)) h)) (fun _=>hbn) ?_;clear hK K;refine uX (fun K hK=>?_);go_simp;refine (O1.out Z).mono ?_;rintro e w7 ⟨rfl,hc7⟩;have hb7:=hbn.trans (hc7.mono hbn.size);refine hK _ _ (fun h=>Bool.noConfusion (Eq.trans (Eq.symm (by kernel_rfl:_=false)) h)) (fun _=>hb7) ?_;clear hK K;refine sV (v:=.agg (clQ (oneF 4607182418800017408) 10 ++ clQ fy 10).toArray) rfl rfl (fun wk hwk=>exec_build32 _ _ rfl (by go_simp) (by go_simp)) ?_;refine uX (fun K hK=>?_);refine doOp_of rfl rfl ?_;refine wp_rows (fx:=fx) (fy:=fy) _ _ _ _ rfl (by go_simp) (by go_simp) (by go_simp) (by go_simp) ?_;have hr7:Below w7.heap.size w7 (w7.alloc (.cells (clQ (rowsF fx fy) 80).toArray 32)):=(Below.refl _ _).alloc (Nat.le_refl _) _;have hb8:=hb7.trans (hr7.mono hb7.size);refine hK _ _ (fun h=>Bool.noConfusion (Eq.trans (Eq.symm (by kernel_rfl:_=false)) h)) (fun _=>hb8) ?_;clear hK K
 iterate 1
  first
   | refine sT (fun K hK=>?_)
   | refine sU (fun K hK=>?_)
  go_simp;refine hK _ ?_;clear hK K
 refine rE ?_;clear O1 hbZ;have HRW:=hid (PB.new w7 80 (rowsF fx fy) 32);have HB8:=hid (HB3.out.trans ((HE.out.2.2.1.trans (hb8.mono (by omega))).mono (by omega)));have H8:=hid (rC H3.out (hX ▸ HE.out.2.2.1.trans (hb8.mono (by omega))));clear HE hb8 lX lY hb7 hc7 H3 HB3;generalize hR:w7.heap.size=R at *;generalize w7.alloc (.cells (clQ (rowsF fx fy) 80).toArray 32)=w8 at *;go_wp2_with fail
 go_loopw [14] (fun x wr=>∃ i:Nat,i≤4∧x=.int .i64 i∧Below w8.heap.size w8 wr) (fun x _=>4-(intOf x).toNat)
 case atStart=>exact ⟨0,by omega,rfl,Below.refl _ _⟩
 case round=>
  obtain ⟨i,hi4,rfl,hb⟩:=hrel;have lR:=HRW.out.lt;by_cases hli:i<4
  ·have hliI:(i:Int)<4:=by omega
   have hrw:=HRW.out.below hb lR;have lR2:R<wr.heap.size:=hrw.lt;have p0:=hrw.at (s:=i*20) (m:=10) (G:=rowP fx fy i) (by omega) (fun k hk=>rowsF_p fx fy hk);have p1:=hrw.at (s:=i*20+10) (m:=10) (G:=rowR fx fy i) (by omega) (fun k hk=>rowsF_r fx fy hk);rw [show i*20*2=i*40 by omega] at p0;rw [show (i*20+10)*2=i*40+20 by omega] at p1;have LP:=hid (fun k (_:k<9)=>rowP_lt LX.out LY.out i k);have LQ:=hid (fun k (_:k<9)=>rowR_lt LX.out LY.out i k);generalize rowP fx fy i=fp at *;generalize rowR fx fy i=fq at *;have HP0:=hid (fun (W:World) (hW:Below wr.heap.size wr W)=>rangeAt_below p0 hW lR2);have HP1:=hid (fun (W:World) (hW:Below wr.heap.size wr W)=>rangeAt_below p1 hW lR2);have HB:=hid hb;have hws:=hb.size;clear hrw p0 p1 hb;go_upto_region 9 with fail
   go_cut [15,16] (fun p q wx=>∃ P Q,p=.pointer (some ⟨P,0,none⟩)∧q=.pointer (some ⟨Q,0,none⟩)∧PB wx P 10 fp∧PB wx Q 10 fq∧Below w8.heap.size w8 wx)
   case first=>
    refine rU (.op 0 1 (.op 1 1 (.op 2 1 (.op 3 1 (.op 4 3 (.op 5 1 (.op 6 1 (.op 7 1 (.op 8 1 (.op 9 3 (.alt 10 (.alt 11 (.alt 12 (.alt 13 .nil .stop) .stop) .stop) (.alt 11 (.alt 10 (.alt 12 (.alt 13 .nil .stop) .stop) .stop) .stop)))))))))))) [10,11,12,13] [4,9] (fun W=>Below wr.heap.size wr W) (by kernel_rfl) (by kernel_rfl) (fun _ _ d _ _ h=>by cases d<;>exact h) ((Below.refl _ _).drew) ?_;intro Z hZ hbZ;clear hZ;refine rV (fun K hK=>?_);go_simp;refine hK _ ?_;clear hK K;refine rV (fun K hK=>?_);go_simp;refine hK _ ?_;clear hK K;refine rV (fun K hK=>?_);go_simp;refine hK _ ?_;clear hK K;refine rV (fun K hK=>?_);go_simp;refine hK _ ?_;clear hK K;refine rW (v:=modV fp) rfl rfl (fun wk hwk=>exec_loadAtM _ rfl rfl (HP0.out wk hwk)) ?_;refine rV (fun K hK=>?_);go_simp;refine hK _ ?_;clear hK K;refine rV (fun K hK=>?_);go_simp;refine hK _ ?_;clear hK K;refine rV (fun K hK=>?_);go_simp;refine hK _ ?_;clear hK K;refine rV (fun K hK=>?_);go_simp;refine hK _ ?_;clear hK K;refine rW (v:=modV fq) rfl rfl (fun wk hwk=>exec_loadAtM _ rfl rfl (HP1.out wk hwk)) ?_;obtain ⟨z1,z2,z3,z4⟩:=begin1 Z;have hal:Below Z.heap.size Z (Z.alloc (.cells #[.float .f64 0,.float .f64 0,.float .f64 0,.float .f64 0,.float .f64 0,.float .f64 0,.float .f64 0,.float .f64 0,.float .f64 0,.float .f64 0,.float .f64 0,.float .f64 0,.float .f64 0,.float .f64 0,.float .f64 0,.float .f64 0,.float .f64 0,.float .f64 0,.float .f64 0,.float .f64 0] 29)):=(Below.refl _ _).alloc (Nat.le_refl _) _;have hZs:=hbZ.size;have hbA:=hbZ.trans (hal.mono hZs);have hbB:=hbZ.trans (z4.mono hZs);unfold modV;refine rY (fun K hK=>?_) ?_
    ·go_simp;refine hK _ _ (fun _=>hbA) ?_;clear hK K;refine rY (fun K hK=>?_) rX;go_simp;refine hK _ _ (fun _=>hbB) ?_;clear hK K;generalize hY2:(Z.alloc (.cells #[.float .f64 0,.float .f64 0,.float .f64 0,.float .f64 0,.float .f64 0,.float .f64 0,.float .f64 0,.float .f64 0,.float .f64 0,.float .f64 0,.float .f64 0,.float .f64 0,.float .f64 0,.float .f64 0,.float .f64 0,.float .f64 0,.float .f64 0,.float .f64 0,.float .f64 0,.float .f64 0] 29)).alloc (.cells #[.float .f64 0,.float .f64 0,.float .f64 0,.float .f64 0,.float .f64 0,.float .f64 0,.float .f64 0,.float .f64 0,.float .f64 0,.float .f64 0,.float .f64 0,.float .f64 0,.float .f64 0,.float .f64 0,.float .f64 0,.float .f64 0,.float .f64 0,.float .f64 0,.float .f64 0,.float .f64 0] 29)=Y2 at *;refine rY (fun K hK=>?_) rX;refine doOp_of rfl rfl ?_;refine wp_storeW _ _ rfl fp rfl rfl z1 ?_;intro w4 k1 k2 k3 k4;have hbC:=hbB.trans (k3.mono (by omega));refine hK _ _ (fun _=>hbC) ?_;clear hK K;refine rY (fun K hK=>?_) rX;refine doOp_of rfl rfl ?_;refine wp_storeW _ _ rfl fq rfl rfl (z2.same (k2 _ (by omega)) (by omega)) ?_;intro w5 j1 j2 j3 j4;have hbD:=hbC.trans (j3.mono (by omega));refine hK _ _ (fun h=>Bool.noConfusion (Eq.trans (Eq.symm (by kernel_rfl:_=false)) h)) ?_;clear hK K;refine rZ ?_;go_wp2_with fail;go_meet;exact ⟨_,_,rfl,rfl,k1.same (j2 _ (by omega)) (by have:=k1.lt; omega),j1,HB.out.trans (hbD.mono hws)⟩
    ·refine rY (fun K hK=>?_) rX;go_simp;refine hK _ _ (fun _=>hbA) ?_;clear hK K;refine rY (fun K hK=>?_) rX;go_simp;refine hK _ _ (fun _=>hbB) ?_;clear hK K;generalize hY2:(Z.alloc (.cells #[.float .f64 0,.float .f64 0,.float .f64 0,.float .f64 0,.float .f64 0,.float .f64 0,.float .f64 0,.float .f64 0,.float .f64 0,.float .f64 0,.float .f64 0,.float .f64 0,.float .f64 0,.float .f64 0,.float .f64 0,.float .f64 0,.float .f64 0,.float .f64 0,.float .f64 0,.float .f64 0] 29)).alloc (.cells #[.float .f64 0,.float .f64 0,.float .f64 0,.float .f64 0,.float .f64 0,.float .f64 0,.float .f64 0,.float .f64 0,.float .f64 0,.float .f64 0,.float .f64 0,.float .f64 0,.float .f64 0,.float .f64 0,.float .f64 0,.float .f64 0,.float .f64 0,.float .f64 0,.float .f64 0,.float .f64 0] 29)=Y2 at *;refine rY (fun K hK=>?_) rX;refine doOp_of rfl rfl ?_;refine wp_storeW _ _ rfl fp rfl rfl z2 ?_;intro w4 k1 k2 k3 k4;have hbC:=hbB.trans (k3.mono (by omega));refine hK _ _ (fun _=>hbC) ?_;clear hK K;refine rY (fun K hK=>?_) rX;refine doOp_of rfl rfl ?_;refine wp_storeW _ _ rfl fq rfl rfl (z1.same (k2 _ (by omega)) (by omega)) ?_;intro w5 j1 j2 j3 j4;have hbD:=hbC.trans (j3.mono (by omega));refine hK _ _ (fun h=>Bool.noConfusion (Eq.trans (Eq.symm (by kernel_rfl:_=false)) h)) ?_;clear hK K;refine rZ ?_;go_wp2_with fail;go_meet;exact ⟨_,_,rfl,rfl,k1.same (j2 _ (by omega)) (by have:=k1.lt; omega),j1,HB.out.trans (hbD.mono hws)⟩
   case rest=>
    clear HP0 HP1 lR2;obtain ⟨P,Q,rfl,rfl,hp,hq,hbc⟩:=hcut;have HPQ:=hid (show PB wc P 10 fp∧PB wc Q 10 fq from ⟨hp,hq⟩);have lP:P<wc.heap.size:=hp.lt;have lQ:Q<wc.heap.size:=hq.lt;have HBC:=hid hbc;clear hp hq hbc HB;go_upto_region 10 with fail
    refine wL [(0,3),(1,3),(3,3),(4,3),(2,0),(5,0),(6,0),(7,1),(8,1),(9,3),(10,3),(12,3),(13,3),(11,0),(14,0),(15,0),(16,1),(17,1),(18,1),(19,3),(20,3),(22,3),(23,3),(21,0),(24,0),(25,0),(26,1),(27,1),(28,1),(29,3),(30,3),(32,3),(33,3),(31,0),(34,0),(35,0),(36,1),(37,1),(38,1),(39,3),(41,3),(40,0),(42,0),(43,0),(44,1),(45,1)] (fun W=>Below wc.heap.size wc W) (by kernel_rfl) (by kernel_rfl) (fun _ _ d _ _ h=>by cases d<;>exact h) ((Below.refl _ _).drew) ?_;intro Z hZ hbZ;clear hZ;refine sV (v:=modV fp) rfl rfl (fun wk hwk=>exec_loadM _ rfl (by go_simp) ((HPQ.out.1).below hwk lP)) ?_;refine sV (v:=modV fq) rfl rfl (fun wk hwk=>exec_loadM _ rfl (by go_simp) ((HPQ.out.2).below hwk lQ)) ?_;refine sV (v:=modV fp) rfl rfl (fun wk hwk=>exec_loadM _ rfl (by go_simp) ((HPQ.out.1).below hwk lP)) ?_;refine sV (v:=modV fq) rfl rfl (fun wk hwk=>exec_loadM _ rfl (by go_simp) ((HPQ.out.2).below hwk lQ)) ?_;refine uX (fun K hK=>?_);go_simp;refine (add_tells fp fq _).mono ?_;rintro e w1 ⟨rfl,hc1⟩;have hb1:=hbZ.trans (hc1.mono hbZ.size);refine hK _ _ (fun h=>Bool.noConfusion (Eq.trans (Eq.symm (by kernel_rfl:_=false)) h)) (fun _=>hb1) ?_;clear hK K;refine uX (fun K hK=>?_);go_simp;refine (raddM_tells fp fq _).mono ?_;rintro e w2 ⟨rfl,hc2⟩;have hb2:=hb1.trans (hc2.mono hb1.size);refine hK _ _ (fun h=>Bool.noConfusion (Eq.trans (Eq.symm (by kernel_rfl:_=false)) h)) (fun _=>hb2) ?_;clear hK K;refine uX (fun K hK=>?_);go_simp;refine (same_tells _ _ (fun k _=>⟨rfl,rfl⟩) _).mono ?_;rintro e w3 ⟨rfl,hc3⟩;have hb3:=hb2.trans (hc3.mono hb2.size);refine hK _ _ (fun h=>Bool.noConfusion (Eq.trans (Eq.symm (by kernel_rfl:_=false)) h)) (fun _=>hb3) ?_;clear hK K
    iterate 2
     first
      | refine sT (fun K hK=>?_)
      | refine sU (fun K hK=>?_)
     go_simp;refine hK _ ?_;clear hK K
    refine sV (v:=modV fp) rfl rfl (fun wk hwk=>exec_loadM _ rfl (by go_simp) ((HPQ.out.1).below hwk lP)) ?_;refine sV (v:=modV fq) rfl rfl (fun wk hwk=>exec_loadM _ rfl (by go_simp) ((HPQ.out.2).below hwk lQ)) ?_;refine sV (v:=modV fp) rfl rfl (fun wk hwk=>exec_loadM _ rfl (by go_simp) ((HPQ.out.1).below hwk lP)) ?_;refine sV (v:=modV fq) rfl rfl (fun wk hwk=>exec_loadM _ rfl (by go_simp) ((HPQ.out.2).below hwk lQ)) ?_;refine uX (fun K hK=>?_);go_simp;refine (sub_tells fp fq _).mono ?_;rintro e w4 ⟨rfl,hc4⟩;have hb4:=hb3.trans (hc4.mono hb3.size);refine hK _ _ (fun h=>Bool.noConfusion (Eq.trans (Eq.symm (by kernel_rfl:_=false)) h)) (fun _=>hb4) ?_;clear hK K;refine uX (fun K hK=>?_);go_simp;refine (rsubM_tells fp fq _).mono ?_;rintro e w5 ⟨rfl,hc5⟩;have hb5:=hb4.trans (hc5.mono hb4.size);refine hK _ _ (fun h=>Bool.noConfusion (Eq.trans (Eq.symm (by kernel_rfl:_=false)) h)) (fun _=>hb5) ?_;clear hK K;refine uX (fun K hK=>?_);go_simp;refine (same_tells _ _ (fun k _=>⟨rfl,rfl⟩) _).mono ?_;rintro e w6 ⟨rfl,hc6⟩;have hb6:=hb5.trans (hc6.mono hb5.size);refine hK _ _ (fun h=>Bool.noConfusion (Eq.trans (Eq.symm (by kernel_rfl:_=false)) h)) (fun _=>hb6) ?_;clear hK K
    iterate 3
     first
      | refine sT (fun K hK=>?_)
      | refine sU (fun K hK=>?_)
     go_simp;refine hK _ ?_;clear hK K
    refine sV (v:=modV fp) rfl rfl (fun wk hwk=>exec_loadM _ rfl (by go_simp) ((HPQ.out.1).below hwk lP)) ?_;refine sV (v:=modV fq) rfl rfl (fun wk hwk=>exec_loadM _ rfl (by go_simp) ((HPQ.out.2).below hwk lQ)) ?_;refine sV (v:=modV fp) rfl rfl (fun wk hwk=>exec_loadM _ rfl (by go_simp) ((HPQ.out.1).below hwk lP)) ?_;refine sV (v:=modV fq) rfl rfl (fun wk hwk=>exec_loadM _ rfl (by go_simp) ((HPQ.out.2).below hwk lQ)) ?_;refine uX (fun K hK=>?_);go_simp;refine (mul_tells fp fq _ LP.out LQ.out).mono ?_;rintro e w7 ⟨rfl,hc7⟩;have hb7:=hb6.trans (hc7.mono hb6.size);refine hK _ _ (fun h=>Bool.noConfusion (Eq.trans (Eq.symm (by kernel_rfl:_=false)) h)) (fun _=>hb7) ?_;clear hK K;refine uX (fun K hK=>?_);go_simp;refine (rmul_tells fp fq _).mono ?_;rintro e w8 ⟨rfl,hc8⟩;have hb8:=hb7.trans (hc8.mono hb7.size);refine hK _ _ (fun h=>Bool.noConfusion (Eq.trans (Eq.symm (by kernel_rfl:_=false)) h)) (fun _=>hb8) ?_;clear hK K;refine uX (fun K hK=>?_);go_simp;refine (same_tells _ _ (fun k _=>⟨rfl,rfl⟩) _).mono ?_;rintro e w9 ⟨rfl,hc9⟩;have hb9:=hb8.trans (hc9.mono hb8.size);refine hK _ _ (fun h=>Bool.noConfusion (Eq.trans (Eq.symm (by kernel_rfl:_=false)) h)) (fun _=>hb9) ?_;clear hK K
    iterate 3
     first
      | refine sT (fun K hK=>?_)
      | refine sU (fun K hK=>?_)
     go_simp;refine hK _ ?_;clear hK K
    refine sV (v:=modV fp) rfl rfl (fun wk hwk=>exec_loadM _ rfl (by go_simp) ((HPQ.out.1).below hwk lP)) ?_;refine sV (v:=modV fq) rfl rfl (fun wk hwk=>exec_loadM _ rfl (by go_simp) ((HPQ.out.2).below hwk lQ)) ?_;refine sV (v:=modV fp) rfl rfl (fun wk hwk=>exec_loadM _ rfl (by go_simp) ((HPQ.out.1).below hwk lP)) ?_;refine sV (v:=modV fq) rfl rfl (fun wk hwk=>exec_loadM _ rfl (by go_simp) ((HPQ.out.2).below hwk lQ)) ?_;refine uX (fun K hK=>?_);go_simp;refine (div_tells fp fq _ LQ.out).mono ?_;rintro e w10 ⟨rfl,hc10⟩;have hb10:=hb9.trans (hc10.mono hb9.size);refine hK _ _ (fun h=>Bool.noConfusion (Eq.trans (Eq.symm (by kernel_rfl:_=false)) h)) (fun _=>hb10) ?_;clear hK K;refine uX (fun K hK=>?_);go_simp;refine (rdivM_tells fp fq _).mono ?_;rintro e w11 ⟨rfl,hc11⟩;have hb11:=hb10.trans (hc11.mono hb10.size);refine hK _ _ (fun h=>Bool.noConfusion (Eq.trans (Eq.symm (by kernel_rfl:_=false)) h)) (fun _=>hb11) ?_;clear hK K;refine uX (fun K hK=>?_);go_simp;refine (same_tells _ _ (fun k _=>⟨rfl,rfl⟩) _).mono ?_;rintro e w12 ⟨rfl,hc12⟩;have hb12:=hb11.trans (hc12.mono hb11.size);refine hK _ _ (fun h=>Bool.noConfusion (Eq.trans (Eq.symm (by kernel_rfl:_=false)) h)) (fun _=>hb12) ?_;clear hK K
    iterate 3
     first
      | refine sT (fun K hK=>?_)
      | refine sU (fun K hK=>?_)
     go_simp;refine hK _ ?_;clear hK K
    refine sV (v:=modV fp) rfl rfl (fun wk hwk=>exec_loadM _ rfl (by go_simp) ((HPQ.out.1).below hwk lP)) ?_;refine sV (v:=modV fp) rfl rfl (fun wk hwk=>exec_loadM _ rfl (by go_simp) ((HPQ.out.1).below hwk lP)) ?_;refine uX (fun K hK=>?_);go_simp;refine (range_tells fp _).mono ?_;rintro e w13 ⟨rfl,hc13⟩;have hb13:=hb12.trans (hc13.mono hb12.size);refine hK _ _ (fun h=>Bool.noConfusion (Eq.trans (Eq.symm (by kernel_rfl:_=false)) h)) (fun _=>hb13) ?_;clear hK K;refine uX (fun K hK=>?_);go_simp;refine (rrange_tells fp _).mono ?_;rintro e w14 ⟨rfl,hc14⟩;have hb14:=hb13.trans (hc14.mono hb13.size);refine hK _ _ (fun h=>Bool.noConfusion (Eq.trans (Eq.symm (by kernel_rfl:_=false)) h)) (fun _=>hb14) ?_;clear hK K;refine uX (fun K hK=>?_);go_simp;refine (rA _ _ _ _ _ rfl rfl).mono ?_;rintro e w15 ⟨rfl,hc15⟩;have hb15:=hb14.trans (hc15.mono hb14.size);refine hK _ _ (fun h=>Bool.noConfusion (Eq.trans (Eq.symm (by kernel_rfl:_=false)) h)) (fun _=>hb15) ?_;clear hK K
    iterate 2
     first
      | refine sT (fun K hK=>?_)
      | refine sU (fun K hK=>?_)
     go_simp;refine hK _ ?_;clear hK K
    refine rE ?_;have HB10:=hid (HBC.out.trans (hb15.mono HBC.out.size));clear HBC HPQ lP lQ;go_wp2_with fail
    go_roundw
    case rel=>exact ⟨i+1,by omega,by go_num,HB10.out⟩
    case measure=>simp [intOf]; omega
  ·obtain rfl:i=4:=by omega
   have HI:=hid (rC H8.out hb);have HB9:=hid (HB8.out.trans (hb.mono HB8.out.size));clear H8 HB8 hb HRW lR;obtain ⟨n,hn,hn9⟩:∃ n:Nat,far % 10=(n:Int)∧n≤9:=⟨(far % 10).toNat,by omega,by omega⟩;go_wp2_with fail;refine (within5_mod far 10 _ (by decide) (by decide)).mono ?_;rintro e w9 ⟨rfl,rfl⟩;rw [hn];go_wp2_with fail;refine (valuesN_tells n hn9 v1 zs1 _ HI.out).mono ?_;rintro e w10 ⟨vz,rfl,hf,hb10⟩;have HF:=hid hf;have HB10:=hid (HB9.out.trans (hb10.mono HB9.out.size));clear hf hb10 HI HB9;go_wp2_with fail;refine (of_tells n vz (su zs1) _ HF.out (by omega)).mono ?_;rintro e w11 ⟨F1,rfl,o1,hb11⟩;have HF2:=hid (HF.out.below hb11);have HB11:=hid (HB10.out.trans (hb11.mono HB10.out.size));clear hb11 HF HB10;unfold modV;go_wp2_with fail;refine (rof_tells n vz (su zs1) _ HF2.out (by omega) hn9).mono ?_;rintro e w12 ⟨F2,rfl,o2,hb12⟩;have HB12:=hid (HB11.out.trans (hb12.mono HB11.out.size));have SM:=hid (fun W=>same_tells F1 F2 (fun k hk=>ofM_same o1 o2 k hk) W);clear hb12 HF2 HB11 o1 o2;unfold modV at SM ⊢;go_wp2_with fail;refine (SM.out _).mono ?_;rintro e w13 ⟨rfl,hb13⟩;have hb14:=HB12.out.trans (hb13.mono HB12.out.size);go_wp2_with fail;go_ret;exact ⟨rfl,hb14⟩
end Go.Proofs.Ytgnledamhjbafaa
namespace Go.Proofs.Ytgnledamhjbafaa.modelAll
open Go.ChangeShapes Go.WideShapes Go.ChangeAt Go.RowKit Go.Proofs.Ytgnledamhjbafaa
open Lib
theorem own:ownKnob Try.prog.godebug=none:=by kernel_rfl
theorem laidOut:laidOutB Try.prog=true:=by kernel_rfl
theorem float_lt {b:Nat} (h:(Lit.float .f64 b).wf=true):b<18446744073709551616:=by simpa [Lit.wf] using h
theorem int_lo {n:Int} (h:(Lit.int .i64 n).wf=true):-9223372036854775808≤n∧n≤9223372036854775807:=by
 have a:IntKind.i64.min=-9223372036854775808:=by decide
 have b:IntKind.i64.max=9223372036854775807:=by decide
 simp only [Lit.wf,Bool.and_eq_true,decide_eq_true_eq] at h; omega
set_option maxRecDepth 100000
theorem lifted (os:Os) (started:os.Started) (H:Type) (enc:TypeId × Value→H) :
  ReturnsInHanded {} Try.checked os 3 .any (Rows.modelAllSpec.pre6 enc Try.prog Try.f3 Rows.modelAllRow.domain false) (Rows.modelAllSpec.post enc Try.prog Try.f3 false true false false):=by
 refine returnsInHanded_of_change (C:=Try.checked) own started (by kernel_rfl) Try.func3
  (ChangeSpec.witness6 (enc:=enc) (C:=Try.checked) false ⟨#[],#[.slice none 0 0,.slice none 0 0,.int .i64 0,.int .i64 0,.int .i64 0],[]⟩ 8 (by kernel_rfl) (by kernel_rfl) (by kernel_rfl) (by kernel_rfl)) ?_
 intro W base args ds gs before hval0 hW hcnd _;have hval:∀ (j:Nat) t v,Try.f3.params[j]? = some t→args[j]? = some v→Value.okWide Try.prog W .any base t v:=hval0;have hW':=hW;obtain ⟨p,q,hA0,hV,rfl,hfz,hnd⟩:=hW;have hA:DataW.TrodAll enc Try.prog W 0 (fun _=>true) true Try.f3.params.toList args.toList ds p:=hA0;rw [Try.params3] at hA hval;obtain ⟨v0,vs0,d0,ds0,p0,q0,hargs,rfl,rfl,h0,r0⟩:=trodAll_cons hA;obtain ⟨v1,vs1,d1,ds1,p1,q1,rfl,rfl,rfl,h1,r1⟩:=trodAll_cons r0;obtain ⟨v2,vs2,d2,ds2,p2,q2,rfl,rfl,rfl,h2,r2⟩:=trodAll_cons r1;obtain ⟨v3,vs3,d3,ds3,p3,q3,rfl,rfl,rfl,h3,r3⟩:=trodAll_cons r2;obtain ⟨v4,vs4,d4,ds4,p4,q4,rfl,rfl,rfl,h4,r4⟩:=trodAll_cons r3;obtain ⟨rfl,rfl,rfl⟩:=trodAll_nil r4;obtain rfl:args=#[v0,v1,v2,v3,v4]:=by cases args; simp_all
 obtain ⟨rfl,rfl⟩:=trodVars_none hV;have k0:=h0;obtain ⟨zs0,z0⟩:=intr_of (hval 0 22 v0 rfl rfl) h0;have k1:=h1;obtain ⟨zs1,z1⟩:=intr_of (hval 1 22 v1 rfl rfl) h1;obtain ⟨a2,rfl,rfl,rfl,w2⟩:=open_int Try.underlying3 (hval 2 3 v2 rfl rfl) h2;obtain ⟨a3,rfl,rfl,rfl,w3⟩:=open_int Try.underlying3 (hval 3 3 v3 rfl rfl) h3;obtain ⟨a4,rfl,rfl,rfl,w4⟩:=open_int Try.underlying3 (hval 4 3 v4 rfl rfl) h4;clear hA0 hval0;simp only [List.append_nil] at hW';refine (modelAll_any v0 zs0 v1 zs1 a2 a3 a4 W z0 z1 (int_lo w2) (int_lo w3) (int_lo w4)).mono fun e W' ⟨he,hb⟩=>?_
 subst he;exact ⟨_,rfl,⟨_,_,_,[],_,[],hW',(trodAll_cons_mk (shut_bool Try.underlying4 _) trodAll_mk0),(trodAll_cons_mk (Below.trod laidOut (by kernel_rfl) (of_decide_eq_true (by kernel_rfl)) k0 hb (fun x hx=>hW'.lt x (by simp [hx]))) (trodAll_cons_mk (Below.trod laidOut (by kernel_rfl) (of_decide_eq_true (by kernel_rfl)) k1 hb (fun x hx=>hW'.lt x (by simp [hx]))) (trodAll_cons_mk (shut_int Try.underlying3 w2) (trodAll_cons_mk (shut_int Try.underlying3 w3) (trodAll_cons_mk (shut_int Try.underlying3 w4) trodAll_mk0))))),rfl,hb.frame _,fun h=>by cases h⟩⟩
theorem over:Rows.modelAllRow.holds Try.pinned (OpenSpec.ofChange Rows.modelAllSpec):=
 OpenClaim.holds_of_wide 3 Try.f3 rfl rfl rfl rfl rfl rfl rfl ⟨rfl,rfl,rfl,rfl,rfl⟩ rfl rfl rfl rfl rfl (by kernel_rfl) Try.func3 (by kernel_rfl)
  (of_decide_eq_true (by kernel_rfl)) (by unfold Func.isWrapper; first | (rw [if_pos (by decide +kernel)]; kernel_rfl) | (rw [if_neg (by decide +kernel)]; exact ⟨rfl,rfl⟩))
  (fun os started H enc _=>lifted os started H enc)
theorem proved:Rows.ModelAllSaid:=
 over
#print axioms proved
end Go.Proofs.Ytgnledamhjbafaa.modelAll
