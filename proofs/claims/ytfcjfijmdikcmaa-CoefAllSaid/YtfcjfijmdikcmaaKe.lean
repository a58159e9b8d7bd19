/-
  Contracts (what a function tells) and plain facts that a law's proof hangs on, for every input; no condition but those in their statements. Laid together of the texts Cff, Cfg.
-/
import Derived.Test.YtfcjfijmdikcmaaKd
namespace Go.Proofs.Ytfcjfijmdikcmaa
open Go.RowKit Lib
open Ieee (double)
attribute [local go_sem] zh zf zI zA zJ zK zL zM zn zp zq zr zt zW zF zz zl yb
def exF (m q i:Nat):Nat:=if m=0 then (aMF q q i).toNat else (pwF q i).toNat
def exG (m q:Nat):Nat:=if m=0 then (wm q).toNat else (pwF q 1).toNat
def exN (m q:Nat):Nat→Int:=lwN (exF m q) (exG m q)
def exD (m q:Nat):Nat→Int:=lwD (exF m q) (exG m q)
theorem wL:∀ (q:Fin 6) (i:Fin 6),1≤q.val→(0≤aMF q.val q.val i.val∧aMF q.val q.val i.val≤100000000)∧(0<wm q.val∧wm q.val≤100000000)∧0<pwF q.val 1∧pwF q.val 1≤10000:=by decide +kernel
theorem wz {w:World} {base R n cap:Nat} {f:Nat→Int} (h:zm w base R n cap f) (hp:∀ i,i<n→0≤f i):∀ i,i<n→w.cell? ⟨R,i,none⟩=some (.int .i64 ((f i).toNat:Nat)):=fun i hi=>by
 rw [h.cell hi,show (((f i).toNat:Nat):Int)=f i from Int.toNat_of_nonneg (hp i hi)]
set_option maxRecDepth 100000
set_option maxHeartbeats 16000000
theorem ws {m q:Nat} (hm:m<2) (h1:1≤q) (h5:q+m≤5) (w:World) :
  Calls Try.prog 6 #[.int .i64 m,.int .i64 q] w fun e w'=>∃ v,e=.returned (.tuple #[v,.bool true])∧yC 0 w' w.heap.size v (q+1) (exN m q) (exD m q)∧Below w.heap.size w w':=by
 have PA:=hid (fun W=>wo q h1 (by omega) W);have PB:=hid (fun W=>ww q h1 (by omega) W);have hx:=wL ⟨q,by omega⟩;simp only [] at hx;have HS:=hid (fun (i:Nat) (hi:i<6)=>hx ⟨i,hi⟩ h1);clear hx;have AL:=al1 w (.cells #[.slice none 0 0,.slice none 0 0] 26);go_enter Try.func6,Try.ntmps6;go_upto_region 1 with fail
 generalize w.alloc (.cells #[.slice none 0 0,.slice none 0 0] 26)=X at *;generalize hB:w.heap.size=B at *;obtain ⟨x1,x2,x3⟩:=AL;have HX:=hid x1;have HBX:=hid x3;clear x1 x3;have j1:¬ (q:Int)<1:=by omega
 rcases (show m=0∨m=1 by omega) with rfl | rfl
 ·have j2:(q:Int)≤5:=by omega
  go_wp2_with fail;refine (PA.out X).mono ?_;rintro e w1 ⟨R,rfl,ho,hb⟩;have hl:=ho.lt;have HR:=hid (wz ho (fun i hi=>(HS.out i (by omega)).1.1));have HD:=hid (show ((exG 0 q:Nat):Int)=wm q from by unfold exG; rw [if_pos rfl]; exact Int.toNat_of_nonneg (by have:=(HS.out 0 (by omega)).2.1; omega));have HB1:=hid hb;clear ho hb;rw [← HD.out];have LT:=hid (we (q+1) R (q+1) (exF 0 q) (exG 0 q) (fun i hi=>by unfold exF; rw [if_pos rfl]; have:=(HS.out i (by omega)).1; omega) (by have:=(HS.out 0 (by omega)).2.1; have:=HD.out; omega) (by omega) w1 hl.2 (fun i hi=>by unfold exF; rw [if_pos rfl]; exact HR.out i hi));go_wp2_with fail;refine LT.out.mono ?_;rintro e w2 ⟨v,rfl,ho,hb⟩;obtain ⟨-,A,C,a,c,rfl,hA,hC⟩:=ho;have hbW:Below X.heap.size X w2:=HB1.out.trans (hb.mono HB1.out.size);have hr:=(hbW.block B (by omega)).trans HX.out;have c0:=zc hr 0;have c1:=zc hr 1;have f0:=zi hr 0;have f1:=zi hr 1;simp only [List.getElem?_toArray,List.getElem?_cons_zero,List.getElem?_cons_succ] at c0 c1;have hs1:=HB1.out.size;have hlA:=hA.lt;have hlC:=hC.lt
  have HF:=hid (show zm ((w2.setCell ⟨B,0,none⟩ (.slice (some ⟨A,0,none⟩) (q+1) a)).setCell ⟨B,1,none⟩ (.slice (some ⟨C,0,none⟩) (q+1) c)) B A (q+1) a _∧zm ((w2.setCell ⟨B,0,none⟩ (.slice (some ⟨A,0,none⟩) (q+1) a)).setCell ⟨B,1,none⟩ (.slice (some ⟨C,0,none⟩) (q+1) c)) B C (q+1) c _∧Below B w ((w2.setCell ⟨B,0,none⟩ (.slice (some ⟨A,0,none⟩) (q+1) a)).setCell ⟨B,1,none⟩ (.slice (some ⟨C,0,none⟩) (q+1) c)) from
   ⟨((hA.base (b':=B) (by omega)).other (by omega) _).other (by omega) _,((hC.base (b':=B) (by omega)).other (by omega) _).other (by omega) _,((HBX.out.trans (hbW.mono (by omega))).setCell (p:=⟨B,0,none⟩) (Nat.le_refl B) _).setCell (p:=⟨B,1,none⟩) (Nat.le_refl B) _⟩)
  have e0:=zc (zy (o:=1) (zy (o:=0) hr (.slice (some ⟨A,0,none⟩) (q+1) a)) (.slice (some ⟨C,0,none⟩) (q+1) c)) 0;have e1:=zc (zy (o:=1) (zy (o:=0) hr (.slice (some ⟨A,0,none⟩) (q+1) a)) (.slice (some ⟨C,0,none⟩) (q+1) c)) 1
  replace e0:_=some (Value.slice (some ⟨A,0,none⟩) (q+1) a):=e0
  replace e1:_=some (Value.slice (some ⟨C,0,none⟩) (q+1) c):=e1
  clear hA hC hbW hr hb hlA hlC hs1;go_wp2_with fail;exact bodyPost_ret (v:=.tuple #[.agg #[.slice (some ⟨A,0,none⟩) (q+1) a,.slice (some ⟨C,0,none⟩) (q+1) c],.bool true]) (by simp [results,Try.results6,go_sem,e0,e1]) rfl ⟨_,rfl,⟨rfl,A,C,a,c,rfl,hB ▸ HF.out.1,hB ▸ HF.out.2.1⟩,hB ▸ HF.out.2.2⟩
 ·have j2:(q:Int)≤4:=by omega
  go_wp2_with fail;refine (PB.out X).mono ?_;rintro e w1 ⟨R,rfl,ho,hb⟩;have hl:=ho.lt;have HR:=hid (wz ho (fun i hi=>(xn (by omega) (by omega)).1));have HD:=hid (show ((exG 1 q:Nat):Int)=pwF q 1 from by unfold exG; rw [if_neg (by omega)]; exact Int.toNat_of_nonneg (xn (by omega) (by omega)).1);have HB1:=hid hb;clear ho hb;rw [← HD.out];have LT:=hid (we (q+1) R (q+1) (exF 1 q) (exG 1 q) (fun i hi=>by unfold exF; rw [if_neg (by omega)]; have:=xn (i:=q) (j:=i) (by omega) (by omega); omega) (by have:=(HS.out 0 (by omega)).2.2; have:=HD.out; omega) (by omega) w1 hl.2 (fun i hi=>by unfold exF; rw [if_neg (by omega)]; exact HR.out i hi));go_wp2_with fail;refine LT.out.mono ?_;rintro e w2 ⟨v,rfl,ho,hb⟩;obtain ⟨-,A,C,a,c,rfl,hA,hC⟩:=ho;have hbW:Below X.heap.size X w2:=HB1.out.trans (hb.mono HB1.out.size);have hr:=(hbW.block B (by omega)).trans HX.out;have c0:=zc hr 0;have c1:=zc hr 1;have f0:=zi hr 0;have f1:=zi hr 1;simp only [List.getElem?_toArray,List.getElem?_cons_zero,List.getElem?_cons_succ] at c0 c1;have hs1:=HB1.out.size;have hlA:=hA.lt;have hlC:=hC.lt
  have HF:=hid (show zm ((w2.setCell ⟨B,0,none⟩ (.slice (some ⟨A,0,none⟩) (q+1) a)).setCell ⟨B,1,none⟩ (.slice (some ⟨C,0,none⟩) (q+1) c)) B A (q+1) a _∧zm ((w2.setCell ⟨B,0,none⟩ (.slice (some ⟨A,0,none⟩) (q+1) a)).setCell ⟨B,1,none⟩ (.slice (some ⟨C,0,none⟩) (q+1) c)) B C (q+1) c _∧Below B w ((w2.setCell ⟨B,0,none⟩ (.slice (some ⟨A,0,none⟩) (q+1) a)).setCell ⟨B,1,none⟩ (.slice (some ⟨C,0,none⟩) (q+1) c)) from
   ⟨((hA.base (b':=B) (by omega)).other (by omega) _).other (by omega) _,((hC.base (b':=B) (by omega)).other (by omega) _).other (by omega) _,((HBX.out.trans (hbW.mono (by omega))).setCell (p:=⟨B,0,none⟩) (Nat.le_refl B) _).setCell (p:=⟨B,1,none⟩) (Nat.le_refl B) _⟩)
  have e0:=zc (zy (o:=1) (zy (o:=0) hr (.slice (some ⟨A,0,none⟩) (q+1) a)) (.slice (some ⟨C,0,none⟩) (q+1) c)) 0;have e1:=zc (zy (o:=1) (zy (o:=0) hr (.slice (some ⟨A,0,none⟩) (q+1) a)) (.slice (some ⟨C,0,none⟩) (q+1) c)) 1
  replace e0:_=some (Value.slice (some ⟨A,0,none⟩) (q+1) a):=e0
  replace e1:_=some (Value.slice (some ⟨C,0,none⟩) (q+1) c):=e1
  clear hA hC hbW hr hb hlA hlC hs1;go_wp2_with fail;exact bodyPost_ret (v:=.tuple #[.agg #[.slice (some ⟨A,0,none⟩) (q+1) a,.slice (some ⟨C,0,none⟩) (q+1) c],.bool true]) (by simp [results,Try.results6,go_sem,e0,e1]) rfl ⟨_,rfl,⟨rfl,A,C,a,c,rfl,hB ▸ HF.out.1,hB ▸ HF.out.2.1⟩,hB ▸ HF.out.2.2⟩
def coF (m q i:Nat):Nat:=cop .quo (floatOfInt .f64 (exN m q i)) (floatOfInt .f64 (exD m q i))
theorem xZ:∀ (m:Fin 2) (q:Fin 6) (i:Fin 6),1≤q.val→isN (coF m.val q.val i.val)=false:=by decide +kernel
theorem wP {m q:Nat} (hm:m<2) (h1:1≤q) (h5:q+m≤5) (w:World) :
  Calls Try.prog 8 #[.int .i64 m,.int .i64 q] w fun e w'=>∃ v,e=.returned (.tuple #[v,.bool true])∧yF w' v (q+1) (coF m q)∧Below w.heap.size w w':=by
 obtain ⟨iF,hF,g1,g2,g3⟩:=info_parts wO;have HF:=hid (show iF.zero=_∧iF.size=_∧iF.bytes=_ from ⟨g1,g2,g3⟩);have HF0:=hid hF;clear hF g1 g2 g3;have EX:=hid (ws hm h1 h5 w);go_enter Try.func8,Try.ntmps8;generalize hB:w.heap.size=B at *;go_wp2_with fail;refine EX.out.mono ?_;rintro e w1 ⟨v,rfl,⟨-,A,C,a,c,rfl,hA,hC⟩,hb⟩;have AL:=hid (al1 w1 (.cells #[.slice (some ⟨A,0,none⟩) (q+1) a,.slice (some ⟨C,0,none⟩) (q+1) c] 26));have HA:=hid hA;have HC:=hid hC;have HB1:=hid hb;clear hA hC hb;go_upto_region 2 with fail
 generalize w1.alloc (.cells #[.slice (some ⟨A,0,none⟩) (q+1) a,.slice (some ⟨C,0,none⟩) (q+1) c] 26)=X at *;generalize hP:w1.heap.size=P at *;obtain ⟨x1,x2,x3⟩:=AL.out;have HX:=hid x1;have HAX:=hid (HA.out.below x3 (hP ▸ HA.out.lt.2));have HCX:=hid (HC.out.below x3 (hP ▸ HC.out.lt.2));have hB1:B≤P:=by have:=HB1.out.size; omega
 have HBX:=hid (HB1.out.trans (x3.mono hB1));have p0:=zc x1 0;simp only [List.getElem?_toArray,List.getElem?_cons_zero] at p0;have hPX:P<X.heap.size:=by omega
 clear x1 x2 x3 AL HA HC HB1
 go_wp2_with (first
  | (refine wpList_make_full _ rfl _ _ _ rfl X.heap.size 38 iF (.float .f64 0) 1 Try.underlying32 HF0.out HF.out.1 HF.out.2.1 .i64 .i64 ((q+1:Nat):Int) ((q+1:Nat):Int) (q+1) rfl rfl rfl rfl (by rw [HF.out.2.2]; omega) (by unfold maxLen; omega) (by omega) ?_)
  | fail)
 intro W1 hr1 hg1;have hb1:Below X.heap.size X W1:=(Below.refl _ _).grown hg1 (by omega) (fun k hk=>by cases hk);have hq1:=wD hr1;have hql:=hq1.lt.2;have HQ:=hid (hq1.congr (g:=fun i=>if i<0 then coF m q i else 0) (fun j hj=>by rw [if_neg (by omega)]));have HAW:=hid (HAX.out.below hb1 HAX.out.lt.2);have HCW:=hid (HCX.out.below hb1 HCX.out.lt.2);have HPW:=hid ((hb1.block P hPX).trans HX.out);have HBW:=hid (HBX.out.trans (hb1.mono (Nat.le_trans hB1 (Nat.le_of_lt hPX))));have hAl:=HAX.out.lt;have hCl:=HCX.out.lt;clear hr1 hg1 hb1 hq1 p0 HAX HCX HBX;generalize hQ:X.heap.size=Q at *;have p0:=zc HPW.out 0;simp only [List.getElem?_toArray,List.getElem?_cons_zero] at p0;go_wp2_with fail
 go_loopw [26] (fun i wr=>∃ e:Nat,e≤q+1∧i=.int .i64 e∧zB wr Q Q (q+1) (q+1) (fun i=>if i<e then coF m q i else 0)∧zN W1 Q wr) (fun i _=>q+1-(intOf i).toNat)
 case atStart=>exact ⟨0,by omega,rfl,HQ.out,zN.refl _ _⟩
 case round=>
  clear HQ p0;obtain ⟨e,he,rfl,ho,hk⟩:=hrel;have HO:=hid ho;have HK:=hid hk;by_cases hen:e<q+1
  ·have j1:(e:Int)<(q:Int)+1:=by omega
   have u1:=(hk.cell (b:=A) (by omega) (by omega) e).trans (HAW.out.cell hen);have u2:=(hk.cell (b:=C) (by omega) (by omega) e).trans (HCW.out.cell hen);have p1:=zc ((hk.block P (by omega) (by omega)).trans HPW.out) 1;simp only [List.getElem?_toArray,List.getElem?_cons_zero,List.getElem?_cons_succ] at p1;obtain ⟨y,y1,-,-⟩:=ho.cell hen;have f1:=ho.free e;have hnum:=xU (xZ ⟨m,hm⟩ ⟨q,by omega⟩ ⟨e,by omega⟩ h1);obtain ⟨n1,n2⟩:=hnum;simp only [] at n1 n2;have hcn:zu (coF m q e)=coF m q e:=xD _ _ _
   have HN:=hid (show zB (wr.setCell ⟨Q,e,none⟩ (.float .f64 (cop .quo (floatOfInt .f64 (exN m q e)) (floatOfInt .f64 (exD m q e))))) Q Q (q+1) (q+1) (fun i=>if i<e+1 then coF m q i else 0)∧zN W1 Q (wr.setCell ⟨Q,e,none⟩ (.float .f64 (cop .quo (floatOfInt .f64 (exN m q e)) (floatOfInt .f64 (exD m q e))))) from ⟨(ho.set hen hcn (x5 _ _ _)).congr (fun i hi=>by
    by_cases h:i=e
    ·subst h; rw [zG,if_pos (by omega)]
    ·rw [zv _ _ h];by_cases h2:i<e
     ·rw [if_pos h2,if_pos (by omega)]
     ·rw [if_neg h2,if_neg (by omega)]),hk.set _ _⟩)
   clear ho hk hcn;go_wp2_with fail
   go_roundw
   case rel=>exact ⟨e+1,by omega,by go_num,HN.out⟩
   case measure=>simp [intOf]; omega
  ·obtain rfl:e=q+1:=by omega
   have hbF:=hk.below HBW.out (show B≤Q by omega) (by omega);have HF:=hid (show yF wr (.slice (some ⟨Q,0,none⟩) (q+1) (q+1)) (q+1) (coF m q) from (ho.congr (fun i hi=>by rw [if_pos hi])).flts (by omega));have HBF:=hid hbF;clear ho hk hbF;go_wp2_with fail;exact bodyPost_ret (v:=.tuple #[.slice (some ⟨Q,0,none⟩) (q+1) (q+1),.bool true]) (by simp [results,Try.results8,go_sem]) rfl ⟨_,rfl,HF.out,hB ▸ HBF.out⟩
end Go.Proofs.Ytfcjfijmdikcmaa
namespace Go.Proofs.Ytfcjfijmdikcmaa
open Go.RowKit Lib
open Ieee (double)
attribute [local go_sem] zh zf zF zz zl yb
theorem xe {X W:World} {q base n size:Nat} {E t:TypeId} {v:Value} {qs:List Value} {cs:Array Value} (h:X.ownsRow base E size v n qs) (hq:X.heap[q]? = some (.cells cs t (0,0))) (hk:zN X q W) (ht:(t==E)=false):W.ownsRow base E size v n qs:=by
 obtain ⟨h1,h2⟩:=h;refine ⟨h1,?_⟩;rcases h2 with h2 | ⟨g,c,cur,rfl,hg,hh,r⟩
 ·exact .inl h2
 ·have hne:g≠q:=by
   rintro rfl;rw [hh] at hq;simp only [Option.some.injEq,Obj.cells.injEq] at hq;obtain ⟨-,rfl,-⟩:=hq;simp at ht
  exact .inr ⟨g,c,cur,rfl,hg,(hk.block g (zw hh) hne).trans hh,r⟩
structure zV (P:Nat) (uN uD vN vD:Value) (kN kD:Nat) (f g:Nat→Int) (w0 W:World):Prop where
 bel:Below P w0 W
 blk:W.heap[P]? = some (.cells #[uN,uD] 29 (0,0))
 num:W.ownsRow (P+1) 3 1 vN kN (zD f kN)
 den:W.ownsRow (P+1) 3 1 vD kD (zD g kD)
 ne:∀ j,vN.ownBlock=some j→vD.ownBlock≠some j
section
variable {P kN kD : Nat} {uN uD vN vD : Value} {f g : Nat → Int} {w0 W W' : World}
theorem zV.lt (h:zV P uN uD vN vD kN kD f g w0 W):P+1≤W.heap.size:=zw h.blk
theorem zV.step (h:zV P uN uD vN vD kN kD f g w0 W) (hb:Below W.heap.size W W'):zV P uN uD vN vD kN kD f g w0 W':=by
 have hl:=h.lt;exact ⟨h.bel.trans (hb.mono (by omega)),(hb.block P hl).trans h.blk,yn h.num hb,yn h.den hb,h.ne⟩
theorem zV.appN {gg c:Nat} (h:zV P uN uD vN vD kN kD f g w0 W) (hg:W.grownBy W' vN.ownBlock) (hat:vN.ownBlock=some gg∨gg=W.heap.size) (ho:W'.ownsRow (P+1) 3 1 (.slice (some ⟨gg,0,none⟩) (kN+1) c) (kN+1) (zD f (kN+1))):zV P uN uD (.slice (some ⟨gg,0,none⟩) (kN+1) c) vD (kN+1) kD f g w0 W':=by
 have hl:=h.lt;have hB:=(Below.refl (P+1) W).grown hg hl (fun k hk=>(h.num.lt k hk).1);refine ⟨h.bel.trans (hB.mono (by omega)),(hB.block P (by omega)).trans h.blk,ho,h.den.kept hg ?_,fun j hj=>?_⟩
 ·cases hv:vD.ownBlock with
  | none=>exact .inl rfl
  | some j=>exact .inr (fun e=>h.ne j e.symm hv)
 ·have e:j=gg:=by injection hj with e; exact e.symm
  subst e;rcases hat with e | e
  ·exact h.ne j e
  ·exact fun e2=>by have:=(h.den.lt j e2).2; omega
theorem zV.appD {gg c:Nat} (h:zV P uN uD vN vD kN kD f g w0 W) (hg:W.grownBy W' vD.ownBlock) (hat:vD.ownBlock=some gg∨gg=W.heap.size) (ho:W'.ownsRow (P+1) 3 1 (.slice (some ⟨gg,0,none⟩) (kD+1) c) (kD+1) (zD g (kD+1))):zV P uN uD vN (.slice (some ⟨gg,0,none⟩) (kD+1) c) kN (kD+1) f g w0 W':=by
 have hl:=h.lt;have hB:=(Below.refl (P+1) W).grown hg hl (fun k hk=>(h.den.lt k hk).1);refine ⟨h.bel.trans (hB.mono (by omega)),(hB.block P (by omega)).trans h.blk,h.num.kept hg ?_,ho,fun j hj e2=>?_⟩
 ·cases hv:vN.ownBlock with
  | none=>exact .inl rfl
  | some j=>exact .inr (fun e=>h.ne j hv e.symm)
 ·have e:j=gg:=by injection e2 with e; exact e.symm
  subst e;rcases hat with e | e
  ·exact h.ne j hj e
  ·have:=(h.num.lt j hj).2; omega
theorem zV.put {uN' uD':Value} (h:zV P uN uD vN vD kN kD f g w0 W) (hk:zN W P W') (e:W'.heap[P]? = some (.cells #[uN',uD'] 29 (0,0))):zV P uN' uD' vN vD kN kD f g w0 W':=
 ⟨hk.below h.bel (Nat.le_refl _) (by have:=h.lt; omega),e,xe h.num h.blk hk rfl,xe h.den h.blk hk rfl,h.ne⟩
theorem zV.setN (h:zV P uN uD vN vD kN kD f g w0 W) (u:Value):zV P u uD vN vD kN kD f g w0 (W.setCell ⟨P,0,none⟩ u):=h.put ((zN.refl W P).set 0 u) ((zy h.blk u).trans rfl)
theorem zV.setD (h:zV P uN uD vN vD kN kD f g w0 W) (u:Value):zV P uN u vN vD kN kD f g w0 (W.setCell ⟨P,1,none⟩ u):=h.put ((zN.refl W P).set 1 u) ((zy h.blk u).trans rfl)
theorem zV.congr {f2 g2:Nat→Int} (h:zV P uN uD vN vD kN kD f g w0 W) (e1:zD f2 kN=zD f kN) (e2:zD g2 kD=zD g kD):zV P uN uD vN vD kN kD f2 g2 w0 W:=⟨h.bel,h.blk,by rw [e1]; exact h.num,by rw [e2]; exact h.den,h.ne⟩
end
end Go.Proofs.Ytfcjfijmdikcmaa
