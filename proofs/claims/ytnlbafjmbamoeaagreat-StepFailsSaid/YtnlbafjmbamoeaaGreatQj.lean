/-
  Contracts (what a function tells) and plain facts that a law's proof hangs on, for every input; no condition but those in their statements. Laid together of the texts Cff, Cfg, Cfh, Cfi, Cfj, Rp.
-/
import Derived.Test.YtnlbafjmbamoeaaGreatQi
namespace Go.Proofs.YtnlbafjmbamoeaaGreat
open Go.RowKit Lib
open Ieee (double)
attribute [local go_sem] zr zi zy zn zU zS zW zX zV zY zD zH zI zJ zK zB ye z8 zF yE
def exF (m q i:Nat):Nat:=if m=0 then (aMF q q i).toNat else (pwF q i).toNat
def exG (m q:Nat):Nat:=if m=0 then (rG q).toNat else (pwF q 1).toNat
def exN (m q:Nat):Nat→Int:=lwN (exF m q) (exG m q)
def exD (m q:Nat):Nat→Int:=lwD (exF m q) (exG m q)
theorem ld:∀ (q:Fin 6) (i:Fin 6),1≤q.val→(0≤aMF q.val q.val i.val∧aMF q.val q.val i.val≤100000000)∧(0<rG q.val∧rG q.val≤100000000)∧0<pwF q.val 1∧pwF q.val 1≤10000:=by decide +kernel
theorem pO {w:World} {base R n cap:Nat} {f:Nat→Int} (h:yh w base R n cap f) (hp:∀ i,i<n→0≤f i):∀ i,i<n→w.cell? ⟨R,i,none⟩=some (.int .i64 ((f i).toNat:Nat)):=fun i hi=>by
 rw [h.cell hi,show (((f i).toNat:Nat):Int)=f i from Int.toNat_of_nonneg (hp i hi)]
set_option maxRecDepth 100000
set_option maxHeartbeats 16000000
theorem rI {m q:Nat} (hm:m<2) (h1:1≤q) (h5:q+m≤5) (w:World) :
  Calls Tryz.prog 62 #[.int .i64 m,.int .i64 q] w fun e w'=>∃ v,e=.returned (.tuple #[v,.bool true])∧uu 0 w' w.heap.size v (q+1) (exN m q) (exD m q)∧Below w.heap.size w w':=by
 have PA:=hid (fun W=>rH q h1 (by omega) W);have PB:=hid (fun W=>pM q h1 (by omega) W);have hx:=ld ⟨q,by omega⟩;simp only [] at hx;have HS:=hid (fun (i:Nat) (hi:i<6)=>hx ⟨i,hi⟩ h1);clear hx;have AL:=al1 w (.cells #[.slice none 0 0,.slice none 0 0] 102);go_enter Tryz.func62,Tryz.ntmps62;go_upto_region 1 with fail
 generalize w.alloc (.cells #[.slice none 0 0,.slice none 0 0] 102)=X at *;generalize hB:w.heap.size=B at *;obtain ⟨x1,x2,x3⟩:=AL;have HX:=hid x1;have HBX:=hid x3;clear x1 x3;have j1:¬ (q:Int)<1:=by omega
 rcases (show m=0∨m=1 by omega) with rfl | rfl
 ·have j2:(q:Int)≤5:=by omega
  go_wp2_with fail;refine (PA.out X).mono ?_;rintro e w1 ⟨R,rfl,ho,hb⟩;have hl:=ho.lt;have HR:=hid (pO ho (fun i hi=>(HS.out i (by omega)).1.1));have HD:=hid (show ((exG 0 q:Nat):Int)=rG q from by unfold exG; rw [if_pos rfl]; exact Int.toNat_of_nonneg (by have:=(HS.out 0 (by omega)).2.1; omega));have HB1:=hid hb;clear ho hb;rw [← HD.out];have LT:=hid (uv (q+1) R (q+1) (exF 0 q) (exG 0 q) (fun i hi=>by unfold exF; rw [if_pos rfl]; have:=(HS.out i (by omega)).1; omega) (by have:=(HS.out 0 (by omega)).2.1; have:=HD.out; omega) (by omega) w1 hl.2 (fun i hi=>by unfold exF; rw [if_pos rfl]; exact HR.out i hi));go_wp2_with fail;refine LT.out.mono ?_;rintro e w2 ⟨v,rfl,ho,hb⟩;obtain ⟨-,A,C,a,c,rfl,hA,hC⟩:=ho;have hbW:Below X.heap.size X w2:=HB1.out.trans (hb.mono HB1.out.size);have hr:=(hbW.block B (by omega)).trans HX.out;have c0:=zf hr 0;have c1:=zf hr 1;have f0:=zg hr 0;have f1:=zg hr 1;simp only [List.getElem?_toArray,List.getElem?_cons_zero,List.getElem?_cons_succ] at c0 c1;have hs1:=HB1.out.size;have hlA:=hA.lt;have hlC:=hC.lt
  have HF:=hid (show yh ((w2.setCell ⟨B,0,none⟩ (.slice (some ⟨A,0,none⟩) (q+1) a)).setCell ⟨B,1,none⟩ (.slice (some ⟨C,0,none⟩) (q+1) c)) B A (q+1) a _∧yh ((w2.setCell ⟨B,0,none⟩ (.slice (some ⟨A,0,none⟩) (q+1) a)).setCell ⟨B,1,none⟩ (.slice (some ⟨C,0,none⟩) (q+1) c)) B C (q+1) c _∧Below B w ((w2.setCell ⟨B,0,none⟩ (.slice (some ⟨A,0,none⟩) (q+1) a)).setCell ⟨B,1,none⟩ (.slice (some ⟨C,0,none⟩) (q+1) c)) from
   ⟨((hA.base (b':=B) (by omega)).other (by omega) _).other (by omega) _,((hC.base (b':=B) (by omega)).other (by omega) _).other (by omega) _,((HBX.out.trans (hbW.mono (by omega))).setCell (p:=⟨B,0,none⟩) (Nat.le_refl B) _).setCell (p:=⟨B,1,none⟩) (Nat.le_refl B) _⟩)
  have e0:=zf (yz (o:=1) (yz (o:=0) hr (.slice (some ⟨A,0,none⟩) (q+1) a)) (.slice (some ⟨C,0,none⟩) (q+1) c)) 0;have e1:=zf (yz (o:=1) (yz (o:=0) hr (.slice (some ⟨A,0,none⟩) (q+1) a)) (.slice (some ⟨C,0,none⟩) (q+1) c)) 1
  replace e0:_=some (Value.slice (some ⟨A,0,none⟩) (q+1) a):=e0
  replace e1:_=some (Value.slice (some ⟨C,0,none⟩) (q+1) c):=e1
  clear hA hC hbW hr hb hlA hlC hs1;go_wp2_with fail;exact bodyPost_ret (v:=.tuple #[.agg #[.slice (some ⟨A,0,none⟩) (q+1) a,.slice (some ⟨C,0,none⟩) (q+1) c],.bool true]) (by simp [results,Tryz.results62,go_sem,e0,e1]) rfl ⟨_,rfl,⟨rfl,A,C,a,c,rfl,hB ▸ HF.out.1,hB ▸ HF.out.2.1⟩,hB ▸ HF.out.2.2⟩
 ·have j2:(q:Int)≤4:=by omega
  go_wp2_with fail;refine (PB.out X).mono ?_;rintro e w1 ⟨R,rfl,ho,hb⟩;have hl:=ho.lt;have HR:=hid (pO ho (fun i hi=>(vX (by omega) (by omega)).1));have HD:=hid (show ((exG 1 q:Nat):Int)=pwF q 1 from by unfold exG; rw [if_neg (by omega)]; exact Int.toNat_of_nonneg (vX (by omega) (by omega)).1);have HB1:=hid hb;clear ho hb;rw [← HD.out];have LT:=hid (uv (q+1) R (q+1) (exF 1 q) (exG 1 q) (fun i hi=>by unfold exF; rw [if_neg (by omega)]; have:=vX (i:=q) (j:=i) (by omega) (by omega); omega) (by have:=(HS.out 0 (by omega)).2.2; have:=HD.out; omega) (by omega) w1 hl.2 (fun i hi=>by unfold exF; rw [if_neg (by omega)]; exact HR.out i hi));go_wp2_with fail;refine LT.out.mono ?_;rintro e w2 ⟨v,rfl,ho,hb⟩;obtain ⟨-,A,C,a,c,rfl,hA,hC⟩:=ho;have hbW:Below X.heap.size X w2:=HB1.out.trans (hb.mono HB1.out.size);have hr:=(hbW.block B (by omega)).trans HX.out;have c0:=zf hr 0;have c1:=zf hr 1;have f0:=zg hr 0;have f1:=zg hr 1;simp only [List.getElem?_toArray,List.getElem?_cons_zero,List.getElem?_cons_succ] at c0 c1;have hs1:=HB1.out.size;have hlA:=hA.lt;have hlC:=hC.lt
  have HF:=hid (show yh ((w2.setCell ⟨B,0,none⟩ (.slice (some ⟨A,0,none⟩) (q+1) a)).setCell ⟨B,1,none⟩ (.slice (some ⟨C,0,none⟩) (q+1) c)) B A (q+1) a _∧yh ((w2.setCell ⟨B,0,none⟩ (.slice (some ⟨A,0,none⟩) (q+1) a)).setCell ⟨B,1,none⟩ (.slice (some ⟨C,0,none⟩) (q+1) c)) B C (q+1) c _∧Below B w ((w2.setCell ⟨B,0,none⟩ (.slice (some ⟨A,0,none⟩) (q+1) a)).setCell ⟨B,1,none⟩ (.slice (some ⟨C,0,none⟩) (q+1) c)) from
   ⟨((hA.base (b':=B) (by omega)).other (by omega) _).other (by omega) _,((hC.base (b':=B) (by omega)).other (by omega) _).other (by omega) _,((HBX.out.trans (hbW.mono (by omega))).setCell (p:=⟨B,0,none⟩) (Nat.le_refl B) _).setCell (p:=⟨B,1,none⟩) (Nat.le_refl B) _⟩)
  have e0:=zf (yz (o:=1) (yz (o:=0) hr (.slice (some ⟨A,0,none⟩) (q+1) a)) (.slice (some ⟨C,0,none⟩) (q+1) c)) 0;have e1:=zf (yz (o:=1) (yz (o:=0) hr (.slice (some ⟨A,0,none⟩) (q+1) a)) (.slice (some ⟨C,0,none⟩) (q+1) c)) 1
  replace e0:_=some (Value.slice (some ⟨A,0,none⟩) (q+1) a):=e0
  replace e1:_=some (Value.slice (some ⟨C,0,none⟩) (q+1) c):=e1
  clear hA hC hbW hr hb hlA hlC hs1;go_wp2_with fail;exact bodyPost_ret (v:=.tuple #[.agg #[.slice (some ⟨A,0,none⟩) (q+1) a,.slice (some ⟨C,0,none⟩) (q+1) c],.bool true]) (by simp [results,Tryz.results62,go_sem,e0,e1]) rfl ⟨_,rfl,⟨rfl,A,C,a,c,rfl,hB ▸ HF.out.1,hB ▸ HF.out.2.1⟩,hB ▸ HF.out.2.2⟩
def coF (m q i:Nat):Nat:=cop .quo (floatOfInt .f64 (exN m q i)) (floatOfInt .f64 (exD m q i))
theorem nC:∀ (m:Fin 2) (q:Fin 6) (i:Fin 6),1≤q.val→isN (coF m.val q.val i.val)=false:=by decide +kernel
theorem mh {m q:Nat} (hm:m<2) (h1:1≤q) (h5:q+m≤5) (w:World) :
  Calls Tryz.prog 35 #[.int .i64 m,.int .i64 q] w fun e w'=>∃ v,e=.returned (.tuple #[v,.bool true])∧zT w' v (q+1) (coF m q)∧Below w.heap.size w w':=by
 obtain ⟨iF,hF,g1,g2,g3⟩:=info_parts xu;have HF:=hid (show iF.zero=_∧iF.size=_∧iF.bytes=_ from ⟨g1,g2,g3⟩);have HF0:=hid hF;clear hF g1 g2 g3;have EX:=hid (rI hm h1 h5 w);go_enter Tryz.func35,Tryz.ntmps35;generalize hB:w.heap.size=B at *;go_wp2_with fail;refine EX.out.mono ?_;rintro e w1 ⟨v,rfl,⟨-,A,C,a,c,rfl,hA,hC⟩,hb⟩;have AL:=hid (al1 w1 (.cells #[.slice (some ⟨A,0,none⟩) (q+1) a,.slice (some ⟨C,0,none⟩) (q+1) c] 102));have HA:=hid hA;have HC:=hid hC;have HB1:=hid hb;clear hA hC hb;go_upto_region 2 with fail
 generalize w1.alloc (.cells #[.slice (some ⟨A,0,none⟩) (q+1) a,.slice (some ⟨C,0,none⟩) (q+1) c] 102)=X at *;generalize hP:w1.heap.size=P at *;obtain ⟨x1,x2,x3⟩:=AL.out;have HX:=hid x1;have HAX:=hid (HA.out.below x3 (hP ▸ HA.out.lt.2));have HCX:=hid (HC.out.below x3 (hP ▸ HC.out.lt.2));have hB1:B≤P:=by have:=HB1.out.size; omega
 have HBX:=hid (HB1.out.trans (x3.mono hB1));have p0:=zf x1 0;simp only [List.getElem?_toArray,List.getElem?_cons_zero] at p0;have hPX:P<X.heap.size:=by omega
 clear x1 x2 x3 AL HA HC HB1
 go_wp2_with (first
  | (refine wpList_make_full _ rfl _ _ _ rfl X.heap.size 31 iF (.float .f64 0) 1 Tryz.underlying30 HF0.out HF.out.1 HF.out.2.1 .i64 .i64 ((q+1:Nat):Int) ((q+1:Nat):Int) (q+1) rfl rfl rfl rfl (by rw [HF.out.2.2]; omega) (by unfold maxLen; omega) (by omega) ?_)
  | fail)
 intro W1 hr1 hg1;have hb1:Below X.heap.size X W1:=(Below.refl _ _).grown hg1 (by omega) (fun k hk=>by cases hk);have hq1:=yI hr1;have hql:=hq1.lt.2;have HQ:=hid (hq1.congr (g:=fun i=>if i<0 then coF m q i else 0) (fun j hj=>by rw [if_neg (by omega)]));have HAW:=hid (HAX.out.below hb1 HAX.out.lt.2);have HCW:=hid (HCX.out.below hb1 HCX.out.lt.2);have HPW:=hid ((hb1.block P hPX).trans HX.out);have HBW:=hid (HBX.out.trans (hb1.mono (Nat.le_trans hB1 (Nat.le_of_lt hPX))));have hAl:=HAX.out.lt;have hCl:=HCX.out.lt;clear hr1 hg1 hb1 hq1 p0 HAX HCX HBX;generalize hQ:X.heap.size=Q at *;have p0:=zf HPW.out 0;simp only [List.getElem?_toArray,List.getElem?_cons_zero] at p0;go_wp2_with fail
 go_loopw [26] (fun i wr=>∃ e:Nat,e≤q+1∧i=.int .i64 e∧yd wr Q Q (q+1) (q+1) (fun i=>if i<e then coF m q i else 0)∧zM W1 Q wr) (fun i _=>q+1-(intOf i).toNat)
 case atStart=>exact ⟨0,by omega,rfl,HQ.out,zM.refl _ _⟩
 case round=>
  clear HQ p0;obtain ⟨e,he,rfl,ho,hk⟩:=hrel;have HO:=hid ho;have HK:=hid hk;by_cases hen:e<q+1
  ·have j1:(e:Int)<(q:Int)+1:=by omega
   have u1:=(hk.cell (b:=A) (by omega) (by omega) e).trans (HAW.out.cell hen);have u2:=(hk.cell (b:=C) (by omega) (by omega) e).trans (HCW.out.cell hen);have p1:=zf ((hk.block P (by omega) (by omega)).trans HPW.out) 1;simp only [List.getElem?_toArray,List.getElem?_cons_zero,List.getElem?_cons_succ] at p1;obtain ⟨y,y1,-,-⟩:=ho.cell hen;have f1:=ho.free e;have hnum:=xx (nC ⟨m,hm⟩ ⟨q,by omega⟩ ⟨e,by omega⟩ h1);obtain ⟨n1,n2⟩:=hnum;simp only [] at n1 n2;have hcn:zk (coF m q e)=coF m q e:=wK _ _ _
   have HN:=hid (show yd (wr.setCell ⟨Q,e,none⟩ (.float .f64 (cop .quo (floatOfInt .f64 (exN m q e)) (floatOfInt .f64 (exD m q e))))) Q Q (q+1) (q+1) (fun i=>if i<e+1 then coF m q i else 0)∧zM W1 Q (wr.setCell ⟨Q,e,none⟩ (.float .f64 (cop .quo (floatOfInt .f64 (exN m q e)) (floatOfInt .f64 (exD m q e))))) from ⟨(ho.set hen hcn (sE _ _ _)).congr (fun i hi=>by
    by_cases h:i=e
    ·subst h; rw [zL,if_pos (by omega)]
    ·rw [zG _ _ h];by_cases h2:i<e
     ·rw [if_pos h2,if_pos (by omega)]
     ·rw [if_neg h2,if_neg (by omega)]),hk.set _ _⟩)
   clear ho hk hcn;go_wp2_with fail
   go_roundw
   case rel=>exact ⟨e+1,by omega,by go_num,HN.out⟩
   case measure=>simp [intOf]; omega
  ·obtain rfl:e=q+1:=by omega
   have hbF:=hk.below HBW.out (show B≤Q by omega) (by omega);have HF:=hid (show zT wr (.slice (some ⟨Q,0,none⟩) (q+1) (q+1)) (q+1) (coF m q) from (ho.congr (fun i hi=>by rw [if_pos hi])).flts (by omega));have HBF:=hid hbF;clear ho hk hbF;go_wp2_with fail;exact bodyPost_ret (v:=.tuple #[.slice (some ⟨Q,0,none⟩) (q+1) (q+1),.bool true]) (by simp [results,Tryz.results35,go_sem]) rfl ⟨_,rfl,HF.out,hB ▸ HBF.out⟩
end Go.Proofs.YtnlbafjmbamoeaaGreat
namespace Go.Proofs.YtnlbafjmbamoeaaGreat
open Go.RowKit Lib
open Ieee (double)
attribute [local go_sem] zr zi ye z8 zF yE
theorem kH {X W:World} {q base n size:Nat} {E t:TypeId} {v:Value} {qs:List Value} {cs:Array Value} (h:X.ownsRow base E size v n qs) (hq:X.heap[q]? = some (.cells cs t (0,0))) (hk:zM X q W) (ht:(t==E)=false):W.ownsRow base E size v n qs:=by
 obtain ⟨h1,h2⟩:=h;refine ⟨h1,?_⟩;rcases h2 with h2 | ⟨g,c,cur,rfl,hg,hh,r⟩
 ·exact .inl h2
 ·have hne:g≠q:=by
   rintro rfl;rw [hh] at hq;simp only [Option.some.injEq,Obj.cells.injEq] at hq;obtain ⟨-,rfl,-⟩:=hq;simp at ht
  exact .inr ⟨g,c,cur,rfl,hg,(hk.block g (zj hh) hne).trans hh,r⟩
structure kG (P:Nat) (uN uD vN vD:Value) (kN kD:Nat) (f g:Nat→Int) (w0 W:World):Prop where
 bel:Below P w0 W
 blk:W.heap[P]? = some (.cells #[uN,uD] 89 (0,0))
 num:W.ownsRow (P+1) 3 1 vN kN (yY f kN)
 den:W.ownsRow (P+1) 3 1 vD kD (yY g kD)
 ne:∀ j,vN.ownBlock=some j→vD.ownBlock≠some j
section
variable {P kN kD : Nat} {uN uD vN vD : Value} {f g : Nat → Int} {w0 W W' : World}
theorem kG.lt (h:kG P uN uD vN vD kN kD f g w0 W):P+1≤W.heap.size:=zj h.blk
theorem kG.step (h:kG P uN uD vN vD kN kD f g w0 W) (hb:Below W.heap.size W W'):kG P uN uD vN vD kN kD f g w0 W':=by
 have hl:=h.lt;exact ⟨h.bel.trans (hb.mono (by omega)),(hb.block P hl).trans h.blk,xB h.num hb,xB h.den hb,h.ne⟩
theorem kG.appN {gg c:Nat} (h:kG P uN uD vN vD kN kD f g w0 W) (hg:W.grownBy W' vN.ownBlock) (hat:vN.ownBlock=some gg∨gg=W.heap.size) (ho:W'.ownsRow (P+1) 3 1 (.slice (some ⟨gg,0,none⟩) (kN+1) c) (kN+1) (yY f (kN+1))):kG P uN uD (.slice (some ⟨gg,0,none⟩) (kN+1) c) vD (kN+1) kD f g w0 W':=by
 have hl:=h.lt;have hB:=(Below.refl (P+1) W).grown hg hl (fun k hk=>(h.num.lt k hk).1);refine ⟨h.bel.trans (hB.mono (by omega)),(hB.block P (by omega)).trans h.blk,ho,h.den.kept hg ?_,fun j hj=>?_⟩
 ·cases hv:vD.ownBlock with
  | none=>exact .inl rfl
  | some j=>exact .inr (fun e=>h.ne j e.symm hv)
 ·have e:j=gg:=by injection hj with e; exact e.symm
  subst e;rcases hat with e | e
  ·exact h.ne j e
  ·exact fun e2=>by have:=(h.den.lt j e2).2; omega
theorem kG.appD {gg c:Nat} (h:kG P uN uD vN vD kN kD f g w0 W) (hg:W.grownBy W' vD.ownBlock) (hat:vD.ownBlock=some gg∨gg=W.heap.size) (ho:W'.ownsRow (P+1) 3 1 (.slice (some ⟨gg,0,none⟩) (kD+1) c) (kD+1) (yY g (kD+1))):kG P uN uD vN (.slice (some ⟨gg,0,none⟩) (kD+1) c) kN (kD+1) f g w0 W':=by
 have hl:=h.lt;have hB:=(Below.refl (P+1) W).grown hg hl (fun k hk=>(h.den.lt k hk).1);refine ⟨h.bel.trans (hB.mono (by omega)),(hB.block P (by omega)).trans h.blk,h.num.kept hg ?_,ho,fun j hj e2=>?_⟩
 ·cases hv:vN.ownBlock with
  | none=>exact .inl rfl
  | some j=>exact .inr (fun e=>h.ne j hv e.symm)
 ·have e:j=gg:=by injection e2 with e; exact e.symm
  subst e;rcases hat with e | e
  ·exact h.ne j hj e
  ·have:=(h.num.lt j hj).2; omega
theorem kG.put {uN' uD':Value} (h:kG P uN uD vN vD kN kD f g w0 W) (hk:zM W P W') (e:W'.heap[P]? = some (.cells #[uN',uD'] 89 (0,0))):kG P uN' uD' vN vD kN kD f g w0 W':=
 ⟨hk.below h.bel (Nat.le_refl _) (by have:=h.lt; omega),e,kH h.num h.blk hk rfl,kH h.den h.blk hk rfl,h.ne⟩
theorem kG.setN (h:kG P uN uD vN vD kN kD f g w0 W) (u:Value):kG P u uD vN vD kN kD f g w0 (W.setCell ⟨P,0,none⟩ u):=h.put ((zM.refl W P).set 0 u) ((yz h.blk u).trans rfl)
theorem kG.setD (h:kG P uN uD vN vD kN kD f g w0 W) (u:Value):kG P uN u vN vD kN kD f g w0 (W.setCell ⟨P,1,none⟩ u):=h.put ((zM.refl W P).set 1 u) ((yz h.blk u).trans rfl)
theorem kG.congr {f2 g2:Nat→Int} (h:kG P uN uD vN vD kN kD f g w0 W) (e1:yY f2 kN=yY f kN) (e2:yY g2 kD=yY g kD):kG P uN uD vN vD kN kD f2 g2 w0 W:=⟨h.bel,h.blk,by rw [e1]; exact h.num,by rw [e2]; exact h.den,h.ne⟩
end
theorem xp.below {w w':World} (h:xp w w'):Below w.heap.size w w':=by
 obtain ⟨n,rfl⟩:=h;exact below_drewN (Below.refl _ _) n
def qnN (q k:Nat):Int:=pJ (pwF (q-1) k) (pwF (q-1) 0*((k:Int)+1))
def qnD (q k:Nat):Int:=pK (pwF (q-1) k) (pwF (q-1) 0*((k:Int)+1))
def sgR (k:Nat):Int:=if (k+1) % 2=1 then -1 else 1
def rS (q:Nat):Nat→Int × Int
 | 0=>(0,1)
 | k+1=>(pJ ((rS q k).1*qnD q k+sgR k*qnN q k*(rS q k).2) ((rS q k).2*qnD q k),pK ((rS q k).1*qnD q k+sgR k*qnN q k*(rS q k).2) ((rS q k).2*qnD q k))
theorem lP (q k:Nat):rS q (k+1)=(pJ ((rS q k).1*qnD q k+sgR k*qnN q k*(rS q k).2) ((rS q k).2*qnD q k),pK ((rS q k).1*qnD q k+sgR k*qnN q k*(rS q k).2) ((rS q k).2*qnD q k)):=by rw [rS]
def rFN (q i:Nat):Int:=if i=0 then 0 else qnN q (i-1)
def rFD (q i:Nat):Int:=if i=0 then 1 else qnD q (i-1)
def raN (q i:Nat):Int:=if i=0 then pJ (-(rS q q).1) (rS q q).2 else qnN q (i-1)
def raD (q i:Nat):Int:=if i=0 then pK (-(rS q q).1) (rS q q).2 else qnD q (i-1)
def okI (x:Int):Bool:=decide (-1000000000000≤x)&&decide (x≤1000000000000)
theorem oT {x:Int} (h:okI x=true):-1000000000000≤x∧x≤1000000000000:=by simpa [okI] using h
theorem tH {x:Int} (h:okI x=true):Sml x:=by have:=oT h; unfold Sml; omega
def rOK (q k:Nat):Bool:=okI (pwF (q-1) k)&&(okI (pwF (q-1) 0*((k:Int)+1))&&(pwF (q-1) 0*((k:Int)+1) != 0&&(okI ((rS q k).1*qnD q k)&&(okI (sgR k*qnN q k)&&(okI (sgR k*qnN q k*(rS q k).2)&&(okI ((rS q k).1*qnD q k+sgR k*qnN q k*(rS q k).2)&&(okI ((rS q k).2*qnD q k)&&(rS q k).2*qnD q k != 0)))))))
def rEnd (q:Nat):Bool:=okI (rS q q).1&&(okI (rS q q).2&&(rS q q).2 != 0)
theorem r_ok:∀ (q:Fin 6) (k:Fin 5),1≤q.val→k.val<q.val→rOK q.val k.val=true∧rEnd q.val=true:=by decide +kernel
set_option maxRecDepth 100000
set_option maxHeartbeats 16000000
theorem rh (q:Nat) (h1:1≤q) (h5:q≤5) (w:World) :
  Calls Tryz.prog 92 #[.int .i64 q] w fun e w'=>∃ v,e=.returned v∧uu 0 w' w.heap.size v (q+1) (raN q) (raD q)∧Below w.heap.size w w':=by
 obtain ⟨iI,hI,g1,g2,g3⟩:=info_parts tj;have HI:=hid (show iI.zero=_∧iI.size=_∧iI.bytes=_ from ⟨g1,g2,g3⟩);have HI0:=hid hI;clear hI g1 g2 g3;have PR:=hid (fun W=>vO (q-1) (by omega) W);rw [show q-1+1=q by omega] at PR;have k0:IntKind.i64.wrap ((q:Int)-1)=((q-1:Nat):Int):=by rw [show ((q-1:Nat):Int)=(q:Int)-1 by omega]; exact IntWalk.i64_in _ (by omega)
 have AL:=al1 w (.cells #[.slice none 0 0,.slice none 0 0] 89);go_enter Tryz.func92,Tryz.ntmps92;go_upto_region 1 with fail
 generalize w.alloc (.cells #[.slice none 0 0,.slice none 0 0] 89)=X0 at *;generalize hB:w.heap.size=B at *;obtain ⟨x1,x2,x3⟩:=AL;have HX:=hid x1;have HBX:=hid x3;clear x1 x3;go_wp2_with fail;refine (PR.out X0).mono ?_;rintro e X ⟨Rp,cp,rfl,ho,hb⟩;have HPR:=hid ho;have HB1:=hid hb;have AL:=hid (al1 X (.cells #[.slice none 0 0,.slice none 0 0] 89));clear ho hb k0;go_upto_region 3 with fail
 generalize X.alloc (.cells #[.slice none 0 0,.slice none 0 0] 89)=Y at *;obtain ⟨P,hP⟩:∃ P,X.heap.size=P:=⟨_,rfl⟩;have HFN:=hid (show yY (rFN q) (0+1)=yY (rFN q) 0 ++ [.int .i64 0] from rfl);have HFD:=hid (show yY (rFD q) (0+1)=yY (rFD q) 0 ++ [.int .i64 1] from rfl);have HS:=hid (show kG P (.slice none 0 0) (.slice none 0 0) (.slice none 0 0) (.slice none 0 0) 0 0 (rFN q) (rFD q) X Y from ⟨hP ▸ AL.out.2.2,hP ▸ AL.out.1,World.ownsRow_nil _ _ _ _,World.ownsRow_nil _ _ _ _,fun j hj=>by cases hj⟩);have hPl:B<P:=by have:=HB1.out.size; omega
 have hRp:Rp<P:=hP ▸ HPR.out.lt.2;have hBp:X0.heap.size≤P:=hP ▸ HB1.out.size;have HPX:=hid hP;simp only [hP];clear AL hP
 go_cut [] (fun wx=>∃ vN vD,kG P vN vD vN vD (0+1) (0+1) (rFN q) (rFD q) X wx)
 case first=>
  refine yM (.op 0 1 (.op 1 3 (.op 4 1 (.op 5 3 (.alt 2 (.alt 3 (.op 8 1 (.alt 6 (.alt 7 (.alt 9 (.op 10 1 (.alt 11 .nil .stop)) .stop) .stop) .stop)) (.alt 6 (.alt 3 (.op 8 1 (.alt 7 (.alt 9 (.op 10 1 (.alt 11 .nil .stop)) .stop) .stop)) .stop) .stop)) (.alt 6 (.alt 2 (.alt 3 (.op 8 1 (.alt 7 (.alt 9 (.op 10 1 (.alt 11 .nil .stop)) .stop) .stop)) .stop) .stop) .stop)))))) [2,3,6,7,9,11] [1,5] (fun W=>W.cell? ⟨P,0,none⟩=some (.slice none 0 0)∧W.cell? ⟨P,1,none⟩=some (.slice none 0 0)) (by kernel_rfl) (by kernel_rfl) (fun _ _ d _ _ h=>by cases d<;>exact h) (⟨zf HS.out.blk 0,zf HS.out.blk 1⟩) ?_;intro Z hZ hrZ;have HS0:=hid (HS.out.step (show Below _ _ Z by rw [hZ]; exact (Below.refl _ _).drew));clear hZ hrZ HS;refine zu (fun K hK=>?_);go_simp;refine hK _ ?_;clear hK K;refine yg (v:=.slice none 0 0) rfl rfl (fun wk hwk=>?_) ?_
  ·obtain ⟨k1,k2⟩:=hwk;go_simp
  refine zu (fun K hK=>?_);go_simp;refine hK _ ?_;clear hK K;refine yg (v:=.slice none 0 0) rfl rfl (fun wk hwk=>?_) ?_
  ·obtain ⟨k1,k2⟩:=hwk;go_simp
  refine zq (fun K hK=>?_) ?_;go_simp;obtain ⟨y1,y2,hst⟩:=al1 Z (.cells #[.int .i64 0] 3);have HS2:=hid (HS0.out.step hst);have He5:=hid (show ∀ j,Value.ownBlock (.slice none 0 0)=some j→j≠Z.heap.size from fun j hj=>Nat.ne_of_lt (HS0.out.num.lt j hj).2);refine hK _ _ (fun _=>⟨zf HS2.out.blk 0,zf HS2.out.blk 1⟩) ?_;clear hK K;have Hz3:=hid y1;clear y1 y2 hst;generalize Z.alloc (.cells #[.int .i64 0] 3)=V1 at *;generalize Z.heap.size=k4 at *;refine zq (fun K hK=>?_) ?_;refine yJ rfl ?_;refine step_append_lies _ (by rfl) _ _ 22 (by rfl) (P+1) 3 iI (.int .i64 0) 1 8 Tryz.underlying22 HI0.out HI.out.1 HI.out.2.1 HI.out.2.2 rfl (by decide) _ (0) _ (by rfl) HS2.out.num ⟨k4,0,none⟩ 1 1 [.int .i64 0] (by rfl) (by rfl) (World.news_of_block (cs:=#[.int .i64 0]) (t:=3) (fr:=(0,0)) Hz3.out) (by simp [Value.oneCell']) (by omega) (by unfold maxLen; omega) (by omega) (HS2.out.lt) _ rfl ?_;intro g8 c9 V6 hown hgrow hat _;have HS7:=hid (HS2.out.appN (gg:=g8) hgrow hat (by rw [HFN.out]; exact hown));refine hK _ _ (fun _=>⟨zf HS7.out.blk 0,zf HS7.out.blk 1⟩) ?_;clear hK K hown hgrow hat;refine zu (fun K hK=>?_);go_simp;refine hK _ ?_;clear hK K;refine zq (fun K hK=>?_) ?_;go_simp;obtain ⟨y1,y2,hst⟩:=al1 V6 (.cells #[.int .i64 1] 3);have HS11:=hid (HS7.out.step hst);have He14:=hid (show ∀ j,Value.ownBlock (.slice (some ⟨g8,0,none⟩) (0+1) c9)=some j→j≠V6.heap.size from fun j hj=>Nat.ne_of_lt (HS7.out.num.lt j hj).2);refine hK _ _ (fun _=>⟨zf HS11.out.blk 0,zf HS11.out.blk 1⟩) ?_;clear hK K;have Hz12:=hid y1;clear y1 y2 hst;generalize V6.alloc (.cells #[.int .i64 1] 3)=V10 at *;generalize V6.heap.size=k13 at *;refine zq (fun K hK=>?_) ?_;refine yJ rfl ?_;refine step_append_lies _ (by rfl) _ _ 22 (by rfl) (P+1) 3 iI (.int .i64 0) 1 8 Tryz.underlying22 HI0.out HI.out.1 HI.out.2.1 HI.out.2.2 rfl (by decide) _ (0) _ (by rfl) HS11.out.den ⟨k13,0,none⟩ 1 1 [.int .i64 1] (by rfl) (by rfl) (World.news_of_block (cs:=#[.int .i64 1]) (t:=3) (fr:=(0,0)) Hz12.out) (by simp [Value.oneCell']) (by omega) (by unfold maxLen; omega) (by omega) (HS11.out.lt) _ rfl ?_;intro g17 c18 V15 hown hgrow hat _;have HS16:=hid (HS11.out.appD (gg:=g17) hgrow hat (by rw [HFD.out]; exact hown));refine hK _ _ (fun _=>⟨zf HS16.out.blk 0,zf HS16.out.blk 1⟩) ?_;clear hK K hown hgrow hat;refine zq (fun K hK=>?_) ?_;have c0:=zf HS16.out.blk 0;have f0:=zg HS16.out.blk 0;simp only [List.getElem?_toArray,List.getElem?_cons_zero] at c0;go_simp;have HS20:=hid (HS16.out.setN (.slice (some ⟨g8,0,none⟩) (0+1) c9));refine hK _ _ (fun h=>Bool.noConfusion (Eq.trans (Eq.symm (by kernel_rfl:_=false)) h)) ?_;clear hK K c0 f0;generalize V15.setCell ⟨P,0,none⟩ (.slice (some ⟨g8,0,none⟩) (0+1) c9)=V19 at *;refine zu (fun K hK=>?_);go_simp;refine hK _ ?_;clear hK K;refine zq (fun K hK=>?_) ?_;have c0:=zf HS20.out.blk 1;have f0:=zg HS20.out.blk 1;simp only [List.getElem?_toArray,List.getElem?_cons_zero,List.getElem?_cons_succ] at c0;go_simp;have HS22:=hid (HS20.out.setD (.slice (some ⟨g17,0,none⟩) (0+1) c18));refine hK _ _ (fun h=>Bool.noConfusion (Eq.trans (Eq.symm (by kernel_rfl:_=false)) h)) ?_;clear hK K c0 f0;generalize V19.setCell ⟨P,1,none⟩ (.slice (some ⟨g17,0,none⟩) (0+1) c18)=V21 at *;refine yt ?_;go_wp2_with fail;go_meet;exact ⟨_,_,HS22.out⟩;exact zt;exact zt;exact zt;exact zt;refine zq (fun K hK=>?_) ?_;go_simp;obtain ⟨y1,y2,hst⟩:=al1 V1 (.cells #[.int .i64 1] 3);have HS24:=hid (HS2.out.step hst);have Hz28:=hid ((hst.block k4 (zj Hz3.out)).trans Hz3.out);have He27:=hid (show ∀ j,Value.ownBlock (.slice none 0 0)=some j→j≠V1.heap.size from fun j hj=>Nat.ne_of_lt (HS2.out.num.lt j hj).2);refine hK _ _ (fun _=>⟨zf HS24.out.blk 0,zf HS24.out.blk 1⟩) ?_;clear hK K;have Hz25:=hid y1;clear y1 y2 hst;generalize V1.alloc (.cells #[.int .i64 1] 3)=V23 at *;generalize V1.heap.size=k26 at *;refine zq (fun K hK=>?_) ?_;refine yJ rfl ?_;refine step_append_lies _ (by rfl) _ _ 22 (by rfl) (P+1) 3 iI (.int .i64 0) 1 8 Tryz.underlying22 HI0.out HI.out.1 HI.out.2.1 HI.out.2.2 rfl (by decide) _ (0) _ (by rfl) HS24.out.num ⟨k4,0,none⟩ 1 1 [.int .i64 0] (by rfl) (by rfl) (World.news_of_block (cs:=#[.int .i64 0]) (t:=3) (fr:=(0,0)) Hz28.out) (by simp [Value.oneCell']) (by omega) (by unfold maxLen; omega) (by omega) (HS24.out.lt) _ rfl ?_;intro g31 c32 V29 hown hgrow hat _;have HS30:=hid (HS24.out.appN (gg:=g31) hgrow hat (by rw [HFN.out]; exact hown));have Hz33:=hid ((hgrow.block k26 (zj Hz25.out) (fun e=>He27.out _ e.symm rfl)).trans Hz25.out);refine hK _ _ (fun _=>⟨zf HS30.out.blk 0,zf HS30.out.blk 1⟩) ?_;clear hK K hown hgrow hat;refine zu (fun K hK=>?_);go_simp;refine hK _ ?_;clear hK K;refine zq (fun K hK=>?_) ?_;refine yJ rfl ?_;refine step_append_lies _ (by rfl) _ _ 22 (by rfl) (P+1) 3 iI (.int .i64 0) 1 8 Tryz.underlying22 HI0.out HI.out.1 HI.out.2.1 HI.out.2.2 rfl (by decide) _ (0) _ (by rfl) HS30.out.den ⟨k26,0,none⟩ 1 1 [.int .i64 1] (by rfl) (by rfl) (World.news_of_block (cs:=#[.int .i64 1]) (t:=3) (fr:=(0,0)) Hz33.out) (by simp [Value.oneCell']) (by omega) (by unfold maxLen; omega) (by omega) (HS30.out.lt) _ rfl ?_;intro g36 c37 V34 hown hgrow hat _;have HS35:=hid (HS30.out.appD (gg:=g36) hgrow hat (by rw [HFD.out]; exact hown));refine hK _ _ (fun _=>⟨zf HS35.out.blk 0,zf HS35.out.blk 1⟩) ?_;clear hK K hown hgrow hat;refine zq (fun K hK=>?_) ?_;have c0:=zf HS35.out.blk 0;have f0:=zg HS35.out.blk 0;simp only [List.getElem?_toArray,List.getElem?_cons_zero] at c0;go_simp;have HS39:=hid (HS35.out.setN (.slice (some ⟨g31,0,none⟩) (0+1) c32));refine hK _ _ (fun h=>Bool.noConfusion (Eq.trans (Eq.symm (by kernel_rfl:_=false)) h)) ?_;clear hK K c0 f0;generalize V34.setCell ⟨P,0,none⟩ (.slice (some ⟨g31,0,none⟩) (0+1) c32)=V38 at *;refine zu (fun K hK=>?_);go_simp;refine hK _ ?_;clear hK K;refine zq (fun K hK=>?_) ?_;have c0:=zf HS39.out.blk 1;have f0:=zg HS39.out.blk 1;simp only [List.getElem?_toArray,List.getElem?_cons_zero,List.getElem?_cons_succ] at c0;go_simp;have HS41:=hid (HS39.out.setD (.slice (some ⟨g36,0,none⟩) (0+1) c37));refine hK _ _ (fun h=>Bool.noConfusion (Eq.trans (Eq.symm (by kernel_rfl:_=false)) h)) ?_;clear hK K c0 f0;generalize V38.setCell ⟨P,1,none⟩ (.slice (some ⟨g36,0,none⟩) (0+1) c37)=V40 at *;refine yt ?_;go_wp2_with fail;go_meet;exact ⟨_,_,HS41.out⟩;exact zt;exact zt;exact zt;exact zt;exact zt;refine zq (fun K hK=>?_) ?_;go_simp;obtain ⟨y1,y2,hst⟩:=al1 Z (.cells #[.int .i64 1] 3);have HS43:=hid (HS0.out.step hst);have He46:=hid (show ∀ j,Value.ownBlock (.slice none 0 0)=some j→j≠Z.heap.size from fun j hj=>Nat.ne_of_lt (HS0.out.num.lt j hj).2);refine hK _ _ (fun _=>⟨zf HS43.out.blk 0,zf HS43.out.blk 1⟩) ?_;clear hK K;have Hz44:=hid y1;clear y1 y2 hst;generalize Z.alloc (.cells #[.int .i64 1] 3)=V42 at *;generalize Z.heap.size=k45 at *;refine zq (fun K hK=>?_) ?_;go_simp;obtain ⟨y1,y2,hst⟩:=al1 V42 (.cells #[.int .i64 0] 3);have HS48:=hid (HS43.out.step hst);have Hz52:=hid ((hst.block k45 (zj Hz44.out)).trans Hz44.out);have He51:=hid (show ∀ j,Value.ownBlock (.slice none 0 0)=some j→j≠V42.heap.size from fun j hj=>Nat.ne_of_lt (HS43.out.num.lt j hj).2);refine hK _ _ (fun _=>⟨zf HS48.out.blk 0,zf HS48.out.blk 1⟩) ?_;clear hK K;have Hz49:=hid y1;clear y1 y2 hst;generalize V42.alloc (.cells #[.int .i64 0] 3)=V47 at *;generalize V42.heap.size=k50 at *;refine zq (fun K hK=>?_) ?_;refine yJ rfl ?_;refine step_append_lies _ (by rfl) _ _ 22 (by rfl) (P+1) 3 iI (.int .i64 0) 1 8 Tryz.underlying22 HI0.out HI.out.1 HI.out.2.1 HI.out.2.2 rfl (by decide) _ (0) _ (by rfl) HS48.out.num ⟨k50,0,none⟩ 1 1 [.int .i64 0] (by rfl) (by rfl) (World.news_of_block (cs:=#[.int .i64 0]) (t:=3) (fr:=(0,0)) Hz49.out) (by simp [Value.oneCell']) (by omega) (by unfold maxLen; omega) (by omega) (HS48.out.lt) _ rfl ?_;intro g55 c56 V53 hown hgrow hat _;have HS54:=hid (HS48.out.appN (gg:=g55) hgrow hat (by rw [HFN.out]; exact hown));have Hz57:=hid ((hgrow.block k45 (zj Hz52.out) (fun e=>He46.out _ e.symm rfl)).trans Hz52.out);refine hK _ _ (fun _=>⟨zf HS54.out.blk 0,zf HS54.out.blk 1⟩) ?_;clear hK K hown hgrow hat;refine zu (fun K hK=>?_);go_simp;refine hK _ ?_;clear hK K;refine zq (fun K hK=>?_) ?_;refine yJ rfl ?_;refine step_append_lies _ (by rfl) _ _ 22 (by rfl) (P+1) 3 iI (.int .i64 0) 1 8 Tryz.underlying22 HI0.out HI.out.1 HI.out.2.1 HI.out.2.2 rfl (by decide) _ (0) _ (by rfl) HS54.out.den ⟨k45,0,none⟩ 1 1 [.int .i64 1] (by rfl) (by rfl) (World.news_of_block (cs:=#[.int .i64 1]) (t:=3) (fr:=(0,0)) Hz57.out) (by simp [Value.oneCell']) (by omega) (by unfold maxLen; omega) (by omega) (HS54.out.lt) _ rfl ?_;intro g60 c61 V58 hown hgrow hat _;have HS59:=hid (HS54.out.appD (gg:=g60) hgrow hat (by rw [HFD.out]; exact hown));refine hK _ _ (fun _=>⟨zf HS59.out.blk 0,zf HS59.out.blk 1⟩) ?_;clear hK K hown hgrow hat;refine zq (fun K hK=>?_) ?_;have c0:=zf HS59.out.blk 0;have f0:=zg HS59.out.blk 0;simp only [List.getElem?_toArray,List.getElem?_cons_zero] at c0;go_simp;have HS63:=hid (HS59.out.setN (.slice (some ⟨g55,0,none⟩) (0+1) c56));refine hK _ _ (fun h=>Bool.noConfusion (Eq.trans (Eq.symm (by kernel_rfl:_=false)) h)) ?_;clear hK K c0 f0;generalize V58.setCell ⟨P,0,none⟩ (.slice (some ⟨g55,0,none⟩) (0+1) c56)=V62 at *;refine zu (fun K hK=>?_);go_simp;refine hK _ ?_;clear hK K;refine zq (fun K hK=>?_) ?_;have c0:=zf HS63.out.blk 1;have f0:=zg HS63.out.blk 1;simp only [List.getElem?_toArray,List.getElem?_cons_zero,List.getElem?_cons_succ] at c0;go_simp;have HS65:=hid (HS63.out.setD (.slice (some ⟨g60,0,none⟩) (0+1) c61));refine hK _ _ (fun h=>Bool.noConfusion (Eq.trans (Eq.symm (by kernel_rfl:_=false)) h)) ?_;clear hK K c0 f0;generalize V62.setCell ⟨P,1,none⟩ (.slice (some ⟨g60,0,none⟩) (0+1) c61)=V64 at *;refine yt ?_;go_wp2_with fail;go_meet;exact ⟨_,_,HS65.out⟩;exact zt;exact zt;exact zt;exact zt;exact zt;exact zt
 case rest=>
  clear HS HFN HFD;obtain ⟨vN,vD,hS⟩:=hcut;have HS:=hid hS;clear hS;go_wp2_with fail
  go_loopw [5,6,7] (fun x y i wr=>∃ (e:Nat) (vN vD:Value),e≤q∧i=.int .i64 ((e:Int)+1)∧x=.int .i64 (rS q e).1∧y=.int .i64 (rS q e).2∧kG P vN vD vN vD (e+1) (e+1) (rFN q) (rFD q) X wr) (fun _ _ i _=>q+1-(intOf i).toNat)
  case atStart=>exact ⟨0,vN,vD,by omega,rfl,rfl,rfl,HS.out⟩
  case round=>
   clear HS;obtain ⟨e,vN,vD,he,rfl,rfl,rfl,hS⟩:=hrel;obtain ⟨aN,cN,rfl⟩:=ym hS.num;obtain ⟨aD,cD,rfl⟩:=ym hS.den;have HS:=hid hS;by_cases heq:e<q
   ·have j1:(e:Int)+1≤(q:Int):=by omega
    have j2:((e:Int)+1)-1<(q:Int):=by omega
    have hok:=r_ok ⟨q,by omega⟩ ⟨e,by omega⟩ h1 heq;simp only [rOK,Bool.and_eq_true,bne_iff_ne,ne_eq] at hok;obtain ⟨⟨o1,o2,o3,o4,o5,o6,o7,o8,o9⟩,-⟩:=hok;have LW:=hid (fun W=>(show Calls Tryz.prog 118 #[.int .i64 (pwF (q-1) e),.int .i64 (pwF (q-1) 0*((e:Int)+1))] W (fun e2 w'=>e2=.returned (.tuple #[.int .i64 (qnN q e),.int .i64 (qnD q e)])∧xp W w') from wX (pwF (q-1) e) (pwF (q-1) 0*((e:Int)+1)) (tH o1) (tH o2) o3 W));have LW2:=hid (fun W=>wX ((rS q e).1*qnD q e+sgR e*qnN q e*(rS q e).2) ((rS q e).2*qnD q e) (tH o7) (tH o8) o9 W);have RS1:=hid (lP q e);have hwr:∀ x:Int,okI x=true→IntKind.i64.wrap x=x:=fun x hx=>IntWalk.i64_in _ (by have:=oT hx; omega)
    have k1:=hwr _ o2;have KK:=hid (show _∧_∧_∧_∧_ from ⟨hwr _ o4,hwr _ o5,hwr _ o6,hwr _ o7,hwr _ o8⟩);have k2:IntKind.i64.wrap (e:Int)=(e:Int):=IntWalk.i64_in _ (by omega);have j5:(e:Int)<(q:Int):=by omega
    have j6:e<q:=heq;have bl:=hS.bel;have u1:=(bl.cell (p:=⟨Rp,e,none⟩) hRp).trans (HPR.out.cell heq);have u2:=(bl.cell (p:=⟨Rp,0,none⟩) hRp).trans (HPR.out.cell (j:=0) (by omega));have j3:(0:Int)<(q:Int):=by omega
    have j4:0<q:=by omega
    clear o1 o2 o3 o4 o5 o6 o7 o8 o9 hwr hS bl;go_upto_region 8 with fail
    refine zw [(0,1),(1,1),(2,1),(3,1),(4,2),(5,1),(6,1),(7,2),(8,1),(9,1),(10,0),(11,1),(12,1),(13,1),(14,1),(15,1)] (by kernel_rfl) (by kernel_rfl) (fun _ _ d _ _ h=>by cases d<;>exact h) ?_;intro Z hZ;have hZZ:∀ b o,Z.cell? ⟨b,o,none⟩=wr.cell? ⟨b,o,none⟩:=fun b o=>by rw [hZ]; rfl
    have HSZ:=hid (HS.out.step (show Below _ _ Z by rw [hZ]; exact (Below.refl _ _).drew));rw [← hZZ] at u1 u2;clear hZ hZZ HS
    iterate 10
     first
      | refine zd (fun K hK=>?_)
      | refine ze (fun K hK=>?_)
     go_simp;refine hK _ ?_;clear hK K
    refine zx (fun K hK=>?_);go_simp;refine (LW.out Z).mono ?_;rintro e2 w2 ⟨rfl,hd⟩;have HS:=hid (HSZ.out.step hd.below);refine hK _ _ (fun _=>hd) ?_;clear hK K hd HSZ u1 u2 k1 k2
    iterate 5
     first
      | refine zd (fun K hK=>?_)
      | refine ze (fun K hK=>?_)
     go_simp;refine hK _ ?_;clear hK K
    refine zo ?_;have HFN:=hid (show yY (rFN q) (e+1+1)=yY (rFN q) (e+1) ++ [.int .i64 (qnN q e)] from rfl);have HFD:=hid (show yY (rFD q) (e+1+1)=yY (rFD q) (e+1) ++ [.int .i64 (qnD q e)] from rfl);go_upto_region 9 with fail
    go_cut [] (fun wx=>∃ vN vD,kG P vN vD vN vD (e+1+1) (e+1+1) (rFN q) (rFD q) X wx)
    case first=>
     refine yM (.op 0 1 (.op 1 3 (.op 2 1 (.op 5 1 (.op 6 3 (.op 7 1 (.alt 3 (.alt 4 (.op 10 1 (.alt 8 (.alt 9 (.alt 11 (.op 12 1 (.alt 13 .nil .stop)) .stop) .stop) .stop)) (.alt 8 (.alt 4 (.op 10 1 (.alt 9 (.alt 11 (.op 12 1 (.alt 13 .nil .stop)) .stop) .stop)) .stop) .stop)) (.alt 8 (.alt 3 (.alt 4 (.op 10 1 (.alt 9 (.alt 11 (.op 12 1 (.alt 13 .nil .stop)) .stop) .stop)) .stop) .stop) .stop)))))))) [3,4,8,9,11,13] [1,6] (fun W=>W.cell? ⟨P,0,none⟩=some (.slice aN (e+1) cN)∧W.cell? ⟨P,1,none⟩=some (.slice aD (e+1) cD)) (by kernel_rfl) (by kernel_rfl) (fun _ _ d _ _ h=>by cases d<;>exact h) (⟨zf HS.out.blk 0,zf HS.out.blk 1⟩) ?_;intro Z hZ hrZ;have HS0:=hid (HS.out.step (show Below _ _ Z by rw [hZ]; exact (Below.refl _ _).drew));clear hZ hrZ HS;refine zu (fun K hK=>?_);go_simp;refine hK _ ?_;clear hK K;refine yg (v:=.slice aN (e+1) cN) rfl rfl (fun wk hwk=>?_) ?_
     ·obtain ⟨k1,k2⟩:=hwk;go_simp
     refine zu (fun K hK=>?_);go_simp;refine hK _ ?_;clear hK K;refine zu (fun K hK=>?_);go_simp;refine hK _ ?_;clear hK K;refine yg (v:=.slice aD (e+1) cD) rfl rfl (fun wk hwk=>?_) ?_
     ·obtain ⟨k1,k2⟩:=hwk;go_simp
     refine zu (fun K hK=>?_);go_simp;refine hK _ ?_;clear hK K;refine zq (fun K hK=>?_) ?_;go_simp;obtain ⟨y1,y2,hst⟩:=al1 Z (.cells #[.int .i64 (qnN q e)] 3);have HS2:=hid (HS0.out.step hst);have He5:=hid (show ∀ j,Value.ownBlock (.slice aN (e+1) cN)=some j→j≠Z.heap.size from fun j hj=>Nat.ne_of_lt (HS0.out.num.lt j hj).2);refine hK _ _ (fun _=>⟨zf HS2.out.blk 0,zf HS2.out.blk 1⟩) ?_;clear hK K;have Hz3:=hid y1;clear y1 y2 hst;generalize Z.alloc (.cells #[.int .i64 (qnN q e)] 3)=V1 at *;generalize Z.heap.size=k4 at *;refine zq (fun K hK=>?_) ?_;refine yJ rfl ?_;refine step_append_lies _ (by rfl) _ _ 22 (by rfl) (P+1) 3 iI (.int .i64 0) 1 8 Tryz.underlying22 HI0.out HI.out.1 HI.out.2.1 HI.out.2.2 rfl (by decide) _ ((e+1)) _ (by rfl) HS2.out.num ⟨k4,0,none⟩ 1 1 [.int .i64 (qnN q e)] (by rfl) (by rfl) (World.news_of_block (cs:=#[.int .i64 (qnN q e)]) (t:=3) (fr:=(0,0)) Hz3.out) (by simp [Value.oneCell']) (by omega) (by unfold maxLen; omega) (by omega) (HS2.out.lt) _ rfl ?_;intro g8 c9 V6 hown hgrow hat _;have HS7:=hid (HS2.out.appN (gg:=g8) hgrow hat (by rw [HFN.out]; exact hown));refine hK _ _ (fun _=>⟨zf HS7.out.blk 0,zf HS7.out.blk 1⟩) ?_;clear hK K hown hgrow hat;refine zu (fun K hK=>?_);go_simp;refine hK _ ?_;clear hK K;refine zq (fun K hK=>?_) ?_;go_simp;obtain ⟨y1,y2,hst⟩:=al1 V6 (.cells #[.int .i64 (qnD q e)] 3);have HS11:=hid (HS7.out.step hst);have He14:=hid (show ∀ j,Value.ownBlock (.slice (some ⟨g8,0,none⟩) ((e+1)+1) c9)=some j→j≠V6.heap.size from fun j hj=>Nat.ne_of_lt (HS7.out.num.lt j hj).2);refine hK _ _ (fun _=>⟨zf HS11.out.blk 0,zf HS11.out.blk 1⟩) ?_;clear hK K;have Hz12:=hid y1;clear y1 y2 hst;generalize V6.alloc (.cells #[.int .i64 (qnD q e)] 3)=V10 at *;generalize V6.heap.size=k13 at *;refine zq (fun K hK=>?_) ?_;refine yJ rfl ?_;refine step_append_lies _ (by rfl) _ _ 22 (by rfl) (P+1) 3 iI (.int .i64 0) 1 8 Tryz.underlying22 HI0.out HI.out.1 HI.out.2.1 HI.out.2.2 rfl (by decide) _ ((e+1)) _ (by rfl) HS11.out.den ⟨k13,0,none⟩ 1 1 [.int .i64 (qnD q e)] (by rfl) (by rfl) (World.news_of_block (cs:=#[.int .i64 (qnD q e)]) (t:=3) (fr:=(0,0)) Hz12.out) (by simp [Value.oneCell']) (by omega) (by unfold maxLen; omega) (by omega) (HS11.out.lt) _ rfl ?_;intro g17 c18 V15 hown hgrow hat _;have HS16:=hid (HS11.out.appD (gg:=g17) hgrow hat (by rw [HFD.out]; exact hown));refine hK _ _ (fun _=>⟨zf HS16.out.blk 0,zf HS16.out.blk 1⟩) ?_;clear hK K hown hgrow hat;refine zq (fun K hK=>?_) ?_;have c0:=zf HS16.out.blk 0;have f0:=zg HS16.out.blk 0;simp only [List.getElem?_toArray,List.getElem?_cons_zero] at c0;go_simp;have HS20:=hid (HS16.out.setN (.slice (some ⟨g8,0,none⟩) ((e+1)+1) c9));refine hK _ _ (fun h=>Bool.noConfusion (Eq.trans (Eq.symm (by kernel_rfl:_=false)) h)) ?_;clear hK K c0 f0;generalize V15.setCell ⟨P,0,none⟩ (.slice (some ⟨g8,0,none⟩) ((e+1)+1) c9)=V19 at *;refine zu (fun K hK=>?_);go_simp;refine hK _ ?_;clear hK K;refine zq (fun K hK=>?_) ?_;have c0:=zf HS20.out.blk 1;have f0:=zg HS20.out.blk 1;simp only [List.getElem?_toArray,List.getElem?_cons_zero,List.getElem?_cons_succ] at c0;go_simp;have HS22:=hid (HS20.out.setD (.slice (some ⟨g17,0,none⟩) ((e+1)+1) c18));refine hK _ _ (fun h=>Bool.noConfusion (Eq.trans (Eq.symm (by kernel_rfl:_=false)) h)) ?_;clear hK K c0 f0;generalize V19.setCell ⟨P,1,none⟩ (.slice (some ⟨g17,0,none⟩) ((e+1)+1) c18)=V21 at *;refine yt ?_;go_wp2_with fail;go_meet;exact ⟨_,_,HS22.out⟩;exact zt;exact zt;exact zt;exact zt;refine zq (fun K hK=>?_) ?_;go_simp;obtain ⟨y1,y2,hst⟩:=al1 V1 (.cells #[.int .i64 (qnD q e)] 3);have HS24:=hid (HS2.out.step hst);have Hz28:=hid ((hst.block k4 (zj Hz3.out)).trans Hz3.out);have He27:=hid (show ∀ j,Value.ownBlock (.slice aN (e+1) cN)=some j→j≠V1.heap.size from fun j hj=>Nat.ne_of_lt (HS2.out.num.lt j hj).2);refine hK _ _ (fun _=>⟨zf HS24.out.blk 0,zf HS24.out.blk 1⟩) ?_;clear hK K;have Hz25:=hid y1;clear y1 y2 hst;generalize V1.alloc (.cells #[.int .i64 (qnD q e)] 3)=V23 at *;generalize V1.heap.size=k26 at *;refine zq (fun K hK=>?_) ?_;refine yJ rfl ?_;refine step_append_lies _ (by rfl) _ _ 22 (by rfl) (P+1) 3 iI (.int .i64 0) 1 8 Tryz.underlying22 HI0.out HI.out.1 HI.out.2.1 HI.out.2.2 rfl (by decide) _ ((e+1)) _ (by rfl) HS24.out.num ⟨k4,0,none⟩ 1 1 [.int .i64 (qnN q e)] (by rfl) (by rfl) (World.news_of_block (cs:=#[.int .i64 (qnN q e)]) (t:=3) (fr:=(0,0)) Hz28.out) (by simp [Value.oneCell']) (by omega) (by unfold maxLen; omega) (by omega) (HS24.out.lt) _ rfl ?_;intro g31 c32 V29 hown hgrow hat _;have HS30:=hid (HS24.out.appN (gg:=g31) hgrow hat (by rw [HFN.out]; exact hown));have Hz33:=hid ((hgrow.block k26 (zj Hz25.out) (fun e=>He27.out _ e.symm rfl)).trans Hz25.out);refine hK _ _ (fun _=>⟨zf HS30.out.blk 0,zf HS30.out.blk 1⟩) ?_;clear hK K hown hgrow hat;refine zu (fun K hK=>?_);go_simp;refine hK _ ?_;clear hK K;refine zq (fun K hK=>?_) ?_;refine yJ rfl ?_;refine step_append_lies _ (by rfl) _ _ 22 (by rfl) (P+1) 3 iI (.int .i64 0) 1 8 Tryz.underlying22 HI0.out HI.out.1 HI.out.2.1 HI.out.2.2 rfl (by decide) _ ((e+1)) _ (by rfl) HS30.out.den ⟨k26,0,none⟩ 1 1 [.int .i64 (qnD q e)] (by rfl) (by rfl) (World.news_of_block (cs:=#[.int .i64 (qnD q e)]) (t:=3) (fr:=(0,0)) Hz33.out) (by simp [Value.oneCell']) (by omega) (by unfold maxLen; omega) (by omega) (HS30.out.lt) _ rfl ?_;intro g36 c37 V34 hown hgrow hat _;have HS35:=hid (HS30.out.appD (gg:=g36) hgrow hat (by rw [HFD.out]; exact hown));refine hK _ _ (fun _=>⟨zf HS35.out.blk 0,zf HS35.out.blk 1⟩) ?_;clear hK K hown hgrow hat;refine zq (fun K hK=>?_) ?_;have c0:=zf HS35.out.blk 0;have f0:=zg HS35.out.blk 0;simp only [List.getElem?_toArray,List.getElem?_cons_zero] at c0;go_simp;have HS39:=hid (HS35.out.setN (.slice (some ⟨g31,0,none⟩) ((e+1)+1) c32));refine hK _ _ (fun h=>Bool.noConfusion (Eq.trans (Eq.symm (by kernel_rfl:_=false)) h)) ?_;clear hK K c0 f0;generalize V34.setCell ⟨P,0,none⟩ (.slice (some ⟨g31,0,none⟩) ((e+1)+1) c32)=V38 at *;refine zu (fun K hK=>?_);go_simp;refine hK _ ?_;clear hK K;refine zq (fun K hK=>?_) ?_;have c0:=zf HS39.out.blk 1;have f0:=zg HS39.out.blk 1;simp only [List.getElem?_toArray,List.getElem?_cons_zero,List.getElem?_cons_succ] at c0;go_simp;have HS41:=hid (HS39.out.setD (.slice (some ⟨g36,0,none⟩) ((e+1)+1) c37));refine hK _ _ (fun h=>Bool.noConfusion (Eq.trans (Eq.symm (by kernel_rfl:_=false)) h)) ?_;clear hK K c0 f0;generalize V38.setCell ⟨P,1,none⟩ (.slice (some ⟨g36,0,none⟩) ((e+1)+1) c37)=V40 at *;refine yt ?_;go_wp2_with fail;go_meet;exact ⟨_,_,HS41.out⟩;exact zt;exact zt;exact zt;exact zt;exact zt;refine zq (fun K hK=>?_) ?_;go_simp;obtain ⟨y1,y2,hst⟩:=al1 Z (.cells #[.int .i64 (qnD q e)] 3);have HS43:=hid (HS0.out.step hst);have He46:=hid (show ∀ j,Value.ownBlock (.slice aN (e+1) cN)=some j→j≠Z.heap.size from fun j hj=>Nat.ne_of_lt (HS0.out.num.lt j hj).2);refine hK _ _ (fun _=>⟨zf HS43.out.blk 0,zf HS43.out.blk 1⟩) ?_;clear hK K;have Hz44:=hid y1;clear y1 y2 hst;generalize Z.alloc (.cells #[.int .i64 (qnD q e)] 3)=V42 at *;generalize Z.heap.size=k45 at *;refine zq (fun K hK=>?_) ?_;go_simp;obtain ⟨y1,y2,hst⟩:=al1 V42 (.cells #[.int .i64 (qnN q e)] 3);have HS48:=hid (HS43.out.step hst);have Hz52:=hid ((hst.block k45 (zj Hz44.out)).trans Hz44.out);have He51:=hid (show ∀ j,Value.ownBlock (.slice aN (e+1) cN)=some j→j≠V42.heap.size from fun j hj=>Nat.ne_of_lt (HS43.out.num.lt j hj).2);refine hK _ _ (fun _=>⟨zf HS48.out.blk 0,zf HS48.out.blk 1⟩) ?_;clear hK K;have Hz49:=hid y1;clear y1 y2 hst;generalize V42.alloc (.cells #[.int .i64 (qnN q e)] 3)=V47 at *;generalize V42.heap.size=k50 at *;refine zq (fun K hK=>?_) ?_;refine yJ rfl ?_;refine step_append_lies _ (by rfl) _ _ 22 (by rfl) (P+1) 3 iI (.int .i64 0) 1 8 Tryz.underlying22 HI0.out HI.out.1 HI.out.2.1 HI.out.2.2 rfl (by decide) _ ((e+1)) _ (by rfl) HS48.out.num ⟨k50,0,none⟩ 1 1 [.int .i64 (qnN q e)] (by rfl) (by rfl) (World.news_of_block (cs:=#[.int .i64 (qnN q e)]) (t:=3) (fr:=(0,0)) Hz49.out) (by simp [Value.oneCell']) (by omega) (by unfold maxLen; omega) (by omega) (HS48.out.lt) _ rfl ?_;intro g55 c56 V53 hown hgrow hat _;have HS54:=hid (HS48.out.appN (gg:=g55) hgrow hat (by rw [HFN.out]; exact hown));have Hz57:=hid ((hgrow.block k45 (zj Hz52.out) (fun e=>He46.out _ e.symm rfl)).trans Hz52.out);refine hK _ _ (fun _=>⟨zf HS54.out.blk 0,zf HS54.out.blk 1⟩) ?_;clear hK K hown hgrow hat;refine zu (fun K hK=>?_);go_simp;refine hK _ ?_;clear hK K;refine zq (fun K hK=>?_) ?_;refine yJ rfl ?_;refine step_append_lies _ (by rfl) _ _ 22 (by rfl) (P+1) 3 iI (.int .i64 0) 1 8 Tryz.underlying22 HI0.out HI.out.1 HI.out.2.1 HI.out.2.2 rfl (by decide) _ ((e+1)) _ (by rfl) HS54.out.den ⟨k45,0,none⟩ 1 1 [.int .i64 (qnD q e)] (by rfl) (by rfl) (World.news_of_block (cs:=#[.int .i64 (qnD q e)]) (t:=3) (fr:=(0,0)) Hz57.out) (by simp [Value.oneCell']) (by omega) (by unfold maxLen; omega) (by omega) (HS54.out.lt) _ rfl ?_;intro g60 c61 V58 hown hgrow hat _;have HS59:=hid (HS54.out.appD (gg:=g60) hgrow hat (by rw [HFD.out]; exact hown));refine hK _ _ (fun _=>⟨zf HS59.out.blk 0,zf HS59.out.blk 1⟩) ?_;clear hK K hown hgrow hat;refine zq (fun K hK=>?_) ?_;have c0:=zf HS59.out.blk 0;have f0:=zg HS59.out.blk 0;simp only [List.getElem?_toArray,List.getElem?_cons_zero] at c0;go_simp;have HS63:=hid (HS59.out.setN (.slice (some ⟨g55,0,none⟩) ((e+1)+1) c56));refine hK _ _ (fun h=>Bool.noConfusion (Eq.trans (Eq.symm (by kernel_rfl:_=false)) h)) ?_;clear hK K c0 f0;generalize V58.setCell ⟨P,0,none⟩ (.slice (some ⟨g55,0,none⟩) ((e+1)+1) c56)=V62 at *;refine zu (fun K hK=>?_);go_simp;refine hK _ ?_;clear hK K;refine zq (fun K hK=>?_) ?_;have c0:=zf HS63.out.blk 1;have f0:=zg HS63.out.blk 1;simp only [List.getElem?_toArray,List.getElem?_cons_zero,List.getElem?_cons_succ] at c0;go_simp;have HS65:=hid (HS63.out.setD (.slice (some ⟨g60,0,none⟩) ((e+1)+1) c61));refine hK _ _ (fun h=>Bool.noConfusion (Eq.trans (Eq.symm (by kernel_rfl:_=false)) h)) ?_;clear hK K c0 f0;generalize V62.setCell ⟨P,1,none⟩ (.slice (some ⟨g60,0,none⟩) ((e+1)+1) c61)=V64 at *;refine yt ?_;go_wp2_with fail;go_meet;exact ⟨_,_,HS65.out⟩;exact zt;exact zt;exact zt;exact zt;exact zt;exact zt
    case rest=>
     clear HS HFN HFD;obtain ⟨vN,vD,hS⟩:=hcut;have HS:=hid hS;clear hS
     go_upto_if 57 with fail
     go_cut [10] (fun v wx=>v=.int .i64 (sgR e)∧wx=wc)
     case first=>
      by_cases hp:(e+1) % 2=1
      ·have hq:(((e:Int)+1) % 2==1)=true:=by
        have:((e:Int)+1) % 2=1:=by omega
        simpa using this
       have hsg:=hid (show sgR e=-1 by unfold sgR; rw [if_pos hp]);clear hp;go_wp2_with fail;go_meet;exact ⟨by rw [hsg.out],rfl⟩
      ·have hq:(((e:Int)+1) % 2==1)=false:=by
        have:¬ ((e:Int)+1) % 2=1:=by omega
        simpa using this
       have hsg:=hid (show sgR e=1 by unfold sgR; rw [if_neg hp]);clear hp;go_wp2_with fail;go_meet;exact ⟨by rw [hsg.out],rfl⟩
     case rest=>
      obtain ⟨rfl,rfl⟩:=hcut;obtain ⟨k1,k2,k3,k4,k5⟩:=KK.out;go_wp2_with fail;refine (LW2.out _).mono ?_;rintro e2 w3 ⟨rfl,hd⟩;have HSF:=hid (HS.out.step hd.below);clear hd HS k1 k2 k3 k4 k5;go_wp2_with fail
      go_roundw
      case rel=>exact ⟨e+1,vN,vD,by omega,by go_num,by rw [RS1.out],by rw [RS1.out],HSF.out⟩
      case measure=>simp [intOf]; omega
   ·obtain rfl:e=q:=by omega
    have hok:=(r_ok ⟨e,by omega⟩ ⟨0,by omega⟩ h1 (by show 0<e; omega)).2;simp only [rEnd,Bool.and_eq_true,bne_iff_ne,ne_eq] at hok;obtain ⟨o1,o2,o3⟩:=hok;have b1:=oT o1;have k1:IntKind.i64.wrap (-(rS e e).1)=-(rS e e).1:=IntWalk.i64_in _ (by omega);have LW:=hid (fun W=>(show Calls Tryz.prog 118 #[.int .i64 (-(rS e e).1),.int .i64 (rS e e).2] W (fun e2 w'=>e2=.returned (.tuple #[.int .i64 (raN e 0),.int .i64 (raD e 0)])∧xp W w') from wX (-(rS e e).1) (rS e e).2 (by unfold Sml; omega) (tH o2) o3 W))
    obtain ⟨gN,rfl⟩:∃ b,aN=some ⟨b,0,none⟩:=by
     rcases hS.num.2 with ⟨hv,h0⟩ | ⟨b,c,cur,hv,-⟩
     ·simp at hv
     ·simp only [Value.slice.injEq] at hv;exact ⟨b,hv.1⟩
    obtain ⟨gD,rfl⟩:∃ b,aD=some ⟨b,0,none⟩:=by
     rcases hS.den.2 with ⟨hv,h0⟩ | ⟨b,c,cur,hv,-⟩
     ·simp at hv
     ·simp only [Value.slice.injEq] at hv;exact ⟨b,hv.1⟩
    have hne:gN≠gD:=fun e2=>hS.ne gN rfl (by rw [e2]; rfl)
    have hlN:=hS.num.lt gN rfl;have hlD:=hS.den.lt gD rfl;have HT:=hid (show yh wr (P+1) gN (e+1) cN (rFN e)∧yh wr (P+1) gD (e+1) cD (rFD e)∧wr.heap[P]? = some (.cells #[.slice (some ⟨gN,0,none⟩) (e+1) cN,.slice (some ⟨gD,0,none⟩) (e+1) cD] 89)∧Below P X wr from ⟨⟨_,hS.num,fun j hj=>xz _ hj⟩,⟨_,hS.den,fun j hj=>xz _ hj⟩,hS.blk,hS.bel⟩);have p0:=zf hS.blk 0;have p1:=zf hS.blk 1;simp only [List.getElem?_toArray,List.getElem?_cons_zero,List.getElem?_cons_succ] at p0 p1;have n0:=HT.out.1.cell (j:=0) (by omega);have d0:=HT.out.2.1.cell (j:=0) (by omega);have fN:=HT.out.1.free 0;have fD:=HT.out.2.1.free 0;have j1:¬ (e:Int)+1≤(e:Int):=by omega
    have j2:(0:Int)<(e:Int)+1:=by omega
    clear o1 o2 o3 b1 hS HS;go_upto_region 14 with fail
    refine zv [(0,1),(1,2),(2,1),(3,3),(4,1),(5,1),(6,1),(7,0),(8,1),(9,1),(10,1),(11,1),(12,0),(13,1),(14,0)] (fun W=>W.cell? ⟨P,1,none⟩=some (.slice (some ⟨gD,0,none⟩) (e+1) cD)) (by kernel_rfl) (by kernel_rfl) (fun _ _ d _ _ h=>by cases d<;>exact h) (p1) ?_;intro Z hZ hrZ;have hZZ:∀ b o,Z.cell? ⟨b,o,none⟩=wr.cell? ⟨b,o,none⟩:=fun b o=>by rw [hZ]; rfl
    have hzf:∀ b o,Z.frozen? ⟨b,o,none⟩=wr.frozen? ⟨b,o,none⟩:=fun b o=>by rw [hZ]; rfl
    have HZ:=hid (show yh Z (P+1) gN (e+1) cN (rFN e)∧yh Z (P+1) gD (e+1) cD (rFD e)∧Z.heap[P]? = some (.cells #[.slice (some ⟨gN,0,none⟩) (e+1) cN,.slice (some ⟨gD,0,none⟩) (e+1) cD] 89)∧Below P X Z by rw [hZ]; exact ⟨HT.out.1.drew,HT.out.2.1.drew,HT.out.2.2.1,HT.out.2.2.2.drew⟩);rw [← hZZ] at p0 n0 d0;rw [← hzf] at fN fD;clear hZ hZZ hzf HT p1
    iterate 3
     first
      | refine zd (fun K hK=>?_)
      | refine ze (fun K hK=>?_)
     go_simp;refine hK _ ?_;clear hK K
    refine zh (v:=.slice (some ⟨gD,0,none⟩) (e+1) cD) rfl rfl (fun wk hwk=>?_) ?_
    ·go_simp
    iterate 3
     first
      | refine zd (fun K hK=>?_)
      | refine ze (fun K hK=>?_)
     go_simp;refine hK _ ?_;clear hK K
    refine zm (fun K hK=>?_);go_simp;refine (LW.out Z).mono ?_;rintro e2 V ⟨rfl,hd⟩;have hVV:∀ b o,V.cell? ⟨b,o,none⟩=Z.cell? ⟨b,o,none⟩:=fun b o=>by obtain ⟨nd,rfl⟩:=hd; rfl
    have hvf:∀ b o,V.frozen? ⟨b,o,none⟩=Z.frozen? ⟨b,o,none⟩:=fun b o=>by obtain ⟨nd,rfl⟩:=hd; rfl
    have HV:=hid (show yh V (P+1) gN (e+1) cN (rFN e)∧yh V (P+1) gD (e+1) cD (rFD e)∧V.heap[P]? = some (.cells #[.slice (some ⟨gN,0,none⟩) (e+1) cN,.slice (some ⟨gD,0,none⟩) (e+1) cD] 89)∧Below P X V by obtain ⟨nd,rfl⟩:=hd; exact ⟨HZ.out.1.drewN nd,HZ.out.2.1.drewN nd,HZ.out.2.2.1,below_drewN HZ.out.2.2.2 nd⟩);rw [← hVV] at hrZ n0 d0;rw [← hvf] at fN fD;refine hK _ _ (fun _=>hd) (fun _=>hrZ) ?_;clear hK K hd hVV hvf HZ p0
    iterate 4
     first
      | refine zd (fun K hK=>?_)
      | refine ze (fun K hK=>?_)
     go_simp;refine hK _ ?_;clear hK K
    have HY:=hid (show yh (V.setCell ⟨gN,0,none⟩ (.int .i64 (raN e 0))) (P+1) gN (e+1) cN (raN e)∧yh (V.setCell ⟨gN,0,none⟩ (.int .i64 (raN e 0))) (P+1) gD (e+1) cD (rFD e)∧(V.setCell ⟨gN,0,none⟩ (.int .i64 (raN e 0))).heap[P]? = some (.cells #[.slice (some ⟨gN,0,none⟩) (e+1) cN,.slice (some ⟨gD,0,none⟩) (e+1) cD] 89)∧Below P X (V.setCell ⟨gN,0,none⟩ (.int .i64 (raN e 0))) from
     ⟨(HV.out.1.set (by omega) _).congr (fun i hi=>by
      by_cases h:i=0
      ·subst h; rw [zL]
      ·rw [zG _ _ h]; unfold rFN raN; rw [if_neg h,if_neg h]),HV.out.2.1.other hne _,(Below.heap_setCell _ _ _ _ (show P≠gN by omega)).trans HV.out.2.2.1,HV.out.2.2.2.setCell (p:=⟨gN,0,none⟩) (by show P≤gN; omega) _⟩)
    have p1:=zf HY.out.2.2.1 1;have d1:=HY.out.2.1.cell (j:=0) (by omega);have fE:=HY.out.2.1.free 0;simp only [List.getElem?_toArray,List.getElem?_cons_zero,List.getElem?_cons_succ] at p1;refine zm (fun K hK=>?_);go_simp;refine hK _ _ (fun h=>Bool.noConfusion (Eq.trans (Eq.symm (by kernel_rfl:_=false)) h)) (fun _=>p1) ?_;clear hK K;generalize V.setCell ⟨gN,0,none⟩ (.int .i64 (raN e 0))=Y2 at *;clear n0 d0 fN fD hrZ HV p1
    iterate 1
     first
      | refine zd (fun K hK=>?_)
      | refine ze (fun K hK=>?_)
     go_simp;refine hK _ ?_;clear hK K
    have HW:=hid (show yh (Y2.setCell ⟨gD,0,none⟩ (.int .i64 (raD e 0))) (P+1) gN (e+1) cN (raN e)∧yh (Y2.setCell ⟨gD,0,none⟩ (.int .i64 (raD e 0))) (P+1) gD (e+1) cD (raD e)∧(Y2.setCell ⟨gD,0,none⟩ (.int .i64 (raD e 0))).heap[P]? = some (.cells #[.slice (some ⟨gN,0,none⟩) (e+1) cN,.slice (some ⟨gD,0,none⟩) (e+1) cD] 89)∧Below P X (Y2.setCell ⟨gD,0,none⟩ (.int .i64 (raD e 0))) from
     ⟨HY.out.1.other (fun h=>hne h.symm) _,(HY.out.2.1.set (by omega) _).congr (fun i hi=>by
      by_cases h:i=0
      ·subst h; rw [zL]
      ·rw [zG _ _ h]; unfold rFD raD; rw [if_neg h,if_neg h]),(Below.heap_setCell _ _ _ _ (show P≠gD by omega)).trans HY.out.2.2.1,HY.out.2.2.2.setCell (p:=⟨gD,0,none⟩) (by show P≤gD; omega) _⟩)
    refine zm (fun K hK=>?_);go_simp;refine hK _ _ (fun h=>Bool.noConfusion (Eq.trans (Eq.symm (by kernel_rfl:_=false)) h)) (fun h=>Bool.noConfusion (Eq.trans (Eq.symm (by kernel_rfl:_=false)) h)) ?_;clear hK K;refine zo ?_;generalize Y2.setCell ⟨gD,0,none⟩ (.int .i64 (raD e 0))=V2 at *;clear d1 fE HY;have hPX:=HPX.out;have hbX:Below X0.heap.size X0 V2:=HB1.out.trans (HW.out.2.2.2.mono hBp);have hRB:=(hbX.block B (by omega)).trans HX.out;have hrow:=qA hRB #[.slice (some ⟨gN,0,none⟩) (e+1) cN,.slice (some ⟨gD,0,none⟩) (e+1) cD];have HRX:=hid hRB;have HRR:=hid hrow.2.1;have HKR:=hid hrow.1;have HBF:=hid (HBX.out.trans (hbX.mono (by omega)));clear hRB hrow hbX hPX
    go_wp2_with (first
     | (refine wpList_load_row rfl 89 _ rfl P rfl 89 #[.slice (some ⟨gN,0,none⟩) (e+1) cN,.slice (some ⟨gD,0,none⟩) (e+1) cD] _ _ HW.out.2.2.1 Tryz.underlying89 rfl (by kernel_rfl) ?_)
     | (refine wpList_store_row rfl 89 _ _ rfl B #[.slice (some ⟨gN,0,none⟩) (e+1) cN,.slice (some ⟨gD,0,none⟩) (e+1) cD] rfl rfl 89 _ HRX.out (by kernel_rfl) rfl (by simp [Value.oneCell']) ?_)
     | fail)
    refine tS 2 89 Tryz.results92 B 89 #[.slice (some ⟨gN,0,none⟩) (e+1) cN,.slice (some ⟨gD,0,none⟩) (e+1) cD] _ rfl HRR.out Tryz.underlying89 rfl (by kernel_rfl) rfl ?_;refine ⟨_,rfl,⟨rfl,gN,gD,cN,cD,rfl,?_,?_⟩,hB ▸ HKR.out.below HBF.out (Nat.le_refl B) (by have:=HBF.out.size; omega)⟩
    ·exact ((HW.out.1.base (b':=B) (by omega)).kept (HKR.out.block gN (HW.out.1.lt.2) (by omega)))
    ·exact ((HW.out.2.1.base (b':=B) (by omega)).kept (HKR.out.block gD (HW.out.2.1.lt.2) (by omega)))
end Go.Proofs.YtnlbafjmbamoeaaGreat
namespace Go.Proofs.YtnlbafjmbamoeaaGreat
open Go.RowKit Lib
open Ieee (double)
attribute [local go_sem] zr zi zy zn zU zS zW zX zV zY zD zH zI zJ zK zB ye z8 zF yE
def bN (q k:Nat):Int:=pJ (pwF q k) (pwF q 1)
def bD (q k:Nat):Int:=pK (pwF q k) (pwF q 1)
theorem b_ok:∀ (q:Fin 6),1≤q.val→pwF q.val 1≠0:=by decide +kernel
set_option maxRecDepth 100000
set_option maxHeartbeats 16000000
theorem qB (q:Nat) (h1:1≤q) (h5:q≤5) (w:World) :
  Calls Tryz.prog 93 #[.int .i64 q] w fun e w'=>∃ v,e=.returned v∧uu 0 w' w.heap.size v (q+1) (bN q) (bD q)∧Below w.heap.size w w':=by
 obtain ⟨iI,hI,g1,g2,g3⟩:=info_parts tj;have HI:=hid (show iI.zero=_∧iI.size=_∧iI.bytes=_ from ⟨g1,g2,g3⟩);have HI0:=hid hI;clear hI g1 g2 g3;have PR:=hid (fun W=>vO q h5 W);have AL:=al1 w (.cells #[.slice none 0 0,.slice none 0 0] 89);go_enter Tryz.func93,Tryz.ntmps93;go_upto_region 1 with fail
 generalize w.alloc (.cells #[.slice none 0 0,.slice none 0 0] 89)=X0 at *;generalize hB:w.heap.size=B at *;obtain ⟨x1,x2,x3⟩:=AL;have HX:=hid x1;have HBX:=hid x3;clear x1 x3;go_wp2_with fail;refine (PR.out X0).mono ?_;rintro e X ⟨Rp,cp,rfl,ho,hb⟩;have HPR:=hid ho;have HB1:=hid hb;have AL:=hid (al1 X (.cells #[.slice none 0 0,.slice none 0 0] 89));clear ho hb;go_upto_region 3 with fail
 generalize X.alloc (.cells #[.slice none 0 0,.slice none 0 0] 89)=Y at *;obtain ⟨P,hP⟩:∃ P,X.heap.size=P:=⟨_,rfl⟩;have HS:=hid (show kG P (.slice none 0 0) (.slice none 0 0) (.slice none 0 0) (.slice none 0 0) 0 0 (bN q) (bD q) X Y from ⟨hP ▸ AL.out.2.2,hP ▸ AL.out.1,World.ownsRow_nil _ _ _ _,World.ownsRow_nil _ _ _ _,fun j hj=>by cases hj⟩);have hPl:B<P:=by have:=HB1.out.size; omega
 have hRp:Rp<P:=hP ▸ HPR.out.lt.2;have hBp:X0.heap.size≤P:=hP ▸ HB1.out.size;have HPX:=hid hP;simp only [hP];clear AL hP;go_wp2_with fail
 go_loopw [5] (fun i wr=>∃ (e:Nat) (vN vD:Value),e≤q+1∧i=.int .i64 e∧kG P vN vD vN vD e e (bN q) (bD q) X wr) (fun i _=>q+1-(intOf i).toNat)
 case atStart=>exact ⟨0,_,_,by omega,rfl,HS.out⟩
 case round=>
  clear HS;obtain ⟨e,vN,vD,he,rfl,hS⟩:=hrel;obtain ⟨aN,cN,rfl⟩:=ym hS.num;obtain ⟨aD,cD,rfl⟩:=ym hS.den;have HS:=hid hS;by_cases heq:e≤q
  ·have j1:(e:Int)≤(q:Int):=by omega
   have hs1:∀ k,k≤q→Sml (pwF q k):=fun k hk=>by have:=vX (i:=q) (j:=k) (by omega) (by omega); unfold Sml; omega
   have LW:=hid (fun W=>(show Calls Tryz.prog 118 #[.int .i64 (pwF q e),.int .i64 (pwF q 1)] W (fun e2 w'=>e2=.returned (.tuple #[.int .i64 (bN q e),.int .i64 (bD q e)])∧xp W w') from wX (pwF q e) (pwF q 1) (hs1 e heq) (hs1 1 h1) (b_ok ⟨q,by omega⟩ h1) W));have bl:=hS.bel;have u1:=(bl.cell (p:=⟨Rp,e,none⟩) hRp).trans (HPR.out.cell (j:=e) (by omega));have u2:=(bl.cell (p:=⟨Rp,1,none⟩) hRp).trans (HPR.out.cell (j:=1) (by omega));have j3:(1:Int)<(q:Int)+1:=by omega
   have j4:1<q+1:=by omega
   have j5:(e:Int)<(q:Int)+1:=by omega
   have j6:0<q:=by omega
   have j7:e<q+1:=by omega
   clear hs1 hS bl;go_upto_region 6 with fail
   refine zw [(0,1),(1,1),(2,1),(3,2),(4,1),(5,1),(6,2),(7,0),(8,1),(9,1),(10,1),(11,1),(12,1)] (by kernel_rfl) (by kernel_rfl) (fun _ _ d _ _ h=>by cases d<;>exact h) ?_;intro Z hZ;have hZZ:∀ b o,Z.cell? ⟨b,o,none⟩=wr.cell? ⟨b,o,none⟩:=fun b o=>by rw [hZ]; rfl
   have HSZ:=hid (HS.out.step (show Below _ _ Z by rw [hZ]; exact (Below.refl _ _).drew));rw [← hZZ] at u1 u2;clear hZ hZZ HS
   iterate 7
    first
     | refine zd (fun K hK=>?_)
     | refine ze (fun K hK=>?_)
    go_simp;refine hK _ ?_;clear hK K
   refine zx (fun K hK=>?_);go_simp;refine (LW.out Z).mono ?_;rintro e2 w2 ⟨rfl,hd⟩;have HS:=hid (HSZ.out.step hd.below);refine hK _ _ (fun _=>hd) ?_;clear hK K hd HSZ u1 u2
   iterate 5
    first
     | refine zd (fun K hK=>?_)
     | refine ze (fun K hK=>?_)
    go_simp;refine hK _ ?_;clear hK K
   refine zo ?_;have HFN:=hid (show yY (bN q) (e+1)=yY (bN q) e ++ [.int .i64 (bN q e)] from rfl);have HFD:=hid (show yY (bD q) (e+1)=yY (bD q) e ++ [.int .i64 (bD q e)] from rfl);go_upto_region 7 with fail
   refine yM (.op 0 1 (.op 1 3 (.op 2 1 (.op 5 1 (.op 6 3 (.op 7 1 (.alt 3 (.alt 4 (.op 10 1 (.alt 8 (.alt 9 (.alt 11 (.op 12 1 (.alt 13 .nil .stop)) .stop) .stop) .stop)) (.alt 8 (.alt 4 (.op 10 1 (.alt 9 (.alt 11 (.op 12 1 (.alt 13 .nil .stop)) .stop) .stop)) .stop) .stop)) (.alt 8 (.alt 3 (.alt 4 (.op 10 1 (.alt 9 (.alt 11 (.op 12 1 (.alt 13 .nil .stop)) .stop) .stop)) .stop) .stop) .stop)))))))) [3,4,8,9,11,13] [1,6] (fun W=>W.cell? ⟨P,0,none⟩=some (.slice aN e cN)∧W.cell? ⟨P,1,none⟩=some (.slice aD e cD)) (by kernel_rfl) (by kernel_rfl) (fun _ _ d _ _ h=>by cases d<;>exact h) (⟨zf HS.out.blk 0,zf HS.out.blk 1⟩) ?_;intro Z hZ hrZ;have HS0:=hid (HS.out.step (show Below _ _ Z by rw [hZ]; exact (Below.refl _ _).drew));clear hZ hrZ HS;refine zu (fun K hK=>?_);go_simp;refine hK _ ?_;clear hK K;refine yg (v:=.slice aN e cN) rfl rfl (fun wk hwk=>?_) ?_
   ·obtain ⟨k1,k2⟩:=hwk;go_simp
   refine zu (fun K hK=>?_);go_simp;refine hK _ ?_;clear hK K;refine zu (fun K hK=>?_);go_simp;refine hK _ ?_;clear hK K;refine yg (v:=.slice aD e cD) rfl rfl (fun wk hwk=>?_) ?_
   ·obtain ⟨k1,k2⟩:=hwk;go_simp
   refine zu (fun K hK=>?_);go_simp;refine hK _ ?_;clear hK K;refine zq (fun K hK=>?_) ?_;go_simp;obtain ⟨y1,y2,hst⟩:=al1 Z (.cells #[.int .i64 (bN q e)] 3);have HS2:=hid (HS0.out.step hst);have He5:=hid (show ∀ j,Value.ownBlock (.slice aN e cN)=some j→j≠Z.heap.size from fun j hj=>Nat.ne_of_lt (HS0.out.num.lt j hj).2);refine hK _ _ (fun _=>⟨zf HS2.out.blk 0,zf HS2.out.blk 1⟩) ?_;clear hK K;have Hz3:=hid y1;clear y1 y2 hst;generalize Z.alloc (.cells #[.int .i64 (bN q e)] 3)=V1 at *;generalize Z.heap.size=k4 at *;refine zq (fun K hK=>?_) ?_;refine yJ rfl ?_;refine step_append_lies _ (by rfl) _ _ 22 (by rfl) (P+1) 3 iI (.int .i64 0) 1 8 Tryz.underlying22 HI0.out HI.out.1 HI.out.2.1 HI.out.2.2 rfl (by decide) _ (e) _ (by rfl) HS2.out.num ⟨k4,0,none⟩ 1 1 [.int .i64 (bN q e)] (by rfl) (by rfl) (World.news_of_block (cs:=#[.int .i64 (bN q e)]) (t:=3) (fr:=(0,0)) Hz3.out) (by simp [Value.oneCell']) (by omega) (by unfold maxLen; omega) (by omega) (HS2.out.lt) _ rfl ?_;intro g8 c9 V6 hown hgrow hat _;have HS7:=hid (HS2.out.appN (gg:=g8) hgrow hat (by rw [HFN.out]; exact hown));refine hK _ _ (fun _=>⟨zf HS7.out.blk 0,zf HS7.out.blk 1⟩) ?_;clear hK K hown hgrow hat;refine zu (fun K hK=>?_);go_simp;refine hK _ ?_;clear hK K;refine zq (fun K hK=>?_) ?_;go_simp;obtain ⟨y1,y2,hst⟩:=al1 V6 (.cells #[.int .i64 (bD q e)] 3);have HS11:=hid (HS7.out.step hst);have He14:=hid (show ∀ j,Value.ownBlock (.slice (some ⟨g8,0,none⟩) (e+1) c9)=some j→j≠V6.heap.size from fun j hj=>Nat.ne_of_lt (HS7.out.num.lt j hj).2);refine hK _ _ (fun _=>⟨zf HS11.out.blk 0,zf HS11.out.blk 1⟩) ?_;clear hK K;have Hz12:=hid y1;clear y1 y2 hst;generalize V6.alloc (.cells #[.int .i64 (bD q e)] 3)=V10 at *;generalize V6.heap.size=k13 at *;refine zq (fun K hK=>?_) ?_;refine yJ rfl ?_;refine step_append_lies _ (by rfl) _ _ 22 (by rfl) (P+1) 3 iI (.int .i64 0) 1 8 Tryz.underlying22 HI0.out HI.out.1 HI.out.2.1 HI.out.2.2 rfl (by decide) _ (e) _ (by rfl) HS11.out.den ⟨k13,0,none⟩ 1 1 [.int .i64 (bD q e)] (by rfl) (by rfl) (World.news_of_block (cs:=#[.int .i64 (bD q e)]) (t:=3) (fr:=(0,0)) Hz12.out) (by simp [Value.oneCell']) (by omega) (by unfold maxLen; omega) (by omega) (HS11.out.lt) _ rfl ?_;intro g17 c18 V15 hown hgrow hat _;have HS16:=hid (HS11.out.appD (gg:=g17) hgrow hat (by rw [HFD.out]; exact hown));refine hK _ _ (fun _=>⟨zf HS16.out.blk 0,zf HS16.out.blk 1⟩) ?_;clear hK K hown hgrow hat;refine zq (fun K hK=>?_) ?_;have c0:=zf HS16.out.blk 0;have f0:=zg HS16.out.blk 0;simp only [List.getElem?_toArray,List.getElem?_cons_zero] at c0;go_simp;have HS20:=hid (HS16.out.setN (.slice (some ⟨g8,0,none⟩) (e+1) c9));refine hK _ _ (fun h=>Bool.noConfusion (Eq.trans (Eq.symm (by kernel_rfl:_=false)) h)) ?_;clear hK K c0 f0;generalize V15.setCell ⟨P,0,none⟩ (.slice (some ⟨g8,0,none⟩) (e+1) c9)=V19 at *;refine zu (fun K hK=>?_);go_simp;refine hK _ ?_;clear hK K;refine zq (fun K hK=>?_) ?_;have c0:=zf HS20.out.blk 1;have f0:=zg HS20.out.blk 1;simp only [List.getElem?_toArray,List.getElem?_cons_zero,List.getElem?_cons_succ] at c0;go_simp;have HS22:=hid (HS20.out.setD (.slice (some ⟨g17,0,none⟩) (e+1) c18));refine hK _ _ (fun h=>Bool.noConfusion (Eq.trans (Eq.symm (by kernel_rfl:_=false)) h)) ?_;clear hK K c0 f0;generalize V19.setCell ⟨P,1,none⟩ (.slice (some ⟨g17,0,none⟩) (e+1) c18)=V21 at *;refine yt ?_;go_wp2_with fail
   go_roundw
   case rel=>exact ⟨e+1,_,_,by omega,by go_num,HS22.out⟩
   case measure=>simp [intOf]; omega
   exact zt;exact zt;exact zt;exact zt;refine zq (fun K hK=>?_) ?_;go_simp;obtain ⟨y1,y2,hst⟩:=al1 V1 (.cells #[.int .i64 (bD q e)] 3);have HS24:=hid (HS2.out.step hst);have Hz28:=hid ((hst.block k4 (zj Hz3.out)).trans Hz3.out);have He27:=hid (show ∀ j,Value.ownBlock (.slice aN e cN)=some j→j≠V1.heap.size from fun j hj=>Nat.ne_of_lt (HS2.out.num.lt j hj).2);refine hK _ _ (fun _=>⟨zf HS24.out.blk 0,zf HS24.out.blk 1⟩) ?_;clear hK K;have Hz25:=hid y1;clear y1 y2 hst;generalize V1.alloc (.cells #[.int .i64 (bD q e)] 3)=V23 at *;generalize V1.heap.size=k26 at *;refine zq (fun K hK=>?_) ?_;refine yJ rfl ?_;refine step_append_lies _ (by rfl) _ _ 22 (by rfl) (P+1) 3 iI (.int .i64 0) 1 8 Tryz.underlying22 HI0.out HI.out.1 HI.out.2.1 HI.out.2.2 rfl (by decide) _ (e) _ (by rfl) HS24.out.num ⟨k4,0,none⟩ 1 1 [.int .i64 (bN q e)] (by rfl) (by rfl) (World.news_of_block (cs:=#[.int .i64 (bN q e)]) (t:=3) (fr:=(0,0)) Hz28.out) (by simp [Value.oneCell']) (by omega) (by unfold maxLen; omega) (by omega) (HS24.out.lt) _ rfl ?_;intro g31 c32 V29 hown hgrow hat _;have HS30:=hid (HS24.out.appN (gg:=g31) hgrow hat (by rw [HFN.out]; exact hown));have Hz33:=hid ((hgrow.block k26 (zj Hz25.out) (fun e=>He27.out _ e.symm rfl)).trans Hz25.out);refine hK _ _ (fun _=>⟨zf HS30.out.blk 0,zf HS30.out.blk 1⟩) ?_;clear hK K hown hgrow hat;refine zu (fun K hK=>?_);go_simp;refine hK _ ?_;clear hK K;refine zq (fun K hK=>?_) ?_;refine yJ rfl ?_;refine step_append_lies _ (by rfl) _ _ 22 (by rfl) (P+1) 3 iI (.int .i64 0) 1 8 Tryz.underlying22 HI0.out HI.out.1 HI.out.2.1 HI.out.2.2 rfl (by decide) _ (e) _ (by rfl) HS30.out.den ⟨k26,0,none⟩ 1 1 [.int .i64 (bD q e)] (by rfl) (by rfl) (World.news_of_block (cs:=#[.int .i64 (bD q e)]) (t:=3) (fr:=(0,0)) Hz33.out) (by simp [Value.oneCell']) (by omega) (by unfold maxLen; omega) (by omega) (HS30.out.lt) _ rfl ?_;intro g36 c37 V34 hown hgrow hat _;have HS35:=hid (HS30.out.appD (gg:=g36) hgrow hat (by rw [HFD.out]; exact hown));refine hK _ _ (fun _=>⟨zf HS35.out.blk 0,zf HS35.out.blk 1⟩) ?_;clear hK K hown hgrow hat;refine zq (fun K hK=>?_) ?_;have c0:=zf HS35.out.blk 0;have f0:=zg HS35.out.blk 0;simp only [List.getElem?_toArray,List.getElem?_cons_zero] at c0;go_simp;have HS39:=hid (HS35.out.setN (.slice (some ⟨g31,0,none⟩) (e+1) c32));refine hK _ _ (fun h=>Bool.noConfusion (Eq.trans (Eq.symm (by kernel_rfl:_=false)) h)) ?_;clear hK K c0 f0;generalize V34.setCell ⟨P,0,none⟩ (.slice (some ⟨g31,0,none⟩) (e+1) c32)=V38 at *;refine zu (fun K hK=>?_);go_simp;refine hK _ ?_;clear hK K;refine zq (fun K hK=>?_) ?_;have c0:=zf HS39.out.blk 1;have f0:=zg HS39.out.blk 1;simp only [List.getElem?_toArray,List.getElem?_cons_zero,List.getElem?_cons_succ] at c0;go_simp;have HS41:=hid (HS39.out.setD (.slice (some ⟨g36,0,none⟩) (e+1) c37));refine hK _ _ (fun h=>Bool.noConfusion (Eq.trans (Eq.symm (by kernel_rfl:_=false)) h)) ?_;clear hK K c0 f0;generalize V38.setCell ⟨P,1,none⟩ (.slice (some ⟨g36,0,none⟩) (e+1) c37)=V40 at *;refine yt ?_;go_wp2_with fail
   go_roundw
   case rel=>exact ⟨e+1,_,_,by omega,by go_num,HS41.out⟩
   case measure=>simp [intOf]; omega
   exact zt;exact zt;exact zt;exact zt;exact zt;refine zq (fun K hK=>?_) ?_;go_simp;obtain ⟨y1,y2,hst⟩:=al1 Z (.cells #[.int .i64 (bD q e)] 3);have HS43:=hid (HS0.out.step hst);have He46:=hid (show ∀ j,Value.ownBlock (.slice aN e cN)=some j→j≠Z.heap.size from fun j hj=>Nat.ne_of_lt (HS0.out.num.lt j hj).2);refine hK _ _ (fun _=>⟨zf HS43.out.blk 0,zf HS43.out.blk 1⟩) ?_;clear hK K;have Hz44:=hid y1;clear y1 y2 hst;generalize Z.alloc (.cells #[.int .i64 (bD q e)] 3)=V42 at *;generalize Z.heap.size=k45 at *;refine zq (fun K hK=>?_) ?_;go_simp;obtain ⟨y1,y2,hst⟩:=al1 V42 (.cells #[.int .i64 (bN q e)] 3);have HS48:=hid (HS43.out.step hst);have Hz52:=hid ((hst.block k45 (zj Hz44.out)).trans Hz44.out);have He51:=hid (show ∀ j,Value.ownBlock (.slice aN e cN)=some j→j≠V42.heap.size from fun j hj=>Nat.ne_of_lt (HS43.out.num.lt j hj).2);refine hK _ _ (fun _=>⟨zf HS48.out.blk 0,zf HS48.out.blk 1⟩) ?_;clear hK K;have Hz49:=hid y1;clear y1 y2 hst;generalize V42.alloc (.cells #[.int .i64 (bN q e)] 3)=V47 at *;generalize V42.heap.size=k50 at *;refine zq (fun K hK=>?_) ?_;refine yJ rfl ?_;refine step_append_lies _ (by rfl) _ _ 22 (by rfl) (P+1) 3 iI (.int .i64 0) 1 8 Tryz.underlying22 HI0.out HI.out.1 HI.out.2.1 HI.out.2.2 rfl (by decide) _ (e) _ (by rfl) HS48.out.num ⟨k50,0,none⟩ 1 1 [.int .i64 (bN q e)] (by rfl) (by rfl) (World.news_of_block (cs:=#[.int .i64 (bN q e)]) (t:=3) (fr:=(0,0)) Hz49.out) (by simp [Value.oneCell']) (by omega) (by unfold maxLen; omega) (by omega) (HS48.out.lt) _ rfl ?_;intro g55 c56 V53 hown hgrow hat _;have HS54:=hid (HS48.out.appN (gg:=g55) hgrow hat (by rw [HFN.out]; exact hown));have Hz57:=hid ((hgrow.block k45 (zj Hz52.out) (fun e=>He46.out _ e.symm rfl)).trans Hz52.out);refine hK _ _ (fun _=>⟨zf HS54.out.blk 0,zf HS54.out.blk 1⟩) ?_;clear hK K hown hgrow hat;refine zu (fun K hK=>?_);go_simp;refine hK _ ?_;clear hK K;refine zq (fun K hK=>?_) ?_;refine yJ rfl ?_;refine step_append_lies _ (by rfl) _ _ 22 (by rfl) (P+1) 3 iI (.int .i64 0) 1 8 Tryz.underlying22 HI0.out HI.out.1 HI.out.2.1 HI.out.2.2 rfl (by decide) _ (e) _ (by rfl) HS54.out.den ⟨k45,0,none⟩ 1 1 [.int .i64 (bD q e)] (by rfl) (by rfl) (World.news_of_block (cs:=#[.int .i64 (bD q e)]) (t:=3) (fr:=(0,0)) Hz57.out) (by simp [Value.oneCell']) (by omega) (by unfold maxLen; omega) (by omega) (HS54.out.lt) _ rfl ?_;intro g60 c61 V58 hown hgrow hat _;have HS59:=hid (HS54.out.appD (gg:=g60) hgrow hat (by rw [HFD.out]; exact hown));refine hK _ _ (fun _=>⟨zf HS59.out.blk 0,zf HS59.out.blk 1⟩) ?_;clear hK K hown hgrow hat;refine zq (fun K hK=>?_) ?_;have c0:=zf HS59.out.blk 0;have f0:=zg HS59.out.blk 0;simp only [List.getElem?_toArray,List.getElem?_cons_zero] at c0;go_simp;have HS63:=hid (HS59.out.setN (.slice (some ⟨g55,0,none⟩) (e+1) c56));refine hK _ _ (fun h=>Bool.noConfusion (Eq.trans (Eq.symm (by kernel_rfl:_=false)) h)) ?_;clear hK K c0 f0;generalize V58.setCell ⟨P,0,none⟩ (.slice (some ⟨g55,0,none⟩) (e+1) c56)=V62 at *;refine zu (fun K hK=>?_);go_simp;refine hK _ ?_;clear hK K;refine zq (fun K hK=>?_) ?_;have c0:=zf HS63.out.blk 1;have f0:=zg HS63.out.blk 1;simp only [List.getElem?_toArray,List.getElem?_cons_zero,List.getElem?_cons_succ] at c0;go_simp;have HS65:=hid (HS63.out.setD (.slice (some ⟨g60,0,none⟩) (e+1) c61));refine hK _ _ (fun h=>Bool.noConfusion (Eq.trans (Eq.symm (by kernel_rfl:_=false)) h)) ?_;clear hK K c0 f0;generalize V62.setCell ⟨P,1,none⟩ (.slice (some ⟨g60,0,none⟩) (e+1) c61)=V64 at *;refine yt ?_;go_wp2_with fail
   go_roundw
   case rel=>exact ⟨e+1,_,_,by omega,by go_num,HS65.out⟩
   case measure=>simp [intOf]; omega
   exact zt;exact zt;exact zt;exact zt;exact zt;exact zt
  ·obtain rfl:e=q+1:=by omega
   obtain ⟨gN,rfl⟩:∃ b,aN=some ⟨b,0,none⟩:=by
    rcases hS.num.2 with ⟨hv,h0⟩ | ⟨b,c,cur,hv,-⟩
    ·simp at hv
    ·simp only [Value.slice.injEq] at hv;exact ⟨b,hv.1⟩
   obtain ⟨gD,rfl⟩:∃ b,aD=some ⟨b,0,none⟩:=by
    rcases hS.den.2 with ⟨hv,h0⟩ | ⟨b,c,cur,hv,-⟩
    ·simp at hv
    ·simp only [Value.slice.injEq] at hv;exact ⟨b,hv.1⟩
   have hlN:=hS.num.lt gN rfl;have hlD:=hS.den.lt gD rfl;have HW:=hid (show yh wr (P+1) gN (q+1) cN (bN q)∧yh wr (P+1) gD (q+1) cD (bD q)∧wr.heap[P]? = some (.cells #[.slice (some ⟨gN,0,none⟩) (q+1) cN,.slice (some ⟨gD,0,none⟩) (q+1) cD] 89)∧Below P X wr from ⟨⟨_,hS.num,fun j hj=>xz _ hj⟩,⟨_,hS.den,fun j hj=>xz _ hj⟩,hS.blk,hS.bel⟩);have j1:¬ ((q+1:Nat):Int)≤(q:Int):=by omega
   clear hS HS;have hPX:=HPX.out;have hbX:Below X0.heap.size X0 wr:=HB1.out.trans (HW.out.2.2.2.mono hBp);have hRB:=(hbX.block B (by omega)).trans HX.out;have hrow:=qA hRB #[.slice (some ⟨gN,0,none⟩) (q+1) cN,.slice (some ⟨gD,0,none⟩) (q+1) cD];have HRX:=hid hRB;have HRR:=hid hrow.2.1;have HKR:=hid hrow.1;have HBF:=hid (HBX.out.trans (hbX.mono (by omega)));clear hRB hrow hbX hPX
   go_wp2_with (first
    | (refine wpList_load_row rfl 89 _ rfl P rfl 89 #[.slice (some ⟨gN,0,none⟩) (q+1) cN,.slice (some ⟨gD,0,none⟩) (q+1) cD] _ _ HW.out.2.2.1 Tryz.underlying89 rfl (by kernel_rfl) ?_)
    | (refine wpList_store_row rfl 89 _ _ rfl B #[.slice (some ⟨gN,0,none⟩) (q+1) cN,.slice (some ⟨gD,0,none⟩) (q+1) cD] rfl rfl 89 _ HRX.out (by kernel_rfl) rfl (by simp [Value.oneCell']) ?_)
    | fail)
   refine tS 2 89 Tryz.results93 B 89 #[.slice (some ⟨gN,0,none⟩) (q+1) cN,.slice (some ⟨gD,0,none⟩) (q+1) cD] _ rfl HRR.out Tryz.underlying89 rfl (by kernel_rfl) rfl ?_;refine ⟨_,rfl,⟨rfl,gN,gD,cN,cD,rfl,?_,?_⟩,hB ▸ HKR.out.below HBF.out (Nat.le_refl B) (by have:=HBF.out.size; omega)⟩
   ·exact ((HW.out.1.base (b':=B) (by omega)).kept (HKR.out.block gN (HW.out.1.lt.2) (by omega)))
   ·exact ((HW.out.2.1.base (b':=B) (by omega)).kept (HKR.out.block gD (HW.out.2.1.lt.2) (by omega)))
theorem uu.congr {t:Nat} {w:World} {base n:Nat} {v:Value} {f g f2 g2:Nat→Int} (h:uu t w base v n f g) (e:∀ i,i<n→f i=f2 i∧g i=g2 i):uu t w base v n f2 g2:=by
 obtain ⟨h0,A,C,a,c,rfl,h1,h2⟩:=h;exact ⟨h0,A,C,a,c,rfl,h1.congr (fun i hi=>(e i hi).1),h2.congr (fun i hi=>(e i hi).2)⟩
theorem le:∀ (q:Fin 6) (i:Fin 6),1≤q.val→raN q.val i.val=exN 0 q.val i.val∧raD q.val i.val=exD 0 q.val i.val∨q.val<i.val:=by decide +kernel
theorem kw:∀ (q:Fin 5) (i:Fin 6),1≤q.val→bN q.val i.val=exN 1 q.val i.val∧bD q.val i.val=exD 1 q.val i.val:=by decide +kernel
theorem ri {m q:Nat} (hm:m<2) (h1:1≤q) (h5:q+m≤5) (w:World) :
  Calls Tryz.prog 51 #[.int .i64 m,.int .i64 q] w fun e w'=>∃ v,e=.returned (.tuple #[v,.bool true])∧uu 0 w' w.heap.size v (q+1) (exN m q) (exD m q)∧Below w.heap.size w w':=by
 have PA:=hid (fun W=>rh q h1 (by omega) W);have PB:=hid (fun W=>qB q h1 (by omega) W);have AL:=al1 w (.cells #[.slice none 0 0,.slice none 0 0] 89);go_enter Tryz.func51,Tryz.ntmps51;go_upto_region 1 with fail
 generalize w.alloc (.cells #[.slice none 0 0,.slice none 0 0] 89)=X at *;generalize hB:w.heap.size=B at *;obtain ⟨x1,x2,x3⟩:=AL;have HX:=hid x1;have HBX:=hid x3;clear x1 x3;have j1:(1:Int)≤(q:Int):=by omega
 have j0:1≤q:=h1;have j3:0<q:=h1;rcases (show m=0∨m=1 by omega) with rfl | rfl
 ·have j2:(q:Int)≤5:=by omega
  have j4:q≤5:=by omega
  go_wp2_with fail;refine (PA.out X).mono ?_;rintro e w2 ⟨v,rfl,ho,hb⟩
  replace ho:=ho.congr (f2:=exN 0 q) (g2:=exD 0 q) (fun i hi=>by
   rcases le ⟨q,by omega⟩ ⟨i,by omega⟩ h1 with h | h
   ·exact h
   ·have h':q<i:=h;omega)
  obtain ⟨-,A,C,a,c,rfl,hA,hC⟩:=ho;have hr:=(hb.block B (by omega)).trans HX.out;have c0:=zf hr 0;have c1:=zf hr 1;have f0:=zg hr 0;have f1:=zg hr 1;simp only [List.getElem?_toArray,List.getElem?_cons_zero,List.getElem?_cons_succ] at c0 c1;have hlA:=hA.lt;have hlC:=hC.lt
  have HF:=hid (show yh ((w2.setCell ⟨B,0,none⟩ (.slice (some ⟨A,0,none⟩) (q+1) a)).setCell ⟨B,1,none⟩ (.slice (some ⟨C,0,none⟩) (q+1) c)) B A (q+1) a _∧yh ((w2.setCell ⟨B,0,none⟩ (.slice (some ⟨A,0,none⟩) (q+1) a)).setCell ⟨B,1,none⟩ (.slice (some ⟨C,0,none⟩) (q+1) c)) B C (q+1) c _∧Below B w ((w2.setCell ⟨B,0,none⟩ (.slice (some ⟨A,0,none⟩) (q+1) a)).setCell ⟨B,1,none⟩ (.slice (some ⟨C,0,none⟩) (q+1) c)) from
   ⟨((hA.base (b':=B) (by omega)).other (by omega) _).other (by omega) _,((hC.base (b':=B) (by omega)).other (by omega) _).other (by omega) _,((HBX.out.trans (hb.mono (by omega))).setCell (p:=⟨B,0,none⟩) (Nat.le_refl B) _).setCell (p:=⟨B,1,none⟩) (Nat.le_refl B) _⟩)
  have e0:=zf (yz (o:=1) (yz (o:=0) hr (.slice (some ⟨A,0,none⟩) (q+1) a)) (.slice (some ⟨C,0,none⟩) (q+1) c)) 0;have e1:=zf (yz (o:=1) (yz (o:=0) hr (.slice (some ⟨A,0,none⟩) (q+1) a)) (.slice (some ⟨C,0,none⟩) (q+1) c)) 1
  replace e0:_=some (Value.slice (some ⟨A,0,none⟩) (q+1) a):=e0
  replace e1:_=some (Value.slice (some ⟨C,0,none⟩) (q+1) c):=e1
  clear hA hC hr hb hlA hlC;go_wp2_with fail;exact bodyPost_ret (v:=.tuple #[.agg #[.slice (some ⟨A,0,none⟩) (q+1) a,.slice (some ⟨C,0,none⟩) (q+1) c],.bool true]) (by simp [results,Tryz.results51,go_sem,e0,e1]) rfl ⟨_,rfl,⟨rfl,A,C,a,c,rfl,hB ▸ HF.out.1,hB ▸ HF.out.2.1⟩,hB ▸ HF.out.2.2⟩
 ·have j2:(q:Int)≤4:=by omega
  have j4:q≤4:=by omega
  go_wp2_with fail;refine (PB.out X).mono ?_;rintro e w2 ⟨v,rfl,ho,hb⟩
  replace ho:=ho.congr (f2:=exN 1 q) (g2:=exD 1 q) (fun i hi=>kw ⟨q,by omega⟩ ⟨i,by omega⟩ h1)
  obtain ⟨-,A,C,a,c,rfl,hA,hC⟩:=ho;have hr:=(hb.block B (by omega)).trans HX.out;have c0:=zf hr 0;have c1:=zf hr 1;have f0:=zg hr 0;have f1:=zg hr 1;simp only [List.getElem?_toArray,List.getElem?_cons_zero,List.getElem?_cons_succ] at c0 c1;have hlA:=hA.lt;have hlC:=hC.lt
  have HF:=hid (show yh ((w2.setCell ⟨B,0,none⟩ (.slice (some ⟨A,0,none⟩) (q+1) a)).setCell ⟨B,1,none⟩ (.slice (some ⟨C,0,none⟩) (q+1) c)) B A (q+1) a _∧yh ((w2.setCell ⟨B,0,none⟩ (.slice (some ⟨A,0,none⟩) (q+1) a)).setCell ⟨B,1,none⟩ (.slice (some ⟨C,0,none⟩) (q+1) c)) B C (q+1) c _∧Below B w ((w2.setCell ⟨B,0,none⟩ (.slice (some ⟨A,0,none⟩) (q+1) a)).setCell ⟨B,1,none⟩ (.slice (some ⟨C,0,none⟩) (q+1) c)) from
   ⟨((hA.base (b':=B) (by omega)).other (by omega) _).other (by omega) _,((hC.base (b':=B) (by omega)).other (by omega) _).other (by omega) _,((HBX.out.trans (hb.mono (by omega))).setCell (p:=⟨B,0,none⟩) (Nat.le_refl B) _).setCell (p:=⟨B,1,none⟩) (Nat.le_refl B) _⟩)
  have e0:=zf (yz (o:=1) (yz (o:=0) hr (.slice (some ⟨A,0,none⟩) (q+1) a)) (.slice (some ⟨C,0,none⟩) (q+1) c)) 0;have e1:=zf (yz (o:=1) (yz (o:=0) hr (.slice (some ⟨A,0,none⟩) (q+1) a)) (.slice (some ⟨C,0,none⟩) (q+1) c)) 1
  replace e0:_=some (Value.slice (some ⟨A,0,none⟩) (q+1) a):=e0
  replace e1:_=some (Value.slice (some ⟨C,0,none⟩) (q+1) c):=e1
  clear hA hC hr hb hlA hlC;go_wp2_with fail;exact bodyPost_ret (v:=.tuple #[.agg #[.slice (some ⟨A,0,none⟩) (q+1) a,.slice (some ⟨C,0,none⟩) (q+1) c],.bool true]) (by simp [results,Tryz.results51,go_sem,e0,e1]) rfl ⟨_,rfl,⟨rfl,A,C,a,c,rfl,hB ▸ HF.out.1,hB ▸ HF.out.2.1⟩,hB ▸ HF.out.2.2⟩
theorem oU {m q:Nat} (hm:m<2) (h1:1≤q) (h5:q+m≤5) (w:World) :
  Calls Tryz.prog 26 #[.int .i64 m,.int .i64 q] w fun e w'=>∃ v,e=.returned (.tuple #[v,.bool true])∧zT w' v (q+1) (coF m q)∧Below w.heap.size w w':=by
 obtain ⟨iF,hF,g1,g2,g3⟩:=info_parts xu;have HF:=hid (show iF.zero=_∧iF.size=_∧iF.bytes=_ from ⟨g1,g2,g3⟩);have HF0:=hid hF;clear hF g1 g2 g3;have EX:=hid (ri hm h1 h5 w);go_enter Tryz.func26,Tryz.ntmps26;generalize hB:w.heap.size=B at *;go_wp2_with fail;refine EX.out.mono ?_;rintro e w1 ⟨v,rfl,⟨-,A,C,a,c,rfl,hA,hC⟩,hb⟩;have AL:=hid (al1 w1 (.cells #[.slice (some ⟨A,0,none⟩) (q+1) a,.slice (some ⟨C,0,none⟩) (q+1) c] 89));have HA:=hid hA;have HC:=hid hC;have HB1:=hid hb;clear hA hC hb;go_upto_region 2 with fail
 generalize w1.alloc (.cells #[.slice (some ⟨A,0,none⟩) (q+1) a,.slice (some ⟨C,0,none⟩) (q+1) c] 89)=X at *;generalize hP:w1.heap.size=P at *;obtain ⟨x1,x2,x3⟩:=AL.out;have HX:=hid x1;have HAX:=hid (HA.out.below x3 (hP ▸ HA.out.lt.2));have HCX:=hid (HC.out.below x3 (hP ▸ HC.out.lt.2));have hB1:B≤P:=by have:=HB1.out.size; omega
 have HBX:=hid (HB1.out.trans (x3.mono hB1));have hPX:P<X.heap.size:=by omega
 have hAl:=HAX.out.lt;have hCl:=HCX.out.lt;clear x1 x2 x3 AL HA HC HB1;go_wp2_with fail
 go_loopw [8,9] (fun v i wr=>∃ (e:Nat) (qs:List Value),e≤q+1∧i=.int .i64 e∧wr.ownsRow X.heap.size 31 1 v e qs∧yO qs e (coF m q)∧Below X.heap.size X wr) (fun _ i _=>q+1-(intOf i).toNat)
 case atStart=>exact ⟨0,[],by omega,rfl,World.ownsRow_nil _ _ _ _,fun j hj=>by omega,Below.refl _ _⟩
 case round=>
  obtain ⟨e,qs,he,rfl,ho,hv,hb⟩:=hrel;obtain ⟨va,vc,rfl⟩:=ym ho;have HO:=hid ho;have HV:=hid hv;have HB2:=hid hb;have hp:=(hb.block P hPX).trans HX.out;have p0:=zf hp 0;have p1:=zf hp 1;simp only [List.getElem?_toArray,List.getElem?_cons_zero,List.getElem?_cons_succ] at p0 p1;by_cases hen:e<q+1
  ·have j1:(e:Int)<(q:Int)+1:=by omega
   have u1:=(hb.cell (p:=⟨A,e,none⟩) (show A<_ by omega)).trans (HAX.out.cell hen);have u2:=(hb.cell (p:=⟨C,e,none⟩) (show C<_ by omega)).trans (HCX.out.cell hen);obtain ⟨n1,n2⟩:=xx (nC ⟨m,hm⟩ ⟨q,by omega⟩ ⟨e,by omega⟩ h1);simp only [] at n1 n2;have n1':∀ w,zZ .quo w (floatOfInt .f64 (exN m q e)) (floatOfInt .f64 (exD m q e))=coF m q e:=n1;have hcn:zk (coF m q e)=coF m q e:=wK _ _ _;have hcl:coF m q e<18446744073709551616:=sE _ _ _;have hws:=hb.size;clear ho hv hb hp n1;go_upto_region 8 with fail
   refine zv [(0,1),(1,1),(2,3),(3,1),(4,1),(5,3),(6,1),(7,1),(8,3),(9,1),(10,1),(11,3),(12,1),(13,1),(14,0),(15,0),(16,1)] (fun W=>W.cell? ⟨P,0,none⟩=some (.slice (some ⟨A,0,none⟩) (q+1) a)∧W.cell? ⟨A,e,none⟩=some (.int .i64 (exN m q e))∧W.cell? ⟨P,1,none⟩=some (.slice (some ⟨C,0,none⟩) (q+1) c)∧W.cell? ⟨C,e,none⟩=some (.int .i64 (exD m q e))) (by kernel_rfl) (by kernel_rfl) (fun _ _ d _ _ h=>by cases d<;>exact h) (⟨p0,u1,p1,u2⟩) ?_;intro Z hZ hrZ;have hbZ:Below wr.heap.size wr Z:=by rw [hZ]; exact (Below.refl _ _).drew
   have hOZ:=xB HO.out hbZ;have hZs:=hbZ.size;clear hZ p0 u1 p1 u2 HO
   iterate 2
    first
     | refine zd (fun K hK=>?_)
     | refine ze (fun K hK=>?_)
    go_simp;refine hK _ ?_;clear hK K
   refine zh (v:=.slice (some ⟨A,0,none⟩) (q+1) a) rfl rfl (fun wk hwk=>?_) ?_
   ·obtain ⟨k1,k2,k3,k4⟩:=hwk;go_simp
   iterate 2
    first
     | refine zd (fun K hK=>?_)
     | refine ze (fun K hK=>?_)
    go_simp;refine hK _ ?_;clear hK K
   refine zh (v:=.int .i64 (exN m q e)) rfl rfl (fun wk hwk=>?_) ?_
   ·obtain ⟨k1,k2,k3,k4⟩:=hwk;go_simp
   iterate 2
    first
     | refine zd (fun K hK=>?_)
     | refine ze (fun K hK=>?_)
    go_simp;refine hK _ ?_;clear hK K
   refine zh (v:=.slice (some ⟨C,0,none⟩) (q+1) c) rfl rfl (fun wk hwk=>?_) ?_
   ·obtain ⟨k1,k2,k3,k4⟩:=hwk;go_simp
   iterate 2
    first
     | refine zd (fun K hK=>?_)
     | refine ze (fun K hK=>?_)
    go_simp;refine hK _ ?_;clear hK K
   refine zh (v:=.int .i64 (exD m q e)) rfl rfl (fun wk hwk=>?_) ?_
   ·obtain ⟨k1,k2,k3,k4⟩:=hwk;go_simp
   iterate 1
    first
     | refine zd (fun K hK=>?_)
     | refine ze (fun K hK=>?_)
    go_simp;refine hK _ ?_;clear hK K
   refine zd (fun K hK=>?_);go_simp;refine ⟨_,fun _=>⟨rfl,rfl⟩,hK _ ?_⟩;clear hK K;obtain ⟨y1,y2,y3⟩:=al1 Z (.cells #[.float .f64 (coF m q e)] 31);have q1:=(y3.cell (p:=⟨P,0,none⟩) (show P<_ by omega)).trans hrZ.1;have q2:=(y3.cell (p:=⟨A,e,none⟩) (show A<_ by omega)).trans hrZ.2.1;have q3:=(y3.cell (p:=⟨P,1,none⟩) (show P<_ by omega)).trans hrZ.2.2.1;have q4:=(y3.cell (p:=⟨C,e,none⟩) (show C<_ by omega)).trans hrZ.2.2.2;refine zm (fun K hK=>?_);go_simp;refine hK _ _ (fun h=>Bool.noConfusion (Eq.trans (Eq.symm (by kernel_rfl:_=false)) h)) (fun _=>⟨q1,q2,q3,q4⟩) ?_;clear hK K;have hOA:=xB hOZ y3;refine zm (fun K hK=>?_);refine yJ rfl ?_;refine step_append_lies _ (by rfl) _ _ 30 (by rfl) X.heap.size 31 iF (.float .f64 0) 1 8 Tryz.underlying30 HF0.out HF.out.1 HF.out.2.1 HF.out.2.2 rfl (by decide) _ e qs (by rfl) hOA ⟨Z.heap.size,0,none⟩ 1 1 [.float .f64 (coF m q e)] (by rfl) (by rfl) (World.news_of_block (cs:=#[.float .f64 (coF m q e)]) (t:=31) (fr:=(0,0)) y1) (by simp [Value.oneCell']) (by omega) (by unfold maxLen; omega) (by omega) (by omega) (Z.heap.size+1) y2 ?_;intro gg cap1 wn hown1 hgrow hat hlt1;have hne:∀ b,b<X.heap.size→some b≠(Value.slice va e vc).ownBlock:=fun b hb e2=>by have:=(hOA.lt b e2.symm).1; omega
   have z1:=hgrow.cell q1 (hne P (by omega));have z2:=hgrow.cell q2 (hne A (by omega));have z3:=hgrow.cell q3 (hne P (by omega));have z4:=hgrow.cell q4 (hne C (by omega));have HN:=hid (show wn.ownsRow X.heap.size 31 1 (.slice (some ⟨gg,0,none⟩) (e+1) cap1) (e+1) _∧yO _ (e+1) (coF m q)∧Below X.heap.size X wn from ⟨hown1,yO.app HV.out (by have:=hOA.1; omega) hcn hcl,(HB2.out.trans (hbZ.mono hws)).trans ((y3.mono (by omega)).trans ((Below.refl _ _).grown hgrow (by omega) (fun k hk=>(hOA.lt k hk).1)))⟩);refine hK _ _ (fun h=>Bool.noConfusion (Eq.trans (Eq.symm (by kernel_rfl:_=false)) h)) (fun _=>⟨z1,z2,z3,z4⟩) ?_;clear hK K hown1 hgrow hat hlt1 hOA hOZ q1 q2 q3 q4 z1 z2 z3 z4 hbZ hrZ y1 y2 y3 hne HV HB2
   iterate 1
    first
     | refine zd (fun K hK=>?_)
     | refine ze (fun K hK=>?_)
    go_simp;refine hK _ ?_;clear hK K
   refine zo ?_;go_wp2_with fail
   go_roundw
   case rel=>exact ⟨e+1,_,by omega,by go_num,HN.out⟩
   case measure=>simp [intOf]; omega
  ·obtain rfl:e=q+1:=by omega
   obtain ⟨R2,c2,e2,hof⟩:=yO.own (show yO qs (q+1) (coF m q) from hv) ho (by omega);have HR:=hid (show zT wr (.slice va (q+1) vc) (q+1) (coF m q) by rw [e2]; exact hof.flts (by omega));clear e2 hof;have HBF:=hid (HBX.out.trans (hb.mono (by omega)));clear ho hv hb hp p1;go_wp2_with fail;exact bodyPost_ret (v:=.tuple #[.slice va (q+1) vc,.bool true]) (by simp [results,Tryz.results26,go_sem]) rfl ⟨_,rfl,HR.out,hB ▸ HBF.out⟩
end Go.Proofs.YtnlbafjmbamoeaaGreat
