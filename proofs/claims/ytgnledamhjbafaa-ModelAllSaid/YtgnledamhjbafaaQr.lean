/-
  Polynomials with what is left over: made of numbers, walked on both sides.
-/
import Derived.Test.YtgnledamhjbafaaQq
namespace Go.Proofs.Ytgnledamhjbafaa
open Go.RowKit
open Ieee (double)
open Lib
theorem RK_none (p:Int):RK 0 p=0:=by simp [RK,zH,sgd]
theorem mul_sim {x y x' y':Nat} (lx:x<18446744073709551616) (ly:y<18446744073709551616) (lx':x'<18446744073709551616) (ly':y'<18446744073709551616) (nx:isN x=false) (ny:isN y=false) (nx':isN x'=false) (ny':isN y'=false) (ex:key x=key x') (ey:key y=key y') :
  isN (cop .mul x y')=isN (cop .mul y x')∧(isN (cop .mul x y')=false→key (cop .mul x y')=key (cop .mul y x')):=by
 have zer:∀ {a b:Nat},isN a=false→isN b=false→key a=0→(isN (cop .mul a b)=true∧isN (cop .mul b a)=true∧b % p63=zc)∨(isN (cop .mul a b)=false∧key (cop .mul a b)=0∧isN (cop .mul b a)=false∧key (cop .mul b a)=0∧b % p63<zc):=fun {a b} na nb h=>by
  have ha:a % p63<zc:=by
   have h1:=h;rw [zq] at h1;unfold sgd at h1;have:(0:Nat)<zc:=by decide
   split at h1<;>omega
  rcases rP nb with hb | hb
  ·exact .inl ⟨(xS (yG hb) h).2,(xS (yG hb) h).1,yG hb⟩
  ·obtain ⟨m1,m2,-⟩:=wF ha hb;obtain ⟨l1,l2,-⟩:=wF hb ha;have v0:V a=0:=zX.2 h;have k0:key (cop .mul a b)=0:=by rw [m2,v0,Int.zero_mul]; exact RK_none _
   have k1:key (cop .mul b a)=0:=by rw [l2,v0,Int.mul_zero]; exact RK_none _
   exact .inr ⟨m1,k0,l1,k1,hb⟩
 by_cases hx:key x=0
 ·have hx':key x'=0:=ex ▸ hx
  have eb:y % p63=zc↔y' % p63=zc:=by
   rcases xY ly ly' ey with e | ⟨e1,e2⟩
   ·rw [e]
   ·rw [e1,e2]
  rcases zer nx ny' hx with ⟨h1,-,h3⟩ | ⟨h1,h2,-,-,h5⟩
  ·rcases zer nx' ny hx' with ⟨-,g2,-⟩ | ⟨-,-,-,-,g5⟩
   ·exact ⟨h1.trans g2.symm,fun h=>by rw [h1] at h; cases h⟩
   ·exact absurd (eb.2 h3) (by omega)
  ·rcases zer nx' ny hx' with ⟨-,-,g3⟩ | ⟨-,-,g3,g4,-⟩
   ·exact absurd (eb.1 g3) (by omega)
   ·exact ⟨h1.trans g3.symm,fun _=>h2.trans g4.symm⟩
 ·by_cases hy:key y=0
  ·have hy':key y'=0:=ey ▸ hy
   have eb:x % p63=zc↔x' % p63=zc:=by
    rcases xY lx lx' ex with e | ⟨e1,e2⟩
    ·rw [e]
    ·rw [e1,e2]
   rcases zer ny' nx hy' with ⟨-,h2,h3⟩ | ⟨-,-,h1,h2,h5⟩
   ·rcases zer ny nx' hy with ⟨g1,-,-⟩ | ⟨-,-,-,-,g5⟩
    ·exact ⟨h2.trans g1.symm,fun h=>by rw [h2] at h; cases h⟩
    ·exact absurd (eb.1 h3) (by omega)
   ·rcases zer ny nx' hy with ⟨-,-,g3⟩ | ⟨g1,g2,-,-,-⟩
    ·exact absurd (eb.2 g3) (by omega)
    ·exact ⟨h1.trans g1.symm,fun _=>h2.trans g2.symm⟩
  ·have z:∀ {a:Nat},a % p63=0→key a=0:=fun {a} h=>by rw [zq,h]; unfold sgd; split<;>rfl
   obtain rfl:x=x':=by
    rcases xY lx lx' ex with e | ⟨e1,-⟩
    ·exact e
    ·exact absurd (z e1) hx
   obtain rfl:y=y':=by
    rcases xY ly ly' ey with e | ⟨e1,-⟩
    ·exact e
    ·exact absurd (z e1) hy
   cases h:isN (cop .mul x y) with
   | false=>obtain ⟨h1,h2⟩:=mul_com nx ny h; exact ⟨h1.symm,fun _=>h2.symm⟩
   | true=>
    cases g:isN (cop .mul y x) with
    | true=>exact ⟨rfl,fun h=>by cases h⟩
    | false=>rw [(mul_com ny nx g).1] at h; cases h
theorem around_sim {a b c d a' b' c' d':Nat} (la:a<18446744073709551616) (lb:b<18446744073709551616) (lc:c<18446744073709551616) (ld:d<18446744073709551616) (la':a'<18446744073709551616) (lb':b'<18446744073709551616) (lc':c'<18446744073709551616) (ld':d'<18446744073709551616)
  (ha:isN a=isN a'∧(isN a=false→key a=key a')) (hb:isN b=isN c'∧(isN b=false→key b=key c')) (hc:isN c=isN b'∧(isN c=false→key c=key b')) (hd:isN d=isN d'∧(isN d=false→key d=key d')):yq a b c d=yq a' b' c' d':=by
 have hn:(isN a || isN b || isN c || isN d)=(isN a' || isN b' || isN c' || isN d'):=by rw [ha.1,hb.1,hc.1,hd.1]; cases isN a'<;>cases isN b'<;>cases isN c'<;>cases isN d'<;>rfl
 unfold yq;cases h:(isN a || isN b || isN c || isN d)
 ·rw [h] at hn;rw [← hn];simp only [cond_false];simp only [Bool.or_eq_false_iff] at h;obtain ⟨⟨⟨na,nb⟩,nc⟩,nd⟩:=h;have na':=ha.1.symm.trans na;have nb':=hc.1.symm.trans nc;have nc':=hb.1.symm.trans nb;have nd':=hd.1.symm.trans nd;obtain ⟨m1,m2,m3⟩:=sO na nb nc nd;obtain ⟨n1,n2,n3⟩:=sO na' nb' nc' nd';obtain ⟨x1,x2,x3⟩:=sP na nb nc nd;obtain ⟨y1,y2,y3⟩:=sP na' nb' nc' nd';have lm:=wI m3 la lb lc ld;have ln:=wI n3 la' lb' lc' ld';have lx:=wI x3 la lb lc ld;have ly:=wI y3 la' lb' lc' ld';have k1:=ha.2 na;have k2:=hb.2 nb;have k3:=hc.2 nc;have k4:=hd.2 nd;clear m3 n3 x3 y3;generalize xr a [a,b,c,d]=m at *;generalize xt a [a,b,c,d]=M at *;generalize xr a' [a',b',c',d']=n at *;generalize xt a' [a',b',c',d']=N at *;rw [sm lm lx m1 x1 (by rw [m2,x2]; omega),sm ln ly n1 y1 (by rw [n2,y2]; omega)];rw [uH lm ln m1 n1 (by rw [m2,n2]; omega),tY lx ly x1 y1 (by rw [x2,y2]; omega)]
 ·rw [h] at hn;rw [← hn];rfl
theorem eqB_key {x y:Nat} (h:eqB x y=true):isN x=false∧isN y=false∧key x=key y:=by
 unfold eqB at h;simp only [Bool.and_eq_true,Bool.not_eq_true',decide_eq_true_eq] at h;exact ⟨h.1.1,h.1.2,h.2⟩
def ltQ (x:PQ):Prop:=x.1<18446744073709551616∧x.2<18446744073709551616
theorem mulQ_sim {x y x' y':PQ} (lx:ltQ x) (ly:ltQ y) (lx':ltQ x') (ly':ltQ y') (e1:eqB x.1 x'.1=true) (e2:eqB x.2 x'.2=true) (e3:eqB y.1 y'.1=true) (e4:eqB y.2 y'.2=true):mulQ x y'=mulQ y x':=by
 obtain ⟨a1,a2,a3⟩:=eqB_key e1;obtain ⟨b1,b2,b3⟩:=eqB_key e2;obtain ⟨c1,c2,c3⟩:=eqB_key e3;obtain ⟨d1,d2,d3⟩:=eqB_key e4;unfold mulQ yX
 exact around_sim (zL _ _ _) (zL _ _ _) (zL _ _ _) (zL _ _ _) (zL _ _ _) (zL _ _ _) (zL _ _ _) (zL _ _ _)
  (mul_sim lx.1 ly.1 lx'.1 ly'.1 a1 c1 a2 c2 a3 c3) (mul_sim lx.1 ly.2 lx'.1 ly'.2 a1 d1 a2 d2 a3 d3) (mul_sim lx.2 ly.1 lx'.2 ly'.1 b1 c1 b2 c2 b3 c3) (mul_sim lx.2 ly.2 lx'.2 ly'.2 b1 d1 b2 d2 b3 d3)
end Go.Proofs.Ytgnledamhjbafaa
namespace Go.Proofs.Ytgnledamhjbafaa
open Go.RowKit
open Ieee (double)
open Lib
attribute [local go_sem] zf ze zh zd zu zt zw zx zy zA zj zk zm zn zo zF yd zU zG xq
def OfM (n:Nat) (f:Nat→Nat) (F:Nat→PQ):Prop:=∀ k,k<10→(k<9∧k<n→zg (F k).1=f k∧(F k).2=(F k).1∧(F k).1<18446744073709551616)∧(¬(k<9∧k<n)→F k=(0,0))
theorem OfM.zero (f:Nat→Nat):OfM 0 f fun _=>(0,0):=fun _ _=>⟨fun h=>by omega,fun _=>rfl⟩
theorem OfM.more {j:Nat} {f:Nat→Nat} {F:Nat→PQ} (h:OfM j f F) {y:Nat} (y1:zg y=f j) (y2:y<18446744073709551616) (_:j<9):OfM (j+1) f (vM F j (y,y)):=fun k hk=>by
 by_cases e:k=j
 ·subst e;rw [yp];exact ⟨fun _=>⟨y1,rfl,y2⟩,fun g=>absurd (show k<9∧k<k+1 by omega) g⟩
 ·rw [zY _ _ e];exact ⟨fun g=>(h k hk).1 ⟨g.1,by omega⟩,fun g=>(h k hk).2 (fun g'=>g ⟨g'.1,by omega⟩)⟩
theorem OfM.skip {j:Nat} {f:Nat→Nat} {F:Nat→PQ} (h:OfM j f F) (h9:9≤j):OfM (j+1) f F:=fun k hk=>⟨fun g=>(h k hk).1 ⟨g.1,by omega⟩,fun g=>(h k hk).2 (fun g'=>g ⟨g'.1,by omega⟩)⟩
theorem begin1 (w:World):PB ((w.alloc (.cells #[.float .f64 0,.float .f64 0,.float .f64 0,.float .f64 0,.float .f64 0,.float .f64 0,.float .f64 0,.float .f64 0,.float .f64 0,.float .f64 0,.float .f64 0,.float .f64 0,.float .f64 0,.float .f64 0,.float .f64 0,.float .f64 0,.float .f64 0,.float .f64 0,.float .f64 0,.float .f64 0] 29)).alloc (.cells #[.float .f64 0,.float .f64 0,.float .f64 0,.float .f64 0,.float .f64 0,.float .f64 0,.float .f64 0,.float .f64 0,.float .f64 0,.float .f64 0,.float .f64 0,.float .f64 0,.float .f64 0,.float .f64 0,.float .f64 0,.float .f64 0,.float .f64 0,.float .f64 0,.float .f64 0,.float .f64 0] 29)) w.heap.size 10 (fun _=>(0,0))∧PB ((w.alloc (.cells #[.float .f64 0,.float .f64 0,.float .f64 0,.float .f64 0,.float .f64 0,.float .f64 0,.float .f64 0,.float .f64 0,.float .f64 0,.float .f64 0,.float .f64 0,.float .f64 0,.float .f64 0,.float .f64 0,.float .f64 0,.float .f64 0,.float .f64 0,.float .f64 0,.float .f64 0,.float .f64 0] 29)).alloc (.cells #[.float .f64 0,.float .f64 0,.float .f64 0,.float .f64 0,.float .f64 0,.float .f64 0,.float .f64 0,.float .f64 0,.float .f64 0,.float .f64 0,.float .f64 0,.float .f64 0,.float .f64 0,.float .f64 0,.float .f64 0,.float .f64 0,.float .f64 0,.float .f64 0,.float .f64 0,.float .f64 0] 29)) (w.heap.size+1) 10 (fun _=>(0,0)) ∧
  ((w.alloc (.cells #[.float .f64 0,.float .f64 0,.float .f64 0,.float .f64 0,.float .f64 0,.float .f64 0,.float .f64 0,.float .f64 0,.float .f64 0,.float .f64 0,.float .f64 0,.float .f64 0,.float .f64 0,.float .f64 0,.float .f64 0,.float .f64 0,.float .f64 0,.float .f64 0,.float .f64 0,.float .f64 0] 29)).alloc (.cells #[.float .f64 0,.float .f64 0,.float .f64 0,.float .f64 0,.float .f64 0,.float .f64 0,.float .f64 0,.float .f64 0,.float .f64 0,.float .f64 0,.float .f64 0,.float .f64 0,.float .f64 0,.float .f64 0,.float .f64 0,.float .f64 0,.float .f64 0,.float .f64 0,.float .f64 0,.float .f64 0] 29)).heap.size=w.heap.size+2∧Below w.heap.size w ((w.alloc (.cells #[.float .f64 0,.float .f64 0,.float .f64 0,.float .f64 0,.float .f64 0,.float .f64 0,.float .f64 0,.float .f64 0,.float .f64 0,.float .f64 0,.float .f64 0,.float .f64 0,.float .f64 0,.float .f64 0,.float .f64 0,.float .f64 0,.float .f64 0,.float .f64 0,.float .f64 0,.float .f64 0] 29)).alloc (.cells #[.float .f64 0,.float .f64 0,.float .f64 0,.float .f64 0,.float .f64 0,.float .f64 0,.float .f64 0,.float .f64 0,.float .f64 0,.float .f64 0,.float .f64 0,.float .f64 0,.float .f64 0,.float .f64 0,.float .f64 0,.float .f64 0,.float .f64 0,.float .f64 0,.float .f64 0,.float .f64 0] 29)):=by
 obtain ⟨-,-,x4,x5⟩:=al2 w (.cells #[.float .f64 0,.float .f64 0,.float .f64 0,.float .f64 0,.float .f64 0,.float .f64 0,.float .f64 0,.float .f64 0,.float .f64 0,.float .f64 0,.float .f64 0,.float .f64 0,.float .f64 0,.float .f64 0,.float .f64 0,.float .f64 0,.float .f64 0,.float .f64 0,.float .f64 0,.float .f64 0] 29) (.cells #[.float .f64 0,.float .f64 0,.float .f64 0,.float .f64 0,.float .f64 0,.float .f64 0,.float .f64 0,.float .f64 0,.float .f64 0,.float .f64 0,.float .f64 0,.float .f64 0,.float .f64 0,.float .f64 0,.float .f64 0,.float .f64 0,.float .f64 0,.float .f64 0,.float .f64 0,.float .f64 0] 29);have h1:=(zeroM w).below (B:=w.heap.size+1) (w':=(w.alloc (.cells #[.float .f64 0,.float .f64 0,.float .f64 0,.float .f64 0,.float .f64 0,.float .f64 0,.float .f64 0,.float .f64 0,.float .f64 0,.float .f64 0,.float .f64 0,.float .f64 0,.float .f64 0,.float .f64 0,.float .f64 0,.float .f64 0,.float .f64 0,.float .f64 0,.float .f64 0,.float .f64 0] 29)).alloc (.cells #[.float .f64 0,.float .f64 0,.float .f64 0,.float .f64 0,.float .f64 0,.float .f64 0,.float .f64 0,.float .f64 0,.float .f64 0,.float .f64 0,.float .f64 0,.float .f64 0,.float .f64 0,.float .f64 0,.float .f64 0,.float .f64 0,.float .f64 0,.float .f64 0,.float .f64 0,.float .f64 0] 29)) ((Below.refl _ _).alloc (by simp) _) (by simp);have h2:=zeroM (w.alloc (.cells #[.float .f64 0,.float .f64 0,.float .f64 0,.float .f64 0,.float .f64 0,.float .f64 0,.float .f64 0,.float .f64 0,.float .f64 0,.float .f64 0,.float .f64 0,.float .f64 0,.float .f64 0,.float .f64 0,.float .f64 0,.float .f64 0,.float .f64 0,.float .f64 0,.float .f64 0,.float .f64 0] 29));rw [show (w.alloc (.cells #[.float .f64 0,.float .f64 0,.float .f64 0,.float .f64 0,.float .f64 0,.float .f64 0,.float .f64 0,.float .f64 0,.float .f64 0,.float .f64 0,.float .f64 0,.float .f64 0,.float .f64 0,.float .f64 0,.float .f64 0,.float .f64 0,.float .f64 0,.float .f64 0,.float .f64 0,.float .f64 0] 29)).heap.size=w.heap.size+1 by simp] at h2;exact ⟨h1,h2,x4,x5⟩
set_option maxRecDepth 100000
set_option maxHeartbeats 16000000
theorem of_tells (n:Nat) (vz:Value) (f:Nat→Nat) (w:World) (hz:yH w vz n f) (hn:n≤1000):Calls Try.prog 13 #[vz] w (fun e w'=>∃ F,e=.returned (modV F)∧OfM n f F∧Below w.heap.size w w'):=by
 obtain ⟨za,zc,rfl,-,hz2⟩:=hz;have HZ:=hid hz2;have AL:=begin1 w;clear hz2;go_enter Try.func13,Try.ntmps13;go_upto_region 2 with fail
 generalize (w.alloc (.cells #[.float .f64 0,.float .f64 0,.float .f64 0,.float .f64 0,.float .f64 0,.float .f64 0,.float .f64 0,.float .f64 0,.float .f64 0,.float .f64 0,.float .f64 0,.float .f64 0,.float .f64 0,.float .f64 0,.float .f64 0,.float .f64 0,.float .f64 0,.float .f64 0,.float .f64 0,.float .f64 0] 29)).alloc (.cells #[.float .f64 0,.float .f64 0,.float .f64 0,.float .f64 0,.float .f64 0,.float .f64 0,.float .f64 0,.float .f64 0,.float .f64 0,.float .f64 0,.float .f64 0,.float .f64 0,.float .f64 0,.float .f64 0,.float .f64 0,.float .f64 0,.float .f64 0,.float .f64 0,.float .f64 0,.float .f64 0] 29)=X at *;generalize hB:w.heap.size=B at *;obtain ⟨HP,HQ,x4,x5⟩:=AL;have HX:=hid (show PB X B 10 (fun _=>(0,0))∧PB X (B+1) 10 (fun _=>(0,0))∧Below B w X from ⟨HP,HQ,x5⟩);clear HP HQ x5;go_wp2_with fail
 go_loopw [8] (fun i wr=>∃ (j:Nat) (F:Nat→PQ),j≤n∧i=.int .i64 j∧OfM j f F∧PB wr B 10 (fun _=>(0,0))∧PB wr (B+1) 10 F∧Below B w wr) (fun i _=>n-(intOf i).toNat)
 case atStart=>exact ⟨0,_,by omega,rfl,OfM.zero f,HX.out.1,HX.out.2.1,HX.out.2.2⟩
 case round=>
  clear HX;obtain ⟨j,F,h9,rfl,ho,hR,hm,hb⟩:=hrel;have hws:=hb.size;by_cases hlt:j<n
  ·have hltI:(j:Int)<n:=by omega
   obtain ⟨b,off,rfl,hbs,hc⟩:=HZ.out (by omega);obtain ⟨y,y1,y2,y3⟩:=hc j hlt;rw [← (zW (by rw [← hB] at hb; exact hb)).1 _ _ (by rw [hB]; exact hbs)] at y1;have HO:=hid ho;have HM:=hid hm;have HR:=hid hR;have HB:=hid hb;have lM:B+1<wr.heap.size:=hm.lt;have lR:B<wr.heap.size:=by omega
   clear ho hm hR hb hc;by_cases hlt9:j<9
   ·have hl9:(j:Int)<9:=by omega
    go_wp2_with fail;refine (sR y _).mono ?_;rintro e w1 ⟨rfl,hc1⟩;have hM1:=HM.out.below hc1 lM;have hR1:=HR.out.below hc1 lR;have s0:=hM1.at0 j (by omega);have s1:=hM1.at1 j (by omega);have s2:=hM1.free (j*2);have s3:=hM1.free (j*2+1);have HS:=hid (hM1.set (k:=j) (by omega) (y,y));have HW:=hid (((HB.out.trans (hc1.mono (by omega))).setCell (p:=⟨B+1,j*2,none⟩) (show B≤B+1 by omega) (.float .f64 y)).setCell (p:=⟨B+1,j*2+1,none⟩) (show B≤B+1 by omega) (.float .f64 y));have HR2:=hid ((hR1.other (B:=B+1) (o:=j*2) (by omega) (.float .f64 y)).other (B:=B+1) (o:=j*2+1) (by omega) (.float .f64 y));have HO2:=hid (HO.out.more y2 y3 hlt9);clear hM1 hR1 HM HR HB HO hc1 y1;unfold iv;go_wp2_with fail
    go_roundw
    case rel=>exact ⟨j+1,_,by omega,by go_num,HO2.out,HR2.out,HS.out,HW.out⟩
    case measure=>simp [intOf]; omega
   ·have hl9:¬ (j:Int)<9:=by omega
    have HO2:=hid (HO.out.skip (by omega));go_wp2_with fail
    go_roundw
    case rel=>exact ⟨j+1,_,by omega,by go_num,HO2.out,HR.out,HM.out,HB.out⟩
    case measure=>simp [intOf]; omega
  ·obtain rfl:j=n:=by omega
   have HO:=hid ho;have HM:=hid hm;have HR:=hid hR;have HB:=hid hb;clear ho hm hR hb;go_wp2_with (first | (refine wpList_loadM rfl _ rfl rfl HM.out ?_) | (refine wpList_storeM rfl _ _ rfl F rfl rfl HR.out ?_) | fail)
   intro w4 hr4 hb4 hs4;have hb5:=HB.out.trans hb4;clear hb4 HB HR HM;go_wp2_with fail;exact ret_mod _ Try.results13 rfl hr4 rfl ⟨F,rfl,HO.out,by first | exact hb5 | (rw [hB]; exact hb5)⟩
theorem rof_tells (n:Nat) (vz:Value) (f:Nat→Nat) (w:World) (hz:yH w vz n f) (hn:n≤1000) (hn9:n≤9):Calls Try.prog 27 #[vz] w (fun e w'=>∃ F,e=.returned (modV F)∧OfM n f F∧Below w.heap.size w w'):=by
 obtain ⟨za,zc,rfl,-,hz2⟩:=hz;have HZ:=hid hz2;have AL:=begin1 w;clear hz2;go_enter Try.func27,Try.ntmps27;go_upto_region 2 with fail
 generalize (w.alloc (.cells #[.float .f64 0,.float .f64 0,.float .f64 0,.float .f64 0,.float .f64 0,.float .f64 0,.float .f64 0,.float .f64 0,.float .f64 0,.float .f64 0,.float .f64 0,.float .f64 0,.float .f64 0,.float .f64 0,.float .f64 0,.float .f64 0,.float .f64 0,.float .f64 0,.float .f64 0,.float .f64 0] 29)).alloc (.cells #[.float .f64 0,.float .f64 0,.float .f64 0,.float .f64 0,.float .f64 0,.float .f64 0,.float .f64 0,.float .f64 0,.float .f64 0,.float .f64 0,.float .f64 0,.float .f64 0,.float .f64 0,.float .f64 0,.float .f64 0,.float .f64 0,.float .f64 0,.float .f64 0,.float .f64 0,.float .f64 0] 29)=X at *;generalize hB:w.heap.size=B at *;obtain ⟨HP,HQ,x4,x5⟩:=AL;have HX:=hid (show PB X B 10 (fun _=>(0,0))∧PB X (B+1) 10 (fun _=>(0,0))∧Below B w X from ⟨HP,HQ,x5⟩);clear HP HQ x5;go_wp2_with fail
 go_loopw [4] (fun i wr=>∃ (j:Nat) (F:Nat→PQ),j≤n∧i=.int .i64 j∧OfM j f F∧PB wr B 10 (fun _=>(0,0))∧PB wr (B+1) 10 F∧Below B w wr) (fun i _=>n-(intOf i).toNat)
 case atStart=>exact ⟨0,_,by omega,rfl,OfM.zero f,HX.out.1,HX.out.2.1,HX.out.2.2⟩
 case round=>
  clear HX;obtain ⟨j,F,h9,rfl,ho,hR,hm,hb⟩:=hrel;have hws:=hb.size;by_cases hlt:j<n
  ·have hltI:(j:Int)<n:=by omega
   obtain ⟨b,off,rfl,hbs,hc⟩:=HZ.out (by omega);obtain ⟨y,y1,y2,y3⟩:=hc j hlt;rw [← (zW (by rw [← hB] at hb; exact hb)).1 _ _ (by rw [hB]; exact hbs)] at y1;have HO:=hid ho;have HM:=hid hm;have HR:=hid hR;have HB:=hid hb;have lM:B+1<wr.heap.size:=hm.lt;have lR:B<wr.heap.size:=by omega
   clear ho hm hR hb hc;have hlt9:j<9:=by omega
   have hl9:(j:Int)<9:=by omega
   go_wp2_with fail;refine (sK y _).mono ?_;rintro e w1 ⟨rfl,hc1⟩;have hM1:=HM.out.below hc1 lM;have hR1:=HR.out.below hc1 lR;have s0:=hM1.at0 j (by omega);have s1:=hM1.at1 j (by omega);have s2:=hM1.free (j*2);have s3:=hM1.free (j*2+1);have HS:=hid (hM1.set (k:=j) (by omega) (y,y));have HW:=hid (((HB.out.trans (hc1.mono (by omega))).setCell (p:=⟨B+1,j*2,none⟩) (show B≤B+1 by omega) (.float .f64 y)).setCell (p:=⟨B+1,j*2+1,none⟩) (show B≤B+1 by omega) (.float .f64 y));have HR2:=hid ((hR1.other (B:=B+1) (o:=j*2) (by omega) (.float .f64 y)).other (B:=B+1) (o:=j*2+1) (by omega) (.float .f64 y));have HO2:=hid (HO.out.more y2 y3 hlt9);clear hM1 hR1 HM HR HB HO hc1 y1;unfold iv;go_wp2_with fail
   go_roundw
   case rel=>exact ⟨j+1,_,by omega,by go_num,HO2.out,HR2.out,HS.out,HW.out⟩
   case measure=>simp [intOf]; omega
  ·obtain rfl:j=n:=by omega
   have HO:=hid ho;have HM:=hid hm;have HR:=hid hR;have HB:=hid hb;clear ho hm hR hb;go_wp2_with (first | (refine wpList_loadM rfl _ rfl rfl HM.out ?_) | (refine wpList_storeM rfl _ _ rfl F rfl rfl HR.out ?_) | fail)
   intro w4 hr4 hb4 hs4;have hb5:=HB.out.trans hb4;clear hb4 HB HR HM;go_wp2_with fail;exact ret_mod _ Try.results27 rfl hr4 rfl ⟨F,rfl,HO.out,by first | exact hb5 | (rw [hB]; exact hb5)⟩
end Go.Proofs.Ytgnledamhjbafaa
