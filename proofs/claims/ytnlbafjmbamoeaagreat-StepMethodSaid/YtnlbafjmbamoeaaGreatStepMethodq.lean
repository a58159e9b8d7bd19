/-
  'StepMethod': the law answers true, whatever it is given: every input, no condition.
-/
import Derived.Deep.CutBlock
import Derived.Deep.MidRow
import Derived.Test.YtnlbafjmbamoeaaGreatRows
import Derived.WalkKit
import Derived.WalkLawsBesides
import Derived.ProofKit
import Derived.OpenShut
import Derived.Carry
import Derived.Test.YtnlbafjmbamoeaaGreatQt
namespace Go.Proofs.YtnlbafjmbamoeaaGreat
open Go.RowKit
open Ieee (double)
open Lib
attribute [local go_sem] zr zi zy zn zU zS zW zX zV zY zD zH zI zJ zK zB ye z8 zF yE zN zQ zR
theorem zT.keepS {X W:World} {q n:Nat} {v:Value} {f:Nat→Nat} {a:Option Addr} {l c:Nat} {x y:Int} {t:TypeId} (h:zT X v n f) (hq:X.heap[q]? = some (.cells #[.slice a l c,.int .i64 x,.int .i64 y] t)) (hk:zM X q W):zT W v n f:=by
 obtain ⟨a,c,rfl,h1,h2⟩:=h;refine ⟨a,c,rfl,h1,fun h0=>?_⟩;obtain ⟨b,o,rfl,hb,hc⟩:=h2 h0
 have hne:b≠q:=by
  rintro rfl;obtain ⟨y0,e,-⟩:=hc 0 h0;rw [zf hq] at e;rcases (show o+0=0∨o+0=1∨o+0=2∨3≤o+0 by omega) with g | g | g | g
  ·rw [g] at e; simp at e
  ·rw [g] at e; simp at e
  ·rw [g] at e; simp at e
  ·rw [Array.getElem?_eq_none (by simpa using g)] at e; cases e
 refine ⟨b,o,rfl,Nat.lt_of_lt_of_le hb hk.size,fun i hi=>?_⟩;exact (hc i hi).same (hk.cell hb hne _)
theorem rcorr_any (n:Nat) (T:TD) (vo vu vz vl vw:Value) (m:Nat) (t:Int) (M:Nat) (z:Nat→Nat→Nat) (l wt:Nat→Nat) (w:World) (hx:xT w n T vo vu vz vl vw m z l wt)
  (hck:yq T=true) (hcs:∀ i,(T.op i).c<18446744073709551616) (hn:T.n=n) (h1:1≤n) (h4:n≤4) (hm:2≤m) (hM:M<2) :
  Calls Tryz.prog 27 #[.agg #[.int .i64 n,vo,vu],vz,vl,.int .i64 t,.int .i64 M,vw] w (lm n (y9 T z wt (l 0) (xh t) n (M==1)) w):=by
 rcases (show M=0∨M=1 by omega) with rfl | rfl
 ·exact oc n T vo vu vz vl vw m t z l wt w hx hck (fun i _=>hcs i) hn h1 h4 hm
 ·exact mm n T vo vu vz vl vw m t z l wt w hx hck (fun i _=>hcs i) hn h1 h4 hm
theorem lm.hasOut {n:Nat} {S:rA} {w:World} {e:Ending} {w':World} (h:lm n S w e w') (hh:S.has=true):Below w.heap.size w w'∧∃ p c,e=.returned (.agg #[.slice p n c,.int .i64 S.tries,.int .i64 S.e])∧zT w' (.slice p n c) n S.d:=by
 obtain ⟨hb,h⟩:=h;rcases h with ⟨-,v,rfl,ho⟩ | ⟨h2,-⟩
 ·obtain ⟨a,c,rfl,-⟩:=id ho;exact ⟨hb,a,c,rfl,ho⟩
 ·rw [hh] at h2;cases h2
theorem try_method {T:TD} {n a r:Nat} {lo en:Int} {s:Sol}:(uG T n a r lo en s).took=true→(pP T n a r s).has=true∧(uG T n a r lo en s).N.rows=s.q+1∧(uG T n a r lo en s).N.z=wb (wG s.z s.q) (coF s.M s.q) (pP T n a r s).d:=
 tryF_cases (P:=fun R=>R.took=true→(pP T n a r s).has=true∧R.N.rows=s.q+1∧R.N.z=wb (wG s.z s.q) (coF s.M s.q) (pP T n a r s).d) (fun _ _ _ h=>Bool.noConfusion h) (fun _ _ _ h=>Bool.noConfusion h) (fun hh _ _ _=>⟨hh,rfl,rfl⟩)
set_option maxRecDepth 100000
set_option maxHeartbeats 16000000
theorem stepMethod_any (v0:Value) (S0:ShD) (st:Int) (w:World) (h0:ShAt w v0 S0) (_:-9223372036854775808≤st∧st≤9223372036854775807) :
  Calls Tryz.prog 7 #[v0,.int .i64 st] w fun e w'=>e=.returned (.bool true)∧Below w.heap.size w w':=by
 have H0:=hid h0;obtain ⟨hr,u1,u2,u3,rfl,h1,h2,h3⟩:=id h0;obtain ⟨a1,c1,rfl⟩:=h1.slice;obtain ⟨a2,c2,rfl⟩:=h2.slice;obtain ⟨a3,c3,rfl⟩:=h3.slice;have AL:=al1 w (.cells #[.int .i64 S0.n,.int .i64 S0.first,.int .i64 S0.least,.int .i64 S0.tol,.int .i64 S0.en,.slice a1 S0.ns.length c1,.slice a2 S0.ms.length c2,.slice a3 S0.outs.length c3,.bool S0.div] 24);clear hr h1 h2 h3 h0;go_enter Tryz.func7,Tryz.ntmps7;go_upto_region 1 with fail
 generalize w.alloc (.cells #[.int .i64 S0.n,.int .i64 S0.first,.int .i64 S0.least,.int .i64 S0.tol,.int .i64 S0.en,.slice a1 S0.ns.length c1,.slice a2 S0.ms.length c2,.slice a3 S0.outs.length c3,.bool S0.div] 24)=X at *;generalize hB:w.heap.size=B at *;obtain ⟨x1,x2,x3⟩:=AL;have SB:=hid (fun W (hW:Below X.heap.size X W)=>(hW.block B (by omega)).trans x1);have BX:=hid (fun W (hW:Below X.heap.size X W)=>(show Below B w W from x3.trans (hW.mono (by omega))));clear x1 x2 x3;go_wp2_with fail;refine (ke X).mono ?_;rintro e w1 ⟨rfl,hb1⟩;have HB1:=hid hb1;clear hb1
 go_wp2_with (first
  | (refine wpList_load_row rfl 24 _ rfl B rfl 24 #[.int .i64 S0.n,.int .i64 S0.first,.int .i64 S0.least,.int .i64 S0.tol,.int .i64 S0.en,.slice a1 S0.ns.length c1,.slice a2 S0.ms.length c2,.slice a3 S0.outs.length c3,.bool S0.div] _ _ (SB.out w1 HB1.out) Tryz.underlying24 rfl (by kernel_rfl) ?_)
  | fail)
 refine (kE S0.n S0.first S0.least S0.tol S0.en a1 a2 a3 S0.ns.length S0.ms.length S0.outs.length c1 c2 c3 S0.div w1).mono ?_;rintro e w2 ⟨rfl,hb2⟩;have HB2:=hid (HB1.out.trans (hb2.mono HB1.out.size));clear hb2 HB1;generalize (decide (S0.ns.length≤60)&&(decide (S0.ms.length≤60)&&decide (S0.outs.length≤60)))=fb at *;cases fb
 case false=>
  go_wp2_with fail;go_ret;exact ⟨rfl,hB ▸ BX.out _ HB2.out⟩
 go_wp2_with (first
  | (refine wpList_load_row rfl 24 _ rfl B rfl 24 #[.int .i64 S0.n,.int .i64 S0.first,.int .i64 S0.least,.int .i64 S0.tol,.int .i64 S0.en,.slice a1 S0.ns.length c1,.slice a2 S0.ms.length c2,.slice a3 S0.outs.length c3,.bool S0.div] _ _ (SB.out w2 HB2.out) Tryz.underlying24 rfl (by kernel_rfl) ?_)
  | fail)
 refine (mp S0 _ w2 (H0.out.below (hB ▸ BX.out w2 HB2.out))).mono ?_;rintro e w3 ⟨vo,vu,vb,vy,vt,rfl,hT,hY,hBx,hO,hb3⟩;obtain ⟨⟨ao,lo',co,rfl⟩,⟨au,lu,cu,rfl⟩⟩:=hT.slices;obtain ⟨ay,cy,rfl,-,-⟩:=id hY;obtain ⟨ab,cb,rfl,-,-⟩:=id hBx;obtain ⟨at',ct,rfl,-,-⟩:=id hO;have HB3:=hid (HB2.out.trans (hb3.mono HB2.out.size))
 have hN1:1≤shN S0∧shN S0≤3:=by
  have:=Int.emod_nonneg S0.n (show (3:Int)≠0 by decide);have:=Int.emod_lt_of_pos S0.n (show (0:Int)<3 by decide);unfold shN; omega
 have hTN:(shT S0).n=(shN S0:Nat):=by
  have:=Int.emod_nonneg S0.n (show (3:Int)≠0 by decide);show 1+S0.n % 3=((1+S0.n % 3).toNat:Int); omega
 have HCK:=hid (show yq (shT S0)=true from kR S0.n (fun i=>S0.ns.getD i 0) S0.ns.length S0.div);have HCS:=hid (show ∀ i,((shT S0).op i).c<18446744073709551616 from fun i=>opAt_c _ _ _ _);have HEN:=hid (show 1≤shE S0∧shE S0≤1073741824 from ⟨lV S0,kD S0⟩);have hLO:1≤tk (shL S0):=uZ _;have hKF:shK S0≤28:=by have:=Int.emod_lt_of_pos S0.first (show (0:Int)<13 by decide); unfold shK; omega
 have HTA:=hid hT;have HYA:=hid hY;have HTN:=hid hTN;clear hT hY hBx hO hb3 hTN HB2 H0;generalize shT S0=T at *;generalize shN S0=n at *;generalize shE S0=en at *;generalize tk (shL S0)=lo at *;generalize shK S0=kf at *;generalize shA S0=pa at *;generalize shR S0=pr at *;generalize shM S0=lt at *;have AL:=hid (al1 w3 (.cells #[.int .i64 n,.slice ao lo' co,.slice au lu cu,.slice ab n cb,.slice ay n cy,.int .i64 en,.int .i64 (tk kf),.int .i64 lo,.float .f64 pa,.float .f64 pr,.float .f64 4616189618054758400,.int .i64 24,.slice at' lt ct] 33));go_upto_region 6 with fail
 generalize w3.alloc (.cells #[.int .i64 n,.slice ao lo' co,.slice au lu cu,.slice ab n cb,.slice ay n cy,.int .i64 en,.int .i64 (tk kf),.int .i64 lo,.float .f64 pa,.float .f64 pr,.float .f64 4616189618054758400,.int .i64 24,.slice at' lt ct] 33)=Y at *;obtain ⟨Pp,hPp⟩:∃ P,w3.heap.size=P:=⟨_,rfl⟩;obtain ⟨y1,y2,y3⟩:=AL.out;have HTY:=hid (HTA.out.below y3);have HYY:=hid (HYA.out.below y3);rw [hPp] at y1 y2 y3;simp only [hPp];have HPY:=hid y1;have HBY:=hid (HB3.out.trans (y3.mono (by have:=HB3.out.size; omega)));have hPY:Pp<Y.heap.size:=by omega
 clear y1 y2 y3 AL HTA HYA HB3 hPp
 go_wp2_with (first
  | (refine wpList_load_row rfl 33 _ rfl Pp rfl 33 #[.int .i64 n,.slice ao lo' co,.slice au lu cu,.slice ab n cb,.slice ay n cy,.int .i64 en,.int .i64 (tk kf),.int .i64 lo,.float .f64 pa,.float .f64 pr,.float .f64 4616189618054758400,.int .i64 24,.slice at' lt ct] _ _ HPY.out Tryz.underlying33 rfl (by kernel_rfl) ?_)
  | fail)
 refine (kd n T _ _ _ _ _ _ en (tk kf) lo 24 pa pr _ Y HTY.out HYY.out HCK.out (fun i _=>HCS.out i) HTN.out hN1.1 (by omega)).mono ?_;rintro e Wb ⟨v,rfl,ho,hb4⟩;obtain ⟨az0,cz0,rfl⟩:=ho.shape;have AL:=hid (al1 Wb (.cells #[.int .i64 0,.int .i64 (tk kf),.int .i64 1,.int .i64 0,.slice az0 2 cz0,.int .i64 0,.int .i64 0,.int .i64 0] 39));have HO4:=hid ho;have HTB:=hid (HTY.out.below hb4);have HPB:=hid ((hb4.block Pp hPY).trans HPY.out);have HBB:=hid (HBY.out.trans (hb4.mono HBY.out.size));have hPB:Pp<Wb.heap.size:=Nat.lt_of_lt_of_le hPY hb4.size;clear ho hb4 HTY HPY HBY HYY;go_upto_region 7 with fail
 generalize Wb.alloc (.cells #[.int .i64 0,.int .i64 (tk kf),.int .i64 1,.int .i64 0,.slice az0 2 cz0,.int .i64 0,.int .i64 0,.int .i64 0] 39)=V0 at *;obtain ⟨Px,hPx⟩:∃ P,Wb.heap.size=P:=⟨_,rfl⟩;obtain ⟨y1,y2,y3⟩:=AL.out;have HZ0:=hid ((HO4.out.below y3).tabK (b0:=0) (by omega) (by omega));rw [hPx] at y1 y3;simp only [hPx];have HX0:=hid y1;have HBV:=hid y3;have hPpx:Pp<Px:=hPx ▸ hPB;have HPX:=hid hPx;clear y1 y2 y3 AL HO4 hPx;have s1:=Int.emod_nonneg st (show (12:Int)≠0 by decide);have s2:=Int.emod_lt_of_pos st (show (0:Int)<12 by decide);have WS:=hid (fun W=>wU st 12 W (by decide) (by decide));generalize st % 12=sm at *;have k1:IntKind.i64.wrap (4+sm)=4+sm:=IntWalk.i64_in _ (by omega);go_wp2_with fail
 go_loopw [7] (fun i wr=>∃ (j:Nat) (s:Sol) (az:Option Addr) (cz:Nat),j≤4+sm.toNat∧i=.int .i64 j∧v8 j lo s∧wr.heap[Px]? = some (.cells #[.int .i64 s.at_,.int .i64 (tk s.k),.int .i64 s.q,.int .i64 s.M,.slice az (s.q+1) cz,.int .i64 s.good,.int .i64 s.fails,.int .i64 s.slow] 39)∧wi 0 wr (.slice az (s.q+1) cz) (s.q+1) n s.z∧Below Px Wb wr) (fun i _=>4+sm.toNat-(intOf i).toNat)
 case atStart=>exact ⟨0,⟨0,kf,1,0,xq T (uV S0.ms) (xh (tk kf)),0,0,0⟩,az0,cz0,by omega,rfl,⟨Nat.le_refl 1,by show 1+0≤5; omega,by show kf≤32; omega,by show 0<2; omega,hLO,⟨Int.le_refl 0,by show (0:Int)≤((0:Nat):Int)*4294967296; decide⟩,⟨Int.le_refl 0,Int.le_refl 0⟩,⟨Int.le_refl 0,by show (0:Int)≤2; decide⟩,⟨Int.le_refl 0,by show (0:Int)≤1; decide⟩⟩,HX0.out,HZ0.out,HBV.out⟩
 case round=>
  clear HZ0 HX0 HBV;obtain ⟨j,s,az,cz,hj,rfl,hs,hx,hz,hb⟩:=hrel;have HPW:=hid ((hb.block Pp hPpx).trans HPB.out);have HXW:=hid hx;have hXw:=zj hx;have hPw:Pp<wr.heap.size:=by omega
  have HBW:=hid hb;have HZW:=hid hz;have HSA:=hid hs;clear hx hz hb;by_cases hjm:(j:Int)<4+sm
  ·have hj24:j≤1000:=by omega
   have HOK:=hid (hs.ok hj24);have hTW:=(HTB.out.below (HPX.out ▸ HBW.out))
   have hq6:s.q≤5:=by have:=hs.q5; omega
   have hq1:=hs.q1;have HNX:=hid (try_at hs (show en≤2147483648 by have:=HEN.out; omega) T n pa pr);have HFA:=hid (try_method (T:=T) (n:=n) (a:=pa) (r:=pr) (lo:=lo) (en:=en) (s:=s));have HTW:=hid hTW;have HMS:=hid (show s.M<2∧s.q+s.M≤5 from ⟨hs.M,hs.q5⟩);have HSV:=hid (fun W vz vl vw (hx:xT W n T (.slice ao lo' co) (.slice au lu cu) vz vl vw (s.q+1) (wG s.z s.q) (coF s.M s.q) (wtF (s.z 0) pa pr))=>ng n T s.M HMS.out.1 HCK.out HCS.out HTN.out hN1.1 (by omega) (.slice ao lo' co) (.slice au lu cu) vz vl vw (s.q+1) (tk s.k) (wG s.z s.q) (coF s.M s.q) (wtF (s.z 0) pa pr) W hx (by omega));have HCE:=hid (lj T (wG s.z s.q) (wtF (s.z 0) pa pr) (coF s.M s.q 0) (xh (tk s.k)) n (s.M==1));unfold pP at HFA;obtain ⟨SD,hSD⟩:∃ S,y9 T (wG s.z s.q) (wtF (s.z 0) pa pr) (coF s.M s.q 0) (xh (tk s.k)) n (s.M==1)=S:=⟨_,rfl⟩;simp only [hSD] at HFA HSV HCE;clear hSD;have hRq:(uG T n pa pr lo en s).S.q≤10:=by have:=HNX.out.q5; omega
   have hRr:(uG T n pa pr lo en s).N.rows≤10:=by have:=kF T n pa pr lo en s; omega
   have AS:=hid (fun W (hW:Below wr.heap.size wr W)=>as_tells n s.q s.at_ (tk s.k) s.good s.fails s.slow s.M _ s.z hq1 hq6 hN1.1 (by omega) W (HZW.out.below hW).tab);have TR:=hid (fun W (hW:Below wr.heap.size wr W) vz (hz:yB W vz (s.q+1) (fun _=>n) s.z)=>(lR n T (.slice ao lo' co) (.slice au lu cu) (.slice ab n cb) (.slice ay n cy) (.slice at' lt ct) vz en (tk kf) lo 24 pa pr 4616189618054758400 s W (hTW.below hW) hz HOK.out HCK.out HCS.out HTN.out hN1.1 (by omega)).mono fun e w' h=>h.two hRq hRr (by omega));have RR:=hid (fun W (hW:Below wr.heap.size wr W)=>(rtry_any n 0 T (.slice ao lo' co) (.slice au lu cu) (.slice ab n cb) (.slice ay n cy) (.slice at' lt ct) _ en (tk kf) lo 24 pa pr 4616189618054758400 s W (hTW.below hW) (Nat.zero_le _) (HZW.out.below hW) HOK.out HCK.out HCS.out HTN.out hN1.1 (by omega)).mono fun e w' h=>h.two);clear hTW hs HOK hj24;generalize uG T n pa pr lo en s=R at *;clear hRr;go_wp2_with fail;refine (WS.out _).mono ?_;rintro e w' ⟨rfl,rfl⟩;go_upto_region 10 with fail
   go_cut [8,9] (fun u v wx=>∃ (P7 P8:Nat) (b1:Option Addr) (e1:Nat) (b2:Option Addr) (e2 y1:Nat) (g1:Option Addr) (f1:Nat) (g2:Option Addr) (f2 y2:Nat),u=.pointer (some ⟨P7,0,none⟩)∧v=.pointer (some ⟨P8,0,none⟩)∧wx.heap[P7]? = some (.cells #[.int .i64 R.S.at_,.int .i64 (tk R.S.k),.int .i64 R.S.q,.int .i64 R.S.M,.slice b1 (R.S.q+1) e1,.int .i64 R.S.good,.int .i64 R.S.fails,.int .i64 R.S.slow,.int .i64 R.N.at_,.int .i64 R.N.st,.int .i64 R.N.q,.int .i64 R.N.M,.slice b2 R.N.rows e2,.bool R.took,.float .f64 y1,.int .i64 R.e] 45)∧wx.heap[P8]? = some (.cells #[.int .i64 R.S.at_,.int .i64 (tk R.S.k),.int .i64 R.S.q,.int .i64 R.S.M,.slice g1 (R.S.q+1) f1,.int .i64 R.S.good,.int .i64 R.S.fails,.int .i64 R.S.slow,.int .i64 R.N.at_,.int .i64 R.N.st,.int .i64 R.N.q,.int .i64 R.N.M,.slice g2 R.N.rows f2,.bool R.took,.float .f64 y2,.int .i64 R.e] 49)∧zk y1=R.err∧zk y2=R.err ∧
    wi 0 wx (.slice b1 (R.S.q+1) e1) (R.S.q+1) n R.S.z∧wi 0 wx (.slice b2 R.N.rows e2) R.N.rows n R.N.z∧wi 0 wx (.slice g1 (R.S.q+1) f1) (R.S.q+1) n R.S.z∧wi 0 wx (.slice g2 R.N.rows f2) R.N.rows n R.N.z∧Below wr.heap.size wr wx)
   case first=>
    refine uO [(5,3),(4,3),(1,3),(0,3)] [2,3,6,7,8,9,10] [0,1,4,5] [(3,[2]),(6,[3]),(9,[3,6,7]),(10,[3,6,7,8,9])] (fun W=>Below wr.heap.size wr W) (fun L a w=>∃ v2 v3 v6 v7 v8:Value,a=⟨#[.agg #[.int .i64 S0.n,.int .i64 S0.first,.int .i64 S0.least,.int .i64 S0.tol,.int .i64 S0.en,.slice a1 S0.ns.length c1,.slice a2 S0.ms.length c2,.slice a3 S0.outs.length c3,.bool S0.div],.int .i64 st,.pointer (some ⟨B,0,none⟩),undef,u4,.pointer (some ⟨Pp,0,none⟩),.pointer (some ⟨Px,0,none⟩),.int .i64 j,v7,v8,u10,u11,u12,u13,.bool true,.bool false,.agg #[.int .i64 S0.n,.int .i64 S0.first,.int .i64 S0.least,.int .i64 S0.tol,.int .i64 S0.en,.slice a1 S0.ns.length c1,.slice a2 S0.ms.length c2,.slice a3 S0.outs.length c3,.bool S0.div],.bool true,.bool false,.agg #[.int .i64 S0.n,.int .i64 S0.first,.int .i64 S0.least,.int .i64 S0.tol,.int .i64 S0.en,.slice a1 S0.ns.length c1,.slice a2 S0.ms.length c2,.slice a3 S0.outs.length c3,.bool S0.div],.agg #[.int .i64 n,.slice ao lo' co,.slice au lu cu,.slice ab n cb,.slice ay n cy,.int .i64 en,.int .i64 (tk kf),.int .i64 lo,.float .f64 pa,.float .f64 pr,.float .f64 4616189618054758400,.int .i64 24,.slice at' lt ct],.agg #[.int .i64 n,.slice ao lo' co,.slice au lu cu,.slice ab n cb,.slice ay n cy,.int .i64 en,.int .i64 (tk kf),.int .i64 lo,.float .f64 pa,.float .f64 pr,.float .f64 4616189618054758400,.int .i64 24,.slice at' lt ct],.agg #[.int .i64 0,.int .i64 (tk kf),.int .i64 1,.int .i64 0,.slice az0 2 cz0,.int .i64 0,.int .i64 0,.int .i64 0],.int .i64 j,.int .i64 st,.int .i64 sm,.int .i64 (4+sm),.bool true,u28,u29,.agg #[.int .i64 n,.slice ao lo' co,.slice au lu cu,.slice ab n cb,.slice ay n cy,.int .i64 en,.int .i64 (tk kf),.int .i64 lo,.float .f64 pa,.float .f64 pr,.float .f64 4616189618054758400,.int .i64 24,.slice at' lt ct],.agg #[.int .i64 s.at_,.int .i64 (tk s.k),.int .i64 s.q,.int .i64 s.M,.slice az (s.q+1) cz,.int .i64 s.good,.int .i64 s.fails,.int .i64 s.slow],v2,v3,.agg #[.int .i64 n,.slice ao lo' co,.slice au lu cu,.slice ab n cb,.slice ay n cy,.int .i64 en,.int .i64 (tk kf),.int .i64 lo,.float .f64 pa,.float .f64 pr,.float .f64 4616189618054758400,.int .i64 24,.slice at' lt ct],.agg #[.int .i64 s.at_,.int .i64 (tk s.k),.int .i64 s.q,.int .i64 s.M,.slice az (s.q+1) cz,.int .i64 s.good,.int .i64 s.fails,.int .i64 s.slow],v6,u37,u38,u39,u40,u41,u42,u43,u44,u45,u46,u47,u48,u49,u50,u51,u52,u53,u54,u55,u56,u57,u58,u59,u60,u61,u62,u63,u64,u65,u66,u67,u68,u69,u70,u71,u72,u73,u74,u75,u76,u77,u78,u79,u80,u81,u82,u83,u84,u85,u86,u87,u88,u89,u90,u91,u92,u93],[]⟩∧On wr n s R L w v2 v3 v6 v7 v8) (by kernel_rfl) (by kernel_rfl) (fun _ _ d _ _ h=>by cases d<;>exact h) ((Below.refl _ _).drew)
     (.cons ?o2 (.cons ?o3 (.cons ?o6 (.cons ?o7 (.cons ?o8 (.cons ?o9 (.cons ?o10 .nil))))))) ?fin ?ini
    case ini=>
     intro Z hZ hbZ;clear hZ;refine rf (v:=.agg #[.int .i64 s.at_,.int .i64 (tk s.k),.int .i64 s.q,.int .i64 s.M,.slice az (s.q+1) cz,.int .i64 s.good,.int .i64 s.fails,.int .i64 s.slow]) rfl rfl (fun wk hwk=>?_) ?_
     ·exact keep_row 39 _ rfl Px rfl 39 #[.int .i64 s.at_,.int .i64 (tk s.k),.int .i64 s.q,.int .i64 s.M,.slice az (s.q+1) cz,.int .i64 s.good,.int .i64 s.fails,.int .i64 s.slow] _ ((hwk.block Px hXw).trans HXW.out) Tryz.underlying39 rfl (by kernel_rfl)
     refine rf (v:=.agg #[.int .i64 n,.slice ao lo' co,.slice au lu cu,.slice ab n cb,.slice ay n cy,.int .i64 en,.int .i64 (tk kf),.int .i64 lo,.float .f64 pa,.float .f64 pr,.float .f64 4616189618054758400,.int .i64 24,.slice at' lt ct]) rfl rfl (fun wk hwk=>?_) ?_
     ·exact keep_row 33 _ rfl Pp rfl 33 #[.int .i64 n,.slice ao lo' co,.slice au lu cu,.slice ab n cb,.slice ay n cy,.int .i64 en,.int .i64 (tk kf),.int .i64 lo,.float .f64 pa,.float .f64 pr,.float .f64 4616189618054758400,.int .i64 24,.slice at' lt ct] _ ((hwk.block Pp hPw).trans HPW.out) Tryz.underlying33 rfl (by kernel_rfl)
     refine rf (v:=.agg #[.int .i64 s.at_,.int .i64 (tk s.k),.int .i64 s.q,.int .i64 s.M,.slice az (s.q+1) cz,.int .i64 s.good,.int .i64 s.fails,.int .i64 s.slow]) rfl rfl (fun wk hwk=>?_) ?_
     ·exact keep_row 39 _ rfl Px rfl 39 #[.int .i64 s.at_,.int .i64 (tk s.k),.int .i64 s.q,.int .i64 s.M,.slice az (s.q+1) cz,.int .i64 s.good,.int .i64 s.fails,.int .i64 s.slow] _ ((hwk.block Px hXw).trans HXW.out) Tryz.underlying39 rfl (by kernel_rfl)
     refine rf (v:=.agg #[.int .i64 n,.slice ao lo' co,.slice au lu cu,.slice ab n cb,.slice ay n cy,.int .i64 en,.int .i64 (tk kf),.int .i64 lo,.float .f64 pa,.float .f64 pr,.float .f64 4616189618054758400,.int .i64 24,.slice at' lt ct]) rfl rfl (fun wk hwk=>?_) ?_
     ·exact keep_row 33 _ rfl Pp rfl 33 #[.int .i64 n,.slice ao lo' co,.slice au lu cu,.slice ab n cb,.slice ay n cy,.int .i64 en,.int .i64 (tk kf),.int .i64 lo,.float .f64 pa,.float .f64 pr,.float .f64 4616189618054758400,.int .i64 24,.slice at' lt ct] _ ((hwk.block Pp hPw).trans HPW.out) Tryz.underlying33 rfl (by kernel_rfl)
     refine r6 fun L hL=>⟨_,_,_,_,_,rfl,hbZ,?_,?_,?_,?_,?_,?_,?_,?_,?_⟩
     ·exact fun h=>absurd h (by rw [hL 9 (by decide)]; decide)
     ·exact fun h=>absurd h (by rw [hL 10 (by decide)]; decide)
     ·exact fun h=>absurd h (by rw [hL 2 (by decide)]; decide)
     ·exact fun h=>absurd h (by rw [hL 3 (by decide)]; decide)
     ·exact fun h=>absurd h (by rw [hL 6 (by decide)]; decide)
     ·exact fun h=>absurd h (by rw [hL 7 (by decide)]; decide)
     ·exact fun h=>absurd h (by rw [hL 8 (by decide)]; decide)
     ·exact fun h=>absurd h (by rw [hL 9 (by decide)]; decide)
     ·exact fun h=>absurd h (by rw [hL 10 (by decide)]; decide)
    case o2=>
     rintro L a w hL hd ⟨v2,v3,v6,v7,v8,rfl,hI⟩ K hK;go_simp;refine (AS.out w hI.b).mono ?_;rintro e w' ⟨v,rfl,ho2,hst⟩;obtain ⟨av,cv,rfl⟩:=ho2.shape;have hb:=hI.b.trans (hst.mono hI.b.size);exact hK _ _ (fun _=>hb) ⟨_,_,_,_,_,rfl,hb,hI.o7,hI.o8,fun _ _=>⟨av,cv,rfl,(ho2.base (b':=wr.heap.size) hI.b.size).tab (by omega) (by omega)⟩,fun h=>(hI.h3 h).below hst,fun h=>(hI.h6 h).below hst,fun h g=>(hI.h7 h g).below hst,fun h g=>(hI.h8 h g).below hst,fun h=>(hI.h9 h).below hst,fun h=>(hI.h10 h).below hst⟩
    case o3=>
     rintro L a w hL hd ⟨v2,v3,v6,v7,v8,rfl,hI⟩ K hK;have h2:=hd 2 (by decide);obtain ⟨av,cv,rfl,ht⟩:=hI.h2 h2 hL;go_simp;refine (TR.out w hI.b _ ht).mono ?_;rintro e w' ⟨hst,b1,e1,b2,e2,y1,rfl,hq1,-,ht1,hn1⟩;have hb:=hI.b.trans (hst.mono hI.b.size);exact hK _ _ (fun _=>hb) ⟨_,_,_,_,_,rfl,hb,hI.o7,hI.o8,fun _ g=>Bool.noConfusion g,fun _=>⟨b1,e1,b2,e2,y1,rfl,hq1,ht1,hn1⟩,fun h=>(hI.h6 h).below hst,fun h g=>(hI.h7 h g).below hst,fun h g=>(hI.h8 h g).below hst,fun h=>(hI.h9 h).below hst,fun h=>(hI.h10 h).below hst⟩
    case o6=>
     rintro L a w hL hd ⟨v2,v3,v6,v7,v8,rfl,hI⟩ K hK;go_simp;refine (RR.out w hI.b).mono ?_;rintro e w' ⟨hst,b1,e1,b2,e2,y1,rfl,hq1,-,ht1,hn1⟩;have hb:=hI.b.trans (hst.mono hI.b.size);exact hK _ _ (fun _=>hb) ⟨_,_,_,_,_,rfl,hb,hI.o7,hI.o8,fun h g=>by obtain ⟨av,cv,e,h⟩:=hI.h2 h g; exact ⟨av,cv,e,h.below hst⟩,fun h=>(hI.h3 h).below hst,fun _=>⟨b1,e1,b2,e2,y1,rfl,hq1,ht1,hn1⟩,fun h g=>(hI.h7 h g).below hst,fun h g=>(hI.h8 h g).below hst,fun h=>(hI.h9 h).below hst,fun h=>(hI.h10 h).below hst⟩
    case o7=>
     rintro L a w hL hd ⟨v2,v3,v6,v7,v8,rfl,hI⟩ K hK;go_simp;obtain ⟨y1,y2,hst⟩:=al1 w (.cells #[.int .i64 0,.int .i64 0,.int .i64 0,.int .i64 0,.slice none 0 0,.int .i64 0,.int .i64 0,.int .i64 0,.int .i64 0,.int .i64 0,.int .i64 0,.int .i64 0,.slice none 0 0,.bool false,.float .f64 0,.int .i64 0] 45);have hb:=hI.b.trans (hst.mono hI.b.size);exact hK _ _ (fun _=>hb) ⟨_,_,_,_,_,rfl,hb,fun _=>rfl,hI.o8,fun h g=>by obtain ⟨av,cv,e,h⟩:=hI.h2 h g; exact ⟨av,cv,e,h.below hst⟩,fun h=>(hI.h3 h).below hst,fun h=>(hI.h6 h).below hst,fun _ _=>⟨_,_,rfl,hI.b.size,rfl,y1⟩,fun h g=>(hI.h8 h g).below hst,fun h=>absurd ((hI.o7 h).symm.trans hL) (by decide),fun h=>(hI.h10 h).below hst⟩
    case o8=>
     rintro L a w hL hd ⟨v2,v3,v6,v7,v8,rfl,hI⟩ K hK;go_simp;obtain ⟨y1,y2,hst⟩:=al1 w (.cells #[.int .i64 0,.int .i64 0,.int .i64 0,.int .i64 0,.slice none 0 0,.int .i64 0,.int .i64 0,.int .i64 0,.int .i64 0,.int .i64 0,.int .i64 0,.int .i64 0,.slice none 0 0,.bool false,.float .f64 0,.int .i64 0] 49);have hb:=hI.b.trans (hst.mono hI.b.size);exact hK _ _ (fun _=>hb) ⟨_,_,_,_,_,rfl,hb,hI.o7,fun _=>rfl,fun h g=>by obtain ⟨av,cv,e,h⟩:=hI.h2 h g; exact ⟨av,cv,e,h.below hst⟩,fun h=>(hI.h3 h).below hst,fun h=>(hI.h6 h).below hst,fun h g=>(hI.h7 h g).below hst,fun _ _=>⟨_,_,rfl,hI.b.size,rfl,y1⟩,fun h=>(hI.h9 h).below hst,fun h=>absurd ((hI.o8 h).symm.trans hL) (by decide)⟩
    case o9=>
     rintro L a w hL hd ⟨v2,v3,v6,v7,v8,rfl,hI⟩ K hK;obtain ⟨P,cs,rfl,hP,h16,hp⟩:=hI.h7 (hd 7 (by decide)) hL;obtain ⟨b1,e1,b2,e2,y,rfl,hy,ht,hn⟩:=hI.h3 (hd 3 (by decide));have hrow:=yx hp #[.int .i64 R.S.at_,.int .i64 (tk R.S.k),.int .i64 R.S.q,.int .i64 R.S.M,.slice b1 (R.S.q+1) e1,.int .i64 R.S.good,.int .i64 R.S.fails,.int .i64 R.S.slow,.int .i64 R.N.at_,.int .i64 R.N.st,.int .i64 R.N.q,.int .i64 R.N.M,.slice b2 R.N.rows e2,.bool R.took,.float .f64 y,.int .i64 R.e];have hb:=hrow.1.below hI.b hP hI.b.size;refine xt rfl ?_;refine wz (by rfl) 45 _ _ (by rfl) P #[.int .i64 R.S.at_,.int .i64 (tk R.S.k),.int .i64 R.S.q,.int .i64 R.S.M,.slice b1 (R.S.q+1) e1,.int .i64 R.S.good,.int .i64 R.S.fails,.int .i64 R.S.slow,.int .i64 R.N.at_,.int .i64 R.N.st,.int .i64 R.N.q,.int .i64 R.N.M,.slice b2 R.N.rows e2,.bool R.took,.float .f64 y,.int .i64 R.e] (by rfl) (by rfl) 45 _ hp (by kernel_rfl) h16 (by simp [Value.oneCell']) ?_;exact hK _ _ (fun _=>hb) ⟨_,_,_,_,_,rfl,hb,fun _=>hd 7 (by decide),hI.o8,fun h g=>absurd ((show L 3=false from g).symm.trans (hd 3 (by decide))) (by decide),fun h=>by obtain ⟨c1,d1,c2,d2,y',e,g1,g2,g3⟩:=hI.h3 h; exact ⟨c1,d1,c2,d2,y',e,g1,g2.tried hp hrow.1,g3.tried hp hrow.1⟩,fun h=>by obtain ⟨c1,d1,c2,d2,y',e,g1,g2,g3⟩:=hI.h6 h; exact ⟨c1,d1,c2,d2,y',e,g1,g2.tried hp hrow.1,g3.tried hp hrow.1⟩,fun _ g=>Bool.noConfusion g,fun h g=>by obtain ⟨P',cs',e,g1,g2,g3⟩:=hI.h8 h g; exact ⟨P',cs',e,g1,g2,(hrow.1.block P' (zj g3) (sh g3 hp (by decide))).trans g3⟩,fun _=>⟨P,b1,e1,b2,e2,y,rfl,hrow.2.1,hy,ht.tried hp hrow.1,hn.tried hp hrow.1⟩,fun h=>by obtain ⟨P',c1,d1,c2,d2,y',e,g0,g1,g2,g3⟩:=hI.h10 h; exact ⟨P',c1,d1,c2,d2,y',e,(hrow.1.block P' (zj g0) (sh g0 hp (by decide))).trans g0,g1,g2.tried hp hrow.1,g3.tried hp hrow.1⟩⟩
    case o10=>
     rintro L a w hL hd ⟨v2,v3,v6,v7,v8,rfl,hI⟩ K hK;obtain ⟨P,cs,rfl,hP,h16,hp⟩:=hI.h8 (hd 8 (by decide)) hL;obtain ⟨b1,e1,b2,e2,y,rfl,hy,ht,hn⟩:=hI.h6 (hd 6 (by decide));have hrow:=yx hp #[.int .i64 R.S.at_,.int .i64 (tk R.S.k),.int .i64 R.S.q,.int .i64 R.S.M,.slice b1 (R.S.q+1) e1,.int .i64 R.S.good,.int .i64 R.S.fails,.int .i64 R.S.slow,.int .i64 R.N.at_,.int .i64 R.N.st,.int .i64 R.N.q,.int .i64 R.N.M,.slice b2 R.N.rows e2,.bool R.took,.float .f64 y,.int .i64 R.e];have hb:=hrow.1.below hI.b hP hI.b.size;refine xt rfl ?_;refine wz (by rfl) 49 _ _ (by rfl) P #[.int .i64 R.S.at_,.int .i64 (tk R.S.k),.int .i64 R.S.q,.int .i64 R.S.M,.slice b1 (R.S.q+1) e1,.int .i64 R.S.good,.int .i64 R.S.fails,.int .i64 R.S.slow,.int .i64 R.N.at_,.int .i64 R.N.st,.int .i64 R.N.q,.int .i64 R.N.M,.slice b2 R.N.rows e2,.bool R.took,.float .f64 y,.int .i64 R.e] (by rfl) (by rfl) 49 _ hp (by kernel_rfl) h16 (by simp [Value.oneCell']) ?_;exact hK _ _ (fun _=>hb) ⟨_,_,_,_,_,rfl,hb,hI.o7,fun _=>hd 8 (by decide),fun h g=>absurd ((show L 3=false from g).symm.trans (hd 3 (by decide))) (by decide),fun h=>by obtain ⟨c1,d1,c2,d2,y',e,g1,g2,g3⟩:=hI.h3 h; exact ⟨c1,d1,c2,d2,y',e,g1,g2.kept hp hrow.1 (Nat.zero_le _),g3.kept hp hrow.1 (Nat.zero_le _)⟩,fun h=>by obtain ⟨c1,d1,c2,d2,y',e,g1,g2,g3⟩:=hI.h6 h; exact ⟨c1,d1,c2,d2,y',e,g1,g2.kept hp hrow.1 (Nat.zero_le _),g3.kept hp hrow.1 (Nat.zero_le _)⟩,fun h g=>by obtain ⟨P',cs',e,g1,g2,g3⟩:=hI.h7 h g; exact ⟨P',cs',e,g1,g2,(hrow.1.block P' (zj g3) (sh g3 hp (by decide))).trans g3⟩,fun _ g=>Bool.noConfusion g,fun h=>by obtain ⟨P',c1,d1,c2,d2,y',e,g0,g1,g2,g3⟩:=hI.h9 h; exact ⟨P',c1,d1,c2,d2,y',e,(hrow.1.block P' (zj g0) (sh g0 hp (by decide))).trans g0,g1,g2.kept hp hrow.1 (Nat.zero_le _),g3.kept hp hrow.1 (Nat.zero_le _)⟩,fun _=>⟨P,b1,e1,b2,e2,y,rfl,hrow.2.1,hy,ht.kept hp hrow.1 (Nat.zero_le _),hn.kept hp hrow.1 (Nat.zero_le _)⟩⟩
    case fin=>
     rintro L a w hL ⟨v2,v3,v6,v7,v8,rfl,hI⟩;obtain ⟨P7,b1,e1,b2,e2,y1,rfl,hp7,hy1,ht1,hn1⟩:=hI.h9 (hL 9 (by decide));obtain ⟨P8,g1,f1,g2,f2,y2,rfl,hp8,hy2,ht2,hn2⟩:=hI.h10 (hL 10 (by decide));have hb:=hI.b;clear hI hL;go_wp2_with fail;go_meet;exact ⟨P7,P8,b1,e1,b2,e2,y1,g1,f1,g2,f2,y2,rfl,rfl,hp7,hp8,hy1,hy2,ht1,hn1,ht2,hn2,hb⟩
   case rest=>
    obtain ⟨P7,P8,b1,e1,b2,e2,y1,g1,f1,g2,f2,y2,rfl,rfl,hp7,hp8,hy1,hy2,ht3,hn3,ht6,hn6,hb⟩:=hcut;clear AS TR RR;have HP7:=hid hp7;have HP8:=hid hp8;have HTT:=hid (show _∧_∧_∧_ from ⟨ht3,hn3,ht6,hn6⟩);have HYY:=hid (show zk y1=R.err from hy1);have HBC:=hid hb;have HCX:=hid ((hb.block Px hXw).trans HXW.out);have HPC:=hid ((hb.block Pp hPw).trans HPW.out);clear hp7 hp8 hy1 hy2 ht3 hn3 ht6 hn6 hb;cases htt:R.took
    ·have ka13:=(yw HP7.out).2.2.2.2.2.2.1;rw [htt] at ka13;have e15:=(yw HP8.out).2.2.2.2.2.2.2.2;by_cases hE:R.e=0
     ·have hE2:(R.e != 0)=false:=by simp [hE]
      go_wp2_with (first
       | (refine wpList_load_mid rfl 39 _ rfl P8 0 rfl [.int .i64 R.S.at_,.int .i64 (tk R.S.k),.int .i64 R.S.q,.int .i64 R.S.M,.slice g1 (R.S.q+1) f1,.int .i64 R.S.good,.int .i64 R.S.fails,.int .i64 R.S.slow] _ (World.rangeAt_of_block HP8.out 0 8) Tryz.underlying39 rfl (by kernel_rfl) ?_)
       | (refine wpList_store_row rfl 39 _ _ rfl Px #[.int .i64 R.S.at_,.int .i64 (tk R.S.k),.int .i64 R.S.q,.int .i64 R.S.M,.slice g1 (R.S.q+1) f1,.int .i64 R.S.good,.int .i64 R.S.fails,.int .i64 R.S.slow] rfl rfl 39 _ HCX.out (by kernel_rfl) rfl (by simp [Value.oneCell']) ?_)
       | fail)
      have hrow:=yx HCX.out #[.int .i64 R.S.at_,.int .i64 (tk R.S.k),.int .i64 R.S.q,.int .i64 R.S.M,.slice g1 (R.S.q+1) f1,.int .i64 R.S.good,.int .i64 R.S.fails,.int .i64 R.S.slow];refine ⟨⟨j+1,R.S,g1,f1,by omega,by go_num,HNX.out,hrow.2.1,HTT.out.2.2.1.place HCX.out hrow.1,hrow.1.below (HBW.out.trans (HBC.out.mono (by have:=HBW.out.size; omega))) (Nat.le_refl _) (by have:=HBC.out.size; omega)⟩,?_⟩;simp only [intOf];omega
     ·have hE2:(R.e != 0)=true:=by simp [hE]
      go_wp2_with fail;go_ret;exact ⟨rfl,hB ▸ BX.out _ (HBB.out.trans ((HBW.out.trans (HBC.out.mono (by have:=HBW.out.size; omega))).mono (by have:=HBB.out.size; have:=HPX.out; omega)))⟩
    ·obtain ⟨hhas,hrows,hNz⟩:=HFA.out htt;have HCE0:=hid (HCE.out.1 hhas);have HNT:=hid (show R.N.rows=s.q+1∧R.N.z=wb (wG s.z s.q) (coF s.M s.q) SD.d∧SD.has=true from ⟨hrows,hNz,hhas⟩);have ka13:=(yw HP7.out).2.2.2.2.2.2.1;rw [htt] at ka13;obtain ⟨-,-,-,-,kx4,-,-,-⟩:=zO HCX.out;clear hhas hrows hNz HCE HFA;go_wp2_with fail;refine (rb _ s.q n hq1 (by omega) hN1.1 (by omega) s.z wc ((HZW.out.below HBC.out).tab)).mono ?_;rintro e w1 ⟨G,cG,blk,cp,rfl,hg,hb1,hcc⟩;have HG1:=hid ((hg.own hcc).tab (by omega) (by omega))
     replace HP7:=hid ((hb1.block P7 (zj HP7.out)).trans HP7.out)
     replace HPC:=hid ((hb1.block Pp (zj HPC.out)).trans HPC.out)
     replace HP8:=hid ((hb1.block P8 (zj HP8.out)).trans HP8.out)
     replace HCX:=hid ((hb1.block Px (zj HCX.out)).trans HCX.out)
     replace HTT:=hid (show _∧_∧_∧_ from ⟨HTT.out.1.below hb1,HTT.out.2.1.below hb1,HTT.out.2.2.1.below hb1,HTT.out.2.2.2.below hb1⟩)
     replace HBC:=hid (HBC.out.trans (hb1.mono HBC.out.size))
     clear kx4 ka13 hg hcc hb1;obtain ⟨-,-,kx2,kx3,-,-,-,-⟩:=zO HCX.out;go_wp2_with fail;refine (oU HMS.out.1 hq1 HMS.out.2 w1).mono ?_;rintro e w3 ⟨vl,rfl,hl,hb2⟩;obtain ⟨bl,cl,rfl⟩:∃ a c,vl=.slice a (s.q+1) c:=by obtain ⟨a,c,e,-⟩:=hl; exact ⟨a,c,e⟩
     have HL3:=hid hl;have HG3:=hid (HG1.out.below hb2)
     replace HP7:=hid ((hb2.block P7 (zj HP7.out)).trans HP7.out)
     replace HPC:=hid ((hb2.block Pp (zj HPC.out)).trans HPC.out)
     replace HP8:=hid ((hb2.block P8 (zj HP8.out)).trans HP8.out)
     replace HCX:=hid ((hb2.block Px (zj HCX.out)).trans HCX.out)
     replace HTT:=hid (show _∧_∧_∧_ from ⟨HTT.out.1.below hb2,HTT.out.2.1.below hb2,HTT.out.2.2.1.below hb2,HTT.out.2.2.2.below hb2⟩)
     replace HBC:=hid (HBC.out.trans (hb2.mono HBC.out.size))
     clear kx2 kx3 hl hb2 HG1;obtain ⟨-,kx1,-,kx3,kx4,-,-,-⟩:=zO HCX.out;obtain ⟨kp0,kp1,kp2,-,-,-,-,-,kp8,kp9,-,-,-⟩:=yn HPC.out;have HX:=(HZW.out.below HBC.out).tab;obtain ⟨bz,oz,cz',hv,lz,hrr⟩:=HX.rowAt (by omega);simp only [Value.slice.injEq,true_and] at hv;obtain ⟨rfl,rfl⟩:=hv;obtain ⟨pz0,qz0,hc0,hw0⟩:=hrr 0 (by omega);rw [Nat.add_zero] at hc0;have WG:=hid (fun W (hW:Below w3.heap.size w3 W)=>sL _ n (by omega) (s.z 0) pa pr W (hw0.below hW));have SW:=hid (fun W (hW:Below w3.heap.size w3 W) vw (hvw:zT W vw n (wtF (s.z 0) pa pr))=>(HSV.out W _ _ vw ⟨HTW.out.below (HBC.out.trans (hW.mono HBC.out.size)),HG3.out.below hW,HL3.out.below hW,hvw⟩).mono fun e w' h=>h.hasOut HNT.out.2.2);have lx:=zj HCX.out;have lp:=zj HPC.out;clear HX hw0 hrr;go_wp2_with fail
     go_cut [13] (fun u wx=>∃ (k:Nat) (p:Option Addr) (c:Nat),u=.pointer (some ⟨k,0,none⟩)∧wx.heap[k]? = some (.cells #[.slice p n c,.int .i64 SD.tries,.int .i64 SD.e] 60)∧zT wx (.slice p n c) n SD.d∧Below w3.heap.size w3 wx)
     case first=>
      refine yM (.op 0 1 (.op 1 3 (.op 2 1 (.op 3 1 (.op 4 1 (.op 5 1 (.op 6 3 (.op 7 1 (.op 8 1 (.op 9 3 (.op 10 1 (.op 11 1 (.op 12 3 (.op 13 1 (.op 14 3 (.op 15 1 (.op 16 3 (.op 17 1 (.op 18 3 (.alt 19 (.alt 20 (.alt 21 (.alt 22 .nil .stop) .stop) (.alt 21 (.alt 20 (.alt 22 .nil .stop) .stop) .stop)) (.alt 21 (.alt 19 (.alt 20 (.alt 22 .nil .stop) .stop) .stop) .stop))))))))))))))))))))) [19,20,21,22] [1,6,9,12,14,16,18] (fun W=>Below w3.heap.size w3 W) (by kernel_rfl) (by kernel_rfl) (fun _ _ d _ _ h=>by cases d<;>exact h) ((Below.refl _ _).drew) ?_;intro Z hZ hbZ;clear hZ;refine zu (fun K hK=>?_);go_simp;refine hK _ ?_;clear hK K;refine yg (v:=.agg #[.int .i64 n,.slice ao lo' co,.slice au lu cu]) rfl rfl (fun wk hwk=>?_) ?_
      ·rw [← (zA hwk).1 _ _ lp] at kp0 kp1 kp2;go_simp
      refine zu (fun K hK=>?_);go_simp;refine hK _ ?_;clear hK K;refine zu (fun K hK=>?_);go_simp;refine hK _ ?_;clear hK K;refine zu (fun K hK=>?_);go_simp;refine hK _ ?_;clear hK K;refine zu (fun K hK=>?_);go_simp;refine hK _ ?_;clear hK K;refine yg (v:=.int .i64 (tk s.k)) rfl rfl (fun wk hwk=>?_) ?_
      ·rw [← (zA hwk).1 _ _ lx] at kx1;go_simp
      refine zu (fun K hK=>?_);go_simp;refine hK _ ?_;clear hK K;refine zu (fun K hK=>?_);go_simp;refine hK _ ?_;clear hK K;refine yg (v:=.int .i64 s.M) rfl rfl (fun wk hwk=>?_) ?_
      ·rw [← (zA hwk).1 _ _ lx] at kx3;go_simp
      refine zu (fun K hK=>?_);go_simp;refine hK _ ?_;clear hK K;refine zu (fun K hK=>?_);go_simp;refine hK _ ?_;clear hK K;refine yg (v:=.slice (some ⟨bz,oz,none⟩) (s.q+1) cz) rfl rfl (fun wk hwk=>?_) ?_
      ·rw [← (zA hwk).1 _ _ lx] at kx4;go_simp
      refine zu (fun K hK=>?_);go_simp;refine hK _ ?_;clear hK K;refine yg (v:=.slice pz0 n qz0) rfl rfl (fun wk hwk=>?_) ?_
      ·rw [← (zA hwk).1 _ _ lz] at hc0;go_simp
      refine zu (fun K hK=>?_);go_simp;refine hK _ ?_;clear hK K;refine yg (v:=.float .f64 pa) rfl rfl (fun wk hwk=>?_) ?_
      ·rw [← (zA hwk).1 _ _ lp] at kp8;go_simp
      refine zu (fun K hK=>?_);go_simp;refine hK _ ?_;clear hK K;refine yg (v:=.float .f64 pr) rfl rfl (fun wk hwk=>?_) ?_
      ·rw [← (zA hwk).1 _ _ lp] at kp9;go_simp
      have HBZ0:=hid hbZ;clear hbZ kp0 kp1 kp2 kx1 kx3 kx4 hc0 kp8 kp9 lp lx lz;refine zq (fun K hK=>?_) ?_
      ·go_simp;refine (WG.out Z HBZ0.out).mono ?_;rintro e V1 ⟨v19,rfl,hrw,hst⟩;obtain ⟨p19,c19,rfl⟩:∃ a c,v19=.slice a n c:=by obtain ⟨a,c,e,-⟩:=hrw; exact ⟨a,c,e⟩
       have hbx:=HBZ0.out.trans (hst.mono HBZ0.out.size);have HF3:=hid (hrw);refine hK _ _ (fun _=>hbx) ?_;clear hK K;have HB2:=hid hbx;clear hbx hst hrw;refine zq (fun K hK=>?_) ?_
       ·go_simp;refine (SW.out V1 HB2.out _ HF3.out).mono ?_;rintro e V4 ⟨hst,p20,c20,rfl,hrw⟩;have hbx:=HB2.out.trans (hst.mono HB2.out.size);have HF6:=hid (HF3.out.below hst);have HF7:=hid (hrw);refine hK _ _ (fun _=>hbx) ?_;clear hK K;have HB5:=hid hbx;clear hbx hst hrw;refine zq (fun K hK=>?_) ?_
        ·go_simp;obtain ⟨y1,y2,hst⟩:=al1 V4 (.cells #[.slice none 0 0,.int .i64 0,.int .i64 0] 60);have hbx:=HB5.out.trans (hst.mono HB5.out.size);have HF13:=hid (HF6.out.below hst);have HF14:=hid (HF7.out.below hst);have HL12:=hid (show w3.heap.size≤V4.heap.size from HB5.out.size);refine hK _ _ (fun _=>hbx) ?_;clear hK K;have HB10:=hid hbx;have HF11:=hid y1;clear y1 y2 hst hbx;generalize V4.alloc (.cells #[.slice none 0 0,.int .i64 0,.int .i64 0] 60)=V8 at *;generalize V4.heap.size=k9 at *;refine zq (fun K hK=>?_) ?_
         ·have c0:=zf HF11.out 0;have f0:=zg HF11.out 0;have c1:=zf HF11.out 1;have f1:=zg HF11.out 1;have c2:=zf HF11.out 2;have f2:=zg HF11.out 2;simp only [List.getElem?_toArray,List.getElem?_cons_zero,List.getElem?_cons_succ] at c0 c1 c2;go_simp;have HB16:=hid (show Below w3.heap.size w3 (((V8.setCell ⟨k9,0,none⟩ (.slice p20 n c20)).setCell ⟨k9,1,none⟩ (.int .i64 SD.tries)).setCell ⟨k9,2,none⟩ (.int .i64 SD.e)) from (((HB10.out.setCell (p:=⟨k9,0,none⟩) HL12.out _).setCell (p:=⟨k9,1,none⟩) HL12.out _).setCell (p:=⟨k9,2,none⟩) HL12.out _));have HF17:=hid (show (((V8.setCell ⟨k9,0,none⟩ (.slice p20 n c20)).setCell ⟨k9,1,none⟩ (.int .i64 SD.tries)).setCell ⟨k9,2,none⟩ (.int .i64 SD.e)).heap[k9]? = some (.cells #[.slice p20 n c20,.int .i64 SD.tries,.int .i64 SD.e] 60) from (zp (zp (zp HF11.out _) _) _));have HF18:=hid (HF13.out.keepS (W:=(((V8.setCell ⟨k9,0,none⟩ (.slice p20 n c20)).setCell ⟨k9,1,none⟩ (.int .i64 SD.tries)).setCell ⟨k9,2,none⟩ (.int .i64 SD.e))) HF11.out ((((zM.refl V8 k9).set 0 _).set 1 _).set 2 _));have HF19:=hid (HF14.out.keepS (W:=(((V8.setCell ⟨k9,0,none⟩ (.slice p20 n c20)).setCell ⟨k9,1,none⟩ (.int .i64 SD.tries)).setCell ⟨k9,2,none⟩ (.int .i64 SD.e))) HF11.out ((((zM.refl V8 k9).set 0 _).set 1 _).set 2 _));refine hK _ _ (fun _=>HB16.out) ?_;clear hK K c0 f0 c1 f1 c2 f2;generalize (((V8.setCell ⟨k9,0,none⟩ (.slice p20 n c20)).setCell ⟨k9,1,none⟩ (.int .i64 SD.tries)).setCell ⟨k9,2,none⟩ (.int .i64 SD.e))=V15 at *;refine yt ?_;go_wp2_with fail;go_meet;exact ⟨k9,p20,c20,rfl,HF17.out,HF19.out,HB16.out⟩
         exact zt
        exact zt
       refine zq (fun K hK=>?_) ?_
       ·go_simp;obtain ⟨y1,y2,hst⟩:=al1 V1 (.cells #[.slice none 0 0,.int .i64 0,.int .i64 0] 60);have hbx:=HB2.out.trans (hst.mono HB2.out.size);have HF25:=hid (HF3.out.below hst);have HL24:=hid (show w3.heap.size≤V1.heap.size from HB2.out.size);refine hK _ _ (fun _=>hbx) ?_;clear hK K;have HB22:=hid hbx;have HF23:=hid y1;clear y1 y2 hst hbx;generalize V1.alloc (.cells #[.slice none 0 0,.int .i64 0,.int .i64 0] 60)=V20 at *;generalize V1.heap.size=k21 at *;refine zq (fun K hK=>?_) ?_
        ·go_simp;refine (SW.out V20 HB22.out _ HF25.out).mono ?_;rintro e V26 ⟨hst,p20,c20,rfl,hrw⟩;have hbx:=HB22.out.trans (hst.mono HB22.out.size);have HF28:=hid (HF25.out.below hst);have HF29:=hid ((hst.block k21 (zj HF23.out)).trans HF23.out);have HF30:=hid (hrw);refine hK _ _ (fun _=>hbx) ?_;clear hK K;have HB27:=hid hbx;clear hbx hst hrw;refine zq (fun K hK=>?_) ?_
         ·have c0:=zf HF29.out 0;have f0:=zg HF29.out 0;have c1:=zf HF29.out 1;have f1:=zg HF29.out 1;have c2:=zf HF29.out 2;have f2:=zg HF29.out 2;simp only [List.getElem?_toArray,List.getElem?_cons_zero,List.getElem?_cons_succ] at c0 c1 c2;go_simp;have HB32:=hid (show Below w3.heap.size w3 (((V26.setCell ⟨k21,0,none⟩ (.slice p20 n c20)).setCell ⟨k21,1,none⟩ (.int .i64 SD.tries)).setCell ⟨k21,2,none⟩ (.int .i64 SD.e)) from (((HB27.out.setCell (p:=⟨k21,0,none⟩) HL24.out _).setCell (p:=⟨k21,1,none⟩) HL24.out _).setCell (p:=⟨k21,2,none⟩) HL24.out _));have HF33:=hid (show (((V26.setCell ⟨k21,0,none⟩ (.slice p20 n c20)).setCell ⟨k21,1,none⟩ (.int .i64 SD.tries)).setCell ⟨k21,2,none⟩ (.int .i64 SD.e)).heap[k21]? = some (.cells #[.slice p20 n c20,.int .i64 SD.tries,.int .i64 SD.e] 60) from (zp (zp (zp HF29.out _) _) _));have HF34:=hid (HF28.out.keepS (W:=(((V26.setCell ⟨k21,0,none⟩ (.slice p20 n c20)).setCell ⟨k21,1,none⟩ (.int .i64 SD.tries)).setCell ⟨k21,2,none⟩ (.int .i64 SD.e))) HF29.out ((((zM.refl V26 k21).set 0 _).set 1 _).set 2 _));have HF35:=hid (HF30.out.keepS (W:=(((V26.setCell ⟨k21,0,none⟩ (.slice p20 n c20)).setCell ⟨k21,1,none⟩ (.int .i64 SD.tries)).setCell ⟨k21,2,none⟩ (.int .i64 SD.e))) HF29.out ((((zM.refl V26 k21).set 0 _).set 1 _).set 2 _));refine hK _ _ (fun _=>HB32.out) ?_;clear hK K c0 f0 c1 f1 c2 f2;generalize (((V26.setCell ⟨k21,0,none⟩ (.slice p20 n c20)).setCell ⟨k21,1,none⟩ (.int .i64 SD.tries)).setCell ⟨k21,2,none⟩ (.int .i64 SD.e))=V31 at *;refine yt ?_;go_wp2_with fail;go_meet;exact ⟨k21,p20,c20,rfl,HF33.out,HF35.out,HB32.out⟩
         exact zt
        exact zt
       exact zt
      refine zq (fun K hK=>?_) ?_
      ·go_simp;obtain ⟨y1,y2,hst⟩:=al1 Z (.cells #[.slice none 0 0,.int .i64 0,.int .i64 0] 60);have hbx:=HBZ0.out.trans (hst.mono HBZ0.out.size);have HL40:=hid (show w3.heap.size≤Z.heap.size from HBZ0.out.size);refine hK _ _ (fun _=>hbx) ?_;clear hK K;have HB38:=hid hbx;have HF39:=hid y1;clear y1 y2 hst hbx;generalize Z.alloc (.cells #[.slice none 0 0,.int .i64 0,.int .i64 0] 60)=V36 at *;generalize Z.heap.size=k37 at *;refine zq (fun K hK=>?_) ?_
       ·go_simp;refine (WG.out V36 HB38.out).mono ?_;rintro e V41 ⟨v19,rfl,hrw,hst⟩;obtain ⟨p19,c19,rfl⟩:∃ a c,v19=.slice a n c:=by obtain ⟨a,c,e,-⟩:=hrw; exact ⟨a,c,e⟩
        have hbx:=HB38.out.trans (hst.mono HB38.out.size);have HF43:=hid ((hst.block k37 (zj HF39.out)).trans HF39.out);have HF44:=hid (hrw);refine hK _ _ (fun _=>hbx) ?_;clear hK K;have HB42:=hid hbx;clear hbx hst hrw;refine zq (fun K hK=>?_) ?_
        ·go_simp;refine (SW.out V41 HB42.out _ HF44.out).mono ?_;rintro e V45 ⟨hst,p20,c20,rfl,hrw⟩;have hbx:=HB42.out.trans (hst.mono HB42.out.size);have HF47:=hid ((hst.block k37 (zj HF43.out)).trans HF43.out);have HF48:=hid (HF44.out.below hst);have HF49:=hid (hrw);refine hK _ _ (fun _=>hbx) ?_;clear hK K;have HB46:=hid hbx;clear hbx hst hrw;refine zq (fun K hK=>?_) ?_
         ·have c0:=zf HF47.out 0;have f0:=zg HF47.out 0;have c1:=zf HF47.out 1;have f1:=zg HF47.out 1;have c2:=zf HF47.out 2;have f2:=zg HF47.out 2;simp only [List.getElem?_toArray,List.getElem?_cons_zero,List.getElem?_cons_succ] at c0 c1 c2;go_simp;have HB51:=hid (show Below w3.heap.size w3 (((V45.setCell ⟨k37,0,none⟩ (.slice p20 n c20)).setCell ⟨k37,1,none⟩ (.int .i64 SD.tries)).setCell ⟨k37,2,none⟩ (.int .i64 SD.e)) from (((HB46.out.setCell (p:=⟨k37,0,none⟩) HL40.out _).setCell (p:=⟨k37,1,none⟩) HL40.out _).setCell (p:=⟨k37,2,none⟩) HL40.out _));have HF52:=hid (show (((V45.setCell ⟨k37,0,none⟩ (.slice p20 n c20)).setCell ⟨k37,1,none⟩ (.int .i64 SD.tries)).setCell ⟨k37,2,none⟩ (.int .i64 SD.e)).heap[k37]? = some (.cells #[.slice p20 n c20,.int .i64 SD.tries,.int .i64 SD.e] 60) from (zp (zp (zp HF47.out _) _) _));have HF53:=hid (HF48.out.keepS (W:=(((V45.setCell ⟨k37,0,none⟩ (.slice p20 n c20)).setCell ⟨k37,1,none⟩ (.int .i64 SD.tries)).setCell ⟨k37,2,none⟩ (.int .i64 SD.e))) HF47.out ((((zM.refl V45 k37).set 0 _).set 1 _).set 2 _));have HF54:=hid (HF49.out.keepS (W:=(((V45.setCell ⟨k37,0,none⟩ (.slice p20 n c20)).setCell ⟨k37,1,none⟩ (.int .i64 SD.tries)).setCell ⟨k37,2,none⟩ (.int .i64 SD.e))) HF47.out ((((zM.refl V45 k37).set 0 _).set 1 _).set 2 _));refine hK _ _ (fun _=>HB51.out) ?_;clear hK K c0 f0 c1 f1 c2 f2;generalize (((V45.setCell ⟨k37,0,none⟩ (.slice p20 n c20)).setCell ⟨k37,1,none⟩ (.int .i64 SD.tries)).setCell ⟨k37,2,none⟩ (.int .i64 SD.e))=V50 at *;refine yt ?_;go_wp2_with fail;go_meet;exact ⟨k37,p20,c20,rfl,HF52.out,HF54.out,HB51.out⟩
         exact zt
        exact zt
       exact zt
      exact zt
     case rest=>
      obtain ⟨k13,p13,c13,rfl,hp13,hrw,hb3⟩:=hcut;have CT:=hid (fun W (hW:Below wc.heap.size wc W)=>rd _ _ (.slice p13 n c13) (s.q+1) n (by omega) (by omega) hN1.1 (by omega) _ _ _ W ((HG3.out.below hb3).below hW) ((HL3.out.below hb3).below hW) (hrw.below hW))
      replace HP7:=hid ((hb3.block P7 (zj HP7.out)).trans HP7.out)
      replace HPC:=hid ((hb3.block Pp (zj HPC.out)).trans HPC.out)
      replace HP8:=hid ((hb3.block P8 (zj HP8.out)).trans HP8.out)
      replace HCX:=hid ((hb3.block Px (zj HCX.out)).trans HCX.out)
      replace HTT:=hid (show _∧_∧_∧_ from ⟨HTT.out.1.below hb3,HTT.out.2.1.below hb3,HTT.out.2.2.1.below hb3,HTT.out.2.2.2.below hb3⟩)
      replace HBC:=hid (HBC.out.trans (hb3.mono HBC.out.size))
      obtain ⟨km0,km2⟩:wc.cell? ⟨k13,0,none⟩=some (.slice p13 n c13)∧wc.cell? ⟨k13,2,none⟩=some (.int .i64 SD.e):=⟨by rw [zf hp13]; rfl,by rw [zf hp13]; rfl⟩;obtain ⟨⟨-,-,-,-,-,-,-,-⟩,-,-,-,-,ka12,-,-,-⟩:=yw HP7.out;rw [HCE0.out] at km2;have lk:=zj hp13;have l7:=zj HP7.out;have HNW:=hid (show yB wc (.slice b2 (s.q+1) e2) (s.q+1) (fun _=>n) (wb (wG s.z s.q) (coF s.M s.q) SD.d) from by have h:=HTT.out.2.1.tab; rw [HNT.out.1,HNT.out.2.1] at h; exact h);rw [HNT.out.1] at ka12;clear hp13 hrw hb3 kx1 kx3 kx4 kp0 kp1 kp2 kp8 kp9 hc0 lz lx lp WG SW;go_wp2_with fail;refine zv [(0,1),(1,3),(2,1),(3,1),(4,1),(5,1),(6,3),(7,1),(8,1),(9,1),(10,3),(11,0),(12,0),(13,1),(14,1)] (fun W=>Below wc.heap.size wc W) (by kernel_rfl) (by kernel_rfl) (fun _ _ d _ _ h=>by cases d<;>exact h) ((Below.refl _ _).drew) ?_;intro Z hZ hbZ;clear hZ
      iterate 1
       first
        | refine zd (fun K hK=>?_)
        | refine ze (fun K hK=>?_)
       go_simp;refine hK _ ?_;clear hK K
      refine zh (v:=.int .i64 0) rfl rfl (fun wk hwk=>?_) ?_
      ·rw [← (zA hwk).1 _ _ lk] at km2;go_simp
      iterate 4
       first
        | refine zd (fun K hK=>?_)
        | refine ze (fun K hK=>?_)
       go_simp;refine hK _ ?_;clear hK K
      refine zh (v:=.slice b2 (s.q+1) e2) rfl rfl (fun wk hwk=>?_) ?_
      ·rw [← (zA hwk).1 _ _ l7] at ka12;go_simp
      iterate 3
       first
        | refine zd (fun K hK=>?_)
        | refine ze (fun K hK=>?_)
       go_simp;refine hK _ ?_;clear hK K
      refine zh (v:=.slice p13 n c13) rfl rfl (fun wk hwk=>?_) ?_
      ·rw [← (zA hwk).1 _ _ lk] at km0;go_simp
      refine zm (fun K hK=>?_);go_simp;refine (CT.out Z hbZ).mono ?_;rintro e' w4 ⟨G4,cG4,blk4,cp4,rfl,hg4,hb4,hcc4⟩;have hbA:=hbZ.trans (hb4.mono hbZ.size);refine hK _ _ (fun h=>Bool.noConfusion (Eq.trans (Eq.symm (by kernel_rfl:_=false)) h)) (fun _=>hbA) ?_;clear hK K;refine zm (fun K hK=>?_);go_simp;refine (pA _ _ (s.q+1) (fun _=>n) _ w4 (HNW.out.below hbA) ((hg4.own hcc4).tab (by omega) (by omega))).mono ?_;rintro e' w5 ⟨rfl,hb5⟩;have hbB:=hbA.trans (hb5.mono hbA.size);refine hK _ _ (fun h=>Bool.noConfusion (Eq.trans (Eq.symm (by kernel_rfl:_=false)) h)) (fun _=>hbB) ?_;clear hK K
      iterate 2
       first
        | refine zd (fun K hK=>?_)
        | refine ze (fun K hK=>?_)
       go_simp;refine hK _ ?_;clear hK K
      refine zo ?_
      replace HP7:=hid ((hbB.block P7 (zj HP7.out)).trans HP7.out)
      replace HPC:=hid ((hbB.block Pp (zj HPC.out)).trans HPC.out)
      replace HP8:=hid ((hbB.block P8 (zj HP8.out)).trans HP8.out)
      replace HCX:=hid ((hbB.block Px (zj HCX.out)).trans HCX.out)
      replace HTT:=hid (show _∧_∧_∧_ from ⟨HTT.out.1.below hbB,HTT.out.2.1.below hbB,HTT.out.2.2.1.below hbB,HTT.out.2.2.2.below hbB⟩)
      replace HBC:=hid (HBC.out.trans (hbB.mono HBC.out.size))
      have e15:=(yw HP8.out).2.2.2.2.2.2.2.2;clear hb4 hbA hb5 hbB hg4 hcc4 hbZ km0 km2 ka12 lk l7;by_cases hE:R.e=0
      ·have hE2:(R.e != 0)=false:=by simp [hE]
       go_wp2_with (first
        | (refine wpList_load_mid rfl 39 _ rfl P8 0 rfl [.int .i64 R.S.at_,.int .i64 (tk R.S.k),.int .i64 R.S.q,.int .i64 R.S.M,.slice g1 (R.S.q+1) f1,.int .i64 R.S.good,.int .i64 R.S.fails,.int .i64 R.S.slow] _ (World.rangeAt_of_block HP8.out 0 8) Tryz.underlying39 rfl (by kernel_rfl) ?_)
        | (refine wpList_store_row rfl 39 _ _ rfl Px #[.int .i64 R.S.at_,.int .i64 (tk R.S.k),.int .i64 R.S.q,.int .i64 R.S.M,.slice g1 (R.S.q+1) f1,.int .i64 R.S.good,.int .i64 R.S.fails,.int .i64 R.S.slow] rfl rfl 39 _ HCX.out (by kernel_rfl) rfl (by simp [Value.oneCell']) ?_)
        | fail)
       have hrow:=yx HCX.out #[.int .i64 R.S.at_,.int .i64 (tk R.S.k),.int .i64 R.S.q,.int .i64 R.S.M,.slice g1 (R.S.q+1) f1,.int .i64 R.S.good,.int .i64 R.S.fails,.int .i64 R.S.slow];refine ⟨⟨j+1,R.S,g1,f1,by omega,by go_num,HNX.out,hrow.2.1,HTT.out.2.2.1.place HCX.out hrow.1,hrow.1.below (HBW.out.trans (HBC.out.mono (by have:=HBW.out.size; omega))) (Nat.le_refl _) (by have:=HBC.out.size; omega)⟩,?_⟩;simp only [intOf];omega
      ·have hE2:(R.e != 0)=true:=by simp [hE]
       go_wp2_with fail;go_ret;exact ⟨rfl,hB ▸ BX.out _ (HBB.out.trans ((HBW.out.trans (HBC.out.mono (by have:=HBW.out.size; omega))).mono (by have:=HBB.out.size; have:=HPX.out; omega)))⟩
  ·have k2:¬ (j:Int)<4+sm:=hjm;go_wp2_with fail;refine (WS.out _).mono ?_;rintro e w' ⟨rfl,rfl⟩;go_wp2_with fail;go_ret;exact ⟨rfl,hB ▸ BX.out _ (HBB.out.trans (HBW.out.mono (by have:=HBB.out.size; have:=HPX.out; omega)))⟩
end Go.Proofs.YtnlbafjmbamoeaaGreat
namespace Go.Proofs.YtnlbafjmbamoeaaGreat.stepMethod
open Go.ChangeShapes Go.WideShapes Go.ChangeAt Go.RowKit Go.Proofs.YtnlbafjmbamoeaaGreat
open Lib
theorem own:ownKnob Tryz.prog.godebug=none:=by kernel_rfl
theorem laidOut:laidOutB Tryz.prog=true:=by kernel_rfl
theorem float_lt {b:Nat} (h:(Lit.float .f64 b).wf=true):b<18446744073709551616:=by simpa [Lit.wf] using h
theorem int_lo {n:Int} (h:(Lit.int .i64 n).wf=true):-9223372036854775808≤n∧n≤9223372036854775807:=by
 have a:IntKind.i64.min=-9223372036854775808:=by decide
 have b:IntKind.i64.max=9223372036854775807:=by decide
 simp only [Lit.wf,Bool.and_eq_true,decide_eq_true_eq] at h; omega
set_option maxRecDepth 100000
theorem lifted (os:Os) (started:os.Started) (H:Type) (enc:TypeId × Value→H) :
  ReturnsInHanded {} Tryz.checked os 7 .any (Rows.stepMethodSpec.pre6 enc Tryz.prog Tryz.f7 Rows.stepMethodRow.domain false) (Rows.stepMethodSpec.post enc Tryz.prog Tryz.f7 false true false false):=by
 refine returnsInHanded_of_change (C:=Tryz.checked) own started (by kernel_rfl) Tryz.func7
  (ChangeSpec.witness6 (enc:=enc) (C:=Tryz.checked) false ⟨#[],#[.agg #[.int .i64 0,.int .i64 0,.int .i64 0,.int .i64 0,.int .i64 0,.slice none 0 0,.slice none 0 0,.slice none 0 0,.bool false],.int .i64 0],[]⟩ 8 (by kernel_rfl) (by kernel_rfl) (by kernel_rfl) (by kernel_rfl)) ?_
 intro W base args ds gs before hval0 hW hcnd _;have hval:∀ (j:Nat) t v,Tryz.f7.params[j]? = some t→args[j]? = some v→Value.okWide Tryz.prog W .any base t v:=hval0;have hW':=hW;obtain ⟨p,q,hA0,hV,rfl,hfz,hnd⟩:=hW;have hA:DataW.TrodAll enc Tryz.prog W 0 (fun _=>true) true Tryz.f7.params.toList args.toList ds p:=hA0;rw [Tryz.params7] at hA hval;obtain ⟨v0,vs0,d0,ds0,p0,q0,hargs,rfl,rfl,h0,r0⟩:=trodAll_cons hA;obtain ⟨v1,vs1,d1,ds1,p1,q1,rfl,rfl,rfl,h1,r1⟩:=trodAll_cons r0;obtain ⟨rfl,rfl,rfl⟩:=trodAll_nil r1;obtain rfl:args=#[v0,v1]:=by cases args; simp_all
 obtain ⟨rfl,rfl⟩:=trodVars_none hV;have k0:=h0;obtain ⟨zs0,z0⟩:=shape_of (hval 0 24 v0 rfl rfl) h0;obtain ⟨a1,rfl,rfl,rfl,w1⟩:=open_int Tryz.underlying3 (hval 1 3 v1 rfl rfl) h1;clear hA0 hval0;simp only [List.append_nil] at hW';refine (stepMethod_any v0 zs0 a1 W z0 (int_lo w1)).mono fun e W' ⟨he,hb⟩=>?_
 subst he;exact ⟨_,rfl,⟨_,_,_,[],_,[],hW',(trodAll_cons_mk (shut_bool Tryz.underlying4 _) trodAll_mk0),(trodAll_cons_mk (Below.trod laidOut (by kernel_rfl) (of_decide_eq_true (by kernel_rfl)) k0 hb (fun x hx=>hW'.lt x (by simp [hx]))) (trodAll_cons_mk (shut_int Tryz.underlying3 w1) trodAll_mk0)),rfl,hb.frame _,fun h=>by cases h⟩⟩
theorem over:Rows.stepMethodRow.holds Tryz.pinned (OpenSpec.ofChange Rows.stepMethodSpec):=
 OpenClaim.holds_of_wide 7 Tryz.f7 rfl rfl rfl rfl rfl rfl rfl ⟨rfl,rfl,rfl,rfl,rfl⟩ rfl rfl rfl rfl rfl (by kernel_rfl) Tryz.func7 (by kernel_rfl)
  (of_decide_eq_true (by kernel_rfl)) (by unfold Func.isWrapper; first | (rw [if_pos (by decide +kernel)]; kernel_rfl) | (rw [if_neg (by decide +kernel)]; exact ⟨rfl,rfl⟩))
  (fun os started H enc _=>lifted os started H enc)
theorem proved:Rows.StepMethodSaid:=
 over
#print axioms proved
end Go.Proofs.YtnlbafjmbamoeaaGreat.stepMethod
