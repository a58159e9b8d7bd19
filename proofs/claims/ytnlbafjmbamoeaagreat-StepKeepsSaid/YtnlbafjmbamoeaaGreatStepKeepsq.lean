/-
  'StepKeeps': the law answers true, whatever it is given: every input, no condition.
-/
import Derived.Deep.CutBlock
import Derived.Deep.MidRow
import Derived.Test.YtnlbafjmbamoeaaGreatRows
import Derived.WalkKit
import Derived.WalkLawsBesides
import Derived.ProofKit
import Derived.OpenShut
import Derived.Carry
import Derived.Test.YtnlbafjmbamoeaaGreatQt
namespace Go.Proofs.YtnlbafjmbamoeaaGreat
open Go.RowKit
open Ieee (double)
open Lib
attribute [local go_sem] zr zi zy zn zU zS zW zX zV zY zD zH zI zJ zK zB ye z8 zF yE zN zQ zR
theorem res_zero {z:Nat→Nat→Nat} {n:Nat} (h:∀ i,i<n→zk (z 0 i)=z 0 i∧z 0 i<18446744073709551616) (k:Int):∀ i,i<n→xZ z k 0 i=z 0 i:=fun i hi=>by
 unfold xZ;rw [show (((0:Nat):Int)*k)=0 by simp];exact mU (h i hi).1 (h i hi).2
theorem top_zero (z:Nat→Nat→Nat) (l d:Nat→Nat) (q i:Nat):mi z l d q 0 i=z 0 i:=by
 unfold mi;rw [if_neg (by omega)]
theorem try_keeps {T:TD} {n a r:Nat} {lo en:Int} {s:Sol} (hs:∀ i,i<n→zk (s.z 0 i)=s.z 0 i∧s.z 0 i<18446744073709551616) :
  ((uG T n a r lo en s).took=false→∀ i,i<n→(uG T n a r lo en s).S.z 0 i=s.z 0 i)∧((uG T n a r lo en s).took=true→(∀ i,i<n→zk ((uG T n a r lo en s).N.z 0 i)=(uG T n a r lo en s).N.z 0 i∧(uG T n a r lo en s).N.z 0 i<18446744073709551616)→∀ i,i<n→(uG T n a r lo en s).S.z 0 i=(uG T n a r lo en s).N.z 0 i) ∧
   ((uG T n a r lo en s).took=true→((uG T n a r lo en s).N.rows:Int)=(uG T n a r lo en s).N.q+1∧(uG T n a r lo en s).N.rows=s.q+1):=by
 refine tryF_cases (P:=fun R=>(R.took=false→∀ i,i<n→R.S.z 0 i=s.z 0 i)∧(R.took=true→(∀ i,i<n→zk (R.N.z 0 i)=R.N.z 0 i∧R.N.z 0 i<18446744073709551616)→∀ i,i<n→R.S.z 0 i=R.N.z 0 i)∧(R.took=true→(R.N.rows:Int)=R.N.q+1∧R.N.rows=s.q+1)) (fun e c _=>⟨fun _ _ _=>rfl,fun h=>Bool.noConfusion h,fun h=>Bool.noConfusion h⟩) (fun e c _=>⟨fun _=>?_,fun h=>Bool.noConfusion h,fun h=>Bool.noConfusion h⟩) (fun _ c _=>⟨fun h=>Bool.noConfusion h,fun _ h=>?_,fun _=>⟨rfl,rfl⟩⟩)
 ·exact failS_cases (P:=fun S=>∀ i,i<n→S.z 0 i=s.z 0 i) (fun i hi=>res_zero hs _ i hi) (fun i hi=>res_zero hs _ i hi) (fun i hi=>res_zero hs _ i hi)
 ·refine tookS_cases (P:=fun S=>∀ i,i<n→S.z 0 i=wb (wG s.z s.q) (coF s.M s.q) (pP T n a r s).d 0 i) (en:=en) (s:=s) (z:=wb (wG s.z s.q) (coF s.M s.q) (pP T n a r s).d) (l:=coF s.M s.q) (d:=(pP T n a r s).d) (c:=c) (fun i _=>rfl) (fun _ i hi=>res_zero h _ i hi) (fun _ i _=>top_zero _ (coF s.M s.q) (pP T n a r s).d s.q i)
set_option maxRecDepth 100000
set_option maxHeartbeats 16000000
theorem stepKeeps_any (v0:Value) (S0:ShD) (st:Int) (w:World) (h0:ShAt w v0 S0) (_:-9223372036854775808≤st∧st≤9223372036854775807) :
  Calls Tryz.prog 6 #[v0,.int .i64 st] w fun e w'=>e=.returned (.bool true)∧Below w.heap.size w w':=by
 have H0:=hid h0;obtain ⟨hr,u1,u2,u3,rfl,h1,h2,h3⟩:=id h0;obtain ⟨a1,c1,rfl⟩:=h1.slice;obtain ⟨a2,c2,rfl⟩:=h2.slice;obtain ⟨a3,c3,rfl⟩:=h3.slice;have AL:=al1 w (.cells #[.int .i64 S0.n,.int .i64 S0.first,.int .i64 S0.least,.int .i64 S0.tol,.int .i64 S0.en,.slice a1 S0.ns.length c1,.slice a2 S0.ms.length c2,.slice a3 S0.outs.length c3,.bool S0.div] 24);clear hr h1 h2 h3 h0;go_enter Tryz.func6,Tryz.ntmps6;go_upto_region 1 with fail
 generalize w.alloc (.cells #[.int .i64 S0.n,.int .i64 S0.first,.int .i64 S0.least,.int .i64 S0.tol,.int .i64 S0.en,.slice a1 S0.ns.length c1,.slice a2 S0.ms.length c2,.slice a3 S0.outs.length c3,.bool S0.div] 24)=X at *;generalize hB:w.heap.size=B at *;obtain ⟨x1,x2,x3⟩:=AL;have SB:=hid (fun W (hW:Below X.heap.size X W)=>(hW.block B (by omega)).trans x1);have BX:=hid (fun W (hW:Below X.heap.size X W)=>(show Below B w W from x3.trans (hW.mono (by omega))));clear x1 x2 x3;go_wp2_with fail;refine (ke X).mono ?_;rintro e w1 ⟨rfl,hb1⟩;have HB1:=hid hb1;clear hb1
 go_wp2_with (first
  | (refine wpList_load_row rfl 24 _ rfl B rfl 24 #[.int .i64 S0.n,.int .i64 S0.first,.int .i64 S0.least,.int .i64 S0.tol,.int .i64 S0.en,.slice a1 S0.ns.length c1,.slice a2 S0.ms.length c2,.slice a3 S0.outs.length c3,.bool S0.div] _ _ (SB.out w1 HB1.out) Tryz.underlying24 rfl (by kernel_rfl) ?_)
  | fail)
 refine (kE S0.n S0.first S0.least S0.tol S0.en a1 a2 a3 S0.ns.length S0.ms.length S0.outs.length c1 c2 c3 S0.div w1).mono ?_;rintro e w2 ⟨rfl,hb2⟩;have HB2:=hid (HB1.out.trans (hb2.mono HB1.out.size));clear hb2 HB1;generalize (decide (S0.ns.length≤60)&&(decide (S0.ms.length≤60)&&decide (S0.outs.length≤60)))=fb at *;cases fb
 case false=>
  go_wp2_with fail;go_ret;exact ⟨rfl,hB ▸ BX.out _ HB2.out⟩
 go_wp2_with (first
  | (refine wpList_load_row rfl 24 _ rfl B rfl 24 #[.int .i64 S0.n,.int .i64 S0.first,.int .i64 S0.least,.int .i64 S0.tol,.int .i64 S0.en,.slice a1 S0.ns.length c1,.slice a2 S0.ms.length c2,.slice a3 S0.outs.length c3,.bool S0.div] _ _ (SB.out w2 HB2.out) Tryz.underlying24 rfl (by kernel_rfl) ?_)
  | fail)
 refine (mp S0 _ w2 (H0.out.below (hB ▸ BX.out w2 HB2.out))).mono ?_;rintro e w3 ⟨vo,vu,vb,vy,vt,rfl,hT,hY,hBx,hO,hb3⟩;obtain ⟨⟨ao,lo',co,rfl⟩,⟨au,lu,cu,rfl⟩⟩:=hT.slices;obtain ⟨ay,cy,rfl,-,-⟩:=id hY;obtain ⟨ab,cb,rfl,-,-⟩:=id hBx;obtain ⟨at',ct,rfl,-,-⟩:=id hO;have HB3:=hid (HB2.out.trans (hb3.mono HB2.out.size))
 have hN1:1≤shN S0∧shN S0≤3:=by
  have:=Int.emod_nonneg S0.n (show (3:Int)≠0 by decide);have:=Int.emod_lt_of_pos S0.n (show (0:Int)<3 by decide);unfold shN; omega
 have hTN:(shT S0).n=(shN S0:Nat):=by
  have:=Int.emod_nonneg S0.n (show (3:Int)≠0 by decide);show 1+S0.n % 3=((1+S0.n % 3).toNat:Int); omega
 have HCK:=hid (show yq (shT S0)=true from kR S0.n (fun i=>S0.ns.getD i 0) S0.ns.length S0.div);have HCS:=hid (show ∀ i,((shT S0).op i).c<18446744073709551616 from fun i=>opAt_c _ _ _ _);have HEN:=hid (show 1≤shE S0∧shE S0≤1073741824 from ⟨lV S0,kD S0⟩);have hLO:1≤tk (shL S0):=uZ _;have hKF:shK S0≤28:=by have:=Int.emod_lt_of_pos S0.first (show (0:Int)<13 by decide); unfold shK; omega
 have HTA:=hid hT;have HYA:=hid hY;have HTN:=hid hTN;clear hT hY hBx hO hb3 hTN HB2 H0;generalize shT S0=T at *;generalize shN S0=n at *;generalize shE S0=en at *;generalize tk (shL S0)=lo at *;generalize shK S0=kf at *;generalize shA S0=pa at *;generalize shR S0=pr at *;generalize shM S0=lt at *;have AL:=hid (al1 w3 (.cells #[.int .i64 n,.slice ao lo' co,.slice au lu cu,.slice ab n cb,.slice ay n cy,.int .i64 en,.int .i64 (tk kf),.int .i64 lo,.float .f64 pa,.float .f64 pr,.float .f64 4616189618054758400,.int .i64 24,.slice at' lt ct] 33));go_upto_region 6 with fail
 generalize w3.alloc (.cells #[.int .i64 n,.slice ao lo' co,.slice au lu cu,.slice ab n cb,.slice ay n cy,.int .i64 en,.int .i64 (tk kf),.int .i64 lo,.float .f64 pa,.float .f64 pr,.float .f64 4616189618054758400,.int .i64 24,.slice at' lt ct] 33)=Y at *;obtain ⟨Pp,hPp⟩:∃ P,w3.heap.size=P:=⟨_,rfl⟩;obtain ⟨y1,y2,y3⟩:=AL.out;have HTY:=hid (HTA.out.below y3);have HYY:=hid (HYA.out.below y3);rw [hPp] at y1 y2 y3;simp only [hPp];have HPY:=hid y1;have HBY:=hid (HB3.out.trans (y3.mono (by have:=HB3.out.size; omega)));have hPY:Pp<Y.heap.size:=by omega
 clear y1 y2 y3 AL HTA HYA HB3 hPp
 go_wp2_with (first
  | (refine wpList_load_row rfl 33 _ rfl Pp rfl 33 #[.int .i64 n,.slice ao lo' co,.slice au lu cu,.slice ab n cb,.slice ay n cy,.int .i64 en,.int .i64 (tk kf),.int .i64 lo,.float .f64 pa,.float .f64 pr,.float .f64 4616189618054758400,.int .i64 24,.slice at' lt ct] _ _ HPY.out Tryz.underlying33 rfl (by kernel_rfl) ?_)
  | fail)
 refine (kd n T _ _ _ _ _ _ en (tk kf) lo 24 pa pr _ Y HTY.out HYY.out HCK.out (fun i _=>HCS.out i) HTN.out hN1.1 (by omega)).mono ?_;rintro e Wb ⟨v,rfl,ho,hb4⟩;obtain ⟨az0,cz0,rfl⟩:=ho.shape;have AL:=hid (al1 Wb (.cells #[.int .i64 0,.int .i64 (tk kf),.int .i64 1,.int .i64 0,.slice az0 2 cz0,.int .i64 0,.int .i64 0,.int .i64 0] 39));have HO4:=hid ho;have HTB:=hid (HTY.out.below hb4);have HPB:=hid ((hb4.block Pp hPY).trans HPY.out);have HBB:=hid (HBY.out.trans (hb4.mono HBY.out.size));have hPB:Pp<Wb.heap.size:=Nat.lt_of_lt_of_le hPY hb4.size;clear ho hb4 HTY HPY HBY HYY;go_upto_region 7 with fail
 generalize Wb.alloc (.cells #[.int .i64 0,.int .i64 (tk kf),.int .i64 1,.int .i64 0,.slice az0 2 cz0,.int .i64 0,.int .i64 0,.int .i64 0] 39)=V0 at *;obtain ⟨Px,hPx⟩:∃ P,Wb.heap.size=P:=⟨_,rfl⟩;obtain ⟨y1,y2,y3⟩:=AL.out;have HZ0:=hid ((HO4.out.below y3).tabK (b0:=0) (by omega) (by omega));rw [hPx] at y1 y3;simp only [hPx];have HX0:=hid y1;have HBV:=hid y3;have hPpx:Pp<Px:=hPx ▸ hPB;have HPX:=hid hPx;clear y1 y2 y3 AL HO4 hPx;have s1:=Int.emod_nonneg st (show (16:Int)≠0 by decide);have s2:=Int.emod_lt_of_pos st (show (0:Int)<16 by decide);have WS:=hid (fun W=>wU st 16 W (by decide) (by decide));generalize st % 16=sm at *;have k1:IntKind.i64.wrap (4+sm)=4+sm:=IntWalk.i64_in _ (by omega);go_wp2_with fail
 go_loopw [7] (fun i wr=>∃ (j:Nat) (s:Sol) (az:Option Addr) (cz:Nat),j≤4+sm.toNat∧i=.int .i64 j∧v8 j lo s∧wr.heap[Px]? = some (.cells #[.int .i64 s.at_,.int .i64 (tk s.k),.int .i64 s.q,.int .i64 s.M,.slice az (s.q+1) cz,.int .i64 s.good,.int .i64 s.fails,.int .i64 s.slow] 39)∧wi 0 wr (.slice az (s.q+1) cz) (s.q+1) n s.z∧Below Px Wb wr) (fun i _=>4+sm.toNat-(intOf i).toNat)
 case atStart=>exact ⟨0,⟨0,kf,1,0,xq T (uV S0.ms) (xh (tk kf)),0,0,0⟩,az0,cz0,by omega,rfl,⟨Nat.le_refl 1,by show 1+0≤5; omega,by show kf≤32; omega,by show 0<2; omega,hLO,⟨Int.le_refl 0,by show (0:Int)≤((0:Nat):Int)*4294967296; decide⟩,⟨Int.le_refl 0,Int.le_refl 0⟩,⟨Int.le_refl 0,by show (0:Int)≤2; decide⟩,⟨Int.le_refl 0,by show (0:Int)≤1; decide⟩⟩,HX0.out,HZ0.out,HBV.out⟩
 case round=>
  clear HZ0 HX0 HBV;obtain ⟨j,s,az,cz,hj,rfl,hs,hx,hz,hb⟩:=hrel;have HPW:=hid ((hb.block Pp hPpx).trans HPB.out);have HXW:=hid hx;have hXw:=zj hx;have hPw:Pp<wr.heap.size:=by omega
  have HBW:=hid hb;have HZW:=hid hz;have HSA:=hid hs;clear hx hz hb;by_cases hjm:(j:Int)<4+sm
  ·have hj24:j≤1000:=by omega
   have HOK:=hid (hs.ok hj24);have hTW:=(HTB.out.below (HPX.out ▸ HBW.out))
   have hq6:s.q≤5:=by have:=hs.q5; omega
   have hq1:=hs.q1;have HNX:=hid (try_at hs (show en≤2147483648 by have:=HEN.out; omega) T n pa pr);have HFA:=hid (try_keeps (T:=T) (n:=n) (a:=pa) (r:=pr) (lo:=lo) (en:=en) (s:=s) (fun i hi=>HZW.out.tab.can (k:=0) (by omega) hi));have hRq:(uG T n pa pr lo en s).S.q≤10:=by have:=HNX.out.q5; omega
   have hRr:(uG T n pa pr lo en s).N.rows≤10:=by have:=kF T n pa pr lo en s; omega
   have AS:=hid (fun W (hW:Below wr.heap.size wr W)=>as_tells n s.q s.at_ (tk s.k) s.good s.fails s.slow s.M _ s.z hq1 hq6 hN1.1 (by omega) W (HZW.out.below hW).tab);have TR:=hid (fun W (hW:Below wr.heap.size wr W) vz (hz:yB W vz (s.q+1) (fun _=>n) s.z)=>(lR n T (.slice ao lo' co) (.slice au lu cu) (.slice ab n cb) (.slice ay n cy) (.slice at' lt ct) vz en (tk kf) lo 24 pa pr 4616189618054758400 s W (hTW.below hW) hz HOK.out HCK.out HCS.out HTN.out hN1.1 (by omega)).mono fun e w' h=>h.two hRq hRr (by omega));have RR:=hid (fun W (hW:Below wr.heap.size wr W)=>(rtry_any n 0 T (.slice ao lo' co) (.slice au lu cu) (.slice ab n cb) (.slice ay n cy) (.slice at' lt ct) _ en (tk kf) lo 24 pa pr 4616189618054758400 s W (hTW.below hW) (Nat.zero_le _) (HZW.out.below hW) HOK.out HCK.out HCS.out HTN.out hN1.1 (by omega)).mono fun e w' h=>h.two);clear hTW hs HOK hj24;generalize uG T n pa pr lo en s=R at *;clear hRr;go_wp2_with fail;refine (WS.out _).mono ?_;rintro e w' ⟨rfl,rfl⟩;go_upto_region 10 with fail
   go_cut [8] (fun u wx=>∃ (P7:Nat) (b1:Option Addr) (e1:Nat) (b2:Option Addr) (e2 y1:Nat),u=.pointer (some ⟨P7,0,none⟩)∧wx.heap[P7]? = some (.cells #[.int .i64 R.S.at_,.int .i64 (tk R.S.k),.int .i64 R.S.q,.int .i64 R.S.M,.slice b1 (R.S.q+1) e1,.int .i64 R.S.good,.int .i64 R.S.fails,.int .i64 R.S.slow,.int .i64 R.N.at_,.int .i64 R.N.st,.int .i64 R.N.q,.int .i64 R.N.M,.slice b2 R.N.rows e2,.bool R.took,.float .f64 y1,.int .i64 R.e] 45)∧zk y1=R.err ∧
    wi 0 wx (.slice b1 (R.S.q+1) e1) (R.S.q+1) n R.S.z∧wi 0 wx (.slice b2 R.N.rows e2) R.N.rows n R.N.z∧Below wr.heap.size wr wx)
   case first=>
    refine uO [(1,3),(0,3)] [2,3,4,5] [0,1] [(3,[2]),(5,[3,4])] (fun W=>Below wr.heap.size wr W) (fun L a w=>∃ v2 v3 v7:Value,a=⟨#[.agg #[.int .i64 S0.n,.int .i64 S0.first,.int .i64 S0.least,.int .i64 S0.tol,.int .i64 S0.en,.slice a1 S0.ns.length c1,.slice a2 S0.ms.length c2,.slice a3 S0.outs.length c3,.bool S0.div],.int .i64 st,.pointer (some ⟨B,0,none⟩),undef,u4,.pointer (some ⟨Pp,0,none⟩),.pointer (some ⟨Px,0,none⟩),.int .i64 j,v7,u9,.bool true,.bool false,.agg #[.int .i64 S0.n,.int .i64 S0.first,.int .i64 S0.least,.int .i64 S0.tol,.int .i64 S0.en,.slice a1 S0.ns.length c1,.slice a2 S0.ms.length c2,.slice a3 S0.outs.length c3,.bool S0.div],.bool true,.bool false,.agg #[.int .i64 S0.n,.int .i64 S0.first,.int .i64 S0.least,.int .i64 S0.tol,.int .i64 S0.en,.slice a1 S0.ns.length c1,.slice a2 S0.ms.length c2,.slice a3 S0.outs.length c3,.bool S0.div],.agg #[.int .i64 n,.slice ao lo' co,.slice au lu cu,.slice ab n cb,.slice ay n cy,.int .i64 en,.int .i64 (tk kf),.int .i64 lo,.float .f64 pa,.float .f64 pr,.float .f64 4616189618054758400,.int .i64 24,.slice at' lt ct],.agg #[.int .i64 n,.slice ao lo' co,.slice au lu cu,.slice ab n cb,.slice ay n cy,.int .i64 en,.int .i64 (tk kf),.int .i64 lo,.float .f64 pa,.float .f64 pr,.float .f64 4616189618054758400,.int .i64 24,.slice at' lt ct],.agg #[.int .i64 0,.int .i64 (tk kf),.int .i64 1,.int .i64 0,.slice az0 2 cz0,.int .i64 0,.int .i64 0,.int .i64 0],.int .i64 j,.int .i64 st,.int .i64 sm,.int .i64 (4+sm),.bool true,u24,u25,.agg #[.int .i64 n,.slice ao lo' co,.slice au lu cu,.slice ab n cb,.slice ay n cy,.int .i64 en,.int .i64 (tk kf),.int .i64 lo,.float .f64 pa,.float .f64 pr,.float .f64 4616189618054758400,.int .i64 24,.slice at' lt ct],.agg #[.int .i64 s.at_,.int .i64 (tk s.k),.int .i64 s.q,.int .i64 s.M,.slice az (s.q+1) cz,.int .i64 s.good,.int .i64 s.fails,.int .i64 s.slow],v2,v3,u30,u31,u32,u33,u34,u35,u36,u37,u38,u39,u40,u41,u42,u43,u44,u45,u46,u47,u48,u49,u50,u51,u52,u53,u54,u55,u56,u57,u58,u59,u60,u61,u62,u63,u64,u65,u66,u67,u68,u69,u70,u71,u72,u73,u74,u75,u76,u77,u78,u79,u80,u81,u82,u83,u84,u85,u86,u87,u88,u89,u90,u91,u92,u93,u94,u95,u96,u97,u98,u99,u100,u101,u102],[]⟩∧OnA wr n s R L w v2 v3 v7) (by kernel_rfl) (by kernel_rfl) (fun _ _ d _ _ h=>by cases d<;>exact h) ((Below.refl _ _).drew)
     (.cons ?o2 (.cons ?o3 (.cons ?o4 (.cons ?o5 .nil)))) ?fin ?ini
    case ini=>
     intro Z hZ hbZ;clear hZ;refine rf (v:=.agg #[.int .i64 s.at_,.int .i64 (tk s.k),.int .i64 s.q,.int .i64 s.M,.slice az (s.q+1) cz,.int .i64 s.good,.int .i64 s.fails,.int .i64 s.slow]) rfl rfl (fun wk hwk=>?_) ?_
     ·exact keep_row 39 _ rfl Px rfl 39 #[.int .i64 s.at_,.int .i64 (tk s.k),.int .i64 s.q,.int .i64 s.M,.slice az (s.q+1) cz,.int .i64 s.good,.int .i64 s.fails,.int .i64 s.slow] _ ((hwk.block Px hXw).trans HXW.out) Tryz.underlying39 rfl (by kernel_rfl)
     refine rf (v:=.agg #[.int .i64 n,.slice ao lo' co,.slice au lu cu,.slice ab n cb,.slice ay n cy,.int .i64 en,.int .i64 (tk kf),.int .i64 lo,.float .f64 pa,.float .f64 pr,.float .f64 4616189618054758400,.int .i64 24,.slice at' lt ct]) rfl rfl (fun wk hwk=>?_) ?_
     ·exact keep_row 33 _ rfl Pp rfl 33 #[.int .i64 n,.slice ao lo' co,.slice au lu cu,.slice ab n cb,.slice ay n cy,.int .i64 en,.int .i64 (tk kf),.int .i64 lo,.float .f64 pa,.float .f64 pr,.float .f64 4616189618054758400,.int .i64 24,.slice at' lt ct] _ ((hwk.block Pp hPw).trans HPW.out) Tryz.underlying33 rfl (by kernel_rfl)
     refine r6 fun L hL=>⟨_,_,_,rfl,hbZ,?_,?_,?_,?_,?_⟩
     ·exact fun h=>absurd h (by rw [hL 5 (by decide)]; decide)
     ·exact fun h=>absurd h (by rw [hL 2 (by decide)]; decide)
     ·exact fun h=>absurd h (by rw [hL 3 (by decide)]; decide)
     ·exact fun h=>absurd h (by rw [hL 4 (by decide)]; decide)
     ·exact fun h=>absurd h (by rw [hL 5 (by decide)]; decide)
    case o2=>
     rintro L a w hL hd ⟨v2,v3,v7,rfl,hI⟩ K hK;go_simp;refine (AS.out w hI.b).mono ?_;rintro e w' ⟨v,rfl,ho2,hst⟩;obtain ⟨av,cv,rfl⟩:=ho2.shape;have hb:=hI.b.trans (hst.mono hI.b.size);exact hK _ _ (fun _=>hb) ⟨_,_,_,rfl,hb,hI.o4,fun _ _=>⟨av,cv,rfl,(ho2.base (b':=wr.heap.size) hI.b.size).tab (by omega) (by omega)⟩,fun h=>(hI.h3 h).below hst,fun h g=>(hI.h4 h g).below hst,fun h=>(hI.h5 h).below hst⟩
    case o3=>
     rintro L a w hL hd ⟨v2,v3,v7,rfl,hI⟩ K hK;have h2:=hd 2 (by decide);obtain ⟨av,cv,rfl,ht⟩:=hI.h2 h2 hL;go_simp;refine (TR.out w hI.b _ ht).mono ?_;rintro e w' ⟨hst,b1,e1,b2,e2,y1,rfl,hq1,-,ht1,hn1⟩;have hb:=hI.b.trans (hst.mono hI.b.size);exact hK _ _ (fun _=>hb) ⟨_,_,_,rfl,hb,hI.o4,fun _ g=>Bool.noConfusion g,fun _=>⟨b1,e1,b2,e2,y1,rfl,hq1,ht1,hn1⟩,fun h g=>(hI.h4 h g).below hst,fun h=>(hI.h5 h).below hst⟩
    case o4=>
     rintro L a w hL hd ⟨v2,v3,v7,rfl,hI⟩ K hK;go_simp;obtain ⟨y1,y2,hst⟩:=al1 w (.cells #[.int .i64 0,.int .i64 0,.int .i64 0,.int .i64 0,.slice none 0 0,.int .i64 0,.int .i64 0,.int .i64 0,.int .i64 0,.int .i64 0,.int .i64 0,.int .i64 0,.slice none 0 0,.bool false,.float .f64 0,.int .i64 0] 45);have hb:=hI.b.trans (hst.mono hI.b.size);exact hK _ _ (fun _=>hb) ⟨_,_,_,rfl,hb,fun _=>rfl,fun h g=>by obtain ⟨av,cv,e,h⟩:=hI.h2 h g; exact ⟨av,cv,e,h.below hst⟩,fun h=>(hI.h3 h).below hst,fun _ _=>⟨_,_,rfl,hI.b.size,rfl,y1⟩,fun h=>absurd ((hI.o4 h).symm.trans hL) (by decide)⟩
    case o5=>
     rintro L a w hL hd ⟨v2,v3,v7,rfl,hI⟩ K hK;obtain ⟨P,cs,rfl,hP,h16,hp⟩:=hI.h4 (hd 4 (by decide)) hL;obtain ⟨b1,e1,b2,e2,y,rfl,hy,ht,hn⟩:=hI.h3 (hd 3 (by decide));have hrow:=yx hp #[.int .i64 R.S.at_,.int .i64 (tk R.S.k),.int .i64 R.S.q,.int .i64 R.S.M,.slice b1 (R.S.q+1) e1,.int .i64 R.S.good,.int .i64 R.S.fails,.int .i64 R.S.slow,.int .i64 R.N.at_,.int .i64 R.N.st,.int .i64 R.N.q,.int .i64 R.N.M,.slice b2 R.N.rows e2,.bool R.took,.float .f64 y,.int .i64 R.e];have hb:=hrow.1.below hI.b hP hI.b.size;refine xt rfl ?_;refine wz (by rfl) 45 _ _ (by rfl) P #[.int .i64 R.S.at_,.int .i64 (tk R.S.k),.int .i64 R.S.q,.int .i64 R.S.M,.slice b1 (R.S.q+1) e1,.int .i64 R.S.good,.int .i64 R.S.fails,.int .i64 R.S.slow,.int .i64 R.N.at_,.int .i64 R.N.st,.int .i64 R.N.q,.int .i64 R.N.M,.slice b2 R.N.rows e2,.bool R.took,.float .f64 y,.int .i64 R.e] (by rfl) (by rfl) 45 _ hp (by kernel_rfl) h16 (by simp [Value.oneCell']) ?_;exact hK _ _ (fun _=>hb) ⟨_,_,_,rfl,hb,fun _=>hd 4 (by decide),fun h g=>absurd ((show L 3=false from g).symm.trans (hd 3 (by decide))) (by decide),fun h=>by obtain ⟨c1,d1,c2,d2,y',e,g1,g2,g3⟩:=hI.h3 h; exact ⟨c1,d1,c2,d2,y',e,g1,g2.tried hp hrow.1,g3.tried hp hrow.1⟩,fun _ g=>Bool.noConfusion g,fun _=>⟨P,b1,e1,b2,e2,y,rfl,hrow.2.1,hy,ht.tried hp hrow.1,hn.tried hp hrow.1⟩⟩
    case fin=>
     rintro L a w hL ⟨v2,v3,v7,rfl,hI⟩;obtain ⟨P7,b1,e1,b2,e2,y1,rfl,hp7,hy1,ht1,hn1⟩:=hI.h5 (hL 5 (by decide));have hb:=hI.b;clear hI hL;go_wp2_with fail;go_meet;exact ⟨P7,b1,e1,b2,e2,y1,rfl,hp7,hy1,ht1,hn1,hb⟩
   case rest=>
    obtain ⟨P7,b1,e1,b2,e2,y1,rfl,hp7,hy1,ht3,hn3,hb⟩:=hcut;clear AS TR;have HP7:=hid hp7;have HT7:=hid (show _∧_ from ⟨ht3,hn3⟩);have HYY:=hid (show zk y1=R.err from hy1);have HBC:=hid hb;clear hp7 hy1 ht3 hn3 hb
    go_wp2_with (first
     | (refine wpList_load_row rfl 33 _ rfl Pp rfl 33 #[.int .i64 n,.slice ao lo' co,.slice au lu cu,.slice ab n cb,.slice ay n cy,.int .i64 en,.int .i64 (tk kf),.int .i64 lo,.float .f64 pa,.float .f64 pr,.float .f64 4616189618054758400,.int .i64 24,.slice at' lt ct] _ _ ((HBC.out.block Pp hPw).trans HPW.out) Tryz.underlying33 rfl (by kernel_rfl) ?_)
     | (refine wpList_load_row rfl 39 _ rfl Px rfl 39 #[.int .i64 s.at_,.int .i64 (tk s.k),.int .i64 s.q,.int .i64 s.M,.slice az (s.q+1) cz,.int .i64 s.good,.int .i64 s.fails,.int .i64 s.slow] _ _ ((HBC.out.block Px hXw).trans HXW.out) Tryz.underlying39 rfl (by kernel_rfl) ?_)
     | fail)
    refine (RR.out wc HBC.out).mono ?_;rintro e wd ⟨hbd,g1,f1,g2,f2,y2,rfl,hy2,-,ht6,hn6⟩;clear RR;have hbA:=HBC.out.trans (hbd.mono HBC.out.size);have AL:=al1 wd (.cells #[.int .i64 0,.int .i64 0,.int .i64 0,.int .i64 0,.slice none 0 0,.int .i64 0,.int .i64 0,.int .i64 0,.int .i64 0,.int .i64 0,.int .i64 0,.int .i64 0,.slice none 0 0,.bool false,.float .f64 0,.int .i64 0] 49);have hrow:=yx AL.1 #[.int .i64 R.S.at_,.int .i64 (tk R.S.k),.int .i64 R.S.q,.int .i64 R.S.M,.slice g1 (R.S.q+1) f1,.int .i64 R.S.good,.int .i64 R.S.fails,.int .i64 R.S.slow,.int .i64 R.N.at_,.int .i64 R.N.st,.int .i64 R.N.q,.int .i64 R.N.M,.slice g2 R.N.rows f2,.bool R.took,.float .f64 y2,.int .i64 R.e];have hbW:Below wd.heap.size wd ((wd.alloc (.cells #[.int .i64 0,.int .i64 0,.int .i64 0,.int .i64 0,.slice none 0 0,.int .i64 0,.int .i64 0,.int .i64 0,.int .i64 0,.int .i64 0,.int .i64 0,.int .i64 0,.slice none 0 0,.bool false,.float .f64 0,.int .i64 0] 49)).setRow wd.heap.size #[.int .i64 R.S.at_,.int .i64 (tk R.S.k),.int .i64 R.S.q,.int .i64 R.S.M,.slice g1 (R.S.q+1) f1,.int .i64 R.S.good,.int .i64 R.S.fails,.int .i64 R.S.slow,.int .i64 R.N.at_,.int .i64 R.N.st,.int .i64 R.N.q,.int .i64 R.N.M,.slice g2 R.N.rows f2,.bool R.took,.float .f64 y2,.int .i64 R.e]):=hrow.1.below AL.2.2 (Nat.le_refl _) (by have:=AL.2.1; omega);have hpp:=hrow.2.1
    go_upto_region 12 with (first
     | (refine wpList_store_row rfl 49 _ _ rfl wd.heap.size #[.int .i64 R.S.at_,.int .i64 (tk R.S.k),.int .i64 R.S.q,.int .i64 R.S.M,.slice g1 (R.S.q+1) f1,.int .i64 R.S.good,.int .i64 R.S.fails,.int .i64 R.S.slow,.int .i64 R.N.at_,.int .i64 R.N.st,.int .i64 R.N.q,.int .i64 R.N.M,.slice g2 R.N.rows f2,.bool R.took,.float .f64 y2,.int .i64 R.e] rfl rfl 49 _ AL.1 (by kernel_rfl) rfl (by simp [Value.oneCell']) ?_)
     | fail)
    clear hrow AL;generalize (wd.alloc (.cells #[.int .i64 0,.int .i64 0,.int .i64 0,.int .i64 0,.slice none 0 0,.int .i64 0,.int .i64 0,.int .i64 0,.int .i64 0,.int .i64 0,.int .i64 0,.int .i64 0,.slice none 0 0,.bool false,.float .f64 0,.int .i64 0] 49)).setRow wd.heap.size #[.int .i64 R.S.at_,.int .i64 (tk R.S.k),.int .i64 R.S.q,.int .i64 R.S.M,.slice g1 (R.S.q+1) f1,.int .i64 R.S.good,.int .i64 R.S.fails,.int .i64 R.S.slow,.int .i64 R.N.at_,.int .i64 R.N.st,.int .i64 R.N.q,.int .i64 R.N.M,.slice g2 R.N.rows f2,.bool R.took,.float .f64 y2,.int .i64 R.e]=wq at *;have hba:=hbd.trans (hbW.mono hbd.size);have HTT:=hid (show _∧_∧_∧_ from ⟨HT7.out.1.below hba,HT7.out.2.below hba,ht6.below hbW,hn6.below hbW⟩)
    replace HBC:=hid (HBC.out.trans (hba.mono HBC.out.size))
    replace HP7:=hid ((hba.block P7 (zj HP7.out)).trans HP7.out)
    have HP8:=hid hpp;obtain ⟨P8,hP8⟩:∃ P,wd.heap.size=P:=⟨_,rfl⟩;rw [hP8] at HP8;simp only [hP8,Act.put];have HCX:=hid ((HBC.out.block Px hXw).trans HXW.out);have HPC:=hid ((HBC.out.block Pp hPw).trans HPW.out);clear hpp hba hbW ht6 hn6 hbd hbA HT7 hP8;obtain ⟨⟨-,-,ka2,-,ka4,-,-,-⟩,-,-,ka10,-,ka12,ka13,-,-⟩:=yw HP7.out;obtain ⟨-,-,-,-,kx4,-,-,-⟩:=zO HCX.out;have hR1:=HNX.out.q1;have hRq5:=hRq;have hqq:=HFA.out.2.2;go_upto_region 12 with fail
    go_cut [51] (fun u wx=>u=.bool false∧wx=wq)
    case first=>
     clear hqq;go_wp2_with fail;go_meet;exact ⟨congrArg Value.bool (by simp; omega),rfl⟩
    case rest=>
     obtain ⟨rfl,rfl⟩:=hcut;cases htt:R.took
     all_goals rw [htt] at ka13
     ·clear hqq;have hz0:=HFA.out.1 htt;have HA:=HTT.out.1.tab;have HX:=(HZW.out.below HBC.out).tab;obtain ⟨bz1,oz1,cz1,hv,hl1,hr1⟩:=HA.rowAt (by omega);simp only [Value.slice.injEq,true_and] at hv;obtain ⟨rfl,rfl⟩:=hv;obtain ⟨pz1,qz1,hc1,hw1⟩:=hr1 0 (by omega);rw [Nat.add_zero] at hc1;clear hr1;obtain ⟨bz2,oz2,cz2,hv,hl2,hr2⟩:=HX.rowAt (by omega);simp only [Value.slice.injEq,true_and] at hv;obtain ⟨rfl,rfl⟩:=hv;obtain ⟨pz2,qz2,hc2,hw2⟩:=hr2 0 (by omega);rw [Nat.add_zero] at hc2;clear hr2;have HRW:=hid (fun W (hW:Below wc.heap.size wc W)=>me _ _ n (R.S.z 0) W (hw1.below hW) ((hw2.congr (fun i hi=>(hz0 i hi).symm)).below hW));clear HA HX hw1 hw2 hz0;have l7:=zj HP7.out;have lx:=zj HCX.out;go_wp2_with fail;refine zv [(0,1),(1,1),(2,1),(3,3),(4,1),(5,3),(6,1),(7,1),(8,3),(9,1),(10,3),(11,0),(12,1)] (fun W=>Below wc.heap.size wc W) (by kernel_rfl) (by kernel_rfl) (fun _ _ d _ _ h=>by cases d<;>exact h) ((Below.refl _ _).drew) ?_;intro Z hZ hbZ;clear hZ
      iterate 3
       first
        | refine zd (fun K hK=>?_)
        | refine ze (fun K hK=>?_)
       go_simp;refine hK _ ?_;clear hK K
      refine zh (v:=.slice (some ⟨bz1,oz1,none⟩) (R.S.q+1) e1) rfl rfl (fun wk hwk=>?_) ?_
      ·rw [← (zA hwk).1 _ _ l7] at ka4;go_simp
      iterate 1
       first
        | refine zd (fun K hK=>?_)
        | refine ze (fun K hK=>?_)
       go_simp;refine hK _ ?_;clear hK K
      refine zh (v:=.slice pz1 n qz1) rfl rfl (fun wk hwk=>?_) ?_
      ·rw [← (zA hwk).1 _ _ hl1] at hc1;go_simp
      iterate 2
       first
        | refine zd (fun K hK=>?_)
        | refine ze (fun K hK=>?_)
       go_simp;refine hK _ ?_;clear hK K
      refine zh (v:=.slice (some ⟨bz2,oz2,none⟩) (s.q+1) cz) rfl rfl (fun wk hwk=>?_) ?_
      ·rw [← (zA hwk).1 _ _ lx] at kx4;go_simp
      iterate 1
       first
        | refine zd (fun K hK=>?_)
        | refine ze (fun K hK=>?_)
       go_simp;refine hK _ ?_;clear hK K
      refine zh (v:=.slice pz2 n qz2) rfl rfl (fun wk hwk=>?_) ?_
      ·rw [← (zA hwk).1 _ _ hl2] at hc2;go_simp
      refine zm (fun K hK=>?_);go_simp;refine (HRW.out Z hbZ).mono ?_;rintro e' w3 ⟨rfl,hb3⟩;have hbB:=hbZ.trans (hb3.mono hbZ.size);refine hK _ _ (fun h=>Bool.noConfusion (Eq.trans (Eq.symm (by kernel_rfl:_=false)) h)) (fun _=>hbB) ?_;clear hK K
      iterate 1
       first
        | refine zd (fun K hK=>?_)
        | refine ze (fun K hK=>?_)
       go_simp;refine hK _ ?_;clear hK K
      refine zo ?_
      replace HP8:=hid ((hbB.block P8 (zj HP8.out)).trans HP8.out)
      replace HCX:=hid ((hbB.block Px (zj HCX.out)).trans HCX.out)
      replace HTT:=hid (show _∧_∧_∧_ from ⟨HTT.out.1.below hbB,HTT.out.2.1.below hbB,HTT.out.2.2.1.below hbB,HTT.out.2.2.2.below hbB⟩)
      replace HBC:=hid (HBC.out.trans (hbB.mono HBC.out.size))
      have e15:=(yw HP8.out).2.2.2.2.2.2.2.2;clear hb3 hbZ hbB;by_cases hE:R.e=0
      ·have hE2:(R.e != 0)=false:=by simp [hE]
       go_wp2_with (first
        | (refine wpList_load_mid rfl 39 _ rfl P8 0 rfl [.int .i64 R.S.at_,.int .i64 (tk R.S.k),.int .i64 R.S.q,.int .i64 R.S.M,.slice g1 (R.S.q+1) f1,.int .i64 R.S.good,.int .i64 R.S.fails,.int .i64 R.S.slow] _ (World.rangeAt_of_block HP8.out 0 8) Tryz.underlying39 rfl (by kernel_rfl) ?_)
        | (refine wpList_store_row rfl 39 _ _ rfl Px #[.int .i64 R.S.at_,.int .i64 (tk R.S.k),.int .i64 R.S.q,.int .i64 R.S.M,.slice g1 (R.S.q+1) f1,.int .i64 R.S.good,.int .i64 R.S.fails,.int .i64 R.S.slow] rfl rfl 39 _ HCX.out (by kernel_rfl) rfl (by simp [Value.oneCell']) ?_)
        | fail)
       have hrow:=yx HCX.out #[.int .i64 R.S.at_,.int .i64 (tk R.S.k),.int .i64 R.S.q,.int .i64 R.S.M,.slice g1 (R.S.q+1) f1,.int .i64 R.S.good,.int .i64 R.S.fails,.int .i64 R.S.slow];refine ⟨⟨j+1,R.S,g1,f1,by omega,by go_num,HNX.out,hrow.2.1,HTT.out.2.2.1.place HCX.out hrow.1,hrow.1.below (HBW.out.trans (HBC.out.mono (by have:=HBW.out.size; omega))) (Nat.le_refl _) (by have:=HBC.out.size; omega)⟩,?_⟩;simp only [intOf];omega
      ·have hE2:(R.e != 0)=true:=by simp [hE]
       go_wp2_with fail;go_ret;exact ⟨rfl,hB ▸ BX.out _ (HBB.out.trans ((HBW.out.trans (HBC.out.mono (by have:=HBW.out.size; omega))).mono (by have:=HBB.out.size; have:=HPX.out; omega)))⟩
     ·obtain ⟨hq2,hq3⟩:=hqq htt;have hd1:(2:Int)≤(R.N.rows:Int):=by omega
      have hd0:decide ((R.N.rows:Int)<2)=false:=decide_eq_false (by omega);have hd2:((R.N.rows:Int) != R.N.q+1)=false:=by rw [hq2]; simp
      have hd3:IntKind.i64.wrap (R.N.q+1)=R.N.q+1:=IntWalk.i64_in _ (by omega);have hd4:0<R.N.rows:=by omega
      clear hq2 hq3 hqq;have hz0:=HFA.out.2.1 htt (fun i hi=>HTT.out.2.1.tab.can (k:=0) (by omega) hi);have HA:=HTT.out.1.tab;have HN:=HTT.out.2.1.tab;obtain ⟨bz1,oz1,cz1,hv,hl1,hr1⟩:=HA.rowAt (by omega);simp only [Value.slice.injEq,true_and] at hv;obtain ⟨rfl,rfl⟩:=hv;obtain ⟨pz1,qz1,hc1,hw1⟩:=hr1 0 (by omega);rw [Nat.add_zero] at hc1;clear hr1;obtain ⟨bz2,oz2,cz2,hv,hl2,hr2⟩:=HN.rowAt (by omega);simp only [Value.slice.injEq,true_and] at hv;obtain ⟨rfl,rfl⟩:=hv;obtain ⟨pz2,qz2,hc2,hw2⟩:=hr2 0 (by omega);rw [Nat.add_zero] at hc2;clear hr2;have HRW:=hid (fun W (hW:Below wc.heap.size wc W)=>me _ _ n (R.S.z 0) W (hw1.below hW) ((hw2.congr (fun i hi=>(hz0 i hi).symm)).below hW));clear HA HN hw1 hw2 hz0;have l7:=zj HP7.out;go_wp2_with fail;refine zv [(0,1),(1,1),(2,3),(3,1),(4,1),(5,1),(6,1),(7,1),(8,1),(9,3),(10,1),(11,3),(12,1),(13,1),(14,3),(15,1),(16,3),(17,0),(18,1),(19,1),(20,1),(21,1),(22,1),(23,3),(24,1),(25,1),(26,1),(27,3),(28,1),(29,1),(30,1)] (fun W=>Below wc.heap.size wc W) (by kernel_rfl) (by kernel_rfl) (fun _ _ d _ _ h=>by cases d<;>exact h) ((Below.refl _ _).drew) ?_;intro Z hZ hbZ;clear hZ
      iterate 2
       first
        | refine zd (fun K hK=>?_)
        | refine ze (fun K hK=>?_)
       go_simp;refine hK _ ?_;clear hK K
      refine zh (v:=.slice (some ⟨bz2,oz2,none⟩) R.N.rows e2) rfl rfl (fun wk hwk=>?_) ?_
      ·rw [← (zA hwk).1 _ _ l7] at ka12;go_simp
      iterate 6
       first
        | refine zd (fun K hK=>?_)
        | refine ze (fun K hK=>?_)
       go_simp;refine hK _ ?_;clear hK K
      refine zh (v:=.slice (some ⟨bz1,oz1,none⟩) (R.S.q+1) e1) rfl rfl (fun wk hwk=>?_) ?_
      ·rw [← (zA hwk).1 _ _ l7] at ka4;go_simp
      iterate 1
       first
        | refine zd (fun K hK=>?_)
        | refine ze (fun K hK=>?_)
       go_simp;refine hK _ ?_;clear hK K
      refine zh (v:=.slice pz1 n qz1) rfl rfl (fun wk hwk=>?_) ?_
      ·rw [← (zA hwk).1 _ _ hl1] at hc1;go_simp
      iterate 2
       first
        | refine zd (fun K hK=>?_)
        | refine ze (fun K hK=>?_)
       go_simp;refine hK _ ?_;clear hK K
      refine zh (v:=.slice (some ⟨bz2,oz2,none⟩) R.N.rows e2) rfl rfl (fun wk hwk=>?_) ?_
      ·rw [← (zA hwk).1 _ _ l7] at ka12;go_simp
      iterate 1
       first
        | refine zd (fun K hK=>?_)
        | refine ze (fun K hK=>?_)
       go_simp;refine hK _ ?_;clear hK K
      refine zh (v:=.slice pz2 n qz2) rfl rfl (fun wk hwk=>?_) ?_
      ·rw [← (zA hwk).1 _ _ hl2] at hc2;go_simp
      refine zm (fun K hK=>?_);go_simp;refine (HRW.out Z hbZ).mono ?_;rintro e' w3 ⟨rfl,hb3⟩;have hbB:=hbZ.trans (hb3.mono hbZ.size);refine hK _ _ (fun h=>Bool.noConfusion (Eq.trans (Eq.symm (by kernel_rfl:_=false)) h)) (fun _=>hbB) ?_;clear hK K
      iterate 5
       first
        | refine zd (fun K hK=>?_)
        | refine ze (fun K hK=>?_)
       go_simp;refine hK _ ?_;clear hK K
      refine zh (v:=.slice (some ⟨bz2,oz2,none⟩) R.N.rows e2) rfl rfl (fun wk hwk=>?_) ?_
      ·rw [← (zA hwk).1 _ _ l7] at ka12;go_simp
      iterate 3
       first
        | refine zd (fun K hK=>?_)
        | refine ze (fun K hK=>?_)
       go_simp;refine hK _ ?_;clear hK K
      refine zh (v:=.int .i64 R.N.q) rfl rfl (fun wk hwk=>?_) ?_
      ·rw [← (zA hwk).1 _ _ l7] at ka10;go_simp
      iterate 3
       first
        | refine zd (fun K hK=>?_)
        | refine ze (fun K hK=>?_)
       go_simp;refine hK _ ?_;clear hK K
      refine zo ?_
      replace HP8:=hid ((hbB.block P8 (zj HP8.out)).trans HP8.out)
      replace HCX:=hid ((hbB.block Px (zj HCX.out)).trans HCX.out)
      replace HTT:=hid (show _∧_∧_∧_ from ⟨HTT.out.1.below hbB,HTT.out.2.1.below hbB,HTT.out.2.2.1.below hbB,HTT.out.2.2.2.below hbB⟩)
      replace HBC:=hid (HBC.out.trans (hbB.mono HBC.out.size))
      have e15:=(yw HP8.out).2.2.2.2.2.2.2.2;clear hb3 hbZ hbB;by_cases hE:R.e=0
      ·have hE2:(R.e != 0)=false:=by simp [hE]
       go_wp2_with (first
        | (refine wpList_load_mid rfl 39 _ rfl P8 0 rfl [.int .i64 R.S.at_,.int .i64 (tk R.S.k),.int .i64 R.S.q,.int .i64 R.S.M,.slice g1 (R.S.q+1) f1,.int .i64 R.S.good,.int .i64 R.S.fails,.int .i64 R.S.slow] _ (World.rangeAt_of_block HP8.out 0 8) Tryz.underlying39 rfl (by kernel_rfl) ?_)
        | (refine wpList_store_row rfl 39 _ _ rfl Px #[.int .i64 R.S.at_,.int .i64 (tk R.S.k),.int .i64 R.S.q,.int .i64 R.S.M,.slice g1 (R.S.q+1) f1,.int .i64 R.S.good,.int .i64 R.S.fails,.int .i64 R.S.slow] rfl rfl 39 _ HCX.out (by kernel_rfl) rfl (by simp [Value.oneCell']) ?_)
        | fail)
       have hrow:=yx HCX.out #[.int .i64 R.S.at_,.int .i64 (tk R.S.k),.int .i64 R.S.q,.int .i64 R.S.M,.slice g1 (R.S.q+1) f1,.int .i64 R.S.good,.int .i64 R.S.fails,.int .i64 R.S.slow];refine ⟨⟨j+1,R.S,g1,f1,by omega,by go_num,HNX.out,hrow.2.1,HTT.out.2.2.1.place HCX.out hrow.1,hrow.1.below (HBW.out.trans (HBC.out.mono (by have:=HBW.out.size; omega))) (Nat.le_refl _) (by have:=HBC.out.size; omega)⟩,?_⟩;simp only [intOf];omega
      ·have hE2:(R.e != 0)=true:=by simp [hE]
       go_wp2_with fail;go_ret;exact ⟨rfl,hB ▸ BX.out _ (HBB.out.trans ((HBW.out.trans (HBC.out.mono (by have:=HBW.out.size; omega))).mono (by have:=HBB.out.size; have:=HPX.out; omega)))⟩
  ·have k2:¬ (j:Int)<4+sm:=hjm;go_wp2_with fail;refine (WS.out _).mono ?_;rintro e w' ⟨rfl,rfl⟩;go_wp2_with fail;go_ret;exact ⟨rfl,hB ▸ BX.out _ (HBB.out.trans (HBW.out.mono (by have:=HBB.out.size; have:=HPX.out; omega)))⟩
end Go.Proofs.YtnlbafjmbamoeaaGreat
namespace Go.Proofs.YtnlbafjmbamoeaaGreat.stepKeeps
open Go.ChangeShapes Go.WideShapes Go.ChangeAt Go.RowKit Go.Proofs.YtnlbafjmbamoeaaGreat
open Lib
theorem own:ownKnob Tryz.prog.godebug=none:=by kernel_rfl
theorem laidOut:laidOutB Tryz.prog=true:=by kernel_rfl
theorem float_lt {b:Nat} (h:(Lit.float .f64 b).wf=true):b<18446744073709551616:=by simpa [Lit.wf] using h
theorem int_lo {n:Int} (h:(Lit.int .i64 n).wf=true):-9223372036854775808≤n∧n≤9223372036854775807:=by
 have a:IntKind.i64.min=-9223372036854775808:=by decide
 have b:IntKind.i64.max=9223372036854775807:=by decide
 simp only [Lit.wf,Bool.and_eq_true,decide_eq_true_eq] at h; omega
set_option maxRecDepth 100000
theorem lifted (os:Os) (started:os.Started) (H:Type) (enc:TypeId × Value→H) :
  ReturnsInHanded {} Tryz.checked os 6 .any (Rows.stepKeepsSpec.pre6 enc Tryz.prog Tryz.f6 Rows.stepKeepsRow.domain false) (Rows.stepKeepsSpec.post enc Tryz.prog Tryz.f6 false true false false):=by
 refine returnsInHanded_of_change (C:=Tryz.checked) own started (by kernel_rfl) Tryz.func6
  (ChangeSpec.witness6 (enc:=enc) (C:=Tryz.checked) false ⟨#[],#[.agg #[.int .i64 0,.int .i64 0,.int .i64 0,.int .i64 0,.int .i64 0,.slice none 0 0,.slice none 0 0,.slice none 0 0,.bool false],.int .i64 0],[]⟩ 8 (by kernel_rfl) (by kernel_rfl) (by kernel_rfl) (by kernel_rfl)) ?_
 intro W base args ds gs before hval0 hW hcnd _;have hval:∀ (j:Nat) t v,Tryz.f6.params[j]? = some t→args[j]? = some v→Value.okWide Tryz.prog W .any base t v:=hval0;have hW':=hW;obtain ⟨p,q,hA0,hV,rfl,hfz,hnd⟩:=hW;have hA:DataW.TrodAll enc Tryz.prog W 0 (fun _=>true) true Tryz.f6.params.toList args.toList ds p:=hA0;rw [Tryz.params6] at hA hval;obtain ⟨v0,vs0,d0,ds0,p0,q0,hargs,rfl,rfl,h0,r0⟩:=trodAll_cons hA;obtain ⟨v1,vs1,d1,ds1,p1,q1,rfl,rfl,rfl,h1,r1⟩:=trodAll_cons r0;obtain ⟨rfl,rfl,rfl⟩:=trodAll_nil r1;obtain rfl:args=#[v0,v1]:=by cases args; simp_all
 obtain ⟨rfl,rfl⟩:=trodVars_none hV;have k0:=h0;obtain ⟨zs0,z0⟩:=shape_of (hval 0 24 v0 rfl rfl) h0;obtain ⟨a1,rfl,rfl,rfl,w1⟩:=open_int Tryz.underlying3 (hval 1 3 v1 rfl rfl) h1;clear hA0 hval0;simp only [List.append_nil] at hW';refine (stepKeeps_any v0 zs0 a1 W z0 (int_lo w1)).mono fun e W' ⟨he,hb⟩=>?_
 subst he;exact ⟨_,rfl,⟨_,_,_,[],_,[],hW',(trodAll_cons_mk (shut_bool Tryz.underlying4 _) trodAll_mk0),(trodAll_cons_mk (Below.trod laidOut (by kernel_rfl) (of_decide_eq_true (by kernel_rfl)) k0 hb (fun x hx=>hW'.lt x (by simp [hx]))) (trodAll_cons_mk (shut_int Tryz.underlying3 w1) trodAll_mk0)),rfl,hb.frame _,fun h=>by cases h⟩⟩
theorem over:Rows.stepKeepsRow.holds Tryz.pinned (OpenSpec.ofChange Rows.stepKeepsSpec):=
 OpenClaim.holds_of_wide 6 Tryz.f6 rfl rfl rfl rfl rfl rfl rfl ⟨rfl,rfl,rfl,rfl,rfl⟩ rfl rfl rfl rfl rfl (by kernel_rfl) Tryz.func6 (by kernel_rfl)
  (of_decide_eq_true (by kernel_rfl)) (by unfold Func.isWrapper; first | (rw [if_pos (by decide +kernel)]; kernel_rfl) | (rw [if_neg (by decide +kernel)]; exact ⟨rfl,rfl⟩))
  (fun os started H enc _=>lifted os started H enc)
theorem proved:Rows.StepKeepsSaid:=
 over
#print axioms proved
end Go.Proofs.YtnlbafjmbamoeaaGreat.stepKeeps
