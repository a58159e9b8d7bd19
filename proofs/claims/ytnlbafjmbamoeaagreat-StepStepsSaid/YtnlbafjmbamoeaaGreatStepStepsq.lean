/-
  'StepSteps': the law answers true, whatever it is given: every input, no condition.
-/
import Derived.Deep.CutBlock
import Derived.Deep.MidRow
import Derived.Test.YtnlbafjmbamoeaaGreatRows
import Derived.WalkKit
import Derived.WalkLawsBesides
import Derived.ProofKit
import Derived.OpenShut
import Derived.Carry
import Derived.Test.YtnlbafjmbamoeaaGreatQt
namespace Go.Proofs.YtnlbafjmbamoeaaGreat
open Go.RowKit
open Ieee (double)
open Lib
attribute [local go_sem] zr zi zy zn zU zS zW zX zV zY zD zH zI zJ zK zB ye z8 zF yE zN zQ zR
theorem tk_mono {a b:Nat} (h:a≤b):tk a≤tk b:=by
 unfold tk;have:2 ^ a≤2 ^ b:=Nat.pow_le_pow_right (by decide) h;omega
set_option maxRecDepth 100000
set_option maxHeartbeats 16000000
theorem stepSteps_any (v0:Value) (S0:ShD) (st:Int) (w:World) (h0:ShAt w v0 S0) (_:-9223372036854775808≤st∧st≤9223372036854775807) :
  Calls Tryz.prog 11 #[v0,.int .i64 st] w fun e w'=>e=.returned (.bool true)∧Below w.heap.size w w':=by
 have H0:=hid h0;obtain ⟨hr,u1,u2,u3,rfl,h1,h2,h3⟩:=id h0;obtain ⟨a1,c1,rfl⟩:=h1.slice;obtain ⟨a2,c2,rfl⟩:=h2.slice;obtain ⟨a3,c3,rfl⟩:=h3.slice;have AL:=al1 w (.cells #[.int .i64 S0.n,.int .i64 S0.first,.int .i64 S0.least,.int .i64 S0.tol,.int .i64 S0.en,.slice a1 S0.ns.length c1,.slice a2 S0.ms.length c2,.slice a3 S0.outs.length c3,.bool S0.div] 24);clear hr h1 h2 h3 h0;go_enter Tryz.func11,Tryz.ntmps11;go_upto_region 1 with fail
 generalize w.alloc (.cells #[.int .i64 S0.n,.int .i64 S0.first,.int .i64 S0.least,.int .i64 S0.tol,.int .i64 S0.en,.slice a1 S0.ns.length c1,.slice a2 S0.ms.length c2,.slice a3 S0.outs.length c3,.bool S0.div] 24)=X at *;generalize hB:w.heap.size=B at *;obtain ⟨x1,x2,x3⟩:=AL;have SB:=hid (fun W (hW:Below X.heap.size X W)=>(hW.block B (by omega)).trans x1);have BX:=hid (fun W (hW:Below X.heap.size X W)=>(show Below B w W from x3.trans (hW.mono (by omega))));clear x1 x2 x3;go_wp2_with fail;refine (ke X).mono ?_;rintro e w1 ⟨rfl,hb1⟩;have HB1:=hid hb1;clear hb1
 go_wp2_with (first
  | (refine wpList_load_row rfl 24 _ rfl B rfl 24 #[.int .i64 S0.n,.int .i64 S0.first,.int .i64 S0.least,.int .i64 S0.tol,.int .i64 S0.en,.slice a1 S0.ns.length c1,.slice a2 S0.ms.length c2,.slice a3 S0.outs.length c3,.bool S0.div] _ _ (SB.out w1 HB1.out) Tryz.underlying24 rfl (by kernel_rfl) ?_)
  | fail)
 refine (kE S0.n S0.first S0.least S0.tol S0.en a1 a2 a3 S0.ns.length S0.ms.length S0.outs.length c1 c2 c3 S0.div w1).mono ?_;rintro e w2 ⟨rfl,hb2⟩;have HB2:=hid (HB1.out.trans (hb2.mono HB1.out.size));clear hb2 HB1;generalize (decide (S0.ns.length≤60)&&(decide (S0.ms.length≤60)&&decide (S0.outs.length≤60)))=fb at *;cases fb
 case false=>
  go_wp2_with fail;go_ret;exact ⟨rfl,hB ▸ BX.out _ HB2.out⟩
 go_wp2_with (first
  | (refine wpList_load_row rfl 24 _ rfl B rfl 24 #[.int .i64 S0.n,.int .i64 S0.first,.int .i64 S0.least,.int .i64 S0.tol,.int .i64 S0.en,.slice a1 S0.ns.length c1,.slice a2 S0.ms.length c2,.slice a3 S0.outs.length c3,.bool S0.div] _ _ (SB.out w2 HB2.out) Tryz.underlying24 rfl (by kernel_rfl) ?_)
  | fail)
 refine (mp S0 _ w2 (H0.out.below (hB ▸ BX.out w2 HB2.out))).mono ?_;rintro e w3 ⟨vo,vu,vb,vy,vt,rfl,hT,hY,hBx,hO,hb3⟩;obtain ⟨⟨ao,lo',co,rfl⟩,⟨au,lu,cu,rfl⟩⟩:=hT.slices;obtain ⟨ay,cy,rfl,-,-⟩:=id hY;obtain ⟨ab,cb,rfl,-,-⟩:=id hBx;obtain ⟨at',ct,rfl,-,-⟩:=id hO;have HB3:=hid (HB2.out.trans (hb3.mono HB2.out.size))
 have hN1:1≤shN S0∧shN S0≤3:=by
  have:=Int.emod_nonneg S0.n (show (3:Int)≠0 by decide);have:=Int.emod_lt_of_pos S0.n (show (0:Int)<3 by decide);unfold shN; omega
 have hTN:(shT S0).n=(shN S0:Nat):=by
  have:=Int.emod_nonneg S0.n (show (3:Int)≠0 by decide);show 1+S0.n % 3=((1+S0.n % 3).toNat:Int); omega
 have HCK:=hid (show yq (shT S0)=true from kR S0.n (fun i=>S0.ns.getD i 0) S0.ns.length S0.div);have HCS:=hid (show ∀ i,((shT S0).op i).c<18446744073709551616 from fun i=>opAt_c _ _ _ _);have HEN:=hid (show 1≤shE S0∧shE S0≤1073741824 from ⟨lV S0,kD S0⟩);have hLO:1≤tk (shL S0):=uZ _;have hKF:shK S0≤28:=by have:=Int.emod_lt_of_pos S0.first (show (0:Int)<13 by decide); unfold shK; omega
 have hlk:tk (shL S0)≤tk (shK S0):=tk_mono (by unfold shL; omega);have hk0:=uZ (shK S0);have HTA:=hid hT;have HYA:=hid hY;have HTN:=hid hTN;clear hT hY hBx hO hb3 hTN HB2 H0;generalize shT S0=T at *;generalize shN S0=n at *;generalize shE S0=en at *;generalize tk (shL S0)=lo at *;generalize shK S0=kf at *;generalize shA S0=pa at *;generalize shR S0=pr at *;generalize shM S0=lt at *;have AL:=hid (al1 w3 (.cells #[.int .i64 n,.slice ao lo' co,.slice au lu cu,.slice ab n cb,.slice ay n cy,.int .i64 en,.int .i64 (tk kf),.int .i64 lo,.float .f64 pa,.float .f64 pr,.float .f64 4616189618054758400,.int .i64 24,.slice at' lt ct] 33));go_upto_region 6 with fail
 generalize w3.alloc (.cells #[.int .i64 n,.slice ao lo' co,.slice au lu cu,.slice ab n cb,.slice ay n cy,.int .i64 en,.int .i64 (tk kf),.int .i64 lo,.float .f64 pa,.float .f64 pr,.float .f64 4616189618054758400,.int .i64 24,.slice at' lt ct] 33)=Y at *;obtain ⟨Pp,hPp⟩:∃ P,w3.heap.size=P:=⟨_,rfl⟩;obtain ⟨y1,y2,y3⟩:=AL.out;have HTY:=hid (HTA.out.below y3);have HYY:=hid (HYA.out.below y3);rw [hPp] at y1 y2 y3;simp only [hPp];have HPY:=hid y1;have HBY:=hid (HB3.out.trans (y3.mono (by have:=HB3.out.size; omega)));have hPY:Pp<Y.heap.size:=by omega
 clear y1 y2 y3 AL HTA HYA HB3 hPp
 go_wp2_with (first
  | (refine wpList_load_row rfl 33 _ rfl Pp rfl 33 #[.int .i64 n,.slice ao lo' co,.slice au lu cu,.slice ab n cb,.slice ay n cy,.int .i64 en,.int .i64 (tk kf),.int .i64 lo,.float .f64 pa,.float .f64 pr,.float .f64 4616189618054758400,.int .i64 24,.slice at' lt ct] _ _ HPY.out Tryz.underlying33 rfl (by kernel_rfl) ?_)
  | fail)
 refine (kd n T _ _ _ _ _ _ en (tk kf) lo 24 pa pr _ Y HTY.out HYY.out HCK.out (fun i _=>HCS.out i) HTN.out hN1.1 (by omega)).mono ?_;rintro e Wb ⟨v,rfl,ho,hb4⟩;obtain ⟨az0,cz0,rfl⟩:=ho.shape;have AL:=hid (al1 Wb (.cells #[.int .i64 0,.int .i64 (tk kf),.int .i64 1,.int .i64 0,.slice az0 2 cz0,.int .i64 0,.int .i64 0,.int .i64 0] 39));have HO4:=hid ho;have HTB:=hid (HTY.out.below hb4);have HPB:=hid ((hb4.block Pp hPY).trans HPY.out);have HBB:=hid (HBY.out.trans (hb4.mono HBY.out.size));have hPB:Pp<Wb.heap.size:=Nat.lt_of_lt_of_le hPY hb4.size;clear ho hb4 HTY HPY HBY HYY;go_upto_region 7 with fail
 generalize Wb.alloc (.cells #[.int .i64 0,.int .i64 (tk kf),.int .i64 1,.int .i64 0,.slice az0 2 cz0,.int .i64 0,.int .i64 0,.int .i64 0] 39)=V0 at *;obtain ⟨Px,hPx⟩:∃ P,Wb.heap.size=P:=⟨_,rfl⟩;obtain ⟨y1,y2,y3⟩:=AL.out;have HZ0:=hid ((HO4.out.below y3).tabK (b0:=0) (by omega) (by omega));rw [hPx] at y1 y3;simp only [hPx];have HX0:=hid y1;have HBV:=hid y3;have hPpx:Pp<Px:=hPx ▸ hPB;have HPX:=hid hPx;clear y1 y2 y3 AL HO4 hPx;have s1:=Int.emod_nonneg st (show (20:Int)≠0 by decide);have s2:=Int.emod_lt_of_pos st (show (0:Int)<20 by decide);have WS:=hid (fun W=>wU st 20 W (by decide) (by decide));generalize st % 20=sm at *;have k1:IntKind.i64.wrap (6+sm)=6+sm:=IntWalk.i64_in _ (by omega);go_wp2_with fail
 go_loopw [7] (fun i wr=>∃ (j:Nat) (s:Sol) (az:Option Addr) (cz:Nat),j≤6+sm.toNat∧i=.int .i64 j∧v8 j lo s∧wr.heap[Px]? = some (.cells #[.int .i64 s.at_,.int .i64 (tk s.k),.int .i64 s.q,.int .i64 s.M,.slice az (s.q+1) cz,.int .i64 s.good,.int .i64 s.fails,.int .i64 s.slow] 39)∧wi 0 wr (.slice az (s.q+1) cz) (s.q+1) n s.z∧Below Px Wb wr∧(lo≤2*tk s.k∧tk s.k≤2*max en (tk kf))) (fun i _=>6+sm.toNat-(intOf i).toNat)
 case atStart=>exact ⟨0,⟨0,kf,1,0,xq T (uV S0.ms) (xh (tk kf)),0,0,0⟩,az0,cz0,by omega,rfl,⟨Nat.le_refl 1,by show 1+0≤5; omega,by show kf≤32; omega,by show 0<2; omega,hLO,⟨Int.le_refl 0,by show (0:Int)≤((0:Nat):Int)*4294967296; decide⟩,⟨Int.le_refl 0,Int.le_refl 0⟩,⟨Int.le_refl 0,by show (0:Int)≤2; decide⟩,⟨Int.le_refl 0,by show (0:Int)≤1; decide⟩⟩,HX0.out,HZ0.out,HBV.out,⟨by show lo≤2*tk kf; omega,by show tk kf≤2*max en (tk kf); omega⟩⟩
 case round=>
  clear HZ0 HX0 HBV;obtain ⟨j,s,az,cz,hj,rfl,hs,hx,hz,hb,hst⟩:=hrel;have HPW:=hid ((hb.block Pp hPpx).trans HPB.out);have HXW:=hid hx;have hXw:=zj hx;have hPw:Pp<wr.heap.size:=by omega
  have HBW:=hid hb;have HZW:=hid hz;have HSA:=hid hs;clear hx hz hb;by_cases hjm:(j:Int)<6+sm
  ·have hj24:j≤1000:=by omega
   have HOK:=hid (hs.ok hj24);have hTW:=(HTB.out.below (HPX.out ▸ HBW.out))
   have hq6:s.q≤5:=by have:=hs.q5; omega
   have hq1:=hs.q1;have HNX:=hid (try_at hs (show en≤2147483648 by have:=HEN.out; omega) T n pa pr);have HFA:=hid (try_steps (T:=T) (n:=n) (a:=pa) (r:=pr) (lo:=lo) (en:=en) (s:=s) (M:=max en (tk kf)) (by omega) hst.1 hst.2);clear hst;have hRq:(uG T n pa pr lo en s).S.q≤10:=by have:=HNX.out.q5; omega
   have hRr:(uG T n pa pr lo en s).N.rows≤10:=by have:=kF T n pa pr lo en s; omega
   have AS:=hid (fun W (hW:Below wr.heap.size wr W)=>as_tells n s.q s.at_ (tk s.k) s.good s.fails s.slow s.M _ s.z hq1 hq6 hN1.1 (by omega) W (HZW.out.below hW).tab);have TR:=hid (fun W (hW:Below wr.heap.size wr W) vz (hz:yB W vz (s.q+1) (fun _=>n) s.z)=>(lR n T (.slice ao lo' co) (.slice au lu cu) (.slice ab n cb) (.slice ay n cy) (.slice at' lt ct) vz en (tk kf) lo 24 pa pr 4616189618054758400 s W (hTW.below hW) hz HOK.out HCK.out HCS.out HTN.out hN1.1 (by omega)).mono fun e w' h=>h.two hRq hRr (by omega));have RR:=hid (fun W (hW:Below wr.heap.size wr W)=>(rtry_any n 0 T (.slice ao lo' co) (.slice au lu cu) (.slice ab n cb) (.slice ay n cy) (.slice at' lt ct) _ en (tk kf) lo 24 pa pr 4616189618054758400 s W (hTW.below hW) (Nat.zero_le _) (HZW.out.below hW) HOK.out HCK.out HCS.out HTN.out hN1.1 (by omega)).mono fun e w' h=>h.two);clear hTW hs HOK hj24 HZW;generalize uG T n pa pr lo en s=R at *;clear hRr;go_wp2_with fail;refine (WS.out _).mono ?_;rintro e w' ⟨rfl,rfl⟩;go_upto_region 10 with fail
   go_cut [8,9] (fun u v wx=>∃ (P7 P8:Nat) (b1:Option Addr) (e1:Nat) (b2:Option Addr) (e2 y1:Nat) (g1:Option Addr) (f1:Nat) (g2:Option Addr) (f2 y2:Nat),u=.pointer (some ⟨P7,0,none⟩)∧v=.pointer (some ⟨P8,0,none⟩)∧wx.heap[P7]? = some (.cells #[.int .i64 R.S.at_,.int .i64 (tk R.S.k),.int .i64 R.S.q,.int .i64 R.S.M,.slice b1 (R.S.q+1) e1,.int .i64 R.S.good,.int .i64 R.S.fails,.int .i64 R.S.slow,.int .i64 R.N.at_,.int .i64 R.N.st,.int .i64 R.N.q,.int .i64 R.N.M,.slice b2 R.N.rows e2,.bool R.took,.float .f64 y1,.int .i64 R.e] 45)∧wx.heap[P8]? = some (.cells #[.int .i64 R.S.at_,.int .i64 (tk R.S.k),.int .i64 R.S.q,.int .i64 R.S.M,.slice g1 (R.S.q+1) f1,.int .i64 R.S.good,.int .i64 R.S.fails,.int .i64 R.S.slow,.int .i64 R.N.at_,.int .i64 R.N.st,.int .i64 R.N.q,.int .i64 R.N.M,.slice g2 R.N.rows f2,.bool R.took,.float .f64 y2,.int .i64 R.e] 49)∧zk y1=R.err∧zk y2=R.err ∧
    wi 0 wx (.slice b1 (R.S.q+1) e1) (R.S.q+1) n R.S.z∧wi 0 wx (.slice b2 R.N.rows e2) R.N.rows n R.N.z∧wi 0 wx (.slice g1 (R.S.q+1) f1) (R.S.q+1) n R.S.z∧wi 0 wx (.slice g2 R.N.rows f2) R.N.rows n R.N.z∧Below wr.heap.size wr wx)
   case first=>
    refine uO [(5,3),(4,3),(1,3),(0,3)] [2,3,6,7,8,9,10] [0,1,4,5] [(3,[2]),(6,[3]),(9,[3,6,7]),(10,[3,6,7,8,9])] (fun W=>Below wr.heap.size wr W) (fun L a w=>∃ v2 v3 v6 v7 v8:Value,a=⟨#[.agg #[.int .i64 S0.n,.int .i64 S0.first,.int .i64 S0.least,.int .i64 S0.tol,.int .i64 S0.en,.slice a1 S0.ns.length c1,.slice a2 S0.ms.length c2,.slice a3 S0.outs.length c3,.bool S0.div],.int .i64 st,.pointer (some ⟨B,0,none⟩),undef,u4,.pointer (some ⟨Pp,0,none⟩),.pointer (some ⟨Px,0,none⟩),.int .i64 j,v7,v8,u10,.bool true,.bool false,.agg #[.int .i64 S0.n,.int .i64 S0.first,.int .i64 S0.least,.int .i64 S0.tol,.int .i64 S0.en,.slice a1 S0.ns.length c1,.slice a2 S0.ms.length c2,.slice a3 S0.outs.length c3,.bool S0.div],.bool true,.bool false,.agg #[.int .i64 S0.n,.int .i64 S0.first,.int .i64 S0.least,.int .i64 S0.tol,.int .i64 S0.en,.slice a1 S0.ns.length c1,.slice a2 S0.ms.length c2,.slice a3 S0.outs.length c3,.bool S0.div],.agg #[.int .i64 n,.slice ao lo' co,.slice au lu cu,.slice ab n cb,.slice ay n cy,.int .i64 en,.int .i64 (tk kf),.int .i64 lo,.float .f64 pa,.float .f64 pr,.float .f64 4616189618054758400,.int .i64 24,.slice at' lt ct],.agg #[.int .i64 n,.slice ao lo' co,.slice au lu cu,.slice ab n cb,.slice ay n cy,.int .i64 en,.int .i64 (tk kf),.int .i64 lo,.float .f64 pa,.float .f64 pr,.float .f64 4616189618054758400,.int .i64 24,.slice at' lt ct],.agg #[.int .i64 0,.int .i64 (tk kf),.int .i64 1,.int .i64 0,.slice az0 2 cz0,.int .i64 0,.int .i64 0,.int .i64 0],.int .i64 j,.int .i64 st,.int .i64 sm,.int .i64 (6+sm),.bool true,u25,u26,.agg #[.int .i64 n,.slice ao lo' co,.slice au lu cu,.slice ab n cb,.slice ay n cy,.int .i64 en,.int .i64 (tk kf),.int .i64 lo,.float .f64 pa,.float .f64 pr,.float .f64 4616189618054758400,.int .i64 24,.slice at' lt ct],.agg #[.int .i64 s.at_,.int .i64 (tk s.k),.int .i64 s.q,.int .i64 s.M,.slice az (s.q+1) cz,.int .i64 s.good,.int .i64 s.fails,.int .i64 s.slow],v2,v3,.agg #[.int .i64 n,.slice ao lo' co,.slice au lu cu,.slice ab n cb,.slice ay n cy,.int .i64 en,.int .i64 (tk kf),.int .i64 lo,.float .f64 pa,.float .f64 pr,.float .f64 4616189618054758400,.int .i64 24,.slice at' lt ct],.agg #[.int .i64 s.at_,.int .i64 (tk s.k),.int .i64 s.q,.int .i64 s.M,.slice az (s.q+1) cz,.int .i64 s.good,.int .i64 s.fails,.int .i64 s.slow],v6,u34,u35,u36,u37,u38,u39,u40,u41,u42,u43,u44,u45,u46,u47,u48,u49,u50,u51,u52,u53,u54,u55,u56,u57,u58,u59,u60,u61,u62,u63,u64,u65,u66,u67,u68],[]⟩∧On wr n s R L w v2 v3 v6 v7 v8) (by kernel_rfl) (by kernel_rfl) (fun _ _ d _ _ h=>by cases d<;>exact h) ((Below.refl _ _).drew)
     (.cons ?o2 (.cons ?o3 (.cons ?o6 (.cons ?o7 (.cons ?o8 (.cons ?o9 (.cons ?o10 .nil))))))) ?fin ?ini
    case ini=>
     intro Z hZ hbZ;clear hZ;refine rf (v:=.agg #[.int .i64 s.at_,.int .i64 (tk s.k),.int .i64 s.q,.int .i64 s.M,.slice az (s.q+1) cz,.int .i64 s.good,.int .i64 s.fails,.int .i64 s.slow]) rfl rfl (fun wk hwk=>?_) ?_
     ·exact keep_row 39 _ rfl Px rfl 39 #[.int .i64 s.at_,.int .i64 (tk s.k),.int .i64 s.q,.int .i64 s.M,.slice az (s.q+1) cz,.int .i64 s.good,.int .i64 s.fails,.int .i64 s.slow] _ ((hwk.block Px hXw).trans HXW.out) Tryz.underlying39 rfl (by kernel_rfl)
     refine rf (v:=.agg #[.int .i64 n,.slice ao lo' co,.slice au lu cu,.slice ab n cb,.slice ay n cy,.int .i64 en,.int .i64 (tk kf),.int .i64 lo,.float .f64 pa,.float .f64 pr,.float .f64 4616189618054758400,.int .i64 24,.slice at' lt ct]) rfl rfl (fun wk hwk=>?_) ?_
     ·exact keep_row 33 _ rfl Pp rfl 33 #[.int .i64 n,.slice ao lo' co,.slice au lu cu,.slice ab n cb,.slice ay n cy,.int .i64 en,.int .i64 (tk kf),.int .i64 lo,.float .f64 pa,.float .f64 pr,.float .f64 4616189618054758400,.int .i64 24,.slice at' lt ct] _ ((hwk.block Pp hPw).trans HPW.out) Tryz.underlying33 rfl (by kernel_rfl)
     refine rf (v:=.agg #[.int .i64 s.at_,.int .i64 (tk s.k),.int .i64 s.q,.int .i64 s.M,.slice az (s.q+1) cz,.int .i64 s.good,.int .i64 s.fails,.int .i64 s.slow]) rfl rfl (fun wk hwk=>?_) ?_
     ·exact keep_row 39 _ rfl Px rfl 39 #[.int .i64 s.at_,.int .i64 (tk s.k),.int .i64 s.q,.int .i64 s.M,.slice az (s.q+1) cz,.int .i64 s.good,.int .i64 s.fails,.int .i64 s.slow] _ ((hwk.block Px hXw).trans HXW.out) Tryz.underlying39 rfl (by kernel_rfl)
     refine rf (v:=.agg #[.int .i64 n,.slice ao lo' co,.slice au lu cu,.slice ab n cb,.slice ay n cy,.int .i64 en,.int .i64 (tk kf),.int .i64 lo,.float .f64 pa,.float .f64 pr,.float .f64 4616189618054758400,.int .i64 24,.slice at' lt ct]) rfl rfl (fun wk hwk=>?_) ?_
     ·exact keep_row 33 _ rfl Pp rfl 33 #[.int .i64 n,.slice ao lo' co,.slice au lu cu,.slice ab n cb,.slice ay n cy,.int .i64 en,.int .i64 (tk kf),.int .i64 lo,.float .f64 pa,.float .f64 pr,.float .f64 4616189618054758400,.int .i64 24,.slice at' lt ct] _ ((hwk.block Pp hPw).trans HPW.out) Tryz.underlying33 rfl (by kernel_rfl)
     refine r6 fun L hL=>⟨_,_,_,_,_,rfl,hbZ,?_,?_,?_,?_,?_,?_,?_,?_,?_⟩
     ·exact fun h=>absurd h (by rw [hL 9 (by decide)]; decide)
     ·exact fun h=>absurd h (by rw [hL 10 (by decide)]; decide)
     ·exact fun h=>absurd h (by rw [hL 2 (by decide)]; decide)
     ·exact fun h=>absurd h (by rw [hL 3 (by decide)]; decide)
     ·exact fun h=>absurd h (by rw [hL 6 (by decide)]; decide)
     ·exact fun h=>absurd h (by rw [hL 7 (by decide)]; decide)
     ·exact fun h=>absurd h (by rw [hL 8 (by decide)]; decide)
     ·exact fun h=>absurd h (by rw [hL 9 (by decide)]; decide)
     ·exact fun h=>absurd h (by rw [hL 10 (by decide)]; decide)
    case o2=>
     rintro L a w hL hd ⟨v2,v3,v6,v7,v8,rfl,hI⟩ K hK;go_simp;refine (AS.out w hI.b).mono ?_;rintro e w' ⟨v,rfl,ho2,hst⟩;obtain ⟨av,cv,rfl⟩:=ho2.shape;have hb:=hI.b.trans (hst.mono hI.b.size);exact hK _ _ (fun _=>hb) ⟨_,_,_,_,_,rfl,hb,hI.o7,hI.o8,fun _ _=>⟨av,cv,rfl,(ho2.base (b':=wr.heap.size) hI.b.size).tab (by omega) (by omega)⟩,fun h=>(hI.h3 h).below hst,fun h=>(hI.h6 h).below hst,fun h g=>(hI.h7 h g).below hst,fun h g=>(hI.h8 h g).below hst,fun h=>(hI.h9 h).below hst,fun h=>(hI.h10 h).below hst⟩
    case o3=>
     rintro L a w hL hd ⟨v2,v3,v6,v7,v8,rfl,hI⟩ K hK;have h2:=hd 2 (by decide);obtain ⟨av,cv,rfl,ht⟩:=hI.h2 h2 hL;go_simp;refine (TR.out w hI.b _ ht).mono ?_;rintro e w' ⟨hst,b1,e1,b2,e2,y1,rfl,hq1,-,ht1,hn1⟩;have hb:=hI.b.trans (hst.mono hI.b.size);exact hK _ _ (fun _=>hb) ⟨_,_,_,_,_,rfl,hb,hI.o7,hI.o8,fun _ g=>Bool.noConfusion g,fun _=>⟨b1,e1,b2,e2,y1,rfl,hq1,ht1,hn1⟩,fun h=>(hI.h6 h).below hst,fun h g=>(hI.h7 h g).below hst,fun h g=>(hI.h8 h g).below hst,fun h=>(hI.h9 h).below hst,fun h=>(hI.h10 h).below hst⟩
    case o6=>
     rintro L a w hL hd ⟨v2,v3,v6,v7,v8,rfl,hI⟩ K hK;go_simp;refine (RR.out w hI.b).mono ?_;rintro e w' ⟨hst,b1,e1,b2,e2,y1,rfl,hq1,-,ht1,hn1⟩;have hb:=hI.b.trans (hst.mono hI.b.size);exact hK _ _ (fun _=>hb) ⟨_,_,_,_,_,rfl,hb,hI.o7,hI.o8,fun h g=>by obtain ⟨av,cv,e,h⟩:=hI.h2 h g; exact ⟨av,cv,e,h.below hst⟩,fun h=>(hI.h3 h).below hst,fun _=>⟨b1,e1,b2,e2,y1,rfl,hq1,ht1,hn1⟩,fun h g=>(hI.h7 h g).below hst,fun h g=>(hI.h8 h g).below hst,fun h=>(hI.h9 h).below hst,fun h=>(hI.h10 h).below hst⟩
    case o7=>
     rintro L a w hL hd ⟨v2,v3,v6,v7,v8,rfl,hI⟩ K hK;go_simp;obtain ⟨y1,y2,hst⟩:=al1 w (.cells #[.int .i64 0,.int .i64 0,.int .i64 0,.int .i64 0,.slice none 0 0,.int .i64 0,.int .i64 0,.int .i64 0,.int .i64 0,.int .i64 0,.int .i64 0,.int .i64 0,.slice none 0 0,.bool false,.float .f64 0,.int .i64 0] 45);have hb:=hI.b.trans (hst.mono hI.b.size);exact hK _ _ (fun _=>hb) ⟨_,_,_,_,_,rfl,hb,fun _=>rfl,hI.o8,fun h g=>by obtain ⟨av,cv,e,h⟩:=hI.h2 h g; exact ⟨av,cv,e,h.below hst⟩,fun h=>(hI.h3 h).below hst,fun h=>(hI.h6 h).below hst,fun _ _=>⟨_,_,rfl,hI.b.size,rfl,y1⟩,fun h g=>(hI.h8 h g).below hst,fun h=>absurd ((hI.o7 h).symm.trans hL) (by decide),fun h=>(hI.h10 h).below hst⟩
    case o8=>
     rintro L a w hL hd ⟨v2,v3,v6,v7,v8,rfl,hI⟩ K hK;go_simp;obtain ⟨y1,y2,hst⟩:=al1 w (.cells #[.int .i64 0,.int .i64 0,.int .i64 0,.int .i64 0,.slice none 0 0,.int .i64 0,.int .i64 0,.int .i64 0,.int .i64 0,.int .i64 0,.int .i64 0,.int .i64 0,.slice none 0 0,.bool false,.float .f64 0,.int .i64 0] 49);have hb:=hI.b.trans (hst.mono hI.b.size);exact hK _ _ (fun _=>hb) ⟨_,_,_,_,_,rfl,hb,hI.o7,fun _=>rfl,fun h g=>by obtain ⟨av,cv,e,h⟩:=hI.h2 h g; exact ⟨av,cv,e,h.below hst⟩,fun h=>(hI.h3 h).below hst,fun h=>(hI.h6 h).below hst,fun h g=>(hI.h7 h g).below hst,fun _ _=>⟨_,_,rfl,hI.b.size,rfl,y1⟩,fun h=>(hI.h9 h).below hst,fun h=>absurd ((hI.o8 h).symm.trans hL) (by decide)⟩
    case o9=>
     rintro L a w hL hd ⟨v2,v3,v6,v7,v8,rfl,hI⟩ K hK;obtain ⟨P,cs,rfl,hP,h16,hp⟩:=hI.h7 (hd 7 (by decide)) hL;obtain ⟨b1,e1,b2,e2,y,rfl,hy,ht,hn⟩:=hI.h3 (hd 3 (by decide));have hrow:=yx hp #[.int .i64 R.S.at_,.int .i64 (tk R.S.k),.int .i64 R.S.q,.int .i64 R.S.M,.slice b1 (R.S.q+1) e1,.int .i64 R.S.good,.int .i64 R.S.fails,.int .i64 R.S.slow,.int .i64 R.N.at_,.int .i64 R.N.st,.int .i64 R.N.q,.int .i64 R.N.M,.slice b2 R.N.rows e2,.bool R.took,.float .f64 y,.int .i64 R.e];have hb:=hrow.1.below hI.b hP hI.b.size;refine xt rfl ?_;refine wz (by rfl) 45 _ _ (by rfl) P #[.int .i64 R.S.at_,.int .i64 (tk R.S.k),.int .i64 R.S.q,.int .i64 R.S.M,.slice b1 (R.S.q+1) e1,.int .i64 R.S.good,.int .i64 R.S.fails,.int .i64 R.S.slow,.int .i64 R.N.at_,.int .i64 R.N.st,.int .i64 R.N.q,.int .i64 R.N.M,.slice b2 R.N.rows e2,.bool R.took,.float .f64 y,.int .i64 R.e] (by rfl) (by rfl) 45 _ hp (by kernel_rfl) h16 (by simp [Value.oneCell']) ?_;exact hK _ _ (fun _=>hb) ⟨_,_,_,_,_,rfl,hb,fun _=>hd 7 (by decide),hI.o8,fun h g=>absurd ((show L 3=false from g).symm.trans (hd 3 (by decide))) (by decide),fun h=>by obtain ⟨c1,d1,c2,d2,y',e,g1,g2,g3⟩:=hI.h3 h; exact ⟨c1,d1,c2,d2,y',e,g1,g2.tried hp hrow.1,g3.tried hp hrow.1⟩,fun h=>by obtain ⟨c1,d1,c2,d2,y',e,g1,g2,g3⟩:=hI.h6 h; exact ⟨c1,d1,c2,d2,y',e,g1,g2.tried hp hrow.1,g3.tried hp hrow.1⟩,fun _ g=>Bool.noConfusion g,fun h g=>by obtain ⟨P',cs',e,g1,g2,g3⟩:=hI.h8 h g; exact ⟨P',cs',e,g1,g2,(hrow.1.block P' (zj g3) (sh g3 hp (by decide))).trans g3⟩,fun _=>⟨P,b1,e1,b2,e2,y,rfl,hrow.2.1,hy,ht.tried hp hrow.1,hn.tried hp hrow.1⟩,fun h=>by obtain ⟨P',c1,d1,c2,d2,y',e,g0,g1,g2,g3⟩:=hI.h10 h; exact ⟨P',c1,d1,c2,d2,y',e,(hrow.1.block P' (zj g0) (sh g0 hp (by decide))).trans g0,g1,g2.tried hp hrow.1,g3.tried hp hrow.1⟩⟩
    case o10=>
     rintro L a w hL hd ⟨v2,v3,v6,v7,v8,rfl,hI⟩ K hK;obtain ⟨P,cs,rfl,hP,h16,hp⟩:=hI.h8 (hd 8 (by decide)) hL;obtain ⟨b1,e1,b2,e2,y,rfl,hy,ht,hn⟩:=hI.h6 (hd 6 (by decide));have hrow:=yx hp #[.int .i64 R.S.at_,.int .i64 (tk R.S.k),.int .i64 R.S.q,.int .i64 R.S.M,.slice b1 (R.S.q+1) e1,.int .i64 R.S.good,.int .i64 R.S.fails,.int .i64 R.S.slow,.int .i64 R.N.at_,.int .i64 R.N.st,.int .i64 R.N.q,.int .i64 R.N.M,.slice b2 R.N.rows e2,.bool R.took,.float .f64 y,.int .i64 R.e];have hb:=hrow.1.below hI.b hP hI.b.size;refine xt rfl ?_;refine wz (by rfl) 49 _ _ (by rfl) P #[.int .i64 R.S.at_,.int .i64 (tk R.S.k),.int .i64 R.S.q,.int .i64 R.S.M,.slice b1 (R.S.q+1) e1,.int .i64 R.S.good,.int .i64 R.S.fails,.int .i64 R.S.slow,.int .i64 R.N.at_,.int .i64 R.N.st,.int .i64 R.N.q,.int .i64 R.N.M,.slice b2 R.N.rows e2,.bool R.took,.float .f64 y,.int .i64 R.e] (by rfl) (by rfl) 49 _ hp (by kernel_rfl) h16 (by simp [Value.oneCell']) ?_;exact hK _ _ (fun _=>hb) ⟨_,_,_,_,_,rfl,hb,hI.o7,fun _=>hd 8 (by decide),fun h g=>absurd ((show L 3=false from g).symm.trans (hd 3 (by decide))) (by decide),fun h=>by obtain ⟨c1,d1,c2,d2,y',e,g1,g2,g3⟩:=hI.h3 h; exact ⟨c1,d1,c2,d2,y',e,g1,g2.kept hp hrow.1 (Nat.zero_le _),g3.kept hp hrow.1 (Nat.zero_le _)⟩,fun h=>by obtain ⟨c1,d1,c2,d2,y',e,g1,g2,g3⟩:=hI.h6 h; exact ⟨c1,d1,c2,d2,y',e,g1,g2.kept hp hrow.1 (Nat.zero_le _),g3.kept hp hrow.1 (Nat.zero_le _)⟩,fun h g=>by obtain ⟨P',cs',e,g1,g2,g3⟩:=hI.h7 h g; exact ⟨P',cs',e,g1,g2,(hrow.1.block P' (zj g3) (sh g3 hp (by decide))).trans g3⟩,fun _ g=>Bool.noConfusion g,fun h=>by obtain ⟨P',c1,d1,c2,d2,y',e,g0,g1,g2,g3⟩:=hI.h9 h; exact ⟨P',c1,d1,c2,d2,y',e,(hrow.1.block P' (zj g0) (sh g0 hp (by decide))).trans g0,g1,g2.kept hp hrow.1 (Nat.zero_le _),g3.kept hp hrow.1 (Nat.zero_le _)⟩,fun _=>⟨P,b1,e1,b2,e2,y,rfl,hrow.2.1,hy,ht.kept hp hrow.1 (Nat.zero_le _),hn.kept hp hrow.1 (Nat.zero_le _)⟩⟩
    case fin=>
     rintro L a w hL ⟨v2,v3,v6,v7,v8,rfl,hI⟩;obtain ⟨P7,b1,e1,b2,e2,y1,rfl,hp7,hy1,ht1,hn1⟩:=hI.h9 (hL 9 (by decide));obtain ⟨P8,g1,f1,g2,f2,y2,rfl,hp8,hy2,ht2,hn2⟩:=hI.h10 (hL 10 (by decide));have hb:=hI.b;clear hI hL;go_wp2_with fail;go_meet;exact ⟨P7,P8,b1,e1,b2,e2,y1,g1,f1,g2,f2,y2,rfl,rfl,hp7,hp8,hy1,hy2,ht1,hn1,ht2,hn2,hb⟩
   case rest=>
    obtain ⟨P7,P8,b1,e1,b2,e2,y1,g1,f1,g2,f2,y2,rfl,rfl,hp7,hp8,hy1,hy2,ht3,hn3,ht6,hn6,hb⟩:=hcut;clear AS TR RR;have HP7:=hid hp7;have HP8:=hid hp8;have HTT:=hid (show _∧_∧_∧_ from ⟨ht3,hn3,ht6,hn6⟩);have HYY:=hid (show zk y1=R.err from hy1);have HBC:=hid hb;have HCX:=hid ((hb.block Px hXw).trans HXW.out);have HPC:=hid ((hb.block Pp hPw).trans HPW.out);clear hp7 hp8 hy1 hy2 ht3 hn3 ht6 hn6 hb;have hst:=HFA.out;have hp1:=uZ R.S.k;have hp2:=ky HNX.out.k;have hen:=HEN.out;have hkf:1≤tk kf∧tk kf≤4294967296:=⟨uZ kf,ky (by omega)⟩
    have hand:bits BinOp.and IntKind.i64 (tk R.S.k) (tk R.S.k-1)=0:=eq_of_beq (mQ R.S.k (by have:=HNX.out.k; omega));obtain ⟨⟨-,ka1,-,-,-,-,-,-⟩,-,-,-,-,-,-,-,-⟩:=yw HP7.out;have e15:=(yw HP8.out).2.2.2.2.2.2.2.2;obtain ⟨-,-,-,-,-,kp3,kp4,kp5,-,-,-,-,-⟩:=yn HPC.out;go_upto_region 12 with fail
    go_cut [63] (fun u wx=>u=.bool false∧wx=wc)
    case first=>
     go_wp2_with fail
     all_goals
      go_meet;exact ⟨congrArg Value.bool (by simp only [Bool.or_eq_false_iff,decide_eq_false_iff_not]; omega),rfl⟩
    case rest=>
     obtain ⟨rfl,rfl⟩:=hcut;by_cases hE:R.e=0
     ·have hE2:(R.e != 0)=false:=by simp [hE]
      go_wp2_with (first
       | (refine wpList_load_mid rfl 39 _ rfl P8 0 rfl [.int .i64 R.S.at_,.int .i64 (tk R.S.k),.int .i64 R.S.q,.int .i64 R.S.M,.slice g1 (R.S.q+1) f1,.int .i64 R.S.good,.int .i64 R.S.fails,.int .i64 R.S.slow] _ (World.rangeAt_of_block HP8.out 0 8) Tryz.underlying39 rfl (by kernel_rfl) ?_)
       | (refine wpList_store_row rfl 39 _ _ rfl Px #[.int .i64 R.S.at_,.int .i64 (tk R.S.k),.int .i64 R.S.q,.int .i64 R.S.M,.slice g1 (R.S.q+1) f1,.int .i64 R.S.good,.int .i64 R.S.fails,.int .i64 R.S.slow] rfl rfl 39 _ HCX.out (by kernel_rfl) rfl (by simp [Value.oneCell']) ?_)
       | fail)
      have hrow:=yx HCX.out #[.int .i64 R.S.at_,.int .i64 (tk R.S.k),.int .i64 R.S.q,.int .i64 R.S.M,.slice g1 (R.S.q+1) f1,.int .i64 R.S.good,.int .i64 R.S.fails,.int .i64 R.S.slow];refine ⟨⟨j+1,R.S,g1,f1,by omega,by go_num,HNX.out,hrow.2.1,HTT.out.2.2.1.place HCX.out hrow.1,hrow.1.below (HBW.out.trans (HBC.out.mono (by have:=HBW.out.size; omega))) (Nat.le_refl _) (by have:=HBC.out.size; omega),HFA.out⟩,?_⟩;simp only [intOf];omega
     ·have hE2:(R.e != 0)=true:=by simp [hE]
      go_wp2_with fail;go_ret;exact ⟨rfl,hB ▸ BX.out _ (HBB.out.trans ((HBW.out.trans (HBC.out.mono (by have:=HBW.out.size; omega))).mono (by have:=HBB.out.size; have:=HPX.out; omega)))⟩
  ·have k2:¬ (j:Int)<6+sm:=hjm;go_wp2_with fail;refine (WS.out _).mono ?_;rintro e w' ⟨rfl,rfl⟩;go_wp2_with fail;go_ret;exact ⟨rfl,hB ▸ BX.out _ (HBB.out.trans (HBW.out.mono (by have:=HBB.out.size; have:=HPX.out; omega)))⟩
end Go.Proofs.YtnlbafjmbamoeaaGreat
namespace Go.Proofs.YtnlbafjmbamoeaaGreat.stepSteps
open Go.ChangeShapes Go.WideShapes Go.ChangeAt Go.RowKit Go.Proofs.YtnlbafjmbamoeaaGreat
open Lib
theorem own:ownKnob Tryz.prog.godebug=none:=by kernel_rfl
theorem laidOut:laidOutB Tryz.prog=true:=by kernel_rfl
theorem float_lt {b:Nat} (h:(Lit.float .f64 b).wf=true):b<18446744073709551616:=by simpa [Lit.wf] using h
theorem int_lo {n:Int} (h:(Lit.int .i64 n).wf=true):-9223372036854775808≤n∧n≤9223372036854775807:=by
 have a:IntKind.i64.min=-9223372036854775808:=by decide
 have b:IntKind.i64.max=9223372036854775807:=by decide
 simp only [Lit.wf,Bool.and_eq_true,decide_eq_true_eq] at h; omega
set_option maxRecDepth 100000
theorem lifted (os:Os) (started:os.Started) (H:Type) (enc:TypeId × Value→H) :
  ReturnsInHanded {} Tryz.checked os 11 .any (Rows.stepStepsSpec.pre6 enc Tryz.prog Tryz.f11 Rows.stepStepsRow.domain false) (Rows.stepStepsSpec.post enc Tryz.prog Tryz.f11 false true false false):=by
 refine returnsInHanded_of_change (C:=Tryz.checked) own started (by kernel_rfl) Tryz.func11
  (ChangeSpec.witness6 (enc:=enc) (C:=Tryz.checked) false ⟨#[],#[.agg #[.int .i64 0,.int .i64 0,.int .i64 0,.int .i64 0,.int .i64 0,.slice none 0 0,.slice none 0 0,.slice none 0 0,.bool false],.int .i64 0],[]⟩ 8 (by kernel_rfl) (by kernel_rfl) (by kernel_rfl) (by kernel_rfl)) ?_
 intro W base args ds gs before hval0 hW hcnd _;have hval:∀ (j:Nat) t v,Tryz.f11.params[j]? = some t→args[j]? = some v→Value.okWide Tryz.prog W .any base t v:=hval0;have hW':=hW;obtain ⟨p,q,hA0,hV,rfl,hfz,hnd⟩:=hW;have hA:DataW.TrodAll enc Tryz.prog W 0 (fun _=>true) true Tryz.f11.params.toList args.toList ds p:=hA0;rw [Tryz.params11] at hA hval;obtain ⟨v0,vs0,d0,ds0,p0,q0,hargs,rfl,rfl,h0,r0⟩:=trodAll_cons hA;obtain ⟨v1,vs1,d1,ds1,p1,q1,rfl,rfl,rfl,h1,r1⟩:=trodAll_cons r0;obtain ⟨rfl,rfl,rfl⟩:=trodAll_nil r1;obtain rfl:args=#[v0,v1]:=by cases args; simp_all
 obtain ⟨rfl,rfl⟩:=trodVars_none hV;have k0:=h0;obtain ⟨zs0,z0⟩:=shape_of (hval 0 24 v0 rfl rfl) h0;obtain ⟨a1,rfl,rfl,rfl,w1⟩:=open_int Tryz.underlying3 (hval 1 3 v1 rfl rfl) h1;clear hA0 hval0;simp only [List.append_nil] at hW';refine (stepSteps_any v0 zs0 a1 W z0 (int_lo w1)).mono fun e W' ⟨he,hb⟩=>?_
 subst he;exact ⟨_,rfl,⟨_,_,_,[],_,[],hW',(trodAll_cons_mk (shut_bool Tryz.underlying4 _) trodAll_mk0),(trodAll_cons_mk (Below.trod laidOut (by kernel_rfl) (of_decide_eq_true (by kernel_rfl)) k0 hb (fun x hx=>hW'.lt x (by simp [hx]))) (trodAll_cons_mk (shut_int Tryz.underlying3 w1) trodAll_mk0)),rfl,hb.frame _,fun h=>by cases h⟩⟩
theorem over:Rows.stepStepsRow.holds Tryz.pinned (OpenSpec.ofChange Rows.stepStepsSpec):=
 OpenClaim.holds_of_wide 11 Tryz.f11 rfl rfl rfl rfl rfl rfl rfl ⟨rfl,rfl,rfl,rfl,rfl⟩ rfl rfl rfl rfl rfl (by kernel_rfl) Tryz.func11 (by kernel_rfl)
  (of_decide_eq_true (by kernel_rfl)) (by unfold Func.isWrapper; first | (rw [if_pos (by decide +kernel)]; kernel_rfl) | (rw [if_neg (by decide +kernel)]; exact ⟨rfl,rfl⟩))
  (fun os started H enc _=>lifted os started H enc)
theorem proved:Rows.StepStepsSaid:=
 over
#print axioms proved
end Go.Proofs.YtnlbafjmbamoeaaGreat.stepSteps
