/-
  'StepTakes': the law answers true, whatever it is given: every input, no condition.
-/
import Derived.Deep.CutBlock
import Derived.Deep.MidRow
import Derived.Test.YtnlbafjmbamoeaaGreatRows
import Derived.WalkKit
import Derived.WalkLawsBesides
import Derived.ProofKit
import Derived.OpenShut
import Derived.Carry
import Derived.Test.YtnlbafjmbamoeaaGreatQt
namespace Go.Proofs.YtnlbafjmbamoeaaGreat
open Go.RowKit
open Ieee (double)
open Lib
attribute [local go_sem] zr zi zy zn zU zS zW zX zV zY zD zH zI zJ zK zB ye z8 zF yE zN zQ zR
set_option maxRecDepth 100000
set_option maxHeartbeats 16000000
theorem stepTakes_any (v0:Value) (S0:ShD) (st:Int) (w:World) (h0:ShAt w v0 S0) (_:-9223372036854775808≤st∧st≤9223372036854775807) :
  Calls Tryz.prog 4 #[v0,.int .i64 st] w fun e w'=>e=.returned (.bool true)∧Below w.heap.size w w':=by
 have H0:=hid h0;obtain ⟨hr,u1,u2,u3,rfl,h1,h2,h3⟩:=id h0;obtain ⟨a1,c1,rfl⟩:=h1.slice;obtain ⟨a2,c2,rfl⟩:=h2.slice;obtain ⟨a3,c3,rfl⟩:=h3.slice;have AL:=al1 w (.cells #[.int .i64 S0.n,.int .i64 S0.first,.int .i64 S0.least,.int .i64 S0.tol,.int .i64 S0.en,.slice a1 S0.ns.length c1,.slice a2 S0.ms.length c2,.slice a3 S0.outs.length c3,.bool S0.div] 24);clear hr h1 h2 h3 h0;go_enter Tryz.func4,Tryz.ntmps4;go_upto_region 1 with fail
 generalize w.alloc (.cells #[.int .i64 S0.n,.int .i64 S0.first,.int .i64 S0.least,.int .i64 S0.tol,.int .i64 S0.en,.slice a1 S0.ns.length c1,.slice a2 S0.ms.length c2,.slice a3 S0.outs.length c3,.bool S0.div] 24)=X at *;generalize hB:w.heap.size=B at *;obtain ⟨x1,x2,x3⟩:=AL;have SB:=hid (fun W (hW:Below X.heap.size X W)=>(hW.block B (by omega)).trans x1);have BX:=hid (fun W (hW:Below X.heap.size X W)=>(show Below B w W from x3.trans (hW.mono (by omega))));clear x1 x2 x3;go_wp2_with fail;refine (ke X).mono ?_;rintro e w1 ⟨rfl,hb1⟩;have HB1:=hid hb1;clear hb1
 go_wp2_with (first
  | (refine wpList_load_row rfl 24 _ rfl B rfl 24 #[.int .i64 S0.n,.int .i64 S0.first,.int .i64 S0.least,.int .i64 S0.tol,.int .i64 S0.en,.slice a1 S0.ns.length c1,.slice a2 S0.ms.length c2,.slice a3 S0.outs.length c3,.bool S0.div] _ _ (SB.out w1 HB1.out) Tryz.underlying24 rfl (by kernel_rfl) ?_)
  | fail)
 refine (kE S0.n S0.first S0.least S0.tol S0.en a1 a2 a3 S0.ns.length S0.ms.length S0.outs.length c1 c2 c3 S0.div w1).mono ?_;rintro e w2 ⟨rfl,hb2⟩;have HB2:=hid (HB1.out.trans (hb2.mono HB1.out.size));clear hb2 HB1;generalize (decide (S0.ns.length≤60)&&(decide (S0.ms.length≤60)&&decide (S0.outs.length≤60)))=fb at *;cases fb
 case false=>
  go_wp2_with fail;go_ret;exact ⟨rfl,hB ▸ BX.out _ HB2.out⟩
 go_wp2_with (first
  | (refine wpList_load_row rfl 24 _ rfl B rfl 24 #[.int .i64 S0.n,.int .i64 S0.first,.int .i64 S0.least,.int .i64 S0.tol,.int .i64 S0.en,.slice a1 S0.ns.length c1,.slice a2 S0.ms.length c2,.slice a3 S0.outs.length c3,.bool S0.div] _ _ (SB.out w2 HB2.out) Tryz.underlying24 rfl (by kernel_rfl) ?_)
  | fail)
 refine (mp S0 _ w2 (H0.out.below (hB ▸ BX.out w2 HB2.out))).mono ?_;rintro e w3 ⟨vo,vu,vb,vy,vt,rfl,hT,hY,hBx,hO,hb3⟩;obtain ⟨⟨ao,lo',co,rfl⟩,⟨au,lu,cu,rfl⟩⟩:=hT.slices;obtain ⟨ay,cy,rfl,-,-⟩:=id hY;obtain ⟨ab,cb,rfl,-,-⟩:=id hBx;obtain ⟨at',ct,rfl,-,-⟩:=id hO;have HB3:=hid (HB2.out.trans (hb3.mono HB2.out.size))
 have hN1:1≤shN S0∧shN S0≤3:=by
  have:=Int.emod_nonneg S0.n (show (3:Int)≠0 by decide);have:=Int.emod_lt_of_pos S0.n (show (0:Int)<3 by decide);unfold shN; omega
 have hTN:(shT S0).n=(shN S0:Nat):=by
  have:=Int.emod_nonneg S0.n (show (3:Int)≠0 by decide);show 1+S0.n % 3=((1+S0.n % 3).toNat:Int); omega
 have HCK:=hid (show yq (shT S0)=true from kR S0.n (fun i=>S0.ns.getD i 0) S0.ns.length S0.div);have HCS:=hid (show ∀ i,((shT S0).op i).c<18446744073709551616 from fun i=>opAt_c _ _ _ _);have HEN:=hid (show 1≤shE S0∧shE S0≤1073741824 from ⟨lV S0,kD S0⟩);have hLO:1≤tk (shL S0):=uZ _;have hKF:shK S0≤28:=by have:=Int.emod_lt_of_pos S0.first (show (0:Int)<13 by decide); unfold shK; omega
 have HTA:=hid hT;have HYA:=hid hY;have HTN:=hid hTN;clear hT hY hBx hO hb3 hTN HB2 H0;generalize shT S0=T at *;generalize shN S0=n at *;generalize shE S0=en at *;generalize tk (shL S0)=lo at *;generalize shK S0=kf at *;generalize shA S0=pa at *;generalize shR S0=pr at *;generalize shM S0=lt at *;have AL:=hid (al1 w3 (.cells #[.int .i64 n,.slice ao lo' co,.slice au lu cu,.slice ab n cb,.slice ay n cy,.int .i64 en,.int .i64 (tk kf),.int .i64 lo,.float .f64 pa,.float .f64 pr,.float .f64 4616189618054758400,.int .i64 24,.slice at' lt ct] 33));go_upto_region 6 with fail
 generalize w3.alloc (.cells #[.int .i64 n,.slice ao lo' co,.slice au lu cu,.slice ab n cb,.slice ay n cy,.int .i64 en,.int .i64 (tk kf),.int .i64 lo,.float .f64 pa,.float .f64 pr,.float .f64 4616189618054758400,.int .i64 24,.slice at' lt ct] 33)=Y at *;obtain ⟨Pp,hPp⟩:∃ P,w3.heap.size=P:=⟨_,rfl⟩;obtain ⟨y1,y2,y3⟩:=AL.out;have HTY:=hid (HTA.out.below y3);have HYY:=hid (HYA.out.below y3);rw [hPp] at y1 y2 y3;simp only [hPp];have HPY:=hid y1;have HBY:=hid (HB3.out.trans (y3.mono (by have:=HB3.out.size; omega)));have hPY:Pp<Y.heap.size:=by omega
 clear y1 y2 y3 AL HTA HYA HB3 hPp
 go_wp2_with (first
  | (refine wpList_load_row rfl 33 _ rfl Pp rfl 33 #[.int .i64 n,.slice ao lo' co,.slice au lu cu,.slice ab n cb,.slice ay n cy,.int .i64 en,.int .i64 (tk kf),.int .i64 lo,.float .f64 pa,.float .f64 pr,.float .f64 4616189618054758400,.int .i64 24,.slice at' lt ct] _ _ HPY.out Tryz.underlying33 rfl (by kernel_rfl) ?_)
  | fail)
 refine (kd n T _ _ _ _ _ _ en (tk kf) lo 24 pa pr _ Y HTY.out HYY.out HCK.out (fun i _=>HCS.out i) HTN.out hN1.1 (by omega)).mono ?_;rintro e Wb ⟨v,rfl,ho,hb4⟩;obtain ⟨az0,cz0,rfl⟩:=ho.shape;have AL:=hid (al1 Wb (.cells #[.int .i64 0,.int .i64 (tk kf),.int .i64 1,.int .i64 0,.slice az0 2 cz0,.int .i64 0,.int .i64 0,.int .i64 0] 39));have HO4:=hid ho;have HTB:=hid (HTY.out.below hb4);have HPB:=hid ((hb4.block Pp hPY).trans HPY.out);have HBB:=hid (HBY.out.trans (hb4.mono HBY.out.size));have hPB:Pp<Wb.heap.size:=Nat.lt_of_lt_of_le hPY hb4.size;clear ho hb4 HTY HPY HBY HYY;go_upto_region 7 with fail
 generalize Wb.alloc (.cells #[.int .i64 0,.int .i64 (tk kf),.int .i64 1,.int .i64 0,.slice az0 2 cz0,.int .i64 0,.int .i64 0,.int .i64 0] 39)=V0 at *;obtain ⟨Px,hPx⟩:∃ P,Wb.heap.size=P:=⟨_,rfl⟩;obtain ⟨y1,y2,y3⟩:=AL.out;have HZ0:=hid ((HO4.out.below y3).tabK (b0:=0) (by omega) (by omega));rw [hPx] at y1 y3;simp only [hPx];have HX0:=hid y1;have HBV:=hid y3;have hPpx:Pp<Px:=hPx ▸ hPB;have HPX:=hid hPx;clear y1 y2 y3 AL HO4 hPx;have s1:=Int.emod_nonneg st (show (16:Int)≠0 by decide);have s2:=Int.emod_lt_of_pos st (show (0:Int)<16 by decide);have WS:=hid (fun W=>wU st 16 W (by decide) (by decide));generalize st % 16=sm at *;have k1:IntKind.i64.wrap (4+sm)=4+sm:=IntWalk.i64_in _ (by omega);go_wp2_with fail;generalize Value.agg #[.int .i64 S0.n,.int .i64 S0.first,.int .i64 S0.least,.int .i64 S0.tol,.int .i64 S0.en,.slice a1 S0.ns.length c1,.slice a2 S0.ms.length c2,.slice a3 S0.outs.length c3,.bool S0.div]=gS;generalize Value.agg #[.int .i64 n,.slice ao lo' co,.slice au lu cu,.slice ab n cb,.slice ay n cy,.int .i64 en,.int .i64 (tk kf),.int .i64 lo,.float .f64 pa,.float .f64 pr,.float .f64 4616189618054758400,.int .i64 24,.slice at' lt ct]=gP;generalize Value.agg #[.int .i64 0,.int .i64 (tk kf),.int .i64 1,.int .i64 0,.slice az0 2 cz0,.int .i64 0,.int .i64 0,.int .i64 0]=g0
 go_loopw [7] (fun i wr=>∃ (j:Nat) (s:Sol) (az:Option Addr) (cz:Nat),j≤4+sm.toNat∧i=.int .i64 j∧v8 j lo s∧wr.heap[Px]? = some (.cells #[.int .i64 s.at_,.int .i64 (tk s.k),.int .i64 s.q,.int .i64 s.M,.slice az (s.q+1) cz,.int .i64 s.good,.int .i64 s.fails,.int .i64 s.slow] 39)∧wi 0 wr (.slice az (s.q+1) cz) (s.q+1) n s.z∧Below Px Wb wr) (fun i _=>4+sm.toNat-(intOf i).toNat)
 case atStart=>exact ⟨0,⟨0,kf,1,0,xq T (uV S0.ms) (xh (tk kf)),0,0,0⟩,az0,cz0,by omega,rfl,⟨Nat.le_refl 1,by show 1+0≤5; omega,by show kf≤32; omega,by show 0<2; omega,hLO,⟨Int.le_refl 0,by show (0:Int)≤((0:Nat):Int)*4294967296; decide⟩,⟨Int.le_refl 0,Int.le_refl 0⟩,⟨Int.le_refl 0,by show (0:Int)≤2; decide⟩,⟨Int.le_refl 0,by show (0:Int)≤1; decide⟩⟩,HX0.out,HZ0.out,HBV.out⟩
 case round=>
  clear HZ0 HX0 HBV;obtain ⟨j,s,az,cz,hj,rfl,hs,hx,hz,hb⟩:=hrel;have HPW:=hid ((hb.block Pp hPpx).trans HPB.out);have HXW:=hid hx;have hXw:=zj hx;have hPw:Pp<wr.heap.size:=by omega
  have HBW:=hid hb;have HZW:=hid hz;have HSA:=hid hs;clear hx hz hb;by_cases hjm:(j:Int)<4+sm
  ·have hj24:j≤1000:=by omega
   have HOK:=hid (hs.ok hj24);have hTW:=(HTB.out.below (HPX.out ▸ HBW.out))
   have hq6:s.q≤5:=by have:=hs.q5; omega
   have hq1:=hs.q1;have HNX:=hid (try_at hs (show en≤2147483648 by have:=HEN.out; omega) T n pa pr);have HFA:=hid (try_takes (T:=T) (n:=n) (a:=pa) (r:=pr) (lo:=lo) (en:=en) (s:=s) hs.lo1);have hRq:(uG T n pa pr lo en s).S.q≤10:=by have:=HNX.out.q5; omega
   have hRr:(uG T n pa pr lo en s).N.rows≤10:=by have:=kF T n pa pr lo en s; omega
   have AS:=hid (fun W (hW:Below wr.heap.size wr W)=>as_tells n s.q s.at_ (tk s.k) s.good s.fails s.slow s.M _ s.z hq1 hq6 hN1.1 (by omega) W (HZW.out.below hW).tab);have TR:=hid (fun W (hW:Below wr.heap.size wr W) vz (hz:yB W vz (s.q+1) (fun _=>n) s.z)=>(lR n T (.slice ao lo' co) (.slice au lu cu) (.slice ab n cb) (.slice ay n cy) (.slice at' lt ct) vz en (tk kf) lo 24 pa pr 4616189618054758400 s W (hTW.below hW) hz HOK.out HCK.out HCS.out HTN.out hN1.1 (by omega)).mono fun e w' h=>h.two hRq hRr (by omega));have RR:=hid (fun W (hW:Below wr.heap.size wr W)=>(rtry_any n 0 T (.slice ao lo' co) (.slice au lu cu) (.slice ab n cb) (.slice ay n cy) (.slice at' lt ct) _ en (tk kf) lo 24 pa pr 4616189618054758400 s W (hTW.below hW) (Nat.zero_le _) (HZW.out.below hW) HOK.out HCK.out HCS.out HTN.out hN1.1 (by omega)).mono fun e w' h=>h.two);clear hTW hs HOK hj24 HZW;generalize uG T n pa pr lo en s=R at *;clear hRr;go_wp2_with fail;refine (WS.out _).mono ?_;rintro e w' ⟨rfl,rfl⟩;go_upto_region 10 with fail
   go_cut [8] from 27 to 30 (fun u wx=>∃ (P7:Nat) (b1:Option Addr) (e1:Nat) (b2:Option Addr) (e2 y1:Nat),u=.pointer (some ⟨P7,0,none⟩)∧wx.heap[P7]? = some (.cells #[.int .i64 R.S.at_,.int .i64 (tk R.S.k),.int .i64 R.S.q,.int .i64 R.S.M,.slice b1 (R.S.q+1) e1,.int .i64 R.S.good,.int .i64 R.S.fails,.int .i64 R.S.slow,.int .i64 R.N.at_,.int .i64 R.N.st,.int .i64 R.N.q,.int .i64 R.N.M,.slice b2 R.N.rows e2,.bool R.took,.float .f64 y1,.int .i64 R.e] 45)∧zk y1=R.err ∧
    wi 0 wx (.slice b1 (R.S.q+1) e1) (R.S.q+1) n R.S.z∧wi 0 wx (.slice b2 R.N.rows e2) R.N.rows n R.N.z∧Below wr.heap.size wr wx)
   case first=>
    refine uO [(1,3),(0,3)] [2,3,4,5] [0,1] [(3,[2]),(5,[3,4])] (fun W=>Below wr.heap.size wr W) (fun L a w=>∃ v2 v3 v7:Value,a=⟨#[gS,.int .i64 st,.pointer (some ⟨B,0,none⟩),undef,u4,.pointer (some ⟨Pp,0,none⟩),.pointer (some ⟨Px,0,none⟩),.int .i64 j,v7,u9,u10,.bool true,.bool false,gS,.bool true,.bool false,gS,gP,gP,g0,.int .i64 j,.int .i64 st,.int .i64 sm,.int .i64 (4+sm),.bool true,u25,u26,.agg #[.int .i64 n,.slice ao lo' co,.slice au lu cu,.slice ab n cb,.slice ay n cy,.int .i64 en,.int .i64 (tk kf),.int .i64 lo,.float .f64 pa,.float .f64 pr,.float .f64 4616189618054758400,.int .i64 24,.slice at' lt ct],.agg #[.int .i64 s.at_,.int .i64 (tk s.k),.int .i64 s.q,.int .i64 s.M,.slice az (s.q+1) cz,.int .i64 s.good,.int .i64 s.fails,.int .i64 s.slow],v2,v3,u31,u32,u33,u34,u35,u36,u37,u38,u39,u40,u41,u42,u43,u44,u45,u46,u47,u48,u49,u50,u51,u52,u53,u54,u55,u56,u57,u58,u59,u60,u61,u62,u63,u64,u65,u66,u67,u68,u69,u70,u71,u72,u73,u74,u75,u76,u77,u78,u79,u80,u81,u82,u83,u84,u85,u86,u87,u88,u89,u90,u91,u92,u93,u94,u95,u96,u97,u98,u99,u100,u101,u102,u103,u104,u105,u106,u107,u108,u109,u110,u111,u112,u113,u114,u115,u116,u117,u118,u119,u120,u121,u122,u123,u124,u125,u126,u127,u128,u129,u130,u131,u132,u133,u134,u135,u136,u137,u138,u139,u140,u141,u142,u143,u144,u145,u146,u147,u148,u149,u150,u151,u152,u153,u154,u155,u156,u157,u158,u159,u160,u161,u162,u163,u164,u165,u166,u167,u168,u169,u170,u171,u172,u173,u174,u175,u176,u177,u178,u179,u180,u181,u182,u183,u184,u185,u186,u187,u188,u189,u190,u191,u192,u193,u194,u195,u196,u197,u198,u199],[]⟩∧OnA wr n s R L w v2 v3 v7) (by kernel_rfl) (by kernel_rfl) (fun _ _ d _ _ h=>by cases d<;>exact h) ((Below.refl _ _).drew)
     (.cons ?o2 (.cons ?o3 (.cons ?o4 (.cons ?o5 .nil)))) ?fin ?ini
    case ini=>
     intro Z hZ hbZ;clear hZ;refine rf (v:=.agg #[.int .i64 s.at_,.int .i64 (tk s.k),.int .i64 s.q,.int .i64 s.M,.slice az (s.q+1) cz,.int .i64 s.good,.int .i64 s.fails,.int .i64 s.slow]) rfl rfl (fun wk hwk=>?_) ?_
     ·exact keep_row 39 _ rfl Px rfl 39 #[.int .i64 s.at_,.int .i64 (tk s.k),.int .i64 s.q,.int .i64 s.M,.slice az (s.q+1) cz,.int .i64 s.good,.int .i64 s.fails,.int .i64 s.slow] _ ((hwk.block Px hXw).trans HXW.out) Tryz.underlying39 rfl (by kernel_rfl)
     refine rf (v:=.agg #[.int .i64 n,.slice ao lo' co,.slice au lu cu,.slice ab n cb,.slice ay n cy,.int .i64 en,.int .i64 (tk kf),.int .i64 lo,.float .f64 pa,.float .f64 pr,.float .f64 4616189618054758400,.int .i64 24,.slice at' lt ct]) rfl rfl (fun wk hwk=>?_) ?_
     ·exact keep_row 33 _ rfl Pp rfl 33 #[.int .i64 n,.slice ao lo' co,.slice au lu cu,.slice ab n cb,.slice ay n cy,.int .i64 en,.int .i64 (tk kf),.int .i64 lo,.float .f64 pa,.float .f64 pr,.float .f64 4616189618054758400,.int .i64 24,.slice at' lt ct] _ ((hwk.block Pp hPw).trans HPW.out) Tryz.underlying33 rfl (by kernel_rfl)
     refine r6 fun L hL=>⟨_,_,_,rfl,hbZ,?_,?_,?_,?_,?_⟩
     ·exact fun h=>absurd h (by rw [hL 5 (by decide)]; decide)
     ·exact fun h=>absurd h (by rw [hL 2 (by decide)]; decide)
     ·exact fun h=>absurd h (by rw [hL 3 (by decide)]; decide)
     ·exact fun h=>absurd h (by rw [hL 4 (by decide)]; decide)
     ·exact fun h=>absurd h (by rw [hL 5 (by decide)]; decide)
    case o2=>
     rintro L a w hL hd ⟨v2,v3,v7,rfl,hI⟩ K hK;go_simp;refine (AS.out w hI.b).mono ?_;rintro e w' ⟨v,rfl,ho2,hst⟩;obtain ⟨av,cv,rfl⟩:=ho2.shape;have hb:=hI.b.trans (hst.mono hI.b.size);exact hK _ _ (fun _=>hb) ⟨_,_,_,rfl,hb,hI.o4,fun _ _=>⟨av,cv,rfl,(ho2.base (b':=wr.heap.size) hI.b.size).tab (by omega) (by omega)⟩,fun h=>(hI.h3 h).below hst,fun h g=>(hI.h4 h g).below hst,fun h=>(hI.h5 h).below hst⟩
    case o3=>
     rintro L a w hL hd ⟨v2,v3,v7,rfl,hI⟩ K hK;have h2:=hd 2 (by decide);obtain ⟨av,cv,rfl,ht⟩:=hI.h2 h2 hL;go_simp;refine (TR.out w hI.b _ ht).mono ?_;rintro e w' ⟨hst,b1,e1,b2,e2,y1,rfl,hq1,-,ht1,hn1⟩;have hb:=hI.b.trans (hst.mono hI.b.size);exact hK _ _ (fun _=>hb) ⟨_,_,_,rfl,hb,hI.o4,fun _ g=>Bool.noConfusion g,fun _=>⟨b1,e1,b2,e2,y1,rfl,hq1,ht1,hn1⟩,fun h g=>(hI.h4 h g).below hst,fun h=>(hI.h5 h).below hst⟩
    case o4=>
     rintro L a w hL hd ⟨v2,v3,v7,rfl,hI⟩ K hK;go_simp;obtain ⟨y1,y2,hst⟩:=al1 w (.cells #[.int .i64 0,.int .i64 0,.int .i64 0,.int .i64 0,.slice none 0 0,.int .i64 0,.int .i64 0,.int .i64 0,.int .i64 0,.int .i64 0,.int .i64 0,.int .i64 0,.slice none 0 0,.bool false,.float .f64 0,.int .i64 0] 45);have hb:=hI.b.trans (hst.mono hI.b.size);exact hK _ _ (fun _=>hb) ⟨_,_,_,rfl,hb,fun _=>rfl,fun h g=>by obtain ⟨av,cv,e,h⟩:=hI.h2 h g; exact ⟨av,cv,e,h.below hst⟩,fun h=>(hI.h3 h).below hst,fun _ _=>⟨_,_,rfl,hI.b.size,rfl,y1⟩,fun h=>absurd ((hI.o4 h).symm.trans hL) (by decide)⟩
    case o5=>
     rintro L a w hL hd ⟨v2,v3,v7,rfl,hI⟩ K hK;obtain ⟨P,cs,rfl,hP,h16,hp⟩:=hI.h4 (hd 4 (by decide)) hL;obtain ⟨b1,e1,b2,e2,y,rfl,hy,ht,hn⟩:=hI.h3 (hd 3 (by decide));have hrow:=yx hp #[.int .i64 R.S.at_,.int .i64 (tk R.S.k),.int .i64 R.S.q,.int .i64 R.S.M,.slice b1 (R.S.q+1) e1,.int .i64 R.S.good,.int .i64 R.S.fails,.int .i64 R.S.slow,.int .i64 R.N.at_,.int .i64 R.N.st,.int .i64 R.N.q,.int .i64 R.N.M,.slice b2 R.N.rows e2,.bool R.took,.float .f64 y,.int .i64 R.e];have hb:=hrow.1.below hI.b hP hI.b.size;refine xt rfl ?_;refine wz (by rfl) 45 _ _ (by rfl) P #[.int .i64 R.S.at_,.int .i64 (tk R.S.k),.int .i64 R.S.q,.int .i64 R.S.M,.slice b1 (R.S.q+1) e1,.int .i64 R.S.good,.int .i64 R.S.fails,.int .i64 R.S.slow,.int .i64 R.N.at_,.int .i64 R.N.st,.int .i64 R.N.q,.int .i64 R.N.M,.slice b2 R.N.rows e2,.bool R.took,.float .f64 y,.int .i64 R.e] (by rfl) (by rfl) 45 _ hp (by kernel_rfl) h16 (by simp [Value.oneCell']) ?_;exact hK _ _ (fun _=>hb) ⟨_,_,_,rfl,hb,fun _=>hd 4 (by decide),fun h g=>absurd ((show L 3=false from g).symm.trans (hd 3 (by decide))) (by decide),fun h=>by obtain ⟨c1,d1,c2,d2,y',e,g1,g2,g3⟩:=hI.h3 h; exact ⟨c1,d1,c2,d2,y',e,g1,g2.tried hp hrow.1,g3.tried hp hrow.1⟩,fun _ g=>Bool.noConfusion g,fun _=>⟨P,b1,e1,b2,e2,y,rfl,hrow.2.1,hy,ht.tried hp hrow.1,hn.tried hp hrow.1⟩⟩
    case fin=>
     rintro L a w hL ⟨v2,v3,v7,rfl,hI⟩;obtain ⟨P7,b1,e1,b2,e2,y1,rfl,hp7,hy1,ht1,hn1⟩:=hI.h5 (hL 5 (by decide));have hb:=hI.b;clear hI hL;go_wp2_with fail;go_meet;exact ⟨P7,b1,e1,b2,e2,y1,rfl,hp7,hy1,ht1,hn1,hb⟩
   case rest=>
    obtain ⟨P7,b1,e1,b2,e2,y1,rfl,hp7,hy1,ht3,hn3,hb⟩:=hcut;clear AS TR;have HP7:=hid hp7;have HT7:=hid (show _∧_ from ⟨ht3,hn3⟩);have HYY:=hid (show zk y1=R.err from hy1);have HBC:=hid hb;clear hp7 hy1 ht3 hn3 hb
    go_wp2_with (first
     | (refine wpList_load_row rfl 33 _ rfl Pp rfl 33 #[.int .i64 n,.slice ao lo' co,.slice au lu cu,.slice ab n cb,.slice ay n cy,.int .i64 en,.int .i64 (tk kf),.int .i64 lo,.float .f64 pa,.float .f64 pr,.float .f64 4616189618054758400,.int .i64 24,.slice at' lt ct] _ _ ((HBC.out.block Pp hPw).trans HPW.out) Tryz.underlying33 rfl (by kernel_rfl) ?_)
     | (refine wpList_load_row rfl 39 _ rfl Px rfl 39 #[.int .i64 s.at_,.int .i64 (tk s.k),.int .i64 s.q,.int .i64 s.M,.slice az (s.q+1) cz,.int .i64 s.good,.int .i64 s.fails,.int .i64 s.slow] _ _ ((HBC.out.block Px hXw).trans HXW.out) Tryz.underlying39 rfl (by kernel_rfl) ?_)
     | fail)
    refine (RR.out wc HBC.out).mono ?_;rintro e wd ⟨hbd,g1,f1,g2,f2,y2,rfl,hy2,-,ht6,hn6⟩;clear RR;have hbA:=HBC.out.trans (hbd.mono HBC.out.size);have AL:=al1 wd (.cells #[.int .i64 0,.int .i64 0,.int .i64 0,.int .i64 0,.slice none 0 0,.int .i64 0,.int .i64 0,.int .i64 0,.int .i64 0,.int .i64 0,.int .i64 0,.int .i64 0,.slice none 0 0,.bool false,.float .f64 0,.int .i64 0] 49);have hrow:=yx AL.1 #[.int .i64 R.S.at_,.int .i64 (tk R.S.k),.int .i64 R.S.q,.int .i64 R.S.M,.slice g1 (R.S.q+1) f1,.int .i64 R.S.good,.int .i64 R.S.fails,.int .i64 R.S.slow,.int .i64 R.N.at_,.int .i64 R.N.st,.int .i64 R.N.q,.int .i64 R.N.M,.slice g2 R.N.rows f2,.bool R.took,.float .f64 y2,.int .i64 R.e];have hbW:Below wd.heap.size wd ((wd.alloc (.cells #[.int .i64 0,.int .i64 0,.int .i64 0,.int .i64 0,.slice none 0 0,.int .i64 0,.int .i64 0,.int .i64 0,.int .i64 0,.int .i64 0,.int .i64 0,.int .i64 0,.slice none 0 0,.bool false,.float .f64 0,.int .i64 0] 49)).setRow wd.heap.size #[.int .i64 R.S.at_,.int .i64 (tk R.S.k),.int .i64 R.S.q,.int .i64 R.S.M,.slice g1 (R.S.q+1) f1,.int .i64 R.S.good,.int .i64 R.S.fails,.int .i64 R.S.slow,.int .i64 R.N.at_,.int .i64 R.N.st,.int .i64 R.N.q,.int .i64 R.N.M,.slice g2 R.N.rows f2,.bool R.took,.float .f64 y2,.int .i64 R.e]):=hrow.1.below AL.2.2 (Nat.le_refl _) (by have:=AL.2.1; omega);have hpp:=hrow.2.1
    go_upto_region 12 with (first
     | (refine wpList_store_row rfl 49 _ _ rfl wd.heap.size #[.int .i64 R.S.at_,.int .i64 (tk R.S.k),.int .i64 R.S.q,.int .i64 R.S.M,.slice g1 (R.S.q+1) f1,.int .i64 R.S.good,.int .i64 R.S.fails,.int .i64 R.S.slow,.int .i64 R.N.at_,.int .i64 R.N.st,.int .i64 R.N.q,.int .i64 R.N.M,.slice g2 R.N.rows f2,.bool R.took,.float .f64 y2,.int .i64 R.e] rfl rfl 49 _ AL.1 (by kernel_rfl) rfl (by simp [Value.oneCell']) ?_)
     | fail)
    clear hrow AL;generalize (wd.alloc (.cells #[.int .i64 0,.int .i64 0,.int .i64 0,.int .i64 0,.slice none 0 0,.int .i64 0,.int .i64 0,.int .i64 0,.int .i64 0,.int .i64 0,.int .i64 0,.int .i64 0,.slice none 0 0,.bool false,.float .f64 0,.int .i64 0] 49)).setRow wd.heap.size #[.int .i64 R.S.at_,.int .i64 (tk R.S.k),.int .i64 R.S.q,.int .i64 R.S.M,.slice g1 (R.S.q+1) f1,.int .i64 R.S.good,.int .i64 R.S.fails,.int .i64 R.S.slow,.int .i64 R.N.at_,.int .i64 R.N.st,.int .i64 R.N.q,.int .i64 R.N.M,.slice g2 R.N.rows f2,.bool R.took,.float .f64 y2,.int .i64 R.e]=wq at *;have hba:=hbd.trans (hbW.mono hbd.size);have HTT:=hid (show _∧_∧_∧_ from ⟨HT7.out.1.below hba,HT7.out.2.below hba,ht6.below hbW,hn6.below hbW⟩)
    replace HBC:=hid (HBC.out.trans (hba.mono HBC.out.size))
    replace HP7:=hid ((hba.block P7 (zj HP7.out)).trans HP7.out)
    have HP8:=hid hpp;obtain ⟨P8,hP8⟩:∃ P,wd.heap.size=P:=⟨_,rfl⟩;rw [hP8] at HP8;simp only [hP8,Act.put];have HCX:=hid ((HBC.out.block Px hXw).trans HXW.out);have HPC:=hid ((HBC.out.block Pp hPw).trans HPW.out);clear hpp hba hbW ht6 hn6 hbd hbA HT7 hP8;generalize Value.agg #[.int .i64 n,.slice ao lo' co,.slice au lu cu,.slice ab n cb,.slice ay n cy,.int .i64 en,.int .i64 (tk kf),.int .i64 lo,.float .f64 pa,.float .f64 pr,.float .f64 4616189618054758400,.int .i64 24,.slice at' lt ct]=gQ;generalize Value.agg #[.int .i64 s.at_,.int .i64 (tk s.k),.int .i64 s.q,.int .i64 s.M,.slice az (s.q+1) cz,.int .i64 s.good,.int .i64 s.fails,.int .i64 s.slow]=gX;generalize Value.agg #[.int .i64 R.S.at_,.int .i64 (tk R.S.k),.int .i64 R.S.q,.int .i64 R.S.M,.slice g1 (R.S.q+1) f1,.int .i64 R.S.good,.int .i64 R.S.fails,.int .i64 R.S.slow,.int .i64 R.N.at_,.int .i64 R.N.st,.int .i64 R.N.q,.int .i64 R.N.M,.slice g2 R.N.rows f2,.bool R.took,.float .f64 y2,.int .i64 R.e]=gR;have hs0:=HSA.out.at_;have hq5:=HSA.out.q5;have ht1:=uZ s.k;have ht2:=ky HSA.out.k;have hj9:(j:Int)≤100:=by omega
    have w1:IntKind.i64.wrap (s.at_+tk s.k)=s.at_+tk s.k:=IntWalk.i64_in _ (by omega);have w2:IntKind.i64.wrap (2*tk s.k)=2*tk s.k:=IntWalk.i64_in _ (by omega);have w3:IntKind.i64.wrap ((s.q:Int)+1)=(s.q:Int)+1:=IntWalk.i64_in _ (by omega);have hfa:=HFA.out;obtain ⟨f1e,f1l,f1n,f1k,f2n,f2h,f2e⟩:=hfa;have HY1:=hid (show R.took=true→leB y1 4607182418800017408=true from fun h=>by rw [← qD HYY.out nG]; exact f1l h);have hpt:=uZ R.S.k;have hpu:=ky HNX.out.k;clear HFA f1l;have ka13:=(yw HP7.out).2.2.2.2.2.2.1;have e13:=(yw HP8.out).2.2.2.2.2.2.1;have hne:(R.took != R.took)=false:=by simp
    go_upto_region 14 with fail
    clear ka13 e13 hne;have AL:=al1 wq (.cells #[.int .i64 0,.int .i64 0,.int .i64 0,.int .i64 0,.slice none 0 0] 37);have hrow:=yx AL.1 #[.int .i64 R.S.at_,.int .i64 (tk R.S.k),.int .i64 R.S.q,.int .i64 R.S.M,.slice b1 (R.S.q+1) e1];have hbN:Below wq.heap.size wq ((wq.alloc (.cells #[.int .i64 0,.int .i64 0,.int .i64 0,.int .i64 0,.slice none 0 0] 37)).setRow wq.heap.size #[.int .i64 R.S.at_,.int .i64 (tk R.S.k),.int .i64 R.S.q,.int .i64 R.S.M,.slice b1 (R.S.q+1) e1]):=hrow.1.below AL.2.2 (Nat.le_refl _) (by have:=AL.2.1; omega);have hnn:=hrow.2.1
    go_upto_region 15 with (first
     | (refine wpList_load_mid rfl 37 _ rfl P7 0 rfl [.int .i64 R.S.at_,.int .i64 (tk R.S.k),.int .i64 R.S.q,.int .i64 R.S.M,.slice b1 (R.S.q+1) e1] _ (World.rangeAt_of_block HP7.out 0 5) Tryz.underlying37 rfl (by kernel_rfl) ?_)
     | (refine wpList_store_row rfl 37 _ _ rfl wq.heap.size #[.int .i64 R.S.at_,.int .i64 (tk R.S.k),.int .i64 R.S.q,.int .i64 R.S.M,.slice b1 (R.S.q+1) e1] rfl rfl 37 _ AL.1 (by kernel_rfl) rfl (by simp [Value.oneCell']) ?_)
     | fail)
    clear hrow AL;generalize (wq.alloc (.cells #[.int .i64 0,.int .i64 0,.int .i64 0,.int .i64 0,.slice none 0 0] 37)).setRow wq.heap.size #[.int .i64 R.S.at_,.int .i64 (tk R.S.k),.int .i64 R.S.q,.int .i64 R.S.M,.slice b1 (R.S.q+1) e1]=wn at *
    replace HP7:=hid ((hbN.block P7 (zj HP7.out)).trans HP7.out)
    have HNN:=hid hnn;obtain ⟨Pn,hPn⟩:∃ P,wq.heap.size=P:=⟨_,rfl⟩;rw [hPn] at HNN;simp only [hPn,Act.put]
    replace HP8:=hid ((hbN.block P8 (zj HP8.out)).trans HP8.out)
    replace HCX:=hid ((hbN.block Px (zj HCX.out)).trans HCX.out)
    replace HTT:=hid (show _∧_∧_∧_ from ⟨HTT.out.1.below hbN,HTT.out.2.1.below hbN,HTT.out.2.2.1.below hbN,HTT.out.2.2.2.below hbN⟩)
    replace HBC:=hid (HBC.out.trans (hbN.mono HBC.out.size))
    have e15:=(yw HP8.out).2.2.2.2.2.2.2.2;clear hnn hbN hPn;obtain ⟨⟨-,-,-,-,-,-,ka6,-⟩,ka8,ka9,ka10,ka11,ka12,ka13,ka14,ka15⟩:=yw HP7.out;obtain ⟨-,-,-,-,-,-,e13,-,-⟩:=yw HP8.out;obtain ⟨kx0,kx1,kx2,kx3,-,-,-,-⟩:=zO HCX.out;obtain ⟨kn0,kn1,kn2,-,-⟩:=yl HNN.out;cases htt:R.took
    all_goals rw [htt] at ka13 e13
    ·obtain ⟨n1,n2⟩:=f2n htt;have f3:=f2h htt;have f4:=f2e htt;rw [n1] at kn0;rw [n2] at ka12;clear f1e f1n f1k f2n f2h f2e n1 n2;have h0:(s.at_ != s.at_)=false:=by simp
     go_upto_region 20 with fail
     go_cut [194] from 155 to 193 (fun u wx=>u=.bool false∧wx=wn)
     case first=>
      by_cases hE:R.e=0
      ·have hh:=f3 hE;have w4:IntKind.i64.wrap (2*tk R.S.k)=2*tk R.S.k:=IntWalk.i64_in _ (by omega);have h1:(2*tk R.S.k != tk s.k)=false:=by rw [hh]; simp
       rw [hE] at ka15;clear f3 f4 hE hh;go_wp2_with fail;go_meet;exact ⟨rfl,rfl⟩
      ·have hh:=f4 hE;have h1:(R.e==0)=false:=beq_false_of_ne hE;have h2:(R.e != 0)=true:=by simp [hE]
       have h3:(tk R.S.k != tk s.k)=false:=by rw [hh]; simp
       clear f3 f4 hE hh;go_wp2_with fail;go_meet;exact ⟨rfl,rfl⟩
     case rest=>
      obtain ⟨rfl,rfl⟩:=hcut;clear f3 f4 ka6 ka8 ka9 ka10 ka11 ka12 ka13 ka14 ka15 e13 kx0 kx1 kx2 kx3 kn0 kn1 kn2 h0;by_cases hE:R.e=0
      ·have hE2:(R.e != 0)=false:=by simp [hE]
       go_wp2_with (first
        | (refine wpList_load_mid rfl 39 _ rfl P8 0 rfl [.int .i64 R.S.at_,.int .i64 (tk R.S.k),.int .i64 R.S.q,.int .i64 R.S.M,.slice g1 (R.S.q+1) f1,.int .i64 R.S.good,.int .i64 R.S.fails,.int .i64 R.S.slow] _ (World.rangeAt_of_block HP8.out 0 8) Tryz.underlying39 rfl (by kernel_rfl) ?_)
        | (refine wpList_store_row rfl 39 _ _ rfl Px #[.int .i64 R.S.at_,.int .i64 (tk R.S.k),.int .i64 R.S.q,.int .i64 R.S.M,.slice g1 (R.S.q+1) f1,.int .i64 R.S.good,.int .i64 R.S.fails,.int .i64 R.S.slow] rfl rfl 39 _ HCX.out (by kernel_rfl) rfl (by simp [Value.oneCell']) ?_)
        | fail)
       have hrow:=yx HCX.out #[.int .i64 R.S.at_,.int .i64 (tk R.S.k),.int .i64 R.S.q,.int .i64 R.S.M,.slice g1 (R.S.q+1) f1,.int .i64 R.S.good,.int .i64 R.S.fails,.int .i64 R.S.slow];refine ⟨⟨j+1,R.S,g1,f1,by omega,by go_num,HNX.out,hrow.2.1,HTT.out.2.2.1.place HCX.out hrow.1,hrow.1.below (HBW.out.trans (HBC.out.mono (by have:=HBW.out.size; omega))) (Nat.le_refl _) (by have:=HBC.out.size; omega)⟩,?_⟩;simp only [intOf];omega
      ·have hE2:(R.e != 0)=true:=by simp [hE]
       go_wp2_with fail;go_ret;exact ⟨rfl,hB ▸ BX.out _ (HBB.out.trans ((HBW.out.trans (HBC.out.mono (by have:=HBW.out.size; omega))).mono (by have:=HBB.out.size; have:=HPX.out; omega)))⟩
    ·obtain ⟨n1,n2,n3,n4,n5,n6⟩:=f1n htt;have h1:=f1e htt;have h2:=HY1.out htt;have f3:=f1k htt;rw [n1] at ka8;rw [n2] at ka9;rw [n3] at ka10;rw [n4] at ka11;rw [n5] at kn0;rw [n6] at ka6;rw [h1] at ka15;clear f1e f1n f1k f2n f2h f2e n1 n2 n3 n4 n5 n6;have q1:(s.at_+tk s.k != s.at_+tk s.k)=false:=by simp
     have q2:((s.q:Int) != s.q)=false:=by simp
     have q3:((s.M:Int) != s.M)=false:=by simp
     have q4:(tk s.k != tk s.k)=false:=by simp
     go_upto_region 16 with fail
     go_cut [106] from 44 to 105 (fun u wx=>u=.bool false∧wx=wn)
     case first=>
      clear f3 h1;go_wp2_with fail;go_meet;exact ⟨rfl,rfl⟩
     case rest=>
      obtain ⟨rfl,rfl⟩:=hcut;clear ka6 ka8 ka9 ka10 ka11 ka12 ka13 ka14 e13;go_upto_region 18 with fail
      go_cut [154] from 107 to 153 (fun u wx=>u=.bool false∧wx=wc)
      case first=>
       clear h1;rcases f3 with ⟨f4,f5 | f5⟩ | ⟨f4,f5⟩
       ·rw [f4] at kn1;rw [f5] at kn2;clear f4 f5;go_wp2_with fail;go_meet;exact ⟨rfl,rfl⟩
       ·rw [f4] at kn1;rw [f5] at kn2;have q5:((s.q:Int)+1 != s.q)=true:=by simp; omega
        have q6:((s.q:Int)+1 != (s.q:Int)+1)=false:=by simp
        clear f4 f5;go_wp2_with fail;go_meet;exact ⟨rfl,rfl⟩
       ·rw [f4] at kn1;rw [f5] at kn2;have q5:(2*tk s.k != tk s.k)=true:=by simp; omega
        have q6:(2*tk s.k != 2*tk s.k)=false:=by simp
        clear f4 f5;go_wp2_with fail;go_meet;exact ⟨rfl,rfl⟩
      case rest=>
       obtain ⟨rfl,rfl⟩:=hcut;clear f3 kx0 kx1 kx2 kx3 kn0 kn1 kn2 ka15 q1 q2 q3 q4 w1 w2 w3;have hE2:(R.e != 0)=false:=by rw [h1]; rfl
       go_wp2_with (first
        | (refine wpList_load_mid rfl 39 _ rfl P8 0 rfl [.int .i64 R.S.at_,.int .i64 (tk R.S.k),.int .i64 R.S.q,.int .i64 R.S.M,.slice g1 (R.S.q+1) f1,.int .i64 R.S.good,.int .i64 R.S.fails,.int .i64 R.S.slow] _ (World.rangeAt_of_block HP8.out 0 8) Tryz.underlying39 rfl (by kernel_rfl) ?_)
        | (refine wpList_store_row rfl 39 _ _ rfl Px #[.int .i64 R.S.at_,.int .i64 (tk R.S.k),.int .i64 R.S.q,.int .i64 R.S.M,.slice g1 (R.S.q+1) f1,.int .i64 R.S.good,.int .i64 R.S.fails,.int .i64 R.S.slow] rfl rfl 39 _ HCX.out (by kernel_rfl) rfl (by simp [Value.oneCell']) ?_)
        | fail)
       have hrow:=yx HCX.out #[.int .i64 R.S.at_,.int .i64 (tk R.S.k),.int .i64 R.S.q,.int .i64 R.S.M,.slice g1 (R.S.q+1) f1,.int .i64 R.S.good,.int .i64 R.S.fails,.int .i64 R.S.slow];refine ⟨⟨j+1,R.S,g1,f1,by omega,by go_num,HNX.out,hrow.2.1,HTT.out.2.2.1.place HCX.out hrow.1,hrow.1.below (HBW.out.trans (HBC.out.mono (by have:=HBW.out.size; omega))) (Nat.le_refl _) (by have:=HBC.out.size; omega)⟩,?_⟩;simp only [intOf];omega
  ·have k2:¬ (j:Int)<4+sm:=hjm;go_wp2_with fail;refine (WS.out _).mono ?_;rintro e w' ⟨rfl,rfl⟩;go_wp2_with fail;go_ret;exact ⟨rfl,hB ▸ BX.out _ (HBB.out.trans (HBW.out.mono (by have:=HBB.out.size; have:=HPX.out; omega)))⟩
end Go.Proofs.YtnlbafjmbamoeaaGreat
namespace Go.Proofs.YtnlbafjmbamoeaaGreat.stepTakes
open Go.ChangeShapes Go.WideShapes Go.ChangeAt Go.RowKit Go.Proofs.YtnlbafjmbamoeaaGreat
open Lib
theorem own:ownKnob Tryz.prog.godebug=none:=by kernel_rfl
theorem laidOut:laidOutB Tryz.prog=true:=by kernel_rfl
theorem float_lt {b:Nat} (h:(Lit.float .f64 b).wf=true):b<18446744073709551616:=by simpa [Lit.wf] using h
theorem int_lo {n:Int} (h:(Lit.int .i64 n).wf=true):-9223372036854775808≤n∧n≤9223372036854775807:=by
 have a:IntKind.i64.min=-9223372036854775808:=by decide
 have b:IntKind.i64.max=9223372036854775807:=by decide
 simp only [Lit.wf,Bool.and_eq_true,decide_eq_true_eq] at h; omega
set_option maxRecDepth 100000
theorem lifted (os:Os) (started:os.Started) (H:Type) (enc:TypeId × Value→H) :
  ReturnsInHanded {} Tryz.checked os 4 .any (Rows.stepTakesSpec.pre6 enc Tryz.prog Tryz.f4 Rows.stepTakesRow.domain false) (Rows.stepTakesSpec.post enc Tryz.prog Tryz.f4 false true false false):=by
 refine returnsInHanded_of_change (C:=Tryz.checked) own started (by kernel_rfl) Tryz.func4
  (ChangeSpec.witness6 (enc:=enc) (C:=Tryz.checked) false ⟨#[],#[.agg #[.int .i64 0,.int .i64 0,.int .i64 0,.int .i64 0,.int .i64 0,.slice none 0 0,.slice none 0 0,.slice none 0 0,.bool false],.int .i64 0],[]⟩ 8 (by kernel_rfl) (by kernel_rfl) (by kernel_rfl) (by kernel_rfl)) ?_
 intro W base args ds gs before hval0 hW hcnd _;have hval:∀ (j:Nat) t v,Tryz.f4.params[j]? = some t→args[j]? = some v→Value.okWide Tryz.prog W .any base t v:=hval0;have hW':=hW;obtain ⟨p,q,hA0,hV,rfl,hfz,hnd⟩:=hW;have hA:DataW.TrodAll enc Tryz.prog W 0 (fun _=>true) true Tryz.f4.params.toList args.toList ds p:=hA0;rw [Tryz.params4] at hA hval;obtain ⟨v0,vs0,d0,ds0,p0,q0,hargs,rfl,rfl,h0,r0⟩:=trodAll_cons hA;obtain ⟨v1,vs1,d1,ds1,p1,q1,rfl,rfl,rfl,h1,r1⟩:=trodAll_cons r0;obtain ⟨rfl,rfl,rfl⟩:=trodAll_nil r1;obtain rfl:args=#[v0,v1]:=by cases args; simp_all
 obtain ⟨rfl,rfl⟩:=trodVars_none hV;have k0:=h0;obtain ⟨zs0,z0⟩:=shape_of (hval 0 24 v0 rfl rfl) h0;obtain ⟨a1,rfl,rfl,rfl,w1⟩:=open_int Tryz.underlying3 (hval 1 3 v1 rfl rfl) h1;clear hA0 hval0;simp only [List.append_nil] at hW';refine (stepTakes_any v0 zs0 a1 W z0 (int_lo w1)).mono fun e W' ⟨he,hb⟩=>?_
 subst he;exact ⟨_,rfl,⟨_,_,_,[],_,[],hW',(trodAll_cons_mk (shut_bool Tryz.underlying4 _) trodAll_mk0),(trodAll_cons_mk (Below.trod laidOut (by kernel_rfl) (of_decide_eq_true (by kernel_rfl)) k0 hb (fun x hx=>hW'.lt x (by simp [hx]))) (trodAll_cons_mk (shut_int Tryz.underlying3 w1) trodAll_mk0)),rfl,hb.frame _,fun h=>by cases h⟩⟩
theorem over:Rows.stepTakesRow.holds Tryz.pinned (OpenSpec.ofChange Rows.stepTakesSpec):=
 OpenClaim.holds_of_wide 4 Tryz.f4 rfl rfl rfl rfl rfl rfl rfl ⟨rfl,rfl,rfl,rfl,rfl⟩ rfl rfl rfl rfl rfl (by kernel_rfl) Tryz.func4 (by kernel_rfl)
  (of_decide_eq_true (by kernel_rfl)) (by unfold Func.isWrapper; first | (rw [if_pos (by decide +kernel)]; kernel_rfl) | (rw [if_neg (by decide +kernel)]; exact ⟨rfl,rfl⟩))
  (fun os started H enc _=>lifted os started H enc)
theorem proved:Rows.StepTakesSaid:=
 over
#print axioms proved
end Go.Proofs.YtnlbafjmbamoeaaGreat.stepTakes
