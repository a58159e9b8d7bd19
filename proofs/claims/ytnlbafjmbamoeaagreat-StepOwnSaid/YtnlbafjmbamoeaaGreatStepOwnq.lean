/-
  'StepOwn': the law answers true, whatever it is given: every input, no condition.
-/
import Derived.Deep.CutBlock
import Derived.Deep.MidRow
import Derived.Test.YtnlbafjmbamoeaaGreatRows
import Derived.WalkKit
import Derived.WalkLawsBesides
import Derived.ProofKit
import Derived.OpenShut
import Derived.Carry
import Derived.Test.YtnlbafjmbamoeaaGreatQt
namespace Go.Proofs.YtnlbafjmbamoeaaGreat
open Go.RowKit
open Ieee (double)
open Lib
attribute [local go_sem] zr zi zy zn zU zS zW zX zV zY zD zH zI zJ zK zB ye z8 zF yE zN zQ zR
def Wr (w:World) (base:Nat) (v:Value) (m n:Nat):Prop:=∃ a c,v=.slice a m c∧(0<m→∃ G arr,a=some ⟨G,0,none⟩∧w.heap[G]? = some (.cells arr 30 (0,0))∧∀ i,i<m→∃ A off cc ar,arr[i]? = some (.slice (some ⟨A,off,none⟩) n cc)∧base≤A∧w.heap[A]? = some (.cells ar 31 (0,0))∧∀ j,j<n→∃ y,ar[off+j]? = some (.float .f64 y))
theorem yk.wr {w:World} {base:Nat} {v:Value} {m n:Nat} {f:Nat→Nat→Nat} (h:yk w base v m n f):Wr w base v m n:=by
 obtain ⟨G,cap,rs,rfl,h1,h3⟩:=h;obtain ⟨arr,hG⟩:=xN h1;refine ⟨_,cap,rfl,fun _=>⟨G,arr,rfl,hG,fun i hi=>?_⟩⟩;obtain ⟨A,off,c,a1,a2,⟨ar,a3⟩,a4⟩:=h3 i hi;have hl:=h1.1;refine ⟨A,off,c,ar,?_,a2,a3,fun j hj=>?_⟩
 ·have e:=(h1.cellAt i (by omega)).trans a1;rw [zf hG] at e;exact e
 ·obtain ⟨y,e,-⟩:=a4 j hj;rw [zf a3] at e;exact ⟨y,e⟩
theorem Wr.write {w:World} {base:Nat} {v:Value} {m n:Nat} (h:Wr w base v m n) {A o y:Nat} {ar:Array Value} (hA:w.heap[A]? = some (.cells ar 31 (0,0))):Wr (w.setCell ⟨A,o,none⟩ (.float .f64 y)) base v m n:=by
 obtain ⟨a,c,rfl,h1⟩:=h;refine ⟨a,c,rfl,fun hm=>?_⟩;obtain ⟨G,arr,rfl,hG,h2⟩:=h1 hm;have hne:G≠A:=sh hG hA (by decide);refine ⟨G,arr,rfl,(Below.heap_setCell _ _ _ _ hne).trans hG,fun i hi=>?_⟩;obtain ⟨B,off,cc,br,e1,e2,e3,e4⟩:=h2 i hi;by_cases hB:B=A
 ·subst hB;rw [hA] at e3;injection e3 with e3
  injection e3 with e3
  subst e3;refine ⟨B,off,cc,_,e1,e2,zp hA _,fun j hj=>?_⟩;obtain ⟨z,hz⟩:=e4 j hj;by_cases ho:off+j=o
  ·refine ⟨y,?_⟩
   have hlt:o<ar.size:=by
    rw [← ho];rcases Nat.lt_or_ge (off+j) ar.size with g | g
    ·exact g
    ·rw [Array.getElem?_eq_none g] at hz; cases hz
   rw [ho];simp [hlt]
  ·refine ⟨z,?_⟩;rw [Array.getElem?_setIfInBounds_ne (Ne.symm ho)];exact hz
 ·exact ⟨B,off,cc,br,e1,e2,(Below.heap_setCell _ _ _ _ hB).trans e3,e4⟩
theorem Wr.below {w w':World} {base:Nat} {v:Value} {m n:Nat} (h:Wr w base v m n) (hb:Below w.heap.size w w'):Wr w' base v m n:=by
 obtain ⟨a,c,rfl,h1⟩:=h;refine ⟨a,c,rfl,fun hm=>?_⟩;obtain ⟨G,arr,rfl,hG,h2⟩:=h1 hm;refine ⟨G,arr,rfl,(hb.block G (zj hG)).trans hG,fun i hi=>?_⟩;obtain ⟨B,off,cc,br,e1,e2,e3,e4⟩:=h2 i hi;exact ⟨B,off,cc,br,e1,e2,(hb.block B (zj e3)).trans e3,e4⟩
theorem Wr.row {w:World} {base:Nat} {a:Option Addr} {m n c:Nat} (h:Wr w base (.slice a m c) m n) {i:Nat} (hi:i<m):∃ G A off cc ar,a=some ⟨G,0,none⟩∧w.cell? ⟨G,i,none⟩=some (.slice (some ⟨A,off,none⟩) n cc)∧base≤A∧w.heap[A]? = some (.cells ar 31 (0,0))∧∀ j,j<n→∃ y,w.cell? ⟨A,off+j,none⟩=some (.float .f64 y):=by
 obtain ⟨a',c',e,h1⟩:=h;simp only [Value.slice.injEq,true_and] at e;obtain ⟨rfl,rfl⟩:=e;obtain ⟨G,arr,rfl,hG,h2⟩:=h1 (by omega);obtain ⟨A,off,cc,ar,e1,e2,e3,e4⟩:=h2 i hi;exact ⟨G,A,off,cc,ar,rfl,by rw [zf hG]; exact e1,e2,e3,fun j hj=>by rw [zf e3]; exact e4 j hj⟩
set_option maxRecDepth 100000
set_option maxHeartbeats 16000000
theorem stepOwn_any (v0:Value) (S0:ShD) (st by_:Int) (w:World) (h0:ShAt w v0 S0) (_:-9223372036854775808≤st∧st≤9223372036854775807) (_:-9223372036854775808≤by_∧by_≤9223372036854775807) :
  Calls Tryz.prog 12 #[v0,.int .i64 st,.int .i64 by_] w fun e w'=>e=.returned (.bool true)∧Below w.heap.size w w':=by
 have H0:=hid h0;obtain ⟨hr,u1,u2,u3,rfl,h1,h2,h3⟩:=id h0;obtain ⟨a1,c1,rfl⟩:=h1.slice;obtain ⟨a2,c2,rfl⟩:=h2.slice;obtain ⟨a3,c3,rfl⟩:=h3.slice;have AL:=al1 w (.cells #[.int .i64 S0.n,.int .i64 S0.first,.int .i64 S0.least,.int .i64 S0.tol,.int .i64 S0.en,.slice a1 S0.ns.length c1,.slice a2 S0.ms.length c2,.slice a3 S0.outs.length c3,.bool S0.div] 24);clear hr h1 h2 h3 h0;go_enter Tryz.func12,Tryz.ntmps12;go_upto_region 1 with fail
 generalize w.alloc (.cells #[.int .i64 S0.n,.int .i64 S0.first,.int .i64 S0.least,.int .i64 S0.tol,.int .i64 S0.en,.slice a1 S0.ns.length c1,.slice a2 S0.ms.length c2,.slice a3 S0.outs.length c3,.bool S0.div] 24)=X at *;generalize hB:w.heap.size=B at *;obtain ⟨x1,x2,x3⟩:=AL;have SB:=hid (fun W (hW:Below X.heap.size X W)=>(hW.block B (by omega)).trans x1);have BX:=hid (fun W (hW:Below X.heap.size X W)=>(show Below B w W from x3.trans (hW.mono (by omega))));clear x1 x2 x3;go_wp2_with fail;refine (ke X).mono ?_;rintro e w1 ⟨rfl,hb1⟩;have HB1:=hid hb1;clear hb1
 go_wp2_with (first
  | (refine wpList_load_row rfl 24 _ rfl B rfl 24 #[.int .i64 S0.n,.int .i64 S0.first,.int .i64 S0.least,.int .i64 S0.tol,.int .i64 S0.en,.slice a1 S0.ns.length c1,.slice a2 S0.ms.length c2,.slice a3 S0.outs.length c3,.bool S0.div] _ _ (SB.out w1 HB1.out) Tryz.underlying24 rfl (by kernel_rfl) ?_)
  | fail)
 refine (kE S0.n S0.first S0.least S0.tol S0.en a1 a2 a3 S0.ns.length S0.ms.length S0.outs.length c1 c2 c3 S0.div w1).mono ?_;rintro e w2 ⟨rfl,hb2⟩;have HB2:=hid (HB1.out.trans (hb2.mono HB1.out.size));clear hb2 HB1;generalize (decide (S0.ns.length≤60)&&(decide (S0.ms.length≤60)&&decide (S0.outs.length≤60)))=fb at *;cases fb
 case false=>
  go_wp2_with fail;go_ret;exact ⟨rfl,hB ▸ BX.out _ HB2.out⟩
 go_wp2_with (first
  | (refine wpList_load_row rfl 24 _ rfl B rfl 24 #[.int .i64 S0.n,.int .i64 S0.first,.int .i64 S0.least,.int .i64 S0.tol,.int .i64 S0.en,.slice a1 S0.ns.length c1,.slice a2 S0.ms.length c2,.slice a3 S0.outs.length c3,.bool S0.div] _ _ (SB.out w2 HB2.out) Tryz.underlying24 rfl (by kernel_rfl) ?_)
  | fail)
 refine (mp S0 _ w2 (H0.out.below (hB ▸ BX.out w2 HB2.out))).mono ?_;rintro e w3 ⟨vo,vu,vb,vy,vt,rfl,hT,hY,hBx,hO,hb3⟩;obtain ⟨⟨ao,lo',co,rfl⟩,⟨au,lu,cu,rfl⟩⟩:=hT.slices;obtain ⟨ay,cy,rfl,-,-⟩:=id hY;obtain ⟨ab,cb,rfl,-,-⟩:=id hBx;obtain ⟨at',ct,rfl,-,-⟩:=id hO;have HB3:=hid (HB2.out.trans (hb3.mono HB2.out.size))
 have hN1:1≤shN S0∧shN S0≤3:=by
  have:=Int.emod_nonneg S0.n (show (3:Int)≠0 by decide);have:=Int.emod_lt_of_pos S0.n (show (0:Int)<3 by decide);unfold shN; omega
 have hTN:(shT S0).n=(shN S0:Nat):=by
  have:=Int.emod_nonneg S0.n (show (3:Int)≠0 by decide);show 1+S0.n % 3=((1+S0.n % 3).toNat:Int); omega
 have HCK:=hid (show yq (shT S0)=true from kR S0.n (fun i=>S0.ns.getD i 0) S0.ns.length S0.div);have HCS:=hid (show ∀ i,((shT S0).op i).c<18446744073709551616 from fun i=>opAt_c _ _ _ _);have HEN:=hid (show 1≤shE S0∧shE S0≤1073741824 from ⟨lV S0,kD S0⟩);have hLO:1≤tk (shL S0):=uZ _;have hKF:shK S0≤28:=by have:=Int.emod_lt_of_pos S0.first (show (0:Int)<13 by decide); unfold shK; omega
 have HTA:=hid hT;have HYA:=hid hY;have HTN:=hid hTN;clear hT hY hBx hO hb3 hTN HB2 H0;generalize shT S0=T at *;generalize shN S0=n at *;generalize shE S0=en at *;generalize tk (shL S0)=lo at *;generalize shK S0=kf at *;generalize shA S0=pa at *;generalize shR S0=pr at *;generalize shM S0=lt at *;have AL:=hid (al1 w3 (.cells #[.int .i64 n,.slice ao lo' co,.slice au lu cu,.slice ab n cb,.slice ay n cy,.int .i64 en,.int .i64 (tk kf),.int .i64 lo,.float .f64 pa,.float .f64 pr,.float .f64 4616189618054758400,.int .i64 24,.slice at' lt ct] 33));go_upto_region 6 with fail
 generalize w3.alloc (.cells #[.int .i64 n,.slice ao lo' co,.slice au lu cu,.slice ab n cb,.slice ay n cy,.int .i64 en,.int .i64 (tk kf),.int .i64 lo,.float .f64 pa,.float .f64 pr,.float .f64 4616189618054758400,.int .i64 24,.slice at' lt ct] 33)=Y at *;obtain ⟨Pp,hPp⟩:∃ P,w3.heap.size=P:=⟨_,rfl⟩;obtain ⟨y1,y2,y3⟩:=AL.out;have HTY:=hid (HTA.out.below y3);have HYY:=hid (HYA.out.below y3);rw [hPp] at y1 y2 y3;simp only [hPp];have HPY:=hid y1;have HBY:=hid (HB3.out.trans (y3.mono (by have:=HB3.out.size; omega)));have hPY:Pp<Y.heap.size:=by omega
 clear y1 y2 y3 AL HTA HYA HB3 hPp
 go_wp2_with (first
  | (refine wpList_load_row rfl 33 _ rfl Pp rfl 33 #[.int .i64 n,.slice ao lo' co,.slice au lu cu,.slice ab n cb,.slice ay n cy,.int .i64 en,.int .i64 (tk kf),.int .i64 lo,.float .f64 pa,.float .f64 pr,.float .f64 4616189618054758400,.int .i64 24,.slice at' lt ct] _ _ HPY.out Tryz.underlying33 rfl (by kernel_rfl) ?_)
  | fail)
 refine (kd n T _ _ _ _ _ _ en (tk kf) lo 24 pa pr _ Y HTY.out HYY.out HCK.out (fun i _=>HCS.out i) HTN.out hN1.1 (by omega)).mono ?_;rintro e Wb ⟨v,rfl,ho,hb4⟩;obtain ⟨az0,cz0,rfl⟩:=ho.shape;have AL:=hid (al1 Wb (.cells #[.int .i64 0,.int .i64 (tk kf),.int .i64 1,.int .i64 0,.slice az0 2 cz0,.int .i64 0,.int .i64 0,.int .i64 0] 39));have HO4:=hid ho;have HTB:=hid (HTY.out.below hb4);have HPB:=hid ((hb4.block Pp hPY).trans HPY.out);have HBB:=hid (HBY.out.trans (hb4.mono HBY.out.size));have hPB:Pp<Wb.heap.size:=Nat.lt_of_lt_of_le hPY hb4.size;clear ho hb4 HTY HPY HBY HYY;go_upto_region 7 with fail
 generalize Wb.alloc (.cells #[.int .i64 0,.int .i64 (tk kf),.int .i64 1,.int .i64 0,.slice az0 2 cz0,.int .i64 0,.int .i64 0,.int .i64 0] 39)=V0 at *;obtain ⟨Px,hPx⟩:∃ P,Wb.heap.size=P:=⟨_,rfl⟩;obtain ⟨y1,y2,y3⟩:=AL.out;have HZ0:=hid ((HO4.out.below y3).tabK (b0:=0) (by omega) (by omega));rw [hPx] at y1 y3;simp only [hPx];have HX0:=hid y1;have HBV:=hid y3;have hPpx:Pp<Px:=hPx ▸ hPB;have HPX:=hid hPx;clear y1 y2 y3 AL HO4 hPx;have s1:=Int.emod_nonneg st (show (8:Int)≠0 by decide);have s2:=Int.emod_lt_of_pos st (show (0:Int)<8 by decide);have WS:=hid (fun W=>wU st 8 W (by decide) (by decide));generalize st % 8=sm at *
 go_upto_block 0 with fail
 go_cut [] (fun wx=>∃ (j:Nat) (s:Sol) (az:Option Addr) (cz:Nat),j≤100∧v8 j lo s∧wx.heap[Px]? = some (.cells #[.int .i64 s.at_,.int .i64 (tk s.k),.int .i64 s.q,.int .i64 s.M,.slice az (s.q+1) cz,.int .i64 s.good,.int .i64 s.fails,.int .i64 s.slow] 39)∧wi 0 wx (.slice az (s.q+1) cz) (s.q+1) n s.z∧Below Px Wb wx)
 case first=>
  go_wp2_with fail
  go_loopw [9] (fun i wr=>∃ (j:Nat) (s:Sol) (az:Option Addr) (cz:Nat),j≤sm.toNat∧i=.int .i64 j∧v8 j lo s∧wr.heap[Px]? = some (.cells #[.int .i64 s.at_,.int .i64 (tk s.k),.int .i64 s.q,.int .i64 s.M,.slice az (s.q+1) cz,.int .i64 s.good,.int .i64 s.fails,.int .i64 s.slow] 39)∧wi 0 wr (.slice az (s.q+1) cz) (s.q+1) n s.z∧Below Px Wb wr) (fun i _=>sm.toNat-(intOf i).toNat)
  case atStart=>exact ⟨0,⟨0,kf,1,0,xq T (uV S0.ms) (xh (tk kf)),0,0,0⟩,az0,cz0,by omega,rfl,⟨Nat.le_refl 1,by show 1+0≤5; omega,by show kf≤32; omega,by show 0<2; omega,hLO,⟨Int.le_refl 0,by show (0:Int)≤((0:Nat):Int)*4294967296; decide⟩,⟨Int.le_refl 0,Int.le_refl 0⟩,⟨Int.le_refl 0,by show (0:Int)≤2; decide⟩,⟨Int.le_refl 0,by show (0:Int)≤1; decide⟩⟩,HX0.out,HZ0.out,HBV.out⟩
  case round=>
   clear HZ0 HX0 HBV;obtain ⟨j,s,az,cz,hj,rfl,hs,hx,hz,hb⟩:=hrel;have HPW:=hid ((hb.block Pp hPpx).trans HPB.out);have HXW:=hid hx;have hXw:=zj hx;have hPw:Pp<wr.heap.size:=by omega
   have HBW:=hid hb;have HZW:=hid hz;have HSA:=hid hs;clear hx hz hb;by_cases hjm:(j:Int)<sm
   ·have hj24:j≤1000:=by omega
    have HOK:=hid (hs.ok hj24);have hTW:=(HTB.out.below (HPX.out ▸ HBW.out))
    have HNX:=hid (try_at hs (show en≤2147483648 by have:=HEN.out; omega) T n pa pr);have RR:=hid ((rtry_any n 0 T (.slice ao lo' co) (.slice au lu cu) (.slice ab n cb) (.slice ay n cy) (.slice at' lt ct) _ en (tk kf) lo 24 pa pr 4616189618054758400 s wr hTW (Nat.zero_le _) HZW.out HOK.out HCK.out HCS.out HTN.out hN1.1 (by omega)).mono fun e w' h=>h.two);clear hTW hs HOK hj24;generalize uG T n pa pr lo en s=R at *;go_wp2_with fail;refine (WS.out _).mono ?_;rintro e w' ⟨rfl,rfl⟩
    go_wp2_with (first
     | (refine wpList_load_row rfl 33 _ rfl Pp rfl 33 #[.int .i64 n,.slice ao lo' co,.slice au lu cu,.slice ab n cb,.slice ay n cy,.int .i64 en,.int .i64 (tk kf),.int .i64 lo,.float .f64 pa,.float .f64 pr,.float .f64 4616189618054758400,.int .i64 24,.slice at' lt ct] _ _ HPW.out Tryz.underlying33 rfl (by kernel_rfl) ?_)
     | (refine wpList_load_row rfl 39 _ rfl Px rfl 39 #[.int .i64 s.at_,.int .i64 (tk s.k),.int .i64 s.q,.int .i64 s.M,.slice az (s.q+1) cz,.int .i64 s.good,.int .i64 s.fails,.int .i64 s.slow] _ _ HXW.out Tryz.underlying39 rfl (by kernel_rfl) ?_)
     | fail)
    refine RR.out.mono ?_;rintro e wd ⟨hbd,g1,f1,g2,f2,y2,rfl,hy2,-,ht6,hn6⟩;have AL:=al1 wd (.cells #[.int .i64 0,.int .i64 0,.int .i64 0,.int .i64 0,.slice none 0 0,.int .i64 0,.int .i64 0,.int .i64 0,.int .i64 0,.int .i64 0,.int .i64 0,.int .i64 0,.slice none 0 0,.bool false,.float .f64 0,.int .i64 0] 49);have hrow:=yx AL.1 #[.int .i64 R.S.at_,.int .i64 (tk R.S.k),.int .i64 R.S.q,.int .i64 R.S.M,.slice g1 (R.S.q+1) f1,.int .i64 R.S.good,.int .i64 R.S.fails,.int .i64 R.S.slow,.int .i64 R.N.at_,.int .i64 R.N.st,.int .i64 R.N.q,.int .i64 R.N.M,.slice g2 R.N.rows f2,.bool R.took,.float .f64 y2,.int .i64 R.e];have hbW:Below wd.heap.size wd ((wd.alloc (.cells #[.int .i64 0,.int .i64 0,.int .i64 0,.int .i64 0,.slice none 0 0,.int .i64 0,.int .i64 0,.int .i64 0,.int .i64 0,.int .i64 0,.int .i64 0,.int .i64 0,.slice none 0 0,.bool false,.float .f64 0,.int .i64 0] 49)).setRow wd.heap.size #[.int .i64 R.S.at_,.int .i64 (tk R.S.k),.int .i64 R.S.q,.int .i64 R.S.M,.slice g1 (R.S.q+1) f1,.int .i64 R.S.good,.int .i64 R.S.fails,.int .i64 R.S.slow,.int .i64 R.N.at_,.int .i64 R.N.st,.int .i64 R.N.q,.int .i64 R.N.M,.slice g2 R.N.rows f2,.bool R.took,.float .f64 y2,.int .i64 R.e]):=hrow.1.below AL.2.2 (Nat.le_refl _) (by have:=AL.2.1; omega);have hpp:=hrow.2.1
    go_upto_region 11 with (first
     | (refine wpList_store_row rfl 49 _ _ rfl wd.heap.size #[.int .i64 R.S.at_,.int .i64 (tk R.S.k),.int .i64 R.S.q,.int .i64 R.S.M,.slice g1 (R.S.q+1) f1,.int .i64 R.S.good,.int .i64 R.S.fails,.int .i64 R.S.slow,.int .i64 R.N.at_,.int .i64 R.N.st,.int .i64 R.N.q,.int .i64 R.N.M,.slice g2 R.N.rows f2,.bool R.took,.float .f64 y2,.int .i64 R.e] rfl rfl 49 _ AL.1 (by kernel_rfl) rfl (by simp [Value.oneCell']) ?_)
     | fail)
    clear hrow AL;generalize (wd.alloc (.cells #[.int .i64 0,.int .i64 0,.int .i64 0,.int .i64 0,.slice none 0 0,.int .i64 0,.int .i64 0,.int .i64 0,.int .i64 0,.int .i64 0,.int .i64 0,.int .i64 0,.slice none 0 0,.bool false,.float .f64 0,.int .i64 0] 49)).setRow wd.heap.size #[.int .i64 R.S.at_,.int .i64 (tk R.S.k),.int .i64 R.S.q,.int .i64 R.S.M,.slice g1 (R.S.q+1) f1,.int .i64 R.S.good,.int .i64 R.S.fails,.int .i64 R.S.slow,.int .i64 R.N.at_,.int .i64 R.N.st,.int .i64 R.N.q,.int .i64 R.N.M,.slice g2 R.N.rows f2,.bool R.took,.float .f64 y2,.int .i64 R.e]=wq at *;have hba:=hbd.trans (hbW.mono hbd.size);have HT6:=hid (ht6.below hbW);have HBC:=hid hba;have HP8:=hid hpp;obtain ⟨P8,hP8⟩:∃ P,wd.heap.size=P:=⟨_,rfl⟩;rw [hP8] at HP8;simp only [hP8,Act.put];have HCX:=hid ((HBC.out.block Px hXw).trans HXW.out);clear hpp hba hbW ht6 hn6 hbd hP8 RR;have e15:=(yw HP8.out).2.2.2.2.2.2.2.2;by_cases hE:R.e=0
    ·have hE2:(R.e != 0)=false:=by simp [hE]
     go_wp2_with (first
      | (refine wpList_load_mid rfl 39 _ rfl P8 0 rfl [.int .i64 R.S.at_,.int .i64 (tk R.S.k),.int .i64 R.S.q,.int .i64 R.S.M,.slice g1 (R.S.q+1) f1,.int .i64 R.S.good,.int .i64 R.S.fails,.int .i64 R.S.slow] _ (World.rangeAt_of_block HP8.out 0 8) Tryz.underlying39 rfl (by kernel_rfl) ?_)
      | (refine wpList_store_row rfl 39 _ _ rfl Px #[.int .i64 R.S.at_,.int .i64 (tk R.S.k),.int .i64 R.S.q,.int .i64 R.S.M,.slice g1 (R.S.q+1) f1,.int .i64 R.S.good,.int .i64 R.S.fails,.int .i64 R.S.slow] rfl rfl 39 _ HCX.out (by kernel_rfl) rfl (by simp [Value.oneCell']) ?_)
      | fail)
     have hrow:=yx HCX.out #[.int .i64 R.S.at_,.int .i64 (tk R.S.k),.int .i64 R.S.q,.int .i64 R.S.M,.slice g1 (R.S.q+1) f1,.int .i64 R.S.good,.int .i64 R.S.fails,.int .i64 R.S.slow];refine ⟨⟨j+1,R.S,g1,f1,by omega,by go_num,HNX.out,hrow.2.1,HT6.out.place HCX.out hrow.1,hrow.1.below (HBW.out.trans (HBC.out.mono (by have:=HBW.out.size; omega))) (Nat.le_refl _) (by have:=HBC.out.size; omega)⟩,?_⟩;simp only [intOf];omega
    ·have hE2:(R.e != 0)=true:=by simp [hE]
     go_wp2_with fail;go_meet;exact ⟨j,s,az,cz,by omega,HSA.out,HCX.out,HZW.out.below HBC.out,HBW.out.trans (HBC.out.mono (by have:=HBW.out.size; omega))⟩
   ·have k2:¬ (j:Int)<sm:=hjm;go_wp2_with fail;refine (WS.out _).mono ?_;rintro e w' ⟨rfl,rfl⟩;go_wp2_with fail;go_meet;exact ⟨j,s,az,cz,by omega,HSA.out,HXW.out,HZW.out,HBW.out⟩
 case rest=>
  clear HZ0 HX0 HBV;obtain ⟨j,s,az,cz,hj,hs,hx,hz,hb⟩:=hcut;have HPC:=hid ((hb.block Pp hPpx).trans HPB.out);have HXC:=hid hx;have hXw:=zj hx;have hPw:Pp<wc.heap.size:=by omega
  have HBW:=hid hb;have HZW:=hid hz;have HSA:=hid hs;have HOK:=hid (hs.ok (by omega));have HTW:=hid (HTB.out.below (HPX.out ▸ hb));have hq6:s.q≤5:=by have:=hs.q5; omega
  have hq1:=hs.q1;have HNX:=hid (try_at hs (show en≤2147483648 by have:=HEN.out; omega) T n pa pr);have hRq:(uG T n pa pr lo en s).S.q≤10:=by have:=HNX.out.q5; omega
  have hRr:(uG T n pa pr lo en s).N.rows≤10:=by have:=kF T n pa pr lo en s; omega
  clear hx hz hb hs
  go_wp2_with (first
   | (refine wpList_load_row rfl 39 _ rfl Px rfl 39 #[.int .i64 s.at_,.int .i64 (tk s.k),.int .i64 s.q,.int .i64 s.M,.slice az (s.q+1) cz,.int .i64 s.good,.int .i64 s.fails,.int .i64 s.slow] _ _ HXC.out Tryz.underlying39 rfl (by kernel_rfl) ?_)
   | fail)
  refine (as_tells n s.q s.at_ (tk s.k) s.good s.fails s.slow s.M _ s.z hq1 hq6 hN1.1 (by omega) wc HZW.out.tab).mono ?_;rintro e w1 ⟨v,rfl,ho,hb1⟩;obtain ⟨av,cv,rfl⟩:=ho.shape;have AL:=al1 w1 (.cells #[.int .i64 0,.int .i64 0,.int .i64 0,.int .i64 0,.slice none 0 0,.int .i64 0,.int .i64 0,.int .i64 0] 42);have hrow:=yx AL.1 #[.int .i64 s.at_,.int .i64 (tk s.k),.int .i64 s.q,.int .i64 s.M,.slice av (s.q+1) cv,.int .i64 s.good,.int .i64 s.fails,.int .i64 s.slow];have hbW:Below w1.heap.size w1 ((w1.alloc (.cells #[.int .i64 0,.int .i64 0,.int .i64 0,.int .i64 0,.slice none 0 0,.int .i64 0,.int .i64 0,.int .i64 0] 42)).setRow w1.heap.size #[.int .i64 s.at_,.int .i64 (tk s.k),.int .i64 s.q,.int .i64 s.M,.slice av (s.q+1) cv,.int .i64 s.good,.int .i64 s.fails,.int .i64 s.slow]):=hrow.1.below AL.2.2 (Nat.le_refl _) (by have:=AL.2.1; omega);have hpp:=hrow.2.1
  go_upto_region 14 with (first
   | (refine wpList_store_row rfl 42 _ _ rfl w1.heap.size #[.int .i64 s.at_,.int .i64 (tk s.k),.int .i64 s.q,.int .i64 s.M,.slice av (s.q+1) cv,.int .i64 s.good,.int .i64 s.fails,.int .i64 s.slow] rfl rfl 42 _ AL.1 (by kernel_rfl) rfl (by simp [Value.oneCell']) ?_)
   | fail)
  clear hrow AL;generalize (w1.alloc (.cells #[.int .i64 0,.int .i64 0,.int .i64 0,.int .i64 0,.slice none 0 0,.int .i64 0,.int .i64 0,.int .i64 0] 42)).setRow w1.heap.size #[.int .i64 s.at_,.int .i64 (tk s.k),.int .i64 s.q,.int .i64 s.M,.slice av (s.q+1) cv,.int .i64 s.good,.int .i64 s.fails,.int .i64 s.slow]=W2 at *;obtain ⟨Py,hPy⟩:∃ P,w1.heap.size=P:=⟨_,rfl⟩;have HYO:=hid (ho.below hbW);have HB2:=hid (hb1.trans (hbW.mono hb1.size));rw [hPy] at hpp;have HPY:=hid hpp;simp only [hPy,Act.put];clear hpp hbW ho hb1 hPy
  replace HPC:=hid ((HB2.out.block Pp hPw).trans HPC.out)
  replace HXC:=hid ((HB2.out.block Px hXw).trans HXC.out)
  go_wp2_with (first
   | (refine wpList_load_row rfl 33 _ rfl Pp rfl 33 #[.int .i64 n,.slice ao lo' co,.slice au lu cu,.slice ab n cb,.slice ay n cy,.int .i64 en,.int .i64 (tk kf),.int .i64 lo,.float .f64 pa,.float .f64 pr,.float .f64 4616189618054758400,.int .i64 24,.slice at' lt ct] _ _ HPC.out Tryz.underlying33 rfl (by kernel_rfl) ?_)
   | (refine wpList_load_row rfl 42 _ rfl Py rfl 42 #[.int .i64 s.at_,.int .i64 (tk s.k),.int .i64 s.q,.int .i64 s.M,.slice av (s.q+1) cv,.int .i64 s.good,.int .i64 s.fails,.int .i64 s.slow] _ _ HPY.out Tryz.underlying42 rfl (by kernel_rfl) ?_)
   | fail)
  refine (lR n T (.slice ao lo' co) (.slice au lu cu) (.slice ab n cb) (.slice ay n cy) (.slice at' lt ct) _ en (tk kf) lo 24 pa pr 4616189618054758400 s W2 (HTW.out.below HB2.out) (HYO.out.tab (by omega) (by omega)) HOK.out HCK.out HCS.out HTN.out hN1.1 (by omega)).mono ?_;rintro e w3 h;obtain ⟨hb3,vz,vn,y1,rfl,hq1c,-,h3,h4,h5⟩:=h;generalize hR:uG T n pa pr lo en s=R at *;obtain ⟨adrA,capA,rfl⟩:=h3.shape
  obtain ⟨an,cn,rfl,hwn⟩:∃ an cn,vn=.slice an R.N.rows cn∧Wr w3 W2.heap.size (.slice an R.N.rows cn) R.N.rows n:=by
   rcases Nat.eq_zero_or_pos R.N.rows with h0 | h0
   ·rw [h5 h0,h0];exact ⟨none,0,rfl,none,0,rfl,fun h=>absurd h (Nat.lt_irrefl 0)⟩
   ·obtain ⟨a,c,e⟩:=(h4 h0).shape;exact ⟨a,c,e,e ▸ (h4 h0).wr⟩
  have AL:=al1 w3 (.cells #[.int .i64 0,.int .i64 0,.int .i64 0,.int .i64 0,.slice none 0 0,.int .i64 0,.int .i64 0,.int .i64 0,.int .i64 0,.int .i64 0,.int .i64 0,.int .i64 0,.slice none 0 0,.bool false,.float .f64 0,.int .i64 0] 45);have hrow:=yx AL.1 #[.int .i64 R.S.at_,.int .i64 (tk R.S.k),.int .i64 R.S.q,.int .i64 R.S.M,.slice adrA (R.S.q+1) capA,.int .i64 R.S.good,.int .i64 R.S.fails,.int .i64 R.S.slow,.int .i64 R.N.at_,.int .i64 R.N.st,.int .i64 R.N.q,.int .i64 R.N.M,.slice an R.N.rows cn,.bool R.took,.float .f64 y1,.int .i64 R.e];have hbW:Below w3.heap.size w3 ((w3.alloc (.cells #[.int .i64 0,.int .i64 0,.int .i64 0,.int .i64 0,.slice none 0 0,.int .i64 0,.int .i64 0,.int .i64 0,.int .i64 0,.int .i64 0,.int .i64 0,.int .i64 0,.slice none 0 0,.bool false,.float .f64 0,.int .i64 0] 45)).setRow w3.heap.size #[.int .i64 R.S.at_,.int .i64 (tk R.S.k),.int .i64 R.S.q,.int .i64 R.S.M,.slice adrA (R.S.q+1) capA,.int .i64 R.S.good,.int .i64 R.S.fails,.int .i64 R.S.slow,.int .i64 R.N.at_,.int .i64 R.N.st,.int .i64 R.N.q,.int .i64 R.N.M,.slice an R.N.rows cn,.bool R.took,.float .f64 y1,.int .i64 R.e]):=hrow.1.below AL.2.2 (Nat.le_refl _) (by have:=AL.2.1; omega);have hpp:=hrow.2.1
  go_upto_region 15 with (first
   | (refine wpList_store_row rfl 45 _ _ rfl w3.heap.size #[.int .i64 R.S.at_,.int .i64 (tk R.S.k),.int .i64 R.S.q,.int .i64 R.S.M,.slice adrA (R.S.q+1) capA,.int .i64 R.S.good,.int .i64 R.S.fails,.int .i64 R.S.slow,.int .i64 R.N.at_,.int .i64 R.N.st,.int .i64 R.N.q,.int .i64 R.N.M,.slice an R.N.rows cn,.bool R.took,.float .f64 y1,.int .i64 R.e] rfl rfl 45 _ AL.1 (by kernel_rfl) rfl (by simp [Value.oneCell']) ?_)
   | fail)
  clear hrow AL;generalize (w3.alloc (.cells #[.int .i64 0,.int .i64 0,.int .i64 0,.int .i64 0,.slice none 0 0,.int .i64 0,.int .i64 0,.int .i64 0,.int .i64 0,.int .i64 0,.int .i64 0,.int .i64 0,.slice none 0 0,.bool false,.float .f64 0,.int .i64 0] 45)).setRow w3.heap.size #[.int .i64 R.S.at_,.int .i64 (tk R.S.k),.int .i64 R.S.q,.int .i64 R.S.M,.slice adrA (R.S.q+1) capA,.int .i64 R.S.good,.int .i64 R.S.fails,.int .i64 R.S.slow,.int .i64 R.N.at_,.int .i64 R.N.st,.int .i64 R.N.q,.int .i64 R.N.M,.slice an R.N.rows cn,.bool R.took,.float .f64 y1,.int .i64 R.e]=W4 at *;obtain ⟨Pa,hPa⟩:∃ P,w3.heap.size=P:=⟨_,rfl⟩;have HW1:=hid (h3.wr.below hbW);have HW2:=hid (hwn.below hbW);have HB4:=hid (hb3.trans (hbW.mono hb3.size));rw [hPa] at hpp;have HPA:=hid hpp;simp only [hPa,Act.put];have HR:=hid hR;clear hpp hbW h3 h4 h5 hwn hb3 hPa hq1c hR;go_wp2_with fail
  go_loopw [13] (fun i wr=>∃ k:Nat,k≤(R.S.q+1)∧i=.int .i64 k∧Below W2.heap.size W2 wr∧wr.heap[Pa]? = some (.cells #[.int .i64 R.S.at_,.int .i64 (tk R.S.k),.int .i64 R.S.q,.int .i64 R.S.M,.slice adrA (R.S.q+1) capA,.int .i64 R.S.good,.int .i64 R.S.fails,.int .i64 R.S.slow,.int .i64 R.N.at_,.int .i64 R.N.st,.int .i64 R.N.q,.int .i64 R.N.M,.slice an R.N.rows cn,.bool R.took,.float .f64 y1,.int .i64 R.e] 45)∧Wr wr W2.heap.size (.slice adrA (R.S.q+1) capA) (R.S.q+1) n∧Wr wr W2.heap.size (.slice an R.N.rows cn) R.N.rows n) (fun i _=>(R.S.q+1)-(intOf i).toNat)
  case atStart=>exact ⟨0,by omega,rfl,HB4.out,HPA.out,HW1.out,HW2.out⟩
  case round=>
   obtain ⟨k,hk,rfl,hb,hpa,hw1,hw2⟩:=hrel;have HB5:=hid hb;have HP5:=hid hpa;have HU1:=hid hw1;have HU2:=hid hw2;clear hb hpa hw1 hw2;have kaC:=zf HP5.out 4;simp only [List.getElem?_toArray,List.getElem?_cons_zero,List.getElem?_cons_succ] at kaC;by_cases hkm:k<(R.S.q+1)
   ·have j1:(k:Int)<(((R.S.q+1):Nat):Int):=by omega
    go_wp2_with fail;clear kaC
    go_loopw [14] (fun i wr=>∃ d:Nat,d≤n∧i=.int .i64 d∧Below W2.heap.size W2 wr∧wr.heap[Pa]? = some (.cells #[.int .i64 R.S.at_,.int .i64 (tk R.S.k),.int .i64 R.S.q,.int .i64 R.S.M,.slice adrA (R.S.q+1) capA,.int .i64 R.S.good,.int .i64 R.S.fails,.int .i64 R.S.slow,.int .i64 R.N.at_,.int .i64 R.N.st,.int .i64 R.N.q,.int .i64 R.N.M,.slice an R.N.rows cn,.bool R.took,.float .f64 y1,.int .i64 R.e] 45)∧Wr wr W2.heap.size (.slice adrA (R.S.q+1) capA) (R.S.q+1) n∧Wr wr W2.heap.size (.slice an R.N.rows cn) R.N.rows n) (fun i _=>n-(intOf i).toNat)
    case atStart=>exact ⟨0,by omega,rfl,HB5.out,HP5.out,HU1.out,HU2.out⟩
    case round=>
     clear HB5 HP5 HU1 HU2;obtain ⟨d,hd,rfl,hb,hpa,hw1,hw2⟩:=hrel;have HB5:=hid hb;have HP5:=hid hpa;have HU1:=hid hw1;have HU2:=hid hw2;clear hb hpa hw1 hw2;have kaC:=zf HP5.out 4;simp only [List.getElem?_toArray,List.getElem?_cons_zero,List.getElem?_cons_succ] at kaC;obtain ⟨G,A,off,cc,ar,hv,hG,hA1,hA2,hA3⟩:=HU1.out.row hkm;by_cases hdn:d<n
     ·have j2:(d:Int)<(n:Int):=by omega
      obtain ⟨y0,hy0⟩:=hA3 d hdn;have hfz:=zg hA2 (off+d);have HAR:=hid hA2;rw [hv] at kaC;clear hA3 hA2;go_wp2_with fail
      go_roundw
      case rel=>exact ⟨d+1,by omega,by go_num,HB5.out.setCell (p:=⟨A,off+d,none⟩) hA1 _,(Below.heap_setCell _ _ _ _ (sh HP5.out HAR.out (by decide))).trans HP5.out,HU1.out.write HAR.out,HU2.out.write HAR.out⟩
      case measure=>simp [intOf]; omega
     ·obtain rfl:d=n:=by omega
      rw [hv] at kaC;clear hA3 hA2;go_wp2_with fail
      go_roundw
      case rel=>exact ⟨k+1,by omega,by go_num,HB5.out,HP5.out,HU1.out,HU2.out⟩
      case measure=>simp [intOf]; omega
   ·obtain rfl:k=R.S.q+1:=by omega
    go_wp2_with fail;have HB4:=HB5;have HPA:=HP5;have HW1:=HU1;have HW2:=HU2
    go_loopw [15] (fun i wr=>∃ k:Nat,k≤R.N.rows∧i=.int .i64 k∧Below W2.heap.size W2 wr∧wr.heap[Pa]? = some (.cells #[.int .i64 R.S.at_,.int .i64 (tk R.S.k),.int .i64 R.S.q,.int .i64 R.S.M,.slice adrA (R.S.q+1) capA,.int .i64 R.S.good,.int .i64 R.S.fails,.int .i64 R.S.slow,.int .i64 R.N.at_,.int .i64 R.N.st,.int .i64 R.N.q,.int .i64 R.N.M,.slice an R.N.rows cn,.bool R.took,.float .f64 y1,.int .i64 R.e] 45)∧Wr wr W2.heap.size (.slice adrA (R.S.q+1) capA) (R.S.q+1) n∧Wr wr W2.heap.size (.slice an R.N.rows cn) R.N.rows n) (fun i _=>R.N.rows-(intOf i).toNat)
    case atStart=>exact ⟨0,by omega,rfl,HB4.out,HPA.out,HW1.out,HW2.out⟩
    case round=>
     obtain ⟨k,hk,rfl,hb,hpa,hw1,hw2⟩:=hrel;have HB5:=hid hb;have HP5:=hid hpa;have HU1:=hid hw1;have HU2:=hid hw2;clear hb hpa hw1 hw2;have kaC:=zf HP5.out 12;simp only [List.getElem?_toArray,List.getElem?_cons_zero,List.getElem?_cons_succ] at kaC;by_cases hkm:k<R.N.rows
     ·have j1:(k:Int)<((R.N.rows:Nat):Int):=by omega
      go_wp2_with fail;clear kaC
      go_loopw [16] (fun i wr=>∃ d:Nat,d≤n∧i=.int .i64 d∧Below W2.heap.size W2 wr∧wr.heap[Pa]? = some (.cells #[.int .i64 R.S.at_,.int .i64 (tk R.S.k),.int .i64 R.S.q,.int .i64 R.S.M,.slice adrA (R.S.q+1) capA,.int .i64 R.S.good,.int .i64 R.S.fails,.int .i64 R.S.slow,.int .i64 R.N.at_,.int .i64 R.N.st,.int .i64 R.N.q,.int .i64 R.N.M,.slice an R.N.rows cn,.bool R.took,.float .f64 y1,.int .i64 R.e] 45)∧Wr wr W2.heap.size (.slice adrA (R.S.q+1) capA) (R.S.q+1) n∧Wr wr W2.heap.size (.slice an R.N.rows cn) R.N.rows n) (fun i _=>n-(intOf i).toNat)
      case atStart=>exact ⟨0,by omega,rfl,HB5.out,HP5.out,HU1.out,HU2.out⟩
      case round=>
       clear HB5 HP5 HU1 HU2;obtain ⟨d,hd,rfl,hb,hpa,hw1,hw2⟩:=hrel;have HB5:=hid hb;have HP5:=hid hpa;have HU1:=hid hw1;have HU2:=hid hw2;clear hb hpa hw1 hw2;have kaC:=zf HP5.out 12;simp only [List.getElem?_toArray,List.getElem?_cons_zero,List.getElem?_cons_succ] at kaC;obtain ⟨G,A,off,cc,ar,hv,hG,hA1,hA2,hA3⟩:=HU2.out.row hkm;by_cases hdn:d<n
       ·have j2:(d:Int)<(n:Int):=by omega
        obtain ⟨y0,hy0⟩:=hA3 d hdn;have hfz:=zg hA2 (off+d);have HAR:=hid hA2;rw [hv] at kaC;clear hA3 hA2;go_wp2_with fail
        go_roundw
        case rel=>exact ⟨d+1,by omega,by go_num,HB5.out.setCell (p:=⟨A,off+d,none⟩) hA1 _,(Below.heap_setCell _ _ _ _ (sh HP5.out HAR.out (by decide))).trans HP5.out,HU1.out.write HAR.out,HU2.out.write HAR.out⟩
        case measure=>simp [intOf]; omega
       ·obtain rfl:d=n:=by omega
        rw [hv] at kaC;clear hA3 hA2;go_wp2_with fail
        go_roundw
        case rel=>exact ⟨k+1,by omega,by go_num,HB5.out,HP5.out,HU1.out,HU2.out⟩
        case measure=>simp [intOf]; omega
     ·obtain rfl:k=R.N.rows:=by omega
      go_wp2_with fail;have hbz:=HB5.out;have l2:=HB2.out.size;have l5:=hbz.size;have lp:=zj HPC.out;have lx:=zj HXC.out;have ly:=zj HPY.out;obtain ⟨y0,y1',y2,y3,y4,y5,y6,y7⟩:=zO ((hbz.block Py ly).trans HPY.out);obtain ⟨x0,x1,x2,x3,x4,x5,x6,x7⟩:=zO ((hbz.block Px lx).trans HXC.out);obtain ⟨p0,p1,p2,p3,p4,p5,p6,p7,p8,p9,p10,p11,p12⟩:=yn ((hbz.block Pp lp).trans HPC.out);have HYT:=hid (((HYO.out.below hbz).tab (by omega) (by omega)));have HZK:=hid ((HZW.out.below HB2.out).below hbz);have HTZ:=hid ((HTW.out.below HB2.out).below hbz);have TRq:=hid (fun W (hW:Below wr.heap.size wr W)=>(lR n T (.slice ao lo' co) (.slice au lu cu) (.slice ab n cb) (.slice ay n cy) (.slice at' lt ct) (.slice av (s.q+1) cv) en (tk kf) lo 24 pa pr 4616189618054758400 s W (HTZ.out.below hW) (HYT.out.below hW) HOK.out HCK.out HCS.out HTN.out hN1.1 (by omega)));have RRq:=hid (fun W (hW:Below wr.heap.size wr W)=>(rtry_any n 0 T (.slice ao lo' co) (.slice au lu cu) (.slice ab n cb) (.slice ay n cy) (.slice at' lt ct) (.slice az (s.q+1) cz) en (tk kf) lo 24 pa pr 4616189618054758400 s W (HTZ.out.below hW) (Nat.zero_le _) (HZK.out.below hW) HOK.out HCK.out HCS.out HTN.out hN1.1 (by omega)));simp only [HR.out] at TRq RRq
      replace lp:=Nat.lt_of_lt_of_le lp l5
      replace lx:=Nat.lt_of_lt_of_le lx l5
      replace ly:=Nat.lt_of_lt_of_le ly l5
      clear kaC hbz HP5 HU1 HU2;refine zv [(0,3),(2,3),(1,0),(3,0),(4,1),(5,3),(6,3),(8,3),(9,3),(7,0),(10,0),(11,0),(12,1),(13,1)] (fun W=>Below wr.heap.size wr W) (by kernel_rfl) (by kernel_rfl) (fun _ _ d _ _ h=>by cases d<;>exact h) ((Below.refl _ _).drew) ?_;intro Z hZ hbZ;clear hZ;refine zh (v:=.agg #[.int .i64 s.at_,.int .i64 (tk s.k),.int .i64 s.q,.int .i64 s.M,.slice av (s.q+1) cv,.int .i64 s.good,.int .i64 s.fails,.int .i64 s.slow]) rfl rfl (fun wk hwk=>?_) ?_
      ·rw [← (zA hwk).1 _ _ ly] at y0 y1' y2 y3 y4 y5 y6 y7;go_simp
      refine zh (v:=.agg #[.int .i64 s.at_,.int .i64 (tk s.k),.int .i64 s.q,.int .i64 s.M,.slice az (s.q+1) cz,.int .i64 s.good,.int .i64 s.fails,.int .i64 s.slow]) rfl rfl (fun wk hwk=>?_) ?_
      ·rw [← (zA hwk).1 _ _ lx] at x0 x1 x2 x3 x4 x5 x6 x7;go_simp
      refine zm (fun K hK=>?_);go_simp;refine (nh s.at_ (tk s.k) s.q s.M s.good s.fails s.slow av (s.q+1) cv Z).mono ?_;rintro e' w6 ⟨rfl,hb6⟩;have hbA:=hbZ.trans (hb6.mono hbZ.size);refine hK _ _ (fun h=>Bool.noConfusion (Eq.trans (Eq.symm (by kernel_rfl:_=false)) h)) (fun _=>hbA) ?_;clear hK K;refine zm (fun K hK=>?_);go_simp;refine (rk s.at_ (tk s.k) s.q s.M s.good s.fails s.slow _ _ (s.q+1) n s.z w6 (HYT.out.below hbA) (HZK.out.below hbA).tab).mono ?_;rintro e' w7 ⟨rfl,hb7⟩;have hbB:=hbA.trans (hb7.mono hbA.size);refine hK _ _ (fun h=>Bool.noConfusion (Eq.trans (Eq.symm (by kernel_rfl:_=false)) h)) (fun _=>hbB) ?_;clear hK K
      iterate 1
       first
        | refine zd (fun K hK=>?_)
        | refine ze (fun K hK=>?_)
       go_simp;refine hK _ ?_;clear hK K
      refine zh (v:=.agg #[.int .i64 n,.slice ao lo' co,.slice au lu cu,.slice ab n cb,.slice ay n cy,.int .i64 en,.int .i64 (tk kf),.int .i64 lo,.float .f64 pa,.float .f64 pr,.float .f64 4616189618054758400,.int .i64 24,.slice at' lt ct]) rfl rfl (fun wk hwk=>?_) ?_
      ·rw [← (zA hwk).1 _ _ lp] at p0 p1 p2 p3 p4 p5 p6 p7 p8 p9 p10 p11 p12;go_simp
      refine zh (v:=.agg #[.int .i64 s.at_,.int .i64 (tk s.k),.int .i64 s.q,.int .i64 s.M,.slice av (s.q+1) cv,.int .i64 s.good,.int .i64 s.fails,.int .i64 s.slow]) rfl rfl (fun wk hwk=>?_) ?_
      ·rw [← (zA hwk).1 _ _ ly] at y0 y1' y2 y3 y4 y5 y6 y7;go_simp
      refine zh (v:=.agg #[.int .i64 n,.slice ao lo' co,.slice au lu cu,.slice ab n cb,.slice ay n cy,.int .i64 en,.int .i64 (tk kf),.int .i64 lo,.float .f64 pa,.float .f64 pr,.float .f64 4616189618054758400,.int .i64 24,.slice at' lt ct]) rfl rfl (fun wk hwk=>?_) ?_
      ·rw [← (zA hwk).1 _ _ lp] at p0 p1 p2 p3 p4 p5 p6 p7 p8 p9 p10 p11 p12;go_simp
      refine zh (v:=.agg #[.int .i64 s.at_,.int .i64 (tk s.k),.int .i64 s.q,.int .i64 s.M,.slice az (s.q+1) cz,.int .i64 s.good,.int .i64 s.fails,.int .i64 s.slow]) rfl rfl (fun wk hwk=>?_) ?_
      ·rw [← (zA hwk).1 _ _ lx] at x0 x1 x2 x3 x4 x5 x6 x7;go_simp
      refine zm (fun K hK=>?_);go_simp;refine (TRq.out w7 hbB).mono ?_;rintro e' w8 h8;obtain ⟨hb8,b1,c1',b2,c2',v1,rfl,hv1,-,ht1,hn1⟩:=h8.two hRq hRr (by omega);have hbC:=hbB.trans (hb8.mono hbB.size);refine hK _ _ (fun h=>Bool.noConfusion (Eq.trans (Eq.symm (by kernel_rfl:_=false)) h)) (fun _=>hbC) ?_;clear hK K;refine zm (fun K hK=>?_);go_simp;refine (RRq.out w8 hbC).mono ?_;rintro e' w9 h9;obtain ⟨hb9,b3,c3',b4,c4',v2,rfl,hv2,-,ht2,hn2⟩:=h9.two;have hbD:=hbC.trans (hb9.mono hbC.size);refine hK _ _ (fun h=>Bool.noConfusion (Eq.trans (Eq.symm (by kernel_rfl:_=false)) h)) (fun _=>hbD) ?_;clear hK K;refine zm (fun K hK=>?_);go_simp;refine (lU _ _ _ _ _ _ _ _ _ _ _ _ _ _ _ _ _ _ _ _ _ _ _ _ _ w9 (ht1.below hb9).tab ht2.tab (hn1.below hb9).tab hn2.tab (hv1.trans hv2.symm)).mono ?_;rintro e' w10 ⟨rfl,hb10⟩;have hbE:=hbD.trans (hb10.mono hbD.size);refine hK _ _ (fun h=>Bool.noConfusion (Eq.trans (Eq.symm (by kernel_rfl:_=false)) h)) (fun _=>hbE) ?_;clear hK K
      iterate 2
       first
        | refine zd (fun K hK=>?_)
        | refine ze (fun K hK=>?_)
       go_simp;refine hK _ ?_;clear hK K
      refine zo ?_;go_wp2_with fail;go_ret;exact ⟨rfl,hB ▸ BX.out _ (HBB.out.trans ((HBW.out.trans ((HB2.out.trans ((HB5.out.trans (hbE.mono l5)).mono l2)).mono (by have:=HBW.out.size; omega))).mono (by have:=HBB.out.size; have:=HPX.out; omega)))⟩
end Go.Proofs.YtnlbafjmbamoeaaGreat
namespace Go.Proofs.YtnlbafjmbamoeaaGreat.stepOwn
open Go.ChangeShapes Go.WideShapes Go.ChangeAt Go.RowKit Go.Proofs.YtnlbafjmbamoeaaGreat
open Lib
theorem own:ownKnob Tryz.prog.godebug=none:=by kernel_rfl
theorem laidOut:laidOutB Tryz.prog=true:=by kernel_rfl
theorem float_lt {b:Nat} (h:(Lit.float .f64 b).wf=true):b<18446744073709551616:=by simpa [Lit.wf] using h
theorem int_lo {n:Int} (h:(Lit.int .i64 n).wf=true):-9223372036854775808≤n∧n≤9223372036854775807:=by
 have a:IntKind.i64.min=-9223372036854775808:=by decide
 have b:IntKind.i64.max=9223372036854775807:=by decide
 simp only [Lit.wf,Bool.and_eq_true,decide_eq_true_eq] at h; omega
set_option maxRecDepth 100000
theorem lifted (os:Os) (started:os.Started) (H:Type) (enc:TypeId × Value→H) :
  ReturnsInHanded {} Tryz.checked os 12 .any (Rows.stepOwnSpec.pre6 enc Tryz.prog Tryz.f12 Rows.stepOwnRow.domain false) (Rows.stepOwnSpec.post enc Tryz.prog Tryz.f12 false true false false):=by
 refine returnsInHanded_of_change (C:=Tryz.checked) own started (by kernel_rfl) Tryz.func12
  (ChangeSpec.witness6 (enc:=enc) (C:=Tryz.checked) false ⟨#[],#[.agg #[.int .i64 0,.int .i64 0,.int .i64 0,.int .i64 0,.int .i64 0,.slice none 0 0,.slice none 0 0,.slice none 0 0,.bool false],.int .i64 0,.int .i64 0],[]⟩ 8 (by kernel_rfl) (by kernel_rfl) (by kernel_rfl) (by kernel_rfl)) ?_
 intro W base args ds gs before hval0 hW hcnd _;have hval:∀ (j:Nat) t v,Tryz.f12.params[j]? = some t→args[j]? = some v→Value.okWide Tryz.prog W .any base t v:=hval0;have hW':=hW;obtain ⟨p,q,hA0,hV,rfl,hfz,hnd⟩:=hW;have hA:DataW.TrodAll enc Tryz.prog W 0 (fun _=>true) true Tryz.f12.params.toList args.toList ds p:=hA0;rw [Tryz.params12] at hA hval;obtain ⟨v0,vs0,d0,ds0,p0,q0,hargs,rfl,rfl,h0,r0⟩:=trodAll_cons hA;obtain ⟨v1,vs1,d1,ds1,p1,q1,rfl,rfl,rfl,h1,r1⟩:=trodAll_cons r0;obtain ⟨v2,vs2,d2,ds2,p2,q2,rfl,rfl,rfl,h2,r2⟩:=trodAll_cons r1;obtain ⟨rfl,rfl,rfl⟩:=trodAll_nil r2;obtain rfl:args=#[v0,v1,v2]:=by cases args; simp_all
 obtain ⟨rfl,rfl⟩:=trodVars_none hV;have k0:=h0;obtain ⟨zs0,z0⟩:=shape_of (hval 0 24 v0 rfl rfl) h0;obtain ⟨a1,rfl,rfl,rfl,w1⟩:=open_int Tryz.underlying3 (hval 1 3 v1 rfl rfl) h1;obtain ⟨a2,rfl,rfl,rfl,w2⟩:=open_int Tryz.underlying3 (hval 2 3 v2 rfl rfl) h2;clear hA0 hval0;simp only [List.append_nil] at hW';refine (stepOwn_any v0 zs0 a1 a2 W z0 (int_lo w1) (int_lo w2)).mono fun e W' ⟨he,hb⟩=>?_
 subst he;exact ⟨_,rfl,⟨_,_,_,[],_,[],hW',(trodAll_cons_mk (shut_bool Tryz.underlying4 _) trodAll_mk0),(trodAll_cons_mk (Below.trod laidOut (by kernel_rfl) (of_decide_eq_true (by kernel_rfl)) k0 hb (fun x hx=>hW'.lt x (by simp [hx]))) (trodAll_cons_mk (shut_int Tryz.underlying3 w1) (trodAll_cons_mk (shut_int Tryz.underlying3 w2) trodAll_mk0))),rfl,hb.frame _,fun h=>by cases h⟩⟩
theorem over:Rows.stepOwnRow.holds Tryz.pinned (OpenSpec.ofChange Rows.stepOwnSpec):=
 OpenClaim.holds_of_wide 12 Tryz.f12 rfl rfl rfl rfl rfl rfl rfl ⟨rfl,rfl,rfl,rfl,rfl⟩ rfl rfl rfl rfl rfl (by kernel_rfl) Tryz.func12 (by kernel_rfl)
  (of_decide_eq_true (by kernel_rfl)) (by unfold Func.isWrapper; first | (rw [if_pos (by decide +kernel)]; kernel_rfl) | (rw [if_neg (by decide +kernel)]; exact ⟨rfl,rfl⟩))
  (fun os started H enc _=>lifted os started H enc)
theorem proved:Rows.StepOwnSaid:=
 over
#print axioms proved
end Go.Proofs.YtnlbafjmbamoeaaGreat.stepOwn
