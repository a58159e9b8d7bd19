/-
  Contracts (what a function tells) and plain facts that a law's proof hangs on, for every input; no condition but those in their statements. Laid together of the texts Ji.
-/
import Derived.Test.YtnlbafjmbamoeaaGreatQe
namespace Go.Proofs.YtnlbafjmbamoeaaGreat
open Go.RowKit Lib
open Ieee (double)
attribute [local go_sem] zr zi zy zn zU zS zW zX zV zY zD zH zI zJ zK zB ye z8 zF yE xy
theorem wg.more {w:World} {base G n i m R c:Nat} {blk cap:Nat→Nat} {f:Nat→Nat→Nat} (h:wg w base G n i m blk cap f) (hc:w.cell? ⟨G,i,none⟩=some (.slice (some ⟨R,0,none⟩) m c)) (ho:yd w base R m c (f i)) (hne:R≠G) (hnew:∀ k,k<i→blk k≠R) :
  wg w base G n (i+1) m (yy blk i R) (yy cap i c) f:=by
 refine ⟨h.ex,h.free,h.lo,h.lt,fun k hk=>?_,fun a b ha hb=>?_⟩
 ·by_cases e:k=i
  ·subst e;rw [zL,zL];exact ⟨hc,ho,hne⟩
  ·rw [zG _ _ e,zG _ _ e];exact h.val k (by omega)
 ·by_cases ea:a=i
  ·by_cases eb:b=i
   ·intro _; omega
   ·subst ea;rw [zL,zG _ _ eb];exact fun q=>absurd q.symm (hnew b (by omega))
  ·by_cases eb:b=i
   ·subst eb;rw [zL,zG _ _ ea];exact fun q=>absurd q (hnew a (by omega))
   ·rw [zG _ _ ea,zG _ _ eb];exact h.inj a b (by omega) (by omega)
theorem wg.poke {w:World} {base G n i m:Nat} {blk cap:Nat→Nat} {f:Nat→Nat→Nat} (h:wg w base G n i m blk cap f) (hi:i<n) (v:Value):wg (w.setCell ⟨G,i,none⟩ v) base G n i m blk cap f:=by
 obtain ⟨v0,e0⟩:=h.ex i hi;refine ⟨fun k hk=>?_,fun k=>by rw [tv]; exact h.free k,h.lo,by simp [World.setCell]; exact h.lt,fun k hk=>?_,h.inj⟩
 ·rw [ww _ e0];split
  ·exact ⟨_,rfl⟩
  ·exact h.ex k hk
 ·obtain ⟨h1,h2,h3⟩:=h.val k hk;rw [ww _ e0,if_neg (by omega)];exact ⟨h1,h2.other (fun e=>h3 e.symm) _,h3⟩
theorem wg.keep {X W:World} {q base G n i m:Nat} {blk cap:Nat→Nat} {f:Nat→Nat→Nat} (h:wg X base G n i m blk cap f) (hk:zM X q W) (h1:G≠q) (h2:∀ k,k<i→blk k≠q):wg W base G n i m blk cap f:=by
 have:=hk.size;have hl:=h.lt;refine ⟨fun k hk2=>by rw [hk.cell hl h1]; exact h.ex k hk2,fun k=>by rw [hk.free hl h1]; exact h.free k,h.lo,by omega,fun k hk2=>?_,h.inj⟩;obtain ⟨g1,g2,g3⟩:=h.val k hk2;exact ⟨by rw [hk.cell hl h1]; exact g1,g2.kept (hk.block _ g2.lt.2 (h2 k hk2)),g3⟩
theorem yd.keep {X W:World} {q base R n cap:Nat} {f:Nat→Nat} (h:yd X base R n cap f) (hk:zM X q W) (h1:R≠q):yd W base R n cap f:=h.kept (hk.block _ h.lt.2 h1)
def TBH (w0:World) (B:Nat) (n:Int) (vo vu:Value) (W:World):Prop:=W.heap[B]? = some (.cells #[.int .i64 n,vo,vu] 28)∧Below B w0 W
theorem TBH.step {w0:World} {B:Nat} {n:Int} {vo vu:Value} {W W':World} (h:TBH w0 B n vo vu W) (hb:Below (B+1) W W'):TBH w0 B n vo vu W':=⟨(hb.block B (by omega)).trans h.1,h.2.trans (hb.mono (by omega))⟩
theorem TBH.keep {w0:World} {B q:Nat} {n:Int} {vo vu:Value} {W W':World} (h:TBH w0 B n vo vu W) (hk:zM W q W') (hq:B<q):TBH w0 B n vo vu W':=⟨(hk.block B (zj h.1) (by omega)).trans h.1,hk.below h.2 (by omega) (by have:=zj h.1; omega)⟩
theorem TBH.cells {w0:World} {B:Nat} {n:Int} {vo vu:Value} {W:World} (h:TBH w0 B n vo vu W):W.cell? ⟨B,0,none⟩=some (.int .i64 n)∧W.cell? ⟨B,1,none⟩=some vo∧W.cell? ⟨B,2,none⟩=some vu∧B<W.heap.size:=⟨by rw [zf h.1]; rfl,by rw [zf h.1]; rfl,by rw [zf h.1]; rfl,zj h.1⟩
theorem mc (k:Int) (u v q a b:Nat):chF k (zk u) (zk v) (zk q) (zk a) (zk b)=chF k u v q a b:=by
 unfold chF;simp only [zE,zC]
theorem kt (p q r:BinOp) (w1 w2 w3:World) (a b c d:Nat):zk (zZ p w1 (zZ q w2 a b) (zZ r w3 c d))=cop p (cop q a b) (cop r c d):=by
 rw [z9,← zE,← zC,z9,z9]
theorem ku (p q r:BinOp) (w1 w2 w3:World) (a b c d:Nat):zk (zZ p w1 (zZ q w2 a (zZ r w3 b c)) d)=cop p (cop q a (cop r b c)) d:=by
 rw [z9,← zE,z9,← zC q,z9]
set_option maxRecDepth 100000
theorem rF (k:Int) (u v q a b:Nat) (w:World):Calls Tryz.prog 119 #[.int .i64 k,.float .f64 u,.float .f64 v,.float .f64 q,.float .f64 a,.float .f64 b] w (xd (chF k u v q a b) w):=by
 unfold chF;go_enter Tryz.func119,Tryz.ntmps119;by_cases k2:k=2
 ·subst k2;go_wp2_with fail;go_ret;exact xd.of
 ·by_cases k3:k=3
  ·subst k3;go_wp2_with fail;go_ret;exact xd.of
  ·by_cases k4:k=4
   ·subst k4;go_wp2_with fail;go_ret;exact ⟨_,_,rfl,kt _ _ _ _ _ _ _ _ _ _,yi _ _ _ _,by first | rfl | (simp only [World.drewN_drewN]; rfl)⟩
   ·rw [if_neg k2,if_neg k3,if_neg k4];go_wp2_with fail;go_ret;exact ⟨_,_,rfl,ku _ _ _ _ _ _ _ _ _ _,yi _ _ _ _,by first | rfl | (simp only [World.drewN_drewN]; rfl)⟩
def GridC (n:Nat) (f:Nat→Nat→Nat) (w:World) (e:Ending) (w':World):Prop:=∃ G c blk cap,e=.returned (.slice (some ⟨G,0,none⟩) n c)∧yD w' w.heap.size G n n blk cap f∧Below w.heap.size w w'
set_option maxHeartbeats 16000000
theorem oQ (T:TD) (v vx:Value) (x:Nat→Nat) (w:World) (h:yG w v T) (hck:yq T=true) (hcs:∀ i,i<T.len→(T.op i).c<18446744073709551616) (nn:Nat) (hn:T.n=nn) (hx:wO w vx nn x) :
  Calls Tryz.prog 94 #[v,vx] w (GridC nn (fun i=>dvR T.op x (T.out i).toNat) w):=by
 obtain ⟨n,len,op,lo,out⟩:=T;obtain ⟨vo,vu,rfl,⟨a,cap,rfl,hl1,ho⟩,⟨a2,cap2,rfl,hl2,hu⟩⟩:=h;unfold yq at hck;simp only [Bool.and_eq_true,decide_eq_true_eq] at hck hcs hn ho hu hl1 hl2 ⊢;subst hn;obtain ⟨⟨q1,q2,q3,q4⟩,hs1,hs2⟩:=hck;obtain rfl:nn=lo:=by omega
 clear q4;have HS1:=hid (xw.1 hs1);have HS2:=hid (xw.1 hs2);have HCS:=hid hcs;have HO:=hid ho;have HU:=hid hu;obtain ⟨xa,xcap,rfl,hx1,hx2⟩:=hx;have HX:=hid hx2;obtain ⟨iF,hF,f1,f2,f3⟩:=info_parts xu;have HF:=hid (show iF.zero=_∧iF.size=_∧iF.bytes=_ from ⟨f1,f2,f3⟩);have HF0:=hid hF;obtain ⟨iS,hS,s1,s2,s3⟩:=info_parts mN;have HS:=hid (show iS.zero=_∧iS.size=_∧iS.bytes=_ from ⟨s1,s2,s3⟩);have HS0:=hid hS;have AL:=al1 w (.cells #[.int .i64 nn,.slice a len cap,.slice a2 nn cap2] 28);clear ho hu hs1 hs2 hcs hx2 hF f1 f2 f3 hS s1 s2 s3;go_enter Tryz.func94,Tryz.ntmps94;go_upto_region 1 with fail
 generalize hB:w.heap.size=B at *;generalize w.alloc (.cells #[.int .i64 nn,.slice a len cap,.slice a2 nn cap2] 28)=X at *;obtain ⟨x2,x4,x5⟩:=AL;have htb:TBH w B nn (.slice a len cap) (.slice a2 nn cap2) X:=⟨x2,x5⟩
 obtain ⟨p0,p1,p2,pl⟩:=htb.cells;clear x2 x5
 go_wp2_with (first
  | (refine wpList_make_full _ rfl _ _ _ rfl (B+1) 31 iF (.float .f64 0) 1 Tryz.underlying30 HF0.out HF.out.1 HF.out.2.1 .i64 .i64 (len:Int) (len:Int) len rfl rfl rfl rfl (by rw [HF.out.2.2]; omega) (by unfold maxLen; omega) (by omega) ?_)
  | fail)
 intro w1 hr0 hg0;have hb1:Below (B+1) X w1:=(Below.refl _ _).grown hg0 (by omega) (fun k hk=>by cases hk);have hR:=(hr0.lt (B+1) rfl).2;have HO1:=hid (yI hr0);have htb1:=htb.step hb1;clear hr0 hg0 hb1 htb p0 p1 p2 pl x4;obtain ⟨p0,p1,p2,pl⟩:=htb1.cells
 go_wp2_with (first
  | (refine wpList_make_full _ rfl _ _ _ rfl w1.heap.size 30 iS (.slice none 0 0) 1 Tryz.underlying35 HS0.out HS.out.1 HS.out.2.1 .i64 .i64 (len:Int) (len:Int) len rfl rfl rfl rfl (by rw [HS.out.2.2]; omega) (by unfold maxLen; omega) (by omega) ?_)
  | fail)
 intro w2 hr0 hg0;have hb2:Below w1.heap.size w1 w2:=(Below.refl _ _).grown hg0 (by omega) (fun k hk=>by cases hk);have hD:=(hr0.lt w1.heap.size rfl).2
 have hgr:wg w2 (B+2) w1.heap.size len 0 nn (fun _=>0) (fun _=>0) (dvR op x):=by
  obtain ⟨g1,g2,g3,g4,g5,g6⟩:=wg.made (m:=nn) hr0 (dvR op x);exact ⟨g1,g2,by omega,g4,fun k hk=>by omega,fun a b ha=>by omega⟩
 have hof:=HO1.out.below hb2 HO1.out.lt.2;have htb2:=htb1.step (hb2.mono (by omega));clear hr0 hg0 hb2 htb1 p0 p1 p2 pl HO1;generalize hDe:w1.heap.size=D at *;go_wp2_with fail
 go_loopw [7] (fun i wr=>∃ (j:Nat) (h blk cp:Nat→Nat),j≤len∧i=.int .i64 j∧TBH w B nn (.slice a len cap) (.slice a2 nn cap2) wr∧yd wr (B+1) (B+1) len len h∧(∀ k,k<j→h k=evR op x k)∧wg wr (B+2) D len j nn blk cp (dvR op x)) (fun i _=>len-(intOf i).toNat)
 case atStart=>exact ⟨0,_,_,_,by omega,rfl,htb2,hof,fun k hk=>by omega,hgr⟩
 case round=>
  clear htb2 hof hgr;obtain ⟨j,h,blk,cp,hj,rfl,htb,hof,hh,hgr⟩:=hrel;obtain ⟨p0,p1,p2,pl⟩:=htb.cells;by_cases hlt:j<len
  ·obtain ⟨b,off,rfl,hbs,hc⟩:=HO.out (by omega);obtain ⟨d1,d2,d3,d4⟩:=hc j hlt;have hbw:=htb.2;rw [← hbw.cell (p:=⟨b,off+j*4,none⟩) hbs] at d1;rw [← hbw.cell (p:=⟨b,off+j*4+1,none⟩) hbs] at d2;rw [← hbw.cell (p:=⟨b,off+j*4+2,none⟩) hbs] at d3;rw [← hbw.cell (p:=⟨b,off+j*4+3,none⟩) hbs] at d4;have hst:=HS1.out j hlt;have hcc:=HCS.out j hlt
   have hin:(op j).k≠0→(op j).k≠1→(op j).a.toNat<j∧(op j).b.toNat<j:=fun k0 k1=>by
    unfold xg at hst;rw [if_neg k0,if_neg k1] at hst;split at hst
    ·simp only [Bool.and_eq_true] at hst;obtain ⟨A,hA,hA2⟩:=yu hst.1;obtain ⟨A',hA',hA2'⟩:=yu hst.2.1;omega
    ·cases hst
   have HV:=hid (show evR op x j=v9 (op j) x (evR op x)∧dvR op x j=ru (op j) (evR op x) (evR op x j) (dvR op x) from ⟨mK op x j hin,mJ op x j hin⟩);generalize op j=oj at *;obtain ⟨k,ka,kb,kc⟩:=oj;unfold xg at hst;simp only [] at d1 d2 d3 d4 hst hcc;have hal:=al1 wr (.cells #[.int .i64 k,.int .i64 ka,.int .i64 kb,.float .f64 kc] 66);have HTB:=hid (htb.step (hal.2.2.mono pl));have HOF:=hid (hof.below hal.2.2 hof.lt.2);have HGR:=hid (hgr.below hal.2.2);have HH:=hid hh;have HAL:=hid hal;have hDl:=hgr.lt;have hRl:=hof.lt.2;clear hc hin hbw htb hof hgr hh hal;go_upto_region 7 with fail
   clear d1 d2 d3 d4 p0 p1 p2;have hW1:(wr.alloc (.cells #[.int .i64 k,.int .i64 ka,.int .i64 kb,.float .f64 kc] 66)).heap.size=wr.heap.size+1:=HAL.out.2.1;have HO1:=hid HAL.out.1;clear HAL;generalize wr.alloc (.cells #[.int .i64 k,.int .i64 ka,.int .i64 kb,.float .f64 kc] 66)=Y at *;generalize hOe:wr.heap.size=O at *;obtain ⟨p0,p1,p2,pl'⟩:=HTB.out.cells;obtain ⟨v0,s0⟩:=HGR.out.ex j hlt;have s1:=HGR.out.free j;have hDY:=HGR.out.lt;clear p1 p2 s0 s1
   go_wp2_with (first
    | (refine wpList_make_full _ rfl _ _ _ rfl (O+1) 31 iF (.float .f64 0) 1 Tryz.underlying30 HF0.out HF.out.1 HF.out.2.1 .i64 .i64 (nn:Int) (nn:Int) nn rfl rfl rfl rfl (by rw [HF.out.2.2]; omega) (by unfold maxLen; omega) (by omega) ?_)
    | fail)
   intro w3 hr0 hg0;have hb3:Below Y.heap.size Y w3:=(Below.refl _ _).grown hg0 (by omega) (fun k hk=>by cases hk);have hN:=(hr0.lt (O+1) rfl).2;have hGR3:=HGR.out.below hb3;obtain ⟨v0,s0⟩:=hGR3.ex j hlt;have s1:=hGR3.free j;have hkk:=(zM.refl w3 D).set j (.slice (some ⟨O+1,0,none⟩) nn nn);have HTB5:=hid ((HTB.out.step (hb3.mono (by omega))).keep hkk (by omega));have HOF5:=hid ((HOF.out.below hb3 HOF.out.lt.2).keep hkk (by omega));have HGR5:=hid (hGR3.poke hlt (.slice (some ⟨O+1,0,none⟩) nn nn));have HD5:=hid (show (w3.setCell ⟨D,j,none⟩ (.slice (some ⟨O+1,0,none⟩) nn nn)).cell? ⟨D,j,none⟩=_ by rw [ww _ s0,if_pos rfl]);have HN5:=hid (((yI hr0).base (b':=B+2) (by omega)).keep hkk (by omega));have HO5:=hid ((hkk.block O (by omega) (by omega)).trans ((hb3.block O (by omega)).trans HO1.out));have hBN:=hid (show ∀ q,q<j→blk q<O+1 from fun q hq=>by have:=(HGR.out.val q hq).2.1.lt; omega);have hs3:=hb3.size;clear hr0 hg0 hb3 hGR3 hkk p0 pl' HTB HOF HGR HO1;go_upto_region 8 with fail
   clear s0 s1;generalize w3.setCell ⟨D,j,none⟩ (.slice (some ⟨O+1,0,none⟩) nn nn)=W5 at *;obtain ⟨p0,p1,p2,pl'⟩:=HTB5.out.cells;have o0:=zf HO5.out 0;have o1:=zf HO5.out 1;have o2:=zf HO5.out 2;have o3:=zf HO5.out 3;have ol:=zj HO5.out;simp only [List.getElem?_toArray,List.getElem?_cons_zero,List.getElem?_cons_succ] at o0 o1 o2 o3;have hDW:=HGR5.out.lt;have hRW:=HOF5.out.lt.2;by_cases k0:k=0
   ·subst k0;obtain ⟨z,r0,-,-⟩:=HOF5.out.cell hlt;have r1:=HOF5.out.free j;have hdv:dvR op x j=fun _=>0:=by rw [HV.out.2]; rfl
    have hev:evR op x j=zk kc:=by rw [HV.out.1]; rfl
    have HE:=hid (show dvR op x j=(fun _=>0)∧evR op x j=zk kc from ⟨hdv,hev⟩);have hkk:=(zM.refl W5 (B+1)).set j (.float .f64 kc)
    have REL:=hid (show TBH w B nn _ _ _∧yd _ (B+1) (B+1) len len (yy h j (zk kc))∧wg _ (B+2) D len (j+1) nn (yy blk j (O+1)) (yy cp j nn) (dvR op x) from ⟨HTB5.out.keep hkk (by omega),HOF5.out.set hlt rfl hcc,(HGR5.out.more HD5.out (by rw [HE.out.1]; exact HN5.out) (by omega) (fun k hk=>by have:=hBN.out k hk; omega)).keep hkk (by omega) (fun k hk=>by
     by_cases e:k=j
     ·subst e; rw [zL]; omega
     ·rw [zG _ _ e]; have:=(HGR5.out.val k (by omega)).2.1.lt; omega)⟩)
    clear hkk hdv hev hst p1 p2 o1 o2;go_wp2_with fail
    go_roundw
    case rel=>exact ⟨j+1,_,_,_,by omega,by go_num,REL.out.1,REL.out.2.1,fun k hk=>by
     by_cases e:k=j
     ·subst e; rw [zL,HE.out.2]
     ·rw [zG _ _ e]; exact HH.out k (by omega),REL.out.2.2⟩
    case measure=>simp [intOf]; omega
   ·by_cases k1:k=1
    ·subst k1;simp only [if_neg k0,if_true,Bool.and_eq_true] at hst;obtain ⟨A,rfl,hA⟩:=yu hst.1;obtain ⟨xb,xo,rfl,hxs,hxc⟩:=HX.out (by omega);obtain ⟨y,y1,y2,y3⟩:=hxc A (by omega);rw [← HTB5.out.2.cell (p:=⟨xb,xo+A,none⟩) hxs] at y1;obtain ⟨z,r0,-,-⟩:=HOF5.out.cell hlt;have r1:=HOF5.out.free j;obtain ⟨z2,n0,-,-⟩:=HN5.out.cell (show A<nn by omega);have n1:=HN5.out.free A;have d5:=HD5.out;have hAn:(A:Int)<(nn:Int):=by omega
     have hdv:dvR op x j=fun v=>if v=A then 4607182418800017408 else 0:=by rw [HV.out.2]; unfold ru; simp
     have hev:evR op x j=x A:=by rw [HV.out.1]; unfold v9; simp
     have HE:=hid (show dvR op x j=_∧evR op x j=_ from ⟨hdv,hev⟩);have hne:∀ k,k<j→blk k≠O+1:=fun k hk=>by have:=hBN.out k hk; omega
     clear hdv hev hst p1 p2 hxc;go_wp2_with fail;refine zv [(0,1),(1,1),(2,1),(3,1),(4,1),(5,3),(6,1),(7,3),(8,1),(9,1),(10,3),(11,1),(12,3),(13,1),(14,0),(15,1),(16,0)] (zM W5 (B+1)) (by kernel_rfl) (by kernel_rfl) (fun _ _ d _ _ h=>by cases d<;>exact h) ((zM.refl W5 (B+1)).drew) ?_;intro Z hZ hkZ;have hZb:Z.heap=W5.heap:=by rw [hZ]; rfl
     have r0':Z.cell? ⟨B+1,j,none⟩=some (.float .f64 z):=by rw [World.cell?_of_block (w:=W5) (by rw [hZb])]; exact r0
     have r1':Z.frozen? ⟨B+1,j,none⟩=false:=by rw [World.frozen?_of_block (w:=W5) (by rw [hZb])]; exact r1
     have HOFZ:=hid (HOF5.out.kept (w':=Z) (by rw [hZb]));clear r0 r1 hZ hZb
     iterate 5
      first
       | refine zd (fun K hK=>?_)
       | refine ze (fun K hK=>?_)
      go_simp;refine hK _ ?_;clear hK K
     refine zh (v:=.slice (some ⟨O+1,0,none⟩) nn nn) rfl rfl (fun wk hwk=>?_) ?_
     ·rw [← hwk.cell hDW (by omega)] at d5;go_simp
     iterate 1
      first
       | refine zd (fun K hK=>?_)
       | refine ze (fun K hK=>?_)
      go_simp;refine hK _ ?_;clear hK K
     refine zh (v:=.int .i64 A) rfl rfl (fun wk hwk=>?_) ?_
     ·rw [← hwk.cell ol (by omega)] at o1;go_simp
     iterate 2
      first
       | refine zd (fun K hK=>?_)
       | refine ze (fun K hK=>?_)
      go_simp;refine hK _ ?_;clear hK K
     refine zh (v:=.int .i64 A) rfl rfl (fun wk hwk=>?_) ?_
     ·rw [← hwk.cell ol (by omega)] at o1;go_simp
     iterate 1
      first
       | refine zd (fun K hK=>?_)
       | refine ze (fun K hK=>?_)
      go_simp;refine hK _ ?_;clear hK K
     refine zh (v:=.float .f64 y) rfl rfl (fun wk hwk=>?_) ?_
     ·rw [← hwk.cell (by omega) (by omega)] at y1;go_simp
     iterate 1
      first
       | refine zd (fun K hK=>?_)
       | refine ze (fun K hK=>?_)
      go_simp;refine hK _ ?_;clear hK K
     refine zm (fun K hK=>?_);go_simp;have hk6:=hkZ.set j (.float .f64 y);refine hK _ _ (fun h=>Bool.noConfusion (Eq.trans (Eq.symm (by kernel_rfl:_=false)) h)) (fun _=>hk6) ?_;clear hK K
     iterate 1
      first
       | refine zd (fun K hK=>?_)
       | refine ze (fun K hK=>?_)
      go_simp;refine hK _ ?_;clear hK K
     have hNl:=HN5.out.lt.2;have h1:(Z.setCell ⟨B+1,j,none⟩ (.float .f64 y)).cell? ⟨O+1,A,none⟩=some (.float .f64 z2):=by rw [hk6.cell hNl (by omega)]; exact n0
     have h2:(Z.setCell ⟨B+1,j,none⟩ (.float .f64 y)).frozen? ⟨O+1,A,none⟩=false:=by rw [hk6.free hNl (by omega)]; exact n1
     refine zm (fun K hK=>?_);go_simp;refine hK _ _ (fun h=>Bool.noConfusion (Eq.trans (Eq.symm (by kernel_rfl:_=false)) h)) (fun h=>Bool.noConfusion (Eq.trans (Eq.symm (by kernel_rfl:_=false)) h)) ?_;clear hK K;refine zo ?_;have hkm:=(zM.refl (Z.setCell ⟨B+1,j,none⟩ (.float .f64 y)) (O+1)).set A (.float .f64 4607182418800017408);have REL:=hid (show TBH w B nn _ _ _∧yd _ (B+1) (B+1) len len (yy h j (x A))∧wg _ (B+2) D len (j+1) nn (yy blk j (O+1)) (yy cp j nn) (dvR op x) from ⟨(HTB5.out.keep hk6 (by omega)).keep hkm (by omega),(HOFZ.out.set hlt y2 y3).keep hkm (by omega),((HGR5.out.keep hk6 (by omega) (fun k hk=>by have:=(HGR5.out.val k hk).2.1.lt; omega)).keep hkm (by omega) hne).more (by rw [hkm.cell (by have:=hk6.size; omega) (by omega),hk6.cell hDW (by omega)]; exact d5) (((HN5.out.keep hk6 (by omega)).set (show A<nn by omega) (y:=4607182418800017408) (c:=4607182418800017408) (by decide) (by decide)).congr (fun q _=>by rw [HE.out.1]; unfold yy; rfl)) (by omega) hne⟩);clear hkm hk6 hkZ h1 h2 r0' r1' n0 n1;go_wp2_with fail
     go_roundw
     case rel=>exact ⟨j+1,_,_,_,by omega,by go_num,REL.out.1,REL.out.2.1,fun k hk=>by
      by_cases e:k=j
      ·subst e; rw [zL,HE.out.2]
      ·rw [zG _ _ e]; exact HH.out k (by omega),REL.out.2.2⟩
     case measure=>simp [intOf]; omega
    ·have hk:2≤k∧k≤5:=by
      rw [if_neg k0,if_neg k1] at hst;by_cases h:2≤k∧k≤5
      ·exact h
      ·rw [if_neg h] at hst; cases hst
     rw [if_neg k0,if_neg k1,if_pos hk] at hst;simp only [Bool.and_eq_true] at hst;obtain ⟨A,rfl,hA⟩:=yu hst.1;obtain ⟨A2,rfl,hA2⟩:=yu hst.2.1;obtain ⟨y,y1,y2,y3⟩:=HOF5.out.cell (show A<len by omega);obtain ⟨z,z1,z2,z3⟩:=HOF5.out.cell (show A2<len by omega);obtain ⟨z0,r0,-,-⟩:=HOF5.out.cell hlt;have r1:=HOF5.out.free j;have a1:(A:Int)<(len:Int):=by omega
     have a2':(A2:Int)<(len:Int):=by omega
     have YZ:=hid (show zk y=evR op x A∧zk z=evR op x A2 from ⟨by rw [y2]; exact HH.out A (by omega),by rw [z2]; exact HH.out A2 (by omega)⟩)
     have hev:∀ w,zk (zZ (if k=2 then .add else if k=3 then .sub else if k=4 then .mul else .quo) w y z)=evR op x j:=fun w=>by
      rw [z9,← zE,← zC,YZ.out.1,YZ.out.2,HV.out.1];unfold v9 opF;simp only [if_neg k0,if_neg k1,Int.toNat_natCast];split<;>(try rfl)
      split<;>(try rfl)
      split<;>rfl
     have HE:=hid hev
     have HDV:=hid (show ∀ e,dvR op x j e=chF k (evR op x A) (evR op x A2) (evR op x j) (dvR op x A e) (dvR op x A2 e) from fun e=>by
      rw [HV.out.2];unfold ru;simp only [if_neg k0,if_neg k1,Int.toNat_natCast])
     have hne:∀ k,k<j→blk k≠O+1:=fun k hk=>by have:=hBN.out k hk; omega
     clear y2 z2 hst hev;have hk':k=2∨k=3∨k=4∨k=5:=by omega
     go_upto_block 2 with fail
     go_cut [] (fun wx=>zM W5 (B+1) wx∧yd wx (B+1) (B+1) len len (yy h j (evR op x j)))
     case first=>
      rcases hk' with rfl | rfl | rfl | rfl
      ·have hev:=HE.out;simp only [if_true] at hev;have HE2:=hid hev;clear hev HE;go_wp2_with fail;refine zw [(0,1),(1,1),(2,1),(3,1),(4,2),(5,1),(6,2),(7,1),(8,1),(9,2),(10,1),(11,2),(12,0),(13,1),(14,0)] (by kernel_rfl) (by kernel_rfl) (fun _ _ d _ _ h=>by cases d<;>exact h) ?_;intro Z hZ;have hkZ:zM W5 (B+1) Z:=by rw [hZ]; exact (zM.refl W5 (B+1)).drew
       have hZb:Z.heap=W5.heap:=by rw [hZ]; rfl
       have hz:∀ b o,Z.cell? ⟨b,o,none⟩=W5.cell? ⟨b,o,none⟩:=fun b o=>World.cell?_of_block (w:=W5) (by rw [hZb])
       have hz2:∀ b o,Z.frozen? ⟨b,o,none⟩=W5.frozen? ⟨b,o,none⟩:=fun b o=>World.frozen?_of_block (w:=W5) (by rw [hZb])
       have HOFZ:=hid (HOF5.out.kept (w':=Z) (by rw [hZb]));rw [← hz] at o0 o1 o2 y1 z1 r0;rw [← hz2] at r1;clear hZ hZb hz hz2
       iterate 12
        first
         | refine zd (fun K hK=>?_)
         | refine ze (fun K hK=>?_)
        go_simp;refine hK _ ?_;clear hK K
       refine zx (fun K hK=>?_);go_simp;refine hK _ _ (fun _=>⟨_,rfl⟩) ?_;clear hK K
       iterate 1
        first
         | refine zd (fun K hK=>?_)
         | refine ze (fun K hK=>?_)
        go_simp;refine hK _ ?_;clear hK K
       refine zx (fun K hK=>?_);go_simp;refine hK _ _ (fun h=>Bool.noConfusion (Eq.trans (Eq.symm (by kernel_rfl:_=false)) h)) ?_;clear hK K;refine zo ?_;generalize hu:zZ .add Z y z=u at *;generalize zP .add y z=nd at *;have hu1:zk u=evR op x j:=by rw [← hu]; exact HE2.out Z
       have hu2:u<18446744073709551616:=by rw [← hu]; exact yi _ _ _ _
       have hk6:=(hkZ.set j (.float .f64 u)).drewN nd;have HOF6:=hid (((HOFZ.out.set hlt hu1 hu2).drewN nd).congr (g:=yy h j (evR op x j)) (fun _ _=>rfl));generalize (Z.setCell ⟨B+1,j,none⟩ (.float .f64 u)).drewN nd=W6 at *;clear hu hu1 hu2 HOFZ hkZ y1 z1 r0 r1 o0 o1 o2 p0 p1 p2 HE2;go_wp2_with fail;go_meet;exact ⟨hk6,HOF6.out⟩
      ·have hev:=HE.out;simp only [show ¬(3:Int)=2 by decide,if_false,if_true] at hev;have HE2:=hid hev;clear hev HE;go_wp2_with fail;refine zw [(0,1),(1,1),(2,1),(3,1),(4,2),(5,1),(6,2),(7,1),(8,1),(9,2),(10,1),(11,2),(12,0),(13,1),(14,0)] (by kernel_rfl) (by kernel_rfl) (fun _ _ d _ _ h=>by cases d<;>exact h) ?_;intro Z hZ;have hkZ:zM W5 (B+1) Z:=by rw [hZ]; exact (zM.refl W5 (B+1)).drew
       have hZb:Z.heap=W5.heap:=by rw [hZ]; rfl
       have hz:∀ b o,Z.cell? ⟨b,o,none⟩=W5.cell? ⟨b,o,none⟩:=fun b o=>World.cell?_of_block (w:=W5) (by rw [hZb])
       have hz2:∀ b o,Z.frozen? ⟨b,o,none⟩=W5.frozen? ⟨b,o,none⟩:=fun b o=>World.frozen?_of_block (w:=W5) (by rw [hZb])
       have HOFZ:=hid (HOF5.out.kept (w':=Z) (by rw [hZb]));rw [← hz] at o0 o1 o2 y1 z1 r0;rw [← hz2] at r1;clear hZ hZb hz hz2
       iterate 12
        first
         | refine zd (fun K hK=>?_)
         | refine ze (fun K hK=>?_)
        go_simp;refine hK _ ?_;clear hK K
       refine zx (fun K hK=>?_);go_simp;refine hK _ _ (fun _=>⟨_,rfl⟩) ?_;clear hK K
       iterate 1
        first
         | refine zd (fun K hK=>?_)
         | refine ze (fun K hK=>?_)
        go_simp;refine hK _ ?_;clear hK K
       refine zx (fun K hK=>?_);go_simp;refine hK _ _ (fun h=>Bool.noConfusion (Eq.trans (Eq.symm (by kernel_rfl:_=false)) h)) ?_;clear hK K;refine zo ?_;generalize hu:zZ .sub Z y z=u at *;generalize zP .sub y z=nd at *;have hu1:zk u=evR op x j:=by rw [← hu]; exact HE2.out Z
       have hu2:u<18446744073709551616:=by rw [← hu]; exact yi _ _ _ _
       have hk6:=(hkZ.set j (.float .f64 u)).drewN nd;have HOF6:=hid (((HOFZ.out.set hlt hu1 hu2).drewN nd).congr (g:=yy h j (evR op x j)) (fun _ _=>rfl));generalize (Z.setCell ⟨B+1,j,none⟩ (.float .f64 u)).drewN nd=W6 at *;clear hu hu1 hu2 HOFZ hkZ y1 z1 r0 r1 o0 o1 o2 p0 p1 p2 HE2;go_wp2_with fail;go_meet;exact ⟨hk6,HOF6.out⟩
      ·have hev:=HE.out;simp only [show ¬(4:Int)=2 by decide,show ¬(4:Int)=3 by decide,if_false,if_true] at hev;have HE2:=hid hev;clear hev HE;go_wp2_with fail;refine zw [(0,1),(1,1),(2,1),(3,1),(4,2),(5,1),(6,2),(7,1),(8,1),(9,2),(10,1),(11,2),(12,0),(13,1),(14,0)] (by kernel_rfl) (by kernel_rfl) (fun _ _ d _ _ h=>by cases d<;>exact h) ?_;intro Z hZ;have hkZ:zM W5 (B+1) Z:=by rw [hZ]; exact (zM.refl W5 (B+1)).drew
       have hZb:Z.heap=W5.heap:=by rw [hZ]; rfl
       have hz:∀ b o,Z.cell? ⟨b,o,none⟩=W5.cell? ⟨b,o,none⟩:=fun b o=>World.cell?_of_block (w:=W5) (by rw [hZb])
       have hz2:∀ b o,Z.frozen? ⟨b,o,none⟩=W5.frozen? ⟨b,o,none⟩:=fun b o=>World.frozen?_of_block (w:=W5) (by rw [hZb])
       have HOFZ:=hid (HOF5.out.kept (w':=Z) (by rw [hZb]));rw [← hz] at o0 o1 o2 y1 z1 r0;rw [← hz2] at r1;clear hZ hZb hz hz2
       iterate 12
        first
         | refine zd (fun K hK=>?_)
         | refine ze (fun K hK=>?_)
        go_simp;refine hK _ ?_;clear hK K
       refine zx (fun K hK=>?_);go_simp;refine hK _ _ (fun _=>⟨_,rfl⟩) ?_;clear hK K
       iterate 1
        first
         | refine zd (fun K hK=>?_)
         | refine ze (fun K hK=>?_)
        go_simp;refine hK _ ?_;clear hK K
       refine zx (fun K hK=>?_);go_simp;refine hK _ _ (fun h=>Bool.noConfusion (Eq.trans (Eq.symm (by kernel_rfl:_=false)) h)) ?_;clear hK K;refine zo ?_;generalize hu:zZ .mul Z y z=u at *;generalize zP .mul y z=nd at *;have hu1:zk u=evR op x j:=by rw [← hu]; exact HE2.out Z
       have hu2:u<18446744073709551616:=by rw [← hu]; exact yi _ _ _ _
       have hk6:=(hkZ.set j (.float .f64 u)).drewN nd;have HOF6:=hid (((HOFZ.out.set hlt hu1 hu2).drewN nd).congr (g:=yy h j (evR op x j)) (fun _ _=>rfl));generalize (Z.setCell ⟨B+1,j,none⟩ (.float .f64 u)).drewN nd=W6 at *;clear hu hu1 hu2 HOFZ hkZ y1 z1 r0 r1 o0 o1 o2 p0 p1 p2 HE2;go_wp2_with fail;go_meet;exact ⟨hk6,HOF6.out⟩
      ·have hev:=HE.out;simp only [show ¬(5:Int)=2 by decide,show ¬(5:Int)=3 by decide,show ¬(5:Int)=4 by decide,if_false] at hev;have HE2:=hid hev;clear hev HE;go_wp2_with fail;refine zw [(0,1),(1,1),(2,1),(3,1),(4,2),(5,1),(6,2),(7,1),(8,1),(9,2),(10,1),(11,2),(12,0),(13,1),(14,0)] (by kernel_rfl) (by kernel_rfl) (fun _ _ d _ _ h=>by cases d<;>exact h) ?_;intro Z hZ;have hkZ:zM W5 (B+1) Z:=by rw [hZ]; exact (zM.refl W5 (B+1)).drew
       have hZb:Z.heap=W5.heap:=by rw [hZ]; rfl
       have hz:∀ b o,Z.cell? ⟨b,o,none⟩=W5.cell? ⟨b,o,none⟩:=fun b o=>World.cell?_of_block (w:=W5) (by rw [hZb])
       have hz2:∀ b o,Z.frozen? ⟨b,o,none⟩=W5.frozen? ⟨b,o,none⟩:=fun b o=>World.frozen?_of_block (w:=W5) (by rw [hZb])
       have HOFZ:=hid (HOF5.out.kept (w':=Z) (by rw [hZb]));rw [← hz] at o0 o1 o2 y1 z1 r0;rw [← hz2] at r1;clear hZ hZb hz hz2
       iterate 12
        first
         | refine zd (fun K hK=>?_)
         | refine ze (fun K hK=>?_)
        go_simp;refine hK _ ?_;clear hK K
       refine zx (fun K hK=>?_);go_simp;refine hK _ _ (fun _=>⟨_,rfl⟩) ?_;clear hK K
       iterate 1
        first
         | refine zd (fun K hK=>?_)
         | refine ze (fun K hK=>?_)
        go_simp;refine hK _ ?_;clear hK K
       refine zx (fun K hK=>?_);go_simp;refine hK _ _ (fun h=>Bool.noConfusion (Eq.trans (Eq.symm (by kernel_rfl:_=false)) h)) ?_;clear hK K;refine zo ?_;generalize hu:zZ .quo Z y z=u at *;generalize zP .quo y z=nd at *;have hu1:zk u=evR op x j:=by rw [← hu]; exact HE2.out Z
       have hu2:u<18446744073709551616:=by rw [← hu]; exact yi _ _ _ _
       have hk6:=(hkZ.set j (.float .f64 u)).drewN nd;have HOF6:=hid (((HOFZ.out.set hlt hu1 hu2).drewN nd).congr (g:=yy h j (evR op x j)) (fun _ _=>rfl));generalize (Z.setCell ⟨B+1,j,none⟩ (.float .f64 u)).drewN nd=W6 at *;clear hu hu1 hu2 HOFZ hkZ y1 z1 r0 r1 o0 o1 o2 p0 p1 p2 HE2;go_wp2_with fail;go_meet;exact ⟨hk6,HOF6.out⟩
     case rest=>
      obtain ⟨hk6,hof6⟩:=hcut;have HOF6:=hid hof6;clear hof6 HE y1 z1 r0 r1 o0 o1 o2 p0 p1 p2 hk';have HTB6:=hid (HTB5.out.keep hk6 (by omega));have HGR6:=hid (HGR5.out.keep hk6 (by omega) (fun k hk=>by have:=(HGR5.out.val k hk).2.1.lt; omega));have HN6:=hid (HN5.out.keep hk6 (by omega));have HD6:=hid ((hk6.cell hDW (by omega) j).trans HD5.out);have HO6:=hid ((hk6.block O ol (by omega)).trans HO5.out);have HN0:=hid hne;clear hk6 hDW hRW hne;go_wp2_with fail
      go_loopw [9] (fun q ws=>∃ (e:Nat) (h2:Nat→Nat),e≤nn∧q=.int .i64 e∧zM wc (O+1) ws∧yd ws (B+2) (O+1) nn nn h2∧∀ q,q<e→h2 q=dvR op x j q) (fun q _=>nn-(intOf q).toNat)
      case atStart=>exact ⟨0,_,by omega,rfl,zM.refl _ _,HN6.out,fun q hq=>by omega⟩
      case round=>
       obtain ⟨e,h2,he,rfl,hks,hos,hhs⟩:=hrel;obtain ⟨p0,p1,p2,pl'⟩:=(HTB6.out.keep hks (by omega)).cells;by_cases hen:e<nn
       ·have o0:=zf HO6.out 0;have o1:=zf HO6.out 1;have o2:=zf HO6.out 2;have ol:=zj HO6.out;simp only [List.getElem?_toArray,List.getElem?_cons_zero,List.getElem?_cons_succ] at o0 o1 o2;have d0:=HD6.out;obtain ⟨d1,g1,g2⟩:=HGR6.out.val A (by omega);obtain ⟨d2,g3,g4⟩:=HGR6.out.val A2 (by omega);obtain ⟨ya,ya1,ya2,ya3⟩:=HOF6.out.cell (show A<len by omega);obtain ⟨yb,yb1,yb2,yb3⟩:=HOF6.out.cell (show A2<len by omega);obtain ⟨yj,yj1,yj2,yj3⟩:=HOF6.out.cell hlt;obtain ⟨va,va1,va2,va3⟩:=g1.cell hen;obtain ⟨vb,vb1,vb2,vb3⟩:=g3.cell hen;have hDl6:=HGR6.out.lt;have hRl6:=HOF6.out.lt.2;rw [← hks.cell ol (by omega)] at o0 o1 o2;rw [← hks.cell hDl6 (by omega)] at d0 d1 d2;rw [← hks.cell hRl6 (by omega)] at ya1 yb1 yj1;rw [← hks.cell g1.lt.2 (HN0.out A (by omega))] at va1;rw [← hks.cell g3.lt.2 (HN0.out A2 (by omega))] at vb1;have hA':yy h j (evR op x j) A=evR op x A:=by rw [zG _ _ (by omega)]; exact HH.out A (by omega)
        have hB':yy h j (evR op x j) A2=evR op x A2:=by rw [zG _ _ (by omega)]; exact HH.out A2 (by omega)
        have CH:=hid (show chF k ya yb yj va vb=dvR op x j e by rw [← mc,ya2,yb2,yj2,va2,vb2,hA',hB',zL,HDV.out]);obtain ⟨n0,n1,-,-⟩:=hos.cell hen;have n2:=hos.free e;have HKS:=hid hks;have HOS:=hid hos;have HHS:=hid hhs;have e1:(e:Int)<(nn:Int):=by omega
        clear ya2 yb2 yj2 va2 vb2 hA' hB' hks hos hhs g1 g2 g3 g4;go_wp2_with fail;refine zw [(0,1),(1,1),(2,1),(3,2),(4,1),(5,1),(6,2),(7,1),(8,1),(9,2),(10,1),(11,2),(12,1),(13,1),(14,2),(15,1),(16,2),(17,1),(18,1),(19,1),(20,2),(21,1),(22,1),(23,2),(24,1),(25,2),(26,1),(27,1),(28,2),(29,1),(30,1),(31,2),(32,1),(33,2),(34,1),(35,1),(36,2),(37,0),(38,1),(39,0)] (by kernel_rfl) (by kernel_rfl) (fun _ _ d _ _ h=>by cases d<;>exact h) ?_;intro Z hZ;have hkZ:zM wc (O+1) Z:=by rw [hZ]; exact HKS.out.drew
        have hZb:Z.heap=wr.heap:=by rw [hZ]; rfl
        have hz:∀ b o,Z.cell? ⟨b,o,none⟩=wr.cell? ⟨b,o,none⟩:=fun b o=>World.cell?_of_block (w:=wr) (by rw [hZb])
        have hz2:∀ b o,Z.frozen? ⟨b,o,none⟩=wr.frozen? ⟨b,o,none⟩:=fun b o=>World.frozen?_of_block (w:=wr) (by rw [hZb])
        have HOSZ:=hid (HOS.out.kept (w':=Z) (by rw [hZb]));rw [← hz] at o0 o1 o2 d0 d1 d2 ya1 yb1 yj1 va1 vb1 n1;rw [← hz2] at n2;clear hZ hZb hz hz2
        iterate 37
         first
          | refine zd (fun K hK=>?_)
          | refine ze (fun K hK=>?_)
         go_simp;refine hK _ ?_;clear hK K
        refine zx (fun K hK=>?_);go_simp;refine (rF k ya yb yj va vb _).mono ?_;rintro e' w' ⟨u,m,rfl,u1,u2,rfl⟩;refine hK _ _ (fun _=>⟨m,rfl⟩) ?_;clear hK K
        iterate 1
         first
          | refine zd (fun K hK=>?_)
          | refine ze (fun K hK=>?_)
         go_simp;refine hK _ ?_;clear hK K
        refine zx (fun K hK=>?_);go_simp;refine hK _ _ (fun h=>Bool.noConfusion (Eq.trans (Eq.symm (by kernel_rfl:_=false)) h)) ?_;clear hK K;refine zo ?_;have HK7:=hid ((hkZ.set e (.float .f64 u)).drewN m);have HO7:=hid ((HOSZ.out.set hen (u1.trans CH.out) u2).drewN m);clear hkZ HOSZ o0 o1 o2 d0 d1 d2 ya1 yb1 yj1 va1 vb1 n1 n2 p0 p1 p2;go_wp2_with fail
        go_roundw
        case rel=>exact ⟨e+1,_,by omega,by go_num,HK7.out,HO7.out,fun q hq=>by
         by_cases eq:q=e
         ·subst eq; rw [zL]
         ·rw [zG _ _ eq]; exact HHS.out q (by omega)⟩
        case measure=>simp [intOf]; omega
       ·obtain rfl:e=nn:=by omega
        have hDl6:=HGR6.out.lt;have REL:=hid (show TBH w B e _ _ wr∧yd wr (B+1) (B+1) len len (yy h j (evR op x j))∧wg wr (B+2) D len (j+1) e (yy blk j (O+1)) (yy cp j e) (dvR op x) from ⟨HTB6.out.keep hks (by omega),HOF6.out.keep hks (by omega),(HGR6.out.keep hks (by omega) HN0.out).more ((hks.cell hDl6 (by omega) j).trans HD6.out) (hos.congr hhs) (by omega) HN0.out⟩);clear hks hos hhs;go_wp2_with fail
        go_roundw
        case rel=>exact ⟨j+1,_,_,_,by omega,by go_num,REL.out.1,REL.out.2.1,fun k hk=>by
         by_cases e:k=j
         ·subst e; rw [zL]
         ·rw [zG _ _ e]; exact HH.out k (by omega),REL.out.2.2⟩
        case measure=>simp [intOf]; omega
  ·obtain rfl:j=len:=by omega
   have HTB:=hid htb;have HGR:=hid hgr;have hHB:B≤wr.heap.size:=by omega
   clear htb hof hh hgr;go_wp2_with fail;clear p0 p1 p2;generalize wr=WL at *;generalize hHe:WL.heap.size=H at *
   go_loopw [10,11] (fun va i ws=>∃ (r:Nat) (blk' cp':Nat→Nat),r≤nn∧i=.int .i64 r∧xI ws H va r nn blk' cp' (fun i=>dvR op x (out i).toNat)∧Below H WL ws) (fun _ i _=>nn-(intOf i).toNat)
   case atStart=>exact ⟨0,_,_,by omega,rfl,xI.start _ _ _ _,Below.refl _ _⟩
   case round=>
    obtain ⟨r,blk',cp',hr,rfl,hg,hbl⟩:=hrel;have htb:=HTB.out.step (hbl.mono (by omega));obtain ⟨p0,p1,p2,pl'⟩:=htb.cells;by_cases hlt:r<nn
    ·obtain ⟨b,off,rfl,hbs,hc⟩:=HU.out (by omega);have d1:=hc r hlt;rw [← htb.2.cell (p:=⟨b,off+r,none⟩) hbs] at d1;obtain ⟨A,hA,hA2⟩:=yu (HS2.out r hlt);obtain ⟨d2,g1,g2⟩:=HGR.out.val A (by omega);have hDl:=HGR.out.lt;rw [← hbl.cell (p:=⟨D,A,none⟩) (by show D<H; omega)] at d2;have hAn:((out r).toNat)=A:=by omega
     rw [hA] at d1;have hsz:=hbl.size;have hgl:=hg.lt;have HG:=hid hg;have HGL:=hid hgl;obtain ⟨rs,hrs,-⟩:=hg.own;obtain ⟨va',vcap,rfl⟩:=ym hrs;have HRW:=hid (fun W (hW:Below wr.heap.size wr W)=>(((g1.below (hHe ▸ hbl) g1.lt.2).below hW (by have:=g1.lt.2; omega)).flts (by omega):zT W (.slice (some ⟨blk A,0,none⟩) nn (cp A)) nn (dvR op x A)));have HAL:=hid (al1 wr (.cells #[] 31));have a1:(A:Int)<(j:Int):=by omega
     have hHr:H≤wr.heap.size:=by omega
     have hbr:b<wr.heap.size:=by omega
     have hDr:D<wr.heap.size:=by omega
     clear hc hg hgl hrs rs g1 g2;have d2':(wr.alloc (.cells #[] 31)).cell? ⟨D,A,none⟩=some (.slice (some ⟨blk A,0,none⟩) nn (cp A)):=by rw [HAL.out.2.2.cell (p:=⟨D,A,none⟩) (by show D<wr.heap.size; omega)]; exact d2
     go_wp2_with (first
      | (refine t6 rfl (.tmp 178) (.tmp 186) rfl wr.heap.size wr.heap.size nn (cp A) (some ⟨blk A,0,none⟩) (dvR op x A) wr rfl rfl HAL.out.2.2 HAL.out.1 (Nat.le_refl _) (fun W c' hb=>by
        obtain ⟨a,c0,hv,h1,h2⟩:=HRW.out W hb;simp only [Value.slice.injEq] at hv;obtain ⟨rfl,-,rfl⟩:=hv;exact ⟨_,c',rfl,h1,h2⟩) (by omega) ?_)
      | fail)
     intro R rcap w2' hO hb2 _ _ hR2 _;have hRl:wr.heap.size≤R:=by omega
     have hg2:=HG.out.keep hb2 HGL.out.1 HGL.out.2;have hne:∀ i,i<r→blk' i≠R:=fun i hi=>by have:=HGL.out.2 i hi; omega
     have hne0:(Value.slice va' r vcap).ownBlock≠some R:=fun e=>by have:=HGL.out.1 R e; omega
     have hbl2:Below H WL w2':=hbl.trans (hb2.mono hHr);obtain ⟨rs,hrs,-⟩:=hg2.own;have HG2:=hid hg2;have HRS:=hid hrs;have HO':=hid (show yd w2' H R nn rcap (dvR op x (out r).toNat) by rw [hAn]; exact hO.base (by omega));have HNE:=hid (show (∀ i,i<r→blk' i≠R)∧(Value.slice va' r vcap).ownBlock≠some R from ⟨hne,hne0⟩);have hsz2:H≤w2'.heap.size:=by have:=hbl2.size; omega
     have HBL2:=hid hbl2;clear hO hb2 hR2 hg2 hne hne0 hrs hbl2 hbl htb
     go_wp2_with (first
      | (at_builtin; refine wpList_append_own_at _ rfl (.tmp 177) (.tmp 188) 35 rfl H 30 iS (.slice none 0 0) 1 24 Tryz.underlying35 HS0.out HS.out.1 HS.out.2.1 HS.out.2.2 rfl (by decide) (.slice va' r vcap) r rs rfl (HRS.out.alloc _) ⟨w2'.heap.size,0,none⟩ 1 1 [.slice (some ⟨R,0,none⟩) nn rcap] rfl rfl (uj w2' (.slice (some ⟨R,0,none⟩) nn rcap) 30 0) (by simp [Value.oneCell']) (by unfold maxLen; omega) (by omega) (by simp; omega) ?_)
      | go_in)
     intro v'' w3' hown'' hgrow _ hob;have hb3:Below H w2' w3':=((Below.refl H w2').alloc (by omega) _).trans (yv (HRS.out.alloc _) (Nat.le_refl _) (by simp; omega) hgrow)
     have hg3:=HG2.out.app HRS.out HO'.out HNE.out.2 HNE.out.1 ((Below.refl _ _).alloc (Nat.le_refl _) _) hgrow hown'' (fun k hk=>by
      rcases hob with e | e
      ·rw [e] at hk; exact .inl hk
      ·rw [e] at hk; simp only [Option.some.injEq] at hk; right; rw [← hk]; simp)
     have HG3:=hid hg3;have HB3:=hid (HBL2.out.trans hb3);clear hown'' hgrow hob hg3 hb3;go_wp2_with fail
     go_roundw
     case rel=>exact ⟨r+1,_,_,by omega,by go_num,HG3.out,HB3.out⟩
     case measure=>simp [intOf]; omega
    ·obtain rfl:r=nn:=by omega
     obtain ⟨G,c,hv,hG⟩:=hg.grid (by omega);have HGG:=hid (hG.base hHB);have HBB:=hid (HTB.out.2.trans (hbl.mono hHB));subst hv;clear hG hg hbl;go_wp2_with fail;go_ret;exact ⟨G,c,blk',cp',rfl,by rw [hB]; exact HGG.out,by rw [hB]; exact HBB.out⟩
end Go.Proofs.YtnlbafjmbamoeaaGreat
