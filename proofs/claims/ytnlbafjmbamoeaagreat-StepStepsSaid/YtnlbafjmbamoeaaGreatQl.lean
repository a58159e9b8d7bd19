/-
  Contracts (what a function tells) and plain facts that a law's proof hangs on, for every input; no condition but those in their statements. Laid together of the texts Sf, Sg, Sh, Si.
-/
import Derived.Test.YtnlbafjmbamoeaaGreatQh
import Derived.Test.YtnlbafjmbamoeaaGreatQk
namespace Go.Proofs.YtnlbafjmbamoeaaGreat
open Go.RowKit Lib
open Ieee (double)
attribute [local go_sem] zr zi zy zn zU zS zW zX zV zY zD zH zI zJ zK zB ye z8 zF yE zN zQ
theorem xN {w:World} {base R n cap:Nat} {E:TypeId} {rs:List Value} (h:w.ownsRow base E 1 (.slice (some ⟨R,0,none⟩) n cap) n rs):∃ arr,w.heap[R]? = some (.cells arr E (0,0)):=by
 rcases id h.2 with ⟨h2,-⟩ | ⟨g,c,cur,hv,hg,hh,-⟩
 ·cases h2
 ·simp only [Value.slice.injEq,Option.some.injEq,Addr.mk.injEq] at hv;obtain ⟨⟨rfl,-⟩,-,rfl⟩:=hv;exact ⟨_,hh⟩
structure Grd (w:World) (base G n m:Nat) (blk cap:Nat→Nat) (f:Nat→Nat→Nat):Prop where
 g:yD w base G n m blk cap f
 hd:∃ rs,w.ownsRow base 30 1 (.slice (some ⟨G,0,none⟩) n (cap n)) n rs
theorem Grd.ref {w:World} {base G n m:Nat} {blk cap:Nat→Nat} {f:Nat→Nat→Nat} (h:Grd w base G n m blk cap f):∀ i,i<n→w.cell? ⟨G,i,none⟩=some (.slice (some ⟨blk i,0,none⟩) m (cap i)):=h.g.ref
theorem Grd.row {w:World} {base G n m:Nat} {blk cap:Nat→Nat} {f:Nat→Nat→Nat} (h:Grd w base G n m blk cap f):∀ i,i<n→yd w base (blk i) m (cap i) (f i):=h.g.row
theorem Grd.below {w w':World} {base G n m:Nat} {blk cap:Nat→Nat} {f:Nat→Nat→Nat} (h:Grd w base G n m blk cap f) (hb:Below w.heap.size w w'):Grd w' base G n m blk cap f:=⟨h.g.below hb,by obtain ⟨rs,h2⟩:=h.hd; exact ⟨rs,yQ h2 (hb.block G h.g.hi)⟩⟩
theorem Grd.congr {w:World} {base G n m:Nat} {blk cap:Nat→Nat} {f g:Nat→Nat→Nat} (h:Grd w base G n m blk cap f) (e:∀ i j,i<n→j<m→f i j=g i j):Grd w base G n m blk cap g:=⟨h.g.congr e,h.hd⟩
theorem Grd.base {w:World} {base b' G n m:Nat} {blk cap:Nat→Nat} {f:Nat→Nat→Nat} (h:Grd w base G n m blk cap f) (hb:b'≤base):Grd w b' G n m blk cap f:=⟨h.g.base hb,by obtain ⟨rs,h2⟩:=h.hd; exact ⟨rs,ui h2 hb⟩⟩
theorem Grd.set {w:World} {base G n m:Nat} {blk cap:Nat→Nat} {f:Nat→Nat→Nat} (h:Grd w base G n m blk cap f) {i j y c:Nat} (hi:i<n) (hj:j<m) (h1:zk y=c) (h2:y<18446744073709551616):Grd (w.setCell ⟨blk i,j,none⟩ (.float .f64 y)) base G n m blk cap (xR f i j c):=
 ⟨h.g.set hi hj h1 h2,by obtain ⟨rs,h3⟩:=h.hd; exact ⟨rs,yQ h3 (Below.heap_setCell _ _ _ _ (fun e=>h.g.off i hi e.symm))⟩⟩
theorem Grd.tab {w:World} {base G n m c:Nat} {blk cap:Nat→Nat} {f:Nat→Nat→Nat} (h:Grd w base G n m blk cap f) (hn:n≤9223372036854775807) (hm:m≤9223372036854775807):yB w (.slice (some ⟨G,0,none⟩) n c) n (fun _=>m) f:=h.g.tab hn hm
def nz (n m:Nat) (f:Nat→Nat→Nat) (w:World) (e:Ending) (w':World):Prop:=∃ G c blk cap,e=.returned (.slice (some ⟨G,0,none⟩) n c)∧Grd w' w.heap.size G n m blk cap f∧Below w.heap.size w w'∧cap n=c
set_option maxRecDepth 100000
set_option maxHeartbeats 16000000
theorem vq (v:Value) (q n:Nat) (f:Nat→Nat→Nat) (w:World) (h:yB w v q (fun _=>n) f) (hq:1≤q) (hq7:q≤7) (h1:1≤n) (h8:n≤8) :
  Calls Tryz.prog 50 #[v] w (nz q n f w):=by
 obtain ⟨a,cap0,rfl,hn,hr⟩:=h;obtain ⟨b,off,rfl,hbs,hc⟩:=hr (by omega);have HC:=hid hc;obtain ⟨iF,hF,f1,f2,f3⟩:=info_parts xu;obtain ⟨iS,hS,s1,s2,s3⟩:=info_parts my;have HF:=hid (show iF.zero=_∧iF.size=_∧iF.bytes=_ from ⟨f1,f2,f3⟩);have HF0:=hid hF;have HS:=hid (show iS.zero=_∧iS.size=_∧iS.bytes=_ from ⟨s1,s2,s3⟩);have HS0:=hid hS;clear hF f1 f2 f3 hS s1 s2 s3 hr hc;go_enter Tryz.func50,Tryz.ntmps50;generalize hB:w.heap.size=B at *;go_wp2_with fail
 go_loopw [3,4] (fun va i wr=>∃ (r:Nat) (blk cap:Nat→Nat),r≤q∧i=.int .i64 r∧xI wr B va r n blk cap f∧Below B w wr) (fun _ i _=>q-(intOf i).toNat)
 case atStart=>exact ⟨0,_,_,by omega,rfl,xI.start _ _ _ _,Below.refl _ _⟩
 case round=>
  obtain ⟨r,blk,cap,hr,rfl,hg,hbl⟩:=hrel;by_cases hlt:r<q
  ·have hgl:=hg.lt;have hsz:=hbl.size;have HG:=hid hg;have HGL:=hid hgl;obtain ⟨rs,hrs,-⟩:=hg.own;obtain ⟨va',vcap,rfl⟩:=ym hrs;obtain ⟨u,hu,a2,cap2,rfl,hu2,hu3⟩:=HC.out r hlt;obtain ⟨b2,off2,rfl,hb2s,hfc⟩:=hu3 (by omega);have hw:∀ p o,p<B→wr.cell? ⟨p,o,none⟩=w.cell? ⟨p,o,none⟩:=fun p o hp=>hbl.cell (p:=⟨p,o,none⟩) hp
   rw [← hw _ _ hbs] at hu;obtain ⟨ys,y1,y2,y3,y4⟩:=vE (w:=wr) (b:=b2) (off:=off2) (n:=n) (f:=f r) (fun i hi=>(hfc i hi).same (hw _ _ (by rw [← hB]; exact hb2s)));have HY:=hid (show ys.length=n∧yO ys n (f r)∧(∀ j v,ys[j]? = some v→wr.cell? ⟨b2,off2+j,none⟩=some v)∧∀ v ∈ ys,v.oneCell'=true from ⟨y1,y2,y3,y4⟩);have hb2B:b2<B:=by rw [← hB]; exact hb2s
   clear hg hgl hrs rs hfc hu3 hw y1 y2 y3 y4;have hal:Below wr.heap.size wr (wr.alloc (.cells #[] 31)):=(Below.refl _ _).alloc (Nat.le_refl _) _;have hu':(wr.alloc (.cells #[] 31)).cell? ⟨b,off+r,none⟩=some (.slice (some ⟨b2,off2,none⟩) n cap2):=((zA hal).1 b (off+r) (by omega)).trans hu;have he:(wr.alloc (.cells #[] 31)).ownsRow B 31 1 (.slice (some ⟨wr.heap.size,0,none⟩) 0 0) 0 []:=⟨by simp,.inr ⟨_,0,#[],rfl,by omega,heap_alloc_new _ _,Nat.le_refl _,by unfold maxLen; omega,by simp,by simp⟩⟩
   have hn2:∀ j v,ys[j]? = some v→(wr.alloc (.cells #[] 31)).cell? ((⟨b2,off2,none⟩:Addr).add j)=some v:=fun j v hv=>by
    have e4:(⟨b2,off2,none⟩:Addr).add j=⟨b2,off2+j,none⟩:=by simp [Addr.add]
    rw [e4,(zA hal).1 b2 (off2+j) (by omega)];exact HY.out.2.2.1 j v hv
   have hH:(wr.alloc (.cells #[] 31)).heap.size=wr.heap.size+1:=by simp
   have HAL:=hid hal;have HE:=hid he;have HN2:=hid hn2;have HH:=hid hH;clear hal he hn2 hH hu
   go_wp2_with (first
    | (at_builtin; refine wpList_append_own_at _ rfl (.tmp 12) (.tmp 16) 30 rfl B 31 iF (.float .f64 0) 1 8 Tryz.underlying30 HF0.out HF.out.1 HF.out.2.1 HF.out.2.2 rfl (by decide) (.slice (some ⟨wr.heap.size,0,none⟩) 0 0) 0 [] rfl HE.out ⟨b2,off2,none⟩ n cap2 ys rfl (by rw [HY.out.1]; omega) HN2.out HY.out.2.2.2 (by unfold maxLen; omega) (by omega) (by rw [HH.out]; omega) ?_)
    | go_in)
   intro v' w2 hown' hgrow _ hob;obtain ⟨R,rcap,rfl,hO⟩:=HY.out.2.1.own hown' (by omega)
   have hRl:wr.heap.size≤R:=by
    rcases hob with e | e
    ·have:R=wr.heap.size:=by simpa [Value.ownBlock] using e
     omega
    ·have:R=(wr.alloc (.cells #[] 31)).heap.size:=by simpa [Value.ownBlock] using e
     have:=HH.out; omega
   have hb2:Below wr.heap.size wr w2:=HAL.out.trans (yv (base:=wr.heap.size) (E:=31) (size:=1) (n:=0) (qs:=[]) (v:=.slice (some ⟨wr.heap.size,0,none⟩) 0 0) ⟨by simp,.inr ⟨_,0,#[],rfl,Nat.le_refl _,heap_alloc_new _ _,Nat.le_refl _,by unfold maxLen; omega,by simp,by simp⟩⟩ (Nat.le_refl _) (by rw [HH.out]; omega) hgrow);have hg2:xI w2 B (.slice va' r vcap) r n blk cap f:=HG.out.keep hb2 HGL.out.1 HGL.out.2;have hne:∀ i,i<r→blk i≠R:=fun i hi=>by have:=HGL.out.2 i hi; omega
   have hne0:(Value.slice va' r vcap).ownBlock≠some R:=fun e=>by have:=HGL.out.1 R e; omega
   have hbl2:Below B w w2:=hbl.trans (hb2.mono (by omega));obtain ⟨rs,hrs,-⟩:=hg2.own;have hrl:=hrs.1;have HG2:=hid hg2;have HRS:=hid hrs;have HO:=hid hO;have HNE:=hid (show (∀ i,i<r→blk i≠R)∧_ from ⟨hne,hne0⟩);have hsz2:=hbl2.size;clear hown' hgrow hob hb2 hg2 hne hne0 hrs hO HAL HE HN2 HH hu'
   go_wp2_with (first
    | (at_builtin; refine wpList_append_own_at _ rfl (.tmp 11) (.tmp 18) 35 rfl B 30 iS (.slice none 0 0) 1 24 Tryz.underlying35 HS0.out HS.out.1 HS.out.2.1 HS.out.2.2 rfl (by decide) (.slice va' r vcap) r rs rfl (HRS.out.alloc _) ⟨w2.heap.size,0,none⟩ 1 1 [.slice (some ⟨R,0,none⟩) n rcap] rfl rfl (uj w2 (.slice (some ⟨R,0,none⟩) n rcap) 30 0) (by simp [Value.oneCell']) (by unfold maxLen; omega) (by omega) (by simp; omega) ?_)
    | go_in)
   intro v'' w3 hown'' hgrow _ hob;have hb3:Below B w2 w3:=((Below.refl B w2).alloc (by omega) _).trans (yv (HRS.out.alloc _) (Nat.le_refl _) (by simp; omega) hgrow)
   have hg3:=HG2.out.app HRS.out HO.out HNE.out.2 HNE.out.1 ((Below.refl _ _).alloc (Nat.le_refl _) _) hgrow hown'' (fun k hk=>by
    rcases hob with e | e
    ·rw [e] at hk; exact .inl hk
    ·rw [e] at hk; simp only [Option.some.injEq] at hk; right; rw [← hk]; simp)
   have HG3:=hid hg3;have HB3:=hid (hbl2.trans hb3);clear hown'' hgrow hob hg3 hb3;go_wp2_with fail
   go_roundw
   case rel=>exact ⟨r+1,_,_,by omega,by go_num,HG3.out,HB3.out⟩
   case measure=>simp [intOf]; omega
  ·obtain rfl:r=q:=by omega
   obtain ⟨G,c,hv,hG⟩:=hg.grid (by omega)
   have hty:∃ rs,wr.ownsRow B 30 1 (.slice (some ⟨G,0,none⟩) r c) r rs:=by
    obtain ⟨rs,h1,-⟩:=hg.own;rw [hv] at h1;exact ⟨rs,h1⟩
   have hG':yD wr B G r n blk (yy cap r c) f:=⟨fun i hi=>by rw [zG _ _ (by omega)]; exact hG.ref i hi,hG.free,fun i hi=>by rw [zG _ _ (by omega)]; exact hG.row i hi,hG.inj,hG.off,hG.lo,hG.hi⟩
   have HG:=hid (show Grd wr B G r n blk (yy cap r c) f from ⟨hG',by rw [zL]; exact hty⟩);subst hv;clear hG hg hty hG';go_wp2_with fail;go_ret;exact ⟨G,c,blk,yy cap r c,rfl,by rw [hB]; exact HG.out,by rw [hB]; exact hbl,zL _ _ _⟩
theorem rb (v:Value) (q n:Nat) (hq:1≤q) (hq6:q≤6) (h1:1≤n) (h4:n≤4) (z:Nat→Nat→Nat) (w:World) (h:yB w v (q+1) (fun _=>n) z) :
  Calls Tryz.prog 25 #[v] w (nz (q+1) n (wG z q) w):=by
 have CP:=hid (vq v (q+1) n z w h (by omega) (by omega) h1 (by omega));have hv:∃ a cap,v=.slice a (q+1) cap:=by obtain ⟨a,cap,e,-⟩:=h; exact ⟨a,cap,e⟩
 obtain ⟨a,cap,rfl⟩:=hv;have hw1:IntKind.i64.wrap (((q:Int)+1)-1)=(q:Int):=by rw [show ((q:Int)+1)-1=q by omega]; exact IntWalk.i64_in _ (by omega)
 clear h;go_enter Tryz.func25,Tryz.ntmps25;generalize hB:w.heap.size=B at *;go_wp2_with fail;refine CP.out.mono ?_;rintro e w2 ⟨G,cG,blk,cp,rfl,hg,hb2,hcc⟩;have HCC:=hid hcc;clear hcc;have HG:=hid (hB ▸ hg);have HB2:=hid (hB ▸ hb2);clear hg hb2;go_wp2_with fail
 go_loopw [5] (fun j wr=>∃ c:Nat,c≤q∧j=.int .i64 ((c:Int)+1)∧Grd wr B G (q+1) n blk cp (prF z q c)∧Below B w wr) (fun j _=>q+2-(intOf j).toNat)
 case atStart=>exact ⟨0,by omega,rfl,HG.out,HB2.out⟩
 case round=>
  clear HG HB2;obtain ⟨c,hc,rfl,hg,hbl⟩:=hrel;by_cases hcq:c<q
  ·have HG:=hid hg;have HBL:=hid hbl;have hci:(c:Int)+1≤(q:Int):=by omega
   have hw2:IntKind.i64.wrap ((q:Int)-1)=(q:Int)-1:=IntWalk.i64_in _ (by omega);clear hg hbl;go_wp2_with fail
   go_loopw [6] (fun kk wr=>∃ (e:Nat) (t:Int),e≤q-c∧kk=.int .i64 t∧t=(q:Int)-1-e∧Grd wr B G (q+1) n blk cp (inF (prF z q c) q e)∧Below B w wr) (fun kk _=>(intOf kk+1).toNat)
   case atStart=>exact ⟨0,_,by omega,rfl,by omega,HG.out,HBL.out⟩
   case round=>
    clear HG HBL;obtain ⟨e,t,he,rfl,ht,hg,hbl⟩:=hrel;by_cases heq:e<q-c
    ·obtain ⟨K,rfl⟩:∃ K:Nat,(K:Int)=t:=⟨t.toNat,by omega⟩;have hK:K=q-1-e:=by omega
     have hstep:inF (prF z q c) q (e+1)=sQ (inF (prF z q c) q e) K:=by rw [inF,hK]
     have HST:=hid hstep;obtain ⟨F1,hF1⟩:∃ F,inF (prF z q c) q e=F:=⟨_,rfl⟩;rw [hF1] at hg HST;have hKc:c≤K:=by omega
     have hKi:(c:Int)≤(K:Int):=by omega
     have hKq:K+1<q+1:=by omega
     have HKE:=hid (show (K:Int)=(q:Int)-1-e by omega);have hw4:IntKind.i64.wrap ((K:Int)+1)=(K:Int)+1:=IntWalk.i64_in _ (by omega);have hKi1:(K:Int)<(q:Int)+1:=by omega
     have hKi0:(0:Int)≤(K:Int)+1:=by omega
     have hKi2:(K:Int)<(q:Int):=by omega
     have hKq1:K<q+1:=by omega
     have HG:=hid hg;have HBL:=hid hbl;clear hg hbl hstep ht hK hF1;go_wp2_with fail
     go_loopw [7] (fun ii wr=>∃ i:Nat,i≤n∧ii=.int .i64 i∧Grd wr B G (q+1) n blk cp (us F1 K i)∧Below B w wr) (fun ii _=>n-(intOf ii).toNat)
     case atStart=>exact ⟨0,by omega,rfl,HG.out.congr (fun a b _ _=>(sX F1 K a b).symm),HBL.out⟩
     case round=>
      clear HG HBL;obtain ⟨i,hi,rfl,hg,hbl⟩:=hrel;have g1:=hg.ref K hKq1;by_cases hin:i<n
      ·have g2:=hg.ref (K+1) hKq;obtain ⟨y,y1,y2,y3⟩:=(hg.row K hKq1).cell hin;obtain ⟨u,u1,u2,u3⟩:=(hg.row (K+1) hKq).cell hin;rw [(sx F1 K i).1] at y2;rw [(sx F1 K i).2] at u2;have r1:=(hg.row K hKq1).free i;have K1:=hid (fun w=>sY (op:=.add) w y2 u2);have hRB:=(hg.row K hKq1).lt.1;have HG:=hid hg;have HBL:=hid hbl;have hin':(i:Int)<(n:Int):=by omega
       clear hg hbl y2 u2;go_wp2_with fail;refine zw [(0,1),(1,1),(2,1),(3,2),(4,1),(5,1),(6,1),(7,1),(8,2),(9,1),(10,1),(11,2),(12,1),(13,1),(14,1),(15,1),(16,2),(17,1),(18,1),(19,2),(20,0),(21,1),(22,0)] (by kernel_rfl) (by kernel_rfl) (fun _ _ d _ _ h=>by cases d<;>exact h) ?_;intro Z hZ;have hz:∀ b o,Z.cell? ⟨b,o,none⟩=wr.cell? ⟨b,o,none⟩:=fun b o=>by rw [hZ]; rfl
       have hz2:∀ b o,Z.frozen? ⟨b,o,none⟩=wr.frozen? ⟨b,o,none⟩:=fun b o=>by rw [hZ]; rfl
       have HZ:=hid (show Grd Z B G (q+1) n blk cp (us F1 K i)∧Below B w Z by rw [hZ]; exact ⟨HG.out.below (Below.refl _ _).drew,HBL.out.drew⟩);rw [← hz] at g1 g2 y1 u1;rw [← hz2] at r1;clear hZ hz hz2 HG HBL
       iterate 20
        first
         | refine zd (fun K hK=>?_)
         | refine ze (fun K hK=>?_)
        go_simp;refine hK _ ?_;clear hK K
       refine zx (fun K hK=>?_);go_simp;refine hK _ _ (fun _=>⟨_,rfl⟩) ?_;clear hK K
       iterate 1
        first
         | refine zd (fun K hK=>?_)
         | refine ze (fun K hK=>?_)
        go_simp;refine hK _ ?_;clear hK K
       refine zx (fun K hK=>?_);go_simp;refine hK _ _ (fun h=>Bool.noConfusion (Eq.trans (Eq.symm (by kernel_rfl:_=false)) h)) ?_;clear hK K;refine zo ?_;have REL:=hid (show Grd _ B G (q+1) n blk cp (xR (us F1 K i) K i (cop .add (F1 K i) (F1 (K+1) i)))∧Below B w _ from ⟨(HZ.out.1.set hKq1 hin (K1.out Z) (yi _ _ _ _)).below (below_drewN (Below.refl _ _) (zP .add y u)),below_drewN (HZ.out.2.setCell (p:=⟨blk K,i,none⟩) hRB (.float .f64 (zZ .add Z y u))) (zP .add y u)⟩);go_wp2_with fail
       go_roundw
       case rel=>exact ⟨i+1,by omega,by go_num,REL.out.1.congr (fun a b _ _=>rZ F1 K i a b),REL.out.2⟩
       case measure=>simp [intOf]; omega
      ·obtain rfl:n=i:=by omega
       have HG:=hid (hg.congr (g:=inF (prF z q c) q (e+1)) (fun a b _ hb=>by rw [pu _ _ _ _ _ hb,HST.out]));have HBL:=hid hbl;have hw3:IntKind.i64.wrap ((K:Int)-1)=(K:Int)-1:=IntWalk.i64_in _ (by omega);clear hg hbl;go_wp2_with fail
       go_roundw
       case rel=>exact ⟨e+1,_,by omega,rfl,by have:=HKE.out; omega,HG.out,HBL.out⟩
       case measure=>simp [intOf]<;>omega
    ·have HG:=hid (show Grd wr B G (q+1) n blk cp (prF z q (c+1)) by rw [prF,← show e=q-c by omega]; exact hg);have HBL:=hid hbl;have hKi:¬ (c:Int)≤t:=by omega
     clear hg hbl ht;go_wp2_with fail
     go_roundw
     case rel=>exact ⟨c+1,by omega,by go_num,HG.out,HBL.out⟩
     case measure=>simp [intOf]; omega
  ·obtain rfl:c=q:=by omega
   have hci:¬ (c:Int)+1≤(c:Int):=by omega
   have HG:=hid hg;have HBL:=hid hbl;clear hg hbl;go_wp2_with fail;go_ret;exact ⟨G,cG,blk,cp,rfl,by rw [hB]; exact HG.out,by rw [hB]; exact HBL.out,HCC.out⟩
theorem wS (v:Value) (q n:Nat) (s:Int) (hs:-40≤s∧s≤40) (hq:1≤q) (hq7:q≤7) (h1:1≤n) (h4:n≤4) (z:Nat→Nat→Nat) (w:World) (h:yB w v q (fun _=>n) z) :
  Calls Tryz.prog 44 #[v,.int .i64 s] w (nz q n (xZ z s) w):=by
 have CP:=hid (vq v q n z w h hq hq7 h1 (by omega));have hv:∃ a cap,v=.slice a q cap:=by obtain ⟨a,cap,e,-⟩:=h; exact ⟨a,cap,e⟩
 obtain ⟨a,cap,rfl⟩:=hv;clear h;go_enter Tryz.func44,Tryz.ntmps44;generalize hB:w.heap.size=B at *;go_wp2_with fail;refine CP.out.mono ?_;rintro e w2 ⟨G,cG,blk,cp,rfl,hg,hb2,hcc⟩;have HCC:=hid hcc;clear hcc;have HG:=hid (hB ▸ hg);have HB2:=hid (hB ▸ hb2);clear hg hb2;go_wp2_with fail
 go_loopw [6] (fun j wr=>∃ c:Nat,c≤q∧j=.int .i64 (c:Int)∧Grd wr B G q n blk cp (xQ (xZ z s) z c 0)∧Below B w wr) (fun j _=>q-(intOf j).toNat)
 case atStart=>exact ⟨0,by omega,rfl,HG.out.congr (fun a b _ _=>(vW _ _ a b).symm),HB2.out⟩
 case round=>
  clear HG HB2;obtain ⟨c,hc,rfl,hg,hbl⟩:=hrel;by_cases hcq:c<q
  ·have HG:=hid hg;have HBL:=hid hbl;have hci:(c:Int)<(q:Int):=by omega
   clear hg hbl;go_wp2_with fail
   go_loopw [7] (fun kk wr=>∃ i:Nat,i≤n∧kk=.int .i64 i∧Grd wr B G q n blk cp (xQ (xZ z s) z c i)∧Below B w wr) (fun kk _=>n-(intOf kk).toNat)
   case atStart=>exact ⟨0,by omega,rfl,HG.out,HBL.out⟩
   case round=>
    clear HG HBL;obtain ⟨i,hi,rfl,hg,hbl⟩:=hrel;have g1:=hg.ref c hcq;by_cases hin:i<n
    ·obtain ⟨y,y1,y2,y3⟩:=(hg.row c hcq).cell hin;rw [sw] at y2;have r1:=(hg.row c hcq).free i;have hRB:=(hg.row c hcq).lt.1;obtain ⟨t,ht⟩:∃ t:Int,(c:Int)*s=t:=⟨_,rfl⟩
     have ht2:-240≤t∧t≤240:=by
      rw [← ht];have h6:(c:Int)≤6:=by omega
      have h0:(0:Int)≤(c:Int):=by omega
      constructor
      ·have:=Int.mul_le_mul_of_nonneg_left hs.1 h0;omega
      ·have:=Int.mul_le_mul_of_nonneg_left hs.2 h0;omega
     have hw:IntKind.i64.wrap ((c:Int)*s)=t:=by rw [ht]; exact IntWalk.i64_in _ (by omega)
     have K1:=hid (show zk (yR y t)=xZ z s c i∧yR y t<18446744073709551616 from ⟨by unfold xZ; rw [ht]; exact mT y2 t,pp y3⟩);have HG:=hid hg;have HBL:=hid hbl;have hin':(i:Int)<(n:Int):=by omega
     clear hg hbl y2 ht;go_wp2_with fail;refine zw [(0,1),(1,1),(2,1),(3,2),(4,1),(5,1),(6,1),(7,1),(8,2),(9,1),(10,1),(11,2),(12,1),(13,1),(14,1),(15,0),(16,1),(17,0)] (by kernel_rfl) (by kernel_rfl) (fun _ _ d _ _ h=>by cases d<;>exact h) ?_;intro Z hZ;have hz:∀ b o,Z.cell? ⟨b,o,none⟩=wr.cell? ⟨b,o,none⟩:=fun b o=>by rw [hZ]; rfl
     have hz2:∀ b o,Z.frozen? ⟨b,o,none⟩=wr.frozen? ⟨b,o,none⟩:=fun b o=>by rw [hZ]; rfl
     have HZ:=hid (show Grd Z B G q n blk cp (xQ (xZ z s) z c i)∧Below B w Z by rw [hZ]; exact ⟨HG.out.below (Below.refl _ _).drew,HBL.out.drew⟩);rw [← hz] at g1 y1;rw [← hz2] at r1;clear hZ hz hz2 HG HBL
     iterate 15
      first
       | refine zd (fun K hK=>?_)
       | refine ze (fun K hK=>?_)
      go_simp;refine hK _ ?_;clear hK K
     refine zx (fun K hK=>?_);go_simp;refine (oO y t _ y3 (by omega) (by omega)).mono ?_;rintro e w' ⟨rfl,rfl⟩;refine hK _ _ (fun _=>⟨0,rfl⟩) ?_;clear hK K
     iterate 1
      first
       | refine zd (fun K hK=>?_)
       | refine ze (fun K hK=>?_)
      go_simp;refine hK _ ?_;clear hK K
     refine zx (fun K hK=>?_);go_simp;refine hK _ _ (fun h=>Bool.noConfusion (Eq.trans (Eq.symm (by kernel_rfl:_=false)) h)) ?_;clear hK K;refine zo ?_;have REL:=hid (show Grd _ B G q n blk cp (xR (xQ (xZ z s) z c i) c i (xZ z s c i))∧Below B w _ from ⟨HZ.out.1.set hcq hin K1.out.1 K1.out.2,HZ.out.2.setCell (p:=⟨blk c,i,none⟩) hRB (.float .f64 (yR y t))⟩);go_wp2_with fail
     go_roundw
     case rel=>exact ⟨i+1,by omega,by go_num,REL.out.1.congr (fun a b _ _=>tC _ _ c i a b),REL.out.2⟩
     case measure=>simp [intOf]; omega
    ·obtain rfl:n=i:=by omega
     have HG:=hid (hg.congr (g:=xQ (xZ z s) z (c+1) 0) (fun a b _ hb=>tA _ _ c n a b hb));have HBL:=hid hbl;clear hg hbl;go_wp2_with fail
     go_roundw
     case rel=>exact ⟨c+1,by omega,by go_num,HG.out,HBL.out⟩
     case measure=>simp [intOf]<;>omega
  ·obtain rfl:c=q:=by omega
   have HG:=hid (hg.congr (g:=xZ z s) (fun a b ha _=>tB _ _ c a b ha));have HBL:=hid hbl;clear hg hbl;go_wp2_with fail;go_ret;exact ⟨G,cG,blk,cp,rfl,by rw [hB]; exact HG.out,by rw [hB]; exact HBL.out,HCC.out⟩
theorem rd (v vl vd:Value) (q n:Nat) (hq:1≤q) (hq7:q≤7) (h1:1≤n) (h4:n≤4) (z:Nat→Nat→Nat) (l d:Nat→Nat) (w:World) (h:yB w v q (fun _=>n) z) (hl:zT w vl q l) (hd:zT w vd n d) :
  Calls Tryz.prog 30 #[v,vl,vd] w (nz q n (wb z l d) w):=by
 have CP:=hid (vq v q n z w h hq hq7 h1 (by omega));have hv:∃ a cap,v=.slice a q cap:=by obtain ⟨a,cap,e,-⟩:=h; exact ⟨a,cap,e⟩
 obtain ⟨a,cap,rfl⟩:=hv;obtain ⟨bl,ol,cl,rfl,hbl1,hlr⟩:=hl.numAt (by omega);obtain ⟨bd,od,cd,rfl,hbd1,hdr⟩:=hd.numAt (by omega);have HLR:=hid hlr;have HDR:=hid hdr;clear h hl hd hlr hdr;go_enter Tryz.func30,Tryz.ntmps30;generalize hB:w.heap.size=B at *;go_wp2_with fail;refine CP.out.mono ?_;rintro e w2 ⟨G,cG,blk,cp,rfl,hg,hb2,hcc⟩;have HCC:=hid hcc;clear hcc;have HG:=hid (hB ▸ hg);have HB2:=hid (hB ▸ hb2);clear hg hb2;go_wp2_with fail
 go_loopw [8] (fun j wr=>∃ c:Nat,c≤q∧j=.int .i64 (c:Int)∧Grd wr B G q n blk cp (xQ (wb z l d) z c 0)∧Below B w wr) (fun j _=>q-(intOf j).toNat)
 case atStart=>exact ⟨0,by omega,rfl,HG.out.congr (fun a b _ _=>(vW _ _ a b).symm),HB2.out⟩
 case round=>
  clear HG HB2;obtain ⟨c,hc,rfl,hg,hbl⟩:=hrel;by_cases hcq:c<q
  ·have HG:=hid hg;have HBL:=hid hbl;have hci:(c:Int)<(q:Int):=by omega
   clear hg hbl;go_wp2_with fail
   go_loopw [9] (fun kk wr=>∃ i:Nat,i≤n∧kk=.int .i64 i∧Grd wr B G q n blk cp (xQ (wb z l d) z c i)∧Below B w wr) (fun kk _=>n-(intOf kk).toNat)
   case atStart=>exact ⟨0,by omega,rfl,HG.out,HBL.out⟩
   case round=>
    clear HG HBL;obtain ⟨i,hi,rfl,hg,hbl⟩:=hrel;by_cases hin:i<n
    ·have g1:=hg.ref c hcq;obtain ⟨y,y1,y2,y3⟩:=(hg.row c hcq).cell hin;rw [sw] at y2;obtain ⟨x,x1,x2,x3⟩:=HLR.out c hcq;obtain ⟨u,u1,u2,u3⟩:=HDR.out i hin;rw [← hbl.cell (p:=⟨bl,ol+c,none⟩) hbl1] at x1;rw [← hbl.cell (p:=⟨bd,od+i,none⟩) hbd1] at u1;have r1:=(hg.row c hcq).free i;have hRB:=(hg.row c hcq).lt.1;have K1:=hid (fun w v=>qv w v y2 x2 u2);have HG:=hid hg;have HBL:=hid hbl;have hin':(i:Int)<(n:Int):=by omega
     clear hg hbl y2 x2 u2;go_wp2_with fail;refine zw [(0,1),(1,1),(2,1),(3,2),(4,1),(5,1),(6,1),(7,2),(8,0),(9,1)] (by kernel_rfl) (by kernel_rfl) (fun _ _ d _ _ h=>by cases d<;>exact h) ?_;intro Z hZ;have hz:∀ b o,Z.cell? ⟨b,o,none⟩=wr.cell? ⟨b,o,none⟩:=fun b o=>by rw [hZ]; rfl
     have HZ:=hid (show Grd Z B G q n blk cp (xQ (wb z l d) z c i)∧Below B w Z∧(∀ b o,Z.cell? ⟨b,o,none⟩=wr.cell? ⟨b,o,none⟩)∧∀ b o,Z.frozen? ⟨b,o,none⟩=wr.frozen? ⟨b,o,none⟩ by rw [hZ]; exact ⟨HG.out.below (Below.refl _ _).drew,HBL.out.drew,fun _ _=>rfl,fun _ _=>rfl⟩);rw [← hz] at x1 u1;clear hZ hz HG HBL
     iterate 8
      first
       | refine zd (fun K hK=>?_)
       | refine ze (fun K hK=>?_)
      go_simp;refine hK _ ?_;clear hK K
     refine zx (fun K hK=>?_);go_simp;refine hK _ _ (fun _=>⟨_,rfl⟩) ?_;clear hK K
     iterate 1
      first
       | refine zd (fun K hK=>?_)
       | refine ze (fun K hK=>?_)
      go_simp;refine hK _ ?_;clear hK K
     refine zo ?_;generalize hM:zZ .mul Z x u=M at *;have HM:=hid hM;have HX:=hid (show Grd (Z.drewN (zP .mul x u)) B G q n blk cp (xQ (wb z l d) z c i)∧Below B w (Z.drewN (zP .mul x u))∧(∀ b o,(Z.drewN (zP .mul x u)).cell? ⟨b,o,none⟩=wr.cell? ⟨b,o,none⟩)∧∀ b o,(Z.drewN (zP .mul x u)).frozen? ⟨b,o,none⟩=wr.frozen? ⟨b,o,none⟩ from ⟨HZ.out.1.below (below_drewN (Below.refl _ _) _),below_drewN HZ.out.2.1 _,HZ.out.2.2.1,HZ.out.2.2.2⟩);clear hM HZ x1 u1;generalize Z.drewN (zP .mul x u)=Z2 at *;rw [← HX.out.2.2.1] at g1 y1;rw [← HX.out.2.2.2] at r1;go_wp2_with fail;refine zw [(0,1),(1,1),(2,1),(3,2),(4,1),(5,1),(6,1),(7,1),(8,2),(9,1),(10,1),(11,2),(12,1),(13,0),(14,1),(15,0)] (by kernel_rfl) (by kernel_rfl) (fun _ _ d _ _ h=>by cases d<;>exact h) ?_;intro Y hY;have hz:∀ b o,Y.cell? ⟨b,o,none⟩=Z2.cell? ⟨b,o,none⟩:=fun b o=>by rw [hY]; rfl
     have hz2:∀ b o,Y.frozen? ⟨b,o,none⟩=Z2.frozen? ⟨b,o,none⟩:=fun b o=>by rw [hY]; rfl
     have HY:=hid (show Grd Y B G q n blk cp (xQ (wb z l d) z c i)∧Below B w Y by rw [hY]; exact ⟨HX.out.1.below (Below.refl _ _).drew,HX.out.2.1.drew⟩);rw [← hz] at g1 y1;rw [← hz2] at r1;clear hY hz hz2 HX
     iterate 13
      first
       | refine zd (fun K hK=>?_)
       | refine ze (fun K hK=>?_)
      go_simp;refine hK _ ?_;clear hK K
     refine zx (fun K hK=>?_);go_simp;refine hK _ _ (fun _=>⟨_,rfl⟩) ?_;clear hK K
     iterate 1
      first
       | refine zd (fun K hK=>?_)
       | refine ze (fun K hK=>?_)
      go_simp;refine hK _ ?_;clear hK K
     refine zx (fun K hK=>?_);go_simp;refine hK _ _ (fun h=>Bool.noConfusion (Eq.trans (Eq.symm (by kernel_rfl:_=false)) h)) ?_;clear hK K;refine zo ?_;have REL:=hid (show Grd _ B G q n blk cp (xR (xQ (wb z l d) z c i) c i (wb z l d c i))∧Below B w _ from ⟨(HY.out.1.set hcq hin (show zk (zZ .add Y y M)=wb z l d c i by rw [← HM.out]; exact K1.out Y Z) (yi _ _ _ _)).below (below_drewN (Below.refl _ _) (zP .add y M)),below_drewN (HY.out.2.setCell (p:=⟨blk c,i,none⟩) hRB (.float .f64 (zZ .add Y y M))) (zP .add y M)⟩);go_wp2_with fail
     go_roundw
     case rel=>exact ⟨i+1,by omega,by go_num,REL.out.1.congr (fun a b _ _=>tC _ _ c i a b),REL.out.2⟩
     case measure=>simp [intOf]; omega
    ·obtain rfl:n=i:=by omega
     have HG:=hid (hg.congr (g:=xQ (wb z l d) z (c+1) 0) (fun a b _ hb=>tA _ _ c n a b hb));have HBL:=hid hbl;clear hg hbl;go_wp2_with fail
     go_roundw
     case rel=>exact ⟨c+1,by omega,by go_num,HG.out,HBL.out⟩
     case measure=>simp [intOf]<;>omega
  ·obtain rfl:c=q:=by omega
   have HG:=hid (hg.congr (g:=wb z l d) (fun a b ha _=>tB _ _ c a b ha));have HBL:=hid hbl;clear hg hbl;go_wp2_with fail;go_ret;exact ⟨G,cG,blk,cp,rfl,by rw [hB]; exact HG.out,by rw [hB]; exact HBL.out,HCC.out⟩
end Go.Proofs.YtnlbafjmbamoeaaGreat
namespace Go.Proofs.YtnlbafjmbamoeaaGreat
open Go.RowKit Lib
open Ieee (double)
attribute [local go_sem] zr zi zy zn zU zS zW zX zV zY zD zH zI zJ zK zB ye z8 zF yE zN zQ zR
theorem mZ (w:World) {h f c d:Nat} (h1:zk h=c) (h2:zk f=d):zk (zZ .mul w h f)=cop .mul c d:=sY w h1 h2
theorem put5 {w:World} {k:Nat} {t:TypeId} {u0 u1 u2 u3 u4:Value} (h:w.heap[k]? = some (.cells #[u0,u1,u2,u3,u4] t)) (v0 v1 v2 v3 v4:Value):(((((w.setCell ⟨k,0,none⟩ v0).setCell ⟨k,1,none⟩ v1).setCell ⟨k,2,none⟩ v2).setCell ⟨k,3,none⟩ v3).setCell ⟨k,4,none⟩ v4).heap[k]? = some (.cells #[v0,v1,v2,v3,v4] t):=
 zp (zp (zp (zp (zp h v0) v1) v2) v3) v4
theorem yl {w:World} {k:Nat} {t:TypeId} {u0 u1 u2 u3 u4:Value} (h:w.heap[k]? = some (.cells #[u0,u1,u2,u3,u4] t)):w.cell? ⟨k,0,none⟩=some u0∧w.cell? ⟨k,1,none⟩=some u1∧w.cell? ⟨k,2,none⟩=some u2∧w.cell? ⟨k,3,none⟩=some u3∧w.cell? ⟨k,4,none⟩=some u4:=by
 refine ⟨?_,?_,?_,?_,?_⟩<;>(rw [zf h]; rfl)
theorem row2 {W:World} {base G:Nat} {u v:Value} {t:TypeId} (h:W.heap[G]? = some (.cells #[u,v] t)) (hG:base≤G):W.ownsRow base t 1 (.slice (some ⟨G,0,none⟩) 2 2) 2 [u,v]:=
 ⟨rfl,.inr ⟨G,2,#[u,v],rfl,hG,h,Nat.le_refl _,by unfold maxLen; omega,by simp,by simp⟩⟩
theorem grid2 {W:World} {base G R0 R1 c0 c1 n:Nat} {t:TypeId} {f:Nat→Nat→Nat} (h:W.heap[G]? = some (.cells #[.slice (some ⟨R0,0,none⟩) n c0,.slice (some ⟨R1,0,none⟩) n c1] t)) (hG:base≤G) (h0:yd W base R0 n c0 (f 0)) (h1:yd W base R1 n c1 (f 1)) (hne:R0≠R1) (n0:R0≠G) (n1:R1≠G) :
  yD W base G 2 n (fun i=>if i=0 then R0 else R1) (fun i=>if i=0 then c0 else if i=1 then c1 else 2) f:=by
 have two:∀ i,i<2→i=0∨i=1:=fun i hi=>by omega
 refine ⟨fun i hi=>?_,fun i _=>zg h i,fun i hi=>?_,fun i j hi hj=>?_,fun i hi=>?_,hG,zj h⟩
 ·rcases two i hi with rfl | rfl
  ·rw [zf h]; rfl
  ·rw [zf h]; rfl
 ·rcases two i hi with rfl | rfl
  ·exact h0
  ·exact h1
 ·rcases two i hi with rfl | rfl<;>rcases two j hj with rfl | rfl
  ·exact fun _=>rfl
  ·exact fun e=>absurd e hne
  ·exact fun e=>absurd e.symm hne
  ·exact fun _=>rfl
 ·rcases two i hi with rfl | rfl
  ·exact n0
  ·exact n1
set_option maxRecDepth 100000
set_option maxHeartbeats 16000000
theorem tF (n:Nat) (T:TD) (vo vu vy:Value) (y:Nat→Nat) (t:Int) (w:World) (hT:yG w (.agg #[.int .i64 n,vo,vu]) T) (hy:zT w vy n y)
  (hck:yq T=true) (hcs:∀ i,i<T.len→(T.op i).c<18446744073709551616) (hn:T.n=n) (h1:1≤n) (h4:n≤4) :
  Calls Tryz.prog 31 #[.agg #[.int .i64 n,vo,vu],vy,.int .i64 t] w fun e w'=>∃ G c blk cap,e=.returned (.agg #[.int .i64 0,.int .i64 t,.int .i64 1,.int .i64 0,.slice (some ⟨G,0,none⟩) 2 c])∧Grd w' w.heap.size G 2 n blk cap (xq T y (xh t))∧Below w.heap.size w w'∧cap 2=c:=by
 have hlo:=rQ hck hn;have EV:=hid (fun (W:World) (hb:Below w.heap.size w W)=>uM T (.agg #[.int .i64 n,vo,vu]) vy y W (hT.below hb) hck hcs n hn (hy.below hb));rw [hlo.1] at EV;have LN:=hid (fun W=>ve t W);obtain ⟨by0,oy,cy,rfl,hby,hyr⟩:=hy.numAt (by omega);have HYR:=hid hyr;obtain ⟨iF,hF,f1,f2,f3⟩:=info_parts xu;have HF:=hid (show iF.zero=_∧iF.size=_∧iF.bytes=_ from ⟨f1,f2,f3⟩);have HF0:=hid hF;have AL:=al2 w (.cells #[.int .i64 n,vo,vu] 28) (.cells #[.int .i64 0,.int .i64 0,.int .i64 0,.int .i64 0,.slice none 0 0] 37);clear hT hy hck hcs hyr hF f1 f2 f3 hlo;go_enter Tryz.func31,Tryz.ntmps31;go_upto_region 1 with fail
 generalize hB:w.heap.size=B at *;generalize (w.alloc (.cells #[.int .i64 n,vo,vu] 28)).alloc (.cells #[.int .i64 0,.int .i64 0,.int .i64 0,.int .i64 0,.slice none 0 0] 37)=X at *;obtain ⟨x1,x2,x4,x5⟩:=AL;have p0:=zf x1 0;have p1:=zf x1 1;have p2:=zf x1 2;simp only [List.getElem?_toArray,List.getElem?_cons_zero,List.getElem?_cons_succ] at p0 p1 p2;have HX2:=hid x2;clear x1 x2;go_wp2_with fail;refine (EV.out X x5).mono ?_;rintro e w3 ⟨vf,rfl,hf,hb3⟩;obtain ⟨bf,of,cf,rfl,hbf,hfr⟩:=(show zT w3 vf n _ from hf).numAt (by omega);have HFR:=hid hfr;have hb3s:=hb3.size;have HB3:=hid hb3;clear hf hfr hb3 p0 p1 p2;go_wp2_with fail;generalize hHe:w3.heap.size=H at *
 go_loopw [8,9] (fun vr i wr=>∃ (e:Nat) (qs:List Value),e≤n∧i=.int .i64 e∧wr.ownsRow H 31 1 vr e qs∧yO qs e (xq T y (xh t) 1)∧Below H w3 wr) (fun _ i _=>n-(intOf i).toNat)
 case atStart=>exact ⟨0,[],by omega,rfl,World.ownsRow_nil _ _ _ _,yO.nil _ _,Below.refl _ _⟩
 case round=>
  obtain ⟨e,qs,he,rfl,ho,hq,hbl⟩:=hrel;obtain ⟨va,vcap,rfl⟩:=ym ho;by_cases hen:e<n
  ·obtain ⟨y1,z1,z2,z3⟩:=HFR.out e hen;have hsz2:=hbl.size;have HO:=hid ho;have HQ:=hid hq;have HBL2:=hid hbl;have HZ2:=hid z2;have e1:(e:Int)<(n:Int):=by omega
   clear z2 ho hq hbl;go_wp2_with fail;refine zv [(0,1),(1,1),(3,1),(4,1),(5,1),(6,3),(2,0),(7,0),(8,0),(9,0),(10,1)] (fun W=>Below H w3 W) (by kernel_rfl) (by kernel_rfl) (fun _ _ d _ _ h=>by cases d<;>exact h) (HBL2.out.drew) ?_;intro Z hZ hbZ;have HOZ:=hid (show Z.ownsRow H 31 1 (.slice va e vcap) e qs by rw [hZ]; exact yp HO.out 1);have hsZ:H≤Z.heap.size:=by have:=hbZ.size; omega
   clear hZ
   iterate 5
    first
     | refine zd (fun K hK=>?_)
     | refine ze (fun K hK=>?_)
    go_simp;refine hK _ ?_;clear hK K
   refine zh (v:=.float .f64 y1) rfl rfl (fun wk hwk=>?_) ?_
   ·rw [← hwk.cell (p:=⟨bf,of+e,none⟩) (by show bf<H; omega)] at z1;go_simp
   refine zm (fun K hK=>?_);go_simp;refine (LN.out Z).mono ?_;rintro e' w' ⟨h,nd,rfl,k1,k2,rfl⟩;have hbA:Below H w3 (Z.drewN nd):=below_drewN hbZ nd;refine hK _ _ (fun h=>Bool.noConfusion (Eq.trans (Eq.symm (by kernel_rfl:_=false)) h)) (fun _=>hbA) ?_;clear hK K;have hOA:=yp HOZ.out nd;have hsA:H≤(Z.drewN nd).heap.size:=hsZ;have K1:=hid (fun w=>(mZ w k1 HZ2.out));have HOA:=hid hOA;clear hbZ hOA hsZ HOZ k1;generalize Z.drewN nd=Y at *;refine zm (fun K hK=>?_);go_simp;refine hK _ _ (fun h=>Bool.noConfusion (Eq.trans (Eq.symm (by kernel_rfl:_=false)) h)) (fun _=>below_drewN hbA _) ?_;clear hK K;refine zm (fun K hK=>?_);go_simp;have hbZ2:Below H w3 ((Y.alloc (.cells #[.float .f64 (zZ .mul Y h y1)] 31)).drewN (zP .mul h y1)):=below_drewN (hbA.alloc hsA _) _;refine hK _ _ (fun h=>Bool.noConfusion (Eq.trans (Eq.symm (by kernel_rfl:_=false)) h)) (fun _=>hbZ2) ?_;clear hK K;refine zm (fun K hK=>?_);refine xt rfl ?_;refine tQ (by rfl) _ _ (by rfl) H (.slice va e vcap) e qs (by rfl) (yp (HOA.out.alloc _) _) Y.heap.size (zZ .mul Y h y1) (by rfl) (by show (Y.alloc _).cell? _=_; rw [World.cell?_alloc_new]; rfl) (by omega) (by rw [wR]; simp; omega) (fun gg cap w' hown' hb'=>?_);have hb2:Below H w3 w':=hbZ2.trans hb';refine hK _ _ (fun h=>Bool.noConfusion (Eq.trans (Eq.symm (by kernel_rfl:_=false)) h)) (fun _=>hb2) ?_;clear hK K
   iterate 1
    first
     | refine zd (fun K hK=>?_)
     | refine ze (fun K hK=>?_)
    go_simp;refine hK _ ?_;clear hK K
   refine zo ?_;have hql:=HO.out.1;have HQ':=hid (HQ.out.app (by omega) ((K1.out Y).trans (show cop .mul (xh t) (evR T.op y (T.out e).toNat)=xq T y (xh t) 1 e from (if_neg (by decide)).symm)) (yi _ _ _ _));have HO':=hid hown';have HB2:=hid hb2;clear hown' hb' hb2 hbA hbZ2 z1;go_wp2_with fail
   go_roundw
   case rel=>exact ⟨e+1,_,by omega,by go_num,HO'.out,HQ'.out,HB2.out⟩
   case measure=>simp [intOf]; omega
  ·obtain rfl:e=n:=by omega
   obtain ⟨R1,rc1,hv,hO1⟩:=hq.own ho (by omega);simp only [Value.slice.injEq] at hv;obtain ⟨rfl,-,rfl⟩:=hv;have HO1:=hid hO1;have HBL:=hid hbl;have hbw:Below B w wr:=(x5.trans (HB3.out.mono (by omega))).trans (hbl.mono (by omega));have hsz:=hbl.size;obtain ⟨ys,y1,y2,y3,y4⟩:=vE (w:=wr) (b:=by0) (off:=oy) (n:=e) (f:=y) (fun i hi=>(HYR.out i hi).same (hbw.cell (p:=⟨by0,oy+i,none⟩) (by show by0<B; omega)));have HYS:=hid (show ys.length=e∧yO ys e y∧(∀ j v,ys[j]? = some v→wr.cell? ⟨by0,oy+j,none⟩=some v)∧∀ v ∈ ys,v.oneCell'=true from ⟨y1,y2,y3,y4⟩);have HBW:=hid hbw;have hbyw:by0<wr.heap.size:=by omega
   clear ho hq hbl hO1 y1 y2 y3 y4 hbw;have hal:Below wr.heap.size wr (wr.alloc (.cells #[] 31)):=(Below.refl _ _).alloc (Nat.le_refl _) _;have he:(wr.alloc (.cells #[] 31)).ownsRow wr.heap.size 31 1 (.slice (some ⟨wr.heap.size,0,none⟩) 0 0) 0 []:=⟨by simp,.inr ⟨_,0,#[],rfl,Nat.le_refl _,heap_alloc_new _ _,Nat.le_refl _,by unfold maxLen; omega,by simp,by simp⟩⟩
   have hn2:∀ j v,ys[j]? = some v→(wr.alloc (.cells #[] 31)).cell? ((⟨by0,oy,none⟩:Addr).add j)=some v:=fun j v hv=>by
    have e4:(⟨by0,oy,none⟩:Addr).add j=⟨by0,oy+j,none⟩:=by simp [Addr.add]
    rw [e4,(zA hal).1 by0 (oy+j) hbyw];exact HYS.out.2.2.1 j v hv
   have hH:(wr.alloc (.cells #[] 31)).heap.size=wr.heap.size+1:=by simp
   have HAL:=hid hal;have HE:=hid he;have HN2:=hid hn2;have HH:=hid hH;clear hal he hn2 hH
   go_wp2_with (first
    | (at_builtin; refine wpList_append_own_at _ rfl (.tmp 30) (.tmp 31) 30 rfl wr.heap.size 31 iF (.float .f64 0) 1 8 Tryz.underlying30 HF0.out HF.out.1 HF.out.2.1 HF.out.2.2 rfl (by decide) (.slice (some ⟨wr.heap.size,0,none⟩) 0 0) 0 [] rfl HE.out ⟨by0,oy,none⟩ e cy ys rfl (by rw [HYS.out.1]; omega) HN2.out HYS.out.2.2.2 (by unfold maxLen; omega) (by omega) (by rw [HH.out]; omega) ?_)
    | go_in)
   intro v' w2 hown' hgrow _ hob;obtain ⟨R,rcap,rfl,hO⟩:=HYS.out.2.1.own hown' (by omega);have hb2:Below wr.heap.size wr w2:=HAL.out.trans (yv HE.out (Nat.le_refl _) (by rw [HH.out]; omega) hgrow);have HO:=hid hO;have HO12:=hid (HO1.out.below hb2 HO1.out.lt.2);have hRl:=hO.lt;have hR1l:=HO1.out.lt;have HB2:=hid (HBW.out.trans (hb2.mono (by omega)));have hq:=(((hb2.block (B+1) (by omega)).trans (HBL.out.block (B+1) (by omega))).trans (HB3.out.block (B+1) (by omega))).trans HX2.out;have q0:=zf hq 0;have q1:=zf hq 1;have q2:=zf hq 2;have q3:=zf hq 3;have q4:=zf hq 4;have f0:=zg hq 0;have f1:=zg hq 1;have f2:=zg hq 2;have f3:=zg hq 3;have f4:=zg hq 4;simp only [List.getElem?_toArray,List.getElem?_cons_zero,List.getElem?_cons_succ] at q0 q1 q2 q3 q4;have hNl:=zj hq;have hP:=put5 hq (.int .i64 0) (.int .i64 t) (.int .i64 1) (.int .i64 0) (.slice (some ⟨w2.heap.size,0,none⟩) 2 2);have HP:=hid hP;clear hq hP;clear hown' hgrow hob hb2 hO HAL HE HN2 HH;have hk:=((((((zM.refl w2 (B+1)).set 0 (.int .i64 0)).set 1 (.int .i64 t)).set 2 (.int .i64 1)).set 3 (.int .i64 0)).set 4 (.slice (some ⟨w2.heap.size,0,none⟩) 2 2))
   have FIN:=hid (fun (Y:World) (hY:Y.heap.size=w2.heap.size) (hk:zM w2 (B+1) Y) (hP:Y.heap[B+1]? = some (.cells #[.int .i64 0,.int .i64 t,.int .i64 1,.int .i64 0,.slice (some ⟨w2.heap.size,0,none⟩) 2 2] 37)) (o:Obj) (ho:o=.cells #[.slice (some ⟨R,0,none⟩) e rcap,.slice (some ⟨R1,0,none⟩) e vcap] 30)=>(show Grd (Y.alloc o) B w2.heap.size 2 e (fun i=>if i=0 then R else R1) (fun i=>if i=0 then rcap else if i=1 then vcap else 2) (xq T y (xh t))∧Below B w (Y.alloc o)∧(Y.alloc o).heap[B+1]? = some (.cells #[.int .i64 0,.int .i64 t,.int .i64 1,.int .i64 0,.slice (some ⟨w2.heap.size,0,none⟩) 2 2] 37) from by
    subst ho;have a1:=al1 Y (.cells #[.slice (some ⟨R,0,none⟩) e rcap,.slice (some ⟨R1,0,none⟩) e vcap] 30);have k0:yd Y wr.heap.size R e rcap y:=HO.out.kept (hk.block R hRl.2 (by omega));have k1:yd Y H R1 e vcap (xq T y (xh t) 1):=HO12.out.kept (hk.block R1 HO12.out.lt.2 (by omega));have hw2:=HB2.out.size;refine ⟨⟨grid2 (by rw [← hY]; exact a1.1) (by omega) (((k0.below a1.2.2 k0.lt.2).base (by omega)).congr (fun j _=>by unfold xq; rw [if_pos rfl])) ((k1.below a1.2.2 k1.lt.2).base (by omega)) (by omega) (by omega) (by have:=HO12.out.lt; omega),⟨_,row2 (by rw [← hY]; exact a1.1) (by omega)⟩⟩,?_⟩;exact ⟨(hk.below HB2.out (by omega) (by omega)).trans (a1.2.2.mono (by omega)),(a1.2.2.block (B+1) (by omega)).trans hP⟩))
   have FIN2:=hid (FIN.out _ (by simp [World.setCell]) hk HP.out _ rfl);obtain ⟨r0,r1,r2,r3,r4⟩:=yl FIN2.out.2.2;clear hk FIN HP;go_wp2_with fail;refine bodyPost_ret (v:=.agg #[.int .i64 0,.int .i64 t,.int .i64 1,.int .i64 0,.slice (some ⟨w2.heap.size,0,none⟩) 2 2]) (by simp [results,Tryz.results31,go_sem,r0,r1,r2,r3,r4]) rfl ⟨w2.heap.size,2,_,_,rfl,by rw [hB]; exact FIN2.out.1,by rw [hB]; exact FIN2.out.2.1,rfl⟩
theorem qy (k i P H F n:Nat) (h:Nat) (c:Nat) (vy vf:Value) (y f:Nat→Nat) (w:World) (hi:i<n) (hh:zk h=c) (hy:zT w vy n y) (hf:zT w vf n f) (hp:w.cell? ⟨P,0,none⟩=some vy) (hp2:w.cell? ⟨H,0,none⟩=some (.float .f64 h)) (hp3:w.cell? ⟨F,0,none⟩=some vf) :
  Calls Tryz.prog 131 #[.int .i64 k,.int .i64 i,.pointer (some ⟨P,0,none⟩),.pointer (some ⟨H,0,none⟩),.pointer (some ⟨F,0,none⟩)] w (xY (if k=0 then y i else cop .mul c (f i)) w):=by
 obtain ⟨by0,oy,cy,rfl,-,hy2⟩:=hy.numAt (by omega);obtain ⟨bf,of,cf,rfl,-,hf2⟩:=hf.numAt (by omega);obtain ⟨u,u1,u2,u3⟩:=hy2 i hi;obtain ⟨x,x1,x2,x3⟩:=hf2 i hi;have K1:=hid (fun w=>sY (op:=.mul) w hh x2);have HU:=hid u2;clear hy hf hy2 hf2 x2 u2 hh;by_cases hk:k=0
 ·subst hk;have h0:((0:Int)==0)=true:=rfl;go_enter Tryz.func131,Tryz.ntmps131;go_wp2_with fail;go_ret;exact ⟨u,rfl,HU.out,u3,Below.refl _ _⟩
 ·rw [if_neg hk];have h0:((k:Int)==0)=false:=by simp; omega
  go_enter Tryz.func131,Tryz.ntmps131;go_wp2_with fail;refine zw [(0,2),(1,2),(2,1),(3,1),(4,2),(5,0),(6,1)] (by kernel_rfl) (by kernel_rfl) (fun _ _ d _ _ h=>by cases d<;>exact h) ?_;intro Z hZ;have hz:∀ b o,Z.cell? ⟨b,o,none⟩=w.cell? ⟨b,o,none⟩:=fun b o=>by rw [hZ]; rfl
  have HZ:=hid (show Below w.heap.size w Z by rw [hZ]; exact (Below.refl _ _).drew);rw [← hz] at hp hp2 hp3 x1;clear hZ hz
  iterate 5
   first
    | refine zd (fun K hK=>?_)
    | refine ze (fun K hK=>?_)
   go_simp;refine hK _ ?_;clear hK K
  refine zx (fun K hK=>?_);go_simp;refine hK _ _ (fun _=>⟨_,rfl⟩) ?_;clear hK K
  iterate 1
   first
    | refine zd (fun K hK=>?_)
    | refine ze (fun K hK=>?_)
   go_simp;refine hK _ ?_;clear hK K
  refine zo ?_;go_wp2_with fail;go_ret;exact ⟨_,rfl,K1.out _,yi _ _ _ _,below_drewN HZ.out _⟩
structure lL (w0:World) (n:Nat) (l:Nat) (f:Nat→Nat) (L:Nat→Bool) (w:World) (v1 v4 v5 v6:Value):Prop where
 b:Below w0.heap.size w0 w
 o7:L 7=true→L 5=true∧L 4=true
 o8:L 8=true→L 6=true∧L 7=true
 ne:L 4=true→L 5=true→∀ R P,v4=.slice (some ⟨R,0,none⟩) n n→v5=.pointer (some ⟨P,0,none⟩)→P≠R
 nq:L 4=true→L 6=true→∀ R P,v4=.slice (some ⟨R,0,none⟩) n n→v6=.pointer (some ⟨P,0,none⟩)→P≠R
 h1:L 1=true→∃ h,v1=.float .f64 h∧zk h=l
 h4:L 4=true→∃ R,v4=.slice (some ⟨R,0,none⟩) n n∧yd w w0.heap.size R n n f
 h5:L 5=true→L 7=false→∃ P,v5=.pointer (some ⟨P,0,none⟩)∧w0.heap.size≤P∧w.heap[P]? = some (.cells #[.float .f64 0] 31)
 h6:L 6=true→L 8=false→∃ P,v6=.pointer (some ⟨P,0,none⟩)∧w0.heap.size≤P∧w.heap[P]? = some (.cells #[.slice none 0 0] 30)
 h7:L 7=true→∃ P h,v5=.pointer (some ⟨P,0,none⟩)∧zk h=l∧w.heap[P]? = some (.cells #[.float .f64 h] 31)
 h8:L 8=true→∃ P R,v6=.pointer (some ⟨P,0,none⟩)∧w.heap[P]? = some (.cells #[.slice (some ⟨R,0,none⟩) n n] 30)∧yd w w0.heap.size R n n f
theorem pG (n:Nat) (T:TD) (vo vu vy:Value) (y:Nat→Nat) (k:Nat) (hk:k<43) (w:World) (hT:yG w (.agg #[.int .i64 n,vo,vu]) T) (hy:zT w vy n y)
  (hck:yq T=true) (hcs:∀ i,i<T.len→(T.op i).c<18446744073709551616) (hn:T.n=n) (h1:1≤n) (h4:n≤4) :
  Calls Tryz.prog 113 #[.agg #[.int .i64 n,vo,vu],vy,.int .i64 ((2 ^ k:Nat):Int)] w fun e w'=>∃ G A,e=.returned (.agg #[.int .i64 0,.int .i64 ((2 ^ k:Nat):Int),.int .i64 1,.int .i64 0,.slice (some ⟨G,0,none⟩) 2 2])∧yL w' w.heap.size G A 2 n (xq T y (xh ((2 ^ k:Nat):Int)))∧Below w.heap.size w w':=by
 have CK:=hid (fun (W:World) (hb:Below w.heap.size w W)=>(wu T _ W (hT.below hb)).mono fun _ _ h=>h.eq (by rw [hck]));have EV:=hid (fun (W:World) (hb:Below w.heap.size w W)=>qV T (.agg #[.int .i64 n,vo,vu]) vy y W (hT.below hb) hck hcs n hn (hy.below hb));have LN:=hid (fun W=>vV ((2 ^ k:Nat):Int) W);have IS:=hid (fun W=>wI k hk W);have HY:=hid hy;obtain ⟨by0,oy,cy,rfl,hby,-⟩:=hy.numAt (by omega);obtain ⟨t,ht⟩:∃ t:Int,((2 ^ k:Nat):Int)=t:=⟨_,rfl⟩;simp only [ht] at *;have AL:=al3 w (.cells #[.int .i64 n,vo,vu] 28) (.cells #[.slice (some ⟨by0,oy,none⟩) n cy] 30) (.cells #[.int .i64 0,.int .i64 0,.int .i64 0,.int .i64 0,.slice none 0 0] 37);have hne:((n:Int) != n)=false:=by simp
 clear hT hck hcs ht hk hy;go_enter Tryz.func113,Tryz.ntmps113;go_upto_region 1 with fail
 generalize hB:w.heap.size=B at *;generalize ((w.alloc (.cells #[.int .i64 n,vo,vu] 28)).alloc (.cells #[.slice (some ⟨by0,oy,none⟩) n cy] 30)).alloc (.cells #[.int .i64 0,.int .i64 0,.int .i64 0,.int .i64 0,.slice none 0 0] 37)=X at *;obtain ⟨x1,x2,x3,x4,x5⟩:=AL;have p0:=zf x1 0;have p1:=zf x1 1;have p2:=zf x1 2;have s0:=zf x2 0;simp only [List.getElem?_toArray,List.getElem?_cons_zero,List.getElem?_cons_succ] at p0 p1 p2 s0;have HX1:=hid x1;have HX2:=hid x2;have HX3:=hid x3;clear x1 x2 x3;go_wp2_with fail;refine (CK.out X x5).mono ?_;rintro e w1 ⟨rfl,hb1⟩;have hs1:=hb1.size;rw [← hb1.cell (p:=⟨B,0,none⟩) (by show B<X.heap.size; omega)] at p0;rw [← hb1.cell (p:=⟨B,1,none⟩) (by show B<X.heap.size; omega)] at p1;rw [← hb1.cell (p:=⟨B,2,none⟩) (by show B<X.heap.size; omega)] at p2;rw [← hb1.cell (p:=⟨B+1,0,none⟩) (by show B+1<X.heap.size; omega)] at s0;have HB1:=hid hb1;clear hb1;go_wp2_with fail;refine (IS.out w1).mono ?_;rintro e w2 ⟨rfl,hb2⟩;have hs2:=hb2.size;rw [← hb2.cell (p:=⟨B,0,none⟩) (by show B<w1.heap.size; omega)] at p0;rw [← hb2.cell (p:=⟨B,1,none⟩) (by show B<w1.heap.size; omega)] at p1;rw [← hb2.cell (p:=⟨B,2,none⟩) (by show B<w1.heap.size; omega)] at p2;rw [← hb2.cell (p:=⟨B+1,0,none⟩) (by show B+1<w1.heap.size; omega)] at s0;have HB2:=hid (HB1.out.trans (hb2.mono HB1.out.size));clear hb2;have HBX:=hid (show Below B w w2 from x5.trans (HB2.out.mono (by omega)));have HLT:=hid (show B<w2.heap.size∧B+1<w2.heap.size from ⟨by omega,by omega⟩);go_upto_region 3 with fail
 go_cut [7,8] (fun a b wx=>∃ (P2 Q2 R h:Nat),a=.pointer (some ⟨P2,0,none⟩)∧b=.pointer (some ⟨Q2,0,none⟩)∧wx.heap[P2]? = some (.cells #[.float .f64 h] 31)∧wx.heap[Q2]? = some (.cells #[.slice (some ⟨R,0,none⟩) n n] 30)∧yd wx w2.heap.size R n n (fun i=>evR T.op y (T.out i).toNat)∧zk h=xh t∧Below w2.heap.size w2 wx)
 case first=>
  refine uO [(0,1),(2,3),(3,3)] [1,4,5,6,7,8] [2,3] [(4,[1]),(7,[1,4,5]),(8,[4,6,7])] (fun W=>Below w2.heap.size w2 W) (fun L a w=>∃ v1 v4 v5 v6:Value,a=⟨#[.agg #[.int .i64 n,vo,vu],.slice (some ⟨by0,oy,none⟩) n cy,.int .i64 t,.pointer (some ⟨B,0,none⟩),.pointer (some ⟨B+1,0,none⟩),undef,.pointer (some ⟨B+1+1,0,none⟩),v5,v6,undef,.agg #[.int .i64 n,vo,vu],.bool true,.bool false,.bool false,.slice (some ⟨by0,oy,none⟩) n cy,.int .i64 n,.pointer (some ⟨B,0,none⟩),.int .i64 n,.bool false,.bool false,.bool false,.int .i64 t,.bool true,.bool false,.bool false,undef,.int .i64 t,v1,.agg #[.int .i64 n,vo,vu],.slice (some ⟨by0,oy,none⟩) n cy,v4,undef,undef,undef,undef,undef,undef,undef],[]⟩∧lL w2 n (xh t) (fun i=>evR T.op y (T.out i).toNat) L w v1 v4 v5 v6) (by kernel_rfl) (by kernel_rfl) (fun _ _ d _ _ h=>by cases d<;>exact h) ((Below.refl _ _).drew)
   (.cons ?o1 (.cons ?o4 (.cons ?o5 (.cons ?o6 (.cons ?o7 (.cons ?o8 .nil)))))) ?fin ?ini
  case ini=>
   intro Z hZ hbZ;clear hZ;refine re (fun K hK=>?_);go_simp;refine hK _ ?_;clear hK K;refine rf (v:=.agg #[.int .i64 n,vo,vu]) rfl rfl (fun wk hwk=>?_) ?_
   ·rw [← (zA hwk).1 _ _ HLT.out.1] at p0 p1 p2;go_simp
   refine rf (v:=.slice (some ⟨by0,oy,none⟩) n cy) rfl rfl (fun wk hwk=>?_) ?_
   ·rw [← (zA hwk).1 _ _ HLT.out.2] at s0;go_simp
   refine r6 fun L hL=>⟨_,_,_,_,rfl,hbZ,?_,?_,?_,?_,?_,?_,?_,?_,?_,?_⟩
   ·exact fun h=>absurd h (by rw [hL 7 (by decide)]; decide)
   ·exact fun h=>absurd h (by rw [hL 8 (by decide)]; decide)
   ·exact fun h=>absurd h (by rw [hL 4 (by decide)]; decide)
   ·exact fun h=>absurd h (by rw [hL 4 (by decide)]; decide)
   ·exact fun h=>absurd h (by rw [hL 1 (by decide)]; decide)
   ·exact fun h=>absurd h (by rw [hL 4 (by decide)]; decide)
   ·exact fun h=>absurd h (by rw [hL 5 (by decide)]; decide)
   ·exact fun h=>absurd h (by rw [hL 6 (by decide)]; decide)
   ·exact fun h=>absurd h (by rw [hL 7 (by decide)]; decide)
   ·exact fun h=>absurd h (by rw [hL 8 (by decide)]; decide)
  case o1=>
   rintro L a w hL hd ⟨v1,v4,v5,v6,rfl,hI⟩ K hK;go_simp;refine (LN.out w).mono ?_;rintro e Vx ⟨h,nd,rfl,k1,k2,rfl⟩;have hst:=below_drewN (Below.refl w.heap.size w) nd;have hb:=hI.b.trans (hst.mono hI.b.size);exact hK _ _ (fun _=>hb) ⟨_,_,_,_,rfl,hb,hI.o7,hI.o8,hI.ne,hI.nq,fun _=>⟨h,rfl,k1⟩,fun h=>by obtain ⟨R,e,g⟩:=hI.h4 h; exact ⟨R,e,g.below hst g.lt.2⟩,fun h g=>by obtain ⟨P,e,g1,g2⟩:=hI.h5 h g; exact ⟨P,e,g1,(hst.block P (zj g2)).trans g2⟩,fun h g=>by obtain ⟨P,e,g1,g2⟩:=hI.h6 h g; exact ⟨P,e,g1,(hst.block P (zj g2)).trans g2⟩,fun h=>by obtain ⟨P,x,e,g1,g2⟩:=hI.h7 h; exact ⟨P,x,e,g1,(hst.block P (zj g2)).trans g2⟩,fun h=>by obtain ⟨P,R,e,g1,g2⟩:=hI.h8 h; exact ⟨P,R,e,(hst.block P (zj g1)).trans g1,g2.below hst g2.lt.2⟩⟩
  case o4=>
   rintro L a w hL hd ⟨v1,v4,v5,v6,rfl,hI⟩ K hK;go_simp;refine (EV.out w (HBX.out.trans (hI.b.mono (show B≤w2.heap.size by have:=HBX.out.size; omega)))).mono ?_;rintro e w' ⟨R,rfl,hu,hst⟩;have hb:=hI.b.trans (hst.mono hI.b.size);have hlt:=hu.lt.1;exact hK _ _ (fun _=>hb) ⟨_,_,_,_,rfl,hb,fun h=>⟨(hI.o7 h).1,rfl⟩,hI.o8,fun _ h5 R' P e1 e2=>by obtain ⟨P',e,-,g⟩:=hI.h5 h5 (Bool.eq_false_iff.2 fun h=>absurd ((hI.o7 h).2.symm.trans hL) (by decide)); cases e1; cases e.symm.trans e2; exact Nat.ne_of_lt (Nat.lt_of_lt_of_le (zj g) hlt),fun _ h6 R' P e1 e2=>by obtain ⟨P',e,-,g⟩:=hI.h6 h6 (Bool.eq_false_iff.2 fun h=>absurd ((hI.o7 (hI.o8 h).2).2.symm.trans hL) (by decide)); cases e1; cases e.symm.trans e2; exact Nat.ne_of_lt (Nat.lt_of_lt_of_le (zj g) hlt),hI.h1,fun _=>⟨R,rfl,hu.base (b':=w2.heap.size) (Nat.le_trans hI.b.size hlt)⟩,fun h g=>by obtain ⟨P,e,g1,g2⟩:=hI.h5 h g; exact ⟨P,e,g1,(hst.block P (zj g2)).trans g2⟩,fun h g=>by obtain ⟨P,e,g1,g2⟩:=hI.h6 h g; exact ⟨P,e,g1,(hst.block P (zj g2)).trans g2⟩,fun h=>by obtain ⟨P,x,e,g1,g2⟩:=hI.h7 h; exact ⟨P,x,e,g1,(hst.block P (zj g2)).trans g2⟩,fun h=>by obtain ⟨P,R,e,g1,g2⟩:=hI.h8 h; exact ⟨P,R,e,(hst.block P (zj g1)).trans g1,g2.below hst g2.lt.2⟩⟩
  case o5=>
   rintro L a w hL hd ⟨v1,v4,v5,v6,rfl,hI⟩ K hK;go_simp;obtain ⟨y1,y2,hst⟩:=al1 w (.cells #[.float .f64 0] 31);have hb:=hI.b.trans (hst.mono hI.b.size);exact hK _ _ (fun _=>hb) ⟨_,_,_,_,rfl,hb,fun h=>absurd ((hI.o7 h).1.symm.trans hL) (by decide),hI.o8,fun h4 _ R' P e1 e2=>by obtain ⟨R,e,g⟩:=hI.h4 h4; cases e2; cases e.symm.trans e1; exact Ne.symm (Nat.ne_of_lt g.lt.2),hI.nq,hI.h1,fun h=>by obtain ⟨R,e,g⟩:=hI.h4 h; exact ⟨R,e,g.below hst g.lt.2⟩,fun _ _=>⟨_,rfl,hI.b.size,y1⟩,fun h g=>by obtain ⟨P,e,g1,g2⟩:=hI.h6 h g; exact ⟨P,e,g1,(hst.block P (zj g2)).trans g2⟩,fun h=>absurd ((hI.o7 h).1.symm.trans hL) (by decide),fun h=>by obtain ⟨P,R,e,g1,g2⟩:=hI.h8 h; exact ⟨P,R,e,(hst.block P (zj g1)).trans g1,g2.below hst g2.lt.2⟩⟩
  case o6=>
   rintro L a w hL hd ⟨v1,v4,v5,v6,rfl,hI⟩ K hK;go_simp;obtain ⟨y1,y2,hst⟩:=al1 w (.cells #[.slice none 0 0] 30);have hb:=hI.b.trans (hst.mono hI.b.size);exact hK _ _ (fun _=>hb) ⟨_,_,_,_,rfl,hb,hI.o7,fun h=>absurd ((hI.o8 h).1.symm.trans hL) (by decide),hI.ne,fun h4 _ R' P e1 e2=>by obtain ⟨R,e,g⟩:=hI.h4 h4; cases e2; cases e.symm.trans e1; exact Ne.symm (Nat.ne_of_lt g.lt.2),hI.h1,fun h=>by obtain ⟨R,e,g⟩:=hI.h4 h; exact ⟨R,e,g.below hst g.lt.2⟩,fun h g=>by obtain ⟨P,e,g1,g2⟩:=hI.h5 h g; exact ⟨P,e,g1,(hst.block P (zj g2)).trans g2⟩,fun _ _=>⟨_,rfl,hI.b.size,y1⟩,fun h=>by obtain ⟨P,x,e,g1,g2⟩:=hI.h7 h; exact ⟨P,x,e,g1,(hst.block P (zj g2)).trans g2⟩,fun h=>absurd ((hI.o8 h).1.symm.trans hL) (by decide)⟩
  case o7=>
   rintro L a w hL hd ⟨v1,v4,v5,v6,rfl,hI⟩ K hK;obtain ⟨h,rfl,hh⟩:=hI.h1 (hd 1 (by decide));obtain ⟨P,rfl,hP,hp⟩:=hI.h5 (hd 5 (by decide)) hL;obtain ⟨R,rfl,hR⟩:=hI.h4 (hd 4 (by decide));have c0:=zf hp 0;have f0:=zg hp 0;simp only [List.getElem?_toArray,List.getElem?_cons_zero] at c0;go_simp;have hb:=hI.b.setCell (p:=⟨P,0,none⟩) hP (.float .f64 h);have hz:=zp (o:=0) hp (.float .f64 h);have hoth:∀ k,P≠k→(w.setCell ⟨P,0,none⟩ (.float .f64 h)).heap[k]? = w.heap[k]?:=fun k hk=>Below.heap_setCell _ _ _ _ (Ne.symm hk)
   exact hK _ _ (fun _=>hb) ⟨_,_,_,_,rfl,hb,fun _=>⟨hd 5 (by decide),hd 4 (by decide)⟩,fun h=>⟨(hI.o8 h).1,rfl⟩,hI.ne,hI.nq,fun _=>⟨h,rfl,hh⟩,fun _=>⟨R,rfl,hR.other (hI.ne (hd 4 (by decide)) (hd 5 (by decide)) _ _ rfl rfl) _⟩,fun _ g=>Bool.noConfusion g,fun h6 g=>by obtain ⟨P',e,g1,g2⟩:=hI.h6 h6 g; exact ⟨P',e,g1,(hoth P' (sh hp g2 (by decide))).trans g2⟩,fun _=>⟨P,h,rfl,hh,hz⟩,fun h8=>absurd ((hI.o8 h8).2.symm.trans hL) (by decide)⟩
  case o8=>
   rintro L a w hL hd ⟨v1,v4,v5,v6,rfl,hI⟩ K hK;obtain ⟨P,rfl,hP,hp⟩:=hI.h6 (hd 6 (by decide)) hL;obtain ⟨R,rfl,hR⟩:=hI.h4 (hd 4 (by decide));have c0:=zf hp 0;have f0:=zg hp 0;simp only [List.getElem?_toArray,List.getElem?_cons_zero] at c0;go_simp;have hb:=hI.b.setCell (p:=⟨P,0,none⟩) hP (.slice (some ⟨R,0,none⟩) n n);have hz:=zp (o:=0) hp (.slice (some ⟨R,0,none⟩) n n);have hoth:∀ k,P≠k→(w.setCell ⟨P,0,none⟩ (.slice (some ⟨R,0,none⟩) n n)).heap[k]? = w.heap[k]?:=fun k hk=>Below.heap_setCell _ _ _ _ (Ne.symm hk)
   exact hK _ _ (fun _=>hb) ⟨_,_,_,_,rfl,hb,hI.o7,fun _=>⟨hd 6 (by decide),hd 7 (by decide)⟩,hI.ne,hI.nq,hI.h1,fun _=>⟨R,rfl,hR.other (hI.nq (hd 4 (by decide)) (hd 6 (by decide)) _ _ rfl rfl) _⟩,fun _ g=>absurd ((show L 7=false from g).symm.trans (hd 7 (by decide))) (by decide),fun _ g=>Bool.noConfusion g,fun h7=>by obtain ⟨P',x,e,g1,g2⟩:=hI.h7 h7; exact ⟨P',x,e,g1,(hoth P' (sh hp g2 (by decide))).trans g2⟩,fun _=>⟨P,R,rfl,hz,hR.other (hI.nq (hd 4 (by decide)) (hd 6 (by decide)) _ _ rfl rfl) _⟩⟩
  case fin=>
   rintro L a w hL ⟨v1,v4,v5,v6,rfl,hI⟩;obtain ⟨P,h,rfl,hh,hp⟩:=hI.h7 (hL 7 (by decide));obtain ⟨Q,R,rfl,hq,hev⟩:=hI.h8 (hL 8 (by decide));have hb:=hI.b;clear hI hL;go_wp2_with fail;go_meet;exact ⟨P,Q,R,h,rfl,rfl,hp,hq,hev,hh,hb⟩
 case rest=>
  obtain ⟨P2,Q2,R,h,rfl,rfl,hp,hq,hev,hh,hbl⟩:=hcut;have hsb:=HBX.out.size;have hsw:=hbl.size;rw [← hbl.cell (p:=⟨B,0,none⟩) (by show B<w2.heap.size; omega)] at p0;rw [← hbl.cell (p:=⟨B+1,0,none⟩) (by show B+1<w2.heap.size; omega)] at s0;have c1:=zf hp 0;have c2:=zf hq 0;simp only [List.getElem?_toArray,List.getElem?_cons_zero] at c1 c2;have hbB:Below B w wc:=HBX.out.trans (hbl.mono (by omega));have hp1:=zj hp;have hq1:=zj hq;have hx3:=(hbl.block (B+2) (by omega)).trans ((HB2.out.block (B+2) (by omega)).trans HX3.out);have HEV:=hid hev
  have MD:=hid (sS 131 #[.pointer (some ⟨B+1,0,none⟩),.pointer (some ⟨P2,0,none⟩),.pointer (some ⟨Q2,0,none⟩)] 2 n (by omega) h1 h4 (xq T y (xh t)) wc (fun _ _ _=>rfl) (fun k i W hk hi hW=>(qy k i (B+1) P2 Q2 n h (xh t) _ _ y _ W hi hh (HY.out.below (hB ▸ (hbB.trans (hW.mono (by omega))))) ((HEV.out.flts (by omega)).below hW)
   ((hW.cell (p:=⟨B+1,0,none⟩) (by show B+1<_; omega)).trans s0) ((hW.cell (p:=⟨P2,0,none⟩) hp1).trans c1) ((hW.cell (p:=⟨Q2,0,none⟩) hq1).trans c2))))
  have HBC:=hid hbB;have HX3':=hid hx3;have hwc:B+2<wc.heap.size:=by omega
  clear hp hq hev hh hbl hbB c1 c2 hx3 s0 hp1 hq1 HY HEV EV CK LN IS HX1 HX2 HB1 HB2 HBX HLT p1 p2;go_wp2_with fail;refine MD.out.mono ?_;rintro e w5 ⟨G,A,rfl,hg,hb5⟩;have hq:=(hb5.block (B+2) hwc).trans HX3'.out;have q0:=zf hq 0;have q1:=zf hq 1;have q2:=zf hq 2;have q3:=zf hq 3;have q4:=zf hq 4;have f0:=zg hq 0;have f1:=zg hq 1;have f2:=zg hq 2;have f3:=zg hq 3;have f4:=zg hq 4;simp only [List.getElem?_toArray,List.getElem?_cons_zero,List.getElem?_cons_succ] at q0 q1 q2 q3 q4;have hk:=(((((zM.refl w5 (B+2)).set 0 (.int .i64 0)).set 1 (.int .i64 t)).set 2 (.int .i64 1)).set 3 (.int .i64 0)).set 4 (.slice (some ⟨G,0,none⟩) 2 2);have hgl:=hg.lt;have hs5:=hb5.size;have HK:=hid hk;have HG:=hid (show yL _ B G A 2 n (xq T y (xh t)) from (hg.base (by omega)).kept (hk.block G hgl.1.2 (by omega)) (hk.block A hgl.2.2 (by omega)));have HBF:=hid (hk.below (HBC.out.trans (hb5.mono (by omega))) (show B≤B+2 by omega) (by omega));clear hg hb5 hq hk;go_wp2_with fail;refine bodyPost_ret (v:=.agg #[.int .i64 0,.int .i64 t,.int .i64 1,.int .i64 0,.slice (some ⟨G,0,none⟩) 2 2]) (by simp [results,Tryz.results113,go_sem,q0,q1,q2,q3,q4]) rfl ⟨G,A,rfl,by rw [hB]; exact HG.out,by rw [hB]; exact HBF.out⟩
end Go.Proofs.YtnlbafjmbamoeaaGreat
