/-
  Contracts (what a function tells) and plain facts that a law's proof hangs on, for every input; no condition but those in their statements. Laid together of the texts Lia, Lib, Lic, Lid, Lif, Lig, Lra, Lrb, Lrc.
-/
import Derived.Test.YtnlbafjmbamoeaaGreatQa
import Derived.Deep.DeepCutAuto
import Derived.Deep.CutBlock
namespace Go.Proofs.YtnlbafjmbamoeaaGreat
open Go.RowKit Lib
open Ieee (double)
attribute [local go_sem] zr zi zy zn zU zS zW zX zV zY zD zH zI zJ zK zB
set_option maxHeartbeats 16000000
theorem nY (v:Value) (n k:Nat) (m:Nat→Nat) (f:Nat→Nat→Nat) (w:World) (h:yB w v n m f) (hk:∀ i,i<n→m i=k) :
  Calls Tryz.prog 64 #[v,.int .i64 k] w fun e w'=>e=.returned (.bool true)∧w=w':=by
 obtain ⟨a,cap,rfl,hn,hr⟩:=h;have HR:=hid hr;have HK:=hid hk;clear hr hk;go_enter Tryz.func64,Tryz.ntmps64;go_wp2_with fail
 go_loop [9] (fun i=>∃ j:Nat,j≤n∧i=.int .i64 j) (fun i=>n-(intOf i).toNat)
 case atStart=>exact ⟨0,by omega,rfl⟩
 case round=>
  obtain ⟨j,hj,rfl⟩:=hrel;by_cases hlt:j<n
  ·obtain ⟨b,off,rfl,hbs,hc⟩:=HR.out (by omega);obtain ⟨u,hu,a2,cap2,rfl,hu2,-⟩:=hc j hlt;have e1:=HK.out j hlt;rw [e1] at hu hu2;clear hc e1;have hne:((k:Int) != k)=false:=by simp
   go_wp2_with fail
   go_round
   case rel=>exact ⟨j+1,by omega,by go_num⟩
   case measure=>simp [intOf]; omega
  ·go_wp2_with fail;go_ret;exact ⟨rfl,rfl⟩
theorem t7 (v:Value) (n:Nat) (f:Nat→Nat→Nat) (w:World) (h:yB w v n (fun _=>n) f) (h1:1≤n) (h8:n≤8) :
  Calls Tryz.prog 126 #[v] w fun e w'=>e=.returned (.bool true)∧w=w':=by
 have h0:=h;obtain ⟨a,cap,rfl,hn,hr⟩:=h0;clear hr;have E:=hid (fun W (hW:yB W (.slice a n cap) n (fun _=>n) f)=>nY (.slice a n cap) n n (fun _=>n) f W hW (fun _ _=>rfl));have H:=hid h;clear h;go_enter Tryz.func126,Tryz.ntmps126;go_wp2_with fail;refine (E.out _ H.out).mono ?_;rintro e w' ⟨rfl,rfl⟩;go_wp2_with fail;go_ret;exact ⟨rfl,rfl⟩
set_option maxRecDepth 100000
theorem qq (v:Value) (n:Nat) (f:Nat→Nat→Nat) (w:World) (h:yB w v n (fun _=>n) f) (h1:1≤n) (h8:n≤8) :
  Calls Tryz.prog 127 #[v] w fun e w'=>∃ G blk cap,e=.returned (.slice (some ⟨G,0,none⟩) n n)∧yD w' w.heap.size G n n blk cap f∧Below w.heap.size w w':=by
 obtain ⟨a,cap,rfl,hn,hr⟩:=h;obtain ⟨b,off,rfl,hbs,hc⟩:=hr (by omega);have HC:=hid hc;clear hr hc;obtain ⟨iS,hS,s1,s2,s3⟩:=info_parts my;obtain ⟨iF,hF,f1,f2,f3⟩:=info_parts xu;have HS:=hid (show iS.zero=_∧iS.size=_∧iS.bytes=_ from ⟨s1,s2,s3⟩);have HS0:=hid hS;have HF:=hid (show iF.zero=_∧iF.size=_∧iF.bytes=_ from ⟨f1,f2,f3⟩);have HF0:=hid hF;clear hS s1 s2 s3 hF f1 f2 f3;go_enter Tryz.func127,Tryz.ntmps127;generalize hB:w.heap.size=B at *
 go_wp2_with (first
  | (refine wpList_make_full _ rfl _ _ _ rfl B 30 iS (.slice none 0 0) 1 Tryz.underlying160 HS0.out HS.out.1 HS.out.2.1 .i64 .i64 (n:Int) (n:Int) n rfl rfl rfl rfl (by rw [HS.out.2.2]; omega) (by unfold maxLen; omega) (by omega) ?_))
 intro w1 hr0 hg0;have hb1:Below B w w1:=(Below.refl B w).grown hg0 (by omega) (fun k hk=>by cases hk);have hP0:xS w1 B B n 0 n (fun _=>0) (fun _=>n) f:=⟨⟨_,hr0,fun i hi=>by omega⟩,fun i hi=>by omega,fun i k hi=>by omega,fun i hi=>by omega⟩
 have hbB:b<B:=hbs;clear hr0 hg0;go_wp2_with fail
 go_loopw [11] (fun i wr=>∃ (j:Nat) (blk:Nat→Nat) (g:Nat→Nat→Nat),j≤n∧i=.int .i64 j∧Below B w wr∧xS wr B B n j n blk (fun _=>n) g∧∀ r c,r<j→c<n→g r c=f r c) (fun i _=>n-(intOf i).toNat)
 case atStart=>exact ⟨0,_,_,by omega,rfl,hb1,hP0,fun r c h=>by omega⟩
 case round=>
  clear hP0 hb1;obtain ⟨j,blk,g,hj,rfl,hb2,hP,hg⟩:=hrel;by_cases hlt:j<n
  ·obtain ⟨u,hu,a2,cap2,rfl,hu2,hu3⟩:=HC.out j hlt;obtain ⟨b2,off2,rfl,hb2s,hfc⟩:=hu3 (by omega);have hw:∀ p o,p<B→wr.cell? ⟨p,o,none⟩=w.cell? ⟨p,o,none⟩:=fun p o hp=>hb2.cell (p:=⟨p,o,none⟩) hp
   rw [← hw _ _ hbB] at hu;have hfc2:∀ i,i<n→wq wr b2 (off2+i) (f j i):=fun i hi=>(hfc i hi).same (hw _ _ (by rw [hB] at hb2s; exact hb2s))
   have HFC:=hid hfc2;have HG:=hid hg;have HP:=hid hP;have hGl:=hP.lt;have hbl:∀ i,i<j→blk i<wr.heap.size:=fun i hi=>(hP.row i hi).lt.2
   have HBL:=hid hbl;have hsz:=hb2.size;clear hfc hfc2 hg hw hu3 hP hbl
   go_wp2_with (first
    | (refine wpList_make_full _ rfl _ _ _ rfl B 31 iF (.float .f64 0) 1 Tryz.underlying30 HF0.out HF.out.1 HF.out.2.1 .i64 .i64 (n:Int) (n:Int) n rfl rfl rfl rfl (by rw [HF.out.2.2]; omega) (by unfold maxLen; omega) (by omega) ?_))
   intro w2 hr1 hg1;have hb3:Below wr.heap.size wr w2:=(Below.refl _ wr).grown hg1 (by omega) (fun k hk=>by cases hk);have hP2:=HP.out.below hb3 hGl.2 HBL.out;have ho:=yI hr1;have hR:=ho.lt;generalize hRe:wr.heap.size=R at *;have hP3:=hP2.next hlt ho (by omega) (fun i hi=>by have:=HBL.out i hi; omega);have hb4:Below B w w2:=hb2.trans (hb3.mono (by omega));obtain ⟨⟨u0,hu0⟩,hu1⟩:=hP2.head hlt;have hBR:R≠B:=by omega
   obtain ⟨cur,hh,hcl,-⟩:=ho.heap;obtain ⟨ys,hy1,hy2,hy3,hy4⟩:=vE HFC.out;have HH:=hid hh;have HY:=hid (show ys.length=n∧_∧_∧_ from ⟨hy1,hy2,hy3,hy4⟩);have HP2:=hid hP2;have HP3:=hid hP3;have HO:=hid ho;have HRe:=hid hRe;clear hh hy1 hy2 hy3 hy4 hP2 hP3 ho hRe hr1 hg1;have hb2B:b2<B:=by rw [hB] at hb2s; exact hb2s
   have W5:=hid (show ∀ v,(w2.setCell ⟨B,j,none⟩ v).heap[R]? = some (.cells cur.toArray 31 (0,0))∧∀ i u,ys[i]? = some u→(w2.setCell ⟨B,j,none⟩ v).cell? ((⟨b2,off2,none⟩:Addr).add i)=some u from fun v=>⟨by rw [Below.heap_setCell _ _ _ _ hBR]; exact HH.out,fun i u hu=>by
    have e1:=HY.out.2.2.1 i u hu;have e2:w2.cell? ⟨b2,off2+i,none⟩=wr.cell? ⟨b2,off2+i,none⟩:=hb3.cell (p:=⟨b2,off2+i,none⟩) (show b2<R by omega);have e3:(w2.setCell ⟨B,j,none⟩ v).cell? ⟨b2,off2+i,none⟩=w2.cell? ⟨b2,off2+i,none⟩:=World.cell?_of_block (a:=⟨b2,off2+i,none⟩) (Below.heap_setCell _ _ _ _ (show b2≠B by omega));have e4:(⟨b2,off2,none⟩:Addr).add i=⟨b2,off2+i,none⟩:=by simp [Addr.add]
    rw [e4];exact e3.trans (e2.trans e1)⟩)
   go_wp2_with (refine wpList_copy_splice rfl (.tmp 25) (.tmp 26) _ _ rfl 31 Tryz.underlying30 (by rw [HF0.out]; exact congrArg some HF.out.2.1) _ _ n n n cap2 rfl rfl R 0 cur 31 (W5.out _).1 ys (by rw [HY.out.1]; simp) (fun _=>⟨rfl,_,rfl,(W5.out _).2⟩) (by rw [HY.out.1,hcl]; omega) HY.out.2.2.2 R _ (Below.refl _ _) (Nat.le_refl _) ?_)
   intro w6 hh6 hb6;have hP6:=HP3.out.fill (k:=j) (g:=f j) (by omega) (hb6.block B (by omega)) (fun i hi hne=>by rw [zG _ _ hne]; exact hb6.block _ (by have:=HBL.out i (by omega); omega)) (by rw [zL,zL]; exact qj (by omega) (by unfold maxLen; omega) hcl HY.out.1 hh6.out HY.out.2.1);rw [ot] at hP6;have hb7:Below B w w6:=(hb4.setCell (Nat.le_refl _) _).trans (hb6.mono (by omega));have HP6:=hid hP6;clear hP6 hb6 hb4 hb3;go_wp2_with fail
   go_roundw
   case rel=>exact ⟨j+1,yy blk j R,_,by omega,by go_num,hb7,HP6.out,fun r c hr hc=>by
    by_cases e:r=j
    ·subst e; rw [zL]
    ·rw [zG _ _ e,zG _ _ e]; exact HG.out r c (by omega) hc⟩
   case measure=>simp [intOf]; omega
  ·go_wp2_with fail;go_ret;have:j=n:=by omega
   subst this;exact ⟨B,blk,_,rfl,(hP.congr hg).grid,hb2⟩
theorem absQ (x:Nat) (w:World) (hx:x<18446744073709551616):Calls Tryz.prog 60 #[.float .f64 x] w fun e w'=>e=.returned (.float .f64 (ab x))∧w'=w:=
 (ti x w hx).mono fun _ _ ⟨h1,h2⟩=>⟨h1,h2.symm⟩
theorem pe (n k:Nat) (v:Value) (f:Nat→Nat→Nat) (w:World) (h:yB w v n (fun _=>n) f) (hk:k<n) (h8:n≤8) :
  Calls Tryz.prog 128 #[v,.int .i64 k] w (xf (.int .i64 (xH f k (n-1-k):Nat)) w):=by
 obtain ⟨a,cap,rfl,hn,hr⟩:=h;obtain ⟨b,off,rfl,hbs,hc⟩:=hr (by omega);have HC:=hid hc;clear hr hc;go_enter Tryz.func128,Tryz.ntmps128;go_wp2_with fail
 go_loopw [5,6] (fun p i wr=>∃ (j:Nat),k<j∧j≤n∧i=.int .i64 j∧p=.int .i64 (xH f k (j-1-k):Nat)∧Below w.heap.size w wr) (fun _ i _=>n-(intOf i).toNat)
 case atStart=>exact ⟨k+1,by omega,by omega,by go_num,by rw [show k+1-1-k=0 by omega]; rfl,Below.refl _ _⟩
 case round=>
  obtain ⟨j,hkj,hjn,rfl,rfl,hbw⟩:=hrel;have hcw:∀ p o,p<w.heap.size→wr.cell? ⟨p,o,none⟩=w.cell? ⟨p,o,none⟩:=(zA hbw).1;have hp:=tn f k (j-1-k);by_cases hlt:j<n
  ·have e1:j+1-1-k=j-1-k+1:=by omega
   have e2:k+1+(j-1-k)=j:=by omega
   obtain ⟨u1,hu1,c1,cap1,rfl,hl1,hu3⟩:=HC.out j hlt;obtain ⟨u2,hu2,c2,cap2,rfl,hl2,hu4⟩:=HC.out (xH f k (j-1-k)) (by omega);obtain ⟨b1,o1,rfl,hs1,hf1⟩:=hu3 (by omega);obtain ⟨b2,o2,rfl,hs2,hf2⟩:=hu4 (by omega);obtain ⟨x,x1,x2,x3⟩:=hf1 k hk;obtain ⟨y,y1,y2,y3⟩:=hf2 k hk;rw [← hcw _ _ hs1] at x1;rw [← hcw _ _ hs2] at y1;rw [← hcw _ _ hbs] at hu1 hu2;have E:=hid (mz y2 x2);have P1:=hid (show xH f k (j+1-1-k)=if ltB (ab (f (xH f k (j-1-k)) k)) (ab (f j k)) then j else xH f k (j-1-k) by rw [e1,xH,e2]);generalize hpe:xH f k (j-1-k)=p at *;have HPe:=hid hpe;clear hf1 hf2 hu3 hu4 hpe x2 y2 hcw e1 e2;have hpn:p<n:=by omega
   go_wp2_with fail
   go_quiet ((go_at_call 60; exact Calls.quiet_of_same (absQ _ _ (by assumption))))
   have hE:=E.out
   cases hb:ltB (ab y) (ab x) with
   | false=>
    rw [hb] at hE;have Q1:=hid (show xH f k (j+1-1-k)=_ by rw [P1.out,← hE]);clear P1 hE;go_wp2_with fail
    go_roundw
    case rel=>exact ⟨j+1,by omega,by omega,by go_num,by rw [Q1.out]; rfl,yc hbw _⟩
    case measure=>simp [intOf]; omega
   | true=>
    rw [hb] at hE;have Q1:=hid (show xH f k (j+1-1-k)=_ by rw [P1.out,← hE]);clear P1 hE;go_wp2_with fail
    go_roundw
    case rel=>exact ⟨j+1,by omega,by omega,by go_num,by rw [Q1.out]; rfl,yc hbw _⟩
    case measure=>simp [intOf]; omega
  ·go_wp2_with fail;go_ret;have:j=n:=by omega
   subst this;exact ⟨rfl,hbw⟩
end Go.Proofs.YtnlbafjmbamoeaaGreat
namespace Go.Proofs.YtnlbafjmbamoeaaGreat
open Go.RowKit Lib
open Ieee (double)
attribute [local go_sem] zr zi zy zn zU zS zW zX zV zY zD zH zI zJ zK zB ye z8 zF yE
structure wZ (X:Nat→Prop) (base:Nat) (w w':World):Prop where
 below:Below base w w'
 block:∀ b,¬ X b→b<w.heap.size→w'.heap[b]? = w.heap[b]?
theorem wZ.refl (X:Nat→Prop) (base:Nat) (w:World):wZ X base w w:=⟨Below.refl _ _,fun _ _ _=>rfl⟩
theorem wZ.trans {X:Nat→Prop} {base:Nat} {a b c:World} (h:wZ X base a b) (k:wZ X base b c):wZ X base a c:=
 ⟨h.below.trans k.below,fun i hi hs=>(k.block i hi (Nat.lt_of_lt_of_le hs h.below.size)).trans (h.block i hi hs)⟩
theorem wZ.set {X:Nat→Prop} {base:Nat} {a w:World} {b o:Nat} (h:wZ X base a w) (hb:base≤b) (hX:X b) (v:Value):wZ X base a (w.setCell ⟨b,o,none⟩ v):=
 ⟨h.below.setCell hb v,fun i hi hs=>(Below.heap_setCell _ _ _ _ (fun e=>hi (by rw [show i=b from e]; exact hX))).trans (h.block i hi hs)⟩
theorem wZ.drewN {X:Nat→Prop} {base:Nat} {a w:World} (h:wZ X base a w) (n:Nat):wZ X base a (w.drewN n):=⟨yc h.below n,h.block⟩
theorem wZ.of {X:Nat→Prop} {base:Nat} {a w w':World} (h:wZ X base a w) (hb:Below w.heap.size w w') (hs:base≤w.heap.size):wZ X base a w':=
 ⟨h.below.trans (hb.mono hs),fun i hi hl=>(hb.block i (Nat.lt_of_lt_of_le hl h.below.size)).trans (h.block i hi hl)⟩
theorem yD.drewN {w:World} {base G n m:Nat} {blk cap:Nat→Nat} {f:Nat→Nat→Nat} (h:yD w base G n m blk cap f) (q:Nat):yD (w.drewN q) base G n m blk cap f:=h.below (yc (Below.refl _ _) q)
theorem yD.cell {w:World} {base G n m:Nat} {blk cap:Nat→Nat} {f:Nat→Nat→Nat} (h:yD w base G n m blk cap f) {i j:Nat} (hi:i<n) (hj:j<m):wq w (blk i) j (f i j):=(h.row i hi).cell hj
theorem wE (op:BinOp) (w:World) {x y a b:Nat} (hx:zk x=a) (hy:zk y=b):zk (zZ op w x y)=cop op a b:=by
 subst hx hy;rw [z9,zE,zC]
theorem rU {α:Type} (f:Nat→α) (j:Nat) (b c:α):yy (yy f j b) j c=yy f j c:=by
 funext i
 unfold yy;split<;>rfl
theorem pf (f:Nat→Nat→Nat) (k i:Nat):clR f k i (k+1)=yy (f i) k (cop .quo (f i k) (f k k)):=by
 funext j
 unfold clR yy;by_cases e:j=k
 ·rw [if_pos e,if_pos e]
 ·rw [if_neg e,if_neg e,if_neg (by omega)]
theorem ph (f:Nat→Nat→Nat) {k i m:Nat} (hm:k<m):clR f k i (m+1)=yy (clR f k i m) m (cop .sub (f i m) (cop .mul (cop .quo (f i k) (f k k)) (f k m))):=by
 funext j
 unfold yy;by_cases e:j=m
 ·subst e;unfold clR;rw [if_pos rfl,if_neg (by omega),if_pos ⟨hm,by omega⟩]
 ·rw [if_neg e];unfold clR;by_cases e2:j=k
  ·rw [if_pos e2,if_pos e2]
  ·rw [if_neg e2,if_neg e2];by_cases e3:k<j∧j<m
   ·rw [if_pos e3,if_pos ⟨e3.1,by omega⟩]
   ·rw [if_neg e3,if_neg (by omega)]
theorem rV (f:Nat→Nat→Nat) (k n:Nat):clF f k n (k+1)=f:=by
 funext a
 unfold clF;rw [if_neg (by omega)]
theorem tz (f:Nat→Nat→Nat) (k n i:Nat):clF f k n i i=f i:=by unfold clF; rw [if_neg (by omega)]
theorem sv (f:Nat→Nat→Nat) (k n i:Nat):clF f k n i k=f k:=by unfold clF; rw [if_neg (by omega)]
theorem pi (f:Nat→Nat→Nat) {k n i:Nat} (hi:k<i):yy (clF f k n i) i (clR f k i n)=clF f k n (i+1):=by
 funext a
 unfold yy clF;by_cases e:a=i
 ·subst e; rw [if_pos rfl,if_pos ⟨hi,by omega⟩]
 ·rw [if_neg e];by_cases h:k<a∧a<i
  ·rw [if_pos h,if_pos ⟨h.1,by omega⟩]
  ·rw [if_neg h,if_neg (by omega)]
set_option maxHeartbeats 16000000
set_option maxRecDepth 100000
theorem pj (base G n k c:Nat) (blk cap:Nat→Nat) (f:Nat→Nat→Nat) (w:World) (h:yD w base G n n blk cap f) (hk:k<n) (h8:n≤8) :
  Calls Tryz.prog 129 #[.slice (some ⟨G,0,none⟩) n c,.int .i64 k] w fun e w'=>(∃ r,e=.returned r)∧yD w' base G n n blk cap (clF f k n n)∧wZ (fun b=>∃ i,i<n∧b=blk i) base w w':=by
 go_enter Tryz.func129,Tryz.ntmps129;go_wp2_with fail
 go_loopw [4] (fun i wr=>∃ (j:Nat),k<j∧j≤n∧i=.int .i64 j∧yD wr base G n n blk cap (clF f k n j)∧wZ (fun b=>∃ i,i<n∧b=blk i) base w wr) (fun i _=>n-(intOf i).toNat)
 case atStart=>exact ⟨k+1,by omega,by omega,by go_num,by rw [rV]; exact h,wZ.refl _ _ _⟩
 case round=>
  obtain ⟨i,hki,hin,rfl,hg,hR⟩:=hrel;by_cases hlt:i<n
  ·have r1:=hg.ref i hlt;have r2:=hg.ref k hk;have r3:=(hg.row i hlt).free;obtain ⟨x,x1,x2,x3⟩:=hg.cell hlt hk;obtain ⟨y,y1,y2,y3⟩:=hg.cell hk hk;rw [tz] at x2;rw [sv] at y2;have HX:=hid (show zk x=f i k∧zk y=f k k from ⟨x2,y2⟩);have HG:=hid hg;have HR:=hid hR;have hlo:=(hg.row i hlt).lt;clear hg hR x2 y2 h;go_wp2_with fail
   go_still_tail 14,(by kernel_rfl)
   change wpList _ _ _ _ _ wr.drew;go_wp2_with fail
   have hg2:yD ((wr.setCell ⟨blk i,k,none⟩ (.float .f64 (zZ .quo wr.drew x y))).drewN (1+zP .quo x y)) base G n n blk cap (yy (clF f k n i) i (clR f k i (k+1))):=by
    have:=(HG.out.set hlt hk (wE .quo wr.drew HX.out.1 HX.out.2) (yi _ _ _ _)).drewN (1+zP .quo x y);rw [pf,← tz f k n i];rw [← tz f k n i] at this;exact this
   have hR2:wZ (fun b=>∃ i,i<n∧b=blk i) base w ((wr.setCell ⟨blk i,k,none⟩ (.float .f64 (zZ .quo wr.drew x y))).drewN (1+zP .quo x y)):=(HR.out.set hlo.1 ⟨i,hlt,rfl⟩ _).drewN _;clear HG HR r1 r2 r3 x1 y1 hlo;generalize (wr.setCell ⟨blk i,k,none⟩ (.float .f64 (zZ .quo wr.drew x y))).drewN (1+zP .quo x y)=W at *;go_wp2_with fail
   go_loopw [5] (fun jj wr=>∃ (m:Nat),k<m∧m≤n∧jj=.int .i64 m∧yD wr base G n n blk cap (yy (clF f k n i) i (clR f k i m))∧wZ (fun b=>∃ i,i<n∧b=blk i) base w wr) (fun jj _=>n-(intOf jj).toNat)
   case atStart=>exact ⟨k+1,by omega,by omega,by go_num,hg2,hR2⟩
   case round=>
    clear hg2 hR2 HX x3 y3;obtain ⟨m,hkm,hmn,rfl,hg,hR⟩:=hrel;by_cases hlm:m<n
    ·go_wp2_with fail;refine zw [(0,1),(1,1),(2,1),(3,2),(4,1),(5,1),(6,2),(7,1),(8,1),(9,1),(10,2),(11,1),(12,1),(13,2),(14,1),(15,1),(16,1),(17,2),(18,1),(19,1),(20,2),(21,0),(22,0),(23,1),(24,0)] (by kernel_rfl) (by kernel_rfl) (fun _ _ d _ _ h=>by cases d<;>exact h) ?_;intro W hW;have hg':yD W base G n n blk cap (yy (clF f k n i) i (clR f k i m)):=by rw [hW]; exact hg.below (Below.refl _ _).drew
     have hR':wZ (fun b=>∃ i,i<n∧b=blk i) base w W:=by rw [hW]; exact hR.drewN 1
     clear hg hR hW;have r1:=hg'.ref i hlt;have r2:=hg'.ref k hk;have r3:=(hg'.row i hlt).free;have hlo:=(hg'.row i hlt).lt;obtain ⟨x,x1,x2,x3⟩:=hg'.cell hlt hlm;obtain ⟨l,l1,l2,l3⟩:=hg'.cell hlt hk;obtain ⟨y,y1,y2,y3⟩:=hg'.cell hk hlm;rw [zL] at x2 l2;rw [zG _ _ (by omega),sv] at y2;have e1:clR f k i m m=f i m:=by unfold clR; rw [if_neg (by omega),if_neg (by omega)]
     have e2:clR f k i m k=cop .quo (f i k) (f k k):=by unfold clR; rw [if_pos rfl]
     rw [e1] at x2;rw [e2] at l2;have HX:=hid (show zk x=f i m∧zk l=cop .quo (f i k) (f k k)∧zk y=f k m from ⟨x2,l2,y2⟩);have HG:=hid hg';have HR:=hid hR';clear hg' hR' x2 y2 l2 e1 e2
     iterate 21
      first
       | refine zd (fun K hK=>?_)
       | refine ze (fun K hK=>?_)
      go_simp;refine hK _ ?_;clear hK K
     refine zx (fun K hK=>?_);go_simp;refine hK _ _ (fun _=>⟨_,rfl⟩) ?_;clear hK K;refine zx (fun K hK=>?_);go_simp;refine hK _ _ (fun _=>⟨_,rfl⟩) ?_;clear hK K
     iterate 1
      first
       | refine zd (fun K hK=>?_)
       | refine ze (fun K hK=>?_)
      go_simp;refine hK _ ?_;clear hK K
     refine zx (fun K hK=>?_);go_simp;refine hK _ _ (fun h=>Bool.noConfusion (Eq.trans (Eq.symm (by kernel_rfl:_=false)) h)) ?_;clear hK K;refine zo ?_;have hv:zk (zZ .sub (W.drewN (zP .mul l y)) x (zZ .mul W l y))=cop .sub (f i m) (cop .mul (cop .quo (f i k) (f k k)) (f k m)):=wE .sub _ HX.out.1 (wE .mul _ HX.out.2.1 HX.out.2.2);have HV:=hid hv;clear hv;go_wp2_with fail
     go_roundw
     case rel=>exact ⟨m+1,by omega,by omega,by go_num,by
      have:=(HG.out.set hlt hlm HV.out (yi _ _ _ _)).drewN;rw [ph f hkm];unfold xR at this;rw [zL,rU] at this;exact this _,(HR.out.set hlo.1 ⟨i,hlt,rfl⟩ _).drewN _⟩
     case measure=>simp [intOf]; omega
    ·obtain rfl:m=n:=by omega
     rw [pi f hki] at hg;go_wp2_with fail
     go_roundw
     case rel=>exact ⟨i+1,by omega,by omega,by go_num,hg,hR⟩
     case measure=>simp [intOf]; omega
  ·obtain rfl:i=n:=by omega
   go_wp2_with fail
   go_end0
   exact ⟨⟨_,rfl⟩,hg,hR⟩
def nv (n:Nat) (o:Option ((Nat→Nat→Nat) × (Nat→Nat))) (w:World) (e:Ending) (w':World):Prop:=
 Below w.heap.size w w'∧match o with
 | none=>e=.returned (.tuple #[.agg #[.slice none 0 0,.slice none 0 0],.bool false])
 | some (g,q)=>∃ G R blk cap,e=.returned (.tuple #[.agg #[.slice (some ⟨G,0,none⟩) n n,.slice (some ⟨R,0,none⟩) n n],.bool true])∧yD w' w.heap.size G n n blk cap g∧yh w' w.heap.size R n n (fun i=>(q i:Int))∧R≠G∧∀ i,i<n→blk i≠R
theorem qr (n:Nat) (hn:n≤1000) (w:World):(Instr.makeSlice 22 (.int .i64 n) (.int .i64 n)).run Tryz.prog w=.ok (.slice (some ⟨w.heap.size,0,none⟩) n n) (w.alloc (.cells (madeCells #[.int .i64 0] n) 3)):=by
 obtain ⟨i3,hI,i1,i2,i4⟩:=info_parts tj;have:=run_make (P:=Tryz.prog) w 22 3 i3 (.int .i64 0) Tryz.underlying22 hI i1 .i64 .i64 n n (by omega) (by omega) (by rw [i4]; omega) (by omega);rw [i2,Int.toNat_natCast,Nat.mul_one] at this;exact this
theorem sM (w:World) (base n:Nat) (hb:base≤w.heap.size) (hn:n≤1000):yh (w.alloc (.cells (madeCells #[.int .i64 0] n) 3)) base w.heap.size n n fun _=>0:=
 vG (World.ownsRow_lit w _ n hb (by unfold maxLen; omega) (by rw [size_madeCells,Nat.mul_one]))
theorem wP {f:Nat→Nat→Nat} {n k:Nat} (h:yU f n k=none):∀ {m:Nat},k≤m→yU f n m=none
 | 0,hm=>by
  obtain rfl:k=0:=by omega
  exact h
 | m+1,hm=>by
  by_cases e:k=m+1
  ·subst e; exact h
  ·rw [yU,wP h (show k≤m by omega)]
theorem wQ (x:Nat):xi (zk x)=xi x:=by
 rcases vF x with h | h
 ·rw [h]
 ·have e:∀ y,isN y=true→xi y=false:=fun y hy=>by unfold xi; unfold isN at hy; simp at hy ⊢; omega
  rw [e x h,e (zk x) (by rw [yN]; exact h)]
theorem oI (n:Nat) (v:Value) (f:Nat→Nat→Nat) (w:World) (h:yB w v n (fun _=>n) f) (h1:1≤n) (h8:n≤8) :
  Calls Tryz.prog 109 #[v] w (nv n (yU f n n) w):=by
 have hb1:Below w.heap.size w (w.alloc (.cells #[.slice none 0 0,.slice none 0 0] 113)):=(Below.refl _ _).alloc (Nat.le_refl _) _;have ht:=h.below hb1;have MK:=hid (qr n (by omega));obtain ⟨a,cap0,rfl,hn,-⟩:=id h;have ST:=hid (t7 _ n f _ ht h1 h8);have HT:=hid ht;clear h ht;go_enter Tryz.func109,Tryz.ntmps109;go_wp2_with fail;refine ST.out.mono ?_;rintro e w1 ⟨rfl,rfl⟩;go_wp2_with fail;generalize hB:w.heap.size=B at *;have hW:(w.alloc (.cells #[.slice none 0 0,.slice none 0 0] 113)).heap.size=B+1:=by simp [hB]
 generalize hWe:w.alloc (.cells #[.slice none 0 0,.slice none 0 0] 113)=W at *;have CP:=hid (fun X (hX:Below W.heap.size W X)=>qq _ n f X (HT.out.below hX) h1 h8);have hl0:W.heap[B]? = some (.cells #[.slice none 0 0,.slice none 0 0] 113 (0,0)):=by rw [← hWe,← hB]; exact heap_alloc_new _ _
 have LB0:=hid (show ∀ X,Below (B+1) W X→X.cell? ⟨B,0,none⟩=some (.slice none 0 0)∧X.cell? ⟨B,1,none⟩=some (.slice none 0 0)∧X.frozen? ⟨B,0,none⟩=false∧X.frozen? ⟨B,1,none⟩=false from fun X hX=>by
  have e:=(hX.block B (by omega)).trans hl0;refine ⟨?_,?_,?_,?_⟩<;>simp [World.cell?,World.frozen?,e]<;>rfl)
 clear hl0;have HW:=hid hW;have HWE:=hid hWe;clear hW hWe
 go_cut [4,5] (fun vg vp wx=>∃ G R blk cap,vg=.slice (some ⟨G,0,none⟩) n n∧vp=.slice (some ⟨R,0,none⟩) n n∧yD wx (B+1) G n n blk cap f∧yh wx (B+1) R n n (fun _=>0)∧R≠G∧(∀ i,i<n→blk i≠R)∧Below (B+1) W wx)
 case first=>
  have mk:=MK.out
  go_region_held3 (fun _=>True) (trivial) ((go_at_call 127; refine (CP.out _ (by first | exact (Below.refl _ _).drew | exact ((Below.refl _ _).drew).alloc (Nat.le_refl _) _)).mono ?_; rintro e w' ⟨G,blk,cap,rfl,hg,hb⟩))
  ·clear mk;have hs:=hb.size;have hW2:W.drew.heap.size=B+1:=HW.out;rw [hW2] at hg hs;go_wp2_with fail;go_meet;exact ⟨G,_,blk,cap,rfl,rfl,hg.below ((Below.refl _ _).alloc (Nat.le_refl _) _),sM _ _ _ hs (by omega),by have:=hg.hi; omega,fun i hi=>by have:=(hg.row i hi).lt.2; omega,((Below.refl _ W).drew.trans (hb.mono (by rw [hW2]; exact Nat.le_refl _))).alloc hs _⟩
  ·clear mk;have hs:=hb.size
   have hW3:((W.alloc (.cells (madeCells #[.int .i64 0] n) 3)).drew).heap.size=B+2:=by
    show (W.alloc _).heap.size=_;simp [HW.out]
   have ho:=((sM W (B+1) n (by rw [HW.out]; exact Nat.le_refl _) (by omega)).drew).below hb (by rw [HW.out,hW3]; omega);rw [hW3] at hg hs;rw [HW.out] at ho;go_wp2_with fail;go_meet;have hlo:=hg.lo;exact ⟨G,B+1,blk,cap,rfl,by rw [HW.out],hg.base (by omega),ho,by omega,fun i hi=>by have:=(hg.row i hi).lt.1; omega,(((Below.refl _ W).alloc (by rw [HW.out]; exact Nat.le_refl _) _).drew).trans (hb.mono (by rw [hW3]; omega))⟩
 case rest=>
  obtain ⟨G,R,blk,cap,rfl,rfl,hg,ho,hRG,hbR,hbl⟩:=hcut;go_wp2_with fail
  go_loopw [20] (fun i wr=>∃ j:Nat,j≤n∧i=.int .i64 j∧yD wr (B+1) G n n blk cap f∧yh wr (B+1) R n n (fun i=>if i<j then (i:Int) else 0)∧Below (B+1) W wr) (fun i _=>n-(intOf i).toNat)
  case atStart=>exact ⟨0,by omega,rfl,hg,ho.congr (fun j hj=>by rw [if_neg (by omega)]),hbl⟩
  case round=>
   clear hg ho hbl;obtain ⟨j,hj,rfl,hg,ho,hbl⟩:=hrel;by_cases hlt:j<n
   ·have r1:=ho.cell hlt;have r2:=ho.free j;have hR:=ho.lt;have HG:=hid hg;have HO:=hid ho;clear hg ho;rw [if_neg (by omega)] at r1;go_wp2_with fail
    go_roundw
    case rel=>exact ⟨j+1,by omega,by go_num,HG.out.setOther hRG (fun i hi=>(hbR i hi).symm) _,(HO.out.set hlt _).congr (fun i hi=>by
     by_cases e:i=j
     ·subst e; rw [zL,if_pos (by omega)]
     ·rw [zG _ _ e];by_cases h:i<j
      ·rw [if_pos h,if_pos (by omega)]
      ·rw [if_neg h,if_neg (by omega)]),hbl.setCell hR.1 _⟩
    case measure=>simp [intOf]; omega
   ·have hj2:j=n:=by omega
    clear hlt;have ho2:=ho.congr (g:=fun i=>((fun i=>i:Nat→Nat) i:Int)) (fun i hi=>by rw [if_pos (by omega)]);clear ho;subst hj2;go_wp2_with fail
    go_loopw [30] (fun i wr=>∃ (k:Nat) (blk cap:Nat→Nat) (g:Nat→Nat→Nat) (q:Nat→Nat),k≤j∧i=.int .i64 k∧yU f j k=some (g,q)∧yD wr (B+1) G j j blk cap g∧yh wr (B+1) R j j (fun i=>(q i:Int))∧(∀ i,i<j→blk i≠R)∧Below (B+1) W wr) (fun i _=>j-(intOf i).toNat)
    case atStart=>exact ⟨0,blk,cap,f,fun i=>i,by omega,rfl,rfl,hg,ho2,hbR,hbl⟩
    case round=>
     clear hg ho2 hbl hbR;obtain ⟨k,blk,cap,g,q,hk,rfl,hpf,hg,ho,hbR,hbl⟩:=hrel;by_cases hlt:k<j
     ·have P1:=hid (show yU f j (k+1)=if dvB (g (xH g k (j-1-k)) k) then some (clF (swp g (xH g k (j-1-k)) k) k j j,swp q (xH g k (j-1-k)) k) else none by rw [yU,hpf]);have hp:=tn g k (j-1-k);have PV:=hid (pe j k (.slice (some ⟨G,0,none⟩) j j) g wr (hg.tab (by omega) (by omega)) hlt h8);have HBR:=hid hbR;have HPF:=hid hpf;clear hpf hbR;go_wp2_with fail;refine PV.out.mono ?_;rintro e w4 ⟨rfl,hb4⟩;have hpj:xH g k (j-1-k)<j:=by omega
      generalize xH g k (j-1-k)=p at *;have hg4:=hg.below hb4;have ho4:=ho.below hb4 ho.lt.2;have hsz:=hbl.size;have hbl4:Below (B+1) W w4:=hbl.trans (hb4.mono (by have:=HW.out; omega));clear hg ho hbl hb4 hsz;obtain ⟨x,x1,x2,x3⟩:=hg4.cell hpj hlt;have r1:=hg4.ref p hpj
      have e1:eqB x 0=eqB (g p k) 0:=by
       rw [← x2];exact (wJ x 0).symm
      have e2:xi x=xi (g p k):=by rw [← x2,wQ]
      have HG:=hid hg4;have HO:=hid ho4;have HBL:=hid hbl4;have hdv:dvB (g p k)=(!eqB x 0&&xi x):=by unfold dvB; rw [e1,e2]
      have HDV:=hid hdv;have HX2:=hid x2;clear hg4 ho4 hbl4 hdv e1 e2 x2;have LB:=hid (LB0.out _ HBL.out)
      cases hz:eqB x 0 with
      | true=>
       have hz':(!eqB x 0)=false:=by rw [hz]; rfl
       obtain ⟨l1,l2,l3,l4⟩:=LB.out;go_wp2_with fail;have hno:yU f j (k+1)=none:=by rw [P1.out,HDV.out,hz]; rfl
       have hend:yU f j j=none:=wP hno (by omega);have hb':Below B w w4:=hb1.trans (HBL.out.mono (by omega));exact bodyPost_ret (v:=.tuple #[.agg #[.slice none 0 0,.slice none 0 0],.bool false]) (by simp [results,Tryz.results109,go_sem,l1,l2]) rfl (by unfold nv; rw [hend,hB]; exact ⟨(hb'.setCell (Nat.le_refl _) _).setCell (Nat.le_refl _) _,rfl⟩)
      | false=>
       have hz':(!eqB x 0)=true:=by rw [hz]; rfl
       go_wp2_with fail;refine (vS x _).mono ?_;rintro e w5 ⟨rfl,hb5⟩;have HG5:=hid (HG.out.below hb5);have HO5:=hid (HO.out.below hb5 HO.out.lt.2);have hbl5:Below (B+1) W w5:=HBL.out.trans (hb5.mono (by have:=HBL.out.size; have:=HW.out; omega));have HBL5:=hid hbl5;clear hb5 hbl5 HG HO HBL LB r1 x1
       cases hf:xi x with
       | false=>
        obtain ⟨l1,l2,l3,l4⟩:=LB0.out _ HBL5.out;go_wp2_with fail;have hno:yU f j (k+1)=none:=by rw [P1.out,HDV.out,hz,hf]; rfl
        have hend:yU f j j=none:=wP hno (by omega);have hb':Below B w w5:=hb1.trans (HBL5.out.mono (by omega));exact bodyPost_ret (v:=.tuple #[.agg #[.slice none 0 0,.slice none 0 0],.bool false]) (by simp [results,Tryz.results109,go_sem,l1,l2]) rfl (by unfold nv; rw [hend,hB]; exact ⟨(hb'.setCell (Nat.le_refl _) _).setCell (Nat.le_refl _) _,rfl⟩)
       | true=>
        have hyes:yU f j (k+1)=some (clF (swp g p k) k j j,swp q p k):=by rw [P1.out,HDV.out,hz,hf]; rfl
        have HY:=hid hyes;clear hyes hz hz' hf x3;go_wp2_with fail;refine zw [(0,1),(1,1),(2,1),(3,1),(4,1),(5,1),(6,1),(7,2),(8,1),(9,1),(10,1),(11,2),(12,1),(13,0),(14,1),(15,0)] (by kernel_rfl) (by kernel_rfl) (fun _ _ d _ _ h=>by cases d<;>exact h) ?_;intro X hX;have hg6:yD X (B+1) G j j blk cap g:=by rw [hX]; exact HG5.out.drew
        have ho6:yh X (B+1) R j j (fun i=>(q i:Int)):=by rw [hX]; exact HO5.out.drew
        have hbl6:Below (B+1) W X:=by rw [hX]; exact HBL5.out.drew
        clear hX HG5 HO5 HBL5;have r1:=hg6.ref p hpj;have r2:=hg6.ref k hlt;have r3:=hg6.free p hpj;have r4:=hg6.free k hlt;have hGl:=hg6.lo;have HG6:=hid hg6;have HO6:=hid ho6;have HBL6:=hid hbl6;clear hg6 ho6 hbl6
        iterate 13
         first
          | refine zd (fun K hK=>?_)
          | refine ze (fun K hK=>?_)
         go_simp;refine hK _ ?_;clear hK K
        refine zx (fun K hK=>?_);go_simp;refine hK _ _ (fun h=>Bool.noConfusion (Eq.trans (Eq.symm (by kernel_rfl:_=false)) h)) ?_;clear hK K
        iterate 1
         first
          | refine zd (fun K hK=>?_)
          | refine ze (fun K hK=>?_)
         go_simp;refine hK _ ?_;clear hK K
        obtain ⟨z,hz⟩:=uB (.slice (some ⟨blk k,0,none⟩) j (cap k)) r1 r2;refine zx (fun K hK=>?_);go_simp;refine hK _ _ (fun h=>Bool.noConfusion (Eq.trans (Eq.symm (by kernel_rfl:_=false)) h)) ?_;clear hK K;refine zo ?_;have hg7:=HG6.out.swap hpj hlt;have ho7:=(HO6.out.other (o:=p) (show G≠R from hRG.symm) (.slice (some ⟨blk k,0,none⟩) j (cap k))).other (o:=k) (show G≠R from hRG.symm) (.slice (some ⟨blk p,0,none⟩) j (cap p));have hbl7:Below (B+1) W _:=(HBL6.out.setCell (p:=⟨G,p,none⟩) hGl (.slice (some ⟨blk k,0,none⟩) j (cap k))).setCell (p:=⟨G,k,none⟩) hGl (.slice (some ⟨blk p,0,none⟩) j (cap p));clear HG6 HO6 HBL6 r1 r2 r3 r4 hz z;generalize (X.setCell ⟨G,p,none⟩ (.slice (some ⟨blk k,0,none⟩) j (cap k))).setCell ⟨G,k,none⟩ (.slice (some ⟨blk p,0,none⟩) j (cap p))=Y at *;have HG7:=hid hg7;have HO7:=hid ho7;have HBL7:=hid hbl7;clear hg7 ho7 hbl7;go_wp2_with fail;refine zw [(0,1),(1,1),(2,1),(3,1),(4,1),(5,1),(6,1),(7,2),(8,1),(9,1),(10,1),(11,2),(12,1),(13,0),(14,1),(15,0)] (by kernel_rfl) (by kernel_rfl) (fun _ _ d _ _ h=>by cases d<;>exact h) ?_;intro Z hZ;have hg8:yD Z (B+1) G j j (swp blk p k) (swp cap p k) (swp g p k):=by rw [hZ]; exact HG7.out.drew
        have ho8:yh Z (B+1) R j j (fun i=>(q i:Int)):=by rw [hZ]; exact HO7.out.drew
        have hbl8:Below (B+1) W Z:=by rw [hZ]; exact HBL7.out.drew
        clear hZ HG7 HO7 HBL7;have r1:=ho8.cell hpj;have r2:=ho8.cell hlt;have r3:=ho8.free p;have r4:=ho8.free k;have hRl:=ho8.lt.1;have HG8:=hid hg8;have HO8:=hid ho8;have HBL8:=hid hbl8;clear hg8 ho8 hbl8
        iterate 13
         first
          | refine zd (fun K hK=>?_)
          | refine ze (fun K hK=>?_)
         go_simp;refine hK _ ?_;clear hK K
        refine zx (fun K hK=>?_);go_simp;refine hK _ _ (fun h=>Bool.noConfusion (Eq.trans (Eq.symm (by kernel_rfl:_=false)) h)) ?_;clear hK K
        iterate 1
         first
          | refine zd (fun K hK=>?_)
          | refine ze (fun K hK=>?_)
         go_simp;refine hK _ ?_;clear hK K
        obtain ⟨z,hz⟩:=uB (.int .i64 (q k:Int)) r1 r2;refine zx (fun K hK=>?_);go_simp;refine hK _ _ (fun h=>Bool.noConfusion (Eq.trans (Eq.symm (by kernel_rfl:_=false)) h)) ?_;clear hK K;refine zo ?_;have hbs:∀ i,i<j→swp blk p k i≠R:=fun i hi=>by rw [xD]; exact HBR.out _ (tY hpj hlt hi)
        have hg9:=(HG8.out.setOther (o:=p) hRG (fun i hi=>(hbs i hi).symm) (.int .i64 (q k:Int))).setOther (o:=k) hRG (fun i hi=>(hbs i hi).symm) (.int .i64 (q p:Int));have ho9:=HO8.out.swap hpj hlt;have hbl9:Below (B+1) W _:=(HBL8.out.setCell (p:=⟨R,p,none⟩) hRl (.int .i64 (q k:Int))).setCell (p:=⟨R,k,none⟩) hRl (.int .i64 (q p:Int));clear HG8 HO8 HBL8 r1 r2 r3 r4 hz z;generalize (Z.setCell ⟨R,p,none⟩ (.int .i64 (q k:Int))).setCell ⟨R,k,none⟩ (.int .i64 (q p:Int))=V at *;have CL:=hid (pj (B+1) G j k j (swp blk p k) (swp cap p k) (swp g p k) V hg9 hlt h8);have HO9:=hid ho9;have HBL9:=hid hbl9;have HBS:=hid hbs;clear hg9 ho9 hbl9 hbs;go_wp2_with fail;refine CL.out.mono ?_;rintro e w6 ⟨⟨r,rfl⟩,hg6,hR6⟩;have ho6:yh w6 (B+1) R j j (fun i=>((swp q p k i:Nat):Int)):=(HO9.out.kept (hR6.block R (fun ⟨i,hi,he⟩=>HBS.out i hi he.symm) HO9.out.lt.2)).congr (fun i _=>by rw [xD,xD]);have hbl6:=HBL9.out.trans hR6.below;have HG6:=hid hg6;have HO6:=hid ho6;have HBL6:=hid hbl6;clear hg6 hR6 ho6 hbl6 HO9 HBL9 CL;go_wp2_with fail
        go_roundw
        case rel=>exact ⟨k+1,_,_,_,_,by omega,by go_num,HY.out,HG6.out,HO6.out,HBS.out,HBL6.out⟩
        case measure=>simp [intOf]; omega
     ·have hk2:k=j:=by omega
      subst hk2;have hb':Below B w wr:=hb1.trans (hbl.mono (by omega));obtain ⟨l1,l2,l3,l4⟩:=LB0.out _ hbl;have hGB:=hg.lo;have hRB:=ho.lt.1;have HG6:=hid hg;have HO6:=hid ho;have HBL6:=hid hb';have HPF:=hid hpf;have HBR:=hid hbR;clear hg ho hbl hb' hpf hbR;go_wp2_with fail;have n1:∀ v o,yD ((wr.setCell ⟨B,0,none⟩ v).setCell ⟨B,1,none⟩ o) (B+1) G k k blk cap g:=fun v o=>(HG6.out.setOther (by omega) (fun i hi=>by have:=(HG6.out.row i hi).lt.1; omega) v).setOther (by omega) (fun i hi=>by have:=(HG6.out.row i hi).lt.1; omega) o
      have n2:∀ v o,yh ((wr.setCell ⟨B,0,none⟩ v).setCell ⟨B,1,none⟩ o) (B+1) R k k (fun i=>(q i:Int)):=fun v o=>(HO6.out.other (by omega) v).other (by omega) o
      exact bodyPost_ret (v:=.tuple #[.agg #[.slice (some ⟨G,0,none⟩) k k,.slice (some ⟨R,0,none⟩) k k],.bool true]) (by simp [results,Tryz.results109,go_sem,l1,l2]) rfl (by
       unfold nv;rw [HPF.out,hB];exact ⟨(HBL6.out.setCell (Nat.le_refl _) _).setCell (Nat.le_refl _) _,G,R,blk,cap,rfl,(n1 _ _).base (by omega),(n2 _ _).base (by omega),hRG,HBR.out⟩)
def vU (B:Nat) (u v:Value) (w:World):Prop:=w.cell? ⟨B,0,none⟩=some u∧w.cell? ⟨B,1,none⟩=some v∧B<w.heap.size
theorem vU.below {B:Nat} {u v:Value} {w w':World} (h:vU B u v w) {C:Nat} (hb:Below C w w') (hC:B<C):vU B u v w':=
 ⟨(hb.cell (p:=⟨B,0,none⟩) hC).trans h.1,(hb.cell (p:=⟨B,1,none⟩) hC).trans h.2.1,Nat.lt_of_lt_of_le h.2.2 hb.size⟩
theorem vU.new (u v:Value) (w:World) (t:TypeId):vU w.heap.size u v (w.alloc (.cells #[u,v] t)):=by
 refine ⟨?_,?_,by simp⟩<;>rw [World.cell?_alloc_new]<;>rfl
theorem pk (n:Nat) (vA vP vb:Value) (f:Nat→Nat→Nat) (q b:Nat→Nat) (w:World) (hA:yB w vA n (fun _=>n) f) (hP:tX w vP n (fun i=>(q i:Int))) (hb:zT w vb n b) (hq:∀ i,i<n→q i<n) (h1:1≤n) (h8:n≤8) :
  Calls Tryz.prog 110 #[.agg #[vA,vP],vb] w fun e w'=>∃ R,e=.returned (.slice (some ⟨R,0,none⟩) n n)∧yd w' w.heap.size R n n (uh f n (fun i=>b (q i)))∧Below w.heap.size w w':=by
 have hb1:Below w.heap.size w (w.alloc (.cells #[vA,vP] 113)):=(Below.refl _ _).alloc (Nat.le_refl _) _;have hbx:=vU.new vA vP w 113;have hA1:=hA.below hb1;have ST:=hid (t7 _ n f _ hA1 h1 h8);obtain ⟨a,capA,rfl,hn,hAr⟩:=hA;obtain ⟨p,capP,rfl,-,hPr⟩:=hP;obtain ⟨c,capb,rfl,-,hbr⟩:=hb;obtain ⟨ab_,ao,rfl,has,hAc⟩:=hAr (by omega);obtain ⟨pb,po,rfl,hps,hPc⟩:=hPr (by omega);obtain ⟨bb,bo,rfl,hbs,hbc⟩:=hbr (by omega);obtain ⟨iF,hF,f1,f2,f3⟩:=info_parts xu;have HF:=hid (show iF.zero=_∧iF.size=_∧iF.bytes=_ from ⟨f1,f2,f3⟩);have HF0:=hid hF;have HAC:=hid hAc;have HPC:=hid hPc;have HBC:=hid hbc;have HQ:=hid hq;clear hF f1 f2 f3 hAr hPr hbr hAc hPc hbc hq hA1;go_enter Tryz.func110,Tryz.ntmps110;obtain ⟨x1,x2,x3⟩:=id hbx;go_wp2_with fail;refine ST.out.mono ?_;rintro e w1 ⟨rfl,rfl⟩;generalize hB:w.heap.size=B at *;have hW:(w.alloc (.cells #[.slice (some ⟨ab_,ao,none⟩) n capA,.slice (some ⟨pb,po,none⟩) n capP] 113)).heap.size=B+1:=by simp [hB]
 generalize hWe:w.alloc (.cells #[.slice (some ⟨ab_,ao,none⟩) n capA,.slice (some ⟨pb,po,none⟩) n capP] 113)=W at *;have HW:=hid hW;clear hW hWe;have old:∀ X,Below (B+1) W X→∀ b o,b<B→X.cell? ⟨b,o,none⟩=w.cell? ⟨b,o,none⟩:=fun X hX b o hb=>(hX.cell (p:=⟨b,o,none⟩) (show b<B+1 by omega)).trans (hb1.cell (p:=⟨b,o,none⟩) hb)
 have OLD:=hid old;have BX:=hid (show ∀ X,Below (B+1) W X→vU B _ _ X from fun X hX=>hbx.below hX (by omega));have hwB:Below (B+1) W W:=Below.refl _ _;clear old
 go_wp2_with (first
  | (refine wpList_make_full _ rfl _ _ _ rfl (B+1) 31 iF (.float .f64 0) 1 Tryz.underlying30 HF0.out HF.out.1 HF.out.2.1 .i64 .i64 (n:Int) (n:Int) n rfl rfl rfl rfl (by rw [HF.out.2.2]; omega) (by unfold maxLen; omega) (by rw [HW.out]; exact Nat.le_refl _) ?_))
 intro w2 hr1 hg1;have hb2:Below (B+1) W w2:=(Below.refl _ W).grown hg1 (by rw [HW.out]; exact Nat.le_refl _) (fun k hk=>by cases hk);have ho:=yI hr1;generalize W.heap.size=R at *;clear hr1 hg1 x1 x2 x3 hbx hwB;obtain ⟨x1,x2,x3⟩:=BX.out _ hb2;go_wp2_with fail;clear x1 x2 x3
 go_loopw [37] (fun i wr=>∃ (i':Nat) (g:Nat→Nat),i'≤n∧i=.int .i64 i'∧yd wr (B+1) R n n g∧(∀ j,j<i'→g j=fwF f (fun i=>b (q i)) j)∧Below (B+1) W wr) (fun i _=>n-(intOf i).toNat)
 case atStart=>exact ⟨0,_,by omega,rfl,ho,fun j hj=>by omega,hb2⟩
 case round=>
  clear ho hb2;obtain ⟨i,g,hi,rfl,ho,hg,hbl⟩:=hrel;by_cases hlt:i<n
  ·have o1:=OLD.out _ hbl;have p1:=HPC.out i hlt;obtain ⟨y,y1,y2,y3⟩:=HBC.out (q i) (HQ.out i hlt);have hqi:=HQ.out i hlt;have d1:decide ((q i:Int)<0)=false:=by simp
   have d2:decide (n≤q i)=false:=by simpa using hqi
   have d3:decide ((n:Int)≤(q i:Int))=false:=by simpa using hqi
   rw [← o1 _ _ hps] at p1;rw [← o1 _ _ hbs] at y1;have r1:=ho.free i;obtain ⟨z,z1,-,-⟩:=ho.cell hlt;have hRl:=ho.lt;have ho2:=ho.set hlt y2 y3;have HO:=hid ho2;have HG:=hid hg;have hbl2:=hid (hbl.setCell (p:=⟨R,i,none⟩) hRl.1 (.float .f64 y));clear ho ho2 hg o1 y2 hbl;go_wp2_with fail;generalize wr.setCell ⟨R,i,none⟩ (.float .f64 y)=X at *;clear r1 z1 p1 y1 y3
   go_loopw [57] (fun j wr=>∃ (m:Nat) (g:Nat→Nat),m≤i∧j=.int .i64 m∧yd wr (B+1) R n n g∧(∀ j,j<i→g j=fwF f (fun i=>b (q i)) j)∧g i=xJ (f i) (fwF f (fun i=>b (q i))) (b (q i)) m∧Below (B+1) W wr) (fun j _=>i-(intOf j).toNat)
   case atStart=>exact ⟨0,_,by omega,rfl,HO.out,fun j hj=>by rw [zG _ _ (by omega)]; exact HG.out j hj,by rw [zL]; rfl,hbl2.out⟩
   case round=>
    clear HO HG hbl2;obtain ⟨m,g,hm,rfl,ho,hg,hgi,hbl⟩:=hrel;by_cases hml:m<i
    ·have hmn:m<n:=by omega
     have HGm:=hid (show g m=_∧g i=_ from ⟨hg m hml,hgi⟩);have HG:=hid hg;clear hg hgi;go_wp2_with fail;refine zw [(0,1),(1,1),(2,1),(3,2),(4,1),(5,2),(6,1),(7,1),(8,2),(9,1),(10,1),(11,2),(12,1),(13,1),(14,1),(15,2),(16,0),(17,0),(18,1),(19,0)] (by kernel_rfl) (by kernel_rfl) (fun _ _ d _ _ h=>by cases d<;>exact h) ?_;intro Y hY;have ho3:yd Y (B+1) R n n g:=by rw [hY]; exact ho.drew
     have hbl3:Below (B+1) W Y:=by rw [hY]; exact hbl.drew
     clear hY ho hbl;obtain ⟨a1,a2,a3⟩:=BX.out _ hbl3;obtain ⟨u,u1,ua,ucap,rfl,-,ur⟩:=HAC.out i hlt;obtain ⟨ub,uo,rfl,hus,uc⟩:=ur (by omega);obtain ⟨l,l1,l2,l3⟩:=uc m (by omega);have o1:=OLD.out _ hbl3;rw [← o1 _ _ has] at u1;rw [← o1 _ _ (by rw [← hB]; exact hus)] at l1;obtain ⟨x,x1,x2,x3⟩:=ho3.cell hlt;obtain ⟨y,y1,y2,y3⟩:=ho3.cell (show m<n by omega);have r1:=ho3.free i;have HX:=hid (show zk x=g i∧zk l=f i m∧zk y=g m from ⟨x2,l2,y2⟩);have HO:=hid ho3;have HBL:=hid hbl3;clear ho3 hbl3 x2 l2 y2 ur uc o1
     iterate 16
      first
       | refine zd (fun K hK=>?_)
       | refine ze (fun K hK=>?_)
      go_simp;refine hK _ ?_;clear hK K
     refine zx (fun K hK=>?_);go_simp;refine hK _ _ (fun _=>⟨_,rfl⟩) ?_;clear hK K;refine zx (fun K hK=>?_);go_simp;refine hK _ _ (fun _=>⟨_,rfl⟩) ?_;clear hK K
     iterate 1
      first
       | refine zd (fun K hK=>?_)
       | refine ze (fun K hK=>?_)
      go_simp;refine hK _ ?_;clear hK K
     refine zx (fun K hK=>?_);go_simp;refine hK _ _ (fun h=>Bool.noConfusion (Eq.trans (Eq.symm (by kernel_rfl:_=false)) h)) ?_;clear hK K;refine zo ?_
     have hv:zk (zZ .sub (Y.drewN (zP .mul l y)) x (zZ .mul Y l y))=xJ (f i) (fwF f (fun i=>b (q i))) (b (q i)) (m+1):=by
      rw [wE .sub _ (HX.out.1.trans HGm.out.2) (wE .mul Y HX.out.2.1 (HX.out.2.2.trans HGm.out.1))];rfl
     have ho4:=fun e=>(HO.out.set hlt hv (yi _ _ _ _)).drewN e
     have hbl4:=fun e=>yc (HBL.out.setCell (p:=⟨R,i,none⟩) hRl.1 (.float .f64 (zZ .sub (Y.drewN (zP .mul l y)) x (zZ .mul Y l y)))) e
     have HO4:=hid ho4;have HBL4:=hid hbl4;clear ho4 hbl4 hv;go_wp2_with fail
     go_roundw
     case rel=>exact ⟨m+1,_,by omega,by go_num,HO4.out _,fun j hj=>by rw [zG _ _ (by omega)]; exact HG.out j hj,by rw [zL],HBL4.out _⟩
     case measure=>simp [intOf]; omega
    ·obtain rfl:m=i:=by omega
     have HG:=hid (show g m=fwF f (fun i=>b (q i)) m by rw [hgi,mA]);have HG2:=hid hg;clear hg hgi;go_wp2_with fail
     go_roundw
     case rel=>exact ⟨m+1,g,by omega,by go_num,ho,fun j hj=>by
      by_cases e:j=m
      ·subst e; exact HG.out
      ·exact HG2.out j (by omega),hbl⟩
     case measure=>simp [intOf]; omega
  ·obtain rfl:i=n:=by omega
   have HG:=hid hg;clear hg;go_wp2_with fail;generalize hY:fwF f (fun i=>b (q i))=y at *;have HYE:=hid hY;clear hY HPC HBC HQ hlt hi
   go_loopw [10] (fun sl wr=>∃ (t:Nat) (z:Int) (g:Nat→Nat),t≤i∧z=t-1∧sl=.int .i64 z∧yd wr (B+1) R i i g∧(∀ j,j<i→g j=if t≤j then bkF f i y j else y j)∧Below (B+1) W wr) (fun sl _=>(intOf sl+1).toNat)
   case atStart=>exact ⟨i,_,g,by omega,rfl,rfl,ho,fun j hj=>by rw [if_neg (by omega)]; exact HG.out j hj,hbl⟩
   case round=>
    clear ho hbl HG;obtain ⟨t,z,g,ht,hz,rfl,ho,hg,hbl⟩:=hrel
    cases t with
    | zero=>
     have hz1:z<0:=by omega
     have hz2:-2<z:=by omega
     clear hz;have HG:=hid hg;clear hg;go_wp2_with fail;go_ret;exact ⟨R,rfl,(ho.base (by rw [hB]; have:=ho.lt.1; omega)).congr (fun j hj=>by rw [HG.out j hj,if_pos (by omega)]; unfold uh; rw [HYE.out]),by rw [hB]; exact hb1.trans (hbl.mono (by omega))⟩
    | succ r=>
     obtain rfl:z=(r:Int):=by omega
     have hri:r<i:=by omega
     have HG:=hid hg;clear hg hz;go_wp2_with fail
     go_loopw [11] (fun sl wr=>∃ (m:Nat) (g:Nat→Nat),r+1+m≤i∧sl=.int .i64 (r+1+m:Nat)∧yd wr (B+1) R i i g∧(∀ j,j<i→g j=if j<r then y j else if j=r then xJ (fun j=>f r (r+1+j)) (fun j=>bkF f i y (r+1+j)) (y r) m else bkF f i y j)∧Below (B+1) W wr) (fun sl _=>i-(intOf sl).toNat)
     case atStart=>exact ⟨0,g,by omega,by go_num,ho,fun j hj=>by
      rw [HG.out j hj];by_cases e:j<r
      ·rw [if_neg (by omega),if_pos e]
      ·rw [if_neg e];by_cases e2:j=r
       ·subst e2; rw [if_neg (by omega),if_pos rfl]; rfl
       ·rw [if_pos (by omega),if_neg e2],hbl⟩
     case round=>
      clear ho hbl HG;obtain ⟨m,g,hm,rfl,ho,hg,hbl⟩:=hrel;by_cases hlt:r+1+m<i
      ·generalize hke:r+1+m=k at *;have hrk:r<k:=by omega
       have HGr:=hid (show g r=_ by rw [hg r hri,if_neg (by omega),if_pos rfl]);have HGk:=hid (show g k=bkF f i y k by rw [hg k hlt,if_neg (by omega),if_neg (by omega)]);have HG:=hid hg;have HKE:=hid hke;clear hg hke;go_wp2_with fail;refine zw [(0,1),(1,1),(2,1),(3,2),(4,1),(5,2),(6,1),(7,1),(8,2),(9,1),(10,1),(11,2),(12,1),(13,1),(14,1),(15,2),(16,0),(17,0),(18,1),(19,0)] (by kernel_rfl) (by kernel_rfl) (fun _ _ d _ _ h=>by cases d<;>exact h) ?_;intro Y hY;have ho3:yd Y (B+1) R i i g:=by rw [hY]; exact ho.drew
       have hbl3:Below (B+1) W Y:=by rw [hY]; exact hbl.drew
       clear hY ho hbl;obtain ⟨a1,a2,a3⟩:=BX.out _ hbl3;obtain ⟨u,u1,ua,ucap,rfl,-,ur⟩:=HAC.out r hri;obtain ⟨ub,uo,rfl,hus,uc⟩:=ur (by omega);obtain ⟨l,l1,l2,l3⟩:=uc k (by omega);have o1:=OLD.out _ hbl3;rw [← o1 _ _ has] at u1;rw [← o1 _ _ (by rw [← hB]; exact hus)] at l1;obtain ⟨x,x1,x2,x3⟩:=ho3.cell hri;obtain ⟨e,e1,e2,e3⟩:=ho3.cell hlt;have r1:=ho3.free r;have hRl:=ho3.lt;have HX:=hid (show zk x=g r∧zk l=f r k∧zk e=g k from ⟨x2,l2,e2⟩);have HO:=hid ho3;have HBL:=hid hbl3;clear ho3 hbl3 x2 l2 e2 ur uc o1
       iterate 16
        first
         | refine zd (fun K hK=>?_)
         | refine ze (fun K hK=>?_)
        go_simp;refine hK _ ?_;clear hK K
       refine zx (fun K hK=>?_);go_simp;refine hK _ _ (fun _=>⟨_,rfl⟩) ?_;clear hK K;refine zx (fun K hK=>?_);go_simp;refine hK _ _ (fun _=>⟨_,rfl⟩) ?_;clear hK K
       iterate 1
        first
         | refine zd (fun K hK=>?_)
         | refine ze (fun K hK=>?_)
        go_simp;refine hK _ ?_;clear hK K
       refine zx (fun K hK=>?_);go_simp;refine hK _ _ (fun h=>Bool.noConfusion (Eq.trans (Eq.symm (by kernel_rfl:_=false)) h)) ?_;clear hK K;refine zo ?_
       have hv:zk (zZ .sub (Y.drewN (zP .mul l e)) x (zZ .mul Y l e))=xJ (fun j=>f r (r+1+j)) (fun j=>bkF f i y (r+1+j)) (y r) (m+1):=by
        rw [wE .sub _ (HX.out.1.trans HGr.out) (wE .mul Y HX.out.2.1 (HX.out.2.2.trans HGk.out)),xJ,HKE.out]
       have ho4:=fun d=>(HO.out.set hri hv (yi _ _ _ _)).drewN d
       have hbl4:=fun d=>yc (HBL.out.setCell (p:=⟨R,r,none⟩) hRl.1 (.float .f64 (zZ .sub (Y.drewN (zP .mul l e)) x (zZ .mul Y l e)))) d
       have HO4:=hid ho4;have HBL4:=hid hbl4;clear ho4 hbl4 hv;go_wp2_with fail
       go_roundw
       case rel=>exact ⟨m+1,_,by have:=HKE.out; omega,by rw [← Nat.add_assoc,HKE.out]; go_num,HO4.out _,fun j hj=>by
        by_cases e4:j=r
        ·subst e4; rw [zL,if_neg (by omega),if_pos rfl]
        ·rw [zG _ _ e4,HG.out j hj,if_neg e4,if_neg e4],HBL4.out _⟩
       case measure=>simp [intOf]; omega
      ·generalize hke:r+1+m=k at *;have hki:k=i:=by omega
       have HGr:=hid (show g r=_ by rw [hg r hri,if_neg (by omega),if_pos rfl]);have HG:=hid hg;have hm2:m=i-1-r:=by omega
       have HM:=hid hm2;clear hg hke hm2;subst hki;go_wp2_with fail;refine zw [(0,1),(1,1),(2,1),(3,2),(4,1),(5,2),(6,1),(7,1),(8,2),(9,1),(10,1),(11,2),(12,0),(13,1),(14,0)] (by kernel_rfl) (by kernel_rfl) (fun _ _ d _ _ h=>by cases d<;>exact h) ?_;intro Y hY;have ho3:yd Y (B+1) R k k g:=by rw [hY]; exact ho.drew
       have hbl3:Below (B+1) W Y:=by rw [hY]; exact hbl.drew
       clear hY ho hbl;obtain ⟨a1,a2,a3⟩:=BX.out _ hbl3;obtain ⟨u,u1,ua,ucap,rfl,-,ur⟩:=HAC.out r hri;obtain ⟨ub,uo,rfl,hus,uc⟩:=ur (by omega);obtain ⟨l,l1,l2,l3⟩:=uc r (by omega);have o1:=OLD.out _ hbl3;rw [← o1 _ _ has] at u1;rw [← o1 _ _ (by rw [← hB]; exact hus)] at l1;obtain ⟨x,x1,x2,x3⟩:=ho3.cell hri;have r1:=ho3.free r;have hRl:=ho3.lt;have HX:=hid (show zk x=g r∧zk l=f r r from ⟨x2,l2⟩);have HO:=hid ho3;have HBL:=hid hbl3;clear ho3 hbl3 x2 l2 ur uc o1
       iterate 12
        first
         | refine zd (fun K hK=>?_)
         | refine ze (fun K hK=>?_)
        go_simp;refine hK _ ?_;clear hK K
       refine zx (fun K hK=>?_);go_simp;refine hK _ _ (fun _=>⟨_,rfl⟩) ?_;clear hK K
       iterate 1
        first
         | refine zd (fun K hK=>?_)
         | refine ze (fun K hK=>?_)
        go_simp;refine hK _ ?_;clear hK K
       refine zx (fun K hK=>?_);go_simp;refine hK _ _ (fun h=>Bool.noConfusion (Eq.trans (Eq.symm (by kernel_rfl:_=false)) h)) ?_;clear hK K;refine zo ?_
       have hv:zk (zZ .quo Y x l)=bkF f k y r:=by
        rw [wE .quo _ (HX.out.1.trans HGr.out) HX.out.2,mB f k y hri,HM.out]
       have ho4:=fun d=>(HO.out.set hri hv (yi _ _ _ _)).drewN d
       have hbl4:=fun d=>yc (HBL.out.setCell (p:=⟨R,r,none⟩) hRl.1 (.float .f64 (zZ .quo Y x l))) d
       have HO4:=hid ho4;have HBL4:=hid hbl4;clear ho4 hbl4 hv;go_wp2_with fail
       go_roundw
       case rel=>exact ⟨r,_,_,by omega,rfl,by go_num,HO4.out _,fun j hj=>by
        by_cases e4:j=r
        ·subst e4; rw [zL,if_pos (by omega)]
        ·rw [zG _ _ e4,HG.out j hj,if_neg e4];by_cases e5:j<r
         ·rw [if_pos e5,if_neg (by omega)]
         ·rw [if_neg e5,if_pos (by omega)],HBL4.out _⟩
       case measure=>simp [intOf]
theorem rE (v:Value) (n:Nat) (f:Nat→Nat→Nat) (w:World) (h:yB w v n (fun _=>n) f) (h1:1≤n) (h8:n≤8) :
  Calls Tryz.prog 120 #[v] w fun e w'=>∃ G c blk cap,e=.returned (.slice (some ⟨G,0,none⟩) n c)∧yD w' w.heap.size G n n blk cap f∧Below w.heap.size w w':=by
 obtain ⟨a,cap0,rfl,hn,hr⟩:=h;obtain ⟨b,off,rfl,hbs,hc⟩:=hr (by omega);have HC:=hid hc;obtain ⟨iF,hF,f1,f2,f3⟩:=info_parts xu;obtain ⟨iS,hS,s1,s2,s3⟩:=info_parts my;have HF:=hid (show iF.zero=_∧iF.size=_∧iF.bytes=_ from ⟨f1,f2,f3⟩);have HF0:=hid hF;have HS:=hid (show iS.zero=_∧iS.size=_∧iS.bytes=_ from ⟨s1,s2,s3⟩);have HS0:=hid hS;clear hF f1 f2 f3 hS s1 s2 s3 hr hc;go_enter Tryz.func120,Tryz.ntmps120;generalize hB:w.heap.size=B at *;go_wp2_with fail
 go_loopw [3,4] (fun va i wr=>∃ (r:Nat) (blk cap:Nat→Nat),r≤n∧i=.int .i64 r∧xI wr B va r n blk cap f∧Below B w wr) (fun _ i _=>n-(intOf i).toNat)
 case atStart=>exact ⟨0,_,_,by omega,rfl,xI.start _ _ _ _,Below.refl _ _⟩
 case round=>
  obtain ⟨r,blk,cap,hr,rfl,hg,hbl⟩:=hrel;by_cases hlt:r<n
  ·have hgl:=hg.lt;have hsz:=hbl.size;have HG:=hid hg;have HGL:=hid hgl;obtain ⟨rs,hrs,-⟩:=hg.own;obtain ⟨va',vcap,rfl⟩:=ym hrs;obtain ⟨u,hu,a2,cap2,rfl,hu2,hu3⟩:=HC.out r hlt;obtain ⟨b2,off2,rfl,hb2s,hfc⟩:=hu3 (by omega);have hw:∀ p o,p<B→wr.cell? ⟨p,o,none⟩=w.cell? ⟨p,o,none⟩:=fun p o hp=>hbl.cell (p:=⟨p,o,none⟩) hp
   rw [← hw _ _ hbs] at hu;obtain ⟨ys,y1,y2,y3,y4⟩:=vE (w:=wr) (b:=b2) (off:=off2) (n:=n) (f:=f r) (fun i hi=>(hfc i hi).same (hw _ _ (by rw [← hB]; exact hb2s)));have HY:=hid (show ys.length=n∧yO ys n (f r)∧(∀ j v,ys[j]? = some v→wr.cell? ⟨b2,off2+j,none⟩=some v)∧∀ v ∈ ys,v.oneCell'=true from ⟨y1,y2,y3,y4⟩);have hb2B:b2<B:=by rw [← hB]; exact hb2s
   clear hg hgl hrs rs hfc hu3 hw y1 y2 y3 y4;have hal:Below wr.heap.size wr (wr.alloc (.cells #[] 31)):=(Below.refl _ _).alloc (Nat.le_refl _) _;have hu':(wr.alloc (.cells #[] 31)).cell? ⟨b,off+r,none⟩=some (.slice (some ⟨b2,off2,none⟩) n cap2):=((zA hal).1 b (off+r) (by omega)).trans hu;have he:(wr.alloc (.cells #[] 31)).ownsRow B 31 1 (.slice (some ⟨wr.heap.size,0,none⟩) 0 0) 0 []:=⟨by simp,.inr ⟨_,0,#[],rfl,by omega,heap_alloc_new _ _,Nat.le_refl _,by unfold maxLen; omega,by simp,by simp⟩⟩
   have hn2:∀ j v,ys[j]? = some v→(wr.alloc (.cells #[] 31)).cell? ((⟨b2,off2,none⟩:Addr).add j)=some v:=fun j v hv=>by
    have e4:(⟨b2,off2,none⟩:Addr).add j=⟨b2,off2+j,none⟩:=by simp [Addr.add]
    rw [e4,(zA hal).1 b2 (off2+j) (by omega)];exact HY.out.2.2.1 j v hv
   have hH:(wr.alloc (.cells #[] 31)).heap.size=wr.heap.size+1:=by simp
   have HAL:=hid hal;have HE:=hid he;have HN2:=hid hn2;have HH:=hid hH;clear hal he hn2 hH hu
   go_wp2_with (first
    | (at_builtin; refine wpList_append_own_at _ rfl (.tmp 12) (.tmp 16) 30 rfl B 31 iF (.float .f64 0) 1 8 Tryz.underlying30 HF0.out HF.out.1 HF.out.2.1 HF.out.2.2 rfl (by decide) (.slice (some ⟨wr.heap.size,0,none⟩) 0 0) 0 [] rfl HE.out ⟨b2,off2,none⟩ n cap2 ys rfl (by rw [HY.out.1]; omega) HN2.out HY.out.2.2.2 (by unfold maxLen; omega) (by omega) (by rw [HH.out]; omega) ?_)
    | go_in)
   intro v' w2 hown' hgrow _ hob;obtain ⟨R,rcap,rfl,hO⟩:=HY.out.2.1.own hown' (by omega)
   have hRl:wr.heap.size≤R:=by
    rcases hob with e | e
    ·have:R=wr.heap.size:=by simpa [Value.ownBlock] using e
     omega
    ·have:R=(wr.alloc (.cells #[] 31)).heap.size:=by simpa [Value.ownBlock] using e
     have:=HH.out; omega
   have hb2:Below wr.heap.size wr w2:=HAL.out.trans (yv (base:=wr.heap.size) (E:=31) (size:=1) (n:=0) (qs:=[]) (v:=.slice (some ⟨wr.heap.size,0,none⟩) 0 0) ⟨by simp,.inr ⟨_,0,#[],rfl,Nat.le_refl _,heap_alloc_new _ _,Nat.le_refl _,by unfold maxLen; omega,by simp,by simp⟩⟩ (Nat.le_refl _) (by rw [HH.out]; omega) hgrow);have hg2:xI w2 B (.slice va' r vcap) r n blk cap f:=HG.out.keep hb2 HGL.out.1 HGL.out.2;have hne:∀ i,i<r→blk i≠R:=fun i hi=>by have:=HGL.out.2 i hi; omega
   have hne0:(Value.slice va' r vcap).ownBlock≠some R:=fun e=>by have:=HGL.out.1 R e; omega
   have hbl2:Below B w w2:=hbl.trans (hb2.mono (by omega));obtain ⟨rs,hrs,-⟩:=hg2.own;have hrl:=hrs.1;have HG2:=hid hg2;have HRS:=hid hrs;have HO:=hid hO;have HNE:=hid (show (∀ i,i<r→blk i≠R)∧_ from ⟨hne,hne0⟩);have hsz2:=hbl2.size;clear hown' hgrow hob hb2 hg2 hne hne0 hrs hO HAL HE HN2 HH hu'
   go_wp2_with (first
    | (at_builtin; refine wpList_append_own_at _ rfl (.tmp 11) (.tmp 18) 35 rfl B 30 iS (.slice none 0 0) 1 24 Tryz.underlying35 HS0.out HS.out.1 HS.out.2.1 HS.out.2.2 rfl (by decide) (.slice va' r vcap) r rs rfl (HRS.out.alloc _) ⟨w2.heap.size,0,none⟩ 1 1 [.slice (some ⟨R,0,none⟩) n rcap] rfl rfl (uj w2 (.slice (some ⟨R,0,none⟩) n rcap) 30 0) (by simp [Value.oneCell']) (by unfold maxLen; omega) (by omega) (by simp; omega) ?_)
    | go_in)
   intro v'' w3 hown'' hgrow _ hob;have hb3:Below B w2 w3:=((Below.refl B w2).alloc (by omega) _).trans (yv (HRS.out.alloc _) (Nat.le_refl _) (by simp; omega) hgrow)
   have hg3:=HG2.out.app HRS.out HO.out HNE.out.2 HNE.out.1 ((Below.refl _ _).alloc (Nat.le_refl _) _) hgrow hown'' (fun k hk=>by
    rcases hob with e | e
    ·rw [e] at hk; exact .inl hk
    ·rw [e] at hk; simp only [Option.some.injEq] at hk; right; rw [← hk]; simp)
   have HG3:=hid hg3;have HB3:=hid (hbl2.trans hb3);clear hown'' hgrow hob hg3 hb3;go_wp2_with fail
   go_roundw
   case rel=>exact ⟨r+1,_,_,by omega,by go_num,HG3.out,HB3.out⟩
   case measure=>simp [intOf]; omega
  ·obtain rfl:r=n:=by omega
   obtain ⟨G,c,hv,hG⟩:=hg.grid (by omega);have HG:=hid hG;subst hv;clear hG hg;go_wp2_with fail;go_ret;exact ⟨G,c,blk,cap,rfl,HG.out,hbl⟩
structure PS (W w:World) (B G R L n c c2:Nat) (blk cap:Nat→Nat) (g:Nat→Nat→Nat) (q:Nat→Nat):Prop where
 grid:yD w (B+1) G n n blk cap g
 perm:yh w (B+1) R n c2 (fun i=>(q i:Int))
 box:vU L (.slice (some ⟨G,0,none⟩) n c) (.slice (some ⟨R,0,none⟩) n c2) w
 below:Below (B+1) W w
 rg:R≠G
 br:∀ i,i<n→blk i≠R
 lg:L≠G
 lr:L≠R
 bl:∀ i,i<n→blk i≠L
 lo:B+1≤W.heap.size
theorem PS.go {W w w':World} {B G R L n c c2:Nat} {blk cap:Nat→Nat} {g:Nat→Nat→Nat} {q:Nat→Nat} (h:PS W w B G R L n c c2 blk cap g q) (hb:Below w.heap.size w w'):PS W w' B G R L n c c2 blk cap g q:=
 ⟨h.grid.below hb,h.perm.below hb h.perm.lt.2,h.box.below hb h.box.2.2,h.below.trans (hb.mono (Nat.le_trans h.lo h.below.size)),h.rg,h.br,h.lg,h.lr,h.bl,h.lo⟩
theorem PS.drew {W w:World} {B G R L n c c2:Nat} {blk cap:Nat→Nat} {g:Nat→Nat→Nat} {q:Nat→Nat} (h:PS W w B G R L n c c2 blk cap g q):PS W w.drew B G R L n c c2 blk cap g q:=h.go (Below.refl _ _).drew
theorem PS.drewN {W w:World} {B G R L n c c2:Nat} {blk cap:Nat→Nat} {g:Nat→Nat→Nat} {q:Nat→Nat} (h:PS W w B G R L n c c2 blk cap g q) (k:Nat):PS W (w.drewN k) B G R L n c c2 blk cap g q:=h.go (yc (Below.refl _ _) k)
theorem xr {w:World} {L b o:Nat} {u v x:Value} (h:vU L u v w) (hb:b≠L):vU L u v (w.setCell ⟨b,o,none⟩ x):=by
 have e:(w.setCell ⟨b,o,none⟩ x).heap[L]? = w.heap[L]?:=Below.heap_setCell _ _ _ _ (fun q=>hb q.symm);exact ⟨(World.cell?_of_block (a:=⟨L,0,none⟩) e).trans h.1,(World.cell?_of_block (a:=⟨L,1,none⟩) e).trans h.2.1,by simp [World.setCell]; exact h.2.2⟩
theorem PS.set {W w:World} {B G R L n c c2:Nat} {blk cap:Nat→Nat} {g:Nat→Nat→Nat} {q:Nat→Nat} (h:PS W w B G R L n c c2 blk cap g q) {i j y d:Nat} (hi:i<n) (hj:j<n) (h1:zk y=d) (h2:y<18446744073709551616) :
  PS W (w.setCell ⟨blk i,j,none⟩ (.float .f64 y)) B G R L n c c2 blk cap (xR g i j d) q:=
 ⟨h.grid.set hi hj h1 h2,h.perm.other (h.br i hi) _,xr h.box (h.bl i hi),h.below.setCell (h.grid.row i hi).lt.1 _,h.rg,h.br,h.lg,h.lr,h.bl,h.lo⟩
theorem PS.congr {W w:World} {B G R L n c c2:Nat} {blk cap:Nat→Nat} {g g':Nat→Nat→Nat} {q:Nat→Nat} (h:PS W w B G R L n c c2 blk cap g q) (e:∀ i j,i<n→j<n→g i j=g' i j):PS W w B G R L n c c2 blk cap g' q:=
 ⟨h.grid.congr e,h.perm,h.box,h.below,h.rg,h.br,h.lg,h.lr,h.bl,h.lo⟩
theorem PS.swapG {W w:World} {B G R L n c c2 p k:Nat} {blk cap:Nat→Nat} {g:Nat→Nat→Nat} {q:Nat→Nat} (h:PS W w B G R L n c c2 blk cap g q) (hp:p<n) (hk:k<n) :
  PS W ((w.setCell ⟨G,k,none⟩ (.slice (some ⟨blk p,0,none⟩) n (cap p))).setCell ⟨G,p,none⟩ (.slice (some ⟨blk k,0,none⟩) n (cap k))) B G R L n c c2 (swp blk k p) (swp cap k p) (swp g k p) q:=
 ⟨h.grid.swap hk hp,(h.perm.other h.rg.symm _).other h.rg.symm _,xr (xr h.box h.lg.symm) h.lg.symm,(h.below.setCell h.grid.lo _).setCell h.grid.lo _,h.rg,fun i hi=>by rw [xD]; exact h.br _ (tY hk hp hi),h.lg,h.lr,fun i hi=>by rw [xD]; exact h.bl _ (tY hk hp hi),h.lo⟩
theorem PS.swapR {W w:World} {B G R L n c c2 p k:Nat} {blk cap:Nat→Nat} {g:Nat→Nat→Nat} {q:Nat→Nat} (h:PS W w B G R L n c c2 blk cap g q) (hp:p<n) (hk:k<n) :
  PS W ((w.setCell ⟨R,k,none⟩ (.int .i64 (q p))).setCell ⟨R,p,none⟩ (.int .i64 (q k))) B G R L n c c2 blk cap g (swp q k p):=
 ⟨(h.grid.setOther h.rg (fun i hi e=>h.br i hi e.symm) _).setOther h.rg (fun i hi e=>h.br i hi e.symm) _,(h.perm.swap hk hp).congr (fun i _=>by rw [xD,xD]),xr (xr h.box h.lr.symm) h.lr.symm,(h.below.setCell h.perm.lt.1 _).setCell h.perm.lt.1 _,h.rg,h.br,h.lg,h.lr,h.bl,h.lo⟩
theorem yD.belowN {w w':World} {base G n m H:Nat} {blk cap:Nat→Nat} {f:Nat→Nat→Nat} (h:yD w base G n m blk cap f) (hb:Below H w w') (hG:G<H) (hB:∀ i,i<n→blk i<H):yD w' base G n m blk cap f:=
 ⟨fun i hi=>(hb.cell (p:=⟨G,i,none⟩) hG).trans (h.ref i hi),fun i hi=>(hb.frozen (p:=⟨G,i,none⟩) hG).trans (h.free i hi),fun i hi=>(h.row i hi).below hb (hB i hi),h.inj,h.off,h.lo,Nat.lt_of_lt_of_le h.hi hb.size⟩
theorem mY {w:World} {L:Nat} {u v:Value} (h:vU L u v w) (x:Value):vU L u x (w.setCell ⟨L,1,none⟩ x):=by
 obtain ⟨h1,h2,h3⟩:=h;exact ⟨by simp [go_sem,h1],by simp [go_sem,h2],by simp [World.setCell]; exact h3⟩
theorem pB {α:Type} (f:Nat→α) (p k:Nat):swp f k p=swp f p k:=by
 funext i
 rw [xD,xD]
 congr 1
 unfold sg;by_cases h1:i=p
 ·by_cases h2:i=k
  ·rw [if_pos h1,if_pos h2]; omega
  ·rw [if_pos h1,if_neg h2,if_pos h1]
 ·by_cases h2:i=k
  ·rw [if_neg h1,if_pos h2,if_pos h2]
  ·rw [if_neg h1,if_neg h2,if_neg h2,if_neg h1]
theorem zR (P:Program) (w:World) (a:Addr) (m:Mode) (p:Option Addr) (n c:Nat):(store a (.slice p n c) m).run P w=stored P w a (.slice p n c) m:=run_store P w a _ m rfl
def s9 (n:Nat) (o:Option ((Nat→Nat→Nat) × (Nat→Nat))) (w:World) (e:Ending) (w':World):Prop:=
 Below w.heap.size w w'∧match o with
 | none=>e=.returned (.tuple #[.agg #[.slice none 0 0,.slice none 0 0],.bool false])
 | some (g,q)=>∃ G R c c2 blk cap,e=.returned (.tuple #[.agg #[.slice (some ⟨G,0,none⟩) n c,.slice (some ⟨R,0,none⟩) n c2],.bool true])∧yD w' w.heap.size G n n blk cap g∧yh w' w.heap.size R n c2 (fun i=>(q i:Int))∧R≠G∧∀ i,i<n→blk i≠R
theorem rabsQ (x:Nat) (w:World) (hx:x<18446744073709551616):Calls Tryz.prog 32 #[.float .f64 x] w fun e w'=>e=.returned (.float .f64 (ab x))∧w'=w:=by
 go_enter Tryz.func32,Tryz.ntmps32;go_wp2_with fail;refine (absQ x _ hx).mono ?_;rintro e w' ⟨rfl,rfl⟩;go_wp2_with fail;go_ret;exact ⟨rfl,rfl⟩
theorem vk (a:Nat) (w:World):Calls Tryz.prog 58 #[.float .f64 a] w (xf (.bool (xi a)) w):=by
 have hz:=fun w=>qQ w a
 have H:=hid hz;clear hz;go_enter Tryz.func58,Tryz.ntmps58
 go_wp2
 go_ret;exact ⟨yX (H.out _),yc (Below.refl _ _) _⟩
theorem pC (n:Nat) (v:Value) (f:Nat→Nat→Nat) (w:World) (h:yB w v n (fun _=>n) f) (h1:1≤n) (h8:n≤8) :
  Calls Tryz.prog 95 #[v] w (s9 n (yU f n n) w):=by
 have hb1:Below w.heap.size w (w.alloc (.cells #[.slice none 0 0,.slice none 0 0] 94)):=(Below.refl _ _).alloc (Nat.le_refl _) _;have ht:=h.below hb1;obtain ⟨iI,hI,i1,i2,i3⟩:=info_parts tj;have HN:=hid (show iI.zero=_∧iI.size=_∧iI.bytes=_ from ⟨i1,i2,i3⟩);have HN0:=hid hI;obtain ⟨a,cap0,rfl,hn,-⟩:=id h;have CP:=hid (rE _ n f _ ht h1 h8);clear h ht hI i1 i2 i3;go_enter Tryz.func95,Tryz.ntmps95;go_wp2_with fail;refine CP.out.mono ?_;rintro e w2 ⟨G,c,blk,cap,rfl,hg,hb2⟩;generalize hB:w.heap.size=B at *;have hW:(w.alloc (.cells #[.slice none 0 0,.slice none 0 0] 94)).heap.size=B+1:=by simp [hB]
 rw [hW] at hg hb2;have hl0:(w.alloc (.cells #[.slice none 0 0,.slice none 0 0] 94)).heap[B]? = some (.cells #[.slice none 0 0,.slice none 0 0] 94 (0,0)):=by rw [← hB]; exact heap_alloc_new _ _
 generalize w.alloc (.cells #[.slice none 0 0,.slice none 0 0] 94)=W at *
 have LB0:=hid (show ∀ X,Below (B+1) W X→X.cell? ⟨B,0,none⟩=some (.slice none 0 0)∧X.cell? ⟨B,1,none⟩=some (.slice none 0 0)∧X.frozen? ⟨B,0,none⟩=false∧X.frozen? ⟨B,1,none⟩=false from fun X hX=>by
  have e:=(hX.block B (by omega)).trans hl0;refine ⟨?_,?_,?_,?_⟩<;>simp [World.cell?,World.frozen?,e]<;>rfl)
 have HW:=hid hW;have HG:=hid hg;have HB2:=hid hb2;clear hl0 hW hg CP hb2;go_wp2_with fail;generalize hL:w2.heap.size=L at *;have hLs:B+1≤L:=by have:=HB2.out.size; have:=HW.out; omega
 have hGL:G<L:=by have:=HG.out.hi; omega
 have hbL0:∀ i,i<n→blk i<L:=fun i hi=>by have:=(HG.out.row i hi).lt.2; omega
 have HBL0:=hid hbL0;have hal:Below w2.heap.size w2 (w2.alloc (.cells #[.slice (some ⟨G,0,none⟩) n c,.slice none 0 0] 94)):=(Below.refl _ _).alloc (Nat.le_refl _) _;have hbx0:vU L (.slice (some ⟨G,0,none⟩) n c) (.slice none 0 0) (w2.alloc (.cells #[.slice (some ⟨G,0,none⟩) n c,.slice none 0 0] 94)):=by rw [← hL]; exact vU.new _ _ _ _
 have hfr0:(w2.alloc (.cells #[.slice (some ⟨G,0,none⟩) n c,.slice none 0 0] 94)).frozen? ⟨L,1,none⟩=false:=by rw [← hL]; simp [go_sem]
 have hg0:=HG.out.below hal;have hb0:Below (B+1) W (w2.alloc (.cells #[.slice (some ⟨G,0,none⟩) n c,.slice none 0 0] 94)):=HB2.out.alloc (by omega) _;generalize w2.alloc (.cells #[.slice (some ⟨G,0,none⟩) n c,.slice none 0 0] 94)=X at *;clear hbL0 hal HG HB2 hL;clear w2
 go_loopw [6] (fun i wr=>∃ (r:Nat) (vp:Value) (qs:List Value),r≤n∧i=.int .i64 r∧vU L (.slice (some ⟨G,0,none⟩) n c) vp wr∧wr.frozen? ⟨L,1,none⟩=false∧wr.ownsRow (B+1) 3 1 vp r qs∧uJ qs r (fun i=>(i:Int))∧(∀ k,vp.ownBlock=some k→L<k)∧yD wr (B+1) G n n blk cap f∧Below (B+1) W wr) (fun i _=>n-(intOf i).toNat)
 case atStart=>exact ⟨0,_,[],by omega,rfl,hbx0,hfr0,World.ownsRow_nil _ _ _ _,uJ.nil _ _,(fun k hk=>by cases hk),hg0,hb0⟩
 case round=>
  clear hbx0 hfr0 hg0 hb0;obtain ⟨r,vp,qs,hr,rfl,hbx,hfr,ho,hq,hvp,hg,hbl⟩:=hrel;obtain ⟨va,vcap,rfl⟩:=ym ho;by_cases hlt:r<n
  ·have _hn:=hlt;obtain ⟨x1,x2,x3⟩:=id hbx;have HO:=hid ho;have HQ:=hid hq;have HVP:=hid hvp;have HG:=hid hg;have HBL:=hid hbl;have HBX:=hid hbx;have HFR:=hid hfr;have hsz:=hbl.size;have hWs:=HW.out;have HWs:=hid hWs;have hB1:B+1≤wr.heap.size:=by omega
   have hGs:=hg.hi;clear ho hq hvp hg hbl hbx hfr hWs
   go_wp2_with (first
    | (at_builtin; refine wpList_append_own_at _ rfl _ _ 22 rfl (B+1) 3 iI (.int .i64 0) 1 8 Tryz.underlying22 HN0.out HN.out.1 HN.out.2.1 HN.out.2.2 rfl (by decide) (.slice va r vcap) r qs rfl (HO.out.alloc _) ⟨wr.heap.size,0,none⟩ 1 1 [.int .i64 r] rfl rfl (uj wr (.int .i64 r) 3 0) (by simp [Value.oneCell']) (by unfold maxLen; omega) (by omega) (by simp; omega) ?_)
    | go_in)
   intro v' w4 hown' hgrow _ hob;have hvL:(Value.slice va r vcap).ownBlock≠some L:=fun e=>by have:=HVP.out L e; omega
   have hb4:Below (L+1) wr w4:=((Below.refl (L+1) wr).alloc (by omega) _).grown hgrow (by simp; omega) (fun k hk=>HVP.out k hk);have hbx4:=HBX.out.below hb4 (by omega);have hfr4:w4.frozen? ⟨L,1,none⟩=false:=(hb4.frozen (p:=⟨L,1,none⟩) (show L<L+1 by omega)).trans HFR.out;have hg4:=HG.out.belowN hb4 (by omega) (fun i hi=>by have:=HBL0.out i hi; omega);have hbl4:=HBL.out.trans (hb4.mono (by omega))
   have hvp':∀ k,v'.ownBlock=some k→L<k:=fun k hk=>by
    rcases hob with e | e
    ·rw [e] at hk; exact HVP.out k hk
    ·rw [e] at hk; simp only [Option.some.injEq] at hk; rw [← hk]; first | omega | (simp; omega)
   obtain ⟨va',vcap',rfl⟩:=ym hown';have hql:=HO.out.1;have HQ':=hid (HQ.out.app (by omega) (y:=(r:Int)) rfl);obtain ⟨x1,x2,x3⟩:=id hbx4;have HBX4:=hid (mY hbx4 (.slice va' (r+1) vcap'));have HG4:=hid (hg4.setOther (B:=L) (o:=1) (by omega) (fun i hi=>by have:=HBL0.out i hi; omega) (.slice va' (r+1) vcap'));have HBL4:=hid (hbl4.setCell (p:=⟨L,1,none⟩) hLs (.slice va' (r+1) vcap'));have HFR4:=hid (show (w4.setCell ⟨L,1,none⟩ (.slice va' (r+1) vcap')).frozen? ⟨L,1,none⟩=false by simp [go_sem,hfr4]);have HO4:=hid (tq (w':=w4.setCell ⟨L,1,none⟩ (.slice va' (r+1) vcap')) hown' (fun k hk=>Below.heap_setCell _ _ _ _ (by have:=hvp' k hk; show k≠L; omega)));have HVP4:=hid hvp';clear hown' hgrow hob hvL hb4 hbx4 hg4 hbl4 hvp' HO HQ HVP HG HBL HBX HFR;go_wp2_with fail
   go_roundw
   case rel=>exact ⟨r+1,_,_,by omega,by go_num,HBX4.out,HFR4.out,HO4.out,HQ'.out,HVP4.out,HG4.out,HBL4.out⟩
   case measure=>simp [intOf]; omega
  ·obtain rfl:n=r:=by omega
   obtain ⟨R,c2,hv,hO⟩:=hq.own ho (by omega);simp only [Value.slice.injEq] at hv;obtain ⟨rfl,-,rfl⟩:=hv;have hLR:L<R:=hvp R rfl;have hps:PS W wr B G R L n c vcap blk cap f (fun i=>i):=⟨hg,hO,hbx,hbl,by omega,fun i hi=>by have:=HBL0.out i hi; omega,by omega,by omega,fun i hi=>by have:=HBL0.out i hi; omega,by rw [HW.out]; exact Nat.le_refl _⟩
   have HPS:=hid hps;clear hg hO hbx hbl ho hq hvp hfr hps hlt hr hGL;go_wp2_with fail
   go_loopw [7] (fun i wr=>∃ (k:Nat) (blk cap:Nat→Nat) (g:Nat→Nat→Nat) (q:Nat→Nat),k≤n∧i=.int .i64 k∧yU f n k=some (g,q)∧PS W wr B G R L n c vcap blk cap g q) (fun i _=>n-(intOf i).toNat)
   case atStart=>exact ⟨0,_,_,_,_,by omega,rfl,rfl,HPS.out⟩
   case round=>
    clear HPS HBL0;obtain ⟨k,blk,cap,g,q,hk,rfl,hpf,hps⟩:=hrel;by_cases hlt:k<n
    ·have P1:=hid (show yU f n (k+1)=if dvB (g (xH g k (n-1-k)) k) then some (clF (swp g (xH g k (n-1-k)) k) k n n,swp q (xH g k (n-1-k)) k) else none by rw [yU,hpf]);have HP0:=hid hps;clear hpf hps;go_wp2_with fail
     go_loopw [8,9] (fun p i wr=>∃ (j:Nat),k<j∧j≤n∧i=.int .i64 j∧p=.int .i64 (xH g k (j-1-k):Nat)∧PS W wr B G R L n c vcap blk cap g q) (fun _ i _=>n-(intOf i).toNat)
     case atStart=>exact ⟨k+1,by omega,by omega,by go_num,by rw [show k+1-1-k=0 by omega]; rfl,HP0.out⟩
     case round=>
      clear HP0;obtain ⟨j,hkj,hjn,rfl,rfl,hps⟩:=hrel;have hp:=tn g k (j-1-k);by_cases hlj:j<n
      ·have _hn:=hlj;have e1:j+1-1-k=j-1-k+1:=by omega
       have e2:k+1+(j-1-k)=j:=by omega
       have P2:=hid (show xH g k (j+1-1-k)=if ltB (ab (g (xH g k (j-1-k)) k)) (ab (g j k)) then j else xH g k (j-1-k) by rw [e1,xH,e2]);clear e1 e2;have hpn:xH g k (j-1-k)<n:=by omega
       generalize xH g k (j-1-k)=p at *;obtain ⟨x,x1,x2,x3⟩:=hps.grid.cell hlj hlt;obtain ⟨y,y1,y2,y3⟩:=hps.grid.cell hpn hlt;have r1:=hps.grid.ref j hlj;have r2:=hps.grid.ref p hpn;obtain ⟨b1,b2,b3⟩:=hps.box;have E:=hid (mz y2 x2);have HP:=hid hps;clear hps x2 y2;go_wp2_with fail
       go_quiet ((go_at_call 32; exact Calls.quiet_of_same (rabsQ _ _ (by assumption))))
       have hE:=E.out
       cases hb:ltB (ab y) (ab x) with
       | false=>
        rw [hb] at hE;have Q1:=hid (show xH g k (j+1-1-k)=_ by rw [P2.out,← hE]);clear P2 hE;go_wp2_with fail
        go_roundw
        case rel=>exact ⟨j+1,by omega,by omega,by go_num,by rw [Q1.out]; rfl,HP.out.drewN _⟩
        case measure=>simp [intOf]; omega
       | true=>
        rw [hb] at hE;have Q1:=hid (show xH g k (j+1-1-k)=_ by rw [P2.out,← hE]);clear P2 hE;go_wp2_with fail
        go_roundw
        case rel=>exact ⟨j+1,by omega,by omega,by go_num,by rw [Q1.out]; rfl,HP.out.drewN _⟩
        case measure=>simp [intOf]; omega
      ·obtain rfl:n=j:=by omega
       have hpn:xH g k (n-1-k)<n:=by omega
       generalize xH g k (n-1-k)=p at *;obtain ⟨x,x1,x2,x3⟩:=hps.grid.cell hpn hlt;have r1:=hps.grid.ref p hpn;obtain ⟨b1,b2,b3⟩:=hps.box
       have e1:eqB x 0=eqB (g p k) 0:=by
        rw [← x2];exact (wJ x 0).symm
       have e2:xi x=xi (g p k):=by rw [← x2,wQ]
       have hdv:dvB (g p k)=(!eqB x 0&&xi x):=by unfold dvB; rw [e1,e2]
       have HDV:=hid hdv;have HP:=hid hps;clear hps hdv e1 e2 x2
       cases hz:eqB x 0 with
       | true=>
        have hz':(!eqB x 0)=false:=by rw [hz]; rfl
        obtain ⟨l1,l2,l3,l4⟩:=LB0.out _ HP.out.below;go_wp2_with fail;have hno:yU f n (k+1)=none:=by rw [P1.out,HDV.out,hz]; rfl
        have hend:yU f n n=none:=wP hno (by omega);have hb':Below B w wr:=hb1.trans (HP.out.below.mono (by omega));exact bodyPost_ret (v:=.tuple #[.agg #[.slice none 0 0,.slice none 0 0],.bool false]) (by simp [results,Tryz.results95,go_sem,l1,l2]) rfl (by unfold s9; rw [hend,hB]; exact ⟨(hb'.setCell (Nat.le_refl _) _).setCell (Nat.le_refl _) _,rfl⟩)
       | false=>
        have hz':(!eqB x 0)=true:=by rw [hz]; rfl
        go_wp2_with fail;refine (vk x _).mono ?_;rintro e w5 ⟨rfl,hb5⟩;have HP5:=hid (HP.out.go hb5);clear hb5 HP r1 x1 b1 b2 b3
        cases hf:xi x with
        | false=>
         obtain ⟨l1,l2,l3,l4⟩:=LB0.out _ HP5.out.below;go_wp2_with fail;have hno:yU f n (k+1)=none:=by rw [P1.out,HDV.out,hz,hf]; rfl
         have hend:yU f n n=none:=wP hno (by omega);have hb':Below B w w5:=hb1.trans (HP5.out.below.mono (by omega));exact bodyPost_ret (v:=.tuple #[.agg #[.slice none 0 0,.slice none 0 0],.bool false]) (by simp [results,Tryz.results95,go_sem,l1,l2]) rfl (by unfold s9; rw [hend,hB]; exact ⟨(hb'.setCell (Nat.le_refl _) _).setCell (Nat.le_refl _) _,rfl⟩)
        | true=>
         have hyes:yU f n (k+1)=some (clF (swp g k p) k n n,swp q k p):=by rw [P1.out,HDV.out,hz,hf,pB g p k,pB q p k]; rfl
         have HY:=hid hyes;clear hyes hz hz' hf x3 P1 HDV;go_wp2_with fail;refine zv [(0,1),(1,2),(2,1),(3,1),(4,3),(5,1),(6,1),(7,2),(8,1),(9,1),(10,2),(11,1),(12,3),(13,1),(14,1),(15,2),(16,1),(17,0),(18,1),(19,0)] (fun w=>vU L (.slice (some ⟨G,0,none⟩) n c) (.slice (some ⟨R,0,none⟩) n vcap) w) (by kernel_rfl) (by kernel_rfl) (fun _ _ d _ _ h=>by cases d<;>exact h) (HP5.out.drew.box) ?_;intro X2 hX2 hbx2;have hps:PS W X2 B G R L n c vcap blk cap g q:=by rw [hX2]; exact HP5.out.drew
         clear hX2 HP5;have r1:=hps.grid.ref p hpn;have r2:=hps.grid.ref k hlt;have r3:=hps.grid.free p hpn;have r4:=hps.grid.free k hlt;obtain ⟨b1,b2,b3⟩:=id hbx2;have HB6:=hid hbx2;have HP6:=hid hps;have HLG:=hid hps.lg.symm;clear hps hbx2
         iterate 4
          first
           | refine zd (fun K hK=>?_)
           | refine ze (fun K hK=>?_)
          go_simp;refine hK _ ?_;clear hK K
         refine zh (v:=.slice (some ⟨G,0,none⟩) n c) rfl rfl (fun wk hwk=>?_) ?_
         ·obtain ⟨k1,k2,k3⟩:=hwk;go_simp
         iterate 7
          first
           | refine zd (fun K hK=>?_)
           | refine ze (fun K hK=>?_)
          go_simp;refine hK _ ?_;clear hK K
         refine zh (v:=.slice (some ⟨G,0,none⟩) n c) rfl rfl (fun wk hwk=>?_) ?_
         ·obtain ⟨k1,k2,k3⟩:=hwk;go_simp
         iterate 4
          first
           | refine zd (fun K hK=>?_)
           | refine ze (fun K hK=>?_)
          go_simp;refine hK _ ?_;clear hK K
         refine zm (fun K hK=>?_);go_simp;refine hK _ _ (fun h=>Bool.noConfusion (Eq.trans (Eq.symm (by kernel_rfl:_=false)) h)) (fun _=>xr HB6.out HLG.out) ?_;clear hK K
         iterate 1
          first
           | refine zd (fun K hK=>?_)
           | refine ze (fun K hK=>?_)
          go_simp;refine hK _ ?_;clear hK K
         obtain ⟨z,hz⟩:=uB (.slice (some ⟨blk p,0,none⟩) n (cap p)) r2 r1;refine zm (fun K hK=>?_);go_simp;refine hK _ _ (fun h=>Bool.noConfusion (Eq.trans (Eq.symm (by kernel_rfl:_=false)) h)) (fun _=>xr (xr HB6.out HLG.out) HLG.out) ?_;clear hK K;refine zo ?_;have hps7:=HP6.out.swapG hpn hlt;clear HP6 HB6 HLG r1 r2 r3 r4 b1 b2 b3 hz z;generalize (X2.setCell ⟨G,k,none⟩ (.slice (some ⟨blk p,0,none⟩) n (cap p))).setCell ⟨G,p,none⟩ (.slice (some ⟨blk k,0,none⟩) n (cap k))=Y at *;have HP7:=hid hps7;clear hps7;go_wp2_with fail;refine zv [(0,1),(1,2),(2,1),(3,1),(4,3),(5,1),(6,1),(7,2),(8,1),(9,1),(10,2),(11,1),(12,3),(13,1),(14,1),(15,2),(16,1),(17,0),(18,1),(19,0)] (fun w=>vU L (.slice (some ⟨G,0,none⟩) n c) (.slice (some ⟨R,0,none⟩) n vcap) w) (by kernel_rfl) (by kernel_rfl) (fun _ _ d _ _ h=>by cases d<;>exact h) (HP7.out.drew.box) ?_;intro X3 hX3 hbx3;have hps:PS W X3 B G R L n c vcap (swp blk k p) (swp cap k p) (swp g k p) q:=by rw [hX3]; exact HP7.out.drew
         clear hX3 HP7;have r1:=hps.perm.cell hpn;have r2:=hps.perm.cell hlt;have r3:=hps.perm.free p;have r4:=hps.perm.free k;obtain ⟨b1,b2,b3⟩:=id hbx3;have HB6:=hid hbx3;have HP6:=hid hps;have HLR:=hid hps.lr.symm;clear hps hbx3
         iterate 4
          first
           | refine zd (fun K hK=>?_)
           | refine ze (fun K hK=>?_)
          go_simp;refine hK _ ?_;clear hK K
         refine zh (v:=.slice (some ⟨R,0,none⟩) n vcap) rfl rfl (fun wk hwk=>?_) ?_
         ·obtain ⟨k1,k2,k3⟩:=hwk;go_simp
         iterate 7
          first
           | refine zd (fun K hK=>?_)
           | refine ze (fun K hK=>?_)
          go_simp;refine hK _ ?_;clear hK K
         refine zh (v:=.slice (some ⟨R,0,none⟩) n vcap) rfl rfl (fun wk hwk=>?_) ?_
         ·obtain ⟨k1,k2,k3⟩:=hwk;go_simp
         iterate 4
          first
           | refine zd (fun K hK=>?_)
           | refine ze (fun K hK=>?_)
          go_simp;refine hK _ ?_;clear hK K
         refine zm (fun K hK=>?_);go_simp;refine hK _ _ (fun h=>Bool.noConfusion (Eq.trans (Eq.symm (by kernel_rfl:_=false)) h)) (fun _=>xr HB6.out HLR.out) ?_;clear hK K
         iterate 1
          first
           | refine zd (fun K hK=>?_)
           | refine ze (fun K hK=>?_)
          go_simp;refine hK _ ?_;clear hK K
         obtain ⟨z,hz⟩:=uB (.int .i64 (q p:Int)) r2 r1;refine zm (fun K hK=>?_);go_simp;refine hK _ _ (fun h=>Bool.noConfusion (Eq.trans (Eq.symm (by kernel_rfl:_=false)) h)) (fun _=>xr (xr HB6.out HLR.out) HLR.out) ?_;clear hK K;refine zo ?_;have hps8:=HP6.out.swapR hpn hlt;clear HP6 HB6 HLR r1 r2 r3 r4 b1 b2 b3 hz z;generalize (X3.setCell ⟨R,k,none⟩ (.int .i64 (q p:Int))).setCell ⟨R,p,none⟩ (.int .i64 (q k:Int))=V at *;generalize swp g k p=g2 at *;generalize swp q k p=q2 at *;generalize swp blk k p=blk2 at *;generalize swp cap k p=cap2 at *;have HP8:=hid hps8;clear hps8;go_wp2_with fail
         go_loopw [10] (fun i wr=>∃ (j:Nat),k<j∧j≤n∧i=.int .i64 j∧PS W wr B G R L n c vcap blk2 cap2 (clF g2 k n j) q2) (fun i _=>n-(intOf i).toNat)
         case atStart=>exact ⟨k+1,by omega,by omega,by go_num,by rw [rV]; exact HP8.out⟩
         case round=>
          clear HP8;obtain ⟨i,hki,hin,rfl,hps⟩:=hrel;by_cases hil:i<n
          ·have HP:=hid hps;clear hps;go_wp2_with fail;refine zw [(0,1),(1,2),(2,1),(3,1),(4,2),(5,1),(6,1),(7,2),(8,1),(9,1),(10,2),(11,1),(12,1),(13,2),(14,1),(15,2),(16,1),(17,1),(18,2),(19,1),(20,1),(21,2),(22,0),(23,1),(24,0)] (by kernel_rfl) (by kernel_rfl) (fun _ _ d _ _ h=>by cases d<;>exact h) ?_;intro X4 hX4;have hps:PS W X4 B G R L n c vcap blk2 cap2 (clF g2 k n i) q2:=by rw [hX4]; exact HP.out.drew
           clear hX4 HP;have r1:=hps.grid.ref i hil;have r2:=hps.grid.ref k hlt;have r3:=(hps.grid.row i hil).free;obtain ⟨x,x1,x2,x3⟩:=hps.grid.cell hil hlt;obtain ⟨y,y1,y2,y3⟩:=hps.grid.cell hlt hlt;rw [tz] at x2;rw [sv] at y2;have HX:=hid (show zk x=g2 i k∧zk y=g2 k k from ⟨x2,y2⟩);obtain ⟨b1,b2,b3⟩:=hps.box;have HP:=hid hps;clear hps x2 y2
           iterate 22
            first
             | refine zd (fun K hK=>?_)
             | refine ze (fun K hK=>?_)
            go_simp;refine hK _ ?_;clear hK K
           refine zx (fun K hK=>?_);go_simp;refine hK _ _ (fun _=>⟨_,rfl⟩) ?_;clear hK K
           iterate 1
            first
             | refine zd (fun K hK=>?_)
             | refine ze (fun K hK=>?_)
            go_simp;refine hK _ ?_;clear hK K
           refine zx (fun K hK=>?_);go_simp;refine hK _ _ (fun h=>Bool.noConfusion (Eq.trans (Eq.symm (by kernel_rfl:_=false)) h)) ?_;clear hK K;refine zo ?_;have e3:xR (clF g2 k n i) i k (cop .quo (g2 i k) (g2 k k))=yy (clF g2 k n i) i (clR g2 k i (k+1)):=by unfold xR; rw [tz,pf]
           have hv:zk (zZ .quo X4 x y)=cop .quo (g2 i k) (g2 k k):=wE .quo _ HX.out.1 HX.out.2;have hps9:=(HP.out.set hil hlt hv (yi _ _ _ _)).drewN (zP .quo x y);rw [e3] at hps9;clear HP HX hv e3 r1 r2 r3 x1 y1 b1 b2 b3;generalize (X4.setCell ⟨blk2 i,k,none⟩ (.float .f64 (zZ .quo X4 x y))).drewN (zP .quo x y)=Z4 at *;have HP9:=hid hps9;clear hps9;go_wp2_with fail
           go_loopw [11] (fun jj wr=>∃ (m:Nat),k<m∧m≤n∧jj=.int .i64 m∧PS W wr B G R L n c vcap blk2 cap2 (yy (clF g2 k n i) i (clR g2 k i m)) q2) (fun jj _=>n-(intOf jj).toNat)
           case atStart=>exact ⟨k+1,by omega,by omega,by go_num,HP9.out⟩
           case round=>
            clear HP9 x3 y3;obtain ⟨m,hkm,hmn,rfl,hps⟩:=hrel;by_cases hml:m<n
            ·have HP:=hid hps;clear hps;go_wp2_with fail;refine zw [(0,1),(1,2),(2,1),(3,1),(4,2),(5,1),(6,1),(7,2),(8,1),(9,2),(10,1),(11,1),(12,2),(13,1),(14,1),(15,2),(16,0),(17,1)] (by kernel_rfl) (by kernel_rfl) (fun _ _ d _ _ h=>by cases d<;>exact h) ?_;intro X5 hX5;have hps:PS W X5 B G R L n c vcap blk2 cap2 (yy (clF g2 k n i) i (clR g2 k i m)) q2:=by rw [hX5]; exact HP.out.drew
             clear hX5 HP;have r1:=hps.grid.ref i hil;have r2:=hps.grid.ref k hlt;obtain ⟨l,l1,l2,l3⟩:=hps.grid.cell hil hlt;obtain ⟨y,y1,y2,y3⟩:=hps.grid.cell hlt hml;rw [zL] at l2;rw [zG _ _ (by omega),sv] at y2;have e2:clR g2 k i m k=cop .quo (g2 i k) (g2 k k):=by unfold clR; rw [if_pos rfl]
             rw [e2] at l2;have HX:=hid (show zk l=cop .quo (g2 i k) (g2 k k)∧zk y=g2 k m from ⟨l2,y2⟩);obtain ⟨b1,b2,b3⟩:=hps.box;have HP:=hid hps;clear hps l2 y2 e2
             iterate 16
              first
               | refine zd (fun K hK=>?_)
               | refine ze (fun K hK=>?_)
              go_simp;refine hK _ ?_;clear hK K
             refine zx (fun K hK=>?_);go_simp;refine hK _ _ (fun _=>⟨_,rfl⟩) ?_;clear hK K
             iterate 1
              first
               | refine zd (fun K hK=>?_)
               | refine ze (fun K hK=>?_)
              go_simp;refine hK _ ?_;clear hK K
             refine zo ?_;have hv:zk (zZ .mul X5 l y)=cop .mul (cop .quo (g2 i k) (g2 k k)) (g2 k m):=wE .mul _ HX.out.1 HX.out.2;have hps5:=HP.out.drewN (zP .mul l y);generalize zZ .mul X5 l y=t at *;generalize X5.drewN (zP .mul l y)=Z5 at *;clear HP HX r1 r2 l1 y1 b1 b2 b3 l3 y3;have HV:=hid hv;have HP:=hid hps5;clear hps5 hv;go_wp2_with fail;refine zw [(0,1),(1,2),(2,1),(3,1),(4,2),(5,1),(6,1),(7,2),(8,1),(9,1),(10,2),(11,1),(12,1),(13,2),(14,1),(15,0),(16,1),(17,0)] (by kernel_rfl) (by kernel_rfl) (fun _ _ d _ _ h=>by cases d<;>exact h) ?_;intro X6 hX6;have hps:PS W X6 B G R L n c vcap blk2 cap2 (yy (clF g2 k n i) i (clR g2 k i m)) q2:=by rw [hX6]; exact HP.out.drew
             clear hX6 HP;have r1:=hps.grid.ref i hil;have r3:=(hps.grid.row i hil).free;obtain ⟨x,x1,x2,x3⟩:=hps.grid.cell hil hml;rw [zL] at x2;have e1:clR g2 k i m m=g2 i m:=by unfold clR; rw [if_neg (by omega),if_neg (by omega)]
             rw [e1] at x2;have HX:=hid x2;obtain ⟨b1,b2,b3⟩:=hps.box;have HP:=hid hps;clear hps x2 e1
             iterate 15
              first
               | refine zd (fun K hK=>?_)
               | refine ze (fun K hK=>?_)
              go_simp;refine hK _ ?_;clear hK K
             refine zx (fun K hK=>?_);go_simp;refine hK _ _ (fun _=>⟨_,rfl⟩) ?_;clear hK K
             iterate 1
              first
               | refine zd (fun K hK=>?_)
               | refine ze (fun K hK=>?_)
              go_simp;refine hK _ ?_;clear hK K
             refine zx (fun K hK=>?_);go_simp;refine hK _ _ (fun h=>Bool.noConfusion (Eq.trans (Eq.symm (by kernel_rfl:_=false)) h)) ?_;clear hK K;refine zo ?_;have hw:zk (zZ .sub X6 x t)=cop .sub (g2 i m) (cop .mul (cop .quo (g2 i k) (g2 k k)) (g2 k m)):=wE .sub _ HX.out HV.out;have hps6:=(HP.out.set hil hml hw (yi _ _ _ _)).drewN (zP .sub x t);unfold xR at hps6;rw [zL,rU,← ph g2 hkm] at hps6;have HP6:=hid hps6;clear hps6 HP HX HV r1 r3 x1 b1 b2 b3 hw;go_wp2_with fail
             go_roundw
             case rel=>exact ⟨m+1,by omega,by omega,by go_num,HP6.out⟩
             case measure=>simp [intOf]; omega
            ·obtain rfl:n=m:=by omega
             rw [pi g2 hki] at hps;have HP:=hid hps;clear hps;go_wp2_with fail
             go_roundw
             case rel=>exact ⟨i+1,by omega,by omega,by go_num,HP.out⟩
             case measure=>simp [intOf]; omega
          ·obtain rfl:n=i:=by omega
           have HP:=hid hps;clear hps;go_wp2_with fail
           go_roundw
           case rel=>exact ⟨k+1,_,_,_,_,by omega,by go_num,HY.out,HP.out⟩
           case measure=>simp [intOf]; omega
    ·obtain rfl:n=k:=by omega
     have hb':Below B w wr:=hb1.trans (hps.below.mono (by omega));obtain ⟨l1,l2,l3,l4⟩:=LB0.out _ hps.below;obtain ⟨b1,b2,b3⟩:=hps.box;have HP:=hid hps;have HPF:=hid hpf;have HBW:=hid hb';clear hps hpf hb';go_wp2_with fail;have n1:∀ v o,yD ((wr.setCell ⟨B,0,none⟩ v).setCell ⟨B,1,none⟩ o) (B+1) G n n blk cap g:=fun v o=>(HP.out.grid.setOther (by have:=HP.out.grid.lo; omega) (fun i hi=>by have:=(HP.out.grid.row i hi).lt.1; omega) v).setOther (by have:=HP.out.grid.lo; omega) (fun i hi=>by have:=(HP.out.grid.row i hi).lt.1; omega) o
     have n2:∀ v o,yh ((wr.setCell ⟨B,0,none⟩ v).setCell ⟨B,1,none⟩ o) (B+1) R n vcap (fun i=>(q i:Int)):=fun v o=>(HP.out.perm.other (by have:=HP.out.perm.lt.1; omega) v).other (by have:=HP.out.perm.lt.1; omega) o
     exact bodyPost_ret (v:=.tuple #[.agg #[.slice (some ⟨G,0,none⟩) n c,.slice (some ⟨R,0,none⟩) n vcap],.bool true]) (by simp [results,Tryz.results95,go_sem,l1,l2]) rfl (by
      unfold s9;rw [HPF.out,hB];exact ⟨(HBW.out.setCell (Nat.le_refl _) _).setCell (Nat.le_refl _) _,G,R,c,vcap,blk,cap,rfl,(n1 _ _).base (by omega),(n2 _ _).base (by omega),HP.out.rg,HP.out.br⟩)
end Go.Proofs.YtnlbafjmbamoeaaGreat
namespace Go.Proofs.YtnlbafjmbamoeaaGreat
open Go.RowKit Lib
open Ieee (double)
attribute [local go_sem] zr zi zy zn zU zS zW zX zV zY zD zH zI zJ zK zB ye z8 zF yE Int.add_sub_cancel
set_option maxHeartbeats 16000000
set_option maxRecDepth 100000
theorem qw (n:Nat) (vA vP vb:Value) (f:Nat→Nat→Nat) (q b:Nat→Nat) (w:World) (hA:yB w vA n (fun _=>n) f) (hP:tX w vP n (fun i=>(q i:Int))) (hb:zT w vb n b) (hq:∀ i,i<n→q i<n) (h1:1≤n) (h8:n≤8) :
  Calls Tryz.prog 55 #[.agg #[vA,vP],vb] w fun e w'=>∃ R,e=.returned (.slice (some ⟨R,0,none⟩) n n)∧yd w' w.heap.size R n n (uh f n (fun i=>b (q i)))∧Below w.heap.size w w':=by
 have hb1:Below w.heap.size w (w.alloc (.cells #[vA,vP] 94)):=(Below.refl _ _).alloc (Nat.le_refl _) _;have hbx:=vU.new vA vP w 94;obtain ⟨a,capA,rfl,hn,hAr⟩:=hA;obtain ⟨p,capP,rfl,-,hPr⟩:=hP;obtain ⟨c,capb,rfl,-,hbr⟩:=hb;obtain ⟨ab_,ao,rfl,has,hAc⟩:=hAr (by omega);obtain ⟨pb,po,rfl,hps,hPc⟩:=hPr (by omega);obtain ⟨bb,bo,rfl,hbs,hbc⟩:=hbr (by omega);obtain ⟨iF,hF,f1,f2,f3⟩:=info_parts xu;have HF:=hid (show iF.zero=_∧iF.size=_∧iF.bytes=_ from ⟨f1,f2,f3⟩);have HF0:=hid hF;have HAC:=hid hAc;have HPC:=hid hPc;have HBC:=hid hbc;have HQ:=hid hq;clear hF f1 f2 f3 hAr hPr hbr hAc hPc hbc hq;go_enter Tryz.func55,Tryz.ntmps55;obtain ⟨x1,x2,x3⟩:=id hbx;generalize hB:w.heap.size=B at *;have hW:(w.alloc (.cells #[.slice (some ⟨ab_,ao,none⟩) n capA,.slice (some ⟨pb,po,none⟩) n capP] 94)).heap.size=B+1:=by simp [hB]
 have old:∀ X,Below (B+1) (w.alloc (.cells #[.slice (some ⟨ab_,ao,none⟩) n capA,.slice (some ⟨pb,po,none⟩) n capP] 94)) X→∀ b o,b<B→X.cell? ⟨b,o,none⟩=w.cell? ⟨b,o,none⟩:=fun X hX b o hb=>(hX.cell (p:=⟨b,o,none⟩) (show b<B+1 by omega)).trans (hb1.cell (p:=⟨b,o,none⟩) hb)
 have OLD:=hid old;have HW:=hid hW;have BX:=hid (show ∀ X,Below (B+1) (w.alloc (.cells #[.slice (some ⟨ab_,ao,none⟩) n capA,.slice (some ⟨pb,po,none⟩) n capP] 94)) X→vU B (.slice (some ⟨ab_,ao,none⟩) n capA) (.slice (some ⟨pb,po,none⟩) n capP) X from fun X hX=>hbx.below hX (by omega));clear old hW x1 x2 x3 hbx
 go_wp2_with (first
  | (refine wpList_make_full _ rfl _ _ _ rfl (B+1) 31 iF (.float .f64 0) 1 Tryz.underlying30 HF0.out HF.out.1 HF.out.2.1 .i64 .i64 (n:Int) (n:Int) n rfl rfl rfl rfl (by rw [HF.out.2.2]; omega) (by unfold maxLen; omega) (by rw [HW.out]; exact Nat.le_refl _) ?_))
 generalize w.alloc (.cells #[.slice (some ⟨ab_,ao,none⟩) n capA,.slice (some ⟨pb,po,none⟩) n capP] 94)=W at *;intro w2 hr1 hg1;have hb2:Below (B+1) W w2:=(Below.refl _ W).grown hg1 (by rw [HW.out]; exact Nat.le_refl _) (fun k hk=>by cases hk);have ho:=yI hr1;clear hr1 hg1;go_wp2_with fail
 go_loopw [7] (fun i wr=>∃ (i':Nat) (g:Nat→Nat),i'≤n∧i=.int .i64 i'∧yd wr (B+1) (B+1) n n g∧(∀ j,j<i'→g j=b (q j))∧Below (B+1) W wr) (fun i _=>n-(intOf i).toNat)
 case atStart=>exact ⟨0,_,by omega,rfl,ho,fun j hj=>by omega,hb2⟩
 case round=>
  clear ho hb2;obtain ⟨i,g,hi,rfl,ho,hg,hbl⟩:=hrel;by_cases hlt:i<n
  ·have o1:=OLD.out _ hbl;have p1:=HPC.out i hlt;obtain ⟨y,y1,y2,y3⟩:=HBC.out (q i) (HQ.out i hlt);have hqi:=HQ.out i hlt;have d1:decide ((q i:Int)<0)=false:=by simp
   have d2:decide (n≤q i)=false:=by simpa using hqi
   have d3:decide ((n:Int)≤(q i:Int))=false:=by simpa using hqi
   rw [← o1 _ _ hps] at p1;rw [← o1 _ _ hbs] at y1;obtain ⟨x1,x2,x3⟩:=BX.out _ hbl;have r1:=ho.free i;obtain ⟨z,z1,-,-⟩:=ho.cell hlt;have hRl:=ho.lt;have ho2:=ho.set hlt y2 y3;have HO:=hid ho2;have HG:=hid hg;have hbl2:=hid (hbl.setCell (p:=⟨B+1,i,none⟩) hRl.1 (.float .f64 y));clear ho ho2 hg o1 y2 hbl;go_wp2_with fail;generalize wr.setCell ⟨B+1,i,none⟩ (.float .f64 y)=X at *;clear r1 z1 p1 y1 y3
   go_roundw
   case rel=>exact ⟨i+1,_,by omega,by go_num,HO.out,fun j hj=>by
    by_cases e:j=i
    ·subst e; rw [zL]
    ·rw [zG _ _ e]; exact HG.out j (by omega),hbl2.out⟩
   case measure=>simp [intOf]; omega
  ·obtain rfl:n=i:=by omega
   have HO:=hid ho;have HG:=hid hg;have HBL:=hid hbl;clear ho hg hbl;go_wp2_with fail;generalize hbq:(fun i=>b (q i))=bq at *;have HBQ:=hid (show ∀ i,b (q i)=bq i from fun i=>congrFun hbq i);clear hbq HPC HBC HQ
   go_loopw [8] (fun i wr=>∃ (i':Nat) (g:Nat→Nat),i'≤n∧i=.int .i64 i'∧yd wr (B+1) (B+1) n n g∧(∀ j,j<n→g j=if j<i' then fwF f bq j else bq j)∧Below (B+1) W wr) (fun i _=>n-(intOf i).toNat)
   case atStart=>exact ⟨0,_,by omega,rfl,HO.out,fun j hj=>by rw [if_neg (by omega),HG.out j hj,HBQ.out],HBL.out⟩
   case round=>
    clear HO HG HBL;obtain ⟨i,g,hi,rfl,ho,hg,hbl⟩:=hrel;by_cases hil:i<n
    ·have HO:=hid ho;have HG:=hid hg;have HBL:=hid hbl;clear ho hg hbl;go_wp2_with fail
     go_loopw [9] (fun j wr=>∃ (m:Nat) (g:Nat→Nat),m≤i∧j=.int .i64 m∧yd wr (B+1) (B+1) n n g∧(∀ j,j<n→g j=if j<i then fwF f bq j else if j=i then xJ (f i) (fwF f bq) (bq i) m else bq j)∧Below (B+1) W wr) (fun j _=>i-(intOf j).toNat)
     case atStart=>exact ⟨0,_,by omega,rfl,HO.out,fun j hj=>by
      rw [HG.out j hj];by_cases e:j<i
      ·rw [if_pos e,if_pos e]
      ·rw [if_neg e,if_neg e];by_cases e2:j=i
       ·subst e2; rw [if_pos rfl]; rfl
       ·rw [if_neg e2],HBL.out⟩
     case round=>
      clear HO HG HBL;obtain ⟨m,g,hm,rfl,ho,hg,hbl⟩:=hrel;by_cases hml:m<i
      ·have hmn:m<n:=by omega
       have HGm:=hid (show g m=fwF f bq m∧g i=xJ (f i) (fwF f bq) (bq i) m from ⟨by rw [hg m hmn,if_pos hml],by rw [hg i hil,if_neg (by omega),if_pos rfl]⟩);have HG:=hid hg;clear hg;go_wp2_with fail;refine zw [(0,1),(1,2),(2,1),(3,1),(4,2),(5,1),(6,1),(7,2),(8,1),(9,1),(10,1),(11,2),(12,0),(13,1)] (by kernel_rfl) (by kernel_rfl) (fun _ _ d _ _ h=>by cases d<;>exact h) ?_;intro Y hY;have ho3:yd Y (B+1) (B+1) n n g:=by rw [hY]; exact ho.drew
       have hbl3:Below (B+1) W Y:=by rw [hY]; exact hbl.drew
       clear hY ho hbl;obtain ⟨a1,a2,a3⟩:=BX.out _ hbl3;obtain ⟨u,u1,ua,ucap,rfl,-,ur⟩:=HAC.out i hil;obtain ⟨ub,uo,rfl,hus,uc⟩:=ur (by omega);obtain ⟨l,l1,l2,l3⟩:=uc m (by omega);have o1:=OLD.out _ hbl3;rw [← o1 _ _ has] at u1;rw [← o1 _ _ (by rw [← hB]; exact hus)] at l1;obtain ⟨y,y1,y2,y3⟩:=ho3.cell hmn;have HX:=hid (show zk l=f i m∧zk y=g m from ⟨l2,y2⟩);have HO:=hid ho3;have HBL:=hid hbl3;clear ho3 hbl3 l2 y2 ur uc o1
       iterate 12
        first
         | refine zd (fun K hK=>?_)
         | refine ze (fun K hK=>?_)
        go_simp;refine hK _ ?_;clear hK K
       refine zx (fun K hK=>?_);go_simp;refine hK _ _ (fun _=>⟨_,rfl⟩) ?_;clear hK K
       iterate 1
        first
         | refine zd (fun K hK=>?_)
         | refine ze (fun K hK=>?_)
        go_simp;refine hK _ ?_;clear hK K
       refine zo ?_;have hv:zk (zZ .mul Y l y)=cop .mul (f i m) (fwF f bq m):=wE .mul _ HX.out.1 (HX.out.2.trans HGm.out.1);have ho4:=HO.out.drewN (zP .mul l y);have hbl4:=yc HBL.out (zP .mul l y);generalize zZ .mul Y l y=t at *;generalize Y.drewN (zP .mul l y)=Z at *;obtain ⟨x,s1,s2,s3⟩:=ho4.cell hil;have r1:=ho4.free i;have hRl:=ho4.lt.1;have HV:=hid hv;have HX2:=hid s2;have HO4:=hid ho4;have HBL4:=hid hbl4;clear hv ho4 hbl4 HO HBL HX a1 a2 u1 l1 y1 s2 l3 y3;go_wp2_with fail
       have hw:∀ w',zk (zZ .sub w' x t)=xJ (f i) (fwF f bq) (bq i) (m+1):=fun w'=>by
        rw [wE .sub w' (HX2.out.trans HGm.out.2) HV.out];rfl
       have HW2:=hid hw;clear hw
       go_roundw
       case rel=>exact ⟨m+1,_,by omega,by go_num,(HO4.out.set hil (HW2.out _) (yi _ _ _ _)).drewN _,fun j hj=>by
        by_cases e:j=i
        ·subst e; rw [zL,if_neg (by omega),if_pos rfl]
        ·rw [zG _ _ e,HG.out j hj,if_neg e,if_neg e],yc (HBL4.out.setCell (p:=⟨B+1,i,none⟩) hRl _) _⟩
       case measure=>simp [intOf]; omega
      ·obtain rfl:i=m:=by omega
       have HG:=hid hg;clear hg;go_wp2_with fail
       go_roundw
       case rel=>exact ⟨i+1,g,by omega,by go_num,ho,fun j hj=>by
        rw [HG.out j hj];by_cases e:j<i
        ·rw [if_pos e,if_pos (by omega)]
        ·rw [if_neg e];by_cases e2:j=i
         ·subst e2; rw [if_pos rfl,if_pos (by omega),mA]
         ·rw [if_neg e2,if_neg (by omega)],hbl⟩
       case measure=>simp [intOf]; omega
    ·obtain rfl:n=i:=by omega
     have HG:=hid hg;clear hg;go_wp2_with fail;generalize hY:fwF f bq=y at *;have HYE:=hid hY;clear hY
     go_loopw [11] (fun sl wr=>∃ (t:Nat) (g:Nat→Nat),t≤n∧sl=.int .i64 t∧yd wr (B+1) (B+1) n n g∧(∀ j,j<n→g j=if t≤j then bkF f n y j else y j)∧Below (B+1) W wr) (fun sl _=>(intOf sl).toNat)
     case atStart=>exact ⟨n,g,by omega,rfl,ho,fun j hj=>by rw [if_neg (by omega),HG.out j hj,if_pos hj],hbl⟩
     case round=>
      clear ho hbl HG;obtain ⟨t,g,ht,rfl,ho,hg,hbl⟩:=hrel
      cases t with
      | zero=>
       have HG:=hid hg;clear hg;go_wp2_with fail;go_ret;exact ⟨B+1,rfl,(ho.base (by omega)).congr (fun j hj=>by rw [HG.out j hj,if_pos (by omega)]; unfold uh; rw [show (fun i=>b (q i))=bq from funext HBQ.out,HYE.out]),hb1.trans (hbl.mono (by omega))⟩
      | succ r=>
       have hri:r<n:=by omega
       have HG:=hid hg;clear hg;rw [show ((r+1:Nat):Int)=(r:Int)+1 by omega];have hwr:IntKind.i64.wrap (r:Int)=(r:Int):=IntWalk.i64_in _ (by omega);go_wp2_with fail
       go_loopw [12] (fun sl wr=>∃ (m:Nat) (g:Nat→Nat),r+1+m≤n∧sl=.int .i64 (r+1+m:Nat)∧yd wr (B+1) (B+1) n n g∧(∀ j,j<n→g j=if j<r then y j else if j=r then xJ (fun j=>f r (r+1+j)) (fun j=>bkF f n y (r+1+j)) (y r) m else bkF f n y j)∧Below (B+1) W wr) (fun sl _=>n-(intOf sl).toNat)
       case atStart=>exact ⟨0,g,by omega,by go_num,ho,fun j hj=>by
        rw [HG.out j hj];by_cases e:j<r
        ·rw [if_neg (by omega),if_pos e]
        ·rw [if_neg e];by_cases e2:j=r
         ·subst e2; rw [if_neg (by omega),if_pos rfl]; rfl
         ·rw [if_pos (by omega),if_neg e2],hbl⟩
       case round=>
        clear ho hbl HG;obtain ⟨m,g,hm,rfl,ho,hg,hbl⟩:=hrel;by_cases hlt:r+1+m<n
        ·generalize hke:r+1+m=k at *;have hrk:r<k:=by omega
         have HGr:=hid (show g r=xJ (fun j=>f r (r+1+j)) (fun j=>bkF f n y (r+1+j)) (y r) m by rw [hg r hri,if_neg (by omega),if_pos rfl]);have HGk:=hid (show g k=bkF f n y k by rw [hg k hlt,if_neg (by omega),if_neg (by omega)]);have HG:=hid hg;have HKE:=hid hke;clear hg hke;go_wp2_with fail;refine zw [(0,1),(1,2),(2,1),(3,1),(4,1),(5,2),(6,1),(7,1),(8,2),(9,1),(10,1),(11,1),(12,2),(13,0),(14,1)] (by kernel_rfl) (by kernel_rfl) (fun _ _ d _ _ h=>by cases d<;>exact h) ?_;intro Y hY;have ho3:yd Y (B+1) (B+1) n n g:=by rw [hY]; exact ho.drew
         have hbl3:Below (B+1) W Y:=by rw [hY]; exact hbl.drew
         clear hY ho hbl;obtain ⟨a1,a2,a3⟩:=BX.out _ hbl3;obtain ⟨u,u1,ua,ucap,rfl,-,ur⟩:=HAC.out r hri;obtain ⟨ub,uo,rfl,hus,uc⟩:=ur (by omega);obtain ⟨l,l1,l2,l3⟩:=uc k (by omega);have o1:=OLD.out _ hbl3;rw [← o1 _ _ has] at u1;rw [← o1 _ _ (by rw [← hB]; exact hus)] at l1;obtain ⟨e,e1,e2,e3⟩:=ho3.cell hlt;have HX:=hid (show zk l=f r k∧zk e=g k from ⟨l2,e2⟩);have HO:=hid ho3;have HBL:=hid hbl3;clear ho3 hbl3 l2 e2 ur uc o1
         iterate 13
          first
           | refine zd (fun K hK=>?_)
           | refine ze (fun K hK=>?_)
          go_simp;refine hK _ ?_;clear hK K
         refine zx (fun K hK=>?_);go_simp;refine hK _ _ (fun _=>⟨_,rfl⟩) ?_;clear hK K
         iterate 1
          first
           | refine zd (fun K hK=>?_)
           | refine ze (fun K hK=>?_)
          go_simp;refine hK _ ?_;clear hK K
         refine zo ?_;have hv:zk (zZ .mul Y l e)=cop .mul (f r k) (bkF f n y k):=wE .mul _ HX.out.1 (HX.out.2.trans HGk.out);have ho4:=HO.out.drewN (zP .mul l e);have hbl4:=yc HBL.out (zP .mul l e);generalize zZ .mul Y l e=t at *;generalize Y.drewN (zP .mul l e)=Z at *;obtain ⟨x,s1,s2,s3⟩:=ho4.cell hri;have r1:=ho4.free r;have hRl:=ho4.lt.1;have HV:=hid hv;have HX2:=hid s2;have HO4:=hid ho4;have HBL4:=hid hbl4;clear hv ho4 hbl4 HO HBL HX a1 a2 u1 l1 e1 s2 l3 e3;go_wp2_with fail
         have hw:∀ w',zk (zZ .sub w' x t)=xJ (fun j=>f r (r+1+j)) (fun j=>bkF f n y (r+1+j)) (y r) (m+1):=fun w'=>by
          rw [wE .sub w' (HX2.out.trans HGr.out) HV.out,xJ,HKE.out]
         have HW2:=hid hw;clear hw
         go_roundw
         case rel=>exact ⟨m+1,_,by have:=HKE.out; omega,by rw [← Nat.add_assoc,HKE.out]; go_num,(HO4.out.set hri (HW2.out _) (yi _ _ _ _)).drewN _,fun j hj=>by
          by_cases e4:j=r
          ·subst e4; rw [zL,if_neg (by omega),if_pos rfl]
          ·rw [zG _ _ e4,HG.out j hj,if_neg e4,if_neg e4],yc (HBL4.out.setCell (p:=⟨B+1,r,none⟩) hRl _) _⟩
         case measure=>simp [intOf]; omega
        ·generalize hke:r+1+m=k at *;have hki:n=k:=by omega
         have HGr:=hid (show g r=xJ (fun j=>f r (r+1+j)) (fun j=>bkF f n y (r+1+j)) (y r) m by rw [hg r hri,if_neg (by omega),if_pos rfl]);have HG:=hid hg;have hm2:m=n-1-r:=by omega
         have HM:=hid hm2;clear hg hke hm2;subst hki;go_wp2_with fail;refine zw [(0,1),(1,1),(2,1),(3,1),(4,1),(5,1),(6,1),(7,2),(8,1),(9,2),(10,1),(11,1),(12,1),(13,2),(14,1),(15,1),(16,1),(17,2),(18,0),(19,1),(20,0)] (by kernel_rfl) (by kernel_rfl) (fun _ _ d _ _ h=>by cases d<;>exact h) ?_;intro Y hY;have ho3:yd Y (B+1) (B+1) n n g:=by rw [hY]; exact ho.drew
         have hbl3:Below (B+1) W Y:=by rw [hY]; exact hbl.drew
         clear hY ho hbl;obtain ⟨a1,a2,a3⟩:=BX.out _ hbl3;obtain ⟨u,u1,ua,ucap,rfl,-,ur⟩:=HAC.out r hri;obtain ⟨ub,uo,rfl,hus,uc⟩:=ur (by omega);obtain ⟨l,l1,l2,l3⟩:=uc r (by omega);have o1:=OLD.out _ hbl3;rw [← o1 _ _ has] at u1;rw [← o1 _ _ (by rw [← hB]; exact hus)] at l1;obtain ⟨x,x1,x2,x3⟩:=ho3.cell hri;have r1:=ho3.free r;have hRl:=ho3.lt.1;have HX:=hid (show zk x=g r∧zk l=f r r from ⟨x2,l2⟩);have HO:=hid ho3;have HBL:=hid hbl3;clear ho3 hbl3 x2 l2 ur uc o1
         iterate 18
          first
           | refine zd (fun K hK=>?_)
           | refine ze (fun K hK=>?_)
          go_simp;refine hK _ ?_;clear hK K
         refine zx (fun K hK=>?_);go_simp;refine hK _ _ (fun _=>⟨_,rfl⟩) ?_;clear hK K
         iterate 1
          first
           | refine zd (fun K hK=>?_)
           | refine ze (fun K hK=>?_)
          go_simp;refine hK _ ?_;clear hK K
         refine zx (fun K hK=>?_);go_simp;refine hK _ _ (fun h=>Bool.noConfusion (Eq.trans (Eq.symm (by kernel_rfl:_=false)) h)) ?_;clear hK K;refine zo ?_
         have hv:zk (zZ .quo Y x l)=bkF f n y r:=by
          rw [wE .quo _ (HX.out.1.trans HGr.out) HX.out.2,mB f n y hri,HM.out]
         have HO4:=hid (fun d=>(HO.out.set hri hv (yi _ _ _ _)).drewN d);have HBL4:=hid (fun d=>yc (HBL.out.setCell (p:=⟨B+1,r,none⟩) hRl (.float .f64 (zZ .quo Y x l))) d);clear hv;go_wp2_with fail
         go_roundw
         case rel=>exact ⟨r,_,by omega,by go_num,HO4.out _,fun j hj=>by
          by_cases e4:j=r
          ·subst e4; rw [zL,if_pos (by omega)]
          ·rw [zG _ _ e4,HG.out j hj,if_neg e4];by_cases e5:j<r
           ·rw [if_pos e5,if_neg (by omega)]
           ·rw [if_neg e5,if_pos (by omega)],HBL4.out _⟩
         case measure=>simp [intOf]
end Go.Proofs.YtnlbafjmbamoeaaGreat
