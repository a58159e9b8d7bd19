/-
  Polynomials with what is left over: multiplied, as the program does it.
-/
import Derived.Test.YtgnledamhjbafaaQs
namespace Go.Proofs.Ytgnledamhjbafaa
open Go.RowKit
open Ieee (double)
open Lib
attribute [local go_sem] zf ze zh zd zu zt zw zx zy zA zj zk zm zn zo zF yd zU zG xq
set_option maxRecDepth 100000
set_option maxHeartbeats 16000000
theorem along_tells (fn:Nat) (hf:∀ x y W,(callFunc fn #[x,y]).run Try.prog W=.ok (.enter fn #[x,y]) W) (hc:∀ x y W,Calls Try.prog fn #[iv x.1 x.2,iv y.1 y.2] W (wh (iv (addQ x y).1 (addQ x y).2) W)) (P:Nat) (T:Nat→PQ) (k:Nat) (hk:k≤8) (w:World) (hp:PB w P 81 T) :
  Calls Try.prog 47 #[.pointer (some ⟨P,0,none⟩),.int .i64 k,.func (.func fn) #[] #[]] w (wh (iv (alQ (fun i j=>T (i*9+j)) k k).1 (alQ (fun i j=>T (i*9+j)) k k).2) w):=by
 have AL:=al1 w (.cells #[.float .f64 0,.float .f64 0] 26);obtain ⟨A,HA⟩:∃ A,A=alQ (fun i j=>T (i*9+j)) k k:=⟨_,rfl⟩;rw [← HA];have HC:=hid hc;have hPl:=hp.lt;have hp1:=hp.below AL.2.2 hPl;clear hc hp;go_enter Try.func47,Try.ntmps47;go_upto_region 1 with fail
 generalize w.alloc (.cells #[.float .f64 0,.float .f64 0] 26)=X at *;generalize hB:w.heap.size=B at *;obtain ⟨x1,x4,x5⟩:=AL;have X1:=hid x1;have X5:=hid x5;have t0:=hp1.at0 (0*9+k) (by omega);have t1:=hp1.at1 (0*9+k) (by omega);have hkI:(k:Int)<9:=by omega
 have AR:=hid (PB.new X 1 (fun _=>T (0*9+k)) 26);have hA:Below X.heap.size X (X.alloc (.cells (clQ (fun _=>T (0*9+k)) 1).toArray 26)):=(Below.refl _ _).alloc (Nat.le_refl _) _;have HP:=hid hp1;clear x1 x5 hp1;simp only [Nat.zero_mul,Nat.zero_add] at t0 t1 AR hA;go_wp2_with fail
 go_loopw [8] (fun x wr=>∃ (i:Nat) (p:PQ),1≤i∧i≤k+1∧x=.int .i64 i∧p=alQ (fun i j=>T (i*9+j)) k (i-1)∧PB wr (B+1) 1 (fun _=>p)∧Below X.heap.size X wr) (fun x _=>k+1-(intOf x).toNat)
 case atStart=>exact ⟨1,T k,by omega,by omega,rfl,by simp [alQ],x4 ▸ AR.out,hA⟩
 case round=>
  clear hA AR t0 t1;obtain ⟨i,⟨r1,r2⟩,h1,h9,rfl,hq,hr,hb⟩:=hrel;have hws:=hb.size;by_cases hlt:i≤k
  ·have hlI:(i:Int)≤k:=by omega
   have hl9:(i:Int)<9:=by omega
   have e1:(k:Int)-(i:Int)=((k-i:Nat):Int):=by omega
   have e2:((k-i:Nat):Int)<9:=by omega
   have e3:IntKind.i64.wrap ((k-i:Nat):Int)=((k-i:Nat):Int):=IntWalk.i64_in _ (by omega);have hT:=HP.out.below hb (by omega);have t0:=hT.at0 (i*9+(k-i)) (by omega);have t1:=hT.at1 (i*9+(k-i)) (by omega);rw [show (i*9+(k-i))*2=i*18+(k-i)*2 by omega] at t0 t1;have r0:=hr.at0 0 (by decide);have r3:=hr.at1 0 (by decide);simp only [Nat.zero_mul,Nat.zero_add] at r0 r3;have HR:=hid hr;have HB:=hid hb;have HQ:=hid hq;have lS:B+1<wr.heap.size:=hr.lt;have lP:P<wr.heap.size:=hT.lt;clear hT hr hb hq;go_wp2_with fail;refine wL [(0,1),(1,3),(2,1),(3,1),(4,1),(5,1),(6,1),(7,1),(8,1),(9,1),(10,3),(11,0),(12,0)] (fun W=>Below wr.heap.size wr W) (by kernel_rfl) (by kernel_rfl) (fun _ _ d _ _ h=>by cases d<;>exact h) ((Below.refl _ _).drew) ?_;intro Z hZ hbZ;clear hZ
   iterate 1
    first
     | refine sT (fun K hK=>?_)
     | refine sU (fun K hK=>?_)
    go_simp;refine hK _ ?_;clear hK K
   refine sV (v:=iv r1 r2) rfl rfl (fun wk hwk=>?_) ?_
   ·rw [← (zW hwk).1 _ _ lS] at r0 r3;unfold iv;go_simp
   iterate 8
    first
     | refine sT (fun K hK=>?_)
     | refine sU (fun K hK=>?_)
    go_simp;refine hK _ ?_;clear hK K
   refine sV (v:=iv (T (i*9+(k-i))).1 (T (i*9+(k-i))).2) rfl rfl (fun wk hwk=>?_) ?_
   ·rw [← (zW hwk).1 _ _ lP] at t0 t1;unfold iv;go_simp
   refine uX (fun K hK=>?_);go_simp;refine (HC.out (r1,r2) (T (i*9+(k-i))) _).mono ?_;rintro e w1 ⟨rfl,hc1⟩;have hb1:=hbZ.trans (hc1.mono hbZ.size);refine hK _ _ (fun h=>Bool.noConfusion (Eq.trans (Eq.symm (by kernel_rfl:_=false)) h)) (fun _=>hb1) ?_;clear hK K;have HR2:=HR.out.below hb1 lS;have s0:=HR2.at0 0 (by decide);have s1:=HR2.at1 0 (by decide);have s2:=HR2.free 0;have s3:=HR2.free 1;simp only [Nat.zero_mul,Nat.zero_add] at s0 s1;have HS:=hid ((HR2.set (k:=0) (by decide) (addQ (r1,r2) (T (i*9+(k-i))))).congr (G:=fun _=>addQ (r1,r2) (T (i*9+(k-i)))) (fun k hk=>(by have e:k=0:=(by omega); rw [e,yp])));have HW:=hid (((HB.out.trans (hb1.mono (by omega))).setCell (p:=⟨B+1,0*2,none⟩) (show X.heap.size≤B+1 by omega) (.float .f64 (addQ (r1,r2) (T (i*9+(k-i)))).1)).setCell (p:=⟨B+1,0*2+1,none⟩) (show X.heap.size≤B+1 by omega) (.float .f64 (addQ (r1,r2) (T (i*9+(k-i)))).2));simp only [Nat.zero_mul,Nat.zero_add] at HS HW;have HN:=hid (show addQ (r1,r2) (T (i*9+(k-i)))=alQ (fun i j=>T (i*9+j)) k (i+1-1) by rw [HQ.out,show i+1-1=i-1+1 by omega,alQ,show i-1+1=i by omega]);clear hbZ HR2 HR HB HQ r0 r3 t0 t1;generalize addQ (r1,r2) (T (i*9+(k-i)))=q at *;unfold iv;refine uX (fun K hK=>?_);go_simp;refine hK _ _ (fun h=>Bool.noConfusion (Eq.trans (Eq.symm (by kernel_rfl:_=false)) h)) (fun h=>Bool.noConfusion (Eq.trans (Eq.symm (by kernel_rfl:_=false)) h)) ?_;clear hK K;refine rE ?_;go_wp2_with fail
   go_roundw
   case rel=>exact ⟨i+1,q,by omega,by omega,by go_num,HN.out,HS.out,HW.out⟩
   case measure=>simp [intOf]; omega
  ·obtain rfl:i=k+1:=by omega
   have r0:=hr.at0 0 (by decide);have r3:=hr.at1 0 (by decide);simp only [Nat.zero_mul,Nat.zero_add] at r0 r3;have hz:=(hb.block B (by omega)).trans X1.out;have q0:=at_block hz 0;have q1:=at_block hz 1;have q2:=rD hz 0;have q3:=rD hz 1;simp only [List.getElem?_toArray,List.getElem?_cons_zero,List.getElem?_cons_succ] at q0 q1;have HW:=hid (((X5.out.trans (hb.mono (by omega))).setCell (p:=⟨B,0,none⟩) (Nat.le_refl _) (.float .f64 r1)).setCell (p:=⟨B,1,none⟩) (Nat.le_refl _) (.float .f64 r2));have K2:=zR (.float .f64 r1) (.float .f64 r2) q0 q1;rw [show k+1-1=k from rfl] at hq;rw [← HA] at hq;subst hq;clear hz hr hb;go_wp2_with fail;exact bodyPost_ret (v:=iv r1 r2) (by simp [results,Try.results47,go_sem,K2.1,K2.2]) rfl ⟨rfl,by first | exact HW.out | (rw [hB]; exact HW.out)⟩
structure MS (w0:World) (B D T n:Nat) (F G E M:Nat→PQ) (w:World):Prop where
 f:PB w B 10 F
 g:PB w (B+1) 10 G
 r:PB w (B+2) 10 (fun _=>(0,0))
 m:PB w D 10 M
 t:PB w T n E
 ne:T≠D∧B+3≤D∧B+3≤T
 b:Below B w0 w
theorem MS.below {w0 w w':World} {B D T n:Nat} {F G E M:Nat→PQ} (h:MS w0 B D T n F G E M w) (hb:Below w.heap.size w w'):MS w0 B D T n F G E M w':=by
 have hl:=h.r.lt;exact ⟨h.f.below hb (by omega),h.g.below hb (by omega),h.r.below hb (by omega),h.m.below hb h.m.lt,h.t.below hb h.t.lt,h.ne,h.b.trans (hb.mono (by omega))⟩
theorem MS.congr {w0 w:World} {B D T n:Nat} {F G E M M':Nat→PQ} (h:MS w0 B D T n F G E M w) (e:∀ k,k<10→M k=M' k):MS w0 B D T n F G E M' w:=⟨h.f,h.g,h.r,h.m.congr e,h.t,h.ne,h.b⟩
theorem MS.set {w0 w:World} {B D T n:Nat} {F G E M:Nat→PQ} (h:MS w0 B D T n F G E M w) {k:Nat} (hk:k<10) (p:PQ):MS w0 B D T n F G E (vM M k p) ((w.setCell ⟨D,k*2,none⟩ (.float .f64 p.1)).setCell ⟨D,k*2+1,none⟩ (.float .f64 p.2)):=by
 obtain ⟨n1,n2,n3⟩:=h.ne;exact ⟨(h.f.other (by omega) _).other (by omega) _,(h.g.other (by omega) _).other (by omega) _,(h.r.other (by omega) _).other (by omega) _,h.m.set hk p,(h.t.other (fun e=>n1 e.symm) _).other (fun e=>n1 e.symm) _,h.ne,(h.b.setCell (p:=⟨D,k*2,none⟩) (show B≤D by omega) _).setCell (p:=⟨D,k*2+1,none⟩) (show B≤D by omega) _⟩
theorem MS.put {w0 w:World} {B D T:Nat} {F G E M:Nat→PQ} (h:MS w0 B D T 1 F G E M w) (p:PQ):MS w0 B D T 1 F G (fun _=>p) M ((w.setCell ⟨T,0,none⟩ (.float .f64 p.1)).setCell ⟨T,1,none⟩ (.float .f64 p.2)):=by
 obtain ⟨n1,n2,n3⟩:=h.ne;have ht:=(h.t.set (k:=0) (by decide) p).congr (G:=fun _=>p) (fun k hk=>by have e:k=0:=(by omega); rw [e,yp]);simp only [Nat.zero_mul,Nat.zero_add] at ht;exact ⟨(h.f.other (by omega) _).other (by omega) _,(h.g.other (by omega) _).other (by omega) _,(h.r.other (by omega) _).other (by omega) _,(h.m.other n1 _).other n1 _,ht,h.ne,(h.b.setCell (p:=⟨T,0,none⟩) (show B≤T by omega) _).setCell (p:=⟨T,1,none⟩) (show B≤T by omega) _⟩
theorem alQ_congr {t t':Nat→Nat→PQ} {k:Nat} (h:∀ i,i≤k→t i (k-i)=t' i (k-i)):∀ j,j≤k→alQ t k j=alQ t' k j
 | 0,_=>by have:=h 0 (by omega); rw [Nat.sub_zero] at this; exact this
 | j+1,hj=>by rw [alQ,alQ,alQ_congr h j (by omega),h (j+1) hj]
def ttQ (F G:Nat→PQ) (i j:Nat):PQ:=mulQ (F i) (G j)
def coS (F G:Nat→PQ) (j k:Nat):PQ:=if k<j then alQ (ttQ F G) k k else (0,0)
theorem coS_set (F G:Nat→PQ) (j k:Nat):vM (coS F G j) j (alQ (ttQ F G) j j) k=coS F G (j+1) k:=by
 unfold coS;by_cases e:k=j
 ·subst e; rw [yp,if_pos (by omega)]
 ·rw [zY _ _ e];by_cases e2:k<j
  ·rw [if_pos e2,if_pos (by omega)]
  ·rw [if_neg e2,if_neg (by omega)]
def coR (F G:Nat→PQ) (r:PQ) (k:Nat):PQ:=if k<9 then alQ (ttQ F G) k k else r
theorem coR_set (F G:Nat→PQ) (r p:PQ) (k:Nat) (hk:k<10):vM (coR F G r) 9 p k=coR F G p k:=by
 unfold coR;by_cases e:k=9
 ·subst e; rw [yp,if_neg (by omega)]
 ·rw [zY _ _ e,if_pos (by omega),if_pos (by omega)]
theorem coR_end (F G:Nat→PQ) (k:Nat) (_:k<10):coR F G (restQ (ttQ F G) F G) k=mulM F G k:=rfl
theorem mul_tells (F G:Nat→PQ) (w:World) (lF:∀ k,k<9→ltQ (F k)) (lG:∀ k,k<9→ltQ (G k)):Calls Try.prog 19 #[modV F,modV G] w (wh (modV (mulM F G)) w):=by
 have AL:=begin2 F G w;have PT:=hid (fun W=>products_tells F G W lF lG);have hmul:=modV_congr (coR_end F G);obtain ⟨A,HA⟩:∃ A,A=modV (mulM F G):=⟨_,rfl⟩;rw [← HA];unfold modV;clear lF lG;go_enter Try.func19,Try.ntmps19;go_upto_region 1 with fail
 generalize ((w.alloc (.cells (clQ F 10).toArray 29)).alloc (.cells (clQ G 10).toArray 29)).alloc (.cells #[.float .f64 0,.float .f64 0,.float .f64 0,.float .f64 0,.float .f64 0,.float .f64 0,.float .f64 0,.float .f64 0,.float .f64 0,.float .f64 0,.float .f64 0,.float .f64 0,.float .f64 0,.float .f64 0,.float .f64 0,.float .f64 0,.float .f64 0,.float .f64 0,.float .f64 0,.float .f64 0] 29)=X at *;generalize hB:w.heap.size=B at *;obtain ⟨HP,HQ,HR,x4,x5⟩:=AL;have hal:Below X.heap.size X (X.alloc (.cells #[.float .f64 0,.float .f64 0,.float .f64 0,.float .f64 0,.float .f64 0,.float .f64 0,.float .f64 0,.float .f64 0,.float .f64 0,.float .f64 0,.float .f64 0,.float .f64 0,.float .f64 0,.float .f64 0,.float .f64 0,.float .f64 0,.float .f64 0,.float .f64 0,.float .f64 0,.float .f64 0] 29)):=(Below.refl _ _).alloc (Nat.le_refl _) _;have HX:=hid (show PB (X.alloc (.cells #[.float .f64 0,.float .f64 0,.float .f64 0,.float .f64 0,.float .f64 0,.float .f64 0,.float .f64 0,.float .f64 0,.float .f64 0,.float .f64 0,.float .f64 0,.float .f64 0,.float .f64 0,.float .f64 0,.float .f64 0,.float .f64 0,.float .f64 0,.float .f64 0,.float .f64 0,.float .f64 0] 29)) B 10 F∧PB (X.alloc (.cells #[.float .f64 0,.float .f64 0,.float .f64 0,.float .f64 0,.float .f64 0,.float .f64 0,.float .f64 0,.float .f64 0,.float .f64 0,.float .f64 0,.float .f64 0,.float .f64 0,.float .f64 0,.float .f64 0,.float .f64 0,.float .f64 0,.float .f64 0,.float .f64 0,.float .f64 0,.float .f64 0] 29)) (B+1) 10 G∧PB (X.alloc (.cells #[.float .f64 0,.float .f64 0,.float .f64 0,.float .f64 0,.float .f64 0,.float .f64 0,.float .f64 0,.float .f64 0,.float .f64 0,.float .f64 0,.float .f64 0,.float .f64 0,.float .f64 0,.float .f64 0,.float .f64 0,.float .f64 0,.float .f64 0,.float .f64 0,.float .f64 0,.float .f64 0] 29)) (B+2) 10 (fun _=>(0,0))∧PB (X.alloc (.cells #[.float .f64 0,.float .f64 0,.float .f64 0,.float .f64 0,.float .f64 0,.float .f64 0,.float .f64 0,.float .f64 0,.float .f64 0,.float .f64 0,.float .f64 0,.float .f64 0,.float .f64 0,.float .f64 0,.float .f64 0,.float .f64 0,.float .f64 0,.float .f64 0,.float .f64 0,.float .f64 0] 29)) (B+3) 10 (fun _=>(0,0))∧Below B w (X.alloc (.cells #[.float .f64 0,.float .f64 0,.float .f64 0,.float .f64 0,.float .f64 0,.float .f64 0,.float .f64 0,.float .f64 0,.float .f64 0,.float .f64 0,.float .f64 0,.float .f64 0,.float .f64 0,.float .f64 0,.float .f64 0,.float .f64 0,.float .f64 0,.float .f64 0,.float .f64 0,.float .f64 0] 29)) from ⟨HP.below hal (by omega),HQ.below hal (by omega),HR.below hal (by omega),x4 ▸ zeroM X,x5.trans (hal.mono (by omega))⟩);have xs:(X.alloc (.cells #[.float .f64 0,.float .f64 0,.float .f64 0,.float .f64 0,.float .f64 0,.float .f64 0,.float .f64 0,.float .f64 0,.float .f64 0,.float .f64 0,.float .f64 0,.float .f64 0,.float .f64 0,.float .f64 0,.float .f64 0,.float .f64 0,.float .f64 0,.float .f64 0,.float .f64 0,.float .f64 0] 29)).heap.size=B+4:=by simp [x4]
 clear HP HQ HR x5 hal;go_upto_region 2 with fail
 generalize X.alloc (.cells #[.float .f64 0,.float .f64 0,.float .f64 0,.float .f64 0,.float .f64 0,.float .f64 0,.float .f64 0,.float .f64 0,.float .f64 0,.float .f64 0,.float .f64 0,.float .f64 0,.float .f64 0,.float .f64 0,.float .f64 0,.float .f64 0,.float .f64 0,.float .f64 0,.float .f64 0,.float .f64 0] 29)=Y at *;go_wp2_with (first | (refine wpList_loadQ rfl _ 9 row9 _ rfl rfl (HX.out.1.less (by decide)) ?_) | (refine wpList_loadQ rfl _ 9 row9 _ rfl rfl (HX.out.2.1.less (by decide)) ?_) | fail)
 refine (PT.out _).mono ?_;rintro e w1 ⟨rfl,hc1⟩;have hs1:=hc1.size;have HX1:=hid (show PB w1 B 10 F∧PB w1 (B+1) 10 G∧PB w1 (B+2) 10 (fun _=>(0,0))∧PB w1 (B+3) 10 (fun _=>(0,0))∧Below B w w1 from ⟨HX.out.1.below hc1 (by omega),HX.out.2.1.below hc1 (by omega),HX.out.2.2.1.below hc1 (by omega),HX.out.2.2.2.1.below hc1 (by omega),HX.out.2.2.2.2.trans (hc1.mono (by omega))⟩);clear HX hc1 PT;go_wp2_with (first | (refine wpList_allocT rfl rfl ?_) | fail)
 intro w2 h2 b2 z2;go_wp2_with (first | (refine wpList_storeQ rfl _ 81 row81 _ _ rfl (tabS F G 81) rfl rfl h2 ?_) | fail)
 intro w3 h3 b3 z3;have hb13:Below w1.heap.size w1 w3:=b2.trans b3;have hT:B+4≤w1.heap.size:=by omega
 generalize w1.heap.size=T at *;have HX:=hid ((⟨HX1.out.1.below hb13 (by omega),HX1.out.2.1.below hb13 (by omega),HX1.out.2.2.1.below hb13 (by omega),HX1.out.2.2.2.1.below hb13 (by omega),h3,by omega,HX1.out.2.2.2.2.trans (hb13.mono (by omega))⟩:MS w B (B+3) T 81 F G (tabS F G 81) (fun _=>(0,0)) w3).congr (M':=coS F G 0) (fun k _=>by unfold coS; rw [if_neg (by omega)]));clear HX1 h2 b2 z2 h3 b3 z3 hb13 xs x4 hs1;go_upto_region 3 with fail
 go_upto_block 0 with fail
 go_cut [] (fun wx=>MS w B (B+3) T 81 F G (tabS F G 81) (coS F G 9) wx)
 case first=>
  go_wp2_with fail
  go_loopw [15] (fun x wr=>∃ j:Nat,j≤9∧x=.int .i64 j∧MS w B (B+3) T 81 F G (tabS F G 81) (coS F G j) wr) (fun x _=>9-(intOf x).toNat)
  case atStart=>exact ⟨0,by omega,rfl,HX.out⟩
  case round=>
   clear HX;obtain ⟨j,h9,rfl,hx⟩:=hrel;have HX:=hid hx;clear hx;by_cases hlt:j<9
   ·have hl9:(j:Int)<9:=by omega
    go_wp2_with fail;refine (along_tells 42 (fun _ _ _=>rfl) (fun x y W=>tAdd x y W) T (tabS F G 81) j (by omega) _ HX.out.t).mono ?_;rintro e w4 ⟨rfl,hc4⟩;rw [alQ_congr (t':=ttQ F G) (fun i hi=>tabS_at F G (by omega) (by omega)) j (Nat.le_refl _)];have HM2:=hid (HX.out.below hc4);have s0:=HM2.out.m.at0 j (by omega);have s1:=HM2.out.m.at1 j (by omega);have s2:=HM2.out.m.free (j*2);have s3:=HM2.out.m.free (j*2+1);have HS:=hid ((HM2.out.set (k:=j) (by omega) (alQ (ttQ F G) j j)).congr (fun k _=>coS_set F G j k));clear HM2 HX hc4;generalize alQ (ttQ F G) j j=q at *;unfold iv;go_wp2_with fail
    go_roundw
    case rel=>exact ⟨j+1,by omega,by go_num,HS.out⟩
    case measure=>simp [intOf]; omega
   ·obtain rfl:j=9:=by omega
    go_wp2_with fail;go_meet;exact HX.out
 case rest=>
  clear HX
  have HX:=hid (hcut.congr (M':=coR F G (ovI (ttQ F G) 0)) (fun k hk=>(by
   unfold coS coR;by_cases e:k<9
   ·rw [if_pos e,if_pos e]
   ·rw [if_neg e,if_neg e]; rfl)))
  clear hcut;go_wp2_with fail
  go_loopw [24] (fun x wr=>∃ i:Nat,i≤9∧x=.int .i64 i∧MS w B (B+3) T 81 F G (tabS F G 81) (coR F G (ovI (ttQ F G) i)) wr) (fun x _=>9-(intOf x).toNat)
  case atStart=>exact ⟨0,by omega,rfl,HX.out⟩
  case round=>
   clear HX wc;obtain ⟨i,hi9,rfl,hx⟩:=hrel;have HX:=hid hx;clear hx;by_cases hli:i<9
   ·have hliI:(i:Int)<9:=by omega
    go_wp2_with fail
    go_loopw [27] (fun x wr=>∃ j:Nat,j≤9∧x=.int .i64 j∧MS w B (B+3) T 81 F G (tabS F G 81) (coR F G (ovJ (ttQ F G) i (ovI (ttQ F G) i) j)) wr) (fun x _=>9-(intOf x).toNat)
    case atStart=>exact ⟨0,by omega,rfl,HX.out⟩
    case round=>
     clear HX;obtain ⟨j,hj9,rfl,hx⟩:=hrel;by_cases hlj:j<9
     ·have hljI:(j:Int)<9:=by omega
      have e1:IntKind.i64.wrap ((i:Int)+(j:Int))=((i+j:Nat):Int):=by rw [IntWalk.i64_in _ (by omega)]; omega
      by_cases hgt:8<i+j
      ·have hgI:(8:Int)<((i+j:Nat):Int):=by omega
       have HQ:=hid (show ovJ (ttQ F G) i (ovI (ttQ F G) i) (j+1)=addQ (ovJ (ttQ F G) i (ovI (ttQ F G) i) j) (mulQ (ttQ F G i j) (powQ (i+j))) by rw [ovJ,if_pos hgt]);generalize ovJ (ttQ F G) i (ovI (ttQ F G) i) j=q0 at *;obtain ⟨r1,r2⟩:=q0;have HX:=hid hx;have r0:=hx.m.at0 9 (by omega);have r3:=hx.m.at1 9 (by omega);have t0:=hx.t.at0 (i*9+j) (by omega);have t1:=hx.t.at1 (i*9+j) (by omega);rw [show coR F G (r1,r2) 9=(r1,r2) from rfl] at r0 r3;rw [tabS_at F G hlj (by omega),show (i*9+j)*2=i*18+j*2 by omega,show mulQ (F i) (G j)=ttQ F G i j from rfl] at t0 t1;simp only [show 9*2=18 from rfl,show 18+1=19 from rfl] at r0 r3;have lM:B+3<wr.heap.size:=hx.m.lt;have lT:T<wr.heap.size:=hx.t.lt;clear hx;go_wp2_with fail;refine wL [(0,1),(1,3),(2,1),(3,1),(4,1),(5,1),(6,3),(7,1),(8,1),(9,1),(10,0),(11,0),(12,0),(13,1),(14,0)] (fun W=>Below wr.heap.size wr W) (by kernel_rfl) (by kernel_rfl) (fun _ _ d _ _ h=>by cases d<;>exact h) ((Below.refl _ _).drew) ?_;intro Z hZ hbZ;clear hZ
       iterate 1
        first
         | refine sT (fun K hK=>?_)
         | refine sU (fun K hK=>?_)
        go_simp;refine hK _ ?_;clear hK K
       refine sV (v:=iv r1 r2) rfl rfl (fun wk hwk=>?_) ?_
       ·rw [← (zW hwk).1 _ _ lM] at r0 r3;unfold iv;go_simp
       iterate 4
        first
         | refine sT (fun K hK=>?_)
         | refine sU (fun K hK=>?_)
        go_simp;refine hK _ ?_;clear hK K
       refine sV (v:=iv (ttQ F G i j).1 (ttQ F G i j).2) rfl rfl (fun wk hwk=>?_) ?_
       ·rw [← (zW hwk).1 _ _ lT] at t0 t1;unfold iv;go_simp
       iterate 3
        first
         | refine sT (fun K hK=>?_)
         | refine sU (fun K hK=>?_)
        go_simp;refine hK _ ?_;clear hK K
       refine uX (fun K hK=>?_);go_simp;refine (power_tells (i+j) _).mono ?_;rintro e w1 ⟨rfl,hc1⟩;have hb1:=hbZ.trans (hc1.mono hbZ.size);refine hK _ _ (fun h=>Bool.noConfusion (Eq.trans (Eq.symm (by kernel_rfl:_=false)) h)) (fun _=>hb1) ?_;clear hK K;refine uX (fun K hK=>?_);go_simp;refine (tMul (ttQ F G i j) (powQ (i+j)) _).mono ?_;rintro e w2 ⟨rfl,hc2⟩;have hb2:=hb1.trans (hc2.mono hb1.size);refine hK _ _ (fun h=>Bool.noConfusion (Eq.trans (Eq.symm (by kernel_rfl:_=false)) h)) (fun _=>hb2) ?_;clear hK K;refine uX (fun K hK=>?_);go_simp;refine (tAdd (r1,r2) (mulQ (ttQ F G i j) (powQ (i+j))) _).mono ?_;rintro e w3 ⟨rfl,hc3⟩;have hb3:=hb2.trans (hc3.mono hb2.size);refine hK _ _ (fun h=>Bool.noConfusion (Eq.trans (Eq.symm (by kernel_rfl:_=false)) h)) (fun _=>hb3) ?_;clear hK K
       iterate 1
        first
         | refine sT (fun K hK=>?_)
         | refine sU (fun K hK=>?_)
        go_simp;refine hK _ ?_;clear hK K
       clear r0 r3 t0 t1;have HM2:=hid (HX.out.below hb3);have s0:=HM2.out.m.at0 9 (by decide);have s1:=HM2.out.m.at1 9 (by decide);have s2:=HM2.out.m.free 18;have s3:=HM2.out.m.free 19;have HS:=hid ((HM2.out.set (k:=9) (by decide) (addQ (r1,r2) (mulQ (ttQ F G i j) (powQ (i+j))))).congr (M':=coR F G (addQ (r1,r2) (mulQ (ttQ F G i j) (powQ (i+j))))) (fun k hk=>coR_set F G _ _ k hk));simp only [show 9*2=18 from rfl,show 18+1=19 from rfl] at s0 s1 HS;clear hbZ HM2;clear HX;generalize addQ (r1,r2) (mulQ (ttQ F G i j) (powQ (i+j)))=q at *;unfold iv;refine uX (fun K hK=>?_);go_simp;refine hK _ _ (fun h=>Bool.noConfusion (Eq.trans (Eq.symm (by kernel_rfl:_=false)) h)) (fun h=>Bool.noConfusion (Eq.trans (Eq.symm (by kernel_rfl:_=false)) h)) ?_;clear hK K;refine rE ?_;go_wp2_with fail
       go_roundw
       case rel=>exact ⟨j+1,by omega,by go_num,by rw [HQ.out]; exact HS.out⟩
       case measure=>simp [intOf]; omega
      ·have hgI:¬ (8:Int)<((i+j:Nat):Int):=by omega
       have HX:=hid hx;clear hx;go_wp2_with fail
       go_roundw
       case rel=>exact ⟨j+1,by omega,by go_num,by rw [ovJ,if_neg hgt]; exact HX.out⟩
       case measure=>simp [intOf]; omega
     ·obtain rfl:j=9:=by omega
      have HX:=hid hx;clear hx;go_wp2_with fail
      go_roundw
      case rel=>exact ⟨i+1,by omega,by go_num,HX.out⟩
      case measure=>simp [intOf]; omega
   ·obtain rfl:i=9:=by omega
    have HA2:=hid (show addQ (addQ (ovI (ttQ F G) 9) (mulQ (F 9) (rngQ G))) (mulQ (polQ F 8) (G 9))=restQ (ttQ F G) F G from rfl);generalize ovI (ttQ F G) 9=q0 at *;obtain ⟨r1,r2⟩:=q0;have r0:=HX.out.m.at0 9 (by omega);have r3:=HX.out.m.at1 9 (by omega);have a0:=HX.out.f.at0 9 (by omega);have a1:=HX.out.f.at1 9 (by omega);rw [show coR F G (r1,r2) 9=(r1,r2) from rfl] at r0 r3;simp only [show 9*2=18 from rfl,show 18+1=19 from rfl] at r0 r3 a0 a1;have lM:B+3<wr.heap.size:=HX.out.m.lt;have lF:B<wr.heap.size:=HX.out.f.lt;have lG:B+1<wr.heap.size:=HX.out.g.lt;go_upto_region 18 with fail
    refine wL [(0,1),(1,3),(2,1),(3,3),(4,3),(5,0),(6,0),(7,0),(8,1),(9,0)] (fun W=>Below wr.heap.size wr W) (by kernel_rfl) (by kernel_rfl) (fun _ _ d _ _ h=>by cases d<;>exact h) ((Below.refl _ _).drew) ?_;intro Z hZ hbZ;clear hZ
    iterate 1
     first
      | refine sT (fun K hK=>?_)
      | refine sU (fun K hK=>?_)
     go_simp;refine hK _ ?_;clear hK K
    refine sV (v:=iv r1 r2) rfl rfl (fun wk hwk=>?_) ?_
    ·rw [← (zW hwk).1 _ _ lM] at r0 r3;unfold iv;go_simp
    iterate 1
     first
      | refine sT (fun K hK=>?_)
      | refine sU (fun K hK=>?_)
     go_simp;refine hK _ ?_;clear hK K
    refine sV (v:=iv (F 9).1 (F 9).2) rfl rfl (fun wk hwk=>?_) ?_
    ·rw [← (zW hwk).1 _ _ lF] at a0 a1;unfold iv;go_simp
    refine sV (v:=modV G) rfl rfl (fun wk hwk=>exec_loadM _ rfl rfl ((HX.out.g).below hwk lG)) ?_;refine uX (fun K hK=>?_);go_simp;refine (range_tells G _).mono ?_;rintro e w1 ⟨rfl,hc1⟩;have hb1:=hbZ.trans (hc1.mono hbZ.size);refine hK _ _ (fun h=>Bool.noConfusion (Eq.trans (Eq.symm (by kernel_rfl:_=false)) h)) (fun _=>hb1) ?_;clear hK K;refine uX (fun K hK=>?_);go_simp;refine (tMul (F 9) (rngQ G) _).mono ?_;rintro e w2 ⟨rfl,hc2⟩;have hb2:=hb1.trans (hc2.mono hb1.size);refine hK _ _ (fun h=>Bool.noConfusion (Eq.trans (Eq.symm (by kernel_rfl:_=false)) h)) (fun _=>hb2) ?_;clear hK K;refine uX (fun K hK=>?_);go_simp;refine (tAdd (r1,r2) (mulQ (F 9) (rngQ G)) _).mono ?_;rintro e w3 ⟨rfl,hc3⟩;have hb3:=hb2.trans (hc3.mono hb2.size);refine hK _ _ (fun h=>Bool.noConfusion (Eq.trans (Eq.symm (by kernel_rfl:_=false)) h)) (fun _=>hb3) ?_;clear hK K
    iterate 1
     first
      | refine sT (fun K hK=>?_)
      | refine sU (fun K hK=>?_)
     go_simp;refine hK _ ?_;clear hK K
    clear r0 r3 a0 a1;have HM2:=hid (HX.out.below hb3);have s0:=HM2.out.m.at0 9 (by decide);have s1:=HM2.out.m.at1 9 (by decide);have s2:=HM2.out.m.free 18;have s3:=HM2.out.m.free 19;have HS:=hid ((HM2.out.set (k:=9) (by decide) (addQ (r1,r2) (mulQ (F 9) (rngQ G)))).congr (M':=coR F G (addQ (r1,r2) (mulQ (F 9) (rngQ G)))) (fun k hk=>coR_set F G _ _ k hk));simp only [show 9*2=18 from rfl,show 18+1=19 from rfl] at s0 s1 HS;clear hbZ HM2;generalize addQ (r1,r2) (mulQ (F 9) (rngQ G))=q at *;obtain ⟨r1',r2'⟩:=q;clear HX lM lF lG;unfold iv;refine uX (fun K hK=>?_);go_simp;refine hK _ _ (fun h=>Bool.noConfusion (Eq.trans (Eq.symm (by kernel_rfl:_=false)) h)) (fun h=>Bool.noConfusion (Eq.trans (Eq.symm (by kernel_rfl:_=false)) h)) ?_;clear hK K;refine rE ?_;clear s0 s1 s2 s3;go_upto_region 19 with fail
    generalize ((_:World).setCell ⟨B+3,18,none⟩ (.float .f64 r1')).setCell ⟨B+3,19,none⟩ (.float .f64 r2')=wx at *;have HX:=HS;clear HS;have r0:=HX.out.m.at0 9 (by omega);have r3:=HX.out.m.at1 9 (by omega);have b0:=HX.out.g.at0 9 (by omega);have b1:=HX.out.g.at1 9 (by omega);rw [show coR F G (r1',r2') 9=(r1',r2') from rfl] at r0 r3;simp only [show 9*2=18 from rfl,show 18+1=19 from rfl] at r0 r3 b0 b1;have lM:B+3<wx.heap.size:=HX.out.m.lt;have lF:B<wx.heap.size:=HX.out.f.lt;have lG:B+1<wx.heap.size:=HX.out.g.lt;refine wL [(0,1),(1,3),(2,3),(4,1),(5,3),(3,0),(6,0),(7,0),(8,1),(9,0)] (fun W=>Below wx.heap.size wx W) (by kernel_rfl) (by kernel_rfl) (fun _ _ d _ _ h=>by cases d<;>exact h) ((Below.refl _ _).drew) ?_;intro Z hZ hbZ;clear hZ
    iterate 1
     first
      | refine sT (fun K hK=>?_)
      | refine sU (fun K hK=>?_)
     go_simp;refine hK _ ?_;clear hK K
    refine sV (v:=iv r1' r2') rfl rfl (fun wk hwk=>?_) ?_
    ·rw [← (zW hwk).1 _ _ lM] at r0 r3;unfold iv;go_simp
    refine sV (v:=modV F) rfl rfl (fun wk hwk=>exec_loadM _ rfl rfl ((HX.out.f).below hwk lF)) ?_
    iterate 1
     first
      | refine sT (fun K hK=>?_)
      | refine sU (fun K hK=>?_)
     go_simp;refine hK _ ?_;clear hK K
    refine sV (v:=iv (G 9).1 (G 9).2) rfl rfl (fun wk hwk=>?_) ?_
    ·rw [← (zW hwk).1 _ _ lG] at b0 b1;unfold iv;go_simp
    refine uX (fun K hK=>?_);go_simp;refine (poly_tells F _).mono ?_;rintro e w1 ⟨rfl,hc1⟩;have hb1:=hbZ.trans (hc1.mono hbZ.size);refine hK _ _ (fun h=>Bool.noConfusion (Eq.trans (Eq.symm (by kernel_rfl:_=false)) h)) (fun _=>hb1) ?_;clear hK K;refine uX (fun K hK=>?_);go_simp;refine (tMul (polQ F 8) (G 9) _).mono ?_;rintro e w2 ⟨rfl,hc2⟩;have hb2:=hb1.trans (hc2.mono hb1.size);refine hK _ _ (fun h=>Bool.noConfusion (Eq.trans (Eq.symm (by kernel_rfl:_=false)) h)) (fun _=>hb2) ?_;clear hK K;refine uX (fun K hK=>?_);go_simp;refine (tAdd (r1',r2') (mulQ (polQ F 8) (G 9)) _).mono ?_;rintro e w3 ⟨rfl,hc3⟩;have hb3:=hb2.trans (hc3.mono hb2.size);refine hK _ _ (fun h=>Bool.noConfusion (Eq.trans (Eq.symm (by kernel_rfl:_=false)) h)) (fun _=>hb3) ?_;clear hK K
    iterate 1
     first
      | refine sT (fun K hK=>?_)
      | refine sU (fun K hK=>?_)
     go_simp;refine hK _ ?_;clear hK K
    clear r0 r3 b0 b1;have HM2:=hid (HX.out.below hb3);have s0:=HM2.out.m.at0 9 (by decide);have s1:=HM2.out.m.at1 9 (by decide);have s2:=HM2.out.m.free 18;have s3:=HM2.out.m.free 19;have HS:=hid ((HM2.out.set (k:=9) (by decide) (addQ (r1',r2') (mulQ (polQ F 8) (G 9)))).congr (M':=coR F G (addQ (r1',r2') (mulQ (polQ F 8) (G 9)))) (fun k hk=>coR_set F G _ _ k hk));simp only [show 9*2=18 from rfl,show 18+1=19 from rfl] at s0 s1 HS;clear hbZ HM2;generalize addQ (r1',r2') (mulQ (polQ F 8) (G 9))=q at *;clear HX lM lF lG;unfold iv;refine uX (fun K hK=>?_);go_simp;refine hK _ _ (fun h=>Bool.noConfusion (Eq.trans (Eq.symm (by kernel_rfl:_=false)) h)) (fun h=>Bool.noConfusion (Eq.trans (Eq.symm (by kernel_rfl:_=false)) h)) ?_;clear hK K;refine rE ?_;clear s0 s1 s2 s3;go_upto_region 20 with fail
    generalize ((_:World).setCell ⟨B+3,18,none⟩ (.float .f64 q.1)).setCell ⟨B+3,19,none⟩ (.float .f64 q.2)=wy at *;have HE:=hid (show modV (coR F G q)=A from (congrArg (fun z=>modV (coR F G z)) HA2.out).trans (hmul.trans HA.symm));have HX:=HS;clear HS HA HA2;generalize coR F G q=M at *;have HE2:=HE.out;unfold modV at HE2;go_wp2_with (first | (refine wpList_loadM rfl _ rfl rfl HX.out.m ?_) | (refine wpList_storeM rfl _ _ rfl M rfl rfl HX.out.r ?_) | fail)
    intro w4 hr4 hb4 hs4;have hb5:=HX.out.b.trans (hb4.mono (by omega));clear hb4 HX;go_wp2_with fail;exact ret_mod _ Try.results19 rfl hr4 rfl ⟨by rw [← HE.out],by first | exact hb5 | (rw [hB]; exact hb5)⟩
end Go.Proofs.Ytgnledamhjbafaa
