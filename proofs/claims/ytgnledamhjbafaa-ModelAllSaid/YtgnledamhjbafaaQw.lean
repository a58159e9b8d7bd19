/-
  Polynomials with what is left over: divided, as the program does it.
-/
import Derived.Test.YtgnledamhjbafaaQv
namespace Go.Proofs.Ytgnledamhjbafaa
open Go.RowKit
open Ieee (double)
open Lib
attribute [local go_sem] zf ze zh zd zu zt zw zx zy zA zj zk zm zn zo zF yd zU zG xq
theorem MS.other {w0 w:World} {B D T n:Nat} {F G E M:Nat→PQ} (h:MS w0 B D T n F G E M w) {C o:Nat} (c1:B+3≤C) (c2:C≠D) (c3:C≠T) (v:Value):MS w0 B D T n F G E M (w.setCell ⟨C,o,none⟩ v):=
 ⟨h.f.other (by omega) _,h.g.other (by omega) _,h.r.other (by omega) _,h.m.other c2 _,h.t.other c3 _,h.ne,h.b.setCell (p:=⟨C,o,none⟩) (show B≤C by omega) _⟩
structure MSS (w0:World) (B D L n S:Nat) (F G E M:Nat→PQ) (p:PQ) (w:World):Prop where
 h:MS w0 B D L n F G E M w
 s:PB w S 1 (fun _=>p)
 n:S≠D∧S≠L∧B+3≤S
theorem MSS.below {w0 w w':World} {B D L n S:Nat} {F G E M:Nat→PQ} {p:PQ} (h:MSS w0 B D L n S F G E M p w) (hb:Below w.heap.size w w'):MSS w0 B D L n S F G E M p w':=⟨h.h.below hb,h.s.below hb h.s.lt,h.n⟩
theorem MSS.put {w0 w:World} {B D L n S:Nat} {F G E M:Nat→PQ} {p:PQ} (h:MSS w0 B D L n S F G E M p w) (q:PQ):MSS w0 B D L n S F G E M q ((w.setCell ⟨S,0,none⟩ (.float .f64 q.1)).setCell ⟨S,1,none⟩ (.float .f64 q.2)):=by
 obtain ⟨n1,n2,n3⟩:=h.n;have ht:=(h.s.set (k:=0) (by decide) q).congr (G:=fun _=>q) (fun k hk=>by have e:k=0:=(by omega); rw [e,yp]);simp only [Nat.zero_mul,Nat.zero_add] at ht;exact ⟨(h.h.other n3 n1 n2 _).other n3 n1 n2 _,ht,h.n⟩
theorem MS.own {w0 w w':World} {B D L n S:Nat} {F G E M:Nat→PQ} {p:PQ} (h:MS w0 B D L n F G E M w) (hb:Below w.heap.size w w') (hs:PB w' S 1 (fun _=>p)) (hS:w.heap.size≤S):MSS w0 B D L n S F G E M p w':=by
 have hd:=h.m.lt;have hl:=h.t.lt;have hr:=h.r.lt;exact ⟨h.below hb,hs,by omega,by omega,by omega⟩
theorem ltQ_zero:ltQ (0,0):=⟨by decide,by decide⟩
theorem quL_lt (F G:Nat→PQ):∀ n k,ltQ (quL F G n k)
 | 0,_=>ltQ_zero
 | n+1,k=>by
  rw [quL];by_cases e:k=n
  ·subst e; rw [yp]; exact divP_lt _ _ _ _
  ·rw [zY _ _ e]; exact quL_lt F G n k
theorem divM_whole {F G:Nat→PQ} (h:(hold0 (G 0) || hold0 (rngQ G))=true):modV wholeM=modV (divM F G):=by unfold divM; rw [if_pos h]
theorem divM_part {F G:Nat→PQ} (h:(hold0 (G 0) || hold0 (rngQ G))=false):modV (vM (quL F G 9) 9 (divQ (rngQ (pairM subQ F (mulM G (quL F G 9)))) (rngQ G)))=modV (divM F G):=by unfold divM; rw [if_neg (by rw [h]; decide)]
set_option maxRecDepth 100000
set_option maxHeartbeats 16000000
theorem div_tells (F G:Nat→PQ) (w:World) (lG:∀ k,k<9→ltQ (G k)):Calls Try.prog 21 #[modV F,modV G] w (wh (modV (divM F G)) w):=by
 have AL:=begin2 F G w;have LG:=hid lG;have hwh:=hid (fun h=>@divM_whole F G h);have hpt:=hid (fun h=>@divM_part F G h);have IN:=hid (fun (x:PQ) W=>(show Calls Try.prog 55 #[.float .f64 0,iv x.1 x.2] W (yk (.bool (hold0 x)) W) from rg 0 x.1 x.2 W));have RG:=hid (fun W=>range_tells G W);generalize modV (divM F G)=A at *;unfold modV at RG ⊢;clear lG;go_enter Try.func21,Try.ntmps21;go_upto_region 1 with fail
 generalize ((w.alloc (.cells (clQ F 10).toArray 29)).alloc (.cells (clQ G 10).toArray 29)).alloc (.cells #[.float .f64 0,.float .f64 0,.float .f64 0,.float .f64 0,.float .f64 0,.float .f64 0,.float .f64 0,.float .f64 0,.float .f64 0,.float .f64 0,.float .f64 0,.float .f64 0,.float .f64 0,.float .f64 0,.float .f64 0,.float .f64 0,.float .f64 0,.float .f64 0,.float .f64 0,.float .f64 0] 29)=X at *;generalize hB:w.heap.size=B at *;obtain ⟨HP,HQ,HR,x4,x5⟩:=AL;have HX:=hid (show PB X B 10 F∧PB X (B+1) 10 G∧PB X (B+2) 10 (fun _=>(0,0))∧Below B w X from ⟨HP,HQ,HR,x5⟩);clear HP HQ HR x5;go_wp2_with (first | (refine wpList_loadM rfl _ rfl rfl HX.out.2.1 ?_) | fail)
 refine (RG.out _).mono ?_;rintro e w1 ⟨rfl,hc1⟩;have hs1:=hc1.size;have hal:Below w1.heap.size w1 (w1.alloc (.cells (clQ (fun _=>rngQ G) 1).toArray 26)):=(Below.refl _ _).alloc (Nat.le_refl _) _;have hb1:Below X.heap.size X (w1.alloc (.cells (clQ (fun _=>rngQ G) 1).toArray 26)):=hc1.trans (hal.mono hs1);have HX1:=hid (show PB (w1.alloc (.cells (clQ (fun _=>rngQ G) 1).toArray 26)) B 10 F∧PB (w1.alloc (.cells (clQ (fun _=>rngQ G) 1).toArray 26)) (B+1) 10 G∧PB (w1.alloc (.cells (clQ (fun _=>rngQ G) 1).toArray 26)) (B+2) 10 (fun _=>(0,0))∧Below B w (w1.alloc (.cells (clQ (fun _=>rngQ G) 1).toArray 26))∧PB (w1.alloc (.cells (clQ (fun _=>rngQ G) 1).toArray 26)) w1.heap.size 1 (fun _=>rngQ G) from ⟨HX.out.1.below hb1 (by omega),HX.out.2.1.below hb1 (by omega),HX.out.2.2.1.below hb1 (by omega),HX.out.2.2.2.trans (hb1.mono (by omega)),PB.new _ _ _ _⟩);have hL:B+3≤w1.heap.size:=by omega
 have hsz:(w1.alloc (.cells (clQ (fun _=>rngQ G) 1).toArray 26)).heap.size=w1.heap.size+1:=by simp
 clear HX RG hal hb1 hc1 hs1;unfold iv;go_upto_region 2 with fail
 generalize hLe:w1.heap.size=L at *;rw [show (w1.alloc (.cells #[.float .f64 (rngQ G).1,.float .f64 (rngQ G).2] 26))=w1.alloc (.cells (clQ (fun _=>rngQ G) 1).toArray 26) from rfl];generalize w1.alloc (.cells (clQ (fun _=>rngQ G) 1).toArray 26)=Y at *;have b0:=HX1.out.2.1.at0 0 (by decide);have b1:=HX1.out.2.1.at1 0 (by decide);simp only [Nat.zero_mul,Nat.zero_add] at b0 b1;have IN1:=hid (IN.out (G 0));have IN2:=hid (IN.out (rngQ G));clear IN;have lB:=HX1.out.2.1.lt
 cases h1:hold0 (G 0) with
 | true=>
  rw [h1] at IN1;have hA:=hwh.out (by rw [h1]; rfl);clear hwh hpt IN2 h1;go_wp2_with fail;refine (IN1.out _).mono ?_;rintro e w3 ⟨rfl,hc3⟩;have HR:=hid (HX1.out.2.2.1.below hc3 (by omega));have HB:=hid (HX1.out.2.2.2.1.trans (hc3.mono (by omega)));clear hc3 HX1;go_wp2_with (first | (refine wpList_storeM rfl _ _ rfl wholeM rfl rfl HR.out ?_) | (go_at_call 56; first | (with_reducible refine (wC _).mono ?_; rintro e w' ⟨rfl,rfl⟩) | (with_reducible refine (vL _).mono ?_; rintro e w' ⟨rfl,rfl⟩)) | fail)
  intro w4 hr4 hb4 hs4;have hb5:=HB.out.trans (hb4.mono (by omega));clear hb4 HB HR;go_wp2_with fail;exact ret_mod _ Try.results21 rfl hr4 rfl ⟨by rw [← hA],by first | exact hb5 | (rw [hB]; exact hb5)⟩
 | false=>
  rw [h1] at IN1
  cases h2:hold0 (rngQ G) with
  | true=>
   rw [h2] at IN2;have hA:=hwh.out (by rw [h1,h2]; rfl);clear hwh hpt h1 h2;go_wp2_with fail;refine (IN1.out _).mono ?_;rintro e w2 ⟨rfl,hc2⟩;have hLA:=HX1.out.2.2.2.2.below hc2 (by omega);have l0:=hLA.at0 0 (by decide);have l1:=hLA.at1 0 (by decide);simp only [Nat.zero_mul,Nat.zero_add] at l0 l1;have hs2:=hc2.size;clear hLA b0 b1;go_wp2_with fail;refine (IN2.out _).mono ?_;rintro e w3 ⟨rfl,hc4⟩;have hc3:=hc2.trans (hc4.mono hs2);have HR:=hid (HX1.out.2.2.1.below hc3 (by omega));have HB:=hid (HX1.out.2.2.2.1.trans (hc3.mono (by omega)));clear hc3 HX1;go_wp2_with (first | (refine wpList_storeM rfl _ _ rfl wholeM rfl rfl HR.out ?_) | (go_at_call 56; first | (with_reducible refine (wC _).mono ?_; rintro e w' ⟨rfl,rfl⟩) | (with_reducible refine (vL _).mono ?_; rintro e w' ⟨rfl,rfl⟩)) | fail)
   intro w4 hr4 hb4 hs4;have hb5:=HB.out.trans (hb4.mono (by omega));clear hb4 HB HR;go_wp2_with fail;exact ret_mod _ Try.results21 rfl hr4 rfl ⟨by rw [← hA],by first | exact hb5 | (rw [hB]; exact hb5)⟩
  | false=>
   rw [h2] at IN2;have hA:=hpt.out (by rw [h1,h2]; rfl);clear hwh hpt h1 h2;go_wp2_with fail;refine (IN1.out _).mono ?_;rintro e w2 ⟨rfl,hc2⟩;have hLA:=HX1.out.2.2.2.2.below hc2 (by omega);have l0:=hLA.at0 0 (by decide);have l1:=hLA.at1 0 (by decide);simp only [Nat.zero_mul,Nat.zero_add] at l0 l1;have hs2:=hc2.size;clear hLA b0 b1;go_wp2_with fail;refine (IN2.out _).mono ?_;rintro e w3 ⟨rfl,hc4⟩;have hc3:=hc2.trans (hc4.mono hs2);have hs3:=hc3.size;have HX2:=hid (show PB w3 B 10 F∧PB w3 (B+1) 10 G∧PB w3 (B+2) 10 (fun _=>(0,0))∧Below B w w3∧PB w3 L 1 (fun _=>rngQ G) from ⟨HX1.out.1.below hc3 (by omega),HX1.out.2.1.below hc3 (by omega),HX1.out.2.2.1.below hc3 (by omega),HX1.out.2.2.2.1.trans (hc3.mono (by omega)),HX1.out.2.2.2.2.below hc3 (by omega)⟩);have hal:Below w3.heap.size w3 (w3.alloc (.cells #[.float .f64 0,.float .f64 0,.float .f64 0,.float .f64 0,.float .f64 0,.float .f64 0,.float .f64 0,.float .f64 0,.float .f64 0,.float .f64 0,.float .f64 0,.float .f64 0,.float .f64 0,.float .f64 0,.float .f64 0,.float .f64 0,.float .f64 0,.float .f64 0,.float .f64 0,.float .f64 0] 29)):=(Below.refl _ _).alloc (Nat.le_refl _) _;have hD:L<w3.heap.size:=by omega
   have HX:=hid (⟨HX2.out.1.below hal (by omega),HX2.out.2.1.below hal (by omega),HX2.out.2.2.1.below hal (by omega),zeroM w3,HX2.out.2.2.2.2.below hal hD,by omega,HX2.out.2.2.2.1.trans (hal.mono (by omega))⟩:MS w B w3.heap.size L 1 F G (fun _=>rngQ G) (quL F G 0) (w3.alloc (.cells #[.float .f64 0,.float .f64 0,.float .f64 0,.float .f64 0,.float .f64 0,.float .f64 0,.float .f64 0,.float .f64 0,.float .f64 0,.float .f64 0,.float .f64 0,.float .f64 0,.float .f64 0,.float .f64 0,.float .f64 0,.float .f64 0,.float .f64 0,.float .f64 0,.float .f64 0,.float .f64 0] 29)));clear HX1 HX2 hal hc2 hc4 hc3 l0 l1 hs2 hs3 IN1 IN2 hsz x4 lB;go_upto_region 5 with fail
   generalize w3.heap.size=D at *;generalize w3.alloc (.cells #[.float .f64 0,.float .f64 0,.float .f64 0,.float .f64 0,.float .f64 0,.float .f64 0,.float .f64 0,.float .f64 0,.float .f64 0,.float .f64 0,.float .f64 0,.float .f64 0,.float .f64 0,.float .f64 0,.float .f64 0,.float .f64 0,.float .f64 0,.float .f64 0,.float .f64 0,.float .f64 0] 29)=X5 at *;go_wp2_with fail
   go_loopw [24] (fun x wr=>∃ j:Nat,j≤9∧x=.int .i64 j∧MS w B D L 1 F G (fun _=>rngQ G) (quL F G j) wr) (fun x _=>9-(intOf x).toNat)
   case atStart=>exact ⟨0,by omega,rfl,HX.out⟩
   case round=>
    clear HX;obtain ⟨j,hj9,rfl,hx⟩:=hrel;have HX:=hid hx;clear hx;by_cases hlj:j<9
    ·have hljI:(j:Int)<9:=by omega
     have a0:=HX.out.f.at0 j (by omega);have a1:=HX.out.f.at1 j (by omega);have HS:=hid (HX.out.own (p:=F j) ((Below.refl _ _).alloc (Nat.le_refl _) _) (PB.new wr 1 (fun _=>F j) 26) (Nat.le_refl _));clear HX;go_wp2_with fail;generalize wr.heap.size=S at *
     go_loopw [9] (fun x wr=>∃ (i:Nat) (p:PQ),1≤i∧i≤j+1∧x=.int .i64 i∧p=lsQ F G (quL F G j) j (i-1)∧MSS w B D L 1 S F G (fun _=>rngQ G) (quL F G j) p wr) (fun x _=>j+1-(intOf x).toNat)
     case atStart=>exact ⟨1,F j,by omega,by omega,rfl,rfl,HS.out⟩
     case round=>
      clear HS a0 a1;obtain ⟨i,⟨r1,r2⟩,h1,hi9,rfl,hq,hx⟩:=hrel;have HX:=hid hx;clear hx;have HQ:=hid hq;clear hq;by_cases hli:i≤j
      ·have hliI:(i:Int)≤j:=by omega
       have hli9:(i:Int)<9:=by omega
       have e1:(j:Int)-(i:Int)=((j-i:Nat):Int):=by omega
       have e2:((j-i:Nat):Int)<9:=by omega
       have e3:IntKind.i64.wrap ((j-i:Nat):Int)=((j-i:Nat):Int):=IntWalk.i64_in _ (by omega);have b0:=HX.out.h.g.at0 i (by omega);have b1:=HX.out.h.g.at1 i (by omega);have d0:=HX.out.h.m.at0 (j-i) (by omega);have d1:=HX.out.h.m.at1 (j-i) (by omega);have r0:=HX.out.s.at0 0 (by decide);have r3:=HX.out.s.at1 0 (by decide);simp only [Nat.zero_mul,Nat.zero_add] at r0 r3;have lS:S<wr.heap.size:=HX.out.s.lt;have lG:B+1<wr.heap.size:=HX.out.h.g.lt;have lD:D<wr.heap.size:=HX.out.h.m.lt;go_wp2_with fail;refine wL [(0,3),(1,1),(2,1),(3,1),(4,3),(5,1),(6,1),(7,1),(8,1),(9,1),(10,3),(11,0),(12,0),(13,0)] (fun W=>Below wr.heap.size wr W) (by kernel_rfl) (by kernel_rfl) (fun _ _ d _ _ h=>by cases d<;>exact h) ((Below.refl _ _).drew) ?_;intro Z hZ hbZ;clear hZ;refine sV (v:=iv r1 r2) rfl rfl (fun wk hwk=>?_) ?_
       ·rw [← (zW hwk).1 _ _ lS] at r0 r3;unfold iv;go_simp
       iterate 3
        first
         | refine sT (fun K hK=>?_)
         | refine sU (fun K hK=>?_)
        go_simp;refine hK _ ?_;clear hK K
       refine sV (v:=iv (G i).1 (G i).2) rfl rfl (fun wk hwk=>?_) ?_
       ·rw [← (zW hwk).1 _ _ lG] at b0 b1;unfold iv;go_simp
       iterate 5
        first
         | refine sT (fun K hK=>?_)
         | refine sU (fun K hK=>?_)
        go_simp;refine hK _ ?_;clear hK K
       refine sV (v:=iv (quL F G j (j-i)).1 (quL F G j (j-i)).2) rfl rfl (fun wk hwk=>?_) ?_
       ·rw [← (zW hwk).1 _ _ lD] at d0 d1;unfold iv;go_simp
       refine uX (fun K hK=>?_);go_simp;refine (tMul (G i) (quL F G j (j-i)) _).mono ?_;rintro e w1 ⟨rfl,hc1⟩;have hb1:=hbZ.trans (hc1.mono hbZ.size);refine hK _ _ (fun h=>Bool.noConfusion (Eq.trans (Eq.symm (by kernel_rfl:_=false)) h)) (fun _=>hb1) ?_;clear hK K;refine uX (fun K hK=>?_);go_simp;refine (tSub (r1,r2) (mulQ (G i) (quL F G j (j-i))) _).mono ?_;rintro e w2 ⟨rfl,hc2⟩;have hb2:=hb1.trans (hc2.mono hb1.size);refine hK _ _ (fun h=>Bool.noConfusion (Eq.trans (Eq.symm (by kernel_rfl:_=false)) h)) (fun _=>hb2) ?_;clear hK K;clear r0 r3 b0 b1 d0 d1;have HN:=hid (show subQ (r1,r2) (mulQ (G i) (quL F G j (j-i)))=lsQ F G (quL F G j) j (i+1-1) by rw [HQ.out,show i+1-1=i-1+1 by omega,lsQ,show i-1+1=i by omega]);have HM2:=hid (HX.out.below hb2);have s0:=HM2.out.s.at0 0 (by decide);have s1:=HM2.out.s.at1 0 (by decide);have s2:=HM2.out.s.free 0;have s3:=HM2.out.s.free 1;simp only [Nat.zero_mul,Nat.zero_add] at s0 s1;have HS:=hid (HM2.out.put (subQ (r1,r2) (mulQ (G i) (quL F G j (j-i)))));clear hbZ HM2 HX HQ lS lG lD;generalize subQ (r1,r2) (mulQ (G i) (quL F G j (j-i)))=q at *;unfold iv;refine uX (fun K hK=>?_);go_simp;refine hK _ _ (fun h=>Bool.noConfusion (Eq.trans (Eq.symm (by kernel_rfl:_=false)) h)) (fun h=>Bool.noConfusion (Eq.trans (Eq.symm (by kernel_rfl:_=false)) h)) ?_;clear hK K;refine rE ?_;go_wp2_with fail
       go_roundw
       case rel=>exact ⟨i+1,q,by omega,by omega,by go_num,HN.out,HS.out⟩
       case measure=>simp [intOf]; omega
      ·obtain rfl:i=j+1:=by omega
       have r0:=HX.out.s.at0 0 (by decide);have r3:=HX.out.s.at1 0 (by decide);have b0:=HX.out.h.g.at0 0 (by decide);have b1:=HX.out.h.g.at1 0 (by decide);simp only [Nat.zero_mul,Nat.zero_add] at r0 r3 b0 b1;have HN:=hid (show quL F G (j+1)=vM (quL F G j) j (divQ (r1,r2) (G 0)) by rw [show (r1,r2)=_ from HQ.out]; rfl);go_wp2_with fail;refine (tDiv (r1,r2) (G 0) _).mono ?_;rintro e w4 ⟨rfl,hc4⟩;have HM2:=hid (HX.out.h.below hc4);have s0:=HM2.out.m.at0 j (by omega);have s1:=HM2.out.m.at1 j (by omega);have s2:=HM2.out.m.free (j*2);have s3:=HM2.out.m.free (j*2+1);have HS:=hid (HM2.out.set (k:=j) (by omega) (divQ (r1,r2) (G 0)));rw [← HN.out] at HS;clear HX HQ HM2 hc4 r0 r3 b0 b1 HN;generalize divQ (r1,r2) (G 0)=q at *;unfold iv;go_wp2_with fail
       go_roundw
       case rel=>exact ⟨j+1,by omega,by go_num,HS.out⟩
       case measure=>simp [intOf]; omega
    ·obtain rfl:j=9:=by omega
     have l0:=HX.out.t.at0 0 (by decide);have l1:=HX.out.t.at1 0 (by decide);simp only [Nat.zero_mul,Nat.zero_add] at l0 l1;have lF:B<wr.heap.size:=HX.out.f.lt;have lG:B+1<wr.heap.size:=HX.out.g.lt;have lD:D<wr.heap.size:=HX.out.m.lt;have lL:L<wr.heap.size:=HX.out.t.lt;go_upto_region 15 with fail
     refine wL [(0,3),(1,3),(2,3),(6,3),(3,0),(4,0),(5,0),(7,0),(8,1),(9,0)] (fun W=>Below wr.heap.size wr W) (by kernel_rfl) (by kernel_rfl) (fun _ _ d _ _ h=>by cases d<;>exact h) ((Below.refl _ _).drew) ?_;intro Z hZ hbZ;clear hZ;refine sV (v:=modV F) rfl rfl (fun wk hwk=>exec_loadM _ rfl rfl ((HX.out.f).below hwk lF)) ?_;refine sV (v:=modV G) rfl rfl (fun wk hwk=>exec_loadM _ rfl rfl ((HX.out.g).below hwk lG)) ?_;refine sV (v:=modV (quL F G 9)) rfl rfl (fun wk hwk=>exec_loadM _ rfl rfl ((HX.out.m).below hwk lD)) ?_;refine sV (v:=iv (rngQ G).1 (rngQ G).2) rfl rfl (fun wk hwk=>?_) ?_
     ·rw [← (zW hwk).1 _ _ lL] at l0 l1;unfold iv;go_simp
     refine uX (fun K hK=>?_);go_simp;refine (mul_tells G (quL F G 9) _ LG.out (fun k _=>quL_lt F G 9 k)).mono ?_;rintro e w1 ⟨rfl,hc1⟩;have hb1:=hbZ.trans (hc1.mono hbZ.size);refine hK _ _ (fun h=>Bool.noConfusion (Eq.trans (Eq.symm (by kernel_rfl:_=false)) h)) (fun _=>hb1) ?_;clear hK K;refine uX (fun K hK=>?_);go_simp;refine (sub_tells F (mulM G (quL F G 9)) _).mono ?_;rintro e w2 ⟨rfl,hc2⟩;have hb2:=hb1.trans (hc2.mono hb1.size);refine hK _ _ (fun h=>Bool.noConfusion (Eq.trans (Eq.symm (by kernel_rfl:_=false)) h)) (fun _=>hb2) ?_;clear hK K;refine uX (fun K hK=>?_);go_simp;refine (range_tells (pairM subQ F (mulM G (quL F G 9))) _).mono ?_;rintro e w3 ⟨rfl,hc3⟩;have hb3:=hb2.trans (hc3.mono hb2.size);refine hK _ _ (fun h=>Bool.noConfusion (Eq.trans (Eq.symm (by kernel_rfl:_=false)) h)) (fun _=>hb3) ?_;clear hK K;refine uX (fun K hK=>?_);go_simp;refine (tDiv (rngQ (pairM subQ F (mulM G (quL F G 9)))) (rngQ G) _).mono ?_;rintro e w4 ⟨rfl,hc4⟩;have hb4:=hb3.trans (hc4.mono hb3.size);refine hK _ _ (fun h=>Bool.noConfusion (Eq.trans (Eq.symm (by kernel_rfl:_=false)) h)) (fun _=>hb4) ?_;clear hK K
     iterate 1
      first
       | refine sT (fun K hK=>?_)
       | refine sU (fun K hK=>?_)
      go_simp;refine hK _ ?_;clear hK K
     clear l0 l1;have HM2:=hid (HX.out.below hb4);have s0:=HM2.out.m.at0 9 (by decide);have s1:=HM2.out.m.at1 9 (by decide);have s2:=HM2.out.m.free 18;have s3:=HM2.out.m.free 19;have HS:=hid (HM2.out.set (k:=9) (by decide) (divQ (rngQ (pairM subQ F (mulM G (quL F G 9)))) (rngQ G)));simp only [show 9*2=18 from rfl,show 18+1=19 from rfl] at s0 s1 HS;clear hbZ HM2 HX lF lG lD lL LG;generalize vM (quL F G 9) 9 (divQ (rngQ (pairM subQ F (mulM G (quL F G 9)))) (rngQ G))=M at *;generalize divQ (rngQ (pairM subQ F (mulM G (quL F G 9)))) (rngQ G)=q at *;unfold iv;refine uX (fun K hK=>?_);go_simp;refine hK _ _ (fun h=>Bool.noConfusion (Eq.trans (Eq.symm (by kernel_rfl:_=false)) h)) (fun h=>Bool.noConfusion (Eq.trans (Eq.symm (by kernel_rfl:_=false)) h)) ?_;clear hK K;refine rE ?_;clear s0 s1 s2 s3;go_upto_region 16 with fail
     generalize ((_:World).setCell ⟨D,18,none⟩ (.float .f64 q.1)).setCell ⟨D,19,none⟩ (.float .f64 q.2)=wy at *;go_wp2_with (first | (refine wpList_loadM rfl _ rfl rfl HS.out.m ?_) | (refine wpList_storeM rfl _ _ rfl M rfl rfl HS.out.r ?_) | fail)
     intro w4 hr4 hb4 hs4;have hb5:=HS.out.b.trans (hb4.mono (by omega));clear hb4 HS;go_wp2_with fail;exact ret_mod _ Try.results21 rfl hr4 rfl ⟨by rw [← hA],by first | exact hb5 | (rw [hB]; exact hb5)⟩
end Go.Proofs.Ytgnledamhjbafaa
