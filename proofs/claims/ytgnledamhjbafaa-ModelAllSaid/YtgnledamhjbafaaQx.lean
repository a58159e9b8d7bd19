/-
  Polynomials with what is left over: divided, as the document does it.
-/
import Derived.Test.YtgnledamhjbafaaQw
namespace Go.Proofs.Ytgnledamhjbafaa
open Go.RowKit
open Ieee (double)
open Lib
attribute [local go_sem] zf ze zh zd zu zt zw zx zy zA zj zk zm zn zo zF yd zU zG xq
theorem wpList_loadG {ops:Array Oper} {rest:List Oper} {o:Oper} {a:Act} {w:World} {Q:Exit→Act→World→Prop} (hw:Region.wanted o (yielded ops a.tmps)=true) (x:Operand) (ho:o.op=.load 29 x) {b:Nat} {F:Nat→PQ} (hx:a.eval x=.pointer (some ⟨b,0,none⟩)) (hp:PB w b 10 F)
  (h:wpList Try.prog ops Q rest (a.put o.dst (.agg (clQ F 10).toArray)) w):wpList Try.prog ops Q (o :: rest) a w:=by
 obtain ⟨d,hu,hd⟩:=modT;refine wpList_step fun K hK=>?_
 rw [if_pos hw];exact wp_load_mid 29 x ho b 0 hx (clQ F 10) d hp.range hu hd (by rw [clQ_len]; exact infoM) (hK _ _ h)
set_option maxRecDepth 100000
set_option maxHeartbeats 16000000
theorem rdivM_tells (F G:Nat→PQ) (w:World):Calls Try.prog 22 #[modV F,modV G] w (wh (modV (divM F G)) w):=by
 have AL:=begin2 F G w;have hwh:=hid (fun h=>@divM_whole F G h);have hpt:=hid (fun h=>@divM_part F G h);have IN:=hid (fun (x:PQ) W=>(show Calls Try.prog 58 #[iv x.1 x.2] W (yk (.bool (hold0 x)) W) from rholds_any x.1 x.2 W));have RG:=hid (fun W=>rrange_tells G W);generalize modV (divM F G)=A at *;unfold modV at RG ⊢;go_enter Try.func22,Try.ntmps22;go_upto_region 1 with fail
 generalize ((w.alloc (.cells (clQ F 10).toArray 29)).alloc (.cells (clQ G 10).toArray 29)).alloc (.cells #[.float .f64 0,.float .f64 0,.float .f64 0,.float .f64 0,.float .f64 0,.float .f64 0,.float .f64 0,.float .f64 0,.float .f64 0,.float .f64 0,.float .f64 0,.float .f64 0,.float .f64 0,.float .f64 0,.float .f64 0,.float .f64 0,.float .f64 0,.float .f64 0,.float .f64 0,.float .f64 0] 29)=X at *;generalize hB:w.heap.size=B at *;obtain ⟨HP,HQ,HR,x4,x5⟩:=AL;have HX1:=hid (show PB X B 10 F∧PB X (B+1) 10 G∧PB X (B+2) 10 (fun _=>(0,0))∧Below B w X from ⟨HP,HQ,HR,x5⟩);have b0:=HQ.at0 0 (by decide);have b1:=HQ.at1 0 (by decide);simp only [Nat.zero_mul,Nat.zero_add] at b0 b1;clear HP HQ HR x5;have IN1:=hid (IN.out (G 0));have IN2:=hid (IN.out (rngQ G));clear IN
 cases h1:hold0 (G 0) with
 | true=>
  rw [h1] at IN1;have hA:=hwh.out (by rw [h1]; rfl);clear hwh hpt IN2 h1 RG;go_wp2_with fail;refine (IN1.out _).mono ?_;rintro e w3 ⟨rfl,hc3⟩;have HR:=hid (HX1.out.2.2.1.below hc3 (by omega));have HB:=hid (HX1.out.2.2.2.trans (hc3.mono (by omega)));have hs3:=hc3.size;clear hc3 HX1 b0 b1;go_wp2_with fail;refine (rwhole_any _).mono ?_;rintro e w6 ⟨rfl,hc6⟩;have HR2:=hid (HR.out.below hc6 HR.out.lt);have HB2:=hid (HB.out.trans (hc6.mono (by omega)));clear hc6 HR HB;unfold iv;go_wp2_with (first | (refine wpList_storeM rfl _ _ rfl wholeM rfl rfl HR2.out ?_) | fail)
  intro w4 hr4 hb4 hs4;have hb5:=HB2.out.trans (hb4.mono (by omega));clear hb4 HB2 HR2;go_wp2_with fail;exact ret_mod _ Try.results22 rfl hr4 rfl ⟨by rw [← hA],by first | exact hb5 | (rw [hB]; exact hb5)⟩
 | false=>
  rw [h1] at IN1
  cases h2:hold0 (rngQ G) with
  | true=>
   rw [h2] at IN2;have hA:=hwh.out (by rw [h1,h2]; rfl);clear hwh hpt h1 h2;go_wp2_with fail;refine (IN1.out _).mono ?_;rintro e w2 ⟨rfl,hc2⟩;have hs2:=hc2.size;have hb2:=HX1.out.2.1.below hc2 (by omega);clear b0 b1;go_wp2_with (first | (refine wpList_loadG rfl _ rfl rfl hb2 ?_) | fail)
   refine (RG.out _).mono ?_;rintro e w5 ⟨rfl,hc5⟩;have hs5:=hc5.size;go_wp2_with fail;refine (IN2.out _).mono ?_;rintro e w3 ⟨rfl,hc4⟩;have hc3:=(hc2.trans (hc5.mono hs2)).trans (hc4.mono (Nat.le_trans hs2 hs5));have HR:=hid (HX1.out.2.2.1.below hc3 (by omega));have HB:=hid (HX1.out.2.2.2.trans (hc3.mono (by omega)));have hs3:=hc3.size;clear hc3 HX1 hc2 hc4 hc5 hs2 hs5 hb2 RG;go_wp2_with fail;refine (rwhole_any _).mono ?_;rintro e w6 ⟨rfl,hc6⟩;have HR2:=hid (HR.out.below hc6 HR.out.lt);have HB2:=hid (HB.out.trans (hc6.mono (by omega)));clear hc6 HR HB;unfold iv;go_wp2_with (first | (refine wpList_storeM rfl _ _ rfl wholeM rfl rfl HR2.out ?_) | fail)
   intro w4 hr4 hb4 hs4;have hb5:=HB2.out.trans (hb4.mono (by omega));clear hb4 HB2 HR2;go_wp2_with fail;exact ret_mod _ Try.results22 rfl hr4 rfl ⟨by rw [← hA],by first | exact hb5 | (rw [hB]; exact hb5)⟩
  | false=>
   rw [h2] at IN2;have hA:=hpt.out (by rw [h1,h2]; rfl);clear hwh hpt h1 h2;go_wp2_with fail;refine (IN1.out _).mono ?_;rintro e w2 ⟨rfl,hc2⟩;have hs2:=hc2.size;have hb2:=HX1.out.2.1.below hc2 (by omega);clear b0 b1;go_wp2_with (first | (refine wpList_loadG rfl _ rfl rfl hb2 ?_) | fail)
   refine (RG.out _).mono ?_;rintro e w5 ⟨rfl,hc5⟩;have hs5:=hc5.size;go_wp2_with fail;refine (IN2.out _).mono ?_;rintro e w3 ⟨rfl,hc4⟩;have hc3:=(hc2.trans (hc5.mono hs2)).trans (hc4.mono (Nat.le_trans hs2 hs5));have hs3:=hc3.size;have HX2:=hid (show PB w3 B 10 F∧PB w3 (B+1) 10 G∧PB w3 (B+2) 10 (fun _=>(0,0))∧Below B w w3 from ⟨HX1.out.1.below hc3 (by omega),HX1.out.2.1.below hc3 (by omega),HX1.out.2.2.1.below hc3 (by omega),HX1.out.2.2.2.trans (hc3.mono (by omega))⟩);have hal:Below w3.heap.size w3 (w3.alloc (.cells #[.float .f64 0,.float .f64 0,.float .f64 0,.float .f64 0,.float .f64 0,.float .f64 0,.float .f64 0,.float .f64 0,.float .f64 0,.float .f64 0,.float .f64 0,.float .f64 0,.float .f64 0,.float .f64 0,.float .f64 0,.float .f64 0,.float .f64 0,.float .f64 0,.float .f64 0,.float .f64 0] 29)):=(Below.refl _ _).alloc (Nat.le_refl _) _;have hD:B+3≤w3.heap.size:=by omega
   have HX:=hid (⟨HX2.out.1.below hal (by omega),HX2.out.2.1.below hal (by omega),HX2.out.2.2.1.below hal (by omega),zeroM w3,hD,HX2.out.2.2.2.trans (hal.mono (by omega))⟩:MS0 w B w3.heap.size F G (quL F G 0) (w3.alloc (.cells #[.float .f64 0,.float .f64 0,.float .f64 0,.float .f64 0,.float .f64 0,.float .f64 0,.float .f64 0,.float .f64 0,.float .f64 0,.float .f64 0,.float .f64 0,.float .f64 0,.float .f64 0,.float .f64 0,.float .f64 0,.float .f64 0,.float .f64 0,.float .f64 0,.float .f64 0,.float .f64 0] 29)));clear HX1 HX2 hal hc2 hc4 hc5 hc3 hs2 hs3 IN1 IN2 x4 RG hb2;unfold iv;go_upto_region 4 with fail
   generalize w3.heap.size=D at *;generalize w3.alloc (.cells #[.float .f64 0,.float .f64 0,.float .f64 0,.float .f64 0,.float .f64 0,.float .f64 0,.float .f64 0,.float .f64 0,.float .f64 0,.float .f64 0,.float .f64 0,.float .f64 0,.float .f64 0,.float .f64 0,.float .f64 0,.float .f64 0,.float .f64 0,.float .f64 0,.float .f64 0,.float .f64 0] 29)=X5 at *;go_wp2_with fail
   go_loopw [6] (fun x wr=>∃ j:Nat,j≤9∧x=.int .i64 j∧MS0 w B D F G (quL F G j) wr) (fun x _=>9-(intOf x).toNat)
   case atStart=>exact ⟨0,by omega,rfl,HX.out⟩
   case round=>
    clear HX;obtain ⟨j,hj9,rfl,hx⟩:=hrel;have HX:=hid hx;clear hx;by_cases hlj:j<9
    ·have hljI:(j:Int)<9:=by omega
     have hlj8:(j:Int)≤8:=by omega
     have a0:=HX.out.f.at0 j (by omega);have a1:=HX.out.f.at1 j (by omega);have HS:=hid (HX.out.row ((Below.refl _ _).alloc (Nat.le_refl _) _) (PB.new wr 1 (fun _=>F j) 26) (Nat.le_refl _));clear HX;go_wp2_with fail;generalize wr.heap.size=S at *
     go_loopw [8] (fun x wr=>∃ (i:Nat) (p:PQ),1≤i∧i≤j+1∧x=.int .i64 i∧p=lsQ F G (quL F G j) j (i-1)∧MS w B D S 1 F G (fun _=>p) (quL F G j) wr) (fun x _=>j+1-(intOf x).toNat)
     case atStart=>exact ⟨1,F j,by omega,by omega,rfl,rfl,HS.out⟩
     case round=>
      clear HS a0 a1;obtain ⟨i,⟨r1,r2⟩,h1,hi9,rfl,hq,hx⟩:=hrel;have HX:=hid hx;clear hx;have HQ:=hid hq;clear hq;by_cases hli:i≤j
      ·have hliI:(i:Int)≤j:=by omega
       have hli9:(i:Int)<9:=by omega
       have e1:(j:Int)-(i:Int)=((j-i:Nat):Int):=by omega
       have e2:((j-i:Nat):Int)<9:=by omega
       have e3:IntKind.i64.wrap ((j-i:Nat):Int)=((j-i:Nat):Int):=IntWalk.i64_in _ (by omega);have b0:=HX.out.g.at0 i (by omega);have b1:=HX.out.g.at1 i (by omega);have d0:=HX.out.m.at0 (j-i) (by omega);have d1:=HX.out.m.at1 (j-i) (by omega);have r0:=HX.out.t.at0 0 (by decide);have r3:=HX.out.t.at1 0 (by decide);simp only [Nat.zero_mul,Nat.zero_add] at r0 r3;have lS:S<wr.heap.size:=HX.out.t.lt;have lG:B+1<wr.heap.size:=HX.out.g.lt;have lD:D<wr.heap.size:=HX.out.m.lt;go_wp2_with fail;refine wL [(0,3),(1,1),(2,1),(3,1),(4,3),(5,1),(6,1),(7,1),(8,1),(9,1),(10,3),(11,0),(12,0),(13,0)] (fun W=>Below wr.heap.size wr W) (by kernel_rfl) (by kernel_rfl) (fun _ _ d _ _ h=>by cases d<;>exact h) ((Below.refl _ _).drew) ?_;intro Z hZ hbZ;clear hZ;refine sV (v:=iv r1 r2) rfl rfl (fun wk hwk=>?_) ?_
       ·rw [← (zW hwk).1 _ _ lS] at r0 r3;unfold iv;go_simp
       iterate 3
        first
         | refine sT (fun K hK=>?_)
         | refine sU (fun K hK=>?_)
        go_simp;refine hK _ ?_;clear hK K
       refine sV (v:=iv (G i).1 (G i).2) rfl rfl (fun wk hwk=>?_) ?_
       ·rw [← (zW hwk).1 _ _ lG] at b0 b1;unfold iv;go_simp
       iterate 5
        first
         | refine sT (fun K hK=>?_)
         | refine sU (fun K hK=>?_)
        go_simp;refine hK _ ?_;clear hK K
       refine sV (v:=iv (quL F G j (j-i)).1 (quL F G j (j-i)).2) rfl rfl (fun wk hwk=>?_) ?_
       ·rw [← (zW hwk).1 _ _ lD] at d0 d1;unfold iv;go_simp
       refine uX (fun K hK=>?_);go_simp;refine (uMul (G i) (quL F G j (j-i)) _).mono ?_;rintro e w1 ⟨rfl,hc1⟩;have hb1:=hbZ.trans (hc1.mono hbZ.size);refine hK _ _ (fun h=>Bool.noConfusion (Eq.trans (Eq.symm (by kernel_rfl:_=false)) h)) (fun _=>hb1) ?_;clear hK K;refine uX (fun K hK=>?_);go_simp;refine (uSub (r1,r2) (mulQ (G i) (quL F G j (j-i))) _).mono ?_;rintro e w2 ⟨rfl,hc2⟩;have hb2:=hb1.trans (hc2.mono hb1.size);refine hK _ _ (fun h=>Bool.noConfusion (Eq.trans (Eq.symm (by kernel_rfl:_=false)) h)) (fun _=>hb2) ?_;clear hK K;clear r0 r3 b0 b1 d0 d1;have HN:=hid (show subQ (r1,r2) (mulQ (G i) (quL F G j (j-i)))=lsQ F G (quL F G j) j (i+1-1) by rw [HQ.out,show i+1-1=i-1+1 by omega,lsQ,show i-1+1=i by omega]);have HM2:=hid (HX.out.below hb2);have s0:=HM2.out.t.at0 0 (by decide);have s1:=HM2.out.t.at1 0 (by decide);have s2:=HM2.out.t.free 0;have s3:=HM2.out.t.free 1;simp only [Nat.zero_mul,Nat.zero_add] at s0 s1;have HS:=hid (HM2.out.put (subQ (r1,r2) (mulQ (G i) (quL F G j (j-i)))));clear hbZ HM2 HX HQ lS lG lD;generalize subQ (r1,r2) (mulQ (G i) (quL F G j (j-i)))=q at *;unfold iv;refine uX (fun K hK=>?_);go_simp;refine hK _ _ (fun h=>Bool.noConfusion (Eq.trans (Eq.symm (by kernel_rfl:_=false)) h)) (fun h=>Bool.noConfusion (Eq.trans (Eq.symm (by kernel_rfl:_=false)) h)) ?_;clear hK K;refine rE ?_;go_wp2_with fail
       go_roundw
       case rel=>exact ⟨i+1,q,by omega,by omega,by go_num,HN.out,HS.out⟩
       case measure=>simp [intOf]; omega
      ·obtain rfl:i=j+1:=by omega
       have r0:=HX.out.t.at0 0 (by decide);have r3:=HX.out.t.at1 0 (by decide);have b0:=HX.out.g.at0 0 (by decide);have b1:=HX.out.g.at1 0 (by decide);simp only [Nat.zero_mul,Nat.zero_add] at r0 r3 b0 b1;have HN:=hid (show quL F G (j+1)=vM (quL F G j) j (divQ (r1,r2) (G 0)) by rw [show (r1,r2)=_ from HQ.out]; rfl);go_wp2_with fail;refine (uDiv (r1,r2) (G 0) _).mono ?_;rintro e w4 ⟨rfl,hc4⟩;have HM2:=hid (HX.out.drop.below hc4);have s0:=HM2.out.m.at0 j (by omega);have s1:=HM2.out.m.at1 j (by omega);have s2:=HM2.out.m.free (j*2);have s3:=HM2.out.m.free (j*2+1);have HS:=hid (HM2.out.setM (k:=j) (by omega) (divQ (r1,r2) (G 0)));rw [← HN.out] at HS;clear HX HQ HM2 hc4 r0 r3 b0 b1 HN;generalize divQ (r1,r2) (G 0)=q at *;unfold iv;go_wp2_with fail
       go_roundw
       case rel=>exact ⟨j+1,by omega,by go_num,HS.out⟩
       case measure=>simp [intOf]; omega
    ·obtain rfl:j=9:=by omega
     have lF:B<wr.heap.size:=HX.out.f.lt;have lG:B+1<wr.heap.size:=HX.out.g.lt;have lD:D<wr.heap.size:=HX.out.m.lt;go_upto_region 13 with fail
     refine wL [(0,3),(1,3),(2,3),(6,3),(3,0),(4,0),(5,0),(7,0),(8,0),(9,1),(10,0)] (fun W=>Below wr.heap.size wr W) (by kernel_rfl) (by kernel_rfl) (fun _ _ d _ _ h=>by cases d<;>exact h) ((Below.refl _ _).drew) ?_;intro Z hZ hbZ;clear hZ;refine sV (v:=modV F) rfl rfl (fun wk hwk=>exec_loadM _ rfl rfl ((HX.out.f).below hwk lF)) ?_;refine sV (v:=modV G) rfl rfl (fun wk hwk=>exec_loadM _ rfl rfl ((HX.out.g).below hwk lG)) ?_;refine sV (v:=modV (quL F G 9)) rfl rfl (fun wk hwk=>exec_loadM _ rfl rfl ((HX.out.m).below hwk lD)) ?_;refine sV (v:=modV G) rfl rfl (fun wk hwk=>exec_loadM _ rfl rfl ((HX.out.g).below hwk lG)) ?_;refine uX (fun K hK=>?_);go_simp;refine (rmul_tells G (quL F G 9) _).mono ?_;rintro e w1 ⟨rfl,hc1⟩;have hb1:=hbZ.trans (hc1.mono hbZ.size);refine hK _ _ (fun h=>Bool.noConfusion (Eq.trans (Eq.symm (by kernel_rfl:_=false)) h)) (fun _=>hb1) ?_;clear hK K;refine uX (fun K hK=>?_);go_simp;refine (rsubM_tells F (mulM G (quL F G 9)) _).mono ?_;rintro e w2 ⟨rfl,hc2⟩;have hb2:=hb1.trans (hc2.mono hb1.size);refine hK _ _ (fun h=>Bool.noConfusion (Eq.trans (Eq.symm (by kernel_rfl:_=false)) h)) (fun _=>hb2) ?_;clear hK K;refine uX (fun K hK=>?_);go_simp;refine (rrange_tells (pairM subQ F (mulM G (quL F G 9))) _).mono ?_;rintro e w3 ⟨rfl,hc3⟩;have hb3:=hb2.trans (hc3.mono hb2.size);refine hK _ _ (fun h=>Bool.noConfusion (Eq.trans (Eq.symm (by kernel_rfl:_=false)) h)) (fun _=>hb3) ?_;clear hK K;refine uX (fun K hK=>?_);go_simp;refine (rrange_tells G _).mono ?_;rintro e w4 ⟨rfl,hc4⟩;have hb4:=hb3.trans (hc4.mono hb3.size);refine hK _ _ (fun h=>Bool.noConfusion (Eq.trans (Eq.symm (by kernel_rfl:_=false)) h)) (fun _=>hb4) ?_;clear hK K;refine uX (fun K hK=>?_);go_simp;refine (uDiv (rngQ (pairM subQ F (mulM G (quL F G 9)))) (rngQ G) _).mono ?_;rintro e w5 ⟨rfl,hc5⟩;have hb5:=hb4.trans (hc5.mono hb4.size);refine hK _ _ (fun h=>Bool.noConfusion (Eq.trans (Eq.symm (by kernel_rfl:_=false)) h)) (fun _=>hb5) ?_;clear hK K
     iterate 1
      first
       | refine sT (fun K hK=>?_)
       | refine sU (fun K hK=>?_)
      go_simp;refine hK _ ?_;clear hK K
     have HM2:=hid (HX.out.below hb5);have s0:=HM2.out.m.at0 9 (by decide);have s1:=HM2.out.m.at1 9 (by decide);have s2:=HM2.out.m.free 18;have s3:=HM2.out.m.free 19;have HS:=hid (HM2.out.setM (k:=9) (by decide) (divQ (rngQ (pairM subQ F (mulM G (quL F G 9)))) (rngQ G)));simp only [show 9*2=18 from rfl,show 18+1=19 from rfl] at s0 s1 HS;clear hbZ HM2 HX lF lG lD;generalize vM (quL F G 9) 9 (divQ (rngQ (pairM subQ F (mulM G (quL F G 9)))) (rngQ G))=M at *;generalize divQ (rngQ (pairM subQ F (mulM G (quL F G 9)))) (rngQ G)=q at *;unfold iv;refine uX (fun K hK=>?_);go_simp;refine hK _ _ (fun h=>Bool.noConfusion (Eq.trans (Eq.symm (by kernel_rfl:_=false)) h)) (fun h=>Bool.noConfusion (Eq.trans (Eq.symm (by kernel_rfl:_=false)) h)) ?_;clear hK K;refine rE ?_;clear s0 s1 s2 s3;go_upto_region 14 with fail
     generalize ((_:World).setCell ⟨D,18,none⟩ (.float .f64 q.1)).setCell ⟨D,19,none⟩ (.float .f64 q.2)=wy at *;go_wp2_with (first | (refine wpList_loadM rfl _ rfl rfl HS.out.m ?_) | (refine wpList_storeM rfl _ _ rfl M rfl rfl HS.out.r ?_) | fail)
     intro w4 hr4 hb4 hs4;have hb5:=HS.out.b.trans (hb4.mono (by omega));clear hb4 HS;go_wp2_with fail;exact ret_mod _ Try.results22 rfl hr4 rfl ⟨by rw [← hA],by first | exact hb5 | (rw [hB]; exact hb5)⟩
end Go.Proofs.Ytgnledamhjbafaa
