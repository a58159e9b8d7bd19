/-
  Polynomials with what is left over: added, taken away, made of numbers, walked on both sides.
-/
import Derived.Test.YtgnledamhjbafaaQo
namespace Go.Proofs.Ytgnledamhjbafaa
open Go.RowKit
open Ieee (double)
open Lib
attribute [local go_sem] zf ze zh zd zu zt zw zx zy zA zj zk zm zn zo zF yd zU zG xq
theorem zeroM (W:World):PB (W.alloc (.cells #[.float .f64 0,.float .f64 0,.float .f64 0,.float .f64 0,.float .f64 0,.float .f64 0,.float .f64 0,.float .f64 0,.float .f64 0,.float .f64 0,.float .f64 0,.float .f64 0,.float .f64 0,.float .f64 0,.float .f64 0,.float .f64 0,.float .f64 0,.float .f64 0,.float .f64 0,.float .f64 0] 29)) W.heap.size 10 (fun _=>(0,0)):=PB.new W 10 (fun _=>(0,0)) 29
theorem wpList_storeM {ops:Array Oper} {rest:List Oper} {o:Oper} {a:Act} {w:World} {Q:Exit→Act→World→Prop} (hg:o.guard=none) (x y:Operand) (ho:o.op=.store 29 x y) {b:Nat} {F:Nat→PQ} (G:Nat→PQ) (hx:a.eval x=.pointer (some ⟨b,0,none⟩)) (hy:a.eval y=.agg (clQ G 10).toArray) (hp:PB w b 10 F)
  (h:∀ w',PB w' b 10 G→Below b w w'→w'.heap.size=w.heap.size→wpList Try.prog ops Q rest (a.put o.dst undef) w'):wpList Try.prog ops Q (o :: rest) a w:=by
 refine wpList_store_mid hg 29 x y ho b 0 (clQ G 10).toArray hx hy ?_ ?_ (all_oneCell_toArray (clQ_one G 10)) ?_
 ·rw [List.size_toArray,clQ_len]; exact hp.there
 ·rw [List.size_toArray,clQ_len]; exact infoM
 ·obtain ⟨h1,h2⟩:=hp.put G;exact h _ h1 h2 (setCells_size _ _ _)
theorem wpList_loadM {ops:Array Oper} {rest:List Oper} {o:Oper} {a:Act} {w:World} {Q:Exit→Act→World→Prop} (hg:o.guard=none) (x:Operand) (ho:o.op=.load 29 x) {b:Nat} {F:Nat→PQ} (hx:a.eval x=.pointer (some ⟨b,0,none⟩)) (hp:PB w b 10 F)
  (h:wpList Try.prog ops Q rest (a.put o.dst (.agg (clQ F 10).toArray)) w):wpList Try.prog ops Q (o :: rest) a w:=by
 obtain ⟨d,hu,hd⟩:=modT;exact wpList_load_mid hg 29 x ho b 0 hx (clQ F 10) d hp.range hu hd (by rw [clQ_len]; exact infoM) h
theorem begin2 (F G:Nat→PQ) (w:World):PB (((w.alloc (.cells (clQ F 10).toArray 29)).alloc (.cells (clQ G 10).toArray 29)).alloc (.cells #[.float .f64 0,.float .f64 0,.float .f64 0,.float .f64 0,.float .f64 0,.float .f64 0,.float .f64 0,.float .f64 0,.float .f64 0,.float .f64 0,.float .f64 0,.float .f64 0,.float .f64 0,.float .f64 0,.float .f64 0,.float .f64 0,.float .f64 0,.float .f64 0,.float .f64 0,.float .f64 0] 29)) w.heap.size 10 F ∧
  PB (((w.alloc (.cells (clQ F 10).toArray 29)).alloc (.cells (clQ G 10).toArray 29)).alloc (.cells #[.float .f64 0,.float .f64 0,.float .f64 0,.float .f64 0,.float .f64 0,.float .f64 0,.float .f64 0,.float .f64 0,.float .f64 0,.float .f64 0,.float .f64 0,.float .f64 0,.float .f64 0,.float .f64 0,.float .f64 0,.float .f64 0,.float .f64 0,.float .f64 0,.float .f64 0,.float .f64 0] 29)) (w.heap.size+1) 10 G ∧
  PB (((w.alloc (.cells (clQ F 10).toArray 29)).alloc (.cells (clQ G 10).toArray 29)).alloc (.cells #[.float .f64 0,.float .f64 0,.float .f64 0,.float .f64 0,.float .f64 0,.float .f64 0,.float .f64 0,.float .f64 0,.float .f64 0,.float .f64 0,.float .f64 0,.float .f64 0,.float .f64 0,.float .f64 0,.float .f64 0,.float .f64 0,.float .f64 0,.float .f64 0,.float .f64 0,.float .f64 0] 29)) (w.heap.size+2) 10 (fun _=>(0,0)) ∧
  (((w.alloc (.cells (clQ F 10).toArray 29)).alloc (.cells (clQ G 10).toArray 29)).alloc (.cells #[.float .f64 0,.float .f64 0,.float .f64 0,.float .f64 0,.float .f64 0,.float .f64 0,.float .f64 0,.float .f64 0,.float .f64 0,.float .f64 0,.float .f64 0,.float .f64 0,.float .f64 0,.float .f64 0,.float .f64 0,.float .f64 0,.float .f64 0,.float .f64 0,.float .f64 0,.float .f64 0] 29)).heap.size=w.heap.size+3 ∧
  Below w.heap.size w (((w.alloc (.cells (clQ F 10).toArray 29)).alloc (.cells (clQ G 10).toArray 29)).alloc (.cells #[.float .f64 0,.float .f64 0,.float .f64 0,.float .f64 0,.float .f64 0,.float .f64 0,.float .f64 0,.float .f64 0,.float .f64 0,.float .f64 0,.float .f64 0,.float .f64 0,.float .f64 0,.float .f64 0,.float .f64 0,.float .f64 0,.float .f64 0,.float .f64 0,.float .f64 0,.float .f64 0] 29)):=by
 obtain ⟨-,-,-,x4,x5⟩:=al3 w (.cells (clQ F 10).toArray 29) (.cells (clQ G 10).toArray 29) (.cells #[.float .f64 0,.float .f64 0,.float .f64 0,.float .f64 0,.float .f64 0,.float .f64 0,.float .f64 0,.float .f64 0,.float .f64 0,.float .f64 0,.float .f64 0,.float .f64 0,.float .f64 0,.float .f64 0,.float .f64 0,.float .f64 0,.float .f64 0,.float .f64 0,.float .f64 0,.float .f64 0] 29);have HP:=(PB.new w 10 F 29).below (B:=w.heap.size+1) (w':=((w.alloc (.cells (clQ F 10).toArray 29)).alloc (.cells (clQ G 10).toArray 29)).alloc (.cells #[.float .f64 0,.float .f64 0,.float .f64 0,.float .f64 0,.float .f64 0,.float .f64 0,.float .f64 0,.float .f64 0,.float .f64 0,.float .f64 0,.float .f64 0,.float .f64 0,.float .f64 0,.float .f64 0,.float .f64 0,.float .f64 0,.float .f64 0,.float .f64 0,.float .f64 0,.float .f64 0] 29)) (((Below.refl _ _).alloc (by simp) _).alloc (by simp) _) (by simp);have HQ:=(PB.new (w.alloc (.cells (clQ F 10).toArray 29)) 10 G 29).below (B:=w.heap.size+2) (w':=((w.alloc (.cells (clQ F 10).toArray 29)).alloc (.cells (clQ G 10).toArray 29)).alloc (.cells #[.float .f64 0,.float .f64 0,.float .f64 0,.float .f64 0,.float .f64 0,.float .f64 0,.float .f64 0,.float .f64 0,.float .f64 0,.float .f64 0,.float .f64 0,.float .f64 0,.float .f64 0,.float .f64 0,.float .f64 0,.float .f64 0,.float .f64 0,.float .f64 0,.float .f64 0,.float .f64 0] 29)) ((Below.refl _ _).alloc (by simp) _) (by simp);have HR:=zeroM ((w.alloc (.cells (clQ F 10).toArray 29)).alloc (.cells (clQ G 10).toArray 29));rw [show (w.alloc (.cells (clQ F 10).toArray 29)).heap.size=w.heap.size+1 by simp] at HQ;rw [show ((w.alloc (.cells (clQ F 10).toArray 29)).alloc (.cells (clQ G 10).toArray 29)).heap.size=w.heap.size+2 by simp] at HR;exact ⟨HP,HQ,HR,x4,x5⟩
def eachS (g:PQ→PQ→PQ) (F G:Nat→PQ) (j k:Nat):PQ:=if k<j then g (F k) (G k) else if k=9 then g (F 9) (G 9) else (0,0)
set_option maxRecDepth 100000
set_option maxHeartbeats 16000000
theorem each_tells (fn:Nat) (g:PQ→PQ→PQ) (hf:∀ x y W,(callFunc fn #[x,y]).run Try.prog W=.ok (.enter fn #[x,y]) W) (hc:∀ x y W,Calls Try.prog fn #[iv x.1 x.2,iv y.1 y.2] W (wh (iv (g x y).1 (g x y).2) W)) (F G:Nat→PQ) (w:World) :
  Calls Try.prog 41 #[modV F,modV G,.func (.func fn) #[] #[]] w (wh (modV (pairM g F G)) w):=by
 have AL:=begin2 F G w;have HC:=hid hc;clear hc;unfold modV;go_enter Try.func41,Try.ntmps41;go_upto_region 1 with fail
 generalize ((w.alloc (.cells (clQ F 10).toArray 29)).alloc (.cells (clQ G 10).toArray 29)).alloc (.cells #[.float .f64 0,.float .f64 0,.float .f64 0,.float .f64 0,.float .f64 0,.float .f64 0,.float .f64 0,.float .f64 0,.float .f64 0,.float .f64 0,.float .f64 0,.float .f64 0,.float .f64 0,.float .f64 0,.float .f64 0,.float .f64 0,.float .f64 0,.float .f64 0,.float .f64 0,.float .f64 0] 29)=X at *;generalize hB:w.heap.size=B at *;obtain ⟨HP,HQ,HR,x4,x5⟩:=AL;have a0:=HP.at0 9 (by decide);have a1:=HP.at1 9 (by decide);have b0:=HQ.at0 9 (by decide);have b1:=HQ.at1 9 (by decide);have HX:=hid (show PB X B 10 F∧PB X (B+1) 10 G∧PB X (B+2) 10 (fun _=>(0,0))∧Below B w X from ⟨HP,HQ,HR,x5⟩);simp only [show 9*2=18 from rfl,show 18+1=19 from rfl] at a0 a1 b0 b1;clear HP HQ HR x5;go_wp2_with fail;refine (HC.out (F 9) (G 9) _).mono ?_;rintro e w1 ⟨rfl,hc1⟩;have HX1:=hid (show PB w1 B 10 F∧PB w1 (B+1) 10 G∧PB w1 (B+2) 10 (fun _=>(0,0))∧Below B w w1 from ⟨HX.out.1.below hc1 (by omega),HX.out.2.1.below hc1 (by omega),HX.out.2.2.1.below hc1 (by omega),HX.out.2.2.2.trans (hc1.mono (by omega))⟩);have hs1:B+3≤w1.heap.size:=by have:=hc1.size; omega
 clear a0 a1 b0 b1 hc1 HX x4;unfold iv;go_wp2_with (first | (refine wpList_storeM rfl _ _ rfl (vM (fun _=>(0,0)) 9 (g (F 9) (G 9))) rfl rfl (zeroM w1) ?_) | fail)
 intro w2 hm hb2 hs2
 have HX2:=hid (show PB w2 B 10 F∧PB w2 (B+1) 10 G∧PB w2 (B+2) 10 (fun _=>(0,0))∧Below B w w2 from by
  have hb:Below w1.heap.size w1 w2:=((Below.refl _ _).alloc (Nat.le_refl _) _).trans hb2;exact ⟨HX1.out.1.below hb (by omega),HX1.out.2.1.below hb (by omega),HX1.out.2.2.1.below hb (by omega),HX1.out.2.2.2.trans (hb.mono (by omega))⟩)
 have hs:w2.heap.size=w1.heap.size+1:=hs2.trans (by simp);generalize w1.heap.size=M at *
 have HM:=hid (hm.congr (G:=eachS g F G 0) (fun k hk=>(by
  unfold eachS;by_cases e:k=9
  ·subst e; rw [yp,if_neg (by omega),if_pos rfl]
  ·rw [zY _ _ e,if_neg (by omega),if_neg e])))
 clear HX1 hm hb2 hs2;go_wp2_with fail
 go_loopw [16] (fun i wr=>∃ j:Nat,j≤9∧i=.int .i64 j∧PB wr M 10 (eachS g F G j)∧Below M w2 wr) (fun i _=>9-(intOf i).toNat)
 case atStart=>exact ⟨0,by omega,rfl,HM.out,Below.refl _ _⟩
 case round=>
  clear HM;obtain ⟨j,h9,rfl,hm,hb⟩:=hrel;have hws:=hb.size;by_cases hlt:j<9
  ·have hl9:(j:Int)<9:=by omega
   have hF:=HX2.out.1.below hb (by omega);have hG:=HX2.out.2.1.below hb (by omega);have a0:=hF.at0 j (by omega);have a1:=hF.at1 j (by omega);have b0:=hG.at0 j (by omega);have b1:=hG.at1 j (by omega);have HM:=hid hm;have HB:=hid hb;have lF:B<wr.heap.size:=by omega
   have lG:B+1<wr.heap.size:=by omega
   have lM:M<wr.heap.size:=by omega
   clear hF hG hm hb;go_wp2_with fail;refine wL [(0,1),(1,1),(2,1),(3,1),(4,1),(5,3),(6,1),(7,1),(8,1),(9,3),(11,1),(10,0),(12,1),(13,0)] (fun W=>Below wr.heap.size wr W) (by kernel_rfl) (by kernel_rfl) (fun _ _ d _ _ h=>by cases d<;>exact h) ((Below.refl _ _).drew) ?_;intro Z hZ hbZ;clear hZ
   iterate 5
    first
     | refine sT (fun K hK=>?_)
     | refine sU (fun K hK=>?_)
    go_simp;refine hK _ ?_;clear hK K
   refine sV (v:=iv (F j).1 (F j).2) rfl rfl (fun wk hwk=>?_) ?_
   ·rw [← (zW hwk).1 _ _ lF] at a0 a1;unfold iv;go_simp
   iterate 3
    first
     | refine sT (fun K hK=>?_)
     | refine sU (fun K hK=>?_)
    go_simp;refine hK _ ?_;clear hK K
   refine sV (v:=iv (G j).1 (G j).2) rfl rfl (fun wk hwk=>?_) ?_
   ·rw [← (zW hwk).1 _ _ lG] at b0 b1;unfold iv;go_simp
   iterate 1
    first
     | refine sT (fun K hK=>?_)
     | refine sU (fun K hK=>?_)
    go_simp;refine hK _ ?_;clear hK K
   refine uX (fun K hK=>?_);go_simp;refine (HC.out (F j) (G j) _).mono ?_;rintro e w1 ⟨rfl,hc1⟩;have hb1:=hbZ.trans (hc1.mono hbZ.size);refine hK _ _ (fun h=>Bool.noConfusion (Eq.trans (Eq.symm (by kernel_rfl:_=false)) h)) (fun _=>hb1) ?_;clear hK K
   iterate 1
    first
     | refine sT (fun K hK=>?_)
     | refine sU (fun K hK=>?_)
    go_simp;refine hK _ ?_;clear hK K
   have hM1:=HM.out.below hb1 lM;have s0:=hM1.at0 j (by omega);have s1:=hM1.at1 j (by omega);have s2:=hM1.free (j*2);have s3:=hM1.free (j*2+1);have HS:=hid (hM1.set (k:=j) (by omega) (g (F j) (G j)));have HW:=hid (((HB.out.trans (hb1.mono (by omega))).setCell (p:=⟨M,j*2,none⟩) (Nat.le_refl _) (.float .f64 (g (F j) (G j)).1)).setCell (p:=⟨M,j*2+1,none⟩) (Nat.le_refl _) (.float .f64 (g (F j) (G j)).2));clear hbZ hM1 HM HB a0 a1 b0 b1
   have HN:=hid (fun k (hk:k<10)=>(by
    unfold eachS;by_cases e:k=j
    ·subst e; rw [yp,if_pos (by omega)]
    ·rw [zY _ _ e];by_cases e2:k<j
     ·rw [if_pos e2,if_pos (by omega)]
     ·rw [if_neg e2,if_neg (show ¬ k<j+1 by omega)]:vM (eachS g F G j) j (g (F j) (G j)) k=eachS g F G (j+1) k))
   unfold iv;generalize g (F j) (G j)=q at *;refine uX (fun K hK=>?_);go_simp;refine hK _ _ (fun h=>Bool.noConfusion (Eq.trans (Eq.symm (by kernel_rfl:_=false)) h)) (fun h=>Bool.noConfusion (Eq.trans (Eq.symm (by kernel_rfl:_=false)) h)) ?_;clear hK K;refine rE ?_;go_wp2_with fail
   go_roundw
   case rel=>exact ⟨j+1,by omega,by go_num,HS.out.congr HN.out,HW.out⟩
   case measure=>simp [intOf]; omega
  ·obtain rfl:j=9:=by omega
   have HM:=hid (hm.congr (G:=pairM g F G) (fun k hk=>(by
    unfold eachS pairM;by_cases e:k<9
    ·rw [if_pos e]
    ·obtain rfl:k=9:=by omega
     rw [if_neg (by omega),if_pos rfl])))
   have HR:=hid (HX2.out.2.2.1.below hb (by omega));have HB:=hid (HX2.out.2.2.2.trans (hb.mono (by omega)));clear hm hb HX2 HC;generalize pairM g F G=H at *;go_wp2_with (first | (refine wpList_loadM rfl _ rfl rfl HM.out ?_) | (refine wpList_storeM rfl _ _ rfl H rfl rfl HR.out ?_) | fail)
   intro w4 hr4 hb4 hs4;have hb5:=HB.out.trans (hb4.mono (by omega));clear hb4 HB HR HM;go_wp2_with fail;exact ret_mod _ Try.results41 rfl hr4 rfl ⟨rfl,by first | exact hb5 | (rw [hB]; exact hb5)⟩
theorem add_tells (F G:Nat→PQ) (w:World):Calls Try.prog 15 #[modV F,modV G] w (wh (modV (pairM addQ F G)) w):=by
 have AL:=begin2 F G w;have EA:=hid (fun W=>each_tells 42 addQ (fun _ _ _=>rfl) (fun x y W=>tAdd x y W) F G W);unfold modV at *;go_enter Try.func15,Try.ntmps15;go_upto_region 1 with fail
 generalize ((w.alloc (.cells (clQ F 10).toArray 29)).alloc (.cells (clQ G 10).toArray 29)).alloc (.cells #[.float .f64 0,.float .f64 0,.float .f64 0,.float .f64 0,.float .f64 0,.float .f64 0,.float .f64 0,.float .f64 0,.float .f64 0,.float .f64 0,.float .f64 0,.float .f64 0,.float .f64 0,.float .f64 0,.float .f64 0,.float .f64 0,.float .f64 0,.float .f64 0,.float .f64 0,.float .f64 0] 29)=X at *;generalize hB:w.heap.size=B at *;obtain ⟨HP,HQ,HR,x4,x5⟩:=AL;have HX:=hid (show PB X B 10 F∧PB X (B+1) 10 G∧PB X (B+2) 10 (fun _=>(0,0))∧Below B w X from ⟨HP,HQ,HR,x5⟩);clear HP HQ HR x5;generalize pairM addQ F G=H at *;go_wp2_with (first | (refine wpList_loadM rfl _ rfl rfl HX.out.1 ?_) | (refine wpList_loadM rfl _ rfl rfl HX.out.2.1 ?_) | fail)
 refine (EA.out _).mono ?_;rintro e w1 ⟨rfl,hc1⟩;have HR:=hid (HX.out.2.2.1.below hc1 (by omega));have HB:=hid (HX.out.2.2.2.trans (hc1.mono (by omega)));clear hc1 EA HX;go_wp2_with (first | (refine wpList_storeM rfl _ _ rfl H rfl rfl HR.out ?_) | fail)
 intro w4 hr4 hb4 hs4;have hb5:=HB.out.trans (hb4.mono (by omega));clear hb4 HB HR;go_wp2_with fail;exact ret_mod _ Try.results15 rfl hr4 rfl ⟨rfl,by first | exact hb5 | (rw [hB]; exact hb5)⟩
theorem sub_tells (F G:Nat→PQ) (w:World):Calls Try.prog 17 #[modV F,modV G] w (wh (modV (pairM subQ F G)) w):=by
 have AL:=begin2 F G w;have EA:=hid (fun W=>each_tells 44 subQ (fun _ _ _=>rfl) (fun x y W=>tSub x y W) F G W);unfold modV at *;go_enter Try.func17,Try.ntmps17;go_upto_region 1 with fail
 generalize ((w.alloc (.cells (clQ F 10).toArray 29)).alloc (.cells (clQ G 10).toArray 29)).alloc (.cells #[.float .f64 0,.float .f64 0,.float .f64 0,.float .f64 0,.float .f64 0,.float .f64 0,.float .f64 0,.float .f64 0,.float .f64 0,.float .f64 0,.float .f64 0,.float .f64 0,.float .f64 0,.float .f64 0,.float .f64 0,.float .f64 0,.float .f64 0,.float .f64 0,.float .f64 0,.float .f64 0] 29)=X at *;generalize hB:w.heap.size=B at *;obtain ⟨HP,HQ,HR,x4,x5⟩:=AL;have HX:=hid (show PB X B 10 F∧PB X (B+1) 10 G∧PB X (B+2) 10 (fun _=>(0,0))∧Below B w X from ⟨HP,HQ,HR,x5⟩);clear HP HQ HR x5;generalize pairM subQ F G=H at *;go_wp2_with (first | (refine wpList_loadM rfl _ rfl rfl HX.out.1 ?_) | (refine wpList_loadM rfl _ rfl rfl HX.out.2.1 ?_) | fail)
 refine (EA.out _).mono ?_;rintro e w1 ⟨rfl,hc1⟩;have HR:=hid (HX.out.2.2.1.below hc1 (by omega));have HB:=hid (HX.out.2.2.2.trans (hc1.mono (by omega)));clear hc1 EA HX;go_wp2_with (first | (refine wpList_storeM rfl _ _ rfl H rfl rfl HR.out ?_) | fail)
 intro w4 hr4 hb4 hs4;have hb5:=HB.out.trans (hb4.mono (by omega));clear hb4 HB HR;go_wp2_with fail;exact ret_mod _ Try.results17 rfl hr4 rfl ⟨rfl,by first | exact hb5 | (rw [hB]; exact hb5)⟩
def inS (g:PQ→PQ→PQ) (F G:Nat→PQ) (j k:Nat):PQ:=if k<j then g (F k) (G k) else F k
theorem raddM_tells (F G:Nat→PQ) (w:World):Calls Try.prog 16 #[modV F,modV G] w (wh (modV (pairM addQ F G)) w):=by
 have AL:=begin2 F G w;unfold modV at *;go_enter Try.func16,Try.ntmps16;go_upto_region 1 with fail
 generalize ((w.alloc (.cells (clQ F 10).toArray 29)).alloc (.cells (clQ G 10).toArray 29)).alloc (.cells #[.float .f64 0,.float .f64 0,.float .f64 0,.float .f64 0,.float .f64 0,.float .f64 0,.float .f64 0,.float .f64 0,.float .f64 0,.float .f64 0,.float .f64 0,.float .f64 0,.float .f64 0,.float .f64 0,.float .f64 0,.float .f64 0,.float .f64 0,.float .f64 0,.float .f64 0,.float .f64 0] 29)=X at *;generalize hB:w.heap.size=B at *;obtain ⟨HP,HQ,HR,x4,x5⟩:=AL;have HX:=hid (show Below B w X∧PB X (B+1) 10 G∧PB X (B+2) 10 (fun _=>(0,0)) from ⟨x5,HQ,HR⟩);have HM:=hid (HP.congr (G:=inS addQ F G 0) (fun k hk=>by unfold inS; rw [if_neg (by omega)]));clear HP HQ HR x5;go_wp2_with fail
 go_loopw [5] (fun i wr=>∃ j:Nat,j≤9∧i=.int .i64 j∧PB wr B 10 (inS addQ F G j)∧PB wr (B+1) 10 G∧PB wr (B+2) 10 (fun _=>(0,0))∧Below B w wr) (fun i _=>9-(intOf i).toNat)
 case atStart=>exact ⟨0,by omega,rfl,HM.out,HX.out.2.1,HX.out.2.2,HX.out.1⟩
 case round=>
  clear HM HX;obtain ⟨j,h9,rfl,hm,hG,hR,hb⟩:=hrel;have hws:=hb.size;by_cases hlt:j<9
  ·have hl9:(j:Int)<9:=by omega
   have hl8:(j:Int)≤8:=by omega
   have e0:inS addQ F G j j=F j:=by unfold inS; rw [if_neg (by omega)]
   have a0:=hm.at0 j (by omega);have a1:=hm.at1 j (by omega);have b0:=hG.at0 j (by omega);have b1:=hG.at1 j (by omega);rw [e0] at a0 a1;have HM:=hid hm;have HG:=hid hG;have HR:=hid hR;have HB:=hid hb;have lF:B<wr.heap.size:=hm.lt;have lG:B+1<wr.heap.size:=hG.lt;have lR:B+2<wr.heap.size:=hR.lt;clear hG hm hb hR e0;go_wp2_with fail;refine wL [(0,1),(1,1),(2,1),(3,1),(4,3),(5,1),(6,1),(7,1),(8,3),(10,1),(9,0),(11,1),(12,0)] (fun W=>Below wr.heap.size wr W) (by kernel_rfl) (by kernel_rfl) (fun _ _ d _ _ h=>by cases d<;>exact h) ((Below.refl _ _).drew) ?_;intro Z hZ hbZ;clear hZ
   iterate 4
    first
     | refine sT (fun K hK=>?_)
     | refine sU (fun K hK=>?_)
    go_simp;refine hK _ ?_;clear hK K
   refine sV (v:=iv (F j).1 (F j).2) rfl rfl (fun wk hwk=>?_) ?_
   ·rw [← (zW hwk).1 _ _ lF] at a0 a1;unfold iv;go_simp
   iterate 3
    first
     | refine sT (fun K hK=>?_)
     | refine sU (fun K hK=>?_)
    go_simp;refine hK _ ?_;clear hK K
   refine sV (v:=iv (G j).1 (G j).2) rfl rfl (fun wk hwk=>?_) ?_
   ·rw [← (zW hwk).1 _ _ lG] at b0 b1;unfold iv;go_simp
   iterate 1
    first
     | refine sT (fun K hK=>?_)
     | refine sU (fun K hK=>?_)
    go_simp;refine hK _ ?_;clear hK K
   refine uX (fun K hK=>?_);go_simp;refine (uAdd (F j) (G j) _).mono ?_;rintro e w1 ⟨rfl,hc1⟩;have hb1:=hbZ.trans (hc1.mono hbZ.size);refine hK _ _ (fun h=>Bool.noConfusion (Eq.trans (Eq.symm (by kernel_rfl:_=false)) h)) (fun _=>hb1) ?_;clear hK K
   iterate 1
    first
     | refine sT (fun K hK=>?_)
     | refine sU (fun K hK=>?_)
    go_simp;refine hK _ ?_;clear hK K
   have hM1:=HM.out.below hb1 lF;have s0:=hM1.at0 j (by omega);have s1:=hM1.at1 j (by omega);have s2:=hM1.free (j*2);have s3:=hM1.free (j*2+1);have HS:=hid (hM1.set (k:=j) (by omega) (addQ (F j) (G j)));have HW:=hid (((HB.out.trans (hb1.mono (by omega))).setCell (p:=⟨B,j*2,none⟩) (Nat.le_refl _) (.float .f64 (addQ (F j) (G j)).1)).setCell (p:=⟨B,j*2+1,none⟩) (Nat.le_refl _) (.float .f64 (addQ (F j) (G j)).2));have HG2:=hid (((HG.out.below hb1 lG).other (B:=B) (o:=j*2) (by omega) (.float .f64 (addQ (F j) (G j)).1)).other (B:=B) (o:=j*2+1) (by omega) (.float .f64 (addQ (F j) (G j)).2));have HR2:=hid (((HR.out.below hb1 lR).other (B:=B) (o:=j*2) (by omega) (.float .f64 (addQ (F j) (G j)).1)).other (B:=B) (o:=j*2+1) (by omega) (.float .f64 (addQ (F j) (G j)).2));clear hbZ hM1 HM HB HG HR a0 a1 b0 b1
   have HN:=hid (fun k (hk:k<10)=>(by
    unfold inS;by_cases e:k=j
    ·subst e; rw [yp,if_pos (by omega)]
    ·rw [zY _ _ e];by_cases e2:k<j
     ·rw [if_pos e2,if_pos (by omega)]
     ·rw [if_neg e2,if_neg (show ¬ k<j+1 by omega)]:vM (inS addQ F G j) j (addQ (F j) (G j)) k=inS addQ F G (j+1) k))
   unfold iv;generalize addQ (F j) (G j)=q at *;refine uX (fun K hK=>?_);go_simp;refine hK _ _ (fun h=>Bool.noConfusion (Eq.trans (Eq.symm (by kernel_rfl:_=false)) h)) (fun h=>Bool.noConfusion (Eq.trans (Eq.symm (by kernel_rfl:_=false)) h)) ?_;clear hK K;refine rE ?_;go_wp2_with fail
   go_roundw
   case rel=>exact ⟨j+1,by omega,by go_num,HS.out.congr HN.out,HG2.out,HR2.out,HW.out⟩
   case measure=>simp [intOf]; omega
  ·obtain rfl:j=9:=by omega
   have a0:=hm.at0 9 (by omega);have a1:=hm.at1 9 (by omega);have b0:=hG.at0 9 (by omega);have b1:=hG.at1 9 (by omega);rw [show inS addQ F G 9 9=F 9 by unfold inS; rw [if_neg (by omega)]] at a0 a1;simp only [show 9*2=18 from rfl,show 18+1=19 from rfl] at a0 a1 b0 b1;have HM:=hid hm;have HR:=hid hR;have HB:=hid hb;clear hm hb hG hR;go_wp2_with fail;refine (uAdd (F 9) (G 9) _).mono ?_;rintro e w1 ⟨rfl,hc1⟩;have hM1:=HM.out.below hc1 HM.out.lt;have hR1:=HR.out.below hc1 HR.out.lt;have s0:=hM1.at0 9 (by omega);have s1:=hM1.at1 9 (by omega);have s2:=hM1.free 18;have s3:=hM1.free 19
   have HS:=hid ((hM1.set (k:=9) (by omega) (addQ (F 9) (G 9))).congr (G:=pairM addQ F G) (fun k hk=>(by
    unfold inS pairM;by_cases e:k<9
    ·rw [zY _ _ (by omega),if_pos e]
    ·obtain rfl:k=9:=by omega
     rw [yp])))
   have HW:=hid (((HB.out.trans (hc1.mono (by omega))).setCell (p:=⟨B,9*2,none⟩) (Nat.le_refl _) (.float .f64 (addQ (F 9) (G 9)).1)).setCell (p:=⟨B,9*2+1,none⟩) (Nat.le_refl _) (.float .f64 (addQ (F 9) (G 9)).2));have HR2:=hid ((hR1.other (B:=B) (o:=9*2) (by omega) (.float .f64 (addQ (F 9) (G 9)).1)).other (B:=B) (o:=9*2+1) (by omega) (.float .f64 (addQ (F 9) (G 9)).2));simp only [show 9*2=18 from rfl,show 18+1=19 from rfl] at s0 s1 HS HW HR2;generalize pairM addQ F G=H at *;generalize addQ (F 9) (G 9)=q at *;clear hM1 hR1 HM HR HB hc1 a0 a1 b0 b1;unfold iv;go_upto_region 6 with fail
   generalize (w1.setCell ⟨B,18,none⟩ (.float .f64 q.1)).setCell ⟨B,19,none⟩ (.float .f64 q.2)=w2 at *;clear s0 s1 s2 s3;go_wp2_with (first | (refine wpList_loadM rfl _ rfl rfl HS.out ?_) | (refine wpList_storeM rfl _ _ rfl H rfl rfl HR2.out ?_) | fail)
   intro w4 hr4 hb4 hs4;have hb5:=HW.out.trans (hb4.mono (by omega));clear hb4 HW HR2 HS;go_wp2_with fail;exact ret_mod _ Try.results16 rfl hr4 rfl ⟨rfl,by first | exact hb5 | (rw [hB]; exact hb5)⟩
theorem rsubM_tells (F G:Nat→PQ) (w:World):Calls Try.prog 18 #[modV F,modV G] w (wh (modV (pairM subQ F G)) w):=by
 have AL:=begin2 F G w;unfold modV at *;go_enter Try.func18,Try.ntmps18;go_upto_region 1 with fail
 generalize ((w.alloc (.cells (clQ F 10).toArray 29)).alloc (.cells (clQ G 10).toArray 29)).alloc (.cells #[.float .f64 0,.float .f64 0,.float .f64 0,.float .f64 0,.float .f64 0,.float .f64 0,.float .f64 0,.float .f64 0,.float .f64 0,.float .f64 0,.float .f64 0,.float .f64 0,.float .f64 0,.float .f64 0,.float .f64 0,.float .f64 0,.float .f64 0,.float .f64 0,.float .f64 0,.float .f64 0] 29)=X at *;generalize hB:w.heap.size=B at *;obtain ⟨HP,HQ,HR,x4,x5⟩:=AL;have HX:=hid (show Below B w X∧PB X (B+1) 10 G∧PB X (B+2) 10 (fun _=>(0,0)) from ⟨x5,HQ,HR⟩);have HM:=hid (HP.congr (G:=inS subQ F G 0) (fun k hk=>by unfold inS; rw [if_neg (by omega)]));clear HP HQ HR x5;go_wp2_with fail
 go_loopw [5] (fun i wr=>∃ j:Nat,j≤9∧i=.int .i64 j∧PB wr B 10 (inS subQ F G j)∧PB wr (B+1) 10 G∧PB wr (B+2) 10 (fun _=>(0,0))∧Below B w wr) (fun i _=>9-(intOf i).toNat)
 case atStart=>exact ⟨0,by omega,rfl,HM.out,HX.out.2.1,HX.out.2.2,HX.out.1⟩
 case round=>
  clear HM HX;obtain ⟨j,h9,rfl,hm,hG,hR,hb⟩:=hrel;have hws:=hb.size;by_cases hlt:j<9
  ·have hl9:(j:Int)<9:=by omega
   have hl8:(j:Int)≤8:=by omega
   have e0:inS subQ F G j j=F j:=by unfold inS; rw [if_neg (by omega)]
   have a0:=hm.at0 j (by omega);have a1:=hm.at1 j (by omega);have b0:=hG.at0 j (by omega);have b1:=hG.at1 j (by omega);rw [e0] at a0 a1;have HM:=hid hm;have HG:=hid hG;have HR:=hid hR;have HB:=hid hb;have lF:B<wr.heap.size:=hm.lt;have lG:B+1<wr.heap.size:=hG.lt;have lR:B+2<wr.heap.size:=hR.lt;clear hG hm hb hR e0;go_wp2_with fail;refine wL [(0,1),(1,1),(2,1),(3,1),(4,3),(5,1),(6,1),(7,1),(8,3),(10,1),(9,0),(11,1),(12,0)] (fun W=>Below wr.heap.size wr W) (by kernel_rfl) (by kernel_rfl) (fun _ _ d _ _ h=>by cases d<;>exact h) ((Below.refl _ _).drew) ?_;intro Z hZ hbZ;clear hZ
   iterate 4
    first
     | refine sT (fun K hK=>?_)
     | refine sU (fun K hK=>?_)
    go_simp;refine hK _ ?_;clear hK K
   refine sV (v:=iv (F j).1 (F j).2) rfl rfl (fun wk hwk=>?_) ?_
   ·rw [← (zW hwk).1 _ _ lF] at a0 a1;unfold iv;go_simp
   iterate 3
    first
     | refine sT (fun K hK=>?_)
     | refine sU (fun K hK=>?_)
    go_simp;refine hK _ ?_;clear hK K
   refine sV (v:=iv (G j).1 (G j).2) rfl rfl (fun wk hwk=>?_) ?_
   ·rw [← (zW hwk).1 _ _ lG] at b0 b1;unfold iv;go_simp
   iterate 1
    first
     | refine sT (fun K hK=>?_)
     | refine sU (fun K hK=>?_)
    go_simp;refine hK _ ?_;clear hK K
   refine uX (fun K hK=>?_);go_simp;refine (uSub (F j) (G j) _).mono ?_;rintro e w1 ⟨rfl,hc1⟩;have hb1:=hbZ.trans (hc1.mono hbZ.size);refine hK _ _ (fun h=>Bool.noConfusion (Eq.trans (Eq.symm (by kernel_rfl:_=false)) h)) (fun _=>hb1) ?_;clear hK K
   iterate 1
    first
     | refine sT (fun K hK=>?_)
     | refine sU (fun K hK=>?_)
    go_simp;refine hK _ ?_;clear hK K
   have hM1:=HM.out.below hb1 lF;have s0:=hM1.at0 j (by omega);have s1:=hM1.at1 j (by omega);have s2:=hM1.free (j*2);have s3:=hM1.free (j*2+1);have HS:=hid (hM1.set (k:=j) (by omega) (subQ (F j) (G j)));have HW:=hid (((HB.out.trans (hb1.mono (by omega))).setCell (p:=⟨B,j*2,none⟩) (Nat.le_refl _) (.float .f64 (subQ (F j) (G j)).1)).setCell (p:=⟨B,j*2+1,none⟩) (Nat.le_refl _) (.float .f64 (subQ (F j) (G j)).2));have HG2:=hid (((HG.out.below hb1 lG).other (B:=B) (o:=j*2) (by omega) (.float .f64 (subQ (F j) (G j)).1)).other (B:=B) (o:=j*2+1) (by omega) (.float .f64 (subQ (F j) (G j)).2));have HR2:=hid (((HR.out.below hb1 lR).other (B:=B) (o:=j*2) (by omega) (.float .f64 (subQ (F j) (G j)).1)).other (B:=B) (o:=j*2+1) (by omega) (.float .f64 (subQ (F j) (G j)).2));clear hbZ hM1 HM HB HG HR a0 a1 b0 b1
   have HN:=hid (fun k (hk:k<10)=>(by
    unfold inS;by_cases e:k=j
    ·subst e; rw [yp,if_pos (by omega)]
    ·rw [zY _ _ e];by_cases e2:k<j
     ·rw [if_pos e2,if_pos (by omega)]
     ·rw [if_neg e2,if_neg (show ¬ k<j+1 by omega)]:vM (inS subQ F G j) j (subQ (F j) (G j)) k=inS subQ F G (j+1) k))
   unfold iv;generalize subQ (F j) (G j)=q at *;refine uX (fun K hK=>?_);go_simp;refine hK _ _ (fun h=>Bool.noConfusion (Eq.trans (Eq.symm (by kernel_rfl:_=false)) h)) (fun h=>Bool.noConfusion (Eq.trans (Eq.symm (by kernel_rfl:_=false)) h)) ?_;clear hK K;refine rE ?_;go_wp2_with fail
   go_roundw
   case rel=>exact ⟨j+1,by omega,by go_num,HS.out.congr HN.out,HG2.out,HR2.out,HW.out⟩
   case measure=>simp [intOf]; omega
  ·obtain rfl:j=9:=by omega
   have a0:=hm.at0 9 (by omega);have a1:=hm.at1 9 (by omega);have b0:=hG.at0 9 (by omega);have b1:=hG.at1 9 (by omega);rw [show inS subQ F G 9 9=F 9 by unfold inS; rw [if_neg (by omega)]] at a0 a1;simp only [show 9*2=18 from rfl,show 18+1=19 from rfl] at a0 a1 b0 b1;have HM:=hid hm;have HR:=hid hR;have HB:=hid hb;clear hm hb hG hR;go_wp2_with fail;refine (uSub (F 9) (G 9) _).mono ?_;rintro e w1 ⟨rfl,hc1⟩;have hM1:=HM.out.below hc1 HM.out.lt;have hR1:=HR.out.below hc1 HR.out.lt;have s0:=hM1.at0 9 (by omega);have s1:=hM1.at1 9 (by omega);have s2:=hM1.free 18;have s3:=hM1.free 19
   have HS:=hid ((hM1.set (k:=9) (by omega) (subQ (F 9) (G 9))).congr (G:=pairM subQ F G) (fun k hk=>(by
    unfold inS pairM;by_cases e:k<9
    ·rw [zY _ _ (by omega),if_pos e]
    ·obtain rfl:k=9:=by omega
     rw [yp])))
   have HW:=hid (((HB.out.trans (hc1.mono (by omega))).setCell (p:=⟨B,9*2,none⟩) (Nat.le_refl _) (.float .f64 (subQ (F 9) (G 9)).1)).setCell (p:=⟨B,9*2+1,none⟩) (Nat.le_refl _) (.float .f64 (subQ (F 9) (G 9)).2));have HR2:=hid ((hR1.other (B:=B) (o:=9*2) (by omega) (.float .f64 (subQ (F 9) (G 9)).1)).other (B:=B) (o:=9*2+1) (by omega) (.float .f64 (subQ (F 9) (G 9)).2));simp only [show 9*2=18 from rfl,show 18+1=19 from rfl] at s0 s1 HS HW HR2;generalize pairM subQ F G=H at *;generalize subQ (F 9) (G 9)=q at *;clear hM1 hR1 HM HR HB hc1 a0 a1 b0 b1;unfold iv;go_upto_region 6 with fail
   generalize (w1.setCell ⟨B,18,none⟩ (.float .f64 q.1)).setCell ⟨B,19,none⟩ (.float .f64 q.2)=w2 at *;clear s0 s1 s2 s3;go_wp2_with (first | (refine wpList_loadM rfl _ rfl rfl HS.out ?_) | (refine wpList_storeM rfl _ _ rfl H rfl rfl HR2.out ?_) | fail)
   intro w4 hr4 hb4 hs4;have hb5:=HW.out.trans (hb4.mono (by omega));clear hb4 HW HR2 HS;go_wp2_with fail;exact ret_mod _ Try.results18 rfl hr4 rfl ⟨rfl,by first | exact hb5 | (rw [hB]; exact hb5)⟩
end Go.Proofs.Ytgnledamhjbafaa
