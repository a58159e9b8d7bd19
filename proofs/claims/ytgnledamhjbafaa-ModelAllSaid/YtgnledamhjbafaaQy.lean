/-
  Polynomials with what is left over: two that are the same; the chapter's example.
-/
import Derived.Test.YtgnledamhjbafaaQx
namespace Go.Proofs.Ytgnledamhjbafaa
open Go.RowKit
open Ieee (double)
open Lib
attribute [local go_sem] zf ze zh zd zu zt zw zx zy zA zj zk zm zn zo zF yd zU zG xq
theorem polQ_congr {F G:Nat→PQ} {n:Nat} (h:∀ k,k≤n→F k=G k):∀ j,j≤n→polQ F j=polQ G j
 | 0,_=>h 0 (by omega)
 | j+1,hj=>by rw [polQ,polQ,polQ_congr h j (by omega),h (j+1) hj]
theorem rngQ_congr {F G:Nat→PQ} (h:∀ k,k<10→F k=G k):rngQ F=rngQ G:=by
 unfold rngQ;rw [polQ_congr (n:=8) (fun k hk=>h k (by omega)) 8 (Nat.le_refl _),h 9 (by decide)]
def eqQ (x y:PQ):Prop:=zg x.1=zg y.1∧zg x.2=zg y.2
set_option maxHeartbeats 16000000
set_option maxRecDepth 100000
theorem same_tells (F G:Nat→PQ) (h:∀ k,k<10→eqQ (F k) (G k)) (w:World):Calls Try.prog 14 #[modV F,modV G] w (wh (.bool true) w):=by
 obtain ⟨-,-,x4,x5⟩:=al2 w (.cells (clQ F 10).toArray 29) (.cells (clQ G 10).toArray 29);have HP:=(PB.new w 10 F 29).below (B:=w.heap.size+1) (w':=(w.alloc (.cells (clQ F 10).toArray 29)).alloc (.cells (clQ G 10).toArray 29)) ((Below.refl _ _).alloc (by simp) _) (by simp);have HQ:=PB.new (w.alloc (.cells (clQ F 10).toArray 29)) 10 G 29;rw [show (w.alloc (.cells (clQ F 10).toArray 29)).heap.size=w.heap.size+1 by simp] at HQ;unfold modV;go_enter Try.func14,Try.ntmps14;go_upto_region 1 with fail
 generalize (w.alloc (.cells (clQ F 10).toArray 29)).alloc (.cells (clQ G 10).toArray 29)=X at *;generalize hB:w.heap.size=B at *;have HX:=hid (show PB X B 10 F∧PB X (B+1) 10 G∧Below B w X from ⟨HP,HQ,x5⟩);clear HP HQ x5;go_wp2_with fail
 go_loopw [5] (fun x wr=>∃ j:Nat,j≤9∧x=.int .i64 j∧Below X.heap.size X wr) (fun x _=>9-(intOf x).toNat)
 case atStart=>exact ⟨0,by omega,rfl,Below.refl _ _⟩
 case round=>
  obtain ⟨j,hj9,rfl,hb⟩:=hrel;have hF:=HX.out.1.below hb (by omega);have hG:=HX.out.2.1.below hb (by omega);have lF:=hF.lt;have lG:=hG.lt;by_cases hlj:j<9
  ·have hljI:(j:Int)<9:=by omega
   have hlj8:(j:Int)≤8:=by omega
   have a0:=hF.at0 j (by omega);have a1:=hF.at1 j (by omega);have b0:=hG.at0 j (by omega);have b1:=hG.at1 j (by omega);have E:=hid (fun W=>rA (F j).1 (F j).2 (G j).1 (G j).2 W (h j (by omega)).1 (h j (by omega)).2);have HB:=hid hb;clear hF hG hb;go_wp2_with fail;refine wL [(0,1),(1,1),(2,1),(3,3),(4,1),(5,1),(6,1),(7,3),(8,0),(9,1)] (fun W=>Below wr.heap.size wr W) (by kernel_rfl) (by kernel_rfl) (fun _ _ d _ _ h=>by cases d<;>exact h) ((Below.refl _ _).drew) ?_;intro Z hZ hbZ;clear hZ
   iterate 3
    first
     | refine sT (fun K hK=>?_)
     | refine sU (fun K hK=>?_)
    go_simp;refine hK _ ?_;clear hK K
   refine sV (v:=iv (F j).1 (F j).2) rfl rfl (fun wk hwk=>?_) ?_
   ·rw [← (zW hwk).1 _ _ lF] at a0 a1;go_simp
   iterate 3
    first
     | refine sT (fun K hK=>?_)
     | refine sU (fun K hK=>?_)
    go_simp;refine hK _ ?_;clear hK K
   refine sV (v:=iv (G j).1 (G j).2) rfl rfl (fun wk hwk=>?_) ?_
   ·rw [← (zW hwk).1 _ _ lG] at b0 b1;go_simp
   refine uX (fun K hK=>?_);go_simp;refine (E.out _).mono ?_;rintro e w1 ⟨rfl,hc1⟩;have hb1:=hbZ.trans (hc1.mono hbZ.size);refine hK _ _ (fun h=>Bool.noConfusion (Eq.trans (Eq.symm (by kernel_rfl:_=false)) h)) (fun _=>hb1) ?_;clear hK K
   iterate 1
    first
     | refine sT (fun K hK=>?_)
     | refine sU (fun K hK=>?_)
    go_simp;refine hK _ ?_;clear hK K
   refine rE ?_;have HB1:=hid (HB.out.trans (hb1.mono (by have:=HB.out.size; omega)));clear hb1 hbZ hc1 a0 a1 b0 b1;go_wp2_with fail
   go_roundw
   case rel=>exact ⟨j+1,by omega,by go_num,HB1.out⟩
   case measure=>simp [intOf]; omega
  ·obtain rfl:j=9:=by omega
   have a0:=hF.at0 9 (by omega);have a1:=hF.at1 9 (by omega);have b0:=hG.at0 9 (by omega);have b1:=hG.at1 9 (by omega);simp only [show 9*2=18 from rfl,show 18+1=19 from rfl] at a0 a1 b0 b1;have E:=hid (fun W=>rA (F 9).1 (F 9).2 (G 9).1 (G 9).2 W (h 9 (by omega)).1 (h 9 (by omega)).2);have HB:=hid (HX.out.2.2.trans (hb.mono (by omega)));clear hF hG;go_wp2_with fail;refine (E.out _).mono ?_;rintro e w1 ⟨rfl,hc1⟩;have hb5:=HB.out.trans (hc1.mono (by have:=HB.out.size; have:=hb.size; omega));go_wp2_with fail;go_ret;exact ⟨rfl,by first | exact hb5 | (rw [hB]; exact hb5)⟩
def oneF (x:Nat) (k:Nat):PQ:=if k=0 then (x,x) else (0,0)
def twoF (x y:Nat) (k:Nat):PQ:=if k=0 then (x,x) else if k=1 then (y,y) else (0,0)
theorem canonN {x c:Nat} (h:zg x=c) (hc:isN c=false):x=c:=by
 unfold zg at h;split at h
 ·rw [← h] at hc; exact absurd hc (by decide)
 ·exact h
theorem OfM.at {n:Nat} {f:Nat→Nat} {F:Nat→PQ} (h:OfM n f F) {k:Nat} (hk:k<9) (hn:k<n) (hf:isN (f k)=false):F k=(f k,f k):=by
 obtain ⟨h1,h2,-⟩:=(h k (by omega)).1 ⟨hk,hn⟩;have e:=canonN h1 hf;exact Prod.ext e (h2.trans e)
theorem OfM.one {f:Nat→Nat} {F:Nat→PQ} (h:OfM 1 f F) (hf:isN (f 0)=false):∀ k,k<10→F k=oneF (f 0) k:=fun k hk=>by
 unfold oneF;by_cases e:k=0
 ·subst e; rw [if_pos rfl]; exact h.at (by decide) (by decide) hf
 ·rw [if_neg e]; exact (h k hk).2 (by omega)
theorem OfM.two {f:Nat→Nat} {F:Nat→PQ} (h:OfM 2 f F) (h0:isN (f 0)=false) (h1:isN (f 1)=false):∀ k,k<10→F k=twoF (f 0) (f 1) k:=fun k hk=>by
 unfold twoF;by_cases e:k=0
 ·subst e; rw [if_pos rfl]; exact h.at (by decide) (by decide) h0
 ·rw [if_neg e];by_cases e1:k=1
  ·subst e1; rw [if_pos rfl]; exact h.at (by decide) (by decide) h1
  ·rw [if_neg e1]; exact (h k hk).2 (by omega)
theorem kn1:ltB (rngQ (oneF 4611686018427387904)).1 4611686018427387904=true∧ltB 4611686018427387904 (rngQ (oneF 4611686018427387904)).2=true∧ltB (rngQ (oneF 4611686018427387904)).2 4611688270227201589=true:=by decide +kernel
theorem kn2:ltB (addQ (twoF 4607182418800017408 4607182418800017408 0) (oneF 4607182418800017408 0)).1 4611686018427387904=true∧ltB 4611686018427387904 (addQ (twoF 4607182418800017408 4607182418800017408 0) (oneF 4607182418800017408 0)).2=true∧ltB 4607182418800017408 (addQ (twoF 4607182418800017408 4607182418800017408 1) (oneF 4607182418800017408 1)).2=true:=by decide +kernel
theorem frow1 (w:World) (x:Nat) (hx:x<18446744073709551616):yH (w.alloc (.cells #[.float .f64 x] 24)) (.slice (some ⟨w.heap.size,0,none⟩) 1 1) 1 (fun _=>zg x):=
 ⟨_,_,rfl,by decide,fun _=>⟨w.heap.size,0,rfl,by simp,fun i hi=>⟨x,by have e:i=0:=(by omega); subst e; rw [World.cell?_alloc_new]; rfl,rfl,hx⟩⟩⟩
theorem frow2 (w:World) (x y:Nat) (hx:x<18446744073709551616) (hy:y<18446744073709551616):yH (w.alloc (.cells #[.float .f64 x,.float .f64 y] 24)) (.slice (some ⟨w.heap.size,0,none⟩) 2 2) 2 (fun i=>zg (if i=0 then x else y)):=
 ⟨_,_,rfl,by decide,fun _=>⟨w.heap.size,0,rfl,by simp,fun i hi=>by
  have e:i=0∨i=1:=by omega
  rcases e with rfl | rfl
  ·exact ⟨x,by rw [World.cell?_alloc_new]; rfl,rfl,hx⟩
  ·exact ⟨y,by rw [World.cell?_alloc_new]; rfl,rfl,hy⟩⟩⟩
theorem of1_tells (x:Nat) (hx:x<18446744073709551616) (nx:isN x=false) (w:World):Calls Try.prog 13 #[.slice (some ⟨w.heap.size,0,none⟩) 1 1] (w.alloc (.cells #[.float .f64 x] 24)) (wh (modV (oneF x)) (w.alloc (.cells #[.float .f64 x] 24))):=by
 refine (of_tells 1 _ _ _ (frow1 w x hx) (by decide)).mono ?_;rintro e w' ⟨F,rfl,h,hb⟩;have h2:=h.one (by rw [zi nx]; exact nx);rw [zi nx] at h2;exact ⟨by rw [modV_congr h2],hb⟩
theorem of2_tells (x y:Nat) (hx:x<18446744073709551616) (nx:isN x=false) (hy:y<18446744073709551616) (ny:isN y=false) (w:World):Calls Try.prog 13 #[.slice (some ⟨w.heap.size,0,none⟩) 2 2] (w.alloc (.cells #[.float .f64 x,.float .f64 y] 24)) (wh (modV (twoF x y)) (w.alloc (.cells #[.float .f64 x,.float .f64 y] 24))):=by
 refine (of_tells 2 _ _ _ (frow2 w x y hx hy) (by decide)).mono ?_;rintro e w' ⟨F,rfl,h,hb⟩;have h2:=h.two (by rw [if_pos rfl,zi nx]; exact nx) (by rw [if_neg (by decide),zi ny]; exact ny);rw [if_pos rfl,if_neg (by decide),zi nx,zi ny] at h2;exact ⟨by rw [modV_congr h2],hb⟩
theorem PB.alloc {w:World} {b n:Nat} {F:Nat→PQ} (h:PB w b n F) (o:Obj):PB (w.alloc o) b n F:=h.below ((Below.refl w.heap.size w).alloc (Nat.le_refl _) o) h.lt
theorem known5_tells (w:World):Calls Try.prog 10 #[] w (wh (.bool true) w):=by
 have K1:=kn1;have K2:=kn2;have O1:=hid (of1_tells 4611686018427387904 (by decide) (by decide));have O2:=hid (of2_tells 4607182418800017408 4607182418800017408 (by decide) (by decide) (by decide) (by decide));have O3:=hid (of1_tells 4607182418800017408 (by decide) (by decide));have RT:=hid (fun W=>range_tells (oneF 4611686018427387904) W);have AT:=hid (fun W=>add_tells (twoF 4607182418800017408 4607182418800017408) (oneF 4607182418800017408) W);have P0:=hid (show pairM addQ (twoF 4607182418800017408 4607182418800017408) (oneF 4607182418800017408) 0=addQ (twoF 4607182418800017408 4607182418800017408 0) (oneF 4607182418800017408 0)∧pairM addQ (twoF 4607182418800017408 4607182418800017408) (oneF 4607182418800017408) 1=addQ (twoF 4607182418800017408 4607182418800017408 1) (oneF 4607182418800017408 1) from ⟨rfl,rfl⟩);generalize rngQ (oneF 4611686018427387904)=r at *;generalize pairM addQ (twoF 4607182418800017408 4607182418800017408) (oneF 4607182418800017408)=M at *;generalize addQ (twoF 4607182418800017408 4607182418800017408 0) (oneF 4607182418800017408 0)=m0 at *;generalize addQ (twoF 4607182418800017408 4607182418800017408 1) (oneF 4607182418800017408 1)=m1 at *;generalize oneF 4611686018427387904=F1 at *;generalize oneF 4607182418800017408=F3 at *;generalize twoF 4607182418800017408 4607182418800017408=F2 at *;obtain ⟨r1,r2⟩:=r;obtain ⟨k1,k2,k3⟩:=K1;obtain ⟨k4,k5,k6⟩:=K2;go_enter Try.func10,Try.ntmps10;go_wp2_with fail;refine (O1.out _).mono ?_;rintro e w1 ⟨rfl,hc1⟩;have hb1:=hid (((Below.refl w.heap.size w).alloc (Nat.le_refl _) (.cells #[.float .f64 4611686018427387904] 24)).trans (hc1.mono (by simp)));clear hc1;go_wp2_with fail;refine (RT.out _).mono ?_;rintro e w2 ⟨rfl,hc2⟩;have hb2:=hid (hb1.out.trans (hc2.mono hb1.out.size));clear hc2 hb1;unfold iv;have HR:=hid (PB.new w2 1 (fun _=>(r1,r2)) 26);have hb3:=hid (hb2.out.alloc hb2.out.size (.cells (clQ (fun _=>(r1,r2)) 1).toArray 26));go_upto_region 2 with fail
 rw [show (w2.alloc (.cells #[.float .f64 r1,.float .f64 r2] 26))=w2.alloc (.cells (clQ (fun _=>(r1,r2)) 1).toArray 26) from rfl];generalize w2.alloc (.cells (clQ (fun _=>(r1,r2)) 1).toArray 26)=X at *;generalize w2.heap.size=R at *;clear hb2;go_wp2_with fail;refine (O2.out _).mono ?_;rintro e w3 ⟨rfl,hc3⟩;have hc3':=((Below.refl X.heap.size X).alloc (Nat.le_refl _) (.cells #[.float .f64 4607182418800017408,.float .f64 4607182418800017408] 24)).trans (hc3.mono (by simp));have HR3:=hid (HR.out.below hc3' HR.out.lt);have hb4:=hid (hb3.out.trans (hc3'.mono hb3.out.size));clear hc3 hc3' HR hb3;go_wp2_with fail;refine (O3.out _).mono ?_;rintro e w4 ⟨rfl,hc4⟩;have hc4':=((Below.refl w3.heap.size w3).alloc (Nat.le_refl _) (.cells #[.float .f64 4607182418800017408] 24)).trans (hc4.mono (by simp));have HR4:=hid (HR3.out.below hc4' HR3.out.lt);have hb5:=hid (hb4.out.trans (hc4'.mono hb4.out.size));clear hc4 hc4' HR3 hb4;go_wp2_with fail;refine (AT.out _).mono ?_;rintro e w5 ⟨rfl,hc5⟩;have HR5:=hid (HR4.out.below hc5 HR4.out.lt);have hb6:=hid (hb5.out.trans (hc5.mono hb5.out.size));clear hc5 HR4 hb5;unfold modV;go_wp2_with (first | (refine wpList_storeM rfl _ _ rfl M rfl rfl (zeroM w5) ?_) | fail)
 intro w6 hm hb7 hs7;have hal:Below w5.heap.size w5 w6:=((Below.refl _ _).alloc (Nat.le_refl _) _).trans hb7;have HR6:=HR5.out.below hal HR5.out.lt;have hb8:=hid (hb6.out.trans (hal.mono hb6.out.size));have m00:=hm.at0 0 (by decide);have m01:=hm.at1 0 (by decide);have m11:=hm.at1 1 (by decide);have r0:=HR6.at0 0 (by decide);have r3:=HR6.at1 0 (by decide);rw [P0.out.1] at m00 m01;rw [P0.out.2] at m11;simp only [Nat.zero_mul,Nat.zero_add,Nat.one_mul,show 2+1=3 from rfl] at m00 m01 m11 r0 r3;clear hal hb7 hs7 hm HR6 HR5 hb6 O1 O2 O3 RT AT P0;go_wp2_with fail;go_ret;exact ⟨rfl,hb8.out⟩
end Go.Proofs.Ytgnledamhjbafaa
