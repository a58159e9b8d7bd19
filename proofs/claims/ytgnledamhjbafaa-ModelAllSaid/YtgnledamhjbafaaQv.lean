/-
  Polynomials with what is left over: multiplied, as the document does it.
-/
import Derived.Test.YtgnledamhjbafaaQu
namespace Go.Proofs.Ytgnledamhjbafaa
open Go.RowKit
open Ieee (double)
open Lib
attribute [local go_sem] zf ze zh zd zu zt zw zx zy zA zj zk zm zn zo zF yd zU zG xq
structure MS0 (w0:World) (B D:Nat) (F G M:Nat→PQ) (w:World):Prop where
 f:PB w B 10 F
 g:PB w (B+1) 10 G
 r:PB w (B+2) 10 (fun _=>(0,0))
 m:PB w D 10 M
 ne:B+3≤D
 b:Below B w0 w
theorem MS.drop {w0 w:World} {B D T n:Nat} {F G E M:Nat→PQ} (h:MS w0 B D T n F G E M w):MS0 w0 B D F G M w:=⟨h.f,h.g,h.r,h.m,h.ne.2.1,h.b⟩
theorem MS0.below {w0 w w':World} {B D:Nat} {F G M:Nat→PQ} (h:MS0 w0 B D F G M w) (hb:Below w.heap.size w w'):MS0 w0 B D F G M w':=by
 have hl:=h.r.lt;exact ⟨h.f.below hb (by omega),h.g.below hb (by omega),h.r.below hb (by omega),h.m.below hb h.m.lt,h.ne,h.b.trans (hb.mono (by omega))⟩
theorem MS0.congr {w0 w:World} {B D:Nat} {F G M M':Nat→PQ} (h:MS0 w0 B D F G M w) (e:∀ k,k<10→M k=M' k):MS0 w0 B D F G M' w:=⟨h.f,h.g,h.r,h.m.congr e,h.ne,h.b⟩
theorem MS0.row {w0 w w':World} {B D S n:Nat} {F G M E:Nat→PQ} (h:MS0 w0 B D F G M w) (hb:Below w.heap.size w w') (ht:PB w' S n E) (hS:w.heap.size≤S):MS w0 B D S n F G E M w':=by
 obtain ⟨a1,a2,a3,a4,a5,a6⟩:=h.below hb;have hd:=h.m.lt;have hr:=h.r.lt;exact ⟨a1,a2,a3,a4,ht,by omega,a6⟩
theorem coS_end (F G:Nat→PQ) (q:PQ) (k:Nat) (hk:k<10):vM (coS F G 9) 9 q k=coR F G q k:=by
 unfold coS coR;by_cases e:k=9
 ·subst e; rw [yp,if_neg (by omega)]
 ·rw [zY _ _ e,if_pos (by omega),if_pos (by omega)]
theorem MS0.setM {w0 w:World} {B D:Nat} {F G M:Nat→PQ} (h:MS0 w0 B D F G M w) {k:Nat} (hk:k<10) (p:PQ):MS0 w0 B D F G (vM M k p) ((w.setCell ⟨D,k*2,none⟩ (.float .f64 p.1)).setCell ⟨D,k*2+1,none⟩ (.float .f64 p.2)):=by
 have n2:=h.ne;exact ⟨(h.f.other (by omega) _).other (by omega) _,(h.g.other (by omega) _).other (by omega) _,(h.r.other (by omega) _).other (by omega) _,h.m.set hk p,h.ne,(h.b.setCell (p:=⟨D,k*2,none⟩) (show B≤D by omega) _).setCell (p:=⟨D,k*2+1,none⟩) (show B≤D by omega) _⟩
set_option maxRecDepth 100000
set_option maxHeartbeats 16000000
theorem rmul_tells (F G:Nat→PQ) (w:World):Calls Try.prog 20 #[modV F,modV G] w (wh (modV (mulM F G)) w):=by
 have AL:=begin2 F G w;have hmul:=modV_congr (coR_end F G);obtain ⟨A,HA⟩:∃ A,A=modV (mulM F G):=⟨_,rfl⟩;rw [← HA];unfold modV;go_enter Try.func20,Try.ntmps20;go_upto_region 1 with fail
 generalize ((w.alloc (.cells (clQ F 10).toArray 29)).alloc (.cells (clQ G 10).toArray 29)).alloc (.cells #[.float .f64 0,.float .f64 0,.float .f64 0,.float .f64 0,.float .f64 0,.float .f64 0,.float .f64 0,.float .f64 0,.float .f64 0,.float .f64 0,.float .f64 0,.float .f64 0,.float .f64 0,.float .f64 0,.float .f64 0,.float .f64 0,.float .f64 0,.float .f64 0,.float .f64 0,.float .f64 0] 29)=X at *;generalize hB:w.heap.size=B at *;obtain ⟨HP,HQ,HR,x4,x5⟩:=AL;have hal:Below X.heap.size X (X.alloc (.cells #[.float .f64 0,.float .f64 0,.float .f64 0,.float .f64 0,.float .f64 0,.float .f64 0,.float .f64 0,.float .f64 0,.float .f64 0,.float .f64 0,.float .f64 0,.float .f64 0,.float .f64 0,.float .f64 0,.float .f64 0,.float .f64 0,.float .f64 0,.float .f64 0,.float .f64 0,.float .f64 0] 29)):=(Below.refl _ _).alloc (Nat.le_refl _) _;have HX:=hid ((⟨HP.below hal (by omega),HQ.below hal (by omega),HR.below hal (by omega),x4 ▸ zeroM X,Nat.le_refl _,x5.trans (hal.mono (by omega))⟩:MS0 w B (B+3) F G (fun _=>(0,0)) (X.alloc (.cells #[.float .f64 0,.float .f64 0,.float .f64 0,.float .f64 0,.float .f64 0,.float .f64 0,.float .f64 0,.float .f64 0,.float .f64 0,.float .f64 0,.float .f64 0,.float .f64 0,.float .f64 0,.float .f64 0,.float .f64 0,.float .f64 0,.float .f64 0,.float .f64 0,.float .f64 0,.float .f64 0] 29))).congr (M':=coS F G 0) (fun k _=>by unfold coS; rw [if_neg (by omega)]));clear HP HQ HR x5 hal;go_upto_region 2 with fail
 generalize X.alloc (.cells #[.float .f64 0,.float .f64 0,.float .f64 0,.float .f64 0,.float .f64 0,.float .f64 0,.float .f64 0,.float .f64 0,.float .f64 0,.float .f64 0,.float .f64 0,.float .f64 0,.float .f64 0,.float .f64 0,.float .f64 0,.float .f64 0,.float .f64 0,.float .f64 0,.float .f64 0,.float .f64 0] 29)=Y at *
 go_upto_block 0 with fail
 go_cut [] (fun wx=>MS0 w B (B+3) F G (coS F G 9) wx)
 case first=>
  go_wp2_with fail
  go_loopw [6] (fun x wr=>∃ j:Nat,j≤9∧x=.int .i64 j∧MS0 w B (B+3) F G (coS F G j) wr) (fun x _=>9-(intOf x).toNat)
  case atStart=>exact ⟨0,by omega,rfl,HX.out⟩
  case round=>
   clear HX;obtain ⟨j,h9,rfl,hx⟩:=hrel;have HX:=hid hx;by_cases hlt:j<9
   ·have hl9:(j:Int)<9:=by omega
    have hl8:(j:Int)≤8:=by omega
    have a0:=hx.f.at0 0 (by decide);have a1:=hx.f.at1 0 (by decide);have b0:=hx.g.at0 j (by omega);have b1:=hx.g.at1 j (by omega);simp only [Nat.zero_mul,Nat.zero_add] at a0 a1;have lF:B<wr.heap.size:=hx.f.lt;have lG:B+1<wr.heap.size:=hx.g.lt;clear hx;go_upto_region 5 with fail
    go_cut [7] (fun p wx=>∃ S,p=.pointer (some ⟨S,0,none⟩)∧MS w B (B+3) S 1 F G (fun _=>ttQ F G 0 j) (coS F G j) wx)
    case first=>
     refine rU (.op 0 1 (.op 1 1 (.op 2 3 (.op 3 1 (.op 4 1 (.op 5 1 (.op 6 3 (.alt 7 (.alt 8 (.alt 9 .nil .stop) .stop) (.alt 8 (.alt 7 (.alt 9 .nil .stop) .stop) .stop))))))))) [7,8,9] [2,6] (fun W=>Below wr.heap.size wr W) (by kernel_rfl) (by kernel_rfl) (fun _ _ d _ _ h=>by cases d<;>exact h) ((Below.refl _ _).drew) ?_;intro Z hZ hbZ;clear hZ;refine rV (fun K hK=>?_);go_simp;refine hK _ ?_;clear hK K;refine rV (fun K hK=>?_);go_simp;refine hK _ ?_;clear hK K;refine rW (v:=iv (F 0).1 (F 0).2) rfl rfl (fun wk hwk=>?_) ?_
     ·rw [← (zW hwk).1 _ _ lF] at a0 a1;unfold iv;go_simp
     refine rV (fun K hK=>?_);go_simp;refine hK _ ?_;clear hK K;refine rV (fun K hK=>?_);go_simp;refine hK _ ?_;clear hK K;refine rV (fun K hK=>?_);go_simp;refine hK _ ?_;clear hK K;refine rW (v:=iv (G j).1 (G j).2) rfl rfl (fun wk hwk=>?_) ?_
     ·rw [← (zW hwk).1 _ _ lG] at b0 b1;unfold iv;go_simp
     have HR:=hid (HX.out.below hbZ);have HBZ:=hid hbZ;clear a0 a1 b0 b1 HX hbZ;refine rY (fun K hK=>?_) ?_
     ·go_simp;refine (uMul (F 0) (G j) _).mono ?_;rintro e w1 ⟨rfl,hc1⟩;refine hK _ _ (fun h=>Bool.noConfusion (Eq.trans (Eq.symm (by kernel_rfl:_=false)) h)) ?_;clear hK K;refine rY (fun K hK=>?_) rX;go_simp;have hn2:Below w1.heap.size w1 (w1.alloc (.cells #[.float .f64 0,.float .f64 0] 26)):=(Below.refl _ _).alloc (Nat.le_refl _) _;have hp3:PB (w1.alloc (.cells #[.float .f64 0,.float .f64 0] 26)) w1.heap.size 1 (fun _=>(0,0)):=PB.new w1 1 (fun _=>(0,0)) 26;refine hK _ _ (fun _=>(HBZ.out.trans (hc1.mono HBZ.out.size)).trans (hn2.mono (HBZ.out.trans (hc1.mono HBZ.out.size)).size)) ?_;clear hK K;have hs3:=hc1.size;have hb3:Below Z.heap.size Z (w1.alloc (.cells #[.float .f64 0,.float .f64 0] 26)):=hc1.trans (hn2.mono hs3);generalize w1.alloc (.cells #[.float .f64 0,.float .f64 0] 26)=w3 at *;have HT:=HR.out.row hb3 hp3 hs3;have s0:=HT.t.at0 0 (by decide);have s1:=HT.t.at1 0 (by decide);have s2:=HT.t.free 0;have s3:=HT.t.free 1;simp only [Nat.zero_mul,Nat.zero_add] at s0 s1;have HS:=hid (HT.put (mulQ (F 0) (G j)));clear HT;refine rY (fun K hK=>?_) rX;unfold iv;go_simp;refine hK _ _ (fun h=>Bool.noConfusion (Eq.trans (Eq.symm (by kernel_rfl:_=false)) h)) ?_;clear hK K;refine rZ ?_;go_wp2_with fail;go_meet;exact ⟨_,rfl,HS.out⟩
     ·refine rY (fun K hK=>?_) rX;go_simp;have HN2:=hid (PB.new Z 1 (fun _=>(0,0)) 26);have hn2:Below Z.heap.size Z (Z.alloc (.cells #[.float .f64 0,.float .f64 0] 26)):=(Below.refl _ _).alloc (Nat.le_refl _) _;have hz2:Z.heap.size<(Z.alloc (.cells #[.float .f64 0,.float .f64 0] 26)).heap.size:=by simp
      have HN2:=hid (show PB (Z.alloc (.cells #[.float .f64 0,.float .f64 0] 26)) Z.heap.size 1 (fun _=>(0,0)) from HN2.out);refine hK _ _ (fun _=>HBZ.out.trans (hn2.mono HBZ.out.size)) ?_;clear hK K;generalize Z.alloc (.cells #[.float .f64 0,.float .f64 0] 26)=w2 at *;refine rY (fun K hK=>?_) rX;go_simp;refine (uMul (F 0) (G j) _).mono ?_;rintro e w3 ⟨rfl,hc3⟩;refine hK _ _ (fun h=>Bool.noConfusion (Eq.trans (Eq.symm (by kernel_rfl:_=false)) h)) ?_;clear hK K;have hb3:Below Z.heap.size Z w3:=hn2.trans (hc3.mono (by omega));have hp3:=HN2.out.below hc3 hz2;have HT:=HR.out.row hb3 hp3 (Nat.le_refl _);have s0:=HT.t.at0 0 (by decide);have s1:=HT.t.at1 0 (by decide);have s2:=HT.t.free 0;have s3:=HT.t.free 1;simp only [Nat.zero_mul,Nat.zero_add] at s0 s1;have HS:=hid (HT.put (mulQ (F 0) (G j)));clear HT;refine rY (fun K hK=>?_) rX;unfold iv;go_simp;refine hK _ _ (fun h=>Bool.noConfusion (Eq.trans (Eq.symm (by kernel_rfl:_=false)) h)) ?_;clear hK K;refine rZ ?_;go_wp2_with fail;go_meet;exact ⟨_,rfl,HS.out⟩
    case rest=>
     clear HX a0 a1 b0 b1 lF lG;obtain ⟨S,rfl,hx⟩:=hcut;have HX:=hid hx;clear hx;go_wp2_with fail
     go_loopw [8] (fun x wr=>∃ (i:Nat) (p:PQ),1≤i∧i≤j+1∧x=.int .i64 i∧p=alQ (ttQ F G) j (i-1)∧MS w B (B+3) S 1 F G (fun _=>p) (coS F G j) wr) (fun x _=>j+1-(intOf x).toNat)
     case atStart=>exact ⟨1,ttQ F G 0 j,by omega,by omega,rfl,rfl,HX.out⟩
     case round=>
      clear HX;obtain ⟨i,⟨r1,r2⟩,h1,hi9,rfl,hq,hx⟩:=hrel;have HX:=hid hx;clear hx;have HQ:=hid hq;clear hq;by_cases hli:i≤j
      ·have hliI:(i:Int)≤j:=by omega
       have hli9:(i:Int)<9:=by omega
       have e1:(j:Int)-(i:Int)=((j-i:Nat):Int):=by omega
       have e2:((j-i:Nat):Int)<9:=by omega
       have e3:IntKind.i64.wrap ((j-i:Nat):Int)=((j-i:Nat):Int):=IntWalk.i64_in _ (by omega);have a0:=HX.out.f.at0 i (by omega);have a1:=HX.out.f.at1 i (by omega);have b0:=HX.out.g.at0 (j-i) (by omega);have b1:=HX.out.g.at1 (j-i) (by omega);have r0:=HX.out.t.at0 0 (by decide);have r3:=HX.out.t.at1 0 (by decide);simp only [Nat.zero_mul,Nat.zero_add] at r0 r3;have lS:S<wr.heap.size:=HX.out.t.lt;have lF:B<wr.heap.size:=HX.out.f.lt;have lG:B+1<wr.heap.size:=HX.out.g.lt;go_wp2_with fail;refine wL [(0,3),(1,1),(2,1),(3,1),(4,3),(5,1),(6,1),(7,1),(8,1),(9,1),(10,3),(11,0),(12,0),(13,0)] (fun W=>Below wr.heap.size wr W) (by kernel_rfl) (by kernel_rfl) (fun _ _ d _ _ h=>by cases d<;>exact h) ((Below.refl _ _).drew) ?_;intro Z hZ hbZ;clear hZ;refine sV (v:=iv r1 r2) rfl rfl (fun wk hwk=>?_) ?_
       ·rw [← (zW hwk).1 _ _ lS] at r0 r3;unfold iv;go_simp
       iterate 3
        first
         | refine sT (fun K hK=>?_)
         | refine sU (fun K hK=>?_)
        go_simp;refine hK _ ?_;clear hK K
       refine sV (v:=iv (F i).1 (F i).2) rfl rfl (fun wk hwk=>?_) ?_
       ·rw [← (zW hwk).1 _ _ lF] at a0 a1;unfold iv;go_simp
       iterate 5
        first
         | refine sT (fun K hK=>?_)
         | refine sU (fun K hK=>?_)
        go_simp;refine hK _ ?_;clear hK K
       refine sV (v:=iv (G (j-i)).1 (G (j-i)).2) rfl rfl (fun wk hwk=>?_) ?_
       ·rw [← (zW hwk).1 _ _ lG] at b0 b1;unfold iv;go_simp
       refine uX (fun K hK=>?_);go_simp;refine (uMul (F i) (G (j-i)) _).mono ?_;rintro e w1 ⟨rfl,hc1⟩;have hb1:=hbZ.trans (hc1.mono hbZ.size);refine hK _ _ (fun h=>Bool.noConfusion (Eq.trans (Eq.symm (by kernel_rfl:_=false)) h)) (fun _=>hb1) ?_;clear hK K;refine uX (fun K hK=>?_);go_simp;refine (uAdd (r1,r2) (ttQ F G i (j-i)) _).mono ?_;rintro e w2 ⟨rfl,hc2⟩;have hb2:=hb1.trans (hc2.mono hb1.size);refine hK _ _ (fun h=>Bool.noConfusion (Eq.trans (Eq.symm (by kernel_rfl:_=false)) h)) (fun _=>hb2) ?_;clear hK K;clear r0 r3 a0 a1 b0 b1;have HN:=hid (show addQ (r1,r2) (ttQ F G i (j-i))=alQ (ttQ F G) j (i+1-1) by rw [HQ.out,show i+1-1=i-1+1 by omega,alQ,show i-1+1=i by omega]);have HM2:=hid (HX.out.below hb2);have s0:=HM2.out.t.at0 0 (by decide);have s1:=HM2.out.t.at1 0 (by decide);have s2:=HM2.out.t.free 0;have s3:=HM2.out.t.free 1;simp only [Nat.zero_mul,Nat.zero_add] at s0 s1;have HS:=hid (HM2.out.put (addQ (r1,r2) (ttQ F G i (j-i))));clear hbZ HM2;clear HX HQ lS lF lG;generalize addQ (r1,r2) (ttQ F G i (j-i))=q at *;unfold iv;refine uX (fun K hK=>?_);go_simp;refine hK _ _ (fun h=>Bool.noConfusion (Eq.trans (Eq.symm (by kernel_rfl:_=false)) h)) (fun h=>Bool.noConfusion (Eq.trans (Eq.symm (by kernel_rfl:_=false)) h)) ?_;clear hK K;refine rE ?_;go_wp2_with fail
       go_roundw
       case rel=>exact ⟨i+1,q,by omega,by omega,by go_num,HN.out,HS.out⟩
       case measure=>simp [intOf]; omega
      ·obtain rfl:i=j+1:=by omega
       have r0:=HX.out.t.at0 0 (by decide);have r3:=HX.out.t.at1 0 (by decide);simp only [Nat.zero_mul,Nat.zero_add] at r0 r3;have s0:=HX.out.m.at0 j (by omega);have s1:=HX.out.m.at1 j (by omega);have s2:=HX.out.m.free (j*2);have s3:=HX.out.m.free (j*2+1);have HS:=hid ((HX.out.drop.setM (k:=j) (by omega) (r1,r2)).congr (M':=coS F G (j+1)) (fun k _=>by rw [show (r1,r2)=alQ (ttQ F G) j j from HQ.out]; exact coS_set F G j k));clear HX HQ;go_wp2_with fail
       go_roundw
       case rel=>exact ⟨j+1,by omega,by go_num,HS.out⟩
       case measure=>simp [intOf]; omega
   ·obtain rfl:j=9:=by omega
    go_wp2_with fail;go_meet;exact HX.out
 case rest=>
  clear HX;have HX:=hid hcut;clear hcut;have hpt:=fun W=>sK 0 W
  go_wp2_with fail;refine (hpt _).mono ?_;rintro e w1 ⟨rfl,hc1⟩;clear hpt;have HX1:=hid (HX.out.below hc1);have HN:=hid (PB.new w1 1 (fun _=>(0,0)) 26);have hal:Below w1.heap.size w1 (w1.alloc (.cells (clQ (fun _=>(0,0)) 1).toArray 26)):=(Below.refl _ _).alloc (Nat.le_refl _) _;have HX2:=hid (HX1.out.row hal HN.out (Nat.le_refl _));generalize hS:w1.heap.size=S at *;clear HX HX1 HN hal hc1;unfold iv;go_wp2_with fail
  go_loopw [10] (fun x wr=>∃ i:Nat,i≤9∧x=.int .i64 i∧MS w B (B+3) S 1 F G (fun _=>ovI (ttQ F G) i) (coS F G 9) wr) (fun x _=>9-(intOf x).toNat)
  case atStart=>exact ⟨0,by omega,rfl,HX2.out⟩
  case round=>
   clear HX2;obtain ⟨i,hi9,rfl,hx⟩:=hrel;have HX:=hid hx;clear hx;by_cases hli:i<9
   ·have hliI:(i:Int)<9:=by omega
    have hli8:(i:Int)≤8:=by omega
    go_wp2_with fail
    go_loopw [11] (fun x wr=>∃ j:Nat,j≤9∧x=.int .i64 j∧MS w B (B+3) S 1 F G (fun _=>ovJ (ttQ F G) i (ovI (ttQ F G) i) j) (coS F G 9) wr) (fun x _=>9-(intOf x).toNat)
    case atStart=>exact ⟨0,by omega,rfl,HX.out⟩
    case round=>
     clear HX;obtain ⟨j,hj9,rfl,hx⟩:=hrel;by_cases hlj:j<9
     ·have hljI:(j:Int)<9:=by omega
      have hlj8:(j:Int)≤8:=by omega
      have e1:IntKind.i64.wrap ((i:Int)+(j:Int))=((i+j:Nat):Int):=by rw [IntWalk.i64_in _ (by omega)]; omega
      by_cases hgt:8<i+j
      ·have hgI:(8:Int)<((i+j:Nat):Int):=by omega
       have HQ:=hid (show ovJ (ttQ F G) i (ovI (ttQ F G) i) (j+1)=addQ (ovJ (ttQ F G) i (ovI (ttQ F G) i) j) (mulQ (ttQ F G i j) (powQ (i+j))) by rw [ovJ,if_pos hgt]);generalize ovJ (ttQ F G) i (ovI (ttQ F G) i) j=q0 at *;obtain ⟨r1,r2⟩:=q0;have HX:=hid hx;clear hx;have a0:=HX.out.f.at0 i (by omega);have a1:=HX.out.f.at1 i (by omega);have b0:=HX.out.g.at0 j (by omega);have b1:=HX.out.g.at1 j (by omega);have r0:=HX.out.t.at0 0 (by decide);have r3:=HX.out.t.at1 0 (by decide);simp only [Nat.zero_mul,Nat.zero_add] at r0 r3;have lS:S<wr.heap.size:=HX.out.t.lt;have lF:B<wr.heap.size:=HX.out.f.lt;have lG:B+1<wr.heap.size:=HX.out.g.lt;go_wp2_with fail;refine wL [(0,3),(1,1),(2,1),(3,1),(4,3),(5,1),(6,1),(7,1),(8,3),(10,1),(11,1),(12,1),(9,0),(13,0),(14,0),(15,0),(16,0)] (fun W=>Below wr.heap.size wr W) (by kernel_rfl) (by kernel_rfl) (fun _ _ d _ _ h=>by cases d<;>exact h) ((Below.refl _ _).drew) ?_;intro Z hZ hbZ;clear hZ;refine sV (v:=iv r1 r2) rfl rfl (fun wk hwk=>?_) ?_
       ·rw [← (zW hwk).1 _ _ lS] at r0 r3;unfold iv;go_simp
       iterate 3
        first
         | refine sT (fun K hK=>?_)
         | refine sU (fun K hK=>?_)
        go_simp;refine hK _ ?_;clear hK K
       refine sV (v:=iv (F i).1 (F i).2) rfl rfl (fun wk hwk=>?_) ?_
       ·rw [← (zW hwk).1 _ _ lF] at a0 a1;unfold iv;go_simp
       iterate 3
        first
         | refine sT (fun K hK=>?_)
         | refine sU (fun K hK=>?_)
        go_simp;refine hK _ ?_;clear hK K
       refine sV (v:=iv (G j).1 (G j).2) rfl rfl (fun wk hwk=>?_) ?_
       ·rw [← (zW hwk).1 _ _ lG] at b0 b1;unfold iv;go_simp
       iterate 3
        first
         | refine sT (fun K hK=>?_)
         | refine sU (fun K hK=>?_)
        go_simp;refine hK _ ?_;clear hK K
       refine uX (fun K hK=>?_);go_simp;refine (uMul (F i) (G j) _).mono ?_;rintro e w1 ⟨rfl,hc1⟩;have hb1:=hbZ.trans (hc1.mono hbZ.size);refine hK _ _ (fun h=>Bool.noConfusion (Eq.trans (Eq.symm (by kernel_rfl:_=false)) h)) (fun _=>hb1) ?_;clear hK K;refine uX (fun K hK=>?_);go_simp;refine (rpower_tells (i+j) _).mono ?_;rintro e w2 ⟨rfl,hc2⟩;have hb2:=hb1.trans (hc2.mono hb1.size);refine hK _ _ (fun h=>Bool.noConfusion (Eq.trans (Eq.symm (by kernel_rfl:_=false)) h)) (fun _=>hb2) ?_;clear hK K;refine uX (fun K hK=>?_);go_simp;refine (uMul (ttQ F G i j) (powQ (i+j)) _).mono ?_;rintro e w3 ⟨rfl,hc3⟩;have hb3:=hb2.trans (hc3.mono hb2.size);refine hK _ _ (fun h=>Bool.noConfusion (Eq.trans (Eq.symm (by kernel_rfl:_=false)) h)) (fun _=>hb3) ?_;clear hK K;refine uX (fun K hK=>?_);go_simp;refine (uAdd (r1,r2) (mulQ (ttQ F G i j) (powQ (i+j))) _).mono ?_;rintro e w4 ⟨rfl,hc4⟩;have hb4:=hb3.trans (hc4.mono hb3.size);refine hK _ _ (fun h=>Bool.noConfusion (Eq.trans (Eq.symm (by kernel_rfl:_=false)) h)) (fun _=>hb4) ?_;clear hK K;clear r0 r3 a0 a1 b0 b1;have HM2:=hid (HX.out.below hb4);have s0:=HM2.out.t.at0 0 (by decide);have s1:=HM2.out.t.at1 0 (by decide);have s2:=HM2.out.t.free 0;have s3:=HM2.out.t.free 1;simp only [Nat.zero_mul,Nat.zero_add] at s0 s1;have HS:=hid (HM2.out.put (addQ (r1,r2) (mulQ (ttQ F G i j) (powQ (i+j)))));clear hbZ HM2;clear HX lS lF lG;generalize addQ (r1,r2) (mulQ (ttQ F G i j) (powQ (i+j)))=q at *;unfold iv;refine uX (fun K hK=>?_);go_simp;refine hK _ _ (fun h=>Bool.noConfusion (Eq.trans (Eq.symm (by kernel_rfl:_=false)) h)) (fun h=>Bool.noConfusion (Eq.trans (Eq.symm (by kernel_rfl:_=false)) h)) ?_;clear hK K;refine rE ?_;go_wp2_with fail
       go_roundw
       case rel=>exact ⟨j+1,by omega,by go_num,by rw [HQ.out]; exact HS.out⟩
       case measure=>simp [intOf]; omega
      ·have hgI:¬ (8:Int)<((i+j:Nat):Int):=by omega
       have HX:=hid hx;clear hx;go_wp2_with fail
       go_roundw
       case rel=>exact ⟨j+1,by omega,by go_num,by rw [ovJ,if_neg hgt]; exact HX.out⟩
       case measure=>simp [intOf]; omega
     ·obtain rfl:j=9:=by omega
      have HX:=hid hx;clear hx;go_wp2_with fail
      go_roundw
      case rel=>exact ⟨i+1,by omega,by go_num,HX.out⟩
      case measure=>simp [intOf]; omega
   ·obtain rfl:i=9:=by omega
    have HA2:=hid (show addQ (addQ (ovI (ttQ F G) 9) (mulQ (F 9) (rngQ G))) (mulQ (polQ F 8) (G 9))=restQ (ttQ F G) F G from rfl);generalize ovI (ttQ F G) 9=q0 at *;obtain ⟨r1,r2⟩:=q0;have a0:=HX.out.f.at0 9 (by omega);have a1:=HX.out.f.at1 9 (by omega);simp only [show 9*2=18 from rfl,show 18+1=19 from rfl] at a0 a1;have r0:=HX.out.t.at0 0 (by decide);have r3:=HX.out.t.at1 0 (by decide);simp only [Nat.zero_mul,Nat.zero_add] at r0 r3;have lS:S<wr.heap.size:=HX.out.t.lt;have lF:B<wr.heap.size:=HX.out.f.lt;have lG:B+1<wr.heap.size:=HX.out.g.lt;go_upto_region 20 with fail
    refine wL [(0,3),(1,1),(2,3),(3,3),(4,0),(5,0),(6,0),(7,0)] (fun W=>Below wr.heap.size wr W) (by kernel_rfl) (by kernel_rfl) (fun _ _ d _ _ h=>by cases d<;>exact h) ((Below.refl _ _).drew) ?_;intro Z hZ hbZ;clear hZ;refine sV (v:=iv r1 r2) rfl rfl (fun wk hwk=>?_) ?_
    ·rw [← (zW hwk).1 _ _ lS] at r0 r3;unfold iv;go_simp
    iterate 1
     first
      | refine sT (fun K hK=>?_)
      | refine sU (fun K hK=>?_)
     go_simp;refine hK _ ?_;clear hK K
    refine sV (v:=iv (F 9).1 (F 9).2) rfl rfl (fun wk hwk=>?_) ?_
    ·rw [← (zW hwk).1 _ _ lF] at a0 a1;unfold iv;go_simp
    refine sV (v:=modV G) rfl rfl (fun wk hwk=>exec_loadM _ rfl rfl ((HX.out.g).below hwk lG)) ?_;refine uX (fun K hK=>?_);go_simp;refine (rrange_tells G _).mono ?_;rintro e w1 ⟨rfl,hc1⟩;have hb1:=hbZ.trans (hc1.mono hbZ.size);refine hK _ _ (fun h=>Bool.noConfusion (Eq.trans (Eq.symm (by kernel_rfl:_=false)) h)) (fun _=>hb1) ?_;clear hK K;refine uX (fun K hK=>?_);go_simp;refine (uMul (F 9) (rngQ G) _).mono ?_;rintro e w2 ⟨rfl,hc2⟩;have hb2:=hb1.trans (hc2.mono hb1.size);refine hK _ _ (fun h=>Bool.noConfusion (Eq.trans (Eq.symm (by kernel_rfl:_=false)) h)) (fun _=>hb2) ?_;clear hK K;refine uX (fun K hK=>?_);go_simp;refine (uAdd (r1,r2) (mulQ (F 9) (rngQ G)) _).mono ?_;rintro e w3 ⟨rfl,hc3⟩;have hb3:=hb2.trans (hc3.mono hb2.size);refine hK _ _ (fun h=>Bool.noConfusion (Eq.trans (Eq.symm (by kernel_rfl:_=false)) h)) (fun _=>hb3) ?_;clear hK K;clear r0 r3 a0 a1;have HM2:=hid (HX.out.below hb3);have s0:=HM2.out.t.at0 0 (by decide);have s1:=HM2.out.t.at1 0 (by decide);have s2:=HM2.out.t.free 0;have s3:=HM2.out.t.free 1;simp only [Nat.zero_mul,Nat.zero_add] at s0 s1;have HS:=hid (HM2.out.put (addQ (r1,r2) (mulQ (F 9) (rngQ G))));clear hbZ HM2;generalize addQ (r1,r2) (mulQ (F 9) (rngQ G))=q at *;obtain ⟨r1',r2'⟩:=q;clear HX lS lF lG;unfold iv;refine uX (fun K hK=>?_);go_simp;refine hK _ _ (fun h=>Bool.noConfusion (Eq.trans (Eq.symm (by kernel_rfl:_=false)) h)) (fun h=>Bool.noConfusion (Eq.trans (Eq.symm (by kernel_rfl:_=false)) h)) ?_;clear hK K;refine rE ?_;clear s0 s1 s2 s3;go_upto_region 21 with fail
    generalize ((_:World).setCell ⟨S,0,none⟩ (.float .f64 r1')).setCell ⟨S,1,none⟩ (.float .f64 r2')=wx at *;have HX:=HS;clear HS;have b0:=HX.out.g.at0 9 (by omega);have b1:=HX.out.g.at1 9 (by omega);simp only [show 9*2=18 from rfl,show 18+1=19 from rfl] at b0 b1;have r0:=HX.out.t.at0 0 (by decide);have r3:=HX.out.t.at1 0 (by decide);simp only [Nat.zero_mul,Nat.zero_add] at r0 r3;have lS:S<wx.heap.size:=HX.out.t.lt;have lF:B<wx.heap.size:=HX.out.f.lt;have lG:B+1<wx.heap.size:=HX.out.g.lt;refine wL [(0,3),(1,3),(3,1),(4,3),(2,0),(5,0),(6,0),(7,1),(8,0)] (fun W=>Below wx.heap.size wx W) (by kernel_rfl) (by kernel_rfl) (fun _ _ d _ _ h=>by cases d<;>exact h) ((Below.refl _ _).drew) ?_;intro Z hZ hbZ;clear hZ;refine sV (v:=iv r1' r2') rfl rfl (fun wk hwk=>?_) ?_
    ·rw [← (zW hwk).1 _ _ lS] at r0 r3;unfold iv;go_simp
    refine sV (v:=modV F) rfl rfl (fun wk hwk=>exec_loadM _ rfl rfl ((HX.out.f).below hwk lF)) ?_
    iterate 1
     first
      | refine sT (fun K hK=>?_)
      | refine sU (fun K hK=>?_)
     go_simp;refine hK _ ?_;clear hK K
    refine sV (v:=iv (G 9).1 (G 9).2) rfl rfl (fun wk hwk=>?_) ?_
    ·rw [← (zW hwk).1 _ _ lG] at b0 b1;unfold iv;go_simp
    refine uX (fun K hK=>?_);go_simp;refine (rpoly_tells F _).mono ?_;rintro e w1 ⟨rfl,hc1⟩;have hb1:=hbZ.trans (hc1.mono hbZ.size);refine hK _ _ (fun h=>Bool.noConfusion (Eq.trans (Eq.symm (by kernel_rfl:_=false)) h)) (fun _=>hb1) ?_;clear hK K;refine uX (fun K hK=>?_);go_simp;refine (uMul (polQ F 8) (G 9) _).mono ?_;rintro e w2 ⟨rfl,hc2⟩;have hb2:=hb1.trans (hc2.mono hb1.size);refine hK _ _ (fun h=>Bool.noConfusion (Eq.trans (Eq.symm (by kernel_rfl:_=false)) h)) (fun _=>hb2) ?_;clear hK K;refine uX (fun K hK=>?_);go_simp;refine (uAdd (r1',r2') (mulQ (polQ F 8) (G 9)) _).mono ?_;rintro e w3 ⟨rfl,hc3⟩;have hb3:=hb2.trans (hc3.mono hb2.size);refine hK _ _ (fun h=>Bool.noConfusion (Eq.trans (Eq.symm (by kernel_rfl:_=false)) h)) (fun _=>hb3) ?_;clear hK K
    iterate 1
     first
      | refine sT (fun K hK=>?_)
      | refine sU (fun K hK=>?_)
     go_simp;refine hK _ ?_;clear hK K
    clear r0 r3 b0 b1;have HM2:=hid (HX.out.below hb3);have s0:=HM2.out.m.at0 9 (by decide);have s1:=HM2.out.m.at1 9 (by decide);have s2:=HM2.out.m.free 18;have s3:=HM2.out.m.free 19;have HS:=hid ((HM2.out.set (k:=9) (by decide) (addQ (r1',r2') (mulQ (polQ F 8) (G 9)))).congr (M':=coR F G (addQ (r1',r2') (mulQ (polQ F 8) (G 9)))) (fun k hk=>coS_end F G _ k hk));simp only [show 9*2=18 from rfl,show 18+1=19 from rfl] at s0 s1 HS;clear hbZ HM2 HX lS lF lG;generalize addQ (r1',r2') (mulQ (polQ F 8) (G 9))=q at *;unfold iv;refine uX (fun K hK=>?_);go_simp;refine hK _ _ (fun h=>Bool.noConfusion (Eq.trans (Eq.symm (by kernel_rfl:_=false)) h)) (fun h=>Bool.noConfusion (Eq.trans (Eq.symm (by kernel_rfl:_=false)) h)) ?_;clear hK K;refine rE ?_;clear s0 s1 s2 s3;go_upto_region 22 with fail
    generalize ((_:World).setCell ⟨B+3,18,none⟩ (.float .f64 q.1)).setCell ⟨B+3,19,none⟩ (.float .f64 q.2)=wy at *;have HE:=hid (show modV (coR F G q)=A from (congrArg (fun z=>modV (coR F G z)) HA2.out).trans (hmul.trans HA.symm));have HX:=HS;clear HS HA HA2;generalize coR F G q=M at *;have HE2:=HE.out;unfold modV at HE2;go_wp2_with (first | (refine wpList_loadM rfl _ rfl rfl HX.out.m ?_) | (refine wpList_storeM rfl _ _ rfl M rfl rfl HX.out.r ?_) | fail)
    intro w4 hr4 hb4 hs4;have hb5:=HX.out.b.trans (hb4.mono (by omega));clear hb4 HX;go_wp2_with fail;exact ret_mod _ Try.results20 rfl hr4 rfl ⟨by rw [← HE.out],by first | exact hb5 | (rw [hB]; exact hb5)⟩
end Go.Proofs.Ytgnledamhjbafaa
