/-
  Contracts (what a function tells) and plain facts that a law's proof hangs on, for every input; no condition but those in their statements. Laid together of the texts Jc, Je, Jf, Jg, Jh.
-/
import Derived.Test.YtnlbafjmbamoeaaGreatQb
namespace Go.Proofs.YtnlbafjmbamoeaaGreat
open Go.RowKit Lib
open Ieee (double)
attribute [local go_sem] zr zi zy zn zU zS zW zX zV zY zD zH zI zJ zK zB ye z8 zF yE
def qW (c:Nat) (f:Nat→Nat) (n:Nat) (w:World) (e:Ending) (w':World):Prop:=
 ∃ y R,e=.returned (.agg #[.float .f64 y,.slice (some ⟨R,0,none⟩) n n])∧zk y=c∧y<18446744073709551616∧yd w' w.heap.size R n n f∧Below w.heap.size w w'
theorem xP {w:World} {q:Nat} {x y a b:Value} (h0:w.cell? ⟨q,0,none⟩=some a) (h1:w.cell? ⟨q,1,none⟩=some b) :
  ((w.setCell ⟨q,0,none⟩ x).setCell ⟨q,1,none⟩ y).cell? ⟨q,0,none⟩=some x∧((w.setCell ⟨q,0,none⟩ x).setCell ⟨q,1,none⟩ y).cell? ⟨q,1,none⟩=some y:=by
 refine ⟨?_,?_⟩<;>simp [go_sem,h0,h1]
set_option maxRecDepth 100000
set_option maxHeartbeats 16000000
theorem nQ (c n Kd N:Nat) (hc2:c<18446744073709551616) (hn:n≤1000) (w:World) (hk:KB Kd w) (hN:CB N (.int .i64 n) w) :
  Calls Tryz.prog 150 #[.float .f64 c,.pointer (some ⟨Kd,0,none⟩),.pointer (some ⟨N,0,none⟩)] w (qW (zk c) (fun _=>0) n w):=by
 have AL:=al1 w (.cells #[.float .f64 0,.slice none 0 0] 173);go_enter Tryz.func150,Tryz.ntmps150;go_upto_region 1 with fail
 generalize hB:w.heap.size=B at *;generalize w.alloc (.cells #[.float .f64 0,.slice none 0 0] 173)=X at *;obtain ⟨x1,x4,x5⟩:=AL;have hkX:=hk.below (hB ▸ x5);have hNX:=hN.below (hB ▸ x5);have hKl:Kd<B:=by rw [← hB]; exact hk.2.2.2.2.2
 have hNl:N<B:=by rw [← hB]; exact hN.2
 have HX:=hid x1;obtain ⟨k0,k1,k2,k3,k4,k5⟩:=id hkX;obtain ⟨n0,n1⟩:=id hNX;clear x1;refine zv [(0,1),(1,3),(2,1),(4,3),(5,1),(3,0),(6,0),(7,1),(8,0)] (zM X B) (by kernel_rfl) (by kernel_rfl) (fun _ _ d _ _ h=>by cases d<;>exact h) ((zM.refl X B).drew) ?_;intro Z hZ hkZ;have z1:Z.heap[B]? = some (.cells #[.float .f64 0,.slice none 0 0] 173):=by rw [hZ]; exact HX.out
 have zl:=zj z1;clear hZ
 iterate 1
  first
   | refine zd (fun K hK=>?_)
   | refine ze (fun K hK=>?_)
  go_simp;refine hK _ ?_;clear hK K
 refine zh (v:=.func (.func 140) #[] #[]) rfl rfl (fun wk hwk=>?_) ?_
 ·rw [← hwk.cell k5 (by omega)] at k0;go_simp
 iterate 1
  first
   | refine zd (fun K hK=>?_)
   | refine ze (fun K hK=>?_)
  go_simp;refine hK _ ?_;clear hK K
 refine zh (v:=.int .i64 n) rfl rfl (fun wk hwk=>?_) ?_
 ·rw [← hwk.cell n1 (by omega)] at n0;go_simp
 iterate 1
  first
   | refine zd (fun K hK=>?_)
   | refine ze (fun K hK=>?_)
  go_simp;refine hK _ ?_;clear hK K
 refine zm (fun K hK=>?_);go_simp;refine (vJ c _).mono ?_;rintro e w1 ⟨rfl,rfl⟩;refine hK _ _ (fun h=>Bool.noConfusion (Eq.trans (Eq.symm (by kernel_rfl:_=false)) h)) (fun _=>hkZ) ?_;clear hK K;refine zm (fun K hK=>?_);go_simp;refine (wL 152 #[.pointer (some ⟨Kd,0,none⟩)] n hn (fun _=>0) _ (fun _ _=>rfl) (fun i W hi hb=>oA i Kd W ((hkX.keep hkZ (by omega)).below hb))).mono ?_;rintro e w2 ⟨R,rfl,ho,hb2⟩;refine hK _ _ (fun h=>Bool.noConfusion (Eq.trans (Eq.symm (by kernel_rfl:_=false)) h)) (fun _=>(hkZ.step hb2)) ?_;clear hK K
 iterate 1
  first
   | refine zd (fun K hK=>?_)
   | refine ze (fun K hK=>?_)
  go_simp;refine hK _ ?_;clear hK K
 have w2r:=(hb2.block B zl).trans z1;obtain ⟨q0,q1,q2⟩:=DB.of w2r;have qf0:=zg w2r 0;have qf1:=zg w2r 1;clear w2r z1;refine zm (fun K hK=>?_);go_simp;refine hK _ _ (fun h=>Bool.noConfusion (Eq.trans (Eq.symm (by kernel_rfl:_=false)) h)) (fun h=>Bool.noConfusion (Eq.trans (Eq.symm (by kernel_rfl:_=false)) h)) ?_;clear hK K;refine zo ?_;have HB:=hid (show Below B w ((w2.setCell ⟨B,0,none⟩ (.float .f64 c)).setCell ⟨B,1,none⟩ (.slice (some ⟨R,0,none⟩) n n)) from (((hkZ.step hb2).set 0 _).set 1 _).below x5 (Nat.le_refl _) (by omega));obtain ⟨e0,e1⟩:=xP (x:=.float .f64 c) (y:=.slice (some ⟨R,0,none⟩) n n) q0 q1;have ho':=(ho.other (B:=B) (o:=0) (by have:=ho.lt; omega) (.float .f64 c)).other (B:=B) (o:=1) (by have:=ho.lt; omega) (.slice (some ⟨R,0,none⟩) n n);have HO:=hid (ho'.base (b':=B) (by have:=ho.lt; omega));clear ho ho' hb2;generalize (w2.setCell ⟨B,0,none⟩ (.float .f64 c)).setCell ⟨B,1,none⟩ (.slice (some ⟨R,0,none⟩) n n)=W5 at *;go_wp2_with fail;exact bodyPost_ret (v:=.agg #[.float .f64 c,.slice (some ⟨R,0,none⟩) n n]) (by simp [results,Tryz.results150,go_sem,e0,e1]) rfl ⟨c,R,rfl,rfl,hc2,by rw [hB]; exact HO.out,by rw [hB]; exact HB.out⟩
theorem nR (n Kd N:Nat) (y z:Nat) (va vb:Value) (f g:Nat→Nat) (hn:n≤1000) (w:World) (hk:KB Kd w) (hN:CB N (.int .i64 n) w) (hf:zT w va n f) (hg:zT w vb n g) :
  Calls Tryz.prog 153 #[.agg #[.float .f64 y,va],.agg #[.float .f64 z,vb],.pointer (some ⟨Kd,0,none⟩),.pointer (some ⟨N,0,none⟩)] w (qW (cop .add y z) (fun i=>cop .add (f i) (g i)) n w):=by
 have AL:=al3 w (.cells #[.float .f64 y,va] 173) (.cells #[.float .f64 z,vb] 173) (.cells #[.float .f64 0,.slice none 0 0] 173);obtain ⟨ua,la,rfl⟩:∃ p c,va=.slice p n c:=by obtain ⟨p,c,rfl,-⟩:=hf; exact ⟨p,c,rfl⟩
 obtain ⟨ub,lb,rfl⟩:∃ p c,vb=.slice p n c:=by obtain ⟨p,c,rfl,-⟩:=hg; exact ⟨p,c,rfl⟩
 go_enter Tryz.func153,Tryz.ntmps153;go_upto_region 1 with fail
 have hkl:Kd<w.heap.size:=hk.2.2.2.2.2;have hNl:N<w.heap.size:=hN.2;have hkX:=hk.below AL.2.2.2.2;have hNX:=hN.below AL.2.2.2.2;have HF:=hid (fun (X W:World) (q:Nat) (hX:Below w.heap.size w X) (hq:w.heap.size≤q) (hw:zM X q W)=>(zT.keep hw hX hq hf:zT W _ n f));have HG:=hid (fun (X W:World) (q:Nat) (hX:Below w.heap.size w X) (hq:w.heap.size≤q) (hw:zM X q W)=>(zT.keep hw hX hq hg:zT W _ n g));clear hf hg;generalize hB:w.heap.size=B at *;generalize ((w.alloc (.cells #[.float .f64 y,.slice ua n la] 173)).alloc (.cells #[.float .f64 z,.slice ub n lb] 173)).alloc (.cells #[.float .f64 0,.slice none 0 0] 173)=X at *;obtain ⟨x1,x2,x3,x4,x5⟩:=AL;have hA:=DB.of x1;have hD:=DB.of x2;have HX:=hid x3;obtain ⟨k0,k1,k2,k3,k4,k5⟩:=id hkX;obtain ⟨n0,n1⟩:=id hNX;obtain ⟨a0,a1,a2⟩:=id hA;obtain ⟨d0,d1,d2⟩:=id hD;clear x1 x2 x3;refine zv [(0,1),(1,3),(2,1),(3,3),(4,1),(5,3),(7,3),(8,1),(6,0),(9,0),(10,1),(11,0)] (zM X (B+2)) (by kernel_rfl) (by kernel_rfl) (fun _ _ d _ _ h=>by cases d<;>exact h) ((zM.refl X (B+2)).drew) ?_;intro Z hZ hkZ;have z1:Z.heap[B+2]? = some (.cells #[.float .f64 0,.slice none 0 0] 173):=by rw [hZ]; exact HX.out
 have zl:=zj z1;clear hZ
 iterate 1
  first
   | refine zd (fun K hK=>?_)
   | refine ze (fun K hK=>?_)
  go_simp;refine hK _ ?_;clear hK K
 refine zh (v:=.func (.func 141) #[] #[]) rfl rfl (fun wk hwk=>?_) ?_
 ·rw [← hwk.cell k5 (by omega)] at k1;go_simp
 iterate 1
  first
   | refine zd (fun K hK=>?_)
   | refine ze (fun K hK=>?_)
  go_simp;refine hK _ ?_;clear hK K
 refine zh (v:=.float .f64 y) rfl rfl (fun wk hwk=>?_) ?_
 ·rw [← hwk.cell a2 (by omega)] at a0;go_simp
 iterate 1
  first
   | refine zd (fun K hK=>?_)
   | refine ze (fun K hK=>?_)
  go_simp;refine hK _ ?_;clear hK K
 refine zh (v:=.float .f64 z) rfl rfl (fun wk hwk=>?_) ?_
 ·rw [← hwk.cell d2 (by omega)] at d0;go_simp
 refine zh (v:=.int .i64 n) rfl rfl (fun wk hwk=>?_) ?_
 ·rw [← hwk.cell n1 (by omega)] at n0;go_simp
 iterate 1
  first
   | refine zd (fun K hK=>?_)
   | refine ze (fun K hK=>?_)
  go_simp;refine hK _ ?_;clear hK K
 refine zm (fun K hK=>?_);go_simp;refine (uC y z _).mono ?_;rintro e w1 ⟨s,m,rfl,s1,s2,rfl⟩;have hk6:=hkZ.drewN m;refine hK _ _ (fun h=>Bool.noConfusion (Eq.trans (Eq.symm (by kernel_rfl:_=false)) h)) (fun _=>hk6) ?_;clear hK K;refine zm (fun K hK=>?_);go_simp;refine (wL 154 #[.pointer (some ⟨Kd,0,none⟩),.pointer (some ⟨B,0,none⟩),.pointer (some ⟨B+1,0,none⟩)] n hn (fun i=>cop .add (f i) (g i)) _ (fun _ _=>rfl) (fun i W hi hb=>(oC i Kd B (B+1) n y z _ _ f g W hi ((hkX.keep hk6 (by omega)).below hb) ((hA.keep hk6 (by omega)).below hb) ((hD.keep hk6 (by omega)).below hb) ((HF.out X _ (B+2) x5 (by omega) hk6).below hb) ((HG.out X _ (B+2) x5 (by omega) hk6).below hb)))).mono ?_;rintro e w2 ⟨R,rfl,ho,hb2⟩;refine hK _ _ (fun h=>Bool.noConfusion (Eq.trans (Eq.symm (by kernel_rfl:_=false)) h)) (fun _=>(hk6.step hb2)) ?_;clear hK K
 iterate 1
  first
   | refine zd (fun K hK=>?_)
   | refine ze (fun K hK=>?_)
  go_simp;refine hK _ ?_;clear hK K
 have w2r:=(hb2.block (B+2) zl).trans z1;obtain ⟨q0,q1,q2⟩:=DB.of w2r;have qf0:=zg w2r 0;have qf1:=zg w2r 1;clear w2r z1;refine zm (fun K hK=>?_);go_simp;refine hK _ _ (fun h=>Bool.noConfusion (Eq.trans (Eq.symm (by kernel_rfl:_=false)) h)) (fun h=>Bool.noConfusion (Eq.trans (Eq.symm (by kernel_rfl:_=false)) h)) ?_;clear hK K;refine zo ?_;have HB:=hid (show Below B w ((w2.setCell ⟨B+2,0,none⟩ (.float .f64 s)).setCell ⟨B+2,1,none⟩ (.slice (some ⟨R,0,none⟩) n n)) from (((hk6.step hb2).set 0 _).set 1 _).below x5 (by omega) (by omega));obtain ⟨e0,e1⟩:=xP (x:=.float .f64 s) (y:=.slice (some ⟨R,0,none⟩) n n) q0 q1;have hR:B+3≤R:=by have:=ho.lt; have:=hk6.size; omega
 have ho':=(ho.other (B:=B+2) (o:=0) (by omega) (.float .f64 s)).other (B:=B+2) (o:=1) (by omega) (.slice (some ⟨R,0,none⟩) n n);have HO:=hid (ho'.base (b':=B) (by omega));clear ho ho' hb2;generalize (w2.setCell ⟨B+2,0,none⟩ (.float .f64 s)).setCell ⟨B+2,1,none⟩ (.slice (some ⟨R,0,none⟩) n n)=W5 at *;go_wp2_with fail;exact bodyPost_ret (v:=.agg #[.float .f64 s,.slice (some ⟨R,0,none⟩) n n]) (by simp [results,Tryz.results153,go_sem,e0,e1]) rfl ⟨s,R,rfl,s1,s2,by rw [hB]; exact HO.out,by rw [hB]; exact HB.out⟩
theorem nS (n Kd N:Nat) (y z:Nat) (va vb:Value) (f g:Nat→Nat) (hn:n≤1000) (w:World) (hk:KB Kd w) (hN:CB N (.int .i64 n) w) (hf:zT w va n f) (hg:zT w vb n g) :
  Calls Tryz.prog 155 #[.agg #[.float .f64 y,va],.agg #[.float .f64 z,vb],.pointer (some ⟨Kd,0,none⟩),.pointer (some ⟨N,0,none⟩)] w (qW (cop .sub y z) (fun i=>cop .sub (f i) (g i)) n w):=by
 have AL:=al3 w (.cells #[.float .f64 y,va] 173) (.cells #[.float .f64 z,vb] 173) (.cells #[.float .f64 0,.slice none 0 0] 173);obtain ⟨ua,la,rfl⟩:∃ p c,va=.slice p n c:=by obtain ⟨p,c,rfl,-⟩:=hf; exact ⟨p,c,rfl⟩
 obtain ⟨ub,lb,rfl⟩:∃ p c,vb=.slice p n c:=by obtain ⟨p,c,rfl,-⟩:=hg; exact ⟨p,c,rfl⟩
 go_enter Tryz.func155,Tryz.ntmps155;go_upto_region 1 with fail
 have hkl:Kd<w.heap.size:=hk.2.2.2.2.2;have hNl:N<w.heap.size:=hN.2;have hkX:=hk.below AL.2.2.2.2;have hNX:=hN.below AL.2.2.2.2;have HF:=hid (fun (X W:World) (q:Nat) (hX:Below w.heap.size w X) (hq:w.heap.size≤q) (hw:zM X q W)=>(zT.keep hw hX hq hf:zT W _ n f));have HG:=hid (fun (X W:World) (q:Nat) (hX:Below w.heap.size w X) (hq:w.heap.size≤q) (hw:zM X q W)=>(zT.keep hw hX hq hg:zT W _ n g));clear hf hg;generalize hB:w.heap.size=B at *;generalize ((w.alloc (.cells #[.float .f64 y,.slice ua n la] 173)).alloc (.cells #[.float .f64 z,.slice ub n lb] 173)).alloc (.cells #[.float .f64 0,.slice none 0 0] 173)=X at *;obtain ⟨x1,x2,x3,x4,x5⟩:=AL;have hA:=DB.of x1;have hD:=DB.of x2;have HX:=hid x3;obtain ⟨k0,k1,k2,k3,k4,k5⟩:=id hkX;obtain ⟨n0,n1⟩:=id hNX;obtain ⟨a0,a1,a2⟩:=id hA;obtain ⟨d0,d1,d2⟩:=id hD;clear x1 x2 x3;refine zv [(0,1),(1,3),(2,1),(3,3),(4,1),(5,3),(7,3),(8,1),(6,0),(9,0),(10,1),(11,0)] (zM X (B+2)) (by kernel_rfl) (by kernel_rfl) (fun _ _ d _ _ h=>by cases d<;>exact h) ((zM.refl X (B+2)).drew) ?_;intro Z hZ hkZ;have z1:Z.heap[B+2]? = some (.cells #[.float .f64 0,.slice none 0 0] 173):=by rw [hZ]; exact HX.out
 have zl:=zj z1;clear hZ
 iterate 1
  first
   | refine zd (fun K hK=>?_)
   | refine ze (fun K hK=>?_)
  go_simp;refine hK _ ?_;clear hK K
 refine zh (v:=.func (.func 142) #[] #[]) rfl rfl (fun wk hwk=>?_) ?_
 ·rw [← hwk.cell k5 (by omega)] at k2;go_simp
 iterate 1
  first
   | refine zd (fun K hK=>?_)
   | refine ze (fun K hK=>?_)
  go_simp;refine hK _ ?_;clear hK K
 refine zh (v:=.float .f64 y) rfl rfl (fun wk hwk=>?_) ?_
 ·rw [← hwk.cell a2 (by omega)] at a0;go_simp
 iterate 1
  first
   | refine zd (fun K hK=>?_)
   | refine ze (fun K hK=>?_)
  go_simp;refine hK _ ?_;clear hK K
 refine zh (v:=.float .f64 z) rfl rfl (fun wk hwk=>?_) ?_
 ·rw [← hwk.cell d2 (by omega)] at d0;go_simp
 refine zh (v:=.int .i64 n) rfl rfl (fun wk hwk=>?_) ?_
 ·rw [← hwk.cell n1 (by omega)] at n0;go_simp
 iterate 1
  first
   | refine zd (fun K hK=>?_)
   | refine ze (fun K hK=>?_)
  go_simp;refine hK _ ?_;clear hK K
 refine zm (fun K hK=>?_);go_simp;refine (uD y z _).mono ?_;rintro e w1 ⟨s,m,rfl,s1,s2,rfl⟩;have hk6:=hkZ.drewN m;refine hK _ _ (fun h=>Bool.noConfusion (Eq.trans (Eq.symm (by kernel_rfl:_=false)) h)) (fun _=>hk6) ?_;clear hK K;refine zm (fun K hK=>?_);go_simp;refine (wL 156 #[.pointer (some ⟨Kd,0,none⟩),.pointer (some ⟨B,0,none⟩),.pointer (some ⟨B+1,0,none⟩)] n hn (fun i=>cop .sub (f i) (g i)) _ (fun _ _=>rfl) (fun i W hi hb=>(oD i Kd B (B+1) n y z _ _ f g W hi ((hkX.keep hk6 (by omega)).below hb) ((hA.keep hk6 (by omega)).below hb) ((hD.keep hk6 (by omega)).below hb) ((HF.out X _ (B+2) x5 (by omega) hk6).below hb) ((HG.out X _ (B+2) x5 (by omega) hk6).below hb)))).mono ?_;rintro e w2 ⟨R,rfl,ho,hb2⟩;refine hK _ _ (fun h=>Bool.noConfusion (Eq.trans (Eq.symm (by kernel_rfl:_=false)) h)) (fun _=>(hk6.step hb2)) ?_;clear hK K
 iterate 1
  first
   | refine zd (fun K hK=>?_)
   | refine ze (fun K hK=>?_)
  go_simp;refine hK _ ?_;clear hK K
 have w2r:=(hb2.block (B+2) zl).trans z1;obtain ⟨q0,q1,q2⟩:=DB.of w2r;have qf0:=zg w2r 0;have qf1:=zg w2r 1;clear w2r z1;refine zm (fun K hK=>?_);go_simp;refine hK _ _ (fun h=>Bool.noConfusion (Eq.trans (Eq.symm (by kernel_rfl:_=false)) h)) (fun h=>Bool.noConfusion (Eq.trans (Eq.symm (by kernel_rfl:_=false)) h)) ?_;clear hK K;refine zo ?_;have HB:=hid (show Below B w ((w2.setCell ⟨B+2,0,none⟩ (.float .f64 s)).setCell ⟨B+2,1,none⟩ (.slice (some ⟨R,0,none⟩) n n)) from (((hk6.step hb2).set 0 _).set 1 _).below x5 (by omega) (by omega));obtain ⟨e0,e1⟩:=xP (x:=.float .f64 s) (y:=.slice (some ⟨R,0,none⟩) n n) q0 q1;have hR:B+3≤R:=by have:=ho.lt; have:=hk6.size; omega
 have ho':=(ho.other (B:=B+2) (o:=0) (by omega) (.float .f64 s)).other (B:=B+2) (o:=1) (by omega) (.slice (some ⟨R,0,none⟩) n n);have HO:=hid (ho'.base (b':=B) (by omega));clear ho ho' hb2;generalize (w2.setCell ⟨B+2,0,none⟩ (.float .f64 s)).setCell ⟨B+2,1,none⟩ (.slice (some ⟨R,0,none⟩) n n)=W5 at *;go_wp2_with fail;exact bodyPost_ret (v:=.agg #[.float .f64 s,.slice (some ⟨R,0,none⟩) n n]) (by simp [results,Tryz.results155,go_sem,e0,e1]) rfl ⟨s,R,rfl,s1,s2,by rw [hB]; exact HO.out,by rw [hB]; exact HB.out⟩
theorem nT (n Kd N:Nat) (y z:Nat) (va vb:Value) (f g:Nat→Nat) (hn:n≤1000) (w:World) (hk:KB Kd w) (hN:CB N (.int .i64 n) w) (hf:zT w va n f) (hg:zT w vb n g) :
  Calls Tryz.prog 157 #[.agg #[.float .f64 y,va],.agg #[.float .f64 z,vb],.pointer (some ⟨Kd,0,none⟩),.pointer (some ⟨N,0,none⟩)] w (qW (cop .mul y z) (fun i=>cop .add (cop .mul (f i) (zk z)) (cop .mul (zk y) (g i))) n w):=by
 have AL:=al3 w (.cells #[.float .f64 y,va] 173) (.cells #[.float .f64 z,vb] 173) (.cells #[.float .f64 0,.slice none 0 0] 173);obtain ⟨ua,la,rfl⟩:∃ p c,va=.slice p n c:=by obtain ⟨p,c,rfl,-⟩:=hf; exact ⟨p,c,rfl⟩
 obtain ⟨ub,lb,rfl⟩:∃ p c,vb=.slice p n c:=by obtain ⟨p,c,rfl,-⟩:=hg; exact ⟨p,c,rfl⟩
 go_enter Tryz.func157,Tryz.ntmps157;go_upto_region 1 with fail
 have hkl:Kd<w.heap.size:=hk.2.2.2.2.2;have hNl:N<w.heap.size:=hN.2;have hkX:=hk.below AL.2.2.2.2;have hNX:=hN.below AL.2.2.2.2;have HF:=hid (fun (X W:World) (q:Nat) (hX:Below w.heap.size w X) (hq:w.heap.size≤q) (hw:zM X q W)=>(zT.keep hw hX hq hf:zT W _ n f));have HG:=hid (fun (X W:World) (q:Nat) (hX:Below w.heap.size w X) (hq:w.heap.size≤q) (hw:zM X q W)=>(zT.keep hw hX hq hg:zT W _ n g));clear hf hg;generalize hB:w.heap.size=B at *;generalize ((w.alloc (.cells #[.float .f64 y,.slice ua n la] 173)).alloc (.cells #[.float .f64 z,.slice ub n lb] 173)).alloc (.cells #[.float .f64 0,.slice none 0 0] 173)=X at *;obtain ⟨x1,x2,x3,x4,x5⟩:=AL;have hA:=DB.of x1;have hD:=DB.of x2;have HX:=hid x3;obtain ⟨k0,k1,k2,k3,k4,k5⟩:=id hkX;obtain ⟨n0,n1⟩:=id hNX;obtain ⟨a0,a1,a2⟩:=id hA;obtain ⟨d0,d1,d2⟩:=id hD;clear x1 x2 x3;refine zv [(0,1),(1,3),(2,1),(3,3),(4,1),(5,3),(7,3),(8,1),(6,0),(9,0),(10,1),(11,0)] (zM X (B+2)) (by kernel_rfl) (by kernel_rfl) (fun _ _ d _ _ h=>by cases d<;>exact h) ((zM.refl X (B+2)).drew) ?_;intro Z hZ hkZ;have z1:Z.heap[B+2]? = some (.cells #[.float .f64 0,.slice none 0 0] 173):=by rw [hZ]; exact HX.out
 have zl:=zj z1;clear hZ
 iterate 1
  first
   | refine zd (fun K hK=>?_)
   | refine ze (fun K hK=>?_)
  go_simp;refine hK _ ?_;clear hK K
 refine zh (v:=.func (.func 143) #[] #[]) rfl rfl (fun wk hwk=>?_) ?_
 ·rw [← hwk.cell k5 (by omega)] at k3;go_simp
 iterate 1
  first
   | refine zd (fun K hK=>?_)
   | refine ze (fun K hK=>?_)
  go_simp;refine hK _ ?_;clear hK K
 refine zh (v:=.float .f64 y) rfl rfl (fun wk hwk=>?_) ?_
 ·rw [← hwk.cell a2 (by omega)] at a0;go_simp
 iterate 1
  first
   | refine zd (fun K hK=>?_)
   | refine ze (fun K hK=>?_)
  go_simp;refine hK _ ?_;clear hK K
 refine zh (v:=.float .f64 z) rfl rfl (fun wk hwk=>?_) ?_
 ·rw [← hwk.cell d2 (by omega)] at d0;go_simp
 refine zh (v:=.int .i64 n) rfl rfl (fun wk hwk=>?_) ?_
 ·rw [← hwk.cell n1 (by omega)] at n0;go_simp
 iterate 1
  first
   | refine zd (fun K hK=>?_)
   | refine ze (fun K hK=>?_)
  go_simp;refine hK _ ?_;clear hK K
 refine zm (fun K hK=>?_);go_simp;refine (vK y z _).mono ?_;rintro e w1 ⟨s,m,rfl,s1,s2,rfl⟩;have hk6:=hkZ.drewN m;refine hK _ _ (fun h=>Bool.noConfusion (Eq.trans (Eq.symm (by kernel_rfl:_=false)) h)) (fun _=>hk6) ?_;clear hK K;refine zm (fun K hK=>?_);go_simp;refine (wL 158 #[.pointer (some ⟨Kd,0,none⟩),.pointer (some ⟨B,0,none⟩),.pointer (some ⟨B+1,0,none⟩)] n hn (fun i=>cop .add (cop .mul (f i) (zk z)) (cop .mul (zk y) (g i))) _ (fun _ _=>rfl) (fun i W hi hb=>(oE i Kd B (B+1) n y z _ _ f g W hi ((hkX.keep hk6 (by omega)).below hb) ((hA.keep hk6 (by omega)).below hb) ((hD.keep hk6 (by omega)).below hb) ((HF.out X _ (B+2) x5 (by omega) hk6).below hb) ((HG.out X _ (B+2) x5 (by omega) hk6).below hb)))).mono ?_;rintro e w2 ⟨R,rfl,ho,hb2⟩;refine hK _ _ (fun h=>Bool.noConfusion (Eq.trans (Eq.symm (by kernel_rfl:_=false)) h)) (fun _=>(hk6.step hb2)) ?_;clear hK K
 iterate 1
  first
   | refine zd (fun K hK=>?_)
   | refine ze (fun K hK=>?_)
  go_simp;refine hK _ ?_;clear hK K
 have w2r:=(hb2.block (B+2) zl).trans z1;obtain ⟨q0,q1,q2⟩:=DB.of w2r;have qf0:=zg w2r 0;have qf1:=zg w2r 1;clear w2r z1;refine zm (fun K hK=>?_);go_simp;refine hK _ _ (fun h=>Bool.noConfusion (Eq.trans (Eq.symm (by kernel_rfl:_=false)) h)) (fun h=>Bool.noConfusion (Eq.trans (Eq.symm (by kernel_rfl:_=false)) h)) ?_;clear hK K;refine zo ?_;have HB:=hid (show Below B w ((w2.setCell ⟨B+2,0,none⟩ (.float .f64 s)).setCell ⟨B+2,1,none⟩ (.slice (some ⟨R,0,none⟩) n n)) from (((hk6.step hb2).set 0 _).set 1 _).below x5 (by omega) (by omega));obtain ⟨e0,e1⟩:=xP (x:=.float .f64 s) (y:=.slice (some ⟨R,0,none⟩) n n) q0 q1;have hR:B+3≤R:=by have:=ho.lt; have:=hk6.size; omega
 have ho':=(ho.other (B:=B+2) (o:=0) (by omega) (.float .f64 s)).other (B:=B+2) (o:=1) (by omega) (.slice (some ⟨R,0,none⟩) n n);have HO:=hid (ho'.base (b':=B) (by omega));clear ho ho' hb2;generalize (w2.setCell ⟨B+2,0,none⟩ (.float .f64 s)).setCell ⟨B+2,1,none⟩ (.slice (some ⟨R,0,none⟩) n n)=W5 at *;go_wp2_with fail;exact bodyPost_ret (v:=.agg #[.float .f64 s,.slice (some ⟨R,0,none⟩) n n]) (by simp [results,Tryz.results157,go_sem,e0,e1]) rfl ⟨s,R,rfl,s1,s2,by rw [hB]; exact HO.out,by rw [hB]; exact HB.out⟩
theorem nU (n Kd N:Nat) (y z:Nat) (va vb:Value) (f g:Nat→Nat) (hn:n≤1000) (w:World) (hk:KB Kd w) (hN:CB N (.int .i64 n) w) (hf:zT w va n f) (hg:zT w vb n g) :
  Calls Tryz.prog 159 #[.agg #[.float .f64 y,va],.agg #[.float .f64 z,vb],.pointer (some ⟨Kd,0,none⟩),.pointer (some ⟨N,0,none⟩)] w (qW (cop .quo y z) (fun i=>cop .quo (cop .sub (f i) (cop .mul (cop .quo y z) (g i))) (zk z)) n w):=by
 have AL:=al3 w (.cells #[.float .f64 y,va] 173) (.cells #[.float .f64 z,vb] 173) (.cells #[.float .f64 0,.slice none 0 0] 173);obtain ⟨ua,la,rfl⟩:∃ p c,va=.slice p n c:=by obtain ⟨p,c,rfl,-⟩:=hf; exact ⟨p,c,rfl⟩
 obtain ⟨ub,lb,rfl⟩:∃ p c,vb=.slice p n c:=by obtain ⟨p,c,rfl,-⟩:=hg; exact ⟨p,c,rfl⟩
 go_enter Tryz.func159,Tryz.ntmps159;go_upto_region 1 with fail
 have hkl:Kd<w.heap.size:=hk.2.2.2.2.2;have hNl:N<w.heap.size:=hN.2;have hkX:=hk.below AL.2.2.2.2;have hNX:=hN.below AL.2.2.2.2;have HF:=hid (fun (X W:World) (q:Nat) (hX:Below w.heap.size w X) (hq:w.heap.size≤q) (hw:zM X q W)=>(zT.keep hw hX hq hf:zT W _ n f));have HG:=hid (fun (X W:World) (q:Nat) (hX:Below w.heap.size w X) (hq:w.heap.size≤q) (hw:zM X q W)=>(zT.keep hw hX hq hg:zT W _ n g));clear hf hg;generalize hB:w.heap.size=B at *;generalize ((w.alloc (.cells #[.float .f64 y,.slice ua n la] 173)).alloc (.cells #[.float .f64 z,.slice ub n lb] 173)).alloc (.cells #[.float .f64 0,.slice none 0 0] 173)=X at *;obtain ⟨x1,x2,x3,x4,x5⟩:=AL;have hA:=DB.of x1;have hD:=DB.of x2;have HX:=hid x3;obtain ⟨k0,k1,k2,k3,k4,k5⟩:=id hkX;obtain ⟨n0,n1⟩:=id hNX;obtain ⟨a0,a1,a2⟩:=id hA;obtain ⟨d0,d1,d2⟩:=id hD;clear x1 x2 x3;go_wp2_with fail;refine (tN y z _).mono ?_;rintro e w1 ⟨s,m,rfl,s1,s2,rfl⟩;go_upto_region 2 with fail
 obtain ⟨p1,p4,p5⟩:=al1 X (.cells #[.float .f64 s] 31);rw [x4] at p1 p4;have p5':Below X.heap.size X ((X.alloc (.cells #[.float .f64 s] 31)).drewN m):=below_drewN p5 m;have p1':((X.alloc (.cells #[.float .f64 s] 31)).drewN m).heap[B+3]? = some (.cells #[.float .f64 s] 31):=p1;have p4':((X.alloc (.cells #[.float .f64 s] 31)).drewN m).heap.size=B+4:=p4;clear p1 p4 p5 k0 k1 k2 k3 k4 k5 n0 n1 a0 a1 a2 d0 d1 d2;have hs:(X.heap.size=B+3)=True:=by rw [x4]; simp
 generalize (X.alloc (.cells #[.float .f64 s] 31)).drewN m=Y at *;have y5:Below B w Y:=x5.trans (p5'.mono (by omega));have HY:=hid ((p5'.block (B+2) (by omega)).trans HX.out);have hQ:=CB.of p1';have hkY:=hkX.below p5';have hNY:=hNX.below p5';have hAY:=hA.below p5';have hDY:=hD.below p5';obtain ⟨c0,c1⟩:=id hQ;obtain ⟨n0,n1⟩:=id hNY;clear p1' hkX hNX hA hD HX hs p5' x4 x5;refine zv [(0,3),(1,3),(2,1),(3,0),(4,1),(5,0)] (zM Y (B+2)) (by kernel_rfl) (by kernel_rfl) (fun _ _ d _ _ h=>by cases d<;>exact h) ((zM.refl Y (B+2)).drew) ?_;intro Z hZ hkZ;have z1:Z.heap[B+2]? = some (.cells #[.float .f64 0,.slice none 0 0] 173):=by rw [hZ]; exact HY.out
 have zl:=zj z1;clear hZ;refine zh (v:=.float .f64 s) rfl rfl (fun wk hwk=>?_) ?_
 ·rw [← hwk.cell c1 (by omega)] at c0;go_simp
 refine zh (v:=.int .i64 n) rfl rfl (fun wk hwk=>?_) ?_
 ·rw [← hwk.cell n1 (by omega)] at n0;go_simp
 iterate 1
  first
   | refine zd (fun K hK=>?_)
   | refine ze (fun K hK=>?_)
  go_simp;refine hK _ ?_;clear hK K
 refine zm (fun K hK=>?_);go_simp;refine (wL 160 #[.pointer (some ⟨Kd,0,none⟩),.pointer (some ⟨B,0,none⟩),.pointer (some ⟨B+3,0,none⟩),.pointer (some ⟨B+1,0,none⟩)] n hn (fun i=>cop .quo (cop .sub (f i) (cop .mul (cop .quo y z) (g i))) (zk z)) _ (fun _ _=>rfl) (fun i W hi hb=>s1 ▸ (oF i Kd B (B+1) (B+3) n y z s _ _ f g W hi ((hkY.keep hkZ (by omega)).below hb) ((hAY.keep hkZ (by omega)).below hb) ((hDY.keep hkZ (by omega)).below hb) ((hQ.keep hkZ (by omega)).below hb) ((HF.out Y _ (B+2) y5 (by omega) hkZ).below hb) ((HG.out Y _ (B+2) y5 (by omega) hkZ).below hb)))).mono ?_;rintro e w2 ⟨R,rfl,ho,hb2⟩;refine hK _ _ (fun h=>Bool.noConfusion (Eq.trans (Eq.symm (by kernel_rfl:_=false)) h)) (fun _=>(hkZ.step hb2)) ?_;clear hK K
 iterate 1
  first
   | refine zd (fun K hK=>?_)
   | refine ze (fun K hK=>?_)
  go_simp;refine hK _ ?_;clear hK K
 have w2r:=(hb2.block (B+2) zl).trans z1;obtain ⟨q0,q1,q2⟩:=DB.of w2r;have qf0:=zg w2r 0;have qf1:=zg w2r 1;clear w2r z1;refine zm (fun K hK=>?_);go_simp;refine hK _ _ (fun h=>Bool.noConfusion (Eq.trans (Eq.symm (by kernel_rfl:_=false)) h)) (fun h=>Bool.noConfusion (Eq.trans (Eq.symm (by kernel_rfl:_=false)) h)) ?_;clear hK K;refine zo ?_;have HB:=hid (show Below B w ((w2.setCell ⟨B+2,0,none⟩ (.float .f64 s)).setCell ⟨B+2,1,none⟩ (.slice (some ⟨R,0,none⟩) n n)) from (((hkZ.step hb2).set 0 _).set 1 _).below y5 (by omega) (by omega));obtain ⟨e0,e1⟩:=xP (x:=.float .f64 s) (y:=.slice (some ⟨R,0,none⟩) n n) q0 q1;have hR:B+4≤R:=by have:=ho.lt; have:=hkZ.size; omega
 have ho':=(ho.other (B:=B+2) (o:=0) (by omega) (.float .f64 s)).other (B:=B+2) (o:=1) (by omega) (.slice (some ⟨R,0,none⟩) n n);have HO:=hid (ho'.base (b':=B) (by omega));clear ho ho' hb2;generalize (w2.setCell ⟨B+2,0,none⟩ (.float .f64 s)).setCell ⟨B+2,1,none⟩ (.slice (some ⟨R,0,none⟩) n n)=W5 at *;go_wp2_with fail;exact bodyPost_ret (v:=.agg #[.float .f64 s,.slice (some ⟨R,0,none⟩) n n]) (by simp [results,Tryz.results159,go_sem,e0,e1]) rfl ⟨s,R,rfl,s1,s2,by rw [hB]; exact HO.out,by rw [hB]; exact HB.out⟩
def sJ (K N:Nat):Value:=.agg #[.func (.func 150) #[] #[.pointer (some ⟨K,0,none⟩),.pointer (some ⟨N,0,none⟩)],.func (.func 153) #[] #[.pointer (some ⟨K,0,none⟩),.pointer (some ⟨N,0,none⟩)],.func (.func 155) #[] #[.pointer (some ⟨K,0,none⟩),.pointer (some ⟨N,0,none⟩)],.func (.func 157) #[] #[.pointer (some ⟨K,0,none⟩),.pointer (some ⟨N,0,none⟩)],.func (.func 159) #[] #[.pointer (some ⟨K,0,none⟩),.pointer (some ⟨N,0,none⟩)]]
def rv (w:World) (b j c n:Nat) (f:Nat→Nat) (R:Nat):Prop:=
 ∃ y u,w.cell? ⟨b,j*2,none⟩=some (.float .f64 y)∧zk y=c∧y<18446744073709551616∧w.cell? ⟨b,j*2+1,none⟩=some u∧zT w u n f∧u.ownBlock≠some R
theorem rv.below {w w':World} {b j c n R:Nat} {f:Nat→Nat} (h:rv w b j c n f R) (hb:Below w.heap.size w w') (hl:b<w.heap.size):rv w' b j c n f R:=by
 obtain ⟨y,u,h1,h2,h3,h4,h5,h6⟩:=h;exact ⟨y,u,by rw [(zA hb).1 _ _ hl]; exact h1,h2,h3,by rw [(zA hb).1 _ _ hl]; exact h4,h5.below hb,h6⟩
def DualO (c:Nat) (f:Nat→Nat) (n R:Nat) (w:World) (e:Ending) (w':World):Prop:=
 ∃ y u,e=.returned (.agg #[.float .f64 y,u])∧zk y=c∧y<18446744073709551616∧zT w' u n f∧u.ownBlock≠some R∧Below w.heap.size w w'
theorem nV (o:OpD) (n i len Kd N:Nat) (hn:n≤1000) (x r:Nat→Nat) (d:Nat→Nat→Nat) (XB R cap xcap:Nat) (w:World) (hst:xg o i n=true) (hc:o.c<18446744073709551616) (hk:KB Kd w) (hN:CB N (.int .i64 n) w)
  (hXl:XB<w.heap.size) (hx:∀ v,v<n→rv w XB v (x v) n (fun k=>if k=v then 4607182418800017408 else 0) R) (hi:i<len) (_:len≤60) (hR:R<w.heap.size)
  (hr:∀ j,j<i→rv w R j (r j) n (d j) R) :
  Calls Tryz.prog 161 #[sJ Kd N,opV o,.slice (some ⟨XB,0,none⟩) n xcap,.slice (some ⟨R,0,none⟩) len cap] w (DualO (v9 o x r) (ru o r (v9 o x r) d) n R w):=by
 obtain ⟨k,a,b,c⟩:=o;have AL:=al3 w (.cells #[.func (.func 150) #[] #[.pointer (some ⟨Kd,0,none⟩),.pointer (some ⟨N,0,none⟩)],.func (.func 153) #[] #[.pointer (some ⟨Kd,0,none⟩),.pointer (some ⟨N,0,none⟩)],.func (.func 155) #[] #[.pointer (some ⟨Kd,0,none⟩),.pointer (some ⟨N,0,none⟩)],.func (.func 157) #[] #[.pointer (some ⟨Kd,0,none⟩),.pointer (some ⟨N,0,none⟩)],.func (.func 159) #[] #[.pointer (some ⟨Kd,0,none⟩),.pointer (some ⟨N,0,none⟩)]] 169) (.cells #[.int .i64 k,.int .i64 a,.int .i64 b,.float .f64 c] 66) (.cells #[.float .f64 0,.slice none 0 0] 173);unfold opV v9 ru sJ;unfold xg at hst;simp only [] at hst hc ⊢;go_enter Tryz.func161,Tryz.ntmps161;go_upto_region 1 with fail
 have hkl:Kd<w.heap.size:=hk.2.2.2.2.2;have hNl:N<w.heap.size:=hN.2;have hkX:=hk.below AL.2.2.2.2;have hNX:=hN.below AL.2.2.2.2;have hcw:=(zA AL.2.2.2.2).1
 have HX2:=hid (fun v (hv:v<n)=>(show ∃ y p l,_=_∧zk y=x v∧y<18446744073709551616∧_=_∧zT w (.slice p n l) n _∧(Value.slice p n l).ownBlock≠some R by
  obtain ⟨y,u,y1,y2,y3,u1,u2,u3⟩:=hx v hv;obtain ⟨p,l,rfl,u4⟩:=id u2;exact ⟨y,p,l,(hcw _ _ hXl).trans y1,y2,y3,(hcw _ _ hXl).trans u1,u2,u3⟩))
 have HR2:=hid (fun j (hj:j<i)=>(show ∃ y p l,_=_∧zk y=r j∧y<18446744073709551616∧_=_∧zT w (.slice p n l) n _∧(Value.slice p n l).ownBlock≠some R by
  obtain ⟨y,u,y1,y2,y3,u1,u2,u3⟩:=hr j hj;obtain ⟨p,l,rfl,u4⟩:=id u2;exact ⟨y,p,l,(hcw _ _ hR).trans y1,y2,y3,(hcw _ _ hR).trans u1,u2,u3⟩))
 clear hcw;clear hx hr hk hN;generalize hB:w.heap.size=B at *;generalize ((w.alloc (.cells #[.func (.func 150) #[] #[.pointer (some ⟨Kd,0,none⟩),.pointer (some ⟨N,0,none⟩)],.func (.func 153) #[] #[.pointer (some ⟨Kd,0,none⟩),.pointer (some ⟨N,0,none⟩)],.func (.func 155) #[] #[.pointer (some ⟨Kd,0,none⟩),.pointer (some ⟨N,0,none⟩)],.func (.func 157) #[] #[.pointer (some ⟨Kd,0,none⟩),.pointer (some ⟨N,0,none⟩)],.func (.func 159) #[] #[.pointer (some ⟨Kd,0,none⟩),.pointer (some ⟨N,0,none⟩)]] 169)).alloc (.cells #[.int .i64 k,.int .i64 a,.int .i64 b,.float .f64 c] 66)).alloc (.cells #[.float .f64 0,.slice none 0 0] 173)=X at *;obtain ⟨x1,x2,x3,x4,x5⟩:=AL;have g0:=(zf x1 0)
 have g1:=(zf x1 1)
 have g2:=(zf x1 2)
 have g3:=(zf x1 3)
 have g4:=(zf x1 4)
 have p0:=(zf x2 0)
 have p1:=(zf x2 1)
 have p2:=(zf x2 2)
 have p3:=(zf x2 3)
 have gl:=zj x1;have pl:=zj x2;have HX:=hid x3;simp only [List.getElem?_toArray,List.getElem?_cons_zero,List.getElem?_cons_succ] at g0 g1 g2 g3 g4 p0 p1 p2 p3;clear x1 x2 x3;by_cases k0:k=0
 ·subst k0;clear HX2 HR2;go_wp2_with fail;refine (nQ c n Kd N hc hn _ hkX hNX).mono ?_;rintro e w2 ⟨y,R2,rfl,y1,y2,ho,hb2⟩;have w2r:=(hb2.block (B+2) (by omega)).trans HX.out;obtain ⟨q0,q1,q2⟩:=DB.of w2r;have qf0:=zg w2r 0;have qf1:=zg w2r 1;clear w2r HX;go_wp2_with fail;have hkk:zM X (B+2) w2:=(zM.refl X (B+2)).step hb2;have HB:=hid (show Below B w ((w2.setCell ⟨B+2,0,none⟩ (.float .f64 y)).setCell ⟨B+2,1,none⟩ (.slice (some ⟨R2,0,none⟩) n n)) from ((hkk.set 0 _).set 1 _).below x5 (by omega) (by omega));obtain ⟨e0,e1⟩:=xP (x:=.float .f64 y) (y:=.slice (some ⟨R2,0,none⟩) n n) q0 q1;have hlt:=ho.lt;have ho':=(ho.other (B:=B+2) (o:=0) (by omega) (.float .f64 y)).other (B:=B+2) (o:=1) (by omega) (.slice (some ⟨R2,0,none⟩) n n);have HO:=hid (ho'.flts (by omega));clear ho ho' hb2 hkk;generalize (w2.setCell ⟨B+2,0,none⟩ (.float .f64 y)).setCell ⟨B+2,1,none⟩ (.slice (some ⟨R2,0,none⟩) n n)=W5 at *;refine bodyPost_ret (v:=.agg #[.float .f64 y,.slice (some ⟨R2,0,none⟩) n n]) (by simp [results,Tryz.results161,go_sem,e0,e1]) rfl ⟨y,_,rfl,y1,y2,HO.out,fun h=>?_,by rw [hB]; exact HB.out⟩;simp only [Value.ownBlock,Option.some.injEq] at h;omega
 ·by_cases k1:k=1
  ·subst k1;simp only [if_neg k0,if_true,Bool.and_eq_true] at hst;obtain ⟨A,rfl,hA⟩:=yu hst.1;obtain ⟨y,p,l,y1,y2,y3,u1,u2,u3⟩:=HX2.out A (by omega);have U2:=hid (fun W (h:zM X (B+2) W)=>u2.keepB hB h x5 (by omega));have hAn:(A:Int)<(n:Int):=by omega
   have z1:=HX.out;obtain ⟨q0,q1,q2⟩:=DB.of z1;have qf0:=zg z1 0;have qf1:=zg z1 1;have hXX:XB<X.heap.size:=by omega
   clear HX2 HR2 u2 z1 HX hst;go_wp2_with fail;have hkk:=((zM.refl X (B+2)).set 0 (.float .f64 y)).set 1 (.slice p n l);have HB:=hid (hkk.below x5 (by omega) (by omega));obtain ⟨e0,e1⟩:=xP (x:=.float .f64 y) (y:=.slice p n l) q0 q1;have HU:=hid (U2.out _ hkk);clear hkk;generalize (X.setCell ⟨B+2,0,none⟩ (.float .f64 y)).setCell ⟨B+2,1,none⟩ (.slice p n l)=W5 at *;exact bodyPost_ret (v:=.agg #[.float .f64 y,.slice p n l]) (by simp [results,Tryz.results161,go_sem,e0,e1]) rfl ⟨y,_,rfl,y2,y3,HU.out,u3,by rw [hB]; exact HB.out⟩
  ·have hk:2≤k∧k≤5:=by
    rw [if_neg k0,if_neg k1] at hst;by_cases h:2≤k∧k≤5
    ·exact h
    ·rw [if_neg h] at hst; cases hst
   rw [if_neg k0,if_neg k1,if_pos hk] at hst;simp only [Bool.and_eq_true] at hst;obtain ⟨A,rfl,hA⟩:=yu hst.1;obtain ⟨A2,rfl,hA2⟩:=yu hst.2.1;obtain ⟨y,p,l,y1,y2,y3,u1,u2,u3⟩:=HR2.out A (by omega);obtain ⟨z,p',l',z1,z2,z3,v1,v2,v3⟩:=HR2.out A2 (by omega);have U2:=hid (fun W (h:zM X (B+2) W)=>u2.keepB hB h x5 (by omega));have V2:=hid (fun W (h:zM X (B+2) W)=>v2.keepB hB h x5 (by omega));have YZ:=hid (show zk y=r A∧zk z=r A2 from ⟨y2,z2⟩);have a1:(A:Int)<(len:Int):=by omega
   have a2:(A2:Int)<(len:Int):=by omega
   have hRX:R<X.heap.size:=by omega
   clear HX2 HR2 u2 v2 y2 z2 hst u3 v3;have hk':k=2∨k=3∨k=4∨k=5:=by omega
   rcases hk' with rfl | rfl | rfl | rfl
   ·go_wp2_with fail;refine zv [(0,1),(1,3),(2,1),(3,1),(4,3),(5,1),(6,3),(7,1),(8,1),(9,3),(10,1),(11,3),(12,0),(13,0)] (zM X (B+2)) (by kernel_rfl) (by kernel_rfl) (fun _ _ d _ _ h=>by cases d<;>exact h) ((zM.refl X (B+2)).drew) ?_;intro Z hZ hkZ;have zz:=(congrArg (fun W=>W.heap[B+2]?) hZ).trans HX.out;have zl:=zj zz;clear hZ
    iterate 1
     first
      | refine zd (fun K hK=>?_)
      | refine ze (fun K hK=>?_)
     go_simp;refine hK _ ?_;clear hK K
    refine zh (v:=.func (.func 153) #[] #[.pointer (some ⟨Kd,0,none⟩),.pointer (some ⟨N,0,none⟩)]) rfl rfl (fun wk hwk=>?_) ?_
    ·rw [← hwk.cell gl (by omega)] at g1;go_simp
    iterate 2
     first
      | refine zd (fun K hK=>?_)
      | refine ze (fun K hK=>?_)
     go_simp;refine hK _ ?_;clear hK K
    refine zh (v:=.int .i64 A) rfl rfl (fun wk hwk=>?_) ?_
    ·rw [← hwk.cell pl (by omega)] at p1;go_simp
    iterate 1
     first
      | refine zd (fun K hK=>?_)
      | refine ze (fun K hK=>?_)
     go_simp;refine hK _ ?_;clear hK K
    refine zh (v:=.agg #[.float .f64 y,.slice p n l]) rfl rfl (fun wk hwk=>?_) ?_
    ·rw [← hwk.cell hRX (by omega)] at y1 u1;go_simp
    iterate 2
     first
      | refine zd (fun K hK=>?_)
      | refine ze (fun K hK=>?_)
     go_simp;refine hK _ ?_;clear hK K
    refine zh (v:=.int .i64 A2) rfl rfl (fun wk hwk=>?_) ?_
    ·rw [← hwk.cell pl (by omega)] at p2;go_simp
    iterate 1
     first
      | refine zd (fun K hK=>?_)
      | refine ze (fun K hK=>?_)
     go_simp;refine hK _ ?_;clear hK K
    refine zh (v:=.agg #[.float .f64 z,.slice p' n l']) rfl rfl (fun wk hwk=>?_) ?_
    ·rw [← hwk.cell hRX (by omega)] at z1 v1;go_simp
    refine zm (fun K hK=>?_);go_simp;refine (nR n Kd N y z _ _ (d A) (d A2) hn Z (hkX.keep hkZ (by omega)) (hNX.keep hkZ (by omega)) (U2.out Z hkZ) (V2.out Z hkZ)).mono ?_;rintro e w2 ⟨s,R2,rfl,s1,s2,ho,hb2⟩;refine hK _ _ (fun h=>Bool.noConfusion (Eq.trans (Eq.symm (by kernel_rfl:_=false)) h)) (fun _=>(hkZ.step hb2)) ?_;clear hK K;have w2r:=(hb2.block (B+2) zl).trans zz;obtain ⟨q0,q1,q2⟩:=DB.of w2r;have qf0:=zg w2r 0;have qf1:=zg w2r 1;clear w2r zz;refine zm (fun K hK=>?_);go_simp;refine hK _ _ (fun h=>Bool.noConfusion (Eq.trans (Eq.symm (by kernel_rfl:_=false)) h)) (fun h=>Bool.noConfusion (Eq.trans (Eq.symm (by kernel_rfl:_=false)) h)) ?_;clear hK K;refine zo ?_;have hkk:=((hkZ.step hb2).set 0 (.float .f64 s)).set 1 (.slice (some ⟨R2,0,none⟩) n n);have HB:=hid (hkk.below x5 (by omega) (by omega));obtain ⟨e0,e1⟩:=xP (x:=.float .f64 s) (y:=.slice (some ⟨R2,0,none⟩) n n) q0 q1;have hR2:B+3≤R2:=by have:=ho.lt; have:=hkZ.size; omega
    have ho':=(ho.other (B:=B+2) (o:=0) (by omega) (.float .f64 s)).other (B:=B+2) (o:=1) (by omega) (.slice (some ⟨R2,0,none⟩) n n);have HO:=hid (ho'.flts (by omega));have S1:=hid s1;clear ho ho' hb2 hkk s1;generalize (w2.setCell ⟨B+2,0,none⟩ (.float .f64 s)).setCell ⟨B+2,1,none⟩ (.slice (some ⟨R2,0,none⟩) n n)=W5 at *;go_wp2_with fail;refine bodyPost_ret (v:=.agg #[.float .f64 s,.slice (some ⟨R2,0,none⟩) n n]) (by simp [results,Tryz.results161,go_sem,e0,e1]) rfl ⟨s,_,rfl,?_,s2,HO.out.congr (fun j _=>?_),fun h=>?_,by rw [hB]; exact HB.out⟩
    ·rw [S1.out,← zE,← zC,YZ.out.1,YZ.out.2]; rfl
    ·rfl
    ·simp only [Value.ownBlock,Option.some.injEq] at h;omega
   ·go_wp2_with fail;refine zv [(0,1),(1,3),(2,1),(3,1),(4,3),(5,1),(6,3),(7,1),(8,1),(9,3),(10,1),(11,3),(12,0),(13,0)] (zM X (B+2)) (by kernel_rfl) (by kernel_rfl) (fun _ _ d _ _ h=>by cases d<;>exact h) ((zM.refl X (B+2)).drew) ?_;intro Z hZ hkZ;have zz:=(congrArg (fun W=>W.heap[B+2]?) hZ).trans HX.out;have zl:=zj zz;clear hZ
    iterate 1
     first
      | refine zd (fun K hK=>?_)
      | refine ze (fun K hK=>?_)
     go_simp;refine hK _ ?_;clear hK K
    refine zh (v:=.func (.func 155) #[] #[.pointer (some ⟨Kd,0,none⟩),.pointer (some ⟨N,0,none⟩)]) rfl rfl (fun wk hwk=>?_) ?_
    ·rw [← hwk.cell gl (by omega)] at g2;go_simp
    iterate 2
     first
      | refine zd (fun K hK=>?_)
      | refine ze (fun K hK=>?_)
     go_simp;refine hK _ ?_;clear hK K
    refine zh (v:=.int .i64 A) rfl rfl (fun wk hwk=>?_) ?_
    ·rw [← hwk.cell pl (by omega)] at p1;go_simp
    iterate 1
     first
      | refine zd (fun K hK=>?_)
      | refine ze (fun K hK=>?_)
     go_simp;refine hK _ ?_;clear hK K
    refine zh (v:=.agg #[.float .f64 y,.slice p n l]) rfl rfl (fun wk hwk=>?_) ?_
    ·rw [← hwk.cell hRX (by omega)] at y1 u1;go_simp
    iterate 2
     first
      | refine zd (fun K hK=>?_)
      | refine ze (fun K hK=>?_)
     go_simp;refine hK _ ?_;clear hK K
    refine zh (v:=.int .i64 A2) rfl rfl (fun wk hwk=>?_) ?_
    ·rw [← hwk.cell pl (by omega)] at p2;go_simp
    iterate 1
     first
      | refine zd (fun K hK=>?_)
      | refine ze (fun K hK=>?_)
     go_simp;refine hK _ ?_;clear hK K
    refine zh (v:=.agg #[.float .f64 z,.slice p' n l']) rfl rfl (fun wk hwk=>?_) ?_
    ·rw [← hwk.cell hRX (by omega)] at z1 v1;go_simp
    refine zm (fun K hK=>?_);go_simp;refine (nS n Kd N y z _ _ (d A) (d A2) hn Z (hkX.keep hkZ (by omega)) (hNX.keep hkZ (by omega)) (U2.out Z hkZ) (V2.out Z hkZ)).mono ?_;rintro e w2 ⟨s,R2,rfl,s1,s2,ho,hb2⟩;refine hK _ _ (fun h=>Bool.noConfusion (Eq.trans (Eq.symm (by kernel_rfl:_=false)) h)) (fun _=>(hkZ.step hb2)) ?_;clear hK K;have w2r:=(hb2.block (B+2) zl).trans zz;obtain ⟨q0,q1,q2⟩:=DB.of w2r;have qf0:=zg w2r 0;have qf1:=zg w2r 1;clear w2r zz;refine zm (fun K hK=>?_);go_simp;refine hK _ _ (fun h=>Bool.noConfusion (Eq.trans (Eq.symm (by kernel_rfl:_=false)) h)) (fun h=>Bool.noConfusion (Eq.trans (Eq.symm (by kernel_rfl:_=false)) h)) ?_;clear hK K;refine zo ?_;have hkk:=((hkZ.step hb2).set 0 (.float .f64 s)).set 1 (.slice (some ⟨R2,0,none⟩) n n);have HB:=hid (hkk.below x5 (by omega) (by omega));obtain ⟨e0,e1⟩:=xP (x:=.float .f64 s) (y:=.slice (some ⟨R2,0,none⟩) n n) q0 q1;have hR2:B+3≤R2:=by have:=ho.lt; have:=hkZ.size; omega
    have ho':=(ho.other (B:=B+2) (o:=0) (by omega) (.float .f64 s)).other (B:=B+2) (o:=1) (by omega) (.slice (some ⟨R2,0,none⟩) n n);have HO:=hid (ho'.flts (by omega));have S1:=hid s1;clear ho ho' hb2 hkk s1;generalize (w2.setCell ⟨B+2,0,none⟩ (.float .f64 s)).setCell ⟨B+2,1,none⟩ (.slice (some ⟨R2,0,none⟩) n n)=W5 at *;go_wp2_with fail;refine bodyPost_ret (v:=.agg #[.float .f64 s,.slice (some ⟨R2,0,none⟩) n n]) (by simp [results,Tryz.results161,go_sem,e0,e1]) rfl ⟨s,_,rfl,?_,s2,HO.out.congr (fun j _=>?_),fun h=>?_,by rw [hB]; exact HB.out⟩
    ·rw [S1.out,← zE,← zC,YZ.out.1,YZ.out.2]; rfl
    ·rfl
    ·simp only [Value.ownBlock,Option.some.injEq] at h;omega
   ·go_wp2_with fail;refine zv [(0,1),(1,3),(2,1),(3,1),(4,3),(5,1),(6,3),(7,1),(8,1),(9,3),(10,1),(11,3),(12,0),(13,0)] (zM X (B+2)) (by kernel_rfl) (by kernel_rfl) (fun _ _ d _ _ h=>by cases d<;>exact h) ((zM.refl X (B+2)).drew) ?_;intro Z hZ hkZ;have zz:=(congrArg (fun W=>W.heap[B+2]?) hZ).trans HX.out;have zl:=zj zz;clear hZ
    iterate 1
     first
      | refine zd (fun K hK=>?_)
      | refine ze (fun K hK=>?_)
     go_simp;refine hK _ ?_;clear hK K
    refine zh (v:=.func (.func 157) #[] #[.pointer (some ⟨Kd,0,none⟩),.pointer (some ⟨N,0,none⟩)]) rfl rfl (fun wk hwk=>?_) ?_
    ·rw [← hwk.cell gl (by omega)] at g3;go_simp
    iterate 2
     first
      | refine zd (fun K hK=>?_)
      | refine ze (fun K hK=>?_)
     go_simp;refine hK _ ?_;clear hK K
    refine zh (v:=.int .i64 A) rfl rfl (fun wk hwk=>?_) ?_
    ·rw [← hwk.cell pl (by omega)] at p1;go_simp
    iterate 1
     first
      | refine zd (fun K hK=>?_)
      | refine ze (fun K hK=>?_)
     go_simp;refine hK _ ?_;clear hK K
    refine zh (v:=.agg #[.float .f64 y,.slice p n l]) rfl rfl (fun wk hwk=>?_) ?_
    ·rw [← hwk.cell hRX (by omega)] at y1 u1;go_simp
    iterate 2
     first
      | refine zd (fun K hK=>?_)
      | refine ze (fun K hK=>?_)
     go_simp;refine hK _ ?_;clear hK K
    refine zh (v:=.int .i64 A2) rfl rfl (fun wk hwk=>?_) ?_
    ·rw [← hwk.cell pl (by omega)] at p2;go_simp
    iterate 1
     first
      | refine zd (fun K hK=>?_)
      | refine ze (fun K hK=>?_)
     go_simp;refine hK _ ?_;clear hK K
    refine zh (v:=.agg #[.float .f64 z,.slice p' n l']) rfl rfl (fun wk hwk=>?_) ?_
    ·rw [← hwk.cell hRX (by omega)] at z1 v1;go_simp
    refine zm (fun K hK=>?_);go_simp;refine (nT n Kd N y z _ _ (d A) (d A2) hn Z (hkX.keep hkZ (by omega)) (hNX.keep hkZ (by omega)) (U2.out Z hkZ) (V2.out Z hkZ)).mono ?_;rintro e w2 ⟨s,R2,rfl,s1,s2,ho,hb2⟩;refine hK _ _ (fun h=>Bool.noConfusion (Eq.trans (Eq.symm (by kernel_rfl:_=false)) h)) (fun _=>(hkZ.step hb2)) ?_;clear hK K;have w2r:=(hb2.block (B+2) zl).trans zz;obtain ⟨q0,q1,q2⟩:=DB.of w2r;have qf0:=zg w2r 0;have qf1:=zg w2r 1;clear w2r zz;refine zm (fun K hK=>?_);go_simp;refine hK _ _ (fun h=>Bool.noConfusion (Eq.trans (Eq.symm (by kernel_rfl:_=false)) h)) (fun h=>Bool.noConfusion (Eq.trans (Eq.symm (by kernel_rfl:_=false)) h)) ?_;clear hK K;refine zo ?_;have hkk:=((hkZ.step hb2).set 0 (.float .f64 s)).set 1 (.slice (some ⟨R2,0,none⟩) n n);have HB:=hid (hkk.below x5 (by omega) (by omega));obtain ⟨e0,e1⟩:=xP (x:=.float .f64 s) (y:=.slice (some ⟨R2,0,none⟩) n n) q0 q1;have hR2:B+3≤R2:=by have:=ho.lt; have:=hkZ.size; omega
    have ho':=(ho.other (B:=B+2) (o:=0) (by omega) (.float .f64 s)).other (B:=B+2) (o:=1) (by omega) (.slice (some ⟨R2,0,none⟩) n n);have HO:=hid (ho'.flts (by omega));have S1:=hid s1;clear ho ho' hb2 hkk s1;generalize (w2.setCell ⟨B+2,0,none⟩ (.float .f64 s)).setCell ⟨B+2,1,none⟩ (.slice (some ⟨R2,0,none⟩) n n)=W5 at *;go_wp2_with fail;refine bodyPost_ret (v:=.agg #[.float .f64 s,.slice (some ⟨R2,0,none⟩) n n]) (by simp [results,Tryz.results161,go_sem,e0,e1]) rfl ⟨s,_,rfl,?_,s2,HO.out.congr (fun j _=>?_),fun h=>?_,by rw [hB]; exact HB.out⟩
    ·rw [S1.out,← zE,← zC,YZ.out.1,YZ.out.2]; rfl
    ·simp only [YZ.out.1,YZ.out.2]; rfl
    ·simp only [Value.ownBlock,Option.some.injEq] at h;omega
   ·go_wp2_with fail;refine zv [(0,1),(1,3),(2,1),(3,1),(4,3),(5,1),(6,3),(7,1),(8,1),(9,3),(10,1),(11,3),(12,0),(13,0)] (zM X (B+2)) (by kernel_rfl) (by kernel_rfl) (fun _ _ d _ _ h=>by cases d<;>exact h) ((zM.refl X (B+2)).drew) ?_;intro Z hZ hkZ;have zz:=(congrArg (fun W=>W.heap[B+2]?) hZ).trans HX.out;have zl:=zj zz;clear hZ
    iterate 1
     first
      | refine zd (fun K hK=>?_)
      | refine ze (fun K hK=>?_)
     go_simp;refine hK _ ?_;clear hK K
    refine zh (v:=.func (.func 159) #[] #[.pointer (some ⟨Kd,0,none⟩),.pointer (some ⟨N,0,none⟩)]) rfl rfl (fun wk hwk=>?_) ?_
    ·rw [← hwk.cell gl (by omega)] at g4;go_simp
    iterate 2
     first
      | refine zd (fun K hK=>?_)
      | refine ze (fun K hK=>?_)
     go_simp;refine hK _ ?_;clear hK K
    refine zh (v:=.int .i64 A) rfl rfl (fun wk hwk=>?_) ?_
    ·rw [← hwk.cell pl (by omega)] at p1;go_simp
    iterate 1
     first
      | refine zd (fun K hK=>?_)
      | refine ze (fun K hK=>?_)
     go_simp;refine hK _ ?_;clear hK K
    refine zh (v:=.agg #[.float .f64 y,.slice p n l]) rfl rfl (fun wk hwk=>?_) ?_
    ·rw [← hwk.cell hRX (by omega)] at y1 u1;go_simp
    iterate 2
     first
      | refine zd (fun K hK=>?_)
      | refine ze (fun K hK=>?_)
     go_simp;refine hK _ ?_;clear hK K
    refine zh (v:=.int .i64 A2) rfl rfl (fun wk hwk=>?_) ?_
    ·rw [← hwk.cell pl (by omega)] at p2;go_simp
    iterate 1
     first
      | refine zd (fun K hK=>?_)
      | refine ze (fun K hK=>?_)
     go_simp;refine hK _ ?_;clear hK K
    refine zh (v:=.agg #[.float .f64 z,.slice p' n l']) rfl rfl (fun wk hwk=>?_) ?_
    ·rw [← hwk.cell hRX (by omega)] at z1 v1;go_simp
    refine zm (fun K hK=>?_);go_simp;refine (nU n Kd N y z _ _ (d A) (d A2) hn Z (hkX.keep hkZ (by omega)) (hNX.keep hkZ (by omega)) (U2.out Z hkZ) (V2.out Z hkZ)).mono ?_;rintro e w2 ⟨s,R2,rfl,s1,s2,ho,hb2⟩;refine hK _ _ (fun h=>Bool.noConfusion (Eq.trans (Eq.symm (by kernel_rfl:_=false)) h)) (fun _=>(hkZ.step hb2)) ?_;clear hK K;have w2r:=(hb2.block (B+2) zl).trans zz;obtain ⟨q0,q1,q2⟩:=DB.of w2r;have qf0:=zg w2r 0;have qf1:=zg w2r 1;clear w2r zz;refine zm (fun K hK=>?_);go_simp;refine hK _ _ (fun h=>Bool.noConfusion (Eq.trans (Eq.symm (by kernel_rfl:_=false)) h)) (fun h=>Bool.noConfusion (Eq.trans (Eq.symm (by kernel_rfl:_=false)) h)) ?_;clear hK K;refine zo ?_;have hkk:=((hkZ.step hb2).set 0 (.float .f64 s)).set 1 (.slice (some ⟨R2,0,none⟩) n n);have HB:=hid (hkk.below x5 (by omega) (by omega));obtain ⟨e0,e1⟩:=xP (x:=.float .f64 s) (y:=.slice (some ⟨R2,0,none⟩) n n) q0 q1;have hR2:B+3≤R2:=by have:=ho.lt; have:=hkZ.size; omega
    have ho':=(ho.other (B:=B+2) (o:=0) (by omega) (.float .f64 s)).other (B:=B+2) (o:=1) (by omega) (.slice (some ⟨R2,0,none⟩) n n);have HO:=hid (ho'.flts (by omega));have S1:=hid s1;clear ho ho' hb2 hkk s1;generalize (w2.setCell ⟨B+2,0,none⟩ (.float .f64 s)).setCell ⟨B+2,1,none⟩ (.slice (some ⟨R2,0,none⟩) n n)=W5 at *;go_wp2_with fail;refine bodyPost_ret (v:=.agg #[.float .f64 s,.slice (some ⟨R2,0,none⟩) n n]) (by simp [results,Tryz.results161,go_sem,e0,e1]) rfl ⟨s,_,rfl,?_,s2,HO.out.congr (fun j _=>?_),fun h=>?_,by rw [hB]; exact HB.out⟩
    ·rw [S1.out,← zE,← zC,YZ.out.1,YZ.out.2]; rfl
    ·simp only [YZ.out.2]; rw [← zE .quo y,← zC .quo _ z,YZ.out.1,YZ.out.2]; rfl
    ·simp only [Value.ownBlock,Option.some.injEq] at h;omega
theorem ww {w:World} {R p o:Nat} {x:Value} (u:Value) (hx:w.cell? ⟨R,p,none⟩=some x):(w.setCell ⟨R,p,none⟩ u).cell? ⟨R,o,none⟩=if o=p then some u else w.cell? ⟨R,o,none⟩:=by
 by_cases h:o=p
 ·subst h; rw [if_pos rfl]; simp [go_sem,hx]
 ·rw [if_neg h,World.cell?_setCell_other _ _ _ _ (fun q=>h (by injection q with _ q2 _; omega))]
theorem tv {w:World} {R p o:Nat} (u:Value):(w.setCell ⟨R,p,none⟩ u).frozen? ⟨R,o,none⟩=w.frozen? ⟨R,o,none⟩:=by simp [go_sem]
theorem zT.blk {w:World} {v:Value} {n:Nat} {f:Nat→Nat} (h:zT w v n f) (h0:0<n) {k:Nat} (hk:v.ownBlock=some k):k<w.heap.size:=by
 obtain ⟨a,c,rfl,-,h1⟩:=h;obtain ⟨b,o,rfl,hb,-⟩:=h1 h0;simp only [Value.ownBlock,Option.some.injEq] at hk;omega
structure ud (w:World) (R len i:Nat) (c:Nat→Nat) (n:Nat) (f:Nat→Nat→Nat):Prop where
 ex:∀ o,o<len*2→∃ v,w.cell? ⟨R,o,none⟩=some v
 free:∀ o,w.frozen? ⟨R,o,none⟩=false
 lt:R<w.heap.size
 val:∀ j,j<i→rv w R j (c j) n (f j) R
theorem ud.below {w w':World} {R len i n:Nat} {c:Nat→Nat} {f:Nat→Nat→Nat} (h:ud w R len i c n f) (hb:Below w.heap.size w w'):ud w' R len i c n f:=by
 obtain ⟨hc,hf⟩:=zA hb;have:=hb.size;have:=h.lt;exact ⟨fun o ho=>by rw [hc _ _ h.lt]; exact h.ex o ho,fun o=>by rw [hf _ _ h.lt]; exact h.free o,by omega,fun j hj=>(h.val j hj).below hb h.lt⟩
theorem zT.set {w:World} {v:Value} {n:Nat} {f:Nat→Nat} (h:zT w v n f) {R:Nat} (hn:v.ownBlock≠some R) (o:Nat) (u:Value):zT (w.setCell ⟨R,o,none⟩ u) v n f:=by
 obtain ⟨a,c,rfl,h1,h2⟩:=h;refine ⟨a,c,rfl,h1,fun h0=>?_⟩;obtain ⟨b,o',rfl,hb,hc⟩:=h2 h0;have hne:b≠R:=fun e=>hn (by rw [e]; rfl)
 exact ⟨b,o',rfl,by simp [World.setCell]; exact hb,fun i hi=>(hc i hi).same (World.cell?_of_block (a:=⟨b,o'+i,none⟩) (Below.heap_setCell _ _ _ _ hne))⟩
theorem ud.set {w:World} {R len i n:Nat} {c:Nat→Nat} {f:Nat→Nat→Nat} (h:ud w R len i c n f) (hi:i<len) {y:Nat} {p:Option Addr} {l:Nat} (y1:zk y=c i) (y2:y<18446744073709551616) (hu:zT w (.slice p n l) n (f i)) (hn:(Value.slice p n l).ownBlock≠some R) :
  ud ((w.setCell ⟨R,i*2,none⟩ (.float .f64 y)).setCell ⟨R,i*2+1,none⟩ (.slice p n l)) R len (i+1) c n f:=by
 obtain ⟨v0,e0⟩:=h.ex (i*2) (by omega);obtain ⟨v1,e1⟩:=h.ex (i*2+1) (by omega);have e1':(w.setCell ⟨R,i*2,none⟩ (.float .f64 y)).cell? ⟨R,i*2+1,none⟩=some v1:=by rw [ww _ e0,if_neg (by omega)]; exact e1
 have get:∀ o,((w.setCell ⟨R,i*2,none⟩ (.float .f64 y)).setCell ⟨R,i*2+1,none⟩ (.slice p n l)).cell? ⟨R,o,none⟩=if o=i*2+1 then some (.slice p n l) else if o=i*2 then some (.float .f64 y) else w.cell? ⟨R,o,none⟩:=fun o=>by rw [ww _ e1',ww _ e0]
 have row:∀ {v g},zT w v n g→v.ownBlock≠some R→zT ((w.setCell ⟨R,i*2,none⟩ (.float .f64 y)).setCell ⟨R,i*2+1,none⟩ (.slice p n l)) v n g:=fun h hn=>(h.set hn _ _).set hn _ _
 refine ⟨fun o ho=>?_,fun o=>by rw [tv,tv]; exact h.free o,by simp [World.setCell]; exact h.lt,fun j hj=>?_⟩
 ·rw [get];split
  ·exact ⟨_,rfl⟩
  ·split
   ·exact ⟨_,rfl⟩
   ·exact h.ex o ho
 ·by_cases e:j=i
  ·subst e;exact ⟨y,_,by rw [get,if_neg (by omega),if_pos rfl],y1,y2,by rw [get,if_pos rfl],row hu hn,hn⟩
  ·obtain ⟨z,u,z1,z2,z3,u1,u2,u3⟩:=h.val j (by omega);exact ⟨z,u,by rw [get,if_neg (by omega),if_neg (by omega)]; exact z1,z2,z3,by rw [get,if_neg (by omega),if_neg (by omega)]; exact u1,row u2 u3,u3⟩
theorem ud.made {w:World} {B R len cap:Nat} {t:TypeId} {xs:List Value} (h:w.ownsRow B t 2 (.slice (some ⟨R,0,none⟩) len cap) len xs) (n:Nat) (c:Nat→Nat) (f:Nat→Nat→Nat):ud w R len 0 c n f:=by
 have hl:=h.1;refine ⟨fun o ho=>⟨xs[o]'(by omega),(h.cellAt o (by omega)).trans (List.getElem?_eq_getElem (by omega))⟩,fun o=>h.frozenAt o,(h.lt R rfl).2,fun j hj=>by omega⟩
theorem lX:(Tryz.prog.info? 173).map (fun i=>(i.zero,i.size,i.bytes))=some (some (.agg #[.float .f64 0,.slice none 0 0]),2,32):=by kernel_rfl
def KTD (w0:World) (B Kd N:Nat) (n:Int) (vo vu:Value) (W:World):Prop:=
 W.heap[B]? = some (.cells #[.func (.func 150) #[] #[.pointer (some ⟨Kd,0,none⟩),.pointer (some ⟨N,0,none⟩)],.func (.func 153) #[] #[.pointer (some ⟨Kd,0,none⟩),.pointer (some ⟨N,0,none⟩)],.func (.func 155) #[] #[.pointer (some ⟨Kd,0,none⟩),.pointer (some ⟨N,0,none⟩)],.func (.func 157) #[] #[.pointer (some ⟨Kd,0,none⟩),.pointer (some ⟨N,0,none⟩)],.func (.func 159) #[] #[.pointer (some ⟨Kd,0,none⟩),.pointer (some ⟨N,0,none⟩)]] 169) ∧
 W.heap[B+1]? = some (.cells #[.int .i64 n,vo,vu] 28)∧Below B w0 W
theorem KTD.step {w0:World} {B Kd N:Nat} {n:Int} {vo vu:Value} {W W':World} (h:KTD w0 B Kd N n vo vu W) (hb:Below (B+2) W W'):KTD w0 B Kd N n vo vu W':=
 ⟨(hb.block B (by omega)).trans h.1,(hb.block (B+1) (by omega)).trans h.2.1,h.2.2.trans (hb.mono (by omega))⟩
theorem oG (T:TD) (v:Value) (x:Nat→Nat) (Kd N XB xcap:Nat) (w:World) (h:yG w v T) (hck:yq T=true) (hcs:∀ i,i<T.len→(T.op i).c<18446744073709551616) (nn:Nat) (hn:T.n=nn) (hk:KB Kd w) (hN:CB N (.int .i64 nn) w)
  (hXl:XB<w.heap.size) (hx:∀ v,v<nn→rv w XB v (x v) nn (fun k=>if k=v then 4607182418800017408 else 0) XB) :
  Calls Tryz.prog 137 #[sJ Kd N,v,.slice (some ⟨XB,0,none⟩) nn xcap] w fun e w'=>∃ Q,e=.returned (.slice (some ⟨Q,0,none⟩) nn nn)∧Q<w'.heap.size∧(∀ i,i<nn→rv w' Q i (evR T.op x (T.out i).toNat) nn (dvR T.op x (T.out i).toNat) Q)∧Below w.heap.size w w':=by
 obtain ⟨n,len,op,lo,out⟩:=T;obtain ⟨vo,vu,rfl,⟨a,cap,rfl,hl1,ho⟩,⟨a2,cap2,rfl,hl2,hu⟩⟩:=h;unfold yq at hck;simp only [Bool.and_eq_true,decide_eq_true_eq] at hck hcs hn ho hu hl1 hl2 ⊢;subst hn;obtain ⟨⟨q1,q2,q3,q4⟩,hs1,hs2⟩:=hck;obtain rfl:nn=lo:=by omega
 clear q4;have HS1:=hid (xw.1 hs1);have HS2:=hid (xw.1 hs2);have HCS:=hid hcs;have HO:=hid ho;have HU:=hid hu
 have hxs:∀ v,v<nn→∀ R,w.heap.size≤R→rv w XB v (x v) nn (fun k=>if k=v then 4607182418800017408 else 0) R:=fun v hv R hR=>by
  obtain ⟨y,u,y1,y2,y3,u1,u2,u3⟩:=hx v hv;exact ⟨y,u,y1,y2,y3,u1,u2,fun e=>by have:=u2.blk (by omega) e; omega⟩
 have HX:=hid hxs;have HK:=hid hk;have HN:=hid hN;obtain ⟨iD,hi,hz0,hz1,hz2⟩:=info_parts lX;have HI:=hid (show iD.zero=_∧iD.size=_∧iD.bytes=_ from ⟨hz0,hz1,hz2⟩);have HI0:=hid hi;unfold sJ;obtain ⟨l1,l2,l3,l4⟩:=al2 w (.cells #[.func (.func 150) #[] #[.pointer (some ⟨Kd,0,none⟩),.pointer (some ⟨N,0,none⟩)],.func (.func 153) #[] #[.pointer (some ⟨Kd,0,none⟩),.pointer (some ⟨N,0,none⟩)],.func (.func 155) #[] #[.pointer (some ⟨Kd,0,none⟩),.pointer (some ⟨N,0,none⟩)],.func (.func 157) #[] #[.pointer (some ⟨Kd,0,none⟩),.pointer (some ⟨N,0,none⟩)],.func (.func 159) #[] #[.pointer (some ⟨Kd,0,none⟩),.pointer (some ⟨N,0,none⟩)]] 169) (.cells #[.int .i64 nn,.slice a len cap,.slice a2 nn cap2] 28);have hkt:KTD w w.heap.size Kd N nn (.slice a len cap) (.slice a2 nn cap2) _:=⟨l1,l2,l4⟩
 clear hs1 hs2 hcs ho hu hx hxs hz0 hz1 hz2 hi hk hN l1 l2 l4;go_enter Tryz.func137,Tryz.ntmps137;go_upto_region 1 with fail
 have hkl:Kd<w.heap.size:=HK.out.2.2.2.2.2;have hNl:N<w.heap.size:=HN.out.2;generalize hB:w.heap.size=B at *;generalize (w.alloc (.cells #[.func (.func 150) #[] #[.pointer (some ⟨Kd,0,none⟩),.pointer (some ⟨N,0,none⟩)],.func (.func 153) #[] #[.pointer (some ⟨Kd,0,none⟩),.pointer (some ⟨N,0,none⟩)],.func (.func 155) #[] #[.pointer (some ⟨Kd,0,none⟩),.pointer (some ⟨N,0,none⟩)],.func (.func 157) #[] #[.pointer (some ⟨Kd,0,none⟩),.pointer (some ⟨N,0,none⟩)],.func (.func 159) #[] #[.pointer (some ⟨Kd,0,none⟩),.pointer (some ⟨N,0,none⟩)]] 169)).alloc (.cells #[.int .i64 nn,.slice a len cap,.slice a2 nn cap2] 28)=X at *;have p1:=zf hkt.2.1 1;have pl:=zj hkt.2.1;simp only [List.getElem?_toArray,List.getElem?_cons_zero,List.getElem?_cons_succ] at p1
 go_wp2_with (first
  | (refine wpList_make_full _ rfl _ _ _ rfl (B+2) 173 iD (.agg #[.float .f64 0,.slice none 0 0]) 2 Tryz.underlying165 HI0.out HI.out.1 HI.out.2.1 .i64 .i64 (len:Int) (len:Int) len rfl rfl rfl rfl (by rw [HI.out.2.2]; omega) (by unfold maxLen; omega) (by omega) ?_)
  | go_in)
 intro w1 hr0 hg0;have hk1:=hkt.step ((Below.refl (B+2) X).grown hg0 (by omega) (fun k hk=>by cases hk));have hR:=(hr0.lt (B+2) rfl).2;have hrg:ud w1 (B+2) len 0 (evR op x) nn (dvR op x):=ud.made hr0 _ _ _;clear hr0 hg0 hkt p1 pl l3;have p1:=zf hk1.2.1 1;have pl:=zj hk1.2.1;simp only [List.getElem?_toArray,List.getElem?_cons_zero,List.getElem?_cons_succ] at p1;go_upto_region 2 with fail
 go_upto_block 0 with fail
 go_cut [] (fun wx=>KTD w B Kd N nn (.slice a len cap) (.slice a2 nn cap2) wx∧ud wx (B+2) len len (evR op x) nn (dvR op x))
 case first=>
  go_wp2_with fail
  go_loopw [20] (fun i wr=>∃ j:Nat,j≤len∧i=.int .i64 j∧KTD w B Kd N nn (.slice a len cap) (.slice a2 nn cap2) wr∧ud wr (B+2) len j (evR op x) nn (dvR op x)) (fun i _=>len-(intOf i).toNat)
  case atStart=>exact ⟨0,by omega,rfl,hk1,hrg⟩
  case round=>
   clear hk1 hrg p1 pl hR;obtain ⟨j,hj,rfl,hk1,hrg⟩:=hrel;have g0:=zf hk1.1 0;have g1:=zf hk1.1 1;have g2:=zf hk1.1 2;have g3:=zf hk1.1 3;have g4:=zf hk1.1 4;have gl:=zj hk1.1;have p1:=zf hk1.2.1 1;have pl:=zj hk1.2.1;simp only [List.getElem?_toArray,List.getElem?_cons_zero,List.getElem?_cons_succ] at g0 g1 g2 g3 g4 p1;by_cases hlt:j<len
   ·obtain ⟨b,off,rfl,hbs,hc⟩:=HO.out (by omega);obtain ⟨d1,d2,d3,d4⟩:=hc j hlt;have hbw:Below w.heap.size w wr:=by rw [hB]; exact hk1.2.2
    have hcl:=(zA hbw).1;rw [← hcl _ _ (by rw [hB]; exact hbs)] at d1 d2 d3 d4;have hst:=HS1.out j hlt;have hcc:=HCS.out j hlt;have hkr:=HK.out.below hbw;have hNr:=HN.out.below hbw;have hxr:=fun v hv=>(HX.out v hv (B+2) (by omega)).below hbw (by omega)
    have hin:(op j).k≠0→(op j).k≠1→(op j).a.toNat<j∧(op j).b.toNat<j:=fun k0 k1=>by
     unfold xg at hst;rw [if_neg k0,if_neg k1] at hst;split at hst
     ·simp only [Bool.and_eq_true] at hst;obtain ⟨A,hA,hA2⟩:=yu hst.1;obtain ⟨A',hA',hA2'⟩:=yu hst.2.1;omega
     ·cases hst
    have hv:=mK op x j hin;have hv':=mJ op x j hin;have CALL:=hid fun (W':World) (hb:Below wr.heap.size wr W')=>nV (op j) nn j len Kd N (by omega) x (evR op x) (dvR op x) XB (B+2) len xcap W' hst hcc (hkr.below hb) (hNr.below hb) (by have:=hb.size; omega) (fun v hv=>(hxr v hv).below hb (by omega)) hlt (by omega) (by have:=hb.size; have:=hrg.lt; omega) (fun i hi=>(hrg.val i hi).below hb hrg.lt)
    have HV:=hid (show evR op x j=_∧dvR op x j=_ from ⟨hv,hv'⟩);have HK1:=hid hk1;have HRG:=hid hrg;have hrl:=hrg.lt;clear hc hcl hst hcc hxr hkr hNr hin hv hv' hbw hk1 hrg;unfold opV sJ at CALL;generalize op j=oj at *;go_wp2_with fail;have hal:Below wr.heap.size wr (wr.alloc (.cells #[.int .i64 oj.k,.int .i64 oj.a,.int .i64 oj.b,.float .f64 oj.c] 66)):=(Below.refl _ _).alloc (Nat.le_refl _) _;refine (CALL.out _ hal).mono ?_;rintro e w2 ⟨y,u,rfl,y1,y2,hu,hn2,hb2⟩;have hb3:Below wr.heap.size wr w2:=hal.trans (hb2.mono (by simp));obtain ⟨p,l,rfl⟩:∃ p c,u=.slice p nn c:=by obtain ⟨p,c,rfl,-⟩:=hu; exact ⟨p,c,rfl⟩
    have hrg2:=HRG.out.below hb3;obtain ⟨v0,s0⟩:=hrg2.ex (j*2) (by omega);obtain ⟨v1,s1⟩:=hrg2.ex (j*2+1) (by omega);have f0:=hrg2.free (j*2);have f1:=hrg2.free (j*2+1);have REL:=hid (hrg2.set hlt (y:=y) (by rw [y1,← HV.out.1]) y2 (by rw [HV.out.2,HV.out.1]; exact hu) hn2);have HK2:=hid (((HK1.out.step (hb3.mono (by omega))).step ((Below.refl (B+2) w2).setCell (p:=⟨B+2,j*2,none⟩) (Nat.le_refl _) (.float .f64 y))).step ((Below.refl (B+2) _).setCell (p:=⟨B+2,j*2+1,none⟩) (Nat.le_refl _) (.slice p nn l)));clear CALL g0 g1 g2 g3 g4 p1 d1 d2 d3 d4 hb2 hb3 hrg2 hu hal HK1 HRG;go_wp2_with fail
    go_roundw
    case rel=>exact ⟨j+1,by omega,by go_num,HK2.out,REL.out⟩
    case measure=>simp [intOf]; omega
   ·obtain rfl:j=len:=by omega
    go_wp2_with fail;go_meet;exact ⟨hk1,hrg⟩
 case rest=>
  clear hk1 hrg p1 pl hR;obtain ⟨hk1,hrg⟩:=hcut;have p2:=zf hk1.2.1 2;have pl:=zj hk1.2.1;simp only [List.getElem?_toArray,List.getElem?_cons_zero,List.getElem?_cons_succ] at p2
  have HVAL:=hid (fun j (hj:j<len)=>(show ∃ y p l,wc.cell? ⟨B+2,j*2,none⟩=some (.float .f64 y)∧zk y=evR op x j∧y<18446744073709551616∧wc.cell? ⟨B+2,j*2+1,none⟩=some (.slice p nn l)∧zT wc (.slice p nn l) nn (dvR op x j) by
   obtain ⟨y,u,y1,y2,y3,u1,u2,u3⟩:=hrg.val j hj;obtain ⟨p,l,rfl,u4⟩:=id u2;exact ⟨y,p,l,y1,y2,y3,u1,u2⟩))
  have hrl:=hrg.lt;clear hrg
  go_wp2_with (first
   | (refine wpList_make_full _ rfl _ _ _ rfl wc.heap.size 173 iD (.agg #[.float .f64 0,.slice none 0 0]) 2 Tryz.underlying165 HI0.out HI.out.1 HI.out.2.1 .i64 .i64 (nn:Int) (nn:Int) nn rfl rfl rfl rfl (by rw [HI.out.2.2]; omega) (by unfold maxLen; omega) (by omega) ?_)
   | go_in)
  intro w2 hq0 hg0;have hQ:=(hq0.lt wc.heap.size rfl).2;have hb2:Below wc.heap.size wc w2:=(Below.refl _ _).grown hg0 (by omega) (fun k hk=>by cases hk);have hqg:ud w2 wc.heap.size nn 0 (fun i=>evR op x (out i).toNat) nn (fun i=>dvR op x (out i).toNat):=ud.made hq0 _ _ _;have hB2:=hid (hk1.step (hb2.mono (by omega)));have HB2:=hid hb2;rw [← hb2.cell (p:=⟨B+1,2,none⟩) (by show B+1<wc.heap.size; omega)] at p2;clear hq0 hg0 hb2 hk1;generalize hQe:wc.heap.size=Q at *;go_wp2_with fail
  go_loopw [41] (fun i wr=>∃ j:Nat,j≤nn∧i=.int .i64 j∧zM w2 Q wr∧ud wr Q nn j (fun i=>evR op x (out i).toNat) nn (fun i=>dvR op x (out i).toNat)) (fun i _=>nn-(intOf i).toNat)
  case atStart=>exact ⟨0,by omega,rfl,zM.refl _ _,hqg⟩
  case round=>
   clear hqg;obtain ⟨j,hj,rfl,hkp,hrg⟩:=hrel;have hbw:Below w.heap.size w wr:=by rw [hB]; exact hkp.below hB2.out.2.2 (by omega) (by omega)
   by_cases hlt:j<nn
   ·obtain ⟨b,off,rfl,hbs,hc⟩:=HU.out (by omega);have d1:=hc j hlt;rw [← (zA hbw).1 _ _ (by rw [hB]; exact hbs)] at d1;obtain ⟨A,hA,hA2⟩:=yu (HS2.out j hlt);obtain ⟨y,p,l,y1,y2,y3,u1,u2⟩:=HVAL.out A (by omega);rw [← HB2.out.cell (p:=⟨B+2,A*2,none⟩) hrl,← hkp.cell (by omega) (by omega)] at y1;rw [← HB2.out.cell (p:=⟨B+2,A*2+1,none⟩) hrl,← hkp.cell (by omega) (by omega)] at u1;have hu:=u2.keepB hQe hkp HB2.out (Nat.le_refl _);have hn2:(Value.slice p nn l).ownBlock≠some Q:=fun e=>by have:=u2.blk (by omega) e; omega
    have hAn:((out j).toNat)=A:=by omega
    rw [hA] at d1;obtain ⟨v0,s0⟩:=hrg.ex (j*2) (by omega);obtain ⟨v1,s1⟩:=hrg.ex (j*2+1) (by omega);have f0:=hrg.free (j*2);have f1:=hrg.free (j*2+1);have REL:=hid (hrg.set hlt (y:=y) (by rw [y2,← hAn]) y3 (by rw [hAn]; exact hu) hn2);have HKP:=hid ((hkp.set (j*2) (.float .f64 y)).set (j*2+1) (.slice p nn l));have hQB:Q≠B+2:=by omega
    have hBQ:B+2≠Q:=by omega
    clear hc hbw hkp hrg u2 hu y2;go_wp2_with fail
    go_roundw
    case rel=>exact ⟨j+1,by omega,by go_num,HKP.out,REL.out⟩
    case measure=>simp [intOf]; omega
   ·obtain rfl:j=nn:=by omega
    go_wp2_with fail;go_ret;exact ⟨Q,rfl,hrg.lt,hrg.val,by first | exact hbw | (rw [← hB]; exact hbw)⟩
end Go.Proofs.YtnlbafjmbamoeaaGreat
namespace Go.Proofs.YtnlbafjmbamoeaaGreat
open Go.RowKit Lib
open Ieee (double)
attribute [local go_sem] zr zi zy zn zU zS zW zX zV zY zD zH zI zJ zK zB ye z8 zF yE zN
theorem wO.row {w:World} {v:Value} {n:Nat} {f:Nat→Nat} (h:wO w v n f):zT w v n f:=h
theorem zT.flts {w:World} {v:Value} {n:Nat} {f:Nat→Nat} (h:zT w v n f):wO w v n f:=h
theorem KB.of {K:Nat} {t:TypeId} {w:World} (h:w.heap[K]? = some (.cells #[.func (.func 140) #[] #[],.func (.func 141) #[] #[],.func (.func 142) #[] #[],.func (.func 143) #[] #[],.func (.func 144) #[] #[]] t)):KB K w:=
 ⟨by rw [zf h]; rfl,by rw [zf h]; rfl,by rw [zf h]; rfl,by rw [zf h]; rfl,by rw [zf h]; rfl,zj h⟩
theorem t6 {ops:Array Oper} {rest:List Oper} {o:Oper} {a:Act} {w:World} {Q:Exit→Act→World→Prop} (hg:o.guard=none) (s x:Operand)
  (ho:o.op=.call { callee:=.builtin .append,args:=#[s,x],argTypes:=#[30,30] })
  (B H n c:Nat) (p:Option Addr) (f:Nat→Nat) (w0:World) (hs:a.eval s=.slice (some ⟨H,0,none⟩) 0 0) (hx:a.eval x=.slice p n c)
  (hb:Below B w0 w) (hH:w.heap[H]? = some (.cells #[] 31 (0,0))) (hB:B≤H) (hr:∀ W c,Below B w0 W→zT W (.slice p n c) n f) (hn:n≤1000)
  (h:∀ R cap w',yd w' B R n cap f→Below B w0 w'→(∀ k,k<w.heap.size→k≠H→w'.heap[k]? = w.heap[k]?)→w.heap.size≤w'.heap.size→(R=H∨R=w.heap.size)→R<w'.heap.size→wpList Tryz.prog ops Q rest (a.put o.dst (.slice (some ⟨R,0,none⟩) n cap)) w') :
  wpList Tryz.prog ops Q (o :: rest) a w:=by
 refine wpList_plain hg fun K hK=>?_
 have k:=nW (ops:=ops) (K:=K) (Q:=Q) (E:=True) hg s x ho B H n c p f w0 hs hx hb hH hB hr hn (fun R cap w' h1 h2 h3 h4 h5 h6=>hK _ _ (h R cap w' h1 h2 h3 h4 h5 h6))
 rwa [if_pos (by simp [Region.wanted,hg])] at k
theorem kq (a:Addr) (n c:Nat) (w:World):(binOp .eql 30 (.slice (some a) n c) (.slice none 0 0)).run Tryz.prog w=.ok (.bool false) w:=by
 have h:(Op.equal 30 (.slice (some a) n c) (.slice none 0 0)).run Tryz.prog w=.ok false w:=by
  show (Op.equalIn (9999+1) 30 _ _).run _ w=_;generalize 9999=d;simp [Op.equalIn,run_underlying Tryz.underlying30]
 simp [binOp,h]
set_option maxRecDepth 100000
set_option maxHeartbeats 16000000
theorem qX (p:Option Addr) (n c:Nat) (f:Nat→Nat) (w:World) (hr:zT w (.slice p n c) n f) (h0:0<n) (hn:n≤1000) :
  Calls Tryz.prog 139 #[.slice p n c] w fun e w'=>∃ R cap,e=.returned (.slice (some ⟨R,0,none⟩) n cap)∧yd w' w.heap.size R n cap f∧Below w.heap.size w w':=by
 obtain ⟨b,off,rfl⟩:∃ b off,p=some ⟨b,off,none⟩:=by
  obtain ⟨a,c',hv,-,h⟩:=hr;simp only [Value.slice.injEq] at hv;obtain ⟨rfl,-,rfl⟩:=hv;obtain ⟨b,off,rfl,-⟩:=h h0;exact ⟨b,off,rfl⟩
 have hal:=al1 w (.cells #[] 31)
 have HR:=hid (fun W c' (hb:Below w.heap.size w W)=>(show zT W (.slice (some ⟨b,off,none⟩) n c') n f by
  obtain ⟨a,c0,hv,h1,h2⟩:=hr.below hb;simp only [Value.slice.injEq] at hv;obtain ⟨rfl,-,rfl⟩:=hv;exact ⟨_,c',rfl,h1,h2⟩))
 have HA:=hid hal;clear hal hr;go_enter Tryz.func139,Tryz.ntmps139;have hne:=kq ⟨b,off,none⟩ n c w
 go_wp2_with (first
  | (refine t6 rfl (.tmp 5) (.tmp 6) rfl w.heap.size w.heap.size n c (some ⟨b,off,none⟩) f w rfl rfl HA.out.2.2 HA.out.1 (Nat.le_refl _) (fun W c' hb=>HR.out W c' hb) hn ?_)
  | fail)
 intro R cap w' ho hb hk hs hR hl;clear hk hs hR hl;go_wp2_with fail;go_ret;exact ⟨R,cap,rfl,ho,hb⟩
theorem KB.set {K R:Nat} {w:World} (h:KB K w) (hn:K≠R) (o:Nat) (v:Value):KB K (w.setCell ⟨R,o,none⟩ v):=h.keep ((zM.refl w R).set o v) hn
theorem CB.set {K R:Nat} {u:Value} {w:World} (h:CB K u w) (hn:K≠R) (o:Nat) (v:Value):CB K u (w.setCell ⟨R,o,none⟩ v):=h.keep ((zM.refl w R).set o v) hn
theorem oH (n:Nat) (hn:n≤1000) (vx:Value) (x:Nat→Nat) (w:World) (hx:zT w vx n x) :
  Calls Tryz.prog 138 #[xM,vx] w fun e w'=>∃ R,e=.returned (.slice (some ⟨R,0,none⟩) n n)∧R<w'.heap.size∧(∀ v,v<n→rv w' R v (x v) n (fun k=>if k=v then 4607182418800017408 else 0) R)∧Below w.heap.size w w':=by
 obtain ⟨xa,xc,rfl,hx1,hx2⟩:=hx;obtain ⟨iD,hi,hz0,hz1,hz2⟩:=info_parts lX;have HI:=hid (show iD.zero=_∧iD.size=_∧iD.bytes=_ from ⟨hz0,hz1,hz2⟩);have HI0:=hid hi;have HX:=hid hx2;clear hx2 hz0 hz1 hz2 hi;have AL:=al1 w (.cells #[.func (.func 140) #[] #[],.func (.func 141) #[] #[],.func (.func 142) #[] #[],.func (.func 143) #[] #[],.func (.func 144) #[] #[]] 158);unfold xM;go_enter Tryz.func138,Tryz.ntmps138;go_upto_region 1 with fail
 generalize hB:w.heap.size=B at *;generalize w.alloc (.cells #[.func (.func 140) #[] #[],.func (.func 141) #[] #[],.func (.func 142) #[] #[],.func (.func 143) #[] #[],.func (.func 144) #[] #[]] 158)=X at *;obtain ⟨x1,x4,x5⟩:=AL;have hkX:=KB.of x1;clear x1
 go_wp2_with (first
  | (refine wpList_make_full _ rfl _ _ _ rfl (B+1) 173 iD (.agg #[.float .f64 0,.slice none 0 0]) 2 Tryz.underlying165 HI0.out HI.out.1 HI.out.2.1 .i64 .i64 (n:Int) (n:Int) n rfl rfl rfl rfl (by rw [HI.out.2.2]; omega) (by unfold maxLen; omega) (by omega) ?_)
  | go_in)
 intro w1 hr0 hg0;have hb1:Below X.heap.size X w1:=(Below.refl _ X).grown hg0 (by omega) (fun k hk=>by cases hk);have hk1:=hkX.below hb1;have hR:=(hr0.lt (B+1) rfl).2;have hrg:ud w1 (B+1) n 0 x n (fun v k=>if k=v then 4607182418800017408 else 0):=ud.made hr0 _ _ _;have hbw:Below B w w1:=x5.trans (hb1.mono (by omega));clear hr0 hg0 hkX hb1 x4 x5;go_wp2_with fail
 go_loopw [12] (fun i wr=>∃ j:Nat,j≤n∧i=.int .i64 j∧KB B wr∧ud wr (B+1) n j x n (fun v k=>if k=v then 4607182418800017408 else 0)∧Below B w wr) (fun i _=>n-(intOf i).toNat)
 case atStart=>exact ⟨0,by omega,rfl,hk1,hrg,hbw⟩
 case round=>
  clear hk1 hrg hbw hR;obtain ⟨j,hj,rfl,hk1,hrg,hbw⟩:=hrel;by_cases hlt:j<n
  ·obtain ⟨b,off,rfl,hbs,hc⟩:=HX.out (by omega);obtain ⟨y,y1,y2,y3⟩:=hc j hlt;have hbs':b<wr.heap.size:=by have:=hbw.size; omega
   rw [← hbw.cell (p:=⟨b,off+j,none⟩) hbs] at y1;have HRG:=hid hrg;have HBW:=hid hbw;have HK:=hid hk1;have hrl:=hrg.lt;have hBs:=hbw.size;have hlt':(j:Int)<(n:Int):=by omega
   clear hc hrg hbw hk1;go_upto_region 5 with fail
   obtain ⟨a1,a4,a5⟩:=al1 wr (.cells #[.int .i64 j] 3);rw [← a5.cell (p:=⟨b,off+j,none⟩) hbs'] at y1;have HJ:=hid a1;have hXs:(wr.alloc (.cells #[.int .i64 j] 3)).heap.size=wr.heap.size+1:=a4;clear a1 a4;have a5':=hid a5;clear a5;have hIs:wr.heap.size<(wr.alloc (.cells #[.int .i64 j] 3)).heap.size:=by omega
   have hbs2:b<(wr.alloc (.cells #[.int .i64 j] 3)).heap.size:=by omega
   clear hXs;generalize hIe:wr.heap.size=I at *;generalize wr.alloc (.cells #[.int .i64 j] 3)=X2 at *;have i0:=zf HJ.out 0;simp only [List.getElem?_toArray,List.getElem?_cons_zero] at i0;refine zv [(0,1),(1,3),(2,1),(3,3),(4,1),(5,3),(6,1),(7,1),(8,1),(9,0),(10,1),(11,1),(12,0)] (fun W=>Below X2.heap.size X2 W) (by kernel_rfl) (by kernel_rfl) (fun _ _ d _ _ h=>by cases d<;>exact h) ((Below.refl _ _).drew) ?_;intro Z hZ hbZ;clear hZ
   iterate 1
    first
     | refine zd (fun K hK=>?_)
     | refine ze (fun K hK=>?_)
    go_simp;refine hK _ ?_;clear hK K
   refine zh (v:=.int .i64 j) rfl rfl (fun wk hwk=>?_) ?_
   ·rw [← (zA hwk).1 _ _ hIs] at i0;go_simp
   iterate 1
    first
     | refine zd (fun K hK=>?_)
     | refine ze (fun K hK=>?_)
    go_simp;refine hK _ ?_;clear hK K
   refine zh (v:=.int .i64 j) rfl rfl (fun wk hwk=>?_) ?_
   ·rw [← (zA hwk).1 _ _ hIs] at i0;go_simp
   iterate 1
    first
     | refine zd (fun K hK=>?_)
     | refine ze (fun K hK=>?_)
    go_simp;refine hK _ ?_;clear hK K
   refine zh (v:=.float .f64 y) rfl rfl (fun wk hwk=>?_) ?_
   ·rw [← (zA hwk).1 _ _ hbs2] at y1;go_simp
   iterate 3
    first
     | refine zd (fun K hK=>?_)
     | refine ze (fun K hK=>?_)
    go_simp;refine hK _ ?_;clear hK K
   refine zm (fun K hK=>?_);go_simp;have hkZ:=(HK.out.below (hIe ▸ a5'.out)).below hbZ;have hiZ:=(CB.of HJ.out).below hbZ;refine (wL 162 #[.pointer (some ⟨I,0,none⟩),.pointer (some ⟨B,0,none⟩)] n hn (fun k=>if k=j then 4607182418800017408 else 0) _ (fun _ _=>rfl) (fun i W hi hb=>oB i j B I W (hkZ.below hb) (hiZ.below hb))).mono ?_;rintro e w2 ⟨R,rfl,ho,hb2⟩;refine hK _ _ (fun h=>Bool.noConfusion (Eq.trans (Eq.symm (by kernel_rfl:_=false)) h)) (fun _=>(hbZ.trans (hb2.mono hbZ.size))) ?_;clear hK K
   iterate 2
    first
     | refine zd (fun K hK=>?_)
     | refine ze (fun K hK=>?_)
    go_simp;refine hK _ ?_;clear hK K
   have hb3:=(hbZ.trans (hb2.mono hbZ.size))
   have hb4:Below I wr w2:=a5'.out.trans (hb3.mono (by omega));have hrg2:=HRG.out.below (hIe ▸ hb4);obtain ⟨v0,s0⟩:=hrg2.ex (j*2) (by omega);obtain ⟨v1,s1⟩:=hrg2.ex (j*2+1) (by omega);have f0:=hrg2.free (j*2);have f1:=hrg2.free (j*2+1);refine zm (fun K hK=>?_);go_simp;refine hK _ _ (fun h=>Bool.noConfusion (Eq.trans (Eq.symm (by kernel_rfl:_=false)) h)) (fun h=>Bool.noConfusion (Eq.trans (Eq.symm (by kernel_rfl:_=false)) h)) ?_;clear hK K;refine zo ?_;have hne:R≠B+1:=by have:=ho.lt; have:=hbZ.size; omega
   have REL:=hid (hrg2.set hlt (y:=y) y2 y3 (ho.flts (by omega)) (fun e=>by simp only [Value.ownBlock,Option.some.injEq] at e; omega));have HK2:=hid ((((hkZ.below hb2).set (show B≠B+1 by omega) (j*2) (.float .f64 y))).set (show B≠B+1 by omega) (j*2+1) (.slice (some ⟨R,0,none⟩) n n):KB B _);have HB2:=hid (((HBW.out.trans (hb4.mono (by omega))).setCell (p:=⟨B+1,j*2,none⟩) (by show B≤B+1; omega) (.float .f64 y)).setCell (p:=⟨B+1,j*2+1,none⟩) (by show B≤B+1; omega) (.slice (some ⟨R,0,none⟩) n n));clear hrg2 hb3 hb4 ho hb2 hkZ hiZ;go_wp2_with fail
   go_roundw
   case rel=>exact ⟨j+1,by omega,by go_num,HK2.out,REL.out,HB2.out⟩
   case measure=>simp [intOf]; omega
  ·obtain rfl:j=n:=by omega
   go_wp2_with fail;go_ret;exact ⟨B+1,rfl,hrg.lt,hrg.val,by first | exact hbw | (rw [hB]; exact hbw)⟩
theorem zQ (P:Program) (w:World) (a:Addr) (m:Mode) (f:Fn) (b:Array Value):(store a (.func f #[] b) m).run P w=stored P w a (.func f #[] b) m:=run_store P w a _ m rfl
attribute [local go_sem] zQ
structure wg (w:World) (base G n i m:Nat) (blk cap:Nat→Nat) (f:Nat→Nat→Nat):Prop where
 ex:∀ k,k<n→∃ v,w.cell? ⟨G,k,none⟩=some v
 free:∀ k,w.frozen? ⟨G,k,none⟩=false
 lo:base≤G
 lt:G<w.heap.size
 val:∀ k,k<i→w.cell? ⟨G,k,none⟩=some (.slice (some ⟨blk k,0,none⟩) m (cap k))∧yd w base (blk k) m (cap k) (f k)∧blk k≠G
 inj:∀ a b,a<i→b<i→blk a=blk b→a=b
theorem wg.below {w w':World} {base G n i m:Nat} {blk cap:Nat→Nat} {f:Nat→Nat→Nat} (h:wg w base G n i m blk cap f) (hb:Below w.heap.size w w'):wg w' base G n i m blk cap f:=by
 obtain ⟨hc,hf⟩:=zA hb;have:=hb.size;have:=h.lt;refine ⟨fun k hk=>by rw [hc _ _ h.lt]; exact h.ex k hk,fun k=>by rw [hf _ _ h.lt]; exact h.free k,h.lo,by omega,fun k hk=>?_,h.inj⟩;obtain ⟨h1,h2,h3⟩:=h.val k hk;exact ⟨by rw [hc _ _ h.lt]; exact h1,h2.below hb h2.lt.2,h3⟩
theorem wg.set {w:World} {base G n i m R c:Nat} {blk cap:Nat→Nat} {f:Nat→Nat→Nat} (h:wg w base G n i m blk cap f) (hi:i<n) (ho:yd w base R m c (f i)) (hne:R≠G) (hnew:∀ k,k<i→blk k≠R) :
  wg (w.setCell ⟨G,i,none⟩ (.slice (some ⟨R,0,none⟩) m c)) base G n (i+1) m (yy blk i R) (yy cap i c) f:=by
 obtain ⟨v0,e0⟩:=h.ex i hi;refine ⟨fun k hk=>?_,fun k=>by rw [tv]; exact h.free k,h.lo,by simp [World.setCell]; exact h.lt,fun k hk=>?_,fun a b ha hb=>?_⟩
 ·rw [ww _ e0];split
  ·exact ⟨_,rfl⟩
  ·exact h.ex k hk
 ·rw [ww _ e0];by_cases e:k=i
  ·subst e;rw [if_pos rfl,zL,zL];exact ⟨rfl,ho.other (fun e=>hne e.symm) _,hne⟩
  ·obtain ⟨h1,h2,h3⟩:=h.val k (by omega);rw [if_neg e,zG _ _ e,zG _ _ e];exact ⟨h1,h2.other (fun e=>h3 e.symm) _,h3⟩
 ·by_cases ea:a=i
  ·by_cases eb:b=i
   ·intro _; omega
   ·subst ea;rw [zL,zG _ _ eb];exact fun q=>absurd q.symm (hnew b (by omega))
  ·by_cases eb:b=i
   ·subst eb;rw [zL,zG _ _ ea];exact fun q=>absurd q (hnew a (by omega))
   ·rw [zG _ _ ea,zG _ _ eb];exact h.inj a b (by omega) (by omega)
theorem wg.grid {w:World} {base G n m:Nat} {blk cap:Nat→Nat} {f:Nat→Nat→Nat} (h:wg w base G n n m blk cap f):yD w base G n m blk cap f:=
 ⟨fun i hi=>(h.val i hi).1,fun i _=>h.free i,fun i hi=>(h.val i hi).2.1,fun i j hi hj=>h.inj i j hi hj,fun i hi=>(h.val i hi).2.2,h.lo,h.lt⟩
theorem mN:(Tryz.prog.info? 30).map (fun i=>(i.zero,i.size,i.bytes))=some (some (.slice none 0 0),1,24):=by kernel_rfl
theorem wg.made {w:World} {B G n m:Nat} {t:TypeId} {xs:List Value} (h:w.ownsRow B t 1 (.slice (some ⟨G,0,none⟩) n n) n xs) (f:Nat→Nat→Nat):wg w B G n 0 m (fun _=>0) (fun _=>0) f:=by
 have hl:=h.1;exact ⟨fun o ho=>⟨xs[o]'(by omega),(h.cellAt o (by omega)).trans (List.getElem?_eq_getElem (by omega))⟩,fun o=>h.frozenAt o,(h.lt G rfl).1,(h.lt G rfl).2,fun j hj=>by omega,fun a b ha=>by omega⟩
theorem lJ {w:World} {B G n:Nat} {t:TypeId} (h:w.ownsRow B t 1 (.slice (some ⟨G,0,none⟩) n n) n (madeCells #[Value.slice none 0 0] n).toList) (o y:Nat):w.cell? ⟨G,o,none⟩≠some (.float .f64 y):=by
 rcases id h.2 with ⟨e,-⟩ | ⟨g,c,cur,e,-,hh,-,-,hs,ht⟩
 ·cases e
 ·simp only [Value.slice.injEq,Option.some.injEq,Addr.mk.injEq] at e;obtain ⟨⟨rfl,-⟩,-,rfl⟩:=e;rw [zf hh];intro e
  have hc:cur.toList=(madeCells #[Value.slice none 0 0] n).toList:=by
   rw [← ht,List.take_of_length_le (by simp; omega)]
  have e2:cur.toList[o]? = some (.float .f64 y):=by rw [← e]; simp
  rw [hc,toList_madeCells_one,List.getElem?_replicate] at e2;split at e2<;>simp at e2
theorem qY (n:Nat) (w:World):Calls Tryz.prog 136 #[xM,.int .i64 n] w fun e w'=>∃ Kd N,e=.returned (sJ Kd N)∧KB Kd w'∧CB N (.int .i64 n) w'∧Below w.heap.size w w':=by
 unfold xM sJ;have AL:=al3 w (.cells #[.func (.func 140) #[] #[],.func (.func 141) #[] #[],.func (.func 142) #[] #[],.func (.func 143) #[] #[],.func (.func 144) #[] #[]] 158) (.cells #[.int .i64 n] 3) (.cells #[.nilFunc,.nilFunc,.nilFunc,.nilFunc,.nilFunc] 169);go_enter Tryz.func136,Tryz.ntmps136;go_upto_region 1 with fail
 generalize hB:w.heap.size=B at *;generalize ((w.alloc (.cells #[.func (.func 140) #[] #[],.func (.func 141) #[] #[],.func (.func 142) #[] #[],.func (.func 143) #[] #[],.func (.func 144) #[] #[]] 158)).alloc (.cells #[.int .i64 n] 3)).alloc (.cells #[.nilFunc,.nilFunc,.nilFunc,.nilFunc,.nilFunc] 169)=X at *;obtain ⟨x1,x2,x3,x4,x5⟩:=AL;have hk:=KB.of x1;have hn:=CB.of x2;have q0:=zf x3 0;have q1:=zf x3 1;have q2:=zf x3 2;have q3:=zf x3 3;have q4:=zf x3 4;simp only [List.getElem?_toArray,List.getElem?_cons_zero,List.getElem?_cons_succ] at q0 q1 q2 q3 q4;have r0:=zg x3 0;have r1:=zg x3 1;have r2:=zg x3 2;have r3:=zg x3 3;have r4:=zg x3 4;clear x1 x2 x3;go_wp2_with fail;have HK:=hid (fun W (h:zM X (B+2) W)=>(show KB B W∧CB (B+1) (.int .i64 n) W∧Below B w W from ⟨hk.keep h (by omega),hn.keep h (by omega),h.below x5 (by omega) (by omega)⟩));exact bodyPost_ret (v:=.agg #[.func (.func 150) #[] #[.pointer (some ⟨B,0,none⟩),.pointer (some ⟨B+1,0,none⟩)],.func (.func 153) #[] #[.pointer (some ⟨B,0,none⟩),.pointer (some ⟨B+1,0,none⟩)],.func (.func 155) #[] #[.pointer (some ⟨B,0,none⟩),.pointer (some ⟨B+1,0,none⟩)],.func (.func 157) #[] #[.pointer (some ⟨B,0,none⟩),.pointer (some ⟨B+1,0,none⟩)],.func (.func 159) #[] #[.pointer (some ⟨B,0,none⟩),.pointer (some ⟨B+1,0,none⟩)]]) (by simp [results,Tryz.results136,go_sem,q0,q1,q2,q3,q4]) rfl ⟨B,B+1,rfl,by rw [hB]; exact HK.out _ ((((((zM.refl X (B+2)).set 0 _).set 1 _).set 2 _).set 3 _).set 4 _)⟩
def lY (n:Nat) (f:Nat→Nat→Nat) (w:World) (e:Ending) (w':World):Prop:=∃ G blk cap,e=.returned (.slice (some ⟨G,0,none⟩) n n)∧yD w' w.heap.size G n n blk cap f∧Below w.heap.size w w'
theorem rx (T:TD) (v vx:Value) (x:Nat→Nat) (w:World) (h:yG w v T) (hck:yq T=true) (hcs:∀ i,i<T.len→(T.op i).c<18446744073709551616) (nn:Nat) (hn:T.n=nn) (hx:wO w vx nn x) :
  Calls Tryz.prog 124 #[xM,v,vx] w (lY nn (fun i=>dvR T.op x (T.out i).toNat) w):=by
 have hT:=h;obtain ⟨n,len,op,lo,out⟩:=T;obtain ⟨vo,vu,rfl,⟨a,cap,rfl,hl1,ho⟩,⟨a2,cap2,rfl,hl2,hu⟩⟩:=h;simp only [] at hn;subst hn;have hc1:=hck;unfold yq at hc1;simp only [Bool.and_eq_true,decide_eq_true_eq] at hc1;obtain ⟨⟨q1,q2,q3,q4⟩,-,-⟩:=hc1;have CK:=hid fun (W:World) (hb:Below w.heap.size w W)=>(wu _ _ W (hT.below hb)).mono fun _ _ h=>h.eq (by rw [hck])
 have RN:=hid fun (W:World) (Kd N XB xcap:Nat) (hb:Below w.heap.size w W) h1 h2 h3 h4=>oG _ _ x Kd N XB xcap W (hT.below hb) hck hcs nn rfl h1 h2 h3 h4
 have VR:=hid fun (W:World) (hb:Below w.heap.size w W)=>oH nn (by omega) vx x W (hx.row.below hb)
 obtain ⟨xa,xcap,rfl,hx1,hx2⟩:=hx;obtain ⟨iS,hS,s1,s2,s3⟩:=info_parts mN;have HS:=hid (show iS.zero=_∧iS.size=_∧iS.bytes=_ from ⟨s1,s2,s3⟩);have HS0:=hid hS;have AL:=al2 w (.cells #[.func (.func 140) #[] #[],.func (.func 141) #[] #[],.func (.func 142) #[] #[],.func (.func 143) #[] #[],.func (.func 144) #[] #[]] 158) (.cells #[.int .i64 nn,.slice a len cap,.slice a2 lo cap2] 28);clear ho hu hT hck hcs hx2 hS s1 s2 s3;unfold xM;go_enter Tryz.func124,Tryz.ntmps124;go_upto_region 1 with fail
 generalize hB:w.heap.size=B at *;generalize (w.alloc (.cells #[.func (.func 140) #[] #[],.func (.func 141) #[] #[],.func (.func 142) #[] #[],.func (.func 143) #[] #[],.func (.func 144) #[] #[]] 158)).alloc (.cells #[.int .i64 nn,.slice a len cap,.slice a2 lo cap2] 28)=X at *;obtain ⟨x1,x2,x4,x5⟩:=AL;have p0:=zf x2 0;have p1:=zf x2 1;have p2:=zf x2 2;simp only [List.getElem?_toArray,List.getElem?_cons_zero,List.getElem?_cons_succ] at p0 p1 p2;go_wp2_with fail;refine (CK.out _ x5).mono ?_;rintro e w1 ⟨rfl,hb1⟩;have y1:=hid ((hb1.block B (by omega)).trans x1);have y2:=hid ((hb1.block (B+1) (by omega)).trans x2);have y5:=hid (x5.trans (hb1.mono (by omega)));have hs1:=hb1.size;clear p0 p1 p2 x1 x2 x5 hb1;have p0:=zf y2.out 0;simp only [List.getElem?_toArray,List.getElem?_cons_zero] at p0
 go_wp2_with (first
  | (refine wpList_make_full _ rfl _ _ _ rfl w1.heap.size 30 iS (.slice none 0 0) 1 Tryz.underlying35 HS0.out HS.out.1 HS.out.2.1 .i64 .i64 (nn:Int) (nn:Int) nn rfl rfl rfl rfl (by rw [HS.out.2.2]; omega) (by unfold maxLen; omega) (by omega) ?_)
  | fail)
 intro w2 hr0 hg0;have hb2:Below w1.heap.size w1 w2:=(Below.refl _ _).grown hg0 (by omega) (fun k hk=>by cases hk);have hG:=(hr0.lt w1.heap.size rfl).2;have NOF:=hid (lJ hr0);have HGR:=hid (wg.made (m:=nn) hr0 (fun i=>dvR op x (out i).toNat));have z1:=hid ((hb2.block B (by omega)).trans y1.out);have z2:=hid ((hb2.block (B+1) (by omega)).trans y2.out);have z5:=hid (y5.out.trans (hb2.mono (by omega)));clear hr0 hg0 hb2 p0 y1 y2 y5;generalize hGe:w1.heap.size=G at *;go_upto_region 4 with fail
 have g0:=zf z1.out 0;have g1:=zf z1.out 1;have g2:=zf z1.out 2;have g3:=zf z1.out 3;have g4:=zf z1.out 4;have p0:=zf z2.out 0;have p1:=zf z2.out 1;have p2:=zf z2.out 2;have gl:=zj z1.out;have pl:=zj z2.out;simp only [List.getElem?_toArray,List.getElem?_cons_zero,List.getElem?_cons_succ] at g0 g1 g2 g3 g4 p0 p1 p2;refine zv [(0,3),(1,1),(2,3),(4,3),(5,3),(6,1),(10,1),(3,0),(7,0),(8,0),(9,1)] (fun W=>Below w2.heap.size w2 W) (by kernel_rfl) (by kernel_rfl) (fun _ _ d _ _ h=>by cases d<;>exact h) ((Below.refl _ _).drew) ?_;intro Z hZ hbZ;clear hZ;refine zh (v:=xM) rfl rfl (fun wk hwk=>?_) ?_
 ·rw [← (zA hwk).1 _ _ gl] at g0 g1 g2 g3 g4;unfold xM;go_simp
 iterate 1
  first
   | refine zd (fun K hK=>?_)
   | refine ze (fun K hK=>?_)
  go_simp;refine hK _ ?_;clear hK K
 refine zh (v:=.int .i64 nn) rfl rfl (fun wk hwk=>?_) ?_
 ·rw [← (zA hwk).1 _ _ pl] at p0;go_simp
 refine zh (v:=.agg #[.int .i64 nn,.slice a len cap,.slice a2 lo cap2]) rfl rfl (fun wk hwk=>?_) ?_
 ·rw [← (zA hwk).1 _ _ pl] at p0 p1 p2;go_simp
 refine zh (v:=xM) rfl rfl (fun wk hwk=>?_) ?_
 ·rw [← (zA hwk).1 _ _ gl] at g0 g1 g2 g3 g4;unfold xM;go_simp
 iterate 2
  first
   | refine zd (fun K hK=>?_)
   | refine ze (fun K hK=>?_)
  go_simp;refine hK _ ?_;clear hK K
 refine zm (fun K hK=>?_);go_simp;refine (qY nn _).mono ?_;rintro e w3 ⟨Kd,N,rfl,hk3,hN3,hb3⟩;have hb3':=hbZ.trans (hb3.mono hbZ.size);refine hK _ _ (fun h=>Bool.noConfusion (Eq.trans (Eq.symm (by kernel_rfl:_=false)) h)) (fun _=>hb3') ?_;clear hK K;refine zm (fun K hK=>?_);go_simp;refine (VR.out w3 (z5.out.trans (hb3'.mono (by omega)))).mono ?_;rintro e w4 ⟨XB,rfl,hXl,hxv,hb4⟩;have hb4':=hb3'.trans (hb4.mono hb3'.size);refine hK _ _ (fun h=>Bool.noConfusion (Eq.trans (Eq.symm (by kernel_rfl:_=false)) h)) (fun _=>hb4') ?_;clear hK K;refine zm (fun K hK=>?_);go_simp;refine (RN.out w4 Kd N XB nn (z5.out.trans (hb4'.mono (by omega))) (hk3.below hb4) (hN3.below hb4) hXl hxv).mono ?_;rintro e w5 ⟨Q,rfl,hQl,hqv,hb5⟩;have hb5':=hb4'.trans (hb5.mono hb4'.size);refine hK _ _ (fun h=>Bool.noConfusion (Eq.trans (Eq.symm (by kernel_rfl:_=false)) h)) (fun _=>hb5') ?_;clear hK K
 iterate 1
  first
   | refine zd (fun K hK=>?_)
   | refine ze (fun K hK=>?_)
  go_simp;refine hK _ ?_;clear hK K
 refine zo ?_;have HG5:=hid (HGR.out.below hb5');have NO5:=hid (show ∀ o y,w5.cell? ⟨G,o,none⟩≠some (.float .f64 y) from fun o y=>by rw [hb5'.cell (p:=⟨G,o,none⟩) hG]; exact NOF.out o y);have HB5:=hid (z5.out.trans (hb5'.mono (by omega)))
 have HQV:=hid (fun i hi=>(show ∃ y p l,w5.cell? ⟨Q,i*2,none⟩=some (.float .f64 y)∧w5.cell? ⟨Q,i*2+1,none⟩=some (.slice p nn l)∧zT w5 (.slice p nn l) nn (dvR op x (out i).toNat)∧(Value.slice p nn l).ownBlock≠some G∧Q≠G by
  obtain ⟨y,u,y1,y2,y3,u1,u2,u3⟩:=hqv i hi;obtain ⟨p,l,rfl,u4,u5⟩:=id u2;refine ⟨y,p,l,y1,u1,u2,fun e=>?_,fun e=>?_⟩
  ·obtain ⟨b,o,rfl,hb,hc⟩:=u5 (by omega);simp only [Value.ownBlock,Option.some.injEq] at e;subst e;obtain ⟨y,y1,-⟩:=hc 0 (by omega);exact NO5.out _ _ y1
  ·subst e;exact NO5.out _ _ y1))
 clear hbZ hb3 hb3' hb4 hb4' hb5 hb5' g0 g1 g2 g3 g4 p0 p1 p2 gl pl hk3 hN3 hXl hxv hqv NOF HGR z1 z2 z5;have hGl:=HG5.out.lt;have hn1:0<nn:=by omega
 go_wp2_with fail
 go_loopw [33] (fun i wr=>∃ (j:Nat) (blk cp:Nat→Nat),j≤nn∧i=.int .i64 j∧zM w5 G wr∧wg wr G G nn j nn blk cp (fun i=>dvR op x (out i).toNat)) (fun i _=>nn-(intOf i).toNat)
 case atStart=>exact ⟨0,_,_,by omega,rfl,zM.refl _ _,HG5.out⟩
 case round=>
  clear HG5;obtain ⟨j,blk,cp,hj,rfl,hkp,hrg⟩:=hrel;by_cases hlt:j<nn
  ·obtain ⟨y,p,l,y1,u1,u2,u3,hQG⟩:=HQV.out j hlt;rw [← hkp.cell hQl hQG] at y1 u1
   have hu:zT wr (.slice p nn l) nn (dvR op x (out j).toNat):=by
    obtain ⟨a,c,hv,h1,h2⟩:=u2;refine ⟨a,c,hv,h1,fun h0=>?_⟩;obtain ⟨b,o,rfl,hb,hc⟩:=h2 h0;simp only [Value.slice.injEq] at hv;obtain ⟨rfl,-,rfl⟩:=hv;have hne:b≠G:=fun e=>u3 (by rw [e]; rfl)
    exact ⟨b,o,rfl,Nat.lt_of_lt_of_le hb hkp.size,fun i hi=>(hc i hi).same (hkp.cell hb hne _)⟩
   have hal:=al1 wr (.cells #[.float .f64 y,.slice p nn l] 173);have CL:=hid (qX p nn l (dvR op x (out j).toNat) (wr.alloc (.cells #[.float .f64 y,.slice p nn l] 173)) (hu.below hal.2.2) hn1 (by omega));have HKP:=hid hkp;have HRG:=hid hrg;have HAL:=hid hal;have hwG:G<wr.heap.size:=hrg.lt;have hlt':(j:Int)<(nn:Int):=by omega
   clear hkp hrg u2 hu hal;go_wp2_with fail;refine CL.out.mono ?_;rintro e w6 ⟨R,c6,rfl,ho,hb6⟩;have hb7:Below wr.heap.size wr w6:=HAL.out.2.2.trans (hb6.mono (by rw [HAL.out.2.1]; omega));have hrg6:=HRG.out.below hb7;obtain ⟨v0,s0⟩:=hrg6.ex j (by omega);have f0:=hrg6.free j;have hRl:wr.heap.size<R:=by have:=ho.lt; have:=HAL.out.2.1; omega
   have REL:=hid (hrg6.set hlt (ho.base (b':=G) (by omega)) (by omega) (fun k hk=>by have:=(HRG.out.val k hk).2.1.lt; omega));have HK6:=hid ((HKP.out.step hb7).set j (.slice (some ⟨R,0,none⟩) nn c6));clear hb6 hb7 hrg6 ho HRG HKP CL HAL;go_wp2_with fail
   go_roundw
   case rel=>exact ⟨j+1,_,_,by omega,by go_num,HK6.out,REL.out⟩
   case measure=>simp [intOf]; omega
  ·obtain rfl:j=nn:=by omega
   go_wp2_with fail;go_ret;have hGB:B≤G:=by omega
   exact ⟨G,blk,cp,rfl,by rw [hB]; exact hrg.grid.base hGB,by rw [hB]; exact hkp.below HB5.out hGB (by omega)⟩
theorem nX (T:TD) (v vx:Value) (x:Nat→Nat) (w:World) (h:yG w v T) (hck:yq T=true) (hcs:∀ i,i<T.len→(T.op i).c<18446744073709551616) (nn:Nat) (hn:T.n=nn) (hx:wO w vx nn x) :
  Calls Tryz.prog 108 #[v,vx] w (lY nn (fun i=>dvR T.op x (T.out i).toNat) w):=by
 have hT:=h;obtain ⟨n,len,op,lo,out⟩:=T;obtain ⟨vo,vu,rfl,⟨a,cap,rfl,hl1,ho⟩,⟨a2,cap2,rfl,hl2,hu⟩⟩:=h;simp only [] at hn;subst hn;have CH:=hid fun (W:World) (hb:Below w.heap.size w W)=>rx _ _ vx x W (hT.below hb) hck hcs nn rfl (hx.below hb)
 obtain ⟨xa,xcap,rfl,hx1,hx2⟩:=hx;have AL:=al1 w (.cells #[.int .i64 nn,.slice a len cap,.slice a2 lo cap2] 28);clear ho hu hT hck hcs hx2;go_enter Tryz.func108,Tryz.ntmps108;go_upto_region 1 with fail
 generalize hB:w.heap.size=B at *;generalize w.alloc (.cells #[.int .i64 nn,.slice a len cap,.slice a2 lo cap2] 28)=X at *;obtain ⟨x2,x4,x5⟩:=AL;have p0:=zf x2 0;have p1:=zf x2 1;have p2:=zf x2 2;have pl:=zj x2;simp only [List.getElem?_toArray,List.getElem?_cons_zero,List.getElem?_cons_succ] at p0 p1 p2;refine zv [(1,3),(2,1),(0,0),(3,0),(4,1)] (fun W=>Below X.heap.size X W) (by kernel_rfl) (by kernel_rfl) (fun _ _ d _ _ h=>by cases d<;>exact h) ((Below.refl _ _).drew) ?_;intro Z hZ hbZ;clear hZ;refine zh (v:=.agg #[.int .i64 nn,.slice a len cap,.slice a2 lo cap2]) rfl rfl (fun wk hwk=>?_) ?_
 ·rw [← (zA hwk).1 _ _ pl] at p0 p1 p2;go_simp
 iterate 1
  first
   | refine zd (fun K hK=>?_)
   | refine ze (fun K hK=>?_)
  go_simp;refine hK _ ?_;clear hK K
 refine zm (fun K hK=>?_);go_simp;refine (tu _).mono ?_;rintro e w1 ⟨rfl,hb1⟩;have hb1':=hbZ.trans (hb1.mono hbZ.size);refine hK _ _ (fun h=>Bool.noConfusion (Eq.trans (Eq.symm (by kernel_rfl:_=false)) h)) (fun _=>hb1') ?_;clear hK K;refine zm (fun K hK=>?_);go_simp;refine (CH.out w1 (x5.trans (hb1'.mono (by omega)))).mono ?_;rintro e w2 ⟨G,blk,cp,rfl,hg,hb2⟩;have hb2':=hb1'.trans (hb2.mono hb1'.size);refine hK _ _ (fun h=>Bool.noConfusion (Eq.trans (Eq.symm (by kernel_rfl:_=false)) h)) (fun _=>hb2') ?_;clear hK K
 iterate 1
  first
   | refine zd (fun K hK=>?_)
   | refine ze (fun K hK=>?_)
  go_simp;refine hK _ ?_;clear hK K
 refine zo ?_;have hs1:=hb1'.size;have HG:=hid (hg.base (b':=B) (by omega));have HB:=hid (x5.trans (hb2'.mono (by omega)));clear hb1 hb1' hb2 hb2' hbZ hg p0 p1 p2;go_wp2_with fail;go_ret;exact ⟨G,blk,cp,rfl,by rw [hB]; exact HG.out,by rw [hB]; exact HB.out⟩
end Go.Proofs.YtnlbafjmbamoeaaGreat
