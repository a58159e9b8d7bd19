/-
  Contracts (what a function tells) and plain facts that a law's proof hangs on, for every input; no condition but those in their statements. Laid together of the texts Sq, Sw, Sx, Sy, Sp, Sz, Tba, Tbb, Tbc.
-/
import Derived.Test.YtnlbafjmbamoeaaGreatQn
import Derived.Test.YtnlbafjmbamoeaaGreatQo
import Derived.Test.YtnlbafjmbamoeaaGreatQp
namespace Go.Proofs.YtnlbafjmbamoeaaGreat
open Go.RowKit Lib
open Ieee (double)
attribute [local go_sem] zr zi zy zn zU zS zW zX zV zY zD zH zI zJ zK zB ye z8 zF yE zN zQ zR
theorem lj (T:TD) (z:Nat→Nat→Nat) (wt:Nat→Nat) (l0 h n:Nat) (bdf:Bool):((y9 T z wt l0 h n bdf).has=true→(y9 T z wt l0 h n bdf).e=0)∧((y9 T z wt l0 h n bdf).has=false→(y9 T z wt l0 h n bdf).e≠0):=by
 have key:∀ S:rA,(S=⟨fun _=>0,false,0,4⟩∨∃ nx x,S=yH nx n 4 x)→(S.has=true→S.e=0)∧(S.has=false→S.e≠0):=fun S hS=>by
  rcases hS with rfl | ⟨nx,x,rfl⟩
  ·exact ⟨fun h=>by simp at h,fun _=>show (4:Int)≠0 by decide⟩
  ·exact ⟨fun h=>(oa nx n 4 x (by omega) h).1,fun h=>(ob nx n 4 x (by omega) (by omega) h).1⟩
 apply key;unfold y9
 cases bdf with
 | false=>
  rw [if_neg (by decide)];exact .inr ⟨yW T (z 0) (z 1) wt l0 h n,fun _=>0,rfl⟩
 | true=>
  rw [if_pos rfl]
  cases yU (wF T (z 0) l0 h) n n with
  | none=>exact .inl rfl
  | some gq=>
   obtain ⟨g,q⟩:=gq;exact .inr ⟨wy T (z 0) (z 1) wt l0 h n g q,fun _=>0,rfl⟩
theorem nF (T:TD) (n a r:Nat) (lo en:Int) (s:Sol) (S:rA) (hS:pP T n a r s=S):uG T n a r lo en s =
  if S.has=false then xO T lo s S.e 0
  else if leB (cop .quo (xk (byW S.d (wtF (s.z 0) a r)) n) (qF s.q)) 4607182418800017408=true then tI en s (wb (wG s.z s.q) (coF s.M s.q) S.d) (coF s.M s.q) S.d (cop .quo (xk (byW S.d (wtF (s.z 0) a r)) n) (qF s.q))
  else xO T lo s 0 (cop .quo (xk (byW S.d (wtF (s.z 0) a r)) n) (qF s.q)):=by
 subst hS;rfl
theorem nG:zk 4607182418800017408=4607182418800017408:=by decide +kernel
theorem TrB.shape {base n:Nat} {R:Tr} {w:World} {e:Ending} {w':World} (h:TrB base n R w e w'):Below w.heap.size w w'∧∃ ra rl rc na nl nc y,e=.returned (.agg #[.int .i64 R.S.at_,.int .i64 (tk R.S.k),.int .i64 R.S.q,.int .i64 R.S.M,.slice ra rl rc,.int .i64 R.S.good,.int .i64 R.S.fails,.int .i64 R.S.slow,.int .i64 R.N.at_,.int .i64 R.N.st,.int .i64 R.N.q,.int .i64 R.N.M,.slice na nl nc,.bool R.took,.float .f64 y,.int .i64 R.e]) ∧
  zk y=R.err∧y<18446744073709551616∧yk w' base (.slice ra rl rc) (R.S.q+1) n R.S.z∧(0<R.N.rows→yk w' base (.slice na nl nc) R.N.rows n R.N.z)∧(R.N.rows=0→Value.slice na nl nc=.slice none 0 0):=by
 obtain ⟨hb,vz,vn,y,rfl,h1,h2,h3,h4,h5⟩:=h;obtain ⟨a,c,rfl⟩:=h3.shape;refine ⟨hb,?_⟩;rcases Nat.eq_zero_or_pos R.N.rows with e | e
 ·obtain rfl:=h5 e;exact ⟨_,_,_,_,_,_,y,rfl,h1,h2,h3,h4,h5⟩
 ·obtain ⟨a2,c2,rfl⟩:=(h4 e).shape;exact ⟨_,_,_,_,_,_,y,rfl,h1,h2,h3,h4,h5⟩
set_option maxRecDepth 100000
set_option maxHeartbeats 16000000
theorem ml (n:Nat) (T:TD) (vo vu vb vy vt vz:Value) (en fi lo mo:Int) (pa pr pc:Nat) (s:Sol) (w:World) (hT:yG w (.agg #[.int .i64 n,vo,vu]) T) (hz:yB w vz (s.q+1) (fun _=>n) s.z)
  (hq:1≤s.q) (hq5:s.q+s.M≤5) (hk:s.k<43) (hM:s.M<2) (hlo:1≤lo) (hat:0≤s.at_∧s.at_≤1000000000000000000) (hg0:0≤s.good∧s.good≤1000000) (hf:0≤s.fails∧s.fails≤1000) (hsl:0≤s.slow∧s.slow≤1000)
  (hck:yq T=true) (hcs:∀ i,(T.op i).c<18446744073709551616) (hn:T.n=n) (h1:1≤n) (h4:n≤4) :
  Calls Tryz.prog 18 #[.agg #[.int .i64 n,vo,vu,vb,vy,.int .i64 en,.int .i64 fi,.int .i64 lo,.float .f64 pa,.float .f64 pr,.float .f64 pc,.int .i64 mo,vt],.agg #[.int .i64 s.at_,.int .i64 (tk s.k),.int .i64 s.q,.int .i64 s.M,vz,.int .i64 s.good,.int .i64 s.fails,.int .i64 s.slow]] w (TrT n (uG T n pa pr lo en s) w):=by
 have HRF:=hid (fun (W:World) (hb:Below w.heap.size w W) (e:Int) (y c:Nat) (h5:zk y=c) (h6:y<18446744073709551616)=>rK n T vo vu vb vy vt vz en fi lo mo pa pr pc s e y c W (hT.below hb) (hz.below hb) hq (by omega) hk hM hlo hf hsl h5 h6 hck (fun i _=>hcs i) hn h1 h4);have HTK:=hid (fun (W:World) (hb:Below w.heap.size w W) (b0:Nat) (v2 vl vd:Value) (z2:Nat→Nat→Nat) (l d:Nat→Nat) (y c:Nat) (hb0:b0≤W.heap.size) (hz2:yk W b0 v2 (s.q+1) n z2) (hl:zT W vl (s.q+1) l) (hd:zT W vd n d) (h5:zk y=c) (h6:y<18446744073709551616)=>pZ n b0 vo vu vb vy vt vz v2 vl vd en fi lo mo pa pr pc s z2 l d y c W hb0 (hz.below hb) hz2 hl hd hq hq5 hk hM hat hg0 h5 h6 h1 h4);have HTE:=hid (fun S hS=>nF T n pa pr lo en s S hS);unfold pP at HTE;obtain ⟨at_,k,q,M,z,good,fails,slow⟩:=s;simp only [] at *;have CF:=hid (fun W=>mh (m:=M) (q:=q) hM hq (by omega) W);have SS:=hid (fun (W:World) (hb:Below w.heap.size w W)=>tT n T vo vu vz q k at_ M z (by omega) hk W (hT.below hb) (hz.below hb) hck);have PD:=hid (fun (W:World) (hb:Below w.heap.size w W)=>rD vz q n hq (by omega) h1 h4 z W (hz.below hb));have HT:=hid hT;have SV:=hid (fun (W:World) (vz vl vw:Value) (hx:xT W n T vo vu vz vl vw (q+1) (wG z q) (coF M q) (wtF (z 0) pa pr))=>li n T vo vu vz vl vw (q+1) k M (wG z q) (coF M q) (wtF (z 0) pa pr) W hx hck hcs hn h1 h4 (by omega) hk hM);obtain ⟨bz,oz,cz,rfl,hbz,hr⟩:=hz.rowAt (by omega);obtain ⟨pz0,cz0,z0,hz0⟩:=hr 0 (by omega);rw [Nat.add_zero] at z0;have HZ0:=hid hz0;have CE:=hid (lj T (wG z q) (wtF (z 0) pa pr) (coF M q 0) (xh (tk k)) n (M==1));have AL:=al3 w (.cells #[.int .i64 n,vo,vu,vb,vy,.int .i64 en,.int .i64 fi,.int .i64 lo,.float .f64 pa,.float .f64 pr,.float .f64 pc,.int .i64 mo,vt] 33) (.cells #[.int .i64 at_,.int .i64 (tk k),.int .i64 q,.int .i64 M,.slice (some ⟨bz,oz,none⟩) (q+1) cz,.int .i64 good,.int .i64 fails,.int .i64 slow] 42) (.cells #[.int .i64 0,.int .i64 0,.int .i64 0,.int .i64 0,.slice none 0 0,.int .i64 0,.int .i64 0,.int .i64 0,.int .i64 0,.int .i64 0,.int .i64 0,.int .i64 0,.slice none 0 0,.bool false,.float .f64 0,.int .i64 0] 45);clear hT hz hr hz0 hck hcs hk hat hg0 hf hsl hlo;have SV2:=hid (show ∀ (W:World) (vz vl vw:Value),xT W n T vo vu vz vl vw (q+1) (wG z q) (coF M q) (wtF (z 0) pa pr)→Calls Tryz.prog 39 #[.agg #[.int .i64 n,vo,vu],vz,vl,.int .i64 (tk k),.int .i64 M,vw] W (mb n (y9 T (wG z q) (wtF (z 0) pa pr) (coF M q 0) (xh (tk k)) n (M==1)) W) from SV.out);clear SV;obtain ⟨S,hS⟩:∃ S,y9 T (wG z q) (wtF (z 0) pa pr) (coF M q 0) (xh (tk k)) n (M==1)=S:=⟨_,rfl⟩;have HTF:=hid (HTE.out S hS);simp only [hS] at CE SV2;clear HTE hS;go_enter Tryz.func18,Tryz.ntmps18;go_upto_region 1 with fail
 generalize hB:w.heap.size=B at *;generalize ((w.alloc (.cells #[.int .i64 n,vo,vu,vb,vy,.int .i64 en,.int .i64 fi,.int .i64 lo,.float .f64 pa,.float .f64 pr,.float .f64 pc,.int .i64 mo,vt] 33)).alloc (.cells #[.int .i64 at_,.int .i64 (tk k),.int .i64 q,.int .i64 M,.slice (some ⟨bz,oz,none⟩) (q+1) cz,.int .i64 good,.int .i64 fails,.int .i64 slow] 42)).alloc (.cells #[.int .i64 0,.int .i64 0,.int .i64 0,.int .i64 0,.slice none 0 0,.int .i64 0,.int .i64 0,.int .i64 0,.int .i64 0,.int .i64 0,.int .i64 0,.int .i64 0,.slice none 0 0,.bool false,.float .f64 0,.int .i64 0] 45)=X at *;obtain ⟨x1,x2,x3,x4,x5⟩:=AL;have HBX:=hid x5;have hXB:B+2<X.heap.size:=by omega
 have PB:=hid (fun W (hW:Below X.heap.size X W)=>(hW.block B (by omega)).trans x1);have SB:=hid (fun W (hW:Below X.heap.size X W)=>(hW.block (B+1) (by omega)).trans x2);have RB:=hid (fun W (hW:Below X.heap.size X W)=>(hW.block (B+2) (by omega)).trans x3);have ZB:=hid (fun W (hW:Below X.heap.size X W)=>(hW.cell (p:=⟨bz,oz,none⟩) (by show bz<_; omega)).trans ((x5.cell (p:=⟨bz,oz,none⟩) hbz).trans z0));have BX:=hid (fun W (hW:Below X.heap.size X W)=>(show Below B w W from HBX.out.trans (hW.mono (by omega))));clear x1 x2 x3 x4 x5 z0;obtain ⟨s0,s1,s2,s3,s4,s5,s6,s7⟩:=zO (SB.out X (Below.refl _ _));clear s0 s1 s4 s5 s6 s7;go_wp2_with fail;refine (CF.out X).mono ?_;rintro e w1 ⟨vl,rfl,hl,hb1⟩;obtain ⟨bl,cl,rfl⟩:∃ a c,vl=.slice a (q+1) c:=by obtain ⟨a,c,e,-⟩:=hl; exact ⟨a,c,e⟩
 have HL1:=hid hl;have HW1:=hid hb1;clear hl hb1 s2 s3 CF;obtain ⟨s0,s1,s2,s3,s4,s5,s6,s7⟩:=zO (SB.out w1 HW1.out);obtain ⟨p0,p1,p2,p3,p4,p5,p6,p7,p8,p9,p10,p11,p12⟩:=yn (PB.out w1 HW1.out);clear s5 s6 s7 p3 p4 p5 p6 p7 p8 p9 p10 p11 p12;go_wp2_with fail;refine (SS.out w1 (BX.out w1 HW1.out)).mono ?_;rintro e w2 ⟨rfl,hb2⟩;have HW2:=hid (HW1.out.trans (hb2.mono HW1.out.size));have HL2:=hid (HL1.out.below hb2);clear hb2 s0 s1 s2 s3 s4 p0 p1 p2 SS HW1 HL1;obtain ⟨s0,s1,s2,s3,s4,s5,s6,s7⟩:=zO (SB.out w2 HW2.out);clear s0 s1 s2 s3 s5 s6 s7;go_wp2_with fail;refine (PD.out w2 (BX.out w2 HW2.out)).mono ?_;rintro e w3 ⟨G,A,rfl,hg,hb3⟩;have HW3:=hid (HW2.out.trans (hb3.mono HW2.out.size));have HL3:=hid (HL2.out.below hb3);have HG3:=hid (hg.tab (by omega) (by omega));clear hb3 hg s4 PD HW2 HL2;obtain ⟨s0,s1,s2,s3,s4,s5,s6,s7⟩:=zO (SB.out w3 HW3.out);obtain ⟨p0,p1,p2,p3,p4,p5,p6,p7,p8,p9,p10,p11,p12⟩:=yn (PB.out w3 HW3.out);have z0:=ZB.out w3 HW3.out;have lt0:B<w3.heap.size:=by have:=HW3.out.size; omega
 have lt1:B+1<w3.heap.size:=by have:=HW3.out.size; omega
 have ltz:bz<w3.heap.size:=by have:=HW3.out.size; omega
 have hq0:0<q+1:=by omega
 clear s0 s1 s2 s3 s5 s6 s7 p0 p1 p2 p3 p4 p5 p6 p7 p10 p11 p12;go_wp2_with fail;refine zv [(0,1),(1,1),(2,3),(3,1),(4,3),(5,1),(6,3),(7,1),(8,3),(9,0),(10,1)] (fun W=>Below w3.heap.size w3 W) (by kernel_rfl) (by kernel_rfl) (fun _ _ d _ _ h=>by cases d<;>exact h) ((Below.refl _ _).drew) ?_;intro Z hZ hbZ;clear hZ
 iterate 2
  first
   | refine zd (fun K hK=>?_)
   | refine ze (fun K hK=>?_)
  go_simp;refine hK _ ?_;clear hK K
 refine zh (v:=.slice (some ⟨bz,oz,none⟩) (q+1) cz) rfl rfl (fun wk hwk=>?_) ?_
 ·rw [← (zA hwk).1 _ _ lt1] at s4;go_simp
 iterate 1
  first
   | refine zd (fun K hK=>?_)
   | refine ze (fun K hK=>?_)
  go_simp;refine hK _ ?_;clear hK K
 refine zh (v:=.slice pz0 n cz0) rfl rfl (fun wk hwk=>?_) ?_
 ·rw [← (zA hwk).1 _ _ ltz] at z0;go_simp
 iterate 1
  first
   | refine zd (fun K hK=>?_)
   | refine ze (fun K hK=>?_)
  go_simp;refine hK _ ?_;clear hK K
 refine zh (v:=.float .f64 pa) rfl rfl (fun wk hwk=>?_) ?_
 ·rw [← (zA hwk).1 _ _ lt0] at p8;go_simp
 iterate 1
  first
   | refine zd (fun K hK=>?_)
   | refine ze (fun K hK=>?_)
  go_simp;refine hK _ ?_;clear hK K
 refine zh (v:=.float .f64 pr) rfl rfl (fun wk hwk=>?_) ?_
 ·rw [← (zA hwk).1 _ _ lt0] at p9;go_simp
 refine zm (fun K hK=>?_);go_simp;refine (rz _ n (by omega) (z 0) pa pr Z (HZ0.out.below (hB ▸ (BX.out Z (HW3.out.trans (hbZ.mono HW3.out.size)))))).mono ?_;rintro e w4 ⟨vw,rfl,hvw,hb4⟩;obtain ⟨bw,cw,rfl⟩:∃ a c,vw=.slice a n c:=by obtain ⟨a,c,e,-⟩:=hvw; exact ⟨a,c,e⟩
 have hbA:=hbZ.trans (hb4.mono hbZ.size);refine hK _ _ (fun h=>Bool.noConfusion (Eq.trans (Eq.symm (by kernel_rfl:_=false)) h)) (fun _=>hbA) ?_;clear hK K
 iterate 1
  first
   | refine zd (fun K hK=>?_)
   | refine ze (fun K hK=>?_)
  go_simp;refine hK _ ?_;clear hK K
 refine zo ?_;have HW4:=hid (HW3.out.trans (hbA.mono HW3.out.size));have HL4:=hid (HL3.out.below hbA);have HG4:=hid (HG3.out.below hbA);have HWT:=hid hvw;clear hbZ hb4 hbA hvw s4 p8 p9 z0 lt0 lt1 ltz HW3 HL3 HG3;obtain ⟨s0,s1,s2,s3,s4,s5,s6,s7⟩:=zO (SB.out w4 HW4.out);obtain ⟨p0,p1,p2,p3,p4,p5,p6,p7,p8,p9,p10,p11,p12⟩:=yn (PB.out w4 HW4.out);clear s0 s2 s4 s5 s6 s7 p3 p4 p5 p6 p7 p8 p9 p10 p11 p12;go_wp2_with fail;refine (SV2.out w4 _ _ _ ⟨HT.out.below (hB ▸ BX.out w4 HW4.out),HG4.out,HL4.out,HWT.out⟩).mono ?_;rintro e w5 ⟨hb5,hd5⟩;have HW5:=hid (HW4.out.trans (hb5.mono HW4.out.size));have HL5:=hid (HL4.out.below hb5);have HG5:=hid (HG4.out.below hb5);have HWT5:=hid (HWT.out.below hb5);clear hb5 s1 s3 p0 p1 p2 HW4 HL4 HG4 HWT
 cases hh:S.has with
 | false=>
  have he:=CE.out.2 hh;rcases hd5 with ⟨h,-⟩ | ⟨-,rfl⟩
  ·rw [hh] at h; cases h
  have HRE:=hid (HTF.out.trans (if_pos hh));have he0:(S.e != 0)=true:=by simpa using he
  have hal:=al1 w5 (.cells #[.slice none 0 0,.int .i64 S.tries,.int .i64 S.e] 78);have HW6:=hid (HW5.out.trans (hal.2.2.mono HW5.out.size));have HQ:=hid hal.1;clear hal;go_upto_region 7 with fail
  generalize w5.alloc (.cells #[.slice none 0 0,.int .i64 S.tries,.int .i64 S.e] 78)=w6 at *;generalize w5.heap.size=Q5 at *;have c2:=zf HQ.out 2;simp only [List.getElem?_toArray,List.getElem?_cons_zero,List.getElem?_cons_succ] at c2;obtain ⟨s0,s1,s2,s3,s4,s5,s6,s7⟩:=zO (SB.out w6 HW6.out);obtain ⟨p0,p1,p2,p3,p4,p5,p6,p7,p8,p9,p10,p11,p12⟩:=yn (PB.out w6 HW6.out);go_wp2_with fail;refine (HRF.out w6 (BX.out w6 HW6.out) S.e 0 0 (by decide) (by decide)).mono ?_;intro e' wA hR;have hRB:=HRE.out;generalize xO T lo _ _ _=R at hR hRB;obtain ⟨hbR,ra,rl,rc,na,nl,nc,ry,rfl,r1,r2,r3,r4,r5⟩:=hR.shape;have hbX:=HW6.out.trans (hbR.mono HW6.out.size);have hr:=RB.out wA hbX;have hrow:=yx hr #[.int .i64 R.S.at_,.int .i64 (tk R.S.k),.int .i64 R.S.q,.int .i64 R.S.M,.slice ra rl rc,.int .i64 R.S.good,.int .i64 R.S.fails,.int .i64 R.S.slow,.int .i64 R.N.at_,.int .i64 R.N.st,.int .i64 R.N.q,.int .i64 R.N.M,.slice na nl nc,.bool R.took,.float .f64 ry,.int .i64 R.e];have HBF:=hid (hrow.1.below (BX.out wA hbX) (show B≤B+2 by omega) (by have:=hbX.size; omega));have HRR:=hid hrow.2.1;have HRX:=hid hr;have hbs:B≤w6.heap.size:=by have:=HW6.out.size; omega
  have HR3:=hid ((r3.base (b':=B) hbs).put hr hrow.1 rfl rfl);have HR4:=hid (fun h=>((r4 h).base (b':=B) hbs).put hr hrow.1 rfl rfl);clear hrow hr hbX hbR r3 r4
  go_wp2_with (first
   | (refine wpList_store_row rfl 45 _ _ rfl (B+2) #[.int .i64 R.S.at_,.int .i64 (tk R.S.k),.int .i64 R.S.q,.int .i64 R.S.M,.slice ra rl rc,.int .i64 R.S.good,.int .i64 R.S.fails,.int .i64 R.S.slow,.int .i64 R.N.at_,.int .i64 R.N.st,.int .i64 R.N.q,.int .i64 R.N.M,.slice na nl nc,.bool R.took,.float .f64 ry,.int .i64 R.e] rfl rfl 45 _ HRX.out (by kernel_rfl) rfl (by simp [Value.oneCell']) ?_)
   | fail)
  refine yf 4 45 Tryz.results18 (B+2) 45 #[.int .i64 R.S.at_,.int .i64 (tk R.S.k),.int .i64 R.S.q,.int .i64 R.S.M,.slice ra rl rc,.int .i64 R.S.good,.int .i64 R.S.fails,.int .i64 R.S.slow,.int .i64 R.N.at_,.int .i64 R.N.st,.int .i64 R.N.q,.int .i64 R.N.M,.slice na nl nc,.bool R.took,.float .f64 ry,.int .i64 R.e] _ rfl HRR.out Tryz.underlying45 rfl (by kernel_rfl) rfl ?_;rw [hRB];exact ⟨by rw [hB]; exact HBF.out,_,_,ry,rfl,r1,r2,by rw [hB]; exact HR3.out,fun h=>by rw [hB]; exact HR4.out h,r5⟩
 | true=>
  have he:=CE.out.1 hh;rcases hd5 with ⟨-,R5,rfl,ho5⟩ | ⟨h,-⟩
  ·skip
   have he0:(S.e != 0)=false:=by simpa using he
   clear he;have hR5:=ho5.lt;have hal:=al1 w5 (.cells #[.slice (some ⟨R5,0,none⟩) n n,.int .i64 S.tries,.int .i64 S.e] 78);have HW6:=hid (HW5.out.trans (hal.2.2.mono HW5.out.size));have HQ:=hid hal.1;have HD6:=hid ((ho5.below hal.2.2 hR5.2).flts (by omega));have HL6:=hid (HL5.out.below hal.2.2);have HG6:=hid (HG5.out.below hal.2.2);have HWT6:=hid (HWT5.out.below hal.2.2);clear hal ho5 hR5 HL5 HG5 HWT5;go_upto_region 7 with fail
   generalize w5.alloc (.cells #[.slice (some ⟨R5,0,none⟩) n n,.int .i64 S.tries,.int .i64 S.e] 78)=w6 at *;generalize w5.heap.size=Q5 at *;have c2:=zf HQ.out 2;have c0:=zf HQ.out 0;simp only [List.getElem?_toArray,List.getElem?_cons_zero,List.getElem?_cons_succ] at c2 c0;obtain ⟨s0,s1,s2,s3,s4,s5,s6,s7⟩:=zO (SB.out w6 HW6.out);have lt1:B+1<w6.heap.size:=by have:=HW6.out.size; omega
   have ltQ:=zj HQ.out;have hw1:IntKind.i64.wrap ((q:Int)+1)=(q:Int)+1:=IntWalk.i64_in _ (by omega);clear s0 s1 s3 s4 s5 s6 s7;go_wp2_with fail;refine zv [(0,1),(1,3),(2,1),(4,1),(5,1),(6,3),(7,1),(8,1),(3,0),(9,0),(10,1)] (fun W=>Below w6.heap.size w6 W) (by kernel_rfl) (by kernel_rfl) (fun _ _ d _ _ h=>by cases d<;>exact h) ((Below.refl _ _).drew) ?_;intro Z hZ hbZ;clear hZ
   iterate 1
    first
     | refine zd (fun K hK=>?_)
     | refine ze (fun K hK=>?_)
    go_simp;refine hK _ ?_;clear hK K
   refine zh (v:=.slice (some ⟨R5,0,none⟩) n n) rfl rfl (fun wk hwk=>?_) ?_
   ·rw [← (zA hwk).1 _ _ ltQ] at c0;go_simp
   iterate 3
    first
     | refine zd (fun K hK=>?_)
     | refine ze (fun K hK=>?_)
    go_simp;refine hK _ ?_;clear hK K
   refine zh (v:=.int .i64 q) rfl rfl (fun wk hwk=>?_) ?_
   ·rw [← (zA hwk).1 _ _ lt1] at s2;go_simp
   iterate 2
    first
     | refine zd (fun K hK=>?_)
     | refine ze (fun K hK=>?_)
    go_simp;refine hK _ ?_;clear hK K
   refine zm (fun K hK=>?_);go_simp;refine (uW _ _ n S.d (wtF (z 0) pa pr) Z (HD6.out.below hbZ) (HWT6.out.below hbZ)).mono ?_;rintro e' w7 ⟨⟨y,rfl,y1,y2⟩,hb7⟩;have hbA:=hbZ.trans (hb7.mono hbZ.size);refine hK _ _ (fun h=>Bool.noConfusion (Eq.trans (Eq.symm (by kernel_rfl:_=false)) h)) (fun _=>hbA) ?_;clear hK K;have hbB:=below_drewN hbA (zP .quo y (floatOfInt .f64 ((q:Int)+1)))
   have hY:zk (zZ .quo w7 y (floatOfInt .f64 ((q:Int)+1)))=cop .quo (xk (byW S.d (wtF (z 0) pa pr)) n) (qF q):=by
    rw [z9,← y1,zE];rfl
   have hY2:zZ .quo w7 y (floatOfInt .f64 ((q:Int)+1))<18446744073709551616:=yi _ _ _ _;have HY:=hid hY;have HY2:=hid hY2;have HBB:=hid hbB;clear hY hY2 hbB y1 y2;refine zm (fun K hK=>?_);go_simp;refine hK _ _ (fun h=>Bool.noConfusion (Eq.trans (Eq.symm (by kernel_rfl:_=false)) h)) (fun _=>HBB.out) ?_;clear hK K
   iterate 1
    first
     | refine zd (fun K hK=>?_)
     | refine ze (fun K hK=>?_)
    go_simp;refine hK _ ?_;clear hK K
   refine zo ?_;generalize zZ .quo w7 y (floatOfInt .f64 ((q:Int)+1))=Y at *;generalize w7.drewN (zP .quo y (floatOfInt .f64 ((q:Int)+1)))=w8 at *;generalize cop .quo (xk (byW S.d (wtF (z 0) pa pr)) n) (qF q)=C at *;have HW8:=hid (HW6.out.trans (HBB.out.mono HW6.out.size));have HD8:=hid (HD6.out.below HBB.out);have HL8:=hid (HL6.out.below HBB.out);have HG8:=hid (HG6.out.below HBB.out);have HQ8:=hid ((HBB.out.block Q5 ltQ).trans HQ.out);clear hbZ hb7 hbA hw1 c0 c2 s2 lt1 ltQ HD6 HL6 HG6 HQ HWT6 HW6 he0;have c0:=zf HQ8.out 0;simp only [List.getElem?_toArray,List.getElem?_cons_zero] at c0;have HLE:=hid (qD HY.out nG);obtain ⟨s0,s1,s2,s3,s4,s5,s6,s7⟩:=zO (SB.out w8 HW8.out);obtain ⟨p0,p1,p2,p3,p4,p5,p6,p7,p8,p9,p10,p11,p12⟩:=yn (PB.out w8 HW8.out)
   cases hle:leB Y 4607182418800017408 with
   | true=>
    have HRE:=hid (HTF.out.trans ((if_neg (by rw [hh]; decide)).trans (if_pos (HLE.out.trans hle))));have lt0:B<w8.heap.size:=by have:=HW8.out.size; omega
    have lt1:B+1<w8.heap.size:=by have:=HW8.out.size; omega
    have ltQ:=zj HQ8.out;go_wp2_with fail;refine zv [(0,3),(1,3),(2,1),(3,1),(4,1),(5,3),(7,1),(8,1),(9,3),(10,1),(6,0),(11,0),(12,0)] (fun W=>Below w8.heap.size w8 W) (by kernel_rfl) (by kernel_rfl) (fun _ _ d _ _ h=>by cases d<;>exact h) ((Below.refl _ _).drew) ?_;intro Z hZ hbZ;clear hZ;refine zh (v:=.agg #[.int .i64 n,vo,vu,vb,vy,.int .i64 en,.int .i64 fi,.int .i64 lo,.float .f64 pa,.float .f64 pr,.float .f64 pc,.int .i64 mo,vt]) rfl rfl (fun wk hwk=>?_) ?_
    ·rw [← (zA hwk).1 _ _ lt0] at p0 p1 p2 p3 p4 p5 p6 p7 p8 p9 p10 p11 p12;go_simp
    refine zh (v:=.agg #[.int .i64 at_,.int .i64 (tk k),.int .i64 q,.int .i64 M,.slice (some ⟨bz,oz,none⟩) (q+1) cz,.int .i64 good,.int .i64 fails,.int .i64 slow]) rfl rfl (fun wk hwk=>?_) ?_
    ·rw [← (zA hwk).1 _ _ lt1] at s0 s1 s2 s3 s4 s5 s6 s7;go_simp
    iterate 3
     first
      | refine zd (fun K hK=>?_)
      | refine ze (fun K hK=>?_)
     go_simp;refine hK _ ?_;clear hK K
    refine zh (v:=.slice (some ⟨R5,0,none⟩) n n) rfl rfl (fun wk hwk=>?_) ?_
    ·rw [← (zA hwk).1 _ _ ltQ] at c0;go_simp
    iterate 2
     first
      | refine zd (fun K hK=>?_)
      | refine ze (fun K hK=>?_)
     go_simp;refine hK _ ?_;clear hK K
    refine zh (v:=.slice (some ⟨R5,0,none⟩) n n) rfl rfl (fun wk hwk=>?_) ?_
    ·rw [← (zA hwk).1 _ _ ltQ] at c0;go_simp
    iterate 1
     first
      | refine zd (fun K hK=>?_)
      | refine ze (fun K hK=>?_)
     go_simp;refine hK _ ?_;clear hK K
    refine zm (fun K hK=>?_);go_simp;refine (rC _ _ _ (q+1) n (by omega) (by omega) h1 h4 (wG z q) (coF M q) S.d Z (HG8.out.below hbZ) (HL8.out.below hbZ) (HD8.out.below hbZ)).mono ?_;rintro e' w9 ⟨G9,A9,rfl,hg9,hb9⟩;have hbA:=hbZ.trans (hb9.mono hbZ.size);have hBZ:B≤Z.heap.size:=by have:=hbZ.size; omega
    refine hK _ _ (fun h=>Bool.noConfusion (Eq.trans (Eq.symm (by kernel_rfl:_=false)) h)) (fun _=>hbA) ?_;clear hK K;refine zm (fun K hK=>?_);go_simp;refine (HTK.out w9 (BX.out w9 (HW8.out.trans (hbA.mono HW8.out.size))) B _ _ _ _ _ _ Y C (by have:=hb9.size; omega) (hg9.own.base (b':=B) hBZ) (HL8.out.below hbA) (HD8.out.below hbA) HY.out HY2.out).mono ?_;intro e' wA hR;have hRB:=HRE.out;generalize tI en _ _ _ _ C=R at hR hRB;obtain ⟨hbR,ra,rl,rc,na,nl,nc,ry,rfl,r1,r2,r3,r4,r5⟩:=hR.shape;have hbC:=hbA.trans (hbR.mono hbA.size);refine hK _ _ (fun h=>Bool.noConfusion (Eq.trans (Eq.symm (by kernel_rfl:_=false)) h)) (fun _=>hbC) ?_;clear hK K;have hr:=RB.out wA (HW8.out.trans (hbC.mono HW8.out.size));have hrow:=yx hr #[.int .i64 R.S.at_,.int .i64 (tk R.S.k),.int .i64 R.S.q,.int .i64 R.S.M,.slice ra rl rc,.int .i64 R.S.good,.int .i64 R.S.fails,.int .i64 R.S.slow,.int .i64 R.N.at_,.int .i64 R.N.st,.int .i64 R.N.q,.int .i64 R.N.M,.slice na nl nc,.bool R.took,.float .f64 ry,.int .i64 R.e];have HBF:=hid (hrow.1.below (BX.out wA (HW8.out.trans (hbC.mono HW8.out.size))) (show B≤B+2 by omega) (by have:=(HW8.out.trans (hbC.mono HW8.out.size)).size; omega));have HRR:=hid hrow.2.1;have HR3:=hid (r3.put hr hrow.1 rfl rfl);have HR4:=hid (fun h=>(r4 h).put hr hrow.1 rfl rfl);refine zm (fun K hK=>?_);refine xt rfl ?_;refine wz (by rfl) 45 _ _ (by rfl) (B+2) #[.int .i64 R.S.at_,.int .i64 (tk R.S.k),.int .i64 R.S.q,.int .i64 R.S.M,.slice ra rl rc,.int .i64 R.S.good,.int .i64 R.S.fails,.int .i64 R.S.slow,.int .i64 R.N.at_,.int .i64 R.N.st,.int .i64 R.N.q,.int .i64 R.N.M,.slice na nl nc,.bool R.took,.float .f64 ry,.int .i64 R.e] (by rfl) (by rfl) 45 _ hr (by kernel_rfl) rfl (by simp [Value.oneCell']) ?_;refine hK _ _ (fun h=>Bool.noConfusion (Eq.trans (Eq.symm (by kernel_rfl:_=false)) h)) (fun h=>Bool.noConfusion (Eq.trans (Eq.symm (by kernel_rfl:_=false)) h)) ?_;clear hK K;refine zo ?_;clear hrow hr hbC hbR hbA hbZ;go_wp2_with fail;refine yf 4 45 Tryz.results18 (B+2) 45 #[.int .i64 R.S.at_,.int .i64 (tk R.S.k),.int .i64 R.S.q,.int .i64 R.S.M,.slice ra rl rc,.int .i64 R.S.good,.int .i64 R.S.fails,.int .i64 R.S.slow,.int .i64 R.N.at_,.int .i64 R.N.st,.int .i64 R.N.q,.int .i64 R.N.M,.slice na nl nc,.bool R.took,.float .f64 ry,.int .i64 R.e] _ rfl HRR.out Tryz.underlying45 rfl (by kernel_rfl) rfl ?_;rw [hRB];exact ⟨by rw [hB]; exact HBF.out,_,_,ry,rfl,r1,r2,by rw [hB]; exact HR3.out,fun h=>by rw [hB]; exact HR4.out h,r5⟩
   | false=>
    have HRE:=hid (HTF.out.trans ((if_neg (by rw [hh]; decide)).trans (if_neg (by rw [HLE.out,hle]; decide))));have HW6:=HW8;go_wp2_with fail;refine (HRF.out w8 (BX.out w8 HW8.out) 0 Y C HY.out HY2.out).mono ?_;intro e' wA hR;have hRB:=HRE.out;generalize xO T lo _ _ _=R at hR hRB;obtain ⟨hbR,ra,rl,rc,na,nl,nc,ry,rfl,r1,r2,r3,r4,r5⟩:=hR.shape;have hbX:=HW6.out.trans (hbR.mono HW6.out.size);have hr:=RB.out wA hbX;have hrow:=yx hr #[.int .i64 R.S.at_,.int .i64 (tk R.S.k),.int .i64 R.S.q,.int .i64 R.S.M,.slice ra rl rc,.int .i64 R.S.good,.int .i64 R.S.fails,.int .i64 R.S.slow,.int .i64 R.N.at_,.int .i64 R.N.st,.int .i64 R.N.q,.int .i64 R.N.M,.slice na nl nc,.bool R.took,.float .f64 ry,.int .i64 R.e];have HBF:=hid (hrow.1.below (BX.out wA hbX) (show B≤B+2 by omega) (by have:=hbX.size; omega));have HRR:=hid hrow.2.1;have HRX:=hid hr;have hbs:B≤w8.heap.size:=by have:=HW6.out.size; omega
    have HR3:=hid ((r3.base (b':=B) hbs).put hr hrow.1 rfl rfl);have HR4:=hid (fun h=>((r4 h).base (b':=B) hbs).put hr hrow.1 rfl rfl);clear hrow hr hbX hbR r3 r4
    go_wp2_with (first
     | (refine wpList_store_row rfl 45 _ _ rfl (B+2) #[.int .i64 R.S.at_,.int .i64 (tk R.S.k),.int .i64 R.S.q,.int .i64 R.S.M,.slice ra rl rc,.int .i64 R.S.good,.int .i64 R.S.fails,.int .i64 R.S.slow,.int .i64 R.N.at_,.int .i64 R.N.st,.int .i64 R.N.q,.int .i64 R.N.M,.slice na nl nc,.bool R.took,.float .f64 ry,.int .i64 R.e] rfl rfl 45 _ HRX.out (by kernel_rfl) rfl (by simp [Value.oneCell']) ?_)
     | fail)
    refine yf 4 45 Tryz.results18 (B+2) 45 #[.int .i64 R.S.at_,.int .i64 (tk R.S.k),.int .i64 R.S.q,.int .i64 R.S.M,.slice ra rl rc,.int .i64 R.S.good,.int .i64 R.S.fails,.int .i64 R.S.slow,.int .i64 R.N.at_,.int .i64 R.N.st,.int .i64 R.N.q,.int .i64 R.N.M,.slice na nl nc,.bool R.took,.float .f64 ry,.int .i64 R.e] _ rfl HRR.out Tryz.underlying45 rfl (by kernel_rfl) rfl ?_;rw [hRB];exact ⟨by rw [hB]; exact HBF.out,_,_,ry,rfl,r1,r2,by rw [hB]; exact HR3.out,fun h=>by rw [hB]; exact HR4.out h,r5⟩
  ·rw [hh] at h; cases h
def oZ (n:Nat) (T:TD) (M:Nat):Prop:=∀ (vo vu vz vl vw:Value) (m:Nat) (t:Int) (z:Nat→Nat→Nat) (l wt:Nat→Nat) (w:World),xT w n T vo vu vz vl vw m z l wt→2≤m →
 Calls Tryz.prog 27 #[.agg #[.int .i64 n,vo,vu],vz,vl,.int .i64 t,.int .i64 M,vw] w (lm n (y9 T z wt (l 0) (xh t) n (M==1)) w)
theorem qG (n:Nat) (T:TD) (hck:yq T=true) (hcs:∀ i,(T.op i).c<18446744073709551616) (hn:T.n=n) (h1:1≤n) (h4:n≤4):oZ n T 0:=fun vo vu vz vl vw m t z l wt w hx hm=>oc n T vo vu vz vl vw m t z l wt w hx hck (fun i _=>hcs i) hn h1 h4 hm
theorem pV.shape {b0 n:Nat} {R:Tr} {w:World} {e:Ending} {w':World} (h:pV b0 n R w e w'):Below w.heap.size w w'∧∃ ra rc na nc y,e=.returned (.agg #[.int .i64 R.S.at_,.int .i64 (tk R.S.k),.int .i64 R.S.q,.int .i64 R.S.M,.slice ra (R.S.q+1) rc,.int .i64 R.S.good,.int .i64 R.S.fails,.int .i64 R.S.slow,.int .i64 R.N.at_,.int .i64 R.N.st,.int .i64 R.N.q,.int .i64 R.N.M,.slice na R.N.rows nc,.bool R.took,.float .f64 y,.int .i64 R.e]) ∧
  zk y=R.err∧y<18446744073709551616∧wi b0 w' (.slice ra (R.S.q+1) rc) (R.S.q+1) n R.S.z∧wi b0 w' (.slice na R.N.rows nc) R.N.rows n R.N.z:=by
 obtain ⟨hb,vz,vn,y,rfl,h1,h2,h3,h4⟩:=h;obtain ⟨a,c,rfl⟩:=h3.tab.shape;obtain ⟨a2,c2,rfl⟩:=h4.tab.shape;exact ⟨hb,_,_,_,_,y,rfl,h1,h2,h3,h4⟩
theorem nb (n b0:Nat) (T:TD) (vo vu vb vy vt vz:Value) (en fi lo mo:Int) (pa pr pc:Nat) (s:Sol) (w:World) (hT:yG w (.agg #[.int .i64 n,vo,vu]) T) (hb0:b0≤w.heap.size) (hz':wi b0 w vz (s.q+1) n s.z) (hRS:oZ n T s.M)
  (hq:1≤s.q) (hq5:s.q+s.M≤5) (hk:s.k<43) (hM:s.M<2) (hlo:1≤lo) (hat:0≤s.at_∧s.at_≤1000000000000000000) (hg0:0≤s.good∧s.good≤1000000) (hf:0≤s.fails∧s.fails≤1000) (hsl:0≤s.slow∧s.slow≤1000)
  (hck:yq T=true) (hcs:∀ i,(T.op i).c<18446744073709551616) (hn:T.n=n) (h1:1≤n) (h4:n≤4) :
  Calls Tryz.prog 20 #[.agg #[.int .i64 n,vo,vu,vb,vy,.int .i64 en,.int .i64 fi,.int .i64 lo,.float .f64 pa,.float .f64 pr,.float .f64 pc,.int .i64 mo,vt],.agg #[.int .i64 s.at_,.int .i64 (tk s.k),.int .i64 s.q,.int .i64 s.M,vz,.int .i64 s.good,.int .i64 s.fails,.int .i64 s.slow]] w (pV b0 n (uG T n pa pr lo en s) w):=by
 have hz:=hz'.tab;have HRF:=hid (fun (W:World) (hb:Below w.heap.size w W) (e:Int) (y c:Nat) (h5:zk y=c) (h6:y<18446744073709551616)=>rL n b0 T vo vu vb vy vt vz en fi lo mo pa pr pc s e y c W (hT.below hb) (hz'.below hb) hq (by omega) hk hM hlo hf hsl h5 h6 hck (fun i _=>hcs i) hn h1 h4);have HTK:=hid (fun (W:World) (hb:Below w.heap.size w W) (v2 vl vd:Value) (z2:Nat→Nat→Nat) (l d:Nat→Nat) (y c:Nat) (hz2:yB W v2 (s.q+1) (fun _=>n) z2) (hl:zT W vl (s.q+1) l) (hd:zT W vd n d) (h5:zk y=c) (h6:y<18446744073709551616)=>qE n b0 vo vu vb vy vt vz v2 vl vd en fi lo mo pa pr pc s z2 l d y c W (hz.below hb) hz2 hl hd hq hq5 hk hM hat hg0 h5 h6 h1 h4);have HTE:=hid (fun S hS=>nF T n pa pr lo en s S hS);unfold pP at HTE;obtain ⟨at_,k,q,M,z,good,fails,slow⟩:=s;simp only [] at *;have CF:=hid (fun W=>oU (m:=M) (q:=q) hM hq (by omega) W);have PD:=hid (fun (W:World) (hb:Below w.heap.size w W)=>rb vz q n hq (by omega) h1 h4 z W (hz.below hb));have HT:=hid hT;have SV:=hid (fun (W:World) (vz vl vw:Value) (hx:xT W n T vo vu vz vl vw (q+1) (wG z q) (coF M q) (wtF (z 0) pa pr))=>hRS vo vu vz vl vw (q+1) (tk k) (wG z q) (coF M q) (wtF (z 0) pa pr) W hx (by omega));obtain ⟨bz,oz,cz,rfl,hbz,hr⟩:=hz.rowAt (by omega);obtain ⟨pz0,cz0,z0,hz0⟩:=hr 0 (by omega);rw [Nat.add_zero] at z0;have HZ0:=hid hz0;have CE:=hid (lj T (wG z q) (wtF (z 0) pa pr) (coF M q 0) (xh (tk k)) n (M==1));have AL:=al3 w (.cells #[.int .i64 n,vo,vu,vb,vy,.int .i64 en,.int .i64 fi,.int .i64 lo,.float .f64 pa,.float .f64 pr,.float .f64 pc,.int .i64 mo,vt] 33) (.cells #[.int .i64 at_,.int .i64 (tk k),.int .i64 q,.int .i64 M,.slice (some ⟨bz,oz,none⟩) (q+1) cz,.int .i64 good,.int .i64 fails,.int .i64 slow] 39) (.cells #[.int .i64 0,.int .i64 0,.int .i64 0,.int .i64 0,.slice none 0 0,.int .i64 0,.int .i64 0,.int .i64 0,.int .i64 0,.int .i64 0,.int .i64 0,.int .i64 0,.slice none 0 0,.bool false,.float .f64 0,.int .i64 0] 49);clear hT hz hz' hr hz0 hck hcs hk hat hg0 hf hsl hlo hRS;obtain ⟨S,hS⟩:∃ S,y9 T (wG z q) (wtF (z 0) pa pr) (coF M q 0) (xh (tk k)) n (M==1)=S:=⟨_,rfl⟩;have HTF:=hid (HTE.out S hS);simp only [hS] at CE SV;clear HTE hS;go_enter Tryz.func20,Tryz.ntmps20;go_upto_region 1 with fail
 generalize hB:w.heap.size=B at *;generalize ((w.alloc (.cells #[.int .i64 n,vo,vu,vb,vy,.int .i64 en,.int .i64 fi,.int .i64 lo,.float .f64 pa,.float .f64 pr,.float .f64 pc,.int .i64 mo,vt] 33)).alloc (.cells #[.int .i64 at_,.int .i64 (tk k),.int .i64 q,.int .i64 M,.slice (some ⟨bz,oz,none⟩) (q+1) cz,.int .i64 good,.int .i64 fails,.int .i64 slow] 39)).alloc (.cells #[.int .i64 0,.int .i64 0,.int .i64 0,.int .i64 0,.slice none 0 0,.int .i64 0,.int .i64 0,.int .i64 0,.int .i64 0,.int .i64 0,.int .i64 0,.int .i64 0,.slice none 0 0,.bool false,.float .f64 0,.int .i64 0] 49)=X at *;obtain ⟨x1,x2,x3,x4,x5⟩:=AL;have HBX:=hid x5;have hXB:B+2<X.heap.size:=by omega
 have PB:=hid (fun W (hW:Below X.heap.size X W)=>(hW.block B (by omega)).trans x1);have SB:=hid (fun W (hW:Below X.heap.size X W)=>(hW.block (B+1) (by omega)).trans x2);have RB:=hid (fun W (hW:Below X.heap.size X W)=>(hW.block (B+2) (by omega)).trans x3);have ZB:=hid (fun W (hW:Below X.heap.size X W)=>(hW.cell (p:=⟨bz,oz,none⟩) (by show bz<_; omega)).trans ((x5.cell (p:=⟨bz,oz,none⟩) hbz).trans z0));have BX:=hid (fun W (hW:Below X.heap.size X W)=>(show Below B w W from HBX.out.trans (hW.mono (by omega))));clear x1 x2 x3 x4 x5 z0;obtain ⟨s0,s1,s2,s3,s4,s5,s6,s7⟩:=zO (SB.out X (Below.refl _ _));clear s0 s1 s2 s3 s5 s6 s7;go_wp2_with fail;refine (PD.out X (BX.out X (Below.refl _ _))).mono ?_;rintro e w1 ⟨G,cG,blk,cp,rfl,hg,hb1,hcc⟩;have HW1:=hid hb1;have HG1:=hid ((hg.own hcc).tab (by omega) (by omega));clear hg hb1 hcc s4 PD;obtain ⟨s0,s1,s2,s3,s4,s5,s6,s7⟩:=zO (SB.out w1 HW1.out);clear s0 s1 s4 s5 s6 s7;go_wp2_with fail;refine (CF.out w1).mono ?_;rintro e w3 ⟨vl,rfl,hl,hb2⟩;obtain ⟨bl,cl,rfl⟩:∃ a c,vl=.slice a (q+1) c:=by obtain ⟨a,c,e,-⟩:=hl; exact ⟨a,c,e⟩
 have HW3:=hid (HW1.out.trans (hb2.mono HW1.out.size));have HL3:=hid hl;have HG3:=hid (HG1.out.below hb2);clear hl hb2 s2 s3 CF HW1 HG1;obtain ⟨s0,s1,s2,s3,s4,s5,s6,s7⟩:=zO (SB.out w3 HW3.out);obtain ⟨p0,p1,p2,p3,p4,p5,p6,p7,p8,p9,p10,p11,p12⟩:=yn (PB.out w3 HW3.out);have z0:=ZB.out w3 HW3.out;have lt0:B<w3.heap.size:=by have:=HW3.out.size; omega
 have lt1:B+1<w3.heap.size:=by have:=HW3.out.size; omega
 have ltz:bz<w3.heap.size:=by have:=HW3.out.size; omega
 have hq0:0<q+1:=by omega
 clear s0 s1 s2 s3 s5 s6 s7 p0 p1 p2 p3 p4 p5 p6 p7 p10 p11 p12;go_wp2_with fail;refine zv [(0,1),(1,1),(2,3),(3,1),(4,3),(5,1),(6,3),(7,1),(8,3),(9,0),(10,1)] (fun W=>Below w3.heap.size w3 W) (by kernel_rfl) (by kernel_rfl) (fun _ _ d _ _ h=>by cases d<;>exact h) ((Below.refl _ _).drew) ?_;intro Z hZ hbZ;clear hZ
 iterate 2
  first
   | refine zd (fun K hK=>?_)
   | refine ze (fun K hK=>?_)
  go_simp;refine hK _ ?_;clear hK K
 refine zh (v:=.slice (some ⟨bz,oz,none⟩) (q+1) cz) rfl rfl (fun wk hwk=>?_) ?_
 ·rw [← (zA hwk).1 _ _ lt1] at s4;go_simp
 iterate 1
  first
   | refine zd (fun K hK=>?_)
   | refine ze (fun K hK=>?_)
  go_simp;refine hK _ ?_;clear hK K
 refine zh (v:=.slice pz0 n cz0) rfl rfl (fun wk hwk=>?_) ?_
 ·rw [← (zA hwk).1 _ _ ltz] at z0;go_simp
 iterate 1
  first
   | refine zd (fun K hK=>?_)
   | refine ze (fun K hK=>?_)
  go_simp;refine hK _ ?_;clear hK K
 refine zh (v:=.float .f64 pa) rfl rfl (fun wk hwk=>?_) ?_
 ·rw [← (zA hwk).1 _ _ lt0] at p8;go_simp
 iterate 1
  first
   | refine zd (fun K hK=>?_)
   | refine ze (fun K hK=>?_)
  go_simp;refine hK _ ?_;clear hK K
 refine zh (v:=.float .f64 pr) rfl rfl (fun wk hwk=>?_) ?_
 ·rw [← (zA hwk).1 _ _ lt0] at p9;go_simp
 refine zm (fun K hK=>?_);go_simp;refine (sL _ n (by omega) (z 0) pa pr Z (HZ0.out.below (hB ▸ (BX.out Z (HW3.out.trans (hbZ.mono HW3.out.size)))))).mono ?_;rintro e w4 ⟨vw,rfl,hvw,hb4⟩;obtain ⟨bw,cw,rfl⟩:∃ a c,vw=.slice a n c:=by obtain ⟨a,c,e,-⟩:=hvw; exact ⟨a,c,e⟩
 have hbA:=hbZ.trans (hb4.mono hbZ.size);refine hK _ _ (fun h=>Bool.noConfusion (Eq.trans (Eq.symm (by kernel_rfl:_=false)) h)) (fun _=>hbA) ?_;clear hK K
 iterate 1
  first
   | refine zd (fun K hK=>?_)
   | refine ze (fun K hK=>?_)
  go_simp;refine hK _ ?_;clear hK K
 refine zo ?_;have HW4:=hid (HW3.out.trans (hbA.mono HW3.out.size));have HL4:=hid (HL3.out.below hbA);have HG4:=hid (HG3.out.below hbA);have HWT:=hid hvw;clear hbZ hb4 hbA hvw s4 p8 p9 z0 lt0 lt1 ltz HW3 HL3 HG3;obtain ⟨s0,s1,s2,s3,s4,s5,s6,s7⟩:=zO (SB.out w4 HW4.out);obtain ⟨p0,p1,p2,p3,p4,p5,p6,p7,p8,p9,p10,p11,p12⟩:=yn (PB.out w4 HW4.out);clear s0 s2 s4 s5 s6 s7 p3 p4 p5 p6 p7 p8 p9 p10 p11 p12;go_wp2_with fail;refine (SV.out w4 _ _ _ ⟨HT.out.below (hB ▸ BX.out w4 HW4.out),HG4.out,HL4.out,HWT.out⟩).mono ?_;rintro e w5 ⟨hb5,hd5⟩;have HW5:=hid (HW4.out.trans (hb5.mono HW4.out.size));have HL5:=hid (HL4.out.below hb5);have HG5:=hid (HG4.out.below hb5);have HWT5:=hid (HWT.out.below hb5);clear hb5 s1 s3 p0 p1 p2 HW4 HL4 HG4 HWT
 cases hh:S.has with
 | false=>
  have he:=CE.out.2 hh;rcases hd5 with ⟨h,-⟩ | ⟨-,rfl⟩
  ·rw [hh] at h; cases h
  have HRE:=hid (HTF.out.trans (if_pos hh));have he0:(S.e != 0)=true:=by simpa using he
  have hal:=al1 w5 (.cells #[.slice none 0 0,.int .i64 S.tries,.int .i64 S.e] 60);have HW6:=hid (HW5.out.trans (hal.2.2.mono HW5.out.size));have HQ:=hid hal.1;clear hal he;go_upto_region 5 with fail
  generalize w5.alloc (.cells #[.slice none 0 0,.int .i64 S.tries,.int .i64 S.e] 60)=w6 at *;generalize w5.heap.size=Q5 at *;have c2:=zf HQ.out 2;simp only [List.getElem?_toArray,List.getElem?_cons_zero,List.getElem?_cons_succ] at c2;go_upto_region 6 with fail
  go_wp2_with (first
   | (refine wpList_load_row rfl 33 _ rfl B rfl 33 #[.int .i64 n,vo,vu,vb,vy,.int .i64 en,.int .i64 fi,.int .i64 lo,.float .f64 pa,.float .f64 pr,.float .f64 pc,.int .i64 mo,vt] _ _ (PB.out w6 HW6.out) Tryz.underlying33 rfl (by kernel_rfl) ?_)
   | (refine wpList_load_row rfl 39 _ rfl (B+1) rfl 39 #[.int .i64 at_,.int .i64 (tk k),.int .i64 q,.int .i64 M,.slice (some ⟨bz,oz,none⟩) (q+1) cz,.int .i64 good,.int .i64 fails,.int .i64 slow] _ _ (SB.out w6 HW6.out) Tryz.underlying39 rfl (by kernel_rfl) ?_)
   | fail)
  refine (HRF.out w6 (BX.out w6 HW6.out) S.e 0 0 (by decide) (by decide)).mono ?_;intro e' wA hR;have hRB:=HRE.out;generalize xO T lo _ _ _=R at hR hRB;obtain ⟨hbR,ra,rc,na,nc,ry,rfl,r1,r2,r3,r4⟩:=hR.shape;have hbX:=HW6.out.trans (hbR.mono HW6.out.size);have hr:=RB.out wA hbX;have hrow:=yx hr #[.int .i64 R.S.at_,.int .i64 (tk R.S.k),.int .i64 R.S.q,.int .i64 R.S.M,.slice ra (R.S.q+1) rc,.int .i64 R.S.good,.int .i64 R.S.fails,.int .i64 R.S.slow,.int .i64 R.N.at_,.int .i64 R.N.st,.int .i64 R.N.q,.int .i64 R.N.M,.slice na R.N.rows nc,.bool R.took,.float .f64 ry,.int .i64 R.e];have HBF:=hid (hrow.1.below (BX.out wA hbX) (show B≤B+2 by omega) (by have:=hbX.size; omega));have HRR:=hid hrow.2.1;have HRX:=hid hr;have HR3:=hid (r3.kept hr hrow.1 (by omega));have HR4:=hid (r4.kept hr hrow.1 (by omega));clear hrow hr hbX hbR r3 r4
  go_wp2_with (first
   | (refine wpList_store_row rfl 49 _ _ rfl (B+2) #[.int .i64 R.S.at_,.int .i64 (tk R.S.k),.int .i64 R.S.q,.int .i64 R.S.M,.slice ra (R.S.q+1) rc,.int .i64 R.S.good,.int .i64 R.S.fails,.int .i64 R.S.slow,.int .i64 R.N.at_,.int .i64 R.N.st,.int .i64 R.N.q,.int .i64 R.N.M,.slice na R.N.rows nc,.bool R.took,.float .f64 ry,.int .i64 R.e] rfl rfl 49 _ HRX.out (by kernel_rfl) rfl (by simp [Value.oneCell']) ?_)
   | fail)
  refine yf 4 49 Tryz.results20 (B+2) 49 #[.int .i64 R.S.at_,.int .i64 (tk R.S.k),.int .i64 R.S.q,.int .i64 R.S.M,.slice ra (R.S.q+1) rc,.int .i64 R.S.good,.int .i64 R.S.fails,.int .i64 R.S.slow,.int .i64 R.N.at_,.int .i64 R.N.st,.int .i64 R.N.q,.int .i64 R.N.M,.slice na R.N.rows nc,.bool R.took,.float .f64 ry,.int .i64 R.e] _ rfl HRR.out Tryz.underlying49 rfl (by kernel_rfl) rfl ?_;rw [hRB];exact ⟨by rw [hB]; exact HBF.out,_,_,ry,rfl,r1,r2,HR3.out,HR4.out⟩
 | true=>
  have he:=CE.out.1 hh;rcases hd5 with ⟨-,v5,rfl,ho5⟩ | ⟨h,-⟩
  ·skip
   have he0:(S.e != 0)=false:=by simpa using he
   clear he;obtain ⟨b5,c5,rfl⟩:∃ a c,v5=.slice a n c:=by obtain ⟨a,c,e,-⟩:=ho5; exact ⟨a,c,e⟩
   have hal:=al1 w5 (.cells #[.slice b5 n c5,.int .i64 S.tries,.int .i64 S.e] 60);have HW6:=hid (HW5.out.trans (hal.2.2.mono HW5.out.size));have HQ:=hid hal.1;have HD6:=hid (ho5.below hal.2.2);have HL6:=hid (HL5.out.below hal.2.2);have HG6:=hid (HG5.out.below hal.2.2);have HWT6:=hid (HWT5.out.below hal.2.2);clear hal ho5 HL5 HG5 HWT5;go_upto_region 5 with fail
   generalize w5.alloc (.cells #[.slice b5 n c5,.int .i64 S.tries,.int .i64 S.e] 60)=w6 at *;generalize w5.heap.size=Q5 at *;have c2:=zf HQ.out 2;have c0:=zf HQ.out 0;simp only [List.getElem?_toArray,List.getElem?_cons_zero,List.getElem?_cons_succ] at c2 c0;obtain ⟨s0,s1,s2,s3,s4,s5,s6,s7⟩:=zO (SB.out w6 HW6.out);have lt1:B+1<w6.heap.size:=by have:=HW6.out.size; omega
   have ltQ:=zj HQ.out;have hw1:IntKind.i64.wrap ((q:Int)+1)=(q:Int)+1:=IntWalk.i64_in _ (by omega);clear s0 s1 s3 s4 s5 s6 s7;go_wp2_with fail;refine zv [(0,1),(1,3),(2,1),(4,1),(5,1),(6,3),(7,1),(8,1),(3,0),(9,0),(10,1)] (fun W=>Below w6.heap.size w6 W) (by kernel_rfl) (by kernel_rfl) (fun _ _ d _ _ h=>by cases d<;>exact h) ((Below.refl _ _).drew) ?_;intro Z hZ hbZ;clear hZ
   iterate 1
    first
     | refine zd (fun K hK=>?_)
     | refine ze (fun K hK=>?_)
    go_simp;refine hK _ ?_;clear hK K
   refine zh (v:=.slice b5 n c5) rfl rfl (fun wk hwk=>?_) ?_
   ·rw [← (zA hwk).1 _ _ ltQ] at c0;go_simp
   iterate 3
    first
     | refine zd (fun K hK=>?_)
     | refine ze (fun K hK=>?_)
    go_simp;refine hK _ ?_;clear hK K
   refine zh (v:=.int .i64 q) rfl rfl (fun wk hwk=>?_) ?_
   ·rw [← (zA hwk).1 _ _ lt1] at s2;go_simp
   iterate 2
    first
     | refine zd (fun K hK=>?_)
     | refine ze (fun K hK=>?_)
    go_simp;refine hK _ ?_;clear hK K
   refine zm (fun K hK=>?_);go_simp;refine (uq _ _ n S.d (wtF (z 0) pa pr) Z (HD6.out.below hbZ) (HWT6.out.below hbZ)).mono ?_;rintro e' w7 ⟨⟨y,rfl,y1,y2⟩,hb7⟩;have hbA:=hbZ.trans (hb7.mono hbZ.size);refine hK _ _ (fun h=>Bool.noConfusion (Eq.trans (Eq.symm (by kernel_rfl:_=false)) h)) (fun _=>hbA) ?_;clear hK K;have hbB:=below_drewN hbA (zP .quo y (floatOfInt .f64 ((q:Int)+1)))
   have hY:zk (zZ .quo w7 y (floatOfInt .f64 ((q:Int)+1)))=cop .quo (xk (byW S.d (wtF (z 0) pa pr)) n) (qF q):=by
    rw [z9,← y1,zE];rfl
   have hY2:zZ .quo w7 y (floatOfInt .f64 ((q:Int)+1))<18446744073709551616:=yi _ _ _ _;have HY:=hid hY;have HY2:=hid hY2;have HBB:=hid hbB;clear hY hY2 hbB y1 y2;refine zm (fun K hK=>?_);go_simp;refine hK _ _ (fun h=>Bool.noConfusion (Eq.trans (Eq.symm (by kernel_rfl:_=false)) h)) (fun _=>HBB.out) ?_;clear hK K
   iterate 1
    first
     | refine zd (fun K hK=>?_)
     | refine ze (fun K hK=>?_)
    go_simp;refine hK _ ?_;clear hK K
   refine zo ?_;generalize zZ .quo w7 y (floatOfInt .f64 ((q:Int)+1))=Y at *;generalize w7.drewN (zP .quo y (floatOfInt .f64 ((q:Int)+1)))=w8 at *;generalize cop .quo (xk (byW S.d (wtF (z 0) pa pr)) n) (qF q)=C at *;have HW8:=hid (HW6.out.trans (HBB.out.mono HW6.out.size));have HD8:=hid (HD6.out.below HBB.out);have HL8:=hid (HL6.out.below HBB.out);have HG8:=hid (HG6.out.below HBB.out);have HQ8:=hid ((HBB.out.block Q5 ltQ).trans HQ.out);clear hbZ hb7 hbA hw1 c0 c2 s2 lt1 ltQ HD6 HL6 HG6 HQ HWT6 HW6 he0;have HLE:=hid (qD HY.out nG)
   cases hle:leB Y 4607182418800017408 with
   | true=>
    have HRE:=hid (HTF.out.trans ((if_neg (by rw [hh]; decide)).trans (if_pos (HLE.out.trans hle))));have HW6:=HW8;go_upto_region 9 with fail
    have c0:=zf HQ8.out 0;simp only [List.getElem?_toArray,List.getElem?_cons_zero] at c0
    go_wp2_with (first
     | (refine wpList_load_row rfl 33 _ rfl B rfl 33 #[.int .i64 n,vo,vu,vb,vy,.int .i64 en,.int .i64 fi,.int .i64 lo,.float .f64 pa,.float .f64 pr,.float .f64 pc,.int .i64 mo,vt] _ _ (PB.out w8 HW6.out) Tryz.underlying33 rfl (by kernel_rfl) ?_)
     | (refine wpList_load_row rfl 39 _ rfl (B+1) rfl 39 #[.int .i64 at_,.int .i64 (tk k),.int .i64 q,.int .i64 M,.slice (some ⟨bz,oz,none⟩) (q+1) cz,.int .i64 good,.int .i64 fails,.int .i64 slow] _ _ (SB.out w8 HW6.out) Tryz.underlying39 rfl (by kernel_rfl) ?_)
     | fail)
    refine (HTK.out w8 (BX.out w8 HW8.out) _ _ _ _ _ _ Y C HG8.out HL8.out HD8.out HY.out HY2.out).mono ?_;intro e' wA hR;have hRB:=HRE.out;generalize tI en _ _ _ _ C=R at hR hRB;obtain ⟨hbR,ra,rc,na,nc,ry,rfl,r1,r2,r3,r4⟩:=hR.shape;have hbX:=HW6.out.trans (hbR.mono HW6.out.size);have hr:=RB.out wA hbX;have hrow:=yx hr #[.int .i64 R.S.at_,.int .i64 (tk R.S.k),.int .i64 R.S.q,.int .i64 R.S.M,.slice ra (R.S.q+1) rc,.int .i64 R.S.good,.int .i64 R.S.fails,.int .i64 R.S.slow,.int .i64 R.N.at_,.int .i64 R.N.st,.int .i64 R.N.q,.int .i64 R.N.M,.slice na R.N.rows nc,.bool R.took,.float .f64 ry,.int .i64 R.e];have HBF:=hid (hrow.1.below (BX.out wA hbX) (show B≤B+2 by omega) (by have:=hbX.size; omega));have HRR:=hid hrow.2.1;have HRX:=hid hr;have HR3:=hid (r3.kept hr hrow.1 (by omega));have HR4:=hid (r4.kept hr hrow.1 (by omega));clear hrow hr hbX hbR r3 r4
    go_wp2_with (first
     | (refine wpList_store_row rfl 49 _ _ rfl (B+2) #[.int .i64 R.S.at_,.int .i64 (tk R.S.k),.int .i64 R.S.q,.int .i64 R.S.M,.slice ra (R.S.q+1) rc,.int .i64 R.S.good,.int .i64 R.S.fails,.int .i64 R.S.slow,.int .i64 R.N.at_,.int .i64 R.N.st,.int .i64 R.N.q,.int .i64 R.N.M,.slice na R.N.rows nc,.bool R.took,.float .f64 ry,.int .i64 R.e] rfl rfl 49 _ HRX.out (by kernel_rfl) rfl (by simp [Value.oneCell']) ?_)
     | fail)
    refine yf 4 49 Tryz.results20 (B+2) 49 #[.int .i64 R.S.at_,.int .i64 (tk R.S.k),.int .i64 R.S.q,.int .i64 R.S.M,.slice ra (R.S.q+1) rc,.int .i64 R.S.good,.int .i64 R.S.fails,.int .i64 R.S.slow,.int .i64 R.N.at_,.int .i64 R.N.st,.int .i64 R.N.q,.int .i64 R.N.M,.slice na R.N.rows nc,.bool R.took,.float .f64 ry,.int .i64 R.e] _ rfl HRR.out Tryz.underlying49 rfl (by kernel_rfl) rfl ?_;rw [hRB];exact ⟨by rw [hB]; exact HBF.out,_,_,ry,rfl,r1,r2,HR3.out,HR4.out⟩
   | false=>
    have HRE:=hid (HTF.out.trans ((if_neg (by rw [hh]; decide)).trans (if_neg (by rw [HLE.out,hle]; decide))));have HW6:=HW8;go_upto_region 10 with fail
    go_wp2_with (first
     | (refine wpList_load_row rfl 33 _ rfl B rfl 33 #[.int .i64 n,vo,vu,vb,vy,.int .i64 en,.int .i64 fi,.int .i64 lo,.float .f64 pa,.float .f64 pr,.float .f64 pc,.int .i64 mo,vt] _ _ (PB.out w8 HW6.out) Tryz.underlying33 rfl (by kernel_rfl) ?_)
     | (refine wpList_load_row rfl 39 _ rfl (B+1) rfl 39 #[.int .i64 at_,.int .i64 (tk k),.int .i64 q,.int .i64 M,.slice (some ⟨bz,oz,none⟩) (q+1) cz,.int .i64 good,.int .i64 fails,.int .i64 slow] _ _ (SB.out w8 HW6.out) Tryz.underlying39 rfl (by kernel_rfl) ?_)
     | fail)
    refine (HRF.out w8 (BX.out w8 HW8.out) 0 Y C HY.out HY2.out).mono ?_;intro e' wA hR;have hRB:=HRE.out;generalize xO T lo _ _ _=R at hR hRB;obtain ⟨hbR,ra,rc,na,nc,ry,rfl,r1,r2,r3,r4⟩:=hR.shape;have hbX:=HW6.out.trans (hbR.mono HW6.out.size);have hr:=RB.out wA hbX;have hrow:=yx hr #[.int .i64 R.S.at_,.int .i64 (tk R.S.k),.int .i64 R.S.q,.int .i64 R.S.M,.slice ra (R.S.q+1) rc,.int .i64 R.S.good,.int .i64 R.S.fails,.int .i64 R.S.slow,.int .i64 R.N.at_,.int .i64 R.N.st,.int .i64 R.N.q,.int .i64 R.N.M,.slice na R.N.rows nc,.bool R.took,.float .f64 ry,.int .i64 R.e];have HBF:=hid (hrow.1.below (BX.out wA hbX) (show B≤B+2 by omega) (by have:=hbX.size; omega));have HRR:=hid hrow.2.1;have HRX:=hid hr;have HR3:=hid (r3.kept hr hrow.1 (by omega));have HR4:=hid (r4.kept hr hrow.1 (by omega));clear hrow hr hbX hbR r3 r4
    go_wp2_with (first
     | (refine wpList_store_row rfl 49 _ _ rfl (B+2) #[.int .i64 R.S.at_,.int .i64 (tk R.S.k),.int .i64 R.S.q,.int .i64 R.S.M,.slice ra (R.S.q+1) rc,.int .i64 R.S.good,.int .i64 R.S.fails,.int .i64 R.S.slow,.int .i64 R.N.at_,.int .i64 R.N.st,.int .i64 R.N.q,.int .i64 R.N.M,.slice na R.N.rows nc,.bool R.took,.float .f64 ry,.int .i64 R.e] rfl rfl 49 _ HRX.out (by kernel_rfl) rfl (by simp [Value.oneCell']) ?_)
     | fail)
    refine yf 4 49 Tryz.results20 (B+2) 49 #[.int .i64 R.S.at_,.int .i64 (tk R.S.k),.int .i64 R.S.q,.int .i64 R.S.M,.slice ra (R.S.q+1) rc,.int .i64 R.S.good,.int .i64 R.S.fails,.int .i64 R.S.slow,.int .i64 R.N.at_,.int .i64 R.N.st,.int .i64 R.N.q,.int .i64 R.N.M,.slice na R.N.rows nc,.bool R.took,.float .f64 ry,.int .i64 R.e] _ rfl HRR.out Tryz.underlying49 rfl (by kernel_rfl) rfl ?_;rw [hRB];exact ⟨by rw [hB]; exact HBF.out,_,_,ry,rfl,r1,r2,HR3.out,HR4.out⟩
  ·rw [hh] at h; cases h
end Go.Proofs.YtnlbafjmbamoeaaGreat
namespace Go.Proofs.YtnlbafjmbamoeaaGreat
open Go.RowKit Lib
open Ieee (double)
theorem ng (n:Nat) (T:TD) (M:Nat) (hM:M<2) (hck:yq T=true) (hcs:∀ i,(T.op i).c<18446744073709551616) (hn:T.n=n) (h1:1≤n) (h4:n≤4):oZ n T M:=by
 rcases (show M=0∨M=1 by omega) with rfl | rfl
 ·exact qG n T hck hcs hn h1 h4
 ·exact fun vo vu vz vl vw m t z l wt w hx hm=>mm n T vo vu vz vl vw m t z l wt w hx hck (fun i _=>hcs i) hn h1 h4 hm
structure nH (lo:Int) (s:Sol):Prop where
 q1:1≤s.q
 q5:s.q+s.M≤5
 k:s.k<43
 M:s.M<2
 lo1:1≤lo
 at_:0≤s.at_∧s.at_≤1000000000000000000
 good:0≤s.good∧s.good≤1000000
 fails:0≤s.fails∧s.fails≤1000
 slow:0≤s.slow∧s.slow≤1000
theorem lR (n:Nat) (T:TD) (vo vu vb vy vt vz:Value) (en fi lo mo:Int) (pa pr pc:Nat) (s:Sol) (w:World) (hT:yG w (.agg #[.int .i64 n,vo,vu]) T) (hz:yB w vz (s.q+1) (fun _=>n) s.z) (hs:nH lo s)
  (hck:yq T=true) (hcs:∀ i,(T.op i).c<18446744073709551616) (hn:T.n=n) (h1:1≤n) (h4:n≤4) :
  Calls Tryz.prog 18 #[.agg #[.int .i64 n,vo,vu,vb,vy,.int .i64 en,.int .i64 fi,.int .i64 lo,.float .f64 pa,.float .f64 pr,.float .f64 pc,.int .i64 mo,vt],.agg #[.int .i64 s.at_,.int .i64 (tk s.k),.int .i64 s.q,.int .i64 s.M,vz,.int .i64 s.good,.int .i64 s.fails,.int .i64 s.slow]] w (TrT n (uG T n pa pr lo en s) w):=
 ml n T vo vu vb vy vt vz en fi lo mo pa pr pc s w hT hz hs.q1 hs.q5 hs.k hs.M hs.lo1 hs.at_ hs.good hs.fails hs.slow hck hcs hn h1 h4
theorem rtry_any (n b0:Nat) (T:TD) (vo vu vb vy vt vz:Value) (en fi lo mo:Int) (pa pr pc:Nat) (s:Sol) (w:World) (hT:yG w (.agg #[.int .i64 n,vo,vu]) T) (hb0:b0≤w.heap.size) (hz:wi b0 w vz (s.q+1) n s.z) (hs:nH lo s)
  (hck:yq T=true) (hcs:∀ i,(T.op i).c<18446744073709551616) (hn:T.n=n) (h1:1≤n) (h4:n≤4) :
  Calls Tryz.prog 20 #[.agg #[.int .i64 n,vo,vu,vb,vy,.int .i64 en,.int .i64 fi,.int .i64 lo,.float .f64 pa,.float .f64 pr,.float .f64 pc,.int .i64 mo,vt],.agg #[.int .i64 s.at_,.int .i64 (tk s.k),.int .i64 s.q,.int .i64 s.M,vz,.int .i64 s.good,.int .i64 s.fails,.int .i64 s.slow]] w (pV b0 n (uG T n pa pr lo en s) w):=
 nb n b0 T vo vu vb vy vt vz en fi lo mo pa pr pc s w hT hb0 hz (ng n T s.M hs.M hck hcs hn h1 h4) hs.q1 hs.q5 hs.k hs.M hs.lo1 hs.at_ hs.good hs.fails hs.slow hck hcs hn h1 h4
end Go.Proofs.YtnlbafjmbamoeaaGreat
namespace Go.Proofs.YtnlbafjmbamoeaaGreat
open Go.RowKit Lib
open Ieee (double)
attribute [local go_sem] zr zi zy zn zU zS zW zX zV zY zD zH zI zJ zK zB ye z8 zF yE zN zQ zR
set_option maxRecDepth 100000
set_option maxHeartbeats 16000000
theorem kd (n:Nat) (T:TD) (vo vu vb vy vt:Value) (y:Nat→Nat) (en fi lo mo:Int) (pa pr pc:Nat) (w:World) (hT:yG w (.agg #[.int .i64 n,vo,vu]) T) (hy:zT w vy n y)
  (hck:yq T=true) (hcs:∀ i,i<T.len→(T.op i).c<18446744073709551616) (hn:T.n=n) (h1:1≤n) (h4:n≤4) :
  Calls Tryz.prog 16 #[.agg #[.int .i64 n,vo,vu,vb,vy,.int .i64 en,.int .i64 fi,.int .i64 lo,.float .f64 pa,.float .f64 pr,.float .f64 pc,.int .i64 mo,vt]] w fun e w'=>∃ v,e=.returned (.agg #[.int .i64 0,.int .i64 fi,.int .i64 1,.int .i64 0,v,.int .i64 0,.int .i64 0,.int .i64 0])∧yk w' w.heap.size v 2 n (xq T y (xh fi))∧Below w.heap.size w w':=by
 have ST:=hid (fun (W:World) (hb:Below w.heap.size w W)=>tF n T vo vu vy y fi W (hT.below hb) (hy.below hb) hck hcs hn h1 h4);obtain ⟨ay,cy,rfl,-,-⟩:=id hy;have AL:=al2 w (.cells #[.int .i64 n,vo,vu,vb,.slice ay n cy,.int .i64 en,.int .i64 fi,.int .i64 lo,.float .f64 pa,.float .f64 pr,.float .f64 pc,.int .i64 mo,vt] 33) (.cells #[.int .i64 0,.int .i64 0,.int .i64 0,.int .i64 0,.slice none 0 0,.int .i64 0,.int .i64 0,.int .i64 0] 39);clear hT hy hck hcs;go_enter Tryz.func16,Tryz.ntmps16;go_upto_region 1 with fail
 generalize hB:w.heap.size=B at *;generalize (w.alloc (.cells #[.int .i64 n,vo,vu,vb,.slice ay n cy,.int .i64 en,.int .i64 fi,.int .i64 lo,.float .f64 pa,.float .f64 pr,.float .f64 pc,.int .i64 mo,vt] 33)).alloc (.cells #[.int .i64 0,.int .i64 0,.int .i64 0,.int .i64 0,.slice none 0 0,.int .i64 0,.int .i64 0,.int .i64 0] 39)=X at *;obtain ⟨x1,x2,x4,x5⟩:=AL;obtain ⟨p0,p1,p2,p3,p4,p5,p6,p7,p8,p9,p10,p11,p12⟩:=yn x1;have HX2:=hid x2;have SC:=hid (ST.out X x5);clear x1 x2 p3 p5 p7 p8 p9 p10 p11 p12;go_wp2_with fail;refine SC.out.mono ?_;rintro e w2 ⟨G,c,blk,cp,rfl,hg,hb2,hcc⟩;have hr:=(hb2.block (B+1) (by omega)).trans HX2.out;have hrow:=yx hr #[.int .i64 0,.int .i64 fi,.int .i64 1,.int .i64 0,.slice (some ⟨G,0,none⟩) 2 c,.int .i64 0,.int .i64 0,.int .i64 0];have HO:=hid (((hg.own hcc).base (b':=B) (by omega)).put hr hrow.1 rfl rfl);have HB2:=hid (hrow.1.below (x5.trans (hb2.mono (by omega))) (show B≤B+1 by omega) (by have:=hb2.size; omega));have HRX:=hid hr;have HRR:=hid hrow.2.1;clear hr hrow hg hb2 hcc SC p0 p1 p2 p4 p6
 go_wp2_with (first
  | (refine wpList_store_row rfl 39 _ _ rfl (B+1) #[.int .i64 0,.int .i64 fi,.int .i64 1,.int .i64 0,.slice (some ⟨G,0,none⟩) 2 c,.int .i64 0,.int .i64 0,.int .i64 0] rfl rfl 39 _ HRX.out (by kernel_rfl) rfl (by simp [Value.oneCell']) ?_)
  | fail)
 refine yf 2 39 Tryz.results16 (B+1) 39 #[.int .i64 0,.int .i64 fi,.int .i64 1,.int .i64 0,.slice (some ⟨G,0,none⟩) 2 c,.int .i64 0,.int .i64 0,.int .i64 0] _ rfl HRR.out Tryz.underlying39 rfl (by kernel_rfl) rfl ?_;exact ⟨_,rfl,by rw [hB]; exact HO.out,by rw [hB]; exact HB2.out⟩
theorem as_tells (n q:Nat) (at_ t good fails slow:Int) (M:Nat) (vz:Value) (z:Nat→Nat→Nat) (hq:1≤q) (hq6:q≤5) (h1:1≤n) (h4:n≤4) (w:World) (hz:yB w vz (q+1) (fun _=>n) z) :
  Calls Tryz.prog 19 #[.agg #[.int .i64 at_,.int .i64 t,.int .i64 q,.int .i64 M,vz,.int .i64 good,.int .i64 fails,.int .i64 slow]] w fun e w'=>∃ v,e=.returned (.agg #[.int .i64 at_,.int .i64 t,.int .i64 q,.int .i64 M,v,.int .i64 good,.int .i64 fails,.int .i64 slow])∧yk w' w.heap.size v (q+1) n z∧Below w.heap.size w w':=by
 have RSC:=hid (fun (W:World) (hb:Below w.heap.size w W)=>wS vz (q+1) n 0 ⟨by decide,by decide⟩ (by omega) (by omega) h1 h4 z W (hz.below hb));have HZ:=hid hz;obtain ⟨az,cz,rfl⟩:=hz.shape;have AL:=al2 w (.cells #[.int .i64 at_,.int .i64 t,.int .i64 q,.int .i64 M,.slice az (q+1) cz,.int .i64 good,.int .i64 fails,.int .i64 slow] 39) (.cells #[.int .i64 0,.int .i64 0,.int .i64 0,.int .i64 0,.slice none 0 0,.int .i64 0,.int .i64 0,.int .i64 0] 42);clear hz;go_enter Tryz.func19,Tryz.ntmps19;go_upto_region 1 with fail
 generalize hB:w.heap.size=B at *;generalize (w.alloc (.cells #[.int .i64 at_,.int .i64 t,.int .i64 q,.int .i64 M,.slice az (q+1) cz,.int .i64 good,.int .i64 fails,.int .i64 slow] 39)).alloc (.cells #[.int .i64 0,.int .i64 0,.int .i64 0,.int .i64 0,.slice none 0 0,.int .i64 0,.int .i64 0,.int .i64 0] 42)=X at *;obtain ⟨x1,x2,x4,x5⟩:=AL;obtain ⟨s0,s1,s2,s3,s4,s5,s6,s7⟩:=zO x1;have HX1:=hid x1;have HX2:=hid x2;have HAL:=hid (al1 X (.cells #[.int .i64 at_,.int .i64 t,.int .i64 q,.int .i64 M,.slice az (q+1) cz] 37));have hX4:B+2≤X.heap.size:=by omega
 clear x1 x2 x4;go_upto_region 2 with fail
 have HP1:=hid HAL.out.1;have HB1:=hid HAL.out.2.2;clear HAL s0 s1 s2 s3 s4 s5 s6 s7;generalize X.alloc (.cells #[.int .i64 at_,.int .i64 t,.int .i64 q,.int .i64 M,.slice az (q+1) cz] 37)=W1 at *;generalize hPX:X.heap.size=P at *;have hs1:=HB1.out.size;rw [hPX] at hs1;have s4:=(zO ((HB1.out.block B (by omega)).trans HX1.out)).2.2.2.2.1;have RC:=hid (RSC.out W1 (x5.trans (HB1.out.mono (by omega))));go_wp2_with fail;refine RC.out.mono ?_;rintro e w2 ⟨G,cG,blk,cp,rfl,hg,hb2,hcc⟩;have HB2:=hid (HB1.out.trans (hb2.mono hs1));have hp2:=(hb2.block P (zj HP1.out)).trans HP1.out;have ho2:=((hg.own hcc).base (b':=P) hs1).congr (g:=z) (fun i j hi hj=>tU HZ.out hi hj);clear hg hb2 hcc RC s4;obtain ⟨c0,c1,c2,c3,c4⟩:=yl hp2;have f4:=zg hp2 4;have k3:=((zM.refl w2 P).set 4 (.slice (some ⟨G,0,none⟩) (q+1) cG))
 have y3:=(zp (o:=4) hp2 (.slice (some ⟨G,0,none⟩) (q+1) cG))
 have HP3:=hid (show _=some (Obj.cells #[.int .i64 at_,.int .i64 t,.int .i64 q,.int .i64 M,.slice (some ⟨G,0,none⟩) (q+1) cG] 37) from y3.trans (by kernel_rfl));have HB3:=hid (k3.below HB2.out (Nat.le_refl _) (by have:=HB2.out.size; omega));have HO3:=hid (ho2.put hp2 k3 rfl rfl);clear k3 y3 hp2 ho2;go_upto_region 3 with fail
 generalize (w2.setCell ⟨P,4,none⟩ (.slice (some ⟨G,0,none⟩) (q+1) cG))=W3 at *;clear c0 c1 c2 c3 c4 f4;obtain ⟨c0,c1,c2,c3,c4⟩:=yl HP3.out;obtain ⟨s0,s1,s2,s3,s4,s5,s6,s7⟩:=zO ((HB3.out.block B (by omega)).trans HX1.out);have hr:=(HB3.out.block (B+1) (by omega)).trans HX2.out;have hrow:=yx hr #[.int .i64 at_,.int .i64 t,.int .i64 q,.int .i64 M,.slice (some ⟨G,0,none⟩) (q+1) cG,.int .i64 good,.int .i64 fails,.int .i64 slow];have HO:=hid ((HO3.out.base (b':=B) (by omega)).put hr hrow.1 rfl rfl);have HBF:=hid (hrow.1.below (x5.trans (HB3.out.mono (by omega))) (show B≤B+1 by omega) (by have:=HB3.out.size; omega));have HRX:=hid hr;have HRR:=hid hrow.2.1;clear hr hrow s0 s1 s2 s3 s4
 go_wp2_with (first
  | (refine wpList_store_row rfl 42 _ _ rfl (B+1) #[.int .i64 at_,.int .i64 t,.int .i64 q,.int .i64 M,.slice (some ⟨G,0,none⟩) (q+1) cG,.int .i64 good,.int .i64 fails,.int .i64 slow] rfl rfl 42 _ HRX.out (by kernel_rfl) rfl (by simp [Value.oneCell']) ?_)
  | fail)
 refine yf 2 42 Tryz.results19 (B+1) 42 #[.int .i64 at_,.int .i64 t,.int .i64 q,.int .i64 M,.slice (some ⟨G,0,none⟩) (q+1) cG,.int .i64 good,.int .i64 fails,.int .i64 slow] _ rfl HRR.out Tryz.underlying42 rfl (by kernel_rfl) rfl ?_;exact ⟨_,rfl,by rw [hB]; exact HO.out,by rw [hB]; exact HBF.out⟩
theorem nh (at_ t q M good fails slow:Int) (az:Option Addr) (m cz:Nat) (w:World) :
  Calls Tryz.prog 23 #[.agg #[.int .i64 at_,.int .i64 t,.int .i64 q,.int .i64 M,.slice az m cz,.int .i64 good,.int .i64 fails,.int .i64 slow]] w (xf (.agg #[.int .i64 at_,.int .i64 t,.int .i64 q,.int .i64 M,.slice az m cz,.int .i64 good,.int .i64 fails,.int .i64 slow]) w):=by
 have AL:=al2 w (.cells #[.int .i64 at_,.int .i64 t,.int .i64 q,.int .i64 M,.slice az m cz,.int .i64 good,.int .i64 fails,.int .i64 slow] 42) (.cells #[.int .i64 0,.int .i64 0,.int .i64 0,.int .i64 0,.slice none 0 0,.int .i64 0,.int .i64 0,.int .i64 0] 39);go_enter Tryz.func23,Tryz.ntmps23;go_upto_region 1 with fail
 generalize hB:w.heap.size=B at *;generalize (w.alloc (.cells #[.int .i64 at_,.int .i64 t,.int .i64 q,.int .i64 M,.slice az m cz,.int .i64 good,.int .i64 fails,.int .i64 slow] 42)).alloc (.cells #[.int .i64 0,.int .i64 0,.int .i64 0,.int .i64 0,.slice none 0 0,.int .i64 0,.int .i64 0,.int .i64 0] 39)=X at *;obtain ⟨x1,x2,x4,x5⟩:=AL;obtain ⟨s0,s1,s2,s3,s4,s5,s6,s7⟩:=zO x1;have hrow:=yx x2 #[.int .i64 at_,.int .i64 t,.int .i64 q,.int .i64 M,.slice az m cz,.int .i64 good,.int .i64 fails,.int .i64 slow];have HBF:=hid (hrow.1.below x5 (show B≤B+1 by omega) (by omega));have HRX:=hid x2;have HRR:=hid hrow.2.1;clear x1 x2 hrow
 go_wp2_with (first
  | (refine wpList_store_row rfl 39 _ _ rfl (B+1) #[.int .i64 at_,.int .i64 t,.int .i64 q,.int .i64 M,.slice az m cz,.int .i64 good,.int .i64 fails,.int .i64 slow] rfl rfl 39 _ HRX.out (by kernel_rfl) rfl (by simp [Value.oneCell']) ?_)
  | fail)
 refine yf 2 39 Tryz.results23 (B+1) 39 #[.int .i64 at_,.int .i64 t,.int .i64 q,.int .i64 M,.slice az m cz,.int .i64 good,.int .i64 fails,.int .i64 slow] _ rfl HRR.out Tryz.underlying39 rfl (by kernel_rfl) rfl ?_;exact ⟨rfl,by rw [hB]; exact HBF.out⟩
end Go.Proofs.YtnlbafjmbamoeaaGreat
namespace Go.Proofs.YtnlbafjmbamoeaaGreat
open Go.RowKit Lib
open Ieee (double)
structure v8 (i:Nat) (lo:Int) (s:Sol):Prop where
 q1:1≤s.q
 q5:s.q+s.M≤5
 k:s.k≤32
 M:s.M<2
 lo1:1≤lo
 at_:0≤s.at_∧s.at_≤(i:Int)*4294967296
 good:0≤s.good∧s.good≤i
 fails:0≤s.fails∧s.fails≤2
 slow:0≤s.slow∧s.slow≤1
theorem v8.ok {i:Nat} {lo:Int} {s:Sol} (h:v8 i lo s) (hi:i≤1000):nH lo s:=by
 obtain ⟨h1,h2,h3,h4,h5,h6,h7,h8,h9⟩:=h;exact ⟨h1,h2,by omega,h4,h5,by omega,by omega,by omega,by omega⟩
theorem v8.mono {i j:Nat} {lo:Int} {s:Sol} (h:v8 i lo s) (hi:i≤j):v8 j lo s:=by
 obtain ⟨h1,h2,h3,h4,h5,h6,h7,h8,h9⟩:=h;exact ⟨h1,h2,h3,h4,h5,by omega,by omega,h8,h9⟩
theorem ky {k:Nat} (h:k≤32):tk k≤4294967296:=by
 unfold tk;have:2 ^ k≤2 ^ 32:=Nat.pow_le_pow_right (by decide) h;have e:(2:Nat) ^ 32=4294967296:=by decide
 omega
theorem lu {k:Nat} (h:tk k≤2147483648):k<32:=tk_lt (by
 have e:tk 32=4294967296:=by decide
 omega)
theorem lS {i:Nat} {lo en:Int} {s:Sol} (h:v8 i lo s) (hen:en≤2147483648) (z:Nat→Nat→Nat) (l d:Nat→Nat) (c:Nat):v8 (i+1) lo (r9 en s z l d c):=by
 obtain ⟨h1,h2,h3,h4,h5,h6,h7,h8,h9⟩:=h;have z2:(0:Int)≤0∧(0:Int)≤2:=by decide
 have hp:=uZ s.k;have ht:=ky h3;have ha:0≤s.at_+tk s.k∧s.at_+tk s.k≤((i+1:Nat):Int)*4294967296:=by omega
 have hg:0≤s.good+1∧s.good+1≤((i+1:Nat):Int):=by omega
 have h0:(0:Int)≤0∧(0:Int)≤((i+1:Nat):Int):=by omega
 unfold r9;by_cases c1:s.good+1≤s.q+1
 ·rw [if_pos c1];exact ⟨h1,h2,h3,h4,h5,ha,hg,z2,h9⟩
 ·rw [if_neg c1];by_cases c2:wH c s.q s.k en=true
  ·rw [if_pos c2];unfold wH at c2;rw [Bool.and_eq_true,decide_eq_true_eq] at c2;have:=lu (Int.le_trans c2.2 hen);exact ⟨h1,h2,by show s.k+1≤32; omega,h4,h5,ha,h0,z2,h9⟩
  ·rw [if_neg c2];by_cases c3:xm c s.q s.M=true
   ·rw [if_pos c3];unfold xm at c3;rw [Bool.and_eq_true,decide_eq_true_eq] at c3;have:=c3.2;exact ⟨by show 1≤s.q+1; omega,by show s.q+1+s.M≤5; omega,h3,h4,h5,ha,h0,z2,h9⟩
   ·rw [if_neg c3];exact ⟨h1,h2,h3,h4,h5,ha,hg,z2,h9⟩
theorem lT {i:Nat} {lo:Int} {s:Sol} (h:v8 i lo s) (T:TD) (e:Int):v8 (i+1) lo (qa T s e):=by
 obtain ⟨h1,h2,h3,h4,h5,h6,h7,h8,h9⟩:=h;have ha:0≤s.at_∧s.at_≤((i+1:Nat):Int)*4294967296:=by omega
 have h0:(0:Int)≤0∧(0:Int)≤((i+1:Nat):Int):=by omega
 have hsl:0≤xU s e:=by unfold xU; split<;>omega
 have hk:s.k-1≤32:=by omega
 have z2:(0:Int)≤0∧(0:Int)≤2:=by decide
 have z1:(0:Int)≤0∧(0:Int)≤1:=by decide
 have w5:1+1≤5:=by decide
 have w2:1<2:=by decide
 unfold qa;by_cases c1:2≤xU s e
 ·rw [if_pos c1];exact ⟨Nat.le_refl _,w5,hk,w2,h5,ha,h0,z2,z1⟩
 ·rw [if_neg c1];have hs1:xU s e≤1:=by omega
  by_cases c2:3≤s.fails+1
  ·rw [if_pos c2];exact ⟨Nat.le_refl _,by show 1+s.M≤5; omega,hk,h4,h5,ha,h0,z2,⟨hsl,hs1⟩⟩
  ·rw [if_neg c2];exact ⟨h1,h2,hk,h4,h5,ha,h0,by show 0≤s.fails+1∧s.fails+1≤2; omega,⟨hsl,hs1⟩⟩
theorem try_at {i:Nat} {lo en:Int} {s:Sol} (h:v8 i lo s) (hen:en≤2147483648) (T:TD) (n a r:Nat):v8 (i+1) lo (uG T n a r lo en s).S:=by
 have hf:∀ e c,v8 (i+1) lo (xO T lo s e c).S:=fun e c=>by
  unfold xO;by_cases c1:tk s.k≤lo
  ·rw [if_pos c1];exact h.mono (Nat.le_succ i)
  ·rw [if_neg c1];exact lT h T e
 unfold uG;split
 ·exact hf _ _
 ·split
  ·exact lS h hen _ _ _ _
  ·exact hf _ _
end Go.Proofs.YtnlbafjmbamoeaaGreat
namespace Go.Proofs.YtnlbafjmbamoeaaGreat
open Go.RowKit Lib
open Ieee (double)
attribute [local go_sem] zr zi zy zn zU zS zW zX zV zY zD zH zI zJ zK zB ye z8 zF yE zN zQ zR
set_option maxRecDepth 100000
set_option maxHeartbeats 16000000
theorem uS (at_ t q M:Int) (u v:Value) (m n:Nat) (f:Nat→Nat→Nat) (w:World) (hu:yB w u m (fun _=>n) f) (hv:yB w v m (fun _=>n) f) :
  Calls Tryz.prog 48 #[.agg #[.int .i64 at_,.int .i64 t,.int .i64 q,.int .i64 M,u],.agg #[.int .i64 at_,.int .i64 t,.int .i64 q,.int .i64 M,v]] w (xf (.bool true) w):=by
 have TB:=hid (fun (W:World) (hb:Below w.heap.size w W)=>pA u v m (fun _=>n) f W (hu.below hb) (hv.below hb));obtain ⟨au,cu,rfl⟩:=hu.shape;obtain ⟨av,cv,rfl⟩:=hv.shape;have AL:=al2 w (.cells #[.int .i64 at_,.int .i64 t,.int .i64 q,.int .i64 M,.slice au m cu] 37) (.cells #[.int .i64 at_,.int .i64 t,.int .i64 q,.int .i64 M,.slice av m cv] 37);clear hu hv;go_enter Tryz.func48,Tryz.ntmps48;go_upto_region 1 with fail
 generalize hB:w.heap.size=B at *;generalize (w.alloc (.cells #[.int .i64 at_,.int .i64 t,.int .i64 q,.int .i64 M,.slice au m cu] 37)).alloc (.cells #[.int .i64 at_,.int .i64 t,.int .i64 q,.int .i64 M,.slice av m cv] 37)=X at *;obtain ⟨x1,x2,x4,x5⟩:=AL;obtain ⟨c0,c1,c2,c3,c4⟩:=yl x1;obtain ⟨d0,d1,d2,d3,d4⟩:=yl x2;have TC:=hid (TB.out X x5);have HB:=hid (fun W (hW:Below X.heap.size X W)=>(show Below B w W from x5.trans (hW.mono (by omega))));clear x1 x2 x4 x5;go_wp2_with fail;refine TC.out.mono ?_;rintro e w2 ⟨rfl,hb⟩;have HF:=hid (HB.out w2 hb);clear hb;go_wp2_with fail;go_ret;exact ⟨rfl,by rw [hB]; exact HF.out⟩
theorem rk (at_ t q M good fails slow:Int) (u v:Value) (m n:Nat) (f:Nat→Nat→Nat) (w:World) (hu:yB w u m (fun _=>n) f) (hv:yB w v m (fun _=>n) f) :
  Calls Tryz.prog 22 #[.agg #[.int .i64 at_,.int .i64 t,.int .i64 q,.int .i64 M,u,.int .i64 good,.int .i64 fails,.int .i64 slow],.agg #[.int .i64 at_,.int .i64 t,.int .i64 q,.int .i64 M,v,.int .i64 good,.int .i64 fails,.int .i64 slow]] w (xf (.bool true) w):=by
 have TB:=hid (fun (W:World) (hb:Below w.heap.size w W)=>uS at_ t q M u v m n f W (hu.below hb) (hv.below hb));obtain ⟨au,cu,rfl⟩:=hu.shape;obtain ⟨av,cv,rfl⟩:=hv.shape;have AL:=al2 w (.cells #[.int .i64 at_,.int .i64 t,.int .i64 q,.int .i64 M,.slice au m cu,.int .i64 good,.int .i64 fails,.int .i64 slow] 39) (.cells #[.int .i64 at_,.int .i64 t,.int .i64 q,.int .i64 M,.slice av m cv,.int .i64 good,.int .i64 fails,.int .i64 slow] 39);clear hu hv;go_enter Tryz.func22,Tryz.ntmps22;go_upto_region 1 with fail
 generalize hB:w.heap.size=B at *;generalize (w.alloc (.cells #[.int .i64 at_,.int .i64 t,.int .i64 q,.int .i64 M,.slice au m cu,.int .i64 good,.int .i64 fails,.int .i64 slow] 39)).alloc (.cells #[.int .i64 at_,.int .i64 t,.int .i64 q,.int .i64 M,.slice av m cv,.int .i64 good,.int .i64 fails,.int .i64 slow] 39)=X at *;obtain ⟨x1,x2,x4,x5⟩:=AL;obtain ⟨c0,c1,c2,c3,c4,c5,c6,c7⟩:=zO x1;obtain ⟨d0,d1,d2,d3,d4,d5,d6,d7⟩:=zO x2;have TC:=hid (TB.out X x5);have HB:=hid (fun W (hW:Below X.heap.size X W)=>(show Below B w W from x5.trans (hW.mono (by omega))));have HX1:=hid x1;have HX2:=hid x2;have hX4:B+2≤X.heap.size:=by omega
 clear x1 x2 x4 x5;go_wp2_with fail;refine TC.out.mono ?_;rintro e w2 ⟨rfl,hb⟩;clear c0 c1 c2 c3 c4 c5 c6 c7 d0 d1 d2 d3 d4 d5 d6 d7;obtain ⟨c0,c1,c2,c3,c4,c5,c6,c7⟩:=zO ((hb.block B (by omega)).trans HX1.out);obtain ⟨d0,d1,d2,d3,d4,d5,d6,d7⟩:=zO ((hb.block (B+1) (by omega)).trans HX2.out);have HF:=hid (HB.out w2 hb);clear hb c0 c1 c2 c3 c4 d0 d1 d2 d3 d4;go_wp2_with fail;go_ret;exact ⟨rfl,by rw [hB]; exact HF.out⟩
theorem lU (at_ t q M good fails slow at2 t2 q2 M2 e:Int) (took:Bool) (y1 y2:Nat) (u1 u2 v1 v2:Value) (m n m2 n2:Nat) (f g:Nat→Nat→Nat) (w:World) (hu1:yB w u1 m (fun _=>n) f) (hu2:yB w u2 m (fun _=>n) f) (hv1:yB w v1 m2 (fun _=>n2) g) (hv2:yB w v2 m2 (fun _=>n2) g) (hy:zk y1=zk y2) :
  Calls Tryz.prog 21 #[.agg #[.int .i64 at_,.int .i64 t,.int .i64 q,.int .i64 M,u1,.int .i64 good,.int .i64 fails,.int .i64 slow,.int .i64 at2,.int .i64 t2,.int .i64 q2,.int .i64 M2,v1,.bool took,.float .f64 y1,.int .i64 e],.agg #[.int .i64 at_,.int .i64 t,.int .i64 q,.int .i64 M,u2,.int .i64 good,.int .i64 fails,.int .i64 slow,.int .i64 at2,.int .i64 t2,.int .i64 q2,.int .i64 M2,v2,.bool took,.float .f64 y2,.int .i64 e]] w (xf (.bool true) w):=by
 have TB:=hid (fun (W:World) (hb:Below w.heap.size w W)=>rk at_ t q M good fails slow u1 u2 m n f W (hu1.below hb) (hu2.below hb));have TN:=hid (fun (W:World) (hb:Below w.heap.size w W)=>uS at2 t2 q2 M2 v1 v2 m2 n2 g W (hv1.below hb) (hv2.below hb));have hyb:=t9 hy;obtain ⟨a1,c1,rfl⟩:=hu1.shape;obtain ⟨a2,c2,rfl⟩:=hu2.shape;obtain ⟨a3,c3,rfl⟩:=hv1.shape;obtain ⟨a4,c4,rfl⟩:=hv2.shape;have AL:=al2 w (.cells #[.int .i64 at_,.int .i64 t,.int .i64 q,.int .i64 M,.slice a1 m c1,.int .i64 good,.int .i64 fails,.int .i64 slow,.int .i64 at2,.int .i64 t2,.int .i64 q2,.int .i64 M2,.slice a3 m2 c3,.bool took,.float .f64 y1,.int .i64 e] 45) (.cells #[.int .i64 at_,.int .i64 t,.int .i64 q,.int .i64 M,.slice a2 m c2,.int .i64 good,.int .i64 fails,.int .i64 slow,.int .i64 at2,.int .i64 t2,.int .i64 q2,.int .i64 M2,.slice a4 m2 c4,.bool took,.float .f64 y2,.int .i64 e] 49);clear hu1 hu2 hv1 hv2;go_enter Tryz.func21,Tryz.ntmps21;go_upto_region 1 with fail
 generalize hB:w.heap.size=B at *;generalize (w.alloc (.cells #[.int .i64 at_,.int .i64 t,.int .i64 q,.int .i64 M,.slice a1 m c1,.int .i64 good,.int .i64 fails,.int .i64 slow,.int .i64 at2,.int .i64 t2,.int .i64 q2,.int .i64 M2,.slice a3 m2 c3,.bool took,.float .f64 y1,.int .i64 e] 45)).alloc (.cells #[.int .i64 at_,.int .i64 t,.int .i64 q,.int .i64 M,.slice a2 m c2,.int .i64 good,.int .i64 fails,.int .i64 slow,.int .i64 at2,.int .i64 t2,.int .i64 q2,.int .i64 M2,.slice a4 m2 c4,.bool took,.float .f64 y2,.int .i64 e] 49)=X at *;obtain ⟨x1,x2,x4,x5⟩:=AL;obtain ⟨⟨k0,k1,k2,k3,k4,k5,k6,k7⟩,k8,k9,k10,k11,k12,k13,k14,k15⟩:=yw x1;obtain ⟨⟨d0,d1,d2,d3,d4,d5,d6,d7⟩,d8,d9,d10,d11,d12,d13,d14,d15⟩:=yw x2;have HB:=hid (fun W (hW:Below X.heap.size X W)=>(show Below B w W from x5.trans (hW.mono (by omega))));have lt0:B<X.heap.size:=by omega
 have lt1:B+1<X.heap.size:=by omega
 clear x1 x2 x4 x5;refine zv [(0,1),(1,3),(3,1),(4,3),(2,0),(5,0),(6,1),(7,1),(8,3),(9,1),(10,3),(11,0),(12,1),(13,1),(14,1),(15,3),(16,1),(17,3),(18,1),(19,1),(20,1),(21,1),(22,3),(23,1),(24,3),(25,0),(26,1),(27,1),(28,1),(29,3),(30,1),(31,3),(32,1),(33,1),(34,1)] (fun W=>Below X.heap.size X W) (by kernel_rfl) (by kernel_rfl) (fun _ _ d _ _ h=>by cases d<;>exact h) ((Below.refl _ _).drew) ?_;intro Z hZ hbZ;clear hZ
 iterate 1
  first
   | refine zd (fun K hK=>?_)
   | refine ze (fun K hK=>?_)
  go_simp;refine hK _ ?_;clear hK K
 refine zh (v:=.agg #[.int .i64 at_,.int .i64 t,.int .i64 q,.int .i64 M,.slice a1 m c1,.int .i64 good,.int .i64 fails,.int .i64 slow]) rfl rfl (fun wk hwk=>?_) ?_
 ·rw [← (zA hwk).1 _ _ lt0] at k0 k1 k2 k3 k4 k5 k6 k7;go_simp
 iterate 1
  first
   | refine zd (fun K hK=>?_)
   | refine ze (fun K hK=>?_)
  go_simp;refine hK _ ?_;clear hK K
 refine zh (v:=.agg #[.int .i64 at_,.int .i64 t,.int .i64 q,.int .i64 M,.slice a2 m c2,.int .i64 good,.int .i64 fails,.int .i64 slow]) rfl rfl (fun wk hwk=>?_) ?_
 ·rw [← (zA hwk).1 _ _ lt1] at d0 d1 d2 d3 d4 d5 d6 d7;go_simp
 refine zm (fun K hK=>?_);go_simp;refine (nh at_ t q M good fails slow a1 m c1 Z).mono ?_;rintro e' w2 ⟨rfl,hb2⟩;have hbA:=hbZ.trans (hb2.mono hbZ.size);refine hK _ _ (fun h=>Bool.noConfusion (Eq.trans (Eq.symm (by kernel_rfl:_=false)) h)) (fun _=>hbA) ?_;clear hK K;refine zm (fun K hK=>?_);go_simp;refine (TB.out w2 (HB.out w2 hbA)).mono ?_;rintro e' w3 ⟨rfl,hb3⟩;have hbB:=hbA.trans (hb3.mono hbA.size);refine hK _ _ (fun h=>Bool.noConfusion (Eq.trans (Eq.symm (by kernel_rfl:_=false)) h)) (fun _=>hbB) ?_;clear hK K
 iterate 2
  first
   | refine zd (fun K hK=>?_)
   | refine ze (fun K hK=>?_)
  go_simp;refine hK _ ?_;clear hK K
 refine zh (v:=.agg #[.int .i64 at2,.int .i64 t2,.int .i64 q2,.int .i64 M2,.slice a3 m2 c3]) rfl rfl (fun wk hwk=>?_) ?_
 ·rw [← (zA hwk).1 _ _ lt0] at k8 k9 k10 k11 k12;go_simp
 iterate 1
  first
   | refine zd (fun K hK=>?_)
   | refine ze (fun K hK=>?_)
  go_simp;refine hK _ ?_;clear hK K
 refine zh (v:=.agg #[.int .i64 at2,.int .i64 t2,.int .i64 q2,.int .i64 M2,.slice a4 m2 c4]) rfl rfl (fun wk hwk=>?_) ?_
 ·rw [← (zA hwk).1 _ _ lt1] at d8 d9 d10 d11 d12;go_simp
 refine zm (fun K hK=>?_);go_simp;refine (TN.out w3 (HB.out w3 hbB)).mono ?_;rintro e' w4 ⟨rfl,hb4⟩;have hbC:=hbB.trans (hb4.mono hbB.size);refine hK _ _ (fun h=>Bool.noConfusion (Eq.trans (Eq.symm (by kernel_rfl:_=false)) h)) (fun _=>hbC) ?_;clear hK K
 iterate 3
  first
   | refine zd (fun K hK=>?_)
   | refine ze (fun K hK=>?_)
  go_simp;refine hK _ ?_;clear hK K
 refine zh (v:=.bool took) rfl rfl (fun wk hwk=>?_) ?_
 ·rw [← (zA hwk).1 _ _ lt0] at k13;go_simp
 iterate 1
  first
   | refine zd (fun K hK=>?_)
   | refine ze (fun K hK=>?_)
  go_simp;refine hK _ ?_;clear hK K
 refine zh (v:=.bool took) rfl rfl (fun wk hwk=>?_) ?_
 ·rw [← (zA hwk).1 _ _ lt1] at d13;go_simp
 iterate 4
  first
   | refine zd (fun K hK=>?_)
   | refine ze (fun K hK=>?_)
  go_simp;refine hK _ ?_;clear hK K
 refine zh (v:=.float .f64 y1) rfl rfl (fun wk hwk=>?_) ?_
 ·rw [← (zA hwk).1 _ _ lt0] at k14;go_simp
 iterate 1
  first
   | refine zd (fun K hK=>?_)
   | refine ze (fun K hK=>?_)
  go_simp;refine hK _ ?_;clear hK K
 refine zh (v:=.float .f64 y2) rfl rfl (fun wk hwk=>?_) ?_
 ·rw [← (zA hwk).1 _ _ lt1] at d14;go_simp
 refine zm (fun K hK=>?_);go_simp;refine (l6 w4 hyb).mono ?_;rintro e' w5 ⟨rfl,rfl⟩;refine hK _ _ (fun h=>Bool.noConfusion (Eq.trans (Eq.symm (by kernel_rfl:_=false)) h)) (fun _=>hbC) ?_;clear hK K
 iterate 3
  first
   | refine zd (fun K hK=>?_)
   | refine ze (fun K hK=>?_)
  go_simp;refine hK _ ?_;clear hK K
 refine zh (v:=.int .i64 e) rfl rfl (fun wk hwk=>?_) ?_
 ·rw [← (zA hwk).1 _ _ lt0] at k15;go_simp
 iterate 1
  first
   | refine zd (fun K hK=>?_)
   | refine ze (fun K hK=>?_)
  go_simp;refine hK _ ?_;clear hK K
 refine zh (v:=.int .i64 e) rfl rfl (fun wk hwk=>?_) ?_
 ·rw [← (zA hwk).1 _ _ lt1] at d15;go_simp
 iterate 3
  first
   | refine zd (fun K hK=>?_)
   | refine ze (fun K hK=>?_)
  go_simp;refine hK _ ?_;clear hK K
 refine zo ?_;have HF:=hid (HB.out _ hbC);clear hbZ hb2 hbA hb3 hbB hb4 hbC;go_wp2_with fail;go_ret;exact ⟨rfl,by rw [hB]; exact HF.out⟩
end Go.Proofs.YtnlbafjmbamoeaaGreat
namespace Go.Proofs.YtnlbafjmbamoeaaGreat
open Go.RowKit Lib
open Ieee (double)
theorem vs {w:World} {k:Nat} {t:TypeId} {u0 u1 u2 u3 u4 u5 u6 u7 u8:Value} (h:w.heap[k]? = some (.cells #[u0,u1,u2,u3,u4,u5,u6,u7,u8] t)):w.cell? ⟨k,0,none⟩=some u0∧w.cell? ⟨k,1,none⟩=some u1∧w.cell? ⟨k,2,none⟩=some u2∧w.cell? ⟨k,3,none⟩=some u3∧w.cell? ⟨k,4,none⟩=some u4∧w.cell? ⟨k,5,none⟩=some u5∧w.cell? ⟨k,6,none⟩=some u6∧w.cell? ⟨k,7,none⟩=some u7∧w.cell? ⟨k,8,none⟩=some u8:=by
 refine ⟨?_,?_,?_,?_,?_,?_,?_,?_,?_⟩<;>(rw [zf h]; rfl)
set_option maxRecDepth 100000
set_option maxHeartbeats 16000000
theorem kE (sd sf sl sa se:Int) (aa ab ac:Option Addr) (la lb lc ca cb cc:Nat) (sk:Bool) (w:World) :
  Calls Tryz.prog 14 #[.agg #[.int .i64 sd,.int .i64 sf,.int .i64 sl,.int .i64 sa,.int .i64 se,.slice aa la ca,.slice ab lb cb,.slice ac lc cc,.bool sk]] w (xf (.bool (decide (la≤60)&&(decide (lb≤60)&&decide (lc≤60)))) w):=by
 have AL:=al1 w (.cells #[.int .i64 sd,.int .i64 sf,.int .i64 sl,.int .i64 sa,.int .i64 se,.slice aa la ca,.slice ab lb cb,.slice ac lc cc,.bool sk] 24);go_enter Tryz.func14,Tryz.ntmps14;go_upto_region 1 with fail
 generalize hB:w.heap.size=B at *;generalize w.alloc (.cells #[.int .i64 sd,.int .i64 sf,.int .i64 sl,.int .i64 sa,.int .i64 se,.slice aa la ca,.slice ab lb cb,.slice ac lc cc,.bool sk] 24)=X at *;obtain ⟨x1,x4,x5⟩:=AL;obtain ⟨c0,c1,c2,c3,c4,c5,c6,c7,c8⟩:=vs x1;clear x1 x4 c0 c1 c2 c3 c4 c8;by_cases h1:la≤60
 ·have i1:decide ((la:Int)≤60)=true:=decide_eq_true (by omega);have H1:=hid h1;clear h1;by_cases h2:lb≤60
  ·have i2:decide ((lb:Int)≤60)=true:=decide_eq_true (by omega);have H2:=hid h2;clear h2;by_cases h3:lc≤60
   ·have i3:decide ((lc:Int)≤60)=true:=decide_eq_true (by omega);have J:=hid (show (decide (la≤60)&&(decide (lb≤60)&&decide (lc≤60)))=true by simp [H1.out,H2.out,h3]);clear h3;go_wp2_with fail;go_ret;exact ⟨congrArg (fun b=>Ending.returned (Value.bool b)) J.out.symm,by rw [hB]; exact x5⟩
   ·have i3:decide ((lc:Int)≤60)=false:=decide_eq_false (by omega);have J:=hid (show (decide (la≤60)&&(decide (lb≤60)&&decide (lc≤60)))=false by simp [H1.out,H2.out,h3]);clear h3;go_wp2_with fail;go_ret;exact ⟨congrArg (fun b=>Ending.returned (Value.bool b)) J.out.symm,by rw [hB]; exact x5⟩
  ·have i2:decide ((lb:Int)≤60)=false:=decide_eq_false (by omega);have J:=hid (show (decide (la≤60)&&(decide (lb≤60)&&decide (lc≤60)))=false by simp [h2]);clear h2;go_wp2_with fail;go_ret;exact ⟨congrArg (fun b=>Ending.returned (Value.bool b)) J.out.symm,by rw [hB]; exact x5⟩
 ·have i1:decide ((la:Int)≤60)=false:=decide_eq_false (by omega);have J:=hid (show (decide (la≤60)&&(decide (lb≤60)&&decide (lc≤60)))=false by simp [h1]);clear h1;go_wp2_with fail;go_ret;exact ⟨congrArg (fun b=>Ending.returned (Value.bool b)) J.out.symm,by rw [hB]; exact x5⟩
end Go.Proofs.YtnlbafjmbamoeaaGreat
namespace Go.Proofs.YtnlbafjmbamoeaaGreat
open Go.RowKit Lib
open Ieee (double)
attribute [local go_sem] zr zi zy zn zU zS zW zX zV zY zD zH zI zJ zK zB ye z8 zF yE zN zQ zR
def vv:TD:=⟨1,1,fun _=>⟨0,0,0,0⟩,1,fun _=>0⟩
def wT:Sol:=⟨0,20,1,0,fun r _=>if r=0 then 4607182418800017408 else 0,0,0,0⟩
theorem oe:yq vv=true:=by decide +kernel
theorem lv:nH 1 wT:=⟨by decide,by decide,by decide,by decide,by decide,by decide,by decide,by decide,by decide⟩
theorem mn:(uG vv 1 4607182418800017408 0 1 1073741824 wT).took=true∧(uG vv 1 4607182418800017408 0 1 1073741824 wT).err=0∧(uG vv 1 4607182418800017408 0 1 1073741824 wT).e=0∧(uG vv 1 4607182418800017408 0 1 1073741824 wT).N.at_=1048576∧(uG vv 1 4607182418800017408 0 1 1073741824 wT).S.good=1∧(uG vv 1 4607182418800017408 0 1 1073741824 wT).N.rows=2:=by decide +kernel
theorem al9 (w:World) (o0 o1 o2 o3 o4 o5 o6 o7 o8:Obj):(((((((((w.alloc o0).alloc o1).alloc o2).alloc o3).alloc o4).alloc o5).alloc o6).alloc o7).alloc o8).heap[w.heap.size]? = some o0∧(((((((((w.alloc o0).alloc o1).alloc o2).alloc o3).alloc o4).alloc o5).alloc o6).alloc o7).alloc o8).heap[w.heap.size+1]? = some o1 ∧
  (((((((((w.alloc o0).alloc o1).alloc o2).alloc o3).alloc o4).alloc o5).alloc o6).alloc o7).alloc o8).heap[w.heap.size+6]? = some o6∧(((((((((w.alloc o0).alloc o1).alloc o2).alloc o3).alloc o4).alloc o5).alloc o6).alloc o7).alloc o8).heap[w.heap.size+7]? = some o7∧(((((((((w.alloc o0).alloc o1).alloc o2).alloc o3).alloc o4).alloc o5).alloc o6).alloc o7).alloc o8).heap[w.heap.size+8]? = some o8 ∧
  Below w.heap.size w (((((((((w.alloc o0).alloc o1).alloc o2).alloc o3).alloc o4).alloc o5).alloc o6).alloc o7).alloc o8)∧(((((((((w.alloc o0).alloc o1).alloc o2).alloc o3).alloc o4).alloc o5).alloc o6).alloc o7).alloc o8).heap.size=w.heap.size+9:=by
 obtain ⟨x1,x2,-,x4,x5⟩:=al3 w o0 o1 o2;generalize ((w.alloc o0).alloc o1).alloc o2=X at *;obtain ⟨-,-,-,y4,y5⟩:=al3 X o3 o4 o5;generalize ((X.alloc o3).alloc o4).alloc o5=Y at *;obtain ⟨z1,z2,z3,z4,z5⟩:=al3 Y o6 o7 o8;generalize ((Y.alloc o6).alloc o7).alloc o8=Z at *;have hz:Below X.heap.size X Z:=y5.trans (z5.mono (by omega));refine ⟨(hz.block _ (by omega)).trans x1,(hz.block _ (by omega)).trans x2,?_,?_,?_,x5.trans (hz.mono (by omega)),by omega⟩
 ·rw [show w.heap.size+6=Y.heap.size by omega]; exact z1
 ·rw [show w.heap.size+7=Y.heap.size+1 by omega]; exact z2
 ·rw [show w.heap.size+8=Y.heap.size+2 by omega]; exact z3
set_option maxRecDepth 100000
set_option maxHeartbeats 16000000
theorem ke (w:World):Calls Tryz.prog 13 #[] w (xf (.bool true) w):=by
 go_enter Tryz.func13,Tryz.ntmps13;generalize hB:w.heap.size=B at *;have AL:=al9 w (.cells #[.int .i64 0,.int .i64 0,.int .i64 0,.float .f64 0] 66) (.cells #[.int .i64 0] 3) (.cells #[.int .i64 1,.slice (some ⟨B,0,none⟩) 1 1,.slice (some ⟨B+1,0,none⟩) 1 1] 28) (.cells #[.float .f64 13844628204490326016,.float .f64 4621256167635550208] 69) (.cells #[.float .f64 4607182418800017408] 31) (.cells #[.int .i64 1,.slice (some ⟨B,0,none⟩) 1 1,.slice (some ⟨B+1,0,none⟩) 1 1,.slice (some ⟨B+1+1+1,0,none⟩) 1 1,.slice (some ⟨B+1+1+1+1,0,none⟩) 1 1,.int .i64 1073741824,.int .i64 1048576,.int .i64 1,.float .f64 4607182418800017408,.float .f64 0,.float .f64 4607182418800017408,.int .i64 9,.slice none 0 0] 33) (.cells #[.float .f64 4607182418800017408] 31) (.cells #[.float .f64 0] 31) (.cells #[.slice (some ⟨B+1+1+1+1+1+1,0,none⟩) 1 1,.slice (some ⟨B+1+1+1+1+1+1+1,0,none⟩) 1 1] 30);rw [hB] at AL;have AL:=hid AL;go_upto_region 2 with fail
 go_upto_region 3 with fail
 go_wp2_with fail;generalize ((((((((w.alloc (.cells #[.int .i64 0,.int .i64 0,.int .i64 0,.float .f64 0] 66)).alloc (.cells #[.int .i64 0] 3)).alloc (.cells #[.int .i64 1,.slice (some ⟨B,0,none⟩) 1 1,.slice (some ⟨B+1,0,none⟩) 1 1] 28)).alloc (.cells #[.float .f64 13844628204490326016,.float .f64 4621256167635550208] 69)).alloc (.cells #[.float .f64 4607182418800017408] 31)).alloc (.cells #[.int .i64 1,.slice (some ⟨B,0,none⟩) 1 1,.slice (some ⟨B+1,0,none⟩) 1 1,.slice (some ⟨B+1+1+1,0,none⟩) 1 1,.slice (some ⟨B+1+1+1+1,0,none⟩) 1 1,.int .i64 1073741824,.int .i64 1048576,.int .i64 1,.float .f64 4607182418800017408,.float .f64 0,.float .f64 4607182418800017408,.int .i64 9,.slice none 0 0] 33)).alloc (.cells #[.float .f64 4607182418800017408] 31)).alloc (.cells #[.float .f64 0] 31)).alloc (.cells #[.slice (some ⟨B+1+1+1+1+1+1,0,none⟩) 1 1,.slice (some ⟨B+1+1+1+1+1+1+1,0,none⟩) 1 1] 30)=X at *;obtain ⟨x0,x1,x6,x7,x8,hb,hs⟩:=AL.out
 have hT:yG X (.agg #[.int .i64 1,.slice (some ⟨B,0,none⟩) 1 1,.slice (some ⟨B+1,0,none⟩) 1 1]) vv:=by
  refine ⟨_,_,rfl,⟨_,_,rfl,by decide,fun _=>⟨B,0,rfl,by omega,fun i hi=>?_⟩⟩,⟨_,_,rfl,by decide,fun _=>⟨B+1,0,rfl,by omega,fun i hi=>?_⟩⟩⟩
  ·obtain rfl:i=0:=by have:i<1:=hi; omega
   exact ⟨zf x0 0,zf x0 1,zf x0 2,zf x0 3⟩
  ·obtain rfl:i=0:=by have:i<1:=hi; omega
   exact zf x1 0
 have hz:yB X (.slice (some ⟨B+1+1+1+1+1+1+1+1,0,none⟩) 2 2) (wT.q+1) (fun _=>1) wT.z:=by
  refine ⟨_,_,rfl,by decide,fun _=>⟨B+8,0,rfl,by omega,fun i hi=>?_⟩⟩;have hi2:i<2:=hi;rcases (show i=0∨i=1 by omega) with rfl | rfl
  ·refine ⟨_,zf x8 0,⟨_,_,rfl,by decide,fun _=>⟨B+6,0,rfl,by omega,fun j hj=>?_⟩⟩⟩;have hj2:j<1:=hj;obtain rfl:j=0:=by omega
   exact ⟨4607182418800017408,zf x6 0,by decide +kernel,by decide⟩
  ·refine ⟨_,zf x8 1,⟨_,_,rfl,by decide,fun _=>⟨B+7,0,rfl,by omega,fun j hj=>?_⟩⟩⟩;have hj2:j<1:=hj;obtain rfl:j=0:=by omega
   exact ⟨0,zf x7 0,by decide +kernel,by decide⟩
 clear x0 x1 x6 x7 x8 AL;have TC:=lR 1 vv _ _ (.slice (some ⟨B+1+1+1,0,none⟩) 1 1) (.slice (some ⟨B+1+1+1+1,0,none⟩) 1 1) (.slice none 0 0) _ 1073741824 1048576 1 9 4607182418800017408 0 4607182418800017408 wT X hT hz lv oe (fun _=>(by show 0<18446744073709551616; decide)) rfl (by decide) (by decide);have KT:=mn;generalize uG vv 1 4607182418800017408 0 1 1073741824 wT=R at TC KT;refine TC.mono ?_;intro e' w2 hR;obtain ⟨hbR,ra,rl,rc,na,nl,nc,y,rfl,r1,r2,r3,r4,r5⟩:=hR.shape;obtain ⟨k1,k2,k3,k4,k5,k6⟩:=KT;obtain ⟨an,cn,hsn⟩:=(r4 (by omega)).shape;simp only [Value.slice.injEq] at hsn;obtain ⟨-,hnl,-⟩:=hsn;rw [k6] at hnl;subst hnl;rw [k1,k3,k4,k5];have hy:eqB y 0=true:=by rw [← wJ,r1,k2]; decide +kernel
 have HBF:=hid (fun W (hW:Below w2.heap.size w2 W)=>(show Below B w W from hb.trans ((hbR.mono (by omega)).trans (hW.mono (by have:=hbR.size; omega)))));have HAL:=hid (al1 w2 (.cells #[.int .i64 R.S.at_,.int .i64 (tk R.S.k),.int .i64 R.S.q,.int .i64 R.S.M,.slice ra rl rc,.int .i64 1,.int .i64 R.S.fails,.int .i64 R.S.slow,.int .i64 1048576,.int .i64 R.N.st,.int .i64 R.N.q,.int .i64 R.N.M,.slice na 2 nc,.bool true,.float .f64 y,.int .i64 0] 45));clear hbR r3 r4 r5 r1 r2 hT hz TC k1 k2 k3 k4 k5 k6;go_upto_region 4 with fail
 obtain ⟨q1,q2,q3⟩:=HAL.out;obtain ⟨⟨u0,u1,u2,u3,u4,u5,u6,u7⟩,u8,u9,u10,u11,u12,u13,u14,u15⟩:=yw q1;have HF:=hid (HBF.out _ q3);clear q1 q2 q3 HAL;generalize w2.alloc (.cells #[.int .i64 R.S.at_,.int .i64 (tk R.S.k),.int .i64 R.S.q,.int .i64 R.S.M,.slice ra rl rc,.int .i64 1,.int .i64 R.S.fails,.int .i64 R.S.slow,.int .i64 1048576,.int .i64 R.N.st,.int .i64 R.N.q,.int .i64 R.N.M,.slice na 2 nc,.bool true,.float .f64 y,.int .i64 0] 45)=W at *;go_wp2_with fail;go_ret;exact ⟨rfl,by rw [hB]; exact HF.out⟩
end Go.Proofs.YtnlbafjmbamoeaaGreat
namespace Go.Proofs.YtnlbafjmbamoeaaGreat
open Go.RowKit Lib
theorem wU (a n:Int) (w:World) (h1:1≤n) (h2:n≤9223372036854775807) :
  Calls Tryz.prog 17 #[.int .i64 a,.int .i64 n] w fun e w'=>e=.returned (.int .i64 (a % n))∧w=w':=by
 have h2':=Int.emod_nonneg a (show n≠0 by omega);have h3:=Int.emod_lt_of_pos a (show 0<n by omega);have h:=tg (a:=a) h1;have H:=hid h;clear h;go_enter Tryz.func17,Tryz.ntmps17
 go_wp2
 ·go_ret;refine ⟨?_,rfl⟩;have:=H.out.1 (by assumption);exact ss (by rw [this]; unfold wrap64; omega)
 ·go_ret;refine ⟨?_,rfl⟩;exact ss (H.out.2 (by assumption))
end Go.Proofs.YtnlbafjmbamoeaaGreat
