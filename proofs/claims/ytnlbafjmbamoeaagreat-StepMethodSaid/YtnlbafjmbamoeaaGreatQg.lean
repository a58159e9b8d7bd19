/-
  Contracts (what a function tells) and plain facts that a law's proof hangs on, for every input; no condition but those in their statements. Laid together of the texts Cs, Ct, Cu, Cv, Cw, Cj.
-/
import Derived.Test.YtnlbafjmbamoeaaGreatQc
import Derived.Test.YtnlbafjmbamoeaaGreatQd
import Derived.Test.YtnlbafjmbamoeaaGreatQe
namespace Go.Proofs.YtnlbafjmbamoeaaGreat
open Go.RowKit Lib
open Ieee (double)
attribute [local go_sem] zr zi zy zn zU zS zW zX zV zY zD zH zI zJ zK zB ye z8 zF yE zN zQ
def xh (t:Int):Nat:=cop .quo (FloatKind.f64.nearest t) 4742290407621132288
def atF (z0 d:Nat→Nat) (l0:Nat) (i:Nat):Nat:=cop .add (z0 i) (cop .mul l0 (d i))
def yS (T:TD) (z0 z1:Nat→Nat) (l0 h:Nat) (d:Nat→Nat) (i:Nat):Nat:=cop .sub (cop .mul h (evR T.op (atF z0 d l0) (T.out i).toNat)) (z1 i)
theorem nZ (w v:World) (a l b:Nat):zk (zZ .add w a (zZ .mul v l b))=cop .add a (cop .mul l b):=by
 rw [z9,← zC,z9]
theorem qt (w v:World) (a h b:Nat):zk (zZ .sub w (zZ .mul v h a) b)=cop .sub (cop .mul h a) b:=by
 rw [z9,← zE,z9]
theorem vV (t:Int) (w:World):Calls Tryz.prog 69 #[.int .i64 t] w (xd (xh t) w):=by
 unfold xh;go_enter Tryz.func69,Tryz.ntmps69;go_wp2_with fail;go_ret;exact xd.of
theorem ve (t:Int) (w:World):Calls Tryz.prog 52 #[.int .i64 t] w (xd (xh t) w):=by
 unfold xh;go_enter Tryz.func52,Tryz.ntmps52;go_wp2_with fail;go_ret;exact xd.of
theorem n6:∀ k,k<43→(1:Int)≤2 ^ k∧(2:Int) ^ k≤4398046511104:=by decide
theorem mQ:∀ k,k<43→(bits BinOp.and IntKind.i64 ((2 ^ k:Nat):Int) (((2 ^ k:Nat):Int)-1)==0)=true:=by decide
set_option maxRecDepth 100000
theorem oJ (k:Nat) (hk:k<43) (w:World):Calls Tryz.prog 104 #[.int .i64 ((2 ^ k:Nat):Int),.int .i64 4398046511104] w (xf (.bool true) w):=by
 obtain ⟨h1,h2⟩:=n6 k hk;have h3:=mQ k hk;go_enter Tryz.func104,Tryz.ntmps104;generalize hp:((2 ^ k:Nat):Int)=p at *;have h1':1≤p:=by rw [← hp]; simpa using h1
 have h2':p≤4398046511104:=by rw [← hp]; simpa using h2
 clear h1 h2;go_wp2_with fail;go_ret;exact ⟨rfl,Below.refl _ _⟩
theorem wI (k:Nat) (hk:k<43) (w:World):Calls Tryz.prog 65 #[.int .i64 ((2 ^ k:Nat):Int)] w (xf (.bool true) w):=by
 have P:=hid (oJ k hk w);go_enter Tryz.func65,Tryz.ntmps65;generalize ((2 ^ k:Nat):Int)=p at *;go_wp2_with fail;refine P.out.mono ?_;rintro e w1 ⟨rfl,hb⟩;go_wp2_with fail;go_ret;exact ⟨rfl,hb⟩
set_option maxHeartbeats 16000000
theorem sN (va vb:Value) (n:Nat) (hn2:n≤1000) (f g:Nat→Nat) (w:World) (ha:zT w va n f) (hb:zT w vb n g) :
  Calls Tryz.prog 107 #[va,vb] w (nP n (fun i=>cop .sub (f i) (g i)) w):=by
 obtain ⟨pa,ca,rfl,hn,har⟩:=ha;obtain ⟨pb,cb,rfl,-,hbr⟩:=hb;obtain ⟨iF,hF,f1,f2,f3⟩:=info_parts xu;have HF:=hid (show iF.zero=_∧iF.size=_∧iF.bytes=_ from ⟨f1,f2,f3⟩);have HF0:=hid hF;have HAR:=hid har;have HBR:=hid hbr;clear har hbr hF f1 f2 f3;go_enter Tryz.func107,Tryz.ntmps107;generalize hB:w.heap.size=B at *
 go_wp2_with (first
  | (refine wpList_make_full _ rfl _ _ _ rfl B 31 iF (.float .f64 0) 1 Tryz.underlying30 HF0.out HF.out.1 HF.out.2.1 .i64 .i64 (n:Int) (n:Int) n rfl rfl rfl rfl (by rw [HF.out.2.2]; omega) (by unfold maxLen; omega) (by omega) ?_)
  | fail)
 intro w2 hr1 hg1;have hb2:Below B w w2:=(Below.refl _ w).grown hg1 (by omega) (fun k hk=>by cases hk);have HO:=hid (yI hr1);clear hr1 hg1;go_wp2_with fail
 go_loopw [12] (fun i wr=>∃ (d:Nat) (h:Nat→Nat),d≤n∧i=.int .i64 d∧yd wr B B n n h∧(∀ k,k<d→h k=cop .sub (f k) (g k))∧Below B w wr) (fun i _=>n-(intOf i).toNat)
 case atStart=>exact ⟨0,_,by omega,rfl,HO.out,fun k hk=>by omega,hb2⟩
 case round=>
  clear HO hb2;obtain ⟨d,h,hd,rfl,ho,hh,hbl⟩:=hrel;by_cases hdn:d<n
  ·obtain ⟨b1,o1,rfl,hs1,hc1⟩:=HAR.out (by omega);obtain ⟨b2,o2,rfl,hs2,hc2⟩:=HBR.out (by omega);obtain ⟨y,y1,y2,y3⟩:=hc1 d hdn;obtain ⟨z,z1,z2,z3⟩:=hc2 d hdn;rw [← hbl.cell (p:=⟨b1,o1+d,none⟩) hs1] at y1;rw [← hbl.cell (p:=⟨b2,o2+d,none⟩) hs2] at z1;obtain ⟨u,u1,-,-⟩:=ho.cell hdn;have r1:=ho.free d;have K1:=hid (fun w=>(show zk (zZ .sub w y z)=cop .sub (f d) (g d) by rw [z9,← y2,← z2,zE,zC]));have HO:=hid ho;have HH:=hid hh;have HBL:=hid hbl;have hd1:(d:Int)<(n:Int):=by omega
   clear hc1 hc2 y2 z2 ho hh hbl;go_wp2_with fail;refine zw [(0,1),(1,1),(2,1),(3,1),(4,1),(5,2),(6,1),(7,1),(8,1),(9,2),(10,0),(11,1),(12,0)] (by kernel_rfl) (by kernel_rfl) (fun _ _ d _ _ h=>by cases d<;>exact h) ?_;intro Z hZ;have hz:∀ b o,Z.cell? ⟨b,o,none⟩=wr.cell? ⟨b,o,none⟩:=fun b o=>by rw [hZ]; rfl
   have hz2:∀ b o,Z.frozen? ⟨b,o,none⟩=wr.frozen? ⟨b,o,none⟩:=fun b o=>by rw [hZ]; rfl
   have HZ:=hid (show yd Z B B n n h∧Below B w Z by rw [hZ]; exact ⟨HO.out.drew,HBL.out.drew⟩);rw [← hz] at y1 z1 u1;rw [← hz2] at r1;clear hZ hz hz2 HO HBL
   iterate 10
    first
     | refine zd (fun K hK=>?_)
     | refine ze (fun K hK=>?_)
    go_simp;refine hK _ ?_;clear hK K
   refine zx (fun K hK=>?_);go_simp;refine hK _ _ (fun _=>⟨_,rfl⟩) ?_;clear hK K
   iterate 1
    first
     | refine zd (fun K hK=>?_)
     | refine ze (fun K hK=>?_)
    go_simp;refine hK _ ?_;clear hK K
   refine zx (fun K hK=>?_);go_simp;refine hK _ _ (fun h=>Bool.noConfusion (Eq.trans (Eq.symm (by kernel_rfl:_=false)) h)) ?_;clear hK K;refine zo ?_;have REL:=hid (show yd _ B B n n (yy h d (cop .sub (f d) (g d)))∧Below B w _ from ⟨(HZ.out.1.set hdn (K1.out Z) (yi _ _ _ _)).drewN (zP .sub y z),below_drewN (HZ.out.2.setCell (p:=⟨B,d,none⟩) (Nat.le_refl _) (.float .f64 (zZ .sub Z y z))) (zP .sub y z)⟩);go_wp2_with fail
   go_roundw
   case rel=>exact ⟨d+1,_,by omega,by go_num,REL.out.1,fun k hk=>by
    by_cases hkd:k=d
    ·subst hkd; rw [zL]
    ·rw [zG _ _ hkd]; exact HH.out k (by omega),REL.out.2⟩
   case measure=>simp [intOf]; omega
  ·obtain rfl:n=d:=by omega
   go_wp2_with fail;go_ret;exact ⟨_,rfl,by rw [hB]; exact ho.congr hh,by rw [hB]; exact hbl⟩
theorem qu (va:Value) (n:Nat) (f:Nat→Nat) (w:World) (ha:zT w va n f) :
  Calls Tryz.prog 74 #[va] w (xf (.bool (wa n fun i=>xi (f i))) w):=by
 obtain ⟨pa,ca,rfl,hn,har⟩:=ha;have HAR:=hid har;clear har;go_enter Tryz.func74,Tryz.ntmps74;go_wp2_with fail
 go_loopw [7] (fun i wr=>∃ d:Nat,d≤n∧i=.int .i64 d∧wa d (fun i=>xi (f i))=true∧Below w.heap.size w wr) (fun i _=>n-(intOf i).toNat)
 case atStart=>exact ⟨0,by omega,rfl,rfl,Below.refl _ _⟩
 case round=>
  obtain ⟨d,hd,rfl,hh,hbl⟩:=hrel;by_cases hdn:d<n
  ·obtain ⟨b1,o1,rfl,hs1,hc1⟩:=HAR.out (by omega);obtain ⟨y,y1,y2,y3⟩:=hc1 d hdn;rw [← hbl.cell (p:=⟨b1,o1+d,none⟩) hs1] at y1;have HH:=hid hh;have HBL:=hid hbl;have HY:=hid (show xi y=xi (f d) by rw [← y2,wQ]);have hd1:(d:Int)<(n:Int):=by omega
   clear hc1 y2 hh hbl;go_wp2_with fail;refine (vS y _).mono ?_;rintro e w1 ⟨rfl,hb1⟩;have HB1:=hid (HBL.out.trans (hb1.mono HBL.out.size));clear hb1
   cases hf:xi y with
   | true=>
    have h2:wa (d+1) (fun i=>xi (f i))=true:=by rw [wa,HH.out,← HY.out,hf]; rfl
    have H2:=hid h2;clear h2;go_wp2_with fail
    go_roundw
    case rel=>exact ⟨d+1,by omega,by go_num,H2.out,HB1.out⟩
    case measure=>simp [intOf]; omega
   | false=>
    have h2:wa n (fun i=>xi (f i))=false:=tr hdn (by rw [← HY.out]; exact hf);have H2:=hid h2;clear h2;go_wp2_with fail;go_ret;exact ⟨yX H2.out.symm,HB1.out⟩
  ·obtain rfl:n=d:=by omega
   have HH:=hid hh;clear hh;go_wp2_with fail;go_ret;exact ⟨yX HH.out.symm,hbl⟩
theorem uX (v:Value) (m n:Nat) (z:Nat→Nat→Nat) (w:World) (h:yB w v m (fun _=>n) z) :
  Calls Tryz.prog 64 #[v,.int .i64 n] w (xf (.bool true) w):=by
 obtain ⟨a,cap,rfl,hn,hc⟩:=h;have HC:=hid hc;clear hc;go_enter Tryz.func64,Tryz.ntmps64;go_wp2_with fail
 go_loop [9] (fun i=>∃ d:Nat,d≤m∧i=.int .i64 d) (fun i=>m-(intOf i).toNat)
 case atStart=>exact ⟨0,by omega,rfl⟩
 case round=>
  obtain ⟨d,hd,rfl⟩:=hrel;by_cases hdn:d<m
  ·obtain ⟨b,off,rfl,hbs,hr⟩:=HC.out (by omega);obtain ⟨u,hu,a2,cap2,rfl,hu2,-⟩:=hr d hdn;have hne:((n:Int) != n)=false:=by simp
   have hd1:(d:Int)<(m:Int):=by omega
   clear hr;go_wp2_with fail
   go_round
   case rel=>exact ⟨d+1,by omega,by go_num⟩
   case measure=>simp [intOf]; omega
  ·go_wp2_with fail;go_ret;exact ⟨rfl,Below.refl _ _⟩
theorem qv (w v:World) {y l u a b c:Nat} (h1:zk y=a) (h2:zk l=b) (h3:zk u=c):zk (zZ .add w y (zZ .mul v l u))=cop .add a (cop .mul b c):=by
 subst h1 h2 h3;rw [nZ];simp only [zE,zC]
theorem rW (w v:World) {y l u a b:Nat} (h1:zk y=a) (h3:zk u=b):zk (zZ .sub w (zZ .mul v l y) u)=cop .sub (cop .mul l a) b:=by
 subst h1 h3;rw [qt];simp only [zC]
structure xT (w:World) (n:Nat) (T:TD) (vo vu vz vl vw:Value) (m:Nat) (z:Nat→Nat→Nat) (l wt:Nat→Nat):Prop where
 tape:yG w (.agg #[.int .i64 n,vo,vu]) T
 tab:yB w vz m (fun _=>n) z
 lrow:zT w vl m l
 wrow:zT w vw n wt
theorem xT.below {w w':World} {n:Nat} {T:TD} {vo vu vz vl vw:Value} {m:Nat} {z:Nat→Nat→Nat} {l wt:Nat→Nat} (h:xT w n T vo vu vz vl vw m z l wt) (hb:Below w.heap.size w w'):xT w' n T vo vu vz vl vw m z l wt:=
 ⟨h.tape.below hb,h.tab.below hb,h.lrow.below hb,h.wrow.below hb⟩
def WK (b n:Nat) (vo vu vz vl vw:Value) (h:Nat) (p1 p2:Value) (w:World):Prop:=w.heap[b]? = some (.cells #[.int .i64 n,vo,vu,vz,vl,vw,.float .f64 h,p1,p2] 115)
theorem WK.below {b n:Nat} {vo vu vz vl vw:Value} {h:Nat} {p1 p2:Value} {w w':World} (k:WK b n vo vu vz vl vw h p1 p2 w) (hb:Below w.heap.size w w'):WK b n vo vu vz vl vw h p1 p2 w':=(hb.block b (zj k)).trans k
theorem WK.cells {b n:Nat} {vo vu vz vl vw:Value} {h:Nat} {p1 p2:Value} {w:World} (k:WK b n vo vu vz vl vw h p1 p2 w) :
  w.cell? ⟨b,0,none⟩=some (.int .i64 n)∧w.cell? ⟨b,1,none⟩=some vo∧w.cell? ⟨b,2,none⟩=some vu∧w.cell? ⟨b,3,none⟩=some vz∧w.cell? ⟨b,4,none⟩=some vl∧w.cell? ⟨b,5,none⟩=some vw∧w.cell? ⟨b,6,none⟩=some (.float .f64 h)∧w.cell? ⟨b,7,none⟩=some p1∧w.cell? ⟨b,8,none⟩=some p2∧b<w.heap.size:=by
 refine ⟨?_,?_,?_,?_,?_,?_,?_,?_,?_,zj k⟩<;>(rw [zf k]; rfl)
theorem yB.rowAt {w:World} {v:Value} {m n:Nat} {z:Nat→Nat→Nat} (h:yB w v m (fun _=>n) z) (h0:0<m):∃ b off cap,v=.slice (some ⟨b,off,none⟩) m cap∧b<w.heap.size∧∀ i,i<m→∃ p c,w.cell? ⟨b,off+i,none⟩=some (.slice p n c)∧zT w (.slice p n c) n (z i):=by
 obtain ⟨a,cap,rfl,hn,hc⟩:=h;obtain ⟨b,off,rfl,hb,hr⟩:=hc h0;refine ⟨b,off,cap,rfl,hb,fun i hi=>?_⟩;obtain ⟨u,hu,p,c,rfl,h2,h3⟩:=hr i hi;exact ⟨p,c,hu,_,c,rfl,h2,h3⟩
theorem zT.numAt {w:World} {v:Value} {n:Nat} {f:Nat→Nat} (h:zT w v n f) (h0:0<n):∃ b off cap,v=.slice (some ⟨b,off,none⟩) n cap∧b<w.heap.size∧∀ i,i<n→wq w b (off+i) (f i):=by
 obtain ⟨a,cap,rfl,hn,hc⟩:=h;obtain ⟨b,off,rfl,hb,hr⟩:=hc h0;exact ⟨b,off,cap,rfl,hb,hr⟩
theorem t8 (n:Nat) (T:TD) (vo vu vz vl vw vd p1 p2:Value) (m:Nat) (z:Nat→Nat→Nat) (l wt d:Nat→Nat) (h b:Nat) (w:World) (hx:xT w n T vo vu vz vl vw m z l wt) (hw:WK b n vo vu vz vl vw h p1 p2 w) (hd:zT w vd n d)
  (hck:yq T=true) (hcs:∀ i,i<T.len→(T.op i).c<18446744073709551616) (hn:T.n=n) (h1:1≤n) (h4:n≤4) (hm:2≤m) :
  Calls Tryz.prog 106 #[.pointer (some ⟨b,0,none⟩),vd] w (nP n (yS T (z 0) (z 1) (l 0) h d) w):=by
 obtain ⟨bz,oz,cz,rfl,hbz,hz⟩:=hx.tab.rowAt (by omega);obtain ⟨pz0,cz0,z0,hz0⟩:=hz 0 (by omega);obtain ⟨pz1,cz1,z1,hz1⟩:=hz 1 (by omega);obtain ⟨b0,o0,c0,hv0,hb0,hr0⟩:=hz0.numAt (by omega);obtain ⟨b1,o1,c1,hv1,hb1,hr1⟩:=hz1.numAt (by omega);simp only [Value.slice.injEq,true_and] at hv0 hv1;obtain ⟨rfl,rfl⟩:=hv0;obtain ⟨rfl,rfl⟩:=hv1;obtain ⟨bl,ol,cl,rfl,hbl',hl⟩:=hx.lrow.numAt (by omega);obtain ⟨y0,ly1,ly2,ly3⟩:=hl 0 (by omega);obtain ⟨bd,od,cd,rfl,hbd,hdr⟩:=hd.numAt (by omega);rw [Nat.add_zero] at z0 ly1;have EV:=hid (fun (W:World) (vy:Value) (hb:Below w.heap.size w W) hy=>qV T (.agg #[.int .i64 n,vo,vu]) vy (atF (z 0) d (l 0)) W (hx.tape.below hb) hck hcs n hn hy);have HR0:=hid hr0;have HR1:=hid hr1;have HDR:=hid hdr;have HW:=hid hw;obtain ⟨iF,hF,f1,f2,f3⟩:=info_parts xu;have HF:=hid (show iF.zero=_∧iF.size=_∧iF.bytes=_ from ⟨f1,f2,f3⟩);have HF0:=hid hF;have hm0:0<m:=by omega
 have hm1:(1:Int)<(m:Int):=by omega
 clear hx hw hd hck hcs hz hz0 hz1 hr0 hr1 hl hdr hF f1 f2 f3;go_enter Tryz.func106,Tryz.ntmps106;generalize hB:w.heap.size=B at *
 go_wp2_with (first
  | (refine wpList_make_full _ rfl _ _ _ rfl B 31 iF (.float .f64 0) 1 Tryz.underlying30 HF0.out HF.out.1 HF.out.2.1 .i64 .i64 (n:Int) (n:Int) n rfl rfl rfl rfl (by rw [HF.out.2.2]; omega) (by unfold maxLen; omega) (by omega) ?_)
  | fail)
 intro w2 hr1 hg1;have hb2:Below B w w2:=(Below.refl _ w).grown hg1 (by omega) (fun k hk=>by cases hk);have HO:=hid (yI hr1);clear hr1 hg1;go_upto_region 2 with fail
 go_upto_block 0 with fail
 go_cut [] (fun wx=>yd wx B B n n (atF (z 0) d (l 0))∧Below B w wx)
 case first=>
  go_wp2_with fail
  go_loopw [14] (fun i wr=>∃ (e:Nat) (q:Nat→Nat),e≤n∧i=.int .i64 e∧yd wr B B n n q∧(∀ k,k<e→q k=atF (z 0) d (l 0) k)∧Below B w wr) (fun i _=>n-(intOf i).toNat)
  case atStart=>exact ⟨0,_,by omega,rfl,HO.out,fun k hk=>by omega,hb2⟩
  case round=>
   clear HO hb2;obtain ⟨e,q,he,rfl,ho,hh,hbl⟩:=hrel;by_cases hen:e<n
   ·obtain ⟨y,y1,y2,y3⟩:=HR0.out e hen;obtain ⟨u,u1,u2,u3⟩:=HDR.out e hen;rw [← hbl.cell (p:=⟨b0,o0+e,none⟩) hb0] at y1;rw [← hbl.cell (p:=⟨bd,od+e,none⟩) hbd] at u1;have lz0:=(hbl.cell (p:=⟨bz,oz,none⟩) hbz).trans z0;have ll:=(hbl.cell (p:=⟨bl,ol,none⟩) hbl').trans ly1;obtain ⟨w0,w1,w2',w3,w4,w5,w6,w7,w8,w9⟩:=(HW.out.below (hB ▸ hbl)).cells;obtain ⟨v,v1,-,-⟩:=ho.cell hen;have r1:=ho.free e;have K1:=hid (fun w v=>qv w v y2 ly2 u2);have HO:=hid ho;have HH:=hid hh;have HBL:=hid hbl;have e1:(e:Int)<(n:Int):=by omega
    clear y2 u2 ho hh hbl w0 w1 w2' w5 w6 w7 w8;go_wp2_with fail;refine zw [(0,1),(1,1),(2,1),(3,1),(4,1),(5,2),(6,1),(7,2),(8,1),(9,1),(10,2),(11,1),(12,1),(13,1),(14,2),(15,1),(16,2),(17,1),(18,1),(19,1),(20,2),(21,0),(22,0),(23,1),(24,0)] (by kernel_rfl) (by kernel_rfl) (fun _ _ d _ _ h=>by cases d<;>exact h) ?_;intro Z hZ;have hz:∀ b o,Z.cell? ⟨b,o,none⟩=wr.cell? ⟨b,o,none⟩:=fun b o=>by rw [hZ]; rfl
    have hz2:∀ b o,Z.frozen? ⟨b,o,none⟩=wr.frozen? ⟨b,o,none⟩:=fun b o=>by rw [hZ]; rfl
    have HZ:=hid (show yd Z B B n n q∧Below B w Z by rw [hZ]; exact ⟨HO.out.drew,HBL.out.drew⟩);rw [← hz] at y1 u1 lz0 ll w3 w4 v1;rw [← hz2] at r1;clear hZ hz hz2 HO HBL
    iterate 21
     first
      | refine zd (fun K hK=>?_)
      | refine ze (fun K hK=>?_)
     go_simp;refine hK _ ?_;clear hK K
    refine zx (fun K hK=>?_);go_simp;refine hK _ _ (fun _=>⟨_,rfl⟩) ?_;clear hK K;refine zx (fun K hK=>?_);go_simp;refine hK _ _ (fun _=>⟨_,rfl⟩) ?_;clear hK K
    iterate 1
     first
      | refine zd (fun K hK=>?_)
      | refine ze (fun K hK=>?_)
     go_simp;refine hK _ ?_;clear hK K
    refine zx (fun K hK=>?_);go_simp;refine hK _ _ (fun h=>Bool.noConfusion (Eq.trans (Eq.symm (by kernel_rfl:_=false)) h)) ?_;clear hK K;refine zo ?_;have REL:=hid (show yd _ B B n n (yy q e (atF (z 0) d (l 0) e))∧Below B w _ from ⟨(HZ.out.1.set hen (K1.out (Z.drewN (zP .mul y0 u)) Z) (yi _ _ _ _)).drewN (zP .mul y0 u+zP .add y (zZ .mul Z y0 u)),below_drewN (HZ.out.2.setCell (p:=⟨B,e,none⟩) (Nat.le_refl _) (.float .f64 (zZ .add (Z.drewN (zP .mul y0 u)) y (zZ .mul Z y0 u)))) (zP .mul y0 u+zP .add y (zZ .mul Z y0 u))⟩);go_wp2_with fail
    go_roundw
    case rel=>exact ⟨e+1,_,by omega,by go_num,REL.out.1,fun k hk=>by
     by_cases hkd:k=e
     ·subst hkd; rw [zL]
     ·rw [zG _ _ hkd]; exact HH.out k (by omega),REL.out.2⟩
    case measure=>simp [intOf]; omega
   ·obtain rfl:n=e:=by omega
    go_wp2_with fail;go_meet;exact ⟨ho.congr hh,hbl⟩
 case rest=>
  obtain ⟨ho,hbl⟩:=hcut;have HO:=hid ho;have HBL:=hid hbl;obtain ⟨w0,w1,w2',w3,w4,w5,w6,w7,w8,w9⟩:=(HW.out.below (hB ▸ hbl)).cells;clear ho hbl w3 w4 w5 w6 w7 w8 hb2;go_wp2_with fail;refine (EV.out wc _ HBL.out (HO.out.flts (by omega))).mono ?_;rintro e w3 ⟨R,rfl,hg,hb3⟩;have hsz:=HBL.out.size;have HG:=hid (hg.base (b':=B) (by have:=hg.lt; omega));have HB3:=hid (HBL.out.trans (hb3.mono (by omega)));have hRB:B≤R:=by have:=hg.lt; omega
  clear hg hb3 w0 w1 w2';go_wp2_with fail
  go_loopw [50] (fun i wr=>∃ (e:Nat) (q:Nat→Nat),e≤n∧i=.int .i64 e∧yd wr B R n n q∧(∀ k,k<e→q k=yS T (z 0) (z 1) (l 0) h d k)∧(∀ k,e≤k→q k=evR T.op (atF (z 0) d (l 0)) (T.out k).toNat)∧Below B w wr) (fun i _=>n-(intOf i).toNat)
  case atStart=>exact ⟨0,_,by omega,rfl,HG.out,fun k hk=>by omega,fun k hk=>rfl,HB3.out⟩
  case round=>
   clear HG HB3;obtain ⟨e,q,he,rfl,ho,hh,hh2,hbl⟩:=hrel;by_cases hen:e<n
   ·obtain ⟨u,u1,u2,u3⟩:=HR1.out e hen;rw [← hbl.cell (p:=⟨b1,o1+e,none⟩) hb1] at u1;have lz1:=(hbl.cell (p:=⟨bz,oz+1,none⟩) hbz).trans z1;obtain ⟨w0,w1,w2',w3,w4,w5,w6,w7,w8,w9⟩:=(HW.out.below (hB ▸ hbl)).cells;obtain ⟨v,v1,v2,-⟩:=ho.cell hen;rw [hh2 e (by omega)] at v2;have r1:=ho.free e;have K1:=hid (fun w v=>rW w v (l:=h) v2 u2);have HO:=hid ho;have HH:=hid hh;have HH2:=hid hh2;have HBL:=hid hbl;have e1:(e:Int)<(n:Int):=by omega
    clear v2 u2 ho hh hh2 hbl w0 w1 w2' w4 w5 w7 w8;go_wp2_with fail;refine zw [(0,1),(1,1),(2,1),(3,1),(4,1),(5,2),(6,1),(7,1),(8,1),(9,2),(11,1),(12,1),(13,1),(14,2),(15,1),(16,2),(17,1),(18,1),(19,2),(10,0),(20,0),(21,1),(22,0)] (by kernel_rfl) (by kernel_rfl) (fun _ _ d _ _ h=>by cases d<;>exact h) ?_;intro Z hZ;have hz:∀ b o,Z.cell? ⟨b,o,none⟩=wr.cell? ⟨b,o,none⟩:=fun b o=>by rw [hZ]; rfl
    have hz2:∀ b o,Z.frozen? ⟨b,o,none⟩=wr.frozen? ⟨b,o,none⟩:=fun b o=>by rw [hZ]; rfl
    have HZ:=hid (show yd Z B R n n q∧Below B w Z by rw [hZ]; exact ⟨HO.out.drew,HBL.out.drew⟩);rw [← hz] at u1 lz1 w3 w6 v1;rw [← hz2] at r1;clear hZ hz hz2 HO HBL
    iterate 19
     first
      | refine zd (fun K hK=>?_)
      | refine ze (fun K hK=>?_)
     go_simp;refine hK _ ?_;clear hK K
    refine zx (fun K hK=>?_);go_simp;refine hK _ _ (fun _=>⟨_,rfl⟩) ?_;clear hK K;refine zx (fun K hK=>?_);go_simp;refine hK _ _ (fun _=>⟨_,rfl⟩) ?_;clear hK K
    iterate 1
     first
      | refine zd (fun K hK=>?_)
      | refine ze (fun K hK=>?_)
     go_simp;refine hK _ ?_;clear hK K
    refine zx (fun K hK=>?_);go_simp;refine hK _ _ (fun h=>Bool.noConfusion (Eq.trans (Eq.symm (by kernel_rfl:_=false)) h)) ?_;clear hK K;refine zo ?_;have REL:=hid (show yd _ B R n n (yy q e (yS T (z 0) (z 1) (l 0) h d e))∧Below B w _ from ⟨(HZ.out.1.set hen (K1.out (Z.drewN (zP .mul h v)) Z) (yi _ _ _ _)).drewN (zP .mul h v+zP .sub (zZ .mul Z h v) u),below_drewN (HZ.out.2.setCell (p:=⟨R,e,none⟩) hRB (.float .f64 (zZ .sub (Z.drewN (zP .mul h v)) (zZ .mul Z h v) u))) (zP .mul h v+zP .sub (zZ .mul Z h v) u)⟩);go_wp2_with fail
    go_roundw
    case rel=>exact ⟨e+1,_,by omega,by go_num,REL.out.1,fun k hk=>by
     by_cases hkd:k=e
     ·subst hkd; rw [zL]
     ·rw [zG _ _ hkd]; exact HH.out k (by omega),fun k hk=>by rw [zG _ _ (by omega)]; exact HH2.out k (by omega),REL.out.2⟩
    case measure=>simp [intOf]; omega
   ·obtain rfl:n=e:=by omega
    go_wp2_with fail;go_ret;exact ⟨_,rfl,by rw [hB]; exact ho.congr hh,by rw [hB]; exact hbl⟩
theorem vL (x y:Nat):leB (zk x) (zk y)=leB x y:=by rw [← zV,← zV,tL,wJ]
def mR (n:Nat) (g:Nat→Nat) (far:Nat) (w:World) (e:Ending) (w':World):Prop:=
 ∃ R y,e=.returned (.tuple #[.slice (some ⟨R,0,none⟩) n n,.float .f64 y])∧yd w' w.heap.size R n n g∧zk y=far∧y<18446744073709551616∧Below w.heap.size w w'
def yW (T:TD) (z0 z1 wt:Nat→Nat) (l0 h n:Nat) (d:Nat→Nat):(Nat→Nat) × Nat:=(yS T z0 z1 l0 h d,xk (byW (fun i=>cop .sub (yS T z0 z1 l0 h d i) (d i)) wt) n)
def wy (T:TD) (z0 z1 wt:Nat→Nat) (l0 h n:Nat) (g:Nat→Nat→Nat) (q:Nat→Nat) (d:Nat→Nat):(Nat→Nat) × Nat:=
 let x:=uh g n (fun i=>(fun i=>cop .sub (yS T z0 z1 l0 h d i) (d i)) (q i))
 (fun i=>cop .add (d i) (x i),xk (byW x wt) n)
theorem pm (n:Nat) (T:TD) (vo vu vz vl vw vd p1 p2:Value) (m:Nat) (z:Nat→Nat→Nat) (l wt d:Nat→Nat) (h b:Nat) (w:World) (hx:xT w n T vo vu vz vl vw m z l wt) (hw:WK b n vo vu vz vl vw h p1 p2 w) (hd:zT w vd n d)
  (hck:yq T=true) (hcs:∀ i,i<T.len→(T.op i).c<18446744073709551616) (hn:T.n=n) (h1:1≤n) (h4:n≤4) (hm:2≤m) :
  Calls Tryz.prog 71 #[.pointer (some ⟨b,0,none⟩),vd] w (mR n (yW T (z 0) (z 1) wt (l 0) h n d).1 (yW T (z 0) (z 1) wt (l 0) h n d).2 w):=by
 unfold yW;have SL:=hid (t8 n T vo vu vz vl vw vd p1 p2 m z l wt d h b w hx hw hd hck hcs hn h1 h4 hm);have HX:=hid hx;have HW:=hid hw;have HD:=hid hd;obtain ⟨bd,od,cd,rfl,-,-⟩:=hd.numAt (by omega);clear hx hw hck hcs hd;go_enter Tryz.func71,Tryz.ntmps71;go_wp2_with fail;refine SL.out.mono ?_;rintro e w1 ⟨R,rfl,hg,hb1⟩;have HG:=hid hg;have HB1:=hid hb1;obtain ⟨w0,w1',w2',w3,w4,w5,w6,w7,w8,w9⟩:=(HW.out.below hb1).cells;clear hg hb1 w0 w1' w2' w3 w4 w6 w7 w8 SL;go_wp2_with fail;refine zv [(0,1),(1,1),(2,1),(4,1),(5,1),(6,1),(7,3),(3,0),(8,0),(9,1),(10,1)] (fun W=>Below w1.heap.size w1 W) (by kernel_rfl) (by kernel_rfl) (fun _ _ d _ _ h=>by cases d<;>exact h) ((Below.refl _ _).drew) ?_;intro Z hZ hbZ;clear hZ
 iterate 6
  first
   | refine zd (fun K hK=>?_)
   | refine ze (fun K hK=>?_)
  go_simp;refine hK _ ?_;clear hK K
 refine zh (v:=vw) rfl rfl (fun wk hwk=>?_) ?_
 ·rw [← (zA hwk).1 _ _ w9] at w5;go_simp
 refine zm (fun K hK=>?_);go_simp;refine (sN _ _ n (by omega) (yS T (z 0) (z 1) (l 0) h d) d Z ((HG.out.below hbZ HG.out.lt.2).flts (by omega)) ((HD.out.below HB1.out).below hbZ)).mono ?_;rintro e w2 ⟨R2,rfl,hg2,hb2⟩;have hbA:=hbZ.trans (hb2.mono hbZ.size);refine hK _ _ (fun h=>Bool.noConfusion (Eq.trans (Eq.symm (by kernel_rfl:_=false)) h)) (fun _=>hbA) ?_;clear hK K;refine zm (fun K hK=>?_);go_simp;refine (uW _ _ n (fun i=>cop .sub (yS T (z 0) (z 1) (l 0) h d i) (d i)) wt w2 (hg2.flts (by omega)) ((HX.out.wrow.below HB1.out).below hbA)).mono ?_;rintro e w3 ⟨⟨y,rfl,y1,y2⟩,hb3⟩;have hbB:=hbA.trans (hb3.mono hbA.size);refine hK _ _ (fun h=>Bool.noConfusion (Eq.trans (Eq.symm (by kernel_rfl:_=false)) h)) (fun _=>hbB) ?_;clear hK K
 iterate 2
  first
   | refine zd (fun K hK=>?_)
   | refine ze (fun K hK=>?_)
  go_simp;refine hK _ ?_;clear hK K
 refine zo ?_;have HR:=hid (show yd w3 w.heap.size R n n _∧Below w.heap.size w w3 from ⟨HG.out.below hbB HG.out.lt.2,HB1.out.trans (hbB.mono HB1.out.size)⟩);clear hbZ hg2 hb2 hbA hb3 hbB w5;go_wp2_with fail
 go_ret2
 exact ⟨R,y,rfl,HR.out.1,y1,y2,HR.out.2⟩
theorem n7 (n:Nat) (T:TD) (vo vu vz vl vw vd p1 p2:Value) (m:Nat) (z:Nat→Nat→Nat) (l wt d:Nat→Nat) (h b:Nat) (g:Nat→Nat→Nat) (q:Nat→Nat) (w:World) (hx:xT w n T vo vu vz vl vw m z l wt) (hw:WK b n vo vu vz vl vw h p1 p2 w) (hd:zT w vd n d)
  (hp1:yB w p1 n (fun _=>n) g) (hp2:tX w p2 n (fun i=>(q i:Int))) (hq:∀ i,i<n→q i<n)
  (hck:yq T=true) (hcs:∀ i,i<T.len→(T.op i).c<18446744073709551616) (hn:T.n=n) (h1:1≤n) (h4:n≤4) (hm:2≤m) :
  Calls Tryz.prog 73 #[.pointer (some ⟨b,0,none⟩),vd] w (mR n (wy T (z 0) (z 1) wt (l 0) h n g q d).1 (wy T (z 0) (z 1) wt (l 0) h n g q d).2 w):=by
 unfold wy;have SL:=hid (fun W (hb:Below w.heap.size w W)=>t8 n T vo vu vz vl vw vd p1 p2 m z l wt d h b W (hx.below hb) (hw.below hb) (hd.below hb) hck hcs hn h1 h4 hm);have SV:=hid (fun W (vb:Value) (bb:Nat→Nat) (hb:Below w.heap.size w W) hB=>pk n p1 p2 vb g q bb W (hp1.below hb) (hp2.below hb) hB hq h1 (by omega));have HX:=hid hx;have HW:=hid hw;have HD:=hid hd;obtain ⟨bd,od,cd,rfl,hbd,hdr⟩:=hd.numAt (by omega);obtain ⟨pa1,pc1,rfl,-,-⟩:=hp1;obtain ⟨pa2,pc2,rfl,-,-⟩:=hp2;have HDR:=hid hdr;obtain ⟨iF,hF,f1,f2,f3⟩:=info_parts xu;have HF:=hid (show iF.zero=_∧iF.size=_∧iF.bytes=_ from ⟨f1,f2,f3⟩);have HF0:=hid hF;obtain ⟨w0,w1',w2',w3,w4,w5,w6,w7,w8,w9⟩:=hw.cells;clear hx hw hck hcs hd hdr hq hF f1 f2 f3 w0 w1' w2' w3 w4 w5 w6;go_enter Tryz.func73,Tryz.ntmps73;go_wp2_with fail;refine zv [(0,1),(1,1),(2,1),(3,3),(4,1),(5,1),(7,1),(6,0),(8,0),(9,0),(10,1)] (fun W=>Below w.heap.size w W) (by kernel_rfl) (by kernel_rfl) (fun _ _ d _ _ h=>by cases d<;>exact h) ((Below.refl _ _).drew) ?_;intro Z hZ hbZ;clear hZ
 iterate 3
  first
   | refine zd (fun K hK=>?_)
   | refine ze (fun K hK=>?_)
  go_simp;refine hK _ ?_;clear hK K
 refine zh (v:=.agg #[.slice pa1 n pc1,.slice pa2 n pc2]) rfl rfl (fun wk hwk=>?_) ?_
 ·rw [← (zA hwk).1 _ _ w9] at w7 w8;go_simp
 iterate 3
  first
   | refine zd (fun K hK=>?_)
   | refine ze (fun K hK=>?_)
  go_simp;refine hK _ ?_;clear hK K
 refine zm (fun K hK=>?_);go_simp;refine (SL.out Z hbZ).mono ?_;rintro e w1 ⟨R1,rfl,hg1,hb1⟩;have hbA:=hbZ.trans (hb1.mono hbZ.size);refine hK _ _ (fun h=>Bool.noConfusion (Eq.trans (Eq.symm (by kernel_rfl:_=false)) h)) (fun _=>hbA) ?_;clear hK K;refine zm (fun K hK=>?_);go_simp;refine (sN _ _ n (by omega) (yS T (z 0) (z 1) (l 0) h d) d w1 (hg1.flts (by omega)) (HD.out.below hbA)).mono ?_;rintro e w2 ⟨R2,rfl,hg2,hb2⟩;have hbB:=hbA.trans (hb2.mono hbA.size);refine hK _ _ (fun h=>Bool.noConfusion (Eq.trans (Eq.symm (by kernel_rfl:_=false)) h)) (fun _=>hbB) ?_;clear hK K;refine zm (fun K hK=>?_);go_simp;refine (SV.out w2 _ (fun i=>cop .sub (yS T (z 0) (z 1) (l 0) h d i) (d i)) hbB (hg2.flts (by omega))).mono ?_;rintro e w3 ⟨R3,rfl,hg3,hb3⟩;have hbC:=hbB.trans (hb3.mono hbB.size);refine hK _ _ (fun h=>Bool.noConfusion (Eq.trans (Eq.symm (by kernel_rfl:_=false)) h)) (fun _=>hbC) ?_;clear hK K
 iterate 1
  first
   | refine zd (fun K hK=>?_)
   | refine ze (fun K hK=>?_)
  go_simp;refine hK _ ?_;clear hK K
 refine zo ?_;have HG3:=hid hg3;have HBC:=hid hbC;have hs3:=hbC.size;clear hbZ hg1 hb1 hbA hg2 hb2 hbB hg3 hb3 hbC w7 w8 SL SV;generalize hxx:uh g n (fun i=>(fun i=>cop .sub (yS T (z 0) (z 1) (l 0) h d i) (d i)) (q i))=x at *;have HXX:=hid hxx;clear hxx
 go_wp2_with (first
  | (refine wpList_make_full _ rfl _ _ _ rfl w3.heap.size 31 iF (.float .f64 0) 1 Tryz.underlying30 HF0.out HF.out.1 HF.out.2.1 .i64 .i64 (n:Int) (n:Int) n rfl rfl rfl rfl (by rw [HF.out.2.2]; omega) (by unfold maxLen; omega) (by omega) ?_)
  | fail)
 intro w4 hr1 hg1;have hb4:Below w3.heap.size w3 w4:=(Below.refl _ _).grown hg1 (by omega) (fun k hk=>by cases hk);have HO:=hid (yI hr1);have HB4:=hid hb4;have hHs:=hb4.size;clear hr1 hg1 hb4;generalize hHe:w3.heap.size=H at *;go_upto_region 3 with fail
 go_upto_block 0 with fail
 go_cut [] (fun wx=>yd wx H H n n (fun i=>cop .add (d i) (x i))∧Below H w3 wx)
 case first=>
  go_wp2_with fail
  go_loopw [24] (fun i wr=>∃ (e:Nat) (p:Nat→Nat),e≤n∧i=.int .i64 e∧yd wr H H n n p∧(∀ k,k<e→p k=cop .add (d k) (x k))∧Below H w3 wr) (fun i _=>n-(intOf i).toNat)
  case atStart=>exact ⟨0,_,by omega,rfl,HO.out,fun k hk=>by omega,HB4.out⟩
  case round=>
   clear HO HB4;obtain ⟨e,p,he,rfl,ho,hh,hbl⟩:=hrel;by_cases hen:e<n
   ·obtain ⟨y,y1,y2,y3⟩:=HDR.out e hen;obtain ⟨u,u1,u2,u3⟩:=HG3.out.cell hen;rw [← HBC.out.cell (p:=⟨bd,od+e,none⟩) hbd,← hbl.cell (p:=⟨bd,od+e,none⟩) (by show bd<H; omega)] at y1;rw [← hbl.cell (p:=⟨R3,e,none⟩) (by have:=HG3.out.lt; show R3<H; omega)] at u1;obtain ⟨v,v1,-,-⟩:=ho.cell hen;have r1:=ho.free e;have K1:=hid (fun w=>(show zk (zZ .add w y u)=cop .add (d e) (x e) by rw [z9,← y2,← u2,zE,zC]));have HO:=hid ho;have HH:=hid hh;have HBL:=hid hbl;have e1:(e:Int)<(n:Int):=by omega
    clear y2 u2 ho hh hbl;go_wp2_with fail;refine zw [(0,1),(1,1),(2,1),(3,1),(4,1),(5,2),(6,1),(7,1),(8,1),(9,2),(10,0),(11,1),(12,0)] (by kernel_rfl) (by kernel_rfl) (fun _ _ d _ _ h=>by cases d<;>exact h) ?_;intro Z hZ;have hz:∀ b o,Z.cell? ⟨b,o,none⟩=wr.cell? ⟨b,o,none⟩:=fun b o=>by rw [hZ]; rfl
    have hz2:∀ b o,Z.frozen? ⟨b,o,none⟩=wr.frozen? ⟨b,o,none⟩:=fun b o=>by rw [hZ]; rfl
    have HZ:=hid (show yd Z H H n n p∧Below H w3 Z by rw [hZ]; exact ⟨HO.out.drew,HBL.out.drew⟩);rw [← hz] at y1 u1 v1;rw [← hz2] at r1;clear hZ hz hz2 HO HBL
    iterate 10
     first
      | refine zd (fun K hK=>?_)
      | refine ze (fun K hK=>?_)
     go_simp;refine hK _ ?_;clear hK K
    refine zx (fun K hK=>?_);go_simp;refine hK _ _ (fun _=>⟨_,rfl⟩) ?_;clear hK K
    iterate 1
     first
      | refine zd (fun K hK=>?_)
      | refine ze (fun K hK=>?_)
     go_simp;refine hK _ ?_;clear hK K
    refine zx (fun K hK=>?_);go_simp;refine hK _ _ (fun h=>Bool.noConfusion (Eq.trans (Eq.symm (by kernel_rfl:_=false)) h)) ?_;clear hK K;refine zo ?_;have REL:=hid (show yd _ H H n n (yy p e (cop .add (d e) (x e)))∧Below H w3 _ from ⟨(HZ.out.1.set hen (K1.out Z) (yi _ _ _ _)).drewN (zP .add y u),below_drewN (HZ.out.2.setCell (p:=⟨H,e,none⟩) (Nat.le_refl _) (.float .f64 (zZ .add Z y u))) (zP .add y u)⟩);go_wp2_with fail
    go_roundw
    case rel=>exact ⟨e+1,_,by omega,by go_num,REL.out.1,fun k hk=>by
     by_cases hkd:k=e
     ·subst hkd; rw [zL]
     ·rw [zG _ _ hkd]; exact HH.out k (by omega),REL.out.2⟩
    case measure=>simp [intOf]; omega
   ·obtain rfl:n=e:=by omega
    go_wp2_with fail;go_meet;exact ⟨ho.congr hh,hbl⟩
 case rest=>
  clear HO HB4;obtain ⟨ho,hbl⟩:=hcut;have hbw:Below w.heap.size w wc:=HBC.out.trans (hbl.mono (by omega));obtain ⟨w0,w1',w2',w3',w4',w5,w6,w7,w8,w9'⟩:=(HW.out.below hbw).cells;have HO:=hid ho;have HBW:=hid hbw;have SZ:=hid (uW (.slice (some ⟨R3,0,none⟩) n n) vw n x wt wc ((HG3.out.below hbl (by have:=HG3.out.lt; omega)).flts (by omega)) (HX.out.wrow.below hbw));clear ho hbl hbw w0 w1' w2' w3' w4' w6 w7 w8;go_wp2_with fail;refine SZ.out.mono ?_;rintro e w5' ⟨⟨y,rfl,y1,y2⟩,hb5⟩;have HR:=hid (show yd w5' w.heap.size H n n _∧Below w.heap.size w w5' from ⟨(HO.out.below hb5 HO.out.lt.2).base (by omega),HBW.out.trans (hb5.mono HBW.out.size)⟩);clear hb5 w5;go_wp2_with fail
  go_ret2
  exact ⟨H,y,rfl,by rw [HXX.out]; exact HR.out.1,by rw [HXX.out]; exact y1,y2,HR.out.2⟩
structure rA where
 d:Nat→Nat
 has:Bool
 tries:Nat
 e:Int
def yH (nx:(Nat→Nat)→(Nat→Nat) × Nat) (n:Nat):Nat→(Nat→Nat)→rA
 | 0,x=>⟨x,false,0,0⟩
 | k+1,x=>
  if wa n (fun i=>xi ((nx x).1 i))=false then ⟨x,false,4-k,2⟩
  else if leB (nx x).2 4562146422526312448 then ⟨(nx x).1,true,4-k,0⟩
  else if k=0 then ⟨x,false,4,6⟩ else yH nx n k (nx x).1
def FromT (n:Nat) (S:rA) (w:World) (e:Ending) (w':World):Prop:=
 Below w.heap.size w w'∧((S.has=true∧∃ R,e=.returned (.tuple #[.slice (some ⟨R,0,none⟩) n n,.int .i64 S.tries,.int .i64 S.e])∧yd w' w.heap.size R n n S.d)∨(S.has=false∧e=.returned (.tuple #[.slice none 0 0,.int .i64 S.tries,.int .i64 S.e])))
theorem sO (n:Nat) (h1:1≤n) (h4:n≤4) (fn:Nat) (vb:Value) (nx:(Nat→Nat)→(Nat→Nat) × Nat) (R0:Nat) (x0:Nat→Nat) (w:World) (B0:Nat) (hx:yd w B0 R0 n n x0) (hf:∀ args W,(callFunc fn args).run Tryz.prog W=.ok (.enter fn args) W)
  (hc:∀ R x W,Below w.heap.size w W→zT W (.slice (some ⟨R,0,none⟩) n n) n x→Calls Tryz.prog fn #[vb,.slice (some ⟨R,0,none⟩) n n] W (mR n (nx x).1 (nx x).2 W)) :
  Calls Tryz.prog 75 #[.agg #[.func (.func fn) #[vb] #[],.func (.func 74) #[] #[]],.slice (some ⟨R0,0,none⟩) n n] w (FromT n (yH nx n 4 x0) w):=by
 have HC:=hid hc;have HX:=hid hx;obtain ⟨S,hS⟩:∃ S,S=yH nx n 4 x0:=⟨_,rfl⟩;rw [← hS];have hS':=hid hS;clear hc hx hS;have AL:=al1 w (.cells #[.func (.func fn) #[vb] #[],.func (.func 74) #[] #[]] 120);go_enter Tryz.func75,Tryz.ntmps75;go_upto_region 1 with fail
 generalize hB:w.heap.size=B at *;generalize w.alloc (.cells #[.func (.func fn) #[vb] #[],.func (.func 74) #[] #[]] 120)=X at *;obtain ⟨x1,x4,x5⟩:=AL;have HX1:=hid x1;have hxx:=HX.out.below (hB ▸ x5) HX.out.lt.2;clear x1;go_wp2_with fail
 go_loopw [1,8] (fun v t wr=>∃ (k R:Nat) (x:Nat→Nat),1≤k∧k≤4∧t=.int .i64 k∧v=.slice (some ⟨R,0,none⟩) n n∧yd wr 0 R n n x∧yH nx n (5-k) x=S∧wr.heap[B]? = some (.cells #[.func (.func fn) #[vb] #[],.func (.func 74) #[] #[]] 120)∧Below B w wr) (fun _ t _=>5-(intOf t).toNat)
 case atStart=>exact ⟨1,R0,x0,by omega,by omega,rfl,rfl,hxx.base (Nat.zero_le _),hS'.out.symm,HX1.out,x5⟩
 case round=>
  clear hxx hS' HX1;obtain ⟨k,R,x,hk1,hk4,rfl,rfl,ho,hs,hbx,hbl⟩:=hrel;obtain ⟨k',hk'⟩:∃ k',5-k=k'+1:=⟨4-k,by omega⟩;rw [hk'] at hs;have hs2:yH nx n (k'+1) x=if wa n (fun i=>xi ((nx x).1 i))=false then ⟨x,false,4-k',2⟩ else if leB (nx x).2 4562146422526312448 then ⟨(nx x).1,true,4-k',0⟩ else if k'=0 then ⟨x,false,4,6⟩ else yH nx n k' (nx x).1:=rfl
  rw [hs2,show 4-k'=k by omega] at hs;have CALL:=hid (HC.out R x wr hbl (ho.flts (by omega)));have HS:=hid hs;have HBL:=hid hbl;have HBX:=hid hbx;have b0:=zf hbx 0;have bl:=zj hbx;simp only [List.getElem?_toArray,List.getElem?_cons_zero] at b0;have hBs:=hbl.size;clear hs hs2 hbl ho hbx;go_wp2_with fail;refine CALL.out.mono ?_;rintro e w1 ⟨R',y,rfl,hg,y1,y2,hb1⟩;have HLE:=hid (show leB y 4562146422526312448=leB (nx x).2 4562146422526312448 by rw [← y1]; exact (vL y 4562146422526312448).symm);have b1:=zf ((hb1.block B bl).trans HBX.out) 1;simp only [List.getElem?_toArray,List.getElem?_cons_zero,List.getElem?_cons_succ] at b1;have FN:=hid (qu (.slice (some ⟨R',0,none⟩) n n) n (nx x).1 w1 (hg.flts (by omega)));have HG:=hid hg;have hb1':=HBL.out.trans (hb1.mono (by omega));have HB1:=hid hb1';have HBX1:=hid ((hb1.block B bl).trans HBX.out);clear hg hb1 hb1' b0 CALL y1;go_wp2_with fail;refine FN.out.mono ?_;rintro e w2 ⟨rfl,hb2⟩;have hs1:=HB1.out.size;have HG2:=hid (HG.out.below hb2 HG.out.lt.2);have HB2:=hid (HB1.out.trans (hb2.mono (by omega)));have HBX2:=hid ((hb2.block B (zj HBX1.out)).trans HBX1.out);clear hb2 b1 FN
  cases hfin:wa n (fun i=>xi ((nx x).1 i)) with
  | false=>
   have hs:=HS.out;rw [hfin,if_pos rfl] at hs;subst hs;go_wp2_with fail;refine bodyPost_ret (v:=.tuple #[.slice none 0 0,.int .i64 k,.int .i64 2]) (by simp [results,Tryz.results75,go_sem]) rfl ⟨by rw [hB]; exact HB2.out,.inr ⟨rfl,rfl⟩⟩
  | true=>
   have hs:=HS.out;rw [hfin,if_neg (by decide)] at hs
   cases hle:leB y 4562146422526312448 with
   | true=>
    rw [← HLE.out,hle,if_pos rfl] at hs;subst hs;go_wp2_with fail;refine bodyPost_ret (v:=.tuple #[.slice (some ⟨R',0,none⟩) n n,.int .i64 k,.int .i64 0]) (by simp [results,Tryz.results75,go_sem]) rfl ⟨by rw [hB]; exact HB2.out,.inl ⟨rfl,R',rfl,by rw [hB]; exact HG2.out.base (by have:=HG2.out.lt; omega)⟩⟩
   | false=>
    rw [← HLE.out,hle,if_neg (by decide)] at hs;by_cases hk5:k=4
    ·subst hk5;rw [if_pos (by omega)] at hs;subst hs;go_wp2_with fail;refine bodyPost_ret (v:=.tuple #[.slice none 0 0,.int .i64 4,.int .i64 6]) (by simp [results,Tryz.results75,go_sem]) rfl ⟨by rw [hB]; exact HB2.out,.inr ⟨rfl,rfl⟩⟩
    ·rw [if_neg (by omega)] at hs;have HS2:=hid hs;have hk4':((k:Int)==4)=false:=by simp; omega
     clear hs;go_wp2_with fail
     go_roundw
     case rel=>exact ⟨k+1,R',(nx x).1,by omega,by omega,by go_num,rfl,HG2.out.base (Nat.zero_le _),by rw [show 5-(k+1)=k' by omega]; exact HS2.out,HBX2.out,HB2.out⟩
     case measure=>simp [intOf]; omega
end Go.Proofs.YtnlbafjmbamoeaaGreat
namespace Go.Proofs.YtnlbafjmbamoeaaGreat
open Go.RowKit Lib
open Ieee (double)
attribute [local go_sem] zr zi zy zn zU zS zW zX zV zY zD zH zI zJ zK zB ye z8 zF yE zN zQ zR
set_option maxRecDepth 100000
set_option maxHeartbeats 16000000
theorem uL (n:Nat) (T:TD) (vo vu vz vl vw p1 p2:Value) (m:Nat) (z:Nat→Nat→Nat) (l wt:Nat→Nat) (h b:Nat) (w:World) (hx:xT w n T vo vu vz vl vw m z l wt) (hw:WK b n vo vu vz vl vw h p1 p2 w)
  (hck:yq T=true) (hm:2≤m) (h1:1≤n) :
  Calls Tryz.prog 70 #[.pointer (some ⟨b,0,none⟩)] w (xf (.bool true) w):=by
 have CK:=hid (fun W (hb:Below w.heap.size w W)=>(wu T _ W (hx.tape.below hb)).mono fun _ _ h=>h.eq (by rw [hck]));have EV:=hid (fun W (hb:Below w.heap.size w W)=>uX vz m n z W (hx.tab.below hb));obtain ⟨bz,oz,cz,rfl,-,-⟩:=hx.tab.rowAt (by omega);obtain ⟨bl,ol,cl,rfl,-,-⟩:=hx.lrow.numAt (by omega);obtain ⟨bw,ow,cw,rfl,-,-⟩:=hx.wrow.numAt (by omega);have hm2:decide (2≤(m:Int))=true:=by simp; omega
 have hm2':(2:Int)≤(m:Int):=by omega
 have hmm:((m:Int)==m)=true:=by simp
 have hnn:((n:Int)==n)=true:=by simp
 have HW:=hid hw;obtain ⟨w0,w1',w2',w3,w4,w5,w6,w7,w8,w9⟩:=hw.cells;clear hx hck hw w6 w7 w8;go_enter Tryz.func70,Tryz.ntmps70;go_wp2_with fail;refine zv [(0,1),(1,1),(2,1),(3,3),(4,0),(5,1),(6,1),(7,1),(8,1),(9,3),(10,1),(11,1),(12,1),(13,1),(14,1),(15,1),(16,1),(17,3),(18,1),(19,0),(20,1),(21,1),(22,1),(23,1),(24,1),(25,3),(26,1),(27,1),(28,1),(29,1),(30,3),(31,1),(32,1),(33,1),(34,1),(35,1),(36,1),(37,1),(38,3),(39,1),(40,1),(41,1),(42,1),(43,1)] (fun W=>Below w.heap.size w W) (by kernel_rfl) (by kernel_rfl) (fun _ _ d _ _ h=>by cases d<;>exact h) ((Below.refl _ _).drew) ?_;intro Z hZ hbZ;clear hZ
 iterate 3
  first
   | refine zd (fun K hK=>?_)
   | refine ze (fun K hK=>?_)
  go_simp;refine hK _ ?_;clear hK K
 refine zh (v:=.agg #[.int .i64 n,vo,vu]) rfl rfl (fun wk hwk=>?_) ?_
 ·rw [← (zA hwk).1 _ _ w9] at w0 w1' w2';go_simp
 refine zm (fun K hK=>?_);go_simp;refine (CK.out Z hbZ).mono ?_;rintro e w1 ⟨rfl,hb1⟩;have hbA:=hbZ.trans (hb1.mono hbZ.size);refine hK _ _ (fun h=>Bool.noConfusion (Eq.trans (Eq.symm (by kernel_rfl:_=false)) h)) (fun _=>hbA) ?_;clear hK K
 iterate 4
  first
   | refine zd (fun K hK=>?_)
   | refine ze (fun K hK=>?_)
  go_simp;refine hK _ ?_;clear hK K
 refine zh (v:=.slice (some ⟨bz,oz,none⟩) m cz) rfl rfl (fun wk hwk=>?_) ?_
 ·rw [← (zA hwk).1 _ _ w9] at w3;go_simp
 iterate 7
  first
   | refine zd (fun K hK=>?_)
   | refine ze (fun K hK=>?_)
  go_simp;refine hK _ ?_;clear hK K
 refine zh (v:=.slice (some ⟨bz,oz,none⟩) m cz) rfl rfl (fun wk hwk=>?_) ?_
 ·rw [← (zA hwk).1 _ _ w9] at w3;go_simp
 iterate 1
  first
   | refine zd (fun K hK=>?_)
   | refine ze (fun K hK=>?_)
  go_simp;refine hK _ ?_;clear hK K
 refine zm (fun K hK=>?_);go_simp;refine (EV.out w1 hbA).mono ?_;rintro e w2 ⟨rfl,hb2⟩;have hbB:=hbA.trans (hb2.mono hbA.size);refine hK _ _ (fun h=>Bool.noConfusion (Eq.trans (Eq.symm (by kernel_rfl:_=false)) h)) (fun _=>hbB) ?_;clear hK K
 iterate 5
  first
   | refine zd (fun K hK=>?_)
   | refine ze (fun K hK=>?_)
  go_simp;refine hK _ ?_;clear hK K
 refine zh (v:=.slice (some ⟨bl,ol,none⟩) m cl) rfl rfl (fun wk hwk=>?_) ?_
 ·rw [← (zA hwk).1 _ _ w9] at w4;go_simp
 iterate 4
  first
   | refine zd (fun K hK=>?_)
   | refine ze (fun K hK=>?_)
  go_simp;refine hK _ ?_;clear hK K
 refine zh (v:=.slice (some ⟨bz,oz,none⟩) m cz) rfl rfl (fun wk hwk=>?_) ?_
 ·rw [← (zA hwk).1 _ _ w9] at w3;go_simp
 iterate 7
  first
   | refine zd (fun K hK=>?_)
   | refine ze (fun K hK=>?_)
  go_simp;refine hK _ ?_;clear hK K
 refine zh (v:=.slice (some ⟨bw,ow,none⟩) n cw) rfl rfl (fun wk hwk=>?_) ?_
 ·rw [← (zA hwk).1 _ _ w9] at w5;go_simp
 iterate 5
  first
   | refine zd (fun K hK=>?_)
   | refine ze (fun K hK=>?_)
  go_simp;refine hK _ ?_;clear hK K
 refine zo ?_;have HB:=hid hbB;clear hbZ hb1 hbA hb2 hbB w0 w1' w2' w3 w4 w5;go_wp2_with fail;go_ret;exact ⟨rfl,HB.out⟩
def wF (T:TD) (z0:Nat→Nat) (l0 h:Nat) (i j:Nat):Nat:=cop .sub (if i=j then 4607182418800017408 else 0) (cop .mul (cop .mul h l0) (dvR T.op z0 (T.out i).toNat j))
def xQ (N J:Nat→Nat→Nat) (i j a c:Nat):Nat:=if a<i∨(a=i∧c<j) then N a c else J a c
theorem vW (N J:Nat→Nat→Nat) (a c:Nat):xQ N J 0 0 a c=J a c:=by unfold xQ; rw [if_neg (by omega)]
theorem tA (N J:Nat→Nat→Nat) (i n a c:Nat) (hc:c<n):xQ N J i n a c=xQ N J (i+1) 0 a c:=by
 unfold xQ;by_cases h:a<i∨(a=i∧c<n)
 ·rw [if_pos h,if_pos (by omega)]
 ·rw [if_neg h,if_neg (by omega)]
theorem tB (N J:Nat→Nat→Nat) (n a c:Nat) (ha:a<n):xQ N J n 0 a c=N a c:=by unfold xQ; rw [if_pos (by omega)]
theorem sw (N J:Nat→Nat→Nat) (i j:Nat):xQ N J i j i j=J i j:=by unfold xQ; rw [if_neg (by omega)]
theorem tC (N J:Nat→Nat→Nat) (i j a c:Nat):xR (xQ N J i j) i j (N i j) a c=xQ N J i (j+1) a c:=by
 by_cases h:a=i∧c=j
 ·obtain ⟨rfl,rfl⟩:=h;rw [sF];unfold xQ;rw [if_pos (by omega)]
 ·rw [sG _ _ (by omega)];unfold xQ;by_cases g:a<i∨(a=i∧c<j)
  ·rw [if_pos g,if_pos (by omega)]
  ·rw [if_neg g,if_neg (by omega)]
theorem nw (w v:World) {o y u a b:Nat} (h2:zk y=a) (h3:zk u=b):zk (zZ .sub w o (zZ .mul v y u))=cop .sub o (cop .mul a b):=by
 subst h2 h3;rw [z9,← zC,z9];simp only [zE,zC]
def PartW (b n:Nat) (vo vu vz vl vw:Value) (h:Nat) (o:Option ((Nat→Nat→Nat) × (Nat→Nat))) (w:World) (e:Ending) (w':World):Prop:=
 zM w b w'∧match o with
 | none=>e=.returned (.bool false)
 | some (g,q)=>e=.returned (.bool true)∧∃ p1 p2,WK b n vo vu vz vl vw h p1 p2 w'∧yB w' p1 n (fun _=>n) g∧tX w' p2 n (fun i=>(q i:Int))
theorem zp {w:World} {b o:Nat} {cs:Array Value} {t:TypeId} {fr:Nat × Nat} (h:w.heap[b]? = some (.cells cs t fr)) (v:Value):(w.setCell ⟨b,o,none⟩ v).heap[b]? = some (.cells (cs.setIfInBounds o v) t fr):=by
 simp only [World.setCell,Array.getElem?_modify,if_true,h];rfl
theorem WK.put {b n:Nat} {vo vu vz vl vw:Value} {h:Nat} {p1 p2:Value} {w:World} (k:WK b n vo vu vz vl vw h p1 p2 w) (u v:Value):WK b n vo vu vz vl vw h u v ((w.setCell ⟨b,7,none⟩ u).setCell ⟨b,8,none⟩ v):=by
 unfold WK;rw [zp (zp k u) v];rfl
theorem pn (n:Nat) (T:TD) (vo vu vz vl vw p1 p2:Value) (m:Nat) (z:Nat→Nat→Nat) (l wt:Nat→Nat) (h b:Nat) (w:World) (hx:xT w n T vo vu vz vl vw m z l wt) (hw:WK b n vo vu vz vl vw h p1 p2 w)
  (hck:yq T=true) (hcs:∀ i,i<T.len→(T.op i).c<18446744073709551616) (hn:T.n=n) (h1:1≤n) (h4:n≤4) (hm:2≤m) :
  Calls Tryz.prog 72 #[.pointer (some ⟨b,0,none⟩)] w (PartW b n vo vu vz vl vw h (yU (wF T (z 0) (l 0) h) n n) w):=by
 obtain ⟨bz,oz,cz,rfl,hbz,hz⟩:=hx.tab.rowAt (by omega);obtain ⟨pz0,cz0,z0,hz0⟩:=hz 0 (by omega);obtain ⟨bl,ol,cl,rfl,hbl',hl⟩:=hx.lrow.numAt (by omega);obtain ⟨y0,ly1,ly2,ly3⟩:=hl 0 (by omega);rw [Nat.add_zero] at z0 ly1;have JC:=hid (fun (W:World) (hb:Below w.heap.size w W)=>nX T _ (.slice pz0 n cz0) (z 0) W (hx.tape.below hb) hck hcs n hn (hz0.below hb));have HW:=hid hw;have hm0:0<m:=by omega
 obtain ⟨w0,w1',w2',w3,w4,w5,w6,w7,w8,w9⟩:=hw.cells;clear hx hw hck hcs hz hl hz0 w5 w7 w8;go_enter Tryz.func72,Tryz.ntmps72;go_wp2_with fail;refine zv [(0,1),(1,1),(2,1),(3,3),(4,1),(5,1),(6,1),(7,3),(8,1),(9,3),(10,0),(11,1)] (fun W=>Below w.heap.size w W) (by kernel_rfl) (by kernel_rfl) (fun _ _ d _ _ h=>by cases d<;>exact h) ((Below.refl _ _).drew) ?_;intro Z hZ hbZ;clear hZ
 iterate 3
  first
   | refine zd (fun K hK=>?_)
   | refine ze (fun K hK=>?_)
  go_simp;refine hK _ ?_;clear hK K
 refine zh (v:=.agg #[.int .i64 n,vo,vu]) rfl rfl (fun wk hwk=>?_) ?_
 ·rw [← (zA hwk).1 _ _ w9] at w0 w1' w2';go_simp
 iterate 3
  first
   | refine zd (fun K hK=>?_)
   | refine ze (fun K hK=>?_)
  go_simp;refine hK _ ?_;clear hK K
 refine zh (v:=.slice (some ⟨bz,oz,none⟩) m cz) rfl rfl (fun wk hwk=>?_) ?_
 ·rw [← (zA hwk).1 _ _ w9] at w3;go_simp
 iterate 1
  first
   | refine zd (fun K hK=>?_)
   | refine ze (fun K hK=>?_)
  go_simp;refine hK _ ?_;clear hK K
 refine zh (v:=.slice pz0 n cz0) rfl rfl (fun wk hwk=>?_) ?_
 ·rw [← (zA hwk).1 _ _ hbz] at z0;go_simp
 refine zm (fun K hK=>?_);go_simp;refine (JC.out Z hbZ).mono ?_;rintro e w1 ⟨G,blk,cp,rfl,hg,hb1⟩;have hbA:=hbZ.trans (hb1.mono hbZ.size);refine hK _ _ (fun h=>Bool.noConfusion (Eq.trans (Eq.symm (by kernel_rfl:_=false)) h)) (fun _=>hbA) ?_;clear hK K
 iterate 1
  first
   | refine zd (fun K hK=>?_)
   | refine ze (fun K hK=>?_)
  go_simp;refine hK _ ?_;clear hK K
 refine zo ?_;have HG:=hid (hg.base (b':=w.heap.size) hbZ.size);have HB1:=hid hbA;have hs1:=hbA.size;obtain ⟨w0,w1',w2',w3,w4,w5,w6,w7,w8,w9'⟩:=(HW.out.below hbA).cells;have ll:=(hbA.cell (p:=⟨bl,ol,none⟩) hbl').trans ly1;clear hbZ hg hb1 hbA w0 w1' w2' w3 w5 w7 w8 z0 ly1;go_wp2_with fail;refine zw [(0,1),(1,1),(2,1),(3,2),(4,1),(5,1),(6,1),(7,2),(8,1),(9,2),(10,0),(11,1)] (by kernel_rfl) (by kernel_rfl) (fun _ _ d _ _ h=>by cases d<;>exact h) ?_;intro Z hZ;have hzz:∀ b o,Z.cell? ⟨b,o,none⟩=w1.cell? ⟨b,o,none⟩:=fun b o=>by rw [hZ]; rfl
 have HZ:=hid (show yD Z w.heap.size G n n blk cp _∧Below w.heap.size w Z by rw [hZ]; exact ⟨HG.out.drew,HB1.out.drew⟩);rw [← hzz] at w4 w6 ll;clear hZ hzz HG HB1
 iterate 10
  first
   | refine zd (fun K hK=>?_)
   | refine ze (fun K hK=>?_)
  go_simp;refine hK _ ?_;clear hK K
 refine zx (fun K hK=>?_);go_simp;refine hK _ _ (fun _=>⟨_,rfl⟩) ?_;clear hK K
 iterate 1
  first
   | refine zd (fun K hK=>?_)
   | refine ze (fun K hK=>?_)
  go_simp;refine hK _ ?_;clear hK K
 refine zo ?_;have HY:=hid (show zk (zZ .mul Z h y0)=cop .mul h (l 0) by rw [z9,← ly2,zC]);have HG:=hid (show yD (Z.drewN (zP .mul h y0)) w.heap.size G n n blk cp _ from HZ.out.1.below (below_drewN (Below.refl _ _) _));have HB1:=hid (below_drewN HZ.out.2 (zP .mul h y0));clear w4 w6 ll HZ ly2 ly3;generalize Z.drewN (zP .mul h y0)=W2 at *;generalize zZ .mul Z h y0=by_ at *;have hOF:=hid (show ∀ i j,wF T (z 0) (l 0) h i j=cop .sub (if i=j then 4607182418800017408 else 0) (cop .mul (zk by_) (dvR T.op (z 0) (T.out i).toNat j)) from fun i j=>by rw [HY.out]; rfl);generalize wF T (z 0) (l 0) h=N at *;generalize hJe:(fun i=>dvR T.op (z 0) (T.out i).toNat)=J at *;have HJ:=hid (show ∀ i,dvR T.op (z 0) (T.out i).toNat=J i from fun i=>by rw [← hJe]);have HG0:=hid (HG.out.congr (fun a c _ _=>(vW N J a c).symm));clear hJe HG HY;go_wp2_with fail
 go_loopw [34] (fun i wr=>∃ e:Nat,e≤n∧i=.int .i64 e∧yD wr w.heap.size G n n blk cp (xQ N J e 0)∧Below w.heap.size w wr) (fun i _=>n-(intOf i).toNat)
 case atStart=>exact ⟨0,by omega,rfl,HG0.out,HB1.out⟩
 case round=>
  clear HG0 HB1;obtain ⟨e,he,rfl,hg,hbl⟩:=hrel;by_cases hen:e<n
  ·have r0:=hg.ref e hen;have HG:=hid hg;have HBL:=hid hbl;have e1:(e:Int)<(n:Int):=by omega
   clear hg hbl;go_wp2_with fail;generalize wr=WO at *
   go_loopw [41] (fun i wr=>∃ c:Nat,c≤n∧i=.int .i64 c∧yD wr w.heap.size G n n blk cp (xQ N J e c)∧Below w.heap.size w wr) (fun i _=>n-(intOf i).toNat)
   case atStart=>exact ⟨0,by omega,rfl,HG.out,HBL.out⟩
   case round=>
    clear HG HBL r0;obtain ⟨c,hc,rfl,hg,hbl⟩:=hrel;by_cases hcn:c<n
    ·obtain ⟨u,u1,u2,u3⟩:=(hg.row e hen).cell hcn;have f1:=(hg.row e hen).free c;have hR1:=(hg.row e hen).lt;have c1:(c:Int)<(n:Int):=by omega
     rw [sw] at u2;have K1:=hid (fun w v=>nw w v (o:=if e=c then 4607182418800017408 else 0) (rfl:zk by_=zk by_) u2);have HN:=hid (show cop .sub (if e=c then 4607182418800017408 else 0) (cop .mul (zk by_) (J e c))=N e c by rw [hOF.out e c,HJ.out e]);have HG:=hid hg;have HBL:=hid hbl;clear u2 hg hbl
     have fin:∀ o,(o=if e=c then 4607182418800017408 else 0)→∀ (W1:World),yD ((wr.setCell ⟨blk e,c,none⟩ (.float .f64 (zZ .sub W1 o (zZ .mul wr by_ u)))).drewN (zP .mul by_ u+zP .sub o (zZ .mul wr by_ u))) w.heap.size G n n blk cp (xQ N J e (c+1))∧Below w.heap.size w ((wr.setCell ⟨blk e,c,none⟩ (.float .f64 (zZ .sub W1 o (zZ .mul wr by_ u)))).drewN (zP .mul by_ u+zP .sub o (zZ .mul wr by_ u))):=fun o ho W1=>by
      subst ho;refine ⟨?_,below_drewN (HBL.out.setCell (p:=⟨blk e,c,none⟩) hR1.1 _) _⟩;have g1:=HG.out.set hen hcn ((K1.out W1 wr).trans HN.out) (yi .sub W1 _ _);exact ((g1.congr (fun a d _ _=>tC N J e c a d)):yD _ _ _ _ _ _ _ _).below (below_drewN (Below.refl _ _) _)
     have FIN:=hid fin;clear fin;by_cases hec:e=c
     ·have hcc:((e:Int)==c)=true:=by simp; omega
      have FX:=hid (fun W=>FIN.out 4607182418800017408 (by rw [if_pos hec]) W);clear hec FIN K1;go_wp2_with fail
      go_roundw
      case rel=>exact ⟨c+1,by omega,by go_num,FX.out _⟩
      case measure=>simp [intOf]; omega
     ·have hcc:((e:Int)==c)=false:=by simp; omega
      have FX:=hid (fun W=>FIN.out 0 (by rw [if_neg hec]) W);clear hec FIN K1;go_wp2_with fail
      go_roundw
      case rel=>exact ⟨c+1,by omega,by go_num,FX.out _⟩
      case measure=>simp [intOf]; omega
    ·obtain rfl:c=n:=by omega
     have HGN:=hid (hg.congr (fun a d _ hd=>tA N J e c a d hd));clear hg;go_wp2_with fail
     go_roundw
     case rel=>exact ⟨e+1,by omega,by go_num,HGN.out,hbl⟩
     case measure=>simp [intOf]; omega
  ·obtain rfl:e=n:=by omega
   have HGN:=hid (hg.congr (fun a d ha _=>tB N J e a d ha));have HBL:=hid hbl;have PT:=hid (oI e (.slice (some ⟨G,0,none⟩) e e) N wr (HGN.out.tab (by omega) (by omega)) h1 (by omega));clear hg hbl hOF;go_wp2_with fail;refine PT.out.mono ?_;rintro e' w3 ⟨hb3,hm3⟩;have hbA:=HBL.out.trans (hb3.mono HBL.out.size);have hwA:=HW.out.below hbA;obtain ⟨w0,w1',w2',w3',w4,w5,w6,w7,w8,w9'⟩:=hwA.cells;have f7:=zg hwA 7;have f8:=zg hwA 8
   cases hp:yU N e e with
   | none=>
    rw [hp] at hm3;simp only [] at hm3;subst hm3;have HK:=hid (show zM w b _ from (((zM.refl w b).step hbA).set 7 (.slice none 0 0)).set 8 (.slice none 0 0));clear hbA hwA hb3 w0 w1' w2' w3' w4 w5 w6;go_wp2_with fail;go_ret;exact ⟨HK.out,by rw [hp]; rfl⟩
   | some gq=>
    obtain ⟨g,q⟩:=gq;rw [hp] at hm3;simp only [] at hm3;obtain ⟨G2,R2,blk2,cap2,rfl,hg2,hi2,-,-⟩:=hm3;have hkk:=(((zM.refl w b).step hbA).set 7 (.slice (some ⟨G2,0,none⟩) e e)).set 8 (.slice (some ⟨R2,0,none⟩) e e);have HK:=hid hkk;have HG2:=hid (show yD _ wr.heap.size G2 e e blk2 cap2 g from hg2);have HI2:=hid (show yh _ wr.heap.size R2 e e _ from hi2);have HWA:=hid hwA;clear hbA hwA hb3 hkk hg2 hi2 w0 w1' w2' w3' w4 w5 w6;go_wp2_with fail;go_ret;have hs4:=HBL.out.size;refine ⟨HK.out,?_⟩;rw [hp];exact ⟨rfl,_,_,HWA.out.put _ _,((((HG2.out.setOther (by have:=HG2.out.lo; omega) (fun i hi=>by have:=(HG2.out.row i hi).lt; omega) _).setOther (by have:=HG2.out.lo; omega) (fun i hi=>by have:=(HG2.out.row i hi).lt; omega) _)).tab (by omega) (by omega)),((HI2.out.other (by have:=HI2.out.lt; omega) _).other (by have:=HI2.out.lt; omega) _).ints (by omega)⟩
def y9 (T:TD) (z:Nat→Nat→Nat) (wt:Nat→Nat) (l0 h n:Nat) (bdf:Bool):rA:=
 if bdf then match yU (wF T (z 0) l0 h) n n with
  | none=>⟨fun _=>0,false,0,4⟩
  | some (g,q)=>yH (wy T (z 0) (z 1) wt l0 h n g q) n 4 (fun _=>0)
 else yH (yW T (z 0) (z 1) wt l0 h n) n 4 (fun _=>0)
theorem pw (T:TD) (z0 z1:Nat→Nat) (l0 h:Nat):yS T z0 z1 l0 (zk h)=yS T z0 z1 l0 h:=by
 funext d i
 unfold yS;rw [zE]
theorem mW (T:TD) (z0 z1 wt:Nat→Nat) (l0 h n:Nat):yW T z0 z1 wt l0 (zk h) n=yW T z0 z1 wt l0 h n:=by
 funext d
 unfold yW;rw [pw]
theorem ks (T:TD) (z0 z1 wt:Nat→Nat) (l0 h n:Nat) (g:Nat→Nat→Nat) (q:Nat→Nat):wy T z0 z1 wt l0 (zk h) n g q=wy T z0 z1 wt l0 h n g q:=by
 funext d
 unfold wy;rw [pw]
theorem lK (T:TD) (z0:Nat→Nat) (l0 h:Nat):wF T z0 l0 (zk h)=wF T z0 l0 h:=by
 funext i j
 unfold wF;rw [zE]
theorem uF (T:TD) (z:Nat→Nat→Nat) (wt:Nat→Nat) (l0 h n:Nat) (bdf:Bool):y9 T z wt l0 (zk h) n bdf=y9 T z wt l0 h n bdf:=by
 unfold y9;simp only [lK,ks,mW]
def mb (n:Nat) (S:rA) (w:World) (e:Ending) (w':World):Prop:=
 Below w.heap.size w w'∧((S.has=true∧∃ R,e=.returned (.agg #[.slice (some ⟨R,0,none⟩) n n,.int .i64 S.tries,.int .i64 S.e])∧yd w' w.heap.size R n n S.d)∨(S.has=false∧e=.returned (.agg #[.slice none 0 0,.int .i64 S.tries,.int .i64 S.e])))
theorem sZ {f:Nat→Nat→Nat} {n:Nat}:∀ {k:Nat} {g:Nat→Nat→Nat} {q:Nat→Nat},k≤n→yU f n k=some (g,q)→∀ i,i<n→q i<n
 | 0,g,q,_,h,i,hi=>by
  simp only [yU,Option.some.injEq,Prod.mk.injEq] at h;rw [← h.2]; exact hi
 | k+1,g,q,hk,h,i,hi=>by
  rw [yU] at h
  cases e:yU f n k with
  | none=>rw [e] at h; cases h
  | some x=>
   obtain ⟨g0,q0⟩:=x;rw [e] at h;simp only [] at h;split at h
   ·simp only [Option.some.injEq,Prod.mk.injEq] at h;have hp:=tn g0 k (n-1-k);rw [← h.2,xD];exact sZ (by omega) e _ (tY (by omega) (by omega) hi)
   ·cases h
theorem xT.keep {X W w:World} {q n:Nat} {T:TD} {vo vu vz vl vw:Value} {m:Nat} {z:Nat→Nat→Nat} {l wt:Nat→Nat} (h:xT w n T vo vu vz vl vw m z l wt) (hk:zM X q W) (hb:Below w.heap.size w X) (hq:w.heap.size≤q):xT W n T vo vu vz vl vw m z l wt:=h.below (hk.below hb hq hb.size)
theorem oP (n:Nat) (T:TD) (vo vu vz vl vw:Value) (m k:Nat) (z:Nat→Nat→Nat) (l wt:Nat→Nat) (w:World) (hx:xT w n T vo vu vz vl vw m z l wt)
  (hck:yq T=true) (hcs:∀ i,i<T.len→(T.op i).c<18446744073709551616) (hn:T.n=n) (h1:1≤n) (h4:n≤4) (hm:2≤m) (hk:k<43) :
  Calls Tryz.prog 39 #[.agg #[.int .i64 n,vo,vu],vz,vl,.int .i64 ((2 ^ k:Nat):Int),.int .i64 0,vw] w (mb n (y9 T z wt (l 0) (xh ((2 ^ k:Nat):Int)) n false) w):=by
 obtain ⟨bz,oz,cz,rfl,-,-⟩:=hx.tab.rowAt (by omega);obtain ⟨bl,ol,cl,rfl,-,-⟩:=hx.lrow.numAt (by omega);obtain ⟨bw,ow,cw,rfl,-,-⟩:=hx.wrow.numAt (by omega);have LN:=hid (fun W=>vV ((2 ^ k:Nat):Int) W);have IS:=hid (fun W=>wI k hk W);have HX:=hid hx;have HCK:=hid hck;have HCS:=hid hcs;obtain ⟨iF,hF,f1,f2,f3⟩:=info_parts xu;have HF:=hid (show iF.zero=_∧iF.size=_∧iF.bytes=_ from ⟨f1,f2,f3⟩);have HF0:=hid hF;generalize hL:xh ((2 ^ k:Nat):Int)=L at *;generalize ((2 ^ k:Nat):Int)=p at *;clear hx hck hcs hF f1 f2 f3 hk hL;have AL:=al2 w (.cells #[.int .i64 n,vo,vu] 28) (.cells #[.slice none 0 0,.int .i64 0,.int .i64 0] 78);go_enter Tryz.func39,Tryz.ntmps39;go_upto_region 1 with fail
 generalize hB:w.heap.size=B at *;generalize (w.alloc (.cells #[.int .i64 n,vo,vu] 28)).alloc (.cells #[.slice none 0 0,.int .i64 0,.int .i64 0] 78)=X at *;obtain ⟨x1,x2,x4,x5⟩:=AL;have p0:=zf x1 0;have p1:=zf x1 1;have p2:=zf x1 2;have pl:=zj x1;simp only [List.getElem?_toArray,List.getElem?_cons_zero,List.getElem?_cons_succ] at p0 p1 p2;have HX1:=hid x1;have HX2:=hid x2;clear x1 x2;refine zv [(0,3),(1,1),(2,1),(3,1),(4,1),(5,0),(6,1),(7,0),(8,1)] (fun W=>Below X.heap.size X W) (by kernel_rfl) (by kernel_rfl) (fun _ _ d _ _ h=>by cases d<;>exact h) ((Below.refl _ _).drew) ?_;intro Z hZ hbZ;clear hZ;refine zh (v:=.agg #[.int .i64 n,vo,vu]) rfl rfl (fun wk hwk=>?_) ?_
 ·rw [← (zA hwk).1 _ _ pl] at p0 p1 p2;go_simp
 iterate 4
  first
   | refine zd (fun K hK=>?_)
   | refine ze (fun K hK=>?_)
  go_simp;refine hK _ ?_;clear hK K
 refine zm (fun K hK=>?_);go_simp;refine (LN.out Z).mono ?_;rintro e w1 ⟨h,nd,rfl,y1,y2,rfl⟩;have hbA:=below_drewN hbZ nd;refine hK _ _ (fun h=>Bool.noConfusion (Eq.trans (Eq.symm (by kernel_rfl:_=false)) h)) (fun _=>hbA) ?_;clear hK K
 iterate 1
  first
   | refine zd (fun K hK=>?_)
   | refine ze (fun K hK=>?_)
  go_simp;refine hK _ ?_;clear hK K
 refine zm (fun K hK=>?_);go_simp;have HYA:=hid (al1 Z (.cells #[.int .i64 n,vo,vu,.slice (some ⟨bz,oz,none⟩) m cz,.slice (some ⟨bl,ol,none⟩) m cl,.slice (some ⟨bw,ow,none⟩) n cw,.float .f64 h,.slice none 0 0,.slice none 0 0] 115));have hbY:Below X.heap.size X ((Z.alloc (.cells #[.int .i64 n,vo,vu,.slice (some ⟨bz,oz,none⟩) m cz,.slice (some ⟨bl,ol,none⟩) m cl,.slice (some ⟨bw,ow,none⟩) n cw,.float .f64 h,.slice none 0 0,.slice none 0 0] 115)).drewN nd):=below_drewN (hbZ.trans (HYA.out.2.2.mono hbZ.size)) nd;refine hK _ _ (fun h=>Bool.noConfusion (Eq.trans (Eq.symm (by kernel_rfl:_=false)) h)) (fun _=>hbY) ?_;clear hK K
 iterate 1
  first
   | refine zd (fun K hK=>?_)
   | refine ze (fun K hK=>?_)
  go_simp;refine hK _ ?_;clear hK K
 refine zo ?_;have HWK:=hid (show WK Z.heap.size n vo vu (.slice (some ⟨bz,oz,none⟩) m cz) (.slice (some ⟨bl,ol,none⟩) m cl) (.slice (some ⟨bw,ow,none⟩) n cw) h (.slice none 0 0) (.slice none 0 0) ((Z.alloc (.cells #[.int .i64 n,vo,vu,.slice (some ⟨bz,oz,none⟩) m cz,.slice (some ⟨bl,ol,none⟩) m cl,.slice (some ⟨bw,ow,none⟩) n cw,.float .f64 h,.slice none 0 0,.slice none 0 0] 115)).drewN nd) from HYA.out.1);have HBY:=hid hbY;have hbs:B+2≤Z.heap.size:=by have:=hbZ.size; omega
 clear hbZ hbA hbY p0 p1 p2 pl HYA;generalize (Z.alloc (.cells #[.int .i64 n,vo,vu,.slice (some ⟨bz,oz,none⟩) m cz,.slice (some ⟨bl,ol,none⟩) m cl,.slice (some ⟨bw,ow,none⟩) n cw,.float .f64 h,.slice none 0 0,.slice none 0 0] 115)).drewN nd=Y at *;generalize Z.heap.size=b at *;clear Z;have HWY:=hid (x5.trans (HBY.out.mono (by omega)));have HXY:=hid (HX.out.below (hB ▸ HWY.out));go_wp2_with fail;refine (uL n T vo vu _ _ _ _ _ m z l wt h b Y HXY.out HWK.out HCK.out hm h1).mono ?_;rintro e w3 ⟨rfl,hb3⟩;have HB3:=hid hb3;clear hb3;go_wp2_with fail;refine (IS.out w3).mono ?_;rintro e w4 ⟨rfl,hb4⟩;have HB4:=hid (HB3.out.trans (hb4.mono HB3.out.size));have HX4:=hid (HXY.out.below HB4.out);have HW4:=hid (HWK.out.below HB4.out);clear hb4 HB3;have HBM0:=hid (HBY.out.trans (HB4.out.mono HBY.out.size));have HBM:=hid (show Below B w w4 from HWY.out.trans (HB4.out.mono (by have:=HBY.out.size; omega)));have tp:=(HBM0.out.cell (p:=⟨B,0,none⟩) (by show B<X.heap.size; omega)).trans (zf HX1.out 0);simp only [List.getElem?_toArray,List.getElem?_cons_zero] at tp;have hpl:B<w4.heap.size:=by have:=HBM0.out.size; omega
 have hBM:B≤w4.heap.size:=by omega
 go_wp2_with (first
  | (refine wpList_make_full _ rfl _ _ _ rfl w4.heap.size 31 iF (.float .f64 0) 1 Tryz.underlying30 HF0.out HF.out.1 HF.out.2.1 .i64 .i64 (n:Int) (n:Int) n rfl rfl rfl rfl (by rw [HF.out.2.2]; omega) (by unfold maxLen; omega) (by omega) ?_)
  | fail)
 intro w5 hr5 hg5;have hb5:Below w4.heap.size w4 w5:=(Below.refl _ _).grown hg5 (by omega) (fun k hk=>by cases hk);have HO5:=hid (yI hr5);have HB5:=hid hb5;clear hr5 hg5 hb5 tp hpl;go_wp2_with fail;refine (sO n h1 h4 71 (.pointer (some ⟨b,0,none⟩)) (yW T (z 0) (z 1) wt (l 0) h n) w4.heap.size (fun _=>0) w5 _ HO5.out (fun _ _=>rfl) (fun R x W hb hr=>pm n T vo vu _ _ _ _ _ _ m z l wt x h b W ((HX4.out.below HB5.out).below hb) ((HW4.out.below HB5.out).below hb) hr HCK.out HCS.out hn h1 h4 hm)).mono ?_;rintro e w6 ⟨hb6,hd6⟩;have hbW:Below w5.heap.size w5 w6:=hb6
 have hq:w6.heap[B+1]? = some (.cells #[.slice none 0 0,.int .i64 0,.int .i64 0] 78):=by
  have:=HB5.out.size;have h0:=HBM0.out.size;rw [hb6.block (B+1) (by omega),HB5.out.block (B+1) (by omega),HBM0.out.block (B+1) (by omega)];exact HX2.out
 have q0:=zf hq 0;have q1:=zf hq 1;have q2:=zf hq 2;have f0:=zg hq 0;have f1:=zg hq 1;have f2:=zg hq 2;simp only [List.getElem?_toArray,List.getElem?_cons_zero,List.getElem?_cons_succ] at q0 q1 q2;have hs5:=HB5.out.size;have hX5:B+2≤w5.heap.size:=by have:=HBM0.out.size; omega
 have HB6:=hid (HBM.out.trans ((HB5.out.trans (hb6.mono hs5)).mono hBM));have SC:=hid (show y9 T z wt (l 0) L n false=yH (yW T (z 0) (z 1) wt (l 0) h n) n 4 (fun _=>0) from by rw [← y1,uF]; unfold y9; rw [if_neg (by decide)]);clear hb6 hq hbW;rcases hd6 with ⟨hh,R,rfl,hR⟩ | ⟨hh,rfl⟩
 ·have HK:=hid (((((zM.refl w6 (B+1)).set 0 (.slice (some ⟨R,0,none⟩) n n)).set 1 (.int .i64 (yH (yW T (z 0) (z 1) wt (l 0) h n) n 4 (fun _=>0)).tries)).set 2 (.int .i64 (yH (yW T (z 0) (z 1) wt (l 0) h n) n 4 (fun _=>0)).e)));have HH:=hid hh;have HR:=hid hR;clear hh hR;generalize yH (yW T (z 0) (z 1) wt (l 0) h n) n 4 (fun _=>0)=S at *;go_wp2_with fail;refine bodyPost_ret (v:=.agg #[.slice (some ⟨R,0,none⟩) n n,.int .i64 S.tries,.int .i64 S.e]) (by simp [results,Tryz.results39,go_sem,q0,q1,q2]) rfl ⟨by rw [hB]; exact HK.out.below HB6.out (by omega) (by have:=HB6.out.size; omega),?_⟩;rw [SC.out,hB];exact .inl ⟨HH.out,R,rfl,((HR.out.base (b':=B) (by have:=HR.out.lt; omega)).kept (HK.out.block R HR.out.lt.2 (by have:=HR.out.lt; omega)))⟩
 ·have HK:=hid (((((zM.refl w6 (B+1)).set 0 (.slice none 0 0)).set 1 (.int .i64 (yH (yW T (z 0) (z 1) wt (l 0) h n) n 4 (fun _=>0)).tries)).set 2 (.int .i64 (yH (yW T (z 0) (z 1) wt (l 0) h n) n 4 (fun _=>0)).e)));have HH:=hid hh;clear hh;generalize yH (yW T (z 0) (z 1) wt (l 0) h n) n 4 (fun _=>0)=S at *;go_wp2_with fail;refine bodyPost_ret (v:=.agg #[.slice none 0 0,.int .i64 S.tries,.int .i64 S.e]) (by simp [results,Tryz.results39,go_sem,q0,q1,q2]) rfl ⟨by rw [hB]; exact HK.out.below HB6.out (by omega) (by have:=HB6.out.size; omega),?_⟩;rw [SC.out];exact .inr ⟨HH.out,rfl⟩
theorem mX (n:Nat) (T:TD) (vo vu vz vl vw:Value) (m k:Nat) (z:Nat→Nat→Nat) (l wt:Nat→Nat) (w:World) (hx:xT w n T vo vu vz vl vw m z l wt)
  (hck:yq T=true) (hcs:∀ i,i<T.len→(T.op i).c<18446744073709551616) (hn:T.n=n) (h1:1≤n) (h4:n≤4) (hm:2≤m) (hk:k<43) :
  Calls Tryz.prog 39 #[.agg #[.int .i64 n,vo,vu],vz,vl,.int .i64 ((2 ^ k:Nat):Int),.int .i64 1,vw] w (mb n (y9 T z wt (l 0) (xh ((2 ^ k:Nat):Int)) n true) w):=by
 obtain ⟨bz,oz,cz,rfl,-,-⟩:=hx.tab.rowAt (by omega);obtain ⟨bl,ol,cl,rfl,-,-⟩:=hx.lrow.numAt (by omega);obtain ⟨bw,ow,cw,rfl,-,-⟩:=hx.wrow.numAt (by omega);have LN:=hid (fun W=>vV ((2 ^ k:Nat):Int) W);have IS:=hid (fun W=>wI k hk W);have HX:=hid hx;have HCK:=hid hck;have HCS:=hid hcs;obtain ⟨iF,hF,f1,f2,f3⟩:=info_parts xu;have HF:=hid (show iF.zero=_∧iF.size=_∧iF.bytes=_ from ⟨f1,f2,f3⟩);have HF0:=hid hF;generalize hL:xh ((2 ^ k:Nat):Int)=L at *;generalize ((2 ^ k:Nat):Int)=p at *;clear hx hck hcs hF f1 f2 f3 hk hL;have AL:=al2 w (.cells #[.int .i64 n,vo,vu] 28) (.cells #[.slice none 0 0,.int .i64 0,.int .i64 0] 78);go_enter Tryz.func39,Tryz.ntmps39;go_upto_region 1 with fail
 generalize hB:w.heap.size=B at *;generalize (w.alloc (.cells #[.int .i64 n,vo,vu] 28)).alloc (.cells #[.slice none 0 0,.int .i64 0,.int .i64 0] 78)=X at *;obtain ⟨x1,x2,x4,x5⟩:=AL;have p0:=zf x1 0;have p1:=zf x1 1;have p2:=zf x1 2;have pl:=zj x1;simp only [List.getElem?_toArray,List.getElem?_cons_zero,List.getElem?_cons_succ] at p0 p1 p2;have HX1:=hid x1;have HX2:=hid x2;clear x1 x2;refine zv [(0,3),(1,1),(2,1),(3,1),(4,1),(5,0),(6,1),(7,0),(8,1)] (fun W=>Below X.heap.size X W) (by kernel_rfl) (by kernel_rfl) (fun _ _ d _ _ h=>by cases d<;>exact h) ((Below.refl _ _).drew) ?_;intro Z hZ hbZ;clear hZ;refine zh (v:=.agg #[.int .i64 n,vo,vu]) rfl rfl (fun wk hwk=>?_) ?_
 ·rw [← (zA hwk).1 _ _ pl] at p0 p1 p2;go_simp
 iterate 4
  first
   | refine zd (fun K hK=>?_)
   | refine ze (fun K hK=>?_)
  go_simp;refine hK _ ?_;clear hK K
 refine zm (fun K hK=>?_);go_simp;refine (LN.out Z).mono ?_;rintro e w1 ⟨h,nd,rfl,y1,y2,rfl⟩;have hbA:=below_drewN hbZ nd;refine hK _ _ (fun h=>Bool.noConfusion (Eq.trans (Eq.symm (by kernel_rfl:_=false)) h)) (fun _=>hbA) ?_;clear hK K
 iterate 1
  first
   | refine zd (fun K hK=>?_)
   | refine ze (fun K hK=>?_)
  go_simp;refine hK _ ?_;clear hK K
 refine zm (fun K hK=>?_);go_simp;have HYA:=hid (al1 Z (.cells #[.int .i64 n,vo,vu,.slice (some ⟨bz,oz,none⟩) m cz,.slice (some ⟨bl,ol,none⟩) m cl,.slice (some ⟨bw,ow,none⟩) n cw,.float .f64 h,.slice none 0 0,.slice none 0 0] 115));have hbY:Below X.heap.size X ((Z.alloc (.cells #[.int .i64 n,vo,vu,.slice (some ⟨bz,oz,none⟩) m cz,.slice (some ⟨bl,ol,none⟩) m cl,.slice (some ⟨bw,ow,none⟩) n cw,.float .f64 h,.slice none 0 0,.slice none 0 0] 115)).drewN nd):=below_drewN (hbZ.trans (HYA.out.2.2.mono hbZ.size)) nd;refine hK _ _ (fun h=>Bool.noConfusion (Eq.trans (Eq.symm (by kernel_rfl:_=false)) h)) (fun _=>hbY) ?_;clear hK K
 iterate 1
  first
   | refine zd (fun K hK=>?_)
   | refine ze (fun K hK=>?_)
  go_simp;refine hK _ ?_;clear hK K
 refine zo ?_;have HWK:=hid (show WK Z.heap.size n vo vu (.slice (some ⟨bz,oz,none⟩) m cz) (.slice (some ⟨bl,ol,none⟩) m cl) (.slice (some ⟨bw,ow,none⟩) n cw) h (.slice none 0 0) (.slice none 0 0) ((Z.alloc (.cells #[.int .i64 n,vo,vu,.slice (some ⟨bz,oz,none⟩) m cz,.slice (some ⟨bl,ol,none⟩) m cl,.slice (some ⟨bw,ow,none⟩) n cw,.float .f64 h,.slice none 0 0,.slice none 0 0] 115)).drewN nd) from HYA.out.1);have HBY:=hid hbY;have hbs:B+2≤Z.heap.size:=by have:=hbZ.size; omega
 clear hbZ hbA hbY p0 p1 p2 pl HYA;generalize (Z.alloc (.cells #[.int .i64 n,vo,vu,.slice (some ⟨bz,oz,none⟩) m cz,.slice (some ⟨bl,ol,none⟩) m cl,.slice (some ⟨bw,ow,none⟩) n cw,.float .f64 h,.slice none 0 0,.slice none 0 0] 115)).drewN nd=Y at *;generalize Z.heap.size=b at *;clear Z;have HWY:=hid (x5.trans (HBY.out.mono (by omega)));have HXY:=hid (HX.out.below (hB ▸ HWY.out));go_wp2_with fail;refine (uL n T vo vu _ _ _ _ _ m z l wt h b Y HXY.out HWK.out HCK.out hm h1).mono ?_;rintro e w3 ⟨rfl,hb3⟩;have HB3:=hid hb3;clear hb3;go_wp2_with fail;refine (IS.out w3).mono ?_;rintro e w4 ⟨rfl,hb4⟩;have HB4:=hid (HB3.out.trans (hb4.mono HB3.out.size));have HX4:=hid (HXY.out.below HB4.out);have HW4:=hid (HWK.out.below HB4.out);clear hb4 HB3;go_wp2_with fail;refine (pn n T vo vu _ _ _ _ _ m z l wt h b w4 HX4.out HW4.out HCK.out HCS.out hn h1 h4 hm).mono ?_;rintro e w7 ⟨hk7,hm7⟩;have HK7:=hid hk7;have HM7:=hid hm7;have hs4:=HB4.out.size;have hsy:=HBY.out.size;have hs7:=hk7.size;have HBM0:=hid (hk7.below (HBY.out.trans (HB4.out.mono HBY.out.size)) (by omega) (by omega));clear hk7 hm7
 cases hp:yU (wF T (z 0) (l 0) h) n n with
 | none=>
  have hm:=HM7.out;rw [hp] at hm;simp only [] at hm;subst hm
  have hq:w7.heap[B+1]? = some (.cells #[.slice none 0 0,.int .i64 0,.int .i64 0] 78):=by
   rw [HBM0.out.block (B+1) (by omega)];exact HX2.out
  have q0:=zf hq 0;have q1:=zf hq 1;have q2:=zf hq 2;have f0:=zg hq 0;have f1:=zg hq 1;have f2:=zg hq 2;simp only [List.getElem?_toArray,List.getElem?_cons_zero,List.getElem?_cons_succ] at q0 q1 q2;have HB7:=hid (x5.trans (HBM0.out.mono (by omega)));have SC:=hid (show y9 T z wt (l 0) L n true=⟨fun _=>0,false,0,4⟩ from by rw [← y1,uF]; unfold y9; rw [if_pos rfl,hp]);have HK:=hid (((((zM.refl w7 (B+1)).set 0 (.slice none 0 0)).set 1 (.int .i64 0)).set 2 (.int .i64 4)));clear hq hp HM7;go_wp2_with fail;refine bodyPost_ret (v:=.agg #[.slice none 0 0,.int .i64 0,.int .i64 4]) (by simp [results,Tryz.results39,go_sem,q0,q1,q2]) rfl ⟨by rw [hB]; exact HK.out.below HB7.out (by omega) (by omega),?_⟩;rw [SC.out];exact .inr ⟨rfl,rfl⟩
 | some gq=>
  obtain ⟨g,q⟩:=gq;have hm:=HM7.out;rw [hp] at hm;simp only [] at hm;obtain ⟨rfl,pp1,pp2,hw7,ht7,hi7⟩:=hm;have HX7:=hid (HX.out.below (show Below w.heap.size w w7 by rw [hB]; exact x5.trans (HBM0.out.mono (by omega))));have HW7:=hid hw7;have HT7:=hid ht7;have HI7:=hid hi7;have HQ:=hid (sZ (Nat.le_refl _) hp);have SC0:=hid (show y9 T z wt (l 0) L n true=yH (wy T (z 0) (z 1) wt (l 0) h n g q) n 4 (fun _=>0) from by rw [← y1,uF]; unfold y9; rw [if_pos rfl,hp]);clear hw7 ht7 hi7 hp HM7;have HBM:=hid (show Below B w w7 from x5.trans (HBM0.out.mono (by omega)));have tp:=(HBM0.out.cell (p:=⟨B,0,none⟩) (by show B<X.heap.size; omega)).trans (zf HX1.out 0);simp only [List.getElem?_toArray,List.getElem?_cons_zero] at tp;have hpl:B<w7.heap.size:=by have:=HBM0.out.size; omega
  have hBM:B≤w7.heap.size:=by omega
  go_wp2_with (first
   | (refine wpList_make_full _ rfl _ _ _ rfl w7.heap.size 31 iF (.float .f64 0) 1 Tryz.underlying30 HF0.out HF.out.1 HF.out.2.1 .i64 .i64 (n:Int) (n:Int) n rfl rfl rfl rfl (by rw [HF.out.2.2]; omega) (by unfold maxLen; omega) (by omega) ?_)
   | fail)
  intro w5 hr5 hg5;have hb5:Below w7.heap.size w7 w5:=(Below.refl _ _).grown hg5 (by omega) (fun k hk=>by cases hk);have HO5:=hid (yI hr5);have HB5:=hid hb5;clear hr5 hg5 hb5 tp hpl;go_wp2_with fail;refine (sO n h1 h4 73 (.pointer (some ⟨b,0,none⟩)) (wy T (z 0) (z 1) wt (l 0) h n g q) w7.heap.size (fun _=>0) w5 _ HO5.out (fun _ _=>rfl) (fun R x W hb hr=>n7 n T vo vu _ _ _ _ _ _ m z l wt x h b g q W ((HX7.out.below HB5.out).below hb) ((HW7.out.below HB5.out).below hb) hr ((HT7.out.below HB5.out).below hb) ((HI7.out.below HB5.out).below hb) HQ.out HCK.out HCS.out hn h1 h4 hm)).mono ?_;rintro e w6 ⟨hb6,hd6⟩;have hbW:Below w5.heap.size w5 w6:=hb6
  have hq:w6.heap[B+1]? = some (.cells #[.slice none 0 0,.int .i64 0,.int .i64 0] 78):=by
   have:=HB5.out.size;have h0:=HBM0.out.size;rw [hb6.block (B+1) (by omega),HB5.out.block (B+1) (by omega),HBM0.out.block (B+1) (by omega)];exact HX2.out
  have q0:=zf hq 0;have q1:=zf hq 1;have q2:=zf hq 2;have f0:=zg hq 0;have f1:=zg hq 1;have f2:=zg hq 2;simp only [List.getElem?_toArray,List.getElem?_cons_zero,List.getElem?_cons_succ] at q0 q1 q2;have hs5:=HB5.out.size;have hX5:B+2≤w5.heap.size:=by have:=HBM0.out.size; omega
  have HB6:=hid (HBM.out.trans ((HB5.out.trans (hb6.mono hs5)).mono hBM));have SC:=hid (show y9 T z wt (l 0) L n true=yH (wy T (z 0) (z 1) wt (l 0) h n g q) n 4 (fun _=>0) from SC0.out);clear hb6 hq hbW;rcases hd6 with ⟨hh,R,rfl,hR⟩ | ⟨hh,rfl⟩
  ·have HK:=hid (((((zM.refl w6 (B+1)).set 0 (.slice (some ⟨R,0,none⟩) n n)).set 1 (.int .i64 (yH (wy T (z 0) (z 1) wt (l 0) h n g q) n 4 (fun _=>0)).tries)).set 2 (.int .i64 (yH (wy T (z 0) (z 1) wt (l 0) h n g q) n 4 (fun _=>0)).e)));have HH:=hid hh;have HR:=hid hR;clear hh hR;generalize yH (wy T (z 0) (z 1) wt (l 0) h n g q) n 4 (fun _=>0)=S at *;go_wp2_with fail;refine bodyPost_ret (v:=.agg #[.slice (some ⟨R,0,none⟩) n n,.int .i64 S.tries,.int .i64 S.e]) (by simp [results,Tryz.results39,go_sem,q0,q1,q2]) rfl ⟨by rw [hB]; exact HK.out.below HB6.out (by omega) (by have:=HB6.out.size; omega),?_⟩;rw [SC.out,hB];exact .inl ⟨HH.out,R,rfl,((HR.out.base (b':=B) (by have:=HR.out.lt; omega)).kept (HK.out.block R HR.out.lt.2 (by have:=HR.out.lt; omega)))⟩
  ·have HK:=hid (((((zM.refl w6 (B+1)).set 0 (.slice none 0 0)).set 1 (.int .i64 (yH (wy T (z 0) (z 1) wt (l 0) h n g q) n 4 (fun _=>0)).tries)).set 2 (.int .i64 (yH (wy T (z 0) (z 1) wt (l 0) h n g q) n 4 (fun _=>0)).e)));have HH:=hid hh;clear hh;generalize yH (wy T (z 0) (z 1) wt (l 0) h n g q) n 4 (fun _=>0)=S at *;go_wp2_with fail;refine bodyPost_ret (v:=.agg #[.slice none 0 0,.int .i64 S.tries,.int .i64 S.e]) (by simp [results,Tryz.results39,go_sem,q0,q1,q2]) rfl ⟨by rw [hB]; exact HK.out.below HB6.out (by omega) (by have:=HB6.out.size; omega),?_⟩;rw [SC.out];exact .inr ⟨HH.out,rfl⟩
theorem li (n:Nat) (T:TD) (vo vu vz vl vw:Value) (m k M:Nat) (z:Nat→Nat→Nat) (l wt:Nat→Nat) (w:World) (hx:xT w n T vo vu vz vl vw m z l wt)
  (hck:yq T=true) (hcs:∀ i,(T.op i).c<18446744073709551616) (hn:T.n=n) (h1:1≤n) (h4:n≤4) (hm:2≤m) (hk:k<43) (hM:M<2) :
  Calls Tryz.prog 39 #[.agg #[.int .i64 n,vo,vu],vz,vl,.int .i64 ((2 ^ k:Nat):Int),.int .i64 M,vw] w (mb n (y9 T z wt (l 0) (xh ((2 ^ k:Nat):Int)) n (M==1)) w):=by
 rcases (show M=0∨M=1 by omega) with rfl | rfl
 ·exact oP n T vo vu vz vl vw m k z l wt w hx hck (fun i _=>hcs i) hn h1 h4 hm hk
 ·exact mX n T vo vu vz vl vw m k z l wt w hx hck (fun i _=>hcs i) hn h1 h4 hm hk
def SumV (d:Nat) (S:rA) (w:World) (e:Ending) (w':World):Prop:=
 Below w.heap.size w w'∧∃ (R:Nat) (p:Option Addr),e=.returned (.agg #[.slice p d d,.int .i64 S.tries,.int .i64 S.e])∧zT w' (.slice p d d) d S.d∧w.heap.size≤R∧(∀ k,k<10→R≠w'.heap.size+k)∧(0<d→p=some ⟨R,0,none⟩∧yd w' w.heap.size R d d S.d)
theorem mb.v {n:Nat} {S:rA} {w:World} {e:Ending} {w':World} (h:mb n S w e w') (hn:n≤4):SumV (if S.has then n else 0) S w e w':=by
 obtain ⟨hb,h⟩:=h;rcases h with ⟨hh,R,rfl,ho⟩ | ⟨hh,rfl⟩
 ·rw [hh];exact ⟨hb,R,_,rfl,ho.flts (by omega),ho.lt.1,fun k _=>by have:=ho.lt.2; omega,fun _=>⟨rfl,ho⟩⟩
 ·rw [hh];exact ⟨hb,w'.heap.size+10,_,rfl,⟨_,_,rfl,by simp,fun h0=>absurd h0 (by simp)⟩,by have:=hb.size; omega,fun k hk=>by omega,fun h0=>absurd h0 (by simp)⟩
def l9 (g:(Nat→Nat)→Nat→Nat):Nat→(Nat→Nat)→Nat→Nat
 | 0,x=>x
 | j+1,x=>l9 g j (g x)
theorem oa (nx:(Nat→Nat)→(Nat→Nat) × Nat) (n:Nat):∀ (k:Nat) (x:Nat→Nat),k≤4→(yH nx n k x).has=true→(yH nx n k x).e=0∧∃ j,1≤j∧j≤k∧(yH nx n k x).tries=(4-k)+j∧(yH nx n k x).d=l9 (fun y=>(nx y).1) j x
 | 0,x,_,h=>by unfold yH at h; cases h
 | k+1,x,hk,h=>by
  unfold yH at h ⊢;split at h
  ·cases h
  ·rename_i h1
   rw [if_neg h1];split at h
   ·rename_i h2
    rw [if_pos h2];exact ⟨rfl,1,by omega,by omega,by show 4-k=4-(k+1)+1; omega,rfl⟩
   ·rename_i h2
    rw [if_neg h2];split at h
    ·cases h
    ·rename_i h3
     rw [if_neg h3];obtain ⟨a,j,b1,b2,b3,b4⟩:=oa nx n k (nx x).1 (by omega) h;exact ⟨a,j+1,by omega,by omega,by omega,b4⟩
theorem ob (nx:(Nat→Nat)→(Nat→Nat) × Nat) (n:Nat):∀ (k:Nat) (x:Nat→Nat),1≤k→k≤4→(yH nx n k x).has=false→(yH nx n k x).e≠0∧1≤(yH nx n k x).tries∧(yH nx n k x).tries≤4
 | 0,x,h,_,_=>by omega
 | k+1,x,_,hk,h=>by
  unfold yH at h ⊢;split at h
  ·rename_i h1
   rw [if_pos h1];exact ⟨show (2:Int)≠0 by decide,by show 1≤4-k; omega,by show 4-k≤4; omega⟩
  ·rename_i h1
   rw [if_neg h1];split at h
   ·cases h
   ·rename_i h2
    rw [if_neg h2];split at h
    ·rename_i h3
     rw [if_pos h3];exact ⟨show (6:Int)≠0 by decide,show 1≤4 by decide,show 4≤4 by decide⟩
    ·rename_i h3
     rw [if_neg h3];exact ob nx n k (nx x).1 (by omega) (by omega) h
end Go.Proofs.YtnlbafjmbamoeaaGreat
