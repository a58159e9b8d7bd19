/-
  Contracts (what a function tells) and plain facts that a law's proof hangs on, for every input; no condition but those in their statements. Laid together of the texts Cx, Cy, Cz.
-/
import Derived.Test.YtnlbafjmbamoeaaGreatQf
import Derived.Test.YtnlbafjmbamoeaaGreatQg
namespace Go.Proofs.YtnlbafjmbamoeaaGreat
open Go.RowKit Lib
open Ieee (double)
attribute [local go_sem] zr zi zy zn zU zS zW zX zV zY zD zH zI zJ zK zB ye z8 zF yE zN zQ zR
theorem xt {P:Program} {ops:Array Oper} {Q:Exit→Act→World→Prop} {i:Nat} {K:Act→World→Prop} {a:Act} {w:World} {o:Oper} (ho:ops[i]? = some o) (h:if Region.wanted o (yielded ops a.tmps)=true then Oper.wp P o a w K Q else K (a.put o.dst undef) w):yE P ops Q i K a w:=by
 unfold yE;rw [ho];exact h
theorem tQ {ops:Array Oper} {o:Oper} {a:Act} {w:World} {K:Act→World→Prop} {Q:Exit→Act→World→Prop} {E:Prop} (hg:o.guard=none) (s x:Operand)
  (ho:o.op=.call { callee:=.builtin .append,args:=#[s,x],argTypes:=#[30,30] })
  (B:Nat) (v:Value) (n:Nat) (qs:List Value) (hs:a.eval s=v) (hown:w.ownsRow B 31 1 v n qs) (H z:Nat) (hx:a.eval x=.slice (some ⟨H,0,none⟩) 1 1) (hz:w.cell? ⟨H,0,none⟩=some (.float .f64 z)) (hn:n≤1000) (hB:B≤w.heap.size)
  (h:∀ g cap w',w'.ownsRow B 31 1 (.slice (some ⟨g,0,none⟩) (n+1) cap) (n+1) (qs ++ [.float .f64 z])→Below B w w'→K (a.put o.dst (.slice (some ⟨g,0,none⟩) (n+1) cap)) w') :
  if Region.wanted o (yielded ops a.tmps)=true then Oper.wp Tryz.prog o a w K Q else E:=by
 obtain ⟨iF,hF,f1,f2,f3⟩:=info_parts xu;refine step_append_lies _ hg s x 30 ho B 31 iF (.float .f64 0) 1 8 Tryz.underlying30 hF f1 f2 f3 rfl (by decide) v n qs hs hown ⟨H,0,none⟩ 1 1 [.float .f64 z] hx rfl (fun j u hj=>?_) (by simp [Value.oneCell']) (by omega) (by unfold maxLen; omega) (by omega) hB _ rfl (fun g cap w' h1 h2 h3 h4=>h g cap w' h1 ((Below.refl B w).grown h2 hB (fun k hk=>(hown.lt k hk).1)))
 match j,hj with
 | 0,hj=>
  simp only [List.getElem?_cons_zero,Option.some.injEq] at hj;subst hj
  simpa [Addr.add] using hz
theorem wR (w:World) (n:Nat):(w.drewN n).heap.size=w.heap.size:=rfl
set_option maxRecDepth 100000
set_option maxHeartbeats 16000000
theorem tD (va vb:Value) (n:Nat) (hn2:n≤900) (f g:Nat→Nat) (w:World) (ha:zT w va n f) (hb:zT w vb n g) :
  Calls Tryz.prog 56 #[va,vb] w fun e w'=>∃ v,e=.returned v∧zT w' v n (fun i=>cop .sub (f i) (g i))∧Below w.heap.size w w':=by
 obtain ⟨pa,ca,rfl,hn,har⟩:=ha;obtain ⟨pb,cb,rfl,-,hbr⟩:=hb;have HAR:=hid har;have HBR:=hid hbr;clear har hbr;go_enter Tryz.func56,Tryz.ntmps56;generalize hB:w.heap.size=B at *;go_wp2_with fail
 go_loopw [5,6] (fun vr i wr=>∃ (d:Nat) (qs:List Value),d≤n∧i=.int .i64 d∧wr.ownsRow B 31 1 vr d qs∧yO qs d (fun i=>cop .sub (f i) (g i))∧Below B w wr) (fun _ i _=>n-(intOf i).toNat)
 case atStart=>exact ⟨0,[],by omega,rfl,World.ownsRow_nil _ _ _ _,yO.nil _ _,Below.refl _ _⟩
 case round=>
  obtain ⟨d,qs,hd,rfl,ho,hq,hbl⟩:=hrel;obtain ⟨vb,vcap,rfl⟩:=ym ho;by_cases hdn:d<n
  ·obtain ⟨b1,o1,rfl,hs1,hc1⟩:=HAR.out (by omega);obtain ⟨b2,o2,rfl,hs2,hc2⟩:=HBR.out (by omega);obtain ⟨y,y1,y2,y3⟩:=hc1 d hdn;obtain ⟨z,z1,z2,z3⟩:=hc2 d hdn;have HO:=hid ho;have HQ:=hid hq;have HBL:=hid hbl;have K1:=hid (fun w=>(show zk (zZ .sub w y z)=cop .sub (f d) (g d) by rw [z9,← y2,← z2,zE,zC]));have hsz:B≤wr.heap.size:=by have:=hbl.size; omega
   have hd1:(d:Int)<(n:Int):=by omega
   clear hc1 hc2 y2 z2 ho hq hbl;go_wp2_with fail;refine zv [(0,1),(1,1),(2,1),(3,1),(4,3),(5,1),(6,1),(7,1),(8,3),(9,0),(10,0),(11,0),(12,1)] (fun W=>Below B w W) (by kernel_rfl) (by kernel_rfl) (fun _ _ d _ _ h=>by cases d<;>exact h) (HBL.out.drew) ?_;intro Z hZ hbZ;have HOZ:=hid (show Z.ownsRow B 31 1 (.slice vb d vcap) d qs by rw [hZ]; exact yp HO.out 1);clear hZ
   iterate 4
    first
     | refine zd (fun K hK=>?_)
     | refine ze (fun K hK=>?_)
    go_simp;refine hK _ ?_;clear hK K
   refine zh (v:=.float .f64 y) rfl rfl (fun wk hwk=>?_) ?_
   ·rw [← hwk.cell (p:=⟨b1,o1+d,none⟩) hs1] at y1;go_simp
   iterate 3
    first
     | refine zd (fun K hK=>?_)
     | refine ze (fun K hK=>?_)
    go_simp;refine hK _ ?_;clear hK K
   refine zh (v:=.float .f64 z) rfl rfl (fun wk hwk=>?_) ?_
   ·rw [← hwk.cell (p:=⟨b2,o2+d,none⟩) hs2] at z1;go_simp
   refine zm (fun K hK=>?_);go_simp;refine hK _ _ (fun h=>Bool.noConfusion (Eq.trans (Eq.symm (by kernel_rfl:_=false)) h)) (fun _=>below_drewN hbZ _) ?_;clear hK K;refine zm (fun K hK=>?_);go_simp;have hsZ:B≤Z.heap.size:=by have:=hbZ.size; omega
   have hbZ2:Below B w ((Z.alloc (.cells #[.float .f64 (zZ .sub Z y z)] 31)).drewN (zP .sub y z)):=below_drewN (hbZ.alloc hsZ _) _;refine hK _ _ (fun h=>Bool.noConfusion (Eq.trans (Eq.symm (by kernel_rfl:_=false)) h)) (fun _=>hbZ2) ?_;clear hK K;refine zm (fun K hK=>?_);refine xt rfl ?_;refine tQ (by rfl) _ _ (by rfl) B (.slice vb d vcap) d qs (by rfl) (yp (HOZ.out.alloc _) _) Z.heap.size (zZ .sub Z y z) (by rfl) (by show (Z.alloc _).cell? _=_; rw [World.cell?_alloc_new]; rfl) (by omega) (by rw [wR]; simp; omega) (fun gg cap w' hown' hb'=>?_);have hb2:Below B w w':=hbZ2.trans hb';refine hK _ _ (fun h=>Bool.noConfusion (Eq.trans (Eq.symm (by kernel_rfl:_=false)) h)) (fun _=>hb2) ?_;clear hK K
   iterate 1
    first
     | refine zd (fun K hK=>?_)
     | refine ze (fun K hK=>?_)
    go_simp;refine hK _ ?_;clear hK K
   refine zo ?_;have hql:=HO.out.1;have HQ':=hid (HQ.out.app (by omega) (K1.out Z) (yi _ _ _ _));have HO':=hid hown';have HB2:=hid hb2;clear hown' hb' hb2 hbZ hbZ2 y1 z1;go_wp2_with fail
   go_roundw
   case rel=>exact ⟨d+1,_,by omega,by go_num,HO'.out,HQ'.out,HB2.out⟩
   case measure=>simp [intOf]; omega
  ·obtain rfl:d=n:=by omega
   have hR:=hq.row ho (by omega);go_wp2_with fail;go_ret;exact ⟨_,rfl,hR,hbl⟩
theorem pD (va vb:Value) (n:Nat) (hn2:n≤900) (f g:Nat→Nat) (w:World) (ha:zT w va n f) (hb:zT w vb n g) :
  Calls Tryz.prog 57 #[va,vb] w fun e w'=>∃ v,e=.returned v∧zT w' v n (fun i=>cop .add (f i) (g i))∧Below w.heap.size w w':=by
 obtain ⟨pa,ca,rfl,hn,har⟩:=ha;obtain ⟨pb,cb,rfl,-,hbr⟩:=hb;have HAR:=hid har;have HBR:=hid hbr;clear har hbr;go_enter Tryz.func57,Tryz.ntmps57;generalize hB:w.heap.size=B at *;go_wp2_with fail
 go_loopw [5,6] (fun vr i wr=>∃ (d:Nat) (qs:List Value),d≤n∧i=.int .i64 d∧wr.ownsRow B 31 1 vr d qs∧yO qs d (fun i=>cop .add (f i) (g i))∧Below B w wr) (fun _ i _=>n-(intOf i).toNat)
 case atStart=>exact ⟨0,[],by omega,rfl,World.ownsRow_nil _ _ _ _,yO.nil _ _,Below.refl _ _⟩
 case round=>
  obtain ⟨d,qs,hd,rfl,ho,hq,hbl⟩:=hrel;obtain ⟨vb,vcap,rfl⟩:=ym ho;by_cases hdn:d<n
  ·obtain ⟨b1,o1,rfl,hs1,hc1⟩:=HAR.out (by omega);obtain ⟨b2,o2,rfl,hs2,hc2⟩:=HBR.out (by omega);obtain ⟨y,y1,y2,y3⟩:=hc1 d hdn;obtain ⟨z,z1,z2,z3⟩:=hc2 d hdn;have HO:=hid ho;have HQ:=hid hq;have HBL:=hid hbl;have K1:=hid (fun w=>(show zk (zZ .add w y z)=cop .add (f d) (g d) by rw [z9,← y2,← z2,zE,zC]));have hsz:B≤wr.heap.size:=by have:=hbl.size; omega
   have hd1:(d:Int)<(n:Int):=by omega
   clear hc1 hc2 y2 z2 ho hq hbl;go_wp2_with fail;refine zv [(0,1),(1,1),(2,1),(3,1),(4,3),(5,1),(6,1),(7,1),(8,3),(9,0),(10,0),(11,0),(12,1)] (fun W=>Below B w W) (by kernel_rfl) (by kernel_rfl) (fun _ _ d _ _ h=>by cases d<;>exact h) (HBL.out.drew) ?_;intro Z hZ hbZ;have HOZ:=hid (show Z.ownsRow B 31 1 (.slice vb d vcap) d qs by rw [hZ]; exact yp HO.out 1);clear hZ
   iterate 4
    first
     | refine zd (fun K hK=>?_)
     | refine ze (fun K hK=>?_)
    go_simp;refine hK _ ?_;clear hK K
   refine zh (v:=.float .f64 y) rfl rfl (fun wk hwk=>?_) ?_
   ·rw [← hwk.cell (p:=⟨b1,o1+d,none⟩) hs1] at y1;go_simp
   iterate 3
    first
     | refine zd (fun K hK=>?_)
     | refine ze (fun K hK=>?_)
    go_simp;refine hK _ ?_;clear hK K
   refine zh (v:=.float .f64 z) rfl rfl (fun wk hwk=>?_) ?_
   ·rw [← hwk.cell (p:=⟨b2,o2+d,none⟩) hs2] at z1;go_simp
   refine zm (fun K hK=>?_);go_simp;refine hK _ _ (fun h=>Bool.noConfusion (Eq.trans (Eq.symm (by kernel_rfl:_=false)) h)) (fun _=>below_drewN hbZ _) ?_;clear hK K;refine zm (fun K hK=>?_);go_simp;have hsZ:B≤Z.heap.size:=by have:=hbZ.size; omega
   have hbZ2:Below B w ((Z.alloc (.cells #[.float .f64 (zZ .add Z y z)] 31)).drewN (zP .add y z)):=below_drewN (hbZ.alloc hsZ _) _;refine hK _ _ (fun h=>Bool.noConfusion (Eq.trans (Eq.symm (by kernel_rfl:_=false)) h)) (fun _=>hbZ2) ?_;clear hK K;refine zm (fun K hK=>?_);refine xt rfl ?_;refine tQ (by rfl) _ _ (by rfl) B (.slice vb d vcap) d qs (by rfl) (yp (HOZ.out.alloc _) _) Z.heap.size (zZ .add Z y z) (by rfl) (by show (Z.alloc _).cell? _=_; rw [World.cell?_alloc_new]; rfl) (by omega) (by rw [wR]; simp; omega) (fun gg cap w' hown' hb'=>?_);have hb2:Below B w w':=hbZ2.trans hb';refine hK _ _ (fun h=>Bool.noConfusion (Eq.trans (Eq.symm (by kernel_rfl:_=false)) h)) (fun _=>hb2) ?_;clear hK K
   iterate 1
    first
     | refine zd (fun K hK=>?_)
     | refine ze (fun K hK=>?_)
    go_simp;refine hK _ ?_;clear hK K
   refine zo ?_;have hql:=HO.out.1;have HQ':=hid (HQ.out.app (by omega) (K1.out Z) (yi _ _ _ _));have HO':=hid hown';have HB2:=hid hb2;clear hown' hb' hb2 hbZ hbZ2 y1 z1;go_wp2_with fail
   go_roundw
   case rel=>exact ⟨d+1,_,by omega,by go_num,HO'.out,HQ'.out,HB2.out⟩
   case measure=>simp [intOf]; omega
  ·obtain rfl:d=n:=by omega
   have hR:=hq.row ho (by omega);go_wp2_with fail;go_ret;exact ⟨_,rfl,hR,hbl⟩
theorem pE (T:TD) (z0 z1:Nat→Nat) (l0 h:Nat):yS T z0 z1 (zk l0) h=yS T z0 z1 l0 h:=by
 have e:∀ d,atF z0 d (zk l0)=atF z0 d l0:=fun d=>by
  funext i
  unfold atF;rw [zE]
 funext d i
 unfold yS;rw [e]
theorem nA (T:TD) (z0:Nat→Nat) (l0 h:Nat):wF T z0 (zk l0) h=wF T z0 l0 h:=by
 funext i j
 unfold wF;rw [zC]
theorem sb (n:Nat) (T:TD) (vo vu vz vd:Value) (m:Nat) (z:Nat→Nat→Nat) (d:Nat→Nat) (l0 h:Nat) (w:World) (hT:yG w (.agg #[.int .i64 n,vo,vu]) T) (hZ:yB w vz m (fun _=>n) z) (hd:zT w vd n d)
  (hck:yq T=true) (hcs:∀ i,i<T.len→(T.op i).c<18446744073709551616) (hn:T.n=n) (h1:1≤n) (h4:n≤4) (hm:2≤m) :
  Calls Tryz.prog 54 #[.agg #[.int .i64 n,vo,vu],vz,.float .f64 l0,.float .f64 h,vd] w fun e w'=>∃ v,e=.returned v∧zT w' v n (yS T (z 0) (z 1) l0 h d)∧Below w.heap.size w w':=by
 obtain ⟨bz,oz,cz,rfl,hbz,hz⟩:=hZ.rowAt (by omega);obtain ⟨pz0,cz0,z0,hz0⟩:=hz 0 (by omega);obtain ⟨pz1,cz1,z1,hz1⟩:=hz 1 (by omega);obtain ⟨b0,o0,c0,hv0,hb0,hr0⟩:=hz0.numAt (by omega);obtain ⟨b1,o1,c1,hv1,hb1,hr1⟩:=hz1.numAt (by omega);simp only [Value.slice.injEq,true_and] at hv0 hv1;obtain ⟨rfl,rfl⟩:=hv0;obtain ⟨rfl,rfl⟩:=hv1;obtain ⟨bd,od,cd,rfl,hbd,hdr⟩:=hd.numAt (by omega);rw [Nat.add_zero] at z0;have hlo:=rQ hck hn;have EV:=hid (fun (W:World) (vy:Value) (hb:Below w.heap.size w W) hy=>uM T (.agg #[.int .i64 n,vo,vu]) vy (atF (z 0) d l0) W (hT.below hb) hck hcs n hn hy);rw [hlo.1] at EV;have HR0:=hid hr0;have HR1:=hid hr1;have HDR:=hid hdr;obtain ⟨iF,hF,f1,f2,f3⟩:=info_parts xu;have HF:=hid (show iF.zero=_∧iF.size=_∧iF.bytes=_ from ⟨f1,f2,f3⟩);have HF0:=hid hF;have hm0:0<m:=by omega
 have hm1:(1:Int)<(m:Int):=by omega
 have AL:=al1 w (.cells #[.int .i64 n,vo,vu] 28);clear hT hZ hd hck hcs hz hz0 hz1 hr0 hr1 hdr hF f1 f2 f3 hlo;go_enter Tryz.func54,Tryz.ntmps54;go_upto_region 1 with fail
 generalize hB:w.heap.size=B at *;generalize w.alloc (.cells #[.int .i64 n,vo,vu] 28)=X at *;obtain ⟨x1,x4,x5⟩:=AL;have HX1:=hid x1;clear x1;go_upto_region 2 with fail
 go_upto_block 0 with fail
 go_cut [11] (fun vy wx=>zT wx vy n (atF (z 0) d l0)∧Below (B+1) X wx)
 case first=>
  go_wp2_with fail
  go_loopw [11,13] (fun vr i wr=>∃ (e:Nat) (qs:List Value),e≤n∧i=.int .i64 e∧wr.ownsRow (B+1) 31 1 vr e qs∧yO qs e (atF (z 0) d l0)∧Below (B+1) X wr) (fun _ i _=>n-(intOf i).toNat)
  case atStart=>exact ⟨0,[],by omega,rfl,World.ownsRow_nil _ _ _ _,yO.nil _ _,Below.refl _ _⟩
  case round=>
   obtain ⟨e,qs,he,rfl,ho,hq,hbl⟩:=hrel;obtain ⟨va,vcap,rfl⟩:=ym ho;by_cases hen:e<n
   ·obtain ⟨y,y1,y2,y3⟩:=HR0.out e hen;obtain ⟨u,u1,u2,u3⟩:=HDR.out e hen;have hbw:Below B w wr:=x5.trans (hbl.mono (by omega));have hsz:=hbl.size;rw [← hbw.cell (p:=⟨b0,o0+e,none⟩) hb0] at y1;rw [← hbw.cell (p:=⟨bd,od+e,none⟩) hbd] at u1;have lz0:=(hbw.cell (p:=⟨bz,oz,none⟩) hbz).trans z0;have K1:=hid (fun w v=>qv w v y2 (rfl:zk l0=zk l0) u2);have KA:=hid (show cop .add (z 0 e) (cop .mul (zk l0) (d e))=atF (z 0) d l0 e by unfold atF; rw [zE]);have HO:=hid ho;have HQ:=hid hq;have HBL:=hid hbl;have e1:(e:Int)<(n:Int):=by omega
    clear y2 u2 ho hq hbl hbw
    go_wp2_with (first
     | (at_builtin; refine wpList_append_own_at _ rfl _ _ 30 rfl (B+1) 31 iF (.float .f64 0) 1 8 Tryz.underlying30 HF0.out HF.out.1 HF.out.2.1 HF.out.2.2 rfl (by decide) (.slice va e vcap) e qs rfl (yp (HO.out.alloc _) _) ⟨wr.heap.size,0,none⟩ 1 1 [.float .f64 _] rfl rfl (uj _ _ 31 _) (by simp [Value.oneCell']) (by unfold maxLen; omega) (by omega) (yK _ _ _ (by omega)) ?_)
     | go_in)
    intro v' w2 hown' hgrow _ _;have hb2:Below (B+1) wr w2:=(below_drewN ((Below.refl (B+1) wr).alloc (by omega) _) _).trans (yv (yp (HO.out.alloc _) _) (Nat.le_refl _) (yK _ _ _ (by omega)) hgrow);have hql:=HO.out.1;have HQ':=hid (HQ.out.app (by omega) ((K1.out (wr.drewN (zP .mul l0 u)) wr).trans KA.out) (yi _ _ _ _));have HO':=hid hown';have HB2:=hid (HBL.out.trans hb2);clear hown' hgrow hb2 y1 u1 lz0;go_wp2_with fail
    go_roundw
    case rel=>exact ⟨e+1,_,by omega,by go_num,HO'.out,HQ'.out,HB2.out⟩
    case measure=>simp [intOf]; omega
   ·obtain rfl:e=n:=by omega
    have hR:=hq.row ho (by omega);go_wp2_with fail;go_meet;exact ⟨hR,hbl⟩
 case rest=>
  obtain ⟨hy,hbl⟩:=hcut;obtain ⟨py,cy,rfl,-,-⟩:=id hy;have HY:=hid hy;have HBL:=hid hbl;have hsz:=hbl.size;have hbx:=(hbl.block B (by omega)).trans HX1.out;have p0:=zf hbx 0;have p1:=zf hbx 1;have p2:=zf hbx 2;simp only [List.getElem?_toArray,List.getElem?_cons_zero,List.getElem?_cons_succ] at p0 p1 p2;have EC:=hid (EV.out wc _ (x5.trans (hbl.mono (by omega))) hy);clear hy hbl hbx;go_wp2_with fail;refine EC.out.mono ?_;rintro e w3 ⟨vf,rfl,hf,hb3⟩;obtain ⟨bf,of,cf,rfl,hbf,hfr⟩:=(show zT w3 vf n _ from hf).numAt (by omega);have HFR:=hid hfr;have hb3s:=hb3.size;have HB3:=hid (HBL.out.trans (hb3.mono (by omega)));have HY3:=hid (HY.out.below hb3);clear hf hfr hb3 p0 p1 p2 EC HY;go_wp2_with fail;generalize hHe:w3.heap.size=H at *
  go_loopw [12,16] (fun vr i wr=>∃ (e:Nat) (qs:List Value),e≤n∧i=.int .i64 e∧wr.ownsRow H 31 1 vr e qs∧yO qs e (yS T (z 0) (z 1) l0 h d)∧Below H w3 wr) (fun _ i _=>n-(intOf i).toNat)
  case atStart=>exact ⟨0,[],by omega,rfl,World.ownsRow_nil _ _ _ _,yO.nil _ _,Below.refl _ _⟩
  case round=>
   obtain ⟨e,qs,he,rfl,ho,hq,hbl⟩:=hrel;obtain ⟨va,vcap,rfl⟩:=ym ho;by_cases hen:e<n
   ·obtain ⟨y,y1,y2,y3⟩:=HFR.out e hen;obtain ⟨u,u1,u2,u3⟩:=HR1.out e hen;have hbw:Below B w wr:=x5.trans ((HB3.out.mono (by omega)).trans (hbl.mono (by omega)));have hsz2:=hbl.size;rw [← hbl.cell (p:=⟨bf,of+e,none⟩) hbf] at y1;rw [← hbw.cell (p:=⟨b1,o1+e,none⟩) hb1] at u1;have lz1:=(hbw.cell (p:=⟨bz,oz+1,none⟩) hbz).trans z1;have K1:=hid (fun w v=>rW w v (l:=h) y2 u2);have HO:=hid ho;have HQ:=hid hq;have HBL2:=hid hbl;have e1:(e:Int)<(n:Int):=by omega
    clear y2 u2 ho hq hbl hbw
    go_wp2_with (first
     | (at_builtin; refine wpList_append_own_at _ rfl _ _ 30 rfl H 31 iF (.float .f64 0) 1 8 Tryz.underlying30 HF0.out HF.out.1 HF.out.2.1 HF.out.2.2 rfl (by decide) (.slice va e vcap) e qs rfl (yp (HO.out.alloc _) _) ⟨wr.heap.size,0,none⟩ 1 1 [.float .f64 _] rfl rfl (uj _ _ 31 _) (by simp [Value.oneCell']) (by unfold maxLen; omega) (by omega) (yK _ _ _ (by omega)) ?_)
     | go_in)
    intro v' w4 hown' hgrow _ _;have hb2:Below H wr w4:=(below_drewN ((Below.refl H wr).alloc (by omega) _) _).trans (yv (yp (HO.out.alloc _) _) (Nat.le_refl _) (yK _ _ _ (by omega)) hgrow);have hql:=HO.out.1;have HQ':=hid (HQ.out.app (f:=yS T (z 0) (z 1) l0 h d) (by omega) (K1.out (wr.drewN (zP .mul h y)) wr) (yi _ _ _ _));have HO':=hid hown';have HB2:=hid (HBL2.out.trans hb2);clear hown' hgrow hb2 y1 u1 lz1;go_wp2_with fail
    go_roundw
    case rel=>exact ⟨e+1,_,by omega,by go_num,HO'.out,HQ'.out,HB2.out⟩
    case measure=>simp [intOf]; omega
   ·obtain rfl:e=n:=by omega
    have hR:=hq.row ho (by omega);have HBB:=hid (x5.trans ((HB3.out.mono (show B≤B+1 by omega)).trans (hbl.mono (show B≤H by omega))));go_wp2_with fail;go_ret;exact ⟨_,rfl,hR,by rw [hB]; exact HBB.out⟩
theorem tE (n:Nat) (T:TD) (vo vu vz:Value) (m:Nat) (z:Nat→Nat→Nat) (l0 h:Nat) (w:World) (hT:yG w (.agg #[.int .i64 n,vo,vu]) T) (hZ:yB w vz m (fun _=>n) z)
  (hck:yq T=true) (hcs:∀ i,i<T.len→(T.op i).c<18446744073709551616) (hn:T.n=n) (h1:1≤n) (h4:n≤4) (hm:2≤m) :
  Calls Tryz.prog 53 #[.agg #[.int .i64 n,vo,vu],vz,.float .f64 l0,.float .f64 h] w (s9 n (yU (wF T (z 0) l0 h) n n) w):=by
 obtain ⟨bz,oz,cz,rfl,hbz,hz⟩:=hZ.rowAt (by omega);obtain ⟨pz0,cz0,z0,hz0⟩:=hz 0 (by omega);rw [Nat.add_zero] at z0;have JC:=hid (fun (W:World) (hb:Below w.heap.size w W)=>oQ T _ (.slice pz0 n cz0) (z 0) W (hT.below hb) hck hcs n hn (hz0.below hb));have hm0:0<m:=by omega
 have AL:=al2 w (.cells #[.int .i64 n,vo,vu] 28) (.cells #[.slice none 0 0,.slice none 0 0] 94);clear hT hZ hck hcs hz hz0;go_enter Tryz.func53,Tryz.ntmps53;go_upto_region 1 with fail
 generalize hB:w.heap.size=B at *;generalize (w.alloc (.cells #[.int .i64 n,vo,vu] 28)).alloc (.cells #[.slice none 0 0,.slice none 0 0] 94)=X at *;obtain ⟨x1,x2,x4,x5⟩:=AL;have p0:=zf x1 0;have p1:=zf x1 1;have p2:=zf x1 2;have pl:=zj x1;simp only [List.getElem?_toArray,List.getElem?_cons_zero,List.getElem?_cons_succ] at p0 p1 p2;have HX2:=hid x2;have z0':=(x5.cell (p:=⟨bz,oz,none⟩) hbz).trans z0;have hbz':bz<X.heap.size:=by omega
 clear x1 x2 z0;refine zv [(0,3),(1,1),(2,1),(3,3),(4,0),(5,1)] (fun W=>Below X.heap.size X W) (by kernel_rfl) (by kernel_rfl) (fun _ _ d _ _ h=>by cases d<;>exact h) ((Below.refl _ _).drew) ?_;intro Z hZ hbZ;clear hZ;refine zh (v:=.agg #[.int .i64 n,vo,vu]) rfl rfl (fun wk hwk=>?_) ?_
 ·rw [← (zA hwk).1 _ _ pl] at p0 p1 p2;go_simp
 iterate 2
  first
   | refine zd (fun K hK=>?_)
   | refine ze (fun K hK=>?_)
  go_simp;refine hK _ ?_;clear hK K
 refine zh (v:=.slice pz0 n cz0) rfl rfl (fun wk hwk=>?_) ?_
 ·rw [← (zA hwk).1 _ _ hbz'] at z0';go_simp
 refine zm (fun K hK=>?_);go_simp;refine (JC.out Z (x5.trans (hbZ.mono (by omega)))).mono ?_;rintro e w1 ⟨G,cG,blk,cp,rfl,hg,hb1⟩;have hbA:=hbZ.trans (hb1.mono hbZ.size);refine hK _ _ (fun h=>Bool.noConfusion (Eq.trans (Eq.symm (by kernel_rfl:_=false)) h)) (fun _=>hbA) ?_;clear hK K
 iterate 1
  first
   | refine zd (fun K hK=>?_)
   | refine ze (fun K hK=>?_)
  go_simp;refine hK _ ?_;clear hK K
 refine zo ?_;have hsA:=hbA.size;have HG:=hid (hg.base (b':=B+2) (by have:=hbZ.size; omega));have HBA:=hid hbA;clear hbZ hg hb1 hbA p0 p1 p2 z0' pl hbz';go_upto_region 3 with fail
 have HY:=hid (show zk (zZ .mul w1 h l0)=cop .mul h l0 from z9 _ _ _ _);have HG1:=hid (show yD (w1.drewN (zP .mul h l0)) (B+2) G n n blk cp _ from HG.out.below (below_drewN (Below.refl _ _) _));have HB1:=hid (below_drewN HBA.out (zP .mul h l0));generalize w1.drewN (zP .mul h l0)=W2 at *;generalize zZ .mul w1 h l0=by_ at *;have hOF:=hid (show ∀ i j,wF T (z 0) l0 h i j=cop .sub (if i=j then 4607182418800017408 else 0) (cop .mul (zk by_) (dvR T.op (z 0) (T.out i).toNat j)) from fun i j=>by rw [HY.out]; rfl);generalize wF T (z 0) l0 h=N at *;generalize hJe:(fun i=>dvR T.op (z 0) (T.out i).toNat)=J at *;have HJ:=hid (show ∀ i,dvR T.op (z 0) (T.out i).toNat=J i from fun i=>by rw [← hJe]);have HG0:=hid (HG1.out.congr (fun a c _ _=>(vW N J a c).symm));clear hJe HG HG1 HY HBA;go_wp2_with fail
 go_loopw [12] (fun i wr=>∃ e:Nat,e≤n∧i=.int .i64 e∧yD wr (B+2) G n n blk cp (xQ N J e 0)∧Below (B+2) X wr) (fun i _=>n-(intOf i).toNat)
 case atStart=>exact ⟨0,by omega,rfl,HG0.out,HB1.out.mono (by omega)⟩
 case round=>
  clear HG0 HB1;obtain ⟨e,he,rfl,hg,hbl⟩:=hrel;by_cases hen:e<n
  ·have HG:=hid hg;have HBL:=hid hbl;have e1:(e:Int)<(n:Int):=by omega
   clear hg hbl;go_wp2_with fail;generalize wr=WO at *
   go_loopw [13] (fun i wr=>∃ c:Nat,c≤n∧i=.int .i64 c∧yD wr (B+2) G n n blk cp (xQ N J e c)∧Below (B+2) X wr) (fun i _=>n-(intOf i).toNat)
   case atStart=>exact ⟨0,by omega,rfl,HG.out,HBL.out⟩
   case round=>
    clear HG HBL;obtain ⟨c,hc,rfl,hg,hbl⟩:=hrel;by_cases hcn:c<n
    ·obtain ⟨u,u1,u2,u3⟩:=(hg.row e hen).cell hcn;have r0:=hg.ref e hen;have f1:=(hg.row e hen).free c;have hR1:=(hg.row e hen).lt;have c1:(c:Int)<(n:Int):=by omega
     rw [sw] at u2;have K1:=hid (fun w v=>nw w v (o:=if e=c then 4607182418800017408 else 0) (rfl:zk by_=zk by_) u2);have HN:=hid (show cop .sub (if e=c then 4607182418800017408 else 0) (cop .mul (zk by_) (J e c))=N e c by rw [hOF.out e c,HJ.out e]);have HG:=hid hg;have HBL:=hid hbl;clear u2 hg hbl
     have fin:∀ o,(o=if e=c then 4607182418800017408 else 0)→∀ (W1:World),yD ((wr.setCell ⟨blk e,c,none⟩ (.float .f64 (zZ .sub W1 o (zZ .mul wr by_ u)))).drewN (zP .mul by_ u+zP .sub o (zZ .mul wr by_ u))) (B+2) G n n blk cp (xQ N J e (c+1))∧Below (B+2) X ((wr.setCell ⟨blk e,c,none⟩ (.float .f64 (zZ .sub W1 o (zZ .mul wr by_ u)))).drewN (zP .mul by_ u+zP .sub o (zZ .mul wr by_ u))):=fun o ho W1=>by
      subst ho;refine ⟨?_,below_drewN (HBL.out.setCell (p:=⟨blk e,c,none⟩) hR1.1 _) _⟩;have g1:=HG.out.set hen hcn ((K1.out W1 wr).trans HN.out) (yi .sub W1 _ _);exact ((g1.congr (fun a d _ _=>tC N J e c a d)):yD _ _ _ _ _ _ _ _).below (below_drewN (Below.refl _ _) _)
     have FIN:=hid fin;clear fin;by_cases hec:e=c
     ·have hcc:((e:Int)==c)=true:=by simp; omega
      have FX:=hid (fun W=>FIN.out 4607182418800017408 (by rw [if_pos hec]) W);clear hec FIN K1;go_wp2_with fail
      go_roundw
      case rel=>exact ⟨c+1,by omega,by go_num,FX.out _⟩
      case measure=>simp [intOf]; omega
     ·have hcc:((e:Int)==c)=false:=by simp; omega
      have FX:=hid (fun W=>FIN.out 0 (by rw [if_neg hec]) W);clear hec FIN K1;go_wp2_with fail
      go_roundw
      case rel=>exact ⟨c+1,by omega,by go_num,FX.out _⟩
      case measure=>simp [intOf]; omega
    ·obtain rfl:c=n:=by omega
     have HGN:=hid (hg.congr (fun a d _ hd=>tA N J e c a d hd));clear hg;go_wp2_with fail
     go_roundw
     case rel=>exact ⟨e+1,by omega,by go_num,HGN.out,hbl⟩
     case measure=>simp [intOf]; omega
  ·obtain rfl:e=n:=by omega
   have HGN:=hid (hg.congr (fun a d ha _=>tB N J e a d ha));have HBL:=hid (show Below (B+2) X wr from hbl);have hsl:=hbl.size;have PT:=hid (pC e (.slice (some ⟨G,0,none⟩) e cG) N wr (HGN.out.tab (by omega) (by omega)) h1 (by omega));clear hg hbl hOF;go_wp2_with fail;refine PT.out.mono ?_;rintro e' w3 ⟨hb3,hm3⟩;have hbA:=HBL.out.trans (hb3.mono (by omega));have hq:=(hbA.block (B+1) (by omega)).trans HX2.out;have q0:=zf hq 0;have q1:=zf hq 1;have f0:=zg hq 0;have f1:=zg hq 1;simp only [List.getElem?_toArray,List.getElem?_cons_zero,List.getElem?_cons_succ] at q0 q1;have HB3:=hid (x5.trans (hbA.mono (by omega)));have hs3:=hb3.size
   cases hp:yU N e e with
   | none=>
    rw [hp] at hm3;simp only [] at hm3;subst hm3;have HK:=hid (((zM.refl w3 (B+1)).set 0 (.slice none 0 0)).set 1 (.slice none 0 0));clear hbA hq hb3;go_wp2_with fail;refine bodyPost_ret (v:=.tuple #[.agg #[.slice none 0 0,.slice none 0 0],.bool false]) (by simp [results,Tryz.results53,go_sem,q0,q1]) rfl ⟨by rw [hB]; exact HK.out.below HB3.out (by omega) (by omega),by rw [hp]⟩
   | some gq=>
    obtain ⟨g,q⟩:=gq;rw [hp] at hm3;simp only [] at hm3;obtain ⟨G2,R2,c1,c2,blk2,cap2,rfl,hg2,hi2,hne,hne2⟩:=hm3;have HK:=hid (((zM.refl w3 (B+1)).set 0 (.slice (some ⟨G2,0,none⟩) e c1)).set 1 (.slice (some ⟨R2,0,none⟩) e c2));have HG2:=hid hg2;have HI2:=hid hi2;have hG2:=hg2.lo;have hR2:=hi2.lt;clear hbA hq hb3 hg2 hi2;go_wp2_with fail;refine bodyPost_ret (v:=.tuple #[.agg #[.slice (some ⟨G2,0,none⟩) e c1,.slice (some ⟨R2,0,none⟩) e c2],.bool true]) (by simp [results,Tryz.results53,go_sem,q0,q1]) rfl ⟨by rw [hB]; exact HK.out.below HB3.out (by omega) (by omega),?_⟩;rw [hp];have hlo:∀ i,i<e→B+1≠blk2 i:=fun i hi=>by have:=(HG2.out.row i hi).lt; omega
    exact ⟨G2,R2,c1,c2,blk2,cap2,rfl,(((HG2.out.setOther (by omega) hlo _).setOther (by omega) hlo _).base (by omega)),(((HI2.out.other (by omega) _).other (by omega) _).base (by omega)),hne,hne2⟩
theorem rj (nx:(Nat→Nat)→(Nat→Nat) × Nat) (n k:Nat) (x:Nat→Nat):yH nx n (k+1) x=if wa n (fun i=>xi ((nx x).1 i))=false then ⟨x,false,4-k,2⟩ else if leB (nx x).2 4562146422526312448 then ⟨(nx x).1,true,4-k,0⟩ else if k=0 then ⟨x,false,4,6⟩ else yH nx n k (nx x).1:=rfl
theorem kx (T:TD) (z0 z1 wt:Nat→Nat) (l0 h n:Nat) (g:Nat→Nat→Nat) (q:Nat→Nat):wy T z0 z1 wt (zk l0) h n g q=wy T z0 z1 wt l0 h n g q:=by
 funext d
 unfold wy;rw [pE]
theorem lk (T:TD) (z0 z1 wt:Nat→Nat) (l0 h n:Nat):yW T z0 z1 wt (zk l0) h n=yW T z0 z1 wt l0 h n:=by
 funext d
 unfold yW;rw [pE]
def lm (n:Nat) (S:rA) (w:World) (e:Ending) (w':World):Prop:=
 Below w.heap.size w w'∧((S.has=true∧∃ v,e=.returned (.agg #[v,.int .i64 S.tries,.int .i64 S.e])∧zT w' v n S.d)∨(S.has=false∧e=.returned (.agg #[.slice none 0 0,.int .i64 S.tries,.int .i64 S.e])))
theorem zT.kept {X W:World} {q n:Nat} {v:Value} {f:Nat→Nat} (h:zT X v n f) (hk:zM X q W) (hn:∀ k,v.ownBlock=some k→k≠q):zT W v n f:=by
 obtain ⟨a,c,rfl,h1,h2⟩:=h;refine ⟨a,c,rfl,h1,fun h0=>?_⟩;obtain ⟨b,o,rfl,hb,hc⟩:=h2 h0;exact ⟨b,o,rfl,Nat.lt_of_lt_of_le hb hk.size,fun i hi=>(hc i hi).same (hk.cell hb (hn b rfl) _)⟩
theorem ls {w:World} {b:Nat} {t:TypeId} {v:Value} {n:Nat} {f:Nat→Nat} (h:w.heap[b]? = some (.cells #[.slice none 0 0,.int .i64 0,.int .i64 0] t)) (hr:zT w v n f) (h0:0<n) (k:Nat) (hk:v.ownBlock=some k):k≠b:=by
 rintro rfl;obtain ⟨a,c,rfl,h1,h2⟩:=hr;obtain ⟨b',o,rfl,hb,hc⟩:=h2 h0;simp only [Value.ownBlock,Option.some.injEq] at hk;subst hk;obtain ⟨y,y1,-⟩:=hc 0 h0;rw [zf h] at y1
 match o,y1 with
 | 0,y1=>simp at y1
 | 1,y1=>simp at y1
 | 2,y1=>simp at y1
 | _+3,y1=>simp at y1
theorem oc (n:Nat) (T:TD) (vo vu vz vl vw:Value) (m:Nat) (t:Int) (z:Nat→Nat→Nat) (l wt:Nat→Nat) (w:World) (hx:xT w n T vo vu vz vl vw m z l wt)
  (hck:yq T=true) (hcs:∀ i,i<T.len→(T.op i).c<18446744073709551616) (hn:T.n=n) (h1:1≤n) (h4:n≤4) (hm:2≤m) :
  Calls Tryz.prog 27 #[.agg #[.int .i64 n,vo,vu],vz,vl,.int .i64 t,.int .i64 0,vw] w (lm n (y9 T z wt (l 0) (xh t) n false) w):=by
 obtain ⟨bl,ol,cl,rfl,hbl',hl⟩:=hx.lrow.numAt (by omega);obtain ⟨y0,ly1,ly2,ly3⟩:=hl 0 (by omega);rw [Nat.add_zero] at ly1;obtain ⟨bz,oz,cz,rfl,-,-⟩:=hx.tab.rowAt (by omega);obtain ⟨bw,ow,cw,rfl,-,-⟩:=hx.wrow.numAt (by omega);have hm0:0<m:=by omega
 have HX:=hid hx;have HCK:=hid hck;have HCS:=hid hcs;obtain ⟨iF,hF,f1,f2,f3⟩:=info_parts xu;have HF:=hid (show iF.zero=_∧iF.size=_∧iF.bytes=_ from ⟨f1,f2,f3⟩);have HF0:=hid hF;have LY2:=hid ly2;clear hx hck hcs hF f1 f2 f3 hl ly2;have AL:=al2 w (.cells #[.int .i64 n,vo,vu] 28) (.cells #[.slice none 0 0,.int .i64 0,.int .i64 0] 60);go_enter Tryz.func27,Tryz.ntmps27;go_upto_region 1 with fail
 generalize hB:w.heap.size=B at *;generalize (w.alloc (.cells #[.int .i64 n,vo,vu] 28)).alloc (.cells #[.slice none 0 0,.int .i64 0,.int .i64 0] 60)=X at *;obtain ⟨x1,x2,x4,x5⟩:=AL;have HX1:=hid x1;have HX2:=hid x2;clear x1 x2;go_wp2_with fail;refine (ve t X).mono ?_;rintro e w1 ⟨h,nd,rfl,y1,y2,rfl⟩;have Y1:=hid y1;have hbX:Below X.heap.size X (X.drewN nd):=below_drewN (Below.refl _ _) nd;have hp0:=(hbX.cell (p:=⟨B,0,none⟩) (by show B<X.heap.size; omega)).trans (zf HX1.out 0);simp only [List.getElem?_toArray,List.getElem?_cons_zero] at hp0;have hpl:B<(X.drewN nd).heap.size:=by show B<X.heap.size; omega
 have hXs:(X.drewN nd).heap.size=B+2:=x4;have HBX:=hid hbX;have HXS:=hid hXs;clear y1 hbX hXs;generalize X.drewN nd=X1 at *
 go_wp2_with (first
  | (refine wpList_make_full _ rfl _ _ _ rfl (B+2) 31 iF (.float .f64 0) 1 Tryz.underlying30 HF0.out HF.out.1 HF.out.2.1 .i64 .i64 (n:Int) (n:Int) n rfl rfl rfl rfl (by rw [HF.out.2.2]; omega) (by unfold maxLen; omega) (by rw [HXS.out]; exact Nat.le_refl _) ?_)
  | fail)
 intro w2 hr2 hg2;have hb2:Below (B+2) X1 w2:=(Below.refl _ _).grown hg2 (by have:=HXS.out; omega) (fun k hk=>by cases hk);have HO2:=hid (yI hr2);have HB2:=hid ((HBX.out.mono (show B+2≤X.heap.size by omega)).trans hb2);clear hr2 hg2 hb2 hp0 hpl;go_upto_region 4 with fail
 have LA:=hid (al1 w2 (.cells #[.slice none 0 0,.slice none 0 0] 94));have HB3:=hid (HB2.out.trans (LA.out.2.2.mono (by have:=HB2.out.size; omega)));have HO3:=hid (HO2.out.below LA.out.2.2 HO2.out.lt.2);have HL3:=hid LA.out.1;have hLBs:B+2<w2.heap.size:=by have:=HO2.out.lt; rw [HXS.out] at this; omega
 have hL3s:w2.heap.size<(w2.alloc (.cells #[.slice none 0 0,.slice none 0 0] 94)).heap.size:=by have:=LA.out.2.1; omega
 clear LA HO2;generalize hLBe:w2.heap.size=LB at *;generalize w2.alloc (.cells #[.slice none 0 0,.slice none 0 0] 94)=W at *;have HXW:=hid (HX.out.below (show Below w.heap.size w W by rw [hB]; exact x5.trans (HB3.out.mono (by omega))));have SC:=hid (show y9 T z wt (l 0) (xh t) n false=yH (yW T (z 0) (z 1) wt y0 h n) n 4 (fun _=>0) from by rw [← Y1.out,← LY2.out,uF]; unfold y9; rw [if_neg (by decide),lk]);generalize hS:yH (yW T (z 0) (z 1) wt y0 h n) n 4 (fun _=>0)=S at *;have HS:=hid hS;have HBW:=hid HB3.out;clear hS HB2 HB3;have hLW:=hL3s;generalize hHe:W.heap.size=H at *;go_wp2_with fail
 go_loopw [14,18] (fun v kk wr=>∃ (k:Nat) (x:Nat→Nat),1≤k∧k≤4∧kk=.int .i64 k∧zT wr v n x∧yH (yW T (z 0) (z 1) wt y0 h n) n (5-k) x=S∧Below H W wr) (fun _ kk _=>5-(intOf kk).toNat)
 case atStart=>exact ⟨1,_,by omega,by omega,rfl,HO3.out.flts (by omega),HS.out,Below.refl _ _⟩
 case round=>
  clear HO3 HS;obtain ⟨k,x,hk1,hk4,rfl,hxr,hs,hbl⟩:=hrel;obtain ⟨k',hk'⟩:∃ k',5-k=k'+1:=⟨4-k,by omega⟩;rw [hk',rj,show 4-k'=k by omega] at hs;have HXR:=hid hxr;obtain ⟨px,cx,rfl,-,-⟩:=id hxr;have HS:=hid hs;have HBL:=hid hbl;have hbs:H≤wr.heap.size:=by have:=hbl.size; omega
  have hkk:k+k'=4:=by omega
  have HXr:=hid (HXW.out.below (hHe ▸ hbl));have p0:=((hbl.cell (p:=⟨B,0,none⟩) (by show B<H; omega)).trans (HBW.out.cell (p:=⟨B,0,none⟩) (by show B<B+2; omega))).trans (zf HX1.out 0);have p1:=((hbl.cell (p:=⟨B,1,none⟩) (by show B<H; omega)).trans (HBW.out.cell (p:=⟨B,1,none⟩) (by show B<B+2; omega))).trans (zf HX1.out 1);have p2:=((hbl.cell (p:=⟨B,2,none⟩) (by show B<H; omega)).trans (HBW.out.cell (p:=⟨B,2,none⟩) (by show B<B+2; omega))).trans (zf HX1.out 2);simp only [List.getElem?_toArray,List.getElem?_cons_zero,List.getElem?_cons_succ] at p0 p1 p2;have hpl:B<wr.heap.size:=by omega
  have lyW:=((hbl.cell (p:=⟨bl,ol,none⟩) (by show bl<H; omega)).trans (HBW.out.cell (p:=⟨bl,ol,none⟩) (by show bl<B+2; omega))).trans ((x5.cell (p:=⟨bl,ol,none⟩) hbl').trans ly1);have hblW:bl<wr.heap.size:=by omega
  have RES:=hid (fun W' (hW:Below H W W')=>(show W'.heap[B+1]? = some (.cells #[.slice none 0 0,.int .i64 0,.int .i64 0] 60) from ((hW.block (B+1) (by omega)).trans (HBW.out.block (B+1) (by omega))).trans HX2.out));have FINB:=hid (fun W' W2 (hW:Below H W W') (hk:zM W' (B+1) W2)=>(show Below B w W2 from hk.below (x5.trans ((HBW.out.mono (show B≤B+2 by omega)).trans (hW.mono (by omega)))) (by omega) (by have:=hW.size; omega)));clear hs hxr hbl hk';go_wp2_with fail;refine zv [(0,3),(1,1),(2,1),(3,1),(4,3),(5,1),(6,1),(7,0),(8,1)] (fun W'=>Below wr.heap.size wr W') (by kernel_rfl) (by kernel_rfl) (fun _ _ d _ _ h=>by cases d<;>exact h) ((Below.refl _ _).drew) ?_;intro Z hZ hbZ;clear hZ;refine zh (v:=.agg #[.int .i64 n,vo,vu]) rfl rfl (fun wk hwk=>?_) ?_
  ·rw [← (zA hwk).1 _ _ hpl] at p0 p1 p2;go_simp
  iterate 3
   first
    | refine zd (fun K hK=>?_)
    | refine ze (fun K hK=>?_)
   go_simp;refine hK _ ?_;clear hK K
  refine zh (v:=.float .f64 y0) rfl rfl (fun wk hwk=>?_) ?_
  ·rw [← (zA hwk).1 _ _ hblW] at lyW;go_simp
  iterate 2
   first
    | refine zd (fun K hK=>?_)
    | refine ze (fun K hK=>?_)
   go_simp;refine hK _ ?_;clear hK K
  refine zm (fun K hK=>?_);go_simp;refine (sb n T vo vu _ _ m z x y0 h Z (HXr.out.tape.below hbZ) (HXr.out.tab.below hbZ) (HXR.out.below hbZ) HCK.out HCS.out hn h1 h4 hm).mono ?_;rintro e w4 ⟨vg,rfl,hg,hb4⟩;have hbA:=hbZ.trans (hb4.mono hbZ.size);refine hK _ _ (fun h=>Bool.noConfusion (Eq.trans (Eq.symm (by kernel_rfl:_=false)) h)) (fun _=>hbA) ?_;clear hK K
  iterate 1
   first
    | refine zd (fun K hK=>?_)
    | refine ze (fun K hK=>?_)
   go_simp;refine hK _ ?_;clear hK K
  refine zo ?_;obtain ⟨pg,cg,rfl,-,-⟩:=id hg;have HG:=hid hg;have HBA:=hid hbA;have hsA:=hbA.size;clear hbZ hg hb4 hbA p0 p1 p2 lyW;go_wp2_with fail;refine (tD _ _ n (by omega) (yS T (z 0) (z 1) y0 h x) x w4 HG.out (HXR.out.below HBA.out)).mono ?_;rintro e w5 ⟨vm,rfl,hm5,hb5⟩;have hsB:=hb5.size;have HB5:=hid (HBA.out.trans (hb5.mono hsA));have HG5:=hid (HG.out.below hb5);have HM5:=hid hm5;clear hb5 hm5;go_wp2_with fail;refine (uq _ _ n (fun i=>cop .sub (yS T (z 0) (z 1) y0 h x i) (x i)) wt w5 HM5.out (HXr.out.wrow.below HB5.out)).mono ?_;rintro e w6 ⟨⟨y,rfl,y1,y2⟩,hb6⟩;have HB6:=hid (HB5.out.trans (hb6.mono (by omega)));have hs6:=hb6.size;have HGN:=hid (show zT w6 (.slice pg n cg) n ((yW T (z 0) (z 1) wt y0 h n) x).1 from HG5.out.below hb6);have YN:=hid (show zk y=((yW T (z 0) (z 1) wt y0 h n) x).2 from y1);clear hb6 y1 HG HG5 HM5;generalize (yW T (z 0) (z 1) wt y0 h n) x=N at *;have hs6':wr.heap.size≤w6.heap.size:=HB6.out.size;go_wp2_with fail;generalize w6=V at *
  go_loopw [22] (fun i ws=>∃ c:Nat,c≤n∧i=.int .i64 c∧wa c (fun i=>xi (N.1 i))=true∧Below V.heap.size V ws) (fun i _=>n-(intOf i).toNat)
  case atStart=>exact ⟨0,by omega,rfl,rfl,Below.refl _ _⟩
  case round=>
   obtain ⟨c,hc,rfl,hh,hb7⟩:=hrel;by_cases hcn:c<n
   ·obtain ⟨bn,on,cn',hvn,hbn,hnr⟩:=HGN.out.numAt (by omega);simp only [Value.slice.injEq,true_and] at hvn;obtain ⟨rfl,rfl⟩:=hvn;obtain ⟨u,u1,u2,u3⟩:=hnr c hcn;rw [← hb7.cell (p:=⟨bn,on+c,none⟩) hbn] at u1;have HH:=hid hh;have HB7:=hid hb7;have HU:=hid (show xi u=xi (N.1 c) by rw [← u2,wQ]);have c1:(c:Int)<(n:Int):=by omega
    have hs7:=hb7.size;clear hnr u2 hh hb7;go_wp2_with fail;refine (vk u _).mono ?_;rintro e w8 ⟨rfl,hb8⟩;have HB8:=hid (HB7.out.trans (hb8.mono hs7));clear hb8 u1
    cases hf:xi u with
    | true=>
     have H2:=hid (show wa (c+1) (fun i=>xi (N.1 i))=true by rw [wa,HH.out,← HU.out,hf]; rfl);go_wp2_with fail
     go_roundw
     case rel=>exact ⟨c+1,by omega,by go_num,H2.out,HB8.out⟩
     case measure=>simp [intOf]; omega
    | false=>
     have H2:=hid (show wa n (fun i=>xi (N.1 i))=false from tr hcn (by rw [← HU.out]; exact hf));have hs:=HS.out;rw [H2.out,if_pos rfl] at hs;have hW8:Below H W w8:=HBL.out.trans ((HB6.out.trans (HB8.out.mono hs6')).mono hbs);have hq:=RES.out w8 hW8;have q0:=zf hq 0;have q1:=zf hq 1;have q2:=zf hq 2;have f0:=zg hq 0;have f1:=zg hq 1;have f2:=zg hq 2;simp only [List.getElem?_toArray,List.getElem?_cons_zero,List.getElem?_cons_succ] at q0 q1 q2;have HK:=hid (FINB.out w8 _ hW8 (((((zM.refl w8 (B+1)).set 0 (.slice none 0 0)).set 1 (.int .i64 k)).set 2 (.int .i64 2))));have SC2:=hid (SC.out.trans hs.symm);clear hq hs hW8;go_wp2_with fail;refine bodyPost_ret (v:=.agg #[.slice none 0 0,.int .i64 k,.int .i64 2]) (by simp [results,Tryz.results27,go_sem,q0,q1,q2]) rfl ⟨by rw [hB]; exact HK.out,?_⟩;rw [SC2.out];exact .inr ⟨rfl,rfl⟩
   ·obtain rfl:c=n:=by omega
    have hs:=HS.out;rw [hh,if_neg (by decide)] at hs;have HLE:=hid (show leB y 4562146422526312448=leB N.2 4562146422526312448 by rw [← YN.out]; exact (vL y 4562146422526312448).symm);have hW8:Below H W wr:=HBL.out.trans ((HB6.out.trans (hb7.mono hs6')).mono hbs);have HW8:=hid hW8;have HGV:=hid (HGN.out.below hb7);have HS2:=hid hs;clear hs hh hb7 hW8
    cases hle:leB y 4562146422526312448 with
    | true=>
     have hs:=HS2.out;rw [← HLE.out,hle,if_pos rfl] at hs;have hq:=RES.out wr HW8.out;have NB:=hid (ls hq HGV.out h1);have q0:=zf hq 0;have q1:=zf hq 1;have q2:=zf hq 2;have f0:=zg hq 0;have f1:=zg hq 1;have f2:=zg hq 2;simp only [List.getElem?_toArray,List.getElem?_cons_zero,List.getElem?_cons_succ] at q0 q1 q2;have hkp:=(((zM.refl wr (B+1)).set 0 (.slice pg c cg)).set 1 (.int .i64 k)).set 2 (.int .i64 0);have HK:=hid (FINB.out wr _ HW8.out hkp);have HGK:=hid (HGV.out.kept hkp NB.out);have SC2:=hid (SC.out.trans hs.symm);clear hq hs hkp;go_wp2_with fail;refine bodyPost_ret (v:=.agg #[.slice pg c cg,.int .i64 k,.int .i64 0]) (by simp [results,Tryz.results27,go_sem,q0,q1,q2]) rfl ⟨by rw [hB]; exact HK.out,?_⟩;rw [SC2.out];exact .inl ⟨rfl,_,rfl,HGK.out⟩
    | false=>
     have hs:=HS2.out;rw [← HLE.out,hle,if_neg (by decide)] at hs;by_cases hk5:k=4
     ·subst hk5;rw [if_pos (by omega)] at hs;have hq:=RES.out wr HW8.out;have q0:=zf hq 0;have q1:=zf hq 1;have q2:=zf hq 2;have f0:=zg hq 0;have f1:=zg hq 1;have f2:=zg hq 2;simp only [List.getElem?_toArray,List.getElem?_cons_zero,List.getElem?_cons_succ] at q0 q1 q2;have HK:=hid (FINB.out wr _ HW8.out ((((zM.refl wr (B+1)).set 0 (.slice none 0 0)).set 1 (.int .i64 4)).set 2 (.int .i64 6)));have SC2:=hid (SC.out.trans hs.symm);clear hq hs;go_wp2_with fail;refine bodyPost_ret (v:=.agg #[.slice none 0 0,.int .i64 4,.int .i64 6]) (by simp [results,Tryz.results27,go_sem,q0,q1,q2]) rfl ⟨by rw [hB]; exact HK.out,?_⟩;rw [SC2.out];exact .inr ⟨rfl,rfl⟩
     ·rw [if_neg (by omega)] at hs;have HS3:=hid hs;have hk4':((k:Int)==4)=false:=by simp; omega
      clear hs;go_wp2_with fail
      go_roundw
      case rel=>exact ⟨k+1,_,by omega,by omega,by go_num,HGV.out,by rw [show 5-(k+1)=k' by omega]; exact HS3.out,HW8.out⟩
      case measure=>simp [intOf]; omega
end Go.Proofs.YtnlbafjmbamoeaaGreat
