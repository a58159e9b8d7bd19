/-
  Contracts (what a function tells) and plain facts that a law's proof hangs on, for every input; no condition but those in their statements. Laid together of the texts Sa, Sb, Gn, Sc, Sd, Se.
-/
import Derived.Test.YtnlbafjmbamoeaaGreatQg
namespace Go.Proofs.YtnlbafjmbamoeaaGreat
open Go.RowKit Lib
open Ieee (double)
def scF (c:Nat) (k:Int):Nat:=zk (yR c k)
theorem mT {y c:Nat} (h:zk y=c) (k:Int):zk (yR y k)=scF c k:=by
 subst h;unfold scF;rcases vF y with h | h
 ·rw [h]
 ·have e:∀ z,isN z=true→zk z=qK:=fun z hz=>by unfold zk; rw [if_pos hz]
  have l:∀ z,isN z=true→yR z k=z:=fun z hz=>by
   unfold yR;rw [if_pos]
   right
   unfold isN at hz;have:=of_decide_eq_true hz;omega
  have hc:isN (zk y)=true:=by rw [yN]; exact h
  rw [l y h,l _ hc,e y h];rfl
theorem oK (y:Nat):zk (zk y)=zk y:=by
 rcases vF y with h | h
 ·rw [h,h]
 ·have e:∀ z,isN z=true→zk z=qK:=fun z hz=>by unfold zk; rw [if_pos hz]
  rw [e (zk y) (by rw [yN]; exact h),e y h]
theorem oL {y:Nat} (h:y<18446744073709551616):yR y 0=y:=by
 unfold yR;split
 ·rfl
 ·rename_i h1
  rw [show (0:Int)-1074=-1074 by decide,qJ (by omega),rO h]
theorem pp {x:Nat} {k:Int} (hx:x<18446744073709551616):yR x k<18446744073709551616:=by
 unfold yR;split
 ·exact hx
 ·exact sq _ (uI _ _)
theorem mU {c:Nat} (h:zk c=c) (h2:c<18446744073709551616):scF c 0=c:=by
 unfold scF;rw [oL h2,h]
def sQ (f:Nat→Nat→Nat) (k:Nat):Nat→Nat→Nat:=yy f k fun i=>cop .add (f k i) (f (k+1) i)
def inF (f:Nat→Nat→Nat) (q:Nat):Nat→Nat→Nat→Nat
 | 0=>f
 | c+1=>sQ (inF f q c) (q-1-c)
def prF (f:Nat→Nat→Nat) (q:Nat):Nat→Nat→Nat→Nat
 | 0=>f
 | j+1=>inF (prF f q j) q (q-j)
def wG (f:Nat→Nat→Nat) (q:Nat):Nat→Nat→Nat:=prF f q q
def wb (z:Nat→Nat→Nat) (l d:Nat→Nat) (k i:Nat):Nat:=cop .add (z k i) (cop .mul (l k) (d i))
def xZ (z:Nat→Nat→Nat) (s:Int) (k i:Nat):Nat:=scF (z k i) ((k:Int)*s)
def xq (T:TD) (y:Nat→Nat) (h:Nat) (k i:Nat):Nat:=if k=0 then y i else cop .mul h (evR T.op y (T.out i).toNat)
end Go.Proofs.YtnlbafjmbamoeaaGreat
namespace Go.Proofs.YtnlbafjmbamoeaaGreat
open Go.RowKit Lib
open Ieee (double)
attribute [local go_sem] zr zi zy zn zU zS zW zX zV zY zD zH zI zJ zK zB ye z8 zF yE zN
structure yL (w:World) (base G A n m:Nat) (f:Nat→Nat→Nat):Prop where
 hd:∃ rs,w.ownsRow base 30 1 (.slice (some ⟨G,0,none⟩) n n) n rs∧∀ i,i<n→rs[i]? = some (.slice (some ⟨A,i*m,none⟩) m m)
 all:yd w base A (n*m) (n*m) (fun p=>f (p / m) (p % m))
 ne:G≠A
theorem tP {m i:Nat} (k:Nat) (h:i<m):(k*m+i) / m=k∧(k*m+i) % m=i:=by
 rw [Nat.mul_comm,Nat.mul_add_div (by omega),Nat.div_eq_of_lt h,Nat.mul_add_mod,Nat.mod_eq_of_lt h];exact ⟨by omega,rfl⟩
theorem l5 {n m k i:Nat} (hk:k<n) (hi:i<m):k*m+i<n*m:=by
 have:(k+1)*m≤n*m:=Nat.mul_le_mul_right _ (by omega);rw [Nat.add_mul] at this;omega
theorem yL.cell {w:World} {base G A n m:Nat} {f:Nat→Nat→Nat} (h:yL w base G A n m f) {k i:Nat} (hk:k<n) (hi:i<m):wq w A (k*m+i) (f k i):=by
 have:=h.all.cell (l5 hk hi);rw [(tP k hi).1,(tP k hi).2] at this;exact this
theorem yL.ref {w:World} {base G A n m:Nat} {f:Nat→Nat→Nat} (h:yL w base G A n m f) {k:Nat} (hk:k<n):w.cell? ⟨G,k,none⟩=some (.slice (some ⟨A,k*m,none⟩) m m):=by
 obtain ⟨rs,h1,h2⟩:=h.hd;exact (h1.cellAt k (by omega)).trans (h2 k hk)
theorem yL.lt {w:World} {base G A n m:Nat} {f:Nat→Nat→Nat} (h:yL w base G A n m f):(base≤G∧G<w.heap.size)∧base≤A∧A<w.heap.size:=by
 obtain ⟨rs,h1,h2⟩:=h.hd;exact ⟨h1.lt G rfl,h.all.lt⟩
theorem yL.free {w:World} {base G A n m:Nat} {f:Nat→Nat→Nat} (h:yL w base G A n m f) (j:Nat):w.frozen? ⟨A,j,none⟩=false:=h.all.free j
theorem yL.tab {w:World} {base G A n m:Nat} {f:Nat→Nat→Nat} (h:yL w base G A n m f) (hn:n≤9223372036854775807) (hm:m≤9223372036854775807):yB w (.slice (some ⟨G,0,none⟩) n n) n (fun _=>m) f:=
 ⟨_,n,rfl,hn,fun _=>⟨G,0,rfl,h.lt.1.2,fun i hi=>⟨_,by rw [Nat.zero_add]; exact h.ref hi,_,m,rfl,hm,fun _=>⟨A,i*m,rfl,h.lt.2.2,fun j hj=>h.cell hi hj⟩⟩⟩⟩
theorem yL.kept {w w':World} {base G A n m:Nat} {f:Nat→Nat→Nat} (h:yL w base G A n m f) (h1:w'.heap[G]? = w.heap[G]?) (h2:w'.heap[A]? = w.heap[A]?):yL w' base G A n m f:=by
 obtain ⟨⟨rs,g1,g2⟩,g3,g4⟩:=h;exact ⟨⟨rs,yQ g1 h1,g2⟩,g3.kept h2,g4⟩
theorem yL.below {w w':World} {base G A n m B:Nat} {f:Nat→Nat→Nat} (h:yL w base G A n m f) (hb:Below B w w') (h1:G<B) (h2:A<B):yL w' base G A n m f:=h.kept (hb.block _ h1) (hb.block _ h2)
theorem yL.base {w:World} {base b' G A n m:Nat} {f:Nat→Nat→Nat} (h:yL w base G A n m f) (hb:b'≤base):yL w b' G A n m f:=by
 have hl:=h.lt;obtain ⟨⟨rs,g1,g2⟩,g3,g4⟩:=h;exact ⟨⟨rs,ui g1 hb,g2⟩,g3.base (by omega),g4⟩
theorem yL.congr {w:World} {base G A n m:Nat} {f g:Nat→Nat→Nat} (h:yL w base G A n m f) (e:∀ k i,k<n→i<m→f k i=g k i):yL w base G A n m g:=
 ⟨h.hd,h.all.congr fun j hj=>by
  have hm:0<m:=by
   rcases Nat.eq_zero_or_pos m with q | q
   ·subst q; simp at hj
   ·exact q
  exact e _ _ (by rw [Nat.div_lt_iff_lt_mul hm]; exact hj) (Nat.mod_lt _ hm),h.ne⟩
theorem yL.set {w:World} {base G A n m:Nat} {f:Nat→Nat→Nat} (h:yL w base G A n m f) {k i y c:Nat} (hk:k<n) (hi:i<m) (h1:zk y=c) (h2:y<18446744073709551616):yL (w.setCell ⟨A,k*m+i,none⟩ (.float .f64 y)) base G A n m (xR f k i c):=by
 obtain ⟨⟨rs,g1,g2⟩,g3,g4⟩:=h;refine ⟨⟨rs,yQ g1 (Below.heap_setCell _ _ _ _ g4),g2⟩,(g3.set (l5 hk hi) h1 h2).congr fun j hj=>?_,g4⟩;by_cases e:j=k*m+i
 ·subst e;rw [zL,(tP k hi).1,(tP k hi).2,sF]
 ·rw [zG _ _ e,sG];by_cases e2:j / m=k
  ·right
   intro e3;apply e;rw [← Nat.div_add_mod j m,e2,e3,Nat.mul_comm]
  ·exact .inl e2
theorem yL.drewN {w:World} {base G A n m:Nat} {f:Nat→Nat→Nat} (h:yL w base G A n m f) (k:Nat):yL (w.drewN k) base G A n m f:=h.kept rfl rfl
def sR (n m:Nat) (f:Nat→Nat→Nat) (w:World) (e:Ending) (w':World):Prop:=∃ G A,e=.returned (.slice (some ⟨G,0,none⟩) n n)∧yL w' w.heap.size G A n m f∧Below w.heap.size w w'
theorem oM:(Tryz.prog.info? 30).map (fun i=>(i.zero,i.size,i.bytes))=some (some (.slice none 0 0),1,24):=by kernel_rfl
set_option maxRecDepth 100000
set_option maxHeartbeats 16000000
theorem sS (fn:Nat) (cs:Array Value) (n m:Nat) (hn:n≤7) (h1:1≤m) (hm:m≤4) (g:Nat→Nat→Nat) (w:World) (hf:∀ u v W,(callFunc fn (#[u,v] ++ cs)).run Tryz.prog W=.ok (.enter fn (#[u,v] ++ cs)) W)
  (hc:∀ k i W,k<n→i<m→Below w.heap.size w W→Calls Tryz.prog fn (#[.int .i64 k,.int .i64 i] ++ cs) W (xY (g k i) W)) :
  Calls Tryz.prog 105 #[.int .i64 n,.int .i64 m,.func (.func fn) #[] cs] w (sR n m g w):=by
 obtain ⟨iF,hF,f1,f2,f3⟩:=info_parts xu;have HF:=hid (show iF.zero=_∧iF.size=_∧iF.bytes=_ from ⟨f1,f2,f3⟩);have HF0:=hid hF;obtain ⟨iS,hS,s1,s2,s3⟩:=info_parts oM;have HS:=hid (show iS.zero=_∧iS.size=_∧iS.bytes=_ from ⟨s1,s2,s3⟩);have HS0:=hid hS;have HC:=hid hc;have hnm:n*m≤7*4:=Nat.mul_le_mul hn hm;obtain ⟨p,hp⟩:∃ p:Nat,n*m=p:=⟨_,rfl⟩;have hwp:IntKind.i64.wrap ((n:Int)*(m:Int))=(p:Int):=by rw [← hp,Int.natCast_mul]; exact IntWalk.i64_in _ (by rw [← Int.natCast_mul]; omega)
 have HP:=hid hp;have hp28:p≤28:=by omega
 clear hF f1 f2 f3 hS s1 s2 s3 hc hp;go_enter Tryz.func105,Tryz.ntmps105;generalize hB:w.heap.size=B at *
 go_wp2_with (first
  | (refine wpList_make_full _ rfl _ _ _ rfl B 31 iF (.float .f64 0) 1 Tryz.underlying30 HF0.out HF.out.1 HF.out.2.1 .i64 .i64 (p:Int) (p:Int) p rfl rfl rfl rfl (by rw [HF.out.2.2]; omega) (by unfold maxLen; omega) (by omega) ?_)
  | fail)
 intro w2 hr1 hg1;have hb2:Below B w w2:=(Below.refl _ w).grown hg1 (by omega) (fun k hk=>by cases hk);have HO:=hid (yI hr1);have HB2:=hid hb2;clear hr1 hg1 hb2
 go_wp2_with (first
  | (refine wpList_make_full _ rfl _ _ _ rfl w2.heap.size 30 iS (.slice none 0 0) 1 Tryz.underlying109 HS0.out HS.out.1 HS.out.2.1 .i64 .i64 (n:Int) (n:Int) n rfl rfl rfl rfl (by rw [HS.out.2.2]; omega) (by unfold maxLen; omega) (by omega) ?_)
  | fail)
 intro w3 hr2 hg2;have hBA:B<w2.heap.size:=by have:=HO.out.lt; omega
 have hb3:Below w2.heap.size w2 w3:=(Below.refl _ w2).grown hg2 (by omega) (fun k hk=>by cases hk);have HO3:=hid (HO.out.below hb3 hBA);have HB3:=hid (HB2.out.trans (hb3.mono (by omega)));have HR3:=hid (ui hr2 (b':=B) (by omega));generalize hG:w2.heap.size=G at *;clear hr2 hg2 hb3 HO HB2;go_wp2_with fail
 go_loopw [21] (fun i wr=>∃ (d:Nat) (rs:List Value) (h:Nat→Nat),d≤n∧i=.int .i64 d∧wr.ownsRow B 30 1 (.slice (some ⟨G,0,none⟩) n n) n rs∧(∀ i,i<d→rs[i]? = some (.slice (some ⟨B,i*m,none⟩) m m))∧yd wr B B p p h∧(∀ k i,k<d→i<m→h (k*m+i)=g k i)∧Below B w wr) (fun i _=>n-(intOf i).toNat)
 case atStart=>exact ⟨0,_,_,by omega,rfl,HR3.out,fun i hi=>by omega,HO3.out,fun k i hk=>by omega,HB3.out⟩
 case round=>
  clear HO3 HB3 HR3;obtain ⟨d,rs,h,hd,rfl,hr,hrs,ho,hh,hbl⟩:=hrel;by_cases hdn:d<n
  ·have hdm:(d+1)*m≤n*m:=Nat.mul_le_mul_right _ (by omega);rw [HP.out,Nat.add_mul,Nat.one_mul] at hdm;obtain ⟨q,hq⟩:∃ q:Nat,d*m=q:=⟨_,rfl⟩;rw [hq] at hdm;have hw1:IntKind.i64.wrap ((d:Int)*(m:Int))=(q:Int):=by rw [← hq,Int.natCast_mul]; exact IntWalk.i64_in _ (by rw [← Int.natCast_mul]; omega)
   have hw2:IntKind.i64.wrap (((d:Int)+1)*(m:Int))=(q:Int)+m:=by
    rw [Int.add_mul,Int.one_mul,← Int.natCast_mul,hq]; exact IntWalk.i64_in _ (by omega)
   have hrl:=hr.1;obtain ⟨v0,v1⟩:∃ v,wr.cell? ⟨G,d,none⟩=some v:=⟨_,(hr.cellAt d (by omega)).trans (List.getElem?_eq_getElem (by omega))⟩;have r1:=hr.frozenAt d;have HR:=hid hr;have HRS:=hid hrs;have HO:=hid ho;have HH:=hid hh;have HBL:=hid hbl;have hne1:¬ q+m=q:=by omega
   have hne2:¬ m=0:=by omega
   clear hr hrs ho hh hbl;go_upto_region 8 with fail
   simp only [show q+m-q=m by omega];have HR1:=hid (HR.out.stored d (.slice (some ⟨B,q,none⟩) m m)).1
   have HRS1:=hid (show ∀ i,i<d+1→(rs.set d (.slice (some ⟨B,q,none⟩) m m))[i]? = some (.slice (some ⟨B,i*m,none⟩) m m) from fun i hi=>by
    by_cases e:i=d
    ·subst e; rw [List.getElem?_set_self (by omega),hq]
    ·rw [List.getElem?_set_ne (Ne.symm e)]; exact HRS.out i (by omega))
   have HO1:=hid (HO.out.other (show G≠B by omega) (o:=d) (.slice (some ⟨B,q,none⟩) m m));have HB1:=hid (HBL.out.setCell (p:=⟨G,d,none⟩) (show B≤G by omega) (.slice (some ⟨B,q,none⟩) m m));clear v1 r1 HR HRS HO HBL hne1 hrl;generalize rs.set d (.slice (some ⟨B,q,none⟩) m m)=rs1 at *;generalize wr.setCell ⟨G,d,none⟩ (.slice (some ⟨B,q,none⟩) m m)=W1 at *
   have v1:W1.cell? ⟨G,d,none⟩=some (.slice (some ⟨B,q,none⟩) m m):=by
    have:=(HR1.out.cellAt d (by omega)).trans (HRS1.out d (by omega));rw [hq] at this;exact this
   go_wp2_with fail
   go_loopw [44] (fun i wr=>∃ (c:Nat) (h:Nat→Nat),c≤m∧i=.int .i64 c∧wr.ownsRow B 30 1 (.slice (some ⟨G,0,none⟩) n n) n rs1∧yd wr B B p p h∧(∀ k i,(k<d∨(k=d∧i<c))→i<m→h (k*m+i)=g k i)∧Below B w wr) (fun i _=>m-(intOf i).toNat)
   case atStart=>exact ⟨0,_,by omega,rfl,HR1.out,HO1.out,fun k i hk hi=>HH.out k i (by omega) hi,HB1.out⟩
   case round=>
    clear HR1 HO1 HB1 HH v1;obtain ⟨c,h,hc,rfl,hr,ho,hh,hbl⟩:=hrel;by_cases hcm:c<m
    ·have v1:wr.cell? ⟨G,d,none⟩=some (.slice (some ⟨B,q,none⟩) m m):=by
      have:=(hr.cellAt d (by omega)).trans (HRS1.out d (by omega));rw [hq] at this;exact this
     have lt:=(hr.lt G rfl).2;have HR:=hid hr;have HO:=hid ho;have HH:=hid hh;have HBL:=hid hbl;clear hr ho hh hbl;go_wp2_with fail;refine zv [(0,1),(1,1),(2,1),(3,3),(4,1),(5,1),(6,1),(7,1),(8,0),(9,1),(10,0)] (fun W=>Below wr.heap.size wr W) (by kernel_rfl) (by kernel_rfl) (fun _ _ d _ _ h=>by cases d<;>exact h) ((Below.refl _ _).drew) ?_;intro Z hZ hbZ;clear hZ
     iterate 3
      first
       | refine zd (fun K hK=>?_)
       | refine ze (fun K hK=>?_)
      go_simp;refine hK _ ?_;clear hK K
     refine zh (v:=.slice (some ⟨B,q,none⟩) m m) rfl rfl (fun wk hwk=>?_) ?_
     ·rw [← (zA hwk).1 _ _ lt] at v1;go_simp
     iterate 4
      first
       | refine zd (fun K hK=>?_)
       | refine ze (fun K hK=>?_)
      go_simp;refine hK _ ?_;clear hK K
     refine zm (fun K hK=>?_);go_simp;refine (HC.out d c Z hdn hcm (HBL.out.trans (hbZ.mono (by omega)))).mono ?_;rintro e w' ⟨y,rfl,y1,y2,hb1⟩;have hbA:=hbZ.trans (hb1.mono hbZ.size);refine hK _ _ (fun h=>Bool.noConfusion (Eq.trans (Eq.symm (by kernel_rfl:_=false)) h)) (fun _=>hbA) ?_;clear hK K
     iterate 1
      first
       | refine zd (fun K hK=>?_)
       | refine ze (fun K hK=>?_)
      go_simp;refine hK _ ?_;clear hK K
     have hqc:q+c<p:=by omega
     have HOA:=hid (HO.out.below hbA HO.out.lt.2);obtain ⟨z,z1,-,-⟩:=HOA.out.cell hqc;have r1:=HOA.out.free (q+c);refine zm (fun K hK=>?_);go_simp;refine hK _ _ (fun h=>Bool.noConfusion (Eq.trans (Eq.symm (by kernel_rfl:_=false)) h)) (fun h=>Bool.noConfusion (Eq.trans (Eq.symm (by kernel_rfl:_=false)) h)) ?_;clear hK K;refine zo ?_
     have REL:=hid (show (w'.setCell ⟨B,q+c,none⟩ (.float .f64 y)).ownsRow B 30 1 (.slice (some ⟨G,0,none⟩) n n) n rs1∧yd (w'.setCell ⟨B,q+c,none⟩ (.float .f64 y)) B B p p (yy h (q+c) (g d c))∧Below B w (w'.setCell ⟨B,q+c,none⟩ (.float .f64 y)) from
      ⟨yQ HR.out ((Below.heap_setCell _ _ _ _ (show G≠B by omega)).trans (hbA.block G lt)),HOA.out.set hqc y1 y2,(HBL.out.trans (hbA.mono (by omega))).setCell (p:=⟨B,q+c,none⟩) (Nat.le_refl _) _⟩)
     clear hbZ hb1 hbA z1 r1 v1;go_wp2_with fail
     go_roundw
     case rel=>exact ⟨c+1,_,by omega,by go_num,REL.out.1,REL.out.2.1,fun k i hk hi=>by
      by_cases e:k*m+i=q+c
      ·have e1:k=d∧i=c:=by
        have g1:=tP k hi;have g2:=tP d hcm;rw [hq,← e,g1.1,g1.2] at g2;exact g2
       obtain ⟨rfl,rfl⟩:=e1;rw [e,zL]
      ·rw [zG _ _ e];refine HH.out k i ?_ hi;rcases hk with hk | ⟨rfl,hk⟩
       ·exact .inl hk
       ·exact .inr ⟨rfl,by
         rw [hq] at e;omega⟩,REL.out.2.2⟩
     case measure=>simp [intOf]; omega
    ·obtain rfl:m=c:=by omega
     have HR:=hid hr;have HO:=hid ho;have HH:=hid hh;have HBL:=hid hbl;clear hr ho hh hbl;go_wp2_with fail
     go_roundw
     case rel=>exact ⟨d+1,_,_,by omega,by go_num,HR.out,HRS1.out,HO.out,fun k i hk hi=>HH.out k i (by omega) hi,HBL.out⟩
     case measure=>simp [intOf]; omega
  ·obtain rfl:n=d:=by omega
   go_wp2_with fail;go_ret;refine ⟨G,B,rfl,⟨⟨rs,by rw [hB]; exact hr,hrs⟩,?_,by omega⟩,by rw [hB]; exact hbl⟩;rw [hB,HP.out];refine ho.congr fun j hj=>?_
   have hj2:j / m<n:=by rw [Nat.div_lt_iff_lt_mul (by omega),HP.out]; exact hj
   have hj3:j % m<m:=Nat.mod_lt _ (by omega);have:=hh (j / m) (j % m) hj2 hj3;rw [Nat.mul_comm,Nat.div_add_mod] at this;exact this
end Go.Proofs.YtnlbafjmbamoeaaGreat
namespace Go.Proofs.YtnlbafjmbamoeaaGreat
open Go.RowKit Lib
attribute [local go_sem] zr zi zy zn zU zS zW zX zV zY zD zH zI zJ zK
theorem kr (x:Nat):ltB 9218868437227405311 (x % 9223372036854775808)=decide (x % p63=yC):=by
 unfold ltB;have h1:isN (x % 9223372036854775808)=isN x:=by unfold isN p63; rw [Nat.mod_mod]
 have h2:key (x % 9223372036854775808)=((x % p63:Nat):Int):=by
  unfold key p63; rw [Nat.mod_mod,if_neg (by omega)]
 have h3:key 9218868437227405311=9218868437227405311:=by decide
 have h4:isN 9218868437227405311=false:=by decide
 rw [h1,h2,h3,h4];unfold isN yC;rw [Bool.eq_iff_iff]; simp; omega
theorem wh (x:Nat) (w:World) (hx:x<18446744073709551616):Calls Tryz.prog 145 #[.float .f64 x,.int .i64 0] w fun e w'=>e=.returned (.bool (decide (x % p63=yC)))∧w=w':=by
 have hm:=kr x;have H:=hid hm;clear hm;go_enter Tryz.func145,Tryz.ntmps145;go_wp2_with (go_at_call 60; refine (ti _ _ hx).mono ?_; rintro e w' ⟨rfl,rfl⟩)
 go_ret;exact ⟨yX H.out,rfl⟩
theorem ny {x:Nat} (h:isN x=false):ltB (x % 9223372036854775808) 4503599627370496=decide (x % p63<p52):=by
 unfold ltB;have h1:isN (x % 9223372036854775808)=isN x:=by unfold isN p63; rw [Nat.mod_mod]
 have h2:key (x % 9223372036854775808)=((x % p63:Nat):Int):=by
  unfold key p63; rw [Nat.mod_mod,if_neg (by omega)]
 have h3:key 4503599627370496=4503599627370496:=by decide
 have h4:isN 4503599627370496=false:=by decide
 rw [h1,h2,h3,h4,h];rw [Bool.eq_iff_iff]; unfold p52; simp; omega
theorem sn (x:Nat) (w:World) (hx:x<18446744073709551616) (h0:x % p63≠0) (h:x % p63<p52) :
  Calls Tryz.prog 147 #[.float .f64 x] w fun e w'=>e=.returned (.tuple #[.float .f64 (Ieee.double.word (neg x) (yo (x % p63) (-1022))),.int .i64 (-52)])∧w=w':=by
 have hN:isN x=false:=uz (by unfold p52 at h; unfold yC; omega);have hb:=ny hN;have hm:=(qN h0 h).1;have f1:∀ w,zZ .mul w x 4841369599423283200=Ieee.double.word (neg x) (yo (x % p63) (-1022)):=uy (op:=.mul) hm;have f2:zP .mul x 4841369599423283200=0:=vR (op:=.mul) hm;rw [decide_eq_true h] at hb;clear hm hN h h0;go_enter Tryz.func147,Tryz.ntmps147;go_wp2_with (go_at_call 60; refine (ti _ _ hx).mono ?_; rintro e w' ⟨rfl,rfl⟩)
 go_ret2
 exact ⟨rfl,rfl⟩
theorem rB (x:Nat) (w:World) (hx:x<18446744073709551616) (hN:isN x=false) (h:p52≤x % p63) :
  Calls Tryz.prog 147 #[.float .f64 x] w fun e w'=>e=.returned (.tuple #[.float .f64 x,.int .i64 0])∧w=w':=by
 have hb:=ny hN;rw [decide_eq_false (by omega)] at hb;clear hN h;go_enter Tryz.func147,Tryz.ntmps147;go_wp2_with (go_at_call 60; refine (ti _ _ hx).mono ?_; rintro e w' ⟨rfl,rfl⟩)
 go_ret2
 exact ⟨rfl,rfl⟩
theorem n8 (x:Nat) (k:Int) (w:World) (hx:x<18446744073709551616) (h:x % p63=0∨yC≤x % p63) :
  Calls Tryz.prog 133 #[.float .f64 x,.int .i64 k] w fun e w'=>e=.returned (.float .f64 (yR x k))∧w=w':=by
 have hr:yR x k=x:=by unfold yR; rw [if_pos h]
 rw [hr]
 have e0:eqB x 0=decide (x % p63=0):=by
  unfold eqB; rw [show isN 0=false by decide,show key 0=0 by decide];by_cases g:x % p63=0
  ·have:isN x=false:=uz (by rw [g]; decide);have k0:key x=0:=by unfold key; rw [g]; simp
   rw [this,k0]; simp [g]
  ·have k0:key x≠0:=by unfold key; split<;>omega
   simp [g,k0]
 by_cases g:x % p63=0
 ·rw [decide_eq_true g] at e0;clear hr h g;go_enter Tryz.func133,Tryz.ntmps133
  go_wp2
  go_ret;exact ⟨rfl,rfl⟩
 ·rw [decide_eq_false g] at e0;have h':yC≤x % p63:=by omega
  by_cases g2:x % p63=yC
  ·have c1:decide (x % p63=yC)=true:=decide_eq_true g2;clear hr h g h' g2;go_enter Tryz.func133,Tryz.ntmps133;go_wp2_with (first | (go_at_call 145; refine (wh _ _ hx).mono ?_; rintro e w' ⟨rfl,rfl⟩) | (go_at_call 146; refine (we _ _).mono ?_; rintro e w' ⟨rfl,rfl⟩))
   go_ret;exact ⟨rfl,rfl⟩
  ·have c1:decide (x % p63=yC)=false:=decide_eq_false g2;have c2:isN x=true:=by unfold isN; rw [decide_eq_true_eq]; omega
   clear hr h g h' g2;go_enter Tryz.func133,Tryz.ntmps133;go_wp2_with (first | (go_at_call 145; refine (wh _ _ hx).mono ?_; rintro e w' ⟨rfl,rfl⟩) | (go_at_call 146; refine (we _ _).mono ?_; rintro e w' ⟨rfl,rfl⟩))
   go_ret;exact ⟨rfl,rfl⟩
def Norm (x Y:Nat) (e0:Int):Prop:=∀ w,Calls Tryz.prog 147 #[.float .f64 x] w fun e w'=>e=.returned (.tuple #[.float .f64 Y,.int .i64 e0])∧w=w'
theorem oN {Y:Nat} (hY:Y<18446744073709551616):bits .and .i64 (Y / 4503599627370496:Int) 2047=((Y % p63 / p52:Nat):Int):=by
 have e:((Y:Int) / 4503599627370496)=((Y / 4503599627370496:Nat):Int):=by omega
 rw [e];have hlt:Y / 4503599627370496<18446744073709551616:=by omega
 show IntKind.i64.wrap ((BitVec.ofInt 64 ((Y / 4503599627370496:Nat):Int) &&& BitVec.ofInt 64 ((2047:Nat):Int)).toNat:Int)=_;rw [BitVec.toNat_and,ofInt_u64 _ hlt,ofInt_u64 _ (by decide),show (2047:Nat)=2 ^ 11-1 from rfl,Nat.and_two_pow_sub_one_eq_mod,IntKind.wrap_i64];unfold p63 p52;omega
theorem pq {Y T:Nat} (hY:Y<18446744073709551616) (hT:T≤2046) :
  bits .or .u64 (bits .andNot .u64 (Y:Int) 9218868437227405312) ((T:Int)*4503599627370496)=((Ieee.double.word (neg Y) (T*p52+Y % p63 % p52):Nat):Int):=by
 have h1:=u64_andNot_nat Y 9218868437227405312 hY (by decide);have e:((9218868437227405312:Nat):Int)=9218868437227405312:=rfl;have em:(18446744073709551615-9218868437227405312:Nat)=2 ^ 63 ||| (2 ^ 52-1):=by decide
 have hm:Y % p63 % p52=Y % 2 ^ 52:=by unfold p63 p52; omega
 have hf:Y % 2 ^ 52<2 ^ 52:=Nat.mod_lt _ (by decide)
 have ey:Y &&& 2 ^ 63=if neg Y then 2 ^ 63 else 0:=by
  have ht:neg Y=Y.testBit 63:=by
   unfold neg p63; rw [Nat.testBit_eq_decide_div_mod_eq]; rfl
  rw [ht];apply Nat.eq_of_testBit_eq;intro i;rw [Nat.testBit_and,Nat.testBit_two_pow];by_cases hi:63=i
  ·subst hi;cases hb:Y.testBit 63
   ·simp
   ·simp only [if_true,Nat.testBit_two_pow]; simp
  ·cases hb:Y.testBit 63
   ·simp [hi]
   ·simp only [if_true,Nat.testBit_two_pow]; simp [hi]
 rw [← e,h1,em,Nat.and_or_distrib_left,ey,Nat.and_two_pow_sub_one_eq_mod,hm,ux];have hb:T*p52+Y % 2 ^ 52<2 ^ 63:=by unfold p52; omega
 have c1:T*p52 ||| Y % 2 ^ 52=T*p52+Y % 2 ^ 52:=by
  have:=Nat.two_pow_add_eq_or_of_lt (i:=52) hf T;rw [show T*p52=2 ^ 52*T by unfold p52; omega]; exact this.symm
 have c2:2 ^ 63 ||| (T*p52+Y % 2 ^ 52)=2 ^ 63+(T*p52+Y % 2 ^ 52):=by
  have:=Nat.two_pow_add_eq_or_of_lt (i:=63) hb 1;rw [Nat.mul_one] at this; exact this.symm
 have hc:((T:Int)*4503599627370496)=((T*p52:Nat):Int):=by unfold p52; omega
 rw [hc];cases neg Y
 ·simp only [Bool.false_eq_true,if_false,Nat.zero_or];rw [u64_or_nat _ _ (by omega) (by unfold p52; omega),Nat.or_comm,c1]
 ·simp only [if_true];have hl:2 ^ 63 ||| Y % 2 ^ 52<18446744073709551616:=Nat.or_lt_two_pow (n:=64) (by decide) (by omega)
  rw [u64_or_nat _ _ hl (by unfold p52; omega),Nat.or_assoc,Nat.or_comm (Y % 2 ^ 52),c1,c2];rfl
theorem mV {Y:Nat} (hN:isN Y=false) (h0:Y % p63≠0):ltB Y 0=neg Y:=by
 unfold ltB; rw [hN,show isN 0=false by decide,show key 0=0 by decide];rw [vQ]; unfold sgd;cases neg Y<;>simp<;>omega
theorem pt {Z:Nat} (hZ:Z<18446744073709551616) (h:Z % p63<yC):Ieee.double.mul 4607182418800017408 Z=some Z:=by
 obtain ⟨K,hK,hc⟩:∃ K,K=1022∧U (4607182418800017408 % p63)=2 ^ (52+K):=by
  obtain ⟨K,hK⟩:∃ K,K=4607182418800017408 % p63 / p52-1:=⟨_,rfl⟩;have h1:p52+4607182418800017408 % p63 % p52=2 ^ 52:=by decide
  exact ⟨K,by rw [hK]; decide,qg (by decide) hK.symm h1⟩
 rw [qe (by decide) h,hc,Nat.mul_comm,show (-2148:Int)=-1074-((52+K:Nat):Int) by omega,yZ,qJ (Nat.le_of_lt h),
  show (neg 4607182418800017408 ^^ neg Z)=neg Z by rw [show neg 4607182418800017408=false by decide]; cases neg Z<;>rfl,rO hZ]
theorem n9 {E f:Nat} (s:Bool) (e:Int) (hf:f<p52) (hE:E≤2046) (hE1:1≤E) (he:(E:Int)=e+1076) :
  Ieee.double.mul 4368491638549381120 (Ieee.double.word s (E*p52+f))=some (Ieee.double.word s (yo (p52+f) (e-52))):=by
 obtain ⟨K,hK,hc⟩:∃ K,K=969∧U (4368491638549381120 % p63)=2 ^ (52+K):=by
  obtain ⟨K,hK⟩:∃ K,K=4368491638549381120 % p63 / p52-1:=⟨_,rfl⟩;have h1:p52+4368491638549381120 % p63 % p52=2 ^ 52:=by decide
  exact ⟨K,by rw [hK]; decide,qg (by decide) hK.symm h1⟩
 have hi:yC=2047*p52:=by decide
 have hlt:E*p52+f<yC:=by
  have:=Nat.mul_le_mul_right p52 hE; omega
 have d1:(E*p52+f) / p52=E:=by
  apply Nat.div_eq_of_lt_le
  ·omega
  ·rw [Nat.add_mul]; omega
 have d2:(E*p52+f) % p52=f:=by
  have:=Nat.div_add_mod (E*p52+f) p52; rw [d1,Nat.mul_comm] at this; omega
 have hU:U (E*p52+f)=(p52+f)*2 ^ (E-1):=by
  unfold U; rw [d1,d2,if_neg];have:=Nat.mul_le_mul_right p52 hE1; omega
 rw [qe (by decide) (by rw [wo s (Nat.le_of_lt hlt)]; exact hlt),wo s (Nat.le_of_lt hlt),ue s (Nat.le_of_lt hlt),hc,hU,Nat.mul_comm,Nat.mul_assoc,← Nat.pow_add,
  show (-2148:Int)=e-52-((E-1+(52+K):Nat):Int) by omega,yZ,
  show (neg 4368491638549381120 ^^ s)=s by rw [show neg 4368491638549381120=false by decide]; cases s<;>rfl]
set_option maxHeartbeats 16000000
theorem rX (x:Nat) (k:Int) (w:World) (Y:Nat) (e0:Int) (E f:Nat) (hx:x<18446744073709551616) (hY:Y<18446744073709551616)
  (c0:eqB x 0=false) (c1:decide (x % p63=yC)=false) (c2:isN x=false) (HC:Norm x Y e0) (he1:-52≤e0) (he2:e0≤0)
  (hk1:-4611686018427387904≤k) (hk2:k≤4611686018427387904) (hE:Y % p63 / p52=E) (hf:Y % p63 % p52=f) (hE0:1≤E) (hE1:E≤2046)
  (hfp:f<p52) (hN:isN Y=false) (hY0:Y % p63≠0) (hs:neg Y=neg x) (hr:yR x k=Ieee.double.word (neg x) (yo ((p52+f)*2 ^ (E-1)) (k+e0-1074))) :
  Calls Tryz.prog 133 #[.float .f64 x,.int .i64 k] w fun e w'=>e=.returned (.float .f64 (yR x k))∧w=w':=by
 have hb:=oN hY;rw [hE] at hb;obtain ⟨e,he⟩:∃ e:Int,k+e0+(E-1023)=e:=⟨_,rfl⟩;have hbd:-9000000000000000000≤e∧e≤9000000000000000000:=by omega
 obtain ⟨q1,q2,q3,q4⟩:=lD hE0 hfp (k+e0) e (by omega);obtain ⟨hb1,hb2⟩:=hbd;rw [hr];have hl:=mV hN hY0;rw [hs] at hl;by_cases h1:-1022≤e
 ·by_cases h2:e≤1023
  ·rw [q3 h1 h2];obtain ⟨T,hT⟩:∃ T:Nat,(T:Int)=e+1023:=⟨(e+1023).toNat,by omega⟩;rw [show (e+1023).toNat=T by omega];have hz:=pq (T:=T) hY (by omega);rw [hT,hf,hs] at hz;have hi:yC=2047*p52:=by decide
   have hlt:T*p52+f<yC:=by
    have:=Nat.mul_le_mul_right p52 (show T≤2046 by omega); omega
   have hm:=pt (Z:=Ieee.double.word (neg x) (T*p52+f)) (sq _ (Nat.le_of_lt hlt)) (by rw [wo _ (Nat.le_of_lt hlt)]; exact hlt);generalize Ieee.double.word (neg x) (T*p52+f)=Z at *;have f1:∀ w,zZ .mul w 4607182418800017408 Z=Z:=uy (op:=.mul) hm;have f2:zP .mul 4607182418800017408 Z=0:=vR (op:=.mul) hm;clear q1 q2 q3 q4 hm hlt hT hr hi hs hl hN hfp hf;go_enter Tryz.func133,Tryz.ntmps133;go_wp2_with (first | (go_at_call 145; refine (wh _ _ hx).mono ?_; rintro e w' ⟨rfl,rfl⟩) | (go_at_call 146; refine (we _ _).mono ?_; rintro e w' ⟨rfl,rfl⟩) | (go_at_call 147; refine (HC _).mono ?_; rintro e w' ⟨rfl,rfl⟩))
   go_ret;exact ⟨rfl,rfl⟩
  ·rw [q2 (by omega)];have h2':1023<e:=by omega
   cases hn:neg x
   ·rw [hn] at hl;clear q1 q2 q3 q4 hr hs hN hfp hf h2;go_enter Tryz.func133,Tryz.ntmps133;go_wp2_with (first | (go_at_call 145; refine (wh _ _ hx).mono ?_; rintro e w' ⟨rfl,rfl⟩) | (go_at_call 146; refine (we _ _).mono ?_; rintro e w' ⟨rfl,rfl⟩) | (go_at_call 147; refine (HC _).mono ?_; rintro e w' ⟨rfl,rfl⟩) | (go_at_call 81; refine (qh _).mono ?_; rintro e w' ⟨rfl,rfl⟩))
    go_ret;exact ⟨uA (by decide),rfl⟩
   ·rw [hn] at hl;clear q1 q2 q3 q4 hr hs hN hfp hf h2;go_enter Tryz.func133,Tryz.ntmps133;go_wp2_with (first | (go_at_call 145; refine (wh _ _ hx).mono ?_; rintro e w' ⟨rfl,rfl⟩) | (go_at_call 146; refine (we _ _).mono ?_; rintro e w' ⟨rfl,rfl⟩) | (go_at_call 147; refine (HC _).mono ?_; rintro e w' ⟨rfl,rfl⟩) | (go_at_call 81; refine (lE _).mono ?_; rintro e w' ⟨rfl,rfl⟩))
    go_ret;exact ⟨uA (by decide),rfl⟩
 ·by_cases h2:e < -1075
  ·rw [q1 h2];clear q1 q2 q3 q4 hr hN hfp hf hl h1;go_enter Tryz.func133,Tryz.ntmps133;go_wp2_with (first | (go_at_call 145; refine (wh _ _ hx).mono ?_; rintro e w' ⟨rfl,rfl⟩) | (go_at_call 146; refine (we _ _).mono ?_; rintro e w' ⟨rfl,rfl⟩) | (go_at_call 147; refine (HC _).mono ?_; rintro e w' ⟨rfl,rfl⟩) | (go_at_call 148; refine (qi _ _ _ (by decide) hY).mono ?_; rintro e w' ⟨rfl,rfl⟩))
   go_ret;exact ⟨rfl,rfl⟩
  ·rw [q4];obtain ⟨T,hT⟩:∃ T:Nat,(T:Int)=e+1076:=⟨(e+1076).toNat,by omega⟩;have hz:=pq (T:=T) hY (by omega);rw [show (T:Int)=e+53+1023 by omega,hf,hs] at hz;have hm:=n9 (neg x) e hfp (show T≤2046 by omega) (by omega) hT;have hwl:Ieee.double.word (neg x) (yo (p52+f) (e-52))<18446744073709551616:=sq _ (uI _ _);generalize Ieee.double.word (neg x) (T*p52+f)=Z at *;generalize Ieee.double.word (neg x) (yo (p52+f) (e-52))=R at *;have f1:∀ w,zZ .mul w 4368491638549381120 Z=R:=uy (op:=.mul) hm;have f2:zP .mul 4368491638549381120 Z=0:=vR (op:=.mul) hm;have h1':e < -1022:=by omega
   have h2':-1075≤e:=by omega
   clear q1 q2 q3 q4 hm hT hr hs hl hN hfp hf h1 h2;go_enter Tryz.func133,Tryz.ntmps133;go_wp2_with (first | (go_at_call 145; refine (wh _ _ hx).mono ?_; rintro e w' ⟨rfl,rfl⟩) | (go_at_call 146; refine (we _ _).mono ?_; rintro e w' ⟨rfl,rfl⟩) | (go_at_call 147; refine (HC _).mono ?_; rintro e w' ⟨rfl,rfl⟩))
   go_ret;exact ⟨rfl,rfl⟩
theorem ma (x:Nat) (k:Int) (w:World) (hx:x<18446744073709551616) (hk1:-4611686018427387904≤k) (hk2:k≤4611686018427387904) :
  Calls Tryz.prog 133 #[.float .f64 x,.int .i64 k] w fun e w'=>e=.returned (.float .f64 (yR x k))∧w=w':=by
 by_cases h:x % p63=0∨yC≤x % p63
 ·exact n8 x k w hx h
 ·have h0:x % p63≠0:=fun e=>h (.inl e)
  have hlt:x % p63<yC:=by omega
  have hN:isN x=false:=uz (Nat.le_of_lt hlt)
  have c0:eqB x 0=false:=by
   unfold eqB; rw [show isN 0=false by decide,show key 0=0 by decide];have k0:key x≠0:=by unfold key; split<;>omega
   simp [k0]
  have c1:decide (x % p63=yC)=false:=decide_eq_false (by omega);have hr:yR x k=Ieee.double.word (neg x) (yo (U (x % p63)) (k-1074)):=by unfold yR; rw [if_neg h]
  by_cases hs:x % p63<p52
  ·obtain ⟨e1,e2,e3,e4⟩:=qN h0 hs;obtain ⟨n1,n2,n3,n4,n5⟩:=te e2 e3;have wm:=wo (neg x) (Nat.le_of_lt e3);refine rX x k w (Ieee.double.word (neg x) (yo (x % p63) (-1022))) (-52) _ _ hx (sq _ (Nat.le_of_lt e3)) c0 c1 hN (fun w=>sn x w hx h0 hs) (by omega) (by omega) hk1 hk2 rfl rfl (by rw [wm]; exact n1) (by rw [wm]; exact n2) (by rw [wm]; exact n3) (mr _ (Nat.le_of_lt e3)) (by rw [wm]; unfold p52 at e2; omega) (ue _ (Nat.le_of_lt e3)) ?_;rw [hr,wm,← n5,e4];have hU:U (x % p63)=x % p63:=by unfold U; rw [if_pos hs]
   rw [hU];have:=yZ (x % p63) (k-1074) 52;rw [← this,show k-1074-((52:Nat):Int)=k+-52-1074 by omega]
  ·obtain ⟨n1,n2,n3,n4,n5⟩:=te (show p52≤x % p63 by omega) hlt;refine rX x k w x 0 _ _ hx hx c0 c1 hN (fun w=>rB x w hx hN (by omega)) (by omega) (by omega) hk1 hk2 rfl rfl n1 n2 n3 hN h0 rfl ?_;rw [hr,← n5,Int.add_zero]
theorem sT (x:Nat) (k:Int) (w:World) (hx:x<18446744073709551616) (hk1:-4611686018427387904≤k) (hk2:k≤4611686018427387904) :
  Calls Tryz.prog 116 #[.float .f64 x,.int .i64 k] w fun e w'=>e=.returned (.float .f64 (yR x k))∧w=w':=by
 go_enter Tryz.func116,Tryz.ntmps116;go_wp2_with (go_at_call 133; refine (ma _ _ _ hx hk1 hk2).mono ?_; rintro e w' ⟨rfl,rfl⟩)
 go_ret;exact ⟨rfl,rfl⟩
theorem rY (x:Nat) (k:Int) (w:World) (hx:x<18446744073709551616) (hk1:-4611686018427387904≤k) (hk2:k≤4611686018427387904) :
  Calls Tryz.prog 84 #[.float .f64 x,.int .i64 k] w fun e w'=>e=.returned (.float .f64 (yR x k))∧w=w':=by
 go_enter Tryz.func84,Tryz.ntmps84;go_wp2_with (go_at_call 116; refine (sT _ _ _ hx hk1 hk2).mono ?_; rintro e w' ⟨rfl,rfl⟩)
 go_ret;exact ⟨rfl,rfl⟩
theorem oO (x:Nat) (k:Int) (w:World) (hx:x<18446744073709551616) (hk1:-4611686018427387904≤k) (hk2:k≤4611686018427387904) :
  Calls Tryz.prog 87 #[.float .f64 x,.int .i64 k] w fun e w'=>e=.returned (.float .f64 (yR x k))∧w=w':=by
 go_enter Tryz.func87,Tryz.ntmps87;go_wp2_with (go_at_call 116; refine (sT _ _ _ hx hk1 hk2).mono ?_; rintro e w' ⟨rfl,rfl⟩)
 go_ret;exact ⟨rfl,rfl⟩
end Go.Proofs.YtnlbafjmbamoeaaGreat
namespace Go.Proofs.YtnlbafjmbamoeaaGreat
open Go.RowKit Lib
open Ieee (double)
attribute [local go_sem] zr zi zy zn zU zS zW zX zV zY zD zH zI zJ zK zB ye z8 zF yE zN zQ
theorem vi (v:Value) (q n:Nat) (hq:2≤q) (hq7:q≤7) (z:Nat→Nat→Nat) (w:World) (h:yB w v q (fun _=>n) z):Calls Tryz.prog 66 #[v] w (xf (.bool true) w):=by
 have EV:=hid (uX v q n z w h);obtain ⟨b,o,c,rfl,hb,hr⟩:=h.rowAt (by omega);obtain ⟨pz,cz,z0,-⟩:=hr 0 (by omega);rw [Nat.add_zero] at z0;have hq2:(2:Int)≤(q:Int):=by omega
 have hq8:(q:Int)≤7:=by omega
 clear h hr;go_enter Tryz.func66,Tryz.ntmps66;go_wp2_with fail;refine EV.out.mono ?_;rintro e w1 ⟨rfl,hb1⟩;go_wp2_with fail;go_ret;exact ⟨rfl,hb1⟩
theorem uY (fn:Nat) (cs:Array Value) (v:Value) (q n:Nat) (hq:1≤q) (hq7:q≤7) (h1:1≤n) (h4:n≤4) (z g:Nat→Nat→Nat) (w:World) (h:yB w v q (fun _=>n) z) (hf:∀ u v W,(callFunc fn (#[u,v] ++ cs)).run Tryz.prog W=.ok (.enter fn (#[u,v] ++ cs)) W)
  (hc:∀ k i W,k<q→i<n→Below w.heap.size w W→Calls Tryz.prog fn (#[.int .i64 k,.int .i64 i] ++ cs) W (xY (g k i) W)) :
  Calls Tryz.prog 67 #[v,.func (.func fn) #[] cs] w (sR q n g w):=by
 have MD:=hid (sS fn cs q n hq7 h1 h4 g w hf hc);obtain ⟨b,o,c,rfl,hb,hr⟩:=h.rowAt (by omega);obtain ⟨pz,cz,z0,-⟩:=hr 0 (by omega);rw [Nat.add_zero] at z0;have hq2:(0:Int)<(q:Int):=by omega
 clear h hr hc hf;go_enter Tryz.func67,Tryz.ntmps67;go_wp2_with fail;refine MD.out.mono ?_;rintro e w1 ⟨G,A,rfl,hs,hb1⟩;go_wp2_with fail;go_ret;exact ⟨G,A,rfl,hs,hb1⟩
set_option maxRecDepth 100000
theorem sU (k i P q n:Nat) (v:Value) (z:Nat→Nat→Nat) (w:World) (hk:k<q) (hi:i<n) (h:yB w v q (fun _=>n) z) (hp:w.cell? ⟨P,0,none⟩=some v) :
  Calls Tryz.prog 68 #[.int .i64 k,.int .i64 i,.pointer (some ⟨P,0,none⟩)] w (xY (z k i) w):=by
 obtain ⟨b,o,c,rfl,hb,hr⟩:=h.rowAt (by omega);obtain ⟨pz,cz,z0,hz⟩:=hr k hk;obtain ⟨b2,o2,c2,hv,hb2,hc2⟩:=hz.numAt (by omega);simp only [Value.slice.injEq,true_and] at hv;obtain ⟨rfl,rfl⟩:=hv;obtain ⟨y,y1,y2,y3⟩:=hc2 i hi;clear h hr hz hc2;go_enter Tryz.func68,Tryz.ntmps68;go_wp2_with fail;go_ret;exact ⟨y,rfl,y2,y3,Below.refl _ _⟩
theorem sV (k i P L D q n:Nat) (v vl vd:Value) (z:Nat→Nat→Nat) (l d:Nat→Nat) (w:World) (hk:k<q) (hi:i<n) (h:yB w v q (fun _=>n) z) (hl:zT w vl q l) (hd:zT w vd n d) (hp:w.cell? ⟨P,0,none⟩=some v) (hp2:w.cell? ⟨L,0,none⟩=some vl) (hp3:w.cell? ⟨D,0,none⟩=some vd) :
  Calls Tryz.prog 86 #[.int .i64 k,.int .i64 i,.pointer (some ⟨P,0,none⟩),.pointer (some ⟨L,0,none⟩),.pointer (some ⟨D,0,none⟩)] w (xY (wb z l d k i) w):=by
 obtain ⟨b,o,c,rfl,hb,hr⟩:=h.rowAt (by omega);obtain ⟨pz,cz,z0,hz⟩:=hr k hk;obtain ⟨b2,o2,c2,hv,hb2,hc2⟩:=hz.numAt (by omega);simp only [Value.slice.injEq,true_and] at hv;obtain ⟨rfl,rfl⟩:=hv;obtain ⟨bl,ol,cl,rfl,-,hl2⟩:=hl.numAt (by omega);obtain ⟨bd,od,cd,rfl,-,hd2⟩:=hd.numAt (by omega);obtain ⟨y,y1,y2,y3⟩:=hc2 i hi;obtain ⟨x,x1,x2,x3⟩:=hl2 k hk;obtain ⟨u,u1,u2,u3⟩:=hd2 i hi;have K:=hid (fun w v=>qv w v y2 x2 u2);clear h hr hz hc2 hl hd hl2 hd2 y2 x2 u2;go_enter Tryz.func86,Tryz.ntmps86;go_wp2_with fail;refine zw [(0,2),(1,1),(2,1),(3,2),(4,1),(5,1),(6,2),(7,2),(8,1),(9,1),(10,2),(11,2),(12,1),(13,1),(14,2),(15,0),(16,0),(17,1)] (by kernel_rfl) (by kernel_rfl) (fun _ _ d _ _ h=>by cases d<;>exact h) ?_;intro Z hZ;have hz:∀ b o,Z.cell? ⟨b,o,none⟩=w.cell? ⟨b,o,none⟩:=fun b o=>by rw [hZ]; rfl
 have HZ:=hid (show Below w.heap.size w Z by rw [hZ]; exact (Below.refl _ _).drew);rw [← hz] at hp hp2 hp3 z0 y1 x1 u1;clear hZ hz
 iterate 15
  first
   | refine zd (fun K hK=>?_)
   | refine ze (fun K hK=>?_)
  go_simp;refine hK _ ?_;clear hK K
 refine zx (fun K hK=>?_);go_simp;refine hK _ _ (fun _=>⟨_,rfl⟩) ?_;clear hK K;refine zx (fun K hK=>?_);go_simp;refine hK _ _ (fun _=>⟨_,rfl⟩) ?_;clear hK K
 iterate 1
  first
   | refine zd (fun K hK=>?_)
   | refine ze (fun K hK=>?_)
  go_simp;refine hK _ ?_;clear hK K
 refine zo ?_;go_wp2_with fail;go_ret;exact ⟨_,rfl,K.out _ _,yi _ _ _ _,below_drewN HZ.out _⟩
theorem sW (k i P L q n:Nat) (s:Int) (hs:-40≤s∧s≤40) (v:Value) (z:Nat→Nat→Nat) (w:World) (hk:k<q) (hq:q≤7) (hi:i<n) (h:yB w v q (fun _=>n) z) (hp:w.cell? ⟨P,0,none⟩=some v) (hp2:w.cell? ⟨L,0,none⟩=some (.int .i64 s)) :
  Calls Tryz.prog 112 #[.int .i64 k,.int .i64 i,.pointer (some ⟨P,0,none⟩),.pointer (some ⟨L,0,none⟩)] w (xY (xZ z s k i) w):=by
 obtain ⟨b,o,c,rfl,hb,hr⟩:=h.rowAt (by omega);obtain ⟨pz,cz,z0,hz⟩:=hr k hk;obtain ⟨b2,o2,c2,hv,hb2,hc2⟩:=hz.numAt (by omega);simp only [Value.slice.injEq,true_and] at hv;obtain ⟨rfl,rfl⟩:=hv;obtain ⟨y,y1,y2,y3⟩:=hc2 i hi;obtain ⟨t,ht⟩:∃ t:Int,(k:Int)*s=t:=⟨_,rfl⟩
 have ht2:-240≤t∧t≤240:=by
  rw [← ht];have h6:(k:Int)≤6:=by omega
  have h0:(0:Int)≤(k:Int):=by omega
  constructor
  ·have:=Int.mul_le_mul_of_nonneg_left hs.1 h0;omega
  ·have:=Int.mul_le_mul_of_nonneg_left hs.2 h0;omega
 have hw:IntKind.i64.wrap ((k:Int)*s)=t:=by rw [ht]; exact IntWalk.i64_in _ (by omega)
 have K:=hid (show zk (yR y t)=xZ z s k i∧yR y t<18446744073709551616 from ⟨by unfold xZ; rw [ht]; exact mT y2 t,pp y3⟩);clear h hr hz hc2 ht y2;go_enter Tryz.func112,Tryz.ntmps112;go_wp2_with fail;refine zw [(0,2),(1,1),(2,1),(3,2),(4,1),(5,1),(6,2),(7,1),(8,2),(9,1),(10,0),(11,1)] (by kernel_rfl) (by kernel_rfl) (fun _ _ d _ _ h=>by cases d<;>exact h) ?_;intro Z hZ;have hz:∀ b o,Z.cell? ⟨b,o,none⟩=w.cell? ⟨b,o,none⟩:=fun b o=>by rw [hZ]; rfl
 have HZ:=hid (show Below w.heap.size w Z by rw [hZ]; exact (Below.refl _ _).drew);rw [← hz] at hp hp2 z0 y1;clear hZ hz
 iterate 10
  first
   | refine zd (fun K hK=>?_)
   | refine ze (fun K hK=>?_)
  go_simp;refine hK _ ?_;clear hK K
 refine zx (fun K hK=>?_);go_simp;refine (rY y t _ y3 (by omega) (by omega)).mono ?_;rintro e w' ⟨rfl,rfl⟩;refine hK _ _ (fun _=>⟨0,rfl⟩) ?_;clear hK K
 iterate 1
  first
   | refine zd (fun K hK=>?_)
   | refine ze (fun K hK=>?_)
  go_simp;refine hK _ ?_;clear hK K
 refine zo ?_;go_wp2_with fail;go_ret;exact ⟨_,rfl,K.out.1,K.out.2,HZ.out⟩
theorem vj (v:Value) (q n:Nat) (s:Int) (hs:-40≤s∧s≤40) (hq:2≤q) (hq7:q≤7) (h1:1≤n) (h4:n≤4) (z:Nat→Nat→Nat) (w:World) (h:yB w v q (fun _=>n) z) :
  Calls Tryz.prog 78 #[v,.int .i64 s] w (sR q n (xZ z s) w):=by
 have hx:=al2 w (.cells #[v] 35) (.cells #[.int .i64 s] 3);have hv:∃ a cap,v=.slice a q cap:=by obtain ⟨a,cap,e,-⟩:=h; exact ⟨a,cap,e⟩
 obtain ⟨a,cap,rfl⟩:=hv;have hd1:decide (s < -40)=false:=by simp; omega
 have hd2:decide (40<s)=false:=by simp; omega
 go_enter Tryz.func78,Tryz.ntmps78;go_upto_region 1 with fail
 generalize hB:w.heap.size=B at *;generalize (w.alloc (.cells #[.slice a q cap] 35)).alloc (.cells #[.int .i64 s] 3)=X at *;obtain ⟨x1,x2,x3,x4⟩:=hx;have hX:yB X (.slice a q cap) q (fun _=>n) z:=h.below (hB ▸ x4);have c1:=zf x1 0;have c2:=zf x2 0;simp only [List.getElem?_toArray,List.getElem?_cons_zero] at c1 c2;have ST:=hid (vi _ q n hq hq7 z X hX);have HX1:=hid x1;have HX2:=hid x2;have HX:=hid hX;clear h hX x1 x2;go_wp2_with fail;refine ST.out.mono ?_;rintro e w1 ⟨rfl,hb1⟩;rw [← hb1.cell (p:=⟨B,0,none⟩) (by show B<X.heap.size; omega)] at c1;rw [← hb1.cell (p:=⟨B+1,0,none⟩) (by show B+1<X.heap.size; omega)] at c2
 have LK:=hid (uY 112 #[.pointer (some ⟨B,0,none⟩),.pointer (some ⟨B+1,0,none⟩)] _ q n (by omega) hq7 h1 h4 z (xZ z s) w1 (HX.out.below hb1) (fun _ _ _=>rfl) (fun k i W hk hi hW=>sW k i B (B+1) q n s hs _ z W hk hq7 hi ((HX.out.below hb1).below hW)
  ((hW.cell (p:=⟨B,0,none⟩) (by show B<_; have:=hb1.size; omega)).trans c1) ((hW.cell (p:=⟨B+1,0,none⟩) (by show B+1<_; have:=hb1.size; omega)).trans c2)))
 have HB1:=hid (x4.trans (hb1.mono (by omega)));clear hb1;go_wp2_with fail;refine LK.out.mono ?_;rintro e w2 ⟨G,A,rfl,hg,hb2⟩;have HG:=hid (hg.base (b':=B) (by have:=HB1.out.size; omega));have HB2:=hid (HB1.out.trans (hb2.mono (by have:=HB1.out.size; omega)));clear hg hb2;go_wp2_with fail;go_ret;exact ⟨G,A,rfl,by rw [hB]; exact HG.out,by rw [hB]; exact HB2.out⟩
theorem rC (v vl vd:Value) (q n:Nat) (hq:2≤q) (hq7:q≤7) (h1:1≤n) (h4:n≤4) (z:Nat→Nat→Nat) (l d:Nat→Nat) (w:World) (h:yB w v q (fun _=>n) z) (hl:zT w vl q l) (hd:zT w vd n d) :
  Calls Tryz.prog 43 #[v,vl,vd] w (sR q n (wb z l d) w):=by
 have hx:=al3 w (.cells #[v] 35) (.cells #[vl] 30) (.cells #[vd] 30);obtain ⟨b,o,c,rfl,hb,hr⟩:=h.rowAt (by omega);obtain ⟨pz,cz,z0,-⟩:=hr 0 (by omega);rw [Nat.add_zero] at z0;obtain ⟨bl,ol,cl,rfl,-,-⟩:=hl.numAt (by omega);obtain ⟨bd,od,cd,rfl,-,-⟩:=hd.numAt (by omega);clear hr;go_enter Tryz.func43,Tryz.ntmps43;go_upto_region 1 with fail
 generalize hB:w.heap.size=B at *;generalize ((w.alloc (.cells #[.slice (some ⟨b,o,none⟩) q c] 35)).alloc (.cells #[.slice (some ⟨bl,ol,none⟩) q cl] 30)).alloc (.cells #[.slice (some ⟨bd,od,none⟩) n cd] 30)=X at *;obtain ⟨x1,x2,x3,x5,x4⟩:=hx;have hX:yB X _ q (fun _=>n) z:=h.below (hB ▸ x4);have hL:=hl.below (hB ▸ x4);have hD:=hd.below (hB ▸ x4);rw [← x4.cell (p:=⟨b,o,none⟩) hb] at z0;have hbX:b<X.heap.size:=by omega
 have c1:=zf x1 0;have c2:=zf x2 0;have c3:=zf x3 0;simp only [List.getElem?_toArray,List.getElem?_cons_zero] at c1 c2 c3;have ST:=hid (fun W (hW:Below X.heap.size X W)=>vi _ q n hq hq7 z W (hX.below hW));have HX1:=hid x1;have HX2:=hid x2;have HX3:=hid x3;have HX:=hid hX;have HL:=hid hL;have HD:=hid hD;have hB3:B+2<X.heap.size:=by omega
 have hB2:B+1<X.heap.size:=by omega
 have hB1:B<X.heap.size:=by omega
 have hqi:0<q:=by omega
 clear h hl hd hX hL hD x1 x2 x3 hb;go_wp2_with fail;refine zv [(0,3),(1,0),(2,1),(3,1),(4,3),(5,1),(6,3),(7,1),(8,1),(9,1),(10,1),(11,3),(12,1),(13,3),(14,1),(15,3),(16,1),(17,1),(18,1)] (fun W=>Below X.heap.size X W) (by kernel_rfl) (by kernel_rfl) (fun _ _ d _ _ h=>by cases d<;>exact h) ((Below.refl _ _).drew) ?_;intro Z hZ hbZ;clear hZ;refine zh (v:=.slice (some ⟨b,o,none⟩) q c) rfl rfl (fun wk hwk=>?_) ?_
 ·rw [← (zA hwk).1 _ _ hB1] at c1;go_simp
 refine zm (fun K hK=>?_);go_simp;refine (ST.out Z hbZ).mono ?_;rintro e w1 ⟨rfl,hb1⟩;have hbA:=hbZ.trans (hb1.mono hbZ.size);refine hK _ _ (fun h=>Bool.noConfusion (Eq.trans (Eq.symm (by kernel_rfl:_=false)) h)) (fun _=>hbA) ?_;clear hK K
 iterate 2
  first
   | refine zd (fun K hK=>?_)
   | refine ze (fun K hK=>?_)
  go_simp;refine hK _ ?_;clear hK K
 refine zh (v:=.slice (some ⟨bl,ol,none⟩) q cl) rfl rfl (fun wk hwk=>?_) ?_
 ·rw [← (zA hwk).1 _ _ hB2] at c2;go_simp
 iterate 1
  first
   | refine zd (fun K hK=>?_)
   | refine ze (fun K hK=>?_)
  go_simp;refine hK _ ?_;clear hK K
 refine zh (v:=.slice (some ⟨b,o,none⟩) q c) rfl rfl (fun wk hwk=>?_) ?_
 ·rw [← (zA hwk).1 _ _ hB1] at c1;go_simp
 iterate 4
  first
   | refine zd (fun K hK=>?_)
   | refine ze (fun K hK=>?_)
  go_simp;refine hK _ ?_;clear hK K
 refine zh (v:=.slice (some ⟨bd,od,none⟩) n cd) rfl rfl (fun wk hwk=>?_) ?_
 ·rw [← (zA hwk).1 _ _ hB3] at c3;go_simp
 iterate 1
  first
   | refine zd (fun K hK=>?_)
   | refine ze (fun K hK=>?_)
  go_simp;refine hK _ ?_;clear hK K
 refine zh (v:=.slice (some ⟨b,o,none⟩) q c) rfl rfl (fun wk hwk=>?_) ?_
 ·rw [← (zA hwk).1 _ _ hB1] at c1;go_simp
 iterate 1
  first
   | refine zd (fun K hK=>?_)
   | refine ze (fun K hK=>?_)
  go_simp;refine hK _ ?_;clear hK K
 refine zh (v:=.slice pz n cz) rfl rfl (fun wk hwk=>?_) ?_
 ·rw [← (zA hwk).1 _ _ hbX] at z0;go_simp
 iterate 3
  first
   | refine zd (fun K hK=>?_)
   | refine ze (fun K hK=>?_)
  go_simp;refine hK _ ?_;clear hK K
 refine zo ?_;rw [← hbA.cell (p:=⟨B,0,none⟩) hB1] at c1;rw [← hbA.cell (p:=⟨B+1,0,none⟩) hB2] at c2;rw [← hbA.cell (p:=⟨B+2,0,none⟩) hB3] at c3;have hs1:=hbA.size
 have LK:=hid (uY 86 #[.pointer (some ⟨B,0,none⟩),.pointer (some ⟨B+1,0,none⟩),.pointer (some ⟨B+2,0,none⟩)] _ q n (by omega) hq7 h1 h4 z (wb z l d) w1 (HX.out.below hbA) (fun _ _ _=>rfl) (fun k i W hk hi hW=>sV k i B (B+1) (B+2) q n _ _ _ z l d W hk hi ((HX.out.below hbA).below hW) ((HL.out.below hbA).below hW) ((HD.out.below hbA).below hW)
  ((hW.cell (p:=⟨B,0,none⟩) (by show B<_; omega)).trans c1) ((hW.cell (p:=⟨B+1,0,none⟩) (by show B+1<_; omega)).trans c2) ((hW.cell (p:=⟨B+2,0,none⟩) (by show B+2<_; omega)).trans c3)))
 have HB1:=hid (x4.trans (hbA.mono (by omega)));clear hb1 hbA hbZ z0 hbX;go_wp2_with fail;refine LK.out.mono ?_;rintro e w2 ⟨G,A,rfl,hg,hb2⟩;have HG:=hid (hg.base (b':=B) (by have:=HB1.out.size; omega));have HB2:=hid (HB1.out.trans (hb2.mono (by have:=HB1.out.size; omega)));clear hg hb2;go_wp2_with fail;go_ret;exact ⟨G,A,rfl,by rw [hB]; exact HG.out,by rw [hB]; exact HB2.out⟩
def us (f:Nat→Nat→Nat) (k i:Nat):Nat→Nat→Nat:=yy f k fun j=>if j<i then cop .add (f k j) (f (k+1) j) else f k j
theorem sX (f:Nat→Nat→Nat) (k a b:Nat):us f k 0 a b=f a b:=by
 unfold us yy;split
 ·rename_i e; subst e; rfl
 ·rfl
theorem pu (f:Nat→Nat→Nat) (k n a b:Nat) (hb:b<n):us f k n a b=sQ f k a b:=by
 unfold us sQ yy;split
 ·dsimp only;rw [if_pos hb]
 ·rfl
theorem rZ (f:Nat→Nat→Nat) (k i a b:Nat):xR (us f k i) k i (cop .add (f k i) (f (k+1) i)) a b=us f k (i+1) a b:=by
 by_cases e:a=k∧b=i
 ·obtain ⟨rfl,rfl⟩:=e;rw [sF];unfold us;rw [zL,if_pos (by omega)]
 ·rw [sG _ _ (by omega)];unfold us yy;split
  ·dsimp only;by_cases h:b<i
   ·rw [if_pos h,if_pos (by omega)]
   ·rw [if_neg h,if_neg (by omega)]
  ·rfl
theorem sx (f:Nat→Nat→Nat) (k i:Nat):us f k i k i=f k i∧us f k i (k+1) i=f (k+1) i:=by
 unfold us;rw [zL,if_neg (by omega),zG _ _ (by omega)];exact ⟨rfl,rfl⟩
theorem sY {op:BinOp} {x y a b:Nat} (w:World) (h1:zk x=a) (h2:zk y=b):zk (zZ op w x y)=cop op a b:=by
 rw [z9,← h1,← h2,zE,zC]
set_option maxHeartbeats 16000000
theorem rD (v:Value) (q n:Nat) (hq:1≤q) (hq6:q≤6) (h1:1≤n) (h4:n≤4) (z:Nat→Nat→Nat) (w:World) (h:yB w v (q+1) (fun _=>n) z) :
  Calls Tryz.prog 37 #[v] w (sR (q+1) n (wG z q) w):=by
 have hx:=al1 w (.cells #[v] 35);have hv:∃ a cap,v=.slice a (q+1) cap:=by obtain ⟨a,cap,e,-⟩:=h; exact ⟨a,cap,e⟩
 obtain ⟨a,cap,rfl⟩:=hv;go_enter Tryz.func37,Tryz.ntmps37;go_upto_region 1 with fail
 generalize hB:w.heap.size=B at *;generalize w.alloc (.cells #[.slice a (q+1) cap] 35)=X at *;obtain ⟨x1,x3,x4⟩:=hx;have hX:yB X (.slice a (q+1) cap) (q+1) (fun _=>n) z:=h.below (hB ▸ x4);have c1:=zf x1 0;simp only [List.getElem?_toArray,List.getElem?_cons_zero] at c1;have ST:=hid (vi _ (q+1) n (by omega) (by omega) z X hX);have HX1:=hid x1;have HX:=hid hX;clear h hX x1;go_wp2_with fail;refine ST.out.mono ?_;rintro e w1 ⟨rfl,hb1⟩;rw [← hb1.cell (p:=⟨B,0,none⟩) (by show B<X.heap.size; omega)] at c1
 have LK:=hid (uY 68 #[.pointer (some ⟨B,0,none⟩)] _ (q+1) n (by omega) (by omega) h1 h4 z z w1 (HX.out.below hb1) (fun _ _ _=>rfl) (fun k i W hk hi hW=>sU k i B (q+1) n _ z W hk hi ((HX.out.below hb1).below hW)
  ((hW.cell (p:=⟨B,0,none⟩) (by show B<_; have:=hb1.size; omega)).trans c1)))
 have HB1:=hid (x4.trans (hb1.mono (by omega)));clear hb1;have hw1:IntKind.i64.wrap (((q:Int)+1)-1)=(q:Int):=by rw [show ((q:Int)+1)-1=q by omega]; exact IntWalk.i64_in _ (by omega)
 go_wp2_with fail;refine LK.out.mono ?_;rintro e w2 ⟨G,A,rfl,hg,hb2⟩;have HG:=hid (hg.base (b':=B) (by have:=HB1.out.size; omega));have HB2:=hid (HB1.out.trans (hb2.mono (by have:=HB1.out.size; omega)));clear hg hb2;go_wp2_with fail
 go_loopw [5] (fun j wr=>∃ c:Nat,c≤q∧j=.int .i64 ((c:Int)+1)∧yL wr B G A (q+1) n (prF z q c)∧Below B w wr) (fun j _=>q+2-(intOf j).toNat)
 case atStart=>exact ⟨0,by omega,rfl,HG.out,HB2.out⟩
 case round=>
  clear HG HB2;obtain ⟨c,hc,rfl,hg,hbl⟩:=hrel;by_cases hcq:c<q
  ·have HG:=hid hg;have HBL:=hid hbl;have hci:(c:Int)+1≤(q:Int):=by omega
   have hw2:IntKind.i64.wrap ((q:Int)-1)=(q:Int)-1:=IntWalk.i64_in _ (by omega);clear hg hbl;go_wp2_with fail
   go_loopw [6] (fun kk wr=>∃ (e:Nat) (t:Int),e≤q-c∧kk=.int .i64 t∧t=(q:Int)-1-e∧yL wr B G A (q+1) n (inF (prF z q c) q e)∧Below B w wr) (fun kk _=>(intOf kk+1).toNat)
   case atStart=>exact ⟨0,_,by omega,rfl,by omega,HG.out,HBL.out⟩
   case round=>
    clear HG HBL;obtain ⟨e,t,he,rfl,ht,hg,hbl⟩:=hrel;by_cases heq:e<q-c
    ·obtain ⟨K,rfl⟩:∃ K:Nat,(K:Int)=t:=⟨t.toNat,by omega⟩;have hK:K=q-1-e:=by omega
     have hstep:inF (prF z q c) q (e+1)=sQ (inF (prF z q c) q e) K:=by rw [inF,hK]
     have HST:=hid hstep;obtain ⟨F1,hF1⟩:∃ F,inF (prF z q c) q e=F:=⟨_,rfl⟩;rw [hF1] at hg HST;have hKc:c≤K:=by omega
     have hKi:(c:Int)≤(K:Int):=by omega
     have hKq:K+1<q+1:=by omega
     have HKE:=hid (show (K:Int)=(q:Int)-1-e by omega);have hw4:IntKind.i64.wrap ((K:Int)+1)=(K:Int)+1:=IntWalk.i64_in _ (by omega);have hKi1:(K:Int)<(q:Int)+1:=by omega
     have hKi0:(0:Int)≤(K:Int)+1:=by omega
     have hKi2:(K:Int)<(q:Int):=by omega
     have hKq1:K<q+1:=by omega
     have HG:=hid hg;have HBL:=hid hbl;have g1:=hg.ref hKq1;clear hg hbl hstep ht hK hF1;go_wp2_with fail
     go_loopw [35] (fun ii wr=>∃ i:Nat,i≤n∧ii=.int .i64 i∧yL wr B G A (q+1) n (us F1 K i)∧Below B w wr) (fun ii _=>n-(intOf ii).toNat)
     case atStart=>exact ⟨0,by omega,rfl,HG.out.congr (fun a b _ _=>(sX F1 K a b).symm),HBL.out⟩
     case round=>
      clear HG HBL g1;obtain ⟨i,hi,rfl,hg,hbl⟩:=hrel;by_cases hin:i<n
      ·have g1:=hg.ref hKq1;have g2:=hg.ref hKq;obtain ⟨y,y1,y2,y3⟩:=hg.cell hKq1 hin;obtain ⟨u,u1,u2,u3⟩:=hg.cell hKq hin;rw [(sx F1 K i).1] at y2;rw [(sx F1 K i).2] at u2;have r1:=hg.free (K*n+i);have K1:=hid (fun w=>sY (op:=.add) w y2 u2);have HG:=hid hg;have HBL:=hid hbl;have hin':(i:Int)<(n:Int):=by omega
       generalize hP:K*n=P at *;generalize (K+1)*n=P2 at *;clear hg hbl y2 u2;go_wp2_with fail;refine zw [(0,1),(1,1),(2,1),(3,2),(4,1),(5,1),(6,2),(7,1),(8,1),(9,1),(10,1),(11,2),(12,1),(13,1),(14,2),(15,0),(16,1),(17,0)] (by kernel_rfl) (by kernel_rfl) (fun _ _ d _ _ h=>by cases d<;>exact h) ?_;intro Z hZ;have hz:∀ b o,Z.cell? ⟨b,o,none⟩=wr.cell? ⟨b,o,none⟩:=fun b o=>by rw [hZ]; rfl
       have hz2:∀ b o,Z.frozen? ⟨b,o,none⟩=wr.frozen? ⟨b,o,none⟩:=fun b o=>by rw [hZ]; rfl
       have HZ:=hid (show yL Z B G A (q+1) n (us F1 K i)∧Below B w Z by rw [hZ]; exact ⟨HG.out.drewN 1,HBL.out.drew⟩);rw [← hz] at g1 g2 y1 u1;rw [← hz2] at r1;clear hZ hz hz2 HG HBL
       iterate 15
        first
         | refine zd (fun K hK=>?_)
         | refine ze (fun K hK=>?_)
        go_simp;refine hK _ ?_;clear hK K
       refine zx (fun K hK=>?_);go_simp;refine hK _ _ (fun _=>⟨_,rfl⟩) ?_;clear hK K
       iterate 1
        first
         | refine zd (fun K hK=>?_)
         | refine ze (fun K hK=>?_)
        go_simp;refine hK _ ?_;clear hK K
       refine zx (fun K hK=>?_);go_simp;refine hK _ _ (fun h=>Bool.noConfusion (Eq.trans (Eq.symm (by kernel_rfl:_=false)) h)) ?_;clear hK K;refine zo ?_;have REL:=hid (show yL _ B G A (q+1) n (xR (us F1 K i) K i (cop .add (F1 K i) (F1 (K+1) i)))∧Below B w _ from ⟨(HZ.out.1.set hKq1 hin (K1.out Z) (yi _ _ _ _)).drewN (zP .add y u),below_drewN (HZ.out.2.setCell (p:=⟨A,K*n+i,none⟩) HZ.out.1.lt.2.1 (.float .f64 (zZ .add Z y u))) (zP .add y u)⟩);rw [hP] at REL;go_wp2_with fail
       go_roundw
       case rel=>exact ⟨i+1,by omega,by go_num,REL.out.1.congr (fun a b _ _=>rZ F1 K i a b),REL.out.2⟩
       case measure=>simp [intOf]; omega
      ·obtain rfl:n=i:=by omega
       have HG:=hid (hg.congr (g:=inF (prF z q c) q (e+1)) (fun a b _ hb=>by rw [pu _ _ _ _ _ hb,HST.out]));have HBL:=hid hbl;have hw3:IntKind.i64.wrap ((K:Int)-1)=(K:Int)-1:=IntWalk.i64_in _ (by omega);clear hg hbl;go_wp2_with fail
       go_roundw
       case rel=>exact ⟨e+1,_,by omega,rfl,by have:=HKE.out; omega,HG.out,HBL.out⟩
       case measure=>simp [intOf]<;>omega
    ·have HG:=hid (show yL wr B G A (q+1) n (prF z q (c+1)) by rw [prF,← show e=q-c by omega]; exact hg);have HBL:=hid hbl;have hKi:¬ (c:Int)≤t:=by omega
     clear hg hbl ht;go_wp2_with fail
     go_roundw
     case rel=>exact ⟨c+1,by omega,by go_num,HG.out,HBL.out⟩
     case measure=>simp [intOf]; omega
  ·obtain rfl:c=q:=by omega
   have hci:¬ (c:Int)+1≤(c:Int):=by omega
   have HG:=hid hg;have HBL:=hid hbl;clear hg hbl;go_wp2_with fail;go_ret;exact ⟨G,A,rfl,by rw [hB]; exact HG.out,by rw [hB]; exact HBL.out⟩
end Go.Proofs.YtnlbafjmbamoeaaGreat
