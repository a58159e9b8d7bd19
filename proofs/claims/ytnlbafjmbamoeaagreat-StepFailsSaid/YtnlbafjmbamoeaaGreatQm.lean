/-
  Contracts (what a function tells) and plain facts that a law's proof hangs on, for every input; no condition but those in their statements. Laid together of the texts Sj, Sk, Sl, Sm, Sr, Sv.
-/
import Derived.Test.YtnlbafjmbamoeaaGreatQj
import Derived.Test.YtnlbafjmbamoeaaGreatQl
import Derived.Laws.Tables
import Derived.Scope
import Derived.ScopeJumps
import Derived.WalkMore
import Derived.Deep.MidRow
namespace Go.Proofs.YtnlbafjmbamoeaaGreat
open Go.RowKit Lib
open Ieee (double)
structure Sol where
 at_:Int
 k:Nat
 q:Nat
 M:Nat
 z:Nat→Nat→Nat
 good:Int
 fails:Int
 slow:Int
def tk (k:Nat):Int:=((2 ^ k:Nat):Int)
structure Stp where
 at_:Int
 st:Int
 q:Int
 M:Int
 rows:Nat
 z:Nat→Nat→Nat
structure Tr where
 S:Sol
 N:Stp
 took:Bool
 err:Nat
 e:Int
def vZ:Stp:=⟨0,0,0,0,0,fun _ _=>0⟩
def qF (q:Nat):Nat:=floatOfInt .f64 ((q:Int)+1)
def uP (q:Nat):Nat:=yR 4607182418800017408 (-((q:Int)+3))
def mi (z:Nat→Nat→Nat) (l d:Nat→Nat) (q r i:Nat):Nat:=if r=q+1 then cop .quo (cop .mul (l q) (d i)) (qF q) else z r i
def wH (err q k:Nat) (en:Int):Bool:=leB err (uP q)&&decide (tk k≤en)
def xm (err q M:Nat):Bool:=leB err 4598175219545276416&&decide (q+M<5)
def r9 (en:Int) (s:Sol) (z:Nat→Nat→Nat) (l d:Nat→Nat) (err:Nat):Sol:=
 if s.good+1≤s.q+1 then ⟨s.at_+tk s.k,s.k,s.q,s.M,z,s.good+1,0,s.slow⟩
 else if wH err s.q s.k en=true then ⟨s.at_+tk s.k,s.k+1,s.q,s.M,xZ z 1,0,0,s.slow⟩
 else if xm err s.q s.M=true then ⟨s.at_+tk s.k,s.k,s.q+1,s.M,mi z l d s.q,0,0,s.slow⟩
 else ⟨s.at_+tk s.k,s.k,s.q,s.M,z,s.good+1,0,s.slow⟩
def tI (en:Int) (s:Sol) (z:Nat→Nat→Nat) (l d:Nat→Nat) (err:Nat):Tr:=
 ⟨r9 en s z l d err,⟨s.at_+tk s.k,tk s.k,s.q,s.M,s.q+1,z⟩,true,err,0⟩
def xU (s:Sol) (e:Int):Int:=s.slow+(if e=6∧s.M=0 then 1 else 0)
def qa (T:TD) (s:Sol) (e:Int):Sol:=
 if 2≤xU s e then ⟨s.at_,s.k-1,1,1,xq T (xZ s.z (-1) 0) (xh (tk (s.k-1))),0,0,0⟩
 else if 3≤s.fails+1 then ⟨s.at_,s.k-1,1,s.M,xq T (xZ s.z (-1) 0) (xh (tk (s.k-1))),0,0,xU s e⟩
 else ⟨s.at_,s.k-1,s.q,s.M,xZ s.z (-1),0,s.fails+1,xU s e⟩
def uw (e:Int):Int:=if e=4∨e=2 then e else 5
def xO (T:TD) (lo:Int) (s:Sol) (e:Int) (err:Nat):Tr:=
 if tk s.k≤lo then ⟨s,vZ,false,err,uw e⟩ else ⟨qa T s e,vZ,false,err,0⟩
noncomputable def pP (T:TD) (n a r:Nat) (s:Sol):rA:=y9 T (wG s.z s.q) (wtF (s.z 0) a r) (coF s.M s.q 0) (xh (tk s.k)) n (s.M==1)
noncomputable def errF (T:TD) (n a r:Nat) (s:Sol):Nat:=cop .quo (xk (byW (pP T n a r s).d (wtF (s.z 0) a r)) n) (qF s.q)
noncomputable def uG (T:TD) (n a r:Nat) (lo en:Int) (s:Sol):Tr:=
 if (pP T n a r s).has=false then xO T lo s (pP T n a r s).e 0
 else if leB (errF T n a r s) 4607182418800017408=true then tI en s (wb (wG s.z s.q) (coF s.M s.q) (pP T n a r s).d) (coF s.M s.q) (pP T n a r s).d (errF T n a r s)
 else xO T lo s 0 (errF T n a r s)
theorem uZ (k:Nat):1≤tk k:=by unfold tk; have:=Nat.one_le_two_pow (n:=k); omega
theorem pQ {k:Nat} (h:k<43):tk k≤4398046511104:=by
 unfold tk;have:2 ^ k≤2 ^ 42:=Nat.pow_le_pow_right (by decide) (by omega);have e:(2:Nat) ^ 42=4398046511104:=by decide
 omega
theorem tk_lt {k j:Nat} (h:tk k<tk j):k<j:=by
 unfold tk at h;rcases Nat.lt_or_ge k j with g | g
 ·exact g
 ·have:2 ^ j≤2 ^ k:=Nat.pow_le_pow_right (by decide) g;omega
theorem tJ (k:Nat):tk (k+1)=2*tk k:=by unfold tk; rw [Nat.pow_succ]; omega
theorem tk_half {k:Nat} (h:1≤k):tk k=2*tk (k-1):=by
 have:=tJ (k-1);rw [show k-1+1=k by omega] at this;exact this
theorem lf {k:Nat} (h:1<tk k):1≤k:=by
 rcases Nat.eq_zero_or_pos k with rfl | g
 ·have e:tk 0=1:=rfl;omega
 ·exact g
def yk (w:World) (base:Nat) (v:Value) (m n:Nat) (f:Nat→Nat→Nat):Prop:=
 ∃ G cap rs,v=.slice (some ⟨G,0,none⟩) m cap∧w.ownsRow base 30 1 (.slice (some ⟨G,0,none⟩) m cap) m rs ∧
  ∀ i,i<m→∃ A off c,rs[i]? = some (.slice (some ⟨A,off,none⟩) n c)∧base≤A∧(∃ arr,w.heap[A]? = some (.cells arr 31 (0,0)))∧∀ j,j<n→wq w A (off+j) (f i j)
theorem yk.tab {w:World} {base:Nat} {v:Value} {m n:Nat} {f:Nat→Nat→Nat} (h:yk w base v m n f) (hm:m≤1000) (hn:n≤1000):yB w v m (fun _=>n) f:=by
 obtain ⟨G,cap,rs,rfl,h1,h3⟩:=h;have hl:=h1.1;refine ⟨_,cap,rfl,by omega,fun _=>⟨G,0,rfl,(h1.lt G rfl).2,fun i hi=>?_⟩⟩;obtain ⟨A,off,c,a1,a2,⟨ar2,a3⟩,a4⟩:=h3 i hi;exact ⟨_,by rw [Nat.zero_add]; exact (h1.cellAt i (by omega)).trans a1,_,c,rfl,by show n≤9223372036854775807; omega,fun _=>⟨A,off,rfl,zj a3,a4⟩⟩
theorem yk.step {w w':World} {base:Nat} {v:Value} {m n:Nat} {f:Nat→Nat→Nat} (h:yk w base v m n f) (hb:∀ (k:Nat) (arr:Array Value),(w.heap[k]? = some (.cells arr 30 (0,0))∨w.heap[k]? = some (.cells arr 31 (0,0)))→w'.heap[k]? = w.heap[k]?):yk w' base v m n f:=by
 obtain ⟨G,cap,rs,rfl,h1,h3⟩:=h;obtain ⟨arr,hG⟩:=xN h1;refine ⟨G,cap,rs,rfl,yQ h1 (hb G arr (.inl hG)),fun i hi=>?_⟩;obtain ⟨A,off,c,a1,a2,⟨ar2,a3⟩,a4⟩:=h3 i hi;have hA:=hb A ar2 (.inr a3);exact ⟨A,off,c,a1,a2,⟨ar2,hA.trans a3⟩,fun j hj=>(a4 j hj).same (World.cell?_of_block (a:=⟨A,off+j,none⟩) hA)⟩
theorem yk.below {w w':World} {base:Nat} {v:Value} {m n:Nat} {f:Nat→Nat→Nat} (h:yk w base v m n f) (hb:Below w.heap.size w w'):yk w' base v m n f:=
 h.step fun k _ hk=>hb.block k (by rcases hk with e | e<;>exact zj e)
theorem yk.base {w:World} {base b':Nat} {v:Value} {m n:Nat} {f:Nat→Nat→Nat} (h:yk w base v m n f) (hb:b'≤base):yk w b' v m n f:=by
 obtain ⟨G,cap,rs,rfl,h1,h3⟩:=h;refine ⟨G,cap,rs,rfl,ui h1 hb,fun i hi=>?_⟩;obtain ⟨A,off,c,a1,a2,a3⟩:=h3 i hi;exact ⟨A,off,c,a1,by omega,a3⟩
theorem yk.congr {w:World} {base:Nat} {v:Value} {m n:Nat} {f g:Nat→Nat→Nat} (h:yk w base v m n f) (e:∀ i j,i<m→j<n→f i j=g i j):yk w base v m n g:=by
 obtain ⟨G,cap,rs,rfl,h1,h3⟩:=h;refine ⟨G,cap,rs,rfl,h1,fun i hi=>?_⟩;obtain ⟨A,off,c,a1,a2,a3,a4⟩:=h3 i hi;exact ⟨A,off,c,a1,a2,a3,fun j hj=>by rw [← e i j hi hj]; exact a4 j hj⟩
theorem yk.kept {X W:World} {q base:Nat} {v:Value} {m n:Nat} {f:Nat→Nat→Nat} (h:yk X base v m n f) (hk:zM X q W) (hq:∀ arr,X.heap[q]?≠some (.cells arr 30 (0,0))∧X.heap[q]?≠some (.cells arr 31 (0,0))):yk W base v m n f:=
 h.step fun k arr hh=>hk.block k (by rcases hh with e | e<;>exact zj e) (fun e=>by
  subst e;rcases hh with e | e
  ·exact (hq arr).1 e
  ·exact (hq arr).2 e)
theorem yL.own {w:World} {base G A n m:Nat} {f:Nat→Nat→Nat} (h:yL w base G A n m f):yk w base (.slice (some ⟨G,0,none⟩) n n) n m f:=by
 have hl:=h.lt;obtain ⟨rs,h1,h2⟩:=h.hd;obtain ⟨ra,hO⟩:=id h.all;exact ⟨G,n,rs,rfl,h1,fun i hi=>⟨A,i*m,m,h2 i hi,hl.2.1,xN hO.1,fun j hj=>h.cell hi hj⟩⟩
theorem Grd.own {w:World} {base G n m c:Nat} {blk cap:Nat→Nat} {f:Nat→Nat→Nat} (h:Grd w base G n m blk cap f) (hc:cap n=c):yk w base (.slice (some ⟨G,0,none⟩) n c) n m f:=by
 obtain ⟨rs,h1⟩:=h.hd;rw [hc] at h1;have hl:=h1.1
 exact ⟨G,c,rs,rfl,h1,fun i hi=>by
  obtain ⟨ra,hO,-⟩:=h.row i hi;exact ⟨blk i,0,cap i,(h1.cellAt i (by omega)).symm.trans (h.ref i hi),(h.row i hi).lt.1,xN hO,fun j hj=>by rw [Nat.zero_add]; exact (h.row i hi).cell hj⟩⟩
theorem yk.put {X W:World} {q base:Nat} {v:Value} {m n:Nat} {f:Nat→Nat→Nat} {cs:Array Value} {t:TypeId} (h:yk X base v m n f) (hz:X.heap[q]? = some (.cells cs t)) (hk:zM X q W) (h1:(t==30)=false) (h2:(t==31)=false):yk W base v m n f:=
 h.kept hk fun arr=>⟨fun e=>by rw [hz] at e; cases e; simp at h1,fun e=>by rw [hz] at e; cases e; simp at h2⟩
theorem yk.app {w w':World} {base G R m n cap c:Nat} {v':Value} {f:Nat→Nat→Nat} {g:Nat→Nat} {rs:List Value} (h:yk w base (.slice (some ⟨G,0,none⟩) m cap) m n f) (hrs:w.ownsRow base 30 1 (.slice (some ⟨G,0,none⟩) m cap) m rs) (ho:w'.ownsRow base 30 1 v' (m+1) (rs ++ [.slice (some ⟨R,0,none⟩) n c]))
  (hb:∀ (k:Nat) (arr:Array Value),w.heap[k]? = some (.cells arr 31 (0,0))→w'.heap[k]? = w.heap[k]?) (hR:yd w base R n c g):yk w' base v' (m+1) n (fun r i=>if r=m then g i else f r i):=by
 obtain ⟨G',cap',rs',hv,h1,h3⟩:=h;simp only [Value.slice.injEq,Option.some.injEq,Addr.mk.injEq] at hv;obtain ⟨⟨rfl,-⟩,-,rfl⟩:=hv;have hl:=hrs.1;have hl':=h1.1;rcases id ho.2 with ⟨-,e⟩ | ⟨g',c',cur,rfl,-⟩
 ·omega
 refine ⟨g',c',_,rfl,ho,fun i hi=>?_⟩;by_cases e:i=m
 ·subst e;obtain ⟨ra,hO⟩:=id hR;obtain ⟨ar,hA⟩:=xN hO.1;refine ⟨R,0,c,by rw [List.getElem?_append_right (by omega),hl]; simp,hR.lt.1,⟨ar,(hb R ar hA).trans hA⟩,fun j hj=>?_⟩;dsimp only;rw [if_pos rfl,Nat.zero_add];exact (hR.cell hj).same (World.cell?_of_block (a:=⟨R,j,none⟩) (hb R ar hA))
 ·obtain ⟨A,off,c2,a1,a2,⟨ar2,a3⟩,a4⟩:=h3 i (by omega);refine ⟨A,off,c2,?_,a2,⟨ar2,(hb A ar2 a3).trans a3⟩,fun j hj=>?_⟩
  ·rw [List.getElem?_append_left (by omega),← a1];exact (hrs.cellAt i (by omega)).symm.trans (h1.cellAt i (by omega))
  ·dsimp only;rw [if_neg e];exact (a4 j hj).same (World.cell?_of_block (a:=⟨A,off+j,none⟩) (hb A ar2 a3))
theorem yk.shape {w:World} {base:Nat} {v:Value} {m n:Nat} {f:Nat→Nat→Nat} (h:yk w base v m n f):∃ a cap,v=.slice a m cap:=by
 obtain ⟨G,cap,rs,rfl,-⟩:=h;exact ⟨_,cap,rfl⟩
theorem yB.shape {w:World} {v:Value} {m n:Nat} {f:Nat→Nat→Nat} (h:yB w v m (fun _=>n) f):∃ a cap,v=.slice a m cap:=by
 obtain ⟨a,cap,rfl,-⟩:=h;exact ⟨a,cap,rfl⟩
end Go.Proofs.YtnlbafjmbamoeaaGreat
namespace Go.Proofs.YtnlbafjmbamoeaaGreat
open Go.RowKit Lib
open Ieee (double)
attribute [local go_sem] zr zi zy zn zU zS zW zX zV zY zD zH zI zJ zK zB ye z8 zF yE zN zQ zR
theorem tT (n:Nat) (T:TD) (vo vu vz:Value) (q k:Nat) (at_ M:Int) (z:Nat→Nat→Nat) (hq:q≤5) (hk:k<43) (w:World) (hT:yG w (.agg #[.int .i64 n,vo,vu]) T) (hz:yB w vz (q+1) (fun _=>n) z)
  (hck:yq T=true) :
  Calls Tryz.prog 36 #[.agg #[.int .i64 n,vo,vu],.agg #[.int .i64 at_,.int .i64 (tk k),.int .i64 q,.int .i64 M,vz]] w (xf (.bool true) w):=by
 have CK:=hid (fun (W:World) (hb:Below w.heap.size w W)=>(wu T _ W (hT.below hb)).mono fun _ _ h=>h.eq (by rw [hck]));have EV:=hid (fun (W:World) (hb:Below w.heap.size w W)=>uX vz (q+1) n z W (hz.below hb));have IS:=hid (fun W=>wI k hk W);obtain ⟨a,c,rfl⟩:=hz.shape;unfold tk;generalize ((2 ^ k:Nat):Int)=t at *;have AL:=al2 w (.cells #[.int .i64 n,vo,vu] 28) (.cells #[.int .i64 at_,.int .i64 t,.int .i64 q,.int .i64 M,.slice a (q+1) c] 37);have hw:IntKind.i64.wrap ((q:Int)+1)=(q:Int)+1:=IntWalk.i64_in _ (by omega);clear hT hz hck;go_enter Tryz.func36,Tryz.ntmps36;go_upto_region 1 with fail
 generalize hB:w.heap.size=B at *;generalize (w.alloc (.cells #[.int .i64 n,vo,vu] 28)).alloc (.cells #[.int .i64 at_,.int .i64 t,.int .i64 q,.int .i64 M,.slice a (q+1) c] 37)=X at *;obtain ⟨x1,x2,x4,x5⟩:=AL;have HX1:=hid x1;have HX2:=hid x2;have p0:=zf x1 0;have p1:=zf x1 1;have p2:=zf x1 2;simp only [List.getElem?_toArray,List.getElem?_cons_zero,List.getElem?_cons_succ] at p0 p1 p2;clear x1 x2;go_wp2_with fail;refine (CK.out X x5).mono ?_;rintro e w1 ⟨rfl,hb1⟩;have hs1:=hb1.size;rw [← hb1.cell (p:=⟨B,0,none⟩) (by show B<X.heap.size; omega)] at p0;have HS:=hid ((hb1.block (B+1) (by omega)).trans HX2.out);obtain ⟨s0,s1,s2,s3,s4⟩:=yl HS.out;have HB1:=hid (x5.trans (hb1.mono (by omega)));clear hb1 s0 s1 s3;go_wp2_with fail;refine (EV.out w1 HB1.out).mono ?_;rintro e w2 ⟨rfl,hb2⟩;have hs2:=hb2.size;have HB2:=hid (HB1.out.trans (hb2.mono (by have:=x5.size; omega)));obtain ⟨s0,s1,s2,s3,s4⟩:=yl ((hb2.block (B+1) (by omega)).trans HS.out);clear hb2 s0 s2 s3 s4;go_wp2_with fail;refine (IS.out w2).mono ?_;rintro e w3 ⟨rfl,hb3⟩;have HB3:=hid (HB2.out.trans (hb3.mono (by have:=HB2.out.size; omega)));clear hb3;go_wp2_with fail;go_ret;exact ⟨rfl,by first | exact HB3.out | (rw [hB]; exact HB3.out)⟩
theorem oV (e:Int) (w:World):Calls Tryz.prog 77 #[.int .i64 e] w (xf (.int .i64 (uw e)) w):=by
 unfold uw;by_cases h4:e=4
 ·subst h4;rw [if_pos (.inl rfl)];have h0:((4:Int)==4)=true:=rfl;go_enter Tryz.func77,Tryz.ntmps77;go_wp2_with fail;go_ret;exact ⟨rfl,Below.refl _ _⟩
 ·have g4:(e==4)=false:=by simpa using h4
  by_cases h2:e=2
  ·subst h2;rw [if_pos (.inr rfl)];have h0:((2:Int)==2)=true:=rfl;go_enter Tryz.func77,Tryz.ntmps77;go_wp2_with fail;go_ret;exact ⟨rfl,Below.refl _ _⟩
  ·have g2:(e==2)=false:=by simpa using h2
   rw [if_neg (by omega)];go_enter Tryz.func77,Tryz.ntmps77;go_wp2_with fail;go_ret;exact ⟨rfl,Below.refl _ _⟩
theorem pR (a b:Int) (M:Nat) (w:World):Calls Tryz.prog 79 #[.agg #[.int .i64 a,.int .i64 b],.int .i64 M] w (xf (.int .i64 (if M=1 then b else a)) w):=by
 have AL:=al1 w (.cells #[.int .i64 a,.int .i64 b] 125);go_enter Tryz.func79,Tryz.ntmps79;go_upto_region 1 with fail
 generalize hB:w.heap.size=B at *;generalize w.alloc (.cells #[.int .i64 a,.int .i64 b] 125)=X at *;obtain ⟨x1,x2,x3⟩:=AL;have p0:=zf x1 0;have p1:=zf x1 1;simp only [List.getElem?_toArray,List.getElem?_cons_zero,List.getElem?_cons_succ] at p0 p1;clear x1;by_cases h:M=1
 ·subst h;have h0:((1:Int)==1)=true:=rfl;go_wp2_with fail;go_ret;exact ⟨rfl,by rw [hB]; exact x3⟩
 ·rw [if_neg h];have h0:((M:Int)==1)=false:=by simp; omega
  go_wp2_with fail;go_ret;exact ⟨rfl,by rw [hB]; exact x3⟩
theorem wq.can {w:World} {b o c:Nat} (h:wq w b o c):zk c=c∧c<18446744073709551616:=by
 obtain ⟨y,-,rfl,h2⟩:=h;exact ⟨oK y,qM h2⟩
theorem yB.can {w:World} {v:Value} {m n:Nat} {f:Nat→Nat→Nat} (h:yB w v m (fun _=>n) f) {k i:Nat} (hk:k<m) (hi:i<n):zk (f k i)=f k i∧f k i<18446744073709551616:=by
 obtain ⟨b,o,c,rfl,hb,hr⟩:=h.rowAt (by omega);obtain ⟨pz,cz,-,hz⟩:=hr k hk;obtain ⟨b2,o2,c2,-,-,hc2⟩:=hz.numAt (by omega);exact (hc2 i hi).can
theorem tU {w:World} {v:Value} {m n:Nat} {f:Nat→Nat→Nat} (h:yB w v m (fun _=>n) f) {k i:Nat} (hk:k<m) (hi:i<n):xZ f 0 k i=f k i:=by
 unfold xZ;rw [Int.mul_zero];exact mU (h.can hk hi).1 (h.can hk hi).2
def l8 (at_ st q M:Int) (m n:Nat) (z:Nat→Nat→Nat) (w:World) (e:Ending) (w':World):Prop:=∃ v,e=.returned (.agg #[.int .i64 at_,.int .i64 st,.int .i64 q,.int .i64 M,v])∧yk w' w.heap.size v m n z∧Below w.heap.size w w'
set_option maxRecDepth 100000
theorem uQ (n q:Nat) (hq:1≤q) (hq5:q≤5) (h1:1≤n) (h4:n≤4) (at_ st o M:Int) (vz:Value) (z:Nat→Nat→Nat) (w:World) (hz:yB w vz (q+1) (fun _=>n) z) :
  Calls Tryz.prog 76 #[.agg #[.int .i64 at_,.int .i64 st,.int .i64 o,.int .i64 M,vz]] w (l8 at_ st o M (q+1) n z w):=by
 have RS:=hid (fun (W:World) (hb:Below w.heap.size w W)=>vj vz (q+1) n 0 ⟨by decide,by decide⟩ (by omega) (by omega) h1 h4 z W (hz.below hb));have HZ:=hid hz;obtain ⟨a,c,rfl⟩:=hz.shape;have AL:=al2 w (.cells #[.int .i64 at_,.int .i64 st,.int .i64 o,.int .i64 M,.slice a (q+1) c] 37) (.cells #[.int .i64 0,.int .i64 0,.int .i64 0,.int .i64 0,.slice none 0 0] 37);clear hz;go_enter Tryz.func76,Tryz.ntmps76;go_upto_region 1 with fail
 generalize hB:w.heap.size=B at *;generalize (w.alloc (.cells #[.int .i64 at_,.int .i64 st,.int .i64 o,.int .i64 M,.slice a (q+1) c] 37)).alloc (.cells #[.int .i64 0,.int .i64 0,.int .i64 0,.int .i64 0,.slice none 0 0] 37)=X at *;obtain ⟨x1,x2,x4,x5⟩:=AL;obtain ⟨p0,p1,p2,p3,p4⟩:=yl x1;have HX1:=hid x1;have HX2:=hid x2;clear x1 x2 p0 p1 p2 p3;go_wp2_with fail;refine (RS.out X x5).mono ?_;rintro e w1 ⟨G,A,rfl,hg,hb1⟩;have hs1:=hb1.size;have z1:=(hb1.block B (by omega)).trans HX1.out;have z2:=(hb1.block (B+1) (by omega)).trans HX2.out;have hO:=(hg.own.base (b':=B) (by omega)).congr (g:=z) (fun i j hi hj=>tU HZ.out hi hj);have k1:=(zM.refl w1 B).set 4 (.slice (some ⟨G,0,none⟩) (q+1) (q+1));have y1:=zp (o:=4) z1 (.slice (some ⟨G,0,none⟩) (q+1) (q+1));have y2:=(k1.block (B+1) (by omega) (by omega)).trans z2;have hO1:=hO.put z1 k1 rfl rfl;have hbB:Below B w (w1.setCell ⟨B,4,none⟩ (.slice (some ⟨G,0,none⟩) (q+1) (q+1))):=k1.below (x5.trans (hb1.mono (by omega))) (by omega) (by omega);obtain ⟨c0,c1,c2,c3,c4⟩:=yl z1;have f4:=zg z1 4;have HY1:=hid y1;have HY2:=hid y2;have HO1:=hid hO1;have HBB:=hid hbB;clear hg hb1 z1 z2 hO k1 y1 y2 hO1 hbB p4;go_upto_region 2 with fail
 generalize w1.setCell ⟨B,4,none⟩ (.slice (some ⟨G,0,none⟩) (q+1) (q+1))=W at *;clear c0 c1 c2 c3 c4 f4;obtain ⟨c0,c1,c2,c3,c4⟩:=yl (show W.heap[B]? = some (.cells #[.int .i64 at_,.int .i64 st,.int .i64 o,.int .i64 M,.slice (some ⟨G,0,none⟩) (q+1) (q+1)] 37) from HY1.out);obtain ⟨q0,q1,q2,q3,q4⟩:=yl HY2.out;have f0:=zg HY2.out 0;have f1:=zg HY2.out 1;have f2:=zg HY2.out 2;have f3:=zg HY2.out 3;have f4:=zg HY2.out 4;have k2:=(((((zM.refl W (B+1)).set 0 (.int .i64 at_)).set 1 (.int .i64 st)).set 2 (.int .i64 o)).set 3 (.int .i64 M)).set 4 (.slice (some ⟨G,0,none⟩) (q+1) (q+1));have HO2:=hid (HO1.out.put HY2.out k2 rfl rfl);have HB2:=hid (k2.below HBB.out (show B≤B+1 by omega) (HBB.out.size |> fun h=>by omega));clear k2;go_wp2_with fail;refine bodyPost_ret (v:=.agg #[.int .i64 at_,.int .i64 st,.int .i64 o,.int .i64 M,.slice (some ⟨G,0,none⟩) (q+1) (q+1)]) (by simp [results,Tryz.results76,go_sem,q0,q1,q2,q3,q4]) rfl ⟨_,rfl,by rw [hB]; exact HO2.out,by rw [hB]; exact HB2.out⟩
theorem oW (w v:World) {l d a b c:Nat} (h1:zk l=a) (h2:zk d=b):zk (zZ .quo w (zZ .mul v l d) c)=cop .quo (cop .mul a b) c:=by
 rw [z9,← zE,sY v h1 h2]
set_option maxHeartbeats 16000000
theorem uR (vl vd:Value) (n q:Nat) (hq:q≤5) (h1:1≤n) (hn2:n≤4) (l d:Nat→Nat) (w:World) (hl:zT w vl (q+1) l) (hd:zT w vd n d) :
  Calls Tryz.prog 85 #[vl,vd,.int .i64 q] w (nP n (fun i=>cop .quo (cop .mul (l q) (d i)) (qF q)) w):=by
 obtain ⟨bl,ol,cl,rfl,hbl0,hlr⟩:=hl.numAt (by omega);obtain ⟨bd,od,cd,rfl,hbd0,hdr⟩:=hd.numAt (by omega);obtain ⟨x,x1,x2,x3⟩:=hlr q (by omega);obtain ⟨iF,hF,f1,f2,f3⟩:=info_parts xu;have HF:=hid (show iF.zero=_∧iF.size=_∧iF.bytes=_ from ⟨f1,f2,f3⟩);have HF0:=hid hF;have HDR:=hid hdr;have HX2:=hid x2;have hw:IntKind.i64.wrap ((q:Int)+1)=(q:Int)+1:=IntWalk.i64_in _ (by omega);have hqi:(q:Int)<(q:Int)+1:=by omega
 clear hl hd hlr hdr hF f1 f2 f3 x2;unfold qF;go_enter Tryz.func85,Tryz.ntmps85;generalize hB:w.heap.size=B at *
 go_wp2_with (first
  | (refine wpList_make_full _ rfl _ _ _ rfl B 31 iF (.float .f64 0) 1 Tryz.underlying30 HF0.out HF.out.1 HF.out.2.1 .i64 .i64 (n:Int) (n:Int) n rfl rfl rfl rfl (by rw [HF.out.2.2]; omega) (by unfold maxLen; omega) (by omega) ?_)
  | fail)
 intro w2 hr1 hg1;have hb2:Below B w w2:=(Below.refl _ w).grown hg1 (by omega) (fun k hk=>by cases hk);have HO:=hid (yI hr1);clear hr1 hg1;go_wp2_with fail
 go_loopw [14] (fun i wr=>∃ (e:Nat) (h:Nat→Nat),e≤n∧i=.int .i64 e∧yd wr B B n n h∧(∀ k,k<e→h k=cop .quo (cop .mul (l q) (d k)) (floatOfInt .f64 ((q:Int)+1)))∧Below B w wr) (fun i _=>n-(intOf i).toNat)
 case atStart=>exact ⟨0,_,by omega,rfl,HO.out,fun k hk=>by omega,hb2⟩
 case round=>
  clear HO hb2;obtain ⟨e,h,he,rfl,ho,hh,hbl⟩:=hrel;by_cases hdn:e<n
  ·obtain ⟨z,z1,z2,z3⟩:=HDR.out e hdn;rw [← hbl.cell (p:=⟨bl,ol+q,none⟩) hbl0] at x1;rw [← hbl.cell (p:=⟨bd,od+e,none⟩) hbd0] at z1;obtain ⟨u,u1,-,-⟩:=ho.cell hdn;have r1:=ho.free e;have K1:=hid (fun w v=>oW w v (c:=floatOfInt .f64 ((q:Int)+1)) HX2.out z2);have HO:=hid ho;have HH:=hid hh;have HBL:=hid hbl;have hd1:(e:Int)<(n:Int):=by omega
   clear z2 ho hh hbl;go_wp2_with fail;refine zw [(0,1),(1,1),(2,1),(3,1),(4,1),(5,2),(6,1),(7,1),(8,1),(9,2),(11,1),(12,1),(13,1),(10,0),(14,0),(15,1),(16,0)] (by kernel_rfl) (by kernel_rfl) (fun _ _ d _ _ h=>by cases d<;>exact h) ?_;intro Z hZ;have hz:∀ b o,Z.cell? ⟨b,o,none⟩=wr.cell? ⟨b,o,none⟩:=fun b o=>by rw [hZ]; rfl
   have hz2:∀ b o,Z.frozen? ⟨b,o,none⟩=wr.frozen? ⟨b,o,none⟩:=fun b o=>by rw [hZ]; rfl
   have HZ:=hid (show yd Z B B n n h∧Below B w Z by rw [hZ]; exact ⟨HO.out.drew,HBL.out.drew⟩);rw [← hz] at x1 z1 u1;rw [← hz2] at r1;clear hZ hz hz2 HO HBL
   iterate 13
    first
     | refine zd (fun K hK=>?_)
     | refine ze (fun K hK=>?_)
    go_simp;refine hK _ ?_;clear hK K
   refine zx (fun K hK=>?_);go_simp;refine hK _ _ (fun _=>⟨_,rfl⟩) ?_;clear hK K;refine zx (fun K hK=>?_);go_simp;refine hK _ _ (fun _=>⟨_,rfl⟩) ?_;clear hK K
   iterate 1
    first
     | refine zd (fun K hK=>?_)
     | refine ze (fun K hK=>?_)
    go_simp;refine hK _ ?_;clear hK K
   refine zx (fun K hK=>?_);go_simp;refine hK _ _ (fun h=>Bool.noConfusion (Eq.trans (Eq.symm (by kernel_rfl:_=false)) h)) ?_;clear hK K;refine zo ?_;have REL:=hid (show yd _ B B n n (yy h e (cop .quo (cop .mul (l q) (d e)) (floatOfInt .f64 ((q:Int)+1))))∧Below B w _ from ⟨(HZ.out.1.set hdn (K1.out (Z.drewN (zP .mul x z)) Z) (yi _ _ _ _)).drewN (zP .mul x z+zP .quo (zZ .mul Z x z) (floatOfInt .f64 ((q:Int)+1))),below_drewN (HZ.out.2.setCell (p:=⟨B,e,none⟩) (Nat.le_refl _) (.float .f64 (zZ .quo (Z.drewN (zP .mul x z)) (zZ .mul Z x z) (floatOfInt .f64 ((q:Int)+1))))) (zP .mul x z+zP .quo (zZ .mul Z x z) (floatOfInt .f64 ((q:Int)+1)))⟩);go_wp2_with fail
   go_roundw
   case rel=>exact ⟨e+1,_,by omega,by go_num,REL.out.1,fun k hk=>by
    by_cases hkd:k=e
    ·subst hkd; rw [zL]
    ·rw [zG _ _ hkd]; exact HH.out k (by omega),REL.out.2⟩
   case measure=>simp [intOf]; omega
  ·obtain rfl:n=e:=by omega
   go_wp2_with fail;go_ret;exact ⟨_,rfl,by rw [hB]; exact ho.congr hh,by rw [hB]; exact hbl⟩
theorem pS (n:Nat) (T:TD) (vo vu vz:Value) (m k:Nat) (at_ o M:Int) (z:Nat→Nat→Nat) (hm:1≤m) (hk:k<43) (w:World) (hT:yG w (.agg #[.int .i64 n,vo,vu]) T) (hz:yB w vz m (fun _=>n) z)
  (hck:yq T=true) (hcs:∀ i,i<T.len→(T.op i).c<18446744073709551616) (hn:T.n=n) (h1:1≤n) (h4:n≤4) :
  Calls Tryz.prog 80 #[.agg #[.int .i64 n,vo,vu],.agg #[.int .i64 at_,.int .i64 (tk k),.int .i64 o,.int .i64 M,vz]] w (l8 at_ (tk k) 1 M 2 n (xq T (z 0) (xh (tk k))) w):=by
 obtain ⟨bz,oz,cz,rfl,hbz,hr⟩:=hz.rowAt (by omega);obtain ⟨pz0,cz0,z0,hz0⟩:=hr 0 (by omega);rw [Nat.add_zero] at z0;have ST:=hid (fun (W:World) (hb:Below w.heap.size w W)=>pG n T vo vu _ (z 0) k hk W (hT.below hb) (hz0.below hb) hck hcs hn h1 h4);unfold tk;obtain ⟨t,ht⟩:∃ t:Int,((2 ^ k:Nat):Int)=t:=⟨_,rfl⟩;simp only [ht] at *;have AL:=al3 w (.cells #[.int .i64 n,vo,vu] 28) (.cells #[.int .i64 at_,.int .i64 t,.int .i64 o,.int .i64 M,.slice (some ⟨bz,oz,none⟩) m cz] 37) (.cells #[.int .i64 0,.int .i64 0,.int .i64 0,.int .i64 0,.slice none 0 0] 37);have hm0:0<m:=by omega
 clear hT hz hr hz0 hck hcs ht hk;go_enter Tryz.func80,Tryz.ntmps80;go_upto_region 1 with fail
 generalize hB:w.heap.size=B at *;generalize ((w.alloc (.cells #[.int .i64 n,vo,vu] 28)).alloc (.cells #[.int .i64 at_,.int .i64 t,.int .i64 o,.int .i64 M,.slice (some ⟨bz,oz,none⟩) m cz] 37)).alloc (.cells #[.int .i64 0,.int .i64 0,.int .i64 0,.int .i64 0,.slice none 0 0] 37)=X at *;obtain ⟨x1,x2,x3,x4,x5⟩:=AL;have p0:=zf x1 0;have p1:=zf x1 1;have p2:=zf x1 2;simp only [List.getElem?_toArray,List.getElem?_cons_zero,List.getElem?_cons_succ] at p0 p1 p2;obtain ⟨s0,s1,s2,s3,s4⟩:=yl x2;rw [← x5.cell (p:=⟨bz,oz,none⟩) hbz] at z0;have HX2:=hid x2;have HX3:=hid x3;have HLT:=hid (show B<X.heap.size∧B+1<X.heap.size∧bz<X.heap.size from ⟨by omega,by omega,by omega⟩);have HBX:=hid x5;clear x1 x2 x3 s0 s2 s3
 go_cut [5] (fun a wx=>∃ (P2 G:Nat),a=.pointer (some ⟨P2,0,none⟩)∧wx.heap[P2]? = some (.cells #[.int .i64 0,.int .i64 t,.int .i64 1,.int .i64 0,.slice (some ⟨G,0,none⟩) 2 2] 37)∧yk wx X.heap.size (.slice (some ⟨G,0,none⟩) 2 2) 2 n (xq T (z 0) (xh t))∧X.heap.size≤P2∧Below X.heap.size X wx)
 case first=>
  refine yM (.op 0 3 (.op 1 1 (.op 2 3 (.op 3 1 (.op 4 3 (.op 5 1 (.op 6 3 (.alt 7 (.alt 8 (.alt 9 .nil .stop) .stop) (.alt 8 (.alt 7 (.alt 9 .nil .stop) .stop) .stop))))))))) [7,8,9] [0,2,4,6] (fun W=>Below X.heap.size X W) (by kernel_rfl) (by kernel_rfl) (fun _ _ d _ _ h=>by cases d<;>exact h) ((Below.refl _ _).drew) ?_;intro Z hZ hbZ;clear hZ;refine yg (v:=.agg #[.int .i64 n,vo,vu]) rfl rfl (fun wk hwk=>?_) ?_
  ·rw [← (zA hwk).1 _ _ HLT.out.1] at p0 p1 p2;go_simp
  refine zu (fun K hK=>?_);go_simp;refine hK _ ?_;clear hK K;refine yg (v:=.slice (some ⟨bz,oz,none⟩) m cz) rfl rfl (fun wk hwk=>?_) ?_
  ·rw [← (zA hwk).1 _ _ HLT.out.2.1] at s4;go_simp
  refine zu (fun K hK=>?_);go_simp;refine hK _ ?_;clear hK K;refine yg (v:=.slice pz0 n cz0) rfl rfl (fun wk hwk=>?_) ?_
  ·rw [← (zA hwk).1 _ _ HLT.out.2.2] at z0;go_simp
  refine zu (fun K hK=>?_);go_simp;refine hK _ ?_;clear hK K;refine yg (v:=.int .i64 t) rfl rfl (fun wk hwk=>?_) ?_
  ·rw [← (zA hwk).1 _ _ HLT.out.2.1] at s1;go_simp
  have HBZ0:=hid hbZ;clear hbZ;refine zq (fun K hK=>?_) ?_
  ·go_simp;refine (ST.out Z (HBX.out.trans (HBZ0.out.mono (show B≤X.heap.size by have:=HLT.out.1; omega)))).mono ?_;rintro e V1 ⟨G,A,rfl,hg,hst⟩;have hbx:=HBZ0.out.trans (hst.mono HBZ0.out.size);have HF3:=hid (hg.own.base (b':=X.heap.size) HBZ0.out.size);refine hK _ _ (fun _=>hbx) ?_;clear hK K;have HB2:=hid hbx;clear hbx hst hg;refine zq (fun K hK=>?_) ?_
   ·go_simp;obtain ⟨y1,y2,hst⟩:=al1 V1 (.cells #[.int .i64 0,.int .i64 0,.int .i64 0,.int .i64 0,.slice none 0 0] 37);have hbx:=HB2.out.trans (hst.mono HB2.out.size);have HF9:=hid (HF3.out.below hst);have HL8:=hid (show X.heap.size≤V1.heap.size from HB2.out.size);refine hK _ _ (fun _=>hbx) ?_;clear hK K;have HB6:=hid hbx;have HF7:=hid y1;clear y1 y2 hst hbx;generalize V1.alloc (.cells #[.int .i64 0,.int .i64 0,.int .i64 0,.int .i64 0,.slice none 0 0] 37)=V4 at *;generalize V1.heap.size=k5 at *;refine zq (fun K hK=>?_) ?_
    ·have c0:=zf HF7.out 0;have f0:=zg HF7.out 0;have c1:=zf HF7.out 1;have f1:=zg HF7.out 1;have c2:=zf HF7.out 2;have f2:=zg HF7.out 2;have c3:=zf HF7.out 3;have f3:=zg HF7.out 3;have c4:=zf HF7.out 4;have f4:=zg HF7.out 4;simp only [List.getElem?_toArray,List.getElem?_cons_zero,List.getElem?_cons_succ] at c0 c1 c2 c3 c4;go_simp;have HB11:=hid (show Below X.heap.size X (((((V4.setCell ⟨k5,0,none⟩ (.int .i64 0)).setCell ⟨k5,1,none⟩ (.int .i64 t)).setCell ⟨k5,2,none⟩ (.int .i64 1)).setCell ⟨k5,3,none⟩ (.int .i64 0)).setCell ⟨k5,4,none⟩ (.slice (some ⟨G,0,none⟩) 2 2)) from (((((HB6.out.setCell (p:=⟨k5,0,none⟩) HL8.out _).setCell (p:=⟨k5,1,none⟩) HL8.out _).setCell (p:=⟨k5,2,none⟩) HL8.out _).setCell (p:=⟨k5,3,none⟩) HL8.out _).setCell (p:=⟨k5,4,none⟩) HL8.out _));have HF12:=hid (show (((((V4.setCell ⟨k5,0,none⟩ (.int .i64 0)).setCell ⟨k5,1,none⟩ (.int .i64 t)).setCell ⟨k5,2,none⟩ (.int .i64 1)).setCell ⟨k5,3,none⟩ (.int .i64 0)).setCell ⟨k5,4,none⟩ (.slice (some ⟨G,0,none⟩) 2 2)).heap[k5]? = some (.cells #[.int .i64 0,.int .i64 t,.int .i64 1,.int .i64 0,.slice (some ⟨G,0,none⟩) 2 2] 37) from (zp (zp (zp (zp (zp HF7.out _) _) _) _) _));have HF13:=hid (HF9.out.put (W:=(((((V4.setCell ⟨k5,0,none⟩ (.int .i64 0)).setCell ⟨k5,1,none⟩ (.int .i64 t)).setCell ⟨k5,2,none⟩ (.int .i64 1)).setCell ⟨k5,3,none⟩ (.int .i64 0)).setCell ⟨k5,4,none⟩ (.slice (some ⟨G,0,none⟩) 2 2))) HF7.out ((((((zM.refl V4 k5).set 0 _).set 1 _).set 2 _).set 3 _).set 4 _) rfl rfl);refine hK _ _ (fun _=>HB11.out) ?_;clear hK K c0 f0 c1 f1 c2 f2 c3 f3 c4 f4;generalize (((((V4.setCell ⟨k5,0,none⟩ (.int .i64 0)).setCell ⟨k5,1,none⟩ (.int .i64 t)).setCell ⟨k5,2,none⟩ (.int .i64 1)).setCell ⟨k5,3,none⟩ (.int .i64 0)).setCell ⟨k5,4,none⟩ (.slice (some ⟨G,0,none⟩) 2 2))=V10 at *;refine yt ?_;go_wp2_with fail;go_meet;exact ⟨k5,G,rfl,HF12.out,HF13.out,HL8.out,HB11.out⟩
    exact zt
   exact zt
  refine zq (fun K hK=>?_) ?_
  ·go_simp;obtain ⟨y1,y2,hst⟩:=al1 Z (.cells #[.int .i64 0,.int .i64 0,.int .i64 0,.int .i64 0,.slice none 0 0] 37);have hbx:=HBZ0.out.trans (hst.mono HBZ0.out.size);have HL18:=hid (show X.heap.size≤Z.heap.size from HBZ0.out.size);refine hK _ _ (fun _=>hbx) ?_;clear hK K;have HB16:=hid hbx;have HF17:=hid y1;clear y1 y2 hst hbx;generalize Z.alloc (.cells #[.int .i64 0,.int .i64 0,.int .i64 0,.int .i64 0,.slice none 0 0] 37)=V14 at *;generalize Z.heap.size=k15 at *;refine zq (fun K hK=>?_) ?_
   ·go_simp;refine (ST.out V14 (HBX.out.trans (HB16.out.mono (show B≤X.heap.size by have:=HLT.out.1; omega)))).mono ?_;rintro e V19 ⟨G,A,rfl,hg,hst⟩;have hbx:=HB16.out.trans (hst.mono HB16.out.size);have HF21:=hid ((hst.block k15 (zj HF17.out)).trans HF17.out);have HF22:=hid (hg.own.base (b':=X.heap.size) HB16.out.size);refine hK _ _ (fun _=>hbx) ?_;clear hK K;have HB20:=hid hbx;clear hbx hst hg;refine zq (fun K hK=>?_) ?_
    ·have c0:=zf HF21.out 0;have f0:=zg HF21.out 0;have c1:=zf HF21.out 1;have f1:=zg HF21.out 1;have c2:=zf HF21.out 2;have f2:=zg HF21.out 2;have c3:=zf HF21.out 3;have f3:=zg HF21.out 3;have c4:=zf HF21.out 4;have f4:=zg HF21.out 4;simp only [List.getElem?_toArray,List.getElem?_cons_zero,List.getElem?_cons_succ] at c0 c1 c2 c3 c4;go_simp;have HB24:=hid (show Below X.heap.size X (((((V19.setCell ⟨k15,0,none⟩ (.int .i64 0)).setCell ⟨k15,1,none⟩ (.int .i64 t)).setCell ⟨k15,2,none⟩ (.int .i64 1)).setCell ⟨k15,3,none⟩ (.int .i64 0)).setCell ⟨k15,4,none⟩ (.slice (some ⟨G,0,none⟩) 2 2)) from (((((HB20.out.setCell (p:=⟨k15,0,none⟩) HL18.out _).setCell (p:=⟨k15,1,none⟩) HL18.out _).setCell (p:=⟨k15,2,none⟩) HL18.out _).setCell (p:=⟨k15,3,none⟩) HL18.out _).setCell (p:=⟨k15,4,none⟩) HL18.out _));have HF25:=hid (show (((((V19.setCell ⟨k15,0,none⟩ (.int .i64 0)).setCell ⟨k15,1,none⟩ (.int .i64 t)).setCell ⟨k15,2,none⟩ (.int .i64 1)).setCell ⟨k15,3,none⟩ (.int .i64 0)).setCell ⟨k15,4,none⟩ (.slice (some ⟨G,0,none⟩) 2 2)).heap[k15]? = some (.cells #[.int .i64 0,.int .i64 t,.int .i64 1,.int .i64 0,.slice (some ⟨G,0,none⟩) 2 2] 37) from (zp (zp (zp (zp (zp HF21.out _) _) _) _) _));have HF26:=hid (HF22.out.put (W:=(((((V19.setCell ⟨k15,0,none⟩ (.int .i64 0)).setCell ⟨k15,1,none⟩ (.int .i64 t)).setCell ⟨k15,2,none⟩ (.int .i64 1)).setCell ⟨k15,3,none⟩ (.int .i64 0)).setCell ⟨k15,4,none⟩ (.slice (some ⟨G,0,none⟩) 2 2))) HF21.out ((((((zM.refl V19 k15).set 0 _).set 1 _).set 2 _).set 3 _).set 4 _) rfl rfl);refine hK _ _ (fun _=>HB24.out) ?_;clear hK K c0 f0 c1 f1 c2 f2 c3 f3 c4 f4;generalize (((((V19.setCell ⟨k15,0,none⟩ (.int .i64 0)).setCell ⟨k15,1,none⟩ (.int .i64 t)).setCell ⟨k15,2,none⟩ (.int .i64 1)).setCell ⟨k15,3,none⟩ (.int .i64 0)).setCell ⟨k15,4,none⟩ (.slice (some ⟨G,0,none⟩) 2 2))=V23 at *;refine yt ?_;go_wp2_with fail;go_meet;exact ⟨k15,G,rfl,HF25.out,HF26.out,HL18.out,HB24.out⟩
    exact zt
   exact zt
  exact zt
 case rest=>
  obtain ⟨P2,G,rfl,hp,ho,hle,hbl⟩:=hcut;have hsw:=hbl.size;have hlt:=HLT.out.2.1;have hP2:=zj hp;obtain ⟨c0,c1,c2,c3,c4⟩:=yl ((hbl.block (B+1) hlt).trans HX2.out);obtain ⟨d0,d1,d2,d3,d4⟩:=yl hp;have f0:=zg hp 0;have f3:=zg hp 3;have HP:=hid hp;have HO:=hid ho;have HBL:=hid hbl;have hB1:B+1<wc.heap.size:=by omega
  clear hp ho hbl p0 p1 p2 s1 s4 z0 c1 c2 c4 d1 d2 d4;go_wp2_with fail;refine zv [(0,1),(1,3),(2,1),(3,3),(4,1),(5,0),(6,1),(7,0)] (fun W=>Below X.heap.size wc W) (by kernel_rfl) (by kernel_rfl) (fun _ _ d _ _ h=>by cases d<;>exact h) ((Below.refl _ _).drew) ?_;intro Z hZ hbZ;have hpz:Z.heap[P2]? = some (.cells #[.int .i64 0,.int .i64 t,.int .i64 1,.int .i64 0,.slice (some ⟨G,0,none⟩) 2 2] 37):=by rw [hZ]; exact HP.out
  have hsZ:Z.heap.size=wc.heap.size:=by rw [hZ]; rfl
  have HOZ:=hid (show yk Z X.heap.size (.slice (some ⟨G,0,none⟩) 2 2) 2 n (xq T (z 0) (xh t)) by rw [hZ]; exact HO.out.below (Below.refl _ _).drew);clear hZ d0 d3 f0 f3;obtain ⟨d0,d1,d2,d3,d4⟩:=yl hpz;have f0:=zg hpz 0;have f3:=zg hpz 3;have HPZ:=hid hpz;have k1:=((zM.refl Z P2).set 0 (.int .i64 at_)).set 3 (.int .i64 M);have y1:=zp (o:=3) (zp (o:=0) hpz (.int .i64 at_)) (.int .i64 M);have o1:=HOZ.out.put hpz k1 rfl rfl;have b0:Below X.heap.size wc (Z.setCell ⟨P2,0,none⟩ (.int .i64 at_)):=hbZ.setCell (p:=⟨P2,0,none⟩) hle _;have b1:Below X.heap.size X ((Z.setCell ⟨P2,0,none⟩ (.int .i64 at_)).setCell ⟨P2,3,none⟩ (.int .i64 M)):=HBL.out.trans (b0.setCell (p:=⟨P2,3,none⟩) hle _);have y2:=((b1.block (B+2) (by omega)).trans HX3.out)
  have HY1:=hid y1;have HY2:=hid y2;have HO1:=hid o1;have HB1:=hid b1;clear k1 y1 o1 b1 y2 hpz d1 d2 d4
  iterate 1
   first
    | refine zd (fun K hK=>?_)
    | refine ze (fun K hK=>?_)
   go_simp;refine hK _ ?_;clear hK K
  refine zh (v:=.int .i64 at_) rfl rfl (fun wk hwk=>?_) ?_
  ·rw [← hwk.cell (p:=⟨B+1,0,none⟩) hlt] at c0;go_simp
  iterate 1
   first
    | refine zd (fun K hK=>?_)
    | refine ze (fun K hK=>?_)
   go_simp;refine hK _ ?_;clear hK K
  refine zh (v:=.int .i64 M) rfl rfl (fun wk hwk=>?_) ?_
  ·rw [← hwk.cell (p:=⟨B+1,3,none⟩) hlt] at c3;go_simp
  iterate 1
   first
    | refine zd (fun K hK=>?_)
    | refine ze (fun K hK=>?_)
   go_simp;refine hK _ ?_;clear hK K
  refine zm (fun K hK=>?_);go_simp;refine hK _ _ (fun h=>Bool.noConfusion (Eq.trans (Eq.symm (by kernel_rfl:_=false)) h)) (fun _=>b0) ?_;clear hK K
  iterate 1
   first
    | refine zd (fun K hK=>?_)
    | refine ze (fun K hK=>?_)
   go_simp;refine hK _ ?_;clear hK K
  refine zm (fun K hK=>?_);go_simp;refine hK _ _ (fun h=>Bool.noConfusion (Eq.trans (Eq.symm (by kernel_rfl:_=false)) h)) (fun h=>Bool.noConfusion (Eq.trans (Eq.symm (by kernel_rfl:_=false)) h)) ?_;clear hK K;refine zo ?_;clear HPZ HOZ b0 hbZ d0 d3 f0 f3 c0 c3 HP HO;generalize (Z.setCell ⟨P2,0,none⟩ (.int .i64 at_)).setCell ⟨P2,3,none⟩ (.int .i64 M)=W at *;have y1:W.heap[P2]? = some (.cells #[.int .i64 at_,.int .i64 t,.int .i64 1,.int .i64 M,.slice (some ⟨G,0,none⟩) 2 2] 37):=HY1.out;obtain ⟨c0,c1,c2,c3,c4⟩:=yl y1;obtain ⟨q0,q1,q2,q3,q4⟩:=yl HY2.out;have f0:=zg HY2.out 0;have f1:=zg HY2.out 1;have f2:=zg HY2.out 2;have f3:=zg HY2.out 3;have f4:=zg HY2.out 4;have k2:=(((((zM.refl W (B+2)).set 0 (.int .i64 at_)).set 1 (.int .i64 t)).set 2 (.int .i64 1)).set 3 (.int .i64 M)).set 4 (.slice (some ⟨G,0,none⟩) 2 2);have hsW:=HB1.out.size;have HO2:=hid ((HO1.out.put HY2.out k2 rfl rfl).base (b':=B) (by omega));have HB2:=hid (k2.below (HBX.out.trans (HB1.out.mono (show B≤X.heap.size by omega))) (show B≤B+2 by omega) (by omega));clear k2 y1;go_wp2_with fail;refine bodyPost_ret (v:=.agg #[.int .i64 at_,.int .i64 t,.int .i64 1,.int .i64 M,.slice (some ⟨G,0,none⟩) 2 2]) (by simp [results,Tryz.results80,go_sem,q0,q1,q2,q3,q4]) rfl ⟨_,rfl,by rw [hB]; exact HO2.out,by rw [hB]; exact HB2.out⟩
end Go.Proofs.YtnlbafjmbamoeaaGreat
namespace Go.Proofs.YtnlbafjmbamoeaaGreat
open Go.RowKit Lib
open Ieee (double)
section
variable {P : Program} {a : Act} {w : World} {Q : Exit → Act → World → Prop}
def nD (J0 J1:Act→World→Prop) (Q:Exit→Act→World→Prop):Exit→Act→World→Prop
 | .goto 0,a,w=>J0 a w
 | .goto 1,a,w=>J1 a w
 | .goto _,_,_=>False
 | e,a,w=>Q e a w
theorem qC {c r0 r1:Code} (h0:findLabel c 0=some r0) (h1:findLabel c 1=some r1)
  (first:c.wp P (nD (r0.wp P (nD (fun _ _=>False) (r1.wp P (Exit.noGoto Q)) Q)) (r1.wp P (Exit.noGoto Q)) Q) a w):(Code.scope c).wp P Q a w:=by
 intro b k cs;have g0:gotoIn 0 (.inScope c :: k)=some (.code r0 :: .inScope c :: k):=by simp [gotoIn,h0]
 have g1:gotoIn 1 (.inScope c :: k)=some (.code r1 :: .inScope c :: k):=by simp [gotoIn,h1]
 have k1:∀ a w,r1.wp P (Exit.noGoto Q) a w→∃ e a' w',Q e a' w'∧Arrives P (lone (b.at a (.code r1 :: .inScope c :: k)) cs w) b k cs e a' w':=by
  intro a w h;obtain ⟨e,a₁,w₁,hq,harr⟩:=h b (.inScope c :: k) cs
  cases e with
  | normal=>exact ⟨.normal,a₁,w₁,hq,Steps.trans harr (.one step_inScope)⟩
  | exit id=>exact ⟨.exit id,a₁,w₁,hq,fun k' hk=>harr k' (by simp [exitTo,hk])⟩
  | goto l'=>exact hq.elim
  | ret=>exact ⟨_,a₁,w₁,hq,harr⟩
  | panic ch=>exact ⟨_,a₁,w₁,hq,harr⟩
  | outgrown=>exact ⟨_,a₁,w₁,hq,harr⟩
 have k0:∀ a w,r0.wp P (nD (fun _ _=>False) (r1.wp P (Exit.noGoto Q)) Q) a w→∃ e a' w',Q e a' w'∧Arrives P (lone (b.at a (.code r0 :: .inScope c :: k)) cs w) b k cs e a' w':=by
  intro a w h;obtain ⟨e,a₁,w₁,hq,harr⟩:=h b (.inScope c :: k) cs
  cases e with
  | normal=>exact ⟨.normal,a₁,w₁,hq,Steps.trans harr (.one step_inScope)⟩
  | exit id=>exact ⟨.exit id,a₁,w₁,hq,fun k' hk=>harr k' (by simp [exitTo,hk])⟩
  | goto l'=>
   match l',hq,harr with
   | 0,hq,_=>exact hq.elim
   | 1,hq,harr=>
    obtain ⟨e₂,a₂,w₂,hq₂,harr₂⟩:=k1 a₁ w₁ hq;exact ⟨e₂,a₂,w₂,hq₂,.of_steps (harr _ g1) harr₂⟩
   | _+2,hq,_=>exact hq.elim
  | ret=>exact ⟨_,a₁,w₁,hq,harr⟩
  | panic ch=>exact ⟨_,a₁,w₁,hq,harr⟩
  | outgrown=>exact ⟨_,a₁,w₁,hq,harr⟩
 obtain ⟨e,a₁,w₁,hq,harr⟩:=first b (.inScope c :: k) cs
 cases e with
 | normal=>exact ⟨.normal,a₁,w₁,hq,.head step_scope (Steps.trans harr (.one step_inScope))⟩
 | exit id=>exact ⟨.exit id,a₁,w₁,hq,fun k' hk=>.head step_scope (harr k' (by simp [exitTo,hk]))⟩
 | goto l'=>
  match l',hq,harr with
  | 0,hq,harr=>
   obtain ⟨e₂,a₂,w₂,hq₂,harr₂⟩:=k0 a₁ w₁ hq;exact ⟨e₂,a₂,w₂,hq₂,.of_steps (.head step_scope (harr _ g0)) harr₂⟩
  | 1,hq,harr=>
   obtain ⟨e₂,a₂,w₂,hq₂,harr₂⟩:=k1 a₁ w₁ hq;exact ⟨e₂,a₂,w₂,hq₂,.of_steps (.head step_scope (harr _ g1)) harr₂⟩
  | _+2,hq,_=>exact hq.elim
 | ret=>exact ⟨_,a₁,w₁,hq,.of_steps (.one step_scope) harr⟩
 | panic ch=>exact ⟨_,a₁,w₁,hq,.of_steps (.one step_scope) harr⟩
 | outgrown=>exact ⟨_,a₁,w₁,hq,.of_steps (.one step_scope) harr⟩
theorem rJ {c r0:Code} (h0:findLabel c 0=some r0)
  (first:c.wp P (nD (r0.wp P (Exit.noGoto Q)) (fun _ _=>False) Q) a w):(Code.scope c).wp P Q a w:=by
 intro b k cs;have g0:gotoIn 0 (.inScope c :: k)=some (.code r0 :: .inScope c :: k):=by simp [gotoIn,h0]
 have k0:∀ a w,r0.wp P (Exit.noGoto Q) a w→∃ e a' w',Q e a' w'∧Arrives P (lone (b.at a (.code r0 :: .inScope c :: k)) cs w) b k cs e a' w':=by
  intro a w h;obtain ⟨e,a₁,w₁,hq,harr⟩:=h b (.inScope c :: k) cs
  cases e with
  | normal=>exact ⟨.normal,a₁,w₁,hq,Steps.trans harr (.one step_inScope)⟩
  | exit id=>exact ⟨.exit id,a₁,w₁,hq,fun k' hk=>harr k' (by simp [exitTo,hk])⟩
  | goto l'=>exact hq.elim
  | ret=>exact ⟨_,a₁,w₁,hq,harr⟩
  | panic ch=>exact ⟨_,a₁,w₁,hq,harr⟩
  | outgrown=>exact ⟨_,a₁,w₁,hq,harr⟩
 obtain ⟨e,a₁,w₁,hq,harr⟩:=first b (.inScope c :: k) cs
 cases e with
 | normal=>exact ⟨.normal,a₁,w₁,hq,.head step_scope (Steps.trans harr (.one step_inScope))⟩
 | exit id=>exact ⟨.exit id,a₁,w₁,hq,fun k' hk=>.head step_scope (harr k' (by simp [exitTo,hk]))⟩
 | goto l'=>
  match l',hq,harr with
  | 0,hq,harr=>
   obtain ⟨e₂,a₂,w₂,hq₂,harr₂⟩:=k0 a₁ w₁ hq;exact ⟨e₂,a₂,w₂,hq₂,.of_steps (.head step_scope (harr _ g0)) harr₂⟩
  | 1,hq,_=>exact hq.elim
  | _+2,hq,_=>exact hq.elim
 | ret=>exact ⟨_,a₁,w₁,hq,.of_steps (.one step_scope) harr⟩
 | panic ch=>exact ⟨_,a₁,w₁,hq,.of_steps (.one step_scope) harr⟩
 | outgrown=>exact ⟨_,a₁,w₁,hq,.of_steps (.one step_scope) harr⟩
end
theorem zO {w:World} {k:Nat} {t:TypeId} {u0 u1 u2 u3 u4 u5 u6 u7:Value} (h:w.heap[k]? = some (.cells #[u0,u1,u2,u3,u4,u5,u6,u7] t)):w.cell? ⟨k,0,none⟩=some u0∧w.cell? ⟨k,1,none⟩=some u1∧w.cell? ⟨k,2,none⟩=some u2∧w.cell? ⟨k,3,none⟩=some u3∧w.cell? ⟨k,4,none⟩=some u4∧w.cell? ⟨k,5,none⟩=some u5∧w.cell? ⟨k,6,none⟩=some u6∧w.cell? ⟨k,7,none⟩=some u7:=by
 refine ⟨?_,?_,?_,?_,?_,?_,?_,?_⟩<;>(rw [zf h]; rfl)
theorem yn {w:World} {k:Nat} {t:TypeId} {u0 u1 u2 u3 u4 u5 u6 u7 u8 u9 u10 u11 u12:Value} (h:w.heap[k]? = some (.cells #[u0,u1,u2,u3,u4,u5,u6,u7,u8,u9,u10,u11,u12] t)):w.cell? ⟨k,0,none⟩=some u0∧w.cell? ⟨k,1,none⟩=some u1∧w.cell? ⟨k,2,none⟩=some u2∧w.cell? ⟨k,3,none⟩=some u3∧w.cell? ⟨k,4,none⟩=some u4∧w.cell? ⟨k,5,none⟩=some u5∧w.cell? ⟨k,6,none⟩=some u6∧w.cell? ⟨k,7,none⟩=some u7∧w.cell? ⟨k,8,none⟩=some u8∧w.cell? ⟨k,9,none⟩=some u9∧w.cell? ⟨k,10,none⟩=some u10∧w.cell? ⟨k,11,none⟩=some u11∧w.cell? ⟨k,12,none⟩=some u12:=by
 refine ⟨?_,?_,?_,?_,?_,?_,?_,?_,?_,?_,?_,?_,?_⟩<;>(rw [zf h]; rfl)
theorem yw {w:World} {k:Nat} {t:TypeId} {u0 u1 u2 u3 u4 u5 u6 u7 u8 u9 u10 u11 u12 u13 u14 u15:Value} (h:w.heap[k]? = some (.cells #[u0,u1,u2,u3,u4,u5,u6,u7,u8,u9,u10,u11,u12,u13,u14,u15] t)):(w.cell? ⟨k,0,none⟩=some u0∧w.cell? ⟨k,1,none⟩=some u1∧w.cell? ⟨k,2,none⟩=some u2∧w.cell? ⟨k,3,none⟩=some u3∧w.cell? ⟨k,4,none⟩=some u4∧w.cell? ⟨k,5,none⟩=some u5∧w.cell? ⟨k,6,none⟩=some u6∧w.cell? ⟨k,7,none⟩=some u7)∧w.cell? ⟨k,8,none⟩=some u8∧w.cell? ⟨k,9,none⟩=some u9∧w.cell? ⟨k,10,none⟩=some u10∧w.cell? ⟨k,11,none⟩=some u11∧w.cell? ⟨k,12,none⟩=some u12∧w.cell? ⟨k,13,none⟩=some u13∧w.cell? ⟨k,14,none⟩=some u14∧w.cell? ⟨k,15,none⟩=some u15:=by
 refine ⟨⟨?_,?_,?_,?_,?_,?_,?_,?_⟩,?_,?_,?_,?_,?_,?_,?_,?_⟩<;>(rw [zf h]; rfl)
theorem yx {w:World} {g:Nat} {old:Array Value} {t:TypeId} (hg:w.heap[g]? = some (.cells old t (0,0))) (cells:Array Value):zM w g (w.setRow g cells)∧(w.setRow g cells).heap[g]? = some (.cells cells t (0,0))∧(w.setRow g cells).heap.size=w.heap.size:=
 ⟨⟨⟨rfl,rfl,rfl,by simp,fun k hk=>absurd hk (Nat.not_lt_zero k)⟩,fun k _ hn=>setRow_other w g k cells hn⟩,setRow_heap w g old cells t _ hg,setRow_size w g cells⟩
theorem wz {ops:Array Oper} {o:Oper} {a:Act} {w:World} {K:Act→World→Prop} {Q:Exit→Act→World→Prop} {E:Prop} (hgd:o.guard=none) (ty:TypeId) (x y:Operand) (ho:o.op=.store ty x y)
  (g:Nat) (cells:Array Value) (hx:a.eval x=.pointer (some ⟨g,0,none⟩)) (hy:a.eval y=.agg cells) (t:TypeId) (old:Array Value) (hg:w.heap[g]? = some (.cells old t (0,0))) (hi:(Tryz.prog.info? ty).map (·.size)=some cells.size)
  (hold:old.size=cells.size) (h1:cells.all (·.oneCell')=true) (h:K (a.put o.dst undef) (w.setRow g cells)):if Region.wanted o (yielded ops a.tmps)=true then Oper.wp Tryz.prog o a w K Q else E:=by
 rw [if_pos (by simp [Region.wanted,hgd])];exact wp_store_row ty x y ho g cells hx hy t old hg hi hold h1 h
def aggD:TypeDesc→Bool
 | .struct _=>true
 | .array _ _=>true
 | _=>false
theorem yf {fn:Func} {R:Ending→World→Prop} {a:Act} {w:World} (sl ty:Nat) (hres:fn.results=#[.cell sl ty]) (g:Nat) (t:TypeId) (cs:Array Value) (d:TypeDesc) (ha:a.tmps.getD sl undef=.pointer (some ⟨g,0,none⟩)) (hg:w.heap[g]? = some (.cells cs t (0,0)))
  (hu:Tryz.prog.underlying ty=some d) (hag:aggD d=true) (hi:(Tryz.prog.info? ty).map (·.size)=some cs.size) (hd:a.defers=[]) (hR:R (.returned (.agg cs)) w):bodyPost Tryz.prog fn R .ret a w:=by
 refine bodyPost_ret (v:=.agg cs) ?_ hd hR;have hl:=run_loadVar_row (P:=Tryz.prog) w g t ty cs (0,0) d hg hu (by cases d<;>first | rfl | cases hag) hi;have ha':a.tmps[sl]?.getD undef=.pointer (some ⟨g,0,none⟩):=by rw [← ha,Array.getD_eq_getD_getElem?]
 simp [results,hres,ha',asAddr,hl]
theorem qb {ops:Array Oper} {o:Oper} {a:Act} {w:World} {K:Act→World→Prop} {Q:Exit→Act→World→Prop} {E:Prop} (hg:o.guard=none) (s x:Operand)
  (ho:o.op=.call { callee:=.builtin .append,args:=#[s,x],argTypes:=#[35,35] })
  (B:Nat) (v:Value) (n:Nat) (qs:List Value) (hs:a.eval s=v) (hown:w.ownsRow B 30 1 v n qs) (H:Nat) (u:Value) (hx:a.eval x=.slice (some ⟨H,0,none⟩) 1 1) (hz:w.cell? ⟨H,0,none⟩=some u) (hu:u.oneCell'=true) (hn:n≤1000) (hB:B≤w.heap.size)
  (h:∀ g cap w',w'.ownsRow B 30 1 (.slice (some ⟨g,0,none⟩) (n+1) cap) (n+1) (qs ++ [u])→Below B w w'→(∀ k,k<w.heap.size→v.ownBlock≠some k→w'.heap[k]? = w.heap[k]?)→K (a.put o.dst (.slice (some ⟨g,0,none⟩) (n+1) cap)) w') :
  if Region.wanted o (yielded ops a.tmps)=true then Oper.wp Tryz.prog o a w K Q else E:=by
 obtain ⟨iF,hF,f1,f2,f3⟩:=info_parts oM;refine step_append_lies _ hg s x 35 ho B 30 iF (.slice none 0 0) 1 24 Tryz.underlying35 hF f1 f2 f3 rfl (by decide) v n qs hs hown ⟨H,0,none⟩ 1 1 [u] hx rfl (fun j u' hj=>?_) (by simpa using hu) (by omega) (by unfold maxLen; omega) (by omega) hB _ rfl (fun g cap w' h1 h2 h3 h4=>h g cap w' h1 ((Below.refl B w).grown h2 hB (fun k hk=>(hown.lt k hk).1)) (fun k hk hne=>h2.block k hk (fun e=>hne e.symm)))
 match j,hj with
 | 0,hj=>
  simp only [List.getElem?_cons_zero,Option.some.injEq] at hj;subst hj
  simpa [Addr.add] using hz
def TrB (base n:Nat) (R:Tr) (w:World) (e:Ending) (w':World):Prop:=
 Below w.heap.size w w'∧∃ vz vn y,e=.returned (.agg #[.int .i64 R.S.at_,.int .i64 (tk R.S.k),.int .i64 R.S.q,.int .i64 R.S.M,vz,.int .i64 R.S.good,.int .i64 R.S.fails,.int .i64 R.S.slow,.int .i64 R.N.at_,.int .i64 R.N.st,.int .i64 R.N.q,.int .i64 R.N.M,vn,.bool R.took,.float .f64 y,.int .i64 R.e]) ∧
  zk y=R.err∧y<18446744073709551616∧yk w' base vz (R.S.q+1) n R.S.z∧(0<R.N.rows→yk w' base vn R.N.rows n R.N.z)∧(R.N.rows=0→vn=.slice none 0 0)
def TrT (n:Nat) (R:Tr) (w:World) (e:Ending) (w':World):Prop:=TrB w.heap.size n R w e w'
end Go.Proofs.YtnlbafjmbamoeaaGreat
namespace Go.Proofs.YtnlbafjmbamoeaaGreat
open Go.RowKit Lib
open Ieee (double)
attribute [local go_sem] zr zi zy zn zU zS zW zX zV zY zD zH zI zJ zK zB ye z8 zF yE zN zQ zR
theorem pT (M:Nat) (w:World):Calls Tryz.prog 91 #[.int .i64 M] w (xf (.int .i64 (if M=0 then 5 else 4)) w):=by
 by_cases h:M=0
 ·subst h;have h0:((0:Int)==0)=true:=rfl;go_enter Tryz.func91,Tryz.ntmps91;go_wp2_with fail;go_ret;exact ⟨rfl,Below.refl _ _⟩
 ·rw [if_neg h];have h0:((M:Int)==0)=false:=by simp; omega
  go_enter Tryz.func91,Tryz.ntmps91;go_wp2_with fail;go_ret;exact ⟨rfl,Below.refl _ _⟩
def hvF:Nat→Nat
 | 0=>4607182418800017408
 | k+1=>cop .quo (hvF k) 4611686018427387904
theorem lh:∀ q,q<6→hvF (q+3)=uP q:=by decide +kernel
theorem pU (k:Nat) (hk:k≤20) (w:World):Calls Tryz.prog 90 #[.int .i64 k] w fun e w'=>∃ y,e=.returned (.float .f64 y)∧zk y=hvF k∧y<18446744073709551616∧Below w.heap.size w w':=by
 go_enter Tryz.func90,Tryz.ntmps90;go_wp2_with fail
 go_loopw [3,4] (fun x i wr=>∃ (d y:Nat),d≤k∧i=.int .i64 d∧x=.float .f64 y∧zk y=hvF d∧y<18446744073709551616∧Below w.heap.size w wr) (fun _ i _=>k-(intOf i).toNat)
 case atStart=>exact ⟨0,_,by omega,rfl,rfl,by decide +kernel,by decide,Below.refl _ _⟩
 case round=>
  obtain ⟨d,y,hd,rfl,rfl,y1,y2,hbl⟩:=hrel;by_cases hdk:d<k
  ·have hdi:(d:Int)<(k:Int):=by omega
   have HK:=hid (fun W=>(show zk (zZ .quo W y 4611686018427387904)=hvF (d+1) by rw [z9,hvF,← y1,zE]));have HBL:=hid hbl;clear y1 hbl;go_wp2_with fail
   go_roundw
   case rel=>exact ⟨d+1,_,by omega,by go_num,rfl,HK.out _,yi _ _ _ _,below_drewN HBL.out _⟩
   case measure=>simp [intOf]; omega
  ·obtain rfl:d=k:=by omega
   have hdi:¬ (d:Int)<(d:Int):=by omega
   go_wp2_with fail;go_ret;exact ⟨y,rfl,y1,y2,hbl⟩
set_option maxRecDepth 100000
set_option maxHeartbeats 16000000
theorem oX (n:Nat) (T:TD) (vo vu vb vy vt vz:Value) (en fi lo mo:Int) (pa pr pc:Nat) (m:Nat) (at_ t o M good fails slow:Int) (z:Nat→Nat→Nat) (hm:1≤m) (w:World) (hT:yG w (.agg #[.int .i64 n,vo,vu]) T) (hz:yB w vz m (fun _=>n) z)
  (hck:yq T=true) (hcs:∀ i,i<T.len→(T.op i).c<18446744073709551616) (hn:T.n=n) (h1:1≤n) (h4:n≤4) :
  Calls Tryz.prog 88 #[.agg #[.int .i64 n,vo,vu,vb,vy,.int .i64 en,.int .i64 fi,.int .i64 lo,.float .f64 pa,.float .f64 pr,.float .f64 pc,.int .i64 mo,vt],.agg #[.int .i64 at_,.int .i64 t,.int .i64 o,.int .i64 M,vz,.int .i64 good,.int .i64 fails,.int .i64 slow]] w fun e w'=>∃ v,e=.returned (.agg #[.int .i64 at_,.int .i64 t,.int .i64 1,.int .i64 M,v,.int .i64 good,.int .i64 0,.int .i64 slow])∧yk w' w.heap.size v 2 n (xq T (z 0) (xh t))∧Below w.heap.size w w':=by
 obtain ⟨bz,oz,cz,rfl,hbz,hr⟩:=hz.rowAt (by omega);obtain ⟨pz0,cz0,z0,hz0⟩:=hr 0 (by omega);rw [Nat.add_zero] at z0;have ST:=hid (fun (W:World) (hb:Below w.heap.size w W)=>tF n T vo vu _ (z 0) t W (hT.below hb) (hz0.below hb) hck hcs hn h1 h4);have AL:=al3 w (.cells #[.int .i64 n,vo,vu,vb,vy,.int .i64 en,.int .i64 fi,.int .i64 lo,.float .f64 pa,.float .f64 pr,.float .f64 pc,.int .i64 mo,vt] 33) (.cells #[.int .i64 at_,.int .i64 t,.int .i64 o,.int .i64 M,.slice (some ⟨bz,oz,none⟩) m cz,.int .i64 good,.int .i64 fails,.int .i64 slow] 39) (.cells #[.int .i64 0,.int .i64 0,.int .i64 0,.int .i64 0,.slice none 0 0,.int .i64 0,.int .i64 0,.int .i64 0] 39);have hm0:0<m:=by omega
 clear hT hz hr hz0 hck hcs;go_enter Tryz.func88,Tryz.ntmps88;go_upto_region 1 with fail
 generalize hB:w.heap.size=B at *;generalize ((w.alloc (.cells #[.int .i64 n,vo,vu,vb,vy,.int .i64 en,.int .i64 fi,.int .i64 lo,.float .f64 pa,.float .f64 pr,.float .f64 pc,.int .i64 mo,vt] 33)).alloc (.cells #[.int .i64 at_,.int .i64 t,.int .i64 o,.int .i64 M,.slice (some ⟨bz,oz,none⟩) m cz,.int .i64 good,.int .i64 fails,.int .i64 slow] 39)).alloc (.cells #[.int .i64 0,.int .i64 0,.int .i64 0,.int .i64 0,.slice none 0 0,.int .i64 0,.int .i64 0,.int .i64 0] 39)=X at *;obtain ⟨x1,x2,x3,x4,x5⟩:=AL;have p0:=zf x1 0;have p1:=zf x1 1;have p2:=zf x1 2;simp only [List.getElem?_toArray,List.getElem?_cons_zero,List.getElem?_cons_succ] at p0 p1 p2;obtain ⟨s0,s1,s2,s3,s4,s5,s6,s7⟩:=zO x2;rw [← x5.cell (p:=⟨bz,oz,none⟩) hbz] at z0;have HX2:=hid x2;have HX3:=hid x3;have HLT:=hid (show B<X.heap.size∧B+1<X.heap.size∧bz<X.heap.size∧B+2<X.heap.size from ⟨by omega,by omega,by omega,by omega⟩);have HBX:=hid x5;clear x1 x2 x3 s0 s2 s3 s5 s6 s7
 go_cut [5] (fun a wx=>∃ (P2 G c:Nat),a=.pointer (some ⟨P2,0,none⟩)∧wx.heap[P2]? = some (.cells #[.int .i64 0,.int .i64 t,.int .i64 1,.int .i64 0,.slice (some ⟨G,0,none⟩) 2 c] 37)∧yk wx X.heap.size (.slice (some ⟨G,0,none⟩) 2 c) 2 n (xq T (z 0) (xh t))∧X.heap.size≤P2∧Below X.heap.size X wx)
 case first=>
  refine yM (.op 0 1 (.op 1 3 (.op 2 1 (.op 3 1 (.op 4 3 (.op 5 1 (.op 6 3 (.op 7 1 (.op 8 1 (.op 9 3 (.alt 10 (.alt 11 (.alt 12 .nil .stop) .stop) (.alt 11 (.alt 10 (.alt 12 .nil .stop) .stop) .stop)))))))))))) [10,11,12] [1,4,6,9] (fun W=>Below X.heap.size X W) (by kernel_rfl) (by kernel_rfl) (fun _ _ d _ _ h=>by cases d<;>exact h) ((Below.refl _ _).drew) ?_;intro Z hZ hbZ;clear hZ;refine zu (fun K hK=>?_);go_simp;refine hK _ ?_;clear hK K;refine yg (v:=.agg #[.int .i64 n,vo,vu]) rfl rfl (fun wk hwk=>?_) ?_
  ·rw [← (zA hwk).1 _ _ HLT.out.1] at p0 p1 p2;go_simp
  refine zu (fun K hK=>?_);go_simp;refine hK _ ?_;clear hK K;refine zu (fun K hK=>?_);go_simp;refine hK _ ?_;clear hK K;refine yg (v:=.slice (some ⟨bz,oz,none⟩) m cz) rfl rfl (fun wk hwk=>?_) ?_
  ·rw [← (zA hwk).1 _ _ HLT.out.2.1] at s4;go_simp
  refine zu (fun K hK=>?_);go_simp;refine hK _ ?_;clear hK K;refine yg (v:=.slice pz0 n cz0) rfl rfl (fun wk hwk=>?_) ?_
  ·rw [← (zA hwk).1 _ _ HLT.out.2.2.1] at z0;go_simp
  refine zu (fun K hK=>?_);go_simp;refine hK _ ?_;clear hK K;refine zu (fun K hK=>?_);go_simp;refine hK _ ?_;clear hK K;refine yg (v:=.int .i64 t) rfl rfl (fun wk hwk=>?_) ?_
  ·rw [← (zA hwk).1 _ _ HLT.out.2.1] at s1;go_simp
  have HBZ0:=hid hbZ;clear hbZ;refine zq (fun K hK=>?_) ?_
  ·go_simp;refine (ST.out Z (HBX.out.trans (HBZ0.out.mono (show B≤X.heap.size by have:=HLT.out.1; omega)))).mono ?_;rintro e V1 ⟨G,c,blk,cp,rfl,hg,hst,hcc⟩;have hbx:=HBZ0.out.trans (hst.mono HBZ0.out.size);have HF3:=hid ((hg.own hcc).base (b':=X.heap.size) HBZ0.out.size);refine hK _ _ (fun _=>hbx) ?_;clear hK K;have HB2:=hid hbx;clear hbx hst hg hcc;refine zq (fun K hK=>?_) ?_
   ·go_simp;obtain ⟨y1,y2,hst⟩:=al1 V1 (.cells #[.int .i64 0,.int .i64 0,.int .i64 0,.int .i64 0,.slice none 0 0] 37);have hbx:=HB2.out.trans (hst.mono HB2.out.size);have HF9:=hid (HF3.out.below hst);have HL8:=hid (show X.heap.size≤V1.heap.size from HB2.out.size);refine hK _ _ (fun _=>hbx) ?_;clear hK K;have HB6:=hid hbx;have HF7:=hid y1;clear y1 y2 hst hbx;generalize V1.alloc (.cells #[.int .i64 0,.int .i64 0,.int .i64 0,.int .i64 0,.slice none 0 0] 37)=V4 at *;generalize V1.heap.size=k5 at *;refine zq (fun K hK=>?_) ?_
    ·have hrow:=yx HF7.out #[.int .i64 0,.int .i64 t,.int .i64 1,.int .i64 0,.slice (some ⟨G,0,none⟩) 2 c];have HB11:=hid (hrow.1.below HB6.out HL8.out HB6.out.size);have HF12:=hid hrow.2.1;have HF13:=hid (HF9.out.put HF7.out hrow.1 rfl rfl);refine xt rfl ?_;refine wz (by rfl) 37 _ _ (by rfl) k5 #[.int .i64 0,.int .i64 t,.int .i64 1,.int .i64 0,.slice (some ⟨G,0,none⟩) 2 c] (by rfl) (by rfl) 37 _ HF7.out (by kernel_rfl) rfl (by simp [Value.oneCell']) ?_;refine hK _ _ (fun _=>HB11.out) ?_;clear hK K hrow;generalize (V4.setRow k5 #[.int .i64 0,.int .i64 t,.int .i64 1,.int .i64 0,.slice (some ⟨G,0,none⟩) 2 c])=V10 at *;refine yt ?_;go_wp2_with fail;go_meet;exact ⟨k5,G,c,rfl,HF12.out,HF13.out,HL8.out,HB11.out⟩
    exact zt
   exact zt
  refine zq (fun K hK=>?_) ?_
  ·go_simp;obtain ⟨y1,y2,hst⟩:=al1 Z (.cells #[.int .i64 0,.int .i64 0,.int .i64 0,.int .i64 0,.slice none 0 0] 37);have hbx:=HBZ0.out.trans (hst.mono HBZ0.out.size);have HL18:=hid (show X.heap.size≤Z.heap.size from HBZ0.out.size);refine hK _ _ (fun _=>hbx) ?_;clear hK K;have HB16:=hid hbx;have HF17:=hid y1;clear y1 y2 hst hbx;generalize Z.alloc (.cells #[.int .i64 0,.int .i64 0,.int .i64 0,.int .i64 0,.slice none 0 0] 37)=V14 at *;generalize Z.heap.size=k15 at *;refine zq (fun K hK=>?_) ?_
   ·go_simp;refine (ST.out V14 (HBX.out.trans (HB16.out.mono (show B≤X.heap.size by have:=HLT.out.1; omega)))).mono ?_;rintro e V19 ⟨G,c,blk,cp,rfl,hg,hst,hcc⟩;have hbx:=HB16.out.trans (hst.mono HB16.out.size);have HF21:=hid ((hst.block k15 (zj HF17.out)).trans HF17.out);have HF22:=hid ((hg.own hcc).base (b':=X.heap.size) HB16.out.size);refine hK _ _ (fun _=>hbx) ?_;clear hK K;have HB20:=hid hbx;clear hbx hst hg hcc;refine zq (fun K hK=>?_) ?_
    ·have hrow:=yx HF21.out #[.int .i64 0,.int .i64 t,.int .i64 1,.int .i64 0,.slice (some ⟨G,0,none⟩) 2 c];have HB24:=hid (hrow.1.below HB20.out HL18.out HB20.out.size);have HF25:=hid hrow.2.1;have HF26:=hid (HF22.out.put HF21.out hrow.1 rfl rfl);refine xt rfl ?_;refine wz (by rfl) 37 _ _ (by rfl) k15 #[.int .i64 0,.int .i64 t,.int .i64 1,.int .i64 0,.slice (some ⟨G,0,none⟩) 2 c] (by rfl) (by rfl) 37 _ HF21.out (by kernel_rfl) rfl (by simp [Value.oneCell']) ?_;refine hK _ _ (fun _=>HB24.out) ?_;clear hK K hrow;generalize (V19.setRow k15 #[.int .i64 0,.int .i64 t,.int .i64 1,.int .i64 0,.slice (some ⟨G,0,none⟩) 2 c])=V23 at *;refine yt ?_;go_wp2_with fail;go_meet;exact ⟨k15,G,c,rfl,HF25.out,HF26.out,HL18.out,HB24.out⟩
    exact zt
   exact zt
  exact zt
 case rest=>
  obtain ⟨P2,G,c,rfl,hp,ho,hle,hbl⟩:=hcut;have hsw:=hbl.size;have hlt:=HLT.out.2.1;have hlt2:=HLT.out.2.2.2;have hP2:=zj hp;obtain ⟨c0,c1,c2,c3,c4,c5,c6,c7⟩:=zO ((hbl.block (B+1) hlt).trans HX2.out);have HP:=hid hp;have HO:=hid ho;have HBL:=hid hbl;have hB1:B+1<wc.heap.size:=by omega
  clear hp ho hbl p0 p1 p2 s1 s4 z0 c1 c2 c4 c5 c6 c7;go_wp2_with fail;refine zv [(0,1),(1,1),(2,3),(3,1),(4,1),(5,3),(6,1),(7,0),(8,1),(9,0)] (fun W=>Below X.heap.size wc W) (by kernel_rfl) (by kernel_rfl) (fun _ _ d _ _ h=>by cases d<;>exact h) ((Below.refl _ _).drew) ?_;intro Z hZ hbZ;have hpz:Z.heap[P2]? = some (.cells #[.int .i64 0,.int .i64 t,.int .i64 1,.int .i64 0,.slice (some ⟨G,0,none⟩) 2 c] 37):=by rw [hZ]; exact HP.out
  have hsZ:Z.heap.size=wc.heap.size:=by rw [hZ]; rfl
  have HOZ:=hid (show yk Z X.heap.size (.slice (some ⟨G,0,none⟩) 2 c) 2 n (xq T (z 0) (xh t)) by rw [hZ]; exact HO.out.below (Below.refl _ _).drew);clear hZ;obtain ⟨d0,d1,d2,d3,d4⟩:=yl hpz;have f0:=zg hpz 0;have f3:=zg hpz 3;have k1:=((zM.refl Z P2).set 0 (.int .i64 at_)).set 3 (.int .i64 M);have y1:=zp (o:=3) (zp (o:=0) hpz (.int .i64 at_)) (.int .i64 M);have o1:=HOZ.out.put hpz k1 rfl rfl;have b0:Below X.heap.size wc (Z.setCell ⟨P2,0,none⟩ (.int .i64 at_)):=hbZ.setCell (p:=⟨P2,0,none⟩) hle _;have b1:Below X.heap.size X ((Z.setCell ⟨P2,0,none⟩ (.int .i64 at_)).setCell ⟨P2,3,none⟩ (.int .i64 M)):=HBL.out.trans (b0.setCell (p:=⟨P2,3,none⟩) hle _);have HY1:=hid (show _=some (Obj.cells #[.int .i64 at_,.int .i64 t,.int .i64 1,.int .i64 M,.slice (some ⟨G,0,none⟩) 2 c] 37) from y1);have HY2:=hid ((b1.block (B+1) hlt).trans HX2.out);have HY3:=hid ((b1.block (B+2) hlt2).trans HX3.out);have HO1:=hid o1;have HB1:=hid b1;clear k1 y1 o1 b1 hpz d1 d2 d4
  iterate 2
   first
    | refine zd (fun K hK=>?_)
    | refine ze (fun K hK=>?_)
   go_simp;refine hK _ ?_;clear hK K
  refine zh (v:=.int .i64 at_) rfl rfl (fun wk hwk=>?_) ?_
  ·rw [← hwk.cell (p:=⟨B+1,0,none⟩) hlt] at c0;go_simp
  iterate 2
   first
    | refine zd (fun K hK=>?_)
    | refine ze (fun K hK=>?_)
   go_simp;refine hK _ ?_;clear hK K
  refine zh (v:=.int .i64 M) rfl rfl (fun wk hwk=>?_) ?_
  ·rw [← hwk.cell (p:=⟨B+1,3,none⟩) hlt] at c3;go_simp
  iterate 1
   first
    | refine zd (fun K hK=>?_)
    | refine ze (fun K hK=>?_)
   go_simp;refine hK _ ?_;clear hK K
  refine zm (fun K hK=>?_);go_simp;refine hK _ _ (fun h=>Bool.noConfusion (Eq.trans (Eq.symm (by kernel_rfl:_=false)) h)) (fun _=>b0) ?_;clear hK K
  iterate 1
   first
    | refine zd (fun K hK=>?_)
    | refine ze (fun K hK=>?_)
   go_simp;refine hK _ ?_;clear hK K
  refine zm (fun K hK=>?_);go_simp;refine hK _ _ (fun h=>Bool.noConfusion (Eq.trans (Eq.symm (by kernel_rfl:_=false)) h)) (fun h=>Bool.noConfusion (Eq.trans (Eq.symm (by kernel_rfl:_=false)) h)) ?_;clear hK K;refine zo ?_;clear HOZ b0 hbZ d0 d3 f0 f3 c0 c3 HP HO hsZ;generalize (Z.setCell ⟨P2,0,none⟩ (.int .i64 at_)).setCell ⟨P2,3,none⟩ (.int .i64 M)=W at *;obtain ⟨c0,c1,c2,c3,c4⟩:=yl HY1.out;obtain ⟨q0,q1,q2,q3,q4,q5,q6,q7⟩:=zO HY2.out;have f0:=zg HY2.out 0;have f1:=zg HY2.out 1;have f2:=zg HY2.out 2;have f3:=zg HY2.out 3;have f4:=zg HY2.out 4;have f6:=zg HY2.out 6;have hsW:=HB1.out.size;have k2:=(((((((zM.refl W (B+1)).set 0 (.int .i64 at_)).set 1 (.int .i64 t)).set 2 (.int .i64 1)).set 3 (.int .i64 M)).set 4 (.slice (some ⟨G,0,none⟩) 2 c)).set 6 (.int .i64 0))
  have y2:=(zp (o:=6) (zp (o:=4) (zp (o:=3) (zp (o:=2) (zp (o:=1) (zp (o:=0) HY2.out (.int .i64 at_)) (.int .i64 t)) (.int .i64 1)) (.int .i64 M)) (.slice (some ⟨G,0,none⟩) 2 c)) (.int .i64 0))
  have HZ2:=hid (show _=some (Obj.cells #[.int .i64 at_,.int .i64 t,.int .i64 1,.int .i64 M,.slice (some ⟨G,0,none⟩) 2 c,.int .i64 good,.int .i64 0,.int .i64 slow] 39) from y2);have HO2:=hid (HO1.out.put HY2.out k2 rfl rfl);have HR2:=hid ((k2.block (B+2) (by omega) (by omega)).trans HY3.out);have HB2:=hid (k2.below (HBX.out.trans (HB1.out.mono (show B≤X.heap.size by omega))) (show B≤B+1 by omega) (by omega));clear k2 y2;go_upto_region 4 with fail
  generalize ((((((W.setCell ⟨B+1,0,none⟩ (.int .i64 at_)).setCell ⟨B+1,1,none⟩ (.int .i64 t)).setCell ⟨B+1,2,none⟩ (.int .i64 1)).setCell ⟨B+1,3,none⟩ (.int .i64 M)).setCell ⟨B+1,4,none⟩ (.slice (some ⟨G,0,none⟩) 2 c)).setCell ⟨B+1,6,none⟩ (.int .i64 0))=W3 at *;clear c0 c1 c2 c3 c4 q0 q1 q2 q3 q4 q5 q6 q7 f0 f1 f2 f3 f4 f6;obtain ⟨q0,q1,q2,q3,q4,q5,q6,q7⟩:=zO HZ2.out;have hrow:=yx HR2.out #[.int .i64 at_,.int .i64 t,.int .i64 1,.int .i64 M,.slice (some ⟨G,0,none⟩) 2 c,.int .i64 good,.int .i64 0,.int .i64 slow];have HO3:=hid ((HO2.out.base (b':=B) (by omega)).put HR2.out hrow.1 rfl rfl);have HB3:=hid (hrow.1.below HB2.out (show B≤B+2 by omega) (by have:=HB2.out.size; rw [hB] at this; omega));have HRR:=hid hrow.2.1;clear hrow
  go_wp2_with (first
   | (refine wpList_store_row rfl 39 _ _ rfl (B+2) #[.int .i64 at_,.int .i64 t,.int .i64 1,.int .i64 M,.slice (some ⟨G,0,none⟩) 2 c,.int .i64 good,.int .i64 0,.int .i64 slow] rfl rfl 39 _ HR2.out (by kernel_rfl) rfl (by simp [Value.oneCell']) ?_)
   | fail)
  refine yf 4 39 Tryz.results88 (B+2) 39 #[.int .i64 at_,.int .i64 t,.int .i64 1,.int .i64 M,.slice (some ⟨G,0,none⟩) 2 c,.int .i64 good,.int .i64 0,.int .i64 slow] _ rfl HRR.out Tryz.underlying39 rfl (by kernel_rfl) rfl ?_;exact ⟨_,rfl,by rw [hB]; exact HO3.out,by rw [hB]; exact HB3.out⟩
end Go.Proofs.YtnlbafjmbamoeaaGreat
namespace Go.Proofs.YtnlbafjmbamoeaaGreat
open Go.RowKit Lib
def wi (b0:Nat) (w:World) (v:Value) (m n:Nat) (f:Nat→Nat→Nat):Prop:=
 ∀ W:World,w.heap.size≤W.heap.size→(∀ k,k<w.heap.size→(∀ cs,w.heap[k]?≠some (.cells cs 39 (0,0))∧w.heap[k]?≠some (.cells cs 45 (0,0)))→(b0≤k→∀ cs,w.heap[k]?≠some (.cells cs 49 (0,0)))→W.heap[k]? = w.heap[k]?)→yB W v m (fun _=>n) f
theorem wi.tab {b0 m n:Nat} {w:World} {v:Value} {f:Nat→Nat→Nat} (h:wi b0 w v m n f):yB w v m (fun _=>n) f:=h w (Nat.le_refl _) fun _ _ _ _=>rfl
theorem wi.below {b0 m n:Nat} {w w':World} {v:Value} {f:Nat→Nat→Nat} (h:wi b0 w v m n f) (hb:Below w.heap.size w w'):wi b0 w' v m n f:=fun W hs hW=>h W (Nat.le_trans hb.size hs) fun k hk hst hne=>by
 have e:=hb.block k hk;exact (hW k (Nat.lt_of_lt_of_le hk hb.size) (fun cs=>by rw [e]; exact hst cs) (fun h0 cs=>by rw [e]; exact hne h0 cs)).trans e
theorem yk.tabK {w:World} {base b0:Nat} {v:Value} {m n:Nat} {f:Nat→Nat→Nat} (h:yk w base v m n f) (hm:m≤1000) (hn:n≤1000):wi b0 w v m n f:=fun W _ hW=>
 (h.step fun k arr hk=>hW k (by rcases hk with e | e<;>exact zj e)
  (fun cs=>⟨fun e=>by
   rcases hk with e2 | e2
   ·rw [e2] at e; simp at e
   ·rw [e2] at e; simp at e,fun e=>by
   rcases hk with e2 | e2
   ·rw [e2] at e; simp at e
   ·rw [e2] at e; simp at e⟩)
  (fun _ cs e=>by
   rcases hk with e2 | e2
   ·rw [e2] at e; simp at e
   ·rw [e2] at e; simp at e)).tab hm hn
theorem wi.kept {b0 m n q:Nat} {w W:World} {v:Value} {f:Nat→Nat→Nat} {cs:Array Value} (h:wi b0 w v m n f) (hr:w.heap[q]? = some (.cells cs 49 (0,0))) (hk:zM w q W) (hq:b0≤q):wi b0 W v m n f:=fun W' hs hW=>h W' (Nat.le_trans hk.size hs) fun k hlt hst hne=>by
 by_cases e:k=q
 ·subst e;exact absurd hr (hne hq cs)
 ·have e2:=hk.block k hlt e;exact (hW k (Nat.lt_of_lt_of_le hlt hk.size) (fun cs'=>by rw [e2]; exact hst cs') (fun h0 cs'=>by rw [e2]; exact hne h0 cs')).trans e2
theorem wi.place {b0 m n q:Nat} {w W:World} {v:Value} {f:Nat→Nat→Nat} {cs:Array Value} (h:wi b0 w v m n f) (hr:w.heap[q]? = some (.cells cs 39 (0,0))) (hk:zM w q W):wi b0 W v m n f:=fun W' hs hW=>h W' (Nat.le_trans hk.size hs) fun k hlt hst hne=>by
 by_cases e:k=q
 ·subst e;exact absurd hr (hst cs).1
 ·have e2:=hk.block k hlt e;exact (hW k (Nat.lt_of_lt_of_le hlt hk.size) (fun cs'=>by rw [e2]; exact hst cs') (fun h0 cs'=>by rw [e2]; exact hne h0 cs')).trans e2
theorem wi.tried {b0 m n q:Nat} {w W:World} {v:Value} {f:Nat→Nat→Nat} {cs:Array Value} (h:wi b0 w v m n f) (hr:w.heap[q]? = some (.cells cs 45 (0,0))) (hk:zM w q W):wi b0 W v m n f:=fun W' hs hW=>h W' (Nat.le_trans hk.size hs) fun k hlt hst hne=>by
 by_cases e:k=q
 ·subst e;exact absurd hr (hst cs).2
 ·have e2:=hk.block k hlt e;exact (hW k (Nat.lt_of_lt_of_le hlt hk.size) (fun cs'=>by rw [e2]; exact hst cs') (fun h0 cs'=>by rw [e2]; exact hne h0 cs')).trans e2
def pV (b0 n:Nat) (R:Tr) (w:World) (e:Ending) (w':World):Prop:=
 Below w.heap.size w w'∧∃ vz vn y,e=.returned (.agg #[.int .i64 R.S.at_,.int .i64 (tk R.S.k),.int .i64 R.S.q,.int .i64 R.S.M,vz,.int .i64 R.S.good,.int .i64 R.S.fails,.int .i64 R.S.slow,.int .i64 R.N.at_,.int .i64 R.N.st,.int .i64 R.N.q,.int .i64 R.N.M,vn,.bool R.took,.float .f64 y,.int .i64 R.e]) ∧
  zk y=R.err∧y<18446744073709551616∧wi b0 w' vz (R.S.q+1) n R.S.z∧wi b0 w' vn R.N.rows n R.N.z
theorem xe (b0 n:Nat) (w:World):wi b0 w (.slice none 0 0) vZ.rows n vZ.z:=fun W _ _=>⟨none,0,rfl,by decide,fun h=>absurd h (Nat.lt_irrefl 0)⟩
theorem oY {w:World} {k m:Nat} {cs:Array Value} {t:TypeId} (h:w.heap[k]? = some (.cells cs t (0,0))) (hm:m≤cs.size):w.there k 0 m:=fun j hj=>⟨by rw [zf h,Nat.zero_add,Array.getElem?_eq_getElem (by omega)]; rfl,zg h _⟩
theorem yP {ops:Array Oper} {rest:List Oper} {o:Oper} {a:Act} {w:World} {Q:Exit→Act→World→Prop} (hgd:o.guard=none) (ty:TypeId) (x y:Operand) (ho:o.op=.store ty x y) (b:Nat) (v0 v1 v2 v3 v4 v5 v6 v7:Value)
  (hx:a.eval x=.pointer (some ⟨b,0,none⟩)) (hy:a.eval y=.agg #[v0,v1,v2,v3,v4,v5,v6,v7]) {u0 u1 u2 u3 u4 u5 u6 u7 u8 u9 u10 u11 u12 u13 u14 u15:Value} (t:TypeId) (hg:w.heap[b]? = some (.cells #[u0,u1,u2,u3,u4,u5,u6,u7,u8,u9,u10,u11,u12,u13,u14,u15] t (0,0))) (hi:(Tryz.prog.info? ty).map (·.size)=some 8)
  (h1:(#[v0,v1,v2,v3,v4,v5,v6,v7]:Array Value).all (·.oneCell')=true) (h:∀ W,zM w b W→W.heap[b]? = some (.cells #[v0,v1,v2,v3,v4,v5,v6,v7,u8,u9,u10,u11,u12,u13,u14,u15] t (0,0))→wpList Tryz.prog ops Q rest (a.put o.dst undef) W):wpList Tryz.prog ops Q (o :: rest) a w:=
 wpList_store_mid hgd ty x y ho b 0 #[v0,v1,v2,v3,v4,v5,v6,v7] hx hy (oY hg (Nat.le_add_left 8 8)) hi h1 (h _ (((((((((zM.refl w b).set 0 v0).set 1 v1).set 2 v2).set 3 v3).set 4 v4).set 5 v5).set 6 v6).set 7 v7) ((zp (o:=7) (zp (o:=6) (zp (o:=5) (zp (o:=4) (zp (o:=3) (zp (o:=2) (zp (o:=1) (zp (o:=0) hg v0) v1) v2) v3) v4) v5) v6) v7).trans (by kernel_rfl)))
end Go.Proofs.YtnlbafjmbamoeaaGreat
