/-
  Contracts (what a function tells) and plain facts that a law's proof hangs on, for every input; no condition but those in their statements. Laid together of the texts Tpa, Tpb, Tpm, Tpo, Tpe, Tpr, Jd, Tps, Ja, Jb, Jk, Tpt.
-/
import Derived.Test.YtnlbafjmbamoeaaGreatQa
import Derived.Deep.DeepCutAuto
import Derived.Deep.CutBlock
import Derived.Deep.AppendLies
namespace Go.Proofs.YtnlbafjmbamoeaaGreat
open Go.RowKit Lib
open Ieee (double)
attribute [local go_sem] zr zi zy zn zU zS zW zX zV zY zD zH zI zJ zK
theorem xj {W w1:World} (hb:Below W.heap.size W w1):(∀ b o,b<W.heap.size→w1.cell? ⟨b,o,none⟩=W.cell? ⟨b,o,none⟩)∧(∀ b o,b<W.heap.size→w1.frozen? ⟨b,o,none⟩=W.frozen? ⟨b,o,none⟩):=
 ⟨fun b o h=>hb.cell (p:=⟨b,o,none⟩) h,fun b o h=>hb.frozen (p:=⟨b,o,none⟩) h⟩
structure OpD where
 k:Int
 a:Int
 b:Int
 c:Nat
def opV (o:OpD):Value:=.agg #[.int .i64 o.k,.int .i64 o.a,.int .i64 o.b,.float .f64 o.c]
def xE (a n:Int):Bool:=decide (0≤a)&&decide (a<n)
def xg (o:OpD) (i n:Int):Bool:=
 if o.k=0 then xi o.c&&(o.a==0&&o.b==0)
 else if o.k=1 then xE o.a n&&(o.b==0&&eqB o.c 0)
 else if 2≤o.k∧o.k≤5 then xE o.a i&&(xE o.b i&&eqB o.c 0)
 else false
theorem wV (a n:Int) (w:World):Calls Tryz.prog 103 #[.int .i64 a,.int .i64 n] w (xf (.bool (xE a n)) w):=by
 go_enter Tryz.func103,Tryz.ntmps103;go_wp2_with fail
 ·go_ret;refine ⟨yX ?_,Below.refl _ _⟩;have h:0≤a:=by assumption
  unfold xE;rw [decide_eq_true h,Bool.true_and]
 ·go_ret;refine ⟨yX ?_,Below.refl _ _⟩;have h:¬ 0≤a:=by omega
  unfold xE;rw [decide_eq_false h,Bool.false_and]
def qR (B:Nat) (o:OpD) (w:World):Prop:=
 w.cell? ⟨B,0,none⟩=some (.int .i64 o.k)∧w.cell? ⟨B,1,none⟩=some (.int .i64 o.a)∧w.cell? ⟨B,2,none⟩=some (.int .i64 o.b)∧w.cell? ⟨B,3,none⟩=some (.float .f64 o.c)∧B<w.heap.size
theorem qR.below {B:Nat} {o:OpD} {w w':World} (h:qR B o w) (hb:Below w.heap.size w w'):qR B o w':=by
 obtain ⟨h1,h2,h3,h4,h5⟩:=h;obtain ⟨hc,-⟩:=xj hb;have:=hb.size;exact ⟨by rw [hc _ _ h5]; exact h1,by rw [hc _ _ h5]; exact h2,by rw [hc _ _ h5]; exact h3,by rw [hc _ _ h5]; exact h4,by omega⟩
theorem qR.new (o:OpD) (w:World) (t:TypeId):qR w.heap.size o (w.alloc (.cells #[.int .i64 o.k,.int .i64 o.a,.int .i64 o.b,.float .f64 o.c] t)):=by
 refine ⟨?_,?_,?_,?_,by simp⟩<;>rw [World.cell?_alloc_new]<;>rfl
theorem ql (o:OpD) (i n:Int) (w:World):Calls Tryz.prog 102 #[opV o,.int .i64 i,.int .i64 n] w (xf (.bool (xg o i n)) w):=by
 obtain ⟨k,a,b,c⟩:=o;have HB:=qR.new ⟨k,a,b,c⟩ w 66;have hw:Below w.heap.size w (w.alloc (.cells #[.int .i64 k,.int .i64 a,.int .i64 b,.float .f64 c] 66)):=(Below.refl _ _).alloc (Nat.le_refl _) _;unfold opV xg;simp only [];go_enter Tryz.func102,Tryz.ntmps102;by_cases k0:k=0
 ·subst k0;go_wp2_with fail;refine (vS c _).mono ?_;rintro e w1 ⟨rfl,hb1⟩;obtain ⟨c0,c1,c2,c3,c4⟩:=HB.below hb1;have hw1:=hw.trans (hb1.mono hw.size);clear HB hb1 hw;simp only [] at c0 c1 c2 c3;generalize hB:w.heap.size=B at *;cases hf:xi c
  all_goals go_wp2_with fail
  all_goals (go_ret; refine ⟨yX ?_,by rw [hB]; exact hw1⟩; simp_all)
 ·by_cases k1:k=1
  ·subst k1;go_wp2_with fail;refine (wV a n _).mono ?_;rintro e w1 ⟨rfl,hb1⟩;obtain ⟨c0,c1,c2,c3,c4⟩:=HB.below hb1;have hw1:=hw.trans (hb1.mono hw.size);clear HB hb1 hw;simp only [] at c0 c1 c2 c3;generalize hB:w.heap.size=B at *;cases hf:xE a n
   all_goals go_wp2_with fail
   all_goals (go_ret; refine ⟨yX ?_,by rw [hB]; exact hw1⟩; simp_all)
  ·by_cases k2:2≤k∧k≤5
   ·have hk:k=2∨k=3∨k=4∨k=5:=by omega
    rcases hk with rfl | rfl | rfl | rfl
    all_goals
     go_wp2_with fail;refine (wV a i _).mono ?_;rintro e w1 ⟨rfl,hb1⟩;have HB1:=HB.below hb1;have hw1:=hw.trans (hb1.mono hw.size);clear HB hb1 hw;obtain ⟨c0,c1,c2,c3,c4⟩:=id HB1;simp only [] at c0 c1 c2 c3;generalize hB:w.heap.size=B at *;cases hf:xE a i
     ·go_wp2_with fail;go_ret;refine ⟨yX ?_,by rw [hB]; exact hw1⟩;simp_all
     ·go_wp2_with fail;refine (wV b i _).mono ?_;rintro e w2 ⟨rfl,hb2⟩;have HB2:=HB1.below hb2;have hw2:=hw1.trans (hb2.mono (by have:=hw1.size; omega));clear HB1 hb2 hw1 c0 c1 c2 c3 c4;obtain ⟨c0,c1,c2,c3,c4⟩:=id HB2;simp only [] at c0 c1 c2 c3;cases hg:xE b i
      all_goals go_wp2_with fail
      all_goals (go_ret; refine ⟨yX ?_,by rw [hB]; exact hw2⟩; simp_all)
   ·go_wp2_with fail
    all_goals first | omega | (go_ret; refine ⟨yX ?_,hw⟩; simp_all)
def wa:Nat→(Nat→Bool)→Bool
 | 0,_=>true
 | k+1,p=>wa k p&&p k
theorem xw {p:Nat→Bool}:∀ {n:Nat},wa n p=true↔∀ i,i<n→p i=true
 | 0=>⟨fun _ i h=>by omega,fun _=>rfl⟩
 | n+1=>by
  unfold wa;rw [Bool.and_eq_true,xw];constructor
  ·rintro ⟨h1,h2⟩ i hi;by_cases e:i=n
   ·subst e; exact h2
   ·exact h1 i (by omega)
  ·exact fun h=>⟨fun i hi=>h i (by omega),h n (by omega)⟩
theorem tr {p:Nat→Bool} {n i:Nat} (hi:i<n) (h:p i=false):wa n p=false:=by
 cases e:wa n p
 ·rfl
 ·rw [xw.1 e i hi] at h; cases h
structure TD where
 n:Int
 len:Nat
 op:Nat→OpD
 lo:Nat
 out:Nat→Int
def qS (w:World) (v:Value) (len:Nat) (op:Nat→OpD):Prop:=
 ∃ a cap,v=.slice a len cap∧len≤9223372036854775807∧(0<len→∃ b off,a=some ⟨b,off,none⟩∧b<w.heap.size∧∀ i,i<len →
  w.cell? ⟨b,off+i*4,none⟩=some (.int .i64 (op i).k)∧w.cell? ⟨b,off+i*4+1,none⟩=some (.int .i64 (op i).a)∧w.cell? ⟨b,off+i*4+2,none⟩=some (.int .i64 (op i).b)∧w.cell? ⟨b,off+i*4+3,none⟩=some (.float .f64 (op i).c))
def uK (w:World) (v:Value) (len:Nat) (f:Nat→Int):Prop:=
 ∃ a cap,v=.slice a len cap∧len≤9223372036854775807∧(0<len→∃ b off,a=some ⟨b,off,none⟩∧b<w.heap.size∧∀ i,i<len→w.cell? ⟨b,off+i,none⟩=some (.int .i64 (f i)))
def yG (w:World) (v:Value) (T:TD):Prop:=∃ vo vu,v=.agg #[.int .i64 T.n,vo,vu]∧qS w vo T.len T.op∧uK w vu T.lo T.out
theorem qS.below {w w':World} {v:Value} {len:Nat} {op:Nat→OpD} (h:qS w v len op) (hb:Below w.heap.size w w'):qS w' v len op:=by
 obtain ⟨a,cap,h1,h2,h3⟩:=h;refine ⟨a,cap,h1,h2,fun hl=>?_⟩;obtain ⟨b,off,e,hs,hc⟩:=h3 hl;obtain ⟨hk,-⟩:=xj hb;refine ⟨b,off,e,Nat.lt_of_lt_of_le hs hb.size,fun i hi=>?_⟩;obtain ⟨c1,c2,c3,c4⟩:=hc i hi;exact ⟨by rw [hk _ _ hs]; exact c1,by rw [hk _ _ hs]; exact c2,by rw [hk _ _ hs]; exact c3,by rw [hk _ _ hs]; exact c4⟩
theorem uK.below {w w':World} {v:Value} {len:Nat} {f:Nat→Int} (h:uK w v len f) (hb:Below w.heap.size w w'):uK w' v len f:=by
 obtain ⟨a,cap,h1,h2,h3⟩:=h;refine ⟨a,cap,h1,h2,fun hl=>?_⟩;obtain ⟨b,off,e,hs,hc⟩:=h3 hl;obtain ⟨hk,-⟩:=xj hb;exact ⟨b,off,e,Nat.lt_of_lt_of_le hs hb.size,fun i hi=>by rw [hk _ _ hs]; exact hc i hi⟩
theorem yG.below {w w':World} {v:Value} {T:TD} (h:yG w v T) (hb:Below w.heap.size w w'):yG w' v T:=by
 obtain ⟨vo,vu,h1,h2,h3⟩:=h;exact ⟨vo,vu,h1,h2.below hb,h3.below hb⟩
def yq (T:TD):Bool:=
 decide (1≤T.n∧T.n≤4∧T.len≤60∧(T.lo:Int)=T.n)&&(wa T.len (fun i=>xg (T.op i) i T.n)&&wa T.lo fun i=>xE (T.out i) T.len)
def qm (B:Nat) (n:Int) (vo vu:Value) (w:World):Prop:=
 w.cell? ⟨B,0,none⟩=some (.int .i64 n)∧w.cell? ⟨B,1,none⟩=some vo∧w.cell? ⟨B,2,none⟩=some vu∧B<w.heap.size
theorem qm.below {B:Nat} {n:Int} {vo vu:Value} {w w':World} (h:qm B n vo vu w) (hb:Below w.heap.size w w'):qm B n vo vu w':=by
 obtain ⟨h1,h2,h3,h5⟩:=h;obtain ⟨hc,-⟩:=xj hb;have:=hb.size;exact ⟨by rw [hc _ _ h5]; exact h1,by rw [hc _ _ h5]; exact h2,by rw [hc _ _ h5]; exact h3,by omega⟩
theorem qm.new (n:Int) (vo vu:Value) (w:World) (t:TypeId):qm w.heap.size n vo vu (w.alloc (.cells #[.int .i64 n,vo,vu] t)):=by
 refine ⟨?_,?_,?_,by simp⟩<;>rw [World.cell?_alloc_new]<;>rfl
set_option maxRecDepth 100000
set_option maxHeartbeats 16000000
theorem wu (T:TD) (v:Value) (w:World) (h:yG w v T):Calls Tryz.prog 63 #[v] w (xf (.bool (yq T)) w):=by
 obtain ⟨n,len,op,lo,out⟩:=T;obtain ⟨vo,vu,rfl,⟨a,cap,rfl,hl1,ho⟩,⟨a2,cap2,rfl,hl2,hu⟩⟩:=h;simp only [] at *;have HB:=qm.new n (.slice a len cap) (.slice a2 lo cap2) w 28;have hw:Below w.heap.size w (w.alloc (.cells #[.int .i64 n,.slice a len cap,.slice a2 lo cap2] 28)):=(Below.refl _ _).alloc (Nat.le_refl _) _;unfold yq;simp only [];by_cases hq:1≤n∧n≤4∧len≤60∧(lo:Int)=n
 ·obtain ⟨q1,q2,q3,q4⟩:=id hq;rw [decide_eq_true hq,Bool.true_and];generalize hR:(wa len (fun i=>xg (op i) i n)&&wa lo fun i=>xE (out i) len)=R;go_enter Tryz.func63,Tryz.ntmps63;go_wp2_with fail;generalize hB:w.heap.size=B at *;generalize w.alloc (.cells #[.int .i64 n,.slice a len cap,.slice a2 lo cap2] 28)=W at *
  go_loopw [30] (fun i wr=>∃ (j:Nat),j≤len∧i=.int .i64 j∧Below B w wr∧qm B n (.slice a len cap) (.slice a2 lo cap2) wr∧∀ k,k<j→xg (op k) k n=true) (fun i _=>len-(intOf i).toNat)
  case atStart=>exact ⟨0,by omega,rfl,hw,HB,fun k hk=>by omega⟩
  case round=>
   obtain ⟨j,hj,rfl,hw2,HB2,hst⟩:=hrel;by_cases hlt:j<len
   ·obtain ⟨b,off,rfl,hbs,hc⟩:=ho (by omega);obtain ⟨d1,d2,d3,d4⟩:=hc j hlt;have hcl:∀ b o,b<B→wr.cell? ⟨b,o,none⟩=w.cell? ⟨b,o,none⟩:=fun b o h=>(xj (show Below w.heap.size w wr by rw [hB]; exact hw2)).1 b o (by rw [hB]; exact h)
    rw [← hcl _ _ hbs] at d1 d2 d3 d4;obtain ⟨c0,c1,c2,c4⟩:=id HB2;generalize ho':op j=oj at *;go_wp2_with fail
    go_still_tail 8,(by kernel_rfl)
    change wpList _ _ _ _ _ wr.drew;have hb3:Below wr.heap.size wr wr.drew:=(Below.refl _ _).drew;have HB3:=HB2.below hb3;have hw3:=hw2.trans (hb3.mono (by have:=hw2.size; omega));clear HB2 hw2 hb3 c0 c1 c2 c4 d1 d2 d3 d4;generalize wr.drew=W3 at *;go_wp2_with fail;refine (ql oj j n _).mono ?_;rintro e w4 ⟨rfl,hb4⟩;have HB4:=HB3.below hb4;have hw4:=hw3.trans (hb4.mono (by have:=hw3.size; omega));clear HB3 hw3 hb4;cases hf:xg oj j n
    ·go_wp2_with fail;go_ret;refine ⟨yX ?_,by rw [hB]; exact hw4⟩;rw [← hR,tr (p:=fun i=>xg (op i) i n) hlt (show xg (op j) j n=false by rw [ho']; exact hf)];rfl
    ·go_wp2_with fail
     go_roundw
     case rel=>exact ⟨j+1,by omega,by go_num,hw4,HB4,fun k hk=>by
      by_cases e:k=j
      ·subst e; rw [ho']; exact hf
      ·exact hst k (by omega)⟩
     case measure=>simp [intOf]; omega
   ·obtain rfl:j=len:=by omega
    have h1:wa j (fun i=>xg (op i) i n)=true:=xw.2 hst;rw [h1,Bool.true_and] at hR;clear h1 hst ho;obtain ⟨c0,c1,c2,c4⟩:=id HB2;go_wp2_with fail;clear c0 c1 c2 c4 HB hw
    go_loopw [46] (fun i wr=>∃ (k:Nat),k≤lo∧i=.int .i64 k∧Below B w wr∧qm B n (.slice a j cap) (.slice a2 lo cap2) wr∧∀ m,m<k→xE (out m) j=true) (fun i _=>lo-(intOf i).toNat)
    case atStart=>exact ⟨0,by omega,rfl,hw2,HB2,fun k hk=>by omega⟩
    case round=>
     clear hw2 HB2;obtain ⟨k,hk,rfl,hw2,HB2,hst⟩:=hrel;by_cases hlt:k<lo
     ·obtain ⟨b,off,rfl,hbs,hc⟩:=hu (by omega);have d1:=hc k hlt;have hcl:∀ b o,b<B→wr.cell? ⟨b,o,none⟩=w.cell? ⟨b,o,none⟩:=fun b o h=>(xj (show Below w.heap.size w wr by rw [hB]; exact hw2)).1 b o (by rw [hB]; exact h)
      rw [← hcl _ _ hbs] at d1;obtain ⟨c0,c1,c2,c4⟩:=id HB2;generalize ho':out k=ok at *;go_wp2_with fail
      go_still_tail 8,(by kernel_rfl)
      change wpList _ _ _ _ _ wr.drew;have hb3:Below wr.heap.size wr wr.drew:=(Below.refl _ _).drew;have HB3:=HB2.below hb3;have hw3:=hw2.trans (hb3.mono (by have:=hw2.size; omega));clear HB2 hw2 hb3 c0 c1 c2 c4 d1;generalize wr.drew=W3 at *;go_wp2_with fail;refine (wV ok j _).mono ?_;rintro e w4 ⟨rfl,hb4⟩;have HB4:=HB3.below hb4;have hw4:=hw3.trans (hb4.mono (by have:=hw3.size; omega));clear HB3 hw3 hb4;cases hf:xE ok j
      ·go_wp2_with fail;go_ret;refine ⟨yX ?_,by rw [hB]; exact hw4⟩;rw [← hR,tr (p:=fun i=>xE (out i) j) hlt (show xE (out k) j=false by rw [ho']; exact hf)]
      ·go_wp2_with fail
       go_roundw
       case rel=>exact ⟨k+1,by omega,by go_num,hw4,HB4,fun m hm=>by
        by_cases e:m=k
        ·subst e; rw [ho']; exact hf
        ·exact hst m (by omega)⟩
       case measure=>simp [intOf]; omega
     ·obtain rfl:k=lo:=by omega
      have h1:wa k (fun i=>xE (out i) j)=true:=xw.2 hst;rw [h1] at hR;clear h1 hst;go_wp2_with fail;go_ret;exact ⟨yX hR,by rw [hB]; exact hw2⟩
 ·rw [decide_eq_false hq,Bool.false_and];obtain ⟨c0,c1,c2,c4⟩:=id HB;have hcases:¬ 1≤n∨(1≤n∧¬ n≤4)∨(1≤n∧n≤4∧¬ len≤60)∨(1≤n∧n≤4∧len≤60∧¬ (lo:Int)=n):=by omega
  rcases hcases with h | ⟨h1,h⟩ | ⟨h1,h2,h⟩ | ⟨h1,h2,h3,h⟩
  case' inr.inr.inr=>have hne:((lo:Int) != n)=true:=by simpa using h
  all_goals
   go_enter Tryz.func63,Tryz.ntmps63;go_wp2_with fail;go_ret;exact ⟨rfl,hw⟩
theorem xy (P:Program) (w:World) (a:Addr) (m:Mode) (b:Nat):(store a (.float .f64 b) m).run P w=stored P w a (.float .f64 b) m:=run_store P w a _ m rfl
def cst (x:Int) (d:Nat):Nat:=cop .quo (floatOfInt .f64 x) d
def mD (k n:Int) (div:Bool):OpD:=
 if k % 11=0 then ⟨0,0,0,cst (k.tdiv 11 % 33-16) 4620693217682128896⟩
 else ⟨if div=true∧k % 7=0 then 5 else 2+k % 3,k.tdiv 4 % n,k.tdiv 40 % n,0⟩
def mE (n:Int) (ns:Nat→Int) (div:Bool) (i:Nat):OpD:=
 if (i:Int)<1+n % 3 then ⟨1,i,0,0⟩
 else if (i:Int)=1+n % 3 then ⟨0,0,0,cst (n % 17-8) 4616189618054758400⟩
 else mD (ns (i-1-(1+n % 3).toNat)) i div
def tZ (n:Int) (ns:Nat→Int) (len:Nat) (div:Bool):TD where
 n:=1+n % 3
 len:=(1+n % 3).toNat+1+min len 8
 op:=mE n ns div
 lo:=(1+n % 3).toNat
 out:=fun i=>(((1+n % 3).toNat+1+min len 8:Nat):Int)-1-(n.tdiv 3+i) % (min 3 ((1+n % 3).toNat+1+min len 8):Nat)
def xK (o:OpD):List Value:=[.int .i64 o.k,.int .i64 o.a,.int .i64 o.b,.float .f64 o.c]
def xG (op:Nat→OpD):Nat→List Value
 | 0=>[]
 | k+1=>xG op k ++ xK (op k)
theorem qT (op:Nat→OpD):∀ k,(xG op k).length=k*4
 | 0=>rfl
 | k+1=>by rw [xG,List.length_append,qT op k]; simp [xK]; omega
theorem ul (op:Nat→OpD) {i r:Nat} (hr:r<4):∀ {k:Nat},i<k→(xG op k)[i*4+r]? = (xK (op i))[r]?
 | k+1,h=>by
  have hl:=qT op k;rw [xG];by_cases e:i=k
  ·subst e;rw [List.getElem?_append_right (by omega),hl]
   congr 1
   omega
  ·rw [List.getElem?_append_left (by rw [hl]; omega)];exact ul op hr (by omega)
def yY (f:Nat→Int):Nat→List Value
 | 0=>[]
 | k+1=>yY f k ++ [.int .i64 (f k)]
theorem vH (f:Nat→Int):∀ k,(yY f k).length=k
 | 0=>rfl
 | k+1=>by rw [yY,List.length_append,vH f k]; simp
theorem xz (f:Nat→Int) {i:Nat}:∀ {k:Nat},i<k→(yY f k)[i]? = some (.int .i64 (f i))
 | k+1,h=>by
  have hl:=vH f k;rw [yY];by_cases e:i=k
  ·subst e;rw [List.getElem?_append_right (by omega),hl];simp
  ·rw [List.getElem?_append_left (by omega)];exact xz f (by omega)
theorem yV {w:World} {base:Nat} {e:TypeId} {size n:Nat} {v:Value} {xs:List Value} (h:w.ownsRow base e size v n xs):∃ a cap,v=.slice a n cap∧(0<n→∃ g,a=some ⟨g,0,none⟩∧g<w.heap.size∧∀ j,j<n*size→w.cell? ⟨g,j,none⟩=xs[j]?):=by
 rcases id h.2 with ⟨rfl,rfl⟩ | ⟨g,cap,cur,rfl,h1,h2,h3⟩
 ·exact ⟨none,0,rfl,fun h=>by omega⟩
 ·refine ⟨_,cap,rfl,fun _=>⟨g,rfl,?_,fun j hj=>h.cellAt j hj⟩⟩;exact (h.lt g rfl).2
theorem ou {w:World} {base:Nat} {e:TypeId} {n:Nat} {v:Value} {op:Nat→OpD} (h:w.ownsRow base e 4 v n (xG op n)) (hn:n≤9223372036854775807):qS w v n op:=by
 obtain ⟨a,cap,rfl,hc⟩:=yV h;refine ⟨a,cap,rfl,hn,fun h0=>?_⟩;obtain ⟨g,rfl,hg,hc⟩:=hc h0;refine ⟨g,0,rfl,hg,fun i hi=>⟨?_,?_,?_,?_⟩⟩
 ·have:=hc (i*4) (by omega); rw [Nat.zero_add,this]; exact (ul op (r:=0) (by omega) hi)
 ·have:=hc (i*4+1) (by omega); rw [Nat.zero_add,this]; exact (ul op (r:=1) (by omega) hi)
 ·have:=hc (i*4+2) (by omega); rw [Nat.zero_add,this]; exact (ul op (r:=2) (by omega) hi)
 ·have:=hc (i*4+3) (by omega); rw [Nat.zero_add,this]; exact (ul op (r:=3) (by omega) hi)
theorem t4 {w:World} {base:Nat} {e:TypeId} {n:Nat} {v:Value} {f:Nat→Int} (h:w.ownsRow base e 1 v n (yY f n)) (hn:n≤9223372036854775807):uK w v n f:=by
 obtain ⟨a,cap,rfl,hc⟩:=yV h;refine ⟨a,cap,rfl,hn,fun h0=>?_⟩;obtain ⟨g,rfl,hg,hc⟩:=hc h0;refine ⟨g,0,rfl,hg,fun i hi=>?_⟩;have:=hc i (by omega);rw [Nat.zero_add,this];exact xz f hi
def MV (w0:World) (B:Nat) (n:Int) (vo vu:Value) (w:World):Prop:=
 w.cell? ⟨B+1,0,none⟩=some (.int .i64 n)∧w.cell? ⟨B+1,1,none⟩=some vo∧w.cell? ⟨B+1,2,none⟩=some vu ∧
 w.frozen? ⟨B+1,0,none⟩=false∧w.frozen? ⟨B+1,1,none⟩=false∧w.frozen? ⟨B+1,2,none⟩=false ∧
 w.cell? ⟨B,0,none⟩=some (.int .i64 0)∧w.cell? ⟨B,1,none⟩=some (.slice none 0 0)∧w.cell? ⟨B,2,none⟩=some (.slice none 0 0) ∧
 w.frozen? ⟨B,0,none⟩=false∧w.frozen? ⟨B,1,none⟩=false∧w.frozen? ⟨B,2,none⟩=false∧B+1<w.heap.size∧w0.heap.size=B∧Below B w0 w
theorem MV.step {w0:World} {B:Nat} {n:Int} {vo vu:Value} {w w':World} (h:MV w0 B n vo vu w) (hb:Below (B+2) w w'):MV w0 B n vo vu w':=by
 obtain ⟨h1,h2,h3,h4,h5,h6,h7,h8,h9,h10,h11,h12,h13,h14,h15⟩:=h;have hc:∀ b o,b<B+2→w'.cell? ⟨b,o,none⟩=w.cell? ⟨b,o,none⟩:=fun b o h=>hb.cell (p:=⟨b,o,none⟩) h
 have hf:∀ b o,b<B+2→w'.frozen? ⟨b,o,none⟩=w.frozen? ⟨b,o,none⟩:=fun b o h=>hb.frozen (p:=⟨b,o,none⟩) h
 have:=hb.size
 exact ⟨by rw [hc _ _ (by omega)]; exact h1,by rw [hc _ _ (by omega)]; exact h2,by rw [hc _ _ (by omega)]; exact h3,by rw [hf _ _ (by omega)]; exact h4,by rw [hf _ _ (by omega)]; exact h5,by rw [hf _ _ (by omega)]; exact h6,
  by rw [hc _ _ (by omega)]; exact h7,by rw [hc _ _ (by omega)]; exact h8,by rw [hc _ _ (by omega)]; exact h9,by rw [hf _ _ (by omega)]; exact h10,by rw [hf _ _ (by omega)]; exact h11,by rw [hf _ _ (by omega)]; exact h12,by omega,h14,h15.trans (hb.mono (by omega))⟩
theorem MV.set1 {w0:World} {B:Nat} {n:Int} {vo vu:Value} {w:World} (h:MV w0 B n vo vu w) (v:Value):MV w0 B n v vu (w.setCell ⟨B+1,1,none⟩ v):=by
 obtain ⟨h1,h2,h3,h4,h5,h6,h7,h8,h9,h10,h11,h12,h13,h14,h15⟩:=h;refine ⟨by simp [go_sem,h1],by simp [go_sem,h2],by simp [go_sem,h3],by simp [go_sem,h4],by simp [go_sem,h5],by simp [go_sem,h6],by simp [go_sem,h7],by simp [go_sem,h8],by simp [go_sem,h9],by simp [go_sem,h10],by simp [go_sem,h11],by simp [go_sem,h12],by simp [World.setCell]; exact h13,h14,h15.setCell (by simp) _⟩
theorem MV.set2 {w0:World} {B:Nat} {n:Int} {vo vu:Value} {w:World} (h:MV w0 B n vo vu w) (v:Value):MV w0 B n vo v (w.setCell ⟨B+1,2,none⟩ v):=by
 obtain ⟨h1,h2,h3,h4,h5,h6,h7,h8,h9,h10,h11,h12,h13,h14,h15⟩:=h;refine ⟨by simp [go_sem,h1],by simp [go_sem,h2],by simp [go_sem,h3],by simp [go_sem,h4],by simp [go_sem,h5],by simp [go_sem,h6],by simp [go_sem,h7],by simp [go_sem,h8],by simp [go_sem,h9],by simp [go_sem,h10],by simp [go_sem,h11],by simp [go_sem,h12],by simp [World.setCell]; exact h13,h14,h15.setCell (by simp) _⟩
theorem xA {w w':World} {B:Nat} {base:Nat} {e:TypeId} {size n:Nat} {v:Value} {xs:List Value} (h:w.ownsRow base e size v n xs) (hb:B≤base) (hs:B≤w.heap.size) (hg:w.grownBy w' v.ownBlock):Below B w w':=
 (Below.refl _ _).grown hg hs fun k hk=>Nat.le_trans hb (h.lt k hk).1
theorem xn {w:World} {D o:Nat} {u:Value} {base:Nat} {e:TypeId} {size n:Nat} {v:Value} {xs:List Value} (h:w.ownsRow base e size v n xs) (hd:D<base):(w.setCell ⟨D,o,none⟩ u).ownsRow base e size v n xs:=by
 refine h.kept (row:=some D) ⟨rfl,rfl,rfl,by simp [World.setCell],fun k _ hk=>Below.heap_setCell _ _ _ _ (fun e=>hk (by rw [e]))⟩ ?_
 cases hv:v.ownBlock with
 | none=>exact .inl rfl
 | some k=>right; intro e; have:=(h.lt k hv).1; simp at e; omega
theorem wW {w:World} {o:Obj} {k:Nat} (h:w.heap.size=k):(w.alloc o).heap[k]? = some o:=h ▸ heap_alloc_new w o
theorem yr {w:World} {D o:Nat} {u:Value} {base:Nat} {e:TypeId} {size n:Nat} {v:Value} {xs:List Value} (h:w.ownsRow base e size v n xs) (hd:v.ownBlock≠some D):(w.setCell ⟨D,o,none⟩ u).ownsRow base e size v n xs:=
 h.kept (row:=some D) ⟨rfl,rfl,rfl,by simp [World.setCell],fun k _ hk=>Below.heap_setCell _ _ _ _ (fun e=>hk (by rw [e]))⟩ (.inr hd)
theorem xB {w w':World} {base:Nat} {e:TypeId} {size n:Nat} {v:Value} {xs:List Value} (h:w.ownsRow base e size v n xs) (hb:Below w.heap.size w w'):w'.ownsRow base e size v n xs:=by
 refine h.kept (row:=none) ⟨hb.os,hb.tape,hb.output,hb.size,fun k hk _=>hb.block k hk⟩ ?_;cases v.ownBlock<;>simp
theorem ko:(Tryz.prog.info? 66).map (fun i=>(i.zero,i.size,i.bytes))=some (some (.agg #[.int .i64 0,.int .i64 0,.int .i64 0,.float .f64 0]),4,32):=by kernel_rfl
theorem info3:(Tryz.prog.info? 3).map (fun i=>(i.zero,i.size,i.bytes))=some (some (.int .i64 0),1,8):=by kernel_rfl
theorem yF (a n:Int) (w:World) (h1:1≤n) (h2:n≤9223372036854775807) :
  Calls Tryz.prog 61 #[.int .i64 a,.int .i64 n] w fun e w'=>e=.returned (.int .i64 (a % n))∧w=w':=by
 have h2':=Int.emod_nonneg a (show n≠0 by omega);have h3:=Int.emod_lt_of_pos a (show 0<n by omega);have h:=tg (a:=a) h1;have H:=hid h;clear h;go_enter Tryz.func61,Tryz.ntmps61
 go_wp2
 ·go_ret;refine ⟨?_,rfl⟩;have:=H.out.1 (by assumption);exact ss (by rw [this]; unfold wrap64; omega)
 ·go_ret;refine ⟨?_,rfl⟩;exact ss (H.out.2 (by assumption))
end Go.Proofs.YtnlbafjmbamoeaaGreat
namespace Go.Proofs.YtnlbafjmbamoeaaGreat
open Go.RowKit Lib
open Ieee (double)
attribute [local go_sem] zr zi zy zn zU zS zW zX zV zY zD zH zI zJ zK xy
def opF (k:Int) (a b:Nat):Nat:=if k=2 then cop .add a b else if k=3 then cop .sub a b else if k=4 then cop .mul a b else cop .quo a b
def xd (c:Nat) (w:World) (e:Ending) (w':World):Prop:=∃ x n,e=.returned (.float .f64 x)∧zk x=c∧x<18446744073709551616∧w'=w.drewN n
theorem xd.of {op:BinOp} {w w1:World} {a b n:Nat}:xd (cop op a b) w (.returned (.float .f64 (zZ op w1 a b))) (w.drewN n):=⟨_,_,rfl,z9 _ _ _ _,yi _ _ _ _,rfl⟩
theorem nO (k:Int) (a b:Nat) (w:World):Calls Tryz.prog 96 #[.int .i64 k,.float .f64 a,.float .f64 b] w (xd (opF k a b) w):=by
 unfold opF;go_enter Tryz.func96,Tryz.ntmps96;by_cases k2:k=2
 ·subst k2;go_wp2_with fail;go_ret;exact xd.of
 ·by_cases k3:k=3
  ·subst k3;go_wp2_with fail;go_ret;exact xd.of
  ·by_cases k4:k=4
   ·subst k4;go_wp2_with fail;go_ret;exact xd.of
   ·rw [if_neg k2,if_neg k3,if_neg k4];go_wp2_with fail;go_ret;exact xd.of
theorem vJ (a:Nat) (w:World):Calls Tryz.prog 140 #[.float .f64 a] w fun e w'=>e=.returned (.float .f64 a)∧w=w':=by
 go_enter Tryz.func140,Tryz.ntmps140;go_wp2_with fail;go_ret;exact ⟨rfl,rfl⟩
theorem uC (a b:Nat) (w:World):Calls Tryz.prog 141 #[.float .f64 a,.float .f64 b] w (xd (cop .add a b) w):=by
 go_enter Tryz.func141,Tryz.ntmps141;go_wp2_with fail;go_ret;exact xd.of
theorem uD (a b:Nat) (w:World):Calls Tryz.prog 142 #[.float .f64 a,.float .f64 b] w (xd (cop .sub a b) w):=by
 go_enter Tryz.func142,Tryz.ntmps142;go_wp2_with fail;go_ret;exact xd.of
theorem vK (a b:Nat) (w:World):Calls Tryz.prog 143 #[.float .f64 a,.float .f64 b] w (xd (cop .mul a b) w):=by
 go_enter Tryz.func143,Tryz.ntmps143;go_wp2_with fail;go_ret;exact xd.of
theorem tN (a b:Nat) (w:World):Calls Tryz.prog 144 #[.float .f64 a,.float .f64 b] w (xd (cop .quo a b) w):=by
 go_enter Tryz.func144,Tryz.ntmps144;go_wp2_with fail;go_ret;exact xd.of
def wO (w:World) (v:Value) (len:Nat) (f:Nat→Nat):Prop:=
 ∃ a cap,v=.slice a len cap∧len≤9223372036854775807∧(0<len→∃ b off,a=some ⟨b,off,none⟩∧b<w.heap.size∧∀ i,i<len→∃ y,w.cell? ⟨b,off+i,none⟩=some (.float .f64 y)∧zk y=f i∧y<18446744073709551616)
theorem wO.below {w w':World} {v:Value} {len:Nat} {f:Nat→Nat} (h:wO w v len f) (hb:Below w.heap.size w w'):wO w' v len f:=by
 obtain ⟨a,cap,h1,h2,h3⟩:=h;refine ⟨a,cap,h1,h2,fun hl=>?_⟩;obtain ⟨b,off,e,hs,hc⟩:=h3 hl;obtain ⟨hk,-⟩:=xj hb;refine ⟨b,off,e,Nat.lt_of_lt_of_le hs hb.size,fun i hi=>?_⟩;obtain ⟨y,c1,c2,c3⟩:=hc i hi;exact ⟨y,by rw [hk _ _ hs]; exact c1,c2,c3⟩
def v9 (o:OpD) (x r:Nat→Nat):Nat:=
 if o.k=0 then zk o.c else if o.k=1 then x o.a.toNat else opF o.k (r o.a.toNat) (r o.b.toNat)
def xM:Value:=.agg #[.func (.func 140) #[] #[],.func (.func 141) #[] #[],.func (.func 142) #[] #[],.func (.func 143) #[] #[],.func (.func 144) #[] #[]]
def xY (c:Nat) (w:World) (e:Ending) (w':World):Prop:=∃ x,e=.returned (.float .f64 x)∧zk x=c∧x<18446744073709551616∧Below w.heap.size w w'
theorem tt (w:World) (A A2:Nat) (k:Int) (c:Nat) :
  let W:=(w.alloc (.cells #[.func (.func 140) #[] #[],.func (.func 141) #[] #[],.func (.func 142) #[] #[],.func (.func 143) #[] #[],.func (.func 144) #[] #[]] 158)).alloc (.cells #[.int .i64 k,.int .i64 A,.int .i64 A2,.float .f64 c] 66)
  W.cell? ⟨w.heap.size,1,none⟩=some (.func (.func 141) #[] #[])∧W.cell? ⟨w.heap.size,2,none⟩=some (.func (.func 142) #[] #[])∧W.cell? ⟨w.heap.size,3,none⟩=some (.func (.func 143) #[] #[])∧W.cell? ⟨w.heap.size,4,none⟩=some (.func (.func 144) #[] #[]) ∧
  W.cell? ⟨w.heap.size+1,1,none⟩=some (.int .i64 A)∧W.cell? ⟨w.heap.size+1,2,none⟩=some (.int .i64 A2):=by
 have e:(w.alloc (.cells #[.func (.func 140) #[] #[],.func (.func 141) #[] #[],.func (.func 142) #[] #[],.func (.func 143) #[] #[],.func (.func 144) #[] #[]] 158)).heap.size=w.heap.size+1:=by simp
 refine ⟨?_,?_,?_,?_,?_,?_⟩
 iterate 4 (rw [World.cell?_alloc_lt _ _ _ (show w.heap.size<_ by rw [e]; omega),World.cell?_alloc_new]; rfl)
 iterate 2 (rw [← e,World.cell?_alloc_new]; rfl)
theorem yu {a n:Int} (h:xE a n=true):∃ A:Nat,a=A∧(A:Int)<n:=by
 unfold xE at h;simp only [Bool.and_eq_true,decide_eq_true_eq] at h;exact ⟨a.toNat,by omega,by omega⟩
set_option maxRecDepth 100000
set_option maxHeartbeats 16000000
theorem sj (o:OpD) (n i len:Nat) (x r:Nat→Nat) (vx:Value) (R cap:Nat) (w:World) (hst:xg o i n=true) (hc:o.c<18446744073709551616) (hx:wO w vx n x) (hi:i<len) (_:len≤60) (hR:R<w.heap.size)
  (hr:∀ j,j<i→∃ y,w.cell? ⟨R,j,none⟩=some (.float .f64 y)∧zk y=r j∧y<18446744073709551616) :
  Calls Tryz.prog 163 #[xM,opV o,vx,.slice (some ⟨R,0,none⟩) len cap] w (xY (v9 o x r) w):=by
 obtain ⟨k,a,b,c⟩:=o;have hb1:Below w.heap.size w ((w.alloc (.cells #[.func (.func 140) #[] #[],.func (.func 141) #[] #[],.func (.func 142) #[] #[],.func (.func 143) #[] #[],.func (.func 144) #[] #[]] 158)).alloc (.cells #[.int .i64 k,.int .i64 a,.int .i64 b,.float .f64 c] 66)):=((Below.refl _ _).alloc (Nat.le_refl _) _).alloc (by simp) _;unfold opV v9 xM;unfold xg at hst;simp only [] at hst hc ⊢;go_enter Tryz.func163,Tryz.ntmps163;by_cases k0:k=0
 ·subst k0;go_wp2_with fail;refine (vJ c _).mono ?_;rintro e w' ⟨rfl,rfl⟩;go_wp2_with fail;go_ret;exact ⟨c,rfl,rfl,hc,hb1⟩
 ·by_cases k1:k=1
  ·subst k1;simp only [if_neg k0,if_true,Bool.and_eq_true] at hst;obtain ⟨A,rfl,hA⟩:=yu hst.1;obtain ⟨xa,xcap,rfl,hx1,hx2⟩:=hx;obtain ⟨xb,xo,rfl,hxs,hxc⟩:=hx2 (by omega);obtain ⟨y,hy1,hy2,hy3⟩:=hxc A (by omega);have y1:=((xj hb1).1 xb (xo+A) hxs).trans hy1;clear hxc hx2 hr hst;go_wp2_with fail;go_ret;exact ⟨y,rfl,hy2,hy3,hb1⟩
  ·have hk:2≤k∧k≤5:=by
    rw [if_neg k0,if_neg k1] at hst;by_cases h:2≤k∧k≤5
    ·exact h
    ·rw [if_neg h] at hst; cases hst
   rw [if_neg k0,if_neg k1,if_pos hk] at hst;simp only [Bool.and_eq_true] at hst;obtain ⟨A,rfl,hA⟩:=yu hst.1;obtain ⟨A2,rfl,hA2⟩:=yu hst.2.1;obtain ⟨u1,hu1,hu2,hu3⟩:=hr A (by omega);obtain ⟨u2,hv1,hv2,hv3⟩:=hr A2 (by omega);have y1:=((xj hb1).1 R A hR).trans hu1;have y2:=((xj hb1).1 R A2 hR).trans hv1;have a1:(A:Int)<(len:Int):=by omega
   have a2:(A2:Int)<(len:Int):=by omega
   have E:∀ op,cop op (r A) (r A2)=cop op u1 u2:=fun op=>by rw [← hu2,← hv2,zE,zC]
   have HE:=hid E;clear E hr hst hu1 hv1 hu2 hv2 hx;have hk':k=2∨k=3∨k=4∨k=5:=by omega
   rcases hk' with rfl | rfl | rfl | rfl
   ·go_wp2_with fail;obtain ⟨g1,g2,g3,g4,g5,g6⟩:=tt w A A2 2 c;generalize (w.alloc (.cells #[.func (.func 140) #[] #[],.func (.func 141) #[] #[],.func (.func 142) #[] #[],.func (.func 143) #[] #[],.func (.func 144) #[] #[]] 158)).alloc (.cells #[.int .i64 2,.int .i64 A,.int .i64 A2,.float .f64 c] 66)=W1 at *
    go_still_tail 12,(by kernel_rfl)
    change wpList _ _ _ _ _ W1.drew;go_wp2_with fail;refine (uC u1 u2 _).mono ?_;rintro e w' ⟨z,m,rfl,hz1,hz2,rfl⟩;go_wp2_with fail;go_ret;exact ⟨_,rfl,by rw [hz1]; exact (show opF 2 (r A) (r A2)=cop .add u1 u2 from HE.out .add).symm,hz2,yc hb1 _⟩
   ·go_wp2_with fail;obtain ⟨g1,g2,g3,g4,g5,g6⟩:=tt w A A2 3 c;generalize (w.alloc (.cells #[.func (.func 140) #[] #[],.func (.func 141) #[] #[],.func (.func 142) #[] #[],.func (.func 143) #[] #[],.func (.func 144) #[] #[]] 158)).alloc (.cells #[.int .i64 3,.int .i64 A,.int .i64 A2,.float .f64 c] 66)=W1 at *
    go_still_tail 12,(by kernel_rfl)
    change wpList _ _ _ _ _ W1.drew;go_wp2_with fail;refine (uD u1 u2 _).mono ?_;rintro e w' ⟨z,m,rfl,hz1,hz2,rfl⟩;go_wp2_with fail;go_ret;exact ⟨_,rfl,by rw [hz1]; exact (show opF 3 (r A) (r A2)=cop .sub u1 u2 from HE.out .sub).symm,hz2,yc hb1 _⟩
   ·go_wp2_with fail;obtain ⟨g1,g2,g3,g4,g5,g6⟩:=tt w A A2 4 c;generalize (w.alloc (.cells #[.func (.func 140) #[] #[],.func (.func 141) #[] #[],.func (.func 142) #[] #[],.func (.func 143) #[] #[],.func (.func 144) #[] #[]] 158)).alloc (.cells #[.int .i64 4,.int .i64 A,.int .i64 A2,.float .f64 c] 66)=W1 at *
    go_still_tail 12,(by kernel_rfl)
    change wpList _ _ _ _ _ W1.drew;go_wp2_with fail;refine (vK u1 u2 _).mono ?_;rintro e w' ⟨z,m,rfl,hz1,hz2,rfl⟩;go_wp2_with fail;go_ret;exact ⟨_,rfl,by rw [hz1]; exact (show opF 4 (r A) (r A2)=cop .mul u1 u2 from HE.out .mul).symm,hz2,yc hb1 _⟩
   ·go_wp2_with fail;obtain ⟨g1,g2,g3,g4,g5,g6⟩:=tt w A A2 5 c;generalize (w.alloc (.cells #[.func (.func 140) #[] #[],.func (.func 141) #[] #[],.func (.func 142) #[] #[],.func (.func 143) #[] #[],.func (.func 144) #[] #[]] 158)).alloc (.cells #[.int .i64 5,.int .i64 A,.int .i64 A2,.float .f64 c] 66)=W1 at *
    go_still_tail 12,(by kernel_rfl)
    change wpList _ _ _ _ _ W1.drew;go_wp2_with fail;refine (tN u1 u2 _).mono ?_;rintro e w' ⟨z,m,rfl,hz1,hz2,rfl⟩;go_wp2_with fail;go_ret;exact ⟨_,rfl,by rw [hz1]; exact (show opF 5 (r A) (r A2)=cop .quo u1 u2 from HE.out .quo).symm,hz2,yc hb1 _⟩
def evL (op:Nat→OpD) (x:Nat→Nat):Nat→List Nat
 | 0=>[]
 | i+1=>evL op x i ++ [v9 (op i) x fun j=>(evL op x i).getD j 0]
def evR (op:Nat→OpD) (x:Nat→Nat) (j:Nat):Nat:=v9 (op j) x fun i=>(evL op x j).getD i 0
theorem nt (op:Nat→OpD) (x:Nat→Nat):∀ i,(evL op x i).length=i
 | 0=>rfl
 | i+1=>by rw [evL,List.length_append,nt op x i]; rfl
theorem uE (op:Nat→OpD) (x:Nat→Nat) {j:Nat}:∀ {i:Nat},j<i→(evL op x i).getD j 0=evR op x j
 | i+1,h=>by
  have hl:=nt op x i;rw [evL];by_cases e:j=i
  ·subst e;unfold evR;simp [List.getD,hl]
  ·have:∀ y,(evL op x i ++ [y]).getD j 0=(evL op x i).getD j 0:=fun y=>by simp [List.getD,List.getElem?_append_left (show j<(evL op x i).length by omega)]
   rw [this];exact uE op x (by omega)
theorem mI:(Tryz.prog.info? 31).map (fun i=>(i.zero,i.size,i.bytes))=some (some (.float .f64 0),1,8):=by kernel_rfl
def KT (w0:World) (B:Nat) (n:Int) (vo vu:Value) (w:World):Prop:=
 w.cell? ⟨B,0,none⟩=some (.func (.func 140) #[] #[])∧w.cell? ⟨B,1,none⟩=some (.func (.func 141) #[] #[])∧w.cell? ⟨B,2,none⟩=some (.func (.func 142) #[] #[])∧w.cell? ⟨B,3,none⟩=some (.func (.func 143) #[] #[])∧w.cell? ⟨B,4,none⟩=some (.func (.func 144) #[] #[]) ∧
 w.cell? ⟨B+1,0,none⟩=some (.int .i64 n)∧w.cell? ⟨B+1,1,none⟩=some vo∧w.cell? ⟨B+1,2,none⟩=some vu∧B+1<w.heap.size∧w0.heap.size=B∧Below B w0 w
theorem KT.step {w0:World} {B:Nat} {n:Int} {vo vu:Value} {w w':World} (h:KT w0 B n vo vu w) (hb:Below (B+2) w w'):KT w0 B n vo vu w':=by
 obtain ⟨h1,h2,h3,h4,h5,h6,h7,h8,h9,h10,h11⟩:=h;have hc:∀ b o,b<B+2→w'.cell? ⟨b,o,none⟩=w.cell? ⟨b,o,none⟩:=fun b o h=>hb.cell (p:=⟨b,o,none⟩) h
 have:=hb.size;exact ⟨by rw [hc _ _ (by omega)]; exact h1,by rw [hc _ _ (by omega)]; exact h2,by rw [hc _ _ (by omega)]; exact h3,by rw [hc _ _ (by omega)]; exact h4,by rw [hc _ _ (by omega)]; exact h5,by rw [hc _ _ (by omega)]; exact h6,by rw [hc _ _ (by omega)]; exact h7,by rw [hc _ _ (by omega)]; exact h8,by omega,h10,h11.trans (hb.mono (by omega))⟩
theorem KT.start (w:World) (n:Int) (vo vu:Value) (s t:TypeId):KT w w.heap.size n vo vu ((w.alloc (.cells #[.func (.func 140) #[] #[],.func (.func 141) #[] #[],.func (.func 142) #[] #[],.func (.func 143) #[] #[],.func (.func 144) #[] #[]] s)).alloc (.cells #[.int .i64 n,vo,vu] t)):=by
 have e:(w.alloc (.cells #[.func (.func 140) #[] #[],.func (.func 141) #[] #[],.func (.func 142) #[] #[],.func (.func 143) #[] #[],.func (.func 144) #[] #[]] s)).heap.size=w.heap.size+1:=by simp
 refine ⟨?_,?_,?_,?_,?_,?_,?_,?_,by simp,rfl,((Below.refl _ _).alloc (Nat.le_refl _) _).alloc (by rw [e]; omega) _⟩
 iterate 5 (rw [World.cell?_alloc_lt _ _ _ (show w.heap.size<_ by rw [e]; omega),World.cell?_alloc_new]; rfl)
 iterate 3 (rw [← e,World.cell?_alloc_new]; rfl)
def sm (w:World) (H R len i:Nat) (f:Nat→Nat):Prop:=
 ∃ rs:List Value,w.ownsRow H 31 1 (.slice (some ⟨R,0,none⟩) len len) len rs∧∀ j,j<i→∃ y,rs[j]? = some (.float .f64 y)∧zk y=f j∧y<18446744073709551616
def nP (n:Nat) (f:Nat→Nat) (w:World) (e:Ending) (w':World):Prop:=∃ R,e=.returned (.slice (some ⟨R,0,none⟩) n n)∧yd w' w.heap.size R n n f∧Below w.heap.size w w'
theorem rQ {T:TD} (h:yq T=true) {nn:Nat} (hn:T.n=nn):T.lo=nn∧nn≤4:=by
 unfold yq at h;simp only [Bool.and_eq_true,decide_eq_true_eq] at h;omega
theorem lI (T:TD) (v vx:Value) (x:Nat→Nat) (w:World) (h:yG w v T) (hck:yq T=true) (hcs:∀ i,i<T.len→(T.op i).c<18446744073709551616) (nn:Nat) (hn:T.n=nn) (hx:wO w vx nn x) :
  Calls Tryz.prog 149 #[xM,v,vx] w (nP nn (fun i=>evR T.op x (T.out i).toNat) w):=by
 obtain ⟨n,len,op,lo,out⟩:=T;obtain ⟨vo,vu,rfl,⟨a,cap,rfl,hl1,ho⟩,⟨a2,cap2,rfl,hl2,hu⟩⟩:=h;unfold yq at hck;simp only [Bool.and_eq_true,decide_eq_true_eq] at hck hcs hn ho hu hl1 hl2 ⊢;subst hn;obtain ⟨⟨q1,q2,q3,q4⟩,hs1,hs2⟩:=hck;obtain rfl:nn=lo:=by omega
 clear q4;have HS1:=hid (xw.1 hs1);have HS2:=hid (xw.1 hs2);have HCS:=hid hcs;have HO:=hid ho;have HU:=hid hu;have HX:=hid hx;obtain ⟨iF,hi,hz0,hz1,hz2⟩:=info_parts mI;have HI:=hid (show iF.zero=_∧iF.size=_∧iF.bytes=_ from ⟨hz0,hz1,hz2⟩);have HI0:=hid hi;have hkt:=KT.start w (nn:Int) (.slice a len cap) (.slice a2 nn cap2) 158 28;clear hs1 hs2 hcs ho hu hx hz0 hz1 hz2 hi;unfold xM;go_enter Tryz.func149,Tryz.ntmps149;go_upto_region 1 with fail
 generalize hB:w.heap.size=B at *;generalize (w.alloc (.cells #[.func (.func 140) #[] #[],.func (.func 141) #[] #[],.func (.func 142) #[] #[],.func (.func 143) #[] #[],.func (.func 144) #[] #[]] 158)).alloc (.cells #[.int .i64 nn,.slice a len cap,.slice a2 nn cap2] 28)=W at *;obtain ⟨c1,c2,c3,c4,c5,c6,c7,c8,c9,c10,c11⟩:=id hkt
 go_wp2_with (first
  | (refine wpList_make_full _ rfl _ _ _ rfl (B+2) 31 iF (.float .f64 0) 1 Tryz.underlying30 HI0.out HI.out.1 HI.out.2.1 .i64 .i64 (len:Int) (len:Int) len rfl rfl rfl rfl (by rw [HI.out.2.2]; omega) (by unfold maxLen; omega) (by omega) ?_)
  | go_in)
 intro w1 hr0 hg0;have hR:=(hr0.lt W.heap.size rfl)
 have hk1:=hkt.step ((Below.refl (B+2) W).grown hg0 (by omega) (fun k hk=>by cases hk));generalize hRe:W.heap.size=R at *;have hrg:sm w1 (B+2) R len 0 (evR op x):=⟨_,hr0,fun j hj=>by omega⟩
 clear hr0 hg0 hkt c1 c2 c3 c4 c5 c6 c7 c8 c9 c10 c11;go_upto_region 2 with fail
 obtain ⟨c1,c2,c3,c4,c5,c6,c7,c8,c9,c10,c11⟩:=id hk1
 go_upto_block 0 with fail
 go_cut [] (fun wx=>KT w B nn (.slice a len cap) (.slice a2 nn cap2) wx∧sm wx (B+2) R len len (evR op x)∧R<wx.heap.size)
 case first=>
  obtain ⟨c1,c2,c3,c4,c5,c6,c7,c8,c9,c10,c11⟩:=id hk1;go_wp2_with fail
  go_loopw [20] (fun i wr=>∃ j:Nat,j≤len∧i=.int .i64 j∧KT w B nn (.slice a len cap) (.slice a2 nn cap2) wr∧sm wr (B+2) R len j (evR op x)∧R<wr.heap.size) (fun i _=>len-(intOf i).toNat)
  case atStart=>exact ⟨0,by omega,rfl,hk1,hrg,hR.2⟩
  case round=>
   clear hk1 hrg c1 c2 c3 c4 c5 c6 c7 c8 c9 c10 c11;obtain ⟨j,hj,rfl,hk1,⟨rs,hown,hrs⟩,hRs⟩:=hrel;obtain ⟨c1,c2,c3,c4,c5,c6,c7,c8,c9,c10,c11⟩:=id hk1;by_cases hlt:j<len
   ·obtain ⟨b,off,rfl,hbs,hc⟩:=HO.out (by omega);obtain ⟨d1,d2,d3,d4⟩:=hc j hlt;have hbw:Below w.heap.size w wr:=by rw [hB]; exact c11
    have hcl:=(xj hbw).1;rw [← hcl _ _ (by rw [hB]; exact hbs)] at d1 d2 d3 d4;have hst:=HS1.out j hlt;have hcc:=HCS.out j hlt;have hxw:=HX.out.below hbw;have hv:evR op x j=v9 (op j) x (fun i=>(evL op x j).getD i 0):=rfl
    have hcells:∀ i,i<j→∃ y,wr.cell? ⟨R,i,none⟩=some (.float .f64 y)∧zk y=(evL op x j).getD i 0∧y<18446744073709551616:=fun i hi=>by
     obtain ⟨y,y1,y2,y3⟩:=hrs i hi;exact ⟨y,by rw [hown.cellAt i (by omega)]; exact y1,by rw [y2,uE op x hi],y3⟩
    have CALL:=hid fun (W':World) (hb:Below wr.heap.size wr W')=>sj (op j) nn j len x (fun i=>(evL op x j).getD i 0) vx R len W' hst hcc (hxw.below hb) hlt (by omega) (Nat.lt_of_lt_of_le hRs hb.size) (fun i hi=>by
     obtain ⟨y,y1,y2,y3⟩:=hcells i hi;exact ⟨y,by rw [(xj hb).1 _ _ hRs]; exact y1,y2,y3⟩)
    have hv':=hid hv;clear hc hcl hst hcc hxw hv hcells;have hBs:B<wr.heap.size:=by omega
    unfold opV xM at CALL;generalize op j=oj at *;go_wp2_with fail;refine (CALL.out _ ((Below.refl _ _).alloc (Nat.le_refl _) _)).mono ?_;rintro e w2 ⟨y,rfl,hy1,hy2,hb2⟩;have hb3:Below wr.heap.size wr w2:=((Below.refl _ _).alloc (Nat.le_refl _) _).trans (hb2.mono (by simp));have hsz:=hb3.size;have hk2:=hk1.step (hb3.mono (show B+2≤wr.heap.size by omega));have own2:=xB hown hb3;have hlen:=hown.1;obtain ⟨u0,hu0⟩:∃ u,rs[j]? = some u:=⟨_,List.getElem?_eq_getElem (by omega)⟩;have s1:=(own2.cellAt j (by omega)).trans hu0;have s2:=own2.frozenAt j;clear CALL c1 c2 c3 c4 c5 c6 c7 c8 c9 c10 c11 d1 d2 d3 d4 hb2 hb3 hk1 hown;go_wp2_with fail
    go_roundw
    case rel=>exact ⟨j+1,by omega,by go_num,hk2.step ((Below.refl (B+2) w2).setCell (p:=⟨R,j,none⟩) hR.1 _),⟨rs.set j (.float .f64 y),(own2.stored j _).1,fun i hi=>by
      by_cases e:i=j
      ·subst e;exact ⟨y,by rw [List.getElem?_set_self (by omega)],by rw [hy1,hv'.out],hy2⟩
      ·obtain ⟨z,z1,z2,z3⟩:=hrs i (by omega);exact ⟨z,by rw [List.getElem?_set_ne (Ne.symm e)]; exact z1,z2,z3⟩⟩,by simp [World.setCell]; omega⟩
    case measure=>simp [intOf]; omega
   ·obtain rfl:j=len:=by omega
    go_wp2_with fail;go_meet;exact ⟨hk1,⟨rs,hown,hrs⟩,hRs⟩
 case rest=>
  clear hk1 hrg c1 c2 c3 c4 c5 c6 c7 c8 c9 c10 c11;obtain ⟨hk1,⟨rs,hown,hrs⟩,hRs⟩:=hcut;obtain ⟨c1,c2,c3,c4,c5,c6,c7,c8,c9,c10,c11⟩:=id hk1
  go_wp2_with (first
   | (refine wpList_make_full _ rfl _ _ _ rfl wc.heap.size 31 iF (.float .f64 0) 1 Tryz.underlying30 HI0.out HI.out.1 HI.out.2.1 .i64 .i64 (nn:Int) (nn:Int) nn rfl rfl rfl rfl (by rw [HI.out.2.2]; omega) (by unfold maxLen; omega) (by omega) ?_)
   | go_in)
  intro w2 hq0 hg0;have hQ:=(hq0.lt wc.heap.size rfl)
  have hk2:=hk1.step ((Below.refl (B+2) wc).grown hg0 (by omega) (fun k hk=>by cases hk));have own1:=hown.kept hg0 (.inr (by simp [Value.ownBlock]));have hqg:sm w2 wc.heap.size wc.heap.size nn 0 (fun i=>evR op x (out i).toNat):=⟨_,hq0,fun j hj=>by omega⟩
  have hR2:R<w2.heap.size:=by omega
  clear hq0 hg0 hk1 hown c1 c2 c3 c4 c5 c6 c7 c8 c9 c10 c11;generalize wc.heap.size=Q at *;have HRS:=hid hrs;clear hrs;obtain ⟨c1,c2,c3,c4,c5,c6,c7,c8,c9,c10,c11⟩:=id hk2;go_wp2_with fail
  go_loopw [41] (fun i wr=>∃ j:Nat,j≤nn∧i=.int .i64 j∧KT w B nn (.slice a len cap) (.slice a2 nn cap2) wr∧wr.ownsRow (B+2) 31 1 (.slice (some ⟨R,0,none⟩) len len) len rs∧sm wr Q Q nn j (fun i=>evR op x (out i).toNat)∧R<wr.heap.size∧Q<wr.heap.size) (fun i _=>nn-(intOf i).toNat)
  case atStart=>exact ⟨0,by omega,rfl,hk2,own1,hqg,hR2,hQ.2⟩
  case round=>
   clear hk2 own1 hqg c1 c2 c3 c4 c5 c6 c7 c8 c9 c10 c11;obtain ⟨j,hj,rfl,hk1,hown,⟨qs,hqo,hqs⟩,hRs,hQs⟩:=hrel;obtain ⟨c1,c2,c3,c4,c5,c6,c7,c8,c9,c10,c11⟩:=id hk1;by_cases hlt:j<nn
   ·obtain ⟨b,off,rfl,hbs,hc⟩:=HU.out (by omega);have d1:=hc j hlt;have hbw:Below w.heap.size w wr:=by rw [hB]; exact c11
    rw [← (xj hbw).1 _ _ (by rw [hB]; exact hbs)] at d1;obtain ⟨A,hA,hA2⟩:=yu (HS2.out j hlt);obtain ⟨y,y1,y2,y3⟩:=HRS.out A (by omega);have d2:=(hown.cellAt A (by omega)).trans y1;have hlen:=hqo.1;obtain ⟨u0,hu0⟩:∃ u,qs[j]? = some u:=⟨_,List.getElem?_eq_getElem (by omega)⟩;have s1:=(hqo.cellAt j (by omega)).trans hu0;have s2:=hqo.frozenAt j;have hAn:((out j).toNat)=A:=by omega
    rw [hA] at d1;have hRQ:R≠Q:=by omega
    have hQR:=hRQ.symm;clear hc;go_wp2_with fail
    go_roundw
    case rel=>exact ⟨j+1,by omega,by go_num,hk1.step ((Below.refl (B+2) wr).setCell (p:=⟨Q,j,none⟩) (show B+2≤Q by omega) _),yr hown (by simp [Value.ownBlock]; exact hRQ),⟨qs.set j (.float .f64 y),(hqo.stored j _).1,fun i hi=>by
      by_cases e:i=j
      ·subst e;exact ⟨y,by rw [List.getElem?_set_self (by omega)],by rw [y2]; show evR op x A=evR op x (out i).toNat; rw [hAn],y3⟩
      ·obtain ⟨z,z1,z2,z3⟩:=hqs i (by omega);exact ⟨z,by rw [List.getElem?_set_ne (Ne.symm e)]; exact z1,z2,z3⟩⟩,by simp [World.setCell]; omega,by simp [World.setCell]; omega⟩
    case measure=>simp [intOf]; omega
   ·obtain rfl:j=nn:=by omega
    go_wp2_with fail;go_ret;exact ⟨Q,rfl,(show yd wr Q Q j j _ from ⟨qs,hqo,hqs⟩).base (by rw [hB]; omega),by rw [hB]; exact c11⟩
end Go.Proofs.YtnlbafjmbamoeaaGreat
namespace Go.Proofs.YtnlbafjmbamoeaaGreat
open Go.RowKit Lib
open Ieee (double)
def chF (k:Int) (u v q a b:Nat):Nat:=
 if k=2 then cop .add a b else if k=3 then cop .sub a b
 else if k=4 then cop .add (cop .mul a v) (cop .mul u b)
 else cop .quo (cop .sub a (cop .mul q b)) v
def ru (o:OpD) (r:Nat→Nat) (q:Nat) (d:Nat→Nat→Nat) (v:Nat):Nat:=
 if o.k=0 then 0 else if o.k=1 then (if v=o.a.toNat then 4607182418800017408 else 0)
 else chF o.k (r o.a.toNat) (r o.b.toNat) q (d o.a.toNat v) (d o.b.toNat v)
def dvL (op:Nat→OpD) (x:Nat→Nat):Nat→List (Nat→Nat)
 | 0=>[]
 | i+1=>dvL op x i ++ [ru (op i) (evR op x) (evR op x i) fun j=>(dvL op x i).getD j fun _=>0]
def dvR (op:Nat→OpD) (x:Nat→Nat) (j:Nat):Nat→Nat:=ru (op j) (evR op x) (evR op x j) fun i=>(dvL op x j).getD i fun _=>0
theorem nu (op:Nat→OpD) (x:Nat→Nat):∀ i,(dvL op x i).length=i
 | 0=>rfl
 | i+1=>by rw [dvL,List.length_append,nu op x i]; rfl
theorem qo (op:Nat→OpD) (x:Nat→Nat) {j:Nat}:∀ {i:Nat},j<i→(dvL op x i).getD j (fun _=>0)=dvR op x j
 | i+1,h=>by
  have hl:=nu op x i;rw [dvL];by_cases e:j=i
  ·subst e;unfold dvR;simp [List.getD,hl]
  ·have:∀ y,(dvL op x i ++ [y]).getD j (fun _=>0)=(dvL op x i).getD j (fun _=>0):=fun y=>by simp [List.getD,List.getElem?_append_left (show j<(dvL op x i).length by omega)]
   rw [this];exact qo op x (by omega)
theorem mJ (op:Nat→OpD) (x:Nat→Nat) (j:Nat) (h2:(op j).k≠0→(op j).k≠1→(op j).a.toNat<j∧(op j).b.toNat<j):dvR op x j=ru (op j) (evR op x) (evR op x j) (dvR op x):=by
 funext v
 show ru (op j) (evR op x) (evR op x j) (fun i=>(dvL op x j).getD i fun _=>0) v=_;unfold ru;by_cases k0:(op j).k=0
 ·rw [if_pos k0,if_pos k0]
 ·rw [if_neg k0,if_neg k0];by_cases k1:(op j).k=1
  ·rw [if_pos k1,if_pos k1]
  ·obtain ⟨ha,hb⟩:=h2 k0 k1;have ea:=qo op x ha;have eb:=qo op x hb;rw [if_neg k1,if_neg k1];simp only [ea,eb]
theorem mK (op:Nat→OpD) (x:Nat→Nat) (j:Nat) (h2:(op j).k≠0→(op j).k≠1→(op j).a.toNat<j∧(op j).b.toNat<j):evR op x j=v9 (op j) x (evR op x):=by
 show v9 (op j) x (fun i=>(evL op x j).getD i 0)=_;unfold v9;by_cases k0:(op j).k=0
 ·rw [if_pos k0,if_pos k0]
 ·rw [if_neg k0,if_neg k0];by_cases k1:(op j).k=1
  ·rw [if_pos k1,if_pos k1]
  ·obtain ⟨ha,hb⟩:=h2 k0 k1;have ea:=uE op x ha;have eb:=uE op x hb;rw [if_neg k1,if_neg k1];simp only [ea,eb]
end Go.Proofs.YtnlbafjmbamoeaaGreat
namespace Go.Proofs.YtnlbafjmbamoeaaGreat
open Go.RowKit Lib
open Ieee (double)
attribute [local go_sem] zr zi zy zn zU zS zW zX zV zY zD zH zI zJ zK xy
theorem zN (P:Program) (w:World) (a:Addr) (m:Mode) (f:Fn):(store a (.func f #[] #[]) m).run P w=stored P w a (.func f #[] #[]) m:=run_store P w a _ m rfl
attribute [local go_sem] zN
theorem tu (w:World):Calls Tryz.prog 125 #[] w (xf xM w):=by
 unfold xM;go_enter Tryz.func125,Tryz.ntmps125;go_wp2_with fail;refine bodyPost_ret (v:=.agg #[.func (.func 140) #[] #[],.func (.func 141) #[] #[],.func (.func 142) #[] #[],.func (.func 143) #[] #[],.func (.func 144) #[] #[]]) (by simp [results,Tryz.results125,go_sem]) rfl ⟨rfl,(Below.refl _ _).alloc (Nat.le_refl _) _⟩
set_option maxRecDepth 100000
set_option maxHeartbeats 16000000
theorem mL (T:TD) (v vx:Value) (x:Nat→Nat) (w:World) (h:yG w v T) (hck:yq T=true) (hcs:∀ i,i<T.len→(T.op i).c<18446744073709551616) (nn:Nat) (hn:T.n=nn) (hx:wO w vx nn x) :
  Calls Tryz.prog 135 #[xM,v,vx] w (nP nn (fun i=>evR T.op x (T.out i).toNat) w):=by
 have hT:=h;obtain ⟨n,len,op,lo,out⟩:=T;obtain ⟨vo,vu,rfl,⟨a,cap,rfl,hl1,ho⟩,⟨a2,cap2,rfl,hl2,hu⟩⟩:=h;simp only [] at hn;subst hn;have CK:=hid fun (W:World) (hb:Below w.heap.size w W)=>(wu _ _ W (hT.below hb)).mono fun _ _ h=>h.eq (by rw [hck])
 have RN:=hid fun (W:World) (hb:Below w.heap.size w W)=>lI _ _ vx x W (hT.below hb) hck hcs nn rfl (hx.below hb)
 obtain ⟨xa,xcap,rfl,hx1,hx2⟩:=hx;have hkt:=KT.start w (nn:Int) (.slice a len cap) (.slice a2 lo cap2) 158 28;clear ho hu hT hck hcs hx2;unfold xM at *;go_enter Tryz.func135,Tryz.ntmps135;go_upto_region 1 with fail
 generalize hB:w.heap.size=B at *;generalize (w.alloc (.cells #[.func (.func 140) #[] #[],.func (.func 141) #[] #[],.func (.func 142) #[] #[],.func (.func 143) #[] #[],.func (.func 144) #[] #[]] 158)).alloc (.cells #[.int .i64 nn,.slice a len cap,.slice a2 lo cap2] 28)=W at *;obtain ⟨c1,c2,c3,c4,c5,c6,c7,c8,c9,c10,c11⟩:=id hkt;go_wp2_with fail;refine (CK.out _ c11).mono ?_;rintro e w1 ⟨rfl,hb1⟩;have hk1:=hkt.step (hb1.mono (by omega));clear hkt c1 c2 c3 c4 c5 c6 c7 c8 c9 c10 c11 hb1;obtain ⟨c1,c2,c3,c4,c5,c6,c7,c8,c9,c10,c11⟩:=id hk1;go_wp2_with fail;refine (RN.out _ c11).mono ?_;rintro e w2 ⟨R,rfl,hu,hb2⟩;go_wp2_with fail;go_ret;exact ⟨R,rfl,by rw [hB]; exact hu.base (by have:=hu.lt; have:=c11.size; omega),by rw [hB]; exact c11.trans (hb2.mono (by omega))⟩
def EvS (w0:World) (B:Nat) (n:Int) (vo vu:Value) (w':World):Prop:=w'.cell? ⟨B,0,none⟩=some (.int .i64 n)∧w'.cell? ⟨B,1,none⟩=some vo∧w'.cell? ⟨B,2,none⟩=some vu∧B<w'.heap.size∧Below B w0 w'
theorem EvS.below {w0:World} {B:Nat} {n:Int} {vo vu:Value} {w w':World} (h:EvS w0 B n vo vu w) (hb:Below w.heap.size w w'):EvS w0 B n vo vu w':=by
 obtain ⟨h1,h2,h3,h4,h5⟩:=h;obtain ⟨hc,-⟩:=xj hb;have:=hb.size;exact ⟨by rw [hc _ _ h4]; exact h1,by rw [hc _ _ h4]; exact h2,by rw [hc _ _ h4]; exact h3,by omega,h5.trans (hb.mono (by omega))⟩
theorem qV (T:TD) (v vx:Value) (x:Nat→Nat) (w:World) (h:yG w v T) (hck:yq T=true) (hcs:∀ i,i<T.len→(T.op i).c<18446744073709551616) (nn:Nat) (hn:T.n=nn) (hx:wO w vx nn x) :
  Calls Tryz.prog 123 #[v,vx] w (nP nn (fun i=>evR T.op x (T.out i).toNat) w):=by
 have RN0:=fun (W:World) (hb:Below w.heap.size w W)=>mL T v vx x W (h.below hb) hck hcs nn hn (hx.below hb)
 obtain ⟨vo,vu,rfl,⟨a,cap,rfl,hl1,ho⟩,⟨a2,cap2,rfl,hl2,hu⟩⟩:=h;generalize T.n=n at *;generalize T.len=len at *;generalize T.lo=lo at *;have HB:=qm.new n (.slice a len cap) (.slice a2 lo cap2) w 28;have hw:Below w.heap.size w (w.alloc (.cells #[.int .i64 n,.slice a len cap,.slice a2 lo cap2] 28)):=(Below.refl _ _).alloc (Nat.le_refl _) _;have RN:=hid fun (W:World) (hb:EvS w w.heap.size n (.slice a len cap) (.slice a2 lo cap2) W)=>(RN0 W hb.2.2.2.2).mono (R':=fun e w'=>∃ u,e=.returned (.slice (some ⟨u,0,none⟩) nn nn)∧yd w' w.heap.size u nn nn (fun i=>evR T.op x (T.out i).toNat)∧EvS w w.heap.size n (.slice a len cap) (.slice a2 lo cap2) w') fun e w' ⟨u,h1,h2,h3⟩=>⟨u,h1,h2.base (Nat.le_trans hb.2.2.2.2.size h2.lt.1),hb.below h3⟩
 have FL:=hid fun (W:World) (hb:EvS w w.heap.size n (.slice a len cap) (.slice a2 lo cap2) W)=>(tu W).mono (R':=fun e w'=>e=.returned xM∧EvS w w.heap.size n (.slice a len cap) (.slice a2 lo cap2) w') fun e w' ⟨h1,h3⟩=>⟨h1,hb.below h3⟩
 clear ho hu hck hcs hn hx RN0;unfold xM at *;go_enter Tryz.func123,Tryz.ntmps123;go_upto_region 1 with fail
 generalize hB:w.heap.size=B at *;generalize w.alloc (.cells #[.int .i64 n,.slice a len cap,.slice a2 lo cap2] 28)=W at *;obtain ⟨c1,c2,c3,c4⟩:=id HB
 go_region_held3 (fun w'=>w'.cell? ⟨B,0,none⟩=some (.int .i64 n)∧w'.cell? ⟨B,1,none⟩=some (.slice a len cap)∧w'.cell? ⟨B,2,none⟩=some (.slice a2 lo cap2)∧B<w'.heap.size∧Below B w w')
  (first
   | assumption
   | exact ⟨c1,c2,c3,c4,hw.drew⟩)
  (first
   | (go_at_call 125; refine (FL.out _ (by unfold EvS; assumption)).mono ?_; rintro e w1 ⟨rfl,hs1⟩; unfold EvS at hs1)
   | (go_at_call 135; refine (RN.out _ (by unfold EvS; assumption)).mono ?_; rintro e w2 ⟨u,rfl,hu,hs2⟩; unfold EvS at hs2))
 all_goals
  go_wp2_with fail;go_ret;exact ⟨u,rfl,by rw [hB]; exact hu,by rw [hB]; exact hs2.2.2.2.2⟩
end Go.Proofs.YtnlbafjmbamoeaaGreat
namespace Go.Proofs.YtnlbafjmbamoeaaGreat
open Go.RowKit Lib
open Ieee (double)
attribute [local go_sem] zr zi zy zn zU zS zW zX zV zY zD zH zI zJ zK zB ye z8 zF yE
set_option maxRecDepth 100000
set_option maxHeartbeats 16000000
theorem wL (fn:Nat) (cs:Array Value) (n:Nat) (hn:n≤1000) (g:Nat→Nat) (w:World) (hf:∀ v W,(callFunc fn (#[v] ++ cs)).run Tryz.prog W=.ok (.enter fn (#[v] ++ cs)) W)
  (hc:∀ i W,i<n→Below w.heap.size w W→Calls Tryz.prog fn (#[.int .i64 i] ++ cs) W (xY (g i) W)) :
  Calls Tryz.prog 151 #[.int .i64 n,.func (.func fn) #[] cs] w fun e w'=>∃ R,e=.returned (.slice (some ⟨R,0,none⟩) n n)∧yd w' w.heap.size R n n g∧Below w.heap.size w w':=by
 obtain ⟨iF,hF,f1,f2,f3⟩:=info_parts xu;have HF:=hid (show iF.zero=_∧iF.size=_∧iF.bytes=_ from ⟨f1,f2,f3⟩);have HF0:=hid hF;have HC:=hid hc;clear hF f1 f2 f3 hc;go_enter Tryz.func151,Tryz.ntmps151;generalize hB:w.heap.size=B at *
 go_wp2_with (first
  | (refine wpList_make_full _ rfl _ _ _ rfl B 31 iF (.float .f64 0) 1 Tryz.underlying30 HF0.out HF.out.1 HF.out.2.1 .i64 .i64 (n:Int) (n:Int) n rfl rfl rfl rfl (by rw [HF.out.2.2]; omega) (by unfold maxLen; omega) (by omega) ?_)
  | fail)
 intro w2 hr1 hg1;have hb2:Below B w w2:=(Below.refl _ w).grown hg1 (by omega) (fun k hk=>by cases hk);have HO:=hid (yI hr1);clear hr1 hg1;go_wp2_with fail
 go_loopw [11] (fun i wr=>∃ (d:Nat) (h:Nat→Nat),d≤n∧i=.int .i64 d∧yd wr B B n n h∧(∀ k,k<d→h k=g k)∧Below B w wr) (fun i _=>n-(intOf i).toNat)
 case atStart=>exact ⟨0,_,by omega,rfl,HO.out,fun k hk=>by omega,hb2⟩
 case round=>
  clear HO hb2;obtain ⟨d,h,hd,rfl,ho,hh,hbl⟩:=hrel;by_cases hdn:d<n
  ·have CALL:=hid (HC.out d wr hdn hbl);have HO:=hid ho;have HH:=hid hh;have HBL:=hid hbl;clear ho hh hbl;go_wp2_with fail;refine CALL.out.mono ?_;rintro e w' ⟨y,rfl,y1,y2,hb1⟩;have hs:=HBL.out.size;have HO1:=hid (HO.out.below hb1 HO.out.lt.2);obtain ⟨z,z1,-,-⟩:=HO1.out.cell hdn;have r1:=HO1.out.free d;have HB1:=hid (HBL.out.trans (hb1.mono (by omega)));clear hb1;go_wp2_with fail
   go_roundw
   case rel=>exact ⟨d+1,yy h d (g d),by omega,by go_num,HO1.out.set hdn y1 y2,fun k hk=>by
    by_cases hkd:k=d
    ·subst hkd; rw [zL]
    ·rw [zG _ _ hkd]; exact HH.out k (by omega),HB1.out.setCell (p:=⟨B,d,none⟩) (Nat.le_refl _) _⟩
   case measure=>simp [intOf]; omega
  ·obtain rfl:n=d:=by omega
   go_wp2_with fail;go_ret;exact ⟨_,rfl,ho.congr hh,by first | exact hbl | (rw [hB]; exact hbl)⟩
theorem zf {w:World} {b:Nat} {cs:Array Value} {t:TypeId} {fr:Nat × Nat} (h:w.heap[b]? = some (.cells cs t fr)) (o:Nat):w.cell? ⟨b,o,none⟩=cs[o]?:=by simp [World.cell?,h]
theorem zj {w:World} {b:Nat} {o:Obj} (h:w.heap[b]? = some o):b<w.heap.size:=by
 rcases Nat.lt_or_ge b w.heap.size with g | g
 ·exact g
 ·rw [Array.getElem?_eq_none g] at h; cases h
theorem al1 (w:World) (o:Obj):(w.alloc o).heap[w.heap.size]? = some o∧(w.alloc o).heap.size=w.heap.size+1∧Below w.heap.size w (w.alloc o):=⟨heap_alloc_new w o,by simp,(Below.refl _ _).alloc (Nat.le_refl _) _⟩
theorem al2 (w:World) (o p:Obj):((w.alloc o).alloc p).heap[w.heap.size]? = some o∧((w.alloc o).alloc p).heap[w.heap.size+1]? = some p∧((w.alloc o).alloc p).heap.size=w.heap.size+2∧Below w.heap.size w ((w.alloc o).alloc p):=by
 obtain ⟨h1,h2,h3⟩:=al1 w o;obtain ⟨g1,g2,g3⟩:=al1 (w.alloc o) p;rw [h2] at g1 g2;exact ⟨(g3.block _ (by omega)).trans h1,g1,g2,h3.trans (g3.mono (by omega))⟩
theorem al3 (w:World) (o p q:Obj):(((w.alloc o).alloc p).alloc q).heap[w.heap.size]? = some o∧(((w.alloc o).alloc p).alloc q).heap[w.heap.size+1]? = some p∧(((w.alloc o).alloc p).alloc q).heap[w.heap.size+2]? = some q∧(((w.alloc o).alloc p).alloc q).heap.size=w.heap.size+3∧Below w.heap.size w (((w.alloc o).alloc p).alloc q):=by
 obtain ⟨h1,h2,h3,h4⟩:=al2 w o p;obtain ⟨g1,g2,g3⟩:=al1 ((w.alloc o).alloc p) q;rw [h3] at g1 g2;exact ⟨(g3.block _ (by omega)).trans h1,(g3.block _ (by omega)).trans h2,g1,g2,h4.trans (g3.mono (by omega))⟩
theorem zg {w:World} {b:Nat} {cs:Array Value} {t:TypeId} (h:w.heap[b]? = some (.cells cs t)) (o:Nat):w.frozen? ⟨b,o,none⟩=false:=by simp [World.frozen?,h]
def KB (K:Nat) (w:World):Prop:=
 w.cell? ⟨K,0,none⟩=some (.func (.func 140) #[] #[])∧w.cell? ⟨K,1,none⟩=some (.func (.func 141) #[] #[])∧w.cell? ⟨K,2,none⟩=some (.func (.func 142) #[] #[])∧w.cell? ⟨K,3,none⟩=some (.func (.func 143) #[] #[])∧w.cell? ⟨K,4,none⟩=some (.func (.func 144) #[] #[])∧K<w.heap.size
theorem KB.below {K:Nat} {w w':World} (h:KB K w) (hb:Below w.heap.size w w'):KB K w':=by
 obtain ⟨h1,h2,h3,h4,h5,h6⟩:=h;obtain ⟨hc,-⟩:=zA hb;have:=hb.size;exact ⟨by rw [hc _ _ h6]; exact h1,by rw [hc _ _ h6]; exact h2,by rw [hc _ _ h6]; exact h3,by rw [hc _ _ h6]; exact h4,by rw [hc _ _ h6]; exact h5,by omega⟩
def CB (N:Nat) (v:Value) (w:World):Prop:=w.cell? ⟨N,0,none⟩=some v∧N<w.heap.size
theorem CB.below {N:Nat} {v:Value} {w w':World} (h:CB N v w) (hb:Below w.heap.size w w'):CB N v w':=by
 obtain ⟨h1,h6⟩:=h;have:=hb.size;exact ⟨by rw [(zA hb).1 _ _ h6]; exact h1,by omega⟩
def DB (A y:Nat) (v:Value) (w:World):Prop:=w.cell? ⟨A,0,none⟩=some (.float .f64 y)∧w.cell? ⟨A,1,none⟩=some v∧A<w.heap.size
theorem DB.below {A y:Nat} {v:Value} {w w':World} (h:DB A y v w) (hb:Below w.heap.size w w'):DB A y v w':=by
 obtain ⟨h1,h2,h6⟩:=h;obtain ⟨hc,-⟩:=zA hb;have:=hb.size;exact ⟨by rw [hc _ _ h6]; exact h1,by rw [hc _ _ h6]; exact h2,by omega⟩
theorem DB.of {A y:Nat} {v:Value} {t:TypeId} {w:World} (h:w.heap[A]? = some (.cells #[.float .f64 y,v] t)):DB A y v w:=⟨by rw [zf h]; rfl,by rw [zf h]; rfl,zj h⟩
theorem CB.of {A:Nat} {v:Value} {t:TypeId} {w:World} (h:w.heap[A]? = some (.cells #[v] t)):CB A v w:=⟨by rw [zf h]; rfl,zj h⟩
theorem oA (i K:Nat) (w:World) (hk:KB K w):Calls Tryz.prog 152 #[.int .i64 i,.pointer (some ⟨K,0,none⟩)] w (xY 0 w):=by
 obtain ⟨k0,k1,k2,k3,k4,k5⟩:=hk;go_enter Tryz.func152,Tryz.ntmps152;go_wp2_with fail;refine (vJ 0 _).mono ?_;rintro e w' ⟨rfl,rfl⟩;go_wp2_with fail;go_ret;exact ⟨0,rfl,rfl,by decide,Below.refl _ _⟩
theorem oB (v i K I:Nat) (w:World) (hk:KB K w) (hi:CB I (.int .i64 i) w):Calls Tryz.prog 162 #[.int .i64 v,.pointer (some ⟨I,0,none⟩),.pointer (some ⟨K,0,none⟩)] w (xY (if v=i then 4607182418800017408 else 0) w):=by
 obtain ⟨k0,k1,k2,k3,k4,k5⟩:=hk;obtain ⟨i0,i1⟩:=hi;go_enter Tryz.func162,Tryz.ntmps162;by_cases h:v=i
 ·subst h;rw [if_pos rfl];go_wp2_with fail;refine (vJ _ _).mono ?_;rintro e w' ⟨rfl,rfl⟩;go_wp2_with fail;go_ret;exact ⟨_,rfl,by decide,by decide,Below.refl _ _⟩
 ·have hne:((v:Int)==(i:Int))=false:=by simp; omega
  rw [if_neg h];go_wp2_with fail;refine (vJ 0 _).mono ?_;rintro e w' ⟨rfl,rfl⟩;go_wp2_with fail;go_ret;exact ⟨_,rfl,by decide,by decide,Below.refl _ _⟩
theorem oC (i K A B n:Nat) (y z:Nat) (va vb:Value) (f g:Nat→Nat) (w:World) (hi:i<n) (hk:KB K w) (ha:DB A y va w) (hb:DB B z vb w) (hf:zT w va n f) (hg:zT w vb n g) :
  Calls Tryz.prog 154 #[.int .i64 i,.pointer (some ⟨K,0,none⟩),.pointer (some ⟨A,0,none⟩),.pointer (some ⟨B,0,none⟩)] w (xY (cop .add (f i) (g i)) w):=by
 obtain ⟨k0,k1,k2,k3,k4,k5⟩:=hk;obtain ⟨a0,a1,a2⟩:=ha;obtain ⟨b0,b1,b2⟩:=hb;obtain ⟨pa,ca,rfl,hn,har⟩:=hf;obtain ⟨pb,cb,rfl,-,hbr⟩:=hg;obtain ⟨q1,o1,rfl,hs1,hc1⟩:=har (by omega);obtain ⟨q2,o2,rfl,hs2,hc2⟩:=hbr (by omega);obtain ⟨u,u1,u2,u3⟩:=hc1 i hi;obtain ⟨v,v1,v2,v3⟩:=hc2 i hi;have K1:=hid (show cop .add (f i) (g i)=cop .add u v by rw [← u2,← v2,zE,zC]);clear har hbr hc1 hc2 u2 v2;go_enter Tryz.func154,Tryz.ntmps154;go_wp2_with fail;refine zw [(0,1),(1,2),(2,1),(3,2),(4,1),(5,1),(6,2),(7,1),(8,2),(9,1),(10,1),(11,2),(12,0),(13,1)] (by kernel_rfl) (by kernel_rfl) (fun _ _ d _ _ h=>by cases d<;>exact h) ?_;intro Z hZ;have hz:∀ b o,Z.cell? ⟨b,o,none⟩=w.cell? ⟨b,o,none⟩:=fun b o=>by rw [hZ]; rfl
 have HZ:=hid (show Below w.heap.size w Z by rw [hZ]; exact (Below.refl _ _).drew);rw [← hz] at k0 k1 k2 k3 k4 a0 a1 b0 b1 u1 v1;clear hZ hz
 iterate 12
  first
   | refine zd (fun K hK=>?_)
   | refine ze (fun K hK=>?_)
  go_simp;refine hK _ ?_;clear hK K
 refine zx (fun K hK=>?_);go_simp;refine (uC u v _).mono ?_;rintro e w' ⟨x,m,rfl,x1,x2,rfl⟩;refine hK _ _ (fun _=>⟨m,rfl⟩) ?_;clear hK K
 iterate 1
  first
   | refine zd (fun K hK=>?_)
   | refine ze (fun K hK=>?_)
  go_simp;refine hK _ ?_;clear hK K
 refine zo ?_;go_wp2_with fail;go_ret;exact ⟨x,rfl,by rw [x1,K1.out],x2,yc HZ.out _⟩
theorem oD (i K A B n:Nat) (y z:Nat) (va vb:Value) (f g:Nat→Nat) (w:World) (hi:i<n) (hk:KB K w) (ha:DB A y va w) (hb:DB B z vb w) (hf:zT w va n f) (hg:zT w vb n g) :
  Calls Tryz.prog 156 #[.int .i64 i,.pointer (some ⟨K,0,none⟩),.pointer (some ⟨A,0,none⟩),.pointer (some ⟨B,0,none⟩)] w (xY (cop .sub (f i) (g i)) w):=by
 obtain ⟨k0,k1,k2,k3,k4,k5⟩:=hk;obtain ⟨a0,a1,a2⟩:=ha;obtain ⟨b0,b1,b2⟩:=hb;obtain ⟨pa,ca,rfl,hn,har⟩:=hf;obtain ⟨pb,cb,rfl,-,hbr⟩:=hg;obtain ⟨q1,o1,rfl,hs1,hc1⟩:=har (by omega);obtain ⟨q2,o2,rfl,hs2,hc2⟩:=hbr (by omega);obtain ⟨u,u1,u2,u3⟩:=hc1 i hi;obtain ⟨v,v1,v2,v3⟩:=hc2 i hi;have K1:=hid (show cop .sub (f i) (g i)=cop .sub u v by rw [← u2,← v2,zE,zC]);clear har hbr hc1 hc2 u2 v2;go_enter Tryz.func156,Tryz.ntmps156;go_wp2_with fail;refine zw [(0,1),(1,2),(2,1),(3,2),(4,1),(5,1),(6,2),(7,1),(8,2),(9,1),(10,1),(11,2),(12,0),(13,1)] (by kernel_rfl) (by kernel_rfl) (fun _ _ d _ _ h=>by cases d<;>exact h) ?_;intro Z hZ;have hz:∀ b o,Z.cell? ⟨b,o,none⟩=w.cell? ⟨b,o,none⟩:=fun b o=>by rw [hZ]; rfl
 have HZ:=hid (show Below w.heap.size w Z by rw [hZ]; exact (Below.refl _ _).drew);rw [← hz] at k0 k1 k2 k3 k4 a0 a1 b0 b1 u1 v1;clear hZ hz
 iterate 12
  first
   | refine zd (fun K hK=>?_)
   | refine ze (fun K hK=>?_)
  go_simp;refine hK _ ?_;clear hK K
 refine zx (fun K hK=>?_);go_simp;refine (uD u v _).mono ?_;rintro e w' ⟨x,m,rfl,x1,x2,rfl⟩;refine hK _ _ (fun _=>⟨m,rfl⟩) ?_;clear hK K
 iterate 1
  first
   | refine zd (fun K hK=>?_)
   | refine ze (fun K hK=>?_)
  go_simp;refine hK _ ?_;clear hK K
 refine zo ?_;go_wp2_with fail;go_ret;exact ⟨x,rfl,by rw [x1,K1.out],x2,yc HZ.out _⟩
theorem oE (i K A B n:Nat) (y z:Nat) (va vb:Value) (f g:Nat→Nat) (w:World) (hi:i<n) (hk:KB K w) (ha:DB A y va w) (hb:DB B z vb w) (hf:zT w va n f) (hg:zT w vb n g) :
  Calls Tryz.prog 158 #[.int .i64 i,.pointer (some ⟨K,0,none⟩),.pointer (some ⟨A,0,none⟩),.pointer (some ⟨B,0,none⟩)] w (xY (cop .add (cop .mul (f i) (zk z)) (cop .mul (zk y) (g i))) w):=by
 obtain ⟨k0,k1,k2,k3,k4,k5⟩:=hk;obtain ⟨a0,a1,a2⟩:=ha;obtain ⟨b0,b1,b2⟩:=hb;obtain ⟨pa,ca,rfl,hn,har⟩:=hf;obtain ⟨pb,cb,rfl,-,hbr⟩:=hg;obtain ⟨q1,o1,rfl,hs1,hc1⟩:=har (by omega);obtain ⟨q2,o2,rfl,hs2,hc2⟩:=hbr (by omega);obtain ⟨u,u1,u2,u3⟩:=hc1 i hi;obtain ⟨v,v1,v2,v3⟩:=hc2 i hi;have K1:=hid (show cop .add (cop .mul (f i) (zk z)) (cop .mul (zk y) (g i))=cop .add (cop .mul u z) (cop .mul y v) by rw [← u2,← v2]; simp only [zE,zC]);clear har hbr hc1 hc2 u2 v2;go_enter Tryz.func158,Tryz.ntmps158;go_wp2_with fail;refine zw [(0,1),(1,2),(2,1),(3,2),(4,1),(5,2),(6,1),(7,1),(8,2),(9,1),(10,2),(12,1),(13,2),(14,1),(15,2),(16,1),(17,2),(18,1),(19,1),(20,2),(11,0),(21,0),(22,0),(23,1)] (by kernel_rfl) (by kernel_rfl) (fun _ _ d _ _ h=>by cases d<;>exact h) ?_;intro Z hZ;have hz:∀ b o,Z.cell? ⟨b,o,none⟩=w.cell? ⟨b,o,none⟩:=fun b o=>by rw [hZ]; rfl
 have HZ:=hid (show Below w.heap.size w Z by rw [hZ]; exact (Below.refl _ _).drew);rw [← hz] at k0 k1 k2 k3 k4 a0 a1 b0 b1 u1 v1;clear hZ hz
 iterate 20
  first
   | refine zd (fun K hK=>?_)
   | refine ze (fun K hK=>?_)
  go_simp;refine hK _ ?_;clear hK K
 refine zx (fun K hK=>?_);go_simp;refine (vK u z _).mono ?_;rintro e w' ⟨s,m,rfl,s1,s2,rfl⟩;refine hK _ _ (fun _=>⟨m,rfl⟩) ?_;clear hK K;refine zx (fun K hK=>?_);go_simp;refine (vK y v _).mono ?_;rintro e w' ⟨t,m2,rfl,t1,t2,rfl⟩;refine hK _ _ (fun _=>(xp.more ⟨m,rfl⟩ m2)) ?_;clear hK K;refine zx (fun K hK=>?_);go_simp;refine (uC s t _).mono ?_;rintro e w' ⟨x,m3,rfl,x1,x2,rfl⟩;refine hK _ _ (fun _=>(xp.more ⟨m+m2,rfl⟩ m3)) ?_;clear hK K
 iterate 1
  first
   | refine zd (fun K hK=>?_)
   | refine ze (fun K hK=>?_)
  go_simp;refine hK _ ?_;clear hK K
 refine zo ?_;go_wp2_with fail;go_ret;exact ⟨x,rfl,by rw [x1,K1.out,← s1,← t1,zE,zC],x2,yc (yc HZ.out _) _⟩
theorem oF (i K A B Q n:Nat) (y z q:Nat) (va vb:Value) (f g:Nat→Nat) (w:World) (hi:i<n) (hk:KB K w) (ha:DB A y va w) (hb:DB B z vb w) (hq:CB Q (.float .f64 q) w) (hf:zT w va n f) (hg:zT w vb n g) :
  Calls Tryz.prog 160 #[.int .i64 i,.pointer (some ⟨K,0,none⟩),.pointer (some ⟨A,0,none⟩),.pointer (some ⟨Q,0,none⟩),.pointer (some ⟨B,0,none⟩)] w (xY (cop .quo (cop .sub (f i) (cop .mul (zk q) (g i))) (zk z)) w):=by
 obtain ⟨k0,k1,k2,k3,k4,k5⟩:=hk;obtain ⟨a0,a1,a2⟩:=ha;obtain ⟨b0,b1,b2⟩:=hb;obtain ⟨c0,c1⟩:=hq;obtain ⟨pa,ca,rfl,hn,har⟩:=hf;obtain ⟨pb,cb,rfl,-,hbr⟩:=hg;obtain ⟨q1,o1,rfl,hs1,hc1⟩:=har (by omega);obtain ⟨q2,o2,rfl,hs2,hc2⟩:=hbr (by omega);obtain ⟨u,u1,u2,u3⟩:=hc1 i hi;obtain ⟨v,v1,v2,v3⟩:=hc2 i hi;have K1:=hid (show cop .quo (cop .sub (f i) (cop .mul (zk q) (g i))) (zk z)=cop .quo (cop .sub u (cop .mul q v)) z by rw [← u2,← v2]; simp only [zE,zC]);clear har hbr hc1 hc2 u2 v2;go_enter Tryz.func160,Tryz.ntmps160;go_wp2_with fail;refine zw [(0,1),(1,2),(2,1),(3,2),(4,1),(5,2),(6,1),(7,1),(8,2),(9,1),(10,2),(11,2),(12,1),(13,2),(14,1),(15,1),(16,2),(19,1),(20,2),(17,0),(18,0),(21,0),(22,1)] (by kernel_rfl) (by kernel_rfl) (fun _ _ d _ _ h=>by cases d<;>exact h) ?_;intro Z hZ;have hz:∀ b o,Z.cell? ⟨b,o,none⟩=w.cell? ⟨b,o,none⟩:=fun b o=>by rw [hZ]; rfl
 have HZ:=hid (show Below w.heap.size w Z by rw [hZ]; exact (Below.refl _ _).drew);rw [← hz] at k0 k1 k2 k3 k4 a0 a1 b0 b1 c0 u1 v1;clear hZ hz
 iterate 19
  first
   | refine zd (fun K hK=>?_)
   | refine ze (fun K hK=>?_)
  go_simp;refine hK _ ?_;clear hK K
 refine zx (fun K hK=>?_);go_simp;refine (vK q v _).mono ?_;rintro e w' ⟨s,m,rfl,s1,s2,rfl⟩;refine hK _ _ (fun _=>⟨m,rfl⟩) ?_;clear hK K;refine zx (fun K hK=>?_);go_simp;refine (uD u s _).mono ?_;rintro e w' ⟨t,m2,rfl,t1,t2,rfl⟩;refine hK _ _ (fun _=>(xp.more ⟨m,rfl⟩ m2)) ?_;clear hK K;refine zx (fun K hK=>?_);go_simp;refine (tN t z _).mono ?_;rintro e w' ⟨x,m3,rfl,x1,x2,rfl⟩;refine hK _ _ (fun _=>(xp.more ⟨m+m2,rfl⟩ m3)) ?_;clear hK K
 iterate 1
  first
   | refine zd (fun K hK=>?_)
   | refine ze (fun K hK=>?_)
  go_simp;refine hK _ ?_;clear hK K
 refine zo ?_;go_wp2_with fail;go_ret;exact ⟨x,rfl,by rw [x1,K1.out,← zE,t1,← s1,zC],x2,yc (yc HZ.out _) _⟩
end Go.Proofs.YtnlbafjmbamoeaaGreat
namespace Go.Proofs.YtnlbafjmbamoeaaGreat
open Go.RowKit Lib
open Ieee (double)
structure zM (X:World) (q:Nat) (W:World):Prop where
 out:Below 0 X W
 block:∀ k,k<X.heap.size→k≠q→W.heap[k]? = X.heap[k]?
theorem zM.refl (X:World) (q:Nat):zM X q X:=⟨Below.refl _ _,fun _ _ _=>rfl⟩
theorem zM.size {X:World} {q:Nat} {W:World} (h:zM X q W):X.heap.size≤W.heap.size:=h.out.size
theorem zM.drewN {X:World} {q:Nat} {W:World} (h:zM X q W) (n:Nat):zM X q (W.drewN n):=⟨below_drewN h.out n,h.block⟩
theorem zM.drew {X:World} {q:Nat} {W:World} (h:zM X q W):zM X q W.drew:=h.drewN 1
theorem zM.step {X:World} {q:Nat} {W W':World} (h:zM X q W) (hb:Below W.heap.size W W'):zM X q W':=
 ⟨h.out.trans (hb.mono (Nat.zero_le _)),fun k hk hn=>(hb.block k (Nat.lt_of_lt_of_le hk h.size)).trans (h.block k hk hn)⟩
theorem zM.set {X:World} {q:Nat} {W:World} (h:zM X q W) (o:Nat) (v:Value):zM X q (W.setCell ⟨q,o,none⟩ v):=
 ⟨h.out.setCell (Nat.zero_le _) v,fun k hk hn=>(Below.heap_setCell _ _ _ _ hn).trans (h.block k hk hn)⟩
theorem zM.set2 {X:World} {q:Nat} {W:World} (h:zM X q W) {p:Addr} (hp:p.block=q) (v:Value):zM X q (W.setCell p v):=
 ⟨h.out.setCell (Nat.zero_le _) v,fun k hk hn=>(Below.heap_setCell _ _ _ _ (by rw [hp]; exact hn)).trans (h.block k hk hn)⟩
theorem zM.cell {X:World} {q:Nat} {W:World} (h:zM X q W) {b:Nat} (hb:b<X.heap.size) (hn:b≠q) (o:Nat):W.cell? ⟨b,o,none⟩=X.cell? ⟨b,o,none⟩:=World.cell?_of_block (a:=⟨b,o,none⟩) (h.block b hb hn)
theorem zM.free {X:World} {q:Nat} {W:World} (h:zM X q W) {b:Nat} (hb:b<X.heap.size) (hn:b≠q) (o:Nat):W.frozen? ⟨b,o,none⟩=X.frozen? ⟨b,o,none⟩:=World.frozen?_of_block (a:=⟨b,o,none⟩) (h.block b hb hn)
theorem zM.below {X:World} {q:Nat} {W:World} (h:zM X q W) {B:Nat} {w:World} (hb:Below B w X) (hq:B≤q) (hs:B≤X.heap.size):Below B w W:=
 ⟨h.out.os.trans hb.os,h.out.tape.trans hb.tape,h.out.output.trans hb.output,Nat.le_trans hb.size h.out.size,fun k hk=>(h.block k (by omega) (by omega)).trans (hb.block k hk)⟩
theorem zT.keep {X W:World} {q:Nat} {v:Value} {n:Nat} {f:Nat→Nat} {w:World} (hk:zM X q W) (hb:Below w.heap.size w X) (hq:w.heap.size≤q) (h:zT w v n f):zT W v n f:=h.below (hk.below hb hq hb.size)
theorem zT.keepB {X W:World} {q:Nat} {v:Value} {n:Nat} {f:Nat→Nat} {w:World} {B:Nat} (h:zT w v n f) (hB:w.heap.size=B) (hk:zM X q W) (hb:Below B w X) (hq:B≤q):zT W v n f:=by
 subst hB;exact zT.keep hk hb hq h
theorem KB.keep {X W:World} {q K:Nat} (hk:zM X q W) (hn:K≠q) (h:KB K X):KB K W:=by
 obtain ⟨h1,h2,h3,h4,h5,h6⟩:=h;have:=hk.size;exact ⟨by rw [hk.cell h6 hn]; exact h1,by rw [hk.cell h6 hn]; exact h2,by rw [hk.cell h6 hn]; exact h3,by rw [hk.cell h6 hn]; exact h4,by rw [hk.cell h6 hn]; exact h5,by omega⟩
theorem CB.keep {X W:World} {q K:Nat} {v:Value} (hk:zM X q W) (hn:K≠q) (h:CB K v X):CB K v W:=by
 obtain ⟨h1,h6⟩:=h;have:=hk.size;exact ⟨by rw [hk.cell h6 hn]; exact h1,by omega⟩
theorem DB.keep {X W:World} {q K y:Nat} {v:Value} (hk:zM X q W) (hn:K≠q) (h:DB K y v X):DB K y v W:=by
 obtain ⟨h1,h2,h6⟩:=h;have:=hk.size;exact ⟨by rw [hk.cell h6 hn]; exact h1,by rw [hk.cell h6 hn]; exact h2,by omega⟩
end Go.Proofs.YtnlbafjmbamoeaaGreat
namespace Go.Proofs.YtnlbafjmbamoeaaGreat
open Go.RowKit Lib
open Ieee (double)
attribute [local go_sem] zr zi zy zn zU zS zW zX zV zY zD zH zI zJ zK xy
theorem EvS.step {w0:World} {B:Nat} {n:Int} {vo vu:Value} {w w':World} (h:EvS w0 B n vo vu w) (hb:Below (B+1) w w'):EvS w0 B n vo vu w':=by
 obtain ⟨h1,h2,h3,h4,h5⟩:=h;have hc:∀ b o,b<B+1→w'.cell? ⟨b,o,none⟩=w.cell? ⟨b,o,none⟩:=fun b o h=>hb.cell (p:=⟨b,o,none⟩) h
 have:=hb.size;exact ⟨by rw [hc _ _ (by omega)]; exact h1,by rw [hc _ _ (by omega)]; exact h2,by rw [hc _ _ (by omega)]; exact h3,by omega,h5.trans (hb.mono (by omega))⟩
theorem EvS.start (w:World) (n:Int) (vo vu:Value) (t:TypeId):EvS w w.heap.size n vo vu (w.alloc (.cells #[.int .i64 n,vo,vu] t)):=by
 refine ⟨?_,?_,?_,by simp,(Below.refl _ _).alloc (Nat.le_refl _) _⟩
 all_goals (rw [World.cell?_alloc_new]; rfl)
theorem sm.below {w w':World} {H R len i:Nat} {f:Nat→Nat} (h:sm w H R len i f) (hb:Below w.heap.size w w'):sm w' H R len i f:=by
 obtain ⟨rs,h1,h2⟩:=h;exact ⟨rs,xB h1 hb,h2⟩
set_option maxRecDepth 100000
set_option maxHeartbeats 16000000
theorem uM (T:TD) (v vx:Value) (x:Nat→Nat) (w:World) (h:yG w v T) (hck:yq T=true) (hcs:∀ i,i<T.len→(T.op i).c<18446744073709551616) (nn:Nat) (hn:T.n=nn) (hx:wO w vx nn x) :
  Calls Tryz.prog 59 #[v,vx] w fun e w'=>∃ u,e=.returned u∧wO w' u T.lo (fun i=>evR T.op x (T.out i).toNat)∧Below w.heap.size w w':=by
 obtain ⟨n,len,op,lo,out⟩:=T;obtain ⟨vo,vu,rfl,⟨a,cap,rfl,hl1,ho⟩,⟨a2,cap2,rfl,hl2,hu⟩⟩:=h;unfold yq at hck;simp only [Bool.and_eq_true,decide_eq_true_eq] at hck hcs hn ho hu hl1 hl2 ⊢;subst hn;obtain ⟨⟨q1,q2,q3,q4⟩,hs1,hs2⟩:=hck;obtain rfl:nn=lo:=by omega
 clear q4;have HS1:=hid (xw.1 hs1);have HS2:=hid (xw.1 hs2);have HCS:=hid hcs;have HO:=hid ho;have HU:=hid hu;have HX:=hid hx;obtain ⟨iF,hi,hz0,hz1,hz2⟩:=info_parts mI;have HI:=hid (show iF.zero=_∧iF.size=_∧iF.bytes=_ from ⟨hz0,hz1,hz2⟩);have HI0:=hid hi;have hkt:=EvS.start w (nn:Int) (.slice a len cap) (.slice a2 nn cap2) 28;obtain ⟨xa,xcap,rfl,hx1,-⟩:=id hx;clear hs1 hs2 hcs ho hu hx hz0 hz1 hz2 hi;go_enter Tryz.func59,Tryz.ntmps59;go_upto_region 1 with fail
 generalize hB:w.heap.size=B at *;generalize w.alloc (.cells #[.int .i64 nn,.slice a len cap,.slice a2 nn cap2] 28)=W at *;obtain ⟨c1,c2,c3,c4,c5⟩:=id hkt
 go_wp2_with (first
  | (refine wpList_make_full _ rfl _ _ _ rfl (B+1) 31 iF (.float .f64 0) 1 Tryz.underlying30 HI0.out HI.out.1 HI.out.2.1 .i64 .i64 (len:Int) (len:Int) len rfl rfl rfl rfl (by rw [HI.out.2.2]; omega) (by unfold maxLen; omega) (by omega) ?_)
  | go_in)
 intro w1 hr0 hg0;have hR:=(hr0.lt W.heap.size rfl)
 have hk1:=hkt.step ((Below.refl (B+1) W).grown hg0 (by omega) (fun k hk=>by cases hk));generalize hRe:W.heap.size=R at *;have hrg:sm w1 (B+1) R len 0 (evR op x):=⟨_,hr0,fun j hj=>by omega⟩
 clear hr0 hg0 hkt c1 c2 c3 c4 c5;go_upto_region 2 with fail
 obtain ⟨c1,c2,c3,c4,c5⟩:=id hk1
 go_upto_block 0 with fail
 go_cut [] (fun wx=>EvS w B nn (.slice a len cap) (.slice a2 nn cap2) wx∧sm wx (B+1) R len len (evR op x)∧R<wx.heap.size)
 case first=>
  go_wp2_with fail
  go_loopw [6] (fun i wr=>∃ j:Nat,j≤len∧i=.int .i64 j∧EvS w B nn (.slice a len cap) (.slice a2 nn cap2) wr∧sm wr (B+1) R len j (evR op x)∧R<wr.heap.size) (fun i _=>len-(intOf i).toNat)
  case atStart=>exact ⟨0,by omega,rfl,hk1,hrg,hR.2⟩
  case round=>
   clear hk1 hrg c1 c2 c3 c4 c5;obtain ⟨j,hj,rfl,hk1,⟨rs,hown,hrs⟩,hRs⟩:=hrel;obtain ⟨c1,c2,c3,c4,c5⟩:=id hk1;by_cases hlt:j<len
   ·obtain ⟨b,off,rfl,hbs,hc⟩:=HO.out (by omega);obtain ⟨d1,d2,d3,d4⟩:=hc j hlt;have hbw:Below w.heap.size w wr:=by rw [hB]; exact c5
    have hcl:=(xj hbw).1;rw [← hcl _ _ (by rw [hB]; exact hbs)] at d1 d2 d3 d4;have hst:=HS1.out j hlt;have hcc:=HCS.out j hlt;have hxw:=HX.out.below hbw;have hv:evR op x j=v9 (op j) x (fun i=>(evL op x j).getD i 0):=rfl;have hlen:=hown.1;obtain ⟨u0,hu0⟩:∃ u,rs[j]? = some u:=⟨_,List.getElem?_eq_getElem (by omega)⟩;have s1:=(hown.cellAt j (by omega)).trans hu0;have s2:=hown.frozenAt j;have hRX:R≠wr.heap.size:=by omega
    have hXR:=hRX.symm;generalize op j=oj at *;obtain ⟨k,ka,kb,kc⟩:=oj;unfold xg at hst;simp only [] at d1 d2 d3 d4 hst hcc
    have rel:∀ (w':World) (y:Nat),Below wr.heap.size wr w'→zk y=v9 ⟨k,ka,kb,kc⟩ x (fun i=>(evL op x j).getD i 0)→y<18446744073709551616→sm (w'.setCell ⟨R,j,none⟩ (.float .f64 y)) (B+1) R len (j+1) (evR op x):=fun w' y hb hy hy2=>
     ⟨rs.set j (.float .f64 y),((xB hown hb).stored j _).1,fun i hi=>by
      by_cases e:i=j
      ·subst e;exact ⟨y,by rw [List.getElem?_set_self (by omega)],by rw [hy,hv],hy2⟩
      ·obtain ⟨z,z1,z2,z3⟩:=hrs i (by omega);exact ⟨z,by rw [List.getElem?_set_ne (Ne.symm e)]; exact z1,z2,z3⟩⟩
    have REL:=hid rel;clear rel;by_cases k0:k=0
    ·subst k0;clear hv hc hcl hst hxw;go_wp2_with fail
     go_roundw
     case rel=>exact ⟨j+1,by omega,by go_num,hk1.step (((Below.refl (B+1) wr).setCell (p:=⟨R,j,none⟩) hR.1 _).alloc (by simp [World.setCell]; omega) _),(REL.out wr kc (Below.refl _ _) rfl hcc).below ((Below.refl _ _).alloc (Nat.le_refl _) _),by simp [World.setCell]; omega⟩
     case measure=>simp [intOf]; omega
    ·by_cases k1:k=1
     ·subst k1;simp only [if_neg k0,if_true,Bool.and_eq_true] at hst;obtain ⟨A,rfl,hA⟩:=yu hst.1;obtain ⟨xa',xcap',hxe,-,hx2⟩:=hxw;simp only [Value.slice.injEq] at hxe;obtain ⟨rfl,-,rfl⟩:=hxe;obtain ⟨xb,xo,rfl,hxs,hxc⟩:=hx2 (by omega);obtain ⟨y,y1,y2,y3⟩:=hxc A (by omega);clear hv hc hcl hst hxc hx2 k0;go_wp2_with fail
      go_roundw
      case rel=>exact ⟨j+1,by omega,by go_num,hk1.step (((Below.refl (B+1) wr).setCell (p:=⟨R,j,none⟩) hR.1 _).alloc (by simp [World.setCell]; omega) _),(REL.out wr y (Below.refl _ _) y2 y3).below ((Below.refl _ _).alloc (Nat.le_refl _) _),by simp [World.setCell]; omega⟩
      case measure=>simp [intOf]; omega
     ·have hk:2≤k∧k≤5:=by
       rw [if_neg k0,if_neg k1] at hst;by_cases h:2≤k∧k≤5
       ·exact h
       ·rw [if_neg h] at hst; cases hst
      rw [if_neg k0,if_neg k1,if_pos hk] at hst;simp only [Bool.and_eq_true] at hst;obtain ⟨A,rfl,hA⟩:=yu hst.1;obtain ⟨A2,rfl,hA2⟩:=yu hst.2.1;obtain ⟨u1,hu1,hu2,hu3⟩:=hrs A (by omega);obtain ⟨u2,hv1,hv2,hv3⟩:=hrs A2 (by omega);have y1:=(hown.cellAt A (by omega)).trans hu1;have y2:=(hown.cellAt A2 (by omega)).trans hv1
      have E:opF k u1 u2=v9 ⟨k,A,A2,kc⟩ x (fun i=>(evL op x j).getD i 0):=by
       unfold v9;simp only [];rw [if_neg k0,if_neg k1,Int.toNat_natCast,Int.toNat_natCast,uE op x (show A<j by omega),uE op x (show A2<j by omega),← hu2,← hv2];unfold opF;simp only [zE,zC]
      have HE:=hid E;have ON:=hid fun W=>nO k u1 u2 W
      clear E hv hc hcl hst hu1 hv1 hu2 hv2 hxw hk;have hb1:Below wr.heap.size wr (wr.alloc (.cells #[.int .i64 k,.int .i64 A,.int .i64 A2,.float .f64 kc] 66)):=(Below.refl _ _).alloc (Nat.le_refl _) _;have box:=qR.new ⟨k,A,A2,kc⟩ wr 66;have y1':=((xj hb1).1 R A hRs).trans y1;have y2':=((xj hb1).1 R A2 hRs).trans y2;have s1':=((xj hb1).1 R j hRs).trans s1;have s2':=((xj hb1).2 R j hRs).trans s2;have a1:(A:Int)<(len:Int):=by omega
      have a2:(A2:Int)<(len:Int):=by omega
      go_wp2_with fail;generalize wr.alloc (.cells #[.int .i64 k,.int .i64 A,.int .i64 A2,.float .f64 kc] 66)=W1 at *;obtain ⟨g0,g1,g2,g3,g4⟩:=box;simp only [] at g0 g1 g2 g3;clear y1 y2 s1 s2 c1 c2 c3 c4 c5 d1 d2 d3 d4;generalize hXe:wr.heap.size=X at *;have n1:(⟨R,j,none⟩:Addr)≠⟨R,A,none⟩:=fun e=>by injection e; omega
      have n2:(⟨R,j,none⟩:Addr)≠⟨R,A2,none⟩:=fun e=>by injection e; omega
      have n3:∀ o,(⟨R,j,none⟩:Addr)≠⟨X,o,none⟩:=fun o e=>by injection e; omega
      have hoth:∀ {p:Addr} {v:Value},p≠⟨R,j,none⟩→W1.cell? p=some v→∀ z m,((W1.setCell ⟨R,j,none⟩ z).drewN m).cell? p=some v:=fun {p v} hp hv z m=>by
       show (W1.setCell ⟨R,j,none⟩ z).cell? p=some v
       first
        | (rw [World.cell?_setCell_other _ _ _ _ hp]; exact hv)
        | (rw [World.cell?_setCell_other _ _ _ _ hp.symm]; exact hv)
      go_region_held3 (fun w'=>w'.cell? ⟨R,A,none⟩=some (.float .f64 u1)∧w'.cell? ⟨R,A2,none⟩=some (.float .f64 u2)∧w'.cell? ⟨X,0,none⟩=some (.int .i64 k)∧w'.cell? ⟨X,1,none⟩=some (.int .i64 A)∧w'.cell? ⟨X,2,none⟩=some (.int .i64 A2))
       (first
        | go_keep
        | exact ⟨hoth n1.symm y1' _ _,hoth n2.symm y2' _ _,hoth (n3 0).symm g0 _ _,hoth (n3 1).symm g1 _ _,hoth (n3 2).symm g2 _ _⟩)
       ((go_at_call 96; refine (ON.out _).mono ?_; rintro e w' ⟨z,m,rfl,hz1,hz2,rfl⟩))
      have hsz:=hb1.size;go_wp2_with fail
      go_roundw
      case rel=>exact ⟨j+1,by omega,by go_num,hk1.step (yc ((hb1.mono (show B+1≤X by omega)).setCell (p:=⟨R,j,none⟩) hR.1 _) _),(REL.out W1 z hb1 (by rw [hz1]; exact HE.out) hz2).below (yc (Below.refl _ _) _),show R<((W1.setCell ⟨R,j,none⟩ (.float .f64 z)).drewN (1+m)).heap.size by simp [World.setCell]; omega⟩
      case measure=>simp [intOf]; omega
   ·obtain rfl:j=len:=by omega
    go_wp2_with fail;go_meet;exact ⟨hk1,⟨rs,hown,hrs⟩,hRs⟩
 case rest=>
  clear hk1 hrg c1 c2 c3 c4 c5;obtain ⟨hk1,⟨rs,hown,hrs⟩,hRs⟩:=hcut;have HRS:=hid hrs;clear hrs;obtain ⟨c1,c2,c3,c4,c5⟩:=id hk1;go_wp2_with fail;generalize hQ:wc.heap.size=Q at *
  go_loopw [8,9] (fun vo i wr=>∃ j:Nat,j≤nn∧i=.int .i64 j∧EvS w B nn (.slice a len cap) (.slice a2 nn cap2) wr∧wr.ownsRow (B+1) 31 1 (.slice (some ⟨R,0,none⟩) len len) len rs∧(∃ qs:List Value,wr.ownsRow Q 31 1 vo j qs∧∀ i,i<j→∃ y,qs[i]? = some (.float .f64 y)∧zk y=evR op x (out i).toNat∧y<18446744073709551616)∧Q≤wr.heap.size) (fun _ i _=>nn-(intOf i).toNat)
  case atStart=>exact ⟨0,by omega,rfl,hk1,hown,⟨[],World.ownsRow_nil _ _ _ _,fun i hi=>by omega⟩,by omega⟩
  case round=>
   clear hk1 hown c1 c2 c3 c4 c5;obtain ⟨j,hj,rfl,hk1,hown,⟨qs,hqo,hqs⟩,hQs⟩:=hrel;obtain ⟨c1,c2,c3,c4,c5⟩:=id hk1;obtain ⟨va,vcap,rfl,-⟩:=yV hqo;by_cases hlt:j<nn
   ·obtain ⟨b,off,rfl,hbs,hc⟩:=HU.out (by omega);have d1:=hc j hlt;have hbw:Below w.heap.size w wr:=by rw [hB]; exact c5
    rw [← (xj hbw).1 _ _ (by rw [hB]; exact hbs)] at d1;obtain ⟨A,hA,hA2⟩:=yu (HS2.out j hlt);obtain ⟨y,y1,y2,y3⟩:=HRS.out A (by omega);have d2:=(hown.cellAt A (by omega)).trans y1;have hAn:((out j).toNat)=A:=by omega
    rw [hA] at d1;clear hc
    go_wp2_with (first
     | (at_builtin; refine wpList_append_own _ rfl _ _ 30 rfl Q 31 iF (.float .f64 0) 1 8 Tryz.underlying30 HI0.out HI.out.1 HI.out.2.1 HI.out.2.2 rfl (by decide) (.slice va j vcap) j qs rfl (hqo.alloc _) ⟨wr.heap.size,0,none⟩ 1 1 [.float .f64 y] rfl rfl (World.news_of_block (cs:=#[.float .f64 y]) (t:=31) (fr:=(0,0)) (heap_alloc_new wr _)) (by simp [Value.oneCell']) (by unfold maxLen; omega) (by omega) (by simp; omega) ?_)
     | go_in)
    intro v' w2 hown' hgrow _;have hb2:Below Q wr w2:=((Below.refl Q wr).alloc hQs _).trans (xA (hqo.alloc _) (Nat.le_refl _) (by simp; omega) hgrow)
    have hRQ:(Value.slice (some ⟨R,0,none⟩) len len).ownBlock=none∨(Value.slice (some ⟨R,0,none⟩) len len).ownBlock≠(Value.slice va j vcap).ownBlock:=.inr fun e=>by
     have:=(hqo.lt R e.symm).1;omega
    have hown2:=(hown.alloc _).kept hgrow hRQ;have hsz:=hb2.size;clear hgrow;go_wp2_with fail
    go_roundw
    case rel=>exact ⟨j+1,by omega,by go_num,hk1.step (hb2.mono (by omega)),hown2,⟨_,hown',fun i hi=>by
      have hl:=hqo.1;by_cases e:i=j
      ·subst e;exact ⟨y,by rw [List.getElem?_append_right (by omega)]; simp [show i-qs.length=0 by omega],by rw [y2,hAn],y3⟩
      ·obtain ⟨z,z1,z2,z3⟩:=hqs i (by omega);exact ⟨z,by rw [List.getElem?_append_left (by omega)]; exact z1,z2,z3⟩⟩,by omega⟩
    case measure=>simp [intOf]; omega
   ·obtain rfl:j=nn:=by omega
    go_wp2_with fail;go_ret;obtain ⟨va',vcap',he,hq⟩:=yV hqo;refine ⟨_,rfl,⟨_,_,rfl,by omega,fun h0=>?_⟩,by first | exact c5 | (rw [hB]; exact c5)⟩;simp only [Value.slice.injEq] at he;obtain ⟨rfl,-,rfl⟩:=he;obtain ⟨g,rfl,hg,hcell⟩:=hq h0;refine ⟨g,0,rfl,hg,fun i hi=>?_⟩;obtain ⟨y,y1,y2,y3⟩:=hqs i hi;exact ⟨y,by rw [Nat.zero_add,hcell i (by omega)]; exact y1,y2,y3⟩
end Go.Proofs.YtnlbafjmbamoeaaGreat
