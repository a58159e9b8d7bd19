/-
  'CoefAll': the law answers true, whatever it is given: every input, no condition.
-/
import Derived.Test.YtfcjfijmdikcmaaKg
import Derived.Test.YtfcjfijmdikcmaaKh
import Derived.Deep.CutBlock
import Derived.Deep.RegionLaw
import Derived.Test.YtfcjfijmdikcmaaRows
import Derived.WalkKit
import Derived.WalkLawsBesides
import Derived.ProofKit
import Derived.OpenShut
import Derived.Carry
namespace Go.Proofs.Ytfcjfijmdikcmaa
open Go.RowKit
open Ieee (double)
open Lib
attribute [local go_sem] zh zf zF zz zl yb
set_option maxRecDepth 100000
set_option maxHeartbeats 16000000
theorem cfexact_none (m q:Int) (h:¬(0≤m∧m≤1∧1≤q∧q+m≤5)) (w:World) :
  Calls Try.prog 6 #[.int .i64 m,.int .i64 q] w fun e w'=>e=.returned (.tuple #[.agg #[.slice none 0 0,.slice none 0 0],.bool false])∧Below w.heap.size w w':=by
 have hw:q<1∨(1≤q∧m=0∧5<q)∨(1≤q∧m=1∧4<q)∨(1≤q∧(m==0)=false∧(m==1)=false):=by
  by_cases h0:m=0
  ·omega
  ·by_cases h1:m=1
   ·omega
   ·by_cases h2:q<1
    ·exact .inl h2
    ·exact .inr (.inr (.inr ⟨by omega,beq_false_of_ne h0,beq_false_of_ne h1⟩))
 clear h;have AL:=al1 w (.cells #[.slice none 0 0,.slice none 0 0] 26);go_enter Try.func6,Try.ntmps6;go_upto_region 1 with fail
 generalize w.alloc (.cells #[.slice none 0 0,.slice none 0 0] 26)=X at *;generalize hB:w.heap.size=B at *;obtain ⟨hr,x2,x3⟩:=AL;have c0:=zc hr 0;have c1:=zc hr 1;have f0:=zi hr 0;have f1:=zi hr 1;simp only [List.getElem?_toArray,List.getElem?_cons_zero,List.getElem?_cons_succ] at c0 c1;have e0:=zc (zy (o:=1) (zy (o:=0) hr (.slice none 0 0)) (.slice none 0 0)) 0;have e1:=zc (zy (o:=1) (zy (o:=0) hr (.slice none 0 0)) (.slice none 0 0)) 1
 replace e0:_=some (Value.slice none 0 0):=e0
 replace e1:_=some (Value.slice none 0 0):=e1
 have HF:=hid (show Below B w ((X.setCell ⟨B,0,none⟩ (.slice none 0 0)).setCell ⟨B,1,none⟩ (.slice none 0 0)) from (x3.setCell (p:=⟨B,0,none⟩) (Nat.le_refl B) _).setCell (p:=⟨B,1,none⟩) (Nat.le_refl B) _);clear hr x2 x3;rcases hw with h1 | ⟨h1,rfl,h2⟩ | ⟨h1,rfl,h2⟩ | ⟨h1,h2,h3⟩
 all_goals
  go_wp2_with fail
  all_goals exact bodyPost_ret (v:=.tuple #[.agg #[.slice none 0 0,.slice none 0 0],.bool false]) (by simp [results,Try.results6,go_sem,e0,e1]) rfl ⟨rfl,hB ▸ HF.out⟩
theorem cfrexact_none (m q:Int) (h:¬(0≤m∧m≤1∧1≤q∧q+m≤5)) (w:World) :
  Calls Try.prog 7 #[.int .i64 m,.int .i64 q] w fun e w'=>e=.returned (.tuple #[.agg #[.slice none 0 0,.slice none 0 0],.bool false])∧Below w.heap.size w w':=by
 have hw:q<1∨(1≤q∧m=0∧5<q)∨(1≤q∧m=1∧4<q)∨(1≤q∧(m==0)=false∧(m==1)=false):=by
  by_cases h0:m=0
  ·omega
  ·by_cases h1:m=1
   ·omega
   ·by_cases h2:q<1
    ·exact .inl h2
    ·exact .inr (.inr (.inr ⟨by omega,beq_false_of_ne h0,beq_false_of_ne h1⟩))
 clear h;have AL:=al1 w (.cells #[.slice none 0 0,.slice none 0 0] 29);go_enter Try.func7,Try.ntmps7;go_upto_region 1 with fail
 generalize w.alloc (.cells #[.slice none 0 0,.slice none 0 0] 29)=X at *;generalize hB:w.heap.size=B at *;obtain ⟨hr,x2,x3⟩:=AL;have c0:=zc hr 0;have c1:=zc hr 1;have f0:=zi hr 0;have f1:=zi hr 1;simp only [List.getElem?_toArray,List.getElem?_cons_zero,List.getElem?_cons_succ] at c0 c1;have e0:=zc (zy (o:=1) (zy (o:=0) hr (.slice none 0 0)) (.slice none 0 0)) 0;have e1:=zc (zy (o:=1) (zy (o:=0) hr (.slice none 0 0)) (.slice none 0 0)) 1
 replace e0:_=some (Value.slice none 0 0):=e0
 replace e1:_=some (Value.slice none 0 0):=e1
 have HF:=hid (show Below B w ((X.setCell ⟨B,0,none⟩ (.slice none 0 0)).setCell ⟨B,1,none⟩ (.slice none 0 0)) from (x3.setCell (p:=⟨B,0,none⟩) (Nat.le_refl B) _).setCell (p:=⟨B,1,none⟩) (Nat.le_refl B) _);clear hr x2 x3;rcases hw with h1 | ⟨h1,rfl,h2⟩ | ⟨h1,rfl,h2⟩ | ⟨h1,h2,h3⟩
 all_goals
  go_wp2_with fail
  all_goals exact bodyPost_ret (v:=.tuple #[.agg #[.slice none 0 0,.slice none 0 0],.bool false]) (by simp [results,Try.results7,go_sem,e0,e1]) rfl ⟨rfl,hB ▸ HF.out⟩
theorem cof_none (m q:Int) (h:¬(0≤m∧m≤1∧1≤q∧q+m≤5)) (w:World) :
  Calls Try.prog 8 #[.int .i64 m,.int .i64 q] w fun e w'=>e=.returned (.tuple #[.slice none 0 0,.bool false])∧Below w.heap.size w w':=by
 have EX:=hid (cfexact_none m q h w);clear h;go_enter Try.func8,Try.ntmps8;go_wp2_with fail;refine EX.out.mono ?_;rintro e w1 ⟨rfl,hb⟩;have AL:=al1 w1 (.cells #[.slice none 0 0,.slice none 0 0] 26);have HF:=hid (hb.trans (AL.2.2.mono hb.size));clear hb AL;go_wp2_with fail;exact bodyPost_ret (v:=.tuple #[.slice none 0 0,.bool false]) (by simp [results,Try.results8,go_sem]) rfl ⟨rfl,HF.out⟩
theorem rcof_none (m q:Int) (h:¬(0≤m∧m≤1∧1≤q∧q+m≤5)) (w:World) :
  Calls Try.prog 9 #[.int .i64 m,.int .i64 q] w fun e w'=>e=.returned (.tuple #[.slice none 0 0,.bool false])∧Below w.heap.size w w':=by
 have EX:=hid (cfrexact_none m q h w);clear h;go_enter Try.func9,Try.ntmps9;go_wp2_with fail;refine EX.out.mono ?_;rintro e w1 ⟨rfl,hb⟩;have AL:=al1 w1 (.cells #[.slice none 0 0,.slice none 0 0] 29);have HF:=hid (hb.trans (AL.2.2.mono hb.size));clear hb AL;go_wp2_with fail;exact bodyPost_ret (v:=.tuple #[.slice none 0 0,.bool false]) (by simp [results,Try.results9,go_sem]) rfl ⟨rfl,HF.out⟩
def RowV (w:World) (v:Value) (n:Nat) (f g:Nat→Int):Prop:=∃ a c x y,v=.agg #[.slice a n x,.slice c n y]∧(0<n→∃ A C,a=some ⟨A,0,none⟩∧c=some ⟨C,0,none⟩∧A<w.heap.size∧C<w.heap.size∧∀ i,i<n→w.cell? ⟨A,i,none⟩=some (.int .i64 (f i))∧w.cell? ⟨C,i,none⟩=some (.int .i64 (g i)))
theorem RowV.below {w w':World} {v:Value} {n:Nat} {f g:Nat→Int} (h:RowV w v n f g) (hb:Below w.heap.size w w'):RowV w' v n f g:=by
 obtain ⟨a,c,x,y,rfl,h1⟩:=h;refine ⟨a,c,x,y,rfl,fun hn=>?_⟩;obtain ⟨A,C,rfl,rfl,hA,hC,hi⟩:=h1 hn;exact ⟨A,C,rfl,rfl,Nat.lt_of_lt_of_le hA hb.size,Nat.lt_of_lt_of_le hC hb.size,fun i h=>⟨((yf hb).1 _ _ hA).trans (hi i h).1,((yf hb).1 _ _ hC).trans (hi i h).2⟩⟩
theorem yC.rowV {t:Nat} {w:World} {base n:Nat} {v:Value} {f g:Nat→Int} (h:yC t w base v n f g):RowV w v n f g:=by
 obtain ⟨-,A,C,a,c,rfl,hA,hC⟩:=h;exact ⟨_,_,_,_,rfl,fun _=>⟨A,C,rfl,rfl,hA.lt.2,hC.lt.2,fun i hi=>⟨hA.cell hi,hC.cell hi⟩⟩⟩
structure CfT (m q:Int) (is:Bool) (n:Nat) (f g:Nat→Int) (h:Nat→Nat):Prop where
 le:n≤10
 ex:∀ w,Calls Try.prog 6 #[.int .i64 m,.int .i64 q] w fun e w'=>∃ v,e=.returned (.tuple #[v,.bool is])∧RowV w' v n f g∧Below w.heap.size w w'
 rex:∀ w,Calls Try.prog 7 #[.int .i64 m,.int .i64 q] w fun e w'=>∃ v,e=.returned (.tuple #[v,.bool is])∧RowV w' v n f g∧Below w.heap.size w w'
 of_:∀ w,Calls Try.prog 8 #[.int .i64 m,.int .i64 q] w fun e w'=>∃ v,e=.returned (.tuple #[v,.bool is])∧yF w' v n h∧Below w.heap.size w w'
 rof:∀ w,Calls Try.prog 9 #[.int .i64 m,.int .i64 q] w fun e w'=>∃ v,e=.returned (.tuple #[v,.bool is])∧yF w' v n h∧Below w.heap.size w w'
theorem frow_none (w:World) (h:Nat→Nat):yF w (.slice none 0 0) 0 h:=⟨none,0,rfl,by decide,fun h=>absurd h (Nat.lt_irrefl 0)⟩
theorem rowV_none (w:World) (f g:Nat→Int):RowV w (.agg #[.slice none 0 0,.slice none 0 0]) 0 f g:=⟨none,none,0,0,rfl,fun h=>absurd h (Nat.lt_irrefl 0)⟩
theorem cf_any (m q:Int):∃ is n f g h,CfT m q is n f g h:=by
 by_cases hp:0≤m∧m≤1∧1≤q∧q+m≤5
 ·obtain ⟨m,rfl⟩:=Int.eq_ofNat_of_zero_le hp.1;obtain ⟨q,rfl⟩:=Int.eq_ofNat_of_zero_le (show 0≤q by omega);have h1:m<2:=by omega
  have h2:1≤q:=by omega
  have h3:q+m≤5:=by omega
  refine ⟨true,q+1,exN m q,exD m q,coF m q,by omega,fun w=>(ws h1 h2 h3 w).mono ?_,fun w=>(yP h1 h2 h3 w).mono ?_,fun w=>(wP h1 h2 h3 w).mono ?_,fun w=>(x9 h1 h2 h3 w).mono ?_⟩
  ·rintro e w' ⟨v,rfl,ho,hb⟩;exact ⟨v,rfl,ho.rowV,hb⟩
  ·rintro e w' ⟨v,rfl,ho,hb⟩;exact ⟨v,rfl,ho.rowV,hb⟩
  ·exact fun e w' h=>h
  ·exact fun e w' h=>h
 ·refine ⟨false,0,fun _=>0,fun _=>0,fun _=>0,by omega,fun w=>(cfexact_none m q hp w).mono ?_,fun w=>(cfrexact_none m q hp w).mono ?_,fun w=>(cof_none m q hp w).mono ?_,fun w=>(rcof_none m q hp w).mono ?_⟩
  ·rintro e w' ⟨rfl,hb⟩;exact ⟨_,rfl,rowV_none _ _ _,hb⟩
  ·rintro e w' ⟨rfl,hb⟩;exact ⟨_,rfl,rowV_none _ _ _,hb⟩
  ·rintro e w' ⟨rfl,hb⟩;exact ⟨_,rfl,frow_none _ _,hb⟩
  ·rintro e w' ⟨rfl,hb⟩;exact ⟨_,rfl,frow_none _ _,hb⟩
theorem within7 (a n:Int) (w:World) (h1:1≤n) (h2:n≤9223372036854775807) :
  Calls Try.prog 5 #[.int .i64 a,.int .i64 n] w fun e w'=>e=.returned (.int .i64 (a % n))∧w=w':=by
 have h2':=Int.emod_nonneg a (show n≠0 by omega);have h3:=Int.emod_lt_of_pos a (show 0<n by omega);have h:=wN (a:=a) h1;have H:=hid h;clear h;go_enter Try.func5,Try.ntmps5
 go_wp2
 ·go_ret;refine ⟨?_,rfl⟩;have:=H.out.1 (by assumption);exact ret_int (by rw [this]; unfold wrap64; omega)
 ·go_ret;refine ⟨?_,rfl⟩;exact ret_int (H.out.2 (by assumption))
theorem rowSame_true (u v:Value) (n:Nat) (f g:Nat→Int) (hn:n≤10) (w:World) (hu:RowV w u n f g) (hv:RowV w v n f g):Calls Try.prog 10 #[u,v] w (xr (.bool true) w):=by
 obtain ⟨a,c,x,y,rfl,h1⟩:=hu;obtain ⟨a',c',x',y',rfl,h2⟩:=hv
 have H:=hid (show ∀ W,Below w.heap.size w W→∀ i,i<n→∃ A C A' C',a=some ⟨A,0,none⟩∧c=some ⟨C,0,none⟩∧a'=some ⟨A',0,none⟩∧c'=some ⟨C',0,none⟩∧W.cell? ⟨A,i,none⟩=some (.int .i64 (f i))∧W.cell? ⟨C,i,none⟩=some (.int .i64 (g i))∧W.cell? ⟨A',i,none⟩=some (.int .i64 (f i))∧W.cell? ⟨C',i,none⟩=some (.int .i64 (g i)) from fun W hb i hi=>by
  obtain ⟨A,C,rfl,rfl,k1,k2,k3⟩:=h1 (by omega);obtain ⟨A',C',rfl,rfl,l1,l2,l3⟩:=h2 (by omega);exact ⟨A,C,A',C',rfl,rfl,rfl,rfl,((yf hb).1 _ _ k1).trans (k3 i hi).1,((yf hb).1 _ _ k2).trans (k3 i hi).2,((yf hb).1 _ _ l1).trans (l3 i hi).1,((yf hb).1 _ _ l2).trans (l3 i hi).2⟩)
 have AL:=al2 w (.cells #[.slice a n x,.slice c n y] 29) (.cells #[.slice a' n x',.slice c' n y'] 29);have hne:((n:Int) != n)=false:=by simp
 clear h1 h2;go_enter Try.func10,Try.ntmps10;go_upto_region 1 with fail
 generalize hB:w.heap.size=B at *;generalize (w.alloc (.cells #[.slice a n x,.slice c n y] 29)).alloc (.cells #[.slice a' n x',.slice c' n y'] 29)=X at *;obtain ⟨x1,x2,x4,x5⟩:=AL;have p0:=zc x1 0;have p1:=zc x1 1;have q0:=zc x2 0;have q1:=zc x2 1;simp only [List.getElem?_toArray,List.getElem?_cons_zero,List.getElem?_cons_succ] at p0 p1 q0 q1;have HX:=hid (show B+2≤X.heap.size from by omega);have HB:=hid x5;clear x1 x2 x4 x5;go_wp2_with fail
 go_loopw [5] (fun i wr=>∃ e:Nat,e≤n∧i=.int .i64 e∧Below X.heap.size X wr) (fun i _=>n-(intOf i).toNat)
 case atStart=>exact ⟨0,by omega,rfl,Below.refl _ _⟩
 case round=>
  obtain ⟨e,he,rfl,hb⟩:=hrel;have HBW:=hid hb;rw [← (yf hb).1 _ _ (by have:=HX.out; omega)] at p0 p1 q0 q1;clear hb;by_cases hen:e<n
  ·have HQ:=hid (H.out);have j1:(e:Int)<n:=by omega
   have j2:decide ((n:Int)≤e)=false:=decide_eq_false (by omega);have hX2:=HX.out;have hw:=HBW.out.size;obtain ⟨A,C,A',C',rfl,rfl,rfl,rfl,-⟩:=H.out X HB.out e hen;go_wp2_with fail;refine zE [(0,1),(1,2),(2,1),(3,1),(4,2),(5,1),(6,2),(7,1),(8,1),(9,2),(10,1),(11,1),(12,1),(13,1),(14,2),(15,1),(16,1),(17,1),(18,1),(19,1),(20,2),(21,1),(22,1),(23,2),(24,1),(25,2),(26,1),(27,1),(28,2),(29,1),(30,1)] (by kernel_rfl) (by kernel_rfl) (fun _ _ d _ _ h=>by cases d<;>exact h) ?_;intro Z hZ;have hbZ:Below wr.heap.size wr Z:=by rw [hZ]; exact (Below.refl _ _).drew
   clear hZ;rw [← (yf hbZ).1 _ _ (by omega)] at p0 p1 q0 q1;have HZ:=hid (HBW.out.trans (hbZ.mono HBW.out.size));obtain ⟨A1,C1,A2,C2,e1,e2,e3,e4,k1,k2,k3,k4⟩:=HQ.out Z (HB.out.trans (HZ.out.mono (by omega))) e hen;simp only [Option.some.injEq,Addr.mk.injEq,and_true] at e1 e2 e3 e4;obtain rfl:=e1;obtain rfl:=e2;obtain rfl:=e3;obtain rfl:=e4;clear HQ hbZ HBW
   iterate 31
    first
     | refine zj (fun K hK=>?_)
     | refine zk (fun K hK=>?_)
    go_simp;refine hK _ ?_;clear hK K
   refine zQ ?_;go_wp2_with fail
   go_roundw
   case rel=>exact ⟨e+1,by omega,by go_num,HZ.out⟩
   case measure=>simp [intOf]; omega
  ·obtain rfl:e=n:=by omega
   have HF:=hid (HB.out.trans (HBW.out.mono (by have:=HX.out; omega)));have j1:decide ((e:Int)<e)=false:=decide_eq_false (by omega);go_wp2_with fail;go_ret;exact ⟨rfl,by rw [hB]; exact HF.out⟩
theorem RowV.keepS {X W:World} {q n:Nat} {v:Value} {f g:Nat→Int} {a b:Option Addr} {l c l' c':Nat} {t:TypeId} (h:RowV X v n f g) (hq:X.heap[q]? = some (.cells #[.slice a l c,.slice b l' c'] t)) (hk:zN X q W):RowV W v n f g:=by
 obtain ⟨a0,c0,x,y,rfl,h1⟩:=h;refine ⟨a0,c0,x,y,rfl,fun hn=>?_⟩;obtain ⟨A,C,rfl,rfl,hA,hC,hi⟩:=h1 hn
 have key:∀ B z,X.cell? ⟨B,0,none⟩=some (.int .i64 z)→B≠q:=fun B z hz=>by
  rintro rfl;rw [zc hq] at hz;cases hz
 have nA:=key A _ (hi 0 hn).1;have nC:=key C _ (hi 0 hn).2;exact ⟨A,C,rfl,rfl,Nat.lt_of_lt_of_le hA hk.size,Nat.lt_of_lt_of_le hC hk.size,fun i h=>⟨(hk.cell hA nA _).trans (hi i h).1,(hk.cell hC nC _).trans (hi i h).2⟩⟩
theorem known7 (w:World):Calls Try.prog 4 #[] w (xr (.bool true) w):=by
 have E1:=hid (show Calls Try.prog 6 #[.int .i64 0,.int .i64 1] w _ from ws (m:=0) (q:=1) (by decide) (by decide) (by decide) w);have O1:=hid (fun W=>(show Calls Try.prog 8 #[.int .i64 1,.int .i64 2] W _ from wP (m:=1) (q:=2) (by decide) (by decide) (by decide) W));go_enter Try.func4,Try.ntmps4;generalize hB:w.heap.size=B at *;go_wp2_with fail;refine E1.out.mono ?_;rintro e w1 ⟨v,rfl,⟨-,A,C,a,c,rfl,hA,hC⟩,hb⟩;have AL:=al1 w1 (.cells #[.slice (some ⟨A,0,none⟩) (1+1) a,.slice (some ⟨C,0,none⟩) (1+1) c] 26);have cA:=hA.cell (j:=0) (by decide);have cC:=hC.cell (j:=1) (by decide);rw [show exN 0 1 0=1 by decide +kernel] at cA;rw [show exD 0 1 1=1 by decide +kernel] at cC;have lA:=hA.lt.2;have lC:=hC.lt.2;go_upto_region 2 with fail
 generalize w1.alloc (.cells #[.slice (some ⟨A,0,none⟩) (1+1) a,.slice (some ⟨C,0,none⟩) (1+1) c] 26)=X at *;generalize hP:w1.heap.size=P at *;obtain ⟨x1,x2,x3⟩:=AL;have HX:=hid x1;rw [← (yf (hP ▸ x3)).1 _ _ (hP ▸ lA)] at cA;rw [← (yf (hP ▸ x3)).1 _ _ (hP ▸ lC)] at cC;have hBP:B≤P:=by have:=hb.size; omega
 have HBX:=hid (show Below B w X from hb.trans (x3.mono hBP));have lAX:A<X.heap.size:=by omega
 have lCX:C<X.heap.size:=by omega
 have lPX:P<X.heap.size:=by omega
 clear hA hC hb x1 x2 x3 lA lC;go_wp2_with fail;refine (O1.out X).mono ?_;rintro e w2 ⟨v,rfl,hl,hb2⟩;obtain ⟨al,cl,rfl,-,hlr⟩:=hl;obtain ⟨bl,ol,rfl,hbl,hlr⟩:=hlr (by decide);obtain ⟨y,y1,y2,y3⟩:=hlr 1 (by decide);have hy:(FloatKind.f64.format.order y 4607182418800017408==some Ordering.eq)=true:=(zA _ _).trans (by rw [← xB,y2]; decide +kernel);rw [← (yf hb2).1 _ _ lAX] at cA;rw [← (yf hb2).1 _ _ lCX] at cC;have p0:=zc ((hb2.block P lPX).trans HX.out) 0;have p1:=zc ((hb2.block P lPX).trans HX.out) 1;simp only [List.getElem?_toArray,List.getElem?_cons_zero,List.getElem?_cons_succ] at p0 p1;have HF:=hid (HBX.out.trans (hb2.mono (by omega)));clear hlr hb2 y2 y3;go_wp2_with fail;go_ret;exact ⟨rfl,by rw [hB]; exact HF.out⟩
theorem coefAll_any (m q r:Int) (w:World) (_:-9223372036854775808≤m∧m≤9223372036854775807) (_:-9223372036854775808≤q∧q≤9223372036854775807) (_:-9223372036854775808≤r∧r≤9223372036854775807) :
  Calls Try.prog 3 #[.int .i64 m,.int .i64 q,.int .i64 r] w fun e w'=>e=.returned (.bool true)∧Below w.heap.size w w':=by
 have m4:=Int.emod_nonneg m (show (4:Int)≠0 by decide);have m5:=Int.emod_lt_of_pos m (show (0:Int)<4 by decide);have q4:=Int.emod_nonneg q (show (5:Int)≠0 by decide);have q5:=Int.emod_lt_of_pos q (show (0:Int)<5 by decide);have WA:=hid (fun W=>within7 m 2 W (by decide) (by decide));have WB:=hid (fun W=>within7 m 4 W (by decide) (by decide));have WC:=hid (fun W=>within7 q 8 W (by decide) (by decide));have WD:=hid (fun W=>within7 q 5 W (by decide) (by decide));generalize m % 2=a0 at *;generalize m % 4=a1 at *;generalize q % 8=b0 at *;generalize q % 5=b1 at *;have k1:IntKind.i64.wrap (a1-1)=a1-1:=IntWalk.i64_in _ (by omega);have k2:IntKind.i64.wrap (1+b1)=1+b1:=IntWalk.i64_in _ (by omega);go_enter Try.func3,Try.ntmps3;generalize hB:w.heap.size=B at *;go_wp2_with fail;refine (known7 w).mono ?_;rintro e w1 ⟨rfl,hb1⟩;rw [hB] at hb1;have HB1:=hid hb1;clear hb1;go_wp2_with fail;refine (WA.out _).mono ?_;rintro e w' ⟨rfl,rfl⟩;go_wp2_with fail;refine (WB.out _).mono ?_;rintro e w' ⟨rfl,rfl⟩;have AL:=al1 w1 (.cells #[.int .i64 a0,.int .i64 (a1-1),.int .i64 r] 3);go_upto_region 4 with fail
 generalize w1.alloc (.cells #[.int .i64 a0,.int .i64 (a1-1),.int .i64 r] 3)=X1 at *;obtain ⟨P1,hP1⟩:∃ P,w1.heap.size=P:=⟨_,rfl⟩;obtain ⟨x1,x2,x3⟩:=AL;rw [hP1] at x1 x2 x3;simp only [hP1];have hBP:B≤P1:=by have:=HB1.out.size; omega
 have HX1:=hid x1;have HBX:=hid (HB1.out.trans (x3.mono hBP));have hl1:P1<X1.heap.size:=by omega
 clear x1 x2 x3 HB1 hP1;go_wp2_with fail;refine (WC.out _).mono ?_;rintro e w' ⟨rfl,rfl⟩;go_wp2_with fail;refine (WD.out _).mono ?_;rintro e w' ⟨rfl,rfl⟩;have AL:=al1 X1 (.cells #[.int .i64 b0,.int .i64 (1+b1),.int .i64 r] 3);go_upto_region 5 with fail
 generalize X1.alloc (.cells #[.int .i64 b0,.int .i64 (1+b1),.int .i64 r] 3)=X2 at *;obtain ⟨P2,hP2⟩:∃ P,X1.heap.size=P:=⟨_,rfl⟩;obtain ⟨x1,x2,x3⟩:=AL;rw [hP2] at x1 x2 x3;simp only [hP2];have HX2:=hid ((x3.block P1 (by omega)).trans HX1.out);have HX3:=hid x1;have HBY:=hid (HBX.out.trans (x3.mono (by omega)));have hl2:P1<X2.heap.size∧P2<X2.heap.size∧B≤X2.heap.size:=by omega
 have HMS:=hid (fun (W:World) (hW:Below X2.heap.size X2 W) (i:Nat) (hi:i<3)=>(show ∃ x:Int,W.cell? ⟨P1,i,none⟩=some (.int .i64 x) from by
  rcases (show i=0∨i=1∨i=2 by omega) with rfl | rfl | rfl<;>exact ⟨_,(zc ((hW.block P1 hl2.1).trans HX2.out) _).trans rfl⟩))
 have HOS:=hid (fun (W:World) (hW:Below X2.heap.size X2 W) (i:Nat) (hi:i<3)=>(show ∃ x:Int,W.cell? ⟨P2,i,none⟩=some (.int .i64 x) from by
  rcases (show i=0∨i=1∨i=2 by omega) with rfl | rfl | rfl<;>exact ⟨_,(zc ((hW.block P2 hl2.2.1).trans HX3.out) _).trans rfl⟩))
 clear x1 x2 x3 HX1 HBX hP2 k1 k2 hBP hl1 WA WB WC WD;go_wp2_with fail
 go_loopw [9] (fun i wr=>∃ a:Nat,a≤3∧i=.int .i64 a∧Below X2.heap.size X2 wr) (fun i _=>3-(intOf i).toNat)
 case atStart=>exact ⟨0,by omega,rfl,Below.refl _ _⟩
 case round=>
  obtain ⟨a,ha,rfl,hb⟩:=hrel;have HW:=hid hb;clear hb;by_cases han:a<3
  ·have j1:decide ((a:Int)<3)=true:=decide_eq_true (by omega);go_wp2_with fail
   go_loopw [10] (fun i wt=>∃ b:Nat,b≤3∧i=.int .i64 b∧Below X2.heap.size X2 wt) (fun i _=>3-(intOf i).toNat)
   case atStart=>exact ⟨0,by omega,rfl,HW.out⟩
   case round=>
    obtain ⟨b,hbn,rfl,hb⟩:=hrel;have HV:=hid hb;clear hb;by_cases hbn2:b<3
    ·have j2:decide ((b:Int)<3)=true:=decide_eq_true (by omega);have i1:(a:Int)<3:=by omega
     have i2:(b:Int)<3:=by omega
     obtain ⟨x,hx⟩:=HMS.out wr HV.out a han;obtain ⟨y,hy⟩:=HOS.out wr HV.out b hbn2;have HXY:=hid (show ∀ W,Below wr.heap.size wr W→W.cell? ⟨P1,a,none⟩=some (.int .i64 x)∧W.cell? ⟨P2,b,none⟩=some (.int .i64 y) from fun W hW=>⟨((yf hW).1 _ _ (by have:=HV.out.size; omega)).trans hx,((yf hW).1 _ _ (by have:=HV.out.size; omega)).trans hy⟩);clear hx hy;obtain ⟨is,n,f,g,h,hT⟩:=cf_any x y;have HT:=hid hT;clear hT;go_upto_region 11 with fail
     obtain ⟨cM,cO⟩:=HXY.out wr (Below.refl _ _);have lM:P1<wr.heap.size:=by have:=HV.out.size; omega
     have lO:P2<wr.heap.size:=by have:=HV.out.size; omega
     have CX:=hid (fun W (_:Below wr.heap.size wr W)=>HT.out.ex W)
     go_cut [11,12] (fun u v wx=>∃ (k:Nat) (p q:Option Addr) (c d:Nat),u=.pointer (some ⟨k,0,none⟩)∧v=.bool is∧wx.heap[k]? = some (.cells #[.slice p n c,.slice q n d] 26)∧RowV wx (.agg #[.slice p n c,.slice q n d]) n f g∧Below wr.heap.size wr wx)
     case first=>
      refine z7 (.op 0 1 (.op 1 1 (.op 2 1 (.op 3 3 (.op 4 1 (.op 5 1 (.op 6 1 (.op 7 3 (.alt 8 (.op 9 1 (.op 10 1 (.op 11 1 (.alt 12 (.alt 13 (.op 14 1 .nil) .stop) .stop)))) (.alt 12 (.alt 8 (.op 9 1 (.op 10 1 (.op 11 1 (.alt 13 (.op 14 1 .nil) .stop)))) .stop) .stop)))))))))) [8,12,13] [3,7] (fun W=>Below wr.heap.size wr W) (by kernel_rfl) (by kernel_rfl) (fun _ _ d _ _ h=>by cases d<;>exact h) ((Below.refl _ _).drew) ?_;intro Z hZ hbZ;clear hZ;refine zg (fun K hK=>?_);go_simp;refine hK _ ?_;clear hK K;refine zg (fun K hK=>?_);go_simp;refine hK _ ?_;clear hK K;refine zg (fun K hK=>?_);go_simp;refine hK _ ?_;clear hK K;refine zR (v:=.int .i64 x) rfl rfl (fun wk hwk=>?_) ?_
      ·rw [← (yf hwk).1 _ _ lM] at cM;go_simp
      refine zg (fun K hK=>?_);go_simp;refine hK _ ?_;clear hK K;refine zg (fun K hK=>?_);go_simp;refine hK _ ?_;clear hK K;refine zg (fun K hK=>?_);go_simp;refine hK _ ?_;clear hK K;refine zR (v:=.int .i64 y) rfl rfl (fun wk hwk=>?_) ?_
      ·rw [← (yf hwk).1 _ _ lO] at cO;go_simp
      have HBZ0:=hid hbZ;clear hbZ cM cO lM lO;refine zd (fun K hK=>?_) ?_
      ·go_simp;refine (CX.out Z HBZ0.out).mono ?_;rintro e V1 ⟨v,rfl,hrw,hst⟩;obtain ⟨p8,q8,c8,d8,rfl⟩:∃ a c x y,v=.agg #[.slice a n x,.slice c n y]:=by obtain ⟨a,c,x,y,e,-⟩:=hrw; exact ⟨a,c,x,y,e⟩
       have hbx:=HBZ0.out.trans (hst.mono HBZ0.out.size);have HF3:=hid (hrw);refine hK _ _ (fun _=>hbx) ?_;clear hK K;have HB2:=hid hbx;clear hbx hst hrw;refine zg (fun K hK=>?_);go_simp;refine hK _ ?_;clear hK K;refine zg (fun K hK=>?_);go_simp;refine hK _ ?_;clear hK K;refine zg (fun K hK=>?_);go_simp;refine hK _ ?_;clear hK K;refine zd (fun K hK=>?_) ?_
       ·go_simp;obtain ⟨y1,y2,hst⟩:=al1 V1 (.cells #[.slice none 0 0,.slice none 0 0] 26);have hbx:=HB2.out.trans (hst.mono HB2.out.size);have HF9:=hid (HF3.out.below hst);have HL8:=hid (show wr.heap.size≤V1.heap.size from HB2.out.size);refine hK _ _ (fun _=>hbx) ?_;clear hK K;have HB6:=hid hbx;have HF7:=hid y1;clear y1 y2 hst hbx;generalize V1.alloc (.cells #[.slice none 0 0,.slice none 0 0] 26)=V4 at *;generalize V1.heap.size=k5 at *;refine zd (fun K hK=>?_) ?_
        ·have c0:=zc HF7.out 0;have f0:=zi HF7.out 0;have c1:=zc HF7.out 1;have f1:=zi HF7.out 1;simp only [List.getElem?_toArray,List.getElem?_cons_zero,List.getElem?_cons_succ] at c0 c1;go_simp;have HB11:=hid (show Below wr.heap.size wr ((V4.setCell ⟨k5,0,none⟩ (.slice p8 n c8)).setCell ⟨k5,1,none⟩ (.slice q8 n d8)) from ((HB6.out.setCell (p:=⟨k5,0,none⟩) HL8.out _).setCell (p:=⟨k5,1,none⟩) HL8.out _));have HF12:=hid (show ((V4.setCell ⟨k5,0,none⟩ (.slice p8 n c8)).setCell ⟨k5,1,none⟩ (.slice q8 n d8)).heap[k5]? = some (.cells #[.slice p8 n c8,.slice q8 n d8] 26) from (zy (zy HF7.out _) _));have HF13:=hid (HF9.out.keepS (W:=((V4.setCell ⟨k5,0,none⟩ (.slice p8 n c8)).setCell ⟨k5,1,none⟩ (.slice q8 n d8))) HF7.out (((zN.refl V4 k5).set 0 _).set 1 _));refine hK _ _ (fun _=>HB11.out) ?_;clear hK K c0 f0 c1 f1;generalize ((V4.setCell ⟨k5,0,none⟩ (.slice p8 n c8)).setCell ⟨k5,1,none⟩ (.slice q8 n d8))=V10 at *;refine zg (fun K hK=>?_);go_simp;refine hK _ ?_;clear hK K;refine zC ?_;go_wp2_with fail;go_meet;exact ⟨k5,p8,q8,c8,d8,rfl,rfl,HF12.out,HF13.out,HB11.out⟩
        exact ze
       exact ze
      refine zd (fun K hK=>?_) ?_
      ·go_simp;obtain ⟨y1,y2,hst⟩:=al1 Z (.cells #[.slice none 0 0,.slice none 0 0] 26);have hbx:=HBZ0.out.trans (hst.mono HBZ0.out.size);have HL18:=hid (show wr.heap.size≤Z.heap.size from HBZ0.out.size);refine hK _ _ (fun _=>hbx) ?_;clear hK K;have HB16:=hid hbx;have HF17:=hid y1;clear y1 y2 hst hbx;generalize Z.alloc (.cells #[.slice none 0 0,.slice none 0 0] 26)=V14 at *;generalize Z.heap.size=k15 at *;refine zd (fun K hK=>?_) ?_
       ·go_simp;refine (CX.out V14 HB16.out).mono ?_;rintro e V19 ⟨v,rfl,hrw,hst⟩;obtain ⟨p8,q8,c8,d8,rfl⟩:∃ a c x y,v=.agg #[.slice a n x,.slice c n y]:=by obtain ⟨a,c,x,y,e,-⟩:=hrw; exact ⟨a,c,x,y,e⟩
        have hbx:=HB16.out.trans (hst.mono HB16.out.size);have HF21:=hid ((hst.block k15 (zw HF17.out)).trans HF17.out);have HF22:=hid (hrw);refine hK _ _ (fun _=>hbx) ?_;clear hK K;have HB20:=hid hbx;clear hbx hst hrw;refine zg (fun K hK=>?_);go_simp;refine hK _ ?_;clear hK K;refine zg (fun K hK=>?_);go_simp;refine hK _ ?_;clear hK K;refine zg (fun K hK=>?_);go_simp;refine hK _ ?_;clear hK K;refine zd (fun K hK=>?_) ?_
        ·have c0:=zc HF21.out 0;have f0:=zi HF21.out 0;have c1:=zc HF21.out 1;have f1:=zi HF21.out 1;simp only [List.getElem?_toArray,List.getElem?_cons_zero,List.getElem?_cons_succ] at c0 c1;go_simp;have HB24:=hid (show Below wr.heap.size wr ((V19.setCell ⟨k15,0,none⟩ (.slice p8 n c8)).setCell ⟨k15,1,none⟩ (.slice q8 n d8)) from ((HB20.out.setCell (p:=⟨k15,0,none⟩) HL18.out _).setCell (p:=⟨k15,1,none⟩) HL18.out _));have HF25:=hid (show ((V19.setCell ⟨k15,0,none⟩ (.slice p8 n c8)).setCell ⟨k15,1,none⟩ (.slice q8 n d8)).heap[k15]? = some (.cells #[.slice p8 n c8,.slice q8 n d8] 26) from (zy (zy HF21.out _) _));have HF26:=hid (HF22.out.keepS (W:=((V19.setCell ⟨k15,0,none⟩ (.slice p8 n c8)).setCell ⟨k15,1,none⟩ (.slice q8 n d8))) HF21.out (((zN.refl V19 k15).set 0 _).set 1 _));refine hK _ _ (fun _=>HB24.out) ?_;clear hK K c0 f0 c1 f1;generalize ((V19.setCell ⟨k15,0,none⟩ (.slice p8 n c8)).setCell ⟨k15,1,none⟩ (.slice q8 n d8))=V23 at *;refine zg (fun K hK=>?_);go_simp;refine hK _ ?_;clear hK K;refine zC ?_;go_wp2_with fail;go_meet;exact ⟨k15,p8,q8,c8,d8,rfl,rfl,HF25.out,HF26.out,HB24.out⟩
        exact ze
       exact ze
      exact ze
     case rest=>
      obtain ⟨k1,pa,qa,ca,da,rfl,rfl,hk1,hr1,hbc⟩:=hcut;have HK1:=hid hk1;have HR1:=hid hr1;have HB1:=hid hbc;clear hk1 hr1 hbc cM cO lM lO CX;go_upto_region 12 with fail
      obtain ⟨cM,cO⟩:=HXY.out wc HB1.out;have lM:P1<wc.heap.size:=by have:=HV.out.size; have:=HB1.out.size; omega
      have lO:P2<wc.heap.size:=by have:=HV.out.size; have:=HB1.out.size; omega
      have CX:=hid (fun W (_:Below wc.heap.size wc W)=>HT.out.rex W)
      go_cut [13,14] (fun u v wx=>∃ (k:Nat) (p q:Option Addr) (c d:Nat),u=.pointer (some ⟨k,0,none⟩)∧v=.bool is∧wx.heap[k]? = some (.cells #[.slice p n c,.slice q n d] 29)∧RowV wx (.agg #[.slice p n c,.slice q n d]) n f g∧Below wc.heap.size wc wx)
      case first=>
       refine z7 (.op 0 1 (.op 1 1 (.op 2 1 (.op 3 3 (.op 4 1 (.op 5 1 (.op 6 1 (.op 7 3 (.alt 8 (.op 9 1 (.op 10 1 (.op 11 1 (.alt 12 (.alt 13 (.op 14 1 .nil) .stop) .stop)))) (.alt 12 (.alt 8 (.op 9 1 (.op 10 1 (.op 11 1 (.alt 13 (.op 14 1 .nil) .stop)))) .stop) .stop)))))))))) [8,12,13] [3,7] (fun W=>Below wc.heap.size wc W) (by kernel_rfl) (by kernel_rfl) (fun _ _ d _ _ h=>by cases d<;>exact h) ((Below.refl _ _).drew) ?_;intro Z hZ hbZ;clear hZ;refine zg (fun K hK=>?_);go_simp;refine hK _ ?_;clear hK K;refine zg (fun K hK=>?_);go_simp;refine hK _ ?_;clear hK K;refine zg (fun K hK=>?_);go_simp;refine hK _ ?_;clear hK K;refine zR (v:=.int .i64 x) rfl rfl (fun wk hwk=>?_) ?_
       ·rw [← (yf hwk).1 _ _ lM] at cM;go_simp
       refine zg (fun K hK=>?_);go_simp;refine hK _ ?_;clear hK K;refine zg (fun K hK=>?_);go_simp;refine hK _ ?_;clear hK K;refine zg (fun K hK=>?_);go_simp;refine hK _ ?_;clear hK K;refine zR (v:=.int .i64 y) rfl rfl (fun wk hwk=>?_) ?_
       ·rw [← (yf hwk).1 _ _ lO] at cO;go_simp
       have HBZ0:=hid hbZ;clear hbZ cM cO lM lO;refine zd (fun K hK=>?_) ?_
       ·go_simp;refine (CX.out Z HBZ0.out).mono ?_;rintro e V1 ⟨v,rfl,hrw,hst⟩;obtain ⟨p8,q8,c8,d8,rfl⟩:∃ a c x y,v=.agg #[.slice a n x,.slice c n y]:=by obtain ⟨a,c,x,y,e,-⟩:=hrw; exact ⟨a,c,x,y,e⟩
        have hbx:=HBZ0.out.trans (hst.mono HBZ0.out.size);have HF3:=hid (hrw);refine hK _ _ (fun _=>hbx) ?_;clear hK K;have HB2:=hid hbx;clear hbx hst hrw;refine zg (fun K hK=>?_);go_simp;refine hK _ ?_;clear hK K;refine zg (fun K hK=>?_);go_simp;refine hK _ ?_;clear hK K;refine zg (fun K hK=>?_);go_simp;refine hK _ ?_;clear hK K;refine zd (fun K hK=>?_) ?_
        ·go_simp;obtain ⟨y1,y2,hst⟩:=al1 V1 (.cells #[.slice none 0 0,.slice none 0 0] 29);have hbx:=HB2.out.trans (hst.mono HB2.out.size);have HF9:=hid (HF3.out.below hst);have HL8:=hid (show wc.heap.size≤V1.heap.size from HB2.out.size);refine hK _ _ (fun _=>hbx) ?_;clear hK K;have HB6:=hid hbx;have HF7:=hid y1;clear y1 y2 hst hbx;generalize V1.alloc (.cells #[.slice none 0 0,.slice none 0 0] 29)=V4 at *;generalize V1.heap.size=k5 at *;refine zd (fun K hK=>?_) ?_
         ·have c0:=zc HF7.out 0;have f0:=zi HF7.out 0;have c1:=zc HF7.out 1;have f1:=zi HF7.out 1;simp only [List.getElem?_toArray,List.getElem?_cons_zero,List.getElem?_cons_succ] at c0 c1;go_simp;have HB11:=hid (show Below wc.heap.size wc ((V4.setCell ⟨k5,0,none⟩ (.slice p8 n c8)).setCell ⟨k5,1,none⟩ (.slice q8 n d8)) from ((HB6.out.setCell (p:=⟨k5,0,none⟩) HL8.out _).setCell (p:=⟨k5,1,none⟩) HL8.out _));have HF12:=hid (show ((V4.setCell ⟨k5,0,none⟩ (.slice p8 n c8)).setCell ⟨k5,1,none⟩ (.slice q8 n d8)).heap[k5]? = some (.cells #[.slice p8 n c8,.slice q8 n d8] 29) from (zy (zy HF7.out _) _));have HF13:=hid (HF9.out.keepS (W:=((V4.setCell ⟨k5,0,none⟩ (.slice p8 n c8)).setCell ⟨k5,1,none⟩ (.slice q8 n d8))) HF7.out (((zN.refl V4 k5).set 0 _).set 1 _));refine hK _ _ (fun _=>HB11.out) ?_;clear hK K c0 f0 c1 f1;generalize ((V4.setCell ⟨k5,0,none⟩ (.slice p8 n c8)).setCell ⟨k5,1,none⟩ (.slice q8 n d8))=V10 at *;refine zg (fun K hK=>?_);go_simp;refine hK _ ?_;clear hK K;refine zC ?_;go_wp2_with fail;go_meet;exact ⟨k5,p8,q8,c8,d8,rfl,rfl,HF12.out,HF13.out,HB11.out⟩
         exact ze
        exact ze
       refine zd (fun K hK=>?_) ?_
       ·go_simp;obtain ⟨y1,y2,hst⟩:=al1 Z (.cells #[.slice none 0 0,.slice none 0 0] 29);have hbx:=HBZ0.out.trans (hst.mono HBZ0.out.size);have HL18:=hid (show wc.heap.size≤Z.heap.size from HBZ0.out.size);refine hK _ _ (fun _=>hbx) ?_;clear hK K;have HB16:=hid hbx;have HF17:=hid y1;clear y1 y2 hst hbx;generalize Z.alloc (.cells #[.slice none 0 0,.slice none 0 0] 29)=V14 at *;generalize Z.heap.size=k15 at *;refine zd (fun K hK=>?_) ?_
        ·go_simp;refine (CX.out V14 HB16.out).mono ?_;rintro e V19 ⟨v,rfl,hrw,hst⟩;obtain ⟨p8,q8,c8,d8,rfl⟩:∃ a c x y,v=.agg #[.slice a n x,.slice c n y]:=by obtain ⟨a,c,x,y,e,-⟩:=hrw; exact ⟨a,c,x,y,e⟩
         have hbx:=HB16.out.trans (hst.mono HB16.out.size);have HF21:=hid ((hst.block k15 (zw HF17.out)).trans HF17.out);have HF22:=hid (hrw);refine hK _ _ (fun _=>hbx) ?_;clear hK K;have HB20:=hid hbx;clear hbx hst hrw;refine zg (fun K hK=>?_);go_simp;refine hK _ ?_;clear hK K;refine zg (fun K hK=>?_);go_simp;refine hK _ ?_;clear hK K;refine zg (fun K hK=>?_);go_simp;refine hK _ ?_;clear hK K;refine zd (fun K hK=>?_) ?_
         ·have c0:=zc HF21.out 0;have f0:=zi HF21.out 0;have c1:=zc HF21.out 1;have f1:=zi HF21.out 1;simp only [List.getElem?_toArray,List.getElem?_cons_zero,List.getElem?_cons_succ] at c0 c1;go_simp;have HB24:=hid (show Below wc.heap.size wc ((V19.setCell ⟨k15,0,none⟩ (.slice p8 n c8)).setCell ⟨k15,1,none⟩ (.slice q8 n d8)) from ((HB20.out.setCell (p:=⟨k15,0,none⟩) HL18.out _).setCell (p:=⟨k15,1,none⟩) HL18.out _));have HF25:=hid (show ((V19.setCell ⟨k15,0,none⟩ (.slice p8 n c8)).setCell ⟨k15,1,none⟩ (.slice q8 n d8)).heap[k15]? = some (.cells #[.slice p8 n c8,.slice q8 n d8] 29) from (zy (zy HF21.out _) _));have HF26:=hid (HF22.out.keepS (W:=((V19.setCell ⟨k15,0,none⟩ (.slice p8 n c8)).setCell ⟨k15,1,none⟩ (.slice q8 n d8))) HF21.out (((zN.refl V19 k15).set 0 _).set 1 _));refine hK _ _ (fun _=>HB24.out) ?_;clear hK K c0 f0 c1 f1;generalize ((V19.setCell ⟨k15,0,none⟩ (.slice p8 n c8)).setCell ⟨k15,1,none⟩ (.slice q8 n d8))=V23 at *;refine zg (fun K hK=>?_);go_simp;refine hK _ ?_;clear hK K;refine zC ?_;go_wp2_with fail;go_meet;exact ⟨k15,p8,q8,c8,d8,rfl,rfl,HF25.out,HF26.out,HB24.out⟩
         exact ze
        exact ze
       exact ze
      case rest=>
       obtain ⟨k2,pb,qb,cb,db,rfl,rfl,hk2,hr2,hbc⟩:=hcut;have HK2:=hid hk2;have HR2:=hid hr2
       replace HK1:=hid ((hbc.block k1 (zw HK1.out)).trans HK1.out)
       replace HR1:=hid (HR1.out.below hbc)
       replace HB1:=hid (HB1.out.trans (hbc.mono HB1.out.size))
       clear hk2 hr2 hbc cM cO lM lO CX;obtain ⟨cM,cO⟩:=HXY.out wc HB1.out;have lM:P1<wc.heap.size:=by have:=HV.out.size; have:=HB1.out.size; omega
       have lO:P2<wc.heap.size:=by have:=HV.out.size; have:=HB1.out.size; omega
       go_wp2_with fail;refine z5 [(0,1),(1,1),(2,1),(3,3),(4,1),(5,1),(6,1),(7,3),(8,0),(9,1),(10,1),(11,1),(12,1),(13,1)] (fun W=>Below wc.heap.size wc W) (by kernel_rfl) (by kernel_rfl) (fun _ _ d _ _ h=>by cases d<;>exact h) ((Below.refl _ _).drew) ?_;intro Z hZ hbZ;clear hZ
       iterate 3
        first
         | refine zj (fun K hK=>?_)
         | refine zk (fun K hK=>?_)
        go_simp;refine hK _ ?_;clear hK K
       refine z6 (v:=.int .i64 x) rfl rfl (fun wk hwk=>?_) ?_
       ·rw [← (yf hwk).1 _ _ lM] at cM;go_simp
       iterate 3
        first
         | refine zj (fun K hK=>?_)
         | refine zk (fun K hK=>?_)
        go_simp;refine hK _ ?_;clear hK K
       refine z6 (v:=.int .i64 y) rfl rfl (fun wk hwk=>?_) ?_
       ·rw [← (yf hwk).1 _ _ lO] at cO;go_simp
       refine zZ (fun K hK=>?_);go_simp;refine (HT.out.of_ Z).mono ?_;rintro e w13 ⟨vx,rfl,hvx,hbx⟩;obtain ⟨a3,c3,rfl⟩:∃ a c,vx=.slice a n c:=by obtain ⟨a,c,e,-⟩:=hvx; exact ⟨a,c,e⟩
       have hbA:=hbZ.trans (hbx.mono hbZ.size);refine hK _ _ (fun h=>Bool.noConfusion (Eq.trans (Eq.symm (by kernel_rfl:_=false)) h)) (fun _=>hbA) ?_;clear hK K
       iterate 5
        first
         | refine zj (fun K hK=>?_)
         | refine zk (fun K hK=>?_)
        go_simp;refine hK _ ?_;clear hK K
       refine zQ ?_;have HF3:=hid hvx
       replace HK1:=hid ((hbA.block k1 (zw HK1.out)).trans HK1.out)
       replace HR1:=hid (HR1.out.below hbA)
       replace HK2:=hid ((hbA.block k2 (zw HK2.out)).trans HK2.out)
       replace HR2:=hid (HR2.out.below hbA)
       replace HB1:=hid (HB1.out.trans (hbA.mono HB1.out.size))
       clear hvx hbx hbA hbZ cM cO lM lO;obtain ⟨cM,cO⟩:=HXY.out w13 HB1.out;have lM:P1<w13.heap.size:=by have:=HV.out.size; have:=HB1.out.size; omega
       have lO:P2<w13.heap.size:=by have:=HV.out.size; have:=HB1.out.size; omega
       go_wp2_with fail;refine z5 [(0,1),(1,1),(2,1),(3,3),(4,1),(5,1),(6,1),(7,3),(8,0),(9,1),(10,1),(11,1),(12,1),(13,1)] (fun W=>Below w13.heap.size w13 W) (by kernel_rfl) (by kernel_rfl) (fun _ _ d _ _ h=>by cases d<;>exact h) ((Below.refl _ _).drew) ?_;intro Z hZ hbZ;clear hZ
       iterate 3
        first
         | refine zj (fun K hK=>?_)
         | refine zk (fun K hK=>?_)
        go_simp;refine hK _ ?_;clear hK K
       refine z6 (v:=.int .i64 x) rfl rfl (fun wk hwk=>?_) ?_
       ·rw [← (yf hwk).1 _ _ lM] at cM;go_simp
       iterate 3
        first
         | refine zj (fun K hK=>?_)
         | refine zk (fun K hK=>?_)
        go_simp;refine hK _ ?_;clear hK K
       refine z6 (v:=.int .i64 y) rfl rfl (fun wk hwk=>?_) ?_
       ·rw [← (yf hwk).1 _ _ lO] at cO;go_simp
       refine zZ (fun K hK=>?_);go_simp;refine (HT.out.rof Z).mono ?_;rintro e w14 ⟨vx,rfl,hvx,hbx⟩;obtain ⟨a4,c4,rfl⟩:∃ a c,vx=.slice a n c:=by obtain ⟨a,c,e,-⟩:=hvx; exact ⟨a,c,e⟩
       have hbA:=hbZ.trans (hbx.mono hbZ.size);refine hK _ _ (fun h=>Bool.noConfusion (Eq.trans (Eq.symm (by kernel_rfl:_=false)) h)) (fun _=>hbA) ?_;clear hK K
       iterate 5
        first
         | refine zj (fun K hK=>?_)
         | refine zk (fun K hK=>?_)
        go_simp;refine hK _ ?_;clear hK K
       refine zQ ?_;have HF4:=hid hvx
       replace HK1:=hid ((hbA.block k1 (zw HK1.out)).trans HK1.out)
       replace HR1:=hid (HR1.out.below hbA)
       replace HK2:=hid ((hbA.block k2 (zw HK2.out)).trans HK2.out)
       replace HR2:=hid (HR2.out.below hbA)
       replace HB1:=hid (HB1.out.trans (hbA.mono HB1.out.size))
       replace HF3:=hid (HF3.out.below hbA)
       clear hvx hbx hbA hbZ cM cO lM lO;obtain ⟨p0,p1⟩:w14.cell? ⟨k1,0,none⟩=some (.slice pa n ca)∧w14.cell? ⟨k1,1,none⟩=some (.slice qa n da):=⟨by rw [zc HK1.out]; rfl,by rw [zc HK1.out]; rfl⟩;obtain ⟨q0,q1⟩:w14.cell? ⟨k2,0,none⟩=some (.slice pb n cb)∧w14.cell? ⟨k2,1,none⟩=some (.slice qb n db):=⟨by rw [zc HK2.out]; rfl,by rw [zc HK2.out]; rfl⟩;have hii:(is != is)=false:=by simp
       go_wp2_with fail;refine (rowSame_true _ _ n f g HT.out.le w14 HR1.out HR2.out).mono ?_;rintro e w15 ⟨rfl,hb15⟩
       replace HF3:=hid (HF3.out.below hb15)
       replace HF4:=hid (HF4.out.below hb15)
       replace HB1:=hid (HB1.out.trans (hb15.mono HB1.out.size))
       clear hb15 p0 p1 q0 q1;go_wp2_with fail;refine (wa _ _ n h w15 HF3.out HF4.out).mono ?_;rintro e w16 ⟨rfl,hb16⟩
       replace HB1:=hid (HB1.out.trans (hb16.mono HB1.out.size))
       clear hb16;go_wp2_with fail
       go_roundw
       case rel=>exact ⟨b+1,by omega,by go_num,HV.out.trans (HB1.out.mono HV.out.size)⟩
       case measure=>simp [intOf]; omega
    ·obtain rfl:b=3:=by omega
     go_wp2_with fail
     go_roundw
     case rel=>exact ⟨a+1,by omega,by go_num,HV.out⟩
     case measure=>simp [intOf]; omega
  ·obtain rfl:a=3:=by omega
   have HF:=hid (HBY.out.trans (HW.out.mono hl2.2.2));go_wp2_with fail;go_ret;exact ⟨rfl,HF.out⟩
end Go.Proofs.Ytfcjfijmdikcmaa
namespace Go.Proofs.Ytfcjfijmdikcmaa.coefAll
open Go.ChangeShapes Go.WideShapes Go.ChangeAt Go.RowKit Go.Proofs.Ytfcjfijmdikcmaa
open Lib
theorem own:ownKnob Try.prog.godebug=none:=by kernel_rfl
theorem float_lt {b:Nat} (h:(Lit.float .f64 b).wf=true):b<18446744073709551616:=by simpa [Lit.wf] using h
theorem int_lo {n:Int} (h:(Lit.int .i64 n).wf=true):-9223372036854775808≤n∧n≤9223372036854775807:=by
 have a:IntKind.i64.min=-9223372036854775808:=by decide
 have b:IntKind.i64.max=9223372036854775807:=by decide
 simp only [Lit.wf,Bool.and_eq_true,decide_eq_true_eq] at h; omega
set_option maxRecDepth 100000
theorem lifted (os:Os) (started:os.Started) (H:Type) (enc:TypeId × Value→H) :
  ReturnsInHanded {} Try.checked os 3 .any (Rows.coefAllSpec.pre6 enc Try.prog Try.f3 Rows.coefAllRow.domain false) (Rows.coefAllSpec.post enc Try.prog Try.f3 false true false false):=by
 refine returnsInHanded_of_change (C:=Try.checked) own started (by kernel_rfl) Try.func3
  (ChangeSpec.witness6 (enc:=enc) (C:=Try.checked) false ⟨#[],#[.int .i64 0,.int .i64 0,.int .i64 0],[]⟩ 8 (by kernel_rfl) (by kernel_rfl) (by kernel_rfl) (by kernel_rfl)) ?_
 intro W base args ds gs before hval0 hW hcnd _;have hval:∀ (j:Nat) t v,Try.f3.params[j]? = some t→args[j]? = some v→Value.okWide Try.prog W .any base t v:=hval0;have hW':=hW;obtain ⟨p,q,hA0,hV,rfl,hfz,hnd⟩:=hW;have hA:DataW.TrodAll enc Try.prog W 0 (fun _=>true) true Try.f3.params.toList args.toList ds p:=hA0;rw [Try.params3] at hA hval;obtain ⟨v0,vs0,d0,ds0,p0,q0,hargs,rfl,rfl,h0,r0⟩:=trodAll_cons hA;obtain ⟨v1,vs1,d1,ds1,p1,q1,rfl,rfl,rfl,h1,r1⟩:=trodAll_cons r0;obtain ⟨v2,vs2,d2,ds2,p2,q2,rfl,rfl,rfl,h2,r2⟩:=trodAll_cons r1;obtain ⟨rfl,rfl,rfl⟩:=trodAll_nil r2;obtain rfl:args=#[v0,v1,v2]:=by cases args; simp_all
 obtain ⟨rfl,rfl⟩:=trodVars_none hV;obtain ⟨a0,rfl,rfl,rfl,w0⟩:=open_int Try.underlying3 (hval 0 3 v0 rfl rfl) h0;obtain ⟨a1,rfl,rfl,rfl,w1⟩:=open_int Try.underlying3 (hval 1 3 v1 rfl rfl) h1;obtain ⟨a2,rfl,rfl,rfl,w2⟩:=open_int Try.underlying3 (hval 2 3 v2 rfl rfl) h2;clear hA0 hval0;simp only [List.append_nil] at hW';refine (coefAll_any a0 a1 a2 W (int_lo w0) (int_lo w1) (int_lo w2)).mono fun e W' ⟨he,hb⟩=>?_
 subst he;exact ⟨_,rfl,⟨_,_,_,[],_,[],hW',(trodAll_cons_mk (shut_bool Try.underlying4 _) trodAll_mk0),(trodAll_cons_mk (shut_int Try.underlying3 w0) (trodAll_cons_mk (shut_int Try.underlying3 w1) (trodAll_cons_mk (shut_int Try.underlying3 w2) trodAll_mk0))),rfl,hb.frame _,fun h=>by cases h⟩⟩
theorem over:Rows.coefAllRow.holds Try.pinned (OpenSpec.ofChange Rows.coefAllSpec):=
 OpenClaim.holds_of_wide 3 Try.f3 rfl rfl rfl rfl rfl rfl rfl ⟨rfl,rfl,rfl,rfl,rfl⟩ rfl rfl rfl rfl rfl (by kernel_rfl) Try.func3 (by kernel_rfl)
  (of_decide_eq_true (by kernel_rfl)) (by unfold Func.isWrapper; first | (rw [if_pos (by decide +kernel)]; kernel_rfl) | (rw [if_neg (by decide +kernel)]; exact ⟨rfl,rfl⟩))
  (fun os started H enc _=>lifted os started H enc)
theorem proved:Rows.CoefAllSaid:=
 over
#print axioms proved
end Go.Proofs.Ytfcjfijmdikcmaa.coefAll
