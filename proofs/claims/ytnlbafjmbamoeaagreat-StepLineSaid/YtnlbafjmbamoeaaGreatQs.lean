/-
  The laws of one step: what an attempt may be; what a round with both attempts keeps.
-/
import Derived.Test.YtnlbafjmbamoeaaGreatQr
namespace Go.Proofs.YtnlbafjmbamoeaaGreat
open Go.RowKit
open Ieee (double)
open Lib
def Tri (n:Nat) (R:Tr) (w:World) (v:Value):Prop:=∃ (b1:Option Addr) (e1:Nat) (b2:Option Addr) (e2 y:Nat),v=.agg #[.int .i64 R.S.at_,.int .i64 (tk R.S.k),.int .i64 R.S.q,.int .i64 R.S.M,.slice b1 (R.S.q+1) e1,.int .i64 R.S.good,.int .i64 R.S.fails,.int .i64 R.S.slow,.int .i64 R.N.at_,.int .i64 R.N.st,.int .i64 R.N.q,.int .i64 R.N.M,.slice b2 R.N.rows e2,.bool R.took,.float .f64 y,.int .i64 R.e]∧zk y=R.err∧wi 0 w (.slice b1 (R.S.q+1) e1) (R.S.q+1) n R.S.z∧wi 0 w (.slice b2 R.N.rows e2) R.N.rows n R.N.z
theorem Tri.below {n:Nat} {R:Tr} {w w':World} {v:Value} (h:Tri n R w v) (hb:Below w.heap.size w w'):Tri n R w' v:=by
 obtain ⟨b1,e1,b2,e2,y,h0,h1,h2,h3⟩:=h;exact ⟨b1,e1,b2,e2,y,h0,h1,h2.below hb,h3.below hb⟩
def Emp (base:Nat) (t:TypeId) (w:World) (u:Value):Prop:=∃ (P:Nat) (cs:Array Value),u=.pointer (some ⟨P,0,none⟩)∧base≤P∧cs.size=16∧w.heap[P]? = some (.cells cs t (0,0))
theorem Emp.below {base:Nat} {t:TypeId} {w w':World} {u:Value} (h:Emp base t w u) (hb:Below w.heap.size w w'):Emp base t w' u:=by
 obtain ⟨P,cs,h0,h1,h2,h3⟩:=h;exact ⟨P,cs,h0,h1,h2,(hb.block P (zj h3)).trans h3⟩
def Fil (n:Nat) (R:Tr) (t:TypeId) (w:World) (u:Value):Prop:=∃ (P:Nat) (b1:Option Addr) (e1:Nat) (b2:Option Addr) (e2 y:Nat),u=.pointer (some ⟨P,0,none⟩)∧w.heap[P]? = some (.cells #[.int .i64 R.S.at_,.int .i64 (tk R.S.k),.int .i64 R.S.q,.int .i64 R.S.M,.slice b1 (R.S.q+1) e1,.int .i64 R.S.good,.int .i64 R.S.fails,.int .i64 R.S.slow,.int .i64 R.N.at_,.int .i64 R.N.st,.int .i64 R.N.q,.int .i64 R.N.M,.slice b2 R.N.rows e2,.bool R.took,.float .f64 y,.int .i64 R.e] t (0,0))∧zk y=R.err∧wi 0 w (.slice b1 (R.S.q+1) e1) (R.S.q+1) n R.S.z∧wi 0 w (.slice b2 R.N.rows e2) R.N.rows n R.N.z
theorem Fil.below {n:Nat} {R:Tr} {t:TypeId} {w w':World} {u:Value} (h:Fil n R t w u) (hb:Below w.heap.size w w'):Fil n R t w' u:=by
 obtain ⟨P,b1,e1,b2,e2,y,h0,h1,h2,h3,h4⟩:=h;exact ⟨P,b1,e1,b2,e2,y,h0,(hb.block P (zj h1)).trans h1,h2,h3.below hb,h4.below hb⟩
structure On (w0:World) (n:Nat) (s:Sol) (R:Tr) (L:Nat→Bool) (w:World) (u2 u3 u6 u7 u8:Value):Prop where
 b:Below w0.heap.size w0 w
 o7:L 9=true→L 7=true
 o8:L 10=true→L 8=true
 h2:L 2=true→L 3=false→∃ av cv,u2=.agg #[.int .i64 s.at_,.int .i64 (tk s.k),.int .i64 s.q,.int .i64 s.M,.slice av (s.q+1) cv,.int .i64 s.good,.int .i64 s.fails,.int .i64 s.slow]∧yB w (.slice av (s.q+1) cv) (s.q+1) (fun _=>n) s.z
 h3:L 3=true→Tri n R w u3
 h6:L 6=true→Tri n R w u6
 h7:L 7=true→L 9=false→Emp w0.heap.size 45 w u7
 h8:L 8=true→L 10=false→Emp w0.heap.size 49 w u8
 h9:L 9=true→Fil n R 45 w u7
 h10:L 10=true→Fil n R 49 w u8
structure OnA (w0:World) (n:Nat) (s:Sol) (R:Tr) (L:Nat→Bool) (w:World) (u2 u3 u4:Value):Prop where
 b:Below w0.heap.size w0 w
 o4:L 5=true→L 4=true
 h2:L 2=true→L 3=false→∃ av cv,u2=.agg #[.int .i64 s.at_,.int .i64 (tk s.k),.int .i64 s.q,.int .i64 s.M,.slice av (s.q+1) cv,.int .i64 s.good,.int .i64 s.fails,.int .i64 s.slow]∧yB w (.slice av (s.q+1) cv) (s.q+1) (fun _=>n) s.z
 h3:L 3=true→Tri n R w u3
 h4:L 4=true→L 5=false→Emp w0.heap.size 45 w u4
 h5:L 5=true→Fil n R 45 w u4
theorem tookS_cases {P:Sol→Prop} {en:Int} {s:Sol} {z:Nat→Nat→Nat} {l d:Nat→Nat} {c:Nat} (h1:P ⟨s.at_+tk s.k,s.k,s.q,s.M,z,s.good+1,0,s.slow⟩) (h2:tk s.k≤en→P ⟨s.at_+tk s.k,s.k+1,s.q,s.M,xZ z 1,0,0,s.slow⟩)
  (h3:s.q+s.M<5→P ⟨s.at_+tk s.k,s.k,s.q+1,s.M,mi z l d s.q,0,0,s.slow⟩):P (r9 en s z l d c):=by
 unfold r9;by_cases c1:s.good+1≤s.q+1
 ·rw [if_pos c1];exact h1
 ·rw [if_neg c1];by_cases c2:wH c s.q s.k en=true
  ·rw [if_pos c2];unfold wH at c2;rw [Bool.and_eq_true,decide_eq_true_eq] at c2;exact h2 c2.2
  ·rw [if_neg c2];by_cases c3:xm c s.q s.M=true
   ·rw [if_pos c3];unfold xm at c3;rw [Bool.and_eq_true,decide_eq_true_eq] at c3;exact h3 c3.2
   ·rw [if_neg c3];exact h1
theorem failS_cases {P:Sol→Prop} {T:TD} {s:Sol} {e:Int} (h1:P ⟨s.at_,s.k-1,1,1,xq T (xZ s.z (-1) 0) (xh (tk (s.k-1))),0,0,0⟩) (h2:P ⟨s.at_,s.k-1,1,s.M,xq T (xZ s.z (-1) 0) (xh (tk (s.k-1))),0,0,xU s e⟩)
  (h3:P ⟨s.at_,s.k-1,s.q,s.M,xZ s.z (-1),0,s.fails+1,xU s e⟩):P (qa T s e):=by
 unfold qa;by_cases c1:2≤xU s e
 ·rw [if_pos c1];exact h1
 ·rw [if_neg c1];by_cases c2:3≤s.fails+1
  ·rw [if_pos c2];exact h2
  ·rw [if_neg c2];exact h3
theorem tryF_cases {P:Tr→Prop} {T:TD} {n a r:Nat} {lo en:Int} {s:Sol} (hE:∀ e c,tk s.k≤lo→P ⟨s,vZ,false,c,uw e⟩) (hF:∀ e c,lo<tk s.k→P ⟨qa T s e,vZ,false,c,0⟩)
  (hT:(pP T n a r s).has=true→∀ c,leB c 4607182418800017408=true→P (tI en s (wb (wG s.z s.q) (coF s.M s.q) (pP T n a r s).d) (coF s.M s.q) (pP T n a r s).d c)):P (uG T n a r lo en s):=by
 have hf:∀ e c,P (xO T lo s e c):=fun e c=>by
  unfold xO;by_cases c1:tk s.k≤lo
  ·rw [if_pos c1];exact hE e c c1
  ·rw [if_neg c1];exact hF e c (by omega)
 unfold uG;split
 ·exact hf _ _
 ·rename_i h1
  split
  ·rename_i h2
   exact hT (by simpa using h1) _ h2
  ·exact hf _ _
theorem try_orders {T:TD} {n a r:Nat} {lo en:Int} {s:Sol} (hM:s.M<2):((uG T n a r lo en s).S.q=s.q∨(uG T n a r lo en s).S.q=s.q+1∨(uG T n a r lo en s).S.q=1)∧s.M≤(uG T n a r lo en s).S.M∧((uG T n a r lo en s).took=true→s.q≤(uG T n a r lo en s).S.q):=by
 refine tryF_cases (P:=fun R=>(R.S.q=s.q∨R.S.q=s.q+1∨R.S.q=1)∧s.M≤R.S.M∧(R.took=true→s.q≤R.S.q)) (fun e c _=>⟨.inl rfl,Nat.le_refl _,fun h=>Bool.noConfusion h⟩) (fun e c _=>?_) (fun _ c _=>?_)
 ·refine failS_cases (P:=fun S=>(S.q=s.q∨S.q=s.q+1∨S.q=1)∧s.M≤S.M∧(false=true→s.q≤S.q)) ⟨.inr (.inr rfl),by show s.M≤1; omega,fun h=>Bool.noConfusion h⟩ ⟨.inr (.inr rfl),Nat.le_refl _,fun h=>Bool.noConfusion h⟩ ⟨.inl rfl,Nat.le_refl _,fun h=>Bool.noConfusion h⟩
 ·refine tookS_cases (P:=fun S=>(S.q=s.q∨S.q=s.q+1∨S.q=1)∧s.M≤S.M∧(true=true→s.q≤S.q)) ⟨.inl rfl,Nat.le_refl _,fun _=>Nat.le_refl _⟩ (fun _=>⟨.inl rfl,Nat.le_refl _,fun _=>Nat.le_refl _⟩) (fun _=>⟨.inr (.inl rfl),Nat.le_refl _,fun _=>Nat.le_succ _⟩)
theorem try_fails {T:TD} {n a r:Nat} {lo en:Int} {s:Sol} (hf:0≤s.fails):(uG T n a r lo en s).took=false→(uG T n a r lo en s).e=0→(uG T n a r lo en s).S.fails=0→(uG T n a r lo en s).S.q=1:=by
 refine tryF_cases (P:=fun R=>R.took=false→R.e=0→R.S.fails=0→R.S.q=1) (fun e c _=>fun _ h=>?_) (fun e c _=>?_) (fun _ c _=>fun h=>Bool.noConfusion h)
 ·exfalso;revert h;show uw e=0→False;unfold uw;split<;>omega
 ·refine failS_cases (P:=fun S=>false=false→(0:Int)=0→S.fails=0→S.q=1) (fun _ _ _=>rfl) (fun _ _ _=>rfl) (fun _ _ h=>?_);have:s.fails+1=0:=h;omega
theorem try_steps {T:TD} {n a r:Nat} {lo en:Int} {s:Sol} {M:Int} (hen:en≤M) (h1:lo≤2*tk s.k) (h2:tk s.k≤2*M):lo≤2*tk (uG T n a r lo en s).S.k∧tk (uG T n a r lo en s).S.k≤2*M:=by
 have hk1:=uZ s.k;have hs:=tJ s.k;refine tryF_cases (P:=fun R=>lo≤2*tk R.S.k∧tk R.S.k≤2*M) (fun e c _=>⟨h1,h2⟩) (fun e c hl=>?_) (fun _ c _=>?_)
 ·have hh:lo≤2*tk (s.k-1)∧tk (s.k-1)≤2*M:=by
   rcases Nat.eq_zero_or_pos s.k with h0 | h0
   ·rw [h0] at hl h1 h2 ⊢;exact ⟨h1,h2⟩
   ·have:=tk_half h0;have:=uZ (s.k-1);omega
  exact failS_cases (P:=fun S=>lo≤2*tk S.k∧tk S.k≤2*M) hh hh hh
 ·exact tookS_cases (P:=fun S=>lo≤2*tk S.k∧tk S.k≤2*M) ⟨h1,h2⟩ (fun h=>by show lo≤2*tk (s.k+1)∧tk (s.k+1)≤2*M; omega) (fun _=>⟨h1,h2⟩)
structure Takes (s:Sol) (R:Tr):Prop where
 e:R.took=true→R.e=0
 le:R.took=true→leB R.err 4607182418800017408=true
 nat:R.took=true→R.N.at_=s.at_+tk s.k∧R.N.st=tk s.k∧R.N.q=s.q∧R.N.M=s.M∧R.S.at_=s.at_+tk s.k∧R.S.fails=0
 k:R.took=true→(tk R.S.k=tk s.k∧(R.S.q=s.q∨R.S.q=s.q+1))∨(tk R.S.k=2*tk s.k∧R.S.q=s.q)
 no:R.took=false→R.S.at_=s.at_∧R.N.rows=0
 half:R.took=false→R.e=0→2*tk R.S.k=tk s.k
 end_:R.took=false→R.e≠0→tk R.S.k=tk s.k
theorem try_takes {T:TD} {n a r:Nat} {lo en:Int} {s:Sol} (hlo:1≤lo):Takes s (uG T n a r lo en s):=by
 refine tryF_cases (P:=fun R=>Takes s R) (fun e c _=>?_) (fun e c hl=>?_) (fun _ c hc=>?_)
 ·exact ⟨fun h=>Bool.noConfusion h,fun h=>Bool.noConfusion h,fun h=>Bool.noConfusion h,fun h=>Bool.noConfusion h,fun _=>⟨rfl,rfl⟩,fun _ h=>by
   exfalso;revert h;show uw e=0→False;unfold uw;split<;>omega,fun _ _=>rfl⟩
 ·have hk:1≤s.k:=lf (by omega);have hh:=tk_half hk;have hS:(qa T s e).at_=s.at_∧(qa T s e).k=s.k-1:=failS_cases (P:=fun S=>S.at_=s.at_∧S.k=s.k-1) ⟨rfl,rfl⟩ ⟨rfl,rfl⟩ ⟨rfl,rfl⟩;exact ⟨fun h=>Bool.noConfusion h,fun h=>Bool.noConfusion h,fun h=>Bool.noConfusion h,fun h=>Bool.noConfusion h,fun _=>⟨hS.1,rfl⟩,fun _ _=>by show 2*tk (qa T s e).k=tk s.k; rw [hS.2]; omega,fun _ h=>absurd rfl h⟩
 ·have hs:=tJ s.k
  have hS:=tookS_cases (P:=fun S=>S.at_=s.at_+tk s.k∧S.fails=0∧((tk S.k=tk s.k∧(S.q=s.q∨S.q=s.q+1))∨(tk S.k=2*tk s.k∧S.q=s.q))) (en:=en) (s:=s) (z:=(wb (wG s.z s.q) (coF s.M s.q) (pP T n a r s).d)) (l:=coF s.M s.q) (d:=(pP T n a r s).d) (c:=c)
   ⟨rfl,rfl,.inl ⟨rfl,.inl rfl⟩⟩ (fun _=>⟨rfl,rfl,.inr ⟨hs,rfl⟩⟩) (fun _=>⟨rfl,rfl,.inl ⟨rfl,.inr rfl⟩⟩)
  exact ⟨fun _=>rfl,fun _=>hc,fun _=>⟨rfl,rfl,rfl,rfl,hS.1,hS.2.1⟩,fun _=>hS.2.2,fun h=>Bool.noConfusion h,fun h=>Bool.noConfusion h,fun h=>Bool.noConfusion h⟩
theorem try_errs {T:TD} {n a r:Nat} {lo en:Int} {s:Sol}:(uG T n a r lo en s).e≠0→tk s.k≤lo∧(uG T n a r lo en s).took=false∧(uG T n a r lo en s).S=s∧((uG T n a r lo en s).e=5∨(uG T n a r lo en s).e=4∨(uG T n a r lo en s).e=2):=by
 refine tryF_cases (P:=fun R=>R.e≠0→tk s.k≤lo∧R.took=false∧R.S=s∧(R.e=5∨R.e=4∨R.e=2)) (fun e c h _=>⟨h,rfl,rfl,?_⟩) (fun e c _ h=>absurd rfl h) (fun _ c _ h=>absurd rfl h);show uw e=5∨uw e=4∨uw e=2;unfold uw;split
 ·rename_i h
  rcases h with h | h
  ·exact .inr (.inl h)
  ·exact .inr (.inr h)
 ·exact .inl rfl
end Go.Proofs.YtnlbafjmbamoeaaGreat
