/-
  Polynomials with what is left over: plain functions, and how they lie in memory.
-/
import Derived.Test.YtgnledamhjbafaaQm
import Derived.Deep.MidRow
namespace Go.Proofs.Ytgnledamhjbafaa
open Go.RowKit
open Ieee (double)
open Lib
abbrev PQ:=Nat × Nat
def addQ (x y:PQ):PQ:=xP x.1 x.2 y.1 y.2
def subQ (x y:PQ):PQ:=yT x.1 x.2 y.1 y.2
def mulQ (x y:PQ):PQ:=yX x.1 x.2 y.1 y.2
def divQ (x y:PQ):PQ:=vQ x.1 x.2 y.1 y.2
def ivQ (x:PQ):Value:=iv x.1 x.2
def powQ (k:Nat):PQ:=if k % 2=0 then (0,4607182418800017408) else (13830554455654793216,0)
def polQ (C:Nat→PQ):Nat→PQ
 | 0=>C 0
 | k+1=>addQ (polQ C k) (mulQ (C (k+1)) (powQ (k+1)))
def rngQ (C:Nat→PQ):PQ:=addQ (polQ C 8) (C 9)
def pairM (f:PQ→PQ→PQ) (a b:Nat→PQ) (k:Nat):PQ:=f (a k) (b k)
def alQ (t:Nat→Nat→PQ) (k:Nat):Nat→PQ
 | 0=>t 0 k
 | j+1=>addQ (alQ t k j) (t (j+1) (k-(j+1)))
def ovJ (t:Nat→Nat→PQ) (i:Nat) (r:PQ):Nat→PQ
 | 0=>r
 | j+1=>if 8<i+j then addQ (ovJ t i r j) (mulQ (t i j) (powQ (i+j))) else ovJ t i r j
def ovI (t:Nat→Nat→PQ):Nat→PQ
 | 0=>(0,0)
 | i+1=>ovJ t i (ovI t i) 9
def restQ (t:Nat→Nat→PQ) (a b:Nat→PQ):PQ:=addQ (addQ (ovI t 9) (mulQ (a 9) (rngQ b))) (mulQ (polQ a 8) (b 9))
def mulT (t:Nat→Nat→PQ) (a b:Nat→PQ) (k:Nat):PQ:=if k<9 then alQ t k k else restQ t a b
def mulM (a b:Nat→PQ):Nat→PQ:=mulT (fun i j=>mulQ (a i) (b j)) a b
def lsQ (a b q:Nat→PQ) (k:Nat):Nat→PQ
 | 0=>a k
 | j+1=>subQ (lsQ a b q k j) (mulQ (b (j+1)) (q (k-(j+1))))
def quL (a b:Nat→PQ):Nat→Nat→PQ
 | 0=>fun _=>(0,0)
 | k+1=>vM (quL a b k) k (divQ (lsQ a b (quL a b k) k k) (b 0))
def hold0 (p:PQ):Bool:=leB p.1 0&&leB 0 p.2
def wholeM (k:Nat):PQ:=if k=9 then (18442240474082181120,9218868437227405312) else (0,0)
def divM (a b:Nat→PQ):Nat→PQ:=
 if hold0 (b 0) || hold0 (rngQ b) then wholeM
 else vM (quL a b 9) 9 (divQ (rngQ (pairM subQ a (mulM b (quL a b 9)))) (rngQ b))
def clQ (F:Nat→PQ):Nat→List Value
 | 0=>[]
 | n+1=>clQ F n ++ [.float .f64 (F n).1,.float .f64 (F n).2]
theorem clQ_len (F:Nat→PQ):∀ n,(clQ F n).length=n*2
 | 0=>rfl
 | n+1=>by rw [clQ,List.length_append,clQ_len F n]; simp; omega
theorem clQ_get (F:Nat→PQ) {k:Nat}:∀ {n:Nat},k<n→(clQ F n)[k*2]? = some (.float .f64 (F k).1)∧(clQ F n)[k*2+1]? = some (.float .f64 (F k).2)
 | n+1,h=>by
  have hl:=clQ_len F n;by_cases e:k=n
  ·subst e;refine ⟨?_,?_⟩
   ·rw [clQ,List.getElem?_append_right (by omega),hl]; simp
   ·rw [clQ,List.getElem?_append_right (by omega),hl,show k*2+1-k*2=1 by omega]; rfl
  ·rw [clQ,List.getElem?_append_left (by omega),List.getElem?_append_left (by omega)];exact clQ_get F (by omega)
theorem clQ_one (F:Nat→PQ):∀ n v,v ∈ clQ F n→v.oneCell'=true
 | 0,v,h=>by cases h
 | n+1,v,h=>by
  rw [clQ,List.mem_append] at h;rcases h with h | h
  ·exact clQ_one F n v h
  ·simp only [List.mem_cons,List.not_mem_nil,or_false] at h;rcases h with rfl | rfl<;>rfl
theorem clQ_congr {F G:Nat→PQ}:∀ {n:Nat},(∀ k,k<n→F k=G k)→clQ F n=clQ G n
 | 0,_=>rfl
 | n+1,h=>by rw [clQ,clQ,clQ_congr (n:=n) (fun k hk=>h k (by omega)),h n (by omega)]
def modV (F:Nat→PQ):Value:=.agg (clQ F 10).toArray
theorem modV_congr {F G:Nat→PQ} (h:∀ k,k<10→F k=G k):modV F=modV G:=by unfold modV; rw [clQ_congr h]
structure PB (w:World) (b n:Nat) (F:Nat→PQ):Prop where
 at0:∀ k,k<n→w.cell? ⟨b,k*2,none⟩=some (.float .f64 (F k).1)
 at1:∀ k,k<n→w.cell? ⟨b,k*2+1,none⟩=some (.float .f64 (F k).2)
 free:∀ o,w.frozen? ⟨b,o,none⟩=false
 lt:b<w.heap.size
theorem PB.below {w w':World} {b n B:Nat} {F:Nat→PQ} (h:PB w b n F) (hb:Below B w w') (hl:b<B):PB w' b n F:=by
 have e:=hb.block b hl;exact ⟨fun k hk=>(World.cell?_of_block (a:=⟨b,k*2,none⟩) e).trans (h.at0 k hk),fun k hk=>(World.cell?_of_block (a:=⟨b,k*2+1,none⟩) e).trans (h.at1 k hk),fun o=>by rw [← h.free o]; unfold World.frozen?; simp only [e],Nat.lt_of_lt_of_le h.lt hb.size⟩
theorem PB.new (w:World) (n:Nat) (F:Nat→PQ) (t:TypeId):PB (w.alloc (.cells (clQ F n).toArray t)) w.heap.size n F:=
 ⟨fun k hk=>by rw [World.cell?_alloc_new]; simpa using (clQ_get F hk).1,fun k hk=>by rw [World.cell?_alloc_new]; simpa using (clQ_get F hk).2,fun o=>by simp [go_sem],by simp⟩
theorem PB.same {w w':World} {b n:Nat} {F:Nat→PQ} (h:PB w b n F) (e:w'.heap[b]? = w.heap[b]?) (hs:b<w'.heap.size):PB w' b n F:=
 ⟨fun k hk=>(World.cell?_of_block (a:=⟨b,k*2,none⟩) e).trans (h.at0 k hk),fun k hk=>(World.cell?_of_block (a:=⟨b,k*2+1,none⟩) e).trans (h.at1 k hk),fun o=>by rw [← h.free o]; unfold World.frozen?; simp only [e],hs⟩
theorem PB.congr {w:World} {b n:Nat} {F G:Nat→PQ} (h:PB w b n F) (e:∀ k,k<n→F k=G k):PB w b n G:=
 ⟨fun k hk=>by rw [← e k hk]; exact h.at0 k hk,fun k hk=>by rw [← e k hk]; exact h.at1 k hk,h.free,h.lt⟩
theorem PB.set {w:World} {b n:Nat} {F:Nat→PQ} (h:PB w b n F) {k:Nat} (hk:k<n) (p:PQ):PB ((w.setCell ⟨b,k*2,none⟩ (.float .f64 p.1)).setCell ⟨b,k*2+1,none⟩ (.float .f64 p.2)) b n (vM F k p):=by
 have e0:=h.at0 k hk;have e1:(w.setCell ⟨b,k*2,none⟩ (.float .f64 p.1)).cell? ⟨b,k*2+1,none⟩=some (.float .f64 (F k).2):=by rw [ve _ e0,if_neg (by omega)]; exact h.at1 k hk
 have get:∀ o,((w.setCell ⟨b,k*2,none⟩ (.float .f64 p.1)).setCell ⟨b,k*2+1,none⟩ (.float .f64 p.2)).cell? ⟨b,o,none⟩=if o=k*2+1 then some (.float .f64 p.2) else if o=k*2 then some (.float .f64 p.1) else w.cell? ⟨b,o,none⟩:=fun o=>by rw [ve _ e1,ve _ e0]
 refine ⟨fun j hj=>?_,fun j hj=>?_,fun o=>by rw [uu,uu]; exact h.free o,by simp [World.setCell]; exact h.lt⟩
 ·rw [get,if_neg (by omega)];by_cases e:j=k
  ·subst e; rw [if_pos rfl,yp]
  ·rw [if_neg (by omega),zY _ _ e]; exact h.at0 j hj
 ·rw [get];by_cases e:j=k
  ·subst e; rw [if_pos rfl,yp]
  ·rw [if_neg (by omega),if_neg (by omega),zY _ _ e]; exact h.at1 j hj
theorem PB.other {w:World} {b n B o:Nat} {F:Nat→PQ} (h:PB w b n F) (hne:B≠b) (v:Value):PB (w.setCell ⟨B,o,none⟩ v) b n F:=
 h.same (Below.heap_setCell _ _ _ _ (fun e=>hne (by simpa using e.symm))) (by simp [World.setCell]; exact h.lt)
theorem PB.range {w:World} {b n:Nat} {F:Nat→PQ} (h:PB w b n F):w.rangeAt b 0 (clQ F n):=fun j v hv=>by
 have hl:=clQ_len F n;have hj:j<n*2:=by rw [← hl]; exact (List.getElem?_eq_some_iff.1 hv).1
 rw [Nat.zero_add,← hv];have e:j=j / 2*2∨j=j / 2*2+1:=by omega
 rcases e with e | e
 ·rw [e,h.at0 _ (by omega),(clQ_get F (k:=j / 2) (n:=n) (by omega)).1]
 ·rw [e,h.at1 _ (by omega),(clQ_get F (k:=j / 2) (n:=n) (by omega)).2]
theorem PB.there {w:World} {b n:Nat} {F:Nat→PQ} (h:PB w b n F):w.there b 0 (n*2):=fun j hj=>by
 rw [Nat.zero_add];refine ⟨?_,h.free j⟩;have e:j=j / 2*2∨j=j / 2*2+1:=by omega
 rcases e with e | e
 ·rw [e,h.at0 _ (by omega)]; rfl
 ·rw [e,h.at1 _ (by omega)]; rfl
theorem setCells_below {b:Nat}:∀ (vs:List Value) (o:Nat) (w:World),Below b w (w.setCells b o vs)
 | [],_,_=>Below.refl _ _
 | v :: r,o,w=>by
  rw [World.setCells];exact ((Below.refl b w).setCell (p:=⟨b,o,none⟩) (Nat.le_refl _) v).trans (setCells_below r (o+1) _)
theorem setCells_size {b:Nat}:∀ (vs:List Value) (o:Nat) (w:World),(w.setCells b o vs).heap.size=w.heap.size
 | [],_,_=>rfl
 | v :: r,o,w=>by rw [World.setCells,setCells_size r (o+1) _]; simp [World.setCell]
theorem setCells_free {b:Nat} {a:Addr}:∀ (vs:List Value) (o:Nat) (w:World),(w.setCells b o vs).frozen? a=w.frozen? a
 | [],_,_=>rfl
 | v :: r,o,w=>by rw [World.setCells,setCells_free r (o+1) _]; simp [go_sem]
theorem PB.put {w:World} {b n:Nat} {F:Nat→PQ} (h:PB w b n F) (G:Nat→PQ):PB (w.setCells b 0 (clQ G n)) b n G∧Below b w (w.setCells b 0 (clQ G n)):=by
 have hl:=clQ_len G n;have ht:w.there b 0 (clQ G n).length:=by rw [hl]; exact h.there
 have hr:=World.rangeAt_setCells_same w b 0 (clQ G n) ht;have hbl:=setCells_below (b:=b) (clQ G n) 0 w;refine ⟨⟨fun k hk=>?_,fun k hk=>?_,fun o=>?_,?_⟩,hbl⟩
 ·have:=hr (k*2) _ (clQ_get G hk).1; rwa [Nat.zero_add] at this
 ·have:=hr (k*2+1) _ (clQ_get G hk).2; rwa [Nat.zero_add] at this
 ·rw [setCells_free]; exact h.free o
 ·have:=hbl.size; have:=setCells_size (b:=b) (clQ G n) 0 w; have:=h.lt; omega
end Go.Proofs.Ytgnledamhjbafaa
