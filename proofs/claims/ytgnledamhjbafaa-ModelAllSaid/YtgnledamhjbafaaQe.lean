/-
  Contracts (what a function tells) and plain facts that a law's proof hangs on, for every input; no condition but those in their statements. Laid together of the texts Hg, Hi, Hv, Trw.
-/
import Derived.Lib.Hide
import Derived.Test.YtgnledamhjbafaaQd
import Derived.Laws.CopyOwn
namespace Go.Proofs.Ytgnledamhjbafaa
open Go.RowKit Lib
open Ieee (double)
theorem infoF:(Try.prog.info? 24).map (fun i=>(i.zero,i.size,i.bytes))=some (some (.float .f64 0),1,8):=by kernel_rfl
structure xy (w:World) (base G n j m:Nat) (blk cap:Nat→Nat) (f:Nat→Nat→Nat):Prop where
 own:∃ rs,w.ownsRow base 34 1 (.slice (some ⟨G,0,none⟩) n n) n rs∧∀ i,i<j→rs[i]? = some (.slice (some ⟨blk i,0,none⟩) m (cap i))
 row:∀ i,i<j→zM w base (blk i) m (cap i) (f i)
 inj:∀ i k,i<j→k<j→blk i=blk k→i=k
 off:∀ i,i<j→blk i≠G
theorem xy.lt {w:World} {base G n j m:Nat} {blk cap:Nat→Nat} {f:Nat→Nat→Nat} (h:xy w base G n j m blk cap f):base≤G∧G<w.heap.size:=by
 obtain ⟨⟨rs,h1,-⟩,-⟩:=h;exact h1.lt G rfl
theorem xy.grid {w:World} {base G n m:Nat} {blk cap:Nat→Nat} {f:Nat→Nat→Nat} (h:xy w base G n n m blk cap f):xh w base G n m blk cap f:=by
 have hl:=h.lt;obtain ⟨⟨rs,h1,h2⟩,h3,h4,h5⟩:=h;exact ⟨fun i hi=>(h1.cellAt i (by omega)).trans (h2 i hi),fun i _=>h1.frozenAt i,h3,h4,h5,hl.1,hl.2⟩
theorem xz {w w':World} {base R n cap:Nat} {E:TypeId} {rs:List Value} (h:w.ownsRow base E 1 (.slice (some ⟨R,0,none⟩) n cap) n rs) (hb:w'.heap[R]? = w.heap[R]?):w'.ownsRow base E 1 (.slice (some ⟨R,0,none⟩) n cap) n rs:=by
 obtain ⟨h1,h2⟩:=h;refine ⟨h1,?_⟩;rcases h2 with ⟨h2,-⟩ | ⟨g,c,cur,hv,hg,hh,r⟩
 ·cases h2
 ·simp only [Value.slice.injEq,Option.some.injEq,Addr.mk.injEq] at hv;obtain ⟨⟨rfl,-⟩,-,rfl⟩:=hv;exact .inr ⟨_,_,cur,rfl,hg,hb.trans hh,r⟩
theorem zM.heap {w:World} {base R n cap:Nat} {f:Nat→Nat} (h:zM w base R n cap f):∃ cur:List Value,w.heap[R]? = some (.cells cur.toArray 24 (0,0))∧cur.length=cap∧n≤cap:=by
 obtain ⟨rs,⟨h1,h2⟩,-⟩:=h;rcases h2 with ⟨h2,-⟩ | ⟨g,c,cur,hv,hg,hh,hn,hm,hs,-⟩
 ·cases h2
 ·simp only [Value.slice.injEq,Option.some.injEq,Addr.mk.injEq] at hv;obtain ⟨⟨rfl,-⟩,-,rfl⟩:=hv;exact ⟨cur.toList,by simpa using hh,by simpa using hs,hn⟩
theorem xy.below {w w':World} {base G n j m:Nat} {blk cap:Nat→Nat} {f:Nat→Nat→Nat} (h:xy w base G n j m blk cap f) {B:Nat} (hb:Below B w w') (hG:G<B) (hB:∀ i,i<j→blk i<B):xy w' base G n j m blk cap f:=by
 obtain ⟨⟨rs,h1,h2⟩,h3,h4,h5⟩:=h;exact ⟨⟨rs,xz h1 (hb.block G hG),h2⟩,fun i hi=>(h3 i hi).below hb (hB i hi),h4,h5⟩
theorem xy.congr {w:World} {base G n j m:Nat} {blk cap:Nat→Nat} {f g:Nat→Nat→Nat} (h:xy w base G n j m blk cap f) (e:∀ i k,i<j→k<m→f i k=g i k):xy w base G n j m blk cap g:=
 ⟨h.own,fun i hi=>(h.row i hi).congr (fun k hk=>e i k hi hk),h.inj,h.off⟩
def yg (w:World) (base R n cap:Nat) (f:Nat→Int):Prop:=
 ∃ rs,w.ownsRow base 3 1 (.slice (some ⟨R,0,none⟩) n cap) n rs∧∀ j,j<n→rs[j]? = some (.int .i64 (f j))
theorem yg.cell {w:World} {base R n cap:Nat} {f:Nat→Int} (h:yg w base R n cap f) {j:Nat} (hj:j<n):w.cell? ⟨R,j,none⟩=some (.int .i64 (f j)):=by
 obtain ⟨rs,h1,h2⟩:=h;exact (h1.cellAt j (by omega)).trans (h2 j hj)
theorem yg.free {w:World} {base R n cap:Nat} {f:Nat→Int} (h:yg w base R n cap f) (j:Nat):w.frozen? ⟨R,j,none⟩=false:=by
 obtain ⟨rs,h1,-⟩:=h;exact h1.frozenAt j
theorem yg.lt {w:World} {base R n cap:Nat} {f:Nat→Int} (h:yg w base R n cap f):base≤R∧R<w.heap.size:=by
 obtain ⟨rs,h1,-⟩:=h;exact h1.lt R rfl
theorem yg.kept {w w':World} {base R n cap:Nat} {f:Nat→Int} (h:yg w base R n cap f) (hb:w'.heap[R]? = w.heap[R]?):yg w' base R n cap f:=by
 obtain ⟨rs,h1,h3⟩:=h;exact ⟨rs,xz h1 hb,h3⟩
theorem yg.below {w w':World} {base R n cap:Nat} {f:Nat→Int} (h:yg w base R n cap f) {B:Nat} (hb:Below B w w') (hB:R<B):yg w' base R n cap f:=h.kept (hb.block R hB)
theorem yg.base {w:World} {base b' R n cap:Nat} {f:Nat→Int} (h:yg w base R n cap f) (hb:b'≤R):yg w b' R n cap f:=by
 obtain ⟨rs,⟨h1,h2⟩,h3⟩:=h;refine ⟨rs,⟨h1,?_⟩,h3⟩;rcases h2 with ⟨h2,-⟩ | ⟨g,c,cur,hv,hg,r⟩
 ·cases h2
 ·simp only [Value.slice.injEq,Option.some.injEq,Addr.mk.injEq] at hv;obtain ⟨⟨rfl,-⟩,-,rfl⟩:=hv;exact .inr ⟨_,_,cur,rfl,hb,r⟩
theorem yg.congr {w:World} {base R n cap:Nat} {f g:Nat→Int} (h:yg w base R n cap f) (e:∀ j,j<n→f j=g j):yg w base R n cap g:=by
 obtain ⟨rs,h1,h2⟩:=h;exact ⟨rs,h1,fun j hj=>by rw [← e j hj]; exact h2 j hj⟩
theorem yg.set {w:World} {base R n cap:Nat} {f:Nat→Int} (h:yg w base R n cap f) {j:Nat} (hj:j<n) (c:Int):yg (w.setCell ⟨R,j,none⟩ (.int .i64 c)) base R n cap (vM f j c):=by
 obtain ⟨rs,g1,g2⟩:=h;have hl:=g1.1;refine ⟨rs.set j (.int .i64 c),(g1.stored j _).1,fun i hi=>?_⟩;by_cases e:i=j
 ·subst e; rw [yp,List.getElem?_set_self (by omega)]
 ·rw [zY _ _ e,List.getElem?_set_ne (Ne.symm e)]; exact g2 i hi
theorem yg.other {w:World} {base R n cap:Nat} {f:Nat→Int} (h:yg w base R n cap f) {B o:Nat} (hne:B≠R) (v:Value):yg (w.setCell ⟨B,o,none⟩ v) base R n cap f:=
 h.kept (Below.heap_setCell _ _ _ _ (fun e=>hne (by simpa using e.symm)))
def tP (w:World) (v:Value) (n:Nat) (f:Nat→Int):Prop:=
 ∃ a cap,v=.slice a n cap∧n≤9223372036854775807∧(0<n→∃ b off,a=some ⟨b,off,none⟩∧b<w.heap.size∧∀ i,i<n→w.cell? ⟨b,off+i,none⟩=some (.int .i64 (f i)))
theorem tP.below {w w':World} {v:Value} {n:Nat} {f:Nat→Int} (h:tP w v n f) (hb:Below w.heap.size w w'):tP w' v n f:=by
 obtain ⟨a,cap,h1,h2,h3⟩:=h;refine ⟨a,cap,h1,h2,fun hl=>?_⟩;obtain ⟨b,off,e,hs,hc⟩:=h3 hl;exact ⟨b,off,e,Nat.lt_of_lt_of_le hs hb.size,fun i hi=>((zW hb).1 _ _ hs).trans (hc i hi)⟩
def sg (p k i:Nat):Nat:=if i=k then p else if i=p then k else i
theorem yg.drewN {w:World} {base R n cap:Nat} {f:Nat→Int} (h:yg w base R n cap f) (q:Nat):yg (w.drewN q) base R n cap f:=h.kept rfl
theorem zM.drewN {w:World} {base R n cap:Nat} {f:Nat→Nat} (h:zM w base R n cap f) (q:Nat):zM (w.drewN q) base R n cap f:=h.kept rfl
theorem xh.drew {w:World} {base G n m:Nat} {blk cap:Nat→Nat} {f:Nat→Nat→Nat} (h:xh w base G n m blk cap f):xh w.drew base G n m blk cap f:=h.below (Below.refl _ _).drew
theorem yg.drew {w:World} {base R n cap:Nat} {f:Nat→Int} (h:yg w base R n cap f):yg w.drew base R n cap f:=h.kept rfl
theorem zM.drew {w:World} {base R n cap:Nat} {f:Nat→Nat} (h:zM w base R n cap f):zM w.drew base R n cap f:=h.kept rfl
def xi (qs:List Value) (n:Nat) (f:Nat→Nat):Prop:=∀ j,j<n→∃ y,qs[j]? = some (.float .f64 y)∧zg y=f j∧y<18446744073709551616
theorem xi.app {qs:List Value} {n y:Nat} {f:Nat→Nat} (h:xi qs n f) (hl:qs.length=n) (h1:zg y=f n) (h2:y<18446744073709551616):xi (qs ++ [.float .f64 y]) (n+1) f:=fun j hj=>by
 by_cases e:j=n
 ·subst e;exact ⟨y,by rw [List.getElem?_append_right (by omega),hl]; simp,h1,h2⟩
 ·rw [List.getElem?_append_left (by omega)];exact h j (by omega)
theorem xi.nil (f:Nat→Nat) (qs:List Value):xi qs 0 f:=fun j hj=>by omega
theorem xi.own {w:World} {base n:Nat} {v:Value} {qs:List Value} {f:Nat→Nat} (h:xi qs n f) (ho:w.ownsRow base 24 1 v n qs) (h0:0<n):∃ R cap,v=.slice (some ⟨R,0,none⟩) n cap∧zM w base R n cap f:=by
 rcases id ho.2 with ⟨rfl,rfl⟩ | ⟨g,cap,cur,rfl,-⟩
 ·omega
 ·exact ⟨g,cap,rfl,qs,ho,h⟩
def wS (qs:List Value) (n:Nat) (f:Nat→Int):Prop:=∀ j,j<n→qs[j]? = some (.int .i64 (f j))
theorem wS.app {qs:List Value} {n:Nat} {f:Nat→Int} (h:wS qs n f) (hl:qs.length=n) {y:Int} (h1:y=f n):wS (qs ++ [.int .i64 y]) (n+1) f:=fun j hj=>by
 by_cases e:j=n
 ·subst e; rw [List.getElem?_append_right (by omega),hl]; simp [h1]
 ·rw [List.getElem?_append_left (by omega)]; exact h j (by omega)
theorem wS.nil (f:Nat→Int) (qs:List Value):wS qs 0 f:=fun j hj=>by omega
theorem wS.own {w:World} {base n:Nat} {v:Value} {qs:List Value} {f:Nat→Int} (h:wS qs n f) (ho:w.ownsRow base 3 1 v n qs) (h0:0<n):∃ R cap,v=.slice (some ⟨R,0,none⟩) n cap∧yg w base R n cap f:=by
 rcases id ho.2 with ⟨rfl,rfl⟩ | ⟨g,cap,cur,rfl,-⟩
 ·omega
 ·exact ⟨g,cap,rfl,qs,ho,h⟩
theorem xp {w:World} {base n size:Nat} {E:TypeId} {v:Value} {qs:List Value} (h:w.ownsRow base E size v n qs) (k:Nat):(w.drewN k).ownsRow base E size v n qs:=h
theorem wT {w:World} {base n size:Nat} {E:TypeId} {v:Value} {qs:List Value} (h:w.ownsRow base E size v n qs):∃ a cap,v=.slice a n cap:=by
 rcases id h.2 with ⟨rfl,rfl⟩ | ⟨g,cap,cur,rfl,-⟩
 ·exact ⟨_,_,rfl⟩
 ·exact ⟨_,_,rfl⟩
theorem wU {w w':World} {base n size:Nat} {E:TypeId} {v:Value} {qs:List Value} (h:w.ownsRow base E size v n qs) (hb:∀ k,v.ownBlock=some k→w'.heap[k]? = w.heap[k]?):w'.ownsRow base E size v n qs:=by
 obtain ⟨h1,h2⟩:=h;refine ⟨h1,?_⟩;rcases h2 with h2 | ⟨g,c,cur,rfl,hg,hh,r⟩
 ·exact .inl h2
 ·exact .inr ⟨g,c,cur,rfl,hg,(hb g rfl).trans hh,r⟩
theorem own_base {w:World} {base b' n size:Nat} {E:TypeId} {v:Value} {qs:List Value} (h:w.ownsRow base E size v n qs) (hb:b'≤base):w.ownsRow b' E size v n qs:=by
 obtain ⟨h1,h2⟩:=h;refine ⟨h1,?_⟩;rcases h2 with h2 | ⟨g,c,cur,rfl,hg,r⟩
 ·exact .inl h2
 ·exact .inr ⟨g,c,cur,rfl,Nat.le_trans hb hg,r⟩
theorem wi {w w':World} {B base n size:Nat} {E:TypeId} {v:Value} {qs:List Value} (h:w.ownsRow base E size v n qs) (hb:B≤base) (hs:B≤w.heap.size) (hg:w.grownBy w' v.ownBlock):Below B w w':=
 (Below.refl _ _).grown hg hs fun k hk=>Nat.le_trans hb (h.lt k hk).1
theorem sN (w:World) (v:Value) (t:TypeId) (k:Nat):∀ j u,([v]:List Value)[j]? = some u→((w.alloc (.cells #[v] t)).drewN k).cell? ((⟨w.heap.size,0,none⟩:Addr).add j)=some u:=fun j u hu=>by
 cases j with
 | zero=>
  simp only [List.getElem?_cons_zero,Option.some.injEq] at hu;subst hu;show (w.alloc _).cell? _=_;have e:(⟨w.heap.size,0,none⟩:Addr).add 0=⟨w.heap.size,0,none⟩:=by simp [Addr.add]
  rw [e,World.cell?_alloc_new];rfl
 | succ j=>simp at hu
theorem yR (w:World) (o:Obj) (k:Nat) {B:Nat} (h:B≤w.heap.size):B≤((w.alloc o).drewN k).heap.size:=by
 show B≤(w.alloc o).heap.size;simp;omega
structure yB (w:World) (base:Nat) (va:Value) (j m:Nat) (blk cap:Nat→Nat) (f:Nat→Nat→Nat):Prop where
 own:∃ rs,w.ownsRow base 34 1 va j rs∧∀ i,i<j→rs[i]? = some (.slice (some ⟨blk i,0,none⟩) m (cap i))
 row:∀ i,i<j→zM w base (blk i) m (cap i) (f i)
 inj:∀ i k,i<j→k<j→blk i=blk k→i=k
 off:∀ i,i<j→va.ownBlock≠some (blk i)
theorem yB.start (w:World) (base m:Nat) (f:Nat→Nat→Nat):yB w base (.slice none 0 0) 0 m (fun _=>0) (fun _=>0) f:=
 ⟨⟨[],World.ownsRow_nil _ _ _ _,fun i hi=>by omega⟩,fun i hi=>by omega,fun i k hi=>by omega,fun i hi=>by omega⟩
theorem yB.grid {w:World} {base n m:Nat} {va:Value} {blk cap:Nat→Nat} {f:Nat→Nat→Nat} (h:yB w base va n m blk cap f) (h0:0<n):∃ G c,va=.slice (some ⟨G,0,none⟩) n c∧xh w base G n m blk cap f:=by
 obtain ⟨⟨rs,h1,h2⟩,h3,h4,h5⟩:=h;rcases id h1.2 with ⟨rfl,rfl⟩ | ⟨g,c,cur,rfl,-⟩
 ·omega
 ·have hl:=h1.lt g rfl;exact ⟨g,c,rfl,fun i hi=>(h1.cellAt i (by omega)).trans (h2 i hi),fun i _=>h1.frozenAt i,h3,h4,fun i hi e=>h5 i hi (by rw [e]; rfl),hl.1,hl.2⟩
theorem yB.below {w w':World} {base j m:Nat} {va:Value} {blk cap:Nat→Nat} {f:Nat→Nat→Nat} (h:yB w base va j m blk cap f) (hb:Below w.heap.size w w'):yB w' base va j m blk cap f:=by
 obtain ⟨⟨rs,h1,h2⟩,h3,h4,h5⟩:=h;exact ⟨⟨rs,wU h1 (fun k hk=>hb.block k (h1.lt k hk).2),h2⟩,fun i hi=>(h3 i hi).below hb (h3 i hi).lt.2,h4,h5⟩
theorem yB.keep {w w':World} {base H j m:Nat} {va:Value} {blk cap:Nat→Nat} {f:Nat→Nat→Nat} (h:yB w base va j m blk cap f) (hb:Below H w w') (h1:∀ k,va.ownBlock=some k→k<H) (h2:∀ i,i<j→blk i<H):yB w' base va j m blk cap f:=by
 obtain ⟨⟨rs,g1,g2⟩,h3,h4,h5⟩:=h;exact ⟨⟨rs,wU g1 (fun k hk=>hb.block k (h1 k hk)),g2⟩,fun i hi=>(h3 i hi).below hb (h2 i hi),h4,h5⟩
theorem yB.lt {w:World} {base j m:Nat} {va:Value} {blk cap:Nat→Nat} {f:Nat→Nat→Nat} (h:yB w base va j m blk cap f):(∀ k,va.ownBlock=some k→k<w.heap.size)∧∀ i,i<j→blk i<w.heap.size:=by
 obtain ⟨⟨rs,h1,-⟩,h3,-⟩:=h;exact ⟨fun k hk=>(h1.lt k hk).2,fun i hi=>(h3 i hi).lt.2⟩
theorem yB.app {w w1 w2:World} {base j m R c:Nat} {va v':Value} {blk cap:Nat→Nat} {f:Nat→Nat→Nat} {rs:List Value} (h:yB w base va j m blk cap f) (hrs:w.ownsRow base 34 1 va j rs) (hro:zM w base R m c (f j)) (hR1:va.ownBlock≠some R) (hR2:∀ i,i<j→blk i≠R)
  (h1:Below w.heap.size w w1) (hg:w1.grownBy w2 va.ownBlock) (ho:w2.ownsRow base 34 1 v' (j+1) (rs ++ [.slice (some ⟨R,0,none⟩) m c])) (hv:∀ k,v'.ownBlock=some k→va.ownBlock=some k∨w.heap.size≤k) :
  yB w2 base v' (j+1) m (vM blk j R) (vM cap j c) f:=by
 have hrl:=hrs.1;obtain ⟨⟨rs0,g1,g2⟩,h3,h4,h5⟩:=h;have hsz:=h1.size;have kb:∀ b,b<w.heap.size→va.ownBlock≠some b→w2.heap[b]? = w.heap[b]?:=fun b hb hne=>(hg.block b (by omega) (fun e=>hne e.symm)).trans (h1.block b hb)
 have hget:∀ i,i<j→rs[i]? = some (.slice (some ⟨blk i,0,none⟩) m (cap i)):=fun i hi=>by
  rcases id g1.2 with ⟨rfl,rfl⟩ | ⟨g,cp,cur,rfl,-⟩
  ·omega
  ·have e1:=g1.cellAt i (by omega);have e2:=hrs.cellAt i (by omega);rw [← e2,e1]; exact g2 i hi
 refine ⟨⟨_,ho,fun i hi=>?_⟩,fun i hi=>?_,fun i k hi hk=>?_,fun i hi=>?_⟩
 ·by_cases e:i=j
  ·subst e; rw [List.getElem?_append_right (by omega),hrl,yp,yp]; simp
  ·rw [List.getElem?_append_left (by omega),zY _ _ e,zY _ _ e]; exact hget i (by omega)
 ·by_cases e:i=j
  ·subst e; rw [yp,yp]; exact hro.kept (kb R hro.lt.2 hR1)
  ·rw [zY _ _ e,zY _ _ e]; exact (h3 i (by omega)).kept (kb _ (h3 i (by omega)).lt.2 (h5 i (by omega)))
 ·by_cases e1:i=j
  ·subst e1;by_cases e2:k=i
   ·exact fun _=>e2.symm
   ·rw [yp,zY _ _ e2]; exact fun q=>absurd q.symm (hR2 k (by omega))
  ·by_cases e2:k=j
   ·subst e2; rw [yp,zY _ _ e1]; exact fun q=>absurd q (hR2 i (by omega))
   ·rw [zY _ _ e1,zY _ _ e2]; exact h4 i k (by omega) (by omega)
 ·intro q;by_cases e:i=j
  ·subst e;rw [yp] at q;rcases hv _ q with q2 | q2
   ·exact hR1 q2
   ·have:=hro.lt.2; omega
  ·rw [zY _ _ e] at q;rcases hv _ q with q2 | q2
   ·exact h5 i (by omega) q2
   ·have:=(h3 i (by omega)).lt.2; omega
def FVal (o:Option Value) (c:Nat):Prop:=∃ y,o=some (.float .f64 y)∧zg y=c∧y<18446744073709551616
def wj (qs:List Value) (n:Nat) (F:Nat→Nat × Nat):Prop:=∀ j,j<n→FVal qs[j*2]? (F j).1∧FVal qs[j*2+1]? (F j).2
theorem wj.nil (F:Nat→Nat × Nat) (qs:List Value):wj qs 0 F:=fun j hj=>by omega
theorem wj.app {qs:List Value} {n y z:Nat} {F:Nat→Nat × Nat} (h:wj qs n F) (hl:qs.length=n*2) (h1:zg y=(F n).1) (h2:y<18446744073709551616) (h3:zg z=(F n).2) (h4:z<18446744073709551616):wj (qs ++ [.float .f64 y,.float .f64 z]) (n+1) F:=fun j hj=>by
 by_cases e:j=n
 ·subst e;refine ⟨⟨y,?_,h1,h2⟩,⟨z,?_,h3,h4⟩⟩
  ·rw [List.getElem?_append_right (by omega),hl]; simp
  ·rw [List.getElem?_append_right (by omega),hl,show j*2+1-j*2=1 by omega]; rfl
 ·rw [List.getElem?_append_left (by omega),List.getElem?_append_left (by omega)];exact h j (by omega)
def zO (w:World) (base R n cap:Nat) (F:Nat→Nat × Nat):Prop:=
 ∃ rs,w.ownsRow base 26 2 (.slice (some ⟨R,0,none⟩) n cap) n rs∧wj rs n F
theorem wj.own {w:World} {base n:Nat} {v:Value} {qs:List Value} {F:Nat→Nat × Nat} (h:wj qs n F) (ho:w.ownsRow base 26 2 v n qs) (h0:0<n):∃ R cap,v=.slice (some ⟨R,0,none⟩) n cap∧zO w base R n cap F:=by
 rcases id ho.2 with ⟨rfl,rfl⟩ | ⟨g,cap,cur,rfl,-⟩
 ·omega
 ·exact ⟨g,cap,rfl,qs,ho,h⟩
theorem zO.cell {w:World} {base R n cap:Nat} {F:Nat→Nat × Nat} (h:zO w base R n cap F) {j:Nat} (hj:j<n):xg w R (j*2) (F j).1∧xg w R (j*2+1) (F j).2:=by
 obtain ⟨rs,h1,h2⟩:=h;obtain ⟨⟨y,y1,y2,y3⟩,⟨z,z1,z2,z3⟩⟩:=h2 j hj;exact ⟨⟨y,(h1.cellAt _ (by omega)).trans y1,y2,y3⟩,⟨z,(h1.cellAt _ (by omega)).trans z1,z2,z3⟩⟩
theorem zO.free {w:World} {base R n cap:Nat} {F:Nat→Nat × Nat} (h:zO w base R n cap F) (j:Nat):w.frozen? ⟨R,j,none⟩=false:=by
 obtain ⟨rs,h1,-⟩:=h;exact h1.frozenAt j
theorem zO.lt {w:World} {base R n cap:Nat} {F:Nat→Nat × Nat} (h:zO w base R n cap F):base≤R∧R<w.heap.size:=by
 obtain ⟨rs,h1,-⟩:=h;exact h1.lt R rfl
theorem zO.kept {w w':World} {base R n cap:Nat} {F:Nat→Nat × Nat} (h:zO w base R n cap F) (hb:w'.heap[R]? = w.heap[R]?):zO w' base R n cap F:=by
 obtain ⟨rs,h1,h3⟩:=h;exact ⟨rs,wU h1 (fun k hk=>by cases hk; exact hb),h3⟩
theorem zO.below {w w':World} {base R n cap:Nat} {F:Nat→Nat × Nat} (h:zO w base R n cap F) {B:Nat} (hb:Below B w w') (hB:R<B):zO w' base R n cap F:=h.kept (hb.block R hB)
theorem zO.congr {w:World} {base R n cap:Nat} {F G:Nat→Nat × Nat} (h:zO w base R n cap F) (e:∀ j,j<n→F j=G j):zO w base R n cap G:=by
 obtain ⟨rs,h1,h2⟩:=h;exact ⟨rs,h1,fun j hj=>by rw [← e j hj]; exact h2 j hj⟩
theorem zO.set {w:World} {base R n cap:Nat} {F:Nat→Nat × Nat} (h:zO w base R n cap F) {j y z:Nat} {p:Nat × Nat} (hj:j<n) (h1:zg y=p.1) (h2:y<18446744073709551616) (h3:zg z=p.2) (h4:z<18446744073709551616) :
  zO ((w.setCell ⟨R,j*2,none⟩ (.float .f64 y)).setCell ⟨R,j*2+1,none⟩ (.float .f64 z)) base R n cap (vM F j p):=by
 obtain ⟨rs,g1,g2⟩:=h;have hl:=g1.1;refine ⟨(rs.set (j*2) (.float .f64 y)).set (j*2+1) (.float .f64 z),((g1.stored _ _).1.stored _ _).1,fun i hi=>?_⟩;by_cases e:i=j
 ·subst e;rw [yp];exact ⟨⟨y,by rw [List.getElem?_set_ne (by omega),List.getElem?_set_self (by omega)],h1,h2⟩,⟨z,by rw [List.getElem?_set_self (by rw [List.length_set]; omega)],h3,h4⟩⟩
 ·rw [zY _ _ e,List.getElem?_set_ne (by omega),List.getElem?_set_ne (by omega),List.getElem?_set_ne (by omega),List.getElem?_set_ne (by omega)];exact g2 i hi
theorem zO.other {w:World} {base R n cap:Nat} {F:Nat→Nat × Nat} (h:zO w base R n cap F) {B o:Nat} (hne:B≠R) (v:Value):zO (w.setCell ⟨B,o,none⟩ v) base R n cap F:=
 h.kept (Below.heap_setCell _ _ _ _ (fun e=>hne (by simpa using e.symm)))
theorem vv (n j:Nat) (hj:j<n*2):(madeCells #[Value.float .f64 0,.float .f64 0] (n*2)).toList[j]? = some (.float .f64 0):=by
 have e:j % 2=0∨j % 2=1:=by omega
 rcases e with e | e<;>simp [madeCells,hj,e]
theorem rH {w:World} {base R n:Nat} (h:w.ownsRow base 26 2 (.slice (some ⟨R,0,none⟩) n n) n (madeCells #[Value.float .f64 0,.float .f64 0] (n*2)).toList):zO w base R n n fun _=>(0,0):=
 ⟨_,h,fun j hj=>⟨⟨0,vv n _ (by omega),rfl,by decide⟩,⟨0,vv n _ (by omega),rfl,by decide⟩⟩⟩
def TRow (w:World) (v:Value) (n:Nat) (F:Nat→Nat × Nat):Prop:=
 ∃ a cap,v=.slice a n cap∧n≤9223372036854775807∧(0<n→∃ b off,a=some ⟨b,off,none⟩∧b<w.heap.size∧∀ i,i<n→xg w b (off+i*2) (F i).1∧xg w b (off+i*2+1) (F i).2)
theorem TRow.below {w w':World} {v:Value} {n:Nat} {F:Nat→Nat × Nat} (h:TRow w v n F) (hb:Below w.heap.size w w'):TRow w' v n F:=by
 obtain ⟨a,cap,h1,h2,h3⟩:=h;refine ⟨a,cap,h1,h2,fun hl=>?_⟩;obtain ⟨b,off,e,hs,hc⟩:=h3 hl;exact ⟨b,off,e,Nat.lt_of_lt_of_le hs hb.size,fun i hi=>⟨(hc i hi).1.same ((zW hb).1 _ _ hs),(hc i hi).2.same ((zW hb).1 _ _ hs)⟩⟩
theorem zO.row {w:World} {base R n cap:Nat} {F:Nat→Nat × Nat} (h:zO w base R n cap F) (hn:n≤9223372036854775807):TRow w (.slice (some ⟨R,0,none⟩) n cap) n F:=
 ⟨_,cap,rfl,hn,fun _=>⟨R,0,rfl,h.lt.2,fun i hi=>by rw [Nat.zero_add]; exact h.cell hi⟩⟩
end Go.Proofs.Ytgnledamhjbafaa
