/-
  Contracts (what a function tells) and plain facts that a law's proof hangs on, for every input; no condition but those in their statements. Laid together of the texts Inr, Tpe, Tps, Jb, Jk, Jc, Je, Jf.
-/
import Derived.Lib.Hide
import Derived.Test.YtgnledamhjbafaaQj
import Derived.OpenShut
import Derived.Carry
namespace Go.Proofs.Ytgnledamhjbafaa
open Go.RowKit Lib
def Intr (w:World) (v:Value) (zs:List Int):Prop:=tx w v zs∧∀ i,i<zs.length→-9223372036854775808≤zs.getD i 0∧zs.getD i 0≤9223372036854775807
set_option maxRecDepth 100000
open Go.ChangeShapes Go.WideShapes in
theorem intr_of {H:Type} {enc:TypeId × Value→H} {W:World} {v:Value} {d:DataW H} {ps:List MemPlace} {base:Nat}
  (hv:Value.okWide Try.prog W .any base 22 v) (h:DataW.Trod enc Try.prog W 0 (fun _=>true) true 22 v d ps):∃ zs,Intr W v zs:=by
 have hc:Try.prog.cellsOf 3=1:=by kernel_rfl
 obtain ⟨a0,len,cap,rfl⟩:=okWide_slice Try.underlying22 hv;obtain ⟨fuel,hf⟩:=h;rcases open_ints Try.underlying22 Try.underlying3 hc hf with ⟨hcs,_⟩ | ⟨a,len',cap',zs,hcs,_,hl,hm,hz,_,hcell,hwf⟩
 ·simp [Value.cells] at hcs;obtain ⟨rfl,rfl,rfl⟩:=hcs;exact ⟨[],.inl ⟨none,0,rfl,rfl⟩,fun i hi=>by simp at hi⟩
 ·simp [Value.cells] at hcs;obtain ⟨rfl,rfl,rfl⟩:=hcs;simp only [if_true] at hz;by_cases h0:len=0
  ·subst h0; exact ⟨[],.inl ⟨_,_,rfl,rfl⟩,fun i hi=>by simp at hi⟩
  ·obtain ⟨b,off,spot⟩:=a;have hspot:spot=none:=by simpa [Addr.add] using World.cell?_spot (hcell 0 (by omega))
   subst hspot;have hlen:(zs.take len).length=len:=by simp; omega
   refine ⟨zs.take len,.inr ⟨b,off,cap,by rw [hlen],?_,?_,?_⟩,fun i hi=>?_⟩
   ·have h0:=hcell 0 (by omega);rcases Nat.lt_or_ge b W.heap.size with g | g
    ·exact g
    ·exfalso;have:W.heap[b]? = none:=Array.getElem?_eq_none g;simp [World.cell?,Addr.add,this] at h0
   ·rw [hlen]; unfold maxLen at hm; omega
   ·intro i hi;rw [hlen] at hi;rw [← add_plain,hcell i (by omega)];simp [List.getD,hi]
   ·rw [hlen] at hi;have hiz:i<zs.length:=by rw [hz]; omega
    have hm2:=hwf (zs.getD i 0) (by simp [List.getD,hiz]);have e:(zs.take len).getD i 0=zs.getD i 0:=by simp [List.getD,hi]
    rw [e];have q1:IntKind.i64.min=-9223372036854775808:=by decide
    have q2:IntKind.i64.max=9223372036854775807:=by decide
    simp only [Lit.wf,Bool.and_eq_true,decide_eq_true_eq] at hm2;omega
end Go.Proofs.Ytgnledamhjbafaa
namespace Go.Proofs.Ytgnledamhjbafaa
open Go.RowKit Lib
open Ieee (double)
attribute [local go_sem] zf ze zh zd zu zt zw zx zy zA zj zk zm zn zo yu
def sv (w:World) (v:Value) (len:Nat) (f:Nat→Nat):Prop:=
 ∃ a cap,v=.slice a len cap∧len≤9223372036854775807∧(0<len→∃ b off,a=some ⟨b,off,none⟩∧b<w.heap.size∧∀ i,i<len→∃ y,w.cell? ⟨b,off+i,none⟩=some (.float .f64 y)∧zg y=f i∧y<18446744073709551616)
theorem sv.below {w w':World} {v:Value} {len:Nat} {f:Nat→Nat} (h:sv w v len f) (hb:Below w.heap.size w w'):sv w' v len f:=by
 obtain ⟨a,cap,h1,h2,h3⟩:=h;refine ⟨a,cap,h1,h2,fun hl=>?_⟩;obtain ⟨b,off,e,hs,hc⟩:=h3 hl;obtain ⟨hk,-⟩:=we hb;refine ⟨b,off,e,Nat.lt_of_lt_of_le hs hb.size,fun i hi=>?_⟩;obtain ⟨y,c1,c2,c3⟩:=hc i hi;exact ⟨y,by rw [hk _ _ hs]; exact c1,c2,c3⟩
theorem vU (P:Program) (w:World) (a:Addr) (m:Mode) (f:Fn):(store a (.func f #[] #[]) m).run P w=stored P w a (.func f #[] #[]) m:=run_store P w a _ m rfl
attribute [local go_sem] vU
def EvS (w0:World) (B:Nat) (n:Int) (vo vu:Value) (w':World):Prop:=w'.cell? ⟨B,0,none⟩=some (.int .i64 n)∧w'.cell? ⟨B,1,none⟩=some vo∧w'.cell? ⟨B,2,none⟩=some vu∧B<w'.heap.size∧Below B w0 w'
theorem EvS.below {w0:World} {B:Nat} {n:Int} {vo vu:Value} {w w':World} (h:EvS w0 B n vo vu w) (hb:Below w.heap.size w w'):EvS w0 B n vo vu w':=by
 obtain ⟨h1,h2,h3,h4,h5⟩:=h;obtain ⟨hc,-⟩:=we hb;have:=hb.size;exact ⟨by rw [hc _ _ h4]; exact h1,by rw [hc _ _ h4]; exact h2,by rw [hc _ _ h4]; exact h3,by omega,h5.trans (hb.mono (by omega))⟩
end Go.Proofs.Ytgnledamhjbafaa
namespace Go.Proofs.Ytgnledamhjbafaa
open Go.RowKit Lib
open Ieee (double)
attribute [local go_sem] zf ze zh zd zu zt zw zx zy zA zj zk zm zn zo zF yd zU zG xq
theorem at_block {w:World} {b:Nat} {cs:Array Value} {t:TypeId} {fr:Nat × Nat} (h:w.heap[b]? = some (.cells cs t fr)) (o:Nat):w.cell? ⟨b,o,none⟩=cs[o]?:=by simp [World.cell?,h]
theorem lt_block {w:World} {b:Nat} {o:Obj} (h:w.heap[b]? = some o):b<w.heap.size:=by
 rcases Nat.lt_or_ge b w.heap.size with g | g
 ·exact g
 ·rw [Array.getElem?_eq_none g] at h; cases h
theorem al1 (w:World) (o:Obj):(w.alloc o).heap[w.heap.size]? = some o∧(w.alloc o).heap.size=w.heap.size+1∧Below w.heap.size w (w.alloc o):=⟨heap_alloc_new w o,by simp,(Below.refl _ _).alloc (Nat.le_refl _) _⟩
theorem al2 (w:World) (o p:Obj):((w.alloc o).alloc p).heap[w.heap.size]? = some o∧((w.alloc o).alloc p).heap[w.heap.size+1]? = some p∧((w.alloc o).alloc p).heap.size=w.heap.size+2∧Below w.heap.size w ((w.alloc o).alloc p):=by
 obtain ⟨h1,h2,h3⟩:=al1 w o;obtain ⟨g1,g2,g3⟩:=al1 (w.alloc o) p;rw [h2] at g1 g2;exact ⟨(g3.block _ (by omega)).trans h1,g1,g2,h3.trans (g3.mono (by omega))⟩
theorem al3 (w:World) (o p q:Obj):(((w.alloc o).alloc p).alloc q).heap[w.heap.size]? = some o∧(((w.alloc o).alloc p).alloc q).heap[w.heap.size+1]? = some p∧(((w.alloc o).alloc p).alloc q).heap[w.heap.size+2]? = some q∧(((w.alloc o).alloc p).alloc q).heap.size=w.heap.size+3∧Below w.heap.size w (((w.alloc o).alloc p).alloc q):=by
 obtain ⟨h1,h2,h3,h4⟩:=al2 w o p;obtain ⟨g1,g2,g3⟩:=al1 ((w.alloc o).alloc p) q;rw [h3] at g1 g2;exact ⟨(g3.block _ (by omega)).trans h1,(g3.block _ (by omega)).trans h2,g1,g2,h4.trans (g3.mono (by omega))⟩
theorem rD {w:World} {b:Nat} {cs:Array Value} {t:TypeId} (h:w.heap[b]? = some (.cells cs t)) (o:Nat):w.frozen? ⟨b,o,none⟩=false:=by simp [World.frozen?,h]
def CB (N:Nat) (v:Value) (w:World):Prop:=w.cell? ⟨N,0,none⟩=some v∧N<w.heap.size
theorem CB.below {N:Nat} {v:Value} {w w':World} (h:CB N v w) (hb:Below w.heap.size w w'):CB N v w':=by
 obtain ⟨h1,h6⟩:=h;have:=hb.size;exact ⟨by rw [(zW hb).1 _ _ h6]; exact h1,by omega⟩
def DB (A y:Nat) (v:Value) (w:World):Prop:=w.cell? ⟨A,0,none⟩=some (.float .f64 y)∧w.cell? ⟨A,1,none⟩=some v∧A<w.heap.size
theorem DB.below {A y:Nat} {v:Value} {w w':World} (h:DB A y v w) (hb:Below w.heap.size w w'):DB A y v w':=by
 obtain ⟨h1,h2,h6⟩:=h;obtain ⟨hc,-⟩:=zW hb;have:=hb.size;exact ⟨by rw [hc _ _ h6]; exact h1,by rw [hc _ _ h6]; exact h2,by omega⟩
end Go.Proofs.Ytgnledamhjbafaa
namespace Go.Proofs.Ytgnledamhjbafaa
open Go.RowKit Lib
open Ieee (double)
structure yD (X:World) (q:Nat) (W:World):Prop where
 out:Below 0 X W
 block:∀ k,k<X.heap.size→k≠q→W.heap[k]? = X.heap[k]?
theorem yD.refl (X:World) (q:Nat):yD X q X:=⟨Below.refl _ _,fun _ _ _=>rfl⟩
theorem yD.size {X:World} {q:Nat} {W:World} (h:yD X q W):X.heap.size≤W.heap.size:=h.out.size
theorem yD.drewN {X:World} {q:Nat} {W:World} (h:yD X q W) (n:Nat):yD X q (W.drewN n):=⟨below_drewN h.out n,h.block⟩
theorem yD.drew {X:World} {q:Nat} {W:World} (h:yD X q W):yD X q W.drew:=h.drewN 1
theorem yD.set {X:World} {q:Nat} {W:World} (h:yD X q W) (o:Nat) (v:Value):yD X q (W.setCell ⟨q,o,none⟩ v):=
 ⟨h.out.setCell (Nat.zero_le _) v,fun k hk hn=>(Below.heap_setCell _ _ _ _ hn).trans (h.block k hk hn)⟩
theorem yD.cell {X:World} {q:Nat} {W:World} (h:yD X q W) {b:Nat} (hb:b<X.heap.size) (hn:b≠q) (o:Nat):W.cell? ⟨b,o,none⟩=X.cell? ⟨b,o,none⟩:=World.cell?_of_block (a:=⟨b,o,none⟩) (h.block b hb hn)
theorem yD.free {X:World} {q:Nat} {W:World} (h:yD X q W) {b:Nat} (hb:b<X.heap.size) (hn:b≠q) (o:Nat):W.frozen? ⟨b,o,none⟩=X.frozen? ⟨b,o,none⟩:=World.frozen?_of_block (a:=⟨b,o,none⟩) (h.block b hb hn)
theorem yD.below {X:World} {q:Nat} {W:World} (h:yD X q W) {B:Nat} {w:World} (hb:Below B w X) (hq:B≤q) (hs:B≤X.heap.size):Below B w W:=
 ⟨h.out.os.trans hb.os,h.out.tape.trans hb.tape,h.out.output.trans hb.output,Nat.le_trans hb.size h.out.size,fun k hk=>(h.block k (by omega) (by omega)).trans (hb.block k hk)⟩
theorem yH.keep {X W:World} {q:Nat} {v:Value} {n:Nat} {f:Nat→Nat} {w:World} (hk:yD X q W) (hb:Below w.heap.size w X) (hq:w.heap.size≤q) (h:yH w v n f):yH W v n f:=h.below (hk.below hb hq hb.size)
theorem CB.keep {X W:World} {q K:Nat} {v:Value} (hk:yD X q W) (hn:K≠q) (h:CB K v X):CB K v W:=by
 obtain ⟨h1,h6⟩:=h;have:=hk.size;exact ⟨by rw [hk.cell h6 hn]; exact h1,by omega⟩
theorem DB.keep {X W:World} {q K y:Nat} {v:Value} (hk:yD X q W) (hn:K≠q) (h:DB K y v X):DB K y v W:=by
 obtain ⟨h1,h2,h6⟩:=h;have:=hk.size;exact ⟨by rw [hk.cell h6 hn]; exact h1,by rw [hk.cell h6 hn]; exact h2,by omega⟩
end Go.Proofs.Ytgnledamhjbafaa
namespace Go.Proofs.Ytgnledamhjbafaa
open Go.RowKit Lib
open Ieee (double)
attribute [local go_sem] zf ze zh zd zu zt zw zx zy zA zj zk zm zn zo zF yd zU zG xq
theorem set2_ok {w:World} {q:Nat} {x y a b:Value} (h0:w.cell? ⟨q,0,none⟩=some a) (h1:w.cell? ⟨q,1,none⟩=some b) :
  ((w.setCell ⟨q,0,none⟩ x).setCell ⟨q,1,none⟩ y).cell? ⟨q,0,none⟩=some x∧((w.setCell ⟨q,0,none⟩ x).setCell ⟨q,1,none⟩ y).cell? ⟨q,1,none⟩=some y:=by
 refine ⟨?_,?_⟩<;>simp [go_sem,h0,h1]
def DVal (w:World) (b j c n:Nat) (f:Nat→Nat) (R:Nat):Prop:=
 ∃ y u,w.cell? ⟨b,j*2,none⟩=some (.float .f64 y)∧zg y=c∧y<18446744073709551616∧w.cell? ⟨b,j*2+1,none⟩=some u∧yH w u n f∧u.ownBlock≠some R
theorem DVal.below {w w':World} {b j c n R:Nat} {f:Nat→Nat} (h:DVal w b j c n f R) (hb:Below w.heap.size w w') (hl:b<w.heap.size):DVal w' b j c n f R:=by
 obtain ⟨y,u,h1,h2,h3,h4,h5,h6⟩:=h;exact ⟨y,u,by rw [(zW hb).1 _ _ hl]; exact h1,h2,h3,by rw [(zW hb).1 _ _ hl]; exact h4,h5.below hb,h6⟩
theorem ve {w:World} {R p o:Nat} {x:Value} (u:Value) (hx:w.cell? ⟨R,p,none⟩=some x):(w.setCell ⟨R,p,none⟩ u).cell? ⟨R,o,none⟩=if o=p then some u else w.cell? ⟨R,o,none⟩:=by
 by_cases h:o=p
 ·subst h; rw [if_pos rfl]; simp [go_sem,hx]
 ·rw [if_neg h,World.cell?_setCell_other _ _ _ _ (fun q=>h (by injection q with _ q2 _; omega))]
theorem uu {w:World} {R p o:Nat} (u:Value):(w.setCell ⟨R,p,none⟩ u).frozen? ⟨R,o,none⟩=w.frozen? ⟨R,o,none⟩:=by simp [go_sem]
theorem yH.blk {w:World} {v:Value} {n:Nat} {f:Nat→Nat} (h:yH w v n f) (h0:0<n) {k:Nat} (hk:v.ownBlock=some k):k<w.heap.size:=by
 obtain ⟨a,c,rfl,-,h1⟩:=h;obtain ⟨b,o,rfl,hb,-⟩:=h1 h0;simp only [Value.ownBlock,Option.some.injEq] at hk;omega
structure tz (w:World) (R len i:Nat) (c:Nat→Nat) (n:Nat) (f:Nat→Nat→Nat):Prop where
 ex:∀ o,o<len*2→∃ v,w.cell? ⟨R,o,none⟩=some v
 free:∀ o,w.frozen? ⟨R,o,none⟩=false
 lt:R<w.heap.size
 val:∀ j,j<i→DVal w R j (c j) n (f j) R
theorem tz.below {w w':World} {R len i n:Nat} {c:Nat→Nat} {f:Nat→Nat→Nat} (h:tz w R len i c n f) (hb:Below w.heap.size w w'):tz w' R len i c n f:=by
 obtain ⟨hc,hf⟩:=zW hb;have:=hb.size;have:=h.lt;exact ⟨fun o ho=>by rw [hc _ _ h.lt]; exact h.ex o ho,fun o=>by rw [hf _ _ h.lt]; exact h.free o,by omega,fun j hj=>(h.val j hj).below hb h.lt⟩
theorem yH.set {w:World} {v:Value} {n:Nat} {f:Nat→Nat} (h:yH w v n f) {R:Nat} (hn:v.ownBlock≠some R) (o:Nat) (u:Value):yH (w.setCell ⟨R,o,none⟩ u) v n f:=by
 obtain ⟨a,c,rfl,h1,h2⟩:=h;refine ⟨a,c,rfl,h1,fun h0=>?_⟩;obtain ⟨b,o',rfl,hb,hc⟩:=h2 h0;have hne:b≠R:=fun e=>hn (by rw [e]; rfl)
 exact ⟨b,o',rfl,by simp [World.setCell]; exact hb,fun i hi=>(hc i hi).same (World.cell?_of_block (a:=⟨b,o'+i,none⟩) (Below.heap_setCell _ _ _ _ hne))⟩
theorem tz.set {w:World} {R len i n:Nat} {c:Nat→Nat} {f:Nat→Nat→Nat} (h:tz w R len i c n f) (hi:i<len) {y:Nat} {p:Option Addr} {l:Nat} (y1:zg y=c i) (y2:y<18446744073709551616) (hu:yH w (.slice p n l) n (f i)) (hn:(Value.slice p n l).ownBlock≠some R) :
  tz ((w.setCell ⟨R,i*2,none⟩ (.float .f64 y)).setCell ⟨R,i*2+1,none⟩ (.slice p n l)) R len (i+1) c n f:=by
 obtain ⟨v0,e0⟩:=h.ex (i*2) (by omega);obtain ⟨v1,e1⟩:=h.ex (i*2+1) (by omega);have e1':(w.setCell ⟨R,i*2,none⟩ (.float .f64 y)).cell? ⟨R,i*2+1,none⟩=some v1:=by rw [ve _ e0,if_neg (by omega)]; exact e1
 have get:∀ o,((w.setCell ⟨R,i*2,none⟩ (.float .f64 y)).setCell ⟨R,i*2+1,none⟩ (.slice p n l)).cell? ⟨R,o,none⟩=if o=i*2+1 then some (.slice p n l) else if o=i*2 then some (.float .f64 y) else w.cell? ⟨R,o,none⟩:=fun o=>by rw [ve _ e1',ve _ e0]
 have row:∀ {v g},yH w v n g→v.ownBlock≠some R→yH ((w.setCell ⟨R,i*2,none⟩ (.float .f64 y)).setCell ⟨R,i*2+1,none⟩ (.slice p n l)) v n g:=fun h hn=>(h.set hn _ _).set hn _ _
 refine ⟨fun o ho=>?_,fun o=>by rw [uu,uu]; exact h.free o,by simp [World.setCell]; exact h.lt,fun j hj=>?_⟩
 ·rw [get];split
  ·exact ⟨_,rfl⟩
  ·split
   ·exact ⟨_,rfl⟩
   ·exact h.ex o ho
 ·by_cases e:j=i
  ·subst e;exact ⟨y,_,by rw [get,if_neg (by omega),if_pos rfl],y1,y2,by rw [get,if_pos rfl],row hu hn,hn⟩
  ·obtain ⟨z,u,z1,z2,z3,u1,u2,u3⟩:=h.val j (by omega);exact ⟨z,u,by rw [get,if_neg (by omega),if_neg (by omega)]; exact z1,z2,z3,by rw [get,if_neg (by omega),if_neg (by omega)]; exact u1,row u2 u3,u3⟩
end Go.Proofs.Ytgnledamhjbafaa
