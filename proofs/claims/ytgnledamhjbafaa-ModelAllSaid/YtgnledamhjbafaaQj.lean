/-
  Contracts (what a function tells) and plain facts that a law's proof hangs on, for every input; no condition but those in their statements. Laid together of the texts Lrg, Lrh, Lrd, Lrj, Crb, Tpa, Tpb, Tpm, Tpn, Tmv.
-/
import Derived.Lib.Hide
import Derived.Test.YtgnledamhjbafaaQa
import Derived.Test.YtgnledamhjbafaaQe
import Derived.Test.YtgnledamhjbafaaQi
import Derived.StillTailTactics
import Derived.RegionTactic
import Derived.Maps.AppendAt
import Derived.Deep.AppendLies
import Derived.Deep.RegionLaw
import Derived.Deep.DeepCutAuto
import Derived.Deep.CutBlock
namespace Go.Proofs.Ytgnledamhjbafaa
open Go.RowKit Lib
open Ieee (double)
attribute [local go_sem] zf ze zh zd zu zt zw zx zy zA zj zk zm zn zo zF
theorem rm {a b c d p q r s:Nat} (h1:zg a=p) (h2:zg b=q) (h3:zg c=r) (h4:zg d=s):xP a b c d=xP p q r s:=by
 subst h1 h2 h3 h4;unfold xP;rw [yl,yl]
theorem rp {a b c d p q r s:Nat} (h1:zg a=p) (h2:zg b=q) (h3:zg c=r) (h4:zg d=s):yT a b c d=yT p q r s:=by
 subst h1 h2 h3 h4;unfold yT;rw [yl,yl]
theorem rq {a b c d p q r s:Nat} (h1:zg a=p) (h2:zg b=q) (h3:zg c=r) (h4:zg d=s):yX a b c d=yX p q r s:=by
 subst h1 h2 h3 h4;unfold yX;rw [yl,yl,yl,yl]
theorem rK (a b c d:Nat):zg (xP a b c d).1=(xP a b c d).1∧zg (xP a b c d).2=(xP a b c d).2:=⟨zi (xV _ _).1,zi (xV _ _).2⟩
theorem rL (a b c d:Nat):zg (yT a b c d).1=(yT a b c d).1∧zg (yT a b c d).2=(yT a b c d).2:=⟨zi (xV _ _).1,zi (xV _ _).2⟩
theorem rM (a b c d:Nat):zg (yX a b c d).1=(yX a b c d).1∧zg (yX a b c d).2=(yX a b c d).2:=⟨zi (xl _ _ _ _).1,zi (xl _ _ _ _).2⟩
def sQ (r x:Nat→Nat) (b:Nat):Nat→Nat × Nat
 | 0=>(b,b)
 | j+1=>yT (sQ r x b j).1 (sQ r x b j).2 (yX (r j) (r j) (x j) (x j)).1 (yX (r j) (r j) (x j) (x j)).2
end Go.Proofs.Ytgnledamhjbafaa
namespace Go.Proofs.Ytgnledamhjbafaa
open Go.RowKit Lib
open Ieee (double)
attribute [local go_sem] zf ze zh zd zu zt zw zx zy zA zj zk zm zn zo zF yd zU zG xq
theorem infoT:(Try.prog.info? 26).map (fun i=>(i.zero,i.size,i.bytes))=some (some (.agg #[.float .f64 0,.float .f64 0]),2,16):=by kernel_rfl
theorem sR (a:Nat) (w:World):Calls Try.prog 40 #[.float .f64 a] w (wh (iv a a) w):=by
 go_enter Try.func40,Try.ntmps40;have hb:=(Below.refl w.heap.size w).alloc (Nat.le_refl _) (.cells #[.float .f64 a,.float .f64 a] 26);go_wp2_with fail;exact bodyPost_ret (v:=iv a a) (by simp [iv,results,Try.results40,go_sem]) rfl ⟨rfl,hb⟩
theorem sK (a:Nat) (w:World):Calls Try.prog 52 #[.float .f64 a] w (wh (iv a a) w):=by
 go_enter Try.func52,Try.ntmps52;have hb:=(Below.refl w.heap.size w).alloc (Nat.le_refl _) (.cells #[.float .f64 a,.float .f64 a] 26);go_wp2_with fail;exact bodyPost_ret (v:=iv a a) (by simp [iv,results,Try.results52,go_sem]) rfl ⟨rfl,hb⟩
theorem rr (a b c d:Nat) (w:World):Calls Try.prog 44 #[iv a b,iv c d] w (wh (iv (yT a b c d).1 (yT a b c d).2) w):=(sG a b c d w).mono fun _ _ h=>yk.eq h (wJ _ _)
theorem rt (a b c d:Nat) (w:World):Calls Try.prog 48 #[iv a b,iv c d] w (wh (iv (yX a b c d).1 (yX a b c d).2) w):=(sH a b c d w).mono fun _ _ h=>yk.eq h (yC _ _ _ _)
def wm (b u v:Nat) (w:World):Prop:=xg w b 0 u∧xg w b 1 v∧w.frozen? ⟨b,0,none⟩=false∧w.frozen? ⟨b,1,none⟩=false∧b<w.heap.size
theorem wm.below {b u v:Nat} {w w':World} (h:wm b u v w) (hb:Below w.heap.size w w'):wm b u v w':=by
 obtain ⟨h1,h2,h3,h4,h5⟩:=h;exact ⟨h1.same ((zW hb).1 _ _ h5),h2.same ((zW hb).1 _ _ h5),((zW hb).2 _ _ h5).trans h3,((zW hb).2 _ _ h5).trans h4,Nat.lt_of_lt_of_le h5 hb.size⟩
theorem wm.new {y z u v:Nat} (w:World) (t:TypeId) (h1:zg y=u) (h2:y<18446744073709551616) (h3:zg z=v) (h4:z<18446744073709551616):wm w.heap.size u v (w.alloc (.cells #[.float .f64 y,.float .f64 z] t)):=by
 refine ⟨⟨y,?_,h1,h2⟩,⟨z,?_,h3,h4⟩,?_,?_,by simp⟩
 ·rw [World.cell?_alloc_new]; rfl
 ·rw [World.cell?_alloc_new]; rfl
 ·simp [go_sem]
 ·simp [go_sem]
theorem wm.set {b u v y z p q:Nat} {w:World} (h:wm b u v w) (h1:zg y=p) (h2:y<18446744073709551616) (h3:zg z=q) (h4:z<18446744073709551616):wm b p q ((w.setCell ⟨b,0,none⟩ (.float .f64 y)).setCell ⟨b,1,none⟩ (.float .f64 z)):=by
 obtain ⟨⟨y0,c1,-,-⟩,⟨z0,c2,-,-⟩,f1,f2,hs⟩:=h;refine ⟨⟨y,?_,h1,h2⟩,⟨z,?_,h3,h4⟩,?_,?_,by simp [World.setCell]; exact hs⟩
 ·simp [go_sem,c1]
 ·simp [go_sem,c2]
 ·simp [go_sem,f1]
 ·simp [go_sem,f2]
theorem wo {x y:Nat} (h:zg x=zg y):uc x y=true:=by
 have hn:isN x=isN y:=by rw [← zK x,h,zK]
 unfold uc;rw [← tj,h,zj,zK,hn];cases isN y<;>rfl
theorem sS {x y:Nat} (w:World) (h:uc x y=true):Calls Try.prog 61 #[.float .f64 x,.float .f64 y] w fun e w'=>e=.returned (.bool true)∧w'=w:=
 (tN x y w).mono fun _ _ ⟨h1,h2⟩=>⟨h1.trans (by rw [h]),h2.symm⟩
set_option maxHeartbeats 16000000
theorem rA (a b c d:Nat) (w:World) (h1:zg a=zg c) (h2:zg b=zg d):Calls Try.prog 23 #[iv a b,iv c d] w (wh (.bool true) w):=by
 have s1:=wo h1;have s2:=wo h2;unfold iv;go_enter Try.func23,Try.ntmps23;have hb:Below w.heap.size w ((w.alloc (.cells #[.float .f64 a,.float .f64 b] 26)).alloc (.cells #[.float .f64 c,.float .f64 d] 26)):=((Below.refl _ _).alloc (Nat.le_refl _) _).alloc (by simp) _;go_wp2_with fail;refine (sS _ s1).mono ?_;rintro e w' ⟨rfl,rfl⟩;go_wp2_with fail;refine (sS _ s2).mono ?_;rintro e w' ⟨rfl,rfl⟩;go_wp2_with fail;go_ret;exact ⟨rfl,hb⟩
theorem rinfW (w:World):Calls Try.prog 78 #[] w fun e w'=>e=.returned (.float .f64 9218868437227405312)∧w'=w:=by
 go_enter Try.func78,Try.ntmps78;go_wp2_with fail;refine (wC _).mono ?_;rintro e w' ⟨rfl,rfl⟩;go_wp2_with fail;go_ret;exact ⟨rfl,rfl⟩
theorem xi.row {w:World} {base n:Nat} {v:Value} {qs:List Value} {f:Nat→Nat} (h:xi qs n f) (ho:w.ownsRow base 24 1 v n qs) (hn:n≤9223372036854775807):yH w v n f:=by
 by_cases h0:0<n
 ·obtain ⟨R,cap,rfl,hO⟩:=h.own ho h0;exact hO.flts hn
 ·obtain ⟨a,cap,rfl⟩:=wT ho;exact ⟨a,cap,rfl,hn,fun h=>absurd h h0⟩
end Go.Proofs.Ytgnledamhjbafaa
namespace Go.Proofs.Ytgnledamhjbafaa
open Go.RowKit Lib
open Ieee (double)
attribute [local go_sem] zf ze zh zd zu zt zw zx zy zA zj zk zm zn zo
theorem we {W w1:World} (hb:Below W.heap.size W w1):(∀ b o,b<W.heap.size→w1.cell? ⟨b,o,none⟩=W.cell? ⟨b,o,none⟩)∧(∀ b o,b<W.heap.size→w1.frozen? ⟨b,o,none⟩=W.frozen? ⟨b,o,none⟩):=
 ⟨fun b o h=>hb.cell (p:=⟨b,o,none⟩) h,fun b o h=>hb.frozen (p:=⟨b,o,none⟩) h⟩
structure OpD where
 k:Int
 a:Int
 b:Int
 c:Nat
def sn (B:Nat) (o:OpD) (w:World):Prop:=
 w.cell? ⟨B,0,none⟩=some (.int .i64 o.k)∧w.cell? ⟨B,1,none⟩=some (.int .i64 o.a)∧w.cell? ⟨B,2,none⟩=some (.int .i64 o.b)∧w.cell? ⟨B,3,none⟩=some (.float .f64 o.c)∧B<w.heap.size
theorem sn.below {B:Nat} {o:OpD} {w w':World} (h:sn B o w) (hb:Below w.heap.size w w'):sn B o w':=by
 obtain ⟨h1,h2,h3,h4,h5⟩:=h;obtain ⟨hc,-⟩:=we hb;have:=hb.size;exact ⟨by rw [hc _ _ h5]; exact h1,by rw [hc _ _ h5]; exact h2,by rw [hc _ _ h5]; exact h3,by rw [hc _ _ h5]; exact h4,by omega⟩
theorem sn.new (o:OpD) (w:World) (t:TypeId):sn w.heap.size o (w.alloc (.cells #[.int .i64 o.k,.int .i64 o.a,.int .i64 o.b,.float .f64 o.c] t)):=by
 refine ⟨?_,?_,?_,?_,by simp⟩<;>rw [World.cell?_alloc_new]<;>rfl
structure TD where
 n:Int
 len:Nat
 op:Nat→OpD
 lo:Nat
 out:Nat→Int
def un (w:World) (v:Value) (len:Nat) (op:Nat→OpD):Prop:=
 ∃ a cap,v=.slice a len cap∧len≤9223372036854775807∧(0<len→∃ b off,a=some ⟨b,off,none⟩∧b<w.heap.size∧∀ i,i<len →
  w.cell? ⟨b,off+i*4,none⟩=some (.int .i64 (op i).k)∧w.cell? ⟨b,off+i*4+1,none⟩=some (.int .i64 (op i).a)∧w.cell? ⟨b,off+i*4+2,none⟩=some (.int .i64 (op i).b)∧w.cell? ⟨b,off+i*4+3,none⟩=some (.float .f64 (op i).c))
def uo (w:World) (v:Value) (len:Nat) (f:Nat→Int):Prop:=
 ∃ a cap,v=.slice a len cap∧len≤9223372036854775807∧(0<len→∃ b off,a=some ⟨b,off,none⟩∧b<w.heap.size∧∀ i,i<len→w.cell? ⟨b,off+i,none⟩=some (.int .i64 (f i)))
def vT (w:World) (v:Value) (T:TD):Prop:=∃ vo vu,v=.agg #[.int .i64 T.n,vo,vu]∧un w vo T.len T.op∧uo w vu T.lo T.out
theorem un.below {w w':World} {v:Value} {len:Nat} {op:Nat→OpD} (h:un w v len op) (hb:Below w.heap.size w w'):un w' v len op:=by
 obtain ⟨a,cap,h1,h2,h3⟩:=h;refine ⟨a,cap,h1,h2,fun hl=>?_⟩;obtain ⟨b,off,e,hs,hc⟩:=h3 hl;obtain ⟨hk,-⟩:=we hb;refine ⟨b,off,e,Nat.lt_of_lt_of_le hs hb.size,fun i hi=>?_⟩;obtain ⟨c1,c2,c3,c4⟩:=hc i hi;exact ⟨by rw [hk _ _ hs]; exact c1,by rw [hk _ _ hs]; exact c2,by rw [hk _ _ hs]; exact c3,by rw [hk _ _ hs]; exact c4⟩
theorem uo.below {w w':World} {v:Value} {len:Nat} {f:Nat→Int} (h:uo w v len f) (hb:Below w.heap.size w w'):uo w' v len f:=by
 obtain ⟨a,cap,h1,h2,h3⟩:=h;refine ⟨a,cap,h1,h2,fun hl=>?_⟩;obtain ⟨b,off,e,hs,hc⟩:=h3 hl;obtain ⟨hk,-⟩:=we hb;exact ⟨b,off,e,Nat.lt_of_lt_of_le hs hb.size,fun i hi=>by rw [hk _ _ hs]; exact hc i hi⟩
theorem vT.below {w w':World} {v:Value} {T:TD} (h:vT w v T) (hb:Below w.heap.size w w'):vT w' v T:=by
 obtain ⟨vo,vu,h1,h2,h3⟩:=h;exact ⟨vo,vu,h1,h2.below hb,h3.below hb⟩
def sp (B:Nat) (n:Int) (vo vu:Value) (w:World):Prop:=
 w.cell? ⟨B,0,none⟩=some (.int .i64 n)∧w.cell? ⟨B,1,none⟩=some vo∧w.cell? ⟨B,2,none⟩=some vu∧B<w.heap.size
theorem sp.below {B:Nat} {n:Int} {vo vu:Value} {w w':World} (h:sp B n vo vu w) (hb:Below w.heap.size w w'):sp B n vo vu w':=by
 obtain ⟨h1,h2,h3,h5⟩:=h;obtain ⟨hc,-⟩:=we hb;have:=hb.size;exact ⟨by rw [hc _ _ h5]; exact h1,by rw [hc _ _ h5]; exact h2,by rw [hc _ _ h5]; exact h3,by omega⟩
theorem sp.new (n:Int) (vo vu:Value) (w:World) (t:TypeId):sp w.heap.size n vo vu (w.alloc (.cells #[.int .i64 n,vo,vu] t)):=by
 refine ⟨?_,?_,?_,by simp⟩<;>rw [World.cell?_alloc_new]<;>rfl
theorem yu (P:Program) (w:World) (a:Addr) (m:Mode) (b:Nat):(store a (.float .f64 b) m).run P w=stored P w a (.float .f64 b) m:=run_store P w a _ m rfl
def uI (o:OpD):List Value:=[.int .i64 o.k,.int .i64 o.a,.int .i64 o.b,.float .f64 o.c]
def uJ (op:Nat→OpD):Nat→List Value
 | 0=>[]
 | k+1=>uJ op k ++ uI (op k)
theorem uq (op:Nat→OpD):∀ k,(uJ op k).length=k*4
 | 0=>rfl
 | k+1=>by rw [uJ,List.length_append,uq op k]; simp [uI]; omega
theorem xm (op:Nat→OpD) {i r:Nat} (hr:r<4):∀ {k:Nat},i<k→(uJ op k)[i*4+r]? = (uI (op i))[r]?
 | k+1,h=>by
  have hl:=uq op k;rw [uJ];by_cases e:i=k
  ·subst e;rw [List.getElem?_append_right (by omega),hl]
   congr 1
   omega
  ·rw [List.getElem?_append_left (by rw [hl]; omega)];exact xm op hr (by omega)
def wZ (f:Nat→Int):Nat→List Value
 | 0=>[]
 | k+1=>wZ f k ++ [.int .i64 (f k)]
theorem vB (f:Nat→Int):∀ k,(wZ f k).length=k
 | 0=>rfl
 | k+1=>by rw [wZ,List.length_append,vB f k]; simp
theorem vC (f:Nat→Int) {i:Nat}:∀ {k:Nat},i<k→(wZ f k)[i]? = some (.int .i64 (f i))
 | k+1,h=>by
  have hl:=vB f k;rw [wZ];by_cases e:i=k
  ·subst e;rw [List.getElem?_append_right (by omega),hl];simp
  ·rw [List.getElem?_append_left (by omega)];exact vC f (by omega)
theorem vD {w:World} {base:Nat} {e:TypeId} {size n:Nat} {v:Value} {xs:List Value} (h:w.ownsRow base e size v n xs):∃ a cap,v=.slice a n cap∧(0<n→∃ g,a=some ⟨g,0,none⟩∧g<w.heap.size∧∀ j,j<n*size→w.cell? ⟨g,j,none⟩=xs[j]?):=by
 rcases id h.2 with ⟨rfl,rfl⟩ | ⟨g,cap,cur,rfl,h1,h2,h3⟩
 ·exact ⟨none,0,rfl,fun h=>by omega⟩
 ·refine ⟨_,cap,rfl,fun _=>⟨g,rfl,?_,fun j hj=>h.cellAt j hj⟩⟩;exact (h.lt g rfl).2
theorem uK {w:World} {base:Nat} {e:TypeId} {n:Nat} {v:Value} {op:Nat→OpD} (h:w.ownsRow base e 4 v n (uJ op n)) (hn:n≤9223372036854775807):un w v n op:=by
 obtain ⟨a,cap,rfl,hc⟩:=vD h;refine ⟨a,cap,rfl,hn,fun h0=>?_⟩;obtain ⟨g,rfl,hg,hc⟩:=hc h0;refine ⟨g,0,rfl,hg,fun i hi=>⟨?_,?_,?_,?_⟩⟩
 ·have:=hc (i*4) (by omega); rw [Nat.zero_add,this]; exact (xm op (r:=0) (by omega) hi)
 ·have:=hc (i*4+1) (by omega); rw [Nat.zero_add,this]; exact (xm op (r:=1) (by omega) hi)
 ·have:=hc (i*4+2) (by omega); rw [Nat.zero_add,this]; exact (xm op (r:=2) (by omega) hi)
 ·have:=hc (i*4+3) (by omega); rw [Nat.zero_add,this]; exact (xm op (r:=3) (by omega) hi)
theorem ur {w:World} {base:Nat} {e:TypeId} {n:Nat} {v:Value} {f:Nat→Int} (h:w.ownsRow base e 1 v n (wZ f n)) (hn:n≤9223372036854775807):uo w v n f:=by
 obtain ⟨a,cap,rfl,hc⟩:=vD h;refine ⟨a,cap,rfl,hn,fun h0=>?_⟩;obtain ⟨g,rfl,hg,hc⟩:=hc h0;refine ⟨g,0,rfl,hg,fun i hi=>?_⟩;have:=hc i (by omega);rw [Nat.zero_add,this];exact vC f hi
def MV (w0:World) (B:Nat) (n:Int) (vo vu:Value) (w:World):Prop:=
 w.cell? ⟨B+1,0,none⟩=some (.int .i64 n)∧w.cell? ⟨B+1,1,none⟩=some vo∧w.cell? ⟨B+1,2,none⟩=some vu ∧
 w.frozen? ⟨B+1,0,none⟩=false∧w.frozen? ⟨B+1,1,none⟩=false∧w.frozen? ⟨B+1,2,none⟩=false ∧
 w.cell? ⟨B,0,none⟩=some (.int .i64 0)∧w.cell? ⟨B,1,none⟩=some (.slice none 0 0)∧w.cell? ⟨B,2,none⟩=some (.slice none 0 0) ∧
 w.frozen? ⟨B,0,none⟩=false∧w.frozen? ⟨B,1,none⟩=false∧w.frozen? ⟨B,2,none⟩=false∧B+1<w.heap.size∧w0.heap.size=B∧Below B w0 w
theorem vE {w w':World} {base:Nat} {e:TypeId} {size n:Nat} {v:Value} {xs:List Value} (h:w.ownsRow base e size v n xs) (hb:Below w.heap.size w w'):w'.ownsRow base e size v n xs:=by
 refine h.kept (row:=none) ⟨hb.os,hb.tape,hb.output,hb.size,fun k hk _=>hb.block k hk⟩ ?_;cases v.ownBlock<;>simp
theorem wq (a n:Int) (w:World) (h1:1≤n) (h2:n≤9223372036854775807) :
  Calls Try.prog 62 #[.int .i64 a,.int .i64 n] w fun e w'=>e=.returned (.int .i64 (a % n))∧w=w':=by
 have h2':=Int.emod_nonneg a (show n≠0 by omega);have h3:=Int.emod_lt_of_pos a (show 0<n by omega);have h:=vK (a:=a) h1;have H:=hid h;clear h;go_enter Try.func62,Try.ntmps62
 go_wp2
 ·go_ret;refine ⟨?_,rfl⟩;have:=H.out.1 (by assumption);exact uO (by rw [this]; unfold wrap64; omega)
 ·go_ret;refine ⟨?_,rfl⟩;exact uO (H.out.2 (by assumption))
end Go.Proofs.Ytgnledamhjbafaa
namespace Go.Proofs.Ytgnledamhjbafaa
open Go.RowKit Lib
open Ieee (double)
attribute [local go_sem] zf ze zh zd zu zt zw zx zy zA zj zk zm zn zo yu yd zU zG xq
def xW (w:World) (base:Nat) (u:Value) (T:TD):Prop:=∃ va vb,u=.agg #[.int .i64 T.n,va,vb]∧w.ownsRow base 59 4 va T.len (uJ T.op T.len)∧w.ownsRow base 3 1 vb T.lo (wZ T.out T.lo)∧∀ k,va.ownBlock=some k→vb.ownBlock≠some k
theorem xW.at {w:World} {base:Nat} {u:Value} {T:TD} (h:xW w base u T) (h1:T.len≤9223372036854775807) (h2:T.lo≤9223372036854775807):vT w u T:=by
 obtain ⟨va,vb,rfl,ha,hb,-⟩:=h;exact ⟨va,vb,rfl,uK ha h1,ur hb h2⟩
theorem xW.below {w w':World} {base:Nat} {u:Value} {T:TD} (h:xW w base u T) (hb:Below w.heap.size w w'):xW w' base u T:=by
 obtain ⟨va,vb,rfl,ha,hc,hd⟩:=h;exact ⟨va,vb,rfl,vE ha hb,vE hc hb,hd⟩
theorem ut {op:BinOp} {a b:Nat} (h:isN (cop op a b)=false):(∀ w,zV op w a b=cop op a b)∧yV op a b=0:=by
 have e:∃ r,floatBits op .f64 a b=some r:=by
  cases e:floatBits op .f64 a b with
  | some r=>exact ⟨r,rfl⟩
  | none=>
   rw [show cop op a b=xI by unfold cop; rw [e]] at h;exact absurd h (by decide)
 obtain ⟨r,hr⟩:=e;refine ⟨fun w=>?_,by unfold yV; rw [hr]; rfl⟩;have e1:zg (zV op w a b)=cop op a b:=yf _ _ _ _;have nf:isN (zV op w a b)=false:=by rw [← zK,e1]; exact h
 rw [← e1,zi nf]
theorem MV.start (w:World) (n:Int) (t:TypeId):MV w w.heap.size n (.slice none 0 0) (.slice none 0 0) ((w.alloc (.cells #[.int .i64 0,.slice none 0 0,.slice none 0 0] t)).alloc (.cells #[.int .i64 n,.slice none 0 0,.slice none 0 0] t)):=by
 have e:(w.alloc (.cells #[.int .i64 0,.slice none 0 0,.slice none 0 0] t)).heap.size=w.heap.size+1:=by simp
 refine ⟨?_,?_,?_,?_,?_,?_,?_,?_,?_,?_,?_,?_,by simp,rfl,((Below.refl _ _).alloc (Nat.le_refl _) _).alloc (by rw [e]; omega) _⟩
 iterate 3 (rw [← e,World.cell?_alloc_new]; rfl)
 iterate 3 simp [go_sem]
 iterate 3 (rw [World.cell?_alloc_lt _ _ _ (show w.heap.size<_ by rw [e]; omega),World.cell?_alloc_new]; rfl)
 all_goals simp [go_sem]
end Go.Proofs.Ytgnledamhjbafaa
namespace Go.Proofs.Ytgnledamhjbafaa
open Go.RowKit Lib
open Ieee (double)
attribute [local go_sem] zf ze zh zd zu zt zw zx zy zA zj zk zm zn zo zF
def c8 (x:Int):Nat:=cop .quo (floatOfInt .f64 x) 4620693217682128896
theorem rB:∀ i:Fin 65,isN (c8 ((i.val:Int)-32))=false:=by decide +kernel
theorem ss {x:Int} (h1:-32≤x) (h2:x≤32):(∀ w,zV .quo w (floatOfInt .f64 x) 4620693217682128896=c8 x)∧yV .quo (floatOfInt .f64 x) 4620693217682128896=0∧zg (c8 x)=c8 x∧c8 x<18446744073709551616:=by
 have h:=rB ⟨(x+32).toNat,by omega⟩;have e:(((x+32).toNat:Nat):Int)-32=x:=by omega
 simp only [e] at h;exact ⟨(ut h).1,(ut h).2,tk _ _ _,zL _ _ _⟩
def nth (zs:List Int) (d:Int) (i:Nat):Int:=if i<zs.length then zs.getD i 0 else d
def su (zs:List Int) (i:Nat):Nat:=c8 (nth zs i i % 65-32)
theorem tx.read {w:World} {v:Value} {zs:List Int} (h:tx w v zs):∃ a cap,v=.slice a zs.length cap∧zs.length≤9223372036854775807∧(0<zs.length→∃ b off,a=some ⟨b,off,none⟩∧b<w.heap.size∧∀ i,i<zs.length→w.cell? ⟨b,off+i,none⟩=some (.int .i64 (zs.getD i 0))):=by
 rcases h with ⟨o,cap,rfl,rfl⟩ | ⟨b,off,cap,rfl,hbs,hl,hc⟩
 ·exact ⟨o,cap,rfl,by simp,fun h=>by simp at h⟩
 ·exact ⟨_,cap,rfl,hl,fun _=>⟨b,off,rfl,hbs,hc⟩⟩
theorem rC {w w':World} {v:Value} {zs:List Int} (h:tx w v zs) (hb:Below w.heap.size w w'):tx w' v zs:=by
 rcases h with h | ⟨b,off,cap,rfl,hbs,hl,hc⟩
 ·exact .inl h
 ·exact .inr ⟨b,off,cap,rfl,Nat.lt_of_lt_of_le hbs hb.size,hl,fun i hi=>((zW hb).1 _ _ hbs).trans (hc i hi)⟩
set_option maxRecDepth 100000
set_option maxHeartbeats 16000000
theorem sL (n:Nat) (v:Value) (zs:List Int) (w:World) (h:tx w v zs) (h1:1≤n) (h8:n≤8) :
  Calls Try.prog 26 #[.int .i64 n,v] w fun e w'=>∃ R cap,e=.returned (.slice (some ⟨R,0,none⟩) n cap)∧zM w' w.heap.size R n cap (su zs)∧Below w.heap.size w w':=by
 obtain ⟨a,cap0,rfl,hl,hr⟩:=h.read;obtain ⟨iF,hF,f1,f2,f3⟩:=info_parts infoF;have HF:=hid (show iF.zero=_∧iF.size=_∧iF.bytes=_ from ⟨f1,f2,f3⟩);have HF0:=hid hF;have HR:=hid hr;clear hF f1 f2 f3 hr h;go_enter Try.func26,Try.ntmps26;generalize hB:w.heap.size=B at *;go_wp2_with fail
 go_loopw [5,6] (fun vr i wr=>∃ (j:Nat) (qs:List Value),j≤n∧i=.int .i64 j∧wr.ownsRow B 24 1 vr j qs∧xi qs j (su zs)∧Below B w wr) (fun _ i _=>n-(intOf i).toNat)
 case atStart=>exact ⟨0,[],by omega,rfl,World.ownsRow_nil _ _ _ _,xi.nil _ _,Below.refl _ _⟩
 case round=>
  obtain ⟨j,qs,hj,rfl,ho,hq,hbl⟩:=hrel;obtain ⟨va,vcap,rfl⟩:=wT ho;by_cases hlt:j<n
  ·have HQ:=hid hq;have hsz:=hbl.size;have hrow:su zs j=c8 (nth zs j j % 65-32):=rfl;have HROW:=hid hrow;clear hq hrow;by_cases hz:j<zs.length
   ·obtain ⟨b,off,rfl,hbs,hc⟩:=HR.out (by omega);have d1:=hc j hz;rw [← show wr.cell? ⟨b,off+j,none⟩=w.cell? ⟨b,off+j,none⟩ from hbl.cell (p:=⟨b,off+j,none⟩) hbs] at d1;have hnth:nth zs j j=zs.getD j 0:=if_pos hz;generalize zs.getD j 0=u at *;have HN:=hid hnth;clear hc hnth;go_wp2_with fail;refine (wq u 65 _ (by decide) (by decide)).mono ?_;rintro e w' ⟨rfl,rfl⟩;have b1:=Int.emod_nonneg u (show (65:Int)≠0 by decide);have b2:=Int.emod_lt_of_pos u (show (0:Int)<65 by decide);have HU:=hid (show su zs j=c8 (u % 65-32) by rw [HROW.out,HN.out]);generalize u % 65=t at *;obtain ⟨k1,k2,k3,k4⟩:=ss (x:=t-32) (by omega) (by omega);have HK:=hid k3;have HO:=hid ho;clear k3 ho HN HROW;generalize c8 (t-32)=y at *
    go_wp2_with (first
     | (at_builtin; refine wpList_append_own_at _ rfl _ _ 34 rfl B 24 iF (.float .f64 0) 1 8 Try.underlying34 HF0.out HF.out.1 HF.out.2.1 HF.out.2.2 rfl (by decide) (.slice va j vcap) j qs rfl (xp (HO.out.alloc _) _) ⟨wr.heap.size,0,none⟩ 1 1 [.float .f64 y] rfl rfl (sN wr (.float .f64 y) 24 _) (by simp [Value.oneCell']) (by unfold maxLen; omega) (by omega) (yR _ _ _ (by omega)) ?_)
     | go_in)
    intro v' w2 hown' hgrow _ _;have hb2:Below B wr w2:=(zI ((Below.refl B wr).alloc (by omega) _) 0).trans (wi (xp (HO.out.alloc _) 0) (Nat.le_refl _) (yR _ _ _ (by omega)) hgrow);have hql:=HO.out.1;have hq':=HQ.out.app (by omega) (HK.out.trans HU.out.symm) k4;have HQ':=hid hq';have HO':=hid hown';clear hq' hown' hgrow k1 k2;go_wp2_with fail
    go_roundw
    case rel=>exact ⟨j+1,_,by omega,by go_num,HO'.out,HQ'.out,hbl.trans hb2⟩
    case measure=>simp [intOf]; omega
   ·have hnth:nth zs j j=(j:Int):=if_neg hz;have HN:=hid hnth;clear hnth;go_wp2_with fail;refine (wq (j:Int) 65 _ (by decide) (by decide)).mono ?_;rintro e w' ⟨rfl,rfl⟩;have b1:=Int.emod_nonneg (j:Int) (show (65:Int)≠0 by decide);have b2:=Int.emod_lt_of_pos (j:Int) (show (0:Int)<65 by decide);have HU:=hid (show su zs j=c8 ((j:Int) % 65-32) by rw [HROW.out,HN.out]);generalize (j:Int) % 65=t at *;obtain ⟨k1,k2,k3,k4⟩:=ss (x:=t-32) (by omega) (by omega);have HK:=hid k3;have HO:=hid ho;clear k3 ho HN HROW;generalize c8 (t-32)=y at *
    go_wp2_with (first
     | (at_builtin; refine wpList_append_own_at _ rfl _ _ 34 rfl B 24 iF (.float .f64 0) 1 8 Try.underlying34 HF0.out HF.out.1 HF.out.2.1 HF.out.2.2 rfl (by decide) (.slice va j vcap) j qs rfl (xp (HO.out.alloc _) _) ⟨wr.heap.size,0,none⟩ 1 1 [.float .f64 y] rfl rfl (sN wr (.float .f64 y) 24 _) (by simp [Value.oneCell']) (by unfold maxLen; omega) (by omega) (yR _ _ _ (by omega)) ?_)
     | go_in)
    intro v' w2 hown' hgrow _ _;have hb2:Below B wr w2:=(zI ((Below.refl B wr).alloc (by omega) _) 0).trans (wi (xp (HO.out.alloc _) 0) (Nat.le_refl _) (yR _ _ _ (by omega)) hgrow);have hql:=HO.out.1;have hq':=HQ.out.app (by omega) (HK.out.trans HU.out.symm) k4;have HQ':=hid hq';have HO':=hid hown';clear hq' hown' hgrow k1 k2;go_wp2_with fail
    go_roundw
    case rel=>exact ⟨j+1,_,by omega,by go_num,HO'.out,HQ'.out,hbl.trans hb2⟩
    case measure=>simp [intOf]; omega
  ·obtain rfl:j=n:=by omega
   obtain ⟨R,cap,hv,hO⟩:=hq.own ho (by omega);simp only [Value.slice.injEq] at hv;obtain ⟨rfl,-,rfl⟩:=hv;have HO:=hid hO;clear hO ho hq;go_wp2_with fail;go_ret;exact ⟨R,vcap,rfl,HO.out,hbl⟩
end Go.Proofs.Ytgnledamhjbafaa
