/-
  Contracts (what a function tells) and plain facts that a law's proof hangs on, for every input; no condition but those in their statements. Laid together of the texts Ja, Jb, Jk, Cfa, Cfb, Cfc.
-/
import Derived.Test.YtfcjfijmdikcmaaKb
namespace Go.Proofs.Ytfcjfijmdikcmaa
open Go.RowKit Lib
open Ieee (double)
attribute [local go_sem] zh zf zI zA zJ zK zL zM zn zp zq zr zt zW zF zz zl yb
theorem zc {w:World} {b:Nat} {cs:Array Value} {t:TypeId} {fr:Nat × Nat} (h:w.heap[b]? = some (.cells cs t fr)) (o:Nat):w.cell? ⟨b,o,none⟩=cs[o]?:=by simp [World.cell?,h]
theorem zw {w:World} {b:Nat} {o:Obj} (h:w.heap[b]? = some o):b<w.heap.size:=by
 rcases Nat.lt_or_ge b w.heap.size with g | g
 ·exact g
 ·rw [Array.getElem?_eq_none g] at h; cases h
theorem al1 (w:World) (o:Obj):(w.alloc o).heap[w.heap.size]? = some o∧(w.alloc o).heap.size=w.heap.size+1∧Below w.heap.size w (w.alloc o):=⟨heap_alloc_new w o,by simp,(Below.refl _ _).alloc (Nat.le_refl _) _⟩
theorem al2 (w:World) (o p:Obj):((w.alloc o).alloc p).heap[w.heap.size]? = some o∧((w.alloc o).alloc p).heap[w.heap.size+1]? = some p∧((w.alloc o).alloc p).heap.size=w.heap.size+2∧Below w.heap.size w ((w.alloc o).alloc p):=by
 obtain ⟨h1,h2,h3⟩:=al1 w o;obtain ⟨g1,g2,g3⟩:=al1 (w.alloc o) p;rw [h2] at g1 g2;exact ⟨(g3.block _ (by omega)).trans h1,g1,g2,h3.trans (g3.mono (by omega))⟩
theorem zi {w:World} {b:Nat} {cs:Array Value} {t:TypeId} (h:w.heap[b]? = some (.cells cs t)) (o:Nat):w.frozen? ⟨b,o,none⟩=false:=by simp [World.frozen?,h]
def CB (N:Nat) (v:Value) (w:World):Prop:=w.cell? ⟨N,0,none⟩=some v∧N<w.heap.size
theorem CB.below {N:Nat} {v:Value} {w w':World} (h:CB N v w) (hb:Below w.heap.size w w'):CB N v w':=by
 obtain ⟨h1,h6⟩:=h;have:=hb.size;exact ⟨by rw [(yf hb).1 _ _ h6]; exact h1,by omega⟩
def DB (A y:Nat) (v:Value) (w:World):Prop:=w.cell? ⟨A,0,none⟩=some (.float .f64 y)∧w.cell? ⟨A,1,none⟩=some v∧A<w.heap.size
theorem DB.below {A y:Nat} {v:Value} {w w':World} (h:DB A y v w) (hb:Below w.heap.size w w'):DB A y v w':=by
 obtain ⟨h1,h2,h6⟩:=h;obtain ⟨hc,-⟩:=yf hb;have:=hb.size;exact ⟨by rw [hc _ _ h6]; exact h1,by rw [hc _ _ h6]; exact h2,by omega⟩
theorem DB.of {A y:Nat} {v:Value} {t:TypeId} {w:World} (h:w.heap[A]? = some (.cells #[.float .f64 y,v] t)):DB A y v w:=⟨by rw [zc h]; rfl,by rw [zc h]; rfl,zw h⟩
theorem CB.of {A:Nat} {v:Value} {t:TypeId} {w:World} (h:w.heap[A]? = some (.cells #[v] t)):CB A v w:=⟨by rw [zc h]; rfl,zw h⟩
end Go.Proofs.Ytfcjfijmdikcmaa
namespace Go.Proofs.Ytfcjfijmdikcmaa
open Go.RowKit Lib
open Ieee (double)
structure zN (X:World) (q:Nat) (W:World):Prop where
 out:Below 0 X W
 block:∀ k,k<X.heap.size→k≠q→W.heap[k]? = X.heap[k]?
theorem zN.refl (X:World) (q:Nat):zN X q X:=⟨Below.refl _ _,fun _ _ _=>rfl⟩
theorem zN.size {X:World} {q:Nat} {W:World} (h:zN X q W):X.heap.size≤W.heap.size:=h.out.size
theorem zN.drewN {X:World} {q:Nat} {W:World} (h:zN X q W) (n:Nat):zN X q (W.drewN n):=⟨below_drewN h.out n,h.block⟩
theorem zN.drew {X:World} {q:Nat} {W:World} (h:zN X q W):zN X q W.drew:=h.drewN 1
theorem zN.step {X:World} {q:Nat} {W W':World} (h:zN X q W) (hb:Below W.heap.size W W'):zN X q W':=
 ⟨h.out.trans (hb.mono (Nat.zero_le _)),fun k hk hn=>(hb.block k (Nat.lt_of_lt_of_le hk h.size)).trans (h.block k hk hn)⟩
theorem zN.set {X:World} {q:Nat} {W:World} (h:zN X q W) (o:Nat) (v:Value):zN X q (W.setCell ⟨q,o,none⟩ v):=
 ⟨h.out.setCell (Nat.zero_le _) v,fun k hk hn=>(Below.heap_setCell _ _ _ _ hn).trans (h.block k hk hn)⟩
theorem zN.cell {X:World} {q:Nat} {W:World} (h:zN X q W) {b:Nat} (hb:b<X.heap.size) (hn:b≠q) (o:Nat):W.cell? ⟨b,o,none⟩=X.cell? ⟨b,o,none⟩:=World.cell?_of_block (a:=⟨b,o,none⟩) (h.block b hb hn)
theorem zN.free {X:World} {q:Nat} {W:World} (h:zN X q W) {b:Nat} (hb:b<X.heap.size) (hn:b≠q) (o:Nat):W.frozen? ⟨b,o,none⟩=X.frozen? ⟨b,o,none⟩:=World.frozen?_of_block (a:=⟨b,o,none⟩) (h.block b hb hn)
theorem zN.below {X:World} {q:Nat} {W:World} (h:zN X q W) {B:Nat} {w:World} (hb:Below B w X) (hq:B≤q) (hs:B≤X.heap.size):Below B w W:=
 ⟨h.out.os.trans hb.os,h.out.tape.trans hb.tape,h.out.output.trans hb.output,Nat.le_trans hb.size h.out.size,fun k hk=>(h.block k (by omega) (by omega)).trans (hb.block k hk)⟩
end Go.Proofs.Ytfcjfijmdikcmaa
namespace Go.Proofs.Ytfcjfijmdikcmaa
open Go.RowKit Lib
open Ieee (double)
attribute [local go_sem] zh zf zF zz zl yb
def Sml (x:Int):Prop:=-4611686018427387904≤x∧x≤4611686018427387904
theorem xS (p q:Nat):(p:Int).tmod (q:Int)=((p % q:Nat):Int):=by
 rw [Int.tmod_eq_emod_of_nonneg (by omega)]; rfl
set_option maxRecDepth 100000
theorem y8 (a:Int) (b:Nat) (ha:Sml a) (hb:b≤4611686018427387904) (w:World) :
  Calls Try.prog 22 #[.int .i64 a,.int .i64 b] w fun e w'=>e=.returned (.int .i64 (Nat.gcd a.natAbs b:Nat))∧zH w w':=by
 unfold Sml at ha;go_enter Try.func22,Try.ntmps22
 go_upto_if 6 with fail
 go_cut [0] (fun v wx=>v=.int .i64 (a.natAbs:Nat)∧wx=w)
 case first=>
  by_cases h:a<0
  ·have k1:IntKind.i64.wrap (-a)=-a:=IntWalk.i64_in _ (by omega);go_wp2_with fail;go_meet;exact ⟨by rw [show ((a.natAbs:Nat):Int)=-a by omega],rfl⟩
  ·have h2:0≤a:=by omega
   go_wp2_with fail;go_meet;exact ⟨by rw [show ((a.natAbs:Nat):Int)=a by omega],rfl⟩
 case rest=>
  obtain ⟨rfl,rfl⟩:=hcut;have hA:a.natAbs≤4611686018427387904:=by omega
  obtain ⟨c,hc⟩:∃ c,a.natAbs=c:=⟨_,rfl⟩;have HC:=hid hc;simp only [hc] at hA ⊢;clear hc;go_wp2_with fail
  go_loopw [0,1] (fun x y wr=>∃ p q:Nat,x=.int .i64 p∧y=.int .i64 q∧p≤4611686018427387904∧q≤4611686018427387904∧Nat.gcd p q=Nat.gcd c b∧zH wc wr) (fun _ y _=>(intOf y).toNat)
  case atStart=>exact ⟨c,b,rfl,rfl,hA,hb,rfl,0,rfl⟩
  case round=>
   obtain ⟨p,q,rfl,rfl,p2,q2,hg,hd⟩:=hrel;have HD:=hid hd;clear hd;by_cases h0:q=0
   ·subst h0;go_wp2_with fail;go_ret;refine ⟨?_,HD.out⟩;rw [HC.out,← hg,Nat.gcd_zero_right];rfl
   ·have t1:=xS p q;have t2:p % q<q:=Nat.mod_lt _ (by omega);have h1:¬ (q:Int)=0:=by omega
    have h2:((q:Int) != 0)=true:=by simpa using h1
    have HGn:=hid (show Nat.gcd q (p % q)=Nat.gcd c b by rw [← hg,Nat.gcd_comm p q,Nat.gcd_rec q p,Nat.gcd_comm]);have k1:IntKind.i64.wrap ((p % q:Nat):Int)=((p % q:Nat):Int):=IntWalk.i64_in _ (by omega);clear hg;go_wp2_with fail;refine zE [(0,1),(1,1),(2,1),(3,1),(4,1),(5,1)] (by kernel_rfl) (by kernel_rfl) (fun _ _ d _ _ h=>by cases d<;>exact h) ?_;intro Z hZ;have HZ:=hid (show zH wc Z by rw [hZ]; exact HD.out.more 1);clear hZ HD
    iterate 6
     first
      | refine zj (fun K hK=>?_)
      | refine zk (fun K hK=>?_)
     go_simp;refine hK _ ?_;clear hK K
    refine zQ ?_;go_wp2_with fail
    go_roundw
    case rel=>exact ⟨q,p % q,rfl,by go_num,by omega,by omega,HGn.out,HZ.out⟩
    case measure=>simp [intOf]; omega
def y9 (n d:Int):Int:=if n=0 then 0 else (if d<0 then -n else n).tdiv (Nat.gcd n.natAbs d.natAbs:Nat)
def xc (n d:Int):Int:=if n=0 then 1 else (if d<0 then -d else d).tdiv (Nat.gcd n.natAbs d.natAbs:Nat)
theorem xd {x:Int} (g:Nat) (h:Sml x):IntKind.i64.wrap (x.tdiv (g:Int))=x.tdiv (g:Int):=by
 refine IntWalk.i64_in _ ?_;unfold Sml at h
 have h1:(x.tdiv (g:Int)).natAbs≤x.natAbs:=by
  rw [Int.natAbs_tdiv];exact Nat.div_le_self _ _
 omega
theorem ya (n d:Int) (hn:Sml n) (hd:Sml d) (h0:d≠0) (w:World) :
  Calls Try.prog 21 #[.int .i64 n,.int .i64 d] w fun e w'=>e=.returned (.tuple #[.int .i64 (y9 n d),.int .i64 (xc n d)])∧zH w w':=by
 go_enter Try.func21,Try.ntmps21
 go_upto_if 8 with fail
 go_cut [0,1] (fun u v wx=>u=.int .i64 (if d<0 then -n else n)∧v=.int .i64 (d.natAbs:Nat)∧wx=w)
 case first=>
  unfold Sml at hn hd;by_cases h:d<0
  ·have k1:IntKind.i64.wrap (-d)=-d:=IntWalk.i64_in _ (by omega);have k2:IntKind.i64.wrap (-n)=-n:=IntWalk.i64_in _ (by omega);go_wp2_with fail;go_meet;exact ⟨by rw [if_pos h],by rw [show ((d.natAbs:Nat):Int)=-d by omega],rfl⟩
  ·have h2:0≤d:=by omega
   go_wp2_with fail;go_meet;exact ⟨by rw [if_neg (by omega)],by rw [show ((d.natAbs:Nat):Int)=d by omega],rfl⟩
 case rest=>
  obtain ⟨rfl,rfl,rfl⟩:=hcut;by_cases hz:n=0
  ·subst hz;have e0:(if d<0 then -(0:Int) else 0)=0:=by split<;>rfl
   rw [e0];go_wp2_with fail;exact bodyPost_ret (v:=.tuple #[.int .i64 0,.int .i64 1]) (by simp [results,Try.results21,go_sem]) rfl ⟨rfl,0,rfl⟩
  ·obtain ⟨x,hx⟩:∃ x,(if d<0 then -n else n)=x:=⟨_,rfl⟩;have hx0:x≠0:=by rw [← hx]; split<;>omega
   have hxs:Sml x:=by unfold Sml at hn ⊢; rw [← hx]; split<;>omega
   have hxa:x.natAbs=n.natAbs:=by rw [← hx]; split<;>omega
   have q1:(x==0)=false:=by simpa using hx0
   have GC:=hid (fun W=>y8 x d.natAbs hxs (by unfold Sml at hd; omega) W)
   have HL:=hid (show y9 n d=x.tdiv (Nat.gcd x.natAbs d.natAbs:Nat)∧xc n d=(d.natAbs:Int).tdiv (Nat.gcd x.natAbs d.natAbs:Nat) by
    unfold y9 xc;rw [if_neg hz,if_neg hz,hx,hxa];refine ⟨rfl,?_⟩
    congr 1
    split<;>omega)
   have hgp:0<Nat.gcd x.natAbs d.natAbs:=Nat.gcd_pos_of_pos_right _ (by omega);have k1:=xd (Nat.gcd x.natAbs d.natAbs) hxs;have k2:=xd (x:=(d.natAbs:Int)) (Nat.gcd x.natAbs d.natAbs) (by unfold Sml at hd ⊢; omega);rw [Int.tdiv_eq_ediv_of_nonneg (by omega)] at k2;simp only [hx];clear hx hx0 hxs hxa hn hd h0 hz;generalize Nat.gcd x.natAbs d.natAbs=g at *;have g1:¬ (g:Int)<0:=by omega
   have g2:¬ g=0:=by omega
   go_wp2_with fail;refine (GC.out _).mono ?_;rintro e w2 ⟨rfl,hd⟩;have HD:=hid hd;clear hd;go_wp2_with fail;refine zE [(0,1),(1,1),(2,1),(3,1),(4,1),(5,1),(6,1),(7,1)] (by kernel_rfl) (by kernel_rfl) (fun _ _ d _ _ h=>by cases d<;>exact h) ?_;intro Z hZ;have HZ:=hid (show zH wc Z by rw [hZ]; exact HD.out.more 1);clear hZ HD
   iterate 8
    first
     | refine zj (fun K hK=>?_)
     | refine zk (fun K hK=>?_)
    go_simp;refine hK _ ?_;clear hK K
   refine zQ ?_;go_wp2_with fail;refine bodyPost_ret (v:=.tuple #[.int .i64 (x.tdiv g),.int .i64 ((d.natAbs:Int) / g)]) (by simp [results,Try.results21,go_sem]) rfl ⟨?_,HZ.out⟩;rw [HL.out.1,HL.out.2,Int.tdiv_eq_ediv_of_nonneg (a:=(d.natAbs:Int)) (by omega)]
def pwF:Nat→Nat→Int
 | 0,j=>if j=0 then 1 else 0
 | i+1,j=>(if j=0 then 0 else pwF i (j-1))+((i:Int)+1)*pwF i j
theorem yN:∀ (i j:Nat),i<j→pwF i j=0
 | 0,j,h=>by unfold pwF; rw [if_neg (by omega)]
 | i+1,j,h=>by
  unfold pwF;rw [yN i j (by omega),Int.mul_zero];split
  ·omega
  ·rw [yN i (j-1) (by omega)]; rfl
theorem xF:∀ (i:Fin 7) (j:Fin 9),0≤pwF i.val j.val∧pwF i.val j.val≤10000:=by decide +kernel
theorem xn {i j:Nat} (hi:i<7) (hj:j<9):0≤pwF i j∧pwF i j≤10000:=xF ⟨i,hi⟩ ⟨j,hj⟩
theorem xX (w:World) (x:Int):zm (w.alloc (.cells #[.int .i64 x] 3)) w.heap.size w.heap.size 1 1 (fun _=>x):=
 ⟨[.int .i64 x],⟨rfl,.inr ⟨w.heap.size,1,#[.int .i64 x],rfl,Nat.le_refl _,heap_alloc_new w _,Nat.le_refl _,by decide,rfl,rfl⟩⟩,fun j hj=>match j,hj with | 0,_=>rfl⟩
theorem x6 {a b c:Int} (h1:0≤a) (h2:a≤b) (h3:0≤c) (h4:c≤10000) (hb:b≤10):0≤a*c∧a*c≤100000:=by
 constructor
 ·exact Int.mul_nonneg h1 h3
 ·have:=Int.mul_le_mul (show a≤10 by omega) h4 h3 (by decide);omega
def pwQ (i j m:Nat):Int:=if m<j then pwF (i+1) m else if m=j then (if j=0 then 0 else pwF i (j-1)) else 0
theorem yY:∀ i:Nat,pwF i i=1
 | 0=>rfl
 | i+1=>by
  unfold pwF;rw [if_neg (by omega),show i+1-1=i by omega,yY i,yN i (i+1) (by omega),Int.mul_zero]; rfl
theorem xY (e:Nat):pwF (e+1) (e+1)=pwF e e:=by rw [yY,yY]
theorem xT (e j i:Nat):yQ (yQ (pwQ e j) j (pwF (e+1) j)) (j+1) (pwF e j) i=pwQ e (j+1) i:=by
 by_cases h1:i=j+1
 ·subst h1;rw [zG];unfold pwQ;rw [if_neg (by omega),if_pos rfl,if_neg (by omega)]; rfl
 ·rw [zv _ _ h1];by_cases h2:i=j
  ·subst h2;rw [zG];unfold pwQ;rw [if_pos (by omega)]
  ·rw [zv _ _ h2];unfold pwQ;by_cases h3:i<j
   ·rw [if_pos h3,if_pos (by omega)]
   ·rw [if_neg h3,if_neg h2,if_neg (by omega),if_neg h1]
set_option maxHeartbeats 16000000
theorem ye (k:Nat) (hk:k≤5) (w:World) :
  Calls Try.prog 20 #[.int .i64 k] w fun e w'=>∃ R c,e=.returned (.slice (some ⟨R,0,none⟩) (k+1) c)∧zm w' w.heap.size R (k+1) c (pwF k)∧Below w.heap.size w w':=by
 obtain ⟨iI,hI,g1,g2,g3⟩:=info_parts xM;have HI:=hid (show iI.zero=_∧iI.size=_∧iI.bytes=_ from ⟨g1,g2,g3⟩);have HI0:=hid hI;clear hI g1 g2 g3;go_enter Try.func20,Try.ntmps20
 go_upto_block 0 with fail
 have hO:=xX w 1;have hbA:=(Below.refl w.heap.size w).alloc (Nat.le_refl _) (.cells #[.int .i64 1] 3);generalize w.alloc (.cells #[.int .i64 1] 3)=X at *;generalize hB:w.heap.size=B at *
 have HO:=hid (hO.congr (g:=pwF 0) (fun j hj=>by
  obtain rfl:j=0:=by omega
  rfl))
 have HB0:=hid hbA;clear hO hbA;go_wp2_with fail
 go_loopw [3,4] (fun p i wr=>∃ (e R c:Nat),e≤k∧i=.int .i64 ((e+1:Nat):Int)∧p=.slice (some ⟨R,0,none⟩) (e+1) c∧zm wr B R (e+1) c (pwF e)∧Below B w wr) (fun _ i _=>k+1-(intOf i).toNat)
 case atStart=>exact ⟨0,_,_,by omega,rfl,rfl,HO.out,HB0.out⟩
 case round=>
  clear HO HB0;obtain ⟨e,R,c,he,rfl,rfl,ho,hb⟩:=hrel;have HO:=hid ho;have HB1:=hid hb;have hsz:B≤wr.heap.size:=by have:=hb.size; omega
  clear ho hb;by_cases hek:e<k
  ·have h1:((e+1:Nat):Int)≤(k:Int):=by omega
   have k1:IntKind.i64.wrap (((e+1:Nat):Int)+1)=((e+2:Nat):Int):=IntWalk.i64_in _ (by omega)
   go_wp2_with (first
    | (refine wpList_make_full _ rfl _ _ _ rfl wr.heap.size 3 iI (.int .i64 0) 1 Try.underlying24 HI0.out HI.out.1 HI.out.2.1 .i64 .i64 ((e+2:Nat):Int) ((e+2:Nat):Int) (e+2) rfl rfl rfl rfl (by rw [HI.out.2.2]; omega) (by unfold maxLen; omega) (by omega) ?_)
    | fail)
   intro W1 hr1 hg1;have hb1:Below wr.heap.size wr W1:=(Below.refl _ _).grown hg1 (by omega) (fun k hk=>by cases hk);have hq1:=xE hr1;have hq2:=(hq1.lt).2
   have HQ1:=hid (hq1.congr (g:=pwQ e 0) (fun j hj=>by
    unfold pwQ;rw [if_neg (by omega)];split
    ·rw [if_pos rfl]
    ·rfl))
   have hR:=HO.out.lt;have HO1:=hid (HO.out.below hb1 hR.2);have HB2:=hid (HB1.out.trans (hb1.mono hsz));clear hr1 hg1 hq1;generalize hQ:wr.heap.size=Q at *;go_wp2_with fail
   go_loopw [6] (fun i w2=>∃ j:Nat,j≤e+1∧i=.int .i64 j∧zm w2 Q Q (e+2) (e+2) (pwQ e j)∧zN W1 Q w2) (fun i _=>e+1-(intOf i).toNat)
   case atStart=>exact ⟨0,by omega,rfl,HQ1.out,zN.refl _ _⟩
   case round=>
    clear HQ1;obtain ⟨j,hj,rfl,hq,hkp⟩:=hrel;have HQ1:=hid hq;have HKP:=hid hkp;have HP:=hid (HO1.out.kept (hkp.block R (by omega) (by omega)));clear hq hkp
    rename World=>W2
    by_cases hje:j<e+1
    ·have j1:(j:Int)<(e:Int)+1:=by omega
     have j2:(j:Int)<(e:Int)+2:=by omega
     have j3:(j:Int)+1<(e:Int)+2:=by omega
     have j4:0≤(j:Int)+1:=by omega
     have u1:=HQ1.out.cell (j:=j) (by omega);have u2:=HP.out.cell hje;have f1:=HQ1.out.free j;have hx1:pwQ e j j=if j=0 then 0 else pwF e (j-1):=by unfold pwQ; rw [if_neg (by omega),if_pos rfl]
     have hx2:=xn (i:=e) (j:=j) (by omega) (by omega)
     have hx3:0≤pwQ e j j∧pwQ e j j≤10000:=by
      rw [hx1]; split
      ·decide
      ·exact xn (by omega) (by omega)
     have hm:=x6 (a:=(e:Int)+1) (b:=10) (c:=pwF e j) (by omega) (by omega) hx2.1 hx2.2 (by omega);have k2:IntKind.i64.wrap (((e:Int)+1)*pwF e j)=((e:Int)+1)*pwF e j:=IntWalk.i64_in _ (by omega);have k3:IntKind.i64.wrap (pwQ e j j+((e:Int)+1)*pwF e j)=pwQ e j j+((e:Int)+1)*pwF e j:=IntWalk.i64_in _ (by omega);have HN:=hid (show pwQ e j j+((e:Int)+1)*pwF e j=pwF (e+1) j by rw [hx1]; rfl);have u3:=HQ1.out.cell (j:=j+1) (by omega);have hx4:pwQ e j (j+1)=0:=by unfold pwQ; rw [if_neg (by omega),if_neg (by omega)]
     rw [hx4] at u3;generalize pwQ e j j=x at *;clear hx1 hx3 hm hx4;go_upto_region 9 with fail
     refine zE [(0,1),(1,1),(2,1),(3,1),(4,1),(5,2),(6,1),(7,1),(8,1),(9,1),(10,2),(11,1),(12,1),(13,1),(14,0)] (by kernel_rfl) (by kernel_rfl) (fun _ _ d _ _ h=>by cases d<;>exact h) ?_;intro Z hZ;have hZZ:∀ b o,Z.cell? ⟨b,o,none⟩=W2.cell? ⟨b,o,none⟩:=fun b o=>by rw [hZ]; rfl
     have hzf:∀ b o,Z.frozen? ⟨b,o,none⟩=W2.frozen? ⟨b,o,none⟩:=fun b o=>by rw [hZ]; rfl
     have HQZ:=hid (show zm Z Q Q (e+2) (e+2) (pwQ e j)∧zN W1 Q Z by rw [hZ]; exact ⟨HQ1.out.drew,HKP.out.drew⟩);rw [← hZZ] at u1 u2 u3;rw [← hzf] at f1;clear hZ hZZ hzf HQ1 HKP
     iterate 14
      first
       | refine zj (fun K hK=>?_)
       | refine zk (fun K hK=>?_)
      go_simp;refine hK _ ?_;clear hK K
     refine yx (fun K hK=>?_);go_simp;refine hK _ _ (fun h=>Bool.noConfusion (Eq.trans (Eq.symm (by kernel_rfl:_=false)) h)) ?_;clear hK K;have u4:=(HQZ.out.1.set (j:=j) (by omega) (x+((e:Int)+1)*pwF e j)).cell (j:=j+1) (by omega);rw [zv _ _ (by omega)] at u4;have hx4:pwQ e j (j+1)=0:=by unfold pwQ; rw [if_neg (by omega),if_neg (by omega)]
     rw [hx4] at u4;have u5:=((HQZ.out.2.set (o:=j) (.int .i64 (x+((e:Int)+1)*pwF e j))).cell (b:=R) (by omega) (by omega) j).trans (HO1.out.cell hje);have f5:=(HQZ.out.1.set (j:=j) (by omega) (x+((e:Int)+1)*pwF e j)).free (j+1);have HQY:=hid (show zm (Z.setCell ⟨Q,j,none⟩ (.int .i64 (x+((e:Int)+1)*pwF e j))) Q Q (e+2) (e+2) _∧zN W1 Q (Z.setCell ⟨Q,j,none⟩ (.int .i64 (x+((e:Int)+1)*pwF e j))) from ⟨HQZ.out.1.set (by omega) _,HQZ.out.2.set _ _⟩);refine zQ ?_;generalize Z.setCell ⟨Q,j,none⟩ (.int .i64 (x+((e:Int)+1)*pwF e j))=Y at *;have k4:IntKind.i64.wrap ((j:Int)+1)=((j+1:Nat):Int):=IntWalk.i64_in _ (by omega);have k5:IntKind.i64.wrap (pwF e j)=pwF e j:=IntWalk.i64_in _ (by omega);clear u1 u2 u3 f1 HQZ k2 k3 hx4 HP;go_upto_region 10 with fail
     refine zE [(0,1),(1,1),(2,1),(3,1),(4,1),(5,1),(6,1),(7,2),(8,1),(9,1),(10,1),(11,2),(12,1),(13,1),(14,0)] (by kernel_rfl) (by kernel_rfl) (fun _ _ d _ _ h=>by cases d<;>exact h) ?_;intro Z2 hZ;have hZZ:∀ b o,Z2.cell? ⟨b,o,none⟩=Y.cell? ⟨b,o,none⟩:=fun b o=>by rw [hZ]; rfl
     have hzf:∀ b o,Z2.frozen? ⟨b,o,none⟩=Y.frozen? ⟨b,o,none⟩:=fun b o=>by rw [hZ]; rfl
     have HQZ:=hid (show zm Z2 Q Q (e+2) (e+2) _∧zN W1 Q Z2 by rw [hZ]; exact ⟨HQY.out.1.drew,HQY.out.2.drew⟩);rw [← hZZ] at u4 u5;rw [← hzf] at f5;clear hZ hZZ hzf HQY
     iterate 14
      first
       | refine zj (fun K hK=>?_)
       | refine zk (fun K hK=>?_)
      go_simp;refine hK _ ?_;clear hK K
     refine yx (fun K hK=>?_);go_simp;refine hK _ _ (fun h=>Bool.noConfusion (Eq.trans (Eq.symm (by kernel_rfl:_=false)) h)) ?_;clear hK K
     have HQW:=hid (show zm (Z2.setCell ⟨Q,j+1,none⟩ (.int .i64 (pwF e j))) Q Q (e+2) (e+2) (pwQ e (j+1))∧zN W1 Q (Z2.setCell ⟨Q,j+1,none⟩ (.int .i64 (pwF e j))) from ⟨(HQZ.out.1.set (by omega) _).congr (fun i hi=>by
      rw [show x+((e:Int)+1)*pwF e j=pwF (e+1) j from HN.out];exact xT e j i),HQZ.out.2.set _ _⟩)
     refine zQ ?_;generalize Z2.setCell ⟨Q,j+1,none⟩ (.int .i64 (pwF e j))=Y2 at *;clear u4 u5 f5 HQZ k4 k5;go_wp2_with fail
     go_roundw
     case rel=>exact ⟨j+1,by omega,by go_num,HQW.out⟩
     case measure=>simp [intOf]; omega
    ·obtain rfl:j=e+1:=by omega
     have HQF:=hid (HQ1.out.congr (g:=pwF (e+1)) (fun i hi=>by
      unfold pwQ;by_cases h:i<e+1
      ·rw [if_pos h]
      ·rw [if_neg h,if_pos (by omega),if_neg (by omega),show i=e+1 by omega,xY];rfl))
     have HBF:=hid (HKP.out.below HB2.out (show B≤Q by omega) (by omega));have j1:¬ ((e+1:Nat):Int)<(e:Int)+1:=by omega
     clear HQ1 HP;go_wp2_with fail
     go_roundw
     case rel=>exact ⟨e+1,Q,e+2,by omega,by go_num,rfl,HQF.out.base (by omega),HBF.out⟩
     case measure=>simp [intOf]; omega
  ·obtain rfl:e=k:=by omega
   have h1:¬ ((e+1:Nat):Int)≤(e:Int):=by omega
   go_wp2_with fail;go_ret;exact ⟨R,c,rfl,hB ▸ HO.out,hB ▸ HB1.out⟩
theorem wl (a b:Nat) (ha:a≤4611686018427387904) (hb:b≤4611686018427387904) (w:World) :
  Calls Try.prog 18 #[.int .i64 a,.int .i64 b] w fun e w'=>e=.returned (.int .i64 (Nat.gcd a b:Nat))∧w=w':=by
 go_enter Try.func18,Try.ntmps18;go_wp2_with fail
 go_loopw [0,1] (fun x y wr=>∃ p q:Nat,x=.int .i64 p∧y=.int .i64 q∧p≤4611686018427387904∧q≤4611686018427387904∧Nat.gcd p q=Nat.gcd a b∧wr=w) (fun x _ _=>(intOf x).toNat)
 case atStart=>exact ⟨a,b,rfl,rfl,ha,hb,rfl,rfl⟩
 case round=>
  obtain ⟨p,q,rfl,rfl,p2,q2,hg,rfl⟩:=hrel;by_cases h0:p=0
  ·subst h0;go_wp2_with fail;go_ret;refine ⟨?_,rfl⟩;rw [← hg,Nat.gcd_zero_left];rfl
  ·have t1:=xS q p;have t2:q % p<p:=Nat.mod_lt _ (by omega);have h1:¬ (p:Int)=0:=by omega
   have h2:((p:Int) != 0)=true:=by simpa using h1
   have HGn:=hid (show Nat.gcd (q % p) p=Nat.gcd a b by rw [← hg,← Nat.gcd_rec]);have k1:IntKind.i64.wrap ((q % p:Nat):Int)=((q % p:Nat):Int):=IntWalk.i64_in _ (by omega);clear hg;go_wp2_with fail
   go_roundw
   case rel=>exact ⟨q % p,p,by go_num,rfl,by omega,by omega,HGn.out,trivial⟩
   case measure=>simp [intOf]; omega
def pwD (i k m:Nat):Int:=if k<m then pwF (i+1) m else pwF i m
theorem wH (i k m:Nat) (hk:0<k):yQ (pwD i k) k (pwF i (k-1)+((i:Int)+1)*pwF i k) m=pwD i (k-1) m:=by
 by_cases h:m=k
 ·subst h;rw [zG];unfold pwD;rw [if_pos (by omega)];show _=(if m=0 then 0 else pwF i (m-1))+((i:Int)+1)*pwF i m;rw [if_neg (by omega)]
 ·rw [zv _ _ h];unfold pwD;by_cases h2:k<m
  ·rw [if_pos h2,if_pos (by omega)]
  ·rw [if_neg h2,if_neg (by omega)]
theorem wb (n:Nat) (hn:n≤5) (w:World) :
  Calls Try.prog 19 #[.int .i64 n] w fun e w'=>∃ R,e=.returned (.slice (some ⟨R,0,none⟩) (n+1) (n+1))∧zm w' w.heap.size R (n+1) (n+1) (pwF n)∧Below w.heap.size w w':=by
 obtain ⟨iI,hI,g1,g2,g3⟩:=info_parts xM;have HI:=hid (show iI.zero=_∧iI.size=_∧iI.bytes=_ from ⟨g1,g2,g3⟩);have HI0:=hid hI;clear hI g1 g2 g3;go_enter Try.func19,Try.ntmps19;generalize hB:w.heap.size=B at *;have k1:IntKind.i64.wrap ((n:Int)+1)=((n+1:Nat):Int):=IntWalk.i64_in _ (by omega)
 go_wp2_with (first
  | (refine wpList_make_full _ rfl _ _ _ rfl B 3 iI (.int .i64 0) 1 Try.underlying24 HI0.out HI.out.1 HI.out.2.1 .i64 .i64 ((n+1:Nat):Int) ((n+1:Nat):Int) (n+1) rfl rfl rfl rfl (by rw [HI.out.2.2]; omega) (by unfold maxLen; omega) (by omega) ?_)
  | fail)
 intro W1 hr1 hg1;have hb1:Below B w W1:=(Below.refl _ _).grown hg1 (by omega) (fun k hk=>by cases hk);have hq1:=xE hr1;clear hr1 hg1 k1;have f0:=hq1.free 0;have u0:=hq1.cell (j:=0) (by omega)
 have HQ:=hid ((hq1.set (j:=0) (by omega) 1).congr (g:=pwF 0) (fun j hj=>by
  unfold yQ pwF;rfl))
 have hlt:=hq1.lt.2;have HB1:=hid (hb1.setCell (p:=⟨B,0,none⟩) (Nat.le_refl B) (.int .i64 1));clear hq1 hb1
 go_upto_block 0 with fail
 generalize W1.setCell ⟨B,0,none⟩ (.int .i64 1)=X at *;clear f0 u0 hlt W1;go_wp2_with fail
 go_loopw [12] (fun i wr=>∃ e:Nat,e≤n∧i=.int .i64 e∧zm wr B B (n+1) (n+1) (pwF e)∧Below B w wr) (fun i _=>n-(intOf i).toNat)
 case atStart=>exact ⟨0,by omega,rfl,HQ.out,HB1.out⟩
 case round=>
  clear HQ HB1;obtain ⟨e,he,rfl,ho,hb⟩:=hrel;have HO:=hid ho;have HB1:=hid hb;clear ho hb;by_cases hen:e<n
  ·have h1:(e:Int)<(n:Int):=by omega
   have k1:IntKind.i64.wrap ((e:Int)+1)=((e+1:Nat):Int):=IntWalk.i64_in _ (by omega)
   have HD0:=hid (HO.out.congr (g:=pwD e (e+1)) (fun j hj=>by
    unfold pwD;split
    ·rw [yN _ _ (by omega),yN _ _ (by omega)]
    ·rfl))
   go_wp2_with fail
   go_loopw [5] (fun i w2=>∃ k:Nat,k≤e+1∧i=.int .i64 k∧zm w2 B B (n+1) (n+1) (pwD e k)∧Below B w w2) (fun i _=>(intOf i).toNat)
   case atStart=>exact ⟨e+1,by omega,rfl,HD0.out,HB1.out⟩
   case round=>
    clear HD0;obtain ⟨k,hk,rfl,hd,hb⟩:=hrel;have HD:=hid hd;have HB2:=hid hb;clear hd hb
    rename World=>W2
    by_cases hk0:0<k
    ·have j0:0<(k:Int):=by omega
     have j1:(k:Int)<(n:Int)+1:=by omega
     have j2:(k:Int)-1<(n:Int)+1:=by omega
     have j3:0≤(k:Int)-1:=by omega
     have u1:=HD.out.cell (j:=k) (by omega);have u2:=HD.out.cell (j:=k-1) (by omega);have f1:=HD.out.free k;rw [show pwD e k k=pwF e k by unfold pwD; rw [if_neg (by omega)]] at u1;rw [show pwD e k (k-1)=pwF e (k-1) by unfold pwD; rw [if_neg (by omega)]] at u2;have hx1:=xn (i:=e) (j:=k) (by omega) (by omega);have hx2:=xn (i:=e) (j:=k-1) (by omega) (by omega);have hm:=x6 (a:=(e:Int)+1) (b:=10) (c:=pwF e k) (by omega) (by omega) hx1.1 hx1.2 (by omega);have k2:IntKind.i64.wrap (((e:Int)+1)*pwF e k)=((e:Int)+1)*pwF e k:=IntWalk.i64_in _ (by omega);have k3:IntKind.i64.wrap (pwF e (k-1)+((e:Int)+1)*pwF e k)=pwF e (k-1)+((e:Int)+1)*pwF e k:=IntWalk.i64_in _ (by omega);have k4:IntKind.i64.wrap ((k:Int)-1)=((k-1:Nat):Int):=by rw [show ((k-1:Nat):Int)=(k:Int)-1 by omega]; exact IntWalk.i64_in _ (by omega)
     have j4:k-1<n+1:=by omega
     have j5:((k-1:Nat):Int)<(n:Int)+1:=by omega
     clear hx1 hx2 hm;go_upto_region 9 with fail
     refine zE [(0,1),(1,1),(2,1),(3,1),(4,1),(5,1),(6,2),(7,1),(8,1),(9,1),(10,1),(11,1),(12,2),(13,1),(14,1),(15,1),(16,0)] (by kernel_rfl) (by kernel_rfl) (fun _ _ d _ _ h=>by cases d<;>exact h) ?_;intro Z hZ;have hZZ:∀ b o,Z.cell? ⟨b,o,none⟩=W2.cell? ⟨b,o,none⟩:=fun b o=>by rw [hZ]; rfl
     have hzf:∀ b o,Z.frozen? ⟨b,o,none⟩=W2.frozen? ⟨b,o,none⟩:=fun b o=>by rw [hZ]; rfl
     have HDZ:=hid (show zm Z B B (n+1) (n+1) (pwD e k)∧Below B w Z by rw [hZ]; exact ⟨HD.out.drew,HB2.out.drew⟩);rw [← hZZ] at u1 u2;rw [← hzf] at f1;clear hZ hZZ hzf HD HB2
     iterate 16
      first
       | refine zj (fun K hK=>?_)
       | refine zk (fun K hK=>?_)
      go_simp;refine hK _ ?_;clear hK K
     refine yx (fun K hK=>?_);go_simp;refine hK _ _ (fun h=>Bool.noConfusion (Eq.trans (Eq.symm (by kernel_rfl:_=false)) h)) ?_;clear hK K;have HDW:=hid (show zm (Z.setCell ⟨B,k,none⟩ (.int .i64 (pwF e (k-1)+((e:Int)+1)*pwF e k))) B B (n+1) (n+1) (pwD e (k-1))∧Below B w (Z.setCell ⟨B,k,none⟩ (.int .i64 (pwF e (k-1)+((e:Int)+1)*pwF e k))) from ⟨(HDZ.out.1.set (by omega) _).congr (fun i hi=>wH e k i hk0),HDZ.out.2.setCell (p:=⟨B,k,none⟩) (Nat.le_refl B) _⟩);refine zQ ?_;generalize Z.setCell ⟨B,k,none⟩ (.int .i64 (pwF e (k-1)+((e:Int)+1)*pwF e k))=Y at *;clear u1 u2 f1 HDZ k2 k3;go_wp2_with fail
     go_roundw
     case rel=>exact ⟨k-1,by omega,by go_num,HDW.out⟩
     case measure=>simp [intOf]; omega
    ·obtain rfl:k=0:=by omega
     have u0:=HD.out.cell (j:=0) (by omega);have f0:=HD.out.free 0;rw [show pwD e 0 0=pwF e 0 by unfold pwD; rw [if_neg (by omega)]] at u0;have hx1:=xn (i:=e) (j:=0) (by omega) (by omega);have hm:=x6 (a:=(e:Int)+1) (b:=10) (c:=pwF e 0) (by omega) (by omega) hx1.1 hx1.2 (by omega);have k2:IntKind.i64.wrap (pwF e 0*((e:Int)+1))=pwF e 0*((e:Int)+1):=IntWalk.i64_in _ (by rw [Int.mul_comm]; omega);have j0:(0:Int)<(n:Int)+1:=by omega
     have HDW:=hid (show zm (W2.setCell ⟨B,0,none⟩ (.int .i64 (pwF e 0*((e:Int)+1)))) B B (n+1) (n+1) (pwF (e+1))∧Below B w (W2.setCell ⟨B,0,none⟩ (.int .i64 (pwF e 0*((e:Int)+1)))) from ⟨(HD.out.set (by omega) _).congr (fun i hi=>by
      by_cases h:i=0
      ·subst h;rw [zG];show _=(if (0:Nat)=0 then 0 else pwF e (0-1))+((e:Int)+1)*pwF e 0;rw [if_pos rfl,Int.mul_comm]; omega
      ·rw [zv _ _ h];unfold pwD;rw [if_pos (by omega)]),HB2.out.setCell (p:=⟨B,0,none⟩) (Nat.le_refl B) _⟩)
     clear hx1 hm HD HB2;go_wp2_with fail
     go_roundw
     case rel=>exact ⟨e+1,by omega,by go_num,HDW.out⟩
     case measure=>simp [intOf]; omega
  ·obtain rfl:e=n:=by omega
   go_wp2_with fail;go_ret;exact ⟨B,rfl,HO.out,HB1.out⟩
end Go.Proofs.Ytfcjfijmdikcmaa
