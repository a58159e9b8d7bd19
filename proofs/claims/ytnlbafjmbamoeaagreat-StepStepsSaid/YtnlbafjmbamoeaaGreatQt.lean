/-
  Contracts and plain facts that a law's proof hangs on, besides the base's: for every input; no condition but those in their statements.
-/
import Derived.Test.YtnlbafjmbamoeaaGreatQs
namespace Go.Proofs.YtnlbafjmbamoeaaGreat
open Go.RowKit Go.ChangeShapes Go.WideShapes Go.Joins Lib
theorem kQ {α:Type} {cs:Array α} (h:cs.size=9):∃ c0 c1 c2 c3 c4 c5 c6 c7 c8,cs=#[c0,c1,c2,c3,c4,c5,c6,c7,c8]:=by
 obtain ⟨l⟩:=cs
 match l,h with
 | [c0,c1,c2,c3,c4,c5,c6,c7,c8],_=>exact ⟨c0,c1,c2,c3,c4,c5,c6,c7,c8,rfl⟩
theorem kI {n:Int} (h:(Lit.int .i64 n).wf=true):sy n:=by
 have q1:IntKind.i64.min=-9223372036854775808:=by decide
 have q2:IntKind.i64.max=9223372036854775807:=by decide
 simp only [Lit.wf,Bool.and_eq_true,decide_eq_true_eq] at h;unfold sy;omega
theorem kK {H:Type} {enc:TypeId × Value→H} {W:World} {fuel:Nat} {cs:List Value} {y:DataW H × List MemPlace} (h:DataW.trod enc Tryz.prog W 0 (fun _=>true) true fuel 22 cs=some y):∃ v zs,cs=[v]∧qI W v zs:=by
 have hc:Tryz.prog.cellsOf 3=1:=by kernel_rfl
 rcases open_ints Tryz.underlying22 Tryz.underlying3 hc h with ⟨hcs,_⟩ | ⟨a,len,cap,zs,hcs,_,hl,hm,hz,_,hcell,hwf⟩
 ·exact ⟨_,[],hcs,.inl ⟨none,0,rfl,rfl⟩,fun i hi=>by simp at hi⟩
 ·simp only [if_true] at hz;by_cases h0:len=0
  ·subst h0; exact ⟨_,[],hcs,.inl ⟨_,_,rfl,rfl⟩,fun i hi=>by simp at hi⟩
  ·obtain ⟨b,off,spot⟩:=a;have hspot:spot=none:=by simpa [Addr.add] using World.cell?_spot (hcell 0 (by omega))
   subst hspot;have hlen:(zs.take len).length=len:=by simp; omega
   refine ⟨_,zs.take len,hcs,.inr ⟨b,off,cap,by rw [hlen],?_,?_,?_⟩,fun i hi=>?_⟩
   ·have h0:=hcell 0 (by omega);rcases Nat.lt_or_ge b W.heap.size with g | g
    ·exact g
    ·exfalso;have:W.heap[b]? = none:=Array.getElem?_eq_none g;simp [World.cell?,Addr.add,this] at h0
   ·rw [hlen]; unfold maxLen at hm; omega
   ·intro i hi;rw [hlen] at hi;rw [← add_plain,hcell i (by omega)];simp [List.getD,hi]
   ·rw [hlen] at hi;have hiz:i<zs.length:=by rw [hz]; omega
    have e:(zs.take len).getD i 0=zs.getD i 0:=by simp [List.getD,hi]
    rw [e];exact kI (hwf (zs.getD i 0) (by simp [List.getD,hiz]))
set_option maxRecDepth 100000
theorem shape_of {H:Type} {enc:TypeId × Value→H} {W:World} {v:Value} {d:DataW H} {ps:List MemPlace} {base:Nat}
  (hv:Value.okWide Tryz.prog W .any base 24 v) (h:DataW.Trod enc Tryz.prog W 0 (fun _=>true) true 24 v d ps):∃ s:ShD,ShAt W v s:=by
 have hC:Tryz.prog.cellsOf 24=9:=by kernel_rfl
 have h1:Tryz.prog.cellsOf 3=1:=by kernel_rfl
 have h2:Tryz.prog.cellsOf 22=1:=by kernel_rfl
 have h3:Tryz.prog.cellsOf 4=1:=by kernel_rfl
 obtain ⟨cs,rfl,hsz⟩:=okWide_struct Tryz.underlying24 hv;obtain ⟨c0,c1,c2,c3,c4,c5,c6,c7,c8,rfl⟩:=kQ (hsz.trans hC);obtain ⟨fuel,hf⟩:=h;obtain ⟨xs,n,_,-,-,hlen,hg⟩:=DataW.trod_struct Tryz.underlying24 hf;have g0:=hg 0 _ rfl;have g1:=hg 1 _ rfl;have g2:=hg 2 _ rfl;have g3:=hg 3 _ rfl;have g4:=hg 4 _ rfl;have g5:=hg 5 _ rfl;have g6:=hg 6 _ rfl;have g7:=hg 7 _ rfl;have g8:=hg 8 _ rfl;clear hg
 match xs,hlen with
 | [y0,y1,y2,y3,y4,y5,y6,y7,y8],_=>
  simp [h1,h2,h3,Value.cells] at g0 g1 g2 g3 g4 g5 g6 g7 g8;obtain ⟨k0,e0,-,w0⟩:=DataW.trod_int Tryz.underlying3 g0;obtain ⟨k1,e1,-,w1⟩:=DataW.trod_int Tryz.underlying3 g1;obtain ⟨k2,e2,-,w2⟩:=DataW.trod_int Tryz.underlying3 g2;obtain ⟨k3,e3,-,w3⟩:=DataW.trod_int Tryz.underlying3 g3;obtain ⟨k4,e4,-,w4⟩:=DataW.trod_int Tryz.underlying3 g4;obtain ⟨u5,z5,e5,h5⟩:=kK g5;obtain ⟨u6,z6,e6,h6⟩:=kK g6;obtain ⟨u7,z7,e7,h7⟩:=kK g7;obtain ⟨k8,e8,-⟩:=DataW.trod_bool Tryz.underlying4 g8;simp only [List.cons.injEq,and_true] at e0 e1 e2 e3 e4 e5 e6 e7 e8;subst e0 e1 e2 e3 e4 e5 e6 e7 e8;exact ⟨⟨k0,k1,k2,k3,k4,z5,z6,z7,k8⟩,⟨kI w0,kI w1,kI w2,kI w3,kI w4⟩,_,_,_,rfl,h5,h6,h7⟩
end Go.Proofs.YtnlbafjmbamoeaaGreat
namespace Go.Proofs.YtnlbafjmbamoeaaGreat
open Go.RowKit Lib
open Ieee (double)
theorem kP:∀ i:Fin 33,xi (cst ((i.val:Int)-16) 4616189618054758400)=true∧xi (cst ((i.val:Int)-16) 4620693217682128896)=true:=by decide +kernel
theorem kL {x:Int} (h1:-16≤x) (h2:x≤16):xi (cst x 4616189618054758400)=true∧xi (cst x 4620693217682128896)=true:=by
 have h:=kP ⟨(x+16).toNat,by omega⟩;have e:(((x+16).toNat:Nat):Int)-16=x:=by omega
 simp only [e] at h;exact h
theorem kJ {a n:Int} (h1:0≤a) (h2:a<n):xE a n=true:=by
 unfold xE;rw [decide_eq_true h1,decide_eq_true h2];rfl
theorem kM (k:Int) {i:Nat} (hi:0<i) (div:Bool) (n:Int):xg (mD k i div) i n=true:=by
 unfold mD;have z:eqB 0 0=true:=by decide
 by_cases h:k % 11=0
 ·rw [if_pos h];have g1:=Int.emod_nonneg (k.tdiv 11) (show (33:Int)≠0 by decide);have g2:=Int.emod_lt_of_pos (k.tdiv 11) (show (0:Int)<33 by decide);have:=(kL (x:=k.tdiv 11 % 33-16) (by omega) (by omega)).2;unfold xg;simp [this]
 ·rw [if_neg h];have hi':(0:Int)<i:=by omega
  have b1:=kJ (Int.emod_nonneg (k.tdiv 4) (show (i:Int)≠0 by omega)) (Int.emod_lt_of_pos (k.tdiv 4) hi');have b2:=kJ (Int.emod_nonneg (k.tdiv 40) (show (i:Int)≠0 by omega)) (Int.emod_lt_of_pos (k.tdiv 40) hi');have g1:=Int.emod_nonneg k (show (3:Int)≠0 by decide);have g2:=Int.emod_lt_of_pos k (show (0:Int)<3 by decide);unfold xg;simp only [];have hk:2≤(if div=true∧k % 7=0 then (5:Int) else 2+k % 3)∧(if div=true∧k % 7=0 then (5:Int) else 2+k % 3)≤5:=by split<;>omega
  rw [if_neg (by omega),if_neg (by omega),if_pos hk,b1,b2,z];rfl
theorem kO (n:Int) (ns:Nat→Int) (div:Bool) (i:Nat):xg (mE n ns div i) i (1+n % 3)=true:=by
 have n1:=Int.emod_nonneg n (show (3:Int)≠0 by decide);have z:eqB 0 0=true:=by decide
 unfold mE;by_cases h1:(i:Int)<1+n % 3
 ·rw [if_pos h1];unfold xg;simp [z,kJ (show (0:Int)≤i by omega) h1]
 ·rw [if_neg h1];by_cases h2:(i:Int)=1+n % 3
  ·rw [if_pos h2];have g1:=Int.emod_nonneg n (show (17:Int)≠0 by decide);have g2:=Int.emod_lt_of_pos n (show (0:Int)<17 by decide);have:=(kL (x:=n % 17-8) (by omega) (by omega)).1;unfold xg;simp [this]
  ·rw [if_neg h2];exact kM _ (by omega) div _
theorem kR (n:Int) (ns:Nat→Int) (len:Nat) (div:Bool):yq (tZ n ns len div)=true:=by
 have n1:=Int.emod_nonneg n (show (3:Int)≠0 by decide);have n2:=Int.emod_lt_of_pos n (show (0:Int)<3 by decide);have h1:wa (tZ n ns len div).len (fun i=>xg ((tZ n ns len div).op i) i (tZ n ns len div).n)=true:=xw.2 fun i _=>kO n ns div i
 have h2:wa (tZ n ns len div).lo (fun i=>xE ((tZ n ns len div).out i) (tZ n ns len div).len)=true:=xw.2 fun i _=>by
  unfold tZ;simp only [];generalize hL:(1+n % 3).toNat+1+min len 8=L;have hp:(0:Int)<((min 3 L:Nat):Int):=by omega
  have m1:=Int.emod_nonneg (n.tdiv 3+(i:Int)) (show ((min 3 L:Nat):Int)≠0 by omega);have m2:=Int.emod_lt_of_pos (n.tdiv 3+(i:Int)) hp;exact kJ (by omega) (by omega)
 unfold yq;rw [h1,h2,Bool.and_true,Bool.and_true,decide_eq_true_eq];unfold tZ;simp only [];omega
theorem opAt_c (n:Int) (ns:Nat→Int) (div:Bool) (i:Nat):(mE n ns div i).c<18446744073709551616:=by
 unfold mE;split
 ·show (0:Nat)<_; decide
 ·split
  ·exact sE _ _ _
  ·unfold mD;split
   ·exact sE _ _ _
   ·show (0:Nat)<_; decide
end Go.Proofs.YtnlbafjmbamoeaaGreat
