/-
  Contracts (what a function tells) and plain facts that a law's proof hangs on, for every input; no condition but those in their statements. Laid together of the texts Gq, Gp, In0, Gl.
-/
import Derived.Lib.Hide
import Derived.Test.YtgnledamhjbafaaQf
import Derived.Test.YtgnledamhjbafaaQg
import Derived.Deep.RegionHeld3
import GoSem.Dispatch
import Derived.Orders
import Derived.Deep.MidRow
import Derived.ChangeKeysEq
import Derived.Laws.Unary
import Derived.BigFrame
import Derived.RowKit3
import Derived.Below
import Derived.Laws.Cover3
import Derived.Laws.Pointers
import Derived.Laws.StructEq
import Derived.Laws.Slices
import Derived.Laws.MakeOwn
import Derived.Laws.AppendOwn
import Derived.KernelRfl
namespace Go.Proofs.Ytgnledamhjbafaa
open Go.RowKit Lib
attribute [local go_sem] zf ze zh zd zu zt zw zx zy zA zj zk zm zn zo zQ
def wv (w0:World) (B C a b c d:Nat) (w:World):Prop:=
 w.cell? ⟨B,0,none⟩=some (.float .f64 a)∧w.cell? ⟨B,1,none⟩=some (.float .f64 b)∧w.cell? ⟨C,0,none⟩=some (.float .f64 c)∧w.cell? ⟨C,1,none⟩=some (.float .f64 d)∧B<w.heap.size∧C<w.heap.size∧Below w0.heap.size w0 w
theorem wv.below {w0:World} {B C a b c d:Nat} {w w':World} (h:wv w0 B C a b c d w) (hb:Below w.heap.size w w'):wv w0 B C a b c d w':=by
 obtain ⟨h1,h2,h3,h4,h5,h6,h7⟩:=h;obtain ⟨hc,_⟩:=yr hb;have hs:=hb.size;exact ⟨by rw [hc _ _ h5]; exact h1,by rw [hc _ _ h5]; exact h2,by rw [hc _ _ h6]; exact h3,by rw [hc _ _ h6]; exact h4,by omega,by omega,h7.trans (hb.mono h7.size)⟩
theorem wv.alloc {w0:World} {B C a b c d:Nat} {w:World} (h:wv w0 B C a b c d w) (o:Obj):wv w0 B C a b c d (w.alloc o):=
 h.below ((Below.refl _ _).alloc (Nat.le_refl _) _)
theorem wv.drew {w0:World} {B C a b c d:Nat} {w:World} (h:wv w0 B C a b c d w):wv w0 B C a b c d w.drew:=
 h.below ((Below.refl _ _).drew)
theorem wv.set {w0:World} {B C a b c d D o:Nat} {w:World} (h:wv w0 B C a b c d w) (v:Value) (h1:D≠B) (h2:D≠C) (h3:w0.heap.size≤D):wv w0 B C a b c d (w.setCell ⟨D,o,none⟩ v):=by
 obtain ⟨g1,g2,g3,g4,g5,g6,g7⟩:=h;have hs:(w.setCell ⟨D,o,none⟩ v).heap.size=w.heap.size:=by simp [World.setCell]
 have n1:∀ i,(⟨D,o,none⟩:Addr)≠⟨B,i,none⟩:=fun i h=>h1 (by injection h)
 have n2:∀ i,(⟨D,o,none⟩:Addr)≠⟨C,i,none⟩:=fun i h=>h2 (by injection h)
 have k1:∀ i,(w.setCell ⟨D,o,none⟩ v).cell? ⟨B,i,none⟩=w.cell? ⟨B,i,none⟩:=fun i=>by first | (exact World.cell?_setCell_other _ _ _ _ (n1 i)) | (exact World.cell?_setCell_other _ _ _ _ (n1 i).symm) | (simp [World.cell?_setCell_other,n1 i,h1,Ne.symm h1])
 have k2:∀ i,(w.setCell ⟨D,o,none⟩ v).cell? ⟨C,i,none⟩=w.cell? ⟨C,i,none⟩:=fun i=>by first | (exact World.cell?_setCell_other _ _ _ _ (n2 i)) | (exact World.cell?_setCell_other _ _ _ _ (n2 i).symm) | (simp [World.cell?_setCell_other,n2 i,h2,Ne.symm h2])
 exact ⟨by rw [k1]; exact g1,by rw [k1]; exact g2,by rw [k2]; exact g3,by rw [k2]; exact g4,by omega,by omega,g7.setCell h3 v⟩
def At (w0:World) (B a b:Nat) (w:World):Prop:=
 w.cell? ⟨B,0,none⟩=some (.float .f64 a)∧w.cell? ⟨B,1,none⟩=some (.float .f64 b)∧B<w.heap.size∧w0.heap.size≤B∧Below w0.heap.size w0 w
theorem At.below {w0:World} {B a b:Nat} {w w':World} (h:At w0 B a b w) (hb:Below w.heap.size w w'):At w0 B a b w':=by
 obtain ⟨h1,h2,h3,h4,h5⟩:=h;obtain ⟨hc,_⟩:=yr hb;have hs:=hb.size;exact ⟨by rw [hc _ _ h3]; exact h1,by rw [hc _ _ h3]; exact h2,by omega,h4,h5.trans (hb.mono h5.size)⟩
theorem At.new {w0 w:World} (h:Below w0.heap.size w0 w) (a b:Nat) (t:TypeId):At w0 w.heap.size a b (w.alloc (.cells #[.float .f64 a,.float .f64 b] t)):=
 ⟨by rw [World.cell?_alloc_new]; rfl,by rw [World.cell?_alloc_new]; rfl,by simp,h.size,h.alloc h.size _⟩
theorem At.alloc {w0:World} {B a b:Nat} {w:World} (h:At w0 B a b w) (o:Obj):At w0 B a b (w.alloc o):=
 h.below ((Below.refl _ _).alloc (Nat.le_refl _) _)
theorem At.drew {w0:World} {B a b:Nat} {w:World} (h:At w0 B a b w):At w0 B a b w.drew:=h.below ((Below.refl _ _).drew)
def Mid (a b:Nat):Prop:=∃ m n:Int,Is a m (-80)∧Is b n (-80)∧m≤n∧m.natAbs<2 ^ 134∧n.natAbs<2 ^ 134
theorem Is.le_of {a b:Nat} {m n k:Int} (ha:Is a m k) (hb:Is b n k):m≤n↔key a≤key b:=by
 rw [← V_le,ha.2.2.2,hb.2.2.2];have hp:(0:Int)<(2 ^ (k+1074).toNat:Nat):=Int.natCast_pos.2 (Nat.two_pow_pos _);exact ⟨fun h=>Int.mul_le_mul_of_nonneg_right h (Int.le_of_lt hp),fun h=>Int.le_of_mul_le_mul_right h hp⟩
end Go.Proofs.Ytgnledamhjbafaa
namespace Go.Proofs.Ytgnledamhjbafaa
open Lib
open Ieee (double)
theorem Mid.fin {a b:Nat} (h:Mid a b):a % p63<zc∧b % p63<zc∧a<18446744073709551616∧b<18446744073709551616:=by
 obtain ⟨m,n,h1,h2,-⟩:=h;exact ⟨h1.fin,h2.fin,h1.lt,h2.lt⟩
theorem uT {x y:Nat} (hx:x % p63<zc) (hy:y % p63<zc):cop .add x y=cop .add y x:=by
 rw [zE (op:=.add) (xH hx hy),zE (op:=.add) (xH hy hx),Int.add_comm,Bool.and_comm]
theorem wE {x y:Nat} (hx:x % p63<zc) (hy:y % p63<zc):cop .mul x y=cop .mul y x:=by
 rw [zE (op:=.mul) (yQ hx hy),zE (op:=.mul) (yQ hy hx),Nat.mul_comm,Bool.xor_comm]
theorem xN {x y:Nat} (hx:x % p63<zc) (hy:y % p63<zc):isN (cop .sub x y)=false∧key (cop .sub x y)=RK (V x-V y) (-1074)∧cop .sub x y<18446744073709551616:=by
 have e:=uM hx hy;have k:=sD hx hy e;have c:cop .sub x y=_:=zE (op:=.sub) e;rw [zi k.2.1] at c;rw [c]; exact ⟨k.2.1,k.1,k.2.2⟩
theorem wF {x y:Nat} (hx:x % p63<zc) (hy:y % p63<zc):isN (cop .mul x y)=false∧key (cop .mul x y)=RK (V x*V y) (-2148)∧cop .mul x y<18446744073709551616:=by
 have e:=yQ hx hy;have k:=wz hx hy e;have c:cop .mul x y=_:=zE (op:=.mul) e;rw [zi k.2.1] at c;rw [c]; exact ⟨k.2.1,k.1,k.2.2⟩
theorem Mid.ends {a b:Nat} (h:Mid a b):isN a=false∧isN b=false∧key a≤key b∧leB a b=true:=by
 obtain ⟨m,n,h1,h2,h3,-,-⟩:=h;refine ⟨h1.num,h2.num,(h1.le_of h2).1 h3,?_⟩;rw [is_le h1 h2]; simpa using h3
theorem uG {x y:Nat} (h1:isN x=false) (h2:isN y=false):leB x y=decide (key x≤key y):=by unfold leB; rw [h1,h2]; rfl
theorem tX {x y:Nat} (h1:isN x=false) (h2:isN y=false):eqB x y=decide (key x=key y):=by unfold eqB; rw [h1,h2]; rfl
theorem uh (p q:Nat):∃ x y,yI p q=iv x y∧isN x=false∧isN y=false:=by
 unfold yI xK;cases h:leB (zD p) (upB q)
 ·exact ⟨_,_,rfl,by decide,by decide⟩
 ·simp [leB] at h;exact ⟨_,_,rfl,h.1.1,h.1.2⟩
theorem ui (a b c d:Nat):∃ x y,zJ a b c d=iv x y∧isN x=false∧isN y=false:=by
 unfold zJ;split
 ·exact ⟨_,_,rfl,by decide,by decide⟩
 ·exact uh _ _
theorem uH {x y:Nat} (hx:x<18446744073709551616) (hy:y<18446744073709551616) (h1:isN x=false) (h2:isN y=false) (h:key x=key y):zD x=zD y:=by
 rcases xY hx hy h with rfl | ⟨g1,g2⟩
 ·rfl
 ·have n1:x≠p63+zc:=by rintro rfl; revert g1; decide
  have n2:y≠p63+zc:=by rintro rfl; revert g2; decide
  unfold zD; rw [h1,h2,if_neg n1,if_neg n2,if_pos g1,if_pos g2]
theorem tY {x y:Nat} (hx:x<18446744073709551616) (hy:y<18446744073709551616) (h1:isN x=false) (h2:isN y=false) (h:key x=key y):upB x=upB y:=by
 rcases xY hx hy h with rfl | ⟨g1,g2⟩
 ·rfl
 ·have n1:x≠zc:=by rintro rfl; revert g1; decide
  have n2:y≠zc:=by rintro rfl; revert g2; decide
  unfold upB; rw [h1,h2,if_neg n1,if_neg n2,if_pos g1,if_pos g2]
theorem wG {x y:Nat} (h1:isN x=false) (h2:isN y=false):isN (if ltB x y then x else y)=false∧key (if ltB x y then x else y)=min (key x) (key y)∧((if ltB x y then x else y)=x∨(if ltB x y then x else y)=y):=by
 cases h:ltB x y<;>simp [ltB,h1,h2] at h<;>simp [h1,h2]<;>omega
theorem sO {a b c d:Nat} (h1:isN a=false) (h2:isN b=false) (h3:isN c=false) (h4:isN d=false) :
  isN (xr a [a,b,c,d])=false∧key (xr a [a,b,c,d])=min (min (key a) (key b)) (min (key c) (key d))∧xr a [a,b,c,d] ∈ [a,b,c,d]:=by
 simp only [xr];obtain ⟨p1,p2,p3⟩:=wG h1 h1;generalize (if ltB a a then a else a)=A at *;obtain ⟨q1,q2,q3⟩:=wG h2 p1;generalize (if ltB b A then b else A)=B at *;obtain ⟨r1,r2,r3⟩:=wG h3 q1;generalize (if ltB c B then c else B)=C at *;obtain ⟨s1,s2,s3⟩:=wG h4 r1;generalize (if ltB d C then d else C)=D at *;refine ⟨s1,by omega,?_⟩;rcases s3 with rfl | rfl<;>rcases r3 with rfl | rfl<;>rcases q3 with rfl | rfl<;>rcases p3 with rfl | rfl<;>simp
theorem wH {x y:Nat} (h1:isN x=false) (h2:isN y=false):isN (if ltB y x then x else y)=false∧key (if ltB y x then x else y)=max (key x) (key y)∧((if ltB y x then x else y)=x∨(if ltB y x then x else y)=y):=by
 cases h:ltB y x<;>simp [ltB,h1,h2] at h<;>simp [h1,h2]<;>omega
theorem sP {a b c d:Nat} (h1:isN a=false) (h2:isN b=false) (h3:isN c=false) (h4:isN d=false) :
  isN (xt a [a,b,c,d])=false∧key (xt a [a,b,c,d])=max (max (key a) (key b)) (max (key c) (key d))∧xt a [a,b,c,d] ∈ [a,b,c,d]:=by
 simp only [xt];obtain ⟨p1,p2,p3⟩:=wH h1 h1;generalize (if ltB a a then a else a)=A at *;obtain ⟨q1,q2,q3⟩:=wH h2 p1;generalize (if ltB A b then b else A)=B at *;obtain ⟨r1,r2,r3⟩:=wH h3 q1;generalize (if ltB B c then c else B)=C at *;obtain ⟨s1,s2,s3⟩:=wH h4 r1;generalize (if ltB C d then d else C)=D at *;refine ⟨s1,by omega,?_⟩;rcases s3 with rfl | rfl<;>rcases r3 with rfl | rfl<;>rcases q3 with rfl | rfl<;>rcases p3 with rfl | rfl<;>simp
theorem wI {x a b c d:Nat} (h:x ∈ [a,b,c,d]) (h1:a<18446744073709551616) (h2:b<18446744073709551616) (h3:c<18446744073709551616) (h4:d<18446744073709551616):x<18446744073709551616:=by
 simp at h; rcases h with rfl | rfl | rfl | rfl<;>assumption
theorem uj {a b c d:Nat} (h1:isN a=false) (h2:isN b=false) (h3:isN c=false) (h4:isN d=false) (l1:a<18446744073709551616) (l2:b<18446744073709551616) (l3:c<18446744073709551616) (l4:d<18446744073709551616) :
  zJ a b c d=zJ a c b d:=by
 obtain ⟨m1,m2,m3⟩:=sO h1 h2 h3 h4;obtain ⟨n1,n2,n3⟩:=sO h1 h3 h2 h4;obtain ⟨x1,x2,x3⟩:=sP h1 h2 h3 h4;obtain ⟨y1,y2,y3⟩:=sP h1 h3 h2 h4;unfold zJ yI;simp only [h1,h2,h3,h4,Bool.or_self,Bool.false_eq_true,if_false];rw [uH (wI m3 l1 l2 l3 l4) (wI n3 l1 l3 l2 l4) m1 n1 (by omega),tY (wI x3 l1 l2 l3 l4) (wI y3 l1 l3 l2 l4) x1 y1 (by omega)]
theorem tZ {a b c d:Nat} (h:Mid a b) (g:Mid c d):tr a b c d=tr c d a b:=by
 obtain ⟨a1,b1,-,-⟩:=h.fin;obtain ⟨c1,d1,-,-⟩:=g.fin;unfold tr;rw [wE c1 a1,wE c1 b1,wE d1 a1,wE d1 b1];have p1:=wF a1 c1;have p2:=wF a1 d1;have p3:=wF b1 c1;have p4:=wF b1 d1;exact uj p1.1 p2.1 p3.1 p4.1 p1.2.2 p2.2.2 p3.2.2 p4.2.2
theorem xO {r:Nat} (hN:isN r=false):isN (cop .sub 0 r)=false∧key (cop .sub 0 r)=- key r:=by
 have hr:=zr hN;by_cases hf:r % p63<zc
 ·have k:=xN (x:=0) (y:=r) (by decide) hf;refine ⟨k.1,?_⟩;rw [k.2.1,show V 0=0 by decide,Int.zero_sub,vI,RK_V (Nat.le_of_lt hf)]
 ·have hi:r % p63=zc:=by omega
  have e:Ieee.double.sub 0 r=some (double.word (!neg r) zc):=by
   unfold Ieee.Format.sub; rw [zp hi]; rfl
  have c:cop .sub 0 r=_:=zE (op:=.sub) e;rw [c,zq r,hi];generalize neg r=s;cases s<;>decide
theorem tw {a b c d:Nat} (h:Mid a b) (g:Mid c d):∃ s1 s2 t1 t2,yI (cop .sub a d) (cop .sub b c)=iv s1 s2∧yI (cop .sub c b) (cop .sub d a)=iv t1 t2 ∧
  isN s1=false∧isN s2=false∧isN t1=false∧isN t2=false∧eqB s1 (cop .sub 0 t2)=true∧eqB s2 (cop .sub 0 t1)=true:=by
 obtain ⟨a1,b1,-,-⟩:=h.fin;obtain ⟨c1,d1,-,-⟩:=g.fin;have e1:=V_le.2 h.ends.2.2.1;have e2:=V_le.2 g.ends.2.2.1;obtain ⟨p1,p2,p3⟩:=xN a1 d1;obtain ⟨q1,q2,q3⟩:=xN b1 c1;obtain ⟨r1,r2,r3⟩:=xN c1 b1;obtain ⟨u1,u2,u3⟩:=xN d1 a1;have k1:=yP (-1074) (show V a-V d≤V b-V c by omega);have k2:=vI (V a-V d) (-1074);have k3:=vI (V b-V c) (-1074);rw [show -(V a-V d)=V d-V a by omega] at k2;rw [show -(V b-V c)=V c-V b by omega] at k3;have b1:=xG (V a-V d) (-1074);have b2:=xG (V b-V c) (-1074);obtain ⟨D1,D2,D3⟩:=xe p3 p1;obtain ⟨U1,U2,U3⟩:=wQ q3 q1;obtain ⟨E1,E2,E3⟩:=xe r3 r1;obtain ⟨F1,F2,F3⟩:=wQ u3 u1;have hi:zc=9218868437227405312:=rfl;rw [p2] at D1; rw [q2] at U1; rw [r2,k3] at E1; rw [u2,k2] at F1;generalize RK (V a-V d) (-1074)=K at *;generalize RK (V b-V c) (-1074)=L at *
 have l1:leB (zD (cop .sub a d)) (upB (cop .sub b c))=true:=by
  rw [uG D2 U2]; simp only [decide_eq_true_eq]; split at D1<;>split at U1<;>omega
 have l2:leB (zD (cop .sub c b)) (upB (cop .sub d a))=true:=by
  rw [uG E2 F2]; simp only [decide_eq_true_eq]; split at E1<;>split at F1<;>omega
 unfold yI xK;rw [if_pos l1,if_pos l2];obtain ⟨z1,z2⟩:=xO F2;obtain ⟨z3,z4⟩:=xO E2;refine ⟨_,_,_,_,rfl,rfl,D2,U2,E2,F2,?_,?_⟩
 ·rw [tX D2 z1,z2]; simp only [decide_eq_true_eq]; split at D1<;>split at F1<;>omega
 ·rw [tX U2 z3,z4]; simp only [decide_eq_true_eq]; split at U1<;>split at E1<;>omega
end Go.Proofs.Ytgnledamhjbafaa
namespace Go.Proofs.Ytgnledamhjbafaa
open Lib
theorem yl (op:BinOp) (x y:Nat):cop op (zg x) (zg y)=cop op x y:=by rw [wR,wu]
def xk (a b:Nat):Nat × Nat:=bif leB (zD a) (upB b) then (zD a,upB b) else (18442240474082181120,9218868437227405312)
def yq (a b c d:Nat):Nat × Nat:=bif isN a || isN b || isN c || isN d then (18442240474082181120,9218868437227405312) else xk (xr a [a,b,c,d]) (xt a [a,b,c,d])
def xP (a b c d:Nat):Nat × Nat:=xk (cop .add a c) (cop .add b d)
def yT (a b c d:Nat):Nat × Nat:=xk (cop .sub a d) (cop .sub b c)
def yX (a b c d:Nat):Nat × Nat:=yq (cop .mul a c) (cop .mul a d) (cop .mul b c) (cop .mul b d)
def vQ (a b c d:Nat):Nat × Nat:=bif leB c 0&&leB 0 d then (18442240474082181120,9218868437227405312) else yq (cop .quo a c) (cop .quo a d) (cop .quo b c) (cop .quo b d)
theorem wJ (a b:Nat):yI a b=iv (xk a b).1 (xk a b).2:=by
 unfold yI xK xk;cases leB (zD a) (upB b)<;>rfl
theorem yC (a b c d:Nat):zJ a b c d=iv (yq a b c d).1 (yq a b c d).2:=by
 unfold zJ yq;cases isN a || isN b || isN c || isN d
 ·rw [if_neg (by simp)]; exact wJ _ _
 ·rw [if_pos rfl]; rfl
theorem divP_eq (a b c d:Nat):divI a b c d=iv (vQ a b c d).1 (vQ a b c d).2:=by
 unfold divI vQ;cases leB c 0&&leB 0 d
 ·rw [if_neg (by simp)]; exact yC _ _ _ _
 ·rw [if_pos rfl]; rfl
theorem vR {a b:Nat} (ha:a<18446744073709551616) (hb:b<18446744073709551616):(xk a b).1<18446744073709551616∧(xk a b).2<18446744073709551616:=by
 unfold xk;cases leB (zD a) (upB b)
 ·exact ⟨(by decide:(18442240474082181120:Nat)<18446744073709551616),(by decide:(9218868437227405312:Nat)<18446744073709551616)⟩
 ·exact ⟨ue ha,tQ hb⟩
theorem wW {a b c d:Nat} (ha:a<18446744073709551616) (hb:b<18446744073709551616) (hc:c<18446744073709551616) (hd:d<18446744073709551616):(yq a b c d).1<18446744073709551616∧(yq a b c d).2<18446744073709551616:=by
 unfold yq
 have hm:∀ x ∈ [a,b,c,d],x<18446744073709551616:=fun x hx=>by
  simp only [List.mem_cons,List.not_mem_nil,or_false] at hx;rcases hx with rfl | rfl | rfl | rfl<;>assumption
 cases isN a || isN b || isN c || isN d
 ·exact vR (vN ha hm) (vO ha hm)
 ·exact ⟨(by decide:(18442240474082181120:Nat)<18446744073709551616),(by decide:(9218868437227405312:Nat)<18446744073709551616)⟩
theorem addP_lt (a b c d:Nat):(xP a b c d).1<18446744073709551616∧(xP a b c d).2<18446744073709551616:=vR (zL _ _ _) (zL _ _ _)
theorem subP_lt (a b c d:Nat):(yT a b c d).1<18446744073709551616∧(yT a b c d).2<18446744073709551616:=vR (zL _ _ _) (zL _ _ _)
theorem mulP_lt (a b c d:Nat):(yX a b c d).1<18446744073709551616∧(yX a b c d).2<18446744073709551616:=wW (zL _ _ _) (zL _ _ _) (zL _ _ _) (zL _ _ _)
theorem divP_lt (a b c d:Nat):(vQ a b c d).1<18446744073709551616∧(vQ a b c d).2<18446744073709551616:=by
 unfold vQ;cases leB c 0&&leB 0 d
 ·exact wW (zL _ _ _) (zL _ _ _) (zL _ _ _) (zL _ _ _)
 ·exact ⟨(by decide:(18442240474082181120:Nat)<18446744073709551616),(by decide:(9218868437227405312:Nat)<18446744073709551616)⟩
def tx (w:World) (v:Value) (zs:List Int):Prop:=
 (∃ o cap,v=.slice o 0 cap∧zs=[])∨∃ b off cap,v=.slice (some ⟨b,off,none⟩) zs.length cap∧b<w.heap.size∧zs.length≤9223372036854775807∧(∀ i,i<zs.length→w.cell? ⟨b,off+i,none⟩=some (.int .i64 (zs.getD i 0)))
def Flts (w:World) (v:Value) (xs:List Nat):Prop:=
 (∃ o cap,v=.slice o 0 cap∧xs=[])∨∃ b off cap,v=.slice (some ⟨b,off,none⟩) xs.length cap∧b<w.heap.size∧xs.length≤9223372036854775807∧(∀ i,i<xs.length→xs.getD i 0<18446744073709551616∧w.cell? ⟨b,off+i,none⟩=some (.float .f64 (xs.getD i 0)))
end Go.Proofs.Ytgnledamhjbafaa
namespace Go.Proofs.Ytgnledamhjbafaa
open Go.RowKit Lib
section
namespace Ex
open Go
variable {P : Program}
inductive AD where
 | i (n:Int) | f (x:Nat) | b (t:Bool) | is (zs:List Int) | fs (xs:List Nat)
end Ex
end
end Go.Proofs.Ytgnledamhjbafaa
