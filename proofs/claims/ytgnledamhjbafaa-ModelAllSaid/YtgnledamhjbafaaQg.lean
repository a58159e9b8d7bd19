/-
  Contracts (what a function tells) and plain facts that a law's proof hangs on, for every input; no condition but those in their statements. Laid together of the texts Gm.
-/
import Derived.Lib.Hide
import Derived.Test.YtgnledamhjbafaaQd
namespace Go.Proofs.Ytgnledamhjbafaa
open Lib
open Ieee (double)
theorem tV (r s:Nat):(∃ k,U r=2 ^ (s+1)*k)∨U r<2 ^ (53+s):=by
 unfold U;by_cases h:r<p52
 ·rw [if_pos h]
  right
  have a:2 ^ 53≤2 ^ (53+s):=Nat.pow_le_pow_right (by decide) (by omega);have b:p52<2 ^ 53:=by decide
  omega
 ·rw [if_neg h];by_cases g:s+1≤r / p52-1
  ·left
   refine ⟨(p52+r % p52)*2 ^ (r / p52-1-(s+1)),?_⟩;rw [Nat.mul_comm (2 ^ (s+1)),Nat.mul_assoc,← Nat.pow_add]
   congr 2
   omega
  ·right
   have a:2 ^ (r / p52-1)≤2 ^ s:=Nat.pow_le_pow_right (by decide) (by omega)
   have b:p52+r % p52<2 ^ 53:=by
    have:=Nat.mod_lt r (show 0<p52 by decide);have:p52+p52=2 ^ 53:=by decide
    omega
   rw [Nat.pow_add];exact Nat.mul_lt_mul_of_lt_of_le b a (Nat.two_pow_pos _)
theorem ug {D n R s:Nat} (hn:0<n) (hD:n*2 ^ 53≤D) (hR:(∃ k,R=2 ^ (s+1)*k)∨R<2 ^ (53+s)) :
  (R*n≤2*D*2 ^ s→R≤(2*(D / n)+(D % n != 0).toNat)*2 ^ s)∧(2*D*2 ^ s≤R*n→(2*(D / n)+(D % n != 0).toNat)*2 ^ s≤R):=by
 have hp:0<2 ^ s:=Nat.two_pow_pos _;have hdm:=Nat.div_add_mod D n;have hml:=Nat.mod_lt D hn;have hq:2 ^ 53≤D / n:=(Nat.le_div_iff_mul_le hn).2 (by rw [Nat.mul_comm]; exact hD);rcases hR with ⟨k,rfl⟩ | hlt
 ·have e:2 ^ (s+1)*k*n=2*(k*n)*2 ^ s:=by rw [Nat.pow_succ]; ac_rfl
  have e2:2 ^ (s+1)*k=2*k*2 ^ s:=by rw [Nat.pow_succ]; ac_rfl
  rw [e,e2];constructor
  ·intro h;have h:=Nat.le_of_mul_le_mul_right h hp;have:k≤D / n:=(Nat.le_div_iff_mul_le hn).2 (by omega);exact Nat.mul_le_mul_right _ (by omega)
  ·intro h;have h:=Nat.le_of_mul_le_mul_right h hp;refine Nat.mul_le_mul_right _ ?_
   have h1:D / n≤k:=by
    have:=Nat.div_le_div_right (c:=n) (show D≤k*n by omega)
    rwa [Nat.mul_div_cancel _ hn] at this
   by_cases h2:D / n=k
   ·have h3:D % n=0:=by
     have:n*(D / n)=k*n:=by rw [h2,Nat.mul_comm]
     omega
    rw [h3,h2]; simp
   ·have:(D % n != 0).toNat≤1:=by cases (D % n != 0)<;>decide
    omega
 ·have hz:2 ^ (53+s)<(2*(D / n)+(D % n != 0).toNat)*2 ^ s:=by
   rw [Nat.pow_add];exact Nat.mul_lt_mul_of_pos_right (by omega) hp
  constructor
  ·intro _; omega
  ·intro h;exfalso;have a:R*n<2 ^ (53+s)*n:=Nat.mul_lt_mul_of_pos_right hlt hn;have b:2*(n*2 ^ 53)*2 ^ s≤2*D*2 ^ s:=Nat.mul_le_mul_right _ (by omega);have c:2*(n*2 ^ 53)*2 ^ s=2*(2 ^ (53+s)*n):=by rw [Nat.pow_add]; ac_rfl
   omega
theorem tt {i j:Int} {more c I J:Nat} (hi:-1074≤i) (hj:-1074≤j) (hI:(i+1074).toNat=I) (hJ:(j+1074).toNat=J) (hc:i-j-(more:Int)-1=-1074-(c:Int)):I+vq+c=more+1+J:=by
 have hl:vq=1074:=rfl;omega
theorem uE {i j:Int} {more c I J:Nat} (hi:-1074≤i) (hj:-1074≤j) (hI:(i+1074).toNat=I) (hJ:(j+1074).toNat=J) (hc:i-j-(more:Int)-1=-1074+(c:Int)):I+vq=more+1+c+J:=by
 have hl:vq=1074:=rfl;omega
theorem tW {x y:Nat} (hx:x % p63<zc) (hy:y % p63<zc) (h0:y % p63≠0) :
  ∃ q,q≤zc∧double.div x y=some (double.word (neg x ^^ neg y) q)∧∀ r,r≤zc→(U r*U (y % p63)≤U (x % p63)*yW→r≤q)∧(U (x % p63)*yW≤U r*U (y % p63)→q≤r):=by
 obtain ⟨m,i,e1,hi,e2⟩:=zB hx;obtain ⟨n,j,e3,hj,e4⟩:=zB hy;have hUy:U (y % p63)≠0:=fun e=>h0 (xF (e.trans ye.symm))
 have hn0:n≠0:=by rintro rfl; rw [Nat.zero_mul] at e4; omega
 have hn:0<n:=by omega
 unfold Ieee.Format.div;rw [e1,e3];have hdig:double.fractionBits+2=54:=by decide
 simp only [Ieee.Datum.quotient,hdig,if_neg hn0,Nat.shiftLeft_eq,Option.map_some,Ieee.Format.write,xC];generalize hmore:54+n.log2-m.log2=more;refine ⟨_,zC _ _,rfl,fun r hr=>?_⟩;by_cases hm0:m=0
 ·subst hm0;rw [Nat.zero_mul] at e2;rw [← e2];simp only [Nat.zero_mul,Nat.zero_div,Nat.mul_zero,Nat.zero_mod,bne_self_eq_false,Bool.toNat_false,Nat.add_zero,vV];refine ⟨fun h=>?_,fun _=>Nat.zero_le _⟩;have h:U r*U (y % p63)=0:=by omega
  rcases Nat.mul_eq_zero.1 h with h | h
  ·have:=xF (h.trans ye.symm); omega
  ·exact absurd h hUy
 ·have hD:n*2 ^ 53≤m*2 ^ more:=by
   have a:=yO hm0;have b:=yy n;have c:2 ^ (m.log2+more)≤m*2 ^ more:=by rw [Nat.pow_add]; exact Nat.mul_le_mul_right _ a
   have d:n*2 ^ 53≤2 ^ (n.log2+1)*2 ^ 53:=Nat.mul_le_mul_right _ (Nat.le_of_lt b);rw [← Nat.pow_add] at d;have e:2 ^ (n.log2+1+53)≤2 ^ (m.log2+more):=Nat.pow_le_pow_right (by decide) (by omega);omega
  rw [← e2,← e4];obtain ⟨I,hI⟩:∃ I,(i+1074).toNat=I:=⟨_,rfl⟩;obtain ⟨J,hJ⟩:∃ J,(j+1074).toNat=J:=⟨_,rfl⟩;rw [hI,hJ];have hmul:∀ {a b p:Nat},a*2 ^ p≤b*2 ^ p↔a≤b:=fun {a b p}=>⟨fun h=>Nat.le_of_mul_le_mul_right h (Nat.two_pow_pos p),fun h=>Nat.mul_le_mul_right _ h⟩
  by_cases he:i-j-(more:Int)-1≤-1074
  ·
   obtain ⟨c,hc⟩:∃ c:Nat,i-j-(more:Int)-1=-1074-(c:Int):=⟨(-1074-(i-j-(more:Int)-1)).toNat,by omega⟩;rw [hc];have hself:zH (U r*2 ^ c) (-1074-(c:Int))=r:=by rw [zN,xc hr]
   have hform:(∃ k,U r*2 ^ c=2 ^ (0+1)*k)∨U r*2 ^ c<2 ^ (53+0):=by
    by_cases hc0:c=0
    ·subst hc0; rw [Nat.pow_zero,Nat.mul_one]; exact tV r 0
    ·left; exact ⟨U r*2 ^ (c-1),by obtain ⟨c',rfl⟩:∃ c',c=c'+1:=⟨c-1,by omega⟩; rw [Nat.add_sub_cancel,Nat.pow_add 2 c' 1,show (2:Nat) ^ (0+1)=2 ^ 1 from rfl]; ac_rfl⟩
   obtain ⟨k1,k2⟩:=ug (s:=0) hn hD hform;rw [Nat.pow_zero,Nat.mul_one] at k1 k2;have g1:U r*(n*2 ^ J)*2 ^ c=U r*2 ^ c*n*2 ^ J:=by ac_rfl
   have g2:m*2 ^ I*yW*2 ^ c=2*(m*2 ^ more)*2 ^ J:=by
    have q:2 ^ I*yW*2 ^ c=2*2 ^ more*2 ^ J:=by
     rw [vZ,← Nat.pow_add,← Nat.pow_add,← Nat.pow_succ',← Nat.pow_add];rw [tt hi hj hI hJ hc]
    rw [show m*2 ^ I*yW*2 ^ c=m*(2 ^ I*yW*2 ^ c) by simp only [Nat.mul_assoc],q]
    ac_rfl
   rw [Nat.mul_one] at k1 k2;constructor
   ·intro h;have h:=Nat.mul_le_mul_right (2 ^ c) h;rw [g1,g2,hmul] at h;have:=yi (-1074-(c:Int)) (k1 h)
    rwa [hself] at this
   ·intro h;have h:=Nat.mul_le_mul_right (2 ^ c) h;rw [g1,g2,hmul] at h;have:=yi (-1074-(c:Int)) (k2 h)
    rwa [hself] at this
  ·obtain ⟨c,hc⟩:∃ c:Nat,i-j-(more:Int)-1=-1074+(c:Int):=⟨(i-j-(more:Int)-1+1074).toNat,by omega⟩;rw [hc];obtain ⟨k1,k2⟩:=ug (s:=c) hn hD (tV r c);have g1:U r*(n*2 ^ J)=U r*n*2 ^ J:=by ac_rfl
   have g2:m*2 ^ I*yW=2*(m*2 ^ more)*2 ^ c*2 ^ J:=by
    have q:2 ^ I*yW=2*2 ^ more*2 ^ c*2 ^ J:=by
     rw [vZ,← Nat.pow_add,← Nat.pow_succ',← Nat.pow_add,← Nat.pow_add];rw [uE hi hj hI hJ hc]
    rw [Nat.mul_assoc,q]
    ac_rfl
   have hsc:=fun z=>zN z (-1074+(c:Int)) c
   rw [show -1074+(c:Int)-c=-1074 by omega] at hsc;rw [← hsc];constructor
   ·intro h;rw [g1,g2,hmul] at h;exact uZ hr (k1 h)
   ·intro h;rw [g1,g2,hmul] at h;exact ta hr (k2 h)
theorem quo_val {x y:Nat} (hx:x % p63<zc) (hy:y % p63<zc) (h0:key y≠0):isN (cop .quo x y)=false∧cop .quo x y<18446744073709551616 ∧
  ∀ z,isN z=false→(0<key y→(V z*V y≤V x*yW→key z≤key (cop .quo x y))∧(V x*yW≤V z*V y→key (cop .quo x y)≤key z)) ∧
   (key y<0→(V x*yW≤V z*V y→key z≤key (cop .quo x y))∧(V z*V y≤V x*yW→key (cop .quo x y)≤key z)):=by
 have hy0:y % p63≠0:=by intro h; apply h0; rw [zq,h]; unfold sgd; split<;>rfl
 obtain ⟨q,hq,e,h⟩:=tW hx hy hy0
 have hc:cop .quo x y=double.word (neg x ^^ neg y) q:=by
  have:floatBits .quo .f64 x y=some (double.word (neg x ^^ neg y) q):=e;unfold cop; rw [this]; exact zi (yA _ hq)
 refine ⟨by rw [hc]; exact yA _ hq,by rw [hc]; exact wy _ hq,fun z hz=>?_⟩;rw [hc,xd _ hq];have hr:=zr hz;have hz1:=h (z % p63) hr;have hz0:=h 0 (Nat.zero_le _);rw [ye,Nat.zero_mul] at hz0;have hU:∀ r,(U r=0↔r=0):=fun r=>⟨fun e=>xF (e.trans ye.symm),fun e=>by rw [e]; exact ye⟩
 have hUx:=hU (x % p63);have hUz:=hU (z % p63);rw [zq y,zq z];unfold V sgd;have hUy:0<U (y % p63):=by have:=hU (y % p63); omega
 generalize hX:U (x % p63)=X at *;generalize hY:U (y % p63)=Y at *;generalize hZ:U (z % p63)=Z at *;generalize x % p63=rx at *;generalize y % p63=ry at *;generalize z % p63=rz at *;have hP:0<yW:=tJ;generalize yW=P at *;have c1:((X:Int)*(P:Int))=((X*P:Nat):Int):=by rw [Int.natCast_mul]
 have c2:((Z:Int)*(Y:Int))=((Z*Y:Nat):Int):=by rw [Int.natCast_mul]
 have hXP:X*P=0↔X=0:=by rw [Nat.mul_eq_zero]; omega
 have hZY:Z*Y=0↔Z=0:=by rw [Nat.mul_eq_zero]; omega
 cases hsx:neg x<;>cases hsy:neg y<;>cases hsz:neg z<;>simp only [Bool.false_eq_true,if_false,if_true,Bool.xor_false,Bool.xor_true,Bool.not_false,Int.neg_mul,Int.mul_neg,c1,c2,bne_self_eq_false]<;>refine ⟨fun hk=>⟨fun hh=>?_,fun hh=>?_⟩,fun hk=>⟨fun hh=>?_,fun hh=>?_⟩⟩<;>omega
def Neg (x y:Nat):Prop:=isN x=isN y∧(isN x=false→key x=-key y)
theorem uS {x:Nat} (hN:isN x=false):x % p63<zc↔-(zc:Int)<key x∧key x<zc:=by
 have:=zr hN;rw [zq]; unfold sgd; cases neg x<;>simp<;>omega
theorem V_neg {x y:Nat} (h:key x=-key y):V x=- V y:=by
 have e:key y=- key x:=by omega
 have:V (double.word (!neg x) (x % p63))=- V x:=by
  have hle:x % p63<p63:=Nat.mod_lt _ (by decide)
  have hm:double.word (!neg x) (x % p63) % p63=x % p63:=by
   rw [yE]; unfold p63 at *; split<;>omega
  have hn:neg (double.word (!neg x) (x % p63))=!neg x:=by
   rw [yE]; unfold neg p63 at *;by_cases g:x / 9223372036854775808 % 2=1
   ·have g':(x / 9223372036854775808 % 2==1)=true:=by simpa using g
    rw [g',Bool.not_true,if_neg (by decide),show x % 9223372036854775808 / 9223372036854775808=0 by omega]; rfl
   ·have g':(x / 9223372036854775808 % 2==1)=false:=by simpa using g
    rw [g',Bool.not_false,if_pos rfl,show (9223372036854775808+x % 9223372036854775808) / 9223372036854775808=1 by omega]; rfl
  unfold V; rw [hm,hn]; unfold sgd; cases neg x<;>simp
 have k2:key (double.word (!neg x) (x % p63))=- key x:=by
  have hle:x % p63<p63:=Nat.mod_lt _ (by decide)
  have hm:double.word (!neg x) (x % p63) % p63=x % p63:=by
   rw [yE]; unfold p63 at *; split<;>omega
  have hn:neg (double.word (!neg x) (x % p63))=!neg x:=by
   rw [yE]; unfold neg p63 at *;by_cases g:x / 9223372036854775808 % 2=1
   ·have g':(x / 9223372036854775808 % 2==1)=true:=by simpa using g
    rw [g',Bool.not_true,if_neg (by decide),show x % 9223372036854775808 / 9223372036854775808=0 by omega]; rfl
   ·have g':(x / 9223372036854775808 % 2==1)=false:=by simpa using g
    rw [g',Bool.not_false,if_pos rfl,show (9223372036854775808+x % 9223372036854775808) / 9223372036854775808=1 by omega]; rfl
  rw [zq,zq,hm,hn]; unfold sgd; cases neg x<;>simp
 have:V y=V (double.word (!neg x) (x % p63)):=V_eq.2 (by rw [k2]; omega);omega
theorem Neg.symm {x y:Nat} (h:Neg x y):Neg y x:=⟨h.1.symm,fun e=>by have:=h.2 (h.1.trans e); omega⟩
theorem Neg.fin {x y:Nat} (h:Neg x y) (hN:isN x=false):x % p63<zc↔y % p63<zc:=by
 have hy:isN y=false:=h.1 ▸ hN;have:=h.2 hN;rw [uS hN,uS hy]; omega
theorem uF {x y:Nat} (h:Neg x y) (hN:isN x=false) (hx:x % p63=zc):y % p63=zc∧neg y=!neg x:=by
 have hy:isN y=false:=h.1 ▸ hN;have hyl:=zr hy;have hyf:¬ y % p63<zc:=fun g=>by have:=(h.fin hN).2 g; omega
 have hye:y % p63=zc:=by omega
 refine ⟨hye,?_⟩;have k:=h.2 hN;rw [zq,zq,hx,hye] at k;unfold sgd zc at k;cases hn:neg x<;>cases hm:neg y<;>simp [hn,hm] at k ⊢<;>omega
theorem wD:Neg xI xI:=⟨rfl,fun e=>absurd e (by decide)⟩
theorem vP (s:Bool):Neg (zg (double.word s zc)) (zg (double.word (!s) zc)):=by cases s<;>(unfold Neg; decide)
theorem tv {a c:Nat} (h:Neg a c) (hN:isN a=false):a % p63=c % p63:=by
 have:=h.2 hN;rw [zq,zq] at this;unfold sgd at this;cases neg a<;>cases neg c<;>simp at this<;>omega
theorem mul_neg {a b c:Nat} (h:Neg a c):Neg (cop .mul a b) (cop .mul c b):=by
 cases ha:isN a
 ·have hc:isN c=false:=h.1 ▸ ha;cases hb:isN b
  ·have la:=zr ha; have lb:=zr hb;have hr:=tv h ha;by_cases fa:a % p63<zc
   ·have fc:c % p63<zc:=by omega
    by_cases fb:b % p63<zc
    ·have e1:=yQ fa fb;have e2:=yQ fc fb;have k1:=wz fa fb e1;have k2:=wz fc fb e2;rw [zE (op:=.mul) e1,zE (op:=.mul) e2,zi k1.2.1,zi k2.2.1];refine ⟨by rw [k1.2.1,k2.2.1],fun _=>?_⟩;rw [k1.1,k2.1,V_neg (h.2 ha),Int.neg_mul,vI]
    ·have ib:b % p63=zc:=by omega
     by_cases hnz:a % p63=0
     ·have z1:floatBits .mul .f64 a b=none:=by
       obtain ⟨m,i,r1,_,q⟩:=zB fa;rw [hnz,ye] at q
       have m0:m=0:=by
        rcases Nat.mul_eq_zero.1 q with g | g
        ·exact g
        ·have:=Nat.two_pow_pos (i+1074).toNat; omega
       unfold floatBits; simp only [FloatKind.format,Ieee.Format.mul]; rw [r1,zp ib]; simp [Ieee.Datum.product,m0]
      have z2:floatBits .mul .f64 c b=none:=by
       obtain ⟨m,i,r1,_,q⟩:=zB fc;rw [← hr,hnz,ye] at q
       have m0:m=0:=by
        rcases Nat.mul_eq_zero.1 q with g | g
        ·exact g
        ·have:=Nat.two_pow_pos (i+1074).toNat; omega
       unfold floatBits; simp only [FloatKind.format,Ieee.Format.mul]; rw [r1,zp ib]; simp [Ieee.Datum.product,m0]
      unfold cop; rw [z1,z2]; exact wD
     ·have hs:neg c=!neg a:=by
       have k:=h.2 ha;rw [zq,zq,← hr] at k;unfold sgd at k;cases hn:neg a<;>cases hm:neg c<;>simp [hn,hm] at k ⊢<;>omega
      have z1:floatBits .mul .f64 a b=some (double.word (neg a ^^ neg b) zc):=by
       obtain ⟨m,i,r1,_,q⟩:=zB fa;have m0:m≠0:=fun e=>by rw [e,Nat.zero_mul] at q; exact hnz (xF (q.symm.trans ye.symm))
       unfold floatBits; simp only [FloatKind.format,Ieee.Format.mul]; rw [r1,zp ib]; simp [Ieee.Datum.product,m0]; cases neg a<;>cases neg b<;>rfl
      have z2:floatBits .mul .f64 c b=some (double.word (neg c ^^ neg b) zc):=by
       obtain ⟨m,i,r1,_,q⟩:=zB fc;have m0:m≠0:=fun e=>by rw [e,Nat.zero_mul] at q; exact hnz (hr.trans (xF (q.symm.trans ye.symm)))
       unfold floatBits; simp only [FloatKind.format,Ieee.Format.mul]; rw [r1,zp ib]; simp [Ieee.Datum.product,m0]; cases neg c<;>cases neg b<;>rfl
      rw [zE z1,zE z2,hs,show (!neg a ^^ neg b)=!(neg a ^^ neg b) by cases neg a<;>cases neg b<;>rfl];exact vP _
   ·have ia:a % p63=zc:=by omega
    obtain ⟨ic,nc⟩:=uF h ha ia;by_cases fb:b % p63<zc
    ·obtain ⟨m,i,r1,_,_⟩:=zB fb;by_cases m0:m=0
     ·have z1:floatBits .mul .f64 a b=none:=by
       unfold floatBits; simp only [FloatKind.format,Ieee.Format.mul]; rw [r1,zp ia]; simp [Ieee.Datum.product,m0]
      have z2:floatBits .mul .f64 c b=none:=by
       unfold floatBits; simp only [FloatKind.format,Ieee.Format.mul]; rw [r1,zp ic]; simp [Ieee.Datum.product,m0]
      unfold cop; rw [z1,z2]; exact wD
     ·have z1:floatBits .mul .f64 a b=some (double.word (neg a ^^ neg b) zc):=by
       unfold floatBits; simp only [FloatKind.format,Ieee.Format.mul]; rw [r1,zp ia]; simp [Ieee.Datum.product,m0]; rfl
      have z2:floatBits .mul .f64 c b=some (double.word (neg c ^^ neg b) zc):=by
       unfold floatBits; simp only [FloatKind.format,Ieee.Format.mul]; rw [r1,zp ic]; simp [Ieee.Datum.product,m0]; rfl
      rw [zE z1,zE z2,nc,show (!neg a ^^ neg b)=!(neg a ^^ neg b) by cases neg a<;>cases neg b<;>rfl];exact vP _
    ·have ib:b % p63=zc:=by omega
     have z1:floatBits .mul .f64 a b=some (double.word (neg a ^^ neg b) zc):=by
      unfold floatBits; simp only [FloatKind.format,Ieee.Format.mul]; rw [zp ib,zp ia]; rfl
     have z2:floatBits .mul .f64 c b=some (double.word (neg c ^^ neg b) zc):=by
      unfold floatBits; simp only [FloatKind.format,Ieee.Format.mul]; rw [zp ib,zp ic]; rfl
     rw [zE z1,zE z2,nc,show (!neg a ^^ neg b)=!(neg a ^^ neg b) by cases neg a<;>cases neg b<;>rfl];exact vP _
  ·unfold cop; rw [yx _ _ hb,yx _ _ hb]; exact wD
 ·unfold cop; rw [yF _ _ ha,yF _ _ (h.1 ▸ ha)]; exact wD
end Go.Proofs.Ytgnledamhjbafaa
