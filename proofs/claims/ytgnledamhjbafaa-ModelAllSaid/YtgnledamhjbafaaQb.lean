/-
  Contracts (what a function tells) and plain facts that a law's proof hangs on, for every input; no condition but those in their statements. Laid together of the texts Ga.
-/
import Derived.Lib.Hide
import Ieee.Arith
import Derived.Laws.FloatBits
namespace Go.Proofs.Ytgnledamhjbafaa
open Lib
open Ieee (double)
def zc:Nat:=9218868437227405312
def p63:Nat:=9223372036854775808
def p52:Nat:=4503599627370496
def isN (x:Nat):Bool:=decide (zc<x % p63)
def key (x:Nat):Int:=if x / p63 % 2=1 then -((x % p63:Nat):Int) else ((x % p63:Nat):Int)
def U (r:Nat):Nat:=if r<p52 then r else (p52+r % p52)*2 ^ (r / p52-1)
theorem vG {r s:Nat} (h:r<s):U r<U s:=by
 unfold U;by_cases h1:s<p52
 ·rw [if_pos (by omega),if_pos h1]; exact h
 ·rw [if_neg h1];have hp:0<2 ^ (s / p52-1):=Nat.two_pow_pos _;have hbase:p52*2 ^ (s / p52-1)≤(p52+s % p52)*2 ^ (s / p52-1):=Nat.mul_le_mul_right _ (by omega);by_cases h2:r<p52
  ·rw [if_pos h2];have:p52*1≤p52*2 ^ (s / p52-1):=Nat.mul_le_mul_left _ hp;omega
  ·rw [if_neg h2];have hle:r / p52≤s / p52:=Nat.div_le_div_right (Nat.le_of_lt h);by_cases he:r / p52=s / p52
   ·rw [he];apply Nat.mul_lt_mul_of_pos_right _ hp;have:=Nat.div_add_mod r p52; have:=Nat.div_add_mod s p52;rw [he] at *; omega
   ·have hr:r % p52<p52:=Nat.mod_lt _ (by decide);have h1r:1≤r / p52:=(Nat.one_le_div_iff (by decide)).2 (by omega);have a1:(p52+r % p52)*2 ^ (r / p52-1)<(p52*2)*2 ^ (r / p52-1):=Nat.mul_lt_mul_of_pos_right (by omega) (Nat.two_pow_pos _)
    have a2:(p52*2)*2 ^ (r / p52-1)≤p52*2 ^ (s / p52-1):=by
     rw [Nat.mul_assoc,← Nat.pow_succ'];exact Nat.mul_le_mul_left _ (Nat.pow_le_pow_right (by decide) (by omega))
    omega
theorem U_lt {r s:Nat}:U r<U s↔r<s:=
 ⟨fun h=>by
  rcases Nat.lt_trichotomy r s with g | g | g
  ·exact g
  ·subst g; omega
  ·have:=vG g; omega,vG⟩
theorem xF {r s:Nat} (h:U r=U s):r=s:=by
 rcases Nat.lt_trichotomy r s with g | g | g
 ·have:=vG g; omega
 ·exact g
 ·have:=vG g; omega
theorem ye:U 0=0:=by decide
def sgd (n:Bool) (m:Nat):Int:=if n then -(m:Int) else m
def neg (x:Nat):Bool:=x / p63 % 2==1
theorem zq (x:Nat):key x=sgd (neg x) (x % p63):=by
 unfold key sgd neg; by_cases h:x / p63 % 2=1<;>simp [h]
def V (x:Nat):Int:=sgd (neg x) (U (x % p63))
theorem vn (n:Bool) (m k:Nat):Ieee.signed n m k=sgd n (m*2 ^ k):=by
 unfold Ieee.signed sgd; simp only [Nat.shiftLeft_eq]
theorem uL (n:Bool) (m k:Nat):sgd n (m*k)=sgd n m*k:=by
 unfold sgd; cases n<;>simp [Int.neg_mul]
theorem zB {x:Nat} (h:x % p63<zc):∃ m:Nat,∃ p:Int,double.read x=.number (neg x) m p∧-1074≤p∧m*2 ^ (p+1074).toNat=U (x % p63):=by
 unfold Ieee.Format.read;have e1:double.signWeight=p63:=by decide
 have e2:double.binade=p52:=by decide
 have e3:double.infRung=zc:=by decide
 have e4:double.leastPlace=-1074:=by decide
 simp only [e1,e2,e3,e4];by_cases h1:x % p63<p52
 ·exact ⟨x % p63,-1074,by rw [if_pos h1]; rfl,by omega,by simp [U,h1]⟩
 ·refine ⟨p52+x % p63 % p52,-1074+((x % p63 / p52-1:Nat):Int),by rw [if_neg h1,if_pos h]; rfl,by omega,?_⟩;rw [show ((-1074:Int)+((x % p63 / p52-1:Nat):Int)+1074).toNat=x % p63 / p52-1 by omega];simp [U,h1]
theorem zp {x:Nat} (h:x % p63=zc):double.read x=.infinity (neg x):=by
 unfold Ieee.Format.read;have e1:double.signWeight=p63:=by decide
 have e2:double.binade=p52:=by decide
 have e3:double.infRung=zc:=by decide
 simp only [e1,e2,e3,h];rfl
theorem yL {x:Nat} (h:zc<x % p63):double.read x=.nan (neg x) (x % p63-zc):=by
 unfold Ieee.Format.read;have e1:double.signWeight=p63:=by decide
 have e2:double.binade=p52:=by decide
 have e3:double.infRung=zc:=by decide
 simp only [e1,e2,e3];rw [if_neg (by unfold p52; unfold zc at h; omega),if_neg (by omega),if_neg (by omega)];rfl
theorem uw {a b c d:Int} (h1:a<b↔c<d) (h2:a=b↔c=d):compare a b=compare c d:=by
 simp only [compare,compareOfLessAndEq,h1,h2]
theorem wM {a b:Int} (h:a<b):compare a b=.lt:=by simp [compare,compareOfLessAndEq,h]
theorem wN {a b:Int} (h:b<a):compare a b=.gt:=by
 simp only [compare,compareOfLessAndEq]; rw [if_neg (by omega),if_neg (by omega)]
theorem ux {a b:Int} (h:a=b):compare a b=.eq:=by
 simp only [compare,compareOfLessAndEq]; rw [if_neg (by omega),if_pos h]
theorem vH {n m:Bool} {a b:Nat}:sgd n (U a)<sgd m (U b)↔sgd n a<sgd m b:=by
 have h:=@U_lt a b; have h':=@U_lt b a;have z:∀ r,U r=0↔r=0:=fun r=>⟨fun e=>xF (e.trans ye.symm),fun e=>by rw [e,ye]⟩
 have za:=z a; have zb:=z b;unfold sgd; cases n<;>cases m<;>simp<;>omega
theorem tE {n m:Bool} {a b:Nat}:sgd n (U a)=sgd m (U b)↔sgd n a=sgd m b:=by
 have h:=@vH n m a b; have h':=@vH m n b a;omega
theorem vp (s t:Bool) (m n:Nat) (i j:Int) (hi:-1074≤i) (hj:-1074≤j) :
  sgd s (m*2 ^ (i+1074).toNat)=Ieee.signed s m (i-min i j).toNat*(2 ^ (min i j+1074).toNat:Nat)∧sgd t (n*2 ^ (j+1074).toNat)=Ieee.signed t n (j-min i j).toNat*(2 ^ (min i j+1074).toNat:Nat):=by
 rw [vn,vn,← uL,← uL,Nat.mul_assoc,Nat.mul_assoc,← Nat.pow_add,← Nat.pow_add];rw [show (i-min i j).toNat+(min i j+1074).toNat=(i+1074).toNat by omega,show (j-min i j).toNat+(min i j+1074).toNat=(j+1074).toNat by omega];exact ⟨rfl,rfl⟩
theorem wO (x y:Nat):double.order x y=if isN x || isN y then none else some (compare (key x) (key y)):=by
 unfold Ieee.Format.order isN;rcases Nat.lt_trichotomy (x % p63) zc with hx | hx | hx<;>rcases Nat.lt_trichotomy (y % p63) zc with hy | hy | hy
 ·obtain ⟨m,i,e1,hi,e2⟩:=zB hx;obtain ⟨n,j,e3,hj,e4⟩:=zB hy;rw [e1,e3,if_neg (by simp; omega)];simp only [Ieee.Datum.order];have hs:=vp (neg x) (neg y) m n i j hi hj;have hp:(0:Int)<(2 ^ (min i j+1074).toNat:Nat):=by have:=Nat.two_pow_pos (min i j+1074).toNat; omega
  congr 1
  rw [zq,zq];apply uw
  ·rw [← vH,← e2,← e4,hs.1,hs.2];exact ⟨fun h=>Int.mul_lt_mul_of_pos_right h hp,fun h=>Int.lt_of_mul_lt_mul_right h (Int.le_of_lt hp)⟩
  ·rw [← tE,← e2,← e4,hs.1,hs.2];exact ⟨fun h=>by rw [h],fun h=>Int.eq_of_mul_eq_mul_right (by omega) h⟩
 ·obtain ⟨m,i,e1,hi,e2⟩:=zB hx;rw [e1,zp hy,if_neg (by simp; omega),zq,zq];simp only [Ieee.Datum.order,hy]
  congr 1
  unfold sgd;generalize x % p63=r at *;cases neg y<;>cases neg x<;>simp only [if_true,if_false,Bool.false_eq_true]<;>symm<;>first | exact wM (by omega) | exact wN (by omega)
 ·rw [yL hy,if_pos (by simp; omega)];obtain ⟨m,i,e1,hi,e2⟩:=zB hx;rw [e1]; rfl
 ·obtain ⟨m,i,e1,hi,e2⟩:=zB hy;rw [e1,zp hx,if_neg (by simp; omega),zq,zq];simp only [Ieee.Datum.order,hx]
  congr 1
  unfold sgd;generalize y % p63=r at *;cases neg y<;>cases neg x<;>simp only [if_true,if_false,Bool.false_eq_true]<;>symm<;>first | exact wM (by omega) | exact wN (by omega)
 ·rw [zp hx,zp hy,if_neg (by simp; omega),zq,zq,hx,hy];cases neg y<;>cases neg x<;>decide
 ·rw [yL hy,if_pos (by simp; omega),zp hx]; rfl
 ·rw [yL hx,if_pos (by simp; omega)]; rfl
 ·rw [yL hx,if_pos (by simp; omega)]; rfl
 ·rw [yL hx,if_pos (by simp; omega)]; rfl
def rne (n d:Nat):Nat:=n / 2 ^ d+(if 2 ^ d<2*(n % 2 ^ d)∨(2 ^ d=2*(n % 2 ^ d)∧n / 2 ^ d % 2=1) then 1 else 0)
theorem yy (n:Nat):n<2 ^ (n.log2+1):=Nat.lt_log2_self
theorem yO {n:Nat} (h:n≠0):2 ^ n.log2≤n:=Nat.log2_self_le h
theorem sY (s:Bool) (n d:Nat):Ieee.Toward.even.cut s n d=rne n d:=by
 have key:∀ g:Nat,(n / g+(decide (g<2*(n % g)) || (g==2*(n % g)&&n / g % 2==1)).toNat)=n / g+(if g<2*(n % g)∨(g=2*(n % g)∧n / g % 2=1) then 1 else 0):=by
  intro g
  have e:(decide (g<2*(n % g)) || (g==2*(n % g)&&n / g % 2==1))=decide (g<2*(n % g)∨(g=2*(n % g)∧n / g % 2=1)):=by
   rw [Bool.eq_iff_iff]; simp
  rw [e];by_cases H:g<2*(n % g)∨(g=2*(n % g)∧n / g % 2=1)
  ·rw [decide_eq_true H,if_pos H]; rfl
  ·rw [decide_eq_false H,if_neg H]; rfl
 have h1:Ieee.Toward.even.cut s n d=(n / (1 <<< min d (n.log2+2))+(decide (1 <<< min d (n.log2+2)<2*(n % (1 <<< min d (n.log2+2)))) || (1 <<< min d (n.log2+2)==2*(n % (1 <<< min d (n.log2+2)))&&n / (1 <<< min d (n.log2+2)) % 2==1)).toNat):=rfl;rw [h1,key,Nat.shiftLeft_eq,Nat.one_mul];unfold rne;by_cases h:d≤n.log2+2
 ·rw [Nat.min_eq_left h]
 ·rw [Nat.min_eq_right (by omega)];have a:=yy n;have e2:2 ^ (n.log2+2)=2*2 ^ (n.log2+1):=by rw [Nat.pow_succ' (n:=n.log2+1)]
  have b:2 ^ (n.log2+2)≤2 ^ d:=Nat.pow_le_pow_right (by decide) (by omega);have c1:n<2 ^ (n.log2+2):=by omega
  have c2:n<2 ^ d:=by omega
  rw [Nat.div_eq_of_lt c1,Nat.div_eq_of_lt c2,Nat.mod_eq_of_lt c1,Nat.mod_eq_of_lt c2,if_neg (by omega),if_neg (by omega)]
theorem yZ (n:Nat):rne n 0=n:=by
 unfold rne; simp [Nat.mod_one]
theorem xX (n d k:Nat):rne (n*2 ^ k) (d+k)=rne n d:=by
 unfold rne;have hp:0<2 ^ k:=Nat.two_pow_pos _;rw [Nat.pow_add,Nat.mul_div_mul_right _ _ hp,Nat.mul_mod_mul_right]
 have e1:2 ^ d*2 ^ k<2*(n % 2 ^ d*2 ^ k)↔2 ^ d<2*(n % 2 ^ d):=by
  rw [← Nat.mul_assoc]; exact Nat.mul_lt_mul_right hp
 have e2:2 ^ d*2 ^ k=2*(n % 2 ^ d*2 ^ k)↔2 ^ d=2*(n % 2 ^ d):=by
  rw [← Nat.mul_assoc]; exact Nat.mul_right_cancel_iff hp
 simp only [e1,e2]
theorem sZ {m n:Nat} (d:Nat) (h:m≤n):rne m d≤rne n d:=by
 unfold rne;have hp:0<2 ^ d:=Nat.two_pow_pos _;have hq:m / 2 ^ d≤n / 2 ^ d:=Nat.div_le_div_right h;by_cases he:m / 2 ^ d=n / 2 ^ d
 ·have a:=Nat.div_add_mod m (2 ^ d); have b:=Nat.div_add_mod n (2 ^ d);rw [he] at *;split<;>split<;>omega
 ·split<;>split<;>omega
def zH (m:Nat) (p:Int):Nat:=
 if m=0 then 0 else min ((max (p+m.log2-52) (-1074)+1074).toNat*p52+rne (m*2 ^ (p-max (p+m.log2-52) (-1074)).toNat) (max (p+m.log2-52) (-1074)-p).toNat) zc
theorem xC (s:Bool) (m:Nat) (p:Int):double.nearest s m p=double.word s (zH m p):=by
 unfold Ieee.Format.nearest zH;by_cases h:m=0
 ·simp [h]
 ·rw [if_neg h,if_neg h];have e2:double.binade=p52:=by decide
  have e3:double.infRung=zc:=by decide
  have e4:double.leastPlace=-1074:=by decide
  have e5:(double.fractionBits:Int)=52:=by decide
  simp only [e2,e3,e4,e5,sY,Nat.shiftLeft_eq,show ∀ a:Int,a-(-1074)=a+1074 from fun a=>by omega]
theorem wP {m:Nat} (h:m≠0) (k:Nat):(m*2 ^ k).log2=m.log2+k:=by
 have hp:0<2 ^ k:=Nat.two_pow_pos _;have hm:m*2 ^ k≠0:=Nat.mul_ne_zero h (by omega);rw [Nat.log2_eq_iff hm];have a:=yO h; have b:=yy m;constructor
 ·rw [Nat.pow_add]; exact Nat.mul_le_mul_right _ a
 ·rw [show m.log2+k+1=(m.log2+1)+k by omega,Nat.pow_add];exact Nat.mul_lt_mul_of_pos_right b hp
theorem zN (m:Nat) (p:Int) (k:Nat):zH (m*2 ^ k) (p-k)=zH m p:=by
 unfold zH;by_cases h:m=0
 ·simp [h]
 ·have hp:0<2 ^ k:=Nat.two_pow_pos _;have hm:m*2 ^ k≠0:=Nat.mul_ne_zero h (by omega);rw [if_neg h,if_neg hm,wP h];rw [show p-(k:Int)+((m.log2+k:Nat):Int)-52=p+m.log2-52 by omega];generalize max (p+(m.log2:Int)-52) (-1074)=l
  congr 2
  by_cases h1:l≤p
  ·rw [show (l-p).toNat=0 by omega,yZ];by_cases h2:l≤p-k
   ·rw [show (l-(p-k)).toNat=0 by omega,yZ,Nat.mul_assoc,← Nat.pow_add,show k+(p - ↑k-l).toNat=(p-l).toNat by omega]
   ·rw [show (p-k-l).toNat=0 by omega,Nat.pow_zero,Nat.mul_one];obtain ⟨j,hj⟩:∃ j:Nat,j=(l-(p-k)).toNat:=⟨_,rfl⟩;rw [← hj,show k=(p-l).toNat+j by omega,Nat.pow_add,← Nat.mul_assoc];have:=xX (m*2 ^ (p-l).toNat) 0 j;rw [Nat.zero_add] at this; rw [this,yZ]
  ·rw [show (p-l).toNat=0 by omega,show (p-k-l).toNat=0 by omega,Nat.pow_zero,Nat.mul_one,Nat.mul_one,show (l-(p-k)).toNat=(l-p).toNat+k by omega,xX]
def low (c m:Nat):Nat:=(m.log2-(52+c))*p52+rne m (m.log2-(52+c)+c)
theorem xD {m:Nat} (c:Nat) (h:m≠0):zH m (-1074-c)=min (low c m) zc:=by
 unfold zH low;rw [if_neg h];have e:max (-1074-(c:Int)+m.log2-52) (-1074)=-1074+((m.log2-(52+c):Nat):Int):=by omega
 rw [e]
 rw [show (-1074+((m.log2-(52+c):Nat):Int)+1074).toNat=m.log2-(52+c) by omega,
  show (-1074-(c:Int)-(-1074+((m.log2-(52+c):Nat):Int))).toNat=0 by omega,
  show (-1074+((m.log2-(52+c):Nat):Int)-(-1074-(c:Int))).toNat=m.log2-(52+c)+c by omega,Nat.pow_zero,Nat.mul_one]
theorem uy {n d e:Nat} (h:n<2 ^ (d+e)):rne n d≤2 ^ e:=by
 have h1:n / 2 ^ d<2 ^ e:=by
  rw [Nat.div_lt_iff_lt_mul (Nat.two_pow_pos _),← Nat.pow_add,Nat.add_comm]; exact h
 unfold rne; split<;>omega
theorem uz {n d e:Nat} (h:2 ^ (d+e)≤n):2 ^ e≤rne n d:=by
 have h1:2 ^ e≤n / 2 ^ d:=by
  rw [Nat.le_div_iff_mul_le (Nat.two_pow_pos _),← Nat.pow_add,Nat.add_comm]; exact h
 unfold rne; split<;>omega
theorem vh {m n:Nat} (hm:m≠0) (h:m≤n):m.log2≤n.log2:=by
 have a:=yO hm; have b:=yy n;have c:2 ^ m.log2<2 ^ (n.log2+1):=by omega
 have:=(Nat.pow_lt_pow_iff_right (a:=2) (by decide)).1 c;omega
theorem re {m n:Nat} (c:Nat) (hm:m≠0) (h:m≤n):low c m≤low c n:=by
 have hl:=vh hm h;unfold low;by_cases he:m.log2-(52+c)=n.log2-(52+c)
 ·rw [he]; exact Nat.add_le_add_left (sZ _ h) _
 ·have a:rne m (m.log2-(52+c)+c)≤2 ^ 53:=uy (Nat.lt_of_lt_of_le (yy m) (Nat.pow_le_pow_right (by decide) (by omega)));have b:2 ^ 52≤rne n (n.log2-(52+c)+c):=uz (Nat.le_trans (Nat.pow_le_pow_right (by decide) (by omega)) (yO (by omega:n≠0)));have e1:(2:Nat) ^ 53=2*p52:=by decide
  have e2:(2:Nat) ^ 52=p52:=by decide
  rw [e1] at a; rw [e2] at b;have:(m.log2-(52+c)+1)*p52≤(n.log2-(52+c))*p52:=Nat.mul_le_mul_right _ (by omega);rw [Nat.add_mul] at this;omega
theorem yi {m n:Nat} (p:Int) (h:m≤n):zH m p≤zH n p:=by
 by_cases hm:m=0
 ·subst hm; simp [zH]
 ·obtain ⟨c,k,hc⟩:∃ c k:Nat,p-k=-1074-c:=⟨(p+1074).toNat-(p+1074).toNat+(-1074-p).toNat,(p+1074).toNat,by omega⟩;rw [← zN m p k,← zN n p k,hc,xD c (Nat.mul_ne_zero hm (by have:=Nat.two_pow_pos k; omega)),xD c (Nat.mul_ne_zero (by omega) (by have:=Nat.two_pow_pos k; omega))];have:=re c (Nat.mul_ne_zero hm (by have:=Nat.two_pow_pos k; omega)) (Nat.mul_le_mul_right (2 ^ k) h);omega
theorem zC (m:Nat) (p:Int):zH m p≤zc:=by
 unfold zH; split
 ·decide
 ·omega
theorem xc {r:Nat} (h:r≤zc):zH (U r) (-1074)=r:=by
 by_cases h0:r=0
 ·subst h0; rfl
 have hU:U r≠0:=fun e=>h0 (xF (e.trans ye.symm))
 have e:=xD 0 hU;rw [show (-1074-((0:Nat):Int))=-1074 by rfl] at e;rw [e]
 suffices H:low 0 (U r)=r by rw [H]; omega
 unfold low U;by_cases h1:r<p52
 ·rw [if_pos h1];have:r.log2<52:=(Nat.log2_lt h0).2 h1;rw [show r.log2-(52+0)=0 by omega,Nat.zero_mul,Nat.zero_add,yZ]
 ·rw [if_neg h1];have hr:r % p52<p52:=Nat.mod_lt _ (by decide);have h1r:1≤r / p52:=(Nat.one_le_div_iff (by decide)).2 (by omega)
  have l0:(p52+r % p52).log2=52:=by
   rw [Nat.log2_eq_iff (by have:0<p52:=(by decide); omega)];have e1:(2:Nat) ^ 52=p52:=by decide
   have e2:(2:Nat) ^ (52+1)=2*p52:=by decide
   rw [e1,e2]; omega
  rw [wP (by have:0<p52:=(by decide); omega),l0,show 52+(r / p52-1)-(52+0)=r / p52-1 by omega];have:=xX (p52+r % p52) 0 (r / p52-1);rw [Nat.zero_add] at this;rw [Nat.add_zero,this,yZ];have d:=Nat.div_add_mod r p52
  have:(r / p52-1)*p52+p52=p52*(r / p52):=by
   rw [← Nat.succ_mul,Nat.mul_comm]; congr 1; omega
  omega
theorem uZ {r m:Nat} (h:r≤zc) (hu:U r≤m):r≤zH m (-1074):=by
 have:=yi (-1074) hu; rwa [xc h] at this
theorem ta {r m:Nat} (h:r≤zc) (hu:m≤U r):zH m (-1074)≤r:=by
 have:=yi (-1074) hu; rwa [xc h] at this
end Go.Proofs.Ytgnledamhjbafaa
