/-
  Contracts (what a function tells) and plain facts that a law's proof hangs on, for every input; no condition but those in their statements. Laid together of the texts In0, Inr, Shp, Ga, Gb, Gc, Gj, Ha, Hg, Hlp, Hi, Hv, Reg, Crc, Lrd, Rgt, Rgi.
-/
import Derived.Test.YtnlbafjmbamoeaaGreatRows
import Derived.KernelRfl
import Derived.ChangeSlices
import Derived.WalkKit
import Derived.OpenShut
import Derived.Carry
import Derived.Lib.SmallJoins
import Ieee.Arith
import Derived.Laws.FloatBits
import Derived.Laws.FloatArith
import Derived.Laws.NewFold
import Derived.Deep.Draws
import Derived.Laws.Externs
import Derived.WalkSpells
import Derived.WalkLawsBesides
import Derived.Laws.BitsAllLaws
import Derived.Lib.Hide
import Derived.IntWalk
import Derived.BigQuiet
import Derived.Deep.QuietTactic
import Derived.OwnWalk
import Derived.Laws.OwnMore
import Derived.Laws.CopyOwn
import Derived.OrdersHeld
import Derived.StillTail
import Derived.Deep.Quiet
import Derived.Maps.AppendAt
import Derived.RegionTactic
import Derived.Deep.RegionLaw
import Derived.StillTailTactics
import Derived.Deep.RegionHeld3
namespace Go.Proofs.YtnlbafjmbamoeaaGreat
open Lib
def qH (w:World) (v:Value) (zs:List Int):Prop:=
 (∃ o cap,v=.slice o 0 cap∧zs=[])∨∃ b off cap,v=.slice (some ⟨b,off,none⟩) zs.length cap∧b<w.heap.size∧zs.length≤9223372036854775807∧(∀ i,i<zs.length→w.cell? ⟨b,off+i,none⟩=some (.int .i64 (zs.getD i 0)))
end Go.Proofs.YtnlbafjmbamoeaaGreat
namespace Go.Proofs.YtnlbafjmbamoeaaGreat
open Go.RowKit Lib
def qI (w:World) (v:Value) (zs:List Int):Prop:=qH w v zs∧∀ i,i<zs.length→-9223372036854775808≤zs.getD i 0∧zs.getD i 0≤9223372036854775807
end Go.Proofs.YtnlbafjmbamoeaaGreat
namespace Go.Proofs.YtnlbafjmbamoeaaGreat
open Go.RowKit Go.ChangeShapes Go.WideShapes Go.Joins Lib
structure ShD where
 n:Int
 first:Int
 least:Int
 tol:Int
 en:Int
 ns:List Int
 ms:List Int
 outs:List Int
 div:Bool
def sy (a:Int):Prop:=-9223372036854775808≤a∧a≤9223372036854775807
structure ShR (s:ShD):Prop where
 n:sy s.n
 first:sy s.first
 least:sy s.least
 tol:sy s.tol
 en:sy s.en
def ShAt (w:World) (v:Value) (s:ShD):Prop:=ShR s∧∃ u1 u2 u3,v=.agg #[.int .i64 s.n,.int .i64 s.first,.int .i64 s.least,.int .i64 s.tol,.int .i64 s.en,u1,u2,u3,.bool s.div]∧qI w u1 s.ns∧qI w u2 s.ms∧qI w u3 s.outs
end Go.Proofs.YtnlbafjmbamoeaaGreat
namespace Go.Proofs.YtnlbafjmbamoeaaGreat
open Lib
open Ieee (double)
def yC:Nat:=9218868437227405312
def p63:Nat:=9223372036854775808
def p52:Nat:=4503599627370496
def isN (x:Nat):Bool:=decide (yC<x % p63)
def key (x:Nat):Int:=if x / p63 % 2=1 then -((x % p63:Nat):Int) else ((x % p63:Nat):Int)
def U (r:Nat):Nat:=if r<p52 then r else (p52+r % p52)*2 ^ (r / p52-1)
theorem qc {r s:Nat} (h:r<s):U r<U s:=by
 unfold U;by_cases h1:s<p52
 ·rw [if_pos (by omega),if_pos h1]; exact h
 ·rw [if_neg h1];have hp:0<2 ^ (s / p52-1):=Nat.two_pow_pos _;have hbase:p52*2 ^ (s / p52-1)≤(p52+s % p52)*2 ^ (s / p52-1):=Nat.mul_le_mul_right _ (by omega);by_cases h2:r<p52
  ·rw [if_pos h2];have:p52*1≤p52*2 ^ (s / p52-1):=Nat.mul_le_mul_left _ hp;omega
  ·rw [if_neg h2];have hle:r / p52≤s / p52:=Nat.div_le_div_right (Nat.le_of_lt h);by_cases he:r / p52=s / p52
   ·rw [he];apply Nat.mul_lt_mul_of_pos_right _ hp;have:=Nat.div_add_mod r p52; have:=Nat.div_add_mod s p52;rw [he] at *; omega
   ·have hr:r % p52<p52:=Nat.mod_lt _ (by decide);have h1r:1≤r / p52:=(Nat.one_le_div_iff (by decide)).2 (by omega);have a1:(p52+r % p52)*2 ^ (r / p52-1)<(p52*2)*2 ^ (r / p52-1):=Nat.mul_lt_mul_of_pos_right (by omega) (Nat.two_pow_pos _)
    have a2:(p52*2)*2 ^ (r / p52-1)≤p52*2 ^ (s / p52-1):=by
     rw [Nat.mul_assoc,← Nat.pow_succ'];exact Nat.mul_le_mul_left _ (Nat.pow_le_pow_right (by decide) (by omega))
    omega
theorem U_lt {r s:Nat}:U r<U s↔r<s:=
 ⟨fun h=>by
  rcases Nat.lt_trichotomy r s with g | g | g
  ·exact g
  ·subst g; omega
  ·have:=qc g; omega,qc⟩
theorem lW {r s:Nat} (h:U r=U s):r=s:=by
 rcases Nat.lt_trichotomy r s with g | g | g
 ·have:=qc g; omega
 ·exact g
 ·have:=qc g; omega
theorem qd:U 0=0:=by decide
def sgd (n:Bool) (m:Nat):Int:=if n then -(m:Int) else m
def neg (x:Nat):Bool:=x / p63 % 2==1
theorem vQ (x:Nat):key x=sgd (neg x) (x % p63):=by
 unfold key sgd neg; by_cases h:x / p63 % 2=1<;>simp [h]
def V (x:Nat):Int:=sgd (neg x) (U (x % p63))
theorem rM (n:Bool) (m k:Nat):Ieee.signed n m k=sgd n (m*2 ^ k):=by
 unfold Ieee.signed sgd; simp only [Nat.shiftLeft_eq]
theorem ni (n:Bool) (m k:Nat):sgd n (m*k)=sgd n m*k:=by
 unfold sgd; cases n<;>simp [Int.neg_mul]
theorem xV {x:Nat} (h:x % p63<yC):∃ m:Nat,∃ p:Int,double.read x=.number (neg x) m p∧-1074≤p∧m*2 ^ (p+1074).toNat=U (x % p63):=by
 unfold Ieee.Format.read;have e1:double.signWeight=p63:=by decide
 have e2:double.binade=p52:=by decide
 have e3:double.infRung=yC:=by decide
 have e4:double.leastPlace=-1074:=by decide
 simp only [e1,e2,e3,e4];by_cases h1:x % p63<p52
 ·exact ⟨x % p63,-1074,by rw [if_pos h1]; rfl,by omega,by simp [U,h1]⟩
 ·refine ⟨p52+x % p63 % p52,-1074+((x % p63 / p52-1:Nat):Int),by rw [if_neg h1,if_pos h]; rfl,by omega,?_⟩;rw [show ((-1074:Int)+((x % p63 / p52-1:Nat):Int)+1074).toNat=x % p63 / p52-1 by omega];simp [U,h1]
theorem vB {x:Nat} (h:x % p63=yC):double.read x=.infinity (neg x):=by
 unfold Ieee.Format.read;have e1:double.signWeight=p63:=by decide
 have e2:double.binade=p52:=by decide
 have e3:double.infRung=yC:=by decide
 simp only [e1,e2,e3,h];rfl
theorem vC {x:Nat} (h:yC<x % p63):double.read x=.nan (neg x) (x % p63-yC):=by
 unfold Ieee.Format.read;have e1:double.signWeight=p63:=by decide
 have e2:double.binade=p52:=by decide
 have e3:double.infRung=yC:=by decide
 simp only [e1,e2,e3];rw [if_neg (by unfold p52; unfold yC at h; omega),if_neg (by omega),if_neg (by omega)];rfl
theorem og {a b c d:Int} (h1:a<b↔c<d) (h2:a=b↔c=d):compare a b=compare c d:=by
 simp only [compare,compareOfLessAndEq,h1,h2]
theorem sz {a b:Int} (h:a<b):compare a b=.lt:=by simp [compare,compareOfLessAndEq,h]
theorem sA {a b:Int} (h:b<a):compare a b=.gt:=by
 simp only [compare,compareOfLessAndEq]; rw [if_neg (by omega),if_neg (by omega)]
theorem oh {a b:Int} (h:a=b):compare a b=.eq:=by
 simp only [compare,compareOfLessAndEq]; rw [if_neg (by omega),if_pos h]
theorem om {n m:Bool} {a b:Nat}:sgd n (U a)<sgd m (U b)↔sgd n a<sgd m b:=by
 have h:=@U_lt a b; have h':=@U_lt b a;have z:∀ r,U r=0↔r=0:=fun r=>⟨fun e=>lW (e.trans qd.symm),fun e=>by rw [e,qd]⟩
 have za:=z a; have zb:=z b;unfold sgd; cases n<;>cases m<;>simp<;>omega
theorem kf {n m:Bool} {a b:Nat}:sgd n (U a)=sgd m (U b)↔sgd n a=sgd m b:=by
 have h:=@om n m a b; have h':=@om m n b a;omega
theorem rN (s t:Bool) (m n:Nat) (i j:Int) (hi:-1074≤i) (hj:-1074≤j) :
  sgd s (m*2 ^ (i+1074).toNat)=Ieee.signed s m (i-min i j).toNat*(2 ^ (min i j+1074).toNat:Nat)∧sgd t (n*2 ^ (j+1074).toNat)=Ieee.signed t n (j-min i j).toNat*(2 ^ (min i j+1074).toNat:Nat):=by
 rw [rM,rM,← ni,← ni,Nat.mul_assoc,Nat.mul_assoc,← Nat.pow_add,← Nat.pow_add];rw [show (i-min i j).toNat+(min i j+1074).toNat=(i+1074).toNat by omega,show (j-min i j).toNat+(min i j+1074).toNat=(j+1074).toNat by omega];exact ⟨rfl,rfl⟩
theorem sB (x y:Nat):double.order x y=if isN x || isN y then none else some (compare (key x) (key y)):=by
 unfold Ieee.Format.order isN;rcases Nat.lt_trichotomy (x % p63) yC with hx | hx | hx<;>rcases Nat.lt_trichotomy (y % p63) yC with hy | hy | hy
 ·obtain ⟨m,i,e1,hi,e2⟩:=xV hx;obtain ⟨n,j,e3,hj,e4⟩:=xV hy;rw [e1,e3,if_neg (by simp; omega)];simp only [Ieee.Datum.order];have hs:=rN (neg x) (neg y) m n i j hi hj;have hp:(0:Int)<(2 ^ (min i j+1074).toNat:Nat):=by have:=Nat.two_pow_pos (min i j+1074).toNat; omega
  congr 1
  rw [vQ,vQ];apply og
  ·rw [← om,← e2,← e4,hs.1,hs.2];exact ⟨fun h=>Int.mul_lt_mul_of_pos_right h hp,fun h=>Int.lt_of_mul_lt_mul_right h (Int.le_of_lt hp)⟩
  ·rw [← kf,← e2,← e4,hs.1,hs.2];exact ⟨fun h=>by rw [h],fun h=>Int.eq_of_mul_eq_mul_right (by omega) h⟩
 ·obtain ⟨m,i,e1,hi,e2⟩:=xV hx;rw [e1,vB hy,if_neg (by simp; omega),vQ,vQ];simp only [Ieee.Datum.order,hy]
  congr 1
  unfold sgd;generalize x % p63=r at *;cases neg y<;>cases neg x<;>simp only [if_true,if_false,Bool.false_eq_true]<;>symm<;>first | exact sz (by omega) | exact sA (by omega)
 ·rw [vC hy,if_pos (by simp; omega)];obtain ⟨m,i,e1,hi,e2⟩:=xV hx;rw [e1]; rfl
 ·obtain ⟨m,i,e1,hi,e2⟩:=xV hy;rw [e1,vB hx,if_neg (by simp; omega),vQ,vQ];simp only [Ieee.Datum.order,hx]
  congr 1
  unfold sgd;generalize y % p63=r at *;cases neg y<;>cases neg x<;>simp only [if_true,if_false,Bool.false_eq_true]<;>symm<;>first | exact sz (by omega) | exact sA (by omega)
 ·rw [vB hx,vB hy,if_neg (by simp; omega),vQ,vQ,hx,hy];cases neg y<;>cases neg x<;>decide
 ·rw [vC hy,if_pos (by simp; omega),vB hx]; rfl
 ·rw [vC hx,if_pos (by simp; omega)]; rfl
 ·rw [vC hx,if_pos (by simp; omega)]; rfl
 ·rw [vC hx,if_pos (by simp; omega)]; rfl
def rne (n d:Nat):Nat:=n / 2 ^ d+(if 2 ^ d<2*(n % 2 ^ d)∨(2 ^ d=2*(n % 2 ^ d)∧n / 2 ^ d % 2=1) then 1 else 0)
theorem wM (n:Nat):n<2 ^ (n.log2+1):=Nat.lt_log2_self
theorem wN {n:Nat} (h:n≠0):2 ^ n.log2≤n:=Nat.log2_self_le h
theorem kg (s:Bool) (n d:Nat):Ieee.Toward.even.cut s n d=rne n d:=by
 have key:∀ g:Nat,(n / g+(decide (g<2*(n % g)) || (g==2*(n % g)&&n / g % 2==1)).toNat)=n / g+(if g<2*(n % g)∨(g=2*(n % g)∧n / g % 2=1) then 1 else 0):=by
  intro g
  have e:(decide (g<2*(n % g)) || (g==2*(n % g)&&n / g % 2==1))=decide (g<2*(n % g)∨(g=2*(n % g)∧n / g % 2=1)):=by
   rw [Bool.eq_iff_iff]; simp
  rw [e];by_cases H:g<2*(n % g)∨(g=2*(n % g)∧n / g % 2=1)
  ·rw [decide_eq_true H,if_pos H]; rfl
  ·rw [decide_eq_false H,if_neg H]; rfl
 have h1:Ieee.Toward.even.cut s n d=(n / (1 <<< min d (n.log2+2))+(decide (1 <<< min d (n.log2+2)<2*(n % (1 <<< min d (n.log2+2)))) || (1 <<< min d (n.log2+2)==2*(n % (1 <<< min d (n.log2+2)))&&n / (1 <<< min d (n.log2+2)) % 2==1)).toNat):=rfl;rw [h1,key,Nat.shiftLeft_eq,Nat.one_mul];unfold rne;by_cases h:d≤n.log2+2
 ·rw [Nat.min_eq_left h]
 ·rw [Nat.min_eq_right (by omega)];have a:=wM n;have e2:2 ^ (n.log2+2)=2*2 ^ (n.log2+1):=by rw [Nat.pow_succ' (n:=n.log2+1)]
  have b:2 ^ (n.log2+2)≤2 ^ d:=Nat.pow_le_pow_right (by decide) (by omega);have c1:n<2 ^ (n.log2+2):=by omega
  have c2:n<2 ^ d:=by omega
  rw [Nat.div_eq_of_lt c1,Nat.div_eq_of_lt c2,Nat.mod_eq_of_lt c1,Nat.mod_eq_of_lt c2,if_neg (by omega),if_neg (by omega)]
theorem wj (n:Nat):rne n 0=n:=by
 unfold rne; simp [Nat.mod_one]
theorem tK (n d k:Nat):rne (n*2 ^ k) (d+k)=rne n d:=by
 unfold rne;have hp:0<2 ^ k:=Nat.two_pow_pos _;rw [Nat.pow_add,Nat.mul_div_mul_right _ _ hp,Nat.mul_mod_mul_right]
 have e1:2 ^ d*2 ^ k<2*(n % 2 ^ d*2 ^ k)↔2 ^ d<2*(n % 2 ^ d):=by
  rw [← Nat.mul_assoc]; exact Nat.mul_lt_mul_right hp
 have e2:2 ^ d*2 ^ k=2*(n % 2 ^ d*2 ^ k)↔2 ^ d=2*(n % 2 ^ d):=by
  rw [← Nat.mul_assoc]; exact Nat.mul_right_cancel_iff hp
 simp only [e1,e2]
theorem kh {m n:Nat} (d:Nat) (h:m≤n):rne m d≤rne n d:=by
 unfold rne;have hp:0<2 ^ d:=Nat.two_pow_pos _;have hq:m / 2 ^ d≤n / 2 ^ d:=Nat.div_le_div_right h;by_cases he:m / 2 ^ d=n / 2 ^ d
 ·have a:=Nat.div_add_mod m (2 ^ d); have b:=Nat.div_add_mod n (2 ^ d);rw [he] at *;split<;>split<;>omega
 ·split<;>split<;>omega
def yo (m:Nat) (p:Int):Nat:=
 if m=0 then 0 else min ((max (p+m.log2-52) (-1074)+1074).toNat*p52+rne (m*2 ^ (p-max (p+m.log2-52) (-1074)).toNat) (max (p+m.log2-52) (-1074)-p).toNat) yC
theorem sC (s:Bool) (m:Nat) (p:Int):double.nearest s m p=double.word s (yo m p):=by
 unfold Ieee.Format.nearest yo;by_cases h:m=0
 ·simp [h]
 ·rw [if_neg h,if_neg h];have e2:double.binade=p52:=by decide
  have e3:double.infRung=yC:=by decide
  have e4:double.leastPlace=-1074:=by decide
  have e5:(double.fractionBits:Int)=52:=by decide
  simp only [e2,e3,e4,e5,kg,Nat.shiftLeft_eq,show ∀ a:Int,a-(-1074)=a+1074 from fun a=>by omega]
theorem sD {m:Nat} (h:m≠0) (k:Nat):(m*2 ^ k).log2=m.log2+k:=by
 have hp:0<2 ^ k:=Nat.two_pow_pos _;have hm:m*2 ^ k≠0:=Nat.mul_ne_zero h (by omega);rw [Nat.log2_eq_iff hm];have a:=wN h; have b:=wM m;constructor
 ·rw [Nat.pow_add]; exact Nat.mul_le_mul_right _ a
 ·rw [show m.log2+k+1=(m.log2+1)+k by omega,Nat.pow_add];exact Nat.mul_lt_mul_of_pos_right b hp
theorem yZ (m:Nat) (p:Int) (k:Nat):yo (m*2 ^ k) (p-k)=yo m p:=by
 unfold yo;by_cases h:m=0
 ·simp [h]
 ·have hp:0<2 ^ k:=Nat.two_pow_pos _;have hm:m*2 ^ k≠0:=Nat.mul_ne_zero h (by omega);rw [if_neg h,if_neg hm,sD h];rw [show p-(k:Int)+((m.log2+k:Nat):Int)-52=p+m.log2-52 by omega];generalize max (p+(m.log2:Int)-52) (-1074)=l
  congr 2
  by_cases h1:l≤p
  ·rw [show (l-p).toNat=0 by omega,wj];by_cases h2:l≤p-k
   ·rw [show (l-(p-k)).toNat=0 by omega,wj,Nat.mul_assoc,← Nat.pow_add,show k+(p - ↑k-l).toNat=(p-l).toNat by omega]
   ·rw [show (p-k-l).toNat=0 by omega,Nat.pow_zero,Nat.mul_one];obtain ⟨j,hj⟩:∃ j:Nat,j=(l-(p-k)).toNat:=⟨_,rfl⟩;rw [← hj,show k=(p-l).toNat+j by omega,Nat.pow_add,← Nat.mul_assoc];have:=tK (m*2 ^ (p-l).toNat) 0 j;rw [Nat.zero_add] at this; rw [this,wj]
  ·rw [show (p-l).toNat=0 by omega,show (p-k-l).toNat=0 by omega,Nat.pow_zero,Nat.mul_one,Nat.mul_one,show (l-(p-k)).toNat=(l-p).toNat+k by omega,tK]
def low (c m:Nat):Nat:=(m.log2-(52+c))*p52+rne m (m.log2-(52+c)+c)
theorem uU {m:Nat} (c:Nat) (h:m≠0):yo m (-1074-c)=min (low c m) yC:=by
 unfold yo low;rw [if_neg h];have e:max (-1074-(c:Int)+m.log2-52) (-1074)=-1074+((m.log2-(52+c):Nat):Int):=by omega
 rw [e]
 rw [show (-1074+((m.log2-(52+c):Nat):Int)+1074).toNat=m.log2-(52+c) by omega,
  show (-1074-(c:Int)-(-1074+((m.log2-(52+c):Nat):Int))).toNat=0 by omega,
  show (-1074+((m.log2-(52+c):Nat):Int)-(-1074-(c:Int))).toNat=m.log2-(52+c)+c by omega,Nat.pow_zero,Nat.mul_one]
theorem oo {n d e:Nat} (h:n<2 ^ (d+e)):rne n d≤2 ^ e:=by
 have h1:n / 2 ^ d<2 ^ e:=by
  rw [Nat.div_lt_iff_lt_mul (Nat.two_pow_pos _),← Nat.pow_add,Nat.add_comm]; exact h
 unfold rne; split<;>omega
theorem oq {n d e:Nat} (h:2 ^ (d+e)≤n):2 ^ e≤rne n d:=by
 have h1:2 ^ e≤n / 2 ^ d:=by
  rw [Nat.le_div_iff_mul_le (Nat.two_pow_pos _),← Nat.pow_add,Nat.add_comm]; exact h
 unfold rne; split<;>omega
theorem rm {m n:Nat} (hm:m≠0) (h:m≤n):m.log2≤n.log2:=by
 have a:=wN hm; have b:=wM n;have c:2 ^ m.log2<2 ^ (n.log2+1):=by omega
 have:=(Nat.pow_lt_pow_iff_right (a:=2) (by decide)).1 c;omega
theorem ki {m n:Nat} (c:Nat) (hm:m≠0) (h:m≤n):low c m≤low c n:=by
 have hl:=rm hm h;unfold low;by_cases he:m.log2-(52+c)=n.log2-(52+c)
 ·rw [he]; exact Nat.add_le_add_left (kh _ h) _
 ·have a:rne m (m.log2-(52+c)+c)≤2 ^ 53:=oo (Nat.lt_of_lt_of_le (wM m) (Nat.pow_le_pow_right (by decide) (by omega)));have b:2 ^ 52≤rne n (n.log2-(52+c)+c):=oq (Nat.le_trans (Nat.pow_le_pow_right (by decide) (by omega)) (wN (by omega:n≠0)));have e1:(2:Nat) ^ 53=2*p52:=by decide
  have e2:(2:Nat) ^ 52=p52:=by decide
  rw [e1] at a; rw [e2] at b;have:(m.log2-(52+c)+1)*p52≤(n.log2-(52+c))*p52:=Nat.mul_le_mul_right _ (by omega);rw [Nat.add_mul] at this;omega
theorem tV {m n:Nat} (p:Int) (h:m≤n):yo m p≤yo n p:=by
 by_cases hm:m=0
 ·subst hm; simp [yo]
 ·obtain ⟨c,k,hc⟩:∃ c k:Nat,p-k=-1074-c:=⟨(p+1074).toNat-(p+1074).toNat+(-1074-p).toNat,(p+1074).toNat,by omega⟩;rw [← yZ m p k,← yZ n p k,hc,uU c (Nat.mul_ne_zero hm (by have:=Nat.two_pow_pos k; omega)),uU c (Nat.mul_ne_zero (by omega) (by have:=Nat.two_pow_pos k; omega))];have:=ki c (Nat.mul_ne_zero hm (by have:=Nat.two_pow_pos k; omega)) (Nat.mul_le_mul_right (2 ^ k) h);omega
theorem uI (m:Nat) (p:Int):yo m p≤yC:=by
 unfold yo; split
 ·decide
 ·omega
theorem mq {m:Nat} {p:Int} (hm:m<2 ^ 53) (hp:-1074≤p) (hf:yo m p<yC):U (yo m p)=m*2 ^ (p+1074).toNat:=by
 by_cases h:m=0
 ·subst h; simp [yo,qd]
 ·have hl:m.log2≤52:=by
   have a:=wN h;have:2 ^ m.log2<2 ^ 53:=by omega
   have:=(Nat.pow_lt_pow_iff_right (a:=2) (by decide)).1 this;omega
  unfold yo at hf ⊢;rw [if_neg h] at hf ⊢;have a:=wN h; have b:=wM m;by_cases h1:p+(m.log2:Int)-52≤-1074
  ·rw [show max (p+(m.log2:Int)-52) (-1074)=-1074 by omega] at hf ⊢;rw [show ((-1074:Int)+1074).toNat=0 by rfl,Nat.zero_mul,Nat.zero_add,show (p - -1074).toNat=(p+1074).toNat by omega,show (-1074-p).toNat=0 by omega,wj] at hf ⊢
   have c:m*2 ^ (p+1074).toNat<2 ^ 53:=by
    refine Nat.lt_of_lt_of_le (Nat.mul_lt_mul_of_pos_right b (Nat.two_pow_pos _)) ?_;rw [← Nat.pow_add]; exact Nat.pow_le_pow_right (by decide) (by omega)
   rw [Nat.min_eq_left (by omega)];generalize m*2 ^ (p+1074).toNat=t at *;unfold U;by_cases g:t<p52
   ·rw [if_pos g]
   ·rw [if_neg g];have e1:(2:Nat) ^ 53=2*p52:=by decide
    have d1:t / p52=1:=by
     apply Nat.div_eq_of_lt_le<;>omega
    have d2:=Nat.div_add_mod t p52;rw [d1] at d2 ⊢;simp only [Nat.sub_self,Nat.pow_zero,Nat.mul_one] at d2 ⊢;exact d2
  ·rw [show max (p+(m.log2:Int)-52) (-1074)=p+m.log2-52 by omega] at hf ⊢;rw [show (p+(m.log2:Int)-52-p).toNat=0 by omega,wj,show (p-(p+(m.log2:Int)-52)).toNat=52-m.log2 by omega] at hf ⊢;obtain ⟨E,hE⟩:∃ E:Nat,E=(p+m.log2-52+1074).toNat:=⟨_,rfl⟩;rw [← hE] at hf ⊢;rw [Nat.min_eq_left (by omega)]
   have k1:p52≤m*2 ^ (52-m.log2):=by
    have:2 ^ m.log2*2 ^ (52-m.log2)≤m*2 ^ (52-m.log2):=Nat.mul_le_mul_right _ a;rw [← Nat.pow_add,show m.log2+(52-m.log2)=52 by omega] at this;exact this
   have k2:m*2 ^ (52-m.log2)<2*p52:=by
    have:m*2 ^ (52-m.log2)<2 ^ (m.log2+1)*2 ^ (52-m.log2):=Nat.mul_lt_mul_of_pos_right b (Nat.two_pow_pos _);rw [← Nat.pow_add,show m.log2+1+(52-m.log2)=53 by omega] at this;exact this
   rw [show (p+1074).toNat=(52-m.log2)+E by omega,Nat.pow_add,← Nat.mul_assoc];generalize m*2 ^ (52-m.log2)=t at *
   have d1:(E*p52+t) / p52=E+1:=by
    apply Nat.div_eq_of_lt_le
    ·rw [Nat.add_mul]; omega
    ·rw [Nat.add_mul,Nat.add_mul]; omega
   have d2:=Nat.div_add_mod (E*p52+t) p52;unfold U;rw [if_neg (by omega),d1,show E+1-1=E by omega]
   congr 1
   rw [d1,Nat.mul_add,Nat.mul_comm p52 E] at d2;omega
theorem qJ {r:Nat} (h:r≤yC):yo (U r) (-1074)=r:=by
 by_cases h0:r=0
 ·subst h0; rfl
 have hU:U r≠0:=fun e=>h0 (lW (e.trans qd.symm))
 have e:=uU 0 hU;rw [show (-1074-((0:Nat):Int))=-1074 by rfl] at e;rw [e]
 suffices H:low 0 (U r)=r by rw [H]; omega
 unfold low U;by_cases h1:r<p52
 ·rw [if_pos h1];have:r.log2<52:=(Nat.log2_lt h0).2 h1;rw [show r.log2-(52+0)=0 by omega,Nat.zero_mul,Nat.zero_add,wj]
 ·rw [if_neg h1];have hr:r % p52<p52:=Nat.mod_lt _ (by decide);have h1r:1≤r / p52:=(Nat.one_le_div_iff (by decide)).2 (by omega)
  have l0:(p52+r % p52).log2=52:=by
   rw [Nat.log2_eq_iff (by have:0<p52:=(by decide); omega)];have e1:(2:Nat) ^ 52=p52:=by decide
   have e2:(2:Nat) ^ (52+1)=2*p52:=by decide
   rw [e1,e2]; omega
  rw [sD (by have:0<p52:=(by decide); omega),l0,show 52+(r / p52-1)-(52+0)=r / p52-1 by omega];have:=tK (p52+r % p52) 0 (r / p52-1);rw [Nat.zero_add] at this;rw [Nat.add_zero,this,wj];have d:=Nat.div_add_mod r p52
  have:(r / p52-1)*p52+p52=p52*(r / p52):=by
   rw [← Nat.succ_mul,Nat.mul_comm]; congr 1; omega
  omega
theorem ux (s:Bool) (r:Nat):double.word s r=if s then p63+r else r:=by
 have e1:double.signWeight=p63:=by decide
 unfold Ieee.Format.word; rw [e1]
theorem wo (s:Bool) {r:Nat} (h:r≤yC):double.word s r % p63=r:=by
 rw [ux]; unfold yC at h; unfold p63; split<;>omega
theorem ue (s:Bool) {r:Nat} (h:r≤yC):neg (double.word s r)=s:=by
 rw [ux]; unfold yC at h; unfold neg p63;cases s
 ·rw [if_neg (by decide),show r / 9223372036854775808=0 by omega]; rfl
 ·rw [if_pos rfl,show (9223372036854775808+r) / 9223372036854775808=1 by omega]; rfl
theorem sq (s:Bool) {r:Nat} (h:r≤yC):double.word s r<18446744073709551616:=by
 rw [ux]; unfold yC at h; unfold p63; split<;>omega
theorem mr (s:Bool) {r:Nat} (h:r≤yC):isN (double.word s r)=false:=by
 unfold isN; rw [wo s h]; simp; omega
theorem rO {x:Nat} (h:x<18446744073709551616):double.word (neg x) (x % p63)=x:=by
 rw [ux]; unfold neg p63;by_cases g:x / 9223372036854775808 % 2=1
 ·rw [if_pos (by simpa using g)]; omega
 ·rw [if_neg (by simpa using g)]; omega
theorem kj (s:Bool) {r:Nat} (h:r≤yC):V (double.word s r)=sgd s (U r):=by
 unfold V; rw [wo s h,ue s h]
theorem lB {x y:Nat} (hx:x % p63<yC) (hy:y % p63<yC) :
  double.add x y=some (double.word (if V x+V y=0 then neg x&&neg y else decide (V x+V y<0)) (yo (V x+V y).natAbs (-1074))):=by
 obtain ⟨m,i,e1,hi,e2⟩:=xV hx;obtain ⟨n,j,e3,hj,e4⟩:=xV hy;unfold Ieee.Format.add;rw [e1,e3];simp only [Ieee.Datum.sum,Option.map_some,Ieee.Format.write,sC];have hs:=rN (neg x) (neg y) m n i j hi hj;rw [e2,e4] at hs
 have hV:V x+V y=(Ieee.signed (neg x) m (i-min i j).toNat+Ieee.signed (neg y) n (j-min i j).toNat)*(2 ^ (min i j+1074).toNat:Nat):=by
  unfold V; rw [hs.1,hs.2,Int.add_mul]
 generalize Ieee.signed (neg x) m (i-min i j).toNat+Ieee.signed (neg y) n (j-min i j).toNat=T at *;have hp:0<2 ^ (min i j+1074).toNat:=Nat.two_pow_pos _
 have z1:V x+V y=0↔T=0:=by
  rw [hV]; constructor
  ·intro h; rcases Int.mul_eq_zero.1 h with g | g
   ·exact g
   ·omega
  ·intro h; rw [h,Int.zero_mul]
 have z2:V x+V y<0↔T<0:=by
  rw [hV]; constructor
  ·intro h; rcases Int.lt_or_le T 0 with g | g
   ·exact g
   ·have:=Int.mul_nonneg g (show (0:Int)≤(2 ^ (min i j+1074).toNat:Nat) by omega); omega
  ·intro h; exact Int.mul_neg_of_neg_of_pos h (by omega)
 have r:=yZ T.natAbs (min i j) (min i j+1074).toNat;rw [show min i j-((min i j+1074).toNat:Int)=-1074 by omega] at r;have hn:(V x+V y).natAbs=T.natAbs*2 ^ (min i j+1074).toNat:=by rw [hV,Int.natAbs_mul,Int.natAbs_natCast]
 rw [hn,r];simp only [z1,z2]
theorem ro (y:Nat) (hf:y % p63<yC):(double.read y).opposite=double.read (double.word (!neg y) (y % p63)):=by
 have hw:=wo (!neg y) (Nat.le_of_lt hf);have hn:(double.word (!neg y) (y % p63) / p63 % 2==1)=!neg y:=ue (!neg y) (Nat.le_of_lt hf);unfold Ieee.Format.read;have e1:double.signWeight=p63:=by decide
 have e2:double.binade=p52:=by decide
 have e3:double.infRung=yC:=by decide
 simp only [e1,e2,e3,hw,hn];by_cases h1:y % p63<p52
 ·rw [if_pos h1,if_pos h1]; rfl
 ·rw [if_neg h1,if_neg h1,if_pos hf,if_pos hf]; rfl
theorem lC {x y:Nat} (hx:x % p63<yC) (hy:y % p63<yC) :
  double.sub x y=some (double.word (if V x-V y=0 then neg x&&!neg y else decide (V x-V y<0)) (yo (V x-V y).natAbs (-1074))):=by
 have h:=lB (x:=x) (y:=double.word (!neg y) (y % p63)) hx (by rw [wo _ (Nat.le_of_lt hy)]; exact hy)
 have e:double.sub x y=double.add x (double.word (!neg y) (y % p63)):=by
  unfold Ieee.Format.sub Ieee.Format.add; rw [ro y hy]
 have v:V (double.word (!neg y) (y % p63))=- V y:=by
  rw [kj _ (Nat.le_of_lt hy)]; unfold V sgd; cases neg y<;>simp
 rw [e,h,v,ue _ (Nat.le_of_lt hy)];rfl
theorem qe {x y:Nat} (hx:x % p63<yC) (hy:y % p63<yC) :
  double.mul x y=some (double.word (neg x ^^ neg y) (yo (U (x % p63)*U (y % p63)) (-2148))):=by
 obtain ⟨m,i,e1,hi,e2⟩:=xV hx;obtain ⟨n,j,e3,hj,e4⟩:=xV hy;unfold Ieee.Format.mul;rw [e1,e3];simp only [Ieee.Datum.product,Option.map_some,Ieee.Format.write,sC];have r:=yZ (m*n) (i+j) ((i+1074).toNat+(j+1074).toNat);rw [show i+j-(((i+1074).toNat+(j+1074).toNat:Nat):Int)=-2148 by omega,Nat.pow_add] at r
 rw [← e2,← e4,← r,show m*n*(2 ^ (i+1074).toNat*2 ^ (j+1074).toNat)=m*2 ^ (i+1074).toNat*(n*2 ^ (j+1074).toNat) by
  simp only [Nat.mul_assoc,Nat.mul_left_comm]]
def qK:Nat:=9221120237041090561
def zk (x:Nat):Nat:=if isN x then qK else x
theorem wd {x:Nat} (h:isN x=false):zk x=x:=by unfold zk; rw [h]; rfl
theorem yN (x:Nat):isN (zk x)=isN x:=by
 unfold zk; split
 ·rename_i h; rw [h]; decide
 ·rfl
theorem qL (x:Nat):zk (zk x)=zk x:=by
 by_cases h:isN x=true
 ·have:zk x=qK:=by unfold zk; rw [if_pos h]
  rw [this]; decide
 ·have e:=wd (x:=x) (by simpa using h);rw [e,e]
theorem qM {x:Nat} (h:x<18446744073709551616):zk x<18446744073709551616:=by
 unfold zk qK; split<;>omega
theorem tW (x y:Nat):double.order (zk x) (zk y)=double.order x y:=by
 rw [sB,sB,yN,yN];by_cases hx:isN x
 ·simp [hx]
 ·by_cases hy:isN y
  ·simp [hy]
  ·rw [wd (by simpa using hx),wd (by simpa using hy)]
def cop (op:BinOp) (x y:Nat):Nat:=match floatBits op .f64 x y with | some r=>zk r | none=>qK
def zZ (op:BinOp) (w:World) (x y:Nat):Nat:=match floatBits op .f64 x y with | some r=>r | none=>(Question.nanBits .f64 x y).cut (w.tape w.drawn (.nanBits .f64 x y))
def zP (op:BinOp) (x y:Nat):Nat:=if (floatBits op .f64 x y).isSome then 0 else 1
theorem nj (x y t:Nat):isN ((Question.nanBits .f64 x y).cut t)=true∧(Question.nanBits .f64 x y).cut t<18446744073709551616:=by
 have e:(Question.nanBits .f64 x y).cut t=(t % 2)*9223372036854775808+9218868437227405312+1+(t / 2) % 4503599627370495:=by
  show (t % 2)*2 ^ 63+0x7ff0000000000000+1+(t / 2) % (2 ^ 52-1)=_;rfl
 rw [e];have h1:t % 2<2:=Nat.mod_lt _ (by decide);have h2:(t / 2) % 4503599627370495<4503599627370495:=Nat.mod_lt _ (by decide);generalize (t / 2) % 4503599627370495=b at *;generalize t % 2=a at *;unfold isN p63 yC;constructor
 ·simp only [decide_eq_true_eq];have:a=0∨a=1:=by omega
  rcases this with rfl | rfl<;>omega
 ·omega
theorem z9 (op:BinOp) (w:World) (x y:Nat):zk (zZ op w x y)=cop op x y:=by
 unfold zZ cop
 cases floatBits op .f64 x y with
 | some r=>rfl
 | none=>simp only []; unfold zk; rw [(nj x y _).1]; rfl
theorem yi (op:BinOp) (w:World) (x y:Nat):zZ op w x y<18446744073709551616:=by
 unfold zZ
 cases h:floatBits op .f64 x y with
 | some r=>
  have:=floatBits_wf h
  simpa [Lit.wf] using this
 | none=>exact (nj x y _).2
theorem uy {op:BinOp} {x y r:Nat} (h:floatBits op .f64 x y=some r) (w:World):zZ op w x y=r:=by unfold zZ; rw [h]
theorem vR {op:BinOp} {x y r:Nat} (h:floatBits op .f64 x y=some r):zP op x y=0:=by unfold zP; rw [h]; rfl
theorem sr (P:Program) (w:World) (op:BinOp) (hop:op=.add∨op=.sub∨op=.mul∨op=.quo) (t:TypeId) (x y:Nat) :
  (binOp op t (.float .f64 x) (.float .f64 y)).run P w=.ok (.float .f64 (zZ op w x y)) (w.drewN (zP op x y)):=by
 cases h:floatBits op .f64 x y with
 | some r=>rw [run_float_arith w op t .f64 x y r h,uy h,vR h]; rfl
 | none=>
  have e1:zP op x y=1:=by unfold zP; rw [h]; rfl
  have e2:zZ op w x y=(Question.nanBits .f64 x y).cut (w.tape w.drawn (.nanBits .f64 x y)):=by unfold zZ; rw [h]
  rw [e1,e2];unfold floatBits at h;rcases hop with rfl | rfl | rfl | rfl<;>simp only at h<;>simp [binOp,Op.floatArith,h,Question.forced]<;>rfl
theorem zH (P:Program) (w:World) (t:TypeId) (x y:Nat):(binOp .add t (.float .f64 x) (.float .f64 y)).run P w=.ok (.float .f64 (zZ .add w x y)) (w.drewN (zP .add x y)):=sr P w _ (by simp) t x y
theorem zI (P:Program) (w:World) (t:TypeId) (x y:Nat):(binOp .sub t (.float .f64 x) (.float .f64 y)).run P w=.ok (.float .f64 (zZ .sub w x y)) (w.drewN (zP .sub x y)):=sr P w _ (by simp) t x y
theorem zJ (P:Program) (w:World) (t:TypeId) (x y:Nat):(binOp .mul t (.float .f64 x) (.float .f64 y)).run P w=.ok (.float .f64 (zZ .mul w x y)) (w.drewN (zP .mul x y)):=sr P w _ (by simp) t x y
theorem zK (P:Program) (w:World) (t:TypeId) (x y:Nat):(binOp .quo t (.float .f64 x) (.float .f64 y)).run P w=.ok (.float .f64 (zZ .quo w x y)) (w.drewN (zP .quo x y)):=sr P w _ (by simp) t x y
def ltB (x y:Nat):Bool:=!isN x&&!isN y&&decide (key x<key y)
def eqB (x y:Nat):Bool:=!isN x&&!isN y&&decide (key x=key y)
def leB (x y:Nat):Bool:=!isN x&&!isN y&&decide (key x≤key y)
theorem nJ {a b:Int}:(compare a b==.lt)=decide (a<b):=by
 rcases Int.lt_trichotomy a b with h | h | h
 ·rw [sz h,decide_eq_true h]; rfl
 ·rw [oh h,decide_eq_false (by omega)]; rfl
 ·rw [sA h,decide_eq_false (by omega)]; rfl
theorem nK {a b:Int}:(compare a b==.gt)=decide (b<a):=by
 rcases Int.lt_trichotomy a b with h | h | h
 ·rw [sz h,decide_eq_false (by omega)]; rfl
 ·rw [oh h,decide_eq_false (by omega)]; rfl
 ·rw [sA h,decide_eq_true h]; rfl
theorem nL {a b:Int}:(compare a b==.eq)=decide (a=b):=by
 rcases Int.lt_trichotomy a b with h | h | h
 ·rw [sz h,decide_eq_false (by omega)]; rfl
 ·rw [oh h,decide_eq_true h]; rfl
 ·rw [sA h,decide_eq_false (by omega)]; rfl
theorem qf (x y:Nat) (o:Ordering):(FloatKind.f64.format.order x y==some o)=(!isN x&&!isN y&&(compare (key x) (key y)==o)):=by
 show (double.order x y==some o)=_;rw [sB];cases isN x<;>cases isN y<;>simp
theorem zU (x y:Nat):(FloatKind.f64.format.order x y==some .lt)=ltB x y:=by rw [qf,nJ]; rfl
theorem zS (x y:Nat):(FloatKind.f64.format.order x y==some .eq)=eqB x y:=by rw [qf,nL]; rfl
theorem zW (x y:Nat):(FloatKind.f64.format.order x y==some .gt)=ltB y x:=by
 rw [qf,nK]; unfold ltB; cases isN x<;>cases isN y<;>rfl
theorem zX (x y:Nat):(FloatKind.f64.format.order x y != some .eq)=!eqB x y:=by rw [← zS]; rfl
theorem zV (x y:Nat):(ltB x y || eqB x y)=leB x y:=by
 unfold ltB eqB leB;cases isN x<;>cases isN y<;>simp
 rw [Bool.eq_iff_iff]; simp; omega
theorem zY (x y:Nat):(ltB y x || eqB x y)=leB y x:=by
 unfold ltB eqB leB;cases isN x<;>cases isN y<;>simp
 rw [Bool.eq_iff_iff]; simp; omega
theorem zD (x:Nat):eqB x x=!isN x:=by unfold eqB; simp
theorem tL (x y:Nat):ltB (zk x) (zk y)=ltB x y:=by rw [← zU,← zU]; show (double.order _ _==_)=_; rw [tW]; rfl
theorem wJ (x y:Nat):eqB (zk x) (zk y)=eqB x y:=by rw [← zS,← zS]; show (double.order _ _==_)=_; rw [tW]; rfl
theorem uz {x:Nat} (h:x % p63≤yC):isN x=false:=by unfold isN; simpa using h
def yR (x:Nat) (k:Int):Nat:=if x % p63=0∨yC≤x % p63 then x else double.word (neg x) (yo (U (x % p63)) (k-1074))
theorem nM {f:Nat} (hf:f<p52):(p52+f).log2=52:=by
 rw [Nat.log2_eq_iff (by have:0<p52:=(by decide); omega)];have e1:(2:Nat) ^ 52=p52:=by decide
 have e2:(2:Nat) ^ (52+1)=2*p52:=by decide
 rw [e1,e2]; omega
theorem mt {n d:Nat} (h:2*n<2 ^ d):rne n d=0:=by
 unfold rne;rw [Nat.div_eq_of_lt (by omega),Nat.mod_eq_of_lt (by omega),if_neg (by omega)]
theorem lD {E f:Nat} (hE:1≤E) (hf:f<p52) (k e:Int) (he:e=k+E-1023) :
  (e < -1075→yo ((p52+f)*2 ^ (E-1)) (k-1074)=0) ∧
  (1023<e→yo ((p52+f)*2 ^ (E-1)) (k-1074)=yC) ∧
  (-1022≤e→e≤1023→yo ((p52+f)*2 ^ (E-1)) (k-1074)=(e+1023).toNat*p52+f) ∧
  yo ((p52+f)*2 ^ (E-1)) (k-1074)=yo (p52+f) (e-52):=by
 have h0:yo ((p52+f)*2 ^ (E-1)) (k-1074)=yo (p52+f) (e-52):=by
  have:=yZ (p52+f) (e-52) (E-1);rw [show e-52-((E-1:Nat):Int)=k-1074 by omega] at this;exact this
 have hl:=nM hf;have hp:p52+f≠0:=by have:0<p52:=(by decide); omega
 have hi:yC=2047*p52:=by decide
 have mid:-1023<e→yo (p52+f) (e-52)=min ((e+1022).toNat*p52+(p52+f)) yC:=by
  intro h;unfold yo;rw [if_neg hp,hl];have m1:max (e-52+((52:Nat):Int)-52) (-1074)=e-52:=by omega
  rw [m1];have m2:(e-52-(e-52)).toNat=0:=by omega
  rw [m2,Nat.pow_zero,Nat.mul_one,wj];have m3:(e-52+1074).toNat=(e+1022).toNat:=by omega
  rw [m3]
 refine ⟨fun h=>?_,fun h=>?_,fun h1 h2=>?_,h0⟩
 ·rw [h0]; unfold yo;rw [if_neg hp,hl];rw [show max (e-52+((52:Nat):Int)-52) (-1074)=-1074 by omega,show (e-52 - -1074).toNat=0 by omega,Nat.pow_zero,Nat.mul_one,mt]
  ·simp
  ·have:2 ^ 54≤2 ^ (-1074-(e-52)).toNat:=Nat.pow_le_pow_right (by decide) (by omega);have:(2:Nat) ^ 54=4*p52:=by decide
   omega
 ·rw [h0,mid (by omega)];have h3:2046*p52≤(e+1022).toNat*p52:=Nat.mul_le_mul_right _ (by omega);generalize (e+1022).toNat*p52=a at *;clear hl h0 mid;generalize p52=P at *;omega
 ·rw [h0,mid (by omega)]
  have h3:(e+1022).toNat*p52+p52=(e+1023).toNat*p52:=by
   rw [← Nat.succ_mul]; congr 1; omega
  have h4:(e+1023).toNat*p52≤2046*p52:=Nat.mul_le_mul_right _ (by omega);generalize (e+1022).toNat*p52=a at *;generalize (e+1023).toNat*p52=b at *;clear hl h0 mid;generalize p52=P at *;omega
theorem te {r:Nat} (h1:p52≤r) (h2:r<yC):1≤r / p52∧r / p52≤2046∧r % p52<p52∧r=r / p52*p52+r % p52∧U r=(p52+r % p52)*2 ^ (r / p52-1):=by
 have hi:yC=2047*p52:=by decide
 have a:r / p52<2047:=by rw [Nat.div_lt_iff_lt_mul (by decide)]; omega
 refine ⟨(Nat.one_le_div_iff (by decide)).2 h1,by omega,Nat.mod_lt _ (by decide),?_,?_⟩
 ·have:=Nat.div_add_mod r p52; rw [Nat.mul_comm] at this; exact this.symm
 ·unfold U; rw [if_neg (by omega)]
theorem qg {r a b:Nat} (h:p52≤r) (h1:r / p52-1=a) (h2:p52+r % p52=2 ^ b):U r=2 ^ (b+a):=by
 unfold U; rw [if_neg (by omega),h1,h2,← Nat.pow_add]
theorem qN {x:Nat} (h0:x % p63≠0) (h:x % p63<p52):double.mul x 4841369599423283200=some (double.word (neg x) (yo (x % p63) (-1022))) ∧
  p52≤yo (x % p63) (-1022)∧yo (x % p63) (-1022)<yC∧U (yo (x % p63) (-1022))=x % p63*2 ^ 52:=by
 have hlt:x % p63<yC:=by unfold p52 at h; unfold yC; omega
 have hU:U (x % p63)=x % p63:=by unfold U; rw [if_pos h]
 obtain ⟨K,hK,hc⟩:∃ K,K=1074∧U (4841369599423283200 % p63)=2 ^ (52+K):=by
  obtain ⟨K,hK⟩:∃ K,K=4841369599423283200 % p63 / p52-1:=⟨_,rfl⟩;have h1:p52+4841369599423283200 % p63 % p52=2 ^ 52:=by decide
  exact ⟨K,by rw [hK]; decide,qg (by decide) hK.symm h1⟩
 have e:=qe hlt (show 4841369599423283200 % p63<yC by decide);rw [hU,hc,show (-2148:Int)=-1022-((52+K:Nat):Int) by omega,yZ,show (neg x ^^ neg 4841369599423283200)=neg x by cases neg x<;>decide] at e
 have l1:p52≤yo (x % p63) (-1022):=by
  have a:=tV (-1022) (show 1≤x % p63 by omega);exact Nat.le_trans (by decide +kernel) a
 have l2:yo (x % p63) (-1022)<yC:=by
  have a:=tV (-1022) (Nat.le_of_lt h);exact Nat.lt_of_le_of_lt a (by decide +kernel)
 refine ⟨e,l1,l2,?_⟩;have:=mq (m:=x % p63) (p:=-1022) (by unfold p52 at h; omega) (by decide) l2;exact this
theorem mu {x:Nat} (h:isN x=true):yC<x % p63:=by unfold isN at h; simpa using h
theorem qO {x:Nat} (h:isN x=true):∃ s t,double.read x=.nan s t:=⟨_,_,vC (mu h)⟩
theorem uf (op:BinOp) {x:Nat} (y:Nat) (h:isN x=true):floatBits op .f64 x y=none:=by
 obtain ⟨s,t,e⟩:=qO h;unfold floatBits;cases op<;>simp only [FloatKind.format,Ieee.Format.add,Ieee.Format.sub,Ieee.Format.mul,Ieee.Format.div,e]<;>cases double.read y<;>rfl
theorem tf (op:BinOp) (x:Nat) {y:Nat} (h:isN y=true):floatBits op .f64 x y=none:=by
 obtain ⟨s,t,e⟩:=qO h;unfold floatBits;cases op<;>simp only [FloatKind.format,Ieee.Format.add,Ieee.Format.sub,Ieee.Format.mul,Ieee.Format.div,e]<;>cases double.read x<;>rfl
theorem zE (op:BinOp) (x y:Nat):cop op (zk x) y=cop op x y:=by
 by_cases h:isN x=true
 ·unfold cop; rw [uf op y h,uf op y ((yN x).trans h)]
 ·rw [wd (by simpa using h)]
theorem zC (op:BinOp) (x y:Nat):cop op x (zk y)=cop op x y:=by
 by_cases h:isN y=true
 ·unfold cop; rw [tf op x h,tf op x ((yN y).trans h)]
 ·rw [wd (by simpa using h)]
theorem wK (op:BinOp) (x y:Nat):zk (cop op x y)=cop op x y:=by
 unfold cop
 cases floatBits op .f64 x y with
 | some r=>exact qL r
 | none=>decide
theorem cc {x a b:Nat} {op:BinOp} (h:zk x=cop op a b):zk x=zk (cop op a b):=h.trans (wK _ _ _).symm
theorem mv {op:BinOp} {x y r:Nat} (h:floatBits op .f64 x y=some r):cop op x y=zk r:=by unfold cop; rw [h]
theorem sE (op:BinOp) (x y:Nat):cop op x y<18446744073709551616:=by
 unfold cop
 cases h:floatBits op .f64 x y with
 | some r=>
  have:=floatBits_wf h;exact qM (by simpa [Lit.wf] using this)
 | none=>decide
theorem rp {x:Nat}:eqB (cop .sub x x) 0=decide (x % p63<yC):=by
 by_cases h:x % p63<yC
 ·have e:=lC h h;rw [Int.sub_self] at e;rw [mv (op:=.sub) (r:=_) e,decide_eq_true h];cases neg x<;>decide
 ·rw [decide_eq_false h]
  have e:floatBits .sub .f64 x x=none:=by
   by_cases g:x % p63=yC
   ·unfold floatBits;simp only [FloatKind.format,Ieee.Format.sub];rw [vB g];cases neg x<;>rfl
   ·exact uf _ _ (by unfold isN; rw [decide_eq_true_eq]; omega)
  unfold cop; rw [e]; decide
def Is (a:Nat) (m:Int) (k:Int):Prop:=a<18446744073709551616∧a % p63<yC∧-1074≤k∧V a=m*(2 ^ (k+1074).toNat:Nat)
theorem Is.fin {a:Nat} {m k:Int} (h:Is a m k):a % p63<yC:=h.2.1
theorem Is.num {a:Nat} {m k:Int} (h:Is a m k):isN a=false:=uz (Nat.le_of_lt h.2.1)
theorem Is.lt {a:Nat} {m k:Int} (h:Is a m k):a<18446744073709551616:=h.1
end Go.Proofs.YtnlbafjmbamoeaaGreat
namespace Go.Proofs.YtnlbafjmbamoeaaGreat
open Go.RowKit Lib
theorem zy (n:Nat) (w:World):(callFunc 98 #[.float .f64 n]).run Tryz.prog w=.ok (.value (.int .u64 n)) w:=by
 rw [run_callFunc_extern (e:=Extern.MathFloatBits.float64bits) Tryz.func98 (by kernel_rfl) (by kernel_rfl) (by kernel_rfl) (by kernel_rfl)];rfl
theorem zn (n:Int) (w:World):(callFunc 97 #[.int .u64 n]).run Tryz.prog w=.ok (.value (.float .f64 n.toNat)) w:=by
 rw [run_callFunc_extern (e:=Extern.MathFloatBits.float64frombits) Tryz.func97 (by kernel_rfl) (by kernel_rfl) (by kernel_rfl) (by kernel_rfl)];rfl
theorem zr (w:World) (n:Nat) (o:Obj):(w.drewN n).alloc o=(w.alloc o).drewN n:=rfl
theorem zi (w:World) (n:Nat) (a:Addr) (v:Value):(w.drewN n).setCell a v=(w.setCell a v).drewN n:=rfl
attribute [local go_sem] zr zi zy zn zU zS zW zX zV zY zD
theorem ss {k:IntKind} {a b:Int} (h:a=b):Ending.returned (.int k a)=.returned (.int k b):=by rw [h]
theorem uA {a b:Nat} (h:a=b):Ending.returned (.float .f64 a)=.returned (.float .f64 b):=by rw [h]
theorem yX {a b:Bool} (h:a=b):Ending.returned (.bool a)=.returned (.bool b):=by rw [h]
theorem tg {a n:Int} (h1:1≤n):(a.tmod n<0→a.tmod n+n=a % n)∧(0≤a.tmod n→a.tmod n=a % n):=by
 have h2:=Int.emod_nonneg a (show n≠0 by omega);have h3:=Int.emod_lt_of_pos a (show 0<n by omega)
 have h4:a.tmod n=if 0≤a∨n ∣ a then a % n else a % n-n:=by
  rw [Int.tmod_eq_emod]; split<;>simp; rw [Int.natAbs_of_nonneg (by omega)]
 rw [h4]; split<;>constructor<;>intro h<;>omega
theorem qh (w:World):Calls Tryz.prog 81 #[.int .i64 1] w fun e w'=>e=.returned (.float .f64 9218868437227405312)∧w=w':=by
 go_enter Tryz.func81,Tryz.ntmps81
 go_wp2
 go_ret;exact ⟨rfl,rfl⟩
theorem lE (w:World):Calls Tryz.prog 81 #[.int .i64 (-1)] w fun e w'=>e=.returned (.float .f64 18442240474082181120)∧w=w':=by
 go_enter Tryz.func81,Tryz.ntmps81
 go_wp2
 go_ret;exact ⟨rfl,rfl⟩
theorem we (x:Nat) (w:World):Calls Tryz.prog 146 #[.float .f64 x] w fun e w'=>e=.returned (.bool (isN x))∧w=w':=by
 go_enter Tryz.func146,Tryz.ntmps146
 go_wp2
 go_ret;simp
theorem mw {x:Nat} (hx:x<18446744073709551616):(bits .andNot .u64 (x:Int) 9223372036854775808).toNat=x % 9223372036854775808:=by
 have h:=u64_andNot_nat x 9223372036854775808 hx (by decide);have e:((9223372036854775808:Nat):Int)=9223372036854775808:=rfl;rw [← e,h,Int.toNat_natCast];exact Nat.and_two_pow_sub_one_eq_mod x 63
theorem ti (x:Nat) (w:World) (hx:x<18446744073709551616):Calls Tryz.prog 60 #[.float .f64 x] w fun e w'=>e=.returned (.float .f64 (x % 9223372036854775808))∧w=w':=by
 go_enter Tryz.func60,Tryz.ntmps60
 go_wp2
 go_ret;exact ⟨uA (mw hx),rfl⟩
theorem rq {x y:Nat} (hx:x<18446744073709551616) (hy:y<18446744073709551616) :
  (bits .or .u64 (bits .andNot .u64 (x:Int) 9223372036854775808) (bits .and .u64 (y:Int) 9223372036854775808)).toNat=Ieee.double.word (neg y) (x % 9223372036854775808):=by
 have h1:=u64_andNot_nat x 9223372036854775808 hx (by decide);have h2:=u64_and_nat y 9223372036854775808 hy (by decide);have e:((9223372036854775808:Nat):Int)=9223372036854775808:=rfl;have ex:x &&& (18446744073709551615-9223372036854775808)=x % 9223372036854775808:=Nat.and_two_pow_sub_one_eq_mod x 63;have hm:x % 9223372036854775808<9223372036854775808:=Nat.mod_lt _ (by decide)
 have ey:y &&& 9223372036854775808=if neg y then 9223372036854775808 else 0:=by
  have ht:neg y=y.testBit 63:=by
   unfold neg p63; rw [Nat.testBit_eq_decide_div_mod_eq]; rfl
  rw [show (9223372036854775808:Nat)=2 ^ 63 from rfl,ht];apply Nat.eq_of_testBit_eq;intro i;rw [Nat.testBit_and,Nat.testBit_two_pow];by_cases hi:63=i
  ·subst hi;cases hb:y.testBit 63
   ·simp
   ·simp only [if_true,Nat.testBit_two_pow]; simp
  ·cases hb:y.testBit 63
   ·simp [hi]
   ·simp only [if_true,Nat.testBit_two_pow]; simp [hi]
 rw [← e,h1,h2,ex,ey,ux];cases neg y
 ·simp only [Bool.false_eq_true,if_false];rw [u64_or_nat _ _ (by omega) (by decide),Int.toNat_natCast,Nat.or_zero]
 ·simp only [if_true];rw [u64_or_nat _ _ (by omega) (by decide),Int.toNat_natCast];have:=Nat.two_pow_add_eq_or_of_lt (i:=63) hm 1;rw [Nat.or_comm]; unfold p63
  simpa using this.symm
theorem qi (x y:Nat) (w:World) (hx:x<18446744073709551616) (hy:y<18446744073709551616):Calls Tryz.prog 148 #[.float .f64 x,.float .f64 y] w fun e w'=>e=.returned (.float .f64 (Ieee.double.word (neg y) (x % 9223372036854775808)))∧w=w':=by
 go_enter Tryz.func148,Tryz.ntmps148
 go_wp2
 go_ret;exact ⟨uA (rq hx hy),rfl⟩
end Go.Proofs.YtnlbafjmbamoeaaGreat
namespace Go.Proofs.YtnlbafjmbamoeaaGreat
open Go.RowKit Lib
attribute [local go_sem] zr zi zy zn zU zS zW zX zV zY zD zH zI zJ zK
theorem yc {B:Nat} {a w:World} (h:Below B a w) (n:Nat):Below B a (w.drewN n):=⟨h.os,h.tape,h.output,h.size,h.block⟩
def qP (a b:Nat):Bool:=eqB a b || (isN a&&isN b)
theorem mx (a b:Nat) (w:World):Calls Tryz.prog 49 #[.float .f64 a,.float .f64 b] w fun e w'=>e=.returned (.bool (qP a b))∧w=w':=by
 go_enter Tryz.func49,Tryz.ntmps49
 go_wp2
 all_goals (go_ret; exact ⟨yX (by unfold qP; simp_all),rfl⟩)
end Go.Proofs.YtnlbafjmbamoeaaGreat
namespace Go.Proofs.YtnlbafjmbamoeaaGreat
open Go.RowKit Lib
open Ieee (double)
attribute [local go_sem] zr zi zy zn zU zS zW zX zV zY zD zH zI zJ zK
def xf (v:Value) (w:World) (e:Ending) (w':World):Prop:=e=.returned v∧Below w.heap.size w w'
theorem xf.eq {v u:Value} {w w':World} {e:Ending} (h:xf v w e w') (hv:v=u):xf u w e w':=hv ▸ h
def xi (x:Nat):Bool:=decide (x % p63<yC)
theorem qQ (w:World) (a:Nat):eqB (zZ .sub w a a) 0=xi a:=by
 unfold xi;rw [← rp,← wJ,z9,show zk 0=0 from rfl]
theorem rr (a:Nat) (w:World):Calls Tryz.prog 130 #[.float .f64 a] w (xf (.bool (xi a)) w):=by
 have hz:=fun w=>qQ w a
 have H:=hid hz;clear hz;go_enter Tryz.func130,Tryz.ntmps130
 go_wp2
 go_ret;exact ⟨yX (H.out _),yc (Below.refl _ _) _⟩
theorem vS (a:Nat) (w:World):Calls Tryz.prog 111 #[.float .f64 a] w (xf (.bool (xi a)) w):=by
 go_enter Tryz.func111,Tryz.ntmps111;go_wp2_with fail;refine (rr a _).mono ?_;rintro e w' ⟨rfl,hb⟩;go_wp2_with fail;go_ret;exact ⟨rfl,hb⟩
theorem zB (P:Program) (w:World) (a:Addr) (m:Mode) (b:Nat):(store a (.float .f64 b) m).run P w=stored P w a (.float .f64 b) m:=run_store P w a _ m rfl
theorem zA {W w1:World} (hb:Below W.heap.size W w1):(∀ b o,b<W.heap.size→w1.cell? ⟨b,o,none⟩=W.cell? ⟨b,o,none⟩)∧(∀ b o,b<W.heap.size→w1.frozen? ⟨b,o,none⟩=W.frozen? ⟨b,o,none⟩):=
 ⟨fun b o h=>hb.cell (p:=⟨b,o,none⟩) h,fun b o h=>hb.frozen (p:=⟨b,o,none⟩) h⟩
def wq (w:World) (b o c:Nat):Prop:=∃ y,w.cell? ⟨b,o,none⟩=some (.float .f64 y)∧zk y=c∧y<18446744073709551616
theorem wq.same {w w':World} {b o c:Nat} (h:wq w b o c) (hc:w'.cell? ⟨b,o,none⟩=w.cell? ⟨b,o,none⟩):wq w' b o c:=by
 obtain ⟨y,h1,h2,h3⟩:=h;exact ⟨y,hc.trans h1,h2,h3⟩
def yd (w:World) (base R n cap:Nat) (f:Nat→Nat):Prop:=
 ∃ rs,w.ownsRow base 31 1 (.slice (some ⟨R,0,none⟩) n cap) n rs∧∀ j,j<n→∃ y,rs[j]? = some (.float .f64 y)∧zk y=f j∧y<18446744073709551616
theorem yd.cell {w:World} {base R n cap:Nat} {f:Nat→Nat} (h:yd w base R n cap f) {j:Nat} (hj:j<n):wq w R j (f j):=by
 obtain ⟨rs,h1,h2⟩:=h;obtain ⟨y,y1,y2,y3⟩:=h2 j hj;exact ⟨y,(h1.cellAt j (by omega)).trans y1,y2,y3⟩
theorem yd.free {w:World} {base R n cap:Nat} {f:Nat→Nat} (h:yd w base R n cap f) (j:Nat):w.frozen? ⟨R,j,none⟩=false:=by
 obtain ⟨rs,h1,-⟩:=h;exact h1.frozenAt j
theorem yd.lt {w:World} {base R n cap:Nat} {f:Nat→Nat} (h:yd w base R n cap f):base≤R∧R<w.heap.size:=by
 obtain ⟨rs,h1,-⟩:=h;exact h1.lt R rfl
theorem yd.kept {w w':World} {base R n cap:Nat} {f:Nat→Nat} (h:yd w base R n cap f) (hb:w'.heap[R]? = w.heap[R]?):yd w' base R n cap f:=by
 obtain ⟨rs,⟨h1,h2⟩,h3⟩:=h;refine ⟨rs,⟨h1,?_⟩,h3⟩;rcases h2 with ⟨h2,-⟩ | ⟨g,c,cur,hv,hg,hh,r⟩
 ·cases h2
 ·simp only [Value.slice.injEq,Option.some.injEq,Addr.mk.injEq] at hv;obtain ⟨⟨rfl,-⟩,-,rfl⟩:=hv;exact .inr ⟨_,_,cur,rfl,hg,hb.trans hh,r⟩
theorem yd.below {w w':World} {base R n cap:Nat} {f:Nat→Nat} (h:yd w base R n cap f) {B:Nat} (hb:Below B w w') (hB:R<B):yd w' base R n cap f:=h.kept (hb.block R hB)
theorem yd.base {w:World} {base b' R n cap:Nat} {f:Nat→Nat} (h:yd w base R n cap f) (hb:b'≤R):yd w b' R n cap f:=by
 obtain ⟨rs,⟨h1,h2⟩,h3⟩:=h;refine ⟨rs,⟨h1,?_⟩,h3⟩;rcases h2 with ⟨h2,-⟩ | ⟨g,c,cur,hv,hg,r⟩
 ·cases h2
 ·simp only [Value.slice.injEq,Option.some.injEq,Addr.mk.injEq] at hv;obtain ⟨⟨rfl,-⟩,-,rfl⟩:=hv;exact .inr ⟨_,_,cur,rfl,hb,r⟩
theorem yd.congr {w:World} {base R n cap:Nat} {f g:Nat→Nat} (h:yd w base R n cap f) (e:∀ j,j<n→f j=g j):yd w base R n cap g:=by
 obtain ⟨rs,h1,h2⟩:=h;refine ⟨rs,h1,fun j hj=>?_⟩;rw [← e j hj];exact h2 j hj
def yy {α:Type} (f:Nat→α) (j:Nat) (c:α):Nat→α:=fun i=>if i=j then c else f i
theorem zL {α:Type} (f:Nat→α) (j:Nat) (c:α):yy f j c j=c:=if_pos rfl
theorem zG {α:Type} (f:Nat→α) {i j:Nat} (c:α) (h:i≠j):yy f j c i=f i:=if_neg h
theorem yd.set {w:World} {base R n cap:Nat} {f:Nat→Nat} (h:yd w base R n cap f) {j y c:Nat} (hj:j<n) (h1:zk y=c) (h2:y<18446744073709551616):yd (w.setCell ⟨R,j,none⟩ (.float .f64 y)) base R n cap (yy f j c):=by
 obtain ⟨rs,g1,g2⟩:=h;have hl:=g1.1;refine ⟨rs.set j (.float .f64 y),(g1.stored j _).1,fun i hi=>?_⟩;by_cases e:i=j
 ·subst e;exact ⟨y,by rw [List.getElem?_set_self (by omega)],by rw [zL]; exact h1,h2⟩
 ·obtain ⟨z,z1,z2,z3⟩:=g2 i hi;exact ⟨z,by rw [List.getElem?_set_ne (Ne.symm e)]; exact z1,by rw [zG _ _ e]; exact z2,z3⟩
theorem yd.other {w:World} {base R n cap:Nat} {f:Nat→Nat} (h:yd w base R n cap f) {B o:Nat} (hne:B≠R) (v:Value):yd (w.setCell ⟨B,o,none⟩ v) base R n cap f:=
 h.kept (Below.heap_setCell _ _ _ _ (fun e=>hne (by simpa using e.symm)))
def zT (w:World) (v:Value) (n:Nat) (f:Nat→Nat):Prop:=
 ∃ a cap,v=.slice a n cap∧n≤9223372036854775807∧(0<n→∃ b off,a=some ⟨b,off,none⟩∧b<w.heap.size∧∀ i,i<n→wq w b (off+i) (f i))
theorem zT.below {w w':World} {v:Value} {n:Nat} {f:Nat→Nat} (h:zT w v n f) (hb:Below w.heap.size w w'):zT w' v n f:=by
 obtain ⟨a,cap,h1,h2,h3⟩:=h;refine ⟨a,cap,h1,h2,fun hl=>?_⟩;obtain ⟨b,off,e,hs,hc⟩:=h3 hl;exact ⟨b,off,e,Nat.lt_of_lt_of_le hs hb.size,fun i hi=>(hc i hi).same ((zA hb).1 _ _ hs)⟩
theorem zT.congr {w:World} {v:Value} {n:Nat} {f g:Nat→Nat} (h:zT w v n f) (e:∀ j,j<n→f j=g j):zT w v n g:=by
 obtain ⟨a,cap,h1,h2,h3⟩:=h;refine ⟨a,cap,h1,h2,fun hl=>?_⟩;obtain ⟨b,off,e',hs,hc⟩:=h3 hl;exact ⟨b,off,e',hs,fun i hi=>e i hi ▸ hc i hi⟩
theorem yd.flts {w:World} {base R n cap:Nat} {f:Nat→Nat} (h:yd w base R n cap f) (hn:n≤9223372036854775807):zT w (.slice (some ⟨R,0,none⟩) n cap) n f:=
 ⟨_,cap,rfl,hn,fun _=>⟨R,0,rfl,h.lt.2,fun i hi=>by rw [Nat.zero_add]; exact h.cell hi⟩⟩
def yB (w:World) (v:Value) (n:Nat) (m:Nat→Nat) (f:Nat→Nat→Nat):Prop:=
 ∃ a cap,v=.slice a n cap∧n≤9223372036854775807∧(0<n→∃ b off,a=some ⟨b,off,none⟩∧b<w.heap.size∧∀ i,i<n→∃ u,w.cell? ⟨b,off+i,none⟩=some u∧zT w u (m i) (f i))
theorem yB.below {w w':World} {v:Value} {n:Nat} {m:Nat→Nat} {f:Nat→Nat→Nat} (h:yB w v n m f) (hb:Below w.heap.size w w'):yB w' v n m f:=by
 obtain ⟨a,cap,h1,h2,h3⟩:=h;refine ⟨a,cap,h1,h2,fun hl=>?_⟩;obtain ⟨b,off,e,hs,hc⟩:=h3 hl;refine ⟨b,off,e,Nat.lt_of_lt_of_le hs hb.size,fun i hi=>?_⟩;obtain ⟨u,u1,u2⟩:=hc i hi;exact ⟨u,((zA hb).1 _ _ hs).trans u1,u2.below hb⟩
structure yD (w:World) (base G n m:Nat) (blk cap:Nat→Nat) (f:Nat→Nat→Nat):Prop where
 ref:∀ i,i<n→w.cell? ⟨G,i,none⟩=some (.slice (some ⟨blk i,0,none⟩) m (cap i))
 free:∀ i,i<n→w.frozen? ⟨G,i,none⟩=false
 row:∀ i,i<n→yd w base (blk i) m (cap i) (f i)
 inj:∀ i j,i<n→j<n→blk i=blk j→i=j
 off:∀ i,i<n→blk i≠G
 lo:base≤G
 hi:G<w.heap.size
theorem yD.below {w w':World} {base G n m:Nat} {blk cap:Nat→Nat} {f:Nat→Nat→Nat} (h:yD w base G n m blk cap f) (hb:Below w.heap.size w w'):yD w' base G n m blk cap f:=
 ⟨fun i hi=>((zA hb).1 _ _ h.hi).trans (h.ref i hi),fun i hi=>((zA hb).2 _ _ h.hi).trans (h.free i hi),fun i hi=>(h.row i hi).below hb (h.row i hi).lt.2,h.inj,h.off,h.lo,Nat.lt_of_lt_of_le h.hi hb.size⟩
theorem yD.congr {w:World} {base G n m:Nat} {blk cap:Nat→Nat} {f g:Nat→Nat→Nat} (h:yD w base G n m blk cap f) (e:∀ i j,i<n→j<m→f i j=g i j):yD w base G n m blk cap g:=
 ⟨h.ref,h.free,fun i hi=>(h.row i hi).congr (fun j hj=>e i j hi hj),h.inj,h.off,h.lo,h.hi⟩
theorem yD.base {w:World} {base b' G n m:Nat} {blk cap:Nat→Nat} {f:Nat→Nat→Nat} (h:yD w base G n m blk cap f) (hb:b'≤base):yD w b' G n m blk cap f:=
 ⟨h.ref,h.free,fun i hi=>(h.row i hi).base (Nat.le_trans hb (h.row i hi).lt.1),h.inj,h.off,Nat.le_trans hb h.lo,h.hi⟩
theorem yD.tab {w:World} {base G n m c:Nat} {blk cap:Nat→Nat} {f:Nat→Nat→Nat} (h:yD w base G n m blk cap f) (hn:n≤9223372036854775807) (hm:m≤9223372036854775807):yB w (.slice (some ⟨G,0,none⟩) n c) n (fun _=>m) f:=
 ⟨_,c,rfl,hn,fun _=>⟨G,0,rfl,h.hi,fun i hi=>⟨_,by rw [Nat.zero_add]; exact h.ref i hi,(h.row i hi).flts hm⟩⟩⟩
def xR (f:Nat→Nat→Nat) (i j c:Nat):Nat→Nat→Nat:=yy f i (yy (f i) j c)
theorem sF (f:Nat→Nat→Nat) (i j c:Nat):xR f i j c i j=c:=by unfold xR; rw [zL,zL]
theorem sG (f:Nat→Nat→Nat) {i j a b:Nat} (c:Nat) (h:a≠i∨b≠j):xR f i j c a b=f a b:=by
 unfold xR;by_cases e:a=i
 ·subst e;rw [zL,zG _ _ (h.resolve_left (fun g=>g rfl))]
 ·rw [zG _ _ e]
theorem yD.set {w:World} {base G n m:Nat} {blk cap:Nat→Nat} {f:Nat→Nat→Nat} (h:yD w base G n m blk cap f) {i j y c:Nat} (hi:i<n) (hj:j<m) (h1:zk y=c) (h2:y<18446744073709551616):yD (w.setCell ⟨blk i,j,none⟩ (.float .f64 y)) base G n m blk cap (xR f i j c):=by
 have hG:(w.setCell ⟨blk i,j,none⟩ (.float .f64 y)).heap[G]? = w.heap[G]?:=Below.heap_setCell _ _ _ _ (fun e=>h.off i hi e.symm);refine ⟨fun k hk=>(World.cell?_of_block (a:=⟨G,k,none⟩) hG).trans (h.ref k hk),fun k hk=>(World.frozen?_of_block (a:=⟨G,k,none⟩) hG).trans (h.free k hk),fun k hk=>?_,h.inj,h.off,h.lo,by simp [World.setCell]; exact h.hi⟩;by_cases e:k=i
 ·subst e;unfold xR;rw [zL];exact (h.row k hk).set hj h1 h2
 ·unfold xR;rw [zG _ _ e];exact (h.row k hk).other (fun g=>e (h.inj k i hk hi g.symm)) _
theorem yD.setOther {w:World} {base G n m:Nat} {blk cap:Nat→Nat} {f:Nat→Nat→Nat} (h:yD w base G n m blk cap f) {B o:Nat} (h1:B≠G) (h2:∀ i,i<n→B≠blk i) (v:Value):yD (w.setCell ⟨B,o,none⟩ v) base G n m blk cap f:=by
 have hG:(w.setCell ⟨B,o,none⟩ v).heap[G]? = w.heap[G]?:=Below.heap_setCell _ _ _ _ (fun e=>h1 e.symm);exact ⟨fun k hk=>(World.cell?_of_block (a:=⟨G,k,none⟩) hG).trans (h.ref k hk),fun k hk=>(World.frozen?_of_block (a:=⟨G,k,none⟩) hG).trans (h.free k hk),fun k hk=>(h.row k hk).other (h2 k hk) _,h.inj,h.off,h.lo,by simp [World.setCell]; exact h.hi⟩
end Go.Proofs.YtnlbafjmbamoeaaGreat
namespace Go.Proofs.YtnlbafjmbamoeaaGreat
open Go.RowKit Lib
open Ieee (double)
theorem xu:(Tryz.prog.info? 31).map (fun i=>(i.zero,i.size,i.bytes))=some (some (.float .f64 0),1,8):=by kernel_rfl
theorem my:(Tryz.prog.info? 30).map (fun i=>(i.zero,i.size,i.bytes))=some (some (.slice none 0 0),1,24):=by kernel_rfl
theorem tj:(Tryz.prog.info? 3).map (fun i=>(i.zero,i.size,i.bytes))=some (some (.int .i64 0),1,8):=by kernel_rfl
theorem vE {w:World} {b off n:Nat} {f:Nat→Nat} (h:∀ i,i<n→wq w b (off+i) (f i)):∃ ys:List Value,ys.length=n∧(∀ j,j<n→∃ y,ys[j]? = some (.float .f64 y)∧zk y=f j∧y<18446744073709551616)∧(∀ j v,ys[j]? = some v→w.cell? ⟨b,off+j,none⟩=some v)∧∀ v ∈ ys,v.oneCell'=true:=by
 have key:∀ j,j<n→∃ y,w.cell? ⟨b,off+j,none⟩=some (.float .f64 y)∧zk y=f j∧y<18446744073709551616:=fun j hj=>h j hj
 have get:∀ j,j<n→((List.range n).map fun j=>(w.cell? ⟨b,off+j,none⟩).getD (.int .i64 0))[j]? = w.cell? ⟨b,off+j,none⟩:=fun j hj=>by
  obtain ⟨y,y1,-⟩:=key j hj;rw [List.getElem?_map,List.getElem?_range hj,y1];simp [y1]
 refine ⟨(List.range n).map fun j=>(w.cell? ⟨b,off+j,none⟩).getD (.int .i64 0),by simp,fun j hj=>?_,fun j v hv=>?_,fun v hv=>?_⟩
 ·obtain ⟨y,y1,y2,y3⟩:=key j hj;exact ⟨y,(get j hj).trans y1,y2,y3⟩
 ·have hj:j<n:=by
   have:=(List.getElem?_eq_some_iff.1 hv).1
   simpa using this
  exact (get j hj).symm.trans hv
 ·obtain ⟨j,hj⟩:=List.getElem?_of_mem hv
  have hl:j<n:=by
   have:=(List.getElem?_eq_some_iff.1 hj).1
   simpa using this
  obtain ⟨y,y1,-⟩:=key j hl;rw [get j hl,y1] at hj;cases hj
  rfl
theorem ot {α:Type} (c:α) (j:Nat):yy (fun _=>c) j c=fun _=>c:=by
 funext i
 unfold yy;split<;>rfl
theorem qj {w:World} {base R n:Nat} {f:Nat→Nat} {cur cs:List Value} (hb:base≤R) (hm:n≤maxLen) (hc:cur.length=n) (hl:cs.length=n) (hh:w.heap[R]? = some (.cells (splice cur 0 cs).toArray 31 (0,0)))
  (hs:∀ j,j<n→∃ y,cs[j]? = some (.float .f64 y)∧zk y=f j∧y<18446744073709551616):yd w base R n n f:=by
 have e:splice cur 0 cs=cs:=by unfold splice; simp [hl,← hc]
 rw [e] at hh;exact ⟨cs,⟨by rw [hl,Nat.mul_one],.inr ⟨R,n,cs.toArray,rfl,hb,hh,Nat.le_refl _,hm,by simp [hl],by simp [← hl]⟩⟩,hs⟩
structure xS (w:World) (base G n j m:Nat) (blk cap:Nat→Nat) (f:Nat→Nat→Nat):Prop where
 own:∃ rs,w.ownsRow base 30 1 (.slice (some ⟨G,0,none⟩) n n) n rs∧∀ i,i<j→rs[i]? = some (.slice (some ⟨blk i,0,none⟩) m (cap i))
 row:∀ i,i<j→yd w base (blk i) m (cap i) (f i)
 inj:∀ i k,i<j→k<j→blk i=blk k→i=k
 off:∀ i,i<j→blk i≠G
theorem xS.lt {w:World} {base G n j m:Nat} {blk cap:Nat→Nat} {f:Nat→Nat→Nat} (h:xS w base G n j m blk cap f):base≤G∧G<w.heap.size:=by
 obtain ⟨⟨rs,h1,-⟩,-⟩:=h;exact h1.lt G rfl
theorem xS.grid {w:World} {base G n m:Nat} {blk cap:Nat→Nat} {f:Nat→Nat→Nat} (h:xS w base G n n m blk cap f):yD w base G n m blk cap f:=by
 have hl:=h.lt;obtain ⟨⟨rs,h1,h2⟩,h3,h4,h5⟩:=h;exact ⟨fun i hi=>(h1.cellAt i (by omega)).trans (h2 i hi),fun i _=>h1.frozenAt i,h3,h4,h5,hl.1,hl.2⟩
theorem yQ {w w':World} {base R n cap:Nat} {E:TypeId} {rs:List Value} (h:w.ownsRow base E 1 (.slice (some ⟨R,0,none⟩) n cap) n rs) (hb:w'.heap[R]? = w.heap[R]?):w'.ownsRow base E 1 (.slice (some ⟨R,0,none⟩) n cap) n rs:=by
 obtain ⟨h1,h2⟩:=h;refine ⟨h1,?_⟩;rcases h2 with ⟨h2,-⟩ | ⟨g,c,cur,hv,hg,hh,r⟩
 ·cases h2
 ·simp only [Value.slice.injEq,Option.some.injEq,Addr.mk.injEq] at hv;obtain ⟨⟨rfl,-⟩,-,rfl⟩:=hv;exact .inr ⟨_,_,cur,rfl,hg,hb.trans hh,r⟩
theorem xS.head {w:World} {base G n j m:Nat} {blk cap:Nat→Nat} {f:Nat→Nat→Nat} (h:xS w base G n j m blk cap f) {i:Nat} (hi:i<n):(∃ u,w.cell? ⟨G,i,none⟩=some u)∧w.frozen? ⟨G,i,none⟩=false:=by
 obtain ⟨⟨rs,h1,-⟩,-⟩:=h;have hl:=h1.1;exact ⟨⟨_,(h1.cellAt i (by omega)).trans (List.getElem?_eq_getElem (by omega))⟩,h1.frozenAt i⟩
theorem yd.heap {w:World} {base R n cap:Nat} {f:Nat→Nat} (h:yd w base R n cap f):∃ cur:List Value,w.heap[R]? = some (.cells cur.toArray 31 (0,0))∧cur.length=cap∧n≤cap:=by
 obtain ⟨rs,⟨h1,h2⟩,-⟩:=h;rcases h2 with ⟨h2,-⟩ | ⟨g,c,cur,hv,hg,hh,hn,hm,hs,-⟩
 ·cases h2
 ·simp only [Value.slice.injEq,Option.some.injEq,Addr.mk.injEq] at hv;obtain ⟨⟨rfl,-⟩,-,rfl⟩:=hv;exact ⟨cur.toList,by simpa using hh,by simpa using hs,hn⟩
theorem xS.below {w w':World} {base G n j m:Nat} {blk cap:Nat→Nat} {f:Nat→Nat→Nat} (h:xS w base G n j m blk cap f) {B:Nat} (hb:Below B w w') (hG:G<B) (hB:∀ i,i<j→blk i<B):xS w' base G n j m blk cap f:=by
 obtain ⟨⟨rs,h1,h2⟩,h3,h4,h5⟩:=h;exact ⟨⟨rs,yQ h1 (hb.block G hG),h2⟩,fun i hi=>(h3 i hi).below hb (hB i hi),h4,h5⟩
theorem xS.next {w:World} {base G n j m R c:Nat} {blk cap:Nat→Nat} {f:Nat→Nat→Nat} {g:Nat→Nat} (h:xS w base G n j m blk cap f) (hj:j<n) (ho:yd w base R m c g) (hR:R≠G) (hn:∀ i,i<j→blk i≠R) :
  xS (w.setCell ⟨G,j,none⟩ (.slice (some ⟨R,0,none⟩) m c)) base G n (j+1) m (yy blk j R) (yy cap j c) (yy f j g):=by
 obtain ⟨⟨rs,h1,h2⟩,h3,h4,h5⟩:=h;have hl:=h1.1;refine ⟨⟨rs.set j (.slice (some ⟨R,0,none⟩) m c),(h1.stored j _).1,fun i hi=>?_⟩,fun i hi=>?_,fun i k hi hk=>?_,fun i hi=>?_⟩
 ·by_cases e:i=j
  ·subst e; rw [List.getElem?_set_self (by omega),zL,zL]
  ·rw [List.getElem?_set_ne (Ne.symm e),zG _ _ e,zG _ _ e]; exact h2 i (by omega)
 ·by_cases e:i=j
  ·subst e; rw [zL,zL,zL]; exact ho.other (Ne.symm hR) _
  ·rw [zG _ _ e,zG _ _ e,zG _ _ e]; exact (h3 i (by omega)).other (fun q=>h5 i (by omega) q.symm) _
 ·by_cases e1:i=j
  ·subst e1;by_cases e2:k=i
   ·exact fun _=>e2.symm
   ·rw [zL,zG _ _ e2]; exact fun q=>absurd q.symm (hn k (by omega))
  ·by_cases e2:k=j
   ·subst e2; rw [zL,zG _ _ e1]; exact fun q=>absurd q (hn i (by omega))
   ·rw [zG _ _ e1,zG _ _ e2]; exact h4 i k (by omega) (by omega)
 ·by_cases e:i=j
  ·subst e; rw [zL]; exact hR
  ·rw [zG _ _ e]; exact h5 i (by omega)
theorem xS.fill {w w':World} {base G n j m k:Nat} {blk cap:Nat→Nat} {f:Nat→Nat→Nat} {g:Nat→Nat} (h:xS w base G n j m blk cap f) (hk:k<j) (hG:w'.heap[G]? = w.heap[G]?) (hw:∀ i,i<j→i≠k→w'.heap[blk i]? = w.heap[blk i]?) (ho:yd w' base (blk k) m (cap k) g):xS w' base G n j m blk cap (yy f k g):=by
 obtain ⟨⟨rs,h1,h2⟩,h3,h4,h5⟩:=h;refine ⟨⟨rs,yQ h1 hG,h2⟩,fun i hi=>?_,h4,h5⟩;by_cases e:i=k
 ·subst e; rw [zL]; exact ho
 ·rw [zG _ _ e]; exact (h3 i hi).kept (hw i hi e)
theorem xS.congr {w:World} {base G n j m:Nat} {blk cap:Nat→Nat} {f g:Nat→Nat→Nat} (h:xS w base G n j m blk cap f) (e:∀ i k,i<j→k<m→f i k=g i k):xS w base G n j m blk cap g:=
 ⟨h.own,fun i hi=>(h.row i hi).congr (fun k hk=>e i k hi hk),h.inj,h.off⟩
theorem yI {w:World} {base R n:Nat} (h:w.ownsRow base 31 1 (.slice (some ⟨R,0,none⟩) n n) n (madeCells #[Value.float .f64 0] n).toList):yd w base R n n fun _=>0:=by
 refine ⟨_,h,fun j hj=>⟨0,?_,rfl,by decide⟩⟩;have e:(madeCells #[Value.float .f64 0] n).toList=List.replicate n (.float .f64 0):=toList_madeCells_one _ _;rw [e,List.getElem?_replicate,if_pos hj]
end Go.Proofs.YtnlbafjmbamoeaaGreat
namespace Go.Proofs.YtnlbafjmbamoeaaGreat
open Lib
open Ieee (double)
def ab (x:Nat):Nat:=x % p63
theorem tM (x:Nat):isN (ab x)=isN x:=by unfold isN ab; rw [Nat.mod_mod]
theorem vF (x:Nat):zk x=x∨isN x=true:=by
 unfold zk;by_cases h:isN x=true
 ·exact .inr h
 ·rw [if_neg h]; exact .inl rfl
theorem su {x y:Nat} (h:isN x=true∨isN y=true):ltB x y=false:=by
 unfold ltB;rcases h with h | h<;>simp [h]
theorem mz {x y a b:Nat} (hx:zk x=a) (hy:zk y=b):ltB (ab x) (ab y)=ltB (ab a) (ab b):=by
 subst hx hy;rcases vF x with h | h
 ·rcases vF y with g | g
  ·rw [h,g]
  ·rw [su (.inr (by rw [tM]; exact g)),su (.inr (by rw [tM,yN]; exact g))]
 ·rw [su (.inl (by rw [tM]; exact h)),su (.inl (by rw [tM,yN]; exact h))]
def xH (f:Nat→Nat→Nat) (k:Nat):Nat→Nat
 | 0=>k
 | m+1=>if ltB (ab (f (xH f k m) k)) (ab (f (k+1+m) k)) then k+1+m else xH f k m
theorem tn (f:Nat→Nat→Nat) (k:Nat):∀ m,k≤xH f k m∧xH f k m≤k+m
 | 0=>⟨Nat.le_refl _,Nat.le_refl _⟩
 | m+1=>by
  have:=tn f k m;unfold xH;split<;>omega
def swp {α:Type} (f:Nat→α) (p k:Nat):Nat→α:=yy (yy f p (f k)) k (f p)
theorem lF {α:Type} (f:Nat→α) (p k:Nat):swp f p k k=f p:=zL _ _ _
theorem lG {α:Type} (f:Nat→α) (p k:Nat):swp f p k p=f k:=by
 unfold swp;by_cases e:p=k
 ·subst e; rw [zL]
 ·rw [zG _ _ e,zL]
theorem km {α:Type} (f:Nat→α) {p k i:Nat} (h1:i≠p) (h2:i≠k):swp f p k i=f i:=by unfold swp; rw [zG _ _ h2,zG _ _ h1]
def clR (f:Nat→Nat→Nat) (k i m:Nat):Nat→Nat:=fun j=>
 if j=k then cop .quo (f i k) (f k k) else if k<j∧j<m then cop .sub (f i j) (cop .mul (cop .quo (f i k) (f k k)) (f k j)) else f i j
def clF (f:Nat→Nat→Nat) (k n i:Nat):Nat→Nat→Nat:=fun a=>if k<a∧a<i then clR f k a n else f a
def dvB (c:Nat):Bool:=!eqB c 0&&xi c
def yU (f:Nat→Nat→Nat) (n:Nat):Nat→Option ((Nat→Nat→Nat) × (Nat→Nat))
 | 0=>some (f,fun i=>i)
 | k+1=>match yU f n k with
  | none=>none
  | some (g,q)=>let p:=xH g k (n-1-k)
   if dvB (g p k) then some (clF (swp g p k) k n n,swp q p k) else none
def xJ (r x:Nat→Nat) (b:Nat):Nat→Nat
 | 0=>b
 | j+1=>cop .sub (xJ r x b j) (cop .mul (r j) (x j))
theorem ug {r s x y:Nat→Nat} {b:Nat}:∀ {m:Nat},(∀ j,j<m→r j=s j∧x j=y j)→xJ r x b m=xJ s y b m
 | 0,_=>rfl
 | m+1,h=>by unfold xJ; rw [ug fun j hj=>h j (by omega),(h m (by omega)).1,(h m (by omega)).2]
def fwL (f:Nat→Nat→Nat) (b:Nat→Nat):Nat→List Nat
 | 0=>[]
 | i+1=>fwL f b i ++ [xJ (f i) (fun j=>(fwL f b i).getD j 0) (b i) i]
def fwF (f:Nat→Nat→Nat) (b:Nat→Nat) (i:Nat):Nat:=xJ (f i) (fun j=>(fwL f b i).getD j 0) (b i) i
theorem nk (f:Nat→Nat→Nat) (b:Nat→Nat):∀ i,(fwL f b i).length=i
 | 0=>rfl
 | i+1=>by rw [fwL,List.length_append,nk f b i]; rfl
theorem nm (f:Nat→Nat→Nat) (b:Nat→Nat) {j:Nat}:∀ {i:Nat},j<i→(fwL f b i).getD j 0=fwF f b j
 | i+1,h=>by
  have hl:=nk f b i;rw [fwL];by_cases e:j=i
  ·subst e;unfold fwF;simp [List.getD,hl]
  ·have:∀ y,(fwL f b i ++ [y]).getD j 0=(fwL f b i).getD j 0:=fun y=>by simp [List.getD,List.getElem?_append_left (show j<(fwL f b i).length by omega)]
   rw [this];exact nm f b (by omega)
theorem mA (f:Nat→Nat→Nat) (b:Nat→Nat) (i:Nat):fwF f b i=xJ (f i) (fwF f b) (b i) i:=by
 unfold fwF;exact ug fun j hj=>⟨rfl,nm f b hj⟩
def bkL (f:Nat→Nat→Nat) (n:Nat) (b:Nat→Nat):Nat→List Nat
 | 0=>[]
 | d+1=>bkL f n b d ++ [cop .quo (xJ (fun j=>f (n-1-d) (n-d+j)) (fun j=>(bkL f n b d).getD (d-1-j) 0) (b (n-1-d)) d) (f (n-1-d) (n-1-d))]
def bkF (f:Nat→Nat→Nat) (n:Nat) (b:Nat→Nat) (i:Nat):Nat:=(bkL f n b n).getD (n-1-i) 0
theorem qk (f:Nat→Nat→Nat) (n:Nat) (b:Nat→Nat):∀ i,(bkL f n b i).length=i
 | 0=>rfl
 | i+1=>by rw [bkL,List.length_append,qk f n b i]; rfl
theorem sH (f:Nat→Nat→Nat) (n:Nat) (b:Nat→Nat) {j d:Nat} (h:j<d):∀ {e:Nat},d≤e→(bkL f n b e).getD j 0=(bkL f n b d).getD j 0
 | 0,g=>by omega
 | e+1,g=>by
  by_cases q:d=e+1
  ·subst q; rfl
  ·rw [← sH f n b h (show d≤e by omega)];have hl:=qk f n b e;rw [bkL];simp [List.getD,List.getElem?_append_left (show j<(bkL f n b e).length by omega)]
theorem mB (f:Nat→Nat→Nat) (n:Nat) (b:Nat→Nat) {i:Nat} (hi:i<n):bkF f n b i=cop .quo (xJ (fun j=>f i (i+1+j)) (fun j=>bkF f n b (i+1+j)) (b i) (n-1-i)) (f i i):=by
 have e1:n-1-(n-1-i)=i:=by omega
 have e2:bkF f n b i=(bkL f n b (n-1-i+1)).getD (n-1-i) 0:=by
  unfold bkF;exact sH f n b (by omega) (by omega)
 have hl:=qk f n b (n-1-i);rw [e2,bkL];simp only [List.getD,List.getElem?_append_right (show (bkL f n b (n-1-i)).length≤n-1-i by omega),hl,Nat.sub_self,List.getElem?_cons_zero,Option.getD_some,e1]
 congr 1
 refine ug fun j hj=>⟨by rw [show n-(n-1-i)+j=i+1+j by omega],?_⟩
 have:=sH f n b (j:=n-1-i-1-j) (d:=n-1-i) (by omega) (e:=n) (by omega);simp only [List.getD] at this ⊢;rw [← this];unfold bkF;rw [show n-1-(i+1+j)=n-1-i-1-j by omega];rfl
def uh (f:Nat→Nat→Nat) (n:Nat) (b:Nat→Nat):Nat→Nat:=bkF f n (fwF f b)
end Go.Proofs.YtnlbafjmbamoeaaGreat
namespace Go.Proofs.YtnlbafjmbamoeaaGreat
open Go.RowKit Lib
open Ieee (double)
def yh (w:World) (base R n cap:Nat) (f:Nat→Int):Prop:=
 ∃ rs,w.ownsRow base 3 1 (.slice (some ⟨R,0,none⟩) n cap) n rs∧∀ j,j<n→rs[j]? = some (.int .i64 (f j))
theorem yh.cell {w:World} {base R n cap:Nat} {f:Nat→Int} (h:yh w base R n cap f) {j:Nat} (hj:j<n):w.cell? ⟨R,j,none⟩=some (.int .i64 (f j)):=by
 obtain ⟨rs,h1,h2⟩:=h;exact (h1.cellAt j (by omega)).trans (h2 j hj)
theorem yh.free {w:World} {base R n cap:Nat} {f:Nat→Int} (h:yh w base R n cap f) (j:Nat):w.frozen? ⟨R,j,none⟩=false:=by
 obtain ⟨rs,h1,-⟩:=h;exact h1.frozenAt j
theorem yh.lt {w:World} {base R n cap:Nat} {f:Nat→Int} (h:yh w base R n cap f):base≤R∧R<w.heap.size:=by
 obtain ⟨rs,h1,-⟩:=h;exact h1.lt R rfl
theorem yh.kept {w w':World} {base R n cap:Nat} {f:Nat→Int} (h:yh w base R n cap f) (hb:w'.heap[R]? = w.heap[R]?):yh w' base R n cap f:=by
 obtain ⟨rs,h1,h3⟩:=h;exact ⟨rs,yQ h1 hb,h3⟩
theorem yh.below {w w':World} {base R n cap:Nat} {f:Nat→Int} (h:yh w base R n cap f) {B:Nat} (hb:Below B w w') (hB:R<B):yh w' base R n cap f:=h.kept (hb.block R hB)
theorem yh.base {w:World} {base b' R n cap:Nat} {f:Nat→Int} (h:yh w base R n cap f) (hb:b'≤R):yh w b' R n cap f:=by
 obtain ⟨rs,⟨h1,h2⟩,h3⟩:=h;refine ⟨rs,⟨h1,?_⟩,h3⟩;rcases h2 with ⟨h2,-⟩ | ⟨g,c,cur,hv,hg,r⟩
 ·cases h2
 ·simp only [Value.slice.injEq,Option.some.injEq,Addr.mk.injEq] at hv;obtain ⟨⟨rfl,-⟩,-,rfl⟩:=hv;exact .inr ⟨_,_,cur,rfl,hb,r⟩
theorem yh.congr {w:World} {base R n cap:Nat} {f g:Nat→Int} (h:yh w base R n cap f) (e:∀ j,j<n→f j=g j):yh w base R n cap g:=by
 obtain ⟨rs,h1,h2⟩:=h;exact ⟨rs,h1,fun j hj=>by rw [← e j hj]; exact h2 j hj⟩
theorem yh.set {w:World} {base R n cap:Nat} {f:Nat→Int} (h:yh w base R n cap f) {j:Nat} (hj:j<n) (c:Int):yh (w.setCell ⟨R,j,none⟩ (.int .i64 c)) base R n cap (yy f j c):=by
 obtain ⟨rs,g1,g2⟩:=h;have hl:=g1.1;refine ⟨rs.set j (.int .i64 c),(g1.stored j _).1,fun i hi=>?_⟩;by_cases e:i=j
 ·subst e; rw [zL,List.getElem?_set_self (by omega)]
 ·rw [zG _ _ e,List.getElem?_set_ne (Ne.symm e)]; exact g2 i hi
theorem yh.other {w:World} {base R n cap:Nat} {f:Nat→Int} (h:yh w base R n cap f) {B o:Nat} (hne:B≠R) (v:Value):yh (w.setCell ⟨B,o,none⟩ v) base R n cap f:=
 h.kept (Below.heap_setCell _ _ _ _ (fun e=>hne (by simpa using e.symm)))
theorem vG {w:World} {base R n:Nat} (h:w.ownsRow base 3 1 (.slice (some ⟨R,0,none⟩) n n) n (madeCells #[Value.int .i64 0] n).toList):yh w base R n n fun _=>0:=by
 refine ⟨_,h,fun j hj=>?_⟩;rw [toList_madeCells_one,List.getElem?_replicate,if_pos hj]
def tX (w:World) (v:Value) (n:Nat) (f:Nat→Int):Prop:=
 ∃ a cap,v=.slice a n cap∧n≤9223372036854775807∧(0<n→∃ b off,a=some ⟨b,off,none⟩∧b<w.heap.size∧∀ i,i<n→w.cell? ⟨b,off+i,none⟩=some (.int .i64 (f i)))
theorem tX.below {w w':World} {v:Value} {n:Nat} {f:Nat→Int} (h:tX w v n f) (hb:Below w.heap.size w w'):tX w' v n f:=by
 obtain ⟨a,cap,h1,h2,h3⟩:=h;refine ⟨a,cap,h1,h2,fun hl=>?_⟩;obtain ⟨b,off,e,hs,hc⟩:=h3 hl;exact ⟨b,off,e,Nat.lt_of_lt_of_le hs hb.size,fun i hi=>((zA hb).1 _ _ hs).trans (hc i hi)⟩
theorem yh.ints {w:World} {base R n cap:Nat} {f:Nat→Int} (h:yh w base R n cap f) (hn:n≤9223372036854775807):tX w (.slice (some ⟨R,0,none⟩) n cap) n f:=
 ⟨_,cap,rfl,hn,fun _=>⟨R,0,rfl,h.lt.2,fun i hi=>by rw [Nat.zero_add]; exact h.cell hi⟩⟩
def sg (p k i:Nat):Nat:=if i=k then p else if i=p then k else i
theorem xD {α:Type} (f:Nat→α) (p k i:Nat):swp f p k i=f (sg p k i):=by
 unfold sg;by_cases h:i=k
 ·subst h; rw [if_pos rfl,lF]
 ·rw [if_neg h];by_cases g:i=p
  ·subst g; rw [if_pos rfl,lG]
  ·rw [if_neg g,km _ g h]
theorem tY {p k i n:Nat} (hp:p<n) (hk:k<n) (hi:i<n):sg p k i<n:=by unfold sg; split<;>(try split)<;>omega
theorem kn {p k i j:Nat} (h:sg p k i=sg p k j):i=j:=by
 unfold sg at h;split at h<;>split at h<;>(try split at h)<;>(try split at h)<;>omega
theorem uB {w:World} {G p k:Nat} {x y:Value} (u:Value) (hx:w.cell? ⟨G,p,none⟩=some x) (hy:w.cell? ⟨G,k,none⟩=some y):∃ z,(w.setCell ⟨G,p,none⟩ u).cell? ⟨G,k,none⟩=some z:=by
 by_cases e:k=p
 ·subst e; exact ⟨u,by simp [go_sem,hx]⟩
 ·exact ⟨y,by rw [World.cell?_setCell_other _ _ _ _ (fun q=>e (by injection q with _ q2 _; omega))]; exact hy⟩
theorem nN {w:World} {G p k i:Nat} {u v x y:Value} (hx:w.cell? ⟨G,p,none⟩=some x) (hy:w.cell? ⟨G,k,none⟩=some y) :
  ((w.setCell ⟨G,p,none⟩ u).setCell ⟨G,k,none⟩ v).cell? ⟨G,i,none⟩=if i=k then some v else if i=p then some u else w.cell? ⟨G,i,none⟩:=by
 have hk:∃ z,(w.setCell ⟨G,p,none⟩ u).cell? ⟨G,k,none⟩=some z:=by
  by_cases e:k=p
  ·subst e; exact ⟨u,by simp [go_sem,hx]⟩
  ·exact ⟨y,by rw [World.cell?_setCell_other _ _ _ _ (fun q=>e (by injection q with _ q2 _; omega))]; exact hy⟩
 obtain ⟨z,hz⟩:=hk;by_cases h:i=k
 ·subst h;rw [if_pos rfl];generalize w.setCell ⟨G,p,none⟩ u=W at *;simp [go_sem,hz]
 ·rw [if_neg h,World.cell?_setCell_other _ _ _ _ (fun q=>h (by injection q with _ q2 _; omega))];by_cases g:i=p
  ·subst g; rw [if_pos rfl]; simp [go_sem,hx]
  ·rw [if_neg g,World.cell?_setCell_other _ _ _ _ (fun q=>g (by injection q with _ q2 _; omega))]
theorem yD.swap {w:World} {base G n m p k:Nat} {blk cap:Nat→Nat} {f:Nat→Nat→Nat} (h:yD w base G n m blk cap f) (hp:p<n) (hk:k<n) :
  yD ((w.setCell ⟨G,p,none⟩ (.slice (some ⟨blk k,0,none⟩) m (cap k))).setCell ⟨G,k,none⟩ (.slice (some ⟨blk p,0,none⟩) m (cap p))) base G n m (swp blk p k) (swp cap p k) (swp f p k):=by
 refine ⟨fun i hi=>?_,fun i hi=>?_,fun i hi=>?_,fun i j hi hj=>?_,fun i hi=>?_,h.lo,by simp [World.setCell]; exact h.hi⟩
 ·rw [nN (h.ref p hp) (h.ref k hk),xD,xD];unfold sg;by_cases e:i=k
  ·rw [if_pos e,if_pos e]
  ·rw [if_neg e,if_neg e];by_cases g:i=p
   ·rw [if_pos g,if_pos g]
   ·rw [if_neg g,if_neg g]; exact h.ref i hi
 ·have e:∀ (W:World) (b:Nat) (v:Value),(W.setCell ⟨G,b,none⟩ v).frozen? ⟨G,i,none⟩=W.frozen? ⟨G,i,none⟩:=fun W b v=>by simp [go_sem]
  rw [e,e]; exact h.free i hi
 ·rw [xD,xD,xD];have:=tY hp hk hi;exact ((h.row _ this).other (fun q=>h.off _ this q.symm) _).other (fun q=>h.off _ this q.symm) _
 ·rw [xD,xD];exact fun q=>kn (h.inj _ _ (tY hp hk hi) (tY hp hk hj) q)
 ·rw [xD]; exact h.off _ (tY hp hk hi)
theorem yh.swap {w:World} {base R n cap p k:Nat} {f:Nat→Int} (h:yh w base R n cap f) (hp:p<n) (hk:k<n) :
  yh ((w.setCell ⟨R,p,none⟩ (.int .i64 (f k))).setCell ⟨R,k,none⟩ (.int .i64 (f p))) base R n cap (swp f p k):=(h.set hp (f k)).set hk (f p)
theorem yh.drewN {w:World} {base R n cap:Nat} {f:Nat→Int} (h:yh w base R n cap f) (q:Nat):yh (w.drewN q) base R n cap f:=h.kept rfl
theorem yd.drewN {w:World} {base R n cap:Nat} {f:Nat→Nat} (h:yd w base R n cap f) (q:Nat):yd (w.drewN q) base R n cap f:=h.kept rfl
theorem yD.drew {w:World} {base G n m:Nat} {blk cap:Nat→Nat} {f:Nat→Nat→Nat} (h:yD w base G n m blk cap f):yD w.drew base G n m blk cap f:=h.below (Below.refl _ _).drew
theorem yh.drew {w:World} {base R n cap:Nat} {f:Nat→Int} (h:yh w base R n cap f):yh w.drew base R n cap f:=h.kept rfl
theorem yd.drew {w:World} {base R n cap:Nat} {f:Nat→Nat} (h:yd w base R n cap f):yd w.drew base R n cap f:=h.kept rfl
def yO (qs:List Value) (n:Nat) (f:Nat→Nat):Prop:=∀ j,j<n→∃ y,qs[j]? = some (.float .f64 y)∧zk y=f j∧y<18446744073709551616
theorem yO.app {qs:List Value} {n y:Nat} {f:Nat→Nat} (h:yO qs n f) (hl:qs.length=n) (h1:zk y=f n) (h2:y<18446744073709551616):yO (qs ++ [.float .f64 y]) (n+1) f:=fun j hj=>by
 by_cases e:j=n
 ·subst e;exact ⟨y,by rw [List.getElem?_append_right (by omega),hl]; simp,h1,h2⟩
 ·rw [List.getElem?_append_left (by omega)];exact h j (by omega)
theorem yO.nil (f:Nat→Nat) (qs:List Value):yO qs 0 f:=fun j hj=>by omega
theorem yO.own {w:World} {base n:Nat} {v:Value} {qs:List Value} {f:Nat→Nat} (h:yO qs n f) (ho:w.ownsRow base 31 1 v n qs) (h0:0<n):∃ R cap,v=.slice (some ⟨R,0,none⟩) n cap∧yd w base R n cap f:=by
 rcases id ho.2 with ⟨rfl,rfl⟩ | ⟨g,cap,cur,rfl,-⟩
 ·omega
 ·exact ⟨g,cap,rfl,qs,ho,h⟩
def uJ (qs:List Value) (n:Nat) (f:Nat→Int):Prop:=∀ j,j<n→qs[j]? = some (.int .i64 (f j))
theorem uJ.app {qs:List Value} {n:Nat} {f:Nat→Int} (h:uJ qs n f) (hl:qs.length=n) {y:Int} (h1:y=f n):uJ (qs ++ [.int .i64 y]) (n+1) f:=fun j hj=>by
 by_cases e:j=n
 ·subst e; rw [List.getElem?_append_right (by omega),hl]; simp [h1]
 ·rw [List.getElem?_append_left (by omega)]; exact h j (by omega)
theorem uJ.nil (f:Nat→Int) (qs:List Value):uJ qs 0 f:=fun j hj=>by omega
theorem uJ.own {w:World} {base n:Nat} {v:Value} {qs:List Value} {f:Nat→Int} (h:uJ qs n f) (ho:w.ownsRow base 3 1 v n qs) (h0:0<n):∃ R cap,v=.slice (some ⟨R,0,none⟩) n cap∧yh w base R n cap f:=by
 rcases id ho.2 with ⟨rfl,rfl⟩ | ⟨g,cap,cur,rfl,-⟩
 ·omega
 ·exact ⟨g,cap,rfl,qs,ho,h⟩
theorem yp {w:World} {base n size:Nat} {E:TypeId} {v:Value} {qs:List Value} (h:w.ownsRow base E size v n qs) (k:Nat):(w.drewN k).ownsRow base E size v n qs:=h
theorem ym {w:World} {base n size:Nat} {E:TypeId} {v:Value} {qs:List Value} (h:w.ownsRow base E size v n qs):∃ a cap,v=.slice a n cap:=by
 rcases id h.2 with ⟨rfl,rfl⟩ | ⟨g,cap,cur,rfl,-⟩
 ·exact ⟨_,_,rfl⟩
 ·exact ⟨_,_,rfl⟩
theorem tq {w w':World} {base n size:Nat} {E:TypeId} {v:Value} {qs:List Value} (h:w.ownsRow base E size v n qs) (hb:∀ k,v.ownBlock=some k→w'.heap[k]? = w.heap[k]?):w'.ownsRow base E size v n qs:=by
 obtain ⟨h1,h2⟩:=h;refine ⟨h1,?_⟩;rcases h2 with h2 | ⟨g,c,cur,rfl,hg,hh,r⟩
 ·exact .inl h2
 ·exact .inr ⟨g,c,cur,rfl,hg,(hb g rfl).trans hh,r⟩
theorem ui {w:World} {base b' n size:Nat} {E:TypeId} {v:Value} {qs:List Value} (h:w.ownsRow base E size v n qs) (hb:b'≤base):w.ownsRow b' E size v n qs:=by
 obtain ⟨h1,h2⟩:=h;refine ⟨h1,?_⟩;rcases h2 with h2 | ⟨g,c,cur,rfl,hg,r⟩
 ·exact .inl h2
 ·exact .inr ⟨g,c,cur,rfl,Nat.le_trans hb hg,r⟩
theorem yv {w w':World} {B base n size:Nat} {E:TypeId} {v:Value} {qs:List Value} (h:w.ownsRow base E size v n qs) (hb:B≤base) (hs:B≤w.heap.size) (hg:w.grownBy w' v.ownBlock):Below B w w':=
 (Below.refl _ _).grown hg hs fun k hk=>Nat.le_trans hb (h.lt k hk).1
theorem uj (w:World) (v:Value) (t:TypeId) (k:Nat):∀ j u,([v]:List Value)[j]? = some u→((w.alloc (.cells #[v] t)).drewN k).cell? ((⟨w.heap.size,0,none⟩:Addr).add j)=some u:=fun j u hu=>by
 cases j with
 | zero=>
  simp only [List.getElem?_cons_zero,Option.some.injEq] at hu;subst hu;show (w.alloc _).cell? _=_;have e:(⟨w.heap.size,0,none⟩:Addr).add 0=⟨w.heap.size,0,none⟩:=by simp [Addr.add]
  rw [e,World.cell?_alloc_new];rfl
 | succ j=>simp at hu
theorem yK (w:World) (o:Obj) (k:Nat) {B:Nat} (h:B≤w.heap.size):B≤((w.alloc o).drewN k).heap.size:=by
 show B≤(w.alloc o).heap.size;simp;omega
structure xI (w:World) (base:Nat) (va:Value) (j m:Nat) (blk cap:Nat→Nat) (f:Nat→Nat→Nat):Prop where
 own:∃ rs,w.ownsRow base 30 1 va j rs∧∀ i,i<j→rs[i]? = some (.slice (some ⟨blk i,0,none⟩) m (cap i))
 row:∀ i,i<j→yd w base (blk i) m (cap i) (f i)
 inj:∀ i k,i<j→k<j→blk i=blk k→i=k
 off:∀ i,i<j→va.ownBlock≠some (blk i)
theorem xI.start (w:World) (base m:Nat) (f:Nat→Nat→Nat):xI w base (.slice none 0 0) 0 m (fun _=>0) (fun _=>0) f:=
 ⟨⟨[],World.ownsRow_nil _ _ _ _,fun i hi=>by omega⟩,fun i hi=>by omega,fun i k hi=>by omega,fun i hi=>by omega⟩
theorem xI.grid {w:World} {base n m:Nat} {va:Value} {blk cap:Nat→Nat} {f:Nat→Nat→Nat} (h:xI w base va n m blk cap f) (h0:0<n):∃ G c,va=.slice (some ⟨G,0,none⟩) n c∧yD w base G n m blk cap f:=by
 obtain ⟨⟨rs,h1,h2⟩,h3,h4,h5⟩:=h;rcases id h1.2 with ⟨rfl,rfl⟩ | ⟨g,c,cur,rfl,-⟩
 ·omega
 ·have hl:=h1.lt g rfl;exact ⟨g,c,rfl,fun i hi=>(h1.cellAt i (by omega)).trans (h2 i hi),fun i _=>h1.frozenAt i,h3,h4,fun i hi e=>h5 i hi (by rw [e]; rfl),hl.1,hl.2⟩
theorem xI.below {w w':World} {base j m:Nat} {va:Value} {blk cap:Nat→Nat} {f:Nat→Nat→Nat} (h:xI w base va j m blk cap f) (hb:Below w.heap.size w w'):xI w' base va j m blk cap f:=by
 obtain ⟨⟨rs,h1,h2⟩,h3,h4,h5⟩:=h;exact ⟨⟨rs,tq h1 (fun k hk=>hb.block k (h1.lt k hk).2),h2⟩,fun i hi=>(h3 i hi).below hb (h3 i hi).lt.2,h4,h5⟩
theorem xI.keep {w w':World} {base H j m:Nat} {va:Value} {blk cap:Nat→Nat} {f:Nat→Nat→Nat} (h:xI w base va j m blk cap f) (hb:Below H w w') (h1:∀ k,va.ownBlock=some k→k<H) (h2:∀ i,i<j→blk i<H):xI w' base va j m blk cap f:=by
 obtain ⟨⟨rs,g1,g2⟩,h3,h4,h5⟩:=h;exact ⟨⟨rs,tq g1 (fun k hk=>hb.block k (h1 k hk)),g2⟩,fun i hi=>(h3 i hi).below hb (h2 i hi),h4,h5⟩
theorem xI.lt {w:World} {base j m:Nat} {va:Value} {blk cap:Nat→Nat} {f:Nat→Nat→Nat} (h:xI w base va j m blk cap f):(∀ k,va.ownBlock=some k→k<w.heap.size)∧∀ i,i<j→blk i<w.heap.size:=by
 obtain ⟨⟨rs,h1,-⟩,h3,-⟩:=h;exact ⟨fun k hk=>(h1.lt k hk).2,fun i hi=>(h3 i hi).lt.2⟩
theorem xI.app {w w1 w2:World} {base j m R c:Nat} {va v':Value} {blk cap:Nat→Nat} {f:Nat→Nat→Nat} {rs:List Value} (h:xI w base va j m blk cap f) (hrs:w.ownsRow base 30 1 va j rs) (hro:yd w base R m c (f j)) (hR1:va.ownBlock≠some R) (hR2:∀ i,i<j→blk i≠R)
  (h1:Below w.heap.size w w1) (hg:w1.grownBy w2 va.ownBlock) (ho:w2.ownsRow base 30 1 v' (j+1) (rs ++ [.slice (some ⟨R,0,none⟩) m c])) (hv:∀ k,v'.ownBlock=some k→va.ownBlock=some k∨w.heap.size≤k) :
  xI w2 base v' (j+1) m (yy blk j R) (yy cap j c) f:=by
 have hrl:=hrs.1;obtain ⟨⟨rs0,g1,g2⟩,h3,h4,h5⟩:=h;have hsz:=h1.size;have kb:∀ b,b<w.heap.size→va.ownBlock≠some b→w2.heap[b]? = w.heap[b]?:=fun b hb hne=>(hg.block b (by omega) (fun e=>hne e.symm)).trans (h1.block b hb)
 have hget:∀ i,i<j→rs[i]? = some (.slice (some ⟨blk i,0,none⟩) m (cap i)):=fun i hi=>by
  rcases id g1.2 with ⟨rfl,rfl⟩ | ⟨g,cp,cur,rfl,-⟩
  ·omega
  ·have e1:=g1.cellAt i (by omega);have e2:=hrs.cellAt i (by omega);rw [← e2,e1]; exact g2 i hi
 refine ⟨⟨_,ho,fun i hi=>?_⟩,fun i hi=>?_,fun i k hi hk=>?_,fun i hi=>?_⟩
 ·by_cases e:i=j
  ·subst e; rw [List.getElem?_append_right (by omega),hrl,zL,zL]; simp
  ·rw [List.getElem?_append_left (by omega),zG _ _ e,zG _ _ e]; exact hget i (by omega)
 ·by_cases e:i=j
  ·subst e; rw [zL,zL]; exact hro.kept (kb R hro.lt.2 hR1)
  ·rw [zG _ _ e,zG _ _ e]; exact (h3 i (by omega)).kept (kb _ (h3 i (by omega)).lt.2 (h5 i (by omega)))
 ·by_cases e1:i=j
  ·subst e1;by_cases e2:k=i
   ·exact fun _=>e2.symm
   ·rw [zL,zG _ _ e2]; exact fun q=>absurd q.symm (hR2 k (by omega))
  ·by_cases e2:k=j
   ·subst e2; rw [zL,zG _ _ e1]; exact fun q=>absurd q (hR2 i (by omega))
   ·rw [zG _ _ e1,zG _ _ e2]; exact h4 i k (by omega) (by omega)
 ·intro q;by_cases e:i=j
  ·subst e;rw [zL] at q;rcases hv _ q with q2 | q2
   ·exact hR1 q2
   ·have:=hro.lt.2; omega
  ·rw [zG _ _ e] at q;rcases hv _ q with q2 | q2
   ·exact h5 i (by omega) q2
   ·have:=(h3 i (by omega)).lt.2; omega
end Go.Proofs.YtnlbafjmbamoeaaGreat
namespace Go.Proofs.YtnlbafjmbamoeaaGreat
open Go Lib
section
variable {P : Program} {ops : Array Oper} {Q : Exit → Act → World → Prop} {md : Region.Mode} {S R : World → Prop} {D T T3 : List Nat}
def wv (md:Region.Mode) (ops:Array Oper) (T:List Nat) (j:Nat):Bool:=T.any fun i=>!Region.waitsFor md ops j i
theorem mF {j i:Nat} {oj:Oper} (hj:ops[j]? = some oj) (h:∀ e ∈ oj.after,Region.binds md e=true→e.on≠i):Region.waitsFor md ops j i=false:=by
 cases hw:Region.waitsFor md ops j i with
 | false=>rfl
 | true=>
  obtain ⟨o,ho,e,he,hb,hon⟩:=Region.waitsFor_spec hw;rw [hj] at ho;cases ho
  exact absurd hon (h e he hb)
def t5 (md:Region.Mode) (ops:Array Oper) (S R:World→Prop) (D T T3:List Nat) (j:Nat) (w w':World):Prop:=if D.contains j=true then (wv md ops T j=true→S w')∧(wv md ops T3 j=true→R w') else w'=w
def um (T:List Nat) (listed:Array Bool):Bool:=T.any fun t=>!listed.getD t true
theorem vI {listed:Array Bool} {j:Nat} (h:um T (listed.setIfInBounds j true)=true):∃ t,t ∈ T∧t≠j∧listed.getD t true=false:=by
 obtain ⟨t,ht,hu⟩:=List.any_eq_true.1 h;by_cases e:j=t
 ·subst e
  have:(listed.setIfInBounds j true).getD j true=true:=by
   rcases Nat.lt_or_ge j listed.size with h' | h'
   ·simp [h']
   ·simp
  rw [this] at hu;cases hu
 ·rw [getD_set_ne true e] at hu;exact ⟨t,ht,Ne.symm e,by simpa using hu⟩
theorem ts {listed:Array Bool} {j t:Nat} (hj:j ∈ Region.ready md ops listed) (ht:t ∈ T) (hu:listed.getD t true=false):wv md ops T j=true:=by
 obtain ⟨-,oj,hoj,hall⟩:=mem_ready.1 hj;refine List.any_eq_true.2 ⟨t,ht,?_⟩;rw [mF hoj fun e he hb heq=>?_]
 ·rfl
 ·have g1:=hall e he hb;rw [heq,getD_both hu] at g1;cases g1
def un (P:Program) (md:Region.Mode) (ops:Array Oper) (Q:Exit→Act→World→Prop) (S R:World→Prop) (D T T3:List Nat):Nat→Array Bool→Act→World→Prop
 | 0,listed,a,w=>Region.ready md ops listed=[]∧Q .normal a w
 | fuel+1,listed,a,w=>
  (Region.ready md ops listed=[]→Q .normal a w) ∧
  ∀ i ∈ Region.ready md ops listed,wpOp P ops Q i (fun a' w'=>t5 md ops S R D T T3 i w w'∧un P md ops Q S R D T T3 fuel (listed.setIfInBounds i true) a' w') a w
theorem vT:∀ (fuel:Nat) (listed:Array Bool) (a:Act) (w:World),un P md ops Q S R D T T3 fuel listed a w→wpAny P md ops Q fuel listed a w
 | 0,_,_,_,h=>h
 | fuel+1,_,_,_,h=>⟨h.1,fun i hi=>wpOp_mono (fun a' w' h'=>vT fuel _ a' w' h'.2) (h.2 i hi)⟩
theorem xv {S':World→Prop} {i:Nat} {oi:Oper} {v:Value} (hD:D.contains i=false) (hT:(∀ w,S' w)∨(S'=S∧i ∈ T)∨(S'=R∧i ∈ T3)) (hi:ops[i]? = some oi) (hsel:∀ (j:Nat) (o:Oper) cs b,ops[j]? = some o→o.op≠.select cs b)
  (hQ:∀ c a w,Q (.panic c) (a.put oi.dst v) w→Q (.panic c) a w) :
  ∀ (fuel:Nat) (listed:Array Bool) (a:Act) (w:World),
   (∀ j oj,ops[j]? = some oj→j≠i→listed.getD j true=false→(∀ e ∈ oj.after,Region.binds md e=true→e.on≠i)→oi.apart ops oj=true) →
   i ∈ Region.ready md ops listed→YieldsIf P ops S' oi v a→(um T listed=true→S w)→(um T3 listed=true→R w) →
   un P md ops Q S R D T T3 fuel (listed.setIfInBounds i true) (a.put oi.dst v) w→un P md ops Q S R D T T3 (fuel+1) listed a w:=by
 have hS':∀ (listed:Array Bool) (w:World),i ∈ Region.ready md ops listed→(um T listed=true→S w)→(um T3 listed=true→R w)→S' w:=fun listed w hr hP hP3=>by
  rcases hT with h | ⟨rfl,h⟩ | ⟨rfl,h⟩
  ·exact h w
  ·exact hP (List.any_eq_true.2 ⟨i,h,by rw [(mem_ready.1 hr).1]; rfl⟩)
  ·exact hP3 (List.any_eq_true.2 ⟨i,h,by rw [(mem_ready.1 hr).1]; rfl⟩)
 have hc:∀ w,t5 md ops S R D T T3 i w w:=fun w=>by unfold t5; rw [hD]; exact rfl
 intro fuel
 induction fuel with
 | zero=>
  intro listed a w _ hr hy hP hP3 H;refine ⟨fun h=>(by rw [h] at hr; cases hr),fun j hj=>?_⟩;by_cases hji:j=i
  ·subst hji;exact hy.wpOp hi (hS' _ _ hr hP hP3) ⟨hc w,H⟩
  ·have:=ready_mono hj hji;rw [H.1] at this;cases this
 | succ fuel ih=>
  intro listed a w hfree hr hy hP hP3 H;refine ⟨fun h=>(by rw [h] at hr; cases hr),fun j hj=>?_⟩;by_cases hji:j=i
  ·subst hji;exact hy.wpOp hi (hS' _ _ hr hP hP3) ⟨hc w,H⟩
  ·have k1:=H.2 j (ready_mono hj hji);obtain ⟨hun,oj,hoj,hall⟩:=mem_ready.1 hj
   have hno:∀ e ∈ oj.after,Region.binds md e=true→e.on≠i:=fun e he hb heq=>by
    have g1:=hall e he hb;have g0:=(mem_ready.1 hr).1;rw [heq,getD_both g0] at g1;cases g1
   have k2:=wpOp_putIf hoj (hfree j oj hoj hji hun hno) (fun cs b=>hsel i oi cs b hi) (fun cs b=>hsel j oj cs b hoj) hQ hy k1
   have hfree':∀ k ok,ops[k]? = some ok→k≠i→(listed.setIfInBounds j true).getD k true=false →
     (∀ e ∈ ok.after,Region.binds md e=true→e.on≠i)→oi.apart ops ok=true:=fun k ok hk hki hu hn=>by
    refine hfree k ok hk hki ?_ hn;by_cases hjk:j=k
    ·subst hjk; exact hun
    ·rw [getD_set_ne true hjk] at hu; exact hu
   refine wpOp_mono (fun a' w' k3=>⟨k3.2.1,ih (listed.setIfInBounds j true) a' w' hfree' (ready_mono hr (Ne.symm hji)) k3.1 (fun hp=>?_) (fun hp=>?_) ?_⟩) k2
   ·obtain ⟨t,ht,-,hu⟩:=vI hp;have hcj:=k3.2.1;unfold t5 at hcj;split at hcj
    ·exact hcj.1 (ts hj ht hu)
    ·rw [hcj];exact hP (List.any_eq_true.2 ⟨t,ht,by rw [hu]; rfl⟩)
   ·obtain ⟨t,ht,-,hu⟩:=vI hp;have hcj:=k3.2.1;unfold t5 at hcj;split at hcj
    ·exact hcj.2 (ts hj ht hu)
    ·rw [hcj];exact hP3 (List.any_eq_true.2 ⟨t,ht,by rw [hu]; rfl⟩)
   ·rw [Array.setIfInBounds_comm _ _ hji];exact k3.2.2
def zF (v:Value) (w:World):Result Next→Prop
 | .ok (.value u) w'=>u=v∧w'=w
 | _=>False
def ye (P:Program) (ops:Array Oper) (w0:World) (i:Nat) (K:Act→Prop) (a:Act):Prop:=
 match ops[i]? with
 | none=>False
 | some o=>if Region.wanted o (yielded ops a.tmps) then ∃ v,(∀ n,zF v (w0.drewN n) ((execOp a.eval o).run P (w0.drewN n)))∧K (a.put o.dst v) else K (a.put o.dst undef)
def xp (w0 w:World):Prop:=∃ n,w=w0.drewN n
theorem rt {w0:World} {i:Nat} {K:Act→Prop} {a:Act} (h:ye P ops w0 i K a):∃ o v,ops[i]? = some o∧YieldsIf P ops (xp w0) o v a∧K (a.put o.dst v):=by
 unfold ye at h;split at h
 ·cases h
 ·rename_i o ho
  split at h
  ·rename_i hw
   obtain ⟨v,hv,hk⟩:=h;refine ⟨o,v,ho,.inl ⟨hw,fun w hw'=>?_⟩,hk⟩;obtain ⟨n,rfl⟩:=hw';have:=hv n;generalize (execOp a.eval o).run P (w0.drewN n)=r at this;unfold zF at this;split at this
   ·obtain ⟨rfl,rfl⟩:=this; rfl
   ·cases this
  ·rename_i hw
   exact ⟨o,undef,ho,.inr ⟨by simpa using hw,rfl⟩,h⟩
def z8 (P:Program) (ops:Array Oper) (i:Nat) (K:Act→Prop) (a:Act):Prop:=
 match ops[i]? with
 | none=>False
 | some o=>if Region.wanted o (yielded ops a.tmps) then ∃ v,(∀ w,zF v w ((execOp a.eval o).run P w))∧K (a.put o.dst v) else K (a.put o.dst undef)
theorem wY {i:Nat} {K:Act→Prop} {a:Act} (h:z8 P ops i K a):∃ o v,ops[i]? = some o∧YieldsIf P ops (fun _=>True) o v a∧K (a.put o.dst v):=by
 unfold z8 at h;split at h
 ·cases h
 ·rename_i o ho
  split at h
  ·rename_i hw
   obtain ⟨v,hv,hk⟩:=h;refine ⟨o,v,ho,.inl ⟨hw,fun w _=>?_⟩,hk⟩;have:=hv w;generalize (execOp a.eval o).run P w=r at this;unfold zF at this;split at this
   ·obtain ⟨rfl,rfl⟩:=this; rfl
   ·cases this
  ·rename_i hw
   exact ⟨o,undef,ho,.inr ⟨by simpa using hw,rfl⟩,h⟩
def ov (P:Program) (ops:Array Oper) (R:World→Prop) (i:Nat) (K:Act→Prop) (a:Act):Prop:=
 ∃ o v,ops[i]? = some o∧YieldsIf P ops R o v a∧K (a.put o.dst v)
def si (md:Region.Mode) (ops:Array Oper) (D T T3:List Nat):List (Nat × Nat)→Array Bool→Bool
 | [],listed=>(Region.ready md ops listed).isEmpty
 | (i,0) :: l,listed=>decide (Region.ready md ops listed=[i])&&(D.contains i&&si md ops D T T3 l (listed.setIfInBounds i true))
 | (i,1) :: l,listed=>((Region.ready md ops listed).contains i&&Region.free md ops listed i)&&(!D.contains i&&si md ops D T T3 l (listed.setIfInBounds i true))
 | (i,2) :: l,listed=>((Region.ready md ops listed).contains i&&Region.free md ops listed i)&&((!D.contains i&&T.contains i)&&si md ops D T T3 l (listed.setIfInBounds i true))
 | (i,_+3) :: l,listed=>((Region.ready md ops listed).contains i&&Region.free md ops listed i)&&((!D.contains i&&T3.contains i)&&si md ops D T T3 l (listed.setIfInBounds i true))
def xW (P:Program) (md:Region.Mode) (ops:Array Oper) (Q:Exit→Act→World→Prop) (w0:World) (R:World→Prop) (T T3:List Nat):List (Nat × Nat)→Act→World→Prop
 | [],a,w=>Q .normal a w
 | (i,0) :: l,a,w=>wpOp P ops Q i (fun a' w'=>((wv md ops T i=true→xp w0 w')∧(wv md ops T3 i=true→R w'))∧xW P md ops Q w0 R T T3 l a' w') a w
 | (i,1) :: l,a,w=>z8 P ops i (fun a'=>xW P md ops Q w0 R T T3 l a' w) a
 | (i,2) :: l,a,w=>ye P ops w0 i (fun a'=>xW P md ops Q w0 R T T3 l a' w) a
 | (i,_+3) :: l,a,w=>ov P ops R i (fun a'=>xW P md ops Q w0 R T T3 l a' w) a
theorem xC {L:List Nat} {listed:Array Bool} {i:Nat} {X:Prop} (h:um L listed=true→X) (hp:um L (listed.setIfInBounds i true)=true):X:=by
 obtain ⟨t,ht,-,hu⟩:=vI hp;exact h (List.any_eq_true.2 ⟨t,ht,by rw [hu]; rfl⟩)
theorem xL {w0:World} (hs:Region.noSelect ops=true) (hQ:∀ c a d v w,Q (.panic c) (a.put d v) w→Q (.panic c) a w):∀ (l:List (Nat × Nat)) (listed:Array Bool) (a:Act) (w:World),(um T listed=true→xp w0 w)→(um T3 listed=true→R w)→si md ops D T T3 l listed=true→xW P md ops Q w0 R T T3 l a w→un P md ops Q (xp w0) R D T T3 l.length listed a w
 | [],listed,a,w,_,_,hB,h=>⟨by simpa [si] using hB,h⟩
 | (i,1) :: l,listed,a,w,hP,hP3,hB,h=>by
  simp only [si,Bool.and_eq_true,Bool.not_eq_true'] at hB;obtain ⟨⟨h1,h2⟩,h3,h4⟩:=hB;obtain ⟨o,v,ho,hy,hr⟩:=wY h;exact xv h3 (.inl fun _=>trivial) ho (Region.noSelect_spec hs) (fun c a w=>hQ c a _ _ w) l.length listed a w (Region.free_spec ho h2) (by simpa using h1) hy hP hP3 (xL hs hQ l _ _ _ (xC hP) (xC hP3) h4 hr)
 | (i,2) :: l,listed,a,w,hP,hP3,hB,h=>by
  simp only [si,Bool.and_eq_true,Bool.not_eq_true'] at hB;obtain ⟨⟨h1,h2⟩,⟨h3,h5⟩,h4⟩:=hB;obtain ⟨o,v,ho,hy,hr⟩:=rt h;exact xv h3 (.inr (.inl ⟨rfl,by simpa using h5⟩)) ho (Region.noSelect_spec hs) (fun c a w=>hQ c a _ _ w) l.length listed a w (Region.free_spec ho h2) (by simpa using h1) hy hP hP3 (xL hs hQ l _ _ _ (xC hP) (xC hP3) h4 hr)
 | (i,_+3) :: l,listed,a,w,hP,hP3,hB,h=>by
  simp only [si,Bool.and_eq_true,Bool.not_eq_true'] at hB;obtain ⟨⟨h1,h2⟩,⟨h3,h5⟩,h4⟩:=hB;obtain ⟨o,v,ho,hy,hr⟩:=h;exact xv h3 (.inr (.inr ⟨rfl,by simpa using h5⟩)) ho (Region.noSelect_spec hs) (fun c a w=>hQ c a _ _ w) l.length listed a w (Region.free_spec ho h2) (by simpa using h1) hy hP hP3 (xL hs hQ l _ _ _ (xC hP) (xC hP3) h4 hr)
 | (i,0) :: l,listed,a,w,hP,hP3,hB,h=>by
  simp only [si,Bool.and_eq_true,decide_eq_true_eq] at hB;obtain ⟨h1,h2,h3⟩:=hB;refine ⟨fun h0=>(by rw [h1] at h0; cases h0),fun j hj=>?_⟩;have hj':=hj;rw [h1] at hj;obtain rfl:j=i:=by simpa using hj
  refine wpOp_mono (fun a' w' k=>⟨by unfold t5; rw [if_pos h2]; exact k.1,xL hs hQ l _ a' w' (fun hp=>?_) (fun hp=>?_) h3 k.2⟩) h
  ·obtain ⟨t,ht,-,hu⟩:=vI hp;exact k.1.1 (ts hj' ht hu)
  ·obtain ⟨t,ht,-,hu⟩:=vI hp;exact k.1.2 (ts hj' ht hu)
theorem zv (l:List (Nat × Nat)) (R:World→Prop) {id:Nat} {a:Act} {w:World} (hm:P.follows .mixedOrders=true)
  (hB:(Region.noSelect ops&&decide (l.length=ops.size)&&si .any ops ((l.filter (·.2==0)).map (·.1)) ((l.filter (·.2==2)).map (·.1)) ((l.filter (·.2==3)).map (·.1)) l (Array.replicate ops.size false))=true) (hQ:∀ c a d v w,Q (.panic c) (a.put d v) w→Q (.panic c) a w)
  (hR:R w.drew) (h:∀ W,W=w.drew→R W→xW P .any ops Q W R ((l.filter (·.2==2)).map (·.1)) ((l.filter (·.2==3)).map (·.1)) l a W):(Code.region id ops true).wp P Q a w:=by
 simp only [Bool.and_eq_true,decide_eq_true_eq] at hB;obtain ⟨⟨h1,h2⟩,h3⟩:=hB;refine wp_region_any hm (vT (S:=xp w.drew) (R:=R) (D:=(l.filter (·.2==0)).map (·.1)) (T:=(l.filter (·.2==2)).map (·.1)) (T3:=(l.filter (·.2==3)).map (·.1)) _ _ _ _ ?_);rw [← h2];exact xL h1 hQ l _ _ _ (fun _=>⟨0,rfl⟩) (fun _=>hR) (by rw [← h2] at h3; exact h3) (h _ rfl hR)
theorem zw (l:List (Nat × Nat)) {id:Nat} {a:Act} {w:World} (hm:P.follows .mixedOrders=true)
  (hB:(Region.noSelect ops&&decide (l.length=ops.size)&&si .any ops ((l.filter (·.2==0)).map (·.1)) ((l.filter (·.2==2)).map (·.1)) ((l.filter (·.2==3)).map (·.1)) l (Array.replicate ops.size false))=true) (hQ:∀ c a d v w,Q (.panic c) (a.put d v) w→Q (.panic c) a w)
  (h:∀ W,W=w.drew→xW P .any ops Q W (fun _=>True) ((l.filter (·.2==2)).map (·.1)) ((l.filter (·.2==3)).map (·.1)) l a W):(Code.region id ops true).wp P Q a w:=
 zv l (fun _=>True) hm hB hQ trivial (fun W hW _=>h W hW)
theorem zd {i:Nat} {l:List (Nat × Nat)} {a:Act} {w0 w:World} (h:∀ K:Act→Prop,(∀ a',xW P md ops Q w0 R T T3 l a' w→K a')→z8 P ops i K a):xW P md ops Q w0 R T T3 ((i,1) :: l) a w:=
 h _ (fun _ k=>k)
theorem ze {i:Nat} {l:List (Nat × Nat)} {a:Act} {w0 w:World} (h:∀ K:Act→Prop,(∀ a',xW P md ops Q w0 R T T3 l a' w→K a')→ye P ops w0 i K a):xW P md ops Q w0 R T T3 ((i,2) :: l) a w:=
 h _ (fun _ k=>k)
theorem zh {i:Nat} {l:List (Nat × Nat)} {a:Act} {w0 w:World} {o:Oper} {v:Value} (ho:ops[i]? = some o) (hw:Region.wanted o (yielded ops a.tmps)=true) (hy:∀ w,R w→(execOp a.eval o).run P w=.ok (.value v) w) (h:xW P md ops Q w0 R T T3 l (a.put o.dst v) w):xW P md ops Q w0 R T T3 ((i,3) :: l) a w:=
 ⟨o,v,ho,.inl ⟨hw,hy⟩,h⟩
def yE (P:Program) (ops:Array Oper) (Q:Exit→Act→World→Prop) (i:Nat) (K:Act→World→Prop) (a:Act) (w:World):Prop:=
 match ops[i]? with
 | none=>False
 | some o=>if Region.wanted o (yielded ops a.tmps) then o.wp P a w K Q else K (a.put o.dst undef) w
theorem zm {i:Nat} {l:List (Nat × Nat)} {a:Act} {w0 w:World}
  (h:∀ K:Act→World→Prop,(∀ a' w',(wv md ops T i=true→xp w0 w')→(wv md ops T3 i=true→R w')→xW P md ops Q w0 R T T3 l a' w'→K a' w')→yE P ops Q i K a w):xW P md ops Q w0 R T T3 ((i,0) :: l) a w:=by
 have k:=h (fun a' w'=>((wv md ops T i=true→xp w0 w')∧(wv md ops T3 i=true→R w'))∧xW P md ops Q w0 R T T3 l a' w') (fun a' w' k1 k2 k3=>⟨⟨k1,k2⟩,k3⟩);show wpOp P ops Q i _ a w;unfold wpOp;unfold yE at k;split
 ·rename_i e; rw [e] at k; cases k
 ·rename_i o e
  rw [e] at k;simp only [] at k;split
  ·rename_i hw; rw [if_pos hw] at k; exact .inl k
  ·rename_i hw; rw [if_neg hw] at k; exact k
theorem zx {i:Nat} {l:List (Nat × Nat)} {a:Act} {w0 w:World}
  (h:∀ K:Act→World→Prop,(∀ a' w',(wv md ops T i=true→xp w0 w')→xW P md ops Q w0 (fun _=>True) T T3 l a' w'→K a' w')→yE P ops Q i K a w):xW P md ops Q w0 (fun _=>True) T T3 ((i,0) :: l) a w:=
 zm fun K hK=>h K fun a' w' k1 k2=>hK a' w' k1 (fun _=>trivial) k2
theorem zo {a:Act} {w0 w:World} (h:Q .normal a w):xW P md ops Q w0 R T T3 [] a w:=h
theorem xp.more {w0 w:World} (h:xp w0 w) (n:Nat):xp w0 (w.drewN n):=by
 obtain ⟨m,rfl⟩:=h;exact ⟨m+n,World.drewN_drewN _ _ _⟩
theorem xp.refl (w:World):xp w w:=⟨0,rfl⟩
end
end Go.Proofs.YtnlbafjmbamoeaaGreat
namespace Go.Proofs.YtnlbafjmbamoeaaGreat
open Go.RowKit Lib
open Ieee (double)
theorem rR {w:World} {B H:Nat} (hH:w.heap[H]? = some (.cells #[] 31 (0,0))) (hB:B≤H):w.ownsRow B 31 1 (.slice (some ⟨H,0,none⟩) 0 0) 0 []:=
 ⟨by simp,.inr ⟨H,0,#[],rfl,hB,hH,Nat.le_refl _,by unfold maxLen; omega,by simp,by simp⟩⟩
theorem mM (ty:TypeId) (B H n c:Nat) (p:Option Addr) (f:Nat→Nat) (w:World) (hH:w.heap[H]? = some (.cells #[] 31 (0,0))) (hB:B≤H) (hr:zT w (.slice p n c) n f) (hn:n≤1000) :
  ∃ R cap w',(Builtin.append_ #[30,30] ty #[.slice (some ⟨H,0,none⟩) 0 0,.slice p n c]).run Tryz.prog w=.ok (.slice (some ⟨R,0,none⟩) n cap) w'∧yd w' B R n cap f∧w.grownBy w' (some H)∧(R=H∨R=w.heap.size):=by
 obtain ⟨iF,hF,f1,f2,f3⟩:=info_parts xu;have ho:=rR hH hB;have hs:H<w.heap.size:=(ho.lt H rfl).2;obtain ⟨a,c',hv,-,har⟩:=hr;simp only [Value.slice.injEq] at hv;obtain ⟨rfl,-,rfl⟩:=hv
 cases p with
 | none=>
  obtain rfl:n=0:=by
   rcases Nat.eq_zero_or_pos n with h | h
   ·exact h
   ·obtain ⟨b,off,e,-⟩:=har h; cases e
  refine ⟨H,0,w,?_,⟨[],ho,fun j hj=>by omega⟩,⟨rfl,rfl,rfl,Nat.le_refl _,fun _ _ _=>rfl⟩,.inl rfl⟩;simp [Builtin.append_,run_underlying Tryz.underlying30,sizeOf,typeInfo,hF,Builtin.lenOf,Builtin.firstCells,storeCells]
 | some ad=>
  have hys:∃ ys:List Value,ys.length=n∧yO ys n f∧(∀ j v,ys[j]? = some v→w.cell? (ad.add j)=some v)∧∀ v ∈ ys,v.oneCell'=true:=by
   rcases Nat.eq_zero_or_pos n with h | h
   ·subst h; exact ⟨[],rfl,fun j hj=>by omega,fun j v hv=>by simp at hv,fun v hv=>by simp at hv⟩
   ·obtain ⟨b,off,e,hbs,hc⟩:=har h;simp only [Option.some.injEq] at e;subst e;obtain ⟨ys,y1,y2,y3,y4⟩:=vE hc;refine ⟨ys,y1,y2,fun j u hu=>?_,y4⟩;have e:(⟨b,off,none⟩:Addr).add j=⟨b,off+j,none⟩:=by simp [Addr.add]
    rw [e]; exact y3 j u hu
  obtain ⟨ys,y1,y2,y3,y4⟩:=hys;obtain ⟨v',w',hr,h2,h3,h4,h5⟩:=run_append_own_at (P:=Tryz.prog) w B 30 ty 31 iF (.float .f64 0) 1 8 Tryz.underlying30 hF f1 f2 f3 rfl (by decide) (.slice (some ⟨H,0,none⟩) 0 0) 0 [] ho ad n c ys (by omega) y3 y4 (by unfold maxLen; omega) (by omega) (by omega);rw [Nat.zero_add,List.nil_append] at h2;rcases id h2.2 with ⟨e,-⟩ | ⟨R,cap,cur,rfl,-⟩
  ·have:=(h4.1 e).1; cases this
  ·exact ⟨R,cap,w',hr,⟨ys,h2,y2⟩,h3,by rcases h5 with e | e<;>simp only [Value.ownBlock,Option.some.injEq] at e<;>omega⟩
theorem nW {ops:Array Oper} {o:Oper} {a:Act} {w:World} {K:Act→World→Prop} {Q:Exit→Act→World→Prop} {E:Prop} (hg:o.guard=none) (s x:Operand)
  (ho:o.op=.call { callee:=.builtin .append,args:=#[s,x],argTypes:=#[30,30] })
  (B H n c:Nat) (p:Option Addr) (f:Nat→Nat) (w0:World) (hs:a.eval s=.slice (some ⟨H,0,none⟩) 0 0) (hx:a.eval x=.slice p n c)
  (hb:Below B w0 w) (hH:w.heap[H]? = some (.cells #[] 31 (0,0))) (hB:B≤H) (hr:∀ W c,Below B w0 W→zT W (.slice p n c) n f) (hn:n≤1000)
  (h:∀ R cap w',yd w' B R n cap f→Below B w0 w'→(∀ k,k<w.heap.size→k≠H→w'.heap[k]? = w.heap[k]?)→w.heap.size≤w'.heap.size→(R=H∨R=w.heap.size)→R<w'.heap.size→K (a.put o.dst (.slice (some ⟨R,0,none⟩) n cap)) w') :
  if Region.wanted o (yielded ops a.tmps)=true then Oper.wp Tryz.prog o a w K Q else E:=by
 have hw:Region.wanted o (yielded ops a.tmps)=true:=by simp [Region.wanted,hg]
 rw [if_pos hw];obtain ⟨R,cap,w',hrun,h2,h3,h4⟩:=mM o.type B H n c p f w hH hB (hr w c hb) hn;have hHs:H<w.heap.size:=((rR hH hB).lt H rfl).2;have hb':Below B w0 w':=hb.grown h3 (by omega) (fun k hk=>by simp only [Option.some.injEq] at hk; omega);unfold Oper.wp execOp;simp only [ho,resolve,invoke,builtin,Sem.run_bind,Sem.run_pure,Result.andThen_ok,List.map_toArray,List.map_cons,List.map_nil,hs,hx,hrun];exact h R cap w' h2 hb' (fun k hk hne=>h3.block k hk (fun e=>hne (by simpa using e))) h3.size h4 h2.lt.2
end Go.Proofs.YtnlbafjmbamoeaaGreat
namespace Go.Proofs.YtnlbafjmbamoeaaGreat
open Go.RowKit Lib
open Ieee (double)
attribute [local go_sem] zr zi zy zn zU zS zW zX zV zY zD zH zI zJ zK zB ye z8 zF yE
theorem t9 {x y:Nat} (h:zk x=zk y):qP x y=true:=by
 have hn:isN x=isN y:=by rw [← yN x,h,yN]
 unfold qP;rw [← wJ,h,zD,yN,hn];cases isN y<;>rfl
theorem l6 {x y:Nat} (w:World) (h:qP x y=true):Calls Tryz.prog 49 #[.float .f64 x,.float .f64 y] w fun e w'=>e=.returned (.bool true)∧w'=w:=
 (mx x y w).mono fun _ _ ⟨h1,h2⟩=>⟨h1.trans (by rw [h]),h2.symm⟩
set_option maxHeartbeats 16000000
theorem me (u v:Value) (n:Nat) (f:Nat→Nat) (w:World) (hu:zT w u n f) (hv:zT w v n f):Calls Tryz.prog 24 #[u,v] w (xf (.bool true) w):=by
 obtain ⟨a,ca,rfl,hn,har⟩:=hu;obtain ⟨b,cb,rfl,-,hbr⟩:=hv;have HA:=hid har;have HB:=hid hbr;have hne:((n:Int) != n)=false:=by simp
 clear har hbr;go_enter Tryz.func24,Tryz.ntmps24;go_wp2_with fail
 go_loopw [5] (fun i wr=>∃ j:Nat,j≤n∧i=.int .i64 j∧Below w.heap.size w wr) (fun i _=>n-(intOf i).toNat)
 case atStart=>exact ⟨0,by omega,rfl,Below.refl _ _⟩
 case round=>
  obtain ⟨j,hj,rfl,hbw⟩:=hrel;by_cases hlt:j<n
  ·obtain ⟨b1,o1,rfl,hs1,hc1⟩:=HA.out (by omega);obtain ⟨b2,o2,rfl,hs2,hc2⟩:=HB.out (by omega);obtain ⟨x,x1,x2,x3⟩:=hc1 j hlt;obtain ⟨y,y1,y2,y3⟩:=hc2 j hlt;rw [← (zA hbw).1 _ _ hs1] at x1;rw [← (zA hbw).1 _ _ hs2] at y1;have hs:=t9 (x2.trans y2.symm);have HBW:=hid hbw;clear hc1 hc2 x2 y2 hbw;go_wp2_with fail
   go_quiet ((go_at_call 49; exact Calls.quiet_of_same (l6 _ (by assumption))))
   go_wp2_with fail
   go_roundw
   case rel=>exact ⟨j+1,by omega,by go_num,yc HBW.out _⟩
   case measure=>simp [intOf]; omega
  ·go_wp2_with fail;go_ret;exact ⟨rfl,hbw⟩
theorem pA (u v:Value) (n:Nat) (m:Nat→Nat) (f:Nat→Nat→Nat) (w:World) (hu:yB w u n m f) (hv:yB w v n m f):Calls Tryz.prog 29 #[u,v] w (xf (.bool true) w):=by
 obtain ⟨a,ca,rfl,hn,har⟩:=hu;obtain ⟨b,cb,rfl,-,hbr⟩:=hv;have HA:=hid har;have HB:=hid hbr;have hne:((n:Int) != n)=false:=by simp
 clear har hbr;go_enter Tryz.func29,Tryz.ntmps29;go_wp2_with fail
 go_loopw [5] (fun i wr=>∃ j:Nat,j≤n∧i=.int .i64 j∧Below w.heap.size w wr) (fun i _=>n-(intOf i).toNat)
 case atStart=>exact ⟨0,by omega,rfl,Below.refl _ _⟩
 case round=>
  obtain ⟨j,hj,rfl,hbw⟩:=hrel;by_cases hlt:j<n
  ·obtain ⟨b1,o1,rfl,hs1,hc1⟩:=HA.out (by omega);obtain ⟨b2,o2,rfl,hs2,hc2⟩:=HB.out (by omega);obtain ⟨x,x1,x2⟩:=hc1 j hlt;obtain ⟨y,y1,y2⟩:=hc2 j hlt;have RT:=hid (fun W (hW:Below w.heap.size w W)=>me x y (m j) (f j) W (x2.below hW) (y2.below hW));have HBW:=hid hbw;have HC:=hid (show ∀ W,Below w.heap.size w W→W.cell? ⟨b1,o1+j,none⟩=some x∧W.cell? ⟨b2,o2+j,none⟩=some y from fun W hW=>⟨((zA hW).1 _ _ hs1).trans x1,((zA hW).1 _ _ hs2).trans y1⟩);clear hc1 hc2 x2 y2 hbw x1 y1;go_wp2_with fail;refine zw [(0,1),(1,1),(2,1),(3,2),(4,1),(5,1),(6,1),(7,2),(8,0),(9,1)] (by kernel_rfl) (by kernel_rfl) (fun _ _ d _ _ h=>by cases d<;>exact h) ?_;intro Z hZ;have hbZ:Below w.heap.size w Z:=by rw [hZ]; exact HBW.out.drew
   clear hZ;obtain ⟨x1,y1⟩:=HC.out _ hbZ
   iterate 8
    first
     | refine zd (fun K hK=>?_)
     | refine ze (fun K hK=>?_)
    go_simp;refine hK _ ?_;clear hK K
   refine zx (fun K hK=>?_);go_simp;refine (RT.out Z hbZ).mono ?_;rintro e w2 ⟨rfl,hb2⟩;refine hK _ _ (fun h=>Bool.noConfusion (Eq.trans (Eq.symm (by kernel_rfl:_=false)) h)) ?_;clear hK K
   iterate 1
    first
     | refine zd (fun K hK=>?_)
     | refine ze (fun K hK=>?_)
    go_simp;refine hK _ ?_;clear hK K
   refine zo ?_;have HB2:=hid (hbZ.trans (hb2.mono hbZ.size));clear x1 y1 hb2 hbZ;go_wp2_with fail
   go_roundw
   case rel=>exact ⟨j+1,by omega,by go_num,HB2.out⟩
   case measure=>simp [intOf]; omega
  ·go_wp2_with fail;go_ret;exact ⟨rfl,hbw⟩
end Go.Proofs.YtnlbafjmbamoeaaGreat
namespace Go.Proofs.YtnlbafjmbamoeaaGreat
open Go Lib
inductive OT where
 | nil
 | stop
 | op (i k:Nat) (t:OT)
 | alt (i:Nat) (t more:OT)
def OT.heads:OT→List Nat
 | .alt i _ more=>i :: more.heads
 | _=>[]
def OT.deep:OT→Nat
 | .nil=>0
 | .stop=>0
 | .op _ _ t=>t.deep+1
 | .alt _ t more=>max (t.deep+1) more.deep
section
variable {P : Program} {ops : Array Oper} {Q : Exit → Act → World → Prop} {md : Region.Mode} {R : World → Prop} {D T3 : List Nat}
def tR (md:Region.Mode) (ops:Array Oper) (D T3:List Nat):OT→Array Bool→Bool→Bool
 | .nil,listed,hd=>hd&&(Region.ready md ops listed).isEmpty
 | .stop,_,hd=>!hd
 | .op i k t,listed,hd=>(hd&&((Region.ready md ops listed).contains i&&Region.free md ops listed i))&&((!D.contains i&&(k==1 || (k==3&&T3.contains i)))&&tR md ops D T3 t (listed.setIfInBounds i true) true)
 | .alt i t more,listed,hd=>((!hd || (Region.ready md ops listed).all fun j=>(i :: more.heads).contains j)&&(!hd || !(Region.ready md ops listed).isEmpty))&&((D.contains i&&tR md ops D T3 t (listed.setIfInBounds i true) true)&&tR md ops D T3 more listed false)
def xl (P:Program) (md:Region.Mode) (ops:Array Oper) (Q:Exit→Act→World→Prop) (R:World→Prop) (T3:List Nat):OT→Act→World→Prop
 | .nil,a,w=>Q .normal a w
 | .stop,_,_=>True
 | .op i k t,a,w=>if k=1 then z8 P ops i (fun a'=>xl P md ops Q R T3 t a' w) a else ov P ops R i (fun a'=>xl P md ops Q R T3 t a' w) a
 | .alt i t more,a,w=>wpOp P ops Q i (fun a' w'=>(wv md ops T3 i=true→R w')∧xl P md ops Q R T3 t a' w') a w∧xl P md ops Q R T3 more a w
theorem pF {listed:Array Bool} {a:Act} {w:World} {j:Nat}:∀ {t:OT} {hd:Bool},j ∈ t.heads→tR md ops D T3 t listed hd=true→xl P md ops Q R T3 t a w →
  ∃ s,s.deep+1≤t.deep∧D.contains j=true∧tR md ops D T3 s (listed.setIfInBounds j true) true=true∧wpOp P ops Q j (fun a' w'=>(wv md ops T3 j=true→R w')∧xl P md ops Q R T3 s a' w') a w
 | .nil,_,h,_,_=>by cases h
 | .stop,_,h,_,_=>by cases h
 | .op _ _ _,_,h,_,_=>by cases h
 | .alt i t more,hd,h,hB,hw=>by
  simp only [tR,Bool.and_eq_true] at hB;obtain ⟨-,⟨h2,h3⟩,h4⟩:=hB;obtain ⟨w1,w2⟩:=hw;rcases List.mem_cons.1 h with rfl | h
  ·exact ⟨t,by simp only [OT.deep]; omega,h2,h3,w1⟩
  ·obtain ⟨s,s1,s2,s3,s4⟩:=pF h h4 w2;exact ⟨s,by simp only [OT.deep]; omega,s2,s3,s4⟩
theorem x9 (hs:Region.noSelect ops=true) (hQ:∀ c a d v w,Q (.panic c) (a.put d v) w→Q (.panic c) a w):∀ (n:Nat) (t:OT) (listed:Array Bool) (a:Act) (w:World),t.deep≤n→(um T3 listed=true→R w)→tR md ops D T3 t listed true=true→xl P md ops Q R T3 t a w→un P md ops Q (fun _=>True) R D [] T3 n listed a w
 | 0,.nil,listed,a,w,_,_,hB,h=>⟨by simpa [tR] using hB,h⟩
 | n+1,.nil,listed,a,w,_,_,hB,h=>by
  have e:Region.ready md ops listed=[]:=by simpa [tR] using hB
  exact ⟨fun _=>h,fun i hi=>by rw [e] at hi; cases hi⟩
 | _,.stop,_,_,_,_,_,hB,_=>by simp [tR] at hB
 | 0,.op i k t,_,_,_,hd,_,_,_=>by simp only [OT.deep] at hd; omega
 | 0,.alt i t more,_,_,_,hd,_,_,_=>by simp only [OT.deep] at hd; omega
 | n+1,.op i k t,listed,a,w,hd,hP,hB,h=>by
  simp only [OT.deep] at hd;simp only [tR,Bool.and_eq_true,Bool.not_eq_true',Bool.or_eq_true,beq_iff_eq] at hB;obtain ⟨⟨-,h1,h2⟩,⟨h3,hk⟩,h4⟩:=hB;unfold xl at h;split at h
  ·obtain ⟨o,v,ho,hy,hr⟩:=wY h;exact xv h3 (.inl fun _=>trivial) ho (Region.noSelect_spec hs) (fun c a w=>hQ c a _ _ w) n listed a w (Region.free_spec ho h2) (by simpa using h1) hy (fun _=>trivial) hP (x9 hs hQ n t _ _ _ (by omega) (xC hP) h4 hr)
  ·rename_i h1k
   obtain ⟨o,v,ho,hy,hr⟩:=h;rcases hk with hk | ⟨-,h5⟩
   ·exact absurd hk h1k
   ·exact xv h3 (.inr (.inr ⟨rfl,by simpa using h5⟩)) ho (Region.noSelect_spec hs) (fun c a w=>hQ c a _ _ w) n listed a w (Region.free_spec ho h2) (by simpa using h1) hy (fun _=>trivial) hP (x9 hs hQ n t _ _ _ (by omega) (xC hP) h4 hr)
 | n+1,.alt i t more,listed,a,w,hd,hP,hB,h=>by
  have hB0:=hB;simp only [tR,Bool.and_eq_true,Bool.not_true,Bool.false_or,List.all_eq_true] at hB;obtain ⟨⟨h1,h0⟩,-⟩:=hB;refine ⟨fun e=>(by rw [e] at h0; cases h0),fun j hj=>?_⟩
  have hjh:j ∈ (OT.alt i t more).heads:=by
   have:=h1 j hj;exact List.contains_iff_mem.1 this
  obtain ⟨s,s1,s2,s3,s4⟩:=pF hjh hB0 h;refine wpOp_mono (fun a' w' k=>⟨by unfold t5; rw [if_pos s2]; exact ⟨fun _=>trivial,k.1⟩,x9 hs hQ n s _ a' w' (by omega) (fun hp=>?_) s3 k.2⟩) s4;obtain ⟨x,hx,-,hu⟩:=vI hp;exact k.1 (ts hj hx hu)
theorem yM (t:OT) (D T3:List Nat) (R:World→Prop) {id:Nat} {a:Act} {w:World} (hm:P.follows .mixedOrders=true)
  (hB:(Region.noSelect ops&&decide (t.deep≤ops.size)&&tR .any ops D T3 t (Array.replicate ops.size false) true)=true) (hQ:∀ c a d v w,Q (.panic c) (a.put d v) w→Q (.panic c) a w)
  (hR:R w.drew) (h:∀ W,W=w.drew→R W→xl P .any ops Q R T3 t a W):(Code.region id ops true).wp P Q a w:=by
 simp only [Bool.and_eq_true,decide_eq_true_eq] at hB;obtain ⟨⟨h1,h2⟩,h3⟩:=hB;exact wp_region_any hm (vT (S:=fun _=>True) (R:=R) (D:=D) (T:=[]) (T3:=T3) _ _ _ _ (x9 h1 hQ _ t _ _ _ h2 (fun _=>hR) h3 (h _ rfl hR)))
theorem zu {i:Nat} {t:OT} {a:Act} {w:World} (h:∀ K:Act→Prop,(∀ a',xl P md ops Q R T3 t a' w→K a')→z8 P ops i K a):xl P md ops Q R T3 (.op i 1 t) a w:=by
 unfold xl;rw [if_pos rfl];exact h _ (fun _ k=>k)
theorem yg {i:Nat} {t:OT} {a:Act} {w:World} {o:Oper} {v:Value} (ho:ops[i]? = some o) (hw:Region.wanted o (yielded ops a.tmps)=true) (hy:∀ w,R w→(execOp a.eval o).run P w=.ok (.value v) w) (h:xl P md ops Q R T3 t (a.put o.dst v) w):xl P md ops Q R T3 (.op i 3 t) a w:=by
 unfold xl;rw [if_neg (by decide)];exact ⟨o,v,ho,.inl ⟨hw,hy⟩,h⟩
theorem zq {i:Nat} {t more:OT} {a:Act} {w:World} (h:∀ K:Act→World→Prop,(∀ a' w',(wv md ops T3 i=true→R w')→xl P md ops Q R T3 t a' w'→K a' w')→yE P ops Q i K a w) (h2:xl P md ops Q R T3 more a w):xl P md ops Q R T3 (.alt i t more) a w:=by
 refine ⟨?_,h2⟩;have k:=h (fun a' w'=>(wv md ops T3 i=true→R w')∧xl P md ops Q R T3 t a' w') (fun a' w' k1 k2=>⟨k1,k2⟩);show wpOp P ops Q i _ a w;unfold wpOp;unfold yE at k;split
 ·rename_i e; rw [e] at k; cases k
 ·rename_i o e
  rw [e] at k;simp only [] at k;split
  ·rename_i hw; rw [if_pos hw] at k; exact .inl k
  ·rename_i hw; rw [if_neg hw] at k; exact k
theorem zt {a:Act} {w:World}:xl P md ops Q R T3 .stop a w:=trivial
theorem yt {a:Act} {w:World} (h:Q .normal a w):xl P md ops Q R T3 .nil a w:=h
end
inductive sc (p:Nat→Prop):List Nat→Prop where
 | nil:sc p []
 | cons {j:Nat} {l:List Nat} (h:p j) (t:sc p l):sc p (j :: l)
theorem sc.get {p:Nat→Prop} {l:List Nat} (h:sc p l) {j:Nat} (hj:j ∈ l):p j:=by
 induction h with
 | nil=>cases hj
 | cons h _ ih=>
  rcases List.mem_cons.1 hj with rfl | hj
  ·exact h
  ·exact ih hj
def oR (dep:List (Nat × List Nat)) (j:Nat):List Nat:=(dep.filter fun p=>p.1==j).flatMap fun p=>p.2
def more (L:Nat→Bool) (j:Nat):Nat→Bool:=fun k=>k==j || L k
theorem m5 (listed:Array Bool) (j:Nat):(fun k=>(listed.setIfInBounds j true).getD k true)=more (fun k=>listed.getD k true) j:=by
 funext k
 unfold more;by_cases e:k=j
 ·subst e;rcases Nat.lt_or_ge k listed.size with h | h
  ·simp [h]
  ·simp
 ·rw [getD_set_ne true (Ne.symm e)];simp [e]
theorem sh {w:World} {p q:Nat} {c d:Array Value} {t u:TypeId} {f g:Nat × Nat} (hp:w.heap[p]? = some (.cells c t f)) (hq:w.heap[q]? = some (.cells d u g)) (h:t≠u):p≠q:=by
 rintro rfl;rw [hp] at hq;injection hq with hq
 injection hq with _ e _
 exact h e
section
variable {P : Program} {ops : Array Oper} {Q : Exit → Act → World → Prop} {md : Region.Mode} {R : World → Prop} {D T3 : List Nat} {dep : List (Nat × List Nat)}
def m6 (md:Region.Mode) (ops:Array Oper) (D:List Nat) (dep:List (Nat × List Nat)):Nat→Array Bool→Bool
 | 0,listed=>(Region.ready md ops listed).isEmpty&&D.all fun d=>listed.getD d true
 | n+1,listed=>(!(Region.ready md ops listed).isEmpty || D.all fun d=>listed.getD d true) &&
  (Region.ready md ops listed).all fun j=>(D.contains j&&(oR dep j).all fun d=>listed.getD d true)&&m6 md ops D dep n (listed.setIfInBounds j true)
def Does (P:Program) (md:Region.Mode) (ops:Array Oper) (Q:Exit→Act→World→Prop) (R:World→Prop) (T3:List Nat) (dep:List (Nat × List Nat)) (I:(Nat→Bool)→Act→World→Prop) (j:Nat):Prop:=
 ∀ (L:Nat→Bool) (a:Act) (w:World),L j=false→(∀ d ∈ oR dep j,L d=true)→I L a w→∀ K:Act→World→Prop,(∀ a' w',(wv md ops T3 j=true→R w')→I (more L j) a' w'→K a' w')→yE P ops Q j K a w
theorem qx {I:(Nat→Bool)→Act→World→Prop} {j:Nat} (h:Does P md ops Q R T3 dep I j) {L:Nat→Bool} {a:Act} {w:World} (hL:L j=false) (hd:∀ d ∈ oR dep j,L d=true) (hI:I L a w) :
  wpOp P ops Q j (fun a' w'=>(wv md ops T3 j=true→R w')∧I (more L j) a' w') a w:=by
 have k:=h L a w hL hd hI (fun a' w'=>(wv md ops T3 j=true→R w')∧I (more L j) a' w') (fun a' w' k1 k2=>⟨k1,k2⟩);unfold wpOp;unfold yE at k;split
 ·rename_i e; rw [e] at k; cases k
 ·rename_i o e
  rw [e] at k;simp only [] at k;split
  ·rename_i hw; rw [if_pos hw] at k; exact .inl k
  ·rename_i hw; rw [if_neg hw] at k; exact k
theorem uN {I:(Nat→Bool)→Act→World→Prop} (hop:sc (Does P md ops Q R T3 dep I) D) (hend:∀ L a w,(∀ d ∈ D,L d=true)→I L a w→Q .normal a w) :
  ∀ (n:Nat) (listed:Array Bool) (a:Act) (w:World),m6 md ops D dep n listed=true→I (fun k=>listed.getD k true) a w→un P md ops Q (fun _=>True) R D [] T3 n listed a w
 | 0,listed,a,w,hB,hI=>by
  simp only [m6,Bool.and_eq_true,List.all_eq_true] at hB;exact ⟨by simpa using hB.1,hend _ a w (fun d hd=>hB.2 d hd) hI⟩
 | n+1,listed,a,w,hB,hI=>by
  simp only [m6,Bool.and_eq_true,Bool.or_eq_true,Bool.not_eq_true',List.all_eq_true] at hB;obtain ⟨h0,h1⟩:=hB;refine ⟨fun e=>?_,fun j hj=>?_⟩
  ·rcases h0 with h0 | h0
   ·rw [e] at h0; cases h0
   ·exact hend _ a w (fun d hd=>h0 d hd) hI
  ·obtain ⟨⟨h2,h3⟩,h4⟩:=h1 j hj
   have hu:listed.getD j true=false:=by
    have:=(mem_ready.1 hj).1
    simpa using this
   refine wpOp_mono (fun a' w' k=>⟨by unfold t5; rw [if_pos h2]; exact ⟨fun _=>trivial,k.1⟩,uN hop hend n _ a' w' h4 (by rw [m5]; exact k.2)⟩) (qx (hop.get (List.contains_iff_mem.1 h2)) hu h3 hI)
def mf (md:Region.Mode) (ops:Array Oper) (D T3:List Nat) (dep:List (Nat × List Nat)):Nat→List (Nat × Nat)→Array Bool→Bool
 | n,[],listed=>(D.all fun d=>!listed.getD d true)&&m6 md ops D dep n listed
 | 0,_ :: _,_=>false
 | n+1,(i,k) :: l,listed=>((Region.ready md ops listed).contains i&&Region.free md ops listed i)&&((!D.contains i&&(k==1 || (k==3&&T3.contains i)))&&mf md ops D T3 dep n l (listed.setIfInBounds i true))
def vY (P:Program) (ops:Array Oper) (R:World→Prop) (D:List Nat) (I:(Nat→Bool)→Act→World→Prop):List (Nat × Nat)→Act→World→Prop
 | [],a,w=>∀ L:Nat→Bool,(∀ d ∈ D,L d=false)→I L a w
 | (i,k) :: l,a,w=>if k=1 then z8 P ops i (fun a'=>vY P ops R D I l a' w) a else ov P ops R i (fun a'=>vY P ops R D I l a' w) a
theorem wC {I:(Nat→Bool)→Act→World→Prop} (hs:Region.noSelect ops=true) (hQ:∀ c a d v w,Q (.panic c) (a.put d v) w→Q (.panic c) a w) (hop:sc (Does P md ops Q R T3 dep I) D) (hend:∀ L a w,(∀ d ∈ D,L d=true)→I L a w→Q .normal a w) :
  ∀ (n:Nat) (l:List (Nat × Nat)) (listed:Array Bool) (a:Act) (w:World),(um T3 listed=true→R w)→mf md ops D T3 dep n l listed=true→vY P ops R D I l a w→un P md ops Q (fun _=>True) R D [] T3 n listed a w
 | n,[],listed,a,w,_,hB,h=>by
  unfold mf at hB;simp only [Bool.and_eq_true,List.all_eq_true,Bool.not_eq_true'] at hB;exact uN hop hend n listed a w hB.2 (h _ fun d hd=>hB.1 d hd)
 | 0,_ :: _,_,_,_,_,hB,_=>by simp [mf] at hB
 | n+1,(i,k) :: l,listed,a,w,hP,hB,h=>by
  simp only [mf,Bool.and_eq_true,Bool.not_eq_true',Bool.or_eq_true,beq_iff_eq] at hB;obtain ⟨⟨h1,h2⟩,⟨h3,hk⟩,h4⟩:=hB;unfold vY at h;split at h
  ·obtain ⟨o,v,ho,hy,hr⟩:=wY h;exact xv h3 (.inl fun _=>trivial) ho (Region.noSelect_spec hs) (fun c a w=>hQ c a _ _ w) n listed a w (Region.free_spec ho h2) (by simpa using h1) hy (fun _=>trivial) hP (wC hs hQ hop hend n l _ _ _ (xC hP) h4 hr)
  ·rename_i h1k
   obtain ⟨o,v,ho,hy,hr⟩:=h;rcases hk with hk | ⟨-,h5⟩
   ·exact absurd hk h1k
   ·exact xv h3 (.inr (.inr ⟨rfl,by simpa using h5⟩)) ho (Region.noSelect_spec hs) (fun c a w=>hQ c a _ _ w) n listed a w (Region.free_spec ho h2) (by simpa using h1) hy (fun _=>trivial) hP (wC hs hQ hop hend n l _ _ _ (xC hP) h4 hr)
theorem uO (l:List (Nat × Nat)) (D T3:List Nat) (dep:List (Nat × List Nat)) (R:World→Prop) (I:(Nat→Bool)→Act→World→Prop) {id:Nat} {a:Act} {w:World} (hm:P.follows .mixedOrders=true)
  (hB:(Region.noSelect ops&&mf .any ops D T3 dep ops.size l (Array.replicate ops.size false))=true) (hQ:∀ c a d v w,Q (.panic c) (a.put d v) w→Q (.panic c) a w)
  (hR:R w.drew) (hop:sc (Does P .any ops Q R T3 dep I) D) (hend:∀ L a w,(∀ d ∈ D,L d=true)→I L a w→Q .normal a w) (h:∀ W,W=w.drew→R W→vY P ops R D I l a W):(Code.region id ops true).wp P Q a w:=by
 simp only [Bool.and_eq_true] at hB;obtain ⟨h1,h3⟩:=hB;exact wp_region_any hm (vT (S:=fun _=>True) (R:=R) (D:=D) (T:=[]) (T3:=T3) _ _ _ _ (wC h1 hQ hop hend _ l _ _ _ (fun _=>hR) h3 (h _ rfl hR)))
theorem re {I:(Nat→Bool)→Act→World→Prop} {i:Nat} {l:List (Nat × Nat)} {a:Act} {w:World} (h:∀ K:Act→Prop,(∀ a',vY P ops R D I l a' w→K a')→z8 P ops i K a):vY P ops R D I ((i,1) :: l) a w:=by
 unfold vY;rw [if_pos rfl];exact h _ (fun _ k=>k)
theorem rf {I:(Nat→Bool)→Act→World→Prop} {i:Nat} {l:List (Nat × Nat)} {a:Act} {w:World} {o:Oper} {v:Value} (ho:ops[i]? = some o) (hw:Region.wanted o (yielded ops a.tmps)=true) (hy:∀ w,R w→(execOp a.eval o).run P w=.ok (.value v) w) (h:vY P ops R D I l (a.put o.dst v) w):vY P ops R D I ((i,3) :: l) a w:=by
 unfold vY;rw [if_neg (by decide)];exact ⟨o,v,ho,.inl ⟨hw,hy⟩,h⟩
theorem r6 {I:(Nat→Bool)→Act→World→Prop} {a:Act} {w:World} (h:∀ L:Nat→Bool,(∀ d ∈ D,L d=false)→I L a w):vY P ops R D I [] a w:=h
end
end Go.Proofs.YtnlbafjmbamoeaaGreat
