/-
  Contracts and plain facts that a law's proof hangs on, besides the base's: for every input; no condition but those in their statements.
-/
import Derived.Test.YtnlbafjmbamoeaaGreatQt
namespace Go.Proofs.YtnlbafjmbamoeaaGreat
open Lib
open Ieee (double)
theorem V_lt {x y:Nat}:V x<V y↔key x<key y:=by rw [vQ,vQ]; exact om
theorem V_le {x y:Nat}:V x≤V y↔key x≤key y:=by have:=@V_lt y x; omega
theorem ja (p:Int):yo 0 p=0:=by simp [yo]
theorem jh {x c:Nat} (h:zk x=c) (hc:isN c=false):x=c:=by
 have:=yN x; rw [h,hc] at this; rw [← h,wd this.symm]
theorem jg (n:Int):floatOfInt .f64 n=double.word (decide (n<0)) (yo n.natAbs 0):=sC _ _ _
theorem kY {m:Nat} (h:m<2 ^ 64):yo m 0<yC:=
 Nat.lt_of_le_of_lt (tV 0 (Nat.le_of_lt h)) (by decide +kernel)
def rnN (m:Nat):Nat:=rne m (m.log2-52)*2 ^ (m.log2-52)
def rn (m:Int):Int:=if m<0 then -(rnN m.natAbs:Int) else rnN m.natAbs
theorem jd {m:Nat} (h:m<2 ^ 53):m.log2-52=0:=by
 by_cases h0:m=0
 ·subst h0; decide
 ·have a:=wN h0;have:2 ^ m.log2<2 ^ 53:=by omega
  have:=(Nat.pow_lt_pow_iff_right (a:=2) (by decide)).1 this;omega
theorem kW {m:Nat} (h:m<2 ^ 53):rnN m=m:=by
 unfold rnN; rw [jd h,wj]; simp
theorem ji (k:Nat) (hk:k≤100):rnN (2 ^ k)=2 ^ k:=by
 unfold rnN;have:(2 ^ k).log2=k:=by rw [Nat.log2_eq_iff (by have:=Nat.two_pow_pos k; omega)]; exact ⟨Nat.le_refl _,Nat.pow_lt_pow_right (by decide) (by omega)⟩
 rw [this];by_cases h:k≤52
 ·rw [show k-52=0 by omega,wj]; simp
 ·have e:(2:Nat) ^ k=2 ^ 52*2 ^ (k-52):=by rw [← Nat.pow_add]; congr 1; omega
  have:=tK (2 ^ 52) 0 (k-52);rw [Nat.zero_add] at this;rw [e,this,wj]
theorem jb {m:Int} (h1:-9007199254740992≤m) (h2:m≤9007199254740992):rn m=m:=by
 have:rnN m.natAbs=m.natAbs:=by
  by_cases h:m.natAbs<2 ^ 53
  ·exact kW h
  ·rw [show m.natAbs=2 ^ 53 by omega]; exact ji 53 (by decide)
 unfold rn; rw [this]; split<;>omega
theorem je {m d:Nat} (h1:2 ^ (d+52)≤m) (h2:m<2 ^ (d+53)):p52≤rne m d∧rne m d≤2*p52:=by
 have a:=oq h1;have b:=oo h2;have e1:(2:Nat) ^ 52=p52:=by decide
 have e2:(2:Nat) ^ 53=2*p52:=by decide
 omega
theorem jk {E t:Nat} (h1:p52≤t) (h2:t≤2*p52):U (E*p52+t)=t*2 ^ E:=by
 have hp:0<p52:=by decide
 by_cases h3:t=2*p52
 ·subst h3;have d1:(E*p52+2*p52) / p52=E+2:=by rw [← Nat.add_mul,Nat.mul_div_cancel _ hp]
  have d2:(E*p52+2*p52) % p52=0:=by rw [← Nat.add_mul,Nat.mul_mod_left]
  unfold U;rw [if_neg (by omega),d1,d2,Nat.add_zero,show E+2-1=E+1 by omega,Nat.pow_succ,Nat.mul_comm (2 ^ E) 2,← Nat.mul_assoc,Nat.mul_comm p52 2]
 ·have d1:(E*p52+t) / p52=E+1:=by
   apply Nat.div_eq_of_lt_le
   ·rw [Nat.add_mul]; omega
   ·rw [Nat.add_mul,Nat.add_mul]; omega
  have d2:=Nat.div_add_mod (E*p52+t) p52;unfold U;rw [if_neg (by omega),d1,show E+1-1=E by omega]
  congr 1
  rw [d1,Nat.mul_add,Nat.mul_comm p52 E] at d2;omega
theorem jl {m:Nat} {p:Int} (hp:-1074≤p) (hf:yo m p<yC):U (yo m p)=rnN m*2 ^ (p+1074).toNat:=by
 by_cases h:m<2 ^ 53
 ·rw [mq h hp hf,kW h]
 ·have h0:m≠0:=by omega
  have hl:53≤m.log2:=by
   have b:=wM m;have:2 ^ 53<2 ^ (m.log2+1):=by omega
   have:=(Nat.pow_lt_pow_iff_right (a:=2) (by decide)).1 this;omega
  have a:=wN h0; have b:=wM m;unfold yo at hf ⊢;rw [if_neg h0] at hf ⊢;rw [show max (p+(m.log2:Int)-52) (-1074)=p+m.log2-52 by omega] at hf ⊢
  rw [show (p-(p+(m.log2:Int)-52)).toNat=0 by omega,Nat.pow_zero,Nat.mul_one,show (p+(m.log2:Int)-52-p).toNat=m.log2-52 by omega,
   show (p+(m.log2:Int)-52+1074).toNat=(p+1074).toNat+(m.log2-52) by omega] at hf ⊢
  rw [Nat.min_eq_left (by omega)];obtain ⟨r1,r2⟩:=je (m:=m) (d:=m.log2-52) (by rw [show m.log2-52+52=m.log2 by omega]; exact a) (by rw [show m.log2-52+53=m.log2+1 by omega]; exact b);rw [jk r1 r2];unfold rnN;rw [Nat.add_comm (p+1074).toNat,Nat.pow_add,← Nat.mul_assoc]
theorem Is.down {a:Nat} {m k:Int} (h:Is a m k) (j:Nat) (hj:-1074≤k-j):Is a (m*(2 ^ j:Nat)) (k-j):=by
 refine ⟨h.1,h.2.1,hj,?_⟩;rw [h.2.2.2,Int.mul_assoc,← Int.natCast_mul,← Nat.pow_add]
 congr 3; omega
def jf (m k:Int):Prop:=yo m.natAbs k<yC
theorem fits_of {m k:Int} (B:Nat) (c:Nat) (hm:m.natAbs<2 ^ B) (hk:k+B≤c) (hc:c≤1023):jf m k:=by
 unfold jf;have h1:yo m.natAbs k≤yo (2 ^ B) k:=tV k (Nat.le_of_lt hm);have h2:=yZ 1 (k+B) B;rw [Nat.one_mul,show k+(B:Int)-(B:Nat)=k by omega] at h2
 have h3:yo 1 (k+B)≤yo 1 1023:=by
  obtain ⟨j,hj⟩:∃ j:Nat,(j:Int)=1023-(k+B):=⟨(1023-(k+B)).toNat,by omega⟩;have:=yZ 1 1023 j;rw [show (1023:Int)-(j:Nat)=k+B by omega,Nat.one_mul] at this;rw [← this];exact tV _ (Nat.two_pow_pos _)
 have h4:yo 1 1023<yC:=by decide +kernel
 omega
theorem kV {s:Bool} {m k:Int} (hk:-1074≤k) (hf:jf m k) (hs:m≠0→s=decide (m<0)):Is (double.word s (yo m.natAbs k)) (rn m) k:=by
 have hle:=uI m.natAbs k;refine ⟨sq _ hle,by rw [wo _ hle]; exact hf,hk,?_⟩;rw [kj _ hle,jl hk hf];unfold rn sgd;by_cases h0:m=0
 ·subst h0;have:rnN (Int.natAbs 0)=0:=kW (by decide);rw [this]; cases s<;>simp
 ·rw [hs h0];by_cases hn:m<0
  ·simp only [hn,decide_true,if_true]; rw [Int.natCast_mul,Int.neg_mul]
  ·simp only [hn,decide_false,Bool.false_eq_true,if_false]; rw [Int.natCast_mul]
theorem kU (m:Int) (n:Nat):(m*(2 ^ n:Nat)).natAbs=m.natAbs*2 ^ n:=by rw [Int.natAbs_mul,Int.natAbs_natCast]
theorem kT (m:Int) (n:Nat):m*(2 ^ n:Nat)<0↔m<0:=by
 have hp:0<2 ^ n:=Nat.two_pow_pos _;constructor
 ·intro h; rcases Int.lt_or_le m 0 with g | g
  ·exact g
  ·have:=Int.mul_nonneg g (show (0:Int)≤(2 ^ n:Nat) by omega); omega
 ·intro h; exact Int.mul_neg_of_neg_of_pos h (by omega)
theorem kS (m:Int) (n:Nat):m*(2 ^ n:Nat)=0↔m=0:=by
 have hp:0<2 ^ n:=Nat.two_pow_pos _;constructor
 ·intro h; rcases Int.mul_eq_zero.1 h with g | g
  ·exact g
  ·omega
 ·intro h; rw [h,Int.zero_mul]
theorem kX (m:Nat) {k:Int} (hk:-1074≤k):yo (m*2 ^ (k+1074).toNat) (-1074)=yo m k:=by
 have:=yZ m k (k+1074).toNat;rw [show k-((k+1074).toNat:Int)=-1074 by omega] at this; exact this
theorem is_add {a b:Nat} {m n k:Int} (ha:Is a m k) (hb:Is b n k) (hf:jf (m+n) k):∃ r,double.add a b=some r∧Is r (rn (m+n)) k:=by
 refine ⟨_,lB ha.2.1 hb.2.1,?_⟩;have hV:V a+V b=(m+n)*(2 ^ (k+1074).toNat:Nat):=by rw [ha.2.2.2,hb.2.2.2,Int.add_mul]
 rw [hV,kU,kX _ ha.2.2.1];refine kV ha.2.2.1 hf fun h0=>?_
 rw [if_neg (fun e=>h0 ((kS _ _).1 e))];simp only [kT]
theorem is_sub {a b:Nat} {m n k:Int} (ha:Is a m k) (hb:Is b n k) (hf:jf (m-n) k):∃ r,double.sub a b=some r∧Is r (rn (m-n)) k:=by
 refine ⟨_,lC ha.2.1 hb.2.1,?_⟩;have hV:V a-V b=(m-n)*(2 ^ (k+1074).toNat:Nat):=by rw [ha.2.2.2,hb.2.2.2,Int.sub_mul]
 rw [hV,kU,kX _ ha.2.2.1];refine kV ha.2.2.1 hf fun h0=>?_
 rw [if_neg (fun e=>h0 ((kS _ _).1 e))];simp only [kT]
theorem kZ {a:Nat} {m k:Int} (h:Is a m k):U (a % p63)=m.natAbs*2 ^ (k+1074).toNat∧(m≠0→neg a=decide (m<0)):=by
 have hV:=h.2.2.2;have e:(V a).natAbs=U (a % p63):=by unfold V sgd; split<;>simp
 refine ⟨by rw [← e,hV,kU],fun h0=>?_⟩;have hs:V a<0↔m<0:=by rw [hV]; exact kT _ _
 have hz:V a≠0:=fun e0=>h0 ((kS _ _).1 (hV ▸ e0))
 unfold V sgd at hs hz;cases hn:neg a
 ·rw [hn] at hs hz; simp only [Bool.false_eq_true,if_false] at hs hz
  symm; rw [decide_eq_false_iff_not]; omega
 ·rw [hn] at hs hz; simp only [if_true] at hs hz
  symm; rw [decide_eq_true_eq]; omega
theorem is_mul {a b:Nat} {m n k l:Int} (ha:Is a m k) (hb:Is b n l) (hk:-1074≤k+l) (hf:jf (m*n) (k+l)):∃ r,double.mul a b=some r∧Is r (rn (m*n)) (k+l):=by
 refine ⟨_,qe ha.2.1 hb.2.1,?_⟩;obtain ⟨u1,s1⟩:=kZ ha;obtain ⟨u2,s2⟩:=kZ hb
 have e:U (a % p63)*U (b % p63)=(m*n).natAbs*2 ^ ((k+1074).toNat+(l+1074).toNat):=by
  rw [u1,u2,Int.natAbs_mul,Nat.pow_add];simp only [Nat.mul_assoc,Nat.mul_left_comm]
 have h1:=ha.2.2.1; have h2:=hb.2.2.1;have r:=yZ (m*n).natAbs (k+l) ((k+1074).toNat+(l+1074).toNat);rw [show k+l-(((k+1074).toNat+(l+1074).toNat:Nat):Int)=-2148 by omega] at r;rw [e,r];refine kV hk hf fun h0=>?_
 have hm:m≠0:=fun e=>h0 (by rw [e,Int.zero_mul])
 have hn:n≠0:=fun e=>h0 (by rw [e,Int.mul_zero])
 rw [s1 hm,s2 hn];by_cases g1:m<0<;>by_cases g2:n<0
 ·have:0<m*n:=Int.mul_pos_of_neg_of_neg g1 g2;simp [g1,g2,show ¬ m*n<0 by omega]
 ·have:m*n<0:=Int.mul_neg_of_neg_of_pos g1 (by omega);simp [g1,g2,this]
 ·have:m*n<0:=Int.mul_neg_of_pos_of_neg (by omega) g2;simp [g1,g2,this]
 ·have:0<m*n:=Int.mul_pos (by omega) (by omega);simp [g1,g2,show ¬ m*n<0 by omega]
theorem is_ofInt {n:Int} (h1:-9007199254740992≤n) (h2:n≤9007199254740992):Is (floatOfInt .f64 n) n 0:=by
 have:=kV (s:=decide (n<0)) (m:=n) (k:=0) (by decide) (kY (by omega)) (fun _=>rfl);rw [jb h1 h2] at this;rw [jg]; exact this
theorem Is.self {a:Nat} {m k:Int} (h:Is a m k):rn m=m:=by
 obtain ⟨u,_⟩:=kZ h;have hk:=h.2.2.1
 have hr:yo m.natAbs k=a % p63:=by
  rw [← kX _ hk,← u,qJ (Nat.le_of_lt h.2.1)]
 have:=jl hk (by rw [hr]; exact h.2.1:yo m.natAbs k<yC);rw [hr,u] at this;have e:=Nat.mul_right_cancel (Nat.two_pow_pos _) this;unfold rn; rw [← e]; split<;>omega
theorem is_scale {a:Nat} {m k:Int} (h:Is a m k) (e:Int) (hk:-1074≤k+e) (hf:jf m (k+e)):Is (yR a e) m (k+e):=by
 obtain ⟨u,s⟩:=kZ h;have h1:=h.2.2.1;have hm:=h.self;unfold yR;by_cases h0:a % p63=0
 ·rw [if_pos (Or.inl h0)];refine ⟨h.1,h.2.1,hk,?_⟩;have v0:V a=0:=by unfold V sgd; rw [h0]; split<;>simp [qd]
  have m0:m=0:=(kS _ _).1 (h.2.2.2 ▸ v0);rw [v0,m0,Int.zero_mul]
 ·have hfin:=h.2.1;rw [if_neg (by omega),u];have r:=yZ m.natAbs (k+e) (k+1074).toNat;rw [show k+e-((k+1074).toNat:Int)=e-1074 by omega] at r;rw [r];have:=kV (s:=neg a) (m:=m) hk hf s
  rwa [hm] at this
theorem is_le {a b:Nat} {m n k:Int} (ha:Is a m k) (hb:Is b n k):leB a b=decide (m≤n):=by
 unfold leB;rw [ha.num,hb.num]
 have h:key a≤key b↔m≤n:=by
  rw [← V_le,ha.2.2.2,hb.2.2.2];have hp:0<2 ^ (k+1074).toNat:=Nat.two_pow_pos _;exact ⟨fun h=>Int.le_of_mul_le_mul_right h (by omega),fun h=>Int.mul_le_mul_of_nonneg_right h (by omega)⟩
 simp [h]
theorem is_abs {a:Nat} {m k:Int} (h:Is a m k):Is (a % 9223372036854775808) (m.natAbs:Int) k:=by
 have hlt:a % p63<p63:=Nat.mod_lt _ (by decide);have e:a % 9223372036854775808=double.word false (a % p63):=by rw [ux]; rfl
 rw [e];have hle:=Nat.le_of_lt h.2.1;refine ⟨sq _ hle,by rw [wo _ hle]; exact h.2.1,h.2.2.1,?_⟩;rw [kj _ hle,(kZ h).1]; simp [sgd,Int.natCast_mul]
theorem jc {m n:Nat} (hm:m≠0) (hn:n≠0):(m*n).log2≤m.log2+n.log2+1:=by
 have a:=wM m;have b:=wM n;have h0:m*n≠0:=Nat.mul_ne_zero hm hn;have c:=wN h0;have:m*n<2 ^ (m.log2+1)*2 ^ (n.log2+1):=Nat.mul_lt_mul_of_lt_of_le a (Nat.le_of_lt b) (Nat.two_pow_pos _);rw [← Nat.pow_add] at this;have:2 ^ (m*n).log2<2 ^ (m.log2+1+(n.log2+1)):=by omega
 have:=(Nat.pow_lt_pow_iff_right (a:=2) (by decide)).1 this;omega
theorem is_quo {a b:Nat} {m n k l:Int} (ha:Is a (m*n) k) (hb:Is b n l) (hn:n≠0) (h1:-9007199254740992≤m) (h2:m≤9007199254740992) (hk:-1074≤k-l) (hf:jf m (k-l)) :
  ∃ r,double.div a b=some r∧Is r m (k-l):=by
 obtain ⟨x,i,e1,hi,e2⟩:=xV ha.2.1;obtain ⟨y,j,e3,hj,e4⟩:=xV hb.2.1;obtain ⟨u1,s1⟩:=kZ ha;obtain ⟨u2,s2⟩:=kZ hb;have hk1:=ha.2.2.1;have hl1:=hb.2.2.1;rw [u1] at e2;rw [u2] at e4;have hn':n.natAbs≠0:=by omega
 have hy:y≠0:=by
  intro h; rw [h,Nat.zero_mul] at e4;have:=Nat.two_pow_pos (l+1074).toNat;rcases Nat.mul_eq_zero.1 e4.symm with h | h<;>omega
 have hsign:m≠0→(neg a ^^ neg b)=decide (m<0):=fun h0=>by
  have hmn:m*n≠0:=by simp [h0,hn]
  rw [s1 hmn,s2 hn];by_cases g1:m<0<;>by_cases g2:n<0
  ·have:0<m*n:=Int.mul_pos_of_neg_of_neg g1 g2;simp [g1,g2,show ¬ m*n<0 by omega]
  ·have:m*n<0:=Int.mul_neg_of_neg_of_pos g1 (by omega);simp [g1,g2,this]
  ·have:m*n<0:=Int.mul_neg_of_pos_of_neg (by omega) g2;simp [g1,g2,this]
  ·have:0<m*n:=Int.mul_pos (by omega) (by omega);simp [g1,g2,show ¬ m*n<0 by omega]
 have hrn:=jb h1 h2;unfold Ieee.Format.div;rw [e1,e3];have hdig:double.fractionBits+2=54:=by decide
 simp only [Ieee.Datum.quotient,hdig,if_neg hy,Nat.shiftLeft_eq,Option.map_some,Ieee.Format.write,sC];refine ⟨_,rfl,?_⟩;generalize hmore:54+y.log2-x.log2=more
 have key:∃ E:Nat,x*2 ^ more=m.natAbs*2 ^ E*y∧(m≠0→k-l-((E+1:Nat):Int)=i-j-more-1):=by
  by_cases h0:m=0
  ·subst h0;refine ⟨0,?_,fun h=>absurd rfl h⟩
   have:x=0:=by
    rw [Int.zero_mul] at e2;simp only [Int.natAbs_zero,Nat.zero_mul] at e2;rcases Nat.mul_eq_zero.1 e2 with h | h
    ·exact h
    ·have:=Nat.two_pow_pos (i+1074).toNat; omega
   subst this; simp
  ·have hm':m.natAbs≠0:=by omega
   have heq:x*2 ^ ((i+1074).toNat+(l+1074).toNat)=m.natAbs*y*2 ^ ((j+1074).toNat+(k+1074).toNat):=by
    have:=congrArg (·*2 ^ (l+1074).toNat) e2;simp only [Int.natAbs_mul] at this;rw [Nat.pow_add,← Nat.mul_assoc,this,Nat.pow_add];rw [show m.natAbs*n.natAbs*2 ^ (k+1074).toNat*2 ^ (l+1074).toNat=m.natAbs*(n.natAbs*2 ^ (l+1074).toNat)*2 ^ (k+1074).toNat by simp only [Nat.mul_assoc,Nat.mul_left_comm,Nat.mul_comm],← e4];simp only [Nat.mul_assoc]
   have hx:x≠0:=by
    intro h; rw [h,Nat.zero_mul] at heq;have:=Nat.two_pow_pos ((j+1074).toNat+(k+1074).toNat);rcases Nat.mul_eq_zero.1 heq.symm with h | h
    ·rcases Nat.mul_eq_zero.1 h with h | h<;>omega
    ·omega
   have hlog:=congrArg Nat.log2 heq;rw [sD hx,sD (Nat.mul_ne_zero hm' hy)] at hlog;have hm1:=jc hm' hy
   have hm2:m.natAbs.log2≤53:=by
    have a:=wN hm';have:2 ^ m.natAbs.log2<2 ^ 54:=by omega
    have:=(Nat.pow_lt_pow_iff_right (a:=2) (by decide)).1 this;omega
   obtain ⟨E,hE⟩:∃ E,E+((i+1074).toNat+(l+1074).toNat)=(j+1074).toNat+(k+1074).toNat+more:=⟨(j+1074).toNat+(k+1074).toNat+more-((i+1074).toNat+(l+1074).toNat),by omega⟩;refine ⟨E,?_,fun _=>by omega⟩;apply Nat.eq_of_mul_eq_mul_right (Nat.two_pow_pos ((i+1074).toNat+(l+1074).toNat))
   rw [show x*2 ^ more*2 ^ ((i+1074).toNat+(l+1074).toNat)=x*2 ^ ((i+1074).toNat+(l+1074).toNat)*2 ^ more by ac_rfl,heq,
    Nat.mul_assoc,← Nat.pow_add,← hE,Nat.pow_add]
   ac_rfl
 obtain ⟨E,k1,k2⟩:=key;have hypos:0<y:=by omega
 rw [k1,Nat.mul_div_cancel _ hypos,Nat.mul_mod_left];rw [show 2*(m.natAbs*2 ^ E)+(0 != 0).toNat=m.natAbs*2 ^ (E+1) by rw [Nat.pow_succ]; simp [Nat.mul_left_comm,Nat.mul_comm]]
 have hr:yo (m.natAbs*2 ^ (E+1)) (i-j-more-1)=yo m.natAbs (k-l):=by
  by_cases h0:m=0
  ·subst h0; simp [ja]
  ·rw [← k2 h0,yZ]
 rw [hr];have:=kV (s:=neg a ^^ neg b) hk hf hsign;rw [hrn] at this;exact this
end Go.Proofs.YtnlbafjmbamoeaaGreat
namespace Go.Proofs.YtnlbafjmbamoeaaGreat
open Go.RowKit Lib
open Ieee (double)
attribute [local go_sem] zr zi zy zn zU zS zW zX zV zY zD zH zI zJ zK xy
theorem nP.tells {n:Nat} {f:Nat→Nat} {w w':World} {e:Ending} (hn:n≤9223372036854775807) (h:nP n f w e w'):∃ u,e=.returned u∧wO w' u n f∧Below w.heap.size w w':=by
 obtain ⟨R,h1,h2,h3⟩:=h;exact ⟨_,h1,h2.flts hn,h3⟩
end Go.Proofs.YtnlbafjmbamoeaaGreat
