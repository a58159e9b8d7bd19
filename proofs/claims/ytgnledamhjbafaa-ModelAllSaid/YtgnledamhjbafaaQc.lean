/-
  Contracts (what a function tells) and plain facts that a law's proof hangs on, for every input; no condition but those in their statements. Laid together of the texts Gb, Gc.
-/
import Derived.Lib.Hide
import Derived.Test.YtgnledamhjbafaaQb
import Derived.Laws.FloatArith
import Derived.Laws.NewFold
import Derived.Deep.Draws
import Derived.Laws.Externs
namespace Go.Proofs.Ytgnledamhjbafaa
open Lib
open Ieee (double)
theorem yE (s:Bool) (r:Nat):double.word s r=if s then p63+r else r:=by
 have e1:double.signWeight=p63:=by decide
 unfold Ieee.Format.word; rw [e1]
theorem yz (s:Bool) {r:Nat} (h:r≤zc):double.word s r % p63=r:=by
 rw [yE]; unfold zc at h; unfold p63; split<;>omega
theorem yM (s:Bool) {r:Nat} (h:r≤zc):neg (double.word s r)=s:=by
 rw [yE]; unfold zc at h; unfold neg p63;cases s
 ·rw [if_neg (by decide),show r / 9223372036854775808=0 by omega]; rfl
 ·rw [if_pos rfl,show (9223372036854775808+r) / 9223372036854775808=1 by omega]; rfl
theorem wy (s:Bool) {r:Nat} (h:r≤zc):double.word s r<18446744073709551616:=by
 rw [yE]; unfold zc at h; unfold p63; split<;>omega
theorem xd (s:Bool) {r:Nat} (h:r≤zc):key (double.word s r)=sgd s r:=by
 rw [zq,yz s h,yM s h]
theorem yA (s:Bool) {r:Nat} (h:r≤zc):isN (double.word s r)=false:=by
 unfold isN; rw [yz s h]; simp; omega
theorem tF (s:Bool) {r:Nat} (h:r≤zc):V (double.word s r)=sgd s (U r):=by
 unfold V; rw [yz s h,yM s h]
def RK (t:Int) (p:Int):Int:=sgd (decide (t<0)) (zH t.natAbs p)
theorem yP {s t:Int} (p:Int) (h:s≤t):RK s p≤RK t p:=by
 unfold RK sgd;by_cases hs:s<0<;>by_cases ht:t<0<;>simp only [hs,ht,decide_true,decide_false,if_true,Bool.false_eq_true,if_false]
 ·have:=yi p (show t.natAbs≤s.natAbs by omega); omega
 ·omega
 ·omega
 ·have:=yi p (show s.natAbs≤t.natAbs by omega); omega
theorem vI (t p:Int):RK (-t) p=- RK t p:=by
 unfold RK sgd;rw [Int.natAbs_neg];by_cases h0:t=0
 ·subst h0; simp [zH]
 ·by_cases hs:t<0
  ·simp [hs,show ¬ (0<t) by omega]
  ·simp [show (0<t) by omega,show ¬ t<0 by omega]
theorem tG (t:Int) (p:Int) (k:Nat):RK (t*(2 ^ k:Nat)) (p-k)=RK t p:=by
 unfold RK;have hp:0<2 ^ k:=Nat.two_pow_pos _;rw [Int.natAbs_mul,Int.natAbs_natCast,zN]
 congr 1
 have:t*(2 ^ k:Nat)<0↔t<0:=by
  constructor
  ·intro h; rcases Int.lt_or_le t 0 with g | g
   ·exact g
   ·have:=Int.mul_nonneg g (show (0:Int)≤(2 ^ k:Nat) by omega); omega
  ·intro h; exact Int.mul_neg_of_neg_of_pos h (by omega)
 simp only [this]
theorem xG (t p:Int):-(zc:Int)≤RK t p∧RK t p≤zc:=by
 have:=zC t.natAbs p;unfold RK sgd; split<;>omega
theorem RK_V {x:Nat} (h:x % p63≤zc):RK (V x) (-1074)=key x:=by
 rw [zq];unfold RK V sgd;cases hn:neg x
 ·simp only [Bool.false_eq_true,if_false,Int.natAbs_natCast,xc h];rw [if_neg (by simp)]
 ·simp only [if_true,Int.natAbs_neg,Int.natAbs_natCast,xc h];by_cases h0:x % p63=0
  ·rw [h0]; simp
  ·have:U (x % p63)≠0:=fun e=>h0 (xF (e.trans ye.symm))
   rw [if_pos (by simp; omega)]
theorem V_lt {x y:Nat}:V x<V y↔key x<key y:=by rw [zq,zq]; exact vH
theorem V_eq {x y:Nat}:V x=V y↔key x=key y:=by rw [zq,zq]; exact tE
theorem V_le {x y:Nat}:V x≤V y↔key x≤key y:=by have:=@V_lt y x; omega
theorem xH {x y:Nat} (hx:x % p63<zc) (hy:y % p63<zc) :
  double.add x y=some (double.word (if V x+V y=0 then neg x&&neg y else decide (V x+V y<0)) (zH (V x+V y).natAbs (-1074))):=by
 obtain ⟨m,i,e1,hi,e2⟩:=zB hx;obtain ⟨n,j,e3,hj,e4⟩:=zB hy;unfold Ieee.Format.add;rw [e1,e3];simp only [Ieee.Datum.sum,Option.map_some,Ieee.Format.write,xC];have hs:=vp (neg x) (neg y) m n i j hi hj;rw [e2,e4] at hs
 have hV:V x+V y=(Ieee.signed (neg x) m (i-min i j).toNat+Ieee.signed (neg y) n (j-min i j).toNat)*(2 ^ (min i j+1074).toNat:Nat):=by
  unfold V; rw [hs.1,hs.2,Int.add_mul]
 generalize Ieee.signed (neg x) m (i-min i j).toNat+Ieee.signed (neg y) n (j-min i j).toNat=T at *;have hp:0<2 ^ (min i j+1074).toNat:=Nat.two_pow_pos _
 have z1:V x+V y=0↔T=0:=by
  rw [hV]; constructor
  ·intro h; rcases Int.mul_eq_zero.1 h with g | g
   ·exact g
   ·omega
  ·intro h; rw [h,Int.zero_mul]
 have z2:V x+V y<0↔T<0:=by
  rw [hV]; constructor
  ·intro h; rcases Int.lt_or_le T 0 with g | g
   ·exact g
   ·have:=Int.mul_nonneg g (show (0:Int)≤(2 ^ (min i j+1074).toNat:Nat) by omega); omega
  ·intro h; exact Int.mul_neg_of_neg_of_pos h (by omega)
 have r:=zN T.natAbs (min i j) (min i j+1074).toNat;rw [show min i j-((min i j+1074).toNat:Int)=-1074 by omega] at r;have hn:(V x+V y).natAbs=T.natAbs*2 ^ (min i j+1074).toNat:=by rw [hV,Int.natAbs_mul,Int.natAbs_natCast]
 rw [hn,r];simp only [z1,z2]
theorem xx (y:Nat) (hf:y % p63<zc):(double.read y).opposite=double.read (double.word (!neg y) (y % p63)):=by
 have hw:=yz (!neg y) (Nat.le_of_lt hf);have hn:(double.word (!neg y) (y % p63) / p63 % 2==1)=!neg y:=yM (!neg y) (Nat.le_of_lt hf);unfold Ieee.Format.read;have e1:double.signWeight=p63:=by decide
 have e2:double.binade=p52:=by decide
 have e3:double.infRung=zc:=by decide
 simp only [e1,e2,e3,hw,hn];by_cases h1:y % p63<p52
 ·rw [if_pos h1,if_pos h1]; rfl
 ·rw [if_neg h1,if_neg h1,if_pos hf,if_pos hf]; rfl
theorem uM {x y:Nat} (hx:x % p63<zc) (hy:y % p63<zc) :
  double.sub x y=some (double.word (if V x-V y=0 then neg x&&!neg y else decide (V x-V y<0)) (zH (V x-V y).natAbs (-1074))):=by
 have h:=xH (x:=x) (y:=double.word (!neg y) (y % p63)) hx (by rw [yz _ (Nat.le_of_lt hy)]; exact hy)
 have e:double.sub x y=double.add x (double.word (!neg y) (y % p63)):=by
  unfold Ieee.Format.sub Ieee.Format.add; rw [xx y hy]
 have v:V (double.word (!neg y) (y % p63))=- V y:=by
  rw [tF _ (Nat.le_of_lt hy)]; unfold V sgd; cases neg y<;>simp
 rw [e,h,v,yM _ (Nat.le_of_lt hy)];rfl
theorem sB (s t:Bool) (m n:Nat):sgd s m*sgd t n=sgd (s ^^ t) (m*n):=by
 unfold sgd; cases s<;>cases t<;>simp [Int.neg_mul,Int.mul_neg]
theorem yQ {x y:Nat} (hx:x % p63<zc) (hy:y % p63<zc) :
  double.mul x y=some (double.word (neg x ^^ neg y) (zH (U (x % p63)*U (y % p63)) (-2148))):=by
 obtain ⟨m,i,e1,hi,e2⟩:=zB hx;obtain ⟨n,j,e3,hj,e4⟩:=zB hy;unfold Ieee.Format.mul;rw [e1,e3];simp only [Ieee.Datum.product,Option.map_some,Ieee.Format.write,xC];have r:=zN (m*n) (i+j) ((i+1074).toNat+(j+1074).toNat);rw [show i+j-(((i+1074).toNat+(j+1074).toNat:Nat):Int)=-2148 by omega,Nat.pow_add] at r
 rw [← e2,← e4,← r,show m*n*(2 ^ (i+1074).toNat*2 ^ (j+1074).toNat)=m*2 ^ (i+1074).toNat*(n*2 ^ (j+1074).toNat) by
  simp only [Nat.mul_assoc,Nat.mul_left_comm]]
theorem uA {T:Int} {s:Bool} (p:Int) (h:T≠0→s=decide (T<0)):sgd s (zH T.natAbs p)=RK T p:=by
 unfold RK;by_cases h0:T=0
 ·subst h0; simp [zH,sgd]
 ·rw [h h0]
theorem vV (p:Int):zH 0 p=0:=by simp [zH]
theorem sC {x y r:Nat} (hx:x % p63<zc) (hy:y % p63<zc) (h:double.add x y=some r):key r=RK (V x+V y) (-1074)∧isN r=false∧r<18446744073709551616:=by
 rw [xH hx hy] at h;cases h
 refine ⟨?_,yA _ (zC _ _),wy _ (zC _ _)⟩;rw [xd _ (zC _ _)];exact uA _ fun h0=>by rw [if_neg h0]
theorem sD {x y r:Nat} (hx:x % p63<zc) (hy:y % p63<zc) (h:double.sub x y=some r):key r=RK (V x-V y) (-1074)∧isN r=false∧r<18446744073709551616:=by
 rw [uM hx hy] at h;cases h
 refine ⟨?_,yA _ (zC _ _),wy _ (zC _ _)⟩;rw [xd _ (zC _ _)];exact uA _ fun h0=>by rw [if_neg h0]
theorem V_mul (x y:Nat):V x*V y=sgd (neg x ^^ neg y) (U (x % p63)*U (y % p63)):=by unfold V; rw [sB]
theorem wz {x y r:Nat} (hx:x % p63<zc) (hy:y % p63<zc) (h:double.mul x y=some r):key r=RK (V x*V y) (-2148)∧isN r=false∧r<18446744073709551616:=by
 rw [yQ hx hy] at h;cases h
 refine ⟨?_,yA _ (zC _ _),wy _ (zC _ _)⟩;rw [xd _ (zC _ _),V_mul]
 have e:(sgd (neg x ^^ neg y) (U (x % p63)*U (y % p63))).natAbs=U (x % p63)*U (y % p63):=by
  unfold sgd; split<;>simp [Int.natAbs_mul]
 rw [← uA (T:=sgd (neg x ^^ neg y) (U (x % p63)*U (y % p63))) (s:=neg x ^^ neg y) _ ?_,e];intro h0;unfold sgd at h0 ⊢;generalize U (x % p63)*U (y % p63)=k at *;cases neg x ^^ neg y
 ·simp
 ·simp only [if_true] at h0 ⊢; symm; rw [decide_eq_true_eq]; omega
def xI:Nat:=9221120237041090561
def zg (x:Nat):Nat:=if isN x then xI else x
theorem zi {x:Nat} (h:isN x=false):zg x=x:=by unfold zg; rw [h]; rfl
theorem zK (x:Nat):isN (zg x)=isN x:=by
 unfold zg; split
 ·rename_i h; rw [h]; decide
 ·rfl
theorem vW (x:Nat):zg (zg x)=zg x:=by
 by_cases h:isN x=true
 ·have:zg x=xI:=by unfold zg; rw [if_pos h]
  rw [this]; decide
 ·have e:=zi (x:=x) (by simpa using h);rw [e,e]
theorem tH {x:Nat} (h:x<18446744073709551616):zg x<18446744073709551616:=by
 unfold zg xI; split<;>omega
theorem vX (x y:Nat):double.order (zg x) (zg y)=double.order x y:=by
 rw [wO,wO,zK,zK];by_cases hx:isN x
 ·simp [hx]
 ·by_cases hy:isN y
  ·simp [hy]
  ·rw [zi (by simpa using hx),zi (by simpa using hy)]
def cop (op:BinOp) (x y:Nat):Nat:=match floatBits op .f64 x y with | some r=>zg r | none=>xI
def zV (op:BinOp) (w:World) (x y:Nat):Nat:=match floatBits op .f64 x y with | some r=>r | none=>(Question.nanBits .f64 x y).cut (w.tape w.drawn (.nanBits .f64 x y))
def yV (op:BinOp) (x y:Nat):Nat:=if (floatBits op .f64 x y).isSome then 0 else 1
theorem uN (x y t:Nat):isN ((Question.nanBits .f64 x y).cut t)=true∧(Question.nanBits .f64 x y).cut t<18446744073709551616:=by
 have e:(Question.nanBits .f64 x y).cut t=(t % 2)*9223372036854775808+9218868437227405312+1+(t / 2) % 4503599627370495:=by
  show (t % 2)*2 ^ 63+0x7ff0000000000000+1+(t / 2) % (2 ^ 52-1)=_;rfl
 rw [e];have h1:t % 2<2:=Nat.mod_lt _ (by decide);have h2:(t / 2) % 4503599627370495<4503599627370495:=Nat.mod_lt _ (by decide);generalize (t / 2) % 4503599627370495=b at *;generalize t % 2=a at *;unfold isN p63 zc;constructor
 ·simp only [decide_eq_true_eq];have:a=0∨a=1:=by omega
  rcases this with rfl | rfl<;>omega
 ·omega
theorem yf (op:BinOp) (w:World) (x y:Nat):zg (zV op w x y)=cop op x y:=by
 unfold zV cop
 cases floatBits op .f64 x y with
 | some r=>rfl
 | none=>simp only []; unfold zg; rw [(uN x y _).1]; rfl
theorem yc (op:BinOp) (w:World) (x y:Nat):zV op w x y<18446744073709551616:=by
 unfold zV
 cases h:floatBits op .f64 x y with
 | some r=>
  have:=floatBits_wf h
  simpa [Lit.wf] using this
 | none=>exact (uN x y _).2
theorem tc {op:BinOp} {x y r:Nat} (h:floatBits op .f64 x y=some r) (w:World):zV op w x y=r:=by unfold zV; rw [h]
theorem uB {op:BinOp} {x y r:Nat} (h:floatBits op .f64 x y=some r):yV op x y=0:=by unfold yV; rw [h]; rfl
theorem wA (P:Program) (w:World) (op:BinOp) (hop:op=.add∨op=.sub∨op=.mul∨op=.quo) (t:TypeId) (x y:Nat) :
  (binOp op t (.float .f64 x) (.float .f64 y)).run P w=.ok (.float .f64 (zV op w x y)) (w.drewN (yV op x y)):=by
 cases h:floatBits op .f64 x y with
 | some r=>rw [run_float_arith w op t .f64 x y r h,tc h,uB h]; rfl
 | none=>
  have e1:yV op x y=1:=by unfold yV; rw [h]; rfl
  have e2:zV op w x y=(Question.nanBits .f64 x y).cut (w.tape w.drawn (.nanBits .f64 x y)):=by unfold zV; rw [h]
  rw [e1,e2];unfold floatBits at h;rcases hop with rfl | rfl | rfl | rfl<;>simp only at h<;>simp [binOp,Op.floatArith,h,Question.forced]<;>rfl
theorem zk (P:Program) (w:World) (t:TypeId) (x y:Nat):(binOp .add t (.float .f64 x) (.float .f64 y)).run P w=.ok (.float .f64 (zV .add w x y)) (w.drewN (yV .add x y)):=wA P w _ (by simp) t x y
theorem zm (P:Program) (w:World) (t:TypeId) (x y:Nat):(binOp .sub t (.float .f64 x) (.float .f64 y)).run P w=.ok (.float .f64 (zV .sub w x y)) (w.drewN (yV .sub x y)):=wA P w _ (by simp) t x y
theorem zn (P:Program) (w:World) (t:TypeId) (x y:Nat):(binOp .mul t (.float .f64 x) (.float .f64 y)).run P w=.ok (.float .f64 (zV .mul w x y)) (w.drewN (yV .mul x y)):=wA P w _ (by simp) t x y
theorem zo (P:Program) (w:World) (t:TypeId) (x y:Nat):(binOp .quo t (.float .f64 x) (.float .f64 y)).run P w=.ok (.float .f64 (zV .quo w x y)) (w.drewN (yV .quo x y)):=wA P w _ (by simp) t x y
def ltB (x y:Nat):Bool:=!isN x&&!isN y&&decide (key x<key y)
def eqB (x y:Nat):Bool:=!isN x&&!isN y&&decide (key x=key y)
def leB (x y:Nat):Bool:=!isN x&&!isN y&&decide (key x≤key y)
theorem td {a b:Int}:(compare a b==.lt)=decide (a<b):=by
 rcases Int.lt_trichotomy a b with h | h | h
 ·rw [wM h,decide_eq_true h]; rfl
 ·rw [ux h,decide_eq_false (by omega)]; rfl
 ·rw [wN h,decide_eq_false (by omega)]; rfl
theorem te {a b:Int}:(compare a b==.gt)=decide (b<a):=by
 rcases Int.lt_trichotomy a b with h | h | h
 ·rw [wM h,decide_eq_false (by omega)]; rfl
 ·rw [ux h,decide_eq_false (by omega)]; rfl
 ·rw [wN h,decide_eq_true h]; rfl
theorem tg {a b:Int}:(compare a b==.eq)=decide (a=b):=by
 rcases Int.lt_trichotomy a b with h | h | h
 ·rw [wM h,decide_eq_false (by omega)]; rfl
 ·rw [ux h,decide_eq_true h]; rfl
 ·rw [wN h,decide_eq_false (by omega)]; rfl
theorem vJ (x y:Nat) (o:Ordering):(FloatKind.f64.format.order x y==some o)=(!isN x&&!isN y&&(compare (key x) (key y)==o)):=by
 show (double.order x y==some o)=_;rw [wO];cases isN x<;>cases isN y<;>simp
theorem zu (x y:Nat):(FloatKind.f64.format.order x y==some .lt)=ltB x y:=by rw [vJ,td]; rfl
theorem zt (x y:Nat):(FloatKind.f64.format.order x y==some .eq)=eqB x y:=by rw [vJ,tg]; rfl
theorem zw (x y:Nat):(FloatKind.f64.format.order x y==some .gt)=ltB y x:=by
 rw [vJ,te]; unfold ltB; cases isN x<;>cases isN y<;>rfl
theorem zx (x y:Nat):(FloatKind.f64.format.order x y != some .eq)=!eqB x y:=by rw [← zt]; rfl
theorem zy (x y:Nat):(ltB x y || eqB x y)=leB x y:=by
 unfold ltB eqB leB;cases isN x<;>cases isN y<;>simp
 rw [Bool.eq_iff_iff]; simp; omega
theorem zA (x y:Nat):(ltB y x || eqB x y)=leB y x:=by
 unfold ltB eqB leB;cases isN x<;>cases isN y<;>simp
 rw [Bool.eq_iff_iff]; simp; omega
theorem zj (x:Nat):eqB x x=!isN x:=by unfold eqB; simp
theorem tj (x y:Nat):eqB (zg x) (zg y)=eqB x y:=by rw [← zt,← zt]; show (double.order _ _==_)=_; rw [vX]; rfl
theorem zr {x:Nat} (h:isN x=false):x % p63≤zc:=by unfold isN at h; simpa using h
theorem yN {x:Nat} (h:x % p63≤zc):isN x=false:=by unfold isN; simpa using h
theorem wB {x:Nat} (h:isN x=false):-(zc:Int)≤key x∧key x≤zc:=by
 have:=zr h; unfold key; split<;>omega
def upB (x:Nat):Nat:=if isN x then xI else if x=zc then x else if x % p63=0 then 1 else if neg x then x-1 else x+1
def zD (x:Nat):Nat:=if isN x then xI else if x=p63+zc then x else if x % p63=0 then p63+1 else if neg x then x+1 else x-1
theorem yv {x:Nat} (hx:x<18446744073709551616) (h:neg x=true):p63≤x∧x % p63=x-p63∧key x=-((x % p63:Nat):Int):=by
 have h':x / p63 % 2=1:=by simpa [neg] using h
 refine ⟨by unfold p63 at *; omega,by unfold p63 at *; omega,by unfold key; rw [if_pos h']⟩
theorem yj {x:Nat} (hx:x<18446744073709551616) (h:neg x=false):x<p63∧x % p63=x∧key x=(x:Int):=by
 have h':¬ x / p63 % 2=1:=by simpa [neg] using h
 refine ⟨by unfold p63 at *; omega,by unfold p63 at *; omega,?_⟩;unfold key; rw [if_neg h']; unfold p63 at *; omega
theorem xY {x y:Nat} (hx:x<18446744073709551616) (hy:y<18446744073709551616) (h:key x=key y):x=y∨(x % p63=0∧y % p63=0):=by
 cases h1:neg x<;>cases h2:neg y
 ·have:=yj hx h1; have:=yj hy h2; omega
 ·have:=yj hx h1; have:=yv hy h2; unfold p63 at *; omega
 ·have:=yv hx h1; have:=yj hy h2; unfold p63 at *; omega
 ·have:=yv hx h1; have:=yv hy h2; unfold p63 at *; omega
theorem wQ {x:Nat} (hx:x<18446744073709551616) (h:isN x=false):key (upB x)=(if key x=zc then key x else key x+1)∧isN (upB x)=false∧upB x<18446744073709551616:=by
 have hr:=zr h;unfold upB;rw [h]; simp only [Bool.false_eq_true,if_false];by_cases h1:x=zc
 ·subst h1; rw [if_pos rfl]; decide
 rw [if_neg h1];by_cases h2:x % p63=0
 ·rw [if_pos h2];have:key x=0:=by unfold key; rw [h2]; simp
  rw [this]; decide
 rw [if_neg h2];cases hn:neg x
 ·obtain ⟨a,b,c⟩:=yj hx hn;simp only [Bool.false_eq_true,if_false];have d:(x+1) / p63=0∧(x+1) % p63=x+1:=by unfold p63 zc at *; omega
  refine ⟨?_,?_,by unfold p63 at a; omega⟩
  ·rw [c,if_neg (by omega)]; unfold key; rw [d.1,d.2]; simp
  ·apply yN; rw [d.2]; omega
 ·obtain ⟨a,b,c⟩:=yv hx hn;simp only [if_true];have d:(x-1) / p63=1∧(x-1) % p63=x-1-p63:=by unfold p63 zc at *; omega
  refine ⟨?_,?_,by omega⟩
  ·rw [c,if_neg (by unfold zc; omega)]; unfold key; rw [d.1,d.2]; simp; omega
  ·apply yN; rw [d.2]; omega
theorem xe {x:Nat} (hx:x<18446744073709551616) (h:isN x=false):key (zD x)=(if key x=-(zc:Int) then key x else key x-1)∧isN (zD x)=false∧zD x<18446744073709551616:=by
 have hr:=zr h;unfold zD;rw [h]; simp only [Bool.false_eq_true,if_false];by_cases h1:x=p63+zc
 ·subst h1; rw [if_pos rfl]; decide
 rw [if_neg h1];by_cases h2:x % p63=0
 ·rw [if_pos h2];have:key x=0:=by unfold key; rw [h2]; simp
  rw [this]; decide
 rw [if_neg h2];cases hn:neg x
 ·obtain ⟨a,b,c⟩:=yj hx hn;simp only [Bool.false_eq_true,if_false];have d:(x-1) / p63=0∧(x-1) % p63=x-1:=by unfold p63 zc at *; omega
  refine ⟨?_,?_,by omega⟩
  ·rw [c,if_neg (by unfold zc; omega)]; unfold key; rw [d.1,d.2]; simp; omega
  ·apply yN; rw [d.2]; omega
 ·obtain ⟨a,b,c⟩:=yv hx hn;simp only [if_true];have d:(x+1) / p63=1∧(x+1) % p63=x+1-p63:=by unfold p63 zc at *; omega
  refine ⟨?_,?_,by unfold p63 zc at *; omega⟩
  ·rw [c,if_neg (by unfold p63 zc at *; omega)]; unfold key; rw [d.1,d.2]; simp; omega
  ·apply yN; rw [d.2]; unfold p63 zc at *; omega
theorem tI {x:Nat} (h:isN x=true):zc<x % p63:=by unfold isN at h; simpa using h
theorem vY {x:Nat} (h:isN x=true):∃ s t,double.read x=.nan s t:=⟨_,_,yL (tI h)⟩
theorem yF (op:BinOp) {x:Nat} (y:Nat) (h:isN x=true):floatBits op .f64 x y=none:=by
 obtain ⟨s,t,e⟩:=vY h;unfold floatBits;cases op<;>simp only [FloatKind.format,Ieee.Format.add,Ieee.Format.sub,Ieee.Format.mul,Ieee.Format.div,e]<;>cases double.read y<;>rfl
theorem yx (op:BinOp) (x:Nat) {y:Nat} (h:isN y=true):floatBits op .f64 x y=none:=by
 obtain ⟨s,t,e⟩:=vY h;unfold floatBits;cases op<;>simp only [FloatKind.format,Ieee.Format.add,Ieee.Format.sub,Ieee.Format.mul,Ieee.Format.div,e]<;>cases double.read x<;>rfl
theorem wR (op:BinOp) (x y:Nat):cop op (zg x) y=cop op x y:=by
 by_cases h:isN x=true
 ·unfold cop; rw [yF op y h,yF op y ((zK x).trans h)]
 ·rw [zi (by simpa using h)]
theorem wu (op:BinOp) (x y:Nat):cop op x (zg y)=cop op x y:=by
 by_cases h:isN y=true
 ·unfold cop; rw [yx op x h,yx op x ((zK y).trans h)]
 ·rw [zi (by simpa using h)]
theorem tk (op:BinOp) (x y:Nat):zg (cop op x y)=cop op x y:=by
 unfold cop
 cases floatBits op .f64 x y with
 | some r=>exact vW r
 | none=>decide
theorem zE {op:BinOp} {x y r:Nat} (h:floatBits op .f64 x y=some r):cop op x y=zg r:=by unfold cop; rw [h]
theorem zL (op:BinOp) (x y:Nat):cop op x y<18446744073709551616:=by
 unfold cop
 cases h:floatBits op .f64 x y with
 | some r=>
  have:=floatBits_wf h;exact tH (by simpa [Lit.wf] using this)
 | none=>decide
def flip (x:Nat):Nat:=Op.negFloat .f64 x
def vq:Nat:=1074
def yW:Nat:=2 ^ vq
theorem vZ:yW=2 ^ vq:=by unfold yW; rfl
theorem tJ:0<yW:=by unfold yW; exact Nat.two_pow_pos _
def Is (a:Nat) (m:Int) (k:Int):Prop:=a<18446744073709551616∧a % p63<zc∧-1074≤k∧V a=m*(2 ^ (k+1074).toNat:Nat)
theorem Is.fin {a:Nat} {m k:Int} (h:Is a m k):a % p63<zc:=h.2.1
theorem Is.num {a:Nat} {m k:Int} (h:Is a m k):isN a=false:=yN (Nat.le_of_lt h.2.1)
theorem Is.lt {a:Nat} {m k:Int} (h:Is a m k):a<18446744073709551616:=h.1
theorem is_le {a b:Nat} {m n k:Int} (ha:Is a m k) (hb:Is b n k):leB a b=decide (m≤n):=by
 unfold leB;rw [ha.num,hb.num]
 have h:key a≤key b↔m≤n:=by
  rw [← V_le,ha.2.2.2,hb.2.2.2];have hp:0<2 ^ (k+1074).toNat:=Nat.two_pow_pos _;exact ⟨fun h=>Int.le_of_mul_le_mul_right h (by omega),fun h=>Int.mul_le_mul_of_nonneg_right h (by omega)⟩
 simp [h]
end Go.Proofs.Ytgnledamhjbafaa
