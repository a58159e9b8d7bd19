/-
  Contracts (what a function tells) and plain facts that a law's proof hangs on, for every input; no condition but those in their statements. Laid together of the texts Ga, Gb, Gc, Gj, Ha, Hg, Hlp, Hi.
-/
import Ieee.Arith
import Derived.Laws.FloatBits
import Derived.Laws.FloatArith
import Derived.Laws.NewFold
import Derived.Deep.Draws
import Derived.Laws.Externs
import Derived.Test.YtfcjfijmdikcmaaRows
import Derived.WalkKit
import Derived.WalkSpells
import Derived.WalkLawsBesides
import Derived.Laws.BitsAllLaws
import Derived.Lib.Hide
import Derived.IntWalk
import Derived.BigQuiet
import Derived.Deep.QuietTactic
import Derived.OwnWalk
import Derived.Laws.OwnMore
import Derived.ChangeSlices
import Derived.Laws.CopyOwn
namespace Go.Proofs.Ytfcjfijmdikcmaa
open Lib
open Ieee (double)
def yv:Nat:=9218868437227405312
def p63:Nat:=9223372036854775808
def p52:Nat:=4503599627370496
def isN (x:Nat):Bool:=decide (yv<x % p63)
def key (x:Nat):Int:=if x / p63 % 2=1 then -((x % p63:Nat):Int) else ((x % p63:Nat):Int)
def U (r:Nat):Nat:=if r<p52 then r else (p52+r % p52)*2 ^ (r / p52-1)
theorem yV {r s:Nat} (h:r<s):U r<U s:=by
 unfold U;by_cases h1:s<p52
 ·rw [if_pos (by omega),if_pos h1]; exact h
 ·rw [if_neg h1];have hp:0<2 ^ (s / p52-1):=Nat.two_pow_pos _;have hbase:p52*2 ^ (s / p52-1)≤(p52+s % p52)*2 ^ (s / p52-1):=Nat.mul_le_mul_right _ (by omega);by_cases h2:r<p52
  ·rw [if_pos h2];have:p52*1≤p52*2 ^ (s / p52-1):=Nat.mul_le_mul_left _ hp;omega
  ·rw [if_neg h2];have hle:r / p52≤s / p52:=Nat.div_le_div_right (Nat.le_of_lt h);by_cases he:r / p52=s / p52
   ·rw [he];apply Nat.mul_lt_mul_of_pos_right _ hp;have:=Nat.div_add_mod r p52; have:=Nat.div_add_mod s p52;rw [he] at *; omega
   ·have hr:r % p52<p52:=Nat.mod_lt _ (by decide);have h1r:1≤r / p52:=(Nat.one_le_div_iff (by decide)).2 (by omega);have a1:(p52+r % p52)*2 ^ (r / p52-1)<(p52*2)*2 ^ (r / p52-1):=Nat.mul_lt_mul_of_pos_right (by omega) (Nat.two_pow_pos _)
    have a2:(p52*2)*2 ^ (r / p52-1)≤p52*2 ^ (s / p52-1):=by
     rw [Nat.mul_assoc,← Nat.pow_succ'];exact Nat.mul_le_mul_left _ (Nat.pow_le_pow_right (by decide) (by omega))
    omega
theorem U_lt {r s:Nat}:U r<U s↔r<s:=
 ⟨fun h=>by
  rcases Nat.lt_trichotomy r s with g | g | g
  ·exact g
  ·subst g; omega
  ·have:=yV g; omega,yV⟩
theorem U_inj {r s:Nat} (h:U r=U s):r=s:=by
 rcases Nat.lt_trichotomy r s with g | g | g
 ·have:=yV g; omega
 ·exact g
 ·have:=yV g; omega
theorem xG:U 0=0:=by decide
def sgd (n:Bool) (m:Nat):Int:=if n then -(m:Int) else m
def neg (x:Nat):Bool:=x / p63 % 2==1
theorem yh (x:Nat):key x=sgd (neg x) (x % p63):=by
 unfold key sgd neg; by_cases h:x / p63 % 2=1<;>simp [h]
def V (x:Nat):Int:=sgd (neg x) (U (x % p63))
theorem yS (n:Bool) (m k:Nat):Ieee.signed n m k=sgd n (m*2 ^ k):=by
 unfold Ieee.signed sgd; simp only [Nat.shiftLeft_eq]
theorem xq (n:Bool) (m k:Nat):sgd n (m*k)=sgd n m*k:=by
 unfold sgd; cases n<;>simp [Int.neg_mul]
theorem yi {x:Nat} (h:x % p63<yv):∃ m:Nat,∃ p:Int,double.read x=.number (neg x) m p∧-1074≤p∧m*2 ^ (p+1074).toNat=U (x % p63):=by
 unfold Ieee.Format.read;have e1:double.signWeight=p63:=by decide
 have e2:double.binade=p52:=by decide
 have e3:double.infRung=yv:=by decide
 have e4:double.leastPlace=-1074:=by decide
 simp only [e1,e2,e3,e4];by_cases h1:x % p63<p52
 ·exact ⟨x % p63,-1074,by rw [if_pos h1]; rfl,by omega,by simp [U,h1]⟩
 ·refine ⟨p52+x % p63 % p52,-1074+((x % p63 / p52-1:Nat):Int),by rw [if_neg h1,if_pos h]; rfl,by omega,?_⟩;rw [show ((-1074:Int)+((x % p63 / p52-1:Nat):Int)+1074).toNat=x % p63 / p52-1 by omega];simp [U,h1]
theorem yj {x:Nat} (h:x % p63=yv):double.read x=.infinity (neg x):=by
 unfold Ieee.Format.read;have e1:double.signWeight=p63:=by decide
 have e2:double.binade=p52:=by decide
 have e3:double.infRung=yv:=by decide
 simp only [e1,e2,e3,h];rfl
theorem yk {x:Nat} (h:yv<x % p63):double.read x=.nan (neg x) (x % p63-yv):=by
 unfold Ieee.Format.read;have e1:double.signWeight=p63:=by decide
 have e2:double.binade=p52:=by decide
 have e3:double.infRung=yv:=by decide
 simp only [e1,e2,e3];rw [if_neg (by unfold p52; unfold yv at h; omega),if_neg (by omega),if_neg (by omega)];rfl
theorem xg {a b c d:Int} (h1:a<b↔c<d) (h2:a=b↔c=d):compare a b=compare c d:=by
 simp only [compare,compareOfLessAndEq,h1,h2]
theorem yI {a b:Int} (h:a<b):compare a b=.lt:=by simp [compare,compareOfLessAndEq,h]
theorem yJ {a b:Int} (h:b<a):compare a b=.gt:=by
 simp only [compare,compareOfLessAndEq]; rw [if_neg (by omega),if_neg (by omega)]
theorem xh {a b:Int} (h:a=b):compare a b=.eq:=by
 simp only [compare,compareOfLessAndEq]; rw [if_neg (by omega),if_pos h]
theorem xi {n m:Bool} {a b:Nat}:sgd n (U a)<sgd m (U b)↔sgd n a<sgd m b:=by
 have h:=@U_lt a b; have h':=@U_lt b a;have z:∀ r,U r=0↔r=0:=fun r=>⟨fun e=>U_inj (e.trans xG.symm),fun e=>by rw [e,xG]⟩
 have za:=z a; have zb:=z b;unfold sgd; cases n<;>cases m<;>simp<;>omega
theorem x4 {n m:Bool} {a b:Nat}:sgd n (U a)=sgd m (U b)↔sgd n a=sgd m b:=by
 have h:=@xi n m a b; have h':=@xi m n b a;omega
theorem xw (s t:Bool) (m n:Nat) (i j:Int) (hi:-1074≤i) (hj:-1074≤j) :
  sgd s (m*2 ^ (i+1074).toNat)=Ieee.signed s m (i-min i j).toNat*(2 ^ (min i j+1074).toNat:Nat)∧sgd t (n*2 ^ (j+1074).toNat)=Ieee.signed t n (j-min i j).toNat*(2 ^ (min i j+1074).toNat:Nat):=by
 rw [yS,yS,← xq,← xq,Nat.mul_assoc,Nat.mul_assoc,← Nat.pow_add,← Nat.pow_add];rw [show (i-min i j).toNat+(min i j+1074).toNat=(i+1074).toNat by omega,show (j-min i j).toNat+(min i j+1074).toNat=(j+1074).toNat by omega];exact ⟨rfl,rfl⟩
theorem yK (x y:Nat):double.order x y=if isN x || isN y then none else some (compare (key x) (key y)):=by
 unfold Ieee.Format.order isN;rcases Nat.lt_trichotomy (x % p63) yv with hx | hx | hx<;>rcases Nat.lt_trichotomy (y % p63) yv with hy | hy | hy
 ·obtain ⟨m,i,e1,hi,e2⟩:=yi hx;obtain ⟨n,j,e3,hj,e4⟩:=yi hy;rw [e1,e3,if_neg (by simp; omega)];simp only [Ieee.Datum.order];have hs:=xw (neg x) (neg y) m n i j hi hj;have hp:(0:Int)<(2 ^ (min i j+1074).toNat:Nat):=by have:=Nat.two_pow_pos (min i j+1074).toNat; omega
  congr 1
  rw [yh,yh];apply xg
  ·rw [← xi,← e2,← e4,hs.1,hs.2];exact ⟨fun h=>Int.mul_lt_mul_of_pos_right h hp,fun h=>Int.lt_of_mul_lt_mul_right h (Int.le_of_lt hp)⟩
  ·rw [← x4,← e2,← e4,hs.1,hs.2];exact ⟨fun h=>by rw [h],fun h=>Int.eq_of_mul_eq_mul_right (by omega) h⟩
 ·obtain ⟨m,i,e1,hi,e2⟩:=yi hx;rw [e1,yj hy,if_neg (by simp; omega),yh,yh];simp only [Ieee.Datum.order,hy]
  congr 1
  unfold sgd;generalize x % p63=r at *;cases neg y<;>cases neg x<;>simp only [if_true,if_false,Bool.false_eq_true]<;>symm<;>first | exact yI (by omega) | exact yJ (by omega)
 ·rw [yk hy,if_pos (by simp; omega)];obtain ⟨m,i,e1,hi,e2⟩:=yi hx;rw [e1]; rfl
 ·obtain ⟨m,i,e1,hi,e2⟩:=yi hy;rw [e1,yj hx,if_neg (by simp; omega),yh,yh];simp only [Ieee.Datum.order,hx]
  congr 1
  unfold sgd;generalize y % p63=r at *;cases neg y<;>cases neg x<;>simp only [if_true,if_false,Bool.false_eq_true]<;>symm<;>first | exact yI (by omega) | exact yJ (by omega)
 ·rw [yj hx,yj hy,if_neg (by simp; omega),yh,yh,hx,hy];cases neg y<;>cases neg x<;>decide
 ·rw [yk hy,if_pos (by simp; omega),yj hx]; rfl
 ·rw [yk hx,if_pos (by simp; omega)]; rfl
 ·rw [yk hx,if_pos (by simp; omega)]; rfl
 ·rw [yk hx,if_pos (by simp; omega)]; rfl
def rne (n d:Nat):Nat:=n / 2 ^ d+(if 2 ^ d<2*(n % 2 ^ d)∨(2 ^ d=2*(n % 2 ^ d)∧n / 2 ^ d % 2=1) then 1 else 0)
def low (c m:Nat):Nat:=(m.log2-(52+c))*p52+rne m (m.log2-(52+c)+c)
def xH:Nat:=9221120237041090561
def zu (x:Nat):Nat:=if isN x then xH else x
theorem ym {x:Nat} (h:isN x=false):zu x=x:=by unfold zu; rw [h]; rfl
theorem zY (x:Nat):isN (zu x)=isN x:=by
 unfold zu; split
 ·rename_i h; rw [h]; decide
 ·rfl
theorem y0 (x:Nat):zu (zu x)=zu x:=by
 by_cases h:isN x=true
 ·have:zu x=xH:=by unfold zu; rw [if_pos h]
  rw [this]; decide
 ·have e:=ym (x:=x) (by simpa using h);rw [e,e]
theorem xI {x:Nat} (h:x<18446744073709551616):zu x<18446744073709551616:=by
 unfold zu xH; split<;>omega
theorem y4 (x y:Nat):double.order (zu x) (zu y)=double.order x y:=by
 rw [yK,yK,zY,zY];by_cases hx:isN x
 ·simp [hx]
 ·by_cases hy:isN y
  ·simp [hy]
  ·rw [ym (by simpa using hx),ym (by simpa using hy)]
def cop (op:BinOp) (x y:Nat):Nat:=match floatBits op .f64 x y with | some r=>zu r | none=>xH
def yr (op:BinOp) (w:World) (x y:Nat):Nat:=match floatBits op .f64 x y with | some r=>r | none=>(Question.nanBits .f64 x y).cut (w.tape w.drawn (.nanBits .f64 x y))
def yl (op:BinOp) (x y:Nat):Nat:=if (floatBits op .f64 x y).isSome then 0 else 1
theorem xW (x y t:Nat):isN ((Question.nanBits .f64 x y).cut t)=true∧(Question.nanBits .f64 x y).cut t<18446744073709551616:=by
 have e:(Question.nanBits .f64 x y).cut t=(t % 2)*9223372036854775808+9218868437227405312+1+(t / 2) % 4503599627370495:=by
  show (t % 2)*2 ^ 63+0x7ff0000000000000+1+(t / 2) % (2 ^ 52-1)=_;rfl
 rw [e];have h1:t % 2<2:=Nat.mod_lt _ (by decide);have h2:(t / 2) % 4503599627370495<4503599627370495:=Nat.mod_lt _ (by decide);generalize (t / 2) % 4503599627370495=b at *;generalize t % 2=a at *;unfold isN p63 yv;constructor
 ·simp only [decide_eq_true_eq];have:a=0∨a=1:=by omega
  rcases this with rfl | rfl<;>omega
 ·omega
theorem xj (op:BinOp) (w:World) (x y:Nat):zu (yr op w x y)=cop op x y:=by
 unfold yr cop
 cases floatBits op .f64 x y with
 | some r=>rfl
 | none=>simp only []; unfold zu; rw [(xW x y _).1]; rfl
theorem wM (op:BinOp) (w:World) (x y:Nat):yr op w x y<18446744073709551616:=by
 unfold yr
 cases h:floatBits op .f64 x y with
 | some r=>
  have:=floatBits_wf h
  simpa [Lit.wf] using this
 | none=>exact (xW x y _).2
theorem xx {op:BinOp} {x y r:Nat} (h:floatBits op .f64 x y=some r) (w:World):yr op w x y=r:=by unfold yr; rw [h]
theorem xk {op:BinOp} {x y r:Nat} (h:floatBits op .f64 x y=some r):yl op x y=0:=by unfold yl; rw [h]; rfl
theorem yH (P:Program) (w:World) (op:BinOp) (hop:op=.add∨op=.sub∨op=.mul∨op=.quo) (t:TypeId) (x y:Nat) :
  (binOp op t (.float .f64 x) (.float .f64 y)).run P w=.ok (.float .f64 (yr op w x y)) (w.drewN (yl op x y)):=by
 cases h:floatBits op .f64 x y with
 | some r=>rw [run_float_arith w op t .f64 x y r h,xx h,xk h]; rfl
 | none=>
  have e1:yl op x y=1:=by unfold yl; rw [h]; rfl
  have e2:yr op w x y=(Question.nanBits .f64 x y).cut (w.tape w.drawn (.nanBits .f64 x y)):=by unfold yr; rw [h]
  rw [e1,e2];unfold floatBits at h;rcases hop with rfl | rfl | rfl | rfl<;>simp only at h<;>simp [binOp,Op.floatArith,h,Question.forced]<;>rfl
theorem zp (P:Program) (w:World) (t:TypeId) (x y:Nat):(binOp .add t (.float .f64 x) (.float .f64 y)).run P w=.ok (.float .f64 (yr .add w x y)) (w.drewN (yl .add x y)):=yH P w _ (by simp) t x y
theorem zq (P:Program) (w:World) (t:TypeId) (x y:Nat):(binOp .sub t (.float .f64 x) (.float .f64 y)).run P w=.ok (.float .f64 (yr .sub w x y)) (w.drewN (yl .sub x y)):=yH P w _ (by simp) t x y
theorem zr (P:Program) (w:World) (t:TypeId) (x y:Nat):(binOp .mul t (.float .f64 x) (.float .f64 y)).run P w=.ok (.float .f64 (yr .mul w x y)) (w.drewN (yl .mul x y)):=yH P w _ (by simp) t x y
theorem zt (P:Program) (w:World) (t:TypeId) (x y:Nat):(binOp .quo t (.float .f64 x) (.float .f64 y)).run P w=.ok (.float .f64 (yr .quo w x y)) (w.drewN (yl .quo x y)):=yH P w _ (by simp) t x y
def ltB (x y:Nat):Bool:=!isN x&&!isN y&&decide (key x<key y)
def eqB (x y:Nat):Bool:=!isN x&&!isN y&&decide (key x=key y)
def leB (x y:Nat):Bool:=!isN x&&!isN y&&decide (key x≤key y)
theorem xy {a b:Int}:(compare a b==.lt)=decide (a<b):=by
 rcases Int.lt_trichotomy a b with h | h | h
 ·rw [yI h,decide_eq_true h]; rfl
 ·rw [xh h,decide_eq_false (by omega)]; rfl
 ·rw [yJ h,decide_eq_false (by omega)]; rfl
theorem xz {a b:Int}:(compare a b==.gt)=decide (b<a):=by
 rcases Int.lt_trichotomy a b with h | h | h
 ·rw [yI h,decide_eq_false (by omega)]; rfl
 ·rw [xh h,decide_eq_false (by omega)]; rfl
 ·rw [yJ h,decide_eq_true h]; rfl
theorem xA {a b:Int}:(compare a b==.eq)=decide (a=b):=by
 rcases Int.lt_trichotomy a b with h | h | h
 ·rw [yI h,decide_eq_false (by omega)]; rfl
 ·rw [xh h,decide_eq_true h]; rfl
 ·rw [yJ h,decide_eq_false (by omega)]; rfl
theorem yW (x y:Nat) (o:Ordering):(FloatKind.f64.format.order x y==some o)=(!isN x&&!isN y&&(compare (key x) (key y)==o)):=by
 show (double.order x y==some o)=_;rw [yK];cases isN x<;>cases isN y<;>simp
theorem zI (x y:Nat):(FloatKind.f64.format.order x y==some .lt)=ltB x y:=by rw [yW,xy]; rfl
theorem zA (x y:Nat):(FloatKind.f64.format.order x y==some .eq)=eqB x y:=by rw [yW,xA]; rfl
theorem zJ (x y:Nat):(FloatKind.f64.format.order x y==some .gt)=ltB y x:=by
 rw [yW,xz]; unfold ltB; cases isN x<;>cases isN y<;>rfl
theorem zK (x y:Nat):(FloatKind.f64.format.order x y != some .eq)=!eqB x y:=by rw [← zA]; rfl
theorem zL (x y:Nat):(ltB x y || eqB x y)=leB x y:=by
 unfold ltB eqB leB;cases isN x<;>cases isN y<;>simp
 rw [Bool.eq_iff_iff]; simp; omega
theorem zM (x y:Nat):(ltB y x || eqB x y)=leB y x:=by
 unfold ltB eqB leB;cases isN x<;>cases isN y<;>simp
 rw [Bool.eq_iff_iff]; simp; omega
theorem zn (x:Nat):eqB x x=!isN x:=by unfold eqB; simp
theorem xB (x y:Nat):eqB (zu x) (zu y)=eqB x y:=by rw [← zA,← zA]; show (double.order _ _==_)=_; rw [y4]; rfl
theorem xC {x:Nat} (h:x % p63≤yv):isN x=false:=by unfold isN; simpa using h
theorem xD (op:BinOp) (x y:Nat):zu (cop op x y)=cop op x y:=by
 unfold cop
 cases floatBits op .f64 x y with
 | some r=>exact y0 r
 | none=>decide
theorem x5 (op:BinOp) (x y:Nat):cop op x y<18446744073709551616:=by
 unfold cop
 cases h:floatBits op .f64 x y with
 | some r=>
  have:=floatBits_wf h;exact xI (by simpa [Lit.wf] using this)
 | none=>decide
def Is (a:Nat) (m:Int) (k:Int):Prop:=a<18446744073709551616∧a % p63<yv∧-1074≤k∧V a=m*(2 ^ (k+1074).toNat:Nat)
theorem Is.fin {a:Nat} {m k:Int} (h:Is a m k):a % p63<yv:=h.2.1
theorem Is.num {a:Nat} {m k:Int} (h:Is a m k):isN a=false:=xC (Nat.le_of_lt h.2.1)
theorem Is.lt {a:Nat} {m k:Int} (h:Is a m k):a<18446744073709551616:=h.1
end Go.Proofs.Ytfcjfijmdikcmaa
namespace Go.Proofs.Ytfcjfijmdikcmaa
open Go.RowKit Lib
theorem zh (w:World) (n:Nat) (o:Obj):(w.drewN n).alloc o=(w.alloc o).drewN n:=rfl
theorem zf (w:World) (n:Nat) (a:Addr) (v:Value):(w.drewN n).setCell a v=(w.setCell a v).drewN n:=rfl
attribute [local go_sem] zh zf zI zA zJ zK zL zM zn
theorem ret_int {k:IntKind} {a b:Int} (h:a=b):Ending.returned (.int k a)=.returned (.int k b):=by rw [h]
theorem xJ {a b:Bool} (h:a=b):Ending.returned (.bool a)=.returned (.bool b):=by rw [h]
theorem wN {a n:Int} (h1:1≤n):(a.tmod n<0→a.tmod n+n=a % n)∧(0≤a.tmod n→a.tmod n=a % n):=by
 have h2:=Int.emod_nonneg a (show n≠0 by omega);have h3:=Int.emod_lt_of_pos a (show 0<n by omega)
 have h4:a.tmod n=if 0≤a∨n ∣ a then a % n else a % n-n:=by
  rw [Int.tmod_eq_emod]; split<;>simp; rw [Int.natAbs_of_nonneg (by omega)]
 rw [h4]; split<;>constructor<;>intro h<;>omega
end Go.Proofs.Ytfcjfijmdikcmaa
namespace Go.Proofs.Ytfcjfijmdikcmaa
open Go.RowKit Lib
attribute [local go_sem] zh zf zI zA zJ zK zL zM zn zp zq zr zt
theorem xl {B:Nat} {a w:World} (h:Below B a w) (n:Nat):Below B a (w.drewN n):=⟨h.os,h.tape,h.output,h.size,h.block⟩
def y5 (a b:Nat):Bool:=eqB a b || (isN a&&isN b)
theorem xK (a b:Nat) (w:World):Calls Try.prog 17 #[.float .f64 a,.float .f64 b] w fun e w'=>e=.returned (.bool (y5 a b))∧w=w':=by
 go_enter Try.func17,Try.ntmps17
 go_wp2
 all_goals (go_ret; exact ⟨xJ (by unfold y5; simp_all),rfl⟩)
end Go.Proofs.Ytfcjfijmdikcmaa
namespace Go.Proofs.Ytfcjfijmdikcmaa
open Go.RowKit Lib
open Ieee (double)
attribute [local go_sem] zh zf zI zA zJ zK zL zM zn zp zq zr zt
def xr (v:Value) (w:World) (e:Ending) (w':World):Prop:=e=.returned v∧Below w.heap.size w w'
theorem xr.eq {v u:Value} {w w':World} {e:Ending} (h:xr v w e w') (hv:v=u):xr u w e w':=hv ▸ h
theorem zW (P:Program) (w:World) (a:Addr) (m:Mode) (b:Nat):(store a (.float .f64 b) m).run P w=stored P w a (.float .f64 b) m:=run_store P w a _ m rfl
theorem yf {W w1:World} (hb:Below W.heap.size W w1):(∀ b o,b<W.heap.size→w1.cell? ⟨b,o,none⟩=W.cell? ⟨b,o,none⟩)∧(∀ b o,b<W.heap.size→w1.frozen? ⟨b,o,none⟩=W.frozen? ⟨b,o,none⟩):=
 ⟨fun b o h=>hb.cell (p:=⟨b,o,none⟩) h,fun b o h=>hb.frozen (p:=⟨b,o,none⟩) h⟩
def y6 (w:World) (b o c:Nat):Prop:=∃ y,w.cell? ⟨b,o,none⟩=some (.float .f64 y)∧zu y=c∧y<18446744073709551616
theorem y6.same {w w':World} {b o c:Nat} (h:y6 w b o c) (hc:w'.cell? ⟨b,o,none⟩=w.cell? ⟨b,o,none⟩):y6 w' b o c:=by
 obtain ⟨y,h1,h2,h3⟩:=h;exact ⟨y,hc.trans h1,h2,h3⟩
def zB (w:World) (base R n cap:Nat) (f:Nat→Nat):Prop:=
 ∃ rs,w.ownsRow base 38 1 (.slice (some ⟨R,0,none⟩) n cap) n rs∧∀ j,j<n→∃ y,rs[j]? = some (.float .f64 y)∧zu y=f j∧y<18446744073709551616
theorem zB.cell {w:World} {base R n cap:Nat} {f:Nat→Nat} (h:zB w base R n cap f) {j:Nat} (hj:j<n):y6 w R j (f j):=by
 obtain ⟨rs,h1,h2⟩:=h;obtain ⟨y,y1,y2,y3⟩:=h2 j hj;exact ⟨y,(h1.cellAt j (by omega)).trans y1,y2,y3⟩
theorem zB.free {w:World} {base R n cap:Nat} {f:Nat→Nat} (h:zB w base R n cap f) (j:Nat):w.frozen? ⟨R,j,none⟩=false:=by
 obtain ⟨rs,h1,-⟩:=h;exact h1.frozenAt j
theorem zB.lt {w:World} {base R n cap:Nat} {f:Nat→Nat} (h:zB w base R n cap f):base≤R∧R<w.heap.size:=by
 obtain ⟨rs,h1,-⟩:=h;exact h1.lt R rfl
theorem zB.kept {w w':World} {base R n cap:Nat} {f:Nat→Nat} (h:zB w base R n cap f) (hb:w'.heap[R]? = w.heap[R]?):zB w' base R n cap f:=by
 obtain ⟨rs,⟨h1,h2⟩,h3⟩:=h;refine ⟨rs,⟨h1,?_⟩,h3⟩;rcases h2 with ⟨h2,-⟩ | ⟨g,c,cur,hv,hg,hh,r⟩
 ·cases h2
 ·simp only [Value.slice.injEq,Option.some.injEq,Addr.mk.injEq] at hv;obtain ⟨⟨rfl,-⟩,-,rfl⟩:=hv;exact .inr ⟨_,_,cur,rfl,hg,hb.trans hh,r⟩
theorem zB.below {w w':World} {base R n cap:Nat} {f:Nat→Nat} (h:zB w base R n cap f) {B:Nat} (hb:Below B w w') (hB:R<B):zB w' base R n cap f:=h.kept (hb.block R hB)
theorem zB.base {w:World} {base b' R n cap:Nat} {f:Nat→Nat} (h:zB w base R n cap f) (hb:b'≤R):zB w b' R n cap f:=by
 obtain ⟨rs,⟨h1,h2⟩,h3⟩:=h;refine ⟨rs,⟨h1,?_⟩,h3⟩;rcases h2 with ⟨h2,-⟩ | ⟨g,c,cur,hv,hg,r⟩
 ·cases h2
 ·simp only [Value.slice.injEq,Option.some.injEq,Addr.mk.injEq] at hv;obtain ⟨⟨rfl,-⟩,-,rfl⟩:=hv;exact .inr ⟨_,_,cur,rfl,hb,r⟩
theorem zB.congr {w:World} {base R n cap:Nat} {f g:Nat→Nat} (h:zB w base R n cap f) (e:∀ j,j<n→f j=g j):zB w base R n cap g:=by
 obtain ⟨rs,h1,h2⟩:=h;refine ⟨rs,h1,fun j hj=>?_⟩;rw [← e j hj];exact h2 j hj
def yQ {α:Type} (f:Nat→α) (j:Nat) (c:α):Nat→α:=fun i=>if i=j then c else f i
theorem zG {α:Type} (f:Nat→α) (j:Nat) (c:α):yQ f j c j=c:=if_pos rfl
theorem zv {α:Type} (f:Nat→α) {i j:Nat} (c:α) (h:i≠j):yQ f j c i=f i:=if_neg h
theorem zB.set {w:World} {base R n cap:Nat} {f:Nat→Nat} (h:zB w base R n cap f) {j y c:Nat} (hj:j<n) (h1:zu y=c) (h2:y<18446744073709551616):zB (w.setCell ⟨R,j,none⟩ (.float .f64 y)) base R n cap (yQ f j c):=by
 obtain ⟨rs,g1,g2⟩:=h;have hl:=g1.1;refine ⟨rs.set j (.float .f64 y),(g1.stored j _).1,fun i hi=>?_⟩;by_cases e:i=j
 ·subst e;exact ⟨y,by rw [List.getElem?_set_self (by omega)],by rw [zG]; exact h1,h2⟩
 ·obtain ⟨z,z1,z2,z3⟩:=g2 i hi;exact ⟨z,by rw [List.getElem?_set_ne (Ne.symm e)]; exact z1,by rw [zv _ _ e]; exact z2,z3⟩
theorem zB.other {w:World} {base R n cap:Nat} {f:Nat→Nat} (h:zB w base R n cap f) {B o:Nat} (hne:B≠R) (v:Value):zB (w.setCell ⟨B,o,none⟩ v) base R n cap f:=
 h.kept (Below.heap_setCell _ _ _ _ (fun e=>hne (by simpa using e.symm)))
def yF (w:World) (v:Value) (n:Nat) (f:Nat→Nat):Prop:=
 ∃ a cap,v=.slice a n cap∧n≤9223372036854775807∧(0<n→∃ b off,a=some ⟨b,off,none⟩∧b<w.heap.size∧∀ i,i<n→y6 w b (off+i) (f i))
theorem yF.below {w w':World} {v:Value} {n:Nat} {f:Nat→Nat} (h:yF w v n f) (hb:Below w.heap.size w w'):yF w' v n f:=by
 obtain ⟨a,cap,h1,h2,h3⟩:=h;refine ⟨a,cap,h1,h2,fun hl=>?_⟩;obtain ⟨b,off,e,hs,hc⟩:=h3 hl;exact ⟨b,off,e,Nat.lt_of_lt_of_le hs hb.size,fun i hi=>(hc i hi).same ((yf hb).1 _ _ hs)⟩
theorem yF.congr {w:World} {v:Value} {n:Nat} {f g:Nat→Nat} (h:yF w v n f) (e:∀ j,j<n→f j=g j):yF w v n g:=by
 obtain ⟨a,cap,h1,h2,h3⟩:=h;refine ⟨a,cap,h1,h2,fun hl=>?_⟩;obtain ⟨b,off,e',hs,hc⟩:=h3 hl;exact ⟨b,off,e',hs,fun i hi=>e i hi ▸ hc i hi⟩
theorem zB.flts {w:World} {base R n cap:Nat} {f:Nat→Nat} (h:zB w base R n cap f) (hn:n≤9223372036854775807):yF w (.slice (some ⟨R,0,none⟩) n cap) n f:=
 ⟨_,cap,rfl,hn,fun _=>⟨R,0,rfl,h.lt.2,fun i hi=>by rw [Nat.zero_add]; exact h.cell hi⟩⟩
def TabR (w:World) (v:Value) (n:Nat) (m:Nat→Nat) (f:Nat→Nat→Nat):Prop:=
 ∃ a cap,v=.slice a n cap∧n≤9223372036854775807∧(0<n→∃ b off,a=some ⟨b,off,none⟩∧b<w.heap.size∧∀ i,i<n→∃ u,w.cell? ⟨b,off+i,none⟩=some u∧yF w u (m i) (f i))
theorem TabR.below {w w':World} {v:Value} {n:Nat} {m:Nat→Nat} {f:Nat→Nat→Nat} (h:TabR w v n m f) (hb:Below w.heap.size w w'):TabR w' v n m f:=by
 obtain ⟨a,cap,h1,h2,h3⟩:=h;refine ⟨a,cap,h1,h2,fun hl=>?_⟩;obtain ⟨b,off,e,hs,hc⟩:=h3 hl;refine ⟨b,off,e,Nat.lt_of_lt_of_le hs hb.size,fun i hi=>?_⟩;obtain ⟨u,u1,u2⟩:=hc i hi;exact ⟨u,((yf hb).1 _ _ hs).trans u1,u2.below hb⟩
structure yt (w:World) (base G n m:Nat) (blk cap:Nat→Nat) (f:Nat→Nat→Nat):Prop where
 ref:∀ i,i<n→w.cell? ⟨G,i,none⟩=some (.slice (some ⟨blk i,0,none⟩) m (cap i))
 free:∀ i,i<n→w.frozen? ⟨G,i,none⟩=false
 row:∀ i,i<n→zB w base (blk i) m (cap i) (f i)
 inj:∀ i j,i<n→j<n→blk i=blk j→i=j
 off:∀ i,i<n→blk i≠G
 lo:base≤G
 hi:G<w.heap.size
theorem yt.below {w w':World} {base G n m:Nat} {blk cap:Nat→Nat} {f:Nat→Nat→Nat} (h:yt w base G n m blk cap f) (hb:Below w.heap.size w w'):yt w' base G n m blk cap f:=
 ⟨fun i hi=>((yf hb).1 _ _ h.hi).trans (h.ref i hi),fun i hi=>((yf hb).2 _ _ h.hi).trans (h.free i hi),fun i hi=>(h.row i hi).below hb (h.row i hi).lt.2,h.inj,h.off,h.lo,Nat.lt_of_lt_of_le h.hi hb.size⟩
theorem yt.congr {w:World} {base G n m:Nat} {blk cap:Nat→Nat} {f g:Nat→Nat→Nat} (h:yt w base G n m blk cap f) (e:∀ i j,i<n→j<m→f i j=g i j):yt w base G n m blk cap g:=
 ⟨h.ref,h.free,fun i hi=>(h.row i hi).congr (fun j hj=>e i j hi hj),h.inj,h.off,h.lo,h.hi⟩
theorem yt.base {w:World} {base b' G n m:Nat} {blk cap:Nat→Nat} {f:Nat→Nat→Nat} (h:yt w base G n m blk cap f) (hb:b'≤base):yt w b' G n m blk cap f:=
 ⟨h.ref,h.free,fun i hi=>(h.row i hi).base (Nat.le_trans hb (h.row i hi).lt.1),h.inj,h.off,Nat.le_trans hb h.lo,h.hi⟩
def xL (f:Nat→Nat→Nat) (i j c:Nat):Nat→Nat→Nat:=yQ f i (yQ (f i) j c)
theorem yt.set {w:World} {base G n m:Nat} {blk cap:Nat→Nat} {f:Nat→Nat→Nat} (h:yt w base G n m blk cap f) {i j y c:Nat} (hi:i<n) (hj:j<m) (h1:zu y=c) (h2:y<18446744073709551616):yt (w.setCell ⟨blk i,j,none⟩ (.float .f64 y)) base G n m blk cap (xL f i j c):=by
 have hG:(w.setCell ⟨blk i,j,none⟩ (.float .f64 y)).heap[G]? = w.heap[G]?:=Below.heap_setCell _ _ _ _ (fun e=>h.off i hi e.symm);refine ⟨fun k hk=>(World.cell?_of_block (a:=⟨G,k,none⟩) hG).trans (h.ref k hk),fun k hk=>(World.frozen?_of_block (a:=⟨G,k,none⟩) hG).trans (h.free k hk),fun k hk=>?_,h.inj,h.off,h.lo,by simp [World.setCell]; exact h.hi⟩;by_cases e:k=i
 ·subst e;unfold xL;rw [zG];exact (h.row k hk).set hj h1 h2
 ·unfold xL;rw [zv _ _ e];exact (h.row k hk).other (fun g=>e (h.inj k i hk hi g.symm)) _
end Go.Proofs.Ytfcjfijmdikcmaa
namespace Go.Proofs.Ytfcjfijmdikcmaa
open Go.RowKit Lib
open Ieee (double)
theorem wO:(Try.prog.info? 38).map (fun i=>(i.zero,i.size,i.bytes))=some (some (.float .f64 0),1,8):=by kernel_rfl
theorem xM:(Try.prog.info? 3).map (fun i=>(i.zero,i.size,i.bytes))=some (some (.int .i64 0),1,8):=by kernel_rfl
structure yD (w:World) (base G n j m:Nat) (blk cap:Nat→Nat) (f:Nat→Nat→Nat):Prop where
 own:∃ rs,w.ownsRow base 32 1 (.slice (some ⟨G,0,none⟩) n n) n rs∧∀ i,i<j→rs[i]? = some (.slice (some ⟨blk i,0,none⟩) m (cap i))
 row:∀ i,i<j→zB w base (blk i) m (cap i) (f i)
 inj:∀ i k,i<j→k<j→blk i=blk k→i=k
 off:∀ i,i<j→blk i≠G
theorem yD.lt {w:World} {base G n j m:Nat} {blk cap:Nat→Nat} {f:Nat→Nat→Nat} (h:yD w base G n j m blk cap f):base≤G∧G<w.heap.size:=by
 obtain ⟨⟨rs,h1,-⟩,-⟩:=h;exact h1.lt G rfl
theorem yo {w w':World} {base R n cap:Nat} {E:TypeId} {rs:List Value} (h:w.ownsRow base E 1 (.slice (some ⟨R,0,none⟩) n cap) n rs) (hb:w'.heap[R]? = w.heap[R]?):w'.ownsRow base E 1 (.slice (some ⟨R,0,none⟩) n cap) n rs:=by
 obtain ⟨h1,h2⟩:=h;refine ⟨h1,?_⟩;rcases h2 with ⟨h2,-⟩ | ⟨g,c,cur,hv,hg,hh,r⟩
 ·cases h2
 ·simp only [Value.slice.injEq,Option.some.injEq,Addr.mk.injEq] at hv;obtain ⟨⟨rfl,-⟩,-,rfl⟩:=hv;exact .inr ⟨_,_,cur,rfl,hg,hb.trans hh,r⟩
theorem zB.heap {w:World} {base R n cap:Nat} {f:Nat→Nat} (h:zB w base R n cap f):∃ cur:List Value,w.heap[R]? = some (.cells cur.toArray 38 (0,0))∧cur.length=cap∧n≤cap:=by
 obtain ⟨rs,⟨h1,h2⟩,-⟩:=h;rcases h2 with ⟨h2,-⟩ | ⟨g,c,cur,hv,hg,hh,hn,hm,hs,-⟩
 ·cases h2
 ·simp only [Value.slice.injEq,Option.some.injEq,Addr.mk.injEq] at hv;obtain ⟨⟨rfl,-⟩,-,rfl⟩:=hv;exact ⟨cur.toList,by simpa using hh,by simpa using hs,hn⟩
theorem yD.below {w w':World} {base G n j m:Nat} {blk cap:Nat→Nat} {f:Nat→Nat→Nat} (h:yD w base G n j m blk cap f) {B:Nat} (hb:Below B w w') (hG:G<B) (hB:∀ i,i<j→blk i<B):yD w' base G n j m blk cap f:=by
 obtain ⟨⟨rs,h1,h2⟩,h3,h4,h5⟩:=h;exact ⟨⟨rs,yo h1 (hb.block G hG),h2⟩,fun i hi=>(h3 i hi).below hb (hB i hi),h4,h5⟩
theorem yD.congr {w:World} {base G n j m:Nat} {blk cap:Nat→Nat} {f g:Nat→Nat→Nat} (h:yD w base G n j m blk cap f) (e:∀ i k,i<j→k<m→f i k=g i k):yD w base G n j m blk cap g:=
 ⟨h.own,fun i hi=>(h.row i hi).congr (fun k hk=>e i k hi hk),h.inj,h.off⟩
theorem wD {w:World} {base R n:Nat} (h:w.ownsRow base 38 1 (.slice (some ⟨R,0,none⟩) n n) n (madeCells #[Value.float .f64 0] n).toList):zB w base R n n fun _=>0:=by
 refine ⟨_,h,fun j hj=>⟨0,?_,rfl,by decide⟩⟩;have e:(madeCells #[Value.float .f64 0] n).toList=List.replicate n (.float .f64 0):=toList_madeCells_one _ _;rw [e,List.getElem?_replicate,if_pos hj]
def zm (w:World) (base R n cap:Nat) (f:Nat→Int):Prop:=
 ∃ rs,w.ownsRow base 3 1 (.slice (some ⟨R,0,none⟩) n cap) n rs∧∀ j,j<n→rs[j]? = some (.int .i64 (f j))
theorem zm.cell {w:World} {base R n cap:Nat} {f:Nat→Int} (h:zm w base R n cap f) {j:Nat} (hj:j<n):w.cell? ⟨R,j,none⟩=some (.int .i64 (f j)):=by
 obtain ⟨rs,h1,h2⟩:=h;exact (h1.cellAt j (by omega)).trans (h2 j hj)
theorem zm.free {w:World} {base R n cap:Nat} {f:Nat→Int} (h:zm w base R n cap f) (j:Nat):w.frozen? ⟨R,j,none⟩=false:=by
 obtain ⟨rs,h1,-⟩:=h;exact h1.frozenAt j
theorem zm.lt {w:World} {base R n cap:Nat} {f:Nat→Int} (h:zm w base R n cap f):base≤R∧R<w.heap.size:=by
 obtain ⟨rs,h1,-⟩:=h;exact h1.lt R rfl
theorem zm.kept {w w':World} {base R n cap:Nat} {f:Nat→Int} (h:zm w base R n cap f) (hb:w'.heap[R]? = w.heap[R]?):zm w' base R n cap f:=by
 obtain ⟨rs,h1,h3⟩:=h;exact ⟨rs,yo h1 hb,h3⟩
theorem zm.below {w w':World} {base R n cap:Nat} {f:Nat→Int} (h:zm w base R n cap f) {B:Nat} (hb:Below B w w') (hB:R<B):zm w' base R n cap f:=h.kept (hb.block R hB)
theorem zm.base {w:World} {base b' R n cap:Nat} {f:Nat→Int} (h:zm w base R n cap f) (hb:b'≤R):zm w b' R n cap f:=by
 obtain ⟨rs,⟨h1,h2⟩,h3⟩:=h;refine ⟨rs,⟨h1,?_⟩,h3⟩;rcases h2 with ⟨h2,-⟩ | ⟨g,c,cur,hv,hg,r⟩
 ·cases h2
 ·simp only [Value.slice.injEq,Option.some.injEq,Addr.mk.injEq] at hv;obtain ⟨⟨rfl,-⟩,-,rfl⟩:=hv;exact .inr ⟨_,_,cur,rfl,hb,r⟩
theorem zm.congr {w:World} {base R n cap:Nat} {f g:Nat→Int} (h:zm w base R n cap f) (e:∀ j,j<n→f j=g j):zm w base R n cap g:=by
 obtain ⟨rs,h1,h2⟩:=h;exact ⟨rs,h1,fun j hj=>by rw [← e j hj]; exact h2 j hj⟩
theorem zm.set {w:World} {base R n cap:Nat} {f:Nat→Int} (h:zm w base R n cap f) {j:Nat} (hj:j<n) (c:Int):zm (w.setCell ⟨R,j,none⟩ (.int .i64 c)) base R n cap (yQ f j c):=by
 obtain ⟨rs,g1,g2⟩:=h;have hl:=g1.1;refine ⟨rs.set j (.int .i64 c),(g1.stored j _).1,fun i hi=>?_⟩;by_cases e:i=j
 ·subst e; rw [zG,List.getElem?_set_self (by omega)]
 ·rw [zv _ _ e,List.getElem?_set_ne (Ne.symm e)]; exact g2 i hi
theorem zm.other {w:World} {base R n cap:Nat} {f:Nat→Int} (h:zm w base R n cap f) {B o:Nat} (hne:B≠R) (v:Value):zm (w.setCell ⟨B,o,none⟩ v) base R n cap f:=
 h.kept (Below.heap_setCell _ _ _ _ (fun e=>hne (by simpa using e.symm)))
theorem xE {w:World} {base R n:Nat} (h:w.ownsRow base 3 1 (.slice (some ⟨R,0,none⟩) n n) n (madeCells #[Value.int .i64 0] n).toList):zm w base R n n fun _=>0:=by
 refine ⟨_,h,fun j hj=>?_⟩;rw [toList_madeCells_one,List.getElem?_replicate,if_pos hj]
def xN (w:World) (v:Value) (n:Nat) (f:Nat→Int):Prop:=
 ∃ a cap,v=.slice a n cap∧n≤9223372036854775807∧(0<n→∃ b off,a=some ⟨b,off,none⟩∧b<w.heap.size∧∀ i,i<n→w.cell? ⟨b,off+i,none⟩=some (.int .i64 (f i)))
theorem xN.below {w w':World} {v:Value} {n:Nat} {f:Nat→Int} (h:xN w v n f) (hb:Below w.heap.size w w'):xN w' v n f:=by
 obtain ⟨a,cap,h1,h2,h3⟩:=h;refine ⟨a,cap,h1,h2,fun hl=>?_⟩;obtain ⟨b,off,e,hs,hc⟩:=h3 hl;exact ⟨b,off,e,Nat.lt_of_lt_of_le hs hb.size,fun i hi=>((yf hb).1 _ _ hs).trans (hc i hi)⟩
theorem zm.drewN {w:World} {base R n cap:Nat} {f:Nat→Int} (h:zm w base R n cap f) (q:Nat):zm (w.drewN q) base R n cap f:=h.kept rfl
theorem zB.drewN {w:World} {base R n cap:Nat} {f:Nat→Nat} (h:zB w base R n cap f) (q:Nat):zB (w.drewN q) base R n cap f:=h.kept rfl
theorem yt.drew {w:World} {base G n m:Nat} {blk cap:Nat→Nat} {f:Nat→Nat→Nat} (h:yt w base G n m blk cap f):yt w.drew base G n m blk cap f:=h.below (Below.refl _ _).drew
theorem zm.drew {w:World} {base R n cap:Nat} {f:Nat→Int} (h:zm w base R n cap f):zm w.drew base R n cap f:=h.kept rfl
theorem zB.drew {w:World} {base R n cap:Nat} {f:Nat→Nat} (h:zB w base R n cap f):zB w.drew base R n cap f:=h.kept rfl
end Go.Proofs.Ytfcjfijmdikcmaa
