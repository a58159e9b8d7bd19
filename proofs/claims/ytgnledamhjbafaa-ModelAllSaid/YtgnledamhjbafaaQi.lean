/-
  Contracts (what a function tells) and plain facts that a law's proof hangs on, for every input; no condition but those in their statements. Laid together of the texts Gr.
-/
import Derived.Lib.Hide
import Derived.Test.YtgnledamhjbafaaQh
namespace Go.Proofs.Ytgnledamhjbafaa
open Lib
open Ieee (double)
def Lo (x:Nat) (T:Int):Prop:=isN x=false∧(key x=-(zc:Int)∨V x≤T)
def Hi (x:Nat) (T:Int):Prop:=isN x=false∧(key x=zc∨T≤V x)
def Sm (T:Int):Prop:=-(U zc:Int)<T∧T<U zc
theorem xQ {x:Nat} (h:key x=zc):V x=U zc:=by
 have hp:(0:Int)<zc:=by decide
 rw [zq] at h;unfold sgd at h;unfold V sgd;cases hn:neg x<;>rw [hn] at h<;>simp only [Bool.false_eq_true,if_false,if_true] at h ⊢
 ·rw [show x % p63=zc by omega]
 ·omega
theorem vm {x:Nat} (h:key x=-(zc:Int)):V x=-(U zc:Int):=by
 have hp:(0:Int)<zc:=by decide
 rw [zq] at h;unfold sgd at h;unfold V sgd;cases hn:neg x<;>rw [hn] at h<;>simp only [Bool.false_eq_true,if_false,if_true] at h ⊢
 ·omega
 ·rw [show x % p63=zc by omega]
theorem wX {x:Nat} (hN:isN x=false) (h1:key x≠zc) (h2:key x≠-(zc:Int)):x % p63<zc:=by
 have h:=zr hN;rcases Nat.lt_or_ge (x % p63) zc with g | g
 ·exact g
 ·have e:x % p63=zc:=by omega
  exfalso;have:=zq x;unfold sgd at this;split at this
  ·exact h2 (by rw [this,e])
  ·exact h1 (by rw [this,e])
theorem Lo.cases {x:Nat} {T:Int} (h:Lo x T) (hT:Sm T):key x=-(zc:Int)∨(x % p63<zc∧V x≤T):=by
 rcases h.2 with g | g
 ·exact .inl g
 ·by_cases h2:key x=-(zc:Int)
  ·exact .inl h2
  ·refine .inr ⟨wX h.1 (fun h1=>?_) h2,g⟩;have:=xQ h1;have:=hT.2;omega
theorem Hi.cases {x:Nat} {T:Int} (h:Hi x T) (hT:Sm T):key x=zc∨(x % p63<zc∧T≤V x):=by
 rcases h.2 with g | g
 ·exact .inl g
 ·by_cases h2:key x=zc
  ·exact .inl h2
  ·refine .inr ⟨wX h.1 h2 (fun h1=>?_),g⟩;have:=vm h1;have:=hT.1;omega
theorem sa {x:Nat} (h:isN (zD x)=false):isN x=false:=by
 cases hn:isN x
 ·rfl
 ·unfold zD at h; rw [if_pos hn] at h; exact absurd h (by decide)
theorem rh {x:Nat} (h:isN (upB x)=false):isN x=false:=by
 cases hn:isN x
 ·rfl
 ·unfold upB at h; rw [if_pos hn] at h; exact absurd h (by decide)
theorem sI {x:Nat} {R:Int} (hx:x<18446744073709551616) (hN:isN x=false) (h:key x≤RK R (-1074)):Lo (zD x) R:=by
 obtain ⟨k1,k2,k3⟩:=xe hx hN;refine ⟨k2,?_⟩;by_cases hi:key x=-(zc:Int)
 ·rw [if_pos hi] at k1; exact .inl (by rw [k1,hi])
 ·rw [if_neg hi] at k1;refine .inr ?_;rcases Int.lt_or_le R (V (zD x)) with g | g
  ·exfalso;have:=yP (-1074) (Int.le_of_lt g);rw [RK_V (zr k2)] at this;omega
  ·exact g
theorem up_hi {x:Nat} {R:Int} (hx:x<18446744073709551616) (hN:isN x=false) (h:RK R (-1074)≤key x):Hi (upB x) R:=by
 obtain ⟨k1,k2,k3⟩:=wQ hx hN;refine ⟨k2,?_⟩;by_cases hi:key x=zc
 ·rw [if_pos hi] at k1; exact .inl (by rw [k1,hi])
 ·rw [if_neg hi] at k1;refine .inr ?_;rcases Int.lt_or_le (V (upB x)) R with g | g
  ·exfalso;have:=yP (-1074) (Int.le_of_lt g);rw [RK_V (zr k2)] at this;omega
  ·exact g
theorem sb (R:Int):Lo 18442240474082181120 R:=⟨by decide,.inl (by decide)⟩
theorem sd (R:Int):Hi 9218868437227405312 R:=⟨by decide,.inl (by decide)⟩
theorem vS {p q:Nat} {R:Int} (hp:p<18446744073709551616) (hq:q<18446744073709551616) (h1:isN p=false→key p≤RK R (-1074)) (h2:isN q=false→RK R (-1074)≤key q):Lo (xk p q).1 R∧Hi (xk p q).2 R:=by
 unfold xk;cases hl:leB (zD p) (upB q)
 ·exact ⟨sb R,sd R⟩
 ·simp only [cond_true];unfold leB at hl;simp only [Bool.and_eq_true,Bool.not_eq_true'] at hl;have n1:=sa hl.1.1;have n2:=rh hl.1.2;exact ⟨sI hp n1 (h1 n1),up_hi hq n2 (h2 n2)⟩
theorem se (R:Int):-(zc:Int)≤RK R (-1074):=(xG R (-1074)).1
theorem sf (R:Int):RK R (-1074)≤zc:=(xG R (-1074)).2
theorem uU {x y:Nat} (hx:key x=-(zc:Int)∨key y=-(zc:Int)) (hx1:key x≠zc) (hy1:key y≠zc) (nx:isN x=false) (ny:isN y=false):key (cop .add x y)=-(zc:Int):=by
 have hi:∀ z,key z=-(zc:Int)→z % p63=zc∧neg z=true:=fun z h=>by
  have hp:(0:Int)<zc:=by decide
  rw [zq] at h;unfold sgd at h;cases hn:neg z<;>rw [hn] at h<;>simp only [Bool.false_eq_true,if_false,if_true] at h
  ·omega
  ·exact ⟨by omega,rfl⟩
 have word:∀ {r},floatBits .add .f64 x y=some r→r=double.word true zc→key (cop .add x y)=-(zc:Int):=fun {r} h e=>by
  rw [zE h,e,zi (by decide)]; decide
 have rd:∀ z,key z≠zc→isN z=false→(∃ s m p,double.read z=.number s m p)∨double.read z=.infinity true:=fun z h1 h2=>by
  by_cases hz:z % p63<zc
  ·obtain ⟨m,p,e,-⟩:=zB hz;exact .inl ⟨_,_,_,e⟩
  ·have e:z % p63=zc:=by have:=zr h2; omega
   refine .inr ?_;rw [zp e];have:=zq z;unfold sgd at this;cases hn:neg z
   ·rw [hn] at this; simp only [Bool.false_eq_true,if_false] at this; exact absurd (by rw [this,e]) h1
   ·rfl
 have fb:floatBits .add .f64 x y=double.add x y:=rfl;rcases hx with h | h
 ·obtain ⟨h1,h2⟩:=hi x h;have e:=zp h1;rw [h2] at e;rcases rd y hy1 ny with ⟨s,m,p,g⟩ | g
  ·exact word (fb.trans (by unfold Ieee.Format.add; rw [e,g]; rfl)) rfl
  ·exact word (fb.trans (by unfold Ieee.Format.add; rw [e,g]; rfl)) rfl
 ·obtain ⟨h1,h2⟩:=hi y h;have e:=zp h1;rw [h2] at e;rcases rd x hx1 nx with ⟨s,m,p,g⟩ | g
  ·exact word (fb.trans (by unfold Ieee.Format.add; rw [e,g]; rfl)) rfl
  ·exact word (fb.trans (by unfold Ieee.Format.add; rw [e,g]; rfl)) rfl
theorem uk {x y:Nat} (hx:x % p63<zc) (hy:y % p63<zc):isN (cop .add x y)=false∧key (cop .add x y)=RK (V x+V y) (-1074)∧cop .add x y<18446744073709551616:=by
 have e:=xH hx hy;have k:=sC hx hy e;have c:cop .add x y=_:=zE (op:=.add) e;rw [zi k.2.1] at c;rw [c]; exact ⟨k.2.1,k.1,k.2.2⟩
theorem sh {a c:Nat} {S T:Int} (ha:Lo a S) (hc:Lo c T) (hS:Sm S) (hT:Sm T) (_h:isN (cop .add a c)=false):key (cop .add a c)≤RK (S+T) (-1074):=by
 have inf1:∀ {x R},Lo x R→Sm R→key x≠zc:=fun {x R} h hR e=>by
  rcases h.cases hR with g | ⟨g,-⟩
  ·rw [g] at e; exact absurd e (by decide)
  ·have:=xQ e;have hk:=zq x;unfold sgd at hk;split at hk<;>omega
 rcases ha.cases hS with g1 | ⟨g1,g2⟩
 ·rw [uU (.inl g1) (inf1 ha hS) (inf1 hc hT) ha.1 hc.1]; exact se _
 ·rcases hc.cases hT with k1 | ⟨k1,k2⟩
  ·rw [uU (.inr k1) (inf1 ha hS) (inf1 hc hT) ha.1 hc.1]; exact se _
  ·obtain ⟨-,e,-⟩:=uk g1 k1;rw [e]; exact yP _ (by omega)
def fl (y:Nat):Nat:=double.word (!neg y) (y % p63)
theorem si {y:Nat} (h:isN y=false):key (fl y)=- key y:=by
 unfold fl;rw [xd _ (zr h),zq];unfold sgd; cases neg y<;>simp
theorem fl_V {y:Nat} (h:isN y=false):V (fl y)=- V y:=by
 unfold fl;rw [tF _ (zr h)];unfold V sgd; cases neg y<;>simp
theorem sj {y:Nat} (h:isN y=false):isN (fl y)=false:=yA _ (zr h)
theorem sJ {y:Nat} (h:isN y=false):(double.read y).opposite=double.read (fl y):=by
 by_cases hf:y % p63<zc
 ·exact xx y hf
 ·have e:y % p63=zc:=by have:=zr h; omega
  rw [zp e];have hm:fl y % p63=zc:=by unfold fl; rw [yz _ (zr h),e]
  rw [zp hm];have:neg (fl y)=!neg y:=by unfold fl; rw [yM _ (zr h)]
  rw [this]; rfl
theorem uV {x y:Nat} (h:isN y=false):cop .sub x y=cop .add x (fl y):=by
 have e:floatBits .sub .f64 x y=floatBits .add .f64 x (fl y):=by
  show double.sub x y=double.add x (fl y);unfold Ieee.Format.sub Ieee.Format.add;rw [sJ h]
 unfold cop; rw [e]
theorem Hi.flip {d:Nat} {T:Int} (h:Hi d T):Lo (fl d) (-T):=⟨sj h.1,by
 rw [si h.1,fl_V h.1];rcases h.2 with g | g
 ·exact .inl (by omega)
 ·exact .inr (by omega)⟩
theorem Lo.flip {d:Nat} {T:Int} (h:Lo d T):Hi (fl d) (-T):=⟨sj h.1,by
 rw [si h.1,fl_V h.1];rcases h.2 with g | g
 ·exact .inl (by omega)
 ·exact .inr (by omega)⟩
theorem Sm.neg {T:Int} (h:Sm T):Sm (-T):=by unfold Sm at *; omega
theorem ul {x y:Nat} (hx:key x=zc∨key y=zc) (hx1:key x≠-(zc:Int)) (hy1:key y≠-(zc:Int)) (nx:isN x=false) (ny:isN y=false):key (cop .add x y)=zc:=by
 have hi:∀ z,key z=zc→z % p63=zc∧neg z=false:=fun z h=>by
  have hp:(0:Int)<zc:=by decide
  rw [zq] at h;unfold sgd at h;cases hn:neg z<;>rw [hn] at h<;>simp only [Bool.false_eq_true,if_false,if_true] at h
  ·exact ⟨by omega,rfl⟩
  ·omega
 have word:∀ {r},floatBits .add .f64 x y=some r→r=double.word false zc→key (cop .add x y)=zc:=fun {r} h e=>by
  rw [zE h,e,zi (by decide)]; decide
 have rd:∀ z,key z≠-(zc:Int)→isN z=false→(∃ s m p,double.read z=.number s m p)∨double.read z=.infinity false:=fun z h1 h2=>by
  by_cases hz:z % p63<zc
  ·obtain ⟨m,p,e,-⟩:=zB hz;exact .inl ⟨_,_,_,e⟩
  ·have e:z % p63=zc:=by have:=zr h2; omega
   refine .inr ?_;rw [zp e];have:=zq z;unfold sgd at this;cases hn:neg z
   ·rfl
   ·rw [hn] at this; simp only [if_true] at this; exact absurd (by rw [this,e]) h1
 have fb:floatBits .add .f64 x y=double.add x y:=rfl;rcases hx with h | h
 ·obtain ⟨h1,h2⟩:=hi x h;have e:=zp h1;rw [h2] at e;rcases rd y hy1 ny with ⟨s,m,p,g⟩ | g
  ·exact word (fb.trans (by unfold Ieee.Format.add; rw [e,g]; rfl)) rfl
  ·exact word (fb.trans (by unfold Ieee.Format.add; rw [e,g]; rfl)) rfl
 ·obtain ⟨h1,h2⟩:=hi y h;have e:=zp h1;rw [h2] at e;rcases rd x hx1 nx with ⟨s,m,p,g⟩ | g
  ·exact word (fb.trans (by unfold Ieee.Format.add; rw [e,g]; rfl)) rfl
  ·exact word (fb.trans (by unfold Ieee.Format.add; rw [e,g]; rfl)) rfl
theorem sk {b d:Nat} {S T:Int} (hb:Hi b S) (hd:Hi d T) (hS:Sm S) (hT:Sm T):RK (S+T) (-1074)≤key (cop .add b d):=by
 have inf1:∀ {x R},Hi x R→Sm R→key x≠-(zc:Int):=fun {x R} h hR e=>by
  rcases h.cases hR with g | ⟨g,-⟩
  ·rw [g] at e; exact absurd e (by decide)
  ·have hk:=zq x;unfold sgd at hk;split at hk<;>omega
 rcases hb.cases hS with g1 | ⟨g1,g2⟩
 ·rw [ul (.inl g1) (inf1 hb hS) (inf1 hd hT) hb.1 hd.1]; exact sf _
 ·rcases hd.cases hT with k1 | ⟨k1,k2⟩
  ·rw [ul (.inr k1) (inf1 hb hS) (inf1 hd hT) hb.1 hd.1]; exact sf _
  ·obtain ⟨-,e,-⟩:=uk g1 k1;rw [e]; exact yP _ (by omega)
theorem add_enc {a b c d:Nat} {S T:Int} (ha:Lo a S) (hb:Hi b S) (hc:Lo c T) (hd:Hi d T) (hS:Sm S) (hT:Sm T):Lo (xP a b c d).1 (S+T)∧Hi (xP a b c d).2 (S+T):=
 vS (zL _ _ _) (zL _ _ _) (fun h=>sh ha hc hS hT h) (fun _=>sk hb hd hS hT)
theorem sub_enc {a b c d:Nat} {S T:Int} (ha:Lo a S) (hb:Hi b S) (hc:Lo c T) (hd:Hi d T) (hS:Sm S) (hT:Sm T):Lo (yT a b c d).1 (S-T)∧Hi (yT a b c d).2 (S-T):=by
 unfold yT;rw [uV hd.1,uV hc.1];refine vS (zL _ _ _) (zL _ _ _) (fun h=>?_) (fun _=>?_)
 ·exact sh ha hd.flip hS hT.neg h
 ·exact sk hb hc.flip hS hT.neg
theorem um {x y:Nat} (hx:x % p63<zc) (hy:y % p63<zc):isN (cop .mul x y)=false∧key (cop .mul x y)=RK (V x*V y) (-2148):=by
 have e:=yQ hx hy;have k:=wz hx hy e;have c:cop .mul x y=_:=zE (op:=.mul) e;rw [zi k.2.1] at c;rw [c]; exact ⟨k.2.1,k.1⟩
theorem uW {R P:Int} (h:R*(2 ^ 1074:Nat)=P):RK P (-2148)=RK R (-1074):=by
 rw [← h];have:=tG R (-1074) 1074;generalize ((2 ^ 1074:Nat):Int)=B at *;rw [show (-1074:Int)-((1074:Nat):Int)=-2148 by decide] at this;exact this
theorem zX {x:Nat}:V x=0↔key x=0:=by
 have:=@V_eq x 0;rw [show V 0=0 by decide,show key 0=0 by decide] at this;exact this
theorem zZ {x:Nat}:0<V x↔0<key x:=by
 have:=@V_lt 0 x;rw [show V 0=0 by decide,show key 0=0 by decide] at this;exact this
theorem ya {x:Nat}:V x<0↔key x<0:=by
 have:=@V_lt x 0;rw [show V 0=0 by decide,show key 0=0 by decide] at this;exact this
theorem ym {x:Nat}:(0<key x→neg x=false)∧(key x<0→neg x=true):=by
 rw [zq]; unfold sgd;cases neg x
 ·exact ⟨fun _=>rfl,fun h=>by simp only [Bool.false_eq_true,if_false] at h; omega⟩
 ·exact ⟨fun h=>by simp only [if_true] at h; omega,fun _=>rfl⟩
theorem xR {x y:Nat} (hx:x % p63=zc) (hy:key y≠0) (ny:isN y=false):key (cop .mul x y)=(if neg x ^^ neg y then -(zc:Int) else zc)∧key (cop .mul y x)=(if neg x ^^ neg y then -(zc:Int) else zc):=by
 have e:=zp hx
 have word:∀ {z w r s},floatBits .mul .f64 z w=some r→r=double.word s zc→key (cop .mul z w)=if s then -(zc:Int) else zc:=fun {z w r s} h e=>by
  rw [zE h,e,zi (by cases s<;>decide)];cases s<;>decide
 by_cases hy':y % p63<zc
 ·obtain ⟨m,p,g,-,g3⟩:=zB hy'
  have hm:m≠0:=by
   intro h;rw [h,Nat.zero_mul] at g3;have:y % p63=0:=xF (by rw [← g3]; exact ye.symm);apply hy;rw [zq,this]; unfold sgd; cases neg y<;>rfl
  constructor
  ·exact word (z:=x) (w:=y) (show double.mul x y=_ by unfold Ieee.Format.mul; rw [e,g]; simp only [Ieee.Datum.product,if_neg hm]; rfl) rfl
  ·exact word (z:=y) (w:=x) (show double.mul y x=_ by unfold Ieee.Format.mul; rw [e,g]; simp only [Ieee.Datum.product,if_neg hm]; rfl) rfl
 ·have hyi:y % p63=zc:=by have:=zr ny; omega
  have g:=zp hyi;constructor
  ·exact word (z:=x) (w:=y) (show double.mul x y=_ by unfold Ieee.Format.mul; rw [e,g]; rfl) rfl
  ·rw [show (neg x ^^ neg y)=(neg y ^^ neg x) by rw [Bool.xor_comm]];exact word (z:=y) (w:=x) (show double.mul y x=_ by unfold Ieee.Format.mul; rw [e,g]; rfl) rfl
theorem xS {x y:Nat} (hx:x % p63=zc) (hy:key y=0):isN (cop .mul x y)=true∧isN (cop .mul y x)=true:=by
 have e:=zp hx
 have y0:y % p63=0:=by
  rw [zq] at hy; unfold sgd at hy; split at hy<;>omega
 obtain ⟨m,p,g,-,g3⟩:=zB (x:=y) (by rw [y0]; decide)
 have hm:m=0:=by
  rw [y0,ye] at g3;rcases Nat.mul_eq_zero.1 g3 with h | h
  ·exact h
  ·have:=Nat.two_pow_pos (p+1074).toNat; omega
 have nn:∀ {z w},floatBits .mul .f64 z w=none→isN (cop .mul z w)=true:=fun {z w} h=>by unfold cop; rw [h]; decide
 constructor
 ·exact nn (show double.mul x y=none by unfold Ieee.Format.mul; rw [e,g]; simp only [Ieee.Datum.product,if_pos hm]; rfl)
 ·exact nn (show double.mul y x=none by unfold Ieee.Format.mul; rw [e,g]; simp only [Ieee.Datum.product,if_pos hm]; rfl)
theorem yG {x:Nat} (h:key x=zc∨key x=-(zc:Int)):x % p63=zc:=by
 rw [zq] at h;unfold sgd at h;split at h<;>omega
theorem zS {x y:Nat} (ny:isN y=false) (h:(key x=-(zc:Int)∧0<key y)∨(key x=zc∧key y<0)):key (cop .mul x y)=-(zc:Int)∧key (cop .mul y x)=-(zc:Int):=by
 have hp:(0:Int)<zc:=by decide
 rcases h with ⟨h1,h2⟩ | ⟨h1,h2⟩
 ·have n1:=ym.2 (show key x<0 by omega);have n2:=ym.1 h2;have:=xR (yG (.inr h1)) (by omega) ny;rw [n1,n2] at this; simpa using this
 ·have n1:=ym.1 (show 0<key x by omega);have n2:=ym.2 h2;have:=xR (yG (.inl h1)) (by omega) ny;rw [n1,n2] at this; simpa using this
theorem zT {x y:Nat} (ny:isN y=false) (h:(key x=-(zc:Int)∧key y<0)∨(key x=zc∧0<key y)):key (cop .mul x y)=zc∧key (cop .mul y x)=zc:=by
 have hp:(0:Int)<zc:=by decide
 rcases h with ⟨h1,h2⟩ | ⟨h1,h2⟩
 ·have n1:=ym.2 (show key x<0 by omega);have n2:=ym.2 h2;have:=xR (yG (.inr h1)) (by omega) ny;rw [n1,n2] at this; simpa using this
 ·have n1:=ym.1 (show 0<key x by omega);have n2:=ym.1 h2;have:=xR (yG (.inl h1)) (by omega) ny;rw [n1,n2] at this; simpa using this
set_option maxHeartbeats 16000000
theorem ri {a b c d:Nat} {S T R:Int} (ha:Lo a S) (hb:Hi b S) (hc:Lo c T) (hd:Hi d T) (hS:Sm S) (hT:Sm T) (hR:R*(2 ^ 1074:Nat)=S*T)
  (n1:isN (cop .mul a c)=false) (n2:isN (cop .mul a d)=false) (n3:isN (cop .mul b c)=false) (_n4:isN (cop .mul b d)=false) :
  key (cop .mul a c)≤RK R (-1074)∨key (cop .mul a d)≤RK R (-1074)∨key (cop .mul b c)≤RK R (-1074)∨key (cop .mul b d)≤RK R (-1074):=by
 have LE:∀ {e f:Nat},e % p63<zc→f % p63<zc→V e*V f≤S*T→key (cop .mul e f)≤RK R (-1074):=fun {e f} h1 h2 h=>by
  rw [(um h1 h2).2,← uW hR]; exact yP _ h
 have IN:∀ {e f:Nat},key (cop .mul e f)=-(zc:Int)→key (cop .mul e f)≤RK R (-1074):=fun {e f} h=>by rw [h]; exact se _
 have hp:(0:Int)<zc:=by decide
 have NO:∀ {e f:Nat},(key e=zc∨key e=-(zc:Int))→key f=0→isN (cop .mul e f)=false→False:=fun {e f} h1 h2 h3=>by rw [(xS (yG h1) h2).1] at h3; cases h3
 have NO':∀ {e f:Nat},(key e=zc∨key e=-(zc:Int))→key f=0→isN (cop .mul f e)=false→False:=fun {e f} h1 h2 h3=>by rw [(xS (yG h1) h2).2] at h3; cases h3
 have CD:(key c=-(zc:Int)∨(c % p63<zc∧V c≤T)):=hc.cases hT;have DD:(key d=zc∨(d % p63<zc∧T≤V d)):=hd.cases hT;have AD:=ha.cases hS;have BD:=hb.cases hS
 have dpos:0<T→0<key d:=by
  intro h;rcases DD with g | ⟨-,g⟩
  ·omega
  ·exact zZ.1 (by omega)
 have cneg:T<0→key c<0:=by
  intro h;rcases CD with g | ⟨-,g⟩
  ·omega
  ·exact ya.1 (by omega)
 rcases Int.lt_trichotomy T 0 with hT0 | hT0 | hT0
 ·rcases BD with e1 | ⟨e1,e2⟩
  ·exact .inr (.inr (.inl (IN (zS hc.1 (.inr ⟨e1,cneg hT0⟩)).1)))
  ·rcases Int.lt_trichotomy (V b) 0 with sg | sg | sg
   ·rcases DD with f1 | ⟨f1,f2⟩
    ·exact .inr (.inr (.inr (IN (zS hb.1 (.inr ⟨f1,ya.1 sg⟩)).2)))
    ·refine .inr (.inr (.inr (LE e1 f1 ?_)));have q1:=Int.mul_le_mul_of_nonpos_right e2 (Int.le_of_lt hT0);have q2:=Int.mul_le_mul_of_nonpos_left (Int.le_of_lt sg) f2;exact Int.le_trans q2 q1
   ·rcases CD with f1 | ⟨f1,f2⟩
    ·exact (NO' (.inr f1) (zX.1 sg) n3).elim
    ·refine .inr (.inr (.inl (LE e1 f1 ?_)));have q1:=Int.mul_le_mul_of_nonpos_right e2 (Int.le_of_lt hT0);rw [sg,Int.zero_mul]; rw [sg,Int.zero_mul] at q1; exact q1
   ·rcases CD with f1 | ⟨f1,f2⟩
    ·exact .inr (.inr (.inl (IN (zS hb.1 (.inl ⟨f1,zZ.1 sg⟩)).2)))
    ·refine .inr (.inr (.inl (LE e1 f1 ?_)));have q1:=Int.mul_le_mul_of_nonpos_right e2 (Int.le_of_lt hT0);have q2:=Int.mul_le_mul_of_nonneg_left f2 (Int.le_of_lt sg);exact Int.le_trans q2 q1
 ·rcases AD with e1 | ⟨e1,e2⟩
  ·rcases DD with f1 | ⟨f1,f2⟩
   ·exact .inr (.inl (IN (zS hd.1 (.inl ⟨e1,by omega⟩)).1))
   ·rw [hT0] at f2;rcases Int.lt_or_eq_of_le f2 with g | g
    ·exact .inr (.inl (IN (zS hd.1 (.inl ⟨e1,zZ.1 g⟩)).1))
    ·exact (NO (.inr e1) (zX.1 g.symm) n2).elim
  ·rcases Int.lt_trichotomy (V a) 0 with sg | sg | sg
   ·rcases DD with f1 | ⟨f1,f2⟩
    ·exact .inr (.inl (IN (zS ha.1 (.inr ⟨f1,ya.1 sg⟩)).2))
    ·refine .inr (.inl (LE e1 f1 ?_));rw [hT0,Int.mul_zero]; rw [hT0] at f2;exact Int.mul_nonpos_of_nonpos_of_nonneg (Int.le_of_lt sg) f2
   ·rcases CD with f1 | ⟨f1,f2⟩
    ·exact (NO' (.inr f1) (zX.1 sg) n1).elim
    ·refine .inl (LE e1 f1 ?_);rw [hT0,Int.mul_zero]; rw [hT0] at f2;rw [sg,Int.zero_mul]; exact Int.le_refl _
   ·rcases CD with f1 | ⟨f1,f2⟩
    ·exact .inl (IN (zS ha.1 (.inl ⟨f1,zZ.1 sg⟩)).2)
    ·refine .inl (LE e1 f1 ?_);rw [hT0,Int.mul_zero]; rw [hT0] at f2;exact Int.mul_nonpos_of_nonneg_of_nonpos (Int.le_of_lt sg) f2
 ·rcases AD with e1 | ⟨e1,e2⟩
  ·exact .inr (.inl (IN (zS hd.1 (.inl ⟨e1,dpos hT0⟩)).1))
  ·rcases Int.lt_trichotomy (V a) 0 with sg | sg | sg
   ·rcases DD with f1 | ⟨f1,f2⟩
    ·exact .inr (.inl (IN (zS ha.1 (.inr ⟨f1,ya.1 sg⟩)).2))
    ·refine .inr (.inl (LE e1 f1 ?_));have q1:=Int.mul_le_mul_of_nonneg_right e2 (Int.le_of_lt hT0);have q2:=Int.mul_le_mul_of_nonpos_left (Int.le_of_lt sg) f2;exact Int.le_trans q2 q1
   ·rcases CD with f1 | ⟨f1,f2⟩
    ·exact (NO' (.inr f1) (zX.1 sg) n1).elim
    ·refine .inl (LE e1 f1 ?_);have q1:=Int.mul_le_mul_of_nonneg_right e2 (Int.le_of_lt hT0);rw [sg,Int.zero_mul]; rw [sg,Int.zero_mul] at q1; exact q1
   ·rcases CD with f1 | ⟨f1,f2⟩
    ·exact .inl (IN (zS ha.1 (.inl ⟨f1,zZ.1 sg⟩)).2)
    ·refine .inl (LE e1 f1 ?_);have q1:=Int.mul_le_mul_of_nonneg_right e2 (Int.le_of_lt hT0);have q2:=Int.mul_le_mul_of_nonneg_left f2 (Int.le_of_lt sg);exact Int.le_trans q2 q1
theorem rj {a b c d:Nat} {S T R:Int} (ha:Lo a S) (hb:Hi b S) (hc:Lo c T) (hd:Hi d T) (hS:Sm S) (hT:Sm T) (hR:R*(2 ^ 1074:Nat)=S*T)
  (n1:isN (cop .mul a c)=false) (_n2:isN (cop .mul a d)=false) (n3:isN (cop .mul b c)=false) (_n4:isN (cop .mul b d)=false) :
  RK R (-1074)≤key (cop .mul a c)∨RK R (-1074)≤key (cop .mul a d)∨RK R (-1074)≤key (cop .mul b c)∨RK R (-1074)≤key (cop .mul b d):=by
 have LE:∀ {e f:Nat},e % p63<zc→f % p63<zc→S*T≤V e*V f→RK R (-1074)≤key (cop .mul e f):=fun {e f} h1 h2 h=>by
  rw [(um h1 h2).2,← uW hR]; exact yP _ h
 have IN:∀ {e f:Nat},key (cop .mul e f)=zc→RK R (-1074)≤key (cop .mul e f):=fun {e f} h=>by rw [h]; exact sf _
 have hp:(0:Int)<zc:=by decide
 have NO:∀ {e f:Nat},(key e=zc∨key e=-(zc:Int))→key f=0→isN (cop .mul e f)=false→False:=fun {e f} h1 h2 h3=>by rw [(xS (yG h1) h2).1] at h3; cases h3
 have NO':∀ {e f:Nat},(key e=zc∨key e=-(zc:Int))→key f=0→isN (cop .mul f e)=false→False:=fun {e f} h1 h2 h3=>by rw [(xS (yG h1) h2).2] at h3; cases h3
 have CD:(key c=-(zc:Int)∨(c % p63<zc∧V c≤T)):=hc.cases hT;have DD:(key d=zc∨(d % p63<zc∧T≤V d)):=hd.cases hT;have AD:=ha.cases hS;have BD:=hb.cases hS
 have dpos:0<T→0<key d:=by
  intro h;rcases DD with g | ⟨-,g⟩
  ·omega
  ·exact zZ.1 (by omega)
 have cneg:T<0→key c<0:=by
  intro h;rcases CD with g | ⟨-,g⟩
  ·omega
  ·exact ya.1 (by omega)
 rcases Int.lt_trichotomy T 0 with hT0 | hT0 | hT0
 ·rcases AD with e1 | ⟨e1,e2⟩
  ·exact .inl (IN (zT hc.1 (.inl ⟨e1,cneg hT0⟩)).1)
  ·rcases Int.lt_trichotomy (V a) 0 with sg | sg | sg
   ·rcases CD with f1 | ⟨f1,f2⟩
    ·exact .inl (IN (zT ha.1 (.inl ⟨f1,ya.1 sg⟩)).2)
    ·refine .inl (LE e1 f1 ?_);have q1:=Int.mul_le_mul_of_nonpos_right e2 (Int.le_of_lt hT0);have q2:=Int.mul_le_mul_of_nonpos_left (Int.le_of_lt sg) f2;exact Int.le_trans q1 q2
   ·rcases CD with f1 | ⟨f1,f2⟩
    ·exact (NO' (.inr f1) (zX.1 sg) n1).elim
    ·refine .inl (LE e1 f1 ?_);have q1:=Int.mul_le_mul_of_nonpos_right e2 (Int.le_of_lt hT0);rw [sg,Int.zero_mul]; rw [sg,Int.zero_mul] at q1; exact q1
   ·rcases DD with f1 | ⟨f1,f2⟩
    ·exact .inr (.inl (IN (zT ha.1 (.inr ⟨f1,zZ.1 sg⟩)).2))
    ·refine .inr (.inl (LE e1 f1 ?_));have q1:=Int.mul_le_mul_of_nonpos_right e2 (Int.le_of_lt hT0);have q2:=Int.mul_le_mul_of_nonneg_left f2 (Int.le_of_lt sg);exact Int.le_trans q1 q2
 ·rcases AD with e1 | ⟨e1,e2⟩
  ·rcases CD with f1 | ⟨f1,f2⟩
   ·exact .inl (IN (zT hc.1 (.inl ⟨e1,by omega⟩)).1)
   ·rw [hT0] at f2;rcases Int.lt_or_eq_of_le f2 with g | g
    ·exact .inl (IN (zT hc.1 (.inl ⟨e1,ya.1 g⟩)).1)
    ·exact (NO (.inr e1) (zX.1 g) n1).elim
  ·rcases Int.lt_trichotomy (V a) 0 with sg | sg | sg
   ·rcases CD with f1 | ⟨f1,f2⟩
    ·exact .inl (IN (zT ha.1 (.inl ⟨f1,ya.1 sg⟩)).2)
    ·refine .inl (LE e1 f1 ?_);rw [hT0,Int.mul_zero]; rw [hT0] at f2;exact Int.mul_nonneg_of_nonpos_of_nonpos (Int.le_of_lt sg) f2
   ·rcases CD with f1 | ⟨f1,f2⟩
    ·exact (NO' (.inr f1) (zX.1 sg) n1).elim
    ·refine .inl (LE e1 f1 ?_);rw [hT0,Int.mul_zero]; rw [hT0] at f2;rw [sg,Int.zero_mul]; exact Int.le_refl _
   ·rcases DD with f1 | ⟨f1,f2⟩
    ·exact .inr (.inl (IN (zT ha.1 (.inr ⟨f1,zZ.1 sg⟩)).2))
    ·refine .inr (.inl (LE e1 f1 ?_));rw [hT0,Int.mul_zero]; rw [hT0] at f2;exact Int.mul_nonneg (Int.le_of_lt sg) f2
 ·rcases BD with e1 | ⟨e1,e2⟩
  ·exact .inr (.inr (.inr (IN (zT hd.1 (.inr ⟨e1,dpos hT0⟩)).1)))
  ·rcases Int.lt_trichotomy (V b) 0 with sg | sg | sg
   ·rcases CD with f1 | ⟨f1,f2⟩
    ·exact .inr (.inr (.inl (IN (zT hb.1 (.inl ⟨f1,ya.1 sg⟩)).2)))
    ·refine .inr (.inr (.inl (LE e1 f1 ?_)));have q1:=Int.mul_le_mul_of_nonneg_right e2 (Int.le_of_lt hT0);have q2:=Int.mul_le_mul_of_nonpos_left (Int.le_of_lt sg) f2;exact Int.le_trans q1 q2
   ·rcases CD with f1 | ⟨f1,f2⟩
    ·exact (NO' (.inr f1) (zX.1 sg) n3).elim
    ·refine .inr (.inr (.inl (LE e1 f1 ?_)));have q1:=Int.mul_le_mul_of_nonneg_right e2 (Int.le_of_lt hT0);rw [sg,Int.zero_mul]; rw [sg,Int.zero_mul] at q1; exact q1
   ·rcases DD with f1 | ⟨f1,f2⟩
    ·exact .inr (.inr (.inr (IN (zT hb.1 (.inr ⟨f1,zZ.1 sg⟩)).2)))
    ·refine .inr (.inr (.inr (LE e1 f1 ?_)));have q1:=Int.mul_le_mul_of_nonneg_right e2 (Int.le_of_lt hT0);have q2:=Int.mul_le_mul_of_nonneg_left f2 (Int.le_of_lt sg);exact Int.le_trans q1 q2
theorem xT {x y:Nat} (h1:isN x=false) (h2:isN y=false):isN (if ltB x y then x else y)=false∧key (if ltB x y then x else y)=min (key x) (key y)∧(x<18446744073709551616→y<18446744073709551616→(if ltB x y then x else y)<18446744073709551616):=by
 cases h:ltB x y<;>simp [ltB,h1,h2] at h<;>simp [h1,h2]<;>omega
theorem min4 {a b c d:Nat} (h1:isN a=false) (h2:isN b=false) (h3:isN c=false) (h4:isN d=false):key (xr a [a,b,c,d])=min (min (key a) (key b)) (min (key c) (key d)):=by
 simp only [xr];obtain ⟨p1,p2,-⟩:=xT h1 h1;generalize (if ltB a a then a else a)=A at *;obtain ⟨q1,q2,-⟩:=xT h2 p1;generalize (if ltB b A then b else A)=B at *;obtain ⟨r1,r2,-⟩:=xT h3 q1;generalize (if ltB c B then c else B)=C at *;obtain ⟨s1,s2,-⟩:=xT h4 r1;omega
theorem xU {x y:Nat} (h1:isN x=false) (h2:isN y=false):isN (if ltB y x then x else y)=false∧key (if ltB y x then x else y)=max (key x) (key y):=by
 cases h:ltB y x<;>simp [ltB,h1,h2] at h<;>simp [h1,h2]<;>omega
theorem max4 {a b c d:Nat} (h1:isN a=false) (h2:isN b=false) (h3:isN c=false) (h4:isN d=false):key (xt a [a,b,c,d])=max (max (key a) (key b)) (max (key c) (key d)):=by
 simp only [xt];obtain ⟨p1,p2⟩:=xU h1 h1;generalize (if ltB a a then a else a)=A at *;obtain ⟨q1,q2⟩:=xU h2 p1;generalize (if ltB A b then b else A)=B at *;obtain ⟨r1,r2⟩:=xU h3 q1;generalize (if ltB B c then c else B)=C at *;obtain ⟨s1,s2⟩:=xU h4 r1;omega
theorem mul_enc {a b c d:Nat} {S T R:Int} (ha:Lo a S) (hb:Hi b S) (hc:Lo c T) (hd:Hi d T) (hS:Sm S) (hT:Sm T) (hR:R*(2 ^ 1074:Nat)=S*T):Lo (yX a b c d).1 R∧Hi (yX a b c d).2 R:=by
 have hm:∀ x ∈ [cop .mul a c,cop .mul a d,cop .mul b c,cop .mul b d],x<18446744073709551616:=fun x hx=>by
  simp only [List.mem_cons,List.not_mem_nil,or_false] at hx;rcases hx with rfl | rfl | rfl | rfl<;>exact zL _ _ _
 unfold yX yq;cases hn:(isN (cop .mul a c) || isN (cop .mul a d) || isN (cop .mul b c) || isN (cop .mul b d))
 ·simp only [cond_false];simp only [Bool.or_eq_false_iff] at hn;obtain ⟨⟨⟨n1,n2⟩,n3⟩,n4⟩:=hn;refine vS (vN (zL _ _ _) hm) (vO (zL _ _ _) hm) (fun _=>?_) (fun _=>?_)
  ·rw [min4 n1 n2 n3 n4];have:=ri ha hb hc hd hS hT hR n1 n2 n3 n4;omega
  ·rw [max4 n1 n2 n3 n4];have:=rj ha hb hc hd hS hT hR n1 n2 n3 n4;omega
 ·exact ⟨sb R,sd R⟩
abbrev NI:Nat:=18442240474082181120
abbrev PI:Nat:=9218868437227405312
theorem wY {a b c d:Nat} (h:iv a b=iv c d):a=c∧b=d:=by
 unfold iv at h; simpa using h
theorem xV (p q:Nat):isN (xk p q).1=false∧isN (xk p q).2=false:=by
 obtain ⟨x,y,h,h1,h2⟩:=uh p q;rw [wJ] at h;obtain ⟨rfl,rfl⟩:=wY h;exact ⟨h1,h2⟩
theorem xl (a b c d:Nat):isN (yq a b c d).1=false∧isN (yq a b c d).2=false:=by
 obtain ⟨x,y,h,h1,h2⟩:=ui a b c d;rw [yC] at h;obtain ⟨rfl,rfl⟩:=wY h;exact ⟨h1,h2⟩
theorem divP_num (a b c d:Nat):isN (vQ a b c d).1=false∧isN (vQ a b c d).2=false:=by
 unfold vQ;cases leB c 0&&leB 0 d
 ·exact xl _ _ _ _
 ·simp only [cond_true]; exact ⟨by decide,by decide⟩
theorem addP_sym {a b c d:Nat} (h:Mid a b) (g:Mid c d):xP a b c d=xP c d a b:=by
 unfold xP; rw [uT h.fin.1 g.fin.1,uT h.fin.2.1 g.fin.2.1]
theorem mulP_sym {a b c d:Nat} (h:Mid a b) (g:Mid c d):yX a b c d=yX c d a b:=by
 have e:=tZ h g;unfold tr at e;rw [yC,yC] at e;obtain ⟨e1,e2⟩:=wY e;exact Prod.ext e1 e2
theorem rJ {a b c d:Nat} (h:Mid a b) (g:Mid c d):eqB (yT a b c d).1 (cop .sub 0 (yT c d a b).2)=true∧eqB (yT a b c d).2 (cop .sub 0 (yT c d a b).1)=true:=by
 obtain ⟨s1,s2,t1,t2,e1,e2,-,-,-,-,h1,h2⟩:=tw h g;rw [wJ] at e1 e2;obtain ⟨rfl,rfl⟩:=wY e1;obtain ⟨rfl,rfl⟩:=wY e2;exact ⟨h1,h2⟩
theorem rk:key NI=-(zc:Int):=by decide
theorem rl:key PI=zc:=by decide
theorem is_ni {x:Nat} (hx:x<18446744073709551616) (h:key x=-(zc:Int)):x=NI:=by
 rcases xY hx (show NI<18446744073709551616 by decide) (h.trans rk.symm) with e | ⟨-,e⟩
 ·exact e
 ·exact absurd e (by decide)
theorem is_pi {x:Nat} (hx:x<18446744073709551616) (h:key x=zc):x=PI:=by
 rcases xY hx (show PI<18446744073709551616 by decide) (h.trans rl.symm) with e | ⟨-,e⟩
 ·exact e
 ·exact absurd e (by decide)
theorem quo_infs {y:Nat} (h:y % p63<zc) (_hk:key y≠0) (s:Bool):cop .quo (double.word s zc) y=double.word (s ^^ neg y) zc:=by
 obtain ⟨m,p,e,-,-⟩:=zB h
 have hr:double.read (double.word s zc)=.infinity s:=by
  have:=zp (yz s (Nat.le_refl zc))
  rwa [yM s (Nat.le_refl _)] at this
 have:floatBits .quo .f64 (double.word s zc) y=some (double.word (s ^^ neg y) zc):=by
  show double.div _ _=_;unfold Ieee.Format.div;rw [hr,e];rfl
 unfold cop; rw [this]; exact zi (yA _ (Nat.le_refl _))
theorem sm {p q:Nat} (hp:p<18446744073709551616) (hq:q<18446744073709551616) (np:isN p=false) (nq:isN q=false) (h:key p≤key q):xk p q=(zD p,upB q):=by
 obtain ⟨D1,D2,-⟩:=xe hp np;obtain ⟨U1,U2,-⟩:=wQ hq nq;have k1:=wB np;have k2:=wB nq;have hi:zc=9218868437227405312:=rfl
 have:leB (zD p) (upB q)=true:=by
  rw [uG D2 U2]; simp only [decide_eq_true_eq]; split at D1<;>split at U1<;>omega
 unfold xk; rw [this]; rfl
theorem out_same {s:Nat} (hs:s<18446744073709551616) (ns:isN s=false):(xk s s).2=upB s:=by rw [sm hs hs ns ns (Int.le_refl _)]
end Go.Proofs.Ytgnledamhjbafaa
