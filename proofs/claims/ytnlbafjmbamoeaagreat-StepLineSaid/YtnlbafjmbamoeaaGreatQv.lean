/-
  One step of a field of a number alone: what an attempt tells, exactly.
-/
import Derived.Test.YtnlbafjmbamoeaaGreatQu
namespace Go.Proofs.YtnlbafjmbamoeaaGreat
open Go.RowKit
open Ieee (double)
open Lib
theorem cis {op:BinOp} {a b r:Nat} {m k:Int} (h:floatBits op .f64 a b=some r) (hr:Is r m k):Is (cop op a b) m k:=by
 unfold cop;rw [h];show Is (zk r) m k;unfold zk;rw [hr.num];exact hr
theorem can_is {y c:Nat} {m k:Int} (h:zk y=c) (hc:Is c m k):Is y m k:=by
 rw [jh h hc.num];exact hc
theorem zero_at {x:Nat} {k l:Int} (h:Is x 0 k) (hl:-1074≤l):Is x 0 l:=⟨h.1,h.2.1,hl,by rw [h.2.2.2,Int.zero_mul,Int.zero_mul]⟩
theorem fit53 {m k:Int} (h:-9007199254740991≤m∧m≤9007199254740991) (hk:k≤100):jf m k:=fits_of 53 200 (show m.natAbs<9007199254740992 by omega) (by omega) (by decide)
theorem ci_add {a b:Nat} {m n k:Int} (ha:Is a m k) (hb:Is b n k) (hk:k≤100) (h:-9007199254740991≤m+n∧m+n≤9007199254740991):Is (cop .add a b) (m+n) k:=by
 obtain ⟨r,e,hr⟩:=is_add ha hb (fit53 h hk);rw [jb (by omega) (by omega)] at hr;exact cis e hr
theorem ci_sub {a b:Nat} {m n k:Int} (ha:Is a m k) (hb:Is b n k) (hk:k≤100) (h:-9007199254740991≤m-n∧m-n≤9007199254740991):Is (cop .sub a b) (m-n) k:=by
 obtain ⟨r,e,hr⟩:=is_sub ha hb (fit53 h hk);rw [jb (by omega) (by omega)] at hr;exact cis e hr
theorem ci_mul {a b:Nat} {m n k l:Int} (ha:Is a m k) (hb:Is b n l) (h1:-1074≤k+l) (hk:k+l≤100) (h:-9007199254740991≤m*n∧m*n≤9007199254740991):Is (cop .mul a b) (m*n) (k+l):=by
 obtain ⟨r,e,hr⟩:=is_mul ha hb h1 (fit53 h hk);rw [jb (by omega) (by omega)] at hr;exact cis e hr
theorem ci_quo {a b:Nat} {m n k l:Int} (ha:Is a (m*n) k) (hb:Is b n l) (hn:n≠0) (h1:-1074≤k-l) (hk:k-l≤100) (h:-9007199254740991≤m∧m≤9007199254740991):Is (cop .quo a b) m (k-l):=by
 obtain ⟨r,e,hr⟩:=is_quo ha hb hn (by omega) (by omega) h1 (fit53 h hk);exact cis e hr
theorem is_selfV {x:Nat} (h1:x<18446744073709551616) (h2:x % p63<yC):Is x (V x) (-1074):=⟨h1,h2,Int.le_refl _,by
 rw [show ((-1074:Int)+1074).toNat=0 by decide,Nat.pow_zero];exact (Int.mul_one _).symm⟩
theorem ci_zero {a b:Nat} (ha:a<18446744073709551616) (hf:a % p63<yC) {k:Int} (hb:Is b 0 k) (l:Int) (hl:-1074≤l):Is (cop .mul a b) 0 l:=by
 have h:=ci_mul (is_selfV ha hf) (zero_at (l:=0) hb (by decide)) (by decide) (by decide) (by rw [Int.mul_zero]; decide);rw [Int.mul_zero] at h;exact zero_at h hl
theorem c30_is:Is 4742290407621132288 1 30:=by
 refine ⟨by decide,by decide,by decide,by decide +kernel⟩
def lineT (K:Nat):TD:=⟨1,1,fun _=>⟨0,0,0,K⟩,1,fun _=>0⟩
theorem line_ev {K:Nat} {c:Int} (hK:Is K c (-2)) (y:Nat→Nat) (j:Nat):Is (evR (lineT K).op y j) c (-2):=by
 unfold evR v9;show Is (zk K) c (-2);unfold zk;rw [hK.num];exact hK
structure LineZ (z:Nat→Nat→Nat) (q:Nat) (a b:Int):Prop where
 z0:Is (z 0 0) a (-32)
 z1:Is (z 1 0) b (-32)
 zr:∀ r,2≤r→r≤q→Is (z r 0) 0 (-32)
theorem add_keep {z:Nat→Nat→Nat} {q r:Nat} {a b:Int} (h:LineZ z q a b) (hb:-1099511627776≤b∧b≤1099511627776) (hr:1≤r) (hq:r+1≤q):LineZ (sQ z r) q a b:=by
 unfold sQ;refine ⟨?_,?_,fun i h2 hi=>?_⟩
 ·unfold yy;rw [if_neg (by omega)];exact h.z0
 ·unfold yy;by_cases e:1=r
  ·rw [if_pos e];show Is (cop .add (z r 0) (z (r+1) 0)) b (-32);rw [← e];have:=ci_add h.z1 (h.zr 2 (by omega) (by omega)) (by decide) (by omega);rw [Int.add_zero] at this;exact this
  ·rw [if_neg e];exact h.z1
 ·unfold yy;by_cases e:i=r
  ·rw [if_pos e];show Is (cop .add (z r 0) (z (r+1) 0)) 0 (-32);have:=ci_add (h.zr r (by omega) (by omega)) (h.zr (r+1) (by omega) (by omega)) (by decide) (by decide);exact this
  ·rw [if_neg e];exact h.zr i h2 hi
theorem add_zero {z:Nat→Nat→Nat} {q:Nat} {a b:Int} (h:LineZ z q a b) (hb:-9007199254740991≤a+b∧a+b≤9007199254740991):LineZ (sQ z 0) q (a+b) b:=by
 unfold sQ;refine ⟨?_,?_,fun i h2 hi=>?_⟩
 ·unfold yy;rw [if_pos rfl];exact ci_add h.z0 h.z1 (by decide) hb
 ·unfold yy;rw [if_neg (by decide)];exact h.z1
 ·unfold yy;rw [if_neg (by omega)];exact h.zr i h2 hi
theorem in_keep {z:Nat→Nat→Nat} {q:Nat} {a b:Int} (h:LineZ z q a b) (hb:-1099511627776≤b∧b≤1099511627776):∀ c,c+1≤q→LineZ (inF z q c) q a b
 | 0,_=>h
 | c+1,hc=>add_keep (in_keep h hb c (by omega)) hb (by omega) (by omega)
theorem pred_line {z:Nat→Nat→Nat} {q:Nat} {a b:Int} (h:LineZ z q a b) (hq:1≤q) (hb:-1099511627776≤b∧b≤1099511627776) (ha:-9007199254740991≤a+b∧a+b≤9007199254740991):LineZ (wG z q) q (a+b) b:=by
 have h1:∀ j,1≤j→j≤q→LineZ (prF z q j) q (a+b) b:=fun j=>by
  induction j with
  | zero=>intro h; omega
  | succ j ih=>
   intro _ hj;show LineZ (inF (prF z q j) q (q-j)) q (a+b) b;rcases Nat.eq_zero_or_pos j with rfl | h0
   ·obtain ⟨c,rfl⟩:∃ c,q=c+1:=⟨q-1,by omega⟩;show LineZ (sQ (inF z (c+1) c) (c+1-1-c)) (c+1) (a+b) b;rw [show c+1-1-c=0 by omega];exact add_zero (in_keep h hb c (Nat.le_refl _)) ha
   ·exact in_keep (ih h0 (by omega)) hb (q-j) (by omega)
 exact h1 q hq (Nat.le_refl _)
theorem co_fin:∀ (q:Fin 6) (i:Fin 6),1≤q.val→coF 0 q.val i.val<18446744073709551616∧coF 0 q.val i.val % p63<yC:=by decide +kernel
theorem len_is {k:Nat} (hk:k≤32):Is (xh (tk k)) (tk k) (-30):=by
 have h:=ky hk;have h1:=uZ k;unfold xh
 have ha:Is (FloatKind.f64.nearest (tk k)) (tk k*1) 0:=by
  rw [Int.mul_one];exact is_ofInt (by omega) (by omega)
 exact ci_quo ha c30_is (by decide) (by decide) (by decide) (by omega)
theorem mul16 {c t:Int} (h1:-16≤c) (h2:c≤16) (ht:0≤t):-(16*t)≤c*t∧c*t≤16*t:=by
 have a:=Int.mul_le_mul_of_nonneg_right h1 ht;have b:=Int.mul_le_mul_of_nonneg_right h2 ht;omega
theorem slope_is {K:Nat} {c t:Int} {h:Nat} {z0 z1 d:Nat→Nat} (l0:Nat) (hK:Is K c (-2)) (hh:Is h t (-30)) (hz:Is (z1 0) (c*t) (-32)) (hb:-9007199254740991≤c*t∧c*t≤9007199254740991):Is (yS (lineT K) z0 z1 l0 h d 0) 0 (-32):=by
 unfold yS;have h1:=ci_mul hh (line_ev hK (atF z0 d l0) ((lineT K).out 0).toNat) (by decide) (by decide) (by rw [Int.mul_comm]; exact hb);rw [Int.mul_comm] at h1;have h2:=ci_sub h1 hz (by decide) (by rw [Int.sub_self]; decide);rw [Int.sub_self] at h2;exact h2
theorem ab_is {x:Nat} {m k:Int} (h:Is x m k):Is (ab x) (m.natAbs:Int) k:=is_abs h
theorem one_is:Is 4607182418800017408 1 0:=⟨by decide,by decide,by decide,by decide +kernel⟩
theorem wt_is {f:Nat→Nat} {m:Int} (hf:Is (f 0) m (-32)):Is (wtF f 4607182418800017408 0 0) 1 0:=by
 unfold wtF;have z:Is 0 0 0:=⟨by decide,by decide,by decide,by decide +kernel⟩
 have h1:=ci_mul z (ab_is hf) (by decide) (by decide) (by rw [Int.zero_mul]; decide);rw [Int.zero_mul] at h1;exact ci_add one_is (zero_at (l:=0) h1 (by decide)) (by decide) (by decide)
theorem by_is {f g:Nat→Nat} (hf:Is (f 0) 0 (-32)) (hg:Is (g 0) 1 0):Is (byW f g 0) 0 (-32):=by
 unfold byW;have h:=ab_is hf;exact ci_quo (m:=0) (n:=1) (k:=-32) (l:=0) h hg (by decide) (by decide) (by decide) (by decide)
theorem worst_one {x:Nat→Nat} (h:isN (x 0)=false):xk x 1=x 0:=by
 unfold xk tw tw;rw [h];rfl
theorem fin_is {x:Nat} {m k:Int} (h:Is x m k):xi x=true:=by
 have:=h.2.1;unfold xi
 simpa using this
theorem small_is {x:Nat} {k:Int} (h:Is x 0 k) {b:Nat} {e:Int} (hb:Is b 1 e):leB x b=true:=by
 rw [is_le (zero_at (l:=e) h hb.2.2.1) hb];decide
theorem thr_is:Is 4562146422526312448 1 (-10):=⟨by decide,by decide,by decide,by decide +kernel⟩
theorem sum_line {K:Nat} {c t m:Int} {z:Nat→Nat→Nat} {f:Nat→Nat} {h:Nat} (l0:Nat) (hK:Is K c (-2)) (hh:Is h t (-30)) (hz:Is (z 1 0) (c*t) (-32)) (hb:-9007199254740991≤c*t∧c*t≤9007199254740991) (hf:Is (f 0) m (-32)) :
  (y9 (lineT K) z (wtF f 4607182418800017408 0) l0 h 1 false).has=true∧Is ((y9 (lineT K) z (wtF f 4607182418800017408 0) l0 h 1 false).d 0) 0 (-32):=by
 have hs:=slope_is (z0:=z 0) (d:=fun _=>0) l0 hK hh hz hb;have z0:Is 0 0 (-32):=⟨by decide,by decide,by decide,by decide +kernel⟩
 have hd:=ci_sub hs z0 (by decide) (by decide);have hw:=by_is (f:=fun i=>cop .sub (yS (lineT K) (z 0) (z 1) l0 h (fun _=>0) i) ((fun _=>0) i)) (g:=wtF f 4607182418800017408 0) hd (wt_is hf);have hl:=small_is hw thr_is
 have he:y9 (lineT K) z (wtF f 4607182418800017408 0) l0 h 1 false=⟨yS (lineT K) (z 0) (z 1) l0 h (fun _=>0),true,1,0⟩:=by
  unfold y9;rw [if_neg (by decide)];unfold yH
  have ha:wa 1 (fun i=>xi ((yW (lineT K) (z 0) (z 1) (wtF f 4607182418800017408 0) l0 h 1 (fun _=>0)).1 i))=true:=by
   unfold yW;simp only [wa,fin_is hs,Bool.and_true]
  rw [if_neg (by rw [ha]; decide)]
  have hx:(yW (lineT K) (z 0) (z 1) (wtF f 4607182418800017408 0) l0 h 1 (fun _=>0)).2=byW (fun i=>cop .sub (yS (lineT K) (z 0) (z 1) l0 h (fun _=>0) i) ((fun _=>0) i)) (wtF f 4607182418800017408 0) 0:=by
   unfold yW;exact worst_one hw.num
  rw [hx,hl,if_pos rfl];rfl
 rw [he];exact ⟨rfl,hs⟩
theorem canon_is {x:Nat} {m k:Int} (h:Is x m k):Is (zk x) m k:=by
 unfold zk;rw [h.num];exact h
theorem res_is {z:Nat→Nat→Nat} {r:Nat} {m:Int} (h:Is (z r 0) m (-32)) (hr:r≤5) (hm:-9007199254740991≤m∧m≤9007199254740991):Is (xZ z 1 r 0) m (-32+(r:Int)):=by
 unfold xZ scF;rw [Int.mul_one];exact canon_is (is_scale h (r:Int) (by omega) (fit53 hm (by omega)))
structure LineAt (c v:Int) (s:Sol):Prop where
 m0:s.M=0
 z:LineZ s.z s.q (v*4294967296+c*s.at_) (c*tk s.k)
theorem qf_is {q:Nat} (hq:q≤5):Is (qF q) ((q:Int)+1) 0:=by
 unfold qF;exact is_ofInt (by omega) (by omega)
theorem line_try {K j:Nat} {c v:Int} {s:Sol} (hs:v8 j 1 s) (hj:j≤30) (hl:LineAt c v s) (hc:-16≤c∧c≤16) (hv:-8≤v∧v≤8) (hK:Is K c (-2)) (R:Tr) (hR:uG (lineT K) 1 4607182418800017408 0 1 1073741824 s=R) :
  (R.took=true∧R.e=0)∧Is R.err 0 (-32)∧LineAt c v R.S∧LineZ R.N.z s.q (v*4294967296+c*(s.at_+tk s.k)) (c*tk s.k)∧R.N.at_=s.at_+tk s.k∧R.N.st=tk s.k∧R.N.rows=s.q+1:=by
 have ht1:=uZ s.k;have ht2:=ky hs.k;have hat:=hs.at_;have b1:=mul16 hc.1 hc.2 (show 0≤tk s.k by omega);have b2:=mul16 hc.1 hc.2 hat.1;have hA:v*4294967296+c*s.at_+c*tk s.k=v*4294967296+c*(s.at_+tk s.k):=by rw [Int.mul_add,Int.add_assoc]
 have hq5:s.q≤5:=by have:=hs.q5; omega
 have hp:=pred_line hl.z hs.q1 (by omega) (by omega);rw [hA] at hp;have hAb:-9007199254740991≤v*4294967296+c*(s.at_+tk s.k)∧v*4294967296+c*(s.at_+tk s.k)≤9007199254740991:=by rw [← hA]; omega
 have hsum:(pP (lineT K) 1 4607182418800017408 0 s).has=true∧Is ((pP (lineT K) 1 4607182418800017408 0 s).d 0) 0 (-32):=by
  unfold pP;rw [hl.m0];exact sum_line (z:=wG s.z s.q) (coF 0 s.q 0) hK (len_is hs.k) hp.z1 (by omega) hl.z.z0
 have hw:=by_is (f:=(pP (lineT K) 1 4607182418800017408 0 s).d) (g:=wtF (s.z 0) 4607182418800017408 0) hsum.2 (wt_is hl.z.z0)
 have herr:Is (errF (lineT K) 1 4607182418800017408 0 s) 0 (-32):=by
  unfold errF;rw [worst_one hw.num];exact ci_quo (m:=0) (n:=(s.q:Int)+1) (k:=-32) (l:=0) (by rw [Int.zero_mul]; exact hw) (qf_is hq5) (by omega) (by decide) (by decide) (by decide)
 have hle:=small_is herr one_is
 have hco:∀ r,r≤5→Is (cop .mul (coF s.M s.q r) ((pP (lineT K) 1 4607182418800017408 0 s).d 0)) 0 (-32):=fun r hr=>by
  rw [hl.m0];have h:=co_fin ⟨s.q,by omega⟩ ⟨r,by omega⟩ hs.q1;exact ci_zero h.1 h.2 hsum.2 (-32) (by decide)
 have hcz:LineZ (wb (wG s.z s.q) (coF s.M s.q) (pP (lineT K) 1 4607182418800017408 0 s).d) s.q (v*4294967296+c*(s.at_+tk s.k)) (c*tk s.k):=by
  refine ⟨?_,?_,fun r h2 hr=>?_⟩
  ·have:=ci_add hp.z0 (hco 0 (by decide)) (by decide) (by omega);rw [Int.add_zero] at this;exact this
  ·have:=ci_add hp.z1 (hco 1 (by decide)) (by decide) (by omega);rw [Int.add_zero] at this;exact this
  ·exact ci_add (hp.zr r h2 hr) (hco r (by omega)) (by decide) (by decide)
 have e:R=tI 1073741824 s (wb (wG s.z s.q) (coF s.M s.q) (pP (lineT K) 1 4607182418800017408 0 s).d) (coF s.M s.q) (pP (lineT K) 1 4607182418800017408 0 s).d (errF (lineT K) 1 4607182418800017408 0 s):=by
  rw [← hR];unfold uG;rw [hsum.1,if_neg (by decide),if_pos hle]
 rw [e];generalize (pP (lineT K) 1 4607182418800017408 0 s).d=d at *;generalize wb (wG s.z s.q) (coF s.M s.q) d=Z at *;generalize errF (lineT K) 1 4607182418800017408 0 s=er at *;clear e hR;refine ⟨⟨rfl,rfl⟩,herr,?_,hcz,rfl,rfl,rfl⟩;refine tookS_cases (P:=LineAt c v) (en:=1073741824) (s:=s) (z:=Z) (l:=coF s.M s.q) (d:=d) (c:=er) ⟨hl.m0,hcz⟩ (fun _=>⟨hl.m0,?_⟩) (fun hq=>⟨hl.m0,?_⟩)
 ·show LineZ (xZ Z 1) s.q (v*4294967296+c*(s.at_+tk s.k)) (c*tk (s.k+1));refine ⟨?_,?_,fun r h2 hr=>?_⟩
  ·exact res_is hcz.z0 (by decide) hAb
  ·have h:=(res_is hcz.z1 (by decide) (by omega)).down 1 (by decide);rw [tJ,show c*(2*tk s.k)=c*tk s.k*((2 ^ 1:Nat):Int) by rw [Int.mul_left_comm,Int.mul_comm]; rfl];exact h
  ·exact zero_at (res_is (hcz.zr r h2 hr) (by omega) (by decide)) (by decide)
 ·show LineZ (mi Z (coF s.M s.q) d s.q) (s.q+1) (v*4294967296+c*(s.at_+tk s.k)) (c*tk s.k);have hq1:=hs.q1;refine ⟨?_,?_,fun r h2 hr=>?_⟩
  ·unfold mi;rw [if_neg (by omega)];exact hcz.z0
  ·unfold mi;rw [if_neg (by omega)];exact hcz.z1
  ·unfold mi;by_cases hr1:r=s.q+1
   ·rw [if_pos hr1];exact ci_quo (m:=0) (n:=(s.q:Int)+1) (k:=-32) (l:=0) (by rw [Int.zero_mul]; exact hco s.q hq5) (qf_is hq5) (by omega) (by decide) (by decide) (by decide)
   ·rw [if_neg hr1];exact hcz.zr r h2 (by omega)
theorem line_start {K k:Nat} {c v:Int} {y:Nat→Nat} (hK:Is K c (-2)) (hk:k≤32) (hc:-16≤c∧c≤16) (hy:Is (y 0) v 0):LineAt c v ⟨0,k,1,0,xq (lineT K) y (xh (tk k)),0,0,0⟩:=by
 have ht1:=uZ k;have ht2:=ky hk;have b1:=mul16 hc.1 hc.2 (show 0≤tk k by omega);refine ⟨rfl,?_,?_,fun r h2 hr=>?_⟩
 ·show Is (xq (lineT K) y (xh (tk k)) 0 0) (v*4294967296+c*0) (-32);rw [Int.mul_zero,Int.add_zero];exact hy.down 32 (by decide)
 ·show Is (xq (lineT K) y (xh (tk k)) 1 0) (c*tk k) (-32);have h1:=ci_mul (len_is hk) (line_ev hK y ((lineT K).out 0).toNat) (by decide) (by decide) (by rw [Int.mul_comm]; omega);rw [Int.mul_comm] at h1;exact h1
 ·have:r≤1:=hr;omega
end Go.Proofs.YtnlbafjmbamoeaaGreat
