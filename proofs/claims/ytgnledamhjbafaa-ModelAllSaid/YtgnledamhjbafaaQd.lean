/-
  Contracts (what a function tells) and plain facts that a law's proof hangs on, for every input; no condition but those in their statements. Laid together of the texts Gj, Ha.
-/
import Derived.Test.YtgnledamhjbafaaQc
import Derived.Test.YtgnledamhjbafaaRows
import Derived.WalkKit
import Derived.WalkSpells
import Derived.WalkLawsBesides
import Derived.Laws.BitsAllLaws
import Derived.Lib.Hide
import Derived.IntWalk
import Derived.BigQuiet
import Derived.Deep.QuietTactic
import Derived.OwnWalk
import Derived.Laws.OwnMore
import Derived.ChangeSlices
namespace Go.Proofs.Ytgnledamhjbafaa
open Go.RowKit Lib
theorem zh (n:Nat) (w:World):(callFunc 70 #[.float .f64 n]).run Try.prog w=.ok (.value (.int .u64 n)) w:=by
 rw [run_callFunc_extern (e:=Extern.MathFloatBits.float64bits) Try.func70 (by kernel_rfl) (by kernel_rfl) (by kernel_rfl) (by kernel_rfl)];rfl
theorem zd (n:Int) (w:World):(callFunc 69 #[.int .u64 n]).run Try.prog w=.ok (.value (.float .f64 n.toNat)) w:=by
 rw [run_callFunc_extern (e:=Extern.MathFloatBits.float64frombits) Try.func69 (by kernel_rfl) (by kernel_rfl) (by kernel_rfl) (by kernel_rfl)];rfl
theorem zf (w:World) (n:Nat) (o:Obj):(w.drewN n).alloc o=(w.alloc o).drewN n:=rfl
theorem ze (w:World) (n:Nat) (a:Addr) (v:Value):(w.drewN n).setCell a v=(w.setCell a v).drewN n:=rfl
attribute [local go_sem] zf ze zh zd zu zt zw zx zy zA zj
theorem uO {k:IntKind} {a b:Int} (h:a=b):Ending.returned (.int k a)=.returned (.int k b):=by rw [h]
theorem xn {a b:Nat} (h:a=b):Ending.returned (.float .f64 a)=.returned (.float .f64 b):=by rw [h]
theorem tK {a b:Bool} (h:a=b):Ending.returned (.bool a)=.returned (.bool b):=by rw [h]
theorem vK {a n:Int} (h1:1≤n):(a.tmod n<0→a.tmod n+n=a % n)∧(0≤a.tmod n→a.tmod n=a % n):=by
 have h2:=Int.emod_nonneg a (show n≠0 by omega);have h3:=Int.emod_lt_of_pos a (show 0<n by omega)
 have h4:a.tmod n=if 0≤a∨n ∣ a then a % n else a % n-n:=by
  rw [Int.tmod_eq_emod]; split<;>simp; rw [Int.natAbs_of_nonneg (by omega)]
 rw [h4]; split<;>constructor<;>intro h<;>omega
theorem uP (w:World):Calls Try.prog 94 #[] w fun e w'=>e=.returned (.float .f64 xI)∧w=w':=by
 go_enter Try.func94,Try.ntmps94
 go_wp2
 go_ret;exact ⟨rfl,rfl⟩
theorem wC (w:World):Calls Try.prog 56 #[.int .i64 1] w fun e w'=>e=.returned (.float .f64 9218868437227405312)∧w=w':=by
 go_enter Try.func56,Try.ntmps56
 go_wp2
 go_ret;exact ⟨rfl,rfl⟩
theorem vL (w:World):Calls Try.prog 56 #[.int .i64 (-1)] w fun e w'=>e=.returned (.float .f64 18442240474082181120)∧w=w':=by
 go_enter Try.func56,Try.ntmps56
 go_wp2
 go_ret;exact ⟨rfl,rfl⟩
theorem zP (x:Nat) (w:World):Calls Try.prog 82 #[.float .f64 x] w fun e w'=>e=.returned (.bool (isN x))∧w=w':=by
 go_enter Try.func82,Try.ntmps82
 go_wp2
 go_ret;simp
theorem tL {x:Nat} (hx:x<18446744073709551616):(bits .andNot .u64 (x:Int) 9223372036854775808).toNat=x % 9223372036854775808:=by
 have h:=u64_andNot_nat x 9223372036854775808 hx (by decide);have e:((9223372036854775808:Nat):Int)=9223372036854775808:=rfl;rw [← e,h,Int.toNat_natCast];exact Nat.and_two_pow_sub_one_eq_mod x 63
theorem sE (x:Nat) (w:World) (hx:x<18446744073709551616):Calls Try.prog 38 #[.float .f64 x] w fun e w'=>e=.returned (.float .f64 (x % 9223372036854775808))∧w=w':=by
 go_enter Try.func38,Try.ntmps38
 go_wp2
 go_ret;exact ⟨xn (tL hx),rfl⟩
theorem vj {x y:Nat} (hx:x<18446744073709551616) (hy:y<18446744073709551616) :
  (bits .or .u64 (bits .andNot .u64 (x:Int) 9223372036854775808) (bits .and .u64 (y:Int) 9223372036854775808)).toNat=Ieee.double.word (neg y) (x % 9223372036854775808):=by
 have h1:=u64_andNot_nat x 9223372036854775808 hx (by decide);have h2:=u64_and_nat y 9223372036854775808 hy (by decide);have e:((9223372036854775808:Nat):Int)=9223372036854775808:=rfl;have ex:x &&& (18446744073709551615-9223372036854775808)=x % 9223372036854775808:=Nat.and_two_pow_sub_one_eq_mod x 63;have hm:x % 9223372036854775808<9223372036854775808:=Nat.mod_lt _ (by decide)
 have ey:y &&& 9223372036854775808=if neg y then 9223372036854775808 else 0:=by
  have ht:neg y=y.testBit 63:=by
   unfold neg p63; rw [Nat.testBit_eq_decide_div_mod_eq]; rfl
  rw [show (9223372036854775808:Nat)=2 ^ 63 from rfl,ht];apply Nat.eq_of_testBit_eq;intro i;rw [Nat.testBit_and,Nat.testBit_two_pow];by_cases hi:63=i
  ·subst hi;cases hb:y.testBit 63
   ·simp
   ·simp only [if_true,Nat.testBit_two_pow]; simp
  ·cases hb:y.testBit 63
   ·simp [hi]
   ·simp only [if_true,Nat.testBit_two_pow]; simp [hi]
 rw [← e,h1,h2,ex,ey,yE];cases neg y
 ·simp only [Bool.false_eq_true,if_false];rw [u64_or_nat _ _ (by omega) (by decide),Int.toNat_natCast,Nat.or_zero]
 ·simp only [if_true];rw [u64_or_nat _ _ (by omega) (by decide),Int.toNat_natCast];have:=Nat.two_pow_add_eq_or_of_lt (i:=63) hm 1;rw [Nat.or_comm]; unfold p63
  simpa using this.symm
theorem xJ (x y:Nat) (w:World) (hx:x<18446744073709551616) (hy:y<18446744073709551616):Calls Try.prog 92 #[.float .f64 x,.float .f64 y] w fun e w'=>e=.returned (.float .f64 (Ieee.double.word (neg y) (x % 9223372036854775808)))∧w=w':=by
 go_enter Try.func92,Try.ntmps92
 go_wp2
 go_ret;exact ⟨xn (vj hx hy),rfl⟩
theorem uQ (x:Nat) (w:World) (hx:x<18446744073709551616):Calls Try.prog 88 #[.float .f64 x,.float .f64 9218868437227405312] w fun e w'=>e=.returned (.float .f64 (upB x))∧w=w':=by
 have i1:isN 9218868437227405312=false:=by decide
 by_cases hN:isN x=true
 ·have hr:upB x=xI:=by unfold upB; rw [if_pos hN]
  rw [hr];go_enter Try.func88,Try.ntmps88;go_wp2_with (first | (go_at_call 82; refine (zP _ _).mono ?_; rintro e w' ⟨rfl,rfl⟩) | (go_at_call 94; refine (uP _).mono ?_; rintro e w' ⟨rfl,rfl⟩))
  go_ret;exact ⟨rfl,rfl⟩
 ·have hN':isN x=false:=by simpa using hN
  clear hN;by_cases h1:x=zc
  ·subst h1;have hr:upB zc=zc:=by decide
   rw [hr];have e1:eqB zc 9218868437227405312=true:=by decide
   go_enter Try.func88,Try.ntmps88;go_wp2_with (first | (go_at_call 82; refine (zP _ _).mono ?_; rintro e w' ⟨rfl,rfl⟩))
   go_ret;exact ⟨rfl,rfl⟩
  ·have hk:=wB hN'
   have hkne:key x≠zc:=fun e=>by
    rcases xY (y:=zc) hx (by decide) (e.trans (by decide)) with g | g
    ·exact h1 g
    ·exact absurd g.2 (by decide)
   have e1:eqB x 9218868437227405312=false:=by
    unfold eqB; rw [hN',i1,show key 9218868437227405312=(zc:Int) by decide]; simp [hkne]
   by_cases h2:x % p63=0
   ·have hr:upB x=1:=by unfold upB; rw [hN',if_neg (by decide),if_neg h1,if_pos h2]
    rw [hr]
    have e2:eqB x 0=true:=by
     unfold eqB; rw [hN',show isN 0=false by decide,show key 0=0 by decide];have:key x=0:=by unfold key; rw [h2]; simp
     simp [this]
    clear hkne hk h2 hr;go_enter Try.func88,Try.ntmps88;go_wp2_with (first | (go_at_call 82; refine (zP _ _).mono ?_; rintro e w' ⟨rfl,rfl⟩) | (go_at_call 92; refine (xJ _ _ _ (by decide) (by decide)).mono ?_; rintro e w' ⟨rfl,rfl⟩))
    go_ret;exact ⟨xn (by decide),rfl⟩
   ·have e2:eqB x 0=false:=by
     unfold eqB; rw [hN',show isN 0=false by decide,show key 0=0 by decide];have:key x≠0:=by unfold key; split<;>omega
     simp [this]
    have e3:ltB x 9218868437227405312=true:=by
     unfold ltB; rw [hN',i1,show key 9218868437227405312=(zc:Int) by decide];have:key x<zc:=by omega
     simp [this]
    cases hn:neg x
    ·have hr:upB x=x+1:=by unfold upB; rw [hN',if_neg (by decide),if_neg h1,if_neg h2,hn,if_neg (by decide)]
     rw [hr];obtain ⟨a1,a2,a3⟩:=yj hx hn
     have e4:ltB 0 x=true:=by
      unfold ltB; rw [hN',show isN 0=false by decide,show key 0=0 by decide];have:0<key x:=by omega
      simp [this]
     unfold p63 at a1;clear hkne hk h2 hr a2 a3 h1;go_enter Try.func88,Try.ntmps88;go_wp2_with (first | (go_at_call 82; refine (zP _ _).mono ?_; rintro e w' ⟨rfl,rfl⟩))
     go_ret;exact ⟨rfl,rfl⟩
    ·have hr:upB x=x-1:=by unfold upB; rw [hN',if_neg (by decide),if_neg h1,if_neg h2,hn,if_pos rfl]
     rw [hr];obtain ⟨a1,a2,a3⟩:=yv hx hn
     have e4:ltB 0 x=false:=by
      unfold ltB; rw [hN',show isN 0=false by decide,show key 0=0 by decide];have:¬ 0<key x:=by omega
      simp [this]
     unfold p63 at a1;clear hkne hk h2 hr a2 a3 h1;go_enter Try.func88,Try.ntmps88;go_wp2_with (first | (go_at_call 82; refine (zP _ _).mono ?_; rintro e w' ⟨rfl,rfl⟩))
     go_ret;exact ⟨rfl,rfl⟩
theorem vt (x:Nat) (w:World) (hx:x<18446744073709551616):Calls Try.prog 88 #[.float .f64 x,.float .f64 18442240474082181120] w fun e w'=>e=.returned (.float .f64 (zD x))∧w=w':=by
 have i1:isN 18442240474082181120=false:=by decide
 by_cases hN:isN x=true
 ·have hr:zD x=xI:=by unfold zD; rw [if_pos hN]
  rw [hr];go_enter Try.func88,Try.ntmps88;go_wp2_with (first | (go_at_call 82; refine (zP _ _).mono ?_; rintro e w' ⟨rfl,rfl⟩) | (go_at_call 94; refine (uP _).mono ?_; rintro e w' ⟨rfl,rfl⟩))
  go_ret;exact ⟨rfl,rfl⟩
 ·have hN':isN x=false:=by simpa using hN
  clear hN;by_cases h1:x=p63+zc
  ·subst h1;have hr:zD (p63+zc)=p63+zc:=by decide
   rw [hr];rw [show p63+zc=18442240474082181120 by decide] at *;have e1:eqB 18442240474082181120 18442240474082181120=true:=by decide
   go_enter Try.func88,Try.ntmps88;go_wp2_with (first | (go_at_call 82; refine (zP _ _).mono ?_; rintro e w' ⟨rfl,rfl⟩))
   go_ret;exact ⟨rfl,rfl⟩
  ·have hk:=wB hN'
   have hkne:key x≠-(zc:Int):=fun e=>by
    rcases xY (y:=p63+zc) hx (by decide) (e.trans (by decide)) with g | g
    ·exact h1 g
    ·exact absurd g.2 (by decide)
   have e1:eqB x 18442240474082181120=false:=by
    unfold eqB; rw [hN',i1,show key 18442240474082181120=-(zc:Int) by decide]; simp [hkne]
   by_cases h2:x % p63=0
   ·have hr:zD x=p63+1:=by unfold zD; rw [hN',if_neg (by decide),if_neg h1,if_pos h2]
    rw [hr]
    have e2:eqB x 0=true:=by
     unfold eqB; rw [hN',show isN 0=false by decide,show key 0=0 by decide];have:key x=0:=by unfold key; rw [h2]; simp
     simp [this]
    clear hkne hk h2 hr;go_enter Try.func88,Try.ntmps88;go_wp2_with (first | (go_at_call 82; refine (zP _ _).mono ?_; rintro e w' ⟨rfl,rfl⟩) | (go_at_call 92; refine (xJ _ _ _ (by decide) (by decide)).mono ?_; rintro e w' ⟨rfl,rfl⟩))
    go_ret;exact ⟨xn (by decide),rfl⟩
   ·have e2:eqB x 0=false:=by
     unfold eqB; rw [hN',show isN 0=false by decide,show key 0=0 by decide];have:key x≠0:=by unfold key; split<;>omega
     simp [this]
    have e3:ltB x 18442240474082181120=false:=by
     unfold ltB; rw [hN',i1,show key 18442240474082181120=-(zc:Int) by decide];have:¬ key x < -(zc:Int):=by omega
     simp [this]
    cases hn:neg x
    ·have hr:zD x=x-1:=by unfold zD; rw [hN',if_neg (by decide),if_neg h1,if_neg h2,hn,if_neg (by decide)]
     rw [hr];obtain ⟨a1,a2,a3⟩:=yj hx hn
     have e4:ltB 0 x=true:=by
      unfold ltB; rw [hN',show isN 0=false by decide,show key 0=0 by decide];have:0<key x:=by omega
      simp [this]
     have a4:1≤x:=by omega
     unfold p63 at a1;clear hkne hk h2 hr a2 a3 h1;go_enter Try.func88,Try.ntmps88;go_wp2_with (first | (go_at_call 82; refine (zP _ _).mono ?_; rintro e w' ⟨rfl,rfl⟩))
     go_ret;exact ⟨rfl,rfl⟩
    ·have hr:zD x=x+1:=by unfold zD; rw [hN',if_neg (by decide),if_neg h1,if_neg h2,hn,if_pos rfl]
     rw [hr];obtain ⟨a1,a2,a3⟩:=yv hx hn
     have e4:ltB 0 x=false:=by
      unfold ltB; rw [hN',show isN 0=false by decide,show key 0=0 by decide];have:¬ 0<key x:=by omega
      simp [this]
     have a4:x+1<18446744073709551616:=by have:=zr hN'; unfold zc at this; unfold p63 at *; omega
     unfold p63 at a1;clear hkne hk h2 hr a2 a3 h1;go_enter Try.func88,Try.ntmps88;go_wp2_with (first | (go_at_call 82; refine (zP _ _).mono ?_; rintro e w' ⟨rfl,rfl⟩))
     go_ret;exact ⟨rfl,rfl⟩
theorem rf (x:Nat) (w:World) (hx:x<18446744073709551616):Calls Try.prog 87 #[.float .f64 x] w fun e w'=>e=.returned (.float .f64 (upB x))∧w=w':=by
 go_enter Try.func87,Try.ntmps87;go_wp2_with (first | (go_at_call 56; refine (wC _).mono ?_; rintro e w' ⟨rfl,rfl⟩) | (go_at_call 88; refine (uQ _ _ hx).mono ?_; rintro e w' ⟨rfl,rfl⟩))
 go_ret;exact ⟨rfl,rfl⟩
theorem tM (x:Nat) (w:World) (hx:x<18446744073709551616):Calls Try.prog 86 #[.float .f64 x] w fun e w'=>e=.returned (.float .f64 (zD x))∧w=w':=by
 go_enter Try.func86,Try.ntmps86;go_wp2_with (first | (go_at_call 56; refine (vL _).mono ?_; rintro e w' ⟨rfl,rfl⟩) | (go_at_call 88; refine (vt _ _ hx).mono ?_; rintro e w' ⟨rfl,rfl⟩))
 go_ret;exact ⟨rfl,rfl⟩
theorem rup_any (x:Nat) (w:World) (hx:x<18446744073709551616):Calls Try.prog 74 #[.float .f64 x] w fun e w'=>e=.returned (.float .f64 (upB x))∧w=w':=by
 go_enter Try.func74,Try.ntmps74;go_wp2_with (first | (go_at_call 56; refine (wC _).mono ?_; rintro e w' ⟨rfl,rfl⟩) | (go_at_call 88; refine (uQ _ _ hx).mono ?_; rintro e w' ⟨rfl,rfl⟩))
 go_ret;exact ⟨rfl,rfl⟩
theorem rG (x:Nat) (w:World) (hx:x<18446744073709551616):Calls Try.prog 73 #[.float .f64 x] w fun e w'=>e=.returned (.float .f64 (zD x))∧w=w':=by
 go_enter Try.func73,Try.ntmps73;go_wp2_with (first | (go_at_call 56; refine (vL _).mono ?_; rintro e w' ⟨rfl,rfl⟩) | (go_at_call 88; refine (vt _ _ hx).mono ?_; rintro e w' ⟨rfl,rfl⟩))
 go_ret;exact ⟨rfl,rfl⟩
end Go.Proofs.Ytgnledamhjbafaa
namespace Go.Proofs.Ytgnledamhjbafaa
open Go.RowKit Lib
attribute [local go_sem] zf ze zh zd zu zt zw zx zy zA zj zk zm zn zo
theorem zI {B:Nat} {a w:World} (h:Below B a w) (n:Nat):Below B a (w.drewN n):=⟨h.os,h.tape,h.output,h.size,h.block⟩
theorem sF {w w':World} {n:Nat} (h:Below (w.drewN n).heap.size (w.drewN n) w'):Below w.heap.size w w':=⟨h.os,h.tape,h.output,h.size,h.block⟩
def uc (a b:Nat):Bool:=eqB a b || (isN a&&isN b)
theorem tN (a b:Nat) (w:World):Calls Try.prog 61 #[.float .f64 a,.float .f64 b] w fun e w'=>e=.returned (.bool (uc a b))∧w=w':=by
 go_enter Try.func61,Try.ntmps61
 go_wp2
 all_goals (go_ret; exact ⟨tK (by unfold uc; simp_all),rfl⟩)
end Go.Proofs.Ytgnledamhjbafaa
namespace Go.Proofs.Ytgnledamhjbafaa
open Go.RowKit Lib
open Ieee (double)
attribute [local go_sem] zf ze zh zd zu zt zw zx zy zA zj zk zm zn zo
def wh (v:Value) (w:World) (e:Ending) (w':World):Prop:=e=.returned v∧Below w.heap.size w w'
theorem wh.eq {v u:Value} {w w':World} {e:Ending} (h:wh v w e w') (hv:v=u):wh u w e w':=hv ▸ h
theorem zF (P:Program) (w:World) (a:Addr) (m:Mode) (b:Nat):(store a (.float .f64 b) m).run P w=stored P w a (.float .f64 b) m:=run_store P w a _ m rfl
theorem zW {W w1:World} (hb:Below W.heap.size W w1):(∀ b o,b<W.heap.size→w1.cell? ⟨b,o,none⟩=W.cell? ⟨b,o,none⟩)∧(∀ b o,b<W.heap.size→w1.frozen? ⟨b,o,none⟩=W.frozen? ⟨b,o,none⟩):=
 ⟨fun b o h=>hb.cell (p:=⟨b,o,none⟩) h,fun b o h=>hb.frozen (p:=⟨b,o,none⟩) h⟩
def xg (w:World) (b o c:Nat):Prop:=∃ y,w.cell? ⟨b,o,none⟩=some (.float .f64 y)∧zg y=c∧y<18446744073709551616
theorem xg.same {w w':World} {b o c:Nat} (h:xg w b o c) (hc:w'.cell? ⟨b,o,none⟩=w.cell? ⟨b,o,none⟩):xg w' b o c:=by
 obtain ⟨y,h1,h2,h3⟩:=h;exact ⟨y,hc.trans h1,h2,h3⟩
def zM (w:World) (base R n cap:Nat) (f:Nat→Nat):Prop:=
 ∃ rs,w.ownsRow base 24 1 (.slice (some ⟨R,0,none⟩) n cap) n rs∧∀ j,j<n→∃ y,rs[j]? = some (.float .f64 y)∧zg y=f j∧y<18446744073709551616
theorem zM.cell {w:World} {base R n cap:Nat} {f:Nat→Nat} (h:zM w base R n cap f) {j:Nat} (hj:j<n):xg w R j (f j):=by
 obtain ⟨rs,h1,h2⟩:=h;obtain ⟨y,y1,y2,y3⟩:=h2 j hj;exact ⟨y,(h1.cellAt j (by omega)).trans y1,y2,y3⟩
theorem zM.free {w:World} {base R n cap:Nat} {f:Nat→Nat} (h:zM w base R n cap f) (j:Nat):w.frozen? ⟨R,j,none⟩=false:=by
 obtain ⟨rs,h1,-⟩:=h;exact h1.frozenAt j
theorem zM.lt {w:World} {base R n cap:Nat} {f:Nat→Nat} (h:zM w base R n cap f):base≤R∧R<w.heap.size:=by
 obtain ⟨rs,h1,-⟩:=h;exact h1.lt R rfl
theorem zM.kept {w w':World} {base R n cap:Nat} {f:Nat→Nat} (h:zM w base R n cap f) (hb:w'.heap[R]? = w.heap[R]?):zM w' base R n cap f:=by
 obtain ⟨rs,⟨h1,h2⟩,h3⟩:=h;refine ⟨rs,⟨h1,?_⟩,h3⟩;rcases h2 with ⟨h2,-⟩ | ⟨g,c,cur,hv,hg,hh,r⟩
 ·cases h2
 ·simp only [Value.slice.injEq,Option.some.injEq,Addr.mk.injEq] at hv;obtain ⟨⟨rfl,-⟩,-,rfl⟩:=hv;exact .inr ⟨_,_,cur,rfl,hg,hb.trans hh,r⟩
theorem zM.below {w w':World} {base R n cap:Nat} {f:Nat→Nat} (h:zM w base R n cap f) {B:Nat} (hb:Below B w w') (hB:R<B):zM w' base R n cap f:=h.kept (hb.block R hB)
theorem zM.base {w:World} {base b' R n cap:Nat} {f:Nat→Nat} (h:zM w base R n cap f) (hb:b'≤R):zM w b' R n cap f:=by
 obtain ⟨rs,⟨h1,h2⟩,h3⟩:=h;refine ⟨rs,⟨h1,?_⟩,h3⟩;rcases h2 with ⟨h2,-⟩ | ⟨g,c,cur,hv,hg,r⟩
 ·cases h2
 ·simp only [Value.slice.injEq,Option.some.injEq,Addr.mk.injEq] at hv;obtain ⟨⟨rfl,-⟩,-,rfl⟩:=hv;exact .inr ⟨_,_,cur,rfl,hb,r⟩
theorem zM.congr {w:World} {base R n cap:Nat} {f g:Nat→Nat} (h:zM w base R n cap f) (e:∀ j,j<n→f j=g j):zM w base R n cap g:=by
 obtain ⟨rs,h1,h2⟩:=h;refine ⟨rs,h1,fun j hj=>?_⟩;rw [← e j hj];exact h2 j hj
def vM {α:Type} (f:Nat→α) (j:Nat) (c:α):Nat→α:=fun i=>if i=j then c else f i
theorem yp {α:Type} (f:Nat→α) (j:Nat) (c:α):vM f j c j=c:=if_pos rfl
theorem zY {α:Type} (f:Nat→α) {i j:Nat} (c:α) (h:i≠j):vM f j c i=f i:=if_neg h
theorem zM.set {w:World} {base R n cap:Nat} {f:Nat→Nat} (h:zM w base R n cap f) {j y c:Nat} (hj:j<n) (h1:zg y=c) (h2:y<18446744073709551616):zM (w.setCell ⟨R,j,none⟩ (.float .f64 y)) base R n cap (vM f j c):=by
 obtain ⟨rs,g1,g2⟩:=h;have hl:=g1.1;refine ⟨rs.set j (.float .f64 y),(g1.stored j _).1,fun i hi=>?_⟩;by_cases e:i=j
 ·subst e;exact ⟨y,by rw [List.getElem?_set_self (by omega)],by rw [yp]; exact h1,h2⟩
 ·obtain ⟨z,z1,z2,z3⟩:=g2 i hi;exact ⟨z,by rw [List.getElem?_set_ne (Ne.symm e)]; exact z1,by rw [zY _ _ e]; exact z2,z3⟩
theorem zM.other {w:World} {base R n cap:Nat} {f:Nat→Nat} (h:zM w base R n cap f) {B o:Nat} (hne:B≠R) (v:Value):zM (w.setCell ⟨B,o,none⟩ v) base R n cap f:=
 h.kept (Below.heap_setCell _ _ _ _ (fun e=>hne (by simpa using e.symm)))
def yH (w:World) (v:Value) (n:Nat) (f:Nat→Nat):Prop:=
 ∃ a cap,v=.slice a n cap∧n≤9223372036854775807∧(0<n→∃ b off,a=some ⟨b,off,none⟩∧b<w.heap.size∧∀ i,i<n→xg w b (off+i) (f i))
theorem yH.below {w w':World} {v:Value} {n:Nat} {f:Nat→Nat} (h:yH w v n f) (hb:Below w.heap.size w w'):yH w' v n f:=by
 obtain ⟨a,cap,h1,h2,h3⟩:=h;refine ⟨a,cap,h1,h2,fun hl=>?_⟩;obtain ⟨b,off,e,hs,hc⟩:=h3 hl;exact ⟨b,off,e,Nat.lt_of_lt_of_le hs hb.size,fun i hi=>(hc i hi).same ((zW hb).1 _ _ hs)⟩
theorem yH.congr {w:World} {v:Value} {n:Nat} {f g:Nat→Nat} (h:yH w v n f) (e:∀ j,j<n→f j=g j):yH w v n g:=by
 obtain ⟨a,cap,h1,h2,h3⟩:=h;refine ⟨a,cap,h1,h2,fun hl=>?_⟩;obtain ⟨b,off,e',hs,hc⟩:=h3 hl;exact ⟨b,off,e',hs,fun i hi=>e i hi ▸ hc i hi⟩
theorem zM.flts {w:World} {base R n cap:Nat} {f:Nat→Nat} (h:zM w base R n cap f) (hn:n≤9223372036854775807):yH w (.slice (some ⟨R,0,none⟩) n cap) n f:=
 ⟨_,cap,rfl,hn,fun _=>⟨R,0,rfl,h.lt.2,fun i hi=>by rw [Nat.zero_add]; exact h.cell hi⟩⟩
def TabR (w:World) (v:Value) (n:Nat) (m:Nat→Nat) (f:Nat→Nat→Nat):Prop:=
 ∃ a cap,v=.slice a n cap∧n≤9223372036854775807∧(0<n→∃ b off,a=some ⟨b,off,none⟩∧b<w.heap.size∧∀ i,i<n→∃ u,w.cell? ⟨b,off+i,none⟩=some u∧yH w u (m i) (f i))
theorem TabR.below {w w':World} {v:Value} {n:Nat} {m:Nat→Nat} {f:Nat→Nat→Nat} (h:TabR w v n m f) (hb:Below w.heap.size w w'):TabR w' v n m f:=by
 obtain ⟨a,cap,h1,h2,h3⟩:=h;refine ⟨a,cap,h1,h2,fun hl=>?_⟩;obtain ⟨b,off,e,hs,hc⟩:=h3 hl;refine ⟨b,off,e,Nat.lt_of_lt_of_le hs hb.size,fun i hi=>?_⟩;obtain ⟨u,u1,u2⟩:=hc i hi;exact ⟨u,((zW hb).1 _ _ hs).trans u1,u2.below hb⟩
structure xh (w:World) (base G n m:Nat) (blk cap:Nat→Nat) (f:Nat→Nat→Nat):Prop where
 ref:∀ i,i<n→w.cell? ⟨G,i,none⟩=some (.slice (some ⟨blk i,0,none⟩) m (cap i))
 free:∀ i,i<n→w.frozen? ⟨G,i,none⟩=false
 row:∀ i,i<n→zM w base (blk i) m (cap i) (f i)
 inj:∀ i j,i<n→j<n→blk i=blk j→i=j
 off:∀ i,i<n→blk i≠G
 lo:base≤G
 hi:G<w.heap.size
theorem xh.below {w w':World} {base G n m:Nat} {blk cap:Nat→Nat} {f:Nat→Nat→Nat} (h:xh w base G n m blk cap f) (hb:Below w.heap.size w w'):xh w' base G n m blk cap f:=
 ⟨fun i hi=>((zW hb).1 _ _ h.hi).trans (h.ref i hi),fun i hi=>((zW hb).2 _ _ h.hi).trans (h.free i hi),fun i hi=>(h.row i hi).below hb (h.row i hi).lt.2,h.inj,h.off,h.lo,Nat.lt_of_lt_of_le h.hi hb.size⟩
theorem xh.congr {w:World} {base G n m:Nat} {blk cap:Nat→Nat} {f g:Nat→Nat→Nat} (h:xh w base G n m blk cap f) (e:∀ i j,i<n→j<m→f i j=g i j):xh w base G n m blk cap g:=
 ⟨h.ref,h.free,fun i hi=>(h.row i hi).congr (fun j hj=>e i j hi hj),h.inj,h.off,h.lo,h.hi⟩
theorem xh.base {w:World} {base b' G n m:Nat} {blk cap:Nat→Nat} {f:Nat→Nat→Nat} (h:xh w base G n m blk cap f) (hb:b'≤base):xh w b' G n m blk cap f:=
 ⟨h.ref,h.free,fun i hi=>(h.row i hi).base (Nat.le_trans hb (h.row i hi).lt.1),h.inj,h.off,Nat.le_trans hb h.lo,h.hi⟩
def tO (f:Nat→Nat→Nat) (i j c:Nat):Nat→Nat→Nat:=vM f i (vM (f i) j c)
theorem xh.set {w:World} {base G n m:Nat} {blk cap:Nat→Nat} {f:Nat→Nat→Nat} (h:xh w base G n m blk cap f) {i j y c:Nat} (hi:i<n) (hj:j<m) (h1:zg y=c) (h2:y<18446744073709551616):xh (w.setCell ⟨blk i,j,none⟩ (.float .f64 y)) base G n m blk cap (tO f i j c):=by
 have hG:(w.setCell ⟨blk i,j,none⟩ (.float .f64 y)).heap[G]? = w.heap[G]?:=Below.heap_setCell _ _ _ _ (fun e=>h.off i hi e.symm);refine ⟨fun k hk=>(World.cell?_of_block (a:=⟨G,k,none⟩) hG).trans (h.ref k hk),fun k hk=>(World.frozen?_of_block (a:=⟨G,k,none⟩) hG).trans (h.free k hk),fun k hk=>?_,h.inj,h.off,h.lo,by simp [World.setCell]; exact h.hi⟩;by_cases e:k=i
 ·subst e;unfold tO;rw [yp];exact (h.row k hk).set hj h1 h2
 ·unfold tO;rw [zY _ _ e];exact (h.row k hk).other (fun g=>e (h.inj k i hk hi g.symm)) _
end Go.Proofs.Ytgnledamhjbafaa
