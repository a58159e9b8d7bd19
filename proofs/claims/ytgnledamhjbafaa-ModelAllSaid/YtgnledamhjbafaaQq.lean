/-
  Contracts (what a function tells) and plain facts that a law's proof hangs on, for every input; no condition but those in their statements. Laid together of the texts Tpe, Jb, Ivw, Enx.
-/
import Derived.Test.YtgnledamhjbafaaQp
namespace Go.Proofs.Ytgnledamhjbafaa
open Go.RowKit Lib
open Ieee (double)
attribute [local go_sem] zf ze zh zd zu zt zw zx zy zA zj zk zm zn zo yu
def rO (c:Nat) (w:World) (e:Ending) (w':World):Prop:=∃ x n,e=.returned (.float .f64 x)∧zg x=c∧x<18446744073709551616∧w'=w.drewN n
theorem rO.of {op:BinOp} {w w1:World} {a b n:Nat}:rO (cop op a b) w (.returned (.float .f64 (zV op w1 a b))) (w.drewN n):=⟨_,_,rfl,yf _ _ _ _,yc _ _ _ _,rfl⟩
end Go.Proofs.Ytgnledamhjbafaa
namespace Go.Proofs.Ytgnledamhjbafaa
open Go.RowKit Lib
open Ieee (double)
attribute [local go_sem] zf ze zh zd zu zt zw zx zy zA zj zk zm zn zo zF yd zU zG xq
theorem DB.of {A y:Nat} {v:Value} {t:TypeId} {w:World} (h:w.heap[A]? = some (.cells #[.float .f64 y,v] t)):DB A y v w:=⟨by rw [at_block h]; rfl,by rw [at_block h]; rfl,lt_block h⟩
theorem CB.of {A:Nat} {v:Value} {t:TypeId} {w:World} (h:w.heap[A]? = some (.cells #[v] t)):CB A v w:=⟨by rw [at_block h]; rfl,lt_block h⟩
end Go.Proofs.Ytgnledamhjbafaa
namespace Go.Proofs.Ytgnledamhjbafaa
open Lib
open Ieee (double)
theorem corners {x y A B C D:Int} (h1:A≤x) (h2:x≤B) (h3:C≤y) (h4:y≤D) :
  (A*C≤x*y∨A*D≤x*y∨B*C≤x*y∨B*D≤x*y)∧(x*y≤A*C∨x*y≤A*D∨x*y≤B*C∨x*y≤B*D):=by
 by_cases hy:0≤y
 ·have a1:=Int.mul_le_mul_of_nonneg_right h1 hy;have a2:=Int.mul_le_mul_of_nonneg_right h2 hy;constructor
  ·by_cases hA:0≤A
   ·exact .inl (Int.le_trans (Int.mul_le_mul_of_nonneg_left h3 hA) a1)
   ·exact .inr (.inl (Int.le_trans (Int.mul_le_mul_of_nonpos_left (by omega) h4) a1))
  ·by_cases hB:0≤B
   ·exact .inr (.inr (.inr (Int.le_trans a2 (Int.mul_le_mul_of_nonneg_left h4 hB))))
   ·exact .inr (.inr (.inl (Int.le_trans a2 (Int.mul_le_mul_of_nonpos_left (by omega) h3))))
 ·have a1:=Int.mul_le_mul_of_nonpos_right h2 (show y≤0 by omega);have a2:=Int.mul_le_mul_of_nonpos_right h1 (show y≤0 by omega);constructor
  ·by_cases hB:0≤B
   ·exact .inr (.inr (.inl (Int.le_trans (Int.mul_le_mul_of_nonneg_left h3 hB) a1)))
   ·exact .inr (.inr (.inr (Int.le_trans (Int.mul_le_mul_of_nonpos_left (by omega) h4) a1)))
  ·by_cases hA:0≤A
   ·exact .inr (.inl (Int.le_trans a2 (Int.mul_le_mul_of_nonneg_left h4 hA)))
   ·exact .inl (Int.le_trans a2 (Int.mul_le_mul_of_nonpos_left (by omega) h3))
structure Ra (a b:Nat):Prop where
 na:isN a=false
 nb:isN b=false
 o:key a≤key b
 la:key a<zc
 lb:-(zc:Int)<key b
theorem rN {x:Nat} (h:key x=zc∨key x=-(zc:Int)):isN x=false:=by
 have:=yG h;exact yN (by omega)
theorem Ra.flip {a b:Nat} (h:Ra a b):Ra (fl b) (fl a):=by
 have e1:=si h.na;have e2:=si h.nb;have:=h.o; have:=h.la; have:=h.lb;exact ⟨sj h.nb,sj h.na,by omega,by omega,by omega⟩
theorem Ra.whole:Ra NI PI:=⟨by decide,by decide,by decide,by decide,by decide⟩
theorem rP {x:Nat} (h:isN x=false):(key x=zc∨key x=-(zc:Int))∨x % p63<zc:=by
 by_cases h1:key x=zc
 ·exact .inl (.inl h1)
 ·by_cases h2:key x=-(zc:Int)
  ·exact .inl (.inr h2)
  ·exact .inr (wX h h1 h2)
theorem mul_com {x y:Nat} (nx:isN x=false) (ny:isN y=false) (n:isN (cop .mul x y)=false):isN (cop .mul y x)=false∧key (cop .mul y x)=key (cop .mul x y):=by
 rcases rP nx with hx | hx
 ·by_cases hy:key y=0
  ·rw [(xS (yG hx) hy).1] at n; cases n
  ·obtain ⟨e1,e2⟩:=xR (yG hx) hy ny;refine ⟨rN ?_,?_⟩
   ·rw [e2]; split<;>simp
   ·rw [e1,e2]
 ·rcases rP ny with hy | hy
  ·by_cases hx0:key x=0
   ·rw [(xS (yG hy) hx0).2] at n; cases n
   ·obtain ⟨e1,e2⟩:=xR (yG hy) hx0 nx;refine ⟨rN ?_,?_⟩
    ·rw [e1]; split<;>simp
    ·rw [e1,e2]
  ·obtain ⟨m1,m2,-⟩:=wF hx hy;obtain ⟨l1,l2,-⟩:=wF hy hx;exact ⟨l1,by rw [m2,l2,Int.mul_comm]⟩
end Go.Proofs.Ytgnledamhjbafaa
