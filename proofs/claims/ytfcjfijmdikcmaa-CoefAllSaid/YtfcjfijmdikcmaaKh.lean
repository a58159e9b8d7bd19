/-
  Contracts (what a function tells) and plain facts that a law's proof hangs on, for every input; no condition but those in their statements. Laid together of the texts In0, Inr, Lrd.
-/
import Derived.Test.YtfcjfijmdikcmaaKb
import Derived.KernelRfl
import Derived.OpenShut
import Derived.Carry
import Derived.RegionTactic
namespace Go.Proofs.Ytfcjfijmdikcmaa
open Lib
def Ints (w:World) (v:Value) (zs:List Int):Prop:=
 (∃ o cap,v=.slice o 0 cap∧zs=[])∨∃ b off cap,v=.slice (some ⟨b,off,none⟩) zs.length cap∧b<w.heap.size∧zs.length≤9223372036854775807∧(∀ i,i<zs.length→w.cell? ⟨b,off+i,none⟩=some (.int .i64 (zs.getD i 0)))
end Go.Proofs.Ytfcjfijmdikcmaa
namespace Go.Proofs.Ytfcjfijmdikcmaa
open Go.RowKit Lib
def Intr (w:World) (v:Value) (zs:List Int):Prop:=Ints w v zs∧∀ i,i<zs.length→-9223372036854775808≤zs.getD i 0∧zs.getD i 0≤9223372036854775807
set_option maxRecDepth 100000
open Go.ChangeShapes Go.WideShapes in
theorem intr_of {H:Type} {enc:TypeId × Value→H} {W:World} {v:Value} {d:DataW H} {ps:List MemPlace} {base:Nat}
  (hv:Value.okWide Try.prog W .any base 24 v) (h:DataW.Trod enc Try.prog W 0 (fun _=>true) true 24 v d ps):∃ zs,Intr W v zs:=by
 have hc:Try.prog.cellsOf 3=1:=by kernel_rfl
 obtain ⟨a0,len,cap,rfl⟩:=okWide_slice Try.underlying24 hv;obtain ⟨fuel,hf⟩:=h;rcases open_ints Try.underlying24 Try.underlying3 hc hf with ⟨hcs,_⟩ | ⟨a,len',cap',zs,hcs,_,hl,hm,hz,_,hcell,hwf⟩
 ·simp [Value.cells] at hcs;obtain ⟨rfl,rfl,rfl⟩:=hcs;exact ⟨[],.inl ⟨none,0,rfl,rfl⟩,fun i hi=>by simp at hi⟩
 ·simp [Value.cells] at hcs;obtain ⟨rfl,rfl,rfl⟩:=hcs;simp only [if_true] at hz;by_cases h0:len=0
  ·subst h0; exact ⟨[],.inl ⟨_,_,rfl,rfl⟩,fun i hi=>by simp at hi⟩
  ·obtain ⟨b,off,spot⟩:=a;have hspot:spot=none:=by simpa [Addr.add] using World.cell?_spot (hcell 0 (by omega))
   subst hspot;have hlen:(zs.take len).length=len:=by simp; omega
   refine ⟨zs.take len,.inr ⟨b,off,cap,by rw [hlen],?_,?_,?_⟩,fun i hi=>?_⟩
   ·have h0:=hcell 0 (by omega);rcases Nat.lt_or_ge b W.heap.size with g | g
    ·exact g
    ·exfalso;have:W.heap[b]? = none:=Array.getElem?_eq_none g;simp [World.cell?,Addr.add,this] at h0
   ·rw [hlen]; unfold maxLen at hm; omega
   ·intro i hi;rw [hlen] at hi;rw [← add_plain,hcell i (by omega)];simp [List.getD,hi]
   ·rw [hlen] at hi;have hiz:i<zs.length:=by rw [hz]; omega
    have hm2:=hwf (zs.getD i 0) (by simp [List.getD,hiz]);have e:(zs.take len).getD i 0=zs.getD i 0:=by simp [List.getD,hi]
    rw [e];have q1:IntKind.i64.min=-9223372036854775808:=by decide
    have q2:IntKind.i64.max=9223372036854775807:=by decide
    simp only [Lit.wf,Bool.and_eq_true,decide_eq_true_eq] at hm2;omega
end Go.Proofs.Ytfcjfijmdikcmaa
namespace Go.Proofs.Ytfcjfijmdikcmaa
open Go.RowKit Lib
open Ieee (double)
attribute [local go_sem] zh zf zI zA zJ zK zL zM zn zp zq zr zt zW zF zz zl yb
theorem xf {x y:Nat} (h:zu x=zu y):y5 x y=true:=by
 have hn:isN x=isN y:=by rw [← zY x,h,zY]
 unfold y5;rw [← xB,h,zn,zY,hn];cases isN y<;>rfl
theorem sameQ {x y:Nat} (w:World) (h:y5 x y=true):Calls Try.prog 17 #[.float .f64 x,.float .f64 y] w fun e w'=>e=.returned (.bool true)∧w'=w:=
 (xK x y w).mono fun _ _ ⟨h1,h2⟩=>⟨h1.trans (by rw [h]),h2.symm⟩
set_option maxHeartbeats 16000000
theorem wa (u v:Value) (n:Nat) (f:Nat→Nat) (w:World) (hu:yF w u n f) (hv:yF w v n f):Calls Try.prog 11 #[u,v] w (xr (.bool true) w):=by
 obtain ⟨a,ca,rfl,hn,har⟩:=hu;obtain ⟨b,cb,rfl,-,hbr⟩:=hv;have HA:=hid har;have HB:=hid hbr;have hne:((n:Int) != n)=false:=by simp
 clear har hbr;go_enter Try.func11,Try.ntmps11;go_wp2_with fail
 go_loopw [5] (fun i wr=>∃ j:Nat,j≤n∧i=.int .i64 j∧Below w.heap.size w wr) (fun i _=>n-(intOf i).toNat)
 case atStart=>exact ⟨0,by omega,rfl,Below.refl _ _⟩
 case round=>
  obtain ⟨j,hj,rfl,hbw⟩:=hrel;by_cases hlt:j<n
  ·obtain ⟨b1,o1,rfl,hs1,hc1⟩:=HA.out (by omega);obtain ⟨b2,o2,rfl,hs2,hc2⟩:=HB.out (by omega);obtain ⟨x,x1,x2,x3⟩:=hc1 j hlt;obtain ⟨y,y1,y2,y3⟩:=hc2 j hlt;rw [← (yf hbw).1 _ _ hs1] at x1;rw [← (yf hbw).1 _ _ hs2] at y1;have hs:=xf (x2.trans y2.symm);have HBW:=hid hbw;clear hc1 hc2 x2 y2 hbw;go_wp2_with fail
   go_quiet ((go_at_call 17; exact Calls.quiet_of_same (sameQ _ (by assumption))))
   go_wp2_with fail
   go_roundw
   case rel=>exact ⟨j+1,by omega,by go_num,xl HBW.out _⟩
   case measure=>simp [intOf]; omega
  ·go_wp2_with fail;go_ret;exact ⟨rfl,hbw⟩
end Go.Proofs.Ytfcjfijmdikcmaa
