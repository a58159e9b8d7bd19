/-
  Contracts (what a function tells) and plain facts that a law's proof hangs on, for every input; no condition but those in their statements. Laid together of the texts Reg, Rgi.
-/
import Derived.Lib.Hide
import Derived.Test.YtgnledamhjbafaaRows
import Derived.OrdersHeld
import Derived.StillTail
import Derived.WalkKit
import Derived.Deep.Quiet
namespace Go.Proofs.Ytgnledamhjbafaa
open Go Lib
section
variable {P : Program} {ops : Array Oper} {Q : Exit → Act → World → Prop} {md : Region.Mode} {S R : World → Prop} {D T T3 : List Nat}
def yJ (md:Region.Mode) (ops:Array Oper) (T:List Nat) (j:Nat):Bool:=T.any fun i=>!Region.waitsFor md ops j i
theorem tA {j i:Nat} {oj:Oper} (hj:ops[j]? = some oj) (h:∀ e ∈ oj.after,Region.binds md e=true→e.on≠i):Region.waitsFor md ops j i=false:=by
 cases hw:Region.waitsFor md ops j i with
 | false=>rfl
 | true=>
  obtain ⟨o,ho,e,he,hb,hon⟩:=Region.waitsFor_spec hw;rw [hj] at ho;cases ho
  exact absurd hon (h e he hb)
def wK (md:Region.Mode) (ops:Array Oper) (S R:World→Prop) (D T T3:List Nat) (j:Nat) (w w':World):Prop:=if D.contains j=true then (yJ md ops T j=true→S w')∧(yJ md ops T3 j=true→R w') else w'=w
def xu (T:List Nat) (listed:Array Bool):Bool:=T.any fun t=>!listed.getD t true
theorem yY {listed:Array Bool} {j:Nat} (h:xu T (listed.setIfInBounds j true)=true):∃ t,t ∈ T∧t≠j∧listed.getD t true=false:=by
 obtain ⟨t,ht,hu⟩:=List.any_eq_true.1 h;by_cases e:j=t
 ·subst e
  have:(listed.setIfInBounds j true).getD j true=true:=by
   rcases Nat.lt_or_ge j listed.size with h' | h'
   ·simp [h']
   ·simp
  rw [this] at hu;cases hu
 ·rw [getD_set_ne true e] at hu;exact ⟨t,ht,Ne.symm e,by simpa using hu⟩
theorem ww {listed:Array Bool} {j t:Nat} (hj:j ∈ Region.ready md ops listed) (ht:t ∈ T) (hu:listed.getD t true=false):yJ md ops T j=true:=by
 obtain ⟨-,oj,hoj,hall⟩:=mem_ready.1 hj;refine List.any_eq_true.2 ⟨t,ht,?_⟩;rw [tA hoj fun e he hb heq=>?_]
 ·rfl
 ·have g1:=hall e he hb;rw [heq,getD_both hu] at g1;cases g1
def xA (P:Program) (md:Region.Mode) (ops:Array Oper) (Q:Exit→Act→World→Prop) (S R:World→Prop) (D T T3:List Nat):Nat→Array Bool→Act→World→Prop
 | 0,listed,a,w=>Region.ready md ops listed=[]∧Q .normal a w
 | fuel+1,listed,a,w=>
  (Region.ready md ops listed=[]→Q .normal a w) ∧
  ∀ i ∈ Region.ready md ops listed,wpOp P ops Q i (fun a' w'=>wK md ops S R D T T3 i w w'∧xA P md ops Q S R D T T3 fuel (listed.setIfInBounds i true) a' w') a w
theorem xB:∀ (fuel:Nat) (listed:Array Bool) (a:Act) (w:World),xA P md ops Q S R D T T3 fuel listed a w→wpAny P md ops Q fuel listed a w
 | 0,_,_,_,h=>h
 | fuel+1,_,_,_,h=>⟨h.1,fun i hi=>wpOp_mono (fun a' w' h'=>xB fuel _ a' w' h'.2) (h.2 i hi)⟩
theorem yn {S':World→Prop} {i:Nat} {oi:Oper} {v:Value} (hD:D.contains i=false) (hT:(∀ w,S' w)∨(S'=S∧i ∈ T)∨(S'=R∧i ∈ T3)) (hi:ops[i]? = some oi) (hsel:∀ (j:Nat) (o:Oper) cs b,ops[j]? = some o→o.op≠.select cs b)
  (hQ:∀ c a w,Q (.panic c) (a.put oi.dst v) w→Q (.panic c) a w) :
  ∀ (fuel:Nat) (listed:Array Bool) (a:Act) (w:World),
   (∀ j oj,ops[j]? = some oj→j≠i→listed.getD j true=false→(∀ e ∈ oj.after,Region.binds md e=true→e.on≠i)→oi.apart ops oj=true) →
   i ∈ Region.ready md ops listed→YieldsIf P ops S' oi v a→(xu T listed=true→S w)→(xu T3 listed=true→R w) →
   xA P md ops Q S R D T T3 fuel (listed.setIfInBounds i true) (a.put oi.dst v) w→xA P md ops Q S R D T T3 (fuel+1) listed a w:=by
 have hS':∀ (listed:Array Bool) (w:World),i ∈ Region.ready md ops listed→(xu T listed=true→S w)→(xu T3 listed=true→R w)→S' w:=fun listed w hr hP hP3=>by
  rcases hT with h | ⟨rfl,h⟩ | ⟨rfl,h⟩
  ·exact h w
  ·exact hP (List.any_eq_true.2 ⟨i,h,by rw [(mem_ready.1 hr).1]; rfl⟩)
  ·exact hP3 (List.any_eq_true.2 ⟨i,h,by rw [(mem_ready.1 hr).1]; rfl⟩)
 have hc:∀ w,wK md ops S R D T T3 i w w:=fun w=>by unfold wK; rw [hD]; exact rfl
 intro fuel
 induction fuel with
 | zero=>
  intro listed a w _ hr hy hP hP3 H;refine ⟨fun h=>(by rw [h] at hr; cases hr),fun j hj=>?_⟩;by_cases hji:j=i
  ·subst hji;exact hy.wpOp hi (hS' _ _ hr hP hP3) ⟨hc w,H⟩
  ·have:=ready_mono hj hji;rw [H.1] at this;cases this
 | succ fuel ih=>
  intro listed a w hfree hr hy hP hP3 H;refine ⟨fun h=>(by rw [h] at hr; cases hr),fun j hj=>?_⟩;by_cases hji:j=i
  ·subst hji;exact hy.wpOp hi (hS' _ _ hr hP hP3) ⟨hc w,H⟩
  ·have k1:=H.2 j (ready_mono hj hji);obtain ⟨hun,oj,hoj,hall⟩:=mem_ready.1 hj
   have hno:∀ e ∈ oj.after,Region.binds md e=true→e.on≠i:=fun e he hb heq=>by
    have g1:=hall e he hb;have g0:=(mem_ready.1 hr).1;rw [heq,getD_both g0] at g1;cases g1
   have k2:=wpOp_putIf hoj (hfree j oj hoj hji hun hno) (fun cs b=>hsel i oi cs b hi) (fun cs b=>hsel j oj cs b hoj) hQ hy k1
   have hfree':∀ k ok,ops[k]? = some ok→k≠i→(listed.setIfInBounds j true).getD k true=false →
     (∀ e ∈ ok.after,Region.binds md e=true→e.on≠i)→oi.apart ops ok=true:=fun k ok hk hki hu hn=>by
    refine hfree k ok hk hki ?_ hn;by_cases hjk:j=k
    ·subst hjk; exact hun
    ·rw [getD_set_ne true hjk] at hu; exact hu
   refine wpOp_mono (fun a' w' k3=>⟨k3.2.1,ih (listed.setIfInBounds j true) a' w' hfree' (ready_mono hr (Ne.symm hji)) k3.1 (fun hp=>?_) (fun hp=>?_) ?_⟩) k2
   ·obtain ⟨t,ht,-,hu⟩:=yY hp;have hcj:=k3.2.1;unfold wK at hcj;split at hcj
    ·exact hcj.1 (ww hj ht hu)
    ·rw [hcj];exact hP (List.any_eq_true.2 ⟨t,ht,by rw [hu]; rfl⟩)
   ·obtain ⟨t,ht,-,hu⟩:=yY hp;have hcj:=k3.2.1;unfold wK at hcj;split at hcj
    ·exact hcj.2 (ww hj ht hu)
    ·rw [hcj];exact hP3 (List.any_eq_true.2 ⟨t,ht,by rw [hu]; rfl⟩)
   ·rw [Array.setIfInBounds_comm _ _ hji];exact k3.2.2
def zG (v:Value) (w:World):Result Next→Prop
 | .ok (.value u) w'=>u=v∧w'=w
 | _=>False
def yd (P:Program) (ops:Array Oper) (w0:World) (i:Nat) (K:Act→Prop) (a:Act):Prop:=
 match ops[i]? with
 | none=>False
 | some o=>if Region.wanted o (yielded ops a.tmps) then ∃ v,(∀ n,zG v (w0.drewN n) ((execOp a.eval o).run P (w0.drewN n)))∧K (a.put o.dst v) else K (a.put o.dst undef)
def yK (w0 w:World):Prop:=∃ n,w=w0.drewN n
theorem vg {w0:World} {i:Nat} {K:Act→Prop} {a:Act} (h:yd P ops w0 i K a):∃ o v,ops[i]? = some o∧YieldsIf P ops (yK w0) o v a∧K (a.put o.dst v):=by
 unfold yd at h;split at h
 ·cases h
 ·rename_i o ho
  split at h
  ·rename_i hw
   obtain ⟨v,hv,hk⟩:=h;refine ⟨o,v,ho,.inl ⟨hw,fun w hw'=>?_⟩,hk⟩;obtain ⟨n,rfl⟩:=hw';have:=hv n;generalize (execOp a.eval o).run P (w0.drewN n)=r at this;unfold zG at this;split at this
   ·obtain ⟨rfl,rfl⟩:=this; rfl
   ·cases this
  ·rename_i hw
   exact ⟨o,undef,ho,.inr ⟨by simpa using hw,rfl⟩,h⟩
def zU (P:Program) (ops:Array Oper) (i:Nat) (K:Act→Prop) (a:Act):Prop:=
 match ops[i]? with
 | none=>False
 | some o=>if Region.wanted o (yielded ops a.tmps) then ∃ v,(∀ w,zG v w ((execOp a.eval o).run P w))∧K (a.put o.dst v) else K (a.put o.dst undef)
theorem xv {i:Nat} {K:Act→Prop} {a:Act} (h:zU P ops i K a):∃ o v,ops[i]? = some o∧YieldsIf P ops (fun _=>True) o v a∧K (a.put o.dst v):=by
 unfold zU at h;split at h
 ·cases h
 ·rename_i o ho
  split at h
  ·rename_i hw
   obtain ⟨v,hv,hk⟩:=h;refine ⟨o,v,ho,.inl ⟨hw,fun w _=>?_⟩,hk⟩;have:=hv w;generalize (execOp a.eval o).run P w=r at this;unfold zG at this;split at this
   ·obtain ⟨rfl,rfl⟩:=this; rfl
   ·cases this
  ·rename_i hw
   exact ⟨o,undef,ho,.inr ⟨by simpa using hw,rfl⟩,h⟩
def tB (P:Program) (ops:Array Oper) (R:World→Prop) (i:Nat) (K:Act→Prop) (a:Act):Prop:=
 ∃ o v,ops[i]? = some o∧YieldsIf P ops R o v a∧K (a.put o.dst v)
def wt (md:Region.Mode) (ops:Array Oper) (D T T3:List Nat):List (Nat × Nat)→Array Bool→Bool
 | [],listed=>(Region.ready md ops listed).isEmpty
 | (i,0) :: l,listed=>decide (Region.ready md ops listed=[i])&&(D.contains i&&wt md ops D T T3 l (listed.setIfInBounds i true))
 | (i,1) :: l,listed=>((Region.ready md ops listed).contains i&&Region.free md ops listed i)&&(!D.contains i&&wt md ops D T T3 l (listed.setIfInBounds i true))
 | (i,2) :: l,listed=>((Region.ready md ops listed).contains i&&Region.free md ops listed i)&&((!D.contains i&&T.contains i)&&wt md ops D T T3 l (listed.setIfInBounds i true))
 | (i,_+3) :: l,listed=>((Region.ready md ops listed).contains i&&Region.free md ops listed i)&&((!D.contains i&&T3.contains i)&&wt md ops D T T3 l (listed.setIfInBounds i true))
def yo (P:Program) (md:Region.Mode) (ops:Array Oper) (Q:Exit→Act→World→Prop) (w0:World) (R:World→Prop) (T T3:List Nat):List (Nat × Nat)→Act→World→Prop
 | [],a,w=>Q .normal a w
 | (i,0) :: l,a,w=>wpOp P ops Q i (fun a' w'=>((yJ md ops T i=true→yK w0 w')∧(yJ md ops T3 i=true→R w'))∧yo P md ops Q w0 R T T3 l a' w') a w
 | (i,1) :: l,a,w=>zU P ops i (fun a'=>yo P md ops Q w0 R T T3 l a' w) a
 | (i,2) :: l,a,w=>yd P ops w0 i (fun a'=>yo P md ops Q w0 R T T3 l a' w) a
 | (i,_+3) :: l,a,w=>tB P ops R i (fun a'=>yo P md ops Q w0 R T T3 l a' w) a
theorem yh {L:List Nat} {listed:Array Bool} {i:Nat} {X:Prop} (h:xu L listed=true→X) (hp:xu L (listed.setIfInBounds i true)=true):X:=by
 obtain ⟨t,ht,-,hu⟩:=yY hp;exact h (List.any_eq_true.2 ⟨t,ht,by rw [hu]; rfl⟩)
theorem yb {w0:World} (hs:Region.noSelect ops=true) (hQ:∀ c a d v w,Q (.panic c) (a.put d v) w→Q (.panic c) a w):∀ (l:List (Nat × Nat)) (listed:Array Bool) (a:Act) (w:World),(xu T listed=true→yK w0 w)→(xu T3 listed=true→R w)→wt md ops D T T3 l listed=true→yo P md ops Q w0 R T T3 l a w→xA P md ops Q (yK w0) R D T T3 l.length listed a w
 | [],listed,a,w,_,_,hB,h=>⟨by simpa [wt] using hB,h⟩
 | (i,1) :: l,listed,a,w,hP,hP3,hB,h=>by
  simp only [wt,Bool.and_eq_true,Bool.not_eq_true'] at hB;obtain ⟨⟨h1,h2⟩,h3,h4⟩:=hB;obtain ⟨o,v,ho,hy,hr⟩:=xv h;exact yn h3 (.inl fun _=>trivial) ho (Region.noSelect_spec hs) (fun c a w=>hQ c a _ _ w) l.length listed a w (Region.free_spec ho h2) (by simpa using h1) hy hP hP3 (yb hs hQ l _ _ _ (yh hP) (yh hP3) h4 hr)
 | (i,2) :: l,listed,a,w,hP,hP3,hB,h=>by
  simp only [wt,Bool.and_eq_true,Bool.not_eq_true'] at hB;obtain ⟨⟨h1,h2⟩,⟨h3,h5⟩,h4⟩:=hB;obtain ⟨o,v,ho,hy,hr⟩:=vg h;exact yn h3 (.inr (.inl ⟨rfl,by simpa using h5⟩)) ho (Region.noSelect_spec hs) (fun c a w=>hQ c a _ _ w) l.length listed a w (Region.free_spec ho h2) (by simpa using h1) hy hP hP3 (yb hs hQ l _ _ _ (yh hP) (yh hP3) h4 hr)
 | (i,_+3) :: l,listed,a,w,hP,hP3,hB,h=>by
  simp only [wt,Bool.and_eq_true,Bool.not_eq_true'] at hB;obtain ⟨⟨h1,h2⟩,⟨h3,h5⟩,h4⟩:=hB;obtain ⟨o,v,ho,hy,hr⟩:=h;exact yn h3 (.inr (.inr ⟨rfl,by simpa using h5⟩)) ho (Region.noSelect_spec hs) (fun c a w=>hQ c a _ _ w) l.length listed a w (Region.free_spec ho h2) (by simpa using h1) hy hP hP3 (yb hs hQ l _ _ _ (yh hP) (yh hP3) h4 hr)
 | (i,0) :: l,listed,a,w,hP,hP3,hB,h=>by
  simp only [wt,Bool.and_eq_true,decide_eq_true_eq] at hB;obtain ⟨h1,h2,h3⟩:=hB;refine ⟨fun h0=>(by rw [h1] at h0; cases h0),fun j hj=>?_⟩;have hj':=hj;rw [h1] at hj;obtain rfl:j=i:=by simpa using hj
  refine wpOp_mono (fun a' w' k=>⟨by unfold wK; rw [if_pos h2]; exact k.1,yb hs hQ l _ a' w' (fun hp=>?_) (fun hp=>?_) h3 k.2⟩) h
  ·obtain ⟨t,ht,-,hu⟩:=yY hp;exact k.1.1 (ww hj' ht hu)
  ·obtain ⟨t,ht,-,hu⟩:=yY hp;exact k.1.2 (ww hj' ht hu)
theorem wL (l:List (Nat × Nat)) (R:World→Prop) {id:Nat} {a:Act} {w:World} (hm:P.follows .mixedOrders=true)
  (hB:(Region.noSelect ops&&decide (l.length=ops.size)&&wt .any ops ((l.filter (·.2==0)).map (·.1)) ((l.filter (·.2==2)).map (·.1)) ((l.filter (·.2==3)).map (·.1)) l (Array.replicate ops.size false))=true) (hQ:∀ c a d v w,Q (.panic c) (a.put d v) w→Q (.panic c) a w)
  (hR:R w.drew) (h:∀ W,W=w.drew→R W→yo P .any ops Q W R ((l.filter (·.2==2)).map (·.1)) ((l.filter (·.2==3)).map (·.1)) l a W):(Code.region id ops true).wp P Q a w:=by
 simp only [Bool.and_eq_true,decide_eq_true_eq] at hB;obtain ⟨⟨h1,h2⟩,h3⟩:=hB;refine wp_region_any hm (xB (S:=yK w.drew) (R:=R) (D:=(l.filter (·.2==0)).map (·.1)) (T:=(l.filter (·.2==2)).map (·.1)) (T3:=(l.filter (·.2==3)).map (·.1)) _ _ _ _ ?_);rw [← h2];exact yb h1 hQ l _ _ _ (fun _=>⟨0,rfl⟩) (fun _=>hR) (by rw [← h2] at h3; exact h3) (h _ rfl hR)
theorem sw (l:List (Nat × Nat)) {id:Nat} {a:Act} {w:World} (hm:P.follows .mixedOrders=true)
  (hB:(Region.noSelect ops&&decide (l.length=ops.size)&&wt .any ops ((l.filter (·.2==0)).map (·.1)) ((l.filter (·.2==2)).map (·.1)) ((l.filter (·.2==3)).map (·.1)) l (Array.replicate ops.size false))=true) (hQ:∀ c a d v w,Q (.panic c) (a.put d v) w→Q (.panic c) a w)
  (h:∀ W,W=w.drew→yo P .any ops Q W (fun _=>True) ((l.filter (·.2==2)).map (·.1)) ((l.filter (·.2==3)).map (·.1)) l a W):(Code.region id ops true).wp P Q a w:=
 wL l (fun _=>True) hm hB hQ trivial (fun W hW _=>h W hW)
theorem sT {i:Nat} {l:List (Nat × Nat)} {a:Act} {w0 w:World} (h:∀ K:Act→Prop,(∀ a',yo P md ops Q w0 R T T3 l a' w→K a')→zU P ops i K a):yo P md ops Q w0 R T T3 ((i,1) :: l) a w:=
 h _ (fun _ k=>k)
theorem sU {i:Nat} {l:List (Nat × Nat)} {a:Act} {w0 w:World} (h:∀ K:Act→Prop,(∀ a',yo P md ops Q w0 R T T3 l a' w→K a')→yd P ops w0 i K a):yo P md ops Q w0 R T T3 ((i,2) :: l) a w:=
 h _ (fun _ k=>k)
theorem sV {i:Nat} {l:List (Nat × Nat)} {a:Act} {w0 w:World} {o:Oper} {v:Value} (ho:ops[i]? = some o) (hw:Region.wanted o (yielded ops a.tmps)=true) (hy:∀ w,R w→(execOp a.eval o).run P w=.ok (.value v) w) (h:yo P md ops Q w0 R T T3 l (a.put o.dst v) w):yo P md ops Q w0 R T T3 ((i,3) :: l) a w:=
 ⟨o,v,ho,.inl ⟨hw,hy⟩,h⟩
def xq (P:Program) (ops:Array Oper) (Q:Exit→Act→World→Prop) (i:Nat) (K:Act→World→Prop) (a:Act) (w:World):Prop:=
 match ops[i]? with
 | none=>False
 | some o=>if Region.wanted o (yielded ops a.tmps) then o.wp P a w K Q else K (a.put o.dst undef) w
theorem uX {i:Nat} {l:List (Nat × Nat)} {a:Act} {w0 w:World}
  (h:∀ K:Act→World→Prop,(∀ a' w',(yJ md ops T i=true→yK w0 w')→(yJ md ops T3 i=true→R w')→yo P md ops Q w0 R T T3 l a' w'→K a' w')→xq P ops Q i K a w):yo P md ops Q w0 R T T3 ((i,0) :: l) a w:=by
 have k:=h (fun a' w'=>((yJ md ops T i=true→yK w0 w')∧(yJ md ops T3 i=true→R w'))∧yo P md ops Q w0 R T T3 l a' w') (fun a' w' k1 k2 k3=>⟨⟨k1,k2⟩,k3⟩);show wpOp P ops Q i _ a w;unfold wpOp;unfold xq at k;split
 ·rename_i e; rw [e] at k; cases k
 ·rename_i o e
  rw [e] at k;simp only [] at k;split
  ·rename_i hw; rw [if_pos hw] at k; exact .inl k
  ·rename_i hw; rw [if_neg hw] at k; exact k
theorem wpOrd_do {i:Nat} {l:List (Nat × Nat)} {a:Act} {w0 w:World}
  (h:∀ K:Act→World→Prop,(∀ a' w',(yJ md ops T i=true→yK w0 w')→yo P md ops Q w0 (fun _=>True) T T3 l a' w'→K a' w')→xq P ops Q i K a w):yo P md ops Q w0 (fun _=>True) T T3 ((i,0) :: l) a w:=
 uX fun K hK=>h K fun a' w' k1 k2=>hK a' w' k1 (fun _=>trivial) k2
theorem rE {a:Act} {w0 w:World} (h:Q .normal a w):yo P md ops Q w0 R T T3 [] a w:=h
theorem yK.more {w0 w:World} (h:yK w0 w) (n:Nat):yK w0 (w.drewN n):=by
 obtain ⟨m,rfl⟩:=h;exact ⟨m+n,World.drewN_drewN _ _ _⟩
theorem yK.refl (w:World):yK w w:=⟨0,rfl⟩
end
inductive wg (p:Nat→Prop):List Nat→Prop where
 | nil:wg p []
 | cons {j:Nat} {l:List Nat} (h:p j) (t:wg p l):wg p (j :: l)
theorem wg.get {p:Nat→Prop} {l:List Nat} (h:wg p l) {j:Nat} (hj:j ∈ l):p j:=by
 induction h with
 | nil=>cases hj
 | cons h _ ih=>
  rcases List.mem_cons.1 hj with rfl | hj
  ·exact h
  ·exact ih hj
def uv (dep:List (Nat × List Nat)) (j:Nat):List Nat:=(dep.filter fun p=>p.1==j).flatMap fun p=>p.2
def more (L:Nat→Bool) (j:Nat):Nat→Bool:=fun k=>k==j || L k
theorem tC (listed:Array Bool) (j:Nat):(fun k=>(listed.setIfInBounds j true).getD k true)=more (fun k=>listed.getD k true) j:=by
 funext k
 unfold more;by_cases e:k=j
 ·subst e;rcases Nat.lt_or_ge k listed.size with h | h
  ·simp [h]
  ·simp
 ·rw [getD_set_ne true (Ne.symm e)];simp [e]
theorem sM {w:World} {p q:Nat} {c d:Array Value} {t u:TypeId} {f g:Nat × Nat} (hp:w.heap[p]? = some (.cells c t f)) (hq:w.heap[q]? = some (.cells d u g)) (h:t≠u):p≠q:=by
 rintro rfl;rw [hp] at hq;injection hq with hq
 injection hq with _ e _
 exact h e
section
variable {P : Program} {ops : Array Oper} {Q : Exit → Act → World → Prop} {md : Region.Mode} {R : World → Prop} {D T3 : List Nat} {dep : List (Nat × List Nat)}
def tD (md:Region.Mode) (ops:Array Oper) (D:List Nat) (dep:List (Nat × List Nat)):Nat→Array Bool→Bool
 | 0,listed=>(Region.ready md ops listed).isEmpty&&D.all fun d=>listed.getD d true
 | n+1,listed=>(!(Region.ready md ops listed).isEmpty || D.all fun d=>listed.getD d true) &&
  (Region.ready md ops listed).all fun j=>(D.contains j&&(uv dep j).all fun d=>listed.getD d true)&&tD md ops D dep n (listed.setIfInBounds j true)
def Does (P:Program) (md:Region.Mode) (ops:Array Oper) (Q:Exit→Act→World→Prop) (R:World→Prop) (T3:List Nat) (dep:List (Nat × List Nat)) (I:(Nat→Bool)→Act→World→Prop) (j:Nat):Prop:=
 ∀ (L:Nat→Bool) (a:Act) (w:World),L j=false→(∀ d ∈ uv dep j,L d=true)→I L a w→∀ K:Act→World→Prop,(∀ a' w',(yJ md ops T3 j=true→R w')→I (more L j) a' w'→K a' w')→xq P ops Q j K a w
theorem vF {I:(Nat→Bool)→Act→World→Prop} {j:Nat} (h:Does P md ops Q R T3 dep I j) {L:Nat→Bool} {a:Act} {w:World} (hL:L j=false) (hd:∀ d ∈ uv dep j,L d=true) (hI:I L a w) :
  wpOp P ops Q j (fun a' w'=>(yJ md ops T3 j=true→R w')∧I (more L j) a' w') a w:=by
 have k:=h L a w hL hd hI (fun a' w'=>(yJ md ops T3 j=true→R w')∧I (more L j) a' w') (fun a' w' k1 k2=>⟨k1,k2⟩);unfold wpOp;unfold xq at k;split
 ·rename_i e; rw [e] at k; cases k
 ·rename_i o e
  rw [e] at k;simp only [] at k;split
  ·rename_i hw; rw [if_pos hw] at k; exact .inl k
  ·rename_i hw; rw [if_neg hw] at k; exact k
theorem xw {I:(Nat→Bool)→Act→World→Prop} (hop:wg (Does P md ops Q R T3 dep I) D) (hend:∀ L a w,(∀ d ∈ D,L d=true)→I L a w→Q .normal a w) :
  ∀ (n:Nat) (listed:Array Bool) (a:Act) (w:World),tD md ops D dep n listed=true→I (fun k=>listed.getD k true) a w→xA P md ops Q (fun _=>True) R D [] T3 n listed a w
 | 0,listed,a,w,hB,hI=>by
  simp only [tD,Bool.and_eq_true,List.all_eq_true] at hB;exact ⟨by simpa using hB.1,hend _ a w (fun d hd=>hB.2 d hd) hI⟩
 | n+1,listed,a,w,hB,hI=>by
  simp only [tD,Bool.and_eq_true,Bool.or_eq_true,Bool.not_eq_true',List.all_eq_true] at hB;obtain ⟨h0,h1⟩:=hB;refine ⟨fun e=>?_,fun j hj=>?_⟩
  ·rcases h0 with h0 | h0
   ·rw [e] at h0; cases h0
   ·exact hend _ a w (fun d hd=>h0 d hd) hI
  ·obtain ⟨⟨h2,h3⟩,h4⟩:=h1 j hj
   have hu:listed.getD j true=false:=by
    have:=(mem_ready.1 hj).1
    simpa using this
   refine wpOp_mono (fun a' w' k=>⟨by unfold wK; rw [if_pos h2]; exact ⟨fun _=>trivial,k.1⟩,xw hop hend n _ a' w' h4 (by rw [tC]; exact k.2)⟩) (vF (hop.get (List.contains_iff_mem.1 h2)) hu h3 hI)
def uY (md:Region.Mode) (ops:Array Oper) (D T3:List Nat) (dep:List (Nat × List Nat)):Nat→List (Nat × Nat)→Array Bool→Bool
 | n,[],listed=>(D.all fun d=>!listed.getD d true)&&tD md ops D dep n listed
 | 0,_ :: _,_=>false
 | n+1,(i,k) :: l,listed=>((Region.ready md ops listed).contains i&&Region.free md ops listed i)&&((!D.contains i&&(k==1 || (k==3&&T3.contains i)))&&uY md ops D T3 dep n l (listed.setIfInBounds i true))
def yU (P:Program) (ops:Array Oper) (R:World→Prop) (D:List Nat) (I:(Nat→Bool)→Act→World→Prop):List (Nat × Nat)→Act→World→Prop
 | [],a,w=>∀ L:Nat→Bool,(∀ d ∈ D,L d=false)→I L a w
 | (i,k) :: l,a,w=>if k=1 then zU P ops i (fun a'=>yU P ops R D I l a' w) a else tB P ops R i (fun a'=>yU P ops R D I l a' w) a
theorem yw {I:(Nat→Bool)→Act→World→Prop} (hs:Region.noSelect ops=true) (hQ:∀ c a d v w,Q (.panic c) (a.put d v) w→Q (.panic c) a w) (hop:wg (Does P md ops Q R T3 dep I) D) (hend:∀ L a w,(∀ d ∈ D,L d=true)→I L a w→Q .normal a w) :
  ∀ (n:Nat) (l:List (Nat × Nat)) (listed:Array Bool) (a:Act) (w:World),(xu T3 listed=true→R w)→uY md ops D T3 dep n l listed=true→yU P ops R D I l a w→xA P md ops Q (fun _=>True) R D [] T3 n listed a w
 | n,[],listed,a,w,_,hB,h=>by
  unfold uY at hB;simp only [Bool.and_eq_true,List.all_eq_true,Bool.not_eq_true'] at hB;exact xw hop hend n listed a w hB.2 (h _ fun d hd=>hB.1 d hd)
 | 0,_ :: _,_,_,_,_,hB,_=>by simp [uY] at hB
 | n+1,(i,k) :: l,listed,a,w,hP,hB,h=>by
  simp only [uY,Bool.and_eq_true,Bool.not_eq_true',Bool.or_eq_true,beq_iff_eq] at hB;obtain ⟨⟨h1,h2⟩,⟨h3,hk⟩,h4⟩:=hB;unfold yU at h;split at h
  ·obtain ⟨o,v,ho,hy,hr⟩:=xv h;exact yn h3 (.inl fun _=>trivial) ho (Region.noSelect_spec hs) (fun c a w=>hQ c a _ _ w) n listed a w (Region.free_spec ho h2) (by simpa using h1) hy (fun _=>trivial) hP (yw hs hQ hop hend n l _ _ _ (yh hP) h4 hr)
  ·rename_i h1k
   obtain ⟨o,v,ho,hy,hr⟩:=h;rcases hk with hk | ⟨-,h5⟩
   ·exact absurd hk h1k
   ·exact yn h3 (.inr (.inr ⟨rfl,by simpa using h5⟩)) ho (Region.noSelect_spec hs) (fun c a w=>hQ c a _ _ w) n listed a w (Region.free_spec ho h2) (by simpa using h1) hy (fun _=>trivial) hP (yw hs hQ hop hend n l _ _ _ (yh hP) h4 hr)
theorem sA (l:List (Nat × Nat)) (D T3:List Nat) (dep:List (Nat × List Nat)) (R:World→Prop) (I:(Nat→Bool)→Act→World→Prop) {id:Nat} {a:Act} {w:World} (hm:P.follows .mixedOrders=true)
  (hB:(Region.noSelect ops&&uY .any ops D T3 dep ops.size l (Array.replicate ops.size false))=true) (hQ:∀ c a d v w,Q (.panic c) (a.put d v) w→Q (.panic c) a w)
  (hR:R w.drew) (hop:wg (Does P .any ops Q R T3 dep I) D) (hend:∀ L a w,(∀ d ∈ D,L d=true)→I L a w→Q .normal a w) (h:∀ W,W=w.drew→R W→yU P ops R D I l a W):(Code.region id ops true).wp P Q a w:=by
 simp only [Bool.and_eq_true] at hB;obtain ⟨h1,h3⟩:=hB;exact wp_region_any hm (xB (S:=fun _=>True) (R:=R) (D:=D) (T:=[]) (T3:=T3) _ _ _ _ (yw h1 hQ hop hend _ l _ _ _ (fun _=>hR) h3 (h _ rfl hR)))
theorem sW {I:(Nat→Bool)→Act→World→Prop} {i:Nat} {l:List (Nat × Nat)} {a:Act} {w:World} (h:∀ K:Act→Prop,(∀ a',yU P ops R D I l a' w→K a')→zU P ops i K a):yU P ops R D I ((i,1) :: l) a w:=by
 unfold yU;rw [if_pos rfl];exact h _ (fun _ k=>k)
theorem sX {I:(Nat→Bool)→Act→World→Prop} {i:Nat} {l:List (Nat × Nat)} {a:Act} {w:World} {o:Oper} {v:Value} (ho:ops[i]? = some o) (hw:Region.wanted o (yielded ops a.tmps)=true) (hy:∀ w,R w→(execOp a.eval o).run P w=.ok (.value v) w) (h:yU P ops R D I l (a.put o.dst v) w):yU P ops R D I ((i,3) :: l) a w:=by
 unfold yU;rw [if_neg (by decide)];exact ⟨o,v,ho,.inl ⟨hw,hy⟩,h⟩
theorem rF {I:(Nat→Bool)→Act→World→Prop} {a:Act} {w:World} (h:∀ L:Nat→Bool,(∀ d ∈ D,L d=false)→I L a w):yU P ops R D I [] a w:=h
end
end Go.Proofs.Ytgnledamhjbafaa
