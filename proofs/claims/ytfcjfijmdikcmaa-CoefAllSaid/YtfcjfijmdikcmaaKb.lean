/-
  Contracts (what a function tells) and plain facts that a law's proof hangs on, for every input; no condition but those in their statements. Laid together of the texts Reg, Rgt, Tpa, Tpb, Tpm, Tpe, Tpr, Jd, Tps, Hv.
-/
import Derived.Test.YtfcjfijmdikcmaaKa
import Derived.OrdersHeld
import Derived.StillTail
import Derived.Deep.Quiet
import Derived.StillTailTactics
import Derived.Deep.DeepCutAuto
import Derived.Deep.CutBlock
import Derived.Deep.RegionHeld3
namespace Go.Proofs.Ytfcjfijmdikcmaa
open Go Lib
section
variable {P : Program} {ops : Array Oper} {Q : Exit → Act → World → Prop} {md : Region.Mode} {S R : World → Prop} {D T T3 : List Nat}
def z9 (md:Region.Mode) (ops:Array Oper) (T:List Nat) (j:Nat):Bool:=T.any fun i=>!Region.waitsFor md ops j i
theorem xO {j i:Nat} {oj:Oper} (hj:ops[j]? = some oj) (h:∀ e ∈ oj.after,Region.binds md e=true→e.on≠i):Region.waitsFor md ops j i=false:=by
 cases hw:Region.waitsFor md ops j i with
 | false=>rfl
 | true=>
  obtain ⟨o,ho,e,he,hb,hon⟩:=Region.waitsFor_spec hw;rw [hj] at ho;cases ho
  exact absurd hon (h e he hb)
def yL (md:Region.Mode) (ops:Array Oper) (S R:World→Prop) (D T T3:List Nat) (j:Nat) (w w':World):Prop:=if D.contains j=true then (z9 md ops T j=true→S w')∧(z9 md ops T3 j=true→R w') else w'=w
def yp (T:List Nat) (listed:Array Bool):Bool:=T.any fun t=>!listed.getD t true
theorem yc {listed:Array Bool} {j:Nat} (h:yp T (listed.setIfInBounds j true)=true):∃ t,t ∈ T∧t≠j∧listed.getD t true=false:=by
 obtain ⟨t,ht,hu⟩:=List.any_eq_true.1 h;by_cases e:j=t
 ·subst e
  have:(listed.setIfInBounds j true).getD j true=true:=by
   rcases Nat.lt_or_ge j listed.size with h' | h'
   ·simp [h']
   ·simp
  rw [this] at hu;cases hu
 ·rw [getD_set_ne true e] at hu;exact ⟨t,ht,Ne.symm e,by simpa using hu⟩
theorem yw {listed:Array Bool} {j t:Nat} (hj:j ∈ Region.ready md ops listed) (ht:t ∈ T) (hu:listed.getD t true=false):z9 md ops T j=true:=by
 obtain ⟨-,oj,hoj,hall⟩:=mem_ready.1 hj;refine List.any_eq_true.2 ⟨t,ht,?_⟩;rw [xO hoj fun e he hb heq=>?_]
 ·rfl
 ·have g1:=hall e he hb;rw [heq,getD_both hu] at g1;cases g1
def yz (P:Program) (md:Region.Mode) (ops:Array Oper) (Q:Exit→Act→World→Prop) (S R:World→Prop) (D T T3:List Nat):Nat→Array Bool→Act→World→Prop
 | 0,listed,a,w=>Region.ready md ops listed=[]∧Q .normal a w
 | fuel+1,listed,a,w=>
  (Region.ready md ops listed=[]→Q .normal a w) ∧
  ∀ i ∈ Region.ready md ops listed,wpOp P ops Q i (fun a' w'=>yL md ops S R D T T3 i w w'∧yz P md ops Q S R D T T3 fuel (listed.setIfInBounds i true) a' w') a w
theorem yu:∀ (fuel:Nat) (listed:Array Bool) (a:Act) (w:World),yz P md ops Q S R D T T3 fuel listed a w→wpAny P md ops Q fuel listed a w
 | 0,_,_,_,h=>h
 | fuel+1,_,_,_,h=>⟨h.1,fun i hi=>wpOp_mono (fun a' w' h'=>yu fuel _ a' w' h'.2) (h.2 i hi)⟩
theorem zS {S':World→Prop} {i:Nat} {oi:Oper} {v:Value} (hD:D.contains i=false) (hT:(∀ w,S' w)∨(S'=S∧i ∈ T)∨(S'=R∧i ∈ T3)) (hi:ops[i]? = some oi) (hsel:∀ (j:Nat) (o:Oper) cs b,ops[j]? = some o→o.op≠.select cs b)
  (hQ:∀ c a w,Q (.panic c) (a.put oi.dst v) w→Q (.panic c) a w) :
  ∀ (fuel:Nat) (listed:Array Bool) (a:Act) (w:World),
   (∀ j oj,ops[j]? = some oj→j≠i→listed.getD j true=false→(∀ e ∈ oj.after,Region.binds md e=true→e.on≠i)→oi.apart ops oj=true) →
   i ∈ Region.ready md ops listed→YieldsIf P ops S' oi v a→(yp T listed=true→S w)→(yp T3 listed=true→R w) →
   yz P md ops Q S R D T T3 fuel (listed.setIfInBounds i true) (a.put oi.dst v) w→yz P md ops Q S R D T T3 (fuel+1) listed a w:=by
 have hS':∀ (listed:Array Bool) (w:World),i ∈ Region.ready md ops listed→(yp T listed=true→S w)→(yp T3 listed=true→R w)→S' w:=fun listed w hr hP hP3=>by
  rcases hT with h | ⟨rfl,h⟩ | ⟨rfl,h⟩
  ·exact h w
  ·exact hP (List.any_eq_true.2 ⟨i,h,by rw [(mem_ready.1 hr).1]; rfl⟩)
  ·exact hP3 (List.any_eq_true.2 ⟨i,h,by rw [(mem_ready.1 hr).1]; rfl⟩)
 have hc:∀ w,yL md ops S R D T T3 i w w:=fun w=>by unfold yL; rw [hD]; exact rfl
 intro fuel
 induction fuel with
 | zero=>
  intro listed a w _ hr hy hP hP3 H;refine ⟨fun h=>(by rw [h] at hr; cases hr),fun j hj=>?_⟩;by_cases hji:j=i
  ·subst hji;exact hy.wpOp hi (hS' _ _ hr hP hP3) ⟨hc w,H⟩
  ·have:=ready_mono hj hji;rw [H.1] at this;cases this
 | succ fuel ih=>
  intro listed a w hfree hr hy hP hP3 H;refine ⟨fun h=>(by rw [h] at hr; cases hr),fun j hj=>?_⟩;by_cases hji:j=i
  ·subst hji;exact hy.wpOp hi (hS' _ _ hr hP hP3) ⟨hc w,H⟩
  ·have k1:=H.2 j (ready_mono hj hji);obtain ⟨hun,oj,hoj,hall⟩:=mem_ready.1 hj
   have hno:∀ e ∈ oj.after,Region.binds md e=true→e.on≠i:=fun e he hb heq=>by
    have g1:=hall e he hb;have g0:=(mem_ready.1 hr).1;rw [heq,getD_both g0] at g1;cases g1
   have k2:=wpOp_putIf hoj (hfree j oj hoj hji hun hno) (fun cs b=>hsel i oi cs b hi) (fun cs b=>hsel j oj cs b hoj) hQ hy k1
   have hfree':∀ k ok,ops[k]? = some ok→k≠i→(listed.setIfInBounds j true).getD k true=false →
     (∀ e ∈ ok.after,Region.binds md e=true→e.on≠i)→oi.apart ops ok=true:=fun k ok hk hki hu hn=>by
    refine hfree k ok hk hki ?_ hn;by_cases hjk:j=k
    ·subst hjk; exact hun
    ·rw [getD_set_ne true hjk] at hu; exact hu
   refine wpOp_mono (fun a' w' k3=>⟨k3.2.1,ih (listed.setIfInBounds j true) a' w' hfree' (ready_mono hr (Ne.symm hji)) k3.1 (fun hp=>?_) (fun hp=>?_) ?_⟩) k2
   ·obtain ⟨t,ht,-,hu⟩:=yc hp;have hcj:=k3.2.1;unfold yL at hcj;split at hcj
    ·exact hcj.1 (yw hj ht hu)
    ·rw [hcj];exact hP (List.any_eq_true.2 ⟨t,ht,by rw [hu]; rfl⟩)
   ·obtain ⟨t,ht,-,hu⟩:=yc hp;have hcj:=k3.2.1;unfold yL at hcj;split at hcj
    ·exact hcj.2 (yw hj ht hu)
    ·rw [hcj];exact hP3 (List.any_eq_true.2 ⟨t,ht,by rw [hu]; rfl⟩)
   ·rw [Array.setIfInBounds_comm _ _ hji];exact k3.2.2
def zl (v:Value) (w:World):Result Next→Prop
 | .ok (.value u) w'=>u=v∧w'=w
 | _=>False
def zF (P:Program) (ops:Array Oper) (w0:World) (i:Nat) (K:Act→Prop) (a:Act):Prop:=
 match ops[i]? with
 | none=>False
 | some o=>if Region.wanted o (yielded ops a.tmps) then ∃ v,(∀ n,zl v (w0.drewN n) ((execOp a.eval o).run P (w0.drewN n)))∧K (a.put o.dst v) else K (a.put o.dst undef)
def zH (w0 w:World):Prop:=∃ n,w=w0.drewN n
theorem yR {w0:World} {i:Nat} {K:Act→Prop} {a:Act} (h:zF P ops w0 i K a):∃ o v,ops[i]? = some o∧YieldsIf P ops (zH w0) o v a∧K (a.put o.dst v):=by
 unfold zF at h;split at h
 ·cases h
 ·rename_i o ho
  split at h
  ·rename_i hw
   obtain ⟨v,hv,hk⟩:=h;refine ⟨o,v,ho,.inl ⟨hw,fun w hw'=>?_⟩,hk⟩;obtain ⟨n,rfl⟩:=hw';have:=hv n;generalize (execOp a.eval o).run P (w0.drewN n)=r at this;unfold zl at this;split at this
   ·obtain ⟨rfl,rfl⟩:=this; rfl
   ·cases this
  ·rename_i hw
   exact ⟨o,undef,ho,.inr ⟨by simpa using hw,rfl⟩,h⟩
def zz (P:Program) (ops:Array Oper) (i:Nat) (K:Act→Prop) (a:Act):Prop:=
 match ops[i]? with
 | none=>False
 | some o=>if Region.wanted o (yielded ops a.tmps) then ∃ v,(∀ w,zl v w ((execOp a.eval o).run P w))∧K (a.put o.dst v) else K (a.put o.dst undef)
theorem yq {i:Nat} {K:Act→Prop} {a:Act} (h:zz P ops i K a):∃ o v,ops[i]? = some o∧YieldsIf P ops (fun _=>True) o v a∧K (a.put o.dst v):=by
 unfold zz at h;split at h
 ·cases h
 ·rename_i o ho
  split at h
  ·rename_i hw
   obtain ⟨v,hv,hk⟩:=h;refine ⟨o,v,ho,.inl ⟨hw,fun w _=>?_⟩,hk⟩;have:=hv w;generalize (execOp a.eval o).run P w=r at this;unfold zl at this;split at this
   ·obtain ⟨rfl,rfl⟩:=this; rfl
   ·cases this
  ·rename_i hw
   exact ⟨o,undef,ho,.inr ⟨by simpa using hw,rfl⟩,h⟩
def xP (P:Program) (ops:Array Oper) (R:World→Prop) (i:Nat) (K:Act→Prop) (a:Act):Prop:=
 ∃ o v,ops[i]? = some o∧YieldsIf P ops R o v a∧K (a.put o.dst v)
def yG (md:Region.Mode) (ops:Array Oper) (D T T3:List Nat):List (Nat × Nat)→Array Bool→Bool
 | [],listed=>(Region.ready md ops listed).isEmpty
 | (i,0) :: l,listed=>decide (Region.ready md ops listed=[i])&&(D.contains i&&yG md ops D T T3 l (listed.setIfInBounds i true))
 | (i,1) :: l,listed=>((Region.ready md ops listed).contains i&&Region.free md ops listed i)&&(!D.contains i&&yG md ops D T T3 l (listed.setIfInBounds i true))
 | (i,2) :: l,listed=>((Region.ready md ops listed).contains i&&Region.free md ops listed i)&&((!D.contains i&&T.contains i)&&yG md ops D T T3 l (listed.setIfInBounds i true))
 | (i,_+3) :: l,listed=>((Region.ready md ops listed).contains i&&Region.free md ops listed i)&&((!D.contains i&&T3.contains i)&&yG md ops D T T3 l (listed.setIfInBounds i true))
def zT (P:Program) (md:Region.Mode) (ops:Array Oper) (Q:Exit→Act→World→Prop) (w0:World) (R:World→Prop) (T T3:List Nat):List (Nat × Nat)→Act→World→Prop
 | [],a,w=>Q .normal a w
 | (i,0) :: l,a,w=>wpOp P ops Q i (fun a' w'=>((z9 md ops T i=true→zH w0 w')∧(z9 md ops T3 i=true→R w'))∧zT P md ops Q w0 R T T3 l a' w') a w
 | (i,1) :: l,a,w=>zz P ops i (fun a'=>zT P md ops Q w0 R T T3 l a' w) a
 | (i,2) :: l,a,w=>zF P ops w0 i (fun a'=>zT P md ops Q w0 R T T3 l a' w) a
 | (i,_+3) :: l,a,w=>xP P ops R i (fun a'=>zT P md ops Q w0 R T T3 l a' w) a
theorem zP {L:List Nat} {listed:Array Bool} {i:Nat} {X:Prop} (h:yp L listed=true→X) (hp:yp L (listed.setIfInBounds i true)=true):X:=by
 obtain ⟨t,ht,-,hu⟩:=yc hp;exact h (List.any_eq_true.2 ⟨t,ht,by rw [hu]; rfl⟩)
theorem zO {w0:World} (hs:Region.noSelect ops=true) (hQ:∀ c a d v w,Q (.panic c) (a.put d v) w→Q (.panic c) a w):∀ (l:List (Nat × Nat)) (listed:Array Bool) (a:Act) (w:World),(yp T listed=true→zH w0 w)→(yp T3 listed=true→R w)→yG md ops D T T3 l listed=true→zT P md ops Q w0 R T T3 l a w→yz P md ops Q (zH w0) R D T T3 l.length listed a w
 | [],listed,a,w,_,_,hB,h=>⟨by simpa [yG] using hB,h⟩
 | (i,1) :: l,listed,a,w,hP,hP3,hB,h=>by
  simp only [yG,Bool.and_eq_true,Bool.not_eq_true'] at hB;obtain ⟨⟨h1,h2⟩,h3,h4⟩:=hB;obtain ⟨o,v,ho,hy,hr⟩:=yq h;exact zS h3 (.inl fun _=>trivial) ho (Region.noSelect_spec hs) (fun c a w=>hQ c a _ _ w) l.length listed a w (Region.free_spec ho h2) (by simpa using h1) hy hP hP3 (zO hs hQ l _ _ _ (zP hP) (zP hP3) h4 hr)
 | (i,2) :: l,listed,a,w,hP,hP3,hB,h=>by
  simp only [yG,Bool.and_eq_true,Bool.not_eq_true'] at hB;obtain ⟨⟨h1,h2⟩,⟨h3,h5⟩,h4⟩:=hB;obtain ⟨o,v,ho,hy,hr⟩:=yR h;exact zS h3 (.inr (.inl ⟨rfl,by simpa using h5⟩)) ho (Region.noSelect_spec hs) (fun c a w=>hQ c a _ _ w) l.length listed a w (Region.free_spec ho h2) (by simpa using h1) hy hP hP3 (zO hs hQ l _ _ _ (zP hP) (zP hP3) h4 hr)
 | (i,_+3) :: l,listed,a,w,hP,hP3,hB,h=>by
  simp only [yG,Bool.and_eq_true,Bool.not_eq_true'] at hB;obtain ⟨⟨h1,h2⟩,⟨h3,h5⟩,h4⟩:=hB;obtain ⟨o,v,ho,hy,hr⟩:=h;exact zS h3 (.inr (.inr ⟨rfl,by simpa using h5⟩)) ho (Region.noSelect_spec hs) (fun c a w=>hQ c a _ _ w) l.length listed a w (Region.free_spec ho h2) (by simpa using h1) hy hP hP3 (zO hs hQ l _ _ _ (zP hP) (zP hP3) h4 hr)
 | (i,0) :: l,listed,a,w,hP,hP3,hB,h=>by
  simp only [yG,Bool.and_eq_true,decide_eq_true_eq] at hB;obtain ⟨h1,h2,h3⟩:=hB;refine ⟨fun h0=>(by rw [h1] at h0; cases h0),fun j hj=>?_⟩;have hj':=hj;rw [h1] at hj;obtain rfl:j=i:=by simpa using hj
  refine wpOp_mono (fun a' w' k=>⟨by unfold yL; rw [if_pos h2]; exact k.1,zO hs hQ l _ a' w' (fun hp=>?_) (fun hp=>?_) h3 k.2⟩) h
  ·obtain ⟨t,ht,-,hu⟩:=yc hp;exact k.1.1 (yw hj' ht hu)
  ·obtain ⟨t,ht,-,hu⟩:=yc hp;exact k.1.2 (yw hj' ht hu)
theorem z5 (l:List (Nat × Nat)) (R:World→Prop) {id:Nat} {a:Act} {w:World} (hm:P.follows .mixedOrders=true)
  (hB:(Region.noSelect ops&&decide (l.length=ops.size)&&yG .any ops ((l.filter (·.2==0)).map (·.1)) ((l.filter (·.2==2)).map (·.1)) ((l.filter (·.2==3)).map (·.1)) l (Array.replicate ops.size false))=true) (hQ:∀ c a d v w,Q (.panic c) (a.put d v) w→Q (.panic c) a w)
  (hR:R w.drew) (h:∀ W,W=w.drew→R W→zT P .any ops Q W R ((l.filter (·.2==2)).map (·.1)) ((l.filter (·.2==3)).map (·.1)) l a W):(Code.region id ops true).wp P Q a w:=by
 simp only [Bool.and_eq_true,decide_eq_true_eq] at hB;obtain ⟨⟨h1,h2⟩,h3⟩:=hB;refine wp_region_any hm (yu (S:=zH w.drew) (R:=R) (D:=(l.filter (·.2==0)).map (·.1)) (T:=(l.filter (·.2==2)).map (·.1)) (T3:=(l.filter (·.2==3)).map (·.1)) _ _ _ _ ?_);rw [← h2];exact zO h1 hQ l _ _ _ (fun _=>⟨0,rfl⟩) (fun _=>hR) (by rw [← h2] at h3; exact h3) (h _ rfl hR)
theorem zE (l:List (Nat × Nat)) {id:Nat} {a:Act} {w:World} (hm:P.follows .mixedOrders=true)
  (hB:(Region.noSelect ops&&decide (l.length=ops.size)&&yG .any ops ((l.filter (·.2==0)).map (·.1)) ((l.filter (·.2==2)).map (·.1)) ((l.filter (·.2==3)).map (·.1)) l (Array.replicate ops.size false))=true) (hQ:∀ c a d v w,Q (.panic c) (a.put d v) w→Q (.panic c) a w)
  (h:∀ W,W=w.drew→zT P .any ops Q W (fun _=>True) ((l.filter (·.2==2)).map (·.1)) ((l.filter (·.2==3)).map (·.1)) l a W):(Code.region id ops true).wp P Q a w:=
 z5 l (fun _=>True) hm hB hQ trivial (fun W hW _=>h W hW)
theorem zj {i:Nat} {l:List (Nat × Nat)} {a:Act} {w0 w:World} (h:∀ K:Act→Prop,(∀ a',zT P md ops Q w0 R T T3 l a' w→K a')→zz P ops i K a):zT P md ops Q w0 R T T3 ((i,1) :: l) a w:=
 h _ (fun _ k=>k)
theorem zk {i:Nat} {l:List (Nat × Nat)} {a:Act} {w0 w:World} (h:∀ K:Act→Prop,(∀ a',zT P md ops Q w0 R T T3 l a' w→K a')→zF P ops w0 i K a):zT P md ops Q w0 R T T3 ((i,2) :: l) a w:=
 h _ (fun _ k=>k)
theorem z6 {i:Nat} {l:List (Nat × Nat)} {a:Act} {w0 w:World} {o:Oper} {v:Value} (ho:ops[i]? = some o) (hw:Region.wanted o (yielded ops a.tmps)=true) (hy:∀ w,R w→(execOp a.eval o).run P w=.ok (.value v) w) (h:zT P md ops Q w0 R T T3 l (a.put o.dst v) w):zT P md ops Q w0 R T T3 ((i,3) :: l) a w:=
 ⟨o,v,ho,.inl ⟨hw,hy⟩,h⟩
def yb (P:Program) (ops:Array Oper) (Q:Exit→Act→World→Prop) (i:Nat) (K:Act→World→Prop) (a:Act) (w:World):Prop:=
 match ops[i]? with
 | none=>False
 | some o=>if Region.wanted o (yielded ops a.tmps) then o.wp P a w K Q else K (a.put o.dst undef) w
theorem zZ {i:Nat} {l:List (Nat × Nat)} {a:Act} {w0 w:World}
  (h:∀ K:Act→World→Prop,(∀ a' w',(z9 md ops T i=true→zH w0 w')→(z9 md ops T3 i=true→R w')→zT P md ops Q w0 R T T3 l a' w'→K a' w')→yb P ops Q i K a w):zT P md ops Q w0 R T T3 ((i,0) :: l) a w:=by
 have k:=h (fun a' w'=>((z9 md ops T i=true→zH w0 w')∧(z9 md ops T3 i=true→R w'))∧zT P md ops Q w0 R T T3 l a' w') (fun a' w' k1 k2 k3=>⟨⟨k1,k2⟩,k3⟩);show wpOp P ops Q i _ a w;unfold wpOp;unfold yb at k;split
 ·rename_i e; rw [e] at k; cases k
 ·rename_i o e
  rw [e] at k;simp only [] at k;split
  ·rename_i hw; rw [if_pos hw] at k; exact .inl k
  ·rename_i hw; rw [if_neg hw] at k; exact k
theorem yx {i:Nat} {l:List (Nat × Nat)} {a:Act} {w0 w:World}
  (h:∀ K:Act→World→Prop,(∀ a' w',(z9 md ops T i=true→zH w0 w')→zT P md ops Q w0 (fun _=>True) T T3 l a' w'→K a' w')→yb P ops Q i K a w):zT P md ops Q w0 (fun _=>True) T T3 ((i,0) :: l) a w:=
 zZ fun K hK=>h K fun a' w' k1 k2=>hK a' w' k1 (fun _=>trivial) k2
theorem zQ {a:Act} {w0 w:World} (h:Q .normal a w):zT P md ops Q w0 R T T3 [] a w:=h
theorem zH.more {w0 w:World} (h:zH w0 w) (n:Nat):zH w0 (w.drewN n):=by
 obtain ⟨m,rfl⟩:=h;exact ⟨m+n,World.drewN_drewN _ _ _⟩
theorem zH.refl (w:World):zH w w:=⟨0,rfl⟩
end
inductive OT where
 | nil
 | stop
 | op (i k:Nat) (t:OT)
 | alt (i:Nat) (t more:OT)
def OT.heads:OT→List Nat
 | .alt i _ more=>i :: more.heads
 | _=>[]
def OT.deep:OT→Nat
 | .nil=>0
 | .stop=>0
 | .op _ _ t=>t.deep+1
 | .alt _ t more=>max (t.deep+1) more.deep
section
variable {P : Program} {ops : Array Oper} {Q : Exit → Act → World → Prop} {md : Region.Mode} {R : World → Prop} {D T3 : List Nat}
def yA (md:Region.Mode) (ops:Array Oper) (D T3:List Nat):OT→Array Bool→Bool→Bool
 | .nil,listed,hd=>hd&&(Region.ready md ops listed).isEmpty
 | .stop,_,hd=>!hd
 | .op i k t,listed,hd=>(hd&&((Region.ready md ops listed).contains i&&Region.free md ops listed i))&&((!D.contains i&&(k==1 || (k==3&&T3.contains i)))&&yA md ops D T3 t (listed.setIfInBounds i true) true)
 | .alt i t more,listed,hd=>((!hd || (Region.ready md ops listed).all fun j=>(i :: more.heads).contains j)&&(!hd || !(Region.ready md ops listed).isEmpty))&&((D.contains i&&yA md ops D T3 t (listed.setIfInBounds i true) true)&&yA md ops D T3 more listed false)
def zx (P:Program) (md:Region.Mode) (ops:Array Oper) (Q:Exit→Act→World→Prop) (R:World→Prop) (T3:List Nat):OT→Act→World→Prop
 | .nil,a,w=>Q .normal a w
 | .stop,_,_=>True
 | .op i k t,a,w=>if k=1 then zz P ops i (fun a'=>zx P md ops Q R T3 t a' w) a else xP P ops R i (fun a'=>zx P md ops Q R T3 t a' w) a
 | .alt i t more,a,w=>wpOp P ops Q i (fun a' w'=>(z9 md ops T3 i=true→R w')∧zx P md ops Q R T3 t a' w') a w∧zx P md ops Q R T3 more a w
theorem y7 {listed:Array Bool} {a:Act} {w:World} {j:Nat}:∀ {t:OT} {hd:Bool},j ∈ t.heads→yA md ops D T3 t listed hd=true→zx P md ops Q R T3 t a w →
  ∃ s,s.deep+1≤t.deep∧D.contains j=true∧yA md ops D T3 s (listed.setIfInBounds j true) true=true∧wpOp P ops Q j (fun a' w'=>(z9 md ops T3 j=true→R w')∧zx P md ops Q R T3 s a' w') a w
 | .nil,_,h,_,_=>by cases h
 | .stop,_,h,_,_=>by cases h
 | .op _ _ _,_,h,_,_=>by cases h
 | .alt i t more,hd,h,hB,hw=>by
  simp only [yA,Bool.and_eq_true] at hB;obtain ⟨-,⟨h2,h3⟩,h4⟩:=hB;obtain ⟨w1,w2⟩:=hw;rcases List.mem_cons.1 h with rfl | h
  ·exact ⟨t,by simp only [OT.deep]; omega,h2,h3,w1⟩
  ·obtain ⟨s,s1,s2,s3,s4⟩:=y7 h h4 w2;exact ⟨s,by simp only [OT.deep]; omega,s2,s3,s4⟩
theorem zU (hs:Region.noSelect ops=true) (hQ:∀ c a d v w,Q (.panic c) (a.put d v) w→Q (.panic c) a w):∀ (n:Nat) (t:OT) (listed:Array Bool) (a:Act) (w:World),t.deep≤n→(yp T3 listed=true→R w)→yA md ops D T3 t listed true=true→zx P md ops Q R T3 t a w→yz P md ops Q (fun _=>True) R D [] T3 n listed a w
 | 0,.nil,listed,a,w,_,_,hB,h=>⟨by simpa [yA] using hB,h⟩
 | n+1,.nil,listed,a,w,_,_,hB,h=>by
  have e:Region.ready md ops listed=[]:=by simpa [yA] using hB
  exact ⟨fun _=>h,fun i hi=>by rw [e] at hi; cases hi⟩
 | _,.stop,_,_,_,_,_,hB,_=>by simp [yA] at hB
 | 0,.op i k t,_,_,_,hd,_,_,_=>by simp only [OT.deep] at hd; omega
 | 0,.alt i t more,_,_,_,hd,_,_,_=>by simp only [OT.deep] at hd; omega
 | n+1,.op i k t,listed,a,w,hd,hP,hB,h=>by
  simp only [OT.deep] at hd;simp only [yA,Bool.and_eq_true,Bool.not_eq_true',Bool.or_eq_true,beq_iff_eq] at hB;obtain ⟨⟨-,h1,h2⟩,⟨h3,hk⟩,h4⟩:=hB;unfold zx at h;split at h
  ·obtain ⟨o,v,ho,hy,hr⟩:=yq h;exact zS h3 (.inl fun _=>trivial) ho (Region.noSelect_spec hs) (fun c a w=>hQ c a _ _ w) n listed a w (Region.free_spec ho h2) (by simpa using h1) hy (fun _=>trivial) hP (zU hs hQ n t _ _ _ (by omega) (zP hP) h4 hr)
  ·rename_i h1k
   obtain ⟨o,v,ho,hy,hr⟩:=h;rcases hk with hk | ⟨-,h5⟩
   ·exact absurd hk h1k
   ·exact zS h3 (.inr (.inr ⟨rfl,by simpa using h5⟩)) ho (Region.noSelect_spec hs) (fun c a w=>hQ c a _ _ w) n listed a w (Region.free_spec ho h2) (by simpa using h1) hy (fun _=>trivial) hP (zU hs hQ n t _ _ _ (by omega) (zP hP) h4 hr)
 | n+1,.alt i t more,listed,a,w,hd,hP,hB,h=>by
  have hB0:=hB;simp only [yA,Bool.and_eq_true,Bool.not_true,Bool.false_or,List.all_eq_true] at hB;obtain ⟨⟨h1,h0⟩,-⟩:=hB;refine ⟨fun e=>(by rw [e] at h0; cases h0),fun j hj=>?_⟩
  have hjh:j ∈ (OT.alt i t more).heads:=by
   have:=h1 j hj;exact List.contains_iff_mem.1 this
  obtain ⟨s,s1,s2,s3,s4⟩:=y7 hjh hB0 h;refine wpOp_mono (fun a' w' k=>⟨by unfold yL; rw [if_pos s2]; exact ⟨fun _=>trivial,k.1⟩,zU hs hQ n s _ a' w' (by omega) (fun hp=>?_) s3 k.2⟩) s4;obtain ⟨x,hx,-,hu⟩:=yc hp;exact k.1 (yw hj hx hu)
theorem z7 (t:OT) (D T3:List Nat) (R:World→Prop) {id:Nat} {a:Act} {w:World} (hm:P.follows .mixedOrders=true)
  (hB:(Region.noSelect ops&&decide (t.deep≤ops.size)&&yA .any ops D T3 t (Array.replicate ops.size false) true)=true) (hQ:∀ c a d v w,Q (.panic c) (a.put d v) w→Q (.panic c) a w)
  (hR:R w.drew) (h:∀ W,W=w.drew→R W→zx P .any ops Q R T3 t a W):(Code.region id ops true).wp P Q a w:=by
 simp only [Bool.and_eq_true,decide_eq_true_eq] at hB;obtain ⟨⟨h1,h2⟩,h3⟩:=hB;exact wp_region_any hm (yu (S:=fun _=>True) (R:=R) (D:=D) (T:=[]) (T3:=T3) _ _ _ _ (zU h1 hQ _ t _ _ _ h2 (fun _=>hR) h3 (h _ rfl hR)))
theorem zg {i:Nat} {t:OT} {a:Act} {w:World} (h:∀ K:Act→Prop,(∀ a',zx P md ops Q R T3 t a' w→K a')→zz P ops i K a):zx P md ops Q R T3 (.op i 1 t) a w:=by
 unfold zx;rw [if_pos rfl];exact h _ (fun _ k=>k)
theorem zR {i:Nat} {t:OT} {a:Act} {w:World} {o:Oper} {v:Value} (ho:ops[i]? = some o) (hw:Region.wanted o (yielded ops a.tmps)=true) (hy:∀ w,R w→(execOp a.eval o).run P w=.ok (.value v) w) (h:zx P md ops Q R T3 t (a.put o.dst v) w):zx P md ops Q R T3 (.op i 3 t) a w:=by
 unfold zx;rw [if_neg (by decide)];exact ⟨o,v,ho,.inl ⟨hw,hy⟩,h⟩
theorem zd {i:Nat} {t more:OT} {a:Act} {w:World} (h:∀ K:Act→World→Prop,(∀ a' w',(z9 md ops T3 i=true→R w')→zx P md ops Q R T3 t a' w'→K a' w')→yb P ops Q i K a w) (h2:zx P md ops Q R T3 more a w):zx P md ops Q R T3 (.alt i t more) a w:=by
 refine ⟨?_,h2⟩;have k:=h (fun a' w'=>(z9 md ops T3 i=true→R w')∧zx P md ops Q R T3 t a' w') (fun a' w' k1 k2=>⟨k1,k2⟩);show wpOp P ops Q i _ a w;unfold wpOp;unfold yb at k;split
 ·rename_i e; rw [e] at k; cases k
 ·rename_i o e
  rw [e] at k;simp only [] at k;split
  ·rename_i hw; rw [if_pos hw] at k; exact .inl k
  ·rename_i hw; rw [if_neg hw] at k; exact k
theorem ze {a:Act} {w:World}:zx P md ops Q R T3 .stop a w:=trivial
theorem zC {a:Act} {w:World} (h:Q .normal a w):zx P md ops Q R T3 .nil a w:=h
end
end Go.Proofs.Ytfcjfijmdikcmaa
namespace Go.Proofs.Ytfcjfijmdikcmaa
open Go.RowKit Lib
open Ieee (double)
attribute [local go_sem] zh zf zI zA zJ zK zL zM zn zp zq zr zt
theorem yB {W w1:World} (hb:Below W.heap.size W w1):(∀ b o,b<W.heap.size→w1.cell? ⟨b,o,none⟩=W.cell? ⟨b,o,none⟩)∧(∀ b o,b<W.heap.size→w1.frozen? ⟨b,o,none⟩=W.frozen? ⟨b,o,none⟩):=
 ⟨fun b o h=>hb.cell (p:=⟨b,o,none⟩) h,fun b o h=>hb.frozen (p:=⟨b,o,none⟩) h⟩
structure OpD where
 k:Int
 a:Int
 b:Int
 c:Nat
def Box4 (B:Nat) (o:OpD) (w:World):Prop:=
 w.cell? ⟨B,0,none⟩=some (.int .i64 o.k)∧w.cell? ⟨B,1,none⟩=some (.int .i64 o.a)∧w.cell? ⟨B,2,none⟩=some (.int .i64 o.b)∧w.cell? ⟨B,3,none⟩=some (.float .f64 o.c)∧B<w.heap.size
theorem Box4.below {B:Nat} {o:OpD} {w w':World} (h:Box4 B o w) (hb:Below w.heap.size w w'):Box4 B o w':=by
 obtain ⟨h1,h2,h3,h4,h5⟩:=h;obtain ⟨hc,-⟩:=yB hb;have:=hb.size;exact ⟨by rw [hc _ _ h5]; exact h1,by rw [hc _ _ h5]; exact h2,by rw [hc _ _ h5]; exact h3,by rw [hc _ _ h5]; exact h4,by omega⟩
structure TD where
 n:Int
 len:Nat
 op:Nat→OpD
 lo:Nat
 out:Nat→Int
def xt (w:World) (v:Value) (len:Nat) (op:Nat→OpD):Prop:=
 ∃ a cap,v=.slice a len cap∧len≤9223372036854775807∧(0<len→∃ b off,a=some ⟨b,off,none⟩∧b<w.heap.size∧∀ i,i<len →
  w.cell? ⟨b,off+i*4,none⟩=some (.int .i64 (op i).k)∧w.cell? ⟨b,off+i*4+1,none⟩=some (.int .i64 (op i).a)∧w.cell? ⟨b,off+i*4+2,none⟩=some (.int .i64 (op i).b)∧w.cell? ⟨b,off+i*4+3,none⟩=some (.float .f64 (op i).c))
def xu (w:World) (v:Value) (len:Nat) (f:Nat→Int):Prop:=
 ∃ a cap,v=.slice a len cap∧len≤9223372036854775807∧(0<len→∃ b off,a=some ⟨b,off,none⟩∧b<w.heap.size∧∀ i,i<len→w.cell? ⟨b,off+i,none⟩=some (.int .i64 (f i)))
def xm (w:World) (v:Value) (T:TD):Prop:=∃ vo vu,v=.agg #[.int .i64 T.n,vo,vu]∧xt w vo T.len T.op∧xu w vu T.lo T.out
theorem xt.below {w w':World} {v:Value} {len:Nat} {op:Nat→OpD} (h:xt w v len op) (hb:Below w.heap.size w w'):xt w' v len op:=by
 obtain ⟨a,cap,h1,h2,h3⟩:=h;refine ⟨a,cap,h1,h2,fun hl=>?_⟩;obtain ⟨b,off,e,hs,hc⟩:=h3 hl;obtain ⟨hk,-⟩:=yB hb;refine ⟨b,off,e,Nat.lt_of_lt_of_le hs hb.size,fun i hi=>?_⟩;obtain ⟨c1,c2,c3,c4⟩:=hc i hi;exact ⟨by rw [hk _ _ hs]; exact c1,by rw [hk _ _ hs]; exact c2,by rw [hk _ _ hs]; exact c3,by rw [hk _ _ hs]; exact c4⟩
theorem xu.below {w w':World} {v:Value} {len:Nat} {f:Nat→Int} (h:xu w v len f) (hb:Below w.heap.size w w'):xu w' v len f:=by
 obtain ⟨a,cap,h1,h2,h3⟩:=h;refine ⟨a,cap,h1,h2,fun hl=>?_⟩;obtain ⟨b,off,e,hs,hc⟩:=h3 hl;obtain ⟨hk,-⟩:=yB hb;exact ⟨b,off,e,Nat.lt_of_lt_of_le hs hb.size,fun i hi=>by rw [hk _ _ hs]; exact hc i hi⟩
theorem xm.below {w w':World} {v:Value} {T:TD} (h:xm w v T) (hb:Below w.heap.size w w'):xm w' v T:=by
 obtain ⟨vo,vu,h1,h2,h3⟩:=h;exact ⟨vo,vu,h1,h2.below hb,h3.below hb⟩
def Box3 (B:Nat) (n:Int) (vo vu:Value) (w:World):Prop:=
 w.cell? ⟨B,0,none⟩=some (.int .i64 n)∧w.cell? ⟨B,1,none⟩=some vo∧w.cell? ⟨B,2,none⟩=some vu∧B<w.heap.size
theorem Box3.below {B:Nat} {n:Int} {vo vu:Value} {w w':World} (h:Box3 B n vo vu w) (hb:Below w.heap.size w w'):Box3 B n vo vu w':=by
 obtain ⟨h1,h2,h3,h5⟩:=h;obtain ⟨hc,-⟩:=yB hb;have:=hb.size;exact ⟨by rw [hc _ _ h5]; exact h1,by rw [hc _ _ h5]; exact h2,by rw [hc _ _ h5]; exact h3,by omega⟩
theorem zX (P:Program) (w:World) (a:Addr) (m:Mode) (b:Nat):(store a (.float .f64 b) m).run P w=stored P w a (.float .f64 b) m:=run_store P w a _ m rfl
def zD (f:Nat→Int):Nat→List Value
 | 0=>[]
 | k+1=>zD f k ++ [.int .i64 (f k)]
theorem yT (f:Nat→Int):∀ k,(zD f k).length=k
 | 0=>rfl
 | k+1=>by rw [zD,List.length_append,yT f k]; simp
theorem yd (f:Nat→Int) {i:Nat}:∀ {k:Nat},i<k→(zD f k)[i]? = some (.int .i64 (f i))
 | k+1,h=>by
  have hl:=yT f k;rw [zD];by_cases e:i=k
  ·subst e;rw [List.getElem?_append_right (by omega),hl];simp
  ·rw [List.getElem?_append_left (by omega)];exact yd f (by omega)
def MV (w0:World) (B:Nat) (n:Int) (vo vu:Value) (w:World):Prop:=
 w.cell? ⟨B+1,0,none⟩=some (.int .i64 n)∧w.cell? ⟨B+1,1,none⟩=some vo∧w.cell? ⟨B+1,2,none⟩=some vu ∧
 w.frozen? ⟨B+1,0,none⟩=false∧w.frozen? ⟨B+1,1,none⟩=false∧w.frozen? ⟨B+1,2,none⟩=false ∧
 w.cell? ⟨B,0,none⟩=some (.int .i64 0)∧w.cell? ⟨B,1,none⟩=some (.slice none 0 0)∧w.cell? ⟨B,2,none⟩=some (.slice none 0 0) ∧
 w.frozen? ⟨B,0,none⟩=false∧w.frozen? ⟨B,1,none⟩=false∧w.frozen? ⟨B,2,none⟩=false∧B+1<w.heap.size∧w0.heap.size=B∧Below B w0 w
theorem MV.step {w0:World} {B:Nat} {n:Int} {vo vu:Value} {w w':World} (h:MV w0 B n vo vu w) (hb:Below (B+2) w w'):MV w0 B n vo vu w':=by
 obtain ⟨h1,h2,h3,h4,h5,h6,h7,h8,h9,h10,h11,h12,h13,h14,h15⟩:=h;have hc:∀ b o,b<B+2→w'.cell? ⟨b,o,none⟩=w.cell? ⟨b,o,none⟩:=fun b o h=>hb.cell (p:=⟨b,o,none⟩) h
 have hf:∀ b o,b<B+2→w'.frozen? ⟨b,o,none⟩=w.frozen? ⟨b,o,none⟩:=fun b o h=>hb.frozen (p:=⟨b,o,none⟩) h
 have:=hb.size
 exact ⟨by rw [hc _ _ (by omega)]; exact h1,by rw [hc _ _ (by omega)]; exact h2,by rw [hc _ _ (by omega)]; exact h3,by rw [hf _ _ (by omega)]; exact h4,by rw [hf _ _ (by omega)]; exact h5,by rw [hf _ _ (by omega)]; exact h6,
  by rw [hc _ _ (by omega)]; exact h7,by rw [hc _ _ (by omega)]; exact h8,by rw [hc _ _ (by omega)]; exact h9,by rw [hf _ _ (by omega)]; exact h10,by rw [hf _ _ (by omega)]; exact h11,by rw [hf _ _ (by omega)]; exact h12,by omega,h14,h15.trans (hb.mono (by omega))⟩
theorem yn {w w':World} {base:Nat} {e:TypeId} {size n:Nat} {v:Value} {xs:List Value} (h:w.ownsRow base e size v n xs) (hb:Below w.heap.size w w'):w'.ownsRow base e size v n xs:=by
 refine h.kept (row:=none) ⟨hb.os,hb.tape,hb.output,hb.size,fun k hk _=>hb.block k hk⟩ ?_;cases v.ownBlock<;>simp
end Go.Proofs.Ytfcjfijmdikcmaa
namespace Go.Proofs.Ytfcjfijmdikcmaa
open Go.RowKit Lib
open Ieee (double)
attribute [local go_sem] zh zf zI zA zJ zK zL zM zn zp zq zr zt zX
def wG (c:Nat) (w:World) (e:Ending) (w':World):Prop:=∃ x n,e=.returned (.float .f64 x)∧zu x=c∧x<18446744073709551616∧w'=w.drewN n
theorem wG.of {op:BinOp} {w w1:World} {a b n:Nat}:wG (cop op a b) w (.returned (.float .f64 (yr op w1 a b))) (w.drewN n):=⟨_,_,rfl,xj _ _ _ _,wM _ _ _ _,rfl⟩
def xQ (w:World) (v:Value) (len:Nat) (f:Nat→Nat):Prop:=
 ∃ a cap,v=.slice a len cap∧len≤9223372036854775807∧(0<len→∃ b off,a=some ⟨b,off,none⟩∧b<w.heap.size∧∀ i,i<len→∃ y,w.cell? ⟨b,off+i,none⟩=some (.float .f64 y)∧zu y=f i∧y<18446744073709551616)
theorem xQ.below {w w':World} {v:Value} {len:Nat} {f:Nat→Nat} (h:xQ w v len f) (hb:Below w.heap.size w w'):xQ w' v len f:=by
 obtain ⟨a,cap,h1,h2,h3⟩:=h;refine ⟨a,cap,h1,h2,fun hl=>?_⟩;obtain ⟨b,off,e,hs,hc⟩:=h3 hl;obtain ⟨hk,-⟩:=yB hb;refine ⟨b,off,e,Nat.lt_of_lt_of_le hs hb.size,fun i hi=>?_⟩;obtain ⟨y,c1,c2,c3⟩:=hc i hi;exact ⟨y,by rw [hk _ _ hs]; exact c1,c2,c3⟩
theorem yX (P:Program) (w:World) (a:Addr) (m:Mode) (f:Fn):(store a (.func f #[] #[]) m).run P w=stored P w a (.func f #[] #[]) m:=run_store P w a _ m rfl
attribute [local go_sem] yX
def EvS (w0:World) (B:Nat) (n:Int) (vo vu:Value) (w':World):Prop:=w'.cell? ⟨B,0,none⟩=some (.int .i64 n)∧w'.cell? ⟨B,1,none⟩=some vo∧w'.cell? ⟨B,2,none⟩=some vu∧B<w'.heap.size∧Below B w0 w'
theorem EvS.below {w0:World} {B:Nat} {n:Int} {vo vu:Value} {w w':World} (h:EvS w0 B n vo vu w) (hb:Below w.heap.size w w'):EvS w0 B n vo vu w':=by
 obtain ⟨h1,h2,h3,h4,h5⟩:=h;obtain ⟨hc,-⟩:=yB hb;have:=hb.size;exact ⟨by rw [hc _ _ h4]; exact h1,by rw [hc _ _ h4]; exact h2,by rw [hc _ _ h4]; exact h3,by omega,h5.trans (hb.mono (by omega))⟩
end Go.Proofs.Ytfcjfijmdikcmaa
namespace Go.Proofs.Ytfcjfijmdikcmaa
open Go.RowKit Lib
open Ieee (double)
def yg (qs:List Value) (n:Nat) (f:Nat→Nat):Prop:=∀ j,j<n→∃ y,qs[j]? = some (.float .f64 y)∧zu y=f j∧y<18446744073709551616
theorem yg.app {qs:List Value} {n y:Nat} {f:Nat→Nat} (h:yg qs n f) (hl:qs.length=n) (h1:zu y=f n) (h2:y<18446744073709551616):yg (qs ++ [.float .f64 y]) (n+1) f:=fun j hj=>by
 by_cases e:j=n
 ·subst e;exact ⟨y,by rw [List.getElem?_append_right (by omega),hl]; simp,h1,h2⟩
 ·rw [List.getElem?_append_left (by omega)];exact h j (by omega)
theorem yg.nil (f:Nat→Nat) (qs:List Value):yg qs 0 f:=fun j hj=>by omega
theorem yg.own {w:World} {base n:Nat} {v:Value} {qs:List Value} {f:Nat→Nat} (h:yg qs n f) (ho:w.ownsRow base 38 1 v n qs) (h0:0<n):∃ R cap,v=.slice (some ⟨R,0,none⟩) n cap∧zB w base R n cap f:=by
 rcases id ho.2 with ⟨rfl,rfl⟩ | ⟨g,cap,cur,rfl,-⟩
 ·omega
 ·exact ⟨g,cap,rfl,qs,ho,h⟩
def yM (qs:List Value) (n:Nat) (f:Nat→Int):Prop:=∀ j,j<n→qs[j]? = some (.int .i64 (f j))
theorem yM.app {qs:List Value} {n:Nat} {f:Nat→Int} (h:yM qs n f) (hl:qs.length=n) {y:Int} (h1:y=f n):yM (qs ++ [.int .i64 y]) (n+1) f:=fun j hj=>by
 by_cases e:j=n
 ·subst e; rw [List.getElem?_append_right (by omega),hl]; simp [h1]
 ·rw [List.getElem?_append_left (by omega)]; exact h j (by omega)
theorem yM.nil (f:Nat→Int) (qs:List Value):yM qs 0 f:=fun j hj=>by omega
theorem yM.own {w:World} {base n:Nat} {v:Value} {qs:List Value} {f:Nat→Int} (h:yM qs n f) (ho:w.ownsRow base 3 1 v n qs) (h0:0<n):∃ R cap,v=.slice (some ⟨R,0,none⟩) n cap∧zm w base R n cap f:=by
 rcases id ho.2 with ⟨rfl,rfl⟩ | ⟨g,cap,cur,rfl,-⟩
 ·omega
 ·exact ⟨g,cap,rfl,qs,ho,h⟩
theorem z8 {w:World} {base n size:Nat} {E:TypeId} {v:Value} {qs:List Value} (h:w.ownsRow base E size v n qs):∃ a cap,v=.slice a n cap:=by
 rcases id h.2 with ⟨rfl,rfl⟩ | ⟨g,cap,cur,rfl,-⟩
 ·exact ⟨_,_,rfl⟩
 ·exact ⟨_,_,rfl⟩
theorem xR {w w':World} {base n size:Nat} {E:TypeId} {v:Value} {qs:List Value} (h:w.ownsRow base E size v n qs) (hb:∀ k,v.ownBlock=some k→w'.heap[k]? = w.heap[k]?):w'.ownsRow base E size v n qs:=by
 obtain ⟨h1,h2⟩:=h;refine ⟨h1,?_⟩;rcases h2 with h2 | ⟨g,c,cur,rfl,hg,hh,r⟩
 ·exact .inl h2
 ·exact .inr ⟨g,c,cur,rfl,hg,(hb g rfl).trans hh,r⟩
structure yE (w:World) (base:Nat) (va:Value) (j m:Nat) (blk cap:Nat→Nat) (f:Nat→Nat→Nat):Prop where
 own:∃ rs,w.ownsRow base 32 1 va j rs∧∀ i,i<j→rs[i]? = some (.slice (some ⟨blk i,0,none⟩) m (cap i))
 row:∀ i,i<j→zB w base (blk i) m (cap i) (f i)
 inj:∀ i k,i<j→k<j→blk i=blk k→i=k
 off:∀ i,i<j→va.ownBlock≠some (blk i)
theorem yE.below {w w':World} {base j m:Nat} {va:Value} {blk cap:Nat→Nat} {f:Nat→Nat→Nat} (h:yE w base va j m blk cap f) (hb:Below w.heap.size w w'):yE w' base va j m blk cap f:=by
 obtain ⟨⟨rs,h1,h2⟩,h3,h4,h5⟩:=h;exact ⟨⟨rs,xR h1 (fun k hk=>hb.block k (h1.lt k hk).2),h2⟩,fun i hi=>(h3 i hi).below hb (h3 i hi).lt.2,h4,h5⟩
theorem yE.lt {w:World} {base j m:Nat} {va:Value} {blk cap:Nat→Nat} {f:Nat→Nat→Nat} (h:yE w base va j m blk cap f):(∀ k,va.ownBlock=some k→k<w.heap.size)∧∀ i,i<j→blk i<w.heap.size:=by
 obtain ⟨⟨rs,h1,-⟩,h3,-⟩:=h;exact ⟨fun k hk=>(h1.lt k hk).2,fun i hi=>(h3 i hi).lt.2⟩
theorem yE.app {w w1 w2:World} {base j m R c:Nat} {va v':Value} {blk cap:Nat→Nat} {f:Nat→Nat→Nat} {rs:List Value} (h:yE w base va j m blk cap f) (hrs:w.ownsRow base 32 1 va j rs) (hro:zB w base R m c (f j)) (hR1:va.ownBlock≠some R) (hR2:∀ i,i<j→blk i≠R)
  (h1:Below w.heap.size w w1) (hg:w1.grownBy w2 va.ownBlock) (ho:w2.ownsRow base 32 1 v' (j+1) (rs ++ [.slice (some ⟨R,0,none⟩) m c])) (hv:∀ k,v'.ownBlock=some k→va.ownBlock=some k∨w.heap.size≤k) :
  yE w2 base v' (j+1) m (yQ blk j R) (yQ cap j c) f:=by
 have hrl:=hrs.1;obtain ⟨⟨rs0,g1,g2⟩,h3,h4,h5⟩:=h;have hsz:=h1.size;have kb:∀ b,b<w.heap.size→va.ownBlock≠some b→w2.heap[b]? = w.heap[b]?:=fun b hb hne=>(hg.block b (by omega) (fun e=>hne e.symm)).trans (h1.block b hb)
 have hget:∀ i,i<j→rs[i]? = some (.slice (some ⟨blk i,0,none⟩) m (cap i)):=fun i hi=>by
  rcases id g1.2 with ⟨rfl,rfl⟩ | ⟨g,cp,cur,rfl,-⟩
  ·omega
  ·have e1:=g1.cellAt i (by omega);have e2:=hrs.cellAt i (by omega);rw [← e2,e1]; exact g2 i hi
 refine ⟨⟨_,ho,fun i hi=>?_⟩,fun i hi=>?_,fun i k hi hk=>?_,fun i hi=>?_⟩
 ·by_cases e:i=j
  ·subst e; rw [List.getElem?_append_right (by omega),hrl,zG,zG]; simp
  ·rw [List.getElem?_append_left (by omega),zv _ _ e,zv _ _ e]; exact hget i (by omega)
 ·by_cases e:i=j
  ·subst e; rw [zG,zG]; exact hro.kept (kb R hro.lt.2 hR1)
  ·rw [zv _ _ e,zv _ _ e]; exact (h3 i (by omega)).kept (kb _ (h3 i (by omega)).lt.2 (h5 i (by omega)))
 ·by_cases e1:i=j
  ·subst e1;by_cases e2:k=i
   ·exact fun _=>e2.symm
   ·rw [zG,zv _ _ e2]; exact fun q=>absurd q.symm (hR2 k (by omega))
  ·by_cases e2:k=j
   ·subst e2; rw [zG,zv _ _ e1]; exact fun q=>absurd q (hR2 i (by omega))
   ·rw [zv _ _ e1,zv _ _ e2]; exact h4 i k (by omega) (by omega)
 ·intro q;by_cases e:i=j
  ·subst e;rw [zG] at q;rcases hv _ q with q2 | q2
   ·exact hR1 q2
   ·have:=hro.lt.2; omega
  ·rw [zv _ _ e] at q;rcases hv _ q with q2 | q2
   ·exact h5 i (by omega) q2
   ·have:=(h3 i (by omega)).lt.2; omega
end Go.Proofs.Ytfcjfijmdikcmaa
