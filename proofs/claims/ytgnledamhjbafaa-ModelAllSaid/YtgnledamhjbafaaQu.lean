/-
  Contracts (what a function tells) and plain facts that a law's proof hangs on, for every input; no condition but those in their statements. Laid together of the texts Rgt.
-/
import Derived.Test.YtgnledamhjbafaaQt
namespace Go.Proofs.Ytgnledamhjbafaa
open Go Lib
inductive OT where
 | nil
 | stop
 | op (i k:Nat) (t:OT)
 | alt (i:Nat) (t more:OT)
def OT.heads:OT→List Nat
 | .alt i _ more=>i :: more.heads
 | _=>[]
def OT.deep:OT→Nat
 | .nil=>0
 | .stop=>0
 | .op _ _ t=>t.deep+1
 | .alt _ t more=>max (t.deep+1) more.deep
section
variable {P : Program} {ops : Array Oper} {Q : Exit → Act → World → Prop} {md : Region.Mode} {R : World → Prop} {D T3 : List Nat}
def rS (md:Region.Mode) (ops:Array Oper) (D T3:List Nat):OT→Array Bool→Bool→Bool
 | .nil,listed,hd=>hd&&(Region.ready md ops listed).isEmpty
 | .stop,_,hd=>!hd
 | .op i k t,listed,hd=>(hd&&((Region.ready md ops listed).contains i&&Region.free md ops listed i))&&((!D.contains i&&(k==1 || (k==3&&T3.contains i)))&&rS md ops D T3 t (listed.setIfInBounds i true) true)
 | .alt i t more,listed,hd=>((!hd || (Region.ready md ops listed).all fun j=>(i :: more.heads).contains j)&&(!hd || !(Region.ready md ops listed).isEmpty))&&((D.contains i&&rS md ops D T3 t (listed.setIfInBounds i true) true)&&rS md ops D T3 more listed false)
def rQ (P:Program) (md:Region.Mode) (ops:Array Oper) (Q:Exit→Act→World→Prop) (R:World→Prop) (T3:List Nat):OT→Act→World→Prop
 | .nil,a,w=>Q .normal a w
 | .stop,_,_=>True
 | .op i k t,a,w=>if k=1 then zU P ops i (fun a'=>rQ P md ops Q R T3 t a' w) a else tB P ops R i (fun a'=>rQ P md ops Q R T3 t a' w) a
 | .alt i t more,a,w=>wpOp P ops Q i (fun a' w'=>(yJ md ops T3 i=true→R w')∧rQ P md ops Q R T3 t a' w') a w∧rQ P md ops Q R T3 more a w
theorem rT {listed:Array Bool} {a:Act} {w:World} {j:Nat}:∀ {t:OT} {hd:Bool},j ∈ t.heads→rS md ops D T3 t listed hd=true→rQ P md ops Q R T3 t a w →
  ∃ s,s.deep+1≤t.deep∧D.contains j=true∧rS md ops D T3 s (listed.setIfInBounds j true) true=true∧wpOp P ops Q j (fun a' w'=>(yJ md ops T3 j=true→R w')∧rQ P md ops Q R T3 s a' w') a w
 | .nil,_,h,_,_=>by cases h
 | .stop,_,h,_,_=>by cases h
 | .op _ _ _,_,h,_,_=>by cases h
 | .alt i t more,hd,h,hB,hw=>by
  simp only [rS,Bool.and_eq_true] at hB;obtain ⟨-,⟨h2,h3⟩,h4⟩:=hB;obtain ⟨w1,w2⟩:=hw;rcases List.mem_cons.1 h with rfl | h
  ·exact ⟨t,by simp only [OT.deep]; omega,h2,h3,w1⟩
  ·obtain ⟨s,s1,s2,s3,s4⟩:=rT h h4 w2;exact ⟨s,by simp only [OT.deep]; omega,s2,s3,s4⟩
theorem rR (hs:Region.noSelect ops=true) (hQ:∀ c a d v w,Q (.panic c) (a.put d v) w→Q (.panic c) a w):∀ (n:Nat) (t:OT) (listed:Array Bool) (a:Act) (w:World),t.deep≤n→(xu T3 listed=true→R w)→rS md ops D T3 t listed true=true→rQ P md ops Q R T3 t a w→xA P md ops Q (fun _=>True) R D [] T3 n listed a w
 | 0,.nil,listed,a,w,_,_,hB,h=>⟨by simpa [rS] using hB,h⟩
 | n+1,.nil,listed,a,w,_,_,hB,h=>by
  have e:Region.ready md ops listed=[]:=by simpa [rS] using hB
  exact ⟨fun _=>h,fun i hi=>by rw [e] at hi; cases hi⟩
 | _,.stop,_,_,_,_,_,hB,_=>by simp [rS] at hB
 | 0,.op i k t,_,_,_,hd,_,_,_=>by simp only [OT.deep] at hd; omega
 | 0,.alt i t more,_,_,_,hd,_,_,_=>by simp only [OT.deep] at hd; omega
 | n+1,.op i k t,listed,a,w,hd,hP,hB,h=>by
  simp only [OT.deep] at hd;simp only [rS,Bool.and_eq_true,Bool.not_eq_true',Bool.or_eq_true,beq_iff_eq] at hB;obtain ⟨⟨-,h1,h2⟩,⟨h3,hk⟩,h4⟩:=hB;unfold rQ at h;split at h
  ·obtain ⟨o,v,ho,hy,hr⟩:=xv h;exact yn h3 (.inl fun _=>trivial) ho (Region.noSelect_spec hs) (fun c a w=>hQ c a _ _ w) n listed a w (Region.free_spec ho h2) (by simpa using h1) hy (fun _=>trivial) hP (rR hs hQ n t _ _ _ (by omega) (yh hP) h4 hr)
  ·rename_i h1k
   obtain ⟨o,v,ho,hy,hr⟩:=h;rcases hk with hk | ⟨-,h5⟩
   ·exact absurd hk h1k
   ·exact yn h3 (.inr (.inr ⟨rfl,by simpa using h5⟩)) ho (Region.noSelect_spec hs) (fun c a w=>hQ c a _ _ w) n listed a w (Region.free_spec ho h2) (by simpa using h1) hy (fun _=>trivial) hP (rR hs hQ n t _ _ _ (by omega) (yh hP) h4 hr)
 | n+1,.alt i t more,listed,a,w,hd,hP,hB,h=>by
  have hB0:=hB;simp only [rS,Bool.and_eq_true,Bool.not_true,Bool.false_or,List.all_eq_true] at hB;obtain ⟨⟨h1,h0⟩,-⟩:=hB;refine ⟨fun e=>(by rw [e] at h0; cases h0),fun j hj=>?_⟩
  have hjh:j ∈ (OT.alt i t more).heads:=by
   have:=h1 j hj;exact List.contains_iff_mem.1 this
  obtain ⟨s,s1,s2,s3,s4⟩:=rT hjh hB0 h;refine wpOp_mono (fun a' w' k=>⟨by unfold wK; rw [if_pos s2]; exact ⟨fun _=>trivial,k.1⟩,rR hs hQ n s _ a' w' (by omega) (fun hp=>?_) s3 k.2⟩) s4;obtain ⟨x,hx,-,hu⟩:=yY hp;exact k.1 (ww hj hx hu)
theorem rU (t:OT) (D T3:List Nat) (R:World→Prop) {id:Nat} {a:Act} {w:World} (hm:P.follows .mixedOrders=true)
  (hB:(Region.noSelect ops&&decide (t.deep≤ops.size)&&rS .any ops D T3 t (Array.replicate ops.size false) true)=true) (hQ:∀ c a d v w,Q (.panic c) (a.put d v) w→Q (.panic c) a w)
  (hR:R w.drew) (h:∀ W,W=w.drew→R W→rQ P .any ops Q R T3 t a W):(Code.region id ops true).wp P Q a w:=by
 simp only [Bool.and_eq_true,decide_eq_true_eq] at hB;obtain ⟨⟨h1,h2⟩,h3⟩:=hB;exact wp_region_any hm (xB (S:=fun _=>True) (R:=R) (D:=D) (T:=[]) (T3:=T3) _ _ _ _ (rR h1 hQ _ t _ _ _ h2 (fun _=>hR) h3 (h _ rfl hR)))
theorem rV {i:Nat} {t:OT} {a:Act} {w:World} (h:∀ K:Act→Prop,(∀ a',rQ P md ops Q R T3 t a' w→K a')→zU P ops i K a):rQ P md ops Q R T3 (.op i 1 t) a w:=by
 unfold rQ;rw [if_pos rfl];exact h _ (fun _ k=>k)
theorem rW {i:Nat} {t:OT} {a:Act} {w:World} {o:Oper} {v:Value} (ho:ops[i]? = some o) (hw:Region.wanted o (yielded ops a.tmps)=true) (hy:∀ w,R w→(execOp a.eval o).run P w=.ok (.value v) w) (h:rQ P md ops Q R T3 t (a.put o.dst v) w):rQ P md ops Q R T3 (.op i 3 t) a w:=by
 unfold rQ;rw [if_neg (by decide)];exact ⟨o,v,ho,.inl ⟨hw,hy⟩,h⟩
theorem rY {i:Nat} {t more:OT} {a:Act} {w:World} (h:∀ K:Act→World→Prop,(∀ a' w',(yJ md ops T3 i=true→R w')→rQ P md ops Q R T3 t a' w'→K a' w')→xq P ops Q i K a w) (h2:rQ P md ops Q R T3 more a w):rQ P md ops Q R T3 (.alt i t more) a w:=by
 refine ⟨?_,h2⟩;have k:=h (fun a' w'=>(yJ md ops T3 i=true→R w')∧rQ P md ops Q R T3 t a' w') (fun a' w' k1 k2=>⟨k1,k2⟩);show wpOp P ops Q i _ a w;unfold wpOp;unfold xq at k;split
 ·rename_i e; rw [e] at k; cases k
 ·rename_i o e
  rw [e] at k;simp only [] at k;split
  ·rename_i hw; rw [if_pos hw] at k; exact .inl k
  ·rename_i hw; rw [if_neg hw] at k; exact k
theorem rX {a:Act} {w:World}:rQ P md ops Q R T3 .stop a w:=trivial
theorem rZ {a:Act} {w:World} (h:Q .normal a w):rQ P md ops Q R T3 .nil a w:=h
end
end Go.Proofs.Ytgnledamhjbafaa
