/-
  Contracts (what a function tells) and plain facts that a law's proof hangs on, for every input; no condition but those in their statements. Laid together of the texts Cfd, Tpn, Rgi, Cfe.
-/
import Derived.Test.YtfcjfijmdikcmaaKc
import Derived.Deep.AppendLies
import Derived.Deep.RegionLaw
import Derived.Laws.Rows
namespace Go.Proofs.Ytfcjfijmdikcmaa
open Go.RowKit Lib
open Ieee (double)
attribute [local go_sem] zh zf zF zz zl yb
def sgF:Nat→Int
 | 0=>1
 | e+1=>-sgF e
theorem wI:∀ e,sgF e=1∨sgF e=-1
 | 0=>.inl rfl
 | e+1=>by
  rcases wI e with h | h
  ·exact .inr (by show -sgF e=-1; rw [h])
  ·exact .inl (by show -sgF e=1; rw [h]; rfl)
def aLF (q e:Nat):Int:=pwF (q-1) e*(pwF q 0).tdiv ((e:Int)+1)
def aSF (q:Nat):Nat→Int
 | 0=>0
 | e+1=>aSF q e+sgF e*aLF q e
def aMF (q e j:Nat):Int:=if j=0 then aSF q e else if j≤e then aLF q (j-1) else 0
def wm (q:Nat):Int:=pwF q 0*pwF (q-1) 0
theorem wh:∀ (q:Fin 6) (e:Fin 6),(-100000000≤aLF q.val e.val∧aLF q.val e.val≤100000000)∧(-100000000≤aSF q.val e.val∧aSF q.val e.val≤100000000)∧(-100000000≤(pwF q.val 0).tdiv ((e.val:Int)+1)∧(pwF q.val 0).tdiv ((e.val:Int)+1)≤100000000)∧-100000000≤wm q.val∧wm q.val≤100000000∧(-100000000≤sgF e.val*aLF q.val e.val∧sgF e.val*aLF q.val e.val≤100000000):=by decide +kernel
set_option maxRecDepth 100000
set_option maxHeartbeats 16000000
theorem wo (q:Nat) (h1:1≤q) (h5:q≤5) (w:World) :
  Calls Try.prog 13 #[.int .i64 q] w fun e w'=>∃ R,e=.returned (.tuple #[.slice (some ⟨R,0,none⟩) (q+1) (q+1),.int .i64 (wm q)])∧zm w' w.heap.size R (q+1) (q+1) (aMF q q)∧Below w.heap.size w w':=by
 obtain ⟨iI,hI,g1,g2,g3⟩:=info_parts xM;have HI:=hid (show iI.zero=_∧iI.size=_∧iI.bytes=_ from ⟨g1,g2,g3⟩);have HI0:=hid hI;clear hI g1 g2 g3;have PA:=hid (fun W=>wb (q-1) (by omega) W);have PB:=hid (fun W=>wb q h5 W);rw [show q-1+1=q by omega] at PA;have k0:IntKind.i64.wrap ((q:Int)-1)=((q-1:Nat):Int):=by rw [show ((q-1:Nat):Int)=(q:Int)-1 by omega]; exact IntWalk.i64_in _ (by omega)
 have k1:IntKind.i64.wrap ((q:Int)+1)=((q+1:Nat):Int):=IntWalk.i64_in _ (by omega);go_enter Try.func13,Try.ntmps13;generalize hB:w.heap.size=B at *;go_wp2_with fail;refine (PA.out w).mono ?_;rintro e w1 ⟨R,rfl,ho,hb⟩;rw [hB] at ho hb;have HS1:=hid ho;have HB1:=hid hb;clear ho hb;go_wp2_with fail;refine (PB.out w1).mono ?_;rintro e w2 ⟨R2,rfl,ho2,hb2⟩;have u0:=ho2.cell (j:=0) (by omega);have HS2:=hid (HS1.out.below hb2 HS1.out.lt.2);have HB2:=hid (HB1.out.trans (hb2.mono (hB ▸ HB1.out.size)));clear ho2 hb2 HS1
 go_wp2_with (first
  | (refine wpList_make_full _ rfl _ _ _ rfl w2.heap.size 3 iI (.int .i64 0) 1 Try.underlying24 HI0.out HI.out.1 HI.out.2.1 .i64 .i64 ((q+1:Nat):Int) ((q+1:Nat):Int) (q+1) rfl rfl rfl rfl (by rw [HI.out.2.2]; omega) (by unfold maxLen; omega) (by omega) ?_)
  | fail)
 intro W1 hr1 hg1;have hb1:Below w2.heap.size w2 W1:=(Below.refl _ _).grown hg1 (by omega) (fun k hk=>by cases hk);have hq1:=xE hr1;have HS3:=hid (HS2.out.below hb1 HS2.out.lt.2);have hRlt:=HS2.out.lt;have HB3:=hid (HB2.out.trans (hb1.mono (hB ▸ HB2.out.size)))
 have HQ:=hid (hq1.congr (g:=aMF q 0) (fun j hj=>by
  unfold aMF;split
  ·rfl
  ·rw [if_neg (by omega)]))
 have hBQ:B≤w2.heap.size:=by have:=HB2.out.size; omega
 have hQlt:=hq1.lt.2;clear hr1 hg1 hb1 hq1 k0 k1 u0 HS2 HB1;generalize w2.heap.size=Q at *;go_wp2_with fail
 go_loopw [7,21] (fun s i wr=>∃ e:Nat,e≤q∧i=.int .i64 e∧s=.int .i64 (sgF e)∧zm wr Q Q (q+1) (q+1) (aMF q e)∧zN W1 Q wr) (fun _ i _=>q-(intOf i).toNat)
 case atStart=>exact ⟨0,by omega,rfl,rfl,HQ.out,zN.refl _ _⟩
 case round=>
  clear HQ;obtain ⟨e,he,rfl,rfl,ho,hk⟩:=hrel;have HO:=hid ho;have HK:=hid hk;have HS:=hid (HS3.out.kept (hk.block R (by omega) (by omega)));clear ho hk;by_cases heq:e<q
  ·have j1:(e:Int)<(q:Int):=by omega
   have j2:(e:Int)+1<(q:Int)+1:=by omega
   have j3:0≤(e:Int)+1:=by omega
   have j4:¬ (e:Int)+1=0:=by omega
   have k1:IntKind.i64.wrap ((e:Int)+1)=((e+1:Nat):Int):=IntWalk.i64_in _ (by omega);have u1:=HS.out.cell heq;have f1:=HO.out.free (e+1);have u4:=HO.out.cell (j:=e+1) (by omega);have hb:=wh ⟨q,by omega⟩ ⟨e,by omega⟩;simp only [] at hb;obtain ⟨b1,b2,b3,-,-,b4⟩:=hb;have hsg:=wI e;have k2:IntKind.i64.wrap ((pwF q 0).tdiv ((e:Int)+1))=(pwF q 0).tdiv ((e:Int)+1):=IntWalk.i64_in _ (by omega);have k3:IntKind.i64.wrap (pwF (q-1) e*(pwF q 0).tdiv ((e:Int)+1))=aLF q e:=by show IntKind.i64.wrap (aLF q e)=_; exact IntWalk.i64_in _ (by omega)
   have k4:IntKind.i64.wrap (sgF e*aLF q e)=sgF e*aLF q e:=IntWalk.i64_in _ (by omega);have k5:IntKind.i64.wrap (aSF q e+sgF e*aLF q e)=aSF q (e+1):=by show IntKind.i64.wrap (aSF q (e+1))=_; exact IntWalk.i64_in _ (by have hb:=(wh ⟨q,by omega⟩ ⟨e+1,by omega⟩).2.1; simp only [] at hb; omega)
   have k6:IntKind.i64.wrap (-sgF e)=sgF (e+1):=by show IntKind.i64.wrap (-sgF e)=-sgF e; exact IntWalk.i64_in _ (by omega)
   have K:=hid (show _∧_∧_ from ⟨k4,k5,k6⟩);clear k4 k5 k6 b1 b2 b3 b4 hsg;go_upto_region 8 with fail
   refine zE [(0,1),(1,1),(2,1),(3,1),(4,1),(5,1),(6,2),(7,1),(8,1),(9,1),(10,1),(11,1),(12,1),(13,0)] (by kernel_rfl) (by kernel_rfl) (fun _ _ d _ _ h=>by cases d<;>exact h) ?_;intro Z hZ;have hZZ:∀ b o,Z.cell? ⟨b,o,none⟩=wr.cell? ⟨b,o,none⟩:=fun b o=>by rw [hZ]; rfl
   have hzf:∀ b o,Z.frozen? ⟨b,o,none⟩=wr.frozen? ⟨b,o,none⟩:=fun b o=>by rw [hZ]; rfl
   have HZ:=hid (show zm Z Q Q (q+1) (q+1) (aMF q e)∧zN W1 Q Z by rw [hZ]; exact ⟨HO.out.drew,HK.out.drew⟩);rw [← hZZ] at u1 u4;rw [← hzf] at f1;clear hZ hZZ hzf HO HK HS
   iterate 13
    first
     | refine zj (fun K hK=>?_)
     | refine zk (fun K hK=>?_)
    go_simp;refine hK _ ?_;clear hK K
   refine yx (fun K hK=>?_);go_simp;refine hK _ _ (fun h=>Bool.noConfusion (Eq.trans (Eq.symm (by kernel_rfl:_=false)) h)) ?_;clear hK K;have HY:=hid (show zm (Z.setCell ⟨Q,e+1,none⟩ (.int .i64 (aLF q e))) Q Q (q+1) (q+1) (yQ (aMF q e) (e+1) (aLF q e))∧zN W1 Q (Z.setCell ⟨Q,e+1,none⟩ (.int .i64 (aLF q e))) from ⟨HZ.out.1.set (by omega) _,HZ.out.2.set _ _⟩);refine zQ ?_;generalize Z.setCell ⟨Q,e+1,none⟩ (.int .i64 (aLF q e))=Y at *;clear u1 u4 f1 HZ k2 k3;have u2:=HY.out.1.cell (j:=e+1) (by omega);have u3:=HY.out.1.cell (j:=0) (by omega);have f3:=HY.out.1.free 0;rw [zG] at u2;rw [zv _ _ (by omega),show aMF q e 0=aSF q e from if_pos rfl] at u3;obtain ⟨k4,k5,k6⟩:=K.out;have j5:(0:Int)<(q:Int)+1:=by omega
   clear k6;go_upto_region 9 with fail
   refine zE [(0,1),(1,1),(2,2),(3,1),(4,1),(5,1),(6,1),(7,1),(8,2),(9,1),(10,1),(11,1),(12,0)] (by kernel_rfl) (by kernel_rfl) (fun _ _ d _ _ h=>by cases d<;>exact h) ?_;intro Z hZ;have hZZ:∀ b o,Z.cell? ⟨b,o,none⟩=Y.cell? ⟨b,o,none⟩:=fun b o=>by rw [hZ]; rfl
   have hzf:∀ b o,Z.frozen? ⟨b,o,none⟩=Y.frozen? ⟨b,o,none⟩:=fun b o=>by rw [hZ]; rfl
   have HZ:=hid (show zm Z Q Q (q+1) (q+1) _∧zN W1 Q Z by rw [hZ]; exact ⟨HY.out.1.drew,HY.out.2.drew⟩);rw [← hZZ] at u2 u3;rw [← hzf] at f3;clear hZ hZZ hzf HY
   iterate 12
    first
     | refine zj (fun K hK=>?_)
     | refine zk (fun K hK=>?_)
    go_simp;refine hK _ ?_;clear hK K
   refine yx (fun K hK=>?_);go_simp;refine hK _ _ (fun h=>Bool.noConfusion (Eq.trans (Eq.symm (by kernel_rfl:_=false)) h)) ?_;clear hK K
   have HX:=hid (show zm (Z.setCell ⟨Q,0,none⟩ (.int .i64 (aSF q (e+1)))) Q Q (q+1) (q+1) (aMF q (e+1))∧zN W1 Q (Z.setCell ⟨Q,0,none⟩ (.int .i64 (aSF q (e+1)))) from ⟨(HZ.out.1.set (by omega) _).congr (fun i hi=>by
    unfold aMF;by_cases h:i=0
    ·subst h; rw [zG,if_pos rfl]
    ·rw [zv _ _ h,if_neg h];by_cases h2:i=e+1
     ·subst h2;rw [zG,if_pos (by omega)];rfl
     ·rw [zv _ _ h2,if_neg h];by_cases h3:i≤e
      ·rw [if_pos h3,if_pos (by omega)]
      ·rw [if_neg h3,if_neg (by omega)]),HZ.out.2.set _ _⟩)
   refine zQ ?_;generalize Z.setCell ⟨Q,0,none⟩ (.int .i64 (aSF q (e+1)))=X at *;clear u2 u3 f3 HZ k4 k5;have k6:=K.out.2.2;go_wp2_with fail
   go_roundw
   case rel=>exact ⟨e+1,by omega,by go_num,rfl,HX.out⟩
   case measure=>simp [intOf]; omega
  ·obtain rfl:e=q:=by omega
   have u1:=HS.out.cell (j:=0) (by omega);have hb:=(wh ⟨e,by omega⟩ ⟨0,by omega⟩).2.2.2.1;simp only [] at hb;have k2:IntKind.i64.wrap (pwF e 0*pwF (e-1) 0)=wm e:=by show IntKind.i64.wrap (wm e)=_; exact IntWalk.i64_in _ (by have:=(wh ⟨e,by omega⟩ ⟨0,by omega⟩).2.2.2.2.1; simp only [] at this; omega)
   have j5:(0:Int)<(e:Int):=by omega
   have j6:0<e:=by omega
   clear hb;go_wp2_with fail;refine zE [(0,1),(1,1),(2,1),(3,1),(4,2),(5,1),(6,1),(7,1)] (by kernel_rfl) (by kernel_rfl) (fun _ _ d _ _ h=>by cases d<;>exact h) ?_;intro Z hZ;have hZZ:∀ b o,Z.cell? ⟨b,o,none⟩=wr.cell? ⟨b,o,none⟩:=fun b o=>by rw [hZ]; rfl
   have HZ:=hid (show zm Z B Q (e+1) (e+1) (aMF e e)∧Below B w Z by
    rw [hZ];exact ⟨HO.out.drew.base (by omega),(HK.out.below HB3.out (show B≤Q by omega) (by omega)).drew⟩)
   rw [← hZZ] at u1;clear hZ hZZ HO HK HS
   iterate 8
    first
     | refine zj (fun K hK=>?_)
     | refine zk (fun K hK=>?_)
    go_simp;refine hK _ ?_;clear hK K
   refine zQ ?_;go_wp2_with fail;exact bodyPost_ret (v:=.tuple #[.slice (some ⟨Q,0,none⟩) (e+1) (e+1),.int .i64 (wm e)]) (by simp [results,Try.results13,go_sem]) rfl ⟨Q,rfl,hB ▸ HZ.out⟩
end Go.Proofs.Ytfcjfijmdikcmaa
namespace Go.Proofs.Ytfcjfijmdikcmaa
open Go.RowKit Lib
open Ieee (double)
attribute [local go_sem] zh zf zI zA zJ zK zL zM zn zp zq zr zt zX zF zz zl yb
theorem zo {P:Program} {ops:Array Oper} {Q:Exit→Act→World→Prop} {i:Nat} {K:Act→World→Prop} {a:Act} {w:World} {o:Oper} (ho:ops[i]? = some o) (h:if Region.wanted o (yielded ops a.tmps)=true then Oper.wp P o a w K Q else K (a.put o.dst undef) w):yb P ops Q i K a w:=by
 unfold yb;rw [ho];exact h
theorem xU {op:BinOp} {a b:Nat} (h:isN (cop op a b)=false):(∀ w,yr op w a b=cop op a b)∧yl op a b=0:=by
 have e:∃ r,floatBits op .f64 a b=some r:=by
  cases e:floatBits op .f64 a b with
  | some r=>exact ⟨r,rfl⟩
  | none=>
   rw [show cop op a b=xH by unfold cop; rw [e]] at h;exact absurd h (by decide)
 obtain ⟨r,hr⟩:=e;refine ⟨fun w=>?_,by unfold yl; rw [hr]; rfl⟩;have e1:zu (yr op w a b)=cop op a b:=xj _ _ _ _;have nf:isN (yr op w a b)=false:=by rw [← zY,e1]; exact h
 rw [← e1,ym nf]
end Go.Proofs.Ytfcjfijmdikcmaa
namespace Go.Proofs.Ytfcjfijmdikcmaa
open Go Lib
inductive wj (p:Nat→Prop):List Nat→Prop where
 | nil:wj p []
 | cons {j:Nat} {l:List Nat} (h:p j) (t:wj p l):wj p (j :: l)
theorem wj.get {p:Nat→Prop} {l:List Nat} (h:wj p l) {j:Nat} (hj:j ∈ l):p j:=by
 induction h with
 | nil=>cases hj
 | cons h _ ih=>
  rcases List.mem_cons.1 hj with rfl | hj
  ·exact h
  ·exact ih hj
def wA (dep:List (Nat × List Nat)) (j:Nat):List Nat:=(dep.filter fun p=>p.1==j).flatMap fun p=>p.2
def more (L:Nat→Bool) (j:Nat):Nat→Bool:=fun k=>k==j || L k
theorem wJ (listed:Array Bool) (j:Nat):(fun k=>(listed.setIfInBounds j true).getD k true)=more (fun k=>listed.getD k true) j:=by
 funext k
 unfold more;by_cases e:k=j
 ·subst e;rcases Nat.lt_or_ge k listed.size with h | h
  ·simp [h]
  ·simp
 ·rw [getD_set_ne true (Ne.symm e)];simp [e]
section
variable {P : Program} {ops : Array Oper} {Q : Exit → Act → World → Prop} {md : Region.Mode} {R : World → Prop} {D T3 : List Nat} {dep : List (Nat × List Nat)}
def wK (md:Region.Mode) (ops:Array Oper) (D:List Nat) (dep:List (Nat × List Nat)):Nat→Array Bool→Bool
 | 0,listed=>(Region.ready md ops listed).isEmpty&&D.all fun d=>listed.getD d true
 | n+1,listed=>(!(Region.ready md ops listed).isEmpty || D.all fun d=>listed.getD d true) &&
  (Region.ready md ops listed).all fun j=>(D.contains j&&(wA dep j).all fun d=>listed.getD d true)&&wK md ops D dep n (listed.setIfInBounds j true)
def Does (P:Program) (md:Region.Mode) (ops:Array Oper) (Q:Exit→Act→World→Prop) (R:World→Prop) (T3:List Nat) (dep:List (Nat × List Nat)) (I:(Nat→Bool)→Act→World→Prop) (j:Nat):Prop:=
 ∀ (L:Nat→Bool) (a:Act) (w:World),L j=false→(∀ d ∈ wA dep j,L d=true)→I L a w→∀ K:Act→World→Prop,(∀ a' w',(z9 md ops T3 j=true→R w')→I (more L j) a' w'→K a' w')→yb P ops Q j K a w
theorem wv {I:(Nat→Bool)→Act→World→Prop} {j:Nat} (h:Does P md ops Q R T3 dep I j) {L:Nat→Bool} {a:Act} {w:World} (hL:L j=false) (hd:∀ d ∈ wA dep j,L d=true) (hI:I L a w) :
  wpOp P ops Q j (fun a' w'=>(z9 md ops T3 j=true→R w')∧I (more L j) a' w') a w:=by
 have k:=h L a w hL hd hI (fun a' w'=>(z9 md ops T3 j=true→R w')∧I (more L j) a' w') (fun a' w' k1 k2=>⟨k1,k2⟩);unfold wpOp;unfold yb at k;split
 ·rename_i e; rw [e] at k; cases k
 ·rename_i o e
  rw [e] at k;simp only [] at k;split
  ·rename_i hw; rw [if_pos hw] at k; exact .inl k
  ·rename_i hw; rw [if_neg hw] at k; exact k
theorem wg {I:(Nat→Bool)→Act→World→Prop} (hop:wj (Does P md ops Q R T3 dep I) D) (hend:∀ L a w,(∀ d ∈ D,L d=true)→I L a w→Q .normal a w) :
  ∀ (n:Nat) (listed:Array Bool) (a:Act) (w:World),wK md ops D dep n listed=true→I (fun k=>listed.getD k true) a w→yz P md ops Q (fun _=>True) R D [] T3 n listed a w
 | 0,listed,a,w,hB,hI=>by
  simp only [wK,Bool.and_eq_true,List.all_eq_true] at hB;exact ⟨by simpa using hB.1,hend _ a w (fun d hd=>hB.2 d hd) hI⟩
 | n+1,listed,a,w,hB,hI=>by
  simp only [wK,Bool.and_eq_true,Bool.or_eq_true,Bool.not_eq_true',List.all_eq_true] at hB;obtain ⟨h0,h1⟩:=hB;refine ⟨fun e=>?_,fun j hj=>?_⟩
  ·rcases h0 with h0 | h0
   ·rw [e] at h0; cases h0
   ·exact hend _ a w (fun d hd=>h0 d hd) hI
  ·obtain ⟨⟨h2,h3⟩,h4⟩:=h1 j hj
   have hu:listed.getD j true=false:=by
    have:=(mem_ready.1 hj).1
    simpa using this
   refine wpOp_mono (fun a' w' k=>⟨by unfold yL; rw [if_pos h2]; exact ⟨fun _=>trivial,k.1⟩,wg hop hend n _ a' w' h4 (by rw [wJ]; exact k.2)⟩) (wv (hop.get (List.contains_iff_mem.1 h2)) hu h3 hI)
def wE (md:Region.Mode) (ops:Array Oper) (D T3:List Nat) (dep:List (Nat × List Nat)):Nat→List (Nat × Nat)→Array Bool→Bool
 | n,[],listed=>(D.all fun d=>!listed.getD d true)&&wK md ops D dep n listed
 | 0,_ :: _,_=>false
 | n+1,(i,k) :: l,listed=>((Region.ready md ops listed).contains i&&Region.free md ops listed i)&&((!D.contains i&&(k==1 || (k==3&&T3.contains i)))&&wE md ops D T3 dep n l (listed.setIfInBounds i true))
def wi (P:Program) (ops:Array Oper) (R:World→Prop) (D:List Nat) (I:(Nat→Bool)→Act→World→Prop):List (Nat × Nat)→Act→World→Prop
 | [],a,w=>∀ L:Nat→Bool,(∀ d ∈ D,L d=false)→I L a w
 | (i,k) :: l,a,w=>if k=1 then zz P ops i (fun a'=>wi P ops R D I l a' w) a else xP P ops R i (fun a'=>wi P ops R D I l a' w) a
theorem wd {I:(Nat→Bool)→Act→World→Prop} (hs:Region.noSelect ops=true) (hQ:∀ c a d v w,Q (.panic c) (a.put d v) w→Q (.panic c) a w) (hop:wj (Does P md ops Q R T3 dep I) D) (hend:∀ L a w,(∀ d ∈ D,L d=true)→I L a w→Q .normal a w) :
  ∀ (n:Nat) (l:List (Nat × Nat)) (listed:Array Bool) (a:Act) (w:World),(yp T3 listed=true→R w)→wE md ops D T3 dep n l listed=true→wi P ops R D I l a w→yz P md ops Q (fun _=>True) R D [] T3 n listed a w
 | n,[],listed,a,w,_,hB,h=>by
  unfold wE at hB;simp only [Bool.and_eq_true,List.all_eq_true,Bool.not_eq_true'] at hB;exact wg hop hend n listed a w hB.2 (h _ fun d hd=>hB.1 d hd)
 | 0,_ :: _,_,_,_,_,hB,_=>by simp [wE] at hB
 | n+1,(i,k) :: l,listed,a,w,hP,hB,h=>by
  simp only [wE,Bool.and_eq_true,Bool.not_eq_true',Bool.or_eq_true,beq_iff_eq] at hB;obtain ⟨⟨h1,h2⟩,⟨h3,hk⟩,h4⟩:=hB;unfold wi at h;split at h
  ·obtain ⟨o,v,ho,hy,hr⟩:=yq h;exact zS h3 (.inl fun _=>trivial) ho (Region.noSelect_spec hs) (fun c a w=>hQ c a _ _ w) n listed a w (Region.free_spec ho h2) (by simpa using h1) hy (fun _=>trivial) hP (wd hs hQ hop hend n l _ _ _ (zP hP) h4 hr)
  ·rename_i h1k
   obtain ⟨o,v,ho,hy,hr⟩:=h;rcases hk with hk | ⟨-,h5⟩
   ·exact absurd hk h1k
   ·exact zS h3 (.inr (.inr ⟨rfl,by simpa using h5⟩)) ho (Region.noSelect_spec hs) (fun c a w=>hQ c a _ _ w) n listed a w (Region.free_spec ho h2) (by simpa using h1) hy (fun _=>trivial) hP (wd hs hQ hop hend n l _ _ _ (zP hP) h4 hr)
theorem wq (l:List (Nat × Nat)) (D T3:List Nat) (dep:List (Nat × List Nat)) (R:World→Prop) (I:(Nat→Bool)→Act→World→Prop) {id:Nat} {a:Act} {w:World} (hm:P.follows .mixedOrders=true)
  (hB:(Region.noSelect ops&&wE .any ops D T3 dep ops.size l (Array.replicate ops.size false))=true) (hQ:∀ c a d v w,Q (.panic c) (a.put d v) w→Q (.panic c) a w)
  (hR:R w.drew) (hop:wj (Does P .any ops Q R T3 dep I) D) (hend:∀ L a w,(∀ d ∈ D,L d=true)→I L a w→Q .normal a w) (h:∀ W,W=w.drew→R W→wi P ops R D I l a W):(Code.region id ops true).wp P Q a w:=by
 simp only [Bool.and_eq_true] at hB;obtain ⟨h1,h3⟩:=hB;exact wp_region_any hm (yu (S:=fun _=>True) (R:=R) (D:=D) (T:=[]) (T3:=T3) _ _ _ _ (wd h1 hQ hop hend _ l _ _ _ (fun _=>hR) h3 (h _ rfl hR)))
theorem wB {I:(Nat→Bool)→Act→World→Prop} {i:Nat} {l:List (Nat × Nat)} {a:Act} {w:World} (h:∀ K:Act→Prop,(∀ a',wi P ops R D I l a' w→K a')→zz P ops i K a):wi P ops R D I ((i,1) :: l) a w:=by
 unfold wi;rw [if_pos rfl];exact h _ (fun _ k=>k)
theorem wF {I:(Nat→Bool)→Act→World→Prop} {a:Act} {w:World} (h:∀ L:Nat→Bool,(∀ d ∈ D,L d=false)→I L a w):wi P ops R D I [] a w:=h
end
end Go.Proofs.Ytfcjfijmdikcmaa
namespace Go.Proofs.Ytfcjfijmdikcmaa
open Go.RowKit Lib
open Ieee (double)
attribute [local go_sem] zh zf zF zz zl yb
set_option maxRecDepth 100000
theorem ww (q:Nat) (h1:1≤q) (h5:q≤5) (w:World) :
  Calls Try.prog 14 #[.int .i64 q] w fun e w'=>∃ R,e=.returned (.tuple #[.slice (some ⟨R,0,none⟩) (q+1) (q+1),.int .i64 (pwF q 1)])∧zm w' w.heap.size R (q+1) (q+1) (pwF q)∧Below w.heap.size w w':=by
 have PB:=hid (fun W=>wb q h5 W);go_enter Try.func14,Try.ntmps14;go_wp2_with fail;refine (PB.out w).mono ?_;rintro e w1 ⟨R,rfl,ho,hb⟩;have u1:=ho.cell (j:=1) (by omega);have HO:=hid ho;have HB:=hid hb;have j1:(1:Int)<(q:Int)+1:=by omega
 have j2:0<q:=by omega
 have j3:1<q+1:=by omega
 clear ho hb;go_wp2_with fail;refine zE [(0,1),(1,1),(2,1),(3,2),(4,1),(5,1)] (by kernel_rfl) (by kernel_rfl) (fun _ _ d _ _ h=>by cases d<;>exact h) ?_;intro Z hZ;have hZZ:∀ b o,Z.cell? ⟨b,o,none⟩=w1.cell? ⟨b,o,none⟩:=fun b o=>by rw [hZ]; rfl
 have HZ:=hid (show zm Z w.heap.size R (q+1) (q+1) (pwF q)∧Below w.heap.size w Z by rw [hZ]; exact ⟨HO.out.drew,HB.out.drew⟩);rw [← hZZ] at u1;clear hZ hZZ HO HB
 iterate 6
  first
   | refine zj (fun K hK=>?_)
   | refine zk (fun K hK=>?_)
  go_simp;refine hK _ ?_;clear hK K
 refine zQ ?_;go_wp2_with fail;exact bodyPost_ret (v:=.tuple #[.slice (some ⟨R,0,none⟩) (q+1) (q+1),.int .i64 (pwF q 1)]) (by simp [results,Try.results14,go_sem]) rfl ⟨R,rfl,HZ.out⟩
theorem zy {w:World} {b o:Nat} {cs:Array Value} {t:TypeId} {fr:Nat × Nat} (h:w.heap[b]? = some (.cells cs t fr)) (v:Value):(w.setCell ⟨b,o,none⟩ v).heap[b]? = some (.cells (cs.setIfInBounds o v) t fr):=by
 simp only [World.setCell,Array.getElem?_modify,if_true,h];rfl
theorem xv {w:World} {g:Nat} {old:Array Value} {t:TypeId} (hg:w.heap[g]? = some (.cells old t (0,0))) (cells:Array Value):zN w g (w.setRow g cells)∧(w.setRow g cells).heap[g]? = some (.cells cells t (0,0))∧(w.setRow g cells).heap.size=w.heap.size:=
 ⟨⟨⟨rfl,rfl,rfl,by simp,fun k hk=>absurd hk (Nat.not_lt_zero k)⟩,fun k _ hn=>setRow_other w g k cells hn⟩,setRow_heap w g old cells t _ hg,setRow_size w g cells⟩
def x7:TypeDesc→Bool
 | .struct _=>true
 | .array _ _=>true
 | _=>false
theorem yU {fn:Func} {R:Ending→World→Prop} {a:Act} {w:World} (sl ty:Nat) (hres:fn.results=#[.cell sl ty]) (g:Nat) (t:TypeId) (cs:Array Value) (d:TypeDesc) (ha:a.tmps.getD sl undef=.pointer (some ⟨g,0,none⟩)) (hg:w.heap[g]? = some (.cells cs t (0,0)))
  (hu:Try.prog.underlying ty=some d) (hag:x7 d=true) (hi:(Try.prog.info? ty).map (·.size)=some cs.size) (hd:a.defers=[]) (hR:R (.returned (.agg cs)) w):bodyPost Try.prog fn R .ret a w:=by
 refine bodyPost_ret (v:=.agg cs) ?_ hd hR;have hl:=run_loadVar_row (P:=Try.prog) w g t ty cs (0,0) d hg hu (by cases d<;>first | rfl | cases hag) hi;have ha':a.tmps[sl]?.getD undef=.pointer (some ⟨g,0,none⟩):=by rw [← ha,Array.getD_eq_getD_getElem?]
 simp [results,hres,ha',asAddr,hl]
theorem wt {ops:Array Oper} {o:Oper} {a:Act} {w:World} {K:Act→World→Prop} {Q:Exit→Act→World→Prop} {E:Prop} (hg:o.guard=none) (l c:Operand) (t:TypeId) (hop:o.op=Op.makeSlice t l c)
  (base:Nat) (e:TypeId) (i:TypeInfo) (z:Value) (size:Nat) (h1:Try.prog.underlying t=some (.slice e)) (h2:Try.prog.info? e=some i) (h3:i.zero=some z) (h4:i.size=size)
  (kl kc:IntKind) (L C:Int) (n:Nat) (hl:a.eval l=.int kl L) (hc:a.eval c=.int kc C) (hL:L=(n:Int)) (hC:C=(n:Int)) (b2:i.bytes*n≤281474976710656) (b3:n≤maxLen) (b4:base≤w.heap.size)
  (hK:∀ w',w'.ownsRow base e size (.slice (some ⟨w.heap.size,0,none⟩) n n) n (madeCells z.cells (n*size)).toList→w.grownBy w' none→K (a.put o.dst (.slice (some ⟨w.heap.size,0,none⟩) n n)) w') :
  if Region.wanted o (yielded ops a.tmps)=true then Oper.wp Try.prog o a w K Q else E:=by
 rw [if_pos (by simp [Region.wanted,hg])];obtain ⟨w',hrun,r1,r2⟩:=run_make_full (P:=Try.prog) w base t e i z size h1 h2 h3 h4 kl kc n b2 b3 b4;subst hL;subst hC;unfold Oper.wp;simp [execOp,hop,hl,hc,hrun,Result.andThen];exact hK w' r1 r2
theorem wu {w:World} {base R n:Nat} (h:w.ownsRow base 3 1 (.slice (some ⟨R,0,none⟩) n n) n (madeCells (Value.int .i64 0).cells (n*1)).toList):zm w base R n n fun _=>0:=by
 rw [Nat.mul_one] at h;exact xE h
def lwN (f:Nat→Nat) (d i:Nat):Int:=((f i:Int) / (Nat.gcd (f i) d:Nat))
def lwD (f:Nat→Nat) (d i:Nat):Int:=((d:Int) / (Nat.gcd (f i) d:Nat))
def lwM (g:Nat→Int) (e i:Nat):Int:=if i<e then g i else 0
theorem wy (g:Nat→Int) (e i:Nat):yQ (lwM g e) e (g e) i=lwM g (e+1) i:=by
 by_cases h:i=e
 ·subst h; rw [zG]; unfold lwM; rw [if_pos (by omega)]
 ·rw [zv _ _ h];unfold lwM;by_cases h2:i<e
  ·rw [if_pos h2,if_pos (by omega)]
  ·rw [if_neg h2,if_neg (by omega)]
theorem wC {x g:Nat} (h:x≤4611686018427387904):IntKind.i64.wrap ((x:Int) / (g:Int))=(x:Int) / (g:Int):=by
 refine IntWalk.i64_in _ ?_;have h1:x / g≤x:=Nat.div_le_self _ _;have e:(x:Int) / (g:Int)=((x / g:Nat):Int):=rfl;rw [e];generalize x / g=y at *;clear e;omega
def yC (t:Nat) (w:World) (base:Nat) (v:Value) (n:Nat) (f g:Nat→Int):Prop:=t=t∧∃ A C a c,v=.agg #[.slice (some ⟨A,0,none⟩) n a,.slice (some ⟨C,0,none⟩) n c]∧zm w base A n a f∧zm w base C n c g
structure OnRow (w0:World) (n:Nat) (L:Nat→Bool) (w:World) (v2 v5 v6 v7:Value):Prop where
 b:Below w0.heap.size w0 w
 o6:L 6=true→L 2=true∧L 5=true
 o8:L 8=true→L 7=true∧L 6=true
 ne:L 2=true→L 5=true→∀ A C,v2=.slice (some ⟨A,0,none⟩) n n→v5=.slice (some ⟨C,0,none⟩) n n→A≠C
 n2:L 2=true→L 7=true→∀ A P,v2=.slice (some ⟨A,0,none⟩) n n→v7=.pointer (some ⟨P,0,none⟩)→P≠A
 n5:L 5=true→L 7=true→∀ A P,v5=.slice (some ⟨A,0,none⟩) n n→v7=.pointer (some ⟨P,0,none⟩)→P≠A
 h2:L 2=true→∃ A,v2=.slice (some ⟨A,0,none⟩) n n∧zm w w0.heap.size A n n (fun _=>0)
 h5:L 5=true→∃ A,v5=.slice (some ⟨A,0,none⟩) n n∧zm w w0.heap.size A n n (fun _=>0)
 h6:L 6=true→v6=.agg #[v2,v5]
 h7:L 7=true→∃ P a c,v7=.pointer (some ⟨P,0,none⟩)∧w0.heap.size≤P∧w.heap[P]? = some (.cells #[a,c] 26)
 h8:L 8=true→∃ P,v7=.pointer (some ⟨P,0,none⟩)∧w.heap[P]? = some (.cells #[v2,v5] 26)
set_option maxHeartbeats 16000000
theorem we (n R c:Nat) (f:Nat→Nat) (d:Nat) (hf:∀ i,i<n→f i≤4611686018427387904) (hd:0<d∧d≤4611686018427387904) (hn:n≤10) (w:World) (hR:R<w.heap.size) (hr:∀ i,i<n→w.cell? ⟨R,i,none⟩=some (.int .i64 (f i:Nat))) :
  Calls Try.prog 12 #[.slice (some ⟨R,0,none⟩) n c,.int .i64 d] w fun e w'=>∃ v,e=.returned v∧yC 0 w' w.heap.size v n (lwN f d) (lwD f d)∧Below w.heap.size w w':=by
 obtain ⟨iI,hI,g1,g2,g3⟩:=info_parts xM;have HI:=hid (show iI.zero=_∧iI.size=_∧iI.bytes=_ from ⟨g1,g2,g3⟩);have HI0:=hid hI;clear hI g1 g2 g3;have HF:=hid hf;have HRC:=hid hr;clear hf hr;have AL:=al1 w (.cells #[.slice none 0 0,.slice none 0 0] 26);go_enter Try.func12,Try.ntmps12;go_upto_region 1 with fail
 generalize w.alloc (.cells #[.slice none 0 0,.slice none 0 0] 26)=X at *;generalize hB:w.heap.size=B at *;obtain ⟨x1,x2,x3⟩:=AL;have HX:=hid x1;have HBX:=hid x3;clear x1 x3
 go_cut [5] (fun p wx=>∃ P A C,p=.pointer (some ⟨P,0,none⟩)∧wx.heap[P]? = some (.cells #[.slice (some ⟨A,0,none⟩) n n,.slice (some ⟨C,0,none⟩) n n] 26)∧zm wx X.heap.size A n n (fun _=>0)∧zm wx X.heap.size C n n (fun _=>0)∧A≠C∧P≠A∧P≠C∧X.heap.size≤P∧Below X.heap.size X wx)
 case first=>
  refine wq [(0,1),(1,1),(3,1),(4,1)] [2,5,6,7,8] [] [(6,[2,5]),(8,[6,7])] (fun W=>Below X.heap.size X W) (fun L a w=>∃ v2 v5 v6 v7:Value,a=⟨#[.slice (some ⟨R,0,none⟩) n c,.int .i64 d,undef,undef,.pointer (some ⟨B,0,none⟩),v7,undef,undef,undef,.slice (some ⟨R,0,none⟩) n c,.int .i64 n,v2,.slice (some ⟨R,0,none⟩) n c,.int .i64 n,v5,v6,undef,undef,undef,undef,undef,undef,undef,undef,undef,undef,undef,undef,undef,undef,undef,undef,undef,undef,undef,undef,undef,undef,undef,undef,undef,undef],[]⟩∧OnRow X n L w v2 v5 v6 v7) (by kernel_rfl) (by kernel_rfl) (fun _ _ d _ _ h=>by cases d<;>exact h) ((Below.refl _ _).drew)
   (.cons ?o2 (.cons ?o5 (.cons ?o6 (.cons ?o7 (.cons ?o8 .nil))))) ?fin ?ini
  case ini=>
   intro Z hZ hbZ;clear hZ
   iterate 4
    refine wB (fun K hK=>?_);go_simp;refine hK _ ?_;clear hK K
   refine wF fun L hL=>⟨_,_,_,_,rfl,hbZ,?_,?_,?_,?_,?_,?_,?_,?_,?_,?_⟩
   ·exact fun h=>absurd h (by rw [hL 6 (by decide)]; decide)
   ·exact fun h=>absurd h (by rw [hL 8 (by decide)]; decide)
   ·exact fun h=>absurd h (by rw [hL 2 (by decide)]; decide)
   ·exact fun h=>absurd h (by rw [hL 2 (by decide)]; decide)
   ·exact fun h=>absurd h (by rw [hL 5 (by decide)]; decide)
   ·exact fun h=>absurd h (by rw [hL 2 (by decide)]; decide)
   ·exact fun h=>absurd h (by rw [hL 5 (by decide)]; decide)
   ·exact fun h=>absurd h (by rw [hL 6 (by decide)]; decide)
   ·exact fun h=>absurd h (by rw [hL 7 (by decide)]; decide)
   ·exact fun h=>absurd h (by rw [hL 8 (by decide)]; decide)
  case o2=>
   rintro L a w hL hd ⟨v2,v5,v6,v7,rfl,hI⟩ K hK;refine zo rfl ?_;refine wt rfl _ _ 24 rfl w.heap.size 3 iI (.int .i64 0) 1 Try.underlying24 HI0.out HI.out.1 HI.out.2.1 .i64 .i64 (n:Int) (n:Int) n rfl rfl rfl rfl (by rw [HI.out.2.2]; omega) (by unfold maxLen; omega) (Nat.le_refl _) ?_;intro w' hr hg;have hst:Below w.heap.size w w':=(Below.refl _ _).grown hg (Nat.le_refl _) (fun k hk=>by cases hk);have hb:=hI.b.trans (hst.mono hI.b.size);exact hK _ _ (fun _=>hb) ⟨_,_,_,_,rfl,hb,fun h=>absurd (((hI.o6 h).1).symm.trans hL) (by decide),hI.o8,fun _ h5 A C e1 e2=>by obtain ⟨A',e,g⟩:=hI.h5 h5; cases e1; cases e.symm.trans e2; exact Ne.symm (Nat.ne_of_lt g.lt.2),fun _ h7 A P e1 e2=>by obtain ⟨P',a,c,e,-,g⟩:=hI.h7 h7; cases e1; cases e.symm.trans e2; exact Nat.ne_of_lt (zw g),hI.n5,fun _=>⟨_,rfl,(wu hr).base (b':=X.heap.size) hI.b.size⟩,fun h=>by obtain ⟨A,e,g⟩:=hI.h5 h; exact ⟨A,e,g.below hst g.lt.2⟩,fun h=>absurd (((hI.o6 h).1).symm.trans hL) (by decide),fun h=>by obtain ⟨P,a,c,e,g1,g2⟩:=hI.h7 h; exact ⟨P,a,c,e,g1,(hst.block P (zw g2)).trans g2⟩,fun h=>absurd (((hI.o6 (hI.o8 h).2).1).symm.trans hL) (by decide)⟩
  case o5=>
   rintro L a w hL hd ⟨v2,v5,v6,v7,rfl,hI⟩ K hK;refine zo rfl ?_;refine wt rfl _ _ 24 rfl w.heap.size 3 iI (.int .i64 0) 1 Try.underlying24 HI0.out HI.out.1 HI.out.2.1 .i64 .i64 (n:Int) (n:Int) n rfl rfl rfl rfl (by rw [HI.out.2.2]; omega) (by unfold maxLen; omega) (Nat.le_refl _) ?_;intro w' hr hg;have hst:Below w.heap.size w w':=(Below.refl _ _).grown hg (Nat.le_refl _) (fun k hk=>by cases hk);have hb:=hI.b.trans (hst.mono hI.b.size);exact hK _ _ (fun _=>hb) ⟨_,_,_,_,rfl,hb,fun h=>absurd (((hI.o6 h).2).symm.trans hL) (by decide),hI.o8,fun h2 _ A C e1 e2=>by obtain ⟨A',e,g⟩:=hI.h2 h2; cases e2; cases e.symm.trans e1; exact Nat.ne_of_lt g.lt.2,hI.n2,fun _ h7 A P e1 e2=>by obtain ⟨P',a,c,e,-,g⟩:=hI.h7 h7; cases e1; cases e.symm.trans e2; exact Nat.ne_of_lt (zw g),fun h=>by obtain ⟨A,e,g⟩:=hI.h2 h; exact ⟨A,e,g.below hst g.lt.2⟩,fun _=>⟨_,rfl,(wu hr).base (b':=X.heap.size) hI.b.size⟩,fun h=>absurd (((hI.o6 h).2).symm.trans hL) (by decide),fun h=>by obtain ⟨P,a,c,e,g1,g2⟩:=hI.h7 h; exact ⟨P,a,c,e,g1,(hst.block P (zw g2)).trans g2⟩,fun h=>absurd (((hI.o6 (hI.o8 h).2).2).symm.trans hL) (by decide)⟩
  case o6=>
   rintro L a w hL hd ⟨v2,v5,v6,v7,rfl,hI⟩ K hK;obtain ⟨A,rfl,-⟩:=hI.h2 (hd 2 (by decide));obtain ⟨C,rfl,-⟩:=hI.h5 (hd 5 (by decide));go_simp;have hst:Below w.heap.size w w:=Below.refl _ _;exact hK _ _ (fun _=>hI.b) ⟨_,_,_,_,rfl,hI.b,fun _=>⟨hd 2 (by decide),hd 5 (by decide)⟩,fun h=>⟨(hI.o8 h).1,rfl⟩,hI.ne,hI.n2,hI.n5,fun h=>by obtain ⟨A,e,g⟩:=hI.h2 h; exact ⟨A,e,g.below hst g.lt.2⟩,fun h=>by obtain ⟨A,e,g⟩:=hI.h5 h; exact ⟨A,e,g.below hst g.lt.2⟩,fun _=>rfl,fun h=>by obtain ⟨P,a,c,e,g1,g2⟩:=hI.h7 h; exact ⟨P,a,c,e,g1,(hst.block P (zw g2)).trans g2⟩,fun h=>by obtain ⟨P,e,g⟩:=hI.h8 h; exact ⟨P,e,(hst.block P (zw g)).trans g⟩⟩
  case o7=>
   rintro L a w hL hd ⟨v2,v5,v6,v7,rfl,hI⟩ K hK;go_simp;obtain ⟨y1,y2,hst⟩:=al1 w (.cells #[.slice none 0 0,.slice none 0 0] 26);have hb:=hI.b.trans (hst.mono hI.b.size);exact hK _ _ (fun _=>hb) ⟨_,_,_,_,rfl,hb,hI.o6,fun h=>absurd (((hI.o8 h).1).symm.trans hL) (by decide),hI.ne,fun h2 _ A P e1 e2=>by obtain ⟨A',e,g⟩:=hI.h2 h2; cases e2; cases e.symm.trans e1; exact Ne.symm (Nat.ne_of_lt g.lt.2),fun h5 _ A P e1 e2=>by obtain ⟨A',e,g⟩:=hI.h5 h5; cases e2; cases e.symm.trans e1; exact Ne.symm (Nat.ne_of_lt g.lt.2),fun h=>by obtain ⟨A,e,g⟩:=hI.h2 h; exact ⟨A,e,g.below hst g.lt.2⟩,fun h=>by obtain ⟨A,e,g⟩:=hI.h5 h; exact ⟨A,e,g.below hst g.lt.2⟩,hI.h6,fun _=>⟨_,_,_,rfl,hI.b.size,y1⟩,fun h=>absurd (((hI.o8 h).1).symm.trans hL) (by decide)⟩
  case o8=>
   rintro L a w hL hd ⟨v2,v5,v6,v7,rfl,hI⟩ K hK;have d6:=hd 6 (by decide);have d7:=hd 7 (by decide);obtain ⟨P,x,z,rfl,hP,hp⟩:=hI.h7 d7;obtain ⟨A,rfl,hA⟩:=hI.h2 (hI.o6 d6).1;obtain ⟨C,rfl,hC⟩:=hI.h5 (hI.o6 d6).2;obtain rfl:=hI.h6 d6;have c0:=zc hp 0;have f0:=zi hp 0;have c1:=zc hp 1;have f1:=zi hp 1;simp only [List.getElem?_toArray,List.getElem?_cons_zero,List.getElem?_cons_succ] at c0 c1;go_simp;have hb:Below X.heap.size X ((w.setCell ⟨P,0,none⟩ (.slice (some ⟨A,0,none⟩) n n)).setCell ⟨P,1,none⟩ (.slice (some ⟨C,0,none⟩) n n)):=(hI.b.setCell (p:=⟨P,0,none⟩) hP _).setCell (p:=⟨P,1,none⟩) hP _;have hz:((w.setCell ⟨P,0,none⟩ (.slice (some ⟨A,0,none⟩) n n)).setCell ⟨P,1,none⟩ (.slice (some ⟨C,0,none⟩) n n)).heap[P]? = some (.cells #[.slice (some ⟨A,0,none⟩) n n,.slice (some ⟨C,0,none⟩) n n] 26):=zy (zy hp _) _;have n2:=hI.n2 (hI.o6 d6).1 d7 _ _ rfl rfl;have n5:=hI.n5 (hI.o6 d6).2 d7 _ _ rfl rfl;exact hK _ _ (fun _=>hb) ⟨_,_,_,_,rfl,hb,hI.o6,fun _=>⟨d7,d6⟩,hI.ne,hI.n2,hI.n5,fun _=>⟨A,rfl,(hA.other n2 _).other n2 _⟩,fun _=>⟨C,rfl,(hC.other n5 _).other n5 _⟩,hI.h6,fun _=>⟨P,_,_,rfl,hP,hz⟩,fun _=>⟨P,rfl,hz⟩⟩
  case fin=>
   rintro L a w hL ⟨v2,v5,v6,v7,rfl,hI⟩;obtain ⟨P,rfl,hp⟩:=hI.h8 (hL 8 (by decide));obtain ⟨A,rfl,hA⟩:=hI.h2 (hL 2 (by decide));obtain ⟨C,rfl,hC⟩:=hI.h5 (hL 5 (by decide));have n1:=hI.ne (hL 2 (by decide)) (hL 5 (by decide)) _ _ rfl rfl;have n2:=hI.n2 (hL 2 (by decide)) (hL 7 (by decide)) _ _ rfl rfl;have n5:=hI.n5 (hL 5 (by decide)) (hL 7 (by decide)) _ _ rfl rfl;obtain ⟨P',x,z,e,hP,-⟩:=hI.h7 (hL 7 (by decide));cases e
   have hb:=hI.b;clear hI hL;go_wp2_with fail;go_meet;exact ⟨P,A,C,rfl,hp,hA,hC,n1,n2,n5,hP,hb⟩
 case rest=>
  obtain ⟨P,A,C,rfl,hp,ha,hc,n1,n2,n3,n4,hb⟩:=hcut;have HP:=hid hp;have HA:=hid ha;have HC:=hid hc;have HB1:=hid hb;clear hp ha hc hb;have hAs:=HA.out.lt;have hCs:=HC.out.lt;have hPs:=zw HP.out;have hPX:X.heap.size≤P:=n4;have HA0:=hid (HA.out.congr (g:=lwM (lwN f d) 0) (fun i hi=>by unfold lwM; rw [if_neg (by omega)]));have HC0:=hid (HC.out.congr (g:=lwM (lwD f d) 0) (fun i hi=>by unfold lwM; rw [if_neg (by omega)]));clear HA HC;go_wp2_with fail
  go_loopw [18] (fun i wr=>∃ e:Nat,e≤n∧i=.int .i64 e∧zm wr X.heap.size A n n (lwM (lwN f d) e)∧zm wr X.heap.size C n n (lwM (lwD f d) e)∧wr.heap[P]? = some (.cells #[.slice (some ⟨A,0,none⟩) n n,.slice (some ⟨C,0,none⟩) n n] 26)∧Below X.heap.size X wr) (fun i _=>n-(intOf i).toNat)
  case atStart=>exact ⟨0,by omega,rfl,HA0.out,HC0.out,HP.out,HB1.out⟩
  case round=>
   clear HA0 HC0 HP HB1;obtain ⟨e,he,rfl,ha,hc,hp,hb⟩:=hrel;have HA:=hid ha;have HC:=hid hc;have HP:=hid hp;have HB1:=hid hb;by_cases hen:e<n
   ·have j1:(e:Int)<(n:Int):=by omega
    have u1:=(hb.cell (p:=⟨R,e,none⟩) (show R<_ by omega)).trans ((HBX.out.cell (p:=⟨R,e,none⟩) hR).trans (HRC.out e hen));have hf:=HF.out e hen;have DV:=hid (fun W=>wl (f e) d hf hd.2 W);have hgp:0<Nat.gcd (f e) d:=Nat.gcd_pos_of_pos_right _ hd.1;have k1:=wC (g:=Nat.gcd (f e) d) hf;have k2:=wC (g:=Nat.gcd (f e) d) hd.2;have HG:=hid (show (f e:Int) / (Nat.gcd (f e) d:Nat)=lwN f d e∧(d:Int) / (Nat.gcd (f e) d:Nat)=lwD f d e from ⟨rfl,rfl⟩);generalize Nat.gcd (f e) d=g at *;have g2:¬ g=0:=by omega
    clear ha hc hp hb;go_wp2_with fail;refine (DV.out _).mono ?_;rintro e2 w' ⟨rfl,rfl⟩;have p0:=zc HP.out 0;have p1:=zc HP.out 1;have a0:=HA.out.cell hen;have c0:=HC.out.cell hen;have fa:=HA.out.free e;have fc:=HC.out.free e;simp only [List.getElem?_toArray,List.getElem?_cons_zero,List.getElem?_cons_succ] at p0 p1;clear u1;go_upto_region 6 with fail
    refine z5 [(0,1),(1,2),(2,1),(3,1),(4,3),(5,1),(6,1),(7,1),(8,1),(9,1),(10,1),(11,1),(12,1),(13,0),(14,1),(15,0)] (fun W=>W.cell? ⟨P,1,none⟩=some (.slice (some ⟨C,0,none⟩) n n)) (by kernel_rfl) (by kernel_rfl) (fun _ _ d _ _ h=>by cases d<;>exact h) (p1) ?_;intro Z hZ hrZ;have hZZ:∀ b o,Z.cell? ⟨b,o,none⟩=wr.cell? ⟨b,o,none⟩:=fun b o=>by rw [hZ]; rfl
    have hzf:∀ b o,Z.frozen? ⟨b,o,none⟩=wr.frozen? ⟨b,o,none⟩:=fun b o=>by rw [hZ]; rfl
    have HZ:=hid (show zm Z X.heap.size A n n (lwM (lwN f d) e)∧zm Z X.heap.size C n n (lwM (lwD f d) e)∧Z.heap[P]? = some (.cells #[.slice (some ⟨A,0,none⟩) n n,.slice (some ⟨C,0,none⟩) n n] 26)∧Below X.heap.size X Z by rw [hZ]; exact ⟨HA.out.drew,HC.out.drew,HP.out,HB1.out.drew⟩);rw [← hZZ] at p0 a0 c0;rw [← hzf] at fa fc;clear hZ hZZ hzf HA HC HP HB1 p1
    iterate 4
     first
      | refine zj (fun K hK=>?_)
      | refine zk (fun K hK=>?_)
     go_simp;refine hK _ ?_;clear hK K
    refine z6 (v:=.slice (some ⟨C,0,none⟩) n n) rfl rfl (fun wk hwk=>?_) ?_
    ·go_simp
    iterate 8
     first
      | refine zj (fun K hK=>?_)
      | refine zk (fun K hK=>?_)
     go_simp;refine hK _ ?_;clear hK K
    have HY:=hid (show zm (Z.setCell ⟨A,e,none⟩ (.int .i64 ((f e:Int) / (g:Int)))) X.heap.size A n n (lwM (lwN f d) (e+1))∧zm (Z.setCell ⟨A,e,none⟩ (.int .i64 ((f e:Int) / (g:Int)))) X.heap.size C n n (lwM (lwD f d) e)∧(Z.setCell ⟨A,e,none⟩ (.int .i64 ((f e:Int) / (g:Int)))).heap[P]? = some (.cells #[.slice (some ⟨A,0,none⟩) n n,.slice (some ⟨C,0,none⟩) n n] 26)∧Below X.heap.size X (Z.setCell ⟨A,e,none⟩ (.int .i64 ((f e:Int) / (g:Int)))) from
     ⟨(HZ.out.1.set hen _).congr (fun i hi=>by rw [HG.out.1]; exact wy _ e i),HZ.out.2.1.other n1 _,(Below.heap_setCell _ _ _ _ n2).trans HZ.out.2.2.1,HZ.out.2.2.2.setCell (p:=⟨A,e,none⟩) hAs.1 _⟩)
    have p1:=zc HY.out.2.2.1 1;have c1:=HY.out.2.1.cell hen;have fd:=HY.out.2.1.free e;simp only [List.getElem?_toArray,List.getElem?_cons_zero,List.getElem?_cons_succ] at p1;refine zZ (fun K hK=>?_);go_simp;refine hK _ _ (fun h=>Bool.noConfusion (Eq.trans (Eq.symm (by kernel_rfl:_=false)) h)) (fun _=>p1) ?_;clear hK K;generalize Z.setCell ⟨A,e,none⟩ (.int .i64 ((f e:Int) / (g:Int)))=Y at *;clear p0 a0 c0 fa fc hrZ HZ p1
    iterate 1
     first
      | refine zj (fun K hK=>?_)
      | refine zk (fun K hK=>?_)
     go_simp;refine hK _ ?_;clear hK K
    have HW:=hid (show zm (Y.setCell ⟨C,e,none⟩ (.int .i64 ((d:Int) / (g:Int)))) X.heap.size A n n (lwM (lwN f d) (e+1))∧zm (Y.setCell ⟨C,e,none⟩ (.int .i64 ((d:Int) / (g:Int)))) X.heap.size C n n (lwM (lwD f d) (e+1))∧(Y.setCell ⟨C,e,none⟩ (.int .i64 ((d:Int) / (g:Int)))).heap[P]? = some (.cells #[.slice (some ⟨A,0,none⟩) n n,.slice (some ⟨C,0,none⟩) n n] 26)∧Below X.heap.size X (Y.setCell ⟨C,e,none⟩ (.int .i64 ((d:Int) / (g:Int)))) from
     ⟨HY.out.1.other (fun h=>n1 h.symm) _,(HY.out.2.1.set hen _).congr (fun i hi=>by rw [HG.out.2]; exact wy _ e i),(Below.heap_setCell _ _ _ _ n3).trans HY.out.2.2.1,HY.out.2.2.2.setCell (p:=⟨C,e,none⟩) hCs.1 _⟩)
    refine zZ (fun K hK=>?_);go_simp;refine hK _ _ (fun h=>Bool.noConfusion (Eq.trans (Eq.symm (by kernel_rfl:_=false)) h)) (fun h=>Bool.noConfusion (Eq.trans (Eq.symm (by kernel_rfl:_=false)) h)) ?_;clear hK K;refine zQ ?_;generalize Y.setCell ⟨C,e,none⟩ (.int .i64 ((d:Int) / (g:Int)))=V at *;clear c1 fd HY k1 k2;go_wp2_with fail
    go_roundw
    case rel=>exact ⟨e+1,by omega,by go_num,HW.out⟩
    case measure=>simp [intOf]; omega
   ·obtain rfl:e=n:=by omega
    clear ha hc hp hb;have hRB:=(HB1.out.block B (by omega)).trans HX.out;have hrow:=xv hRB #[.slice (some ⟨A,0,none⟩) e e,.slice (some ⟨C,0,none⟩) e e];have HRX:=hid hRB;have HRR:=hid hrow.2.1;have HKR:=hid hrow.1;clear hRB hrow
    go_wp2_with (first
     | (refine wpList_load_row rfl 26 _ rfl P rfl 26 #[.slice (some ⟨A,0,none⟩) e e,.slice (some ⟨C,0,none⟩) e e] _ _ HP.out Try.underlying26 rfl (by kernel_rfl) ?_)
     | (refine wpList_store_row rfl 26 _ _ rfl B #[.slice (some ⟨A,0,none⟩) e e,.slice (some ⟨C,0,none⟩) e e] rfl rfl 26 _ HRX.out (by kernel_rfl) rfl (by simp [Value.oneCell']) ?_)
     | fail)
    refine yU 4 26 Try.results12 B 26 #[.slice (some ⟨A,0,none⟩) e e,.slice (some ⟨C,0,none⟩) e e] _ rfl HRR.out Try.underlying26 rfl (by kernel_rfl) rfl ?_;refine ⟨_,rfl,⟨rfl,A,C,e,e,rfl,?_,?_⟩,hB ▸ HKR.out.below (HBX.out.trans (HB1.out.mono (by omega))) (Nat.le_refl B) (by have:=HB1.out.size; omega)⟩
    ·exact ((HA.out.base (b':=w.heap.size) (by omega)).kept (HKR.out.block A (HA.out.lt.2) (by omega))).congr (fun i hi=>by unfold lwM; rw [if_pos hi])
    ·exact ((HC.out.base (b':=w.heap.size) (by omega)).kept (HKR.out.block C (HC.out.lt.2) (by omega))).congr (fun i hi=>by unfold lwM; rw [if_pos hi])
end Go.Proofs.Ytfcjfijmdikcmaa
