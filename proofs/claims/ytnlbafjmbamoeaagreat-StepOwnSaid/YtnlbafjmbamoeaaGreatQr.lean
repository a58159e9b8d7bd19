/-
  Contracts (what a function tells) and plain facts that a law's proof hangs on, for every input; no condition but those in their statements. Laid together of the texts Shm, Shw, Tda.
-/
import Derived.Test.YtnlbafjmbamoeaaGreatQq
namespace Go.Proofs.YtnlbafjmbamoeaaGreat
open Go.RowKit Lib
open Ieee (double)
attribute [local go_sem] zr zi zy zn zU zS zW zX zV zY zD zH zI zJ zK zB
theorem vh {X W:World} {q base n size:Nat} {E t:TypeId} {v:Value} {qs:List Value} {cs:Array Value} (h:X.ownsRow base E size v n qs) (hq:X.heap[q]? = some (.cells cs t (0,0))) (hk:zM X q W) (ht:(t==E)=false):W.ownsRow base E size v n qs:=by
 obtain ⟨h1,h2⟩:=h;refine ⟨h1,?_⟩;rcases h2 with h2 | ⟨g,c,cur,rfl,hg,hh,r⟩
 ·exact .inl h2
 ·have hne:g≠q:=by
   rintro rfl;rw [hh] at hq;simp only [Option.some.injEq,Obj.cells.injEq] at hq;obtain ⟨-,rfl,-⟩:=hq;simp at ht
  exact .inr ⟨g,c,cur,rfl,hg,(hk.block g (zj hh) hne).trans hh,r⟩
theorem vM {X:World} {base b2 n m s1 s2:Nat} {E F:TypeId} {u v:Value} {qs rs:List Value} (h:X.ownsRow base E s1 u n qs) (h2:X.ownsRow b2 F s2 v m rs) (ht:(E==F)=false):u.ownBlock=none∨u.ownBlock≠v.ownBlock:=by
 rcases h.2 with ⟨rfl,-⟩ | ⟨g,c,cur,rfl,hg,hh,r⟩
 ·exact .inl rfl
 ·refine .inr fun e=>?_
  rcases h2.2 with ⟨rfl,-⟩ | ⟨g2,c2,cur2,rfl,hg2,hh2,r2⟩
  ·cases e
  ·have e2:g=g2:=by injection e
   subst e2;rw [hh] at hh2;simp only [Option.some.injEq,Obj.cells.injEq] at hh2;obtain ⟨-,rfl,-⟩:=hh2;simp at ht
structure MkS (P:Nat) (X0:World) (pv:Array Value) (n:Nat) (y:Nat→Nat) (vy:Value) (k:Nat) (bx:Nat→Nat × Nat) (vb:Value) (m:Nat) (g:Nat→Int) (vt:Value) (W:World):Prop where
 bel:Below P X0 W
 blk:W.heap[P]? = some (.cells pv 33 (0,0))
 row:∃ qs,W.ownsRow (P+1) 31 1 vy n qs∧yO qs n y
 box:∃ qs,W.ownsRow (P+1) 69 2 vb k qs∧uk qs k bx
 out:W.ownsRow (P+1) 3 1 vt m (yY g m)
section
variable {P n k m : Nat} {X0 W W' : World} {pv pv' : Array Value} {y : Nat → Nat} {bx : Nat → Nat × Nat} {g : Nat → Int} {vy vb vt : Value}
theorem MkS.put (h:MkS P X0 pv n y vy k bx vb m g vt W) (hk:zM W P W') (hp:P≤X0.heap.size) (e:W'.heap[P]? = some (.cells pv' 33 (0,0))):MkS P X0 pv' n y vy k bx vb m g vt W':=by
 obtain ⟨h1,h2,⟨qs,h3,h4⟩,⟨rs,h5,h6⟩,h7⟩:=h;exact ⟨hk.below h1 (Nat.le_refl _) (Nat.le_trans hp h1.size),e,⟨qs,vh h3 h2 hk rfl,h4⟩,⟨rs,vh h5 h2 hk rfl,h6⟩,vh h7 h2 hk rfl⟩
theorem MkS.set (h:MkS P X0 pv n y vy k bx vb m g vt W) (j:Nat) (v:Value) (hp:P≤X0.heap.size) (e:(some (Obj.cells (pv.setIfInBounds j v) 33 (0,0)):Option Obj)=some (.cells pv' 33 (0,0))):MkS P X0 pv' n y vy k bx vb m g vt (W.setCell ⟨P,j,none⟩ v):=
 h.put ((zM.refl W P).set j v) hp ((zp h.blk v).trans e)
theorem MkS.lt (h:MkS P X0 pv n y vy k bx vb m g vt W):P+1≤W.heap.size:=zj h.blk
theorem MkS.step (h:MkS P X0 pv n y vy k bx vb m g vt W) (hp:P≤X0.heap.size) (hb:Below W.heap.size W W'):MkS P X0 pv n y vy k bx vb m g vt W':=by
 have hl:=h.lt;obtain ⟨h1,h2,⟨qs,h3,h4⟩,⟨rs,h5,h6⟩,h7⟩:=h;exact ⟨h1.trans (hb.mono (Nat.le_trans hp h1.size)),(hb.block P hl).trans h2,⟨qs,xB h3 hb,h4⟩,⟨rs,xB h5 hb,h6⟩,xB h7 hb⟩
theorem MkS.box1 (h:MkS P X0 pv n y vy k bx vb m g vt W) (hg:W.grownBy W' vb.ownBlock) {vb':Value} (hb:∃ rs,W'.ownsRow (P+1) 69 2 vb' (k+1) rs∧uk rs (k+1) bx):MkS P X0 pv n y vy (k+1) bx vb' m g vt W':=by
 have hl:=h.lt;obtain ⟨h1,h2,⟨qs,h3,h4⟩,⟨rs,h5,h6⟩,h7⟩:=h;have hne:∀ j,vb.ownBlock=some j→P+1≤j:=fun j e=>(h5.lt j e).1
 have hB:=yv h5 (show P+1≤P+1 by omega) hl hg;exact ⟨h1.trans (hB.mono (by omega)),(hB.block P (by omega)).trans h2,⟨qs,h3.kept hg (vM h3 h5 rfl),h4⟩,hb,h7.kept hg (vM h7 h5 rfl)⟩
theorem MkS.out1 (h:MkS P X0 pv n y vy k bx vb m g vt W) (hg:W.grownBy W' vt.ownBlock) {vt':Value} (ho:W'.ownsRow (P+1) 3 1 vt' (m+1) (yY g (m+1))):MkS P X0 pv n y vy k bx vb (m+1) g vt' W':=by
 have hl:=h.lt;obtain ⟨h1,h2,⟨qs,h3,h4⟩,⟨rs,h5,h6⟩,h7⟩:=h;have hB:=yv h7 (show P+1≤P+1 by omega) hl hg;exact ⟨h1.trans (hB.mono (by omega)),(hB.block P (by omega)).trans h2,⟨qs,h3.kept hg (vM h3 h7 rfl),h4⟩,⟨rs,h5.kept hg (vM h5 h7 rfl),h6⟩,ho⟩
theorem mS {f:Nat→Int} {qs:List Value} (hl:qs.length=m) (h:uJ qs m f):qs=yY f m:=by
 apply List.ext_getElem?;intro i;by_cases hi:i<m
 ·rw [h i hi,xz f hi]
 ·rw [List.getElem?_eq_none (by omega),List.getElem?_eq_none (by rw [vH]; omega)]
theorem sP {f f2:Nat→Int}:∀ {j:Nat},(∀ i,i<j→f2 i=f i)→yY f2 j=yY f j
 | 0,_=>rfl
 | j+1,h=>by rw [yY,yY,sP (fun i hi=>h i (by omega)),h j (by omega)]
theorem MkS.cong {g':Nat→Int} (h:MkS P X0 pv n y vy k bx vb m g vt W) (e:∀ i,i<m→g' i=g i):MkS P X0 pv n y vy k bx vb m g' vt W:=
 ⟨h.bel,h.blk,h.row,h.box,by rw [sP e]; exact h.out⟩
theorem MkS.out2 {G ct j:Nat} {x:Int} {g':Nat→Int} (h:MkS P X0 pv n y vy k bx vb m g (.slice (some ⟨G,0,none⟩) m ct) W) (hj:j<m) (e:∀ i,i<m→g' i=if i=j then x else g i):MkS P X0 pv n y vy k bx vb m g' (.slice (some ⟨G,0,none⟩) m ct) (W.setCell ⟨G,j,none⟩ (.int .i64 x)):=by
 obtain ⟨h1,h2,⟨qs,h3,h4⟩,⟨rs,h5,h6⟩,h7⟩:=h;have hG:=h7.lt G rfl
 obtain ⟨cs,hh⟩:∃ cs,W.heap[G]? = some (.cells cs 3 (0,0)):=by
  rcases h7.2 with ⟨hv,-⟩ | ⟨g,c,cur,hv,hg,hh,r⟩
  ·cases hv
  ·simp only [Value.slice.injEq,Option.some.injEq,Addr.mk.injEq] at hv;obtain ⟨⟨rfl,-⟩,-,rfl⟩:=hv;exact ⟨_,hh⟩
 have hk:zM W G (W.setCell ⟨G,j,none⟩ (.int .i64 x)):=(zM.refl W G).set j _;refine ⟨h1.setCell (p:=⟨G,j,none⟩) (by show P≤G; omega) _,(hk.block P (zj h2) (by omega)).trans h2,⟨qs,vh h3 hh hk rfl,h4⟩,⟨rs,vh h5 hh hk rfl,h6⟩,?_⟩;have hs:=(h7.stored j (.int .i64 x)).1;rw [← mS (f:=g') (qs:=(yY g m).set j (.int .i64 x)) (m:=m) (by rw [List.length_set,vH]) (fun i hi=>?_)]
 ·exact hs
 ·rw [e i hi];by_cases hij:i=j
  ·subst hij;rw [List.getElem?_set_self (by rw [vH]; exact hi),if_pos rfl]
  ·rw [List.getElem?_set_ne (fun e=>hij e.symm),xz g hi,if_neg hij]
end
theorem xX.kp {X W:World} {q base:Nat} {u:Value} {T:TD} {cs:Array Value} (h:xX X base u T) (hq:X.heap[q]? = some (.cells cs 33 (0,0))) (hk:zM X q W):xX W base u T:=by
 obtain ⟨va,vb,rfl,h1,h2,h3⟩:=h;exact ⟨va,vb,rfl,vh h1 hq hk rfl,vh h2 hq hk rfl,h3⟩
end Go.Proofs.YtnlbafjmbamoeaaGreat
namespace Go.Proofs.YtnlbafjmbamoeaaGreat
open Go.RowKit Lib
open Ieee (double)
attribute [local go_sem] zr zi zy zn zU zS zW zX zV zY zD zH zI zJ zK zB ye z8 zF yE zN zQ zR
def shN (s:ShD):Nat:=(1+s.n % 3).toNat
def shT (s:ShD):TD:=tZ s.n (fun i=>s.ns.getD i 0) s.ns.length s.div
def uT (x:Nat):Nat × Nat:=(cop .sub x 4625196817309499392,cop .add x 4625196817309499392)
def shB (s:ShD) (i:Nat):Nat × Nat:=uT (uV s.ms i)
def shK (s:ShD):Nat:=16+(s.first % 13).toNat
def shL (s:ShD):Nat:=shK s-(s.least % 10).toNat
def shE (s:ShD):Int:=if s.en % 4=0 then 4*tk (shK s) else 1+s.en % 536870912
def shA (s:ShD):Nat:=cop .quo 4607182418800017408 (floatOfInt .f64 ((2 ^ (s.tol % 24).toNat:Nat):Int))
def shR (s:ShD):Nat:=cop .quo (floatOfInt .f64 (s.tol.tdiv 24 % 3)) 4652218415073722368
def shM (s:ShD):Nat:=min s.outs.length 8
def yT (s:ShD) (i:Nat):Int:=s.outs.getD i 0 % (shE s+1)
def uH (f:Nat→Int):Nat→Int
 | 0=>f 0
 | i+1=>max (f (i+1)) (uH f i)
theorem kz {x:Int} (h1:-32≤x) (h2:x≤32):isN (c8 x)=false:=by
 have h:=mH ⟨(x+32).toNat,by omega⟩;have e:(((x+32).toNat:Nat):Int)-32=x:=by omega
 simp only [e] at h;exact h
theorem lw:∀ i:Fin 65,isN (cop .sub (c8 ((i.val:Int)-32)) 4625196817309499392)=false∧isN (cop .add (c8 ((i.val:Int)-32)) 4625196817309499392)=false:=by decide +kernel
theorem ly {x:Int} (h1:-32≤x) (h2:x≤32):((∀ w,zZ .sub w (c8 x) 4625196817309499392=cop .sub (c8 x) 4625196817309499392)∧zP .sub (c8 x) 4625196817309499392=0)∧((∀ w,zZ .add w (c8 x) 4625196817309499392=cop .add (c8 x) 4625196817309499392)∧zP .add (c8 x) 4625196817309499392=0):=by
 have h:=lw ⟨(x+32).toNat,by omega⟩;have e:(((x+32).toNat:Nat):Int)-32=x:=by omega
 simp only [e] at h;exact ⟨xx h.1,xx h.2⟩
theorem lz:∀ i:Fin 24,isN (cop .quo 4607182418800017408 (floatOfInt .f64 ((2 ^ i.val:Nat):Int)))=false:=by decide +kernel
theorem lA:∀ i:Fin 3,isN (cop .quo (floatOfInt .f64 (i.val:Int)) 4652218415073722368)=false:=by decide +kernel
theorem infoV:(Tryz.prog.info? 69).map (fun i=>(i.zero,i.size,i.bytes))=some (some (.agg #[.float .f64 0,.float .f64 0]),2,16):=by kernel_rfl
theorem shl24:∀ S:Nat,S<29→wrap64 (2 ^ S)=((2 ^ S:Nat):Int):=by decide +kernel
theorem kB:∀ a:Fin 24,wrap64 (2 ^ a.val)=((2 ^ a.val:Nat):Int):=by decide +kernel
theorem kC {x:Int} (h:sy x):IntKind.i64.wrap (x.tdiv 24)=x.tdiv 24:=by
 refine IntWalk.i64_in _ ?_;unfold sy at h;rcases Int.le_total 0 x with g | g
 ·rw [Int.tdiv_eq_ediv_of_nonneg g];omega
 ·have e:x.tdiv 24=-((-x) / 24):=by
   rw [← Int.tdiv_eq_ediv_of_nonneg (show 0≤-x by omega),Int.neg_tdiv,Int.neg_neg]
  rw [e];omega
theorem lV (s:ShD):1≤shE s:=by
 unfold shE;have:=uZ (shK s);have:=Int.emod_nonneg s.en (show (536870912:Int)≠0 by decide);split<;>omega
theorem kD (s:ShD):shE s≤1073741824:=by
 unfold shE
 have h:tk (shK s)≤268435456:=by
  have h1:=Int.emod_lt_of_pos s.first (show (0:Int)<13 by decide);have:2 ^ shK s≤2 ^ 28:=Nat.pow_le_pow_right (by decide) (by unfold shK; omega);unfold tk;have e:(2:Nat) ^ 28=268435456:=by decide
  omega
 have:=Int.emod_lt_of_pos s.en (show (0:Int)<536870912 by decide);split<;>omega
theorem nI (s:ShD):(shT s).len≤60∧(shT s).lo≤60:=by
 have:=Int.emod_nonneg s.n (show (3:Int)≠0 by decide);have:=Int.emod_lt_of_pos s.n (show (0:Int)<3 by decide);constructor
 ·show (1+s.n % 3).toNat+1+min s.ns.length 8≤60;omega
 ·show (1+s.n % 3).toNat≤60;omega
theorem shr13:∀ (a:Fin 13) (b:Fin 10),tk (16+a.val) / 2 ^ min (IntKind.u64.wrap (b.val:Int)).toNat 64=tk (16+a.val-b.val):=by decide +kernel
set_option maxRecDepth 100000
set_option maxHeartbeats 16000000
theorem mp (s:ShD) (v:Value) (w:World) (h:ShAt w v s) :
  Calls Tryz.prog 15 #[v] w fun e w'=>∃ vo vu vb vy vt,e=.returned (.agg #[.int .i64 (shN s),vo,vu,vb,vy,.int .i64 (shE s),.int .i64 (tk (shK s)),.int .i64 (tk (shL s)),.float .f64 (shA s),.float .f64 (shR s),.float .f64 4616189618054758400,.int .i64 24,vt]) ∧
   yG w' (.agg #[.int .i64 (shN s),vo,vu]) (shT s)∧zT w' vy (shN s) (uV s.ms)∧mC w' vb (shN s) (shB s)∧uK w' vt (shM s) (uH (yT s))∧Below w.heap.size w w':=by
 obtain ⟨hr,u1,u2,u3,rfl,h1,h2,h3⟩:=h;obtain ⟨a1,c1,rfl,-,-⟩:=h1.1.read;obtain ⟨a2,c2,rfl,-,-⟩:=h2.1.read;obtain ⟨a3,c3,rfl,-,-⟩:=h3.1.read;have MK:=hid (fun W (hW:Below w.heap.size w W)=>qU s.n _ s.ns.length (fun i=>s.ns.getD i 0) s.div W (uK.below (qH.read h1.1) hW) hr.n h1.2)
 have HN3:1≤shN s∧shN s≤3:=by
  have:=Int.emod_nonneg s.n (show (3:Int)≠0 by decide);have:=Int.emod_lt_of_pos s.n (show (0:Int)<3 by decide);unfold shN; omega
 have hTn:(tZ s.n (fun i=>s.ns.getD i 0) s.ns.length s.div).n=(shN s:Nat):=by
  have:=Int.emod_nonneg s.n (show (3:Int)≠0 by decide);show 1+s.n % 3=((1+s.n % 3).toNat:Int); omega
 have HVL:=hid (fun W (hW:Below w.heap.size w W)=>qn (shN s) _ s.ms W (sI h2.1 hW) HN3.1 (by omega));have HI3:=hid (fun W (hW:Below w.heap.size w W)=>uK.below (qH.read h3.1) hW);obtain ⟨S1,hS1⟩:∃ S:Nat,(S:Int)=s.first % 13:=⟨(s.first % 13).toNat,by have:=Int.emod_nonneg s.first (show (13:Int)≠0 by decide); omega⟩;have hS1l:S1<13:=by have:=Int.emod_lt_of_pos s.first (show (0:Int)<13 by decide); omega
 obtain ⟨S2,hS2⟩:∃ S:Nat,(S:Int)=s.least % 10:=⟨(s.least % 10).toNat,by have:=Int.emod_nonneg s.least (show (10:Int)≠0 by decide); omega⟩;have hS2l:S2<10:=by have:=Int.emod_lt_of_pos s.least (show (0:Int)<10 by decide); omega
 obtain ⟨S4,hS4⟩:∃ S:Nat,(S:Int)=s.tol % 24:=⟨(s.tol % 24).toNat,by have:=Int.emod_nonneg s.tol (show (24:Int)≠0 by decide); omega⟩;have hS4l:S4<24:=by have:=Int.emod_lt_of_pos s.tol (show (0:Int)<24 by decide); omega
 obtain ⟨S5,hS5⟩:∃ S:Nat,(S:Int)=s.tol.tdiv 24 % 3:=⟨(s.tol.tdiv 24 % 3).toNat,by have:=Int.emod_nonneg (s.tol.tdiv 24) (show (3:Int)≠0 by decide); omega⟩;have hS5l:S5<3:=by have:=Int.emod_lt_of_pos (s.tol.tdiv 24) (show (0:Int)<3 by decide); omega
 have hS3:=Int.emod_nonneg s.en (show (536870912:Int)≠0 by decide);have hS3l:=Int.emod_lt_of_pos s.en (show (0:Int)<536870912 by decide);have W13:=hid (fun W=>(wU s.first 13 W (by decide) (by decide)).mono fun _ _ (h:_=Ending.returned (.int .i64 (s.first % 13))∧_)=>(show _=Ending.returned (.int .i64 (S1:Int))∧_ by rw [hS1]; exact h));have W10:=hid (fun W=>(wU s.least 10 W (by decide) (by decide)).mono fun _ _ (h:_=Ending.returned (.int .i64 (s.least % 10))∧_)=>(show _=Ending.returned (.int .i64 (S2:Int))∧_ by rw [hS2]; exact h));have W24:=hid (fun W=>(wU s.tol 24 W (by decide) (by decide)).mono fun _ _ (h:_=Ending.returned (.int .i64 (s.tol % 24))∧_)=>(show _=Ending.returned (.int .i64 (S4:Int))∧_ by rw [hS4]; exact h));have WT3:=hid (fun W=>(wU (s.tol.tdiv 24) 3 W (by decide) (by decide)).mono fun _ _ (h:_=Ending.returned (.int .i64 (s.tol.tdiv 24 % 3))∧_)=>(show _=Ending.returned (.int .i64 (S5:Int))∧_ by rw [hS5]; exact h));have WE:=hid (fun W=>wU s.en 536870912 W (by decide) (by decide));have WF:=hid (fun W=>wU s.en 4 W (by decide) (by decide));have HKF:=hid (show shK s=16+S1 by unfold shK; rw [← hS1]; rfl);have HKL:=hid (show shL s=16+S1-S2 by unfold shL; rw [HKF.out,← hS2]; rfl);have HKA:=hid (show shA s=cop .quo 4607182418800017408 (floatOfInt .f64 ((2 ^ S4:Nat):Int)) by unfold shA; rw [← hS4]; rfl);have HKR:=hid (show shR s=cop .quo (floatOfInt .f64 (S5:Int)) 4652218415073722368 by unfold shR; rw [← hS5]);have HRF:=hid hr.tol;clear h1 h2 h3 hr hS1 hS2 hS4 hS5;go_enter Tryz.func15,Tryz.ntmps15;generalize hB:w.heap.size=B at *;have AL:=al2 w (.cells #[.int .i64 s.n,.int .i64 s.first,.int .i64 s.least,.int .i64 s.tol,.int .i64 s.en,.slice a1 s.ns.length c1,.slice a2 s.ms.length c2,.slice a3 s.outs.length c3,.bool s.div] 24) (.cells #[.int .i64 0,.slice none 0 0,.slice none 0 0,.slice none 0 0,.slice none 0 0,.int .i64 0,.int .i64 0,.int .i64 0,.float .f64 0,.float .f64 0,.float .f64 0,.int .i64 0,.slice none 0 0] 33);rw [hB] at AL;go_upto_region 1 with fail
 generalize (w.alloc (.cells #[.int .i64 s.n,.int .i64 s.first,.int .i64 s.least,.int .i64 s.tol,.int .i64 s.en,.slice a1 s.ns.length c1,.slice a2 s.ms.length c2,.slice a3 s.outs.length c3,.bool s.div] 24)).alloc (.cells #[.int .i64 0,.slice none 0 0,.slice none 0 0,.slice none 0 0,.slice none 0 0,.int .i64 0,.int .i64 0,.int .i64 0,.float .f64 0,.float .f64 0,.float .f64 0,.int .i64 0,.slice none 0 0] 33)=X at *;obtain ⟨x1,x2,x4,x5⟩:=AL;have SB:=hid (fun W (hW:Below X.heap.size X W)=>(hW.block B (by omega)).trans x1);have RB:=hid (fun W (hW:Below X.heap.size X W)=>(hW.block (B+1) (by omega)).trans x2);have BX:=hid (fun W (hW:Below X.heap.size X W)=>(show Below B w W from x5.trans (hW.mono (by omega))));have hXB:B+2≤X.heap.size:=by omega
 obtain ⟨s0,s1,s2,s3,s4,s5,s6,s7,s8⟩:=vs x1;clear x1 x2 x4 x5 s1 s2 s3 s4 s6 s7;go_wp2_with fail;refine (MK.out X (BX.out X (Below.refl _ _))).mono ?_;rintro e w2 ⟨u,rfl,hta,hb2⟩;obtain ⟨va,vb,rfl,hoo,hoi,-⟩:=id hta;obtain ⟨ta,tc,rfl,-⟩:=yV hoo;obtain ⟨tb,td,rfl,-⟩:=yV hoi;clear hoo hoi s0 s5 s8
 have hTl:(tZ s.n (fun i=>s.ns.getD i 0) s.ns.length s.div).len≤60∧(tZ s.n (fun i=>s.ns.getD i 0) s.ns.length s.div).lo≤60:=(by
  have:=Int.emod_nonneg s.n (show (3:Int)≠0 by decide);have:=Int.emod_lt_of_pos s.n (show (0:Int)<3 by decide);constructor
  ·show (1+s.n % 3).toNat+1+min s.ns.length 8≤60;omega
  ·show (1+s.n % 3).toNat≤60;omega)
 have hat:=hta.at (by omega) (by omega);simp only [hTn];generalize (tZ s.n (fun i=>s.ns.getD i 0) s.ns.length s.div).len=tl at *;generalize (tZ s.n (fun i=>s.ns.getD i 0) s.ns.length s.div).lo=tm at *;have HTO:=hid hta;have HTN:=hid hTn;have HB2:=hid hb2;clear hta hat hb2 hTl;obtain ⟨y1,y2,y3⟩:=al1 w2 (.cells #[.int .i64 (shN s),.slice ta tl tc,.slice tb tm td,.slice none 0 0,.slice none 0 0,.int .i64 0,.int .i64 0,.int .i64 0,.float .f64 0,.float .f64 0,.float .f64 0,.int .i64 0,.slice none 0 0] 33);have HY:=hid y1;have HYB:=hid y3;have HYS:=hid y2;clear y1 y2 y3;go_upto_region 2 with fail
 generalize w2.alloc (.cells #[.int .i64 (shN s),.slice ta tl tc,.slice tb tm td,.slice none 0 0,.slice none 0 0,.int .i64 0,.int .i64 0,.int .i64 0,.float .f64 0,.float .f64 0,.float .f64 0,.int .i64 0,.slice none 0 0] 33)=Y at *;have hP2:=HB2.out.size;obtain ⟨P,hP⟩:∃ P,w2.heap.size=P:=⟨_,rfl⟩;simp only [hP] at HY HYB HYS ⊢;obtain ⟨s0,s1,s2,s3,s4,s5,s6,s7,s8⟩:=vs (SB.out Y (HB2.out.trans (HYB.out.mono (by omega))));obtain ⟨c0,c1,c2,c3,c4,c5,c6,c7,c8,c9,c10,c11,c12⟩:=yn HY.out;clear s0 s1 s2 s3 s4 s5 s7 s8 c1 c2 c3 c4 c5 c6 c7 c8 c9 c10 c11 c12;go_wp2_with fail;refine (HVL.out Y (BX.out Y (HB2.out.trans (HYB.out.mono (by omega))))).mono ?_;rintro e w3 ⟨R,cR,rfl,hoR,hb3⟩
 have hm0:MkS P w2 #[.int .i64 (shN s),.slice ta tl tc,.slice tb tm td,.slice none 0 0,.slice none 0 0,.int .i64 0,.int .i64 0,.int .i64 0,.float .f64 0,.float .f64 0,.float .f64 0,.int .i64 0,.slice none 0 0] (shN s) (uV s.ms) (.slice (some ⟨R,0,none⟩) (shN s) cR) 0 (shB s) (.slice none 0 0) 0 (yT s) (.slice none 0 0) w3:=by
  have hys:=HYS.out;refine ⟨HYB.out.trans (hb3.mono (by omega)),(hb3.block P (by omega)).trans HY.out,?_,⟨[],World.ownsRow_nil _ _ _ _,uk.nil _ _⟩,World.ownsRow_nil _ _ _ _⟩;obtain ⟨qs,q1,q2⟩:=hoR;exact ⟨qs,ui q1 (by omega),q2⟩
 have HM:=hid (hm0.set (pv':=#[.int .i64 (shN s),.slice ta tl tc,.slice tb tm td,.slice none 0 0,.slice (some ⟨R,0,none⟩) (shN s) cR,.int .i64 0,.int .i64 0,.int .i64 0,.float .f64 0,.float .f64 0,.float .f64 0,.int .i64 0,.slice none 0 0]) 4 (.slice (some ⟨R,0,none⟩) (shN s) cR) (Nat.le_of_eq hP.symm) (by kernel_rfl));obtain ⟨c0,c1,c2,c3,c4,c5,c6,c7,c8,c9,c10,c11,c12⟩:=yn hm0.blk;have f4:=zg hm0.blk 4;clear c1 c2 c3 c5 c6 c7 c8 c9 c10 c11 c12 hm0 hoR hb3 s6;go_upto_region 3 with fail
 generalize w3.setCell ⟨P,4,none⟩ (.slice (some ⟨R,0,none⟩) (shN s) cR)=W3 at *;clear c0 c4 f4;have hpl:=Nat.le_of_eq hP.symm;obtain ⟨iV,hV,g1,g2,g3⟩:=info_parts infoV;have HV:=hid (show iV.zero=_∧iV.size=_∧iV.bytes=_ from ⟨g1,g2,g3⟩);have HV0:=hid hV;clear hV g1 g2 g3;go_wp2_with fail
 go_loopw [4] (fun i wr=>∃ (j:Nat) (vb:Value),j≤shN s∧i=.int .i64 j∧MkS P w2 #[.int .i64 (shN s),.slice ta tl tc,.slice tb tm td,vb,.slice (some ⟨R,0,none⟩) (shN s) cR,.int .i64 0,.int .i64 0,.int .i64 0,.float .f64 0,.float .f64 0,.float .f64 0,.int .i64 0,.slice none 0 0] (shN s) (uV s.ms) (.slice (some ⟨R,0,none⟩) (shN s) cR) j (shB s) vb 0 (yT s) (.slice none 0 0) wr) (fun i _=>shN s-(intOf i).toNat)
 case atStart=>exact ⟨0,_,by omega,rfl,HM.out⟩
 case round=>
  clear HM;obtain ⟨j,vb,hj,rfl,hm⟩:=hrel;obtain ⟨c0,c1,c2,c3,c4,c5,c6,c7,c8',c9,c10,c11,c12⟩:=yn hm.blk;have f3:=zg hm.blk 3;have HM:=hid hm;clear c1 c2 c5 c6 c7 c8' c9 c10 c11 c12
  obtain ⟨ab,cb,rfl⟩:∃ a c,vb=.slice a j c:=by
   obtain ⟨qs,q1,-⟩:=hm.box;exact ym q1
  by_cases hjn:j<shN s
  ·have j1:(j:Int)<(shN s:Int):=by omega
   obtain ⟨qs,q1,q2⟩:=hm.row;obtain ⟨u,u1,u2,u3⟩:=(show yd wr (P+1) R (shN s) cR (uV s.ms) from ⟨qs,q1,q2⟩).cell hjn;have hx1:=Int.emod_nonneg (nth s.ms j j) (show (65:Int)≠0 by decide);have hx2:=Int.emod_lt_of_pos (nth s.ms j j) (show (0:Int)<65 by decide);have hcv:=ox (x:=nth s.ms j j % 65-32) (by omega) (by omega)
   have huv:u=c8 (nth s.ms j j % 65-32):=by
    have e:zk u=c8 (nth s.ms j j % 65-32):=u2;rw [← e];refine (wd ?_).symm;rw [← yN,e];exact kz (by omega) (by omega)
   have HPV:=hid (show uT (c8 (nth s.ms j j % 65-32))=shB s j from rfl);obtain ⟨⟨pv1,pv2⟩,⟨pv3,pv4⟩⟩:=ly (x:=nth s.ms j j % 65-32) (by omega) (by omega);subst huv;generalize c8 (nth s.ms j j % 65-32)=u at *;have pu1:∀ w,zZ .sub w u 4625196817309499392=(uT u).1:=pv1;have pu3:∀ w,zZ .add w u 4625196817309499392=(uT u).2:=pv3;clear hx1 hx2 hcv u2 q1 q2 hm pv1 pv3;go_wp2_with fail;refine zv [(0,1),(1,3),(2,1),(3,3),(4,1),(5,1),(6,3),(7,1),(8,1),(9,3),(10,1),(11,1),(12,3),(13,1),(14,1),(15,0),(16,0),(17,1),(18,0)] (fun W=>W.cell? ⟨P,3,none⟩=some (.slice ab j cb)∧W.cell? ⟨P,4,none⟩=some (.slice (some ⟨R,0,none⟩) (shN s) cR)∧W.cell? ⟨R,j,none⟩=some (.float .f64 u)) (by kernel_rfl) (by kernel_rfl) (fun _ _ d _ _ h=>by cases d<;>exact h) (⟨c3,c4,u1⟩) ?_;intro Z hZ hrZ;have hbZ:Below wr.heap.size wr Z:=by rw [hZ]; exact (Below.refl _ _).drew
   have HMZ:=hid (HM.out.step hpl hbZ);have hRl:R<wr.heap.size:=by obtain ⟨qs,q1,-⟩:=HM.out.row; exact (q1.lt R rfl).2
   clear hZ c0 c3 f3 c4 u1
   iterate 1
    first
     | refine zd (fun K hK=>?_)
     | refine ze (fun K hK=>?_)
    go_simp;refine hK _ ?_;clear hK K
   refine zh (v:=.slice ab j cb) rfl rfl (fun wk hwk=>?_) ?_
   ·obtain ⟨k1,k2,k3⟩:=hwk;go_simp
   iterate 1
    first
     | refine zd (fun K hK=>?_)
     | refine ze (fun K hK=>?_)
    go_simp;refine hK _ ?_;clear hK K
   refine zh (v:=.slice (some ⟨R,0,none⟩) (shN s) cR) rfl rfl (fun wk hwk=>?_) ?_
   ·obtain ⟨k1,k2,k3⟩:=hwk;go_simp
   iterate 2
    first
     | refine zd (fun K hK=>?_)
     | refine ze (fun K hK=>?_)
    go_simp;refine hK _ ?_;clear hK K
   refine zh (v:=.float .f64 u) rfl rfl (fun wk hwk=>?_) ?_
   ·obtain ⟨k1,k2,k3⟩:=hwk;go_simp
   refine zd (fun K hK=>?_);go_simp;refine ⟨_,fun _=>⟨rfl,rfl⟩,hK _ ?_⟩;clear hK K
   iterate 1
    first
     | refine zd (fun K hK=>?_)
     | refine ze (fun K hK=>?_)
    go_simp;refine hK _ ?_;clear hK K
   refine zh (v:=.slice (some ⟨R,0,none⟩) (shN s) cR) rfl rfl (fun wk hwk=>?_) ?_
   ·obtain ⟨k1,k2,k3⟩:=hwk;go_simp
   iterate 2
    first
     | refine zd (fun K hK=>?_)
     | refine ze (fun K hK=>?_)
    go_simp;refine hK _ ?_;clear hK K
   refine zh (v:=.float .f64 u) rfl rfl (fun wk hwk=>?_) ?_
   ·obtain ⟨k1,k2,k3⟩:=hwk;go_simp
   refine zd (fun K hK=>?_);go_simp;refine ⟨_,fun _=>⟨rfl,rfl⟩,hK _ ?_⟩;clear hK K
   iterate 1
    first
     | refine zd (fun K hK=>?_)
     | refine ze (fun K hK=>?_)
    go_simp;refine hK _ ?_;clear hK K
   obtain ⟨y1,y2,y3⟩:=al1 Z (.cells #[.float .f64 (uT u).1,.float .f64 (uT u).2] 69);have hbA:=hbZ.trans (y3.mono hbZ.size);have hPZ:=HMZ.out.lt;have hZs:=hbZ.size;have c3A:=(y3.cell (p:=⟨P,3,none⟩) (show P<_ by omega)).trans hrZ.1;have c4A:=(y3.cell (p:=⟨P,4,none⟩) (show P<_ by omega)).trans hrZ.2.1;have u1A:=(y3.cell (p:=⟨R,j,none⟩) (show R<_ by omega)).trans hrZ.2.2;refine zm (fun K hK=>?_);go_simp;refine hK _ _ (fun h=>Bool.noConfusion (Eq.trans (Eq.symm (by kernel_rfl:_=false)) h)) (fun _=>⟨c3A,c4A,u1A⟩) ?_;clear hK K;have hmA:=HMZ.out.step hpl y3;obtain ⟨qs,q1,q2⟩:=hmA.box;refine zm (fun K hK=>?_);refine yJ rfl ?_;refine step_append_lies _ (by rfl) _ _ 29 (by rfl) (P+1) 69 iV (.agg #[.float .f64 0,.float .f64 0]) 2 16 Tryz.underlying29 HV0.out HV.out.1 HV.out.2.1 HV.out.2.2 rfl (by decide) _ j qs (by rfl) q1 ⟨Z.heap.size,0,none⟩ 1 1 [.float .f64 (uT u).1,.float .f64 (uT u).2] (by rfl) (by rfl) (World.news_of_block (cs:=#[.float .f64 (uT u).1,.float .f64 (uT u).2]) (t:=69) (fr:=(0,0)) y1) (by simp [Value.oneCell']) (by omega) (by unfold maxLen; omega) (by omega) (by omega) (Z.heap.size+1) y2 ?_;intro gg cap1 wn hown1 hgrow hat hlt1;have hmB:=hmA.box1 (vb':=.slice (some ⟨gg,0,none⟩) (j+1) cap1) hgrow ⟨_,hown1,q2.app q1.1 (by rw [← HPV.out]; exact wK _ _ _) (sE _ _ _) (by rw [← HPV.out]; exact wK _ _ _) (sE _ _ _)⟩;have HMC:=hid (hmB.set (pv':=#[.int .i64 (shN s),.slice ta tl tc,.slice tb tm td,.slice (some ⟨gg,0,none⟩) (j+1) cap1,.slice (some ⟨R,0,none⟩) (shN s) cR,.int .i64 0,.int .i64 0,.int .i64 0,.float .f64 0,.float .f64 0,.float .f64 0,.int .i64 0,.slice none 0 0]) 3 (.slice (some ⟨gg,0,none⟩) (j+1) cap1) hpl (by kernel_rfl));have z1:=zf hmB.blk 3;have z2:=zg hmB.blk 3;have z4:=zf hmB.blk 4;simp only [List.getElem?_toArray,List.getElem?_cons_zero,List.getElem?_cons_succ] at z1 z4
   have z5:=hgrow.cell u1A (by
    obtain ⟨rs,r1,-⟩:=hmA.row;rcases vM r1 q1 rfl with e | e
    ·cases e
    ·exact fun e2=>e e2)
   clear hown1 hgrow hat hlt1 hmB hmA q1 q2 c3A c4A u1A hbA hPZ y1 y2 y3 hbZ hrZ HMZ HM HPV hRl hZs;refine hK _ _ (fun h=>Bool.noConfusion (Eq.trans (Eq.symm (by kernel_rfl:_=false)) h)) (fun _=>⟨z1,z4,z5⟩) ?_;clear hK K
   iterate 1
    first
     | refine zd (fun K hK=>?_)
     | refine ze (fun K hK=>?_)
    go_simp;refine hK _ ?_;clear hK K
   refine zm (fun K hK=>?_);go_simp;refine hK _ _ (fun h=>Bool.noConfusion (Eq.trans (Eq.symm (by kernel_rfl:_=false)) h)) (fun h=>Bool.noConfusion (Eq.trans (Eq.symm (by kernel_rfl:_=false)) h)) ?_;clear hK K;refine zo ?_;clear z1 z2 z4 z5;go_wp2_with fail
   go_roundw
   case rel=>exact ⟨j+1,_,by omega,by go_num,HMC.out⟩
   case measure=>simp [intOf]; omega
  ·obtain rfl:j=shN s:=by omega
   clear f3 c3 c4 hm;go_upto_region 7 with fail
   clear c0;obtain ⟨c0,c1,c2,c3,c4,c5,c6,c7,c8',c9,c10,c11,c12⟩:=yn HM.out.blk;have f6:=zg HM.out.blk 6;have SBW:=hid (fun W (hW:Below P w2 W)=>SB.out W (HB2.out.trans (hW.mono (by omega))));obtain ⟨s0,s1,s2,s3,s4,s5,s6,s7,s8⟩:=vs (SBW.out wr HM.out.bel);clear c0 c1 c2 c3 c4 c5 c7 c8' c9 c10 c11 c12 s0 s2 s3 s4 s5 s6 s7 s8;have k1:IntKind.i64.wrap (16+(S1:Int))=16+(S1:Int):=IntWalk.i64_in _ (by omega);go_wp2_with fail;refine (W13.out _).mono ?_;rintro e w' ⟨rfl,rfl⟩;have k2:=shl24 (16+S1) (by omega);go_upto_region 8 with fail
   have k3:(2:Int) ^ (16+S1)=tk (16+S1):=by unfold tk; push_cast; rfl
   simp only [k3];have HM7:=hid (HM.out.set (pv':=#[.int .i64 (shN s),.slice ta tl tc,.slice tb tm td,.slice ab (shN s) cb,.slice (some ⟨R,0,none⟩) (shN s) cR,.int .i64 0,.int .i64 (tk (16+S1)),.int .i64 0,.float .f64 0,.float .f64 0,.float .f64 0,.int .i64 0,.slice none 0 0]) 6 (.int .i64 (tk (16+S1))) hpl (by kernel_rfl));generalize wr.setCell ⟨P,6,none⟩ (.int .i64 (tk (16+S1)))=W7 at *;clear k1 k2 k3 c6 f6 s1 HM;obtain ⟨c0,c1,c2,c3,c4,c5,c6,c7,c8',c9,c10,c11,c12⟩:=yn HM7.out.blk;have f7:=zg HM7.out.blk 7;obtain ⟨s0,s1,s2,s3,s4,s5,s6,s7,s8⟩:=vs (SBW.out W7 HM7.out.bel);clear c0 c1 c2 c3 c4 c5 c8' c9 c10 c11 c12 s0 s1 s3 s4 s5 s6 s7 s8;refine zw [(0,1),(1,2),(2,1),(3,2),(4,0),(5,1),(6,1),(7,1),(8,0)] (by kernel_rfl) (by kernel_rfl) (fun _ _ d _ _ h=>by cases d<;>exact h) ?_;intro Z hZ;have hZZ:∀ b o,Z.cell? ⟨b,o,none⟩=W7.cell? ⟨b,o,none⟩:=fun b o=>by rw [hZ]; rfl
   have hzf:∀ b o,Z.frozen? ⟨b,o,none⟩=W7.frozen? ⟨b,o,none⟩:=fun b o=>by rw [hZ]; rfl
   have HM8:=hid (HM7.out.step hpl (show Below W7.heap.size W7 Z by rw [hZ]; exact (Below.refl _ _).drew));rw [← hZZ] at c6 c7 s2;rw [← hzf] at f7;clear hZ hZZ hzf HM7
   iterate 4
    first
     | refine zd (fun K hK=>?_)
     | refine ze (fun K hK=>?_)
    go_simp;refine hK _ ?_;clear hK K
   refine zx (fun K hK=>?_);go_simp;refine (W10.out _).mono ?_;rintro e w' ⟨rfl,rfl⟩;refine hK _ _ (fun _=>⟨0,rfl⟩) ?_;clear hK K;have k5:=shr13 ⟨S1,hS1l⟩ ⟨S2,hS2l⟩;simp only [] at k5
   iterate 3
    first
     | refine zd (fun K hK=>?_)
     | refine ze (fun K hK=>?_)
    go_simp;refine hK _ ?_;clear hK K
   clear k5;refine zx (fun K hK=>?_);go_simp;refine hK _ _ (fun h=>Bool.noConfusion (Eq.trans (Eq.symm (by kernel_rfl:_=false)) h)) ?_;clear hK K;have HM9:=hid (HM8.out.set (pv':=#[.int .i64 (shN s),.slice ta tl tc,.slice tb tm td,.slice ab (shN s) cb,.slice (some ⟨R,0,none⟩) (shN s) cR,.int .i64 0,.int .i64 (tk (16+S1)),.int .i64 (tk (16+S1-S2)),.float .f64 0,.float .f64 0,.float .f64 0,.int .i64 0,.slice none 0 0]) 7 (.int .i64 (tk (16+S1-S2))) hpl (by kernel_rfl));refine zo ?_;generalize Z.setCell ⟨P,7,none⟩ (.int .i64 (tk (16+S1-S2)))=W9 at *;clear c6 c7 f7 s2 HM8;obtain ⟨c0,c1,c2,c3,c4,c5,c6,c7,c8',c9,c10,c11,c12⟩:=yn HM9.out.blk;have f5:=zg HM9.out.blk 5;obtain ⟨s0,s1,s2,s3,s4,s5,s6,s7,s8⟩:=vs (SBW.out W9 HM9.out.bel);clear c0 c1 c2 c3 c4 c6 c7 c8' c9 c10 c11 c12 s0 s1 s2 s3 s5 s6 s7 s8;have k1:IntKind.i64.wrap (1+s.en % 536870912)=1+s.en % 536870912:=IntWalk.i64_in _ (by omega);go_wp2_with fail;refine (WE.out _).mono ?_;rintro e w' ⟨rfl,rfl⟩;go_upto_region 10 with fail
   have HM10:=hid (HM9.out.set (pv':=#[.int .i64 (shN s),.slice ta tl tc,.slice tb tm td,.slice ab (shN s) cb,.slice (some ⟨R,0,none⟩) (shN s) cR,.int .i64 (1+s.en % 536870912),.int .i64 (tk (16+S1)),.int .i64 (tk (16+S1-S2)),.float .f64 0,.float .f64 0,.float .f64 0,.int .i64 0,.slice none 0 0]) 5 (.int .i64 (1+s.en % 536870912)) hpl (by kernel_rfl));generalize W9.setCell ⟨P,5,none⟩ (.int .i64 (1+s.en % 536870912))=W10' at *;clear k1 c5 f5 s4 HM9;obtain ⟨c0,c1,c2,c3,c4,c5,c6,c7,c8',c9,c10,c11,c12⟩:=yn HM10.out.blk;have f5:=zg HM10.out.blk 5;obtain ⟨s0,s1,s2,s3,s4,s5,s6,s7,s8⟩:=vs (SBW.out W10' HM10.out.bel);clear c0 c1 c2 c3 c4 c7 c8' c9 c10 c11 c12 s0 s1 s2 s3 s5 s6 s7 s8;go_wp2_with fail;refine (WF.out _).mono ?_;rintro e w' ⟨rfl,rfl⟩
   go_upto_if 70 with fail
   go_cut [] (fun wx=>MkS P w2 #[.int .i64 (shN s),.slice ta tl tc,.slice tb tm td,.slice ab (shN s) cb,.slice (some ⟨R,0,none⟩) (shN s) cR,.int .i64 (shE s),.int .i64 (tk (16+S1)),.int .i64 (tk (16+S1-S2)),.float .f64 0,.float .f64 0,.float .f64 0,.int .i64 0,.slice none 0 0] (shN s) (uV s.ms) (.slice (some ⟨R,0,none⟩) (shN s) cR) (shN s) (shB s) (.slice ab (shN s) cb) 0 (yT s) (.slice none 0 0) wx)
   case first=>
    by_cases e4:s.en % 4=0
    ·have q4:(s.en % 4==0)=true:=by simpa using e4
     have hES:=hid (show shE s=4*tk (16+S1) by unfold shE; rw [if_pos e4,HKF.out]);clear e4;have k6:IntKind.i64.wrap (4*tk (16+S1))=4*tk (16+S1):=IntWalk.i64_in _ (by have:=uZ (16+S1); have:=pQ (k:=16+S1) (by omega); omega);go_wp2_with fail;go_meet;rw [hES.out];exact HM10.out.set 5 (.int .i64 (4*tk (16+S1))) hpl (by kernel_rfl)
    ·have q4:(s.en % 4==0)=false:=by simpa using e4
     have hES:=hid (show shE s=1+s.en % 536870912 by unfold shE; rw [if_neg e4]);clear e4;go_wp2_with fail;go_meet;rw [hES.out];exact HM10.out
   case rest=>
    have HM11:=hid hcut;clear hcut HM10 c5 c6 f5 s4;generalize wc=W11 at *;obtain ⟨c0,c1,c2,c3,c4,c5,c6,c7,c8',c9,c10,c11,c12⟩:=yn HM11.out.blk;have f8:=zg HM11.out.blk 8;obtain ⟨s0,s1,s2,s3,s4,s5,s6,s7,s8⟩:=vs (SBW.out W11 HM11.out.bel);clear c0 c1 c2 c3 c4 c5 c6 c7 c9 c10 c11 c12 s0 s1 s2 s4 s5 s6 s7 s8;go_wp2_with fail;refine (W24.out _).mono ?_;rintro e w' ⟨rfl,rfl⟩;have k7:=kB ⟨S4,hS4l⟩;simp only [] at k7;have k8:=xx (lz ⟨S4,hS4l⟩);rw [← HKA.out] at k8;obtain ⟨k8,k9⟩:=k8;simp only [] at k8 k9
    push_cast at k8 k9
    go_upto_region 13 with fail
    have HM12:=hid (HM11.out.set (pv':=#[.int .i64 (shN s),.slice ta tl tc,.slice tb tm td,.slice ab (shN s) cb,.slice (some ⟨R,0,none⟩) (shN s) cR,.int .i64 (shE s),.int .i64 (tk (16+S1)),.int .i64 (tk (16+S1-S2)),.float .f64 (shA s),.float .f64 0,.float .f64 0,.int .i64 0,.slice none 0 0]) 8 (.float .f64 (shA s)) hpl (by kernel_rfl))
    try simp only [World.drewN_zero]
    generalize W11.setCell ⟨P,8,none⟩ (.float .f64 (shA s))=W12 at *;clear k7 k8 k9 c8' f8 s3 HM11;obtain ⟨c0,c1,c2,c3,c4,c5,c6,c7,c8',c9,c10,c11,c12⟩:=yn HM12.out.blk;have f9:=zg HM12.out.blk 9;obtain ⟨s0,s1,s2,s3,s4,s5,s6,s7,s8⟩:=vs (SBW.out W12 HM12.out.bel);clear c0 c1 c2 c3 c4 c5 c6 c7 c8' c10 c11 c12 s0 s1 s2 s4 s5 s6 s7 s8;have k1:IntKind.i64.wrap (s.tol.tdiv 24)=s.tol.tdiv 24:=kC HRF.out;go_wp2_with fail;refine (WT3.out _).mono ?_;rintro e w' ⟨rfl,rfl⟩;have k8:=xx (lA ⟨S5,hS5l⟩);simp only [] at k8;rw [← HKR.out] at k8;obtain ⟨k8,k9⟩:=k8;go_upto_region 14 with fail
    have HM13:=hid (HM12.out.set (pv':=#[.int .i64 (shN s),.slice ta tl tc,.slice tb tm td,.slice ab (shN s) cb,.slice (some ⟨R,0,none⟩) (shN s) cR,.int .i64 (shE s),.int .i64 (tk (16+S1)),.int .i64 (tk (16+S1-S2)),.float .f64 (shA s),.float .f64 (shR s),.float .f64 0,.int .i64 0,.slice none 0 0]) 9 (.float .f64 (shR s)) hpl (by kernel_rfl));generalize W12.setCell ⟨P,9,none⟩ (.float .f64 (shR s))=W13 at *;clear k1 k8 k9 c9 f9 s3 HM12;obtain ⟨c0,c1,c2,c3,c4,c5,c6,c7,c8',c9,c10,c11,c12⟩:=yn HM13.out.blk;have f10:=zg HM13.out.blk 10;clear c0 c1 c2 c3 c4 c5 c6 c7 c8' c9 c11 c12;go_upto_region 15 with fail
    have HM14:=hid (HM13.out.set (pv':=#[.int .i64 (shN s),.slice ta tl tc,.slice tb tm td,.slice ab (shN s) cb,.slice (some ⟨R,0,none⟩) (shN s) cR,.int .i64 (shE s),.int .i64 (tk (16+S1)),.int .i64 (tk (16+S1-S2)),.float .f64 (shA s),.float .f64 (shR s),.float .f64 4616189618054758400,.int .i64 0,.slice none 0 0]) 10 (.float .f64 4616189618054758400) hpl (by kernel_rfl));generalize W13.setCell ⟨P,10,none⟩ (.float .f64 4616189618054758400)=W14 at *;clear c10 f10 HM13;obtain ⟨c0,c1,c2,c3,c4,c5,c6,c7,c8',c9,c10,c11,c12⟩:=yn HM14.out.blk;have f11:=zg HM14.out.blk 11;clear c0 c1 c2 c3 c4 c5 c6 c7 c8' c9 c10 c12;go_upto_region 16 with fail
    have HM15:=hid (HM14.out.set (pv':=#[.int .i64 (shN s),.slice ta tl tc,.slice tb tm td,.slice ab (shN s) cb,.slice (some ⟨R,0,none⟩) (shN s) cR,.int .i64 (shE s),.int .i64 (tk (16+S1)),.int .i64 (tk (16+S1-S2)),.float .f64 (shA s),.float .f64 (shR s),.float .f64 4616189618054758400,.int .i64 24,.slice none 0 0]) 11 (.int .i64 24) hpl (by kernel_rfl));generalize W14.setCell ⟨P,11,none⟩ (.int .i64 24)=W15 at *;clear c11 f11 HM14;obtain ⟨iI,hI,g1,g2,g3⟩:=info_parts tj;have HI:=hid (show iI.zero=_∧iI.size=_∧iI.bytes=_ from ⟨g1,g2,g3⟩);have HI0:=hid hI;clear hI g1 g2 g3;have hE0:=lV s;have hE1:=kD s
    go_upto_block 2 with fail
    go_cut [] (fun wx=>∃ vt,MkS P w2 #[.int .i64 (shN s),.slice ta tl tc,.slice tb tm td,.slice ab (shN s) cb,.slice (some ⟨R,0,none⟩) (shN s) cR,.int .i64 (shE s),.int .i64 (tk (16+S1)),.int .i64 (tk (16+S1-S2)),.float .f64 (shA s),.float .f64 (shR s),.float .f64 4616189618054758400,.int .i64 24,vt] (shN s) (uV s.ms) (.slice (some ⟨R,0,none⟩) (shN s) cR) (shN s) (shB s) (.slice ab (shN s) cb) (shM s) (yT s) vt wx)
    case first=>
     go_wp2_with fail
     go_loopw [5] (fun i wr=>∃ (j:Nat) (vt:Value),j≤shM s∧i=.int .i64 j∧MkS P w2 #[.int .i64 (shN s),.slice ta tl tc,.slice tb tm td,.slice ab (shN s) cb,.slice (some ⟨R,0,none⟩) (shN s) cR,.int .i64 (shE s),.int .i64 (tk (16+S1)),.int .i64 (tk (16+S1-S2)),.float .f64 (shA s),.float .f64 (shR s),.float .f64 4616189618054758400,.int .i64 24,vt] (shN s) (uV s.ms) (.slice (some ⟨R,0,none⟩) (shN s) cR) (shN s) (shB s) (.slice ab (shN s) cb) j (yT s) vt wr) (fun i _=>shM s-(intOf i).toNat)
     case atStart=>exact ⟨0,_,by omega,rfl,HM15.out⟩
     case round=>
      clear HM15;obtain ⟨j,vt,hj,rfl,hm⟩:=hrel;obtain ⟨c0,c1,c2,c3,c4,c5,c6,c7,c8',c9,c10,c11,c12⟩:=yn hm.blk;obtain ⟨s0,s1,s2,s3,s4,s5,s6,s7,s8⟩:=vs (SBW.out wr hm.bel);have HM:=hid hm;clear c0 c1 c2 c3 c4 c6 c7 c8' c9 c10 c11 s0 s1 s2 s3 s4 s5 s6 s8;obtain ⟨at',ct,rfl⟩:∃ a c,vt=.slice a j c:=ym hm.out;have hjm:j≤s.outs.length∧j≤8:=by unfold shM at hj; omega
      clear hm;by_cases h1:j<s.outs.length
      ·have j1:(j:Int)<(s.outs.length:Int):=by omega
       by_cases h2:j<8
       ·have j2:(j:Int)<8:=by omega
        have hBW:=BX.out wr (HB2.out.trans (HM.out.bel.mono (by omega)));obtain ⟨a3',c3',he3,-,hc3⟩:=HI3.out w (Below.refl _ _);simp only [Value.slice.injEq] at he3;obtain ⟨rfl,-,rfl⟩:=he3;obtain ⟨b3,o3,rfl,hb3,hz3⟩:=hc3 (by omega);have u1:wr.cell? ⟨b3,o3+j,none⟩=some (.int .i64 (s.outs.getD j 0)):=(hBW.cell (p:=⟨b3,o3+j,none⟩) (show b3<B by omega)).trans (hz3 j h1);have hjM:j<shM s:=by unfold shM; omega
        clear hz3 hc3 hBW;have k1:IntKind.i64.wrap (shE s+1)=shE s+1:=IntWalk.i64_in _ (by omega);have HOJ:=hid (show s.outs.getD j 0 % (shE s+1)=yT s j from rfl);generalize s.outs.getD j 0=zz at *;go_wp2_with fail;refine zv [(0,1),(1,3),(2,1),(3,3),(4,1),(5,1),(6,3),(7,1),(8,3),(9,1),(10,0),(11,0),(12,0),(13,1),(14,0)] (fun W=>W.cell? ⟨P,12,none⟩=some (.slice at' j ct)∧W.cell? ⟨B,7,none⟩=some (.slice (some ⟨b3,o3,none⟩) s.outs.length c3)∧W.cell? ⟨b3,o3+j,none⟩=some (.int .i64 (zz))∧W.cell? ⟨P,5,none⟩=some (.int .i64 (shE s))) (by kernel_rfl) (by kernel_rfl) (fun _ _ d _ _ h=>by cases d<;>exact h) (⟨c12,s7,u1,c5⟩) ?_;intro Z hZ hrZ;have hbZ:Below wr.heap.size wr Z:=by rw [hZ]; exact (Below.refl _ _).drew
        have HMZ:=hid (HM.out.step hpl hbZ);have hZs:=hbZ.size;have hPw:=HM.out.lt;have hBw:=HM.out.bel.size;clear hZ c12 s7 u1 c5
        iterate 1
         first
          | refine zd (fun K hK=>?_)
          | refine ze (fun K hK=>?_)
         go_simp;refine hK _ ?_;clear hK K
        refine zh (v:=.slice at' j ct) rfl rfl (fun wk hwk=>?_) ?_
        ·obtain ⟨k1,k2,k3,k4⟩:=hwk;go_simp
        iterate 1
         first
          | refine zd (fun K hK=>?_)
          | refine ze (fun K hK=>?_)
         go_simp;refine hK _ ?_;clear hK K
        refine zh (v:=.slice (some ⟨b3,o3,none⟩) s.outs.length c3) rfl rfl (fun wk hwk=>?_) ?_
        ·obtain ⟨k1,k2,k3,k4⟩:=hwk;go_simp
        iterate 2
         first
          | refine zd (fun K hK=>?_)
          | refine ze (fun K hK=>?_)
         go_simp;refine hK _ ?_;clear hK K
        refine zh (v:=.int .i64 (zz)) rfl rfl (fun wk hwk=>?_) ?_
        ·obtain ⟨k1,k2,k3,k4⟩:=hwk;go_simp
        iterate 1
         first
          | refine zd (fun K hK=>?_)
          | refine ze (fun K hK=>?_)
         go_simp;refine hK _ ?_;clear hK K
        refine zh (v:=.int .i64 (shE s)) rfl rfl (fun wk hwk=>?_) ?_
        ·obtain ⟨k1,k2,k3,k4⟩:=hwk;go_simp
        iterate 1
         first
          | refine zd (fun K hK=>?_)
          | refine ze (fun K hK=>?_)
         go_simp;refine hK _ ?_;clear hK K
        refine zm (fun K hK=>?_);go_simp;refine (wU (zz) (shE s+1) Z (by omega) (by omega)).mono ?_;rintro e w' ⟨rfl,rfl⟩;rw [HOJ.out];refine hK _ _ (fun h=>Bool.noConfusion (Eq.trans (Eq.symm (by kernel_rfl:_=false)) h)) (fun _=>hrZ) ?_;clear hK K;obtain ⟨y1,y2,y3⟩:=al1 Z (.cells #[.int .i64 (yT s j)] 3);have hbA:=hbZ.trans (y3.mono hbZ.size);have c12A:=(y3.cell (p:=⟨P,12,none⟩) (show P<_ by omega)).trans hrZ.1;have s7A:=(y3.cell (p:=⟨B,7,none⟩) (show B<_ by omega)).trans hrZ.2.1;have u1A:=(y3.cell (p:=⟨b3,o3+j,none⟩) (show b3<_ by omega)).trans hrZ.2.2.1;have c5A:=(y3.cell (p:=⟨P,5,none⟩) (show P<_ by omega)).trans hrZ.2.2.2;refine zm (fun K hK=>?_);go_simp;refine hK _ _ (fun h=>Bool.noConfusion (Eq.trans (Eq.symm (by kernel_rfl:_=false)) h)) (fun _=>⟨c12A,s7A,u1A,c5A⟩) ?_;clear hK K;have hmA:=HMZ.out.step hpl y3;refine zm (fun K hK=>?_);refine yJ rfl ?_;refine step_append_lies _ (by rfl) _ _ 22 (by rfl) (P+1) 3 iI (.int .i64 0) 1 8 Tryz.underlying22 HI0.out HI.out.1 HI.out.2.1 HI.out.2.2 rfl (by decide) _ j (yY (yT s) j) (by rfl) hmA.out ⟨Z.heap.size,0,none⟩ 1 1 [.int .i64 (yT s j)] (by rfl) (by rfl) (World.news_of_block (cs:=#[.int .i64 (yT s j)]) (t:=3) (fr:=(0,0)) y1) (by simp [Value.oneCell']) (by omega) (by unfold maxLen; omega) (by omega) (by omega) (Z.heap.size+1) y2 ?_;intro gg cap1 wn hown1 hgrow hat hlt1;have hmB:=hmA.out1 (vt':=.slice (some ⟨gg,0,none⟩) (j+1) cap1) hgrow hown1;have HMC:=hid (hmB.set (pv':=#[.int .i64 (shN s),.slice ta tl tc,.slice tb tm td,.slice ab (shN s) cb,.slice (some ⟨R,0,none⟩) (shN s) cR,.int .i64 (shE s),.int .i64 (tk (16+S1)),.int .i64 (tk (16+S1-S2)),.float .f64 (shA s),.float .f64 (shR s),.float .f64 4616189618054758400,.int .i64 24,.slice (some ⟨gg,0,none⟩) (j+1) cap1]) 12 (.slice (some ⟨gg,0,none⟩) (j+1) cap1) hpl (by kernel_rfl));have z1:=zf hmB.blk 12;have z2:=zg hmB.blk 12;have z4:=zf hmB.blk 5;simp only [List.getElem?_toArray,List.getElem?_cons_zero,List.getElem?_cons_succ] at z1 z4;have hne:∀ b,b<P+1→some b≠(Value.slice at' j ct).ownBlock:=fun b hb e=>by have:=(hmA.out.lt b e.symm).1; omega
        have z5:=hgrow.cell s7A (hne B (by omega));have z6:=hgrow.cell u1A (hne b3 (by omega));clear hown1 hgrow hat hlt1 hmB hmA c12A s7A u1A c5A hbA y1 y2 y3 hbZ hrZ HMZ HM hZs hPw hBw;refine hK _ _ (fun h=>Bool.noConfusion (Eq.trans (Eq.symm (by kernel_rfl:_=false)) h)) (fun _=>⟨z1,z5,z6,z4⟩) ?_;clear hK K
        iterate 1
         first
          | refine zd (fun K hK=>?_)
          | refine ze (fun K hK=>?_)
         go_simp;refine hK _ ?_;clear hK K
        refine zm (fun K hK=>?_);go_simp;refine hK _ _ (fun h=>Bool.noConfusion (Eq.trans (Eq.symm (by kernel_rfl:_=false)) h)) (fun h=>Bool.noConfusion (Eq.trans (Eq.symm (by kernel_rfl:_=false)) h)) ?_;clear hK K;refine zo ?_;clear z1 z2 z4 z5 z6 k1;go_wp2_with fail
        go_roundw
        case rel=>exact ⟨j+1,_,by omega,by go_num,HMC.out⟩
        case measure=>simp [intOf]; omega
       ·have j2:¬ (j:Int)<8:=by omega
        have hjM:j=shM s:=by unfold shM at hj ⊢; omega
        clear c5 c12;go_wp2_with fail;go_meet;exact ⟨_,hjM ▸ HM.out⟩
      ·have j1:¬ (j:Int)<(s.outs.length:Int):=by omega
       have hjM:j=shM s:=by unfold shM at hj ⊢; omega
       clear c5 c12;go_wp2_with fail;go_meet;exact ⟨_,hjM ▸ HM.out⟩
    case rest=>
     obtain ⟨vt,hm⟩:=hcut;have HMR:=hid (hm);obtain ⟨at',ct,rfl⟩:∃ a c,vt=.slice a (shM s) c:=ym hm.out;clear hm HM15;obtain ⟨c0,c1,c2,c3,c4,c5,c6,c7,c8',c9,c10,c11,c12⟩:=yn HMR.out.blk;clear c0 c1 c2 c3 c4 c5 c6 c7 c8' c9 c10 c11
     go_upto_block 4 with fail
     go_cut [] (fun wx=>MkS P w2 #[.int .i64 (shN s),.slice ta tl tc,.slice tb tm td,.slice ab (shN s) cb,.slice (some ⟨R,0,none⟩) (shN s) cR,.int .i64 (shE s),.int .i64 (tk (16+S1)),.int .i64 (tk (16+S1-S2)),.float .f64 (shA s),.float .f64 (shR s),.float .f64 4616189618054758400,.int .i64 24,.slice at' (shM s) ct] (shN s) (uV s.ms) (.slice (some ⟨R,0,none⟩) (shN s) cR) (shN s) (shB s) (.slice ab (shN s) cb) (shM s) (uH (yT s)) (.slice at' (shM s) ct) wx)
     case first=>
      clear c12;go_wp2_with fail
      go_loopw [6] (fun i wr=>∃ (j:Nat),1≤j∧(j≤shM s∨j=1)∧i=.int .i64 j∧MkS P w2 #[.int .i64 (shN s),.slice ta tl tc,.slice tb tm td,.slice ab (shN s) cb,.slice (some ⟨R,0,none⟩) (shN s) cR,.int .i64 (shE s),.int .i64 (tk (16+S1)),.int .i64 (tk (16+S1-S2)),.float .f64 (shA s),.float .f64 (shR s),.float .f64 4616189618054758400,.int .i64 24,.slice at' (shM s) ct] (shN s) (uV s.ms) (.slice (some ⟨R,0,none⟩) (shN s) cR) (shN s) (shB s) (.slice ab (shN s) cb) (shM s) (fun i=>if i<j then uH (yT s) i else yT s i) (.slice at' (shM s) ct) wr) (fun i _=>shM s-(intOf i).toNat)
      case atStart=>
       refine ⟨1,by omega,.inr rfl,rfl,?_⟩
       have e:(fun i=>if i<1 then uH (yT s) i else yT s i)=yT s:=by
        funext i
        by_cases hi:i<1
        ·rw [if_pos hi,show i=0 by omega]; rfl
        ·rw [if_neg hi]
       rw [e];exact HMR.out
      case round=>
       clear HMR;obtain ⟨j,hj1,hj,rfl,hm⟩:=hrel;have c12:=(yn hm.blk).2.2.2.2.2.2.2.2.2.2.2.2;have HM:=hid hm;by_cases hjm:j<shM s
       ·have j1:(j:Int)<(shM s:Int):=by omega
        have j2:j-1<shM s:=by omega
        have hM8:shM s≤8:=by unfold shM; omega
        obtain ⟨G,rfl⟩:∃ G,at'=some ⟨G,0,none⟩:=by
         rcases hm.out.2 with ⟨hv,h0⟩ | ⟨g,c,cur,hv,-⟩
         ·rw [Value.slice.injEq] at hv; omega
         ·simp only [Value.slice.injEq] at hv;exact ⟨g,hv.1⟩
        have u1:=(hm.out.cellAt j (by omega)).trans (xz (k:=shM s) (fun i=>if i<j then uH (yT s) i else yT s i) hjm);have u2:=(hm.out.cellAt (j-1) (by omega)).trans (xz (k:=shM s) (fun i=>if i<j then uH (yT s) i else yT s i) (show j-1<shM s by omega));have f1:=hm.out.frozenAt j;rw [if_neg (by omega)] at u1;rw [if_pos (by omega)] at u2;have k1:IntKind.i64.wrap ((j:Int)-1)=((j-1:Nat):Int):=by rw [show ((j-1:Nat):Int)=(j:Int)-1 by omega]; exact IntWalk.i64_in _ (by omega)
        clear hm;go_wp2_with fail;refine zw [(0,1),(1,2),(2,1),(3,1),(4,2),(5,1),(6,1),(7,2),(8,1),(9,2),(10,1),(11,1),(12,1),(13,2),(14,1),(15,1),(16,0)] (by kernel_rfl) (by kernel_rfl) (fun _ _ d _ _ h=>by cases d<;>exact h) ?_;intro Z hZ;have hZZ:∀ b o,Z.cell? ⟨b,o,none⟩=wr.cell? ⟨b,o,none⟩:=fun b o=>by rw [hZ]; rfl
        have hzf:∀ b o,Z.frozen? ⟨b,o,none⟩=wr.frozen? ⟨b,o,none⟩:=fun b o=>by rw [hZ]; rfl
        have HMZ:=hid (HM.out.step hpl (show Below wr.heap.size wr Z by rw [hZ]; exact (Below.refl _ _).drew));rw [← hZZ] at c12 u1 u2;rw [← hzf] at f1;clear hZ hZZ hzf HM
        iterate 14
         first
          | refine zd (fun K hK=>?_)
          | refine ze (fun K hK=>?_)
         go_simp;refine hK _ ?_;clear hK K
        have hmx:=hid (show (if yT s j<uH (yT s) (j-1) then uH (yT s) (j-1) else yT s j)=uH (yT s) j by
         obtain ⟨i,rfl⟩:∃ i,j=i+1:=⟨j-1,by omega⟩;have e:uH (yT s) (i+1)=max (yT s (i+1)) (uH (yT s) i):=rfl;rw [show i+1-1=i by omega,e];split<;>omega)
        iterate 2
         first
          | refine zd (fun K hK=>?_)
          | refine ze (fun K hK=>?_)
         go_simp;refine hK _ ?_;clear hK K
        refine zx (fun K hK=>?_);go_simp;refine hK _ _ (fun h=>Bool.noConfusion (Eq.trans (Eq.symm (by kernel_rfl:_=false)) h)) ?_;clear hK K
        have HMC:=hid (HMZ.out.out2 (j:=j) (x:=uH (yT s) j) (g':=fun i=>if i<j+1 then uH (yT s) i else yT s i) hjm (fun i hi=>by
         by_cases e:i=j
         ·subst e; rw [if_pos (by omega),if_pos rfl]
         ·rw [if_neg e];by_cases e2:i<j
          ·rw [if_pos (by omega),if_pos e2]
          ·rw [if_neg (by omega),if_neg e2]))
        refine zo ?_;clear c12 u1 u2 f1 k1 HMZ;go_wp2_with fail
        go_roundw
        case rel=>exact ⟨j+1,by omega,.inl (by omega),by go_num,by rw [hmx.out]; exact HMC.out⟩
        case measure=>simp [intOf]; omega
       ·have hjM:∀ i,i<shM s→uH (yT s) i=if i<j then uH (yT s) i else yT s i:=fun i hi=>by
         rcases hj with h | h
         ·rw [if_pos (by omega)]
         ·by_cases h0:i<j
          ·rw [if_pos h0]
          ·omega
        have j1:¬ (j:Int)<(shM s:Int):=by omega
        clear hm;go_wp2_with fail;go_meet;exact HM.out.cong hjM
     case rest=>
      have HMF:=hid hcut;clear hcut HMR c12;have hRB:=RB.out wc (HB2.out.trans (HMF.out.bel.mono (by omega)));have hrow:=yx hRB #[.int .i64 (shN s),.slice ta tl tc,.slice tb tm td,.slice ab (shN s) cb,.slice (some ⟨R,0,none⟩) (shN s) cR,.int .i64 (shE s),.int .i64 (tk (16+S1)),.int .i64 (tk (16+S1-S2)),.float .f64 (shA s),.float .f64 (shR s),.float .f64 4616189618054758400,.int .i64 24,.slice at' (shM s) ct];have HRX:=hid hRB;have HRR:=hid hrow.2.1;have HKR2:=hid hrow.1;clear hRB hrow
      go_wp2_with (first
       | (refine wpList_load_row rfl 33 _ rfl P rfl 33 #[.int .i64 (shN s),.slice ta tl tc,.slice tb tm td,.slice ab (shN s) cb,.slice (some ⟨R,0,none⟩) (shN s) cR,.int .i64 (shE s),.int .i64 (tk (16+S1)),.int .i64 (tk (16+S1-S2)),.float .f64 (shA s),.float .f64 (shR s),.float .f64 4616189618054758400,.int .i64 24,.slice at' (shM s) ct] _ _ HMF.out.blk Tryz.underlying33 rfl (by kernel_rfl) ?_)
       | (refine wpList_store_row rfl 33 _ _ rfl (B+1) #[.int .i64 (shN s),.slice ta tl tc,.slice tb tm td,.slice ab (shN s) cb,.slice (some ⟨R,0,none⟩) (shN s) cR,.int .i64 (shE s),.int .i64 (tk (16+S1)),.int .i64 (tk (16+S1-S2)),.float .f64 (shA s),.float .f64 (shR s),.float .f64 4616189618054758400,.int .i64 24,.slice at' (shM s) ct] rfl rfl 33 _ HRX.out (by kernel_rfl) rfl (by simp [Value.oneCell']) ?_)
       | fail)
      refine yf 2 33 Tryz.results15 (B+1) 33 #[.int .i64 (shN s),.slice ta tl tc,.slice tb tm td,.slice ab (shN s) cb,.slice (some ⟨R,0,none⟩) (shN s) cR,.int .i64 (shE s),.int .i64 (tk (16+S1)),.int .i64 (tk (16+S1-S2)),.float .f64 (shA s),.float .f64 (shR s),.float .f64 4616189618054758400,.int .i64 24,.slice at' (shM s) ct] _ rfl HRR.out Tryz.underlying33 rfl (by kernel_rfl) rfl ?_;have hT:=xX.at (T:=shT s) ((HTO.out.below (hP ▸ HMF.out.bel)).kp HRX.out HKR2.out) (by have:=(nI s).1; omega) (by have:=(nI s).2; omega);rw [HTN.out] at hT;obtain ⟨qs,q1,q2⟩:=HMF.out.row;obtain ⟨rs,r1,r2⟩:=HMF.out.box;rw [HKF.out,HKL.out];refine ⟨_,_,_,_,_,rfl,hT,q2.row (vh q1 HRX.out HKR2.out rfl) (by omega),?_,t4 (vh HMF.out.out HRX.out HKR2.out rfl) (by unfold shM; omega),?_⟩
      ·obtain ⟨R2,c2,e2,ho⟩:=r2.own (vh r1 HRX.out HKR2.out rfl) (by omega);simp only [Value.slice.injEq] at e2;obtain ⟨rfl,-,rfl⟩:=e2;exact ho.row (by omega)
      ·have hb:=HKR2.out.below (BX.out wc (HB2.out.trans (HMF.out.bel.mono (by omega)))) (show B≤B+1 by omega) (by have:=(BX.out wc (HB2.out.trans (HMF.out.bel.mono (by omega)))).size; omega);exact hb
end Go.Proofs.YtnlbafjmbamoeaaGreat
namespace Go.Proofs.YtnlbafjmbamoeaaGreat
open Go.RowKit Lib
open Ieee (double)
theorem qI.below {w w':World} {v:Value} {zs:List Int} (h:qI w v zs) (hb:Below w.heap.size w w'):qI w' v zs:=⟨sI h.1 hb,h.2⟩
theorem ShAt.below {w w':World} {v:Value} {s:ShD} (h:ShAt w v s) (hb:Below w.heap.size w w'):ShAt w' v s:=by
 obtain ⟨h0,u1,u2,u3,rfl,h1,h2,h3⟩:=h;exact ⟨h0,u1,u2,u3,rfl,h1.below hb,h2.below hb,h3.below hb⟩
theorem qI.slice {w:World} {v:Value} {zs:List Int} (h:qI w v zs):∃ a c,v=.slice a zs.length c:=by
 obtain ⟨a,c,e,-⟩:=h.1.read;exact ⟨a,c,e⟩
theorem keep_row {o:Oper} {a:Act} (ty:TypeId) (x:Operand) (ho:o.op=.load ty x) (g:Nat) (hx:a.eval x=.pointer (some ⟨g,0,none⟩)) (t:TypeId) (cs:Array Value) (d:TypeDesc) {w:World} (hg:w.heap[g]? = some (.cells cs t (0,0)))
  (hu:Tryz.prog.underlying ty=some d) (hd:aggD d=true) (hi:(Tryz.prog.info? ty).map (·.size)=some cs.size):(execOp a.eval o).run Tryz.prog w=.ok (.value (.agg cs)) w:=by
 unfold execOp;simp only [ho,hx,Instr.loadAt,Instr.sureAddr,Sem.run_bind,Sem.run_pure,Result.andThen_ok,run_loadVar_row (P:=Tryz.prog) w g t ty cs (0,0) d hg hu (by cases d<;>first | rfl | cases hd) hi]
theorem kF (T:TD) (n a r:Nat) (lo en:Int) (s:Sol):(uG T n a r lo en s).N.rows≤s.q+1:=by
 unfold uG xO tI;split
 ·split
  ·exact Nat.zero_le _
  ·exact Nat.zero_le _
 ·split
  ·exact Nat.le_refl _
  ·split
   ·exact Nat.zero_le _
   ·exact Nat.zero_le _
theorem TrB.two {base n:Nat} {R:Tr} {w:World} {e:Ending} {w':World} (h:TrB base n R w e w') (hq:R.S.q≤10) (hr:R.N.rows≤10) (hn:n≤4):Below w.heap.size w w'∧∃ az cz an cn y,e=.returned (.agg #[.int .i64 R.S.at_,.int .i64 (tk R.S.k),.int .i64 R.S.q,.int .i64 R.S.M,.slice az (R.S.q+1) cz,.int .i64 R.S.good,.int .i64 R.S.fails,.int .i64 R.S.slow,.int .i64 R.N.at_,.int .i64 R.N.st,.int .i64 R.N.q,.int .i64 R.N.M,.slice an R.N.rows cn,.bool R.took,.float .f64 y,.int .i64 R.e]) ∧
  zk y=R.err∧y<18446744073709551616∧wi 0 w' (.slice az (R.S.q+1) cz) (R.S.q+1) n R.S.z∧wi 0 w' (.slice an R.N.rows cn) R.N.rows n R.N.z:=by
 obtain ⟨hb,vz,vn,y,rfl,h1,h2,h3,h4,h5⟩:=h;obtain ⟨az,cz,rfl⟩:=h3.shape;refine ⟨hb,?_⟩;rcases Nat.eq_zero_or_pos R.N.rows with h0 | h0
 ·rw [h5 h0];have e:(Value.slice none 0 0)=.slice none R.N.rows 0:=by rw [h0]
  rw [e];refine ⟨az,cz,none,0,y,rfl,h1,h2,h3.tabK (by omega) (by omega),?_⟩;rw [h0];exact fun W _ _=>⟨none,0,rfl,by decide,fun h=>absurd h (Nat.lt_irrefl 0)⟩
 ·obtain ⟨an,cn,rfl⟩:=(h4 h0).shape;exact ⟨az,cz,an,cn,y,rfl,h1,h2,h3.tabK (by omega) (by omega),(h4 h0).tabK (by omega) (by omega)⟩
theorem pV.two {b0 n:Nat} {R:Tr} {w:World} {e:Ending} {w':World} (h:pV b0 n R w e w'):Below w.heap.size w w'∧∃ az cz an cn y,e=.returned (.agg #[.int .i64 R.S.at_,.int .i64 (tk R.S.k),.int .i64 R.S.q,.int .i64 R.S.M,.slice az (R.S.q+1) cz,.int .i64 R.S.good,.int .i64 R.S.fails,.int .i64 R.S.slow,.int .i64 R.N.at_,.int .i64 R.N.st,.int .i64 R.N.q,.int .i64 R.N.M,.slice an R.N.rows cn,.bool R.took,.float .f64 y,.int .i64 R.e]) ∧
  zk y=R.err∧y<18446744073709551616∧wi b0 w' (.slice az (R.S.q+1) cz) (R.S.q+1) n R.S.z∧wi b0 w' (.slice an R.N.rows cn) R.N.rows n R.N.z:=by
 obtain ⟨hb,vz,vn,y,rfl,h1,h2,h3,h4⟩:=h;obtain ⟨az,cz,rfl⟩:=h3.tab.shape;obtain ⟨an,cn,rfl⟩:=h4.tab.shape;exact ⟨hb,_,_,_,_,y,rfl,h1,h2,h3,h4⟩
theorem yG.slices {w:World} {n:Int} {vo vu:Value} {T:TD} (h:yG w (.agg #[.int .i64 n,vo,vu]) T):(∃ a l c,vo=.slice a l c)∧∃ a l c,vu=.slice a l c:=by
 obtain ⟨vo',vu',e,⟨a,c,rfl,-⟩,⟨b,d,rfl,-⟩⟩:=h;injection e with e
 simp only [Array.mk.injEq,List.cons.injEq,and_true] at e;exact ⟨⟨_,_,_,e.2.1⟩,⟨_,_,_,e.2.2⟩⟩
end Go.Proofs.YtnlbafjmbamoeaaGreat
