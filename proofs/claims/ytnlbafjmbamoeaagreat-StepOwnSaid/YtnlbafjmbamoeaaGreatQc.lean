/-
  Contracts (what a function tells) and plain facts that a law's proof hangs on, for every input; no condition but those in their statements. Laid together of the texts Trw, Tpn, Tmv, Tmo, Cra, Crb.
-/
import Derived.Test.YtnlbafjmbamoeaaGreatQb
namespace Go.Proofs.YtnlbafjmbamoeaaGreat
open Go.RowKit Lib
open Ieee (double)
def FVal (o:Option Value) (c:Nat):Prop:=∃ y,o=some (.float .f64 y)∧zk y=c∧y<18446744073709551616
def uk (qs:List Value) (n:Nat) (F:Nat→Nat × Nat):Prop:=∀ j,j<n→FVal qs[j*2]? (F j).1∧FVal qs[j*2+1]? (F j).2
theorem uk.nil (F:Nat→Nat × Nat) (qs:List Value):uk qs 0 F:=fun j hj=>by omega
theorem uk.app {qs:List Value} {n y z:Nat} {F:Nat→Nat × Nat} (h:uk qs n F) (hl:qs.length=n*2) (h1:zk y=(F n).1) (h2:y<18446744073709551616) (h3:zk z=(F n).2) (h4:z<18446744073709551616):uk (qs ++ [.float .f64 y,.float .f64 z]) (n+1) F:=fun j hj=>by
 by_cases e:j=n
 ·subst e;refine ⟨⟨y,?_,h1,h2⟩,⟨z,?_,h3,h4⟩⟩
  ·rw [List.getElem?_append_right (by omega),hl]; simp
  ·rw [List.getElem?_append_right (by omega),hl,show j*2+1-j*2=1 by omega]; rfl
 ·rw [List.getElem?_append_left (by omega),List.getElem?_append_left (by omega)];exact h j (by omega)
def xF (w:World) (base R n cap:Nat) (F:Nat→Nat × Nat):Prop:=
 ∃ rs,w.ownsRow base 69 2 (.slice (some ⟨R,0,none⟩) n cap) n rs∧uk rs n F
theorem uk.own {w:World} {base n:Nat} {v:Value} {qs:List Value} {F:Nat→Nat × Nat} (h:uk qs n F) (ho:w.ownsRow base 69 2 v n qs) (h0:0<n):∃ R cap,v=.slice (some ⟨R,0,none⟩) n cap∧xF w base R n cap F:=by
 rcases id ho.2 with ⟨rfl,rfl⟩ | ⟨g,cap,cur,rfl,-⟩
 ·omega
 ·exact ⟨g,cap,rfl,qs,ho,h⟩
theorem xF.cell {w:World} {base R n cap:Nat} {F:Nat→Nat × Nat} (h:xF w base R n cap F) {j:Nat} (hj:j<n):wq w R (j*2) (F j).1∧wq w R (j*2+1) (F j).2:=by
 obtain ⟨rs,h1,h2⟩:=h;obtain ⟨⟨y,y1,y2,y3⟩,⟨z,z1,z2,z3⟩⟩:=h2 j hj;exact ⟨⟨y,(h1.cellAt _ (by omega)).trans y1,y2,y3⟩,⟨z,(h1.cellAt _ (by omega)).trans z1,z2,z3⟩⟩
theorem xF.free {w:World} {base R n cap:Nat} {F:Nat→Nat × Nat} (h:xF w base R n cap F) (j:Nat):w.frozen? ⟨R,j,none⟩=false:=by
 obtain ⟨rs,h1,-⟩:=h;exact h1.frozenAt j
theorem xF.lt {w:World} {base R n cap:Nat} {F:Nat→Nat × Nat} (h:xF w base R n cap F):base≤R∧R<w.heap.size:=by
 obtain ⟨rs,h1,-⟩:=h;exact h1.lt R rfl
theorem xF.kept {w w':World} {base R n cap:Nat} {F:Nat→Nat × Nat} (h:xF w base R n cap F) (hb:w'.heap[R]? = w.heap[R]?):xF w' base R n cap F:=by
 obtain ⟨rs,h1,h3⟩:=h;exact ⟨rs,tq h1 (fun k hk=>by cases hk; exact hb),h3⟩
theorem xF.below {w w':World} {base R n cap:Nat} {F:Nat→Nat × Nat} (h:xF w base R n cap F) {B:Nat} (hb:Below B w w') (hB:R<B):xF w' base R n cap F:=h.kept (hb.block R hB)
theorem xF.congr {w:World} {base R n cap:Nat} {F G:Nat→Nat × Nat} (h:xF w base R n cap F) (e:∀ j,j<n→F j=G j):xF w base R n cap G:=by
 obtain ⟨rs,h1,h2⟩:=h;exact ⟨rs,h1,fun j hj=>by rw [← e j hj]; exact h2 j hj⟩
theorem xF.set {w:World} {base R n cap:Nat} {F:Nat→Nat × Nat} (h:xF w base R n cap F) {j y z:Nat} {p:Nat × Nat} (hj:j<n) (h1:zk y=p.1) (h2:y<18446744073709551616) (h3:zk z=p.2) (h4:z<18446744073709551616) :
  xF ((w.setCell ⟨R,j*2,none⟩ (.float .f64 y)).setCell ⟨R,j*2+1,none⟩ (.float .f64 z)) base R n cap (yy F j p):=by
 obtain ⟨rs,g1,g2⟩:=h;have hl:=g1.1;refine ⟨(rs.set (j*2) (.float .f64 y)).set (j*2+1) (.float .f64 z),((g1.stored _ _).1.stored _ _).1,fun i hi=>?_⟩;by_cases e:i=j
 ·subst e;rw [zL];exact ⟨⟨y,by rw [List.getElem?_set_ne (by omega),List.getElem?_set_self (by omega)],h1,h2⟩,⟨z,by rw [List.getElem?_set_self (by rw [List.length_set]; omega)],h3,h4⟩⟩
 ·rw [zG _ _ e,List.getElem?_set_ne (by omega),List.getElem?_set_ne (by omega),List.getElem?_set_ne (by omega),List.getElem?_set_ne (by omega)];exact g2 i hi
theorem xF.other {w:World} {base R n cap:Nat} {F:Nat→Nat × Nat} (h:xF w base R n cap F) {B o:Nat} (hne:B≠R) (v:Value):xF (w.setCell ⟨B,o,none⟩ v) base R n cap F:=
 h.kept (Below.heap_setCell _ _ _ _ (fun e=>hne (by simpa using e.symm)))
def mC (w:World) (v:Value) (n:Nat) (F:Nat→Nat × Nat):Prop:=
 ∃ a cap,v=.slice a n cap∧n≤9223372036854775807∧(0<n→∃ b off,a=some ⟨b,off,none⟩∧b<w.heap.size∧∀ i,i<n→wq w b (off+i*2) (F i).1∧wq w b (off+i*2+1) (F i).2)
theorem mC.below {w w':World} {v:Value} {n:Nat} {F:Nat→Nat × Nat} (h:mC w v n F) (hb:Below w.heap.size w w'):mC w' v n F:=by
 obtain ⟨a,cap,h1,h2,h3⟩:=h;refine ⟨a,cap,h1,h2,fun hl=>?_⟩;obtain ⟨b,off,e,hs,hc⟩:=h3 hl;exact ⟨b,off,e,Nat.lt_of_lt_of_le hs hb.size,fun i hi=>⟨(hc i hi).1.same ((zA hb).1 _ _ hs),(hc i hi).2.same ((zA hb).1 _ _ hs)⟩⟩
theorem xF.row {w:World} {base R n cap:Nat} {F:Nat→Nat × Nat} (h:xF w base R n cap F) (hn:n≤9223372036854775807):mC w (.slice (some ⟨R,0,none⟩) n cap) n F:=
 ⟨_,cap,rfl,hn,fun _=>⟨R,0,rfl,h.lt.2,fun i hi=>by rw [Nat.zero_add]; exact h.cell hi⟩⟩
end Go.Proofs.YtnlbafjmbamoeaaGreat
namespace Go.Proofs.YtnlbafjmbamoeaaGreat
open Go.RowKit Lib
open Ieee (double)
attribute [local go_sem] zr zi zy zn zU zS zW zX zV zY zD zH zI zJ zK xy ye z8 zF yE
theorem yJ {P:Program} {ops:Array Oper} {Q:Exit→Act→World→Prop} {i:Nat} {K:Act→World→Prop} {a:Act} {w:World} {o:Oper} (ho:ops[i]? = some o) (h:if Region.wanted o (yielded ops a.tmps)=true then Oper.wp P o a w K Q else K (a.put o.dst undef) w):yE P ops Q i K a w:=by
 unfold yE;rw [ho];exact h
def xX (w:World) (base:Nat) (u:Value) (T:TD):Prop:=∃ va vb,u=.agg #[.int .i64 T.n,va,vb]∧w.ownsRow base 66 4 va T.len (xG T.op T.len)∧w.ownsRow base 3 1 vb T.lo (yY T.out T.lo)∧∀ k,va.ownBlock=some k→vb.ownBlock≠some k
theorem np {w:World} {base b' n size:Nat} {E:TypeId} {v:Value} {qs:List Value} (h:w.ownsRow base E size v n qs) (hb:b'≤base):w.ownsRow b' E size v n qs:=by
 obtain ⟨h1,h2⟩:=h;refine ⟨h1,?_⟩;rcases h2 with h2 | ⟨g,c,cur,rfl,hg,r⟩
 ·exact .inl h2
 ·exact .inr ⟨g,c,cur,rfl,Nat.le_trans hb hg,r⟩
theorem xX.at {w:World} {base:Nat} {u:Value} {T:TD} (h:xX w base u T) (h1:T.len≤9223372036854775807) (h2:T.lo≤9223372036854775807):yG w u T:=by
 obtain ⟨va,vb,rfl,ha,hb,-⟩:=h;exact ⟨va,vb,rfl,ou ha h1,t4 hb h2⟩
theorem xX.below {w w':World} {base:Nat} {u:Value} {T:TD} (h:xX w base u T) (hb:Below w.heap.size w w'):xX w' base u T:=by
 obtain ⟨va,vb,rfl,ha,hc,hd⟩:=h;exact ⟨va,vb,rfl,xB ha hb,xB hc hb,hd⟩
theorem rP {w w':World} {base n size:Nat} {E:TypeId} {v:Value} {qs:List Value} (h:w.ownsRow base E size v n qs) (hb:∀ k,v.ownBlock=some k→w'.heap[k]? = w.heap[k]?):w'.ownsRow base E size v n qs:=by
 obtain ⟨h1,h2⟩:=h;refine ⟨h1,?_⟩;rcases h2 with h2 | ⟨g,c,cur,rfl,hg,hh,r⟩
 ·exact .inl h2
 ·exact .inr ⟨g,c,cur,rfl,hg,(hb g rfl).trans hh,r⟩
theorem lH:∀ i:Fin 33,isN (cop .quo (floatOfInt .f64 ((i.val:Int)-16)) 4616189618054758400)=false∧isN (cop .quo (floatOfInt .f64 ((i.val:Int)-16)) 4620693217682128896)=false:=by decide +kernel
theorem xx {op:BinOp} {a b:Nat} (h:isN (cop op a b)=false):(∀ w,zZ op w a b=cop op a b)∧zP op a b=0:=by
 have e:∃ r,floatBits op .f64 a b=some r:=by
  cases e:floatBits op .f64 a b with
  | some r=>exact ⟨r,rfl⟩
  | none=>
   rw [show cop op a b=qK by unfold cop; rw [e]] at h;exact absurd h (by decide)
 obtain ⟨r,hr⟩:=e;refine ⟨fun w=>?_,by unfold zP; rw [hr]; rfl⟩;have e1:zk (zZ op w a b)=cop op a b:=z9 _ _ _ _;have nf:isN (zZ op w a b)=false:=by rw [← yN,e1]; exact h
 rw [← e1,wd nf]
theorem nr {x:Int} {d:Nat} (h1:-16≤x) (h2:x≤16) (hd:d=4616189618054758400∨d=4620693217682128896) (_:d=d):(∀ w,zZ .quo w (floatOfInt .f64 x) d=cst x d)∧zP .quo (floatOfInt .f64 x) d=0∧True:=by
 have h:=lH ⟨(x+16).toNat,by omega⟩;have e:(((x+16).toNat:Nat):Int)-16=x:=by omega
 simp only [e] at h;unfold cst;rcases hd with rfl | rfl
 ·exact ⟨(xx h.1).1,(xx h.1).2,trivial⟩
 ·exact ⟨(xx h.2).1,(xx h.2).2,trivial⟩
theorem MV.start (w:World) (n:Int) (t:TypeId):MV w w.heap.size n (.slice none 0 0) (.slice none 0 0) ((w.alloc (.cells #[.int .i64 0,.slice none 0 0,.slice none 0 0] t)).alloc (.cells #[.int .i64 n,.slice none 0 0,.slice none 0 0] t)):=by
 have e:(w.alloc (.cells #[.int .i64 0,.slice none 0 0,.slice none 0 0] t)).heap.size=w.heap.size+1:=by simp
 refine ⟨?_,?_,?_,?_,?_,?_,?_,?_,?_,?_,?_,?_,by simp,rfl,((Below.refl _ _).alloc (Nat.le_refl _) _).alloc (by rw [e]; omega) _⟩
 iterate 3 (rw [← e,World.cell?_alloc_new]; rfl)
 iterate 3 simp [go_sem]
 iterate 3 (rw [World.cell?_alloc_lt _ _ _ (show w.heap.size<_ by rw [e]; omega),World.cell?_alloc_new]; rfl)
 all_goals simp [go_sem]
def Rng (x:Int):Prop:=-9223372036854775808≤x∧x≤9223372036854775807
set_option maxRecDepth 100000
set_option maxHeartbeats 16000000
theorem mG (n:Int) (v:Value) (ln:Nat) (ns:Nat→Int) (div:Bool) (w:World) (h:uK w v ln ns) (hn:Rng n) (hns:∀ i,i<ln→Rng (ns i)) (op:Nat→OpD) (out:Nat→Int)
  (hop1:∀ i:Nat,(i:Int)<1+n % 3→op i=⟨1,i,0,0⟩) (hop2:op (1+n % 3).toNat=⟨0,0,0,cst (n % 17-8) 4616189618054758400⟩)
  (hop3:∀ i:Nat,op ((1+n % 3).toNat+1+i)=mD (ns i) (((1+n % 3).toNat+1+i:Nat):Int) div)
  (hout:∀ i:Nat,out i=(((1+n % 3).toNat+1+min ln 8:Nat):Int)-1-(n.tdiv 3+i) % (min 3 ((1+n % 3).toNat+1+min ln 8):Nat)) :
  Calls Tryz.prog 33 #[.int .i64 n,v,.bool div] w fun e w'=>∃ u,e=.returned u∧xX w' w.heap.size u ⟨1+n % 3,(1+n % 3).toNat+1+min ln 8,op,(1+n % 3).toNat,out⟩∧Below w.heap.size w w':=by
 obtain ⟨a,cap,rfl,hln,hcell⟩:=h;have HC:=hid hcell;clear hcell;have n1:=Int.emod_nonneg n (show (3:Int)≠0 by decide);have n2:=Int.emod_lt_of_pos n (show (0:Int)<3 by decide);obtain ⟨i55,hi,hz0,hz1,hz2⟩:=info_parts ko;obtain ⟨i3,gi,gz0,gz1,gz2⟩:=info_parts info3;have HI:=hid (show i55.zero=_∧i55.size=_∧i55.bytes=_ from ⟨hz0,hz1,hz2⟩);have GI:=hid (show i3.zero=_∧i3.size=_∧i3.bytes=_ from ⟨gz0,gz1,gz2⟩);have HI0:=hid hi;have GI0:=hid gi;clear hz0 hz1 hz2 gz0 gz1 gz2 hi gi;have HNS:=hid hns;clear hns;have H3:=hid hop3;have H2:=hid hop2;have HO:=hid hout;clear hop3 hop2 hout;have m1:=Int.emod_nonneg n (show (17:Int)≠0 by decide);have m2:=Int.emod_lt_of_pos n (show (0:Int)<17 by decide);have W17:=hid fun W=>yF n 17 W (by decide) (by decide)
 have HK:=hid (nr (x:=n % 17-8) (d:=4616189618054758400) (by omega) (by omega) (by decide) (by decide));have W3:=fun W=>yF n 3 W (by decide) (by decide)
 go_enter Tryz.func33,Tryz.ntmps33;go_wp2_with fail;refine (W3 _).mono ?_;rintro e w1 ⟨rfl,rfl⟩;go_wp2_with fail;have hm:MV w w.heap.size (1+n % 3) (.slice none 0 0) (.slice none 0 0) ((w.alloc (.cells #[.int .i64 0,.slice none 0 0,.slice none 0 0] 28)).alloc (.cells #[.int .i64 (1+n % 3),.slice none 0 0,.slice none 0 0] 28)):=MV.start _ _ _;generalize (w.alloc (.cells #[.int .i64 0,.slice none 0 0,.slice none 0 0] 28)).alloc (.cells #[.int .i64 (1+n % 3),.slice none 0 0,.slice none 0 0] 28)=W at *;generalize hB:w.heap.size=B at *;clear W3;generalize hr:n % 3=r at *
 go_loopw [8] (fun i wr=>∃ (j:Nat) (vo:Value),(j:Int)≤1+r∧i=.int .i64 j∧MV w B (1+r) vo (.slice none 0 0) wr∧wr.ownsRow (B+2) 66 4 vo j (xG op j)) (fun i _=>(1+r).toNat-(intOf i).toNat)
 case atStart=>exact ⟨0,_,by omega,rfl,hm,World.ownsRow_nil _ _ _ _⟩
 case round=>
  clear hm;obtain ⟨j,vo,hj,rfl,hm,hown⟩:=hrel;by_cases hlt:(j:Int)<1+r
  ·have hop:=hop1 j hlt;obtain ⟨c1,c2,c3,c4,c5,c6,c7,c8,c9,c10,c11,c12,c13,c14,c15⟩:=id hm
   go_wp2_with (first
    | (at_builtin; refine wpList_append_own _ rfl _ _ 26 rfl (B+2) 66 i55 (.agg #[.int .i64 0,.int .i64 0,.int .i64 0,.float .f64 0]) 4 32 Tryz.underlying26 HI0.out HI.out.1 HI.out.2.1 HI.out.2.2 rfl (by decide) _ _ _ rfl (hown.alloc _) ⟨wr.heap.size,0,none⟩ 1 1 (xK (op j)) rfl rfl ?c1 ?c2 ?c3 ?c4 ?c5 ?_)
    | go_in)
   case c1=>
    intro k u hk;rw [hop] at hk
    match k,hk with
    | 0,hk=>simp [xK] at hk; subst hk; simp [Addr.add,go_sem]
    | 1,hk=>simp [xK] at hk; subst hk; simp [Addr.add,go_sem]
    | 2,hk=>simp [xK] at hk; subst hk; simp [Addr.add,go_sem]
    | 3,hk=>simp [xK] at hk; subst hk; simp [Addr.add,go_sem]
    | k+4,hk=>simp [xK] at hk
   case c2=>intro u hu; simp only [xK,List.mem_cons,List.not_mem_nil,or_false] at hu; rcases hu with rfl | rfl | rfl | rfl<;>rfl
   case c3=>unfold maxLen; omega
   case c4=>omega
   case c5=>simp; omega
   intro v' w1 hown' hgrow _;have hm1:=(hm.step ((Below.refl (B+2) wr).alloc (by omega) _)).step (xA (hown.alloc _) (Nat.le_refl _) (by simp; omega) hgrow);have ho1:w1.ownsRow (B+2) 66 4 v' (j+1) (xG op (j+1)):=by rw [xG,hop]; exact hown'
   obtain ⟨a',cap',rfl,-⟩:=yV ho1;clear hown' hgrow hm hown c1 c2 c3 c4 c5 c6 c7 c8 c9 c10 c11 c12 c13 c14 c15;obtain ⟨c1,c2,c3,c4,c5,c6,c7,c8,c9,c10,c11,c12,c13,c14,c15⟩:=id hm1;go_wp2_with fail
   go_roundw
   case rel=>exact ⟨j+1,_,by omega,by go_num,hm1.set1 _,xn ho1 (by omega)⟩
   case measure=>simp [intOf]; omega
  ·obtain ⟨va,vcap,rfl,-⟩:=yV hown;have hjN:(1+r).toNat=j:=by omega
   obtain ⟨c1,c2,c3,c4,c5,c6,c7,c8,c9,c10,c11,c12,c13,c14,c15⟩:=id hm;go_upto_region 6 with fail
   go_cut [] (fun wx=>∃ va vcap,MV w B (1+r) (.slice va (j+1) vcap) (.slice none 0 0) wx∧wx.ownsRow (B+2) 66 4 (.slice va (j+1) vcap) (j+1) (xG op (j+1)))
   case first=>
    have hwr:IntKind.i64.wrap (n % 17-8)=n % 17-8:=IntWalk.i64_in _ (by omega);have hne:some (B+1)≠(Value.slice va j vcap).ownBlock:=fun e=>by have:=(hown.lt _ e.symm).1; omega
    have hcz:∀ O,(wr.alloc O).drew.cell? ⟨B+1,1,none⟩=some (.slice va j vcap):=fun O=>(((Below.refl (B+2) wr).alloc (by omega) O).cell (p:=⟨B+1,1,none⟩) (by simp)).trans c2
    have hfz:∀ O,(wr.alloc O).drew.frozen? ⟨B+1,1,none⟩=false:=fun O=>(((Below.refl (B+2) wr).alloc (by omega) O).frozen (p:=⟨B+1,1,none⟩) (by simp)).trans c5
    have hk1:=HK.out.1;have hk2:=HK.out.2.1;have hk3:=HK.out.2.2;generalize hC:cst (n % 17-8) 4616189618054758400=kc at *
    go_region_law (first
     | (refine step_append_lies _ (by rfl) _ _ _ (by rfl) (B+2) 66 i55 (.agg #[.int .i64 0,.int .i64 0,.int .i64 0,.float .f64 0]) 4 32 Tryz.underlying26 HI0.out HI.out.1 HI.out.2.1 HI.out.2.2 rfl (by decide) _ j (xG op j) (by rfl) ((hown.alloc _).drew)
           ⟨wr.heap.size,0,none⟩ 1 1 [.int .i64 0,.int .i64 0,.int .i64 0,.float .f64 kc] (by rfl) (by rfl) (World.news_of_block (cs:=#[.int .i64 0,.int .i64 0,.int .i64 0,.float .f64 kc]) (t:=66) (fr:=(0,0)) (heap_alloc_new wr _)) (by simp [Value.oneCell']) (by omega) (by unfold maxLen; omega) (by omega) (by simp; omega) (wr.heap.size+1) (by simp) ?_; intro gg cap1 w1 hown1 hgrow hat hlt1; have z1:=hgrow.cell (hcz _) hne; have z2:=(World.frozen?_of_block (a:=⟨B+1,1,none⟩) (hgrow.block (B+1) (by simp; omega) hne)).trans (hfz _))
     | (go_simp; go_at_call 61; refine (W17.out _).mono ?_; rintro e w' ⟨rfl,rfl⟩))
    all_goals
     have hm1:=(hm.step (((Below.refl (B+2) wr).alloc (by omega) _).drew)).step (xA ((hown.alloc _).drew) (Nat.le_refl _) (by simp; omega) hgrow);have h2:=H2.out;have ho1:w1.ownsRow (B+2) 66 4 (.slice (some ⟨gg,0,none⟩) (j+1) cap1) (j+1) (xG op (j+1)):=by rw [xG,← hjN,h2,hjN]; exact hown1
     go_wp2_with fail;go_meet;exact ⟨_,_,hm1.set1 _,xn ho1 (by omega)⟩
   case rest=>
    clear hm hown c1 c2 c3 c4 c5 c6 c7 c8 c9 c10 c11 c12 c13 c14 c15;obtain ⟨va,vcap,hm,hown⟩:=hcut;obtain ⟨c1,c2,c3,c4,c5,c6,c7,c8,c9,c10,c11,c12,c13,c14,c15⟩:=id hm
    go_upto_block 2 with fail
    go_cut [] (fun wx=>∃ va vcap,MV w B (1+r) (.slice va (j+1+min ln 8) vcap) (.slice none 0 0) wx∧wx.ownsRow (B+2) 66 4 (.slice va (j+1+min ln 8) vcap) (j+1+min ln 8) (xG op (j+1+min ln 8)))
    case first=>
     go_wp2_with fail
     go_loopw [9] (fun i wr=>∃ (m:Nat) (va:Option Addr) (vcap:Nat),m≤ln∧m≤8∧i=.int .i64 m∧MV w B (1+r) (.slice va (j+1+m) vcap) (.slice none 0 0) wr∧wr.ownsRow (B+2) 66 4 (.slice va (j+1+m) vcap) (j+1+m) (xG op (j+1+m))) (fun i _=>8-(intOf i).toNat)
     case atStart=>exact ⟨0,_,_,by omega,by omega,rfl,hm,hown⟩
     case round=>
      clear hm hown c1 c2 c3 c4 c5 c6 c7 c8 c9 c10 c11 c12 c13 c14 c15;obtain ⟨m,va,vcap,hm1,hm2,rfl,hm,hown⟩:=hrel;obtain ⟨c1,c2,c3,c4,c5,c6,c7,c8,c9,c10,c11,c12,c13,c14,c15⟩:=id hm;by_cases hlt:m<ln
      ·by_cases h8:m<8
       ·obtain ⟨b,off,rfl,hbs,hc⟩:=HC.out (by omega);have hcl:=hc m hlt;rw [← (xj (show Below w.heap.size w wr by rw [hB]; exact c15)).1 _ _ (by rw [hB]; exact hbs)] at hcl;have hk:=HNS.out m hlt;have ho3:=H3.out m;rw [hjN] at ho3;clear hc;generalize ns m=k at *;obtain ⟨k1,k2⟩:=hk;have WK:=fun W=>yF k 3 W (by decide) (by decide)
        go_wp2_with fail;refine (WK _).mono ?_;rintro e w2 ⟨rfl,rfl⟩;have b1:=Int.emod_nonneg k (show (3:Int)≠0 by decide);have b2:=Int.emod_lt_of_pos k (show (0:Int)<3 by decide);generalize hk3:k % 3=k3 at *;clear WK;go_wp2_with fail;refine (yF _ _ _ (by omega) (by omega)).mono ?_;rintro e w2 ⟨rfl,rfl⟩;generalize hka:k.tdiv 4 % ((j:Int)+1+m)=ka at *;go_wp2_with fail;refine (yF _ _ _ (by omega) (by omega)).mono ?_;rintro e w2 ⟨rfl,rfl⟩;generalize hkb:k.tdiv 40 % ((j:Int)+1+m)=kb at *;have hsz:=c13;have own1:=hown.alloc (.cells #[.int .i64 (2+k3),.int .i64 ka,.int .i64 kb,.float .f64 0] 66);have mv1:=hm.step ((Below.refl (B+2) wr).alloc (by omega) (.cells #[.int .i64 (2+k3),.int .i64 ka,.int .i64 kb,.float .f64 0] 66));have box1:=qR.new ⟨2+k3,ka,kb,0⟩ wr 66;go_upto_region 13 with fail
        have fz:∀ o,(wr.alloc (.cells #[.int .i64 (2+k3),.int .i64 ka,.int .i64 kb,.float .f64 0] 66)).frozen? ⟨wr.heap.size,o,none⟩=false:=fun o=>by simp [go_sem]
        have f0:=fz 0;have f1:=fz 1;have f2:=fz 2;have f3:=fz 3;have hvx:(Value.slice va (j+1+m) vcap).ownBlock≠some wr.heap.size:=fun e=>by have:=(hown.lt _ e).2; omega
        have hX:B+2≤wr.heap.size:=by omega
        have hW:(wr.alloc (.cells #[.int .i64 (2+k3),.int .i64 ka,.int .i64 kb,.float .f64 0] 66)).heap.size=wr.heap.size+1:=by simp
        clear fz c1 c2 c3 c4 c5 c6 c7 c8 c9 c10 c11 c12 c13 c14 c15 hsz hcl hm hown;obtain ⟨d0,d1,d2,d3,d4⟩:=id box1;simp only [] at d0 d1 d2 d3;generalize wr.alloc (.cells #[.int .i64 (2+k3),.int .i64 ka,.int .i64 kb,.float .f64 0] 66)=W1 at *;generalize wr.heap.size=X at *;obtain ⟨c1,c2,c3,c4,c5,c6,c7,c8,c9,c10,c11,c12,c13,c14,c15⟩:=id mv1;have hXB:X≠B+1:=by omega
        have hBX:=hXB.symm;have hW':=Nat.le_of_eq hW;have hW2:=Nat.le_of_eq hW.symm;clear hW box1;by_cases e11:k % 11=0
        ·have hop:op (j+1+m)=⟨0,0,0,cst (k.tdiv 11 % 33-16) 4620693217682128896⟩:=by
          rw [ho3];unfold mD;rw [if_pos e11]
         have g1:=Int.emod_nonneg (k.tdiv 11) (show (33:Int)≠0 by decide);have g2:=Int.emod_lt_of_pos (k.tdiv 11) (show (0:Int)<33 by decide);have hkv:=nr (x:=k.tdiv 11 % 33-16) (d:=4620693217682128896) (by omega) (by omega) (by decide) (by decide);have q11:(k % 11==0)=true:=by simp; exact e11
         generalize cst (k.tdiv 11 % 33-16) 4620693217682128896=kc at *;have hk1:=hkv.1;have hk2:=hkv.2.1;clear hkv e11 ho3;cases div
         ·have mvf:=mv1.step ((((((Below.refl (B+2) W1).setCell (p:=⟨X,0,none⟩) hX (.int .i64 0)).setCell (p:=⟨X,1,none⟩) hX (.int .i64 0)).setCell (p:=⟨X,2,none⟩) hX (.int .i64 0)).setCell (p:=⟨X,3,none⟩) hX (.float .f64 kc)))
          go_wp2_with (first
           | (go_at_call 61; refine (yF _ _ _ (by decide) (by decide)).mono ?_; rintro e w3 ⟨rfl,rfl⟩)
           | (at_builtin; refine wpList_append_own _ rfl _ _ 26 rfl (B+2) 66 i55 (.agg #[.int .i64 0,.int .i64 0,.int .i64 0,.float .f64 0]) 4 32 Tryz.underlying26 HI0.out HI.out.1 HI.out.2.1 HI.out.2.2 rfl (by decide) (.slice va (j+1+m) vcap) (j+1+m) (xG op (j+1+m)) rfl (World.ownsRow.alloc (yr (yr (yr (yr own1 hvx) hvx) hvx) hvx) _) ⟨W1.heap.size,0,none⟩ 1 1 [.int .i64 0,.int .i64 0,.int .i64 0,.float .f64 kc] rfl rfl (World.news_of_block (cs:=#[.int .i64 0,.int .i64 0,.int .i64 0,.float .f64 kc]) (t:=66) (fr:=(0,0)) (wW (w:=((((W1.setCell ⟨X,0,none⟩ (.int .i64 0)).setCell ⟨X,1,none⟩ (.int .i64 0)).setCell ⟨X,2,none⟩ (.int .i64 0)).setCell ⟨X,3,none⟩ (.float .f64 kc))) (by simp [World.setCell]))) (by simp [Value.oneCell']) (by unfold maxLen; omega) (by omega) (by have:=mvf.2.2.2.2.2.2.2.2.2.2.2.2.1; simp; omega) ?_)
           | go_in)
          intro v' w1 hown' hgrow _;have hm1:=(mvf.step ((Below.refl (B+2) ((((W1.setCell ⟨X,0,none⟩ (.int .i64 0)).setCell ⟨X,1,none⟩ (.int .i64 0)).setCell ⟨X,2,none⟩ (.int .i64 0)).setCell ⟨X,3,none⟩ (.float .f64 kc))).alloc (by have:=mvf.2.2.2.2.2.2.2.2.2.2.2.2.1; omega) _)).step (xA (World.ownsRow.alloc (yr (yr (yr (yr own1 hvx) hvx) hvx) hvx) _) (Nat.le_refl _) (by have:=mvf.2.2.2.2.2.2.2.2.2.2.2.2.1; simp; omega) hgrow)
          have ho1:w1.ownsRow (B+2) 66 4 v' (j+1+(m+1)) (xG op (j+1+(m+1))):=by
           show w1.ownsRow (B+2) 66 4 v' (j+1+m+1) (xG op (j+1+m) ++ xK (op (j+1+m)));rw [hop]; exact hown'
          obtain ⟨a',cap',rfl,-⟩:=yV ho1;clear hown' hgrow own1 mv1 mvf d0 d1 d2 d3 d4 c1 c2 c3 c4 c5 c6 c7 c8 c9 c10 c11 c12 c13 c14 c15;obtain ⟨c1,c2,c3,c4,c5,c6,c7,c8,c9,c10,c11,c12,c13,c14,c15⟩:=id hm1;go_wp2_with fail
          go_roundw
          case rel=>exact ⟨m+1,_,_,by omega,by omega,by go_num,hm1.set1 _,xn ho1 (by omega)⟩
          case measure=>simp [intOf]; omega
         ·by_cases e7:k % 7=0
          ·have q7:(k % 7==0)=true:=by simp; exact e7
           clear e7;have mvf:=mv1.step (((((((Below.refl (B+2) W1).setCell (p:=⟨X,0,none⟩) hX (.int .i64 5)).setCell (p:=⟨X,0,none⟩) hX (.int .i64 0)).setCell (p:=⟨X,1,none⟩) hX (.int .i64 0)).setCell (p:=⟨X,2,none⟩) hX (.int .i64 0)).setCell (p:=⟨X,3,none⟩) hX (.float .f64 kc)))
           go_wp2_with (first
            | (go_at_call 61; refine (yF _ _ _ (by decide) (by decide)).mono ?_; rintro e w3 ⟨rfl,rfl⟩)
            | (at_builtin; refine wpList_append_own _ rfl _ _ 26 rfl (B+2) 66 i55 (.agg #[.int .i64 0,.int .i64 0,.int .i64 0,.float .f64 0]) 4 32 Tryz.underlying26 HI0.out HI.out.1 HI.out.2.1 HI.out.2.2 rfl (by decide) (.slice va (j+1+m) vcap) (j+1+m) (xG op (j+1+m)) rfl (World.ownsRow.alloc (yr (yr (yr (yr (yr own1 hvx) hvx) hvx) hvx) hvx) _) ⟨W1.heap.size,0,none⟩ 1 1 [.int .i64 0,.int .i64 0,.int .i64 0,.float .f64 kc] rfl rfl (World.news_of_block (cs:=#[.int .i64 0,.int .i64 0,.int .i64 0,.float .f64 kc]) (t:=66) (fr:=(0,0)) (wW (w:=(((((W1.setCell ⟨X,0,none⟩ (.int .i64 5)).setCell ⟨X,0,none⟩ (.int .i64 0)).setCell ⟨X,1,none⟩ (.int .i64 0)).setCell ⟨X,2,none⟩ (.int .i64 0)).setCell ⟨X,3,none⟩ (.float .f64 kc))) (by simp [World.setCell]))) (by simp [Value.oneCell']) (by unfold maxLen; omega) (by omega) (by have:=mvf.2.2.2.2.2.2.2.2.2.2.2.2.1; simp; omega) ?_)
            | go_in)
           intro v' w1 hown' hgrow _;have hm1:=(mvf.step ((Below.refl (B+2) (((((W1.setCell ⟨X,0,none⟩ (.int .i64 5)).setCell ⟨X,0,none⟩ (.int .i64 0)).setCell ⟨X,1,none⟩ (.int .i64 0)).setCell ⟨X,2,none⟩ (.int .i64 0)).setCell ⟨X,3,none⟩ (.float .f64 kc))).alloc (by have:=mvf.2.2.2.2.2.2.2.2.2.2.2.2.1; omega) _)).step (xA (World.ownsRow.alloc (yr (yr (yr (yr (yr own1 hvx) hvx) hvx) hvx) hvx) _) (Nat.le_refl _) (by have:=mvf.2.2.2.2.2.2.2.2.2.2.2.2.1; simp; omega) hgrow)
           have ho1:w1.ownsRow (B+2) 66 4 v' (j+1+(m+1)) (xG op (j+1+(m+1))):=by
            show w1.ownsRow (B+2) 66 4 v' (j+1+m+1) (xG op (j+1+m) ++ xK (op (j+1+m)));rw [hop]; exact hown'
           obtain ⟨a',cap',rfl,-⟩:=yV ho1;clear hown' hgrow own1 mv1 mvf d0 d1 d2 d3 d4 c1 c2 c3 c4 c5 c6 c7 c8 c9 c10 c11 c12 c13 c14 c15;obtain ⟨c1,c2,c3,c4,c5,c6,c7,c8,c9,c10,c11,c12,c13,c14,c15⟩:=id hm1;go_wp2_with fail
           go_roundw
           case rel=>exact ⟨m+1,_,_,by omega,by omega,by go_num,hm1.set1 _,xn ho1 (by omega)⟩
           case measure=>simp [intOf]; omega
          ·have q7:(k % 7==0)=false:=by simp; exact e7
           clear e7;have mvf:=mv1.step ((((((Below.refl (B+2) W1).setCell (p:=⟨X,0,none⟩) hX (.int .i64 0)).setCell (p:=⟨X,1,none⟩) hX (.int .i64 0)).setCell (p:=⟨X,2,none⟩) hX (.int .i64 0)).setCell (p:=⟨X,3,none⟩) hX (.float .f64 kc)))
           go_wp2_with (first
            | (go_at_call 61; refine (yF _ _ _ (by decide) (by decide)).mono ?_; rintro e w3 ⟨rfl,rfl⟩)
            | (at_builtin; refine wpList_append_own _ rfl _ _ 26 rfl (B+2) 66 i55 (.agg #[.int .i64 0,.int .i64 0,.int .i64 0,.float .f64 0]) 4 32 Tryz.underlying26 HI0.out HI.out.1 HI.out.2.1 HI.out.2.2 rfl (by decide) (.slice va (j+1+m) vcap) (j+1+m) (xG op (j+1+m)) rfl (World.ownsRow.alloc (yr (yr (yr (yr own1 hvx) hvx) hvx) hvx) _) ⟨W1.heap.size,0,none⟩ 1 1 [.int .i64 0,.int .i64 0,.int .i64 0,.float .f64 kc] rfl rfl (World.news_of_block (cs:=#[.int .i64 0,.int .i64 0,.int .i64 0,.float .f64 kc]) (t:=66) (fr:=(0,0)) (wW (w:=((((W1.setCell ⟨X,0,none⟩ (.int .i64 0)).setCell ⟨X,1,none⟩ (.int .i64 0)).setCell ⟨X,2,none⟩ (.int .i64 0)).setCell ⟨X,3,none⟩ (.float .f64 kc))) (by simp [World.setCell]))) (by simp [Value.oneCell']) (by unfold maxLen; omega) (by omega) (by have:=mvf.2.2.2.2.2.2.2.2.2.2.2.2.1; simp; omega) ?_)
            | go_in)
           intro v' w1 hown' hgrow _;have hm1:=(mvf.step ((Below.refl (B+2) ((((W1.setCell ⟨X,0,none⟩ (.int .i64 0)).setCell ⟨X,1,none⟩ (.int .i64 0)).setCell ⟨X,2,none⟩ (.int .i64 0)).setCell ⟨X,3,none⟩ (.float .f64 kc))).alloc (by have:=mvf.2.2.2.2.2.2.2.2.2.2.2.2.1; omega) _)).step (xA (World.ownsRow.alloc (yr (yr (yr (yr own1 hvx) hvx) hvx) hvx) _) (Nat.le_refl _) (by have:=mvf.2.2.2.2.2.2.2.2.2.2.2.2.1; simp; omega) hgrow)
           have ho1:w1.ownsRow (B+2) 66 4 v' (j+1+(m+1)) (xG op (j+1+(m+1))):=by
            show w1.ownsRow (B+2) 66 4 v' (j+1+m+1) (xG op (j+1+m) ++ xK (op (j+1+m)));rw [hop]; exact hown'
           obtain ⟨a',cap',rfl,-⟩:=yV ho1;clear hown' hgrow own1 mv1 mvf d0 d1 d2 d3 d4 c1 c2 c3 c4 c5 c6 c7 c8 c9 c10 c11 c12 c13 c14 c15;obtain ⟨c1,c2,c3,c4,c5,c6,c7,c8,c9,c10,c11,c12,c13,c14,c15⟩:=id hm1;go_wp2_with fail
           go_roundw
           case rel=>exact ⟨m+1,_,_,by omega,by omega,by go_num,hm1.set1 _,xn ho1 (by omega)⟩
           case measure=>simp [intOf]; omega
        ·have q11:(k % 11==0)=false:=by simp; exact e11
         by_cases e5:div=true∧k % 7=0
         ·have hop:op (j+1+m)=⟨5,ka,kb,0⟩:=by
           rw [ho3];unfold mD;rw [if_neg e11,if_pos e5,← hka,← hkb];rfl
          obtain ⟨e51,e7⟩:=e5;have q7:(k % 7==0)=true:=by simp; exact e7
          subst e51;clear e11 e7 ho3;have mvf:=mv1.step (((Below.refl (B+2) W1).setCell (p:=⟨X,0,none⟩) hX (.int .i64 5)))
          go_wp2_with (first
           | (go_at_call 61; refine (yF _ _ _ (by decide) (by decide)).mono ?_; rintro e w3 ⟨rfl,rfl⟩)
           | (at_builtin; refine wpList_append_own _ rfl _ _ 26 rfl (B+2) 66 i55 (.agg #[.int .i64 0,.int .i64 0,.int .i64 0,.float .f64 0]) 4 32 Tryz.underlying26 HI0.out HI.out.1 HI.out.2.1 HI.out.2.2 rfl (by decide) (.slice va (j+1+m) vcap) (j+1+m) (xG op (j+1+m)) rfl (World.ownsRow.alloc (yr own1 hvx) _) ⟨W1.heap.size,0,none⟩ 1 1 [.int .i64 5,.int .i64 ka,.int .i64 kb,.float .f64 0] rfl rfl (World.news_of_block (cs:=#[.int .i64 5,.int .i64 ka,.int .i64 kb,.float .f64 0]) (t:=66) (fr:=(0,0)) (wW (w:=(W1.setCell ⟨X,0,none⟩ (.int .i64 5))) (by simp [World.setCell]))) (by simp [Value.oneCell']) (by unfold maxLen; omega) (by omega) (by have:=mvf.2.2.2.2.2.2.2.2.2.2.2.2.1; simp; omega) ?_)
           | go_in)
          intro v' w1 hown' hgrow _;have hm1:=(mvf.step ((Below.refl (B+2) (W1.setCell ⟨X,0,none⟩ (.int .i64 5))).alloc (by have:=mvf.2.2.2.2.2.2.2.2.2.2.2.2.1; omega) _)).step (xA (World.ownsRow.alloc (yr own1 hvx) _) (Nat.le_refl _) (by have:=mvf.2.2.2.2.2.2.2.2.2.2.2.2.1; simp; omega) hgrow)
          have ho1:w1.ownsRow (B+2) 66 4 v' (j+1+(m+1)) (xG op (j+1+(m+1))):=by
           show w1.ownsRow (B+2) 66 4 v' (j+1+m+1) (xG op (j+1+m) ++ xK (op (j+1+m)));rw [hop]; exact hown'
          obtain ⟨a',cap',rfl,-⟩:=yV ho1;clear hown' hgrow own1 mv1 mvf d0 d1 d2 d3 d4 c1 c2 c3 c4 c5 c6 c7 c8 c9 c10 c11 c12 c13 c14 c15;obtain ⟨c1,c2,c3,c4,c5,c6,c7,c8,c9,c10,c11,c12,c13,c14,c15⟩:=id hm1;go_wp2_with fail
          go_roundw
          case rel=>exact ⟨m+1,_,_,by omega,by omega,by go_num,hm1.set1 _,xn ho1 (by omega)⟩
          case measure=>simp [intOf]; omega
         ·have hop:op (j+1+m)=⟨2+k3,ka,kb,0⟩:=by
           rw [ho3];unfold mD;rw [if_neg e11,if_neg e5,← hka,← hkb,← hk3];rfl
          cases div
          ·clear e11 e5 ho3;have mvf:=mv1.step ((Below.refl (B+2) W1))
           go_wp2_with (first
            | (go_at_call 61; refine (yF _ _ _ (by decide) (by decide)).mono ?_; rintro e w3 ⟨rfl,rfl⟩)
            | (at_builtin; refine wpList_append_own _ rfl _ _ 26 rfl (B+2) 66 i55 (.agg #[.int .i64 0,.int .i64 0,.int .i64 0,.float .f64 0]) 4 32 Tryz.underlying26 HI0.out HI.out.1 HI.out.2.1 HI.out.2.2 rfl (by decide) (.slice va (j+1+m) vcap) (j+1+m) (xG op (j+1+m)) rfl (World.ownsRow.alloc own1 _) ⟨W1.heap.size,0,none⟩ 1 1 [.int .i64 (2+k3),.int .i64 ka,.int .i64 kb,.float .f64 0] rfl rfl (World.news_of_block (cs:=#[.int .i64 (2+k3),.int .i64 ka,.int .i64 kb,.float .f64 0]) (t:=66) (fr:=(0,0)) (heap_alloc_new W1 _)) (by simp [Value.oneCell']) (by unfold maxLen; omega) (by omega) (by have:=mvf.2.2.2.2.2.2.2.2.2.2.2.2.1; simp; omega) ?_)
            | go_in)
           intro v' w1 hown' hgrow _;have hm1:=(mvf.step ((Below.refl (B+2) W1).alloc (by have:=mvf.2.2.2.2.2.2.2.2.2.2.2.2.1; omega) _)).step (xA (World.ownsRow.alloc own1 _) (Nat.le_refl _) (by have:=mvf.2.2.2.2.2.2.2.2.2.2.2.2.1; simp; omega) hgrow)
           have ho1:w1.ownsRow (B+2) 66 4 v' (j+1+(m+1)) (xG op (j+1+(m+1))):=by
            show w1.ownsRow (B+2) 66 4 v' (j+1+m+1) (xG op (j+1+m) ++ xK (op (j+1+m)));rw [hop]; exact hown'
           obtain ⟨a',cap',rfl,-⟩:=yV ho1;clear hown' hgrow own1 mv1 mvf d0 d1 d2 d3 d4 c1 c2 c3 c4 c5 c6 c7 c8 c9 c10 c11 c12 c13 c14 c15;obtain ⟨c1,c2,c3,c4,c5,c6,c7,c8,c9,c10,c11,c12,c13,c14,c15⟩:=id hm1;go_wp2_with fail
           go_roundw
           case rel=>exact ⟨m+1,_,_,by omega,by omega,by go_num,hm1.set1 _,xn ho1 (by omega)⟩
           case measure=>simp [intOf]; omega
          ·have e7:¬ k % 7=0:=fun e=>e5 ⟨rfl,e⟩
           have q7:(k % 7==0)=false:=by simp; exact e7
           clear e11 e5 ho3 e7;have mvf:=mv1.step ((Below.refl (B+2) W1))
           go_wp2_with (first
            | (go_at_call 61; refine (yF _ _ _ (by decide) (by decide)).mono ?_; rintro e w3 ⟨rfl,rfl⟩)
            | (at_builtin; refine wpList_append_own _ rfl _ _ 26 rfl (B+2) 66 i55 (.agg #[.int .i64 0,.int .i64 0,.int .i64 0,.float .f64 0]) 4 32 Tryz.underlying26 HI0.out HI.out.1 HI.out.2.1 HI.out.2.2 rfl (by decide) (.slice va (j+1+m) vcap) (j+1+m) (xG op (j+1+m)) rfl (World.ownsRow.alloc own1 _) ⟨W1.heap.size,0,none⟩ 1 1 [.int .i64 (2+k3),.int .i64 ka,.int .i64 kb,.float .f64 0] rfl rfl (World.news_of_block (cs:=#[.int .i64 (2+k3),.int .i64 ka,.int .i64 kb,.float .f64 0]) (t:=66) (fr:=(0,0)) (heap_alloc_new W1 _)) (by simp [Value.oneCell']) (by unfold maxLen; omega) (by omega) (by have:=mvf.2.2.2.2.2.2.2.2.2.2.2.2.1; simp; omega) ?_)
            | go_in)
           intro v' w1 hown' hgrow _;have hm1:=(mvf.step ((Below.refl (B+2) W1).alloc (by have:=mvf.2.2.2.2.2.2.2.2.2.2.2.2.1; omega) _)).step (xA (World.ownsRow.alloc own1 _) (Nat.le_refl _) (by have:=mvf.2.2.2.2.2.2.2.2.2.2.2.2.1; simp; omega) hgrow)
           have ho1:w1.ownsRow (B+2) 66 4 v' (j+1+(m+1)) (xG op (j+1+(m+1))):=by
            show w1.ownsRow (B+2) 66 4 v' (j+1+m+1) (xG op (j+1+m) ++ xK (op (j+1+m)));rw [hop]; exact hown'
           obtain ⟨a',cap',rfl,-⟩:=yV ho1;clear hown' hgrow own1 mv1 mvf d0 d1 d2 d3 d4 c1 c2 c3 c4 c5 c6 c7 c8 c9 c10 c11 c12 c13 c14 c15;obtain ⟨c1,c2,c3,c4,c5,c6,c7,c8,c9,c10,c11,c12,c13,c14,c15⟩:=id hm1;go_wp2_with fail
           go_roundw
           case rel=>exact ⟨m+1,_,_,by omega,by omega,by go_num,hm1.set1 _,xn ho1 (by omega)⟩
           case measure=>simp [intOf]; omega
       ·obtain rfl:m=8:=by omega
        have hmin:min ln 8=8:=by omega
        clear h8;go_wp2_with fail
        all_goals (go_meet; rw [hmin]; exact ⟨_,_,hm,hown⟩)
      ·obtain rfl:m=ln:=by omega
       have hmin:min m 8=m:=by omega
       go_wp2_with fail
       all_goals (go_meet; rw [hmin]; exact ⟨_,_,hm,hown⟩)
    case rest=>
     clear hm hown c1 c2 c3 c4 c5 c6 c7 c8 c9 c10 c11 c12 c13 c14 c15;obtain ⟨va,vcap,hm,hown⟩:=hcut;obtain ⟨c1,c2,c3,c4,c5,c6,c7,c8,c9,c10,c11,c12,c13,c14,c15⟩:=id hm;go_wp2_with fail;have hH:∀ k,(Value.slice va (j+1+min ln 8) vcap).ownBlock=some k→k<wc.heap.size:=fun k e=>(hown.lt k e).2
     have hHB:B+2≤wc.heap.size:=by omega
     generalize hL:j+1+min ln 8=L at *;generalize hHe:wc.heap.size=H at *;have hL1:2≤L:=by omega
     have hL2:L≤12:=by omega
     go_loopw [13] (fun i wr=>∃ (q:Nat) (ua:Option Addr) (ucap:Nat),q≤j∧i=.int .i64 q∧MV w B (1+r) (.slice va L vcap) (.slice ua q ucap) wr∧H≤wr.heap.size∧wr.ownsRow H 3 1 (.slice ua q ucap) q (yY out q)∧wr.ownsRow (B+2) 66 4 (.slice va L vcap) L (xG op L)) (fun i _=>j-(intOf i).toNat)
     case atStart=>exact ⟨0,_,_,by omega,rfl,hm,by omega,World.ownsRow_nil _ _ _ _,hown⟩
     case round=>
      clear hm hown c1 c2 c3 c4 c5 c6 c7 c8 c9 c10 c11 c12 c13 c14 c15;obtain ⟨q,ua,ucap,hq,rfl,hm,hHs,hu,hown⟩:=hrel;obtain ⟨c1,c2,c3,c4,c5,c6,c7,c8,c9,c10,c11,c12,c13,c14,c15⟩:=id hm;by_cases hlt:q<j
      ·have tb:-3074457345618258603≤n.tdiv 3∧n.tdiv 3≤3074457345618258603:=by
        have:=Int.natAbs_tdiv n 3;have e3:(3:Int).natAbs=3:=rfl;rw [e3] at this;have:=hn.1;have:=hn.2;have:n.natAbs / 3=n.natAbs.div 3:=rfl;omega
       have ho:=HO.out q;rw [hjN,hL] at ho;have w1:IntKind.i64.wrap ((L:Int)-1)=(L:Int)-1:=IntWalk.i64_in _ (by omega);have w2:IntKind.i64.wrap (n.tdiv 3)=n.tdiv 3:=IntWalk.i64_in _ (by omega);have w3:IntKind.i64.wrap (n.tdiv 3+(q:Int))=n.tdiv 3+(q:Int):=IntWalk.i64_in _ (by omega);have hM:((min 3 L:Nat):Int)=if (L:Int)<3 then (L:Int) else 3:=by split<;>omega
       have hM1:1≤(if (L:Int)<3 then (L:Int) else 3)∧(if (L:Int)<3 then (L:Int) else 3)≤3:=by split<;>omega
       rw [hM] at ho;have m1:=Int.emod_nonneg (n.tdiv 3+(q:Int)) (show (if (L:Int)<3 then (L:Int) else 3)≠0 by omega);have m2:=Int.emod_lt_of_pos (n.tdiv 3+(q:Int)) (show 0<(if (L:Int)<3 then (L:Int) else 3) by omega);have WM:=hid fun W=>yF (n.tdiv 3+(q:Int)) (if (L:Int)<3 then (L:Int) else 3) W (by omega) (by omega)
       generalize hx:(n.tdiv 3+(q:Int)) % (if (L:Int)<3 then (L:Int) else 3)=x at *;have x1:x<3:=by omega
       clear m2 hM hM1;have w4:IntKind.i64.wrap ((L:Int)-1-x)=(L:Int)-1-x:=IntWalk.i64_in _ (by omega);have hne:some (B+1)≠(Value.slice ua q ucap).ownBlock:=fun e=>by have:=(hu.lt _ e.symm).1; omega
       have hcz:∀ O,(wr.alloc O).drew.cell? ⟨B+1,2,none⟩=some (.slice ua q ucap):=fun O=>(((Below.refl (B+2) wr).alloc (by omega) O).cell (p:=⟨B+1,2,none⟩) (by simp)).trans c3
       have hfz:∀ O,(wr.alloc O).drew.frozen? ⟨B+1,2,none⟩=false:=fun O=>(((Below.refl (B+2) wr).alloc (by omega) O).frozen (p:=⟨B+1,2,none⟩) (by simp)).trans c6
       have ho':=hid ho;have hm':=hid hm;have hu':=hid hu;have hown':=hid hown;have c15':=hid c15;clear hx ho hm hu hown c7 c8 c9 c10 c11 c12 c14 c15 HC HNS H3 H2 W17 HK HI HI0 hop1 hn tb HO m1 x1;have hH':=hid hH;clear hH;clear n1 n2;go_wp2_with fail;have hBw:B+2≤wr.heap.size:=by omega
       refine zv [(0,1),(1,3),(2,1),(3,3),(4,1),(5,1),(6,1),(7,1),(8,1),(9,1),(10,1),(11,3),(12,1),(13,1),(14,0),(15,1),(16,0),(17,0),(18,1),(19,0)] (fun W=>W.cell? ⟨B+1,1,none⟩=some (.slice va L vcap)∧W.cell? ⟨B+1,2,none⟩=some (.slice ua q ucap)) (by kernel_rfl) (by kernel_rfl) (fun _ _ d _ _ h=>by cases d<;>exact h) (⟨c2,c3⟩) ?_;intro Z hZ hrZ;have hbZ:Below wr.heap.size wr Z:=by rw [hZ]; exact (Below.refl _ _).drew
       clear hZ
       iterate 1
        first
         | refine zd (fun K hK=>?_)
         | refine ze (fun K hK=>?_)
        go_simp;refine hK _ ?_;clear hK K
       refine zh (v:=.slice ua q ucap) rfl rfl (fun wk hwk=>?_) ?_
       ·obtain ⟨k1,k2⟩:=hwk;go_simp
       iterate 1
        first
         | refine zd (fun K hK=>?_)
         | refine ze (fun K hK=>?_)
        go_simp;refine hK _ ?_;clear hK K
       refine zh (v:=.slice va L vcap) rfl rfl (fun wk hwk=>?_) ?_
       ·obtain ⟨k1,k2⟩:=hwk;go_simp
       iterate 7
        first
         | refine zd (fun K hK=>?_)
         | refine ze (fun K hK=>?_)
        go_simp;refine hK _ ?_;clear hK K
       refine zh (v:=.slice va L vcap) rfl rfl (fun wk hwk=>?_) ?_
       ·obtain ⟨k1,k2⟩:=hwk;go_simp
       iterate 2
        first
         | refine zd (fun K hK=>?_)
         | refine ze (fun K hK=>?_)
        go_simp;refine hK _ ?_;clear hK K
       refine zm (fun K hK=>?_);go_simp;refine (WM.out _).mono ?_;rintro e w' ⟨rfl,rfl⟩;refine hK _ _ (fun h=>Bool.noConfusion (Eq.trans (Eq.symm (by kernel_rfl:_=false)) h)) (fun _=>hrZ) ?_;clear hK K
       iterate 1
        first
         | refine zd (fun K hK=>?_)
         | refine ze (fun K hK=>?_)
        go_simp;refine hK _ ?_;clear hK K
       refine zm (fun K hK=>?_);go_simp;have hal:Below Z.heap.size Z (Z.alloc (.cells #[.int .i64 ((L:Int)-1-x)] 3)):=(Below.refl _ _).alloc (Nat.le_refl _) _;have hbA:=hbZ.trans (hal.mono hbZ.size);have c2A:=(hbA.cell (p:=⟨B+1,1,none⟩) (show B+1<_ by omega)).trans c2;have c3A:=(hbA.cell (p:=⟨B+1,2,none⟩) (show B+1<_ by omega)).trans c3;refine hK _ _ (fun h=>Bool.noConfusion (Eq.trans (Eq.symm (by kernel_rfl:_=false)) h)) (fun _=>⟨c2A,c3A⟩) ?_;clear hK K;have huA:(Z.alloc (.cells #[.int .i64 ((L:Int)-1-x)] 3)).ownsRow H 3 1 (.slice ua q ucap) q (yY out q):=rP hu'.out (fun k hk=>hbA.block k (hu'.out.lt k hk).2);have hvA:(Z.alloc (.cells #[.int .i64 ((L:Int)-1-x)] 3)).ownsRow (B+2) 66 4 (.slice va L vcap) L (xG op L):=rP hown'.out (fun k hk=>hbA.block k (hown'.out.lt k hk).2);have hsA:(Z.alloc (.cells #[.int .i64 ((L:Int)-1-x)] 3)).heap.size=Z.heap.size+1:=by simp
       have hsZ:=hbZ.size;have c6A:=(hbA.frozen (p:=⟨B+1,2,none⟩) (show B+1<_ by omega)).trans c6;refine zm (fun K hK=>?_);refine yJ rfl ?_;refine step_append_lies _ (by rfl) _ _ _ (by rfl) H 3 i3 (.int .i64 0) 1 8 Tryz.underlying22 GI0.out GI.out.1 GI.out.2.1 GI.out.2.2 rfl (by decide) _ q (yY out q) (by rfl) huA ⟨Z.heap.size,0,none⟩ 1 1 [.int .i64 ((L:Int)-1-x)] (by rfl) (by rfl) (World.news_of_block (cs:=#[.int .i64 ((L:Int)-1-x)]) (t:=3) (fr:=(0,0)) (heap_alloc_new Z _)) (by simp [Value.oneCell']) (by omega) (by unfold maxLen; omega) (by omega) (by omega) (Z.heap.size+1) hsA ?_;intro gg cap1 wn hown1 hgrow hat hlt1;have hb1:Below (B+2) wr wn:=(hbA.mono (show B+2≤wr.heap.size by omega)).trans (xA huA hHB (by omega) hgrow);have z1:=hgrow.cell c3A hne;have z3:=hgrow.cell c2A hne;have z2:=(World.frozen?_of_block (a:=⟨B+1,2,none⟩) (hgrow.block (B+1) (by omega) hne)).trans c6A
       have hn1:wn.ownsRow H 3 1 (.slice (some ⟨gg,0,none⟩) (q+1) cap1) (q+1) (yY out (q+1)):=by
        show wn.ownsRow _ _ _ _ _ (yY out q ++ [.int .i64 (out q)]);rw [ho'.out]; exact hown1
       have hk1:=hvA.kept hgrow (by
        cases hv:(Value.slice va L vcap).ownBlock with
        | none=>exact .inl rfl
        | some k=>exact .inr (fun e=>by have:=(hu'.out.lt k e.symm).1; have:=hH'.out k hv; omega))
       have hH2:H≤wn.heap.size:=by have:=hgrow.size; omega
       have hm1:=(hm'.out.step hb1).set2 (.slice (some ⟨gg,0,none⟩) (q+1) cap1);have HM1:=hid hm1;have HN1:=hid hn1;have HK1:=hid hk1;clear hown1 hgrow hat hm1 hn1 hk1 hb1 huA hvA hbA hal c3A c6A c2A c3 c2 hbZ hrZ;refine hK _ _ (fun h=>Bool.noConfusion (Eq.trans (Eq.symm (by kernel_rfl:_=false)) h)) (fun _=>⟨z3,z1⟩) ?_;clear hK K
       iterate 1
        first
         | refine zd (fun K hK=>?_)
         | refine ze (fun K hK=>?_)
        go_simp;refine hK _ ?_;clear hK K
       refine zm (fun K hK=>?_);go_simp;refine hK _ _ (fun h=>Bool.noConfusion (Eq.trans (Eq.symm (by kernel_rfl:_=false)) h)) (fun h=>Bool.noConfusion (Eq.trans (Eq.symm (by kernel_rfl:_=false)) h)) ?_;clear hK K;refine zo ?_;clear z1 z2 z3;go_wp2_with fail
       go_roundw
       case rel=>exact ⟨q+1,_,_,by omega,by go_num,HM1.out,by simp [World.setCell]; omega,xn HN1.out (by omega),xn HK1.out (by omega)⟩
       case measure=>simp [intOf]; omega
      ·obtain rfl:q=j:=by omega
       go_wp2_with fail;refine bodyPost_ret (v:=.agg #[.int .i64 (1+r),.slice va L vcap,.slice ua q ucap]) (by simp [results,Tryz.results33,go_sem,c7,c8,c9]) rfl ⟨_,rfl,?_,?_⟩
       ·rw [hr,hjN,hL,c14];exact ⟨_,_,rfl,np (xn (xn (xn hown (by omega)) (by omega)) (by omega)) (by omega),np (xn (xn (xn hu (by omega)) (by omega)) (by omega)) (by omega),fun k hk e=>by have:=hH k hk; have:=(hu.lt k e).1; omega⟩
       ·rw [c14];exact ((c15.setCell (by simp) _).setCell (by simp) _).setCell (by simp) _
end Go.Proofs.YtnlbafjmbamoeaaGreat
namespace Go.Proofs.YtnlbafjmbamoeaaGreat
open Go.RowKit Lib
open Ieee (double)
attribute [local go_sem] zr zi zy zn zU zS zW zX zV zY zD zH zI zJ zK zB
def c8 (x:Int):Nat:=cop .quo (floatOfInt .f64 x) 4620693217682128896
theorem mH:∀ i:Fin 65,isN (c8 ((i.val:Int)-32))=false:=by decide +kernel
theorem ox {x:Int} (h1:-32≤x) (h2:x≤32):(∀ w,zZ .quo w (floatOfInt .f64 x) 4620693217682128896=c8 x)∧zP .quo (floatOfInt .f64 x) 4620693217682128896=0∧zk (c8 x)=c8 x∧c8 x<18446744073709551616:=by
 have h:=mH ⟨(x+32).toNat,by omega⟩;have e:(((x+32).toNat:Nat):Int)-32=x:=by omega
 simp only [e] at h;exact ⟨(xx h).1,(xx h).2,wK _ _ _,sE _ _ _⟩
def nth (zs:List Int) (d:Int) (i:Nat):Int:=if i<zs.length then zs.getD i 0 else d
def uV (zs:List Int) (i:Nat):Nat:=c8 (nth zs i i % 65-32)
theorem qH.read {w:World} {v:Value} {zs:List Int} (h:qH w v zs):∃ a cap,v=.slice a zs.length cap∧zs.length≤9223372036854775807∧(0<zs.length→∃ b off,a=some ⟨b,off,none⟩∧b<w.heap.size∧∀ i,i<zs.length→w.cell? ⟨b,off+i,none⟩=some (.int .i64 (zs.getD i 0))):=by
 rcases h with ⟨o,cap,rfl,rfl⟩ | ⟨b,off,cap,rfl,hbs,hl,hc⟩
 ·exact ⟨o,cap,rfl,by simp,fun h=>by simp at h⟩
 ·exact ⟨_,cap,rfl,hl,fun _=>⟨b,off,rfl,hbs,hc⟩⟩
theorem sI {w w':World} {v:Value} {zs:List Int} (h:qH w v zs) (hb:Below w.heap.size w w'):qH w' v zs:=by
 rcases h with h | ⟨b,off,cap,rfl,hbs,hl,hc⟩
 ·exact .inl h
 ·exact .inr ⟨b,off,cap,rfl,Nat.lt_of_lt_of_le hbs hb.size,hl,fun i hi=>((zA hb).1 _ _ hbs).trans (hc i hi)⟩
set_option maxRecDepth 100000
set_option maxHeartbeats 16000000
theorem qn (n:Nat) (v:Value) (zs:List Int) (w:World) (h:qH w v zs) (h1:1≤n) (h8:n≤8) :
  Calls Tryz.prog 34 #[.int .i64 n,v] w fun e w'=>∃ R cap,e=.returned (.slice (some ⟨R,0,none⟩) n cap)∧yd w' w.heap.size R n cap (uV zs)∧Below w.heap.size w w':=by
 obtain ⟨a,cap0,rfl,hl,hr⟩:=h.read;obtain ⟨iF,hF,f1,f2,f3⟩:=info_parts xu;have HF:=hid (show iF.zero=_∧iF.size=_∧iF.bytes=_ from ⟨f1,f2,f3⟩);have HF0:=hid hF;have HR:=hid hr;clear hF f1 f2 f3 hr h;go_enter Tryz.func34,Tryz.ntmps34;generalize hB:w.heap.size=B at *;go_wp2_with fail
 go_loopw [5,6] (fun vr i wr=>∃ (j:Nat) (qs:List Value),j≤n∧i=.int .i64 j∧wr.ownsRow B 31 1 vr j qs∧yO qs j (uV zs)∧Below B w wr) (fun _ i _=>n-(intOf i).toNat)
 case atStart=>exact ⟨0,[],by omega,rfl,World.ownsRow_nil _ _ _ _,yO.nil _ _,Below.refl _ _⟩
 case round=>
  obtain ⟨j,qs,hj,rfl,ho,hq,hbl⟩:=hrel;obtain ⟨va,vcap,rfl⟩:=ym ho;by_cases hlt:j<n
  ·have HQ:=hid hq;have hsz:=hbl.size;have hrow:uV zs j=c8 (nth zs j j % 65-32):=rfl;have HROW:=hid hrow;clear hq hrow;by_cases hz:j<zs.length
   ·obtain ⟨b,off,rfl,hbs,hc⟩:=HR.out (by omega);have d1:=hc j hz;rw [← show wr.cell? ⟨b,off+j,none⟩=w.cell? ⟨b,off+j,none⟩ from hbl.cell (p:=⟨b,off+j,none⟩) hbs] at d1;have hnth:nth zs j j=zs.getD j 0:=if_pos hz;generalize zs.getD j 0=u at *;have HN:=hid hnth;clear hc hnth;go_wp2_with fail;refine (yF u 65 _ (by decide) (by decide)).mono ?_;rintro e w' ⟨rfl,rfl⟩;have b1:=Int.emod_nonneg u (show (65:Int)≠0 by decide);have b2:=Int.emod_lt_of_pos u (show (0:Int)<65 by decide);have HU:=hid (show uV zs j=c8 (u % 65-32) by rw [HROW.out,HN.out]);generalize u % 65=t at *;obtain ⟨k1,k2,k3,k4⟩:=ox (x:=t-32) (by omega) (by omega);have HK:=hid k3;have HO:=hid ho;clear k3 ho HN HROW;generalize c8 (t-32)=y at *
    go_wp2_with (first
     | (at_builtin; refine wpList_append_own_at _ rfl _ _ 30 rfl B 31 iF (.float .f64 0) 1 8 Tryz.underlying30 HF0.out HF.out.1 HF.out.2.1 HF.out.2.2 rfl (by decide) (.slice va j vcap) j qs rfl (yp (HO.out.alloc _) _) ⟨wr.heap.size,0,none⟩ 1 1 [.float .f64 y] rfl rfl (uj wr (.float .f64 y) 31 _) (by simp [Value.oneCell']) (by unfold maxLen; omega) (by omega) (yK _ _ _ (by omega)) ?_)
     | go_in)
    intro v' w2 hown' hgrow _ _;have hb2:Below B wr w2:=(yc ((Below.refl B wr).alloc (by omega) _) 0).trans (yv (yp (HO.out.alloc _) 0) (Nat.le_refl _) (yK _ _ _ (by omega)) hgrow);have hql:=HO.out.1;have hq':=HQ.out.app (by omega) (HK.out.trans HU.out.symm) k4;have HQ':=hid hq';have HO':=hid hown';clear hq' hown' hgrow k1 k2;go_wp2_with fail
    go_roundw
    case rel=>exact ⟨j+1,_,by omega,by go_num,HO'.out,HQ'.out,hbl.trans hb2⟩
    case measure=>simp [intOf]; omega
   ·have hnth:nth zs j j=(j:Int):=if_neg hz;have HN:=hid hnth;clear hnth;go_wp2_with fail;refine (yF (j:Int) 65 _ (by decide) (by decide)).mono ?_;rintro e w' ⟨rfl,rfl⟩;have b1:=Int.emod_nonneg (j:Int) (show (65:Int)≠0 by decide);have b2:=Int.emod_lt_of_pos (j:Int) (show (0:Int)<65 by decide);have HU:=hid (show uV zs j=c8 ((j:Int) % 65-32) by rw [HROW.out,HN.out]);generalize (j:Int) % 65=t at *;obtain ⟨k1,k2,k3,k4⟩:=ox (x:=t-32) (by omega) (by omega);have HK:=hid k3;have HO:=hid ho;clear k3 ho HN HROW;generalize c8 (t-32)=y at *
    go_wp2_with (first
     | (at_builtin; refine wpList_append_own_at _ rfl _ _ 30 rfl B 31 iF (.float .f64 0) 1 8 Tryz.underlying30 HF0.out HF.out.1 HF.out.2.1 HF.out.2.2 rfl (by decide) (.slice va j vcap) j qs rfl (yp (HO.out.alloc _) _) ⟨wr.heap.size,0,none⟩ 1 1 [.float .f64 y] rfl rfl (uj wr (.float .f64 y) 31 _) (by simp [Value.oneCell']) (by unfold maxLen; omega) (by omega) (yK _ _ _ (by omega)) ?_)
     | go_in)
    intro v' w2 hown' hgrow _ _;have hb2:Below B wr w2:=(yc ((Below.refl B wr).alloc (by omega) _) 0).trans (yv (yp (HO.out.alloc _) 0) (Nat.le_refl _) (yK _ _ _ (by omega)) hgrow);have hql:=HO.out.1;have hq':=HQ.out.app (by omega) (HK.out.trans HU.out.symm) k4;have HQ':=hid hq';have HO':=hid hown';clear hq' hown' hgrow k1 k2;go_wp2_with fail
    go_roundw
    case rel=>exact ⟨j+1,_,by omega,by go_num,HO'.out,HQ'.out,hbl.trans hb2⟩
    case measure=>simp [intOf]; omega
  ·obtain rfl:j=n:=by omega
   obtain ⟨R,cap,hv,hO⟩:=hq.own ho (by omega);simp only [Value.slice.injEq] at hv;obtain ⟨rfl,-,rfl⟩:=hv;have HO:=hid hO;clear hO ho hq;go_wp2_with fail;go_ret;exact ⟨R,vcap,rfl,HO.out,hbl⟩
end Go.Proofs.YtnlbafjmbamoeaaGreat
namespace Go.Proofs.YtnlbafjmbamoeaaGreat
open Go.RowKit Lib
open Ieee (double)
theorem qU (n:Int) (v:Value) (ln:Nat) (ns:Nat→Int) (div:Bool) (w:World) (h:uK w v ln ns) (hn:Rng n) (hns:∀ i,i<ln→Rng (ns i)) :
  Calls Tryz.prog 33 #[.int .i64 n,v,.bool div] w fun e w'=>∃ u,e=.returned u∧xX w' w.heap.size u (tZ n ns ln div)∧Below w.heap.size w w':=by
 have n1:=Int.emod_nonneg n (show (3:Int)≠0 by decide);refine mG n v ln ns div w h hn hns (mE n ns div) (tZ n ns ln div).out (fun i hi=>?_) ?_ (fun i=>?_) (fun i=>rfl)
 ·unfold mE; rw [if_pos hi]
 ·unfold mE; rw [if_neg (by omega),if_pos (by omega)]
 ·unfold mE;rw [if_neg (by omega),if_neg (by omega),show (1+n % 3).toNat+1+i-1-(1+n % 3).toNat=i by omega]
end Go.Proofs.YtnlbafjmbamoeaaGreat
namespace Go.Proofs.YtnlbafjmbamoeaaGreat
open Go.RowKit Lib
open Ieee (double)
attribute [local go_sem] zr zi zy zn zU zS zW zX zV zY zD zH zI zJ zK zB
def grF (x:Nat→Nat):Nat→Nat
 | 0=>0
 | k+1=>if k=0 then x 0 else if ltB (grF x k) (x k) then x k else grF x k
def tw (x:Nat→Nat):Nat→Bool
 | 0=>false
 | k+1=>tw x k || isN (x k)
def xk (x:Nat→Nat) (n:Nat):Nat:=if tw x n then 9218868437227405312 else grF x n
theorem tx {y c:Nat} (h:zk y=c):isN y=isN c:=by rw [← h,yN]
set_option maxRecDepth 100000
set_option maxHeartbeats 16000000
theorem sK (fn:Nat) (c1 c2:Value) (n:Nat) (hn:n≤9223372036854775807) (x:Nat→Nat) (I:Nat→World→Prop) (w:World) (hI:I 0 w) (hf:∀ args W,(callFunc fn args).run Tryz.prog W=.ok (.enter fn args) W)
  (hc:∀ i W,i<n→I i W→Calls Tryz.prog fn #[.int .i64 i,c1,c2] W fun e W'=>(∃ y,e=.returned (.float .f64 y)∧zk y=x i∧y<18446744073709551616)∧I (i+1) W') :
  Calls Tryz.prog 114 #[.int .i64 n,.func (.func fn) #[] #[c1,c2]] w fun e w'=>(∃ y,e=.returned (.float .f64 y)∧zk y=grF x n∧y<18446744073709551616)∧I n w':=by
 have HC:=hid hc;have HI:=hid hI;clear hc hI;go_enter Tryz.func114,Tryz.ntmps114;by_cases h0:n=0
 ·subst h0;go_wp2_with fail;go_ret;exact ⟨⟨0,rfl,rfl,by decide⟩,HI.out⟩
 ·have hc0:=HC.out 0 w (by omega) HI.out;go_wp2_with fail;refine hc0.mono ?_;rintro e w1 ⟨⟨y,rfl,y1,y2⟩,hi1⟩;have HI1:=hid hi1;clear hi1 hc0;go_wp2_with fail
  go_loopw [5,6] (fun g i wr=>∃ (d z:Nat),1≤d∧d≤n∧i=.int .i64 d∧g=.float .f64 z∧zk z=grF x d∧z<18446744073709551616∧I d wr) (fun _ i _=>n-(intOf i).toNat)
  case atStart=>exact ⟨1,y,by omega,by omega,rfl,rfl,y1,y2,HI1.out⟩
  case round=>
   obtain ⟨d,z,hd1,hd,rfl,rfl,z1,z2,hi⟩:=hrel;by_cases hdn:d<n
   ·have hc1:=HC.out d wr hdn hi;clear hi;go_wp2_with fail;refine hc1.mono ?_;rintro e w1 ⟨⟨y,rfl,y1,y2⟩,hi1⟩;have HI1:=hid hi1;have hg:grF x (d+1)=if ltB (grF x d) (x d) then x d else grF x d:=by rw [grF,if_neg (by omega)]
    rw [← z1,← y1,tL] at hg;clear hi1 hc1
    cases hb:ltB z y with
    | true=>
     rw [hb,if_pos rfl] at hg;go_wp2_with fail
     go_roundw
     case rel=>exact ⟨d+1,y,by omega,by omega,by go_num,rfl,hg.symm,y2,HI1.out⟩
     case measure=>simp [intOf]; omega
    | false=>
     rw [hb,if_neg (by decide)] at hg;go_wp2_with fail
     go_roundw
     case rel=>exact ⟨d+1,z,by omega,by omega,by go_num,rfl,hg.symm,z2,HI1.out⟩
     case measure=>simp [intOf]; omega
   ·obtain rfl:n=d:=by omega
    go_wp2_with fail;go_ret;exact ⟨⟨z,rfl,z1,z2⟩,hi⟩
def tO (w0:World) (c:Value) (x:Nat→Nat) (i:Nat) (W:World):Prop:=
 W.cell? ⟨w0.heap.size,0,none⟩=some c∧W.cell? ⟨w0.heap.size+1,0,none⟩=some (.bool (tw x i))∧W.frozen? ⟨w0.heap.size+1,0,none⟩=false∧w0.heap.size+1<W.heap.size∧Below w0.heap.size w0 W
theorem qp (fn:Nat) (c1 c2:Value) (n:Nat) (x:Nat→Nat) (w:World) (hf:∀ args W,(callFunc fn args).run Tryz.prog W=.ok (.enter fn args) W)
  (hc:∀ i W,i<n→Below w.heap.size w W→Calls Tryz.prog fn #[.int .i64 i,c1,c2] W fun e W'=>(∃ y,e=.returned (.float .f64 y)∧zk y=x i∧y<18446744073709551616)∧Below W.heap.size W W')
  (i:Nat) (W:World) (hi:i<n) (h:tO w (.func (.func fn) #[] #[c1,c2]) x i W) :
  Calls Tryz.prog 115 #[.int .i64 i,.pointer (some ⟨w.heap.size,0,none⟩),.pointer (some ⟨w.heap.size+1,0,none⟩)] W fun e W'=>(∃ y,e=.returned (.float .f64 y)∧zk y=x i∧y<18446744073709551616)∧tO w (.func (.func fn) #[] #[c1,c2]) x (i+1) W':=by
 obtain ⟨k1,k2,k3,k4,k5⟩:=h;have hc1:=hc i W hi k5;have H:=hid k5;clear hc k5;generalize hB:w.heap.size=B at *;go_enter Tryz.func115,Tryz.ntmps115;go_wp2_with fail;refine hc1.mono ?_;rintro e w1 ⟨⟨y,rfl,y1,y2⟩,hb1⟩;have hs1:=hb1.size;have hnn:tw x (i+1)=(tw x i || isN y):=by rw [tx y1]; rfl
 rw [← (zA hb1).1 _ _ (by omega)] at k1;rw [← (zA hb1).1 _ _ (by omega)] at k2;rw [← (zA hb1).2 _ _ (by omega)] at k3;have hself:(!eqB y y)=isN y:=by rw [zD,Bool.not_not]
 have HB1:=hid hb1;clear hc1 hb1
 have fin:∀ b,tw x (i+1)=b→tO w (.func (.func fn) #[] #[c1,c2]) x (i+1) (w1.setCell ⟨B+1,0,none⟩ (.bool b)):=fun b hb=>by
  unfold tO;rw [hB,hb];refine ⟨?_,?_,?_,by simp [World.setCell]; omega,((H.out.trans (HB1.out.mono (by omega))).setCell (p:=⟨B+1,0,none⟩) (show B≤B+1 by omega) _)⟩
  ·rw [World.cell?_setCell_other _ _ _ _ (fun q=>by injection q with q1 _ _; omega)]; exact k1
  ·simp [go_sem,k2]
  ·simp [go_sem,k3]
 have FIN:=hid fin;clear fin
 cases hnf:tw x i with
 | true=>
  rw [hnf] at k2;go_wp2_with fail;go_ret;exact ⟨⟨y,rfl,y1,y2⟩,FIN.out _ (by rw [hnn,hnf]; rfl)⟩
 | false=>
  rw [hnf] at k2;go_wp2_with fail;go_ret;exact ⟨⟨y,rfl,y1,y2⟩,FIN.out _ (by rw [hnn,hnf]; rfl)⟩
theorem qZ (fn:Nat) (c1 c2:Value) (n:Nat) (hn:n≤9223372036854775807) (x:Nat→Nat) (w:World) (hf:∀ args W,(callFunc fn args).run Tryz.prog W=.ok (.enter fn args) W)
  (hc:∀ i W,i<n→Below w.heap.size w W→Calls Tryz.prog fn #[.int .i64 i,c1,c2] W fun e W'=>(∃ y,e=.returned (.float .f64 y)∧zk y=x i∧y<18446744073709551616)∧Below W.heap.size W W') :
  Calls Tryz.prog 82 #[.int .i64 n,.func (.func fn) #[] #[c1,c2]] w fun e w'=>(∃ y,e=.returned (.float .f64 y)∧zk y=xk x n∧y<18446744073709551616)∧Below w.heap.size w w':=by
 have GT:=hid (fun W=>sK 115 (.pointer (some ⟨w.heap.size,0,none⟩)) (.pointer (some ⟨w.heap.size+1,0,none⟩)) n hn x (tO w (.func (.func fn) #[] #[c1,c2]) x) W);have W1:=hid (qp fn c1 c2 n x w hf hc)
 have h0:tO w (.func (.func fn) #[] #[c1,c2]) x 0 ((w.alloc (.cells #[.func (.func fn) #[] #[c1,c2]] 92)).alloc (.cells #[.bool false] 4)):=by
  have e:(w.alloc (.cells #[.func (.func fn) #[] #[c1,c2]] 92)).heap.size=w.heap.size+1:=by simp
  refine ⟨?_,?_,?_,by simp,((Below.refl _ _).alloc (Nat.le_refl _) _).alloc (by rw [e]; omega) _⟩
  ·rw [World.cell?_alloc_lt _ _ _ (show w.heap.size<_ by rw [e]; omega),World.cell?_alloc_new]; rfl
  ·rw [← e,World.cell?_alloc_new]; rfl
  ·rw [← e]; simp [go_sem]
 clear hc hf;go_enter Tryz.func82,Tryz.ntmps82;go_wp2_with fail;refine (GT.out _ h0 (fun _ _=>rfl) (fun i W hi h=>W1.out i W hi h)).mono ?_;rintro e w1 ⟨⟨y,rfl,y1,y2⟩,hI⟩;obtain ⟨k1,k2,k3,k4,k5⟩:=hI;have H:=hid k5;clear k5 h0
 cases hnf:tw x n with
 | true=>
  have hw:xk x n=9218868437227405312:=by unfold xk; rw [hnf,if_pos rfl]
  rw [hnf] at k2;go_wp2_with fail;refine (qh _).mono ?_;rintro e w2 ⟨rfl,rfl⟩;go_wp2_with fail;go_ret;exact ⟨⟨_,rfl,by rw [hw]; decide,by decide⟩,H.out⟩
 | false=>
  have hw:xk x n=grF x n:=by unfold xk; rw [hnf,if_neg (by decide)]
  rw [hnf] at k2;go_wp2_with fail;go_ret;exact ⟨⟨y,rfl,by rw [hw]; exact y1,y2⟩,H.out⟩
end Go.Proofs.YtnlbafjmbamoeaaGreat
namespace Go.Proofs.YtnlbafjmbamoeaaGreat
open Go.RowKit Lib
open Ieee (double)
attribute [local go_sem] zr zi zy zn zU zS zW zX zV zY zD zH zI zJ zK zB ye z8 zF yE
theorem q8 {y c:Nat} (h:zk y=c):zk (ab y)=zk (ab c):=by
 subst h;rcases vF y with h | h
 ·rw [h]
 ·have e:∀ z,isN z=true→zk z=qK:=fun z hz=>by unfold zk; rw [if_pos hz]
  rw [e (ab y) (by rw [tM]; exact h),e (ab (zk y)) (by rw [tM,yN]; exact h)]
theorem mO {y z c d:Nat} (h1:zk y=c) (h2:zk z=d) (w:World):zk (zZ .quo w (ab y) z)=cop .quo (ab c) d:=by
 rw [z9,← zE,q8 h1,zE,← zC,h2]
theorem absW (x:Nat) (w:World) (hx:x<18446744073709551616):Calls Tryz.prog 60 #[.float .f64 x] w fun e w'=>e=.returned (.float .f64 (ab x))∧w'=w:=
 (ti x w hx).mono fun _ _ ⟨h1,h2⟩=>⟨h1,h2.symm⟩
theorem lZ (x:Nat) (w:World) (hx:x<18446744073709551616):Calls Tryz.prog 32 #[.float .f64 x] w fun e w'=>e=.returned (.float .f64 (ab x))∧w'=w:=by
 go_enter Tryz.func32,Tryz.ntmps32;go_wp2_with fail;refine (absW x _ hx).mono ?_;rintro e w' ⟨rfl,rfl⟩;go_wp2_with fail;go_ret;exact ⟨rfl,rfl⟩
def byW (f g:Nat→Nat) (i:Nat):Nat:=cop .quo (ab (f i)) (g i)
set_option maxRecDepth 100000
set_option maxHeartbeats 16000000
theorem q9 (va vb:Value) (n p q:Nat) (f g:Nat→Nat) (W:World) (ha:zT W va n f) (hb:zT W vb n g) (hp:W.cell? ⟨p,0,none⟩=some va) (hq:W.cell? ⟨q,0,none⟩=some vb) (i:Nat) (hi:i<n) :
  Calls Tryz.prog 83 #[.int .i64 i,.pointer (some ⟨p,0,none⟩),.pointer (some ⟨q,0,none⟩)] W fun e W'=>(∃ y,e=.returned (.float .f64 y)∧zk y=byW f g i∧y<18446744073709551616)∧Below W.heap.size W W':=by
 obtain ⟨a,ca,rfl,hn,har⟩:=ha;obtain ⟨b,cb,rfl,-,hbr⟩:=hb;obtain ⟨b1,o1,rfl,hs1,hc1⟩:=har (by omega);obtain ⟨b2,o2,rfl,hs2,hc2⟩:=hbr (by omega);obtain ⟨y,y1,y2,y3⟩:=hc1 i hi;obtain ⟨z,z1,z2,z3⟩:=hc2 i hi;have K:=hid (mO y2 z2);clear har hbr hc1 hc2 y2 z2;go_enter Tryz.func83,Tryz.ntmps83;go_wp2_with fail;refine zw [(0,2),(1,1),(2,1),(3,2),(5,2),(6,1),(7,1),(8,2),(4,0),(9,0),(10,1)] (by kernel_rfl) (by kernel_rfl) (fun _ _ d _ _ h=>by cases d<;>exact h) ?_;intro Z hZ;have hz:∀ b o,Z.cell? ⟨b,o,none⟩=W.cell? ⟨b,o,none⟩:=fun b o=>by rw [hZ]; rfl
 have HZ:=hid (show Below W.heap.size W Z by rw [hZ]; exact (Below.refl _ _).drew);rw [← hz] at hp hq y1 z1;clear hZ hz
 iterate 8
  first
   | refine zd (fun K hK=>?_)
   | refine ze (fun K hK=>?_)
  go_simp;refine hK _ ?_;clear hK K
 refine zx (fun K hK=>?_);go_simp;refine (absW y _ y3).mono ?_;rintro e w' ⟨rfl,rfl⟩;refine hK _ _ (fun _=>⟨0,rfl⟩) ?_;clear hK K;refine zx (fun K hK=>?_);go_simp;refine hK _ _ (fun _=>⟨_,rfl⟩) ?_;clear hK K
 iterate 1
  first
   | refine zd (fun K hK=>?_)
   | refine ze (fun K hK=>?_)
  go_simp;refine hK _ ?_;clear hK K
 refine zo ?_;go_wp2_with fail;go_ret;exact ⟨⟨_,rfl,K.out _,yi _ _ _ _⟩,yc HZ.out _⟩
theorem rinfW (w:World):Calls Tryz.prog 89 #[] w fun e w'=>e=.returned (.float .f64 9218868437227405312)∧w'=w:=by
 go_enter Tryz.func89,Tryz.ntmps89;go_wp2_with fail;refine (qh _).mono ?_;rintro e w' ⟨rfl,rfl⟩;go_wp2_with fail;go_ret;exact ⟨rfl,rfl⟩
theorem rT {x:Nat→Nat} {d:Nat} (h:tw x d=true):∀ {n:Nat},d≤n→tw x n=true
 | 0,hn=>by
  obtain rfl:d=0:=by omega
  exact h
 | n+1,hn=>by
  by_cases e:d=n+1
  ·subst e; exact h
  ·rw [tw,rT h (show d≤n by omega),Bool.true_or]
theorem uW (va vb:Value) (n:Nat) (f g:Nat→Nat) (w:World) (ha:zT w va n f) (hb:zT w vb n g) :
  Calls Tryz.prog 41 #[va,vb] w fun e w'=>(∃ y,e=.returned (.float .f64 y)∧zk y=xk (byW f g) n∧y<18446744073709551616)∧Below w.heap.size w w':=by
 have e1:(w.alloc (.cells #[va] 30)).heap.size=w.heap.size+1:=by simp
 have hb2:Below w.heap.size w ((w.alloc (.cells #[va] 30)).alloc (.cells #[vb] 30)):=((Below.refl _ _).alloc (Nat.le_refl _) _).alloc (by rw [e1]; omega) _
 have c1:((w.alloc (.cells #[va] 30)).alloc (.cells #[vb] 30)).cell? ⟨w.heap.size,0,none⟩=some va:=by
  rw [World.cell?_alloc_lt _ _ _ (show w.heap.size<_ by rw [e1]; omega),World.cell?_alloc_new]; rfl
 have c2:((w.alloc (.cells #[va] 30)).alloc (.cells #[vb] 30)).cell? ⟨w.heap.size+1,0,none⟩=some vb:=by
  rw [← e1,World.cell?_alloc_new]; rfl
 have S1:=hid (fun i W (hi:i<n) (hW:Below (w.heap.size+2) ((w.alloc (.cells #[va] 30)).alloc (.cells #[vb] 30)) W)=>q9 va vb n w.heap.size (w.heap.size+1) f g W (ha.below (hb2.trans (hW.mono (by omega)))) (hb.below (hb2.trans (hW.mono (by omega))))
  ((hW.cell (p:=⟨w.heap.size,0,none⟩) (show w.heap.size<_ by omega)).trans c1) ((hW.cell (p:=⟨w.heap.size+1,0,none⟩) (show w.heap.size+1<_ by omega)).trans c2) i hi)
 obtain ⟨a,ca,rfl,hn,-⟩:=ha;obtain ⟨b,cb,rfl,-,-⟩:=hb;have hs:((w.alloc (.cells #[.slice a n ca] 30)).alloc (.cells #[.slice b n cb] 30)).heap.size=w.heap.size+2:=by simp
 have W2:=hid (qZ 83 (.pointer (some ⟨w.heap.size,0,none⟩)) (.pointer (some ⟨w.heap.size+1,0,none⟩)) n hn (byW f g) ((w.alloc (.cells #[.slice a n ca] 30)).alloc (.cells #[.slice b n cb] 30)) (fun _ _=>rfl) (fun i W hi hW=>S1.out i W hi (by rw [← hs]; exact hW)));have hne:((n:Int) != n)=false:=by simp
 have HB2:=hid hb2;clear S1 e1 hb2 hs;go_enter Tryz.func41,Tryz.ntmps41;go_wp2_with fail;refine W2.out.mono ?_;rintro e w1 ⟨⟨y,rfl,y1,y2⟩,hb1⟩;have hb1':=HB2.out.trans (hb1.mono HB2.out.size);go_wp2_with fail;go_ret;exact ⟨⟨y,rfl,y1,y2⟩,hb1'⟩
theorem uq (va vb:Value) (n:Nat) (f g:Nat→Nat) (w:World) (ha:zT w va n f) (hb:zT w vb n g) :
  Calls Tryz.prog 46 #[va,vb] w fun e w'=>(∃ y,e=.returned (.float .f64 y)∧zk y=xk (byW f g) n∧y<18446744073709551616)∧Below w.heap.size w w':=by
 obtain ⟨a,ca,rfl,hn,har⟩:=ha;obtain ⟨b,cb,rfl,-,hbr⟩:=hb;have HAR:=hid har;have HBR:=hid hbr;clear har hbr;go_enter Tryz.func46,Tryz.ntmps46;go_wp2_with fail
 go_loopw [5,6] (fun v i wr=>∃ (d z:Nat),d≤n∧i=.int .i64 d∧v=.float .f64 z∧zk z=grF (byW f g) d∧z<18446744073709551616∧tw (byW f g) d=false∧Below w.heap.size w wr) (fun _ i _=>n-(intOf i).toNat)
 case atStart=>exact ⟨0,0,by omega,rfl,rfl,rfl,by decide,rfl,Below.refl _ _⟩
 case round=>
  obtain ⟨d,t,hd,rfl,rfl,t1,t2,t3,hbl⟩:=hrel;by_cases hdn:d<n
  ·obtain ⟨b1,o1,rfl,hs1,hc1⟩:=HAR.out (by omega);obtain ⟨b2,o2,rfl,hs2,hc2⟩:=HBR.out (by omega);obtain ⟨y,y1,y2,y3⟩:=hc1 d hdn;obtain ⟨z,z1,z2,z3⟩:=hc2 d hdn;rw [← (zA hbl).1 _ _ hs1] at y1;rw [← (zA hbl).1 _ _ hs2] at z1;have K:=hid (mO y2 z2);have HBL:=hid hbl;clear hc1 hc2 y2 z2 hbl;go_wp2_with fail;refine zw [(0,1),(1,1),(2,1),(3,2),(5,1),(6,1),(7,1),(8,2),(4,0),(9,0),(10,1)] (by kernel_rfl) (by kernel_rfl) (fun _ _ d _ _ h=>by cases d<;>exact h) ?_;intro Z hZ;have hz:∀ b o,Z.cell? ⟨b,o,none⟩=wr.cell? ⟨b,o,none⟩:=fun b o=>by rw [hZ]; rfl
   have HZ:=hid (show Below w.heap.size w Z by rw [hZ]; exact HBL.out.drew);rw [← hz] at y1 z1;clear hZ hz
   iterate 8
    first
     | refine zd (fun K hK=>?_)
     | refine ze (fun K hK=>?_)
    go_simp;refine hK _ ?_;clear hK K
   refine zx (fun K hK=>?_);go_simp;refine (lZ y _ y3).mono ?_;rintro e w' ⟨rfl,rfl⟩;refine hK _ _ (fun _=>⟨0,rfl⟩) ?_;clear hK K;refine zx (fun K hK=>?_);go_simp;refine hK _ _ (fun _=>⟨_,rfl⟩) ?_;clear hK K
   iterate 1
    first
     | refine zd (fun K hK=>?_)
     | refine ze (fun K hK=>?_)
    go_simp;refine hK _ ?_;clear hK K
   refine zo ?_;have HX:=hid (show zk (zZ .quo w' (ab y) z)=byW f g d∧zZ .quo w' (ab y) z<18446744073709551616 from ⟨K.out w',yi _ _ _ _⟩);have HZ2:=hid (below_drewN HZ.out (zP .quo (ab y) z));clear HZ K y1 z1;generalize w'.drewN (zP .quo (ab y) z)=w2 at *;generalize zZ .quo w' (ab y) z=u at *;have hne:(!eqB u u)=isN u:=by rw [zD,Bool.not_not]
   have hn1:tw (byW f g) (d+1)=isN u:=by rw [tw,t3,Bool.false_or,tx HX.out.1]
   cases hu:isN u with
   | true=>
    have hw:xk (byW f g) n=9218868437227405312:=by unfold xk; rw [rT (hn1.trans hu) (show d+1≤n by omega),if_pos rfl]
    go_wp2_with fail;refine (rinfW _).mono ?_;rintro e w' ⟨rfl,rfl⟩;go_wp2_with fail;go_ret;exact ⟨⟨_,rfl,by rw [hw]; decide,by decide⟩,HZ2.out⟩
   | false=>
    rw [hu] at hn1;by_cases hd0:d=0
    ·subst hd0;have hg:grF (byW f g) 1=byW f g 0:=rfl;have h00:((0:Int)==0)=true:=rfl;go_wp2_with fail
     go_roundw
     case rel=>exact ⟨1,u,by omega,by go_num,rfl,HX.out.1,HX.out.2,hn1,HZ2.out⟩
     case measure=>simp [intOf]; omega
    ·have hg:grF (byW f g) (d+1)=if ltB (grF (byW f g) d) (byW f g d) then byW f g d else grF (byW f g) d:=by rw [grF,if_neg hd0]
     rw [← t1,← HX.out.1,tL] at hg;have h00:((d:Int)==0)=false:=by simp; omega
     cases hb:ltB t u with
     | true=>
      rw [hb,if_pos rfl] at hg;go_wp2_with fail
      go_roundw
      case rel=>exact ⟨d+1,u,by omega,by go_num,rfl,hg.symm,HX.out.2,hn1,HZ2.out⟩
      case measure=>simp [intOf]; omega
     | false=>
      rw [hb,if_neg (by decide)] at hg;go_wp2_with fail
      go_roundw
      case rel=>exact ⟨d+1,t,by omega,by go_num,rfl,hg.symm,t2,hn1,HZ2.out⟩
      case measure=>simp [intOf]; omega
  ·obtain rfl:n=d:=by omega
   have hw:xk (byW f g) n=grF (byW f g) n:=by unfold xk; rw [t3,if_neg (by decide)]
   go_wp2_with fail;go_ret;exact ⟨⟨t,rfl,by rw [hw]; exact t1,t2⟩,hbl⟩
def wtF (f:Nat→Nat) (a r i:Nat):Nat:=cop .add a (cop .mul r (ab (f i)))
theorem mP {y c:Nat} (h:zk y=c) (a r:Nat) (w v:World):zk (zZ .add w a (zZ .mul v r (ab y)))=cop .add a (cop .mul r (ab c)):=by
 rw [z9,← zC,z9,← zC .mul r (ab y),q8 h,zC]
theorem rz (va:Value) (n:Nat) (hn2:n≤1000) (f:Nat→Nat) (a r:Nat) (w:World) (ha:zT w va n f) :
  Calls Tryz.prog 38 #[va,.float .f64 a,.float .f64 r] w fun e w'=>∃ v,e=.returned v∧zT w' v n (wtF f a r)∧Below w.heap.size w w':=by
 obtain ⟨pa,ca,rfl,hn,har⟩:=ha;obtain ⟨iF,hF,f1,f2,f3⟩:=info_parts xu;have HF:=hid (show iF.zero=_∧iF.size=_∧iF.bytes=_ from ⟨f1,f2,f3⟩);have HF0:=hid hF;have HAR:=hid har;clear har hF f1 f2 f3;go_enter Tryz.func38,Tryz.ntmps38;generalize hB:w.heap.size=B at *
 go_wp2_with (first
  | (refine wpList_make_full _ rfl _ _ _ rfl B 31 iF (.float .f64 0) 1 Tryz.underlying30 HF0.out HF.out.1 HF.out.2.1 .i64 .i64 (n:Int) (n:Int) n rfl rfl rfl rfl (by rw [HF.out.2.2]; omega) (by unfold maxLen; omega) (by omega) ?_)
  | fail)
 intro w2 hr1 hg1;have hb2:Below B w w2:=(Below.refl _ w).grown hg1 (by omega) (fun k hk=>by cases hk);have HO:=hid (yI hr1);clear hr1 hg1;go_wp2_with fail
 go_loopw [15] (fun i wr=>∃ (d:Nat) (h:Nat→Nat),d≤n∧i=.int .i64 d∧yd wr B B n n h∧(∀ k,k<d→h k=wtF f a r k)∧Below B w wr) (fun i _=>n-(intOf i).toNat)
 case atStart=>exact ⟨0,_,by omega,rfl,HO.out,fun k hk=>by omega,hb2⟩
 case round=>
  clear HO hb2;obtain ⟨d,h,hd,rfl,ho,hh,hbl⟩:=hrel;by_cases hdn:d<n
  ·obtain ⟨b1,o1,rfl,hs1,hc1⟩:=HAR.out (by omega);obtain ⟨y,y1,y2,y3⟩:=hc1 d hdn;rw [← hbl.cell (p:=⟨b1,o1+d,none⟩) hs1] at y1;obtain ⟨z,z1,-,-⟩:=ho.cell hdn;have r1:=ho.free d;have HO:=hid ho;have HH:=hid hh;have HBL:=hid hbl;have K:=hid (mP y2 a r);clear hc1 y2 ho hh hbl;go_wp2_with fail;refine (absW y _ y3).mono ?_;rintro e w' ⟨rfl,rfl⟩;go_wp2_with fail
   go_roundw
   case rel=>exact ⟨d+1,yy h d (wtF f a r d),by omega,by go_num,(HO.out.set hdn (K.out _ _) (yi _ _ _ _)).drewN _,fun k hk=>by
    by_cases hkd:k=d
    ·subst hkd; rw [zL]
    ·rw [zG _ _ hkd]; exact HH.out k (by omega),below_drewN (HBL.out.setCell (p:=⟨B,d,none⟩) (Nat.le_refl _) _) _⟩
   case measure=>simp [intOf]; omega
  ·obtain rfl:n=d:=by omega
   go_wp2_with fail;go_ret;exact ⟨_,rfl,(ho.flts hn).congr hh,by first | exact hbl | (rw [hB]; exact hbl)⟩
theorem yO.row {w:World} {base n:Nat} {v:Value} {qs:List Value} {f:Nat→Nat} (h:yO qs n f) (ho:w.ownsRow base 31 1 v n qs) (hn:n≤9223372036854775807):zT w v n f:=by
 by_cases h0:0<n
 ·obtain ⟨R,cap,rfl,hO⟩:=h.own ho h0;exact hO.flts hn
 ·obtain ⟨a,cap,rfl⟩:=ym ho;exact ⟨a,cap,rfl,hn,fun h=>absurd h h0⟩
theorem sL (va:Value) (n:Nat) (hn2:n≤1000) (f:Nat→Nat) (a r:Nat) (w:World) (ha:zT w va n f) :
  Calls Tryz.prog 28 #[va,.float .f64 a,.float .f64 r] w fun e w'=>∃ v,e=.returned v∧zT w' v n (wtF f a r)∧Below w.heap.size w w':=by
 obtain ⟨pa,ca,rfl,hn,har⟩:=ha;obtain ⟨iF,hF,f1,f2,f3⟩:=info_parts xu;have HF:=hid (show iF.zero=_∧iF.size=_∧iF.bytes=_ from ⟨f1,f2,f3⟩);have HF0:=hid hF;have HAR:=hid har;clear har hF f1 f2 f3;go_enter Tryz.func28,Tryz.ntmps28;generalize hB:w.heap.size=B at *;go_wp2_with fail
 go_loopw [7,8] (fun vr i wr=>∃ (d:Nat) (qs:List Value),d≤n∧i=.int .i64 d∧wr.ownsRow B 31 1 vr d qs∧yO qs d (wtF f a r)∧Below B w wr) (fun _ i _=>n-(intOf i).toNat)
 case atStart=>exact ⟨0,[],by omega,rfl,World.ownsRow_nil _ _ _ _,yO.nil _ _,Below.refl _ _⟩
 case round=>
  obtain ⟨d,qs,hd,rfl,ho,hq,hbl⟩:=hrel;obtain ⟨vb,vcap,rfl⟩:=ym ho;by_cases hdn:d<n
  ·obtain ⟨b1,o1,rfl,hs1,hc1⟩:=HAR.out (by omega);obtain ⟨y,y1,y2,y3⟩:=hc1 d hdn;rw [← hbl.cell (p:=⟨b1,o1+d,none⟩) hs1] at y1;have HO:=hid ho;have HQ:=hid hq;have HBL:=hid hbl;have K:=hid (mP y2 a r);have hsz:B≤wr.heap.size:=by have:=hbl.size; omega
   clear hc1 y2 ho hq hbl;go_wp2_with fail;refine (lZ y _ y3).mono ?_;rintro e w' ⟨rfl,rfl⟩
   go_wp2_with (first
    | (at_builtin; refine wpList_append_own_at _ rfl _ _ 30 rfl B 31 iF (.float .f64 0) 1 8 Tryz.underlying30 HF0.out HF.out.1 HF.out.2.1 HF.out.2.2 rfl (by decide) (.slice vb d vcap) d qs rfl (yp (HO.out.alloc _) _) ⟨w'.heap.size,0,none⟩ 1 1 [.float .f64 _] rfl rfl (uj _ _ 31 _) (by simp [Value.oneCell']) (by unfold maxLen; omega) (by omega) (yK _ _ _ (by omega)) ?_)
    | go_in)
   intro v' w2 hown' hgrow _ _;have hb2:Below B w' w2:=(below_drewN ((Below.refl B w').alloc hsz _) _).trans (yv (yp (HO.out.alloc _) _) (Nat.le_refl _) (yK _ _ _ hsz) hgrow);have hql:=HO.out.1;have HQ':=hid (HQ.out.app (by omega) (K.out (w'.drewN (zP .mul r (ab y))) w') (yi _ _ _ _));have HO':=hid hown';have HB2:=hid (HBL.out.trans hb2);clear hown' hgrow hb2 y1;go_wp2_with fail
   go_roundw
   case rel=>exact ⟨d+1,_,by omega,by go_num,HO'.out,HQ'.out,HB2.out⟩
   case measure=>simp [intOf]; omega
  ·obtain rfl:d=n:=by omega
   have hR:=hq.row ho (by omega);go_wp2_with fail;go_ret;exact ⟨_,rfl,hR,hbl⟩
end Go.Proofs.YtnlbafjmbamoeaaGreat
