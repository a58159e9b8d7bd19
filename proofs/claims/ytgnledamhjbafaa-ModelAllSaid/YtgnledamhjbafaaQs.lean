/-
  Polynomials with what is left over: the table of products.
-/
import Derived.Test.YtgnledamhjbafaaQr
import Derived.ChangeKeysEq
namespace Go.Proofs.Ytgnledamhjbafaa
open Go.RowKit
open Ieee (double)
open Lib
attribute [local go_sem] zf ze zh zd zu zt zw zx zy zA zj zk zm zn zo zF yd zU zG xq
theorem eqFlt (d:Nat) (a b:Nat) (w:World):(Op.equalIn (d+1) 24 (.float .f64 a) (.float .f64 b)).run Try.prog w=.ok (eqB a b) w:=by
 simp [Op.equalIn,run_underlying Try.underlying24,← zt];rfl
theorem eqIv (d:Nat) (x y:PQ) (w:World):(Op.equalIn (d+1+1) 26 (iv x.1 x.2) (iv y.1 y.2)).run Try.prog w=.ok (eqB x.1 y.1&&eqB x.2 y.2) w:=by
 have hS:Try.prog.underlying 26=some (.struct (Try.prog.fieldsOf 26)):=by kernel_rfl
 have hp:Try.prog.stoodInHeld 26=false:=by kernel_rfl
 have e:=fun W=>eqFlt d x.1 y.1 W
 have e2:=fun W=>eqFlt d x.2 y.2 W
 unfold iv;rw [run_equalIn_struct w _ 26 _ _ hS hp];simp only [Program.fieldsOf,Try.underlying26];have p1:=fun (W:World) (u v:Value)=>(show (part 24 #[u,v] 0).run Try.prog W=.ok u W by simp [part,isAgg,Sem.run_bind,run_underlying Try.underlying24])
 have p2:=fun (W:World) (u v:Value)=>(show (part 24 #[u,v] 1).run Try.prog W=.ok v W by simp [part,isAgg,Sem.run_bind,run_underlying Try.underlying24])
 cases h1:eqB x.1 y.1<;>cases h2:eqB x.2 y.2<;>simp [Op.eqFields,p1,p2,e,e2,h1,h2]
theorem partIv (F:Nat→PQ) (n i:Nat) (hi:i<n) (w:World):(part 26 (clQ F n).toArray (i*2)).run Try.prog w=.ok (iv (F i).1 (F i).2) w:=by
 have hx:List.take 2 (List.drop (i*2) (clQ F n))=[.float .f64 (F i).1,.float .f64 (F i).2]:=by
  apply List.ext_getElem?;intro j;have hl:=clQ_len F n;obtain ⟨g0,g1⟩:=clQ_get F hi;by_cases h0:j=0
  ·subst h0; simp [g0]
  ·by_cases h1:j=1
   ·subst h1; simp [g1]
   ·rw [List.getElem?_eq_none,List.getElem?_eq_none]
    ·simp; omega
    ·simp; omega
 simp [part,isAgg,Sem.run_bind,run_underlying Try.underlying26,hx]
theorem eqItems_iv (d:Nat) (F G:Nat→PQ):∀ (is:List Nat),(∀ i ∈ is,i<9)→∃ t,(∀ w,(Op.eqItems (d+1+1) 26 2 (clQ F 9).toArray (clQ G 9).toArray is).run Try.prog w=.ok t w)∧(t=true→∀ i ∈ is,eqB (F i).1 (G i).1=true∧eqB (F i).2 (G i).2=true)
 | [],_=>⟨true,fun w=>by simp [Op.eqItems],fun _ i hi=>by cases hi⟩
 | i :: is,h=>by
  obtain ⟨t,h1,h2⟩:=eqItems_iv d F G is (fun j hj=>h j (List.mem_cons_of_mem _ hj));have hi:=h i (List.mem_cons_self ..);simp only [Op.eqItems,Sem.run_bind,partIv F 9 i hi,partIv G 9 i hi,Result.andThen_ok,eqIv];cases e1:eqB (F i).1 (G i).1
  ·exact ⟨false,fun w=>by simp,fun h=>by cases h⟩
  ·cases e2:eqB (F i).2 (G i).2
   ·exact ⟨false,fun w=>by simp,fun h=>by cases h⟩
   ·refine ⟨t,fun w=>by simpa using h1 w,fun ht j hj=>?_⟩;rcases List.mem_cons.1 hj with rfl | hj
    ·exact ⟨e1,e2⟩
    ·exact h2 ht j hj
theorem eqNine (F G:Nat→PQ):∃ t:Bool,(∀ w,(binOp .eql 27 (.agg (clQ F 9).toArray) (.agg (clQ G 9).toArray)).run Try.prog w=.ok (.bool t) w)∧(t=true→∀ i,i<9→eqB (F i).1 (G i).1=true∧eqB (F i).2 (G i).2=true):=by
 obtain ⟨t,h1,h2⟩:=eqItems_iv 9997 F G (List.range 9) (fun i hi=>List.mem_range.1 hi);refine ⟨t,fun w=>?_,fun ht i hi=>h2 ht i (List.mem_range.2 hi)⟩;rw [run_eql_struct]
 cases hq:Try.prog.info? 26 with
 | none=>have:=infoV; simp [hq] at this
 | some i=>
  rw [show (10000:Nat)=9999+1 from rfl,run_equalIn_array w 9999 _ _ Try.underlying27 hq];rw [show Try.prog.cellsOf 26=2 by kernel_rfl,h1];rfl
def rowT (t n:Nat):Prop:=(∃ d,Try.prog.underlying t=some d∧d.isRow=true)∧(Try.prog.info? t).map (·.size)=some (n*2)
theorem row9:rowT 27 9:=⟨⟨_,Try.underlying27,rfl⟩,by kernel_rfl⟩
theorem row81:rowT 67 81:=⟨⟨_,Try.underlying67,rfl⟩,by kernel_rfl⟩
theorem PB.less {w:World} {b n m:Nat} {F:Nat→PQ} (h:PB w b n F) (hm:m≤n):PB w b m F:=⟨fun k hk=>h.at0 k (by omega),fun k hk=>h.at1 k (by omega),h.free,h.lt⟩
theorem wpList_loadQ {ops:Array Oper} {rest:List Oper} {o:Oper} {a:Act} {w:World} {Q:Exit→Act→World→Prop} (hg:o.guard=none) (t n:Nat) (ht:rowT t n) (x:Operand) (ho:o.op=.load t x) {b:Nat} {F:Nat→PQ} (hx:a.eval x=.pointer (some ⟨b,0,none⟩)) (hp:PB w b n F)
  (h:wpList Try.prog ops Q rest (a.put o.dst (.agg (clQ F n).toArray)) w):wpList Try.prog ops Q (o :: rest) a w:=by
 obtain ⟨⟨d,hu,hd⟩,hi⟩:=ht;exact wpList_load_mid hg t x ho b 0 hx (clQ F n) d hp.range hu hd (by rw [clQ_len]; exact hi) h
theorem wpList_storeQ {ops:Array Oper} {rest:List Oper} {o:Oper} {a:Act} {w:World} {Q:Exit→Act→World→Prop} (hg:o.guard=none) (t n:Nat) (ht:rowT t n) (x y:Operand) (ho:o.op=.store t x y) {b:Nat} {F:Nat→PQ} (G:Nat→PQ) (hx:a.eval x=.pointer (some ⟨b,0,none⟩)) (hy:a.eval y=.agg (clQ G n).toArray) (hp:PB w b n F)
  (h:∀ w',PB w' b n G→Below b w w'→w'.heap.size=w.heap.size→wpList Try.prog ops Q rest (a.put o.dst undef) w'):wpList Try.prog ops Q (o :: rest) a w:=by
 refine wpList_store_mid hg t x y ho b 0 (clQ G n).toArray hx hy ?_ ?_ (all_oneCell_toArray (clQ_one G n)) ?_
 ·rw [List.size_toArray,clQ_len]; exact hp.there
 ·rw [List.size_toArray,clQ_len]; exact ht.2
 ·obtain ⟨h1,h2⟩:=hp.put G;exact h _ h1 h2 (setCells_size _ _ _)
theorem zeroT:(Try.prog.info? 67).map (fun i=>i.zero.map (·.cells))=some (some (clQ (fun _=>(0,0)) 81).toArray):=by kernel_rfl
theorem wpList_allocT {ops:Array Oper} {rest:List Oper} {o:Oper} {a:Act} {w:World} {Q:Exit→Act→World→Prop} (hg:o.guard=none) (ho:o.op=.alloc 67)
  (h:∀ w',PB w' w.heap.size 81 (fun _=>(0,0))→Below w.heap.size w w'→w'.heap.size=w.heap.size+1→wpList Try.prog ops Q rest (a.put o.dst (.pointer (some ⟨w.heap.size,0,none⟩))) w'):wpList Try.prog ops Q (o :: rest) a w:=by
 refine wpList_plain hg fun K hK=>?_
 have hz:=zeroT
 cases hq:Try.prog.info? 67 with
 | none=>simp [hq] at hz
 | some i=>
  cases hv:i.zero with
  | none=>simp [hq,hv] at hz
  | some z=>
   simp only [hq,hv,Option.map_some,Option.some.injEq] at hz
   have hrun:(execOp a.eval o).run Try.prog w=.ok (.value (.pointer (some ⟨w.heap.size,0,none⟩))) (w.alloc (.cells (clQ (fun _=>(0,0)) 81).toArray 67)):=by
    unfold execOp;simp [ho,Instr.alloc,zeroValue,typeInfo,hq,hv,newVar,newRow,hz]
   unfold Oper.wp;rw [hrun,Oper.upon_value];exact hK _ _ (h _ (PB.new _ _ _ _) ((Below.refl _ _).alloc (Nat.le_refl _) _) (by simp))
theorem wpList_is {P:Program} {ops:Array Oper} {rest:List Oper} {o:Oper} {a:Act} {w:World} {Q:Exit→Act→World→Prop} (hg:o.guard=none) (v:Value) (hrun:(execOp a.eval o).run P w=.ok (.value v) w) (h:wpList P ops Q rest (a.put o.dst v) w):wpList P ops Q (o :: rest) a w:=
 wpList_plain hg fun K hK=>by
  unfold Oper.wp;rw [hrun,Oper.upon_value];exact hK _ _ h
theorem exec_eq9 {a:Act} {o:Oper} {w:World} {t:Bool} {A B:Array Value} (x y:Operand) (r:TypeId) (ho:o.op=.binOp .eql 27 x y r) (hx:a.eval x=.agg A) (hy:a.eval y=.agg B) (h:(binOp .eql 27 (.agg A) (.agg B)).run Try.prog w=.ok (.bool t) w):(execOp a.eval o).run Try.prog w=.ok (.value (.bool t)) w:=by
 have hm:Try.prog.eqGuardType Try.prog.depth 27=false:=by kernel_rfl
 unfold execOp;simp [ho,hx,hy,Sem.run_bind,run_eqGuard_agg w .eql 27 x y A B hm,h]
def tabS (F G:Nat→PQ) (m k:Nat):PQ:=if k<m then mulQ (F (k / 9)) (G (k % 9)) else (0,0)
theorem tabS_at (F G:Nat→PQ) {m i j:Nat} (hj:j<9) (h:i*9+j<m):tabS F G m (i*9+j)=mulQ (F i) (G j):=by
 unfold tabS;rw [if_pos h,show (i*9+j) / 9=i by omega,show (i*9+j) % 9=j by omega]
theorem tabS_set (F G:Nat→PQ) {i j:Nat} (hj:j<9) (k:Nat):vM (tabS F G (i*9+j)) (i*9+j) (mulQ (F i) (G j)) k=tabS F G (i*9+j+1) k:=by
 by_cases e:k=i*9+j
 ·subst e;rw [yp,tabS_at F G hj (by omega)]
 ·rw [zY _ _ e];unfold tabS;by_cases e2:k<i*9+j
  ·rw [if_pos e2,if_pos (by omega)]
  ·rw [if_neg e2,if_neg (by omega)]
theorem ret_Q {fn:Func} {R:Ending→World→Prop} {a:Act} {w:World} (sl t n:Nat) (ht:rowT t n) (hres:fn.results=#[.cell sl t]) {b:Nat} {F:Nat→PQ} (ha:a.tmps.getD sl undef=.pointer (some ⟨b,0,none⟩)) (hp:PB w b n F) (hd:a.defers=[]) (hR:R (.returned (.agg (clQ F n).toArray)) w):bodyPost Try.prog fn R .ret a w:=by
 refine bodyPost_ret (v:=.agg (clQ F n).toArray) ?_ hd hR;obtain ⟨⟨d,hu,hg⟩,hi⟩:=ht;have hl:=run_loadVar_mid (P:=Try.prog) w b 0 t (clQ F n) d hp.range hu hg (by rw [clQ_len]; exact hi);have ha':a.tmps[sl]?.getD undef=.pointer (some ⟨b,0,none⟩):=by rw [← ha,Array.getD_eq_getD_getElem?]
 simp [results,hres,ha',asAddr,hl]
set_option maxRecDepth 100000
set_option maxHeartbeats 16000000
theorem products_tells (F G:Nat→PQ) (w:World) (lF:∀ k,k<9→ltQ (F k)) (lG:∀ k,k<9→ltQ (G k)):Calls Try.prog 46 #[.agg (clQ F 9).toArray,.agg (clQ G 9).toArray] w (wh (.agg (clQ (tabS F G 81) 81).toArray) w):=by
 obtain ⟨t,e1,e2⟩:=eqNine F G;have ET:=hid e1;have SW:=hid (show t=true→∀ i j,i<9→j<9→mulQ (F j) (G i)=mulQ (F i) (G j) from fun h i j hi hj=>mulQ_sim (lF j hj) (lF i hi) (lG j hj) (lG i hi) (e2 h j hj).1 (e2 h j hj).2 (e2 h i hi).1 (e2 h i hi).2);have AL:=al2 w (.cells (clQ F 9).toArray 27) (.cells (clQ G 9).toArray 27);have HP:=(PB.new w 9 F 27).below (B:=w.heap.size+1) (w':=(w.alloc (.cells (clQ F 9).toArray 27)).alloc (.cells (clQ G 9).toArray 27)) ((Below.refl _ _).alloc (by simp) _) (by simp);have HQ:=PB.new (w.alloc (.cells (clQ F 9).toArray 27)) 9 G 27;rw [show (w.alloc (.cells (clQ F 9).toArray 27)).heap.size=w.heap.size+1 by simp] at HQ;obtain ⟨-,-,x4,x5⟩:=AL;have HX:=hid (show _∧_∧_ from ⟨HP,HQ,x5⟩);clear HP HQ x5 e1 e2 lF lG;go_enter Try.func46,Try.ntmps46;go_wp2_with (first | (refine wpList_allocT rfl rfl ?_) | fail)
 intro w1 h1 b1 z1
 try rw [x4] at h1 b1 z1
 have HX1:=hid (show PB w1 w.heap.size 9 F∧PB w1 (w.heap.size+1) 9 G∧PB w1 (w.heap.size+2) 81 (fun _=>(0,0))∧Below w.heap.size w w1 from ⟨HX.out.1.below b1 (by omega),HX.out.2.1.below b1 (by omega),h1,HX.out.2.2.trans (b1.mono (by omega))⟩)
 try simp only [x4]
 clear HX h1 b1 x4;go_wp2_with (first | (refine wpList_allocT rfl rfl ?_) | fail)
 intro w2 h2 b2 z2
 try rw [z1] at h2 b2 z2
 have HX2:=hid (show PB w2 w.heap.size 9 F∧PB w2 (w.heap.size+1) 9 G∧PB w2 (w.heap.size+2) 81 (fun _=>(0,0))∧PB w2 (w.heap.size+3) 81 (fun _=>(0,0))∧Below w.heap.size w w2 from ⟨HX1.out.1.below b2 (by omega),HX1.out.2.1.below b2 (by omega),HX1.out.2.2.1.below b2 (by omega),h2,HX1.out.2.2.2.trans (b2.mono (by omega))⟩)
 try simp only [z1]
 clear HX1 h2 b2 z1 w1;generalize hB:w.heap.size=B at *;go_wp2_with (first | (refine wpList_loadQ rfl _ 9 row9 _ rfl rfl HX2.out.1 ?_) | (refine wpList_loadQ rfl _ 9 row9 _ rfl rfl HX2.out.2.1 ?_) | (refine wpList_is rfl (.bool t) (exec_eq9 _ _ _ rfl rfl rfl (ET.out _)) ?_) | fail)
 go_loopw [12] (fun i wr=>∃ j:Nat,j≤9∧i=.int .i64 j∧PB wr (B+3) 81 (tabS F G (j*9))∧PB wr B 9 F∧PB wr (B+1) 9 G∧PB wr (B+2) 81 (fun _=>(0,0))∧Below B w wr) (fun i _=>9-(intOf i).toNat)
 case atStart=>exact ⟨0,by omega,rfl,HX2.out.2.2.2.1.congr (fun k _=>by unfold tabS; rw [if_neg (by omega)]),HX2.out.1,HX2.out.2.1,HX2.out.2.2.1,HX2.out.2.2.2.2⟩
 case round=>
  clear HX2 ET z2 w2;obtain ⟨i,hi9,rfl,hT,hF,hG,hR,hb⟩:=hrel;by_cases hli:i<9
  ·have hliI:(i:Int)<9:=by omega
   have HX:=hid (show _∧_∧_∧_∧_ from ⟨hT,hF,hG,hR,hb⟩);clear hT hF hG hR hb;go_wp2_with fail
   go_loopw [15] (fun x wr=>∃ j:Nat,j≤9∧x=.int .i64 j∧PB wr (B+3) 81 (tabS F G (i*9+j))∧PB wr B 9 F∧PB wr (B+1) 9 G∧PB wr (B+2) 81 (fun _=>(0,0))∧Below B w wr) (fun x _=>9-(intOf x).toNat)
   case atStart=>exact ⟨0,by omega,rfl,HX.out.1,HX.out.2.1,HX.out.2.2.1,HX.out.2.2.2.1,HX.out.2.2.2.2⟩
   case round=>
    clear HX;obtain ⟨j,hj9,rfl,hT,hF,hG,hR,hb⟩:=hrel;have hws:=hb.size;by_cases hlj:j<9
    ·have hljI:(j:Int)<9:=by omega
     have hj9:j<9:=hlj;have EO:=hid (show (i*9+j)*2=i*18+j*2 by omega);have a0:=hF.at0 i (by omega);have a1:=hF.at1 i (by omega);have b0:=hG.at0 j (by omega);have b1:=hG.at1 j (by omega);have HT:=hid hT;have HX:=hid (show PB wr B 9 F∧PB wr (B+1) 9 G∧PB wr (B+2) 81 (fun _=>(0,0)) from ⟨hF,hG,hR⟩);have HB:=hid hb;have lF:B<wr.heap.size:=hF.lt;have lG:B+1<wr.heap.size:=hG.lt;have lR:B+2<wr.heap.size:=hR.lt;have lP:B+3<wr.heap.size:=hT.lt;clear hT hF hG hR hb
     cases t with
     | false=>
      go_wp2_with fail;refine wL [(0,1),(1,1),(2,1),(3,1),(4,3),(5,1),(6,1),(7,3),(9,1),(8,0),(10,1),(11,0)] (fun W=>Below wr.heap.size wr W) (by kernel_rfl) (by kernel_rfl) (fun _ _ d _ _ h=>by cases d<;>exact h) ((Below.refl _ _).drew) ?_;intro Z hZ hbZ;clear hZ
      iterate 4
       first
        | refine sT (fun K hK=>?_)
        | refine sU (fun K hK=>?_)
       go_simp;refine hK _ ?_;clear hK K
      refine sV (v:=iv (F i).1 (F i).2) rfl rfl (fun wk hwk=>?_) ?_
      ·rw [← (zW hwk).1 _ _ lF] at a0 a1;unfold iv;go_simp
      iterate 2
       first
        | refine sT (fun K hK=>?_)
        | refine sU (fun K hK=>?_)
       go_simp;refine hK _ ?_;clear hK K
      refine sV (v:=iv (G j).1 (G j).2) rfl rfl (fun wk hwk=>?_) ?_
      ·rw [← (zW hwk).1 _ _ lG] at b0 b1;unfold iv;go_simp
      iterate 1
       first
        | refine sT (fun K hK=>?_)
        | refine sU (fun K hK=>?_)
       go_simp;refine hK _ ?_;clear hK K
      refine uX (fun K hK=>?_);go_simp;refine (tMul (F i) (G j) _).mono ?_;rintro e w1 ⟨rfl,hc1⟩;have hb1:=hbZ.trans (hc1.mono hbZ.size);refine hK _ _ (fun h=>Bool.noConfusion (Eq.trans (Eq.symm (by kernel_rfl:_=false)) h)) (fun _=>hb1) ?_;clear hK K
      iterate 1
       first
        | refine sT (fun K hK=>?_)
        | refine sU (fun K hK=>?_)
       go_simp;refine hK _ ?_;clear hK K
      have hM1:=HT.out.below hb1 lP;have s0:=hM1.at0 (i*9+j) (by omega);have s1:=hM1.at1 (i*9+j) (by omega);have s2:=hM1.free (i*18+j*2);have s3:=hM1.free (i*18+j*2+1);have HS:=hid ((hM1.set (k:=i*9+j) (by omega) (mulQ (F i) (G j))).congr (fun k _=>tabS_set F G hj9 k));have HX2:=hid (show PB ((_:World).setCell _ _) B 9 F∧PB ((_:World).setCell _ _) (B+1) 9 G∧PB ((_:World).setCell _ _) (B+2) 81 (fun _=>(0,0)) from ⟨((HX.out.1.below hb1 lF).other (B:=B+3) (o:=(i*9+j)*2) (by omega) (.float .f64 (mulQ (F i) (G j)).1)).other (B:=B+3) (o:=(i*9+j)*2+1) (by omega) (.float .f64 (mulQ (F i) (G j)).2),((HX.out.2.1.below hb1 lG).other (B:=B+3) (o:=(i*9+j)*2) (by omega) (.float .f64 (mulQ (F i) (G j)).1)).other (B:=B+3) (o:=(i*9+j)*2+1) (by omega) (.float .f64 (mulQ (F i) (G j)).2),((HX.out.2.2.below hb1 lR).other (B:=B+3) (o:=(i*9+j)*2) (by omega) (.float .f64 (mulQ (F i) (G j)).1)).other (B:=B+3) (o:=(i*9+j)*2+1) (by omega) (.float .f64 (mulQ (F i) (G j)).2)⟩);have HW:=hid (((HB.out.trans (hb1.mono (by omega))).setCell (p:=⟨B+3,(i*9+j)*2,none⟩) (show B≤B+3 by omega) (.float .f64 (mulQ (F i) (G j)).1)).setCell (p:=⟨B+3,(i*9+j)*2+1,none⟩) (show B≤B+3 by omega) (.float .f64 (mulQ (F i) (G j)).2));rw [EO.out] at s0 s1 HS HX2 HW;clear hbZ hM1 HT HB HX a0 a1 b0 b1;generalize mulQ (F i) (G j)=q at *;unfold iv;refine uX (fun K hK=>?_);go_simp;refine hK _ _ (fun h=>Bool.noConfusion (Eq.trans (Eq.symm (by kernel_rfl:_=false)) h)) (fun h=>Bool.noConfusion (Eq.trans (Eq.symm (by kernel_rfl:_=false)) h)) ?_;clear hK K;refine rE ?_;go_wp2_with fail
      go_roundw
      case rel=>exact ⟨j+1,by omega,by go_num,by rw [← Nat.add_assoc]; exact HS.out,HX2.out.1,HX2.out.2.1,HX2.out.2.2,HW.out⟩
      case measure=>simp [intOf]; omega
     | true=>
      by_cases hji:j<i
      ·have hjiI:(j:Int)<i:=by omega
       have hd:decide ((j:Int)<i)=true:=by simpa using hjiI
       have p0:=HT.out.at0 (j*9+i) (by omega);have p1:=HT.out.at1 (j*9+i) (by omega);rw [tabS_at F G hli (by omega)] at p0 p1;rw [show (j*9+i)*2=j*18+i*2 by omega] at p0 p1;go_wp2_with fail;refine wL [(0,1),(1,1),(2,1),(3,1),(4,1),(5,1),(6,3),(7,1),(8,1),(9,0)] (fun W=>Below wr.heap.size wr W) (by kernel_rfl) (by kernel_rfl) (fun _ _ d _ _ h=>by cases d<;>exact h) ((Below.refl _ _).drew) ?_;intro Z hZ hbZ;clear hZ
       iterate 6
        first
         | refine sT (fun K hK=>?_)
         | refine sU (fun K hK=>?_)
        go_simp;refine hK _ ?_;clear hK K
       refine sV (v:=iv (mulQ (F j) (G i)).1 (mulQ (F j) (G i)).2) rfl rfl (fun wk hwk=>?_) ?_
       ·rw [← (zW hwk).1 _ _ lP] at p0 p1;unfold iv;go_simp
       iterate 2
        first
         | refine sT (fun K hK=>?_)
         | refine sU (fun K hK=>?_)
        go_simp;refine hK _ ?_;clear hK K
       have hsw:=SW.out (by simp) i j hli hlj;rw [hsw];have hM1:=HT.out.below hbZ lP;have s0:=hM1.at0 (i*9+j) (by omega);have s1:=hM1.at1 (i*9+j) (by omega);have s2:=hM1.free (i*18+j*2);have s3:=hM1.free (i*18+j*2+1);have HS:=hid ((hM1.set (k:=i*9+j) (by omega) (mulQ (F i) (G j))).congr (fun k _=>tabS_set F G hj9 k));have HX2:=hid (show PB ((_:World).setCell _ _) B 9 F∧PB ((_:World).setCell _ _) (B+1) 9 G∧PB ((_:World).setCell _ _) (B+2) 81 (fun _=>(0,0)) from ⟨((HX.out.1.below hbZ lF).other (B:=B+3) (o:=(i*9+j)*2) (by omega) (.float .f64 (mulQ (F i) (G j)).1)).other (B:=B+3) (o:=(i*9+j)*2+1) (by omega) (.float .f64 (mulQ (F i) (G j)).2),((HX.out.2.1.below hbZ lG).other (B:=B+3) (o:=(i*9+j)*2) (by omega) (.float .f64 (mulQ (F i) (G j)).1)).other (B:=B+3) (o:=(i*9+j)*2+1) (by omega) (.float .f64 (mulQ (F i) (G j)).2),((HX.out.2.2.below hbZ lR).other (B:=B+3) (o:=(i*9+j)*2) (by omega) (.float .f64 (mulQ (F i) (G j)).1)).other (B:=B+3) (o:=(i*9+j)*2+1) (by omega) (.float .f64 (mulQ (F i) (G j)).2)⟩);have HW:=hid (((HB.out.trans (hbZ.mono (by omega))).setCell (p:=⟨B+3,(i*9+j)*2,none⟩) (show B≤B+3 by omega) (.float .f64 (mulQ (F i) (G j)).1)).setCell (p:=⟨B+3,(i*9+j)*2+1,none⟩) (show B≤B+3 by omega) (.float .f64 (mulQ (F i) (G j)).2));rw [EO.out] at s0 s1 HS HX2 HW;clear hbZ hM1 HT HB HX a0 a1 b0 b1;generalize mulQ (F i) (G j)=q at *;unfold iv;refine uX (fun K hK=>?_);go_simp;refine hK _ _ (fun h=>Bool.noConfusion (Eq.trans (Eq.symm (by kernel_rfl:_=false)) h)) (fun h=>Bool.noConfusion (Eq.trans (Eq.symm (by kernel_rfl:_=false)) h)) ?_;clear hK K;refine rE ?_;go_wp2_with fail
       go_roundw
       case rel=>exact ⟨j+1,by omega,by go_num,by rw [← Nat.add_assoc]; exact HS.out,HX2.out.1,HX2.out.2.1,HX2.out.2.2,HW.out⟩
       case measure=>simp [intOf]; omega
      ·have hjiI:¬ (j:Int)<i:=by omega
       have hd:decide ((j:Int)<i)=false:=by simpa using hjiI
       go_wp2_with fail;refine wL [(0,1),(1,1),(2,1),(3,1),(4,3),(5,1),(6,1),(7,3),(9,1),(8,0),(10,1),(11,0)] (fun W=>Below wr.heap.size wr W) (by kernel_rfl) (by kernel_rfl) (fun _ _ d _ _ h=>by cases d<;>exact h) ((Below.refl _ _).drew) ?_;intro Z hZ hbZ;clear hZ
       iterate 4
        first
         | refine sT (fun K hK=>?_)
         | refine sU (fun K hK=>?_)
        go_simp;refine hK _ ?_;clear hK K
       refine sV (v:=iv (F i).1 (F i).2) rfl rfl (fun wk hwk=>?_) ?_
       ·rw [← (zW hwk).1 _ _ lF] at a0 a1;unfold iv;go_simp
       iterate 2
        first
         | refine sT (fun K hK=>?_)
         | refine sU (fun K hK=>?_)
        go_simp;refine hK _ ?_;clear hK K
       refine sV (v:=iv (G j).1 (G j).2) rfl rfl (fun wk hwk=>?_) ?_
       ·rw [← (zW hwk).1 _ _ lG] at b0 b1;unfold iv;go_simp
       iterate 1
        first
         | refine sT (fun K hK=>?_)
         | refine sU (fun K hK=>?_)
        go_simp;refine hK _ ?_;clear hK K
       refine uX (fun K hK=>?_);go_simp;refine (tMul (F i) (G j) _).mono ?_;rintro e w1 ⟨rfl,hc1⟩;have hb1:=hbZ.trans (hc1.mono hbZ.size);refine hK _ _ (fun h=>Bool.noConfusion (Eq.trans (Eq.symm (by kernel_rfl:_=false)) h)) (fun _=>hb1) ?_;clear hK K
       iterate 1
        first
         | refine sT (fun K hK=>?_)
         | refine sU (fun K hK=>?_)
        go_simp;refine hK _ ?_;clear hK K
       have hM1:=HT.out.below hb1 lP;have s0:=hM1.at0 (i*9+j) (by omega);have s1:=hM1.at1 (i*9+j) (by omega);have s2:=hM1.free (i*18+j*2);have s3:=hM1.free (i*18+j*2+1);have HS:=hid ((hM1.set (k:=i*9+j) (by omega) (mulQ (F i) (G j))).congr (fun k _=>tabS_set F G hj9 k));have HX2:=hid (show PB ((_:World).setCell _ _) B 9 F∧PB ((_:World).setCell _ _) (B+1) 9 G∧PB ((_:World).setCell _ _) (B+2) 81 (fun _=>(0,0)) from ⟨((HX.out.1.below hb1 lF).other (B:=B+3) (o:=(i*9+j)*2) (by omega) (.float .f64 (mulQ (F i) (G j)).1)).other (B:=B+3) (o:=(i*9+j)*2+1) (by omega) (.float .f64 (mulQ (F i) (G j)).2),((HX.out.2.1.below hb1 lG).other (B:=B+3) (o:=(i*9+j)*2) (by omega) (.float .f64 (mulQ (F i) (G j)).1)).other (B:=B+3) (o:=(i*9+j)*2+1) (by omega) (.float .f64 (mulQ (F i) (G j)).2),((HX.out.2.2.below hb1 lR).other (B:=B+3) (o:=(i*9+j)*2) (by omega) (.float .f64 (mulQ (F i) (G j)).1)).other (B:=B+3) (o:=(i*9+j)*2+1) (by omega) (.float .f64 (mulQ (F i) (G j)).2)⟩);have HW:=hid (((HB.out.trans (hb1.mono (by omega))).setCell (p:=⟨B+3,(i*9+j)*2,none⟩) (show B≤B+3 by omega) (.float .f64 (mulQ (F i) (G j)).1)).setCell (p:=⟨B+3,(i*9+j)*2+1,none⟩) (show B≤B+3 by omega) (.float .f64 (mulQ (F i) (G j)).2));rw [EO.out] at s0 s1 HS HX2 HW;clear hbZ hM1 HT HB HX a0 a1 b0 b1;generalize mulQ (F i) (G j)=q at *;unfold iv;refine uX (fun K hK=>?_);go_simp;refine hK _ _ (fun h=>Bool.noConfusion (Eq.trans (Eq.symm (by kernel_rfl:_=false)) h)) (fun h=>Bool.noConfusion (Eq.trans (Eq.symm (by kernel_rfl:_=false)) h)) ?_;clear hK K;refine rE ?_;go_wp2_with fail
       go_roundw
       case rel=>exact ⟨j+1,by omega,by go_num,by rw [← Nat.add_assoc]; exact HS.out,HX2.out.1,HX2.out.2.1,HX2.out.2.2,HW.out⟩
       case measure=>simp [intOf]; omega
    ·obtain rfl:j=9:=by omega
     have HX:=hid (show _∧_∧_∧_∧_ from ⟨hT,hF,hG,hR,hb⟩);clear hT hF hG hR hb;go_wp2_with fail
     go_roundw
     case rel=>exact ⟨i+1,by omega,by go_num,by rw [show (i+1)*9=i*9+9 by omega]; exact HX.out.1,HX.out.2.1,HX.out.2.2.1,HX.out.2.2.2.1,HX.out.2.2.2.2⟩
     case measure=>simp [intOf]; omega
  ·obtain rfl:i=9:=by omega
   have HX:=hid (show _∧_∧_ from ⟨hT,hR,hb⟩);have hz:=hT.lt;clear hT hF hG hR hb;go_wp2_with (first | (refine wpList_loadQ rfl _ 81 row81 _ rfl rfl HX.out.1 ?_) | (refine wpList_storeQ rfl _ 81 row81 _ _ rfl (tabS F G 81) rfl rfl HX.out.2.1 ?_) | fail)
   intro w4 hr4 hb4 hs4;have hb5:=HX.out.2.2.trans (hb4.mono (by omega));clear hb4 HX;go_wp2_with fail;exact ret_Q _ _ 81 row81 Try.results46 rfl hr4 rfl ⟨rfl,by first | exact hb5 | (rw [hB]; exact hb5)⟩
end Go.Proofs.Ytgnledamhjbafaa
