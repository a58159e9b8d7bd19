/-
  Polynomials with what is left over: what one may be, walked on both sides.
-/
import Derived.Test.YtgnledamhjbafaaQn
namespace Go.Proofs.Ytgnledamhjbafaa
open Go.RowKit
open Ieee (double)
open Lib
attribute [local go_sem] zf ze zh zd zu zt zw zx zy zA zj zk zm zn zo zF yd zU zG xq
theorem tAdd (x y:PQ) (w:World):Calls Try.prog 42 #[iv x.1 x.2,iv y.1 y.2] w (wh (iv (addQ x y).1 (addQ x y).2) w):=(add_any _ _ _ _ w).mono fun _ _ h=>yk.eq h (wJ _ _)
theorem tSub (x y:PQ) (w:World):Calls Try.prog 44 #[iv x.1 x.2,iv y.1 y.2] w (wh (iv (subQ x y).1 (subQ x y).2) w):=(sG _ _ _ _ w).mono fun _ _ h=>yk.eq h (wJ _ _)
theorem tMul (x y:PQ) (w:World):Calls Try.prog 48 #[iv x.1 x.2,iv y.1 y.2] w (wh (iv (mulQ x y).1 (mulQ x y).2) w):=(sH _ _ _ _ w).mono fun _ _ h=>yk.eq h (yC _ _ _ _)
theorem tDiv (x y:PQ) (w:World):Calls Try.prog 57 #[iv x.1 x.2,iv y.1 y.2] w (wh (iv (divQ x y).1 (divQ x y).2) w):=(div_any _ _ _ _ w).mono fun _ _ h=>yk.eq h (divP_eq _ _ _ _)
theorem uAdd (x y:PQ) (w:World):Calls Try.prog 43 #[iv x.1 x.2,iv y.1 y.2] w (wh (iv (addQ x y).1 (addQ x y).2) w):=(radd_any _ _ _ _ w).mono fun _ _ h=>yk.eq h (wJ _ _)
theorem uSub (x y:PQ) (w:World):Calls Try.prog 45 #[iv x.1 x.2,iv y.1 y.2] w (wh (iv (subQ x y).1 (subQ x y).2) w):=(rsub_any _ _ _ _ w).mono fun _ _ h=>yk.eq h (wJ _ _)
theorem uMul (x y:PQ) (w:World):Calls Try.prog 51 #[iv x.1 x.2,iv y.1 y.2] w (wh (iv (mulQ x y).1 (mulQ x y).2) w):=(rmul_any _ _ _ _ w).mono fun _ _ h=>yk.eq h (yC _ _ _ _)
theorem uDiv (x y:PQ) (w:World):Calls Try.prog 60 #[iv x.1 x.2,iv y.1 y.2] w (wh (iv (divQ x y).1 (divQ x y).2) w):=(rdiv_any _ _ _ _ w).mono fun _ _ h=>yk.eq h (divP_eq _ _ _ _)
theorem infoM:(Try.prog.info? 29).map (·.size)=some 20:=by kernel_rfl
theorem infoV:(Try.prog.info? 26).map (·.size)=some 2:=by kernel_rfl
theorem modT:∃ d,Try.prog.underlying 29=some d∧d.isRow=true:=⟨_,Try.underlying29,rfl⟩
theorem loadM {w:World} {b:Nat} {F:Nat→PQ} (h:PB w b 10 F):(Instr.loadAt 29 (.pointer (some ⟨b,0,none⟩))).run Try.prog w=.ok (modV F) w:=by
 obtain ⟨d,hu,hd⟩:=modT;exact run_loadAt_mid w b 0 29 (clQ F 10) d h.range hu hd (by rw [clQ_len]; exact infoM)
theorem storeM {w:World} {b:Nat} {F:Nat→PQ} (h:PB w b 10 F) (G:Nat→PQ):(Instr.storeAt 29 (.pointer (some ⟨b,0,none⟩)) (modV G)).run Try.prog w=.ok () (w.setCells b 0 (clQ G 10)):=by
 have:=run_storeAt_mid (P:=Try.prog) w b 0 29 (clQ G 10).toArray (by rw [List.size_toArray,clQ_len]; exact h.there) (by rw [List.size_toArray,clQ_len]; exact infoM) (all_oneCell_toArray (clQ_one G 10))
 simpa [modV] using this
theorem exec_loadM {a:Act} {o:Oper} {w:World} {b:Nat} {F:Nat→PQ} (x:Operand) (ho:o.op=.load 29 x) (hx:a.eval x=.pointer (some ⟨b,0,none⟩)) (h:PB w b 10 F):(execOp a.eval o).run Try.prog w=.ok (.value (modV F)) w:=by
 have e:=loadM h;unfold execOp;simp only [ho,hx,Sem.run_bind,e,Result.andThen_ok,Sem.run_pure]
theorem ret_mod {fn:Func} {R:Ending→World→Prop} {a:Act} {w:World} (sl:Nat) (hres:fn.results=#[.cell sl 29]) {b:Nat} {F:Nat→PQ} (ha:a.tmps.getD sl undef=.pointer (some ⟨b,0,none⟩)) (hp:PB w b 10 F) (hd:a.defers=[]) (hR:R (.returned (modV F)) w):bodyPost Try.prog fn R .ret a w:=by
 refine bodyPost_ret (v:=modV F) ?_ hd hR;obtain ⟨d,hu,hg⟩:=modT;have hl:=run_loadVar_mid (P:=Try.prog) w b 0 29 (clQ F 10) d hp.range hu hg (by rw [clQ_len]; exact infoM);have ha':a.tmps[sl]?.getD undef=.pointer (some ⟨b,0,none⟩):=by rw [← ha,Array.getD_eq_getD_getElem?]
 simp [results,hres,ha',asAddr,hl,modV]
theorem ret_iv {fn:Func} {R:Ending→World→Prop} {a:Act} {w:World} (sl:Nat) (hres:fn.results=#[.cell sl 26]) {b:Nat} {p:PQ} (ha:a.tmps.getD sl undef=.pointer (some ⟨b,0,none⟩)) (h0:w.cell? ⟨b,0,none⟩=some (.float .f64 p.1)) (h1:w.cell? ⟨b,1,none⟩=some (.float .f64 p.2)) (hd:a.defers=[]) (hR:R (.returned (iv p.1 p.2)) w):bodyPost Try.prog fn R .ret a w:=by
 have ha':a.tmps[sl]?.getD undef=.pointer (some ⟨b,0,none⟩):=by rw [← ha,Array.getD_eq_getD_getElem?]
 exact bodyPost_ret (v:=iv p.1 p.2) (by simp [results,hres,ha',asAddr,go_sem,h0,h1]) hd hR
theorem tmod2 (k:Nat):(k % 2=0→((k:Int).tmod 2==0)=true)∧(k % 2≠0→((k:Int).tmod 2==0)=false):=by
 have e:(k:Int).tmod 2=((k % 2:Nat):Int):=by rw [Int.tmod_eq_emod_of_nonneg (by omega)]; omega
 rw [e];exact ⟨fun h=>by rw [h]; rfl,fun h=>by rw [show k % 2=1 by omega]; rfl⟩
theorem power_tells (k:Nat) (w:World):Calls Try.prog 49 #[.int .i64 k] w (wh (iv (powQ k).1 (powQ k).2) w):=by
 unfold powQ;obtain ⟨t1,t2⟩:=tmod2 k;go_enter Try.func49,Try.ntmps49;by_cases h:k % 2=0
 ·have t:=t1 h;rw [if_pos h];clear t1 t2;go_wp2_with fail;exact bodyPost_ret (v:=iv 0 4607182418800017408) (by simp [results,Try.results49,go_sem]) rfl ⟨rfl,(Below.refl _ _).alloc (Nat.le_refl _) _⟩
 ·have t:=t2 h;rw [if_neg h];clear t1 t2;go_wp2_with fail;exact bodyPost_ret (v:=iv 13830554455654793216 0) (by simp [results,Try.results49,go_sem]) rfl ⟨rfl,(Below.refl _ _).alloc (Nat.le_refl _) _⟩
theorem rpower_tells (k:Nat) (w:World):Calls Try.prog 53 #[.int .i64 k] w (wh (iv (powQ k).1 (powQ k).2) w):=by
 unfold powQ;obtain ⟨t1,t2⟩:=tmod2 k;go_enter Try.func53,Try.ntmps53;by_cases h:k % 2=0
 ·have t:=t1 h;rw [if_pos h];clear t1 t2;go_wp2_with fail;exact bodyPost_ret (v:=iv 0 4607182418800017408) (by simp [results,Try.results53,go_sem]) rfl ⟨rfl,(Below.refl _ _).alloc (Nat.le_refl _) _⟩
 ·have t:=t2 h;rw [if_neg h];clear t1 t2;go_wp2_with fail;exact bodyPost_ret (v:=iv 13830554455654793216 0) (by simp [results,Try.results53,go_sem]) rfl ⟨rfl,(Below.refl _ _).alloc (Nat.le_refl _) _⟩
set_option maxRecDepth 100000
set_option maxHeartbeats 16000000
theorem poly_tells (F:Nat→PQ) (w:World):Calls Try.prog 50 #[modV F] w (wh (iv (polQ F 8).1 (polQ F 8).2) w):=by
 have AL:=al2 w (.cells (clQ F 10).toArray 29) (.cells #[.float .f64 0,.float .f64 0] 26);have HP:=PB.new w 10 F 29;unfold modV;go_enter Try.func50,Try.ntmps50;go_upto_region 1 with fail
 have HX:=hid (HP.below ((Below.refl _ _).alloc (Nat.le_refl _) (.cells #[.float .f64 0,.float .f64 0] 26)) (by simp));clear HP;generalize (w.alloc (.cells (clQ F 10).toArray 29)).alloc (.cells #[.float .f64 0,.float .f64 0] 26)=X at *;generalize hB:w.heap.size=B at *;obtain ⟨x1,x2,x4,x5⟩:=AL;have X2:=hid x2;have X5:=hid x5;have c0:=HX.out.at0 0 (by decide);have c1:=HX.out.at1 0 (by decide);have AR:=hid (PB.new X 1 (fun _=>F 0) 26);have hA:Below X.heap.size X (X.alloc (.cells (clQ (fun _=>F 0) 1).toArray 26)):=(Below.refl _ _).alloc (Nat.le_refl _) _;clear x1 x2 x5;simp only [Nat.zero_mul,Nat.zero_add] at c0 c1;go_wp2_with fail
 go_loopw [4] (fun i wr=>∃ (j:Nat) (p:PQ),1≤j∧j≤9∧i=.int .i64 j∧p=polQ F (j-1)∧PB wr (B+2) 1 (fun _=>p)∧Below X.heap.size X wr) (fun i _=>9-(intOf i).toNat)
 case atStart=>exact ⟨1,F 0,by omega,by omega,rfl,rfl,x4 ▸ AR.out,hA⟩
 case round=>
  clear hA AR c0 c1;obtain ⟨j,⟨r1,r2⟩,h1,h9,rfl,hp,hr,hb⟩:=hrel;have hws:=hb.size;by_cases hlt:j<9
  ·have hl9:(j:Int)<9:=by omega
   have hl8:(j:Int)≤8:=by omega
   have hF:=HX.out.below hb (by omega);have c0:=hF.at0 j (by omega);have c1:=hF.at1 j (by omega);have r0:=hr.at0 0 (by decide);have r3:=hr.at1 0 (by decide);simp only [Nat.zero_mul,Nat.zero_add] at r0 r3;have HR:=hid hr;have HB:=hid hb;have HQ:=hid hp;have lr:B+2<wr.heap.size:=hr.lt;have lB:B<wr.heap.size:=by omega
   clear hF hr hb hp;go_wp2_with fail;refine wL [(0,3),(1,1),(2,1),(3,1),(4,3),(5,1),(6,0),(7,0),(8,0),(9,0)] (fun W=>Below wr.heap.size wr W) (by kernel_rfl) (by kernel_rfl) (fun _ _ d _ _ h=>by cases d<;>exact h) ((Below.refl _ _).drew) ?_;intro Z hZ hbZ;clear hZ;refine sV (v:=iv r1 r2) rfl rfl (fun wk hwk=>?_) ?_
   ·rw [← (zW hwk).1 _ _ lr] at r0 r3;unfold iv;go_simp
   iterate 3
    first
     | refine sT (fun K hK=>?_)
     | refine sU (fun K hK=>?_)
    go_simp;refine hK _ ?_;clear hK K
   refine sV (v:=iv (F j).1 (F j).2) rfl rfl (fun wk hwk=>?_) ?_
   ·rw [← (zW hwk).1 _ _ lB] at c0 c1;unfold iv;go_simp
   iterate 1
    first
     | refine sT (fun K hK=>?_)
     | refine sU (fun K hK=>?_)
    go_simp;refine hK _ ?_;clear hK K
   refine uX (fun K hK=>?_);go_simp;refine (power_tells j _).mono ?_;rintro e w1 ⟨rfl,hc1⟩;have hb1:=hbZ.trans (hc1.mono hbZ.size);refine hK _ _ (fun h=>Bool.noConfusion (Eq.trans (Eq.symm (by kernel_rfl:_=false)) h)) (fun _=>hb1) ?_;clear hK K;refine uX (fun K hK=>?_);go_simp;refine (tMul (F j) (powQ j) _).mono ?_;rintro e w2 ⟨rfl,hc2⟩;have hb2:=hb1.trans (hc2.mono hb1.size);refine hK _ _ (fun h=>Bool.noConfusion (Eq.trans (Eq.symm (by kernel_rfl:_=false)) h)) (fun _=>hb2) ?_;clear hK K;refine uX (fun K hK=>?_);go_simp;refine (tAdd (r1,r2) (mulQ (F j) (powQ j)) _).mono ?_;rintro e w3 ⟨rfl,hc3⟩;have hb3:=hb2.trans (hc3.mono hb2.size);refine hK _ _ (fun h=>Bool.noConfusion (Eq.trans (Eq.symm (by kernel_rfl:_=false)) h)) (fun _=>hb3) ?_;clear hK K;have HR2:=HR.out.below hb3 lr;have s0:=HR2.at0 0 (by decide);have s1:=HR2.at1 0 (by decide);have s2:=HR2.free 0;have s3:=HR2.free 1;simp only [Nat.zero_mul,Nat.zero_add] at s0 s1;have HS:=hid (HR2.set (k:=0) (by decide) (addQ (r1,r2) (mulQ (F j) (powQ j))));have HW:=hid ((((HB.out.trans (hb3.mono hws)).setCell (p:=⟨B+2,0*2,none⟩) (show X.heap.size≤B+2 by omega) (.float .f64 (addQ (r1,r2) (mulQ (F j) (powQ j))).1))).setCell (p:=⟨B+2,0*2+1,none⟩) (show X.heap.size≤B+2 by omega) (.float .f64 (addQ (r1,r2) (mulQ (F j) (powQ j))).2));have HN:=hid (show addQ (r1,r2) (mulQ (F j) (powQ j))=polQ F (j+1-1) by rw [HQ.out,show j+1-1=j-1+1 by omega,polQ,show j-1+1=j by omega]);simp only [Nat.zero_mul,Nat.zero_add] at HS HW;clear hbZ HR2 HR HB HQ r0 r3 c0 c1;generalize addQ (r1,r2) (mulQ (F j) (powQ j))=q at *;unfold iv;refine uX (fun K hK=>?_);go_simp;refine hK _ _ (fun h=>Bool.noConfusion (Eq.trans (Eq.symm (by kernel_rfl:_=false)) h)) (fun h=>Bool.noConfusion (Eq.trans (Eq.symm (by kernel_rfl:_=false)) h)) ?_;clear hK K;refine rE ?_;go_wp2_with fail
   go_roundw
   case rel=>exact ⟨j+1,q,by omega,by omega,by go_num,HN.out,HS.out.congr (fun k hk=>(by have e:k=0:=(by omega); rw [e,yp])),HW.out⟩
   case measure=>simp [intOf]; omega
  ·obtain rfl:j=9:=by omega
   have r0:=hr.at0 0 (by decide);have r3:=hr.at1 0 (by decide);simp only [Nat.zero_mul,Nat.zero_add] at r0 r3;have hz:=(hb.block (B+1) (by omega)).trans X2.out;have q0:=at_block hz 0;have q1:=at_block hz 1;have q2:=rD hz 0;have q3:=rD hz 1;simp only [List.getElem?_toArray,List.getElem?_cons_zero,List.getElem?_cons_succ] at q0 q1;have HW:=hid (((X5.out.trans (hb.mono (by omega))).setCell (p:=⟨B+1,0,none⟩) (show B≤B+1 by omega) (.float .f64 r1)).setCell (p:=⟨B+1,1,none⟩) (show B≤B+1 by omega) (.float .f64 r2));have K2:=zR (.float .f64 r1) (.float .f64 r2) q0 q1;rw [show 9-1=8 from rfl] at hp;generalize polQ F 8=q at *;subst hp;clear hz hr hb;go_wp2_with fail;exact bodyPost_ret (v:=iv r1 r2) (by simp [results,Try.results50,go_sem,K2.1,K2.2]) rfl ⟨rfl,by first | exact HW.out | (rw [hB]; exact HW.out)⟩
theorem rpoly_tells (F:Nat→PQ) (w:World):Calls Try.prog 54 #[modV F] w (wh (iv (polQ F 8).1 (polQ F 8).2) w):=by
 have AL:=al2 w (.cells (clQ F 10).toArray 29) (.cells #[.float .f64 0,.float .f64 0] 26);have HP:=PB.new w 10 F 29;unfold modV;go_enter Try.func54,Try.ntmps54;go_upto_region 1 with fail
 have HX:=hid (HP.below ((Below.refl _ _).alloc (Nat.le_refl _) (.cells #[.float .f64 0,.float .f64 0] 26)) (by simp));clear HP;generalize (w.alloc (.cells (clQ F 10).toArray 29)).alloc (.cells #[.float .f64 0,.float .f64 0] 26)=X at *;generalize hB:w.heap.size=B at *;obtain ⟨x1,x2,x4,x5⟩:=AL;have X2:=hid x2;have X5:=hid x5;have c0:=HX.out.at0 0 (by decide);have c1:=HX.out.at1 0 (by decide);have AR:=hid (PB.new X 1 (fun _=>F 0) 26);have hA:Below X.heap.size X (X.alloc (.cells (clQ (fun _=>F 0) 1).toArray 26)):=(Below.refl _ _).alloc (Nat.le_refl _) _;clear x1 x2 x5;simp only [Nat.zero_mul,Nat.zero_add] at c0 c1;go_wp2_with fail
 go_loopw [4] (fun i wr=>∃ (j:Nat) (p:PQ),1≤j∧j≤9∧i=.int .i64 j∧p=polQ F (j-1)∧PB wr (B+2) 1 (fun _=>p)∧Below X.heap.size X wr) (fun i _=>9-(intOf i).toNat)
 case atStart=>exact ⟨1,F 0,by omega,by omega,rfl,rfl,x4 ▸ AR.out,hA⟩
 case round=>
  clear hA AR c0 c1;obtain ⟨j,⟨r1,r2⟩,h1,h9,rfl,hp,hr,hb⟩:=hrel;have hws:=hb.size;by_cases hlt:j<9
  ·have hl9:(j:Int)<9:=by omega
   have hl8:(j:Int)≤8:=by omega
   have hF:=HX.out.below hb (by omega);have c0:=hF.at0 j (by omega);have c1:=hF.at1 j (by omega);have r0:=hr.at0 0 (by decide);have r3:=hr.at1 0 (by decide);simp only [Nat.zero_mul,Nat.zero_add] at r0 r3;have HR:=hid hr;have HB:=hid hb;have HQ:=hid hp;have lr:B+2<wr.heap.size:=hr.lt;have lB:B<wr.heap.size:=by omega
   clear hF hr hb hp;go_wp2_with fail;refine wL [(0,3),(1,1),(2,1),(3,1),(4,3),(5,1),(6,0),(7,0),(8,0),(9,0)] (fun W=>Below wr.heap.size wr W) (by kernel_rfl) (by kernel_rfl) (fun _ _ d _ _ h=>by cases d<;>exact h) ((Below.refl _ _).drew) ?_;intro Z hZ hbZ;clear hZ;refine sV (v:=iv r1 r2) rfl rfl (fun wk hwk=>?_) ?_
   ·rw [← (zW hwk).1 _ _ lr] at r0 r3;unfold iv;go_simp
   iterate 3
    first
     | refine sT (fun K hK=>?_)
     | refine sU (fun K hK=>?_)
    go_simp;refine hK _ ?_;clear hK K
   refine sV (v:=iv (F j).1 (F j).2) rfl rfl (fun wk hwk=>?_) ?_
   ·rw [← (zW hwk).1 _ _ lB] at c0 c1;unfold iv;go_simp
   iterate 1
    first
     | refine sT (fun K hK=>?_)
     | refine sU (fun K hK=>?_)
    go_simp;refine hK _ ?_;clear hK K
   refine uX (fun K hK=>?_);go_simp;refine (rpower_tells j _).mono ?_;rintro e w1 ⟨rfl,hc1⟩;have hb1:=hbZ.trans (hc1.mono hbZ.size);refine hK _ _ (fun h=>Bool.noConfusion (Eq.trans (Eq.symm (by kernel_rfl:_=false)) h)) (fun _=>hb1) ?_;clear hK K;refine uX (fun K hK=>?_);go_simp;refine (uMul (F j) (powQ j) _).mono ?_;rintro e w2 ⟨rfl,hc2⟩;have hb2:=hb1.trans (hc2.mono hb1.size);refine hK _ _ (fun h=>Bool.noConfusion (Eq.trans (Eq.symm (by kernel_rfl:_=false)) h)) (fun _=>hb2) ?_;clear hK K;refine uX (fun K hK=>?_);go_simp;refine (uAdd (r1,r2) (mulQ (F j) (powQ j)) _).mono ?_;rintro e w3 ⟨rfl,hc3⟩;have hb3:=hb2.trans (hc3.mono hb2.size);refine hK _ _ (fun h=>Bool.noConfusion (Eq.trans (Eq.symm (by kernel_rfl:_=false)) h)) (fun _=>hb3) ?_;clear hK K;have HR2:=HR.out.below hb3 lr;have s0:=HR2.at0 0 (by decide);have s1:=HR2.at1 0 (by decide);have s2:=HR2.free 0;have s3:=HR2.free 1;simp only [Nat.zero_mul,Nat.zero_add] at s0 s1;have HS:=hid (HR2.set (k:=0) (by decide) (addQ (r1,r2) (mulQ (F j) (powQ j))));have HW:=hid ((((HB.out.trans (hb3.mono hws)).setCell (p:=⟨B+2,0*2,none⟩) (show X.heap.size≤B+2 by omega) (.float .f64 (addQ (r1,r2) (mulQ (F j) (powQ j))).1))).setCell (p:=⟨B+2,0*2+1,none⟩) (show X.heap.size≤B+2 by omega) (.float .f64 (addQ (r1,r2) (mulQ (F j) (powQ j))).2));have HN:=hid (show addQ (r1,r2) (mulQ (F j) (powQ j))=polQ F (j+1-1) by rw [HQ.out,show j+1-1=j-1+1 by omega,polQ,show j-1+1=j by omega]);simp only [Nat.zero_mul,Nat.zero_add] at HS HW;clear hbZ HR2 HR HB HQ r0 r3 c0 c1;generalize addQ (r1,r2) (mulQ (F j) (powQ j))=q at *;unfold iv;refine uX (fun K hK=>?_);go_simp;refine hK _ _ (fun h=>Bool.noConfusion (Eq.trans (Eq.symm (by kernel_rfl:_=false)) h)) (fun h=>Bool.noConfusion (Eq.trans (Eq.symm (by kernel_rfl:_=false)) h)) ?_;clear hK K;refine rE ?_;go_wp2_with fail
   go_roundw
   case rel=>exact ⟨j+1,q,by omega,by omega,by go_num,HN.out,HS.out.congr (fun k hk=>(by have e:k=0:=(by omega); rw [e,yp])),HW.out⟩
   case measure=>simp [intOf]; omega
  ·obtain rfl:j=9:=by omega
   have r0:=hr.at0 0 (by decide);have r3:=hr.at1 0 (by decide);simp only [Nat.zero_mul,Nat.zero_add] at r0 r3;have hz:=(hb.block (B+1) (by omega)).trans X2.out;have q0:=at_block hz 0;have q1:=at_block hz 1;have q2:=rD hz 0;have q3:=rD hz 1;simp only [List.getElem?_toArray,List.getElem?_cons_zero,List.getElem?_cons_succ] at q0 q1;have HW:=hid (((X5.out.trans (hb.mono (by omega))).setCell (p:=⟨B+1,0,none⟩) (show B≤B+1 by omega) (.float .f64 r1)).setCell (p:=⟨B+1,1,none⟩) (show B≤B+1 by omega) (.float .f64 r2));have K2:=zR (.float .f64 r1) (.float .f64 r2) q0 q1;rw [show 9-1=8 from rfl] at hp;generalize polQ F 8=q at *;subst hp;clear hz hr hb;go_wp2_with fail;exact bodyPost_ret (v:=iv r1 r2) (by simp [results,Try.results54,go_sem,K2.1,K2.2]) rfl ⟨rfl,by first | exact HW.out | (rw [hB]; exact HW.out)⟩
theorem range_tells (F:Nat→PQ) (w:World):Calls Try.prog 24 #[modV F] w (wh (iv (rngQ F).1 (rngQ F).2) w):=by
 have AL:=al2 w (.cells (clQ F 10).toArray 29) (.cells #[.float .f64 0,.float .f64 0] 26);have HP:=PB.new w 10 F 29;unfold modV;go_enter Try.func24,Try.ntmps24;go_upto_region 1 with fail
 have HX:=hid (HP.below ((Below.refl _ _).alloc (Nat.le_refl _) (.cells #[.float .f64 0,.float .f64 0] 26)) (by simp));clear HP;generalize (w.alloc (.cells (clQ F 10).toArray 29)).alloc (.cells #[.float .f64 0,.float .f64 0] 26)=X at *;generalize hB:w.heap.size=B at *;obtain ⟨x1,x2,x4,x5⟩:=AL;have X2:=hid x2;have X5:=hid x5;have c0:=HX.out.at0 9 (by decide);have c1:=HX.out.at1 9 (by decide);simp only [show 9*2=18 from rfl,show 18+1=19 from rfl] at c0 c1;have lB:B<X.heap.size:=by omega
 clear x1 x2 x5;refine wL [(0,3),(2,1),(3,3),(1,0),(4,0),(5,0)] (fun W=>Below X.heap.size X W) (by kernel_rfl) (by kernel_rfl) (fun _ _ d _ _ h=>by cases d<;>exact h) ((Below.refl _ _).drew) ?_;intro Z hZ hbZ;clear hZ;refine sV (v:=modV F) rfl rfl (fun wk hwk=>exec_loadM _ rfl rfl ((HX.out).below hwk (by omega))) ?_
 iterate 1
  first
   | refine sT (fun K hK=>?_)
   | refine sU (fun K hK=>?_)
  go_simp;refine hK _ ?_;clear hK K
 refine sV (v:=iv (F 9).1 (F 9).2) rfl rfl (fun wk hwk=>?_) ?_
 ·rw [← (zW hwk).1 _ _ lB] at c0 c1;unfold iv;go_simp
 refine uX (fun K hK=>?_);go_simp;refine (poly_tells F _).mono ?_;rintro e w1 ⟨rfl,hc1⟩;have hb1:=hbZ.trans (hc1.mono hbZ.size);refine hK _ _ (fun h=>Bool.noConfusion (Eq.trans (Eq.symm (by kernel_rfl:_=false)) h)) (fun _=>hb1) ?_;clear hK K;refine uX (fun K hK=>?_);go_simp;refine (tAdd (polQ F 8) (F 9) _).mono ?_;rintro e w2 ⟨rfl,hc2⟩;have hb2:=hb1.trans (hc2.mono hb1.size);refine hK _ _ (fun h=>Bool.noConfusion (Eq.trans (Eq.symm (by kernel_rfl:_=false)) h)) (fun _=>hb2) ?_;clear hK K;have hz:=(hb2.block (B+1) (by omega)).trans X2.out;have q0:=at_block hz 0;have q1:=at_block hz 1;have q2:=rD hz 0;have q3:=rD hz 1;simp only [List.getElem?_toArray,List.getElem?_cons_zero,List.getElem?_cons_succ] at q0 q1;have HW:=hid (((X5.out.trans (hb2.mono (by omega))).setCell (p:=⟨B+1,0,none⟩) (show B≤B+1 by omega) (.float .f64 (rngQ F).1)).setCell (p:=⟨B+1,1,none⟩) (show B≤B+1 by omega) (.float .f64 (rngQ F).2));have K2:=hid (zR (.float .f64 (rngQ F).1) (.float .f64 (rngQ F).2) q0 q1);rw [show addQ (polQ F 8) (F 9)=rngQ F from rfl];generalize rngQ F=q at *;clear hz X2 X5 HX c0 c1;unfold iv;refine uX (fun K hK=>?_);go_simp;refine hK _ _ (fun h=>Bool.noConfusion (Eq.trans (Eq.symm (by kernel_rfl:_=false)) h)) (fun h=>Bool.noConfusion (Eq.trans (Eq.symm (by kernel_rfl:_=false)) h)) ?_;clear hK K;refine rE ?_;go_wp2_with fail;exact bodyPost_ret (v:=iv q.1 q.2) (by simp [results,Try.results24,go_sem,K2.out.1,K2.out.2]) rfl ⟨rfl,by first | exact HW.out | (rw [hB]; exact HW.out)⟩
theorem rrange_tells (F:Nat→PQ) (w:World):Calls Try.prog 25 #[modV F] w (wh (iv (rngQ F).1 (rngQ F).2) w):=by
 have AL:=al2 w (.cells (clQ F 10).toArray 29) (.cells #[.float .f64 0,.float .f64 0] 26);have HP:=PB.new w 10 F 29;unfold modV;go_enter Try.func25,Try.ntmps25;go_upto_region 1 with fail
 have HX:=hid (HP.below ((Below.refl _ _).alloc (Nat.le_refl _) (.cells #[.float .f64 0,.float .f64 0] 26)) (by simp));clear HP;generalize (w.alloc (.cells (clQ F 10).toArray 29)).alloc (.cells #[.float .f64 0,.float .f64 0] 26)=X at *;generalize hB:w.heap.size=B at *;obtain ⟨x1,x2,x4,x5⟩:=AL;have X2:=hid x2;have X5:=hid x5;have c0:=HX.out.at0 9 (by decide);have c1:=HX.out.at1 9 (by decide);simp only [show 9*2=18 from rfl,show 18+1=19 from rfl] at c0 c1;have lB:B<X.heap.size:=by omega
 clear x1 x2 x5;refine wL [(0,3),(2,1),(3,3),(1,0),(4,0),(5,0)] (fun W=>Below X.heap.size X W) (by kernel_rfl) (by kernel_rfl) (fun _ _ d _ _ h=>by cases d<;>exact h) ((Below.refl _ _).drew) ?_;intro Z hZ hbZ;clear hZ;refine sV (v:=modV F) rfl rfl (fun wk hwk=>exec_loadM _ rfl rfl ((HX.out).below hwk (by omega))) ?_
 iterate 1
  first
   | refine sT (fun K hK=>?_)
   | refine sU (fun K hK=>?_)
  go_simp;refine hK _ ?_;clear hK K
 refine sV (v:=iv (F 9).1 (F 9).2) rfl rfl (fun wk hwk=>?_) ?_
 ·rw [← (zW hwk).1 _ _ lB] at c0 c1;unfold iv;go_simp
 refine uX (fun K hK=>?_);go_simp;refine (rpoly_tells F _).mono ?_;rintro e w1 ⟨rfl,hc1⟩;have hb1:=hbZ.trans (hc1.mono hbZ.size);refine hK _ _ (fun h=>Bool.noConfusion (Eq.trans (Eq.symm (by kernel_rfl:_=false)) h)) (fun _=>hb1) ?_;clear hK K;refine uX (fun K hK=>?_);go_simp;refine (uAdd (polQ F 8) (F 9) _).mono ?_;rintro e w2 ⟨rfl,hc2⟩;have hb2:=hb1.trans (hc2.mono hb1.size);refine hK _ _ (fun h=>Bool.noConfusion (Eq.trans (Eq.symm (by kernel_rfl:_=false)) h)) (fun _=>hb2) ?_;clear hK K;have hz:=(hb2.block (B+1) (by omega)).trans X2.out;have q0:=at_block hz 0;have q1:=at_block hz 1;have q2:=rD hz 0;have q3:=rD hz 1;simp only [List.getElem?_toArray,List.getElem?_cons_zero,List.getElem?_cons_succ] at q0 q1;have HW:=hid (((X5.out.trans (hb2.mono (by omega))).setCell (p:=⟨B+1,0,none⟩) (show B≤B+1 by omega) (.float .f64 (rngQ F).1)).setCell (p:=⟨B+1,1,none⟩) (show B≤B+1 by omega) (.float .f64 (rngQ F).2));have K2:=hid (zR (.float .f64 (rngQ F).1) (.float .f64 (rngQ F).2) q0 q1);rw [show addQ (polQ F 8) (F 9)=rngQ F from rfl];generalize rngQ F=q at *;clear hz X2 X5 HX c0 c1;unfold iv;refine uX (fun K hK=>?_);go_simp;refine hK _ _ (fun h=>Bool.noConfusion (Eq.trans (Eq.symm (by kernel_rfl:_=false)) h)) (fun h=>Bool.noConfusion (Eq.trans (Eq.symm (by kernel_rfl:_=false)) h)) ?_;clear hK K;refine rE ?_;go_wp2_with fail;exact bodyPost_ret (v:=iv q.1 q.2) (by simp [results,Try.results25,go_sem,K2.out.1,K2.out.2]) rfl ⟨rfl,by first | exact HW.out | (rw [hB]; exact HW.out)⟩
end Go.Proofs.Ytgnledamhjbafaa
