/-
  Contracts (what a function tells) and plain facts that a law's proof hangs on, for every input; no condition but those in their statements. Laid together of the texts Cfi, Cfj.
-/
import Derived.Test.YtfcjfijmdikcmaaKf
namespace Go.Proofs.Ytfcjfijmdikcmaa
open Go.RowKit Lib
open Ieee (double)
attribute [local go_sem] zh zf zI zA zJ zK zL zM zn zp zq zr zt zW zF zz zl yb
def bN (q k:Nat):Int:=y9 (pwF q k) (pwF q 1)
def bD (q k:Nat):Int:=xc (pwF q k) (pwF q 1)
theorem b_ok:∀ (q:Fin 6),1≤q.val→pwF q.val 1≠0:=by decide +kernel
set_option maxRecDepth 100000
set_option maxHeartbeats 16000000
theorem yZ (q:Nat) (h1:1≤q) (h5:q≤5) (w:World) :
  Calls Try.prog 16 #[.int .i64 q] w fun e w'=>∃ v,e=.returned v∧yC 0 w' w.heap.size v (q+1) (bN q) (bD q)∧Below w.heap.size w w':=by
 obtain ⟨iI,hI,g1,g2,g3⟩:=info_parts xM;have HI:=hid (show iI.zero=_∧iI.size=_∧iI.bytes=_ from ⟨g1,g2,g3⟩);have HI0:=hid hI;clear hI g1 g2 g3;have PR:=hid (fun W=>ye q h5 W);have AL:=al1 w (.cells #[.slice none 0 0,.slice none 0 0] 29);go_enter Try.func16,Try.ntmps16;go_upto_region 1 with fail
 generalize w.alloc (.cells #[.slice none 0 0,.slice none 0 0] 29)=X0 at *;generalize hB:w.heap.size=B at *;obtain ⟨x1,x2,x3⟩:=AL;have HX:=hid x1;have HBX:=hid x3;clear x1 x3;go_wp2_with fail;refine (PR.out X0).mono ?_;rintro e X ⟨Rp,cp,rfl,ho,hb⟩;have HPR:=hid ho;have HB1:=hid hb;have AL:=hid (al1 X (.cells #[.slice none 0 0,.slice none 0 0] 29));clear ho hb;go_upto_region 3 with fail
 generalize X.alloc (.cells #[.slice none 0 0,.slice none 0 0] 29)=Y at *;obtain ⟨P,hP⟩:∃ P,X.heap.size=P:=⟨_,rfl⟩;have HS:=hid (show zV P (.slice none 0 0) (.slice none 0 0) (.slice none 0 0) (.slice none 0 0) 0 0 (bN q) (bD q) X Y from ⟨hP ▸ AL.out.2.2,hP ▸ AL.out.1,World.ownsRow_nil _ _ _ _,World.ownsRow_nil _ _ _ _,fun j hj=>by cases hj⟩);have hPl:B<P:=by have:=HB1.out.size; omega
 have hRp:Rp<P:=hP ▸ HPR.out.lt.2;have hBp:X0.heap.size≤P:=hP ▸ HB1.out.size;have HPX:=hid hP;simp only [hP];clear AL hP;go_wp2_with fail
 go_loopw [5] (fun i wr=>∃ (e:Nat) (vN vD:Value),e≤q+1∧i=.int .i64 e∧zV P vN vD vN vD e e (bN q) (bD q) X wr) (fun i _=>q+1-(intOf i).toNat)
 case atStart=>exact ⟨0,_,_,by omega,rfl,HS.out⟩
 case round=>
  clear HS;obtain ⟨e,vN,vD,he,rfl,hS⟩:=hrel;obtain ⟨aN,cN,rfl⟩:=z8 hS.num;obtain ⟨aD,cD,rfl⟩:=z8 hS.den;have HS:=hid hS;by_cases heq:e≤q
  ·have j1:(e:Int)≤(q:Int):=by omega
   have hs1:∀ k,k≤q→Sml (pwF q k):=fun k hk=>by have:=xn (i:=q) (j:=k) (by omega) (by omega); unfold Sml; omega
   have LW:=hid (fun W=>(show Calls Try.prog 21 #[.int .i64 (pwF q e),.int .i64 (pwF q 1)] W (fun e2 w'=>e2=.returned (.tuple #[.int .i64 (bN q e),.int .i64 (bD q e)])∧zH W w') from ya (pwF q e) (pwF q 1) (hs1 e heq) (hs1 1 h1) (b_ok ⟨q,by omega⟩ h1) W));have bl:=hS.bel;have u1:=(bl.cell (p:=⟨Rp,e,none⟩) hRp).trans (HPR.out.cell (j:=e) (by omega));have u2:=(bl.cell (p:=⟨Rp,1,none⟩) hRp).trans (HPR.out.cell (j:=1) (by omega));have j3:(1:Int)<(q:Int)+1:=by omega
   have j4:1<q+1:=by omega
   have j5:(e:Int)<(q:Int)+1:=by omega
   have j6:0<q:=by omega
   have j7:e<q+1:=by omega
   clear hs1 hS bl;go_upto_region 6 with fail
   refine zE [(0,1),(1,1),(2,1),(3,2),(4,1),(5,1),(6,2),(7,0),(8,1),(9,1),(10,1),(11,1),(12,1)] (by kernel_rfl) (by kernel_rfl) (fun _ _ d _ _ h=>by cases d<;>exact h) ?_;intro Z hZ;have hZZ:∀ b o,Z.cell? ⟨b,o,none⟩=wr.cell? ⟨b,o,none⟩:=fun b o=>by rw [hZ]; rfl
   have HSZ:=hid (HS.out.step (show Below _ _ Z by rw [hZ]; exact (Below.refl _ _).drew));rw [← hZZ] at u1 u2;clear hZ hZZ HS
   iterate 7
    first
     | refine zj (fun K hK=>?_)
     | refine zk (fun K hK=>?_)
    go_simp;refine hK _ ?_;clear hK K
   refine yx (fun K hK=>?_);go_simp;refine (LW.out Z).mono ?_;rintro e2 w2 ⟨rfl,hd⟩;have HS:=hid (HSZ.out.step hd.below);refine hK _ _ (fun _=>hd) ?_;clear hK K hd HSZ u1 u2
   iterate 5
    first
     | refine zj (fun K hK=>?_)
     | refine zk (fun K hK=>?_)
    go_simp;refine hK _ ?_;clear hK K
   refine zQ ?_;have HFN:=hid (show zD (bN q) (e+1)=zD (bN q) e ++ [.int .i64 (bN q e)] from rfl);have HFD:=hid (show zD (bD q) (e+1)=zD (bD q) e ++ [.int .i64 (bD q e)] from rfl);go_upto_region 7 with fail
   refine z7 (.op 0 1 (.op 1 3 (.op 2 1 (.op 5 1 (.op 6 3 (.op 7 1 (.alt 3 (.alt 4 (.op 10 1 (.alt 8 (.alt 9 (.alt 11 (.op 12 1 (.alt 13 .nil .stop)) .stop) .stop) .stop)) (.alt 8 (.alt 4 (.op 10 1 (.alt 9 (.alt 11 (.op 12 1 (.alt 13 .nil .stop)) .stop) .stop)) .stop) .stop)) (.alt 8 (.alt 3 (.alt 4 (.op 10 1 (.alt 9 (.alt 11 (.op 12 1 (.alt 13 .nil .stop)) .stop) .stop)) .stop) .stop) .stop)))))))) [3,4,8,9,11,13] [1,6] (fun W=>W.cell? ⟨P,0,none⟩=some (.slice aN e cN)∧W.cell? ⟨P,1,none⟩=some (.slice aD e cD)) (by kernel_rfl) (by kernel_rfl) (fun _ _ d _ _ h=>by cases d<;>exact h) (⟨zc HS.out.blk 0,zc HS.out.blk 1⟩) ?_;intro Z hZ hrZ;have HS0:=hid (HS.out.step (show Below _ _ Z by rw [hZ]; exact (Below.refl _ _).drew));clear hZ hrZ HS;refine zg (fun K hK=>?_);go_simp;refine hK _ ?_;clear hK K;refine zR (v:=.slice aN e cN) rfl rfl (fun wk hwk=>?_) ?_
   ·obtain ⟨k1,k2⟩:=hwk;go_simp
   refine zg (fun K hK=>?_);go_simp;refine hK _ ?_;clear hK K;refine zg (fun K hK=>?_);go_simp;refine hK _ ?_;clear hK K;refine zR (v:=.slice aD e cD) rfl rfl (fun wk hwk=>?_) ?_
   ·obtain ⟨k1,k2⟩:=hwk;go_simp
   refine zg (fun K hK=>?_);go_simp;refine hK _ ?_;clear hK K;refine zd (fun K hK=>?_) ?_;go_simp;obtain ⟨y1,y2,hst⟩:=al1 Z (.cells #[.int .i64 (bN q e)] 3);have HS2:=hid (HS0.out.step hst);have He5:=hid (show ∀ j,Value.ownBlock (.slice aN e cN)=some j→j≠Z.heap.size from fun j hj=>Nat.ne_of_lt (HS0.out.num.lt j hj).2);refine hK _ _ (fun _=>⟨zc HS2.out.blk 0,zc HS2.out.blk 1⟩) ?_;clear hK K;have Hz3:=hid y1;clear y1 y2 hst;generalize Z.alloc (.cells #[.int .i64 (bN q e)] 3)=V1 at *;generalize Z.heap.size=k4 at *;refine zd (fun K hK=>?_) ?_;refine zo rfl ?_;refine step_append_lies _ (by rfl) _ _ 24 (by rfl) (P+1) 3 iI (.int .i64 0) 1 8 Try.underlying24 HI0.out HI.out.1 HI.out.2.1 HI.out.2.2 rfl (by decide) _ (e) _ (by rfl) HS2.out.num ⟨k4,0,none⟩ 1 1 [.int .i64 (bN q e)] (by rfl) (by rfl) (World.news_of_block (cs:=#[.int .i64 (bN q e)]) (t:=3) (fr:=(0,0)) Hz3.out) (by simp [Value.oneCell']) (by omega) (by unfold maxLen; omega) (by omega) (HS2.out.lt) _ rfl ?_;intro g8 c9 V6 hown hgrow hat _;have HS7:=hid (HS2.out.appN (gg:=g8) hgrow hat (by rw [HFN.out]; exact hown));refine hK _ _ (fun _=>⟨zc HS7.out.blk 0,zc HS7.out.blk 1⟩) ?_;clear hK K hown hgrow hat;refine zg (fun K hK=>?_);go_simp;refine hK _ ?_;clear hK K;refine zd (fun K hK=>?_) ?_;go_simp;obtain ⟨y1,y2,hst⟩:=al1 V6 (.cells #[.int .i64 (bD q e)] 3);have HS11:=hid (HS7.out.step hst);have He14:=hid (show ∀ j,Value.ownBlock (.slice (some ⟨g8,0,none⟩) (e+1) c9)=some j→j≠V6.heap.size from fun j hj=>Nat.ne_of_lt (HS7.out.num.lt j hj).2);refine hK _ _ (fun _=>⟨zc HS11.out.blk 0,zc HS11.out.blk 1⟩) ?_;clear hK K;have Hz12:=hid y1;clear y1 y2 hst;generalize V6.alloc (.cells #[.int .i64 (bD q e)] 3)=V10 at *;generalize V6.heap.size=k13 at *;refine zd (fun K hK=>?_) ?_;refine zo rfl ?_;refine step_append_lies _ (by rfl) _ _ 24 (by rfl) (P+1) 3 iI (.int .i64 0) 1 8 Try.underlying24 HI0.out HI.out.1 HI.out.2.1 HI.out.2.2 rfl (by decide) _ (e) _ (by rfl) HS11.out.den ⟨k13,0,none⟩ 1 1 [.int .i64 (bD q e)] (by rfl) (by rfl) (World.news_of_block (cs:=#[.int .i64 (bD q e)]) (t:=3) (fr:=(0,0)) Hz12.out) (by simp [Value.oneCell']) (by omega) (by unfold maxLen; omega) (by omega) (HS11.out.lt) _ rfl ?_;intro g17 c18 V15 hown hgrow hat _;have HS16:=hid (HS11.out.appD (gg:=g17) hgrow hat (by rw [HFD.out]; exact hown));refine hK _ _ (fun _=>⟨zc HS16.out.blk 0,zc HS16.out.blk 1⟩) ?_;clear hK K hown hgrow hat;refine zd (fun K hK=>?_) ?_;have c0:=zc HS16.out.blk 0;have f0:=zi HS16.out.blk 0;simp only [List.getElem?_toArray,List.getElem?_cons_zero] at c0;go_simp;have HS20:=hid (HS16.out.setN (.slice (some ⟨g8,0,none⟩) (e+1) c9));refine hK _ _ (fun h=>Bool.noConfusion (Eq.trans (Eq.symm (by kernel_rfl:_=false)) h)) ?_;clear hK K c0 f0;generalize V15.setCell ⟨P,0,none⟩ (.slice (some ⟨g8,0,none⟩) (e+1) c9)=V19 at *;refine zg (fun K hK=>?_);go_simp;refine hK _ ?_;clear hK K;refine zd (fun K hK=>?_) ?_;have c0:=zc HS20.out.blk 1;have f0:=zi HS20.out.blk 1;simp only [List.getElem?_toArray,List.getElem?_cons_zero,List.getElem?_cons_succ] at c0;go_simp;have HS22:=hid (HS20.out.setD (.slice (some ⟨g17,0,none⟩) (e+1) c18));refine hK _ _ (fun h=>Bool.noConfusion (Eq.trans (Eq.symm (by kernel_rfl:_=false)) h)) ?_;clear hK K c0 f0;generalize V19.setCell ⟨P,1,none⟩ (.slice (some ⟨g17,0,none⟩) (e+1) c18)=V21 at *;refine zC ?_;go_wp2_with fail
   go_roundw
   case rel=>exact ⟨e+1,_,_,by omega,by go_num,HS22.out⟩
   case measure=>simp [intOf]; omega
   exact ze;exact ze;exact ze;exact ze;refine zd (fun K hK=>?_) ?_;go_simp;obtain ⟨y1,y2,hst⟩:=al1 V1 (.cells #[.int .i64 (bD q e)] 3);have HS24:=hid (HS2.out.step hst);have Hz28:=hid ((hst.block k4 (zw Hz3.out)).trans Hz3.out);have He27:=hid (show ∀ j,Value.ownBlock (.slice aN e cN)=some j→j≠V1.heap.size from fun j hj=>Nat.ne_of_lt (HS2.out.num.lt j hj).2);refine hK _ _ (fun _=>⟨zc HS24.out.blk 0,zc HS24.out.blk 1⟩) ?_;clear hK K;have Hz25:=hid y1;clear y1 y2 hst;generalize V1.alloc (.cells #[.int .i64 (bD q e)] 3)=V23 at *;generalize V1.heap.size=k26 at *;refine zd (fun K hK=>?_) ?_;refine zo rfl ?_;refine step_append_lies _ (by rfl) _ _ 24 (by rfl) (P+1) 3 iI (.int .i64 0) 1 8 Try.underlying24 HI0.out HI.out.1 HI.out.2.1 HI.out.2.2 rfl (by decide) _ (e) _ (by rfl) HS24.out.num ⟨k4,0,none⟩ 1 1 [.int .i64 (bN q e)] (by rfl) (by rfl) (World.news_of_block (cs:=#[.int .i64 (bN q e)]) (t:=3) (fr:=(0,0)) Hz28.out) (by simp [Value.oneCell']) (by omega) (by unfold maxLen; omega) (by omega) (HS24.out.lt) _ rfl ?_;intro g31 c32 V29 hown hgrow hat _;have HS30:=hid (HS24.out.appN (gg:=g31) hgrow hat (by rw [HFN.out]; exact hown));have Hz33:=hid ((hgrow.block k26 (zw Hz25.out) (fun e=>He27.out _ e.symm rfl)).trans Hz25.out);refine hK _ _ (fun _=>⟨zc HS30.out.blk 0,zc HS30.out.blk 1⟩) ?_;clear hK K hown hgrow hat;refine zg (fun K hK=>?_);go_simp;refine hK _ ?_;clear hK K;refine zd (fun K hK=>?_) ?_;refine zo rfl ?_;refine step_append_lies _ (by rfl) _ _ 24 (by rfl) (P+1) 3 iI (.int .i64 0) 1 8 Try.underlying24 HI0.out HI.out.1 HI.out.2.1 HI.out.2.2 rfl (by decide) _ (e) _ (by rfl) HS30.out.den ⟨k26,0,none⟩ 1 1 [.int .i64 (bD q e)] (by rfl) (by rfl) (World.news_of_block (cs:=#[.int .i64 (bD q e)]) (t:=3) (fr:=(0,0)) Hz33.out) (by simp [Value.oneCell']) (by omega) (by unfold maxLen; omega) (by omega) (HS30.out.lt) _ rfl ?_;intro g36 c37 V34 hown hgrow hat _;have HS35:=hid (HS30.out.appD (gg:=g36) hgrow hat (by rw [HFD.out]; exact hown));refine hK _ _ (fun _=>⟨zc HS35.out.blk 0,zc HS35.out.blk 1⟩) ?_;clear hK K hown hgrow hat;refine zd (fun K hK=>?_) ?_;have c0:=zc HS35.out.blk 0;have f0:=zi HS35.out.blk 0;simp only [List.getElem?_toArray,List.getElem?_cons_zero] at c0;go_simp;have HS39:=hid (HS35.out.setN (.slice (some ⟨g31,0,none⟩) (e+1) c32));refine hK _ _ (fun h=>Bool.noConfusion (Eq.trans (Eq.symm (by kernel_rfl:_=false)) h)) ?_;clear hK K c0 f0;generalize V34.setCell ⟨P,0,none⟩ (.slice (some ⟨g31,0,none⟩) (e+1) c32)=V38 at *;refine zg (fun K hK=>?_);go_simp;refine hK _ ?_;clear hK K;refine zd (fun K hK=>?_) ?_;have c0:=zc HS39.out.blk 1;have f0:=zi HS39.out.blk 1;simp only [List.getElem?_toArray,List.getElem?_cons_zero,List.getElem?_cons_succ] at c0;go_simp;have HS41:=hid (HS39.out.setD (.slice (some ⟨g36,0,none⟩) (e+1) c37));refine hK _ _ (fun h=>Bool.noConfusion (Eq.trans (Eq.symm (by kernel_rfl:_=false)) h)) ?_;clear hK K c0 f0;generalize V38.setCell ⟨P,1,none⟩ (.slice (some ⟨g36,0,none⟩) (e+1) c37)=V40 at *;refine zC ?_;go_wp2_with fail
   go_roundw
   case rel=>exact ⟨e+1,_,_,by omega,by go_num,HS41.out⟩
   case measure=>simp [intOf]; omega
   exact ze;exact ze;exact ze;exact ze;exact ze;refine zd (fun K hK=>?_) ?_;go_simp;obtain ⟨y1,y2,hst⟩:=al1 Z (.cells #[.int .i64 (bD q e)] 3);have HS43:=hid (HS0.out.step hst);have He46:=hid (show ∀ j,Value.ownBlock (.slice aN e cN)=some j→j≠Z.heap.size from fun j hj=>Nat.ne_of_lt (HS0.out.num.lt j hj).2);refine hK _ _ (fun _=>⟨zc HS43.out.blk 0,zc HS43.out.blk 1⟩) ?_;clear hK K;have Hz44:=hid y1;clear y1 y2 hst;generalize Z.alloc (.cells #[.int .i64 (bD q e)] 3)=V42 at *;generalize Z.heap.size=k45 at *;refine zd (fun K hK=>?_) ?_;go_simp;obtain ⟨y1,y2,hst⟩:=al1 V42 (.cells #[.int .i64 (bN q e)] 3);have HS48:=hid (HS43.out.step hst);have Hz52:=hid ((hst.block k45 (zw Hz44.out)).trans Hz44.out);have He51:=hid (show ∀ j,Value.ownBlock (.slice aN e cN)=some j→j≠V42.heap.size from fun j hj=>Nat.ne_of_lt (HS43.out.num.lt j hj).2);refine hK _ _ (fun _=>⟨zc HS48.out.blk 0,zc HS48.out.blk 1⟩) ?_;clear hK K;have Hz49:=hid y1;clear y1 y2 hst;generalize V42.alloc (.cells #[.int .i64 (bN q e)] 3)=V47 at *;generalize V42.heap.size=k50 at *;refine zd (fun K hK=>?_) ?_;refine zo rfl ?_;refine step_append_lies _ (by rfl) _ _ 24 (by rfl) (P+1) 3 iI (.int .i64 0) 1 8 Try.underlying24 HI0.out HI.out.1 HI.out.2.1 HI.out.2.2 rfl (by decide) _ (e) _ (by rfl) HS48.out.num ⟨k50,0,none⟩ 1 1 [.int .i64 (bN q e)] (by rfl) (by rfl) (World.news_of_block (cs:=#[.int .i64 (bN q e)]) (t:=3) (fr:=(0,0)) Hz49.out) (by simp [Value.oneCell']) (by omega) (by unfold maxLen; omega) (by omega) (HS48.out.lt) _ rfl ?_;intro g55 c56 V53 hown hgrow hat _;have HS54:=hid (HS48.out.appN (gg:=g55) hgrow hat (by rw [HFN.out]; exact hown));have Hz57:=hid ((hgrow.block k45 (zw Hz52.out) (fun e=>He46.out _ e.symm rfl)).trans Hz52.out);refine hK _ _ (fun _=>⟨zc HS54.out.blk 0,zc HS54.out.blk 1⟩) ?_;clear hK K hown hgrow hat;refine zg (fun K hK=>?_);go_simp;refine hK _ ?_;clear hK K;refine zd (fun K hK=>?_) ?_;refine zo rfl ?_;refine step_append_lies _ (by rfl) _ _ 24 (by rfl) (P+1) 3 iI (.int .i64 0) 1 8 Try.underlying24 HI0.out HI.out.1 HI.out.2.1 HI.out.2.2 rfl (by decide) _ (e) _ (by rfl) HS54.out.den ⟨k45,0,none⟩ 1 1 [.int .i64 (bD q e)] (by rfl) (by rfl) (World.news_of_block (cs:=#[.int .i64 (bD q e)]) (t:=3) (fr:=(0,0)) Hz57.out) (by simp [Value.oneCell']) (by omega) (by unfold maxLen; omega) (by omega) (HS54.out.lt) _ rfl ?_;intro g60 c61 V58 hown hgrow hat _;have HS59:=hid (HS54.out.appD (gg:=g60) hgrow hat (by rw [HFD.out]; exact hown));refine hK _ _ (fun _=>⟨zc HS59.out.blk 0,zc HS59.out.blk 1⟩) ?_;clear hK K hown hgrow hat;refine zd (fun K hK=>?_) ?_;have c0:=zc HS59.out.blk 0;have f0:=zi HS59.out.blk 0;simp only [List.getElem?_toArray,List.getElem?_cons_zero] at c0;go_simp;have HS63:=hid (HS59.out.setN (.slice (some ⟨g55,0,none⟩) (e+1) c56));refine hK _ _ (fun h=>Bool.noConfusion (Eq.trans (Eq.symm (by kernel_rfl:_=false)) h)) ?_;clear hK K c0 f0;generalize V58.setCell ⟨P,0,none⟩ (.slice (some ⟨g55,0,none⟩) (e+1) c56)=V62 at *;refine zg (fun K hK=>?_);go_simp;refine hK _ ?_;clear hK K;refine zd (fun K hK=>?_) ?_;have c0:=zc HS63.out.blk 1;have f0:=zi HS63.out.blk 1;simp only [List.getElem?_toArray,List.getElem?_cons_zero,List.getElem?_cons_succ] at c0;go_simp;have HS65:=hid (HS63.out.setD (.slice (some ⟨g60,0,none⟩) (e+1) c61));refine hK _ _ (fun h=>Bool.noConfusion (Eq.trans (Eq.symm (by kernel_rfl:_=false)) h)) ?_;clear hK K c0 f0;generalize V62.setCell ⟨P,1,none⟩ (.slice (some ⟨g60,0,none⟩) (e+1) c61)=V64 at *;refine zC ?_;go_wp2_with fail
   go_roundw
   case rel=>exact ⟨e+1,_,_,by omega,by go_num,HS65.out⟩
   case measure=>simp [intOf]; omega
   exact ze;exact ze;exact ze;exact ze;exact ze;exact ze
  ·obtain rfl:e=q+1:=by omega
   obtain ⟨gN,rfl⟩:∃ b,aN=some ⟨b,0,none⟩:=by
    rcases hS.num.2 with ⟨hv,h0⟩ | ⟨b,c,cur,hv,-⟩
    ·simp at hv
    ·simp only [Value.slice.injEq] at hv;exact ⟨b,hv.1⟩
   obtain ⟨gD,rfl⟩:∃ b,aD=some ⟨b,0,none⟩:=by
    rcases hS.den.2 with ⟨hv,h0⟩ | ⟨b,c,cur,hv,-⟩
    ·simp at hv
    ·simp only [Value.slice.injEq] at hv;exact ⟨b,hv.1⟩
   have hlN:=hS.num.lt gN rfl;have hlD:=hS.den.lt gD rfl;have HW:=hid (show zm wr (P+1) gN (q+1) cN (bN q)∧zm wr (P+1) gD (q+1) cD (bD q)∧wr.heap[P]? = some (.cells #[.slice (some ⟨gN,0,none⟩) (q+1) cN,.slice (some ⟨gD,0,none⟩) (q+1) cD] 29)∧Below P X wr from ⟨⟨_,hS.num,fun j hj=>yd _ hj⟩,⟨_,hS.den,fun j hj=>yd _ hj⟩,hS.blk,hS.bel⟩);have j1:¬ ((q+1:Nat):Int)≤(q:Int):=by omega
   clear hS HS;have hPX:=HPX.out;have hbX:Below X0.heap.size X0 wr:=HB1.out.trans (HW.out.2.2.2.mono hBp);have hRB:=(hbX.block B (by omega)).trans HX.out;have hrow:=xv hRB #[.slice (some ⟨gN,0,none⟩) (q+1) cN,.slice (some ⟨gD,0,none⟩) (q+1) cD];have HRX:=hid hRB;have HRR:=hid hrow.2.1;have HKR:=hid hrow.1;have HBF:=hid (HBX.out.trans (hbX.mono (by omega)));clear hRB hrow hbX hPX
   go_wp2_with (first
    | (refine wpList_load_row rfl 29 _ rfl P rfl 29 #[.slice (some ⟨gN,0,none⟩) (q+1) cN,.slice (some ⟨gD,0,none⟩) (q+1) cD] _ _ HW.out.2.2.1 Try.underlying29 rfl (by kernel_rfl) ?_)
    | (refine wpList_store_row rfl 29 _ _ rfl B #[.slice (some ⟨gN,0,none⟩) (q+1) cN,.slice (some ⟨gD,0,none⟩) (q+1) cD] rfl rfl 29 _ HRX.out (by kernel_rfl) rfl (by simp [Value.oneCell']) ?_)
    | fail)
   refine yU 2 29 Try.results16 B 29 #[.slice (some ⟨gN,0,none⟩) (q+1) cN,.slice (some ⟨gD,0,none⟩) (q+1) cD] _ rfl HRR.out Try.underlying29 rfl (by kernel_rfl) rfl ?_;refine ⟨_,rfl,⟨rfl,gN,gD,cN,cD,rfl,?_,?_⟩,hB ▸ HKR.out.below HBF.out (Nat.le_refl B) (by have:=HBF.out.size; omega)⟩
   ·exact ((HW.out.1.base (b':=B) (by omega)).kept (HKR.out.block gN (HW.out.1.lt.2) (by omega)))
   ·exact ((HW.out.2.1.base (b':=B) (by omega)).kept (HKR.out.block gD (HW.out.2.1.lt.2) (by omega)))
theorem yC.congr {t:Nat} {w:World} {base n:Nat} {v:Value} {f g f2 g2:Nat→Int} (h:yC t w base v n f g) (e:∀ i,i<n→f i=f2 i∧g i=g2 i):yC t w base v n f2 g2:=by
 obtain ⟨h0,A,C,a,c,rfl,h1,h2⟩:=h;exact ⟨h0,A,C,a,c,rfl,h1.congr (fun i hi=>(e i hi).1),h2.congr (fun i hi=>(e i hi).2)⟩
theorem xV:∀ (q:Fin 6) (i:Fin 6),1≤q.val→raN q.val i.val=exN 0 q.val i.val∧raD q.val i.val=exD 0 q.val i.val∨q.val<i.val:=by decide +kernel
theorem x8:∀ (q:Fin 5) (i:Fin 6),1≤q.val→bN q.val i.val=exN 1 q.val i.val∧bD q.val i.val=exD 1 q.val i.val:=by decide +kernel
theorem yP {m q:Nat} (hm:m<2) (h1:1≤q) (h5:q+m≤5) (w:World) :
  Calls Try.prog 7 #[.int .i64 m,.int .i64 q] w fun e w'=>∃ v,e=.returned (.tuple #[v,.bool true])∧yC 0 w' w.heap.size v (q+1) (exN m q) (exD m q)∧Below w.heap.size w w':=by
 have PA:=hid (fun W=>yO q h1 (by omega) W);have PB:=hid (fun W=>yZ q h1 (by omega) W);have AL:=al1 w (.cells #[.slice none 0 0,.slice none 0 0] 29);go_enter Try.func7,Try.ntmps7;go_upto_region 1 with fail
 generalize w.alloc (.cells #[.slice none 0 0,.slice none 0 0] 29)=X at *;generalize hB:w.heap.size=B at *;obtain ⟨x1,x2,x3⟩:=AL;have HX:=hid x1;have HBX:=hid x3;clear x1 x3;have j1:(1:Int)≤(q:Int):=by omega
 have j0:1≤q:=h1;have j3:0<q:=h1;rcases (show m=0∨m=1 by omega) with rfl | rfl
 ·have j2:(q:Int)≤5:=by omega
  have j4:q≤5:=by omega
  go_wp2_with fail;refine (PA.out X).mono ?_;rintro e w2 ⟨v,rfl,ho,hb⟩
  replace ho:=ho.congr (f2:=exN 0 q) (g2:=exD 0 q) (fun i hi=>by
   rcases xV ⟨q,by omega⟩ ⟨i,by omega⟩ h1 with h | h
   ·exact h
   ·have h':q<i:=h;omega)
  obtain ⟨-,A,C,a,c,rfl,hA,hC⟩:=ho;have hr:=(hb.block B (by omega)).trans HX.out;have c0:=zc hr 0;have c1:=zc hr 1;have f0:=zi hr 0;have f1:=zi hr 1;simp only [List.getElem?_toArray,List.getElem?_cons_zero,List.getElem?_cons_succ] at c0 c1;have hlA:=hA.lt;have hlC:=hC.lt
  have HF:=hid (show zm ((w2.setCell ⟨B,0,none⟩ (.slice (some ⟨A,0,none⟩) (q+1) a)).setCell ⟨B,1,none⟩ (.slice (some ⟨C,0,none⟩) (q+1) c)) B A (q+1) a _∧zm ((w2.setCell ⟨B,0,none⟩ (.slice (some ⟨A,0,none⟩) (q+1) a)).setCell ⟨B,1,none⟩ (.slice (some ⟨C,0,none⟩) (q+1) c)) B C (q+1) c _∧Below B w ((w2.setCell ⟨B,0,none⟩ (.slice (some ⟨A,0,none⟩) (q+1) a)).setCell ⟨B,1,none⟩ (.slice (some ⟨C,0,none⟩) (q+1) c)) from
   ⟨((hA.base (b':=B) (by omega)).other (by omega) _).other (by omega) _,((hC.base (b':=B) (by omega)).other (by omega) _).other (by omega) _,((HBX.out.trans (hb.mono (by omega))).setCell (p:=⟨B,0,none⟩) (Nat.le_refl B) _).setCell (p:=⟨B,1,none⟩) (Nat.le_refl B) _⟩)
  have e0:=zc (zy (o:=1) (zy (o:=0) hr (.slice (some ⟨A,0,none⟩) (q+1) a)) (.slice (some ⟨C,0,none⟩) (q+1) c)) 0;have e1:=zc (zy (o:=1) (zy (o:=0) hr (.slice (some ⟨A,0,none⟩) (q+1) a)) (.slice (some ⟨C,0,none⟩) (q+1) c)) 1
  replace e0:_=some (Value.slice (some ⟨A,0,none⟩) (q+1) a):=e0
  replace e1:_=some (Value.slice (some ⟨C,0,none⟩) (q+1) c):=e1
  clear hA hC hr hb hlA hlC;go_wp2_with fail;exact bodyPost_ret (v:=.tuple #[.agg #[.slice (some ⟨A,0,none⟩) (q+1) a,.slice (some ⟨C,0,none⟩) (q+1) c],.bool true]) (by simp [results,Try.results7,go_sem,e0,e1]) rfl ⟨_,rfl,⟨rfl,A,C,a,c,rfl,hB ▸ HF.out.1,hB ▸ HF.out.2.1⟩,hB ▸ HF.out.2.2⟩
 ·have j2:(q:Int)≤4:=by omega
  have j4:q≤4:=by omega
  go_wp2_with fail;refine (PB.out X).mono ?_;rintro e w2 ⟨v,rfl,ho,hb⟩
  replace ho:=ho.congr (f2:=exN 1 q) (g2:=exD 1 q) (fun i hi=>x8 ⟨q,by omega⟩ ⟨i,by omega⟩ h1)
  obtain ⟨-,A,C,a,c,rfl,hA,hC⟩:=ho;have hr:=(hb.block B (by omega)).trans HX.out;have c0:=zc hr 0;have c1:=zc hr 1;have f0:=zi hr 0;have f1:=zi hr 1;simp only [List.getElem?_toArray,List.getElem?_cons_zero,List.getElem?_cons_succ] at c0 c1;have hlA:=hA.lt;have hlC:=hC.lt
  have HF:=hid (show zm ((w2.setCell ⟨B,0,none⟩ (.slice (some ⟨A,0,none⟩) (q+1) a)).setCell ⟨B,1,none⟩ (.slice (some ⟨C,0,none⟩) (q+1) c)) B A (q+1) a _∧zm ((w2.setCell ⟨B,0,none⟩ (.slice (some ⟨A,0,none⟩) (q+1) a)).setCell ⟨B,1,none⟩ (.slice (some ⟨C,0,none⟩) (q+1) c)) B C (q+1) c _∧Below B w ((w2.setCell ⟨B,0,none⟩ (.slice (some ⟨A,0,none⟩) (q+1) a)).setCell ⟨B,1,none⟩ (.slice (some ⟨C,0,none⟩) (q+1) c)) from
   ⟨((hA.base (b':=B) (by omega)).other (by omega) _).other (by omega) _,((hC.base (b':=B) (by omega)).other (by omega) _).other (by omega) _,((HBX.out.trans (hb.mono (by omega))).setCell (p:=⟨B,0,none⟩) (Nat.le_refl B) _).setCell (p:=⟨B,1,none⟩) (Nat.le_refl B) _⟩)
  have e0:=zc (zy (o:=1) (zy (o:=0) hr (.slice (some ⟨A,0,none⟩) (q+1) a)) (.slice (some ⟨C,0,none⟩) (q+1) c)) 0;have e1:=zc (zy (o:=1) (zy (o:=0) hr (.slice (some ⟨A,0,none⟩) (q+1) a)) (.slice (some ⟨C,0,none⟩) (q+1) c)) 1
  replace e0:_=some (Value.slice (some ⟨A,0,none⟩) (q+1) a):=e0
  replace e1:_=some (Value.slice (some ⟨C,0,none⟩) (q+1) c):=e1
  clear hA hC hr hb hlA hlC;go_wp2_with fail;exact bodyPost_ret (v:=.tuple #[.agg #[.slice (some ⟨A,0,none⟩) (q+1) a,.slice (some ⟨C,0,none⟩) (q+1) c],.bool true]) (by simp [results,Try.results7,go_sem,e0,e1]) rfl ⟨_,rfl,⟨rfl,A,C,a,c,rfl,hB ▸ HF.out.1,hB ▸ HF.out.2.1⟩,hB ▸ HF.out.2.2⟩
theorem x9 {m q:Nat} (hm:m<2) (h1:1≤q) (h5:q+m≤5) (w:World) :
  Calls Try.prog 9 #[.int .i64 m,.int .i64 q] w fun e w'=>∃ v,e=.returned (.tuple #[v,.bool true])∧yF w' v (q+1) (coF m q)∧Below w.heap.size w w':=by
 obtain ⟨iF,hF,g1,g2,g3⟩:=info_parts wO;have HF:=hid (show iF.zero=_∧iF.size=_∧iF.bytes=_ from ⟨g1,g2,g3⟩);have HF0:=hid hF;clear hF g1 g2 g3;have EX:=hid (yP hm h1 h5 w);go_enter Try.func9,Try.ntmps9;generalize hB:w.heap.size=B at *;go_wp2_with fail;refine EX.out.mono ?_;rintro e w1 ⟨v,rfl,⟨-,A,C,a,c,rfl,hA,hC⟩,hb⟩;have AL:=hid (al1 w1 (.cells #[.slice (some ⟨A,0,none⟩) (q+1) a,.slice (some ⟨C,0,none⟩) (q+1) c] 29));have HA:=hid hA;have HC:=hid hC;have HB1:=hid hb;clear hA hC hb;go_upto_region 2 with fail
 generalize w1.alloc (.cells #[.slice (some ⟨A,0,none⟩) (q+1) a,.slice (some ⟨C,0,none⟩) (q+1) c] 29)=X at *;generalize hP:w1.heap.size=P at *;obtain ⟨x1,x2,x3⟩:=AL.out;have HX:=hid x1;have HAX:=hid (HA.out.below x3 (hP ▸ HA.out.lt.2));have HCX:=hid (HC.out.below x3 (hP ▸ HC.out.lt.2));have hB1:B≤P:=by have:=HB1.out.size; omega
 have HBX:=hid (HB1.out.trans (x3.mono hB1));have hPX:P<X.heap.size:=by omega
 have hAl:=HAX.out.lt;have hCl:=HCX.out.lt;clear x1 x2 x3 AL HA HC HB1;go_wp2_with fail
 go_loopw [8,9] (fun v i wr=>∃ (e:Nat) (qs:List Value),e≤q+1∧i=.int .i64 e∧wr.ownsRow X.heap.size 38 1 v e qs∧yg qs e (coF m q)∧Below X.heap.size X wr) (fun _ i _=>q+1-(intOf i).toNat)
 case atStart=>exact ⟨0,[],by omega,rfl,World.ownsRow_nil _ _ _ _,fun j hj=>by omega,Below.refl _ _⟩
 case round=>
  obtain ⟨e,qs,he,rfl,ho,hv,hb⟩:=hrel;obtain ⟨va,vc,rfl⟩:=z8 ho;have HO:=hid ho;have HV:=hid hv;have HB2:=hid hb;have hp:=(hb.block P hPX).trans HX.out;have p0:=zc hp 0;have p1:=zc hp 1;simp only [List.getElem?_toArray,List.getElem?_cons_zero,List.getElem?_cons_succ] at p0 p1;by_cases hen:e<q+1
  ·have j1:(e:Int)<(q:Int)+1:=by omega
   have u1:=(hb.cell (p:=⟨A,e,none⟩) (show A<_ by omega)).trans (HAX.out.cell hen);have u2:=(hb.cell (p:=⟨C,e,none⟩) (show C<_ by omega)).trans (HCX.out.cell hen);obtain ⟨n1,n2⟩:=xU (xZ ⟨m,hm⟩ ⟨q,by omega⟩ ⟨e,by omega⟩ h1);simp only [] at n1 n2;have n1':∀ w,yr .quo w (floatOfInt .f64 (exN m q e)) (floatOfInt .f64 (exD m q e))=coF m q e:=n1;have hcn:zu (coF m q e)=coF m q e:=xD _ _ _;have hcl:coF m q e<18446744073709551616:=x5 _ _ _;have hws:=hb.size;clear ho hv hb hp n1;go_upto_region 8 with fail
   refine z5 [(0,1),(1,1),(2,3),(3,1),(4,1),(5,3),(6,1),(7,1),(8,3),(9,1),(10,1),(11,3),(12,1),(13,1),(14,0),(15,0),(16,1)] (fun W=>W.cell? ⟨P,0,none⟩=some (.slice (some ⟨A,0,none⟩) (q+1) a)∧W.cell? ⟨A,e,none⟩=some (.int .i64 (exN m q e))∧W.cell? ⟨P,1,none⟩=some (.slice (some ⟨C,0,none⟩) (q+1) c)∧W.cell? ⟨C,e,none⟩=some (.int .i64 (exD m q e))) (by kernel_rfl) (by kernel_rfl) (fun _ _ d _ _ h=>by cases d<;>exact h) (⟨p0,u1,p1,u2⟩) ?_;intro Z hZ hrZ;have hbZ:Below wr.heap.size wr Z:=by rw [hZ]; exact (Below.refl _ _).drew
   have hOZ:=yn HO.out hbZ;have hZs:=hbZ.size;clear hZ p0 u1 p1 u2 HO
   iterate 2
    first
     | refine zj (fun K hK=>?_)
     | refine zk (fun K hK=>?_)
    go_simp;refine hK _ ?_;clear hK K
   refine z6 (v:=.slice (some ⟨A,0,none⟩) (q+1) a) rfl rfl (fun wk hwk=>?_) ?_
   ·obtain ⟨k1,k2,k3,k4⟩:=hwk;go_simp
   iterate 2
    first
     | refine zj (fun K hK=>?_)
     | refine zk (fun K hK=>?_)
    go_simp;refine hK _ ?_;clear hK K
   refine z6 (v:=.int .i64 (exN m q e)) rfl rfl (fun wk hwk=>?_) ?_
   ·obtain ⟨k1,k2,k3,k4⟩:=hwk;go_simp
   iterate 2
    first
     | refine zj (fun K hK=>?_)
     | refine zk (fun K hK=>?_)
    go_simp;refine hK _ ?_;clear hK K
   refine z6 (v:=.slice (some ⟨C,0,none⟩) (q+1) c) rfl rfl (fun wk hwk=>?_) ?_
   ·obtain ⟨k1,k2,k3,k4⟩:=hwk;go_simp
   iterate 2
    first
     | refine zj (fun K hK=>?_)
     | refine zk (fun K hK=>?_)
    go_simp;refine hK _ ?_;clear hK K
   refine z6 (v:=.int .i64 (exD m q e)) rfl rfl (fun wk hwk=>?_) ?_
   ·obtain ⟨k1,k2,k3,k4⟩:=hwk;go_simp
   iterate 1
    first
     | refine zj (fun K hK=>?_)
     | refine zk (fun K hK=>?_)
    go_simp;refine hK _ ?_;clear hK K
   refine zj (fun K hK=>?_);go_simp;refine ⟨_,fun _=>⟨rfl,rfl⟩,hK _ ?_⟩;clear hK K;obtain ⟨y1,y2,y3⟩:=al1 Z (.cells #[.float .f64 (coF m q e)] 38);have q1:=(y3.cell (p:=⟨P,0,none⟩) (show P<_ by omega)).trans hrZ.1;have q2:=(y3.cell (p:=⟨A,e,none⟩) (show A<_ by omega)).trans hrZ.2.1;have q3:=(y3.cell (p:=⟨P,1,none⟩) (show P<_ by omega)).trans hrZ.2.2.1;have q4:=(y3.cell (p:=⟨C,e,none⟩) (show C<_ by omega)).trans hrZ.2.2.2;refine zZ (fun K hK=>?_);go_simp;refine hK _ _ (fun h=>Bool.noConfusion (Eq.trans (Eq.symm (by kernel_rfl:_=false)) h)) (fun _=>⟨q1,q2,q3,q4⟩) ?_;clear hK K;have hOA:=yn hOZ y3;refine zZ (fun K hK=>?_);refine zo rfl ?_;refine step_append_lies _ (by rfl) _ _ 32 (by rfl) X.heap.size 38 iF (.float .f64 0) 1 8 Try.underlying32 HF0.out HF.out.1 HF.out.2.1 HF.out.2.2 rfl (by decide) _ e qs (by rfl) hOA ⟨Z.heap.size,0,none⟩ 1 1 [.float .f64 (coF m q e)] (by rfl) (by rfl) (World.news_of_block (cs:=#[.float .f64 (coF m q e)]) (t:=38) (fr:=(0,0)) y1) (by simp [Value.oneCell']) (by omega) (by unfold maxLen; omega) (by omega) (by omega) (Z.heap.size+1) y2 ?_;intro gg cap1 wn hown1 hgrow hat hlt1;have hne:∀ b,b<X.heap.size→some b≠(Value.slice va e vc).ownBlock:=fun b hb e2=>by have:=(hOA.lt b e2.symm).1; omega
   have z1:=hgrow.cell q1 (hne P (by omega));have z2:=hgrow.cell q2 (hne A (by omega));have z3:=hgrow.cell q3 (hne P (by omega));have z4:=hgrow.cell q4 (hne C (by omega));have HN:=hid (show wn.ownsRow X.heap.size 38 1 (.slice (some ⟨gg,0,none⟩) (e+1) cap1) (e+1) _∧yg _ (e+1) (coF m q)∧Below X.heap.size X wn from ⟨hown1,yg.app HV.out (by have:=hOA.1; omega) hcn hcl,(HB2.out.trans (hbZ.mono hws)).trans ((y3.mono (by omega)).trans ((Below.refl _ _).grown hgrow (by omega) (fun k hk=>(hOA.lt k hk).1)))⟩);refine hK _ _ (fun h=>Bool.noConfusion (Eq.trans (Eq.symm (by kernel_rfl:_=false)) h)) (fun _=>⟨z1,z2,z3,z4⟩) ?_;clear hK K hown1 hgrow hat hlt1 hOA hOZ q1 q2 q3 q4 z1 z2 z3 z4 hbZ hrZ y1 y2 y3 hne HV HB2
   iterate 1
    first
     | refine zj (fun K hK=>?_)
     | refine zk (fun K hK=>?_)
    go_simp;refine hK _ ?_;clear hK K
   refine zQ ?_;go_wp2_with fail
   go_roundw
   case rel=>exact ⟨e+1,_,by omega,by go_num,HN.out⟩
   case measure=>simp [intOf]; omega
  ·obtain rfl:e=q+1:=by omega
   obtain ⟨R2,c2,e2,hof⟩:=yg.own (show yg qs (q+1) (coF m q) from hv) ho (by omega);have HR:=hid (show yF wr (.slice va (q+1) vc) (q+1) (coF m q) by rw [e2]; exact hof.flts (by omega));clear e2 hof;have HBF:=hid (HBX.out.trans (hb.mono (by omega)));clear ho hv hb hp p1;go_wp2_with fail;exact bodyPost_ret (v:=.tuple #[.slice va (q+1) vc,.bool true]) (by simp [results,Try.results9,go_sem]) rfl ⟨_,rfl,HR.out,hB ▸ HBF.out⟩
end Go.Proofs.Ytfcjfijmdikcmaa
