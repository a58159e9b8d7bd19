/-
  Contracts (what a function tells) and plain facts that a law's proof hangs on, for every input; no condition but those in their statements. Laid together of the texts Czb.
-/
import Derived.Test.YtnlbafjmbamoeaaGreatQl
namespace Go.Proofs.YtnlbafjmbamoeaaGreat
open Go.RowKit Lib
open Ieee (double)
attribute [local go_sem] zr zi zy zn zU zS zW zX zV zY zD zH zI zJ zK zB ye z8 zF yE zN zQ zR
def LuK (n H G2 R2 cg2:Nat) (g:Nat→Nat→Nat) (q:Nat→Nat) (w:World):Prop:=0<n∧∃ H' blk cap,H≤H'∧yD w H' G2 n n blk cap g∧yh w H' R2 n cg2 fun i=>(q i:Int)
theorem LuK.below {n H G2 R2 cg2:Nat} {g:Nat→Nat→Nat} {q:Nat→Nat} {w w':World} (h:LuK n H G2 R2 cg2 g q w) (hb:Below w.heap.size w w'):LuK n H G2 R2 cg2 g q w':=by
 obtain ⟨h0,H',blk,cap,h1,h2,h3⟩:=h;exact ⟨h0,H',blk,cap,h1,h2.below hb,h3.below hb h3.lt.2⟩
theorem LuK.put {n H G2 R2 cg2 P:Nat} {g:Nat→Nat→Nat} {q:Nat→Nat} {X W:World} {cs:Array Value} {t:TypeId} (h:LuK n H G2 R2 cg2 g q X) (hz:X.heap[P]? = some (.cells cs t)) (hk:zM X P W) (h1:cs[0]? = some (.slice none 0 0)) (h2:(t==31 || t==3)=false):LuK n H G2 R2 cg2 g q W:=by
 obtain ⟨h0,H',blk,cap,hH,hg,hi⟩:=h;simp only [Bool.or_eq_false_iff,beq_eq_false_iff_ne] at h2
 have n1:G2≠P:=fun e=>by
  have e1:=hg.ref 0 h0;rw [e,zf hz,h1] at e1;simp at e1
 have n2:∀ i,i<n→blk i≠P:=fun i hi e=>by
  obtain ⟨rs,r1,-⟩:=hg.row i hi;obtain ⟨arr,r2⟩:=xN r1;rw [e,hz] at r2;simp only [Option.some.injEq,Obj.cells.injEq] at r2;exact h2.1 r2.2.1
 have n3:R2≠P:=fun e=>by
  obtain ⟨rs,r1,-⟩:=hi;obtain ⟨arr,r2⟩:=xN r1;rw [e,hz] at r2;simp only [Option.some.injEq,Obj.cells.injEq] at r2;exact h2.2 r2.2.1
 have hG:=hk.block G2 hg.hi n1;exact ⟨h0,H',blk,cap,hH,⟨fun i hi=>(World.cell?_of_block (a:=⟨G2,i,none⟩) hG).trans (hg.ref i hi),fun i hi=>(World.frozen?_of_block (a:=⟨G2,i,none⟩) hG).trans (hg.free i hi),fun i hi=>(hg.row i hi).kept (hk.block _ (hg.row i hi).lt.2 (n2 i hi)),hg.inj,hg.off,hg.lo,Nat.lt_of_lt_of_le hg.hi hk.size⟩,hi.kept (hk.block R2 hi.lt.2 n3)⟩
set_option maxRecDepth 100000
set_option maxHeartbeats 16000000
theorem mm (n:Nat) (T:TD) (vo vu vz vl vw:Value) (m:Nat) (t:Int) (z:Nat→Nat→Nat) (l wt:Nat→Nat) (w:World) (hx:xT w n T vo vu vz vl vw m z l wt)
  (hck:yq T=true) (hcs:∀ i,i<T.len→(T.op i).c<18446744073709551616) (hn:T.n=n) (h1:1≤n) (h4:n≤4) (hm:2≤m) :
  Calls Tryz.prog 27 #[.agg #[.int .i64 n,vo,vu],vz,vl,.int .i64 t,.int .i64 1,vw] w (lm n (y9 T z wt (l 0) (xh t) n true) w):=by
 obtain ⟨bl,ol,cl,rfl,hbl',hl⟩:=hx.lrow.numAt (by omega);obtain ⟨y0,ly1,ly2,ly3⟩:=hl 0 (by omega);rw [Nat.add_zero] at ly1;obtain ⟨bz,oz,cz,rfl,-,-⟩:=hx.tab.rowAt (by omega);obtain ⟨bw,ow,cw,rfl,-,-⟩:=hx.wrow.numAt (by omega);have hm0:0<m:=by omega
 have HX:=hid hx;have HCK:=hid hck;have HCS:=hid hcs;obtain ⟨iF,hF,f1,f2,f3⟩:=info_parts xu;have HF:=hid (show iF.zero=_∧iF.size=_∧iF.bytes=_ from ⟨f1,f2,f3⟩);have HF0:=hid hF;have LY2:=hid ly2;clear hx hck hcs hF f1 f2 f3 hl ly2;have AL:=al2 w (.cells #[.int .i64 n,vo,vu] 28) (.cells #[.slice none 0 0,.int .i64 0,.int .i64 0] 60);go_enter Tryz.func27,Tryz.ntmps27;go_upto_region 1 with fail
 generalize hB:w.heap.size=B at *;generalize (w.alloc (.cells #[.int .i64 n,vo,vu] 28)).alloc (.cells #[.slice none 0 0,.int .i64 0,.int .i64 0] 60)=X at *;obtain ⟨x1,x2,x4,x5⟩:=AL;have HX1:=hid x1;have HX2:=hid x2;clear x1 x2;go_wp2_with fail;refine (ve t X).mono ?_;rintro e w1 ⟨h,nd,rfl,y1,y2,rfl⟩;have Y1:=hid y1;have hbX:Below X.heap.size X (X.drewN nd):=below_drewN (Below.refl _ _) nd;have hp0:=(hbX.cell (p:=⟨B,0,none⟩) (by show B<X.heap.size; omega)).trans (zf HX1.out 0);simp only [List.getElem?_toArray,List.getElem?_cons_zero] at hp0;have hpl:B<(X.drewN nd).heap.size:=by show B<X.heap.size; omega
 have hXs:(X.drewN nd).heap.size=B+2:=x4;have HBX:=hid hbX;have HXS:=hid hXs;clear y1 hbX hXs;generalize X.drewN nd=X1 at *
 go_wp2_with (first
  | (refine wpList_make_full _ rfl _ _ _ rfl (B+2) 31 iF (.float .f64 0) 1 Tryz.underlying30 HF0.out HF.out.1 HF.out.2.1 .i64 .i64 (n:Int) (n:Int) n rfl rfl rfl rfl (by rw [HF.out.2.2]; omega) (by unfold maxLen; omega) (by rw [HXS.out]; exact Nat.le_refl _) ?_)
  | fail)
 intro w2 hr2 hg2;have hb2:Below (B+2) X1 w2:=(Below.refl _ _).grown hg2 (by have:=HXS.out; omega) (fun k hk=>by cases hk);have HO2:=hid (yI hr2);have HB2:=hid ((HBX.out.mono (show B+2≤X.heap.size by omega)).trans hb2);clear hr2 hg2 hb2 hp0 hpl;go_upto_region 4 with fail
 have LA:=hid (al1 w2 (.cells #[.slice none 0 0,.slice none 0 0] 94));have HB3:=hid (HB2.out.trans (LA.out.2.2.mono (by have:=HB2.out.size; omega)));have HO3:=hid (HO2.out.below LA.out.2.2 HO2.out.lt.2);have HL3:=hid LA.out.1;have hLBs:B+2<w2.heap.size:=by have:=HO2.out.lt; rw [HXS.out] at this; omega
 have hL3s:w2.heap.size<(w2.alloc (.cells #[.slice none 0 0,.slice none 0 0] 94)).heap.size:=by have:=LA.out.2.1; omega
 clear LA HO2;generalize hLBe:w2.heap.size=LB at *;generalize w2.alloc (.cells #[.slice none 0 0,.slice none 0 0] 94)=W at *;have HXW:=hid (HX.out.below (show Below w.heap.size w W by rw [hB]; exact x5.trans (HB3.out.mono (by omega))));have p0:=(HB3.out.cell (p:=⟨B,0,none⟩) (by show B<B+2; omega)).trans (zf HX1.out 0);have p1:=(HB3.out.cell (p:=⟨B,1,none⟩) (by show B<B+2; omega)).trans (zf HX1.out 1);have p2:=(HB3.out.cell (p:=⟨B,2,none⟩) (by show B<B+2; omega)).trans (zf HX1.out 2);simp only [List.getElem?_toArray,List.getElem?_cons_zero,List.getElem?_cons_succ] at p0 p1 p2;have hpl:B<W.heap.size:=by omega
 have lyW:=(HB3.out.cell (p:=⟨bl,ol,none⟩) (by show bl<B+2; omega)).trans ((x5.cell (p:=⟨bl,ol,none⟩) hbl').trans ly1);have hblW:bl<W.heap.size:=by omega
 cases hp:yU (wF T (z 0) y0 h) n n with
 | none=>
  have NT:=hid (fun (V:World) (hb:Below W.heap.size W V)=>(show Calls Tryz.prog 53 #[.agg #[.int .i64 n,vo,vu],.slice (some ⟨bz,oz,none⟩) m cz,.float .f64 y0,.float .f64 h] V (fun e w'=>Below V.heap.size V w'∧e=.returned (.tuple #[.agg #[.slice none 0 0,.slice none 0 0],.bool false])) from by
   have hh:=tE n T vo vu _ m z y0 h V (HXW.out.tape.below hb) (HXW.out.tab.below hb) HCK.out HCS.out hn h1 h4 hm;rw [hp] at hh;exact hh))
  go_upto_region 5 with fail
  go_cut [16,17] (fun a b wx=>∃ P,a=.pointer (some ⟨P,0,none⟩)∧b=.bool false∧Below W.heap.size W wx)
  case first=>
   refine yM (.op 0 3 (.op 1 1 (.op 2 1 (.op 3 1 (.op 4 3 (.op 5 1 (.alt 6 (.op 7 1 (.op 8 1 (.op 9 1 (.alt 10 (.alt 11 (.op 12 1 .nil) .stop) .stop)))) (.alt 10 (.alt 6 (.op 7 1 (.op 8 1 (.op 9 1 (.alt 11 (.op 12 1 .nil) .stop)))) .stop) .stop)))))))) [6,10,11] [0,4] (fun W'=>Below W.heap.size W W') (by kernel_rfl) (by kernel_rfl) (fun _ _ d _ _ h=>by cases d<;>exact h) ((Below.refl _ _).drew) ?_;intro Z hZ hbZ;clear hZ;refine yg (v:=.agg #[.int .i64 n,vo,vu]) rfl rfl (fun wk hwk=>?_) ?_
   ·rw [← (zA hwk).1 _ _ hpl] at p0 p1 p2;go_simp
   refine zu (fun K hK=>?_);go_simp;refine hK _ ?_;clear hK K;refine zu (fun K hK=>?_);go_simp;refine hK _ ?_;clear hK K;refine zu (fun K hK=>?_);go_simp;refine hK _ ?_;clear hK K;refine yg (v:=.float .f64 y0) rfl rfl (fun wk hwk=>?_) ?_
   ·rw [← (zA hwk).1 _ _ hblW] at lyW;go_simp
   refine zu (fun K hK=>?_);go_simp;refine hK _ ?_;clear hK K;have HBZ0:=hid hbZ;clear hbZ;refine zq (fun K hK=>?_) ?_
   ·go_simp;refine (NT.out Z HBZ0.out).mono ?_;rintro e V1 ⟨hst,rfl⟩;have hbx:=HBZ0.out.trans (hst.mono HBZ0.out.size);refine hK _ _ (fun _=>hbx) ?_;clear hK K;have HB2:=hid hbx;clear hbx hst;refine zu (fun K hK=>?_);go_simp;refine hK _ ?_;clear hK K;refine zu (fun K hK=>?_);go_simp;refine hK _ ?_;clear hK K;refine zu (fun K hK=>?_);go_simp;refine hK _ ?_;clear hK K;refine zq (fun K hK=>?_) ?_
    ·go_simp;obtain ⟨y1,y2,hst⟩:=al1 V1 (.cells #[.slice none 0 0,.slice none 0 0] 94);have hbx:=HB2.out.trans (hst.mono HB2.out.size);have HL7:=hid (show W.heap.size≤V1.heap.size from HB2.out.size);refine hK _ _ (fun _=>hbx) ?_;clear hK K;have HB5:=hid hbx;have HF6:=hid y1;clear y1 y2 hst hbx;generalize V1.alloc (.cells #[.slice none 0 0,.slice none 0 0] 94)=V3 at *;generalize V1.heap.size=k4 at *;refine zq (fun K hK=>?_) ?_
     ·have c0:=zf HF6.out 0;have f0:=zg HF6.out 0;have c1:=zf HF6.out 1;have f1:=zg HF6.out 1;simp only [List.getElem?_toArray,List.getElem?_cons_zero,List.getElem?_cons_succ] at c0 c1;go_simp;have HB9:=hid (show Below W.heap.size W ((V3.setCell ⟨k4,0,none⟩ (.slice none 0 0)).setCell ⟨k4,1,none⟩ (.slice none 0 0)) from ((HB5.out.setCell (p:=⟨k4,0,none⟩) HL7.out _).setCell (p:=⟨k4,1,none⟩) HL7.out _));have HF10:=hid (show ((V3.setCell ⟨k4,0,none⟩ (.slice none 0 0)).setCell ⟨k4,1,none⟩ (.slice none 0 0)).heap[k4]? = some (.cells #[.slice none 0 0,.slice none 0 0] 94) from (zp (zp HF6.out _) _));refine hK _ _ (fun _=>HB9.out) ?_;clear hK K c0 f0 c1 f1;generalize ((V3.setCell ⟨k4,0,none⟩ (.slice none 0 0)).setCell ⟨k4,1,none⟩ (.slice none 0 0))=V8 at *;refine zu (fun K hK=>?_);go_simp;refine hK _ ?_;clear hK K;refine yt ?_;go_wp2_with fail;go_meet;exact ⟨_,rfl,rfl,HB9.out⟩
     exact zt
    exact zt
   refine zq (fun K hK=>?_) ?_
   ·go_simp;obtain ⟨y1,y2,hst⟩:=al1 Z (.cells #[.slice none 0 0,.slice none 0 0] 94);have hbx:=HBZ0.out.trans (hst.mono HBZ0.out.size);have HL15:=hid (show W.heap.size≤Z.heap.size from HBZ0.out.size);refine hK _ _ (fun _=>hbx) ?_;clear hK K;have HB13:=hid hbx;have HF14:=hid y1;clear y1 y2 hst hbx;generalize Z.alloc (.cells #[.slice none 0 0,.slice none 0 0] 94)=V11 at *;generalize Z.heap.size=k12 at *;refine zq (fun K hK=>?_) ?_
    ·go_simp;refine (NT.out V11 HB13.out).mono ?_;rintro e V16 ⟨hst,rfl⟩;have hbx:=HB13.out.trans (hst.mono HB13.out.size);have HF18:=hid ((hst.block k12 (zj HF14.out)).trans HF14.out);refine hK _ _ (fun _=>hbx) ?_;clear hK K;have HB17:=hid hbx;clear hbx hst;refine zu (fun K hK=>?_);go_simp;refine hK _ ?_;clear hK K;refine zu (fun K hK=>?_);go_simp;refine hK _ ?_;clear hK K;refine zu (fun K hK=>?_);go_simp;refine hK _ ?_;clear hK K;refine zq (fun K hK=>?_) ?_
     ·have c0:=zf HF18.out 0;have f0:=zg HF18.out 0;have c1:=zf HF18.out 1;have f1:=zg HF18.out 1;simp only [List.getElem?_toArray,List.getElem?_cons_zero,List.getElem?_cons_succ] at c0 c1;go_simp;have HB20:=hid (show Below W.heap.size W ((V16.setCell ⟨k12,0,none⟩ (.slice none 0 0)).setCell ⟨k12,1,none⟩ (.slice none 0 0)) from ((HB17.out.setCell (p:=⟨k12,0,none⟩) HL15.out _).setCell (p:=⟨k12,1,none⟩) HL15.out _));have HF21:=hid (show ((V16.setCell ⟨k12,0,none⟩ (.slice none 0 0)).setCell ⟨k12,1,none⟩ (.slice none 0 0)).heap[k12]? = some (.cells #[.slice none 0 0,.slice none 0 0] 94) from (zp (zp HF18.out _) _));refine hK _ _ (fun _=>HB20.out) ?_;clear hK K c0 f0 c1 f1;generalize ((V16.setCell ⟨k12,0,none⟩ (.slice none 0 0)).setCell ⟨k12,1,none⟩ (.slice none 0 0))=V19 at *;refine zu (fun K hK=>?_);go_simp;refine hK _ ?_;clear hK K;refine yt ?_;go_wp2_with fail;go_meet;exact ⟨_,rfl,rfl,HB20.out⟩
     exact zt
    exact zt
   exact zt
  case rest=>
   obtain ⟨P,rfl,rfl,hb7⟩:=hcut;have hq:=((hb7.block (B+1) (by omega)).trans (HB3.out.block (B+1) (by omega))).trans HX2.out;have HBZ:=hid (x5.trans ((HB3.out.mono (show B≤B+2 by omega)).trans (hb7.mono (by omega))));have hs7:=hb7.size;have q0:=zf hq 0;have q1:=zf hq 1;have q2:=zf hq 2;have f0:=zg hq 0;have f1:=zg hq 1;have f2:=zg hq 2;simp only [List.getElem?_toArray,List.getElem?_cons_zero,List.getElem?_cons_succ] at q0 q1 q2;have SC:=hid (show y9 T z wt (l 0) (xh t) n true=⟨fun _=>0,false,0,4⟩ from by rw [← Y1.out,← LY2.out,uF]; unfold y9; rw [if_pos rfl,nA,hp]);have HK:=hid (((((zM.refl wc (B+1)).set 0 (.slice none 0 0)).set 1 (.int .i64 0)).set 2 (.int .i64 4)));clear hq hp hb7 p0 p1 p2 NT;go_wp2_with fail;refine bodyPost_ret (v:=.agg #[.slice none 0 0,.int .i64 0,.int .i64 4]) (by simp [results,Tryz.results27,go_sem,q0,q1,q2]) rfl ⟨by rw [hB]; exact HK.out.below HBZ.out (by omega) (by omega),?_⟩;rw [SC.out];exact .inr ⟨rfl,rfl⟩
 | some gq=>
  obtain ⟨g,q⟩:=gq
  have NT:=hid (fun (V:World) (hb:Below W.heap.size W V)=>(show Calls Tryz.prog 53 #[.agg #[.int .i64 n,vo,vu],.slice (some ⟨bz,oz,none⟩) m cz,.float .f64 y0,.float .f64 h] V (fun e w'=>Below V.heap.size V w'∧∃ G2 R2 cg1 cg2,e=.returned (.tuple #[.agg #[.slice (some ⟨G2,0,none⟩) n cg1,.slice (some ⟨R2,0,none⟩) n cg2],.bool true])∧LuK n W.heap.size G2 R2 cg2 g q w') from by
   have hh:=tE n T vo vu _ m z y0 h V (HXW.out.tape.below hb) (HXW.out.tab.below hb) HCK.out HCS.out hn h1 h4 hm;rw [hp] at hh;refine hh.mono ?_;rintro e V2 ⟨a1,G2,R2,cg1,cg2,blk,cap,a2,a3,a4,-,-⟩;exact ⟨a1,G2,R2,cg1,cg2,a2,by omega,_,blk,cap,hb.size,a3,a4⟩))
  go_upto_region 5 with fail
  go_cut [16,17] (fun a b wx=>∃ P G2 R2 cg1 cg2,a=.pointer (some ⟨P,0,none⟩)∧b=.bool true∧wx.heap[P]? = some (.cells #[.slice (some ⟨G2,0,none⟩) n cg1,.slice (some ⟨R2,0,none⟩) n cg2] 94)∧LuK n W.heap.size G2 R2 cg2 g q wx∧Below W.heap.size W wx)
  case first=>
   refine yM (.op 0 3 (.op 1 1 (.op 2 1 (.op 3 1 (.op 4 3 (.op 5 1 (.alt 6 (.op 7 1 (.op 8 1 (.op 9 1 (.alt 10 (.alt 11 (.op 12 1 .nil) .stop) .stop)))) (.alt 10 (.alt 6 (.op 7 1 (.op 8 1 (.op 9 1 (.alt 11 (.op 12 1 .nil) .stop)))) .stop) .stop)))))))) [6,10,11] [0,4] (fun W'=>Below W.heap.size W W') (by kernel_rfl) (by kernel_rfl) (fun _ _ d _ _ h=>by cases d<;>exact h) ((Below.refl _ _).drew) ?_;intro Z hZ hbZ;clear hZ;refine yg (v:=.agg #[.int .i64 n,vo,vu]) rfl rfl (fun wk hwk=>?_) ?_
   ·rw [← (zA hwk).1 _ _ hpl] at p0 p1 p2;go_simp
   refine zu (fun K hK=>?_);go_simp;refine hK _ ?_;clear hK K;refine zu (fun K hK=>?_);go_simp;refine hK _ ?_;clear hK K;refine zu (fun K hK=>?_);go_simp;refine hK _ ?_;clear hK K;refine yg (v:=.float .f64 y0) rfl rfl (fun wk hwk=>?_) ?_
   ·rw [← (zA hwk).1 _ _ hblW] at lyW;go_simp
   refine zu (fun K hK=>?_);go_simp;refine hK _ ?_;clear hK K;have HBZ0:=hid hbZ;clear hbZ;refine zq (fun K hK=>?_) ?_
   ·go_simp;refine (NT.out Z HBZ0.out).mono ?_;rintro e V1 ⟨hst,G2,R2,cg1,cg2,rfl,hlk⟩;have hbx:=HBZ0.out.trans (hst.mono HBZ0.out.size);have HF3:=hid (hlk);refine hK _ _ (fun _=>hbx) ?_;clear hK K;have HB2:=hid hbx;clear hbx hst hlk;refine zu (fun K hK=>?_);go_simp;refine hK _ ?_;clear hK K;refine zu (fun K hK=>?_);go_simp;refine hK _ ?_;clear hK K;refine zu (fun K hK=>?_);go_simp;refine hK _ ?_;clear hK K;refine zq (fun K hK=>?_) ?_
    ·go_simp;obtain ⟨y1,y2,hst⟩:=al1 V1 (.cells #[.slice none 0 0,.slice none 0 0] 94);have hbx:=HB2.out.trans (hst.mono HB2.out.size);have HF9:=hid (HF3.out.below hst);have HL8:=hid (show W.heap.size≤V1.heap.size from HB2.out.size);refine hK _ _ (fun _=>hbx) ?_;clear hK K;have HB6:=hid hbx;have HF7:=hid y1;clear y1 y2 hst hbx;generalize V1.alloc (.cells #[.slice none 0 0,.slice none 0 0] 94)=V4 at *;generalize V1.heap.size=k5 at *;refine zq (fun K hK=>?_) ?_
     ·have c0:=zf HF7.out 0;have f0:=zg HF7.out 0;have c1:=zf HF7.out 1;have f1:=zg HF7.out 1;simp only [List.getElem?_toArray,List.getElem?_cons_zero,List.getElem?_cons_succ] at c0 c1;go_simp;have HB11:=hid (show Below W.heap.size W ((V4.setCell ⟨k5,0,none⟩ (.slice (some ⟨G2,0,none⟩) n cg1)).setCell ⟨k5,1,none⟩ (.slice (some ⟨R2,0,none⟩) n cg2)) from ((HB6.out.setCell (p:=⟨k5,0,none⟩) HL8.out _).setCell (p:=⟨k5,1,none⟩) HL8.out _));have HF12:=hid (show ((V4.setCell ⟨k5,0,none⟩ (.slice (some ⟨G2,0,none⟩) n cg1)).setCell ⟨k5,1,none⟩ (.slice (some ⟨R2,0,none⟩) n cg2)).heap[k5]? = some (.cells #[.slice (some ⟨G2,0,none⟩) n cg1,.slice (some ⟨R2,0,none⟩) n cg2] 94) from (zp (zp HF7.out _) _));have HF13:=hid (HF9.out.put (W:=((V4.setCell ⟨k5,0,none⟩ (.slice (some ⟨G2,0,none⟩) n cg1)).setCell ⟨k5,1,none⟩ (.slice (some ⟨R2,0,none⟩) n cg2))) HF7.out (((zM.refl V4 k5).set 0 _).set 1 _) rfl rfl);refine hK _ _ (fun _=>HB11.out) ?_;clear hK K c0 f0 c1 f1;generalize ((V4.setCell ⟨k5,0,none⟩ (.slice (some ⟨G2,0,none⟩) n cg1)).setCell ⟨k5,1,none⟩ (.slice (some ⟨R2,0,none⟩) n cg2))=V10 at *;refine zu (fun K hK=>?_);go_simp;refine hK _ ?_;clear hK K;refine yt ?_;go_wp2_with fail;go_meet;exact ⟨k5,_,_,_,_,rfl,rfl,HF12.out,HF13.out,HB11.out⟩
     exact zt
    exact zt
   refine zq (fun K hK=>?_) ?_
   ·go_simp;obtain ⟨y1,y2,hst⟩:=al1 Z (.cells #[.slice none 0 0,.slice none 0 0] 94);have hbx:=HBZ0.out.trans (hst.mono HBZ0.out.size);have HL18:=hid (show W.heap.size≤Z.heap.size from HBZ0.out.size);refine hK _ _ (fun _=>hbx) ?_;clear hK K;have HB16:=hid hbx;have HF17:=hid y1;clear y1 y2 hst hbx;generalize Z.alloc (.cells #[.slice none 0 0,.slice none 0 0] 94)=V14 at *;generalize Z.heap.size=k15 at *;refine zq (fun K hK=>?_) ?_
    ·go_simp;refine (NT.out V14 HB16.out).mono ?_;rintro e V19 ⟨hst,G2,R2,cg1,cg2,rfl,hlk⟩;have hbx:=HB16.out.trans (hst.mono HB16.out.size);have HF21:=hid ((hst.block k15 (zj HF17.out)).trans HF17.out);have HF22:=hid (hlk);refine hK _ _ (fun _=>hbx) ?_;clear hK K;have HB20:=hid hbx;clear hbx hst hlk;refine zu (fun K hK=>?_);go_simp;refine hK _ ?_;clear hK K;refine zu (fun K hK=>?_);go_simp;refine hK _ ?_;clear hK K;refine zu (fun K hK=>?_);go_simp;refine hK _ ?_;clear hK K;refine zq (fun K hK=>?_) ?_
     ·have c0:=zf HF21.out 0;have f0:=zg HF21.out 0;have c1:=zf HF21.out 1;have f1:=zg HF21.out 1;simp only [List.getElem?_toArray,List.getElem?_cons_zero,List.getElem?_cons_succ] at c0 c1;go_simp;have HB24:=hid (show Below W.heap.size W ((V19.setCell ⟨k15,0,none⟩ (.slice (some ⟨G2,0,none⟩) n cg1)).setCell ⟨k15,1,none⟩ (.slice (some ⟨R2,0,none⟩) n cg2)) from ((HB20.out.setCell (p:=⟨k15,0,none⟩) HL18.out _).setCell (p:=⟨k15,1,none⟩) HL18.out _));have HF25:=hid (show ((V19.setCell ⟨k15,0,none⟩ (.slice (some ⟨G2,0,none⟩) n cg1)).setCell ⟨k15,1,none⟩ (.slice (some ⟨R2,0,none⟩) n cg2)).heap[k15]? = some (.cells #[.slice (some ⟨G2,0,none⟩) n cg1,.slice (some ⟨R2,0,none⟩) n cg2] 94) from (zp (zp HF21.out _) _));have HF26:=hid (HF22.out.put (W:=((V19.setCell ⟨k15,0,none⟩ (.slice (some ⟨G2,0,none⟩) n cg1)).setCell ⟨k15,1,none⟩ (.slice (some ⟨R2,0,none⟩) n cg2))) HF21.out (((zM.refl V19 k15).set 0 _).set 1 _) rfl rfl);refine hK _ _ (fun _=>HB24.out) ?_;clear hK K c0 f0 c1 f1;generalize ((V19.setCell ⟨k15,0,none⟩ (.slice (some ⟨G2,0,none⟩) n cg1)).setCell ⟨k15,1,none⟩ (.slice (some ⟨R2,0,none⟩) n cg2))=V23 at *;refine zu (fun K hK=>?_);go_simp;refine hK _ ?_;clear hK K;refine yt ?_;go_wp2_with fail;go_meet;exact ⟨k15,_,_,_,_,rfl,rfl,HF25.out,HF26.out,HB24.out⟩
     exact zt
    exact zt
   exact zt
  case rest=>
  obtain ⟨P,G2,R2,cg1,cg2,rfl,rfl,hP,hlk,hb7⟩:=hcut;obtain ⟨-,H0,blk2,cap2,hHH,hg2,hi2⟩:=hlk;have t0:=zf hP 0;have t1:=zf hP 1;simp only [List.getElem?_toArray,List.getElem?_cons_zero,List.getElem?_cons_succ] at t0 t1;have HB7:=hid hb7;have hs7:=hb7.size;have hl7:=zj hP;have HG2:=hid hg2;have HI2:=hid hi2;have HQ:=hid (sZ (Nat.le_refl _) hp);have SC:=hid (show y9 T z wt (l 0) (xh t) n true=yH (wy T (z 0) (z 1) wt y0 h n g q) n 4 (fun _=>0) from by rw [← Y1.out,← LY2.out,uF]; unfold y9; rw [if_pos rfl,nA,hp]; simp only [kx]);clear hb7 hP hg2 hi2 hp p0 p1 p2 lyW NT;have hLq:=(HB7.out.block LB hL3s).trans HL3.out;have q0:=zf hLq 0;have q1:=zf hLq 1;have f0:=zg hLq 0;have f1:=zg hLq 1;simp only [List.getElem?_toArray,List.getElem?_cons_zero,List.getElem?_cons_succ] at q0 q1;go_upto_region 9 with fail
  obtain ⟨L0,L1⟩:=xP (x:=.slice (some ⟨G2,0,none⟩) n cg1) (y:=.slice (some ⟨R2,0,none⟩) n cg2) q0 q1;have hk8:=((zM.refl wc LB).set 0 (.slice (some ⟨G2,0,none⟩) n cg1)).set 1 (.slice (some ⟨R2,0,none⟩) n cg2);have HBW:=hid (show Below (B+2) X _ from hk8.below (HB3.out.trans (HB7.out.mono (by omega))) (by omega) (by omega));have HO3':=hid ((HO3.out.below HB7.out HO3.out.lt.2).kept (hk8.block _ (HO3.out.below HB7.out HO3.out.lt.2).lt.2 (by have:=HXS.out; omega)));have HT8:=hid (((HG2.out.setOther (B:=LB) (o:=0) (by have:=HG2.out.lo; omega) (fun i hi=>by have:=(HG2.out.row i hi).lt; omega) (.slice (some ⟨G2,0,none⟩) n cg1)).setOther (B:=LB) (o:=1) (by have:=HG2.out.lo; omega) (fun i hi=>by have:=(HG2.out.row i hi).lt; omega) (.slice (some ⟨R2,0,none⟩) n cg2)).tab (c:=cg1) (by omega) (by omega));have HI8:=hid (((HI2.out.other (B:=LB) (o:=0) (by have:=HI2.out.lt; omega) (.slice (some ⟨G2,0,none⟩) n cg1)).other (B:=LB) (o:=1) (by have:=HI2.out.lt; omega) (.slice (some ⟨R2,0,none⟩) n cg2)).ints (by omega));have hk8s:=hk8.size;clear hk8 q0 q1 f0 f1 t0 t1 hLq HO3;generalize (wc.setCell ⟨LB,0,none⟩ (.slice (some ⟨G2,0,none⟩) n cg1)).setCell ⟨LB,1,none⟩ (.slice (some ⟨R2,0,none⟩) n cg2)=W2 at *;have HXW2:=hid (HX.out.below (show Below w.heap.size w W2 by rw [hB]; exact x5.trans (HBW.out.mono (by omega))));have HL8:=hid (show W2.cell? ⟨LB,0,none⟩=_∧W2.cell? ⟨LB,1,none⟩=_ from ⟨L0,L1⟩);have hLW2:LB<W2.heap.size:=by omega
  generalize hS:yH (wy T (z 0) (z 1) wt y0 h n g q) n 4 (fun _=>0)=S at *;have HS:=hid hS;clear hS HB7 HB3 HB2 HXW L0 L1;have hLW:=hLW2;generalize hHe:W2.heap.size=H at *;go_wp2_with fail
  go_loopw [14,18] (fun v kk wr=>∃ (k:Nat) (x:Nat→Nat),1≤k∧k≤4∧kk=.int .i64 k∧zT wr v n x∧yH (wy T (z 0) (z 1) wt y0 h n g q) n (5-k) x=S∧Below H W2 wr) (fun _ kk _=>5-(intOf kk).toNat)
  case atStart=>exact ⟨1,_,by omega,by omega,rfl,HO3'.out.flts (by omega),HS.out,Below.refl _ _⟩
  case round=>
   clear HO3' HS;obtain ⟨k,x,hk1,hk4,rfl,hxr,hs,hbl⟩:=hrel;obtain ⟨k',hk'⟩:∃ k',5-k=k'+1:=⟨4-k,by omega⟩;rw [hk',rj,show 4-k'=k by omega] at hs;have HXR:=hid hxr;obtain ⟨px,cx,rfl,-,-⟩:=id hxr;have HS:=hid hs;have HBL:=hid hbl;have hbs:H≤wr.heap.size:=by have:=hbl.size; omega
   have hkk:k+k'=4:=by omega
   have HXr:=hid (HXW2.out.below (hHe ▸ hbl));have p0:=((hbl.cell (p:=⟨B,0,none⟩) (by show B<H; omega)).trans (HBW.out.cell (p:=⟨B,0,none⟩) (by show B<B+2; omega))).trans (zf HX1.out 0);have p1:=((hbl.cell (p:=⟨B,1,none⟩) (by show B<H; omega)).trans (HBW.out.cell (p:=⟨B,1,none⟩) (by show B<B+2; omega))).trans (zf HX1.out 1);have p2:=((hbl.cell (p:=⟨B,2,none⟩) (by show B<H; omega)).trans (HBW.out.cell (p:=⟨B,2,none⟩) (by show B<B+2; omega))).trans (zf HX1.out 2);simp only [List.getElem?_toArray,List.getElem?_cons_zero,List.getElem?_cons_succ] at p0 p1 p2;have hpl:B<wr.heap.size:=by omega
   have lyW:=((hbl.cell (p:=⟨bl,ol,none⟩) (by show bl<H; omega)).trans (HBW.out.cell (p:=⟨bl,ol,none⟩) (by show bl<B+2; omega))).trans ((x5.cell (p:=⟨bl,ol,none⟩) hbl').trans ly1);have hblW:bl<wr.heap.size:=by omega
   have RES:=hid (fun W2' (hW:Below H W2 W2')=>(show W2'.heap[B+1]? = some (.cells #[.slice none 0 0,.int .i64 0,.int .i64 0] 60) from ((hW.block (B+1) (by omega)).trans (HBW.out.block (B+1) (by omega))).trans HX2.out));have FINB:=hid (fun V1 V2 (hW:Below H W2 V1) (hk:zM V1 (B+1) V2)=>(show Below B w V2 from hk.below (x5.trans ((HBW.out.mono (show B≤B+2 by omega)).trans (hW.mono (by omega)))) (by omega) (by have:=hW.size; omega)));clear hs hxr hbl hk';go_wp2_with fail;refine zv [(0,3),(1,1),(2,1),(3,1),(4,3),(5,1),(6,1),(7,0),(8,1)] (fun W2'=>Below wr.heap.size wr W2') (by kernel_rfl) (by kernel_rfl) (fun _ _ d _ _ h=>by cases d<;>exact h) ((Below.refl _ _).drew) ?_;intro Z hZ hbZ;clear hZ;refine zh (v:=.agg #[.int .i64 n,vo,vu]) rfl rfl (fun wk hwk=>?_) ?_
   ·rw [← (zA hwk).1 _ _ hpl] at p0 p1 p2;go_simp
   iterate 3
    first
     | refine zd (fun K hK=>?_)
     | refine ze (fun K hK=>?_)
    go_simp;refine hK _ ?_;clear hK K
   refine zh (v:=.float .f64 y0) rfl rfl (fun wk hwk=>?_) ?_
   ·rw [← (zA hwk).1 _ _ hblW] at lyW;go_simp
   iterate 2
    first
     | refine zd (fun K hK=>?_)
     | refine ze (fun K hK=>?_)
    go_simp;refine hK _ ?_;clear hK K
   refine zm (fun K hK=>?_);go_simp;refine (sb n T vo vu _ _ m z x y0 h Z (HXr.out.tape.below hbZ) (HXr.out.tab.below hbZ) (HXR.out.below hbZ) HCK.out HCS.out hn h1 h4 hm).mono ?_;rintro e w4 ⟨vg,rfl,hg,hb4⟩;have hbA:=hbZ.trans (hb4.mono hbZ.size);refine hK _ _ (fun h=>Bool.noConfusion (Eq.trans (Eq.symm (by kernel_rfl:_=false)) h)) (fun _=>hbA) ?_;clear hK K
   iterate 1
    first
     | refine zd (fun K hK=>?_)
     | refine ze (fun K hK=>?_)
    go_simp;refine hK _ ?_;clear hK K
   refine zo ?_;obtain ⟨pg,cg,rfl,-,-⟩:=id hg;have HG:=hid hg;have HBA:=hid hbA;have hsA:=hbA.size;clear hbZ hg hb4 hbA p0 p1 p2 lyW;have L0:=(HBL.out.cell (p:=⟨LB,0,none⟩) (by show LB<H; omega)).trans HL8.out.1;have L1:=(HBL.out.cell (p:=⟨LB,1,none⟩) (by show LB<H; omega)).trans HL8.out.2;rw [← HBA.out.cell (p:=⟨LB,0,none⟩) (by show LB<wr.heap.size; omega)] at L0;rw [← HBA.out.cell (p:=⟨LB,1,none⟩) (by show LB<wr.heap.size; omega)] at L1;have hLw4:LB<w4.heap.size:=by omega
   have HTA:=hid ((HT8.out.below (hHe ▸ HBL.out)).below HBA.out);have HIA:=hid ((HI8.out.below (hHe ▸ HBL.out)).below HBA.out);go_wp2_with fail;refine zv [(0,3),(1,1),(2,1),(3,0),(4,0),(5,1)] (fun W2'=>Below w4.heap.size w4 W2') (by kernel_rfl) (by kernel_rfl) (fun _ _ d _ _ h=>by cases d<;>exact h) ((Below.refl _ _).drew) ?_;intro Z hZ hbZ;clear hZ;refine zh (v:=.agg #[.slice (some ⟨G2,0,none⟩) n cg1,.slice (some ⟨R2,0,none⟩) n cg2]) rfl rfl (fun wk hwk=>?_) ?_
   ·rw [← (zA hwk).1 _ _ hLw4] at L0 L1;go_simp
   iterate 2
    first
     | refine zd (fun K hK=>?_)
     | refine ze (fun K hK=>?_)
    go_simp;refine hK _ ?_;clear hK K
   refine zm (fun K hK=>?_);go_simp;refine (tD _ _ n (by omega) (yS T (z 0) (z 1) y0 h x) x Z (HG.out.below hbZ) ((HXR.out.below HBA.out).below hbZ)).mono ?_;rintro e w5 ⟨vm,rfl,hm5,hb5⟩;have hbB:=hbZ.trans (hb5.mono hbZ.size);refine hK _ _ (fun h=>Bool.noConfusion (Eq.trans (Eq.symm (by kernel_rfl:_=false)) h)) (fun _=>hbB) ?_;clear hK K;refine zm (fun K hK=>?_);go_simp;refine (qw n _ _ vm g q (fun i=>cop .sub (yS T (z 0) (z 1) y0 h x i) (x i)) w5 (HTA.out.below hbB) (HIA.out.below hbB) hm5 HQ.out h1 (by omega)).mono ?_;rintro e w7 ⟨RS,rfl,hS7,hb7⟩;have hbC:=hbB.trans (hb7.mono hbB.size);refine hK _ _ (fun h=>Bool.noConfusion (Eq.trans (Eq.symm (by kernel_rfl:_=false)) h)) (fun _=>hbC) ?_;clear hK K
   iterate 1
    first
     | refine zd (fun K hK=>?_)
     | refine ze (fun K hK=>?_)
    go_simp;refine hK _ ?_;clear hK K
   refine zo ?_;have HS7:=hid hS7;have HBC:=hid hbC;have hsC:=hbC.size;clear hbZ hm5 hb5 hbB hS7 hb7 hbC L0 L1;go_wp2_with fail;refine (pD _ _ n (by omega) x (uh g n (fun i=>(fun i=>cop .sub (yS T (z 0) (z 1) y0 h x i) (x i)) (q i))) w7 ((HXR.out.below HBA.out).below HBC.out) (HS7.out.flts (by omega))).mono ?_;rintro e w8 ⟨vd,rfl,hd8,hb8⟩;obtain ⟨pd,cd,rfl,-,-⟩:=id hd8;have HD8:=hid hd8;have HS8:=hid (HS7.out.below hb8 HS7.out.lt.2);have HBD:=hid (HBC.out.trans (hb8.mono hsC));have hsD:=hb8.size;clear hd8 hb8 HS7;go_wp2_with fail;refine (uq _ _ n (uh g n (fun i=>(fun i=>cop .sub (yS T (z 0) (z 1) y0 h x i) (x i)) (q i))) wt w8 (HS8.out.flts (by omega)) (((HXr.out.wrow.below HBA.out).below HBD.out))).mono ?_;rintro e w6 ⟨⟨y,rfl,y1,y2⟩,hb6⟩;have HB6:=hid (HBA.out.trans ((HBD.out.trans (hb6.mono (by omega))).mono hsA));have HGN:=hid (show zT w6 (.slice pd n cd) n ((wy T (z 0) (z 1) wt y0 h n g q) x).1 from HD8.out.below hb6);have YN:=hid (show zk y=((wy T (z 0) (z 1) wt y0 h n g q) x).2 from y1);clear hb6 y1 HG HD8 HS8;generalize (wy T (z 0) (z 1) wt y0 h n g q) x=N at *;have hs6':wr.heap.size≤w6.heap.size:=HB6.out.size;go_wp2_with fail;generalize w6=V at *
   go_loopw [22] (fun i ws=>∃ c:Nat,c≤n∧i=.int .i64 c∧wa c (fun i=>xi (N.1 i))=true∧Below V.heap.size V ws) (fun i _=>n-(intOf i).toNat)
   case atStart=>exact ⟨0,by omega,rfl,rfl,Below.refl _ _⟩
   case round=>
    obtain ⟨c,hc,rfl,hh,hb7⟩:=hrel;by_cases hcn:c<n
    ·obtain ⟨bn,on,cn',hvn,hbn,hnr⟩:=HGN.out.numAt (by omega);simp only [Value.slice.injEq,true_and] at hvn;obtain ⟨rfl,rfl⟩:=hvn;obtain ⟨u,u1,u2,u3⟩:=hnr c hcn;rw [← hb7.cell (p:=⟨bn,on+c,none⟩) hbn] at u1;have HH:=hid hh;have HB7:=hid hb7;have HU:=hid (show xi u=xi (N.1 c) by rw [← u2,wQ]);have c1:(c:Int)<(n:Int):=by omega
     have hs7:=hb7.size;clear hnr u2 hh hb7;go_wp2_with fail;refine (vk u _).mono ?_;rintro e w8 ⟨rfl,hb8⟩;have HB8:=hid (HB7.out.trans (hb8.mono hs7));clear hb8 u1
     cases hf:xi u with
     | true=>
      have H2:=hid (show wa (c+1) (fun i=>xi (N.1 i))=true by rw [wa,HH.out,← HU.out,hf]; rfl);go_wp2_with fail
      go_roundw
      case rel=>exact ⟨c+1,by omega,by go_num,H2.out,HB8.out⟩
      case measure=>simp [intOf]; omega
     | false=>
      have H2:=hid (show wa n (fun i=>xi (N.1 i))=false from tr hcn (by rw [← HU.out]; exact hf));have hs:=HS.out;rw [H2.out,if_pos rfl] at hs;have hW8:Below H W2 w8:=HBL.out.trans ((HB6.out.trans (HB8.out.mono hs6')).mono hbs);have hq:=RES.out w8 hW8;have q0:=zf hq 0;have q1:=zf hq 1;have q2:=zf hq 2;have f0:=zg hq 0;have f1:=zg hq 1;have f2:=zg hq 2;simp only [List.getElem?_toArray,List.getElem?_cons_zero,List.getElem?_cons_succ] at q0 q1 q2;have HK:=hid (FINB.out w8 _ hW8 (((((zM.refl w8 (B+1)).set 0 (.slice none 0 0)).set 1 (.int .i64 k)).set 2 (.int .i64 2))));have SC2:=hid (SC.out.trans hs.symm);clear hq hs hW8;go_wp2_with fail;refine bodyPost_ret (v:=.agg #[.slice none 0 0,.int .i64 k,.int .i64 2]) (by simp [results,Tryz.results27,go_sem,q0,q1,q2]) rfl ⟨by rw [hB]; exact HK.out,?_⟩;rw [SC2.out];exact .inr ⟨rfl,rfl⟩
    ·obtain rfl:c=n:=by omega
     have hs:=HS.out;rw [hh,if_neg (by decide)] at hs;have HLE:=hid (show leB y 4562146422526312448=leB N.2 4562146422526312448 by rw [← YN.out]; exact (vL y 4562146422526312448).symm);have hW8:Below H W2 wr:=HBL.out.trans ((HB6.out.trans (hb7.mono hs6')).mono hbs);have HW8:=hid hW8;have HGV:=hid (HGN.out.below hb7);have HS2:=hid hs;clear hs hh hb7 hW8
     cases hle:leB y 4562146422526312448 with
     | true=>
      have hs:=HS2.out;rw [← HLE.out,hle,if_pos rfl] at hs;have hq:=RES.out wr HW8.out;have NB:=hid (ls hq HGV.out h1);have q0:=zf hq 0;have q1:=zf hq 1;have q2:=zf hq 2;have f0:=zg hq 0;have f1:=zg hq 1;have f2:=zg hq 2;simp only [List.getElem?_toArray,List.getElem?_cons_zero,List.getElem?_cons_succ] at q0 q1 q2;have hkp:=(((zM.refl wr (B+1)).set 0 (.slice pd c cd)).set 1 (.int .i64 k)).set 2 (.int .i64 0);have HK:=hid (FINB.out wr _ HW8.out hkp);have HGK:=hid (HGV.out.kept hkp NB.out);have SC2:=hid (SC.out.trans hs.symm);clear hq hs hkp;go_wp2_with fail;refine bodyPost_ret (v:=.agg #[.slice pd c cd,.int .i64 k,.int .i64 0]) (by simp [results,Tryz.results27,go_sem,q0,q1,q2]) rfl ⟨by rw [hB]; exact HK.out,?_⟩;rw [SC2.out];exact .inl ⟨rfl,_,rfl,HGK.out⟩
     | false=>
      have hs:=HS2.out;rw [← HLE.out,hle,if_neg (by decide)] at hs;by_cases hk5:k=4
      ·subst hk5;rw [if_pos (by omega)] at hs;have hq:=RES.out wr HW8.out;have q0:=zf hq 0;have q1:=zf hq 1;have q2:=zf hq 2;have f0:=zg hq 0;have f1:=zg hq 1;have f2:=zg hq 2;simp only [List.getElem?_toArray,List.getElem?_cons_zero,List.getElem?_cons_succ] at q0 q1 q2;have HK:=hid (FINB.out wr _ HW8.out ((((zM.refl wr (B+1)).set 0 (.slice none 0 0)).set 1 (.int .i64 4)).set 2 (.int .i64 6)));have SC2:=hid (SC.out.trans hs.symm);clear hq hs;go_wp2_with fail;refine bodyPost_ret (v:=.agg #[.slice none 0 0,.int .i64 4,.int .i64 6]) (by simp [results,Tryz.results27,go_sem,q0,q1,q2]) rfl ⟨by rw [hB]; exact HK.out,?_⟩;rw [SC2.out];exact .inr ⟨rfl,rfl⟩
      ·rw [if_neg (by omega)] at hs;have HS3:=hid hs;have hk4':((k:Int)==4)=false:=by simp; omega
       clear hs;go_wp2_with fail
       go_roundw
       case rel=>exact ⟨k+1,_,by omega,by omega,by go_num,HGV.out,by rw [show 5-(k+1)=k' by omega]; exact HS3.out,HW8.out⟩
       case measure=>simp [intOf]; omega
end Go.Proofs.YtnlbafjmbamoeaaGreat
