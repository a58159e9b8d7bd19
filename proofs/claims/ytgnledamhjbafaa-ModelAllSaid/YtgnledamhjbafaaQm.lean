/-
  The document's own from-tos, walked: whatever their ends.
-/
import Derived.Test.YtgnledamhjbafaaQk
namespace Go.Proofs.Ytgnledamhjbafaa
open Go.RowKit
open Ieee (double)
open Lib
attribute [local go_sem] zf ze zh zd zu zt zw zx zy zA zj zk zm zn zo zF yd zU zG xq
theorem ninf_of (w:World):zV .sub w 0 9218868437227405312=18442240474082181120:=tc (by decide +kernel) w
theorem rwhole_any (w:World):Calls Try.prog 59 #[] w (yk (iv 18442240474082181120 9218868437227405312) w):=by
 go_enter Try.func59,Try.ntmps59;go_wp2_with (go_at_call 78; refine (rinfW _).mono ?_; rintro e w' ⟨rfl,rfl⟩)
 simp only [ninf_of] at *
 exact bodyPost_ret (v:=iv 18442240474082181120 9218868437227405312) (by simp [results,Try.results59,go_sem]) rfl ⟨rfl,by
  repeat (first | exact Below.refl _ _ | refine below_drewN ?_ _ | refine zI ?_ _ | refine Below.setCell ?_ (by simp<;>omega) _ | refine Below.alloc ?_ (by simp<;>omega) _)⟩
theorem rholds_any (a b:Nat) (w:World):Calls Try.prog 58 #[iv a b] w (yk (.bool (leB a 0&&leB 0 b)) w):=by
 go_enter Try.func58,Try.ntmps58;cases h:leB a 0
 ·go_wp2_with fail;go_ret;exact ⟨rfl,(Below.refl _ _).alloc (Nat.le_refl _) _⟩
 ·go_wp2_with fail;go_ret;exact ⟨by simp,(Below.refl _ _).alloc (Nat.le_refl _) _⟩
theorem rin_any (x a b:Nat) (w:World):Calls Try.prog 32 #[.float .f64 x,iv a b] w (yk (.bool (leB a x&&leB x b)) w):=by
 go_enter Try.func32,Try.ntmps32;cases h:leB a x
 ·go_wp2_with fail;go_ret;exact ⟨rfl,(Below.refl _ _).alloc (Nat.le_refl _) _⟩
 ·go_wp2_with fail;go_ret;exact ⟨by simp,(Below.refl _ _).alloc (Nat.le_refl _) _⟩
theorem rmake_any (a b:Nat) (w:World):Calls Try.prog 72 #[.float .f64 a,.float .f64 b] w (yk (xK a b) w):=by
 unfold xK;cases h:leB a b
 ·rw [if_neg (by decide)];go_enter Try.func72,Try.ntmps72;go_wp2_with fail;refine (rwhole_any _).mono ?_;rintro e w2 ⟨rfl,hb2⟩;obtain ⟨hc2,hf2⟩:=yr hb2;have k0:w2.cell? ⟨w.heap.size,0,none⟩=some (.float .f64 0):=by rw [hc2 _ _ (by simp)]; go_simp
  have k1:w2.cell? ⟨w.heap.size,1,none⟩=some (.float .f64 0):=by rw [hc2 _ _ (by simp)]; go_simp
  have k:=zR (.float .f64 18442240474082181120) (.float .f64 9218868437227405312) k0 k1;have K:=hid k;clear k;go_wp2_with fail;exact bodyPost_ret (v:=iv 18442240474082181120 9218868437227405312) (by simp [results,Try.results72,go_sem,K.out.1,K.out.2]) rfl ⟨rfl,Below.setCell (Below.setCell (Below.trans ((Below.refl _ _).alloc (Nat.le_refl _) _) (hb2.mono (by simp))) (by simp) _) (by simp) _⟩
 ·rw [if_pos rfl];go_enter Try.func72,Try.ntmps72;go_wp2_with fail;exact bodyPost_ret (v:=iv a b) (by simp [results,Try.results72,go_sem]) rfl ⟨rfl,(Below.refl _ _).alloc (Nat.le_refl _) _⟩
structure OnSum (w0 X:World) (B lo hi x y:Nat) (L:Nat→Bool) (w:World) (v4 v5 v10 v11 v12:Value):Prop where
 n:L 13=false→Below X.heap.size X w
 z:L 13=true→Below B w0 w∧w.cell? ⟨B+2,0,none⟩=some (.float .f64 x)∧w.cell? ⟨B+2,1,none⟩=some (.float .f64 y)
 o:L 13=true→L 4=true∧L 5=true∧L 10=true∧L 11=true∧L 12=true
 h4:L 4=true→∃ u,v4=.float .f64 u∧zg u=lo∧u<18446744073709551616
 h5:L 5=true→v5=.float .f64 (zD lo)
 h10:L 10=true→∃ u,v10=.float .f64 u∧zg u=hi∧u<18446744073709551616
 h11:L 11=true→v11=.float .f64 (upB hi)
 h12:L 12=true→v12=iv x y
set_option maxHeartbeats 16000000
set_option maxRecDepth 100000
theorem radd_any (a b c d:Nat) (w:World):Calls Try.prog 43 #[iv a b,iv c d] w (yk (yI (cop .add a c) (cop .add b d)) w):=by
 obtain ⟨x,y,hxy⟩:=xL (cop .add a c) (cop .add b d);rw [hxy];have HM:=hid (fun W=>show Calls Try.prog 72 #[.float .f64 (zD (cop .add a c)),.float .f64 (upB (cop .add b d))] W (yk (iv x y) W) from hxy ▸ rmake_any _ _ W);have HF:=hid (show (∀ W,zg (zV .add W a c)=cop .add a c)∧(∀ W,zg (zV .add W b d)=cop .add b d)∧(∀ W,zV .add W a c<18446744073709551616)∧(∀ W,zV .add W b d<18446744073709551616) from ⟨fun W=>yf _ _ _ _,fun W=>yf _ _ _ _,fun W=>yc _ _ _ _,fun W=>yc _ _ _ _⟩);have AL:=al3 w (.cells #[.float .f64 a,.float .f64 b] 26) (.cells #[.float .f64 c,.float .f64 d] 26) (.cells #[.float .f64 0,.float .f64 0] 26);clear hxy;go_enter Try.func43,Try.ntmps43;go_upto_region 1 with fail
 generalize hB:w.heap.size=B at *;generalize ((w.alloc (.cells #[.float .f64 a,.float .f64 b] 26)).alloc (.cells #[.float .f64 c,.float .f64 d] 26)).alloc (.cells #[.float .f64 0,.float .f64 0] 26)=X at *;generalize cop .add a c=lo at *;generalize cop .add b d=hi at *;obtain ⟨x1,x2,x3,x4,x5⟩:=AL;have a0:=at_block x1 0;have a1:=at_block x1 1;have b0:=at_block x2 0;have b1:=at_block x2 1;simp only [List.getElem?_toArray,List.getElem?_cons_zero,List.getElem?_cons_succ] at a0 a1 b0 b1;have la:B<X.heap.size:=by omega
 have lb:B+1<X.heap.size:=by omega
 have X3:=hid x3;have X5:=hid x5;clear x1 x2 x3 x5
 refine sA [(0,1),(1,3),(2,1),(3,3),(6,1),(7,3),(8,1),(9,3)] [4,5,10,11,12,13] [1,3,7,9] [(5,[4]),(11,[10]),(12,[5,11]),(13,[4,5,10,11,12])] (fun W=>Below X.heap.size X W) (fun L u w'=>∃ v4 v5 v10 v11 v12:Value,u=⟨#[iv a b,iv c d,.pointer (some ⟨B,0,none⟩),.pointer (some ⟨B+1,0,none⟩),.pointer (some ⟨B+1+1,0,none⟩),.pointer (some ⟨B,0,none⟩),.float .f64 a,.pointer (some ⟨B+1,0,none⟩),.float .f64 c,v4,v5,.pointer (some ⟨B,1,none⟩),.float .f64 b,.pointer (some ⟨B+1,1,none⟩),.float .f64 d,v10,v11,v12],[]⟩∧OnSum w X B lo hi x y L w' v4 v5 v10 v11 v12) (by kernel_rfl) (by kernel_rfl) (fun _ _ d _ _ h=>by cases d<;>exact h) ((Below.refl _ _).drew)
  (.cons ?o4 (.cons ?o5 (.cons ?o10 (.cons ?o11 (.cons ?o12 (.cons ?o13 .nil)))))) ?fin ?ini
 case ini=>
  intro Z hZ hbZ;clear hZ;refine sW (fun K hK=>?_);go_simp;refine hK _ ?_;clear hK K;refine sX (v:=.float .f64 a) rfl rfl (fun wk hwk=>?_) ?_
  ·rw [← (zW hwk).1 _ _ la] at a0;go_simp
  refine sW (fun K hK=>?_);go_simp;refine hK _ ?_;clear hK K;refine sX (v:=.float .f64 c) rfl rfl (fun wk hwk=>?_) ?_
  ·rw [← (zW hwk).1 _ _ lb] at b0;go_simp
  refine sW (fun K hK=>?_);go_simp;refine hK _ ?_;clear hK K;refine sX (v:=.float .f64 b) rfl rfl (fun wk hwk=>?_) ?_
  ·rw [← (zW hwk).1 _ _ la] at a1;go_simp
  refine sW (fun K hK=>?_);go_simp;refine hK _ ?_;clear hK K;refine sX (v:=.float .f64 d) rfl rfl (fun wk hwk=>?_) ?_
  ·rw [← (zW hwk).1 _ _ lb] at b1;go_simp
  exact rF fun L hL=>⟨_,_,_,_,_,rfl,fun _=>hbZ,fun h=>absurd h (by rw [hL 13 (by decide)]; decide),fun h=>absurd h (by rw [hL 13 (by decide)]; decide),fun h=>absurd h (by rw [hL 4 (by decide)]; decide),fun h=>absurd h (by rw [hL 5 (by decide)]; decide),fun h=>absurd h (by rw [hL 10 (by decide)]; decide),fun h=>absurd h (by rw [hL 11 (by decide)]; decide),fun h=>absurd h (by rw [hL 12 (by decide)]; decide)⟩
 case o4=>
  rintro L u w' hL hd ⟨v4,v5,v10,v11,v12,rfl,hI⟩ K hK
  have h13:L 13=false:=by
   cases e:L 13
   ·rfl
   ·exact absurd ((hI.o e).1.symm.trans hL) (by decide)
  have hb:=hI.n h13;go_simp;exact hK _ _ (fun _=>below_drewN hb _) ⟨_,_,_,_,_,rfl,fun _=>below_drewN hb _,fun h=>absurd (h13.symm.trans h) (by decide),fun h=>absurd (h13.symm.trans h) (by decide),fun _=>⟨_,rfl,HF.out.1 _,HF.out.2.2.1 _⟩,hI.h5,hI.h10,hI.h11,hI.h12⟩
 case o5=>
  rintro L u w' hL hd ⟨v4,v5,v10,v11,v12,rfl,hI⟩ K hK
  have h13:L 13=false:=by
   cases e:L 13
   ·rfl
   ·exact absurd ((hI.o e).2.1.symm.trans hL) (by decide)
  have hb:=hI.n h13;obtain ⟨z,rfl,z1,z2⟩:=hI.h4 (hd 4 (by decide));go_simp;refine (rG _ _ z2).mono ?_;rintro e W ⟨rfl,rfl⟩;exact hK _ _ (fun _=>hb) ⟨_,_,_,_,_,rfl,fun _=>hb,fun h=>absurd (h13.symm.trans h) (by decide),fun h=>absurd (h13.symm.trans h) (by decide),hI.h4,fun _=>by rw [← z1,ud],hI.h10,hI.h11,hI.h12⟩
 case o10=>
  rintro L u w' hL hd ⟨v4,v5,v10,v11,v12,rfl,hI⟩ K hK
  have h13:L 13=false:=by
   cases e:L 13
   ·rfl
   ·exact absurd ((hI.o e).2.2.1.symm.trans hL) (by decide)
  have hb:=hI.n h13;go_simp;exact hK _ _ (fun _=>below_drewN hb _) ⟨_,_,_,_,_,rfl,fun _=>below_drewN hb _,fun h=>absurd (h13.symm.trans h) (by decide),fun h=>absurd (h13.symm.trans h) (by decide),hI.h4,hI.h5,fun _=>⟨_,rfl,HF.out.2.1 _,HF.out.2.2.2 _⟩,hI.h11,hI.h12⟩
 case o11=>
  rintro L u w' hL hd ⟨v4,v5,v10,v11,v12,rfl,hI⟩ K hK
  have h13:L 13=false:=by
   cases e:L 13
   ·rfl
   ·exact absurd ((hI.o e).2.2.2.1.symm.trans hL) (by decide)
  have hb:=hI.n h13;obtain ⟨z,rfl,z1,z2⟩:=hI.h10 (hd 10 (by decide));go_simp;refine (rup_any _ _ z2).mono ?_;rintro e W ⟨rfl,rfl⟩;exact hK _ _ (fun _=>hb) ⟨_,_,_,_,_,rfl,fun _=>hb,fun h=>absurd (h13.symm.trans h) (by decide),fun h=>absurd (h13.symm.trans h) (by decide),hI.h4,hI.h5,hI.h10,fun _=>by rw [← z1,tp],hI.h12⟩
 case o12=>
  rintro L u w' hL hd ⟨v4,v5,v10,v11,v12,rfl,hI⟩ K hK
  have h13:L 13=false:=by
   cases e:L 13
   ·rfl
   ·exact absurd ((hI.o e).2.2.2.2.symm.trans hL) (by decide)
  have hb:=hI.n h13;obtain rfl:=hI.h5 (hd 5 (by decide));obtain rfl:=hI.h11 (hd 11 (by decide));go_simp;refine (HM.out _).mono ?_;rintro e W ⟨rfl,hb1⟩;have hb2:=hb.trans (hb1.mono hb.size);exact hK _ _ (fun _=>hb2) ⟨_,_,_,_,_,rfl,fun _=>hb2,fun h=>absurd (h13.symm.trans h) (by decide),fun h=>absurd (h13.symm.trans h) (by decide),hI.h4,hI.h5,hI.h10,hI.h11,fun _=>rfl⟩
 case o13=>
  rintro L u w' hL hd ⟨v4,v5,v10,v11,v12,rfl,hI⟩ K hK;have hb:=hI.n hL;have g12:=hd 12 (by decide);obtain rfl:=hI.h12 g12;have hz:=(hb.block (B+2) (by omega)).trans X3.out;have c0:=at_block hz 0;have c1:=at_block hz 1;have q0:=rD hz 0;have q1:=rD hz 1;simp only [List.getElem?_toArray,List.getElem?_cons_zero,List.getElem?_cons_succ] at c0 c1;have K2:=zR (.float .f64 x) (.float .f64 y) c0 c1;have HW:Below B w ((w'.setCell ⟨B+2,0,none⟩ (.float .f64 x)).setCell ⟨B+2,1,none⟩ (.float .f64 y)):=((X5.out.trans (hb.mono (by omega))).setCell (p:=⟨B+2,0,none⟩) (by show B≤B+2; omega) _).setCell (p:=⟨B+2,1,none⟩) (by show B≤B+2; omega) _;clear hz X3 X5;unfold iv;go_simp;exact hK _ _ (fun h=>Bool.noConfusion (Eq.trans (Eq.symm (by kernel_rfl:_=false)) h)) ⟨_,_,_,_,_,rfl,fun h=>Bool.noConfusion (Eq.trans (Eq.symm h) (by rfl:_=true)),fun _=>⟨HW,K2.1,K2.2⟩,fun _=>⟨hd 4 (by decide),hd 5 (by decide),hd 10 (by decide),hd 11 (by decide),g12⟩,hI.h4,hI.h5,hI.h10,hI.h11,hI.h12⟩
 case fin=>
  rintro L u w' hL ⟨v4,v5,v10,v11,v12,rfl,hI⟩;obtain ⟨z1,z2,z3⟩:=hI.z (hL 13 (by decide));clear X3 X5;go_wp2_with fail;exact bodyPost_ret (v:=iv x y) (by simp [results,Try.results43,go_sem,z2,z3]) rfl ⟨rfl,by first | exact z1 | (rw [hB]; exact z1)⟩
theorem rsub_any (a b c d:Nat) (w:World):Calls Try.prog 45 #[iv a b,iv c d] w (yk (yI (cop .sub a d) (cop .sub b c)) w):=by
 obtain ⟨x,y,hxy⟩:=xL (cop .sub a d) (cop .sub b c);rw [hxy];have HM:=hid (fun W=>show Calls Try.prog 72 #[.float .f64 (zD (cop .sub a d)),.float .f64 (upB (cop .sub b c))] W (yk (iv x y) W) from hxy ▸ rmake_any _ _ W);have HF:=hid (show (∀ W,zg (zV .sub W a d)=cop .sub a d)∧(∀ W,zg (zV .sub W b c)=cop .sub b c)∧(∀ W,zV .sub W a d<18446744073709551616)∧(∀ W,zV .sub W b c<18446744073709551616) from ⟨fun W=>yf _ _ _ _,fun W=>yf _ _ _ _,fun W=>yc _ _ _ _,fun W=>yc _ _ _ _⟩);have AL:=al3 w (.cells #[.float .f64 a,.float .f64 b] 26) (.cells #[.float .f64 c,.float .f64 d] 26) (.cells #[.float .f64 0,.float .f64 0] 26);clear hxy;go_enter Try.func45,Try.ntmps45;go_upto_region 1 with fail
 generalize hB:w.heap.size=B at *;generalize ((w.alloc (.cells #[.float .f64 a,.float .f64 b] 26)).alloc (.cells #[.float .f64 c,.float .f64 d] 26)).alloc (.cells #[.float .f64 0,.float .f64 0] 26)=X at *;generalize cop .sub a d=lo at *;generalize cop .sub b c=hi at *;obtain ⟨x1,x2,x3,x4,x5⟩:=AL;have a0:=at_block x1 0;have a1:=at_block x1 1;have b0:=at_block x2 0;have b1:=at_block x2 1;simp only [List.getElem?_toArray,List.getElem?_cons_zero,List.getElem?_cons_succ] at a0 a1 b0 b1;have la:B<X.heap.size:=by omega
 have lb:B+1<X.heap.size:=by omega
 have X3:=hid x3;have X5:=hid x5;clear x1 x2 x3 x5
 refine sA [(0,1),(1,3),(2,1),(3,3),(6,1),(7,3),(8,1),(9,3)] [4,5,10,11,12,13] [1,3,7,9] [(5,[4]),(11,[10]),(12,[5,11]),(13,[4,5,10,11,12])] (fun W=>Below X.heap.size X W) (fun L u w'=>∃ v4 v5 v10 v11 v12:Value,u=⟨#[iv a b,iv c d,.pointer (some ⟨B,0,none⟩),.pointer (some ⟨B+1,0,none⟩),.pointer (some ⟨B+1+1,0,none⟩),.pointer (some ⟨B,0,none⟩),.float .f64 a,.pointer (some ⟨B+1,1,none⟩),.float .f64 d,v4,v5,.pointer (some ⟨B,1,none⟩),.float .f64 b,.pointer (some ⟨B+1,0,none⟩),.float .f64 c,v10,v11,v12],[]⟩∧OnSum w X B lo hi x y L w' v4 v5 v10 v11 v12) (by kernel_rfl) (by kernel_rfl) (fun _ _ d _ _ h=>by cases d<;>exact h) ((Below.refl _ _).drew)
  (.cons ?o4 (.cons ?o5 (.cons ?o10 (.cons ?o11 (.cons ?o12 (.cons ?o13 .nil)))))) ?fin ?ini
 case ini=>
  intro Z hZ hbZ;clear hZ;refine sW (fun K hK=>?_);go_simp;refine hK _ ?_;clear hK K;refine sX (v:=.float .f64 a) rfl rfl (fun wk hwk=>?_) ?_
  ·rw [← (zW hwk).1 _ _ la] at a0;go_simp
  refine sW (fun K hK=>?_);go_simp;refine hK _ ?_;clear hK K;refine sX (v:=.float .f64 d) rfl rfl (fun wk hwk=>?_) ?_
  ·rw [← (zW hwk).1 _ _ lb] at b1;go_simp
  refine sW (fun K hK=>?_);go_simp;refine hK _ ?_;clear hK K;refine sX (v:=.float .f64 b) rfl rfl (fun wk hwk=>?_) ?_
  ·rw [← (zW hwk).1 _ _ la] at a1;go_simp
  refine sW (fun K hK=>?_);go_simp;refine hK _ ?_;clear hK K;refine sX (v:=.float .f64 c) rfl rfl (fun wk hwk=>?_) ?_
  ·rw [← (zW hwk).1 _ _ lb] at b0;go_simp
  exact rF fun L hL=>⟨_,_,_,_,_,rfl,fun _=>hbZ,fun h=>absurd h (by rw [hL 13 (by decide)]; decide),fun h=>absurd h (by rw [hL 13 (by decide)]; decide),fun h=>absurd h (by rw [hL 4 (by decide)]; decide),fun h=>absurd h (by rw [hL 5 (by decide)]; decide),fun h=>absurd h (by rw [hL 10 (by decide)]; decide),fun h=>absurd h (by rw [hL 11 (by decide)]; decide),fun h=>absurd h (by rw [hL 12 (by decide)]; decide)⟩
 case o4=>
  rintro L u w' hL hd ⟨v4,v5,v10,v11,v12,rfl,hI⟩ K hK
  have h13:L 13=false:=by
   cases e:L 13
   ·rfl
   ·exact absurd ((hI.o e).1.symm.trans hL) (by decide)
  have hb:=hI.n h13;go_simp;exact hK _ _ (fun _=>below_drewN hb _) ⟨_,_,_,_,_,rfl,fun _=>below_drewN hb _,fun h=>absurd (h13.symm.trans h) (by decide),fun h=>absurd (h13.symm.trans h) (by decide),fun _=>⟨_,rfl,HF.out.1 _,HF.out.2.2.1 _⟩,hI.h5,hI.h10,hI.h11,hI.h12⟩
 case o5=>
  rintro L u w' hL hd ⟨v4,v5,v10,v11,v12,rfl,hI⟩ K hK
  have h13:L 13=false:=by
   cases e:L 13
   ·rfl
   ·exact absurd ((hI.o e).2.1.symm.trans hL) (by decide)
  have hb:=hI.n h13;obtain ⟨z,rfl,z1,z2⟩:=hI.h4 (hd 4 (by decide));go_simp;refine (rG _ _ z2).mono ?_;rintro e W ⟨rfl,rfl⟩;exact hK _ _ (fun _=>hb) ⟨_,_,_,_,_,rfl,fun _=>hb,fun h=>absurd (h13.symm.trans h) (by decide),fun h=>absurd (h13.symm.trans h) (by decide),hI.h4,fun _=>by rw [← z1,ud],hI.h10,hI.h11,hI.h12⟩
 case o10=>
  rintro L u w' hL hd ⟨v4,v5,v10,v11,v12,rfl,hI⟩ K hK
  have h13:L 13=false:=by
   cases e:L 13
   ·rfl
   ·exact absurd ((hI.o e).2.2.1.symm.trans hL) (by decide)
  have hb:=hI.n h13;go_simp;exact hK _ _ (fun _=>below_drewN hb _) ⟨_,_,_,_,_,rfl,fun _=>below_drewN hb _,fun h=>absurd (h13.symm.trans h) (by decide),fun h=>absurd (h13.symm.trans h) (by decide),hI.h4,hI.h5,fun _=>⟨_,rfl,HF.out.2.1 _,HF.out.2.2.2 _⟩,hI.h11,hI.h12⟩
 case o11=>
  rintro L u w' hL hd ⟨v4,v5,v10,v11,v12,rfl,hI⟩ K hK
  have h13:L 13=false:=by
   cases e:L 13
   ·rfl
   ·exact absurd ((hI.o e).2.2.2.1.symm.trans hL) (by decide)
  have hb:=hI.n h13;obtain ⟨z,rfl,z1,z2⟩:=hI.h10 (hd 10 (by decide));go_simp;refine (rup_any _ _ z2).mono ?_;rintro e W ⟨rfl,rfl⟩;exact hK _ _ (fun _=>hb) ⟨_,_,_,_,_,rfl,fun _=>hb,fun h=>absurd (h13.symm.trans h) (by decide),fun h=>absurd (h13.symm.trans h) (by decide),hI.h4,hI.h5,hI.h10,fun _=>by rw [← z1,tp],hI.h12⟩
 case o12=>
  rintro L u w' hL hd ⟨v4,v5,v10,v11,v12,rfl,hI⟩ K hK
  have h13:L 13=false:=by
   cases e:L 13
   ·rfl
   ·exact absurd ((hI.o e).2.2.2.2.symm.trans hL) (by decide)
  have hb:=hI.n h13;obtain rfl:=hI.h5 (hd 5 (by decide));obtain rfl:=hI.h11 (hd 11 (by decide));go_simp;refine (HM.out _).mono ?_;rintro e W ⟨rfl,hb1⟩;have hb2:=hb.trans (hb1.mono hb.size);exact hK _ _ (fun _=>hb2) ⟨_,_,_,_,_,rfl,fun _=>hb2,fun h=>absurd (h13.symm.trans h) (by decide),fun h=>absurd (h13.symm.trans h) (by decide),hI.h4,hI.h5,hI.h10,hI.h11,fun _=>rfl⟩
 case o13=>
  rintro L u w' hL hd ⟨v4,v5,v10,v11,v12,rfl,hI⟩ K hK;have hb:=hI.n hL;have g12:=hd 12 (by decide);obtain rfl:=hI.h12 g12;have hz:=(hb.block (B+2) (by omega)).trans X3.out;have c0:=at_block hz 0;have c1:=at_block hz 1;have q0:=rD hz 0;have q1:=rD hz 1;simp only [List.getElem?_toArray,List.getElem?_cons_zero,List.getElem?_cons_succ] at c0 c1;have K2:=zR (.float .f64 x) (.float .f64 y) c0 c1;have HW:Below B w ((w'.setCell ⟨B+2,0,none⟩ (.float .f64 x)).setCell ⟨B+2,1,none⟩ (.float .f64 y)):=((X5.out.trans (hb.mono (by omega))).setCell (p:=⟨B+2,0,none⟩) (by show B≤B+2; omega) _).setCell (p:=⟨B+2,1,none⟩) (by show B≤B+2; omega) _;clear hz X3 X5;unfold iv;go_simp;exact hK _ _ (fun h=>Bool.noConfusion (Eq.trans (Eq.symm (by kernel_rfl:_=false)) h)) ⟨_,_,_,_,_,rfl,fun h=>Bool.noConfusion (Eq.trans (Eq.symm h) (by rfl:_=true)),fun _=>⟨HW,K2.1,K2.2⟩,fun _=>⟨hd 4 (by decide),hd 5 (by decide),hd 10 (by decide),hd 11 (by decide),g12⟩,hI.h4,hI.h5,hI.h10,hI.h11,hI.h12⟩
 case fin=>
  rintro L u w' hL ⟨v4,v5,v10,v11,v12,rfl,hI⟩;obtain ⟨z1,z2,z3⟩:=hI.z (hL 13 (by decide));clear X3 X5;go_wp2_with fail;exact bodyPost_ret (v:=iv x y) (by simp [results,Try.results45,go_sem,z2,z3]) rfl ⟨rfl,by first | exact z1 | (rw [hB]; exact z1)⟩
theorem ridx4 (a b c d:Nat) {k:Nat} (hk:k<4) {w:World} {B:Nat} (h:w.heap[B]? = some (.cells #[.float .f64 a,.float .f64 b,.float .f64 c,.float .f64 d] 86)):w.cell? ⟨B,k,none⟩=some (.float .f64 (at4 a b c d k)):=by
 rw [at_block h];have:k=0∨k=1∨k=2∨k=3:=by omega
 rcases this with rfl | rfl | rfl | rfl<;>rfl
theorem raround_any (a b c d:Nat) (w:World) (ha:a<18446744073709551616) (hb:b<18446744073709551616) (hc':c<18446744073709551616) (hd:d<18446744073709551616) :
  Calls Try.prog 76 #[arr4 a b c d] w (yk (zJ a b c d) w):=by
 have AL:=al2 w (.cells #[.float .f64 a,.float .f64 b,.float .f64 c,.float .f64 d] 86) (.cells #[.float .f64 0,.float .f64 0] 26);have hall:∀ x ∈ [a,b,c,d],x<18446744073709551616:=by simp [ha,hb,hc',hd]
 have LL:=hid (show xr a [a,b,c,d]<18446744073709551616∧xt a [a,b,c,d]<18446744073709551616 from ⟨vN (xs:=[a,b,c,d]) ha hall,vO (xs:=[a,b,c,d]) ha hall⟩);have NN:=hid (show (xj a b c d 4=true→zJ a b c d=iv 18442240474082181120 9218868437227405312)∧(xj a b c d 4=false→zJ a b c d=yI (xr a [a,b,c,d]) (xt a [a,b,c,d])) from ⟨fun h=>by rw [tq] at h; unfold zJ; rw [h]; rfl,fun h=>by rw [tq] at h; unfold zJ; rw [h]; rfl⟩);clear hall ha hb hc' hd;go_enter Try.func76,Try.ntmps76;go_upto_region 1 with fail
 generalize hB:w.heap.size=B at *;generalize (w.alloc (.cells #[.float .f64 a,.float .f64 b,.float .f64 c,.float .f64 d] 86)).alloc (.cells #[.float .f64 0,.float .f64 0] 26)=X at *;obtain ⟨x1,x2,x4,x5⟩:=AL;have i0:=ridx4 a b c d (k:=0) (by decide) x1;have XX:=hid (show X.heap[B]? = _∧X.heap[B+1]? = _∧Below B w X from ⟨x1,x2,x5⟩);clear x1 x2 x5;refine sw [(0,1),(1,2),(2,1),(3,2),(4,1),(5,1)] (by kernel_rfl) (by kernel_rfl) (fun _ _ d _ _ h=>by cases d<;>exact h) ?_;intro Z hZ;have hz:∀ b o,Z.cell? ⟨b,o,none⟩=X.cell? ⟨b,o,none⟩:=fun b o=>by rw [hZ]; rfl
 have hbZ:Below X.heap.size X Z:=by rw [hZ]; exact (Below.refl _ _).drew
 rw [← hz] at i0;clear hz hZ
 iterate 6
  first
   | refine sT (fun K hK=>?_)
   | refine sU (fun K hK=>?_)
  go_simp;refine hK _ ?_;clear hK K
 refine rE ?_;clear i0;go_wp2_with fail
 go_loopw [3,4,5] (fun lo hi i wr=>∃ k:Nat,k≤4∧i=.int .i64 k∧xj a b c d k=false∧lo=.float .f64 (mnK a b c d k)∧hi=.float .f64 (mxK a b c d k)∧Below X.heap.size X wr) (fun _ _ i _=>4-(intOf i).toNat)
 case atStart=>exact ⟨0,by omega,rfl,rfl,rfl,rfl,hbZ⟩
 case round=>
  clear hbZ;obtain ⟨k,hk,rfl,hn,rfl,rfl,hbr⟩:=hrel;by_cases hlt:k<4
  ·have i0:=ridx4 a b c d hlt ((hbr.block B (by omega)).trans XX.out.1);have N1:=hid (uD a b c d hlt);have N2:=hid (tS a b c d hlt);have N3:=hid (tT a b c d hlt);have hn':=hid hn;have hl:=hid (fun h=>uf (a:=a) (b:=b) (c:=c) (d:=d) (k:=k+1) (by omega) h);have HBR:=hid hbr;clear hn hbr;generalize at4 a b c d k=x at *;generalize hmn:mnK a b c d k=mn at *;generalize hmx:mxK a b c d k=mx at *;clear hmn hmx;go_wp2_with fail;refine sw [(0,1),(1,1),(2,2),(3,1),(4,1),(5,2),(6,1)] (by kernel_rfl) (by kernel_rfl) (fun _ _ d _ _ h=>by cases d<;>exact h) ?_;intro Z hZ;have hz:∀ b o,Z.cell? ⟨b,o,none⟩=wr.cell? ⟨b,o,none⟩:=fun b o=>by rw [hZ]; rfl
   have HBZ:=hid (show Below X.heap.size X Z by rw [hZ]; exact HBR.out.drew);rw [← hz] at i0;clear hz hZ HBR
   iterate 7
    first
     | refine sT (fun K hK=>?_)
     | refine sU (fun K hK=>?_)
    go_simp;refine hK _ ?_;clear hK K
   refine rE ?_;cases h1:isN x
   ·cases h2:ltB x mn<;>cases h3:ltB mx x
    all_goals
     go_wp2_with fail
     go_roundw
     case rel=>exact ⟨k+1,by omega,by go_num,by rw [N1.out,hn'.out,h1]; rfl,by rw [N2.out,h2]; rfl,by rw [N3.out,h3]; rfl,HBZ.out⟩
     case measure=>simp [intOf]; omega
   ·go_wp2_with fail;refine (rwhole_any _).mono ?_;rintro e w2 ⟨rfl,hb2⟩;have hz:=((HBZ.out.trans (hb2.mono HBZ.out.size)).block (B+1) (by omega)).trans XX.out.2.1;have c0:=at_block hz 0;have c1:=at_block hz 1;have q0:=rD hz 0;have q1:=rD hz 1;simp only [List.getElem?_toArray,List.getElem?_cons_zero,List.getElem?_cons_succ] at c0 c1;have K2:=zR (.float .f64 18442240474082181120) (.float .f64 9218868437227405312) c0 c1;have HW:=hid (show Below B w ((w2.setCell ⟨B+1,0,none⟩ (.float .f64 18442240474082181120)).setCell ⟨B+1,1,none⟩ (.float .f64 9218868437227405312)) from ((XX.out.2.2.trans ((HBZ.out.trans (hb2.mono HBZ.out.size)).mono (by omega))).setCell (p:=⟨B+1,0,none⟩) (by show B≤B+1; omega) _).setCell (p:=⟨B+1,1,none⟩) (by show B≤B+1; omega) _);clear hz hb2;go_wp2_with fail;have e4:xj a b c d 4=true:=hl.out (by rw [N1.out,h1]; simp);exact bodyPost_ret (v:=iv 18442240474082181120 9218868437227405312) (by simp [results,Try.results76,go_sem,K2.1,K2.2]) rfl ⟨by rw [NN.out.1 e4],by first | exact HW.out | (rw [hB]; exact HW.out)⟩
  ·obtain rfl:k=4:=by omega
   have hs:=NN.out.2 hn;have HBR:=hid hbr;have e1:mnK a b c d 4=xr a [a,b,c,d]:=rfl;have e2:mxK a b c d 4=xt a [a,b,c,d]:=rfl;rw [e1,e2];have hl:=LL.out;generalize xr a [a,b,c,d]=lo at *;generalize xt a [a,b,c,d]=hi at *;obtain ⟨x,y,hxy⟩:=xL lo hi;have HM:=hid (fun W=>show Calls Try.prog 72 #[.float .f64 (zD lo),.float .f64 (upB hi)] W (yk (iv x y) W) from hxy ▸ rmake_any _ _ W);have HE:=hid (hs.trans hxy);obtain ⟨l1,l2⟩:=hl;clear hn hs hbr e1 e2 hxy LL NN;go_wp2_with (first | (go_at_call 74; refine (rup_any _ _ l2).mono ?_; rintro e w' ⟨rfl,rfl⟩) | (go_at_call 73; refine (rG _ _ l1).mono ?_; rintro e w' ⟨rfl,rfl⟩))
   refine (HM.out _).mono ?_;rintro e w2 ⟨rfl,hb2⟩;have hz:=((HBR.out.trans (hb2.mono HBR.out.size)).block (B+1) (by omega)).trans XX.out.2.1;have c0:=at_block hz 0;have c1:=at_block hz 1;have q0:=rD hz 0;have q1:=rD hz 1;simp only [List.getElem?_toArray,List.getElem?_cons_zero,List.getElem?_cons_succ] at c0 c1;have K2:=zR (.float .f64 x) (.float .f64 y) c0 c1;have HW:=hid (show Below B w ((w2.setCell ⟨B+1,0,none⟩ (.float .f64 x)).setCell ⟨B+1,1,none⟩ (.float .f64 y)) from ((XX.out.2.2.trans ((HBR.out.trans (hb2.mono HBR.out.size)).mono (by omega))).setCell (p:=⟨B+1,0,none⟩) (by show B≤B+1; omega) _).setCell (p:=⟨B+1,1,none⟩) (by show B≤B+1; omega) _);clear hz hb2;go_wp2_with fail;exact bodyPost_ret (v:=iv x y) (by simp [results,Try.results76,go_sem,K2.1,K2.2]) rfl ⟨by rw [HE.out],by first | exact HW.out | (rw [hB]; exact HW.out)⟩
theorem rmul_any (a b c d:Nat) (w:World):Calls Try.prog 51 #[iv a b,iv c d] w (yk (tr a b c d) w):=by
 unfold tr;obtain ⟨x,y,hxy⟩:=wl (cop .mul a c) (cop .mul a d) (cop .mul b c) (cop .mul b d);rw [hxy]
 have hm:∀ W w1 w2 w3 w4,Calls Try.prog 76 #[arr4 (zV .mul w1 a c) (zV .mul w2 a d) (zV .mul w3 b c) (zV .mul w4 b d)] W (yk (iv x y) W):=fun W w1 w2 w3 w4=>
  (raround_any _ _ _ _ W (yc _ _ _ _) (yc _ _ _ _) (yc _ _ _ _) (yc _ _ _ _)).mono fun _ _ h=>h.eq (by rw [xM,hxy])
 have HM:=hid hm;clear hm hxy;go_enter Try.func51,Try.ntmps51;go_wp2_with fail;refine (HM.out _ _ _ _ _).mono ?_;rintro e w1 ⟨rfl,hb1⟩;obtain ⟨hc,hf⟩:=yr hb1;have k0:w1.cell? ⟨w.heap.size+2,0,none⟩=some (.float .f64 0):=by rw [hc _ _ (by simp)]; go_simp
 have k1:w1.cell? ⟨w.heap.size+2,1,none⟩=some (.float .f64 0):=by rw [hc _ _ (by simp)]; go_simp
 have K:=hid (zR (.float .f64 x) (.float .f64 y) k0 k1);go_wp2_with fail
 exact bodyPost_ret (v:=iv x y) (by simp [results,Try.results51,go_sem,K.out.1,K.out.2]) rfl ⟨rfl,(by
  refine Below.setCell (Below.setCell (Below.trans ?_ (hb1.mono (by simp<;>omega))) (by simp<;>omega) _) (by simp<;>omega) _
  repeat (first | exact Below.refl _ _ | refine zI ?_ _ | refine Below.alloc ?_ (by simp<;>omega) _))⟩
theorem rdiv_any (a b c d:Nat) (w:World):Calls Try.prog 60 #[iv a b,iv c d] w (yk (divI a b c d) w):=by
 unfold divI;have hin:=fun W=>rholds_any c d W
 cases h0:(leB c 0&&leB 0 d)
 ·rw [h0] at hin;rw [if_neg (by decide)];obtain ⟨x,y,hxy⟩:=wl (cop .quo a c) (cop .quo a d) (cop .quo b c) (cop .quo b d);rw [hxy]
  have hm:∀ W w1 w2 w3 w4,Calls Try.prog 76 #[arr4 (zV .quo w1 a c) (zV .quo w2 a d) (zV .quo w3 b c) (zV .quo w4 b d)] W (yk (iv x y) W):=fun W w1 w2 w3 w4=>
   (raround_any _ _ _ _ W (yc _ _ _ _) (yc _ _ _ _) (yc _ _ _ _) (yc _ _ _ _)).mono fun _ _ h=>h.eq (by rw [xM,hxy])
  have HM:=hid hm;have HI:=hid hin;clear hm hxy hin h0;go_enter Try.func60,Try.ntmps60;go_wp2_with fail;refine (HI.out _).mono ?_;rintro e w1 ⟨rfl,hb1⟩;obtain ⟨hc,hf⟩:=yr hb1;go_wp2_with fail;refine (HM.out _ _ _ _ _).mono ?_;rintro e w2 ⟨rfl,hb2⟩;have hc2:∀ b o,b<w1.heap.size→w2.cell? ⟨b,o,none⟩=w1.cell? ⟨b,o,none⟩:=fun b o h=>(yr hb2).1 b o h
  have hf2:∀ b o,b<w1.heap.size→w2.frozen? ⟨b,o,none⟩=w1.frozen? ⟨b,o,none⟩:=fun b o h=>(yr hb2).2 b o h
  have hz:w.heap.size+2<w1.heap.size:=by have:=hb1.size; simp at this; omega
  have hz2:w.heap.size+1+1<w1.heap.size:=hz;have k0:w2.cell? ⟨w.heap.size+2,0,none⟩=some (.float .f64 0):=by rw [hc2 _ _ hz,hc _ _ (by simp)]; go_simp
  have k1:w2.cell? ⟨w.heap.size+2,1,none⟩=some (.float .f64 0):=by rw [hc2 _ _ hz,hc _ _ (by simp)]; go_simp
  have K:=hid (zR (.float .f64 x) (.float .f64 y) k0 k1);go_wp2_with fail
  exact bodyPost_ret (v:=iv x y) (by simp [results,Try.results60,go_sem,K.out.1,K.out.2]) rfl ⟨rfl,(by
   refine Below.setCell (Below.setCell (Below.trans (zI (Below.trans ?_ (hb1.mono (by simp<;>omega))) _) (hb2.mono (by simp<;>omega))) (by simp<;>omega) _) (by simp<;>omega) _
   repeat (first | exact Below.refl _ _ | refine zI ?_ _ | refine Below.alloc ?_ (by simp<;>omega) _))⟩
 ·rw [h0] at hin;rw [if_pos rfl];have HI:=hid hin;clear hin h0;go_enter Try.func60,Try.ntmps60;go_wp2_with fail;refine (HI.out _).mono ?_;rintro e w1 ⟨rfl,hb1⟩;obtain ⟨hc,hf⟩:=yr hb1;go_wp2_with fail;refine (rwhole_any _).mono ?_;rintro e w2 ⟨rfl,hb2⟩;obtain ⟨hc2,hf2⟩:=yr hb2;have hz:w.heap.size+2<w1.heap.size:=by have:=hb1.size; simp at this; omega
  have hz2:w.heap.size+1+1<w1.heap.size:=hz;have k0:w2.cell? ⟨w.heap.size+2,0,none⟩=some (.float .f64 0):=by rw [hc2 _ _ hz,hc _ _ (by simp)]; go_simp
  have k1:w2.cell? ⟨w.heap.size+2,1,none⟩=some (.float .f64 0):=by rw [hc2 _ _ hz,hc _ _ (by simp)]; go_simp
  have K:=hid (zR (.float .f64 18442240474082181120) (.float .f64 9218868437227405312) k0 k1);go_wp2_with fail
  exact bodyPost_ret (v:=iv 18442240474082181120 9218868437227405312) (by simp [results,Try.results60,go_sem,K.out.1,K.out.2]) rfl ⟨rfl,(by
   refine Below.setCell (Below.setCell (Below.trans (Below.trans ?_ (hb1.mono (by simp<;>omega))) (hb2.mono (by omega))) (by simp<;>omega) _) (by simp<;>omega) _
   repeat (first | exact Below.refl _ _ | refine zI ?_ _ | refine Below.alloc ?_ (by simp<;>omega) _))⟩
theorem addI_eq (x y:Nat × Nat):yI (cop .add x.1 y.1) (cop .add x.2 y.2)=iv (xP x.1 x.2 y.1 y.2).1 (xP x.1 x.2 y.1 y.2).2:=wJ _ _
end Go.Proofs.Ytgnledamhjbafaa
