/-
  Contracts (what a function tells) and plain facts that a law's proof hangs on, for every input; no condition but those in their statements. Laid together of the texts Go.
-/
import Derived.Lib.Hide
import Derived.Test.YtgnledamhjbafaaQd
namespace Go.Proofs.Ytgnledamhjbafaa
open Go.RowKit Lib
attribute [local go_sem] zf ze zh zd zu zt zw zx zy zA zj zk zm zn zo
theorem yr {W w1:World} (hb:Below W.heap.size W w1):(∀ b o,b<W.heap.size→w1.cell? ⟨b,o,none⟩=W.cell? ⟨b,o,none⟩)∧(∀ b o,b<W.heap.size→w1.frozen? ⟨b,o,none⟩=W.frozen? ⟨b,o,none⟩):=
 ⟨fun b o h=>hb.cell (p:=⟨b,o,none⟩) h,fun b o h=>hb.frozen (p:=⟨b,o,none⟩) h⟩
theorem zQ (P:Program) (w:World) (a:Addr) (m:Mode) (b:Nat):(store a (.float .f64 b) m).run P w=stored P w a (.float .f64 b) m:=run_store P w a _ m rfl
attribute [local go_sem] zQ
abbrev iv (lo hi:Nat):Value:=.agg #[.float .f64 lo,.float .f64 hi]
def xK (a b:Nat):Value:=if leB a b then iv a b else iv 18442240474082181120 9218868437227405312
def yI (a b:Nat):Value:=xK (zD a) (upB b)
def xr (lo:Nat):List Nat→Nat
 | []=>lo
 | x :: xs=>xr (if ltB x lo then x else lo) xs
def xt (hi:Nat):List Nat→Nat
 | []=>hi
 | x :: xs=>xt (if ltB hi x then x else hi) xs
theorem tl (xs:List Nat):∀ lo x,xr lo (xs ++ [x])=if ltB x (xr lo xs) then x else xr lo xs:=by
 induction xs with
 | nil=>intro lo x; rfl
 | cons y ys ih=>intro lo x; exact ih _ x
theorem tn (xs:List Nat):∀ hi x,xt hi (xs ++ [x])=if ltB (xt hi xs) x then x else xt hi xs:=by
 induction xs with
 | nil=>intro lo x; rfl
 | cons y ys ih=>intro lo x; exact ih _ x
def zJ (a b c d:Nat):Value:=
 if isN a || isN b || isN c || isN d then iv 18442240474082181120 9218868437227405312 else yI (xr a [a,b,c,d]) (xt a [a,b,c,d])
theorem ud (x:Nat):zD (zg x)=zD x:=by
 cases h:isN x
 ·rw [zi h]
 ·have e:zg x=xI:=by unfold zg; rw [if_pos h]
  rw [e]; unfold zD; rw [h,if_pos rfl,if_pos (by decide)]
theorem tp (x:Nat):upB (zg x)=upB x:=by
 cases h:isN x
 ·rw [zi h]
 ·have e:zg x=xI:=by unfold zg; rw [if_pos h]
  rw [e]; unfold upB; rw [h,if_pos rfl,if_pos (by decide)]
theorem vk (a b c d:Nat):zJ (zg a) (zg b) (zg c) (zg d)=zJ a b c d:=by
 unfold zJ;rw [zK,zK,zK,zK];by_cases h:(isN a || isN b || isN c || isN d)=true
 ·rw [if_pos h,if_pos h]
 ·rw [if_neg h,if_neg h]
  have h':isN a=false∧isN b=false∧isN c=false∧isN d=false:=by
   cases h1:isN a<;>cases h2:isN b<;>cases h3:isN c<;>cases h4:isN d<;>simp [h1,h2,h3,h4] at h ⊢
  rw [zi h'.1,zi h'.2.1,zi h'.2.2.1,zi h'.2.2.2]
theorem tQ {x:Nat} (hx:x<18446744073709551616):upB x<18446744073709551616:=by
 cases h:isN x
 ·exact (wQ hx h).2.2
 ·unfold upB; rw [if_pos h]; decide
theorem ue {x:Nat} (hx:x<18446744073709551616):zD x<18446744073709551616:=by
 cases h:isN x
 ·exact (xe hx h).2.2
 ·unfold zD; rw [if_pos h]; decide
theorem zR {w1:World} {B:Nat} {u v:Value} (x y:Value) (h0:w1.cell? ⟨B,0,none⟩=some u) (h1:w1.cell? ⟨B,1,none⟩=some v) :
  ((w1.setCell ⟨B,0,none⟩ x).setCell ⟨B,1,none⟩ y).cell? ⟨B,0,none⟩=some x∧((w1.setCell ⟨B,0,none⟩ x).setCell ⟨B,1,none⟩ y).cell? ⟨B,1,none⟩=some y:=by
 have n1:(⟨B,1,none⟩:Addr)≠⟨B,0,none⟩:=by simp
 have n0:(⟨B,0,none⟩:Addr)≠⟨B,1,none⟩:=by simp
 constructor
 ·rw [World.cell?_setCell_other _ _ _ _ n1,World.cell?_setCell_same _ _ _ h0]
 ·refine World.cell?_setCell_same _ _ _ (u:=v) ?_;rw [World.cell?_setCell_other _ _ _ _ n0,h1]
def yk (v:Value) (w:World) (e:Ending) (w':World):Prop:=e=.returned v∧Below w.heap.size w w'
theorem yk.eq {v u:Value} {w w':World} {e:Ending} (h:yk v w e w') (hv:v=u):yk u w e w':=hv ▸ h
theorem vw (a b:Nat) (w:World):Calls Try.prog 93 #[iv a b] w (yk (.bool (leB a b)) w):=by
 go_enter Try.func93,Try.ntmps93
 go_wp2
 go_ret;exact ⟨rfl,(Below.refl _ _).alloc (Nat.le_refl _) _⟩
theorem xZ (w:World):Calls Try.prog 77 #[] w (yk (iv 18442240474082181120 9218868437227405312) w):=by
 go_enter Try.func77,Try.ntmps77;go_wp2_with (go_at_call 56; first | (with_reducible refine (wC _).mono ?_; rintro e w' ⟨rfl,rfl⟩) | (with_reducible refine (vL _).mono ?_; rintro e w' ⟨rfl,rfl⟩))
 exact bodyPost_ret (v:=iv 18442240474082181120 9218868437227405312) (by simp [results,Try.results77,go_sem]) rfl ⟨rfl,(Below.refl _ _).alloc (Nat.le_refl _) _⟩
theorem tR (a b:Nat) (w:World):Calls Try.prog 85 #[.float .f64 a,.float .f64 b] w (yk (xK a b) w):=by
 unfold xK;cases h:leB a b
 ·rw [if_neg (by decide)];go_enter Try.func85,Try.ntmps85;go_wp2_with fail;refine (vw _ _ _).mono ?_;rintro e w1 ⟨rfl,hb⟩;obtain ⟨hc,hf⟩:=yr hb;go_wp2_with fail;refine (xZ _).mono ?_;rintro e w2 ⟨rfl,hb2⟩;obtain ⟨hc2,hf2⟩:=yr hb2;have hz:w.heap.size<w1.heap.size:=by have:=hb.size; simp at this; omega
  have hz1:w.heap.size+1<w1.heap.size:=by have:=hb.size; simp at this; omega
  have k0:w2.cell? ⟨w.heap.size,0,none⟩=some (.float .f64 0):=by rw [hc2 _ _ hz,hc _ _ (by simp; omega)]; go_simp
  have k1:w2.cell? ⟨w.heap.size,1,none⟩=some (.float .f64 0):=by rw [hc2 _ _ hz,hc _ _ (by simp; omega)]; go_simp
  have k:=zR (.float .f64 18442240474082181120) (.float .f64 9218868437227405312) k0 k1;have K:=hid k;clear k;go_wp2_with fail;exact bodyPost_ret (v:=iv 18442240474082181120 9218868437227405312) (by simp [results,Try.results85,go_sem,K.out.1,K.out.2]) rfl ⟨rfl,Below.setCell (Below.setCell (Below.trans (Below.trans (((Below.refl _ _).alloc (Nat.le_refl _) _).alloc (by simp) _) (hb.mono (by simp; omega))) (hb2.mono (by omega))) (by simp) _) (by simp) _⟩
 ·rw [if_pos rfl];go_enter Try.func85,Try.ntmps85;go_wp2_with fail;refine (vw _ _ _).mono ?_;rintro e w1 ⟨rfl,hb⟩;obtain ⟨hc,hf⟩:=yr hb;have k0:w1.cell? ⟨w.heap.size,0,none⟩=some (.float .f64 0):=by rw [hc _ _ (by simp; omega)]; go_simp
  have k1:w1.cell? ⟨w.heap.size,1,none⟩=some (.float .f64 0):=by rw [hc _ _ (by simp; omega)]; go_simp
  have K:=hid (zR (.float .f64 a) (.float .f64 b) k0 k1);go_wp2_with fail;exact bodyPost_ret (v:=iv a b) (by simp [results,Try.results85,go_sem,K.out.1,K.out.2]) rfl ⟨rfl,Below.setCell (Below.setCell (Below.trans (((Below.refl _ _).alloc (Nat.le_refl _) _).alloc (by simp) _) (hb.mono (by simp; omega))) (by simp) _) (by simp) _⟩
theorem vz (a b:Nat):∃ x y,xK a b=iv x y:=by unfold xK; split<;>exact ⟨_,_,rfl⟩
theorem yS (a b:Nat) (w:World) (ha:a<18446744073709551616) (hb:b<18446744073709551616):Calls Try.prog 71 #[.float .f64 a,.float .f64 b] w (yk (yI a b) w):=by
 unfold yI;have hm:=fun w=>tR (zD a) (upB b) w
 obtain ⟨x,y,hxy⟩:=vz (zD a) (upB b);rw [hxy] at hm ⊢;have HM:=hid hm;clear hm hxy;go_enter Try.func71,Try.ntmps71;go_wp2_with (first | (go_at_call 87; refine (rf _ _ hb).mono ?_; rintro e w' ⟨rfl,rfl⟩) | (go_at_call 86; refine (tM _ _ ha).mono ?_; rintro e w' ⟨rfl,rfl⟩))
 refine (HM.out _).mono ?_;rintro e w1 ⟨rfl,hb1⟩;obtain ⟨hc,hf⟩:=yr hb1;have k0:w1.cell? ⟨w.heap.size,0,none⟩=some (.float .f64 0):=by rw [hc _ _ (by simp)]; go_simp
 have k1:w1.cell? ⟨w.heap.size,1,none⟩=some (.float .f64 0):=by rw [hc _ _ (by simp)]; go_simp
 have K:=hid (zR (.float .f64 x) (.float .f64 y) k0 k1);go_wp2_with fail;exact bodyPost_ret (v:=iv x y) (by simp [results,Try.results71,go_sem,K.out.1,K.out.2]) rfl ⟨rfl,Below.setCell (Below.setCell (Below.trans ((Below.refl _ _).alloc (Nat.le_refl _) _) (hb1.mono (by simp))) (by simp) _) (by simp) _⟩
theorem uC (a b:Nat):yI (zg a) (zg b)=yI a b:=by unfold yI; rw [ud,tp]
theorem vA (o p:BinOp) (w v:World) (a b c d:Nat):yI (zV o w a b) (zV p v c d)=yI (cop o a b) (cop p c d):=by
 rw [← uC,yf,yf]
theorem xL (a b:Nat):∃ x y,yI a b=iv x y:=vz _ _
theorem add_any (a b c d:Nat) (w:World):Calls Try.prog 42 #[iv a b,iv c d] w (yk (yI (cop .add a c) (cop .add b d)) w):=by
 obtain ⟨x,y,hxy⟩:=xL (cop .add a c) (cop .add b d);rw [hxy]
 have hm:∀ W w w',Calls Try.prog 71 #[.float .f64 (zV .add w a c),.float .f64 (zV .add w' b d)] W (yk (iv x y) W):=fun W w w'=>
  (yS _ _ W (yc _ _ _ _) (yc _ _ _ _)).mono fun _ _ h=>h.eq (by rw [vA,hxy])
 have HM:=hid hm;clear hm hxy;go_enter Try.func42,Try.ntmps42;go_wp2_with fail;refine (HM.out _ _ _).mono ?_;rintro e w1 ⟨rfl,hb1⟩;obtain ⟨hc,hf⟩:=yr hb1;have k0:w1.cell? ⟨w.heap.size+2,0,none⟩=some (.float .f64 0):=by rw [hc _ _ (by simp)]; go_simp
 have k1:w1.cell? ⟨w.heap.size+2,1,none⟩=some (.float .f64 0):=by rw [hc _ _ (by simp)]; go_simp
 have K:=hid (zR (.float .f64 x) (.float .f64 y) k0 k1);go_wp2_with fail
 exact bodyPost_ret (v:=iv x y) (by simp [results,Try.results42,go_sem,K.out.1,K.out.2]) rfl ⟨rfl,(by
  refine Below.setCell (Below.setCell (Below.trans ?_ (hb1.mono (by simp<;>omega))) (by simp<;>omega) _) (by simp<;>omega) _
  repeat (first | exact Below.refl _ _ | refine zI ?_ _ | refine Below.alloc ?_ (by simp<;>omega) _))⟩
theorem sG (a b c d:Nat) (w:World):Calls Try.prog 44 #[iv a b,iv c d] w (yk (yI (cop .sub a d) (cop .sub b c)) w):=by
 obtain ⟨x,y,hxy⟩:=xL (cop .sub a d) (cop .sub b c);rw [hxy]
 have hm:∀ W w w',Calls Try.prog 71 #[.float .f64 (zV .sub w a d),.float .f64 (zV .sub w' b c)] W (yk (iv x y) W):=fun W w w'=>
  (yS _ _ W (yc _ _ _ _) (yc _ _ _ _)).mono fun _ _ h=>h.eq (by rw [vA,hxy])
 have HM:=hid hm;clear hm hxy;go_enter Try.func44,Try.ntmps44;go_wp2_with fail;refine (HM.out _ _ _).mono ?_;rintro e w1 ⟨rfl,hb1⟩;obtain ⟨hc,hf⟩:=yr hb1;have k0:w1.cell? ⟨w.heap.size+2,0,none⟩=some (.float .f64 0):=by rw [hc _ _ (by simp)]; go_simp
 have k1:w1.cell? ⟨w.heap.size+2,1,none⟩=some (.float .f64 0):=by rw [hc _ _ (by simp)]; go_simp
 have K:=hid (zR (.float .f64 x) (.float .f64 y) k0 k1);go_wp2_with fail
 exact bodyPost_ret (v:=iv x y) (by simp [results,Try.results44,go_sem,K.out.1,K.out.2]) rfl ⟨rfl,(by
  refine Below.setCell (Below.setCell (Below.trans ?_ (hb1.mono (by simp<;>omega))) (by simp<;>omega) _) (by simp<;>omega) _
  repeat (first | exact Below.refl _ _ | refine zI ?_ _ | refine Below.alloc ?_ (by simp<;>omega) _))⟩
theorem rg (x a b:Nat) (w:World):Calls Try.prog 55 #[.float .f64 x,iv a b] w (yk (.bool (leB a x&&leB x b)) w):=by
 cases h1:leB a x<;>cases h2:leB x b
 all_goals
  go_enter Try.func55,Try.ntmps55
  go_wp2
  go_ret;exact ⟨rfl,(Below.refl _ _).alloc (Nat.le_refl _) _⟩
end Go.Proofs.Ytgnledamhjbafaa
namespace Go.Proofs.Ytgnledamhjbafaa
open Go.RowKit Lib
attribute [local go_sem] zf ze zh zd zu zt zw zx zy zA zj zk zm zn zo zQ
def mnK (a b c d:Nat) (k:Nat):Nat:=xr a ([a,b,c,d].take k)
def mxK (a b c d:Nat) (k:Nat):Nat:=xt a ([a,b,c,d].take k)
def at4 (a b c d:Nat) (k:Nat):Nat:=[a,b,c,d].getD k 0
theorem xE (a b c d:Nat) {k:Nat} (hk:k<4):[a,b,c,d].take (k+1)=[a,b,c,d].take k ++ [at4 a b c d k]:=by
 have:k=0∨k=1∨k=2∨k=3:=by omega
 rcases this with rfl | rfl | rfl | rfl<;>rfl
theorem tS (a b c d:Nat) {k:Nat} (hk:k<4):mnK a b c d (k+1)=if ltB (at4 a b c d k) (mnK a b c d k) then at4 a b c d k else mnK a b c d k:=by
 unfold mnK; rw [xE a b c d hk,tl]
theorem tT (a b c d:Nat) {k:Nat} (hk:k<4):mxK a b c d (k+1)=if ltB (mxK a b c d k) (at4 a b c d k) then at4 a b c d k else mxK a b c d k:=by
 unfold mxK; rw [xE a b c d hk,tn]
def xj (a b c d:Nat) (k:Nat):Bool:=([a,b,c,d].take k).any isN
theorem uD (a b c d:Nat) {k:Nat} (hk:k<4):xj a b c d (k+1)=(xj a b c d k || isN (at4 a b c d k)):=by
 unfold xj; rw [xE a b c d hk]; simp
theorem tq (a b c d:Nat):xj a b c d 4=(isN a || isN b || isN c || isN d):=by
 unfold xj; simp [Bool.or_assoc]
theorem uf {a b c d:Nat} {k:Nat} (hk:k≤4) (h:xj a b c d k=true):xj a b c d 4=true:=by
 have:k=0∨k=1∨k=2∨k=3∨k=4:=by omega
 unfold xj at *;rcases this with rfl | rfl | rfl | rfl | rfl<;>simp at h ⊢
 ·simp [h]
 ·rcases h with h | h<;>simp [h]
 ·rcases h with h | h | h<;>simp [h]
 ·rcases h with h | h | h | h<;>simp [h]
theorem idx4 (a b c d:Nat) {k:Nat} (hk:k<4) (w:World):(Instr.index 87 (.agg #[.float .f64 a,.float .f64 b,.float .f64 c,.float .f64 d]) (.int .i64 k)).run Try.prog w=.ok (.float .f64 (at4 a b c d k)) w:=by
 have i0:∀ w,(Instr.index 87 (.agg #[.float .f64 a,.float .f64 b,.float .f64 c,.float .f64 d]) (.int .i64 0)).run Try.prog w=.ok (.float .f64 a) w:=fun _=>by kernel_rfl
 have i1:∀ w,(Instr.index 87 (.agg #[.float .f64 a,.float .f64 b,.float .f64 c,.float .f64 d]) (.int .i64 1)).run Try.prog w=.ok (.float .f64 b) w:=fun _=>by kernel_rfl
 have i2:∀ w,(Instr.index 87 (.agg #[.float .f64 a,.float .f64 b,.float .f64 c,.float .f64 d]) (.int .i64 2)).run Try.prog w=.ok (.float .f64 c) w:=fun _=>by kernel_rfl
 have i3:∀ w,(Instr.index 87 (.agg #[.float .f64 a,.float .f64 b,.float .f64 c,.float .f64 d]) (.int .i64 3)).run Try.prog w=.ok (.float .f64 d) w:=fun _=>by kernel_rfl
 have:k=0∨k=1∨k=2∨k=3:=by omega
 rcases this with rfl | rfl | rfl | rfl
 ·exact i0 w
 ·exact i1 w
 ·exact i2 w
 ·exact i3 w
def uR (a b c d:Nat):Value:=if xj a b c d 4 then .tuple #[.float .f64 0,.float .f64 0,.bool false] else .tuple #[.float .f64 (mnK a b c d 4),.float .f64 (mxK a b c d 4),.bool true]
abbrev arr4 (a b c d:Nat):Value:=.agg #[.float .f64 a,.float .f64 b,.float .f64 c,.float .f64 d]
set_option maxHeartbeats 16000000
theorem tU (a b c d:Nat) (w:World):Calls Try.prog 89 #[arr4 a b c d] w (yk (uR a b c d) w):=by
 go_enter Try.func89,Try.ntmps89
 go_wp2
 go_quiet (fail)
 go_wp2
 go_loop [2,3,12] (fun lo hi i=>∃ k:Nat,k≤4∧i=.int .i64 k∧xj a b c d k=false∧lo=.float .f64 (mnK a b c d k)∧hi=.float .f64 (mxK a b c d k)) (fun _ _ i=>4-(intOf i).toNat)
 case atStart=>exact ⟨0,by omega,rfl,rfl,rfl,rfl⟩
 case round=>
  obtain ⟨k,hk,rfl,hn,rfl,rfl⟩:=hrel;by_cases hlt:k<4
  ·have hx:=fun w=>idx4 a b c d hlt w
   have N1:=hid (uD a b c d hlt);have N2:=hid (tS a b c d hlt);have N3:=hid (tT a b c d hlt);have hn':=hid hn;have hl:=hid (fun h=>uf (a:=a) (b:=b) (c:=c) (d:=d) (k:=k+1) (by omega) h);clear hn;generalize at4 a b c d k=x at *;generalize hmn:mnK a b c d k=mn at *;generalize hmx:mxK a b c d k=mx at *;clear hmn hmx;cases h1:isN x
   ·cases h2:ltB x mn<;>cases h3:ltB mx x
    all_goals
     go_wp2
     go_round
     case rel=>exact ⟨k+1,by omega,by go_num,by rw [N1.out,hn'.out,h1]; rfl,by rw [N2.out,h2]; rfl,by rw [N3.out,h3]; rfl⟩
     case measure=>simp [intOf]; omega
   ·go_wp2
    go_ret3
    have e4:xj a b c d 4=true:=hl.out (by rw [N1.out,h1]; simp);refine ⟨?_,zI ((Below.refl _ _).alloc (Nat.le_refl _) _) _⟩;unfold uR; rw [if_pos e4]; rfl
  ·obtain rfl:k=4:=by omega
   have hn':=hid hn;clear hn
   go_wp2
   go_ret3
   refine ⟨?_,zI ((Below.refl _ _).alloc (Nat.le_refl _) _) _⟩;unfold uR; rw [hn'.out]; rfl
theorem outI_lt {a b:Nat} (ha:a<18446744073709551616) (hb:b<18446744073709551616):∃ x y,yI a b=iv x y∧x<18446744073709551616∧y<18446744073709551616:=by
 unfold yI xK; split
 ·exact ⟨_,_,rfl,ue ha,tQ hb⟩
 ·exact ⟨_,_,rfl,by decide,by decide⟩
theorem vN {xs:List Nat}:∀ {lo:Nat},lo<18446744073709551616→(∀ x ∈ xs,x<18446744073709551616)→xr lo xs<18446744073709551616:=by
 induction xs with
 | nil=>intro lo h _; exact h
 | cons y ys ih=>
  intro lo h hx;refine ih ?_ (fun x m=>hx x (by simp [m]));split
  ·exact hx y (by simp)
  ·exact h
theorem vO {xs:List Nat}:∀ {lo:Nat},lo<18446744073709551616→(∀ x ∈ xs,x<18446744073709551616)→xt lo xs<18446744073709551616:=by
 induction xs with
 | nil=>intro lo h _; exact h
 | cons y ys ih=>
  intro lo h hx;refine ih ?_ (fun x m=>hx x (by simp [m]));split
  ·exact hx y (by simp)
  ·exact h
theorem wl (a b c d:Nat):∃ x y,zJ a b c d=iv x y:=by
 unfold zJ; split
 ·exact ⟨_,_,rfl⟩
 ·exact xL _ _
theorem wV (a b c d:Nat) (w:World) (ha:a<18446744073709551616) (hb:b<18446744073709551616) (hc':c<18446744073709551616) (hd:d<18446744073709551616) :
  Calls Try.prog 75 #[arr4 a b c d] w (yk (zJ a b c d) w):=by
 have hall:∀ x ∈ [a,b,c,d],x<18446744073709551616:=by simp [ha,hb,hc',hd]
 have l1:=vN (xs:=[a,b,c,d]) ha hall;have l2:=vO (xs:=[a,b,c,d]) ha hall;have he:=fun w=>tU a b c d w
 unfold uR at he;unfold zJ;rw [tq] at he;cases hn:(isN a || isN b || isN c || isN d)
 ·rw [hn,if_neg (by decide)] at he;rw [if_neg (by decide)];have e1:mnK a b c d 4=xr a [a,b,c,d]:=rfl;have e2:mxK a b c d 4=xt a [a,b,c,d]:=rfl;rw [e1,e2] at he;generalize xr a [a,b,c,d]=lo at *;generalize xt a [a,b,c,d]=hi at *;have ho:=fun w=>yS lo hi w l1 l2
  obtain ⟨x,y,hxy⟩:=xL lo hi;rw [hxy] at ho ⊢;have HE:=hid he;have HO:=hid ho;clear he ho hxy e1 e2 hn hall ha hb hc' hd;go_enter Try.func75,Try.ntmps75;go_wp2_with fail;refine (HE.out _).mono ?_;rintro e w1 ⟨rfl,hb1⟩;obtain ⟨hc,hf⟩:=yr hb1;go_wp2_with fail;refine (HO.out _).mono ?_;rintro e w2 ⟨rfl,hb2⟩;obtain ⟨hc2,hf2⟩:=yr hb2;have hz:w.heap.size<w1.heap.size:=by have:=hb1.size; simp at this; omega
  have hz1:w.heap.size+1<w1.heap.size:=by have:=hb1.size; simp at this; omega
  have k0:w2.cell? ⟨w.heap.size+1,0,none⟩=some (.float .f64 0):=by rw [hc2 _ _ hz1,hc _ _ (by simp<;>omega)]; go_simp
  have k1:w2.cell? ⟨w.heap.size+1,1,none⟩=some (.float .f64 0):=by rw [hc2 _ _ hz1,hc _ _ (by simp<;>omega)]; go_simp
  have K:=hid (zR (.float .f64 x) (.float .f64 y) k0 k1);go_wp2_with fail
  exact bodyPost_ret (v:=iv x y) (by simp [results,Try.results75,go_sem,K.out.1,K.out.2]) rfl ⟨rfl,(by
   refine Below.setCell (Below.setCell (Below.trans (Below.trans ?_ (hb1.mono (by simp<;>omega))) (hb2.mono (by omega))) (by simp<;>omega) _) (by simp<;>omega) _
   repeat (first | exact Below.refl _ _ | refine zI ?_ _ | refine Below.alloc ?_ (by simp<;>omega) _))⟩
 ·rw [hn,if_pos rfl] at he;rw [if_pos rfl];have HE:=hid he;clear he hn hall ha hb hc' hd l1 l2;go_enter Try.func75,Try.ntmps75;go_wp2_with fail;refine (HE.out _).mono ?_;rintro e w1 ⟨rfl,hb1⟩;obtain ⟨hc,hf⟩:=yr hb1;go_wp2_with fail;refine (xZ _).mono ?_;rintro e w2 ⟨rfl,hb2⟩;obtain ⟨hc2,hf2⟩:=yr hb2;have hz:w.heap.size<w1.heap.size:=by have:=hb1.size; simp at this; omega
  have hz1:w.heap.size+1<w1.heap.size:=by have:=hb1.size; simp at this; omega
  have k0:w2.cell? ⟨w.heap.size+1,0,none⟩=some (.float .f64 0):=by rw [hc2 _ _ hz1,hc _ _ (by simp<;>omega)]; go_simp
  have k1:w2.cell? ⟨w.heap.size+1,1,none⟩=some (.float .f64 0):=by rw [hc2 _ _ hz1,hc _ _ (by simp<;>omega)]; go_simp
  have K:=hid (zR (.float .f64 18442240474082181120) (.float .f64 9218868437227405312) k0 k1);go_wp2_with fail
  exact bodyPost_ret (v:=iv 18442240474082181120 9218868437227405312) (by simp [results,Try.results75,go_sem,K.out.1,K.out.2]) rfl ⟨rfl,(by
   refine Below.setCell (Below.setCell (Below.trans (Below.trans ?_ (hb1.mono (by simp<;>omega))) (hb2.mono (by omega))) (by simp<;>omega) _) (by simp<;>omega) _
   repeat (first | exact Below.refl _ _ | refine zI ?_ _ | refine Below.alloc ?_ (by simp<;>omega) _))⟩
theorem xM (o:BinOp) (w1 w2 w3 w4:World) (a1 b1 a2 b2 a3 b3 a4 b4:Nat) :
  zJ (zV o w1 a1 b1) (zV o w2 a2 b2) (zV o w3 a3 b3) (zV o w4 a4 b4)=zJ (cop o a1 b1) (cop o a2 b2) (cop o a3 b3) (cop o a4 b4):=by
 rw [← vk,yf,yf,yf,yf]
def tr (a b c d:Nat):Value:=zJ (cop .mul a c) (cop .mul a d) (cop .mul b c) (cop .mul b d)
def divI (a b c d:Nat):Value:=if leB c 0&&leB 0 d then iv 18442240474082181120 9218868437227405312 else zJ (cop .quo a c) (cop .quo a d) (cop .quo b c) (cop .quo b d)
def magB (a b:Nat):Nat:=if ltB (b % 9223372036854775808) (a % 9223372036854775808) then a % 9223372036854775808 else b % 9223372036854775808
theorem sH (a b c d:Nat) (w:World):Calls Try.prog 48 #[iv a b,iv c d] w (yk (tr a b c d) w):=by
 unfold tr;obtain ⟨x,y,hxy⟩:=wl (cop .mul a c) (cop .mul a d) (cop .mul b c) (cop .mul b d);rw [hxy]
 have hm:∀ W w1 w2 w3 w4,Calls Try.prog 75 #[arr4 (zV .mul w1 a c) (zV .mul w2 a d) (zV .mul w3 b c) (zV .mul w4 b d)] W (yk (iv x y) W):=fun W w1 w2 w3 w4=>
  (wV _ _ _ _ W (yc _ _ _ _) (yc _ _ _ _) (yc _ _ _ _) (yc _ _ _ _)).mono fun _ _ h=>h.eq (by rw [xM,hxy])
 have HM:=hid hm;clear hm hxy;go_enter Try.func48,Try.ntmps48;go_wp2_with fail;refine (HM.out _ _ _ _ _).mono ?_;rintro e w1 ⟨rfl,hb1⟩;obtain ⟨hc,hf⟩:=yr hb1;have k0:w1.cell? ⟨w.heap.size+2,0,none⟩=some (.float .f64 0):=by rw [hc _ _ (by simp)]; go_simp
 have k1:w1.cell? ⟨w.heap.size+2,1,none⟩=some (.float .f64 0):=by rw [hc _ _ (by simp)]; go_simp
 have K:=hid (zR (.float .f64 x) (.float .f64 y) k0 k1);go_wp2_with fail
 exact bodyPost_ret (v:=iv x y) (by simp [results,Try.results48,go_sem,K.out.1,K.out.2]) rfl ⟨rfl,(by
  refine Below.setCell (Below.setCell (Below.trans ?_ (hb1.mono (by simp<;>omega))) (by simp<;>omega) _) (by simp<;>omega) _
  repeat (first | exact Below.refl _ _ | refine zI ?_ _ | refine Below.alloc ?_ (by simp<;>omega) _))⟩
theorem div_any (a b c d:Nat) (w:World):Calls Try.prog 57 #[iv a b,iv c d] w (yk (divI a b c d) w):=by
 unfold divI;have hin:=fun W=>rg 0 c d W
 cases h0:(leB c 0&&leB 0 d)
 ·rw [h0] at hin;rw [if_neg (by decide)];obtain ⟨x,y,hxy⟩:=wl (cop .quo a c) (cop .quo a d) (cop .quo b c) (cop .quo b d);rw [hxy]
  have hm:∀ W w1 w2 w3 w4,Calls Try.prog 75 #[arr4 (zV .quo w1 a c) (zV .quo w2 a d) (zV .quo w3 b c) (zV .quo w4 b d)] W (yk (iv x y) W):=fun W w1 w2 w3 w4=>
   (wV _ _ _ _ W (yc _ _ _ _) (yc _ _ _ _) (yc _ _ _ _) (yc _ _ _ _)).mono fun _ _ h=>h.eq (by rw [xM,hxy])
  have HM:=hid hm;have HI:=hid hin;clear hm hxy hin h0;go_enter Try.func57,Try.ntmps57;go_wp2_with fail;refine (HI.out _).mono ?_;rintro e w1 ⟨rfl,hb1⟩;obtain ⟨hc,hf⟩:=yr hb1;go_wp2_with fail;refine (HM.out _ _ _ _ _).mono ?_;rintro e w2 ⟨rfl,hb2⟩;have hc2:∀ b o,b<w1.heap.size→w2.cell? ⟨b,o,none⟩=w1.cell? ⟨b,o,none⟩:=fun b o h=>(yr hb2).1 b o h
  have hf2:∀ b o,b<w1.heap.size→w2.frozen? ⟨b,o,none⟩=w1.frozen? ⟨b,o,none⟩:=fun b o h=>(yr hb2).2 b o h
  have hz:w.heap.size+2<w1.heap.size:=by have:=hb1.size; simp at this; omega
  have hz2:w.heap.size+1+1<w1.heap.size:=hz;have k0:w2.cell? ⟨w.heap.size+2,0,none⟩=some (.float .f64 0):=by rw [hc2 _ _ hz,hc _ _ (by simp)]; go_simp
  have k1:w2.cell? ⟨w.heap.size+2,1,none⟩=some (.float .f64 0):=by rw [hc2 _ _ hz,hc _ _ (by simp)]; go_simp
  have K:=hid (zR (.float .f64 x) (.float .f64 y) k0 k1);go_wp2_with fail
  exact bodyPost_ret (v:=iv x y) (by simp [results,Try.results57,go_sem,K.out.1,K.out.2]) rfl ⟨rfl,(by
   refine Below.setCell (Below.setCell (Below.trans (zI (Below.trans ?_ (hb1.mono (by simp<;>omega))) _) (hb2.mono (by simp<;>omega))) (by simp<;>omega) _) (by simp<;>omega) _
   repeat (first | exact Below.refl _ _ | refine zI ?_ _ | refine Below.alloc ?_ (by simp<;>omega) _))⟩
 ·rw [h0] at hin;rw [if_pos rfl];have HI:=hid hin;clear hin h0;go_enter Try.func57,Try.ntmps57;go_wp2_with fail;refine (HI.out _).mono ?_;rintro e w1 ⟨rfl,hb1⟩;obtain ⟨hc,hf⟩:=yr hb1;go_wp2_with fail;refine (xZ _).mono ?_;rintro e w2 ⟨rfl,hb2⟩;obtain ⟨hc2,hf2⟩:=yr hb2;have hz:w.heap.size+2<w1.heap.size:=by have:=hb1.size; simp at this; omega
  have hz2:w.heap.size+1+1<w1.heap.size:=hz;have k0:w2.cell? ⟨w.heap.size+2,0,none⟩=some (.float .f64 0):=by rw [hc2 _ _ hz,hc _ _ (by simp)]; go_simp
  have k1:w2.cell? ⟨w.heap.size+2,1,none⟩=some (.float .f64 0):=by rw [hc2 _ _ hz,hc _ _ (by simp)]; go_simp
  have K:=hid (zR (.float .f64 18442240474082181120) (.float .f64 9218868437227405312) k0 k1);go_wp2_with fail
  exact bodyPost_ret (v:=iv 18442240474082181120 9218868437227405312) (by simp [results,Try.results57,go_sem,K.out.1,K.out.2]) rfl ⟨rfl,(by
   refine Below.setCell (Below.setCell (Below.trans (Below.trans ?_ (hb1.mono (by simp<;>omega))) (hb2.mono (by omega))) (by simp<;>omega) _) (by simp<;>omega) _
   repeat (first | exact Below.refl _ _ | refine zI ?_ _ | refine Below.alloc ?_ (by simp<;>omega) _))⟩
theorem rI (x:Nat) (w:World) (hx:x<18446744073709551616):Calls Try.prog 38 #[.float .f64 x] w fun e w'=>e=.returned (.float .f64 (x % 9223372036854775808))∧w'=w:=
 (sE x w hx).mono fun _ _ ⟨h1,h2⟩=>⟨h1,h2.symm⟩
end Go.Proofs.Ytgnledamhjbafaa
