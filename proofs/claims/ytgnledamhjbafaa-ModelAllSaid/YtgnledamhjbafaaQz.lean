/-
  Polynomials with what is left over: those that the laws make of numbers.
-/
import Derived.Test.YtgnledamhjbafaaQy
import Derived.IntWalk
namespace Go.Proofs.Ytgnledamhjbafaa
open Go.RowKit
open Ieee (double)
open Lib
attribute [local go_sem] zf ze zh zd zu zt zw zx zy zA zj zk zm zn zo zF yd zU zG xq
theorem within5_mod (a n:Int) (w:World) (h1:1≤n) (h2:n≤9223372036854775807) :
  Calls Try.prog 12 #[.int .i64 a,.int .i64 n] w fun e w'=>e=.returned (.int .i64 (a % n))∧w=w':=by
 have h2':=Int.emod_nonneg a (show n≠0 by omega);have h3:=Int.emod_lt_of_pos a (show 0<n by omega);have h:=vK (a:=a) h1;have H:=hid h;clear h;go_enter Try.func12,Try.ntmps12
 go_wp2
 ·go_ret;refine ⟨?_,rfl⟩;have:=H.out.1 (by assumption);exact uO (by rw [this]; unfold wrap64; omega)
 ·go_ret;refine ⟨?_,rfl⟩;exact uO (H.out.2 (by assumption))
set_option maxRecDepth 100000
set_option maxHeartbeats 16000000
theorem values9_tells (n:Nat) (v:Value) (zs:List Int) (w:World) (h:tx w v zs) (h1:1≤n) (h8:n≤9) :
  Calls Try.prog 26 #[.int .i64 n,v] w fun e w'=>∃ R cap,e=.returned (.slice (some ⟨R,0,none⟩) n cap)∧zM w' w.heap.size R n cap (su zs)∧Below w.heap.size w w':=by
 obtain ⟨a,cap0,rfl,hl,hr⟩:=h.read;obtain ⟨iF,hF,f1,f2,f3⟩:=info_parts infoF;have HF:=hid (show iF.zero=_∧iF.size=_∧iF.bytes=_ from ⟨f1,f2,f3⟩);have HF0:=hid hF;have HR:=hid hr;clear hF f1 f2 f3 hr h;go_enter Try.func26,Try.ntmps26;generalize hB:w.heap.size=B at *;go_wp2_with fail
 go_loopw [5,6] (fun vr i wr=>∃ (j:Nat) (qs:List Value),j≤n∧i=.int .i64 j∧wr.ownsRow B 24 1 vr j qs∧xi qs j (su zs)∧Below B w wr) (fun _ i _=>n-(intOf i).toNat)
 case atStart=>exact ⟨0,[],by omega,rfl,World.ownsRow_nil _ _ _ _,xi.nil _ _,Below.refl _ _⟩
 case round=>
  obtain ⟨j,qs,hj,rfl,ho,hq,hbl⟩:=hrel;obtain ⟨va,vcap,rfl⟩:=wT ho;by_cases hlt:j<n
  ·have HQ:=hid hq;have hsz:=hbl.size;have hrow:su zs j=c8 (nth zs j j % 65-32):=rfl;have HROW:=hid hrow;clear hq hrow;by_cases hz:j<zs.length
   ·obtain ⟨b,off,rfl,hbs,hc⟩:=HR.out (by omega);have d1:=hc j hz;rw [← show wr.cell? ⟨b,off+j,none⟩=w.cell? ⟨b,off+j,none⟩ from hbl.cell (p:=⟨b,off+j,none⟩) hbs] at d1;have hnth:nth zs j j=zs.getD j 0:=if_pos hz;generalize zs.getD j 0=u at *;have HN:=hid hnth;clear hc hnth;go_wp2_with fail;refine (wq u 65 _ (by decide) (by decide)).mono ?_;rintro e w' ⟨rfl,rfl⟩;have b1:=Int.emod_nonneg u (show (65:Int)≠0 by decide);have b2:=Int.emod_lt_of_pos u (show (0:Int)<65 by decide);have HU:=hid (show su zs j=c8 (u % 65-32) by rw [HROW.out,HN.out]);generalize u % 65=t at *;obtain ⟨k1,k2,k3,k4⟩:=ss (x:=t-32) (by omega) (by omega);have HK:=hid k3;have HO:=hid ho;clear k3 ho HN HROW;generalize c8 (t-32)=y at *
    go_wp2_with (first
     | (at_builtin; refine wpList_append_own_at _ rfl _ _ 34 rfl B 24 iF (.float .f64 0) 1 8 Try.underlying34 HF0.out HF.out.1 HF.out.2.1 HF.out.2.2 rfl (by decide) (.slice va j vcap) j qs rfl (xp (HO.out.alloc _) _) ⟨wr.heap.size,0,none⟩ 1 1 [.float .f64 y] rfl rfl (sN wr (.float .f64 y) 24 _) (by simp [Value.oneCell']) (by unfold maxLen; omega) (by omega) (yR _ _ _ (by omega)) ?_)
     | go_in)
    intro v' w2 hown' hgrow _ _;have hb2:Below B wr w2:=(zI ((Below.refl B wr).alloc (by omega) _) 0).trans (wi (xp (HO.out.alloc _) 0) (Nat.le_refl _) (yR _ _ _ (by omega)) hgrow);have hql:=HO.out.1;have hq':=HQ.out.app (by omega) (HK.out.trans HU.out.symm) k4;have HQ':=hid hq';have HO':=hid hown';clear hq' hown' hgrow k1 k2;go_wp2_with fail
    go_roundw
    case rel=>exact ⟨j+1,_,by omega,by go_num,HO'.out,HQ'.out,hbl.trans hb2⟩
    case measure=>simp [intOf]; omega
   ·have hnth:nth zs j j=(j:Int):=if_neg hz;have HN:=hid hnth;clear hnth;go_wp2_with fail;refine (wq (j:Int) 65 _ (by decide) (by decide)).mono ?_;rintro e w' ⟨rfl,rfl⟩;have b1:=Int.emod_nonneg (j:Int) (show (65:Int)≠0 by decide);have b2:=Int.emod_lt_of_pos (j:Int) (show (0:Int)<65 by decide);have HU:=hid (show su zs j=c8 ((j:Int) % 65-32) by rw [HROW.out,HN.out]);generalize (j:Int) % 65=t at *;obtain ⟨k1,k2,k3,k4⟩:=ss (x:=t-32) (by omega) (by omega);have HK:=hid k3;have HO:=hid ho;clear k3 ho HN HROW;generalize c8 (t-32)=y at *
    go_wp2_with (first
     | (at_builtin; refine wpList_append_own_at _ rfl _ _ 34 rfl B 24 iF (.float .f64 0) 1 8 Try.underlying34 HF0.out HF.out.1 HF.out.2.1 HF.out.2.2 rfl (by decide) (.slice va j vcap) j qs rfl (xp (HO.out.alloc _) _) ⟨wr.heap.size,0,none⟩ 1 1 [.float .f64 y] rfl rfl (sN wr (.float .f64 y) 24 _) (by simp [Value.oneCell']) (by unfold maxLen; omega) (by omega) (yR _ _ _ (by omega)) ?_)
     | go_in)
    intro v' w2 hown' hgrow _ _;have hb2:Below B wr w2:=(zI ((Below.refl B wr).alloc (by omega) _) 0).trans (wi (xp (HO.out.alloc _) 0) (Nat.le_refl _) (yR _ _ _ (by omega)) hgrow);have hql:=HO.out.1;have hq':=HQ.out.app (by omega) (HK.out.trans HU.out.symm) k4;have HQ':=hid hq';have HO':=hid hown';clear hq' hown' hgrow k1 k2;go_wp2_with fail
    go_roundw
    case rel=>exact ⟨j+1,_,by omega,by go_num,HO'.out,HQ'.out,hbl.trans hb2⟩
    case measure=>simp [intOf]; omega
  ·obtain rfl:j=n:=by omega
   obtain ⟨R,cap,hv,hO⟩:=hq.own ho (by omega);simp only [Value.slice.injEq] at hv;obtain ⟨rfl,-,rfl⟩:=hv;have HO:=hid hO;clear hO ho hq;go_wp2_with fail;go_ret;exact ⟨R,vcap,rfl,HO.out,hbl⟩
theorem values0_tells (v:Value) (w:World):Calls Try.prog 26 #[.int .i64 0,v] w (wh (.slice none 0 0) w):=by
 go_enter Try.func26,Try.ntmps26;go_wp2_with fail
 go_loopw [5,6] (fun vr i wr=>vr=.slice none 0 0∧i=.int .i64 0∧Below w.heap.size w wr) (fun _ i _=>0)
 case atStart=>exact ⟨rfl,rfl,Below.refl _ _⟩
 case round=>
  obtain ⟨rfl,rfl,hb⟩:=hrel;go_wp2_with fail;go_ret;exact ⟨rfl,hb⟩
def q4 (x:Int):Nat:=cop .quo (floatOfInt .f64 x) 4616189618054758400
def loZ (z:Int):Nat:=q4 (z % 65-32)
def hiZ (z:Int):Nat:=cop .add (loZ z) (q4 (wrap64 (z.tdiv 65) % 3))
def c8r (x:Int):Nat:=cop .quo (floatOfInt .f64 x) 4620693217682128896
def mkC (zs:List Int) (k:Nat):PQ:=if k<zs.length then (loZ (zs.getD k 0),hiZ (zs.getD k 0)) else (0,0)
def mkF (zs:List Int) (r:Int) (k:Nat):PQ:=if k=9 then (cop .sub 0 (c8r (r % 9)),c8r (r % 9)) else mkC zs k
def finN (x:Nat):Prop:=x % 9223372036854775808<9218868437227405312∧x<18446744073709551616
instance (x:Nat):Decidable (finN x):=inferInstanceAs (Decidable (_∧_))
theorem q4_fin:∀ i:Fin 65,finN (q4 ((i.val:Int)-32)):=by decide +kernel
theorem q4_sum:∀ i:Fin 65,∀ j:Fin 3,finN (cop .add (q4 ((i.val:Int)-32)) (q4 (j.val:Int))):=by decide +kernel
theorem q4_small:∀ j:Fin 3,finN (q4 (j.val:Int)):=by decide +kernel
theorem c8_fin:∀ j:Fin 9,finN (c8r (j.val:Int))∧finN (cop .sub 0 (c8r (j.val:Int))):=by decide +kernel
theorem finN.num {x:Nat} (h:finN x):isN x=false:=yN (Nat.le_of_lt h.1)
theorem lo_fin (z:Int):finN (loZ z):=by
 have h:=q4_fin ⟨(z % 65).toNat,by have:=Int.emod_nonneg z (show (65:Int)≠0 by decide); have:=Int.emod_lt_of_pos z (show (0:Int)<65 by decide); omega⟩;have e:(((z % 65).toNat:Nat):Int)=z % 65:=by have:=Int.emod_nonneg z (show (65:Int)≠0 by decide); omega
 simp only [e] at h;exact h
theorem hi_fin (z:Int):finN (hiZ z)∧finN (q4 (wrap64 (z.tdiv 65) % 3)):=by
 have a:=Int.emod_nonneg z (show (65:Int)≠0 by decide);have b:=Int.emod_lt_of_pos z (show (0:Int)<65 by decide);have c:=Int.emod_nonneg (wrap64 (z.tdiv 65)) (show (3:Int)≠0 by decide);have d:=Int.emod_lt_of_pos (wrap64 (z.tdiv 65)) (show (0:Int)<3 by decide);have h:=q4_sum ⟨(z % 65).toNat,by omega⟩ ⟨(wrap64 (z.tdiv 65) % 3).toNat,by omega⟩;have g:=q4_small ⟨(wrap64 (z.tdiv 65) % 3).toNat,by omega⟩;have e:(((z % 65).toNat:Nat):Int)=z % 65:=by omega
 have e2:(((wrap64 (z.tdiv 65) % 3).toNat:Nat):Int)=wrap64 (z.tdiv 65) % 3:=by omega
 simp only [e,e2] at h g;exact ⟨h,g⟩
theorem r_fin (r:Int):finN (c8r (r % 9))∧finN (cop .sub 0 (c8r (r % 9))):=by
 have a:=Int.emod_nonneg r (show (9:Int)≠0 by decide);have b:=Int.emod_lt_of_pos r (show (0:Int)<9 by decide);have h:=c8_fin ⟨(r % 9).toNat,by omega⟩;have e:(((r % 9).toNat:Nat):Int)=r % 9:=by omega
 simp only [e] at h;exact h
theorem fin0:finN 0:=by decide
theorem mkF_fin (zs:List Int) (r:Int) (k:Nat):finN (mkF zs r k).1∧finN (mkF zs r k).2:=by
 unfold mkF mkC;split
 ·exact ⟨(r_fin r).2,(r_fin r).1⟩
 ·split
  ·exact ⟨lo_fin _,(hi_fin _).1⟩
  ·exact ⟨fin0,fin0⟩
def mkS (zs:List Int) (j k:Nat):PQ:=if k<j then mkC zs k else (0,0)
theorem mkS_set (zs:List Int) {j:Nat} (hj:j<zs.length) (k:Nat):vM (mkS zs j) j (loZ (zs.getD j 0),hiZ (zs.getD j 0)) k=mkS zs (j+1) k:=by
 by_cases e:k=j
 ·subst e; rw [yp]; unfold mkS mkC; rw [if_pos (by omega),if_pos hj]
 ·rw [zY _ _ e];unfold mkS;by_cases e2:k<j
  ·rw [if_pos e2,if_pos (by omega)]
  ·rw [if_neg e2,if_neg (by omega)]
theorem mkS_skip (zs:List Int) {j:Nat} (hj:¬ j<zs.length) (k:Nat):mkS zs j k=mkS zs (j+1) k:=by
 unfold mkS mkC;by_cases e2:k<j
 ·rw [if_pos e2,if_pos (show k<j+1 by omega)]
 ·rw [if_neg e2];split
  ·rw [if_neg (by omega)]
  ·rfl
theorem mkS_end (zs:List Int) (r:Int) (k:Nat) (hk:k<10):vM (mkS zs 9) 9 (cop .sub 0 (c8r (r % 9)),c8r (r % 9)) k=mkF zs r k:=by
 unfold mkF;by_cases e:k=9
 ·subst e; rw [yp,if_pos rfl]
 ·rw [zY _ _ e,if_neg e]; unfold mkS; rw [if_pos (by omega)]
theorem make5_tells (v:Value) (zs:List Int) (r:Int) (w:World) (h:tx w v zs):Calls Try.prog 11 #[v,.int .i64 r] w (wh (modV (mkF zs r)) w):=by
 obtain ⟨a,cap0,rfl,hl,hr⟩:=h.read;have HR:=hid hr;have AL:=begin1 w;clear hr h;go_enter Try.func11,Try.ntmps11;go_upto_region 2 with fail
 generalize (w.alloc (.cells #[.float .f64 0,.float .f64 0,.float .f64 0,.float .f64 0,.float .f64 0,.float .f64 0,.float .f64 0,.float .f64 0,.float .f64 0,.float .f64 0,.float .f64 0,.float .f64 0,.float .f64 0,.float .f64 0,.float .f64 0,.float .f64 0,.float .f64 0,.float .f64 0,.float .f64 0,.float .f64 0] 29)).alloc (.cells #[.float .f64 0,.float .f64 0,.float .f64 0,.float .f64 0,.float .f64 0,.float .f64 0,.float .f64 0,.float .f64 0,.float .f64 0,.float .f64 0,.float .f64 0,.float .f64 0,.float .f64 0,.float .f64 0,.float .f64 0,.float .f64 0,.float .f64 0,.float .f64 0,.float .f64 0,.float .f64 0] 29)=X at *;generalize hB:w.heap.size=B at *;obtain ⟨HP,HQ,x4,x5⟩:=AL;have HX:=hid (show PB X B 10 (fun _=>(0,0))∧PB X (B+1) 10 (mkS zs 0)∧Below B w X from ⟨HP,HQ.congr (fun k _=>by unfold mkS; rw [if_neg (by omega)]),x5⟩);clear HP HQ x5;go_wp2_with fail
 go_loopw [6] (fun i wr=>∃ j:Nat,j≤9∧i=.int .i64 j∧PB wr B 10 (fun _=>(0,0))∧PB wr (B+1) 10 (mkS zs j)∧Below B w wr) (fun i _=>9-(intOf i).toNat)
 case atStart=>exact ⟨0,by omega,rfl,HX.out.1,HX.out.2.1,HX.out.2.2⟩
 case round=>
  clear HX;obtain ⟨j,h9,rfl,hR,hm,hb⟩:=hrel;have hws:=hb.size;by_cases hlt:j<9
  ·have hltI:(j:Int)<9:=by omega
   have hltI8:(j:Int)≤8:=by omega
   by_cases hz:j<zs.length
   ·have hzI:(j:Int)<(zs.length:Int):=by omega
    obtain ⟨b,off,rfl,hbs,hc⟩:=HR.out (by omega);have y1:=hc j hz;rw [← (zW (by rw [← hB] at hb; exact hb)).1 _ _ (by rw [hB]; exact hbs)] at y1;have HSET:=hid (fun k=>mkS_set zs hz k);generalize zs.getD j 0=u at *;have HM:=hid hm;have HRR:=hid hR;have HB:=hid hb;clear hm hR hb hc;go_wp2_with fail;refine (within5_mod u 65 _ (by decide) (by decide)).mono ?_;rintro e w' ⟨rfl,rfl⟩;have b1:=Int.emod_nonneg u (show (65:Int)≠0 by decide);have b2:=Int.emod_lt_of_pos u (show (0:Int)<65 by decide);have KL:=ut (show isN (cop .quo (floatOfInt .f64 (u % 65-32)) 4616189618054758400)=false from (lo_fin u).num);obtain ⟨kl1,kl2⟩:=KL;rw [show cop .quo (floatOfInt .f64 (u % 65-32)) 4616189618054758400=loZ u from rfl] at kl1;have e1:IntKind.i64.wrap (u % 65-32)=u % 65-32:=IntWalk.i64_in _ (by omega);go_wp2_with fail;refine (within5_mod (wrap64 (u.tdiv 65)) 3 _ (by decide) (by decide)).mono ?_;rintro e w' ⟨rfl,rfl⟩;have KS:=ut (show isN (cop .add (loZ u) (q4 (wrap64 (u.tdiv 65) % 3)))=false from (hi_fin u).1.num);obtain ⟨ks1,ks2⟩:=KS;rw [show cop .add (loZ u) (q4 (wrap64 (u.tdiv 65) % 3))=hiZ u from rfl] at ks1;have KQ:=ut (show isN (cop .quo (floatOfInt .f64 (wrap64 (u.tdiv 65) % 3)) 4616189618054758400)=false from (hi_fin u).2.num);obtain ⟨kq1,kq2⟩:=KQ;rw [show cop .quo (floatOfInt .f64 (wrap64 (u.tdiv 65) % 3)) 4616189618054758400=q4 (wrap64 (u.tdiv 65) % 3) from rfl] at kq1;have lM:B+1<wr.heap.size:=HM.out.lt;have s0:=HM.out.at0 j (by omega);have s1:=HM.out.at1 j (by omega);have s2:=HM.out.free (j*2);have s3:=HM.out.free (j*2+1);have HS:=hid ((HM.out.set (k:=j) (by omega) (loZ u,hiZ u)).congr (fun k _=>HSET.out k));have HW:=hid ((HB.out.setCell (p:=⟨B+1,j*2,none⟩) (show B≤B+1 by omega) (.float .f64 (loZ u))).setCell (p:=⟨B+1,j*2+1,none⟩) (show B≤B+1 by omega) (.float .f64 (hiZ u)));have HR2:=hid ((HRR.out.other (B:=B+1) (o:=j*2) (by omega) (.float .f64 (loZ u))).other (B:=B+1) (o:=j*2+1) (by omega) (.float .f64 (hiZ u)));clear HM HRR HB b1 b2 HSET;generalize wrap64 (u.tdiv 65) % 3=t at *;generalize loZ u=x at *;generalize hiZ u=y at *;go_wp2_with fail
    go_roundw
    case rel=>exact ⟨j+1,by omega,by go_num,HR2.out,HS.out,HW.out⟩
    case measure=>simp [intOf]; omega
   ·have hzI:¬ (j:Int)<(zs.length:Int):=by omega
    have HM:=hid (hm.congr (fun k _=>mkS_skip zs hz k));have HRR:=hid hR;have HB:=hid hb;clear hm hR hb;go_wp2_with fail
    go_roundw
    case rel=>exact ⟨j+1,by omega,by go_num,HRR.out,HM.out,HB.out⟩
    case measure=>simp [intOf]; omega
  ·obtain rfl:j=9:=by omega
   have HM:=hid hm;have HRR:=hid hR;have HB:=hid hb;clear hm hR hb;go_wp2_with fail;refine (within5_mod r 9 _ (by decide) (by decide)).mono ?_;rintro e w' ⟨rfl,rfl⟩;have KQ:=ut (show isN (cop .quo (floatOfInt .f64 (r % 9)) 4620693217682128896)=false from (r_fin r).1.num);obtain ⟨kq1,kq2⟩:=KQ;rw [show cop .quo (floatOfInt .f64 (r % 9)) 4620693217682128896=c8r (r % 9) from rfl] at kq1;have KS:=ut (show isN (cop .sub 0 (c8r (r % 9)))=false from (r_fin r).2.num);obtain ⟨ks1,ks2⟩:=KS;have s0:=HM.out.at0 9 (by omega);have s1:=HM.out.at1 9 (by omega);have s2:=HM.out.free 18;have s3:=HM.out.free 19;have HS:=hid ((HM.out.set (k:=9) (by omega) (cop .sub 0 (c8r (r % 9)),c8r (r % 9))).congr (fun k hk=>mkS_end zs r k hk));have HW:=hid ((HB.out.setCell (p:=⟨B+1,9*2,none⟩) (show B≤B+1 by omega) (.float .f64 (cop .sub 0 (c8r (r % 9))))).setCell (p:=⟨B+1,9*2+1,none⟩) (show B≤B+1 by omega) (.float .f64 (c8r (r % 9))));have HR2:=hid ((HRR.out.other (B:=B+1) (o:=9*2) (by omega) (.float .f64 (cop .sub 0 (c8r (r % 9))))).other (B:=B+1) (o:=9*2+1) (by omega) (.float .f64 (c8r (r % 9))));simp only [show 9*2=18 from rfl,show 18+1=19 from rfl] at s0 s1 HS HW HR2;clear HM HRR HB;generalize mkF zs r=M at *;generalize cop .sub 0 (c8r (r % 9))=x at *;generalize c8r (r % 9)=y at *;go_upto_region 10 with fail
   generalize ((_:World).setCell ⟨B+1,18,none⟩ (.float .f64 x)).setCell ⟨B+1,19,none⟩ (.float .f64 y)=wx at *;clear s0 s1 s2 s3 kq1 kq2 ks1 ks2;go_wp2_with (first | (refine wpList_loadM rfl _ rfl rfl HS.out ?_) | (refine wpList_storeM rfl _ _ rfl M rfl rfl HR2.out ?_) | fail)
   intro w4 hr4 hb4 hs4;have hb5:=HW.out.trans hb4;clear hb4 HW HR2 HS;go_wp2_with fail;exact ret_mod _ Try.results11 rfl hr4 rfl ⟨rfl,by first | exact hb5 | (rw [hB]; exact hb5)⟩
end Go.Proofs.Ytgnledamhjbafaa
