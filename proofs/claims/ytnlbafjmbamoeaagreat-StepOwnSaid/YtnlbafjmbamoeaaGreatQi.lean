/-
  Contracts (what a function tells) and plain facts that a law's proof hangs on, for every input; no condition but those in their statements. Laid together of the texts Cfa, Cfb, Cfc, Cfd, Cfe.
-/
import Derived.Test.YtnlbafjmbamoeaaGreatQc
import Derived.Laws.Rows
namespace Go.Proofs.YtnlbafjmbamoeaaGreat
open Go.RowKit Lib
open Ieee (double)
attribute [local go_sem] zr zi ye z8 zF yE
def Sml (x:Int):Prop:=-4611686018427387904≤x∧x≤4611686018427387904
theorem pH (p q:Nat):(p:Int).tmod (q:Int)=((p % q:Nat):Int):=by
 rw [Int.tmod_eq_emod_of_nonneg (by omega)]; rfl
set_option maxRecDepth 100000
theorem pI (a:Int) (b:Nat) (ha:Sml a) (hb:b≤4611686018427387904) (w:World) :
  Calls Tryz.prog 134 #[.int .i64 a,.int .i64 b] w fun e w'=>e=.returned (.int .i64 (Nat.gcd a.natAbs b:Nat))∧xp w w':=by
 unfold Sml at ha;go_enter Tryz.func134,Tryz.ntmps134
 go_upto_if 6 with fail
 go_cut [0] (fun v wx=>v=.int .i64 (a.natAbs:Nat)∧wx=w)
 case first=>
  by_cases h:a<0
  ·have k1:IntKind.i64.wrap (-a)=-a:=IntWalk.i64_in _ (by omega);go_wp2_with fail;go_meet;exact ⟨by rw [show ((a.natAbs:Nat):Int)=-a by omega],rfl⟩
  ·have h2:0≤a:=by omega
   go_wp2_with fail;go_meet;exact ⟨by rw [show ((a.natAbs:Nat):Int)=a by omega],rfl⟩
 case rest=>
  obtain ⟨rfl,rfl⟩:=hcut;have hA:a.natAbs≤4611686018427387904:=by omega
  obtain ⟨c,hc⟩:∃ c,a.natAbs=c:=⟨_,rfl⟩;have HC:=hid hc;simp only [hc] at hA ⊢;clear hc;go_wp2_with fail
  go_loopw [0,1] (fun x y wr=>∃ p q:Nat,x=.int .i64 p∧y=.int .i64 q∧p≤4611686018427387904∧q≤4611686018427387904∧Nat.gcd p q=Nat.gcd c b∧xp wc wr) (fun _ y _=>(intOf y).toNat)
  case atStart=>exact ⟨c,b,rfl,rfl,hA,hb,rfl,0,rfl⟩
  case round=>
   obtain ⟨p,q,rfl,rfl,p2,q2,hg,hd⟩:=hrel;have HD:=hid hd;clear hd;by_cases h0:q=0
   ·subst h0;go_wp2_with fail;go_ret;refine ⟨?_,HD.out⟩;rw [HC.out,← hg,Nat.gcd_zero_right];rfl
   ·have t1:=pH p q;have t2:p % q<q:=Nat.mod_lt _ (by omega);have h1:¬ (q:Int)=0:=by omega
    have h2:((q:Int) != 0)=true:=by simpa using h1
    have HGn:=hid (show Nat.gcd q (p % q)=Nat.gcd c b by rw [← hg,Nat.gcd_comm p q,Nat.gcd_rec q p,Nat.gcd_comm]);have k1:IntKind.i64.wrap ((p % q:Nat):Int)=((p % q:Nat):Int):=IntWalk.i64_in _ (by omega);clear hg;go_wp2_with fail;refine zw [(0,1),(1,1),(2,1),(3,1),(4,1),(5,1)] (by kernel_rfl) (by kernel_rfl) (fun _ _ d _ _ h=>by cases d<;>exact h) ?_;intro Z hZ;have HZ:=hid (show xp wc Z by rw [hZ]; exact HD.out.more 1);clear hZ HD
    iterate 6
     first
      | refine zd (fun K hK=>?_)
      | refine ze (fun K hK=>?_)
     go_simp;refine hK _ ?_;clear hK K
    refine zo ?_;go_wp2_with fail
    go_roundw
    case rel=>exact ⟨q,p % q,rfl,by go_num,by omega,by omega,HGn.out,HZ.out⟩
    case measure=>simp [intOf]; omega
def pJ (n d:Int):Int:=if n=0 then 0 else (if d<0 then -n else n).tdiv (Nat.gcd n.natAbs d.natAbs:Nat)
def pK (n d:Int):Int:=if n=0 then 1 else (if d<0 then -d else d).tdiv (Nat.gcd n.natAbs d.natAbs:Nat)
theorem pL {x:Int} (g:Nat) (h:Sml x):IntKind.i64.wrap (x.tdiv (g:Int))=x.tdiv (g:Int):=by
 refine IntWalk.i64_in _ ?_;unfold Sml at h
 have h1:(x.tdiv (g:Int)).natAbs≤x.natAbs:=by
  rw [Int.natAbs_tdiv];exact Nat.div_le_self _ _
 omega
theorem wX (n d:Int) (hn:Sml n) (hd:Sml d) (h0:d≠0) (w:World) :
  Calls Tryz.prog 118 #[.int .i64 n,.int .i64 d] w fun e w'=>e=.returned (.tuple #[.int .i64 (pJ n d),.int .i64 (pK n d)])∧xp w w':=by
 go_enter Tryz.func118,Tryz.ntmps118
 go_upto_if 8 with fail
 go_cut [0,1] (fun u v wx=>u=.int .i64 (if d<0 then -n else n)∧v=.int .i64 (d.natAbs:Nat)∧wx=w)
 case first=>
  unfold Sml at hn hd;by_cases h:d<0
  ·have k1:IntKind.i64.wrap (-d)=-d:=IntWalk.i64_in _ (by omega);have k2:IntKind.i64.wrap (-n)=-n:=IntWalk.i64_in _ (by omega);go_wp2_with fail;go_meet;exact ⟨by rw [if_pos h],by rw [show ((d.natAbs:Nat):Int)=-d by omega],rfl⟩
  ·have h2:0≤d:=by omega
   go_wp2_with fail;go_meet;exact ⟨by rw [if_neg (by omega)],by rw [show ((d.natAbs:Nat):Int)=d by omega],rfl⟩
 case rest=>
  obtain ⟨rfl,rfl,rfl⟩:=hcut;by_cases hz:n=0
  ·subst hz;have e0:(if d<0 then -(0:Int) else 0)=0:=by split<;>rfl
   rw [e0];go_wp2_with fail;exact bodyPost_ret (v:=.tuple #[.int .i64 0,.int .i64 1]) (by simp [results,Tryz.results118,go_sem]) rfl ⟨rfl,0,rfl⟩
  ·obtain ⟨x,hx⟩:∃ x,(if d<0 then -n else n)=x:=⟨_,rfl⟩;have hx0:x≠0:=by rw [← hx]; split<;>omega
   have hxs:Sml x:=by unfold Sml at hn ⊢; rw [← hx]; split<;>omega
   have hxa:x.natAbs=n.natAbs:=by rw [← hx]; split<;>omega
   have q1:(x==0)=false:=by simpa using hx0
   have GC:=hid (fun W=>pI x d.natAbs hxs (by unfold Sml at hd; omega) W)
   have HL:=hid (show pJ n d=x.tdiv (Nat.gcd x.natAbs d.natAbs:Nat)∧pK n d=(d.natAbs:Int).tdiv (Nat.gcd x.natAbs d.natAbs:Nat) by
    unfold pJ pK;rw [if_neg hz,if_neg hz,hx,hxa];refine ⟨rfl,?_⟩
    congr 1
    split<;>omega)
   have hgp:0<Nat.gcd x.natAbs d.natAbs:=Nat.gcd_pos_of_pos_right _ (by omega);have k1:=pL (Nat.gcd x.natAbs d.natAbs) hxs;have k2:=pL (x:=(d.natAbs:Int)) (Nat.gcd x.natAbs d.natAbs) (by unfold Sml at hd ⊢; omega);rw [Int.tdiv_eq_ediv_of_nonneg (by omega)] at k2;simp only [hx];clear hx hx0 hxs hxa hn hd h0 hz;generalize Nat.gcd x.natAbs d.natAbs=g at *;have g1:¬ (g:Int)<0:=by omega
   have g2:¬ g=0:=by omega
   go_wp2_with fail;refine (GC.out _).mono ?_;rintro e w2 ⟨rfl,hd⟩;have HD:=hid hd;clear hd;go_wp2_with fail;refine zw [(0,1),(1,1),(2,1),(3,1),(4,1),(5,1),(6,1),(7,1)] (by kernel_rfl) (by kernel_rfl) (fun _ _ d _ _ h=>by cases d<;>exact h) ?_;intro Z hZ;have HZ:=hid (show xp wc Z by rw [hZ]; exact HD.out.more 1);clear hZ HD
   iterate 8
    first
     | refine zd (fun K hK=>?_)
     | refine ze (fun K hK=>?_)
    go_simp;refine hK _ ?_;clear hK K
   refine zo ?_;go_wp2_with fail;refine bodyPost_ret (v:=.tuple #[.int .i64 (x.tdiv g),.int .i64 ((d.natAbs:Int) / g)]) (by simp [results,Tryz.results118,go_sem]) rfl ⟨?_,HZ.out⟩;rw [HL.out.1,HL.out.2,Int.tdiv_eq_ediv_of_nonneg (a:=(d.natAbs:Int)) (by omega)]
def pwF:Nat→Nat→Int
 | 0,j=>if j=0 then 1 else 0
 | i+1,j=>(if j=0 then 0 else pwF i (j-1))+((i:Int)+1)*pwF i j
theorem ut:∀ (i j:Nat),i<j→pwF i j=0
 | 0,j,h=>by unfold pwF; rw [if_neg (by omega)]
 | i+1,j,h=>by
  unfold pwF;rw [ut i j (by omega),Int.mul_zero];split
  ·omega
  ·rw [ut i (j-1) (by omega)]; rfl
theorem mg:∀ (i:Fin 7) (j:Fin 9),0≤pwF i.val j.val∧pwF i.val j.val≤10000:=by decide +kernel
theorem vX {i j:Nat} (hi:i<7) (hj:j<9):0≤pwF i j∧pwF i j≤10000:=mg ⟨i,hi⟩ ⟨j,hj⟩
theorem lM (w:World) (x:Int):yh (w.alloc (.cells #[.int .i64 x] 3)) w.heap.size w.heap.size 1 1 (fun _=>x):=
 ⟨[.int .i64 x],⟨rfl,.inr ⟨w.heap.size,1,#[.int .i64 x],rfl,Nat.le_refl _,heap_alloc_new w _,Nat.le_refl _,by decide,rfl,rfl⟩⟩,fun j hj=>match j,hj with | 0,_=>rfl⟩
theorem oS {a b c:Int} (h1:0≤a) (h2:a≤b) (h3:0≤c) (h4:c≤10000) (hb:b≤10):0≤a*c∧a*c≤100000:=by
 constructor
 ·exact Int.mul_nonneg h1 h3
 ·have:=Int.mul_le_mul (show a≤10 by omega) h4 h3 (by decide);omega
def pwQ (i j m:Nat):Int:=if m<j then pwF (i+1) m else if m=j then (if j=0 then 0 else pwF i (j-1)) else 0
theorem qz:∀ i:Nat,pwF i i=1
 | 0=>rfl
 | i+1=>by
  unfold pwF;rw [if_neg (by omega),show i+1-1=i by omega,qz i,ut i (i+1) (by omega),Int.mul_zero]; rfl
theorem lO (e:Nat):pwF (e+1) (e+1)=pwF e e:=by rw [qz,qz]
theorem m7 (e j i:Nat):yy (yy (pwQ e j) j (pwF (e+1) j)) (j+1) (pwF e j) i=pwQ e (j+1) i:=by
 by_cases h1:i=j+1
 ·subst h1;rw [zL];unfold pwQ;rw [if_neg (by omega),if_pos rfl,if_neg (by omega)]; rfl
 ·rw [zG _ _ h1];by_cases h2:i=j
  ·subst h2;rw [zL];unfold pwQ;rw [if_pos (by omega)]
  ·rw [zG _ _ h2];unfold pwQ;by_cases h3:i<j
   ·rw [if_pos h3,if_pos (by omega)]
   ·rw [if_neg h3,if_neg h2,if_neg (by omega),if_neg h1]
set_option maxHeartbeats 16000000
theorem vO (k:Nat) (hk:k≤5) (w:World) :
  Calls Tryz.prog 117 #[.int .i64 k] w fun e w'=>∃ R c,e=.returned (.slice (some ⟨R,0,none⟩) (k+1) c)∧yh w' w.heap.size R (k+1) c (pwF k)∧Below w.heap.size w w':=by
 obtain ⟨iI,hI,g1,g2,g3⟩:=info_parts tj;have HI:=hid (show iI.zero=_∧iI.size=_∧iI.bytes=_ from ⟨g1,g2,g3⟩);have HI0:=hid hI;clear hI g1 g2 g3;go_enter Tryz.func117,Tryz.ntmps117
 go_upto_block 0 with fail
 have hO:=lM w 1;have hbA:=(Below.refl w.heap.size w).alloc (Nat.le_refl _) (.cells #[.int .i64 1] 3);generalize w.alloc (.cells #[.int .i64 1] 3)=X at *;generalize hB:w.heap.size=B at *
 have HO:=hid (hO.congr (g:=pwF 0) (fun j hj=>by
  obtain rfl:j=0:=by omega
  rfl))
 have HB0:=hid hbA;clear hO hbA;go_wp2_with fail
 go_loopw [3,4] (fun p i wr=>∃ (e R c:Nat),e≤k∧i=.int .i64 ((e+1:Nat):Int)∧p=.slice (some ⟨R,0,none⟩) (e+1) c∧yh wr B R (e+1) c (pwF e)∧Below B w wr) (fun _ i _=>k+1-(intOf i).toNat)
 case atStart=>exact ⟨0,_,_,by omega,rfl,rfl,HO.out,HB0.out⟩
 case round=>
  clear HO HB0;obtain ⟨e,R,c,he,rfl,rfl,ho,hb⟩:=hrel;have HO:=hid ho;have HB1:=hid hb;have hsz:B≤wr.heap.size:=by have:=hb.size; omega
  clear ho hb;by_cases hek:e<k
  ·have h1:((e+1:Nat):Int)≤(k:Int):=by omega
   have k1:IntKind.i64.wrap (((e+1:Nat):Int)+1)=((e+2:Nat):Int):=IntWalk.i64_in _ (by omega)
   go_wp2_with (first
    | (refine wpList_make_full _ rfl _ _ _ rfl wr.heap.size 3 iI (.int .i64 0) 1 Tryz.underlying22 HI0.out HI.out.1 HI.out.2.1 .i64 .i64 ((e+2:Nat):Int) ((e+2:Nat):Int) (e+2) rfl rfl rfl rfl (by rw [HI.out.2.2]; omega) (by unfold maxLen; omega) (by omega) ?_)
    | fail)
   intro W1 hr1 hg1;have hb1:Below wr.heap.size wr W1:=(Below.refl _ _).grown hg1 (by omega) (fun k hk=>by cases hk);have hq1:=vG hr1;have hq2:=(hq1.lt).2
   have HQ1:=hid (hq1.congr (g:=pwQ e 0) (fun j hj=>by
    unfold pwQ;rw [if_neg (by omega)];split
    ·rw [if_pos rfl]
    ·rfl))
   have hR:=HO.out.lt;have HO1:=hid (HO.out.below hb1 hR.2);have HB2:=hid (HB1.out.trans (hb1.mono hsz));clear hr1 hg1 hq1;generalize hQ:wr.heap.size=Q at *;go_wp2_with fail
   go_loopw [6] (fun i w2=>∃ j:Nat,j≤e+1∧i=.int .i64 j∧yh w2 Q Q (e+2) (e+2) (pwQ e j)∧zM W1 Q w2) (fun i _=>e+1-(intOf i).toNat)
   case atStart=>exact ⟨0,by omega,rfl,HQ1.out,zM.refl _ _⟩
   case round=>
    clear HQ1;obtain ⟨j,hj,rfl,hq,hkp⟩:=hrel;have HQ1:=hid hq;have HKP:=hid hkp;have HP:=hid (HO1.out.kept (hkp.block R (by omega) (by omega)));clear hq hkp
    rename World=>W2
    by_cases hje:j<e+1
    ·have j1:(j:Int)<(e:Int)+1:=by omega
     have j2:(j:Int)<(e:Int)+2:=by omega
     have j3:(j:Int)+1<(e:Int)+2:=by omega
     have j4:0≤(j:Int)+1:=by omega
     have u1:=HQ1.out.cell (j:=j) (by omega);have u2:=HP.out.cell hje;have f1:=HQ1.out.free j;have hx1:pwQ e j j=if j=0 then 0 else pwF e (j-1):=by unfold pwQ; rw [if_neg (by omega),if_pos rfl]
     have hx2:=vX (i:=e) (j:=j) (by omega) (by omega)
     have hx3:0≤pwQ e j j∧pwQ e j j≤10000:=by
      rw [hx1]; split
      ·decide
      ·exact vX (by omega) (by omega)
     have hm:=oS (a:=(e:Int)+1) (b:=10) (c:=pwF e j) (by omega) (by omega) hx2.1 hx2.2 (by omega);have k2:IntKind.i64.wrap (((e:Int)+1)*pwF e j)=((e:Int)+1)*pwF e j:=IntWalk.i64_in _ (by omega);have k3:IntKind.i64.wrap (pwQ e j j+((e:Int)+1)*pwF e j)=pwQ e j j+((e:Int)+1)*pwF e j:=IntWalk.i64_in _ (by omega);have HN:=hid (show pwQ e j j+((e:Int)+1)*pwF e j=pwF (e+1) j by rw [hx1]; rfl);have u3:=HQ1.out.cell (j:=j+1) (by omega);have hx4:pwQ e j (j+1)=0:=by unfold pwQ; rw [if_neg (by omega),if_neg (by omega)]
     rw [hx4] at u3;generalize pwQ e j j=x at *;clear hx1 hx3 hm hx4;go_upto_region 9 with fail
     refine zw [(0,1),(1,1),(2,1),(3,1),(4,1),(5,2),(6,1),(7,1),(8,1),(9,1),(10,2),(11,1),(12,1),(13,1),(14,0)] (by kernel_rfl) (by kernel_rfl) (fun _ _ d _ _ h=>by cases d<;>exact h) ?_;intro Z hZ;have hZZ:∀ b o,Z.cell? ⟨b,o,none⟩=W2.cell? ⟨b,o,none⟩:=fun b o=>by rw [hZ]; rfl
     have hzf:∀ b o,Z.frozen? ⟨b,o,none⟩=W2.frozen? ⟨b,o,none⟩:=fun b o=>by rw [hZ]; rfl
     have HQZ:=hid (show yh Z Q Q (e+2) (e+2) (pwQ e j)∧zM W1 Q Z by rw [hZ]; exact ⟨HQ1.out.drew,HKP.out.drew⟩);rw [← hZZ] at u1 u2 u3;rw [← hzf] at f1;clear hZ hZZ hzf HQ1 HKP
     iterate 14
      first
       | refine zd (fun K hK=>?_)
       | refine ze (fun K hK=>?_)
      go_simp;refine hK _ ?_;clear hK K
     refine zx (fun K hK=>?_);go_simp;refine hK _ _ (fun h=>Bool.noConfusion (Eq.trans (Eq.symm (by kernel_rfl:_=false)) h)) ?_;clear hK K;have u4:=(HQZ.out.1.set (j:=j) (by omega) (x+((e:Int)+1)*pwF e j)).cell (j:=j+1) (by omega);rw [zG _ _ (by omega)] at u4;have hx4:pwQ e j (j+1)=0:=by unfold pwQ; rw [if_neg (by omega),if_neg (by omega)]
     rw [hx4] at u4;have u5:=((HQZ.out.2.set (o:=j) (.int .i64 (x+((e:Int)+1)*pwF e j))).cell (b:=R) (by omega) (by omega) j).trans (HO1.out.cell hje);have f5:=(HQZ.out.1.set (j:=j) (by omega) (x+((e:Int)+1)*pwF e j)).free (j+1);have HQY:=hid (show yh (Z.setCell ⟨Q,j,none⟩ (.int .i64 (x+((e:Int)+1)*pwF e j))) Q Q (e+2) (e+2) _∧zM W1 Q (Z.setCell ⟨Q,j,none⟩ (.int .i64 (x+((e:Int)+1)*pwF e j))) from ⟨HQZ.out.1.set (by omega) _,HQZ.out.2.set _ _⟩);refine zo ?_;generalize Z.setCell ⟨Q,j,none⟩ (.int .i64 (x+((e:Int)+1)*pwF e j))=Y at *;have k4:IntKind.i64.wrap ((j:Int)+1)=((j+1:Nat):Int):=IntWalk.i64_in _ (by omega);have k5:IntKind.i64.wrap (pwF e j)=pwF e j:=IntWalk.i64_in _ (by omega);clear u1 u2 u3 f1 HQZ k2 k3 hx4 HP;go_upto_region 10 with fail
     refine zw [(0,1),(1,1),(2,1),(3,1),(4,1),(5,1),(6,1),(7,2),(8,1),(9,1),(10,1),(11,2),(12,1),(13,1),(14,0)] (by kernel_rfl) (by kernel_rfl) (fun _ _ d _ _ h=>by cases d<;>exact h) ?_;intro Z2 hZ;have hZZ:∀ b o,Z2.cell? ⟨b,o,none⟩=Y.cell? ⟨b,o,none⟩:=fun b o=>by rw [hZ]; rfl
     have hzf:∀ b o,Z2.frozen? ⟨b,o,none⟩=Y.frozen? ⟨b,o,none⟩:=fun b o=>by rw [hZ]; rfl
     have HQZ:=hid (show yh Z2 Q Q (e+2) (e+2) _∧zM W1 Q Z2 by rw [hZ]; exact ⟨HQY.out.1.drew,HQY.out.2.drew⟩);rw [← hZZ] at u4 u5;rw [← hzf] at f5;clear hZ hZZ hzf HQY
     iterate 14
      first
       | refine zd (fun K hK=>?_)
       | refine ze (fun K hK=>?_)
      go_simp;refine hK _ ?_;clear hK K
     refine zx (fun K hK=>?_);go_simp;refine hK _ _ (fun h=>Bool.noConfusion (Eq.trans (Eq.symm (by kernel_rfl:_=false)) h)) ?_;clear hK K
     have HQW:=hid (show yh (Z2.setCell ⟨Q,j+1,none⟩ (.int .i64 (pwF e j))) Q Q (e+2) (e+2) (pwQ e (j+1))∧zM W1 Q (Z2.setCell ⟨Q,j+1,none⟩ (.int .i64 (pwF e j))) from ⟨(HQZ.out.1.set (by omega) _).congr (fun i hi=>by
      rw [show x+((e:Int)+1)*pwF e j=pwF (e+1) j from HN.out];exact m7 e j i),HQZ.out.2.set _ _⟩)
     refine zo ?_;generalize Z2.setCell ⟨Q,j+1,none⟩ (.int .i64 (pwF e j))=Y2 at *;clear u4 u5 f5 HQZ k4 k5;go_wp2_with fail
     go_roundw
     case rel=>exact ⟨j+1,by omega,by go_num,HQW.out⟩
     case measure=>simp [intOf]; omega
    ·obtain rfl:j=e+1:=by omega
     have HQF:=hid (HQ1.out.congr (g:=pwF (e+1)) (fun i hi=>by
      unfold pwQ;by_cases h:i<e+1
      ·rw [if_pos h]
      ·rw [if_neg h,if_pos (by omega),if_neg (by omega),show i=e+1 by omega,lO];rfl))
     have HBF:=hid (HKP.out.below HB2.out (show B≤Q by omega) (by omega));have j1:¬ ((e+1:Nat):Int)<(e:Int)+1:=by omega
     clear HQ1 HP;go_wp2_with fail
     go_roundw
     case rel=>exact ⟨e+1,Q,e+2,by omega,by go_num,rfl,HQF.out.base (by omega),HBF.out⟩
     case measure=>simp [intOf]; omega
  ·obtain rfl:e=k:=by omega
   have h1:¬ ((e+1:Nat):Int)≤(e:Int):=by omega
   go_wp2_with fail;go_ret;exact ⟨R,c,rfl,hB ▸ HO.out,hB ▸ HB1.out⟩
theorem sp (a b:Nat) (ha:a≤4611686018427387904) (hb:b≤4611686018427387904) (w:World) :
  Calls Tryz.prog 121 #[.int .i64 a,.int .i64 b] w fun e w'=>e=.returned (.int .i64 (Nat.gcd a b:Nat))∧w=w':=by
 go_enter Tryz.func121,Tryz.ntmps121;go_wp2_with fail
 go_loopw [0,1] (fun x y wr=>∃ p q:Nat,x=.int .i64 p∧y=.int .i64 q∧p≤4611686018427387904∧q≤4611686018427387904∧Nat.gcd p q=Nat.gcd a b∧wr=w) (fun x _ _=>(intOf x).toNat)
 case atStart=>exact ⟨a,b,rfl,rfl,ha,hb,rfl,rfl⟩
 case round=>
  obtain ⟨p,q,rfl,rfl,p2,q2,hg,rfl⟩:=hrel;by_cases h0:p=0
  ·subst h0;go_wp2_with fail;go_ret;refine ⟨?_,rfl⟩;rw [← hg,Nat.gcd_zero_left];rfl
  ·have t1:=pH q p;have t2:q % p<p:=Nat.mod_lt _ (by omega);have h1:¬ (p:Int)=0:=by omega
   have h2:((p:Int) != 0)=true:=by simpa using h1
   have HGn:=hid (show Nat.gcd (q % p) p=Nat.gcd a b by rw [← hg,← Nat.gcd_rec]);have k1:IntKind.i64.wrap ((q % p:Nat):Int)=((q % p:Nat):Int):=IntWalk.i64_in _ (by omega);clear hg;go_wp2_with fail
   go_roundw
   case rel=>exact ⟨q % p,p,by go_num,rfl,by omega,by omega,HGn.out,trivial⟩
   case measure=>simp [intOf]; omega
def pwD (i k m:Nat):Int:=if k<m then pwF (i+1) m else pwF i m
theorem m8 (i k m:Nat) (hk:0<k):yy (pwD i k) k (pwF i (k-1)+((i:Int)+1)*pwF i k) m=pwD i (k-1) m:=by
 by_cases h:m=k
 ·subst h;rw [zL];unfold pwD;rw [if_pos (by omega)];show _=(if m=0 then 0 else pwF i (m-1))+((i:Int)+1)*pwF i m;rw [if_neg (by omega)]
 ·rw [zG _ _ h];unfold pwD;by_cases h2:k<m
  ·rw [if_pos h2,if_pos (by omega)]
  ·rw [if_neg h2,if_neg (by omega)]
theorem wD (n:Nat) (hn:n≤5) (w:World) :
  Calls Tryz.prog 122 #[.int .i64 n] w fun e w'=>∃ R,e=.returned (.slice (some ⟨R,0,none⟩) (n+1) (n+1))∧yh w' w.heap.size R (n+1) (n+1) (pwF n)∧Below w.heap.size w w':=by
 obtain ⟨iI,hI,g1,g2,g3⟩:=info_parts tj;have HI:=hid (show iI.zero=_∧iI.size=_∧iI.bytes=_ from ⟨g1,g2,g3⟩);have HI0:=hid hI;clear hI g1 g2 g3;go_enter Tryz.func122,Tryz.ntmps122;generalize hB:w.heap.size=B at *;have k1:IntKind.i64.wrap ((n:Int)+1)=((n+1:Nat):Int):=IntWalk.i64_in _ (by omega)
 go_wp2_with (first
  | (refine wpList_make_full _ rfl _ _ _ rfl B 3 iI (.int .i64 0) 1 Tryz.underlying22 HI0.out HI.out.1 HI.out.2.1 .i64 .i64 ((n+1:Nat):Int) ((n+1:Nat):Int) (n+1) rfl rfl rfl rfl (by rw [HI.out.2.2]; omega) (by unfold maxLen; omega) (by omega) ?_)
  | fail)
 intro W1 hr1 hg1;have hb1:Below B w W1:=(Below.refl _ _).grown hg1 (by omega) (fun k hk=>by cases hk);have hq1:=vG hr1;clear hr1 hg1 k1;have f0:=hq1.free 0;have u0:=hq1.cell (j:=0) (by omega)
 have HQ:=hid ((hq1.set (j:=0) (by omega) 1).congr (g:=pwF 0) (fun j hj=>by
  unfold yy pwF;rfl))
 have hlt:=hq1.lt.2;have HB1:=hid (hb1.setCell (p:=⟨B,0,none⟩) (Nat.le_refl B) (.int .i64 1));clear hq1 hb1
 go_upto_block 0 with fail
 generalize W1.setCell ⟨B,0,none⟩ (.int .i64 1)=X at *;clear f0 u0 hlt W1;go_wp2_with fail
 go_loopw [12] (fun i wr=>∃ e:Nat,e≤n∧i=.int .i64 e∧yh wr B B (n+1) (n+1) (pwF e)∧Below B w wr) (fun i _=>n-(intOf i).toNat)
 case atStart=>exact ⟨0,by omega,rfl,HQ.out,HB1.out⟩
 case round=>
  clear HQ HB1;obtain ⟨e,he,rfl,ho,hb⟩:=hrel;have HO:=hid ho;have HB1:=hid hb;clear ho hb;by_cases hen:e<n
  ·have h1:(e:Int)<(n:Int):=by omega
   have k1:IntKind.i64.wrap ((e:Int)+1)=((e+1:Nat):Int):=IntWalk.i64_in _ (by omega)
   have HD0:=hid (HO.out.congr (g:=pwD e (e+1)) (fun j hj=>by
    unfold pwD;split
    ·rw [ut _ _ (by omega),ut _ _ (by omega)]
    ·rfl))
   go_wp2_with fail
   go_loopw [5] (fun i w2=>∃ k:Nat,k≤e+1∧i=.int .i64 k∧yh w2 B B (n+1) (n+1) (pwD e k)∧Below B w w2) (fun i _=>(intOf i).toNat)
   case atStart=>exact ⟨e+1,by omega,rfl,HD0.out,HB1.out⟩
   case round=>
    clear HD0;obtain ⟨k,hk,rfl,hd,hb⟩:=hrel;have HD:=hid hd;have HB2:=hid hb;clear hd hb
    rename World=>W2
    by_cases hk0:0<k
    ·have j0:0<(k:Int):=by omega
     have j1:(k:Int)<(n:Int)+1:=by omega
     have j2:(k:Int)-1<(n:Int)+1:=by omega
     have j3:0≤(k:Int)-1:=by omega
     have u1:=HD.out.cell (j:=k) (by omega);have u2:=HD.out.cell (j:=k-1) (by omega);have f1:=HD.out.free k;rw [show pwD e k k=pwF e k by unfold pwD; rw [if_neg (by omega)]] at u1;rw [show pwD e k (k-1)=pwF e (k-1) by unfold pwD; rw [if_neg (by omega)]] at u2;have hx1:=vX (i:=e) (j:=k) (by omega) (by omega);have hx2:=vX (i:=e) (j:=k-1) (by omega) (by omega);have hm:=oS (a:=(e:Int)+1) (b:=10) (c:=pwF e k) (by omega) (by omega) hx1.1 hx1.2 (by omega);have k2:IntKind.i64.wrap (((e:Int)+1)*pwF e k)=((e:Int)+1)*pwF e k:=IntWalk.i64_in _ (by omega);have k3:IntKind.i64.wrap (pwF e (k-1)+((e:Int)+1)*pwF e k)=pwF e (k-1)+((e:Int)+1)*pwF e k:=IntWalk.i64_in _ (by omega);have k4:IntKind.i64.wrap ((k:Int)-1)=((k-1:Nat):Int):=by rw [show ((k-1:Nat):Int)=(k:Int)-1 by omega]; exact IntWalk.i64_in _ (by omega)
     have j4:k-1<n+1:=by omega
     have j5:((k-1:Nat):Int)<(n:Int)+1:=by omega
     clear hx1 hx2 hm;go_upto_region 9 with fail
     refine zw [(0,1),(1,1),(2,1),(3,1),(4,1),(5,1),(6,2),(7,1),(8,1),(9,1),(10,1),(11,1),(12,2),(13,1),(14,1),(15,1),(16,0)] (by kernel_rfl) (by kernel_rfl) (fun _ _ d _ _ h=>by cases d<;>exact h) ?_;intro Z hZ;have hZZ:∀ b o,Z.cell? ⟨b,o,none⟩=W2.cell? ⟨b,o,none⟩:=fun b o=>by rw [hZ]; rfl
     have hzf:∀ b o,Z.frozen? ⟨b,o,none⟩=W2.frozen? ⟨b,o,none⟩:=fun b o=>by rw [hZ]; rfl
     have HDZ:=hid (show yh Z B B (n+1) (n+1) (pwD e k)∧Below B w Z by rw [hZ]; exact ⟨HD.out.drew,HB2.out.drew⟩);rw [← hZZ] at u1 u2;rw [← hzf] at f1;clear hZ hZZ hzf HD HB2
     iterate 16
      first
       | refine zd (fun K hK=>?_)
       | refine ze (fun K hK=>?_)
      go_simp;refine hK _ ?_;clear hK K
     refine zx (fun K hK=>?_);go_simp;refine hK _ _ (fun h=>Bool.noConfusion (Eq.trans (Eq.symm (by kernel_rfl:_=false)) h)) ?_;clear hK K;have HDW:=hid (show yh (Z.setCell ⟨B,k,none⟩ (.int .i64 (pwF e (k-1)+((e:Int)+1)*pwF e k))) B B (n+1) (n+1) (pwD e (k-1))∧Below B w (Z.setCell ⟨B,k,none⟩ (.int .i64 (pwF e (k-1)+((e:Int)+1)*pwF e k))) from ⟨(HDZ.out.1.set (by omega) _).congr (fun i hi=>m8 e k i hk0),HDZ.out.2.setCell (p:=⟨B,k,none⟩) (Nat.le_refl B) _⟩);refine zo ?_;generalize Z.setCell ⟨B,k,none⟩ (.int .i64 (pwF e (k-1)+((e:Int)+1)*pwF e k))=Y at *;clear u1 u2 f1 HDZ k2 k3;go_wp2_with fail
     go_roundw
     case rel=>exact ⟨k-1,by omega,by go_num,HDW.out⟩
     case measure=>simp [intOf]; omega
    ·obtain rfl:k=0:=by omega
     have u0:=HD.out.cell (j:=0) (by omega);have f0:=HD.out.free 0;rw [show pwD e 0 0=pwF e 0 by unfold pwD; rw [if_neg (by omega)]] at u0;have hx1:=vX (i:=e) (j:=0) (by omega) (by omega);have hm:=oS (a:=(e:Int)+1) (b:=10) (c:=pwF e 0) (by omega) (by omega) hx1.1 hx1.2 (by omega);have k2:IntKind.i64.wrap (pwF e 0*((e:Int)+1))=pwF e 0*((e:Int)+1):=IntWalk.i64_in _ (by rw [Int.mul_comm]; omega);have j0:(0:Int)<(n:Int)+1:=by omega
     have HDW:=hid (show yh (W2.setCell ⟨B,0,none⟩ (.int .i64 (pwF e 0*((e:Int)+1)))) B B (n+1) (n+1) (pwF (e+1))∧Below B w (W2.setCell ⟨B,0,none⟩ (.int .i64 (pwF e 0*((e:Int)+1)))) from ⟨(HD.out.set (by omega) _).congr (fun i hi=>by
      by_cases h:i=0
      ·subst h;rw [zL];show _=(if (0:Nat)=0 then 0 else pwF e (0-1))+((e:Int)+1)*pwF e 0;rw [if_pos rfl,Int.mul_comm]; omega
      ·rw [zG _ _ h];unfold pwD;rw [if_pos (by omega)]),HB2.out.setCell (p:=⟨B,0,none⟩) (Nat.le_refl B) _⟩)
     clear hx1 hm HD HB2;go_wp2_with fail
     go_roundw
     case rel=>exact ⟨e+1,by omega,by go_num,HDW.out⟩
     case measure=>simp [intOf]; omega
  ·obtain rfl:e=n:=by omega
   go_wp2_with fail;go_ret;exact ⟨B,rfl,HO.out,HB1.out⟩
def sgF:Nat→Int
 | 0=>1
 | e+1=>-sgF e
theorem m9:∀ e,sgF e=1∨sgF e=-1
 | 0=>.inl rfl
 | e+1=>by
  rcases m9 e with h | h
  ·exact .inr (by show -sgF e=-1; rw [h])
  ·exact .inl (by show -sgF e=1; rw [h]; rfl)
def aLF (q e:Nat):Int:=pwF (q-1) e*(pwF q 0).tdiv ((e:Int)+1)
def aSF (q:Nat):Nat→Int
 | 0=>0
 | e+1=>aSF q e+sgF e*aLF q e
def aMF (q e j:Nat):Int:=if j=0 then aSF q e else if j≤e then aLF q (j-1) else 0
def rG (q:Nat):Int:=pwF q 0*pwF (q-1) 0
theorem tG:∀ (q:Fin 6) (e:Fin 6),(-100000000≤aLF q.val e.val∧aLF q.val e.val≤100000000)∧(-100000000≤aSF q.val e.val∧aSF q.val e.val≤100000000)∧(-100000000≤(pwF q.val 0).tdiv ((e.val:Int)+1)∧(pwF q.val 0).tdiv ((e.val:Int)+1)≤100000000)∧-100000000≤rG q.val∧rG q.val≤100000000∧(-100000000≤sgF e.val*aLF q.val e.val∧sgF e.val*aLF q.val e.val≤100000000):=by decide +kernel
theorem rH (q:Nat) (h1:1≤q) (h5:q≤5) (w:World) :
  Calls Tryz.prog 100 #[.int .i64 q] w fun e w'=>∃ R,e=.returned (.tuple #[.slice (some ⟨R,0,none⟩) (q+1) (q+1),.int .i64 (rG q)])∧yh w' w.heap.size R (q+1) (q+1) (aMF q q)∧Below w.heap.size w w':=by
 obtain ⟨iI,hI,g1,g2,g3⟩:=info_parts tj;have HI:=hid (show iI.zero=_∧iI.size=_∧iI.bytes=_ from ⟨g1,g2,g3⟩);have HI0:=hid hI;clear hI g1 g2 g3;have PA:=hid (fun W=>wD (q-1) (by omega) W);have PB:=hid (fun W=>wD q h5 W);rw [show q-1+1=q by omega] at PA;have k0:IntKind.i64.wrap ((q:Int)-1)=((q-1:Nat):Int):=by rw [show ((q-1:Nat):Int)=(q:Int)-1 by omega]; exact IntWalk.i64_in _ (by omega)
 have k1:IntKind.i64.wrap ((q:Int)+1)=((q+1:Nat):Int):=IntWalk.i64_in _ (by omega);go_enter Tryz.func100,Tryz.ntmps100;generalize hB:w.heap.size=B at *;go_wp2_with fail;refine (PA.out w).mono ?_;rintro e w1 ⟨R,rfl,ho,hb⟩;rw [hB] at ho hb;have HS1:=hid ho;have HB1:=hid hb;clear ho hb;go_wp2_with fail;refine (PB.out w1).mono ?_;rintro e w2 ⟨R2,rfl,ho2,hb2⟩;have u0:=ho2.cell (j:=0) (by omega);have HS2:=hid (HS1.out.below hb2 HS1.out.lt.2);have HB2:=hid (HB1.out.trans (hb2.mono (hB ▸ HB1.out.size)));clear ho2 hb2 HS1
 go_wp2_with (first
  | (refine wpList_make_full _ rfl _ _ _ rfl w2.heap.size 3 iI (.int .i64 0) 1 Tryz.underlying22 HI0.out HI.out.1 HI.out.2.1 .i64 .i64 ((q+1:Nat):Int) ((q+1:Nat):Int) (q+1) rfl rfl rfl rfl (by rw [HI.out.2.2]; omega) (by unfold maxLen; omega) (by omega) ?_)
  | fail)
 intro W1 hr1 hg1;have hb1:Below w2.heap.size w2 W1:=(Below.refl _ _).grown hg1 (by omega) (fun k hk=>by cases hk);have hq1:=vG hr1;have HS3:=hid (HS2.out.below hb1 HS2.out.lt.2);have hRlt:=HS2.out.lt;have HB3:=hid (HB2.out.trans (hb1.mono (hB ▸ HB2.out.size)))
 have HQ:=hid (hq1.congr (g:=aMF q 0) (fun j hj=>by
  unfold aMF;split
  ·rfl
  ·rw [if_neg (by omega)]))
 have hBQ:B≤w2.heap.size:=by have:=HB2.out.size; omega
 have hQlt:=hq1.lt.2;clear hr1 hg1 hb1 hq1 k0 k1 u0 HS2 HB1;generalize w2.heap.size=Q at *;go_wp2_with fail
 go_loopw [7,21] (fun s i wr=>∃ e:Nat,e≤q∧i=.int .i64 e∧s=.int .i64 (sgF e)∧yh wr Q Q (q+1) (q+1) (aMF q e)∧zM W1 Q wr) (fun _ i _=>q-(intOf i).toNat)
 case atStart=>exact ⟨0,by omega,rfl,rfl,HQ.out,zM.refl _ _⟩
 case round=>
  clear HQ;obtain ⟨e,he,rfl,rfl,ho,hk⟩:=hrel;have HO:=hid ho;have HK:=hid hk;have HS:=hid (HS3.out.kept (hk.block R (by omega) (by omega)));clear ho hk;by_cases heq:e<q
  ·have j1:(e:Int)<(q:Int):=by omega
   have j2:(e:Int)+1<(q:Int)+1:=by omega
   have j3:0≤(e:Int)+1:=by omega
   have j4:¬ (e:Int)+1=0:=by omega
   have k1:IntKind.i64.wrap ((e:Int)+1)=((e+1:Nat):Int):=IntWalk.i64_in _ (by omega);have u1:=HS.out.cell heq;have f1:=HO.out.free (e+1);have u4:=HO.out.cell (j:=e+1) (by omega);have hb:=tG ⟨q,by omega⟩ ⟨e,by omega⟩;simp only [] at hb;obtain ⟨b1,b2,b3,-,-,b4⟩:=hb;have hsg:=m9 e;have k2:IntKind.i64.wrap ((pwF q 0).tdiv ((e:Int)+1))=(pwF q 0).tdiv ((e:Int)+1):=IntWalk.i64_in _ (by omega);have k3:IntKind.i64.wrap (pwF (q-1) e*(pwF q 0).tdiv ((e:Int)+1))=aLF q e:=by show IntKind.i64.wrap (aLF q e)=_; exact IntWalk.i64_in _ (by omega)
   have k4:IntKind.i64.wrap (sgF e*aLF q e)=sgF e*aLF q e:=IntWalk.i64_in _ (by omega);have k5:IntKind.i64.wrap (aSF q e+sgF e*aLF q e)=aSF q (e+1):=by show IntKind.i64.wrap (aSF q (e+1))=_; exact IntWalk.i64_in _ (by have hb:=(tG ⟨q,by omega⟩ ⟨e+1,by omega⟩).2.1; simp only [] at hb; omega)
   have k6:IntKind.i64.wrap (-sgF e)=sgF (e+1):=by show IntKind.i64.wrap (-sgF e)=-sgF e; exact IntWalk.i64_in _ (by omega)
   have K:=hid (show _∧_∧_ from ⟨k4,k5,k6⟩);clear k4 k5 k6 b1 b2 b3 b4 hsg;go_upto_region 8 with fail
   refine zw [(0,1),(1,1),(2,1),(3,1),(4,1),(5,1),(6,2),(7,1),(8,1),(9,1),(10,1),(11,1),(12,1),(13,0)] (by kernel_rfl) (by kernel_rfl) (fun _ _ d _ _ h=>by cases d<;>exact h) ?_;intro Z hZ;have hZZ:∀ b o,Z.cell? ⟨b,o,none⟩=wr.cell? ⟨b,o,none⟩:=fun b o=>by rw [hZ]; rfl
   have hzf:∀ b o,Z.frozen? ⟨b,o,none⟩=wr.frozen? ⟨b,o,none⟩:=fun b o=>by rw [hZ]; rfl
   have HZ:=hid (show yh Z Q Q (q+1) (q+1) (aMF q e)∧zM W1 Q Z by rw [hZ]; exact ⟨HO.out.drew,HK.out.drew⟩);rw [← hZZ] at u1 u4;rw [← hzf] at f1;clear hZ hZZ hzf HO HK HS
   iterate 13
    first
     | refine zd (fun K hK=>?_)
     | refine ze (fun K hK=>?_)
    go_simp;refine hK _ ?_;clear hK K
   refine zx (fun K hK=>?_);go_simp;refine hK _ _ (fun h=>Bool.noConfusion (Eq.trans (Eq.symm (by kernel_rfl:_=false)) h)) ?_;clear hK K;have HY:=hid (show yh (Z.setCell ⟨Q,e+1,none⟩ (.int .i64 (aLF q e))) Q Q (q+1) (q+1) (yy (aMF q e) (e+1) (aLF q e))∧zM W1 Q (Z.setCell ⟨Q,e+1,none⟩ (.int .i64 (aLF q e))) from ⟨HZ.out.1.set (by omega) _,HZ.out.2.set _ _⟩);refine zo ?_;generalize Z.setCell ⟨Q,e+1,none⟩ (.int .i64 (aLF q e))=Y at *;clear u1 u4 f1 HZ k2 k3;have u2:=HY.out.1.cell (j:=e+1) (by omega);have u3:=HY.out.1.cell (j:=0) (by omega);have f3:=HY.out.1.free 0;rw [zL] at u2;rw [zG _ _ (by omega),show aMF q e 0=aSF q e from if_pos rfl] at u3;obtain ⟨k4,k5,k6⟩:=K.out;have j5:(0:Int)<(q:Int)+1:=by omega
   clear k6;go_upto_region 9 with fail
   refine zw [(0,1),(1,1),(2,2),(3,1),(4,1),(5,1),(6,1),(7,1),(8,2),(9,1),(10,1),(11,1),(12,0)] (by kernel_rfl) (by kernel_rfl) (fun _ _ d _ _ h=>by cases d<;>exact h) ?_;intro Z hZ;have hZZ:∀ b o,Z.cell? ⟨b,o,none⟩=Y.cell? ⟨b,o,none⟩:=fun b o=>by rw [hZ]; rfl
   have hzf:∀ b o,Z.frozen? ⟨b,o,none⟩=Y.frozen? ⟨b,o,none⟩:=fun b o=>by rw [hZ]; rfl
   have HZ:=hid (show yh Z Q Q (q+1) (q+1) _∧zM W1 Q Z by rw [hZ]; exact ⟨HY.out.1.drew,HY.out.2.drew⟩);rw [← hZZ] at u2 u3;rw [← hzf] at f3;clear hZ hZZ hzf HY
   iterate 12
    first
     | refine zd (fun K hK=>?_)
     | refine ze (fun K hK=>?_)
    go_simp;refine hK _ ?_;clear hK K
   refine zx (fun K hK=>?_);go_simp;refine hK _ _ (fun h=>Bool.noConfusion (Eq.trans (Eq.symm (by kernel_rfl:_=false)) h)) ?_;clear hK K
   have HX:=hid (show yh (Z.setCell ⟨Q,0,none⟩ (.int .i64 (aSF q (e+1)))) Q Q (q+1) (q+1) (aMF q (e+1))∧zM W1 Q (Z.setCell ⟨Q,0,none⟩ (.int .i64 (aSF q (e+1)))) from ⟨(HZ.out.1.set (by omega) _).congr (fun i hi=>by
    unfold aMF;by_cases h:i=0
    ·subst h; rw [zL,if_pos rfl]
    ·rw [zG _ _ h,if_neg h];by_cases h2:i=e+1
     ·subst h2;rw [zL,if_pos (by omega)];rfl
     ·rw [zG _ _ h2,if_neg h];by_cases h3:i≤e
      ·rw [if_pos h3,if_pos (by omega)]
      ·rw [if_neg h3,if_neg (by omega)]),HZ.out.2.set _ _⟩)
   refine zo ?_;generalize Z.setCell ⟨Q,0,none⟩ (.int .i64 (aSF q (e+1)))=X at *;clear u2 u3 f3 HZ k4 k5;have k6:=K.out.2.2;go_wp2_with fail
   go_roundw
   case rel=>exact ⟨e+1,by omega,by go_num,rfl,HX.out⟩
   case measure=>simp [intOf]; omega
  ·obtain rfl:e=q:=by omega
   have u1:=HS.out.cell (j:=0) (by omega);have hb:=(tG ⟨e,by omega⟩ ⟨0,by omega⟩).2.2.2.1;simp only [] at hb;have k2:IntKind.i64.wrap (pwF e 0*pwF (e-1) 0)=rG e:=by show IntKind.i64.wrap (rG e)=_; exact IntWalk.i64_in _ (by have:=(tG ⟨e,by omega⟩ ⟨0,by omega⟩).2.2.2.2.1; simp only [] at this; omega)
   have j5:(0:Int)<(e:Int):=by omega
   have j6:0<e:=by omega
   clear hb;go_wp2_with fail;refine zw [(0,1),(1,1),(2,1),(3,1),(4,2),(5,1),(6,1),(7,1)] (by kernel_rfl) (by kernel_rfl) (fun _ _ d _ _ h=>by cases d<;>exact h) ?_;intro Z hZ;have hZZ:∀ b o,Z.cell? ⟨b,o,none⟩=wr.cell? ⟨b,o,none⟩:=fun b o=>by rw [hZ]; rfl
   have HZ:=hid (show yh Z B Q (e+1) (e+1) (aMF e e)∧Below B w Z by
    rw [hZ];exact ⟨HO.out.drew.base (by omega),(HK.out.below HB3.out (show B≤Q by omega) (by omega)).drew⟩)
   rw [← hZZ] at u1;clear hZ hZZ HO HK HS
   iterate 8
    first
     | refine zd (fun K hK=>?_)
     | refine ze (fun K hK=>?_)
    go_simp;refine hK _ ?_;clear hK K
   refine zo ?_;go_wp2_with fail;exact bodyPost_ret (v:=.tuple #[.slice (some ⟨Q,0,none⟩) (e+1) (e+1),.int .i64 (rG e)]) (by simp [results,Tryz.results100,go_sem]) rfl ⟨Q,rfl,hB ▸ HZ.out⟩
theorem pM (q:Nat) (h1:1≤q) (h5:q≤5) (w:World) :
  Calls Tryz.prog 101 #[.int .i64 q] w fun e w'=>∃ R,e=.returned (.tuple #[.slice (some ⟨R,0,none⟩) (q+1) (q+1),.int .i64 (pwF q 1)])∧yh w' w.heap.size R (q+1) (q+1) (pwF q)∧Below w.heap.size w w':=by
 have PB:=hid (fun W=>wD q h5 W);go_enter Tryz.func101,Tryz.ntmps101;go_wp2_with fail;refine (PB.out w).mono ?_;rintro e w1 ⟨R,rfl,ho,hb⟩;have u1:=ho.cell (j:=1) (by omega);have HO:=hid ho;have HB:=hid hb;have j1:(1:Int)<(q:Int)+1:=by omega
 have j2:0<q:=by omega
 have j3:1<q+1:=by omega
 clear ho hb;go_wp2_with fail;refine zw [(0,1),(1,1),(2,1),(3,2),(4,1),(5,1)] (by kernel_rfl) (by kernel_rfl) (fun _ _ d _ _ h=>by cases d<;>exact h) ?_;intro Z hZ;have hZZ:∀ b o,Z.cell? ⟨b,o,none⟩=w1.cell? ⟨b,o,none⟩:=fun b o=>by rw [hZ]; rfl
 have HZ:=hid (show yh Z w.heap.size R (q+1) (q+1) (pwF q)∧Below w.heap.size w Z by rw [hZ]; exact ⟨HO.out.drew,HB.out.drew⟩);rw [← hZZ] at u1;clear hZ hZZ HO HB
 iterate 6
  first
   | refine zd (fun K hK=>?_)
   | refine ze (fun K hK=>?_)
  go_simp;refine hK _ ?_;clear hK K
 refine zo ?_;go_wp2_with fail;exact bodyPost_ret (v:=.tuple #[.slice (some ⟨R,0,none⟩) (q+1) (q+1),.int .i64 (pwF q 1)]) (by simp [results,Tryz.results101,go_sem]) rfl ⟨R,rfl,HZ.out⟩
theorem yz {w:World} {b o:Nat} {cs:Array Value} {t:TypeId} {fr:Nat × Nat} (h:w.heap[b]? = some (.cells cs t fr)) (v:Value):(w.setCell ⟨b,o,none⟩ v).heap[b]? = some (.cells (cs.setIfInBounds o v) t fr):=by
 simp only [World.setCell,Array.getElem?_modify,if_true,h];rfl
theorem qA {w:World} {g:Nat} {old:Array Value} {t:TypeId} (hg:w.heap[g]? = some (.cells old t (0,0))) (cells:Array Value):zM w g (w.setRow g cells)∧(w.setRow g cells).heap[g]? = some (.cells cells t (0,0))∧(w.setRow g cells).heap.size=w.heap.size:=
 ⟨⟨⟨rfl,rfl,rfl,by simp,fun k hk=>absurd hk (Nat.not_lt_zero k)⟩,fun k _ hn=>setRow_other w g k cells hn⟩,setRow_heap w g old cells t _ hg,setRow_size w g cells⟩
def kv:TypeDesc→Bool
 | .struct _=>true
 | .array _ _=>true
 | _=>false
theorem tS {fn:Func} {R:Ending→World→Prop} {a:Act} {w:World} (sl ty:Nat) (hres:fn.results=#[.cell sl ty]) (g:Nat) (t:TypeId) (cs:Array Value) (d:TypeDesc) (ha:a.tmps.getD sl undef=.pointer (some ⟨g,0,none⟩)) (hg:w.heap[g]? = some (.cells cs t (0,0)))
  (hu:Tryz.prog.underlying ty=some d) (hag:kv d=true) (hi:(Tryz.prog.info? ty).map (·.size)=some cs.size) (hd:a.defers=[]) (hR:R (.returned (.agg cs)) w):bodyPost Tryz.prog fn R .ret a w:=by
 refine bodyPost_ret (v:=.agg cs) ?_ hd hR;have hl:=run_loadVar_row (P:=Tryz.prog) w g t ty cs (0,0) d hg hu (by cases d<;>first | rfl | cases hag) hi;have ha':a.tmps[sl]?.getD undef=.pointer (some ⟨g,0,none⟩):=by rw [← ha,Array.getD_eq_getD_getElem?]
 simp [results,hres,ha',asAddr,hl]
theorem r7 {ops:Array Oper} {o:Oper} {a:Act} {w:World} {K:Act→World→Prop} {Q:Exit→Act→World→Prop} {E:Prop} (hg:o.guard=none) (l c:Operand) (t:TypeId) (hop:o.op=Op.makeSlice t l c)
  (base:Nat) (e:TypeId) (i:TypeInfo) (z:Value) (size:Nat) (h1:Tryz.prog.underlying t=some (.slice e)) (h2:Tryz.prog.info? e=some i) (h3:i.zero=some z) (h4:i.size=size)
  (kl kc:IntKind) (L C:Int) (n:Nat) (hl:a.eval l=.int kl L) (hc:a.eval c=.int kc C) (hL:L=(n:Int)) (hC:C=(n:Int)) (b2:i.bytes*n≤281474976710656) (b3:n≤maxLen) (b4:base≤w.heap.size)
  (hK:∀ w',w'.ownsRow base e size (.slice (some ⟨w.heap.size,0,none⟩) n n) n (madeCells z.cells (n*size)).toList→w.grownBy w' none→K (a.put o.dst (.slice (some ⟨w.heap.size,0,none⟩) n n)) w') :
  if Region.wanted o (yielded ops a.tmps)=true then Oper.wp Tryz.prog o a w K Q else E:=by
 rw [if_pos (by simp [Region.wanted,hg])];obtain ⟨w',hrun,r1,r2⟩:=run_make_full (P:=Tryz.prog) w base t e i z size h1 h2 h3 h4 kl kc n b2 b3 b4;subst hL;subst hC;unfold Oper.wp;simp [execOp,hop,hl,hc,hrun,Result.andThen];exact hK w' r1 r2
theorem r8 {w:World} {base R n:Nat} (h:w.ownsRow base 3 1 (.slice (some ⟨R,0,none⟩) n n) n (madeCells (Value.int .i64 0).cells (n*1)).toList):yh w base R n n fun _=>0:=by
 rw [Nat.mul_one] at h;exact vG h
def lwN (f:Nat→Nat) (d i:Nat):Int:=((f i:Int) / (Nat.gcd (f i) d:Nat))
def lwD (f:Nat→Nat) (d i:Nat):Int:=((d:Int) / (Nat.gcd (f i) d:Nat))
def lwM (g:Nat→Int) (e i:Nat):Int:=if i<e then g i else 0
theorem pN (g:Nat→Int) (e i:Nat):yy (lwM g e) e (g e) i=lwM g (e+1) i:=by
 by_cases h:i=e
 ·subst h; rw [zL]; unfold lwM; rw [if_pos (by omega)]
 ·rw [zG _ _ h];unfold lwM;by_cases h2:i<e
  ·rw [if_pos h2,if_pos (by omega)]
  ·rw [if_neg h2,if_neg (by omega)]
theorem nB {x g:Nat} (h:x≤4611686018427387904):IntKind.i64.wrap ((x:Int) / (g:Int))=(x:Int) / (g:Int):=by
 refine IntWalk.i64_in _ ?_;have h1:x / g≤x:=Nat.div_le_self _ _;have e:(x:Int) / (g:Int)=((x / g:Nat):Int):=rfl;rw [e];generalize x / g=y at *;clear e;omega
def uu (t:Nat) (w:World) (base:Nat) (v:Value) (n:Nat) (f g:Nat→Int):Prop:=t=t∧∃ A C a c,v=.agg #[.slice (some ⟨A,0,none⟩) n a,.slice (some ⟨C,0,none⟩) n c]∧yh w base A n a f∧yh w base C n c g
structure OnRow (w0:World) (n:Nat) (L:Nat→Bool) (w:World) (v2 v5 v6 v7:Value):Prop where
 b:Below w0.heap.size w0 w
 o6:L 6=true→L 2=true∧L 5=true
 o8:L 8=true→L 7=true∧L 6=true
 ne:L 2=true→L 5=true→∀ A C,v2=.slice (some ⟨A,0,none⟩) n n→v5=.slice (some ⟨C,0,none⟩) n n→A≠C
 n2:L 2=true→L 7=true→∀ A P,v2=.slice (some ⟨A,0,none⟩) n n→v7=.pointer (some ⟨P,0,none⟩)→P≠A
 n5:L 5=true→L 7=true→∀ A P,v5=.slice (some ⟨A,0,none⟩) n n→v7=.pointer (some ⟨P,0,none⟩)→P≠A
 h2:L 2=true→∃ A,v2=.slice (some ⟨A,0,none⟩) n n∧yh w w0.heap.size A n n (fun _=>0)
 h5:L 5=true→∃ A,v5=.slice (some ⟨A,0,none⟩) n n∧yh w w0.heap.size A n n (fun _=>0)
 h6:L 6=true→v6=.agg #[v2,v5]
 h7:L 7=true→∃ P a c,v7=.pointer (some ⟨P,0,none⟩)∧w0.heap.size≤P∧w.heap[P]? = some (.cells #[a,c] 102)
 h8:L 8=true→∃ P,v7=.pointer (some ⟨P,0,none⟩)∧w.heap[P]? = some (.cells #[v2,v5] 102)
theorem uv (n R c:Nat) (f:Nat→Nat) (d:Nat) (hf:∀ i,i<n→f i≤4611686018427387904) (hd:0<d∧d≤4611686018427387904) (hn:n≤10) (w:World) (hR:R<w.heap.size) (hr:∀ i,i<n→w.cell? ⟨R,i,none⟩=some (.int .i64 (f i:Nat))) :
  Calls Tryz.prog 99 #[.slice (some ⟨R,0,none⟩) n c,.int .i64 d] w fun e w'=>∃ v,e=.returned v∧uu 0 w' w.heap.size v n (lwN f d) (lwD f d)∧Below w.heap.size w w':=by
 obtain ⟨iI,hI,g1,g2,g3⟩:=info_parts tj;have HI:=hid (show iI.zero=_∧iI.size=_∧iI.bytes=_ from ⟨g1,g2,g3⟩);have HI0:=hid hI;clear hI g1 g2 g3;have HF:=hid hf;have HRC:=hid hr;clear hf hr;have AL:=al1 w (.cells #[.slice none 0 0,.slice none 0 0] 102);go_enter Tryz.func99,Tryz.ntmps99;go_upto_region 1 with fail
 generalize w.alloc (.cells #[.slice none 0 0,.slice none 0 0] 102)=X at *;generalize hB:w.heap.size=B at *;obtain ⟨x1,x2,x3⟩:=AL;have HX:=hid x1;have HBX:=hid x3;clear x1 x3
 go_cut [5] (fun p wx=>∃ P A C,p=.pointer (some ⟨P,0,none⟩)∧wx.heap[P]? = some (.cells #[.slice (some ⟨A,0,none⟩) n n,.slice (some ⟨C,0,none⟩) n n] 102)∧yh wx X.heap.size A n n (fun _=>0)∧yh wx X.heap.size C n n (fun _=>0)∧A≠C∧P≠A∧P≠C∧X.heap.size≤P∧Below X.heap.size X wx)
 case first=>
  refine uO [(0,1),(1,1),(3,1),(4,1)] [2,5,6,7,8] [] [(6,[2,5]),(8,[6,7])] (fun W=>Below X.heap.size X W) (fun L a w=>∃ v2 v5 v6 v7:Value,a=⟨#[.slice (some ⟨R,0,none⟩) n c,.int .i64 d,undef,undef,.pointer (some ⟨B,0,none⟩),v7,undef,undef,undef,.slice (some ⟨R,0,none⟩) n c,.int .i64 n,v2,.slice (some ⟨R,0,none⟩) n c,.int .i64 n,v5,v6,undef,undef,undef,undef,undef,undef,undef,undef,undef,undef,undef,undef,undef,undef,undef,undef,undef,undef,undef,undef,undef,undef,undef,undef,undef,undef],[]⟩∧OnRow X n L w v2 v5 v6 v7) (by kernel_rfl) (by kernel_rfl) (fun _ _ d _ _ h=>by cases d<;>exact h) ((Below.refl _ _).drew)
   (.cons ?o2 (.cons ?o5 (.cons ?o6 (.cons ?o7 (.cons ?o8 .nil))))) ?fin ?ini
  case ini=>
   intro Z hZ hbZ;clear hZ
   iterate 4
    refine re (fun K hK=>?_);go_simp;refine hK _ ?_;clear hK K
   refine r6 fun L hL=>⟨_,_,_,_,rfl,hbZ,?_,?_,?_,?_,?_,?_,?_,?_,?_,?_⟩
   ·exact fun h=>absurd h (by rw [hL 6 (by decide)]; decide)
   ·exact fun h=>absurd h (by rw [hL 8 (by decide)]; decide)
   ·exact fun h=>absurd h (by rw [hL 2 (by decide)]; decide)
   ·exact fun h=>absurd h (by rw [hL 2 (by decide)]; decide)
   ·exact fun h=>absurd h (by rw [hL 5 (by decide)]; decide)
   ·exact fun h=>absurd h (by rw [hL 2 (by decide)]; decide)
   ·exact fun h=>absurd h (by rw [hL 5 (by decide)]; decide)
   ·exact fun h=>absurd h (by rw [hL 6 (by decide)]; decide)
   ·exact fun h=>absurd h (by rw [hL 7 (by decide)]; decide)
   ·exact fun h=>absurd h (by rw [hL 8 (by decide)]; decide)
  case o2=>
   rintro L a w hL hd ⟨v2,v5,v6,v7,rfl,hI⟩ K hK;refine yJ rfl ?_;refine r7 rfl _ _ 22 rfl w.heap.size 3 iI (.int .i64 0) 1 Tryz.underlying22 HI0.out HI.out.1 HI.out.2.1 .i64 .i64 (n:Int) (n:Int) n rfl rfl rfl rfl (by rw [HI.out.2.2]; omega) (by unfold maxLen; omega) (Nat.le_refl _) ?_;intro w' hr hg;have hst:Below w.heap.size w w':=(Below.refl _ _).grown hg (Nat.le_refl _) (fun k hk=>by cases hk);have hb:=hI.b.trans (hst.mono hI.b.size);exact hK _ _ (fun _=>hb) ⟨_,_,_,_,rfl,hb,fun h=>absurd (((hI.o6 h).1).symm.trans hL) (by decide),hI.o8,fun _ h5 A C e1 e2=>by obtain ⟨A',e,g⟩:=hI.h5 h5; cases e1; cases e.symm.trans e2; exact Ne.symm (Nat.ne_of_lt g.lt.2),fun _ h7 A P e1 e2=>by obtain ⟨P',a,c,e,-,g⟩:=hI.h7 h7; cases e1; cases e.symm.trans e2; exact Nat.ne_of_lt (zj g),hI.n5,fun _=>⟨_,rfl,(r8 hr).base (b':=X.heap.size) hI.b.size⟩,fun h=>by obtain ⟨A,e,g⟩:=hI.h5 h; exact ⟨A,e,g.below hst g.lt.2⟩,fun h=>absurd (((hI.o6 h).1).symm.trans hL) (by decide),fun h=>by obtain ⟨P,a,c,e,g1,g2⟩:=hI.h7 h; exact ⟨P,a,c,e,g1,(hst.block P (zj g2)).trans g2⟩,fun h=>absurd (((hI.o6 (hI.o8 h).2).1).symm.trans hL) (by decide)⟩
  case o5=>
   rintro L a w hL hd ⟨v2,v5,v6,v7,rfl,hI⟩ K hK;refine yJ rfl ?_;refine r7 rfl _ _ 22 rfl w.heap.size 3 iI (.int .i64 0) 1 Tryz.underlying22 HI0.out HI.out.1 HI.out.2.1 .i64 .i64 (n:Int) (n:Int) n rfl rfl rfl rfl (by rw [HI.out.2.2]; omega) (by unfold maxLen; omega) (Nat.le_refl _) ?_;intro w' hr hg;have hst:Below w.heap.size w w':=(Below.refl _ _).grown hg (Nat.le_refl _) (fun k hk=>by cases hk);have hb:=hI.b.trans (hst.mono hI.b.size);exact hK _ _ (fun _=>hb) ⟨_,_,_,_,rfl,hb,fun h=>absurd (((hI.o6 h).2).symm.trans hL) (by decide),hI.o8,fun h2 _ A C e1 e2=>by obtain ⟨A',e,g⟩:=hI.h2 h2; cases e2; cases e.symm.trans e1; exact Nat.ne_of_lt g.lt.2,hI.n2,fun _ h7 A P e1 e2=>by obtain ⟨P',a,c,e,-,g⟩:=hI.h7 h7; cases e1; cases e.symm.trans e2; exact Nat.ne_of_lt (zj g),fun h=>by obtain ⟨A,e,g⟩:=hI.h2 h; exact ⟨A,e,g.below hst g.lt.2⟩,fun _=>⟨_,rfl,(r8 hr).base (b':=X.heap.size) hI.b.size⟩,fun h=>absurd (((hI.o6 h).2).symm.trans hL) (by decide),fun h=>by obtain ⟨P,a,c,e,g1,g2⟩:=hI.h7 h; exact ⟨P,a,c,e,g1,(hst.block P (zj g2)).trans g2⟩,fun h=>absurd (((hI.o6 (hI.o8 h).2).2).symm.trans hL) (by decide)⟩
  case o6=>
   rintro L a w hL hd ⟨v2,v5,v6,v7,rfl,hI⟩ K hK;obtain ⟨A,rfl,-⟩:=hI.h2 (hd 2 (by decide));obtain ⟨C,rfl,-⟩:=hI.h5 (hd 5 (by decide));go_simp;have hst:Below w.heap.size w w:=Below.refl _ _;exact hK _ _ (fun _=>hI.b) ⟨_,_,_,_,rfl,hI.b,fun _=>⟨hd 2 (by decide),hd 5 (by decide)⟩,fun h=>⟨(hI.o8 h).1,rfl⟩,hI.ne,hI.n2,hI.n5,fun h=>by obtain ⟨A,e,g⟩:=hI.h2 h; exact ⟨A,e,g.below hst g.lt.2⟩,fun h=>by obtain ⟨A,e,g⟩:=hI.h5 h; exact ⟨A,e,g.below hst g.lt.2⟩,fun _=>rfl,fun h=>by obtain ⟨P,a,c,e,g1,g2⟩:=hI.h7 h; exact ⟨P,a,c,e,g1,(hst.block P (zj g2)).trans g2⟩,fun h=>by obtain ⟨P,e,g⟩:=hI.h8 h; exact ⟨P,e,(hst.block P (zj g)).trans g⟩⟩
  case o7=>
   rintro L a w hL hd ⟨v2,v5,v6,v7,rfl,hI⟩ K hK;go_simp;obtain ⟨y1,y2,hst⟩:=al1 w (.cells #[.slice none 0 0,.slice none 0 0] 102);have hb:=hI.b.trans (hst.mono hI.b.size);exact hK _ _ (fun _=>hb) ⟨_,_,_,_,rfl,hb,hI.o6,fun h=>absurd (((hI.o8 h).1).symm.trans hL) (by decide),hI.ne,fun h2 _ A P e1 e2=>by obtain ⟨A',e,g⟩:=hI.h2 h2; cases e2; cases e.symm.trans e1; exact Ne.symm (Nat.ne_of_lt g.lt.2),fun h5 _ A P e1 e2=>by obtain ⟨A',e,g⟩:=hI.h5 h5; cases e2; cases e.symm.trans e1; exact Ne.symm (Nat.ne_of_lt g.lt.2),fun h=>by obtain ⟨A,e,g⟩:=hI.h2 h; exact ⟨A,e,g.below hst g.lt.2⟩,fun h=>by obtain ⟨A,e,g⟩:=hI.h5 h; exact ⟨A,e,g.below hst g.lt.2⟩,hI.h6,fun _=>⟨_,_,_,rfl,hI.b.size,y1⟩,fun h=>absurd (((hI.o8 h).1).symm.trans hL) (by decide)⟩
  case o8=>
   rintro L a w hL hd ⟨v2,v5,v6,v7,rfl,hI⟩ K hK;have d6:=hd 6 (by decide);have d7:=hd 7 (by decide);obtain ⟨P,x,z,rfl,hP,hp⟩:=hI.h7 d7;obtain ⟨A,rfl,hA⟩:=hI.h2 (hI.o6 d6).1;obtain ⟨C,rfl,hC⟩:=hI.h5 (hI.o6 d6).2;obtain rfl:=hI.h6 d6;have c0:=zf hp 0;have f0:=zg hp 0;have c1:=zf hp 1;have f1:=zg hp 1;simp only [List.getElem?_toArray,List.getElem?_cons_zero,List.getElem?_cons_succ] at c0 c1;go_simp;have hb:Below X.heap.size X ((w.setCell ⟨P,0,none⟩ (.slice (some ⟨A,0,none⟩) n n)).setCell ⟨P,1,none⟩ (.slice (some ⟨C,0,none⟩) n n)):=(hI.b.setCell (p:=⟨P,0,none⟩) hP _).setCell (p:=⟨P,1,none⟩) hP _;have hz:((w.setCell ⟨P,0,none⟩ (.slice (some ⟨A,0,none⟩) n n)).setCell ⟨P,1,none⟩ (.slice (some ⟨C,0,none⟩) n n)).heap[P]? = some (.cells #[.slice (some ⟨A,0,none⟩) n n,.slice (some ⟨C,0,none⟩) n n] 102):=yz (yz hp _) _;have n2:=hI.n2 (hI.o6 d6).1 d7 _ _ rfl rfl;have n5:=hI.n5 (hI.o6 d6).2 d7 _ _ rfl rfl;exact hK _ _ (fun _=>hb) ⟨_,_,_,_,rfl,hb,hI.o6,fun _=>⟨d7,d6⟩,hI.ne,hI.n2,hI.n5,fun _=>⟨A,rfl,(hA.other n2 _).other n2 _⟩,fun _=>⟨C,rfl,(hC.other n5 _).other n5 _⟩,hI.h6,fun _=>⟨P,_,_,rfl,hP,hz⟩,fun _=>⟨P,rfl,hz⟩⟩
  case fin=>
   rintro L a w hL ⟨v2,v5,v6,v7,rfl,hI⟩;obtain ⟨P,rfl,hp⟩:=hI.h8 (hL 8 (by decide));obtain ⟨A,rfl,hA⟩:=hI.h2 (hL 2 (by decide));obtain ⟨C,rfl,hC⟩:=hI.h5 (hL 5 (by decide));have n1:=hI.ne (hL 2 (by decide)) (hL 5 (by decide)) _ _ rfl rfl;have n2:=hI.n2 (hL 2 (by decide)) (hL 7 (by decide)) _ _ rfl rfl;have n5:=hI.n5 (hL 5 (by decide)) (hL 7 (by decide)) _ _ rfl rfl;obtain ⟨P',x,z,e,hP,-⟩:=hI.h7 (hL 7 (by decide));cases e
   have hb:=hI.b;clear hI hL;go_wp2_with fail;go_meet;exact ⟨P,A,C,rfl,hp,hA,hC,n1,n2,n5,hP,hb⟩
 case rest=>
  obtain ⟨P,A,C,rfl,hp,ha,hc,n1,n2,n3,n4,hb⟩:=hcut;have HP:=hid hp;have HA:=hid ha;have HC:=hid hc;have HB1:=hid hb;clear hp ha hc hb;have hAs:=HA.out.lt;have hCs:=HC.out.lt;have hPs:=zj HP.out;have hPX:X.heap.size≤P:=n4;have HA0:=hid (HA.out.congr (g:=lwM (lwN f d) 0) (fun i hi=>by unfold lwM; rw [if_neg (by omega)]));have HC0:=hid (HC.out.congr (g:=lwM (lwD f d) 0) (fun i hi=>by unfold lwM; rw [if_neg (by omega)]));clear HA HC;go_wp2_with fail
  go_loopw [18] (fun i wr=>∃ e:Nat,e≤n∧i=.int .i64 e∧yh wr X.heap.size A n n (lwM (lwN f d) e)∧yh wr X.heap.size C n n (lwM (lwD f d) e)∧wr.heap[P]? = some (.cells #[.slice (some ⟨A,0,none⟩) n n,.slice (some ⟨C,0,none⟩) n n] 102)∧Below X.heap.size X wr) (fun i _=>n-(intOf i).toNat)
  case atStart=>exact ⟨0,by omega,rfl,HA0.out,HC0.out,HP.out,HB1.out⟩
  case round=>
   clear HA0 HC0 HP HB1;obtain ⟨e,he,rfl,ha,hc,hp,hb⟩:=hrel;have HA:=hid ha;have HC:=hid hc;have HP:=hid hp;have HB1:=hid hb;by_cases hen:e<n
   ·have j1:(e:Int)<(n:Int):=by omega
    have u1:=(hb.cell (p:=⟨R,e,none⟩) (show R<_ by omega)).trans ((HBX.out.cell (p:=⟨R,e,none⟩) hR).trans (HRC.out e hen));have hf:=HF.out e hen;have DV:=hid (fun W=>sp (f e) d hf hd.2 W);have hgp:0<Nat.gcd (f e) d:=Nat.gcd_pos_of_pos_right _ hd.1;have k1:=nB (g:=Nat.gcd (f e) d) hf;have k2:=nB (g:=Nat.gcd (f e) d) hd.2;have HG:=hid (show (f e:Int) / (Nat.gcd (f e) d:Nat)=lwN f d e∧(d:Int) / (Nat.gcd (f e) d:Nat)=lwD f d e from ⟨rfl,rfl⟩);generalize Nat.gcd (f e) d=g at *;have g2:¬ g=0:=by omega
    clear ha hc hp hb;go_wp2_with fail;refine (DV.out _).mono ?_;rintro e2 w' ⟨rfl,rfl⟩;have p0:=zf HP.out 0;have p1:=zf HP.out 1;have a0:=HA.out.cell hen;have c0:=HC.out.cell hen;have fa:=HA.out.free e;have fc:=HC.out.free e;simp only [List.getElem?_toArray,List.getElem?_cons_zero,List.getElem?_cons_succ] at p0 p1;clear u1;go_upto_region 6 with fail
    refine zv [(0,1),(1,2),(2,1),(3,1),(4,3),(5,1),(6,1),(7,1),(8,1),(9,1),(10,1),(11,1),(12,1),(13,0),(14,1),(15,0)] (fun W=>W.cell? ⟨P,1,none⟩=some (.slice (some ⟨C,0,none⟩) n n)) (by kernel_rfl) (by kernel_rfl) (fun _ _ d _ _ h=>by cases d<;>exact h) (p1) ?_;intro Z hZ hrZ;have hZZ:∀ b o,Z.cell? ⟨b,o,none⟩=wr.cell? ⟨b,o,none⟩:=fun b o=>by rw [hZ]; rfl
    have hzf:∀ b o,Z.frozen? ⟨b,o,none⟩=wr.frozen? ⟨b,o,none⟩:=fun b o=>by rw [hZ]; rfl
    have HZ:=hid (show yh Z X.heap.size A n n (lwM (lwN f d) e)∧yh Z X.heap.size C n n (lwM (lwD f d) e)∧Z.heap[P]? = some (.cells #[.slice (some ⟨A,0,none⟩) n n,.slice (some ⟨C,0,none⟩) n n] 102)∧Below X.heap.size X Z by rw [hZ]; exact ⟨HA.out.drew,HC.out.drew,HP.out,HB1.out.drew⟩);rw [← hZZ] at p0 a0 c0;rw [← hzf] at fa fc;clear hZ hZZ hzf HA HC HP HB1 p1
    iterate 4
     first
      | refine zd (fun K hK=>?_)
      | refine ze (fun K hK=>?_)
     go_simp;refine hK _ ?_;clear hK K
    refine zh (v:=.slice (some ⟨C,0,none⟩) n n) rfl rfl (fun wk hwk=>?_) ?_
    ·go_simp
    iterate 8
     first
      | refine zd (fun K hK=>?_)
      | refine ze (fun K hK=>?_)
     go_simp;refine hK _ ?_;clear hK K
    have HY:=hid (show yh (Z.setCell ⟨A,e,none⟩ (.int .i64 ((f e:Int) / (g:Int)))) X.heap.size A n n (lwM (lwN f d) (e+1))∧yh (Z.setCell ⟨A,e,none⟩ (.int .i64 ((f e:Int) / (g:Int)))) X.heap.size C n n (lwM (lwD f d) e)∧(Z.setCell ⟨A,e,none⟩ (.int .i64 ((f e:Int) / (g:Int)))).heap[P]? = some (.cells #[.slice (some ⟨A,0,none⟩) n n,.slice (some ⟨C,0,none⟩) n n] 102)∧Below X.heap.size X (Z.setCell ⟨A,e,none⟩ (.int .i64 ((f e:Int) / (g:Int)))) from
     ⟨(HZ.out.1.set hen _).congr (fun i hi=>by rw [HG.out.1]; exact pN _ e i),HZ.out.2.1.other n1 _,(Below.heap_setCell _ _ _ _ n2).trans HZ.out.2.2.1,HZ.out.2.2.2.setCell (p:=⟨A,e,none⟩) hAs.1 _⟩)
    have p1:=zf HY.out.2.2.1 1;have c1:=HY.out.2.1.cell hen;have fd:=HY.out.2.1.free e;simp only [List.getElem?_toArray,List.getElem?_cons_zero,List.getElem?_cons_succ] at p1;refine zm (fun K hK=>?_);go_simp;refine hK _ _ (fun h=>Bool.noConfusion (Eq.trans (Eq.symm (by kernel_rfl:_=false)) h)) (fun _=>p1) ?_;clear hK K;generalize Z.setCell ⟨A,e,none⟩ (.int .i64 ((f e:Int) / (g:Int)))=Y at *;clear p0 a0 c0 fa fc hrZ HZ p1
    iterate 1
     first
      | refine zd (fun K hK=>?_)
      | refine ze (fun K hK=>?_)
     go_simp;refine hK _ ?_;clear hK K
    have HW:=hid (show yh (Y.setCell ⟨C,e,none⟩ (.int .i64 ((d:Int) / (g:Int)))) X.heap.size A n n (lwM (lwN f d) (e+1))∧yh (Y.setCell ⟨C,e,none⟩ (.int .i64 ((d:Int) / (g:Int)))) X.heap.size C n n (lwM (lwD f d) (e+1))∧(Y.setCell ⟨C,e,none⟩ (.int .i64 ((d:Int) / (g:Int)))).heap[P]? = some (.cells #[.slice (some ⟨A,0,none⟩) n n,.slice (some ⟨C,0,none⟩) n n] 102)∧Below X.heap.size X (Y.setCell ⟨C,e,none⟩ (.int .i64 ((d:Int) / (g:Int)))) from
     ⟨HY.out.1.other (fun h=>n1 h.symm) _,(HY.out.2.1.set hen _).congr (fun i hi=>by rw [HG.out.2]; exact pN _ e i),(Below.heap_setCell _ _ _ _ n3).trans HY.out.2.2.1,HY.out.2.2.2.setCell (p:=⟨C,e,none⟩) hCs.1 _⟩)
    refine zm (fun K hK=>?_);go_simp;refine hK _ _ (fun h=>Bool.noConfusion (Eq.trans (Eq.symm (by kernel_rfl:_=false)) h)) (fun h=>Bool.noConfusion (Eq.trans (Eq.symm (by kernel_rfl:_=false)) h)) ?_;clear hK K;refine zo ?_;generalize Y.setCell ⟨C,e,none⟩ (.int .i64 ((d:Int) / (g:Int)))=V at *;clear c1 fd HY k1 k2;go_wp2_with fail
    go_roundw
    case rel=>exact ⟨e+1,by omega,by go_num,HW.out⟩
    case measure=>simp [intOf]; omega
   ·obtain rfl:e=n:=by omega
    clear ha hc hp hb;have hRB:=(HB1.out.block B (by omega)).trans HX.out;have hrow:=qA hRB #[.slice (some ⟨A,0,none⟩) e e,.slice (some ⟨C,0,none⟩) e e];have HRX:=hid hRB;have HRR:=hid hrow.2.1;have HKR:=hid hrow.1;clear hRB hrow
    go_wp2_with (first
     | (refine wpList_load_row rfl 102 _ rfl P rfl 102 #[.slice (some ⟨A,0,none⟩) e e,.slice (some ⟨C,0,none⟩) e e] _ _ HP.out Tryz.underlying102 rfl (by kernel_rfl) ?_)
     | (refine wpList_store_row rfl 102 _ _ rfl B #[.slice (some ⟨A,0,none⟩) e e,.slice (some ⟨C,0,none⟩) e e] rfl rfl 102 _ HRX.out (by kernel_rfl) rfl (by simp [Value.oneCell']) ?_)
     | fail)
    refine tS 4 102 Tryz.results99 B 102 #[.slice (some ⟨A,0,none⟩) e e,.slice (some ⟨C,0,none⟩) e e] _ rfl HRR.out Tryz.underlying102 rfl (by kernel_rfl) rfl ?_;refine ⟨_,rfl,⟨rfl,A,C,e,e,rfl,?_,?_⟩,hB ▸ HKR.out.below (HBX.out.trans (HB1.out.mono (by omega))) (Nat.le_refl B) (by have:=HB1.out.size; omega)⟩
    ·exact ((HA.out.base (b':=w.heap.size) (by omega)).kept (HKR.out.block A (HA.out.lt.2) (by omega))).congr (fun i hi=>by unfold lwM; rw [if_pos hi])
    ·exact ((HC.out.base (b':=w.heap.size) (by omega)).kept (HKR.out.block C (HC.out.lt.2) (by omega))).congr (fun i hi=>by unfold lwM; rw [if_pos hi])
end Go.Proofs.YtnlbafjmbamoeaaGreat
