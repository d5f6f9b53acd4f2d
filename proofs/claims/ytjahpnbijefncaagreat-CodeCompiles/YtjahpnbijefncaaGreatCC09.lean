import Derived.Test.YtjahpnbijefncaaGreatCC08
namespace Go.Proofs.YtjahpnbijefncaaGreat
set_option maxRecDepth 100000
set_option linter.unusedVariables false
set_option maxHeartbeats 20000000
section
open Go.RowKit
attribute [local go_sem ↓] Go.wp_at_zero Go.wp_at_succ
theorem Zoo {w:World} {b bs:Nat} {ro:Option Addr} {rc:Nat} {L:List Sym} {R:List Ru} {lo:Option Addr} {l:List Ru} {n lc:Nat} (h:Cnd w b bs ro rc L R lo l n) (hu:Yv L R l 5 n) :
  Calls Tryz.prog 145 #[.agg #[.pointer (some ⟨b,0,none⟩),.slice lo l.length lc,.int .i64 (n:Int)]] w λ e w' => ∃ v,e=.returned v∧Yg w' (X9 L R l 5 n) v∧Za w w' := by
 obtain ⟨lb,off,ao,ac,bo,bc,x,rfl,hx,W0,CC0,HS,HA,CR,CU⟩:=h.opened lc;have W1:Za (w.alloc (.cells #[.pointer (some ⟨b,0,none⟩),.slice (some ⟨lb,off,none⟩) l.length lc,.int .i64 (n:Int)] 211)) (w.alloc (.cells #[.pointer (some ⟨b,0,none⟩),.slice (some ⟨lb,off,none⟩) l.length lc,.int .i64 (n:Int)] 211)).drew:=Zc.drew (Zc.refl _ _);have f0:=X8;have f1:=Xi
 have hc:Ze L x.1=0∧Ze L x.2=0:=by
  have:=hu.1 1 (by omega) n h.hn;simp only [ckB,Zbu,<- hx,Bool.and_eq_true,decide_eq_true_eq] at this;exact this
 have hm:x.1.length<=2000:=(Zg.1 hc.1).1;have hm2:x.2.length<=2000:=(Zg.1 hc.2).1;have hp:0<x.1.length:=Z6 (Zg.1 hc.1).2.2
 have E:Hid (∀ q:Bool,q=(!x.1.tail.any (Y7 L))->(if q=true then [(0, -1)] else [(75,(n:Int))])=X9 L R l 5 n):=by
  intro q hq;have e1:x.1.tail.all (λ n=>!Y7 L n) = !x.1.tail.any (Y7 L):=by simp [List.all_eq_not_any_not]
  subst hq;simp only [X9,ckB,Zbu,Xm,<- hx,e1];rfl
 obtain ⟨ab,ao', rfl,hab⟩:∃ ab ao', ao=some ⟨ab,ao', none⟩∧Zh (w.alloc (.cells #[.pointer (some ⟨b,0,none⟩),.slice (some ⟨lb,off,none⟩) l.length lc,.int .i64 (n:Int)] 211)) (if ac=1 then some ⟨ab,ao', none⟩ else some ⟨ab,ao' + 1,none⟩) x.1.tail:=by
  have hA:=((HA.out _ (Zc.refl _ _)).1).at';obtain ⟨ab,ao', e,hlt,hc⟩:=hA.get hp;refine ⟨ab,ao', e,?_⟩;have hcap:=((HA.out _ (Zc.refl _ _)).1).cap'
  by_cases hac:ac=1
  ·left
   exact List.eq_nil_of_length_eq_zero (by simp;omega)
  rw [if_neg hac];refine .inr ⟨ab,ao' + 1,rfl,hlt,λ i hi=>?_⟩;have hi' : i+1<x.1.length:=by simp at hi;omega
  obtain ⟨ab2,ao2,e2,_,hc2⟩:=hA.get hi';rw [e] at e2;simp only [Option.some.injEq,Addr.mk.injEq] at e2;obtain ⟨rfl,rfl,_⟩:=e2;rw [show ao' + 1+i=ao' + (i+1) by omega,hc2];simp
 have hac:=((HA.out _ (Zc.refl _ _)).1).cap';have i1:(1:Int)<=(x.1.length:Int):=by omega
 have i2:(x.1.length:Int)<=(ac:Int):=by omega
 have CD:∀ ww z,Za (w.alloc (.cells #[.pointer (some ⟨b,0,none⟩),.slice (some ⟨lb,off,none⟩) l.length lc,.int .i64 (n:Int)] 211)) ww->Calls Tryz.prog 168 #[.agg #[.pointer (some ⟨b,0,none⟩),.slice (some ⟨lb,off,none⟩) l.length lc,.int .i64 (n:Int)],.int .i64 z] ww λ e w' => e=.returned (.bool (Y7 L z))∧Za (w.alloc (.cells #[.pointer (some ⟨b,0,none⟩),.slice (some ⟨lb,off,none⟩) l.length lc,.int .i64 (n:Int)] 211)) w' := λ ww z hk=>(Zbf (HA.out ww hk).2.2 _ _ _ _ _).mono (λ e w' ⟨q1,q2⟩=>⟨q1,hk.trans' q2⟩)
 have CB:Hid (∀ ww so sl sc,so=(if ac=1 then some ⟨ab,ao', none⟩ else some ⟨ab,ao' + 1,none⟩)->sl=x.1.tail.length->Za (w.alloc (.cells #[.pointer (some ⟨b,0,none⟩),.slice (some ⟨lb,off,none⟩) l.length lc,.int .i64 (n:Int)] 211)) ww->Calls Tryz.prog 68 #[.slice so sl sc,.func (.func 168) #[.agg #[.pointer (some ⟨b,0,none⟩),.slice (some ⟨lb,off,none⟩) l.length lc,.int .i64 (n:Int)]] #[]] ww λ e w' => e=.returned (.bool (x.1.tail.any (Y7 L)))∧Za (w.alloc (.cells #[.pointer (some ⟨b,0,none⟩),.slice (some ⟨lb,off,none⟩) l.length lc,.int .i64 (n:Int)] 211)) w'):=λ ww so sl sc e' e hk=>by
  subst e e';exact Zgm CD hab (by simp;omega) hk
 have tl:x.1.tail.length=x.1.length-1:=by simp
 have TL:Hid (x.1.tail.length=x.1.length-1):=tl;clear h hu hx hab hc CD tl
 by_cases hac1:ac=1
 ·subst hac1
  have CB1:Hid (∀ ww sc,Za (w.alloc (.cells #[.pointer (some ⟨b,0,none⟩),.slice (some ⟨lb,off,none⟩) l.length lc,.int .i64 (n:Int)] 211)) ww->Calls Tryz.prog 68 #[.slice (some ⟨ab,ao', none⟩) 0 sc,.func (.func 168) #[.agg #[.pointer (some ⟨b,0,none⟩),.slice (some ⟨lb,off,none⟩) l.length lc,.int .i64 (n:Int)]] #[]] ww λ e w' => e=.returned (.bool (x.1.tail.any (Y7 L)))∧Za (w.alloc (.cells #[.pointer (some ⟨b,0,none⟩),.slice (some ⟨lb,off,none⟩) l.length lc,.int .i64 (n:Int)] 211)) w'):=λ ww sc hk=>CB.out ww _ 0 sc (by simp) (by rw [TL.out];omega) hk;clear CB TL
  go_enter Tryz.func145,Tryz.ntmps145
  go_wp2
  go_region_held3 (λ w' => (w'.cell? ⟨b,0,none⟩=some (.pointer (some ⟨bs,0,none⟩))∧w'.cell? ⟨b,1,none⟩=some (.slice ro R.length rc))∧(w'.cell? ⟨w.heap.size,0,none⟩=some (.pointer (some ⟨b,0,none⟩))∧w'.cell? ⟨w.heap.size,1,none⟩=some (.slice (some ⟨lb,off,none⟩) l.length lc)∧w'.cell? ⟨w.heap.size,2,none⟩=some (.int .i64 (n:Int)))∧w'.cell? ⟨lb,off+n * 2,none⟩=some (.slice (some ⟨ab,ao', none⟩) x.1.length 1)∧w'.cell? ⟨lb,off+n * 2+1,none⟩=some (.slice bo x.2.length bc)) (first | exact cc1 | exact CC0) (first | (go_at_call 166;refine (CR.out _ (by first | exact hw1 | exact W1)).mono ?_;rintro e w1 ⟨rfl,hw1⟩;have cc1:=HS.out _ hw1) | (go_at_call 68;refine (CB1.out _ _ (by first | exact hw1 | exact W1)).mono ?_;rintro e w1 ⟨rfl,hw1⟩;have cc1:=HS.out _ hw1) | (go_at_call 165;refine (CU.out _ _ _ (by first | exact hw1 | exact W1)).mono ?_;rintro e w2 ⟨v,rfl,hv,hw2⟩;have cc1:=HS.out _ hw2))
  all_goals
   go_wp2;go_ret;exact ⟨_,rfl,by rw [<- E.out _ rfl];exact hv,W0.trans' hw2⟩
 ·have CB1:Hid (∀ ww sc,Za (w.alloc (.cells #[.pointer (some ⟨b,0,none⟩),.slice (some ⟨lb,off,none⟩) l.length lc,.int .i64 (n:Int)] 211)) ww->Calls Tryz.prog 68 #[.slice (some ⟨ab,ao' + 1,none⟩) (x.1.length-1) sc,.func (.func 168) #[.agg #[.pointer (some ⟨b,0,none⟩),.slice (some ⟨lb,off,none⟩) l.length lc,.int .i64 (n:Int)]] #[]] ww λ e w' => e=.returned (.bool (x.1.tail.any (Y7 L)))∧Za (w.alloc (.cells #[.pointer (some ⟨b,0,none⟩),.slice (some ⟨lb,off,none⟩) l.length lc,.int .i64 (n:Int)] 211)) w'):=λ ww sc hk=>CB.out ww _ _ sc (by simp [hac1]) TL.out.symm hk
  clear CB TL
  go_enter Tryz.func145,Tryz.ntmps145
  go_wp2
  go_region_held3 (λ w' => (w'.cell? ⟨b,0,none⟩=some (.pointer (some ⟨bs,0,none⟩))∧w'.cell? ⟨b,1,none⟩=some (.slice ro R.length rc))∧(w'.cell? ⟨w.heap.size,0,none⟩=some (.pointer (some ⟨b,0,none⟩))∧w'.cell? ⟨w.heap.size,1,none⟩=some (.slice (some ⟨lb,off,none⟩) l.length lc)∧w'.cell? ⟨w.heap.size,2,none⟩=some (.int .i64 (n:Int)))∧w'.cell? ⟨lb,off+n * 2,none⟩=some (.slice (some ⟨ab,ao', none⟩) x.1.length ac)∧w'.cell? ⟨lb,off+n * 2+1,none⟩=some (.slice bo x.2.length bc)) (first | exact cc1 | exact CC0) (first | (go_at_call 166;refine (CR.out _ (by first | exact hw1 | exact W1)).mono ?_;rintro e w1 ⟨rfl,hw1⟩;have cc1:=HS.out _ hw1) | (go_at_call 68;refine (CB1.out _ _ (by first | exact hw1 | exact W1)).mono ?_;rintro e w1 ⟨rfl,hw1⟩;have cc1:=HS.out _ hw1) | (go_at_call 165;refine (CU.out _ _ _ (by first | exact hw1 | exact W1)).mono ?_;rintro e w2 ⟨v,rfl,hv,hw2⟩;have cc1:=HS.out _ hw2))
  all_goals
   go_wp2;go_ret;exact ⟨_,rfl,by rw [<- E.out _ rfl];exact hv,W0.trans' hw2⟩
theorem Zsi {w:World} {b bs:Nat} {ro:Option Addr} {rc:Nat} {L:List Sym} {R:List Ru} {lo:Option Addr} {l:List Ru} {n lc:Nat} (h:Cnd w b bs ro rc L R lo l n) (hu:Yv L R l 6 n) :
  Calls Tryz.prog 146 #[.agg #[.pointer (some ⟨b,0,none⟩),.slice lo l.length lc,.int .i64 (n:Int)]] w λ e w' => ∃ v,e=.returned v∧Yg w' (X9 L R l 6 n) v∧Za w w' := by
 obtain ⟨lb,off,ao,ac,bo,bc,x,rfl,hx,W0,CC0,HS,HA,CR,CU⟩:=h.opened lc;have W1:Za (w.alloc (.cells #[.pointer (some ⟨b,0,none⟩),.slice (some ⟨lb,off,none⟩) l.length lc,.int .i64 (n:Int)] 211)) (w.alloc (.cells #[.pointer (some ⟨b,0,none⟩),.slice (some ⟨lb,off,none⟩) l.length lc,.int .i64 (n:Int)] 211)).drew:=Zc.drew (Zc.refl _ _);have f0:=X8;have f1:=Xi
 have hc:Ze L x.1=0∧Ze L x.2=0:=by
  have:=hu.1 1 (by omega) n h.hn;simp only [ckB,Zbu,<- hx,Bool.and_eq_true,decide_eq_true_eq] at this;exact this
 have hm:x.1.length<=2000:=(Zg.1 hc.1).1;have hm2:x.2.length<=2000:=(Zg.1 hc.2).1;have hp:0<x.1.length:=Z6 (Zg.1 hc.1).2.2;have CL:Hid (∀ ww z,Za (w.alloc (.cells #[.pointer (some ⟨b,0,none⟩),.slice (some ⟨lb,off,none⟩) l.length lc,.int .i64 (n:Int)] 211)) ww->Calls Tryz.prog 171 #[.slice ao x.1.length ac,.int .i64 z] ww λ e w' => e=.returned (.bool (decide (z∈x.1)))∧Za (w.alloc (.cells #[.pointer (some ⟨b,0,none⟩),.slice (some ⟨lb,off,none⟩) l.length lc,.int .i64 (n:Int)] 211)) w'):=λ ww z hk=>(Zgg (HA.out ww hk).1.at' hm z).mono (λ e w' ⟨q1,q2⟩=>⟨q1,by rw [q2];exact hk⟩)
 have CP:∀ ww z,Za (w.alloc (.cells #[.pointer (some ⟨b,0,none⟩),.slice (some ⟨lb,off,none⟩) l.length lc,.int .i64 (n:Int)] 211)) ww->Calls Tryz.prog 170 #[.int .i64 z,.pointer (some ⟨w.heap.size,0,none⟩)] ww λ e w' => e=.returned (.bool (Jm x.1 z))∧Za (w.alloc (.cells #[.pointer (some ⟨b,0,none⟩),.slice (some ⟨lb,off,none⟩) l.length lc,.int .i64 (n:Int)] 211)) w' := by
  intro ww z hw1;clear W1 CC0 hx h hu hc;obtain ⟨c1,c2,c3⟩:=HS.out _ hw1
  by_cases hz:z<0
  ·have F:Hid (Jm x.1 z = !decide (z∈x.1)):=by show _=_;simp [Jm,hz]
   generalize Jm x.1 z=q at *;have CL' := λ ww=>CL.out ww z;generalize decide (z∈x.1)=q2 at *
   go_enter Tryz.func170,Tryz.ntmps170
   go_wp2_with (first | (go_at_call 166;refine (CR.out _ (by exact hw1)).mono ?_;rintro e w1 ⟨rfl,hw1⟩;have cc1:=HS.out _ hw1) | (go_at_call 171;refine (CL' _ hw1).mono ?_;rintro e w1 ⟨rfl,hw1⟩))
   go_ret;exact ⟨by rw [F.out];rfl,hw1⟩
  ·have F:Hid (Jm x.1 z=false):=by show _=_;simp [Jm,hz]
   go_enter Tryz.func170,Tryz.ntmps170
   go_wp2;go_ret;exact ⟨by rw [F.out];rfl,hw1⟩
 have CB:Hid (∀ ww,Za (w.alloc (.cells #[.pointer (some ⟨b,0,none⟩),.slice (some ⟨lb,off,none⟩) l.length lc,.int .i64 (n:Int)] 211)) ww->Calls Tryz.prog 68 #[.slice bo x.2.length bc,.func (.func 170) #[] #[.pointer (some ⟨w.heap.size,0,none⟩)]] ww λ e w' => e=.returned (.bool (x.2.any (Jm x.1)))∧Za (w.alloc (.cells #[.pointer (some ⟨b,0,none⟩),.slice (some ⟨lb,off,none⟩) l.length lc,.int .i64 (n:Int)] 211)) w'):=λ ww hk=>Zey CP (HA.out _ (Zc.refl _ _)).2.1.at' hm2 hk
 have E:Hid (∀ q:Bool,q=(!x.2.any (Jm x.1))->(if q=true then [(0, -1)] else [(76,(n:Int))])=X9 L R l 6 n):=by
  intro q hq;have e1:x.2.all (λ n=>!Jm x.1 n) = !x.2.any (Jm x.1):=by simp [List.all_eq_not_any_not]
  subst hq;simp only [X9,ckB,Zbu,Xm,<- hx,e1];rfl
 clear h hu hx hc CP CL
 go_enter Tryz.func146,Tryz.ntmps146
 go_wp2
 go_region_held3 (λ w' => (w'.cell? ⟨b,0,none⟩=some (.pointer (some ⟨bs,0,none⟩))∧w'.cell? ⟨b,1,none⟩=some (.slice ro R.length rc))∧(w'.cell? ⟨w.heap.size,0,none⟩=some (.pointer (some ⟨b,0,none⟩))∧w'.cell? ⟨w.heap.size,1,none⟩=some (.slice (some ⟨lb,off,none⟩) l.length lc)∧w'.cell? ⟨w.heap.size,2,none⟩=some (.int .i64 (n:Int)))∧w'.cell? ⟨lb,off+n * 2,none⟩=some (.slice ao x.1.length ac)∧w'.cell? ⟨lb,off+n * 2+1,none⟩=some (.slice bo x.2.length bc)) (first | exact cc1 | exact CC0) (first | (go_at_call 166;refine (CR.out _ (by first | exact hw1 | exact W1)).mono ?_;rintro e w1 ⟨rfl,hw1⟩;have cc1:=HS.out _ hw1) | (go_at_call 68;refine (CB.out _ (by first | exact hw1 | exact W1)).mono ?_;rintro e w1 ⟨rfl,hw1⟩;have cc1:=HS.out _ hw1) | (go_at_call 165;refine (CU.out _ _ _ (by first | exact hw1 | exact W1)).mono ?_;rintro e w2 ⟨v,rfl,hv,hw2⟩;have cc1:=HS.out _ hw2))
 all_goals
  go_wp2;go_ret;exact ⟨_,rfl,by rw [<- E.out _ rfl];exact hv,W0.trans' hw2⟩
theorem Zt5 (w:World) (N:Nat) (hN:N<=1000) :
  Calls Tryz.prog 181 #[.slice none 0 0,.int .i64 (N:Int)] w λ e w' => ∃ v,e=.returned v∧w'.ownsRow w.heap.size 68 2 v 0 []∧Za w w' := by
 have i0:¬ (N:Int)<0:=by omega
 by_cases h0:N=0
 ·subst h0
  go_enter Tryz.func181,Tryz.ntmps181
  go_wp2;go_ret;exact ⟨_,rfl,World.ownsRow_nil _ _ _ _,Zc.refl _ _⟩
 ·obtain ⟨i,hi,hz0,hz1,hz2⟩:=info_parts Kp
  have i1:(0:Int)<(N:Int):=by omega
  have hrun:=λ ty=>Lib.run_append_nil_zeros (P:=Tryz.prog) w 23 3 ty 68 i _ .i64 .i64 Tryz.underlying23 Tryz.underlying3 hi hz0 N (by omega) (by omega) (by omega) (by rw [hz2];omega);have hge:=grownCap_ge w N 0 68;have hle:=grownCap_le_maxLen w N 0 68 (by unfold maxLen;omega);generalize grownCap w N 0 68=cap at *;obtain ⟨Z,hZ⟩:∃ Z,Z=Builtin.zeroCells (Value.agg #[.slice none 0 0,.slice none 0 0]).cells N++Builtin.zeroCells (Value.agg #[.slice none 0 0,.slice none 0 0]).cells (cap-N):=⟨_,rfl⟩;rw [<- hZ] at hrun
  have hzs:Z.size=cap * 2:=by
   rw [hZ,Array.size_append,size_zeroCells,size_zeroCells];have:(Value.agg #[.slice none 0 0,.slice none 0 0]).cells.size=2:=rfl;rw [this];omega
  have HR:Hid ((w.drew.alloc (.cells Z 68)).ownsRow w.heap.size 68 2 (.slice (some ⟨w.heap.size,0,none⟩) 0 cap) 0 []):=⟨rfl,.inr ⟨w.heap.size,cap,Z,rfl,Nat.le_refl _,heap_alloc_new w.drew _,Nat.zero_le _,hle,hzs,by simp⟩⟩;have HK:Hid (Za w (w.drew.alloc (.cells Z 68))):=((Zc.refl _ w).drew).alloc _;clear hZ hzs hi hz0 hz1 hz2 hge hle;have j1:(0:Int)<=(cap:Int):=by omega
  go_enter Tryz.func181,Tryz.ntmps181
  go_wp2_with (first | (at_builtin;refine Lib.wpList_append_run _ rfl _ _ 23 3 rfl _ _ rfl rfl _ _ (hrun _) ?_))
  go_ret;exact ⟨_,rfl,HR.out,HK.out⟩
theorem Zcz {w w1 w2:World} {base N:Nat} {v:Value} {vs:List Value} (hk:Za w w1) (hr:w1.ownsRow base 68 2 v N vs) (hb:w.heap.size<=base) (k2:Zc (λ k=>v.ownBlock=some k) w1 w2):Za w w2:=
 Zc.trans hk k2 (λ i hi e=>by have:=(hr.lt i e).1;omega)
theorem Zna {w:World} {g:Nat} {ro:Option Addr} {rc:Nat} {R:List Ru} {lo:Option Addr} {lc:Nat} {M:List Ru} (hg:w.heap[g]? = some (.cells #[.slice ro R.length rc,.slice lo M.length lc] 23 (0,0))) (hR:V7 w ro R) (hM:V7 w lo M) (n1:ro=none->rc=0) (n2:lo=none->lc=0) (l1:R.length<=100) (l2:M.length<=100) :
  Calls Tryz.prog 172 #[.slice (some ⟨g,0,none⟩) 2 2] w λ e w' => ∃ vo vc,e=.returned (.slice vo (R++M).length vc)∧V7 w' vo (R++M)∧Za w w' := by
 have C0:Hid (∀ ww,Za w ww->ww.cell? ⟨g,0,none⟩=some (.slice ro R.length rc)∧ww.cell? ⟨g,1,none⟩=some (.slice lo M.length lc)):=λ ww hk=>⟨Zb (hk.at0 hg) 0,Zb (hk.at0 hg) 1⟩;obtain ⟨c0,c1⟩:=C0.out w (Zc.refl _ _);have G:=λ ww=>Zt5 ww (R.length+M.length) (by omega);have e1:((R.length+M.length:Nat):Int)=(R.length:Int)+(M.length:Int):=by omega
 rw [e1] at G;have N1:Hid (ro=none->rc=0∧R=[]):=hR.none n1;have N2:Hid (lo=none->lc=0∧M=[]):=hM.none n2;obtain ⟨us,hu,US⟩:=hR.src;obtain ⟨ms,hm,MS⟩:=hM.src;clear e1 hg n1 n2 hR hM
 go_enter Tryz.func172,Tryz.ntmps172
 go_wp2;refine wp_loop_rounds 3 ?_;rw [rounds_succ];go_wp2;rw [rounds_succ];go_wp2;rw [rounds_succ]
 go_wp2_with (first | (go_at_call 181;refine (G _).mono ?_;rintro e w1 ⟨v,rfl,hr,hk⟩))
 obtain ⟨vo,vc,rfl⟩:=Zf hr;obtain ⟨d0,d1⟩:=C0.out _ hk;have z1:=hk.size;clear c0 c1 G;refine wp_loop_rounds 3 ?_;rw [rounds_succ]
 go_wp2_with (first | (at_builtin;refine V5 rfl _ _ rfl w.heap.size 0 [] _ rfl hr ro rc R us rfl hu (US.out _ hk) N1.out z1 (by omega) ?_;intro v2 w2 hr2 k2))
 have s2:=Zcz hk hr (Nat.le_refl _) k2;obtain ⟨vo2,vc2,rfl⟩:=Zf hr2;obtain ⟨f0,f1⟩:=C0.out _ s2;have z2:=s2.size;clear d0 d1 z1 hr k2 hk;rw [rounds_succ]
 go_wp2_with (first | (at_builtin;refine V5 rfl _ _ rfl w.heap.size _ _ _ rfl hr2 lo lc M ms rfl hm (MS.out _ s2) N2.out z2 (by omega) ?_;intro v3 w3 hr3 k3))
 have s3:=Zcz s2 hr2 (Nat.le_refl _) k3;obtain ⟨vo3,vc3,rfl⟩:=Zf hr3;obtain ⟨o3,c3,e3,r3,_,_⟩:=Zba hr3 (by simpa using (hu.append hm).same s3);have E3:Hid (∃ vo vc,Value.slice vo3 (0+R.length+M.length) vc3=.slice vo (R++M).length vc∧V7 w3 vo (R++M)∧Za w w3):=⟨o3,c3,e3,r3,s3⟩;clear hr2 hr3 k3 e3 r3 s2;rw [rounds_succ];go_wp2;go_ret;obtain ⟨vo,vc,q1,q2,q3⟩:=E3.out;exact ⟨vo,vc,by rw [<- q1];rfl,q2,q3⟩
theorem Zks {w:World} {b bs:Nat} {ro:Option Addr} {rc:Nat} {L:List Sym} {R:List Ru} {lo:Option Addr} {l:List Ru} {n lc:Nat} (h:Cnd w b bs ro rc L R lo l n) (hlc:l.length<=lc) (hu:Yv L R l 7 n) :
  Calls Tryz.prog 147 #[.agg #[.pointer (some ⟨b,0,none⟩),.slice lo l.length lc,.int .i64 (n:Int)]] w λ e w' => ∃ v,e=.returned v∧Yg w' (X9 L R l 7 n) v∧Za w w' := by
 obtain ⟨lb,off,ao,ac,bo,bc,x,rfl,hx,W0,CC0,HS,HA,CR,CU⟩:=h.opened lc;have W1:Za (w.alloc (.cells #[.pointer (some ⟨b,0,none⟩),.slice (some ⟨lb,off,none⟩) l.length lc,.int .i64 (n:Int)] 211)) (w.alloc (.cells #[.pointer (some ⟨b,0,none⟩),.slice (some ⟨lb,off,none⟩) l.length lc,.int .i64 (n:Int)] 211)).drew:=Zc.drew (Zc.refl _ _);have f0:=X8;have f1:=Xi;have CF:Hid (∀ ww why c,(why=.nilIface∨∃ t v,why=.iface t v)->Za (w.alloc (.cells #[.pointer (some ⟨b,0,none⟩),.slice (some ⟨lb,off,none⟩) l.length lc,.int .i64 (n:Int)] 211)) ww->Calls Tryz.prog 167 #[.agg #[.pointer (some ⟨b,0,none⟩),.slice (some ⟨lb,off,none⟩) l.length lc,.int .i64 (n:Int)],.int .i64 c,why] ww λ e w' => ∃ k,e=.returned (.iface 98 (.pointer (some ⟨k,0,none⟩)))∧w'.heap[k]? = some (.cells #[.int .i64 c,.int .i64 (n:Int),why] 100 (0,0))∧Za ww w' ∧ Za (w.alloc (.cells #[.pointer (some ⟨b,0,none⟩),.slice (some ⟨lb,off,none⟩) l.length lc,.int .i64 (n:Int)] 211)) w'):=λ ww why c hw hk=>(Zd1 ww b _ _ _ why hw n c).mono (λ e w' ⟨k,q1,q2,q3⟩=>⟨k,q1,q2,q3,hk.trans' q3⟩)
 have hxc:Ze L x.1=0:=by
  have:=hu.1 1 (by omega) n h.hn;simp only [ckB,Zbu,<- hx,Bool.and_eq_true,decide_eq_true_eq] at this;exact this.1
 have hnn:=h.hn
 have hN:R.length+l.length<=100:=by
  have:=hu.1 0 (by omega) n h.hn
  simpa [ckB,Zbu] using this
 obtain ⟨A,hA⟩:∃ A,A=R++l.take n:=⟨_,rfl⟩;have hAl:A.length=R.length+n:=by rw [hA];simp;omega
 have hAc:∀ a∈A,Ze L a.1=0:=λ a ha=>by
  rw [hA] at ha
  rcases List.mem_append.1 ha with q | q
  ·exact h.st.ok a q
  ·obtain ⟨i,hi,rfl⟩:=List.mem_iff_getElem.1 q
   have hi' : i<l.length:=by simp at hi;omega
   have:=hu.1 1 (by omega) i hi';simp only [ckB,Zbu,Bool.and_eq_true,decide_eq_true_eq] at this
   simpa [List.getD,hi'] using this.1
 have E0:Hid (A.all (λ a=>!V3 L a.1 x.1)=true->X9 L R l 7 n=[(0, -1)]):=λ q=>by simp only [X9,ckB,Zbu,<- hx,<- hA,q];rfl
 have E1:Hid (∀ k (hk:k<A.length),(A.take k).all (λ a=>!V3 L a.1 x.1)=true->V3 L A[k].1 x.1=true->X9 L R l 7 n=[(77,(n:Int)),(78,(k:Int))]):=λ k hk q1 q2=>by
  have e1:A.all (λ a=>!V3 L a.1 x.1)=false:=by
   cases h:A.all (λ a=>!V3 L a.1 x.1) with
   | false=>rfl
   | true=>have:=List.all_eq_true.1 h _ (List.getElem_mem hk);rw [q2] at this;cases this
  have e2:A.findIdx (λ a=>V3 L a.1 x.1)=k:=(List.findIdx_eq hk).2 ⟨q2,λ j hj=>by
   have:=List.all_eq_true.1 q1 (A[j]'(by omega)) (by
    refine List.mem_iff_getElem.2 ⟨j,by simp;omega,by simp⟩)
   simpa using this⟩
  simp only [X9,ckB,Zbu,Xm,<- hx,<- hA,e1,e2];rfl
 have hRl:=h.st.le
 have HM:Hid (V7 (w.alloc (.cells #[.pointer (some ⟨b,0,none⟩),.slice (some ⟨lb,off,none⟩) l.length lc,.int .i64 (n:Int)] 211)) (some ⟨lb,off,none⟩) (l.take n)):=by
  rcases h.ls.same W0 with e | ⟨b', off', e,hb', hc'⟩
  ·rw [e] at hnn;simp at hnn
  ·refine .inr ⟨b', off', e,hb', λ i hi=>?_⟩
   have hi' : i<l.length:=by simp at hi;omega
   have:=hc' i hi'
   simpa using this
 have hst:=h.st.same W0;have htl:(l.take n).length=n:=by simp;omega
 have CCat:Hid (∀ ww g sl,sl=n->Za (w.alloc (.cells #[.pointer (some ⟨b,0,none⟩),.slice (some ⟨lb,off,none⟩) l.length lc,.int .i64 (n:Int)] 211)) ww->ww.heap[g]? = some (.cells #[.slice ro R.length rc,.slice (some ⟨lb,off,none⟩) sl lc] 23 (0,0))->Calls Tryz.prog 172 #[.slice (some ⟨g,0,none⟩) 2 2] ww λ e w' => ∃ vo vc,e=.returned (.slice vo A.length vc)∧V7 w' vo A∧Za (w.alloc (.cells #[.pointer (some ⟨b,0,none⟩),.slice (some ⟨lb,off,none⟩) l.length lc,.int .i64 (n:Int)] 211)) w'):=λ ww g sl e hk hg=>by
  subst e;have:=Zna (M:=l.take sl) (lc:=lc) (by rw [htl];exact hg) (hst.rs.same hk) (HM.out.same hk) hst.nil (λ e=>by cases e) hRl (by rw [htl];omega);rw [<- hA] at this;exact this.mono (λ e w' ⟨vo,vc,q1,q2,q3⟩=>⟨vo,vc,q1,q2,hk.trans' q3⟩)
 have j1:(0:Int)<=(n:Int):=by omega
 have j2:(n:Int)<=(lc:Int):=by omega
 have hAm:A.length<=200:=by omega
 have HL:Hid (A.length=R.length+n):=hAl;clear h hu hx hst htl HM hA hAl
 go_enter Tryz.func147,Tryz.ntmps147
 go_wp2
 go_region_held3 (λ w' => (w'.cell? ⟨b,0,none⟩=some (.pointer (some ⟨bs,0,none⟩))∧w'.cell? ⟨b,1,none⟩=some (.slice ro R.length rc))∧(w'.cell? ⟨w.heap.size,0,none⟩=some (.pointer (some ⟨b,0,none⟩))∧w'.cell? ⟨w.heap.size,1,none⟩=some (.slice (some ⟨lb,off,none⟩) l.length lc)∧w'.cell? ⟨w.heap.size,2,none⟩=some (.int .i64 (n:Int)))∧w'.cell? ⟨lb,off+n * 2,none⟩=some (.slice ao x.1.length ac)∧w'.cell? ⟨lb,off+n * 2+1,none⟩=some (.slice bo x.2.length bc)) (first | exact cc1 | exact CC0 | exact HS.out _ (Zc.alloc (Zc.refl _ _) _) | exact HS.out _ (Zc.drew (Zc.alloc (Zc.refl _ _) _))) (first | (go_at_call 172;refine (CCat.out _ _ _ rfl (Zc.drew (Zc.alloc (Zc.refl _ _) _)) (Zp _ _ _)).mono ?_;rintro e w1 ⟨vo,vc,rfl,hro,hw1⟩;have cc1:=HS.out _ hw1))
 go_wp2;clear W1 CC0 CR CU cc1 CCat;have M0:Za w1 w1:=Zc.refl _ _
 go_loopw [20] (λ i wr=>∃ k:Nat,k<=A.length∧i=.int .i64 (k:Int)∧Hid ((A.take k).all (λ a=>!V3 L a.1 x.1)=true)∧Za w1 wr) (λ i _=>A.length-(intOf i).toNat)
 case atStart=>exact ⟨0,Nat.zero_le _,rfl,rfl,M0⟩
 case round=>
  clear M0;obtain ⟨k,hk,rfl,hall,hs⟩:=hrel;obtain ⟨wo,hwo⟩:∃ wo,wo=wr:=⟨_,rfl⟩
  by_cases hlt:k<A.length
  ·obtain ⟨gb,goff,rfl,hgb,go1,gc1,go2,gc2,r0,r1,A1,A2⟩:=(hro.same hs).get hlt
   have i1:(0:Int)<=(k:Int):=by omega
   have i2:(k:Int)<(A.length:Int):=by omega
   have hck:=hAc _ (List.getElem_mem hlt);have KA:Za wr (wr.alloc (.cells #[.slice go1 A[k].1.length gc1,.slice go2 A[k].2.length gc2] 68)):=(Zc.refl _ _).alloc _;have KB:Za (w.alloc (.cells #[.pointer (some ⟨b,0,none⟩),.slice (some ⟨lb,off,none⟩) l.length lc,.int .i64 (n:Int)] 211)) (wr.alloc (.cells #[.slice go1 A[k].1.length gc1,.slice go2 A[k].2.length gc2] 68)):=(hw1.trans' hs).trans' KA;have hnew:=heap_alloc_new wr (.cells #[.slice go1 A[k].1.length gc1,.slice go2 A[k].2.length gc2] 68);have HS2:Hid (∀ ww,Za (wr.alloc (.cells #[.slice go1 A[k].1.length gc1,.slice go2 A[k].2.length gc2] 68)) ww->ww.cell? ⟨wr.heap.size,0,none⟩=some (.slice go1 A[k].1.length gc1)∧(ww.cell? ⟨b,0,none⟩=some (.pointer (some ⟨bs,0,none⟩))∧ww.cell? ⟨b,1,none⟩=some (.slice ro R.length rc))∧(ww.cell? ⟨w.heap.size,0,none⟩=some (.pointer (some ⟨b,0,none⟩))∧ww.cell? ⟨w.heap.size,1,none⟩=some (.slice (some ⟨lb,off,none⟩) l.length lc)∧ww.cell? ⟨w.heap.size,2,none⟩=some (.int .i64 (n:Int)))∧ww.cell? ⟨lb,off+n * 2,none⟩=some (.slice ao x.1.length ac)∧ww.cell? ⟨lb,off+n * 2+1,none⟩=some (.slice bo x.2.length bc)):=λ ww hk=>⟨Zb (hk.at0 hnew) 0,HS.out ww (KB.trans' hk)⟩
   have CR2:Hid (∀ ww,Za (wr.alloc (.cells #[.slice go1 A[k].1.length gc1,.slice go2 A[k].2.length gc2] 68)) ww->Calls Tryz.prog 166 #[.agg #[.pointer (some ⟨b,0,none⟩),.slice (some ⟨lb,off,none⟩) l.length lc,.int .i64 (n:Int)]] ww λ e w' => e=.returned (.agg #[.slice ao x.1.length ac,.slice bo x.2.length bc])∧Za (wr.alloc (.cells #[.slice go1 A[k].1.length gc1,.slice go2 A[k].2.length gc2] 68)) w'):=λ ww hk=>by
    obtain ⟨_,_,_,g0,g1⟩:=HS2.out ww hk;exact (Zl3 g0 g1 hnn).mono (λ e w' ⟨q1,q2⟩=>⟨q1,hk.trans' q2⟩)
   have CL2:Hid (∀ ww,Za (wr.alloc (.cells #[.slice go1 A[k].1.length gc1,.slice go2 A[k].2.length gc2] 68)) ww->Calls Tryz.prog 173 #[.pointer (some ⟨bs,0,none⟩),.slice go1 A[k].1.length gc1,.slice ao x.1.length ac] ww λ e w' => e=.returned (.tuple #[.bool (Zbg L A[k].1 x.1),.int .i64 0])∧Za (wr.alloc (.cells #[.slice go1 A[k].1.length gc1,.slice go2 A[k].2.length gc2] 68)) w'):=λ ww hk=>by
    have hz:Zev L A[k].1 x.1=0:=by simp [Zev,hck,hxc]
    have hA' := HA.out ww (KB.trans' hk);have s1:=A1.size;have s2:=hA'.1.size;have:=Zp4 (xc:=gc1) (yc:=ac) hA'.2.2.sig ((A1.same KA).same hk).at' hA'.1.at' (by unfold maxLen;omega) (by unfold maxLen;omega);rw [hz] at this;exact this.mono (λ e w' ⟨q1,q2⟩=>⟨q1,hk.trans' q2⟩)
   have hm:V3 L A[k].1 x.1 = !Zbg L A[k].1 x.1:=by simp [V3,Zev,hck,hxc]
   have CC2:=HS2.out _ (Zc.refl _ _);have W2:Za (wr.alloc (.cells #[.slice go1 A[k].1.length gc1,.slice go2 A[k].2.length gc2] 68)) (wr.alloc (.cells #[.slice go1 A[k].1.length gc1,.slice go2 A[k].2.length gc2] 68)).drew:=Zc.drew (Zc.refl _ _);have KE:Hid (∀ ww,Za (wr.alloc (.cells #[.slice go1 A[k].1.length gc1,.slice go2 A[k].2.length gc2] 68)) ww->Za w1 ww∧Za (w.alloc (.cells #[.pointer (some ⟨b,0,none⟩),.slice (some ⟨lb,off,none⟩) l.length lc,.int .i64 (n:Int)] 211)) ww):=λ ww hk=>⟨(hs.trans' KA).trans' hk,KB.trans' hk⟩;cases hq:Zbg L A[k].1 x.1 with
   | false=>
    have Z:=E1.out k hlt hall.out (by rw [hm,hq];rfl);rw [hq] at CL2;clear hm hq E0 E1 hall hck hxc HA hnew KA KB A1 A2 hro hgb hAc;go_wp2
    go_region_held3 (λ w' => w'.cell? ⟨wr.heap.size,0,none⟩=some (.slice go1 A[k].1.length gc1)∧(w'.cell? ⟨b,0,none⟩=some (.pointer (some ⟨bs,0,none⟩))∧w'.cell? ⟨b,1,none⟩=some (.slice ro R.length rc))∧(w'.cell? ⟨w.heap.size,0,none⟩=some (.pointer (some ⟨b,0,none⟩))∧w'.cell? ⟨w.heap.size,1,none⟩=some (.slice (some ⟨lb,off,none⟩) l.length lc)∧w'.cell? ⟨w.heap.size,2,none⟩=some (.int .i64 (n:Int)))∧w'.cell? ⟨lb,off+n * 2,none⟩=some (.slice ao x.1.length ac)∧w'.cell? ⟨lb,off+n * 2+1,none⟩=some (.slice bo x.2.length bc)) (first | exact cc1 | exact CC2) (first | (go_at_call 166;refine (CR2.out _ (by first | exact hv1 | exact W2)).mono ?_;rintro e v1 ⟨rfl,hv1⟩;have cc1:=HS2.out _ hv1) | (go_at_call 173;refine (CL2.out _ (by first | exact hv1 | exact W2)).mono ?_;rintro e v1 ⟨rfl,hv1⟩;have cc1:=HS2.out _ hv1))
    all_goals
     obtain ⟨_,kb⟩:=KE.out _ hv1;have KB:=Zc.alloc kb (.cells #[.int .i64 78,.int .i64 (k:Int),.nilIface] 100);have hin:=heap_alloc_new v1 (.cells #[.int .i64 78,.int .i64 (k:Int),.nilIface] 100)
     go_wp2_with (first | (go_at_call 167;refine (CF.out _ _ _ (.inr ⟨_,_,rfl⟩) KB).mono ?_;rintro e w3 ⟨k3,rfl,hk3,ks3,kw3⟩;have hin3:=ks3.at0 hin))
     go_ret;exact ⟨_,rfl,by rw [Z];exact .inr ⟨by omega,k3,_,rfl,hk3,.inr ⟨by omega,_,_,rfl,hin3,rfl⟩⟩,W0.trans' kw3⟩
   | true=>
    have Z:Hid ((A.take (k+1)).all (λ a=>!V3 L a.1 x.1)=true):=by
     have:=hall.out;show _=_;rw [List.take_add_one,List.getElem?_eq_getElem hlt,List.all_append,this];simp [hm,hq]
    rw [hq] at CL2;clear hm hq E0 E1 hall hck hxc HA hnew KA KB A1 A2 hro hgb hAc;go_wp2
    go_region_held3 (λ w' => w'.cell? ⟨wr.heap.size,0,none⟩=some (.slice go1 A[k].1.length gc1)∧(w'.cell? ⟨b,0,none⟩=some (.pointer (some ⟨bs,0,none⟩))∧w'.cell? ⟨b,1,none⟩=some (.slice ro R.length rc))∧(w'.cell? ⟨w.heap.size,0,none⟩=some (.pointer (some ⟨b,0,none⟩))∧w'.cell? ⟨w.heap.size,1,none⟩=some (.slice (some ⟨lb,off,none⟩) l.length lc)∧w'.cell? ⟨w.heap.size,2,none⟩=some (.int .i64 (n:Int)))∧w'.cell? ⟨lb,off+n * 2,none⟩=some (.slice ao x.1.length ac)∧w'.cell? ⟨lb,off+n * 2+1,none⟩=some (.slice bo x.2.length bc)) (first | exact cc1 | exact CC2) (first | (go_at_call 166;refine (CR2.out _ (by first | exact hv1 | exact W2)).mono ?_;rintro e v1 ⟨rfl,hv1⟩;have cc1:=HS2.out _ hv1) | (go_at_call 173;refine (CL2.out _ (by first | exact hv1 | exact W2)).mono ?_;rintro e v1 ⟨rfl,hv1⟩;have cc1:=HS2.out _ hv1))
    all_goals
     go_wp2;exact ⟨⟨k+1,by omega,by go_num,Z,(KE.out _ hv1).1⟩,by simp [intOf];omega⟩
  ·have Z:=E0.out (by have:=hall.out;rwa [List.take_of_length_le (by omega)] at this)
   have kw:=hw1.trans' hs;go_wp2;go_ret;exact ⟨_,rfl,by rw [Z];exact .inl ⟨rfl,rfl,rfl⟩,W0.trans' kw⟩
theorem Zmt (w:World):Calls Tryz.prog 114 #[] w λ e w' => ∃ g,e=.returned (.slice (some ⟨g,0,none⟩) 8 8)∧w'.heap[g]? = some (.cells #[.func (.func 140) #[] #[],.func (.func 141) #[] #[],.func (.func 142) #[] #[],.func (.func 143) #[] #[],.func (.func 144) #[] #[],.func (.func 145) #[] #[],.func (.func 146) #[] #[],.func (.func 147) #[] #[]] 209 (0,0))∧Za w w' := by
 go_enter Tryz.func114,Tryz.ntmps114
 go_wp2;go_ret;exact ⟨_,rfl,heap_alloc_new _ _,(Zc.refl _ w).alloc _⟩
theorem Z5 (L:List Sym) (R l:List Ru) (j n:Nat):(X9 L R l j n).length<=2:=by
 unfold X9 Xm
 repeat' split
 all_goals simp
theorem Ja {L:List Sym} {R l:List Ru} {j n:Nat} (h:ckB L R l j n=true):Zag (X9 L R l j n) 0=true:=by
 simp [X9,h,Zag]
theorem Kk {L:List Sym} {R l:List Ru} {j n:Nat} (h:ckB L R l j n=false):Zag (X9 L R l j n) 0=false:=by
 unfold X9;rw [h];simp only [Bool.false_eq_true,if_false];unfold Xm;split
 ·rename_i e
  subst e;simp only [ckB,Zbu] at h;generalize l.getD n ([],[])=x at *
  by_cases h1:Ze L x.1=0
  ·have h2:¬ Ze L x.2=0:=by intro e;simp [h1,e] at h
   simp [Zag,h1];omega
  ·simp [Zag,h1];omega
 ·split
  ·simp [Zag]
  ·simp [Zag];omega
def Zo0 (L:List Sym) (R l:List Ru) (w:World) (e:Ending) (w' : World):Prop:=∃ ws v,e=.returned v∧Ans L R l ws∧Yg w' ws v∧ws.length<=2∧Za w w'
theorem Ans.no {L:List Sym} {R l:List Ru} {j n:Nat} (hj:j<8) (hn:n<l.length) (hu:Yv L R l j n) (hc:ckB L R l j n=false):Ans L R l (X9 L R l j n):=
 .inr ⟨j,n,hj,hn,hu,hc,by simp [X9,hc]⟩
theorem Zn3 {w:World} {b bs:Nat} {ro:Option Addr} {rc:Nat} {L:List Sym} {R:List Ru} {lo:Option Addr} {l:List Ru} {lc:Nat} (h:StR w b bs ro rc L R) (hl:V7 w lo l) (hll:l.length<=140737488355328) (hlc:l.length<=lc) :
  Calls Tryz.prog 76 #[.pointer (some ⟨b,0,none⟩),.slice lo l.length lc] w (Zo0 L R l w):=by
 go_enter Tryz.func76,Tryz.ntmps76
 go_wp2_with (first | (go_at_call 114;refine (Zmt _).mono ?_;rintro e w1 ⟨g,rfl,hg,hk1⟩))
 have HG:Hid (∀ ww,Za w1 ww->ww.heap[g]? = some (.cells #[.func (.func 140) #[] #[],.func (.func 141) #[] #[],.func (.func 142) #[] #[],.func (.func 143) #[] #[],.func (.func 144) #[] #[],.func (.func 145) #[] #[],.func (.func 146) #[] #[],.func (.func 147) #[] #[]] 209 (0,0))):=λ ww hk=>hk.at0 hg;have HC:Hid (∀ n,n<l.length->∀ ww,Za w1 ww->Cnd ww b bs ro rc L R lo l n):=λ n hn ww hk=>⟨(h.same hk1).same hk,(hl.same hk1).same hk,hll,hn⟩;have HK:Hid (Za w w1):=hk1;have M0:Za w1 w1:=Zc.refl _ _;clear hg h hl hk1
 go_loopw [16] (λ i wr=>∃ j:Nat,j<=8∧i=.int .i64 (j:Int)∧Hid (Yv L R l j 0)∧Za w1 wr) (λ i _=>8-(intOf i).toNat)
 case atStart=>exact ⟨0,by omega,rfl,Yv.nil L R l,M0⟩
 case round=>
  clear M0;obtain ⟨j,hj,rfl,hu0,hs⟩:=hrel
  match j,hj with
  | 0,_=>
   have f0:=Zb (HG.out _ hs) 0;simp only [List.getElem?_toArray,List.getElem?_cons_zero] at f0;go_wp2
   go_loopw [22] (λ i wr=>∃ n:Nat,n<=l.length∧i=.int .i64 (n:Int)∧Hid (Yv L R l 0 n)∧Za w1 wr) (λ i _=>l.length-(intOf i).toNat)
   case atStart=>exact ⟨0,Nat.zero_le _,rfl,hu0,hs⟩
   case round=>
    clear f0 hs hu0;obtain ⟨n,hn,rfl,hu,hs⟩:=hrel
    by_cases hlt:n<l.length
    ·have HQ:=HC.out n hlt _ hs
     have C:Calls Tryz.prog 140 #[.agg #[.pointer (some ⟨b,0,none⟩),.slice lo l.length lc,.int .i64 (n:Int)]] _ λ e w' => ∃ v,e=.returned v∧Yg w' (X9 L R l 0 n) v∧Za _ w' := Zst (lc:=lc) HQ
     clear HQ;cases hc:ckB L R l 0 n with
     | true=>
      have b1:=Ja hc;have hu1:Hid (Yv L R l 0 (n+1)):=hu.out.step hc;clear hc hu
      go_wp2_with (first | (go_at_call 140;refine C.mono ?_;rintro e w2 ⟨v,rfl,hv,hk2⟩;have CI:=Vk hv (Z5 _ _ _ _ _) 0;rw [b1] at CI) | (go_at_call 115;refine CI.mono ?_;rintro e w3 ⟨rfl,rfl⟩))
      go_roundw
      case rel=>first | exact ⟨n+1,by omega,by go_num,hu1,hs.trans' hk2⟩ | ((repeat apply Exists.intro);exact ⟨⟨n+1,by omega,by go_num,hu1,hs.trans' hk2⟩,rfl⟩)
      case measure=>simp [intOf];omega
     | false=>
      have b1:=Kk hc;have A:Hid (Ans L R l (X9 L R l 0 n)):=Ans.no (by omega) hlt hu.out hc;clear hc hu
      go_wp2_with (first | (go_at_call 140;refine C.mono ?_;rintro e w2 ⟨v,rfl,hv,hk2⟩;have CI:=Vk hv (Z5 _ _ _ _ _) 0;rw [b1] at CI) | (go_at_call 115;refine CI.mono ?_;rintro e w3 ⟨rfl,rfl⟩))
      go_ret;exact ⟨_,_,rfl,A.out,hv,Z5 _ _ _ _ _,HK.out.trans' (hs.trans' hk2)⟩
    ·have hu1:Hid (Yv L R l (0+1) 0):=hu.out.next (by omega)
     go_wp2;exact ⟨⟨0+1,by omega,by go_num,hu1,hs⟩,by simp [intOf]⟩
  | 1,_=>
   have f0:=Zb (HG.out _ hs) 1;simp only [List.getElem?_toArray,List.getElem?_cons_zero,List.getElem?_cons_succ] at f0;go_wp2
   go_loopw [22] (λ i wr=>∃ n:Nat,n<=l.length∧i=.int .i64 (n:Int)∧Hid (Yv L R l 1 n)∧Za w1 wr) (λ i _=>l.length-(intOf i).toNat)
   case atStart=>exact ⟨0,Nat.zero_le _,rfl,hu0,hs⟩
   case round=>
    clear f0 hs hu0;obtain ⟨n,hn,rfl,hu,hs⟩:=hrel
    by_cases hlt:n<l.length
    ·have HQ:=HC.out n hlt _ hs
     have C:Calls Tryz.prog 141 #[.agg #[.pointer (some ⟨b,0,none⟩),.slice lo l.length lc,.int .i64 (n:Int)]] _ λ e w' => ∃ v,e=.returned v∧Yg w' (X9 L R l 1 n) v∧Za _ w' := Zt0 (lc:=lc) HQ hu.out
     clear HQ;cases hc:ckB L R l 1 n with
     | true=>
      have b1:=Ja hc;have hu1:Hid (Yv L R l 1 (n+1)):=hu.out.step hc;clear hc hu
      go_wp2_with (first | (go_at_call 141;refine C.mono ?_;rintro e w2 ⟨v,rfl,hv,hk2⟩;have CI:=Vk hv (Z5 _ _ _ _ _) 0;rw [b1] at CI) | (go_at_call 115;refine CI.mono ?_;rintro e w3 ⟨rfl,rfl⟩))
      go_roundw
      case rel=>first | exact ⟨n+1,by omega,by go_num,hu1,hs.trans' hk2⟩ | ((repeat apply Exists.intro);exact ⟨⟨n+1,by omega,by go_num,hu1,hs.trans' hk2⟩,rfl⟩)
      case measure=>simp [intOf];omega
     | false=>
      have b1:=Kk hc;have A:Hid (Ans L R l (X9 L R l 1 n)):=Ans.no (by omega) hlt hu.out hc;clear hc hu
      go_wp2_with (first | (go_at_call 141;refine C.mono ?_;rintro e w2 ⟨v,rfl,hv,hk2⟩;have CI:=Vk hv (Z5 _ _ _ _ _) 0;rw [b1] at CI) | (go_at_call 115;refine CI.mono ?_;rintro e w3 ⟨rfl,rfl⟩))
      go_ret;exact ⟨_,_,rfl,A.out,hv,Z5 _ _ _ _ _,HK.out.trans' (hs.trans' hk2)⟩
    ·have hu1:Hid (Yv L R l (1+1) 0):=hu.out.next (by omega)
     go_wp2;exact ⟨⟨1+1,by omega,by go_num,hu1,hs⟩,by simp [intOf]⟩
  | 2,_=>
   have f0:=Zb (HG.out _ hs) 2;simp only [List.getElem?_toArray,List.getElem?_cons_zero,List.getElem?_cons_succ] at f0;go_wp2
   go_loopw [22] (λ i wr=>∃ n:Nat,n<=l.length∧i=.int .i64 (n:Int)∧Hid (Yv L R l 2 n)∧Za w1 wr) (λ i _=>l.length-(intOf i).toNat)
   case atStart=>exact ⟨0,Nat.zero_le _,rfl,hu0,hs⟩
   case round=>
    clear f0 hs hu0;obtain ⟨n,hn,rfl,hu,hs⟩:=hrel
    by_cases hlt:n<l.length
    ·have HQ:=HC.out n hlt _ hs
     have C:Calls Tryz.prog 142 #[.agg #[.pointer (some ⟨b,0,none⟩),.slice lo l.length lc,.int .i64 (n:Int)]] _ λ e w' => ∃ v,e=.returned v∧Yg w' (X9 L R l 2 n) v∧Za _ w' := Zr8 (lc:=lc) HQ hu.out
     clear HQ;cases hc:ckB L R l 2 n with
     | true=>
      have b1:=Ja hc;have hu1:Hid (Yv L R l 2 (n+1)):=hu.out.step hc;clear hc hu
      go_wp2_with (first | (go_at_call 142;refine C.mono ?_;rintro e w2 ⟨v,rfl,hv,hk2⟩;have CI:=Vk hv (Z5 _ _ _ _ _) 0;rw [b1] at CI) | (go_at_call 115;refine CI.mono ?_;rintro e w3 ⟨rfl,rfl⟩))
      go_roundw
      case rel=>first | exact ⟨n+1,by omega,by go_num,hu1,hs.trans' hk2⟩ | ((repeat apply Exists.intro);exact ⟨⟨n+1,by omega,by go_num,hu1,hs.trans' hk2⟩,rfl⟩)
      case measure=>simp [intOf];omega
     | false=>
      have b1:=Kk hc;have A:Hid (Ans L R l (X9 L R l 2 n)):=Ans.no (by omega) hlt hu.out hc;clear hc hu
      go_wp2_with (first | (go_at_call 142;refine C.mono ?_;rintro e w2 ⟨v,rfl,hv,hk2⟩;have CI:=Vk hv (Z5 _ _ _ _ _) 0;rw [b1] at CI) | (go_at_call 115;refine CI.mono ?_;rintro e w3 ⟨rfl,rfl⟩))
      go_ret;exact ⟨_,_,rfl,A.out,hv,Z5 _ _ _ _ _,HK.out.trans' (hs.trans' hk2)⟩
    ·have hu1:Hid (Yv L R l (2+1) 0):=hu.out.next (by omega)
     go_wp2;exact ⟨⟨2+1,by omega,by go_num,hu1,hs⟩,by simp [intOf]⟩
  | 3,_=>
   have f0:=Zb (HG.out _ hs) 3;simp only [List.getElem?_toArray,List.getElem?_cons_zero,List.getElem?_cons_succ] at f0;go_wp2
   go_loopw [22] (λ i wr=>∃ n:Nat,n<=l.length∧i=.int .i64 (n:Int)∧Hid (Yv L R l 3 n)∧Za w1 wr) (λ i _=>l.length-(intOf i).toNat)
   case atStart=>exact ⟨0,Nat.zero_le _,rfl,hu0,hs⟩
   case round=>
    clear f0 hs hu0;obtain ⟨n,hn,rfl,hu,hs⟩:=hrel
    by_cases hlt:n<l.length
    ·have HQ:=HC.out n hlt _ hs
     have C:Calls Tryz.prog 143 #[.agg #[.pointer (some ⟨b,0,none⟩),.slice lo l.length lc,.int .i64 (n:Int)]] _ λ e w' => ∃ v,e=.returned v∧Yg w' (X9 L R l 3 n) v∧Za _ w' := Zsa (lc:=lc) HQ hu.out
     clear HQ;cases hc:ckB L R l 3 n with
     | true=>
      have b1:=Ja hc;have hu1:Hid (Yv L R l 3 (n+1)):=hu.out.step hc;clear hc hu
      go_wp2_with (first | (go_at_call 143;refine C.mono ?_;rintro e w2 ⟨v,rfl,hv,hk2⟩;have CI:=Vk hv (Z5 _ _ _ _ _) 0;rw [b1] at CI) | (go_at_call 115;refine CI.mono ?_;rintro e w3 ⟨rfl,rfl⟩))
      go_roundw
      case rel=>first | exact ⟨n+1,by omega,by go_num,hu1,hs.trans' hk2⟩ | ((repeat apply Exists.intro);exact ⟨⟨n+1,by omega,by go_num,hu1,hs.trans' hk2⟩,rfl⟩)
      case measure=>simp [intOf];omega
     | false=>
      have b1:=Kk hc;have A:Hid (Ans L R l (X9 L R l 3 n)):=Ans.no (by omega) hlt hu.out hc;clear hc hu
      go_wp2_with (first | (go_at_call 143;refine C.mono ?_;rintro e w2 ⟨v,rfl,hv,hk2⟩;have CI:=Vk hv (Z5 _ _ _ _ _) 0;rw [b1] at CI) | (go_at_call 115;refine CI.mono ?_;rintro e w3 ⟨rfl,rfl⟩))
      go_ret;exact ⟨_,_,rfl,A.out,hv,Z5 _ _ _ _ _,HK.out.trans' (hs.trans' hk2)⟩
    ·have hu1:Hid (Yv L R l (3+1) 0):=hu.out.next (by omega)
     go_wp2;exact ⟨⟨3+1,by omega,by go_num,hu1,hs⟩,by simp [intOf]⟩
  | 4,_=>
   have f0:=Zb (HG.out _ hs) 4;simp only [List.getElem?_toArray,List.getElem?_cons_zero,List.getElem?_cons_succ] at f0;go_wp2
   go_loopw [22] (λ i wr=>∃ n:Nat,n<=l.length∧i=.int .i64 (n:Int)∧Hid (Yv L R l 4 n)∧Za w1 wr) (λ i _=>l.length-(intOf i).toNat)
   case atStart=>exact ⟨0,Nat.zero_le _,rfl,hu0,hs⟩
   case round=>
    clear f0 hs hu0;obtain ⟨n,hn,rfl,hu,hs⟩:=hrel
    by_cases hlt:n<l.length
    ·have HQ:=HC.out n hlt _ hs
     have C:Calls Tryz.prog 144 #[.agg #[.pointer (some ⟨b,0,none⟩),.slice lo l.length lc,.int .i64 (n:Int)]] _ λ e w' => ∃ v,e=.returned v∧Yg w' (X9 L R l 4 n) v∧Za _ w' := Zni (lc:=lc) HQ hu.out
     clear HQ;cases hc:ckB L R l 4 n with
     | true=>
      have b1:=Ja hc;have hu1:Hid (Yv L R l 4 (n+1)):=hu.out.step hc;clear hc hu
      go_wp2_with (first | (go_at_call 144;refine C.mono ?_;rintro e w2 ⟨v,rfl,hv,hk2⟩;have CI:=Vk hv (Z5 _ _ _ _ _) 0;rw [b1] at CI) | (go_at_call 115;refine CI.mono ?_;rintro e w3 ⟨rfl,rfl⟩))
      go_roundw
      case rel=>first | exact ⟨n+1,by omega,by go_num,hu1,hs.trans' hk2⟩ | ((repeat apply Exists.intro);exact ⟨⟨n+1,by omega,by go_num,hu1,hs.trans' hk2⟩,rfl⟩)
      case measure=>simp [intOf];omega
     | false=>
      have b1:=Kk hc;have A:Hid (Ans L R l (X9 L R l 4 n)):=Ans.no (by omega) hlt hu.out hc;clear hc hu
      go_wp2_with (first | (go_at_call 144;refine C.mono ?_;rintro e w2 ⟨v,rfl,hv,hk2⟩;have CI:=Vk hv (Z5 _ _ _ _ _) 0;rw [b1] at CI) | (go_at_call 115;refine CI.mono ?_;rintro e w3 ⟨rfl,rfl⟩))
      go_ret;exact ⟨_,_,rfl,A.out,hv,Z5 _ _ _ _ _,HK.out.trans' (hs.trans' hk2)⟩
    ·have hu1:Hid (Yv L R l (4+1) 0):=hu.out.next (by omega)
     go_wp2;exact ⟨⟨4+1,by omega,by go_num,hu1,hs⟩,by simp [intOf]⟩
  | 5,_=>
   have f0:=Zb (HG.out _ hs) 5;simp only [List.getElem?_toArray,List.getElem?_cons_zero,List.getElem?_cons_succ] at f0;go_wp2
   go_loopw [22] (λ i wr=>∃ n:Nat,n<=l.length∧i=.int .i64 (n:Int)∧Hid (Yv L R l 5 n)∧Za w1 wr) (λ i _=>l.length-(intOf i).toNat)
   case atStart=>exact ⟨0,Nat.zero_le _,rfl,hu0,hs⟩
   case round=>
    clear f0 hs hu0;obtain ⟨n,hn,rfl,hu,hs⟩:=hrel
    by_cases hlt:n<l.length
    ·have HQ:=HC.out n hlt _ hs
     have C:Calls Tryz.prog 145 #[.agg #[.pointer (some ⟨b,0,none⟩),.slice lo l.length lc,.int .i64 (n:Int)]] _ λ e w' => ∃ v,e=.returned v∧Yg w' (X9 L R l 5 n) v∧Za _ w' := Zoo (lc:=lc) HQ hu.out
     clear HQ;cases hc:ckB L R l 5 n with
     | true=>
      have b1:=Ja hc;have hu1:Hid (Yv L R l 5 (n+1)):=hu.out.step hc;clear hc hu
      go_wp2_with (first | (go_at_call 145;refine C.mono ?_;rintro e w2 ⟨v,rfl,hv,hk2⟩;have CI:=Vk hv (Z5 _ _ _ _ _) 0;rw [b1] at CI) | (go_at_call 115;refine CI.mono ?_;rintro e w3 ⟨rfl,rfl⟩))
      go_roundw
      case rel=>first | exact ⟨n+1,by omega,by go_num,hu1,hs.trans' hk2⟩ | ((repeat apply Exists.intro);exact ⟨⟨n+1,by omega,by go_num,hu1,hs.trans' hk2⟩,rfl⟩)
      case measure=>simp [intOf];omega
     | false=>
      have b1:=Kk hc;have A:Hid (Ans L R l (X9 L R l 5 n)):=Ans.no (by omega) hlt hu.out hc;clear hc hu
      go_wp2_with (first | (go_at_call 145;refine C.mono ?_;rintro e w2 ⟨v,rfl,hv,hk2⟩;have CI:=Vk hv (Z5 _ _ _ _ _) 0;rw [b1] at CI) | (go_at_call 115;refine CI.mono ?_;rintro e w3 ⟨rfl,rfl⟩))
      go_ret;exact ⟨_,_,rfl,A.out,hv,Z5 _ _ _ _ _,HK.out.trans' (hs.trans' hk2)⟩
    ·have hu1:Hid (Yv L R l (5+1) 0):=hu.out.next (by omega)
     go_wp2;exact ⟨⟨5+1,by omega,by go_num,hu1,hs⟩,by simp [intOf]⟩
  | 6,_=>
   have f0:=Zb (HG.out _ hs) 6;simp only [List.getElem?_toArray,List.getElem?_cons_zero,List.getElem?_cons_succ] at f0;go_wp2
   go_loopw [22] (λ i wr=>∃ n:Nat,n<=l.length∧i=.int .i64 (n:Int)∧Hid (Yv L R l 6 n)∧Za w1 wr) (λ i _=>l.length-(intOf i).toNat)
   case atStart=>exact ⟨0,Nat.zero_le _,rfl,hu0,hs⟩
   case round=>
    clear f0 hs hu0;obtain ⟨n,hn,rfl,hu,hs⟩:=hrel
    by_cases hlt:n<l.length
    ·have HQ:=HC.out n hlt _ hs
     have C:Calls Tryz.prog 146 #[.agg #[.pointer (some ⟨b,0,none⟩),.slice lo l.length lc,.int .i64 (n:Int)]] _ λ e w' => ∃ v,e=.returned v∧Yg w' (X9 L R l 6 n) v∧Za _ w' := Zsi (lc:=lc) HQ hu.out
     clear HQ;cases hc:ckB L R l 6 n with
     | true=>
      have b1:=Ja hc;have hu1:Hid (Yv L R l 6 (n+1)):=hu.out.step hc;clear hc hu
      go_wp2_with (first | (go_at_call 146;refine C.mono ?_;rintro e w2 ⟨v,rfl,hv,hk2⟩;have CI:=Vk hv (Z5 _ _ _ _ _) 0;rw [b1] at CI) | (go_at_call 115;refine CI.mono ?_;rintro e w3 ⟨rfl,rfl⟩))
      go_roundw
      case rel=>first | exact ⟨n+1,by omega,by go_num,hu1,hs.trans' hk2⟩ | ((repeat apply Exists.intro);exact ⟨⟨n+1,by omega,by go_num,hu1,hs.trans' hk2⟩,rfl⟩)
      case measure=>simp [intOf];omega
     | false=>
      have b1:=Kk hc;have A:Hid (Ans L R l (X9 L R l 6 n)):=Ans.no (by omega) hlt hu.out hc;clear hc hu
      go_wp2_with (first | (go_at_call 146;refine C.mono ?_;rintro e w2 ⟨v,rfl,hv,hk2⟩;have CI:=Vk hv (Z5 _ _ _ _ _) 0;rw [b1] at CI) | (go_at_call 115;refine CI.mono ?_;rintro e w3 ⟨rfl,rfl⟩))
      go_ret;exact ⟨_,_,rfl,A.out,hv,Z5 _ _ _ _ _,HK.out.trans' (hs.trans' hk2)⟩
    ·have hu1:Hid (Yv L R l (6+1) 0):=hu.out.next (by omega)
     go_wp2;exact ⟨⟨6+1,by omega,by go_num,hu1,hs⟩,by simp [intOf]⟩
  | 7,_=>
   have f0:=Zb (HG.out _ hs) 7;simp only [List.getElem?_toArray,List.getElem?_cons_zero,List.getElem?_cons_succ] at f0;go_wp2
   go_loopw [22] (λ i wr=>∃ n:Nat,n<=l.length∧i=.int .i64 (n:Int)∧Hid (Yv L R l 7 n)∧Za w1 wr) (λ i _=>l.length-(intOf i).toNat)
   case atStart=>exact ⟨0,Nat.zero_le _,rfl,hu0,hs⟩
   case round=>
    clear f0 hs hu0;obtain ⟨n,hn,rfl,hu,hs⟩:=hrel
    by_cases hlt:n<l.length
    ·have HQ:=HC.out n hlt _ hs
     have C:Calls Tryz.prog 147 #[.agg #[.pointer (some ⟨b,0,none⟩),.slice lo l.length lc,.int .i64 (n:Int)]] _ λ e w' => ∃ v,e=.returned v∧Yg w' (X9 L R l 7 n) v∧Za _ w' := Zks (lc:=lc) HQ hlc hu.out
     clear HQ;cases hc:ckB L R l 7 n with
     | true=>
      have b1:=Ja hc;have hu1:Hid (Yv L R l 7 (n+1)):=hu.out.step hc;clear hc hu
      go_wp2_with (first | (go_at_call 147;refine C.mono ?_;rintro e w2 ⟨v,rfl,hv,hk2⟩;have CI:=Vk hv (Z5 _ _ _ _ _) 0;rw [b1] at CI) | (go_at_call 115;refine CI.mono ?_;rintro e w3 ⟨rfl,rfl⟩))
      go_roundw
      case rel=>first | exact ⟨n+1,by omega,by go_num,hu1,hs.trans' hk2⟩ | ((repeat apply Exists.intro);exact ⟨⟨n+1,by omega,by go_num,hu1,hs.trans' hk2⟩,rfl⟩)
      case measure=>simp [intOf];omega
     | false=>
      have b1:=Kk hc;have A:Hid (Ans L R l (X9 L R l 7 n)):=Ans.no (by omega) hlt hu.out hc;clear hc hu
      go_wp2_with (first | (go_at_call 147;refine C.mono ?_;rintro e w2 ⟨v,rfl,hv,hk2⟩;have CI:=Vk hv (Z5 _ _ _ _ _) 0;rw [b1] at CI) | (go_at_call 115;refine CI.mono ?_;rintro e w3 ⟨rfl,rfl⟩))
      go_ret;exact ⟨_,_,rfl,A.out,hv,Z5 _ _ _ _ _,HK.out.trans' (hs.trans' hk2)⟩
    ·have hu1:Hid (Yv L R l (7+1) 0):=hu.out.next (by omega)
     go_wp2;exact ⟨⟨7+1,by omega,by go_num,hu1,hs⟩,by simp [intOf]⟩
  | 8,_=>
   have A:Hid (Ans L R l []):=.inl ⟨rfl,hu0.out⟩;go_wp2;go_ret;exact ⟨[],_,rfl,A.out,rfl,by simp,HK.out.trans' hs⟩
  | j+9,hj=>exact absurd hj (by omega)
def Vo (w:World) (g c:Nat) (xs:List Int):Prop:=Row g w (.slice (some ⟨g,0,none⟩) xs.length c) xs
theorem Vo.same {w w' : World} {g c:Nat} {xs:List Int} (h:Vo w g c xs) (hk:Za w w'):Vo w' g c xs:=hk.row h (λ _ _ f=>f)
theorem Zmb {w:World} {ao:Option Addr} {cap:Nat} {xs:List Int} (hx:Zh w ao xs) (hn:0<xs.length) (hsz:xs.length<=2000) :
  Calls Tryz.prog 94 #[.slice ao xs.length cap] w λ e w' => ∃ g c,e=.returned (.slice (some ⟨g,0,none⟩) xs.length c)∧Vo w' g c xs∧w.heap.size<=g∧g<w'.heap.size∧Za w w' := by
 refine (Zfe hx hn hsz).mono ?_;rintro e w' ⟨v,rfl,hr,hk⟩
 rcases hr.2 with ⟨rfl,h0⟩ | ⟨g,c,cur,rfl,hb,hg,r⟩
 ·omega
 ·exact ⟨g,c,rfl,⟨hr.1,.inr ⟨g,c,cur,rfl,Nat.le_refl _,hg,r⟩⟩,hb,Zi hg,hk⟩
theorem Zb7 {w:World} {ao bo:Option Addr} {ac bc:Nat} {x:Ru} (h1:Zh w ao x.1) (h2:Zh w bo x.2) (p1:0<x.1.length) (p2:0<x.2.length) (m1:x.1.length<=2000) (m2:x.2.length<=2000) :
  Calls Tryz.prog 58 #[.agg #[.slice ao x.1.length ac,.slice bo x.2.length bc]] w λ e w' => ∃ g c g' c', e=.returned (.agg #[.slice (some ⟨g,0,none⟩) x.1.length c,.slice (some ⟨g', 0,none⟩) x.2.length c'])∧Vo w' g c x.1∧Vo w' g' c' x.2∧w.heap.size<=g∧w.heap.size<=g' ∧ g≠g' ∧ Za w w' := by
 obtain ⟨wb,hwb⟩:∃ wb,wb=(w.alloc (.cells #[.slice ao x.1.length ac,.slice bo x.2.length bc] 68)).alloc (.cells #[.slice none 0 0,.slice none 0 0] 68):=⟨_,rfl⟩;have K0:Za w wb:=by rw [hwb];exact ((Zc.refl _ w).alloc _).alloc _
 have z0:wb.heap.size=w.heap.size+2:=by rw [hwb];simp
 have B0:wb.heap[w.heap.size]? = some (.cells #[.slice ao x.1.length ac,.slice bo x.2.length bc] 68 (0,0)):=by rw [hwb];exact heap_alloc2_old _ _ _
 have B1:wb.heap[w.heap.size+1]? = some (.cells #[.slice none 0 0,.slice none 0 0] 68 (0,0)):=by rw [hwb];exact Zp _ _ _
 have HS:Hid (∀ ww,Za wb ww->(ww.cell? ⟨w.heap.size,0,none⟩=some (.slice ao x.1.length ac)∧ww.cell? ⟨w.heap.size,1,none⟩=some (.slice bo x.2.length bc))∧(ww.cell? ⟨w.heap.size+1,0,none⟩=some (.slice none 0 0)∧ww.cell? ⟨w.heap.size+1,1,none⟩=some (.slice none 0 0))∧ww.frozen? ⟨w.heap.size+1,0,none⟩=false∧ww.frozen? ⟨w.heap.size+1,1,none⟩=false):=λ ww hk=>⟨⟨Zb (hk.at0 B0) 0,Zb (hk.at0 B0) 1⟩,⟨Zb (hk.at0 B1) 0,Zb (hk.at0 B1) 1⟩,Zd (hk.at0 B1) 0,Zd (hk.at0 B1) 1⟩;have C1:Hid (∀ ww,Za wb ww->Calls Tryz.prog 94 #[.slice ao x.1.length ac] ww λ e w' => ∃ g c,e=.returned (.slice (some ⟨g,0,none⟩) x.1.length c)∧Vo w' g c x.1∧ww.heap.size<=g∧g<w'.heap.size∧Za ww w'):=λ ww hk=>Zmb ((h1.same K0).same hk) p1 m1;have C2:Hid (∀ ww,Za wb ww->Calls Tryz.prog 94 #[.slice bo x.2.length bc] ww λ e w' => ∃ g c,e=.returned (.slice (some ⟨g,0,none⟩) x.2.length c)∧Vo w' g c x.2∧ww.heap.size<=g∧g<w'.heap.size∧Za ww w'):=λ ww hk=>Zmb ((h2.same K0).same hk) p2 m2;have HE:Hid (∀ ww (A B:Value),Za wb ww->Za w ((ww.setCell ⟨w.heap.size+1,0,none⟩ A).setCell ⟨w.heap.size+1,1,none⟩ B)):=λ ww A B hk=>((K0.trans' hk).setCell (λ h=>absurd h (by simp)) _).setCell (λ h=>absurd h (by simp)) _
 have HT:Hid (∀ ww g c xs (A B:Value),Vo ww g c xs->wb.heap.size<=g->Vo ((ww.setCell ⟨w.heap.size+1,0,none⟩ A).setCell ⟨w.heap.size+1,1,none⟩ B) g c xs):=λ ww g c xs A B ht hg=>by
  have k:Zc (λ k=>k=w.heap.size+1) ww ((ww.setCell ⟨w.heap.size+1,0,none⟩ A).setCell ⟨w.heap.size+1,1,none⟩ B):=Zc.setCell (p:=⟨w.heap.size+1,1,none⟩) (Zc.setCell (p:=⟨w.heap.size+1,0,none⟩) (Zc.refl (λ k=>k=w.heap.size+1) ww) (λ _=>rfl) A) (λ _=>rfl) B;exact k.row ht (λ i e=>by simp [Value.ownBlock] at e;omega)
 have HR:Hid (∀ ww (A B:Value),Za wb ww->((ww.setCell ⟨w.heap.size+1,0,none⟩ A).setCell ⟨w.heap.size+1,1,none⟩ B).cell? ⟨w.heap.size+1,0,none⟩=some A∧((ww.setCell ⟨w.heap.size+1,0,none⟩ A).setCell ⟨w.heap.size+1,1,none⟩ B).cell? ⟨w.heap.size+1,1,none⟩=some B):=λ ww A B hk=>by
  have b:=Zs (Zs (hk.at0 B1) 0 A) 1 B;exact ⟨Zb b 0,Zb b 1⟩
 have HSE:Hid (∀ ww (A B:Value),Za wb ww->((ww.setCell ⟨w.heap.size+1,0,none⟩ A).setCell ⟨w.heap.size+1,1,none⟩ B).cell? ⟨w.heap.size,0,none⟩=some (.slice ao x.1.length ac)∧((ww.setCell ⟨w.heap.size+1,0,none⟩ A).setCell ⟨w.heap.size+1,1,none⟩ B).cell? ⟨w.heap.size,1,none⟩=some (.slice bo x.2.length bc)):=λ ww A B hk=>by
  have k:Zc (λ k=>k=w.heap.size+1) ww ((ww.setCell ⟨w.heap.size+1,0,none⟩ A).setCell ⟨w.heap.size+1,1,none⟩ B):=Zc.setCell (p:=⟨w.heap.size+1,1,none⟩) (Zc.setCell (p:=⟨w.heap.size+1,0,none⟩) (Zc.refl (λ k=>k=w.heap.size+1) ww) (λ _=>rfl) A) (λ _=>rfl) B;have b:=k.at (hk.at0 B0) (by omega);exact ⟨Zb b 0,Zb b 1⟩
 have CX:Hid (∀ ww so sc (xs:List Int),((so=ao∧xs=x.1∧sc=ac)∨(so=bo∧xs=x.2∧sc=bc))->Za wb ww->Calls Tryz.prog 94 #[.slice so xs.length sc] ww λ e w' => ∃ g c,e=.returned (.slice (some ⟨g,0,none⟩) xs.length c)∧Vo w' g c xs∧ww.heap.size<=g∧g<w'.heap.size∧Za ww w' ∧ Za wb w'):=λ ww so sc xs h hk=>by
  rcases h with ⟨rfl,rfl,rfl⟩ | ⟨rfl,rfl,rfl⟩
  ·exact (C1.out ww hk).mono (λ e w' ⟨g,c,q1,q2,q3,q4,q5⟩=>⟨g,c,q1,q2,q3,q4,q5,hk.trans' q5⟩)
  ·exact (C2.out ww hk).mono (λ e w' ⟨g,c,q1,q2,q3,q4,q5⟩=>⟨g,c,q1,q2,q3,q4,q5,hk.trans' q5⟩)
 obtain ⟨CC0,_,_,_⟩:=HS.out wb (Zc.refl _ _);have W1:Za wb wb.drew:=Zc.drew (Zc.refl _ _);have HW:Hid (wb=(w.alloc (.cells #[.slice ao x.1.length ac,.slice bo x.2.length bc] 68)).alloc (.cells #[.slice none 0 0,.slice none 0 0] 68)):=hwb;clear B0 B1 h1 h2 K0 C1 C2 hwb
 go_enter Tryz.func58,Tryz.ntmps58
 go_wp2;rw [<- HW.out]
 go_region_held3 (λ w' => w'.cell? ⟨w.heap.size,0,none⟩=some (.slice ao x.1.length ac)∧w'.cell? ⟨w.heap.size,1,none⟩=some (.slice bo x.2.length bc)) (first | exact HSE.out _ _ _ hw2 | exact cc2 | exact cc1 | exact CC0) (first
  | (go_at_call 94;have hold:=ht;refine (CX.out _ _ _ _ (by first | exact .inl ⟨rfl,rfl,rfl⟩ | exact .inr ⟨rfl,rfl,rfl⟩) hw1).mono ?_;rintro e w2 ⟨g2,c2,rfl,ht2,hg3,hg4,hk2,hw2⟩;have ht1:=hold.same hk2;obtain ⟨cc2,⟨rr1,rr2⟩,ff1,ff2⟩:=HS.out _ hw2)
  | (go_at_call 94;refine (CX.out _ _ _ _ (by first | exact .inl ⟨rfl,rfl,rfl⟩ | exact .inr ⟨rfl,rfl,rfl⟩) W1).mono ?_;rintro e w1 ⟨g,c,rfl,ht,hg1,hg2,hk,hw1⟩;obtain ⟨cc1,_⟩:=HS.out _ hw1))
 all_goals
  have y0:wb.drew.heap.size=wb.heap.size:=rfl;have y1:=hk2.size;have y2:=hw1.size;go_wp2
  first
   | exact bodyPost_ret (v:=.agg #[.slice (some ⟨g,0,none⟩) x.1.length c,.slice (some ⟨g2,0,none⟩) x.2.length c2]) (by obtain ⟨r0,r1⟩:=HR.out w2 (.slice (some ⟨g,0,none⟩) x.1.length c) (.slice (some ⟨g2,0,none⟩) x.2.length c2) hw2;simp [results,Tryz.results58,go_sem,r0,r1]) rfl ⟨g,c,g2,c2,rfl,HT.out _ _ _ _ _ _ ht1 (by omega),HT.out _ _ _ _ _ _ ht2 (by omega),by omega,by omega,by omega,HE.out _ _ _ hw2⟩
   | exact bodyPost_ret (v:=.agg #[.slice (some ⟨g2,0,none⟩) x.1.length c2,.slice (some ⟨g,0,none⟩) x.2.length c]) (by obtain ⟨r0,r1⟩:=HR.out w2 (.slice (some ⟨g2,0,none⟩) x.1.length c2) (.slice (some ⟨g,0,none⟩) x.2.length c) hw2;simp [results,Tryz.results58,go_sem,r0,r1]) rfl ⟨g2,c2,g,c,rfl,HT.out _ _ _ _ _ _ ht2 (by omega),HT.out _ _ _ _ _ _ ht1 (by omega),by omega,by omega,by omega,HE.out _ _ _ hw2⟩
end
end Go.Proofs.YtjahpnbijefncaaGreat
