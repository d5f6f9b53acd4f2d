import Derived.WalkKit
import Derived.Test.YtmjgnfkbnofjoaaGreatDoorRN06
import Derived.Lib.AppendZeros
import Derived.Shelf.Abstract
import Derived.OwnWalkIn
import Derived.TacticsInMore
import Derived.LoopNIn
import Derived.LoopIn
namespace Go.Proofs.YtmjgnfkbnofjoaaGreatDoor
open Go.Proofs.Tryz
set_option maxRecDepth 100000
set_option linter.unusedVariables false
set_option maxHeartbeats 20000000
variable {a:Act} {K:Act->World->Prop} {ops:Array Oper} {Q:Exit->Act->World->Prop} {xs:List Int} {R l m:List Ru} {L:List Sym} {us:List Value} {N b base bs c g j k lc n:Nat} {S:Nat->Prop} {o:Oper} {ao lo ro:Option Addr} {E:Prop} {x:Ru} {lv v:Value} {w w' w0:World}
section
open Go.RowKit
attribute [local go_sem ↓] Go.wp_at_zero Go.wp_at_succ
theorem Zsd {rc:Nat} (h:Cnd w b bs ro rc L R lo l n) (hu:Yv L R l 5 n) :
  Calls prog 174 #[.agg #[.pointer (some ⟨b,0,none⟩),.slice lo l.length lc,.int .i64 (n:Int)]] w λ e w' => ∃ v,e=.returned v∧Zn w' (Vi L R l 5 n) v∧Za w w' := by
 obtain ⟨lb,off,ao,ac,bo,bc,x,rfl,hx,W0,CC0,HS,HA,CR,CU⟩:=h.opened lc;have W1:Za (w.alloc (.cells #[.pointer (some ⟨b,0,none⟩),.slice (some ⟨lb,off,none⟩) l.length lc,.int .i64 (n:Int)] 236)) (w.alloc (.cells #[.pointer (some ⟨b,0,none⟩),.slice (some ⟨lb,off,none⟩) l.length lc,.int .i64 (n:Int)] 236)).drew:=Zc.drew (Zc.refl _ _);have f0:=Vd;have f1:=Xt
 have hc:Zd L x.1=0∧Zd L x.2=0:=by
  have:=hu.1 1 (by omega) n h.hn;simp only [ckB,Kw,<- hx,Bool.and_eq_true,decide_eq_true_eq] at this;exact this
 have hm:x.1.length<=2000:=(Ze.1 hc.1).1;have hm2:x.2.length<=2000:=(Ze.1 hc.2).1;have hp:0<x.1.length:=Z2 (Ze.1 hc.1).2.2
 have E:Hid (∀ q:Bool,q=(!x.1.tail.any (Xe L))->(if q=true then [(0, -1)] else [(75,(n:Int))])=Vi L R l 5 n):=by
  intro q hq;have e1:x.1.tail.all (λ n=>!Xe L n) = !x.1.tail.any (Xe L):=by simp [List.all_eq_not_any_not]
  subst hq;simp only [Vi,ckB,Kw,Xm,<- hx,e1];rfl
 obtain ⟨ab,ao', rfl,hab⟩:∃ ab ao', ao=some ⟨ab,ao', none⟩∧Zh (w.alloc (.cells #[.pointer (some ⟨b,0,none⟩),.slice (some ⟨lb,off,none⟩) l.length lc,.int .i64 (n:Int)] 236)) (if ac=1 then some ⟨ab,ao', none⟩ else some ⟨ab,ao' + 1,none⟩) x.1.tail:=by
  have hA:=((HA.out _ (Zc.refl _ _)).1).at';obtain ⟨ab,ao', e,hlt,hc⟩:=hA.get hp;refine ⟨ab,ao', e,?_⟩;have hcap:=((HA.out _ (Zc.refl _ _)).1).cap'
  by_cases hac:ac=1
  ·left
   exact List.eq_nil_of_length_eq_zero (by simp;omega)
  rw [if_neg hac];refine .inr ⟨ab,ao' + 1,rfl,hlt,λ i hi=>?_⟩;have hi' : i+1<x.1.length:=by simp at hi;omega
  obtain ⟨ab2,ao2,e2,_,hc2⟩:=hA.get hi';rw [e] at e2;simp only [Option.some.injEq,Addr.mk.injEq] at e2;obtain ⟨rfl,rfl,_⟩:=e2;rw [show ao' + 1+i=ao' + (i+1) by omega,hc2];simp
 have hac:=((HA.out _ (Zc.refl _ _)).1).cap';have i1:(1:Int)<=(x.1.length:Int):=by omega
 have i2:(x.1.length:Int)<=(ac:Int):=by omega
 have CD:∀ ww z,Za (w.alloc (.cells #[.pointer (some ⟨b,0,none⟩),.slice (some ⟨lb,off,none⟩) l.length lc,.int .i64 (n:Int)] 236)) ww->Calls prog 211 #[.agg #[.pointer (some ⟨b,0,none⟩),.slice (some ⟨lb,off,none⟩) l.length lc,.int .i64 (n:Int)],.int .i64 z] ww λ e w' => e=.returned (.bool (Xe L z))∧Za (w.alloc (.cells #[.pointer (some ⟨b,0,none⟩),.slice (some ⟨lb,off,none⟩) l.length lc,.int .i64 (n:Int)] 236)) w' := λ ww z hk=>(Zbh (HA.out ww hk).2.2 _ _ _ _ _).mono (λ e w' ⟨q1,q2⟩=>⟨q1,hk.trans' q2⟩)
 have CB:Hid (∀ ww so sl sc,so=(if ac=1 then some ⟨ab,ao', none⟩ else some ⟨ab,ao' + 1,none⟩)->sl=x.1.tail.length->Za (w.alloc (.cells #[.pointer (some ⟨b,0,none⟩),.slice (some ⟨lb,off,none⟩) l.length lc,.int .i64 (n:Int)] 236)) ww->Calls prog 212 #[.slice so sl sc,.func (.func 211) #[.agg #[.pointer (some ⟨b,0,none⟩),.slice (some ⟨lb,off,none⟩) l.length lc,.int .i64 (n:Int)]] #[]] ww λ e w' => e=.returned (.bool (x.1.tail.any (Xe L)))∧Za (w.alloc (.cells #[.pointer (some ⟨b,0,none⟩),.slice (some ⟨lb,off,none⟩) l.length lc,.int .i64 (n:Int)] 236)) w'):=λ ww so sl sc e' e hk=>by
  subst e e';exact Zg3 CD hab (by simp;omega) hk
 have tl:x.1.tail.length=x.1.length-1:=by simp
 have TL:Hid (x.1.tail.length=x.1.length-1):=tl;clear h hu hx hab hc CD tl
 by_cases hac1:ac=1
 ·subst hac1
  have CB1:Hid (∀ ww sc,Za (w.alloc (.cells #[.pointer (some ⟨b,0,none⟩),.slice (some ⟨lb,off,none⟩) l.length lc,.int .i64 (n:Int)] 236)) ww->Calls prog 212 #[.slice (some ⟨ab,ao', none⟩) 0 sc,.func (.func 211) #[.agg #[.pointer (some ⟨b,0,none⟩),.slice (some ⟨lb,off,none⟩) l.length lc,.int .i64 (n:Int)]] #[]] ww λ e w' => e=.returned (.bool (x.1.tail.any (Xe L)))∧Za (w.alloc (.cells #[.pointer (some ⟨b,0,none⟩),.slice (some ⟨lb,off,none⟩) l.length lc,.int .i64 (n:Int)] 236)) w'):=λ ww sc hk=>CB.out ww _ 0 sc (by simp) (by rw [TL.out];omega) hk;clear CB TL
  go_enter func174,ntmps174
  go_wp2
  go_region_held3 (λ w' => (w'.cell? ⟨b,0,none⟩=some (.pointer (some ⟨bs,0,none⟩))∧w'.cell? ⟨b,1,none⟩=some (.slice ro R.length rc))∧(w'.cell? ⟨w.heap.size,0,none⟩=some (.pointer (some ⟨b,0,none⟩))∧w'.cell? ⟨w.heap.size,1,none⟩=some (.slice (some ⟨lb,off,none⟩) l.length lc)∧w'.cell? ⟨w.heap.size,2,none⟩=some (.int .i64 (n:Int)))∧w'.cell? ⟨lb,off+n * 2,none⟩=some (.slice (some ⟨ab,ao', none⟩) x.1.length 1)∧w'.cell? ⟨lb,off+n * 2+1,none⟩=some (.slice bo x.2.length bc)) (first | exact cc1 | exact CC0) (first | (go_at_call 209;refine (CR.out _ (by first | exact hw1 | exact W1)).mono ?_;rintro e w1 ⟨rfl,hw1⟩;have cc1:=HS.out _ hw1) | (go_at_call 212;refine (CB1.out _ _ (by first | exact hw1 | exact W1)).mono ?_;rintro e w1 ⟨rfl,hw1⟩;have cc1:=HS.out _ hw1) | (go_at_call 208;refine (CU.out _ _ _ (by first | exact hw1 | exact W1)).mono ?_;rintro e w2 ⟨v,rfl,hv,hw2⟩;have cc1:=HS.out _ hw2))
  all_goals
   go_wp2;go_ret;exact ⟨_,rfl,by rw [<- E.out _ rfl];exact hv,W0.trans' hw2⟩
 ·have CB1:Hid (∀ ww sc,Za (w.alloc (.cells #[.pointer (some ⟨b,0,none⟩),.slice (some ⟨lb,off,none⟩) l.length lc,.int .i64 (n:Int)] 236)) ww->Calls prog 212 #[.slice (some ⟨ab,ao' + 1,none⟩) (x.1.length-1) sc,.func (.func 211) #[.agg #[.pointer (some ⟨b,0,none⟩),.slice (some ⟨lb,off,none⟩) l.length lc,.int .i64 (n:Int)]] #[]] ww λ e w' => e=.returned (.bool (x.1.tail.any (Xe L)))∧Za (w.alloc (.cells #[.pointer (some ⟨b,0,none⟩),.slice (some ⟨lb,off,none⟩) l.length lc,.int .i64 (n:Int)] 236)) w'):=λ ww sc hk=>CB.out ww _ _ sc (by simp [hac1]) TL.out.symm hk
  clear CB TL
  go_enter func174,ntmps174
  go_wp2
  go_region_held3 (λ w' => (w'.cell? ⟨b,0,none⟩=some (.pointer (some ⟨bs,0,none⟩))∧w'.cell? ⟨b,1,none⟩=some (.slice ro R.length rc))∧(w'.cell? ⟨w.heap.size,0,none⟩=some (.pointer (some ⟨b,0,none⟩))∧w'.cell? ⟨w.heap.size,1,none⟩=some (.slice (some ⟨lb,off,none⟩) l.length lc)∧w'.cell? ⟨w.heap.size,2,none⟩=some (.int .i64 (n:Int)))∧w'.cell? ⟨lb,off+n * 2,none⟩=some (.slice (some ⟨ab,ao', none⟩) x.1.length ac)∧w'.cell? ⟨lb,off+n * 2+1,none⟩=some (.slice bo x.2.length bc)) (first | exact cc1 | exact CC0) (first | (go_at_call 209;refine (CR.out _ (by first | exact hw1 | exact W1)).mono ?_;rintro e w1 ⟨rfl,hw1⟩;have cc1:=HS.out _ hw1) | (go_at_call 212;refine (CB1.out _ _ (by first | exact hw1 | exact W1)).mono ?_;rintro e w1 ⟨rfl,hw1⟩;have cc1:=HS.out _ hw1) | (go_at_call 208;refine (CU.out _ _ _ (by first | exact hw1 | exact W1)).mono ?_;rintro e w2 ⟨v,rfl,hv,hw2⟩;have cc1:=HS.out _ hw2))
  all_goals
   go_wp2;go_ret;exact ⟨_,rfl,by rw [<- E.out _ rfl];exact hv,W0.trans' hw2⟩
theorem Zwa {rc:Nat} (h:Cnd w b bs ro rc L R lo l n) (hu:Yv L R l 6 n) :
  Calls prog 175 #[.agg #[.pointer (some ⟨b,0,none⟩),.slice lo l.length lc,.int .i64 (n:Int)]] w λ e w' => ∃ v,e=.returned v∧Zn w' (Vi L R l 6 n) v∧Za w w' := by
 obtain ⟨lb,off,ao,ac,bo,bc,x,rfl,hx,W0,CC0,HS,HA,CR,CU⟩:=h.opened lc;have W1:Za (w.alloc (.cells #[.pointer (some ⟨b,0,none⟩),.slice (some ⟨lb,off,none⟩) l.length lc,.int .i64 (n:Int)] 236)) (w.alloc (.cells #[.pointer (some ⟨b,0,none⟩),.slice (some ⟨lb,off,none⟩) l.length lc,.int .i64 (n:Int)] 236)).drew:=Zc.drew (Zc.refl _ _);have f0:=Vd;have f1:=Xt
 have hc:Zd L x.1=0∧Zd L x.2=0:=by
  have:=hu.1 1 (by omega) n h.hn;simp only [ckB,Kw,<- hx,Bool.and_eq_true,decide_eq_true_eq] at this;exact this
 have hm:x.1.length<=2000:=(Ze.1 hc.1).1;have hm2:x.2.length<=2000:=(Ze.1 hc.2).1;have hp:0<x.1.length:=Z2 (Ze.1 hc.1).2.2;have CL:Hid (∀ ww z,Za (w.alloc (.cells #[.pointer (some ⟨b,0,none⟩),.slice (some ⟨lb,off,none⟩) l.length lc,.int .i64 (n:Int)] 236)) ww->Calls prog 214 #[.slice ao x.1.length ac,.int .i64 z] ww λ e w' => e=.returned (.bool (decide (z∈x.1)))∧Za (w.alloc (.cells #[.pointer (some ⟨b,0,none⟩),.slice (some ⟨lb,off,none⟩) l.length lc,.int .i64 (n:Int)] 236)) w'):=λ ww z hk=>(Zhn (HA.out ww hk).1.at' hm z).mono (λ e w' ⟨q1,q2⟩=>⟨q1,by rw [q2];exact hk⟩)
 have CP:∀ ww z,Za (w.alloc (.cells #[.pointer (some ⟨b,0,none⟩),.slice (some ⟨lb,off,none⟩) l.length lc,.int .i64 (n:Int)] 236)) ww->Calls prog 213 #[.int .i64 z,.pointer (some ⟨w.heap.size,0,none⟩)] ww λ e w' => e=.returned (.bool (Kq x.1 z))∧Za (w.alloc (.cells #[.pointer (some ⟨b,0,none⟩),.slice (some ⟨lb,off,none⟩) l.length lc,.int .i64 (n:Int)] 236)) w' := by
  intro ww z hw1;clear W1 CC0 hx h hu hc;obtain ⟨c1,c2,c3⟩:=HS.out _ hw1
  by_cases hz:z<0
  ·have F:Hid (Kq x.1 z = !decide (z∈x.1)):=by show _=_;simp [Kq,hz]
   generalize Kq x.1 z=q at *;have CL' := λ ww=>CL.out ww z;generalize decide (z∈x.1)=q2 at *
   go_enter func213,ntmps213
   go_wp2_with (first | (go_at_call 209;refine (CR.out _ (by exact hw1)).mono ?_;rintro e w1 ⟨rfl,hw1⟩;have cc1:=HS.out _ hw1) | (go_at_call 214;refine (CL' _ hw1).mono ?_;rintro e w1 ⟨rfl,hw1⟩))
   go_ret;exact ⟨by rw [F.out];rfl,hw1⟩
  ·have F:Hid (Kq x.1 z=false):=by show _=_;simp [Kq,hz]
   go_enter func213,ntmps213
   go_wp2;go_ret;exact ⟨by rw [F.out];rfl,hw1⟩
 have CB:Hid (∀ ww,Za (w.alloc (.cells #[.pointer (some ⟨b,0,none⟩),.slice (some ⟨lb,off,none⟩) l.length lc,.int .i64 (n:Int)] 236)) ww->Calls prog 212 #[.slice bo x.2.length bc,.func (.func 213) #[] #[.pointer (some ⟨w.heap.size,0,none⟩)]] ww λ e w' => e=.returned (.bool (x.2.any (Kq x.1)))∧Za (w.alloc (.cells #[.pointer (some ⟨b,0,none⟩),.slice (some ⟨lb,off,none⟩) l.length lc,.int .i64 (n:Int)] 236)) w'):=λ ww hk=>Zfg CP (HA.out _ (Zc.refl _ _)).2.1.at' hm2 hk
 have E:Hid (∀ q:Bool,q=(!x.2.any (Kq x.1))->(if q=true then [(0, -1)] else [(76,(n:Int))])=Vi L R l 6 n):=by
  intro q hq;have e1:x.2.all (λ n=>!Kq x.1 n) = !x.2.any (Kq x.1):=by simp [List.all_eq_not_any_not]
  subst hq;simp only [Vi,ckB,Kw,Xm,<- hx,e1];rfl
 clear h hu hx hc CP CL
 go_enter func175,ntmps175
 go_wp2
 go_region_held3 (λ w' => (w'.cell? ⟨b,0,none⟩=some (.pointer (some ⟨bs,0,none⟩))∧w'.cell? ⟨b,1,none⟩=some (.slice ro R.length rc))∧(w'.cell? ⟨w.heap.size,0,none⟩=some (.pointer (some ⟨b,0,none⟩))∧w'.cell? ⟨w.heap.size,1,none⟩=some (.slice (some ⟨lb,off,none⟩) l.length lc)∧w'.cell? ⟨w.heap.size,2,none⟩=some (.int .i64 (n:Int)))∧w'.cell? ⟨lb,off+n * 2,none⟩=some (.slice ao x.1.length ac)∧w'.cell? ⟨lb,off+n * 2+1,none⟩=some (.slice bo x.2.length bc)) (first | exact cc1 | exact CC0) (first | (go_at_call 209;refine (CR.out _ (by first | exact hw1 | exact W1)).mono ?_;rintro e w1 ⟨rfl,hw1⟩;have cc1:=HS.out _ hw1) | (go_at_call 212;refine (CB.out _ (by first | exact hw1 | exact W1)).mono ?_;rintro e w1 ⟨rfl,hw1⟩;have cc1:=HS.out _ hw1) | (go_at_call 208;refine (CU.out _ _ _ (by first | exact hw1 | exact W1)).mono ?_;rintro e w2 ⟨v,rfl,hv,hw2⟩;have cc1:=HS.out _ hw2))
 all_goals
  go_wp2;go_ret;exact ⟨_,rfl,by rw [<- E.out _ rfl];exact hv,W0.trans' hw2⟩
theorem V5:(prog.info? 90).map (λ i=>(i.zero,i.size,i.bytes))=some (some (.agg #[.slice none 0 0,.slice none 0 0]),2,48):=by kernel_rfl
def X8 (w:World) (vs:List Value) (l:List Ru):Prop:=
 vs.length=l.length * 2∧∀ i (h:i<l.length),∃ ao ac bo bc,vs[i * 2]? = some (.slice ao l[i].1.length ac)∧vs[i * 2+1]? = some (.slice bo l[i].2.length bc)∧Arg w ao l[i].1 ac∧Arg w bo l[i].2 bc
theorem X8.nil (w:World):X8 w [] []:=⟨rfl,λ i h=>absurd h (by simp)⟩
theorem X8.same {vs:List Value} (h:X8 w vs l) (hk:Za w w'):X8 w' vs l:=
 ⟨h.1,λ i hi=>by
  obtain ⟨ao,ac,bo,bc,h1,h2,h3,h4⟩:=h.2 i hi
  exact ⟨ao,ac,bo,bc,h1,h2,h3.same hk,h4.same hk⟩⟩
theorem X8.append {vs:List Value} (h:X8 w vs l) (k:X8 w us m):X8 w (vs++us) (l++m):=by
 refine ⟨by simp [h.1,k.1];omega,λ i hi=>?_⟩
 by_cases hl:i<l.length
 ·rw [List.getElem_append_left hl,List.getElem?_append_left (by rw [h.1];omega),List.getElem?_append_left (by rw [h.1];omega)]
  exact h.2 i hl
 ·have hm:i-l.length<m.length:=by simp at hi;omega
  rw [List.getElem_append_right (by omega),List.getElem?_append_right (by rw [h.1];omega),List.getElem?_append_right (by rw [h.1];omega)];have e1:i * 2-vs.length=(i-l.length) * 2:=by rw [h.1];omega
  have e2:i * 2+1-vs.length=(i-l.length) * 2+1:=by rw [h.1];omega
  rw [e1,e2];exact k.2 _ hm
theorem X8.one {vs:List Value} (h:X8 w vs l):∀ u∈vs,u.oneCell' = true:=by
 intro u hu;obtain ⟨j,hj,rfl⟩:=List.mem_iff_getElem.1 hu;have hj' : j / 2<l.length:=by rw [h.1] at hj;omega
 obtain ⟨ao,ac,bo,bc,h1,h2,_⟩:=h.2 (j / 2) hj'
 rcases Nat.mod_two_eq_zero_or_one j with e | e
 ·have e1:j / 2 * 2=j:=by omega
  rw [e1,List.getElem?_eq_getElem hj] at h1;simp only [Option.some.injEq] at h1;rw [h1];rfl
 ·have e1:j / 2 * 2+1=j:=by omega
  rw [e1,List.getElem?_eq_getElem hj] at h2;simp only [Option.some.injEq] at h2;rw [h2];rfl
theorem Xb (b off j:Nat):(⟨b,off,none⟩:Addr).add j=⟨b,off+j,none⟩:=by
 unfold Addr.add;split
 ·rename_i h;subst h;simp
 ·simp
theorem Vh.cells (h:Vh w lo l):∃ vs,X8 w vs l∧∀ ad,lo=some ad->∀ j u,vs[j]? = some u->w.cell? (ad.add j)=some u:=by
 rcases h with rfl | ⟨b,off,rfl,hb,hc⟩
 ·exact ⟨[],X8.nil w,λ ad _ j u hj=>by simp at hj⟩
 ·have key:∀ j,j<l.length * 2->∃ u,w.cell? ⟨b,off+j,none⟩=some u:=λ j hj=>by
   obtain ⟨ao,ac,bo,bc,h1,h2,_⟩:=hc (j / 2) (by omega)
   rcases Nat.mod_two_eq_zero_or_one j with e | e
   ·exact ⟨_,by rw [<- h1];congr 2;omega⟩
   ·exact ⟨_,by rw [<- h2];congr 2;omega⟩
  refine ⟨(List.range (l.length * 2)).map (λ j=>(w.cell? ⟨b,off+j,none⟩).getD undef),⟨by simp,λ i hi=>?_⟩,λ ad e j u hj=>?_⟩
  ·obtain ⟨ao,ac,bo,bc,h1,h2,h3,h4⟩:=hc i hi
   have g1:i * 2<l.length * 2:=by omega
   have g2:i * 2+1<l.length * 2:=by omega
   have h2' : w.cell? ⟨b,off+(i * 2+1),none⟩=some (.slice bo l[i].2.length bc):=by rw [<- h2];congr 2
   exact ⟨ao,ac,bo,bc,by simp [g1,h1],by simp [g2,h2'],h3,h4⟩
  ·cases e
   rw [Xb];have hlt:j<l.length * 2:=by have:=(List.getElem?_eq_some_iff.1 hj).1;simpa using this
   obtain ⟨v,hv⟩:=key j hlt;simp [hlt,hv] at hj;rw [hv,hj]
theorem J9 {vs:List Value} (hr:w.ownsRow base 90 2 v N vs) (hc:X8 w vs l):∃ ao cap,v=.slice ao l.length cap∧Vh w ao l∧(ao=none->cap=0)∧N=l.length:=by
 have hN:N=l.length:=by have:=hr.1;rw [hc.1] at this;omega
 subst hN
 rcases hr.2 with ⟨rfl,h0⟩ | ⟨g,cap,cur,rfl,_,hg,_,_,_,ht⟩
 ·exact ⟨none,0,by rw [h0],.inl (List.eq_nil_of_length_eq_zero h0),λ _=>rfl,rfl⟩
 ·refine ⟨_,cap,rfl,.inr ⟨g,0,rfl,Zi hg,λ i hi=>?_⟩,(λ e=>by cases e),rfl⟩
  obtain ⟨ao,ac,bo,bc,h1,h2,h3,h4⟩:=hc.2 i hi;have q1:=hr.cells (g:=g) rfl _ _ h1;have q2:=hr.cells (g:=g) rfl _ _ h2;rw [Xb] at q1 q2;exact ⟨ao,ac,bo,bc,q1,by rw [<- q2];congr 2,h3,h4⟩
theorem Vh.src (h:Vh w lo l):∃ us,X8 w us l∧Hid (∀ ww,Za w ww->∀ ad,lo=some ad->∀ j u,us[j]? = some u->ww.cell? (ad.add j)=some u):=by
 obtain ⟨us,h1,h2⟩:=h.cells;refine ⟨us,h1,λ ww hk ad e j u hj=>?_⟩;have:=h2 ad e j u hj;exact (hk.cell (World.block_lt_of_cell? w _ this) (λ f=>f)).trans this
theorem Jh {W:World} {rest:List Oper} (hgd:o.guard=none) (s x:Operand)
  (ho:o.op=.call { callee:=.builtin .append,args:=#[s,x],argTypes:=#[29,29] })
  (base N:Nat) (vs:List Value) (v:Value) (hs:a.eval s=v) (hr:w0.ownsRow base 90 2 v N vs) (lo:Option Addr) (lc:Nat) (l:List Ru) (us:List Value) (hx:a.eval x=.slice lo l.length lc) (hc:X8 W us l) (hu:∀ ad,lo=some ad->∀ j u,us[j]? = some u->w0.cell? (ad.add j)=some u) (hn:lo=none->lc=0∧l=[]) (hb:base<=w0.heap.size) (hsz:N+l.length<=1000)
  (h:∀ v' w', w'.ownsRow base 90 2 v' (N+l.length) (vs++us)->Zc (λ k=>v.ownBlock=some k) w0 w' -> wpList prog ops Q rest (a.put o.dst v') w') :
  wpList prog ops Q (o :: rest) a w0:=by
 obtain ⟨i,hi,hz0,hz1,hz2⟩:=info_parts V5;cases lo with
 | none=>
  obtain ⟨rfl,rfl⟩:=hn rfl;have e0:us=[]:=List.eq_nil_of_length_eq_zero (by simpa using hc.1);subst e0;refine wpList_append_own_none hgd s x 29 ho base 90 i 2 underlying29 hi v N vs hs hr hx ?_;exact h v w0 (by simpa using hr) (Zc.refl _ _)
 | some ad=>
  refine wpList_append_own _ hgd s x 29 ho base 90 i _ 2 48 underlying29 hi hz0 hz1 hz2 rfl (by decide) v N vs hs hr ad l.length lc us hx hc.1 (hu ad rfl) hc.one (by unfold maxLen;omega) (by omega) hb ?_;intro v' w' hown hgrow _;exact h v' w' hown (Zc.grown (Zc.refl _ w0) hgrow (λ _ e _=>e))
theorem Vh.none (h:Vh w lo l) (hn:lo=none->lc=0):lo=none->lc=0∧l=[]:=λ e=>⟨hn e,by
 rcases h with h | ⟨_,_,e', _⟩
 ·exact h
 ·rw [e] at e'; cases e'⟩
theorem Zwz (w:World) (N:Nat) (hN:N<=1000) :
  Calls prog 229 #[.slice none 0 0,.int .i64 (N:Int)] w λ e w' => ∃ v,e=.returned v∧w'.ownsRow w.heap.size 90 2 v 0 []∧Za w w' := by
 have i0:¬ (N:Int)<0:=by omega
 by_cases h0:N=0
 ·subst h0
  go_enter func229,ntmps229
  go_wp2;go_ret;exact ⟨_,rfl,World.ownsRow_nil _ _ _ _,Zc.refl _ _⟩
 ·obtain ⟨i,hi,hz0,hz1,hz2⟩:=info_parts V5
  have i1:(0:Int)<(N:Int):=by omega
  have hrun:=λ ty=>Lib.run_append_nil_zeros (P:=prog) w 29 3 ty 90 i _ .i64 .i64 underlying29 underlying3 hi hz0 N (by omega) (by omega) (by omega) (by rw [hz2];omega);have hge:=grownCap_ge w N 0 90;have hle:=grownCap_le_maxLen w N 0 90 (by unfold maxLen;omega);generalize grownCap w N 0 90=cap at *;obtain ⟨Z,hZ⟩:∃ Z,Z=Builtin.zeroCells (Value.agg #[.slice none 0 0,.slice none 0 0]).cells N++Builtin.zeroCells (Value.agg #[.slice none 0 0,.slice none 0 0]).cells (cap-N):=⟨_,rfl⟩;rw [<- hZ] at hrun
  have hzs:Z.size=cap * 2:=by
   rw [hZ,Array.size_append,size_zeroCells,size_zeroCells];have:(Value.agg #[.slice none 0 0,.slice none 0 0]).cells.size=2:=rfl;rw [this];omega
  have HR:Hid ((w.drew.alloc (.cells Z 90)).ownsRow w.heap.size 90 2 (.slice (some ⟨w.heap.size,0,none⟩) 0 cap) 0 []):=⟨rfl,.inr ⟨w.heap.size,cap,Z,rfl,Nat.le_refl _,heap_alloc_new w.drew _,Nat.zero_le _,hle,hzs,by simp⟩⟩;have HK:Hid (Za w (w.drew.alloc (.cells Z 90))):=((Zc.refl _ w).drew).alloc _;clear hZ hzs hi hz0 hz1 hz2 hge hle;have j1:(0:Int)<=(cap:Int):=by omega
  go_enter func229,ntmps229
  go_wp2_with ((at_builtin;refine Lib.wpList_append_run _ rfl _ _ 29 3 rfl _ _ rfl rfl _ _ (hrun _) ?_))
  go_ret;exact ⟨_,rfl,HR.out,HK.out⟩
theorem Zde {w1 w2:World} {vs:List Value} (hk:Za w w1) (hr:w1.ownsRow base 90 2 v N vs) (hb:w.heap.size<=base) (k2:Zc (λ k=>v.ownBlock=some k) w1 w2):Za w w2:=
 Zc.trans hk k2 (λ i hi e=>by have:=(hr.lt i e).1;omega)
theorem Zog {rc:Nat} {M:List Ru} (hg:w.heap[g]? = some (.cells #[.slice ro R.length rc,.slice lo M.length lc] 29 (0,0))) (hR:Vh w ro R) (hM:Vh w lo M) (n1:ro=none->rc=0) (n2:lo=none->lc=0) (l1:R.length<=100) (l2:M.length<=100) :
  Calls prog 215 #[.slice (some ⟨g,0,none⟩) 2 2] w λ e w' => ∃ vo vc,e=.returned (.slice vo (R++M).length vc)∧Vh w' vo (R++M)∧Za w w' := by
 have C0:Hid (∀ ww,Za w ww->ww.cell? ⟨g,0,none⟩=some (.slice ro R.length rc)∧ww.cell? ⟨g,1,none⟩=some (.slice lo M.length lc)):=λ ww hk=>⟨Zb (hk.at0 hg) 0,Zb (hk.at0 hg) 1⟩;obtain ⟨c0,c1⟩:=C0.out w (Zc.refl _ _);have G:=λ ww=>Zwz ww (R.length+M.length) (by omega);have e1:((R.length+M.length:Nat):Int)=(R.length:Int)+(M.length:Int):=by omega
 rw [e1] at G;have N1:Hid (ro=none->rc=0∧R=[]):=hR.none n1;have N2:Hid (lo=none->lc=0∧M=[]):=hM.none n2;obtain ⟨us,hu,US⟩:=hR.src;obtain ⟨ms,hm,MS⟩:=hM.src;clear e1 hg n1 n2 hR hM
 go_enter func215,ntmps215
 go_wp2;refine wp_loop_rounds 3 ?_;rw [rounds_succ];go_wp2;rw [rounds_succ];go_wp2;rw [rounds_succ]
 go_wp2_with ((go_at_call 229;refine (G _).mono ?_;rintro e w1 ⟨v,rfl,hr,hk⟩))
 obtain ⟨vo,vc,rfl⟩:=Zf hr;obtain ⟨d0,d1⟩:=C0.out _ hk;have z1:=hk.size;clear c0 c1 G;refine wp_loop_rounds 3 ?_;rw [rounds_succ]
 go_wp2_with ((at_builtin;refine Jh rfl _ _ rfl w.heap.size 0 [] _ rfl hr ro rc R us rfl hu (US.out _ hk) N1.out z1 (by omega) ?_;intro v2 w2 hr2 k2))
 have s2:=Zde hk hr (Nat.le_refl _) k2;obtain ⟨vo2,vc2,rfl⟩:=Zf hr2;obtain ⟨f0,f1⟩:=C0.out _ s2;have z2:=s2.size;clear d0 d1 z1 hr k2 hk;rw [rounds_succ]
 go_wp2_with ((at_builtin;refine Jh rfl _ _ rfl w.heap.size _ _ _ rfl hr2 lo lc M ms rfl hm (MS.out _ s2) N2.out z2 (by omega) ?_;intro v3 w3 hr3 k3))
 have s3:=Zde s2 hr2 (Nat.le_refl _) k3;obtain ⟨vo3,vc3,rfl⟩:=Zf hr3;obtain ⟨o3,c3,e3,r3,_,_⟩:=J9 hr3 (by simpa using (hu.append hm).same s3);have E3:Hid (∃ vo vc,Value.slice vo3 (0+R.length+M.length) vc3=.slice vo (R++M).length vc∧Vh w3 vo (R++M)∧Za w w3):=⟨o3,c3,e3,r3,s3⟩;clear hr2 hr3 k3 e3 r3 s2;rw [rounds_succ];go_wp2;go_ret;obtain ⟨vo,vc,q1,q2,q3⟩:=E3.out;exact ⟨vo,vc,by rw [<- q1];rfl,q2,q3⟩
theorem Zkn {rc:Nat} (h:Cnd w b bs ro rc L R lo l n) (hlc:l.length<=lc) (hu:Yv L R l 7 n) :
  Calls prog 176 #[.agg #[.pointer (some ⟨b,0,none⟩),.slice lo l.length lc,.int .i64 (n:Int)]] w λ e w' => ∃ v,e=.returned v∧Zn w' (Vi L R l 7 n) v∧Za w w' := by
 obtain ⟨lb,off,ao,ac,bo,bc,x,rfl,hx,W0,CC0,HS,HA,CR,CU⟩:=h.opened lc;have W1:Za (w.alloc (.cells #[.pointer (some ⟨b,0,none⟩),.slice (some ⟨lb,off,none⟩) l.length lc,.int .i64 (n:Int)] 236)) (w.alloc (.cells #[.pointer (some ⟨b,0,none⟩),.slice (some ⟨lb,off,none⟩) l.length lc,.int .i64 (n:Int)] 236)).drew:=Zc.drew (Zc.refl _ _);have f0:=Vd;have f1:=Xt;have CF:Hid (∀ ww why c,(why=.nilIface∨∃ t v,why=.iface t v)->Za (w.alloc (.cells #[.pointer (some ⟨b,0,none⟩),.slice (some ⟨lb,off,none⟩) l.length lc,.int .i64 (n:Int)] 236)) ww->Calls prog 210 #[.agg #[.pointer (some ⟨b,0,none⟩),.slice (some ⟨lb,off,none⟩) l.length lc,.int .i64 (n:Int)],.int .i64 c,why] ww λ e w' => ∃ k,e=.returned (.iface 114 (.pointer (some ⟨k,0,none⟩)))∧w'.heap[k]? = some (.cells #[.int .i64 c,.int .i64 (n:Int),why] 116 (0,0))∧Za ww w' ∧ Za (w.alloc (.cells #[.pointer (some ⟨b,0,none⟩),.slice (some ⟨lb,off,none⟩) l.length lc,.int .i64 (n:Int)] 236)) w'):=λ ww why c hw hk=>(Zd1 ww b _ _ _ why hw n c).mono (λ e w' ⟨k,q1,q2,q3⟩=>⟨k,q1,q2,q3,hk.trans' q3⟩)
 have hxc:Zd L x.1=0:=by
  have:=hu.1 1 (by omega) n h.hn;simp only [ckB,Kw,<- hx,Bool.and_eq_true,decide_eq_true_eq] at this;exact this.1
 have hnn:=h.hn
 have hN:R.length+l.length<=100:=by
  have:=hu.1 0 (by omega) n h.hn
  simpa [ckB,Kw] using this
 obtain ⟨A,hA⟩:∃ A,A=R++l.take n:=⟨_,rfl⟩;have hAl:A.length=R.length+n:=by rw [hA];simp;omega
 have hAc:∀ a∈A,Zd L a.1=0:=λ a ha=>by
  rw [hA] at ha
  rcases List.mem_append.1 ha with q | q
  ·exact h.st.ok a q
  ·obtain ⟨i,hi,rfl⟩:=List.mem_iff_getElem.1 q
   have hi' : i<l.length:=by simp at hi;omega
   have:=hu.1 1 (by omega) i hi';simp only [ckB,Kw,Bool.and_eq_true,decide_eq_true_eq] at this
   simpa [List.getD,hi'] using this.1
 have E0:Hid (A.all (λ a=>!Vb L a.1 x.1)=true->Vi L R l 7 n=[(0, -1)]):=λ q=>by simp only [Vi,ckB,Kw,<- hx,<- hA,q];rfl
 have E1:Hid (∀ k (hk:k<A.length),(A.take k).all (λ a=>!Vb L a.1 x.1)=true->Vb L A[k].1 x.1=true->Vi L R l 7 n=[(77,(n:Int)),(78,(k:Int))]):=λ k hk q1 q2=>by
  have e1:A.all (λ a=>!Vb L a.1 x.1)=false:=by
   cases h:A.all (λ a=>!Vb L a.1 x.1) with
   | false=>rfl
   | true=>have:=List.all_eq_true.1 h _ (List.getElem_mem hk);rw [q2] at this;cases this
  have e2:A.findIdx (λ a=>Vb L a.1 x.1)=k:=(List.findIdx_eq hk).2 ⟨q2,λ j hj=>by
   have:=List.all_eq_true.1 q1 (A[j]'(by omega)) (by
    refine List.mem_iff_getElem.2 ⟨j,by simp;omega,by simp⟩)
   simpa using this⟩
  simp only [Vi,ckB,Kw,Xm,<- hx,<- hA,e1,e2];rfl
 have hRl:=h.st.le
 have HM:Hid (Vh (w.alloc (.cells #[.pointer (some ⟨b,0,none⟩),.slice (some ⟨lb,off,none⟩) l.length lc,.int .i64 (n:Int)] 236)) (some ⟨lb,off,none⟩) (l.take n)):=by
  rcases h.ls.same W0 with e | ⟨b', off', e,hb', hc'⟩
  ·rw [e] at hnn;simp at hnn
  ·refine .inr ⟨b', off', e,hb', λ i hi=>?_⟩
   have hi' : i<l.length:=by simp at hi;omega
   have:=hc' i hi'
   simpa using this
 have hst:=h.st.same W0;have htl:(l.take n).length=n:=by simp;omega
 have CCat:Hid (∀ ww g sl,sl=n->Za (w.alloc (.cells #[.pointer (some ⟨b,0,none⟩),.slice (some ⟨lb,off,none⟩) l.length lc,.int .i64 (n:Int)] 236)) ww->ww.heap[g]? = some (.cells #[.slice ro R.length rc,.slice (some ⟨lb,off,none⟩) sl lc] 29 (0,0))->Calls prog 215 #[.slice (some ⟨g,0,none⟩) 2 2] ww λ e w' => ∃ vo vc,e=.returned (.slice vo A.length vc)∧Vh w' vo A∧Za (w.alloc (.cells #[.pointer (some ⟨b,0,none⟩),.slice (some ⟨lb,off,none⟩) l.length lc,.int .i64 (n:Int)] 236)) w'):=λ ww g sl e hk hg=>by
  subst e;have:=Zog (M:=l.take sl) (lc:=lc) (by rw [htl];exact hg) (hst.rs.same hk) (HM.out.same hk) hst.nil (λ e=>by cases e) hRl (by rw [htl];omega);rw [<- hA] at this;exact this.mono (λ e w' ⟨vo,vc,q1,q2,q3⟩=>⟨vo,vc,q1,q2,hk.trans' q3⟩)
 have j1:(0:Int)<=(n:Int):=by omega
 have j2:(n:Int)<=(lc:Int):=by omega
 have hAm:A.length<=200:=by omega
 have HL:Hid (A.length=R.length+n):=hAl;clear h hu hx hst htl HM hA hAl
 go_enter func176,ntmps176
 go_wp2
 go_region_held3 (λ w' => (w'.cell? ⟨b,0,none⟩=some (.pointer (some ⟨bs,0,none⟩))∧w'.cell? ⟨b,1,none⟩=some (.slice ro R.length rc))∧(w'.cell? ⟨w.heap.size,0,none⟩=some (.pointer (some ⟨b,0,none⟩))∧w'.cell? ⟨w.heap.size,1,none⟩=some (.slice (some ⟨lb,off,none⟩) l.length lc)∧w'.cell? ⟨w.heap.size,2,none⟩=some (.int .i64 (n:Int)))∧w'.cell? ⟨lb,off+n * 2,none⟩=some (.slice ao x.1.length ac)∧w'.cell? ⟨lb,off+n * 2+1,none⟩=some (.slice bo x.2.length bc)) (first | exact cc1 | exact CC0 | exact HS.out _ (Zc.alloc (Zc.refl _ _) _) | exact HS.out _ (Zc.drew (Zc.alloc (Zc.refl _ _) _))) ((go_at_call 215;refine (CCat.out _ _ _ rfl (Zc.drew (Zc.alloc (Zc.refl _ _) _)) (Zo _ _ _)).mono ?_;rintro e w1 ⟨vo,vc,rfl,hro,hw1⟩;have cc1:=HS.out _ hw1))
 go_wp2;clear W1 CC0 CR CU cc1 CCat;have M0:Za w1 w1:=Zc.refl _ _
 go_loopw [20] (λ i wr=>∃ k:Nat,k<=A.length∧i=.int .i64 (k:Int)∧Hid ((A.take k).all (λ a=>!Vb L a.1 x.1)=true)∧Za w1 wr) (λ i _=>A.length-(intOf i).toNat)
 case atStart=>exact ⟨0,Nat.zero_le _,rfl,rfl,M0⟩
 case round=>
  clear M0;obtain ⟨k,hk,rfl,hall,hs⟩:=hrel;obtain ⟨wo,hwo⟩:∃ wo,wo=wr:=⟨_,rfl⟩
  by_cases hlt:k<A.length
  ·obtain ⟨gb,goff,rfl,hgb,go1,gc1,go2,gc2,r0,r1,A1,A2⟩:=(hro.same hs).get hlt
   have i1:(0:Int)<=(k:Int):=by omega
   have i2:(k:Int)<(A.length:Int):=by omega
   have hck:=hAc _ (List.getElem_mem hlt);have KA:Za wr (wr.alloc (.cells #[.slice go1 A[k].1.length gc1,.slice go2 A[k].2.length gc2] 90)):=Zal9;have KB:Za (w.alloc (.cells #[.pointer (some ⟨b,0,none⟩),.slice (some ⟨lb,off,none⟩) l.length lc,.int .i64 (n:Int)] 236)) (wr.alloc (.cells #[.slice go1 A[k].1.length gc1,.slice go2 A[k].2.length gc2] 90)):=(hw1.trans' hs).trans' KA;have hnew:=heap_alloc_new wr (.cells #[.slice go1 A[k].1.length gc1,.slice go2 A[k].2.length gc2] 90);have HS2:Hid (∀ ww,Za (wr.alloc (.cells #[.slice go1 A[k].1.length gc1,.slice go2 A[k].2.length gc2] 90)) ww->ww.cell? ⟨wr.heap.size,0,none⟩=some (.slice go1 A[k].1.length gc1)∧(ww.cell? ⟨b,0,none⟩=some (.pointer (some ⟨bs,0,none⟩))∧ww.cell? ⟨b,1,none⟩=some (.slice ro R.length rc))∧(ww.cell? ⟨w.heap.size,0,none⟩=some (.pointer (some ⟨b,0,none⟩))∧ww.cell? ⟨w.heap.size,1,none⟩=some (.slice (some ⟨lb,off,none⟩) l.length lc)∧ww.cell? ⟨w.heap.size,2,none⟩=some (.int .i64 (n:Int)))∧ww.cell? ⟨lb,off+n * 2,none⟩=some (.slice ao x.1.length ac)∧ww.cell? ⟨lb,off+n * 2+1,none⟩=some (.slice bo x.2.length bc)):=λ ww hk=>⟨Zb (hk.at0 hnew) 0,HS.out ww (KB.trans' hk)⟩
   have CR2:Hid (∀ ww,Za (wr.alloc (.cells #[.slice go1 A[k].1.length gc1,.slice go2 A[k].2.length gc2] 90)) ww->Calls prog 209 #[.agg #[.pointer (some ⟨b,0,none⟩),.slice (some ⟨lb,off,none⟩) l.length lc,.int .i64 (n:Int)]] ww λ e w' => e=.returned (.agg #[.slice ao x.1.length ac,.slice bo x.2.length bc])∧Za (wr.alloc (.cells #[.slice go1 A[k].1.length gc1,.slice go2 A[k].2.length gc2] 90)) w'):=λ ww hk=>by
    obtain ⟨_,_,_,g0,g1⟩:=HS2.out ww hk;exact (Zne g0 g1 hnn).mono (λ e w' ⟨q1,q2⟩=>⟨q1,hk.trans' q2⟩)
   have CL2:Hid (∀ ww,Za (wr.alloc (.cells #[.slice go1 A[k].1.length gc1,.slice go2 A[k].2.length gc2] 90)) ww->Calls prog 216 #[.pointer (some ⟨bs,0,none⟩),.slice go1 A[k].1.length gc1,.slice ao x.1.length ac] ww λ e w' => e=.returned (.tuple #[.bool (Zbc L A[k].1 x.1),.int .i64 0])∧Za (wr.alloc (.cells #[.slice go1 A[k].1.length gc1,.slice go2 A[k].2.length gc2] 90)) w'):=λ ww hk=>by
    have hz:Zco L A[k].1 x.1=0:=by simp [Zco,hck,hxc]
    have hA' := HA.out ww (KB.trans' hk);have s1:=A1.size;have s2:=hA'.1.size;have:=Zs4 (xc:=gc1) (yc:=ac) hA'.2.2.sig ((A1.same KA).same hk).at' hA'.1.at' (by unfold maxLen;omega) (by unfold maxLen;omega);rw [hz] at this;exact this.mono (λ e w' ⟨q1,q2⟩=>⟨q1,hk.trans' q2⟩)
   have hm:Vb L A[k].1 x.1 = !Zbc L A[k].1 x.1:=by simp [Vb,Zco,hck,hxc]
   have CC2:=HS2.out _ (Zc.refl _ _);have W2:Za (wr.alloc (.cells #[.slice go1 A[k].1.length gc1,.slice go2 A[k].2.length gc2] 90)) (wr.alloc (.cells #[.slice go1 A[k].1.length gc1,.slice go2 A[k].2.length gc2] 90)).drew:=Zc.drew (Zc.refl _ _);have KE:Hid (∀ ww,Za (wr.alloc (.cells #[.slice go1 A[k].1.length gc1,.slice go2 A[k].2.length gc2] 90)) ww->Za w1 ww∧Za (w.alloc (.cells #[.pointer (some ⟨b,0,none⟩),.slice (some ⟨lb,off,none⟩) l.length lc,.int .i64 (n:Int)] 236)) ww):=λ ww hk=>⟨(hs.trans' KA).trans' hk,KB.trans' hk⟩;cases hq:Zbc L A[k].1 x.1 with
   | false=>
    have Z:=E1.out k hlt hall.out (by rw [hm,hq];rfl);rw [hq] at CL2;clear hm hq E0 E1 hall hck hxc HA hnew KA KB A1 A2 hro hgb hAc;go_wp2
    go_region_held3 (λ w' => w'.cell? ⟨wr.heap.size,0,none⟩=some (.slice go1 A[k].1.length gc1)∧(w'.cell? ⟨b,0,none⟩=some (.pointer (some ⟨bs,0,none⟩))∧w'.cell? ⟨b,1,none⟩=some (.slice ro R.length rc))∧(w'.cell? ⟨w.heap.size,0,none⟩=some (.pointer (some ⟨b,0,none⟩))∧w'.cell? ⟨w.heap.size,1,none⟩=some (.slice (some ⟨lb,off,none⟩) l.length lc)∧w'.cell? ⟨w.heap.size,2,none⟩=some (.int .i64 (n:Int)))∧w'.cell? ⟨lb,off+n * 2,none⟩=some (.slice ao x.1.length ac)∧w'.cell? ⟨lb,off+n * 2+1,none⟩=some (.slice bo x.2.length bc)) (first | exact cc1 | exact CC2) (first | (go_at_call 209;refine (CR2.out _ (by first | exact hv1 | exact W2)).mono ?_;rintro e v1 ⟨rfl,hv1⟩;have cc1:=HS2.out _ hv1) | (go_at_call 216;refine (CL2.out _ (by first | exact hv1 | exact W2)).mono ?_;rintro e v1 ⟨rfl,hv1⟩;have cc1:=HS2.out _ hv1))
    all_goals
     obtain ⟨_,kb⟩:=KE.out _ hv1;have KB:=Zc.alloc kb (.cells #[.int .i64 78,.int .i64 (k:Int),.nilIface] 116);have hin:=heap_alloc_new v1 (.cells #[.int .i64 78,.int .i64 (k:Int),.nilIface] 116)
     go_wp2_with ((go_at_call 210;refine (CF.out _ _ _ (.inr ⟨_,_,rfl⟩) KB).mono ?_;rintro e w3 ⟨k3,rfl,hk3,ks3,kw3⟩;have hin3:=ks3.at0 hin))
     go_ret;exact ⟨_,rfl,by rw [Z];exact .inr ⟨by omega,k3,_,rfl,hk3,.inr ⟨by omega,_,_,rfl,hin3,rfl⟩⟩,W0.trans' kw3⟩
   | true=>
    have Z:Hid ((A.take (k+1)).all (λ a=>!Vb L a.1 x.1)=true):=by
     have:=hall.out;show _=_;rw [List.take_add_one,List.getElem?_eq_getElem hlt,List.all_append,this];simp [hm,hq]
    rw [hq] at CL2;clear hm hq E0 E1 hall hck hxc HA hnew KA KB A1 A2 hro hgb hAc;go_wp2
    go_region_held3 (λ w' => w'.cell? ⟨wr.heap.size,0,none⟩=some (.slice go1 A[k].1.length gc1)∧(w'.cell? ⟨b,0,none⟩=some (.pointer (some ⟨bs,0,none⟩))∧w'.cell? ⟨b,1,none⟩=some (.slice ro R.length rc))∧(w'.cell? ⟨w.heap.size,0,none⟩=some (.pointer (some ⟨b,0,none⟩))∧w'.cell? ⟨w.heap.size,1,none⟩=some (.slice (some ⟨lb,off,none⟩) l.length lc)∧w'.cell? ⟨w.heap.size,2,none⟩=some (.int .i64 (n:Int)))∧w'.cell? ⟨lb,off+n * 2,none⟩=some (.slice ao x.1.length ac)∧w'.cell? ⟨lb,off+n * 2+1,none⟩=some (.slice bo x.2.length bc)) (first | exact cc1 | exact CC2) (first | (go_at_call 209;refine (CR2.out _ (by first | exact hv1 | exact W2)).mono ?_;rintro e v1 ⟨rfl,hv1⟩;have cc1:=HS2.out _ hv1) | (go_at_call 216;refine (CL2.out _ (by first | exact hv1 | exact W2)).mono ?_;rintro e v1 ⟨rfl,hv1⟩;have cc1:=HS2.out _ hv1))
    all_goals
     go_wp2;exact ⟨⟨k+1,by omega,by go_num,Z,(KE.out _ hv1).1⟩,by simp [intOf];omega⟩
  ·have Z:=E0.out (by have:=hall.out;rwa [List.take_of_length_le (by omega)] at this)
   have kw:=hw1.trans' hs;go_wp2;go_ret;exact ⟨_,rfl,by rw [Z];exact .inl ⟨rfl,rfl,rfl⟩,W0.trans' kw⟩
theorem Zo1 (w:World):Calls prog 124 #[] w λ e w' => ∃ g,e=.returned (.slice (some ⟨g,0,none⟩) 8 8)∧w'.heap[g]? = some (.cells #[.func (.func 169) #[] #[],.func (.func 170) #[] #[],.func (.func 171) #[] #[],.func (.func 172) #[] #[],.func (.func 173) #[] #[],.func (.func 174) #[] #[],.func (.func 175) #[] #[],.func (.func 176) #[] #[]] 234 (0,0))∧Za w w' := by
 go_enter func124,ntmps124
 go_wp2;go_ret;exact ⟨_,rfl,heap_alloc_new _ _,(Zc.refl _ w).alloc _⟩
theorem Z1 (L:List Sym) (R l:List Ru) (j n:Nat):(Vi L R l j n).length<=2:=by
 unfold Vi Xm
 repeat' split
 all_goals simp
theorem Ji (h:ckB L R l j n=true):Ko (Vi L R l j n) 0=true:=by
 simp [Vi,h,Ko]
theorem Zad (h:ckB L R l j n=false):Ko (Vi L R l j n) 0=false:=by
 unfold Vi;rw [h];simp only [Bool.false_eq_true,if_false];unfold Xm;split
 ·rename_i e
  subst e;simp only [ckB,Kw] at h;generalize l.getD n ([],[])=x at *
  by_cases h1:Zd L x.1=0
  ·have h2:¬ Zd L x.2=0:=by intro e;simp [h1,e] at h
   simp [Ko,h1];omega
  ·simp [Ko,h1];omega
 ·split
  ·simp [Ko]
  ·simp [Ko];omega
def Zti (L:List Sym) (R l:List Ru) (w:World) (e:Ending) (w' : World):Prop:=∃ ws v,e=.returned v∧Ans L R l ws∧Zn w' ws v∧ws.length<=2∧Za w w'
theorem Ans.no (hj:j<8) (hn:n<l.length) (hu:Yv L R l j n) (hc:ckB L R l j n=false):Ans L R l (Vi L R l j n):=
 .inr ⟨j,n,hj,hn,hu,hc,by simp [Vi,hc]⟩
theorem Zpz {rc:Nat} (h:StR w b bs ro rc L R) (hl:Vh w lo l) (hll:l.length<=140737488355328) (hlc:l.length<=lc) :
  Calls prog 82 #[.pointer (some ⟨b,0,none⟩),.slice lo l.length lc] w (Zti L R l w):=by
 go_enter func82,ntmps82
 go_wp2_with ((go_at_call 124;refine (Zo1 _).mono ?_;rintro e w1 ⟨g,rfl,hg,hk1⟩))
 have HG:Hid (∀ ww,Za w1 ww->ww.heap[g]? = some (.cells #[.func (.func 169) #[] #[],.func (.func 170) #[] #[],.func (.func 171) #[] #[],.func (.func 172) #[] #[],.func (.func 173) #[] #[],.func (.func 174) #[] #[],.func (.func 175) #[] #[],.func (.func 176) #[] #[]] 234 (0,0))):=λ ww hk=>hk.at0 hg;have HC:Hid (∀ n,n<l.length->∀ ww,Za w1 ww->Cnd ww b bs ro rc L R lo l n):=λ n hn ww hk=>⟨(h.same hk1).same hk,(hl.same hk1).same hk,hll,hn⟩;have HK:Hid (Za w w1):=hk1;have M0:Za w1 w1:=Zc.refl _ _;clear hg h hl hk1
 go_loopw [16] (λ i wr=>∃ j:Nat,j<=8∧i=.int .i64 (j:Int)∧Hid (Yv L R l j 0)∧Za w1 wr) (λ i _=>8-(intOf i).toNat)
 case atStart=>exact ⟨0,by omega,rfl,Yv.nil L R l,M0⟩
 case round=>
  clear M0;obtain ⟨j,hj,rfl,hu0,hs⟩:=hrel
  match j,hj with
  | 0,_=>
   have f0:=Zb (HG.out _ hs) 0;simp only [List.getElem?_toArray,List.getElem?_cons_zero] at f0;go_wp2
   go_loopw [22] (λ i wr=>∃ n:Nat,n<=l.length∧i=.int .i64 (n:Int)∧Hid (Yv L R l 0 n)∧Za w1 wr) (λ i _=>l.length-(intOf i).toNat)
   case atStart=>exact ⟨0,Nat.zero_le _,rfl,hu0,hs⟩
   case round=>
    clear f0 hs hu0;obtain ⟨n,hn,rfl,hu,hs⟩:=hrel
    by_cases hlt:n<l.length
    ·have HQ:=HC.out n hlt _ hs
     have C:Calls prog 169 #[.agg #[.pointer (some ⟨b,0,none⟩),.slice lo l.length lc,.int .i64 (n:Int)]] _ λ e w' => ∃ v,e=.returned v∧Zn w' (Vi L R l 0 n) v∧Za _ w' := Zum (lc:=lc) HQ
     clear HQ;cases hc:ckB L R l 0 n with
     | true=>
      have b1:=Ji hc;have hu1:Hid (Yv L R l 0 (n+1)):=hu.out.step hc;clear hc hu
      go_wp2_with (first | (go_at_call 169;refine C.mono ?_;rintro e w2 ⟨v,rfl,hv,hk2⟩;have CI:=X5 hv (Z1 _ _ _ _ _) 0;rw [b1] at CI) | (go_at_call 27;refine CI.mono ?_;rintro e w3 ⟨rfl,rfl⟩))
      go_roundw
      case rel=>first | exact ⟨n+1,by omega,by go_num,hu1,hs.trans' hk2⟩ | ((repeat apply Exists.intro);exact ⟨⟨n+1,by omega,by go_num,hu1,hs.trans' hk2⟩,rfl⟩)
      case measure=>simp [intOf];omega
     | false=>
      have b1:=Zad hc;have A:Hid (Ans L R l (Vi L R l 0 n)):=Ans.no (by omega) hlt hu.out hc;clear hc hu
      go_wp2_with (first | (go_at_call 169;refine C.mono ?_;rintro e w2 ⟨v,rfl,hv,hk2⟩;have CI:=X5 hv (Z1 _ _ _ _ _) 0;rw [b1] at CI) | (go_at_call 27;refine CI.mono ?_;rintro e w3 ⟨rfl,rfl⟩))
      go_ret;exact ⟨_,_,rfl,A.out,hv,Z1 _ _ _ _ _,HK.out.trans' (hs.trans' hk2)⟩
    ·have hu1:Hid (Yv L R l (0+1) 0):=hu.out.next (by omega)
     go_wp2;exact ⟨⟨0+1,by omega,by go_num,hu1,hs⟩,by simp [intOf]⟩
  | 1,_=>
   have f0:=Zb (HG.out _ hs) 1;simp only [List.getElem?_toArray,List.getElem?_cons_zero,List.getElem?_cons_succ] at f0;go_wp2
   go_loopw [22] (λ i wr=>∃ n:Nat,n<=l.length∧i=.int .i64 (n:Int)∧Hid (Yv L R l 1 n)∧Za w1 wr) (λ i _=>l.length-(intOf i).toNat)
   case atStart=>exact ⟨0,Nat.zero_le _,rfl,hu0,hs⟩
   case round=>
    clear f0 hs hu0;obtain ⟨n,hn,rfl,hu,hs⟩:=hrel
    by_cases hlt:n<l.length
    ·have HQ:=HC.out n hlt _ hs
     have C:Calls prog 170 #[.agg #[.pointer (some ⟨b,0,none⟩),.slice lo l.length lc,.int .i64 (n:Int)]] _ λ e w' => ∃ v,e=.returned v∧Zn w' (Vi L R l 1 n) v∧Za _ w' := Zvl (lc:=lc) HQ hu.out
     clear HQ;cases hc:ckB L R l 1 n with
     | true=>
      have b1:=Ji hc;have hu1:Hid (Yv L R l 1 (n+1)):=hu.out.step hc;clear hc hu
      go_wp2_with (first | (go_at_call 170;refine C.mono ?_;rintro e w2 ⟨v,rfl,hv,hk2⟩;have CI:=X5 hv (Z1 _ _ _ _ _) 0;rw [b1] at CI) | (go_at_call 27;refine CI.mono ?_;rintro e w3 ⟨rfl,rfl⟩))
      go_roundw
      case rel=>first | exact ⟨n+1,by omega,by go_num,hu1,hs.trans' hk2⟩ | ((repeat apply Exists.intro);exact ⟨⟨n+1,by omega,by go_num,hu1,hs.trans' hk2⟩,rfl⟩)
      case measure=>simp [intOf];omega
     | false=>
      have b1:=Zad hc;have A:Hid (Ans L R l (Vi L R l 1 n)):=Ans.no (by omega) hlt hu.out hc;clear hc hu
      go_wp2_with (first | (go_at_call 170;refine C.mono ?_;rintro e w2 ⟨v,rfl,hv,hk2⟩;have CI:=X5 hv (Z1 _ _ _ _ _) 0;rw [b1] at CI) | (go_at_call 27;refine CI.mono ?_;rintro e w3 ⟨rfl,rfl⟩))
      go_ret;exact ⟨_,_,rfl,A.out,hv,Z1 _ _ _ _ _,HK.out.trans' (hs.trans' hk2)⟩
    ·have hu1:Hid (Yv L R l (1+1) 0):=hu.out.next (by omega)
     go_wp2;exact ⟨⟨1+1,by omega,by go_num,hu1,hs⟩,by simp [intOf]⟩
  | 2,_=>
   have f0:=Zb (HG.out _ hs) 2;simp only [List.getElem?_toArray,List.getElem?_cons_zero,List.getElem?_cons_succ] at f0;go_wp2
   go_loopw [22] (λ i wr=>∃ n:Nat,n<=l.length∧i=.int .i64 (n:Int)∧Hid (Yv L R l 2 n)∧Za w1 wr) (λ i _=>l.length-(intOf i).toNat)
   case atStart=>exact ⟨0,Nat.zero_le _,rfl,hu0,hs⟩
   case round=>
    clear f0 hs hu0;obtain ⟨n,hn,rfl,hu,hs⟩:=hrel
    by_cases hlt:n<l.length
    ·have HQ:=HC.out n hlt _ hs
     have C:Calls prog 171 #[.agg #[.pointer (some ⟨b,0,none⟩),.slice lo l.length lc,.int .i64 (n:Int)]] _ λ e w' => ∃ v,e=.returned v∧Zn w' (Vi L R l 2 n) v∧Za _ w' := Zwn (lc:=lc) HQ hu.out
     clear HQ;cases hc:ckB L R l 2 n with
     | true=>
      have b1:=Ji hc;have hu1:Hid (Yv L R l 2 (n+1)):=hu.out.step hc;clear hc hu
      go_wp2_with (first | (go_at_call 171;refine C.mono ?_;rintro e w2 ⟨v,rfl,hv,hk2⟩;have CI:=X5 hv (Z1 _ _ _ _ _) 0;rw [b1] at CI) | (go_at_call 27;refine CI.mono ?_;rintro e w3 ⟨rfl,rfl⟩))
      go_roundw
      case rel=>first | exact ⟨n+1,by omega,by go_num,hu1,hs.trans' hk2⟩ | ((repeat apply Exists.intro);exact ⟨⟨n+1,by omega,by go_num,hu1,hs.trans' hk2⟩,rfl⟩)
      case measure=>simp [intOf];omega
     | false=>
      have b1:=Zad hc;have A:Hid (Ans L R l (Vi L R l 2 n)):=Ans.no (by omega) hlt hu.out hc;clear hc hu
      go_wp2_with (first | (go_at_call 171;refine C.mono ?_;rintro e w2 ⟨v,rfl,hv,hk2⟩;have CI:=X5 hv (Z1 _ _ _ _ _) 0;rw [b1] at CI) | (go_at_call 27;refine CI.mono ?_;rintro e w3 ⟨rfl,rfl⟩))
      go_ret;exact ⟨_,_,rfl,A.out,hv,Z1 _ _ _ _ _,HK.out.trans' (hs.trans' hk2)⟩
    ·have hu1:Hid (Yv L R l (2+1) 0):=hu.out.next (by omega)
     go_wp2;exact ⟨⟨2+1,by omega,by go_num,hu1,hs⟩,by simp [intOf]⟩
  | 3,_=>
   have f0:=Zb (HG.out _ hs) 3;simp only [List.getElem?_toArray,List.getElem?_cons_zero,List.getElem?_cons_succ] at f0;go_wp2
   go_loopw [22] (λ i wr=>∃ n:Nat,n<=l.length∧i=.int .i64 (n:Int)∧Hid (Yv L R l 3 n)∧Za w1 wr) (λ i _=>l.length-(intOf i).toNat)
   case atStart=>exact ⟨0,Nat.zero_le _,rfl,hu0,hs⟩
   case round=>
    clear f0 hs hu0;obtain ⟨n,hn,rfl,hu,hs⟩:=hrel
    by_cases hlt:n<l.length
    ·have HQ:=HC.out n hlt _ hs
     have C:Calls prog 172 #[.agg #[.pointer (some ⟨b,0,none⟩),.slice lo l.length lc,.int .i64 (n:Int)]] _ λ e w' => ∃ v,e=.returned v∧Zn w' (Vi L R l 3 n) v∧Za _ w' := Zws (lc:=lc) HQ hu.out
     clear HQ;cases hc:ckB L R l 3 n with
     | true=>
      have b1:=Ji hc;have hu1:Hid (Yv L R l 3 (n+1)):=hu.out.step hc;clear hc hu
      go_wp2_with (first | (go_at_call 172;refine C.mono ?_;rintro e w2 ⟨v,rfl,hv,hk2⟩;have CI:=X5 hv (Z1 _ _ _ _ _) 0;rw [b1] at CI) | (go_at_call 27;refine CI.mono ?_;rintro e w3 ⟨rfl,rfl⟩))
      go_roundw
      case rel=>first | exact ⟨n+1,by omega,by go_num,hu1,hs.trans' hk2⟩ | ((repeat apply Exists.intro);exact ⟨⟨n+1,by omega,by go_num,hu1,hs.trans' hk2⟩,rfl⟩)
      case measure=>simp [intOf];omega
     | false=>
      have b1:=Zad hc;have A:Hid (Ans L R l (Vi L R l 3 n)):=Ans.no (by omega) hlt hu.out hc;clear hc hu
      go_wp2_with (first | (go_at_call 172;refine C.mono ?_;rintro e w2 ⟨v,rfl,hv,hk2⟩;have CI:=X5 hv (Z1 _ _ _ _ _) 0;rw [b1] at CI) | (go_at_call 27;refine CI.mono ?_;rintro e w3 ⟨rfl,rfl⟩))
      go_ret;exact ⟨_,_,rfl,A.out,hv,Z1 _ _ _ _ _,HK.out.trans' (hs.trans' hk2)⟩
    ·have hu1:Hid (Yv L R l (3+1) 0):=hu.out.next (by omega)
     go_wp2;exact ⟨⟨3+1,by omega,by go_num,hu1,hs⟩,by simp [intOf]⟩
  | 4,_=>
   have f0:=Zb (HG.out _ hs) 4;simp only [List.getElem?_toArray,List.getElem?_cons_zero,List.getElem?_cons_succ] at f0;go_wp2
   go_loopw [22] (λ i wr=>∃ n:Nat,n<=l.length∧i=.int .i64 (n:Int)∧Hid (Yv L R l 4 n)∧Za w1 wr) (λ i _=>l.length-(intOf i).toNat)
   case atStart=>exact ⟨0,Nat.zero_le _,rfl,hu0,hs⟩
   case round=>
    clear f0 hs hu0;obtain ⟨n,hn,rfl,hu,hs⟩:=hrel
    by_cases hlt:n<l.length
    ·have HQ:=HC.out n hlt _ hs
     have C:Calls prog 173 #[.agg #[.pointer (some ⟨b,0,none⟩),.slice lo l.length lc,.int .i64 (n:Int)]] _ λ e w' => ∃ v,e=.returned v∧Zn w' (Vi L R l 4 n) v∧Za _ w' := Zpe (lc:=lc) HQ hu.out
     clear HQ;cases hc:ckB L R l 4 n with
     | true=>
      have b1:=Ji hc;have hu1:Hid (Yv L R l 4 (n+1)):=hu.out.step hc;clear hc hu
      go_wp2_with (first | (go_at_call 173;refine C.mono ?_;rintro e w2 ⟨v,rfl,hv,hk2⟩;have CI:=X5 hv (Z1 _ _ _ _ _) 0;rw [b1] at CI) | (go_at_call 27;refine CI.mono ?_;rintro e w3 ⟨rfl,rfl⟩))
      go_roundw
      case rel=>first | exact ⟨n+1,by omega,by go_num,hu1,hs.trans' hk2⟩ | ((repeat apply Exists.intro);exact ⟨⟨n+1,by omega,by go_num,hu1,hs.trans' hk2⟩,rfl⟩)
      case measure=>simp [intOf];omega
     | false=>
      have b1:=Zad hc;have A:Hid (Ans L R l (Vi L R l 4 n)):=Ans.no (by omega) hlt hu.out hc;clear hc hu
      go_wp2_with (first | (go_at_call 173;refine C.mono ?_;rintro e w2 ⟨v,rfl,hv,hk2⟩;have CI:=X5 hv (Z1 _ _ _ _ _) 0;rw [b1] at CI) | (go_at_call 27;refine CI.mono ?_;rintro e w3 ⟨rfl,rfl⟩))
      go_ret;exact ⟨_,_,rfl,A.out,hv,Z1 _ _ _ _ _,HK.out.trans' (hs.trans' hk2)⟩
    ·have hu1:Hid (Yv L R l (4+1) 0):=hu.out.next (by omega)
     go_wp2;exact ⟨⟨4+1,by omega,by go_num,hu1,hs⟩,by simp [intOf]⟩
  | 5,_=>
   have f0:=Zb (HG.out _ hs) 5;simp only [List.getElem?_toArray,List.getElem?_cons_zero,List.getElem?_cons_succ] at f0;go_wp2
   go_loopw [22] (λ i wr=>∃ n:Nat,n<=l.length∧i=.int .i64 (n:Int)∧Hid (Yv L R l 5 n)∧Za w1 wr) (λ i _=>l.length-(intOf i).toNat)
   case atStart=>exact ⟨0,Nat.zero_le _,rfl,hu0,hs⟩
   case round=>
    clear f0 hs hu0;obtain ⟨n,hn,rfl,hu,hs⟩:=hrel
    by_cases hlt:n<l.length
    ·have HQ:=HC.out n hlt _ hs
     have C:Calls prog 174 #[.agg #[.pointer (some ⟨b,0,none⟩),.slice lo l.length lc,.int .i64 (n:Int)]] _ λ e w' => ∃ v,e=.returned v∧Zn w' (Vi L R l 5 n) v∧Za _ w' := Zsd (lc:=lc) HQ hu.out
     clear HQ;cases hc:ckB L R l 5 n with
     | true=>
      have b1:=Ji hc;have hu1:Hid (Yv L R l 5 (n+1)):=hu.out.step hc;clear hc hu
      go_wp2_with (first | (go_at_call 174;refine C.mono ?_;rintro e w2 ⟨v,rfl,hv,hk2⟩;have CI:=X5 hv (Z1 _ _ _ _ _) 0;rw [b1] at CI) | (go_at_call 27;refine CI.mono ?_;rintro e w3 ⟨rfl,rfl⟩))
      go_roundw
      case rel=>first | exact ⟨n+1,by omega,by go_num,hu1,hs.trans' hk2⟩ | ((repeat apply Exists.intro);exact ⟨⟨n+1,by omega,by go_num,hu1,hs.trans' hk2⟩,rfl⟩)
      case measure=>simp [intOf];omega
     | false=>
      have b1:=Zad hc;have A:Hid (Ans L R l (Vi L R l 5 n)):=Ans.no (by omega) hlt hu.out hc;clear hc hu
      go_wp2_with (first | (go_at_call 174;refine C.mono ?_;rintro e w2 ⟨v,rfl,hv,hk2⟩;have CI:=X5 hv (Z1 _ _ _ _ _) 0;rw [b1] at CI) | (go_at_call 27;refine CI.mono ?_;rintro e w3 ⟨rfl,rfl⟩))
      go_ret;exact ⟨_,_,rfl,A.out,hv,Z1 _ _ _ _ _,HK.out.trans' (hs.trans' hk2)⟩
    ·have hu1:Hid (Yv L R l (5+1) 0):=hu.out.next (by omega)
     go_wp2;exact ⟨⟨5+1,by omega,by go_num,hu1,hs⟩,by simp [intOf]⟩
  | 6,_=>
   have f0:=Zb (HG.out _ hs) 6;simp only [List.getElem?_toArray,List.getElem?_cons_zero,List.getElem?_cons_succ] at f0;go_wp2
   go_loopw [22] (λ i wr=>∃ n:Nat,n<=l.length∧i=.int .i64 (n:Int)∧Hid (Yv L R l 6 n)∧Za w1 wr) (λ i _=>l.length-(intOf i).toNat)
   case atStart=>exact ⟨0,Nat.zero_le _,rfl,hu0,hs⟩
   case round=>
    clear f0 hs hu0;obtain ⟨n,hn,rfl,hu,hs⟩:=hrel
    by_cases hlt:n<l.length
    ·have HQ:=HC.out n hlt _ hs
     have C:Calls prog 175 #[.agg #[.pointer (some ⟨b,0,none⟩),.slice lo l.length lc,.int .i64 (n:Int)]] _ λ e w' => ∃ v,e=.returned v∧Zn w' (Vi L R l 6 n) v∧Za _ w' := Zwa (lc:=lc) HQ hu.out
     clear HQ;cases hc:ckB L R l 6 n with
     | true=>
      have b1:=Ji hc;have hu1:Hid (Yv L R l 6 (n+1)):=hu.out.step hc;clear hc hu
      go_wp2_with (first | (go_at_call 175;refine C.mono ?_;rintro e w2 ⟨v,rfl,hv,hk2⟩;have CI:=X5 hv (Z1 _ _ _ _ _) 0;rw [b1] at CI) | (go_at_call 27;refine CI.mono ?_;rintro e w3 ⟨rfl,rfl⟩))
      go_roundw
      case rel=>first | exact ⟨n+1,by omega,by go_num,hu1,hs.trans' hk2⟩ | ((repeat apply Exists.intro);exact ⟨⟨n+1,by omega,by go_num,hu1,hs.trans' hk2⟩,rfl⟩)
      case measure=>simp [intOf];omega
     | false=>
      have b1:=Zad hc;have A:Hid (Ans L R l (Vi L R l 6 n)):=Ans.no (by omega) hlt hu.out hc;clear hc hu
      go_wp2_with (first | (go_at_call 175;refine C.mono ?_;rintro e w2 ⟨v,rfl,hv,hk2⟩;have CI:=X5 hv (Z1 _ _ _ _ _) 0;rw [b1] at CI) | (go_at_call 27;refine CI.mono ?_;rintro e w3 ⟨rfl,rfl⟩))
      go_ret;exact ⟨_,_,rfl,A.out,hv,Z1 _ _ _ _ _,HK.out.trans' (hs.trans' hk2)⟩
    ·have hu1:Hid (Yv L R l (6+1) 0):=hu.out.next (by omega)
     go_wp2;exact ⟨⟨6+1,by omega,by go_num,hu1,hs⟩,by simp [intOf]⟩
  | 7,_=>
   have f0:=Zb (HG.out _ hs) 7;simp only [List.getElem?_toArray,List.getElem?_cons_zero,List.getElem?_cons_succ] at f0;go_wp2
   go_loopw [22] (λ i wr=>∃ n:Nat,n<=l.length∧i=.int .i64 (n:Int)∧Hid (Yv L R l 7 n)∧Za w1 wr) (λ i _=>l.length-(intOf i).toNat)
   case atStart=>exact ⟨0,Nat.zero_le _,rfl,hu0,hs⟩
   case round=>
    clear f0 hs hu0;obtain ⟨n,hn,rfl,hu,hs⟩:=hrel
    by_cases hlt:n<l.length
    ·have HQ:=HC.out n hlt _ hs
     have C:Calls prog 176 #[.agg #[.pointer (some ⟨b,0,none⟩),.slice lo l.length lc,.int .i64 (n:Int)]] _ λ e w' => ∃ v,e=.returned v∧Zn w' (Vi L R l 7 n) v∧Za _ w' := Zkn (lc:=lc) HQ hlc hu.out
     clear HQ;cases hc:ckB L R l 7 n with
     | true=>
      have b1:=Ji hc;have hu1:Hid (Yv L R l 7 (n+1)):=hu.out.step hc;clear hc hu
      go_wp2_with (first | (go_at_call 176;refine C.mono ?_;rintro e w2 ⟨v,rfl,hv,hk2⟩;have CI:=X5 hv (Z1 _ _ _ _ _) 0;rw [b1] at CI) | (go_at_call 27;refine CI.mono ?_;rintro e w3 ⟨rfl,rfl⟩))
      go_roundw
      case rel=>first | exact ⟨n+1,by omega,by go_num,hu1,hs.trans' hk2⟩ | ((repeat apply Exists.intro);exact ⟨⟨n+1,by omega,by go_num,hu1,hs.trans' hk2⟩,rfl⟩)
      case measure=>simp [intOf];omega
     | false=>
      have b1:=Zad hc;have A:Hid (Ans L R l (Vi L R l 7 n)):=Ans.no (by omega) hlt hu.out hc;clear hc hu
      go_wp2_with (first | (go_at_call 176;refine C.mono ?_;rintro e w2 ⟨v,rfl,hv,hk2⟩;have CI:=X5 hv (Z1 _ _ _ _ _) 0;rw [b1] at CI) | (go_at_call 27;refine CI.mono ?_;rintro e w3 ⟨rfl,rfl⟩))
      go_ret;exact ⟨_,_,rfl,A.out,hv,Z1 _ _ _ _ _,HK.out.trans' (hs.trans' hk2)⟩
    ·have hu1:Hid (Yv L R l (7+1) 0):=hu.out.next (by omega)
     go_wp2;exact ⟨⟨7+1,by omega,by go_num,hu1,hs⟩,by simp [intOf]⟩
  | 8,_=>
   have A:Hid (Ans L R l []):=.inl ⟨rfl,hu0.out⟩;go_wp2;go_ret;exact ⟨[],_,rfl,A.out,rfl,by simp,HK.out.trans' hs⟩
  | j+9,hj=>exact absurd hj (by omega)
def Yu (w:World) (g c:Nat) (xs:List Int):Prop:=Row g w (.slice (some ⟨g,0,none⟩) xs.length c) xs
theorem Yu.same (h:Yu w g c xs) (hk:Za w w'):Yu w' g c xs:=hk.row h (λ _ _ f=>f)
theorem Zmt {cap:Nat} (hx:Zh w ao xs) (hn:0<xs.length) (hsz:xs.length<=2000) :
  Calls prog 123 #[.slice ao xs.length cap] w λ e w' => ∃ g c,e=.returned (.slice (some ⟨g,0,none⟩) xs.length c)∧Yu w' g c xs∧w.heap.size<=g∧g<w'.heap.size∧Za w w' := by
 refine (Zfu hx hn hsz).mono ?_;rintro e w' ⟨v,rfl,hr,hk⟩
 rcases hr.2 with ⟨rfl,h0⟩ | ⟨g,c,cur,rfl,hb,hg,r⟩
 ·omega
 ·exact ⟨g,c,rfl,⟨hr.1,.inr ⟨g,c,cur,rfl,Nat.le_refl _,hg,r⟩⟩,hb,Zi hg,hk⟩
theorem Zav {bo:Option Addr} {ac bc:Nat} (h1:Zh w ao x.1) (h2:Zh w bo x.2) (p1:0<x.1.length) (p2:0<x.2.length) (m1:x.1.length<=2000) (m2:x.2.length<=2000) :
  Calls prog 81 #[.agg #[.slice ao x.1.length ac,.slice bo x.2.length bc]] w λ e w' => ∃ g c g' c', e=.returned (.agg #[.slice (some ⟨g,0,none⟩) x.1.length c,.slice (some ⟨g', 0,none⟩) x.2.length c'])∧Yu w' g c x.1∧Yu w' g' c' x.2∧w.heap.size<=g∧w.heap.size<=g' ∧ g≠g' ∧ Za w w' := by
 obtain ⟨wb,hwb⟩:∃ wb,wb=(w.alloc (.cells #[.slice ao x.1.length ac,.slice bo x.2.length bc] 90)).alloc (.cells #[.slice none 0 0,.slice none 0 0] 90):=⟨_,rfl⟩;have K0:Za w wb:=by rw [hwb];exact ((Zc.refl _ w).alloc _).alloc _
 have z0:wb.heap.size=w.heap.size+2:=by rw [hwb];simp
 have B0:wb.heap[w.heap.size]? = some (.cells #[.slice ao x.1.length ac,.slice bo x.2.length bc] 90 (0,0)):=by rw [hwb];exact heap_alloc2_old _ _ _
 have B1:wb.heap[w.heap.size+1]? = some (.cells #[.slice none 0 0,.slice none 0 0] 90 (0,0)):=by rw [hwb];exact Zo _ _ _
 have HS:Hid (∀ ww,Za wb ww->(ww.cell? ⟨w.heap.size,0,none⟩=some (.slice ao x.1.length ac)∧ww.cell? ⟨w.heap.size,1,none⟩=some (.slice bo x.2.length bc))∧(ww.cell? ⟨w.heap.size+1,0,none⟩=some (.slice none 0 0)∧ww.cell? ⟨w.heap.size+1,1,none⟩=some (.slice none 0 0))∧ww.frozen? ⟨w.heap.size+1,0,none⟩=false∧ww.frozen? ⟨w.heap.size+1,1,none⟩=false):=λ ww hk=>⟨⟨Zb (hk.at0 B0) 0,Zb (hk.at0 B0) 1⟩,⟨Zb (hk.at0 B1) 0,Zb (hk.at0 B1) 1⟩,Zg (hk.at0 B1) 0,Zg (hk.at0 B1) 1⟩;have C1:Hid (∀ ww,Za wb ww->Calls prog 123 #[.slice ao x.1.length ac] ww λ e w' => ∃ g c,e=.returned (.slice (some ⟨g,0,none⟩) x.1.length c)∧Yu w' g c x.1∧ww.heap.size<=g∧g<w'.heap.size∧Za ww w'):=λ ww hk=>Zmt ((h1.same K0).same hk) p1 m1;have C2:Hid (∀ ww,Za wb ww->Calls prog 123 #[.slice bo x.2.length bc] ww λ e w' => ∃ g c,e=.returned (.slice (some ⟨g,0,none⟩) x.2.length c)∧Yu w' g c x.2∧ww.heap.size<=g∧g<w'.heap.size∧Za ww w'):=λ ww hk=>Zmt ((h2.same K0).same hk) p2 m2;have HE:Hid (∀ ww (A B:Value),Za wb ww->Za w ((ww.setCell ⟨w.heap.size+1,0,none⟩ A).setCell ⟨w.heap.size+1,1,none⟩ B)):=λ ww A B hk=>((K0.trans' hk).setCell (λ h=>absurd h (by simp)) _).setCell (λ h=>absurd h (by simp)) _
 have HT:Hid (∀ ww g c xs (A B:Value),Yu ww g c xs->wb.heap.size<=g->Yu ((ww.setCell ⟨w.heap.size+1,0,none⟩ A).setCell ⟨w.heap.size+1,1,none⟩ B) g c xs):=λ ww g c xs A B ht hg=>by
  have k:Zc (λ k=>k=w.heap.size+1) ww ((ww.setCell ⟨w.heap.size+1,0,none⟩ A).setCell ⟨w.heap.size+1,1,none⟩ B):=Zc.setCell (p:=⟨w.heap.size+1,1,none⟩) (Zc.setCell (p:=⟨w.heap.size+1,0,none⟩) (Zc.refl (λ k=>k=w.heap.size+1) ww) (λ _=>rfl) A) (λ _=>rfl) B;exact k.row ht (λ i e=>by simp [Value.ownBlock] at e;omega)
 have HR:Hid (∀ ww (A B:Value),Za wb ww->((ww.setCell ⟨w.heap.size+1,0,none⟩ A).setCell ⟨w.heap.size+1,1,none⟩ B).cell? ⟨w.heap.size+1,0,none⟩=some A∧((ww.setCell ⟨w.heap.size+1,0,none⟩ A).setCell ⟨w.heap.size+1,1,none⟩ B).cell? ⟨w.heap.size+1,1,none⟩=some B):=λ ww A B hk=>by
  have b:=Zt (Zt (hk.at0 B1) 0 A) 1 B;exact ⟨Zb b 0,Zb b 1⟩
 have HSE:Hid (∀ ww (A B:Value),Za wb ww->((ww.setCell ⟨w.heap.size+1,0,none⟩ A).setCell ⟨w.heap.size+1,1,none⟩ B).cell? ⟨w.heap.size,0,none⟩=some (.slice ao x.1.length ac)∧((ww.setCell ⟨w.heap.size+1,0,none⟩ A).setCell ⟨w.heap.size+1,1,none⟩ B).cell? ⟨w.heap.size,1,none⟩=some (.slice bo x.2.length bc)):=λ ww A B hk=>by
  have k:Zc (λ k=>k=w.heap.size+1) ww ((ww.setCell ⟨w.heap.size+1,0,none⟩ A).setCell ⟨w.heap.size+1,1,none⟩ B):=Zc.setCell (p:=⟨w.heap.size+1,1,none⟩) (Zc.setCell (p:=⟨w.heap.size+1,0,none⟩) (Zc.refl (λ k=>k=w.heap.size+1) ww) (λ _=>rfl) A) (λ _=>rfl) B;have b:=k.at (hk.at0 B0) (by omega);exact ⟨Zb b 0,Zb b 1⟩
 have CX:Hid (∀ ww so sc (xs:List Int),((so=ao∧xs=x.1∧sc=ac)∨(so=bo∧xs=x.2∧sc=bc))->Za wb ww->Calls prog 123 #[.slice so xs.length sc] ww λ e w' => ∃ g c,e=.returned (.slice (some ⟨g,0,none⟩) xs.length c)∧Yu w' g c xs∧ww.heap.size<=g∧g<w'.heap.size∧Za ww w' ∧ Za wb w'):=λ ww so sc xs h hk=>by
  rcases h with ⟨rfl,rfl,rfl⟩ | ⟨rfl,rfl,rfl⟩
  ·exact (C1.out ww hk).mono (λ e w' ⟨g,c,q1,q2,q3,q4,q5⟩=>⟨g,c,q1,q2,q3,q4,q5,hk.trans' q5⟩)
  ·exact (C2.out ww hk).mono (λ e w' ⟨g,c,q1,q2,q3,q4,q5⟩=>⟨g,c,q1,q2,q3,q4,q5,hk.trans' q5⟩)
 obtain ⟨CC0,_,_,_⟩:=HS.out wb (Zc.refl _ _);have W1:Za wb wb.drew:=Zc.drew (Zc.refl _ _);have HW:Hid (wb=(w.alloc (.cells #[.slice ao x.1.length ac,.slice bo x.2.length bc] 90)).alloc (.cells #[.slice none 0 0,.slice none 0 0] 90)):=hwb;clear B0 B1 h1 h2 K0 C1 C2 hwb
 go_enter func81,ntmps81
 go_wp2;rw [<- HW.out]
 go_region_held3 (λ w' => w'.cell? ⟨w.heap.size,0,none⟩=some (.slice ao x.1.length ac)∧w'.cell? ⟨w.heap.size,1,none⟩=some (.slice bo x.2.length bc)) (first | exact HSE.out _ _ _ hw2 | exact cc2 | exact cc1 | exact CC0) (first
  | (go_at_call 123;have hold:=ht;refine (CX.out _ _ _ _ (by first | exact .inl ⟨rfl,rfl,rfl⟩ | exact .inr ⟨rfl,rfl,rfl⟩) hw1).mono ?_;rintro e w2 ⟨g2,c2,rfl,ht2,hg3,hg4,hk2,hw2⟩;have ht1:=hold.same hk2;obtain ⟨cc2,⟨rr1,rr2⟩,ff1,ff2⟩:=HS.out _ hw2)
  | (go_at_call 123;refine (CX.out _ _ _ _ (by first | exact .inl ⟨rfl,rfl,rfl⟩ | exact .inr ⟨rfl,rfl,rfl⟩) W1).mono ?_;rintro e w1 ⟨g,c,rfl,ht,hg1,hg2,hk,hw1⟩;obtain ⟨cc1,_⟩:=HS.out _ hw1))
 all_goals
  have y0:wb.drew.heap.size=wb.heap.size:=rfl;have y1:=hk2.size;have y2:=hw1.size;go_wp2
  first
   | exact bodyPost_ret (v:=.agg #[.slice (some ⟨g,0,none⟩) x.1.length c,.slice (some ⟨g2,0,none⟩) x.2.length c2]) (by obtain ⟨r0,r1⟩:=HR.out w2 (.slice (some ⟨g,0,none⟩) x.1.length c) (.slice (some ⟨g2,0,none⟩) x.2.length c2) hw2;simp [results,results81,go_sem,r0,r1]) rfl ⟨g,c,g2,c2,rfl,HT.out _ _ _ _ _ _ ht1 (by omega),HT.out _ _ _ _ _ _ ht2 (by omega),by omega,by omega,by omega,HE.out _ _ _ hw2⟩
   | exact bodyPost_ret (v:=.agg #[.slice (some ⟨g2,0,none⟩) x.1.length c2,.slice (some ⟨g,0,none⟩) x.2.length c]) (by obtain ⟨r0,r1⟩:=HR.out w2 (.slice (some ⟨g2,0,none⟩) x.1.length c2) (.slice (some ⟨g,0,none⟩) x.2.length c) hw2;simp [results,results81,go_sem,r0,r1]) rfl ⟨g2,c2,g,c,rfl,HT.out _ _ _ _ _ _ ht2 (by omega),HT.out _ _ _ _ _ _ ht1 (by omega),by omega,by omega,by omega,HE.out _ _ _ hw2⟩
def Z7 (w:World) (vs:List Value) (l:List Ru):Prop:=
 vs.length=l.length * 2∧∀ i (h:i<l.length),∃ g c g' c', vs[i * 2]? = some (.slice (some ⟨g,0,none⟩) l[i].1.length c)∧vs[i * 2+1]? = some (.slice (some ⟨g', 0,none⟩) l[i].2.length c')∧Yu w g c l[i].1∧Yu w g' c' l[i].2
theorem Yu.kept (h:Yu w g c xs) (hk:Zc S w w') (hS:∀ k,S k->∀ cur,w.heap[k]? ≠ some (.cells cur 3 (0,0))):Yu w' g c xs:=by
 refine hk.row h (λ k e hs=>?_)
 rcases h.2 with ⟨h0,_⟩ | ⟨g', c', cur,h1,_,hg,_⟩
 ·cases h0
 ·cases h1
  simp [Value.ownBlock] at e;subst e;exact hS _ hs _ hg
theorem Yu.arg (h:Yu w g c xs) (hx:xs.length<=2000):Arg w (some ⟨g,0,none⟩) xs c:=by
 obtain ⟨ao,cap,e,h1,h2,_⟩:=Row.ints h;simp only [Value.slice.injEq] at e;obtain ⟨rfl,_,rfl⟩:=e;exact ⟨h1,h2,(λ e=>by cases e),by omega⟩
theorem Z7.kept {vs:List Value} (h:Z7 w vs l) (hk:Zc S w w') (hS:∀ k,S k->∀ cur,w.heap[k]? ≠ some (.cells cur 3 (0,0))):Z7 w' vs l:=
 ⟨h.1,λ i hi=>by
  obtain ⟨g,c,g', c', h1,h2,h3,h4⟩:=h.2 i hi
  exact ⟨g,c,g', c', h1,h2,h3.kept hk hS,h4.kept hk hS⟩⟩
theorem Z7.same {vs:List Value} (h:Z7 w vs l) (hk:Za w w'):Z7 w' vs l:=h.kept hk (λ _ f=>f.elim)
theorem Z7.rcells {vs:List Value} (h:Z7 w vs l) (hl:∀ x∈l,x.1.length<=2000∧x.2.length<=2000):X8 w vs l:=
 ⟨h.1,λ i hi=>by
  obtain ⟨g,c,g', c', h1,h2,h3,h4⟩:=h.2 i hi;have:=hl _ (List.getElem_mem hi)
  exact ⟨_,_,_,_,h1,h2,h3.arg this.1,h4.arg this.2⟩⟩
theorem Z7.append {vs:List Value} (h:Z7 w vs l) (k:Z7 w us m):Z7 w (vs++us) (l++m):=by
 refine ⟨by simp [h.1,k.1];omega,λ i hi=>?_⟩
 by_cases hl:i<l.length
 ·rw [List.getElem_append_left hl,List.getElem?_append_left (by rw [h.1];omega),List.getElem?_append_left (by rw [h.1];omega)]
  exact h.2 i hl
 ·have hm:i-l.length<m.length:=by simp at hi;omega
  rw [List.getElem_append_right (by omega),List.getElem?_append_right (by rw [h.1];omega),List.getElem?_append_right (by rw [h.1];omega)];have e1:i * 2-vs.length=(i-l.length) * 2:=by rw [h.1];omega
  have e2:i * 2+1-vs.length=(i-l.length) * 2+1:=by rw [h.1];omega
  rw [e1,e2];exact k.2 _ hm
theorem Zq7 (cs:Array Value) (k:Nat) (A B:Value) (h:k * 2+1<cs.size):((cs.setIfInBounds (k * 2) A).setIfInBounds (k * 2+1) B).toList.take ((k+1) * 2)=cs.toList.take (k * 2) ++ [A,B]:=by
 obtain ⟨l⟩:=cs;simp only [List.size_toArray] at h;simp only [List.setIfInBounds_toArray];have e1:l.set (k * 2) A=l.take (k * 2)++A :: l.drop (k * 2+1):=by rw [List.set_eq_take_append_cons_drop,if_pos (by omega)]
 have e2:(l.take (k * 2)).length=k * 2:=by simp;omega
 have e3:l.drop (k * 2+1)=l[k * 2+1] :: l.drop (k * 2+2):=List.drop_eq_getElem_cons h
 have e4:((l.take (k * 2)++A :: l.drop (k * 2+1)).set (k * 2+1) B)=l.take (k * 2)++A :: B :: l.drop (k * 2+2):=by
  rw [e3,List.set_append_right _ _ (by omega),e2];have:k * 2+1-k * 2=1:=by omega
  rw [this];rfl
 have e5:(k+1) * 2=(l.take (k * 2)).length+2:=by omega
 rw [e1,e4,e5,List.take_length_add_append];rfl
theorem Z7.one {g' c':Nat} (h1:Yu w g c x.1) (h2:Yu w g' c' x.2):Z7 w [.slice (some ⟨g,0,none⟩) x.1.length c,.slice (some ⟨g', 0,none⟩) x.2.length c'] [x]:=
 ⟨rfl,λ i hi=>by
  obtain rfl:i=0:=by simp at hi;omega
  exact ⟨g,c,g', c', rfl,rfl,h1,h2⟩⟩
theorem Zfw (hl:Vh w lo l) (hn:l.length<=100) (hx:∀ x∈l,(0<x.1.length∧x.1.length<=2000)∧0<x.2.length∧x.2.length<=2000) :
  Calls prog 75 #[.slice lo l.length lc] w λ e w' => ∃ vs,e=.returned (.slice (some ⟨w.heap.size,0,none⟩) l.length l.length)∧w'.ownsRow w.heap.size 90 2 (.slice (some ⟨w.heap.size,0,none⟩) l.length l.length) l.length vs∧Z7 w' vs l∧Za w w' := by
 have i0:(0:Int)<=(l.length:Int):=by omega
 obtain ⟨Z,hZs,hmk⟩:∃ Z:Array Value,Z.size=l.length * 2∧∀ w:World,(Instr.makeSlice 29 (.int .i64 (l.length:Int)) (.int .i64 (l.length:Int))).run prog w=.ok (.slice (some ⟨w.heap.size,0,none⟩) l.length l.length) (w.alloc (.cells Z 90)):=by
  obtain ⟨i,hi,hz0,hz1,hz2⟩:=info_parts V5;refine ⟨madeCells (Value.agg #[.slice none 0 0,.slice none 0 0]).cells (l.length * 2),size_madeCells _ _,λ w=>?_⟩;have:=run_make w 29 90 i _ underlying29 hi hz0 .i64 .i64 (l.length:Int) (l.length:Int) (by omega) (by omega) (by rw [hz2];omega) (by omega)
  simpa [hz1] using this
 have K0:Za w (w.alloc (.cells Z 90)):=(Zc.refl _ w).alloc _;have G0:=heap_alloc_new w (.cells Z 90)
 go_enter func75,ntmps75
 go_wp2
 go_loopw [11] (λ i wr=>∃ (k:Nat) (cs:Array Value),k<=l.length∧i=.int .i64 (k:Int)∧wr.heap[w.heap.size]? = some (.cells cs 90 (0,0))∧Hid (cs.size=l.length * 2∧Z7 wr (cs.toList.take (k * 2)) (l.take k))∧Za w wr) (λ i _=>l.length-(intOf i).toNat)
 case atStart=>exact ⟨0,Z,Nat.zero_le _,rfl,G0,⟨hZs,by simp,λ i hi=>absurd hi (by simp)⟩,K0⟩
 case round=>
  clear G0 K0 hZs hmk;obtain ⟨k,cs,hk,rfl,hg,hO,hs⟩:=hrel
  by_cases hlt:k<l.length
  ·obtain ⟨gb,goff,rfl,hgb,go1,gc1,go2,gc2,r0,r1,A1,A2⟩:=(hl.same hs).get hlt
   have i1:(0:Int)<=(k:Int):=by omega
   have i2:(k:Int)<(l.length:Int):=by omega
   have hxk:=hx _ (List.getElem_mem hlt);have KA:Za wr (wr.alloc (.cells #[.slice go1 l[k].1.length gc1,.slice go2 l[k].2.length gc2] 90)):=Zal9;have CC:Calls prog 81 #[.agg #[.slice go1 l[k].1.length gc1,.slice go2 l[k].2.length gc2]] (wr.alloc (.cells #[.slice go1 l[k].1.length gc1,.slice go2 l[k].2.length gc2] 90)) _:=Zav (ac:=gc1) (bc:=gc2) (x:=l[k]) (A1.same KA).at' (A2.same KA).at' hxk.1.1 hxk.2.1 hxk.1.2 hxk.2.2
   obtain ⟨hcs,hO1⟩:=hO.out;have hb1:k * 2<cs.size:=by omega
   have hb2:k * 2+1<cs.size:=by omega
   have HF:Hid (∀ ww,Za wr ww->ww.heap[w.heap.size]? = some (.cells cs 90 (0,0))):=λ ww hk=>hk.at0 hg;obtain ⟨o0,e0⟩:∃ o0,cs[k * 2]? = some o0:=⟨_,Array.getElem?_eq_getElem hb1⟩;obtain ⟨o1,e1⟩:∃ o1,cs[k * 2+1]? = some o1:=⟨_,Array.getElem?_eq_getElem hb2⟩;have HI:Hid (∀ ww,Za wr ww->ww.cell? ⟨w.heap.size,k * 2,none⟩=some o0∧ww.cell? ⟨w.heap.size,k * 2+1,none⟩=some o1∧ww.frozen? ⟨w.heap.size,k * 2,none⟩=false∧ww.frozen? ⟨w.heap.size,k * 2+1,none⟩=false):=λ ww hk=>⟨(Zb (HF.out ww hk) _).trans e0,(Zb (HF.out ww hk) _).trans e1,Zg (HF.out ww hk) _,Zg (HF.out ww hk) _⟩
   have FIN:Hid (∀ w2 g c g' c', Za wr w2->Yu w2 g c l[k].1->Yu w2 g' c' l[k].2->∃ (k' : Nat) (cs:Array Value),k' <= l.length∧Value.int .i64 ((k:Int)+1)=.int .i64 (k' : Int)∧((w2.setCell ⟨w.heap.size,k * 2,none⟩ (.slice (some ⟨g,0,none⟩) l[k].1.length c)).setCell ⟨w.heap.size,k * 2+1,none⟩ (.slice (some ⟨g', 0,none⟩) l[k].2.length c')).heap[w.heap.size]? = some (.cells cs 90 (0,0))∧Hid (cs.size=l.length * 2∧Z7 ((w2.setCell ⟨w.heap.size,k * 2,none⟩ (.slice (some ⟨g,0,none⟩) l[k].1.length c)).setCell ⟨w.heap.size,k * 2+1,none⟩ (.slice (some ⟨g', 0,none⟩) l[k].2.length c')) (cs.toList.take (k' * 2)) (l.take k'))∧Za w ((w2.setCell ⟨w.heap.size,k * 2,none⟩ (.slice (some ⟨g,0,none⟩) l[k].1.length c)).setCell ⟨w.heap.size,k * 2+1,none⟩ (.slice (some ⟨g', 0,none⟩) l[k].2.length c'))):=by
    intro w2 g c g' c' h2 t1 t2;have hg2:=HF.out w2 h2;have ks:Zc (λ k=>k=w.heap.size) w2 ((w2.setCell ⟨w.heap.size,k * 2,none⟩ (.slice (some ⟨g,0,none⟩) l[k].1.length c)).setCell ⟨w.heap.size,k * 2+1,none⟩ (.slice (some ⟨g', 0,none⟩) l[k].2.length c')):=Zc.setCell (p:=⟨w.heap.size,k * 2+1,none⟩) (Zc.setCell (p:=⟨w.heap.size,k * 2,none⟩) (Zc.refl (λ k=>k=w.heap.size) w2) (λ _=>rfl) _) (λ _=>rfl) _;have ty:∀ q,q=w.heap.size->∀ cur,w2.heap[q]? ≠ some (.cells cur 3 (0,0)):=λ q e cur h=>by subst e;rw [hg2] at h;cases h
    have hO2:=((hO1.same h2).kept ks ty).append (Z7.one (t1.kept ks ty) (t2.kept ks ty));refine ⟨k+1,_,by omega,by congr 1,Zt (Zt hg2 _ _) _ _,⟨by simp [hcs],?_⟩,?_⟩
    ·rw [Zq7 _ _ _ _ hb2,List.take_add_one,List.getElem?_eq_getElem hlt]
     exact hO2
    ·exact Zc.trans (hs.trans' h2) ks (λ i hi e=>by omega)
   clear hO hO1 hcs hb1 hb2 e0 e1 hg hxk A1 A2 hx hl
   go_wp2_with ((go_at_call 81;refine CC.mono ?_;rintro e w2 ⟨g,c,g', c', rfl,t1,t2,_,_,_,hk2⟩;obtain ⟨q1,q2,q3,q4⟩:=HI.out _ (KA.trans' hk2)))
   exact ⟨FIN.out w2 g c g' c' (KA.trans' hk2) t1 t2,by simp [intOf];omega⟩
  ·obtain rfl:k=l.length:=by omega
   obtain ⟨hcs,hO1⟩:=hO.out;rw [List.take_length] at hO1;have RW:Hid (wr.ownsRow w.heap.size 90 2 (.slice (some ⟨w.heap.size,0,none⟩) l.length l.length) l.length (cs.toList.take (l.length * 2))):=⟨by simp [hcs],.inr ⟨w.heap.size,l.length,cs,rfl,Nat.le_refl _,hg,Nat.le_refl _,by unfold maxLen;omega,hcs,rfl⟩⟩;have OC:Hid (Z7 wr (cs.toList.take (l.length * 2)) l):=hO1;clear hO hO1 hcs hg;go_wp2;go_ret;exact ⟨_,rfl,RW.out,OC.out,hs⟩
structure X6 (w:World) (b bs:Nat) (L:List Sym) (R:List Ru) (lv:Value) (vs:List Value):Prop where
 blk:w.heap[b]? = some (.cells #[.pointer (some ⟨bs,0,none⟩),lv] 113 (0,0))
 sig:Sg w.heap.size w bs L
 row:w.ownsRow 0 90 2 lv R.length vs
 own:Z7 w vs R
 le:R.length<=100
 ok:∀ x∈R,Zd L x.1=0∧Zd L x.2=0
theorem Yr (h:Zd L x.1=0∧Zd L x.2=0):(0<x.1.length∧x.1.length<=2000)∧0<x.2.length∧x.2.length<=2000:=by
 obtain ⟨a1,_,a2⟩:=Ze.1 h.1;obtain ⟨b1,_,b2⟩:=Ze.1 h.2;exact ⟨⟨Z2 a2,a1⟩,Z2 b2,b1⟩
theorem X6.rc {vs:List Value} (h:X6 w b bs L R lv vs):X8 w vs R:=
 h.own.rcells (λ x hx=>⟨(Yr (h.ok x hx)).1.2,(Yr (h.ok x hx)).2.2⟩)
theorem X6.read {vs:List Value} (h:X6 w b bs L R lv vs):∃ ro rc,lv=.slice ro R.length rc∧StR w b bs ro rc L R:=by
 obtain ⟨ao,cap,rfl,h1,h2,_⟩:=J9 h.row h.rc;exact ⟨ao,cap,rfl,h.blk,h.sig,h1,h2,h.le,λ x hx=>(h.ok x hx).1⟩
def Zz1 (w:World) (b:Nat) (lv:Value) (k:Nat):Prop:=k=b∨lv.ownBlock=some k
def Zz0 (w:World) (k:Nat):Prop:=(∃ c,w.heap[k]? = some (.cells c 113 (0,0)))∨∃ c,w.heap[k]? = some (.cells c 90 (0,0))
theorem Yb {e:TypeId} {size:Nat} {xs:List Value} (h:w.ownsRow base e size v n xs) (hk:v.ownBlock=some k):∃ c,w.heap[k]? = some (.cells c e (0,0)):=by
 rcases h.2 with ⟨rfl,_⟩ | ⟨g,cap,cur,rfl,_,hg,_⟩
 ·cases hk
 ·simp [Value.ownBlock] at hk;subst hk;exact ⟨cur,hg⟩
theorem X6.isSt {vs:List Value} (h:X6 w b bs L R lv vs):∀ k,Zz1 w b lv k->Zz0 w k:=by
 rintro k (rfl | e)
 ·exact .inl ⟨_,h.blk⟩
 ·exact .inr (Yb h.row e)
theorem Zz0.no_int (h:Zz0 w k):∀ cur,w.heap[k]? ≠ some (.cells cur 3 (0,0)):=by
 intro cur e
 rcases h with ⟨c,h⟩ | ⟨c,h⟩ <;> (rw [h] at e;cases e)
theorem Zz0.no_sig {sv:Value} {mr:Option Nat} (h:Zz0 w k) (hs:Yc w b L sv mr):¬ Foot b sv mr k:=by
 rintro (e | e | e)
 ·subst e
  have:=hs.blk
  rcases h with ⟨c,h⟩ | ⟨c,h⟩ <;> (rw [h] at this;cases this)
 ·obtain ⟨c', this⟩:=Yb hs.row e
  rcases h with ⟨c,h⟩ | ⟨c,h⟩ <;> (rw [h] at this;cases this)
 ·subst e
  obtain ⟨n,D,hm,_⟩:=hs.map;obtain ⟨es,clock,this,_⟩:=hm
  rcases h with ⟨c,h⟩ | ⟨c,h⟩ <;> (rw [h] at this;cases this)
theorem Sg.kept_ty (h:Sg n w b L) (hk:Zc S w w') (hS:∀ k,S k->Zz0 w k):Sg n w' b L:=by
 obtain ⟨⟨sv,mr,h1,h2⟩,h3⟩:=h;exact ⟨⟨sv,mr,h1.kept hk (λ k e s=>(hS k s).no_sig h1 e),h2⟩,h3⟩
theorem Za.mono' (h:Za w w'):Zc S w w' := h.mono (λ _ _ f=>f.elim)
theorem X6.same {vs:List Value} (h:X6 w b bs L R lv vs) (hk:Za w w'):X6 w' b bs L R lv vs:=
 ⟨hk.at0 h.blk,Zbs (h.sig.same hk) hk.size,hk.row h.row (λ _ _ f=>f),h.own.same hk,h.le,h.ok⟩
theorem Yn {f:FuncId} {args:Array Value} {R:Ending->World->Prop} (hgd:o.guard=none)
  (c:Calls prog f args w R) (hrun:(execOp a.eval o).run prog w=.ok (.enter f args) w) (hR:∀ e w', R e w' -> ∃ v,e=.returned v∧(K (a.put o.dst v) w')) :
  if Region.wanted o (yielded ops a.tmps)=true then Oper.wp prog o a w K Q else E:=by
 have hw:Region.wanted o (yielded ops a.tmps)=true:=by simp [Region.wanted,hgd]
 rw [if_pos hw];unfold Oper.wp;rw [hrun,Oper.upon_enter];refine c.mono λ e w' h=>?_;obtain ⟨v,rfl,h2⟩:=hR e w' h;exact h2
theorem Zre (ty:TypeId) {vs:List Value} (hr:w0.ownsRow base 90 2 v N vs) {ad:Addr} {m:Nat} (hl:us.length=m * 2) (hu:∀ j u,us[j]? = some u->w0.cell? (ad.add j)=some u) (h1:∀ u∈us,u.oneCell' = true) (hb:base<=w0.heap.size) (hsz:N+m<=1000) :
  ∃ v' w', (Builtin.append_ #[29,29] ty #[v,.slice (some ad) m c]).run prog w0=.ok v' w' ∧ w'.ownsRow base 90 2 v' (N+m) (vs++us)∧Zc (λ k=>v.ownBlock=some k) w0 w' ∧ ∀ k,v'.ownBlock=some k->v.ownBlock=some k∨w0.heap.size<=k:=by
 obtain ⟨i,hi,hz0,hz1,hz2⟩:=info_parts V5
 by_cases hm:0<m
 ·obtain ⟨g,cap,w', q1,q2,q3,q4,_⟩:=run_append_lies (P:=prog) w0 29 ty base 90 i _ 2 48 underlying29 hi hz0 hz1 hz2 rfl (by decide) v N vs hr ad m c us hl hu h1 hm (by unfold maxLen;omega) (by omega) hb w0.heap.size rfl
  refine ⟨_,w', q1,q2,Zc.grown (Zc.refl _ w0) q3 (λ _ e _=>e),λ k e=>?_⟩;simp [Value.ownBlock] at e;subst e;exact q4.imp id (λ e=>by omega)
 ·obtain rfl:m=0:=by omega
  obtain ⟨v', w', q1,q2,q3,q4⟩:=run_append_own (P:=prog) w0 base 29 ty 90 i _ 2 48 underlying29 hi hz0 hz1 hz2 rfl (by decide) v N vs hr ad 0 c us hl hu h1 (by unfold maxLen;omega) (by omega) hb;refine ⟨v', w', q1,q2,Zc.grown (Zc.refl _ w0) q3 (λ _ e _=>e),λ k e=>.inl ?_⟩
  rcases hr.2 with ⟨rfl,h0⟩ | ⟨g,cap,cur,rfl,_,hg,g1,g2,g3,g4⟩
  ·rw [q4.2 ⟨rfl,rfl⟩] at e;cases e
  ·have e0:us=[]:=List.eq_nil_of_length_eq_zero (by omega)
   subst e0;have:=run_append_room (P:=prog) w0 29 ty 90 i underlying29 hi g N cap cur hg ad 0 c [] (by simp) (by simp) (by simp) (by omega) (by rw [hz1,g3];simp;omega);rw [q1] at this;simp only [Result.ok.injEq] at this;rw [this.1] at e;exact e
theorem Zqb (hgd:o.guard=none) (s x:Operand)
  (ho:o.op=.call { callee:=.builtin .append,args:=#[s,x],argTypes:=#[29,29] })
  (base N:Nat) (vs:List Value) (v:Value) (hs:a.eval s=v) (hr:w0.ownsRow base 90 2 v N vs) (ad:Addr) (m c:Nat) (us:List Value) (hx:a.eval x=.slice (some ad) m c) (hl:us.length=m * 2) (hu:∀ j u,us[j]? = some u->w0.cell? (ad.add j)=some u) (h1:∀ u∈us,u.oneCell' = true) (hb:base<=w0.heap.size) (hsz:N+m<=1000)
  (h:∀ v' w', w'.ownsRow base 90 2 v' (N+m) (vs++us)->Zc (λ k=>v.ownBlock=some k) w0 w' -> (∀ k,v'.ownBlock=some k->v.ownBlock=some k∨w0.heap.size<=k)->K (a.put o.dst v') w') :
  if Region.wanted o (yielded ops a.tmps)=true then Oper.wp prog o a w0 K Q else E:=by
 have hw:Region.wanted o (yielded ops a.tmps)=true:=by simp [Region.wanted,hgd]
 rw [if_pos hw];obtain ⟨v', w', hr1,hr2,hr3,hr4⟩:=Zre (c:=c) o.type hr hl hu h1 hb hsz;exact Lib.wp_append_run w0 s x 29 29 ho _ _ hs hx v' w' hr1 (h v' w' hr2 hr3 hr4)
theorem Zy5 (w:World):(binOp .neq 46 .nilIface .nilIface).run prog w=.ok (.bool false) w:=by kernel_rfl
theorem Zxo (v:Value) (w:World):(binOp .neq 46 (.iface 114 v) .nilIface).run prog w=.ok (.bool true) w:=by kernel_rfl
theorem Ans.flt {ws:List (Int × Int)} (h:Ans L R l ws) (hf:Zn w ws v):(ws=[]∧v=.nilIface)∨(ws≠[]∧∃ k,v=.iface 114 (.pointer (some ⟨k,0,none⟩))):=by
 rcases h with ⟨rfl,_⟩ | ⟨j,n,_,_,_,_,rfl⟩
 ·exact .inl ⟨rfl,hf⟩
 ·refine .inr ⟨Zez _ _ _ _ _,?_⟩
  unfold Xm at hf
  have key:∀ {c:Int} {r:List (Int × Int)},Zn w ((c,(n:Int)) :: r) v->∃ k,v=.iface 114 (.pointer (some ⟨k,0,none⟩)):=by
   intro c r h
   rcases h with ⟨e,_⟩ | ⟨_,k,u,e,_⟩
   ·omega
   ·exact ⟨k,e⟩
  split at hf
  ·exact key hf
  ·split at hf
   ·exact key hf
   ·exact key hf
def Zxu (L:List Sym) (R l:List Ru) (b bs:Nat) (lv:Value) (w:World) (e:Ending) (w' : World):Prop:=
 ∃ ws v,e=.returned v∧Ans L R l ws∧Zn w' ws v∧ws.length<=2∧(ws≠[]->Za w w')∧(ws=[]->∃ lv' vs', X6 w' b bs L (R++l) lv' vs' ∧ Zc (Zz1 w b lv) w w' ∧ ∀ k,lv'.ownBlock=some k->lv.ownBlock=some k∨w.heap.size<=k)
theorem Ans.fit (h:Ans L R l []) (hR:R.length<=100):R.length+l.length<=100∧∀ x∈l,Zd L x.1=0∧Zd L x.2=0:=by
 refine ⟨?_,λ x hx=>?_⟩
 ·by_cases h0:l.length=0
  ·omega
  ·have:=h.nil 0 (by omega) 0 (by omega)
   simpa [ckB,Kw] using this
 ·obtain ⟨i,hi,rfl⟩:=List.mem_iff_getElem.1 hx
  have:=h.nil 1 (by omega) i hi;simp only [ckB,Kw,Bool.and_eq_true,decide_eq_true_eq] at this
  simpa [List.getD,hi] using this
theorem Zj7 {vs:List Value} (h:X6 w b bs L R lv vs) (hl:Vh w lo l) (hll:l.length<=140737488355328) (hlc:l.length<=lc) :
  Calls prog 46 #[.pointer (some ⟨b,0,none⟩),.slice lo l.length lc] w (Zxu L R l b bs lv w):=by
 obtain ⟨ro,rc,rfl,hR⟩:=h.read;have C:=Zpz hR hl hll hlc;have hn:=Zy5;have hf:=Zxo;unfold Zti at C
 go_enter func46,ntmps46
 go_upto_region 2 with ((go_at_call 82;refine C.mono ?_;rintro e w1 ⟨ws,v,rfl,hA,hv,hws,hk1⟩))
 rcases hA.flt hv with ⟨rfl,rfl⟩ | ⟨hne,k,rfl⟩
 ·have A0:Hid (Ans L R l []):=hA
  obtain ⟨hsz,hok⟩:=hA.fit h.le;have h1:=h.same hk1;have hl1:=hl.same hk1;have CC:Hid (∀ ww,Za w1 ww->Calls prog 75 #[.slice lo l.length lc] ww λ e w' => ∃ us,e=.returned (.slice (some ⟨ww.heap.size,0,none⟩) l.length l.length)∧w'.ownsRow ww.heap.size 90 2 (.slice (some ⟨ww.heap.size,0,none⟩) l.length l.length) l.length us∧Z7 w' us l∧Za w1 w'):=λ ww hk=>(Zfw (hl1.same hk) (by omega) (λ x hx=>Yr (hok x hx))).mono (λ e w' ⟨us,q1,q2,q3,q4⟩=>⟨us,q1,q2,q3,hk.trans' q4⟩);have HB:Hid (∀ ww,Za w1 ww->ww.cell? ⟨b,1,none⟩=some (.slice ro R.length rc)∧ww.ownsRow 0 90 2 (.slice ro R.length rc) R.length vs):=λ ww hk=>⟨Zb (h1.same hk).blk 1,(h1.same hk).row⟩;have HU:Hid (∀ w2 g us,w2.ownsRow g 90 2 (.slice (some ⟨g,0,none⟩) l.length l.length) l.length us->Z7 w2 us l->us.length=l.length * 2∧(∀ j u,us[j]? = some u->w2.cell? ((⟨g,0,none⟩:Addr).add j)=some u)∧∀ u∈us,u.oneCell' = true):=λ w2 g us r o=>⟨o.1,r.cells rfl,(o.rcells (λ x hx=>⟨(Yr (hok x hx)).1.2,(Yr (hok x hx)).2.2⟩)).one⟩
  have HC7:Hid (∀ w2 w7,Za w1 w2->Zc (λ k=>(Value.slice ro R.length rc).ownBlock=some k) w2 w7->w7.cell? ⟨b,1,none⟩=some (.slice ro R.length rc)∧w7.frozen? ⟨b,1,none⟩=false):=λ w2 w7 k1 k2=>by
   have h2:=h1.same k1
   have b7:=k2.at h2.blk (λ e=>by
    obtain ⟨c,hc⟩:=Yb h2.row e
    rw [h2.blk] at hc;cases hc)
   exact ⟨Zb b7 1,Zg b7 1⟩
  have FIN:Hid (∀ w2 w7 us vo vc,Za w1 w2->Z7 w2 us l->w7.ownsRow 0 90 2 (.slice vo (R.length+l.length) vc) (R.length+l.length) (vs++us)->Zc (λ k=>(Value.slice ro R.length rc).ownBlock=some k) w2 w7->(∀ k,(Value.slice vo (R.length+l.length) vc).ownBlock=some k->(Value.slice ro R.length rc).ownBlock=some k∨w2.heap.size<=k)->∃ lv' vs', X6 (w7.setCell ⟨b,1,none⟩ (.slice vo (R.length+l.length) vc)) b bs L (R++l) lv' vs' ∧ Zc (Zz1 w b (.slice ro R.length rc)) w (w7.setCell ⟨b,1,none⟩ (.slice vo (R.length+l.length) vc))∧∀ k,lv'.ownBlock=some k->(Value.slice ro R.length rc).ownBlock=some k∨w.heap.size<=k):=by
   intro w2 w7 us vo vc k1 o2 r7 k7 hat;have h2:=h1.same k1;have k0:Za w w2:=hk1.trans' k1;have ks:Zc (Zz1 w b (.slice ro R.length rc)) w2 (w7.setCell ⟨b,1,none⟩ (.slice vo (R.length+l.length) vc)):=Zc.setCell (p:=⟨b,1,none⟩) (k7.mono (S' := Zz1 w b (.slice ro R.length rc)) (λ _ _ e=>.inr e)) (λ _=>.inl rfl) _
   have b7:w7.heap[b]? = some (.cells #[.pointer (some ⟨bs,0,none⟩),.slice ro R.length rc] 113 (0,0)):=k7.at h2.blk (λ e=>by
    obtain ⟨c,hc⟩:=Yb h2.row e
    rw [h2.blk] at hc;cases hc)
   have ty:=λ k e=>(h2.isSt k e).no_int
   have hok2:∀ x∈R++l,Zd L x.1=0∧Zd L x.2=0:=λ x hx=>by
    rcases List.mem_append.1 hx with q | q
    ·exact h.ok x q
    ·exact hok x q
   refine ⟨.slice vo (R.length+l.length) vc,vs++us,⟨Zt b7 1 _,Zbs (h2.sig.kept_ty ks h2.isSt) ks.size,?_,(h2.own.kept ks ty).append (o2.kept ks ty),by simp;omega,hok2⟩,Zc.trans k0.mono' ks (λ _ _ e=>e),λ k e=>(hat k e).imp id (λ q=>by have:=k0.size;omega)⟩;rw [List.length_append];have kb:Zc (λ k=>k=b) w7 (w7.setCell ⟨b,1,none⟩ (.slice vo (R.length+l.length) vc)):=Zc.setCell (p:=⟨b,1,none⟩) (Zc.refl (λ k=>k=b) w7) (λ _=>rfl) _
   exact kb.row r7 (λ k e q=>by
    subst q;obtain ⟨c,hc⟩:=Yb r7 e
    rw [b7] at hc;cases hc)
  clear hA hv C h hl hR h1 hl1 hok;obtain ⟨c1,_⟩:=HB.out w1 (Zc.refl _ _);go_wp2
  go_region_law (first
   | (refine Zqb (by rfl) _ _ (by rfl) 0 R.length vs (.slice ro R.length rc) (by rfl) r2 ⟨_,0,none⟩ l.length l.length us (by rfl) u1 u2 u3 (Nat.zero_le _) (by omega) ?_;intro v7 w7 r7 k7 hat7;obtain ⟨vo,vc,rfl⟩:=Zf r7;obtain ⟨c7,f7⟩:=HC7.out w2 w7 k2 k7)
   | (refine Yn rfl (CC.out _ (Zc.drew (Zc.refl _ _))) (by simp [go_sem]) ?_;rintro e w2 ⟨us,rfl,rr2,o2,k2⟩;refine ⟨_,rfl,?_⟩;obtain ⟨c2,r2⟩:=HB.out w2 k2;obtain ⟨u1,u2,u3⟩:=HU.out _ _ _ rr2 o2))
  all_goals
   have FF:Hid (∃ lv' vs', X6 (w7.setCell ⟨b,1,none⟩ (.slice vo (R.length+l.length) vc)) b bs L (R++l) lv' vs' ∧ Zc (Zz1 w b (.slice ro R.length rc)) w (w7.setCell ⟨b,1,none⟩ (.slice vo (R.length+l.length) vc))∧∀ k,lv'.ownBlock=some k->(Value.slice ro R.length rc).ownBlock=some k∨w.heap.size<=k):=FIN.out w2 w7 us vo vc k2 o2 r7 k7 hat7;clear c1 c2 r2 u1 u2 u3 rr2 o2 r7 k7 c7 f7 hat7;go_wp2;go_ret;exact ⟨[],_,rfl,A0.out,rfl,by simp,λ q=>absurd rfl q,λ _=>FF.out⟩
 ·have A0:Hid (Ans L R l ws):=hA
  clear C hA;go_wp2;go_ret;exact ⟨ws,_,rfl,A0.out,hv,hws,λ _=>hk1,λ e=>absurd e hne⟩
end
section
open Go.RowKit Go.Shelf
attribute [local go_sem] Oper.semAt_some
def RuLk (R:List Ru) (k:Nat) (vs:Array Value) (W:World):Prop:=
 ∃ (h:k<R.length) (g c g' c' : Nat),vs = #[.int .i64 (k:Int),.agg #[.slice (some ⟨g,0,none⟩) R[k].1.length c,.slice (some ⟨g', 0,none⟩) R[k].2.length c']]∧Yu W g c R[k].1∧Yu W g' c' R[k].2
theorem Zhu (F:Fence) (n:Nat) (h22:F.fn 45) (hro:F.round=none) (p0:Option Addr) (w:World) :
  CallsIn F n prog 45 #[.pointer p0] w λ e w' => e=.returned (.func (.func 80) #[] #[.pointer (some ⟨w.heap.size,0,none⟩)])∧w' = w.alloc (.cells #[.pointer p0] 43):=by
 refine callsIn_of_wp func45 rfl h22 ?_ hro;simp only [ntmps45,List.size_toArray,List.length_cons,List.length_nil,Nat.reduceAdd,Nat.reduceSub,Array.replicate_succ,Array.replicate_zero,List.push_toArray,List.append_toArray,List.nil_append,List.cons_append]
 gi_wp2
 go_ret;exact ⟨rfl,rfl⟩
theorem Zd8 {wx:World} {vs:List Value} (hst:X6 w b bs L R lv vs) (hwx:Za w wx) {Bn:Nat} (hbx:wx.cell? ⟨Bn,0,none⟩=some (.pointer (some ⟨b,0,none⟩))) (hn:1<=n) :
  Hands Fence.wide n prog 80 #[.pointer (some ⟨Bn,0,none⟩)] w.heap.size R.length (RuLk R) wx:=by
 intro l J W hW hJ hY h0;have hFn:∀ k,Fence.wide.fn k:=λ _=>trivial;have KW:Za w W:=hwx.trans' hW;have s1:W.cell? ⟨Bn,0,none⟩=some (.pointer (some ⟨b,0,none⟩)):=(hW.cell (p:=⟨Bn,0,none⟩) (World.block_lt_of_cell? _ _ hbx) (λ f=>f)).trans hbx;obtain ⟨ro,rc,rfl,hrd⟩:=hst.read;have hle:=hst.le
 have ST:Hid (∀ X,Za w X->X.cell? ⟨b,1,none⟩=some (.slice ro R.length rc)∧Vh X ro R):=λ X hk=>by
  have h1:=hst.same hk;exact ⟨Zb h1.blk 1,hrd.rs.same hk⟩
 have OK:Hid (∀ x∈R,(0<x.1.length∧x.1.length<=2000)∧0<x.2.length∧x.2.length<=2000):=λ x hx=>Yr (hst.ok x hx);obtain ⟨s2,_⟩:=ST.out W KW;have hpn:∀ ww:World,(binOp .eql 43 (.pointer (some ⟨b,0,none⟩)) (.pointer none)).run prog ww=.ok (.bool false) ww:=λ ww=>by kernel_rfl
 clear hst hrd;refine callsIn_of_wp func80 rfl trivial ?_ rfl;simp only [ntmps80,List.size_toArray,List.length_cons,List.length_nil,Nat.reduceAdd,Nat.reduceSub,Array.replicate_succ,Array.replicate_zero,List.push_toArray,List.append_toArray,List.nil_append,List.cons_append]
 gi_wp2_with fail
 gi_loopw [12] (λ i wr=>∃ k:Nat,k<=R.length∧i=.int .i64 k∧Za w wr∧J k wr) (λ i _=>R.length-(intOf i).toNat)
 case atStart=>exact ⟨0,Nat.zero_le _,rfl,KW,h0⟩
 case round=>
  clear s1 s2;obtain ⟨k,hk,rfl,hs,hj⟩:=hrel
  by_cases hlt:k<R.length
  ·obtain ⟨s2,s3⟩:=ST.out wr hs
   obtain ⟨gb,goff,rfl,hgb,ao,ac,bo,bc,r0,r1,A1,A2⟩:=s3.get hlt;have i1:(0:Int)<=(k:Int):=by omega
   have i2:(k:Int)<(R.length:Int):=by omega
   obtain ⟨⟨p1,m1⟩,p2,m2⟩:=OK.out R[k] (List.getElem_mem hlt);obtain ⟨wa,hwa⟩:∃ wa,wa=wr.alloc (.cells #[.slice ao R[k].1.length ac,.slice bo R[k].2.length bc] 90):=⟨_,rfl⟩;have ka:Za wr wa:=by rw [hwa];exact Zal9
   have hx:wa.heap[wr.heap.size]? = some (.cells #[.slice ao R[k].1.length ac,.slice bo R[k].2.length bc] 90 (0,0)):=by rw [hwa];exact heap_alloc_new _ _
   have y0:=Zb hx 0;have y1:=Zb hx 1;simp only [List.getElem?_toArray,List.getElem?_cons_zero,List.getElem?_cons_succ] at y0 y1;have CC:=(callsIn_wide (n:=n-1)).2 (Zav (ac:=ac) (bc:=bc) (x:=R[k]) (A1.same ka).at' (A2.same ka).at' p1 p2 m1 m2);have HYY:Hid (∀ X vs,J k X->RuLk R k vs X->YieldAt Fence.wide (n-1) prog l vs X λ e Y=>e=.returned (.bool true)∧J (k+1) Y∧Below w.heap.size X Y):=λ X vs h1 h2=>hY k vs X hlt h1 h2;have HJJ:Hid (∀ X,Za wr X->J k X):=λ X h1=>hJ k wr X hj h1
   gi_wp2_with (gi_at_call 81;rw [<- hwa];refine CC.mono ?_;rintro e w3 ⟨g,c,g', c', rfl,t1,t2, -, -, -,k3⟩;obtain ⟨fn,tmps,asg,bdy,hy,hR⟩:=HYY.out w3 _ (HJJ.out w3 (ka.trans' k3)) ⟨hlt,g,c,g', c', rfl,t1,t2⟩)
   refine hR.mono ?_;rintro e w4 ⟨rfl,hj4,hb4⟩;have hs4:Za w w4:=Za.of_below ((hs.trans' (ka.trans' k3)).below.trans hb4);clear hR hy HYY HJJ CC y0 y1 hx t1 t2
   gi_wp2_with fail
   go_roundw
   case rel=>exact ⟨k+1,by omega,by go_num,hs4,hj4⟩
   case measure=>simp [intOf];omega
  ·obtain rfl:k=R.length:=by omega
   gi_wp2_with fail
   go_end0
   exact ⟨⟨_,rfl⟩,hj⟩
theorem Zw5 (F:Fence) (n:Nat) (h22:F.fn 23) (hro:F.round=none) (p0:Option Addr) (w:World) :
  CallsIn F n prog 23 #[.pointer p0] w λ e w' => e=.returned (.func (.func 51) #[] #[.pointer (some ⟨w.heap.size,0,none⟩)])∧w' = w.alloc (.cells #[.pointer p0] 41):=by
 refine callsIn_of_wp func23 rfl h22 ?_ hro;simp only [ntmps23,List.size_toArray,List.length_cons,List.length_nil,Nat.reduceAdd,Nat.reduceSub,Array.replicate_succ,Array.replicate_zero,List.push_toArray,List.append_toArray,List.nil_append,List.cons_append]
 gi_wp2
 go_ret;exact ⟨rfl,rfl⟩
def SyLk (L:List Sym) (k:Nat) (vs:Array Value) (W:World):Prop:=∃ h:k<L.length,vs = #[.int .i64 (k:Int),symV L[k]]
end
end Go.Proofs.YtmjgnfkbnofjoaaGreatDoor
