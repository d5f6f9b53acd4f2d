import Derived.Test.YtblgblgchkonhaaGreatGB05
import Derived.Test.YtblgblgchkonhaaGreatGB04
import Derived.Test.YtblgblgchkonhaaGreatGB03
import Derived.Test.YtblgblgchkonhaaGreatGB01
import Derived.RangeFuncNested
import Derived.RangeFuncLeaves
import Derived.RangeFuncBox
import Derived.Shelf.Abstract
import Derived.OwnWalkIn
import Derived.TacticsInMore
import Derived.LoopNIn
import Derived.LoopIn
import Derived.Sort.CutIn
import Derived.Deep.RegionHeld3
import Derived.Maps.OwnIn
import Derived.Test.YtblgblgchkonhaaGreatGB02
import Derived.Deep.RegionLaw
namespace Go.Proofs.YtblgblgchkonhaaGreat
set_option maxRecDepth 100000
set_option linter.unusedVariables false
open Go.RowKit
attribute [local go_sem ↓] Go.wp_at_zero Go.wp_at_succ
set_option maxHeartbeats 300000 in
theorem shaped_any {w:World} {ao:Option Addr} {ac:Nat} {l:List Nd} (h:NsW w ao l) (hN:l.length≤4000) :
  Calls Tryz.prog 54 #[.slice ao l.length ac] w fun e w' => e=.returned (.bool (l.all (mayB l.length)))∧Same0 w w' := by
 have HL:Hid (∀ ww,Same0 w ww→NsW ww ao l):=fun ww hk=>h.same hk
 have KR:Same0 w w:=Kept.refl _ _
 have HNO:Hid (∀ k (hk:k<l.length),mayB l.length l[k]=false→l.all (mayB l.length)=false):=fun k hk e=>by
  rw [Bool.eq_false_iff]
  intro q
  rw [List.all_eq_true] at q
  rw [q _ (List.getElem_mem hk)] at e
  cases e
 clear h
 go_enter Tryz.func54,Tryz.ntmps54
 go_wp2
 go_loopw [7] (fun i wr=>∃ (k:Nat),i=.int .i64 (k:Int)∧k≤l.length∧Hid (∀ j (hj:j<l.length),j<k→mayB l.length l[j]=true)∧Same0 w wr) (fun i _=>l.length-(intOf i).toNat)
 case atStart=>exact ⟨0,rfl,Nat.zero_le _,fun j _ hj=>absurd hj (Nat.not_lt_zero _),KR⟩
 case round=>
  clear KR
  obtain ⟨k,rfl,hk,hall,hw⟩:=hrel
  by_cases hlt:k<l.length
  ·have j1:(k:Int)<(l.length:Int):=by omega
   have j2:(0:Int)≤(k:Int):=by omega
   rcases HL.out wr hw with e | ⟨nb,noff,e,hnb,hn⟩
   ·subst e;simp at hlt
   subst e
   obtain ⟨xo,xc,n0,n1,n2,n3,n4,n5⟩:=hn k hlt
   obtain ⟨W3,hW3⟩:∃ W3,W3=wr.alloc (.cells #[.int .i64 l[k].1,.slice xo l[k].2.1.length xc,.int .i64 l[k].2.2.1,.bool l[k].2.2.2.1,.int .i64 l[k].2.2.2.2] 76):=⟨_,rfl⟩
   have kb:Same0 wr W3:=by rw [hW3];exact (Kept.refl _ _).alloc _
   obtain ⟨x0,x1,x2,x3,x4⟩:=box_node' wr l[k] xo xc (show Same0 _ W3 by rw [hW3];exact Kept.refl _ _)
   have n6:=n5.onto kb
   have HBX:Hid (∀ ww,Same0 W3 ww→ww.cell? ⟨wr.heap.size,3,none⟩=some (.bool l[k].2.2.2.1)):=fun ww hk=>(box_node' wr l[k] xo xc (by rw [hW3] at hk;exact hk)).2.2.2.1
   have HN:=HNO.out k hlt
   have HKW:Hid (∀ ww,Same0 W3 ww→Same0 w ww):=fun ww hk=>(hw.trans' kb).trans' hk
   have HY:Hid (mayB l.length l[k]=true→Hid (∀ j (hj:j<l.length),j<k+1→mayB l.length l[j]=true)):=fun e j hj hjk=>by
    by_cases q:j=k
    ·subst q;exact e
    ·exact hall.out j hj (by omega)
   clear n5 kb hn hall
   generalize l[k]=y at *
   obtain ⟨ys,ya,ym,yp,yt⟩:=y
   simp only at *
   cases yp
   ·have CA:=isApp_any (x:=(ys,ya,ym,false,yt)) n6 rfl l.length
    clear n6
    generalize mayB l.length (ys,ya,ym,false,yt)=M at *
    go_upto_region 4 with fail
    rw [← hW3]
    clear hW3 n0 n1 n2 n3 n4
    cases M
    ·have HF:Hid (l.all (mayB l.length)=false):=HN rfl
     clear HN
     go_wp2_with (first | (go_at_call 81;refine CA.mono ?_;rintro e w5 ⟨rfl,k5⟩;have z3:=HBX.out w5 k5))
     go_ret
     exact ⟨ret_bool HF.out.symm,HKW.out _ k5⟩
    ·have HY2:=HY.out (by first | rfl | trivial)
     clear HN HY
     go_wp2_with (first | (go_at_call 81;refine CA.mono ?_;rintro e w5 ⟨rfl,k5⟩;have z3:=HBX.out w5 k5))
     have hw5:=HKW.out _ k5
     go_roundw
     case rel=>exact ⟨k+1,by go_num,by omega,HY2,hw5⟩
     case measure=>simp [intOf];omega
   ·have CA:=isInd_any (x:=(ys,ya,ym,true,yt)) n6 rfl l.length
    clear n6
    generalize mayB l.length (ys,ya,ym,true,yt)=M at *
    go_upto_region 4 with fail
    rw [← hW3]
    clear hW3 n0 n1 n2 n3 n4
    cases M
    ·have HF:Hid (l.all (mayB l.length)=false):=HN rfl
     clear HN
     go_wp2_with (first | (go_at_call 80;refine CA.mono ?_;rintro e w5 ⟨rfl,k5⟩;have z3:=HBX.out w5 k5))
     go_ret
     exact ⟨ret_bool HF.out.symm,HKW.out _ k5⟩
    ·have HY2:=HY.out (by first | rfl | trivial)
     clear HN HY
     go_wp2_with (first | (go_at_call 80;refine CA.mono ?_;rintro e w5 ⟨rfl,k5⟩;have z3:=HBX.out w5 k5))
     have hw5:=HKW.out _ k5
     go_roundw
     case rel=>exact ⟨k+1,by go_num,by omega,HY2,hw5⟩
     case measure=>simp [intOf];omega
  ·obtain rfl:k=l.length:=by omega
   have HF:Hid (l.all (mayB l.length)=true):=List.all_eq_true.2 (fun x hx=>by
    obtain ⟨j,hj,rfl⟩:=List.mem_iff_getElem.1 hx
    exact hall.out j hj hj)
   clear hall
   go_wp2
   go_ret
   exact ⟨ret_bool HF.out.symm,hw⟩
def RfE (room:Nat) (l:List Nd) (e:Int):Prop:=
 (room<l.length∧e=111)∨(l.length≤room∧l.all (mayB l.length)=false∧e=114)∨(l.length≤room∧l.all (mayB l.length)=true∧¬ Ac l∧e=113)∨(l.length≤room∧l.all (mayB l.length)=true∧Ac l∧e=0)
theorem RfE.uniq {room:Nat} {l:List Nd} {e e' : Int} (h:RfE room l e) (h' : RfE room l e'):e=e' := by
 rcases h with ⟨a,b⟩ | ⟨a,b,c⟩ | ⟨a,b,c,d⟩ | ⟨a,b,c,d⟩ <;> rcases h' with ⟨a', b'⟩ | ⟨a', b', c'⟩ | ⟨a', b', c', d'⟩ | ⟨a', b', c', d'⟩ <;> first | omega | exact absurd c' c | exact absurd c c' | (rw [b] at b'; cases b'; done)
theorem few_of_may {l:List Nd} (h:l.all (mayB l.length)=true):(∀ x∈l,mayB l.length x=true)∧InL l∧∀ x∈l,x.2.1.length≤6:=by
 have h1:∀ x∈l,mayB l.length x=true:=List.all_eq_true.1 h
 exact ⟨h1,inl_of_may h1,fun x hx=>(may_facts (h1 x hx)).2.1⟩
set_option maxHeartbeats 1000000 in
theorem refill_no {B:Nat→Prop} {w:World} {h g room:Nat} {l:List Nd} (p:HpB B w h g room l) {ao:Option Addr} {ac:Nat} {l' : List Nd} (hs:NsW w ao l') (hsz:l'.length≤maxLen) {E:Int} (hE:RfE room l' E) (h0:E≠0) :
  Calls Tryz.prog 28 #[.pointer (some ⟨h,0,none⟩),.slice ao l'.length ac] w fun e w' => e=.returned (.int .i64 E)∧Same0 w w' := by
 unfold maxLen at hsz
 obtain ⟨c0,c1⟩:=p.cells
 have hr2:=p.rm2
 have KR:Hid (Same0 w w):=Kept.refl _ _
 clear p
 rcases hE with ⟨a,rfl⟩ | ⟨a,b,rfl⟩ | ⟨a,b,c,rfl⟩ | ⟨a,b,c,rfl⟩
 ·have j1:(room:Int)<(l'.length:Int):=by omega
  clear hs
  go_enter Tryz.func28,Tryz.ntmps28
  go_wp2
  go_ret
  exact ⟨rfl,KR.out⟩
 ·have j1:¬ (room:Int)<(l'.length:Int):=by omega
  have CS:=shaped_any (ac:=ac) hs (by omega)
  rw [b] at CS
  clear hs b
  go_enter Tryz.func28,Tryz.ntmps28
  go_wp2_with (first | (go_at_call 54;refine CS.mono ?_;rintro e w1 ⟨rfl,k1⟩))
  go_ret
  exact ⟨rfl,k1⟩
 ·have j1:¬ (room:Int)<(l'.length:Int):=by omega
  have CS:=shaped_any (ac:=ac) hs (by omega)
  obtain ⟨f1,f2,f3⟩:=few_of_may b
  have CR:Hid (∀ ww,Same0 w ww→Calls Tryz.prog 55 #[.slice ao l'.length ac] ww fun e w' => RingQ l' ww e w'):=fun ww hk=>ringed_any (hs.same hk) f2 f3 (by omega)
  have HNA:Hid (¬ Ac l'):=c
  rw [b] at CS
  clear hs b f1 f2 f3 c
  go_enter Tryz.func28,Tryz.ntmps28
  go_upto_region 7 with (first | (go_at_call 54;refine CS.mono ?_;rintro e w1 ⟨rfl,k1⟩))
  have CR1:=CR.out w1 k1
  clear CR CS
  go_wp2_with (first | (go_at_call 55;refine CR1.mono ?_;rintro e w2 ⟨b,rfl,hb,k2⟩;obtain rfl:b=true:=hb.2 HNA.out))
  go_ret
  exact ⟨rfl,k1.trans' k2⟩
 ·exact absurd rfl h0
theorem NRow.zero {B:Nat→Prop} {base:Nat} {w:World} {v:Value} {l:List Nd} (h:NRow B base w v l):NRow B 0 w v l:=by
 obtain ⟨vs,h1,h2⟩:=h
 exact ⟨vs,row_mono h1 (Nat.zero_le _),h2⟩
theorem NRow.mono {B B' : Nat→Prop} {base:Nat} {w:World} {v:Value} {l:List Nd} (h:NRow B base w v l) (hB:∀ k,k<w.heap.size→B k→B' k):NRow B' base w v l:=by
 obtain ⟨vs,h1,h2⟩:=h
 exact ⟨vs,h1,h2.mono hB⟩
theorem set_room {w:World} {b:Nat} {v0 v1:Value} {t:TypeId} (h:w.heap[b]? = some (.cells #[v0,v1] t (0,0))) (u:Value):(w.setCell ⟨b,1,none⟩ u).heap[b]? = some (.cells #[v0,u] t (0,0)):=setAt h 1 u
def RfN (w:World) (r room:Nat) (l:List Nd) (E:Int) (w' : World):Prop:=
 (E≠0∧Same0 w w')∨(E=0∧∃ v,RhB (fun b=>w.heap.size≤b) w' r room v l∧Kept (fun k=>k=r) w w' ∧ ∀ k,v.ownBlock=some k→w.heap.size≤k)
set_option maxHeartbeats 2000000 in
theorem rrefill_any {B:Nat→Prop} {w:World} {r room:Nat} {v:Value} {l:List Nd} (p:RhB B w r room v l) {ao:Option Addr} {ac:Nat} {l' : List Nd} (hs:NsW w ao l') (hsz:l'.length≤maxLen) {E:Int} (hE:RfE room l' E) :
  Calls Tryz.prog 29 #[.pointer (some ⟨r,0,none⟩),.slice ao l'.length ac] w fun e w' => e=.returned (.int .i64 E)∧RfN w r room l' E w' := by
 unfold maxLen at hsz
 obtain ⟨c0,c1⟩:=p.cells
 have hr2:=p.rm2
 have KR:Same0 w w:=Kept.refl _ _
 have HE:Hid (∀ e,RfE room l' e→e=E):=fun e he=>he.uniq hE
 have HP:Hid (∀ ww,Same0 w ww→RhB B ww r room v l):=fun ww hk=>p.same hk
 have HX:Hid (∀ ww,Same0 w ww→NsW ww ao l'):=fun ww hk=>hs.same hk
 clear p hs hE
 by_cases a:room<l'.length
 ·have j1:(room:Int)<(l'.length:Int):=by omega
  obtain rfl:111=E:=HE.out 111 (.inl ⟨a,rfl⟩)
  have KH:Hid (Same0 w w):=KR
  clear KR HE
  go_enter Tryz.func29,Tryz.ntmps29
  go_wp2
  go_ret
  exact ⟨rfl,.inl ⟨by decide,KH.out⟩⟩
 ·have j1:¬ (room:Int)<(l'.length:Int):=by omega
  have l0:(0:Int)≤(l'.length:Int):=by omega
  have l1:(l'.length:Int)≤4000:=by omega
  have HA:Hid (l'.length≤room):=by show _≤_;omega
  go_enter Tryz.func29,Tryz.ntmps29
  go_upto_region 4 with fail
  clear c0 c1
  go_loopw [5] (fun i wr=>∃ k:Nat,i=.int .i64 (k:Int)∧k≤l'.length∧Hid (∀ j (hj:j<l'.length),j<k→mayB l'.length l'[j]=true)∧Same0 w wr) (fun i _=>l'.length-(intOf i).toNat)
  case atStart=>exact ⟨0,rfl,Nat.zero_le _,fun j _ hj=>absurd hj (Nat.not_lt_zero _),KR⟩
  case round=>
   clear KR
   obtain ⟨k,rfl,hk,hall,hw⟩:=hrel
   by_cases hlt:k<l'.length
   ·have j2:(k:Int)<(l'.length:Int):=by omega
    have j3:(0:Int)≤(k:Int):=by omega
    rcases HX.out wr hw with e | ⟨nb,noff,e,hnb,hn⟩
    ·rw [e] at hlt;simp at hlt
    subst e
    obtain ⟨xo,xc,n0,n1,n2,n3,n4,n5⟩:=hn k hlt
    have CM:=rmay_any n5 l'.length
    have HAF:mayB l'.length l'[k]=false→l'.all (mayB l'.length)=false:=fun e=>by
     rw [Bool.eq_false_iff]
     intro q
     rw [List.all_eq_true] at q
     rw [q _ (List.getElem_mem hlt)] at e
     cases e
    have HN:Hid (mayB l'.length l'[k]=false→114=E):=fun e=>HE.out 114 (.inr (.inl ⟨HA.out,HAF e,rfl⟩))
    clear HAF
    have HY:Hid (mayB l'.length l'[k]=true→Hid (∀ j (hj:j<l'.length),j<k+1→mayB l'.length l'[j]=true)):=fun e j hj hjk=>by
     by_cases q:j=k
     ·subst q;exact e
     ·exact hall.out j hj (by omega)
    clear n5 hn hall
    generalize mayB l'.length l'[k]=R at *
    cases R
    ·obtain rfl:114=E:=HN.out rfl
     clear HN HY HE
     go_wp2_with (first | (go_at_call 56;refine CM.mono ?_;rintro e w5 ⟨rfl,k5⟩))
     go_ret
     exact ⟨rfl,.inl ⟨by decide,hw.trans' k5⟩⟩
    ·have HY2:=HY.out rfl
     clear HN HY
     go_wp2_with (first | (go_at_call 56;refine CM.mono ?_;rintro e w5 ⟨rfl,k5⟩))
     have hw5:=hw.trans' k5
     go_roundw
     case rel=>exact ⟨k+1,by go_num,by omega,HY2,hw5⟩
     case measure=>simp [intOf];omega
   ·obtain rfl:k=l'.length:=by omega
    have hal:l'.all (mayB l'.length)=true:=List.all_eq_true.2 (fun x hx=>by
     obtain ⟨j,hj,rfl⟩:=List.mem_iff_getElem.1 hx
     exact hall.out j hj hj)
    obtain ⟨f1,f2,f3⟩:=few_of_may hal
    have HALL:Hid (l'.all (mayB l'.length)=true):=hal
    have HF1:Hid (∀ x∈l', mayB l'.length x=true):=f1
    have CR:=ring_any (ac:=ac) (HX.out wr hw) f2 f3 (by omega)
    have CN:Hid (∀ ww,Same0 w ww→Calls Tryz.prog 58 #[.slice ao l'.length ac] ww fun e w' => ∃ v,e=.returned v∧NRow (fun b=>ww.heap.size≤b) ww.heap.size w' v l' ∧ Same0 ww w'):=fun ww hk=>rnodes_any (HX.out ww hk) (by omega)
    clear hall hal f1 f2 f3 HX hk hlt
    go_upto_region 9 with (first | (go_at_call 57;refine CR.mono ?_;rintro e w6 ⟨b,rfl,hb,k6⟩))
    clear CR
    have hw6:=hw.trans' k6
    cases b
    ·have hac:Ac l' := by
      by_cases q:Ac l'
      ·exact q
      ·exact absurd (hb.2 q) (by simp)
     have HAC:Hid (Ac l'):=hac
     obtain rfl:0=E:=HE.out 0 (.inr (.inr (.inr ⟨HA.out,HALL.out,hac,rfl⟩)))
     have C7:=CN.out w6 hw6
     have HP7:Hid (∀ ww,Same0 w6 ww→ww.cell? ⟨r,0,none⟩=some (.int .i64 (room:Int))∧ww.cell? ⟨r,1,none⟩=some v∧ww.frozen? ⟨r,1,none⟩=false):=fun ww hk=>by
      have p7:=HP.out ww (hw6.trans' hk)
      exact ⟨p7.cells.1,p7.cells.2,frozenAt p7.box 1⟩
     clear hb hac HE CN
     go_wp2_with (first | (go_at_call 58;refine C7.mono ?_;rintro e w7 ⟨v7,rfl,hr7,k7⟩;obtain ⟨vo7,vc7,rfl⟩:=hr7.shape;obtain ⟨z0,z1,z2⟩:=HP7.out w7 k7))
     go_ret
     have p7:=HP.out w7 (hw6.trans' k7)
     have K8:Kept (fun k=>k=r) w7 (w7.setCell ⟨r,1,none⟩ (.slice vo7 l'.length vc7)):=Kept.setCell (S:=fun k=>k=r) (Kept.refl _ _) (p:=⟨r,1,none⟩) (fun _=>rfl) _
     have hlt6:r<w6.heap.size:=(HP.out w6 hw6).lt
     refine ⟨rfl,.inr ⟨rfl,_,⟨set_room p7.box _,?_,p7.rm1,p7.rm2,HA.out,HF1.out,HAC.out⟩,(Kept.mono (hw6.trans' k7) (fun _ _ f=>f.elim)).trans K8 (fun _ _ e=>e),fun k e=>Nat.le_trans hw6.size (hr7.block e).1⟩⟩
     exact ((hr7.kept K8 (fun k e q=>by have:=(hr7.block e).1;omega) (fun k _ e=>by rw [e];exact p7.noti)).zero).mono (fun k _ q=>Nat.le_trans hw6.size q)
    ·obtain rfl:113=E:=HE.out 113 (.inr (.inr (.inl ⟨HA.out,HALL.out,hb.1 rfl,rfl⟩)))
     clear hb CN HE
     go_wp2
     go_ret
     exact ⟨rfl,.inl ⟨by decide,hw6⟩⟩
def hasB (n:Nat) (a:Int):Bool:=decide (0≤a) && decide (a<(n:Int))
theorem hasB_yes {n:Nat} {a:Int} (h:0≤a∧a<(n:Int)):hasB n a=true:=by unfold hasB;simp [h]
set_option maxHeartbeats 1000000 in
theorem rhas_any {w:World} {r n cap:Nat} {ao:Option Addr} (c1:w.cell? ⟨r,1,none⟩=some (.slice ao n cap)) (hn:n≤maxLen) (a:Int) :
  Calls Tryz.prog 44 #[.pointer (some ⟨r,0,none⟩),.int .i64 a] w fun e w' => e=.returned (.bool (hasB n a))∧w' = w:=by
 unfold maxLen at hn
 have HE:Hid (hasB n a=(decide (0≤a) && decide (a<(n:Int)))):=rfl
 generalize hasB n a=R at *
 by_cases h1:0≤a
 ·by_cases h2:a<(n:Int)
  ·have HR:Hid (R=true):=by show _=_;rw [HE.out];simp [h1,h2]
   clear HE
   go_enter Tryz.func44,Tryz.ntmps44
   go_wp2
   go_ret
   exact ⟨ret_bool HR.out.symm,rfl⟩
  ·have HR:Hid (R=false):=by show _=_;rw [HE.out];simp [h2]
   clear HE
   go_enter Tryz.func44,Tryz.ntmps44
   go_wp2
   go_ret
   exact ⟨ret_bool HR.out.symm,rfl⟩
 ·have HR:Hid (R=false):=by show _=_;rw [HE.out];simp [h1]
  clear HE
  go_enter Tryz.func44,Tryz.ntmps44
  go_wp2
  go_ret
  exact ⟨ret_bool HR.out.symm,rfl⟩
set_option maxHeartbeats 2000000 in
theorem rres_yes {w:World} {r cap:Nat} {ao:Option Addr} {l:List Nd} (c1:w.cell? ⟨r,1,none⟩=some (.slice ao l.length cap)) (hs:NsW w ao l) (hn:l.length≤maxLen) (hin:InL l) (hac:Ac l) (i:Nat) (hi:i<l.length) :
  Calls Tryz.prog 73 #[.pointer (some ⟨r,0,none⟩),.int .i64 (i:Int)] w fun e w' => ∃ b:Nat,e=.returned (.tuple #[.int .i64 (b:Int),.int .i64 0])∧Res l i b∧w' = w:=by
 have C:=rhas_any c1 hn (i:Int)
 rw [hasB_yes (by omega)] at C
 obtain ⟨rk,hr⟩:=hac
 have HR:Hid (∀ i j,Ed l i j→rk j<rk i):=hr
 have HI:Hid (InL l):=hin
 rcases hs with e | ⟨nb,noff,rfl,hnb,hc⟩
 ·subst e;simp at hi
 have HE:Hid (∀ j (hj:j<l.length),∃ xo xc,w.cell? ⟨nb,noff+j * 5,none⟩=some (.int .i64 l[j].1)∧w.cell? ⟨nb,noff+j * 5+1,none⟩=some (.slice xo l[j].2.1.length xc)∧w.cell? ⟨nb,noff+j * 5+2,none⟩=some (.int .i64 l[j].2.2.1)∧w.cell? ⟨nb,noff+j * 5+3,none⟩=some (.bool l[j].2.2.2.1)∧w.cell? ⟨nb,noff+j * 5+4,none⟩=some (.int .i64 l[j].2.2.2.2)∧Arg w xo l[j].2.1 xc):=hc
 unfold maxLen at hn
 clear hr hin hc hnb
 go_enter Tryz.func73,Tryz.ntmps73
 go_upto_region 3 with (first | (go_at_call 44;refine C.mono ?_;rintro e w' ⟨rfl,h'⟩;have h' := h'.symm;subst h'))
 clear C
 go_loop [1] (fun v=>∃ a:Nat,a<l.length∧v=.int .i64 (a:Int)∧Hid (∃ k,Ind l k i a)) (fun v=>rk (intOf v).toNat)
 case atStart=>exact ⟨i,hi,rfl,0,rfl⟩
 case round=>
  obtain ⟨a,ha,rfl,hk⟩:=hrel
  obtain ⟨xo,xc,n0,n1,n2,n3,n4, -⟩:=HE.out a ha
  have i1:(0:Int)≤(a:Int):=by omega
  have i2:(a:Int)<(l.length:Int):=by omega
  cases hp:l[a].2.2.2.1
  ·rw [hp] at n3
   have HP:Hid (l[a].2.2.2.1=false):=hp
   clear hp n0 n1 n2 n4
   go_wp2
   go_ret2
   exact ⟨a,rfl,⟨hk.out,ha,HP.out⟩,rfl⟩
  ·rw [hp] at n3
   have HP:Hid (l[a].2.2.2.1=true):=hp
   obtain ⟨m1,m2⟩:=HI.out a ha l[a].2.2.2.2 (by unfold downL;rw [hp];simp)
   obtain ⟨t,ht⟩:∃ t:Nat,l[a].2.2.2.2=(t:Int):=⟨l[a].2.2.2.2.toNat,by omega⟩
   have HT:Hid (l[a].2.2.2.2=(t:Int)):=ht
   rw [ht] at n4
   have hlt:t<l.length:=by omega
   clear hp n0 n1 n2 m1 m2 ht
   go_wp2
   go_round
   case rel=>exact ⟨t,hlt,rfl,by
    obtain ⟨k,hk⟩:=hk.out
    have:=hk.snoc ha HP.out
    rw [HT.out] at this
    exact ⟨k+1,by simpa using this⟩⟩
   case measure=>
    have:=HR.out a t (by have:=ed_ind ha HP.out (by rw [HT.out];omega);rw [HT.out] at this;simpa using this)
    simpa [intOf] using this
structure RdH (w:World) (r:Nat) (N:List Nd) (ao:Option Addr) (cap:Nat):Prop where
 c1:w.cell? ⟨r,1,none⟩=some (.slice ao N.length cap)
 ns:NsW w ao N
 le:N.length≤4000
 inl:InL N
 ac:Ac N
 may:∀ x∈N,mayB N.length x=true
theorem RdH.same {w w' : World} {r:Nat} {N:List Nd} {ao:Option Addr} {cap:Nat} (q:RdH w r N ao cap) (hk:Same0 w w'):RdH w' r N ao cap:=
 ⟨(hk.cell (p:=⟨r,1,none⟩) (World.block_lt_of_cell? _ _ q.c1) (fun f=>f)).trans q.c1,q.ns.same hk,q.le,q.inl,q.ac,q.may⟩
theorem RdH.node {w:World} {r:Nat} {N:List Nd} {ao:Option Addr} {cap:Nat} (q:RdH w r N ao cap) {b:Nat} (hb:b<N.length):∃ nb noff xo xc,ao=some ⟨nb,noff,none⟩∧∀ ww,Same0 w ww→(ww.cell? ⟨nb,noff+b * 5,none⟩=some (.int .i64 N[b].1)∧ww.cell? ⟨nb,noff+b * 5+1,none⟩=some (.slice xo N[b].2.1.length xc)∧ww.cell? ⟨nb,noff+b * 5+2,none⟩=some (.int .i64 N[b].2.2.1)∧ww.cell? ⟨nb,noff+b * 5+3,none⟩=some (.bool N[b].2.2.2.1)∧ww.cell? ⟨nb,noff+b * 5+4,none⟩=some (.int .i64 N[b].2.2.2.2))∧IntsAt ww xo N[b].2.1:=by
 obtain ⟨nb,noff,e,hnb,hc⟩:=q.ns.resolve_left (fun e=>by rw [e] at hb;simp at hb)
 obtain ⟨xo,xc,d0,d1,d2,d3,d4,d5⟩:=hc b hb
 have t:∀ ww,Same0 w ww→∀ o,ww.cell? ⟨nb,o,none⟩=w.cell? ⟨nb,o,none⟩:=fun ww hk o=>hk.cell (p:=⟨nb,o,none⟩) hnb (fun f=>f)
 exact ⟨nb,noff,xo,xc,e,fun ww hk=>⟨⟨(t ww hk _).trans d0,(t ww hk _).trans d1,(t ww hk _).trans d2,(t ww hk _).trans d3,(t ww hk _).trans d4⟩,d5.at'.same hk⟩⟩
end Go.Proofs.YtblgblgchkonhaaGreat
namespace Go.Proofs.YtblgblgchkonhaaGreat
set_option linter.unusedVariables false
open Go.RowKit
theorem putObj_at {W:World} {l k:Nat} {o o' x:Obj} (hl:W.heap[l]? = some o) (hx:o.isCells=false) (hk:W.heap[k]? = some x) (hc:x.isCells=true):(W.putObj l o').heap[k]? = some x:=by
 have:k≠l:=fun e=>by subst e;rw [hl] at hk;cases hk;rw [hx] at hc;cases hc
 exact (World.putObj_heap_other this).trans hk
structure Rnd (D B:Nat) (W W' : World):Prop where
 recs:KeepsFrom D W W'
 below:Below B W W'
theorem Rnd.trans {D B:Nat} {X Y Z:World} (h:Rnd D B X Y) (k:Rnd D B Y Z):Rnd D B X Z:=⟨h.recs.trans k.recs,h.below.trans k.below⟩
theorem Rnd.same {D B:Nat} {W W' : World} (h:Same0 W W') (hB:B≤W.heap.size):Rnd D B W W' :=
 ⟨⟨h.size,fun k o _ hk _=>h.at0 hk⟩,h.below.mono hB⟩
section
variable {F : Fence} {n : Nat} {P : Program}
end
section
variable {F : Fence} {n : Nat} {P : Program}
end
theorem kept_putH {W:World} {l:Nat} {o' : Obj}:Kept (fun k=>k=l) W (W.putObj l o'):=
 ⟨rfl,rfl,rfl,by simp,fun k _ hn=>World.putObj_heap_other hn⟩
def CellsOf (C:Nat→Prop) (X:World):Prop:=∀ i,C i→∃ cs t fr,X.heap[i]? = some (.cells cs t fr)
theorem CellsOf.kept {C:Nat→Prop} {X Y:World} (h:CellsOf C X) (hk:Kept (fun i=>¬ C i) X Y):CellsOf C Y:=fun i hi=>by
 obtain ⟨cs,t,fr,e⟩:=h i hi
 exact ⟨cs,t,fr,hk.at e (fun q=>q hi)⟩
theorem CellsOf.same {C:Nat→Prop} {X Y:World} (h:CellsOf C X) (hk:Same0 X Y):CellsOf C Y:=h.kept (hk.mono (fun _ _ f=>f.elim))
theorem CellsOf.put {C:Nat→Prop} {X:World} (h:CellsOf C X) {l:Nat} {o o' : Obj} (hl:X.heap[l]? = some o) (ho:o.isCells=false):Kept (fun i=>¬ C i) X (X.putObj l o'):=
 kept_putH.mono (fun i _ e hc=>by
  obtain ⟨cs,t,fr,q⟩:=h i hc
  have e' : i=l:=e
  rw [e', hl] at q
  cases q
  cases ho)
structure RndC (D:Nat) (C:Nat→Prop) (W W' : World):Prop where
 recs:KeepsFrom D W W'
 kp:Kept (fun i=>¬ C i) W W'
theorem RndC.same {D:Nat} {C:Nat→Prop} {W W' : World} (h:Same0 W W'):RndC D C W W' := ⟨⟨h.size,fun k o _ hk _=>h.at0 hk⟩,h.mono (fun _ _ f=>f.elim)⟩
section
variable {F : Fence} {n : Nat} {P : Program}
def HandsC (F:Fence) (n:Nat) (P:Program) (gf:Nat) (lb:Array Value) (A:Nat→Prop) (N:Nat) (Lk:Nat→Array Value→World→Prop) (w:World):Prop:=
 ∀ (l:Nat) (J:(Nat→Prop)→Nat→World→Prop) (Z:World→Prop) (W:World),Same0 w W→(∀ C k X Y,J C k X→Same0 X Y→J C k Y)→(∀ X Y,Z X→Same0 X Y→Z Y) →
  (∀ C k vs X,k<N→CellsOf C X→J C k X→Lk k vs X→YieldAt F (n-1) P l vs X fun e Y=>(e=.returned (.bool true)∧J C (k+1) Y∧Kept (fun i=>¬ C i) X Y)∨(e=.returned (.bool false)∧Z Y)) →
  (∀ C X,Same0 W X→CellsOf C X→(∀ i,C i→W.heap.size≤i∨A i)→J C 0 X) →
  CallsIn F n P gf (#[.func (.yield l) #[] #[]]++lb) W fun e Y=>(∃ v,e=.returned v)∧((∃ C,J C N Y)∨Z Y)
theorem wp_handsC {g:Operand} {ps:Array Tmp} {assign body:Code} {Q:Exit→Act→World→Prop} {a:Act} {w:World}
  (hro:F.round=none) (h1:1≤n) {gf:Nat} {lb:Array Value} (hg:a.eval g=.func (.func gf) #[] lb) (hFg:F.fn gf) (eg:∀ args w,(callFunc gf args).run P w=.ok (.enter gf args) w)
  {N:Nat} {Lk:Nat→Array Value→World→Prop} {A:Nat→Prop} (hh:HandsC F (n-1) P gf lb A N Lk w) (hsz:∀ k vs W,Lk k vs W→vs.size=ps.size)
  (J:(Nat→Prop)→Nat→World→Prop) (hJ:∀ C k X Y,J C k X→Same0 X Y→J C k Y) (hJp:∀ C k X l o o', J C k X→X.heap[l]? = some o→o.isCells=false→w.heap.size≤l→J C k (X.putObj l o')) (h0:∀ C X,Same0 w X→CellsOf C X→(∀ i,C i→w.heap.size≤i∨A i)→J C 0 X) (Z:World→Prop) (hZ:∀ X Y,Z X→Same0 X Y→Z Y) (hZp:∀ X l o o', Z X→X.heap[l]? = some o→o.isCells=false→w.heap.size≤l→Z (X.putObj l o'))
  (hround:∀ (l:Nat) (C:Nat→Prop) (k:Nat) (vs:Array Value) (W:World),k<N→w.heap.size≤l→l<W.heap.size→CellsOf C W→J C k W→Lk k vs W →
   assign.wpIn (F.inRound l) (n-1-1) P (Exit.then (fun a' Wa=>RndC w.heap.size C W Wa∧∀ o o', Wa.heap[l]? = some o→o.isCells=false→o'.isCells=false →
    body.wpIn (F.inRound l) (n-1-1) P (fun e _ Y=>(e=.normal∧RndC w.heap.size C (Wa.putObj l o') Y∧J C (k+1) Y)∨(e=.ret∧KeepsFrom w.heap.size (Wa.putObj l o') Y∧Z Y)) a' (Wa.putObj l o')) (fun _ _ _=>False))
    { tmps:=(ps.zip vs).foldl (fun t (p,v)=>t.setIfInBounds p v) a.tmps,defers:=[] } W)
  (hdone:∀ (D:Nat) (W:World),w.heap.size≤D→(∃ C,J C N W)→W.heap[D]? = some (.deferred (some []))→Q .normal { a with defers:={ target:=.collected D,args:=#[] } :: a.defers } W)
  (hstop:∀ (D:Nat) (W:World),w.heap.size≤D→Z W→W.heap[D]? = some (.deferred (some []))→Code.wpIn F n P .ret Q { a with defers:={ target:=.collected D,args:=#[] } :: a.defers } W) :
  (Code.rangeFunc g ps assign body).wpIn F n P Q a w:=by
 refine wpIn_rangeFunc fun fn hfn=>?_
 rw [hro]
 have hen:=run_enterLoop_outer (P:=P) (w:=w) fn a.tmps ps assign body
 obtain ⟨st,hst⟩:∃ st:LoopState→Option Code→Loop,st=fun s p=>{ state:=s,pending:=p,fn:=fn,tmps:=a.tmps,params:=ps,assign:=assign,body:=body,defers:=w.heap.size }:=⟨_,rfl⟩
 obtain ⟨W1,hW1⟩:∃ W1,W1=(w.alloc (.deferred (some []))).alloc (.loop (st .ready none)):=⟨_,rfl⟩
 have hs1:Same0 w W1:=by rw [hW1];exact ((Kept.refl _ w).alloc _).alloc _
 have hd1:W1.heap[w.heap.size]? = some (.deferred (some [])):=by
  rw [hW1];exact (Below.heap_alloc _ _ _ (by simp)).trans (World.alloc_heap_new w _)
 have hl1:W1.heap[w.heap.size+1]? = some (.loop (st .ready none)):=by
  have:=World.alloc_heap_new (w.alloc (.deferred (some []))) (.loop (st .ready none))
  rw [hW1];simpa using this
 refine ⟨w.heap.size+1,[{ target:=.collected w.heap.size,args:=#[] }],W1, { target:=.fn (.func gf) lb,args:=#[.func (.yield (w.heap.size+1)) #[] #[]] },W1,gf, #[.func (.yield (w.heap.size+1)) #[] #[]]++lb,W1,?_,?_,?_,?_,fun _=>h1,?_⟩
 ·rw [hen,hW1,hst]
 ·simp only [resolve,hg];simp [go_sem]
 ·intro f' hf'; simp [Target.leads] at hf'; subst hf'; exact hFg
 ·simp [invoke,go_sem,eg]
 ·have hcall:=hh (w.heap.size+1) (fun C k X=>J C k X∧X.heap[w.heap.size+1]? = some (.loop (st .ready none))∧X.heap[w.heap.size]? = some (.deferred (some []))) (fun X=>Z X∧X.heap[w.heap.size+1]? = some (.loop (st .done (some .ret)))∧X.heap[w.heap.size]? = some (.deferred (some []))) W1 hs1
   (fun C k X Y h hk=>⟨hJ C k X Y h.1 hk,hk.at0 h.2.1,hk.at0 h.2.2⟩) (fun X Y h hk=>⟨hZ X Y h.1 hk,hk.at0 h.2.1,hk.at0 h.2.2⟩) ?_ (fun C X hk hc hci=>⟨h0 C X (hs1.trans' hk) hc (fun i hi=>(hci i hi).imp (fun q=>Nat.le_trans hs1.size q) id),hk.at0 hl1,hk.at0 hd1⟩)
  ·refine hcall.mono ?_
   rintro e Y ⟨⟨v,rfl⟩,⟨C,hj,hl,hd⟩ | ⟨hz,hl,hd⟩⟩
   rotate_left
   ·have hend:=run_endLoop (P:=P) hl (by rw [hst];simp)
    rw [hst] at hend
    exact ⟨some .ret,_,hend,hstop w.heap.size _ (Nat.le_refl _) (hZp _ _ _ _ hz hl rfl (by omega)) ((World.putObj_heap_other (by omega)).trans hd)⟩
   have hend:=run_endLoop (P:=P) hl (by rw [hst];simp)
   rw [hst] at hend
   exact ⟨none,_,hend,hdone w.heap.size _ (Nat.le_refl _) ⟨C,hJp _ _ _ _ _ _ hj hl rfl (by omega)⟩ ((World.putObj_heap_other (by omega)).trans hd)⟩
  ·rintro C k vs X hk hcc ⟨hj,hl,hd⟩ hlk
   have hy:=run_yield (P:=P) (args:=vs) hl (by rw [hst];exact hsz k vs X hlk)
   rw [hst] at hy
   have hlX:w.heap.size+1<X.heap.size:=(Array.getElem?_eq_some_iff.1 hl).1
   refine ⟨fn,_,assign,body,hy,roundIn_of_wpIn hfn (wpIn_mono (hround (w.heap.size+1) C k vs X hk (by omega) hlX hcc hj hlk) ?_)⟩
   rintro e a' Wa hp
   cases e with
   | normal=>
    obtain ⟨hr,hb⟩:=hp
    have hla:=hr.recs.same _ _ (by omega) hl rfl
    have hda:=hr.recs.same _ _ (Nat.le_refl _) hd rfl
    have hlt:w.heap.size+1<Wa.heap.size:=(Array.getElem?_eq_some_iff.1 hla).1
    refine ⟨_,run_beginRound hla (by rw [hst]),wpIn_mono (hb _ (.loop { st .ready none with state:=.busy }) hla rfl rfl) ?_⟩
    rintro e2 a2 Y (⟨rfl,hr2,hj2⟩ | ⟨rfl,hr2,hz2⟩)
    rotate_left
    ·have hl2:=hr2.same _ _ (by omega) (World.putObj_heap_same (o:=.loop { st .ready none with state:=.busy }) hlt) rfl
     have hd2:=hr2.same _ _ (Nat.le_refl _) ((World.putObj_heap_other (o:=.loop { st .ready none with state:=.busy }) (by omega)).trans hda) rfl
     have hend:=run_endRound (P:=P) (some .ret) hl2
     rw [hst] at hend
     refine ⟨_,_,hend,.inr ⟨rfl,hZp _ _ _ _ hz2 hl2 rfl (by omega),?_,(World.putObj_heap_other (by omega)).trans hd2⟩⟩
     rw [hst];exact World.putObj_heap_same (Array.getElem?_eq_some_iff.1 hl2).1
    have hl2:=hr2.recs.same _ _ (by omega) (World.putObj_heap_same (o:=.loop { st .ready none with state:=.busy }) hlt) rfl
    have hd2:=hr2.recs.same _ _ (Nat.le_refl _) ((World.putObj_heap_other (o:=.loop { st .ready none with state:=.busy }) (by omega)).trans hda) rfl
    have hend:=run_endRound (P:=P) none hl2
    rw [hst] at hend
    refine ⟨_,_,hend,.inl ⟨rfl,⟨hJp _ _ _ _ _ _ hj2 hl2 rfl (by omega),?_,(World.putObj_heap_other (by omega)).trans hd2⟩,?_⟩⟩
    ·rw [hst];exact World.putObj_heap_same (Array.getElem?_eq_some_iff.1 hl2).1
    ·have c1:=hcc.kept hr.kp
     have p1:=c1.put (o' := .loop { st .ready none with state:=.busy }) hla rfl
     have c2:=(c1.kept p1).kept hr2.kp
     exact ((hr.kp.trans p1 (fun _ _ e=>e)).trans hr2.kp (fun _ _ e=>e)).trans (c2.put hl2 rfl) (fun _ _ e=>e)
   | _=>exact hp.elim
end
end Go.Proofs.YtblgblgchkonhaaGreat
namespace Go.Proofs.YtblgblgchkonhaaGreat
set_option linter.unusedVariables false
abbrev Tg:=Bool × Int × Int × Int
def arT (x:Tg):Nat:=x.2.2.1.toNat
def oneT:Nat→List Tg→Bool
 | 0,[]=>true
 | _+1,[]=>false
 | 0,_ :: _=>false
 | k+1,x :: r=>oneT (k+arT x) r
def layF (N:List Nd):List Tg→List Nd × List Int
 | []=>(N,[])
 | x :: r=>if x.1=true then ((layF N r).1 ++ [(x.2.1,(layF N r).2.take (arT x),0,false,0)],((layF N r).1.length:Int) :: (layF N r).2.drop (arT x)) else ((layF N r).1,x.2.2.2 :: (layF N r).2)
def newN (l:List Tg):Nat:=l.countP (fun x=>x.1)
def TgOk (n:Nat) (x:Tg):Prop:=0≤x.2.2.1∧x.2.2.1≤6∧(x.1=true→0≤x.2.1)∧(x.1=false→x.2.2.1=0∧0≤x.2.2.2∧x.2.2.2<(n:Int))
theorem lay_new (N:List Nd) {x:Tg} (r:List Tg) (h:x.1=true):layF N (x :: r)=((layF N r).1 ++ [(x.2.1,(layF N r).2.take (arT x),0,false,0)],((layF N r).1.length:Int) :: (layF N r).2.drop (arT x)):=by
 show (if x.1=true then _ else _)=_
 rw [if_pos h]
theorem lay_old (N:List Nd) {x:Tg} (r:List Tg) (h:x.1=false):layF N (x :: r)=((layF N r).1,x.2.2.2 :: (layF N r).2):=by
 show (if x.1=true then _ else _)=_
 rw [if_neg (by rw [h];simp)]
theorem lay_len {n:Nat} (N:List Nd):∀ {l:List Tg} {k:Nat},oneT k l=true→(∀ x∈l,TgOk n x)→(layF N l).2.length=k
 | [],0,_,_=>rfl
 | [],k+1,h,_=>by cases h
 | x :: r,0,h,_=>by cases h
 | x :: r,k+1,h,ho=>by
  have ih:=lay_len N (l:=r) (k:=k+arT x) h (fun y hy=>ho y (List.mem_cons_of_mem _ hy))
  cases hx:x.1
  ·have h0:arT x=0:=by have:=(ho x (List.mem_cons_self ..)).2.2.2 hx;unfold arT;omega
   rw [lay_old N r hx]
   simp;omega
  ·rw [lay_new N r hx]
   simp;omega
theorem lay_nodes (N:List Nd):∀ l:List Tg,∃ M,(layF N l).1=N++M∧M.length=newN l∧∀ y∈M,y.2.2.1=0∧y.2.2.2.1=false∧y.2.2.2.2=0
 | []=>⟨[],by simp [layF],rfl,by simp⟩
 | x :: r=>by
  obtain ⟨M,h1,h2,h3⟩:=lay_nodes N r
  cases hx:x.1
  ·exact ⟨M,by rw [lay_old N r hx];exact h1,by simp [newN,hx] at *;exact h2,h3⟩
  ·refine ⟨M ++ [(x.2.1,(layF N r).2.take (arT x),0,false,0)],by rw [lay_new N r hx];simp [h1],by simp [newN,hx] at *;exact h2,fun y hy=>?_⟩
   rcases List.mem_append.1 hy with q | q
   ·exact h3 y q
   ·simp at q;subst q;simp
theorem lay_size (N:List Nd) (l:List Tg):(layF N l).1.length=N.length+newN l:=by
 obtain ⟨M,h1,h2,_⟩:=lay_nodes N l
 rw [h1,List.length_append,h2]
theorem lay_in {N:List Nd}:∀ {l:List Tg},(∀ x∈l,TgOk N.length x)→∀ z∈(layF N l).2,0≤z∧z<((layF N l).1.length:Int)
 | [],_,z,hz=>by simp [layF] at hz
 | x :: r,ho,z,hz=>by
  have ih:=lay_in (l:=r) (fun y hy=>ho y (List.mem_cons_of_mem _ hy))
  cases hx:x.1
  ·rw [lay_old N r hx] at hz ⊢
   have hs:=lay_size N r
   have:=(ho x (List.mem_cons_self ..)).2.2.2 hx
   simp only [List.mem_cons] at hz
   rcases hz with rfl | q
   ·refine ⟨this.2.1,?_⟩;show _<((layF N r).1.length:Int);omega
   ·exact ih z q
  ·rw [lay_new N r hx] at hz ⊢
   simp only [List.mem_cons] at hz
   rcases hz with rfl | q
   ·refine ⟨by omega,?_⟩;show _<(((layF N r).1++_).length:Int);simp;omega
   ·have:=ih z (List.mem_of_mem_drop q)
    refine ⟨this.1,?_⟩;show _<(((layF N r).1++_).length:Int);simp;omega
theorem lay_short (N:List Nd):∀ l:List Tg,(layF N l).2.length≤l.length
 | []=>Nat.le_refl _
 | x :: r=>by
  have ih:=lay_short N r
  cases hx:x.1
  ·rw [lay_old N r hx];simp;omega
  ·rw [lay_new N r hx];simp;omega
theorem one_drop:∀ {l:List Tg} {k:Nat},oneT k l=true→∀ i,∃ k', oneT k' (l.drop i)=true
 | l,k,h,0=>⟨k,by simpa using h⟩
 | [],k,h,i+1=>⟨k,by simpa using h⟩
 | x :: r,0,h,i+1=>by cases h
 | x :: r,k+1,h,i+1=>by
  obtain ⟨k', q⟩:=one_drop (l:=r) (k:=k+arT x) h i
  exact ⟨k', by simpa using q⟩
theorem newN_drop (l:List Tg) (i:Nat):newN (l.drop i)≤newN l:=by
 unfold newN
 exact List.Sublist.countP_le (List.drop_sublist i l)
theorem lay_fits {N:List Nd} {x:Tg} {r:List Tg} {k room:Nat} (h:oneT k (x :: r)=true) (ho:∀ y∈x :: r,TgOk N.length y) (hr:N.length+newN (x :: r)≤room) (hx:x.1=true) :
  arT x≤(layF N r).2.length∧arT x≤6∧mkE (layF N r).1 room x.2.1 ((layF N r).2.take (arT x))=0:=by
 have o1:=ho x (List.mem_cons_self ..)
 have o2:∀ y∈r,TgOk N.length y:=fun y hy=>ho y (List.mem_cons_of_mem _ hy)
 cases k with
 | zero=>cases h
 | succ k=>
  have hl:=lay_len (n:=N.length) N (l:=r) (k:=k+arT x) h o2
  have hs:=lay_size N r
  have ha:arT x≤6:=by unfold arT;have:=o1.2.1;omega
  have hn:newN (x :: r)=newN r+1:=by simp [newN,hx]
  refine ⟨by omega,ha,?_⟩
  unfold mkE
  have h0:=o1.2.2.1 hx
  have ht:((layF N r).2.take (arT x)).length≤6:=by simp;omega
  rw [if_neg (by omega),if_neg ?_,if_neg (by omega)]
  have:=lay_in o2
  have hin:insB ((layF N r).1.length:Int) ((layF N r).2.take (arT x))=true:=insB_iff.2 (fun z hz=>this z (List.mem_of_mem_take hz))
  rw [hin];simp
theorem lay_one {N:List Nd} {l:List Tg} (h:oneT 1 l=true) (ho:∀ x∈l,TgOk N.length x):∃ a:Nat,(layF N l).2=[(a:Int)]∧a<(layF N l).1.length:=by
 have hl:=lay_len (n:=N.length) N h ho
 have hi:=lay_in ho
 match hq:(layF N l).2,hl with
 | [z],_=>
  have:=hi z (by rw [hq];simp)
  exact ⟨z.toNat,by congr 1;omega,by omega⟩
end Go.Proofs.YtblgblgchkonhaaGreat
namespace Go.Proofs.YtblgblgchkonhaaGreat
set_option maxRecDepth 100000
set_option linter.unusedVariables false
open Go.RowKit Go.Shelf
attribute [local go_sem] Oper.semAt_some
def tgV (x:Tg):Value:=.agg #[.bool x.1,.int .i64 x.2.1,.int .i64 x.2.2.1,.int .i64 x.2.2.2]
def TgB (w:World) (b:Nat) (l:List Tg):Prop:=
 ∃ cs,w.heap[b]? = some (.cells cs 139 (0,0))∧cs.size=l.length * 4∧∀ i (h:i<l.length),cs[i * 4]? = some (.bool l[i].1)∧cs[i * 4+1]? = some (.int .i64 l[i].2.1)∧cs[i * 4+2]? = some (.int .i64 l[i].2.2.1)∧cs[i * 4+3]? = some (.int .i64 l[i].2.2.2)
theorem TgB.kept {S:Nat→Prop} {w w' : World} {b:Nat} {l:List Tg} (h:TgB w b l) (hk:Kept S w w') (hn:¬ S b):TgB w' b l:=by
 obtain ⟨cs,h1,h2,h3⟩:=h
 exact ⟨cs,hk.at h1 hn,h2,h3⟩
theorem TgB.same {w w' : World} {b:Nat} {l:List Tg} (h:TgB w b l) (hk:Same0 w w'):TgB w' b l:=h.kept hk (fun f=>f)
theorem TgB.get {w:World} {b:Nat} {l:List Tg} (h:TgB w b l) {i:Nat} (hi:i<l.length):w.cell? ⟨b,i * 4,none⟩=some (.bool l[i].1)∧w.cell? ⟨b,i * 4+1,none⟩=some (.int .i64 l[i].2.1)∧w.cell? ⟨b,i * 4+2,none⟩=some (.int .i64 l[i].2.2.1)∧w.cell? ⟨b,i * 4+3,none⟩=some (.int .i64 l[i].2.2.2):=by
 obtain ⟨cs,h1,h2,h3⟩:=h
 obtain ⟨q0,q1,q2,q3⟩:=h3 i hi
 exact ⟨(cellAt h1 _).trans q0,(cellAt h1 _).trans q1,(cellAt h1 _).trans q2,(cellAt h1 _).trans q3⟩
def TgLk (l:List Tg) (k:Nat) (vs:Array Value) (W:World):Prop:=∃ h:l.length-1-k<l.length,vs = #[.int .i64 ((l.length-1-k:Nat):Int),tgV l[l.length-1-k]]
theorem back_in (F:Fence) (n:Nat) (hF:F.fn 63) (hro:F.round=none) (ao:Option Addr) (m cap:Nat) (w:World):CallsIn F n Tryz.prog 63 #[.slice ao m cap] w fun e w' => e=.returned (.func (.func 86) #[] #[.pointer (some ⟨w.heap.size,0,none⟩)])∧w' = w.alloc (.cells #[.slice ao m cap] 100):=by
 refine callsIn_of_wp Tryz.func63 rfl hF ?_ hro
 simp only [Tryz.ntmps63,List.size_toArray,List.length_cons,List.length_nil,Nat.reduceAdd,Nat.reduceSub,Array.replicate_succ,Array.replicate_zero,List.push_toArray,List.append_toArray,List.nil_append,List.cons_append]
 gi_wp2
 go_ret
 exact ⟨rfl,rfl⟩
set_option maxHeartbeats 2000000 in
theorem hands_back {n:Nat} {w:World} {b:Nat} {l:List Tg} (p:TgB w b l) {Bn cap:Nat} (hbx:w.heap[Bn]? = some (.cells #[.slice (some ⟨b,0,none⟩) l.length cap] 100 (0,0))) (hl:l.length≤1000000000000000) (hn:1≤n) :
  HandsC Fence.wide n Tryz.prog 86 #[.pointer (some ⟨Bn,0,none⟩)] (fun i=>i=Bn∨i=b) l.length (TgLk l) w:=by
 intro l' J Z W hW hJ hZ hY h0
 have hFn:∀ k,Fence.wide.fn k:=fun _=>trivial
 have b1:=hW.at0 hbx
 have pW:=p.same hW
 have s1:W.cell? ⟨Bn,0,none⟩=some (.slice (some ⟨b,0,none⟩) l.length cap):=cellAt b1 0
 obtain ⟨C,hC⟩:∃ C:Nat→Prop,C=fun i=>i=Bn∨i=b:=⟨_,rfl⟩
 have HC1:Hid (C Bn∧C b):=by rw [hC];exact ⟨.inl rfl,.inr rfl⟩
 have HCC:Hid (CellsOf C W):=fun i hi=>by
  rw [hC] at hi
  rcases hi with e | e
  ·exact ⟨_,_,_,e ▸ b1⟩
  ·obtain ⟨cs,q,_⟩:=pW;exact ⟨cs,_,_,e ▸ q⟩
 have HJ0:Hid (J C 0 W):=h0 C W (Kept.refl _ _) HCC.out (fun i hi=>.inr (by rw [hC] at hi;exact hi))
 clear hC h0 p hbx
 have HROW:Hid (W.heap[Bn]? = some (.cells #[.slice (some ⟨b,0,none⟩) l.length cap] 100 (0,0))∧TgB W b l):=⟨b1,pW⟩
 clear b1 pW
 refine callsIn_of_wp Tryz.func86 rfl trivial ?_ rfl
 simp only [Tryz.ntmps86,List.size_toArray,List.length_cons,List.length_nil,Nat.reduceAdd,Nat.reduceSub,Array.replicate_succ,Array.replicate_zero,List.push_toArray,List.append_toArray,List.nil_append,List.cons_append]
 gi_wp2_with fail
 gi_loopw [3] (fun i wr=>∃ k:Nat,k≤l.length∧i=.int .i64 ((l.length:Int)-1-(k:Int))∧Hid (wr.heap[Bn]? = some (.cells #[.slice (some ⟨b,0,none⟩) l.length cap] 100 (0,0))∧TgB wr b l)∧Hid (CellsOf C wr)∧Hid (J C k wr)) (fun i _=>(intOf i+1).toNat)
 case atStart=>exact ⟨0,Nat.zero_le _,by simp,HROW,HCC,HJ0⟩
 case round=>
  clear HROW HCC HJ0 s1
  obtain ⟨k,hk,rfl,HROW,HCC,HJ⟩:=hrel
  by_cases hlt:k<l.length
  ·obtain ⟨m,hm⟩:∃ m,m+k+1=l.length:=⟨l.length-1-k,by omega⟩
   have em:(l.length:Int)-1-(k:Int)=(m:Int):=by omega
   have em2:l.length-1-k=m:=by omega
   rw [em]
   have hml:m<l.length:=by omega
   have i1:(0:Int)≤(m:Int):=by omega
   have i2:(m:Int)<(l.length:Int):=by omega
   have s1:wr.cell? ⟨Bn,0,none⟩=some (.slice (some ⟨b,0,none⟩) l.length cap):=cellAt HROW.out.1 0
   obtain ⟨c0,c1,c2,c3⟩:=HROW.out.2.get hml
   obtain ⟨fn,tmps,asg,bdy,hy,hR⟩:=hY C k _ wr hlt HCC.out HJ.out ⟨by omega,rfl⟩
   simp only [em2,tgV] at hy
   gi_wp2_with fail
   refine hR.mono ?_
   rintro e w4 (⟨rfl,hj4,hk4⟩ | ⟨rfl,hz4⟩)
   rotate_left
   ·clear hR hy
    gi_wp2_with fail
    go_returns
    exact ⟨⟨_,rfl⟩,.inr hz4⟩
   have HR4:Hid (w4.heap[Bn]? = some (.cells #[.slice (some ⟨b,0,none⟩) l.length cap] 100 (0,0))∧TgB w4 b l):=⟨hk4.at HROW.out.1 (fun q=>q HC1.out.1),HROW.out.2.kept hk4 (fun q=>q HC1.out.2)⟩
   have HC4:Hid (CellsOf C w4):=HCC.out.kept hk4
   have HJ4:Hid (J C (k+1) w4):=hj4
   clear hR hy c0 c1 c2 c3 s1 hj4 hk4 HROW HCC HJ
   gi_wp2_with fail
   go_roundw
   case rel=>exact ⟨k+1,by omega,by go_num,HR4,HC4,HJ4⟩
   case measure=>simp [intOf]
  ·obtain rfl:k=l.length:=by omega
   have e0:(l.length:Int)-1-(l.length:Int) = -1:=by omega
   rw [e0]
   gi_wp2_with fail
   go_end0
   exact ⟨⟨_,rfl⟩,.inl ⟨C,HJ.out⟩⟩
end Go.Proofs.YtblgblgchkonhaaGreat
namespace Go.Proofs.YtblgblgchkonhaaGreat
set_option maxRecDepth 100000
set_option linter.unusedVariables false
open Go.RowKit
attribute [local go_sem ↓] Go.wp_at_zero Go.wp_at_succ
def tgT (L:List Sym) (n:Int):Tg:=(true,n,(arN L n:Int),0)
theorem info_thing:(Tryz.prog.info? 139).map (fun i=>(i.zero,i.size,i.bytes))=some (some (.agg #[.bool false,.int .i64 0,.int .i64 0,.int .i64 0]),4,32):=by kernel_rfl
def put4 (w:World) (g off:Nat) (v0 v1 v2 v3:Value):World:=(((w.setCell ⟨g,off,none⟩ v0).setCell ⟨g,off+1,none⟩ v1).setCell ⟨g,off+2,none⟩ v2).setCell ⟨g,off+3,none⟩ v3
theorem put4_at {w:World} {g off:Nat} {v0 v1 v2 v3:Value} {cs:Array Value} {t:TypeId} {fr:Nat × Nat} (h:w.heap[g]? = some (.cells cs t fr)):(put4 w g off v0 v1 v2 v3).heap[g]? = some (.cells ((((cs.setIfInBounds off v0).setIfInBounds (off+1) v1).setIfInBounds (off+2) v2).setIfInBounds (off+3) v3) t fr):=
 setAt (setAt (setAt (setAt h _ _) _ _) _ _) _ _
theorem put4_kept (w:World) (g off:Nat) (v0 v1 v2 v3:Value):Kept (fun k=>k=g) w (put4 w g off v0 v1 v2 v3):=by
 have t:∀ (w' : World) (o:Nat) (v:Value),Kept (fun k=>k=g) w w' → Kept (fun k=>k=g) w (w'.setCell ⟨g,o,none⟩ v):=fun w' o v h=>Kept.setCell (S:=fun k=>k=g) h (p:=⟨g,o,none⟩) (fun _=>rfl) v
 exact t _ _ _ (t _ _ _ (t _ _ _ (t _ _ _ (Kept.refl _ w))))
theorem boxT4 {w:World} {b:Nat} {v0 v1 v2 v3:Value} {t:TypeId} (h:w.heap[b]? = some (.cells #[v0,v1,v2,v3] t (0,0))):w.cell? ⟨b,0,none⟩=some v0∧w.cell? ⟨b,1,none⟩=some v1∧w.cell? ⟨b,2,none⟩=some v2∧w.cell? ⟨b,3,none⟩=some v3:=⟨cellAt h 0,cellAt h 1,cellAt h 2,cellAt h 3⟩
theorem freeT4 {w:World} {b:Nat} {cs:Array Value} {t:TypeId} (h:w.heap[b]? = some (.cells cs t (0,0))):w.frozen? ⟨b,0,none⟩=false∧w.frozen? ⟨b,1,none⟩=false∧w.frozen? ⟨b,2,none⟩=false∧w.frozen? ⟨b,3,none⟩=false:=⟨frozenAt h 0,frozenAt h 1,frozenAt h 2,frozenAt h 3⟩
def TgQ (w:World) (b n:Nat) (l:List Tg):Prop:=
 ∃ cs,w.heap[b]? = some (.cells cs 139 (0,0))∧cs.size=n * 4∧∀ i (h:i<l.length),cs[i * 4]? = some (.bool l[i].1)∧cs[i * 4+1]? = some (.int .i64 l[i].2.1)∧cs[i * 4+2]? = some (.int .i64 l[i].2.2.1)∧cs[i * 4+3]? = some (.int .i64 l[i].2.2.2)
theorem TgQ.all {w:World} {b:Nat} {l:List Tg} (h:TgQ w b l.length l):TgB w b l:=h
theorem TgQ.kept {S:Nat→Prop} {w w' : World} {b n:Nat} {l:List Tg} (h:TgQ w b n l) (hk:Kept S w w') (hn:¬ S b):TgQ w' b n l:=by
 obtain ⟨cs,h1,h2,h3⟩:=h
 exact ⟨cs,hk.at h1 hn,h2,h3⟩
theorem TgQ.same {w w' : World} {b n:Nat} {l:List Tg} (h:TgQ w b n l) (hk:Same0 w w'):TgQ w' b n l:=h.kept hk (fun f=>f)
theorem TgQ.snoc {w:World} {b n:Nat} {l:List Tg} (h:TgQ w b n l) (hl:l.length<n) (x:Tg):TgQ (put4 w b (l.length * 4) (.bool x.1) (.int .i64 x.2.1) (.int .i64 x.2.2.1) (.int .i64 x.2.2.2)) b n (l ++ [x]):=by
 obtain ⟨cs,h1,h2,h3⟩:=h
 refine ⟨_,put4_at h1,by simp [h2],fun i hi=>?_⟩
 by_cases hi' : i<l.length
 ·obtain ⟨q0,q1,q2,q3⟩:=h3 i hi'
  simp only [List.getElem_append_left hi', Array.getElem?_setIfInBounds]
  refine ⟨?_,?_,?_,?_⟩
  ·rw [if_neg (by omega),if_neg (by omega),if_neg (by omega),if_neg (by omega)];exact q0
  ·rw [if_neg (by omega),if_neg (by omega),if_neg (by omega),if_neg (by omega)];exact q1
  ·rw [if_neg (by omega),if_neg (by omega),if_neg (by omega),if_neg (by omega)];exact q2
  ·rw [if_neg (by omega),if_neg (by omega),if_neg (by omega),if_neg (by omega)];exact q3
 ·obtain rfl:i=l.length:=by simp at hi;omega
  simp only [List.getElem_concat_length,Array.getElem?_setIfInBounds,Array.size_setIfInBounds]
  refine ⟨?_,?_,?_,?_⟩
  ·rw [if_neg (by omega),if_neg (by omega),if_neg (by omega),if_pos trivial,if_pos (by omega)]
  ·rw [if_neg (by omega),if_neg (by omega),if_pos trivial,if_pos (by omega)]
  ·rw [if_neg (by omega),if_pos trivial,if_pos (by omega)]
  ·rw [if_pos trivial,if_pos (by omega)]
theorem TgQ.there {w:World} {b n:Nat} {l:List Tg} (h:TgQ w b n l) (hl:l.length<n):∃ u0 u1 u2 u3,w.cell? ⟨b,l.length * 4,none⟩=some u0∧w.cell? ⟨b,l.length * 4+1,none⟩=some u1∧w.cell? ⟨b,l.length * 4+2,none⟩=some u2∧w.cell? ⟨b,l.length * 4+3,none⟩=some u3∧∀ o,w.frozen? ⟨b,o,none⟩=false:=by
 obtain ⟨cs,h1,h2,_⟩:=h
 have t:∀ o,o<cs.size→w.cell? ⟨b,o,none⟩=some cs[o]! := fun o ho=>by rw [cellAt h1];simp [ho]
 exact ⟨_,_,_,_,t _ (by omega),t _ (by omega),t _ (by omega),t _ (by omega),fun o=>frozenAt h1 o⟩
theorem TgQ.start {w w' : World} {n:Nat} {vs:List Value} (h:w'.ownsRow w.heap.size 139 4 (.slice (some ⟨w.heap.size,0,none⟩) n n) n vs):TgQ w' w.heap.size n []:=by
 rcases h.2 with ⟨e,h0⟩ | ⟨g,cap,cur,e,hb,hg,hle,hml,hsz,ht⟩
 ·cases e
 ·simp only [Value.slice.injEq,Option.some.injEq,Addr.mk.injEq,and_true,true_and] at e
  obtain ⟨rfl,rfl⟩:=e
  exact ⟨cur,hg,hsz,fun i hi=>by simp at hi⟩
set_option maxHeartbeats 2000000 in
theorem newT_yes {n b:Nat} {w:World} {L:List Sym} (h:Sg n w b L) (i:Nat) (hi:i<L.length):Calls Tryz.prog 65 #[.pointer (some ⟨b,0,none⟩),.int .i64 (i:Int)] w fun e w' => e=.returned (.tuple #[tgV (tgT L (i:Int)),.int .i64 0])∧Same0 w w' := by
 have ea:=ar_of h.2 hi
 have HV:Hid (tgV (tgT L (i:Int))=.agg #[.bool true,.int .i64 (i:Int),.int .i64 L[i].ar,.int .i64 0]):=by show _=_;unfold tgV tgT;simp only;rw [ea]
 obtain ⟨⟨sv,mr,hs,hf⟩,har⟩:=h
 obtain ⟨W0,hW0⟩:∃ W0,W0=w.alloc (.cells #[.bool false,.int .i64 0,.int .i64 0,.int .i64 0] 139):=⟨_,rfl⟩
 have k0:Same0 w W0:=by rw [hW0];exact (Kept.refl _ w).alloc _
 have hb:W0.heap[w.heap.size]? = some (.cells #[.bool false,.int .i64 0,.int .i64 0,.int .i64 0] 139 (0,0)):=by rw [hW0];exact heap_alloc_new w _
 have C:=at_yes (hs.kept k0 (fun _ _ f=>f)) i hi
 have HB:Hid (∀ ww,Same0 W0 ww→ww.heap[w.heap.size]? = some (.cells #[.bool false,.int .i64 0,.int .i64 0,.int .i64 0] 139 (0,0))∧Same0 w ww):=fun ww hk=>⟨hk.at0 hb,k0.trans' hk⟩
 clear hs hf har k0 hb ea
 go_enter Tryz.func65,Tryz.ntmps65
 go_upto_region 1 with fail
 rw [← hW0]
 clear hW0
 go_upto_region 2 with (first | (go_at_call 87;refine C.mono ?_;rintro e w1 ⟨rfl,k1⟩))
 obtain ⟨X1,hX1⟩:∃ X1,X1=w1.alloc (.cells #[.string L[i].name,.int .i64 L[i].ar,.bool L[i].df] 67):=⟨_,rfl⟩
 rw [← hX1]
 obtain ⟨q,k2⟩:=HB.out X1 (by rw [hX1];exact (show Same0 W0 w1 from k1).alloc _)
 have y1:X1.cell? ⟨w1.heap.size,1,none⟩=some (.int .i64 L[i].ar):=by rw [hX1];exact cellAt (heap_alloc_new w1 _) 1
 obtain ⟨b0,b1,b2,b3⟩:=boxT4 q
 obtain ⟨g0,g1,g2,g3⟩:=freeT4 q
 clear hX1 C
 go_wp2
 have K4:=put4_kept X1 w.heap.size 0 (.bool true) (.int .i64 (i:Int)) (.int .i64 L[i].ar) (.int .i64 0)
 exact bodyPost_ret (v:=.tuple #[.agg #[.bool true,.int .i64 (i:Int),.int .i64 L[i].ar,.int .i64 0],.int .i64 0]) (by simp [results,Tryz.results65,go_sem,b0,b1,b2,b3]) rfl ⟨by rw [HV.out],k2.trans K4 (fun i hi e=>by omega)⟩
set_option maxHeartbeats 2000000 in
theorem newT_no {n b:Nat} {w:World} {L:List Sym} (h:Sg n w b L) (z:Int) (hz:z<0∨(L.length:Int)≤z):Calls Tryz.prog 65 #[.pointer (some ⟨b,0,none⟩),.int .i64 z] w fun e w' => e=.returned (.tuple #[tgV (true,z,0,0),.int .i64 14])∧Same0 w w' := by
 obtain ⟨⟨sv,mr,hs,hf⟩,har⟩:=h
 obtain ⟨W0,hW0⟩:∃ W0,W0=w.alloc (.cells #[.bool false,.int .i64 0,.int .i64 0,.int .i64 0] 139):=⟨_,rfl⟩
 have k0:Same0 w W0:=by rw [hW0];exact (Kept.refl _ w).alloc _
 have hb:W0.heap[w.heap.size]? = some (.cells #[.bool false,.int .i64 0,.int .i64 0,.int .i64 0] 139 (0,0)):=by rw [hW0];exact heap_alloc_new w _
 have C:=at_no (hs.kept k0 (fun _ _ f=>f)) z hz
 have HB:Hid (∀ ww,Same0 W0 ww→ww.heap[w.heap.size]? = some (.cells #[.bool false,.int .i64 0,.int .i64 0,.int .i64 0] 139 (0,0))∧Same0 w ww):=fun ww hk=>⟨hk.at0 hb,k0.trans' hk⟩
 clear hs hf har k0 hb
 go_enter Tryz.func65,Tryz.ntmps65
 go_upto_region 1 with fail
 rw [← hW0]
 clear hW0
 go_upto_region 2 with (first | (go_at_call 87;refine C.mono ?_;rintro e w1 ⟨rfl,k1⟩))
 obtain ⟨X1,hX1⟩:∃ X1,X1=w1.alloc (.cells #[.string ⟨#[]⟩,.int .i64 0,.bool false] 67):=⟨_,rfl⟩
 rw [← hX1]
 obtain ⟨q,k2⟩:=HB.out X1 (by rw [hX1];exact (show Same0 W0 w1 from k1).alloc _)
 have y1:X1.cell? ⟨w1.heap.size,1,none⟩=some (.int .i64 0):=by rw [hX1];exact cellAt (heap_alloc_new w1 _) 1
 obtain ⟨b0,b1,b2,b3⟩:=boxT4 q
 obtain ⟨g0,g1,g2,g3⟩:=freeT4 q
 clear hX1 C
 go_wp2
 have K4:=put4_kept X1 w.heap.size 0 (.bool true) (.int .i64 z) (.int .i64 0) (.int .i64 0)
 exact bodyPost_ret (v:=.tuple #[.agg #[.bool true,.int .i64 z,.int .i64 0,.int .i64 0],.int .i64 14]) (by simp [results,Tryz.results65,go_sem,b0,b1,b2,b3]) rfl ⟨rfl,k2.trans K4 (fun i hi e=>by omega)⟩
set_option maxHeartbeats 1000000 in
theorem hasRoom_any {B:Nat→Prop} {w:World} {h g room:Nat} {N:List Nd} (p:HpB B w h g room N) (c:Nat):Calls Tryz.prog 32 #[.pointer (some ⟨h,0,none⟩),.int .i64 (c:Int)] w fun e w' => e=.returned (.bool (decide (N.length+c≤room)))∧Same0 w w' := by
 have C1:=room_any p
 have C2:=used_any p
 have hle:=p.le
 have hr2:=p.rm2
 clear p
 by_cases hc:N.length+c≤room
 ·have H:Hid (decide (N.length+c≤room)=true):=by simp [Hid,hc]
  have i1:(c:Int)≤(room:Int)-(N.length:Int):=by omega
  go_enter Tryz.func32,Tryz.ntmps32
  go_wp2_with (first | (go_at_call 62;refine C1.mono ?_;rintro e w' ⟨rfl,rfl⟩) | (go_at_call 38;refine C2.mono ?_;rintro e w' ⟨rfl,rfl⟩))
  go_ret
  exact ⟨by rw [H.out];first | rfl | (simp;done) | (simp;omega),Kept.refl _ _⟩
 ·have H:Hid (decide (N.length+c≤room)=false):=by simp [Hid];omega
  have i1:¬ (c:Int)≤(room:Int)-(N.length:Int):=by omega
  go_enter Tryz.func32,Tryz.ntmps32
  go_wp2_with (first | (go_at_call 62;refine C1.mono ?_;rintro e w' ⟨rfl,rfl⟩) | (go_at_call 38;refine C2.mono ?_;rintro e w' ⟨rfl,rfl⟩))
  go_ret
  exact ⟨by rw [H.out];first | rfl | (simp;done) | (simp;omega),Kept.refl _ _⟩
def whyV (y:Int):Value:=if y=0 then .nilIface else .iface 40 (.int .i64 y)
def FtAt (n0:Nat) (w:World) (e:Value) (c a y:Int):Prop:=∃ b,e=.iface 92 (.pointer (some ⟨b,0,none⟩))∧n0≤b∧w.heap[b]? = some (.cells #[.int .i64 c,.int .i64 a,whyV y] 94 (0,0))
theorem full_any (w:World):Calls Tryz.prog 33 #[] w fun e w' => ∃ v,e=.returned v∧FtAt w.heap.size w' v 131 0 111∧Same0 w w' := by
 go_enter Tryz.func33,Tryz.ntmps33
 go_wp2
 go_ret
 exact ⟨_,rfl,⟨w.heap.size,rfl,Nat.le_refl _,heap_alloc_new w _⟩,(Kept.refl _ w).alloc _⟩
def revO (xs:List Int) (off k:Nat) (cur:Array Value) (o:Nat):Option Value:=
 if off≤o∧o<off+xs.length∧(o<off+k∨off+xs.length≤o+k) then (xs[xs.length-1-(o-off)]?).map (Value.int .i64) else cur[o]?
theorem rev_none (ao:Option Addr) (cap:Nat) (w:World):Calls Tryz.prog 64 #[.slice ao 0 cap] w fun e w' => e=.returned (.tuple #[])∧w' = w:=by
 go_enter Tryz.func64,Tryz.ntmps64
 go_wp2
 go_loopw [2,3] (fun i j wr=>i=.int .i64 0∧j=.int .i64 (-1)∧wr=w) (fun _ _ _=>0)
 case atStart=>exact ⟨rfl,rfl,rfl⟩
 case round=>
  obtain ⟨rfl,rfl,rfl⟩:=hrel
  go_wp2
  first | go_end0 | (refine bodyPost_ret (results_none rfl _ _ _) rfl ?_)
  exact ⟨rfl,rfl⟩
theorem rev_step {xs:List Int} {off k m:Nat} {cur cu:Array Value} (hm:m+k+1=xs.length) (hkm:k<m) (hc:off+xs.length≤cu.size) (hk:k<xs.length) (hmx:m<xs.length) (h:∀ o,cu[o]? = revO xs off k cur o) (o:Nat) :
  ((cu.setIfInBounds (off+k) (.int .i64 xs[m])).setIfInBounds (off+m) (.int .i64 xs[k]))[o]? = revO xs off (k+1) cur o:=by
 rw [Array.getElem?_setIfInBounds,Array.getElem?_setIfInBounds]
 have ho:=h o
 unfold revO at ho ⊢
 by_cases e1:off+m=o
 ·rw [if_pos e1,if_pos (by simp;omega),if_pos (by omega)]
  have:xs.length-1-(o-off)=k:=by omega
  rw [this,List.getElem?_eq_getElem hk];rfl
 ·rw [if_neg e1]
  by_cases e2:off+k=o
  ·rw [if_pos e2,if_pos (by omega),if_pos (by omega)]
   have:xs.length-1-(o-off)=m:=by omega
   rw [this,List.getElem?_eq_getElem hmx];rfl
  ·rw [if_neg e2,ho]
   by_cases q:off≤o∧o<off+xs.length∧(o<off+k∨off+xs.length≤o+k)
   ·rw [if_pos q,if_pos (by omega)]
   ·rw [if_neg q,if_neg (by omega)]
theorem rev_end {xs:List Int} {off k:Nat} {cur:Array Value} (hx:∀ k (h:k<xs.length),cur[off+k]? = some (.int .i64 xs[k])) (hk:xs.length≤k+k+1) (j:Nat) (hj:j<xs.length):revO xs off k cur (off+j)=some (.int .i64 (xs[xs.length-1-j]'(by omega))):=by
 unfold revO
 by_cases q:off≤off+j∧off+j<off+xs.length∧(off+j<off+k∨off+xs.length≤off+j+k)
 ·rw [if_pos q]
  have e:xs.length-1-(off+j-off)=xs.length-1-j:=by omega
  rw [e,List.getElem?_eq_getElem (by omega)];rfl
 ·rw [if_neg q,hx j hj]
  have e:xs.length-1-j=j:=by omega
  simp only [e]
theorem rev_far {xs:List Int} {off k:Nat} {cur:Array Value} {o:Nat} (h:o<off∨off+xs.length≤o):revO xs off k cur o=cur[o]? := by
 unfold revO;rw [if_neg (by omega)]
set_option maxHeartbeats 2000000 in
theorem rev_any {w:World} {b off:Nat} {cur:Array Value} {xs:List Int} (hb:w.heap[b]? = some (.cells cur 3 (0,0))) (hc:off+xs.length≤cur.size) (hx:∀ k (h:k<xs.length),cur[off+k]? = some (.int .i64 xs[k])) (hm:xs.length≤6) (cap:Nat) :
  Calls Tryz.prog 64 #[.slice (some ⟨b,off,none⟩) xs.length cap] w fun e w' => e=.returned (.tuple #[])∧(∃ cu,w'.heap[b]? = some (.cells cu 3 (0,0))∧cu.size=cur.size∧(∀ j (h:j<xs.length),cu[off+j]? = some (.int .i64 (xs[xs.length-1-j]'(by omega))))∧∀ o,(o<off∨off+xs.length≤o)→cu[o]? = cur[o]?)∧Kept (fun k=>k=b) w w' := by
 have HX:Hid (∀ k (h:k<xs.length),cur[off+k]? = some (.int .i64 xs[k])):=hx
 go_enter Tryz.func64,Tryz.ntmps64
 go_wp2
 go_loopw [2,3] (fun i j wr=>∃ k:Nat,k≤xs.length∧i=.int .i64 (k:Int)∧j=.int .i64 ((xs.length:Int)-1-(k:Int))∧Hid (k+k≤xs.length+1)∧Hid (∃ cu,wr.heap[b]? = some (.cells cu 3 (0,0))∧cu.size=cur.size∧∀ o,cu[o]? = revO xs off k cur o)∧Kept (fun q=>q=b) w wr) (fun i _ _=>xs.length-(intOf i).toNat)
 case atStart=>exact ⟨0,Nat.zero_le _,rfl,by simp,by simp [Hid],⟨cur,hb,rfl,fun o=>by unfold revO;rw [if_neg (by omega)]⟩,Kept.refl _ _⟩
 case round=>
  obtain ⟨k,hk,rfl,rfl,h2,⟨cu,c1,c2,c3⟩,hs⟩:=hrel
  by_cases hlt:k+k+1<xs.length
  ·obtain ⟨m,hm'⟩:∃ m,m+k+1=xs.length:=⟨xs.length-1-k,by omega⟩
   have em:(xs.length:Int)-1-(k:Int)=(m:Int):=by omega
   rw [em]
   have hkx:k<xs.length:=by omega
   have hmx:m<xs.length:=by omega
   have hkm:k<m:=by omega
   have i1:(0:Int)≤(k:Int):=by omega
   have i2:(k:Int)<(xs.length:Int):=by omega
   have i3:(0:Int)≤(m:Int):=by omega
   have i4:(m:Int)<(xs.length:Int):=by omega
   have i5:(k:Int)<(m:Int):=by omega
   have d1:wr.cell? ⟨b,off+k,none⟩=some (.int .i64 xs[k]):=by
    rw [cellAt c1,c3];unfold revO;rw [if_neg (by omega)];exact HX.out k hkx
   have d2:wr.cell? ⟨b,off+m,none⟩=some (.int .i64 xs[m]):=by
    rw [cellAt c1,c3];unfold revO;rw [if_neg (by omega)];exact HX.out m hmx
   have f1:=frozenAt c1 (off+k)
   have f2:=frozenAt c1 (off+m)
   have FIN:Hid (∀ wd:World,Same0 ((wr.setCell ⟨b,off+k,none⟩ (.int .i64 xs[m])).setCell ⟨b,off+m,none⟩ (.int .i64 xs[k])) wd→(∃ cu,wd.heap[b]? = some (.cells cu 3 (0,0))∧cu.size=cur.size∧∀ o,cu[o]? = revO xs off (k+1) cur o)∧Kept (fun q=>q=b) w wd):=fun wd hk=>by
    refine ⟨⟨_,hk.at0 (setAt (setAt c1 _ _) _ _),by simp [c2],fun o=>rev_step hm' hkm (by omega) hkx hmx c3 o⟩,?_⟩
    exact (Kept.setCell (S:=fun q=>q=b) (Kept.setCell (S:=fun q=>q=b) hs (p:=⟨b,off+k,none⟩) (fun _=>rfl) _) (p:=⟨b,off+m,none⟩) (fun _=>rfl) _).trans hk (fun _ _ f=>f.elim)
   clear c1 c2 c3 hb hx HX hc
   go_wp2
   go_region
   all_goals (go_wp2;first | (refine ⟨⟨k+1,by omega,by go_num,by go_num,show k+1+(k+1)≤xs.length+1 by omega,(FIN.out _ (by first | exact Kept.refl _ _ | exact (Kept.refl _ _).drew | exact (Kept.refl _ _).drewN _)).1,(FIN.out _ (by first | exact Kept.refl _ _ | exact (Kept.refl _ _).drew | exact (Kept.refl _ _).drewN _)).2⟩,by simp [intOf];omega⟩))
  ·have hle:xs.length≤k+k+1:=by omega
   have i5:¬ ((k:Int)<(xs.length:Int)-1-(k:Int)):=by omega
   have FIN:Hid ((∃ cu,wr.heap[b]? = some (.cells cu 3 (0,0))∧cu.size=cur.size∧(∀ j (h:j<xs.length),cu[off+j]? = some (.int .i64 (xs[xs.length-1-j]'(by omega))))∧∀ o,(o<off∨off+xs.length≤o)→cu[o]? = cur[o]?)∧Kept (fun k=>k=b) w wr):=⟨⟨cu,c1,c2,fun j hj=>by rw [c3];exact rev_end HX.out hle j hj,fun o ho=>by rw [c3];exact rev_far ho⟩,hs⟩
   clear c1 c2 c3 hb hx HX hc
   go_wp2
   first | go_end0 | (refine bodyPost_ret (results_none rfl _ _ _) rfl ?_)
   exact ⟨rfl,FIN.out⟩
end Go.Proofs.YtblgblgchkonhaaGreat
