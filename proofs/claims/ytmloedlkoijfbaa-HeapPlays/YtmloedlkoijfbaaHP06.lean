import Derived.Test.YtmloedlkoijfbaaHP05
import Derived.Test.YtmloedlkoijfbaaHP04
import Derived.Deep.DeepAppendWide
namespace Go.Proofs.Ytmloedlkoijfbaa
set_option maxRecDepth 100000
set_option linter.unusedVariables false
open Go.RowKit
attribute [local go_sem ↓] Go.wp_at_zero Go.wp_at_succ
set_option maxHeartbeats 300000 in
theorem shaped_any {w:World} {ao:Option Addr} {ac:Nat} {l:List Nd} (h:NsW w ao l) (hN:l.length≤4000) :
  Calls Try.prog 60 #[.slice ao l.length ac] w fun e w' => e=.returned (.bool (l.all (mayB l.length)))∧Same0 w w' := by
 have HL:Hid (∀ ww,Same0 w ww→NsW ww ao l):=fun ww hk=>h.same hk
 have KR:Same0 w w:=Kept.refl _ _
 have HNO:Hid (∀ k (hk:k<l.length),mayB l.length l[k]=false→l.all (mayB l.length)=false):=fun k hk e=>by
  rw [Bool.eq_false_iff]
  intro q
  rw [List.all_eq_true] at q
  rw [q _ (List.getElem_mem hk)] at e
  cases e
 clear h
 go_enter Try.func60,Try.ntmps60
 go_wp2
 go_loopw [7] (fun i wr=>∃ (k:Nat),i=.int .i64 (k:Int)∧k≤l.length∧Hid (∀ j (hj:j<l.length),j<k→mayB l.length l[j]=true)∧Same0 w wr) (fun i _=>l.length-(intOf i).toNat)
 case atStart=>exact ⟨0,rfl,Nat.zero_le _,fun j _ hj=>absurd hj (Nat.not_lt_zero _),KR⟩
 case round=>
  clear KR
  obtain ⟨k,rfl,hk,hall,hw⟩:=hrel
  by_cases hlt:k<l.length
  ·have j1:(k:Int)<(l.length:Int):=by omega
   have j2:(0:Int)≤(k:Int):=by omega
   rcases HL.out wr hw with e | ⟨nb,noff,e,hnb,hn⟩
   ·subst e;simp at hlt
   subst e
   obtain ⟨xo,xc,n0,n1,n2,n3,n4,n5⟩:=hn k hlt
   obtain ⟨W3,hW3⟩:∃ W3,W3=wr.alloc (.cells #[.int .i64 l[k].1,.slice xo l[k].2.1.length xc,.int .i64 l[k].2.2.1,.bool l[k].2.2.2.1,.int .i64 l[k].2.2.2.2] 47):=⟨_,rfl⟩
   have kb:Same0 wr W3:=by rw [hW3];exact (Kept.refl _ _).alloc _
   obtain ⟨x0,x1,x2,x3,x4⟩:=box_node' wr l[k] xo xc (show Same0 _ W3 by rw [hW3];exact Kept.refl _ _)
   have n6:=n5.onto kb
   have HBX:Hid (∀ ww,Same0 W3 ww→ww.cell? ⟨wr.heap.size,3,none⟩=some (.bool l[k].2.2.2.1)):=fun ww hk=>(box_node' wr l[k] xo xc (by rw [hW3] at hk;exact hk)).2.2.2.1
   have HN:=HNO.out k hlt
   have HKW:Hid (∀ ww,Same0 W3 ww→Same0 w ww):=fun ww hk=>(hw.trans' kb).trans' hk
   have HY:Hid (mayB l.length l[k]=true→Hid (∀ j (hj:j<l.length),j<k+1→mayB l.length l[j]=true)):=fun e j hj hjk=>by
    by_cases q:j=k
    ·subst q;exact e
    ·exact hall.out j hj (by omega)
   clear n5 kb hn hall
   generalize l[k]=y at *
   obtain ⟨ys,ya,ym,yp,yt⟩:=y
   simp only at *
   cases yp
   ·have CA:=isApp_any (x:=(ys,ya,ym,false,yt)) n6 rfl l.length
    clear n6
    generalize mayB l.length (ys,ya,ym,false,yt)=M at *
    go_upto_region 4 with fail
    rw [← hW3]
    clear hW3 n0 n1 n2 n3 n4
    cases M
    ·have HF:Hid (l.all (mayB l.length)=false):=HN rfl
     clear HN
     go_wp2_with (first | (go_at_call 69;refine CA.mono ?_;rintro e w5 ⟨rfl,k5⟩;have z3:=HBX.out w5 k5))
     go_ret
     exact ⟨ret_bool HF.out.symm,HKW.out _ k5⟩
    ·have HY2:=HY.out (by first | rfl | trivial)
     clear HN HY
     go_wp2_with (first | (go_at_call 69;refine CA.mono ?_;rintro e w5 ⟨rfl,k5⟩;have z3:=HBX.out w5 k5))
     have hw5:=HKW.out _ k5
     go_roundw
     case rel=>exact ⟨k+1,by go_num,by omega,HY2,hw5⟩
     case measure=>simp [intOf];omega
   ·have CA:=isInd_any (x:=(ys,ya,ym,true,yt)) n6 rfl l.length
    clear n6
    generalize mayB l.length (ys,ya,ym,true,yt)=M at *
    go_upto_region 4 with fail
    rw [← hW3]
    clear hW3 n0 n1 n2 n3 n4
    cases M
    ·have HF:Hid (l.all (mayB l.length)=false):=HN rfl
     clear HN
     go_wp2_with (first | (go_at_call 68;refine CA.mono ?_;rintro e w5 ⟨rfl,k5⟩;have z3:=HBX.out w5 k5))
     go_ret
     exact ⟨ret_bool HF.out.symm,HKW.out _ k5⟩
    ·have HY2:=HY.out (by first | rfl | trivial)
     clear HN HY
     go_wp2_with (first | (go_at_call 68;refine CA.mono ?_;rintro e w5 ⟨rfl,k5⟩;have z3:=HBX.out w5 k5))
     have hw5:=HKW.out _ k5
     go_roundw
     case rel=>exact ⟨k+1,by go_num,by omega,HY2,hw5⟩
     case measure=>simp [intOf];omega
  ·obtain rfl:k=l.length:=by omega
   have HF:Hid (l.all (mayB l.length)=true):=List.all_eq_true.2 (fun x hx=>by
    obtain ⟨j,hj,rfl⟩:=List.mem_iff_getElem.1 hx
    exact hall.out j hj hj)
   clear hall
   go_wp2
   go_ret
   exact ⟨ret_bool HF.out.symm,hw⟩
def RfE (room:Nat) (l:List Nd) (e:Int):Prop:=
 (room<l.length∧e=111)∨(l.length≤room∧l.all (mayB l.length)=false∧e=114)∨(l.length≤room∧l.all (mayB l.length)=true∧¬ Ac l∧e=113)∨(l.length≤room∧l.all (mayB l.length)=true∧Ac l∧e=0)
theorem RfE.uniq {room:Nat} {l:List Nd} {e e' : Int} (h:RfE room l e) (h' : RfE room l e'):e=e' := by
 rcases h with ⟨a,b⟩ | ⟨a,b,c⟩ | ⟨a,b,c,d⟩ | ⟨a,b,c,d⟩ <;> rcases h' with ⟨a', b'⟩ | ⟨a', b', c'⟩ | ⟨a', b', c', d'⟩ | ⟨a', b', c', d'⟩ <;> first | omega | exact absurd c' c | exact absurd c c' | (rw [b] at b'; cases b'; done)
theorem few_of_may {l:List Nd} (h:l.all (mayB l.length)=true):(∀ x∈l,mayB l.length x=true)∧InL l∧∀ x∈l,x.2.1.length≤6:=by
 have h1:∀ x∈l,mayB l.length x=true:=List.all_eq_true.1 h
 exact ⟨h1,inl_of_may h1,fun x hx=>(may_facts (h1 x hx)).2.1⟩
set_option maxHeartbeats 1000000 in
theorem refill_no {B:Nat→Prop} {w:World} {h g room:Nat} {l:List Nd} (p:HpB B w h g room l) {ao:Option Addr} {ac:Nat} {l' : List Nd} (hs:NsW w ao l') (hsz:l'.length≤maxLen) {E:Int} (hE:RfE room l' E) (h0:E≠0) :
  Calls Try.prog 42 #[.pointer (some ⟨h,0,none⟩),.slice ao l'.length ac] w fun e w' => e=.returned (.int .i64 E)∧Same0 w w' := by
 unfold maxLen at hsz
 obtain ⟨c0,c1⟩:=p.cells
 have hr2:=p.rm2
 have KR:Hid (Same0 w w):=Kept.refl _ _
 clear p
 rcases hE with ⟨a,rfl⟩ | ⟨a,b,rfl⟩ | ⟨a,b,c,rfl⟩ | ⟨a,b,c,rfl⟩
 ·have j1:(room:Int)<(l'.length:Int):=by omega
  clear hs
  go_enter Try.func42,Try.ntmps42
  go_wp2
  go_ret
  exact ⟨rfl,KR.out⟩
 ·have j1:¬ (room:Int)<(l'.length:Int):=by omega
  have CS:=shaped_any (ac:=ac) hs (by omega)
  rw [b] at CS
  clear hs b
  go_enter Try.func42,Try.ntmps42
  go_wp2_with (first | (go_at_call 60;refine CS.mono ?_;rintro e w1 ⟨rfl,k1⟩))
  go_ret
  exact ⟨rfl,k1⟩
 ·have j1:¬ (room:Int)<(l'.length:Int):=by omega
  have CS:=shaped_any (ac:=ac) hs (by omega)
  obtain ⟨f1,f2,f3⟩:=few_of_may b
  have CR:Hid (∀ ww,Same0 w ww→Calls Try.prog 61 #[.slice ao l'.length ac] ww fun e w' => RingQ l' ww e w'):=fun ww hk=>ringed_any (hs.same hk) f2 f3 (by omega)
  have HNA:Hid (¬ Ac l'):=c
  rw [b] at CS
  clear hs b f1 f2 f3 c
  go_enter Try.func42,Try.ntmps42
  go_upto_region 7 with (first | (go_at_call 60;refine CS.mono ?_;rintro e w1 ⟨rfl,k1⟩))
  have CR1:=CR.out w1 k1
  clear CR CS
  go_wp2_with (first | (go_at_call 61;refine CR1.mono ?_;rintro e w2 ⟨b,rfl,hb,k2⟩;obtain rfl:b=true:=hb.2 HNA.out))
  go_ret
  exact ⟨rfl,k1.trans' k2⟩
 ·exact absurd rfl h0
theorem NRow.zero {B:Nat→Prop} {base:Nat} {w:World} {v:Value} {l:List Nd} (h:NRow B base w v l):NRow B 0 w v l:=by
 obtain ⟨vs,h1,h2⟩:=h
 exact ⟨vs,row_mono h1 (Nat.zero_le _),h2⟩
theorem NRow.mono {B B' : Nat→Prop} {base:Nat} {w:World} {v:Value} {l:List Nd} (h:NRow B base w v l) (hB:∀ k,k<w.heap.size→B k→B' k):NRow B' base w v l:=by
 obtain ⟨vs,h1,h2⟩:=h
 exact ⟨vs,h1,h2.mono hB⟩
theorem set_room {w:World} {b:Nat} {v0 v1:Value} {t:TypeId} (h:w.heap[b]? = some (.cells #[v0,v1] t (0,0))) (u:Value):(w.setCell ⟨b,1,none⟩ u).heap[b]? = some (.cells #[v0,u] t (0,0)):=setAt h 1 u
def RfN (w:World) (r room:Nat) (l:List Nd) (E:Int) (w' : World):Prop:=
 (E≠0∧Same0 w w')∨(E=0∧∃ v,RhB (fun b=>w.heap.size≤b) w' r room v l∧Kept (fun k=>k=r) w w' ∧ ∀ k,v.ownBlock=some k→w.heap.size≤k)
set_option maxHeartbeats 2000000 in
theorem rrefill_any {B:Nat→Prop} {w:World} {r room:Nat} {v:Value} {l:List Nd} (p:RhB B w r room v l) {ao:Option Addr} {ac:Nat} {l' : List Nd} (hs:NsW w ao l') (hsz:l'.length≤maxLen) {E:Int} (hE:RfE room l' E) :
  Calls Try.prog 43 #[.pointer (some ⟨r,0,none⟩),.slice ao l'.length ac] w fun e w' => e=.returned (.int .i64 E)∧RfN w r room l' E w' := by
 unfold maxLen at hsz
 obtain ⟨c0,c1⟩:=p.cells
 have hr2:=p.rm2
 have KR:Same0 w w:=Kept.refl _ _
 have HE:Hid (∀ e,RfE room l' e→e=E):=fun e he=>he.uniq hE
 have HP:Hid (∀ ww,Same0 w ww→RhB B ww r room v l):=fun ww hk=>p.same hk
 have HX:Hid (∀ ww,Same0 w ww→NsW ww ao l'):=fun ww hk=>hs.same hk
 clear p hs hE
 by_cases a:room<l'.length
 ·have j1:(room:Int)<(l'.length:Int):=by omega
  obtain rfl:111=E:=HE.out 111 (.inl ⟨a,rfl⟩)
  have KH:Hid (Same0 w w):=KR
  clear KR HE
  go_enter Try.func43,Try.ntmps43
  go_wp2
  go_ret
  exact ⟨rfl,.inl ⟨by decide,KH.out⟩⟩
 ·have j1:¬ (room:Int)<(l'.length:Int):=by omega
  have l0:(0:Int)≤(l'.length:Int):=by omega
  have l1:(l'.length:Int)≤4000:=by omega
  have HA:Hid (l'.length≤room):=by show _≤_;omega
  go_enter Try.func43,Try.ntmps43
  go_upto_region 4 with fail
  clear c0 c1
  go_loopw [5] (fun i wr=>∃ k:Nat,i=.int .i64 (k:Int)∧k≤l'.length∧Hid (∀ j (hj:j<l'.length),j<k→mayB l'.length l'[j]=true)∧Same0 w wr) (fun i _=>l'.length-(intOf i).toNat)
  case atStart=>exact ⟨0,rfl,Nat.zero_le _,fun j _ hj=>absurd hj (Nat.not_lt_zero _),KR⟩
  case round=>
   clear KR
   obtain ⟨k,rfl,hk,hall,hw⟩:=hrel
   by_cases hlt:k<l'.length
   ·have j2:(k:Int)<(l'.length:Int):=by omega
    have j3:(0:Int)≤(k:Int):=by omega
    rcases HX.out wr hw with e | ⟨nb,noff,e,hnb,hn⟩
    ·rw [e] at hlt;simp at hlt
    subst e
    obtain ⟨xo,xc,n0,n1,n2,n3,n4,n5⟩:=hn k hlt
    have CM:=rmay_any n5 l'.length
    have HAF:mayB l'.length l'[k]=false→l'.all (mayB l'.length)=false:=fun e=>by
     rw [Bool.eq_false_iff]
     intro q
     rw [List.all_eq_true] at q
     rw [q _ (List.getElem_mem hlt)] at e
     cases e
    have HN:Hid (mayB l'.length l'[k]=false→114=E):=fun e=>HE.out 114 (.inr (.inl ⟨HA.out,HAF e,rfl⟩))
    clear HAF
    have HY:Hid (mayB l'.length l'[k]=true→Hid (∀ j (hj:j<l'.length),j<k+1→mayB l'.length l'[j]=true)):=fun e j hj hjk=>by
     by_cases q:j=k
     ·subst q;exact e
     ·exact hall.out j hj (by omega)
    clear n5 hn hall
    generalize mayB l'.length l'[k]=R at *
    cases R
    ·obtain rfl:114=E:=HN.out rfl
     clear HN HY HE
     go_wp2_with (first | (go_at_call 62;refine CM.mono ?_;rintro e w5 ⟨rfl,k5⟩))
     go_ret
     exact ⟨rfl,.inl ⟨by decide,hw.trans' k5⟩⟩
    ·have HY2:=HY.out rfl
     clear HN HY
     go_wp2_with (first | (go_at_call 62;refine CM.mono ?_;rintro e w5 ⟨rfl,k5⟩))
     have hw5:=hw.trans' k5
     go_roundw
     case rel=>exact ⟨k+1,by go_num,by omega,HY2,hw5⟩
     case measure=>simp [intOf];omega
   ·obtain rfl:k=l'.length:=by omega
    have hal:l'.all (mayB l'.length)=true:=List.all_eq_true.2 (fun x hx=>by
     obtain ⟨j,hj,rfl⟩:=List.mem_iff_getElem.1 hx
     exact hall.out j hj hj)
    obtain ⟨f1,f2,f3⟩:=few_of_may hal
    have HALL:Hid (l'.all (mayB l'.length)=true):=hal
    have HF1:Hid (∀ x∈l', mayB l'.length x=true):=f1
    have CR:=ring_any (ac:=ac) (HX.out wr hw) f2 f3 (by omega)
    have CN:Hid (∀ ww,Same0 w ww→Calls Try.prog 41 #[.slice ao l'.length ac] ww fun e w' => ∃ v,e=.returned v∧NRow (fun b=>ww.heap.size≤b) ww.heap.size w' v l' ∧ Same0 ww w'):=fun ww hk=>rnodes_any (HX.out ww hk) (by omega)
    clear hall hal f1 f2 f3 HX hk hlt
    go_upto_region 9 with (first | (go_at_call 63;refine CR.mono ?_;rintro e w6 ⟨b,rfl,hb,k6⟩))
    clear CR
    have hw6:=hw.trans' k6
    cases b
    ·have hac:Ac l' := by
      by_cases q:Ac l'
      ·exact q
      ·exact absurd (hb.2 q) (by simp)
     have HAC:Hid (Ac l'):=hac
     obtain rfl:0=E:=HE.out 0 (.inr (.inr (.inr ⟨HA.out,HALL.out,hac,rfl⟩)))
     have C7:=CN.out w6 hw6
     have HP7:Hid (∀ ww,Same0 w6 ww→ww.cell? ⟨r,0,none⟩=some (.int .i64 (room:Int))∧ww.cell? ⟨r,1,none⟩=some v∧ww.frozen? ⟨r,1,none⟩=false):=fun ww hk=>by
      have p7:=HP.out ww (hw6.trans' hk)
      exact ⟨p7.cells.1,p7.cells.2,frozenAt p7.box 1⟩
     clear hb hac HE CN
     go_wp2_with (first | (go_at_call 41;refine C7.mono ?_;rintro e w7 ⟨v7,rfl,hr7,k7⟩;obtain ⟨vo7,vc7,rfl⟩:=hr7.shape;obtain ⟨z0,z1,z2⟩:=HP7.out w7 k7))
     go_ret
     have p7:=HP.out w7 (hw6.trans' k7)
     have K8:Kept (fun k=>k=r) w7 (w7.setCell ⟨r,1,none⟩ (.slice vo7 l'.length vc7)):=Kept.setCell (S:=fun k=>k=r) (Kept.refl _ _) (p:=⟨r,1,none⟩) (fun _=>rfl) _
     have hlt6:r<w6.heap.size:=(HP.out w6 hw6).lt
     refine ⟨rfl,.inr ⟨rfl,_,⟨set_room p7.box _,?_,p7.rm1,p7.rm2,HA.out,HF1.out,HAC.out⟩,(Kept.mono (hw6.trans' k7) (fun _ _ f=>f.elim)).trans K8 (fun _ _ e=>e),fun k e=>Nat.le_trans hw6.size (hr7.block e).1⟩⟩
     exact ((hr7.kept K8 (fun k e q=>by have:=(hr7.block e).1;omega) (fun k _ e=>by rw [e];exact p7.noti)).zero).mono (fun k _ q=>Nat.le_trans hw6.size q)
    ·obtain rfl:113=E:=HE.out 113 (.inr (.inr (.inl ⟨HA.out,HALL.out,hb.1 rfl,rfl⟩)))
     clear hb CN HE
     go_wp2
     go_ret
     exact ⟨rfl,.inl ⟨by decide,hw6⟩⟩
def hasB (n:Nat) (a:Int):Bool:=decide (0≤a) && decide (a<(n:Int))
theorem hasB_yes {n:Nat} {a:Int} (h:0≤a∧a<(n:Int)):hasB n a=true:=by unfold hasB;simp [h]
theorem hasB_no {n:Nat} {a:Int} (h:¬ (0≤a∧a<(n:Int))):hasB n a=false:=by
 unfold hasB
 rw [Bool.eq_false_iff]
 intro q
 simp at q
 exact h q
set_option maxHeartbeats 1000000 in
theorem rhas_any {w:World} {r n cap:Nat} {ao:Option Addr} (c1:w.cell? ⟨r,1,none⟩=some (.slice ao n cap)) (hn:n≤maxLen) (a:Int) :
  Calls Try.prog 56 #[.pointer (some ⟨r,0,none⟩),.int .i64 a] w fun e w' => e=.returned (.bool (hasB n a))∧w' = w:=by
 unfold maxLen at hn
 have HE:Hid (hasB n a=(decide (0≤a) && decide (a<(n:Int)))):=rfl
 generalize hasB n a=R at *
 by_cases h1:0≤a
 ·by_cases h2:a<(n:Int)
  ·have HR:Hid (R=true):=by show _=_;rw [HE.out];simp [h1,h2]
   clear HE
   go_enter Try.func56,Try.ntmps56
   go_wp2
   go_ret
   exact ⟨ret_bool HR.out.symm,rfl⟩
  ·have HR:Hid (R=false):=by show _=_;rw [HE.out];simp [h2]
   clear HE
   go_enter Try.func56,Try.ntmps56
   go_wp2
   go_ret
   exact ⟨ret_bool HR.out.symm,rfl⟩
 ·have HR:Hid (R=false):=by show _=_;rw [HE.out];simp [h1]
  clear HE
  go_enter Try.func56,Try.ntmps56
  go_wp2
  go_ret
  exact ⟨ret_bool HR.out.symm,rfl⟩
set_option maxHeartbeats 1000000 in
theorem rres_no {w:World} {r n cap:Nat} {ao:Option Addr} (c1:w.cell? ⟨r,1,none⟩=some (.slice ao n cap)) (hn:n≤maxLen) (a:Int) (ha:¬ (0≤a∧a<(n:Int))) :
  Calls Try.prog 33 #[.pointer (some ⟨r,0,none⟩),.int .i64 a] w fun e w' => e=.returned (.tuple #[.int .i64 0,.int .i64 112])∧w' = w:=by
 have C:=rhas_any c1 hn a
 rw [hasB_no ha] at C
 clear ha
 go_enter Try.func33,Try.ntmps33
 go_wp2_with (first | (go_at_call 56;refine C.mono ?_;rintro e w' ⟨rfl,h'⟩;have h' := h'.symm;subst h'))
 go_ret2
 exact ⟨rfl,rfl⟩
set_option maxHeartbeats 2000000 in
theorem rres_yes {w:World} {r cap:Nat} {ao:Option Addr} {l:List Nd} (c1:w.cell? ⟨r,1,none⟩=some (.slice ao l.length cap)) (hs:NsW w ao l) (hn:l.length≤maxLen) (hin:InL l) (hac:Ac l) (i:Nat) (hi:i<l.length) :
  Calls Try.prog 33 #[.pointer (some ⟨r,0,none⟩),.int .i64 (i:Int)] w fun e w' => ∃ b:Nat,e=.returned (.tuple #[.int .i64 (b:Int),.int .i64 0])∧Res l i b∧w' = w:=by
 have C:=rhas_any c1 hn (i:Int)
 rw [hasB_yes (by omega)] at C
 obtain ⟨rk,hr⟩:=hac
 have HR:Hid (∀ i j,Ed l i j→rk j<rk i):=hr
 have HI:Hid (InL l):=hin
 rcases hs with e | ⟨nb,noff,rfl,hnb,hc⟩
 ·subst e;simp at hi
 have HE:Hid (∀ j (hj:j<l.length),∃ xo xc,w.cell? ⟨nb,noff+j * 5,none⟩=some (.int .i64 l[j].1)∧w.cell? ⟨nb,noff+j * 5+1,none⟩=some (.slice xo l[j].2.1.length xc)∧w.cell? ⟨nb,noff+j * 5+2,none⟩=some (.int .i64 l[j].2.2.1)∧w.cell? ⟨nb,noff+j * 5+3,none⟩=some (.bool l[j].2.2.2.1)∧w.cell? ⟨nb,noff+j * 5+4,none⟩=some (.int .i64 l[j].2.2.2.2)∧Arg w xo l[j].2.1 xc):=hc
 unfold maxLen at hn
 clear hr hin hc hnb
 go_enter Try.func33,Try.ntmps33
 go_upto_region 3 with (first | (go_at_call 56;refine C.mono ?_;rintro e w' ⟨rfl,h'⟩;have h' := h'.symm;subst h'))
 clear C
 go_loop [1] (fun v=>∃ a:Nat,a<l.length∧v=.int .i64 (a:Int)∧Hid (∃ k,Ind l k i a)) (fun v=>rk (intOf v).toNat)
 case atStart=>exact ⟨i,hi,rfl,0,rfl⟩
 case round=>
  obtain ⟨a,ha,rfl,hk⟩:=hrel
  obtain ⟨xo,xc,n0,n1,n2,n3,n4, -⟩:=HE.out a ha
  have i1:(0:Int)≤(a:Int):=by omega
  have i2:(a:Int)<(l.length:Int):=by omega
  cases hp:l[a].2.2.2.1
  ·rw [hp] at n3
   have HP:Hid (l[a].2.2.2.1=false):=hp
   clear hp n0 n1 n2 n4
   go_wp2
   go_ret2
   exact ⟨a,rfl,⟨hk.out,ha,HP.out⟩,rfl⟩
  ·rw [hp] at n3
   have HP:Hid (l[a].2.2.2.1=true):=hp
   obtain ⟨m1,m2⟩:=HI.out a ha l[a].2.2.2.2 (by unfold downL;rw [hp];simp)
   obtain ⟨t,ht⟩:∃ t:Nat,l[a].2.2.2.2=(t:Int):=⟨l[a].2.2.2.2.toNat,by omega⟩
   have HT:Hid (l[a].2.2.2.2=(t:Int)):=ht
   rw [ht] at n4
   have hlt:t<l.length:=by omega
   clear hp n0 n1 n2 m1 m2 ht
   go_wp2
   go_round
   case rel=>exact ⟨t,hlt,rfl,by
    obtain ⟨k,hk⟩:=hk.out
    have:=hk.snoc ha HP.out
    rw [HT.out] at this
    exact ⟨k+1,by simpa using this⟩⟩
   case measure=>
    have:=HR.out a t (by have:=ed_ind ha HP.out (by rw [HT.out];omega);rw [HT.out] at this;simpa using this)
    simpa [intOf] using this
set_option maxHeartbeats 1000000 in
theorem rat_no {B:Nat→Prop} {w:World} {r room:Nat} {v:Value} {l:List Nd} (p:RhB B w r room v l) (a:Int) (ha:¬ (0≤a∧a<(l.length:Int))) :
  Calls Try.prog 31 #[.pointer (some ⟨r,0,none⟩),.int .i64 a] w fun e w' => e=.returned (.tuple #[nodeV (0,[],0,false,0) none 0,.int .i64 112])∧Same0 w w' := by
 obtain ⟨W0,hW0⟩:∃ W0,W0=w.alloc (.cells #[.int .i64 0,.slice none 0 0,.int .i64 0,.bool false,.int .i64 0] 47):=⟨_,rfl⟩
 have k0:Same0 w W0:=by rw [hW0];exact (Kept.refl _ w).alloc _
 have hb:W0.heap[w.heap.size]? = some (.cells #[.int .i64 0,.slice none 0 0,.int .i64 0,.bool false,.int .i64 0] 47 (0,0)):=by rw [hW0];exact heap_alloc_new w _
 obtain ⟨ao,cap,rfl⟩:=p.row.shape
 have C:=rhas_any (p.same k0).cells.2 (by unfold maxLen;have:=p.le;have:=p.rm2;omega) a
 rw [hasB_no ha] at C
 obtain ⟨b0,b1,b2,b3,b4⟩:=box5 hb
 obtain ⟨g0,g1,g2,g3,g4⟩:=free5 hb
 have K:Hid (Same0 w (put5 W0 w.heap.size 0 (.int .i64 0) (.slice none 0 0) (.int .i64 0) (.bool false) (.int .i64 0))):=k0.trans (put5_kept _ _ _ _ _ _ _ _) (fun i hi e=>by omega)
 clear p ha k0 hb
 go_enter Try.func31,Try.ntmps31
 go_upto_region 1 with fail
 rw [← hW0]
 clear hW0
 go_wp2_with (first | (go_at_call 56;refine C.mono ?_;rintro e w' ⟨rfl,h'⟩;have h' := h'.symm;subst h'))
 exact bodyPost_ret (v:=.tuple #[nodeV (0,[],0,false,0) none 0,.int .i64 112]) (by simp [results,Try.results31,go_sem,b0,b1,b2,b3,b4]) rfl ⟨rfl,K.out⟩
set_option maxHeartbeats 2000000 in
theorem rat_yes {B:Nat→Prop} {w:World} {r room:Nat} {v:Value} {l:List Nd} (p:RhB B w r room v l) (i:Nat) (hi:i<l.length) :
  Calls Try.prog 31 #[.pointer (some ⟨r,0,none⟩),.int .i64 (i:Int)] w fun e w' => ∃ bo bc,e=.returned (.tuple #[nodeV l[i] bo bc,.int .i64 0])∧NdOut w w' l[i] bo bc:=by
 obtain ⟨W0,hW0⟩:∃ W0,W0=w.alloc (.cells #[.int .i64 0,.slice none 0 0,.int .i64 0,.bool false,.int .i64 0] 47):=⟨_,rfl⟩
 have k0:Same0 w W0:=by rw [hW0];exact (Kept.refl _ w).alloc _
 have hb:W0.heap[w.heap.size]? = some (.cells #[.int .i64 0,.slice none 0 0,.int .i64 0,.bool false,.int .i64 0] 47 (0,0)):=by rw [hW0];exact heap_alloc_new w _
 have hz:W0.heap.size=w.heap.size+1:=by rw [hW0];simp
 obtain ⟨ao,cap,rfl⟩:=p.row.shape
 have p0:=p.same k0
 have c1:=p0.cells.2
 have C:=rhas_any c1 (by unfold maxLen;have:=p.le;have:=p.rm2;omega) (i:Int)
 rw [hasB_yes (by omega)] at C
 rcases p0.row.mem.weak with e | ⟨nb,noff,e,hnb,hn⟩
 ·rw [e] at hi;simp at hi
 subst e
 obtain ⟨xo,xc,n0,n1,n2,n3,n4,n5⟩:=hn i hi
 have i1:(0:Int)≤(i:Int):=by omega
 have i2:(i:Int)<(l.length:Int):=by omega
 obtain ⟨W1,hW1⟩:∃ W1,W1=W0.alloc (.cells #[.int .i64 l[i].1,.slice xo l[i].2.1.length xc,.int .i64 l[i].2.2.1,.bool l[i].2.2.2.1,.int .i64 l[i].2.2.2.2] 47):=⟨_,rfl⟩
 have k1:Same0 W0 W1:=by rw [hW1];exact (Kept.refl _ _).alloc _
 have hb1:W1.heap[W0.heap.size]? = some (.cells #[.int .i64 l[i].1,.slice xo l[i].2.1.length xc,.int .i64 l[i].2.2.1,.bool l[i].2.2.2.1,.int .i64 l[i].2.2.2.2] 47 (0,0)):=by rw [hW1];exact heap_alloc_new W0 _
 obtain ⟨x0,x1,x2,x3,x4⟩:=box5 hb1
 have CC:=rcopied_any (n5.onto k1)
 have HB:Hid (∀ ww,Same0 W1 ww→ww.heap[w.heap.size]? = some (.cells #[.int .i64 0,.slice none 0 0,.int .i64 0,.bool false,.int .i64 0] 47 (0,0))∧ww.heap[W0.heap.size]? = some (.cells #[.int .i64 l[i].1,.slice xo l[i].2.1.length xc,.int .i64 l[i].2.2.1,.bool l[i].2.2.2.1,.int .i64 l[i].2.2.2.2] 47 (0,0))):=fun ww hk=>⟨(k1.trans' hk).at0 hb,hk.at0 hb1⟩
 have HK:Hid (∀ ww,Same0 W1 ww→Same0 w ww):=fun ww hk=>(k0.trans' k1).trans' hk
 have HZ:Hid (w.heap.size<W0.heap.size∧W0.heap.size<W1.heap.size):=⟨by omega,by rw [hW1];simp⟩
 have hlt:w.heap.size<W0.heap.size:=by omega
 clear p p0 k0 hb k1 hz n5 hn hnb hb1
 go_enter Try.func31,Try.ntmps31
 go_upto_region 1 with fail
 rw [← hW0]
 clear hW0
 go_upto_region 4 with (first | (go_at_call 56;refine C.mono ?_;rintro e w' ⟨rfl,h'⟩;have h' := h'.symm;subst h'))
 rw [← hW1]
 clear hW1 C n0 n1 n2 n3 n4 c1
 go_upto_region 5 with (first | (go_at_call 57;refine CC.mono ?_;rintro e w1 ⟨bo,bc,rfl,ha,hbb,hk⟩;obtain ⟨q1,q2⟩:=HB.out w1 hk;obtain ⟨b0,b1,b2,b3,b4⟩:=box5 q1;obtain ⟨g0,g1,g2,g3,g4⟩:=free5 q1;obtain ⟨a0,a1,a2,a3,a4⟩:=box5 q2;obtain ⟨-,f1, -, -, -⟩:=free5 q2))
 clear x0 x1 x2 x3 x4 CC
 have hne:w.heap.size≠W0.heap.size:=by omega
 go_wp2
 have K6:=set6_kept w1 W0.heap.size w.heap.size (.slice bo l[i].2.1.length bc) (.int .i64 l[i].1) (.slice bo l[i].2.1.length bc) (.int .i64 l[i].2.2.1) (.bool l[i].2.2.2.1) (.int .i64 l[i].2.2.2.2)
 have hx:∀ a,bo=some a→W0.heap.size<a.block:=fun a e=>by have:=hbb a e;have:=HZ.out.2;omega
 have R1:=ha.kept' K6 (fun a e s=>by have:=hx a e;omega)
 have R2:Same0 w _:=(HK.out w1 hk).trans K6 (fun i hi e=>by omega)
 exact bodyPost_ret (v:=.tuple #[nodeV l[i] bo bc,.int .i64 0]) (by simp [results,Try.results31,go_sem,b0,b1,b2,b3,b4]) rfl ⟨bo,bc,rfl,R1,fun a e=>by have:=hx a e;omega,R2⟩
structure Un (l:List Nd) (fr:List Int) (s:List Bool) (T:List Int):Prop where
 len:s.length=l.length
 rng:∀ z∈T,0≤z∧z<(l.length:Int)
 snd:∀ x,Mk s x→∃ f∈fr,Rc l f.toNat x
 sndT:∀ z∈T,∃ f∈fr,Rc l f.toNat z.toNat
 cmp:∀ f∈fr,Mk s f.toNat∨f∈T
 cl:∀ x,Mk s x→∀ j,Ed l x j→Mk s j∨(j:Int)∈T
 cnt:T.length+6 * s.count false≤fr.length+6 * l.length
theorem mk_none (n x:Nat):¬ Mk (List.replicate n false) x:=by
 unfold Mk
 rw [List.getElem?_replicate]
 split <;> simp
theorem Un.start {l:List Nd} {fr:List Int} (h:∀ z∈fr,0≤z∧z<(l.length:Int)):Un l fr (List.replicate l.length false) fr:=
 ⟨by simp,h,fun x hx=>absurd hx (mk_none _ _),fun z hz=>⟨z,hz,Rc.refl _ _⟩,fun f hf=>.inr hf,fun x hx=>absurd hx (mk_none _ _),by simp⟩
theorem Un.skip {l:List Nd} {fr:List Int} {s:List Bool} {T:List Int} {x:Nat} (h:Un l fr s (T ++ [(x:Int)])) (hx:Mk s x):Un l fr s T:=by
 refine ⟨h.len,fun z hz=>h.rng z (by simp [hz]),h.snd,fun z hz=>h.sndT z (by simp [hz]),fun f hf=>?_,fun y hy j e=>?_,?_⟩
 ·rcases h.cmp f hf with q | q
  ·exact .inl q
  ·rcases List.mem_append.1 q with q | q
   ·exact .inr q
   ·simp at q;subst q;exact .inl (by simpa using hx)
 ·rcases h.cl y hy j e with q | q
  ·exact .inl q
  ·rcases List.mem_append.1 q with q | q
   ·exact .inr q
   ·have:j=x:=by simp at q;omega
    subst this;exact .inl hx
 ·have:=h.cnt;simp at this;omega
theorem Un.take {l:List Nd} {fr:List Int} {s:List Bool} {T:List Int} {x:Nat} (h:Un l fr s (T ++ [(x:Int)])) (hx:s[x]? = some false) (hl:x<l.length) (hd:(downL l[x]).length≤6) (hin:InL l):Un l fr (s.set x true) (T++downL l[x]):=by
 have hxs:x<s.length:=(List.getElem?_eq_some_iff.1 hx).1
 obtain ⟨f0,hf0,hr0⟩:=h.sndT (x:Int) (by simp)
 rw [Int.toNat_natCast] at hr0
 have hc:=count_set hx
 refine ⟨by simp [h.len],fun z hz=>?_,fun y hy=>?_,fun z hz=>?_,fun f hf=>?_,fun y hy j e=>?_,?_⟩
 ·rcases List.mem_append.1 hz with q | q
  ·exact h.rng z (by simp [q])
  ·exact hin x hl z q
 ·rcases (Mk.set hxs y).1 hy with q | q
  ·exact h.snd y q
  ·subst q;exact ⟨f0,hf0,hr0⟩
 ·rcases List.mem_append.1 hz with q | q
  ·exact h.sndT z (by simp [q])
  ·have:=hin x hl z q
   exact ⟨f0,hf0,hr0.snoc ⟨hl,by rw [Int.toNat_of_nonneg this.1];exact q⟩⟩
 ·rcases h.cmp f hf with q | q
  ·exact .inl ((Mk.set hxs _).2 (.inl q))
  ·rcases List.mem_append.1 q with q | q
   ·exact .inr (by simp [q])
   ·simp at q;subst q;exact .inl ((Mk.set hxs _).2 (.inr (by simp)))
 ·by_cases ey:y=x
  ·subst ey
   exact .inr (List.mem_append.2 (.inr e.2))
  ·rcases (Mk.set hxs y).1 hy with q | q
   ·rcases h.cl y q j e with t | t
    ·exact .inl ((Mk.set hxs _).2 (.inl t))
    ·rcases List.mem_append.1 t with t | t
     ·exact .inr (by simp [t])
     ·have:j=x:=by simp at t;omega
      exact .inl ((Mk.set hxs _).2 (.inr this))
   ·exact absurd q ey
 ·have:=h.cnt
  simp at this ⊢
  omega
theorem Un.done {l:List Nd} {fr:List Int} {s:List Bool} (h:Un l fr s []) (x:Nat):Mk s x ↔ ∃ f∈fr,Rc l f.toNat x:=by
 refine ⟨h.snd x,?_⟩
 rintro ⟨f,hf,hr⟩
 refine Rc.in (S:=fun j=>Mk s j) (fun i j hi e=>?_) ?_ hr
 ·rcases h.cl i hi j e with q | q
  ·exact q
  ·simp at q
 ·rcases h.cmp f hf with q | q
  ·exact q
  ·simp at q
set_option maxHeartbeats 1000000 in
theorem down_arg {w:World} {x:Nd} {ao:Option Addr} {ac:Nat} (hx:Arg w ao x.2.1 ac) :
  Calls Try.prog 67 #[nodeV x ao ac] w fun e w' => ∃ bo bc,e=.returned (.slice bo (downL x).length bc)∧IntsAt w' bo (downL x)∧(bo=none→(downL x).length=0∧bc=0)∧Same0 w w' := by
 obtain ⟨W0,hW0⟩:∃ W0,W0=w.alloc (.cells #[.int .i64 x.1,.slice ao x.2.1.length ac,.int .i64 x.2.2.1,.bool x.2.2.2.1,.int .i64 x.2.2.2.2] 47):=⟨_,rfl⟩
 have k0:Same0 w W0:=by rw [hW0];exact (Kept.refl _ w).alloc _
 have hb:W0.heap[w.heap.size]? = some (.cells #[.int .i64 x.1,.slice ao x.2.1.length ac,.int .i64 x.2.2.1,.bool x.2.2.2.1,.int .i64 x.2.2.2.2] 47 (0,0)):=by rw [hW0];exact heap_alloc_new w _
 obtain ⟨b0,b1,b2,b3,b4⟩:=box5 hb
 obtain ⟨pb,hp⟩:∃ pb,x.2.2.2.1=pb:=⟨_,rfl⟩
 cases pb
 ·have hd:downL x=x.2.1:=by unfold downL;rw [hp];rfl
  have H:Hid (IntsAt W0 ao x.2.1∧(ao=none→x.2.1.length=0∧ac=0)∧Same0 w W0):=⟨hx.at'.same k0,hx.nil,k0⟩
  rw [hd]
  rw [hp] at b3
  clear hd hx k0 hb hp
  go_enter Try.func67,Try.ntmps67
  go_upto_region 1 with fail
  rw [← hW0]
  clear hW0
  go_wp2
  go_ret
  exact ⟨ao,ac,rfl,H.out.1,H.out.2.1,H.out.2.2⟩
 ·have hd:downL x=[x.2.2.2.2]:=by unfold downL;rw [hp];rfl
  have H:Hid (IntsAt (W0.alloc (.cells #[.int .i64 x.2.2.2.2] 3)) (some ⟨W0.heap.size,0,none⟩) [x.2.2.2.2]∧Same0 w (W0.alloc (.cells #[.int .i64 x.2.2.2.2] 3))):=⟨ints_one _ _,k0.alloc _⟩
  rw [hd]
  rw [hp] at b3
  clear hd hx k0 hb hp
  go_enter Try.func67,Try.ntmps67
  go_upto_region 1 with fail
  rw [← hW0]
  clear hW0
  go_wp2
  go_ret
  exact ⟨_,1,rfl,H.out.1,(fun e=>by cases e),H.out.2⟩
theorem wpList_moreW {w0:World} {ops:Array Oper} {rest:List Oper} {o:Oper} {a:Act} {Q:Exit→Act→World→Prop} (hgd:o.guard=none) (s x:Operand) (t:TypeId)
  (ho:o.op=.call { callee:=.builtin .append,args:=#[s,x],argTypes:=#[t,t] }) (ht:Try.prog.underlying t=some (.slice 3))
  (base:Nat) (xs:List Int) (v:Value) (hs:a.eval s=v) (hr:Row base w0 v xs) (ys:List Int) (ao:Option Addr) (m c:Nat) (hx:a.eval x=.slice ao m c) (hm:m=ys.length) (hy:IntsAt w0 ao ys) (hnil:ao=none→ys.length=0∧c=0) (hb:base≤w0.heap.size) (hsz:xs.length+ys.length≤20000000000000)
  (h:∀ v' w', Row base w' v' (xs++ys)→Kept (fun k=>v.ownBlock=some k) w0 w' → wpList Try.prog ops Q rest (a.put o.dst v') w') :
  wpList Try.prog ops Q (o :: rest) a w0:=by
 subst hm
 obtain ⟨i,hi,hz0,hz1,hz2⟩:=info_parts info_intT
 cases ao with
 | none=>
  obtain ⟨h1,rfl⟩:=hnil rfl
  have:ys=[]:=List.eq_nil_of_length_eq_zero h1
  subst this
  exact wpList_append_own_none hgd s x t ho base 3 i 1 ht hi v xs.length (iv xs) hs hr hx (h v w0 (by simpa using hr) (Kept.refl _ _))
 | some ad=>
  by_cases h0:ys=[]
  ·subst h0
   refine wpList_append_own_wide _ hgd s x t ho base 3 i (.int .i64 0) 1 8 ht hi hz0 hz1 hz2 rfl (by decide) v xs.length (iv xs) hs hr ad 0 c [] hx rfl (fun j u hj=>by simp at hj) (fun u hu=>by cases hu) (by unfold maxLen;omega) (by simp at hsz;omega) hb ?_
   intro v' w' hown hgrow _
   exact h v' w' (by simpa [Row] using hown) (Kept.grown (Kept.refl _ w0) hgrow (fun _ e _=>e))
  ·have hy' : ∀ j u,(iv ys)[j]? = some u→w0.cell? (ad.add j)=some u:=by
    have hpos:0<(iv ys).length:=by rw [iv_length];exact List.length_pos_iff.2 h0
    obtain ⟨ad', e,hh⟩:=hy.src hpos
    cases e
    exact hh
   refine wpList_append_own_wide _ hgd s x t ho base 3 i (.int .i64 0) 1 8 ht hi hz0 hz1 hz2 rfl (by decide) v xs.length (iv xs) hs hr ad ys.length c (iv ys) hx (by simp [iv_length]) hy' (iv_oneCell ys) (by unfold maxLen;omega) (by omega) hb ?_
   intro v' w' hown hgrow _
   refine h v' w' ?_ (Kept.grown (Kept.refl _ w0) hgrow (fun _ e _=>e))
   unfold Row;rw [iv_append,List.length_append];exact hown
def lenV:Value→Nat
 | .slice _ n _=>n
 | _=>0
def UnQ (l:List Nd) (fr:List Int) (w:World) (e:Ending) (w' : World):Prop:=
 ∃ mb s,e=.returned (.slice (some ⟨mb,0,none⟩) l.length l.length)∧w.heap.size≤mb∧w'.ownsRow mb 4 1 (.slice (some ⟨mb,0,none⟩) l.length l.length) l.length (bv s)∧(∀ x,Mk s x ↔ ∃ f∈fr,Rc l f.toNat x)∧Same0 w w'
set_option maxHeartbeats 2000000 in
theorem under_any {w:World} {ao fo:Option Addr} {ac fc:Nat} {l:List Nd} {fr:List Int} (h:NsW w ao l) (hf:Arg w fo fr fc) (hr:∀ z∈fr,0≤z∧z<(l.length:Int)) (hin:InL l) (few:∀ x∈l,x.2.1.length≤6) (hN:l.length≤4000) (hfr:fr.length≤17592186044416) :
  Calls Try.prog 58 #[.slice ao l.length ac,.slice fo fr.length fc] w fun e w' => UnQ l fr w e w' := by
 obtain ⟨i,hi,hz0,hz1,hz2⟩:=info_parts info_boolT
 have HL:Hid (∀ ww,Same0 w ww→NsW ww ao l):=fun ww hk=>h.same hk
 have HI:Hid (InL l):=hin
 have HW:Hid (∀ x∈l,x.2.1.length≤6):=few
 have HU0:Hid (Un l fr (List.replicate l.length false) fr):=Un.start hr
 have HFR:Hid (fr.length≤17592186044416):=hfr
 obtain ⟨N,hNe⟩:∃ N,N=l.length:=⟨_,rfl⟩
 have HNE:Hid (N=l.length):=hNe
 have HQ:Hid (∀ e w', (∃ mb s,e=.returned (.slice (some ⟨mb,0,none⟩) N N)∧w.heap.size≤mb∧w'.ownsRow mb 4 1 (.slice (some ⟨mb,0,none⟩) N N) N (bv s)∧(∀ x,Mk s x ↔ ∃ f∈fr,Rc l f.toNat x)∧Same0 w w')→UnQ l fr w e w'):=fun e w' hq=>by rw [hNe] at hq;exact hq
 rw [← hNe] at hN HU0 ⊢
 have i5:(0:Int)≤(N:Int):=by omega
 have HCF:Hid (∀ ww,Same0 w ww→Arg ww fo fr fc):=fun ww hk=>hf.onto hk
 clear h hin few hNe hf hr hfr
 go_enter Try.func58,Try.ntmps58
 go_upto_region 2 with (first | (at_make;refine wpList_make_full _ rfl _ _ 92 rfl w.heap.size 4 i _ 1 Try.underlying92 hi hz0 hz1 _ _ _ _ N rfl rfl rfl rfl (by rw [hz2];omega) (by unfold maxLen;omega) (Nat.le_refl _) ?_;intro w1 hown hgrow))
 rw [made_bools] at hown
 have K1:Same0 w w1:=Same0.grown (Kept.refl _ w) hgrow
 obtain ⟨mb,hmb⟩:∃ mb,mb=w.heap.size:=⟨_,rfl⟩
 have hlo:w.heap.size≤mb:=by omega
 have hmb1:mb<w1.heap.size:=by rw [hmb];exact (hown.lt w.heap.size rfl).2
 rw [← hmb] at hown ⊢
 have HR1:Hid (w1.ownsRow mb 4 1 (.slice (some ⟨mb,0,none⟩) N N) N (bv (List.replicate N false))):=hown
 have CC:=rcopied_row (HCF.out w1 K1)
 clear hmb hown hgrow hz0 hz1 hz2 hi HCF
 go_upto_region 3 with (first | (go_at_call 57;refine CC.mono ?_;rintro e w2 ⟨v2,rfl,hr2,k2⟩))
 have HR2:Hid (w2.ownsRow mb 4 1 (.slice (some ⟨mb,0,none⟩) N N) N (bv (List.replicate N false))):=k2.row HR1.out (fun _ _ f=>f)
 have HT2:Hid (Row (mb+1) w2 v2 fr):=row_mono hr2 hmb1
 have K2:=K1.trans' k2
 have hmb2:mb<w2.heap.size:=Nat.lt_of_lt_of_le hmb1 k2.size
 clear CC hr2 k2 K1 HR1 hmb1
 go_loopw [6] (fun tv wr=>∃ (s:List Bool) (T:List Int),Hid (wr.ownsRow mb 4 1 (.slice (some ⟨mb,0,none⟩) N N) N (bv s))∧Hid (Row (mb+1) wr tv T)∧Hid (Un l fr s T)∧Same0 w wr∧mb<wr.heap.size) (fun tv wr=>7 * falses wr mb N+lenV tv)
 case atStart=>exact ⟨_,fr,HR2,HT2,HU0,K2,hmb2⟩
 case round=>
  clear K2 HR2 HT2 HU0 hmb2
  obtain ⟨s,T,HR,HT,HU,hw,hmb1⟩:=hrel
  obtain ⟨vo,vc,e⟩:=row_shape HT.out
  subst e
  have HFO:Hid (falses wr mb N=s.count false):=falses_row HR.out
  rcases List.eq_nil_or_concat T with e | ⟨T', z,e⟩
  ·subst e
   have HD:Hid (∀ x,Mk s x ↔ ∃ f∈fr,Rc l f.toNat x):=HU.out.done
   go_wp2
   go_ret
   exact HQ.out _ _ ⟨mb,s,rfl,hlo,HR.out,HD.out,hw⟩
  ·rw [List.concat_eq_append] at e
   subst e
   have hz:=HU.out.rng z (by simp)
   obtain ⟨x,hx⟩:∃ x:Nat,z=(x:Int):=⟨z.toNat,by omega⟩
   subst hx
   have hxl:x<l.length:=by omega
   have hxN:x<N:=by rw [HNE.out];exact hxl
   have el:(T' ++ [(x:Int)]).length=T'.length+1:=by simp
   rw [el] at HT ⊢
   obtain ⟨g,e1,hg,cz,hrT,hcap⟩:=Row.last HT.out
   subst e1
   have HTL:Hid (T'.length+1≤17592186068417):=by
    have h1:=HU.out.cnt
    have h2:=HFR.out
    have h3:=HNE.out
    rw [el] at h1
    show _≤_
    omega
   have j1:(0:Int)≤(T'.length:Int):=by omega
   have j2:(T'.length:Int)<(T'.length:Int)+1:=by omega
   have j3:(T'.length:Int)≤(vc:Int):=by omega
   have j4:(0:Int)≤(x:Int):=by omega
   have j5:(x:Int)<(N:Int):=by omega
   have j6:(0:Int)<(T'.length:Int)+1:=by omega
   have j7:(T'.length:Int)≤17592186068417:=by have:=HTL.out;omega
   have HRT:Hid (Row (mb+1) wr (.slice (some ⟨g,0,none⟩) T'.length vc) T'):=hrT
   obtain ⟨b,hb1,hb2,hb3⟩:=row_bool HR.out hxN
   have HB:Hid (s[x]? = some b):=hb1
   clear hb1 hrT hz el
   cases b
   ·obtain ⟨W4,hW4⟩:∃ W4,W4=wr.setCell ⟨mb,x,none⟩ (.bool true):=⟨_,rfl⟩
    have hxs:x<s.length:=(List.getElem?_eq_some_iff.1 HB.out).1
    have K4:Kept (fun k=>k=mb) wr W4:=by rw [hW4];exact Kept.setCell (S:=fun k=>k=mb) (Kept.refl _ _) (p:=⟨mb,x,none⟩) (fun _=>rfl) _
    have hw4:Same0 w W4:=by rw [hW4];exact hw.own hlo _
    have hr4:W4.ownsRow mb 4 1 (.slice (some ⟨mb,0,none⟩) N N) N (bv (s.set x true)):=by rw [hW4,bv_set];exact (HR.out.stored x _).1
    have ht4:Row (mb+1) W4 (.slice (some ⟨g,0,none⟩) T'.length vc) T' := K4.row HRT.out (fun k e q=>by have:g=k:=Option.some.inj e;omega)
    have HMS:Hid (∀ ww,ww.ownsRow mb 4 1 (.slice (some ⟨mb,0,none⟩) N N) N (bv (s.set x true))→falses ww mb N+1=falses wr mb N):=fun ww hq=>by
     rw [falses_row hq,HFO.out];exact count_set HB.out
    rcases HL.out W4 hw4 with e | ⟨nb,noff,e,hnb,hn⟩
    ·rw [e] at hxl;simp at hxl
    subst e
    obtain ⟨xo,xc,n0,n1,n2,n3,n4,n5⟩:=hn x hxl
    have CD:=down_arg n5
    have dl:(downL l[x]).length≤6:=by have:=HW.out _ (List.getElem_mem hxl);unfold downL;split <;> (simp;try omega)
    have HUN:Hid (Un l fr (s.set x true) (T' ++ downL l[x])):=HU.out.take HB.out hxl dl HI.out
    have hmb4:mb+1≤W4.heap.size:=Nat.lt_of_lt_of_le hmb1 K4.size
    have HR4:Hid (W4.ownsRow mb 4 1 (.slice (some ⟨mb,0,none⟩) N N) N (bv (s.set x true))):=hr4
    have HT4:Hid (Row (mb+1) W4 (.slice (some ⟨g,0,none⟩) T'.length vc) T'):=ht4
    have k1:(x:Int)<(l.length:Int):=by omega
    generalize downL l[x]=D at *
    clear n5 hn HU HR HT HFO HB K4 hr4 ht4
    go_upto_region 8 with fail
    rw [← hW4]
    clear hW4 hb2 hb3 cz
    go_wp2_with (first | (go_at_call 67;refine CD.mono ?_;rintro e w5 ⟨bo,bc,rfl,hD,hnil,k5⟩;have ht5:Row (mb+1) w5 (.slice (some ⟨g,0,none⟩) T'.length vc) T' := k5.row HT4.out (fun _ _ f=>f);have hz5:mb+1≤w5.heap.size:=Nat.le_trans hmb4 k5.size) | (at_builtin;refine wpList_moreW rfl _ _ 31 rfl Try.underlying31 (mb+1) T' _ rfl ht5 D _ _ _ rfl rfl hD hnil hz5 (by omega) ?_;intro v6 w6 hr6 hk6))
    have HR6:Hid (w6.ownsRow mb 4 1 (.slice (some ⟨mb,0,none⟩) N N) N (bv (s.set x true))):=hk6.row (k5.row HR4.out (fun _ _ f=>f)) (fun k e q=>by
     have h1:mb=k:=Option.some.inj e
     have h2:g=k:=Option.some.inj q
     omega)
    have HT6:Hid (Row (mb+1) w6 v6 (T' ++ D)):=hr6
    have hw6:Same0 w w6:=(hw4.trans' k5).trans hk6 (fun k hk e=>by have h2:g=k:=Option.some.inj e;omega)
    have hmb6:mb<w6.heap.size:=Nat.lt_of_lt_of_le hz5 hk6.size
    obtain ⟨vo6,vc6,e6⟩:=row_shape hr6
    subst e6
    have HM6:=HMS.out w6 HR6.out
    have hle6:(T' ++ D).length≤T'.length+6:=by simp;omega
    clear hr6 hk6 ht5 hD hnil CD n0 n1 n2 n3 n4
    go_roundw
    case rel=>exact ⟨_,_,HR6,HT6,HUN,hw6,hmb6⟩
    case measure=>simp only [lenV];omega
   ·have hmk:Mk s x:=HB.out
    have HUN:Hid (Un l fr s T'):=HU.out.skip hmk
    clear hmk HU HFO
    go_wp2
    go_roundw
    case rel=>exact ⟨s,T', HR,HRT,HUN,hw,hmb1⟩
    case measure=>simp [lenV]
theorem NCl.put {B:Nat→Prop} {w:World} {vs vs' : List Value} {l:List Nd} (h:NCl B w vs l) {i:Nat} (hi:i<l.length) (hl:vs'.length=vs.length) (old:∀ o,o<i * 5∨i * 5+5≤o→vs'[o]? = vs[o]?) {x:Nd} {ao:Option Addr} {ac:Nat}
  (n0:vs'[i * 5]? = some (.int .i64 x.1)) (n1:vs'[i * 5+1]? = some (.slice ao x.2.1.length ac)) (n2:vs'[i * 5+2]? = some (.int .i64 x.2.2.1)) (n3:vs'[i * 5+3]? = some (.bool x.2.2.2.1)) (n4:vs'[i * 5+4]? = some (.int .i64 x.2.2.2.2)) (n5:ArgT w ao x.2.1 ac) (n6:∀ a,ao=some a→B a.block):NCl B w vs' (l.set i x):=by
 refine ⟨by rw [hl,h.1];simp,fun j hj=>?_⟩
 have hj' : j<l.length:=by simpa using hj
 by_cases e:j=i
 ·subst e
  rw [List.getElem_set_self]
  exact ⟨ao,ac,n0,n1,n2,n3,n4,n5,n6⟩
 ·rw [List.getElem_set_ne (by omega)]
  obtain ⟨bo,bc,m0,m1,m2,m3,m4,m5,m6⟩:=h.2 j hj'
  exact ⟨bo,bc,(old _ (by omega)).trans m0,(old _ (by omega)).trans m1,(old _ (by omega)).trans m2,(old _ (by omega)).trans m3,(old _ (by omega)).trans m4,m5,m6⟩
theorem marked_ok {l:List Nd} (hmay:∀ x∈l,mayB l.length x=true) (hac:Ac l) {i:Nat} (hi:i<l.length) {m:Int} (hm:0≤m∧m≤2) (hp:l[i].2.2.2.1=true→m=0):(∀ x∈l.set i (marked l[i] m),mayB (l.set i (marked l[i] m)).length x=true)∧Ac (l.set i (marked l[i] m)):=by
 refine ⟨fun x hx=>?_,?_⟩
 ·rw [List.length_set]
  rcases List.mem_or_eq_of_mem_set hx with e | e
  ·exact hmay x e
  ·subst e;exact may_marked (hmay _ (List.getElem_mem hi)) hm hp
 ·refine ac_same hac (by simp) (fun j h3 h4=>?_)
  by_cases e:j=i
  ·subst e;rw [List.getElem_set_self];rfl
  ·rw [List.getElem_set_ne (by omega)]
theorem pointed_ok {l:List Nd} (hmay:∀ x∈l,mayB l.length x=true) (hac:Ac l) {i t:Nat} (hi:i<l.length) (ht:t<l.length) (hn:¬ Rc l t i):(∀ x∈l.set i (indN t),mayB (l.set i (indN t)).length x=true)∧Ac (l.set i (indN t)):=by
 refine ⟨fun x hx=>?_,?_⟩
 ·rw [List.length_set]
  rcases List.mem_or_eq_of_mem_set hx with e | e
  ·exact hmay x e
  ·subst e;exact may_ind ht
 ·refine hac.point hn _ (fun j hj=>?_)
  unfold downL at hj
  simp at hj
  omega
theorem RhB.notg {B:Nat→Prop} {w:World} {r room:Nat} {v:Value} {l:List Nd} (p:RhB B w r room v l) {g:Nat} (e:v.ownBlock=some g):r≠g∧NotI w g:=by
 have h:=p.row.block e
 refine ⟨fun q=>?_,h.2.2⟩
 obtain ⟨vs,h1,_⟩:=p.row
 rcases h1.2 with ⟨rfl,_⟩ | ⟨g', cap,cur,rfl,hb,hg,_⟩
 ·cases e
 ·obtain rfl:g' = g:=Option.some.inj e
  rw [← q,p.box] at hg
  cases hg
theorem RhB.marked {B:Nat→Prop} {w:World} {r room g cap:Nat} {l:List Nd} (p:RhB B w r room (.slice (some ⟨g,0,none⟩) l.length cap) l) {i:Nat} (hi:i<l.length) {m:Int} (hm:0≤m∧m≤2) (hp:l[i].2.2.2.1=true→m=0) :
  RhB B (w.setCell ⟨g,i * 5+2,none⟩ (.int .i64 m)) r room (.slice (some ⟨g,0,none⟩) l.length cap) (l.set i (Ytmloedlkoijfbaa.marked l[i] m))∧Kept (fun k=>k=g) w (w.setCell ⟨g,i * 5+2,none⟩ (.int .i64 m)):=by
 have K:Kept (fun k=>k=g) w (w.setCell ⟨g,i * 5+2,none⟩ (.int .i64 m)):=Kept.setCell (S:=fun k=>k=g) (Kept.refl _ _) (p:=⟨g,i * 5+2,none⟩) (fun _=>rfl) _
 obtain ⟨hne,hni⟩:=p.notg rfl
 obtain ⟨ok1,ok2⟩:=marked_ok p.may p.ac hi hm hp
 obtain ⟨vs,h1,h2⟩:=p.row
 have hl:=h2.1
 have S:=(h1.stored (i * 5+2) (.int .i64 m)).1
 have h2' := h2.kept K (fun k _ e=>by rw [e];exact hni)
 obtain ⟨ao,ac,n0,n1,n2,n3,n4,n5,n6⟩:=h2'.2 i hi
 have old:∀ o,o≠i * 5+2→(vs.set (i * 5+2) (.int .i64 m))[o]? = vs[o]? := fun o ho=>List.getElem?_set_ne (by omega)
 have C:=h2'.put hi (vs' := vs.set (i * 5+2) (.int .i64 m)) (x:=Ytmloedlkoijfbaa.marked l[i] m) (ao:=ao) (ac:=ac) (by simp) (fun o ho=>old o (by omega)) ((old _ (by omega)).trans n0) ((old _ (by omega)).trans n1) (List.getElem?_set_self (by omega)) ((old _ (by omega)).trans n3) ((old _ (by omega)).trans n4) n5 n6
 exact ⟨⟨K.at p.box hne,⟨_,by simpa using S,C⟩,p.rm1,p.rm2,by simpa using p.le,ok1,ok2⟩,K⟩
theorem RhB.pointed {B:Nat→Prop} {w:World} {r room g cap:Nat} {l:List Nd} (p:RhB B w r room (.slice (some ⟨g,0,none⟩) l.length cap) l) {i t:Nat} (hi:i<l.length) (ht:t<l.length) (hn:¬ Rc l t i) :
  RhB B (put5 w g (i * 5) (.int .i64 0) (.slice none 0 0) (.int .i64 0) (.bool true) (.int .i64 (t:Int))) r room (.slice (some ⟨g,0,none⟩) l.length cap) (l.set i (indN t))∧Kept (fun k=>k=g) w (put5 w g (i * 5) (.int .i64 0) (.slice none 0 0) (.int .i64 0) (.bool true) (.int .i64 (t:Int))):=by
 have K:=put5_kept w g (i * 5) (.int .i64 0) (.slice none 0 0) (.int .i64 0) (.bool true) (.int .i64 (t:Int))
 obtain ⟨hne,hni⟩:=p.notg rfl
 obtain ⟨ok1,ok2⟩:=pointed_ok p.may p.ac hi ht hn
 obtain ⟨vs,h1,h2⟩:=p.row
 have hl:=h2.1
 have S:=(((((h1.stored (i * 5) (.int .i64 0)).1.stored (i * 5+1) (.slice none 0 0)).1.stored (i * 5+2) (.int .i64 0)).1.stored (i * 5+3) (.bool true)).1.stored (i * 5+4) (.int .i64 (t:Int))).1
 have h2' := h2.kept K (fun k _ e=>by rw [e];exact hni)
 have hb:i * 5+5≤vs.length:=by omega
 have C:=h2'.put hi (vs' := ((((vs.set (i * 5) (.int .i64 0)).set (i * 5+1) (.slice none 0 0)).set (i * 5+2) (.int .i64 0)).set (i * 5+3) (.bool true)).set (i * 5+4) (.int .i64 (t:Int))) (x:=indN t) (ao:=none) (ac:=0) (by simp)
  (fun o ho=>by rw [List.getElem?_set_ne (by omega),List.getElem?_set_ne (by omega),List.getElem?_set_ne (by omega),List.getElem?_set_ne (by omega),List.getElem?_set_ne (by omega)])
  (by rw [List.getElem?_set_ne (by omega),List.getElem?_set_ne (by omega),List.getElem?_set_ne (by omega),List.getElem?_set_ne (by omega)];exact List.getElem?_set_self (by omega))
  (by rw [List.getElem?_set_ne (by omega),List.getElem?_set_ne (by omega),List.getElem?_set_ne (by omega)];exact List.getElem?_set_self (by simp;omega))
  (by rw [List.getElem?_set_ne (by omega),List.getElem?_set_ne (by omega)];exact List.getElem?_set_self (by simp;omega))
  (by rw [List.getElem?_set_ne (by omega)];exact List.getElem?_set_self (by simp;omega))
  (List.getElem?_set_self (by simp;omega)) (ArgT.nil _) (fun a e=>by cases e)
 exact ⟨⟨K.at p.box hne,⟨_,by rw [List.length_set];exact S,C⟩,p.rm1,p.rm2,by simpa using p.le,ok1,ok2⟩,K⟩
theorem RhB.has {B:Nat→Prop} {w:World} {r room:Nat} {v:Value} {l:List Nd} (p:RhB B w r room v l) (a:Int):Calls Try.prog 56 #[.pointer (some ⟨r,0,none⟩),.int .i64 a] w fun e w' => e=.returned (.bool (hasB l.length a))∧w' = w:=by
 obtain ⟨ao,cap,rfl⟩:=p.row.shape
 exact rhas_any p.cells.2 (by unfold maxLen;have:=p.le;have:=p.rm2;omega) a
theorem RhB.open {B:Nat→Prop} {w:World} {r room:Nat} {v:Value} {l:List Nd} (p:RhB B w r room v l) {i:Nat} (hi:i<l.length):∃ g cap,v=.slice (some ⟨g,0,none⟩) l.length cap∧(∀ o,w.frozen? ⟨g,o,none⟩=false)∧∃ xo xc,w.cell? ⟨g,i * 5,none⟩=some (.int .i64 l[i].1)∧w.cell? ⟨g,i * 5+1,none⟩=some (.slice xo l[i].2.1.length xc)∧w.cell? ⟨g,i * 5+2,none⟩=some (.int .i64 l[i].2.2.1)∧w.cell? ⟨g,i * 5+3,none⟩=some (.bool l[i].2.2.2.1)∧w.cell? ⟨g,i * 5+4,none⟩=some (.int .i64 l[i].2.2.2.2):=by
 obtain ⟨vs,h1,h2⟩:=p.row
 have h1' := h1
 rcases h1.2 with ⟨_,h0⟩ | ⟨g,cap,cur,rfl,hb,hg,_⟩
 ·omega
 ·obtain ⟨ao,ac,g0,g1,g2,g3,g4,_,_⟩:=h2.2 i hi
  have t:∀ j u,vs[j]? = some u→w.cell? ⟨g,j,none⟩=some u:=fun j u hj=>by
   have:=h1'.cells (g:=g) rfl j u hj
   by_cases q:j=0
   ·subst q;simpa [Addr.add] using this
   ·simpa [Addr.add,q] using this
  exact ⟨g,cap,rfl,fun o=>frozenAt hg o,ao,ac,t _ _ g0,t _ _ g1,t _ _ g2,t _ _ g3,t _ _ g4⟩
set_option maxHeartbeats 1000000 in
theorem rmark_out {B:Nat→Prop} {w:World} {r room:Nat} {v:Value} {l:List Nd} (p:RhB B w r room v l) (a m:Int) (ha:¬ (0≤a∧a<(l.length:Int))):Calls Try.prog 36 #[.pointer (some ⟨r,0,none⟩),.int .i64 a,.int .i64 m] w fun e w' => e=.returned (.int .i64 112)∧w' = w:=by
 have C:=p.has a
 rw [hasB_no ha] at C
 clear p ha
 go_enter Try.func36,Try.ntmps36
 go_wp2_with (first | (go_at_call 56;refine C.mono ?_;rintro e w' ⟨rfl,h'⟩;have h' := h'.symm;subst h'))
 go_ret
 exact ⟨rfl,rfl⟩
set_option maxHeartbeats 2000000 in
theorem rmark_in {B:Nat→Prop} {w:World} {r room:Nat} {v:Value} {l:List Nd} (p:RhB B w r room v l) (i:Nat) (hi:i<l.length) (m:Int):Calls Try.prog 36 #[.pointer (some ⟨r,0,none⟩),.int .i64 (i:Int),.int .i64 m] w fun e w' =>
  (markE l (i:Int) m≠0∧e=.returned (.int .i64 (markE l (i:Int) m))∧w' = w)∨(markE l (i:Int) m=0∧e=.returned (.int .i64 0)∧RhB B w' r room v (l.set i (marked l[i] m))∧Kept (fun k=>v.ownBlock=some k) w w'):=by
 have C:=p.has (i:Int)
 rw [hasB_yes (by omega)] at C
 obtain ⟨g,cap,rfl,ff,xo,xc,n0,n1,n2,n3,n4⟩:=p.open hi
 have c1:=p.cells.2
 have f2:=ff (i * 5+2)
 have i1:(0:Int)≤(i:Int):=by omega
 have i2:(i:Int)<(l.length:Int):=by omega
 obtain ⟨pb,hp⟩:∃ pb,l[i].2.2.2.1=pb:=⟨_,rfl⟩
 cases pb
 ·rw [hp] at n3
  by_cases hm:0≤m∧m≤2
  ·obtain ⟨M1,M2⟩:=p.marked hi hm (by rw [hp];intro h;cases h)
   have H:Hid (markE l (i:Int) m=0∧RhB B (w.setCell ⟨g,i * 5+2,none⟩ (.int .i64 m)) r room (.slice (some ⟨g,0,none⟩) l.length cap) (l.set i (marked l[i] m))∧Kept (fun k=>(Value.slice (some ⟨g,0,none⟩) l.length cap).ownBlock=some k) w (w.setCell ⟨g,i * 5+2,none⟩ (.int .i64 m))):=⟨by rw [markE,if_neg (by omega)];simp [hi,hp,hm],M1,M2.mono (fun k _ e=>by rw [e];rfl)⟩
   obtain ⟨m1,m2⟩:=hm
   have m3:¬ m<0:=by omega
   have m4:¬ (2:Int)<m:=by omega
   clear p hp M1 M2 n0 n1 n4 ff
   go_enter Try.func36,Try.ntmps36
   go_wp2_with (first | (go_at_call 56;refine C.mono ?_;rintro e w' ⟨rfl,h'⟩;have h' := h'.symm;subst h'))
   go_ret
   obtain ⟨q1,q2,q3⟩:=H.out
   exact .inr ⟨q1,rfl,q2,q3⟩
  ·have H:Hid (markE l (i:Int) m=1):=by show _=_;rw [markE,if_neg (by omega)];simp [hi,hp,hm]
   clear p hp n0 n1 n2 n4 ff
   by_cases m3:m<0
   ·clear hm
    go_enter Try.func36,Try.ntmps36
    go_wp2_with (first | (go_at_call 56;refine C.mono ?_;rintro e w' ⟨rfl,h'⟩;have h' := h'.symm;subst h'))
    go_ret
    exact .inl ⟨by rw [H.out];decide,ret_int H.out.symm,rfl⟩
   ·have m4:(2:Int)<m:=by omega
    clear hm
    go_enter Try.func36,Try.ntmps36
    go_wp2_with (first | (go_at_call 56;refine C.mono ?_;rintro e w' ⟨rfl,h'⟩;have h' := h'.symm;subst h'))
    go_ret
    exact .inl ⟨by rw [H.out];decide,ret_int H.out.symm,rfl⟩
 ·rw [hp] at n3
  have H:Hid (markE l (i:Int) m=112):=by show _=_;rw [markE,if_neg (by omega)];simp [hi,hp]
  clear p hp n0 n1 n2 n4 ff
  go_enter Try.func36,Try.ntmps36
  go_wp2_with (first | (go_at_call 56;refine C.mono ?_;rintro e w' ⟨rfl,h'⟩;have h' := h'.symm;subst h'))
  go_ret
  exact .inl ⟨by rw [H.out];decide,ret_int H.out.symm,rfl⟩
set_option maxHeartbeats 1000000 in
theorem rpoint_out {B:Nat→Prop} {w:World} {r room:Nat} {v:Value} {l:List Nd} (p:RhB B w r room v l) (a t:Int) (ha:¬ ((0≤a∧a<(l.length:Int))∧0≤t∧t<(l.length:Int))):Calls Try.prog 34 #[.pointer (some ⟨r,0,none⟩),.int .i64 a,.int .i64 t] w fun e w' => e=.returned (.int .i64 112)∧w' = w:=by
 have C1:=p.has a
 have C2:=p.has t
 by_cases h1:0≤a∧a<(l.length:Int)
 ·rw [hasB_yes h1] at C1
  rw [hasB_no (fun h=>ha ⟨h1,h⟩)] at C2
  clear p ha h1
  go_enter Try.func34,Try.ntmps34
  go_wp2_with (first | (go_at_call 56;first | (refine C1.mono ?_;rintro e w' ⟨rfl,h'⟩;have h' := h'.symm;subst h'; clear C1) | (refine C2.mono ?_;rintro e w' ⟨rfl,h'⟩;have h' := h'.symm;subst h')))
  go_ret
  exact ⟨rfl,rfl⟩
 ·rw [hasB_no h1] at C1
  clear p ha h1 C2
  go_enter Try.func34,Try.ntmps34
  go_wp2_with (first | (go_at_call 56;refine C1.mono ?_;rintro e w' ⟨rfl,h'⟩;have h' := h'.symm;subst h'))
  go_ret
  exact ⟨rfl,rfl⟩
set_option maxHeartbeats 2000000 in
theorem rpoint_in {B:Nat→Prop} {w:World} {r room:Nat} {v:Value} {l:List Nd} (p:RhB B w r room v l) (i t:Nat) (hi:i<l.length) (ht:t<l.length):Calls Try.prog 34 #[.pointer (some ⟨r,0,none⟩),.int .i64 (i:Int),.int .i64 (t:Int)] w fun e w' =>
  (Rc l t i∧e=.returned (.int .i64 113)∧Same0 w w')∨(¬ Rc l t i∧e=.returned (.int .i64 0)∧RhB B w' r room v (l.set i (indN t))∧Kept (fun k=>v.ownBlock=some k) w w'):=by
 have C1:=p.has (i:Int)
 have C2:=p.has (t:Int)
 rw [hasB_yes (by omega)] at C1 C2
 obtain ⟨g,cap,rfl, -⟩:=p.open hi
 have c1:=p.cells.2
 have hle:=p.le
 have hr2:=p.rm2
 have i1:(0:Int)≤(i:Int):=by omega
 have i2:(i:Int)<(l.length:Int):=by omega
 have k1:Same0 w (w.alloc (.cells #[.int .i64 (t:Int)] 3)):=(Kept.refl _ _).alloc _
 have p1:=p.same k1
 have few:∀ x∈l,x.2.1.length≤6:=fun x hx=>(may_facts (p.may x hx)).2.1
 have CU:=under_any (ac:=cap) p1.row.mem.weak (⟨ints_one w (t:Int),by simp,(fun e=>by cases e),by simp⟩:Arg _ (some ⟨w.heap.size,0,none⟩) [(t:Int)] 1) (by intro z hz;simp at hz;subst hz;omega) p.inl few (by omega) (by simp)
 have HP:Hid (∀ ww,Same0 (w.alloc (.cells #[.int .i64 (t:Int)] 3)) ww→RhB B ww r room (.slice (some ⟨g,0,none⟩) l.length cap) l):=fun ww hk=>p1.same hk
 have HK:Hid (∀ ww,Same0 (w.alloc (.cells #[.int .i64 (t:Int)] 3)) ww→Same0 w ww):=fun ww hk=>k1.trans' hk
 simp only [List.length_cons,List.length_nil,Nat.zero_add] at CU
 clear p p1 k1 few
 go_enter Try.func34,Try.ntmps34
 go_upto_region 4 with (first | (go_at_call 56;first | (refine C1.mono ?_;rintro e w' ⟨rfl,h'⟩;have h' := h'.symm;subst h'; clear C1) | (refine C2.mono ?_;rintro e w' ⟨rfl,h'⟩;have h' := h'.symm;subst h')) | (go_at_call 58;refine CU.mono ?_;rintro e w2 ⟨mb,s,rfl,hmb,hrow,hiff,k2⟩))
 obtain ⟨b,q1,q2, -⟩:=row_bool hrow hi
 have HBR:Hid (b=true ↔ Rc l t i):=by
  have:=hiff i
  unfold Mk at this
  rw [q1] at this
  show _ ↔ _
  simpa using this
 clear CU hiff q1 c1
 cases b
 ·have hn:¬ Rc l t i:=fun q=>by have:=HBR.out.2 q;cases this
  have P2:=HP.out w2 k2
  have d1:=P2.cells.2
  obtain ⟨g', cap', e', ff,xo,xc,t0,t1,t2,t3,t4⟩:=P2.open hi
  simp only [Value.slice.injEq,Option.some.injEq,Addr.mk.injEq,and_true,true_and] at e'
  obtain ⟨rfl,rfl⟩:=e'
  have f0:=ff (i * 5)
  have f1:=ff (i * 5+1)
  have f2:=ff (i * 5+2)
  have f3:=ff (i * 5+3)
  have f4:=ff (i * 5+4)
  obtain ⟨M1,M2⟩:=P2.pointed hi ht hn
  have FF:Hid (¬ Rc l t i∧RhB B (put5 w2 g (i * 5) (.int .i64 0) (.slice none 0 0) (.int .i64 0) (.bool true) (.int .i64 (t:Int))) r room (.slice (some ⟨g,0,none⟩) l.length cap) (l.set i (indN t))∧Kept (fun k=>(Value.slice (some ⟨g,0,none⟩) l.length cap).ownBlock=some k) w (put5 w2 g (i * 5) (.int .i64 0) (.slice none 0 0) (.int .i64 0) (.bool true) (.int .i64 (t:Int)))):=⟨hn,M1,(Kept.mono (HK.out w2 k2) (fun _ _ f=>f.elim)).trans M2 (fun k _ e=>by rw [e];rfl)⟩
  clear P2 M1 M2 hn HBR HP HK ff hrow
  go_wp2
  go_ret
  obtain ⟨q1,q2,q3⟩:=FF.out
  exact .inr ⟨q1,rfl,q2,q3⟩
 ·have FF:Hid (Rc l t i∧Same0 w w2):=⟨HBR.out.1 rfl,HK.out w2 k2⟩
  clear HBR HP HK hrow
  go_wp2
  go_ret
  exact .inl ⟨FF.out.1,rfl,FF.out.2⟩
def clr (l:List Nd) (k:Nat):List Nd:=(l.take k).map (fun x=>marked x 0)++l.drop k
theorem clr_len (l:List Nd) (k:Nat):(clr l k).length=l.length:=by unfold clr;simp;omega
theorem clr_zero (l:List Nd):clr l 0=l:=by simp [clr]
theorem clr_all (l:List Nd):clr l l.length=l.map (fun x=>marked x 0):=by simp [clr]
theorem clr_step {l:List Nd} {k:Nat} (hk:k<l.length) (h:k<(clr l k).length):(clr l k).set k (marked (clr l k)[k] 0)=clr l (k+1):=by
 have e:clr l k=(l.take k).map (fun x=>marked x 0)++l[k] :: l.drop (k+1):=by unfold clr;rw [List.drop_eq_getElem_cons hk]
 have hA:((l.take k).map (fun x=>marked x 0)).length=k:=by simp;omega
 have e2:clr l (k+1)=(l.take k).map (fun x=>marked x 0)++marked l[k] 0 :: l.drop (k+1):=by
  unfold clr
  rw [List.take_succ_eq_append_getElem hk]
  simp only [List.map_append,List.map_cons,List.map_nil,List.append_assoc,List.cons_append,List.nil_append]
 generalize (l.take k).map (fun x=>marked x 0)=A at *
 have e3:(clr l k)[k]=l[k]:=by
  simp only [e]
  rw [List.getElem_append_right (by omega)]
  simp only [hA,Nat.sub_self,List.getElem_cons_zero]
 rw [e3,e2,e,List.set_append,if_neg (by omega),hA,Nat.sub_self,List.set_cons_zero]
theorem RhB.clear1 {B:Nat→Prop} {w:World} {r room g cap k:Nat} {l:List Nd} (p:RhB B w r room (.slice (some ⟨g,0,none⟩) l.length cap) (clr l k)) (hk:k<l.length) :
  RhB B (w.setCell ⟨g,k * 5+2,none⟩ (.int .i64 0)) r room (.slice (some ⟨g,0,none⟩) l.length cap) (clr l (k+1))∧Kept (fun i=>i=g) w (w.setCell ⟨g,k * 5+2,none⟩ (.int .i64 0)):=by
 have hk' : k<(clr l k).length:=by rw [clr_len];exact hk
 have q:RhB B w r room (.slice (some ⟨g,0,none⟩) (clr l k).length cap) (clr l k):=by rw [clr_len];exact p
 have:=q.marked hk' (m:=0) (by omega) (fun _=>rfl)
 rw [clr_step hk hk', clr_len] at this
 exact this
theorem HpB.clear1 {B:Nat→Prop} {w:World} {h g room k:Nat} {l:List Nd} (p:HpB B w h g room (clr l k)) (hk:k<l.length) :
  HpB B (w.setCell ⟨g,k * 5+2,none⟩ (.int .i64 0)) h g room (clr l (k+1))∧Kept (fun i=>i=g) w (w.setCell ⟨g,k * 5+2,none⟩ (.int .i64 0)):=by
 have hk' : k<(clr l k).length:=by rw [clr_len];exact hk
 have:=p.marked hk' (m:=0) (by omega) (fun _=>rfl)
 rw [clr_step hk hk'] at this
 exact this
set_option maxHeartbeats 1000000 in
theorem rclear_any {B:Nat→Prop} {w:World} {r room:Nat} {v:Value} {l:List Nd} (p:RhB B w r room v l):Calls Try.prog 38 #[.pointer (some ⟨r,0,none⟩)] w fun e w' => (∃ u,e=.returned u)∧RhB B w' r room v (l.map (fun x=>marked x 0))∧Kept (fun k=>v.ownBlock=some k) w w' := by
 obtain ⟨ao,cap,rfl⟩:=p.row.shape
 have hle:=p.le
 have hr2:=p.rm2
 have P0:Hid (RhB B w r room (.slice ao l.length cap) (clr l 0)):=by show RhB _ _ _ _ _ _;rw [clr_zero];exact p
 have K0:Hid (Kept (fun k=>(Value.slice ao l.length cap).ownBlock=some k) w w):=Kept.refl _ _
 clear p
 go_enter Try.func38,Try.ntmps38
 go_upto_region 1 with fail
 go_loopw [2] (fun i wr=>∃ k:Nat,i=.int .i64 (k:Int)∧k≤l.length∧Hid (RhB B wr r room (.slice ao l.length cap) (clr l k))∧Hid (Kept (fun k=>(Value.slice ao l.length cap).ownBlock=some k) w wr)) (fun i _=>l.length-(intOf i).toNat)
 case atStart=>exact ⟨0,rfl,Nat.zero_le _,P0,K0⟩
 case round=>
  clear P0 K0
  obtain ⟨k,rfl,hk,P,K⟩:=hrel
  have c1:=P.out.cells.2
  by_cases hlt:k<l.length
  ·have j1:(k:Int)<(l.length:Int):=by omega
   have j2:(0:Int)≤(k:Int):=by omega
   obtain ⟨g,cap', e,ff,xo,xc,n0,n1,n2,n3,n4⟩:=P.out.open (show k<(clr l k).length by rw [clr_len];exact hlt)
   simp only [Value.slice.injEq] at e
   obtain ⟨rfl, -,rfl⟩:=e
   obtain ⟨M1,M2⟩:=P.out.clear1 hlt
   have f2:=ff (k * 5+2)
   have HM:Hid (RhB B (wr.setCell ⟨g,k * 5+2,none⟩ (.int .i64 0)) r room (.slice (some ⟨g,0,none⟩) l.length cap) (clr l (k+1))):=M1
   have HK:Hid (Kept (fun k=>(Value.slice (some ⟨g,0,none⟩) l.length cap).ownBlock=some k) w (wr.setCell ⟨g,k * 5+2,none⟩ (.int .i64 0))):=K.out.trans M2 (fun i _ e=>by rw [e];rfl)
   clear M1 M2 n0 n1 n3 n4 ff
   go_wp2
   go_roundw
   case rel=>exact ⟨k+1,by go_num,by omega,HM,HK⟩
   case measure=>simp [intOf];omega
  ·have hkl:k=l.length:=by omega
   have F:Hid (RhB B wr r room (.slice ao l.length cap) (l.map (fun x=>marked x 0))):=by show RhB _ _ _ _ _ _;rw [← clr_all];have q:=P.out;rw [hkl] at q;exact q
   subst hkl
   go_wp2
   first | refine bodyPost_ret (results_none rfl _ _ _) rfl ?_ | refine bodyPost_next (results_none rfl _ _ _) rfl ?_ | refine bodyPost_end (results_none rfl _ _ _) rfl ?_
   exact ⟨⟨_,rfl⟩,F.out,K.out⟩
set_option maxHeartbeats 1000000 in
theorem hclear_any {B:Nat→Prop} {w:World} {h g room:Nat} {l:List Nd} (p:HpB B w h g room l):Calls Try.prog 37 #[.pointer (some ⟨h,0,none⟩)] w fun e w' => (∃ u,e=.returned u)∧HpB B w' h g room (l.map (fun x=>marked x 0))∧Kept (fun k=>k=g) w w' := by
 have hle:=p.le
 have hr2:=p.rm2
 obtain ⟨c0,c1⟩:=p.cells
 have P0:Hid (HpB B w h g room (clr l 0)):=by show HpB _ _ _ _ _ _;rw [clr_zero];exact p
 have K0:Hid (Kept (fun k=>k=g) w w):=Kept.refl _ _
 clear p
 go_enter Try.func37,Try.ntmps37
 go_upto_region 2 with fail
 clear c0 c1
 go_loopw [9] (fun i wr=>∃ k:Nat,i=.int .i64 (k:Int)∧k≤l.length∧Hid (HpB B wr h g room (clr l k))∧Hid (Kept (fun k=>k=g) w wr)) (fun i _=>l.length-(intOf i).toNat)
 case atStart=>exact ⟨0,rfl,Nat.zero_le _,P0,K0⟩
 case round=>
  clear P0 K0
  obtain ⟨k,rfl,hk,P,K⟩:=hrel
  obtain ⟨c0,c1⟩:=P.out.cells
  by_cases hlt:k<l.length
  ·have j1:(k:Int)<(l.length:Int):=by omega
   have j2:(0:Int)≤(k:Int):=by omega
   have j3:(k:Int)<(room:Int):=by omega
   obtain ⟨ao,ac,n0,n1,n2,n3,n4, -, -⟩:=P.out.each k (show k<(clr l k).length by rw [clr_len];exact hlt)
   obtain ⟨M1,M2⟩:=P.out.clear1 hlt
   have f2:=P.out.free.2 (k * 5+2)
   have HM:Hid (HpB B (wr.setCell ⟨g,k * 5+2,none⟩ (.int .i64 0)) h g room (clr l (k+1))):=M1
   have HK:Hid (Kept (fun k=>k=g) w (wr.setCell ⟨g,k * 5+2,none⟩ (.int .i64 0))):=K.out.trans M2 (fun i _ e=>e)
   clear M1 M2 n0 n1 n3 n4 c1
   go_wp2
   go_roundw
   case rel=>exact ⟨k+1,by go_num,by omega,HM,HK⟩
   case measure=>simp [intOf];omega
  ·have hkl:k=l.length:=by omega
   have F:Hid (HpB B wr h g room (l.map (fun x=>marked x 0))):=by show HpB _ _ _ _ _ _;rw [← clr_all];have q:=P.out;rw [hkl] at q;exact q
   subst hkl
   clear c0 c1
   go_wp2
   first | refine bodyPost_ret (results_none rfl _ _ _) rfl ?_ | refine bodyPost_next (results_none rfl _ _ _) rfl ?_ | refine bodyPost_end (results_none rfl _ _ _) rfl ?_
   exact ⟨⟨_,rfl⟩,F.out,K.out⟩
end Go.Proofs.Ytmloedlkoijfbaa
