import Derived.Test.YtpimndkhoalaeaaGT08
import Derived.Test.YtpimndkhoalaeaaGT07
import Derived.Test.YtpimndkhoalaeaaGT05
import Derived.Test.YtpimndkhoalaeaaGT04
namespace Go.Proofs.Ytpimndkhoalaeaa
set_option maxRecDepth 100000
set_option linter.unusedVariables false
open Go.RowKit
attribute [local go_sem ↓] Go.wp_at_zero Go.wp_at_succ
set_option maxHeartbeats 300000 in
theorem shaped_any {w:World} {ao:Option Addr} {ac:Nat} {l:List Nd} (h:NsW w ao l) (hN:l.length≤4000) :
  Calls Try.prog 104 #[.slice ao l.length ac] w fun e w' => e=.returned (.bool (l.all (mayB l.length)))∧Same0 w w' := by
 have HL:Hid (∀ ww,Same0 w ww→NsW ww ao l):=fun ww hk=>h.same hk
 have KR:Same0 w w:=Kept.refl _ _
 have HNO:Hid (∀ k (hk:k<l.length),mayB l.length l[k]=false→l.all (mayB l.length)=false):=fun k hk e=>by
  rw [Bool.eq_false_iff]
  intro q
  rw [List.all_eq_true] at q
  rw [q _ (List.getElem_mem hk)] at e
  cases e
 clear h
 go_enter Try.func104,Try.ntmps104
 go_wp2
 go_loopw [7] (fun i wr=>∃ (k:Nat),i=.int .i64 (k:Int)∧k≤l.length∧Hid (∀ j (hj:j<l.length),j<k→mayB l.length l[j]=true)∧Same0 w wr) (fun i _=>l.length-(intOf i).toNat)
 case atStart=>exact ⟨0,rfl,Nat.zero_le _,fun j _ hj=>absurd hj (Nat.not_lt_zero _),KR⟩
 case round=>
  clear KR
  obtain ⟨k,rfl,hk,hall,hw⟩:=hrel
  by_cases hlt:k<l.length
  ·have j1:(k:Int)<(l.length:Int):=by omega
   have j2:(0:Int)≤(k:Int):=by omega
   rcases HL.out wr hw with e | ⟨nb,noff,e,hnb,hn⟩
   ·subst e;simp at hlt
   subst e
   obtain ⟨xo,xc,n0,n1,n2,n3,n4,n5⟩:=hn k hlt
   obtain ⟨W3,hW3⟩:∃ W3,W3=wr.alloc (.cells #[.int .i64 l[k].1,.slice xo l[k].2.1.length xc,.int .i64 l[k].2.2.1,.bool l[k].2.2.2.1,.int .i64 l[k].2.2.2.2] 71):=⟨_,rfl⟩
   have kb:Same0 wr W3:=by rw [hW3];exact (Kept.refl _ _).alloc _
   obtain ⟨x0,x1,x2,x3,x4⟩:=box_node' wr l[k] xo xc (show Same0 _ W3 by rw [hW3];exact Kept.refl _ _)
   have n6:=n5.onto kb
   have HBX:Hid (∀ ww,Same0 W3 ww→ww.cell? ⟨wr.heap.size,3,none⟩=some (.bool l[k].2.2.2.1)):=fun ww hk=>(box_node' wr l[k] xo xc (by rw [hW3] at hk;exact hk)).2.2.2.1
   have HN:=HNO.out k hlt
   have HKW:Hid (∀ ww,Same0 W3 ww→Same0 w ww):=fun ww hk=>(hw.trans' kb).trans' hk
   have HY:Hid (mayB l.length l[k]=true→Hid (∀ j (hj:j<l.length),j<k+1→mayB l.length l[j]=true)):=fun e j hj hjk=>by
    by_cases q:j=k
    ·subst q;exact e
    ·exact hall.out j hj (by omega)
   clear n5 kb hn hall
   generalize l[k]=y at *
   obtain ⟨ys,ya,ym,yp,yt⟩:=y
   simp only at *
   cases yp
   ·have CA:=isApp_any (x:=(ys,ya,ym,false,yt)) n6 rfl l.length
    clear n6
    generalize mayB l.length (ys,ya,ym,false,yt)=M at *
    go_upto_region 4 with fail
    rw [← hW3]
    clear hW3 n0 n1 n2 n3 n4
    cases M
    ·have HF:Hid (l.all (mayB l.length)=false):=HN rfl
     clear HN
     go_wp2_with (first | (go_at_call 124;refine CA.mono ?_;rintro e w5 ⟨rfl,k5⟩;have z3:=HBX.out w5 k5))
     go_ret
     exact ⟨ret_bool HF.out.symm,HKW.out _ k5⟩
    ·have HY2:=HY.out (by first | rfl | trivial)
     clear HN HY
     go_wp2_with (first | (go_at_call 124;refine CA.mono ?_;rintro e w5 ⟨rfl,k5⟩;have z3:=HBX.out w5 k5))
     have hw5:=HKW.out _ k5
     go_roundw
     case rel=>exact ⟨k+1,by go_num,by omega,HY2,hw5⟩
     case measure=>simp [intOf];omega
   ·have CA:=isInd_any (x:=(ys,ya,ym,true,yt)) n6 rfl l.length
    clear n6
    generalize mayB l.length (ys,ya,ym,true,yt)=M at *
    go_upto_region 4 with fail
    rw [← hW3]
    clear hW3 n0 n1 n2 n3 n4
    cases M
    ·have HF:Hid (l.all (mayB l.length)=false):=HN rfl
     clear HN
     go_wp2_with (first | (go_at_call 123;refine CA.mono ?_;rintro e w5 ⟨rfl,k5⟩;have z3:=HBX.out w5 k5))
     go_ret
     exact ⟨ret_bool HF.out.symm,HKW.out _ k5⟩
    ·have HY2:=HY.out (by first | rfl | trivial)
     clear HN HY
     go_wp2_with (first | (go_at_call 123;refine CA.mono ?_;rintro e w5 ⟨rfl,k5⟩;have z3:=HBX.out w5 k5))
     have hw5:=HKW.out _ k5
     go_roundw
     case rel=>exact ⟨k+1,by go_num,by omega,HY2,hw5⟩
     case measure=>simp [intOf];omega
  ·obtain rfl:k=l.length:=by omega
   have HF:Hid (l.all (mayB l.length)=true):=List.all_eq_true.2 (fun x hx=>by
    obtain ⟨j,hj,rfl⟩:=List.mem_iff_getElem.1 hx
    exact hall.out j hj hj)
   clear hall
   go_wp2
   go_ret
   exact ⟨ret_bool HF.out.symm,hw⟩
def RfE (room:Nat) (l:List Nd) (e:Int):Prop:=
 (room<l.length∧e=111)∨(l.length≤room∧l.all (mayB l.length)=false∧e=114)∨(l.length≤room∧l.all (mayB l.length)=true∧¬ Ac l∧e=113)∨(l.length≤room∧l.all (mayB l.length)=true∧Ac l∧e=0)
theorem RfE.uniq {room:Nat} {l:List Nd} {e e' : Int} (h:RfE room l e) (h' : RfE room l e'):e=e' := by
 rcases h with ⟨a,b⟩ | ⟨a,b,c⟩ | ⟨a,b,c,d⟩ | ⟨a,b,c,d⟩ <;> rcases h' with ⟨a', b'⟩ | ⟨a', b', c'⟩ | ⟨a', b', c', d'⟩ | ⟨a', b', c', d'⟩ <;> first | omega | exact absurd c' c | exact absurd c c' | (rw [b] at b'; cases b'; done)
theorem few_of_may {l:List Nd} (h:l.all (mayB l.length)=true):(∀ x∈l,mayB l.length x=true)∧InL l∧∀ x∈l,x.2.1.length≤6:=by
 have h1:∀ x∈l,mayB l.length x=true:=List.all_eq_true.1 h
 exact ⟨h1,inl_of_may h1,fun x hx=>(may_facts (h1 x hx)).2.1⟩
set_option maxHeartbeats 1000000 in
theorem refill_no {B:Nat→Prop} {w:World} {h g room:Nat} {l:List Nd} (p:HpB B w h g room l) {ao:Option Addr} {ac:Nat} {l' : List Nd} (hs:NsW w ao l') (hsz:l'.length≤maxLen) {E:Int} (hE:RfE room l' E) (h0:E≠0) :
  Calls Try.prog 64 #[.pointer (some ⟨h,0,none⟩),.slice ao l'.length ac] w fun e w' => e=.returned (.int .i64 E)∧Same0 w w' := by
 unfold maxLen at hsz
 obtain ⟨c0,c1⟩:=p.cells
 have hr2:=p.rm2
 have KR:Hid (Same0 w w):=Kept.refl _ _
 clear p
 rcases hE with ⟨a,rfl⟩ | ⟨a,b,rfl⟩ | ⟨a,b,c,rfl⟩ | ⟨a,b,c,rfl⟩
 ·have j1:(room:Int)<(l'.length:Int):=by omega
  clear hs
  go_enter Try.func64,Try.ntmps64
  go_wp2
  go_ret
  exact ⟨rfl,KR.out⟩
 ·have j1:¬ (room:Int)<(l'.length:Int):=by omega
  have CS:=shaped_any (ac:=ac) hs (by omega)
  rw [b] at CS
  clear hs b
  go_enter Try.func64,Try.ntmps64
  go_wp2_with (first | (go_at_call 104;refine CS.mono ?_;rintro e w1 ⟨rfl,k1⟩))
  go_ret
  exact ⟨rfl,k1⟩
 ·have j1:¬ (room:Int)<(l'.length:Int):=by omega
  have CS:=shaped_any (ac:=ac) hs (by omega)
  obtain ⟨f1,f2,f3⟩:=few_of_may b
  have CR:Hid (∀ ww,Same0 w ww→Calls Try.prog 105 #[.slice ao l'.length ac] ww fun e w' => RingQ l' ww e w'):=fun ww hk=>ringed_any (hs.same hk) f2 f3 (by omega)
  have HNA:Hid (¬ Ac l'):=c
  rw [b] at CS
  clear hs b f1 f2 f3 c
  go_enter Try.func64,Try.ntmps64
  go_upto_region 7 with (first | (go_at_call 104;refine CS.mono ?_;rintro e w1 ⟨rfl,k1⟩))
  have CR1:=CR.out w1 k1
  clear CR CS
  go_wp2_with (first | (go_at_call 105;refine CR1.mono ?_;rintro e w2 ⟨b,rfl,hb,k2⟩;obtain rfl:b=true:=hb.2 HNA.out))
  go_ret
  exact ⟨rfl,k1.trans' k2⟩
 ·exact absurd rfl h0
theorem NRow.zero {B:Nat→Prop} {base:Nat} {w:World} {v:Value} {l:List Nd} (h:NRow B base w v l):NRow B 0 w v l:=by
 obtain ⟨vs,h1,h2⟩:=h
 exact ⟨vs,row_mono h1 (Nat.zero_le _),h2⟩
theorem NRow.mono {B B' : Nat→Prop} {base:Nat} {w:World} {v:Value} {l:List Nd} (h:NRow B base w v l) (hB:∀ k,k<w.heap.size→B k→B' k):NRow B' base w v l:=by
 obtain ⟨vs,h1,h2⟩:=h
 exact ⟨vs,h1,h2.mono hB⟩
theorem set_room {w:World} {b:Nat} {v0 v1:Value} {t:TypeId} (h:w.heap[b]? = some (.cells #[v0,v1] t (0,0))) (u:Value):(w.setCell ⟨b,1,none⟩ u).heap[b]? = some (.cells #[v0,u] t (0,0)):=setAt h 1 u
def RfN (w:World) (r room:Nat) (l:List Nd) (E:Int) (w' : World):Prop:=
 (E≠0∧Same0 w w')∨(E=0∧∃ v,RhB (fun b=>w.heap.size≤b) w' r room v l∧Kept (fun k=>k=r) w w' ∧ ∀ k,v.ownBlock=some k→w.heap.size≤k)
set_option maxHeartbeats 2000000 in
theorem rrefill_any {B:Nat→Prop} {w:World} {r room:Nat} {v:Value} {l:List Nd} (p:RhB B w r room v l) {ao:Option Addr} {ac:Nat} {l' : List Nd} (hs:NsW w ao l') (hsz:l'.length≤maxLen) {E:Int} (hE:RfE room l' E) :
  Calls Try.prog 65 #[.pointer (some ⟨r,0,none⟩),.slice ao l'.length ac] w fun e w' => e=.returned (.int .i64 E)∧RfN w r room l' E w' := by
 unfold maxLen at hsz
 obtain ⟨c0,c1⟩:=p.cells
 have hr2:=p.rm2
 have KR:Same0 w w:=Kept.refl _ _
 have HE:Hid (∀ e,RfE room l' e→e=E):=fun e he=>he.uniq hE
 have HP:Hid (∀ ww,Same0 w ww→RhB B ww r room v l):=fun ww hk=>p.same hk
 have HX:Hid (∀ ww,Same0 w ww→NsW ww ao l'):=fun ww hk=>hs.same hk
 clear p hs hE
 by_cases a:room<l'.length
 ·have j1:(room:Int)<(l'.length:Int):=by omega
  obtain rfl:111=E:=HE.out 111 (.inl ⟨a,rfl⟩)
  have KH:Hid (Same0 w w):=KR
  clear KR HE
  go_enter Try.func65,Try.ntmps65
  go_wp2
  go_ret
  exact ⟨rfl,.inl ⟨by decide,KH.out⟩⟩
 ·have j1:¬ (room:Int)<(l'.length:Int):=by omega
  have l0:(0:Int)≤(l'.length:Int):=by omega
  have l1:(l'.length:Int)≤4000:=by omega
  have HA:Hid (l'.length≤room):=by show _≤_;omega
  go_enter Try.func65,Try.ntmps65
  go_upto_region 4 with fail
  clear c0 c1
  go_loopw [5] (fun i wr=>∃ k:Nat,i=.int .i64 (k:Int)∧k≤l'.length∧Hid (∀ j (hj:j<l'.length),j<k→mayB l'.length l'[j]=true)∧Same0 w wr) (fun i _=>l'.length-(intOf i).toNat)
  case atStart=>exact ⟨0,rfl,Nat.zero_le _,fun j _ hj=>absurd hj (Nat.not_lt_zero _),KR⟩
  case round=>
   clear KR
   obtain ⟨k,rfl,hk,hall,hw⟩:=hrel
   by_cases hlt:k<l'.length
   ·have j2:(k:Int)<(l'.length:Int):=by omega
    have j3:(0:Int)≤(k:Int):=by omega
    rcases HX.out wr hw with e | ⟨nb,noff,e,hnb,hn⟩
    ·rw [e] at hlt;simp at hlt
    subst e
    obtain ⟨xo,xc,n0,n1,n2,n3,n4,n5⟩:=hn k hlt
    have CM:=rmay_any n5 l'.length
    have HAF:mayB l'.length l'[k]=false→l'.all (mayB l'.length)=false:=fun e=>by
     rw [Bool.eq_false_iff]
     intro q
     rw [List.all_eq_true] at q
     rw [q _ (List.getElem_mem hlt)] at e
     cases e
    have HN:Hid (mayB l'.length l'[k]=false→114=E):=fun e=>HE.out 114 (.inr (.inl ⟨HA.out,HAF e,rfl⟩))
    clear HAF
    have HY:Hid (mayB l'.length l'[k]=true→Hid (∀ j (hj:j<l'.length),j<k+1→mayB l'.length l'[j]=true)):=fun e j hj hjk=>by
     by_cases q:j=k
     ·subst q;exact e
     ·exact hall.out j hj (by omega)
    clear n5 hn hall
    generalize mayB l'.length l'[k]=R at *
    cases R
    ·obtain rfl:114=E:=HN.out rfl
     clear HN HY HE
     go_wp2_with (first | (go_at_call 106;refine CM.mono ?_;rintro e w5 ⟨rfl,k5⟩))
     go_ret
     exact ⟨rfl,.inl ⟨by decide,hw.trans' k5⟩⟩
    ·have HY2:=HY.out rfl
     clear HN HY
     go_wp2_with (first | (go_at_call 106;refine CM.mono ?_;rintro e w5 ⟨rfl,k5⟩))
     have hw5:=hw.trans' k5
     go_roundw
     case rel=>exact ⟨k+1,by go_num,by omega,HY2,hw5⟩
     case measure=>simp [intOf];omega
   ·obtain rfl:k=l'.length:=by omega
    have hal:l'.all (mayB l'.length)=true:=List.all_eq_true.2 (fun x hx=>by
     obtain ⟨j,hj,rfl⟩:=List.mem_iff_getElem.1 hx
     exact hall.out j hj hj)
    obtain ⟨f1,f2,f3⟩:=few_of_may hal
    have HALL:Hid (l'.all (mayB l'.length)=true):=hal
    have HF1:Hid (∀ x∈l', mayB l'.length x=true):=f1
    have CR:=ring_any (ac:=ac) (HX.out wr hw) f2 f3 (by omega)
    have CN:Hid (∀ ww,Same0 w ww→Calls Try.prog 87 #[.slice ao l'.length ac] ww fun e w' => ∃ v,e=.returned v∧NRow (fun b=>ww.heap.size≤b) ww.heap.size w' v l' ∧ Same0 ww w'):=fun ww hk=>rnodes_any (HX.out ww hk) (by omega)
    clear hall hal f1 f2 f3 HX hk hlt
    go_upto_region 9 with (first | (go_at_call 26;refine CR.mono ?_;rintro e w6 ⟨b,rfl,hb,k6⟩))
    clear CR
    have hw6:=hw.trans' k6
    cases b
    ·have hac:Ac l' := by
      by_cases q:Ac l'
      ·exact q
      ·exact absurd (hb.2 q) (by simp)
     have HAC:Hid (Ac l'):=hac
     obtain rfl:0=E:=HE.out 0 (.inr (.inr (.inr ⟨HA.out,HALL.out,hac,rfl⟩)))
     have C7:=CN.out w6 hw6
     have HP7:Hid (∀ ww,Same0 w6 ww→ww.cell? ⟨r,0,none⟩=some (.int .i64 (room:Int))∧ww.cell? ⟨r,1,none⟩=some v∧ww.frozen? ⟨r,1,none⟩=false):=fun ww hk=>by
      have p7:=HP.out ww (hw6.trans' hk)
      exact ⟨p7.cells.1,p7.cells.2,frozenAt p7.box 1⟩
     clear hb hac HE CN
     go_wp2_with (first | (go_at_call 87;refine C7.mono ?_;rintro e w7 ⟨v7,rfl,hr7,k7⟩;obtain ⟨vo7,vc7,rfl⟩:=hr7.shape;obtain ⟨z0,z1,z2⟩:=HP7.out w7 k7))
     go_ret
     have p7:=HP.out w7 (hw6.trans' k7)
     have K8:Kept (fun k=>k=r) w7 (w7.setCell ⟨r,1,none⟩ (.slice vo7 l'.length vc7)):=Kept.setCell (S:=fun k=>k=r) (Kept.refl _ _) (p:=⟨r,1,none⟩) (fun _=>rfl) _
     have hlt6:r<w6.heap.size:=(HP.out w6 hw6).lt
     refine ⟨rfl,.inr ⟨rfl,_,⟨set_room p7.box _,?_,p7.rm1,p7.rm2,HA.out,HF1.out,HAC.out⟩,(Kept.mono (hw6.trans' k7) (fun _ _ f=>f.elim)).trans K8 (fun _ _ e=>e),fun k e=>Nat.le_trans hw6.size (hr7.block e).1⟩⟩
     exact ((hr7.kept K8 (fun k e q=>by have:=(hr7.block e).1;omega) (fun k _ e=>by rw [e];exact p7.noti)).zero).mono (fun k _ q=>Nat.le_trans hw6.size q)
    ·obtain rfl:113=E:=HE.out 113 (.inr (.inr (.inl ⟨HA.out,HALL.out,hb.1 rfl,rfl⟩)))
     clear hb CN HE
     go_wp2
     go_ret
     exact ⟨rfl,.inl ⟨by decide,hw6⟩⟩
theorem Row.popT {base:Nat} {w:World} {vo:Option Addr} {vc:Nat} {T:List Int} {z:Int} (h:Row base w (.slice vo (T.length+1) vc) (T ++ [z])) :
  ∃ g,vo=some ⟨g,0,none⟩∧base≤g∧g<w.heap.size∧w.cell? ⟨g,T.length,none⟩=some (.int .i64 z)∧Row base w (.slice (some ⟨g,0,none⟩) T.length vc) T∧T.length+1≤vc:=by
 have hi:=h.ints
 obtain ⟨ao,ac,e,h1,h2,h3⟩:=hi
 simp only [Value.slice.injEq] at e
 obtain ⟨rfl,_,rfl⟩:=e
 obtain ⟨b,off,e1,hlt,hc⟩:=h1.get (i:=T.length) (by simp)
 subst e1
 unfold Row at h
 rcases h.2 with ⟨e2,h0⟩ | ⟨g,cap,cur,e2,hb,hg,hle,hm,hsz,ht⟩
 ·cases e2
 ·simp only [Value.slice.injEq,Option.some.injEq,Addr.mk.injEq,and_true] at e2
  obtain ⟨⟨rfl,rfl⟩,e3,rfl⟩:=e2
  refine ⟨b,rfl,hb,hlt,by simpa using hc,?_,by simpa using hle⟩
  unfold Row
  refine ⟨by simp [iv_length],.inr ⟨b,vc,cur,rfl,hb,hg,by simp at hle;omega,hm,hsz,?_⟩⟩
  have:=congrArg (List.take T.length) ht
  rw [List.take_take] at this
  simp [iv] at this
  simpa [iv,Nat.min_eq_left (Nat.le_succ _)] using this
theorem Rdn.bound {N:List Nd} {S out:List Int} (h:Rdn N S out):S.length≤out.length:=by
 induction h with
 | nil=>simp
 | cons _ _ ih=>simp at ih ⊢;omega
theorem eq_efault (v:Value) (w:World):(binOp .eql 35 (.iface 119 v) .nilIface).run Try.prog w=.ok (.bool false) w:=by kernel_rfl
theorem eq_enil (w:World):(binOp .eql 35 .nilIface .nilIface).run Try.prog w=.ok (.bool true) w:=by kernel_rfl
structure RfI (w wr:World) (h g room:Nat) (v:Value) (l:List Nd) (k:Nat):Prop where
 box:wr.heap[h]? = some (.cells #[.slice (some ⟨g,0,none⟩) room room,v] 117 (0,0))
 blk:∃ cs,wr.heap[g]? = some (.cells cs 71 (0,0))∧cs.size=room * 5
 each:∀ i (hi:i<l.length),i<k→NdC (fun b=>w.heap.size≤b) wr g (i * 5) l[i]
 kp:Kept (fun b=>b=g) w wr
theorem RfI.cells {w wr:World} {h g room k:Nat} {v:Value} {l:List Nd} (p:RfI w wr h g room v l k):wr.cell? ⟨h,0,none⟩=some (.slice (some ⟨g,0,none⟩) room room):=cellAt p.box 0
theorem RfI.same {w wr w' : World} {h g room k:Nat} {v:Value} {l:List Nd} (p:RfI w wr h g room v l k) (hk:Same0 wr w'):RfI w w' h g room v l k:=by
 obtain ⟨cs,h1,h2⟩:=p.blk
 exact ⟨hk.at0 p.box,⟨cs,hk.at0 h1,h2⟩,fun i hi hik=>(p.each i hi hik).kept (lt_of_at h1) hk (fun f=>f) (fun _ _ f=>f.elim),p.kp.trans hk (fun _ _ f=>f.elim)⟩
theorem RfI.there {w wr:World} {h g room k:Nat} {v:Value} {l:List Nd} (p:RfI w wr h g room v l k) {i:Nat} (hi:i<room):(∃ u0 u1 u2 u3 u4,wr.cell? ⟨g,i * 5,none⟩=some u0∧wr.cell? ⟨g,i * 5+1,none⟩=some u1∧wr.cell? ⟨g,i * 5+2,none⟩=some u2∧wr.cell? ⟨g,i * 5+3,none⟩=some u3∧wr.cell? ⟨g,i * 5+4,none⟩=some u4)∧∀ o,wr.frozen? ⟨g,o,none⟩=false:=by
 obtain ⟨cs,h1,h2⟩:=p.blk
 have t:∀ o,o<cs.size→wr.cell? ⟨g,o,none⟩=some cs[o]! := fun o ho=>by rw [cellAt h1];simp [ho]
 exact ⟨⟨_,_,_,_,_,t _ (by omega),t _ (by omega),t _ (by omega),t _ (by omega),t _ (by omega)⟩,fun o=>frozenAt h1 o⟩
theorem RfI.put {w wr w3:World} {h g room k:Nat} {v:Value} {l:List Nd} (p:RfI w wr h g room v l k) (hne:h≠g) (hk:Same0 wr w3) (hl:k<l.length) (hr:k<room) {bo:Option Addr} {bc:Nat} (ha:ArgT w3 bo l[k].2.1 bc) (hb:∀ a,bo=some a→w.heap.size≤a.block) :
  RfI w (put5 w3 g (k * 5) (.int .i64 l[k].1) (.slice bo l[k].2.1.length bc) (.int .i64 l[k].2.2.1) (.bool l[k].2.2.2.1) (.int .i64 l[k].2.2.2.2)) h g room v l (k+1):=by
 have p3:=p.same hk
 have hkl:(l.take k).length=k:=by simp;omega
 obtain ⟨q1,q2,q3⟩:=put5_nodes (B:=fun b=>w.heap.size≤b) (B' := fun b=>w.heap.size≤b) (l:=l.take k) (i:=k) (x:=l[k]) (ao:=bo) (ac:=bc) p3.blk (fun i hi=>by
  have hi' : i<k:=by omega
  have:=p3.each i (by omega) hi'
  simpa using this) hr ha hb (fun _ e=>e)
 have K:=put5_kept w3 g (k * 5) (.int .i64 l[k].1) (.slice bo l[k].2.1.length bc) (.int .i64 l[k].2.2.1) (.bool l[k].2.2.2.1) (.int .i64 l[k].2.2.2.2)
 refine ⟨K.at p3.box hne,q2,fun i hi hik=>?_,p3.kp.trans K (fun _ _ e=>e)⟩
 by_cases e:i=k
 ·subst e;exact q1
 ·have:=q3 i (by omega) e
  simpa using this
theorem setCells_kept (g:Nat):∀ (vs:List Value) (o:Nat) (w:World),Kept (fun k=>k=g) w (w.setCells g o vs)∧∀ cs t fr,w.heap[g]? = some (.cells cs t fr)→∃ cs', (w.setCells g o vs).heap[g]? = some (.cells cs' t fr)∧cs'.size=cs.size
 | [],o,w=>⟨Kept.refl _ _,fun cs t fr h=>⟨cs,h,rfl⟩⟩
 | v :: r,o,w=>by
  obtain ⟨h1,h2⟩:=setCells_kept g r (o+1) (w.setCell ⟨g,o,none⟩ v)
  have k:Kept (fun k=>k=g) w (w.setCell ⟨g,o,none⟩ v):=Kept.setCell (S:=fun k=>k=g) (Kept.refl _ _) (p:=⟨g,o,none⟩) (fun _=>rfl) v
  refine ⟨k.trans h1 (fun _ _ e=>e),fun cs t fr h=>?_⟩
  obtain ⟨cs', q1,q2⟩:=h2 _ t fr (setAt h o v)
  exact ⟨cs', q1,by rw [q2];simp⟩
theorem RfI.cleared {w wr:World} {h g room:Nat} {v:Value} {l:List Nd} (p:RfI w wr h g room v l l.length) (hne:h≠g) (vs:List Value):RfI w (wr.setCells g (l.length * 5) vs) h g room v l l.length:=by
 obtain ⟨cs,h1,h2⟩:=p.blk
 obtain ⟨k,q⟩:=setCells_kept g vs (l.length * 5) wr
 obtain ⟨cs', q1,q2⟩:=q cs _ _ h1
 have gi:∀ j,j=g→NotI wr j:=fun j e cur hc=>by rw [e,h1] at hc;cases hc
 refine ⟨k.at p.box hne,⟨cs', q1,by rw [q2,h2]⟩,fun i hi hik=>?_,p.kp.trans k (fun _ _ e=>e)⟩
 obtain ⟨ao,ac,n0,n1,n2,n3,n4,n5,n6⟩:=p.each i hi hik
 have t:∀ o,o<l.length * 5→(wr.setCells g (l.length * 5) vs).cell? ⟨g,o,none⟩=wr.cell? ⟨g,o,none⟩:=fun o ho=>World.cell?_setCells_out g vs _ _ _ (fun _ _=>.inl ho)
 exact ⟨ao,ac,(t _ (by omega)).trans n0,(t _ (by omega)).trans n1,(t _ (by omega)).trans n2,(t _ (by omega)).trans n3,(t _ (by omega)).trans n4,n5.kept k gi,n6⟩
theorem RfI.done {w wr:World} {h g room:Nat} {v:Value} {l:List Nd} (p:RfI w wr h g room v l l.length) (hne:h≠g) (h1:1≤room) (h2:room≤4000) (hl:l.length≤room) (hm:∀ x∈l,mayB l.length x=true) (ha:Ac l) :
  HpB (fun b=>w.heap.size≤b) (wr.setCell ⟨h,1,none⟩ (.int .i64 (l.length:Int))) h g room l∧Kept (fun k=>k=h∨k=g) w (wr.setCell ⟨h,1,none⟩ (.int .i64 (l.length:Int))):=by
 obtain ⟨cs,q1,q2⟩:=p.blk
 have k:Kept (fun k=>k=h) wr (wr.setCell ⟨h,1,none⟩ (.int .i64 (l.length:Int))):=Kept.setCell (S:=fun k=>k=h) (Kept.refl _ _) (p:=⟨h,1,none⟩) (fun _=>rfl) _
 have hi:∀ j,j=h→NotI wr j:=fun j e cur hc=>by rw [e,p.box] at hc;cases hc
 refine ⟨⟨?_,⟨cs,k.at q1 (fun e=>hne e.symm),q2⟩,h1,h2,hl,fun i hi' => (p.each i hi' hi').kept (lt_of_at q1) k (fun e=>hne e.symm) (fun j _ e=>hi j e),hm,ha⟩,?_⟩
 ·have:=setAt p.box 1 (.int .i64 (l.length:Int))
  simpa using this
 ·exact (p.kp.mono (fun _ _ e=>.inr e)).trans k (fun _ _ e=>.inl e)
theorem zero_one (n:Nat):∀ v∈(Builtin.zeroCells #[Value.int .i64 0,.slice none 0 0,.int .i64 0,.bool false,.int .i64 0] n).toList,v.oneCell' = true:=by
 intro v hv
 unfold Builtin.zeroCells at hv
 simp at hv
 obtain ⟨i,hi,rfl⟩:=hv
 have:i % 5<5:=Nat.mod_lt _ (by decide)
 match q:i % 5,this with
 | 0,_=>rfl
 | 1,_=>rfl
 | 2,_=>rfl
 | 3,_=>rfl
 | 4,_=>rfl
theorem run_clear_nodes (w:World) (ty:TypeId) (g o m c:Nat) (hm:0<m) (hc:∀ j,j<m * 5→(w.cell? ⟨g,o+j,none⟩).isSome=true) (hf:∀ j,j<m * 5→w.frozen? ⟨g,o+j,none⟩=false) :
  (Builtin.clear_ #[39] ty #[.slice (some ⟨g,o,none⟩) m c]).run Try.prog w=.ok (.tuple #[]) (w.setCells g o (Builtin.zeroCells #[Value.int .i64 0,.slice none 0 0,.int .i64 0,.bool false,.int .i64 0] m).toList):=by
 have hlen:(Builtin.zeroCells #[Value.int .i64 0,.slice none 0 0,.int .i64 0,.bool false,.int .i64 0] m).toList.length=m * 5:=by simp [Builtin.zeroCells]
 have hst:=run_storeCells_cells (P:=Try.prog) g o (Builtin.zeroCells #[Value.int .i64 0,.slice none 0 0,.int .i64 0,.bool false,.int .i64 0] m).toList 0 w (by rw [hlen];simpa using hc) (by rw [hlen];simpa using hf) (zero_one m)
 simp only [Nat.add_zero] at hst
 obtain ⟨k,rfl⟩:∃ k,m=k+1:=⟨m-1,by omega⟩
 have hcl:(Value.agg #[.int .i64 0,.slice none 0 0,.int .i64 0,.bool false,.int .i64 0]).cells = #[Value.int .i64 0,.slice none 0 0,.int .i64 0,.bool false,.int .i64 0]:=rfl
 simp [Builtin.clear_,run_underlying Try.underlying39,hcl,hst]
set_option maxHeartbeats 1000000 in
theorem refill_yes {B:Nat→Prop} {w:World} {h g room:Nat} {l:List Nd} (p:HpB B w h g room l) {ao:Option Addr} {ac:Nat} {l' : List Nd} (hs:NsV (fun b=>b≠g) w ao l') (hE:RfE room l' 0) :
  Calls Try.prog 64 #[.pointer (some ⟨h,0,none⟩),.slice ao l'.length ac] w fun e w' => e=.returned (.int .i64 0)∧HpB (fun b=>w.heap.size≤b) w' h g room l' ∧ Kept (fun k=>k=h∨k=g) w w' := by
 obtain ⟨a,b,c⟩:l'.length≤room∧l'.all (mayB l'.length)=true∧Ac l' := by
  rcases hE with ⟨_,e⟩ | ⟨_,_,e⟩ | ⟨_,_,_,e⟩ | ⟨a,b,c,_⟩
  ·cases e
  ·cases e
  ·cases e
  ·exact ⟨a,b,c⟩
 obtain ⟨c0,c1⟩:=p.cells
 have hr1:=p.rm1
 have hr2:=p.rm2
 have hne:=p.ne
 have j1:¬ (room:Int)<(l'.length:Int):=by omega
 have CS:=shaped_any (ac:=ac) hs.weak (by omega)
 obtain ⟨f1,f2,f3⟩:=few_of_may b
 have CR:Hid (∀ ww,Same0 w ww→Calls Try.prog 105 #[.slice ao l'.length ac] ww fun e w' => RingQ l' ww e w'):=fun ww hk=>ringed_any (hs.same hk).weak f2 f3 (by omega)
 have HAC:Hid (Ac l'):=c
 have HF1:Hid (∀ x∈l', mayB l'.length x=true):=f1
 have HF3:Hid (∀ x∈l', x.2.1.length≤6):=f3
 have HI0:Hid (∀ ww,Same0 w ww→RfI w ww h g room (.int .i64 (l.length:Int)) l' 0):=fun ww hk=>by
  obtain ⟨cs,h1,h2⟩:=p.blk
  exact ⟨hk.at0 p.box,⟨cs,hk.at0 h1,h2⟩,fun i _ hi=>absurd hi (Nat.not_lt_zero _),hk.mono (fun _ _ f=>f.elim)⟩
 have HGI:Hid (∀ k,k=g→NotI w k):=fun k e cur hc=>by
  obtain ⟨cs,h1,h2⟩:=p.blk
  rw [e,h1] at hc;cases hc
 have HNS:Hid (∀ ww,Kept (fun k=>k=g) w ww→∀ j (hj:j<l'.length),∃ nb noff xo xc,ao=some ⟨nb,noff,none⟩∧ww.cell? ⟨nb,noff+j * 5,none⟩=some (.int .i64 l'[j].1)∧ww.cell? ⟨nb,noff+j * 5+1,none⟩=some (.slice xo l'[j].2.1.length xc)∧ww.cell? ⟨nb,noff+j * 5+2,none⟩=some (.int .i64 l'[j].2.2.1)∧ww.cell? ⟨nb,noff+j * 5+3,none⟩=some (.bool l'[j].2.2.2.1)∧ww.cell? ⟨nb,noff+j * 5+4,none⟩=some (.int .i64 l'[j].2.2.2.2)∧Arg ww xo l'[j].2.1 xc):=fun ww hk j hj=>by
  rcases hs.kept hk (fun _ q t=>q t) with e | ⟨nb,noff,e, -, -,hn⟩
  ·rw [e] at hj;simp at hj
  ·obtain ⟨xo,xc,n0,n1,n2,n3,n4,n5, -⟩:=hn j hj
   exact ⟨nb,noff,xo,xc,e,n0,n1,n2,n3,n4,n5⟩
 rw [b] at CS
 have l0:(0:Int)≤(l'.length:Int):=by omega
 have l1:(l'.length:Int)≤(room:Int):=by omega
 clear hs b f1 f2 f3 c hE
 go_enter Try.func64,Try.ntmps64
 go_upto_region 7 with (first | (go_at_call 104;refine CS.mono ?_;rintro e w1 ⟨rfl,k1⟩))
 have CR1:=CR.out w1 k1
 clear CR CS
 go_upto_region 10 with (first | (go_at_call 105;refine CR1.mono ?_;rintro e w2 ⟨b,rfl,hb,k2⟩;obtain rfl:b=false:=(by cases b;rfl;exact absurd HAC.out (hb.1 rfl))))
 have HI2:Hid (RfI w w2 h g room (.int .i64 (l.length:Int)) l' 0):=HI0.out w2 (k1.trans' k2)
 have hw2:=(k1.trans' k2).size
 clear CR1 hb k1 k2 c0 c1 HI0
 go_loopw [28] (fun i wr=>∃ k:Nat,i=.int .i64 (k:Int)∧k≤l'.length∧Hid (RfI w wr h g room (.int .i64 (l.length:Int)) l' k)) (fun i _=>l'.length-(intOf i).toNat)
 case atStart=>exact ⟨0,rfl,Nat.zero_le _,HI2⟩
 case round=>
  clear HI2
  obtain ⟨k,rfl,hk,HI⟩:=hrel
  by_cases hlt:k<l'.length
  ·have j2:(k:Int)<(l'.length:Int):=by omega
   have j3:(0:Int)≤(k:Int):=by omega
   have j4:(k:Int)<(room:Int):=by omega
   have hkr:k<room:=by omega
   obtain ⟨nb,noff,xo,xc,rfl,n0,n1,n2,n3,n4,n5⟩:=HNS.out wr HI.out.kp k hlt
   obtain ⟨W3,hW3⟩:∃ W3,W3=wr.alloc (.cells #[.int .i64 l'[k].1,.slice xo l'[k].2.1.length xc,.int .i64 l'[k].2.2.1,.bool l'[k].2.2.2.1,.int .i64 l'[k].2.2.2.2] 71):=⟨_,rfl⟩
   have kb:Same0 wr W3:=by rw [hW3];exact (Kept.refl _ _).alloc _
   have kd:Same0 wr W3.drew:=kb.drew
   obtain ⟨x0,x1,x2,x3,x4⟩:=box_node' wr l'[k] xo xc (show Same0 _ W3.drew by rw [hW3];exact (Kept.refl _ _).drew)
   have c0:=(HI.out.same kd).cells
   have h6:=HF3.out _ (List.getElem_mem hlt)
   have CC:=copied_any (x:=l'[k]) (ac:=xc) (n5.onto kd) (by omega)
   have HP:Hid (∀ w3 bo bc,Same0 wr w3→ArgT w3 bo l'[k].2.1 bc→(∀ a,bo=some a→w.heap.size≤a.block)→RfI w (put5 w3 g (k * 5) (.int .i64 l'[k].1) (.slice bo l'[k].2.1.length bc) (.int .i64 l'[k].2.2.1) (.bool l'[k].2.2.2.1) (.int .i64 l'[k].2.2.2.2)) h g room (.int .i64 (l.length:Int)) l' (k+1)):=fun w3 bo bc hk3 ha hb=>HI.out.put hne hk3 hlt hkr ha hb
   have HSZ:Hid (w.heap.size≤W3.drew.heap.size):=Nat.le_trans HI.out.kp.size kd.size
   have HT:Hid (∀ w3,Same0 wr w3→(∃ u0 u1 u2 u3 u4,w3.cell? ⟨g,k * 5,none⟩=some u0∧w3.cell? ⟨g,k * 5+1,none⟩=some u1∧w3.cell? ⟨g,k * 5+2,none⟩=some u2∧w3.cell? ⟨g,k * 5+3,none⟩=some u3∧w3.cell? ⟨g,k * 5+4,none⟩=some u4)∧(∀ o,w3.frozen? ⟨g,o,none⟩=false)∧w3.cell? ⟨h,0,none⟩=some (.slice (some ⟨g,0,none⟩) room room)):=fun w3 hk3=>⟨((HI.out.same hk3).there hkr).1,((HI.out.same hk3).there hkr).2,(HI.out.same hk3).cells⟩
   clear n5 kb
   go_upto_region 12 with fail
   rw [← hW3]
   clear hW3 n0 n1 n2 n3 n4
   go_region_with (first | (go_at_call 59;refine CC.mono ?_;rintro e w5 ⟨bo,bc,rfl,ha,hbb,hk5⟩;have K5:=kd.trans' hk5;obtain ⟨⟨u0,u1,u2,u3,u4,t0,t1,t2,t3,t4⟩,ff,cc1⟩:=HT.out w5 K5;have f0:=ff (k * 5);have f1:=ff (k * 5+1);have f2:=ff (k * 5+2);have f3:=ff (k * 5+3);have f4:=ff (k * 5+4);clear ff))
   all_goals
    have HN:Hid (RfI w (put5 w5 g (k * 5) (.int .i64 l'[k].1) (.slice bo l'[k].2.1.length bc) (.int .i64 l'[k].2.2.1) (.bool l'[k].2.2.2.1) (.int .i64 l'[k].2.2.2.2)) h g room (.int .i64 (l.length:Int)) l' (k+1)):=HP.out w5 bo bc K5 ha (fun a e=>Nat.le_trans HSZ.out (hbb a e))
    clear t0 t1 t2 t3 t4 f0 f1 f2 f3 f4 cc1 x0 x1 x2 x3 x4 c0 CC ha hbb
    go_wp2
    go_roundw
    case rel=>first | exact ⟨k+1,by go_num,by omega,HN⟩ | ((repeat apply Exists.intro);exact ⟨⟨k+1,by go_num,by omega,HN⟩,rfl⟩)
    case measure=>simp [intOf];omega
  ·have hkl:k=l'.length:=by omega
   subst hkl
   have c0:=HI.out.cells
   go_upto_region 14 with fail
   by_cases hfull:l'.length<room
   ·have l2:(l'.length:Int)<(room:Int):=by omega
    obtain ⟨Wz,hWz⟩:∃ Wz,Wz=wr.setCells g (l'.length * 5) (Builtin.zeroCells #[Value.int .i64 0,.slice none 0 0,.int .i64 0,.bool false,.int .i64 0] (room-l'.length)).toList:=⟨_,rfl⟩
    have HCL:∀ ty,(Builtin.clear_ #[39] ty #[.slice (some ⟨g,l'.length * 5,none⟩) (room-l'.length) (room-l'.length)]).run Try.prog wr=.ok (.tuple #[]) Wz:=by
     intro ty
     obtain ⟨cs,q1,q2⟩:=HI.out.blk
     rw [hWz]
     refine run_clear_nodes wr ty g _ _ _ (by omega) (fun j hj=>?_) (fun j _=>frozenAt q1 _)
     rw [cellAt q1]
     simp
     omega
    have HIZ:Hid (RfI w Wz h g room (.int .i64 (l.length:Int)) l' l'.length):=by rw [hWz];exact HI.out.cleared hne _
    have z1:Wz.cell? ⟨h,1,none⟩=some (.int .i64 (l.length:Int)):=cellAt HIZ.out.box 1
    have z2:Wz.frozen? ⟨h,1,none⟩=false:=frozenAt HIZ.out.box 1
    have FF:Hid (HpB (fun b=>w.heap.size≤b) (Wz.setCell ⟨h,1,none⟩ (.int .i64 (l'.length:Int))) h g room l' ∧ Kept (fun k=>k=h∨k=g) w (Wz.setCell ⟨h,1,none⟩ (.int .i64 (l'.length:Int)))):=HIZ.out.done hne hr1 hr2 a HF1.out HAC.out
    clear hWz HIZ HI HNS p
    go_wp2
    go_ret
    exact ⟨rfl,FF.out.1,FF.out.2⟩
   ·have hfl:l'.length=room:=by omega
    have z1:wr.cell? ⟨h,1,none⟩=some (.int .i64 (l.length:Int)):=cellAt HI.out.box 1
    have z2:wr.frozen? ⟨h,1,none⟩=false:=frozenAt HI.out.box 1
    have FF:Hid (HpB (fun b=>w.heap.size≤b) (wr.setCell ⟨h,1,none⟩ (.int .i64 (l'.length:Int))) h g room l' ∧ Kept (fun k=>k=h∨k=g) w (wr.setCell ⟨h,1,none⟩ (.int .i64 (l'.length:Int)))):=HI.out.done hne hr1 hr2 a HF1.out HAC.out
    rw [hfl] at FF ⊢
    have HCL:∀ ty,(Builtin.clear_ #[39] ty #[.slice (some ⟨g,0,none⟩) 0 0]).run Try.prog wr=.ok (.tuple #[]) wr:=fun ty=>by simp [Builtin.clear_,run_underlying Try.underlying39]
    clear HI HNS p hfl hfull hlt
    go_wp2
    go_ret
    exact ⟨rfl,FF.out.1,FF.out.2⟩
theorem grfe_ex (room:Nat) (l:List Nd):∃ E,RfE room l E:=by
 by_cases h1:room<l.length
 ·exact ⟨_,.inl ⟨h1,rfl⟩⟩
 ·by_cases h2:l.all (mayB l.length)=true
  ·by_cases h3:Ac l
   ·exact ⟨_,.inr (.inr (.inr ⟨by omega,h2,h3,rfl⟩))⟩
   ·exact ⟨_,.inr (.inr (.inl ⟨by omega,h2,h3,rfl⟩))⟩
  ·exact ⟨_,.inr (.inl ⟨by omega,by rw [Bool.not_eq_true] at h2;exact h2,rfl⟩)⟩
theorem grfe_range {room:Nat} {l:List Nd} {E:Int} (h:RfE room l E):0≤E∧E≤120:=by
 rcases h with ⟨_,rfl⟩ | ⟨_,_,rfl⟩ | ⟨_,_,_,rfl⟩ | ⟨_,_,_,rfl⟩ <;> omega
theorem RhB.monoG {B B' : Nat→Prop} {w:World} {r room:Nat} {v:Value} {l:List Nd} (p:RhB B w r room v l) (hB:∀ k,k<w.heap.size→B k→B' k):RhB B' w r room v l:=⟨p.box,p.row.mono hB,p.rm1,p.rm2,p.le,p.may,p.ac⟩
structure MgAt (w w' : World) (h g r:Nat) (v:Value) (l:List Nd):Prop where
 hp:HpB (fun b=>w.heap.size≤b) w' h g 4000 l
 rh:RhB (fun b=>w.heap.size≤b) w' r 4000 v l
 same:Same0 w w'
 lh:w.heap.size≤h
 lg:w.heap.size≤g
 lr:w.heap.size≤r
 lv:∀ k,v.ownBlock=some k→w.heap.size≤k∧k≠g∧k≠h∧k≠r
 nr:r≠h∧r≠g
def MgQ (l:List Nd) (w:World) (e:Ending) (w' : World):Prop:=
 (e=.returned (.tuple #[.pointer none,.pointer none])∧Same0 w w')∨∃ h g r v,e=.returned (.tuple #[.pointer (some ⟨h,0,none⟩),.pointer (some ⟨r,0,none⟩)])∧MgAt w w' h g r v l
set_option maxHeartbeats 2000000 in
theorem made13_any {w:World} {ao:Option Addr} {ac:Nat} {l:List Nd} (hs:NsW w ao l) (hsz:l.length≤maxLen) :
  Calls Try.prog 24 #[.int .i64 4000,.slice ao l.length ac] w fun e w' => MgQ l w e w' := by
 obtain ⟨E,hE⟩:=grfe_ex 4000 l
 have C1:=hnew_yes 4000 w (by omega) (by omega)
 have HS:Hid (∀ ww,Same0 w ww→NsW ww ao l):=fun ww hk=>hs.same hk
 have HV:Hid (NsV (fun b=>b<w.heap.size) w ao l):=hs.below
 have HZ:Hid (l.length≤maxLen):=hsz
 have HE:Hid (RfE 4000 l E):=hE
 obtain ⟨e1,e2⟩:=grfe_range hE
 clear hs hsz hE
 by_cases h0:E=0
 ·subst h0
  go_enter Try.func24,Try.ntmps24
  go_upto_region 5 with (first | (go_at_call 14;refine C1.mono ?_;rintro e w1 ⟨h,g,rfl,p1,k1,lh,lg⟩;have C2:=rnew_yes 4000 w1 (by omega) (by omega)) | (go_at_call 38;refine C2.mono ?_;rintro e w2 ⟨r,rfl,q2,k2,lr⟩))
  have p2:=p1.same k2
  have K2:=k1.trans' k2
  have hhl:=p1.ltH
  have hgl:=p1.ltG
  have C3:=refill_yes (ac:=ac) p2 ((HV.out.same K2).mono (fun b hb=>show b≠g by omega)) HE.out
  clear p1 C1
  go_upto_region 7 with (first | (go_at_call 64;refine C3.mono ?_;rintro e w3 ⟨rfl,p3,k3⟩;have K3:Same0 w w3:=K2.trans k3 (fun i hi e=>by omega);have C4:=rrefill_any (ac:=ac) (q2.kept k3 (fun e=>by omega) (fun k e=>by cases e) (fun k f=>f.elim)) (HS.out w3 K3) HZ.out HE.out) | (go_at_call 65;refine C4.mono ?_;rintro e w4 ⟨rfl,q4⟩))
  have FIN:MgQ l w (.returned (.tuple #[.pointer (some ⟨h,0,none⟩),.pointer (some ⟨r,0,none⟩)])) w4:=by
   rcases q4 with ⟨e,_⟩ | ⟨_,v,r4,k4,lv⟩
   ·exact absurd rfl e
   ·have hr2:=q2.lt
    have s2:=K2.size
    have s3:=k3.size
    refine .inr ⟨h,g,r,v,rfl,(p3.kept k4 (by omega) (by omega) (fun k _ e cur hc=>?_)).mono (fun k _ _ hk=>by omega),RhB.monoG r4 (fun k _ hk=>by omega),K3.trans k4 (fun i hi e=>by have:=k1.size;omega),lh,lg,by have:=k1.size;omega,fun k e=>?_,by omega,by omega⟩
    ·subst e
     have:=k3.at q2.box (by omega)
     rw [this] at hc
     cases hc
    ·have:=lv k e
     have:=k1.size
     omega
  clear q4 C3 C4 HE HV HS q2 p2 p3
  go_wp2
  go_ret2
  exact FIN
 ·have HN:Hid (E≠0):=h0
  have b1:(E != 0)=true:=by simpa using h0
  have b2:(E == 0)=false:=by simpa using h0
  have b3:(E != E)=false:=by simp
  go_enter Try.func24,Try.ntmps24
  go_upto_region 5 with (first | (go_at_call 14;refine C1.mono ?_;rintro e w1 ⟨h,g,rfl,p1,k1,lh,lg⟩;have C2:=rnew_yes 4000 w1 (by omega) (by omega)) | (go_at_call 38;refine C2.mono ?_;rintro e w2 ⟨r,rfl,q2,k2,lr⟩))
  have K2:=k1.trans' k2
  have C3:=refill_no (ac:=ac) (p1.same k2) (HS.out w2 K2) HZ.out HE.out HN.out
  clear p1 C1
  go_upto_region 7 with (first | (go_at_call 64;refine C3.mono ?_;rintro e w3 ⟨rfl,k3⟩;have K3:=K2.trans' k3;have C4:=rrefill_any (ac:=ac) (q2.same k3) (HS.out w3 K3) HZ.out HE.out) | (go_at_call 65;refine C4.mono ?_;rintro e w4 ⟨rfl,q4⟩))
  have FIN:MgQ l w (.returned (.tuple #[.pointer none,.pointer none])) w4:=by
   rcases q4 with ⟨_,e⟩ | ⟨e,_⟩
   ·exact .inl ⟨rfl,K3.trans' e⟩
   ·exact absurd e HN.out
  clear q4 C3 C4 HE HV HS q2
  go_wp2
  go_ret2
  exact FIN
end Go.Proofs.Ytpimndkhoalaeaa
namespace Go.Proofs.Ytpimndkhoalaeaa
set_option maxRecDepth 100000
set_option linter.unusedVariables false
open Go.RowKit Go.Deep
theorem cells_node:Try.prog.cellsOf 71=5:=by kernel_rfl
theorem bytes_node:Try.prog.bytesOf 71=56:=by kernel_rfl
theorem cells_boolT:Try.prog.cellsOf 4=1:=by kernel_rfl
theorem cells_intsT:Try.prog.cellsOf 23=1:=by kernel_rfl
def NdI (x:Nd):Prop:=I64 x.1∧(∀ z∈x.2.1,I64 z)∧I64 x.2.2.1∧I64 x.2.2.2.2
section
variable {H : Type} {enc : TypeId × Value → H} {w : World} {spare : Nat → Bool} {held : Bool}
theorem weightsAll_mem11 {P:Program} {e:TypeId} {l:List (DataW H)} {d:DataW H} (h:d∈l) {n:Nat} (hn:n∈d.weights P e):n∈DataW.weightsAll P e l:=by
 induction l with
 | nil=>cases h
 | cons x r ih=>
  simp only [DataW.weightsAll,List.mem_append]
  rcases List.mem_cons.1 h with q | q
  ·subst q;exact .inl hn
  ·exact .inr (ih q)
set_option maxRecDepth 100000 in
theorem open_elems11 {t e c fuel:Nat} {ao:Option Addr} {len cap:Nat} {x:DataW H × List MemPlace} (ht:Try.prog.underlying t=some (.slice e)) (hc:Try.prog.cellsOf e=c) (h0:0<c) (h:DataW.trod enc Try.prog w 0 spare held fuel t [.slice ao len cap]=some x) (hw:∀ n∈x.1.weights Try.prog t,n≤reachBytes) :
  (ao=none∧len=0∧cap=0)∨∃ a,ao=some a∧len≤cap∧cap≤maxLen∧len * Try.prog.bytesOf e≤reachBytes∧∀ i,i<len→a=⟨a.block,a.off,none⟩∧a.block<w.heap.size∧∃ cs n y,cs.length=c∧(∀ j,j<c→w.cell? ⟨a.block,a.off+i * c+j,none⟩=cs[j]?)∧DataW.trod enc Try.prog w 0 spare held n e cs=some y∧∀ n∈y.1.weights Try.prog e,n≤reachBytes:=by
 rcases open_slice ht h with ⟨hcs,_⟩ | ⟨a,len', cap', m,n,D,Pl,hcs,_,hl,hm,hmm,rfl,hx⟩
 ·simp at hcs;exact .inl ⟨hcs.1,hcs.2.1,hcs.2.2⟩
 ·simp at hcs
  obtain ⟨rfl,rfl,rfl⟩:=hcs
  have hb:len * Try.prog.bytesOf e≤reachBytes:=by
   have:=hw ((((List.range len).map D).length+((List.range (m-len)).map fun j=>D (len+j)).length) * Try.prog.bytesOf e) (by simp [DataW.weights,ht])
   refine Nat.le_trans (Nat.mul_le_mul_right _ ?_) this
   simp
  refine .inr ⟨a,rfl,hl,hm,hb,fun i hi=>?_⟩
  have hmi:i<m:=by rw [hmm];split <;> omega
  have hm0:0<m:=by omega
  obtain ⟨cs0,g0,_⟩:=hx 0 hm0
  rw [hc] at g0
  obtain ⟨_,gl,gc⟩:=World.cells?_some g0
  have hsp:a.spot=none:=by
   have:=gc 0 h0
   have hv:cs0[0]? = some (cs0[0]'(by omega)):=List.getElem?_eq_getElem (by omega)
   rw [hv] at this
   simp [Addr.add] at this
   exact World.cell?_spot this
  have hlt:a.block<w.heap.size:=World.cells?_block (by simpa [Addr.add] using g0) h0
  have ea:a=⟨a.block,a.off,none⟩:=by cases a;simp_all
  obtain ⟨cs,g1,g2⟩:=hx i hmi
  rw [hc] at g1
  obtain ⟨_,gl1,gc1⟩:=World.cells?_some g1
  refine ⟨ea,hlt,cs,n,_,gl1,fun j hj=>?_,g2,fun k hk=>hw k ?_⟩
  ·rw [← gc1 j hj,add_add]
   congr 1
   unfold Addr.add
   split
   ·rw [ea];simp;omega
   ·simp
  ·simp only [DataW.weights,ht,List.mem_cons,List.mem_append]
   exact .inr (.inl (weightsAll_mem11 (List.mem_map.2 ⟨i,by simpa using hi,rfl⟩) hk))
theorem trod_node {fuel:Nat} {cs:List Value} {x:DataW H × List MemPlace} (hl:cs.length=5) (h:DataW.trod enc Try.prog w 0 spare held fuel 71 cs=some x) (hw:∀ n∈x.1.weights Try.prog 71,n≤reachBytes):∃ (y:Nd) (xo:Option Addr) (xc:Nat),NdI y∧Arg w xo y.2.1 xc∧cs=[.int .i64 y.1,.slice xo y.2.1.length xc,.int .i64 y.2.2.1,.bool y.2.2.2.1,.int .i64 y.2.2.2.2]:=by
 obtain ⟨y0,y1,y2,y3,y4,n', hyd,hl', g0,g1,g2,g3,g4⟩:=trod_struct5 Try.underlying71 h
 match cs,hl with
 | [c0,c1,c2,c3,c4],_=>
  simp only [cells_int,cells_boolT,cells_intsT,List.drop_zero,List.take_succ_cons,List.take_zero,List.drop_succ_cons] at g0 g1 g2 g3 g4
  obtain ⟨z0,e0,_,w0⟩:=DataW.trod_int Try.underlying3 g0
  obtain ⟨z2,e2,_,w2⟩:=DataW.trod_int Try.underlying3 g2
  obtain ⟨z3,e3,_⟩:=DataW.trod_bool Try.underlying4 g3
  obtain ⟨z4,e4,_,w4⟩:=DataW.trod_int Try.underlying3 g4
  have hyw1:∀ n∈y1.1.weights Try.prog 23,n≤reachBytes:=fun n hn=>hw n (by
   rw [hyd]
   simp only [DataW.weights,Try.underlying71]
   simp [DataW.weightsEach,hn])
  obtain ⟨xo,len,xc,e1⟩:=slice_one Try.underlying23 g1
  subst e1
  obtain ⟨xs,hxl,hxa,hxi⟩:=open_ints64 Try.underlying23 g1 hyw1
  subst hxl
  simp only [List.cons.injEq,and_true] at e0 e2 e3 e4
  subst e0 e2 e3 e4
  exact ⟨(z0,xs,z2,z3,z4),xo,xc,⟨i64_wf w0,hxi,i64_wf w2,i64_wf w4⟩,hxa,rfl⟩
theorem open_nodes {fuel:Nat} {ao:Option Addr} {len cap:Nat} {x:DataW H × List MemPlace} (h:DataW.trod enc Try.prog w 0 spare held fuel 39 [.slice ao len cap]=some x) (hw:∀ n∈x.1.weights Try.prog 39,n≤reachBytes) :
  ∃ l:List Nd,l.length=len∧NsW w ao l∧len * 56≤140737488351232∧len≤cap∧(ao=none→len=0∧cap=0)∧∀ y∈l,NdI y:=by
 rcases open_elems11 Try.underlying39 cells_node (by omega) h hw with ⟨rfl,rfl,rfl⟩ | ⟨a,rfl,hl1,hl2,hsz,hall⟩
 ·exact ⟨[],rfl,.inl rfl,by omega,Nat.le_refl _,fun _=>⟨rfl,rfl⟩,by simp⟩
 ·rw [bytes_node] at hsz
  have each:∀ i,i<len→∃ y:Nd,NdI y∧∃ xo xc,w.cell? ⟨a.block,a.off+i * 5,none⟩=some (.int .i64 y.1)∧w.cell? ⟨a.block,a.off+i * 5+1,none⟩=some (.slice xo y.2.1.length xc)∧w.cell? ⟨a.block,a.off+i * 5+2,none⟩=some (.int .i64 y.2.2.1)∧w.cell? ⟨a.block,a.off+i * 5+3,none⟩=some (.bool y.2.2.2.1)∧w.cell? ⟨a.block,a.off+i * 5+4,none⟩=some (.int .i64 y.2.2.2.2)∧Arg w xo y.2.1 xc:=by
   intro i hi
   obtain ⟨_,_,cs,n,y,hl,hcell,hy,hyw⟩:=hall i hi
   obtain ⟨z,xo,xc,h1,h2,rfl⟩:=trod_node hl hy hyw
   exact ⟨z,h1,xo,xc,by simpa using hcell 0 (by omega),by simpa using hcell 1 (by omega),by simpa using hcell 2 (by omega),by simpa using hcell 3 (by omega),by simpa using hcell 4 (by omega),h2⟩
  obtain ⟨f,hf⟩:=Classical.axiomOfChoice (fun i:Fin len=>each i i.2)
  refine ⟨List.ofFn f,by simp,?_,by simpa [reachBytes] using hsz,hl1,(fun e=>by cases e),fun y hy=>?_⟩
  ·by_cases h0:len=0
   ·subst h0;exact .inl (by simp)
   ·obtain ⟨ea,hlt,_⟩:=hall 0 (by omega)
    refine .inr ⟨a.block,a.off,by rw [← ea],hlt,fun i hi=>?_⟩
    have hi' : i<len:=by simpa using hi
    simpa using (hf ⟨i,hi'⟩).2
  ·obtain ⟨i,rfl⟩:=List.mem_ofFn.1 hy
   exact (hf i).1
end
theorem cells_partT:Try.prog.cellsOf 52=2:=by kernel_rfl
theorem bytes_partT:Try.prog.bytesOf 52=32:=by kernel_rfl
theorem cells_partsT:Try.prog.cellsOf 50=1:=by kernel_rfl
theorem cells_tryT:Try.prog.cellsOf 67=2:=by kernel_rfl
def TrAt (w:World) (ao:Option Addr) (l:List (Int × Int)):Prop:=
 l=[]∨∃ b off,ao=some ⟨b,off,none⟩∧b<w.heap.size∧∀ j (hj:j<l.length),w.cell? ⟨b,off+j * 2,none⟩=some (.int .i64 l[j].1)∧w.cell? ⟨b,off+j * 2+1,none⟩=some (.int .i64 l[j].2)
theorem TrAt.same {w w' : World} {ao:Option Addr} {l:List (Int × Int)} (h:TrAt w ao l) (hk:Same0 w w'):TrAt w' ao l:=by
 refine h.imp id ?_
 rintro ⟨b,off,e,hb,hc⟩
 refine ⟨b,off,e,Nat.lt_of_lt_of_le hb hk.size,fun j hj=>?_⟩
 obtain ⟨d0,d1⟩:=hc j hj
 exact ⟨(hk.cell (p:=⟨b,off+j * 2,none⟩) hb (fun f=>f)).trans d0,(hk.cell (p:=⟨b,off+j * 2+1,none⟩) hb (fun f=>f)).trans d1⟩
section
variable {H : Type} {enc : TypeId × Value → H} {w : World} {spare : Nat → Bool} {held : Bool}
theorem trod_struct2 {P:Program} {base:Nat} {t:TypeId} {f0 f1:Field} {fuel:Nat} {cs:List Value} {x:DataW H × List MemPlace} (ht:P.underlying t=some (.struct #[f0,f1])) (h:DataW.trod enc P w base spare held fuel t cs=some x) :
  ∃ y0 y1 n,x.1=.agg [y0.1,y1.1]∧cs.length=P.cellsOf t∧DataW.trod enc P w base spare held n f0.type ((cs.drop f0.offset).take (P.cellsOf f0.type))=some y0∧DataW.trod enc P w base spare held n f1.type ((cs.drop f1.offset).take (P.cellsOf f1.type))=some y1:=by
 obtain ⟨xs,n,_,rfl,hl,hlen,hf⟩:=DataW.trod_struct ht h
 match xs,hlen with
 | [y0,y1],_=>exact ⟨y0,y1,n,by simp,hl,by simpa using hf 0 f0 rfl,by simpa using hf 1 f1 rfl⟩
theorem open_parts13 {fuel:Nat} {ao:Option Addr} {len cap:Nat} {x:DataW H × List MemPlace} (h:DataW.trod enc Try.prog w 0 spare held fuel 50 [.slice ao len cap]=some x) (hw:∀ n∈x.1.weights Try.prog 50,n≤reachBytes) :
  ∃ l:List (Int × List Int),l.length=len∧PaAt w ao l∧len≤4398046511104:=by
 rcases open_elems11 Try.underlying50 cells_partT (by omega) h hw with ⟨rfl,rfl,rfl⟩ | ⟨a,rfl,hl1,hl2,hsz,hall⟩
 ·exact ⟨[],rfl,.inl rfl,by omega⟩
 ·rw [bytes_partT] at hsz
  have each:∀ i,i<len→∃ y:Int × List Int,∃ xo xc,w.cell? ⟨a.block,a.off+i * 2,none⟩=some (.int .i64 y.1)∧w.cell? ⟨a.block,a.off+i * 2+1,none⟩=some (.slice xo y.2.length xc)∧IntsAt w xo y.2∧y.2.length≤maxLen:=by
   intro i hi
   obtain ⟨_,_,cs,n,y,hl,hcell,hy,hyw⟩:=hall i hi
   obtain ⟨y0,y1,n', hyd,hl', g0,g1⟩:=trod_struct2 Try.underlying52 hy
   match cs,hl with
   | [c0,c1],_=>
    simp only [cells_int,cells_intsT,List.drop_zero,List.take_succ_cons,List.take_zero,List.drop_succ_cons] at g0 g1
    obtain ⟨z0,e0,_,w0⟩:=DataW.trod_int Try.underlying3 g0
    have hyw1:∀ n∈y1.1.weights Try.prog 23,n≤reachBytes:=fun n hn=>hyw n (by
     rw [hyd]
     simp only [DataW.weights,Try.underlying52]
     simp [DataW.weightsEach,hn])
    obtain ⟨xo,xl,xc,e1⟩:=slice_one Try.underlying23 g1
    subst e1
    obtain ⟨xs,hxl,hxa,hxi⟩:=open_ints64 Try.underlying23 g1 hyw1
    subst hxl
    simp only [List.cons.injEq,and_true] at e0
    subst e0
    exact ⟨(z0,xs),xo,xc,by simpa using hcell 0 (by omega),by simpa using hcell 1 (by omega),hxa.at', by have:=hxa.size;show xs.length≤maxLen;unfold maxLen;omega⟩
  obtain ⟨f,hf⟩:=Classical.axiomOfChoice (fun i:Fin len=>each i i.2)
  refine ⟨List.ofFn f,by simp,?_,by unfold reachBytes at hsz;omega⟩
  by_cases h0:len=0
  ·subst h0;exact .inl (by simp)
  ·obtain ⟨ea,hlt,_⟩:=hall 0 (by omega)
   refine .inr ⟨a.block,a.off,by rw [← ea],hlt,fun i hi=>?_⟩
   have hi' : i<len:=by simpa using hi
   simpa using hf ⟨i,hi'⟩
theorem open_rights13 {fuel:Nat} {ao:Option Addr} {len cap:Nat} {x:DataW H × List MemPlace} (h:DataW.trod enc Try.prog w 0 spare held fuel 54 [.slice ao len cap]=some x) (hw:∀ n∈x.1.weights Try.prog 54,n≤reachBytes) :
  ∃ l:List (List (Int × List Int)),l.length=len∧RtAt w ao l:=by
 rcases open_elems11 Try.underlying54 cells_partsT (by omega) h hw with ⟨rfl,rfl,rfl⟩ | ⟨a,rfl,hl1,hl2,hsz,hall⟩
 ·exact ⟨[],rfl,.inl rfl⟩
 ·have each:∀ i,i<len→∃ y:List (Int × List Int),∃ go gc,w.cell? ⟨a.block,a.off+i,none⟩=some (.slice go y.length gc)∧PaAt w go y∧y.length≤4398046511104:=by
   intro i hi
   obtain ⟨_,_,cs,n,y,hl,hcell,hy,hyw⟩:=hall i hi
   match cs,hl with
   | [c0],_=>
    obtain ⟨xo,xl,xc,e1⟩:=slice_one Try.underlying50 hy
    subst e1
    obtain ⟨q,hq1,hq2,hq3⟩:=open_parts13 hy hyw
    subst hq1
    exact ⟨q,xo,xc,by simpa using hcell 0 (by omega),hq2,hq3⟩
  obtain ⟨f,hf⟩:=Classical.axiomOfChoice (fun i:Fin len=>each i i.2)
  refine ⟨List.ofFn f,by simp,?_⟩
  by_cases h0:len=0
  ·subst h0;exact .inl (by simp)
  ·obtain ⟨ea,hlt,_⟩:=hall 0 (by omega)
   refine .inr ⟨a.block,a.off,by rw [← ea],hlt,fun i hi=>?_⟩
   have hi' : i<len:=by simpa using hi
   simpa using hf ⟨i,hi'⟩
theorem open_tries {fuel:Nat} {ao:Option Addr} {len cap:Nat} {x:DataW H × List MemPlace} (h:DataW.trod enc Try.prog w 0 spare held fuel 63 [.slice ao len cap]=some x) (hw:∀ n∈x.1.weights Try.prog 63,n≤reachBytes) :
  ∃ l:List (Int × Int),l.length=len∧TrAt w ao l∧len≤maxLen:=by
 rcases open_elems11 Try.underlying63 cells_tryT (by omega) h hw with ⟨rfl,rfl,rfl⟩ | ⟨a,rfl,hl1,hl2,hsz,hall⟩
 ·exact ⟨[],rfl,.inl rfl,Nat.zero_le _⟩
 ·have each:∀ i,i<len→∃ y:Int × Int,w.cell? ⟨a.block,a.off+i * 2,none⟩=some (.int .i64 y.1)∧w.cell? ⟨a.block,a.off+i * 2+1,none⟩=some (.int .i64 y.2):=by
   intro i hi
   obtain ⟨_,_,cs,n,y,hl,hcell,hy,hyw⟩:=hall i hi
   obtain ⟨y0,y1,n', hyd,hl', g0,g1⟩:=trod_struct2 Try.underlying67 hy
   match cs,hl with
   | [c0,c1],_=>
    simp only [cells_int,List.drop_zero,List.take_succ_cons,List.take_zero,List.drop_succ_cons] at g0 g1
    obtain ⟨z0,e0,_,w0⟩:=DataW.trod_int Try.underlying3 g0
    obtain ⟨z1,e1,_,w1⟩:=DataW.trod_int Try.underlying3 g1
    simp only [List.cons.injEq,and_true] at e0 e1
    subst e0 e1
    exact ⟨(z0,z1),by simpa using hcell 0 (by omega),by simpa using hcell 1 (by omega)⟩
  obtain ⟨f,hf⟩:=Classical.axiomOfChoice (fun i:Fin len=>each i i.2)
  refine ⟨List.ofFn f,by simp,?_,by omega⟩
  by_cases h0:len=0
  ·subst h0;exact .inl (by simp)
  ·obtain ⟨ea,hlt,_⟩:=hall 0 (by omega)
   refine .inr ⟨a.block,a.off,by rw [← ea],hlt,fun i hi=>?_⟩
   have hi' : i<len:=by simpa using hi
   simpa using hf ⟨i,hi'⟩
end
end Go.Proofs.Ytpimndkhoalaeaa
namespace Go.Proofs.Ytpimndkhoalaeaa
set_option maxRecDepth 100000
set_option linter.unusedVariables false
open Go.RowKit
attribute [local go_sem ↓] Go.wp_at_zero Go.wp_at_succ
def eqL (l l' : List Nd):Bool:=decide (l=l')
theorem eqL_self (l:List Nd):eqL l l=true:=by unfold eqL;simp
set_option maxHeartbeats 2000000 in
theorem sameNodes_any {w:World} {ao bo:Option Addr} {ac bc:Nat} {l l' : List Nd} (h:NsW w ao l) (h' : NsW w bo l') (hm:l.length≤maxLen) :
  Calls Try.prog 25 #[.slice ao l.length ac,.slice bo l'.length bc] w fun e w' => e=.returned (.bool (eqL l l'))∧Same0 w w' := by
 unfold maxLen at hm
 by_cases hl:l.length=l'.length
 ·have hl' : (l.length:Int)=(l'.length:Int):=by omega
  have HX:Hid (∀ ww,Same0 w ww→NsW ww ao l):=fun ww hw=>h.same hw
  have HY:Hid (∀ ww,Same0 w ww→NsW ww bo l'):=fun ww hw=>h'.same hw
  have HL:Hid (l.length=l'.length):=hl
  have KR:Same0 w w:=Kept.refl _ _
  clear h h' hl
  go_enter Try.func25,Try.ntmps25
  go_wp2
  go_loopw [5] (fun i wr=>∃ k:Nat,k≤l.length∧i=.int .i64 k∧Hid (∀ j (h1:j<l.length) (h2:j<l'.length),j<k→l[j]=l'[j])∧Same0 w wr) (fun i _=>l.length-(intOf i).toNat)
  case atStart=>exact ⟨0,Nat.zero_le _,rfl,fun j _ _ hj=>absurd hj (Nat.not_lt_zero _),KR⟩
  case round=>
   clear KR
   obtain ⟨k,hk,rfl,hall,hw⟩:=hrel
   by_cases hlt:k<l.length
   ·have hlt' : k<l'.length:=by rw [← HL.out];exact hlt
    have i1:(0:Int)≤(k:Int):=by omega
    have i2:(k:Int)<(l.length:Int):=by omega
    have i3:(k:Int)<(l'.length:Int):=by omega
    rcases HX.out wr.drew (hw.drew) with e | ⟨mb,moff,e,hmb,hm'⟩
    ·rw [e] at hlt;simp at hlt
    subst e
    rcases HY.out wr.drew (hw.drew) with e | ⟨nb,noff,e,hnb,hn⟩
    ·rw [e] at hlt'; simp at hlt'
    subst e
    obtain ⟨xo,xc,m0,m1,m2,m3,m4,m5⟩:=hm' k hlt
    obtain ⟨yo,yc,n0,n1,n2,n3,n4,n5⟩:=hn k hlt'
    have CS:=sameNode_any m5 n5
    have HEY:Hid (eqN l[k] l'[k]=true→l[k]=l'[k]):=fun e=>by unfold eqN at e;simpa using e
    have HEN:Hid (eqN l[k] l'[k]=false→eqL l l' = false):=fun e=>by
     unfold eqN at e
     unfold eqL
     simp at e ⊢
     rintro rfl
     exact e rfl
    clear hm' hn m5 n5
    generalize eqN l[k] l'[k]=R at *
    go_upto_region 6 with fail
    go_region_with (first | (go_at_call 44;refine CS.mono ?_;rintro e w8 ⟨rfl,k8⟩))
    all_goals
     have hw8:Same0 w w8:=Same0.trans' (Kept.drew hw) k8
     clear m0 m1 m2 m3 m4 n0 n1 n2 n3 n4 CS
     cases R
     ·have HF:Hid (eqL l l' = false):=HEN.out rfl
      go_wp2
      go_ret
      exact ⟨ret_bool HF.out.symm,hw8⟩
     ·have HF:Hid (∀ j (h1:j<l.length) (h2:j<l'.length),j<k+1→l[j]=l'[j]):=fun j h1 h2 hj=>by
       by_cases e:j=k
       ·subst e;exact HEY.out rfl
       ·exact hall.out j h1 h2 (by omega)
      go_wp2
      go_roundw
      case rel=>first | exact ⟨k+1,by omega,by go_num,HF,hw8⟩ | ((repeat apply Exists.intro);exact ⟨⟨k+1,by omega,by go_num,HF,hw8⟩,rfl⟩)
      case measure=>simp [intOf];omega
   ·obtain rfl:k=l.length:=by omega
    have HE:Hid (eqL l l' = true):=by
     show _=_
     unfold eqL
     simp
     exact List.ext_getElem HL.out (fun j h1 h2=>hall.out j h1 h2 h1)
    clear hall
    go_wp2
    go_ret
    exact ⟨ret_bool HE.out.symm,hw⟩
 ·have HE:Hid (eqL l l' = false):=by show _=_;unfold eqL;simp;rintro rfl;exact hl rfl
  have hl' : ¬ (l.length:Int)=(l'.length:Int):=by omega
  have KR:Hid (Same0 w w):=Kept.refl _ _
  clear h h' hl
  go_enter Try.func25,Try.ntmps25
  go_wp2
  go_ret
  exact ⟨ret_bool HE.out.symm,KR.out⟩
end Go.Proofs.Ytpimndkhoalaeaa
