import Derived.Test.YtblgblgchkonhaaGreatGO06
import Derived.Test.YtblgblgchkonhaaGreatGO07
import Derived.Test.YtblgblgchkonhaaGreatGO05
import Derived.Test.YtblgblgchkonhaaGreatGO03
import Derived.Deep.DeepAppendWide
import Derived.BigQuiet
import Derived.Deep.RegionLaw
import Derived.Deep.AppendLies
namespace Go.Proofs.YtblgblgchkonhaaGreat
set_option maxRecDepth 100000
set_option linter.unusedVariables false
open Go.RowKit
attribute [local go_sem ↓] Go.wp_at_zero Go.wp_at_succ
set_option maxHeartbeats 300000 in
theorem isApp_any {w:World} {x:Nd} {ao:Option Addr} {ac:Nat} (hx:Arg w ao x.2.1 ac) (hp:x.2.2.2.1=false) (n:Nat) :
  Calls Tryz.prog 81 #[nodeV x ao ac,.int .i64 (n:Int)] w fun e w' => e=.returned (.bool (mayB n x))∧Same0 w w' := by
 obtain ⟨W0,hW0⟩:∃ W0,W0=w.alloc (.cells #[.int .i64 x.1,.slice ao x.2.1.length ac,.int .i64 x.2.2.1,.bool x.2.2.2.1,.int .i64 x.2.2.2.2] 76):=⟨_,rfl⟩
 have k0:Same0 w W0:=by rw [hW0];exact (Kept.refl _ w).alloc _
 obtain ⟨b0,b1,b2,b3,b4⟩:=box_node' w x ao ac (show Same0 _ W0 by rw [hW0];exact Kept.refl _ _)
 have HE:Hid (mayB n x=(decide (0≤x.1) && decide (x.2.1.length≤6) && insB (n:Int) x.2.1 && isMk x.2.2.1 && decide (x.2.2.2.2=0))):=may_app hp
 have hsz:=hx.size
 have CI:Hid (x.2.1.length≤6→Calls Tryz.prog 48 #[.int .i64 (n:Int),.slice ao x.2.1.length ac] W0 fun e w' => e=.returned (.bool (insB (n:Int) x.2.1))∧w' = W0):=fun h6=>inside_any ac (hx.at'.same k0) (by omega) (n:Int)
 have CM:=isMark_any x.2.2.1 W0
 have K0:Hid (Same0 w W0):=k0
 clear k0 hp hx
 generalize mayB n x=R at *
 generalize insB (n:Int) x.2.1=I at *
 generalize isMk x.2.2.1=M at *
 by_cases h1:0≤x.1
 ·by_cases h2:x.2.1.length≤6
  ·have C:=CI.out h2
   have h2' : (x.2.1.length:Int)≤6:=by omega
   cases I
   ·have HR:Hid (R=false):=by show _=_;rw [HE.out];simp
    clear HE CI
    go_enter Tryz.func81,Tryz.ntmps81
    go_upto_region 1 with fail
    rw [← hW0]
    clear hW0
    go_wp2_with (first | (go_at_call 48;refine C.mono ?_;rintro e w3 ⟨rfl,h3⟩;have h3:=h3.symm;subst h3))
    go_ret
    exact ⟨ret_bool HR.out.symm,K0.out⟩
   ·cases M
    ·have HR:Hid (R=false):=by show _=_;rw [HE.out];simp
     clear HE CI
     go_enter Tryz.func81,Tryz.ntmps81
     go_upto_region 1 with fail
     rw [← hW0]
     clear hW0
     go_wp2_with (first | (go_at_call 48;refine C.mono ?_;rintro e w3 ⟨rfl,h3⟩;have h3:=h3.symm;subst h3) | (go_at_call 94;refine CM.mono ?_;rintro e w3 ⟨rfl,h3⟩;have h3:=h3.symm;subst h3))
     go_ret
     exact ⟨ret_bool HR.out.symm,K0.out⟩
    ·have HR:Hid (R=decide (x.2.2.2.2=0)):=by show _=_;rw [HE.out];simp [h1,h2]
     clear HE CI
     go_enter Tryz.func81,Tryz.ntmps81
     go_upto_region 1 with fail
     rw [← hW0]
     clear hW0
     go_wp2_with (first | (go_at_call 48;refine C.mono ?_;rintro e w3 ⟨rfl,h3⟩;have h3:=h3.symm;subst h3) | (go_at_call 94;refine CM.mono ?_;rintro e w3 ⟨rfl,h3⟩;have h3:=h3.symm;subst h3))
     go_ret
     exact ⟨ret_bool (by rw [HR.out];rw [Bool.eq_iff_iff];simp),K0.out⟩
  ·have HR:Hid (R=false):=by show _=_;rw [HE.out];simp [h2]
   have h2' : ¬ (x.2.1.length:Int)≤6:=by omega
   clear HE CI
   go_enter Tryz.func81,Tryz.ntmps81
   go_upto_region 1 with fail
   rw [← hW0]
   clear hW0
   go_wp2
   go_ret
   exact ⟨ret_bool HR.out.symm,K0.out⟩
 ·have HR:Hid (R=false):=by show _=_;rw [HE.out];simp [h1]
  clear HE CI
  go_enter Tryz.func81,Tryz.ntmps81
  go_upto_region 1 with fail
  rw [← hW0]
  clear hW0
  go_wp2
  go_ret
  exact ⟨ret_bool HR.out.symm,K0.out⟩
set_option maxHeartbeats 300000 in
theorem isInd_any {w:World} {x:Nd} {ao:Option Addr} {ac:Nat} (hx:Arg w ao x.2.1 ac) (hp:x.2.2.2.1=true) (n:Nat) :
  Calls Tryz.prog 80 #[nodeV x ao ac,.int .i64 (n:Int)] w fun e w' => e=.returned (.bool (mayB n x))∧Same0 w w' := by
 obtain ⟨W0,hW0⟩:∃ W0,W0=w.alloc (.cells #[.int .i64 x.1,.slice ao x.2.1.length ac,.int .i64 x.2.2.1,.bool x.2.2.2.1,.int .i64 x.2.2.2.2] 76):=⟨_,rfl⟩
 have k0:Same0 w W0:=by rw [hW0];exact (Kept.refl _ w).alloc _
 obtain ⟨b0,b1,b2,b3,b4⟩:=box_node' w x ao ac (show Same0 _ W0 by rw [hW0];exact Kept.refl _ _)
 have HE:Hid (mayB n x=(decide (x.1=0) && decide (x.2.1.length=0) && decide (x.2.2.1=0) && insB (n:Int) [x.2.2.2.2])):=may_indir hp
 have hsz:=hx.size
 have CI:=inside_any 1 (ints_one W0 x.2.2.2.2) (by simp) (n:Int)
 have K0:Hid (Same0 w W0):=k0
 have K1:Hid (Same0 w (W0.alloc (.cells #[.int .i64 x.2.2.2.2] 3))):=k0.alloc _
 clear k0 hp hx
 generalize mayB n x=R at *
 generalize insB (n:Int) [x.2.2.2.2]=I at *
 by_cases h1:x.1=0
 ·by_cases h2:x.2.1.length=0
  ·by_cases h3:x.2.2.1=0
   ·have HR:Hid (R=I):=by show _=_;rw [HE.out];simp [h1,h2,h3]
    rw [h1] at b0
    rw [h2] at b1
    rw [h3] at b2
    clear HE h1 h2 h3
    go_enter Tryz.func80,Tryz.ntmps80
    go_upto_region 1 with fail
    rw [← hW0]
    clear hW0
    go_wp2_with (first | (go_at_call 48;refine CI.mono ?_;rintro e w3 ⟨rfl,rfl⟩))
    go_ret
    exact ⟨ret_bool HR.out.symm,K1.out⟩
   ·have HR:Hid (R=false):=by show _=_;rw [HE.out];simp [h3]
    rw [h1] at b0
    rw [h2] at b1
    clear HE h1 h2
    go_enter Tryz.func80,Tryz.ntmps80
    go_upto_region 1 with fail
    rw [← hW0]
    clear hW0
    go_wp2
    go_ret
    exact ⟨ret_bool HR.out.symm,K0.out⟩
  ·have HR:Hid (R=false):=by show _=_;rw [HE.out];simp;intro _ h;rw [h] at h2;simp at h2
   have h2' : ¬ (x.2.1.length:Int)=0:=by omega
   rw [h1] at b0
   clear HE h1
   go_enter Tryz.func80,Tryz.ntmps80
   go_upto_region 1 with fail
   rw [← hW0]
   clear hW0
   go_wp2
   go_ret
   exact ⟨ret_bool HR.out.symm,K0.out⟩
 ·have HR:Hid (R=false):=by show _=_;rw [HE.out];simp [h1]
  clear HE
  go_enter Tryz.func80,Tryz.ntmps80
  go_upto_region 1 with fail
  rw [← hW0]
  clear hW0
  go_wp2
  go_ret
  exact ⟨ret_bool HR.out.symm,K0.out⟩
set_option maxHeartbeats 300000 in
theorem shaped_any {w:World} {ao:Option Addr} {ac:Nat} {l:List Nd} (h:NsW w ao l) (hN:l.length≤4000) :
  Calls Tryz.prog 54 #[.slice ao l.length ac] w fun e w' => e=.returned (.bool (l.all (mayB l.length)))∧Same0 w w' := by
 have HL:Hid (∀ ww,Same0 w ww→NsW ww ao l):=fun ww hk=>h.same hk
 have KR:Same0 w w:=Kept.refl _ _
 have HNO:Hid (∀ k (hk:k<l.length),mayB l.length l[k]=false→l.all (mayB l.length)=false):=fun k hk e=>by
  rw [Bool.eq_false_iff]
  intro q
  rw [List.all_eq_true] at q
  rw [q _ (List.getElem_mem hk)] at e
  cases e
 clear h
 go_enter Tryz.func54,Tryz.ntmps54
 go_wp2
 go_loopw [7] (fun i wr=>∃ (k:Nat),i=.int .i64 (k:Int)∧k≤l.length∧Hid (∀ j (hj:j<l.length),j<k→mayB l.length l[j]=true)∧Same0 w wr) (fun i _=>l.length-(intOf i).toNat)
 case atStart=>exact ⟨0,rfl,Nat.zero_le _,fun j _ hj=>absurd hj (Nat.not_lt_zero _),KR⟩
 case round=>
  clear KR
  obtain ⟨k,rfl,hk,hall,hw⟩:=hrel
  by_cases hlt:k<l.length
  ·have j1:(k:Int)<(l.length:Int):=by omega
   have j2:(0:Int)≤(k:Int):=by omega
   rcases HL.out wr hw with e | ⟨nb,noff,e,hnb,hn⟩
   ·subst e;simp at hlt
   subst e
   obtain ⟨xo,xc,n0,n1,n2,n3,n4,n5⟩:=hn k hlt
   obtain ⟨W3,hW3⟩:∃ W3,W3=wr.alloc (.cells #[.int .i64 l[k].1,.slice xo l[k].2.1.length xc,.int .i64 l[k].2.2.1,.bool l[k].2.2.2.1,.int .i64 l[k].2.2.2.2] 76):=⟨_,rfl⟩
   have kb:Same0 wr W3:=by rw [hW3];exact (Kept.refl _ _).alloc _
   obtain ⟨x0,x1,x2,x3,x4⟩:=box_node' wr l[k] xo xc (show Same0 _ W3 by rw [hW3];exact Kept.refl _ _)
   have n6:=n5.onto kb
   have HBX:Hid (∀ ww,Same0 W3 ww→ww.cell? ⟨wr.heap.size,3,none⟩=some (.bool l[k].2.2.2.1)):=fun ww hk=>(box_node' wr l[k] xo xc (by rw [hW3] at hk;exact hk)).2.2.2.1
   have HN:=HNO.out k hlt
   have HKW:Hid (∀ ww,Same0 W3 ww→Same0 w ww):=fun ww hk=>(hw.trans' kb).trans' hk
   have HY:Hid (mayB l.length l[k]=true→Hid (∀ j (hj:j<l.length),j<k+1→mayB l.length l[j]=true)):=fun e j hj hjk=>by
    by_cases q:j=k
    ·subst q;exact e
    ·exact hall.out j hj (by omega)
   clear n5 kb hn hall
   generalize l[k]=y at *
   obtain ⟨ys,ya,ym,yp,yt⟩:=y
   simp only at *
   cases yp
   ·have CA:=isApp_any (x:=(ys,ya,ym,false,yt)) n6 rfl l.length
    clear n6
    generalize mayB l.length (ys,ya,ym,false,yt)=M at *
    go_upto_region 4 with fail
    rw [← hW3]
    clear hW3 n0 n1 n2 n3 n4
    cases M
    ·have HF:Hid (l.all (mayB l.length)=false):=HN rfl
     clear HN
     go_wp2_with (first | (go_at_call 81;refine CA.mono ?_;rintro e w5 ⟨rfl,k5⟩;have z3:=HBX.out w5 k5))
     go_ret
     exact ⟨ret_bool HF.out.symm,HKW.out _ k5⟩
    ·have HY2:=HY.out (by first | rfl | trivial)
     clear HN HY
     go_wp2_with (first | (go_at_call 81;refine CA.mono ?_;rintro e w5 ⟨rfl,k5⟩;have z3:=HBX.out w5 k5))
     have hw5:=HKW.out _ k5
     go_roundw
     case rel=>exact ⟨k+1,by go_num,by omega,HY2,hw5⟩
     case measure=>simp [intOf];omega
   ·have CA:=isInd_any (x:=(ys,ya,ym,true,yt)) n6 rfl l.length
    clear n6
    generalize mayB l.length (ys,ya,ym,true,yt)=M at *
    go_upto_region 4 with fail
    rw [← hW3]
    clear hW3 n0 n1 n2 n3 n4
    cases M
    ·have HF:Hid (l.all (mayB l.length)=false):=HN rfl
     clear HN
     go_wp2_with (first | (go_at_call 80;refine CA.mono ?_;rintro e w5 ⟨rfl,k5⟩;have z3:=HBX.out w5 k5))
     go_ret
     exact ⟨ret_bool HF.out.symm,HKW.out _ k5⟩
    ·have HY2:=HY.out (by first | rfl | trivial)
     clear HN HY
     go_wp2_with (first | (go_at_call 80;refine CA.mono ?_;rintro e w5 ⟨rfl,k5⟩;have z3:=HBX.out w5 k5))
     have hw5:=HKW.out _ k5
     go_roundw
     case rel=>exact ⟨k+1,by go_num,by omega,HY2,hw5⟩
     case measure=>simp [intOf];omega
  ·obtain rfl:k=l.length:=by omega
   have HF:Hid (l.all (mayB l.length)=true):=List.all_eq_true.2 (fun x hx=>by
    obtain ⟨j,hj,rfl⟩:=List.mem_iff_getElem.1 hx
    exact hall.out j hj hj)
   clear hall
   go_wp2
   go_ret
   exact ⟨ret_bool HF.out.symm,hw⟩
def RfE (room:Nat) (l:List Nd) (e:Int):Prop:=
 (room<l.length∧e=111)∨(l.length≤room∧l.all (mayB l.length)=false∧e=114)∨(l.length≤room∧l.all (mayB l.length)=true∧¬ Ac l∧e=113)∨(l.length≤room∧l.all (mayB l.length)=true∧Ac l∧e=0)
theorem RfE.uniq {room:Nat} {l:List Nd} {e e' : Int} (h:RfE room l e) (h' : RfE room l e'):e=e' := by
 rcases h with ⟨a,b⟩ | ⟨a,b,c⟩ | ⟨a,b,c,d⟩ | ⟨a,b,c,d⟩ <;> rcases h' with ⟨a', b'⟩ | ⟨a', b', c'⟩ | ⟨a', b', c', d'⟩ | ⟨a', b', c', d'⟩ <;> first | omega | exact absurd c' c | exact absurd c c' | (rw [b] at b'; cases b'; done)
theorem few_of_may {l:List Nd} (h:l.all (mayB l.length)=true):(∀ x∈l,mayB l.length x=true)∧InL l∧∀ x∈l,x.2.1.length≤6:=by
 have h1:∀ x∈l,mayB l.length x=true:=List.all_eq_true.1 h
 exact ⟨h1,inl_of_may h1,fun x hx=>(may_facts (h1 x hx)).2.1⟩
set_option maxHeartbeats 1000000 in
theorem refill_no {B:Nat→Prop} {w:World} {h g room:Nat} {l:List Nd} (p:HpB B w h g room l) {ao:Option Addr} {ac:Nat} {l' : List Nd} (hs:NsW w ao l') (hsz:l'.length≤maxLen) {E:Int} (hE:RfE room l' E) (h0:E≠0) :
  Calls Tryz.prog 28 #[.pointer (some ⟨h,0,none⟩),.slice ao l'.length ac] w fun e w' => e=.returned (.int .i64 E)∧Same0 w w' := by
 unfold maxLen at hsz
 obtain ⟨c0,c1⟩:=p.cells
 have hr2:=p.rm2
 have KR:Hid (Same0 w w):=Kept.refl _ _
 clear p
 rcases hE with ⟨a,rfl⟩ | ⟨a,b,rfl⟩ | ⟨a,b,c,rfl⟩ | ⟨a,b,c,rfl⟩
 ·have j1:(room:Int)<(l'.length:Int):=by omega
  clear hs
  go_enter Tryz.func28,Tryz.ntmps28
  go_wp2
  go_ret
  exact ⟨rfl,KR.out⟩
 ·have j1:¬ (room:Int)<(l'.length:Int):=by omega
  have CS:=shaped_any (ac:=ac) hs (by omega)
  rw [b] at CS
  clear hs b
  go_enter Tryz.func28,Tryz.ntmps28
  go_wp2_with (first | (go_at_call 54;refine CS.mono ?_;rintro e w1 ⟨rfl,k1⟩))
  go_ret
  exact ⟨rfl,k1⟩
 ·have j1:¬ (room:Int)<(l'.length:Int):=by omega
  have CS:=shaped_any (ac:=ac) hs (by omega)
  obtain ⟨f1,f2,f3⟩:=few_of_may b
  have CR:Hid (∀ ww,Same0 w ww→Calls Tryz.prog 55 #[.slice ao l'.length ac] ww fun e w' => RingQ l' ww e w'):=fun ww hk=>ringed_any (hs.same hk) f2 f3 (by omega)
  have HNA:Hid (¬ Ac l'):=c
  rw [b] at CS
  clear hs b f1 f2 f3 c
  go_enter Tryz.func28,Tryz.ntmps28
  go_upto_region 7 with (first | (go_at_call 54;refine CS.mono ?_;rintro e w1 ⟨rfl,k1⟩))
  have CR1:=CR.out w1 k1
  clear CR CS
  go_wp2_with (first | (go_at_call 55;refine CR1.mono ?_;rintro e w2 ⟨b,rfl,hb,k2⟩;obtain rfl:b=true:=hb.2 HNA.out))
  go_ret
  exact ⟨rfl,k1.trans' k2⟩
 ·exact absurd rfl h0
theorem NRow.zero {B:Nat→Prop} {base:Nat} {w:World} {v:Value} {l:List Nd} (h:NRow B base w v l):NRow B 0 w v l:=by
 obtain ⟨vs,h1,h2⟩:=h
 exact ⟨vs,row_mono h1 (Nat.zero_le _),h2⟩
theorem NRow.mono {B B' : Nat→Prop} {base:Nat} {w:World} {v:Value} {l:List Nd} (h:NRow B base w v l) (hB:∀ k,k<w.heap.size→B k→B' k):NRow B' base w v l:=by
 obtain ⟨vs,h1,h2⟩:=h
 exact ⟨vs,h1,h2.mono hB⟩
theorem set_room {w:World} {b:Nat} {v0 v1:Value} {t:TypeId} (h:w.heap[b]? = some (.cells #[v0,v1] t (0,0))) (u:Value):(w.setCell ⟨b,1,none⟩ u).heap[b]? = some (.cells #[v0,u] t (0,0)):=setAt h 1 u
def RfN (w:World) (r room:Nat) (l:List Nd) (E:Int) (w' : World):Prop:=
 (E≠0∧Same0 w w')∨(E=0∧∃ v,RhB (fun b=>w.heap.size≤b) w' r room v l∧Kept (fun k=>k=r) w w' ∧ ∀ k,v.ownBlock=some k→w.heap.size≤k)
set_option maxHeartbeats 2000000 in
theorem rrefill_any {B:Nat→Prop} {w:World} {r room:Nat} {v:Value} {l:List Nd} (p:RhB B w r room v l) {ao:Option Addr} {ac:Nat} {l' : List Nd} (hs:NsW w ao l') (hsz:l'.length≤maxLen) {E:Int} (hE:RfE room l' E) :
  Calls Tryz.prog 29 #[.pointer (some ⟨r,0,none⟩),.slice ao l'.length ac] w fun e w' => e=.returned (.int .i64 E)∧RfN w r room l' E w' := by
 unfold maxLen at hsz
 obtain ⟨c0,c1⟩:=p.cells
 have hr2:=p.rm2
 have KR:Same0 w w:=Kept.refl _ _
 have HE:Hid (∀ e,RfE room l' e→e=E):=fun e he=>he.uniq hE
 have HP:Hid (∀ ww,Same0 w ww→RhB B ww r room v l):=fun ww hk=>p.same hk
 have HX:Hid (∀ ww,Same0 w ww→NsW ww ao l'):=fun ww hk=>hs.same hk
 clear p hs hE
 by_cases a:room<l'.length
 ·have j1:(room:Int)<(l'.length:Int):=by omega
  obtain rfl:111=E:=HE.out 111 (.inl ⟨a,rfl⟩)
  have KH:Hid (Same0 w w):=KR
  clear KR HE
  go_enter Tryz.func29,Tryz.ntmps29
  go_wp2
  go_ret
  exact ⟨rfl,.inl ⟨by decide,KH.out⟩⟩
 ·have j1:¬ (room:Int)<(l'.length:Int):=by omega
  have l0:(0:Int)≤(l'.length:Int):=by omega
  have l1:(l'.length:Int)≤4000:=by omega
  have HA:Hid (l'.length≤room):=by show _≤_;omega
  go_enter Tryz.func29,Tryz.ntmps29
  go_upto_region 4 with fail
  clear c0 c1
  go_loopw [5] (fun i wr=>∃ k:Nat,i=.int .i64 (k:Int)∧k≤l'.length∧Hid (∀ j (hj:j<l'.length),j<k→mayB l'.length l'[j]=true)∧Same0 w wr) (fun i _=>l'.length-(intOf i).toNat)
  case atStart=>exact ⟨0,rfl,Nat.zero_le _,fun j _ hj=>absurd hj (Nat.not_lt_zero _),KR⟩
  case round=>
   clear KR
   obtain ⟨k,rfl,hk,hall,hw⟩:=hrel
   by_cases hlt:k<l'.length
   ·have j2:(k:Int)<(l'.length:Int):=by omega
    have j3:(0:Int)≤(k:Int):=by omega
    rcases HX.out wr hw with e | ⟨nb,noff,e,hnb,hn⟩
    ·rw [e] at hlt;simp at hlt
    subst e
    obtain ⟨xo,xc,n0,n1,n2,n3,n4,n5⟩:=hn k hlt
    have CM:=rmay_any n5 l'.length
    have HAF:mayB l'.length l'[k]=false→l'.all (mayB l'.length)=false:=fun e=>by
     rw [Bool.eq_false_iff]
     intro q
     rw [List.all_eq_true] at q
     rw [q _ (List.getElem_mem hlt)] at e
     cases e
    have HN:Hid (mayB l'.length l'[k]=false→114=E):=fun e=>HE.out 114 (.inr (.inl ⟨HA.out,HAF e,rfl⟩))
    clear HAF
    have HY:Hid (mayB l'.length l'[k]=true→Hid (∀ j (hj:j<l'.length),j<k+1→mayB l'.length l'[j]=true)):=fun e j hj hjk=>by
     by_cases q:j=k
     ·subst q;exact e
     ·exact hall.out j hj (by omega)
    clear n5 hn hall
    generalize mayB l'.length l'[k]=R at *
    cases R
    ·obtain rfl:114=E:=HN.out rfl
     clear HN HY HE
     go_wp2_with (first | (go_at_call 56;refine CM.mono ?_;rintro e w5 ⟨rfl,k5⟩))
     go_ret
     exact ⟨rfl,.inl ⟨by decide,hw.trans' k5⟩⟩
    ·have HY2:=HY.out rfl
     clear HN HY
     go_wp2_with (first | (go_at_call 56;refine CM.mono ?_;rintro e w5 ⟨rfl,k5⟩))
     have hw5:=hw.trans' k5
     go_roundw
     case rel=>exact ⟨k+1,by go_num,by omega,HY2,hw5⟩
     case measure=>simp [intOf];omega
   ·obtain rfl:k=l'.length:=by omega
    have hal:l'.all (mayB l'.length)=true:=List.all_eq_true.2 (fun x hx=>by
     obtain ⟨j,hj,rfl⟩:=List.mem_iff_getElem.1 hx
     exact hall.out j hj hj)
    obtain ⟨f1,f2,f3⟩:=few_of_may hal
    have HALL:Hid (l'.all (mayB l'.length)=true):=hal
    have HF1:Hid (∀ x∈l', mayB l'.length x=true):=f1
    have CR:=ring_any (ac:=ac) (HX.out wr hw) f2 f3 (by omega)
    have CN:Hid (∀ ww,Same0 w ww→Calls Tryz.prog 58 #[.slice ao l'.length ac] ww fun e w' => ∃ v,e=.returned v∧NRow (fun b=>ww.heap.size≤b) ww.heap.size w' v l' ∧ Same0 ww w'):=fun ww hk=>rnodes_any (HX.out ww hk) (by omega)
    clear hall hal f1 f2 f3 HX hk hlt
    go_upto_region 9 with (first | (go_at_call 57;refine CR.mono ?_;rintro e w6 ⟨b,rfl,hb,k6⟩))
    clear CR
    have hw6:=hw.trans' k6
    cases b
    ·have hac:Ac l' := by
      by_cases q:Ac l'
      ·exact q
      ·exact absurd (hb.2 q) (by simp)
     have HAC:Hid (Ac l'):=hac
     obtain rfl:0=E:=HE.out 0 (.inr (.inr (.inr ⟨HA.out,HALL.out,hac,rfl⟩)))
     have C7:=CN.out w6 hw6
     have HP7:Hid (∀ ww,Same0 w6 ww→ww.cell? ⟨r,0,none⟩=some (.int .i64 (room:Int))∧ww.cell? ⟨r,1,none⟩=some v∧ww.frozen? ⟨r,1,none⟩=false):=fun ww hk=>by
      have p7:=HP.out ww (hw6.trans' hk)
      exact ⟨p7.cells.1,p7.cells.2,frozenAt p7.box 1⟩
     clear hb hac HE CN
     go_wp2_with (first | (go_at_call 58;refine C7.mono ?_;rintro e w7 ⟨v7,rfl,hr7,k7⟩;obtain ⟨vo7,vc7,rfl⟩:=hr7.shape;obtain ⟨z0,z1,z2⟩:=HP7.out w7 k7))
     go_ret
     have p7:=HP.out w7 (hw6.trans' k7)
     have K8:Kept (fun k=>k=r) w7 (w7.setCell ⟨r,1,none⟩ (.slice vo7 l'.length vc7)):=Kept.setCell (S:=fun k=>k=r) (Kept.refl _ _) (p:=⟨r,1,none⟩) (fun _=>rfl) _
     have hlt6:r<w6.heap.size:=(HP.out w6 hw6).lt
     refine ⟨rfl,.inr ⟨rfl,_,⟨set_room p7.box _,?_,p7.rm1,p7.rm2,HA.out,HF1.out,HAC.out⟩,(Kept.mono (hw6.trans' k7) (fun _ _ f=>f.elim)).trans K8 (fun _ _ e=>e),fun k e=>Nat.le_trans hw6.size (hr7.block e).1⟩⟩
     exact ((hr7.kept K8 (fun k e q=>by have:=(hr7.block e).1;omega) (fun k _ e=>by rw [e];exact p7.noti)).zero).mono (fun k _ q=>Nat.le_trans hw6.size q)
    ·obtain rfl:113=E:=HE.out 113 (.inr (.inr (.inl ⟨HA.out,HALL.out,hb.1 rfl,rfl⟩)))
     clear hb CN HE
     go_wp2
     go_ret
     exact ⟨rfl,.inl ⟨by decide,hw6⟩⟩
def hasB (n:Nat) (a:Int):Bool:=decide (0≤a) && decide (a<(n:Int))
set_option maxHeartbeats 1000000 in
theorem rhas_any {w:World} {r n cap:Nat} {ao:Option Addr} (c1:w.cell? ⟨r,1,none⟩=some (.slice ao n cap)) (hn:n≤maxLen) (a:Int) :
  Calls Tryz.prog 44 #[.pointer (some ⟨r,0,none⟩),.int .i64 a] w fun e w' => e=.returned (.bool (hasB n a))∧w' = w:=by
 unfold maxLen at hn
 have HE:Hid (hasB n a=(decide (0≤a) && decide (a<(n:Int)))):=rfl
 generalize hasB n a=R at *
 by_cases h1:0≤a
 ·by_cases h2:a<(n:Int)
  ·have HR:Hid (R=true):=by show _=_;rw [HE.out];simp [h1,h2]
   clear HE
   go_enter Tryz.func44,Tryz.ntmps44
   go_wp2
   go_ret
   exact ⟨ret_bool HR.out.symm,rfl⟩
  ·have HR:Hid (R=false):=by show _=_;rw [HE.out];simp [h2]
   clear HE
   go_enter Tryz.func44,Tryz.ntmps44
   go_wp2
   go_ret
   exact ⟨ret_bool HR.out.symm,rfl⟩
 ·have HR:Hid (R=false):=by show _=_;rw [HE.out];simp [h1]
  clear HE
  go_enter Tryz.func44,Tryz.ntmps44
  go_wp2
  go_ret
  exact ⟨ret_bool HR.out.symm,rfl⟩
structure RdH (w:World) (r:Nat) (N:List Nd) (ao:Option Addr) (cap:Nat):Prop where
 c1:w.cell? ⟨r,1,none⟩=some (.slice ao N.length cap)
 ns:NsW w ao N
 le:N.length≤4000
 inl:InL N
 ac:Ac N
 may:∀ x∈N,mayB N.length x=true
theorem RdH.same {w w' : World} {r:Nat} {N:List Nd} {ao:Option Addr} {cap:Nat} (q:RdH w r N ao cap) (hk:Same0 w w'):RdH w' r N ao cap:=
 ⟨(hk.cell (p:=⟨r,1,none⟩) (World.block_lt_of_cell? _ _ q.c1) (fun f=>f)).trans q.c1,q.ns.same hk,q.le,q.inl,q.ac,q.may⟩
theorem RdH.node {w:World} {r:Nat} {N:List Nd} {ao:Option Addr} {cap:Nat} (q:RdH w r N ao cap) {b:Nat} (hb:b<N.length):∃ nb noff xo xc,ao=some ⟨nb,noff,none⟩∧∀ ww,Same0 w ww→(ww.cell? ⟨nb,noff+b * 5,none⟩=some (.int .i64 N[b].1)∧ww.cell? ⟨nb,noff+b * 5+1,none⟩=some (.slice xo N[b].2.1.length xc)∧ww.cell? ⟨nb,noff+b * 5+2,none⟩=some (.int .i64 N[b].2.2.1)∧ww.cell? ⟨nb,noff+b * 5+3,none⟩=some (.bool N[b].2.2.2.1)∧ww.cell? ⟨nb,noff+b * 5+4,none⟩=some (.int .i64 N[b].2.2.2.2))∧IntsAt ww xo N[b].2.1:=by
 obtain ⟨nb,noff,e,hnb,hc⟩:=q.ns.resolve_left (fun e=>by rw [e] at hb;simp at hb)
 obtain ⟨xo,xc,d0,d1,d2,d3,d4,d5⟩:=hc b hb
 have t:∀ ww,Same0 w ww→∀ o,ww.cell? ⟨nb,o,none⟩=w.cell? ⟨nb,o,none⟩:=fun ww hk o=>hk.cell (p:=⟨nb,o,none⟩) hnb (fun f=>f)
 exact ⟨nb,noff,xo,xc,e,fun ww hk=>⟨⟨(t ww hk _).trans d0,(t ww hk _).trans d1,(t ww hk _).trans d2,(t ww hk _).trans d3,(t ww hk _).trans d4⟩,d5.at'.same hk⟩⟩
def put6 (w:World) (g:Nat) (v0 v1 v2 v3 v4 v5:Value):World:=(((((w.setCell ⟨g,0,none⟩ v0).setCell ⟨g,1,none⟩ v1).setCell ⟨g,2,none⟩ v2).setCell ⟨g,3,none⟩ v3).setCell ⟨g,4,none⟩ v4).setCell ⟨g,5,none⟩ v5
theorem put6_kept (w:World) (g:Nat) (v0 v1 v2 v3 v4 v5:Value):Kept (fun k=>k=g) w (put6 w g v0 v1 v2 v3 v4 v5):=by
 have t:∀ (w' : World) (o:Nat) (v:Value),Kept (fun k=>k=g) w w' → Kept (fun k=>k=g) w (w'.setCell ⟨g,o,none⟩ v):=fun w' o v h=>Kept.setCell (S:=fun k=>k=g) h (p:=⟨g,o,none⟩) (fun _=>rfl) v
 exact t _ _ _ (t _ _ _ (t _ _ _ (t _ _ _ (t _ _ _ (t _ _ _ (Kept.refl _ _))))))
theorem boxF6 {w:World} {b:Nat} {v0 v1 v2 v3 v4 v5:Value} {t:TypeId} (h:w.heap[b]? = some (.cells #[v0,v1,v2,v3,v4,v5] t (0,0))):(w.cell? ⟨b,0,none⟩=some v0∧w.cell? ⟨b,1,none⟩=some v1∧w.cell? ⟨b,2,none⟩=some v2∧w.cell? ⟨b,3,none⟩=some v3∧w.cell? ⟨b,4,none⟩=some v4∧w.cell? ⟨b,5,none⟩=some v5)∧(w.frozen? ⟨b,0,none⟩=false∧w.frozen? ⟨b,1,none⟩=false∧w.frozen? ⟨b,2,none⟩=false∧w.frozen? ⟨b,3,none⟩=false∧w.frozen? ⟨b,4,none⟩=false∧w.frozen? ⟨b,5,none⟩=false):=
 ⟨⟨cellAt h 0,cellAt h 1,cellAt h 2,cellAt h 3,cellAt h 4,cellAt h 5⟩,frozenAt h 0,frozenAt h 1,frozenAt h 2,frozenAt h 3,frozenAt h 4,frozenAt h 5⟩
set_option maxHeartbeats 2000000 in
theorem rload_bad {n:Nat} {w:World} {rv:Value} {L:List Sym} (h:Rl n w rv L) (r:Addr) {ao:Option Addr} {cap:Nat} {t:List Int} (ht:IntsAt w ao t) (hm:t.length≤maxLen) (hc:checkE L t≠0) :
  Calls Tryz.prog 10 #[rv,.pointer (some r),.slice ao t.length cap] w fun e w' => e=.returned (.tuple #[.int .i64 0,fltV 130 0 (checkE L t)])∧Same0 w w' := by
 obtain ⟨W0,hW0⟩:∃ W0,W0=w.alloc (.cells #[.int .i64 0,.int .i64 0,.int .i64 0,.bool false,.int .i64 0,.int .i64 0] 42):=⟨_,rfl⟩
 have k0:Same0 w W0:=by rw [hW0];exact (Kept.refl _ w).alloc _
 have h0:W0.heap[w.heap.size]? = some (.cells #[.int .i64 0,.int .i64 0,.int .i64 0,.bool false,.int .i64 0,.int .i64 0] 42 (0,0)):=by rw [hW0];exact heap_alloc_new w _
 have C:=rcheck_any (cap:=cap) (h.same k0) (ht.same k0) hm
 obtain ⟨⟨b0,b1,b2,b3,b4,b5⟩,g0,g1,g2,g3,g4,g5⟩:=boxF6 h0
 obtain ⟨ro,rcap,rfl⟩:=row_shape h.1
 have d1:(checkE L t == 0)=false:=by simpa using hc
 have KF:Hid (∀ c y,Same0 w (put6 W0 w.heap.size (.int .i64 c) (.int .i64 0) (.int .i64 y) (.bool false) (.int .i64 0) (.int .i64 0))):=fun c y=>k0.trans (put6_kept _ _ _ _ _ _ _ _) (fun i hi e=>by omega)
 generalize checkE L t=ce at *
 clear h ht h0 k0
 go_enter Tryz.func10,Tryz.ntmps10
 go_upto_region 1 with fail
 rw [← hW0]
 clear hW0
 go_wp2_with (first | (go_at_call 36;refine C.mono ?_;rintro e w1 ⟨rfl,h1⟩;have h1:=h1.symm;subst h1))
 exact bodyPost_ret (v:=.tuple #[.int .i64 0,fltV 130 0 ce]) (by simp [results,Tryz.results10,go_sem,b0,b1,b2,b3,b4,b5,fltV]) rfl ⟨rfl,KF.out 130 ce⟩
set_option maxHeartbeats 2000000 in
theorem rload_var {n:Nat} {w:World} {rv:Value} {L:List Sym} (h:Rl n w rv L) (r:Addr) {ao:Option Addr} {cap:Nat} {t:List Int} (ht:IntsAt w ao t) (hm:t.length≤maxLen) (hc:checkE L t=0) (hv:¬ (∀ x∈t,0≤x)) :
  Calls Tryz.prog 10 #[rv,.pointer (some r),.slice ao t.length cap] w fun e w' => e=.returned (.tuple #[.int .i64 0,fltV 130 0 0])∧Same0 w w' := by
 obtain ⟨W0,hW0⟩:∃ W0,W0=w.alloc (.cells #[.int .i64 0,.int .i64 0,.int .i64 0,.bool false,.int .i64 0,.int .i64 0] 42):=⟨_,rfl⟩
 have k0:Same0 w W0:=by rw [hW0];exact (Kept.refl _ w).alloc _
 have h0:W0.heap[w.heap.size]? = some (.cells #[.int .i64 0,.int .i64 0,.int .i64 0,.bool false,.int .i64 0,.int .i64 0] 42 (0,0)):=by rw [hW0];exact heap_alloc_new w _
 have C:=rcheck_any (cap:=cap) (h.same k0) (ht.same k0) hm
 rw [hc] at C
 obtain ⟨⟨b0,b1,b2,b3,b4,b5⟩,g0,g1,g2,g3,g4,g5⟩:=boxF6 h0
 obtain ⟨ro,rcap,rfl⟩:=row_shape h.1
 have KF:Hid (∀ c y,Same0 w (put6 W0 w.heap.size (.int .i64 c) (.int .i64 0) (.int .i64 y) (.bool false) (.int .i64 0) (.int .i64 0))):=fun c y=>k0.trans (put6_kept _ _ _ _ _ _ _ _) (fun i hi e=>by omega)
 have HT:=ht.same k0
 have HV:Hid (¬ (∀ x∈t,0≤x)):=hv
 unfold maxLen at hm
 clear h ht h0 k0 hc hv
 go_enter Tryz.func10,Tryz.ntmps10
 go_upto_region 1 with fail
 rw [← hW0]
 clear hW0
 go_upto_region 4 with (first | (go_at_call 36;refine C.mono ?_;rintro e w1 ⟨rfl,h1⟩;have h1:=h1.symm;subst h1))
 go_wp2_with fail
 go_loopw [9] (fun s9 wr=>∃ k:Nat,k≤t.length∧s9=.int .i64 (k:Int)∧Hid (∀ x∈t.take k,0≤x)∧wr=W0) (fun s9 _=>t.length-(intOf s9).toNat)
 case atStart=>exact ⟨0,Nat.zero_le _,rfl,fun x hx=>by simp at hx,rfl⟩
 case round=>
  obtain ⟨k,hk,rfl,hH,rfl⟩:=hrel
  by_cases hlt:k<t.length
  ·obtain ⟨xb,off,rfl,hxb,hxc⟩:=HT.get hlt
   have i1:(0:Int)≤(k:Int):=by omega
   have i2:(k:Int)<(t.length:Int):=by omega
   by_cases hx:t[k]<0
   ·generalize t[k]=x at *
    go_wp2_with fail
    exact bodyPost_ret (v:=.tuple #[.int .i64 0,fltV 130 0 0]) (by simp [results,Tryz.results10,go_sem,b0,b1,b2,b3,b4,b5,fltV]) rfl ⟨rfl,KF.out 130 0⟩
   ·have H:Hid (∀ x∈t.take (k+1),0≤x):=fun x hm' => by
     rw [← List.take_append_getElem hlt,List.mem_append] at hm'
     rcases hm' with q | q
     ·exact hH.out x q
     ·simp at q;omega
    generalize t[k]=x at *
    go_wp2_with fail
    refine ⟨⟨k+1,by omega,by go_num,H,trivial⟩,by simp [intOf];omega⟩
  ·exact absurd (fun x hx=>hH.out x (by rw [List.take_of_length_le (by omega)];exact hx)) HV.out
set_option maxHeartbeats 2000000 in
theorem rload_full {B:Nat→Prop} {n r room:Nat} {w:World} {rv v:Value} {L:List Sym} {N:List Nd} (h:Rl n w rv L) (p:RhB B w r room v N) {ao:Option Addr} {cap:Nat} {t:List Int} (ht:IntsAt w ao t) (hm:t.length≤maxLen) (hc:checkE L t=0) (hv:∀ x∈t,0≤x) (hf:¬ N.length+t.length≤room) :
  Calls Tryz.prog 10 #[rv,.pointer (some ⟨r,0,none⟩),.slice ao t.length cap] w fun e w' => e=.returned (.tuple #[.int .i64 0,fltV 131 0 111])∧Same0 w w' := by
 obtain ⟨W0,hW0⟩:∃ W0,W0=w.alloc (.cells #[.int .i64 0,.int .i64 0,.int .i64 0,.bool false,.int .i64 0,.int .i64 0] 42):=⟨_,rfl⟩
 have k0:Same0 w W0:=by rw [hW0];exact (Kept.refl _ w).alloc _
 have h0:W0.heap[w.heap.size]? = some (.cells #[.int .i64 0,.int .i64 0,.int .i64 0,.bool false,.int .i64 0,.int .i64 0] 42 (0,0)):=by rw [hW0];exact heap_alloc_new w _
 have C:=rcheck_any (cap:=cap) (h.same k0) (ht.same k0) hm
 rw [hc] at C
 obtain ⟨⟨b0,b1,b2,b3,b4,b5⟩,g0,g1,g2,g3,g4,g5⟩:=boxF6 h0
 obtain ⟨ro,rcap,rfl⟩:=row_shape h.1
 have KF:Hid (∀ m c y,Same0 w (put6 (W0.drewN m) w.heap.size (.int .i64 c) (.int .i64 0) (.int .i64 y) (.bool false) (.int .i64 0) (.int .i64 0))):=fun m c y=>(k0.trans' ((Kept.refl _ _).drewN m)).trans (put6_kept _ _ _ _ _ _ _ _) (fun i hi e=>by omega)
 have HT:=ht.same k0
 have HV:Hid (∀ x∈t,0≤x):=hv
 obtain ⟨c0,c1⟩:=(p.same k0).cells
 obtain ⟨vo,vc,rfl⟩:=p.row.shape
 have hrm:=p.rm2
 have hle:=p.le
 have ne0:r≠w.heap.size:=by have:=p.lt;omega
 unfold maxLen at hm
 clear h ht h0 k0 hc hv p
 go_enter Tryz.func10,Tryz.ntmps10
 go_upto_region 1 with fail
 rw [← hW0]
 clear hW0
 go_upto_region 4 with (first | (go_at_call 36;refine C.mono ?_;rintro e w1 ⟨rfl,h1⟩;have h1:=h1.symm;subst h1))
 go_wp2_with fail
 go_loopw [9] (fun s9 wr=>∃ k:Nat,k≤t.length∧s9=.int .i64 (k:Int)∧Hid True∧wr=W0) (fun s9 _=>t.length-(intOf s9).toNat)
 case atStart=>exact ⟨0,Nat.zero_le _,rfl,trivial,rfl⟩
 case round=>
  obtain ⟨k,hk,rfl,hH,rfl⟩:=hrel
  by_cases hlt:k<t.length
  ·obtain ⟨xb,off,rfl,hxb,hxc⟩:=HT.get hlt
   have i1:(0:Int)≤(k:Int):=by omega
   have i2:(k:Int)<(t.length:Int):=by omega
   have hx:¬ (t[k]<0):=by have:=HV.out _ (List.getElem_mem hlt);omega
   generalize t[k]=x at *
   go_wp2_with fail
   refine ⟨⟨k+1,by omega,by go_num,trivial,trivial⟩,by simp [intOf];omega⟩
  ·have i3:(room:Int)-(N.length:Int)<(t.length:Int):=by omega
   go_upto_region 9 with fail
   go_quiet (fail)
   go_wp2_with fail
   exact bodyPost_ret (v:=.tuple #[.int .i64 0,fltV 131 0 111]) (by simp [results,Tryz.results10,go_sem,b0,b1,b2,b3,b4,b5,fltV]) rfl ⟨rfl,KF.out nq 131 111⟩
end Go.Proofs.YtblgblgchkonhaaGreat
namespace Go.Proofs.YtblgblgchkonhaaGreat
set_option linter.unusedVariables false
def laidN (L:List Sym) (t:List Int) (N:List Nd) (d:Nat):List Nd:=N++(List.range d).map (fun i=>plN L t (N.length+t.length) (t.length-1-i))
theorem laid_zero (L:List Sym) (t:List Int) (N:List Nd):laidN L t N 0=N:=by simp [laidN]
theorem laid_len (L:List Sym) (t:List Int) (N:List Nd) (d:Nat):(laidN L t N d).length=N.length+d:=by simp [laidN]
theorem laid_succ (L:List Sym) (t:List Int) (N:List Nd) {d p:Nat} (h:p+d+1=t.length):laidN L t N (d+1)=laidN L t N d ++ [plN L t (N.length+t.length) p]:=by
 unfold laidN
 rw [List.range_succ,List.map_append,List.append_assoc]
 have e2:t.length-1-d=p:=by omega
 simp [e2]
theorem laid_all {L:List Sym} {t:List Int} (h:IsT L t) (N:List Nd) (hn:need L 1 t=some 0):laidN L t N t.length=(layF N (t.map (tgT L))).1:=by
 have:=lay_places h N t.length 0 1 (by omega) (by simpa using hn)
 simpa [laidN] using this.symm
theorem starts_in {L:List Sym} {t:List Int} {k p q:Nat} (hf:Forest L t k p q) (hq:q≤t.length) {x:Nat} (hx:x∈starts L t k p):p≤x∧x<t.length:=by
 induction k generalizing p with
 | zero=>simp [starts] at hx
 | succ k ih=>
  obtain ⟨h1,h2,h3⟩:=hf.succ
  have hp:=hf.pos
  have hl:=hf.le
  rcases List.mem_cons.1 hx with e | e
  ·omega
  ·have:=ih h3 e
   have h4:=h3.le
   constructor
   ·omega
   ·omega
theorem laid_mk {L:List Sym} {t:List Int} (h:IsT L t) (ha:Ars L) (N:List Nd) {d p room:Nat} (hd:p+d+1=t.length) (hv:∀ x∈t,0≤x) (hr:N.length+t.length≤room):mkE (laidN L t N d) room (t.getD p 0) ((starts L t (arN L (t.getD p 0)) (p+1)).map (adr (N.length+t.length)))=0:=by
 have hp:p<t.length:=by omega
 have eg:t.getD p 0=t[p]:=by simp [List.getElem?_eq_getElem hp]
 rw [eg]
 have hf:=(Forest.one h hp).kids.2
 have h0:=hv t[p] (List.getElem_mem hp)
 have h6:=arN_le ha t[p]
 unfold mkE
 rw [if_neg,if_neg,if_neg]
 ·rw [laid_len];omega
 ·have:insB ((laidN L t N d).length:Int) ((starts L t (arN L t[p]) (p+1)).map (adr (N.length+t.length)))=true:=by
   rw [insB_iff]
   intro z hz
   obtain ⟨q,hq,rfl⟩:=List.mem_map.1 hz
   obtain ⟨q1,q2⟩:=starts_in hf hf.le.2 hq
   rw [laid_len]
   unfold adr
   constructor
   ·push_cast;omega
   ·push_cast;omega
  simp [this]
 ·rw [List.length_map,starts_length]
  omega
end Go.Proofs.YtblgblgchkonhaaGreat
namespace Go.Proofs.YtblgblgchkonhaaGreat
set_option maxRecDepth 100000
set_option linter.unusedVariables false
open Go.RowKit
attribute [local go_sem ↓] Go.wp_at_zero Go.wp_at_succ
structure Un (l:List Nd) (fr:List Int) (s:List Bool) (T:List Int):Prop where
 len:s.length=l.length
 rng:∀ z∈T,0≤z∧z<(l.length:Int)
 snd:∀ x,Mk s x→∃ f∈fr,Rc l f.toNat x
 sndT:∀ z∈T,∃ f∈fr,Rc l f.toNat z.toNat
 cmp:∀ f∈fr,Mk s f.toNat∨f∈T
 cl:∀ x,Mk s x→∀ j,Ed l x j→Mk s j∨(j:Int)∈T
 cnt:T.length+6 * s.count false≤fr.length+6 * l.length
theorem mk_none (n x:Nat):¬ Mk (List.replicate n false) x:=by
 unfold Mk
 rw [List.getElem?_replicate]
 split <;> simp
theorem Un.start {l:List Nd} {fr:List Int} (h:∀ z∈fr,0≤z∧z<(l.length:Int)):Un l fr (List.replicate l.length false) fr:=
 ⟨by simp,h,fun x hx=>absurd hx (mk_none _ _),fun z hz=>⟨z,hz,Rc.refl _ _⟩,fun f hf=>.inr hf,fun x hx=>absurd hx (mk_none _ _),by simp⟩
theorem Un.skip {l:List Nd} {fr:List Int} {s:List Bool} {T:List Int} {x:Nat} (h:Un l fr s (T ++ [(x:Int)])) (hx:Mk s x):Un l fr s T:=by
 refine ⟨h.len,fun z hz=>h.rng z (by simp [hz]),h.snd,fun z hz=>h.sndT z (by simp [hz]),fun f hf=>?_,fun y hy j e=>?_,?_⟩
 ·rcases h.cmp f hf with q | q
  ·exact .inl q
  ·rcases List.mem_append.1 q with q | q
   ·exact .inr q
   ·simp at q;subst q;exact .inl (by simpa using hx)
 ·rcases h.cl y hy j e with q | q
  ·exact .inl q
  ·rcases List.mem_append.1 q with q | q
   ·exact .inr q
   ·have:j=x:=by simp at q;omega
    subst this;exact .inl hx
 ·have:=h.cnt;simp at this;omega
theorem Un.take {l:List Nd} {fr:List Int} {s:List Bool} {T:List Int} {x:Nat} (h:Un l fr s (T ++ [(x:Int)])) (hx:s[x]? = some false) (hl:x<l.length) (hd:(downL l[x]).length≤6) (hin:InL l):Un l fr (s.set x true) (T++downL l[x]):=by
 have hxs:x<s.length:=(List.getElem?_eq_some_iff.1 hx).1
 obtain ⟨f0,hf0,hr0⟩:=h.sndT (x:Int) (by simp)
 rw [Int.toNat_natCast] at hr0
 have hc:=count_set hx
 refine ⟨by simp [h.len],fun z hz=>?_,fun y hy=>?_,fun z hz=>?_,fun f hf=>?_,fun y hy j e=>?_,?_⟩
 ·rcases List.mem_append.1 hz with q | q
  ·exact h.rng z (by simp [q])
  ·exact hin x hl z q
 ·rcases (Mk.set hxs y).1 hy with q | q
  ·exact h.snd y q
  ·subst q;exact ⟨f0,hf0,hr0⟩
 ·rcases List.mem_append.1 hz with q | q
  ·exact h.sndT z (by simp [q])
  ·have:=hin x hl z q
   exact ⟨f0,hf0,hr0.snoc ⟨hl,by rw [Int.toNat_of_nonneg this.1];exact q⟩⟩
 ·rcases h.cmp f hf with q | q
  ·exact .inl ((Mk.set hxs _).2 (.inl q))
  ·rcases List.mem_append.1 q with q | q
   ·exact .inr (by simp [q])
   ·simp at q;subst q;exact .inl ((Mk.set hxs _).2 (.inr (by simp)))
 ·by_cases ey:y=x
  ·subst ey
   exact .inr (List.mem_append.2 (.inr e.2))
  ·rcases (Mk.set hxs y).1 hy with q | q
   ·rcases h.cl y q j e with t | t
    ·exact .inl ((Mk.set hxs _).2 (.inl t))
    ·rcases List.mem_append.1 t with t | t
     ·exact .inr (by simp [t])
     ·have:j=x:=by simp at t;omega
      exact .inl ((Mk.set hxs _).2 (.inr this))
   ·exact absurd q ey
 ·have:=h.cnt
  simp at this ⊢
  omega
theorem Un.done {l:List Nd} {fr:List Int} {s:List Bool} (h:Un l fr s []) (x:Nat):Mk s x ↔ ∃ f∈fr,Rc l f.toNat x:=by
 refine ⟨h.snd x,?_⟩
 rintro ⟨f,hf,hr⟩
 refine Rc.in (S:=fun j=>Mk s j) (fun i j hi e=>?_) ?_ hr
 ·rcases h.cl i hi j e with q | q
  ·exact q
  ·simp at q
 ·rcases h.cmp f hf with q | q
  ·exact q
  ·simp at q
theorem NCl.put {B:Nat→Prop} {w:World} {vs vs' : List Value} {l:List Nd} (h:NCl B w vs l) {i:Nat} (hi:i<l.length) (hl:vs'.length=vs.length) (old:∀ o,o<i * 5∨i * 5+5≤o→vs'[o]? = vs[o]?) {x:Nd} {ao:Option Addr} {ac:Nat}
  (n0:vs'[i * 5]? = some (.int .i64 x.1)) (n1:vs'[i * 5+1]? = some (.slice ao x.2.1.length ac)) (n2:vs'[i * 5+2]? = some (.int .i64 x.2.2.1)) (n3:vs'[i * 5+3]? = some (.bool x.2.2.2.1)) (n4:vs'[i * 5+4]? = some (.int .i64 x.2.2.2.2)) (n5:ArgT w ao x.2.1 ac) (n6:∀ a,ao=some a→B a.block):NCl B w vs' (l.set i x):=by
 refine ⟨by rw [hl,h.1];simp,fun j hj=>?_⟩
 have hj' : j<l.length:=by simpa using hj
 by_cases e:j=i
 ·subst e
  rw [List.getElem_set_self]
  exact ⟨ao,ac,n0,n1,n2,n3,n4,n5,n6⟩
 ·rw [List.getElem_set_ne (by omega)]
  obtain ⟨bo,bc,m0,m1,m2,m3,m4,m5,m6⟩:=h.2 j hj'
  exact ⟨bo,bc,(old _ (by omega)).trans m0,(old _ (by omega)).trans m1,(old _ (by omega)).trans m2,(old _ (by omega)).trans m3,(old _ (by omega)).trans m4,m5,m6⟩
theorem marked_ok {l:List Nd} (hmay:∀ x∈l,mayB l.length x=true) (hac:Ac l) {i:Nat} (hi:i<l.length) {m:Int} (hm:0≤m∧m≤2) (hp:l[i].2.2.2.1=true→m=0):(∀ x∈l.set i (marked l[i] m),mayB (l.set i (marked l[i] m)).length x=true)∧Ac (l.set i (marked l[i] m)):=by
 refine ⟨fun x hx=>?_,?_⟩
 ·rw [List.length_set]
  rcases List.mem_or_eq_of_mem_set hx with e | e
  ·exact hmay x e
  ·subst e;exact may_marked (hmay _ (List.getElem_mem hi)) hm hp
 ·refine ac_same hac (by simp) (fun j h3 h4=>?_)
  by_cases e:j=i
  ·subst e;rw [List.getElem_set_self];rfl
  ·rw [List.getElem_set_ne (by omega)]
theorem pointed_ok {l:List Nd} (hmay:∀ x∈l,mayB l.length x=true) (hac:Ac l) {i t:Nat} (hi:i<l.length) (ht:t<l.length) (hn:¬ Rc l t i):(∀ x∈l.set i (indN t),mayB (l.set i (indN t)).length x=true)∧Ac (l.set i (indN t)):=by
 refine ⟨fun x hx=>?_,?_⟩
 ·rw [List.length_set]
  rcases List.mem_or_eq_of_mem_set hx with e | e
  ·exact hmay x e
  ·subst e;exact may_ind ht
 ·refine hac.point hn _ (fun j hj=>?_)
  unfold downL at hj
  simp at hj
  omega
theorem RhB.notg {B:Nat→Prop} {w:World} {r room:Nat} {v:Value} {l:List Nd} (p:RhB B w r room v l) {g:Nat} (e:v.ownBlock=some g):r≠g∧NotI w g:=by
 have h:=p.row.block e
 refine ⟨fun q=>?_,h.2.2⟩
 obtain ⟨vs,h1,_⟩:=p.row
 rcases h1.2 with ⟨rfl,_⟩ | ⟨g', cap,cur,rfl,hb,hg,_⟩
 ·cases e
 ·obtain rfl:g' = g:=Option.some.inj e
  rw [← q,p.box] at hg
  cases hg
theorem RhB.marked {B:Nat→Prop} {w:World} {r room g cap:Nat} {l:List Nd} (p:RhB B w r room (.slice (some ⟨g,0,none⟩) l.length cap) l) {i:Nat} (hi:i<l.length) {m:Int} (hm:0≤m∧m≤2) (hp:l[i].2.2.2.1=true→m=0) :
  RhB B (w.setCell ⟨g,i * 5+2,none⟩ (.int .i64 m)) r room (.slice (some ⟨g,0,none⟩) l.length cap) (l.set i (YtblgblgchkonhaaGreat.marked l[i] m))∧Kept (fun k=>k=g) w (w.setCell ⟨g,i * 5+2,none⟩ (.int .i64 m)):=by
 have K:Kept (fun k=>k=g) w (w.setCell ⟨g,i * 5+2,none⟩ (.int .i64 m)):=Kept.setCell (S:=fun k=>k=g) (Kept.refl _ _) (p:=⟨g,i * 5+2,none⟩) (fun _=>rfl) _
 obtain ⟨hne,hni⟩:=p.notg rfl
 obtain ⟨ok1,ok2⟩:=marked_ok p.may p.ac hi hm hp
 obtain ⟨vs,h1,h2⟩:=p.row
 have hl:=h2.1
 have S:=(h1.stored (i * 5+2) (.int .i64 m)).1
 have h2' := h2.kept K (fun k _ e=>by rw [e];exact hni)
 obtain ⟨ao,ac,n0,n1,n2,n3,n4,n5,n6⟩:=h2'.2 i hi
 have old:∀ o,o≠i * 5+2→(vs.set (i * 5+2) (.int .i64 m))[o]? = vs[o]? := fun o ho=>List.getElem?_set_ne (by omega)
 have C:=h2'.put hi (vs' := vs.set (i * 5+2) (.int .i64 m)) (x:=YtblgblgchkonhaaGreat.marked l[i] m) (ao:=ao) (ac:=ac) (by simp) (fun o ho=>old o (by omega)) ((old _ (by omega)).trans n0) ((old _ (by omega)).trans n1) (List.getElem?_set_self (by omega)) ((old _ (by omega)).trans n3) ((old _ (by omega)).trans n4) n5 n6
 exact ⟨⟨K.at p.box hne,⟨_,by simpa using S,C⟩,p.rm1,p.rm2,by simpa using p.le,ok1,ok2⟩,K⟩
theorem RhB.pointed {B:Nat→Prop} {w:World} {r room g cap:Nat} {l:List Nd} (p:RhB B w r room (.slice (some ⟨g,0,none⟩) l.length cap) l) {i t:Nat} (hi:i<l.length) (ht:t<l.length) (hn:¬ Rc l t i) :
  RhB B (put5 w g (i * 5) (.int .i64 0) (.slice none 0 0) (.int .i64 0) (.bool true) (.int .i64 (t:Int))) r room (.slice (some ⟨g,0,none⟩) l.length cap) (l.set i (indN t))∧Kept (fun k=>k=g) w (put5 w g (i * 5) (.int .i64 0) (.slice none 0 0) (.int .i64 0) (.bool true) (.int .i64 (t:Int))):=by
 have K:=put5_kept w g (i * 5) (.int .i64 0) (.slice none 0 0) (.int .i64 0) (.bool true) (.int .i64 (t:Int))
 obtain ⟨hne,hni⟩:=p.notg rfl
 obtain ⟨ok1,ok2⟩:=pointed_ok p.may p.ac hi ht hn
 obtain ⟨vs,h1,h2⟩:=p.row
 have hl:=h2.1
 have S:=(((((h1.stored (i * 5) (.int .i64 0)).1.stored (i * 5+1) (.slice none 0 0)).1.stored (i * 5+2) (.int .i64 0)).1.stored (i * 5+3) (.bool true)).1.stored (i * 5+4) (.int .i64 (t:Int))).1
 have h2' := h2.kept K (fun k _ e=>by rw [e];exact hni)
 have hb:i * 5+5≤vs.length:=by omega
 have C:=h2'.put hi (vs' := ((((vs.set (i * 5) (.int .i64 0)).set (i * 5+1) (.slice none 0 0)).set (i * 5+2) (.int .i64 0)).set (i * 5+3) (.bool true)).set (i * 5+4) (.int .i64 (t:Int))) (x:=indN t) (ao:=none) (ac:=0) (by simp)
  (fun o ho=>by rw [List.getElem?_set_ne (by omega),List.getElem?_set_ne (by omega),List.getElem?_set_ne (by omega),List.getElem?_set_ne (by omega),List.getElem?_set_ne (by omega)])
  (by rw [List.getElem?_set_ne (by omega),List.getElem?_set_ne (by omega),List.getElem?_set_ne (by omega),List.getElem?_set_ne (by omega)];exact List.getElem?_set_self (by omega))
  (by rw [List.getElem?_set_ne (by omega),List.getElem?_set_ne (by omega),List.getElem?_set_ne (by omega)];exact List.getElem?_set_self (by simp;omega))
  (by rw [List.getElem?_set_ne (by omega),List.getElem?_set_ne (by omega)];exact List.getElem?_set_self (by simp;omega))
  (by rw [List.getElem?_set_ne (by omega)];exact List.getElem?_set_self (by simp;omega))
  (List.getElem?_set_self (by simp;omega)) (ArgT.nil _) (fun a e=>by cases e)
 exact ⟨⟨K.at p.box hne,⟨_,by rw [List.length_set];exact S,C⟩,p.rm1,p.rm2,by simpa using p.le,ok1,ok2⟩,K⟩
theorem RhB.has {B:Nat→Prop} {w:World} {r room:Nat} {v:Value} {l:List Nd} (p:RhB B w r room v l) (a:Int):Calls Tryz.prog 44 #[.pointer (some ⟨r,0,none⟩),.int .i64 a] w fun e w' => e=.returned (.bool (hasB l.length a))∧w' = w:=by
 obtain ⟨ao,cap,rfl⟩:=p.row.shape
 exact rhas_any p.cells.2 (by unfold maxLen;have:=p.le;have:=p.rm2;omega) a
theorem RhB.open {B:Nat→Prop} {w:World} {r room:Nat} {v:Value} {l:List Nd} (p:RhB B w r room v l) {i:Nat} (hi:i<l.length):∃ g cap,v=.slice (some ⟨g,0,none⟩) l.length cap∧(∀ o,w.frozen? ⟨g,o,none⟩=false)∧∃ xo xc,w.cell? ⟨g,i * 5,none⟩=some (.int .i64 l[i].1)∧w.cell? ⟨g,i * 5+1,none⟩=some (.slice xo l[i].2.1.length xc)∧w.cell? ⟨g,i * 5+2,none⟩=some (.int .i64 l[i].2.2.1)∧w.cell? ⟨g,i * 5+3,none⟩=some (.bool l[i].2.2.2.1)∧w.cell? ⟨g,i * 5+4,none⟩=some (.int .i64 l[i].2.2.2.2):=by
 obtain ⟨vs,h1,h2⟩:=p.row
 have h1' := h1
 rcases h1.2 with ⟨_,h0⟩ | ⟨g,cap,cur,rfl,hb,hg,_⟩
 ·omega
 ·obtain ⟨ao,ac,g0,g1,g2,g3,g4,_,_⟩:=h2.2 i hi
  have t:∀ j u,vs[j]? = some u→w.cell? ⟨g,j,none⟩=some u:=fun j u hj=>by
   have:=h1'.cells (g:=g) rfl j u hj
   by_cases q:j=0
   ·subst q;simpa [Addr.add] using this
   ·simpa [Addr.add,q] using this
  exact ⟨g,cap,rfl,fun o=>frozenAt hg o,ao,ac,t _ _ g0,t _ _ g1,t _ _ g2,t _ _ g3,t _ _ g4⟩
def clr (l:List Nd) (k:Nat):List Nd:=(l.take k).map (fun x=>marked x 0)++l.drop k
theorem clr_len (l:List Nd) (k:Nat):(clr l k).length=l.length:=by unfold clr;simp;omega
theorem clr_step {l:List Nd} {k:Nat} (hk:k<l.length) (h:k<(clr l k).length):(clr l k).set k (marked (clr l k)[k] 0)=clr l (k+1):=by
 have e:clr l k=(l.take k).map (fun x=>marked x 0)++l[k] :: l.drop (k+1):=by unfold clr;rw [List.drop_eq_getElem_cons hk]
 have hA:((l.take k).map (fun x=>marked x 0)).length=k:=by simp;omega
 have e2:clr l (k+1)=(l.take k).map (fun x=>marked x 0)++marked l[k] 0 :: l.drop (k+1):=by
  unfold clr
  rw [List.take_succ_eq_append_getElem hk]
  simp only [List.map_append,List.map_cons,List.map_nil,List.append_assoc,List.cons_append,List.nil_append]
 generalize (l.take k).map (fun x=>marked x 0)=A at *
 have e3:(clr l k)[k]=l[k]:=by
  simp only [e]
  rw [List.getElem_append_right (by omega)]
  simp only [hA,Nat.sub_self,List.getElem_cons_zero]
 rw [e3,e2,e,List.set_append,if_neg (by omega),hA,Nat.sub_self,List.set_cons_zero]
theorem RhB.clear1 {B:Nat→Prop} {w:World} {r room g cap k:Nat} {l:List Nd} (p:RhB B w r room (.slice (some ⟨g,0,none⟩) l.length cap) (clr l k)) (hk:k<l.length) :
  RhB B (w.setCell ⟨g,k * 5+2,none⟩ (.int .i64 0)) r room (.slice (some ⟨g,0,none⟩) l.length cap) (clr l (k+1))∧Kept (fun i=>i=g) w (w.setCell ⟨g,k * 5+2,none⟩ (.int .i64 0)):=by
 have hk' : k<(clr l k).length:=by rw [clr_len];exact hk
 have q:RhB B w r room (.slice (some ⟨g,0,none⟩) (clr l k).length cap) (clr l k):=by rw [clr_len];exact p
 have:=q.marked hk' (m:=0) (by omega) (fun _=>rfl)
 rw [clr_step hk hk', clr_len] at this
 exact this
theorem HpB.clear1 {B:Nat→Prop} {w:World} {h g room k:Nat} {l:List Nd} (p:HpB B w h g room (clr l k)) (hk:k<l.length) :
  HpB B (w.setCell ⟨g,k * 5+2,none⟩ (.int .i64 0)) h g room (clr l (k+1))∧Kept (fun i=>i=g) w (w.setCell ⟨g,k * 5+2,none⟩ (.int .i64 0)):=by
 have hk' : k<(clr l k).length:=by rw [clr_len];exact hk
 have:=p.marked hk' (m:=0) (by omega) (fun _=>rfl)
 rw [clr_step hk hk'] at this
 exact this
theorem step_nd {w0 W:World} {ops:Array Oper} {o:Oper} {a:Act} {K:Act→World→Prop} {Q:Exit→Act→World→Prop} {E:Prop} (hgd:o.guard=none) (s x:Operand)
  (ho:o.op=.call { callee:=.builtin .append,args:=#[s,x],argTypes:=#[23,23] })
  {B:Nat→Prop} (base:Nat) (l:List Nd) (v:Value) (hs:a.eval s=v) (hW:Same0 w0 W) (hr:NRow B base w0 v l) (y:Nd) (ao:Option Addr) (ac:Nat) (q:Nat) (hx:a.eval x=.slice (some ⟨q,0,none⟩) 1 1) (hq:W.heap[q]? = some (.cells #[.int .i64 y.1,.slice ao y.2.1.length ac,.int .i64 y.2.2.1,.bool y.2.2.2.1,.int .i64 y.2.2.2.2] 76 (0,0))) (ha:ArgT w0 ao y.2.1 ac) (hba:∀ b,ao=some b→B b.block) (hb:base≤w0.heap.size) (hsz:(l.length+1) * 56≤140737488355328)
  (h:∀ g cap w', NRow B base w' (.slice (some ⟨g,0,none⟩) (l.length+1) cap) (l ++ [y])→Kept (fun k=>v.ownBlock=some k) w0 w' → (v.ownBlock=some g∨w0.heap.size≤g)→K (a.put o.dst (.slice (some ⟨g,0,none⟩) (l.length+1) cap)) w') :
  if Region.wanted o (yielded ops a.tmps)=true then Oper.wp Tryz.prog o a W K Q else E:=by
 obtain ⟨i,hi,hz0,hz1,hz2⟩:=info_parts info_node
 obtain ⟨vs,h1,h2⟩:=hr
 have nb:∀ k,v.ownBlock=some k→NotI w0 k:=fun k e=>(NRow.block ⟨vs,h1,h2⟩ e).2.2
 refine step_append_lies _ hgd s x 23 ho base 76 i _ 5 56 Tryz.underlying23 hi hz0 hz1 hz2 rfl (by decide) v l.length vs hs (hW.row h1 (fun _ _ f=>f)) ⟨q,0,none⟩ 1 1 [.int .i64 y.1,.slice ao y.2.1.length ac,.int .i64 y.2.2.1,.bool y.2.2.2.1,.int .i64 y.2.2.2.2] hx rfl (World.news_of_block (cs:=#[.int .i64 y.1,.slice ao y.2.1.length ac,.int .i64 y.2.2.1,.bool y.2.2.2.1,.int .i64 y.2.2.2.2]) (t:=76) (fr:=(0,0)) hq) (by intro u hu;simp at hu;rcases hu with rfl | rfl | rfl | rfl | rfl <;> rfl) (by omega) (by unfold maxLen;omega) (by omega) (Nat.le_trans hb hW.size) W.heap.size rfl ?_
 intro g cap w' hown hgrow hat hlt
 have K' : Kept (fun k=>v.ownBlock=some k) w0 w' := Kept.grown (Kept.mono hW (fun _ _ f=>f.elim)) hgrow (fun _ e _=>e)
 refine h g cap w' ⟨_,by rw [List.length_append];exact hown,?_⟩ K' (hat.imp id (fun e=>by have:=hW.size;omega))
 exact (h2.kept K' (fun k _ e=>nb k e)).snoc (ha.kept K' (fun k e=>nb k e)) hba
theorem RhB.made {B B' : Nat→Prop} {w w2 w9:World} {r room:Nat} {v:Value} {l:List Nd} (p:RhB B w r room v l) (k1:Same0 w w2) {s:Int} {xs:List Int} (he:mkE l room s xs=0) {gg cap:Nat} (r9:NRow B' 0 w9 (.slice (some ⟨gg,0,none⟩) (l.length+1) cap) (l ++ [(s,xs,0,false,0)])) (k9:Kept (fun k=>v.ownBlock=some k) w2 w9) :
  (w9.cell? ⟨r,0,none⟩=some (.int .i64 (room:Int))∧w9.cell? ⟨r,1,none⟩=some v∧w9.frozen? ⟨r,1,none⟩=false)∧RhB B' (w9.setCell ⟨r,1,none⟩ (.slice (some ⟨gg,0,none⟩) (l.length+1) cap)) r room (.slice (some ⟨gg,0,none⟩) (l.length+1) cap) (l ++ [(s,xs,0,false,0)])∧Kept (fun k=>k=r∨v.ownBlock=some k) w (w9.setCell ⟨r,1,none⟩ (.slice (some ⟨gg,0,none⟩) (l.length+1) cap)):=by
 obtain ⟨h0,h1,h2,h3⟩:=mk_zero he
 have hle:=p.le
 have p2:=p.same k1
 have b9:=k9.at p2.box (fun e=>(p2.notg e).1 rfl)
 have ks:Kept (fun k=>k=r) w9 (w9.setCell ⟨r,1,none⟩ (.slice (some ⟨gg,0,none⟩) (l.length+1) cap)):=Kept.setCell (S:=fun k=>k=r) (Kept.refl _ _) (p:=⟨r,1,none⟩) (fun _=>rfl) _
 have nr:NotI w9 r:=fun cur hc=>by rw [b9] at hc;cases hc
 have ng:gg≠r:=fun e=>by
  obtain ⟨vs,q1,_⟩:=r9
  rcases q1.2 with ⟨q,_⟩ | ⟨g', cap', cur,q,_,hg,_⟩
  ·cases q
  ·simp only [Value.slice.injEq,Option.some.injEq,Addr.mk.injEq,and_true] at q
   rw [← q.1,e,b9] at hg
   cases hg
 refine ⟨⟨cellAt b9 0,cellAt b9 1,frozenAt b9 1⟩,⟨set_room b9 _,?_,p.rm1,p.rm2,by simp;omega,may_make p.may (mk_may h0 h1 h2),p.ac.make p.inl _ (may_down (mk_may h0 h1 h2))⟩,?_⟩
 ·exact r9.kept ks (fun k e q=>ng (by rw [← q];exact Option.some.inj e)) (fun k _ q=>by rw [q];exact nr)
 ·exact ((Kept.mono k1 (fun _ _ f=>f.elim)).trans k9 (fun _ _ e=>.inr e)).trans ks (fun _ _ e=>.inl e)
end Go.Proofs.YtblgblgchkonhaaGreat
namespace Go.Proofs.YtblgblgchkonhaaGreat
set_option linter.unusedVariables false
def LdI (B:Nat→Prop) (L:List Sym) (t:List Int) (N:List Nd) (w0:World) (r room:Nat) (v:Value) (d:Nat) (wr:World) (vr:Value):Prop:=
 RhB (fun b=>B b∨w0.heap.size≤b) wr r room vr (laidN L t N d)∧(∀ k,vr.ownBlock=some k→v.ownBlock=some k∨w0.heap.size≤k)∧Kept (fun k=>k=r∨v.ownBlock=some k) w0 wr
theorem LdI.zero {B:Nat→Prop} (L:List Sym) (t:List Int) {N:List Nd} {w0:World} {r room:Nat} {v:Value} (p:RhB B w0 r room v N):LdI B L t N w0 r room v 0 w0 v:=by
 refine ⟨?_,fun k e=>.inl e,Kept.refl _ _⟩
 rw [laid_zero]
 exact ⟨p.box,p.row.mono (fun k _ q=>.inl q),p.rm1,p.rm2,p.le,p.may,p.ac⟩
theorem LdI.same {B:Nat→Prop} {L:List Sym} {t:List Int} {N:List Nd} {w0:World} {r room:Nat} {v:Value} {d:Nat} {wr w2:World} {vr:Value} (I:LdI B L t N w0 r room v d wr vr) (hk:Same0 wr w2):LdI B L t N w0 r room v d w2 vr:=
 ⟨I.1.same hk,I.2.1,I.2.2.trans hk (fun _ _ f=>f.elim)⟩
theorem LdI.step {B:Nat→Prop} {L:List Sym} {t:List Int} {N:List Nd} {w0:World} {r room:Nat} {v:Value} {d p:Nat} {wr w2 w9:World} {vr:Value} (I:LdI B L t N w0 r room v d wr vr) (h:IsT L t) (ha:Ars L) (hd:p+d+1=t.length) (hv:∀ x∈t,0≤x) (hr:N.length+t.length≤room) (k1:Same0 wr w2) {gg cap:Nat}
  (r9:NRow (fun b=>B b∨w0.heap.size≤b) 0 w9 (.slice (some ⟨gg,0,none⟩) ((laidN L t N d).length+1) cap) (laidN L t N d ++ [plN L t (N.length+t.length) p])) (k9:Kept (fun k=>vr.ownBlock=some k) w2 w9) (hat:vr.ownBlock=some gg∨w2.heap.size≤gg) :
  (w9.cell? ⟨r,0,none⟩=some (.int .i64 (room:Int))∧w9.cell? ⟨r,1,none⟩=some vr∧w9.frozen? ⟨r,1,none⟩=false)∧LdI B L t N w0 r room v (d+1) (w9.setCell ⟨r,1,none⟩ (.slice (some ⟨gg,0,none⟩) ((laidN L t N d).length+1) cap)) (.slice (some ⟨gg,0,none⟩) ((laidN L t N d).length+1) cap):=by
 obtain ⟨q1,q2,q3⟩:=I.1.made k1 (laid_mk h ha N hd hv hr) r9 k9
 refine ⟨q1,?_,fun k e=>?_,?_⟩
 ·rw [laid_succ L t N hd];exact q2
 ·have e' : gg=k:=Option.some.inj e
  subst e'
  rcases hat with e2 | e2
  ·exact I.2.1 _ e2
  ·exact .inr (Nat.le_trans (Nat.le_trans I.2.2.size k1.size) e2)
 ·refine I.2.2.trans q3 ?_
  rintro i hi (e1 | e1)
  ·exact .inl e1
  ·rcases I.2.1 _ e1 with e2 | e2
   ·exact .inr e2
   ·omega
end Go.Proofs.YtblgblgchkonhaaGreat
