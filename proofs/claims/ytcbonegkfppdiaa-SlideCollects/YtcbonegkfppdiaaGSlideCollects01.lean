import Derived.Test.YtcbonegkfppdiaaGL07
import Derived.Test.YtcbonegkfppdiaaGL04
import Derived.Test.YtcbonegkfppdiaaGL06
import Derived.Test.YtcbonegkfppdiaaGL08
namespace Go.Proofs.Ytcbonegkfppdiaa
set_option maxRecDepth 100000
set_option linter.unusedVariables false
open Go.RowKit
attribute [local go_sem ↓] Go.wp_at_zero Go.wp_at_succ
def SldK (l:List Nd) (L:List Nat) (k:Nat) (ls:List Nd):Prop:=ls.length=k∧∀ (j a:Nat),j<k→L[j]? = some a→∃ (h:a<l.length) (h' : j<ls.length),ls[j].1=l[a].1∧Rts l L l[a].2.1 ls[j].2.1∧ls[j].2.2=l[a].2.2
theorem SldK.nil (l:List Nd) (L:List Nat):SldK l L 0 []:=⟨rfl,fun j a h=>absurd h (Nat.not_lt_zero _)⟩
theorem SldK.snoc {l:List Nd} {L:List Nat} {k a:Nat} {ls:List Nd} (h:SldK l L k ls) (ha:L[k]? = some a) (hl:a<l.length) {S:List Int} (hS:Rts l L l[a].2.1 S):SldK l L (k+1) (ls ++ [(l[a].1,S,l[a].2.2)]):=by
 refine ⟨by simp [h.1],fun j b hj hb=>?_⟩
 by_cases e:j<k
 ·obtain ⟨h1,h2,h3⟩:=h.2 j b e hb
  exact ⟨h1,by simp;omega,by rw [List.getElem_append_left h2];exact h3⟩
 ·obtain rfl:j=k:=by omega
  rw [ha] at hb
  cases hb
  have hlen:=h.1
  refine ⟨hl,by simp;omega,?_⟩
  have e1:(ls ++ [(l[a].1,S,l[a].2.2)])[j]'(by simp;omega)=(l[a].1,S,l[a].2.2):=by
   rw [List.getElem_append_right (by omega)]
   simp [hlen]
  rw [e1]
  exact ⟨rfl,hS,rfl⟩
theorem SldK.all {l:List Nd} {L:List Nat} {ls:List Nd} (h:SldK l L L.length ls):Sld l L ls:=⟨h.1,fun k a ha=>h.2 k a (List.getElem?_eq_some_iff.1 ha).1 ha⟩
theorem Rts.nil (l:List Nd) (L:List Nat):Rts l L [] []:=⟨rfl,fun j z y h=>by simp at h⟩
theorem Rts.snoc {l:List Nd} {L:List Nat} {R S:List Int} (h:Rts l L R S) {z y:Int} (hm:Mv l L z y):Rts l L (R ++ [z]) (S ++ [y]):=by
 refine ⟨by simp [h.1],fun j a b ha hb=>?_⟩
 have hl:=h.1
 by_cases e:j<R.length
 ·rw [List.getElem?_append_left e] at ha
  rw [List.getElem?_append_left (by omega)] at hb
  exact h.2 j a b ha hb
 ·have hj:j=R.length:=by have:=(List.getElem?_eq_some_iff.1 ha).1;simp at this;omega
  subst hj
  rw [List.getElem?_append_right (Nat.le_refl _),Nat.sub_self] at ha
  rw [List.getElem?_append_right (by omega),hl,Nat.sub_self] at hb
  simp at ha hb
  subst ha hb
  exact hm
set_option maxHeartbeats 2000000 in
theorem rto_any {w:World} {r cap:Nat} {ao:Option Addr} {l:List Nd} (c1:w.cell? ⟨r,1,none⟩=some (.slice ao l.length cap)) (hs:NsW w ao l) (hn:l.length≤4000) (hw:Wf l) {vo:Option Addr} {vc:Nat} {L:List Nat} (hL:IntsAt w vo (ofN L)) (hLl:L.length≤4000) {a b i:Nat} (ha:a<l.length) (hb:Res l a b) (hi:L[i]? = some b) (hris:L.Pairwise (· < ·)) :
  Calls Try.prog 68 #[.pointer (some ⟨r,0,none⟩),.slice vo L.length vc,.int .i64 (a:Int)] w fun e w' => e=.returned (.int .i64 (i:Int))∧w' = w:=by
 have CR:=rres_yes c1 hs (by unfold maxLen;omega) (inl_of_may hw.1) hw.2 a ha
 obtain ⟨hil,hie⟩:=List.getElem?_eq_some_iff.1 hi
 have HB:Hid (∀ b', Res l a b' → b' = b):=fun b' h=>h.uniq hb
 have HL:Hid (∀ k (hk:k<L.length),∃ lb lo,vo=some ⟨lb,lo,none⟩∧w.cell? ⟨lb,lo+k,none⟩=some (.int .i64 (L[k]:Int))):=fun k hk=>by
  obtain ⟨lb,lo,e,_,hc⟩:=hL.get (i:=k) (by rw [ofN_len'];exact hk)
  rw [ofN_at] at hc
  exact ⟨lb,lo,e,hc⟩
 have HNE:Hid (∀ k (hk:k<L.length),k<i→L[k]≠b):=fun k hk hki e=>by
  have:k=i:=rise_ne hris (by rw [List.getElem?_eq_getElem hk,e]) hi
  omega
 have HIE:Hid (L[i]=b):=hie
 obtain ⟨n,hne⟩:∃ n,n=L.length:=⟨_,rfl⟩
 have HN:Hid (n=L.length):=hne
 have hn4:(n:Int)≤4000:=by omega
 have hin:i<n:=by omega
 rw [← hne]
 clear c1 hs hn hw hL hLl ha hb hi hris hie hne
 go_enter Try.func68,Try.ntmps68
 go_upto_region 3 with (first | (go_at_call 49;refine CR.mono ?_;rintro e w1 ⟨b', rfl,hres,hw1⟩;have hw1:=hw1.symm;subst hw1;have eb:=HB.out b' hres;subst eb))
 clear CR hres
 go_loop [9] (fun v9=>∃ k:Nat,k≤i∧v9=.int .i64 (k:Int)) (fun v9=>i-(intOf v9).toNat)
 case atStart=>exact ⟨0,Nat.zero_le _,rfl⟩
 case round=>
  obtain ⟨k,hk,rfl⟩:=hrel
  have hkL:k<L.length:=by rw [← HN.out];omega
  obtain ⟨lb,lo,e,hc⟩:=HL.out k hkL
  subst e
  have j5:(0:Int)≤(k:Int):=by omega
  have j6:(k:Int)<(n:Int):=by omega
  by_cases e:k=i
  ·subst e
   rw [HIE.out] at hc
   clear HIE HNE
   go_wp2
   go_ret
   exact ⟨rfl,rfl⟩
  ·have hne:=HNE.out k hkL (by omega)
   have q1:((L[k]:Int) == (b' : Int))=false:=by simp;omega
   have q2:(L[k] == b')=false:=by simpa using hne
   generalize L[k]=c at *
   clear hne HNE HIE
   go_wp2
   go_round
   case rel=>exact ⟨k+1,by omega,by go_num⟩
   case measure=>simp [intOf];omega
set_option maxHeartbeats 1000000 in
theorem rcoll_no {B:Nat→Prop} {w:World} {r room:Nat} {v:Value} {l:List Nd} (p:RhB B w r room v l) {ao:Option Addr} {R:List Int} {ac:Nat} (hx:Arg w ao R ac) (hR:¬ ∀ z∈R,0≤z∧z<(l.length:Int)) :
  Calls Try.prog 35 #[.pointer (some ⟨r,0,none⟩),.slice ao R.length ac] w fun e w' => e=.returned (.tuple #[.slice none 0 0,.int .i64 0,.int .i64 120])∧w' = w:=by
 have C:=rlive_no p hx hR
 clear p hx hR
 go_enter Try.func35,Try.ntmps35
 go_wp2_with (first | (go_at_call 29;refine C.mono ?_;rintro e w' ⟨rfl,rfl⟩))
 exact bodyPost_ret (v:=.tuple #[.slice none 0 0,.int .i64 0,.int .i64 120]) (by simp [results,Try.results35,go_sem]) rfl ⟨rfl,rfl⟩
def RcQ (l:List Nd) (R:List Int) (r room:Nat) (w:World) (e:Ending) (w' : World):Prop:=
 ∃ v R' L l' vl,e=.returned (.tuple #[v,.int .i64 ((l.length:Int)-(L.length:Int)),.int .i64 0])∧KL l R L∧Sld l L l' ∧ Rts l L R R' ∧ Row w.heap.size w' v R' ∧ RhB (fun b=>w.heap.size≤b) w' r room vl l' ∧ Kept (fun k=>k=r) w w' ∧ ∀ k,vl.ownBlock=some k→w.heap.size≤k
theorem kl_le {l:List Nd} {R:List Int} {L:List Nat} (h:KL l R L):L.length≤l.length:=by
 have h1:L.Sublist (List.range l.length):=by
  have:L=(List.range l.length).filter (fun a=>decide (a∈L)):=by
   apply rise_uniq h.1 (List.Pairwise.filter _ List.pairwise_lt_range)
   intro a
   simp only [List.mem_filter,List.mem_range,decide_eq_true_eq]
   exact ⟨fun q=>⟨((h.2 a).1 q).1.1,q⟩,fun q=>q.2⟩
  rw [this]
  exact List.filter_sublist
 simpa using h1.length_le
theorem KL.at {l:List Nd} {R:List Int} {L:List Nat} (h:KL l R L) {b:Nat} (hb:Kpt l R b):∃ i:Nat,L[i]? = some b:=by
 obtain ⟨i,hi,e⟩:=List.mem_iff_getElem.1 ((h.2 b).2 hb)
 exact ⟨i,by rw [List.getElem?_eq_getElem hi,e]⟩
theorem lt_of_cell {w:World} {p:Addr} {v:Value} (h:w.cell? p=some v):p.block<w.heap.size:=by
 unfold World.cell? at h
 by_cases q:p.block<w.heap.size
 ·exact q
 ·rw [Array.getElem?_eq_none (by omega)] at h
  simp at h
set_option maxHeartbeats 4000000 in
theorem rcoll_yes {B:Nat→Prop} {w:World} {r room:Nat} {v:Value} {l:List Nd} (p:RhB B w r room v l) {ao:Option Addr} {R:List Int} {ac:Nat} (hx:Arg w ao R ac) (hR:∀ z∈R,0≤z∧z<(l.length:Int)) :
  Calls Try.prog 35 #[.pointer (some ⟨r,0,none⟩),.slice ao R.length ac] w fun e w' => RcQ l R r room w e w' := by
 have C:=rlive_yes p hx hR
 have HW:Hid (Wf l):=⟨p.may,p.ac⟩
 have hl4:l.length≤4000:=by have:=p.le;have:=p.rm2;omega
 obtain ⟨vo,vc,e,hns⟩:=p.mem
 subst e
 have HP:Hid (∀ ww,Same0 w ww→RhB B ww r room (.slice vo l.length vc) l∧NsW ww vo l):=fun ww hk=>⟨p.same hk,hns.weak.same hk⟩
 have HX:Hid (∀ ww,Same0 w ww→Arg ww ao R ac):=fun ww hk=>hx.onto hk
 have HR:Hid (∀ z∈R,0≤z∧z<(l.length:Int)):=hR
 have hrl:=p.lt
 obtain ⟨N,hNe⟩:∃ N,N=R.length:=⟨_,rfl⟩
 have HNE:Hid (N=R.length):=hNe
 have HNZ:Hid (N * 8≤140737488351232):=by rw [hNe];exact hx.size
 have hN0:(0:Int)≤(N:Int):=by omega
 obtain ⟨nl,hnl⟩:∃ nl,nl=l.length:=⟨_,rfl⟩
 have HnE:Hid (nl=l.length):=hnl
 have hn4:(nl:Int)≤4000:=by omega
 rw [← hNe] at C ⊢
 clear p hx hR hns hNe hnl
 go_enter Try.func35,Try.ntmps35
 go_upto_region 4 with (first | (go_at_call 29;refine C.mono ?_;rintro e w1 ⟨lv,L,rfl,hkl,hrow1,k1⟩))
 obtain ⟨qo,qc,e,qI, -,qB⟩:=hrow1.ints
 rw [ofN_len'] at e
 subst e
 have hLl:=kl_le hkl
 obtain ⟨m,hm⟩:∃ m,m=L.length:=⟨_,rfl⟩
 have HM:Hid (m=L.length∧L.length≤4000):=⟨hm,by omega⟩
 have HKL:Hid (KL l R L):=hkl
 have HK1:Hid (Same0 w w1):=k1
 have hm4:(m:Int)≤4000:=by omega
 have hm0:(0:Int)≤(m:Int):=by omega
 -- what To answers of a node whose application is kept
 have HTO:Hid (∀ ww,Same0 w1 ww→∀ a:Nat,a<l.length→(∀ b,Res l a b→Kpt l R b)→∃ i:Nat,Mv l L (a:Int) (i:Int)∧Calls Try.prog 68 #[.pointer (some ⟨r,0,none⟩),.slice qo m qc,.int .i64 (a:Int)] ww fun e w' => e=.returned (.int .i64 (i:Int))∧w' = ww):=fun ww hk a ha hkp=>by
  obtain ⟨b,hb⟩:=res_ex HW.out ha
  obtain ⟨i,hi⟩:=hkl.at (hkp b hb)
  have q:=HP.out ww (k1.trans' hk)
  have:=rto_any (vc:=qc) q.1.cells.2 q.2 hl4 HW.out (qI.same hk) (by omega) ha hb hi hkl.1
  rw [← hm] at this
  exact ⟨i,⟨b,i,by omega,by simpa using hb,hi,rfl⟩,this⟩
 have HQI:Hid (∀ ww,Same0 w1 ww→∀ k (hk:k<L.length),∃ lb lo,qo=some ⟨lb,lo,none⟩∧ww.cell? ⟨lb,lo+k,none⟩=some (.int .i64 (L[k]:Int))):=fun ww hk k hkL=>by
  obtain ⟨lb,lo,e,_,hc⟩:=(qI.same hk).get (i:=k) (by rw [ofN_len'];exact hkL)
  rw [ofN_at] at hc
  exact ⟨lb,lo,e,hc⟩
 have HR0:Hid (NRow (fun b=>w1.heap.size≤b) w1.heap.size w1 (.slice none 0 0) []∧SldK l L 0 []∧Same0 w1 w1):=⟨NRow.nil _ _ _,SldK.nil l L,Kept.refl _ _⟩
 rw [← hm]
 clear C hrow1 qI qB hkl k1 hm hLl
 go_upto_region 6 with fail
 go_loopw [9,10] (fun v9 v10 wr=>∃ (k:Nat) (ls:List Nd),k≤m∧v10=.int .i64 (k:Int)∧Hid (NRow (fun b=>w1.heap.size≤b) w1.heap.size wr v9 ls∧SldK l L k ls∧Same0 w1 wr)) (fun _ v10 _=>m-(intOf v10).toNat)
 case atStart=>exact ⟨0,[],Nat.zero_le _,rfl,HR0⟩
 case round=>
  clear HR0
  obtain ⟨k,ls,hk,rfl,HK⟩:=hrel
  by_cases hlt:k<m
  ·have hkL:k<L.length:=by rw [← HM.out.1];exact hlt
   have kp:=(HKL.out.2 _).1 (List.getElem_mem hkL)
   obtain ⟨a,hae⟩:∃ a,L[k]? = some a:=⟨_,List.getElem?_eq_getElem hkL⟩
   have hae2:=(List.getElem?_eq_some_iff.1 hae).2
   rw [hae2] at kp
   have hal:a<l.length:=kp.1.1
   obtain ⟨lb,lo,e,cl⟩:=HQI.out wr HK.out.2.2 k hkL
   rw [hae2] at cl
   subst e
   have q:=HP.out wr (HK1.out.trans' HK.out.2.2)
   have c1:=q.1.cells.2
   rw [← HnE.out] at c1
   rcases q.2 with e | ⟨nb,nf,e,hnb,hcn⟩
   ·rw [e] at hal;simp at hal
   subst e
   obtain ⟨xo,xc,n0,n1,n2,n3,n4,n5⟩:=hcn a hal
   have HARG:Hid (∀ z∈l[a].2.1,∃ z' : Nat,z=(z' : Int)∧z' < l.length∧∀ b,Res l z' b→Kpt l R b):=fun z hz=>by
    have rg:=args_rng HW.out hal hz
    exact ⟨z.toNat,by omega,by omega,fun b hb=>kp.arg HW.out hz hb⟩
   have hfew:(l[a]).2.1.length≤6:=(may_facts (HW.out.1 _ (List.getElem_mem hal))).2.1
   have HSN:Hid (∀ S,Rts l L l[a].2.1 S→SldK l L (k+1) (ls ++ [(l[a].1,S,l[a].2.2)])):=fun S hS=>HK.out.2.1.snoc hae hal hS
   have an:(a:Int)<(nl:Int):=by have:=HnE.out;omega
   have a0:(0:Int)≤(a:Int):=by omega
   have j5:(0:Int)≤(k:Int):=by omega
   have j6:(k:Int)<(m:Int):=by omega
   generalize l[a]=X at *
   obtain ⟨x0,x1,x2,x3,x4⟩:=X
   have HAX:Hid (∀ ww,Same0 wr ww→Arg ww xo x1 xc):=fun ww hk=>n5.onto hk
   clear hcn q kp hae2 n5
   go_upto_region 8 with fail
   have kA:Same0 wr (wr.alloc (.cells #[.int .i64 0,.slice none 0 0,.int .i64 0,.bool false,.int .i64 0] 47)):=(Kept.refl _ _).alloc _
   have hbA:=heap_alloc_new wr (.cells #[.int .i64 0,.slice none 0 0,.int .i64 0,.bool false,.int .i64 0] 47)
   obtain ⟨z0,z1,z2,z3,z4⟩:=box5 hbA
   obtain ⟨f0,f1,f2,f3,f4⟩:=free5 hbA
   have c1A:=(kA.cell (p:=⟨r,1,none⟩) (by have:=HK1.out.size;have:=HK.out.2.2.size;simp only;omega) (fun f=>f)).trans c1
   have clA:=(kA.cell (p:=⟨lb,lo+k,none⟩) (lt_of_cell cl) (fun f=>f)).trans cl
   have n0A:=(kA.cell (p:=⟨nb,_,none⟩) hnb (fun f=>f)).trans n0
   have n1A:=(kA.cell (p:=⟨nb,_,none⟩) hnb (fun f=>f)).trans n1
   have n2A:=(kA.cell (p:=⟨nb,_,none⟩) hnb (fun f=>f)).trans n2
   have n3A:=(kA.cell (p:=⟨nb,_,none⟩) hnb (fun f=>f)).trans n3
   have n4A:=(kA.cell (p:=⟨nb,_,none⟩) hnb (fun f=>f)).trans n4
   clear kA hbA
   go_region
   obtain ⟨W2,hW2⟩:∃ W2,W2=(wr.alloc (.cells #[.int .i64 x0,.slice xo x1.length xc,.int .i64 x2,.bool x3,.int .i64 x4] 47)).drew:=⟨_,rfl⟩
   have hB2:W2.heap[wr.heap.size]? = some (.cells #[.int .i64 x0,.slice xo x1.length xc,.int .i64 x2,.bool x3,.int .i64 x4] 47 (0,0)):=by rw [hW2];exact heap_alloc_new wr _
   have k2:Same0 wr W2:=by rw [hW2];exact Kept.drew ((Kept.refl _ _).alloc _)
   rw [← hW2]
   obtain ⟨nbx,hnx⟩:∃ nbx,nbx=wr.heap.size:=⟨_,rfl⟩
   rw [← hnx] at hB2 ⊢
   have HX2:Hid (nbx=wr.heap.size∧w1.heap.size≤wr.heap.size):=⟨hnx,HK.out.2.2.size⟩
   have HB2:Hid (∀ ww,Same0 W2 ww→ww.heap[nbx]? = some (.cells #[.int .i64 x0,.slice xo x1.length xc,.int .i64 x2,.bool x3,.int .i64 x4] 47 (0,0))):=fun ww hk=>hk.at0 hB2
   have HKA:Hid (Same0 wr W2∧Same0 w1 W2):=⟨k2,HK.out.2.2.trans' k2⟩
   have HNR:Hid (NRow (fun b=>w1.heap.size≤b) w1.heap.size W2 u9 ls∧∀ k,u9.ownBlock=some k→k<wr.heap.size):=⟨HK.out.1.same k2,fun k e=>(HK.out.1.block e).2.1⟩
   have HI0:Hid (Row W2.heap.size W2 (.slice none 0 0) []∧Rts l L (x1.take 0) []∧Same0 W2 W2):=⟨World.ownsRow_nil _ _ _ _,Rts.nil l L,Kept.refl _ _⟩
   have hx6:(x1.length:Int)≤6:=by have:x1.length≤6:=hfew;omega
   clear hW2 hB2 k2 hnx z0 z1 z2 z3 z4 f0 f1 f2 f3 f4 c1A clA n0A n1A n2A n3A n4A n0 n1 n2 n3 n4 c1 cl
   obtain ⟨wo,rfl⟩:∃ wo,wo=wr:=⟨_,rfl⟩
   go_wp2
   go_loopw [12,13] (fun v12 v13 wx=>∃ (j:Nat) (S:List Int),j≤x1.length∧v13=.int .i64 (j:Int)∧Hid (Row W2.heap.size wx v12 S∧Rts l L (x1.take j) S∧Same0 W2 wx)) (fun _ v13 _=>x1.length-(intOf v13).toNat)
   case atStart=>exact ⟨0,[],Nat.zero_le _,rfl,HI0⟩
   case round=>
    clear HI0
    obtain ⟨j,S,hj,rfl,HJ⟩:=hrel
    obtain ⟨-,b1, -, -, -⟩:=box5 (HB2.out wr HJ.out.2.2)
    have q5:(0:Int)≤(j:Int):=by omega
    by_cases hjl:j<x1.length
    ·obtain ⟨z,hz,hzl,hzk⟩:=HARG.out _ (List.getElem_mem hjl)
     obtain ⟨i,hmv,CT⟩:=HTO.out wr (HKA.out.2.trans' HJ.out.2.2) z hzl hzk
     obtain ⟨xb,xf,e,hxb,cx⟩:=((HAX.out wr (HKA.out.1.trans' HJ.out.2.2)).at').get hjl
     subst e
     rw [hz] at cx
     have HTK:Hid (Rts l L (x1.take (j+1)) (S ++ [(i:Int)])):=by
      rw [List.take_succ_eq_append_getElem hjl,hz]
      exact HJ.out.2.1.snoc hmv
     have q6:(j:Int)<(x1.length:Int):=by omega
     have hSl:S.length=j:=by have:=HJ.out.2.1.1;simp at this;omega
     have hsz:(S.length+1) * 8≤140737488355328:=by omega
     have hb2:W2.heap.size≤wr.heap.size:=HJ.out.2.2.size
     obtain ⟨so,sc,e⟩:=row_shape HJ.out.1
     subst e
     clear hz hzl hzk hmv hSl
     go_wp2_with (first | (go_at_call 68;refine CT.mono ?_;rintro e w5 ⟨rfl,hw5⟩;have hw5:=hw5.symm;subst hw5) | (at_builtin;refine wpList_push rfl _ _ 31 rfl Try.underlying31 W2.heap.size S _ rfl HJ.out.1 (i:Int) rfl hb2 hsz ?_;intro g6 c6 w6 hr6 hk6 hg6))
     have HJ1:Hid (Row W2.heap.size w6 (.slice (some ⟨g6,0,none⟩) (S.length+1) c6) (S ++ [(i:Int)])∧Rts l L (x1.take (j+1)) (S ++ [(i:Int)])∧Same0 W2 w6):=⟨hr6,HTK.out,HJ.out.2.2.onto HJ.out.1 hk6⟩
     go_roundw
     case rel=>first | exact ⟨j+1,S ++ [(i:Int)],by omega,by go_num,HJ1⟩ | ((repeat apply Exists.intro);exact ⟨⟨j+1,S ++ [(i:Int)],by omega,by go_num,HJ1⟩,rfl⟩)
     case measure=>simp [intOf];omega
    ·have e:j=x1.length:=by omega
     have hrts:=HJ.out.2.1
     rw [List.take_of_length_le (by omega)] at hrts
     have HSK:=(show Hid _ from HSN.out S hrts)
     have hSl:S.length≤6:=by rw [hrts.1];exact hfew
     obtain ⟨so,sc,e3,hSA,hSB⟩:=HJ.out.1.arg (by omega)
     subst e3
     have hbx:=HB2.out wr HJ.out.2.2
     obtain ⟨W4,hW4⟩:∃ W4,W4=wr.setCell ⟨nbx,1,none⟩ (.slice so S.length sc):=⟨_,rfl⟩
     have K4:Kept (fun k=>k=nbx) wr W4:=by rw [hW4];exact Kept.setCell (S:=fun k=>k=nbx) (Kept.refl _ _) (p:=⟨nbx,1,none⟩) (fun _=>rfl) _
     have hB4:W4.heap[nbx]? = some (.cells #[.int .i64 x0,.slice so S.length sc,.int .i64 x2,.bool x3,.int .i64 x4] 47 (0,0)):=by rw [hW4];exact set_box hbx _
     obtain ⟨d0,d1,d2,d3,d4⟩:=box5 hB4
     obtain ⟨-,fx, -, -, -⟩:=free5 hbx
     have hx2:=HX2.out
     have hni:∀ k,k=nbx→NotI wr k:=fun k e cur hc=>by rw [e,hbx] at hc;cases hc
     have sz2:=HKA.out.1.size
     have hlt2:nbx<W2.heap.size:=lt_of_at (HB2.out W2 (Kept.refl _ _))
     have hA4:ArgT W4 so S sc:=hSA.kept K4 hni
     have hnr4:NRow (fun b=>w1.heap.size≤b) w1.heap.size W4 u9 ls:=(HNR.out.1.same HJ.out.2.2).kept K4 (fun k e q=>by have:=HNR.out.2 k e;omega) (fun k _ q=>hni k q)
     have hSB4:∀ b,so=some b→w1.heap.size≤b.block:=fun b e=>by have:=hSB b e;omega
     have hk14:Same0 w1 W4:=(HKA.out.2.trans' HJ.out.2.2).trans K4 (fun i hi q=>by omega)
     have kW4:Same0 W4 (W4.alloc (.cells #[.int .i64 x0,.slice so S.length sc,.int .i64 x2,.bool x3,.int .i64 x4] 47)):=(Kept.refl _ _).alloc _
     have hq4:=heap_alloc_new W4 (.cells #[.int .i64 x0,.slice so S.length sc,.int .i64 x2,.bool x3,.int .i64 x4] 47)
     have hlsl:ls.length=k:=HK.out.2.1.1
     have hszn:(ls.length+1) * 56≤140737488355328:=by omega
     have hb4:w1.heap.size≤W4.heap.size:=hk14.size
     obtain ⟨uo,uc,e9⟩:=hnr4.shape
     subst e9
     have HKK:Hid (∀ ww,Kept (fun i=>(Value.slice uo ls.length uc).ownBlock=some i) W4 ww→Same0 w1 ww):=fun ww hk=>NRow.onto hk14 hnr4 hk
     have q9:¬ (j:Int)<(x1.length:Int):=by omega
     clear hbx hSA hSB hni hk14 K4 HJ hx2 hlt2 sz2 e hrts hlsl
     go_upto_region 15 with fail
     rw [← hW4]
     clear hW4 b1 fx
     go_wp2_with (first | (at_builtin;refine wpList_nd rfl _ _ rfl w1.heap.size ls _ rfl kW4 hnr4 (x0,S,x2,x3,x4) so sc _ rfl hq4 hA4 hSB4 hb4 hszn ?_;intro g7 c7 w7 hr7 hk7 hor))
     have HK7:Hid (NRow (fun b=>w1.heap.size≤b) w1.heap.size w7 (.slice (some ⟨g7,0,none⟩) (ls.length+1) c7) (ls ++ [(x0,S,x2,x3,x4)])∧SldK l L (k+1) (ls ++ [(x0,S,x2,x3,x4)])∧Same0 w1 w7):=⟨hr7,HSK.out,HKK.out w7 hk7⟩
     go_roundw
     case rel=>first | exact ⟨k+1,ls ++ [(x0,S,x2,x3,x4)],by omega,by go_num,HK7⟩ | ((repeat apply Exists.intro);exact ⟨⟨k+1,ls ++ [(x0,S,x2,x3,x4)],by omega,by go_num,HK7⟩,rfl⟩)
     case measure=>simp [intOf];omega
  ·have e:m=k:=by omega
   subst e
   have hsl:Sld l L ls:=by have:=HK.out.2.1;rw [HM.out.1] at this;exact this.all
   have HSL:Hid (Sld l L ls∧ls.length=L.length):=⟨hsl,hsl.1⟩
   obtain ⟨uo,uc,e9⟩:=HK.out.1.shape
   have elen:ls.length=m:=by rw [hsl.1,HM.out.1]
   rw [elen] at e9
   subst e9
   have HI0:Hid (Row wr.heap.size wr (.slice none 0 0) []∧Rts l L (R.take 0) []∧Same0 wr wr):=⟨World.ownsRow_nil _ _ _ _,Rts.nil l L,Kept.refl _ _⟩
   obtain ⟨wo,rfl⟩:∃ wo,wo=wr:=⟨_,rfl⟩
   clear hlt hk hsl elen
   go_wp2
   go_loopw [14,15] (fun v14 v15 wx=>∃ (j:Nat) (S:List Int),j≤N∧v15=.int .i64 (j:Int)∧Hid (Row wo.heap.size wx v14 S∧Rts l L (R.take j) S∧Same0 wo wx)) (fun _ v15 _=>N-(intOf v15).toNat)
   case atStart=>exact ⟨0,[],Nat.zero_le _,rfl,HI0⟩
   case round=>
    clear HI0
    obtain ⟨j,S,hj,rfl,HJ⟩:=hrel
    have q5:(0:Int)≤(j:Int):=by omega
    by_cases hjl:j<N
    ·have hjR:j<R.length:=by rw [← HNE.out];exact hjl
     have rg:=HR.out _ (List.getElem_mem hjR)
     obtain ⟨z,hz⟩:∃ z:Nat,R[j]=(z:Int):=⟨R[j].toNat,by omega⟩
     have hzm:(z:Int)∈R:=by rw [← hz];exact List.getElem_mem hjR
     obtain ⟨i,hmv,CT⟩:=HTO.out wr (HK.out.2.2.trans' HJ.out.2.2) z (by omega) (fun b hb=>Kpt.root HW.out hzm (by simpa using hb))
     obtain ⟨xb,xf,e,hxb,cx⟩:=((HX.out wr ((HK1.out.trans' HK.out.2.2).trans' HJ.out.2.2)).at').get hjR
     subst e
     rw [hz] at cx
     have HTK:Hid (Rts l L (R.take (j+1)) (S ++ [(i:Int)])):=by
      rw [List.take_succ_eq_append_getElem hjR,hz]
      exact HJ.out.2.1.snoc hmv
     have q6:(j:Int)<(N:Int):=by omega
     have hSl:S.length=j:=by have:=HJ.out.2.1.1;simp at this;omega
     have hsz:(S.length+1) * 8≤140737488355328:=by have:=HNZ.out;omega
     have iw:IntKind.i64.wrap ((j:Int)+1)=(j:Int)+1:=by rw [IntKind.wrap_i64];have:=HNZ.out;omega
     have hb2:wo.heap.size≤wr.heap.size:=HJ.out.2.2.size
     obtain ⟨so,sc,e⟩:=row_shape HJ.out.1
     subst e
     clear hz hzm hmv hSl rg
     go_wp2_with (first | (go_at_call 68;refine CT.mono ?_;rintro e w5 ⟨rfl,hw5⟩;have hw5:=hw5.symm;subst hw5) | (at_builtin;refine wpList_push rfl _ _ 31 rfl Try.underlying31 wo.heap.size S _ rfl HJ.out.1 (i:Int) rfl hb2 hsz ?_;intro g6 c6 w6 hr6 hk6 hg6))
     have HJ1:Hid (Row wo.heap.size w6 (.slice (some ⟨g6,0,none⟩) (S.length+1) c6) (S ++ [(i:Int)])∧Rts l L (R.take (j+1)) (S ++ [(i:Int)])∧Same0 wo w6):=⟨hr6,HTK.out,HJ.out.2.2.onto HJ.out.1 hk6⟩
     go_roundw
     case rel=>first | exact ⟨j+1,S ++ [(i:Int)],by omega,by go_num,HJ1⟩ | ((repeat apply Exists.intro);exact ⟨⟨j+1,S ++ [(i:Int)],by omega,by go_num,HJ1⟩,rfl⟩)
     case measure=>simp [intOf];omega
    ·have e:N=j:=by omega
     subst e
     have hrts:=HJ.out.2.1
     rw [List.take_of_length_le (by rw [HNE.out];exact Nat.le_refl _)] at hrts
     have kk:Same0 w wr:=(HK1.out.trans' HK.out.2.2).trans' HJ.out.2.2
     have q:=(HP.out wr kk).1
     have c1:=q.cells.2
     have hbx:=q.box
     rw [← HnE.out] at c1
     have hmn:(m:Int)≤(nl:Int):=by have:=kl_le HKL.out;have:=HM.out.1;have:=HnE.out;omega
     have hn0:(0:Int)≤(nl:Int):=by omega
     have fr1:wr.frozen? ⟨r,1,none⟩=false:=frozenAt hbx 1
     have hs1:=HK1.out.size
     have hs2:=HK.out.2.2.size
     have FIN:RcQ l R r room w (.returned (.tuple #[u14,.int .i64 ((nl:Int)-(m:Int)),.int .i64 0])) (wr.setCell ⟨r,1,none⟩ (.slice uo m uc)):=by
      have K9:Kept (fun k=>k=r) wr (wr.setCell ⟨r,1,none⟩ (.slice uo m uc)):=Kept.setCell (S:=fun k=>k=r) (Kept.refl _ _) (p:=⟨r,1,none⟩) (fun _=>rfl) _
      have hni:∀ k,k=r→NotI wr k:=fun k e cur hc=>by rw [e,hbx] at hc;cases hc
      have wf:=HSL.out.1.wf HW.out HKL.out
      have nr:=(HK.out.1.same HJ.out.2.2)
      have nb:=fun k (e:(Value.slice uo m uc).ownBlock=some k)=>(nr.block e).1
      refine ⟨u14,S,L,ls,.slice uo m uc,by rw [HM.out.1,HnE.out],HKL.out,HSL.out.1,hrts,?_,⟨?_,?_,q.rm1,q.rm2,?_,wf.1.1,wf.1.2⟩,(Kept.mono kk (fun _ _ f=>f.elim)).trans K9 (fun _ _ e=>e),fun k e=>by have:=nb k e;omega⟩
      ·exact row_mono (K9.row HJ.out.1 (fun k e q2=>by have:=(HJ.out.1.lt k e).1;omega)) (by omega)
      ·exact set_room hbx _
      ·exact (((nr.kept K9 (fun k e q2=>by have:=nb k e;omega) (fun k _ q2=>hni k q2)).zero).mono (fun k _ hk=>by omega))
      ·have:=kl_le HKL.out;have:=HSL.out.2;have:=q.le;omega
     have HFIN:=(show Hid _ from FIN)
     clear FIN hrts q hbx HJ HK HSL
     go_wp2
     exact bodyPost_ret (v:=.tuple #[u14,.int .i64 ((nl:Int)-(m:Int)),.int .i64 0]) (by simp [results,Try.results35,go_sem]) rfl HFIN.out
def CoA (l:List Nd) (R R' : List Int) (wn E:Int) (l' : List Nd):Prop:=(¬ (∀ r∈R,0≤r∧r<(l.length:Int))∧R' = []∧wn=0∧E=120∧l' = l)∨((∀ r∈R,0≤r∧r<(l.length:Int))∧∃ L,KL l R L∧Sld l L l' ∧ Rts l L R R' ∧ wn=(l.length:Int)-(L.length:Int)∧E=0)
theorem CoA.uniq {l:List Nd} {R R' R'' : List Int} {wn wn' E E' : Int} {l' l'' : List Nd} (h:CoA l R R' wn E l') (h' : CoA l R R'' wn' E' l''):R' = R'' ∧ wn=wn' ∧ E=E' ∧ l' = l'' := by
 rcases h with ⟨a,rfl,rfl,rfl,rfl⟩ | ⟨a,L,b1,b2,b3,rfl,rfl⟩ <;> rcases h' with ⟨a', rfl,rfl,rfl,rfl⟩ | ⟨a', L', c1,c2,c3,rfl,rfl⟩
 ·exact ⟨rfl,rfl,rfl,rfl⟩
 ·exact absurd a' a
 ·exact absurd a a'
 ·have e:=b1.uniq c1
  subst e
  exact ⟨b3.uniq b1 c3,rfl,rfl,b2.uniq b1 c2⟩
theorem CoA.len {l:List Nd} {R R' : List Int} {wn E:Int} {l' : List Nd} (h:CoA l R R' wn E l'):R'.length≤R.length:=by
 rcases h with ⟨a,rfl,rfl,rfl,rfl⟩ | ⟨a,L,b1,b2,b3,rfl,rfl⟩
 ·simp
 ·rw [b3.1];exact Nat.le_refl _
theorem coll_any {B:Nat→Prop} {w:World} {h g room:Nat} {l:List Nd} (p:HpB B w h g room l) {ao:Option Addr} {R:List Int} {ac:Nat} (hx:Arg w ao R ac) (hap:R≠[]→∀ a,ao=some a→a.block≠h∧a.block≠g) :
  Calls Try.prog 34 #[.pointer (some ⟨h,0,none⟩),.slice ao R.length ac] w fun e w' => ∃ v R' wn E l', e=.returned (.tuple #[v,.int .i64 wn,.int .i64 E])∧CoA l R R' wn E l' ∧ Row w.heap.size w' v R' ∧ HpB (fun b=>(B b∨w.heap.size≤b)∧v.ownBlock≠some b) w' h g room l' ∧ Kept (fun k=>k=h∨k=g) w w' := by
 by_cases hR:∀ r∈R,0≤r∧r<(l.length:Int)
 ·refine (coll_yes p hx hR hap).mono ?_
  rintro e w' ⟨v,R', L,l', rfl,h1,h2,h3,h4,h5,h6⟩
  exact ⟨v,R', _,0,l', rfl,.inr ⟨hR,L,h1,h2,h3,rfl,rfl⟩,h4,h5.mono (fun _ _ _ q=>⟨.inr q.1,q.2⟩),h6⟩
 ·refine (coll_no p hx hR).mono ?_
  rintro e w' ⟨rfl,rfl⟩
  exact ⟨_,[],0,120,l,rfl,.inl ⟨hR,rfl,rfl,rfl,rfl⟩,World.ownsRow_nil _ _ _ _,p.mono (fun _ _ _ q=>⟨.inl q,fun e=>by cases e⟩),Kept.refl _ _⟩
theorem rcoll_any {B:Nat→Prop} {w:World} {r room:Nat} {v:Value} {l:List Nd} (p:RhB B w r room v l) {ao:Option Addr} {R:List Int} {ac:Nat} (hx:Arg w ao R ac) :
  Calls Try.prog 35 #[.pointer (some ⟨r,0,none⟩),.slice ao R.length ac] w fun e w' => ∃ v' R' wn E l' vl,e=.returned (.tuple #[v', .int .i64 wn,.int .i64 E])∧CoA l R R' wn E l' ∧ Row w.heap.size w' v' R' ∧ RhB (fun b=>B b∨w.heap.size≤b) w' r room vl l' ∧ Kept (fun k=>k=r) w w' ∧ ∀ k,vl.ownBlock=some k→v.ownBlock=some k∨w.heap.size≤k:=by
 by_cases hR:∀ r∈R,0≤r∧r<(l.length:Int)
 ·refine (rcoll_yes p hx hR).mono ?_
  rintro e w' ⟨v', R', L,l', vl,rfl,h1,h2,h3,h4,h5,h6,h7⟩
  exact ⟨v', R', _,0,l', vl,rfl,.inr ⟨hR,L,h1,h2,h3,rfl,rfl⟩,h4,h5.mono (fun _ _ q=>.inr q),h6,fun k e=>.inr (h7 k e)⟩
 ·refine (rcoll_no p hx hR).mono ?_
  rintro e w' ⟨rfl,rfl⟩
  exact ⟨_,[],0,120,l,v,rfl,.inl ⟨hR,rfl,rfl,rfl,rfl⟩,World.ownsRow_nil _ _ _ _,p.mono (fun _ _ q=>.inl q),Kept.refl _ _,fun k e=>.inl e⟩
theorem HpB.noth {B:Nat→Prop} {w:World} {h g room:Nat} {l:List Nd} (p:HpB B w h g room l):NotI w h:=fun cur hc=>by rw [p.box] at hc;cases hc
structure TwoH (N:Nat) (w wr:World) (h g r:Nat) (v:Value) (l:List Nd):Prop where
 hp:Hp wr h g 4000 l
 rh:RhB (fun _=>True) wr r 4000 v l
 kept:Same0 w wr
 own:∀ k,v.ownBlock=some k→N≤k∧k≠g∧k≠h∧k≠r
 lh:N≤h
 lg:N≤g
 lr:N≤r
 ne:r≠h∧r≠g
set_option maxHeartbeats 4000000 in
theorem scoll_walk {w:World} {lo ro so:Option Addr} {lc rc sc:Nat} {l:List Nd} {R S:List Int} (hs:NsW w lo l) (hsz:l.length * 56≤140737488351232) (hx:Arg w ro R rc) (hy:Arg w so S sc) :
  Calls Try.prog 7 #[.slice lo l.length lc,.slice ro R.length rc,.slice so S.length sc] w fun e w' => e=.returned (.bool true)∧Below w.heap.size w w' := by
 have C0:=awake12_any w
 have HS:Hid (∀ ww,Same0 w ww→NsW ww lo l):=fun ww hk=>hs.same hk
 have HX:Hid (∀ ww,Same0 w ww→Arg ww ro R rc∧Arg ww so S sc):=fun ww hk=>⟨hx.onto hk,hy.onto hk⟩
 have HXB:Hid ((R≠[]→∀ a,ro=some a→a.block<w.heap.size)∧(S≠[]→∀ a,so=some a→a.block<w.heap.size)):=⟨fun h0 a e=>hx.at'.lt h0 e,fun h0 a e=>hy.at'.lt h0 e⟩
 have HZ:Hid (l.length≤maxLen):=by show _≤_;unfold maxLen;omega
 clear hs hsz hx hy
 go_enter Try.func7,Try.ntmps7
 go_upto_region 3 with (first | (go_at_call 25;refine C0.mono ?_;rintro e w1 ⟨rfl,k1⟩;have C1:=made12_any (ac:=lc) (HS.out w1 k1) HZ.out) | (go_at_call 26;refine C1.mono ?_;rintro e w2 hmd;rcases hmd with ⟨rfl,k2⟩ | ⟨h,g,r,v,rfl,md⟩))
 ·have K:Hid (Same0 w w2):=k1.trans' k2
  clear C0 C1
  go_wp2
  go_ret
  exact ⟨rfl,K.out.below⟩
 ·have HT0:Hid (TwoH w.heap.size w w2 h g r v l):=⟨md.hp.any,RhB.mono md.rh (fun _ _ _=>trivial),k1.trans' md.same,fun k e=>by have:=md.lv k e;have:=k1.size;omega,by have:=md.lh;have:=k1.size;omega,by have:=md.lg;have:=k1.size;omega,by have:=md.lr;have:=k1.size;omega,md.nr⟩
  clear C0 C1 md k1
  go_upto_region 6 with fail
  go_loopw [10] (fun v10 wr=>∃ (k:Nat) (l' : List Nd) (vl:Value),k≤2∧v10=.int .i64 (k:Int)∧Hid (TwoH w.heap.size w wr h g r vl l')) (fun v10 _=>2-(intOf v10).toNat)
  case atStart=>exact ⟨0,l,v,by omega,rfl,HT0⟩
  case round=>
   clear HT0
   obtain ⟨k,l1,vl,hk,rfl,HT⟩:=hrel
   by_cases hlt:k<2
   ·-- which list is wanted
    obtain ⟨wo', wcap,W,hwant,hne,HWA,HWB⟩:∃ (wo' : Option Addr) (wcap:Nat) (W:List Int),((k=0∧wo' = ro∧wcap=rc∧W=R)∨(k=1∧wo' = so∧wcap=sc∧W=S))∧True∧Hid (∀ ww,Same0 w ww→Arg ww wo' W wcap)∧Hid (W≠[]→∀ a,wo' = some a→a.block<w.heap.size):=by
     by_cases e:k=0
     ·exact ⟨ro,rc,R,.inl ⟨e,rfl,rfl,rfl⟩,trivial,fun ww hk=>(HX.out ww hk).1,HXB.out.1⟩
     ·exact ⟨so,sc,S,.inr ⟨by omega,rfl,rfl,rfl⟩,trivial,fun ww hk=>(HX.out ww hk).2,HXB.out.2⟩
    have j5:(k:Int)<2:=by omega
    have C2:=lent12_any (HWA.out wr HT.out.kept)
    have HWS:Hid (W.length * 8≤140737488351232):=(HWA.out wr HT.out.kept).size
    obtain ⟨wo,rfl⟩:∃ wo,wo=wr:=⟨_,rfl⟩
    go_upto_if 40 with fail
    go_cut [11] from 41 to 41 (fun s11 wc' => s11=.slice wo' W.length wcap∧wc' = wo)
    case first=>
     rcases hwant with ⟨rfl,rfl,rfl,rfl⟩ | ⟨rfl,rfl,rfl,rfl⟩
     ·go_wp2_with fail
      go_meet
      case rel=>exact ⟨rfl,rfl⟩
     ·go_wp2_with fail
      go_meet
      case rel=>exact ⟨rfl,rfl⟩
    case rest=>
    obtain ⟨rfl,hcut⟩:=hcut
    subst hcut
    generalize ((k:Int) == 1)=bk
    obtain ⟨wz,rfl⟩:∃ wz,wz=wc:=⟨_,rfl⟩
    clear hwant hne
    go_upto_region 12 with (first | (go_at_call 27;refine C2.mono ?_;rintro e w3 ⟨tg,tc,rfl,hrow3,hc3,k3⟩))
    have hT:=HT.out
    have hhl:=hT.hp.ltH
    have hgl:=hT.hp.ltG
    have hrl:=hT.rh.lt
    have s0:=hT.kept.size
    have htg:=hrow3.lt tg rfl
    have hA3:=lent_arg hrow3 hc3 HWS.out
    have hp3:HpB (fun b=>b<wz.heap.size) w3 h g 4000 l1:=(hT.hp.mono (fun q hq _ _=>hq)).same k3
    have hr3:RhB (fun b=>b<wz.heap.size) w3 r 4000 vl l1:=(hT.rh.mono (fun q hq _=>hq)).same k3
    have C3:=coll_any hp3 hA3 (fun _ a e=>by cases e;simp only;omega)
    have HROW:Hid (Row wz.heap.size w3 (.slice (some ⟨tg,0,none⟩) (W.length+3) tc) (lentL W)):=hrow3
    clear C2 hrow3 hA3
    go_upto_region 13 with (first | (go_at_call 34;refine C3.mono ?_;rintro e w4 ⟨av,R1,wn,E,l2,rfl,hco,hrowa,hp4,k4⟩))
    have s3:=k3.size
    have s4:=k4.size
    have K3:Same0 w w3:=hT.kept.trans' k3
    have K4:Same0 w w4:=K3.trans k4 (fun i hi e=>by have:=hT.lh;have:=hT.lg;omega)
    have hn4:∀ k,(k=h∨k=g)→NotI w3 k:=fun k e=>by rcases e with rfl | rfl;exact hp3.noth;exact hp3.notg
    have hr4:RhB (fun b=>b<wz.heap.size) w4 r 4000 vl l1:=hr3.kept k4 (by have:=hT.ne;omega) (fun q e x=>by have:=hT.own q e;omega) (fun q _ x=>hn4 q x)
    have C4:=rcoll_any hr4 (HWA.out w4 K4)
    have hown:∀ q,vl.ownBlock=some q→q<wz.heap.size:=fun q e=>(hT.rh.row.block e).2.1
    have HROW4:Hid (Row wz.heap.size w4 (.slice (some ⟨tg,0,none⟩) (W.length+3) tc) (lentL W)):=k4.row HROW.out (fun q e x=>by have e1:tg=q:=Option.some.inj e;omega)
    have HOA:Hid (∀ q,av.ownBlock=some q→w3.heap.size≤q∧q<w4.heap.size):=fun q e=>hrowa.lt q e
    clear C3 hn4 hp3 hr3
    go_upto_region 14 with (first | (go_at_call 35;refine C4.mono ?_;rintro e w5 ⟨bv5,R2,wn2,E2,l3,vl2,rfl,hco2,hrowb,hr5,k5,hvl⟩))
    obtain ⟨rfl,rfl,rfl,rfl⟩:=hco.uniq hco2
    have s5:=k5.size
    have K5:Same0 w w5:=K4.trans k5 (fun i hi e=>by have:=hT.lr;omega)
    have hni5:∀ q,q=r→NotI w4 q:=fun q e=>by subst e;exact hr4.noti
    have hp5:HpB (fun b=>(b<wz.heap.size∨w3.heap.size≤b)∧av.ownBlock≠some b) w5 h g 4000 l2:=hp4.kept k5 (by have:=hT.ne;omega) (by have:=hT.ne;omega) (fun q _ x=>hni5 q x)
    have hr5' : RhB (fun b=>b<wz.heap.size∨w4.heap.size≤b) w5 r 4000 vl2 l2:=hr5
    have hRl:R1.length * 8≤140737488351232:=by have:=hco.len;have:=HWS.out;omega
    have a5:Row w3.heap.size w5 av R1:=k5.row hrowa (fun q e x=>by have:=HOA.out q e;omega)
    obtain ⟨ao,ac,e,aI, -,aB⟩:=a5.ints
    subst e
    obtain ⟨bo,bc,e,bI, -,bB⟩:=hrowb.ints
    subst e
    have hmx:R1.length≤maxLen:=by unfold maxLen;omega
    have CS:=sameInts_any ac bc aI bI hmx
    rw [show eqI R1 R1=true by unfold eqI;simp] at CS
    have HROW5:Hid (Row wz.heap.size w5 (.slice (some ⟨tg,0,none⟩) (W.length+3) tc) (lentL W)):=k5.row HROW4.out (fun q e x=>by have e1:tg=q:=Option.some.inj e;omega)
    have hv2:∀ q,vl2.ownBlock=some q→w.heap.size≤q∧q≠g∧q≠h∧q≠r∧(q<wz.heap.size∨w4.heap.size≤q):=fun q e=>by
     rcases hvl q e with x | x
     ·have:=hT.own q x;have:=hown q x;omega
     ·omega
    have H5:Hid (HpB (fun b=>(b<wz.heap.size∨w3.heap.size≤b)∧(Value.slice ao R1.length ac).ownBlock≠some b) w5 h g 4000 l2∧RhB (fun b=>b<wz.heap.size∨w4.heap.size≤b) w5 r 4000 vl2 l2∧Same0 w w5∧Row w3.heap.size w5 (.slice ao R1.length ac) R1∧(∀ q,vl2.ownBlock=some q→w.heap.size≤q∧q≠g∧q≠h∧q≠r∧(q<wz.heap.size∨w4.heap.size≤q))):=⟨hp5,hr5', K5,a5,hv2⟩
    have HLO:Hid (w.heap.size≤h∧w.heap.size≤g∧w.heap.size≤r∧(r≠h∧r≠g)∧h<wz.heap.size∧g<wz.heap.size∧r<wz.heap.size∧w.heap.size≤wz.heap.size∧(wz.heap.size≤tg∧tg<w3.heap.size)∧w3.heap.size≤w4.heap.size):=⟨hT.lh,hT.lg,hT.lr,hT.ne,hhl,hgl,hrl,s0,htg,s4⟩
    have hEE:(E != E)=false:=by simp
    have hWW:(wn != wn)=false:=by simp
    obtain ⟨n,hn⟩:∃ n,n=R1.length:=⟨_,rfl⟩
    have HN:Hid (n=R1.length∧R1.length * 8≤140737488351232):=⟨hn,hRl⟩
    have i0:(0:Int)≤(n:Int):=by omega
    rw [← hn] at CS H5 HOA ⊢
    clear C4 hco hco2 hrowa hrowb hp4 hr5 hr4 k5 k4 hvl hp5 hr5' a5 aI aB bI bB hmx hv2 hT hhl hgl hrl s0 htg s3 s4 s5 K3 K4 K5 hni5 hown hn hRl HROW HROW4 k3
    go_upto_region 16 with (first | (go_at_call 30;refine CS.mono ?_;rintro e w7 ⟨rfl,k7⟩))
    have HR0:Hid (SpR w3.heap.size w7 w7 (.slice ao n ac) n):=⟨⟨R1,by rw [HN.out.1],k7.row H5.out.2.2.2.1 (fun _ _ f=>f)⟩,Kept.refl _ _⟩
    clear CS
    go_loopw [20] (fun v20 wx=>∃ j:Nat,j≤n∧v20=.int .i64 (j:Int)∧Hid (SpR w3.heap.size w7 wx (.slice ao n ac) n)) (fun v20 _=>n-(intOf v20).toNat)
    case atStart=>exact ⟨0,Nat.zero_le _,rfl,HR0⟩
    case round=>
     clear HR0
     obtain ⟨j,hj,rfl,HK⟩:=hrel
     by_cases hjl:j<n
     ·obtain ⟨⟨xs,hxl,hxr⟩,hkk⟩:=HK.out
      obtain ⟨ab,e⟩:∃ ab,ao=some ⟨ab,0,none⟩:=by
       rcases hxr.2 with ⟨q,q0⟩ | ⟨g', cap,cur,q,_⟩
       ·omega
       ·simp only [Value.slice.injEq] at q;exact ⟨_,q.1⟩
      subst e
      obtain ⟨ov,cm,fm⟩:∃ ov,wr.cell? ⟨ab,j,none⟩=some ov∧wr.frozen? ⟨ab,j,none⟩=false:=by
       obtain ⟨cm,fm, -, -⟩:=row_at hxr (i:=j) (by omega)
       exact ⟨_,cm,fm⟩
      have HK1:Hid (SpR w3.heap.size w7 (wr.setCell ⟨ab,j,none⟩ (.int .i64 (-3))) (.slice (some ⟨ab,0,none⟩) n ac) n):=⟨⟨xs.set j (-3),by simp [hxl],rowI_put hxr j _⟩,Kept.setCell (S:=fun k=>(Value.slice (some ⟨ab,0,none⟩) n ac).ownBlock=some k) hkk (p:=⟨ab,j,none⟩) (fun _=>rfl) _⟩
      have q5:(0:Int)≤(j:Int):=by omega
      have q6:(j:Int)<(n:Int):=by omega
      have iw:IntKind.i64.wrap ((j:Int)+1)=(j:Int)+1:=by rw [IntKind.wrap_i64];have:=HN.out;omega
      clear hxr hkk hxl HK
      go_wp2
      go_roundw
      case rel=>first | exact ⟨j+1,by omega,by go_num,HK1⟩ | ((repeat apply Exists.intro);exact ⟨⟨j+1,by omega,by go_num,HK1⟩,rfl⟩)
      case measure=>simp [intOf];omega
     ·have e:n=j:=by omega
      subst e
      have hkk:=HK.out.2
      have hlo:=HLO.out
      have hoa:=HOA.out
      have hp8:=(H5.out.1.same k7).kept hkk (fun q=>by have:=hoa _ q;omega) (fun q=>by have:=hoa _ q;omega) (fun q hB x=>absurd x hB.2)
      have hr8:=(H5.out.2.1.same k7).kept hkk (fun q=>by have:=hoa _ q;omega) (fun q e x=>by have:=hoa _ x;have:=H5.out.2.2.2.2 q e;omega) (fun q hB x=>by have:=hoa _ x;omega)
      have k08:Same0 w wr:=(H5.out.2.2.1.trans' k7).trans hkk (fun i hi q=>by have:=hoa _ q;omega)
      have htr:Row wz.heap.size wr (.slice (some ⟨tg,0,none⟩) (W.length+3) tc) (lentL W):=hkk.row (k7.row HROW5.out (fun _ _ f=>f)) (fun q e x=>by have e1:tg=q:=Option.some.inj e;have:=hoa _ x;omega)
      have CH:=held12_any htr hc3 (HWA.out wr k08) (fun h0 a e q=>by have:=HWB.out h0 a e;omega)
      have H8:Hid (HpB (fun b=>(b<wz.heap.size∨w3.heap.size≤b)∧(Value.slice ao n ac).ownBlock≠some b) wr h g 4000 l2∧RhB (fun b=>b<wz.heap.size∨w4.heap.size≤b) wr r 4000 vl2 l2∧Same0 w wr):=⟨hp8,hr8,k08⟩
      clear HK hkk hp8 hr8 k08 htr hlo hoa hjl hj
      go_upto_region 20 with (first | (go_at_call 31;refine CH.mono ?_;rintro e w10 ⟨rfl,k10⟩))
      have hlo:=HLO.out
      have hv2:=H5.out.2.2.2.2
      have pp:=H8.out.1.kept k10 (by omega) (by omega) (fun q hB x=>by omega)
      have rr:=H8.out.2.1.kept k10 (by omega) (fun q e x=>by have:=hv2 q e;omega) (fun q hB x=>by omega)
      have k010:Same0 w w10:=H8.out.2.2.trans k10 (fun i hi e=>by omega)
      have CT:=told12_any pp.any
      have H10:Hid (∀ ww,Same0 w10 ww→Hp ww h g 4000 l2∧RhB (fun _=>True) ww r 4000 vl2 l2∧Same0 w ww):=fun ww hk=>⟨pp.any.same hk,(rr.mono (fun _ _ _=>trivial)).same hk,k010.trans' hk⟩
      clear CH hlo hv2 pp rr k010
      go_upto_region 21 with (first | (go_at_call 32;refine CT.mono ?_;rintro e w11 ⟨nv,rfl,hrow11,k11⟩))
      obtain ⟨no,nc,e⟩:=hrow11.shape
      subst e
      have q11:=H10.out w11 k11
      obtain ⟨vo', vc', e,hns⟩:=q11.2.1.mem
      subst e
      have c1:=q11.2.1.cells.2
      have hl4:l2.length≤4000:=q11.1.le
      have CN:=sameNodes_any (ac:=nc) (bc:=vc') (NRow.mem hrow11).weak hns.weak (by unfold maxLen;omega)
      rw [eqL_self] at CN
      clear CT hrow11 hns q11
      go_upto_region 22 with (first | (go_at_call 33;refine CN.mono ?_;rintro e w12 ⟨rfl,k12⟩))
      have q12:=H10.out w12 (k11.trans' k12)
      have c2:=q12.2.1.cells.2
      have CU:∀ m,Calls Try.prog 24 #[.pointer (some ⟨h,0,none⟩)] (w12.drewN m) fun e w' => e=.returned (.int .i64 (l2.length:Int))∧w' = w12.drewN m:=fun m=>used_any (q12.1.same (Kept.drewN (Kept.refl _ _) m))
      have HFN:Hid (∀ m,Hid (TwoH w.heap.size w (w12.drewN m) h g r (.slice vo' l2.length vc') l2)):=fun m=>by
       have q:=H10.out (w12.drewN m) ((k11.trans' k12).trans' (Kept.drewN (Kept.refl _ _) m))
       have hlo:=HLO.out
       exact ⟨q.1,q.2.1,q.2.2,fun x e=>by have:=H5.out.2.2.2.2 x e;omega,hlo.1,hlo.2.1,hlo.2.2.1,hlo.2.2.2.1⟩
      have hLL:((l2.length:Int) != (l2.length:Int))=false:=by simp
      clear CN q12 c1
      go_quiet ((go_at_call 24;exact Calls.quiet_of_same (CU _)))
      go_wp2
      go_roundw
      case rel=>first | exact ⟨k+1,l2,_,by omega,by go_num,HFN.out _⟩ | ((repeat apply Exists.intro);exact ⟨⟨k+1,l2,_,by omega,by go_num,HFN.out _⟩,rfl⟩)
      case measure=>simp [intOf];omega
   ·have e:k=2:=by omega
    subst e
    have KK:=HT.out.kept.below
    go_wp2
    go_ret
    exact ⟨rfl,KK⟩
end Go.Proofs.Ytcbonegkfppdiaa
