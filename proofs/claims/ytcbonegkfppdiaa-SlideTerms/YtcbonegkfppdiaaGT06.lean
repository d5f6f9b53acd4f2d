import Derived.Test.YtcbonegkfppdiaaGT04
import Derived.Test.YtcbonegkfppdiaaGT05
import Derived.Test.YtcbonegkfppdiaaGT03
namespace Go.Proofs.Ytcbonegkfppdiaa
set_option maxRecDepth 100000
set_option linter.unusedVariables false
open Go.RowKit
attribute [local go_sem ↓] Go.wp_at_zero Go.wp_at_succ
structure NwI (N:Nat) (w5 wr:World) (nb n:Nat) (l:List Nd) (k:Nat):Prop where
 blk:∃ cs,wr.heap[nb]? = some (.cells cs 47 (0,0))∧cs.size=n * 5
 each:∀ i (hi:i<l.length),i<k→NdC (fun b=>N≤b) wr nb (i * 5) l[i]
 kept:Kept (fun k=>k=nb) w5 wr
theorem NwI.there {N:Nat} {w5 wr w1:World} {nb n k:Nat} {l:List Nd} (p:NwI N w5 wr nb n l k) (hs:Same0 wr w1) {i:Nat} (hi:i<n):(∃ u0 u1 u2 u3 u4,w1.cell? ⟨nb,i * 5,none⟩=some u0∧w1.cell? ⟨nb,i * 5+1,none⟩=some u1∧w1.cell? ⟨nb,i * 5+2,none⟩=some u2∧w1.cell? ⟨nb,i * 5+3,none⟩=some u3∧w1.cell? ⟨nb,i * 5+4,none⟩=some u4)∧∀ o,w1.frozen? ⟨nb,o,none⟩=false:=by
 obtain ⟨cs,h1', h2⟩:=p.blk
 have h1:=hs.at0 h1'
 have t:∀ o,o<cs.size→w1.cell? ⟨nb,o,none⟩=some cs[o]! := fun o ho=>by rw [cellAt h1];simp [ho]
 exact ⟨⟨_,_,_,_,_,t _ (by omega),t _ (by omega),t _ (by omega),t _ (by omega),t _ (by omega)⟩,fun o=>frozenAt h1 o⟩
theorem NwI.put {N:Nat} {w5 wr:World} {nb n k:Nat} {l:List Nd} (h:NwI N w5 wr nb n l k) (hk:k<n) (hl:k<l.length) {w1 w2:World} (k1:Same0 wr w1) {y:Nd} {bo:Option Addr} {bc:Nat}
  (k2:Same0 (put5 w1 nb (k * 5) (.int .i64 y.1) (.slice bo y.2.1.length bc) (.int .i64 y.2.2.1) (.bool y.2.2.2.1) (.int .i64 y.2.2.2.2)) w2) {m:List Int} {mo:Option Addr} {mc:Nat} (ha:ArgT w2 mo m mc) (hb:∀ a,mo=some a→N≤a.block) (hx:l[k]=(y.1,m,y.2.2)) :
  NwI N w5 (w2.setCell ⟨nb,k * 5+1,none⟩ (.slice mo m.length mc)) nb n l (k+1)∧w2.cell? ⟨nb,k * 5+1,none⟩=some (.slice bo y.2.1.length bc)∧w2.frozen? ⟨nb,k * 5+1,none⟩=false∧Kept (fun k=>k=nb) wr (w2.setCell ⟨nb,k * 5+1,none⟩ (.slice mo m.length mc)):=by
 obtain ⟨cs,c1,c2⟩:=h.blk
 have c3:=k2.at0 (put5_at (v0:=.int .i64 y.1) (v1:=.slice bo y.2.1.length bc) (v2:=.int .i64 y.2.2.1) (v3:=.bool y.2.2.2.1) (v4:=.int .i64 y.2.2.2.2) (off:=k * 5) (k1.at0 c1))
 have c4:=setAt c3 (k * 5+1) (.slice mo m.length mc)
 have K:Kept (fun k=>k=nb) wr (w2.setCell ⟨nb,k * 5+1,none⟩ (.slice mo m.length mc)):=by
  refine Kept.setCell (S:=fun k=>k=nb) ?_ (p:=⟨nb,k * 5+1,none⟩) (fun _=>rfl) _
  exact ((Kept.mono k1 (fun _ _ f=>f.elim)).trans (put5_kept w1 nb (k * 5) _ _ _ _ _) (fun _ _ e=>e)).trans k2 (fun _ _ f=>f.elim)
 have gi:∀ j,j=nb→NotI wr j:=fun j e cur q=>by rw [e,c1] at q;cases q
 have gi2:∀ j,j=nb→NotI w2 j:=fun j e cur q=>by rw [e,c3] at q;cases q
 have K2:Kept (fun k=>k=nb) w2 (w2.setCell ⟨nb,k * 5+1,none⟩ (.slice mo m.length mc)):=Kept.setCell (S:=fun k=>k=nb) (Kept.refl _ _) (p:=⟨nb,k * 5+1,none⟩) (fun _=>rfl) _
 have e1:l[k].1=y.1:=by rw [hx]
 have e2:l[k].2.1=m:=by rw [hx]
 have e3:l[k].2.2=y.2.2:=by rw [hx]
 refine ⟨⟨⟨_,c4,by simpa using c2⟩,fun i hi hik=>?_,h.kept.trans K (fun _ _ e=>e)⟩,?_,frozenAt c3 _,K⟩
 ·by_cases e:i=k
  ·subst e
   refine ⟨mo,mc,?_,?_,?_,?_,?_,by rw [e2];exact ha.kept K2 gi2,hb⟩ <;> rw [cellAt c4] <;> simp [Array.getElem?_setIfInBounds,e1,e2,e3] <;> omega
  ·obtain ⟨ao,ac,n0,n1,n2,n3,n4,n5,n6⟩:=h.each i hi (by omega)
   have t:∀ o,o<k * 5→(w2.setCell ⟨nb,k * 5+1,none⟩ (.slice mo m.length mc)).cell? ⟨nb,o,none⟩=wr.cell? ⟨nb,o,none⟩:=fun o ho=>by
    rw [cellAt c4,cellAt c1,Array.getElem?_setIfInBounds,if_neg (by omega),Array.getElem?_setIfInBounds,if_neg (by omega),Array.getElem?_setIfInBounds,if_neg (by omega),Array.getElem?_setIfInBounds,if_neg (by omega),Array.getElem?_setIfInBounds,if_neg (by omega),Array.getElem?_setIfInBounds,if_neg (by omega)]
   exact ⟨ao,ac,(t _ (by omega)).trans n0,(t _ (by omega)).trans n1,(t _ (by omega)).trans n2,(t _ (by omega)).trans n3,(t _ (by omega)).trans n4,n5.kept K gi,n6⟩
 ·rw [cellAt c3]
  simp [Array.getElem?_setIfInBounds]
  omega
def ClQ (l:List Nd) (R:List Int) (h g room:Nat) (w:World) (e:Ending) (w' : World):Prop:=
 ∃ v R' L l', e=.returned (.tuple #[v,.int .i64 ((l.length:Int)-(L.length:Int)),.int .i64 0])∧KL l R L∧Sld l L l' ∧ Rts l L R R' ∧ Row w.heap.size w' v R' ∧ HpB (fun b=>w.heap.size≤b∧v.ownBlock≠some b) w' h g room l' ∧ Kept (fun k=>k=h∨k=g) w w'
set_option maxHeartbeats 4000000 in
theorem coll_yes {B:Nat→Prop} {w:World} {h g room:Nat} {l:List Nd} (p:HpB B w h g room l) {ao:Option Addr} {R:List Int} {ac:Nat} (hx:Arg w ao R ac) (hR:∀ r∈R,0≤r∧r<(l.length:Int)) (hap:R≠[]→∀ a,ao=some a→a.block≠h∧a.block≠g) :
  Calls Try.prog 34 #[.pointer (some ⟨h,0,none⟩),.slice ao R.length ac] w fun e w' => ClQ l R h g room w e w' := by
 obtain ⟨i,hi,hz0,hz1,hz2⟩:=info_parts info_intT
 obtain ⟨j,hj,hy0,hy1,hy2⟩:=info_parts info_node
 have C:=srefusal_any p ac hx.at' (by have:=hx.size;omega)
 rw [sRef_yes hR] at C
 have CW:=whatIs_any p hx.l hR
 have HW:Hid (Wf l):=⟨p.may,p.ac⟩
 have HP:Hid (∀ ww,Same0 w ww→HpB B ww h g room l):=fun ww hk=>p.same hk
 have HX:Hid (Arg w ao R ac∧(∀ r∈R,0≤r∧r<(l.length:Int))∧(R≠[]→∀ a,ao=some a→a.block≠h∧a.block≠g)):=⟨hx,hR,hap⟩
 have hle:=p.le
 have hrm:=p.rm2
 have hh:=p.ltH
 have hg:=p.ltG
 obtain ⟨N,hN⟩:∃ N,N=w.heap.size:=⟨_,rfl⟩
 have HN:Hid (N=w.heap.size):=hN
 rw [← hN] at hh hg
 have r0:(0:Int)≤(room:Int):=by omega
 have r1:(room:Int)≤4000:=by omega
 clear p hx hR hap hN
 go_enter Try.func34,Try.ntmps34
 go_upto_region 6 with (first | (go_at_call 62;refine C.mono ?_;rintro e w' ⟨rfl,hw⟩;have hw:=hw.symm;subst hw) | (go_at_call 64;refine CW.mono ?_;rintro e w1 ⟨ib,s,rfl,hib,hr,hsn,his,hk1⟩;have CK:=skept_any (HP.out w1 hk1) hr hsn hle) | (go_at_call 63;refine CK.mono ?_;rintro e w2 ⟨v,rfl,hv,hk2⟩))
 have kl:=his.kl
 have hLl:=keptL_len l.length s
 generalize hL:keptL l.length s=L at *
 clear hL
 have hLr:∀ a∈L,a<room:=fun a ha=>Nat.lt_of_lt_of_le ((kl.2 a).1 ha).1.1 hle
 obtain ⟨sld,mok⟩:=newL_sld HW.out his kl hLr
 have rok:=mv_ok his kl hLr (fun z hz=>(HX.out.2.1 z hz).1) (fun z hz=>his.root z hz)
 obtain ⟨vo,vc,e⟩:=row_shape hv
 rw [ofN_len'] at e
 subst e
 have HL:Hid (KL l R L∧Sld l L (newL s (thC room L L.length) l L)∧(∀ a (ha:a∈L),∃ hl:a<l.length,MvOk s (thC room L L.length) l[a].2.1)∧MvOk s (thC room L L.length) R∧Rts l L R (mvL s (thC room L L.length) R)):=⟨kl,sld,mok,rok.1,rok.2⟩
 have HLR:Hid (∀ a∈L,a<room):=hLr
 obtain ⟨n,hn⟩:∃ n,n=L.length:=⟨_,rfl⟩
 have HNL:Hid (n=L.length):=hn
 rw [← hn] at hLl hv ⊢
 have n4:n≤4000:=by omega
 have K2:Same0 w w2:=hk1.trans' hk2
 have H2:Hid (Row N w2 (.slice (some ⟨ib,0,none⟩) room room) s∧s.length=room∧Row N w2 (.slice vo n vc) (ofN L)∧N≤ib∧ib<w2.heap.size∧Same0 w w2):=⟨by have h1:=hk2.row hr (fun _ _ f=>f);rw [← HN.out] at h1;exact h1,hsn,row_mono hv (by have:=hk1.size;have:=HN.out;omega),by have:=HN.out;omega,by have:=(hr.lt ib rfl).2;have:=hk2.size;omega,K2⟩
 clear kl sld mok rok hLr hn hv hr hsn his hib hk1 hk2 CK CW C K2
 go_upto_region 8 with (first | (at_make;refine wpList_make_full _ rfl _ _ 31 rfl _ 3 i _ 1 Try.underlying31 hi hz0 hz1 _ _ _ _ room rfl rfl rfl rfl (by rw [hz2];omega) (by unfold maxLen;omega) (Nat.le_refl _) ?_;intro w3 hown hgrow))
 rw [made_nums] at hown
 have K3:Same0 w2 w3:=Same0.grown (Kept.refl _ w2) hgrow
 obtain ⟨tb,htb⟩:∃ tb,tb=w2.heap.size:=⟨_,rfl⟩
 rw [← htb]
 have hib:ib<tb:=by have:=H2.out.2.2.2.2.1;omega
 have R0:Hid (Row N w3 (.slice (some ⟨tb,0,none⟩) room room) (thC room L 0)∧Kept (fun k=>k=tb) w2 w3):=by
  refine ⟨?_,Kept.mono K3 (fun _ _ f=>f.elim)⟩
  show Row _ _ _ (List.replicate room 0)
  rw [htb]
  refine row_mono ?_ (show N≤w2.heap.size by have:=H2.out.2.2.2.2.1;have:=H2.out.2.2.2.1;omega)
  rw [List.length_replicate]
  exact hown
 have HTB:Hid (tb=w2.heap.size):=htb
 clear hown hgrow htb K3
 go_loopw [34] (fun v34 wr=>∃ k:Nat,k≤n∧v34=.int .i64 (k:Int)∧Hid (Row N wr (.slice (some ⟨tb,0,none⟩) room room) (thC room L k)∧Kept (fun k=>k=tb) w2 wr)) (fun v34 _=>n-(intOf v34).toNat)
 case atStart=>exact ⟨0,Nat.zero_le _,rfl,R0⟩
 case round=>
  clear R0
  obtain ⟨k,hk,rfl,HR⟩:=hrel
  have cL:∀ k,(hk:k<L.length)→∃ lb lo,vo=some ⟨lb,lo,none⟩∧lb<w2.heap.size∧w2.cell? ⟨lb,lo+k,none⟩=some (.int .i64 (L[k]:Int)):=fun k hk=>by
   obtain ⟨ao', ac', e,h1,h2,h3⟩:=H2.out.2.2.1.ints
   simp only [Value.slice.injEq] at e
   obtain ⟨rfl,_,_⟩:=e
   obtain ⟨lb,lo,e1,hlt,hc⟩:=h1.get (i:=k) (by rw [ofN_len'];exact hk)
   rw [ofN_at] at hc
   exact ⟨lb,lo,e1,hlt,hc⟩
  by_cases hlt:k<n
  ·have hkL:k<L.length:=by rw [← HNL.out];exact hlt
   obtain ⟨lb,lo,e,hlb,cl⟩:=cL k hkL
   subst e
   have cl' := (HR.out.2.cell (p:=⟨lb,lo+k,none⟩) hlb (by have:=HTB.out;simp only;omega)).trans cl
   have har:=HLR.out _ (List.getElem_mem hkL)
   obtain ⟨ov,cm,fm⟩:∃ ov,wr.cell? ⟨tb,L[k],none⟩=some ov∧wr.frozen? ⟨tb,L[k],none⟩=false:=by
    obtain ⟨cm,fm, -, -⟩:=row_at HR.out.1 (i:=L[k]) (by rw [thC_len];exact har)
    exact ⟨_,cm,fm⟩
   have HR1:Hid (Row N (wr.setCell ⟨tb,L[k],none⟩ (.int .i64 (k:Int))) (.slice (some ⟨tb,0,none⟩) room room) (thC room L (k+1))∧Kept (fun k=>k=tb) w2 (wr.setCell ⟨tb,L[k],none⟩ (.int .i64 (k:Int)))):=by
    refine ⟨?_,Kept.setCell (S:=fun k=>k=tb) HR.out.2 (p:=⟨tb,L[k],none⟩) (fun _=>rfl) _⟩
    have e:L.getD k 0=L[k]:=by rw [List.getD_eq_getElem?_getD,List.getElem?_eq_getElem hkL];rfl
    show Row _ _ _ ((thC room L k).set (L.getD k 0) (k:Int))
    rw [e]
    exact rowI_put HR.out.1 _ _
   generalize L[k]=a at *
   have j3:(0:Int)≤(a:Int):=by omega
   have j4:(a:Int)<(room:Int):=by omega
   have j5:(0:Int)≤(k:Int):=by omega
   have j6:(k:Int)<(n:Int):=by omega
   have j7:(n:Int)≤4000:=by omega
   clear cl cL HR har
   go_wp2
   go_roundw
   case rel=>exact ⟨k+1,by omega,by go_num,HR1⟩
   case measure=>simp [intOf];omega
  ·have e:n=k:=by omega
   subst e
   have HR:Hid (Row N wr (.slice (some ⟨tb,0,none⟩) room room) (thC room L L.length)∧Kept (fun k=>k=tb) w2 wr):=by rw [← HNL.out];exact HR
   have j7:(n:Int)≤4000:=by omega
   have j8:(0:Int)≤(n:Int):=by omega
   clear hlt hk
   go_upto_region 14 with (first | (at_make;refine wpList_make_full _ rfl _ _ 32 rfl _ 47 j _ 5 Try.underlying32 hj hy0 hy1 _ _ _ _ n rfl rfl rfl rfl (by rw [hy2];omega) (by unfold maxLen;omega) (Nat.le_refl _) ?_;intro w5 hown hgrow))
   have K5:Same0 wr w5:=Same0.grown (Kept.refl _ wr) hgrow
   obtain ⟨nb,hnb⟩:∃ nb,nb=wr.heap.size:=⟨_,rfl⟩
   rw [← hnb] at hown ⊢
   have KW0:Same0 w wr:=H2.out.2.2.2.2.2.trans HR.out.2 (fun k hk e=>by have:=HTB.out;have:=H2.out.2.2.2.2.2.size;omega)
   have KW:Same0 w w5:=KW0.trans' K5
   have hnb2:w2.heap.size≤nb:=by rw [hnb];exact HR.out.2.size
   have htb2:tb<nb:=by rw [hnb];exact ((HR.out.1).lt tb rfl).2
   obtain ⟨t,ht⟩:∃ t,t=thC room L L.length:=⟨_,rfl⟩
   have htl:t.length=room:=by rw [ht,thC_len]
   rw [← ht] at HL HR
   have H5:Hid (Row N w5 (.slice (some ⟨ib,0,none⟩) room room) s∧s.length=room∧Row N w5 (.slice vo n vc) (ofN L)∧Row N w5 (.slice (some ⟨tb,0,none⟩) room room) t∧t.length=room∧HpB B w5 h g room l∧Same0 w w5):=by
    refine ⟨?_,H2.out.2.1,?_,K5.row HR.out.1 (fun _ _ f=>f),htl,HP.out w5 KW,KW⟩
    ·exact K5.row (HR.out.2.row H2.out.1 (fun k e q=>by have:ib=k:=Option.some.inj e;omega)) (fun _ _ f=>f)
    ·exact K5.row (HR.out.2.row H2.out.2.2.1 (fun k e q=>by have:=(H2.out.2.2.1.lt k e).2;have:=HTB.out;omega)) (fun _ _ f=>f)
   have hNb:N≤nb:=by have:=H2.out.2.2.2.1;omega
   have HI0:Hid (NwI N w5 w5 nb n (newL s t l L) 0):=by
    refine ⟨?_,fun i hi h0=>absurd h0 (Nat.not_lt_zero _),Kept.refl _ _⟩
    rcases hown.2 with ⟨e,_⟩ | ⟨g', cap,cur,e,hb,hgc,_,_,hsz,_⟩
    ·cases e
    ·simp only [Value.slice.injEq,Option.some.injEq,Addr.mk.injEq,and_true,true_and] at e
     obtain ⟨rfl,rfl⟩:=e
     exact ⟨cur,hgc,hsz⟩
   have hvo:Hid (∀ k,(hk:k<L.length)→∃ lb lo,vo=some ⟨lb,lo,none⟩∧lb<nb∧lb<w5.heap.size∧w5.cell? ⟨lb,lo+k,none⟩=some (.int .i64 (L[k]:Int))):=fun k hk=>by
    obtain ⟨lb,lo,e,hlt,hc⟩:=cL k hk
    have c2:=(K5.cell (p:=⟨lb,lo+k,none⟩) (Nat.lt_of_lt_of_le hlt HR.out.2.size) (fun f=>f)).trans ((HR.out.2.cell (p:=⟨lb,lo+k,none⟩) hlt (by have:=HTB.out;simp only;omega)).trans hc)
    exact ⟨lb,lo,e,by omega,by have:=K5.size;have:=HR.out.2.size;omega,c2⟩
   have HNB:Hid (NotI w5 nb∧ib<nb∧tb<nb):=⟨fun cur hc=>(by obtain ⟨cs,c1,_⟩:=HI0.out.blk;rw [c1] at hc;cases hc),by omega,htb2⟩
   clear hown hgrow hnb cL HR ht K5 KW KW0 H2 HTB
   go_loopw [49] (fun v49 wr=>∃ k:Nat,k≤n∧v49=.int .i64 (k:Int)∧Hid (NwI N w5 wr nb n (newL s t l L) k)) (fun v49 _=>n-(intOf v49).toNat)
   case atStart=>exact ⟨0,Nat.zero_le _,rfl,HI0⟩
   case round=>
    clear HI0
    obtain ⟨k,hk,rfl,HI⟩:=hrel
    by_cases hlt:k<n
    ·have hkL:k<L.length:=by rw [← HNL.out];exact hlt
     obtain ⟨lb,lo,e,hlb,hlb2,cl⟩:=hvo.out k hkL
     subst e
     have cl' := (HI.out.kept.cell (p:=⟨lb,lo+k,none⟩) hlb2 (by simp only;omega)).trans cl
     obtain ⟨a,ha⟩:∃ a,L[k]? = some a:=⟨L[k],List.getElem?_eq_getElem hkL⟩
     rw [show L[k]=a from (List.getElem?_eq_some_iff.1 ha).2] at cl'
     obtain ⟨hal,mok⟩:=HL.out.2.2.1 a (List.mem_of_getElem? ha)
     have hnl:=newL_at (s:=s) (t:=t) ha hal
     obtain ⟨hnk,hne⟩:=List.getElem?_eq_some_iff.1 hnl
     have pr:HpB B wr h g room l:=H5.out.2.2.2.2.2.1.kept HI.out.kept (by omega) (by omega) (fun q hB e=>by subst e;exact HNB.out.1)
     have CA:=hat_yes pr a hal
     have hfew:(l[a]).2.1.length≤6:=(may_facts (HW.out.1 _ (List.getElem_mem hal))).2.1
     generalize l[a]=X at *
     have HM:Hid (MvOk s t X.2.1∧(newL s t l L)[k]=newN s t X∧X.2.1.length≤6):=⟨mok,hne,hfew⟩
     obtain ⟨⟨u0,u1,u2,u3,u4,d0,d1,d2,d3,d4⟩,fz⟩:=HI.out.there (Kept.refl _ wr) hlt
     have j3:(0:Int)≤(a:Int):=by omega
     have j5:(0:Int)≤(k:Int):=by omega
     have j6:(k:Int)<(n:Int):=by omega
     have HT:Hid (∀ w1,Same0 wr w1→(∃ u0 u1 u2 u3 u4,w1.cell? ⟨nb,k * 5,none⟩=some u0∧w1.cell? ⟨nb,k * 5+1,none⟩=some u1∧w1.cell? ⟨nb,k * 5+2,none⟩=some u2∧w1.cell? ⟨nb,k * 5+3,none⟩=some u3∧w1.cell? ⟨nb,k * 5+4,none⟩=some u4)∧∀ o,w1.frozen? ⟨nb,o,none⟩=false):=fun w1 hs=>HI.out.there hs hlt
     obtain ⟨x0,x1,x2,x3,x4⟩:=X
     clear cl mok hnl hne pr hfew d0 d1 d2 d3 d4 fz
     go_upto_region 17 with (first | (go_at_call 42;refine CA.mono ?_;rintro e w6 ⟨bo,bc,rfl,hA,hAb,hk6⟩;obtain ⟨⟨u0,u1,u2,u3,u4,d0,d1,d2,d3,d4⟩,fz⟩:=HT.out w6 hk6;obtain ⟨f0,f1,f2,f3,f4⟩:=(⟨fz _,fz _,fz _,fz _,fz _⟩:w6.frozen? ⟨nb,k * 5,none⟩=false∧w6.frozen? ⟨nb,k * 5+1,none⟩=false∧w6.frozen? ⟨nb,k * 5+2,none⟩=false∧w6.frozen? ⟨nb,k * 5+3,none⟩=false∧w6.frozen? ⟨nb,k * 5+4,none⟩=false);clear fz))
     obtain ⟨W7,hW7⟩:∃ W7,W7=put5 w6 nb (k * 5) (.int .i64 x0) (.slice bo x1.length bc) (.int .i64 x2) (.bool x3) (.int .i64 x4):=⟨_,rfl⟩
     have hW7' := hW7
     unfold put5 at hW7'
     rw [← hW7']
     have K7:Kept (fun k=>k=nb) w6 W7:=by rw [hW7];exact put5_kept _ _ _ _ _ _ _ _
     have K67:Kept (fun k=>k=nb) w5 W7:=(HI.out.kept.trans hk6 (fun _ _ f=>f.elim)).trans K7 (fun _ _ e=>e)
     have hA7:ArgT W7 bo x1 bc:=hA.kept' K7 (fun ad e q=>by
      obtain ⟨cur,hc⟩:=hA.2 ad e
      obtain ⟨cs,c1,_⟩:=HI.out.blk
      rw [q,hk6.at0 c1] at hc;cases hc)
     have CM:=moved_any hA7.1 (K67.row H5.out.1 (fun q e=>by have e1:ib=q:=Option.some.inj e;have:=HNB.out.2.1;omega)) H5.out.2.1 (K67.row H5.out.2.2.2.1 (fun q e=>by have e1:tb=q:=Option.some.inj e;have:=HNB.out.2.2;omega)) H5.out.2.2.2.2.1 HM.out.1
     have c7:W7.cell? ⟨nb,k * 5+1,none⟩=some (.slice bo x1.length bc):=by
      obtain ⟨cs,c1,c2⟩:=HI.out.blk
      rw [hW7]
      exact (put5_new (hk6.at0 c1) (by omega)).2.1
     have HPUT:Hid (∀ w8 mb,Same0 W7 w8→Row W7.heap.size w8 (.slice (some ⟨mb,0,none⟩) x1.length x1.length) (mvL s t x1)→W7.heap.size≤mb→NwI N w5 (w8.setCell ⟨nb,k * 5+1,none⟩ (.slice (some ⟨mb,0,none⟩) x1.length x1.length)) nb n (newL s t l L) (k+1)∧w8.cell? ⟨nb,k * 5+1,none⟩=some (.slice bo x1.length bc)∧w8.frozen? ⟨nb,k * 5+1,none⟩=false):=fun w8 mb h1 h2 h3=>by
      have hml:(mvL s t x1).length=x1.length:=by simp [mvL]
      obtain ⟨mo,mc,e,hm1,hm2⟩:=h2.arg (by rw [hml];have:=HM.out.2.2;omega)
      rw [hml] at e
      simp only [Value.slice.injEq] at e
      obtain ⟨rfl, -,rfl⟩:=e
      rw [hW7] at h1
      have:=NwI.put (y:=(x0,x1,x2,x3,x4)) HI.out hlt hnk hk6 h1 hm1 (fun ad e=>by cases e;have:=K67.size;have h5:=H5.out.2.2.2.2.2.2.size;have:=HN.out;simp only;omega) HM.out.2.1
      rw [hml] at this
      exact ⟨this.1,this.2.1,this.2.2.1⟩
     clear hW7 hW7' K7 K67 hA hAb hA7 hk6 CA d0 d1 d2 d3 d4 f0 f1 f2 f3 f4
     go_wp2_with (first | (go_at_call 67;refine CM.mono ?_;rintro e w8 ⟨mb,rfl,hmb,hr8,hk8⟩;obtain ⟨hnw,c8,f8⟩:=HPUT.out w8 mb hk8 hr8 hmb))
     have HNW:Hid (NwI N w5 (w8.setCell ⟨nb,k * 5+1,none⟩ (.slice (some ⟨mb,0,none⟩) x1.length x1.length)) nb n (newL s t l L) (k+1)):=hnw
     go_roundw
     case rel=>exact ⟨k+1,by omega,by go_num,HNW⟩
     case measure=>simp [intOf];omega
    ·have e:n=k:=by omega
     subst e
     have pr:HpB B wr h g room l:=H5.out.2.2.2.2.2.1.kept HI.out.kept (by omega) (by omega) (fun q hB e=>by subst e;exact HNB.out.1)
     have CU:=used_any pr
     have hnl:(newL s t l L).length=n:=by rw [HNL.out];simp [newL]
     have hwf:=(HL.out.2.1.wf HW.out HL.out.1).1
     have CF:=refill_yes (ac:=n) (ao:=some ⟨nb,0,none⟩) (l' := newL s t l L) pr (.inr ⟨nb,0,rfl,by obtain ⟨cs,c1,_⟩:=HI.out.blk;exact lt_of_at c1,by omega,fun q hq=>by
      obtain ⟨xo,xc,n0,n1,n2,n3,n4,n5,n6⟩:=HI.out.each q hq (by omega)
      rw [Nat.zero_add]
      exact ⟨xo,xc,n0,n1,n2,n3,n4,n5.1,fun _ ad e=>by have:=n6 ad e;omega⟩⟩) (.inr (.inr (.inr ⟨by omega,List.all_eq_true.2 hwf.1,hwf.2,rfl⟩)))
     rw [hnl] at CF
     have HE:Hid (∀ w7,HpB (fun b=>wr.heap.size≤b) w7 h g room (newL s t l L)→Kept (fun k=>k=h∨k=g) wr w7→(Calls Try.prog 67 #[.slice ao R.length ac,.slice (some ⟨ib,0,none⟩) room room,.slice (some ⟨tb,0,none⟩) room room] w7 fun e w' => ∃ mb,e=.returned (.slice (some ⟨mb,0,none⟩) R.length R.length)∧w7.heap.size≤mb∧Row w7.heap.size w' (.slice (some ⟨mb,0,none⟩) R.length R.length) (mvL s t R)∧Same0 w7 w')∧∀ mb w9,Row w7.heap.size w9 (.slice (some ⟨mb,0,none⟩) R.length R.length) (mvL s t R)→Same0 w7 w9→ClQ l R h g room w (.returned (.tuple #[.slice (some ⟨mb,0,none⟩) R.length R.length,.int .i64 ((l.length:Int)-(n:Int)),.int .i64 0])) w9):=by
      intro w7 p7 k7
      have hN:=HN.out
      have k5:=H5.out.2.2.2.2.2.2
      have k57:Kept (fun k=>k=nb∨k=h∨k=g) w5 w7:=(Kept.mono HI.out.kept (fun _ _ e=>.inl e)).trans k7 (fun _ _ e=>.inr e)
      have k07:Kept (fun k=>k=h∨k=g) w w7:=((Kept.mono k5 (fun _ _ f=>f.elim)).trans HI.out.kept (fun q hq e=>by omega)).trans k7 (fun _ _ e=>e)
      have a7:Arg w7 ao R ac:=by
       refine ⟨?_,HX.out.1.cap', HX.out.1.nil,HX.out.1.size⟩
       by_cases e:R=[]
       ·exact .inl e
       ·exact HX.out.1.at'.kept k07 (fun ad q x=>by have:=HX.out.2.2 e ad q;omega)
      have hnb:=HNB.out
      refine ⟨moved_any a7 (k57.row H5.out.1 (fun q e x=>by have e1:ib=q:=Option.some.inj e;have:=(H5.out.1.lt ib rfl).1;omega)) H5.out.2.1 (k57.row H5.out.2.2.2.1 (fun q e x=>by have e1:tb=q:=Option.some.inj e;have:=(H5.out.2.2.2.1.lt tb rfl).1;omega)) H5.out.2.2.2.2.1 HL.out.2.2.2.1,fun mb w9 hr9 hk9=>?_⟩
      have hsz:w.heap.size≤wr.heap.size:=Nat.le_trans k5.size HI.out.kept.size
      refine ⟨_,mvL s t R,L,newL s t l L,by rw [HNL.out],HL.out.1,HL.out.2.1,HL.out.2.2.2.2,row_mono hr9 k07.size,(p7.mono (fun q hq1 _ hq=>⟨Nat.le_trans hsz hq,fun e=>by have e1:mb=q:=Option.some.inj e;have:=(hr9.lt mb rfl).1;omega⟩)).same hk9,k07.trans hk9 (fun _ _ f=>f.elim)⟩
     have j9:(l.length:Int)≤4000:=by omega
     have j10:(0:Int)≤(l.length:Int):=by omega
     have j11:(n:Int)≤(l.length:Int):=by omega
     clear pr hnl hwf HI HL HX H5
     go_wp2_with (first | (go_at_call 24;refine CU.mono ?_;rintro e w' ⟨rfl,hw'⟩;have hw' := hw'.symm;subst hw') | (go_at_call 57;refine CF.mono ?_;rintro e w7 ⟨rfl,p7,k7⟩;obtain ⟨CM,FIN⟩:=HE.out w7 p7 k7;have HF:=(show Hid _ from FIN);clear FIN) | (go_at_call 67;refine CM.mono ?_;rintro e w9 ⟨mb,rfl,hmb,hr9,hk9⟩))
     have RES:=HF.out mb w9 hr9 hk9
     exact bodyPost_ret (v:=.tuple #[.slice (some ⟨mb,0,none⟩) R.length R.length,.int .i64 ((l.length:Int)-(n:Int)),.int .i64 0]) (by simp [results,Try.results34,go_sem]) rfl RES
structure RhB (B:Nat→Prop) (w:World) (r room:Nat) (v:Value) (l:List Nd):Prop where
 box:w.heap[r]? = some (.cells #[.int .i64 (room:Int),v] 63 (0,0))
 row:NRow B 0 w v l
 rm1:1≤room
 rm2:room≤4000
 le:l.length≤room
 may:∀ x∈l,mayB l.length x=true
 ac:Ac l
theorem RhB.lt {B:Nat→Prop} {w:World} {r room:Nat} {v:Value} {l:List Nd} (p:RhB B w r room v l):r<w.heap.size:=lt_of_at p.box
theorem RhB.noti {B:Nat→Prop} {w:World} {r room:Nat} {v:Value} {l:List Nd} (p:RhB B w r room v l):NotI w r:=fun cur h=>by rw [p.box] at h;cases h
theorem RhB.inl {B:Nat→Prop} {w:World} {r room:Nat} {v:Value} {l:List Nd} (p:RhB B w r room v l):InL l:=inl_of_may p.may
theorem RhB.cells {B:Nat→Prop} {w:World} {r room:Nat} {v:Value} {l:List Nd} (p:RhB B w r room v l):w.cell? ⟨r,0,none⟩=some (.int .i64 (room:Int))∧w.cell? ⟨r,1,none⟩=some v:=⟨cellAt p.box 0,cellAt p.box 1⟩
theorem RhB.kept {B S:Nat→Prop} {w w' : World} {r room:Nat} {v:Value} {l:List Nd} (p:RhB B w r room v l) (hk:Kept S w w') (n1:¬ S r) (n2:∀ k,v.ownBlock=some k→¬ S k) (hS:∀ k,B k→S k→NotI w k):RhB B w' r room v l:=
 ⟨hk.at p.box n1,p.row.kept hk n2 hS,p.rm1,p.rm2,p.le,p.may,p.ac⟩
theorem RhB.same {B:Nat→Prop} {w w' : World} {r room:Nat} {v:Value} {l:List Nd} (p:RhB B w r room v l) (hk:Same0 w w'):RhB B w' r room v l:=p.kept hk (fun f=>f) (fun _ _ f=>f) (fun _ _ f=>f.elim)
theorem RhB.mem {B:Nat→Prop} {w:World} {r room:Nat} {v:Value} {l:List Nd} (p:RhB B w r room v l):∃ ao cap,v=.slice ao l.length cap∧NsM B w ao l:=by
 obtain ⟨ao,cap,rfl⟩:=p.row.shape
 exact ⟨ao,cap,rfl,p.row.mem⟩
set_option maxHeartbeats 1000000 in
theorem rnew_yes (n:Nat) (w:World) (h1:1≤n) (h2:n≤4000):Calls Try.prog 16 #[.int .i64 (n:Int)] w fun e w' => ∃ r,e=.returned (.tuple #[.pointer (some ⟨r,0,none⟩),.int .i64 0])∧RhB (fun _=>False) w' r n (.slice none 0 0) []∧Same0 w w' ∧ w.heap.size≤r:=by
 have i1:¬ (n:Int)<1:=by omega
 have i2:¬ (4000:Int)<(n:Int):=by omega
 go_enter Try.func16,Try.ntmps16
 go_wp2
 go_ret2
 exact ⟨w.heap.size,rfl,⟨heap_alloc_new w _,NRow.nil _ _ _,h1,h2,Nat.zero_le _,fun x hx=>absurd hx (by simp),Ac.nil⟩,(Kept.refl _ w).alloc _,Nat.le_refl _⟩
theorem set_box {w:World} {b:Nat} {v0 v1 v2 v3 v4:Value} {t:TypeId} (h:w.heap[b]? = some (.cells #[v0,v1,v2,v3,v4] t (0,0))) (u:Value):(w.setCell ⟨b,1,none⟩ u).heap[b]? = some (.cells #[v0,u,v2,v3,v4] t (0,0)):=setAt h 1 u
set_option maxHeartbeats 2000000 in
theorem rnodes_any {w:World} {ao:Option Addr} {ac:Nat} {l:List Nd} (h:NsW w ao l) (hsz:l.length * 56≤140737488351232) :
  Calls Try.prog 56 #[.slice ao l.length ac] w fun e w' => ∃ v,e=.returned v∧NRow (fun b=>w.heap.size≤b) w.heap.size w' v l∧Same0 w w' := by
 have HX:Hid (∀ ww,Same0 w ww→NsW ww ao l):=fun ww hw=>h.same hw
 have KR:Same0 w w:=Kept.refl _ _
 clear h
 go_enter Try.func56,Try.ntmps56
 go_wp2
 go_loopw [3,4] (fun v i wr=>∃ k:Nat,i=.int .i64 (k:Int)∧k≤l.length∧NRow (fun b=>w.heap.size≤b) w.heap.size wr v (l.take k)∧Same0 w wr) (fun _ i _=>l.length-(intOf i).toNat)
 case atStart=>exact ⟨0,rfl,Nat.zero_le _,NRow.nil _ _ _,KR⟩
 case round=>
  clear KR
  obtain ⟨k,rfl,hk,hrow,hw⟩:=hrel
  obtain ⟨vo,vc,rfl⟩:=hrow.shape
  have hlk:(l.take k).length=k:=by simp;omega
  rw [hlk] at hrow
  by_cases hlt:k<l.length
  ·have j1:(k:Int)<(l.length:Int):=by omega
   have j2:(0:Int)≤(k:Int):=by omega
   rcases HX.out wr hw with e | ⟨nb,noff,e,hnb,hn⟩
   ·rw [e] at hlt;simp at hlt
   subst e
   obtain ⟨xo,xc,n0,n1,n2,n3,n4,n5⟩:=hn k hlt
   have HT:Hid (l.take (k+1)=l.take k ++ [l[k]]):=List.take_succ_eq_append_getElem hlt
   have HLK:Hid ((l.take k).length=k):=hlk
   obtain ⟨W3,hW3⟩:∃ W3,W3=wr.alloc (.cells #[.int .i64 l[k].1,.slice xo l[k].2.1.length xc,.int .i64 l[k].2.2.1,.bool l[k].2.2.2.1,.int .i64 l[k].2.2.2.2] 47):=⟨_,rfl⟩
   have kb:Same0 wr W3:=by rw [hW3];exact (Kept.refl _ _).alloc _
   have hbx:W3.heap[wr.heap.size]? = some (.cells #[.int .i64 l[k].1,.slice xo l[k].2.1.length xc,.int .i64 l[k].2.2.1,.bool l[k].2.2.2.1,.int .i64 l[k].2.2.2.2] 47 (0,0)):=by rw [hW3];exact heap_alloc_new wr _
   obtain ⟨x0,x1,x2,x3,x4⟩:=box5 hbx
   have HBX:Hid (∀ ww,Same0 W3 ww→ww.heap[wr.heap.size]? = some (.cells #[.int .i64 l[k].1,.slice xo l[k].2.1.length xc,.int .i64 l[k].2.2.1,.bool l[k].2.2.2.1,.int .i64 l[k].2.2.2.2] 47 (0,0))):=fun ww hk=>hk.at0 hbx
   have CC:=rcopied_any (n5.onto kb)
   rw [hlk]
   clear n5 hn hlk hbx
   go_upto_region 6 with fail
   rw [← hW3]
   clear hW3 n0 n1 n2 n3 n4
   go_upto_region 7 with (first | (go_at_call 72;refine CC.mono ?_;rintro e w5 ⟨bo,bc,rfl,ha,hbb,k5⟩;have q5:=HBX.out w5 k5;obtain ⟨u0,u1,u2,u3,u4⟩:=box5 q5;obtain ⟨-,f1, -, -, -⟩:=free5 q5))
   obtain ⟨W6,hW6⟩:∃ W6,W6=w5.setCell ⟨wr.heap.size,1,none⟩ (.slice bo l[k].2.1.length bc):=⟨_,rfl⟩
   rw [← hW6]
   have q6:W6.heap[wr.heap.size]? = some (.cells #[.int .i64 l[k].1,.slice bo l[k].2.1.length bc,.int .i64 l[k].2.2.1,.bool l[k].2.2.2.1,.int .i64 l[k].2.2.2.2] 47 (0,0)):=by rw [hW6];exact set_box q5 _
   obtain ⟨y0,y1,y2,y3,y4⟩:=box5 q6
   have K6:Kept (fun i=>i=wr.heap.size) w5 W6:=by rw [hW6];exact Kept.setCell (S:=fun i=>i=wr.heap.size) (Kept.refl _ _) (p:=⟨wr.heap.size,1,none⟩) (fun _=>rfl) _
   have KW:Same0 wr W6:=(kb.trans' k5).trans K6 (fun i hi e=>by omega)
   have ha6:ArgT W6 bo l[k].2.1 bc:=ha.kept K6 (fun i e cur hc=>by rw [e,q5] at hc;cases hc)
   have hr6:=hrow.same KW
   have hsz6:w.heap.size≤W6.heap.size:=(hw.trans' KW).size
   have hbb' : ∀ b,bo=some b→w.heap.size≤b.block:=fun b e=>Nat.le_trans (Nat.le_trans hw.size kb.size) (hbb b e)
   have kW:=(Kept.refl (fun _=>False) W6).alloc (.cells #[.int .i64 l[k].1,.slice bo l[k].2.1.length bc,.int .i64 l[k].2.2.1,.bool l[k].2.2.2.1,.int .i64 l[k].2.2.2.2] 47)
   have hq:=heap_at_node W6 l[k] bo bc
   have HKK:Hid (∀ ww,Kept (fun i=>(Value.slice vo k vc).ownBlock=some i) W6 ww→Same0 w ww):=fun ww hk=>NRow.onto (hw.trans' KW) hr6 hk
   clear hW6 CC q5 q6 u0 u1 u2 u3 u4 f1 x0 x1 x2 x3 x4 ha hbb k5 kb K6 hrow
   go_wp2_with (first | (at_builtin;refine wpList_nd rfl _ _ rfl w.heap.size (l.take k) _ rfl kW hr6 l[k] bo bc _ rfl hq ha6 hbb' hsz6 (by rw [HLK.out];omega) ?_;rw [HLK.out];intro g4 cap4 w4 hr4 hk4 hor))
   have hr5:NRow (fun b=>w.heap.size≤b) w.heap.size w4 (.slice (some ⟨g4,0,none⟩) (k+1) cap4) (l.take (k+1)):=by rw [HT.out];exact hr4
   have hk5:Same0 w w4:=HKK.out w4 hk4
   go_roundw
   case rel=>first | exact ⟨k+1,by go_num,by omega,hr5,hk5⟩ | ((repeat apply Exists.intro);exact ⟨⟨k+1,by go_num,by omega,hr5,hk5⟩,rfl⟩)
   case measure=>simp [intOf];omega
  ·obtain rfl:k=l.length:=by omega
   rw [List.take_length] at *
   clear hlk
   go_wp2
   go_ret
   exact ⟨_,rfl,hrow,hw⟩
theorem NRow.zero {B:Nat→Prop} {base:Nat} {w:World} {v:Value} {l:List Nd} (h:NRow B base w v l):NRow B 0 w v l:=by
 obtain ⟨vs,h1,h2⟩:=h
 exact ⟨vs,row_mono h1 (Nat.zero_le _),h2⟩
theorem NRow.mono {B B' : Nat→Prop} {base:Nat} {w:World} {v:Value} {l:List Nd} (h:NRow B base w v l) (hB:∀ k,k<w.heap.size→B k→B' k):NRow B' base w v l:=by
 obtain ⟨vs,h1,h2⟩:=h
 exact ⟨vs,h1,h2.mono hB⟩
theorem set_room {w:World} {b:Nat} {v0 v1:Value} {t:TypeId} (h:w.heap[b]? = some (.cells #[v0,v1] t (0,0))) (u:Value):(w.setCell ⟨b,1,none⟩ u).heap[b]? = some (.cells #[v0,u] t (0,0)):=setAt h 1 u
def RfN (w:World) (r room:Nat) (l:List Nd) (E:Int) (w' : World):Prop:=
 (E≠0∧Same0 w w')∨(E=0∧∃ v,RhB (fun b=>w.heap.size≤b) w' r room v l∧Kept (fun k=>k=r) w w' ∧ ∀ k,v.ownBlock=some k→w.heap.size≤k)
set_option maxHeartbeats 2000000 in
theorem rrefill_any {B:Nat→Prop} {w:World} {r room:Nat} {v:Value} {l:List Nd} (p:RhB B w r room v l) {ao:Option Addr} {ac:Nat} {l' : List Nd} (hs:NsW w ao l') (hsz:l'.length≤maxLen) {E:Int} (hE:RfE room l' E) :
  Calls Try.prog 58 #[.pointer (some ⟨r,0,none⟩),.slice ao l'.length ac] w fun e w' => e=.returned (.int .i64 E)∧RfN w r room l' E w' := by
 unfold maxLen at hsz
 obtain ⟨c0,c1⟩:=p.cells
 have hr2:=p.rm2
 have KR:Same0 w w:=Kept.refl _ _
 have HE:Hid (∀ e,RfE room l' e→e=E):=fun e he=>he.uniq hE
 have HP:Hid (∀ ww,Same0 w ww→RhB B ww r room v l):=fun ww hk=>p.same hk
 have HX:Hid (∀ ww,Same0 w ww→NsW ww ao l'):=fun ww hk=>hs.same hk
 clear p hs hE
 by_cases a:room<l'.length
 ·have j1:(room:Int)<(l'.length:Int):=by omega
  obtain rfl:111=E:=HE.out 111 (.inl ⟨a,rfl⟩)
  have KH:Hid (Same0 w w):=KR
  clear KR HE
  go_enter Try.func58,Try.ntmps58
  go_wp2
  go_ret
  exact ⟨rfl,.inl ⟨by decide,KH.out⟩⟩
 ·have j1:¬ (room:Int)<(l'.length:Int):=by omega
  have l0:(0:Int)≤(l'.length:Int):=by omega
  have l1:(l'.length:Int)≤4000:=by omega
  have HA:Hid (l'.length≤room):=by show _≤_;omega
  go_enter Try.func58,Try.ntmps58
  go_upto_region 4 with fail
  clear c0 c1
  go_loopw [5] (fun i wr=>∃ k:Nat,i=.int .i64 (k:Int)∧k≤l'.length∧Hid (∀ j (hj:j<l'.length),j<k→mayB l'.length l'[j]=true)∧Same0 w wr) (fun i _=>l'.length-(intOf i).toNat)
  case atStart=>exact ⟨0,rfl,Nat.zero_le _,fun j _ hj=>absurd hj (Nat.not_lt_zero _),KR⟩
  case round=>
   clear KR
   obtain ⟨k,rfl,hk,hall,hw⟩:=hrel
   by_cases hlt:k<l'.length
   ·have j2:(k:Int)<(l'.length:Int):=by omega
    have j3:(0:Int)≤(k:Int):=by omega
    rcases HX.out wr hw with e | ⟨nb,noff,e,hnb,hn⟩
    ·rw [e] at hlt;simp at hlt
    subst e
    obtain ⟨xo,xc,n0,n1,n2,n3,n4,n5⟩:=hn k hlt
    have CM:=rmay_any n5 l'.length
    have HAF:mayB l'.length l'[k]=false→l'.all (mayB l'.length)=false:=fun e=>by
     rw [Bool.eq_false_iff]
     intro q
     rw [List.all_eq_true] at q
     rw [q _ (List.getElem_mem hlt)] at e
     cases e
    have HN:Hid (mayB l'.length l'[k]=false→114=E):=fun e=>HE.out 114 (.inr (.inl ⟨HA.out,HAF e,rfl⟩))
    clear HAF
    have HY:Hid (mayB l'.length l'[k]=true→Hid (∀ j (hj:j<l'.length),j<k+1→mayB l'.length l'[j]=true)):=fun e j hj hjk=>by
     by_cases q:j=k
     ·subst q;exact e
     ·exact hall.out j hj (by omega)
    clear n5 hn hall
    generalize mayB l'.length l'[k]=R at *
    cases R
    ·obtain rfl:114=E:=HN.out rfl
     clear HN HY HE
     go_wp2_with (first | (go_at_call 76;refine CM.mono ?_;rintro e w5 ⟨rfl,k5⟩))
     go_ret
     exact ⟨rfl,.inl ⟨by decide,hw.trans' k5⟩⟩
    ·have HY2:=HY.out rfl
     clear HN HY
     go_wp2_with (first | (go_at_call 76;refine CM.mono ?_;rintro e w5 ⟨rfl,k5⟩))
     have hw5:=hw.trans' k5
     go_roundw
     case rel=>exact ⟨k+1,by go_num,by omega,HY2,hw5⟩
     case measure=>simp [intOf];omega
   ·obtain rfl:k=l'.length:=by omega
    have hal:l'.all (mayB l'.length)=true:=List.all_eq_true.2 (fun x hx=>by
     obtain ⟨j,hj,rfl⟩:=List.mem_iff_getElem.1 hx
     exact hall.out j hj hj)
    obtain ⟨f1,f2,f3⟩:=few_of_may hal
    have HALL:Hid (l'.all (mayB l'.length)=true):=hal
    have HF1:Hid (∀ x∈l', mayB l'.length x=true):=f1
    have CR:=ring_any (ac:=ac) (HX.out wr hw) f2 f3 (by omega)
    have CN:Hid (∀ ww,Same0 w ww→Calls Try.prog 56 #[.slice ao l'.length ac] ww fun e w' => ∃ v,e=.returned v∧NRow (fun b=>ww.heap.size≤b) ww.heap.size w' v l' ∧ Same0 ww w'):=fun ww hk=>rnodes_any (HX.out ww hk) (by omega)
    clear hall hal f1 f2 f3 HX hk hlt
    go_upto_region 9 with (first | (go_at_call 77;refine CR.mono ?_;rintro e w6 ⟨b,rfl,hb,k6⟩))
    clear CR
    have hw6:=hw.trans' k6
    cases b
    ·have hac:Ac l' := by
      by_cases q:Ac l'
      ·exact q
      ·exact absurd (hb.2 q) (by simp)
     have HAC:Hid (Ac l'):=hac
     obtain rfl:0=E:=HE.out 0 (.inr (.inr (.inr ⟨HA.out,HALL.out,hac,rfl⟩)))
     have C7:=CN.out w6 hw6
     have HP7:Hid (∀ ww,Same0 w6 ww→ww.cell? ⟨r,0,none⟩=some (.int .i64 (room:Int))∧ww.cell? ⟨r,1,none⟩=some v∧ww.frozen? ⟨r,1,none⟩=false):=fun ww hk=>by
      have p7:=HP.out ww (hw6.trans' hk)
      exact ⟨p7.cells.1,p7.cells.2,frozenAt p7.box 1⟩
     clear hb hac HE CN
     go_wp2_with (first | (go_at_call 56;refine C7.mono ?_;rintro e w7 ⟨v7,rfl,hr7,k7⟩;obtain ⟨vo7,vc7,rfl⟩:=hr7.shape;obtain ⟨z0,z1,z2⟩:=HP7.out w7 k7))
     go_ret
     have p7:=HP.out w7 (hw6.trans' k7)
     have K8:Kept (fun k=>k=r) w7 (w7.setCell ⟨r,1,none⟩ (.slice vo7 l'.length vc7)):=Kept.setCell (S:=fun k=>k=r) (Kept.refl _ _) (p:=⟨r,1,none⟩) (fun _=>rfl) _
     have hlt6:r<w6.heap.size:=(HP.out w6 hw6).lt
     refine ⟨rfl,.inr ⟨rfl,_,⟨set_room p7.box _,?_,p7.rm1,p7.rm2,HA.out,HF1.out,HAC.out⟩,(Kept.mono (hw6.trans' k7) (fun _ _ f=>f.elim)).trans K8 (fun _ _ e=>e),fun k e=>Nat.le_trans hw6.size (hr7.block e).1⟩⟩
     exact ((hr7.kept K8 (fun k e q=>by have:=(hr7.block e).1;omega) (fun k _ e=>by rw [e];exact p7.noti)).zero).mono (fun k _ q=>Nat.le_trans hw6.size q)
    ·obtain rfl:113=E:=HE.out 113 (.inr (.inr (.inl ⟨HA.out,HALL.out,hb.1 rfl,rfl⟩)))
     clear hb CN HE
     go_wp2
     go_ret
     exact ⟨rfl,.inl ⟨by decide,hw6⟩⟩
def hasB (n:Nat) (a:Int):Bool:=decide (0≤a) && decide (a<(n:Int))
theorem hasB_yes {n:Nat} {a:Int} (h:0≤a∧a<(n:Int)):hasB n a=true:=by unfold hasB;simp [h]
set_option maxHeartbeats 1000000 in
theorem rhas_any {w:World} {r n cap:Nat} {ao:Option Addr} (c1:w.cell? ⟨r,1,none⟩=some (.slice ao n cap)) (hn:n≤maxLen) (a:Int) :
  Calls Try.prog 65 #[.pointer (some ⟨r,0,none⟩),.int .i64 a] w fun e w' => e=.returned (.bool (hasB n a))∧w' = w:=by
 unfold maxLen at hn
 have HE:Hid (hasB n a=(decide (0≤a) && decide (a<(n:Int)))):=rfl
 generalize hasB n a=R at *
 by_cases h1:0≤a
 ·by_cases h2:a<(n:Int)
  ·have HR:Hid (R=true):=by show _=_;rw [HE.out];simp [h1,h2]
   clear HE
   go_enter Try.func65,Try.ntmps65
   go_wp2
   go_ret
   exact ⟨ret_bool HR.out.symm,rfl⟩
  ·have HR:Hid (R=false):=by show _=_;rw [HE.out];simp [h2]
   clear HE
   go_enter Try.func65,Try.ntmps65
   go_wp2
   go_ret
   exact ⟨ret_bool HR.out.symm,rfl⟩
 ·have HR:Hid (R=false):=by show _=_;rw [HE.out];simp [h1]
  clear HE
  go_enter Try.func65,Try.ntmps65
  go_wp2
  go_ret
  exact ⟨ret_bool HR.out.symm,rfl⟩
set_option maxHeartbeats 2000000 in
theorem rres_yes {w:World} {r cap:Nat} {ao:Option Addr} {l:List Nd} (c1:w.cell? ⟨r,1,none⟩=some (.slice ao l.length cap)) (hs:NsW w ao l) (hn:l.length≤maxLen) (hin:InL l) (hac:Ac l) (i:Nat) (hi:i<l.length) :
  Calls Try.prog 49 #[.pointer (some ⟨r,0,none⟩),.int .i64 (i:Int)] w fun e w' => ∃ b:Nat,e=.returned (.tuple #[.int .i64 (b:Int),.int .i64 0])∧Res l i b∧w' = w:=by
 have C:=rhas_any c1 hn (i:Int)
 rw [hasB_yes (by omega)] at C
 obtain ⟨rk,hr⟩:=hac
 have HR:Hid (∀ i j,Ed l i j→rk j<rk i):=hr
 have HI:Hid (InL l):=hin
 rcases hs with e | ⟨nb,noff,rfl,hnb,hc⟩
 ·subst e;simp at hi
 have HE:Hid (∀ j (hj:j<l.length),∃ xo xc,w.cell? ⟨nb,noff+j * 5,none⟩=some (.int .i64 l[j].1)∧w.cell? ⟨nb,noff+j * 5+1,none⟩=some (.slice xo l[j].2.1.length xc)∧w.cell? ⟨nb,noff+j * 5+2,none⟩=some (.int .i64 l[j].2.2.1)∧w.cell? ⟨nb,noff+j * 5+3,none⟩=some (.bool l[j].2.2.2.1)∧w.cell? ⟨nb,noff+j * 5+4,none⟩=some (.int .i64 l[j].2.2.2.2)∧Arg w xo l[j].2.1 xc):=hc
 unfold maxLen at hn
 clear hr hin hc hnb
 go_enter Try.func49,Try.ntmps49
 go_upto_region 3 with (first | (go_at_call 65;refine C.mono ?_;rintro e w' ⟨rfl,h'⟩;have h' := h'.symm;subst h'))
 clear C
 go_loop [1] (fun v=>∃ a:Nat,a<l.length∧v=.int .i64 (a:Int)∧Hid (∃ k,Ind l k i a)) (fun v=>rk (intOf v).toNat)
 case atStart=>exact ⟨i,hi,rfl,0,rfl⟩
 case round=>
  obtain ⟨a,ha,rfl,hk⟩:=hrel
  obtain ⟨xo,xc,n0,n1,n2,n3,n4, -⟩:=HE.out a ha
  have i1:(0:Int)≤(a:Int):=by omega
  have i2:(a:Int)<(l.length:Int):=by omega
  cases hp:l[a].2.2.2.1
  ·rw [hp] at n3
   have HP:Hid (l[a].2.2.2.1=false):=hp
   clear hp n0 n1 n2 n4
   go_wp2
   go_ret2
   exact ⟨a,rfl,⟨hk.out,ha,HP.out⟩,rfl⟩
  ·rw [hp] at n3
   have HP:Hid (l[a].2.2.2.1=true):=hp
   obtain ⟨m1,m2⟩:=HI.out a ha l[a].2.2.2.2 (by unfold downL;rw [hp];simp)
   obtain ⟨t,ht⟩:∃ t:Nat,l[a].2.2.2.2=(t:Int):=⟨l[a].2.2.2.2.toNat,by omega⟩
   have HT:Hid (l[a].2.2.2.2=(t:Int)):=ht
   rw [ht] at n4
   have hlt:t<l.length:=by omega
   clear hp n0 n1 n2 m1 m2 ht
   go_wp2
   go_round
   case rel=>exact ⟨t,hlt,rfl,by
    obtain ⟨k,hk⟩:=hk.out
    have:=hk.snoc ha HP.out
    rw [HT.out] at this
    exact ⟨k+1,by simpa using this⟩⟩
   case measure=>
    have:=HR.out a t (by have:=ed_ind ha HP.out (by rw [HT.out];omega);rw [HT.out] at this;simpa using this)
    simpa [intOf] using this
structure Un (l:List Nd) (fr:List Int) (s:List Bool) (T:List Int):Prop where
 len:s.length=l.length
 rng:∀ z∈T,0≤z∧z<(l.length:Int)
 snd:∀ x,Mk s x→∃ f∈fr,Rc l f.toNat x
 sndT:∀ z∈T,∃ f∈fr,Rc l f.toNat z.toNat
 cmp:∀ f∈fr,Mk s f.toNat∨f∈T
 cl:∀ x,Mk s x→∀ j,Ed l x j→Mk s j∨(j:Int)∈T
 cnt:T.length+6 * s.count false≤fr.length+6 * l.length
theorem mk_none (n x:Nat):¬ Mk (List.replicate n false) x:=by
 unfold Mk
 rw [List.getElem?_replicate]
 split <;> simp
theorem Un.start {l:List Nd} {fr:List Int} (h:∀ z∈fr,0≤z∧z<(l.length:Int)):Un l fr (List.replicate l.length false) fr:=
 ⟨by simp,h,fun x hx=>absurd hx (mk_none _ _),fun z hz=>⟨z,hz,Rc.refl _ _⟩,fun f hf=>.inr hf,fun x hx=>absurd hx (mk_none _ _),by simp⟩
theorem Un.skip {l:List Nd} {fr:List Int} {s:List Bool} {T:List Int} {x:Nat} (h:Un l fr s (T ++ [(x:Int)])) (hx:Mk s x):Un l fr s T:=by
 refine ⟨h.len,fun z hz=>h.rng z (by simp [hz]),h.snd,fun z hz=>h.sndT z (by simp [hz]),fun f hf=>?_,fun y hy j e=>?_,?_⟩
 ·rcases h.cmp f hf with q | q
  ·exact .inl q
  ·rcases List.mem_append.1 q with q | q
   ·exact .inr q
   ·simp at q;subst q;exact .inl (by simpa using hx)
 ·rcases h.cl y hy j e with q | q
  ·exact .inl q
  ·rcases List.mem_append.1 q with q | q
   ·exact .inr q
   ·have:j=x:=by simp at q;omega
    subst this;exact .inl hx
 ·have:=h.cnt;simp at this;omega
theorem Un.take {l:List Nd} {fr:List Int} {s:List Bool} {T:List Int} {x:Nat} (h:Un l fr s (T ++ [(x:Int)])) (hx:s[x]? = some false) (hl:x<l.length) (hd:(downL l[x]).length≤6) (hin:InL l):Un l fr (s.set x true) (T++downL l[x]):=by
 have hxs:x<s.length:=(List.getElem?_eq_some_iff.1 hx).1
 obtain ⟨f0,hf0,hr0⟩:=h.sndT (x:Int) (by simp)
 rw [Int.toNat_natCast] at hr0
 have hc:=count_set hx
 refine ⟨by simp [h.len],fun z hz=>?_,fun y hy=>?_,fun z hz=>?_,fun f hf=>?_,fun y hy j e=>?_,?_⟩
 ·rcases List.mem_append.1 hz with q | q
  ·exact h.rng z (by simp [q])
  ·exact hin x hl z q
 ·rcases (Mk.set hxs y).1 hy with q | q
  ·exact h.snd y q
  ·subst q;exact ⟨f0,hf0,hr0⟩
 ·rcases List.mem_append.1 hz with q | q
  ·exact h.sndT z (by simp [q])
  ·have:=hin x hl z q
   exact ⟨f0,hf0,hr0.snoc ⟨hl,by rw [Int.toNat_of_nonneg this.1];exact q⟩⟩
 ·rcases h.cmp f hf with q | q
  ·exact .inl ((Mk.set hxs _).2 (.inl q))
  ·rcases List.mem_append.1 q with q | q
   ·exact .inr (by simp [q])
   ·simp at q;subst q;exact .inl ((Mk.set hxs _).2 (.inr (by simp)))
 ·by_cases ey:y=x
  ·subst ey
   exact .inr (List.mem_append.2 (.inr e.2))
  ·rcases (Mk.set hxs y).1 hy with q | q
   ·rcases h.cl y q j e with t | t
    ·exact .inl ((Mk.set hxs _).2 (.inl t))
    ·rcases List.mem_append.1 t with t | t
     ·exact .inr (by simp [t])
     ·have:j=x:=by simp at t;omega
      exact .inl ((Mk.set hxs _).2 (.inr this))
   ·exact absurd q ey
 ·have:=h.cnt
  simp at this ⊢
  omega
theorem Un.done {l:List Nd} {fr:List Int} {s:List Bool} (h:Un l fr s []) (x:Nat):Mk s x ↔ ∃ f∈fr,Rc l f.toNat x:=by
 refine ⟨h.snd x,?_⟩
 rintro ⟨f,hf,hr⟩
 refine Rc.in (S:=fun j=>Mk s j) (fun i j hi e=>?_) ?_ hr
 ·rcases h.cl i hi j e with q | q
  ·exact q
  ·simp at q
 ·rcases h.cmp f hf with q | q
  ·exact q
  ·simp at q
theorem Row.last {base:Nat} {w:World} {vo:Option Addr} {vc:Nat} {T:List Int} {z:Int} (h:Row base w (.slice vo (T.length+1) vc) (T ++ [z])) :
  ∃ g,vo=some ⟨g,0,none⟩∧base≤g∧w.cell? ⟨g,T.length,none⟩=some (.int .i64 z)∧Row base w (.slice (some ⟨g,0,none⟩) T.length vc) T∧T.length+1≤vc:=by
 have hi:=h.ints
 obtain ⟨ao,ac,e,h1,h2,h3⟩:=hi
 simp only [Value.slice.injEq] at e
 obtain ⟨rfl,_,rfl⟩:=e
 obtain ⟨b,off,e1,hlt,hc⟩:=h1.get (i:=T.length) (by simp)
 subst e1
 unfold Row at h
 rcases h.2 with ⟨e2,h0⟩ | ⟨g,cap,cur,e2,hb,hg,hle,hm,hsz,ht⟩
 ·cases e2
 ·simp only [Value.slice.injEq,Option.some.injEq,Addr.mk.injEq,and_true] at e2
  obtain ⟨⟨rfl,rfl⟩,e3,rfl⟩:=e2
  refine ⟨b,rfl,hb,by simpa using hc,?_,by simpa using hle⟩
  unfold Row
  refine ⟨by simp [iv_length],.inr ⟨b,vc,cur,rfl,hb,hg,by simp at hle;omega,hm,hsz,?_⟩⟩
  have:=congrArg (List.take T.length) ht
  rw [List.take_take] at this
  simp [iv] at this
  simpa [iv,Nat.min_eq_left (Nat.le_succ _)] using this
theorem ints_three (w:World) (z y x:Int):IntsAt (w.alloc (.cells #[.int .i64 z,.int .i64 y,.int .i64 x] 3)) (some ⟨w.heap.size,0,none⟩) [z,y,x]:=
 .inr ⟨w.heap.size,0,rfl,by simp,fun i hi=>by
  have hi' : i<3:=hi
  match i,hi' with
  | 0,_=>exact cellAt (heap_alloc_new w _) 0
  | 1,_=>exact cellAt (heap_alloc_new w _) 1
  | 2,_=>exact cellAt (heap_alloc_new w _) 2⟩
abbrev lentL (xs:List Int):List Int:=xs ++ [-77, -77, -77]
def HdL (base g n c:Nat) (xs:List Int) (w wr:World) (k:Nat):Prop:=(∃ L,Row base wr (.slice (some ⟨g,0,none⟩) (n+3) c) L∧L.length=n+3∧∀ j,k≤j→L[j]? = (lentL xs)[j]?)∧Kept (fun i=>i=g) w wr
theorem HdL.at {base g n c k:Nat} {xs:List Int} {w wr:World} (h:HdL base g n c xs w wr k) {z:Int} (hz:(lentL xs)[k]? = some z):wr.cell? ⟨g,k,none⟩=some (.int .i64 z)∧wr.frozen? ⟨g,k,none⟩=false:=by
 obtain ⟨⟨L,h1,h2,h3⟩,_⟩:=h
 have hL:=h3 k (Nat.le_refl _)
 rw [hz] at hL
 obtain ⟨hk,hv⟩:=List.getElem?_eq_some_iff.1 hL
 obtain ⟨ao,ac,e,hi,_,_⟩:=h1.ints
 simp only [Value.slice.injEq] at e
 obtain ⟨b,off,e1,_,hc⟩:=hi.get hk
 rw [← e.1] at e1
 simp only [Option.some.injEq,Addr.mk.injEq,and_true] at e1
 obtain ⟨rfl,rfl⟩:=e1
 rw [hv] at hc
 refine ⟨by simpa using hc,?_⟩
 unfold Row at h1
 rw [h2] at h1
 exact h1.frozenAt k
theorem HdL.put {base g n c k:Nat} {xs:List Int} {w wr:World} (h:HdL base g n c xs w wr k):HdL base g n c xs w (wr.setCell ⟨g,k,none⟩ (.int .i64 (-78))) (k+1):=by
 obtain ⟨⟨L,h1,h2,h3⟩,h4⟩:=h
 refine ⟨⟨L.set k (-78),?_,by simp [h2],fun j hj=>?_⟩,Kept.setCell (S:=fun i=>i=g) h4 (p:=⟨g,k,none⟩) (fun _=>rfl) _⟩
 ·unfold Row at h1 ⊢
  rw [iv_set]
  rw [h2] at h1
  simpa [h2] using (h1.stored k (.int .i64 (-78))).1
 ·rw [List.getElem?_set_ne (by omega)];exact h3 j (by omega)
theorem HdL.same {base g n c k:Nat} {xs:List Int} {w wr wr' : World} (h:HdL base g n c xs w wr k) (hk:Same0 wr wr'):HdL base g n c xs w wr' k:=by
 obtain ⟨⟨L,h1,h2,h3⟩,h4⟩:=h
 exact ⟨⟨L,hk.row h1 (fun _ _ f=>f),h2,h3⟩,h4.trans hk (fun _ _ f=>f.elim)⟩
set_option maxHeartbeats 1000000 in
theorem pick12_any (c:Int) (hc:I64 c) (n:Int) (hn:1≤n) (hn' : n≤1000000) (w:World):Calls Try.prog 39 #[.int .i64 c,.int .i64 n] w fun e w' => e=.returned (.int .i64 (pickF c n:Int))∧w' = w:=by
 have hz:¬ n=0:=by omega
 have hz' : (n == 0)=false:=by simpa using hz
 by_cases h:c<0
 ·have h1:IntKind.i64.wrap (c+1)=c+1:=hwrap (by omega) (by omega)
  have h2:IntKind.i64.wrap (-(c+1)) = -(c+1):=hwrap (by omega) (by omega)
  have HE:Hid ((pickF c n:Int)=(-(c+1)) % n):=by
   show _=_
   unfold pickF
   rw [if_pos h]
   have:=Int.emod_nonneg (-(c+1)) hz
   omega
  have hp:0 ≤ -(c+1):=by omega
  go_enter Try.func39,Try.ntmps39
  go_wp2
  go_ret
  refine ⟨ret_int ?_,rfl⟩
  rw [HE.out]
  first | rfl | (rw [← Int.neg_tmod,Int.tmod_eq_emod_of_nonneg (by omega)]) | (rw [Int.tmod_eq_emod_of_nonneg (by omega)])
 ·have HE:Hid ((pickF c n:Int)=c % n):=by
   show _=_
   unfold pickF
   rw [if_neg h]
   have:=Int.emod_nonneg c hz
   omega
  have hp:0≤c:=by omega
  go_enter Try.func39,Try.ntmps39
  go_wp2
  go_ret
  refine ⟨ret_int ?_,rfl⟩
  rw [HE.out]
set_option maxHeartbeats 1000000 in
theorem told12_any {w:World} {h g room:Nat} {l:List Nd} (p:Hp w h g room l) :
  Calls Try.prog 32 #[.pointer (some ⟨h,0,none⟩)] w fun e w' => ∃ v,e=.returned (.tuple #[v,.bool true])∧NRow (fun b=>w.heap.size≤b) w.heap.size w' v l∧Same0 w w' := by
 have hle:=p.le
 have hr2:=p.rm2
 have HP:Hid (∀ ww,Same0 w ww→Hp ww h g room l):=fun ww hk=>p.same hk
 have KR:Same0 w w:=Kept.refl _ _
 clear p
 go_enter Try.func32,Try.ntmps32
 go_wp2
 go_loopw [4,5] (fun v i wr=>∃ (k:Nat),i=.int .i64 (k:Int)∧k≤l.length∧NRow (fun b=>w.heap.size≤b) w.heap.size wr v (l.take k)∧Same0 w wr) (fun _ i _=>l.length-(intOf i).toNat)
 case atStart=>exact ⟨0,rfl,Nat.zero_le _,NRow.nil _ _ _,KR⟩
 case round=>
  clear KR
  obtain ⟨k,rfl,hk,hrow,hw⟩:=hrel
  have pr:=HP.out wr hw
  have CU:=used_any pr
  obtain ⟨vo,vc,rfl⟩:=hrow.shape
  have hlk:(l.take k).length=k:=by simp;omega
  rw [hlk] at hrow
  by_cases hlt:k<l.length
  ·have j1:(k:Int)<(l.length:Int):=by omega
   have j2:(k:Int)<4000:=by omega
   have C1:=hat_yes pr k hlt
   have HT:Hid (l.take (k+1)=l.take k ++ [l[k]]):=List.take_succ_eq_append_getElem hlt
   have HLK:Hid ((l.take k).length=k):=hlk
   rw [hlk]
   clear pr hlk
   go_upto_region 8 with (first | (go_at_call 24;refine CU.mono ?_;rintro e w3 ⟨rfl,h3⟩;have h3:=h3.symm;subst h3) | (go_at_call 42;refine C1.mono ?_;rintro e w3 ⟨bo,bc,rfl,ha,hbb,k3⟩))
   obtain ⟨W3,hW3⟩:∃ W3,W3=w3.alloc (.cells #[.int .i64 l[k].1,.slice bo l[k].2.1.length bc,.int .i64 l[k].2.2.1,.bool l[k].2.2.2.1,.int .i64 l[k].2.2.2.2] 47):=⟨_,rfl⟩
   have kk:Same0 w3 W3:=by rw [hW3];exact (Kept.refl _ _).alloc _
   have K3:Same0 wr W3:=k3.trans' kk
   obtain ⟨x0,x1,x2,x3,x4⟩:=box_node' w3 l[k] bo bc (show Same0 _ W3 by rw [hW3];exact Kept.refl _ _)
   have ha3:=ha.same kk
   have hr3:=hrow.same K3
   have hsz:w.heap.size≤W3.heap.size:=(hw.trans' K3).size
   have hbb' : ∀ b,bo=some b→w.heap.size≤b.block:=fun b e=>Nat.le_trans hw.size (hbb b e)
   have kW:=(Kept.refl (fun _=>False) W3).alloc (.cells #[.int .i64 l[k].1,.slice bo l[k].2.1.length bc,.int .i64 l[k].2.2.1,.bool l[k].2.2.2.1,.int .i64 l[k].2.2.2.2] 47)
   have hq:=heap_at_node W3 l[k] bo bc
   have HKK:Hid (∀ ww,Kept (fun i=>(Value.slice vo k vc).ownBlock=some i) W3 ww→Same0 w ww):=fun ww hk=>NRow.onto (hw.trans' K3) hr3 hk
   rw [← hW3]
   clear hW3 C1 CU k3 ha hrow hbb kk
   go_wp2_with (first | (at_builtin;refine wpList_nd rfl _ _ rfl w.heap.size (l.take k) _ rfl kW hr3 l[k] bo bc _ rfl hq ha3 hbb' hsz (by rw [HLK.out];omega) ?_;rw [HLK.out];intro g4 cap4 w4 hr4 hk4 hor))
   have hr5:NRow (fun b=>w.heap.size≤b) w.heap.size w4 (.slice (some ⟨g4,0,none⟩) (k+1) cap4) (l.take (k+1)):=by rw [HT.out];exact hr4
   have hk5:Same0 w w4:=HKK.out w4 hk4
   go_roundw
   case rel=>first | exact ⟨k+1,by go_num,by omega,hr5,hk5⟩ | ((repeat apply Exists.intro);exact ⟨⟨k+1,by go_num,by omega,hr5,hk5⟩,rfl⟩)
   case measure=>simp [intOf];omega
  ·obtain rfl:k=l.length:=by omega
   rw [List.take_length] at *
   clear hlk pr
   go_wp2_with (first | (go_at_call 24;refine CU.mono ?_;rintro e w3 ⟨rfl,h3⟩;have h3:=h3.symm;subst h3))
   go_ret2
   exact ⟨_,rfl,hrow,hw⟩
theorem rfe_ex (room:Nat) (l:List Nd):∃ E,RfE room l E:=by
 by_cases h1:room<l.length
 ·exact ⟨_,.inl ⟨h1,rfl⟩⟩
 ·by_cases h2:l.all (mayB l.length)=true
  ·by_cases h3:Ac l
   ·exact ⟨_,.inr (.inr (.inr ⟨by omega,h2,h3,rfl⟩))⟩
   ·exact ⟨_,.inr (.inr (.inl ⟨by omega,h2,h3,rfl⟩))⟩
  ·exact ⟨_,.inr (.inl ⟨by omega,by rw [Bool.not_eq_true] at h2;exact h2,rfl⟩)⟩
theorem rfe_range {room:Nat} {l:List Nd} {E:Int} (h:RfE room l E):0≤E∧E≤120:=by
 rcases h with ⟨_,rfl⟩ | ⟨_,_,rfl⟩ | ⟨_,_,_,rfl⟩ | ⟨_,_,_,rfl⟩ <;> omega
theorem RhB.mono {B B' : Nat→Prop} {w:World} {r room:Nat} {v:Value} {l:List Nd} (p:RhB B w r room v l) (hB:∀ k,k<w.heap.size→B k→B' k):RhB B' w r room v l:=⟨p.box,p.row.mono hB,p.rm1,p.rm2,p.le,p.may,p.ac⟩
structure MdAt (w w' : World) (h g r:Nat) (v:Value) (l:List Nd):Prop where
 hp:HpB (fun b=>w.heap.size≤b) w' h g 4000 l
 rh:RhB (fun b=>w.heap.size≤b) w' r 4000 v l
 same:Same0 w w'
 lh:w.heap.size≤h
 lg:w.heap.size≤g
 lr:w.heap.size≤r
 lv:∀ k,v.ownBlock=some k→w.heap.size≤k∧k≠g∧k≠h∧k≠r
 nr:r≠h∧r≠g
def MdQ (l:List Nd) (w:World) (e:Ending) (w' : World):Prop:=
 (e=.returned (.tuple #[.pointer none,.pointer none])∧Same0 w w')∨∃ h g r v,e=.returned (.tuple #[.pointer (some ⟨h,0,none⟩),.pointer (some ⟨r,0,none⟩)])∧MdAt w w' h g r v l
set_option maxHeartbeats 2000000 in
theorem made12_any {w:World} {ao:Option Addr} {ac:Nat} {l:List Nd} (hs:NsW w ao l) (hsz:l.length≤maxLen) :
  Calls Try.prog 26 #[.int .i64 4000,.slice ao l.length ac] w fun e w' => MdQ l w e w' := by
 obtain ⟨E,hE⟩:=rfe_ex 4000 l
 have C1:=hnew_yes 4000 w (by omega) (by omega)
 have HS:Hid (∀ ww,Same0 w ww→NsW ww ao l):=fun ww hk=>hs.same hk
 have HV:Hid (NsV (fun b=>b<w.heap.size) w ao l):=hs.below
 have HZ:Hid (l.length≤maxLen):=hsz
 have HE:Hid (RfE 4000 l E):=hE
 obtain ⟨e1,e2⟩:=rfe_range hE
 clear hs hsz hE
 by_cases h0:E=0
 ·subst h0
  go_enter Try.func26,Try.ntmps26
  go_upto_region 5 with (first | (go_at_call 15;refine C1.mono ?_;rintro e w1 ⟨h,g,rfl,p1,k1,lh,lg⟩;have C2:=rnew_yes 4000 w1 (by omega) (by omega)) | (go_at_call 16;refine C2.mono ?_;rintro e w2 ⟨r,rfl,q2,k2,lr⟩))
  have p2:=p1.same k2
  have K2:=k1.trans' k2
  have hhl:=p1.ltH
  have hgl:=p1.ltG
  have C3:=refill_yes (ac:=ac) p2 ((HV.out.same K2).mono (fun b hb=>show b≠g by omega)) HE.out
  clear p1 C1
  go_upto_region 7 with (first | (go_at_call 57;refine C3.mono ?_;rintro e w3 ⟨rfl,p3,k3⟩;have K3:Same0 w w3:=K2.trans k3 (fun i hi e=>by omega);have C4:=rrefill_any (ac:=ac) (q2.kept k3 (fun e=>by omega) (fun k e=>by cases e) (fun k f=>f.elim)) (HS.out w3 K3) HZ.out HE.out) | (go_at_call 58;refine C4.mono ?_;rintro e w4 ⟨rfl,q4⟩))
  have FIN:MdQ l w (.returned (.tuple #[.pointer (some ⟨h,0,none⟩),.pointer (some ⟨r,0,none⟩)])) w4:=by
   rcases q4 with ⟨e,_⟩ | ⟨_,v,r4,k4,lv⟩
   ·exact absurd rfl e
   ·have hr2:=q2.lt
    have s2:=K2.size
    have s3:=k3.size
    refine .inr ⟨h,g,r,v,rfl,(p3.kept k4 (by omega) (by omega) (fun k _ e cur hc=>?_)).mono (fun k _ _ hk=>by omega),RhB.mono r4 (fun k _ hk=>by omega),K3.trans k4 (fun i hi e=>by have:=k1.size;omega),lh,lg,by have:=k1.size;omega,fun k e=>?_,by omega,by omega⟩
    ·subst e
     have:=k3.at q2.box (by omega)
     rw [this] at hc
     cases hc
    ·have:=lv k e
     have:=k1.size
     omega
  clear q4 C3 C4 HE HV HS q2 p2 p3
  go_wp2
  go_ret2
  exact FIN
 ·have HN:Hid (E≠0):=h0
  have b1:(E != 0)=true:=by simpa using h0
  have b2:(E == 0)=false:=by simpa using h0
  have b3:(E != E)=false:=by simp
  go_enter Try.func26,Try.ntmps26
  go_upto_region 5 with (first | (go_at_call 15;refine C1.mono ?_;rintro e w1 ⟨h,g,rfl,p1,k1,lh,lg⟩;have C2:=rnew_yes 4000 w1 (by omega) (by omega)) | (go_at_call 16;refine C2.mono ?_;rintro e w2 ⟨r,rfl,q2,k2,lr⟩))
  have K2:=k1.trans' k2
  have C3:=refill_no (ac:=ac) (p1.same k2) (HS.out w2 K2) HZ.out HE.out HN.out
  clear p1 C1
  go_upto_region 7 with (first | (go_at_call 57;refine C3.mono ?_;rintro e w3 ⟨rfl,k3⟩;have K3:=K2.trans' k3;have C4:=rrefill_any (ac:=ac) (q2.same k3) (HS.out w3 K3) HZ.out HE.out) | (go_at_call 58;refine C4.mono ?_;rintro e w4 ⟨rfl,q4⟩))
  have FIN:MdQ l w (.returned (.tuple #[.pointer none,.pointer none])) w4:=by
   rcases q4 with ⟨_,e⟩ | ⟨e,_⟩
   ·exact .inl ⟨rfl,K3.trans' e⟩
   ·exact absurd e HN.out
  clear q4 C3 C4 HE HV HS q2
  go_wp2
  go_ret2
  exact FIN
def someL (n:Nat) (raw:List Int):List Int:=if n=0 then [] else raw.map (fun c=>(pickF c (n:Int):Int))
theorem someL_rng {n:Nat} {raw:List Int}:∀ z∈someL n raw,0≤z∧z<(n:Int):=by
 intro z hz
 unfold someL at hz
 split at hz
 ·cases hz
 ·rename_i h
  obtain ⟨c,_,rfl⟩:=List.mem_map.1 hz
  have:=pick_lt c (n:=(n:Int)) (by omega)
  omega
theorem someL_len (n:Nat) (raw:List Int):(someL n raw).length≤raw.length:=by
 unfold someL;split <;> simp
set_option maxHeartbeats 2000000 in
theorem some12_any {w:World} {ao:Option Addr} {ac:Nat} {raw:List Int} (hx:Arg w ao raw ac) (hr:∀ z∈raw,I64 z) (n:Nat) (hn:n≤4000) :
  Calls Try.prog 36 #[.slice ao raw.length ac,.int .i64 (n:Int)] w fun e w' => ∃ v,e=.returned v∧Row w.heap.size w' v (someL n raw)∧Same0 w w' := by
 have hsz:=hx.size
 have HX:Hid (Arg w ao raw ac):=hx
 have HR:Hid (∀ z∈raw,I64 z):=hr
 obtain ⟨N,hN⟩:∃ N,N=raw.length:=⟨_,rfl⟩
 have HN:Hid (N=raw.length):=hN
 have HZ:Hid (N * 8≤140737488351232):=by rw [hN];exact hsz
 have hNI:(N:Int)≤17592186043904:=by omega
 have hNI0:(0:Int)≤(N:Int):=by omega
 rw [← hN]
 clear hx hr hN hsz
 by_cases h0:n=0
 ·subst h0
  have HF:Hid (Row w.heap.size w (.slice none 0 0) (someL 0 raw)∧Same0 w w):=⟨World.ownsRow_nil _ _ _ _,Kept.refl _ _⟩
  go_enter Try.func36,Try.ntmps36
  go_wp2
  go_loopw [5,6] (fun v5 v6 wr=>v5=.slice none 0 0∧v6=.int .i64 0∧wr=w) (fun _ _ _=>0)
  case atStart=>exact ⟨rfl,rfl,rfl⟩
  case round=>
   obtain ⟨rfl,rfl,rfl⟩:=hrel
   by_cases hN0:N=0
   ·subst hN0
    go_wp2
    go_ret
    exact ⟨_,rfl,HF.out.1,HF.out.2⟩
   ·have hp:(0:Int)<(N:Int):=by omega
    go_wp2
    go_ret
    exact ⟨_,rfl,HF.out.1,HF.out.2⟩
 ·have hn0:(0:Int)<(n:Int):=by omega
  have hn1:(n:Int)≤4000:=by omega
  have HS:Hid (someL n raw=raw.map (fun c=>(pickF c (n:Int):Int))):=by show _=_;unfold someL;rw [if_neg h0]
  have HF0:Hid (Row w.heap.size w (.slice none 0 0) ((raw.take 0).map (fun c=>(pickF c (n:Int):Int)))):=World.ownsRow_nil _ _ _ _
  go_enter Try.func36,Try.ntmps36
  go_wp2
  go_loopw [5,6] (fun v5 v6 wr=>∃ k:Nat,k≤N∧v6=.int .i64 (k:Int)∧Hid (Row w.heap.size wr v5 ((raw.take k).map (fun c=>(pickF c (n:Int):Int))))∧Same0 w wr) (fun _ v6 _=>N-(intOf v6).toNat)
  case atStart=>exact ⟨0,Nat.zero_le _,rfl,HF0,Kept.refl _ _⟩
  case round=>
   clear HF0
   obtain ⟨k,hk,rfl,HW,hw⟩:=hrel
   by_cases hlt:k<N
   ·have hkx:k<raw.length:=by rw [← HN.out];exact hlt
    obtain ⟨xb,xo,e,hxb,cx⟩:=((HX.out.at').same hw).get hkx
    subst e
    have CP:=pick12_any raw[k] (HR.out _ (List.getElem_mem hkx)) (n:Int) (by omega) (by omega) wr
    have HT:Hid ((raw.take (k+1)).map (fun c=>(pickF c (n:Int):Int))=(raw.take k).map (fun c=>(pickF c (n:Int):Int)) ++ [(pickF raw[k] (n:Int):Int)]):=by
     show _=_
     rw [List.take_succ_eq_append_getElem hkx,List.map_append];rfl
    have hb:w.heap.size≤wr.heap.size:=hw.size
    have hsz:(((raw.take k).map (fun c=>(pickF c (n:Int):Int))).length+1) * 8≤140737488355328:=by have:=HZ.out;simp;omega
    have HR' : Hid (∀ v' w', Row w.heap.size w' v' ((raw.take k).map (fun c=>(pickF c (n:Int):Int)) ++ [(pickF raw[k] (n:Int):Int)])→Row w.heap.size w' v' ((raw.take (k+1)).map (fun c=>(pickF c (n:Int):Int)))):=fun v' w' h=>by rw [HT.out];exact h
    generalize (raw.take k).map (fun c=>(pickF c (n:Int):Int))=P at *
    generalize pickF raw[k] (n:Int)=y at *
    obtain ⟨vo,vc,e⟩:=row_shape HW.out
    subst e
    have iw:IntKind.i64.wrap ((k:Int)+1)=(k:Int)+1:=by rw [IntKind.wrap_i64];omega
    have j5:(0:Int)≤(k:Int):=by omega
    have j6:(k:Int)<(N:Int):=by omega
    clear HT hNI
    go_wp2_with (first | (go_at_call 39;refine CP.mono ?_;rintro e w' ⟨rfl,hw'⟩;have hw' := hw'.symm;subst hw') | (at_builtin;refine wpList_push rfl _ _ 31 rfl Try.underlying31 w.heap.size P _ rfl HW.out (y:Int) rfl hb hsz ?_;intro g5 c5 w5 hr5 hk5 hg5))
    have hr6:=HR'.out _ _ hr5
    have hw6:=hw.onto HW.out hk5
    go_roundw
    case rel=>first | exact ⟨k+1,by omega,by go_num,hr6,hw6⟩ | ((repeat apply Exists.intro);exact ⟨⟨k+1,by omega,by go_num,hr6,hw6⟩,rfl⟩)
    case measure=>simp [intOf];omega
   ·have e:N=k:=by omega
    subst e
    have R1:Row w.heap.size wr u5 (someL n raw):=by
     rw [HS.out]
     have:=HW.out
     rw [List.take_of_length_le (by rw [HN.out];exact Nat.le_refl _)] at this
     exact this
    clear hNI
    go_wp2
    go_ret
    exact ⟨_,rfl,R1,hw⟩
end Go.Proofs.Ytcbonegkfppdiaa
