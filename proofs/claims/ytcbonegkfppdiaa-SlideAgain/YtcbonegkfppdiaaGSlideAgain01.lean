import Derived.Test.YtcbonegkfppdiaaGS04
import Derived.Test.YtcbonegkfppdiaaGS03
import Derived.Test.YtcbonegkfppdiaaGS07
namespace Go.Proofs.Ytcbonegkfppdiaa
set_option linter.unusedVariables false
theorem Mv.val' {l:List Nd} {R:List Int} {L:List Nat} (hk:KL l R L) {z y:Int} (h:Mv l L z y) {b i:Nat} (hb:Res l z.toNat b) (hi:L[i]? = some b):y=(i:Int):=by
 obtain ⟨b', i', _,h1,h2,rfl⟩:=h
 have:=Res.uniq h1 hb
 subst this
 rw [rise_ne hk.1 h2 hi]
theorem Rts.at {l:List Nd} {L:List Nat} {R R' : List Int} (h:Rts l L R R') {z:Int} (hz:z∈R):∃ y∈R', Mv l L z y:=by
 obtain ⟨j,hj,rfl⟩:=List.mem_iff_getElem.1 hz
 have hj2:j<R'.length:=by rw [h.1];exact hj
 exact ⟨R'[j],List.getElem_mem hj2,h.2 j _ _ (List.getElem?_eq_getElem hj) (List.getElem?_eq_getElem hj2)⟩
theorem KL.get {l:List Nd} {R:List Int} {L:List Nat} (h:KL l R L) {b:Nat} (hb:Kpt l R b):∃ i:Nat,L[i]? = some b:=by
 obtain ⟨i,hi,e⟩:=List.mem_iff_getElem.1 ((h.2 b).2 hb)
 exact ⟨i,by rw [List.getElem?_eq_getElem hi,e]⟩
theorem all_kept {l:List Nd} (hw:Wf l) {R R' : List Int} {L:List Nat} {l' : List Nd} (hR:∀ r∈R,0≤r∧r<(l.length:Int)) (hk:KL l R L) (hs:Sld l L l') (hr:Rts l L R R'):KL l' R' (List.range l'.length):=by
 obtain ⟨wf', app⟩:=hs.wf hw hk
 have reach:∀ c,Kpt l R c→∃ a,L[a]? = some c∧∃ y∈R', Rc l' y.toNat a:=by
  intro c hc
  refine Kpt.in hw hR (S:=fun c=>∃ a,L[a]? = some c∧∃ y∈R', Rc l' y.toNat a) (fun r hrm b hb=>?_) (fun c hc' hS z hz b hb=>?_) hc
  ·obtain ⟨i,hi⟩:=hk.get (Kpt.root hw hrm hb)
   obtain ⟨y,hy,hm⟩:=hr.at hrm
   have:=hm.val' hk hb hi
   subst this
   exact ⟨i,hi,_,hy,by simpa using Rc.refl l' i⟩
  ·obtain ⟨a,ha,y,hy,hrc⟩:=hS
   have kc:Kpt l R c:=(hk.2 c).1 (List.mem_of_getElem? ha)
   obtain ⟨i,hi⟩:=hk.get (kc.arg hw hz hb)
   obtain ⟨h1,h2,a1,a2,a3⟩:=hs.2 a c ha
   obtain ⟨y', hy', hm⟩:=a2.at hz
   have:=hm.val' hk hb hi
   subst this
   refine ⟨i,hi,y,hy,hrc.snoc ⟨h2,?_⟩⟩
   rw [AppN.down ⟨h2,app a h2⟩]
   exact hy'
 refine ⟨List.pairwise_lt_range,fun a=>?_⟩
 rw [List.mem_range]
 refine ⟨fun h=>⟨⟨h,app a h⟩,?_⟩,fun h=>h.1.1⟩
 have hL:a<L.length:=by rw [← hs.1];exact h
 obtain ⟨a', ha', y,hy,hrc⟩:=reach L[a] ((hk.2 _).1 (List.getElem_mem hL))
 have:=rise_ne hk.1 ha' (List.getElem?_eq_getElem hL)
 subst this
 exact ⟨y,hy,hrc⟩
theorem mv_self {l:List Nd} (app:∀ k (hk:k<l.length),l[k].2.2.2.1=false) {z:Int} (hz:0≤z∧z<(l.length:Int)):Mv l (List.range l.length) z z:=by
 have h:z.toNat<l.length:=by omega
 exact ⟨z.toNat,z.toNat,hz.1,Res.self h (app _ h),by simp [h],by omega⟩
theorem rts_self {l:List Nd} (app:∀ k (hk:k<l.length),l[k].2.2.2.1=false) {R:List Int} (hR:∀ z∈R,0≤z∧z<(l.length:Int)):Rts l (List.range l.length) R R:=by
 refine ⟨rfl,fun j z y hz hy=>?_⟩
 rw [hz] at hy
 cases hy
 exact mv_self app (hR z (List.mem_of_getElem? hz))
theorem sld_self {l:List Nd} (hw:Wf l) (app:∀ k (hk:k<l.length),l[k].2.2.2.1=false):Sld l (List.range l.length) l:=by
 refine ⟨by simp,fun k a ha=>?_⟩
 have hk:k<l.length:=by have:=(List.getElem?_eq_some_iff.1 ha).1;simpa using this
 have e:k=a:=by simpa [hk] using ha
 subst e
 exact ⟨hk,hk,rfl,rts_self app (fun z hz=>args_rng hw hk hz),rfl⟩
theorem again_same {l:List Nd} (hw:Wf l) {R R' : List Int} {L:List Nat} {l' : List Nd} (hR:∀ r∈R,0≤r∧r<(l.length:Int)) (hk:KL l R L) (hs:Sld l L l') (hr:Rts l L R R') :
  (∀ z∈R', 0≤z∧z<(l'.length:Int))∧(∀ k (hk:k<l'.length),l'[k].2.2.2.1=false)∧(∀ L2,KL l' R' L2→L2=List.range l'.length)∧∀ L2 l2 R2,KL l' R' L2→Sld l' L2 l2→Rts l' L2 R' R2→l2=l' ∧ R2=R' := by
 obtain ⟨wf', app⟩:=hs.wf hw hk
 have ak:=all_kept hw hR hk hs hr
 have rg:∀ z∈R', 0≤z∧z<(l'.length:Int):=fun z hz=>by
  obtain ⟨_,_,hm⟩:=hr.each hz
  have:=hm.rng
  rw [hs.1];exact this
 refine ⟨rg,app,fun L2 h=>h.uniq ak,fun L2 l2 R2 h1 h2 h3=>?_⟩
 have e:=h1.uniq ak
 subst e
 exact ⟨h2.uniq h1 (sld_self wf' app),h3.uniq h1 (rts_self app rg)⟩
end Go.Proofs.Ytcbonegkfppdiaa
namespace Go.Proofs.Ytcbonegkfppdiaa
set_option maxRecDepth 100000
set_option linter.unusedVariables false
open Go.RowKit
attribute [local go_sem ↓] Go.wp_at_zero Go.wp_at_succ
def eqL (l l' : List Nd):Bool:=decide (l=l')
theorem eqL_self (l:List Nd):eqL l l=true:=by unfold eqL;simp
set_option maxHeartbeats 2000000 in
theorem sameNodes_any {w:World} {ao bo:Option Addr} {ac bc:Nat} {l l' : List Nd} (h:NsW w ao l) (h' : NsW w bo l') (hm:l.length≤maxLen) :
  Calls Try.prog 33 #[.slice ao l.length ac,.slice bo l'.length bc] w fun e w' => e=.returned (.bool (eqL l l'))∧Same0 w w' := by
 unfold maxLen at hm
 by_cases hl:l.length=l'.length
 ·have hl' : (l.length:Int)=(l'.length:Int):=by omega
  have HX:Hid (∀ ww,Same0 w ww→NsW ww ao l):=fun ww hw=>h.same hw
  have HY:Hid (∀ ww,Same0 w ww→NsW ww bo l'):=fun ww hw=>h'.same hw
  have HL:Hid (l.length=l'.length):=hl
  have KR:Same0 w w:=Kept.refl _ _
  clear h h' hl
  go_enter Try.func33,Try.ntmps33
  go_wp2
  go_loopw [5] (fun i wr=>∃ k:Nat,k≤l.length∧i=.int .i64 k∧Hid (∀ j (h1:j<l.length) (h2:j<l'.length),j<k→l[j]=l'[j])∧Same0 w wr) (fun i _=>l.length-(intOf i).toNat)
  case atStart=>exact ⟨0,Nat.zero_le _,rfl,fun j _ _ hj=>absurd hj (Nat.not_lt_zero _),KR⟩
  case round=>
   clear KR
   obtain ⟨k,hk,rfl,hall,hw⟩:=hrel
   by_cases hlt:k<l.length
   ·have hlt' : k<l'.length:=by rw [← HL.out];exact hlt
    have i1:(0:Int)≤(k:Int):=by omega
    have i2:(k:Int)<(l.length:Int):=by omega
    have i3:(k:Int)<(l'.length:Int):=by omega
    rcases HX.out wr.drew (hw.drew) with e | ⟨mb,moff,e,hmb,hm'⟩
    ·rw [e] at hlt;simp at hlt
    subst e
    rcases HY.out wr.drew (hw.drew) with e | ⟨nb,noff,e,hnb,hn⟩
    ·rw [e] at hlt'; simp at hlt'
    subst e
    obtain ⟨xo,xc,m0,m1,m2,m3,m4,m5⟩:=hm' k hlt
    obtain ⟨yo,yc,n0,n1,n2,n3,n4,n5⟩:=hn k hlt'
    have CS:=sameNode_any m5 n5
    have HEY:Hid (eqN l[k] l'[k]=true→l[k]=l'[k]):=fun e=>by unfold eqN at e;simpa using e
    have HEN:Hid (eqN l[k] l'[k]=false→eqL l l' = false):=fun e=>by
     unfold eqN at e
     unfold eqL
     simp at e ⊢
     rintro rfl
     exact e rfl
    clear hm' hn m5 n5
    generalize eqN l[k] l'[k]=R at *
    go_upto_region 6 with fail
    go_region_with (first | (go_at_call 22;refine CS.mono ?_;rintro e w8 ⟨rfl,k8⟩))
    all_goals
     have hw8:Same0 w w8:=Same0.trans' (Kept.drew hw) k8
     clear m0 m1 m2 m3 m4 n0 n1 n2 n3 n4 CS
     cases R
     ·have HF:Hid (eqL l l' = false):=HEN.out rfl
      go_wp2
      go_ret
      exact ⟨ret_bool HF.out.symm,hw8⟩
     ·have HF:Hid (∀ j (h1:j<l.length) (h2:j<l'.length),j<k+1→l[j]=l'[j]):=fun j h1 h2 hj=>by
       by_cases e:j=k
       ·subst e;exact HEY.out rfl
       ·exact hall.out j h1 h2 (by omega)
      go_wp2
      go_roundw
      case rel=>first | exact ⟨k+1,by omega,by go_num,HF,hw8⟩ | ((repeat apply Exists.intro);exact ⟨⟨k+1,by omega,by go_num,HF,hw8⟩,rfl⟩)
      case measure=>simp [intOf];omega
   ·obtain rfl:k=l.length:=by omega
    have HE:Hid (eqL l l' = true):=by
     show _=_
     unfold eqL
     simp
     exact List.ext_getElem HL.out (fun j h1 h2=>hall.out j h1 h2 h1)
    clear hall
    go_wp2
    go_ret
    exact ⟨ret_bool HE.out.symm,hw⟩
 ·have HE:Hid (eqL l l' = false):=by show _=_;unfold eqL;simp;rintro rfl;exact hl rfl
  have hl' : ¬ (l.length:Int)=(l'.length:Int):=by omega
  have KR:Hid (Same0 w w):=Kept.refl _ _
  clear h h' hl
  go_enter Try.func33,Try.ntmps33
  go_wp2
  go_ret
  exact ⟨ret_bool HE.out.symm,KR.out⟩
theorem NRow.nv {N:Nat} {w:World} {ao:Option Addr} {c:Nat} {l:List Nd} (h:NRow (fun b=>N≤b) N w (.slice ao l.length c) l):NsV (fun b=>N≤b) w ao l:=by
 rcases h.mem with e | ⟨b,off,rfl,hlt,hc⟩
 ·exact .inl e
 ·by_cases e:l=[]
  ·exact .inl e
  refine .inr ⟨b,off,rfl,hlt,?_,fun j hj=>?_⟩
  ·obtain ⟨vs,hv,_⟩:=h
   rcases hv.2 with ⟨q,_⟩ | ⟨g', cap,cur,q,hb,_⟩
   ·cases q
   ·simp only [Value.slice.injEq,Option.some.injEq,Addr.mk.injEq] at q
    rw [q.1.1];exact hb
  ·obtain ⟨xo,xc,n0,n1,n2,n3,n4,n5,n6⟩:=hc j hj
   exact ⟨xo,xc,n0,n1,n2,n3,n4,n5.1,fun _=>n6⟩
set_option maxHeartbeats 4000000 in
theorem sagain_walk {w:World} {lo ro:Option Addr} {lc rc:Nat} {l:List Nd} {raw:List Int} (hs:NsW w lo l) (hsz:l.length * 56≤140737488351232) (hx:Arg w ro raw rc) (hr:∀ z∈raw,I64 z) :
  Calls Try.prog 10 #[.slice lo l.length lc,.slice ro raw.length rc] w fun e w' => e=.returned (.bool true)∧Below w.heap.size w w' := by
 have C0:=awake12_any w
 have HS:Hid (∀ ww,Same0 w ww→NsW ww lo l):=fun ww hk=>hs.same hk
 have HX:Hid (∀ ww,Same0 w ww→Arg ww ro raw rc):=fun ww hk=>hx.onto hk
 have HZ:Hid (l.length≤maxLen∧∀ z∈raw,I64 z):=⟨by unfold maxLen;omega,hr⟩
 clear hs hsz hx hr
 go_enter Try.func10,Try.ntmps10
 go_upto_region 3 with (first | (go_at_call 25;refine C0.mono ?_;rintro e w1 ⟨rfl,k1⟩;have C1:=made12_any (ac:=lc) (HS.out w1 k1) HZ.out.1) | (go_at_call 26;refine C1.mono ?_;rintro e w2 hmd;rcases hmd with ⟨rfl,k2⟩ | ⟨h,g,r,v,rfl,md⟩))
 ·have K:Hid (Same0 w w2):=k1.trans' k2
  clear C0 C1
  go_wp2
  go_ret
  exact ⟨rfl,K.out.below⟩
 ·have K2:Same0 w w2:=k1.trans' md.same
  have hle:l.length≤4000:=md.hp.le
  have lh:w.heap.size≤h:=Nat.le_trans k1.size md.lh
  have lg:w.heap.size≤g:=Nat.le_trans k1.size md.lg
  have C2:=some12_any (HX.out w2 K2) HZ.out.2 l.length hle
  have HW:Hid (Wf l):=⟨md.hp.may,md.hp.ac⟩
  have p2:=md.hp.any
  have hh:=p2.ltH
  have hg:=p2.ltG
  have HRG:Hid ((∀ z∈someL l.length raw,0≤z∧z<(l.length:Int))∧(someL l.length raw).length * 8≤140737488351232):=⟨someL_rng,by have:=someL_len l.length raw;have:=(HX.out w2 K2).size;omega⟩
  generalize someL l.length raw=R at *
  obtain ⟨n,hn⟩:∃ n,n=l.length:=⟨_,rfl⟩
  have HNE:Hid (n=l.length):=hn
  have i0:(0:Int)≤(n:Int):=by omega
  have i1:(n:Int)≤4000:=by omega
  rw [← hn] at C2 ⊢
  have HP2:Hid (Hp w2 h g 4000 l):=p2
  clear C0 C1 md k1 hn p2
  go_upto_region 6 with (first | (go_at_call 36;refine C2.mono ?_;rintro e w3 ⟨rv,rfl,hrow3,k3⟩;obtain ⟨so,sc,e,hArg,hAb⟩:=hrow3.argS HRG.out.2;subst e;have C3:=coll_yes (HP2.out.same k3) hArg.1 HRG.out.1 (fun _ a e=>by have:=hAb a e;omega)) | (go_at_call 34;refine C3.mono ?_;rintro e w5 ⟨tv,R', L,l', rfl,hkl,hsl,hrt,hrow5,p5,k5⟩))
  have K3:Same0 w w3:=K2.trans' k3
  have K5:Same0 w w5:=K3.trans k5 (fun i hi e=>by omega)
  obtain ⟨rg,app,one,two⟩:=again_same HW.out HRG.out.1 hkl hsl hrt
  have hRl:R'.length * 8≤140737488351232:=by rw [hrt.1];exact HRG.out.2
  obtain ⟨to', tc,e,tA,tb⟩:=hrow5.argS hRl
  subst e
  have s3:=k3.size
  have C5:=told12_any p5.any
  have hl4:l'.length≤4000:=p5.le
  obtain ⟨m,hm⟩:∃ m,m=l'.length:=⟨_,rfl⟩
  have HM:Hid (m=l'.length):=hm
  have H5:Hid (∀ ww,Same0 w5 ww→Arg ww to' R' tc∧Hp ww h g 4000 l' ∧ (∀ a,to' = some a→a.block≠h∧a.block≠g)):=fun ww hk=>⟨tA.1.onto hk,p5.any.same hk,fun a e=>by have:=tb a e;omega⟩
  have HT:Hid ((∀ z∈R', 0≤z∧z<(l'.length:Int))∧(∀ k (hk:k<l'.length),l'[k].2.2.2.1=false)∧(∀ L2,KL l' R' L2→L2=List.range l'.length)∧∀ L2 l2 R2,KL l' R' L2→Sld l' L2 l2→Rts l' L2 R' R2→l2=l' ∧ R2=R'):=⟨rg,app,one,two⟩
  have HRL:Hid (R'.length * 8≤140737488351232):=hRl
  clear C2 C3 hrow3 hArg hAb hkl hsl hrt hrow5 p5 rg app one two tA tb hRl hm
  go_upto_region 7 with (first | (go_at_call 32;refine C5.mono ?_;rintro e w6 ⟨nv,rfl,hrow6,k6⟩))
  obtain ⟨no,nc,e⟩:=hrow6.shape
  subst e
  have hnv:=hrow6.nv
  have K6:=K5.trans' k6
  have C6:=live_yes (H5.out w6 k6).2.1 (H5.out w6 k6).1 HT.out.1
  have hg5:h<w5.heap.size∧g<w5.heap.size:=by have:=k5.size;omega
  rw [← HM.out]
  clear C5 hrow6
  go_upto_region 8 with (first | (go_at_call 28;refine C6.mono ?_;rintro e w7 ⟨lv,L2,rfl,hkl2,hrow7,k7⟩))
  obtain ⟨vo,vc,e,hVI,hvle,hvb⟩:=hrow7.ints
  have e2:=HT.out.2.2.1 L2 hkl2
  rw [ofN_len', e2,List.length_range,← HM.out] at e
  subst e
  have C7:=coll_yes (H5.out w7 (k6.trans' k7)).2.1 (H5.out w7 (k6.trans' k7)).1 HT.out.1 (fun _ a e=>(H5.out w7 (k6.trans' k7)).2.2 a e)
  have K7:=K6.trans' k7
  have HV:Hid (IntsAt w7 vo (ofN L2)∧(∀ a,vo=some a→w6.heap.size≤a.block)∧L2=List.range l'.length∧NsV (fun b=>w5.heap.size≤b) w7 no l'):=⟨hVI,fun a e=>(hvb a e).1,e2,hnv.same k7⟩
  have s67:=k6.size
  have s77:=k7.size
  clear C6 hrow7 hVI hvle hvb e2 hkl2 hnv
  go_upto_region 9 with (first | (go_at_call 34;refine C7.mono ?_;rintro e w8 ⟨tv2,R2,L3,l2,rfl,hkl3,hsl3,hrt3,hrow8,p8,k8⟩))
  obtain ⟨rfl,e5⟩:=HT.out.2.2.2 L3 l2 R2 hkl3 hsl3 hrt3
  rw [e5] at hrow8
  have hL3:(L3.length:Int)=(m:Int):=by rw [HT.out.2.2.1 L3 hkl3,List.length_range,HM.out]
  have hl2:(l2.length:Int)=(m:Int):=by rw [HM.out]
  have C8:=told12_any p8.any
  have K8:Same0 w w8:=K7.trans k8 (fun i hi e=>by omega)
  obtain ⟨uo,uc,e,uA,ub⟩:=hrow8.argS HRL.out
  subst e
  have H8:Hid (IntsAt w8 vo (ofN L2)∧NsW w8 no l2∧IntsAt w8 to' R' ∧ IntsAt w8 uo R'):=by
   refine ⟨HV.out.1.kept k8 (fun a e q=>by have:=HV.out.2.1 a e;omega),(HV.out.2.2.2.kept k8 (fun b hb q=>by omega)).weak,?_,uA.1.at'⟩
   have hq:=H5.out w7 (k6.trans' k7)
   exact hq.1.at'.kept k8 (fun a e q=>by have:=hq.2.2 a e;omega)
  rw [hL3,hl2,Int.sub_self]
  clear C7 hkl3 hsl3 hrt3 hrow8 e5 uA ub p8 hL3 hl2
  go_upto_region 10 with (first | (go_at_call 32;refine C8.mono ?_;rintro e w9 ⟨nv2,rfl,hrow9,k9⟩))
  obtain ⟨qo,qc,e⟩:=hrow9.shape
  subst e
  have hq9:NsW w9 qo l2:=(NRow.mem hrow9).weak
  have K9:=K8.trans' k9
  have hl9:l2.length≤maxLen:=by unfold maxLen;omega
  have CS:=sameNodes_any (ac:=nc) (bc:=qc) (H8.out.2.1.same k9) hq9 hl9
  rw [eqL_self] at CS
  have CI:∀ ww,Same0 w9 ww→Calls Try.prog 30 #[.slice to' R'.length tc,.slice uo R'.length uc] ww fun e w' => e=.returned (.bool true)∧Same0 ww w' := fun ww hk=>by
   have:=sameInts_any tc uc (H8.out.2.2.1.same (k9.trans' hk)) (H8.out.2.2.2.same (k9.trans' hk)) (by unfold maxLen;have:=HRL.out;omega)
   rw [show eqI R' R' = true by unfold eqI;simp] at this
   exact this
  have HCI:=(show Hid _ from CI)
  have H9:Hid (IntsAt w9 vo (ofN L2)∧NsW w9 no l2∧L2=List.range l2.length∧(∀ k (hk:k<l2.length),l2[k].2.2.2.1=false)∧Same0 w w9):=⟨H8.out.1.same k9,H8.out.2.1.same k9,HV.out.2.2.1,HT.out.2.1,K9⟩
  have b1:((m:Int) != (m:Int))=false:=by simp
  have j4:(m:Int)≤4000:=by have:=HM.out;omega
  rw [← HM.out] at CS ⊢
  clear C8 hrow9 hq9 CI H8 HV HT
  go_upto_region 13 with fail
  go_loop [20] (fun v20=>∃ k:Nat,k≤m∧v20=.int .i64 (k:Int)) (fun v20=>m-(intOf v20).toNat)
  case atStart=>exact ⟨0,Nat.zero_le _,rfl⟩
  case round=>
   obtain ⟨k,hk,rfl⟩:=hrel
   by_cases hlt:k<m
   ·have hkl:k<l2.length:=by rw [← HM.out];exact hlt
    have hkr:k<L2.length:=by rw [H9.out.2.2.1,List.length_range];exact hkl
    obtain ⟨vb,vf,e,hvb,cv⟩:=H9.out.1.get (i:=k) (by rw [ofN_len'];exact hkr)
    subst e
    rw [ofN_at] at cv
    have ev:L2[k]=k:=by
     have h1:L2[k]? = some L2[k]:=List.getElem?_eq_getElem hkr
     have h2:(List.range l2.length)[k]? = some k:=by simp [hkl]
     rw [← H9.out.2.2.1,h1] at h2
     exact Option.some.inj h2
    rw [ev] at cv
    rcases H9.out.2.1 with e | ⟨nb,nf,e,hnb,hcn⟩
    ·rw [e] at hkl;simp at hkl
    subst e
    obtain ⟨xo,xc,n0,n1,n2,n3,n4,n5⟩:=hcn k hkl
    rw [H9.out.2.2.2.1 k hkl] at n3
    have j5:(0:Int)≤(k:Int):=by omega
    have j6:(k:Int)<(m:Int):=by omega
    have b2:((k:Int) != (k:Int))=false:=by simp
    clear hcn n0 n1 n2 n4 n5 ev H9 CS
    go_wp2
    go_round
    case rel=>exact ⟨k+1,by omega,by go_num⟩
    case measure=>simp [intOf];omega
   ·have e:m=k:=by omega
    subst e
    have HK9:Hid (Same0 w w9):=H9.out.2.2.2.2
    clear H9
    go_wp2_with (first | (go_at_call 33;refine CS.mono ?_;rintro e wa ⟨rfl,ka⟩;have CI:=HCI.out wa ka) | (go_at_call 30;refine CI.mono ?_;rintro e wb ⟨rfl,kb⟩))
    go_ret
    exact ⟨rfl,((HK9.out.trans' ka).trans' kb).below⟩
end Go.Proofs.Ytcbonegkfppdiaa
namespace Go.Proofs.Ytcbonegkfppdiaa
set_option maxRecDepth 100000
set_option linter.unusedVariables false
open Go.RowKit Go.Deep
theorem cells_node:Try.prog.cellsOf 47=5:=by kernel_rfl
theorem bytes_node:Try.prog.bytesOf 47=56:=by kernel_rfl
theorem cells_boolT:Try.prog.cellsOf 4=1:=by kernel_rfl
theorem cells_intsT:Try.prog.cellsOf 31=1:=by kernel_rfl
def NdI (x:Nd):Prop:=I64 x.1∧(∀ z∈x.2.1,I64 z)∧I64 x.2.2.1∧I64 x.2.2.2.2
section
variable {H : Type} {enc : TypeId × Value → H} {w : World} {spare : Nat → Bool} {held : Bool}
theorem weightsAll_mem11 {P:Program} {e:TypeId} {l:List (DataW H)} {d:DataW H} (h:d∈l) {n:Nat} (hn:n∈d.weights P e):n∈DataW.weightsAll P e l:=by
 induction l with
 | nil=>cases h
 | cons x r ih=>
  simp only [DataW.weightsAll,List.mem_append]
  rcases List.mem_cons.1 h with q | q
  ·subst q;exact .inl hn
  ·exact .inr (ih q)
set_option maxRecDepth 100000 in
theorem open_elems11 {t e c fuel:Nat} {ao:Option Addr} {len cap:Nat} {x:DataW H × List MemPlace} (ht:Try.prog.underlying t=some (.slice e)) (hc:Try.prog.cellsOf e=c) (h0:0<c) (h:DataW.trod enc Try.prog w 0 spare held fuel t [.slice ao len cap]=some x) (hw:∀ n∈x.1.weights Try.prog t,n≤reachBytes) :
  (ao=none∧len=0∧cap=0)∨∃ a,ao=some a∧len≤cap∧cap≤maxLen∧len * Try.prog.bytesOf e≤reachBytes∧∀ i,i<len→a=⟨a.block,a.off,none⟩∧a.block<w.heap.size∧∃ cs n y,cs.length=c∧(∀ j,j<c→w.cell? ⟨a.block,a.off+i * c+j,none⟩=cs[j]?)∧DataW.trod enc Try.prog w 0 spare held n e cs=some y∧∀ n∈y.1.weights Try.prog e,n≤reachBytes:=by
 rcases open_slice ht h with ⟨hcs,_⟩ | ⟨a,len', cap', m,n,D,Pl,hcs,_,hl,hm,hmm,rfl,hx⟩
 ·simp at hcs;exact .inl ⟨hcs.1,hcs.2.1,hcs.2.2⟩
 ·simp at hcs
  obtain ⟨rfl,rfl,rfl⟩:=hcs
  have hb:len * Try.prog.bytesOf e≤reachBytes:=by
   have:=hw ((((List.range len).map D).length+((List.range (m-len)).map fun j=>D (len+j)).length) * Try.prog.bytesOf e) (by simp [DataW.weights,ht])
   refine Nat.le_trans (Nat.mul_le_mul_right _ ?_) this
   simp
  refine .inr ⟨a,rfl,hl,hm,hb,fun i hi=>?_⟩
  have hmi:i<m:=by rw [hmm];split <;> omega
  have hm0:0<m:=by omega
  obtain ⟨cs0,g0,_⟩:=hx 0 hm0
  rw [hc] at g0
  obtain ⟨_,gl,gc⟩:=World.cells?_some g0
  have hsp:a.spot=none:=by
   have:=gc 0 h0
   have hv:cs0[0]? = some (cs0[0]'(by omega)):=List.getElem?_eq_getElem (by omega)
   rw [hv] at this
   simp [Addr.add] at this
   exact World.cell?_spot this
  have hlt:a.block<w.heap.size:=World.cells?_block (by simpa [Addr.add] using g0) h0
  have ea:a=⟨a.block,a.off,none⟩:=by cases a;simp_all
  obtain ⟨cs,g1,g2⟩:=hx i hmi
  rw [hc] at g1
  obtain ⟨_,gl1,gc1⟩:=World.cells?_some g1
  refine ⟨ea,hlt,cs,n,_,gl1,fun j hj=>?_,g2,fun k hk=>hw k ?_⟩
  ·rw [← gc1 j hj,add_add]
   congr 1
   unfold Addr.add
   split
   ·rw [ea];simp;omega
   ·simp
  ·simp only [DataW.weights,ht,List.mem_cons,List.mem_append]
   exact .inr (.inl (weightsAll_mem11 (List.mem_map.2 ⟨i,by simpa using hi,rfl⟩) hk))
theorem trod_node {fuel:Nat} {cs:List Value} {x:DataW H × List MemPlace} (hl:cs.length=5) (h:DataW.trod enc Try.prog w 0 spare held fuel 47 cs=some x) (hw:∀ n∈x.1.weights Try.prog 47,n≤reachBytes):∃ (y:Nd) (xo:Option Addr) (xc:Nat),NdI y∧Arg w xo y.2.1 xc∧cs=[.int .i64 y.1,.slice xo y.2.1.length xc,.int .i64 y.2.2.1,.bool y.2.2.2.1,.int .i64 y.2.2.2.2]:=by
 obtain ⟨y0,y1,y2,y3,y4,n', hyd,hl', g0,g1,g2,g3,g4⟩:=trod_struct5 Try.underlying47 h
 match cs,hl with
 | [c0,c1,c2,c3,c4],_=>
  simp only [cells_int,cells_boolT,cells_intsT,List.drop_zero,List.take_succ_cons,List.take_zero,List.drop_succ_cons] at g0 g1 g2 g3 g4
  obtain ⟨z0,e0,_,w0⟩:=DataW.trod_int Try.underlying3 g0
  obtain ⟨z2,e2,_,w2⟩:=DataW.trod_int Try.underlying3 g2
  obtain ⟨z3,e3,_⟩:=DataW.trod_bool Try.underlying4 g3
  obtain ⟨z4,e4,_,w4⟩:=DataW.trod_int Try.underlying3 g4
  have hyw1:∀ n∈y1.1.weights Try.prog 31,n≤reachBytes:=fun n hn=>hw n (by
   rw [hyd]
   simp only [DataW.weights,Try.underlying47]
   simp [DataW.weightsEach,hn])
  obtain ⟨xo,len,xc,e1⟩:=slice_one Try.underlying31 g1
  subst e1
  obtain ⟨xs,hxl,hxa,hxi⟩:=open_ints64 Try.underlying31 g1 hyw1
  subst hxl
  simp only [List.cons.injEq,and_true] at e0 e2 e3 e4
  subst e0 e2 e3 e4
  exact ⟨(z0,xs,z2,z3,z4),xo,xc,⟨i64_wf w0,hxi,i64_wf w2,i64_wf w4⟩,hxa,rfl⟩
theorem open_nodes {fuel:Nat} {ao:Option Addr} {len cap:Nat} {x:DataW H × List MemPlace} (h:DataW.trod enc Try.prog w 0 spare held fuel 32 [.slice ao len cap]=some x) (hw:∀ n∈x.1.weights Try.prog 32,n≤reachBytes) :
  ∃ l:List Nd,l.length=len∧NsW w ao l∧len * 56≤140737488351232∧len≤cap∧(ao=none→len=0∧cap=0)∧∀ y∈l,NdI y:=by
 rcases open_elems11 Try.underlying32 cells_node (by omega) h hw with ⟨rfl,rfl,rfl⟩ | ⟨a,rfl,hl1,hl2,hsz,hall⟩
 ·exact ⟨[],rfl,.inl rfl,by omega,Nat.le_refl _,fun _=>⟨rfl,rfl⟩,by simp⟩
 ·rw [bytes_node] at hsz
  have each:∀ i,i<len→∃ y:Nd,NdI y∧∃ xo xc,w.cell? ⟨a.block,a.off+i * 5,none⟩=some (.int .i64 y.1)∧w.cell? ⟨a.block,a.off+i * 5+1,none⟩=some (.slice xo y.2.1.length xc)∧w.cell? ⟨a.block,a.off+i * 5+2,none⟩=some (.int .i64 y.2.2.1)∧w.cell? ⟨a.block,a.off+i * 5+3,none⟩=some (.bool y.2.2.2.1)∧w.cell? ⟨a.block,a.off+i * 5+4,none⟩=some (.int .i64 y.2.2.2.2)∧Arg w xo y.2.1 xc:=by
   intro i hi
   obtain ⟨_,_,cs,n,y,hl,hcell,hy,hyw⟩:=hall i hi
   obtain ⟨z,xo,xc,h1,h2,rfl⟩:=trod_node hl hy hyw
   exact ⟨z,h1,xo,xc,by simpa using hcell 0 (by omega),by simpa using hcell 1 (by omega),by simpa using hcell 2 (by omega),by simpa using hcell 3 (by omega),by simpa using hcell 4 (by omega),h2⟩
  obtain ⟨f,hf⟩:=Classical.axiomOfChoice (fun i:Fin len=>each i i.2)
  refine ⟨List.ofFn f,by simp,?_,by simpa [reachBytes] using hsz,hl1,(fun e=>by cases e),fun y hy=>?_⟩
  ·by_cases h0:len=0
   ·subst h0;exact .inl (by simp)
   ·obtain ⟨ea,hlt,_⟩:=hall 0 (by omega)
    refine .inr ⟨a.block,a.off,by rw [← ea],hlt,fun i hi=>?_⟩
    have hi' : i<len:=by simpa using hi
    simpa using (hf ⟨i,hi'⟩).2
  ·obtain ⟨i,rfl⟩:=List.mem_ofFn.1 hy
   exact (hf i).1
end
end Go.Proofs.Ytcbonegkfppdiaa
