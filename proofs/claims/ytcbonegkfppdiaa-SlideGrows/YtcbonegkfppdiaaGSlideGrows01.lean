import Derived.Test.YtcbonegkfppdiaaGS04
import Derived.Test.YtcbonegkfppdiaaGS03
import Derived.Test.YtcbonegkfppdiaaGS07
namespace Go.Proofs.Ytcbonegkfppdiaa
set_option linter.unusedVariables false
theorem Mv.val' {l:List Nd} {R:List Int} {L:List Nat} (hk:KL l R L) {z y:Int} (h:Mv l L z y) {b i:Nat} (hb:Res l z.toNat b) (hi:L[i]? = some b):y=(i:Int):=by
 obtain ⟨b', i', _,h1,h2,rfl⟩:=h
 have:=Res.uniq h1 hb
 subst this
 rw [rise_ne hk.1 h2 hi]
theorem Rts.at {l:List Nd} {L:List Nat} {R R' : List Int} (h:Rts l L R R') {z:Int} (hz:z∈R):∃ y∈R', Mv l L z y:=by
 obtain ⟨j,hj,rfl⟩:=List.mem_iff_getElem.1 hz
 have hj2:j<R'.length:=by rw [h.1];exact hj
 exact ⟨R'[j],List.getElem_mem hj2,h.2 j _ _ (List.getElem?_eq_getElem hj) (List.getElem?_eq_getElem hj2)⟩
theorem KL.get {l:List Nd} {R:List Int} {L:List Nat} (h:KL l R L) {b:Nat} (hb:Kpt l R b):∃ i:Nat,L[i]? = some b:=by
 obtain ⟨i,hi,e⟩:=List.mem_iff_getElem.1 ((h.2 b).2 hb)
 exact ⟨i,by rw [List.getElem?_eq_getElem hi,e]⟩
theorem all_kept {l:List Nd} (hw:Wf l) {R R' : List Int} {L:List Nat} {l' : List Nd} (hR:∀ r∈R,0≤r∧r<(l.length:Int)) (hk:KL l R L) (hs:Sld l L l') (hr:Rts l L R R'):KL l' R' (List.range l'.length):=by
 obtain ⟨wf', app⟩:=hs.wf hw hk
 have reach:∀ c,Kpt l R c→∃ a,L[a]? = some c∧∃ y∈R', Rc l' y.toNat a:=by
  intro c hc
  refine Kpt.in hw hR (S:=fun c=>∃ a,L[a]? = some c∧∃ y∈R', Rc l' y.toNat a) (fun r hrm b hb=>?_) (fun c hc' hS z hz b hb=>?_) hc
  ·obtain ⟨i,hi⟩:=hk.get (Kpt.root hw hrm hb)
   obtain ⟨y,hy,hm⟩:=hr.at hrm
   have:=hm.val' hk hb hi
   subst this
   exact ⟨i,hi,_,hy,by simpa using Rc.refl l' i⟩
  ·obtain ⟨a,ha,y,hy,hrc⟩:=hS
   have kc:Kpt l R c:=(hk.2 c).1 (List.mem_of_getElem? ha)
   obtain ⟨i,hi⟩:=hk.get (kc.arg hw hz hb)
   obtain ⟨h1,h2,a1,a2,a3⟩:=hs.2 a c ha
   obtain ⟨y', hy', hm⟩:=a2.at hz
   have:=hm.val' hk hb hi
   subst this
   refine ⟨i,hi,y,hy,hrc.snoc ⟨h2,?_⟩⟩
   rw [AppN.down ⟨h2,app a h2⟩]
   exact hy'
 refine ⟨List.pairwise_lt_range,fun a=>?_⟩
 rw [List.mem_range]
 refine ⟨fun h=>⟨⟨h,app a h⟩,?_⟩,fun h=>h.1.1⟩
 have hL:a<L.length:=by rw [← hs.1];exact h
 obtain ⟨a', ha', y,hy,hrc⟩:=reach L[a] ((hk.2 _).1 (List.getElem_mem hL))
 have:=rise_ne hk.1 ha' (List.getElem?_eq_getElem hL)
 subst this
 exact ⟨y,hy,hrc⟩
theorem mv_self {l:List Nd} (app:∀ k (hk:k<l.length),l[k].2.2.2.1=false) {z:Int} (hz:0≤z∧z<(l.length:Int)):Mv l (List.range l.length) z z:=by
 have h:z.toNat<l.length:=by omega
 exact ⟨z.toNat,z.toNat,hz.1,Res.self h (app _ h),by simp [h],by omega⟩
theorem rts_self {l:List Nd} (app:∀ k (hk:k<l.length),l[k].2.2.2.1=false) {R:List Int} (hR:∀ z∈R,0≤z∧z<(l.length:Int)):Rts l (List.range l.length) R R:=by
 refine ⟨rfl,fun j z y hz hy=>?_⟩
 rw [hz] at hy
 cases hy
 exact mv_self app (hR z (List.mem_of_getElem? hz))
theorem sld_self {l:List Nd} (hw:Wf l) (app:∀ k (hk:k<l.length),l[k].2.2.2.1=false):Sld l (List.range l.length) l:=by
 refine ⟨by simp,fun k a ha=>?_⟩
 have hk:k<l.length:=by have:=(List.getElem?_eq_some_iff.1 ha).1;simpa using this
 have e:k=a:=by simpa [hk] using ha
 subst e
 exact ⟨hk,hk,rfl,rts_self app (fun z hz=>args_rng hw hk hz),rfl⟩
theorem again_same {l:List Nd} (hw:Wf l) {R R' : List Int} {L:List Nat} {l' : List Nd} (hR:∀ r∈R,0≤r∧r<(l.length:Int)) (hk:KL l R L) (hs:Sld l L l') (hr:Rts l L R R') :
  (∀ z∈R', 0≤z∧z<(l'.length:Int))∧(∀ k (hk:k<l'.length),l'[k].2.2.2.1=false)∧(∀ L2,KL l' R' L2→L2=List.range l'.length)∧∀ L2 l2 R2,KL l' R' L2→Sld l' L2 l2→Rts l' L2 R' R2→l2=l' ∧ R2=R' := by
 obtain ⟨wf', app⟩:=hs.wf hw hk
 have ak:=all_kept hw hR hk hs hr
 have rg:∀ z∈R', 0≤z∧z<(l'.length:Int):=fun z hz=>by
  obtain ⟨_,_,hm⟩:=hr.each hz
  have:=hm.rng
  rw [hs.1];exact this
 refine ⟨rg,app,fun L2 h=>h.uniq ak,fun L2 l2 R2 h1 h2 h3=>?_⟩
 have e:=h1.uniq ak
 subst e
 exact ⟨h2.uniq h1 (sld_self wf' app),h3.uniq h1 (rts_self app rg)⟩
def ResL (l:List Nd) (R S:List Int):Prop:=S.length=R.length∧∀ (j:Nat) (z y:Int),R[j]? = some z→S[j]? = some y→∃ b:Nat,y=(b:Int)∧Res l z.toNat b
theorem ResL.nil (l:List Nd):ResL l [] []:=⟨rfl,fun j z y h=>by simp at h⟩
theorem ResL.snoc {l:List Nd} {R S:List Int} (h:ResL l R S) {z:Int} {b:Nat} (hb:Res l z.toNat b):ResL l (R ++ [z]) (S ++ [(b:Int)]):=by
 refine ⟨by simp [h.1],fun j x y hx hy=>?_⟩
 have hl:=h.1
 by_cases e:j<R.length
 ·rw [List.getElem?_append_left e] at hx
  rw [List.getElem?_append_left (by omega)] at hy
  exact h.2 j x y hx hy
 ·have hj:j=R.length:=by have:=(List.getElem?_eq_some_iff.1 hx).1;simp at this;omega
  subst hj
  rw [List.getElem?_append_right (Nat.le_refl _),Nat.sub_self] at hx
  rw [List.getElem?_append_right (by omega),hl,Nat.sub_self] at hy
  simp at hx hy
  subst hx hy
  exact ⟨b,rfl,hb⟩
theorem ResL.each {l:List Nd} {R S:List Int} (h:ResL l R S) {y:Int} (hy:y∈S):∃ z∈R,∃ b:Nat,y=(b:Int)∧Res l z.toNat b:=by
 obtain ⟨j,hj,rfl⟩:=List.mem_iff_getElem.1 hy
 have hj2:j<R.length:=by rw [← h.1];exact hj
 exact ⟨R[j],List.getElem_mem hj2,h.2 j _ _ (List.getElem?_eq_getElem hj2) (List.getElem?_eq_getElem hj)⟩
theorem ResL.at {l:List Nd} {R S:List Int} (h:ResL l R S) {z:Int} (hz:z∈R):∃ y∈S,∃ b:Nat,y=(b:Int)∧Res l z.toNat b:=by
 obtain ⟨j,hj,rfl⟩:=List.mem_iff_getElem.1 hz
 have hj2:j<S.length:=by rw [h.1];exact hj
 exact ⟨S[j],List.getElem_mem hj2,h.2 j _ _ (List.getElem?_eq_getElem hj) (List.getElem?_eq_getElem hj2)⟩
theorem kpt_res {l:List Nd} (hw:Wf l) {R S:List Int} (h:ResL l R S) (a:Nat):Kpt l S a ↔ Kpt l R a:=by
 constructor
 ·rintro ⟨ha,y,hy,hc⟩
  obtain ⟨z,hz,b,rfl,hb⟩:=h.each hy
  exact ⟨ha,z,hz,(hb.rc hw).trans (by simpa using hc)⟩
 ·rintro ⟨ha,z,hz,hc⟩
  obtain ⟨y,hy,b,rfl,hb⟩:=h.at hz
  exact ⟨ha,_,hy,by simpa using hb.under hw hc ha⟩
theorem kl_res {l:List Nd} (hw:Wf l) {R S:List Int} (h:ResL l R S) {L M:List Nat} (hL:KL l R L) (hM:KL l S M):M=L:=rise_uniq hM.1 hL.1 (fun a=>((hM.2 a).trans (kpt_res hw h a)).trans (hL.2 a).symm)
theorem kpt_more {l:List Nd} {R:List Int} {x:Int} {a:Nat} (h:Kpt l R a):Kpt l (R ++ [x]) a:=by
 obtain ⟨h1,r,hr,h2⟩:=h
 exact ⟨h1,r,by simp [hr],h2⟩
theorem kl_nil {l:List Nd} {L:List Nat} (h:KL l [] L):L=[]:=by
 cases L with
 | nil=>rfl
 | cons a L=>
  obtain ⟨_,r,hr,_⟩:=(h.2 a).1 (by simp)
  cases hr
end Go.Proofs.Ytcbonegkfppdiaa
namespace Go.Proofs.Ytcbonegkfppdiaa
set_option maxRecDepth 100000
set_option linter.unusedVariables false
open Go.RowKit
attribute [local go_sem ↓] Go.wp_at_zero Go.wp_at_succ
def eqL (l l' : List Nd):Bool:=decide (l=l')
theorem eqL_self (l:List Nd):eqL l l=true:=by unfold eqL;simp
set_option maxHeartbeats 2000000 in
theorem sameNodes_any {w:World} {ao bo:Option Addr} {ac bc:Nat} {l l' : List Nd} (h:NsW w ao l) (h' : NsW w bo l') (hm:l.length≤maxLen) :
  Calls Try.prog 33 #[.slice ao l.length ac,.slice bo l'.length bc] w fun e w' => e=.returned (.bool (eqL l l'))∧Same0 w w' := by
 unfold maxLen at hm
 by_cases hl:l.length=l'.length
 ·have hl' : (l.length:Int)=(l'.length:Int):=by omega
  have HX:Hid (∀ ww,Same0 w ww→NsW ww ao l):=fun ww hw=>h.same hw
  have HY:Hid (∀ ww,Same0 w ww→NsW ww bo l'):=fun ww hw=>h'.same hw
  have HL:Hid (l.length=l'.length):=hl
  have KR:Same0 w w:=Kept.refl _ _
  clear h h' hl
  go_enter Try.func33,Try.ntmps33
  go_wp2
  go_loopw [5] (fun i wr=>∃ k:Nat,k≤l.length∧i=.int .i64 k∧Hid (∀ j (h1:j<l.length) (h2:j<l'.length),j<k→l[j]=l'[j])∧Same0 w wr) (fun i _=>l.length-(intOf i).toNat)
  case atStart=>exact ⟨0,Nat.zero_le _,rfl,fun j _ _ hj=>absurd hj (Nat.not_lt_zero _),KR⟩
  case round=>
   clear KR
   obtain ⟨k,hk,rfl,hall,hw⟩:=hrel
   by_cases hlt:k<l.length
   ·have hlt' : k<l'.length:=by rw [← HL.out];exact hlt
    have i1:(0:Int)≤(k:Int):=by omega
    have i2:(k:Int)<(l.length:Int):=by omega
    have i3:(k:Int)<(l'.length:Int):=by omega
    rcases HX.out wr.drew (hw.drew) with e | ⟨mb,moff,e,hmb,hm'⟩
    ·rw [e] at hlt;simp at hlt
    subst e
    rcases HY.out wr.drew (hw.drew) with e | ⟨nb,noff,e,hnb,hn⟩
    ·rw [e] at hlt'; simp at hlt'
    subst e
    obtain ⟨xo,xc,m0,m1,m2,m3,m4,m5⟩:=hm' k hlt
    obtain ⟨yo,yc,n0,n1,n2,n3,n4,n5⟩:=hn k hlt'
    have CS:=sameNode_any m5 n5
    have HEY:Hid (eqN l[k] l'[k]=true→l[k]=l'[k]):=fun e=>by unfold eqN at e;simpa using e
    have HEN:Hid (eqN l[k] l'[k]=false→eqL l l' = false):=fun e=>by
     unfold eqN at e
     unfold eqL
     simp at e ⊢
     rintro rfl
     exact e rfl
    clear hm' hn m5 n5
    generalize eqN l[k] l'[k]=R at *
    go_upto_region 6 with fail
    go_region_with (first | (go_at_call 22;refine CS.mono ?_;rintro e w8 ⟨rfl,k8⟩))
    all_goals
     have hw8:Same0 w w8:=Same0.trans' (Kept.drew hw) k8
     clear m0 m1 m2 m3 m4 n0 n1 n2 n3 n4 CS
     cases R
     ·have HF:Hid (eqL l l' = false):=HEN.out rfl
      go_wp2
      go_ret
      exact ⟨ret_bool HF.out.symm,hw8⟩
     ·have HF:Hid (∀ j (h1:j<l.length) (h2:j<l'.length),j<k+1→l[j]=l'[j]):=fun j h1 h2 hj=>by
       by_cases e:j=k
       ·subst e;exact HEY.out rfl
       ·exact hall.out j h1 h2 (by omega)
      go_wp2
      go_roundw
      case rel=>first | exact ⟨k+1,by omega,by go_num,HF,hw8⟩ | ((repeat apply Exists.intro);exact ⟨⟨k+1,by omega,by go_num,HF,hw8⟩,rfl⟩)
      case measure=>simp [intOf];omega
   ·obtain rfl:k=l.length:=by omega
    have HE:Hid (eqL l l' = true):=by
     show _=_
     unfold eqL
     simp
     exact List.ext_getElem HL.out (fun j h1 h2=>hall.out j h1 h2 h1)
    clear hall
    go_wp2
    go_ret
    exact ⟨ret_bool HE.out.symm,hw⟩
 ·have HE:Hid (eqL l l' = false):=by show _=_;unfold eqL;simp;rintro rfl;exact hl rfl
  have hl' : ¬ (l.length:Int)=(l'.length:Int):=by omega
  have KR:Hid (Same0 w w):=Kept.refl _ _
  clear h h' hl
  go_enter Try.func33,Try.ntmps33
  go_wp2
  go_ret
  exact ⟨ret_bool HE.out.symm,KR.out⟩
theorem Row.argL {base:Nat} {w:World} {v:Value} {xs:List Int} (h:Row base w v xs) (hl:xs.length≤20000000000000):∃ ao ac,v=.slice ao xs.length ac∧ArgL w ao xs ac∧∀ a,ao=some a→base≤a.block∧a.block<w.heap.size:=by
 obtain ⟨ao,ac,e,h1,h2,h3⟩:=h.ints
 refine ⟨ao,ac,e,⟨h1,h2,fun q=>?_,hl⟩,h3⟩
 subst q
 rcases h.2 with ⟨e2,h0⟩ | ⟨g,cap,cur,e2,_⟩
 ·rw [e] at e2
  simp only [Value.slice.injEq] at e2
  exact ⟨h0,e2.2.2⟩
 ·rw [e] at e2
  simp only [Value.slice.injEq] at e2
  cases e2.1
theorem kl_len' {l:List Nd} {R:List Int} {L:List Nat} (h:KL l R L):L.length≤l.length:=by
 have h1:L.Sublist (List.range l.length):=by
  have:L=(List.range l.length).filter (fun a=>decide (a∈L)):=by
   apply rise_uniq h.1 (List.Pairwise.filter _ List.pairwise_lt_range)
   intro a
   simp only [List.mem_filter,List.mem_range,decide_eq_true_eq]
   exact ⟨fun q=>⟨((h.2 a).1 q).1.1,q⟩,fun q=>q.2⟩
  rw [this]
  exact List.filter_sublist
 simpa using h1.length_le
theorem IntsAt.past {w w1 ww:World} {ao:Option Addr} {xs:List Int} (h:IntsAt w ao xs) (k:Same0 w w1) {mb:Nat} (hk:Kept (fun k=>k=mb) w1 ww) (hm:w.heap.size≤mb):IntsAt ww ao xs:=by
 rcases h.same k with e | ⟨b,off,e,hlt,hc⟩
 ·exact .inl e
 ·by_cases e0:xs=[]
  ·exact .inl e0
  ·have hb:b<w.heap.size:=h.lt e0 e
   exact .inr ⟨b,off,e,Nat.lt_of_lt_of_le hlt hk.size,fun i hi=>(hk.cell (p:=⟨b,off+i,none⟩) hlt (by simp only;omega)).trans (hc i hi)⟩
theorem NsW.past {w w1 ww:World} {ao:Option Addr} {l:List Nd} (h:NsW w ao l) (k:Same0 w w1) {mb:Nat} (hk:Kept (fun k=>k=mb) w1 ww) (hm:w.heap.size≤mb):NsW ww ao l:=((h.below.same k).kept hk (fun b hb q=>by omega)).weak
set_option maxHeartbeats 4000000 in
theorem sgrows_walk {w:World} {lo ro:Option Addr} {lc rc:Nat} {l:List Nd} {raw:List Int} (hs:NsW w lo l) (hsz:l.length * 56≤140737488351232) (hx:Arg w ro raw rc) (hr:∀ z∈raw,I64 z) (more:Int) (hmr:I64 more) :
  Calls Try.prog 11 #[.slice lo l.length lc,.slice ro raw.length rc,.int .i64 more] w fun e w' => e=.returned (.bool true)∧Below w.heap.size w w' := by
 have C0:=awake12_any w
 have HS:Hid (∀ ww,Same0 w ww→NsW ww lo l):=fun ww hk=>hs.same hk
 have HX:Hid (∀ ww,Same0 w ww→Arg ww ro raw rc):=fun ww hk=>hx.onto hk
 have HZ:Hid (l.length≤maxLen∧(∀ z∈raw,I64 z)∧I64 more):=⟨by unfold maxLen;omega,hr,hmr⟩
 clear hs hsz hx hr hmr
 go_enter Try.func11,Try.ntmps11
 go_upto_region 3 with (first | (go_at_call 25;refine C0.mono ?_;rintro e w1 ⟨rfl,k1⟩;have C1:=made12_any (ac:=lc) (HS.out w1 k1) HZ.out.1) | (go_at_call 26;refine C1.mono ?_;rintro e w2 hmd;rcases hmd with ⟨rfl,k2⟩ | ⟨h,g,r,v,rfl,md⟩))
 ·have K:Hid (Same0 w w2):=k1.trans' k2
  clear C0 C1
  go_wp2
  go_ret
  exact ⟨rfl,K.out.below⟩
 ·have K2:Same0 w w2:=k1.trans' md.same
  have hle:l.length≤4000:=md.hp.le
  have HW:Hid (Wf l):=⟨md.hp.may,md.hp.ac⟩
  have HP2:Hid (∀ ww,Same0 w2 ww→Hp ww h g 4000 l):=fun ww hk=>md.hp.any.same hk
  clear C0 C1 md k1
  by_cases h0:l.length=0
  ·have C3:=live_yes (HP2.out w2 (Kept.refl _ _)) (arg_nil w2) (R:=[]) (by intro r hr;cases hr)
   have HL0:Hid (l.length=0):=h0
   rw [h0]
   clear h0
   go_upto_region 7 with (first | (go_at_call 28;refine C3.mono ?_;rintro e w3 ⟨v3,L,rfl,hkl,hrow,k3⟩))
   have e:=kl_nil hkl
   subst e
   obtain ⟨vo,vc,e⟩:=row_shape hrow
   subst e
   have KK:=(K2.trans' k3).below
   clear C3 hrow hkl
   go_wp2
   go_ret
   exact ⟨rfl,KK⟩
  ·have C2:=some12_any (HX.out w2 K2) HZ.out.2.1 l.length hle
   have HRG:Hid ((∀ z∈someL l.length raw,0≤z∧z<(l.length:Int))∧(someL l.length raw).length * 8≤140737488351232):=⟨someL_rng,by have:=someL_len l.length raw;have:=(HX.out w2 K2).size;omega⟩
   generalize someL l.length raw=R at *
   obtain ⟨n,hn⟩:∃ n,n=l.length:=⟨_,rfl⟩
   have HNE:Hid (n=l.length):=hn
   have i0:(0:Int)<(n:Int):=by omega
   have i1:(n:Int)≤4000:=by omega
   have i2:((n:Int) == 0)=false:=by simp;omega
   rw [← hn] at C2 ⊢
   clear hn h0
   go_upto_region 9 with (first | (go_at_call 36;refine C2.mono ?_;rintro e w3 ⟨rv,rfl,hrow3,k3⟩))
   obtain ⟨so,sc,e,hArg,hAb⟩:=hrow3.argS HRG.out.2
   subst e
   have C3:=live_yes (HP2.out w3 k3) hArg.1 HRG.out.1
   have K3:=K2.trans' k3
   have HA:Hid (∀ ww,Same0 w3 ww→Arg ww so R sc∧Hp ww h g 4000 l):=fun ww hk=>⟨hArg.1.onto hk,HP2.out ww (k3.trans' hk)⟩
   clear C2 hrow3 hArg hAb
   go_upto_region 10 with (first | (go_at_call 28;refine C3.mono ?_;rintro e w4 ⟨av,La,rfl,hkla,hrowa,k4⟩))
   obtain ⟨ao,ac,e,aI, -,aB⟩:=hrowa.ints
   rw [ofN_len'] at e
   subst e
   have hlena:=kl_len' hkla
   have k0:Same0 w4 (w4.alloc (.cells #[] 3)):=(Kept.refl _ w4).alloc _
   have r0:Row w4.heap.size (w4.alloc (.cells #[] 3)) (.slice (some ⟨w4.heap.size,0,none⟩) 0 0) []:=row_empty w4 _ (Nat.le_refl _) rfl
   have cI:IntsAt (w4.alloc (.cells #[] 3)) so R:=(HA.out w4 k4).1.at'.same k0
   have hnil:=(HA.out w4 k4).1.nil
   have z0:=k0.size
   have y0:(([]:List Int).length+R.length) * 8≤140737488355328:=by have:=HRG.out.2;simp;omega
   have y1:(R.length+1) * 8≤140737488355328:=by have:=HRG.out.2;omega
   have CP:=fun ww=>pick12_any more HZ.out.2.2 (n:Int) (by omega) (by omega) ww
   have hpk:=pick_lt more (n:=(n:Int)) (by omega)
   generalize pickF more (n:Int)=x at *
   have HRX:Hid (∀ z∈R ++ [(x:Int)],0≤z∧z<(l.length:Int)):=fun z hz=>by
    rcases List.mem_append.1 hz with e | e
    ·exact HRG.out.1 z e
    ·simp only [List.mem_singleton] at e
     subst e
     have:=HNE.out
     omega
   have HB4:Hid (∀ v6 w6,Row w4.heap.size w6 v6 (R ++ [(x:Int)])→Same0 w4 w6→∃ bo bc,v6=.slice bo (R.length+1) bc∧(Calls Try.prog 28 #[.pointer (some ⟨h,0,none⟩),.slice bo (R.length+1) bc] w6 fun e w' => ∃ v L,e=.returned (.tuple #[v,.int .i64 0])∧KL l (R ++ [(x:Int)]) L∧Row w6.heap.size w' v (ofN L)∧Same0 w6 w')):=fun v6 w6 hr hk=>by
    obtain ⟨bo,bc,e,hA6,_⟩:=hr.argL (by have:=HRG.out.2;simp;omega)
    have hl6:(R ++ [(x:Int)]).length=R.length+1:=by simp
    have:=liveL_yes (HA.out w6 (k4.trans' hk)).2 hA6 HRX.out
    rw [hl6] at e this
    exact ⟨bo,bc,e,this⟩
   have KA:Hid (Same0 w4 (w4.alloc (.cells #[] 3))):=k0
   clear C3 hrowa k0
   go_upto_region 11 with (first
    | (at_builtin;refine wpList_push rfl _ _ 31 rfl Try.underlying31 w4.heap.size R _ rfl hr5 (x:Int) rfl hz5 y1 ?_;intro g6 c6 w6 hr6 hk6 hg6;have k6:Same0 w4 w6:=k5.onto hr5 hk6;obtain ⟨bo,bc,e,CL⟩:=HB4.out _ w6 hr6 k6;simp only [Value.slice.injEq] at e;obtain ⟨rfl, -,rfl⟩:=e)
    | (at_builtin;refine wpList_more9 rfl _ _ 31 rfl Try.underlying31 w4.heap.size [] _ rfl r0 R _ _ _ rfl rfl cI hnil z0 y0 ?_;intro v5 w5 hr5 hk5;rw [List.nil_append] at hr5;have k5:Same0 w4 w5:=KA.out.onto r0 hk5;have hz5:w4.heap.size≤w5.heap.size:=k5.size;have CPP:=CP w5)
    | (go_at_call 39;refine CPP.mono ?_;rintro e wp ⟨rfl,hwp⟩;have hwp:=hwp.symm;subst hwp)
    | (go_at_call 28;refine CL.mono ?_;rintro e w7 ⟨bv7,Lb,rfl,hklb,hrowb,k7⟩))
   obtain ⟨po,pc,e,pI, -,pB⟩:=hrowb.ints
   rw [ofN_len'] at e
   subst e
   have hlenb:=kl_len' hklb
   have k47:Same0 w4 w7:=k6.trans' k7
   have K7:Same0 w w7:=(K3.trans' k4).trans' k47
   have H7:Hid (IntsAt w7 ao (ofN La)∧IntsAt w7 po (ofN Lb)∧KL l R La∧KL l (R ++ [(x:Int)]) Lb∧Same0 w w7∧Same0 w3 w7):=⟨aI.same k47,pI,hkla,hklb,K7,k4.trans' k47⟩
   obtain ⟨N,hN⟩:∃ N,N=R.length:=⟨_,rfl⟩
   have HN:Hid (N=R.length):=hN
   have HNZ:Hid (N * 8≤140737488351232):=by rw [hN];exact HRG.out.2
   have hN0:(0:Int)≤(N:Int):=by omega
   rw [← hN]
   have HR0:Hid (Row w7.heap.size w7 (.slice none 0 0) []∧ResL l (R.take 0) []∧Same0 w7 w7):=⟨World.ownsRow_nil _ _ _ _,ResL.nil l,Kept.refl _ _⟩
   clear hrowb aI aB pI pB hkla hklb k47 K7 hk6 hr6 hg6 k6 k7 hr5 hk5 k5 hz5 CPP CL CP r0 cI hnil z0 y0 y1 hpk HB4 KA HRX hN
   go_wp2
   go_loopw [17,18] (fun v17 v18 wr=>∃ (k:Nat) (S:List Int),k≤N∧v18=.int .i64 (k:Int)∧Hid (Row w7.heap.size wr v17 S∧ResL l (R.take k) S∧Same0 w7 wr)) (fun _ v18 _=>N-(intOf v18).toNat)
   case atStart=>exact ⟨0,[],Nat.zero_le _,rfl,HR0⟩
   case round=>
    clear HR0
    obtain ⟨k,S,hk,rfl,HK⟩:=hrel
    by_cases hlt:k<N
    ·have hkR:k<R.length:=by rw [← HN.out];exact hlt
     have ha:=HA.out wr (H7.out.2.2.2.2.2.trans' HK.out.2.2)
     obtain ⟨sb,sf,e,hsb,cs⟩:=ha.1.at'.get hkR
     subst e
     have hz:=HRG.out.1 _ (List.getElem_mem hkR)
     obtain ⟨z,hze⟩:∃ z:Nat,R[k]=(z:Int):=⟨R[k].toNat,by omega⟩
     have HZE:Hid (R[k]=(z:Int)):=hze
     rw [hze] at cs
     have CR:=hres_yes ha.2 z (by omega)
     have HT:Hid (R.take (k+1)=R.take k ++ [(z:Int)]):=by show _=_;rw [List.take_succ_eq_append_getElem hkR,hze]
     have hSl:S.length=k:=by have:=HK.out.2.1.1;simp at this;omega
     have hsz:(S.length+1) * 8≤140737488355328:=by have:=HNZ.out;omega
     have iw:IntKind.i64.wrap ((k:Int)+1)=(k:Int)+1:=by rw [IntKind.wrap_i64];have:=HNZ.out;omega
     have j5:(0:Int)≤(k:Int):=by omega
     have j6:(k:Int)<(N:Int):=by omega
     obtain ⟨qo,qc,e⟩:=row_shape HK.out.1
     subst e
     have hb7:w7.heap.size≤wr.heap.size:=HK.out.2.2.size
     clear ha hze hz hSl
     go_wp2_with (first
      | (go_at_call 37;refine CR.mono ?_;rintro e w8 ⟨b,rfl,hres,k8⟩;have hr8:Row w7.heap.size w8 (.slice qo S.length qc) S:=k8.row HK.out.1 (fun _ _ f=>f);have hb8:w7.heap.size≤w8.heap.size:=Nat.le_trans hb7 k8.size)
      | (at_builtin;refine wpList_push rfl _ _ 31 rfl Try.underlying31 w7.heap.size S _ rfl hr8 (b:Int) rfl hb8 hsz ?_;intro g9 c9 w9 hr9 hk9 hg9))
     have HK9:Hid (Row w7.heap.size w9 (.slice (some ⟨g9,0,none⟩) (S.length+1) c9) (S ++ [(b:Int)])∧ResL l (R.take (k+1)) (S ++ [(b:Int)])∧Same0 w7 w9):=⟨hr9,by rw [HT.out];exact HK.out.2.1.snoc (by simpa using hres),(HK.out.2.2.trans' k8).onto hr8 hk9⟩
     go_roundw
     case rel=>first | exact ⟨k+1,S ++ [(b:Int)],by omega,by go_num,HK9⟩ | ((repeat apply Exists.intro);exact ⟨⟨k+1,S ++ [(b:Int)],by omega,by go_num,HK9⟩,rfl⟩)
     case measure=>simp [intOf];omega
    ·have e:N=k:=by omega
     subst e
     have hres:=HK.out.2.1
     rw [List.take_of_length_le (by rw [HN.out];exact Nat.le_refl _)] at hres
     have HRS:Hid (ResL l R S):=hres
     have hSl:S.length=N:=by rw [hres.1,HN.out]
     obtain ⟨qo,qc,e,qA,qB⟩:=HK.out.1.argS (by rw [hSl];exact HNZ.out)
     subst e
     have k9:=HK.out.2.2
     have HSR:Hid (∀ z∈S,0≤z∧z<(l.length:Int)):=fun z hz=>by
      obtain ⟨_,_,b,rfl,hb⟩:=hres.each hz
      have:=hb.2.1
      omega
     have CL:=live_yes (HA.out wr (H7.out.2.2.2.2.2.trans' k9)).2 qA.1 HSR.out
     have HQ:Hid (IntsAt wr qo S∧Same0 w7 wr):=⟨qA.1.at', k9⟩
     rw [hSl] at CL ⊢
     have HSL:Hid (S.length=N):=hSl
     clear hres qA qB HK hSl k9 hlt hk
     go_upto_region 18 with (first | (go_at_call 28;refine CL.mono ?_;rintro e w10 ⟨cv,Lc,rfl,hklc,hrowc,k10⟩))
     have e:=kl_res HW.out HRS.out H7.out.2.2.1 hklc
     subst e
     obtain ⟨co,cc,e,cI, -,cB⟩:=hrowc.ints
     have k710:=HQ.out.2.trans' k10
     have CS:=sameInts_any ac cc (H7.out.1.same k710) cI (by unfold maxLen;rw [ofN_len'];omega)
     rw [show eqI (ofN Lc) (ofN Lc)=true by unfold eqI;simp] at CS
     rw [ofN_len'] at CS e
     subst e
     clear CL hklc hrowc
     go_upto_region 21 with (first | (go_at_call 30;refine CS.mono ?_;rintro e w11 ⟨rfl,k11⟩))
     have k711:=k710.trans' k11
     have K11:=H7.out.2.2.2.2.1.trans' k711
     obtain ⟨ib,hib,hw0,hw1,hw2⟩:=info_parts info_boolT
     have s7:=k711.size
     have sr:wr.heap.size≤w11.heap.size:=Nat.le_trans k10.size k11.size
     have j0:(0:Int)≤(n:Int):=by omega
     clear CS
     go_upto_region 23 with (first | (at_make;refine wpList_make_full _ rfl _ _ 73 rfl _ 4 ib _ 1 Try.underlying73 hib hw0 hw1 _ _ _ _ n rfl rfl rfl rfl (by rw [hw2];omega) (by unfold maxLen;omega) (Nat.le_refl _) ?_;intro w12 hown hgrow))
     rw [made_bools] at hown
     have k12:Same0 w11 w12:=Same0.grown (Kept.refl _ w11) hgrow
     obtain ⟨mb,hmb⟩:∃ mb,mb=w11.heap.size:=⟨_,rfl⟩
     rw [← hmb] at hown ⊢
     obtain ⟨mL,hmL⟩:∃ mL,mL=Lb.length:=⟨_,rfl⟩
     obtain ⟨mA,hmA⟩:∃ mA,mA=Lc.length:=⟨_,rfl⟩
     have HML:Hid (mL=Lb.length∧mA=Lc.length∧Lb.length≤l.length∧Lc.length≤l.length):=⟨hmL,hmA,hlenb,hlena⟩
     have H12:Hid (∀ ww,Kept (fun k=>k=mb) w12 ww→IntsAt ww ao (ofN Lc)∧IntsAt ww po (ofN Lb)∧IntsAt ww qo S∧NsW ww lo l∧Hp ww h g 4000 l∧Same0 w ww):=fun ww hk=>by
      have e:=H7.out
      have K12:Same0 w w12:=K11.trans' k12
      have kk:Same0 w ww:=K12.trans hk (fun i hi q=>by have:=K11.size;omega)
      have sw:=K11.size
      refine ⟨e.1.past (k711.trans' k12) hk (by omega),e.2.1.past (k711.trans' k12) hk (by omega),HQ.out.1.past (k10.trans' (k11.trans' k12)) hk (by omega),HS.out ww kk,?_,kk⟩
      have p12:=(HA.out w12 (e.2.2.2.2.2.trans' (k711.trans' k12))).2
      have p11:=(HA.out w11 (e.2.2.2.2.2.trans' k711)).2
      have:=p11.ltH
      have:=p11.ltG
      exact p12.kept hk (by omega) (by omega) (fun k _ q cur hc=>by
       subst q
       have hb:=(full_block hown)
       rw [hb] at hc;cases hc)
     have HR0:Hid (w12.ownsRow mb 4 1 (.slice (some ⟨mb,0,none⟩) n n) n (bv (List.replicate n false))∧(∀ j (hj:j<Lb.length),j<0→Mk (List.replicate n false) Lb[j])∧Kept (fun k=>k=mb) w12 w12):=⟨hown,fun j _ h0=>absurd h0 (Nat.not_lt_zero _),Kept.refl _ _⟩
     have j7:(mL:Int)≤4000:=by omega
     have j8:(mA:Int)≤4000:=by omega
     rw [← hmL,← hmA]
     clear hown hgrow hmb hmL hmA k12 K11 k711 k710 cI cB
     go_loopw [25] (fun v25 wx=>∃ (k:Nat) (s:List Bool),k≤mL∧v25=.int .i64 (k:Int)∧Hid (wx.ownsRow mb 4 1 (.slice (some ⟨mb,0,none⟩) n n) n (bv s)∧(∀ j (hj:j<Lb.length),j<k→Mk s Lb[j])∧Kept (fun k=>k=mb) w12 wx)) (fun v25 _=>mL-(intOf v25).toNat)
     case atStart=>exact ⟨0,_,Nat.zero_le _,rfl,HR0⟩
     case round=>
      clear HR0
      obtain ⟨k,s,hk,rfl,HK⟩:=hrel
      by_cases hlt:k<mL
      ·have hkL:k<Lb.length:=by rw [← HML.out.1];exact hlt
       obtain ⟨vb,vf,e,hvb,cv⟩:=(H12.out wr HK.out.2.2).2.1.get (i:=k) (by rw [ofN_len'];exact hkL)
       subst e
       rw [ofN_at] at cv
       have hal:Lb[k]<l.length:=((H7.out.2.2.2.1.2 _).1 (List.getElem_mem hkL)).1.1
       have han:Lb[k]<n:=by rw [HNE.out];exact hal
       obtain ⟨ob, -,co,fo⟩:=row_bool HK.out.1 han
       have HK1:Hid ((wr.setCell ⟨mb,Lb[k],none⟩ (.bool true)).ownsRow mb 4 1 (.slice (some ⟨mb,0,none⟩) n n) n (bv (s.set Lb[k] true))∧(∀ j (hj:j<Lb.length),j<k+1→Mk (s.set Lb[k] true) Lb[j])∧Kept (fun k=>k=mb) w12 (wr.setCell ⟨mb,Lb[k],none⟩ (.bool true))):=by
        have hsl:Lb[k]<s.length:=by have:=HK.out.1.1;simp [bv] at this;omega
        refine ⟨by rw [bv_set];exact (HK.out.1.stored Lb[k] _).1,fun j hj hjk=>?_,Kept.setCell (S:=fun k=>k=mb) HK.out.2.2 (p:=⟨mb,Lb[k],none⟩) (fun _=>rfl) _⟩
        by_cases e:Lb[j]=Lb[k]
        ·rw [e];exact List.getElem?_set_self hsl
        ·have hjk2:j≠k:=fun q=>e (by subst q;rfl)
         have:=HK.out.2.1 j hj (by omega)
         show (s.set Lb[k] true)[Lb[j]]? = some true
         rw [List.getElem?_set_ne (Ne.symm e)]
         exact this
       generalize Lb[k]=a at *
       have ha1:(0:Int)≤(a:Int):=by omega
       have ha2:(a:Int)<(n:Int):=by omega
       have j5:(0:Int)≤(k:Int):=by omega
       have j6:(k:Int)<(mL:Int):=by omega
       have d1:decide (n≤a)=false:=by simp;omega
       have d2:decide ((n:Int)≤(a:Int))=false:=by simp;omega
       clear hal han HK
       go_wp2
       go_roundw
       case rel=>first | exact ⟨k+1,_,by omega,by go_num,HK1⟩ | ((repeat apply Exists.intro);exact ⟨⟨k+1,_,by omega,by go_num,HK1⟩,rfl⟩)
       case measure=>simp [intOf];omega
      ·have e:mL=k:=by omega
       subst e
       have HMK:Hid (∀ a,Kpt l (R ++ [(x:Int)]) a→Mk s a):=fun a ha=>by
        obtain ⟨j,hj,e⟩:=List.mem_iff_getElem.1 ((H7.out.2.2.2.1.2 a).2 ha)
        rw [← e]
        exact HK.out.2.1 j hj (by rw [HML.out.1];exact hj)
       obtain ⟨w13,hw13⟩:∃ w13,w13=wr:=⟨_,rfl⟩
       have hh:=H12.out wr HK.out.2.2
       have HB:Hid (∀ ww a,Same0 wr ww→a<n→Mk s a→ww.cell? ⟨mb,a,none⟩=some (.bool true)):=fun ww a hk ha hm=>by
        obtain ⟨b,h1,h2,h3⟩:=row_bool HK.out.1 ha
        have e:b=true:=by have:s[a]? = some true:=hm;rw [this] at h1;exact (Option.some.inj h1).symm
        subst e
        have hlt:mb<wr.heap.size:=lt_of_at (full_block HK.out.1)
        exact (hk.cell (p:=⟨mb,a,none⟩) hlt (fun f=>f)).trans h2
       have H13:Hid (∀ ww,Same0 wr ww→IntsAt ww ao (ofN Lc)∧IntsAt ww po (ofN Lb)∧IntsAt ww qo S∧NsW ww lo l∧Hp ww h g 4000 l∧Same0 w ww):=fun ww hk=>⟨hh.1.same hk,hh.2.1.same hk,hh.2.2.1.same hk,hh.2.2.2.1.same hk,hh.2.2.2.2.1.same hk,hh.2.2.2.2.2.trans' hk⟩
       clear hh HK hlt hk hw13
       go_wp2
       go_loop [26] (fun v26=>∃ k:Nat,k≤mA∧v26=.int .i64 (k:Int)) (fun v26=>mA-(intOf v26).toNat)
       case atStart=>exact ⟨0,Nat.zero_le _,rfl⟩
       case round=>
        obtain ⟨k,hk,rfl⟩:=hrel
        by_cases hlt:k<mA
        ·have hkL:k<Lc.length:=by rw [← HML.out.2.1];exact hlt
         obtain ⟨vb,vf,e,hvb,cv⟩:=(H13.out wr (Kept.refl _ _)).1.get (i:=k) (by rw [ofN_len'];exact hkL)
         subst e
         rw [ofN_at] at cv
         have kp:=(H7.out.2.2.1.2 _).1 (List.getElem_mem hkL)
         have han:Lc[k]<n:=by rw [HNE.out];exact kp.1.1
         have cb:=HB.out wr _ (Kept.refl _ _) han (HMK.out _ (kpt_more kp))
         generalize Lc[k]=a at *
         have ha1:(0:Int)≤(a:Int):=by omega
         have ha2:(a:Int)<(n:Int):=by omega
         have j5:(0:Int)≤(k:Int):=by omega
         have j6:(k:Int)<(mA:Int):=by omega
         have d1:decide (n≤a)=false:=by simp;omega
         have d2:decide ((n:Int)≤(a:Int))=false:=by simp;omega
         clear kp
         go_wp2
         go_round
         case rel=>first | exact ⟨k+1,by omega,by go_num⟩ | ((repeat apply Exists.intro);exact ⟨⟨k+1,by omega,by go_num⟩,rfl⟩)
         case measure=>simp [intOf];omega
        ·have e:mA=k:=by omega
         subst e
         clear hlt hk
         go_wp2
         go_loop [27] (fun v27=>∃ k:Nat,k≤N∧v27=.int .i64 (k:Int)) (fun v27=>N-(intOf v27).toNat)
         case atStart=>exact ⟨0,Nat.zero_le _,rfl⟩
         case round=>
          obtain ⟨k,hk,rfl⟩:=hrel
          by_cases hlt:k<N
          ·have hkS:k<S.length:=by rw [HSL.out];exact hlt
           obtain ⟨vb,vf,e,hvb,cv⟩:=(H13.out wr (Kept.refl _ _)).2.2.1.get (i:=k) hkS
           subst e
           obtain ⟨z,hz,b,hb,hres⟩:=HRS.out.each (List.getElem_mem hkS)
           rw [hb] at cv
           have kp:=Kpt.root HW.out hz hres
           have han:b<n:=by rw [HNE.out];exact kp.1.1
           have cb:=HB.out wr _ (Kept.refl _ _) han (HMK.out _ (kpt_more kp))
           have ha1:(0:Int)≤(b:Int):=by omega
           have ha2:(b:Int)<(n:Int):=by omega
           have j5:(0:Int)≤(k:Int):=by omega
           have j6:(k:Int)<(N:Int):=by omega
           have iw:IntKind.i64.wrap ((k:Int)+1)=(k:Int)+1:=by rw [IntKind.wrap_i64];have:=HNZ.out;omega
           clear kp hb hres
           go_wp2
           go_round
           case rel=>first | exact ⟨k+1,by omega,by go_num⟩ | ((repeat apply Exists.intro);exact ⟨⟨k+1,by omega,by go_num⟩,rfl⟩)
           case measure=>simp [intOf];omega
          ·have e:N=k:=by omega
           subst e
           clear hlt hk
           go_wp2
           obtain ⟨w13,rfl⟩:∃ w13,w13=wr:=⟨_,rfl⟩
           go_loopw [28] (fun v28 wx=>∃ k:Nat,k≤mL∧v28=.int .i64 (k:Int)∧Hid (Same0 w13 wx)) (fun v28 _=>mL-(intOf v28).toNat)
           case atStart=>exact ⟨0,Nat.zero_le _,rfl,Kept.refl _ _⟩
           case round=>
            obtain ⟨k,hk,rfl,HK⟩:=hrel
            by_cases hlt:k<mL
            ·have hkL:k<Lb.length:=by rw [← HML.out.1];exact hlt
             have kp:=(H7.out.2.2.2.1.2 _).1 (List.getElem_mem hkL)
             have j5:(0:Int)≤(k:Int):=by omega
             have j6:(k:Int)<(mL:Int):=by omega
             obtain ⟨a,hae⟩:∃ a,a=Lb[k]:=⟨_,rfl⟩
             rw [← hae] at kp
             have HAE:Hid (a=Lb[k]):=hae
             have KP:Hid (Kpt l (R ++ [(x:Int)]) a):=kp
             have hal:a<l.length:=kp.1.1
             have han:(a:Int)<(n:Int):=by have:=HNE.out;omega
             have ha0:(0:Int)≤(a:Int):=by omega
             have HLD:Hid (∀ ww,Same0 w13 ww→∃ vb vf lb lf xo xc,po=some ⟨vb,vf,none⟩∧ww.cell? ⟨vb,vf+k,none⟩=some (.int .i64 (a:Int))∧lo=some ⟨lb,lf,none⟩∧ww.cell? ⟨lb,lf+a * 5+1,none⟩=some (.slice xo l[a].2.1.length xc)∧Arg ww xo l[a].2.1 xc):=fun ww hk=>by
              obtain ⟨_,hI,_,hN,_,_⟩:=H13.out ww hk
              obtain ⟨vb,vf,e,_,cv⟩:=hI.get (i:=k) (by rw [ofN_len'];exact hkL)
              rw [ofN_at,← hae] at cv
              rcases hN with e2 | ⟨lb,lf,e2,_,hc⟩
              ·rw [e2] at hal;simp at hal
              ·obtain ⟨xo,xc,_,n1,_,_,_,n5⟩:=hc a hal
               exact ⟨vb,vf,lb,lf,xo,xc,e,cv,e2,n1,n5⟩
             have hfew:(l[a]).2.1.length≤6:=(may_facts (HW.out.1 _ (List.getElem_mem hal))).2.1
             have HARG:Hid (∀ z∈l[a].2.1,0≤z∧z<(l.length:Int)∧∀ b,Res l z.toNat b→b<n∧Mk s b):=fun z hz=>by
              have q:=args_rng HW.out hal hz
              refine ⟨q.1,q.2,fun b hb=>?_⟩
              have kb:=kp.arg HW.out hz hb
              exact ⟨by rw [HNE.out];exact kb.1.1,HMK.out b kb⟩
             generalize l[a].2.1=args at *
             obtain ⟨na,hna⟩:∃ na,na=args.length:=⟨_,rfl⟩
             have HNA:Hid (na=args.length):=hna
             have hna6:(na:Int)≤6:=by omega
             obtain ⟨w14,rfl⟩:∃ w14,w14=wr:=⟨_,rfl⟩
             clear kp hae hfew hna hlt
             go_wp2
             go_loopw [29] (fun v29 wx=>∃ j:Nat,j≤na∧v29=.int .i64 (j:Int)∧Hid (Same0 w13 wx)) (fun v29 _=>na-(intOf v29).toNat)
             case atStart=>exact ⟨0,Nat.zero_le _,rfl,HK⟩
             case round=>
              clear HK
              obtain ⟨j,hj,rfl,HK⟩:=hrel
              obtain ⟨vb,vf,lb,lf,xo,xc,rfl,cv,rfl,cl,cA⟩:=HLD.out wr HK.out
              rw [← HNA.out] at cl
              have q5:(0:Int)≤(j:Int):=by omega
              by_cases hlt:j<na
              ·have hja:j<args.length:=by rw [← HNA.out];exact hlt
               have q6:(j:Int)<(na:Int):=by omega
               obtain ⟨xb,xf,e,hxb,cx⟩:=cA.at'.get hja
               subst e
               obtain ⟨z1,z2,z3⟩:=HARG.out _ (List.getElem_mem hja)
               obtain ⟨z,hz⟩:∃ z:Nat,args[j]=(z:Int):=⟨args[j].toNat,by omega⟩
               rw [hz] at cx
               rw [hz,Int.toNat_natCast] at z3
               have CR:=hres_yes (H13.out wr HK.out).2.2.2.2.1 z (by omega)
               have HZ3:Hid (∀ b,Res l z b→b<n∧Mk s b):=z3
               clear z1 z2 z3 hz cA
               go_wp2_with (first | (go_at_call 37;refine CR.mono ?_;rintro e w15 ⟨b,rfl,hres,k15⟩;obtain ⟨hbn,hbm⟩:=HZ3.out b hres;have cb:=HB.out w15 b (HK.out.trans' k15) hbn hbm;have ha1:(0:Int)≤(b:Int):=(by omega);have ha2:(b:Int)<(n:Int):=(by omega)))
               have HK5:Hid (Same0 w13 w15):=HK.out.trans' k15
               go_roundw
               case rel=>first | exact ⟨j+1,by omega,by go_num,HK5⟩ | ((repeat apply Exists.intro);exact ⟨⟨j+1,by omega,by go_num,HK5⟩,rfl⟩)
               case measure=>simp [intOf];omega
              ·have e:na=j:=by omega
               subst e
               clear cA hlt
               go_wp2
               go_roundw
               case rel=>first | exact ⟨k+1,by omega,by go_num,HK⟩ | ((repeat apply Exists.intro);exact ⟨⟨k+1,by omega,by go_num,HK⟩,rfl⟩)
               case measure=>simp [intOf];omega
            ·have e:mL=k:=by omega
             subst e
             have KK:=(H13.out wr HK.out).2.2.2.2.2.below
             go_wp2
             go_ret
             exact ⟨rfl,KK⟩
end Go.Proofs.Ytcbonegkfppdiaa
namespace Go.Proofs.Ytcbonegkfppdiaa
set_option maxRecDepth 100000
set_option linter.unusedVariables false
open Go.RowKit Go.Deep
theorem cells_node:Try.prog.cellsOf 47=5:=by kernel_rfl
theorem bytes_node:Try.prog.bytesOf 47=56:=by kernel_rfl
theorem cells_boolT:Try.prog.cellsOf 4=1:=by kernel_rfl
theorem cells_intsT:Try.prog.cellsOf 31=1:=by kernel_rfl
def NdI (x:Nd):Prop:=I64 x.1∧(∀ z∈x.2.1,I64 z)∧I64 x.2.2.1∧I64 x.2.2.2.2
section
variable {H : Type} {enc : TypeId × Value → H} {w : World} {spare : Nat → Bool} {held : Bool}
theorem weightsAll_mem11 {P:Program} {e:TypeId} {l:List (DataW H)} {d:DataW H} (h:d∈l) {n:Nat} (hn:n∈d.weights P e):n∈DataW.weightsAll P e l:=by
 induction l with
 | nil=>cases h
 | cons x r ih=>
  simp only [DataW.weightsAll,List.mem_append]
  rcases List.mem_cons.1 h with q | q
  ·subst q;exact .inl hn
  ·exact .inr (ih q)
set_option maxRecDepth 100000 in
theorem open_elems11 {t e c fuel:Nat} {ao:Option Addr} {len cap:Nat} {x:DataW H × List MemPlace} (ht:Try.prog.underlying t=some (.slice e)) (hc:Try.prog.cellsOf e=c) (h0:0<c) (h:DataW.trod enc Try.prog w 0 spare held fuel t [.slice ao len cap]=some x) (hw:∀ n∈x.1.weights Try.prog t,n≤reachBytes) :
  (ao=none∧len=0∧cap=0)∨∃ a,ao=some a∧len≤cap∧cap≤maxLen∧len * Try.prog.bytesOf e≤reachBytes∧∀ i,i<len→a=⟨a.block,a.off,none⟩∧a.block<w.heap.size∧∃ cs n y,cs.length=c∧(∀ j,j<c→w.cell? ⟨a.block,a.off+i * c+j,none⟩=cs[j]?)∧DataW.trod enc Try.prog w 0 spare held n e cs=some y∧∀ n∈y.1.weights Try.prog e,n≤reachBytes:=by
 rcases open_slice ht h with ⟨hcs,_⟩ | ⟨a,len', cap', m,n,D,Pl,hcs,_,hl,hm,hmm,rfl,hx⟩
 ·simp at hcs;exact .inl ⟨hcs.1,hcs.2.1,hcs.2.2⟩
 ·simp at hcs
  obtain ⟨rfl,rfl,rfl⟩:=hcs
  have hb:len * Try.prog.bytesOf e≤reachBytes:=by
   have:=hw ((((List.range len).map D).length+((List.range (m-len)).map fun j=>D (len+j)).length) * Try.prog.bytesOf e) (by simp [DataW.weights,ht])
   refine Nat.le_trans (Nat.mul_le_mul_right _ ?_) this
   simp
  refine .inr ⟨a,rfl,hl,hm,hb,fun i hi=>?_⟩
  have hmi:i<m:=by rw [hmm];split <;> omega
  have hm0:0<m:=by omega
  obtain ⟨cs0,g0,_⟩:=hx 0 hm0
  rw [hc] at g0
  obtain ⟨_,gl,gc⟩:=World.cells?_some g0
  have hsp:a.spot=none:=by
   have:=gc 0 h0
   have hv:cs0[0]? = some (cs0[0]'(by omega)):=List.getElem?_eq_getElem (by omega)
   rw [hv] at this
   simp [Addr.add] at this
   exact World.cell?_spot this
  have hlt:a.block<w.heap.size:=World.cells?_block (by simpa [Addr.add] using g0) h0
  have ea:a=⟨a.block,a.off,none⟩:=by cases a;simp_all
  obtain ⟨cs,g1,g2⟩:=hx i hmi
  rw [hc] at g1
  obtain ⟨_,gl1,gc1⟩:=World.cells?_some g1
  refine ⟨ea,hlt,cs,n,_,gl1,fun j hj=>?_,g2,fun k hk=>hw k ?_⟩
  ·rw [← gc1 j hj,add_add]
   congr 1
   unfold Addr.add
   split
   ·rw [ea];simp;omega
   ·simp
  ·simp only [DataW.weights,ht,List.mem_cons,List.mem_append]
   exact .inr (.inl (weightsAll_mem11 (List.mem_map.2 ⟨i,by simpa using hi,rfl⟩) hk))
theorem trod_node {fuel:Nat} {cs:List Value} {x:DataW H × List MemPlace} (hl:cs.length=5) (h:DataW.trod enc Try.prog w 0 spare held fuel 47 cs=some x) (hw:∀ n∈x.1.weights Try.prog 47,n≤reachBytes):∃ (y:Nd) (xo:Option Addr) (xc:Nat),NdI y∧Arg w xo y.2.1 xc∧cs=[.int .i64 y.1,.slice xo y.2.1.length xc,.int .i64 y.2.2.1,.bool y.2.2.2.1,.int .i64 y.2.2.2.2]:=by
 obtain ⟨y0,y1,y2,y3,y4,n', hyd,hl', g0,g1,g2,g3,g4⟩:=trod_struct5 Try.underlying47 h
 match cs,hl with
 | [c0,c1,c2,c3,c4],_=>
  simp only [cells_int,cells_boolT,cells_intsT,List.drop_zero,List.take_succ_cons,List.take_zero,List.drop_succ_cons] at g0 g1 g2 g3 g4
  obtain ⟨z0,e0,_,w0⟩:=DataW.trod_int Try.underlying3 g0
  obtain ⟨z2,e2,_,w2⟩:=DataW.trod_int Try.underlying3 g2
  obtain ⟨z3,e3,_⟩:=DataW.trod_bool Try.underlying4 g3
  obtain ⟨z4,e4,_,w4⟩:=DataW.trod_int Try.underlying3 g4
  have hyw1:∀ n∈y1.1.weights Try.prog 31,n≤reachBytes:=fun n hn=>hw n (by
   rw [hyd]
   simp only [DataW.weights,Try.underlying47]
   simp [DataW.weightsEach,hn])
  obtain ⟨xo,len,xc,e1⟩:=slice_one Try.underlying31 g1
  subst e1
  obtain ⟨xs,hxl,hxa,hxi⟩:=open_ints64 Try.underlying31 g1 hyw1
  subst hxl
  simp only [List.cons.injEq,and_true] at e0 e2 e3 e4
  subst e0 e2 e3 e4
  exact ⟨(z0,xs,z2,z3,z4),xo,xc,⟨i64_wf w0,hxi,i64_wf w2,i64_wf w4⟩,hxa,rfl⟩
theorem open_nodes {fuel:Nat} {ao:Option Addr} {len cap:Nat} {x:DataW H × List MemPlace} (h:DataW.trod enc Try.prog w 0 spare held fuel 32 [.slice ao len cap]=some x) (hw:∀ n∈x.1.weights Try.prog 32,n≤reachBytes) :
  ∃ l:List Nd,l.length=len∧NsW w ao l∧len * 56≤140737488351232∧len≤cap∧(ao=none→len=0∧cap=0)∧∀ y∈l,NdI y:=by
 rcases open_elems11 Try.underlying32 cells_node (by omega) h hw with ⟨rfl,rfl,rfl⟩ | ⟨a,rfl,hl1,hl2,hsz,hall⟩
 ·exact ⟨[],rfl,.inl rfl,by omega,Nat.le_refl _,fun _=>⟨rfl,rfl⟩,by simp⟩
 ·rw [bytes_node] at hsz
  have each:∀ i,i<len→∃ y:Nd,NdI y∧∃ xo xc,w.cell? ⟨a.block,a.off+i * 5,none⟩=some (.int .i64 y.1)∧w.cell? ⟨a.block,a.off+i * 5+1,none⟩=some (.slice xo y.2.1.length xc)∧w.cell? ⟨a.block,a.off+i * 5+2,none⟩=some (.int .i64 y.2.2.1)∧w.cell? ⟨a.block,a.off+i * 5+3,none⟩=some (.bool y.2.2.2.1)∧w.cell? ⟨a.block,a.off+i * 5+4,none⟩=some (.int .i64 y.2.2.2.2)∧Arg w xo y.2.1 xc:=by
   intro i hi
   obtain ⟨_,_,cs,n,y,hl,hcell,hy,hyw⟩:=hall i hi
   obtain ⟨z,xo,xc,h1,h2,rfl⟩:=trod_node hl hy hyw
   exact ⟨z,h1,xo,xc,by simpa using hcell 0 (by omega),by simpa using hcell 1 (by omega),by simpa using hcell 2 (by omega),by simpa using hcell 3 (by omega),by simpa using hcell 4 (by omega),h2⟩
  obtain ⟨f,hf⟩:=Classical.axiomOfChoice (fun i:Fin len=>each i i.2)
  refine ⟨List.ofFn f,by simp,?_,by simpa [reachBytes] using hsz,hl1,(fun e=>by cases e),fun y hy=>?_⟩
  ·by_cases h0:len=0
   ·subst h0;exact .inl (by simp)
   ·obtain ⟨ea,hlt,_⟩:=hall 0 (by omega)
    refine .inr ⟨a.block,a.off,by rw [← ea],hlt,fun i hi=>?_⟩
    have hi' : i<len:=by simpa using hi
    simpa using (hf ⟨i,hi'⟩).2
  ·obtain ⟨i,rfl⟩:=List.mem_ofFn.1 hy
   exact (hf i).1
end
end Go.Proofs.Ytcbonegkfppdiaa
