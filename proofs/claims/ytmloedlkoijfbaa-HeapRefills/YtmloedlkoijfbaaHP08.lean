import Derived.Test.YtmloedlkoijfbaaHP07
import Derived.Test.YtmloedlkoijfbaaHP05
import Derived.Test.YtmloedlkoijfbaaHP04
import Derived.Test.YtmloedlkoijfbaaHP02
import Derived.Test.YtmloedlkoijfbaaHP06
import Derived.Deep.RegionWith
import Derived.Deep.RegionHeld3
namespace Go.Proofs.Ytmloedlkoijfbaa
set_option maxRecDepth 100000
set_option linter.unusedVariables false
open Go.RowKit
attribute [local go_sem ↓] Go.wp_at_zero Go.wp_at_succ
def HdL (base g n c:Nat) (xs:List Int) (w wr:World) (k:Nat):Prop:=(∃ L,Row base wr (.slice (some ⟨g,0,none⟩) (n+3) c) L∧L.length=n+3∧∀ j,k≤j→L[j]? = (lentL xs)[j]?)∧Kept (fun i=>i=g) w wr
theorem HdL.at {base g n c k:Nat} {xs:List Int} {w wr:World} (h:HdL base g n c xs w wr k) {z:Int} (hz:(lentL xs)[k]? = some z):wr.cell? ⟨g,k,none⟩=some (.int .i64 z)∧wr.frozen? ⟨g,k,none⟩=false:=by
 obtain ⟨⟨L,h1,h2,h3⟩,_⟩:=h
 have hL:=h3 k (Nat.le_refl _)
 rw [hz] at hL
 obtain ⟨hk,hv⟩:=List.getElem?_eq_some_iff.1 hL
 obtain ⟨ao,ac,e,hi,_,_⟩:=h1.ints
 simp only [Value.slice.injEq] at e
 obtain ⟨b,off,e1,_,hc⟩:=hi.get hk
 rw [← e.1] at e1
 simp only [Option.some.injEq,Addr.mk.injEq,and_true] at e1
 obtain ⟨rfl,rfl⟩:=e1
 rw [hv] at hc
 refine ⟨by simpa using hc,?_⟩
 unfold Row at h1
 rw [h2] at h1
 exact h1.frozenAt k
theorem HdL.put {base g n c k:Nat} {xs:List Int} {w wr:World} (h:HdL base g n c xs w wr k):HdL base g n c xs w (wr.setCell ⟨g,k,none⟩ (.int .i64 (-78))) (k+1):=by
 obtain ⟨⟨L,h1,h2,h3⟩,h4⟩:=h
 refine ⟨⟨L.set k (-78),?_,by simp [h2],fun j hj=>?_⟩,Kept.setCell (S:=fun i=>i=g) h4 (p:=⟨g,k,none⟩) (fun _=>rfl) _⟩
 ·unfold Row at h1 ⊢
  rw [iv_set]
  rw [h2] at h1
  simpa [h2] using (h1.stored k (.int .i64 (-78))).1
 ·rw [List.getElem?_set_ne (by omega)];exact h3 j (by omega)
theorem HdL.same {base g n c k:Nat} {xs:List Int} {w wr wr' : World} (h:HdL base g n c xs w wr k) (hk:Same0 wr wr'):HdL base g n c xs w wr' k:=by
 obtain ⟨⟨L,h1,h2,h3⟩,h4⟩:=h
 exact ⟨⟨L,hk.row h1 (fun _ _ f=>f),h2,h3⟩,h4.trans hk (fun _ _ f=>f.elim)⟩
set_option maxHeartbeats 2000000 in
theorem held11_any {base:Nat} {w:World} {g c cap:Nat} {ao:Option Addr} {xs:List Int} (hr:Row base w (.slice (some ⟨g,0,none⟩) (xs.length+3) c) (lentL xs)) (hc:xs.length+3≤c) (hx:Arg w ao xs cap) (hne:xs≠[]→∀ a,ao=some a→a.block≠g) :
  Calls Try.prog 30 #[.slice (some ⟨g,0,none⟩) xs.length c,.slice ao xs.length cap] w fun e w' => e=.returned (.bool true)∧Kept (fun i=>i=g) w w' := by
 obtain ⟨n,hn⟩:∃ n,n=xs.length:=⟨_,rfl⟩
 have HNL:Hid (n=xs.length):=hn
 have hs:Hid (xs.length * 8≤140737488351232):=hx.size
 have H0:Hid (HdL base g n c xs w w 0):=⟨⟨lentL xs,by rw [hn];exact hr,by simp [hn],fun j _=>rfl⟩,Kept.refl _ _⟩
 have HXS:Hid (∀ wr,Kept (fun i=>i=g) w wr→∀ k (hk:k<xs.length),∃ b off,ao=some ⟨b,off,none⟩∧wr.cell? ⟨b,off+k,none⟩=some (.int .i64 xs[k])):=fun wr hk k hkl=>by
  have h0:xs≠[]:=fun e=>by rw [e] at hkl;simp at hkl
  obtain ⟨b,off,e,_,h3⟩:=(hx.at'.kept hk (fun a e q=>hne h0 a e q)).get hkl
  exact ⟨b,off,e,h3⟩
 rw [← hn] at hc ⊢
 have j1:(n:Int)+3≤(c:Int):=by omega
 have j2:(n:Int)≤17592186043904:=by have:=hs.out;have:=HNL.out;omega
 have j3:(0:Int)≤(n:Int)+3:=by omega
 clear hr hx hne hn
 go_enter Try.func30,Try.ntmps30
 go_upto_region 4 with fail
 go_loopw [6,7] (fun o i wr=>∃ k:Nat,o=.bool true∧i=.int .i64 (k:Int)∧k≤n+3∧Hid (HdL base g n c xs w wr k)) (fun _ i _=>n+3-(intOf i).toNat)
 case atStart=>exact ⟨0,rfl,rfl,Nat.zero_le _,H0⟩
 case round=>
  clear H0
  obtain ⟨k,rfl,rfl,hk,H⟩:=hrel
  by_cases hlt:k<n+3
  ·have i0:(0:Int)≤(k:Int):=by omega
   have i1:(k:Int)<(n:Int)+3:=by omega
   by_cases hkn:k<n
   ·have hkx:k<xs.length:=by rw [← HNL.out];exact hkn
    obtain ⟨q1,q2⟩:=H.out.at (z:=xs[k]) (by rw [List.getElem?_append_left hkx];exact List.getElem?_eq_getElem hkx)
    obtain ⟨b,off,e,q3⟩:=HXS.out wr H.out.2 k hkx
    subst e
    have i2:(k:Int)<(n:Int):=by omega
    have i4:decide (n≤k)=false:=by simp;omega
    have i5:decide (k<n)=true:=by simp;omega
    have HN:Hid (∀ m,Hid (HdL base g n c xs w ((wr.drewN m).setCell ⟨g,k,none⟩ (.int .i64 (-78))) (k+1))):=fun m=>(H.out.same ((Kept.refl _ _).drewN m)).put
    go_upto_region 6 with fail
    go_quiet (fail)
    go_wp2
    go_roundw
    case rel=>exact ⟨k+1,rfl,by go_num,by omega,HN.out _⟩
    case measure=>simp [intOf];omega
   ·have i2:¬ (k:Int)<(n:Int):=by omega
    have i4:decide (n≤k)=true:=by simp;omega
    have i5:decide (k<n)=false:=by simp;omega
    obtain ⟨q1,q2⟩:=H.out.at (z:=-77) (by
     rw [List.getElem?_append_right (by rw [← HNL.out];omega),← HNL.out]
     have:k-n<3:=by omega
     match k-n,this with
     | 0,_=>rfl
     | 1,_=>rfl
     | 2,_=>rfl)
    have HN:Hid (∀ m,Hid (HdL base g n c xs w ((wr.drewN m).setCell ⟨g,k,none⟩ (.int .i64 (-78))) (k+1))):=fun m=>(H.out.same ((Kept.refl _ _).drewN m)).put
    go_upto_region 6 with fail
    go_quiet (fail)
    go_wp2
    go_roundw
    case rel=>exact ⟨k+1,rfl,by go_num,by omega,HN.out _⟩
    case measure=>simp [intOf];omega
  ·have hkn:k=n+3:=by omega
   have i1:¬ (k:Int)<(n:Int)+3:=by omega
   have F:Hid (Kept (fun i=>i=g) w wr):=H.out.2
   clear H
   go_wp2
   go_ret
   exact ⟨rfl,F.out⟩
def eqL (l l' : List Nd):Bool:=decide (l=l')
theorem eqL_self (l:List Nd):eqL l l=true:=by unfold eqL;simp
set_option maxHeartbeats 2000000 in
theorem sameNodes_any {w:World} {ao bo:Option Addr} {ac bc:Nat} {l l' : List Nd} (h:NsW w ao l) (h' : NsW w bo l') (hm:l.length≤maxLen) :
  Calls Try.prog 40 #[.slice ao l.length ac,.slice bo l'.length bc] w fun e w' => e=.returned (.bool (eqL l l'))∧Same0 w w' := by
 unfold maxLen at hm
 by_cases hl:l.length=l'.length
 ·have hl' : (l.length:Int)=(l'.length:Int):=by omega
  have HX:Hid (∀ ww,Same0 w ww→NsW ww ao l):=fun ww hw=>h.same hw
  have HY:Hid (∀ ww,Same0 w ww→NsW ww bo l'):=fun ww hw=>h'.same hw
  have HL:Hid (l.length=l'.length):=hl
  have KR:Same0 w w:=Kept.refl _ _
  clear h h' hl
  go_enter Try.func40,Try.ntmps40
  go_wp2
  go_loopw [5] (fun i wr=>∃ k:Nat,k≤l.length∧i=.int .i64 k∧Hid (∀ j (h1:j<l.length) (h2:j<l'.length),j<k→l[j]=l'[j])∧Same0 w wr) (fun i _=>l.length-(intOf i).toNat)
  case atStart=>exact ⟨0,Nat.zero_le _,rfl,fun j _ _ hj=>absurd hj (Nat.not_lt_zero _),KR⟩
  case round=>
   clear KR
   obtain ⟨k,hk,rfl,hall,hw⟩:=hrel
   by_cases hlt:k<l.length
   ·have hlt' : k<l'.length:=by rw [← HL.out];exact hlt
    have i1:(0:Int)≤(k:Int):=by omega
    have i2:(k:Int)<(l.length:Int):=by omega
    have i3:(k:Int)<(l'.length:Int):=by omega
    rcases HX.out wr.drew (hw.drew) with e | ⟨mb,moff,e,hmb,hm'⟩
    ·rw [e] at hlt;simp at hlt
    subst e
    rcases HY.out wr.drew (hw.drew) with e | ⟨nb,noff,e,hnb,hn⟩
    ·rw [e] at hlt'; simp at hlt'
    subst e
    obtain ⟨xo,xc,m0,m1,m2,m3,m4,m5⟩:=hm' k hlt
    obtain ⟨yo,yc,n0,n1,n2,n3,n4,n5⟩:=hn k hlt'
    have CS:=sameNode_any m5 n5
    have HEY:Hid (eqN l[k] l'[k]=true→l[k]=l'[k]):=fun e=>by unfold eqN at e;simpa using e
    have HEN:Hid (eqN l[k] l'[k]=false→eqL l l' = false):=fun e=>by
     unfold eqN at e
     unfold eqL
     simp at e ⊢
     rintro rfl
     exact e rfl
    clear hm' hn m5 n5
    generalize eqN l[k] l'[k]=R at *
    go_upto_region 6 with fail
    go_region_with (first | (go_at_call 15;refine CS.mono ?_;rintro e w8 ⟨rfl,k8⟩))
    all_goals
     have hw8:Same0 w w8:=Same0.trans' (Kept.drew hw) k8
     clear m0 m1 m2 m3 m4 n0 n1 n2 n3 n4 CS
     cases R
     ·have HF:Hid (eqL l l' = false):=HEN.out rfl
      go_wp2
      go_ret
      exact ⟨ret_bool HF.out.symm,hw8⟩
     ·have HF:Hid (∀ j (h1:j<l.length) (h2:j<l'.length),j<k+1→l[j]=l'[j]):=fun j h1 h2 hj=>by
       by_cases e:j=k
       ·subst e;exact HEY.out rfl
       ·exact hall.out j h1 h2 (by omega)
      go_wp2
      go_roundw
      case rel=>first | exact ⟨k+1,by omega,by go_num,HF,hw8⟩ | ((repeat apply Exists.intro);exact ⟨⟨k+1,by omega,by go_num,HF,hw8⟩,rfl⟩)
      case measure=>simp [intOf];omega
   ·obtain rfl:k=l.length:=by omega
    have HE:Hid (eqL l l' = true):=by
     show _=_
     unfold eqL
     simp
     exact List.ext_getElem HL.out (fun j h1 h2=>hall.out j h1 h2 h1)
    clear hall
    go_wp2
    go_ret
    exact ⟨ret_bool HE.out.symm,hw⟩
 ·have HE:Hid (eqL l l' = false):=by show _=_;unfold eqL;simp;rintro rfl;exact hl rfl
  have hl' : ¬ (l.length:Int)=(l'.length:Int):=by omega
  have KR:Hid (Same0 w w):=Kept.refl _ _
  clear h h' hl
  go_enter Try.func40,Try.ntmps40
  go_wp2
  go_ret
  exact ⟨ret_bool HE.out.symm,KR.out⟩
end Go.Proofs.Ytmloedlkoijfbaa
namespace Go.Proofs.Ytmloedlkoijfbaa
set_option linter.unusedVariables false
def AppN (l:List Nd) (a:Nat):Prop:=∃ h:a<l.length,l[a].2.2.2.1=false
def Kpt (l:List Nd) (R:List Int) (a:Nat):Prop:=AppN l a∧∃ r∈R,Rc l r.toNat a
def Wf (l:List Nd):Prop:=(∀ x∈l,mayB l.length x=true)∧Ac l
theorem Res.app {l:List Nd} {a b:Nat} (h:Res l a b):AppN l b:=h.2
theorem AppN.res {l:List Nd} {a:Nat} (h:AppN l a):Res l a a:=by
 obtain ⟨h1,h2⟩:=h
 exact Res.self h1 h2
theorem ind_to {l:List Nd} (hw:Wf l) {a:Nat} (h:a<l.length) (q:l[a].2.2.2.1=true):Ed l a l[a].2.2.2.2.toNat∧l[a].2.2.2.2.toNat<l.length:=by
 have m:=(may_facts (hw.1 _ (List.getElem_mem h))).2.2.2.2.2.1 q
 exact ⟨ed_ind h q m.1,by omega⟩
theorem Ind.rc {l:List Nd} (hw:Wf l):∀ {k a b:Nat},Ind l k a b→Rc l a b
 | 0,a,b,h=>by cases h;exact Rc.refl l a
 | k+1,a,b,⟨h,q,r⟩=>(Ind.rc hw r).step (ind_to hw h q).1
theorem Res.rc {l:List Nd} (hw:Wf l) {a b:Nat} (h:Res l a b):Rc l a b:=by
 obtain ⟨⟨k,h1⟩,_⟩:=h
 exact h1.rc hw
theorem Ind.under {l:List Nd} (hw:Wf l):∀ {k a b c:Nat},Ind l k a b→AppN l b→Rc l a c→AppN l c→Rc l b c
 | 0,a,b,c,h,_,r,_=>by cases h;exact r
 | k+1,a,b,c,⟨h,q,i⟩,hb,r,hc=>by
  obtain ⟨n,hn⟩:=r
  cases n with
  | zero=>
   cases hn
   obtain ⟨_,hc2⟩:=hc
   rw [q] at hc2;cases hc2
  | succ n=>
   obtain ⟨m,⟨h1,h2⟩,h3⟩:=hn
   unfold downL at h2
   rw [if_pos q] at h2
   simp only [List.mem_singleton] at h2
   have e:m=l[a].2.2.2.2.toNat:=by omega
   rw [e] at h3
   exact Ind.under hw i hb ⟨n,h3⟩ hc
theorem Res.under {l:List Nd} (hw:Wf l) {a b c:Nat} (h:Res l a b) (r:Rc l a c) (hc:AppN l c):Rc l b c:=by
 obtain ⟨⟨k,h1⟩,h2⟩:=h
 exact h1.under hw h2 r hc
theorem res_ex {l:List Nd} (hw:Wf l) {a:Nat} (h:a<l.length):∃ b,Res l a b:=by
 obtain ⟨r,hr⟩:=hw.2
 have:∀ n a,r a<n→a<l.length→∃ b,Res l a b:=by
  intro n
  induction n with
  | zero=>intro a h;omega
  | succ n ih=>
   intro a h1 h2
   by_cases q:l[a].2.2.2.1=true
   ·obtain ⟨e1,e2⟩:=ind_to hw h2 q
    obtain ⟨b,hb⟩:=ih _ (by have:=hr _ _ e1;omega) e2
    exact ⟨b,Res.step h2 q hb⟩
   ·exact ⟨a,Res.self h2 (by simpa using q)⟩
 exact this (r a+1) a (by omega) h
theorem AppN.down {l:List Nd} {a:Nat} (h:AppN l a):downL (l[a]'h.1)=(l[a]'h.1).2.1:=by
 obtain ⟨h1,h2⟩:=h
 unfold downL
 rw [if_neg (by rw [h2];simp)]
theorem args_rng {l:List Nd} (hw:Wf l) {a:Nat} (h:a<l.length) {z:Int} (hz:z∈l[a].2.1):0≤z∧z<(l.length:Int):=(may_facts (hw.1 _ (List.getElem_mem h))).2.2.2.2.1 z hz
theorem Kpt.arg {l:List Nd} (hw:Wf l) {R:List Int} {a:Nat} (h:Kpt l R a) {z:Int} (hz:z∈(l[a]'h.1.1).2.1) {b:Nat} (hb:Res l z.toNat b):Kpt l R b:=by
 obtain ⟨ha,r,hr,hc⟩:=h
 refine ⟨hb.app,r,hr,hc.trans (Rc.step ⟨ha.1,?_⟩ (hb.rc hw))⟩
 rw [ha.down]
 have:=(args_rng hw ha.1 hz).1
 rw [Int.toNat_of_nonneg this];exact hz
theorem Kpt.root {l:List Nd} (hw:Wf l) {R:List Int} {r:Int} (hr:r∈R) {b:Nat} (hb:Res l r.toNat b):Kpt l R b:=⟨hb.app,r,hr,hb.rc hw⟩
theorem Kpt.in {l:List Nd} (hw:Wf l) {R:List Int} (hR:∀ r∈R,0≤r∧r<(l.length:Int)) {S:Nat→Prop} (h1:∀ r∈R,∀ b,Res l r.toNat b→S b) (h2:∀ a (h:AppN l a),S a→∀ z∈(l[a]'h.1).2.1,∀ b,Res l z.toNat b→S b) {a:Nat} (h:Kpt l R a):S a:=by
 obtain ⟨ha,r,hr,hc⟩:=h
 have key:∀ x y,(∀ b,Res l x b→S b)→Ed l x y→∀ b,Res l y b→S b:=by
  intro x y hx ⟨hl,he⟩ b hb
  by_cases q:l[x].2.2.2.1=true
  ·refine hx b (Res.step hl q ?_)
   unfold downL at he
   rw [if_pos q] at he
   simp only [List.mem_singleton] at he
   have e:l[x].2.2.2.2.toNat=y:=by omega
   rw [e];exact hb
  ·have hap:AppN l x:=⟨hl,by simpa using q⟩
   have hd:=hap.down
   refine h2 x hap (hx x hap.res) (y:Int) (by rw [← hd];exact he) b (by simpa using hb)
 have:=Rc.in (S:=fun x=>∀ b,Res l x b→S b) (fun i j hi e=>key i j hi e) (fun b hb=>h1 r hr b hb) hc
 exact this a ha.res
structure Wh (l:List Nd) (R:List Int) (s:List Int) (T:List (List Int)):Prop where
 val:∀ (x:Nat) (v:Int),s[x]? = some v→v = -1∨∃ b:Nat,v=(b:Int)∧Res l x b∧s[b]? = some (b:Int)
 rch:∀ (x b:Nat),s[x]? = some (b:Int)→∃ r∈R,Rc l r.toNat x
 root:∀ r∈R,s[r.toNat]? ≠ some (-1)∨∃ t∈T,r∈t
 args:∀ (a:Nat) (h:a<l.length),s[a]? = some (a:Int)→∀ z∈l[a].2.1,s[z.toNat]? ≠ some (-1)∨∃ t∈T,z∈t
 rng:∀ t∈T,∀ z∈t,(0≤z∧z<(l.length:Int))∧∃ r∈R,Rc l r.toNat z.toNat
 len:l.length≤s.length
theorem Wh.start {l:List Nd} {R:List Int} (hR:∀ r∈R,0≤r∧r<(l.length:Int)) {room:Nat} (hl:l.length≤room):Wh l R (List.replicate room (-1)) [R]:=by
 have h0:∀ (x:Nat) (v:Int),(List.replicate room (-1:Int))[x]? = some v→v = -1:=fun x v h=>by
  rw [List.getElem?_replicate] at h
  split at h
  ·cases h;rfl
  ·cases h
 refine ⟨fun x v h=>.inl (h0 x v h),fun x b h=>?_,fun r hr=>.inr ⟨R,by simp,hr⟩,fun a h ha=>?_,fun t ht z hz=>?_,by simpa using hl⟩
 ·have:=h0 x _ h;omega
 ·have:=h0 a _ ha;omega
 ·simp only [List.mem_singleton] at ht
  subst ht
  exact ⟨hR z hz,z,hz,Rc.refl _ _⟩
theorem Wh.skip {l:List Nd} {R s:List Int} {T:List (List Int)} {b:Int} {t:List Int} (h:Wh l R s (T ++ [b :: t])) (hb:s[b.toNat]? ≠ some (-1)):Wh l R s (T ++ [t]):=by
 have mv:∀ z:Int,(s[z.toNat]? ≠ some (-1)∨∃ u∈T ++ [b :: t],z∈u)→s[z.toNat]? ≠ some (-1)∨∃ u∈T ++ [t],z∈u:=by
  rintro z (q | ⟨u,hu,hz⟩)
  ·exact .inl q
  ·rcases List.mem_append.1 hu with e | e
   ·exact .inr ⟨u,by simp [e],hz⟩
   ·simp only [List.mem_singleton] at e
    subst e
    rcases List.mem_cons.1 hz with e | e
    ·subst e;exact .inl hb
    ·exact .inr ⟨t,by simp,e⟩
 refine ⟨h.val,h.rch,fun r hr=>mv r (h.root r hr),fun a ha q z hz=>mv z (h.args a ha q z hz),fun u hu z hz=>?_,h.len⟩
 rcases List.mem_append.1 hu with e | e
 ·exact h.rng u (by simp [e]) z hz
 ·simp only [List.mem_singleton] at e
  subst e
  exact h.rng (b :: u) (by simp) z (by simp [hz])
theorem Wh.drop {l:List Nd} {R s:List Int} {T:List (List Int)} (h:Wh l R s (T ++ [[]])):Wh l R s T:=by
 have mv:∀ z:Int,(s[z.toNat]? ≠ some (-1)∨∃ u∈T ++ [([]:List Int)],z∈u)→s[z.toNat]? ≠ some (-1)∨∃ u∈T,z∈u:=by
  rintro z (q | ⟨u,hu,hz⟩)
  ·exact .inl q
  ·rcases List.mem_append.1 hu with e | e
   ·exact .inr ⟨u,e,hz⟩
   ·simp only [List.mem_singleton] at e
    subst e;cases hz
 exact ⟨h.val,h.rch,fun r hr=>mv r (h.root r hr),fun a ha q z hz=>mv z (h.args a ha q z hz),fun u hu z hz=>h.rng u (by simp [hu]) z hz,h.len⟩
def wr2 (s:List Int) (a b:Nat):List Int:=(s.set a (a:Int)).set b (a:Int)
theorem wr2_len (s:List Int) (a b:Nat):(wr2 s a b).length=s.length:=by simp [wr2]
theorem wr2_at (s:List Int) (a b x:Nat):(wr2 s a b)[x]? = if b=x then (if x<s.length then some (a:Int) else none) else if a=x then (if x<s.length then some (a:Int) else none) else s[x]? := by
 unfold wr2
 rw [List.getElem?_set]
 simp only [List.length_set]
 split
 ·rename_i e;subst e;rfl
 ·rw [List.getElem?_set]
  split
  ·rename_i e;subst e;rfl
  ·rfl
theorem Wh.look {l:List Nd} (hw:Wf l) {R s:List Int} {T:List (List Int)} {b a:Nat} {t:List Int} (h:Wh l R s (T ++ [(b:Int) :: t])) (hb:s[b]? = some (-1)) (ha:Res l b a) (U:List (List Int)) (hU:∀ u∈T ++ [t],u∈U) (hU2:∀ u∈U,u∈T ++ [t]∨u=(l[a]'ha.2.1).2.1) (hN:s[a]? = some (-1)→(l[a]'ha.2.1).2.1∈U):Wh l R (wr2 s a b) U:=by
 have hlen:=h.len
 have hal:a<l.length:=ha.2.1
 have has:a<s.length:=by omega
 have hbs:b<s.length:=(List.getElem?_eq_some_iff.1 hb).1
 have va:(wr2 s a b)[a]? = some (a:Int):=by
  rw [wr2_at];simp [has]
 have vb:(wr2 s a b)[b]? = some (a:Int):=by rw [wr2_at];simp [hbs]
 have vo:∀ x,x≠a→x≠b→(wr2 s a b)[x]? = s[x]? := fun x h1 h2=>by rw [wr2_at,if_neg (Ne.symm h2),if_neg (Ne.symm h1)]
 have known:∀ x,s[x]? ≠ some (-1)→(wr2 s a b)[x]? ≠ some (-1):=fun x hx=>by
  by_cases h1:x=a
  ·subst h1;rw [va];intro e;simp only [Option.some.injEq] at e;omega
  ·by_cases h2:x=b
   ·subst h2;rw [vb];intro e;simp only [Option.some.injEq] at e;omega
   ·rw [vo x h1 h2];exact hx
 have rb:=(h.rng ((b:Int) :: t) (by simp) (b:Int) (by simp))
 have aa:Res l a a:=AppN.res ha.2
 have mv:∀ z:Int,(s[z.toNat]? ≠ some (-1)∨∃ u∈T ++ [(b:Int) :: t],z∈u)→(wr2 s a b)[z.toNat]? ≠ some (-1)∨∃ u∈U,z∈u:=by
  rintro z (q | ⟨u,hu,hz⟩)
  ·exact .inl (known _ q)
  ·rcases List.mem_append.1 hu with e | e
   ·exact .inr ⟨u,hU u (by simp [e]),hz⟩
   ·simp only [List.mem_singleton] at e
    subst e
    rcases List.mem_cons.1 hz with e | e
    ·subst e
     refine .inl ?_
     rw [Int.toNat_natCast,vb];intro e;simp only [Option.some.injEq] at e;omega
    ·exact .inr ⟨t,hU t (by simp),e⟩
 refine ⟨fun x v hx=>?_,fun x c hx=>?_,fun r hr=>mv r (h.root r hr),fun x hx q z hz=>?_,fun u hu z hz=>?_,by rw [wr2_len];exact hlen⟩
 ·by_cases h1:x=a
  ·subst h1;rw [va] at hx;cases hx;exact .inr ⟨x,rfl,aa,va⟩
  ·by_cases h2:x=b
   ·subst h2;rw [vb] at hx;cases hx;exact .inr ⟨a,rfl,ha,va⟩
   ·rw [vo x h1 h2] at hx
    rcases h.val x v hx with e | ⟨c,e1,e2,e3⟩
    ·exact .inl e
    ·refine .inr ⟨c,e1,e2,?_⟩
     by_cases h3:c=a
     ·subst h3;exact va
     ·by_cases h4:c=b
      ·subst h4;rw [hb] at e3;simp only [Option.some.injEq] at e3;omega
      ·rw [vo c h3 h4];exact e3
 ·by_cases h1:x=a
  ·subst h1
   obtain ⟨r,hr,hc⟩:=rb.2
   rw [Int.toNat_natCast] at hc
   exact ⟨r,hr,hc.trans (ha.rc hw)⟩
  ·by_cases h2:x=b
   ·subst h2
    obtain ⟨r,hr,hc⟩:=rb.2
    rw [Int.toNat_natCast] at hc
    exact ⟨r,hr,hc⟩
   ·rw [vo x h1 h2] at hx
    exact h.rch x c hx
 ·by_cases h1:x=a
  ·subst h1
   by_cases h2:s[x]? = some (-1)
   ·exact .inr ⟨_,hN h2,hz⟩
   ·have h3:s[x]? = some (x:Int):=by
     rcases h.val x s[x] (by simp) with e | ⟨c,e1,e2,e3⟩
     ·exact absurd (by rw [List.getElem?_eq_getElem has,e]) h2
     ·have:=Res.uniq e2 aa;subst this;exact e3
    exact mv z (h.args x hx h3 z hz)
  ·by_cases h2:x=b
   ·subst h2
    rw [vb] at q
    simp only [Option.some.injEq] at q
    omega
   ·rw [vo x h1 h2] at q
    exact mv z (h.args x hx q z hz)
 ·rcases hU2 u hu with e | e
  ·rcases List.mem_append.1 e with e | e
   ·exact h.rng u (by simp [e]) z hz
   ·simp only [List.mem_singleton] at e
    subst e
    exact h.rng ((b:Int) :: u) (by simp) z (by simp [hz])
  ·subst e
   refine ⟨args_rng hw hal hz,?_⟩
   obtain ⟨r,hr,hc⟩:=rb.2
   rw [Int.toNat_natCast] at hc
   refine ⟨r,hr,hc.trans ((ha.rc hw).snoc ⟨hal,?_⟩)⟩
   rw [AppN.down ha.2,Int.toNat_of_nonneg (args_rng hw hal hz).1]
   exact hz
theorem Wh.old {l:List Nd} (hw:Wf l) {R s:List Int} {T:List (List Int)} {b a:Nat} {t:List Int} (h:Wh l R s (T ++ [(b:Int) :: t])) (hb:s[b]? = some (-1)) (ha:Res l b a) (hN:s[a]? ≠ some (-1)):Wh l R (wr2 s a b) (T ++ [t]):=
 h.look hw hb ha (T ++ [t]) (fun _ e=>e) (fun _ e=>.inl e) (fun e=>absurd e hN)
theorem Wh.new {l:List Nd} (hw:Wf l) {R s:List Int} {T:List (List Int)} {b a:Nat} {t:List Int} (h:Wh l R s (T ++ [(b:Int) :: t])) (hb:s[b]? = some (-1)) (ha:Res l b a):Wh l R (wr2 s a b) (T ++ [t] ++ [(l[a]'ha.2.1).2.1]):=
 h.look hw hb ha _ (fun u e=>by simp at e ⊢;rcases e with e | e <;> simp [e]) (fun u e=>by simp at e ⊢;rcases e with e | e | e <;> simp [e]) (fun e=>by simp)
structure IsS (l:List Nd) (R:List Int) (s:List Int):Prop where
 len:l.length≤s.length
 self:∀ a:Nat,s[a]? = some (a:Int) ↔ Kpt l R a
 root:∀ r∈R,∃ b:Nat,s[r.toNat]? = some (b:Int)∧Res l r.toNat b∧Kpt l R b
 args:∀ (a:Nat) (h:Kpt l R a),∀ z∈(l[a]'h.1.1).2.1,∃ b:Nat,s[z.toNat]? = some (b:Int)∧Res l z.toNat b∧Kpt l R b
theorem Wh.done {l:List Nd} (hw:Wf l) {R s:List Int} (hR:∀ r∈R,0≤r∧r<(l.length:Int)) (h:Wh l R s []):IsS l R s:=by
 have hlen:=h.len
 have get:∀ x:Nat,x<l.length→s[x]? ≠ some (-1)→∃ b:Nat,s[x]? = some (b:Int)∧Res l x b∧s[b]? = some (b:Int):=fun x hx hn=>by
  have hs:x<s.length:=by omega
  rcases h.val x s[x] (by simp) with e | ⟨c,e1,e2,e3⟩
  ·exact absurd (by rw [List.getElem?_eq_getElem hs,e]) hn
  ·exact ⟨c,by rw [List.getElem?_eq_getElem hs,e1],e2,e3⟩
 have root:∀ r∈R,∃ b:Nat,s[r.toNat]? = some (b:Int)∧Res l r.toNat b∧s[b]? = some (b:Int):=fun r hr=>by
  have:=hR r hr
  rcases h.root r hr with e | ⟨t,ht,_⟩
  ·exact get _ (by omega) e
  ·cases ht
 have args:∀ (a:Nat) (h:a<l.length),s[a]? = some (a:Int)→∀ z∈l[a].2.1,∃ b:Nat,s[z.toNat]? = some (b:Int)∧Res l z.toNat b∧s[b]? = some (b:Int):=fun a ha q z hz=>by
  have:=args_rng hw ha hz
  rcases h.args a ha q z hz with e | ⟨t,ht,_⟩
  ·exact get _ (by omega) e
  ·cases ht
 have self:∀ a:Nat,s[a]? = some (a:Int) ↔ Kpt l R a:=fun a=>by
  constructor
  ·intro e
   rcases h.val a _ e with e1 | ⟨c,e1,e2,e3⟩
   ·omega
   ·obtain rfl:a=c:=by omega
    exact ⟨e2.app,h.rch a a e⟩
  ·intro k
   refine Kpt.in hw hR (S:=fun a=>s[a]? = some (a:Int)) (fun r hr b hb=>?_) (fun a ha q z hz b hb=>?_) k
   ·obtain ⟨c,c1,c2,c3⟩:=root r hr
    rw [Res.uniq hb c2];exact c3
   ·obtain ⟨c,c1,c2,c3⟩:=args a ha.1 q z hz
    rw [Res.uniq hb c2];exact c3
 refine ⟨hlen,self,fun r hr=>?_,fun a ha z hz=>?_⟩
 ·obtain ⟨b,b1,b2,b3⟩:=root r hr
  exact ⟨b,b1,b2,(self b).1 b3⟩
 ·obtain ⟨b,b1,b2,b3⟩:=args a ha.1.1 ((self a).2 ha) z hz
  exact ⟨b,b1,b2,(self b).1 b3⟩
end Go.Proofs.Ytmloedlkoijfbaa
namespace Go.Proofs.Ytmloedlkoijfbaa
set_option maxRecDepth 100000
set_option linter.unusedVariables false
open Go.RowKit
abbrev opV11 (K n m:Int) (two:Bool) (lo:Option Addr) (ll lc:Nat) (no:Option Addr) (nl nc:Nat):Value:=.agg #[.int .i64 K,.int .i64 n,.int .i64 m,.bool two,.slice lo ll lc,.slice no nl nc]
def DoT (b0:Nat) (w:World) (h g r:Nat) (v:Value) (room:Nat) (w' : World):Prop:=∃ v' l', St2 Any b0 w h g r v room w' v' l' l'
theorem box6 {w:World} {b:Nat} {v0 v1 v2 v3 v4 v5:Value} {t:TypeId} (h:w.heap[b]? = some (.cells #[v0,v1,v2,v3,v4,v5] t (0,0))):w.cell? ⟨b,0,none⟩=some v0∧w.cell? ⟨b,1,none⟩=some v1∧w.cell? ⟨b,2,none⟩=some v2∧w.cell? ⟨b,3,none⟩=some v3∧w.cell? ⟨b,4,none⟩=some v4∧w.cell? ⟨b,5,none⟩=some v5:=
 ⟨cellAt h 0,cellAt h 1,cellAt h 2,cellAt h 3,cellAt h 4,cellAt h 5⟩
structure D11 (w0 w W1:World) (h g r:Nat) (v:Value) (room:Nat) (l:List Nd) (K n m:Int) (two:Bool) (lo:Option Addr) (ll lc:Nat) (no:Option Addr) (nl nc:Nat):Prop where
 x:∀ B ww vv lp lr,St2 B w0.heap.size W1 h g r v room ww vv lp lr→ww.cell? ⟨w.heap.size,0,none⟩=some (.int .i64 K)∧ww.cell? ⟨w.heap.size,1,none⟩=some (.int .i64 n)∧ww.cell? ⟨w.heap.size,2,none⟩=some (.int .i64 m)∧ww.cell? ⟨w.heap.size,3,none⟩=some (.bool two)∧ww.cell? ⟨w.heap.size,4,none⟩=some (.slice lo ll lc)∧ww.cell? ⟨w.heap.size,5,none⟩=some (.slice no nl nc)
 k:∀ B ww vv lp lr,St2 B w0.heap.size W1 h g r v room ww vv lp lr→Same0 w0 ww
 f:∀ B ww vv l', St2 B w0.heap.size W1 h g r v room ww vv l' l' → DoT w0.heap.size w h g r v room ww
 s:St2 Any w0.heap.size W1 h g r v room W1 v l l
 lt:w.heap.size<W1.heap.size∧w0.heap.size≤w.heap.size
theorem do11_start {w0 w W1:World} {h g r:Nat} {v:Value} {room:Nat} {l:List Nd} {K n m:Int} {two:Bool} {lo:Option Addr} {ll lc:Nat} {no:Option Addr} {nl nc:Nat} (s:HP2 Any w0.heap.size w h g r v room l l) (hs:Same0 w0 w) (hW1:W1=w.alloc (.cells #[.int .i64 K,.int .i64 n,.int .i64 m,.bool two,.slice lo ll lc,.slice no nl nc] 34)) :
  D11 w0 w W1 h g r v room l K n m two lo ll lc no nl nc:=by
 have k1:Same0 w W1:=by rw [hW1];exact (Kept.refl _ w).alloc _
 have hb:W1.heap[w.heap.size]? = some (.cells #[.int .i64 K,.int .i64 n,.int .i64 m,.bool two,.slice lo ll lc,.slice no nl nc] 34 (0,0)):=by rw [hW1];exact heap_alloc_new w _
 refine ⟨fun B ww vv lp lr q=>box6 (q.k.at hb (fun e=>?_)),fun B ww vv lp lr q=>(hs.trans' k1).trans q.k (fun i hi e=>?_),fun B ww vv l' q=>⟨vv,l', q.s.any,fun k e=>(q.o k e).imp id (fun h=>Nat.le_trans k1.size h),(k1.mono (S' := OwnH h g r v) (fun _ _ f=>f.elim)).trans q.k (fun _ _ e=>e)⟩,St2.start (s.same k1),lt_of_at hb,hs.size⟩
 ·have:=(s.own e).2.2;omega
 ·have:=(s.own e).2.1;omega
theorem IntsAt.pre {w:World} {ao:Option Addr} {xs ys:List Int} (h:IntsAt w ao (xs++ys)):IntsAt w ao xs:=by
 rcases h with e | ⟨b,off,e,hlt,hc⟩
 ·simp at e;exact .inl e.1
 ·refine .inr ⟨b,off,e,hlt,fun i hi=>?_⟩
  have:=hc i (by simp;omega)
  rw [List.getElem_append_left hi] at this
  exact this
theorem lent_arg {base:Nat} {w:World} {g c:Nat} {xs:List Int} (h:Row base w (.slice (some ⟨g,0,none⟩) (xs.length+3) c) (lentL xs)) (hc:xs.length+3≤c) (hs:xs.length * 8≤140737488351232):Arg w (some ⟨g,0,none⟩) xs c:=by
 obtain ⟨ao', ac', e,h1,h2,h3⟩:=h.ints
 simp only [Value.slice.injEq] at e
 obtain ⟨rfl,_,rfl⟩:=e
 exact ⟨h1.pre,by omega,fun e=>(by cases e),hs⟩
theorem res_two (l:List Nd) (room:Nat) (hm:∀ x∈l,mayB l.length x=true) (hac:Ac l) (a:Int):∃ b E:Int,(∀ {B:Nat→Prop} {w:World} {h g:Nat},HpB B w h g room l→Calls Try.prog 21 #[.pointer (some ⟨h,0,none⟩),.int .i64 a] w fun e w' => e=.returned (.tuple #[.int .i64 b,.int .i64 E])∧Same0 w w') ∧
  (∀ {B:Nat→Prop} {w:World} {r:Nat} {v:Value},RhB B w r room v l→Calls Try.prog 33 #[.pointer (some ⟨r,0,none⟩),.int .i64 a] w fun e w' => e=.returned (.tuple #[.int .i64 b,.int .i64 E])∧Same0 w w'):=by
 by_cases ha:0≤a∧a<(l.length:Int)
 ·obtain ⟨i,rfl⟩:∃ i:Nat,a=(i:Int):=⟨a.toNat,by omega⟩
  have hi:i<l.length:=by omega
  obtain ⟨b,hb⟩:=res_ex (l:=l) ⟨hm,hac⟩ hi
  refine ⟨(b:Int),0,fun p=>(hres_yes p i hi).mono ?_,fun {B w r v} q=>?_⟩
  ·rintro e w' ⟨b', rfl,h1,h2⟩
   rw [Res.uniq h1 hb]
   exact ⟨rfl,h2⟩
  ·obtain ⟨ao,cap,rfl,hN⟩:=q.mem
   refine (rres_yes q.cells.2 hN.weak (by unfold maxLen;have:=q.le;have:=q.rm2;omega) q.inl q.ac i hi).mono ?_
   rintro e w' ⟨b', rfl,h1,h2⟩
   rw [Res.uniq h1 hb,h2]
   exact ⟨rfl,Kept.refl _ _⟩
 ·refine ⟨0,112,fun p=>hres_no p a ha,fun {B w r v} q=>?_⟩
  obtain ⟨ao,cap,rfl,hN⟩:=q.mem
  exact (rres_no q.cells.2 (by unfold maxLen;have:=q.le;have:=q.rm2;omega) a ha).mono (fun e w' ⟨h1,h2⟩=>⟨h1,by rw [h2];exact Kept.refl _ _⟩)
theorem at_two (l:List Nd) (room:Nat) (a:Int):∃ (x:Nd) (E:Int),(∀ {B:Nat→Prop} {w:World} {h g:Nat},HpB B w h g room l→Calls Try.prog 26 #[.pointer (some ⟨h,0,none⟩),.int .i64 a] w fun e w' => ∃ bo bc,e=.returned (.tuple #[nodeV x bo bc,.int .i64 E])∧NdOut w w' x bo bc) ∧
  (∀ {B:Nat→Prop} {w:World} {r:Nat} {v:Value},RhB B w r room v l→Calls Try.prog 31 #[.pointer (some ⟨r,0,none⟩),.int .i64 a] w fun e w' => ∃ bo bc,e=.returned (.tuple #[nodeV x bo bc,.int .i64 E])∧NdOut w w' x bo bc):=by
 by_cases ha:0≤a∧a<(l.length:Int)
 ·obtain ⟨i,rfl⟩:∃ i:Nat,a=(i:Int):=⟨a.toNat,by omega⟩
  have hi:i<l.length:=by omega
  exact ⟨l[i],0,fun p=>hat_yes p i hi,fun q=>rat_yes q i hi⟩
 ·exact ⟨(0,[],0,false,0),112,fun p=>(hat_no p a ha).mono (fun e w' ⟨h1,h2⟩=>⟨none,0,h1,ArgT.nil _,fun a e=>(by cases e),h2⟩),fun q=>(rat_no q a ha).mono (fun e w' ⟨h1,h2⟩=>⟨none,0,h1,ArgT.nil _,fun a e=>(by cases e),h2⟩)⟩
theorem eqN_self (x:Nd):eqN x x=true:=by unfold eqN;simp
theorem NRow.nsr {B:Nat→Prop} {base:Nat} {w:World} {no:Option Addr} {nc:Nat} {l:List Nd} (h:NRow B base w (.slice no l.length nc) l):NsR (fun k=>B k∧¬ NotI w k) w no l.length:=by
 rcases h.mem with e | ⟨nb,noff,e,hlt,hc⟩
 ·left;rw [e];rfl
 ·refine .inr ⟨nb,noff,e,hlt,fun q=>q.2 ?_,fun j hj=>?_⟩
  ·subst e
   exact (h.block rfl).2.2
  ·obtain ⟨ao,ac,h0,h1,h2,h3,h4,h5,h6⟩:=hc j hj
   exact ⟨ao,_,ac,h1,h5.w,fun a e=>⟨h6 a e,fun q=>by obtain ⟨cur,hcur⟩:=h5.2 a e;exact q cur hcur⟩⟩
theorem HP2.between {B:Nat→Prop} {b0:Nat} {w w' : World} {h g r:Nat} {v:Value} {room:Nat} {lp lr:List Nd} (s:HP2 B b0 w h g r v room lp lr) (hk:Same0 w w'):HP2 (fun k=>k<w.heap.size∨w'.heap.size≤k) b0 w' h g r v room lp lr:=
 ⟨(s.p.mono (B' := fun k=>k<w.heap.size∨w'.heap.size≤k) (fun k hk _ _=>.inl hk)).same hk,(s.q.to (B' := fun k=>k<w.heap.size∨w'.heap.size≤k) (fun k hk _=>.inl hk)).same hk,s.lo,s.dj,fun k e=>.inr e⟩
theorem St2.between {B:Nat→Prop} {b0:Nat} {w w' : World} {h g r:Nat} {v:Value} {room:Nat} {lp lr:List Nd} (s:HP2 B b0 w h g r v room lp lr) (hk:Same0 w w'):St2 (fun k=>k<w.heap.size∨w'.heap.size≤k) b0 w h g r v room w' v lp lr:=⟨s.between hk,fun k e=>.inl e,hk.mono (fun _ _ f=>f.elim)⟩
theorem St2.amid {b0:Nat} {w w1 w2 w3:World} {h g r:Nat} {v v2:Value} {room:Nat} {lp lr:List Nd} (s:St2 (fun k=>k<w.heap.size∨w1.heap.size≤k) b0 w h g r v room w2 v2 lp lr) {S:Nat→Prop} (hk:Kept S w2 w3) (hS:∀ k,S k→w.heap.size≤k∧k<w1.heap.size) (hv:∀ k,v2.ownBlock=some k→v.ownBlock=some k∨w1.heap.size≤k) (hw:HP2 Any b0 w h g r v room lp lr∨(h<w.heap.size∧g<w.heap.size∧r<w.heap.size∧∀ k,v.ownBlock=some k→k<w.heap.size)):St2 (fun k=>k<w.heap.size∨w1.heap.size≤k) b0 w h g r v room w3 v2 lp lr:=by
 have old:h<w.heap.size∧g<w.heap.size∧r<w.heap.size∧∀ k,v.ownBlock=some k→k<w.heap.size:=by
  rcases hw with q | q
  ·exact ⟨(q.own (.inl rfl)).2.2,(q.own (.inr (.inl rfl))).2.2,(q.own (.inr (.inr (.inl rfl)))).2.2,fun k e=>(q.own (.inr (.inr (.inr e)))).2.2⟩
  ·exact q
 refine s.mine hk (fun k e=>(hS k e).1) (fun k e f=>?_) (fun k e f=>?_)
 ·have q:=hS k f
  rcases e with e | e | e | e
  ·have:=old.1;omega
  ·have:=old.2.1;omega
  ·have:=old.2.2.1;omega
  ·rcases hv k e with e | e
   ·have:=old.2.2.2 k e;omega
   ·omega
 ·have q:=hS k f
  rcases e with e | e <;> omega
end Go.Proofs.Ytmloedlkoijfbaa
namespace Go.Proofs.Ytmloedlkoijfbaa
set_option maxRecDepth 100000
set_option linter.unusedVariables false
open Go.RowKit
attribute [local go_sem ↓] Go.wp_at_zero Go.wp_at_succ
set_option maxHeartbeats 4000000 in
theorem do11_none {w0 w:World} {h g r:Nat} {v:Value} {room:Nat} {l:List Nd} (s:HP2 Any w0.heap.size w h g r v room l l) (hs:Same0 w0 w) {K:Int} (hK:∀ j:Int,1≤j→j≤9→K≠j) (n m:Int) (hn:I64 n) (hm:I64 m) (two:Bool) {lo:Option Addr} {xs:List Int} {lc:Nat} (hL:Arg w0 lo xs lc) {no:Option Addr} {ns:List Nd} {nc:Nat} (hN:NsW w0 no ns) (hN1:ns.length * 56≤140737488351232) :
  Calls Try.prog 10 #[.pointer (some ⟨h,0,none⟩),.pointer (some ⟨r,0,none⟩),opV11 K n m two lo xs.length lc no ns.length nc] w fun e w' => e=.returned (.bool true)∧DoT w0.heap.size w h g r v room w' := by
 have e1:¬ K=1:=hK 1 (by omega) (by omega)
 have e2:¬ K=2:=hK 2 (by omega) (by omega)
 have e3:¬ K=3:=hK 3 (by omega) (by omega)
 have e4:¬ K=4:=hK 4 (by omega) (by omega)
 have e5:¬ K=5:=hK 5 (by omega) (by omega)
 have e6:¬ K=6:=hK 6 (by omega) (by omega)
 have e7:¬ K=7:=hK 7 (by omega) (by omega)
 have e8:¬ K=8:=hK 8 (by omega) (by omega)
 have e9:¬ K=9:=hK 9 (by omega) (by omega)
 clear hK
 obtain ⟨W1,hW1⟩:∃ W1,W1=w.alloc (.cells #[.int .i64 K,.int .i64 n,.int .i64 m,.bool two,.slice lo xs.length lc,.slice no ns.length nc] 34):=⟨_,rfl⟩
 have D:Hid (D11 w0 w W1 h g r v room l K n m two lo xs.length lc no ns.length nc):=do11_start s hs hW1
 have HA:Hid (Arg w0 lo xs lc∧NsW w0 no ns∧ns.length * 56≤140737488351232):=⟨hL,hN,hN1⟩
 have HO:Hid (HP2 Any w0.heap.size w h g r v room l l):=s
 have j1:=hn.1
 have j2:=hn.2
 have j3:=hm.1
 have j4:=hm.2
 clear s hs hL hN hN1 hn hm
 go_enter Try.func10,Try.ntmps10
 go_upto_region 1 with fail
 rw [← hW1]
 clear hW1
 obtain ⟨b0,b1,b2,b3,b4,b5⟩:=D.out.x _ _ _ _ _ D.out.s
 go_wp2
 go_ret
 exact ⟨rfl,D.out.f _ _ _ _ D.out.s⟩
set_option maxHeartbeats 4000000 in
theorem do11_res {w0 w:World} {h g r:Nat} {v:Value} {room:Nat} {l:List Nd} (s:HP2 Any w0.heap.size w h g r v room l l) (hs:Same0 w0 w) (n m:Int) (hn:I64 n) (hm:I64 m) (two:Bool) {lo:Option Addr} {xs:List Int} {lc:Nat} (hL:Arg w0 lo xs lc) {no:Option Addr} {ns:List Nd} {nc:Nat} (hN:NsW w0 no ns) (hN1:ns.length * 56≤140737488351232) :
  Calls Try.prog 10 #[.pointer (some ⟨h,0,none⟩),.pointer (some ⟨r,0,none⟩),opV11 3 n m two lo xs.length lc no ns.length nc] w fun e w' => e=.returned (.bool true)∧DoT w0.heap.size w h g r v room w' := by
 obtain ⟨b,E,PR,DR⟩:=res_two l room s.p.may s.p.ac n
 obtain ⟨W1,hW1⟩:∃ W1,W1=w.alloc (.cells #[.int .i64 3,.int .i64 n,.int .i64 m,.bool two,.slice lo xs.length lc,.slice no ns.length nc] 34):=⟨_,rfl⟩
 have D:Hid (D11 w0 w W1 h g r v room l 3 n m two lo xs.length lc no ns.length nc):=do11_start s hs hW1
 have HA:Hid (Arg w0 lo xs lc∧NsW w0 no ns∧ns.length * 56≤140737488351232):=⟨hL,hN,hN1⟩
 have HO:Hid (HP2 Any w0.heap.size w h g r v room l l):=s
 have j1:=hn.1
 have j2:=hn.2
 have j3:=hm.1
 have j4:=hm.2
 clear s hs hL hN hN1 hn hm
 go_enter Try.func10,Try.ntmps10
 go_upto_region 1 with fail
 rw [← hW1]
 clear hW1
 obtain ⟨b0,b1,b2,b3,b4,b5⟩:=D.out.x _ _ _ _ _ D.out.s
 have C1:=PR D.out.s.s.p
 have CD:Hid (∀ ww,St2 Any w0.heap.size W1 h g r v room ww v l l→Calls Try.prog 33 #[.pointer (some ⟨r,0,none⟩),.int .i64 n] ww fun e w' => e=.returned (.tuple #[.int .i64 b,.int .i64 E])∧Same0 ww w'):=fun ww q=>DR q.s.q
 clear PR DR
 have q1:(b == b)=true:=by simp
 have q2:(E == E)=true:=by simp
 go_upto_region 16 with (first | (go_at_call 21;refine C1.mono ?_;rintro e w2 ⟨rfl,k2⟩))
 have S2:Hid (St2 Any w0.heap.size W1 h g r v room w2 v l l):=D.out.s.same k2
 clear b0 b1 b2 b3 b4 b5 C1 k2
 obtain ⟨b0,b1,b2,b3,b4,b5⟩:=D.out.x _ _ _ _ _ S2.out
 have C2:=CD.out w2 S2.out
 go_wp2_with (first | (go_at_call 33;refine C2.mono ?_;rintro e w3 ⟨rfl,k3⟩;have FF:=D.out.f _ _ _ _ (S2.out.same k3)))
 go_ret
 exact ⟨by first | rfl | simp,FF⟩
set_option maxHeartbeats 4000000 in
theorem do11_clear {w0 w:World} {h g r:Nat} {v:Value} {room:Nat} {l:List Nd} (s:HP2 Any w0.heap.size w h g r v room l l) (hs:Same0 w0 w) (n m:Int) (hn:I64 n) (hm:I64 m) (two:Bool) {lo:Option Addr} {xs:List Int} {lc:Nat} (hL:Arg w0 lo xs lc) {no:Option Addr} {ns:List Nd} {nc:Nat} (hN:NsW w0 no ns) (hN1:ns.length * 56≤140737488351232) :
  Calls Try.prog 10 #[.pointer (some ⟨h,0,none⟩),.pointer (some ⟨r,0,none⟩),opV11 6 n m two lo xs.length lc no ns.length nc] w fun e w' => e=.returned (.bool true)∧DoT w0.heap.size w h g r v room w' := by
 obtain ⟨W1,hW1⟩:∃ W1,W1=w.alloc (.cells #[.int .i64 6,.int .i64 n,.int .i64 m,.bool two,.slice lo xs.length lc,.slice no ns.length nc] 34):=⟨_,rfl⟩
 have D:Hid (D11 w0 w W1 h g r v room l 6 n m two lo xs.length lc no ns.length nc):=do11_start s hs hW1
 have HA:Hid (Arg w0 lo xs lc∧NsW w0 no ns∧ns.length * 56≤140737488351232):=⟨hL,hN,hN1⟩
 have HO:Hid (HP2 Any w0.heap.size w h g r v room l l):=s
 have j1:=hn.1
 have j2:=hn.2
 have j3:=hm.1
 have j4:=hm.2
 clear s hs hL hN hN1 hn hm
 go_enter Try.func10,Try.ntmps10
 go_upto_region 1 with fail
 rw [← hW1]
 clear hW1
 obtain ⟨b0,b1,b2,b3,b4,b5⟩:=D.out.x _ _ _ _ _ D.out.s
 have C1:=(clear_two (room:=room)).1 D.out.s.s.p
 have CD:Hid (∀ ww,St2 Any w0.heap.size W1 h g r v room ww v (l.map (fun x=>marked x 0)) l→Calls Try.prog 38 #[.pointer (some ⟨r,0,none⟩)] ww fun e w' => (∃ u,e=.returned u)∧RQ Any r room v (l.map (fun x=>marked x 0)) ww w'):=fun ww q=>(clear_two (room:=room)).2 q.s.q
 go_upto_region 24 with (first | (go_at_call 37;refine C1.mono ?_;rintro e w2 ⟨⟨u2,rfl⟩,k2⟩))
 have S2:Hid (St2 Any w0.heap.size W1 h g r v room w2 v (l.map (fun x=>marked x 0)) l):=D.out.s.prog k2
 clear b0 b1 b2 b3 b4 b5 C1 k2
 have C2:=CD.out w2 S2.out
 go_wp2_with (first | (go_at_call 38;refine C2.mono ?_;rintro e w3 ⟨⟨u3,rfl⟩,k3⟩;obtain ⟨v3,S3, -, -⟩:=S2.out.doc k3;have FF:=D.out.f _ _ _ _ S3))
 go_ret
 exact ⟨rfl,FF⟩
set_option maxHeartbeats 4000000 in
theorem do11_room {w0 w:World} {h g r:Nat} {v:Value} {room:Nat} {l:List Nd} (s:HP2 Any w0.heap.size w h g r v room l l) (hs:Same0 w0 w) (n m:Int) (hn:I64 n) (hm:I64 m) (two:Bool) {lo:Option Addr} {xs:List Int} {lc:Nat} (hL:Arg w0 lo xs lc) {no:Option Addr} {ns:List Nd} {nc:Nat} (hN:NsW w0 no ns) (hN1:ns.length * 56≤140737488351232) :
  Calls Try.prog 10 #[.pointer (some ⟨h,0,none⟩),.pointer (some ⟨r,0,none⟩),opV11 8 n m two lo xs.length lc no ns.length nc] w fun e w' => e=.returned (.bool true)∧DoT w0.heap.size w h g r v room w' := by
 obtain ⟨W1,hW1⟩:∃ W1,W1=w.alloc (.cells #[.int .i64 8,.int .i64 n,.int .i64 m,.bool two,.slice lo xs.length lc,.slice no ns.length nc] 34):=⟨_,rfl⟩
 have D:Hid (D11 w0 w W1 h g r v room l 8 n m two lo xs.length lc no ns.length nc):=do11_start s hs hW1
 have HA:Hid (Arg w0 lo xs lc∧NsW w0 no ns∧ns.length * 56≤140737488351232):=⟨hL,hN,hN1⟩
 have HO:Hid (HP2 Any w0.heap.size w h g r v room l l):=s
 have j1:=hn.1
 have j2:=hn.2
 have j3:=hm.1
 have j4:=hm.2
 clear s hs hL hN hN1 hn hm
 go_enter Try.func10,Try.ntmps10
 go_upto_region 1 with fail
 rw [← hW1]
 clear hW1
 obtain ⟨b0,b1,b2,b3,b4,b5⟩:=D.out.x _ _ _ _ _ D.out.s
 have KD:Same0 W1 W1.drew:=(Kept.refl _ _).drew
 have S2:=D.out.s.same KD
 have C1:=room_any S2.s.p
 have C2:=used_any S2.s.p
 obtain ⟨c0,c1⟩:=S2.s.q.cells
 obtain ⟨vo,vc,rfl, -⟩:=S2.s.q.mem
 have FF:Hid (DoT w0.heap.size w h g r (.slice vo l.length vc) room W1.drew):=D.out.f _ _ _ _ S2
 clear S2
 have CC0:W1.drew.cell? ⟨r,0,none⟩=some (.int .i64 (room:Int))∧W1.drew.cell? ⟨r,1,none⟩=some (.slice vo l.length vc):=⟨c0,c1⟩
 have q1:((room:Int) == (room:Int))=true:=by simp
 have q2:((l.length:Int) == (l.length:Int))=true:=by simp
 clear c0 c1
 go_upto_region 31 with fail
 go_region_held3 (fun w' => w'.cell? ⟨r,0,none⟩=some (.int .i64 (room:Int))∧w'.cell? ⟨r,1,none⟩=some (.slice vo l.length vc)) (with_reducible first | exact CC0) (first
  | (go_at_call 27;refine C1.mono ?_;rintro e w4 ⟨rfl,h4⟩;have h4:=h4.symm;subst h4)
  | (go_at_call 17;refine C2.mono ?_;rintro e w4 ⟨rfl,h4⟩;have h4:=h4.symm;subst h4))
 all_goals
  go_wp2
  go_ret
  exact ⟨by first | rfl | simp,FF.out⟩
set_option maxHeartbeats 4000000 in
theorem do11_point {w0 w:World} {h g r:Nat} {v:Value} {room:Nat} {l:List Nd} (s:HP2 Any w0.heap.size w h g r v room l l) (hs:Same0 w0 w) (n m:Int) (hn:I64 n) (hm:I64 m) (two:Bool) {lo:Option Addr} {xs:List Int} {lc:Nat} (hL:Arg w0 lo xs lc) {no:Option Addr} {ns:List Nd} {nc:Nat} (hN:NsW w0 no ns) (hN1:ns.length * 56≤140737488351232) :
  Calls Try.prog 10 #[.pointer (some ⟨h,0,none⟩),.pointer (some ⟨r,0,none⟩),opV11 4 n m two lo xs.length lc no ns.length nc] w fun e w' => e=.returned (.bool true)∧DoT w0.heap.size w h g r v room w' := by
 obtain ⟨E,l1,PM,DM⟩:=point_two (l:=l) (room:=room) n m
 obtain ⟨W1,hW1⟩:∃ W1,W1=w.alloc (.cells #[.int .i64 4,.int .i64 n,.int .i64 m,.bool two,.slice lo xs.length lc,.slice no ns.length nc] 34):=⟨_,rfl⟩
 have D:Hid (D11 w0 w W1 h g r v room l 4 n m two lo xs.length lc no ns.length nc):=do11_start s hs hW1
 have HA:Hid (Arg w0 lo xs lc∧NsW w0 no ns∧ns.length * 56≤140737488351232):=⟨hL,hN,hN1⟩
 have HO:Hid (HP2 Any w0.heap.size w h g r v room l l):=s
 have j1:=hn.1
 have j2:=hn.2
 have j3:=hm.1
 have j4:=hm.2
 clear s hs hL hN hN1 hn hm
 go_enter Try.func10,Try.ntmps10
 go_upto_region 1 with fail
 rw [← hW1]
 clear hW1
 obtain ⟨b0,b1,b2,b3,b4,b5⟩:=D.out.x _ _ _ _ _ D.out.s
 have PH:Hid (∀ ww vv lr,St2 Any w0.heap.size W1 h g r v room ww vv l lr→Calls Try.prog 22 #[.pointer (some ⟨h,0,none⟩),.int .i64 n,.int .i64 m] ww fun e w' => e=.returned (.int .i64 E)∧St2 Any w0.heap.size W1 h g r v room w' vv l1 lr):=fun ww vv lr q=>(PM q.s.p).mono (fun e w' ⟨h1,h2⟩=>⟨h1,q.prog h2⟩)
 have PG:Hid (∀ ww vv lp,St2 Any w0.heap.size W1 h g r v room ww vv lp l→Calls Try.prog 34 #[.pointer (some ⟨r,0,none⟩),.int .i64 n,.int .i64 m] ww fun e w' => e=.returned (.int .i64 E)∧∃ v2,St2 Any w0.heap.size W1 h g r v room w' v2 lp l1):=fun ww vv lp q=>(DM q.s.q).mono (fun e w' ⟨h1,h2⟩=>⟨h1,by obtain ⟨v2,q2, -, -⟩:=q.doc h2;exact ⟨v2,q2⟩⟩)
 clear PM DM
 have ST:Hid (∀ ww vv lp lr,St2 Any w0.heap.size W1 h g r v room ww vv lp lr→ww.cell? ⟨w.heap.size,1,none⟩=some (.int .i64 n)∧ww.cell? ⟨w.heap.size,2,none⟩=some (.int .i64 m)):=fun ww vv lp lr q=>by
  obtain ⟨_,q1,q2,_⟩:=D.out.x _ _ _ _ _ q
  exact ⟨q1,q2⟩
 have S0:St2 Any w0.heap.size W1 h g r v room W1.drew v l l:=D.out.s.same ((Kept.refl _ _).drew)
 have CC0:=ST.out _ _ _ _ S0
 have q2:(E == E)=true:=by simp
 have FIN:Hid (∀ ww vv,St2 Any w0.heap.size W1 h g r v room ww vv l1 l1→DoT w0.heap.size w h g r v room ww):=fun ww vv q=>D.out.f _ _ _ _ q
 go_upto_region 19 with fail
 clear b0 b1 b2 b3 b4 b5 j1 j2 j3 j4
 go_region_held3 (fun w' => w'.cell? ⟨w.heap.size,1,none⟩=some (.int .i64 n)∧w'.cell? ⟨w.heap.size,2,none⟩=some (.int .i64 m)) (with_reducible first | exact CC0 | exact cc1 | exact cc2) (first
  | (go_at_call 22;with_reducible refine (PH.out _ _ _ S0).mono ?_;rintro e w8 ⟨rfl,sh⟩;have cc1:=ST.out _ _ _ _ sh)
  | (go_at_call 34;with_reducible refine (PG.out _ _ _ sh).mono ?_;rintro e w9 ⟨rfl,v9,sg⟩;have cc2:=ST.out _ _ _ _ sg)
  | (go_at_call 34;with_reducible refine (PG.out _ _ _ S0).mono ?_;rintro e w9 ⟨rfl,v9,sg⟩;have cc2:=ST.out _ _ _ _ sg)
  | (go_at_call 22;with_reducible refine (PH.out _ _ _ sg).mono ?_;rintro e w8 ⟨rfl,sh⟩;have cc1:=ST.out _ _ _ _ sh))
 all_goals
  go_wp2
  go_ret
  exact ⟨by first | rfl | simp,by first | exact FIN.out _ _ sh | exact FIN.out _ _ sg⟩
set_option maxHeartbeats 4000000 in
theorem do11_mark {w0 w:World} {h g r:Nat} {v:Value} {room:Nat} {l:List Nd} (s:HP2 Any w0.heap.size w h g r v room l l) (hs:Same0 w0 w) (n m:Int) (hn:I64 n) (hm:I64 m) (two:Bool) {lo:Option Addr} {xs:List Int} {lc:Nat} (hL:Arg w0 lo xs lc) {no:Option Addr} {ns:List Nd} {nc:Nat} (hN:NsW w0 no ns) (hN1:ns.length * 56≤140737488351232) :
  Calls Try.prog 10 #[.pointer (some ⟨h,0,none⟩),.pointer (some ⟨r,0,none⟩),opV11 5 n m two lo xs.length lc no ns.length nc] w fun e w' => e=.returned (.bool true)∧DoT w0.heap.size w h g r v room w' := by
 obtain ⟨E,l1,PM,DM⟩:=mark_two (l:=l) (room:=room) n m
 obtain ⟨W1,hW1⟩:∃ W1,W1=w.alloc (.cells #[.int .i64 5,.int .i64 n,.int .i64 m,.bool two,.slice lo xs.length lc,.slice no ns.length nc] 34):=⟨_,rfl⟩
 have D:Hid (D11 w0 w W1 h g r v room l 5 n m two lo xs.length lc no ns.length nc):=do11_start s hs hW1
 have HA:Hid (Arg w0 lo xs lc∧NsW w0 no ns∧ns.length * 56≤140737488351232):=⟨hL,hN,hN1⟩
 have HO:Hid (HP2 Any w0.heap.size w h g r v room l l):=s
 have j1:=hn.1
 have j2:=hn.2
 have j3:=hm.1
 have j4:=hm.2
 clear s hs hL hN hN1 hn hm
 go_enter Try.func10,Try.ntmps10
 go_upto_region 1 with fail
 rw [← hW1]
 clear hW1
 obtain ⟨b0,b1,b2,b3,b4,b5⟩:=D.out.x _ _ _ _ _ D.out.s
 have PH:Hid (∀ ww vv lr,St2 Any w0.heap.size W1 h g r v room ww vv l lr→Calls Try.prog 35 #[.pointer (some ⟨h,0,none⟩),.int .i64 n,.int .i64 m] ww fun e w' => e=.returned (.int .i64 E)∧St2 Any w0.heap.size W1 h g r v room w' vv l1 lr):=fun ww vv lr q=>(PM q.s.p).mono (fun e w' ⟨h1,h2⟩=>⟨h1,q.prog h2⟩)
 have PG:Hid (∀ ww vv lp,St2 Any w0.heap.size W1 h g r v room ww vv lp l→Calls Try.prog 36 #[.pointer (some ⟨r,0,none⟩),.int .i64 n,.int .i64 m] ww fun e w' => e=.returned (.int .i64 E)∧∃ v2,St2 Any w0.heap.size W1 h g r v room w' v2 lp l1):=fun ww vv lp q=>(DM q.s.q).mono (fun e w' ⟨h1,h2⟩=>⟨h1,by obtain ⟨v2,q2, -, -⟩:=q.doc h2;exact ⟨v2,q2⟩⟩)
 clear PM DM
 have ST:Hid (∀ ww vv lp lr,St2 Any w0.heap.size W1 h g r v room ww vv lp lr→ww.cell? ⟨w.heap.size,1,none⟩=some (.int .i64 n)∧ww.cell? ⟨w.heap.size,2,none⟩=some (.int .i64 m)):=fun ww vv lp lr q=>by
  obtain ⟨_,q1,q2,_⟩:=D.out.x _ _ _ _ _ q
  exact ⟨q1,q2⟩
 have S0:St2 Any w0.heap.size W1 h g r v room W1.drew v l l:=D.out.s.same ((Kept.refl _ _).drew)
 have CC0:=ST.out _ _ _ _ S0
 have q2:(E == E)=true:=by simp
 have FIN:Hid (∀ ww vv,St2 Any w0.heap.size W1 h g r v room ww vv l1 l1→DoT w0.heap.size w h g r v room ww):=fun ww vv q=>D.out.f _ _ _ _ q
 go_upto_region 21 with fail
 clear b0 b1 b2 b3 b4 b5 j1 j2 j3 j4
 go_region_held3 (fun w' => w'.cell? ⟨w.heap.size,1,none⟩=some (.int .i64 n)∧w'.cell? ⟨w.heap.size,2,none⟩=some (.int .i64 m)) (with_reducible first | exact CC0 | exact cc1 | exact cc2) (first
  | (go_at_call 35;with_reducible refine (PH.out _ _ _ S0).mono ?_;rintro e w8 ⟨rfl,sh⟩;have cc1:=ST.out _ _ _ _ sh)
  | (go_at_call 36;with_reducible refine (PG.out _ _ _ sh).mono ?_;rintro e w9 ⟨rfl,v9,sg⟩;have cc2:=ST.out _ _ _ _ sg)
  | (go_at_call 36;with_reducible refine (PG.out _ _ _ S0).mono ?_;rintro e w9 ⟨rfl,v9,sg⟩;have cc2:=ST.out _ _ _ _ sg)
  | (go_at_call 35;with_reducible refine (PH.out _ _ _ sg).mono ?_;rintro e w8 ⟨rfl,sh⟩;have cc1:=ST.out _ _ _ _ sh))
 all_goals
  go_wp2
  go_ret
  exact ⟨by first | rfl | simp,by first | exact FIN.out _ _ sh | exact FIN.out _ _ sg⟩
set_option maxHeartbeats 4000000 in
theorem do11_at {w0 w:World} {h g r:Nat} {v:Value} {room:Nat} {l:List Nd} (s:HP2 Any w0.heap.size w h g r v room l l) (hs:Same0 w0 w) (n m:Int) (hn:I64 n) (hm:I64 m) (two:Bool) {lo:Option Addr} {xs:List Int} {lc:Nat} (hL:Arg w0 lo xs lc) {no:Option Addr} {ns:List Nd} {nc:Nat} (hN:NsW w0 no ns) (hN1:ns.length * 56≤140737488351232) :
  Calls Try.prog 10 #[.pointer (some ⟨h,0,none⟩),.pointer (some ⟨r,0,none⟩),opV11 2 n m two lo xs.length lc no ns.length nc] w fun e w' => e=.returned (.bool true)∧DoT w0.heap.size w h g r v room w' := by
 obtain ⟨x,E,PA,DA⟩:=at_two l room n
 obtain ⟨W1,hW1⟩:∃ W1,W1=w.alloc (.cells #[.int .i64 2,.int .i64 n,.int .i64 m,.bool two,.slice lo xs.length lc,.slice no ns.length nc] 34):=⟨_,rfl⟩
 have D:Hid (D11 w0 w W1 h g r v room l 2 n m two lo xs.length lc no ns.length nc):=do11_start s hs hW1
 have HA:Hid (Arg w0 lo xs lc∧NsW w0 no ns∧ns.length * 56≤140737488351232):=⟨hL,hN,hN1⟩
 have HO:Hid (HP2 Any w0.heap.size w h g r v room l l):=s
 have j1:=hn.1
 have j2:=hn.2
 have j3:=hm.1
 have j4:=hm.2
 clear s hs hL hN hN1 hn hm
 go_enter Try.func10,Try.ntmps10
 go_upto_region 1 with fail
 rw [← hW1]
 clear hW1
 obtain ⟨b0,b1,b2,b3,b4,b5⟩:=D.out.x _ _ _ _ _ D.out.s
 have C1:=PA D.out.s.s.p
 have CD:Hid (∀ ww,St2 Any w0.heap.size W1 h g r v room ww v l l→Calls Try.prog 31 #[.pointer (some ⟨r,0,none⟩),.int .i64 n] ww fun e w' => ∃ bo bc,e=.returned (.tuple #[nodeV x bo bc,.int .i64 E])∧NdOut ww w' x bo bc):=fun ww q=>DA q.s.q
 clear PA DA
 have q2:(E == E)=true:=by simp
 go_upto_region 10 with (first | (go_at_call 26;refine C1.mono ?_;rintro e w2 ⟨bo,bc,rfl,a2,n2,k2⟩))
 obtain ⟨W3,hW3⟩:∃ W3,W3=w2.alloc (.cells #[.int .i64 x.1,.slice bo x.2.1.length bc,.int .i64 x.2.2.1,.bool x.2.2.2.1,.int .i64 x.2.2.2.2] 47):=⟨_,rfl⟩
 have k3:Same0 w2 W3:=by rw [hW3];exact (Kept.refl _ _).alloc _
 have hx3:W3.heap[w2.heap.size]? = some (.cells #[.int .i64 x.1,.slice bo x.2.1.length bc,.int .i64 x.2.2.1,.bool x.2.2.2.1,.int .i64 x.2.2.2.2] 47 (0,0)):=by rw [hW3];exact heap_alloc_new w2 _
 rw [← hW3]
 have K3:Hid (Same0 W1 W3):=k2.trans' k3
 have H3:Hid ((∀ ww,Same0 W3 ww→ww.heap[w2.heap.size]? = some (.cells #[.int .i64 x.1,.slice bo x.2.1.length bc,.int .i64 x.2.2.1,.bool x.2.2.2.1,.int .i64 x.2.2.2.2] 47 (0,0)))∧ArgT W3 bo x.2.1 bc∧∀ a,bo=some a→W1.heap.size≤a.block):=⟨fun ww hk=>hk.at0 hx3,a2.same k3,n2⟩
 have S3:Hid (St2 Any w0.heap.size W1 h g r v room W3 v l l):=D.out.s.same K3.out
 clear b0 b1 b2 b3 b4 b5 C1 k2 k3 a2 n2 hx3 hW3
 obtain ⟨b0,b1,b2,b3,b4,b5⟩:=D.out.x _ _ _ _ _ S3.out
 have C2:=CD.out W3 S3.out
 go_upto_region 11 with (first | (go_at_call 31;refine C2.mono ?_;rintro e w4 ⟨co,cc,rfl,a4,n4,k4⟩))
 obtain ⟨W5,hW5⟩:∃ W5,W5=w4.alloc (.cells #[.int .i64 x.1,.slice co x.2.1.length cc,.int .i64 x.2.2.1,.bool x.2.2.2.1,.int .i64 x.2.2.2.2] 47):=⟨_,rfl⟩
 have k5:Same0 w4 W5:=by rw [hW5];exact (Kept.refl _ _).alloc _
 have hx5:W5.heap[w4.heap.size]? = some (.cells #[.int .i64 x.1,.slice co x.2.1.length cc,.int .i64 x.2.2.1,.bool x.2.2.2.1,.int .i64 x.2.2.2.2] 47 (0,0)):=by rw [hW5];exact heap_alloc_new w4 _
 rw [← hW5]
 have K35:Same0 W3 W5:=k4.trans' k5
 obtain ⟨x0,x1,x2,x3,x4⟩:=box5 (H3.out.1 W5 K35)
 obtain ⟨y0,y1,y2,y3,y4⟩:=box5 hx5
 have C3:=sameNode_any (x:=x) (y:=x) (H3.out.2.1.same K35).1 (a4.same k5).1
 rw [eqN_self] at C3
 have K5:Hid (Same0 W3 W5):=K35
 clear b0 b1 b2 b3 b4 b5 C2 CD k4 k5 a4 n4 hx5 hW5 K35
 go_upto_region 12 with (first | (go_at_call 15;refine C3.mono ?_;rintro e w6 ⟨rfl,k6⟩))
 have K36:Same0 W3 w6:=K5.out.trans' k6
 clear x0 x1 x2 x3 x4 y0 y1 y2 y3 y4 C3
 obtain ⟨x0,x1,x2,x3,x4⟩:=box5 (H3.out.1 w6 K36)
 obtain ⟨W7,hW7⟩:∃ W7,W7=w6.alloc (.cells #[.int .i64 x.1,.slice bo x.2.1.length bc,.int .i64 x.2.2.1,.bool x.2.2.2.1,.int .i64 x.2.2.2.2] 47):=⟨_,rfl⟩
 have k7:Same0 w6 W7:=by rw [hW7];exact (Kept.refl _ _).alloc _
 have hx7:W7.heap[w6.heap.size]? = some (.cells #[.int .i64 x.1,.slice bo x.2.1.length bc,.int .i64 x.2.2.1,.bool x.2.2.2.1,.int .i64 x.2.2.2.2] 47 (0,0)):=by rw [hW7];exact heap_alloc_new w6 _
 have K37:Same0 W3 W7:=K36.trans' k7
 have C4:=spoil11_any (B:=fun k=>∃ a,bo=some a∧a.block=k) (w:=W7) (ao:=some ⟨w6.heap.size,0,none⟩) (N:=1) (.inr ⟨w6.heap.size,0,rfl,lt_of_at hx7,fun ⟨a,e1,e2⟩=>by have:=(H3.out.2.1.same K36).lt e1;omega,fun j hj=>by
  obtain rfl:j=0:=by omega
  exact ⟨bo,_,bc,by simpa using cellAt hx7 1,(H3.out.2.1.same K37).w,fun a e=>⟨a,e,rfl⟩⟩⟩) 1 (by unfold maxLen;omega) (-5)
 have FF:Hid (∀ w8,WK (fun k=>∃ a,bo=some a∧a.block=k) W7 w8→DoT w0.heap.size w h g r v room w8):=fun w8 hk=>D.out.f _ _ _ _ (D.out.s.same ((K3.out.trans' K37).trans hk.k (fun i hi ⟨a,e1,e2⟩=>by have:=H3.out.2.2 a e1;omega)))
 clear k6 k7 hx7 K37 K36
 go_wp2_with (first | (go_at_call 32;rw [← hW7];refine C4.mono ?_;rintro e w8 ⟨⟨u8,rfl⟩,k8⟩))
 go_ret
 exact ⟨by first | rfl | simp,FF.out _ k8⟩
set_option maxHeartbeats 4000000 in
theorem do11_all {w0 w:World} {h g r:Nat} {v:Value} {room:Nat} {l:List Nd} (s:HP2 Any w0.heap.size w h g r v room l l) (hs:Same0 w0 w) (n m:Int) (hn:I64 n) (hm:I64 m) (two:Bool) {lo:Option Addr} {xs:List Int} {lc:Nat} (hL:Arg w0 lo xs lc) {no:Option Addr} {ns:List Nd} {nc:Nat} (hN:NsW w0 no ns) (hN1:ns.length * 56≤140737488351232) :
  Calls Try.prog 10 #[.pointer (some ⟨h,0,none⟩),.pointer (some ⟨r,0,none⟩),opV11 7 n m two lo xs.length lc no ns.length nc] w fun e w' => e=.returned (.bool true)∧DoT w0.heap.size w h g r v room w' := by
 obtain ⟨W1,hW1⟩:∃ W1,W1=w.alloc (.cells #[.int .i64 7,.int .i64 n,.int .i64 m,.bool two,.slice lo xs.length lc,.slice no ns.length nc] 34):=⟨_,rfl⟩
 have D:Hid (D11 w0 w W1 h g r v room l 7 n m two lo xs.length lc no ns.length nc):=do11_start s hs hW1
 have HA:Hid (Arg w0 lo xs lc∧NsW w0 no ns∧ns.length * 56≤140737488351232):=⟨hL,hN,hN1⟩
 have HO:Hid (HP2 Any w0.heap.size w h g r v room l l):=s
 have j1:=hn.1
 have j2:=hn.2
 have j3:=hm.1
 have j4:=hm.2
 clear s hs hL hN hN1 hn hm
 go_enter Try.func10,Try.ntmps10
 go_upto_region 1 with fail
 rw [← hW1]
 clear hW1
 obtain ⟨b0,b1,b2,b3,b4,b5⟩:=D.out.x _ _ _ _ _ D.out.s
 have C1:=ranged_any D.out.s.s.p
 go_upto_region 27 with (first | (go_at_call 39;refine C1.mono ?_;rintro e w2 ⟨nv,rfl,hrow,k2⟩))
 obtain ⟨no', nc', e⟩:=hrow.shape
 subst e
 have S2:=D.out.s.same k2
 obtain ⟨c0,c1⟩:=S2.s.q.cells
 obtain ⟨vo,vc,ev,hV⟩:=S2.s.q.mem
 rw [ev] at c1
 have hl4:l.length≤maxLen:=by unfold maxLen;have:=S2.s.q.le;have:=S2.s.q.rm2;omega
 have C2:=sameNodes_any (ac:=nc') (bc:=vc) (NRow.mem hrow).weak hV.weak hl4
 rw [eqL_self] at C2
 have HR:Hid (NRow (fun b=>W1.heap.size≤b) W1.heap.size w2 (.slice no' l.length nc') l∧Same0 W1 w2∧l.length≤maxLen):=⟨hrow,k2,hl4⟩
 clear b0 b1 b2 b3 b4 b5 C1 hrow k2 S2 hV ev hl4
 go_upto_region 28 with (first | (go_at_call 40;refine C2.mono ?_;rintro e w3 ⟨rfl,k3⟩))
 have C3:=spoil11_any (HR.out.1.same k3).nsr nc' HR.out.2.2 (-6)
 have FF:Hid (∀ w8,WK (fun k=>W1.heap.size≤k∧¬ NotI w3 k) w3 w8→DoT w0.heap.size w h g r v room w8):=fun w8 hk=>D.out.f _ _ _ _ (D.out.s.same ((HR.out.2.1.trans' k3).trans hk.k (fun i hi e=>by have:=e.1;omega)))
 clear C2 c0 c1 k3 HR
 go_wp2_with (first | (go_at_call 32;refine C3.mono ?_;rintro e w8 ⟨⟨u8,rfl⟩,k8⟩))
 go_ret
 exact ⟨by first | rfl | simp,FF.out _ k8⟩
set_option maxHeartbeats 4000000 in
theorem do11_make {w0 w:World} {h g r:Nat} {v:Value} {room:Nat} {l:List Nd} (s:HP2 Any w0.heap.size w h g r v room l l) (hs:Same0 w0 w) (n m:Int) (hn:I64 n) (hm:I64 m) (two:Bool) {lo:Option Addr} {xs:List Int} {lc:Nat} (hL:Arg w0 lo xs lc) {no:Option Addr} {ns:List Nd} {nc:Nat} (hN:NsW w0 no ns) (hN1:ns.length * 56≤140737488351232) :
  Calls Try.prog 10 #[.pointer (some ⟨h,0,none⟩),.pointer (some ⟨r,0,none⟩),opV11 1 n m two lo xs.length lc no ns.length nc] w fun e w' => e=.returned (.bool true)∧DoT w0.heap.size w h g r v room w' := by
 obtain ⟨a,E,l1,PM,DM⟩:=make_two l room n xs
 obtain ⟨W1,hW1⟩:∃ W1,W1=w.alloc (.cells #[.int .i64 1,.int .i64 n,.int .i64 m,.bool two,.slice lo xs.length lc,.slice no ns.length nc] 34):=⟨_,rfl⟩
 have D:Hid (D11 w0 w W1 h g r v room l 1 n m two lo xs.length lc no ns.length nc):=do11_start s hs hW1
 have HA:Hid (Arg w0 lo xs lc∧NsW w0 no ns∧ns.length * 56≤140737488351232):=⟨hL,hN,hN1⟩
 have HO:Hid (HP2 Any w0.heap.size w h g r v room l l):=s
 have j1:=hn.1
 have j2:=hn.2
 have j3:=hm.1
 have j4:=hm.2
 clear s hs hL hN hN1 hn hm
 go_enter Try.func10,Try.ntmps10
 go_upto_region 1 with fail
 rw [← hW1]
 clear hW1
 obtain ⟨b0,b1,b2,b3,b4,b5⟩:=D.out.x _ _ _ _ _ D.out.s
 have C0:=lent11_any (cap:=lc) (show Arg W1 lo xs lc from HA.out.1.onto (D.out.k _ _ _ _ _ D.out.s))
 have q1:(a == a)=true:=by simp
 have q2:(E == E)=true:=by simp
 have HZ:Hid (xs.length * 8≤140737488351232):=HA.out.1.size
 go_upto_region 4 with (first | (go_at_call 28;refine C0.mono ?_;rintro e w3 ⟨gg,c,rfl,r3,hc3,k3⟩))
 have S3:=St2.between D.out.s.s k3
 have HB:Hid (St2 (fun k=>k<W1.heap.size∨w3.heap.size≤k) w0.heap.size W1 h g r v room w3 v l l∧Row W1.heap.size w3 (.slice (some ⟨gg,0,none⟩) (xs.length+3) c) (lentL xs)∧W1.heap.size≤gg∧gg<w3.heap.size∧xs.length+3≤c∧Same0 W1 w3):=⟨S3,r3,(r3.lt gg rfl).1,(r3.lt gg rfl).2,hc3,k3⟩
 have C1:=PM S3.s.p (lent_arg r3 hc3 HZ.out)
 have HD:Hid (∀ ww,St2 (fun k=>k<W1.heap.size∨w3.heap.size≤k) w0.heap.size W1 h g r v room ww v l1 l→Calls Try.prog 29 #[.pointer (some ⟨r,0,none⟩),.int .i64 n,.slice lo xs.length lc] ww fun e w' => e=.returned (.tuple #[.int .i64 a,.int .i64 E])∧RQ (fun k=>k<W1.heap.size∨w3.heap.size≤k) r room v l1 ww w'):=fun ww q=>DM q.s.q (HA.out.1.onto (D.out.k _ _ _ _ _ q))
 clear b0 b1 b2 b3 b4 b5
 obtain ⟨b0,b1,b2,b3,b4,b5⟩:=D.out.x _ _ _ _ _ S3
 clear C0 r3 hc3 k3 S3 PM DM
 go_upto_region 5 with (first | (go_at_call 20;refine C1.mono ?_;rintro e w4 ⟨rfl,h4⟩))
 have S4:=HB.out.1.prog h4
 have hold:h<W1.heap.size∧g<W1.heap.size∧r<W1.heap.size∧∀ k,v.ownBlock=some k→k<W1.heap.size:=⟨(D.out.s.s.own (.inl rfl)).2.2,(D.out.s.s.own (.inr (.inl rfl))).2.2,(D.out.s.s.own (.inr (.inr (.inl rfl)))).2.2,fun k e=>(D.out.s.s.own (.inr (.inr (.inr e)))).2.2⟩
 have r4:Row W1.heap.size w4 (.slice (some ⟨gg,0,none⟩) (xs.length+3) c) (lentL xs):=h4.2.row HB.out.2.1 (fun k e f=>by
  have e' : gg=k:=Option.some.inj e
  have:=HB.out.2.2.1
  rcases f with f | f <;> omega)
 have H4:Hid (St2 (fun k=>k<W1.heap.size∨w3.heap.size≤k) w0.heap.size W1 h g r v room w4 v l1 l∧Row W1.heap.size w4 (.slice (some ⟨gg,0,none⟩) (xs.length+3) c) (lentL xs)∧(h<W1.heap.size∧g<W1.heap.size∧r<W1.heap.size∧∀ k,v.ownBlock=some k→k<W1.heap.size)∧w3.heap.size≤w4.heap.size):=⟨S4,r4,hold,h4.2.size⟩
 have C2:=HD.out w4 S4
 clear b0 b1 b2 b3 b4 b5
 obtain ⟨b0,b1,b2,b3,b4,b5⟩:=D.out.x _ _ _ _ _ S4
 clear C1 h4 S4 r4 hold HD
 go_upto_region 6 with (first | (go_at_call 29;refine C2.mono ?_;rintro e w5 ⟨rfl,h5⟩))
 obtain ⟨v5,S5,o5,k5⟩:=H4.out.1.doc h5
 have r5:Row W1.heap.size w5 (.slice (some ⟨gg,0,none⟩) (xs.length+3) c) (lentL xs):=k5.row H4.out.2.1 (fun k e f=>by
  have e' : gg=k:=Option.some.inj e
  have:=HB.out.2.2.1
  rcases f with f | f
  ·have:=H4.out.2.2.1.2.2.1;omega
  ·have:=H4.out.2.2.1.2.2.2 k f;omega)
 have hK5:=D.out.k _ _ _ _ _ S5
 have C3:=held11_any (cap:=lc) r5 HB.out.2.2.2.2.1 (HA.out.1.onto hK5) (fun h0 ad e=>by
  have:=HA.out.1.at'.lt h0 e
  have:=D.out.lt
  have:=HB.out.2.2.1
  omega)
 have FF:Hid (∀ w6,Kept (fun i=>i=gg) w5 w6→DoT w0.heap.size w h g r v room w6):=fun w6 hk=>D.out.f _ _ _ _ (S5.amid hk (fun k e=>by rw [e];exact ⟨HB.out.2.2.1,HB.out.2.2.2.1⟩) (fun k e=>(o5 k e).imp id (fun q=>Nat.le_trans H4.out.2.2.2 q)) (.inr H4.out.2.2.1))
 clear b0 b1 b2 b3 b4 b5
 obtain ⟨b0,b1,b2,b3,b4,b5⟩:=D.out.x _ _ _ _ _ S5
 clear C2 h5 S5 o5 k5 r5 hK5 H4
 go_wp2_with (first | (go_at_call 30;refine C3.mono ?_;rintro e w6 ⟨rfl,k6⟩))
 go_ret
 exact ⟨by first | rfl | simp,FF.out _ k6⟩
end Go.Proofs.Ytmloedlkoijfbaa
