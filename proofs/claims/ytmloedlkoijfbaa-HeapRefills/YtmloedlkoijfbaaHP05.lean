import Derived.Test.YtmloedlkoijfbaaHP04
import Derived.Test.YtmloedlkoijfbaaHP01
namespace Go.Proofs.Ytmloedlkoijfbaa
set_option maxRecDepth 100000
set_option linter.unusedVariables false
open Go.RowKit
attribute [local go_sem ↓] Go.wp_at_zero Go.wp_at_succ
def allM (s:List Bool) (D:List Int) (q:Nat):Bool:=(D.take q).all (fun z=>s.getD z.toNat false)
theorem allM_succ {s:List Bool} {D:List Int} {q:Nat} (h:q<D.length):allM s D (q+1)=(allM s D q && s.getD D[q].toNat false):=by
 unfold allM
 rw [List.take_succ_eq_append_getElem h,List.all_append]
 simp
theorem allM_yes {s:List Bool} {D:List Int} {l:List Nd} {k:Nat} (h:allM s D D.length=true) (hd:∀ j:Nat,Ed l k j→(j:Int)∈D):∀ j,Ed l k j→Mk s j:=by
 intro j e
 unfold allM at h
 rw [List.take_length,List.all_eq_true] at h
 have:=h _ (hd j e)
 simp only [Int.toNat_natCast] at this
 unfold Mk
 rw [List.getD_eq_getElem?_getD] at this
 cases q:s[j]? with
 | none=>rw [q] at this;simp at this
 | some b=>rw [q] at this;simp at this;rw [this]
theorem allM_no {s:List Bool} {D:List Int} {l:List Nd} {k:Nat} (h:allM s D D.length=false) (hd:∀ j:Nat,(j:Int)∈D→Ed l k j) (hp:∀ z∈D,0≤z):¬ ∀ j,Ed l k j→Mk s j:=by
 intro H
 unfold allM at h
 rw [List.take_length] at h
 have:D.all (fun z=>s.getD z.toNat false)=true:=by
  rw [List.all_eq_true]
  intro z hz
  have h0:=hp z hz
  have:=H z.toNat (hd z.toNat (by rw [Int.toNat_of_nonneg h0];exact hz))
  unfold Mk at this
  rw [List.getD_eq_getElem?_getD,this]
  rfl
 rw [this] at h
 cases h
theorem Pass.still {l:List Nd} {s0 s:List Bool} {C k:Nat} {ag:Bool} (h:Pass l s0 C k ag s) (hk:(∀ m,Ed l k m→Mk s m)→Mk s k):Pass l s0 C (k+1) ag s:=by
 rcases h with ⟨h1,h2,h3⟩ | h
 ·refine .inl ⟨h1,h2,fun j hj=>?_⟩
  by_cases e:j=k
  ·subst e;subst h2;exact hk
  ·exact h3 j (by omega)
 ·exact .inr h
theorem Pass.le {l:List Nd} {s0 s:List Bool} {C k:Nat} {ag:Bool} (h:Pass l s0 C k ag s) (hC:C=s0.count false):s.count false≤C:=by
 rcases h with ⟨_,h2,_⟩ | h
 ·rw [h2,hC];exact Nat.le_refl _
 ·omega
theorem Pass.set {l:List Nd} {s0 s:List Bool} {C k k' i:Nat} {ag:Bool} (h:Pass l s0 C k ag s) (hC:C=s0.count false) (hi:s[i]? = some false):Pass l s0 C k' true (s.set i true):=by
 have h1:=h.le hC
 have h2:=count_set hi
 exact .inr ⟨rfl,by omega⟩
def RingQ (l:List Nd) (w:World) (e:Ending) (w' : World):Prop:=∃ b:Bool,e=.returned (.bool b)∧(b=true ↔ ¬ Ac l)∧Same0 w w'
set_option maxHeartbeats 2000000 in
theorem ring_any {w:World} {ao:Option Addr} {ac:Nat} {l:List Nd} (h:NsW w ao l) (hin:InL l) (few:∀ x∈l,x.2.1.length≤6) (hN:l.length≤4000) :
  Calls Try.prog 63 #[.slice ao l.length ac] w fun e w' => RingQ l w e w' := by
 obtain ⟨i,hi,hz0,hz1,hz2⟩:=info_parts info_boolT
 have HL:Hid (∀ ww,Same0 w ww→NsW ww ao l):=fun ww hk=>h.same hk
 have HI:Hid (InL l):=hin
 have HW:Hid (∀ x∈l,x.2.1.length≤6):=few
 obtain ⟨N,hNe⟩:∃ N,N=l.length:=⟨_,rfl⟩
 have HNE:Hid (N=l.length):=hNe
 rw [← hNe] at hN ⊢
 have i5:(0:Int)≤(N:Int):=by omega
 clear h hin few hNe
 go_enter Try.func63,Try.ntmps63
 go_upto_region 2 with (first | (at_make;refine wpList_make_full _ rfl _ _ 92 rfl w.heap.size 4 i _ 1 Try.underlying92 hi hz0 hz1 _ _ _ _ N rfl rfl rfl rfl (by rw [hz2];omega) (by unfold maxLen;omega) (Nat.le_refl _) ?_;intro w1 hown hgrow))
 rw [made_bools] at hown
 have K1:Same0 w w1:=Same0.grown (Kept.refl _ w) hgrow
 obtain ⟨mb,hmb⟩:∃ mb,mb=w.heap.size:=⟨_,rfl⟩
 have hlo:w.heap.size≤mb:=by omega
 rw [← hmb] at hown ⊢
 have HR1:Hid (w1.ownsRow mb 4 1 (.slice (some ⟨mb,0,none⟩) N N) N (bv (List.replicate N false))):=hown
 clear hmb hown hgrow hz0 hz1 hz2 hi
 go_upto_region 3 with fail
 go_loopw [4] (fun a wr=>∃ (s:List Bool) (again:Bool),a=.bool again∧Hid (wr.ownsRow mb 4 1 (.slice (some ⟨mb,0,none⟩) N N) N (bv s))∧Hid (Snd l (Mk s))∧Hid (again=false→∀ j,j<N→(∀ m,Ed l j m→Mk s m)→Mk s j)∧Same0 w wr) (fun a wr=>2 * falses wr mb N+(match a with | .bool true=>1 | _=>0))
 case atStart=>exact ⟨List.replicate N false,true,rfl,HR1,⟨fun _=>0,fun i j hm _=>by unfold Mk at hm;rw [List.getElem?_replicate] at hm;split at hm <;> cases hm⟩,(fun e=>by cases e),K1⟩
 case round=>
  clear K1 HR1
  obtain ⟨s,again,rfl,HR,HS,HC,hw⟩:=hrel
  cases again
  ·go_upto_region 32 with fail
   go_loop [13] (fun i=>∃ k:Nat,k≤N∧i=.int .i64 k∧Hid (∀ j,j<k→Mk s j)) (fun i=>N-(intOf i).toNat)
   case atStart=>exact ⟨0,Nat.zero_le _,rfl,fun j hj=>absurd hj (Nat.not_lt_zero _)⟩
   case round=>
    obtain ⟨k,hk,rfl,hall⟩:=hrel
    by_cases hlt:k<N
    ·obtain ⟨b,hb1,hb2,hb3⟩:=row_bool HR.out hlt
     have HB:Hid (s[k]? = some b):=hb1
     have j1:(k:Int)<(N:Int):=by omega
     have j2:(0:Int)≤(k:Int):=by omega
     clear hb1 hb3
     cases b
     ·have HA:Hid (¬ Ac l):=fun hac=>by
       have:=hac.all HI.out (S:=Mk s) (fun i hi hm=>HC.out (by first | rfl | trivial) i (by rw [HNE.out];exact hi) hm) k (by rw [← HNE.out];exact hlt)
       unfold Mk at this
       rw [HB.out] at this
       cases this
      go_wp2
      go_ret
      exact ⟨true,rfl,⟨fun _=>HA.out,fun _=>rfl⟩,hw⟩
     ·go_wp2
      go_round
      case rel=>exact ⟨k+1,by omega,by go_num,fun j hj=>by
       by_cases e:j=k
       ·subst e;exact HB.out
       ·exact hall.out j (by omega)⟩
      case measure=>simp [intOf];omega
    ·have hkN:k=N:=by omega
     rw [hkN] at hall
     clear hkN
     have hlt' : ¬ (k:Int)<(N:Int):=by omega
     have HA:Hid (Ac l):=HS.out.ac (fun i hi=>hall.out i (by rw [HNE.out];exact hi))
     clear hall
     go_wp2
     go_ret
     exact ⟨false,rfl,⟨fun e=>(by cases e),fun e=>absurd HA.out e⟩,hw⟩
  ·obtain ⟨wo,rfl⟩:∃ wo,wo=wr:=⟨_,rfl⟩
   have HFO:Hid (falses wo mb N=s.count false):=falses_row HR.out
   obtain ⟨C,hC⟩:∃ C,C=s.count false:=⟨_,rfl⟩
   have HCE:Hid (C=s.count false):=hC
   clear hC HC
   go_upto_region 6 with fail
   go_loopw [4,5] (fun a i wr2=>∃ (k:Nat) (s' : List Bool) (ag:Bool),i=.int .i64 (k:Int)∧k≤N∧a=.bool ag∧Hid (wr2.ownsRow mb 4 1 (.slice (some ⟨mb,0,none⟩) N N) N (bv s'))∧Hid (Snd l (Mk s'))∧Hid (Pass l s C k ag s')∧Same0 w wr2) (fun _ i _=>N-(intOf i).toNat)
   case atStart=>exact ⟨0,s,false,rfl,Nat.zero_le _,rfl,HR,HS,.inl ⟨rfl,rfl,fun j hj=>absurd hj (Nat.not_lt_zero _)⟩,hw⟩
   case round=>
    obtain ⟨k,s', ag,rfl,hk,rfl,HR', HS', HP', hw'⟩:=hrel
    by_cases hlt:k<N
    ·obtain ⟨j,rfl⟩:∃ j,j=k:=⟨_,rfl⟩
     have hjN:j<N:=hlt
     have hjl:j<l.length:=by rw [← HNE.out];exact hjN
     have j1:(j:Int)<(N:Int):=by omega
     have j2:(0:Int)≤(j:Int):=by omega
     clear hlt
     obtain ⟨b,hb1,hb2,hb3⟩:=row_bool HR'.out hjN
     have HB:Hid (s'[j]? = some b):=hb1
     clear hb1
     cases b
     ·clear hb3
      rcases HL.out wr hw' with e | ⟨nb,noff,e,hnb,hn⟩
      ·subst e;simp at hjl
      subst e
      obtain ⟨xo,xc,n0,n1,n2,n3,n4,n5⟩:=hn j hjl
      have CD:=down_any n5
      have HD:Hid (∀ z∈downL l[j],0≤z∧z<(l.length:Int)):=HI.out j hjl
      have HDE:Hid (∀ z:Nat,(z:Int)∈downL l[j]→Ed l j z):=fun z hz=>⟨hjl,hz⟩
      have HED:Hid (∀ z:Nat,Ed l j z→(z:Int)∈downL l[j]):=fun z hz=>hz.2
      have dl:(downL l[j]).length≤1000:=by have:=HW.out _ (List.getElem_mem hjl);unfold downL;split <;> (simp;try omega)
      generalize downL l[j]=D at *
      clear n5 hn
      go_upto_region 12 with (first | (go_at_call 67;refine CD.mono ?_;rintro e w3 ⟨bo,bc,rfl,hD, -,hk3⟩))
      have hw3:=hw'.trans' hk3
      have HR3:Hid (w3.ownsRow mb 4 1 (.slice (some ⟨mb,0,none⟩) N N) N (bv s')):=hk3.row HR'.out (fun _ _ f=>f)
      have HDI:Hid (IntsAt w3 bo D):=hD
      clear CD n0 n1 n2 n3 n4 hD hk3 hb2
      go_loop [6,8] (fun al c=>∃ q:Nat,q≤D.length∧c=.int .i64 (q:Int)∧al=.bool (allM s' D q)) (fun _ c=>D.length-(intOf c).toNat)
      case atStart=>exact ⟨0,Nat.zero_le _,rfl,rfl⟩
      case round=>
       obtain ⟨q,hq,rfl,rfl⟩:=hrel
       by_cases hql:q<D.length
       ·have q0:(0:Int)≤(q:Int):=by omega
        have q1:(q:Int)<(D.length:Int):=by omega
        obtain ⟨db,doff,rfl, -,cD⟩:=HDI.out.get hql
        have hz:=HD.out _ (List.getElem_mem hql)
        obtain ⟨bz,hbz⟩:∃ bz:Nat,D[q]=(bz:Int):=⟨D[q].toNat,by omega⟩
        have hbN:bz<N:=by rw [HNE.out];omega
        have q2:(0:Int)≤(bz:Int):=by omega
        have q3:(bz:Int)<(N:Int):=by omega
        obtain ⟨vb,m0,m1, -⟩:=row_bool HR3.out hbN
        have HAM:Hid (allM s' D (q+1)=(allM s' D q && vb)):=by
         show _=_
         rw [allM_succ hql,hbz]
         simp only [Int.toNat_natCast]
         rw [List.getD_eq_getElem?_getD,m0]
         rfl
        rw [hbz] at cD
        clear hbz hz m0
        generalize allM s' D q=A at *
        cases A
        ·go_wp2
         go_round
         case rel=>exact ⟨q+1,by omega,by go_num,by rw [HAM.out];rfl⟩
         case measure=>simp [intOf];omega
        ·go_wp2
         go_round
         case rel=>exact ⟨q+1,by omega,by go_num,by rw [HAM.out];rfl⟩
         case measure=>simp [intOf];omega
       ·obtain rfl:q=D.length:=by omega
        have HAY:Hid (allM s' D D.length=true→∀ m,Ed l j m→Mk s' m):=fun e=>allM_yes e HED.out
        have HAN:Hid (allM s' D D.length=false→¬ ∀ m,Ed l j m→Mk s' m):=fun e=>allM_no e HDE.out (fun z hz=>(HD.out z hz).1)
        generalize allM s' D D.length=A at *
        cases A
        ·go_wp2
         go_roundw
         case rel=>exact ⟨j+1,s', ag,by go_num,by omega,rfl,HR3,HS', HP'.out.still (fun e=>absurd e (HAN.out rfl)),hw3⟩
         case measure=>simp [intOf];omega
        ·obtain ⟨_, -,t1,t2⟩:=row_bool HR3.out hjN
         have HR4:Hid ((w3.setCell ⟨mb,j,none⟩ (.bool true)).ownsRow mb 4 1 (.slice (some ⟨mb,0,none⟩) N N) N (bv (s'.set j true))):=by show World.ownsRow _ _ _ _ _ _ _;rw [bv_set];exact (HR3.out.stored j _).1
         have hw4:Same0 w (w3.setCell ⟨mb,j,none⟩ (.bool true)):=hw3.own hlo _
         have hjs:j<s'.length:=(List.getElem?_eq_some_iff.1 HB.out).1
         have HS4:Hid (Snd l (Mk (s'.set j true))):=snd_set HS'.out hjs (HAY.out rfl)
         go_wp2
         go_roundw
         case rel=>exact ⟨j+1,s'.set j true,true,by go_num,by omega,rfl,HR4,HS4,HP'.out.set HCE.out HB.out,hw4⟩
         case measure=>simp [intOf];omega
     ·clear hb3
      go_wp2
      go_roundw
      case rel=>exact ⟨j+1,s', ag,by go_num,by omega,rfl,HR', HS', HP'.out.still (fun _=>HB.out),hw'⟩
      case measure=>simp [intOf];omega
    ·obtain rfl:N=k:=by omega
     obtain ⟨s1,hs1⟩:∃ s1,s1=s' := ⟨_,rfl⟩
     subst hs1
     obtain ⟨ag1,hag1⟩:∃ ag1,ag1=ag:=⟨_,rfl⟩
     subst hag1
     have HR1' := HR'
     have HS1' := HS'
     have HP1' := HP'
     have hw1' := hw'
     clear HR' HS' HP' hw' hlt hk
     go_upto_region 19 with fail
     go_loopw [4,9] (fun a i wr2=>∃ (k:Nat) (s' : List Bool) (ag:Bool),i=.int .i64 ((k:Int)-1)∧k≤N∧a=.bool ag∧Hid (wr2.ownsRow mb 4 1 (.slice (some ⟨mb,0,none⟩) N N) N (bv s'))∧Hid (Snd l (Mk s'))∧Hid (Pass l s C N ag s')∧Same0 w wr2) (fun _ i _=>(intOf i+1).toNat)
     case atStart=>exact ⟨N,s1,ag1,by rfl,Nat.le_refl _,rfl,HR1', HS1', HP1', hw1'⟩
     case round=>
      obtain ⟨k,s', ag,rfl,hk,rfl,HR', HS', HP', hw'⟩:=hrel
      by_cases hlt:0<k
      ·obtain ⟨j,rfl⟩:∃ j,k=j+1:=⟨k-1,by omega⟩
       have hjN:j<N:=by omega
       have hjl:j<l.length:=by rw [← HNE.out];exact hjN
       have j1:(j:Int)<(N:Int):=by omega
       have j2:(0:Int)≤(j:Int):=by omega
       rw [show ((j+1:Nat):Int)-1=(j:Int) by omega]
       clear hlt
       obtain ⟨b,hb1,hb2,hb3⟩:=row_bool HR'.out hjN
       have HB:Hid (s'[j]? = some b):=hb1
       clear hb1
       cases b
       ·clear hb3
        rcases HL.out wr hw' with e | ⟨nb,noff,e,hnb,hn⟩
        ·subst e;simp at hjl
        subst e
        obtain ⟨xo,xc,n0,n1,n2,n3,n4,n5⟩:=hn j hjl
        have CD:=down_any n5
        have HD:Hid (∀ z∈downL l[j],0≤z∧z<(l.length:Int)):=HI.out j hjl
        have HDE:Hid (∀ z:Nat,(z:Int)∈downL l[j]→Ed l j z):=fun z hz=>⟨hjl,hz⟩
        have HED:Hid (∀ z:Nat,Ed l j z→(z:Int)∈downL l[j]):=fun z hz=>hz.2
        have dl:(downL l[j]).length≤1000:=by have:=HW.out _ (List.getElem_mem hjl);unfold downL;split <;> (simp;try omega)
        generalize downL l[j]=D at *
        clear n5 hn
        go_upto_region 25 with (first | (go_at_call 67;refine CD.mono ?_;rintro e w3 ⟨bo,bc,rfl,hD, -,hk3⟩))
        have hw3:=hw'.trans' hk3
        have HR3:Hid (w3.ownsRow mb 4 1 (.slice (some ⟨mb,0,none⟩) N N) N (bv s')):=hk3.row HR'.out (fun _ _ f=>f)
        have HDI:Hid (IntsAt w3 bo D):=hD
        clear CD n0 n1 n2 n3 n4 hD hk3 hb2
        go_loop [10,12] (fun al c=>∃ q:Nat,q≤D.length∧c=.int .i64 (q:Int)∧al=.bool (allM s' D q)) (fun _ c=>D.length-(intOf c).toNat)
        case atStart=>exact ⟨0,Nat.zero_le _,rfl,rfl⟩
        case round=>
         obtain ⟨q,hq,rfl,rfl⟩:=hrel
         by_cases hql:q<D.length
         ·have q0:(0:Int)≤(q:Int):=by omega
          have q1:(q:Int)<(D.length:Int):=by omega
          obtain ⟨db,doff,rfl, -,cD⟩:=HDI.out.get hql
          have hz:=HD.out _ (List.getElem_mem hql)
          obtain ⟨bz,hbz⟩:∃ bz:Nat,D[q]=(bz:Int):=⟨D[q].toNat,by omega⟩
          have hbN:bz<N:=by rw [HNE.out];omega
          have q2:(0:Int)≤(bz:Int):=by omega
          have q3:(bz:Int)<(N:Int):=by omega
          obtain ⟨vb,m0,m1, -⟩:=row_bool HR3.out hbN
          have HAM:Hid (allM s' D (q+1)=(allM s' D q && vb)):=by
           show _=_
           rw [allM_succ hql,hbz]
           simp only [Int.toNat_natCast]
           rw [List.getD_eq_getElem?_getD,m0]
           rfl
          rw [hbz] at cD
          clear hbz hz m0
          generalize allM s' D q=A at *
          cases A
          ·go_wp2
           go_round
           case rel=>exact ⟨q+1,by omega,by go_num,by rw [HAM.out];rfl⟩
           case measure=>simp [intOf];omega
          ·go_wp2
           go_round
           case rel=>exact ⟨q+1,by omega,by go_num,by rw [HAM.out];rfl⟩
           case measure=>simp [intOf];omega
         ·obtain rfl:q=D.length:=by omega
          have HAY:Hid (allM s' D D.length=true→∀ m,Ed l j m→Mk s' m):=fun e=>allM_yes e HED.out
          have HAN:Hid (allM s' D D.length=false→¬ ∀ m,Ed l j m→Mk s' m):=fun e=>allM_no e HDE.out (fun z hz=>(HD.out z hz).1)
          generalize allM s' D D.length=A at *
          cases A
          ·go_wp2
           go_roundw
           case rel=>exact ⟨j,s', ag,rfl,by omega,rfl,HR3,HS', HP'.out,hw3⟩
           case measure=>simp [intOf]
          ·obtain ⟨_, -,t1,t2⟩:=row_bool HR3.out hjN
           have HR4:Hid ((w3.setCell ⟨mb,j,none⟩ (.bool true)).ownsRow mb 4 1 (.slice (some ⟨mb,0,none⟩) N N) N (bv (s'.set j true))):=by show World.ownsRow _ _ _ _ _ _ _;rw [bv_set];exact (HR3.out.stored j _).1
           have hw4:Same0 w (w3.setCell ⟨mb,j,none⟩ (.bool true)):=hw3.own hlo _
           have hjs:j<s'.length:=(List.getElem?_eq_some_iff.1 HB.out).1
           have HS4:Hid (Snd l (Mk (s'.set j true))):=snd_set HS'.out hjs (HAY.out rfl)
           go_wp2
           go_roundw
           case rel=>exact ⟨j,s'.set j true,true,rfl,by omega,rfl,HR4,HS4,HP'.out.set HCE.out HB.out,hw4⟩
           case measure=>simp [intOf]
       ·clear hb3
        go_wp2
        go_roundw
        case rel=>exact ⟨j,s', ag,rfl,by omega,rfl,HR', HS', HP'.out,hw'⟩
        case measure=>simp [intOf]
      ·obtain rfl:k=0:=by omega
       have HFN:Hid (falses wr mb N=s'.count false):=falses_row HR'.out
       have HLS:Hid (2 * s'.count false+(match Value.bool ag with | .bool true=>1 | _=>0)<2 * C+1):=by
        (show _<_)
        rcases HP'.out with ⟨e1,e2,_⟩ | ⟨e1,e2⟩
        ·subst e1;rw [e2,← HCE.out];simp
        ·subst e1;simp;omega
       have HCN:Hid (ag=false→∀ j,j<N→(∀ m,Ed l j m→Mk s' m)→Mk s' j):=fun e=>by
        rcases HP'.out with ⟨_,e2,e3⟩ | ⟨e1,_⟩
        ·subst e2;exact e3
        ·rw [e] at e1;cases e1
       go_wp2
       go_roundw
       case rel=>exact ⟨s', ag,rfl,HR', HS', HCN,hw'⟩
       case measure=>
        have h1:=HFN.out
        have h2:=HFO.out
        have h3:=HLS.out
        have h4:=HCE.out
        rw [h1,h2,← h4]
        exact h3
end Go.Proofs.Ytmloedlkoijfbaa
namespace Go.Proofs.Ytmloedlkoijfbaa
set_option linter.unusedVariables false
def dnL (l:List Nd) (a:Nat):List Int:=match l[a]? with
 | some x=>downL x
 | none=>[]
theorem dnL_at {l:List Nd} {a:Nat} (h:a<l.length):dnL l a=downL l[a]:=by simp [dnL,h]
theorem ed_iff {l:List Nd} {a b:Nat}:Ed l a b ↔ a<l.length∧(b:Int)∈dnL l a:=by
 constructor
 ·rintro ⟨h,hm⟩;exact ⟨h,by rw [dnL_at h];exact hm⟩
 ·rintro ⟨h,hm⟩;exact ⟨h,by rw [dnL_at h] at hm;exact hm⟩
def sumC (R:Nat→List Int) (b:Nat):Nat→Nat
 | 0=>0
 | n+1=>sumC R b n+(R n).count (b:Int)
theorem sumC_congr {R R' : Nat→List Int} {b:Nat}:∀ {n:Nat},(∀ a,a<n→(R a).count (b:Int)=(R' a).count (b:Int))→sumC R b n=sumC R' b n
 | 0,_=>rfl
 | n+1,h=>by
  unfold sumC
  rw [sumC_congr (fun a ha=>h a (by omega)),h n (by omega)]
theorem sumC_zero {R:Nat→List Int} {b:Nat}:∀ {n:Nat},sumC R b n=0→∀ a,a<n→(b:Int) ∉ R a
 | 0,_,a,ha=>absurd ha (Nat.not_lt_zero _)
 | n+1,h,a,ha=>by
  unfold sumC at h
  by_cases e:a=n
  ·subst e
   exact List.count_eq_zero.1 (by omega)
  ·exact sumC_zero (n:=n) (by omega) a (by omega)
theorem sumC_pos {R:Nat→List Int} {b:Nat}:∀ {n:Nat},sumC R b n≠0→∃ a,a<n∧(b:Int)∈R a
 | 0,h=>absurd rfl h
 | n+1,h=>by
  unfold sumC at h
  by_cases e:sumC R b n=0
  ·exact ⟨n,by omega,List.count_pos_iff.1 (by omega)⟩
  ·obtain ⟨a,h1,h2⟩:=sumC_pos (n:=n) e
   exact ⟨a,by omega,h2⟩
def lose (R:Nat→List Int) (c:Nat) (r:List Int):Nat→List Int:=fun a=>if a=c then r else R a
theorem sumC_lose {R:Nat→List Int} {c:Nat} {z:Int} {r:List Int} (hR:R c=z :: r) (b:Nat):∀ {n:Nat},c<n→sumC R b n=sumC (lose R c r) b n+(if z=(b:Int) then 1 else 0)
 | 0,h=>absurd h (Nat.not_lt_zero _)
 | n+1,h=>by
  unfold sumC
  by_cases e:c=n
  ·subst e
   rw [sumC_congr (R:=R) (R' := lose R c r) (fun a ha=>by unfold lose;rw [if_neg (by omega)])]
   have:lose R c r c=r:=by unfold lose;rw [if_pos rfl]
   rw [this,hR,List.count_cons]
   by_cases q:z=(b:Int)
   ·simp [q];omega
   ·simp [q]
  ·rw [sumC_lose hR b (n:=n) (by omega)]
   have:lose R c r n=R n:=by unfold lose;rw [if_neg (by omega)]
   rw [this]
   omega
theorem nd_snoc {T:List Nat} (h:∀ (p p' b:Nat),p<p' → T[p]? = some b→T[p']? = some b→False) {x:Nat} (hx:x ∉ T):∀ (p p' b:Nat),p<p' → (T ++ [x])[p]? = some b→(T ++ [x])[p']? = some b→False:=by
 intro p p' b hp h1 h2
 have hl:=(List.getElem?_eq_some_iff.1 h2).1
 simp at hl
 rw [List.getElem?_append_left (by omega)] at h1
 by_cases e:p' < T.length
 ·rw [List.getElem?_append_left e] at h2
  exact h p p' b hp h1 h2
 ·have:p' = T.length:=by omega
  subst this
  simp at h2
  subst h2
  exact hx (List.mem_of_getElem? h1)
structure Kh (l:List Nd) (P:Nat→Prop) (R:Nat→List Int) (lead:List Int) (T:List Nat):Prop where
 len:lead.length=l.length
 val:∀ b:Nat,b<l.length→lead[b]? = some ((sumC R b l.length:Nat):Int)
 mem:∀ b:Nat,b∈T ↔ lead[b]? = some 0
 cnt:T.length=lead.count 0
 ord:∀ (p b:Nat),T[p]? = some b→∀ a,Ed l a b→∃ p' : Nat,p' < p∧T[p']? = some a
 rest:∀ a,a<l.length→¬ P a→R a=dnL l a
 begun:∀ a,P a→a∈T
 nd:∀ (p p' b:Nat),p<p' → T[p]? = some b→T[p']? = some b→False
theorem Kh.le {l:List Nd} {P:Nat→Prop} {R:Nat→List Int} {lead:List Int} {T:List Nat} (h:Kh l P R lead T):T.length≤l.length:=by
 rw [h.cnt,← h.len];exact List.count_le_length
theorem Kh.lt {l:List Nd} {P:Nat→Prop} {R:Nat→List Int} {lead:List Int} {T:List Nat} (h:Kh l P R lead T) {b:Nat} (hb:b∈T):b<l.length:=by
 have:=(List.getElem?_eq_some_iff.1 ((h.mem b).1 hb)).1
 rw [h.len] at this;exact this
theorem Kh.more {l:List Nd} {P P' : Nat→Prop} {R:Nat→List Int} {lead:List Int} {T:List Nat} (h:Kh l P R lead T) (h1:∀ a,P a→P' a) (h2:∀ a,P' a→a∈T):Kh l P' R lead T:=
 ⟨h.len,h.val,h.mem,h.cnt,h.ord,fun a ha hn=>h.rest a ha (fun q=>hn (h1 a q)),h2,h.nd⟩
theorem Kh.strike {l:List Nd} {P:Nat→Prop} {R:Nat→List Int} {lead:List Int} {T:List Nat} (h:Kh l P R lead T) {c b:Nat} {r:List Int} (hP:P c) (hR:R c=(b:Int) :: r) (hb:b<l.length) :
  ∃ v:Int,lead[b]? = some v∧1≤v∧((v-1=0∧Kh l P (lose R c r) (lead.set b (v-1)) (T ++ [b]))∨(v-1≠0∧Kh l P (lose R c r) (lead.set b (v-1)) T)):=by
 have hc:c<l.length:=h.lt (h.begun c hP)
 have hv:=h.val b hb
 have hs:=sumC_lose hR b hc
 rw [if_pos rfl] at hs
 have hbl:b<lead.length:=by rw [h.len];exact hb
 have hset:∀ j,(lead.set b ((sumC R b l.length:Nat)-1:Int))[j]? = if j=b then some ((sumC R b l.length:Nat)-1:Int) else lead[j]? := fun j=>by
  rw [List.getElem?_set]
  by_cases e:b=j
  ·subst e;simp [hbl]
  ·rw [if_neg e,if_neg (Ne.symm e)]
 have hval:∀ j,j<l.length→(lead.set b ((sumC R b l.length:Nat)-1:Int))[j]? = some ((sumC (lose R c r) j l.length:Nat):Int):=fun j hj=>by
  rw [hset]
  by_cases e:j=b
  ·subst e;rw [if_pos rfl];congr 1;omega
  ·rw [if_neg e,h.val j hj]
   have:=sumC_lose hR j hc
   rw [if_neg (by omega)] at this
   rw [this];rfl
 have hrest:∀ a,a<l.length→¬ P a→lose R c r a=dnL l a:=fun a ha hn=>by
  have:a≠c:=fun e=>hn (e ▸ hP)
  unfold lose;rw [if_neg this];exact h.rest a ha hn
 have hvb:lead[b]=((sumC R b l.length:Nat):Int):=by
  have:=hv;rw [List.getElem?_eq_getElem hbl] at this;simpa using this
 refine ⟨((sumC R b l.length:Nat):Int),hv,by omega,?_⟩
 have hnT:b ∉ T:=fun q=>by
  have:=(h.mem b).1 q
  rw [hv] at this
  simp at this
  omega
 by_cases e:((sumC R b l.length:Nat):Int)-1=0
 ·refine .inl ⟨e,⟨by simp [h.len],hval,fun j=>?_,?_,?_,hrest,fun a ha=>List.mem_append.2 (.inl (h.begun a ha)),nd_snoc h.nd hnT⟩⟩
  ·rw [hset]
   by_cases q:j=b
   ·subst q;rw [if_pos rfl,e];simp
   ·rw [if_neg q,← h.mem];simp [q]
  ·rw [List.count_set hbl,List.length_append,h.cnt,hvb,e]
   have:((((sumC R b l.length:Nat):Int)) == 0)=false:=by simp;omega
   rw [this]
   simp
  ·intro p x hp a ea
   by_cases q:p<T.length
   ·rw [List.getElem?_append_left q] at hp
    obtain ⟨p', h1,h2⟩:=h.ord p x hp a ea
    exact ⟨p', h1,by rw [List.getElem?_append_left (by omega)];exact h2⟩
   ·have hpe:p=T.length:=by
     have:=(List.getElem?_eq_some_iff.1 hp).1
     simp at this;omega
    subst hpe
    simp at hp
    subst hp
    have hz:sumC (lose R c r) b l.length=0:=by omega
    obtain ⟨ha,hm⟩:=ed_iff.1 ea
    have hPa:P a:=by
     by_cases q:P a
     ·exact q
     ·exact absurd (by rw [hrest a ha q];exact hm) (sumC_zero hz a ha)
    obtain ⟨p', hp', hx⟩:=List.mem_iff_getElem.1 (h.begun a hPa)
    exact ⟨p', hp', by rw [List.getElem?_append_left hp', List.getElem?_eq_getElem hp', hx]⟩
 ·refine .inr ⟨e,⟨by simp [h.len],hval,fun j=>?_,?_,h.ord,hrest,h.begun,h.nd⟩⟩
  ·rw [hset]
   by_cases q:j=b
   ·subst q;rw [if_pos rfl];simp [hnT];omega
   ·rw [if_neg q,← h.mem]
  ·rw [List.count_set hbl,h.cnt,hvb]
   have h1:((((sumC R b l.length:Nat):Int)) == 0)=false:=by simp;omega
   have h2:((((sumC R b l.length:Nat):Int))-1 == 0)=false:=by simp;omega
   rw [h1,h2]
   simp
theorem idx_le:∀ (T:List Nat) (p a:Nat),T[p]? = some a→T.idxOf a≤p
 | [],p,a,h=>by simp at h
 | x :: T,0,a,h=>by
  simp at h
  subst h
  simp
 | x :: T,p+1,a,h=>by
  have:=idx_le T p a (by simpa using h)
  rw [List.idxOf_cons]
  cases x == a <;> simp <;> omega
theorem Kh.done {l:List Nd} {P:Nat→Prop} {R:Nat→List Int} {lead:List Int} {T:List Nat} (h:Kh l P R lead T) (hin:InL l) (hR:∀ a,a∈T→R a=[]):T.length<l.length ↔ ¬ Ac l:=by
 constructor
 ·intro hlt hac
  obtain ⟨r,hr⟩:=hac
  -- a node that is left has one above it that is left
  have up:∀ b,b<l.length→b ∉ T→∃ a,a<l.length∧a ∉ T∧r b<r a:=fun b hb hn=>by
   have h1:sumC R b l.length≠0:=fun e=>hn ((h.mem b).2 (by rw [h.val b hb,e];rfl))
   obtain ⟨a,ha,hm⟩:=sumC_pos h1
   have hna:a ∉ T:=fun q=>by rw [hR a q] at hm;cases hm
   refine ⟨a,ha,hna,hr a b (ed_iff.2 ⟨ha,?_⟩)⟩
   rw [← h.rest a ha (fun q=>hna (h.begun a q))];exact hm
  have top:∀ n,∃ M,∀ i,i<n→r i≤M:=fun n=>by
   induction n with
   | zero=>exact ⟨0,fun i h=>absurd h (Nat.not_lt_zero _)⟩
   | succ n ih=>
    obtain ⟨M,hM⟩:=ih
    refine ⟨max M (r n),fun i hi=>?_⟩
    by_cases e:i=n
    ·subst e;omega
    ·have:=hM i (by omega);omega
  obtain ⟨M,hM⟩:=top l.length
  have no:∀ n b,M-r b<n→b<l.length→b ∉ T→False:=fun n=>by
   induction n with
   | zero=>intro b h;omega
   | succ n ih=>
    intro b hb hl hn
    obtain ⟨a,ha,hna,hra⟩:=up b hl hn
    have:=hM a ha
    exact ih a (by omega) ha hna
  have:∃ b,b<l.length∧b ∉ T:=by
   by_cases q:∃ b,b<l.length∧b ∉ T
   ·exact q
   ·exfalso
    have hall:∀ x∈lead,x=0:=fun x hx=>by
     obtain ⟨b,hb,rfl⟩:=List.mem_iff_getElem.1 hx
     have hb' : b<l.length:=by rw [← h.len];exact hb
     have hm:b∈T:=by
      by_cases q' : b∈T
      ·exact q'
      ·exact absurd ⟨b,hb', q'⟩ q
     have:=(h.mem b).1 hm
     rw [List.getElem?_eq_getElem hb] at this
     simpa using this
    have:lead.count 0=lead.length:=List.count_eq_length.2 (fun b hb=>(hall b hb).symm)
    have h1:=h.cnt
    have h2:=h.len
    omega
  obtain ⟨b,hb,hn⟩:=this
  exact no (M-r b+1) b (by omega) hb hn
 ·intro hac
  by_cases e:T.length<l.length
  ·exact e
  ·exfalso
   apply hac
   have hle:=h.le
   have hcl:lead.count 0=lead.length:=by have h1:=h.cnt;have h2:=h.len;omega
   have hall:∀ b,b<l.length→b∈T:=fun b hb=>by
    have hb' : b<lead.length:=by rw [h.len];exact hb
    have:=List.count_eq_length.1 hcl lead[b] (List.getElem_mem hb')
    exact (h.mem b).2 (by rw [List.getElem?_eq_getElem hb', ← this])
   refine ⟨fun x=>T.length-T.idxOf x,fun a b ea=>?_⟩
   have hb:b<l.length:=by
    have:=(hin a ea.1 _ ea.2).2
    omega
   have hbT:=hall b hb
   have hi:=List.idxOf_lt_length_of_mem hbT
   have hT:T[T.idxOf b]? = some b:=by rw [List.getElem?_eq_getElem hi,List.getElem_idxOf hi]
   obtain ⟨p', h1,h2⟩:=h.ord _ b hT a ea
   have h3:T.idxOf a≤p' := idx_le T p' a h2
   show T.length-T.idxOf b<T.length-T.idxOf a
   omega
def Ld (l:List Nd) (k q:Nat) (lead:List Int):Prop:=lead.length=l.length∧∀ b:Nat,b<l.length→lead[b]? = some (((sumC (dnL l) b k+((dnL l k).take q).count (b:Int):Nat)):Int)
theorem Ld.start (l:List Nd):Ld l 0 0 (List.replicate l.length 0):=⟨by simp,fun b hb=>by simp [hb,sumC]⟩
theorem Ld.next {l:List Nd} {k:Nat} {lead:List Int} (h:Ld l k (dnL l k).length lead):Ld l (k+1) 0 lead:=⟨h.1,fun b hb=>by
 rw [h.2 b hb]
 simp [sumC]⟩
theorem Ld.one {l:List Nd} {k q b:Nat} {lead:List Int} (h:Ld l k q lead) (hq:q<(dnL l k).length) (hz:(dnL l k)[q]=(b:Int)) (hb:b<l.length):∃ v:Int,lead[b]? = some v∧0≤v∧Ld l k (q+1) (lead.set b (v+1)):=by
 refine ⟨_,h.2 b hb,by omega,by simp [h.1],fun j hj=>?_⟩
 have hl:b<lead.length:=by rw [h.1];exact hb
 rw [List.getElem?_set,List.take_succ_eq_append_getElem hq,List.count_append,hz]
 by_cases e:b=j
 ·subst e
  rw [if_pos rfl,if_pos hl]
  simp
  omega
 ·rw [if_neg e,h.2 j hj]
  have:(b:Int)≠(j:Int):=by omega
  simp [this]
theorem Ld.bound {l:List Nd} {k q:Nat} {lead:List Int} (h:Ld l k q lead) (few:∀ x∈l,x.2.1.length≤6) (hk:k≤l.length):∀ (b:Nat) (v:Int),lead[b]? = some v→v≤6 * (l.length:Int)+6:=by
 intro b v hv
 have hb:b<l.length:=by have:=(List.getElem?_eq_some_iff.1 hv).1;rw [h.1] at this;exact this
 rw [h.2 b hb] at hv
 have hd:∀ a,(dnL l a).length≤6:=fun a=>by
  unfold dnL
  split
  ·rename_i x hx
   have:=few x (List.mem_of_getElem? hx)
   unfold downL
   split
   ·simp
   ·exact this
  ·simp
 have hs:∀ n,sumC (dnL l) b n≤6 * n:=fun n=>by
  induction n with
  | zero=>simp [sumC]
  | succ n ih=>
   have h1:=List.count_le_length (a:=(b:Int)) (l:=dnL l n)
   have h2:=hd n
   unfold sumC
   omega
 have h1:=hs k
 have h2:=List.count_le_length (a:=(b:Int)) (l:=(dnL l k).take q)
 have h3:=hd k
 have h4:((dnL l k).take q).length≤6:=by simp;omega
 simp only [Option.some.injEq] at hv
 omega
def Zr (lead:List Int) (k:Nat) (T:List Nat):Prop:=(∀ b:Nat,b∈T ↔ b<k∧lead[b]? = some 0)∧T.length=(lead.take k).count 0∧∀ (p p' b:Nat),p<p' → T[p]? = some b→T[p']? = some b→False
theorem Zr.start (lead:List Int):Zr lead 0 []:=⟨fun b=>by simp,by simp,fun p p' b _ h=>by simp at h⟩
theorem Zr.yes {lead:List Int} {k:Nat} {T:List Nat} (h:Zr lead k T) (hk:lead[k]? = some 0):Zr lead (k+1) (T ++ [k]):=by
 obtain ⟨hl,hv⟩:=List.getElem?_eq_some_iff.1 hk
 refine ⟨fun b=>?_,?_,nd_snoc h.2.2 (fun q=>by have:=((h.1 k).1 q).1;omega)⟩
 ·rw [List.mem_append,h.1]
  simp
  constructor
  ·rintro (⟨q1,q2⟩ | rfl)
   ·exact ⟨by omega,q2⟩
   ·exact ⟨by omega,hk⟩
  ·rintro ⟨q1,q2⟩
   by_cases e:b=k
   ·exact .inr e
   ·exact .inl ⟨by omega,q2⟩
 ·rw [List.take_succ_eq_append_getElem hl,List.count_append,List.length_append,h.2.1,hv]
  simp
theorem Zr.no {lead:List Int} {k:Nat} {T:List Nat} (h:Zr lead k T) (hl:k<lead.length) (hk:lead[k]≠0):Zr lead (k+1) T:=by
 refine ⟨fun b=>?_,?_,h.2.2⟩
 ·rw [h.1]
  constructor
  ·rintro ⟨q1,q2⟩;exact ⟨by omega,q2⟩
  ·rintro ⟨q1,q2⟩
   refine ⟨?_,q2⟩
   by_cases e:b=k
   ·subst e;rw [List.getElem?_eq_getElem hl] at q2;simp at q2;exact absurd q2 hk
   ·omega
 ·rw [List.take_succ_eq_append_getElem hl,List.count_append,h.2.1]
  simp [hk]
theorem Zr.le {lead:List Int} {k:Nat} {T:List Nat} (h:Zr lead k T):T.length≤k:=by
 rw [h.2.1]
 have:=List.count_le_length (a:=(0:Int)) (l:=lead.take k)
 simp at this;omega
theorem Kh.start {l:List Nd} {lead:List Int} {T:List Nat} (h1:Ld l l.length 0 lead) (h2:Zr lead l.length T):Kh l (fun _=>False) (dnL l) lead T:=by
 have hv:∀ b,b<l.length→lead[b]? = some ((sumC (dnL l) b l.length:Nat):Int):=fun b hb=>by
  rw [h1.2 b hb];simp
 have hm:∀ b,b∈T ↔ lead[b]? = some 0:=fun b=>by
  rw [h2.1]
  exact ⟨fun q=>q.2,fun q=>⟨by have:=(List.getElem?_eq_some_iff.1 q).1;rw [h1.1] at this;exact this,q⟩⟩
 refine ⟨h1.1,hv,hm,?_,?_,fun a _ _=>rfl,fun a f=>f.elim,h2.2.2⟩
 ·rw [h2.2.1,List.take_of_length_le (by rw [h1.1];exact Nat.le_refl _)]
 ·intro p b hp a ea
  exfalso
  have hb:=(hm b).1 (List.mem_of_getElem? hp)
  have hbl:b<l.length:=by have:=(List.getElem?_eq_some_iff.1 hb).1;rw [h1.1] at this;exact this
  rw [hv b hbl] at hb
  have hz:sumC (dnL l) b l.length=0:=by simpa using hb
  obtain ⟨ha,hme⟩:=ed_iff.1 ea
  exact sumC_zero hz a ha hme
end Go.Proofs.Ytmloedlkoijfbaa
namespace Go.Proofs.Ytmloedlkoijfbaa
set_option maxRecDepth 100000
set_option linter.unusedVariables false
open Go.RowKit
attribute [local go_sem ↓] Go.wp_at_zero Go.wp_at_succ
theorem iv_set (xs:List Int) (k:Nat) (z:Int):iv (xs.set k z)=(iv xs).set k (.int .i64 z):=by simp [iv,List.map_set]
theorem made_ints (n:Nat):(madeCells (Value.int .i64 0).cells (n * 1)).toList=iv (List.replicate n 0):=by
 rw [Nat.mul_one,show (Value.int .i64 0).cells = #[Value.int .i64 0] from rfl,toList_madeCells_one]
 simp [iv]
theorem row_int {w:World} {base g N:Nat} {m:List Int} (h:w.ownsRow base 3 1 (.slice (some ⟨g,0,none⟩) N N) N (iv m)) {k:Nat} (hk:k<N):∃ z,m[k]? = some z∧w.cell? ⟨g,k,none⟩=some (.int .i64 z)∧w.frozen? ⟨g,k,none⟩=false:=by
 have hl:m.length=N:=by have:=h.1;simp [iv] at this;omega
 refine ⟨m[k]'(by omega),by simp [hl,hk],?_,h.frozenAt k⟩
 rw [h.cellAt k (by omega)]
 simp [iv,hl,hk]
abbrev LdAt (wr:World) (lb N:Nat) (lead:List Int):Prop:=wr.ownsRow lb 3 1 (.slice (some ⟨lb,0,none⟩) N N) N (iv lead)
theorem LdAt.put {w wr:World} {lb N:Nat} {lead:List Int} (h:LdAt wr lb N lead) (hw:Same0 w wr) (hlo:w.heap.size≤lb) (b:Nat) (z:Int):LdAt (wr.setCell ⟨lb,b,none⟩ (.int .i64 z)) lb N (lead.set b z)∧Same0 w (wr.setCell ⟨lb,b,none⟩ (.int .i64 z))∧Kept (fun k=>k=lb) wr (wr.setCell ⟨lb,b,none⟩ (.int .i64 z)):=
 ⟨by unfold LdAt;rw [iv_set];exact (h.stored b _).1,hw.own hlo _,Kept.setCell (S:=fun k=>k=lb) (Kept.refl _ _) (p:=⟨lb,b,none⟩) (fun _=>rfl) _⟩
def DAt (wr:World) (lb:Nat) (bo:Option Addr) (D:List Int):Prop:=IntsAt wr bo D∧∀ x,bo=some x→D≠[]→x.block<wr.heap.size∧x.block≠lb
set_option maxHeartbeats 4000000 in
theorem ringed_any {w:World} {ao:Option Addr} {ac:Nat} {l:List Nd} (h:NsW w ao l) (hin:InL l) (few:∀ x∈l,x.2.1.length≤6) (hN:l.length≤4000) :
  Calls Try.prog 61 #[.slice ao l.length ac] w fun e w' => RingQ l w e w' := by
 obtain ⟨i,hi,hz0,hz1,hz2⟩:=info_parts info_intT
 have HL:Hid (∀ ww,Same0 w ww→∀ j (hj:j<l.length),∃ nb noff xo xc,ao=some ⟨nb,noff,none⟩∧ww.cell? ⟨nb,noff+j * 5,none⟩=some (.int .i64 l[j].1)∧ww.cell? ⟨nb,noff+j * 5+1,none⟩=some (.slice xo l[j].2.1.length xc)∧ww.cell? ⟨nb,noff+j * 5+2,none⟩=some (.int .i64 l[j].2.2.1)∧ww.cell? ⟨nb,noff+j * 5+3,none⟩=some (.bool l[j].2.2.2.1)∧ww.cell? ⟨nb,noff+j * 5+4,none⟩=some (.int .i64 l[j].2.2.2.2)∧Arg ww xo l[j].2.1 xc∧∀ x,xo=some x→l[j].2.1≠[]→x.block<w.heap.size):=fun ww hk j hj=>by
  rcases h with e | ⟨nb,noff,e,hnb,hn⟩
  ·rw [e] at hj;simp at hj
  ·obtain ⟨xo,xc,n0,n1,n2,n3,n4,n5⟩:=hn j hj
   have hlt:∀ x,xo=some x→l[j].2.1≠[]→x.block<w.heap.size:=fun x q h0=>n5.at'.lt h0 q
   have t:∀ o,ww.cell? ⟨nb,o,none⟩=w.cell? ⟨nb,o,none⟩:=fun o=>hk.cell (p:=⟨nb,o,none⟩) hnb (fun f=>f)
   exact ⟨nb,noff,xo,xc,e,(t _).trans n0,(t _).trans n1,(t _).trans n2,(t _).trans n3,(t _).trans n4,n5.onto hk,hlt⟩
 have HI:Hid (InL l):=hin
 have HW:Hid (∀ x∈l,x.2.1.length≤6):=few
 have HDD:Hid (∀ j (hj:j<l.length),dnL l j=downL l[j]):=fun j hj=>dnL_at hj
 obtain ⟨N,hNe⟩:∃ N,N=l.length:=⟨_,rfl⟩
 have HNE:Hid (N=l.length):=hNe
 have HL0:Hid (Ld l 0 0 (List.replicate N 0)):=by rw [hNe];exact Ld.start l
 rw [← hNe] at hN ⊢
 have i5:(0:Int)≤(N:Int):=by omega
 have i6:(N:Int)≤4000:=by omega
 clear h hin few hNe
 go_enter Try.func61,Try.ntmps61
 go_upto_region 2 with (first | (at_make;refine wpList_make_full _ rfl _ _ 31 rfl w.heap.size 3 i _ 1 Try.underlying31 hi hz0 hz1 _ _ _ _ N rfl rfl rfl rfl (by rw [hz2];omega) (by unfold maxLen;omega) (Nat.le_refl _) ?_;intro w1 hown hgrow))
 rw [made_ints] at hown
 have K1:Same0 w w1:=Same0.grown (Kept.refl _ w) hgrow
 obtain ⟨lb,hlb⟩:∃ lb,lb=w.heap.size:=⟨_,rfl⟩
 have hlo:w.heap.size≤lb:=by omega
 have hlb1:lb<w1.heap.size:=by rw [hlb];exact (hown.lt w.heap.size rfl).2
 rw [← hlb] at hown ⊢
 have HR1:Hid (LdAt w1 lb N (List.replicate N 0)):=hown
 clear hlb hown hgrow hz0 hz1 hz2 hi
 go_upto_region 3 with fail
 go_loopw [19] (fun i wr=>∃ (k:Nat) (lead:List Int),i=.int .i64 (k:Int)∧k≤N∧Hid (LdAt wr lb N lead)∧Hid (Ld l k 0 lead)∧Same0 w wr∧lb<wr.heap.size) (fun i _=>N-(intOf i).toNat)
 case atStart=>exact ⟨0,_,rfl,Nat.zero_le _,HR1,HL0,K1,hlb1⟩
 case round=>
  clear K1 HR1 HL0 hlb1
  obtain ⟨k,lead,rfl,hk,HR,HD,hw,hlb1⟩:=hrel
  by_cases hlt:k<N
  ·have hkl:k<l.length:=by rw [← HNE.out];exact hlt
   have j1:(k:Int)<(N:Int):=by omega
   have j2:(0:Int)≤(k:Int):=by omega
   obtain ⟨nb,noff,xo,xc,rfl,n0,n1,n2,n3,n4,n5,n6⟩:=HL.out wr hw k hkl
   have kb:Same0 wr (wr.alloc (.cells #[.int .i64 l[k].1,.slice xo l[k].2.1.length xc,.int .i64 l[k].2.2.1,.bool l[k].2.2.2.1,.int .i64 l[k].2.2.2.2] 47)):=(Kept.refl _ _).alloc _
   have CN:=next_any (n5.onto kb)
   have HDB:Hid (∀ z∈downL l[k],0≤z∧z<(l.length:Int)):=HI.out k hkl
   have dl:(downL l[k]).length≤1000:=by have:=HW.out _ (List.getElem_mem hkl);unfold downL;split <;> (simp;try omega)
   have HDE:Hid (dnL l k=downL l[k]):=HDD.out k hkl
   have HKB:Hid (Same0 wr (wr.alloc (.cells #[.int .i64 l[k].1,.slice xo l[k].2.1.length xc,.int .i64 l[k].2.2.1,.bool l[k].2.2.2.1,.int .i64 l[k].2.2.2.2] 47))):=kb
   have HN6:Hid (∀ x,xo=some x→l[k].2.1≠[]→x.block<w.heap.size):=n6
   generalize downL l[k]=D at *
   clear n5 kb n6
   go_upto_region 6 with (first | (go_at_call 65;refine CN.mono ?_;rintro e w3 ⟨bo,bc,rfl,hD,hbo,k3⟩))
   have hk3:=HKB.out.trans' k3
   have hw3:=hw.trans' hk3
   have HR3:Hid (LdAt w3 lb N lead):=hk3.row HR.out (fun _ _ f=>f)
   have HDA:Hid (DAt w3 lb bo D):=⟨hD,fun x e h0=>by
    have h1:=hk3.size
    have h2:=HKB.out.size
    have h3:=hw.size
    rcases hbo x e with ⟨q,q'⟩ | ⟨q1,q2⟩
    ·have:=HN6.out x q (by rw [← q'];exact h0);exact ⟨by omega,by omega⟩
    ·exact ⟨q2,by omega⟩⟩
   have hlb3:lb<w3.heap.size:=Nat.lt_of_lt_of_le hlb1 hk3.size
   clear CN n0 n1 n2 n3 n4 hD hbo k3 hk3
   go_loopw [26] (fun c wr2=>∃ (q:Nat) (lead' : List Int),c=.int .i64 (q:Int)∧q≤D.length∧Hid (LdAt wr2 lb N lead')∧Hid (Ld l k q lead')∧Hid (DAt wr2 lb bo D)∧Same0 w wr2∧lb<wr2.heap.size) (fun c _=>D.length-(intOf c).toNat)
   case atStart=>exact ⟨0,lead,rfl,Nat.zero_le _,HR3,HD,HDA,hw3,hlb3⟩
   case round=>
    clear HR3 HDA hw3 hlb3 HR HD hw hlb1
    obtain ⟨q,lead', rfl,hq,HR', HD', HA', hw', hlb'⟩:=hrel
    by_cases hql:q<D.length
    ·have q0:(0:Int)≤(q:Int):=by omega
     have q1:(q:Int)<(D.length:Int):=by omega
     have hD0:D≠[]:=fun q=>by rw [q] at hql;simp at hql
     obtain ⟨db,doff,rfl, -,cD⟩:=HA'.out.1.get hql
     have hz:=HDB.out _ (List.getElem_mem hql)
     obtain ⟨b,hb⟩:∃ b:Nat,D[q]=(b:Int):=⟨D[q].toNat,by omega⟩
     have hbl:b<l.length:=by omega
     have hbN:b<N:=by rw [HNE.out];exact hbl
     have q2:(0:Int)≤(b:Int):=by omega
     have q3:(b:Int)<(N:Int):=by omega
     have HD1:Hid (∃ v:Int,lead'[b]? = some v∧0≤v∧Ld l k (q+1) (lead'.set b (v+1))):=HD'.out.one (by rw [HDE.out];exact hql) (by simp only [HDE.out];exact hb) hbl
     have hbd:=HD'.out.bound HW.out (Nat.le_of_lt hkl) b
     obtain ⟨v,m0,m1,m2⟩:=row_int HR'.out hbN
     have hv6:=hbd v m0
     obtain ⟨v', e1,e2,e3⟩:=HD1.out
     rw [m0] at e1
     cases e1
     have HLN:Hid (Ld l k (q+1) (lead'.set b (v+1))):=e3
     obtain ⟨P1,P2,P3⟩:=HR'.out.put hw' hlo b (v+1)
     have HP1:Hid (LdAt (wr.setCell ⟨lb,b,none⟩ (.int .i64 (v+1))) lb N (lead'.set b (v+1))):=P1
     have HPA:Hid (DAt (wr.setCell ⟨lb,b,none⟩ (.int .i64 (v+1))) lb (some ⟨db,doff,none⟩) D):=⟨HA'.out.1.kept P3 (fun x e t=>(HA'.out.2 x e hD0).2 t),fun x e h0=>⟨Nat.lt_of_lt_of_le (HA'.out.2 x e h0).1 P3.size,(HA'.out.2 x e h0).2⟩⟩
     have hlb4:lb<(wr.setCell ⟨lb,b,none⟩ (.int .i64 (v+1))).heap.size:=Nat.lt_of_lt_of_le hlb' P3.size
     have v6:v≤24006:=by rw [← HNE.out] at hv6;omega
     rw [hb] at cD
     clear hb hz HD1 hbd m0 e3 P1 P3 hv6 hD0
     go_wp2
     go_roundw
     case rel=>exact ⟨q+1,_,by go_num,by omega,HP1,HLN,HPA,P2,hlb4⟩
     case measure=>simp [intOf];omega
    ·obtain rfl:q=D.length:=by omega
     have HLN:Hid (Ld l (k+1) 0 lead'):=Ld.next (by rw [HDE.out];exact HD'.out)
     go_wp2
     go_roundw
     case rel=>exact ⟨k+1,lead', by go_num,by omega,HR', HLN,hw', hlb'⟩
     case measure=>simp [intOf];omega
  ·obtain rfl:N=k:=by omega
   have HLD:Hid (Ld l l.length 0 lead):=by have:=HD.out;rw [HNE.out] at this;exact this
   have HBD:Hid (∀ (b:Nat) (v:Int),lead[b]? = some v→0≤v∧v≤24006):=fun b v hv=>by
    have h1:=HLD.out.bound HW.out (Nat.le_refl _) b v hv
    have hb:b<l.length:=by have:=(List.getElem?_eq_some_iff.1 hv).1;rw [HLD.out.1] at this;exact this
    rw [HLD.out.2 b hb] at hv
    cases hv
    have h0:l.length≤4000:=by rw [← HNE.out];exact hN
    exact ⟨by omega,by omega⟩
   clear HD hlt hk
   go_upto_region 13 with fail
   go_loopw [8,40] (fun f i wr2=>∃ (k:Nat) (T:List Nat),i=.int .i64 (k:Int)∧k≤N∧Hid (LdAt wr2 lb N lead)∧Hid (Row (lb+1) wr2 f (ofN T))∧Hid (Zr lead k T)∧Same0 w wr2∧lb<wr2.heap.size) (fun _ i _=>N-(intOf i).toNat)
   case atStart=>exact ⟨0,[],rfl,Nat.zero_le _,HR,World.ownsRow_nil _ _ _ _,Zr.start lead,hw,hlb1⟩
   case round=>
    clear HR hw hlb1
    obtain ⟨k,T,rfl,hk,HR,HT,HZ,hw,hlb1⟩:=hrel
    obtain ⟨to', tc,rfl⟩:=row_shape HT.out
    have hTN:(ofN T).length≤4000:=by rw [ofN_len'];have:=HZ.out.le;omega
    by_cases hlt:k<N
    ·obtain ⟨v,m0,m1,m2⟩:=row_int HR.out hlt
     have j1:(k:Int)<(N:Int):=by omega
     have j2:(0:Int)≤(k:Int):=by omega
     have hkl:k<lead.length:=(List.getElem?_eq_some_iff.1 m0).1
     have HM0:Hid (lead[k]? = some v):=m0
     by_cases hv:v=0
     ·subst hv
      have HZN:Hid (Zr lead (k+1) (T ++ [k])):=HZ.out.yes HM0.out
      have hbs:lb+1≤wr.heap.size:=hlb1
      have hTR:=HT.out
      clear m0 m2
      go_wp2_with (first | (at_builtin;refine wpList_push rfl _ _ 31 rfl Try.underlying31 (lb+1) (ofN T) _ rfl hTR (k:Int) rfl hbs (by omega) ?_;intro g4 cap4 w4 hr4 hk4 hor))
      have HR4:Hid (LdAt w4 lb N lead):=hk4.row HR.out (fun i e t=>by
       have h1:=(HT.out.lt i t).1
       have h2:lb=i:=Option.some.inj e
       omega)
      have HT4:Hid (Row (lb+1) w4 (.slice (some ⟨g4,0,none⟩) ((ofN T).length+1) cap4) (ofN (T ++ [k]))):=by show Row _ _ _ _;rw [ofN_snoc];exact hr4
      have hw4:Same0 w w4:=hw.trans hk4 (fun i hi e=>by have:=(HT.out.lt i e).1;omega)
      have hlb4:lb<w4.heap.size:=Nat.lt_of_lt_of_le hlb1 hk4.size
      clear hr4 hk4 hor hTR
      go_roundw
      case rel=>exact ⟨k+1,T ++ [k],by go_num,by omega,HR4,HT4,HZN,hw4,hlb4⟩
      case measure=>simp [intOf];omega
     ·have HZN:Hid (Zr lead (k+1) T):=HZ.out.no hkl (by have:=HM0.out;rw [List.getElem?_eq_getElem hkl] at this;simp at this;rw [this];exact hv)
      clear m0 m2
      go_wp2
      go_roundw
      case rel=>exact ⟨k+1,T,by go_num,by omega,HR,HT,HZN,hw,hlb1⟩
      case measure=>simp [intOf];omega
    ·have hkN:k=N:=by omega
     have HK0:Hid (Kh l (fun a=>∃ p:Nat,p<0∧T[p]? = some a) (dnL l) lead T):=by
      have hz:=HZ.out
      rw [hkN,HNE.out] at hz
      exact (Kh.start HLD.out hz).more (fun a f=>f.elim) (fun a ⟨p,hp,_⟩=>absurd hp (Nat.not_lt_zero _))
     have j9:¬ (k:Int)<(N:Int):=by omega
     clear hkN HZ HLD
     go_upto_region 19 with fail
     go_loopw [8,11] (fun f i wr2=>∃ (k:Nat) (T:List Nat) (lead:List Int) (R:Nat→List Int),i=.int .i64 (k:Int)∧k≤(ofN T).length∧Hid (LdAt wr2 lb N lead)∧Hid (Row (lb+1) wr2 f (ofN T))∧Hid (Kh l (fun a=>∃ p:Nat,p<k∧T[p]? = some a) R lead T)∧Hid (∀ p a:Nat,p<k→T[p]? = some a→R a=[])∧Hid (∀ (b:Nat) (v:Int),lead[b]? = some v→0≤v∧v≤24006)∧Same0 w wr2∧lb<wr2.heap.size) (fun _ i _=>N-(intOf i).toNat)
     case atStart=>exact ⟨0,T,lead,dnL l,rfl,Nat.zero_le _,HR,HT,HK0,fun p a hp=>absurd hp (Nat.not_lt_zero _),HBD,hw,hlb1⟩
     case round=>
      clear HR HT HK0 HBD hw hlb1 j9 hlt hk hTN
      obtain ⟨k,T,lead,R,rfl,hk,HR,HT,HK,HE,HBD,hw,hlb1⟩:=hrel
      obtain ⟨to', tc,rfl⟩:=row_shape HT.out
      have hTN:(ofN T).length≤N:=by rw [ofN_len', HNE.out];exact HK.out.le
      by_cases hlt:k<(ofN T).length
      ·have j0:(0:Int)≤(k:Int):=by omega
       have j1:(k:Int)<((ofN T).length:Int):=by omega
       have hkT:k<T.length:=by rwa [ofN_len'] at hlt
       obtain ⟨c,hc⟩:∃ c,c=T[k]:=⟨_,rfl⟩
       have hTk:T[k]? = some c:=by rw [hc];simp [hkT]
       have hcl:c<l.length:=HK.out.lt (List.mem_of_getElem? hTk)
       have j2:(0:Int)≤(c:Int):=by omega
       have j3:(c:Int)<(N:Int):=by rw [HNE.out];omega
       have HTK:Hid (T[k]? = some c):=hTk
       have HRC:Hid (R c=dnL l c):=HK.out.rest c hcl (fun ⟨p,hp,he⟩=>HK.out.nd p k c hp he hTk)
       obtain ⟨fo', ac', e,hfi, -, -⟩:=HT.out.ints
       cases e
       obtain ⟨fb,foff,rfl, -,cF⟩:=hfi.get hlt
       rw [ofN_at hlt,← hc] at cF
       obtain ⟨nb,noff,xo,xc,rfl,n0,n1,n2,n3,n4,n5,n6⟩:=HL.out wr hw c hcl
       have CN:=next_any n5
       have HDB:Hid (∀ z∈downL l[c],0≤z∧z<(l.length:Int)):=HI.out c hcl
       have dl:(downL l[c]).length≤1000:=by have:=HW.out _ (List.getElem_mem hcl);unfold downL;split <;> (simp;try omega)
       have HRD:Hid (R c=downL l[c]):=by show _=_;rw [HRC.out];exact HDD.out c hcl
       have HN6:Hid (∀ x,xo=some x→l[c].2.1≠[]→x.block<w.heap.size):=n6
       generalize downL l[c]=D at *
       clear n5 n6 hfi hc hTk HRC
       go_upto_region 22 with (first | (go_at_call 65;refine CN.mono ?_;rintro e w3 ⟨bo,bc,rfl,hD,hbo,k3⟩))
       have hw3:=hw.trans' k3
       have HR3:Hid (LdAt w3 lb N lead):=k3.row HR.out (fun _ _ f=>f)
       have HT3:Hid (Row (lb+1) w3 (.slice (some ⟨fb,foff,none⟩) (ofN T).length tc) (ofN T)):=k3.row HT.out (fun _ _ f=>f)
       have HDA:Hid (DAt w3 lb bo D∧∀ x,bo=some x→D≠[]→(Value.slice (some ⟨fb,foff,none⟩) (ofN T).length tc).ownBlock≠some x.block):=by
        have h1:=k3.size
        have h3:=hw.size
        have hfb:=HT.out.lt fb rfl
        have hne:(Value.slice (some ⟨fb,foff,none⟩) (ofN T).length tc).ownBlock=some fb:=rfl
        refine ⟨⟨hD,fun x e h0=>?_⟩,fun x e h0 t=>?_⟩
        ·rcases hbo x e with ⟨q,q'⟩ | ⟨q1,q2⟩
         ·have:=HN6.out x q (by rw [← q'];exact h0);exact ⟨by omega,by omega⟩
         ·exact ⟨q2,by omega⟩
        ·rw [hne] at t
         have t' : fb=x.block:=Option.some.inj t
         rcases hbo x e with ⟨q,q'⟩ | ⟨q1,q2⟩
         ·have:=HN6.out x q (by rw [← q'];exact h0);omega
         ·omega
       have hlb3:lb<w3.heap.size:=Nat.lt_of_lt_of_le hlb1 k3.size
       have HK3:Hid (Kh l (fun a=>∃ p:Nat,p<k+1∧T[p]? = some a) R lead T):=HK.out.more (fun a ⟨p,hp,he⟩=>⟨p,by omega,he⟩) (fun a ⟨p,hp,he⟩=>List.mem_of_getElem? he)
       clear CN n0 n1 n2 n3 n4 hD hbo k3 cF
       go_loopw [8,67] (fun f c' wr2=>∃ (q:Nat) (T' : List Nat) (lead' : List Int) (R' : Nat→List Int),c' = .int .i64 (q:Int)∧q≤D.length∧Hid (LdAt wr2 lb N lead')∧Hid (Row (lb+1) wr2 f (ofN T'))∧Hid (Kh l (fun a=>∃ p:Nat,p<k+1∧T[p]? = some a) R' lead' T')∧Hid (R' c=D.drop q)∧Hid (∀ p a:Nat,p<k→T[p]? = some a→R' a=[])∧Hid (∀ p:Nat,p<k+1→T'[p]? = T[p]?)∧Hid (∀ (b:Nat) (v:Int),lead'[b]? = some v→0≤v∧v≤24006)∧Hid (DAt wr2 lb bo D∧∀ x,bo=some x→D≠[]→f.ownBlock≠some x.block)∧Same0 w wr2∧lb<wr2.heap.size) (fun _ c' _=>D.length-(intOf c').toNat)
       case atStart=>exact ⟨0,T,lead,R,rfl,Nat.zero_le _,HR3,HT3,HK3,by (show _=_);rw [HRD.out];rfl,HE,fun p _=>rfl,HBD,HDA,hw3,hlb3⟩
       case round=>
        clear HR3 HT3 HK3 HDA hw3 hlb3 HR HT HK HRD HE HBD hw hlb1
        obtain ⟨q,T', lead', R', rfl,hq,HR', HT', HK', HC', HE', HX', HB', HA', hw', hlb'⟩:=hrel
        obtain ⟨vo,vc,rfl⟩:=row_shape HT'.out
        have hTN' : (ofN T').length≤N:=by rw [ofN_len', HNE.out];exact HK'.out.le
        by_cases hql:q<D.length
        ·have q0:(0:Int)≤(q:Int):=by omega
         have q1:(q:Int)<(D.length:Int):=by omega
         have hD0:Hid (D≠[]):=fun q=>by rw [q] at hql;simp at hql
         obtain ⟨db,doff,rfl, -,cD⟩:=HA'.out.1.1.get hql
         have hz:=HDB.out _ (List.getElem_mem hql)
         obtain ⟨b,hb⟩:∃ b:Nat,D[q]=(b:Int):=⟨D[q].toNat,by omega⟩
         have hbl:b<l.length:=by omega
         have hbN:b<N:=by rw [HNE.out];exact hbl
         have q2:(0:Int)≤(b:Int):=by omega
         have q3:(b:Int)<(N:Int):=by omega
         have hPc:∃ p:Nat,p<k+1∧T[p]? = some c:=⟨k,by omega,HTK.out⟩
         have hRq:R' c=(b:Int) :: D.drop (q+1):=by rw [HC'.out,List.drop_eq_getElem_cons hql,hb]
         obtain ⟨v,e1,e2,e3⟩:=HK'.out.strike hPc hRq hbl
         obtain ⟨v', m0,m1,m2⟩:=row_int HR'.out hbN
         rw [e1] at m0
         cases m0
         have hv:=(HB'.out b v e1).2
         have HC4:Hid (lose R' c (D.drop (q+1)) c=D.drop (q+1)):=by show _=_;unfold lose;rw [if_pos rfl]
         have HE4:Hid (∀ p a:Nat,p<k→T[p]? = some a→lose R' c (D.drop (q+1)) a=[]):=fun p a hp he=>by
          have hne:a≠c:=fun e=>by
           subst e
           have h1:=HX'.out p (by omega)
           have h2:=HX'.out k (by omega)
           rw [he] at h1
           rw [HTK.out] at h2
           exact HK'.out.nd p k a hp h1 h2
          unfold lose;rw [if_neg hne];exact HE'.out p a hp he
         have HB4:Hid (∀ (j:Nat) (u:Int),(lead'.set b (v-1))[j]? = some u→0≤u∧u≤24006):=fun j u hu=>by
          rw [List.getElem?_set] at hu
          split at hu
          ·split at hu
           ·cases hu;omega
           ·cases hu
          ·exact HB'.out j u hu
         obtain ⟨P1,P2,P3⟩:=HR'.out.put hw' hlo b (v-1)
         have HP1:Hid (LdAt (wr.setCell ⟨lb,b,none⟩ (.int .i64 (v-1))) lb N (lead'.set b (v-1))):=P1
         have RW:Row (lb+1) (wr.setCell ⟨lb,b,none⟩ (.int .i64 (v-1))) (.slice vo (ofN T').length vc) (ofN T'):=P3.row HT'.out (fun i e t=>by have:=(HT'.out.lt i e).1;omega)
         have HPA:Hid (DAt (wr.setCell ⟨lb,b,none⟩ (.int .i64 (v-1))) lb (some ⟨db,doff,none⟩) D):=⟨HA'.out.1.1.kept P3 (fun x e t=>(HA'.out.1.2 x e hD0.out).2 t),fun x e h0=>⟨Nat.lt_of_lt_of_le (HA'.out.1.2 x e h0).1 P3.size,(HA'.out.1.2 x e h0).2⟩⟩
         have hlb4:lb<(wr.setCell ⟨lb,b,none⟩ (.int .i64 (v-1))).heap.size:=Nat.lt_of_lt_of_le hlb' P3.size
         have esz:(wr.setCell ⟨lb,b,none⟩ (.int .i64 (v-1))).heap.size=wr.heap.size:=by simp [World.setCell]
         have HA2:Hid (∀ x,some (⟨db,doff,none⟩:Addr)=some x→D≠[]→(Value.slice vo (ofN T').length vc).ownBlock≠some x.block):=HA'.out.2
         rw [hb] at cD
         rcases e3 with ⟨e4,e5⟩ | ⟨e4,e5⟩
         ·have HK4:Hid (Kh l (fun a=>∃ p:Nat,p<k+1∧T[p]? = some a) (lose R' c (D.drop (q+1))) (lead'.set b (v-1)) (T' ++ [b])):=e5
          have hbs:lb+1≤(wr.setCell ⟨lb,b,none⟩ (.int .i64 (v-1))).heap.size:=hlb4
          have hv1:v=1:=by omega
          have HX4:Hid (∀ p:Nat,p<k+1→(T' ++ [b])[p]? = T[p]?):=fun p hp=>by
           have h2:=HX'.out k (by omega)
           rw [HTK.out] at h2
           have h3:=(List.getElem?_eq_some_iff.1 h2).1
           rw [List.getElem?_append_left (by omega)];exact HX'.out p hp
          subst hv1
          clear hb hz e1 e2 e4 e5 P1 P3 hRq hPc
          go_wp2_with (first | (at_builtin;refine wpList_pushN rfl _ _ 31 rfl Try.underlying31 (lb+1) (ofN T') _ rfl RW (b:Int) _ esz rfl hbs (by omega) ?_;intro g4 cap4 w4 hr4 hk4 hor))
          have HR4:Hid (LdAt w4 lb N (lead'.set b (1-1))):=hk4.row HP1.out (fun i e t=>by
           have h1:=(RW.lt i t).1
           have h2:lb=i:=Option.some.inj e
           omega)
          have HT4:Hid (Row (lb+1) w4 (.slice (some ⟨g4,0,none⟩) ((ofN T').length+1) cap4) (ofN (T' ++ [b]))):=by show Row _ _ _ _;rw [ofN_snoc];exact hr4
          have hw4:Same0 w w4:=P2.trans hk4 (fun i hi e=>by have:=(RW.lt i e).1;omega)
          have hlb5:lb<w4.heap.size:=Nat.lt_of_lt_of_le hlb4 hk4.size
          have HD4:Hid (DAt w4 lb (some ⟨db,doff,none⟩) D∧∀ x,some (⟨db,doff,none⟩:Addr)=some x→D≠[]→(Value.slice (some ⟨g4,0,none⟩) ((ofN T').length+1) cap4).ownBlock≠some x.block):=by
           refine ⟨⟨HPA.out.1.kept hk4 (fun x e t=>HA2.out x e hD0.out t),fun x e h0=>⟨Nat.lt_of_lt_of_le (HPA.out.2 x e h0).1 hk4.size,(HPA.out.2 x e h0).2⟩⟩,fun x e h0 t=>?_⟩
           cases e
           have t' : g4=db:=by simpa [Value.ownBlock] using t
           rcases hor with q' | q'
           ·rw [t'] at q'; exact HA2.out _ rfl h0 q'
           ·have h9:db<(wr.setCell ⟨lb,b,none⟩ (.int .i64 (1-1))).heap.size:=(HPA.out.2 ⟨db,doff,none⟩ rfl h0).1
            have h10:(wr.setCell ⟨lb,b,none⟩ (.int .i64 (1-1))).heap.size=(wr.setCell ⟨lb,b,none⟩ (.int .i64 0)).heap.size:=rfl
            omega
          clear hr4 hk4 hor RW
          go_roundw
          case rel=>exact ⟨q+1,T' ++ [b],_,_,by go_num,by omega,HR4,HT4,HK4,HC4,HE4,HX4,HB4,HD4,hw4,hlb5⟩
          case measure=>simp [intOf];omega
         ·have HK4:Hid (Kh l (fun a=>∃ p:Nat,p<k+1∧T[p]? = some a) (lose R' c (D.drop (q+1))) (lead'.set b (v-1)) T'):=e5
          have hv1:¬ v-1=0:=by omega
          have HRW:Hid (Row (lb+1) (wr.setCell ⟨lb,b,none⟩ (.int .i64 (v-1))) (.slice vo (ofN T').length vc) (ofN T')):=RW
          have HD4:Hid (DAt (wr.setCell ⟨lb,b,none⟩ (.int .i64 (v-1))) lb (some ⟨db,doff,none⟩) D∧∀ x,some (⟨db,doff,none⟩:Addr)=some x→D≠[]→(Value.slice vo (ofN T').length vc).ownBlock≠some x.block):=⟨HPA.out,HA2.out⟩
          clear hb hz e1 e5 P1 P3 hRq hPc RW
          go_wp2
          go_roundw
          case rel=>exact ⟨q+1,T', _,_,by go_num,by omega,HP1,HRW,HK4,HC4,HE4,HX', HB4,HD4,P2,hlb4⟩
          case measure=>simp [intOf];omega
        ·obtain rfl:q=D.length:=by omega
         have HKN:Hid (Kh l (fun a=>∃ p:Nat,p<k+1∧T'[p]? = some a) R' lead' T'):=HK'.out.more (fun a ⟨p,hp,he⟩=>⟨p,hp,by rw [HX'.out p hp];exact he⟩) (fun a ⟨p,hp,he⟩=>List.mem_of_getElem? he)
         have HEN:Hid (∀ p a:Nat,p<k+1→T'[p]? = some a→R' a=[]):=fun p a hp he=>by
          rw [HX'.out p hp] at he
          by_cases e:p=k
          ·subst e
           rw [HTK.out] at he
           cases he
           rw [HC'.out];simp
          ·exact HE'.out p a (by omega) he
         have hkT' : k+1≤(ofN T').length:=by
          have h2:=HX'.out k (by omega)
          rw [HTK.out] at h2
          have h3:=(List.getElem?_eq_some_iff.1 h2).1
          rw [ofN_len'];omega
         go_wp2
         go_roundw
         case rel=>exact ⟨k+1,T', lead', R', by go_num,hkT', HR', HT', HKN,HEN,HB', hw', hlb'⟩
         case measure=>simp [intOf];omega
      ·obtain rfl:k=(ofN T).length:=by omega
       have HD:Hid (T.length<l.length ↔ ¬ Ac l):=HK.out.done HI.out (fun a ha=>by
        obtain ⟨p,hp,hx⟩:=List.mem_iff_getElem.1 ha
        exact HE.out p a (by rw [ofN_len'];exact hp) (by rw [List.getElem?_eq_getElem hp,hx]))
       have HNT:Hid ((decide ((ofN T).length<N)=true) ↔ ¬ Ac l):=by
        have h1:=HD.out
        have h2:=HNE.out
        have h3:=ofN_len' T
        exact ⟨fun q=>h1.1 (by have:=of_decide_eq_true q;omega),fun q=>decide_eq_true (by have:=h1.2 q;omega)⟩
       clear hlt
       go_wp2
       go_ret
       exact ⟨_,rfl,HNT.out,hw⟩
set_option maxHeartbeats 300000 in
theorem isApp_any {w:World} {x:Nd} {ao:Option Addr} {ac:Nat} (hx:Arg w ao x.2.1 ac) (hp:x.2.2.2.1=false) (n:Nat) :
  Calls Try.prog 69 #[nodeV x ao ac,.int .i64 (n:Int)] w fun e w' => e=.returned (.bool (mayB n x))∧Same0 w w' := by
 obtain ⟨W0,hW0⟩:∃ W0,W0=w.alloc (.cells #[.int .i64 x.1,.slice ao x.2.1.length ac,.int .i64 x.2.2.1,.bool x.2.2.2.1,.int .i64 x.2.2.2.2] 47):=⟨_,rfl⟩
 have k0:Same0 w W0:=by rw [hW0];exact (Kept.refl _ w).alloc _
 obtain ⟨b0,b1,b2,b3,b4⟩:=box_node' w x ao ac (show Same0 _ W0 by rw [hW0];exact Kept.refl _ _)
 have HE:Hid (mayB n x=(decide (0≤x.1) && decide (x.2.1.length≤6) && insB (n:Int) x.2.1 && isMk x.2.2.1 && decide (x.2.2.2.2=0))):=may_app hp
 have hsz:=hx.size
 have CI:Hid (x.2.1.length≤6→Calls Try.prog 49 #[.int .i64 (n:Int),.slice ao x.2.1.length ac] W0 fun e w' => e=.returned (.bool (insB (n:Int) x.2.1))∧w' = W0):=fun h6=>inside_any ac (hx.at'.same k0) (by omega) (n:Int)
 have CM:=isMark_any x.2.2.1 W0
 have K0:Hid (Same0 w W0):=k0
 clear k0 hp hx
 generalize mayB n x=R at *
 generalize insB (n:Int) x.2.1=I at *
 generalize isMk x.2.2.1=M at *
 by_cases h1:0≤x.1
 ·by_cases h2:x.2.1.length≤6
  ·have C:=CI.out h2
   have h2' : (x.2.1.length:Int)≤6:=by omega
   cases I
   ·have HR:Hid (R=false):=by show _=_;rw [HE.out];simp
    clear HE CI
    go_enter Try.func69,Try.ntmps69
    go_upto_region 1 with fail
    rw [← hW0]
    clear hW0
    go_wp2_with (first | (go_at_call 49;refine C.mono ?_;rintro e w3 ⟨rfl,h3⟩;have h3:=h3.symm;subst h3))
    go_ret
    exact ⟨ret_bool HR.out.symm,K0.out⟩
   ·cases M
    ·have HR:Hid (R=false):=by show _=_;rw [HE.out];simp
     clear HE CI
     go_enter Try.func69,Try.ntmps69
     go_upto_region 1 with fail
     rw [← hW0]
     clear hW0
     go_wp2_with (first | (go_at_call 49;refine C.mono ?_;rintro e w3 ⟨rfl,h3⟩;have h3:=h3.symm;subst h3) | (go_at_call 59;refine CM.mono ?_;rintro e w3 ⟨rfl,h3⟩;have h3:=h3.symm;subst h3))
     go_ret
     exact ⟨ret_bool HR.out.symm,K0.out⟩
    ·have HR:Hid (R=decide (x.2.2.2.2=0)):=by show _=_;rw [HE.out];simp [h1,h2]
     clear HE CI
     go_enter Try.func69,Try.ntmps69
     go_upto_region 1 with fail
     rw [← hW0]
     clear hW0
     go_wp2_with (first | (go_at_call 49;refine C.mono ?_;rintro e w3 ⟨rfl,h3⟩;have h3:=h3.symm;subst h3) | (go_at_call 59;refine CM.mono ?_;rintro e w3 ⟨rfl,h3⟩;have h3:=h3.symm;subst h3))
     go_ret
     exact ⟨ret_bool (by rw [HR.out];rw [Bool.eq_iff_iff];simp),K0.out⟩
  ·have HR:Hid (R=false):=by show _=_;rw [HE.out];simp [h2]
   have h2' : ¬ (x.2.1.length:Int)≤6:=by omega
   clear HE CI
   go_enter Try.func69,Try.ntmps69
   go_upto_region 1 with fail
   rw [← hW0]
   clear hW0
   go_wp2
   go_ret
   exact ⟨ret_bool HR.out.symm,K0.out⟩
 ·have HR:Hid (R=false):=by show _=_;rw [HE.out];simp [h1]
  clear HE CI
  go_enter Try.func69,Try.ntmps69
  go_upto_region 1 with fail
  rw [← hW0]
  clear hW0
  go_wp2
  go_ret
  exact ⟨ret_bool HR.out.symm,K0.out⟩
set_option maxHeartbeats 300000 in
theorem isInd_any {w:World} {x:Nd} {ao:Option Addr} {ac:Nat} (hx:Arg w ao x.2.1 ac) (hp:x.2.2.2.1=true) (n:Nat) :
  Calls Try.prog 68 #[nodeV x ao ac,.int .i64 (n:Int)] w fun e w' => e=.returned (.bool (mayB n x))∧Same0 w w' := by
 obtain ⟨W0,hW0⟩:∃ W0,W0=w.alloc (.cells #[.int .i64 x.1,.slice ao x.2.1.length ac,.int .i64 x.2.2.1,.bool x.2.2.2.1,.int .i64 x.2.2.2.2] 47):=⟨_,rfl⟩
 have k0:Same0 w W0:=by rw [hW0];exact (Kept.refl _ w).alloc _
 obtain ⟨b0,b1,b2,b3,b4⟩:=box_node' w x ao ac (show Same0 _ W0 by rw [hW0];exact Kept.refl _ _)
 have HE:Hid (mayB n x=(decide (x.1=0) && decide (x.2.1.length=0) && decide (x.2.2.1=0) && insB (n:Int) [x.2.2.2.2])):=may_indir hp
 have hsz:=hx.size
 have CI:=inside_any 1 (ints_one W0 x.2.2.2.2) (by simp) (n:Int)
 have K0:Hid (Same0 w W0):=k0
 have K1:Hid (Same0 w (W0.alloc (.cells #[.int .i64 x.2.2.2.2] 3))):=k0.alloc _
 clear k0 hp hx
 generalize mayB n x=R at *
 generalize insB (n:Int) [x.2.2.2.2]=I at *
 by_cases h1:x.1=0
 ·by_cases h2:x.2.1.length=0
  ·by_cases h3:x.2.2.1=0
   ·have HR:Hid (R=I):=by show _=_;rw [HE.out];simp [h1,h2,h3]
    rw [h1] at b0
    rw [h2] at b1
    rw [h3] at b2
    clear HE h1 h2 h3
    go_enter Try.func68,Try.ntmps68
    go_upto_region 1 with fail
    rw [← hW0]
    clear hW0
    go_wp2_with (first | (go_at_call 49;refine CI.mono ?_;rintro e w3 ⟨rfl,rfl⟩))
    go_ret
    exact ⟨ret_bool HR.out.symm,K1.out⟩
   ·have HR:Hid (R=false):=by show _=_;rw [HE.out];simp [h3]
    rw [h1] at b0
    rw [h2] at b1
    clear HE h1 h2
    go_enter Try.func68,Try.ntmps68
    go_upto_region 1 with fail
    rw [← hW0]
    clear hW0
    go_wp2
    go_ret
    exact ⟨ret_bool HR.out.symm,K0.out⟩
  ·have HR:Hid (R=false):=by show _=_;rw [HE.out];simp;intro _ h;rw [h] at h2;simp at h2
   have h2' : ¬ (x.2.1.length:Int)=0:=by omega
   rw [h1] at b0
   clear HE h1
   go_enter Try.func68,Try.ntmps68
   go_upto_region 1 with fail
   rw [← hW0]
   clear hW0
   go_wp2
   go_ret
   exact ⟨ret_bool HR.out.symm,K0.out⟩
 ·have HR:Hid (R=false):=by show _=_;rw [HE.out];simp [h1]
  clear HE
  go_enter Try.func68,Try.ntmps68
  go_upto_region 1 with fail
  rw [← hW0]
  clear hW0
  go_wp2
  go_ret
  exact ⟨ret_bool HR.out.symm,K0.out⟩
end Go.Proofs.Ytmloedlkoijfbaa
