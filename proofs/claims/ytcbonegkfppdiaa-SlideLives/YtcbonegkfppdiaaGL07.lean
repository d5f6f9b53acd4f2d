import Derived.Test.YtcbonegkfppdiaaGL06
import Derived.Test.YtcbonegkfppdiaaGL05
import Derived.Test.YtcbonegkfppdiaaGL03
import Derived.Deep.DeepAppendWide
import Derived.Test.YtcbonegkfppdiaaGL04
namespace Go.Proofs.Ytcbonegkfppdiaa
set_option maxRecDepth 100000
set_option linter.unusedVariables false
open Go.RowKit
attribute [local go_sem ↓] Go.wp_at_zero Go.wp_at_succ
def HdL (base g n c:Nat) (xs:List Int) (w wr:World) (k:Nat):Prop:=(∃ L,Row base wr (.slice (some ⟨g,0,none⟩) (n+3) c) L∧L.length=n+3∧∀ j,k≤j→L[j]? = (lentL xs)[j]?)∧Kept (fun i=>i=g) w wr
theorem HdL.at {base g n c k:Nat} {xs:List Int} {w wr:World} (h:HdL base g n c xs w wr k) {z:Int} (hz:(lentL xs)[k]? = some z):wr.cell? ⟨g,k,none⟩=some (.int .i64 z)∧wr.frozen? ⟨g,k,none⟩=false:=by
 obtain ⟨⟨L,h1,h2,h3⟩,_⟩:=h
 have hL:=h3 k (Nat.le_refl _)
 rw [hz] at hL
 obtain ⟨hk,hv⟩:=List.getElem?_eq_some_iff.1 hL
 obtain ⟨ao,ac,e,hi,_,_⟩:=h1.ints
 simp only [Value.slice.injEq] at e
 obtain ⟨b,off,e1,_,hc⟩:=hi.get hk
 rw [← e.1] at e1
 simp only [Option.some.injEq,Addr.mk.injEq,and_true] at e1
 obtain ⟨rfl,rfl⟩:=e1
 rw [hv] at hc
 refine ⟨by simpa using hc,?_⟩
 unfold Row at h1
 rw [h2] at h1
 exact h1.frozenAt k
theorem HdL.put {base g n c k:Nat} {xs:List Int} {w wr:World} (h:HdL base g n c xs w wr k):HdL base g n c xs w (wr.setCell ⟨g,k,none⟩ (.int .i64 (-78))) (k+1):=by
 obtain ⟨⟨L,h1,h2,h3⟩,h4⟩:=h
 refine ⟨⟨L.set k (-78),?_,by simp [h2],fun j hj=>?_⟩,Kept.setCell (S:=fun i=>i=g) h4 (p:=⟨g,k,none⟩) (fun _=>rfl) _⟩
 ·unfold Row at h1 ⊢
  rw [iv_set]
  rw [h2] at h1
  simpa [h2] using (h1.stored k (.int .i64 (-78))).1
 ·rw [List.getElem?_set_ne (by omega)];exact h3 j (by omega)
theorem HdL.same {base g n c k:Nat} {xs:List Int} {w wr wr' : World} (h:HdL base g n c xs w wr k) (hk:Same0 wr wr'):HdL base g n c xs w wr' k:=by
 obtain ⟨⟨L,h1,h2,h3⟩,h4⟩:=h
 exact ⟨⟨L,hk.row h1 (fun _ _ f=>f),h2,h3⟩,h4.trans hk (fun _ _ f=>f.elim)⟩
set_option maxHeartbeats 1000000 in
theorem lent12_any {w:World} {ao:Option Addr} {cap:Nat} {xs:List Int} (hx:Arg w ao xs cap) :
  Calls Try.prog 27 #[.slice ao xs.length cap] w fun e w' => ∃ g c,e=.returned (.slice (some ⟨g,0,none⟩) xs.length c)∧Row w.heap.size w' (.slice (some ⟨g,0,none⟩) (xs.length+3) c) (lentL xs)∧xs.length+3≤c∧Same0 w w' := by
 have k0:Same0 w (w.alloc (.cells #[] 3)):=(Kept.refl _ w).alloc _
 have r0:Row w.heap.size (w.alloc (.cells #[] 3)) (.slice (some ⟨w.heap.size,0,none⟩) 0 0) []:=row_empty w _ (Nat.le_refl _) rfl
 have cI:=hx.at'.same k0
 have hn:=hx.nil
 have hs:Hid (xs.length * 8≤140737488351232):=hx.size
 have z0:=k0.size
 have j0:(0:Int)≤(xs.length:Int):=by omega
 have j8:(xs.length:Int)≤17592186043904:=by have:=hs.out;omega
 clear hx
 go_enter Try.func27,Try.ntmps27
 go_upto_region 2 with (first | (at_builtin;refine wpList_more9 rfl _ _ 31 rfl Try.underlying31 w.heap.size [] _ rfl r0 xs _ _ _ rfl rfl cI hn z0 (by have:=hs.out;simp;omega) ?_;intro v1 w1 hr1 hk1))
 rw [List.nil_append] at hr1
 have k1:=k0.onto r0 hk1
 have k2:Same0 w (w1.alloc (.cells #[.int .i64 (-77),.int .i64 (-77),.int .i64 (-77)] 3)):=k1.alloc _
 have r2:Row w.heap.size (w1.alloc (.cells #[.int .i64 (-77),.int .i64 (-77),.int .i64 (-77)] 3)) v1 xs:=((Kept.refl (fun _=>False) w1).alloc _).row hr1 (fun _ _ f=>f)
 have z2:=k2.size
 have c3:=ints_three w1 (-77) (-77) (-77)
 clear cI hn z0 hk1 k0 r0 hr1 k1
 go_upto_region 3 with (first | (at_builtin;refine wpList_more9 rfl _ _ 31 rfl Try.underlying31 w.heap.size xs _ rfl r2 [-77, -77, -77] _ _ _ rfl rfl c3 (fun e=>by cases e) z2 (by have:=hs.out;simp;omega) ?_;intro v3 w3 hr3 hk3))
 have k3:=k2.onto r2 hk3
 obtain ⟨g,c,e,hle⟩:∃ g c,v3=.slice (some ⟨g,0,none⟩) (xs.length+3) c∧xs.length+3≤c:=by
  have hr:=hr3
  unfold Row at hr
  rcases hr.2 with ⟨e2,h0⟩ | ⟨g,cap,cur,e2,hb,hg,hle,_⟩
  ·simp at h0
  ·exact ⟨g,cap,by simpa using e2,by simpa using hle⟩
 subst e
 have j1:(xs.length:Int)≤(c:Int):=by omega
 have HF:Hid (Row w.heap.size w3 (.slice (some ⟨g,0,none⟩) (xs.length+3) c) (lentL xs)∧xs.length+3≤c∧Same0 w w3):=⟨hr3,hle,k3⟩
 clear hr3 k3 hk3 r2 k2 c3 z2
 go_wp2
 go_ret
 exact ⟨g,c,rfl,HF.out.1,HF.out.2.1,HF.out.2.2⟩
set_option maxHeartbeats 2000000 in
theorem held12_any {base:Nat} {w:World} {g c cap:Nat} {ao:Option Addr} {xs:List Int} (hr:Row base w (.slice (some ⟨g,0,none⟩) (xs.length+3) c) (lentL xs)) (hc:xs.length+3≤c) (hx:Arg w ao xs cap) (hne:xs≠[]→∀ a,ao=some a→a.block≠g) :
  Calls Try.prog 31 #[.slice (some ⟨g,0,none⟩) xs.length c,.slice ao xs.length cap] w fun e w' => e=.returned (.bool true)∧Kept (fun i=>i=g) w w' := by
 obtain ⟨n,hn⟩:∃ n,n=xs.length:=⟨_,rfl⟩
 have HNL:Hid (n=xs.length):=hn
 have hs:Hid (xs.length * 8≤140737488351232):=hx.size
 have H0:Hid (HdL base g n c xs w w 0):=⟨⟨lentL xs,by rw [hn];exact hr,by simp [hn],fun j _=>rfl⟩,Kept.refl _ _⟩
 have HXS:Hid (∀ wr,Kept (fun i=>i=g) w wr→∀ k (hk:k<xs.length),∃ b off,ao=some ⟨b,off,none⟩∧wr.cell? ⟨b,off+k,none⟩=some (.int .i64 xs[k])):=fun wr hk k hkl=>by
  have h0:xs≠[]:=fun e=>by rw [e] at hkl;simp at hkl
  obtain ⟨b,off,e,_,h3⟩:=(hx.at'.kept hk (fun a e q=>hne h0 a e q)).get hkl
  exact ⟨b,off,e,h3⟩
 rw [← hn] at hc ⊢
 have j1:(n:Int)+3≤(c:Int):=by omega
 have j2:(n:Int)≤17592186043904:=by have:=hs.out;have:=HNL.out;omega
 have j3:(0:Int)≤(n:Int)+3:=by omega
 clear hr hx hne hn
 go_enter Try.func31,Try.ntmps31
 go_upto_region 4 with fail
 go_loopw [6,7] (fun o i wr=>∃ k:Nat,o=.bool true∧i=.int .i64 (k:Int)∧k≤n+3∧Hid (HdL base g n c xs w wr k)) (fun _ i _=>n+3-(intOf i).toNat)
 case atStart=>exact ⟨0,rfl,rfl,Nat.zero_le _,H0⟩
 case round=>
  clear H0
  obtain ⟨k,rfl,rfl,hk,H⟩:=hrel
  by_cases hlt:k<n+3
  ·have i0:(0:Int)≤(k:Int):=by omega
   have i1:(k:Int)<(n:Int)+3:=by omega
   by_cases hkn:k<n
   ·have hkx:k<xs.length:=by rw [← HNL.out];exact hkn
    obtain ⟨q1,q2⟩:=H.out.at (z:=xs[k]) (by rw [List.getElem?_append_left hkx];exact List.getElem?_eq_getElem hkx)
    obtain ⟨b,off,e,q3⟩:=HXS.out wr H.out.2 k hkx
    subst e
    have i2:(k:Int)<(n:Int):=by omega
    have i4:decide (n≤k)=false:=by simp;omega
    have i5:decide (k<n)=true:=by simp;omega
    have HN:Hid (∀ m,Hid (HdL base g n c xs w ((wr.drewN m).setCell ⟨g,k,none⟩ (.int .i64 (-78))) (k+1))):=fun m=>(H.out.same ((Kept.refl _ _).drewN m)).put
    go_upto_region 6 with fail
    go_quiet (fail)
    go_wp2
    go_roundw
    case rel=>exact ⟨k+1,rfl,by go_num,by omega,HN.out _⟩
    case measure=>simp [intOf];omega
   ·have i2:¬ (k:Int)<(n:Int):=by omega
    have i4:decide (n≤k)=true:=by simp;omega
    have i5:decide (k<n)=false:=by simp;omega
    obtain ⟨q1,q2⟩:=H.out.at (z:=-77) (by
     rw [List.getElem?_append_right (by rw [← HNL.out];omega),← HNL.out]
     have:k-n<3:=by omega
     match k-n,this with
     | 0,_=>rfl
     | 1,_=>rfl
     | 2,_=>rfl)
    have HN:Hid (∀ m,Hid (HdL base g n c xs w ((wr.drewN m).setCell ⟨g,k,none⟩ (.int .i64 (-78))) (k+1))):=fun m=>(H.out.same ((Kept.refl _ _).drewN m)).put
    go_upto_region 6 with fail
    go_quiet (fail)
    go_wp2
    go_roundw
    case rel=>exact ⟨k+1,rfl,by go_num,by omega,HN.out _⟩
    case measure=>simp [intOf];omega
  ·have hkn:k=n+3:=by omega
   have i1:¬ (k:Int)<(n:Int)+3:=by omega
   have F:Hid (Kept (fun i=>i=g) w wr):=H.out.2
   clear H
   go_wp2
   go_ret
   exact ⟨rfl,F.out⟩
set_option maxHeartbeats 1000000 in
theorem told12_any {w:World} {h g room:Nat} {l:List Nd} (p:Hp w h g room l) :
  Calls Try.prog 32 #[.pointer (some ⟨h,0,none⟩)] w fun e w' => ∃ v,e=.returned (.tuple #[v,.bool true])∧NRow (fun b=>w.heap.size≤b) w.heap.size w' v l∧Same0 w w' := by
 have hle:=p.le
 have hr2:=p.rm2
 have HP:Hid (∀ ww,Same0 w ww→Hp ww h g room l):=fun ww hk=>p.same hk
 have KR:Same0 w w:=Kept.refl _ _
 clear p
 go_enter Try.func32,Try.ntmps32
 go_wp2
 go_loopw [4,5] (fun v i wr=>∃ (k:Nat),i=.int .i64 (k:Int)∧k≤l.length∧NRow (fun b=>w.heap.size≤b) w.heap.size wr v (l.take k)∧Same0 w wr) (fun _ i _=>l.length-(intOf i).toNat)
 case atStart=>exact ⟨0,rfl,Nat.zero_le _,NRow.nil _ _ _,KR⟩
 case round=>
  clear KR
  obtain ⟨k,rfl,hk,hrow,hw⟩:=hrel
  have pr:=HP.out wr hw
  have CU:=used_any pr
  obtain ⟨vo,vc,rfl⟩:=hrow.shape
  have hlk:(l.take k).length=k:=by simp;omega
  rw [hlk] at hrow
  by_cases hlt:k<l.length
  ·have j1:(k:Int)<(l.length:Int):=by omega
   have j2:(k:Int)<4000:=by omega
   have C1:=hat_yes pr k hlt
   have HT:Hid (l.take (k+1)=l.take k ++ [l[k]]):=List.take_succ_eq_append_getElem hlt
   have HLK:Hid ((l.take k).length=k):=hlk
   rw [hlk]
   clear pr hlk
   go_upto_region 8 with (first | (go_at_call 24;refine CU.mono ?_;rintro e w3 ⟨rfl,h3⟩;have h3:=h3.symm;subst h3) | (go_at_call 42;refine C1.mono ?_;rintro e w3 ⟨bo,bc,rfl,ha,hbb,k3⟩))
   obtain ⟨W3,hW3⟩:∃ W3,W3=w3.alloc (.cells #[.int .i64 l[k].1,.slice bo l[k].2.1.length bc,.int .i64 l[k].2.2.1,.bool l[k].2.2.2.1,.int .i64 l[k].2.2.2.2] 47):=⟨_,rfl⟩
   have kk:Same0 w3 W3:=by rw [hW3];exact (Kept.refl _ _).alloc _
   have K3:Same0 wr W3:=k3.trans' kk
   obtain ⟨x0,x1,x2,x3,x4⟩:=box_node' w3 l[k] bo bc (show Same0 _ W3 by rw [hW3];exact Kept.refl _ _)
   have ha3:=ha.same kk
   have hr3:=hrow.same K3
   have hsz:w.heap.size≤W3.heap.size:=(hw.trans' K3).size
   have hbb' : ∀ b,bo=some b→w.heap.size≤b.block:=fun b e=>Nat.le_trans hw.size (hbb b e)
   have kW:=(Kept.refl (fun _=>False) W3).alloc (.cells #[.int .i64 l[k].1,.slice bo l[k].2.1.length bc,.int .i64 l[k].2.2.1,.bool l[k].2.2.2.1,.int .i64 l[k].2.2.2.2] 47)
   have hq:=heap_at_node W3 l[k] bo bc
   have HKK:Hid (∀ ww,Kept (fun i=>(Value.slice vo k vc).ownBlock=some i) W3 ww→Same0 w ww):=fun ww hk=>NRow.onto (hw.trans' K3) hr3 hk
   rw [← hW3]
   clear hW3 C1 CU k3 ha hrow hbb kk
   go_wp2_with (first | (at_builtin;refine wpList_nd rfl _ _ rfl w.heap.size (l.take k) _ rfl kW hr3 l[k] bo bc _ rfl hq ha3 hbb' hsz (by rw [HLK.out];omega) ?_;rw [HLK.out];intro g4 cap4 w4 hr4 hk4 hor))
   have hr5:NRow (fun b=>w.heap.size≤b) w.heap.size w4 (.slice (some ⟨g4,0,none⟩) (k+1) cap4) (l.take (k+1)):=by rw [HT.out];exact hr4
   have hk5:Same0 w w4:=HKK.out w4 hk4
   go_roundw
   case rel=>first | exact ⟨k+1,by go_num,by omega,hr5,hk5⟩ | ((repeat apply Exists.intro);exact ⟨⟨k+1,by go_num,by omega,hr5,hk5⟩,rfl⟩)
   case measure=>simp [intOf];omega
  ·obtain rfl:k=l.length:=by omega
   rw [List.take_length] at *
   clear hlk pr
   go_wp2_with (first | (go_at_call 24;refine CU.mono ?_;rintro e w3 ⟨rfl,h3⟩;have h3:=h3.symm;subst h3))
   go_ret2
   exact ⟨_,rfl,hrow,hw⟩
theorem rfe_ex (room:Nat) (l:List Nd):∃ E,RfE room l E:=by
 by_cases h1:room<l.length
 ·exact ⟨_,.inl ⟨h1,rfl⟩⟩
 ·by_cases h2:l.all (mayB l.length)=true
  ·by_cases h3:Ac l
   ·exact ⟨_,.inr (.inr (.inr ⟨by omega,h2,h3,rfl⟩))⟩
   ·exact ⟨_,.inr (.inr (.inl ⟨by omega,h2,h3,rfl⟩))⟩
  ·exact ⟨_,.inr (.inl ⟨by omega,by rw [Bool.not_eq_true] at h2;exact h2,rfl⟩)⟩
theorem rfe_range {room:Nat} {l:List Nd} {E:Int} (h:RfE room l E):0≤E∧E≤120:=by
 rcases h with ⟨_,rfl⟩ | ⟨_,_,rfl⟩ | ⟨_,_,_,rfl⟩ | ⟨_,_,_,rfl⟩ <;> omega
theorem RhB.mono {B B' : Nat→Prop} {w:World} {r room:Nat} {v:Value} {l:List Nd} (p:RhB B w r room v l) (hB:∀ k,k<w.heap.size→B k→B' k):RhB B' w r room v l:=⟨p.box,p.row.mono hB,p.rm1,p.rm2,p.le,p.may,p.ac⟩
structure MdAt (w w' : World) (h g r:Nat) (v:Value) (l:List Nd):Prop where
 hp:HpB (fun b=>w.heap.size≤b) w' h g 4000 l
 rh:RhB (fun b=>w.heap.size≤b) w' r 4000 v l
 same:Same0 w w'
 lh:w.heap.size≤h
 lg:w.heap.size≤g
 lr:w.heap.size≤r
 lv:∀ k,v.ownBlock=some k→w.heap.size≤k∧k≠g∧k≠h∧k≠r
 nr:r≠h∧r≠g
def MdQ (l:List Nd) (w:World) (e:Ending) (w' : World):Prop:=
 (e=.returned (.tuple #[.pointer none,.pointer none])∧Same0 w w')∨∃ h g r v,e=.returned (.tuple #[.pointer (some ⟨h,0,none⟩),.pointer (some ⟨r,0,none⟩)])∧MdAt w w' h g r v l
set_option maxHeartbeats 2000000 in
theorem made12_any {w:World} {ao:Option Addr} {ac:Nat} {l:List Nd} (hs:NsW w ao l) (hsz:l.length≤maxLen) :
  Calls Try.prog 26 #[.int .i64 4000,.slice ao l.length ac] w fun e w' => MdQ l w e w' := by
 obtain ⟨E,hE⟩:=rfe_ex 4000 l
 have C1:=hnew_yes 4000 w (by omega) (by omega)
 have HS:Hid (∀ ww,Same0 w ww→NsW ww ao l):=fun ww hk=>hs.same hk
 have HV:Hid (NsV (fun b=>b<w.heap.size) w ao l):=hs.below
 have HZ:Hid (l.length≤maxLen):=hsz
 have HE:Hid (RfE 4000 l E):=hE
 obtain ⟨e1,e2⟩:=rfe_range hE
 clear hs hsz hE
 by_cases h0:E=0
 ·subst h0
  go_enter Try.func26,Try.ntmps26
  go_upto_region 5 with (first | (go_at_call 15;refine C1.mono ?_;rintro e w1 ⟨h,g,rfl,p1,k1,lh,lg⟩;have C2:=rnew_yes 4000 w1 (by omega) (by omega)) | (go_at_call 16;refine C2.mono ?_;rintro e w2 ⟨r,rfl,q2,k2,lr⟩))
  have p2:=p1.same k2
  have K2:=k1.trans' k2
  have hhl:=p1.ltH
  have hgl:=p1.ltG
  have C3:=refill_yes (ac:=ac) p2 ((HV.out.same K2).mono (fun b hb=>show b≠g by omega)) HE.out
  clear p1 C1
  go_upto_region 7 with (first | (go_at_call 57;refine C3.mono ?_;rintro e w3 ⟨rfl,p3,k3⟩;have K3:Same0 w w3:=K2.trans k3 (fun i hi e=>by omega);have C4:=rrefill_any (ac:=ac) (q2.kept k3 (fun e=>by omega) (fun k e=>by cases e) (fun k f=>f.elim)) (HS.out w3 K3) HZ.out HE.out) | (go_at_call 58;refine C4.mono ?_;rintro e w4 ⟨rfl,q4⟩))
  have FIN:MdQ l w (.returned (.tuple #[.pointer (some ⟨h,0,none⟩),.pointer (some ⟨r,0,none⟩)])) w4:=by
   rcases q4 with ⟨e,_⟩ | ⟨_,v,r4,k4,lv⟩
   ·exact absurd rfl e
   ·have hr2:=q2.lt
    have s2:=K2.size
    have s3:=k3.size
    refine .inr ⟨h,g,r,v,rfl,(p3.kept k4 (by omega) (by omega) (fun k _ e cur hc=>?_)).mono (fun k _ _ hk=>by omega),RhB.mono r4 (fun k _ hk=>by omega),K3.trans k4 (fun i hi e=>by have:=k1.size;omega),lh,lg,by have:=k1.size;omega,fun k e=>?_,by omega,by omega⟩
    ·subst e
     have:=k3.at q2.box (by omega)
     rw [this] at hc
     cases hc
    ·have:=lv k e
     have:=k1.size
     omega
  clear q4 C3 C4 HE HV HS q2 p2 p3
  go_wp2
  go_ret2
  exact FIN
 ·have HN:Hid (E≠0):=h0
  have b1:(E != 0)=true:=by simpa using h0
  have b2:(E == 0)=false:=by simpa using h0
  have b3:(E != E)=false:=by simp
  go_enter Try.func26,Try.ntmps26
  go_upto_region 5 with (first | (go_at_call 15;refine C1.mono ?_;rintro e w1 ⟨h,g,rfl,p1,k1,lh,lg⟩;have C2:=rnew_yes 4000 w1 (by omega) (by omega)) | (go_at_call 16;refine C2.mono ?_;rintro e w2 ⟨r,rfl,q2,k2,lr⟩))
  have K2:=k1.trans' k2
  have C3:=refill_no (ac:=ac) (p1.same k2) (HS.out w2 K2) HZ.out HE.out HN.out
  clear p1 C1
  go_upto_region 7 with (first | (go_at_call 57;refine C3.mono ?_;rintro e w3 ⟨rfl,k3⟩;have K3:=K2.trans' k3;have C4:=rrefill_any (ac:=ac) (q2.same k3) (HS.out w3 K3) HZ.out HE.out) | (go_at_call 58;refine C4.mono ?_;rintro e w4 ⟨rfl,q4⟩))
  have FIN:MdQ l w (.returned (.tuple #[.pointer none,.pointer none])) w4:=by
   rcases q4 with ⟨_,e⟩ | ⟨e,_⟩
   ·exact .inl ⟨rfl,K3.trans' e⟩
   ·exact absurd e HN.out
  clear q4 C3 C4 HE HV HS q2
  go_wp2
  go_ret2
  exact FIN
end Go.Proofs.Ytcbonegkfppdiaa
namespace Go.Proofs.Ytcbonegkfppdiaa
set_option linter.unusedVariables false
def exL:List Nd:=[(1,[],0,false,0),(2,[0],0,false,0),(1,[],0,false,0),(3,[1,2],0,false,0),(0,[],0,true,3),(4,[4],1,false,0)]
def exR:Nat→Nat
 | 0=>0
 | 1=>1
 | 2=>0
 | 3=>2
 | 4=>3
 | _=>4
theorem ex_ac:Ac exL:=by
 refine ⟨exR,fun i j e=>?_⟩
 obtain ⟨h,hm⟩:=e
 have h6:i<6:=h
 have key:∀ i:Nat,(h:i<6)→∀ x∈downL (exL[i]'h),exR x.toNat<exR i:=by
  intro i h
  match i,h with
  | 0,_=>decide +revert
  | 1,_=>decide +revert
  | 2,_=>decide +revert
  | 3,_=>decide +revert
  | 4,_=>decide +revert
  | 5,_=>decide +revert
 have:=key i h6 (j:Int) hm
 simpa using this
theorem ex_may:exL.all (mayB exL.length)=true:=by decide
theorem ex_rfe:RfE 6 exL 0:=.inr (.inr (.inr ⟨by decide,ex_may,ex_ac,rfl⟩))
theorem e54:Ed exL 5 4:=⟨by decide,by decide⟩
theorem e43:Ed exL 4 3:=⟨by decide,by decide⟩
theorem e31:Ed exL 3 1:=⟨by decide,by decide⟩
theorem e32:Ed exL 3 2:=⟨by decide,by decide⟩
theorem e10:Ed exL 1 0:=⟨by decide,by decide⟩
theorem r43:Rc exL 4 3:=(Rc.refl exL 3).step e43
theorem r41:Rc exL 4 1:=r43.snoc e31
theorem r42:Rc exL 4 2:=r43.snoc e32
theorem r40:Rc exL 4 0:=r41.snoc e10
theorem app_ex (a:Nat):AppN exL a ↔ a∈[0,1,2,3,5]:=by
 constructor
 ·rintro ⟨h,q⟩
  have h6:a<6:=h
  match a,h6 with
  | 0,_=>decide
  | 1,_=>decide
  | 2,_=>decide
  | 3,_=>decide
  | 4,_=>exact absurd q (by decide +revert)
  | 5,_=>decide
 ·intro h
  simp only [List.mem_cons,List.not_mem_nil,or_false] at h
  rcases h with rfl | rfl | rfl | rfl | rfl <;> exact ⟨by decide,by decide⟩
theorem clo_ex {i j:Nat} (hi:i∈[0,1,2,3,4]) (e:Ed exL i j):j∈[0,1,2,3,4]:=by
 obtain ⟨h,hm⟩:=e
 simp only [List.mem_cons,List.not_mem_nil,or_false] at hi
 have key:∀ x∈downL (exL[i]'h),x.toNat∈[0,1,2,3,4]:=by
  clear hm
  rcases hi with rfl | rfl | rfl | rfl | rfl <;> decide +revert
 simpa using key (j:Int) hm
theorem kl_ex1:KL exL [4] [0,1,2,3]:=by
 refine ⟨by decide,fun a=>⟨fun h=>?_,fun h=>?_⟩⟩
 ·refine ⟨(app_ex a).2 (by simp at h ⊢;omega),4,by simp,?_⟩
  simp only [List.mem_cons,List.not_mem_nil,or_false] at h
  rcases h with rfl | rfl | rfl | rfl
  ·exact r40
  ·exact r41
  ·exact r42
  ·exact r43
 ·obtain ⟨ha,r,hr,hc⟩:=h
  simp only [List.mem_singleton] at hr
  subst hr
  have h1:=Rc.in (S:=fun a=>a∈[0,1,2,3,4]) (fun i j hi e=>clo_ex hi e) (by decide) hc
  have h2:=(app_ex a).1 ha
  simp at h1 h2 ⊢
  omega
theorem kl_ex2:KL exL [5,2,5] [0,1,2,3,5]:=by
 refine ⟨by decide,fun a=>⟨fun h=>⟨(app_ex a).2 h,5,by simp,?_⟩,fun h=>(app_ex a).1 h.1⟩⟩
 simp only [List.mem_cons,List.not_mem_nil,or_false] at h
 rcases h with rfl | rfl | rfl | rfl | rfl
 ·exact r40.step e54
 ·exact r41.step e54
 ·exact r42.step e54
 ·exact r43.step e54
 ·exact Rc.refl _ _
theorem res_ex5:Res exL 5 5:=Res.self (by decide) (by decide)
theorem res_ex2:Res exL 2 2:=Res.self (by decide) (by decide)
theorem res_ex4:Res exL 4 3:=Res.step (by decide) (by decide) (Res.self (by decide) (by decide))
theorem Mv.val {l:List Nd} {R:List Int} {L:List Nat} (hk:KL l R L) {z y:Int} (h:Mv l L z y) {b i:Nat} (hb:Res l z.toNat b) (hi:L[i]? = some b):y=(i:Int):=by
 obtain ⟨b', i', _,h1,h2,rfl⟩:=h
 have:=Res.uniq h1 hb
 subst this
 rw [rise_ne hk.1 h2 hi]
theorem ex_after {L:List Nat} {l' : List Nd} {R' : List Int} (hk:KL exL [5,2,5] L) (hs:Sld exL L l') (hr:Rts exL L [5,2,5] R'):L=[0,1,2,3,5]∧l'.length=5∧R' = [4,2,4]∧l'[4]? = some (4,[3],1,false,0):=by
 have e:=hk.uniq kl_ex2
 subst e
 have hl:l'.length=5:=hs.1
 refine ⟨rfl,hl,?_,?_⟩
 ·have h1:R'.length=3:=hr.1
  match R', h1 with
  | [a,b,c],_=>
   have q1:=(hr.2 0 5 a rfl rfl).val hk (b:=5) (i:=4) res_ex5 rfl
   have q2:=(hr.2 1 2 b rfl rfl).val hk (b:=2) (i:=2) res_ex2 rfl
   have q3:=(hr.2 2 5 c rfl rfl).val hk (b:=5) (i:=4) res_ex5 rfl
   rw [q1,q2,q3];rfl
 ·obtain ⟨h1,h2,a1,a2,a3⟩:=hs.2 4 5 rfl
  rw [List.getElem?_eq_getElem h2]
  have e1:l'[4].1=4:=a1
  have e3:l'[4].2.2=(1,false,0):=a3
  have a2' : Rts exL [0,1,2,3,5] [4] l'[4].2.1:=a2
  have e2:l'[4].2.1=[3]:=by
   have h3:l'[4].2.1.length=1:=a2'.1
   match hm:l'[4].2.1,h3 with
   | [a],_=>
    rw [hm] at a2'
    have q:=(a2'.2 0 4 a rfl rfl).val hk (b:=3) (i:=3) res_ex4 rfl
    rw [q];rfl
  congr 1
  exact Prod.ext e1 (Prod.ext e2 e3)
end Go.Proofs.Ytcbonegkfppdiaa
namespace Go.Proofs.Ytcbonegkfppdiaa
set_option maxRecDepth 100000
set_option linter.unusedVariables false
open Go.RowKit
attribute [local go_sem ↓] Go.wp_at_zero Go.wp_at_succ
def exC (n:Nat):Array Value:=#[.int .i64 1,.slice none 0 0,.int .i64 0,.bool false,.int .i64 0,.int .i64 2,.slice (some ⟨n,0,none⟩) 1 1,.int .i64 0,.bool false,.int .i64 0,.int .i64 1,.slice none 0 0,.int .i64 0,.bool false,.int .i64 0,.int .i64 3,.slice (some ⟨n+1,0,none⟩) 2 2,.int .i64 0,.bool false,.int .i64 0,.int .i64 0,.slice none 0 0,.int .i64 0,.bool true,.int .i64 3,.int .i64 4,.slice (some ⟨n+1+1,0,none⟩) 1 1,.int .i64 1,.bool false,.int .i64 0]
def exW (w:World):World:=(((w.alloc (.cells #[.int .i64 0] 3)).alloc (.cells #[.int .i64 1,.int .i64 2] 3)).alloc (.cells #[.int .i64 4] 3)).alloc (.cells (exC w.heap.size) 47)
theorem exW_at (w:World):(exW w).heap[w.heap.size+1+1+1]? = some (.cells (exC w.heap.size) 47 (0,0)):=by
 have s3:(((w.alloc (.cells #[.int .i64 0] 3)).alloc (.cells #[.int .i64 1,.int .i64 2] 3)).alloc (.cells #[.int .i64 4] 3)).heap.size=w.heap.size+1+1+1:=by simp
 rw [← s3];exact heap_alloc_new _ _
theorem exW_same (w:World):Same0 w (exW w):=((((Kept.refl _ w).alloc _).alloc _).alloc _).alloc _
theorem exW_ns (w:World):NsW (exW w) (some ⟨w.heap.size+1+1+1,0,none⟩) exL:=by
 have s1:(w.alloc (.cells #[.int .i64 0] 3)).heap.size=w.heap.size+1:=by simp
 have s2:((w.alloc (.cells #[.int .i64 0] 3)).alloc (.cells #[.int .i64 1,.int .i64 2] 3)).heap.size=w.heap.size+1+1:=by simp
 have hn:=exW_at w
 have a1:Arg (exW w) (some ⟨w.heap.size,0,none⟩) [0] 1:=(((arg_one w 0).onto ((Kept.refl _ _).alloc _)).onto ((Kept.refl _ _).alloc _)).onto ((Kept.refl _ _).alloc _)
 have a2:Arg (exW w) (some ⟨w.heap.size+1,0,none⟩) [1,2] 2:=by
  have:=arg_two (w.alloc (.cells #[.int .i64 0] 3)) 1 2
  rw [s1] at this
  exact (this.onto ((Kept.refl _ _).alloc _)).onto ((Kept.refl _ _).alloc _)
 have a3:Arg (exW w) (some ⟨w.heap.size+1+1,0,none⟩) [4] 1:=by
  have:=arg_one ((w.alloc (.cells #[.int .i64 0] 3)).alloc (.cells #[.int .i64 1,.int .i64 2] 3)) 4
  rw [s2] at this
  exact this.onto ((Kept.refl _ _).alloc _)
 have c:=fun o=>cellAt hn o
 refine .inr ⟨w.heap.size+1+1+1,0,rfl,lt_of_at hn,fun j hj=>?_⟩
 have h6:j<6:=hj
 match j,h6 with
 | 0,_=>exact ⟨none,0,c 0,c 1,c 2,c 3,c 4,arg_nil _⟩
 | 1,_=>exact ⟨_,1,c 5,c 6,c 7,c 8,c 9,a1⟩
 | 2,_=>exact ⟨none,0,c 10,c 11,c 12,c 13,c 14,arg_nil _⟩
 | 3,_=>exact ⟨_,2,c 15,c 16,c 17,c 18,c 19,a2⟩
 | 4,_=>exact ⟨none,0,c 20,c 21,c 22,c 23,c 24,arg_nil _⟩
 | 5,_=>exact ⟨_,1,c 25,c 26,c 27,c 28,c 29,a3⟩
theorem exW_nv (w:World) {g:Nat} (hg:g<w.heap.size):NsV (fun b=>b≠g) (exW w) (some ⟨w.heap.size+1+1+1,0,none⟩) exL:=by
 rcases exW_ns w with e | ⟨nb,noff,e,hlt,hc⟩
 ·cases e
 ·simp only [Option.some.injEq,Addr.mk.injEq,and_true] at e
  obtain ⟨rfl,rfl⟩:=e
  refine .inr ⟨_,0,rfl,hlt,by omega,fun j hj=>?_⟩
  obtain ⟨xo,xc,n0,n1,n2,n3,n4,n5⟩:=hc j hj
  refine ⟨xo,xc,n0,n1,n2,n3,n4,n5,fun hne a e=>?_⟩
  have hn:=exW_at w
  have c:=fun o=>cellAt hn o
  have h6:j<6:=hj
  match j,h6 with
  | 0,_=>exact absurd rfl hne
  | 1,_=>have h:=n1.symm.trans (show _=some (Value.slice (some ⟨w.heap.size,0,none⟩) 1 1) from c 6);rw [e] at h;cases h;show w.heap.size≠g;omega
  | 2,_=>exact absurd rfl hne
  | 3,_=>have h:=n1.symm.trans (show _=some (Value.slice (some ⟨w.heap.size+1,0,none⟩) 2 2) from c 16);rw [e] at h;cases h;show w.heap.size+1≠g;omega
  | 4,_=>exact absurd rfl hne
  | 5,_=>have h:=n1.symm.trans (show _=some (Value.slice (some ⟨w.heap.size+1+1,0,none⟩) 1 1) from c 26);rw [e] at h;cases h;show w.heap.size+1+1≠g;omega
set_option maxHeartbeats 4000000 in
theorem awake12_any (w:World):Calls Try.prog 25 #[] w fun e w' => e=.returned (.bool true)∧Same0 w w' := by
 have C1:=hnew_yes 6 w (by omega) (by omega)
 go_enter Try.func25,Try.ntmps25
 go_upto_region 4 with (first | (go_at_call 15;refine C1.mono ?_;rintro e w1 ⟨h,g,rfl,p1,k1,lh,lg⟩))
 have C2:=refill_yes (ac:=6) (p1.same (exW_same w1)) (exW_nv w1 p1.ltG) ex_rfe
 have hsz2:Hid ((exW w1).heap.size ≥ w1.heap.size):=(exW_same w1).size
 have K1:Hid (Same0 w (exW w1)):=k1.trans' (exW_same w1)
 unfold exW exC at C2
 simp only [show exL.length=6 from rfl] at C2
 clear C1 p1 k1
 go_upto_region 5 with (first | (go_at_call 57;refine C2.mono ?_;rintro e w2 ⟨rfl,p2,k2⟩))
 have K2:Same0 w w2:=K1.out.trans k2 (fun i hi e=>by omega)
 have hh:=p2.ltH
 have hg:=p2.ltG
 have k3:Same0 w2 (w2.alloc (.cells #[.int .i64 4] 3)):=(Kept.refl _ _).alloc _
 have C3:=live_yes (p2.same k3) (arg_one w2 4) (by intro r hr;simp only [List.mem_singleton] at hr;subst hr;decide)
 simp only [List.length_singleton] at C3
 have HP:Hid (∀ ww,Same0 w2 ww→HpB (fun b=>(exW w1).heap.size≤b) ww h g 6 exL):=fun ww hk=>p2.same hk
 have H3:Hid (Same0 w2 (w2.alloc (.cells #[.int .i64 4] 3))):=k3
 clear C2 p2 k2 K1 hsz2 k3
 go_upto_region 6 with (first | (go_at_call 28;refine C3.mono ?_;rintro e w3 ⟨v,L,rfl,hkl,hrow,hk3⟩))
 have e:=hkl.uniq kl_ex1
 subst e
 obtain ⟨vo,vc,e,hI,hle, -⟩:=hrow.ints
 subst e
 have K23:=H3.out.trans' hk3
 have K3:=K2.trans' K23
 obtain ⟨lb,lo,e,hlb,cl3⟩:=hI.get (i:=3) (by decide)
 subst e
 have cl3' : w3.cell? ⟨lb,lo+3,none⟩=some (.int .i64 3):=cl3
 have k4:Same0 w3 (w3.alloc (.cells #[.int .i64 5,.int .i64 2,.int .i64 5] 3)):=(Kept.refl _ _).alloc _
 have C4:=coll_yes (HP.out _ (K23.trans' k4)) (ao:=some ⟨w3.heap.size,0,none⟩) (R:=[5,2,5]) (ac:=3) ⟨ints_three w3 5 2 5,Nat.le_refl _,(fun e=>by cases e),by simp⟩ (by intro r hr;simp only [List.mem_cons,List.not_mem_nil,or_false] at hr;rcases hr with rfl | rfl | rfl <;> decide) (fun _ a e=>by cases e;have:=K23.size;exact ⟨by simp only;omega,by simp only;omega⟩)
 simp only [show ([5,2,5]:List Int).length=3 from rfl] at C4
 have hlen4:(ofN [0,1,2,3]).length=4:=rfl
 rw [hlen4] at hle ⊢
 have H4:Hid (Same0 w3 (w3.alloc (.cells #[.int .i64 5,.int .i64 2,.int .i64 5] 3))):=k4
 have HC:Hid (w3.cell? ⟨lb,lo+3,none⟩=some (.int .i64 3)∧w.heap.size≤w2.heap.size∧lb<w3.heap.size):=⟨cl3', K2.size,hlb⟩
 have HB:Hid (w2.heap.size≤lb):=by
  have:=(hrow.lt lb rfl).1
  have s:=H3.out.size
  show _≤_
  omega
 clear C3 hkl hrow hI cl3 cl3' hlen4 k4 hk3
 go_upto_region 7 with (first | (go_at_call 34;refine C4.mono ?_;rintro e w5 ⟨rv,R', L', l', rfl,hkl,hsl,hrt,hrow5,p5,k5⟩))
 obtain ⟨rfl,hl5,rfl,hx4⟩:=ex_after hkl hsl hrt
 obtain ⟨h45,hx5⟩:=List.getElem?_eq_some_iff.1 hx4
 have C5:=hat_yes p5 4 h45
 rw [hx5] at C5
 have CU:∀ ww,Same0 w5 ww→Calls Try.prog 24 #[.pointer (some ⟨h,0,none⟩)] ww fun e w' => e=.returned (.int .i64 5)∧w' = ww:=fun ww hk=>by
  have:=used_any (p5.same hk)
  rw [hl5] at this
  exact this
 have HU:=(show Hid _ from CU)
 obtain ⟨ro,rc,e,hRI,hrle,hrb⟩:=hrow5.ints
 subst e
 obtain ⟨rb,roff,e,hrb1,q0⟩:=hRI.get (i:=0) (by decide)
 subst e
 have q1:w5.cell? ⟨rb,roff+1,none⟩=some (.int .i64 2):=by
  obtain ⟨b,o,e,_,h⟩:=hRI.get (i:=1) (by decide)
  cases e;exact h
 have q2:w5.cell? ⟨rb,roff+2,none⟩=some (.int .i64 4):=by
  obtain ⟨b,o,e,_,h⟩:=hRI.get (i:=2) (by decide)
  cases e;exact h
 have q0' : w5.cell? ⟨rb,roff,none⟩=some (.int .i64 4):=q0
 have hlb2:=HB.out
 have q3:w5.cell? ⟨lb,lo+3,none⟩=some (.int .i64 3):=(k5.cell (p:=⟨lb,lo+3,none⟩) (by have:=H4.out.size;simp only;omega) (by simp only;omega)).trans ((H4.out.cell (p:=⟨lb,lo+3,none⟩) hlb (fun f=>f)).trans HC.out.1)
 have hlb5:lb<w5.heap.size:=by have:=H4.out.size;have:=k5.size;omega
 have K5:Same0 w w5:=(K3.trans' H4.out).trans k5 (fun i hi e=>by omega)
 have HQ:Hid (∀ ww,Same0 w5 ww→ww.cell? ⟨rb,roff,none⟩=some (.int .i64 4)∧ww.cell? ⟨rb,roff+1,none⟩=some (.int .i64 2)∧ww.cell? ⟨rb,roff+2,none⟩=some (.int .i64 4)∧ww.cell? ⟨lb,lo+3,none⟩=some (.int .i64 3)∧Same0 w ww):=fun ww hk=>
  ⟨(hk.cell (p:=⟨rb,roff,none⟩) hrb1 (fun f=>f)).trans q0', (hk.cell (p:=⟨rb,roff+1,none⟩) hrb1 (fun f=>f)).trans q1,(hk.cell (p:=⟨rb,roff+2,none⟩) hrb1 (fun f=>f)).trans q2,(hk.cell (p:=⟨lb,lo+3,none⟩) hlb5 (fun f=>f)).trans q3,K5.trans' hk⟩
 simp only [show ([4,2,4]:List Int).length=3 from rfl] at hrle ⊢
 simp only [show exL.length=6 from rfl,show ([0,1,2,3,5]:List Nat).length=5 from rfl]
 clear hkl hsl hrt hrow5 p5 k5 hx4 hx5 h45 hl5 hRI q0 q0' q1 q2 q3 CU C4 HP H3 H4 HC HB hrb
 go_wp2_with (first
  | (go_at_call 42;refine C5.mono ?_;rintro e w6 ⟨bo,bc,rfl,hA,hAb,hk6⟩;obtain ⟨xb,xo,e,hxb,cx⟩:=hA.1.at'.get (i:=0) (by decide);subst e;have kA:Same0 w5 (w6.alloc (.cells #[.int .i64 4,.slice (some ⟨xb,xo,none⟩) 1 bc,.int .i64 1,.bool false,.int .i64 0] 47)):=hk6.alloc _;obtain ⟨t0,t1,t2,t3,t4⟩:=HQ.out _ kA;obtain ⟨d0,d1,d2,d3,d4⟩:=box5 (heap_alloc_new w6 (.cells #[.int .i64 4,.slice (some ⟨xb,xo,none⟩) 1 bc,.int .i64 1,.bool false,.int .i64 0] 47));have cx7:(w6.alloc (.cells #[.int .i64 4,.slice (some ⟨xb,xo,none⟩) 1 bc,.int .i64 1,.bool false,.int .i64 0] 47)).cell? ⟨xb,xo,none⟩=some (.int .i64 3):=(((Kept.refl (fun _=>False) w6).alloc _).cell (p:=⟨xb,xo,none⟩) hxb (fun f=>f)).trans cx;have CU:=HU.out _ kA;clear hA hAb hk6 cx kA C5)
  | (go_at_call 24;refine CU.mono ?_;rintro e w7 ⟨rfl,hw7⟩;have hw7:=hw7.symm;subst hw7))
 go_ret
 exact ⟨rfl,t4⟩
theorem wpList_moreW {w0:World} {ops:Array Oper} {rest:List Oper} {o:Oper} {a:Act} {Q:Exit→Act→World→Prop} (hgd:o.guard=none) (s x:Operand) (t:TypeId)
  (ho:o.op=.call { callee:=.builtin .append,args:=#[s,x],argTypes:=#[t,t] }) (ht:Try.prog.underlying t=some (.slice 3))
  (base:Nat) (xs:List Int) (v:Value) (hs:a.eval s=v) (hr:Row base w0 v xs) (ys:List Int) (ao:Option Addr) (m c:Nat) (hx:a.eval x=.slice ao m c) (hm:m=ys.length) (hy:IntsAt w0 ao ys) (hnil:ao=none→ys.length=0∧c=0) (hb:base≤w0.heap.size) (hsz:xs.length+ys.length≤20000000000000)
  (h:∀ v' w', Row base w' v' (xs++ys)→Kept (fun k=>v.ownBlock=some k) w0 w' → wpList Try.prog ops Q rest (a.put o.dst v') w') :
  wpList Try.prog ops Q (o :: rest) a w0:=by
 subst hm
 obtain ⟨i,hi,hz0,hz1,hz2⟩:=info_parts info_intT
 cases ao with
 | none=>
  obtain ⟨h1,rfl⟩:=hnil rfl
  have:ys=[]:=List.eq_nil_of_length_eq_zero h1
  subst this
  exact wpList_append_own_none hgd s x t ho base 3 i 1 ht hi v xs.length (iv xs) hs hr hx (h v w0 (by simpa using hr) (Kept.refl _ _))
 | some ad=>
  by_cases h0:ys=[]
  ·subst h0
   refine wpList_append_own_wide _ hgd s x t ho base 3 i (.int .i64 0) 1 8 ht hi hz0 hz1 hz2 rfl (by decide) v xs.length (iv xs) hs hr ad 0 c [] hx rfl (fun j u hj=>by simp at hj) (fun u hu=>by cases hu) (by unfold maxLen;omega) (by simp at hsz;omega) hb ?_
   intro v' w' hown hgrow _
   exact h v' w' (by simpa [Row] using hown) (Kept.grown (Kept.refl _ w0) hgrow (fun _ e _=>e))
  ·have hy' : ∀ j u,(iv ys)[j]? = some u→w0.cell? (ad.add j)=some u:=by
    have hpos:0<(iv ys).length:=by rw [iv_length];exact List.length_pos_iff.2 h0
    obtain ⟨ad', e,hh⟩:=hy.src hpos
    cases e
    exact hh
   refine wpList_append_own_wide _ hgd s x t ho base 3 i (.int .i64 0) 1 8 ht hi hz0 hz1 hz2 rfl (by decide) v xs.length (iv xs) hs hr ad ys.length c (iv ys) hx (by simp [iv_length]) hy' (iv_oneCell ys) (by unfold maxLen;omega) (by omega) hb ?_
   intro v' w' hown hgrow _
   refine h v' w' ?_ (Kept.grown (Kept.refl _ w0) hgrow (fun _ e _=>e))
   unfold Row;rw [iv_append,List.length_append];exact hown
def lenV:Value→Nat
 | .slice _ n _=>n
 | _=>0
def UnQ (l:List Nd) (fr:List Int) (w:World) (e:Ending) (w' : World):Prop:=
 ∃ mb s,e=.returned (.slice (some ⟨mb,0,none⟩) l.length l.length)∧w.heap.size≤mb∧w'.ownsRow mb 4 1 (.slice (some ⟨mb,0,none⟩) l.length l.length) l.length (bv s)∧(∀ x,Mk s x ↔ ∃ f∈fr,Rc l f.toNat x)∧Same0 w w'
set_option maxHeartbeats 2000000 in
theorem under_any {w:World} {ao fo:Option Addr} {ac fc:Nat} {l:List Nd} {fr:List Int} (h:NsW w ao l) (hf:Arg w fo fr fc) (hr:∀ z∈fr,0≤z∧z<(l.length:Int)) (hin:InL l) (few:∀ x∈l,x.2.1.length≤6) (hN:l.length≤4000) (hfr:fr.length≤17592186044416) :
  Calls Try.prog 66 #[.slice ao l.length ac,.slice fo fr.length fc] w fun e w' => UnQ l fr w e w' := by
 obtain ⟨i,hi,hz0,hz1,hz2⟩:=info_parts info_boolT
 have HL:Hid (∀ ww,Same0 w ww→NsW ww ao l):=fun ww hk=>h.same hk
 have HI:Hid (InL l):=hin
 have HW:Hid (∀ x∈l,x.2.1.length≤6):=few
 have HU0:Hid (Un l fr (List.replicate l.length false) fr):=Un.start hr
 have HFR:Hid (fr.length≤17592186044416):=hfr
 obtain ⟨N,hNe⟩:∃ N,N=l.length:=⟨_,rfl⟩
 have HNE:Hid (N=l.length):=hNe
 have HQ:Hid (∀ e w', (∃ mb s,e=.returned (.slice (some ⟨mb,0,none⟩) N N)∧w.heap.size≤mb∧w'.ownsRow mb 4 1 (.slice (some ⟨mb,0,none⟩) N N) N (bv s)∧(∀ x,Mk s x ↔ ∃ f∈fr,Rc l f.toNat x)∧Same0 w w')→UnQ l fr w e w'):=fun e w' hq=>by rw [hNe] at hq;exact hq
 rw [← hNe] at hN HU0 ⊢
 have i5:(0:Int)≤(N:Int):=by omega
 have HCF:Hid (∀ ww,Same0 w ww→Arg ww fo fr fc):=fun ww hk=>hf.onto hk
 clear h hin few hNe hf hr hfr
 go_enter Try.func66,Try.ntmps66
 go_upto_region 2 with (first | (at_make;refine wpList_make_full _ rfl _ _ 73 rfl w.heap.size 4 i _ 1 Try.underlying73 hi hz0 hz1 _ _ _ _ N rfl rfl rfl rfl (by rw [hz2];omega) (by unfold maxLen;omega) (Nat.le_refl _) ?_;intro w1 hown hgrow))
 rw [made_bools] at hown
 have K1:Same0 w w1:=Same0.grown (Kept.refl _ w) hgrow
 obtain ⟨mb,hmb⟩:∃ mb,mb=w.heap.size:=⟨_,rfl⟩
 have hlo:w.heap.size≤mb:=by omega
 have hmb1:mb<w1.heap.size:=by rw [hmb];exact (hown.lt w.heap.size rfl).2
 rw [← hmb] at hown ⊢
 have HR1:Hid (w1.ownsRow mb 4 1 (.slice (some ⟨mb,0,none⟩) N N) N (bv (List.replicate N false))):=hown
 have CC:=rcopied_row (HCF.out w1 K1)
 clear hmb hown hgrow hz0 hz1 hz2 hi HCF
 go_upto_region 3 with (first | (go_at_call 72;refine CC.mono ?_;rintro e w2 ⟨v2,rfl,hr2,k2⟩))
 have HR2:Hid (w2.ownsRow mb 4 1 (.slice (some ⟨mb,0,none⟩) N N) N (bv (List.replicate N false))):=k2.row HR1.out (fun _ _ f=>f)
 have HT2:Hid (Row (mb+1) w2 v2 fr):=row_mono hr2 hmb1
 have K2:=K1.trans' k2
 have hmb2:mb<w2.heap.size:=Nat.lt_of_lt_of_le hmb1 k2.size
 clear CC hr2 k2 K1 HR1 hmb1
 go_loopw [6] (fun tv wr=>∃ (s:List Bool) (T:List Int),Hid (wr.ownsRow mb 4 1 (.slice (some ⟨mb,0,none⟩) N N) N (bv s))∧Hid (Row (mb+1) wr tv T)∧Hid (Un l fr s T)∧Same0 w wr∧mb<wr.heap.size) (fun tv wr=>7 * falses wr mb N+lenV tv)
 case atStart=>exact ⟨_,fr,HR2,HT2,HU0,K2,hmb2⟩
 case round=>
  clear K2 HR2 HT2 HU0 hmb2
  obtain ⟨s,T,HR,HT,HU,hw,hmb1⟩:=hrel
  obtain ⟨vo,vc,e⟩:=row_shape HT.out
  subst e
  have HFO:Hid (falses wr mb N=s.count false):=falses_row HR.out
  rcases List.eq_nil_or_concat T with e | ⟨T', z,e⟩
  ·subst e
   have HD:Hid (∀ x,Mk s x ↔ ∃ f∈fr,Rc l f.toNat x):=HU.out.done
   go_wp2
   go_ret
   exact HQ.out _ _ ⟨mb,s,rfl,hlo,HR.out,HD.out,hw⟩
  ·rw [List.concat_eq_append] at e
   subst e
   have hz:=HU.out.rng z (by simp)
   obtain ⟨x,hx⟩:∃ x:Nat,z=(x:Int):=⟨z.toNat,by omega⟩
   subst hx
   have hxl:x<l.length:=by omega
   have hxN:x<N:=by rw [HNE.out];exact hxl
   have el:(T' ++ [(x:Int)]).length=T'.length+1:=by simp
   rw [el] at HT ⊢
   obtain ⟨g,e1,hg,cz,hrT,hcap⟩:=Row.last HT.out
   subst e1
   have HTL:Hid (T'.length+1≤17592186068417):=by
    have h1:=HU.out.cnt
    have h2:=HFR.out
    have h3:=HNE.out
    rw [el] at h1
    show _≤_
    omega
   have j1:(0:Int)≤(T'.length:Int):=by omega
   have j2:(T'.length:Int)<(T'.length:Int)+1:=by omega
   have j3:(T'.length:Int)≤(vc:Int):=by omega
   have j4:(0:Int)≤(x:Int):=by omega
   have j5:(x:Int)<(N:Int):=by omega
   have j6:(0:Int)<(T'.length:Int)+1:=by omega
   have j7:(T'.length:Int)≤17592186068417:=by have:=HTL.out;omega
   have HRT:Hid (Row (mb+1) wr (.slice (some ⟨g,0,none⟩) T'.length vc) T'):=hrT
   obtain ⟨b,hb1,hb2,hb3⟩:=row_bool HR.out hxN
   have HB:Hid (s[x]? = some b):=hb1
   clear hb1 hrT hz el
   cases b
   ·obtain ⟨W4,hW4⟩:∃ W4,W4=wr.setCell ⟨mb,x,none⟩ (.bool true):=⟨_,rfl⟩
    have hxs:x<s.length:=(List.getElem?_eq_some_iff.1 HB.out).1
    have K4:Kept (fun k=>k=mb) wr W4:=by rw [hW4];exact Kept.setCell (S:=fun k=>k=mb) (Kept.refl _ _) (p:=⟨mb,x,none⟩) (fun _=>rfl) _
    have hw4:Same0 w W4:=by rw [hW4];exact hw.own hlo _
    have hr4:W4.ownsRow mb 4 1 (.slice (some ⟨mb,0,none⟩) N N) N (bv (s.set x true)):=by rw [hW4,bv_set];exact (HR.out.stored x _).1
    have ht4:Row (mb+1) W4 (.slice (some ⟨g,0,none⟩) T'.length vc) T' := K4.row HRT.out (fun k e q=>by have:g=k:=Option.some.inj e;omega)
    have HMS:Hid (∀ ww,ww.ownsRow mb 4 1 (.slice (some ⟨mb,0,none⟩) N N) N (bv (s.set x true))→falses ww mb N+1=falses wr mb N):=fun ww hq=>by
     rw [falses_row hq,HFO.out];exact count_set HB.out
    rcases HL.out W4 hw4 with e | ⟨nb,noff,e,hnb,hn⟩
    ·rw [e] at hxl;simp at hxl
    subst e
    obtain ⟨xo,xc,n0,n1,n2,n3,n4,n5⟩:=hn x hxl
    have CD:=down_arg n5
    have dl:(downL l[x]).length≤6:=by have:=HW.out _ (List.getElem_mem hxl);unfold downL;split <;> (simp;try omega)
    have HUN:Hid (Un l fr (s.set x true) (T' ++ downL l[x])):=HU.out.take HB.out hxl dl HI.out
    have hmb4:mb+1≤W4.heap.size:=Nat.lt_of_lt_of_le hmb1 K4.size
    have HR4:Hid (W4.ownsRow mb 4 1 (.slice (some ⟨mb,0,none⟩) N N) N (bv (s.set x true))):=hr4
    have HT4:Hid (Row (mb+1) W4 (.slice (some ⟨g,0,none⟩) T'.length vc) T'):=ht4
    have k1:(x:Int)<(l.length:Int):=by omega
    generalize downL l[x]=D at *
    clear n5 hn HU HR HT HFO HB K4 hr4 ht4
    go_upto_region 8 with fail
    rw [← hW4]
    clear hW4 hb2 hb3 cz
    go_wp2_with (first | (go_at_call 80;refine CD.mono ?_;rintro e w5 ⟨bo,bc,rfl,hD,hnil,k5⟩;have ht5:Row (mb+1) w5 (.slice (some ⟨g,0,none⟩) T'.length vc) T' := k5.row HT4.out (fun _ _ f=>f);have hz5:mb+1≤w5.heap.size:=Nat.le_trans hmb4 k5.size) | (at_builtin;refine wpList_moreW rfl _ _ 31 rfl Try.underlying31 (mb+1) T' _ rfl ht5 D _ _ _ rfl rfl hD hnil hz5 (by omega) ?_;intro v6 w6 hr6 hk6))
    have HR6:Hid (w6.ownsRow mb 4 1 (.slice (some ⟨mb,0,none⟩) N N) N (bv (s.set x true))):=hk6.row (k5.row HR4.out (fun _ _ f=>f)) (fun k e q=>by
     have h1:mb=k:=Option.some.inj e
     have h2:g=k:=Option.some.inj q
     omega)
    have HT6:Hid (Row (mb+1) w6 v6 (T' ++ D)):=hr6
    have hw6:Same0 w w6:=(hw4.trans' k5).trans hk6 (fun k hk e=>by have h2:g=k:=Option.some.inj e;omega)
    have hmb6:mb<w6.heap.size:=Nat.lt_of_lt_of_le hz5 hk6.size
    obtain ⟨vo6,vc6,e6⟩:=row_shape hr6
    subst e6
    have HM6:=HMS.out w6 HR6.out
    have hle6:(T' ++ D).length≤T'.length+6:=by simp;omega
    clear hr6 hk6 ht5 hD hnil CD n0 n1 n2 n3 n4
    go_roundw
    case rel=>exact ⟨_,_,HR6,HT6,HUN,hw6,hmb6⟩
    case measure=>simp only [lenV];omega
   ·have hmk:Mk s x:=HB.out
    have HUN:Hid (Un l fr s T'):=HU.out.skip hmk
    clear hmk HU HFO
    go_wp2
    go_roundw
    case rel=>exact ⟨s,T', HR,HRT,HUN,hw,hmb1⟩
    case measure=>simp [lenV]
def lvL (n:Nat) (s:List Bool) (l:List Nd):List Nat:=(List.range n).filter (fun a=>(s[a]? == some true) && ((l[a]?).map (fun x=>x.2.2.2.1) == some false))
theorem lvL_succ {n:Nat} {s:List Bool} {l:List Nd} (h:n<l.length):lvL (n+1) s l=lvL n s l++(if s[n]? = some true∧l[n].2.2.2.1=false then [n] else []):=by
 unfold lvL
 rw [List.range_succ,List.filter_append]
 congr 1
 by_cases h1:s[n]? = some true <;> by_cases h2:l[n].2.2.2.1=false <;> simp [h1,h2,h]
theorem lvL_len (n:Nat) (s:List Bool) (l:List Nd):(lvL n s l).length≤n:=by
 have:=List.length_filter_le (fun a:Nat=>(s[a]? == some true) && ((l[a]?).map (fun x=>x.2.2.2.1) == some false)) (List.range n)
 simpa [lvL] using this
theorem lvL_kl {l:List Nd} {R:List Int} {s:List Bool} (h:∀ x,Mk s x ↔ ∃ f∈R,Rc l f.toNat x):KL l R (lvL l.length s l):=by
 refine ⟨List.Pairwise.filter _ List.pairwise_lt_range,fun a=>?_⟩
 unfold lvL
 simp only [List.mem_filter,List.mem_range,Bool.and_eq_true,beq_iff_eq]
 constructor
 ·rintro ⟨h1,h2,h3⟩
  rw [List.getElem?_eq_getElem h1] at h3
  exact ⟨⟨h1,by simpa using h3⟩,(h a).1 h2⟩
 ·rintro ⟨⟨h1,h2⟩,h3⟩
  exact ⟨h1,(h a).2 h3,by rw [List.getElem?_eq_getElem h1];simpa using h2⟩
set_option maxHeartbeats 2000000 in
theorem rlive_no {B:Nat→Prop} {w:World} {r room:Nat} {v:Value} {l:List Nd} (p:RhB B w r room v l) {ao:Option Addr} {R:List Int} {ac:Nat} (hx:Arg w ao R ac) (hR:¬ ∀ z∈R,0≤z∧z<(l.length:Int)) :
  Calls Try.prog 29 #[.pointer (some ⟨r,0,none⟩),.slice ao R.length ac] w fun e w' => e=.returned (.tuple #[.slice none 0 0,.int .i64 120])∧w' = w:=by
 obtain ⟨vo,vc,e,hns⟩:=p.mem
 subst e
 have CH:=fun a=>rhas_any (p.cells).2 (by have:=p.le;have:=p.rm2;unfold maxLen;omega) a
 have HI:Hid (∀ k (hk:k<R.length),(∀ j (hj:j<R.length),j<k→0≤R[j]∧R[j]<(l.length:Int))→k=R.length→False):=fun k hk _ e=>by omega
 have HN:Hid (¬ ∀ z∈R,0≤z∧z<(l.length:Int)):=hR
 have HX:Hid (Arg w ao R ac):=hx
 obtain ⟨N,hNe⟩:∃ N,N=R.length:=⟨_,rfl⟩
 have HNE:Hid (N=R.length):=hNe
 have HNZ:Hid (N * 8≤140737488351232):=by rw [hNe];exact hx.size
 have hN0:(0:Int)≤(N:Int):=by omega
 rw [← hNe]
 clear p hx hR hns hNe HI
 go_enter Try.func29,Try.ntmps29
 go_wp2
 go_loop [6] (fun i=>∃ k:Nat,k≤N∧i=.int .i64 (k:Int)∧Hid (∀ j (hj:j<R.length),j<k→0≤R[j]∧R[j]<(l.length:Int))) (fun i=>N-(intOf i).toNat)
 case atStart=>exact ⟨0,Nat.zero_le _,rfl,fun j _ hj=>absurd hj (Nat.not_lt_zero _)⟩
 case round=>
  obtain ⟨k,hk,rfl,hall⟩:=hrel
  by_cases hlt:k<N
  ·have hkR:k<R.length:=by rw [← HNE.out];exact hlt
   obtain ⟨b,off,e,hb,hc⟩:=HX.out.at'.get hkR
   subst e
   have C:=CH R[k]
   have i1:(0:Int)≤(k:Int):=by omega
   have i2:(k:Int)<(N:Int):=by omega
   have iw:IntKind.i64.wrap ((k:Int)+1)=(k:Int)+1:=by rw [IntKind.wrap_i64];have:=HNZ.out;omega
   by_cases h1:0≤R[k]∧R[k]<(l.length:Int)
   ·rw [hasB_yes h1] at C
    have HA:Hid (∀ j (hj:j<R.length),j<k+1→0≤R[j]∧R[j]<(l.length:Int)):=fun j hj hjk=>by
     by_cases e:j=k
     ·subst e;exact h1
     ·exact hall.out j hj (by omega)
    clear h1 hall CH
    go_wp2_with (first | (go_at_call 65;refine C.mono ?_;rintro e w' ⟨rfl,hw'⟩;have hw' := hw'.symm;subst hw'))
    go_round
    case rel=>exact ⟨k+1,by omega,by go_num,HA⟩
    case measure=>simp [intOf];omega
   ·rw [hasB_no h1] at C
    clear h1 hall CH
    go_wp2_with (first | (go_at_call 65;refine C.mono ?_;rintro e w' ⟨rfl,hw'⟩;have hw' := hw'.symm;subst hw'))
    go_ret2
    exact ⟨rfl,rfl⟩
  ·exfalso
   refine HN.out (fun z hz=>?_)
   obtain ⟨j,hj,rfl⟩:=List.mem_iff_getElem.1 hz
   exact hall.out j hj (by have:=HNE.out;omega)
set_option maxHeartbeats 2000000 in
theorem rlive_yes {B:Nat→Prop} {w:World} {r room:Nat} {v:Value} {l:List Nd} (p:RhB B w r room v l) {ao:Option Addr} {R:List Int} {ac:Nat} (hx:Arg w ao R ac) (hR:∀ z∈R,0≤z∧z<(l.length:Int)) :
  Calls Try.prog 29 #[.pointer (some ⟨r,0,none⟩),.slice ao R.length ac] w fun e w' => ∃ v' L,e=.returned (.tuple #[v', .int .i64 0])∧KL l R L∧Row w.heap.size w' v' (ofN L)∧Same0 w w' := by
 obtain ⟨vo,vc,e,hns⟩:=p.mem
 subst e
 have hl4:l.length≤4000:=by have:=p.le;have:=p.rm2;omega
 have CH:=fun a=>rhas_any (p.cells).2 (by unfold maxLen;omega) a
 have CU:=under_any (ac:=vc) hns.weak hx hR p.inl (fun x hxm=>(may_facts (p.may x hxm)).2.1) hl4 (by have:=hx.size;omega)
 have HX:Hid (Arg w ao R ac):=hx
 have HRR:Hid (∀ z∈R,0≤z∧z<(l.length:Int)):=hR
 have HP:Hid (∀ ww,Same0 w ww→ww.cell? ⟨r,1,none⟩=some (.slice vo l.length vc)∧NsW ww vo l):=fun ww hk=>⟨(p.same hk).cells.2,hns.weak.same hk⟩
 have c1:=(p.cells).2
 obtain ⟨N,hNe⟩:∃ N,N=R.length:=⟨_,rfl⟩
 have HNE:Hid (N=R.length):=hNe
 have HNZ:Hid (N * 8≤140737488351232):=by rw [hNe];exact hx.size
 have hN0:(0:Int)≤(N:Int):=by omega
 obtain ⟨n,hne⟩:∃ n,n=l.length:=⟨_,rfl⟩
 have HnE:Hid (n=l.length):=hne
 have hn4:(n:Int)≤4000:=by omega
 rw [← hNe] at CU ⊢
 rw [← hne] at c1 CU
 clear p hx hR hns hNe hne
 go_enter Try.func29,Try.ntmps29
 go_wp2
 go_loop [6] (fun i=>∃ k:Nat,k≤N∧i=.int .i64 (k:Int)) (fun i=>N-(intOf i).toNat)
 case atStart=>exact ⟨0,Nat.zero_le _,rfl⟩
 case round=>
  obtain ⟨k,hk,rfl⟩:=hrel
  by_cases hlt:k<N
  ·have hkR:k<R.length:=by rw [← HNE.out];exact hlt
   obtain ⟨b,off,e,hb,hc⟩:=HX.out.at'.get hkR
   subst e
   have C:=CH R[k]
   rw [hasB_yes (HRR.out _ (List.getElem_mem hkR))] at C
   have i1:(0:Int)≤(k:Int):=by omega
   have i2:(k:Int)<(N:Int):=by omega
   have iw:IntKind.i64.wrap ((k:Int)+1)=(k:Int)+1:=by rw [IntKind.wrap_i64];have:=HNZ.out;omega
   clear CH CU c1
   go_wp2_with (first | (go_at_call 65;refine C.mono ?_;rintro e w' ⟨rfl,hw'⟩;have hw' := hw'.symm;subst hw'))
   go_round
   case rel=>exact ⟨k+1,by omega,by go_num⟩
   case measure=>simp [intOf];omega
  ·have e:N=k:=by omega
   subst e
   clear hlt hk CH
   go_upto_region 9 with (first | (go_at_call 66;refine CU.mono ?_;rintro e w1 ⟨mb,s,rfl,hmb,hrow,hmk,k1⟩))
   have HMK:Hid (∀ x,Mk s x ↔ ∃ f∈R,Rc l f.toNat x):=hmk
   have HB:Hid (∀ ww,Same0 w1 ww→∀ a,a<n→∃ b,s[a]? = some b∧ww.cell? ⟨mb,a,none⟩=some (.bool b)):=fun ww hk a ha=>by
    rw [← HnE.out] at hrow
    obtain ⟨b,h1,h2,_⟩:=row_bool hrow ha
    have hlt:mb<w1.heap.size:=lt_of_at (full_block hrow)
    exact ⟨b,h1,(hk.cell (p:=⟨mb,a,none⟩) hlt (fun f=>f)).trans h2⟩
   rw [← HnE.out]
   have HR0:Hid (Row w1.heap.size w1 (.slice none 0 0) (ofN (lvL 0 s l))):=World.ownsRow_nil _ _ _ _
   have HK1:Hid (Same0 w w1):=k1
   clear CU hrow hmk k1 c1
   go_loopw [8,9] (fun v8 v9 wr=>∃ k:Nat,k≤n∧v9=.int .i64 (k:Int)∧Hid (Row w1.heap.size wr v8 (ofN (lvL k s l)))∧Same0 w1 wr) (fun _ v9 _=>n-(intOf v9).toNat)
   case atStart=>exact ⟨0,Nat.zero_le _,rfl,HR0,Kept.refl _ _⟩
   case round=>
    clear HR0
    obtain ⟨k,hk,rfl,HR,hw⟩:=hrel
    by_cases hlt:k<n
    ·have hkl:k<l.length:=by rw [← HnE.out];exact hlt
     obtain ⟨b,hb1,hb2⟩:=HB.out wr hw k hlt
     obtain ⟨c1,hns⟩:=HP.out wr (HK1.out.trans' hw)
     rw [← HnE.out] at c1
     rcases hns with e | ⟨nb,nf,e,hnb,hcn⟩
     ·rw [e] at hkl;simp at hkl
     subst e
     obtain ⟨xo,xc,n0,n1,n2,n3,n4,n5⟩:=hcn k hkl
     have i1:(0:Int)≤(k:Int):=by omega
     have i2:(k:Int)<(n:Int):=by omega
     have hs:=lvL_succ (s:=s) hkl
     have hlk:=lvL_len k s l
     cases b
     ·have HR' : Hid (Row w1.heap.size wr u8 (ofN (lvL (k+1) s l))):=by
       show Row _ _ _ _
       rw [hs,if_neg (by rw [hb1];simp)];simpa using HR.out
      clear hs hcn n0 n1 n2 n4 n5 HR hb1
      go_wp2
      go_roundw
      case rel=>first | exact ⟨k+1,by omega,by go_num,HR', hw⟩ | ((repeat apply Exists.intro);exact ⟨⟨k+1,by omega,by go_num,HR', hw⟩,rfl⟩)
      case measure=>simp [intOf];omega
     ·cases hp:l[k].2.2.2.1
      ·rw [hp] at n3
       have HR' : Hid (∀ v' w', Row w1.heap.size w' v' (ofN (lvL k s l) ++ [(k:Int)])→Row w1.heap.size w' v' (ofN (lvL (k+1) s l))):=fun v' w' hq=>by
        rw [hs,if_pos ⟨hb1,hp⟩,ofN_snoc];exact hq
       have hsz:((ofN (lvL k s l)).length+1) * 8≤140737488355328:=by rw [ofN_len'];omega
       have hb:w1.heap.size≤wr.heap.size:=hw.size
       generalize ofN (lvL k s l)=P at *
       obtain ⟨qo,qc,e⟩:=row_shape HR.out
       subst e
       clear hs hcn n0 n1 n2 n4 n5 hb1 hp hlk
       go_wp2_with (first | (at_builtin;refine wpList_push rfl _ _ 31 rfl Try.underlying31 w1.heap.size P _ rfl HR.out (k:Int) rfl hb hsz ?_;intro g5 c5 w5 hr5 hk5 hg5))
       have hr6:=HR'.out _ _ hr5
       have hw6:=hw.onto HR.out hk5
       go_roundw
       case rel=>first | exact ⟨k+1,by omega,by go_num,hr6,hw6⟩ | ((repeat apply Exists.intro);exact ⟨⟨k+1,by omega,by go_num,hr6,hw6⟩,rfl⟩)
       case measure=>simp [intOf];omega
      ·rw [hp] at n3
       have HR' : Hid (Row w1.heap.size wr u8 (ofN (lvL (k+1) s l))):=by
        show Row _ _ _ _
        rw [hs,if_neg (by rw [hp];simp)];simpa using HR.out
       clear hs hcn n0 n1 n2 n4 n5 HR hb1 hp
       go_wp2
       go_roundw
       case rel=>first | exact ⟨k+1,by omega,by go_num,HR', hw⟩ | ((repeat apply Exists.intro);exact ⟨⟨k+1,by omega,by go_num,HR', hw⟩,rfl⟩)
       case measure=>simp [intOf];omega
    ·have e:n=k:=by omega
     subst e
     have kl:KL l R (lvL n s l):=by rw [HnE.out];exact lvL_kl HMK.out
     have RR:=row_mono HR.out HK1.out.size
     have KK:=HK1.out.trans' hw
     go_wp2
     go_ret2
     exact ⟨_,_,rfl,kl,RR,KK⟩
def eqL (l l' : List Nd):Bool:=decide (l=l')
theorem eqL_self (l:List Nd):eqL l l=true:=by unfold eqL;simp
set_option maxHeartbeats 2000000 in
theorem sameNodes_any {w:World} {ao bo:Option Addr} {ac bc:Nat} {l l' : List Nd} (h:NsW w ao l) (h' : NsW w bo l') (hm:l.length≤maxLen) :
  Calls Try.prog 33 #[.slice ao l.length ac,.slice bo l'.length bc] w fun e w' => e=.returned (.bool (eqL l l'))∧Same0 w w' := by
 unfold maxLen at hm
 by_cases hl:l.length=l'.length
 ·have hl' : (l.length:Int)=(l'.length:Int):=by omega
  have HX:Hid (∀ ww,Same0 w ww→NsW ww ao l):=fun ww hw=>h.same hw
  have HY:Hid (∀ ww,Same0 w ww→NsW ww bo l'):=fun ww hw=>h'.same hw
  have HL:Hid (l.length=l'.length):=hl
  have KR:Same0 w w:=Kept.refl _ _
  clear h h' hl
  go_enter Try.func33,Try.ntmps33
  go_wp2
  go_loopw [5] (fun i wr=>∃ k:Nat,k≤l.length∧i=.int .i64 k∧Hid (∀ j (h1:j<l.length) (h2:j<l'.length),j<k→l[j]=l'[j])∧Same0 w wr) (fun i _=>l.length-(intOf i).toNat)
  case atStart=>exact ⟨0,Nat.zero_le _,rfl,fun j _ _ hj=>absurd hj (Nat.not_lt_zero _),KR⟩
  case round=>
   clear KR
   obtain ⟨k,hk,rfl,hall,hw⟩:=hrel
   by_cases hlt:k<l.length
   ·have hlt' : k<l'.length:=by rw [← HL.out];exact hlt
    have i1:(0:Int)≤(k:Int):=by omega
    have i2:(k:Int)<(l.length:Int):=by omega
    have i3:(k:Int)<(l'.length:Int):=by omega
    rcases HX.out wr.drew (hw.drew) with e | ⟨mb,moff,e,hmb,hm'⟩
    ·rw [e] at hlt;simp at hlt
    subst e
    rcases HY.out wr.drew (hw.drew) with e | ⟨nb,noff,e,hnb,hn⟩
    ·rw [e] at hlt'; simp at hlt'
    subst e
    obtain ⟨xo,xc,m0,m1,m2,m3,m4,m5⟩:=hm' k hlt
    obtain ⟨yo,yc,n0,n1,n2,n3,n4,n5⟩:=hn k hlt'
    have CS:=sameNode_any m5 n5
    have HEY:Hid (eqN l[k] l'[k]=true→l[k]=l'[k]):=fun e=>by unfold eqN at e;simpa using e
    have HEN:Hid (eqN l[k] l'[k]=false→eqL l l' = false):=fun e=>by
     unfold eqN at e
     unfold eqL
     simp at e ⊢
     rintro rfl
     exact e rfl
    clear hm' hn m5 n5
    generalize eqN l[k] l'[k]=R at *
    go_upto_region 6 with fail
    go_region_with (first | (go_at_call 22;refine CS.mono ?_;rintro e w8 ⟨rfl,k8⟩))
    all_goals
     have hw8:Same0 w w8:=Same0.trans' (Kept.drew hw) k8
     clear m0 m1 m2 m3 m4 n0 n1 n2 n3 n4 CS
     cases R
     ·have HF:Hid (eqL l l' = false):=HEN.out rfl
      go_wp2
      go_ret
      exact ⟨ret_bool HF.out.symm,hw8⟩
     ·have HF:Hid (∀ j (h1:j<l.length) (h2:j<l'.length),j<k+1→l[j]=l'[j]):=fun j h1 h2 hj=>by
       by_cases e:j=k
       ·subst e;exact HEY.out rfl
       ·exact hall.out j h1 h2 (by omega)
      go_wp2
      go_roundw
      case rel=>first | exact ⟨k+1,by omega,by go_num,HF,hw8⟩ | ((repeat apply Exists.intro);exact ⟨⟨k+1,by omega,by go_num,HF,hw8⟩,rfl⟩)
      case measure=>simp [intOf];omega
   ·obtain rfl:k=l.length:=by omega
    have HE:Hid (eqL l l' = true):=by
     show _=_
     unfold eqL
     simp
     exact List.ext_getElem HL.out (fun j h1 h2=>hall.out j h1 h2 h1)
    clear hall
    go_wp2
    go_ret
    exact ⟨ret_bool HE.out.symm,hw⟩
 ·have HE:Hid (eqL l l' = false):=by show _=_;unfold eqL;simp;rintro rfl;exact hl rfl
  have hl' : ¬ (l.length:Int)=(l'.length:Int):=by omega
  have KR:Hid (Same0 w w):=Kept.refl _ _
  clear h h' hl
  go_enter Try.func33,Try.ntmps33
  go_wp2
  go_ret
  exact ⟨ret_bool HE.out.symm,KR.out⟩
end Go.Proofs.Ytcbonegkfppdiaa
