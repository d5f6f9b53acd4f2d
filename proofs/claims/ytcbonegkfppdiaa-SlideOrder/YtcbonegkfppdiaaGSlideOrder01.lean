import Derived.Test.YtcbonegkfppdiaaGS07
import Derived.Test.YtcbonegkfppdiaaGS03
namespace Go.Proofs.Ytcbonegkfppdiaa
set_option maxRecDepth 100000
set_option linter.unusedVariables false
open Go.RowKit
attribute [local go_sem ↓] Go.wp_at_zero Go.wp_at_succ
theorem NRow.lt {B:Nat→Prop} {base:Nat} {w:World} {vo:Option Addr} {n c:Nat} {l:List Nd} (h:NRow B base w (.slice vo n c) l):n=l.length:=by
 obtain ⟨ao,cap,e⟩:=h.shape
 simp only [Value.slice.injEq] at e
 exact e.2.1
theorem kl_len {l:List Nd} {R:List Int} {L:List Nat} (h:KL l R L):L.length≤l.length:=by
 have h1:L.Sublist (List.range l.length):=by
  have:L=(List.range l.length).filter (fun a=>decide (a∈L)):=by
   apply rise_uniq h.1 (List.Pairwise.filter _ List.pairwise_lt_range)
   intro a
   simp only [List.mem_filter,List.mem_range,decide_eq_true_eq]
   exact ⟨fun q=>⟨((h.2 a).1 q).1.1,q⟩,fun q=>q.2⟩
  rw [this]
  exact List.filter_sublist
 simpa using h1.length_le
set_option maxHeartbeats 4000000 in
theorem sorder_walk {w:World} {lo ro:Option Addr} {lc rc:Nat} {l:List Nd} {raw:List Int} (hs:NsW w lo l) (hsz:l.length * 56≤140737488351232) (hx:Arg w ro raw rc) (hr:∀ z∈raw,I64 z) :
  Calls Try.prog 9 #[.slice lo l.length lc,.slice ro raw.length rc] w fun e w' => e=.returned (.bool true)∧Below w.heap.size w w' := by
 have C0:=awake12_any w
 have HS:Hid (∀ ww,Same0 w ww→NsW ww lo l):=fun ww hk=>hs.same hk
 have HX:Hid (∀ ww,Same0 w ww→Arg ww ro raw rc):=fun ww hk=>hx.onto hk
 have HZ:Hid (l.length≤maxLen∧∀ z∈raw,I64 z):=⟨by unfold maxLen;omega,hr⟩
 clear hs hsz hx hr
 go_enter Try.func9,Try.ntmps9
 go_upto_region 3 with (first | (go_at_call 25;refine C0.mono ?_;rintro e w1 ⟨rfl,k1⟩;have C1:=made12_any (ac:=lc) (HS.out w1 k1) HZ.out.1) | (go_at_call 26;refine C1.mono ?_;rintro e w2 hmd;rcases hmd with ⟨rfl,k2⟩ | ⟨h,g,r,v,rfl,md⟩))
 ·have K:Hid (Same0 w w2):=k1.trans' k2
  clear C0 C1
  go_wp2
  go_ret
  exact ⟨rfl,K.out.below⟩
 ·have K2:Same0 w w2:=k1.trans' md.same
  have hle:l.length≤4000:=md.hp.le
  have lh:w.heap.size≤h:=Nat.le_trans k1.size md.lh
  have lg:w.heap.size≤g:=Nat.le_trans k1.size md.lg
  have C2:=some12_any (HX.out w2 K2) HZ.out.2 l.length hle
  have HW:Hid (Wf l):=⟨md.hp.may,md.hp.ac⟩
  have p2:=md.hp.any
  have hh:=p2.ltH
  have hg:=p2.ltG
  obtain ⟨n,hn⟩:∃ n,n=l.length:=⟨_,rfl⟩
  have HNE:Hid (n=l.length):=hn
  have i0:(0:Int)≤(n:Int):=by omega
  have i1:(n:Int)≤4000:=by omega
  rw [← hn] at C2 ⊢
  clear C0 C1 md k1 hn
  go_upto_region 6 with (first | (go_at_call 36;refine C2.mono ?_;rintro e w3 ⟨rv,rfl,hrow3,k3⟩))
  have hrg:∀ z∈someL n raw,0≤z∧z<(l.length:Int):=by rw [← HNE.out];exact someL_rng
  have hRl:(someL n raw).length * 8≤140737488351232:=by have:=someL_len n raw;have:=(HX.out w2 K2).size;omega
  obtain ⟨so,sc,e,hArg,hAb⟩:=hrow3.argS hRl
  subst e
  have p3:=p2.same k3
  have C3:=live_yes p3 hArg.1 hrg
  have K3:=K2.trans' k3
  have hR:Hid (∀ z∈someL n raw,0≤z∧z<(l.length:Int)):=hrg
  generalize someL n raw=R at *
  have HA:Hid (∀ ww,Same0 w3 ww→Arg ww so R sc∧Hp ww h g 4000 l):=fun ww hk=>⟨hArg.1.onto hk,p3.same hk⟩
  have HAB:Hid (∀ a,so=some a→a.block≠h∧a.block≠g):=fun a e=>by have:=hAb a e;omega
  clear C2 hrow3 hrg hArg hAb p2 p3
  go_upto_region 7 with (first | (go_at_call 28;refine C3.mono ?_;rintro e w4 ⟨lv,L,rfl,hkl,hrow4,k4⟩))
  have C4:=coll_yes (HA.out w4 k4).2 (HA.out w4 k4).1 hR.out (fun _ a e=>HAB.out a e)
  have hlen:=kl_len hkl
  obtain ⟨vo,vc,e,hVI,hvle,hvb⟩:=hrow4.ints
  rw [ofN_len'] at e
  subst e
  have K4:=K3.trans' k4
  have HV:Hid (IntsAt w4 vo (ofN L)∧(∀ a,vo=some a→w3.heap.size≤a.block)∧KL l R L):=⟨hVI,fun a e=>(hvb a e).1,hkl⟩
  have s3:=k3.size
  clear C3 hrow4 hVI hvle hvb
  go_upto_region 8 with (first | (go_at_call 34;refine C4.mono ?_;rintro e w5 ⟨tv,R', L', l', rfl,hkl', hsl,hrt,hrow5,p5,k5⟩))
  obtain rfl:L' = L:=hkl'.uniq hkl
  have K5:Same0 w w5:=K4.trans k5 (fun i hi e=>by omega)
  have C5:=told12_any p5.any
  obtain ⟨m,hm⟩:∃ m,m=L'.length:=⟨_,rfl⟩
  have hlm:l'.length=m:=by rw [hsl.1,hm]
  have HI5:Hid (IntsAt w5 vo (ofN L')):=HV.out.1.kept k5 (fun a e q=>by have:=HV.out.2.1 a e;omega)
  have HM:Hid (m=L'.length∧l'.length=m):=⟨hm,hlm⟩
  have i2:(m:Int)≤(n:Int):=by have:=HNE.out;omega
  have i3:(0:Int)≤(m:Int):=by omega
  have hie:(l.length:Int)=(n:Int):=by rw [HNE.out]
  rw [← hm,hie] 
  clear C4 hkl' p5 hrow5 hrt hm hlen hie
  go_upto_region 9 with (first | (go_at_call 32;refine C5.mono ?_;rintro e w6 ⟨nv,rfl,hrow6,k6⟩))
  obtain ⟨no,nc,e⟩:=hrow6.shape
  rw [hlm] at e
  subst e
  have hnm:NsW w6 no l' := (NRow.mem (by rw [hlm];exact hrow6)).weak
  have K6:=K5.trans' k6
  have H6:Hid (NsW w6 no l' ∧ IntsAt w6 vo (ofN L')∧NsW w6 lo l∧Same0 w w6∧Sld l L' l' ∧ KL l R L'):=⟨hnm,HI5.out.same k6,HS.out w6 K6,K6,hsl,hkl⟩
  have b1:((m:Int) != (m:Int))=false:=by simp
  clear C5 hrow6 hnm hsl hkl HI5 hlm
  go_upto_region 12 with fail
  go_loopw [16] (fun v16 wr=>∃ k:Nat,k≤m∧v16=.int .i64 (k:Int)∧Hid (Same0 w6 wr)) (fun v16 _=>m-(intOf v16).toNat)
  case atStart=>exact ⟨0,Nat.zero_le _,rfl,Kept.refl _ _⟩
  case round=>
   obtain ⟨k,hk,rfl,HK⟩:=hrel
   by_cases hlt:k<m
   ·have hkL:k<L'.length:=by rw [← HM.out.1];exact hlt
    obtain ⟨vb,vf,e,hvb,cv⟩:=(H6.out.2.1.same HK.out).get (i:=k) (by rw [ofN_len'];exact hkL)
    subst e
    rw [ofN_at] at cv
    have hal:L'[k]<l.length:=((H6.out.2.2.2.2.2.2 _).1 (List.getElem_mem hkL)).1.1
    have hap:l[L'[k]].2.2.2.1=false:=((H6.out.2.2.2.2.2.2 _).1 (List.getElem_mem hkL)).1.2
    obtain ⟨q1,q2,a1,a2,a3⟩:=H6.out.2.2.2.2.1.2 k _ (List.getElem?_eq_getElem hkL)
    rcases H6.out.1.same HK.out with e | ⟨nb,nf,e,hnb,hcn⟩
    ·rw [e] at q2;simp at q2
    subst e
    rcases H6.out.2.2.1.same HK.out with e | ⟨b,f,e,hb,hcl⟩
    ·rw [e] at hal;simp at hal
    subst e
    obtain ⟨xo,xc,n0,n1,n2,n3,n4,n5⟩:=hcn k q2
    obtain ⟨yo,yc,m0,m1,m2,m3,m4,m5⟩:=hcl _ hal
    rw [a1] at n0
    rw [a2.1] at n1
    rw [a3] at n2 n3 n4
    rw [hap] at n3 m3
    have HPrev:Hid (∀ j,j+1=k→∃ a', wr.cell? ⟨vb,vf+j,none⟩=some (.int .i64 a')∧a' < (L'[k]:Int)):=fun j hj=>by
     have hjL:j<L'.length:=by omega
     obtain ⟨vb', vf', e,_,c'⟩:=(H6.out.2.1.same HK.out).get (i:=j) (by rw [ofN_len'];exact hjL)
     cases e
     rw [ofN_at] at c'
     refine ⟨_,c', ?_⟩
     have:=H6.out.2.2.2.2.2.1
     rw [List.pairwise_iff_getElem] at this
     exact Int.ofNat_lt.2 (this j k hjL hkL (by omega))
    have ha1:(0:Int)≤(L'[k]:Int):=by omega
    have ha2:(L'[k]:Int)<(n:Int):=by have:=HNE.out;omega
    have j5:(0:Int)≤(k:Int):=by omega
    have j6:(k:Int)<(m:Int):=by omega
    generalize hX:l[L'[k]]=X at *
    generalize L'[k]=a at *
    obtain ⟨x0,x1,x2,x3,x4⟩:=X
    have d1:decide (n≤a)=false:=by simp;omega
    have d2:decide ((a:Int)<0)=false:=by simp
    have HKA:Hid (∀ q,Same0 w6 ((wr.drewN q).alloc (.cells #[.int .i64 x0,.slice yo x1.length yc,.int .i64 x2,.bool false,.int .i64 x4] 47))):=fun q=>(Kept.drewN HK.out q).alloc _
    have HCN:Hid (∀ ww,Same0 wr ww→ww.cell? ⟨nb,nf+k * 5,none⟩=some (.int .i64 x0)∧ww.cell? ⟨nb,nf+k * 5+1,none⟩=some (.slice xo x1.length xc)∧ww.cell? ⟨nb,nf+k * 5+2,none⟩=some (.int .i64 x2)∧ww.cell? ⟨nb,nf+k * 5+3,none⟩=some (.bool false)):=fun ww hk=>by
     have t:∀ o,ww.cell? ⟨nb,o,none⟩=wr.cell? ⟨nb,o,none⟩:=fun o=>hk.cell (p:=⟨nb,o,none⟩) hnb (fun f=>f)
     exact ⟨(t _).trans n0,(t _).trans n1,(t _).trans n2,(t _).trans n3⟩
    clear hcn hcl hX hap a1 a2 a3 m5 n5 H6 q1 q2
    by_cases h0:k=0
    ·have d3:decide ((0:Int)<(k:Int))=false:=by simp [h0]
     have d4:decide (0<k)=false:=by simp [h0]
     clear h0 HPrev
     go_upto_region 14 with fail
     go_quiet (fail)
     obtain ⟨W15,hW15⟩:∃ W15,W15=wr.drewN nq:=⟨_,rfl⟩
     have K15:Same0 wr W15:=by rw [hW15];exact Kept.drewN (Kept.refl _ _) nq
     rw [← hW15]
     have cv5:=(K15.cell (p:=⟨vb,_,none⟩) hvb (fun f=>f)).trans cv
     have m05:=(K15.cell (p:=⟨b,_,none⟩) hb (fun f=>f)).trans m0
     have m15:=(K15.cell (p:=⟨b,_,none⟩) hb (fun f=>f)).trans m1
     have m25:=(K15.cell (p:=⟨b,_,none⟩) hb (fun f=>f)).trans m2
     have m35:=(K15.cell (p:=⟨b,_,none⟩) hb (fun f=>f)).trans m3
     have m45:=(K15.cell (p:=⟨b,_,none⟩) hb (fun f=>f)).trans m4
     clear hW15 cv m0 m1 m2 m3 m4 n0 n1 n2 n3 n4 HKA
     go_upto_region 17 with fail
     obtain ⟨W17,hW⟩:∃ W17,W17=W15.alloc (.cells #[.int .i64 x0,.slice yo x1.length yc,.int .i64 x2,.bool false,.int .i64 x4] 47):=⟨_,rfl⟩
     rw [← hW]
     have KA:Hid (Same0 w6 W17):=by rw [hW];exact (HK.out.trans' K15).alloc _
     obtain ⟨e0,e1,e2,e3⟩:=HCN.out W17 (by rw [hW];exact K15.alloc _)
     obtain ⟨b0,b1,b2,b3,b4⟩:=box5 (show W17.heap[W15.heap.size]? = some (.cells #[.int .i64 x0,.slice yo x1.length yc,.int .i64 x2,.bool false,.int .i64 x4] 47 (0,0)) by rw [hW];exact heap_alloc_new W15 _)
     have b9:((x1.length:Int) != (x1.length:Int))=false:=by simp
     clear hW
     go_quiet (fail)
     go_wp2
     have KB:Hid (∀ q,Hid (Same0 w6 (W17.drewN q))):=fun q=>Kept.drewN KA.out _
     go_roundw
     case rel=>first | exact ⟨k+1,by omega,by go_num,KB.out _⟩ | ((repeat apply Exists.intro);exact ⟨⟨k+1,by omega,by go_num,KB.out _⟩,rfl⟩)
     case measure=>simp [intOf];omega
    ·obtain ⟨j,rfl⟩:∃ j,k=j+1:=⟨k-1,by omega⟩
     obtain ⟨a', ca', hlt'⟩:=HPrev.out j rfl
     have d5:decide ((a:Int)≤a')=false:=by simp;omega
     have d3:(0:Int)<(j:Int)+1:=by omega
     have j7:(j:Int)<(m:Int):=by omega
     have j8:(0:Int)≤(j:Int):=by omega
     clear h0 HPrev hlt'
     go_upto_region 14 with fail
     go_quiet (fail)
     obtain ⟨W15,hW15⟩:∃ W15,W15=wr.drewN nq:=⟨_,rfl⟩
     have K15:Same0 wr W15:=by rw [hW15];exact Kept.drewN (Kept.refl _ _) nq
     rw [← hW15]
     have cv5:=(K15.cell (p:=⟨vb,_,none⟩) hvb (fun f=>f)).trans cv
     have m05:=(K15.cell (p:=⟨b,_,none⟩) hb (fun f=>f)).trans m0
     have m15:=(K15.cell (p:=⟨b,_,none⟩) hb (fun f=>f)).trans m1
     have m25:=(K15.cell (p:=⟨b,_,none⟩) hb (fun f=>f)).trans m2
     have m35:=(K15.cell (p:=⟨b,_,none⟩) hb (fun f=>f)).trans m3
     have m45:=(K15.cell (p:=⟨b,_,none⟩) hb (fun f=>f)).trans m4
     clear hW15 cv m0 m1 m2 m3 m4 n0 n1 n2 n3 n4 HKA
     go_upto_region 17 with fail
     obtain ⟨W17,hW⟩:∃ W17,W17=W15.alloc (.cells #[.int .i64 x0,.slice yo x1.length yc,.int .i64 x2,.bool false,.int .i64 x4] 47):=⟨_,rfl⟩
     rw [← hW]
     have KA:Hid (Same0 w6 W17):=by rw [hW];exact (HK.out.trans' K15).alloc _
     obtain ⟨e0,e1,e2,e3⟩:=HCN.out W17 (by rw [hW];exact K15.alloc _)
     obtain ⟨b0,b1,b2,b3,b4⟩:=box5 (show W17.heap[W15.heap.size]? = some (.cells #[.int .i64 x0,.slice yo x1.length yc,.int .i64 x2,.bool false,.int .i64 x4] 47 (0,0)) by rw [hW];exact heap_alloc_new W15 _)
     have b9:((x1.length:Int) != (x1.length:Int))=false:=by simp
     clear hW
     go_quiet (fail)
     go_wp2
     have KB:Hid (∀ q,Hid (Same0 w6 (W17.drewN q))):=fun q=>Kept.drewN KA.out _
     go_roundw
     case rel=>first | exact ⟨(j+1)+1,by omega,by go_num,KB.out _⟩ | ((repeat apply Exists.intro);exact ⟨⟨(j+1)+1,by omega,by go_num,KB.out _⟩,rfl⟩)
     case measure=>simp [intOf];omega
   ·have e:m=k:=by omega
    subst e
    have KK:=(H6.out.2.2.2.1.trans' HK.out).below
    clear H6
    go_wp2
    go_ret
    exact ⟨rfl,KK⟩
end Go.Proofs.Ytcbonegkfppdiaa
namespace Go.Proofs.Ytcbonegkfppdiaa
set_option maxRecDepth 100000
set_option linter.unusedVariables false
open Go.RowKit Go.Deep
theorem cells_node:Try.prog.cellsOf 47=5:=by kernel_rfl
theorem bytes_node:Try.prog.bytesOf 47=56:=by kernel_rfl
theorem cells_boolT:Try.prog.cellsOf 4=1:=by kernel_rfl
theorem cells_intsT:Try.prog.cellsOf 31=1:=by kernel_rfl
def NdI (x:Nd):Prop:=I64 x.1∧(∀ z∈x.2.1,I64 z)∧I64 x.2.2.1∧I64 x.2.2.2.2
section
variable {H : Type} {enc : TypeId × Value → H} {w : World} {spare : Nat → Bool} {held : Bool}
theorem weightsAll_mem11 {P:Program} {e:TypeId} {l:List (DataW H)} {d:DataW H} (h:d∈l) {n:Nat} (hn:n∈d.weights P e):n∈DataW.weightsAll P e l:=by
 induction l with
 | nil=>cases h
 | cons x r ih=>
  simp only [DataW.weightsAll,List.mem_append]
  rcases List.mem_cons.1 h with q | q
  ·subst q;exact .inl hn
  ·exact .inr (ih q)
set_option maxRecDepth 100000 in
theorem open_elems11 {t e c fuel:Nat} {ao:Option Addr} {len cap:Nat} {x:DataW H × List MemPlace} (ht:Try.prog.underlying t=some (.slice e)) (hc:Try.prog.cellsOf e=c) (h0:0<c) (h:DataW.trod enc Try.prog w 0 spare held fuel t [.slice ao len cap]=some x) (hw:∀ n∈x.1.weights Try.prog t,n≤reachBytes) :
  (ao=none∧len=0∧cap=0)∨∃ a,ao=some a∧len≤cap∧cap≤maxLen∧len * Try.prog.bytesOf e≤reachBytes∧∀ i,i<len→a=⟨a.block,a.off,none⟩∧a.block<w.heap.size∧∃ cs n y,cs.length=c∧(∀ j,j<c→w.cell? ⟨a.block,a.off+i * c+j,none⟩=cs[j]?)∧DataW.trod enc Try.prog w 0 spare held n e cs=some y∧∀ n∈y.1.weights Try.prog e,n≤reachBytes:=by
 rcases open_slice ht h with ⟨hcs,_⟩ | ⟨a,len', cap', m,n,D,Pl,hcs,_,hl,hm,hmm,rfl,hx⟩
 ·simp at hcs;exact .inl ⟨hcs.1,hcs.2.1,hcs.2.2⟩
 ·simp at hcs
  obtain ⟨rfl,rfl,rfl⟩:=hcs
  have hb:len * Try.prog.bytesOf e≤reachBytes:=by
   have:=hw ((((List.range len).map D).length+((List.range (m-len)).map fun j=>D (len+j)).length) * Try.prog.bytesOf e) (by simp [DataW.weights,ht])
   refine Nat.le_trans (Nat.mul_le_mul_right _ ?_) this
   simp
  refine .inr ⟨a,rfl,hl,hm,hb,fun i hi=>?_⟩
  have hmi:i<m:=by rw [hmm];split <;> omega
  have hm0:0<m:=by omega
  obtain ⟨cs0,g0,_⟩:=hx 0 hm0
  rw [hc] at g0
  obtain ⟨_,gl,gc⟩:=World.cells?_some g0
  have hsp:a.spot=none:=by
   have:=gc 0 h0
   have hv:cs0[0]? = some (cs0[0]'(by omega)):=List.getElem?_eq_getElem (by omega)
   rw [hv] at this
   simp [Addr.add] at this
   exact World.cell?_spot this
  have hlt:a.block<w.heap.size:=World.cells?_block (by simpa [Addr.add] using g0) h0
  have ea:a=⟨a.block,a.off,none⟩:=by cases a;simp_all
  obtain ⟨cs,g1,g2⟩:=hx i hmi
  rw [hc] at g1
  obtain ⟨_,gl1,gc1⟩:=World.cells?_some g1
  refine ⟨ea,hlt,cs,n,_,gl1,fun j hj=>?_,g2,fun k hk=>hw k ?_⟩
  ·rw [← gc1 j hj,add_add]
   congr 1
   unfold Addr.add
   split
   ·rw [ea];simp;omega
   ·simp
  ·simp only [DataW.weights,ht,List.mem_cons,List.mem_append]
   exact .inr (.inl (weightsAll_mem11 (List.mem_map.2 ⟨i,by simpa using hi,rfl⟩) hk))
theorem trod_node {fuel:Nat} {cs:List Value} {x:DataW H × List MemPlace} (hl:cs.length=5) (h:DataW.trod enc Try.prog w 0 spare held fuel 47 cs=some x) (hw:∀ n∈x.1.weights Try.prog 47,n≤reachBytes):∃ (y:Nd) (xo:Option Addr) (xc:Nat),NdI y∧Arg w xo y.2.1 xc∧cs=[.int .i64 y.1,.slice xo y.2.1.length xc,.int .i64 y.2.2.1,.bool y.2.2.2.1,.int .i64 y.2.2.2.2]:=by
 obtain ⟨y0,y1,y2,y3,y4,n', hyd,hl', g0,g1,g2,g3,g4⟩:=trod_struct5 Try.underlying47 h
 match cs,hl with
 | [c0,c1,c2,c3,c4],_=>
  simp only [cells_int,cells_boolT,cells_intsT,List.drop_zero,List.take_succ_cons,List.take_zero,List.drop_succ_cons] at g0 g1 g2 g3 g4
  obtain ⟨z0,e0,_,w0⟩:=DataW.trod_int Try.underlying3 g0
  obtain ⟨z2,e2,_,w2⟩:=DataW.trod_int Try.underlying3 g2
  obtain ⟨z3,e3,_⟩:=DataW.trod_bool Try.underlying4 g3
  obtain ⟨z4,e4,_,w4⟩:=DataW.trod_int Try.underlying3 g4
  have hyw1:∀ n∈y1.1.weights Try.prog 31,n≤reachBytes:=fun n hn=>hw n (by
   rw [hyd]
   simp only [DataW.weights,Try.underlying47]
   simp [DataW.weightsEach,hn])
  obtain ⟨xo,len,xc,e1⟩:=slice_one Try.underlying31 g1
  subst e1
  obtain ⟨xs,hxl,hxa,hxi⟩:=open_ints64 Try.underlying31 g1 hyw1
  subst hxl
  simp only [List.cons.injEq,and_true] at e0 e2 e3 e4
  subst e0 e2 e3 e4
  exact ⟨(z0,xs,z2,z3,z4),xo,xc,⟨i64_wf w0,hxi,i64_wf w2,i64_wf w4⟩,hxa,rfl⟩
theorem open_nodes {fuel:Nat} {ao:Option Addr} {len cap:Nat} {x:DataW H × List MemPlace} (h:DataW.trod enc Try.prog w 0 spare held fuel 32 [.slice ao len cap]=some x) (hw:∀ n∈x.1.weights Try.prog 32,n≤reachBytes) :
  ∃ l:List Nd,l.length=len∧NsW w ao l∧len * 56≤140737488351232∧len≤cap∧(ao=none→len=0∧cap=0)∧∀ y∈l,NdI y:=by
 rcases open_elems11 Try.underlying32 cells_node (by omega) h hw with ⟨rfl,rfl,rfl⟩ | ⟨a,rfl,hl1,hl2,hsz,hall⟩
 ·exact ⟨[],rfl,.inl rfl,by omega,Nat.le_refl _,fun _=>⟨rfl,rfl⟩,by simp⟩
 ·rw [bytes_node] at hsz
  have each:∀ i,i<len→∃ y:Nd,NdI y∧∃ xo xc,w.cell? ⟨a.block,a.off+i * 5,none⟩=some (.int .i64 y.1)∧w.cell? ⟨a.block,a.off+i * 5+1,none⟩=some (.slice xo y.2.1.length xc)∧w.cell? ⟨a.block,a.off+i * 5+2,none⟩=some (.int .i64 y.2.2.1)∧w.cell? ⟨a.block,a.off+i * 5+3,none⟩=some (.bool y.2.2.2.1)∧w.cell? ⟨a.block,a.off+i * 5+4,none⟩=some (.int .i64 y.2.2.2.2)∧Arg w xo y.2.1 xc:=by
   intro i hi
   obtain ⟨_,_,cs,n,y,hl,hcell,hy,hyw⟩:=hall i hi
   obtain ⟨z,xo,xc,h1,h2,rfl⟩:=trod_node hl hy hyw
   exact ⟨z,h1,xo,xc,by simpa using hcell 0 (by omega),by simpa using hcell 1 (by omega),by simpa using hcell 2 (by omega),by simpa using hcell 3 (by omega),by simpa using hcell 4 (by omega),h2⟩
  obtain ⟨f,hf⟩:=Classical.axiomOfChoice (fun i:Fin len=>each i i.2)
  refine ⟨List.ofFn f,by simp,?_,by simpa [reachBytes] using hsz,hl1,(fun e=>by cases e),fun y hy=>?_⟩
  ·by_cases h0:len=0
   ·subst h0;exact .inl (by simp)
   ·obtain ⟨ea,hlt,_⟩:=hall 0 (by omega)
    refine .inr ⟨a.block,a.off,by rw [← ea],hlt,fun i hi=>?_⟩
    have hi' : i<len:=by simpa using hi
    simpa using (hf ⟨i,hi'⟩).2
  ·obtain ⟨i,rfl⟩:=List.mem_ofFn.1 hy
   exact (hf i).1
end
end Go.Proofs.Ytcbonegkfppdiaa
