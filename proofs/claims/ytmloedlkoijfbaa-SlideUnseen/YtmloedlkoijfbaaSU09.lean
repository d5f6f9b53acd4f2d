import Derived.Test.YtmloedlkoijfbaaSU08
import Derived.Test.YtmloedlkoijfbaaSU07
import Derived.Test.YtmloedlkoijfbaaSU04
import Derived.Test.YtmloedlkoijfbaaSU06
namespace Go.Proofs.Ytmloedlkoijfbaa
set_option maxRecDepth 100000
set_option linter.unusedVariables false
open Go.RowKit
attribute [local go_sem ↓] Go.wp_at_zero Go.wp_at_succ
structure Un (l:List Nd) (fr:List Int) (s:List Bool) (T:List Int):Prop where
 len:s.length=l.length
 rng:∀ z∈T,0≤z∧z<(l.length:Int)
 snd:∀ x,Mk s x→∃ f∈fr,Rc l f.toNat x
 sndT:∀ z∈T,∃ f∈fr,Rc l f.toNat z.toNat
 cmp:∀ f∈fr,Mk s f.toNat∨f∈T
 cl:∀ x,Mk s x→∀ j,Ed l x j→Mk s j∨(j:Int)∈T
 cnt:T.length+6 * s.count false≤fr.length+6 * l.length
theorem mk_none (n x:Nat):¬ Mk (List.replicate n false) x:=by
 unfold Mk
 rw [List.getElem?_replicate]
 split <;> simp
theorem Un.start {l:List Nd} {fr:List Int} (h:∀ z∈fr,0≤z∧z<(l.length:Int)):Un l fr (List.replicate l.length false) fr:=
 ⟨by simp,h,fun x hx=>absurd hx (mk_none _ _),fun z hz=>⟨z,hz,Rc.refl _ _⟩,fun f hf=>.inr hf,fun x hx=>absurd hx (mk_none _ _),by simp⟩
theorem Un.skip {l:List Nd} {fr:List Int} {s:List Bool} {T:List Int} {x:Nat} (h:Un l fr s (T ++ [(x:Int)])) (hx:Mk s x):Un l fr s T:=by
 refine ⟨h.len,fun z hz=>h.rng z (by simp [hz]),h.snd,fun z hz=>h.sndT z (by simp [hz]),fun f hf=>?_,fun y hy j e=>?_,?_⟩
 ·rcases h.cmp f hf with q | q
  ·exact .inl q
  ·rcases List.mem_append.1 q with q | q
   ·exact .inr q
   ·simp at q;subst q;exact .inl (by simpa using hx)
 ·rcases h.cl y hy j e with q | q
  ·exact .inl q
  ·rcases List.mem_append.1 q with q | q
   ·exact .inr q
   ·have:j=x:=by simp at q;omega
    subst this;exact .inl hx
 ·have:=h.cnt;simp at this;omega
theorem Un.take {l:List Nd} {fr:List Int} {s:List Bool} {T:List Int} {x:Nat} (h:Un l fr s (T ++ [(x:Int)])) (hx:s[x]? = some false) (hl:x<l.length) (hd:(downL l[x]).length≤6) (hin:InL l):Un l fr (s.set x true) (T++downL l[x]):=by
 have hxs:x<s.length:=(List.getElem?_eq_some_iff.1 hx).1
 obtain ⟨f0,hf0,hr0⟩:=h.sndT (x:Int) (by simp)
 rw [Int.toNat_natCast] at hr0
 have hc:=count_set hx
 refine ⟨by simp [h.len],fun z hz=>?_,fun y hy=>?_,fun z hz=>?_,fun f hf=>?_,fun y hy j e=>?_,?_⟩
 ·rcases List.mem_append.1 hz with q | q
  ·exact h.rng z (by simp [q])
  ·exact hin x hl z q
 ·rcases (Mk.set hxs y).1 hy with q | q
  ·exact h.snd y q
  ·subst q;exact ⟨f0,hf0,hr0⟩
 ·rcases List.mem_append.1 hz with q | q
  ·exact h.sndT z (by simp [q])
  ·have:=hin x hl z q
   exact ⟨f0,hf0,hr0.snoc ⟨hl,by rw [Int.toNat_of_nonneg this.1];exact q⟩⟩
 ·rcases h.cmp f hf with q | q
  ·exact .inl ((Mk.set hxs _).2 (.inl q))
  ·rcases List.mem_append.1 q with q | q
   ·exact .inr (by simp [q])
   ·simp at q;subst q;exact .inl ((Mk.set hxs _).2 (.inr (by simp)))
 ·by_cases ey:y=x
  ·subst ey
   exact .inr (List.mem_append.2 (.inr e.2))
  ·rcases (Mk.set hxs y).1 hy with q | q
   ·rcases h.cl y q j e with t | t
    ·exact .inl ((Mk.set hxs _).2 (.inl t))
    ·rcases List.mem_append.1 t with t | t
     ·exact .inr (by simp [t])
     ·have:j=x:=by simp at t;omega
      exact .inl ((Mk.set hxs _).2 (.inr this))
   ·exact absurd q ey
 ·have:=h.cnt
  simp at this ⊢
  omega
theorem Un.done {l:List Nd} {fr:List Int} {s:List Bool} (h:Un l fr s []) (x:Nat):Mk s x ↔ ∃ f∈fr,Rc l f.toNat x:=by
 refine ⟨h.snd x,?_⟩
 rintro ⟨f,hf,hr⟩
 refine Rc.in (S:=fun j=>Mk s j) (fun i j hi e=>?_) ?_ hr
 ·rcases h.cl i hi j e with q | q
  ·exact q
  ·simp at q
 ·rcases h.cmp f hf with q | q
  ·exact q
  ·simp at q
theorem ints_three (w:World) (z y x:Int):IntsAt (w.alloc (.cells #[.int .i64 z,.int .i64 y,.int .i64 x] 3)) (some ⟨w.heap.size,0,none⟩) [z,y,x]:=
 .inr ⟨w.heap.size,0,rfl,by simp,fun i hi=>by
  have hi' : i<3:=hi
  match i,hi' with
  | 0,_=>exact cellAt (heap_alloc_new w _) 0
  | 1,_=>exact cellAt (heap_alloc_new w _) 1
  | 2,_=>exact cellAt (heap_alloc_new w _) 2⟩
abbrev lentL (xs:List Int):List Int:=xs ++ [-77, -77, -77]
def HdL (base g n c:Nat) (xs:List Int) (w wr:World) (k:Nat):Prop:=(∃ L,Row base wr (.slice (some ⟨g,0,none⟩) (n+3) c) L∧L.length=n+3∧∀ j,k≤j→L[j]? = (lentL xs)[j]?)∧Kept (fun i=>i=g) w wr
theorem HdL.at {base g n c k:Nat} {xs:List Int} {w wr:World} (h:HdL base g n c xs w wr k) {z:Int} (hz:(lentL xs)[k]? = some z):wr.cell? ⟨g,k,none⟩=some (.int .i64 z)∧wr.frozen? ⟨g,k,none⟩=false:=by
 obtain ⟨⟨L,h1,h2,h3⟩,_⟩:=h
 have hL:=h3 k (Nat.le_refl _)
 rw [hz] at hL
 obtain ⟨hk,hv⟩:=List.getElem?_eq_some_iff.1 hL
 obtain ⟨ao,ac,e,hi,_,_⟩:=h1.ints
 simp only [Value.slice.injEq] at e
 obtain ⟨b,off,e1,_,hc⟩:=hi.get hk
 rw [← e.1] at e1
 simp only [Option.some.injEq,Addr.mk.injEq,and_true] at e1
 obtain ⟨rfl,rfl⟩:=e1
 rw [hv] at hc
 refine ⟨by simpa using hc,?_⟩
 unfold Row at h1
 rw [h2] at h1
 exact h1.frozenAt k
theorem HdL.put {base g n c k:Nat} {xs:List Int} {w wr:World} (h:HdL base g n c xs w wr k):HdL base g n c xs w (wr.setCell ⟨g,k,none⟩ (.int .i64 (-78))) (k+1):=by
 obtain ⟨⟨L,h1,h2,h3⟩,h4⟩:=h
 refine ⟨⟨L.set k (-78),?_,by simp [h2],fun j hj=>?_⟩,Kept.setCell (S:=fun i=>i=g) h4 (p:=⟨g,k,none⟩) (fun _=>rfl) _⟩
 ·unfold Row at h1 ⊢
  rw [iv_set]
  rw [h2] at h1
  simpa [h2] using (h1.stored k (.int .i64 (-78))).1
 ·rw [List.getElem?_set_ne (by omega)];exact h3 j (by omega)
theorem HdL.same {base g n c k:Nat} {xs:List Int} {w wr wr' : World} (h:HdL base g n c xs w wr k) (hk:Same0 wr wr'):HdL base g n c xs w wr' k:=by
 obtain ⟨⟨L,h1,h2,h3⟩,h4⟩:=h
 exact ⟨⟨L,hk.row h1 (fun _ _ f=>f),h2,h3⟩,h4.trans hk (fun _ _ f=>f.elim)⟩
set_option maxHeartbeats 1000000 in
theorem pick12_any (c:Int) (hc:I64 c) (n:Int) (hn:1≤n) (hn' : n≤1000000) (w:World):Calls Try.prog 19 #[.int .i64 c,.int .i64 n] w fun e w' => e=.returned (.int .i64 (pickF c n:Int))∧w' = w:=by
 have hz:¬ n=0:=by omega
 have hz' : (n == 0)=false:=by simpa using hz
 by_cases h:c<0
 ·have h1:IntKind.i64.wrap (c+1)=c+1:=hwrap (by omega) (by omega)
  have h2:IntKind.i64.wrap (-(c+1)) = -(c+1):=hwrap (by omega) (by omega)
  have HE:Hid ((pickF c n:Int)=(-(c+1)) % n):=by
   show _=_
   unfold pickF
   rw [if_pos h]
   have:=Int.emod_nonneg (-(c+1)) hz
   omega
  have hp:0 ≤ -(c+1):=by omega
  go_enter Try.func19,Try.ntmps19
  go_wp2
  go_ret
  refine ⟨ret_int ?_,rfl⟩
  rw [HE.out]
  first | rfl | (rw [← Int.neg_tmod,Int.tmod_eq_emod_of_nonneg (by omega)]) | (rw [Int.tmod_eq_emod_of_nonneg (by omega)])
 ·have HE:Hid ((pickF c n:Int)=c % n):=by
   show _=_
   unfold pickF
   rw [if_neg h]
   have:=Int.emod_nonneg c hz
   omega
  have hp:0≤c:=by omega
  go_enter Try.func19,Try.ntmps19
  go_wp2
  go_ret
  refine ⟨ret_int ?_,rfl⟩
  rw [HE.out]
set_option maxHeartbeats 1000000 in
theorem told12_any {w:World} {h g room:Nat} {l:List Nd} (p:Hp w h g room l) :
  Calls Try.prog 24 #[.pointer (some ⟨h,0,none⟩)] w fun e w' => ∃ v,e=.returned (.tuple #[v,.bool true])∧NRow (fun b=>w.heap.size≤b) w.heap.size w' v l∧Same0 w w' := by
 have hle:=p.le
 have hr2:=p.rm2
 have HP:Hid (∀ ww,Same0 w ww→Hp ww h g room l):=fun ww hk=>p.same hk
 have KR:Same0 w w:=Kept.refl _ _
 clear p
 go_enter Try.func24,Try.ntmps24
 go_wp2
 go_loopw [4,5] (fun v i wr=>∃ (k:Nat),i=.int .i64 (k:Int)∧k≤l.length∧NRow (fun b=>w.heap.size≤b) w.heap.size wr v (l.take k)∧Same0 w wr) (fun _ i _=>l.length-(intOf i).toNat)
 case atStart=>exact ⟨0,rfl,Nat.zero_le _,NRow.nil _ _ _,KR⟩
 case round=>
  clear KR
  obtain ⟨k,rfl,hk,hrow,hw⟩:=hrel
  have pr:=HP.out wr hw
  have CU:=used_any pr
  obtain ⟨vo,vc,rfl⟩:=hrow.shape
  have hlk:(l.take k).length=k:=by simp;omega
  rw [hlk] at hrow
  by_cases hlt:k<l.length
  ·have j1:(k:Int)<(l.length:Int):=by omega
   have j2:(k:Int)<4000:=by omega
   have C1:=hat_yes pr k hlt
   have HT:Hid (l.take (k+1)=l.take k ++ [l[k]]):=List.take_succ_eq_append_getElem hlt
   have HLK:Hid ((l.take k).length=k):=hlk
   rw [hlk]
   clear pr hlk
   go_upto_region 8 with (first | (go_at_call 17;refine CU.mono ?_;rintro e w3 ⟨rfl,h3⟩;have h3:=h3.symm;subst h3) | (go_at_call 26;refine C1.mono ?_;rintro e w3 ⟨bo,bc,rfl,ha,hbb,k3⟩))
   obtain ⟨W3,hW3⟩:∃ W3,W3=w3.alloc (.cells #[.int .i64 l[k].1,.slice bo l[k].2.1.length bc,.int .i64 l[k].2.2.1,.bool l[k].2.2.2.1,.int .i64 l[k].2.2.2.2] 47):=⟨_,rfl⟩
   have kk:Same0 w3 W3:=by rw [hW3];exact (Kept.refl _ _).alloc _
   have K3:Same0 wr W3:=k3.trans' kk
   obtain ⟨x0,x1,x2,x3,x4⟩:=box_node' w3 l[k] bo bc (show Same0 _ W3 by rw [hW3];exact Kept.refl _ _)
   have ha3:=ha.same kk
   have hr3:=hrow.same K3
   have hsz:w.heap.size≤W3.heap.size:=(hw.trans' K3).size
   have hbb' : ∀ b,bo=some b→w.heap.size≤b.block:=fun b e=>Nat.le_trans hw.size (hbb b e)
   have kW:=(Kept.refl (fun _=>False) W3).alloc (.cells #[.int .i64 l[k].1,.slice bo l[k].2.1.length bc,.int .i64 l[k].2.2.1,.bool l[k].2.2.2.1,.int .i64 l[k].2.2.2.2] 47)
   have hq:=heap_at_node W3 l[k] bo bc
   have HKK:Hid (∀ ww,Kept (fun i=>(Value.slice vo k vc).ownBlock=some i) W3 ww→Same0 w ww):=fun ww hk=>NRow.onto (hw.trans' K3) hr3 hk
   rw [← hW3]
   clear hW3 C1 CU k3 ha hrow hbb kk
   go_wp2_with (first | (at_builtin;refine wpList_nd rfl _ _ rfl w.heap.size (l.take k) _ rfl kW hr3 l[k] bo bc _ rfl hq ha3 hbb' hsz (by rw [HLK.out];omega) ?_;rw [HLK.out];intro g4 cap4 w4 hr4 hk4 hor))
   have hr5:NRow (fun b=>w.heap.size≤b) w.heap.size w4 (.slice (some ⟨g4,0,none⟩) (k+1) cap4) (l.take (k+1)):=by rw [HT.out];exact hr4
   have hk5:Same0 w w4:=HKK.out w4 hk4
   go_roundw
   case rel=>first | exact ⟨k+1,by go_num,by omega,hr5,hk5⟩ | ((repeat apply Exists.intro);exact ⟨⟨k+1,by go_num,by omega,hr5,hk5⟩,rfl⟩)
   case measure=>simp [intOf];omega
  ·obtain rfl:k=l.length:=by omega
   rw [List.take_length] at *
   clear hlk pr
   go_wp2_with (first | (go_at_call 17;refine CU.mono ?_;rintro e w3 ⟨rfl,h3⟩;have h3:=h3.symm;subst h3))
   go_ret2
   exact ⟨_,rfl,hrow,hw⟩
theorem RhB.mono {B B' : Nat→Prop} {w:World} {r room:Nat} {v:Value} {l:List Nd} (p:RhB B w r room v l) (hB:∀ k,k<w.heap.size→B k→B' k):RhB B' w r room v l:=⟨p.box,p.row.mono hB,p.rm1,p.rm2,p.le,p.may,p.ac⟩
structure MdAt (w w' : World) (h g r:Nat) (v:Value) (l:List Nd):Prop where
 hp:HpB (fun b=>w.heap.size≤b) w' h g 4000 l
 rh:RhB (fun b=>w.heap.size≤b) w' r 4000 v l
 same:Same0 w w'
 lh:w.heap.size≤h
 lg:w.heap.size≤g
 lr:w.heap.size≤r
 lv:∀ k,v.ownBlock=some k→w.heap.size≤k∧k≠g∧k≠h∧k≠r
 nr:r≠h∧r≠g
end Go.Proofs.Ytmloedlkoijfbaa
namespace Go.Proofs.Ytmloedlkoijfbaa
set_option linter.unusedVariables false
def exL:List Nd:=[(1,[],0,false,0),(2,[0],0,false,0),(1,[],0,false,0),(3,[1,2],0,false,0),(0,[],0,true,3),(4,[4],1,false,0)]
def exR:Nat→Nat
 | 0=>0
 | 1=>1
 | 2=>0
 | 3=>2
 | 4=>3
 | _=>4
theorem ex_ac:Ac exL:=by
 refine ⟨exR,fun i j e=>?_⟩
 obtain ⟨h,hm⟩:=e
 have h6:i<6:=h
 have key:∀ i:Nat,(h:i<6)→∀ x∈downL (exL[i]'h),exR x.toNat<exR i:=by
  intro i h
  match i,h with
  | 0,_=>decide +revert
  | 1,_=>decide +revert
  | 2,_=>decide +revert
  | 3,_=>decide +revert
  | 4,_=>decide +revert
  | 5,_=>decide +revert
 have:=key i h6 (j:Int) hm
 simpa using this
theorem ex_may:exL.all (mayB exL.length)=true:=by decide
theorem ex_rfe:RfE 6 exL 0:=.inr (.inr (.inr ⟨by decide,ex_may,ex_ac,rfl⟩))
theorem e54:Ed exL 5 4:=⟨by decide,by decide⟩
theorem e43:Ed exL 4 3:=⟨by decide,by decide⟩
theorem e31:Ed exL 3 1:=⟨by decide,by decide⟩
theorem e32:Ed exL 3 2:=⟨by decide,by decide⟩
theorem e10:Ed exL 1 0:=⟨by decide,by decide⟩
theorem r43:Rc exL 4 3:=(Rc.refl exL 3).step e43
theorem r41:Rc exL 4 1:=r43.snoc e31
theorem r42:Rc exL 4 2:=r43.snoc e32
theorem r40:Rc exL 4 0:=r41.snoc e10
theorem app_ex (a:Nat):AppN exL a ↔ a∈[0,1,2,3,5]:=by
 constructor
 ·rintro ⟨h,q⟩
  have h6:a<6:=h
  match a,h6 with
  | 0,_=>decide
  | 1,_=>decide
  | 2,_=>decide
  | 3,_=>decide
  | 4,_=>exact absurd q (by decide +revert)
  | 5,_=>decide
 ·intro h
  simp only [List.mem_cons,List.not_mem_nil,or_false] at h
  rcases h with rfl | rfl | rfl | rfl | rfl <;> exact ⟨by decide,by decide⟩
theorem clo_ex {i j:Nat} (hi:i∈[0,1,2,3,4]) (e:Ed exL i j):j∈[0,1,2,3,4]:=by
 obtain ⟨h,hm⟩:=e
 simp only [List.mem_cons,List.not_mem_nil,or_false] at hi
 have key:∀ x∈downL (exL[i]'h),x.toNat∈[0,1,2,3,4]:=by
  clear hm
  rcases hi with rfl | rfl | rfl | rfl | rfl <;> decide +revert
 simpa using key (j:Int) hm
theorem kl_ex1:KL exL [4] [0,1,2,3]:=by
 refine ⟨by decide,fun a=>⟨fun h=>?_,fun h=>?_⟩⟩
 ·refine ⟨(app_ex a).2 (by simp at h ⊢;omega),4,by simp,?_⟩
  simp only [List.mem_cons,List.not_mem_nil,or_false] at h
  rcases h with rfl | rfl | rfl | rfl
  ·exact r40
  ·exact r41
  ·exact r42
  ·exact r43
 ·obtain ⟨ha,r,hr,hc⟩:=h
  simp only [List.mem_singleton] at hr
  subst hr
  have h1:=Rc.in (S:=fun a=>a∈[0,1,2,3,4]) (fun i j hi e=>clo_ex hi e) (by decide) hc
  have h2:=(app_ex a).1 ha
  simp at h1 h2 ⊢
  omega
theorem kl_ex2:KL exL [5,2,5] [0,1,2,3,5]:=by
 refine ⟨by decide,fun a=>⟨fun h=>⟨(app_ex a).2 h,5,by simp,?_⟩,fun h=>(app_ex a).1 h.1⟩⟩
 simp only [List.mem_cons,List.not_mem_nil,or_false] at h
 rcases h with rfl | rfl | rfl | rfl | rfl
 ·exact r40.step e54
 ·exact r41.step e54
 ·exact r42.step e54
 ·exact r43.step e54
 ·exact Rc.refl _ _
theorem res_ex5:Res exL 5 5:=Res.self (by decide) (by decide)
theorem res_ex2:Res exL 2 2:=Res.self (by decide) (by decide)
theorem res_ex4:Res exL 4 3:=Res.step (by decide) (by decide) (Res.self (by decide) (by decide))
theorem Mv.val {l:List Nd} {R:List Int} {L:List Nat} (hk:KL l R L) {z y:Int} (h:Mv l L z y) {b i:Nat} (hb:Res l z.toNat b) (hi:L[i]? = some b):y=(i:Int):=by
 obtain ⟨b', i', _,h1,h2,rfl⟩:=h
 have:=Res.uniq h1 hb
 subst this
 rw [rise_ne hk.1 h2 hi]
theorem ex_after {L:List Nat} {l' : List Nd} {R' : List Int} (hk:KL exL [5,2,5] L) (hs:Sld exL L l') (hr:Rts exL L [5,2,5] R'):L=[0,1,2,3,5]∧l'.length=5∧R' = [4,2,4]∧l'[4]? = some (4,[3],1,false,0):=by
 have e:=hk.uniq kl_ex2
 subst e
 have hl:l'.length=5:=hs.1
 refine ⟨rfl,hl,?_,?_⟩
 ·have h1:R'.length=3:=hr.1
  match R', h1 with
  | [a,b,c],_=>
   have q1:=(hr.2 0 5 a rfl rfl).val hk (b:=5) (i:=4) res_ex5 rfl
   have q2:=(hr.2 1 2 b rfl rfl).val hk (b:=2) (i:=2) res_ex2 rfl
   have q3:=(hr.2 2 5 c rfl rfl).val hk (b:=5) (i:=4) res_ex5 rfl
   rw [q1,q2,q3];rfl
 ·obtain ⟨h1,h2,a1,a2,a3⟩:=hs.2 4 5 rfl
  rw [List.getElem?_eq_getElem h2]
  have e1:l'[4].1=4:=a1
  have e3:l'[4].2.2=(1,false,0):=a3
  have a2' : Rts exL [0,1,2,3,5] [4] l'[4].2.1:=a2
  have e2:l'[4].2.1=[3]:=by
   have h3:l'[4].2.1.length=1:=a2'.1
   match hm:l'[4].2.1,h3 with
   | [a],_=>
    rw [hm] at a2'
    have q:=(a2'.2 0 4 a rfl rfl).val hk (b:=3) (i:=3) res_ex4 rfl
    rw [q];rfl
  congr 1
  exact Prod.ext e1 (Prod.ext e2 e3)
end Go.Proofs.Ytmloedlkoijfbaa
namespace Go.Proofs.Ytmloedlkoijfbaa
set_option maxRecDepth 100000
set_option linter.unusedVariables false
open Go.RowKit
attribute [local go_sem ↓] Go.wp_at_zero Go.wp_at_succ
def exC (n:Nat):Array Value:=#[.int .i64 1,.slice none 0 0,.int .i64 0,.bool false,.int .i64 0,.int .i64 2,.slice (some ⟨n,0,none⟩) 1 1,.int .i64 0,.bool false,.int .i64 0,.int .i64 1,.slice none 0 0,.int .i64 0,.bool false,.int .i64 0,.int .i64 3,.slice (some ⟨n+1,0,none⟩) 2 2,.int .i64 0,.bool false,.int .i64 0,.int .i64 0,.slice none 0 0,.int .i64 0,.bool true,.int .i64 3,.int .i64 4,.slice (some ⟨n+1+1,0,none⟩) 1 1,.int .i64 1,.bool false,.int .i64 0]
def exW (w:World):World:=(((w.alloc (.cells #[.int .i64 0] 3)).alloc (.cells #[.int .i64 1,.int .i64 2] 3)).alloc (.cells #[.int .i64 4] 3)).alloc (.cells (exC w.heap.size) 47)
theorem exW_at (w:World):(exW w).heap[w.heap.size+1+1+1]? = some (.cells (exC w.heap.size) 47 (0,0)):=by
 have s3:(((w.alloc (.cells #[.int .i64 0] 3)).alloc (.cells #[.int .i64 1,.int .i64 2] 3)).alloc (.cells #[.int .i64 4] 3)).heap.size=w.heap.size+1+1+1:=by simp
 rw [← s3];exact heap_alloc_new _ _
theorem exW_same (w:World):Same0 w (exW w):=((((Kept.refl _ w).alloc _).alloc _).alloc _).alloc _
theorem exW_ns (w:World):NsW (exW w) (some ⟨w.heap.size+1+1+1,0,none⟩) exL:=by
 have s1:(w.alloc (.cells #[.int .i64 0] 3)).heap.size=w.heap.size+1:=by simp
 have s2:((w.alloc (.cells #[.int .i64 0] 3)).alloc (.cells #[.int .i64 1,.int .i64 2] 3)).heap.size=w.heap.size+1+1:=by simp
 have hn:=exW_at w
 have a1:Arg (exW w) (some ⟨w.heap.size,0,none⟩) [0] 1:=(((arg_one w 0).onto ((Kept.refl _ _).alloc _)).onto ((Kept.refl _ _).alloc _)).onto ((Kept.refl _ _).alloc _)
 have a2:Arg (exW w) (some ⟨w.heap.size+1,0,none⟩) [1,2] 2:=by
  have:=arg_two (w.alloc (.cells #[.int .i64 0] 3)) 1 2
  rw [s1] at this
  exact (this.onto ((Kept.refl _ _).alloc _)).onto ((Kept.refl _ _).alloc _)
 have a3:Arg (exW w) (some ⟨w.heap.size+1+1,0,none⟩) [4] 1:=by
  have:=arg_one ((w.alloc (.cells #[.int .i64 0] 3)).alloc (.cells #[.int .i64 1,.int .i64 2] 3)) 4
  rw [s2] at this
  exact this.onto ((Kept.refl _ _).alloc _)
 have c:=fun o=>cellAt hn o
 refine .inr ⟨w.heap.size+1+1+1,0,rfl,lt_of_at hn,fun j hj=>?_⟩
 have h6:j<6:=hj
 match j,h6 with
 | 0,_=>exact ⟨none,0,c 0,c 1,c 2,c 3,c 4,arg_nil _⟩
 | 1,_=>exact ⟨_,1,c 5,c 6,c 7,c 8,c 9,a1⟩
 | 2,_=>exact ⟨none,0,c 10,c 11,c 12,c 13,c 14,arg_nil _⟩
 | 3,_=>exact ⟨_,2,c 15,c 16,c 17,c 18,c 19,a2⟩
 | 4,_=>exact ⟨none,0,c 20,c 21,c 22,c 23,c 24,arg_nil _⟩
 | 5,_=>exact ⟨_,1,c 25,c 26,c 27,c 28,c 29,a3⟩
theorem exW_nv (w:World) {g:Nat} (hg:g<w.heap.size):NsV (fun b=>b≠g) (exW w) (some ⟨w.heap.size+1+1+1,0,none⟩) exL:=by
 rcases exW_ns w with e | ⟨nb,noff,e,hlt,hc⟩
 ·cases e
 ·simp only [Option.some.injEq,Addr.mk.injEq,and_true] at e
  obtain ⟨rfl,rfl⟩:=e
  refine .inr ⟨_,0,rfl,hlt,by omega,fun j hj=>?_⟩
  obtain ⟨xo,xc,n0,n1,n2,n3,n4,n5⟩:=hc j hj
  refine ⟨xo,xc,n0,n1,n2,n3,n4,n5,fun hne a e=>?_⟩
  have hn:=exW_at w
  have c:=fun o=>cellAt hn o
  have h6:j<6:=hj
  match j,h6 with
  | 0,_=>exact absurd rfl hne
  | 1,_=>have h:=n1.symm.trans (show _=some (Value.slice (some ⟨w.heap.size,0,none⟩) 1 1) from c 6);rw [e] at h;cases h;show w.heap.size≠g;omega
  | 2,_=>exact absurd rfl hne
  | 3,_=>have h:=n1.symm.trans (show _=some (Value.slice (some ⟨w.heap.size+1,0,none⟩) 2 2) from c 16);rw [e] at h;cases h;show w.heap.size+1≠g;omega
  | 4,_=>exact absurd rfl hne
  | 5,_=>have h:=n1.symm.trans (show _=some (Value.slice (some ⟨w.heap.size+1+1,0,none⟩) 1 1) from c 26);rw [e] at h;cases h;show w.heap.size+1+1≠g;omega
set_option maxHeartbeats 4000000 in
theorem awake12_any (w:World):Calls Try.prog 18 #[] w fun e w' => e=.returned (.bool true)∧Same0 w w' := by
 have C1:=hnew_yes 6 w (by omega) (by omega)
 go_enter Try.func18,Try.ntmps18
 go_upto_region 4 with (first | (go_at_call 8;refine C1.mono ?_;rintro e w1 ⟨h,g,rfl,p1,k1,lh,lg⟩))
 have C2:=refill_yes (ac:=6) (p1.same (exW_same w1)) (exW_nv w1 p1.ltG) ex_rfe
 have hsz2:Hid ((exW w1).heap.size ≥ w1.heap.size):=(exW_same w1).size
 have K1:Hid (Same0 w (exW w1)):=k1.trans' (exW_same w1)
 unfold exW exC at C2
 simp only [show exL.length=6 from rfl] at C2
 clear C1 p1 k1
 go_upto_region 5 with (first | (go_at_call 42;refine C2.mono ?_;rintro e w2 ⟨rfl,p2,k2⟩))
 have K2:Same0 w w2:=K1.out.trans k2 (fun i hi e=>by omega)
 have hh:=p2.ltH
 have hg:=p2.ltG
 have k3:Same0 w2 (w2.alloc (.cells #[.int .i64 4] 3)):=(Kept.refl _ _).alloc _
 have C3:=live_yes (p2.same k3) (arg_one w2 4) (by intro r hr;simp only [List.mem_singleton] at hr;subst hr;decide)
 simp only [List.length_singleton] at C3
 have HP:Hid (∀ ww,Same0 w2 ww→HpB (fun b=>(exW w1).heap.size≤b) ww h g 6 exL):=fun ww hk=>p2.same hk
 have H3:Hid (Same0 w2 (w2.alloc (.cells #[.int .i64 4] 3))):=k3
 clear C2 p2 k2 K1 hsz2 k3
 go_upto_region 6 with (first | (go_at_call 48;refine C3.mono ?_;rintro e w3 ⟨v,L,rfl,hkl,hrow,hk3⟩))
 have e:=hkl.uniq kl_ex1
 subst e
 obtain ⟨vo,vc,e,hI,hle, -⟩:=hrow.ints
 subst e
 have K23:=H3.out.trans' hk3
 have K3:=K2.trans' K23
 obtain ⟨lb,lo,e,hlb,cl3⟩:=hI.get (i:=3) (by decide)
 subst e
 have cl3' : w3.cell? ⟨lb,lo+3,none⟩=some (.int .i64 3):=cl3
 have k4:Same0 w3 (w3.alloc (.cells #[.int .i64 5,.int .i64 2,.int .i64 5] 3)):=(Kept.refl _ _).alloc _
 have C4:=coll_yes (HP.out _ (K23.trans' k4)) (ao:=some ⟨w3.heap.size,0,none⟩) (R:=[5,2,5]) (ac:=3) ⟨ints_three w3 5 2 5,Nat.le_refl _,(fun e=>by cases e),by simp⟩ (by intro r hr;simp only [List.mem_cons,List.not_mem_nil,or_false] at hr;rcases hr with rfl | rfl | rfl <;> decide) (fun _ a e=>by cases e;have:=K23.size;exact ⟨by simp only;omega,by simp only;omega⟩)
 simp only [show ([5,2,5]:List Int).length=3 from rfl] at C4
 have hlen4:(ofN [0,1,2,3]).length=4:=rfl
 rw [hlen4] at hle ⊢
 have H4:Hid (Same0 w3 (w3.alloc (.cells #[.int .i64 5,.int .i64 2,.int .i64 5] 3))):=k4
 have HC:Hid (w3.cell? ⟨lb,lo+3,none⟩=some (.int .i64 3)∧w.heap.size≤w2.heap.size∧lb<w3.heap.size):=⟨cl3', K2.size,hlb⟩
 have HB:Hid (w2.heap.size≤lb):=by
  have:=(hrow.lt lb rfl).1
  have s:=H3.out.size
  show _≤_
  omega
 clear C3 hkl hrow hI cl3 cl3' hlen4 k4 hk3
 go_upto_region 7 with (first | (go_at_call 23;refine C4.mono ?_;rintro e w5 ⟨rv,R', L', l', rfl,hkl,hsl,hrt,hrow5,p5,k5⟩))
 obtain ⟨rfl,hl5,rfl,hx4⟩:=ex_after hkl hsl hrt
 obtain ⟨h45,hx5⟩:=List.getElem?_eq_some_iff.1 hx4
 have C5:=hat_yes p5 4 h45
 rw [hx5] at C5
 have CU:∀ ww,Same0 w5 ww→Calls Try.prog 17 #[.pointer (some ⟨h,0,none⟩)] ww fun e w' => e=.returned (.int .i64 5)∧w' = ww:=fun ww hk=>by
  have:=used_any (p5.same hk)
  rw [hl5] at this
  exact this
 have HU:=(show Hid _ from CU)
 obtain ⟨ro,rc,e,hRI,hrle,hrb⟩:=hrow5.ints
 subst e
 obtain ⟨rb,roff,e,hrb1,q0⟩:=hRI.get (i:=0) (by decide)
 subst e
 have q1:w5.cell? ⟨rb,roff+1,none⟩=some (.int .i64 2):=by
  obtain ⟨b,o,e,_,h⟩:=hRI.get (i:=1) (by decide)
  cases e;exact h
 have q2:w5.cell? ⟨rb,roff+2,none⟩=some (.int .i64 4):=by
  obtain ⟨b,o,e,_,h⟩:=hRI.get (i:=2) (by decide)
  cases e;exact h
 have q0' : w5.cell? ⟨rb,roff,none⟩=some (.int .i64 4):=q0
 have hlb2:=HB.out
 have q3:w5.cell? ⟨lb,lo+3,none⟩=some (.int .i64 3):=(k5.cell (p:=⟨lb,lo+3,none⟩) (by have:=H4.out.size;simp only;omega) (by simp only;omega)).trans ((H4.out.cell (p:=⟨lb,lo+3,none⟩) hlb (fun f=>f)).trans HC.out.1)
 have hlb5:lb<w5.heap.size:=by have:=H4.out.size;have:=k5.size;omega
 have K5:Same0 w w5:=(K3.trans' H4.out).trans k5 (fun i hi e=>by omega)
 have HQ:Hid (∀ ww,Same0 w5 ww→ww.cell? ⟨rb,roff,none⟩=some (.int .i64 4)∧ww.cell? ⟨rb,roff+1,none⟩=some (.int .i64 2)∧ww.cell? ⟨rb,roff+2,none⟩=some (.int .i64 4)∧ww.cell? ⟨lb,lo+3,none⟩=some (.int .i64 3)∧Same0 w ww):=fun ww hk=>
  ⟨(hk.cell (p:=⟨rb,roff,none⟩) hrb1 (fun f=>f)).trans q0', (hk.cell (p:=⟨rb,roff+1,none⟩) hrb1 (fun f=>f)).trans q1,(hk.cell (p:=⟨rb,roff+2,none⟩) hrb1 (fun f=>f)).trans q2,(hk.cell (p:=⟨lb,lo+3,none⟩) hlb5 (fun f=>f)).trans q3,K5.trans' hk⟩
 simp only [show ([4,2,4]:List Int).length=3 from rfl] at hrle ⊢
 simp only [show exL.length=6 from rfl,show ([0,1,2,3,5]:List Nat).length=5 from rfl]
 clear hkl hsl hrt hrow5 p5 k5 hx4 hx5 h45 hl5 hRI q0 q0' q1 q2 q3 CU C4 HP H3 H4 HC HB hrb
 go_wp2_with (first
  | (go_at_call 26;refine C5.mono ?_;rintro e w6 ⟨bo,bc,rfl,hA,hAb,hk6⟩;obtain ⟨xb,xo,e,hxb,cx⟩:=hA.1.at'.get (i:=0) (by decide);subst e;have kA:Same0 w5 (w6.alloc (.cells #[.int .i64 4,.slice (some ⟨xb,xo,none⟩) 1 bc,.int .i64 1,.bool false,.int .i64 0] 47)):=hk6.alloc _;obtain ⟨t0,t1,t2,t3,t4⟩:=HQ.out _ kA;obtain ⟨d0,d1,d2,d3,d4⟩:=box5 (heap_alloc_new w6 (.cells #[.int .i64 4,.slice (some ⟨xb,xo,none⟩) 1 bc,.int .i64 1,.bool false,.int .i64 0] 47));have cx7:(w6.alloc (.cells #[.int .i64 4,.slice (some ⟨xb,xo,none⟩) 1 bc,.int .i64 1,.bool false,.int .i64 0] 47)).cell? ⟨xb,xo,none⟩=some (.int .i64 3):=(((Kept.refl (fun _=>False) w6).alloc _).cell (p:=⟨xb,xo,none⟩) hxb (fun f=>f)).trans cx;have CU:=HU.out _ kA;clear hA hAb hk6 cx kA C5)
  | (go_at_call 17;refine CU.mono ?_;rintro e w7 ⟨rfl,hw7⟩;have hw7:=hw7.symm;subst hw7))
 go_ret
 exact ⟨rfl,t4⟩
end Go.Proofs.Ytmloedlkoijfbaa
namespace Go.Proofs.Ytmloedlkoijfbaa
set_option linter.unusedVariables false
theorem Mv.val' {l:List Nd} {R:List Int} {L:List Nat} (hk:KL l R L) {z y:Int} (h:Mv l L z y) {b i:Nat} (hb:Res l z.toNat b) (hi:L[i]? = some b):y=(i:Int):=by
 obtain ⟨b', i', _,h1,h2,rfl⟩:=h
 have:=Res.uniq h1 hb
 subst this
 rw [rise_ne hk.1 h2 hi]
theorem Rts.at {l:List Nd} {L:List Nat} {R R' : List Int} (h:Rts l L R R') {z:Int} (hz:z∈R):∃ y∈R', Mv l L z y:=by
 obtain ⟨j,hj,rfl⟩:=List.mem_iff_getElem.1 hz
 have hj2:j<R'.length:=by rw [h.1];exact hj
 exact ⟨R'[j],List.getElem_mem hj2,h.2 j _ _ (List.getElem?_eq_getElem hj) (List.getElem?_eq_getElem hj2)⟩
theorem KL.get {l:List Nd} {R:List Int} {L:List Nat} (h:KL l R L) {b:Nat} (hb:Kpt l R b):∃ i:Nat,L[i]? = some b:=by
 obtain ⟨i,hi,e⟩:=List.mem_iff_getElem.1 ((h.2 b).2 hb)
 exact ⟨i,by rw [List.getElem?_eq_getElem hi,e]⟩
def ResL (l:List Nd) (R S:List Int):Prop:=S.length=R.length∧∀ (j:Nat) (z y:Int),R[j]? = some z→S[j]? = some y→∃ b:Nat,y=(b:Int)∧Res l z.toNat b
theorem ResL.nil (l:List Nd):ResL l [] []:=⟨rfl,fun j z y h=>by simp at h⟩
theorem ResL.snoc {l:List Nd} {R S:List Int} (h:ResL l R S) {z:Int} {b:Nat} (hb:Res l z.toNat b):ResL l (R ++ [z]) (S ++ [(b:Int)]):=by
 refine ⟨by simp [h.1],fun j x y hx hy=>?_⟩
 have hl:=h.1
 by_cases e:j<R.length
 ·rw [List.getElem?_append_left e] at hx
  rw [List.getElem?_append_left (by omega)] at hy
  exact h.2 j x y hx hy
 ·have hj:j=R.length:=by have:=(List.getElem?_eq_some_iff.1 hx).1;simp at this;omega
  subst hj
  rw [List.getElem?_append_right (Nat.le_refl _),Nat.sub_self] at hx
  rw [List.getElem?_append_right (by omega),hl,Nat.sub_self] at hy
  simp at hx hy
  subst hx hy
  exact ⟨b,rfl,hb⟩
theorem ResL.each {l:List Nd} {R S:List Int} (h:ResL l R S) {y:Int} (hy:y∈S):∃ z∈R,∃ b:Nat,y=(b:Int)∧Res l z.toNat b:=by
 obtain ⟨j,hj,rfl⟩:=List.mem_iff_getElem.1 hy
 have hj2:j<R.length:=by rw [← h.1];exact hj
 exact ⟨R[j],List.getElem_mem hj2,h.2 j _ _ (List.getElem?_eq_getElem hj2) (List.getElem?_eq_getElem hj)⟩
theorem ResL.at {l:List Nd} {R S:List Int} (h:ResL l R S) {z:Int} (hz:z∈R):∃ y∈S,∃ b:Nat,y=(b:Int)∧Res l z.toNat b:=by
 obtain ⟨j,hj,rfl⟩:=List.mem_iff_getElem.1 hz
 have hj2:j<S.length:=by rw [h.1];exact hj
 exact ⟨S[j],List.getElem_mem hj2,h.2 j _ _ (List.getElem?_eq_getElem hj) (List.getElem?_eq_getElem hj2)⟩
end Go.Proofs.Ytmloedlkoijfbaa
namespace Go.Proofs.Ytmloedlkoijfbaa
set_option maxRecDepth 100000
set_option linter.unusedVariables false
open Go.RowKit
structure Bis (l m:List Nd) (Q:Nat→Nat→Prop):Prop where
 app:∀ c d,Q c d→AppN l c∧AppN m d
 sym:∀ c d (hc:c<l.length) (hd:d<m.length),Q c d→l[c].1=m[d].1∧l[c].2.1.length=m[d].2.1.length
 arg:∀ c d (hc:c<l.length) (hd:d<m.length),Q c d→∀ (k:Nat) (z y:Int),l[c].2.1[k]? = some z→m[d].2.1[k]? = some y→∀ c' d', Res l z.toNat c' → Res m y.toNat d' → Q c' d'
def prV (P:List (Nat × Nat)):List Value:=P.flatMap (fun p=>[.int .i64 (p.1:Int),.int .i64 (p.2:Int)])
theorem prV_snoc (P:List (Nat × Nat)) (p:Nat × Nat):prV (P ++ [p])=prV P ++ [.int .i64 (p.1:Int),.int .i64 (p.2:Int)]:=by simp [prV]
theorem prV_at:∀ {P:List (Nat × Nat)} {i:Nat} (h:i<P.length),(prV P)[i * 2]? = some (.int .i64 (P[i].1:Int))∧(prV P)[i * 2+1]? = some (.int .i64 (P[i].2:Int))
 | p :: P,0,h=>⟨rfl,rfl⟩
 | p :: P,i+1,h=>by
  have h' : i<P.length:=by simp at h;omega
  have:=prV_at h'
  have e:∀ j,(prV (p :: P))[j+2]? = (prV P)[j]? := fun j=>by simp [prV]
  refine ⟨?_,?_⟩
  ·rw [show (i+1) * 2=i * 2+2 by omega,e];simpa using this.1
  ·rw [show (i+1) * 2+1=(i * 2+1)+2 by omega,e];simpa using this.2
theorem info_pair:(Try.prog.info? 90).map (fun i=>(i.zero,i.size,i.bytes))=some (some (.agg #[.int .i64 0,.int .i64 0]),2,16):=by kernel_rfl
theorem info_bools:(Try.prog.info? 92).map (fun i=>(i.zero,i.size,i.bytes))=some (some (.slice none 0 0),1,24):=by kernel_rfl
def PRow (base:Nat) (w:World) (v:Value) (P:List (Nat × Nat)):Prop:=w.ownsRow base 90 2 v P.length (prV P)
theorem PRow.nil (base:Nat) (w:World):PRow base w (.slice none 0 0) []:=World.ownsRow_nil _ _ _ _
theorem PRow.at {base:Nat} {w:World} {vo:Option Addr} {n c:Nat} {P:List (Nat × Nat)} (h:PRow base w (.slice vo n c) P) {i:Nat} (hi:i<P.length):∃ g,vo=some ⟨g,0,none⟩∧n=P.length∧g<w.heap.size∧w.cell? ⟨g,i * 2,none⟩=some (.int .i64 (P[i].1:Int))∧w.cell? ⟨g,i * 2+1,none⟩=some (.int .i64 (P[i].2:Int)):=by
 unfold PRow at h
 rcases h.2 with ⟨_,h0⟩ | ⟨g,cap,cur,e,hb,hg,hle,hm,hsz,ht⟩
 ·omega
 ·simp only [Value.slice.injEq] at e
  obtain ⟨rfl,e2,rfl⟩:=e
  refine ⟨g,rfl,e2,lt_of_at hg,?_,?_⟩
  ·have h1:=(prV_at hi).1
   rw [← ht,List.getElem?_take,if_pos (by omega)] at h1
   rw [cellAt hg,← h1];simp
  ·have h1:=(prV_at hi).2
   rw [← ht,List.getElem?_take,if_pos (by omega)] at h1
   rw [cellAt hg,← h1];simp
def NotB (w:World) (k:Nat):Prop:=(∀ cur,w.heap[k]? ≠ some (.cells cur 4 (0,0)))∧∀ cur,w.heap[k]? ≠ some (.cells cur 92 (0,0))
theorem PRow.block {base:Nat} {w:World} {v:Value} {P:List (Nat × Nat)} (h:PRow base w v P) {k:Nat} (e:v.ownBlock=some k):base≤k∧k<w.heap.size∧NotB w k:=by
 unfold PRow at h
 rcases h.2 with ⟨q,_⟩ | ⟨g,cap,cur,q,hb,hg,_⟩
 ·rw [q] at e;cases e
 ·rw [q] at e
  simp only [Value.ownBlock,Option.some.injEq] at e
  subst e
  exact ⟨hb,lt_of_at hg,fun c hc=>(by rw [hg] at hc;cases hc),fun c hc=>(by rw [hg] at hc;cases hc)⟩
theorem PRow.keptB {base:Nat} {w w' : World} {v:Value} {P:List (Nat × Nat)} {S:Nat→Prop} (h:PRow base w v P) (hk:Kept S w w') (hS:∀ k,S k→¬ NotB w k):PRow base w' v P:=hk.row h (fun k e q=>hS k q (h.block e).2.2)
theorem PRow.same {base:Nat} {w w' : World} {v:Value} {P:List (Nat × Nat)} (h:PRow base w v P) (hk:Same0 w w'):PRow base w' v P:=hk.row h (fun _ _ f=>f)
theorem wpList_pr {w0 W:World} {ops:Array Oper} {rest:List Oper} {o:Oper} {a:Act} {Q:Exit→Act→World→Prop} (hgd:o.guard=none) (s x:Operand)
  (ho:o.op=.call { callee:=.builtin .append,args:=#[s,x],argTypes:=#[89,89] })
  (base:Nat) (P:List (Nat × Nat)) (v:Value) (hs:a.eval s=v) (hW:Same0 w0 W) (hr:PRow base w0 v P) (p:Nat × Nat) (q:Nat) (hx:a.eval x=.slice (some ⟨q,0,none⟩) 1 1) (hq:W.heap[q]? = some (.cells #[.int .i64 (p.1:Int),.int .i64 (p.2:Int)] 90 (0,0))) (hb:base≤w0.heap.size) (hsz:(P.length+1) * 16≤140737488355328)
  (h:∀ g cap w', PRow base w' (.slice (some ⟨g,0,none⟩) (P.length+1) cap) (P ++ [p])→Kept (fun k=>v.ownBlock=some k) w0 w' → wpList Try.prog ops Q rest (a.put o.dst (.slice (some ⟨g,0,none⟩) (P.length+1) cap)) w') :
  wpList Try.prog ops Q (o :: rest) a W:=by
 obtain ⟨i,hi,hz0,hz1,hz2⟩:=info_parts info_pair
 refine wpList_append_lies _ hgd s x 89 ho base 90 i _ 2 16 Try.underlying89 hi hz0 hz1 hz2 rfl (by decide) v P.length (prV P) hs (hW.row hr (fun _ _ f=>f)) ⟨q,0,none⟩ 1 1 [.int .i64 (p.1:Int),.int .i64 (p.2:Int)] hx rfl (World.news_of_block (cs:=#[.int .i64 (p.1:Int),.int .i64 (p.2:Int)]) (t:=90) (fr:=(0,0)) hq) (by simp [Value.oneCell']) (by omega) (by unfold maxLen;omega) (by omega) (Nat.le_trans hb hW.size) W.heap.size rfl ?_
 intro g cap w' hown hgrow hat hlt
 refine h g cap w' ?_ (Kept.grown (Kept.mono hW (fun _ _ f=>f.elim)) hgrow (fun _ e _=>e))
 unfold PRow
 rw [prV_snoc,List.length_append]
 exact hown
structure Dn (base:Nat) (w:World) (db nl nm:Nat) (D:List (Option (List Bool))):Prop where
 ex:∃ (vs:List Value) (f:Nat→Nat),w.heap[db]? = some (.cells vs.toArray 92 (0,0))∧vs.length=nl∧(∀ c:Nat,D[c]? = some none→vs[c]? = some (Value.slice none 0 0))∧(∀ (c:Nat) (s:List Bool),D[c]? = some (some s)→vs[c]? = some (Value.slice (some ⟨f c,0,none⟩) nm nm)∧w.heap[f c]? = some (.cells (bv s).toArray 4 (0,0))∧s.length=nm∧base≤f c)∧∀ (c c' : Nat) (s s' : List Bool),D[c]? = some (some s)→D[c']? = some (some s')→f c=f c' → c=c'
 len:D.length=nl
 lo:base≤db
theorem Dn.kept {base:Nat} {w w' : World} {db nl nm:Nat} {D:List (Option (List Bool))} {S:Nat→Prop} (h:Dn base w db nl nm D) (hk:Kept S w w') (hS:∀ k,S k→NotB w k):Dn base w' db nl nm D:=by
 obtain ⟨vs,f,h1,h2,h3,h4,h5⟩:=h.ex
 refine ⟨⟨vs,f,hk.at h1 (fun q=>(hS _ q).2 _ h1),h2,h3,fun c s hc=>?_,h5⟩,h.len,h.lo⟩
 obtain ⟨a,b,c', d⟩:=h4 c s hc
 exact ⟨a,hk.at b (fun q=>(hS _ q).1 _ b),c', d⟩
theorem Dn.same {base:Nat} {w w' : World} {db nl nm:Nat} {D:List (Option (List Bool))} (h:Dn base w db nl nm D) (hk:Same0 w w'):Dn base w' db nl nm D:=h.kept hk (fun _ f=>f.elim)
theorem Dn.bare {base:Nat} {w:World} {db nl nm:Nat} {D:List (Option (List Bool))} (h:Dn base w db nl nm D) {c:Nat} (hc:D[c]? = some none):w.cell? ⟨db,c,none⟩=some (.slice none 0 0)∧w.frozen? ⟨db,c,none⟩=false∧db<w.heap.size:=by
 obtain ⟨vs,f,h1,h2,h3,h4,h5⟩:=h.ex
 refine ⟨?_,frozenAt h1 _,lt_of_at h1⟩
 rw [cellAt h1]
 simpa using h3 c hc
theorem Dn.has {base:Nat} {w:World} {db nl nm:Nat} {D:List (Option (List Bool))} (h:Dn base w db nl nm D) {c:Nat} {s:List Bool} (hc:D[c]? = some (some s)) {d:Nat} (hd:d<nm):∃ b,w.cell? ⟨db,c,none⟩=some (.slice (some ⟨b,0,none⟩) nm nm)∧w.frozen? ⟨db,c,none⟩=false∧s.length=nm∧w.cell? ⟨b,d,none⟩=some (.bool (s.getD d false))∧w.frozen? ⟨b,d,none⟩=false∧base≤b∧¬ NotB w b ∧
  Dn base (w.setCell ⟨b,d,none⟩ (.bool true)) db nl nm (D.set c (some (s.set d true))):=by
 obtain ⟨vs,f,h1,h2,h3,h4,h5⟩:=h.ex
 obtain ⟨a1,a2,a3,a4⟩:=h4 c s hc
 have hcl:c<D.length:=(List.getElem?_eq_some_iff.1 hc).1
 have K:Kept (fun k=>k=f c) w (w.setCell ⟨f c,d,none⟩ (.bool true)):=Kept.setCell (S:=fun k=>k=f c) (Kept.refl _ _) (p:=⟨f c,d,none⟩) (fun _=>rfl) _
 have hne:¬ db=f c:=fun e=>by rw [e,a2] at h1;cases h1
 refine ⟨f c,?_,frozenAt h1 _,a3,?_,frozenAt a2 _,a4,fun q=>q.1 _ a2,⟨vs,f,K.at h1 hne,h2,fun c' hc' => ?_,fun c' s' hc' => ?_,fun c1 c2 s1 s2 q1 q2 e=>?_⟩,by simp [h.len],h.lo⟩
 ·rw [cellAt h1];simpa using a1
 ·rw [cellAt a2]
  simp [bv,a3,hd,List.getD_eq_getElem?_getD]
 ·have:c' ≠ c:=fun e=>by subst e;rw [List.getElem?_set_self hcl] at hc'; cases hc'
  rw [List.getElem?_set_ne (Ne.symm this)] at hc'
  exact h3 c' hc'
 ·by_cases e:c' = c
  ·subst e
   rw [List.getElem?_set_self hcl] at hc'
   simp only [Option.some.injEq] at hc'
   subst hc'
   refine ⟨a1,?_,by simp [a3],a4⟩
   rw [setAt a2,bv_set]
   simp
  ·rw [List.getElem?_set_ne (Ne.symm e)] at hc'
   obtain ⟨b1,b2,b3,b4⟩:=h4 c' s' hc'
   exact ⟨b1,K.at b2 (fun q=>e (h5 c' c s' s hc' hc q)),b3,b4⟩
 ·have t:∀ x sx,(D.set c (some (s.set d true)))[x]? = some (some sx)→∃ sy,D[x]? = some (some sy):=fun x sx q=>by
   by_cases e:x=c
   ·subst e;exact ⟨s,hc⟩
   ·rw [List.getElem?_set_ne (Ne.symm e)] at q;exact ⟨sx,q⟩
  obtain ⟨y1,z1⟩:=t c1 s1 q1
  obtain ⟨y2,z2⟩:=t c2 s2 q2
  exact h5 c1 c2 y1 y2 z1 z2 e
theorem Dn.fresh {base:Nat} {w w1:World} {db nl nm nb:Nat} {D:List (Option (List Bool))} (h:Dn base w db nl nm D) {c:Nat} (hc:D[c]? = some Option.none) (k1:Same0 w w1) (hlo:w.heap.size≤nb) (hb:base≤nb) (hn:w1.heap[nb]? = some (.cells (bv (List.replicate nm false)).toArray 4 (0,0))) :
  Dn base (w1.setCell ⟨db,c,Option.none⟩ (.slice (Option.some ⟨nb,0,Option.none⟩) nm nm)) db nl nm (D.set c (Option.some (List.replicate nm false))):=by
 obtain ⟨vs,f,h1,h2,h3,h4,h5⟩:=h.ex
 have hcl:c<D.length:=(List.getElem?_eq_some_iff.1 hc).1
 have hcv:c<vs.length:=by rw [h2,← h.len];exact hcl
 have K:Kept (fun k=>k=db) w1 (w1.setCell ⟨db,c,Option.none⟩ (.slice (Option.some ⟨nb,0,Option.none⟩) nm nm)):=Kept.setCell (S:=fun k=>k=db) (Kept.refl _ _) (p:=⟨db,c,Option.none⟩) (fun _=>rfl) _
 have hne:¬ nb=db:=fun e=>by have:=lt_of_at h1;omega
 have old:∀ c' s', c' ≠ c→(D.set c (Option.some (List.replicate nm false)))[c']? = Option.some (Option.some s')→D[c']? = Option.some (Option.some s'):=fun c' s' e q=>by rw [List.getElem?_set_ne (Ne.symm e)] at q;exact q
 have oldlt:∀ c' s', D[c']? = Option.some (Option.some s')→f c' < w.heap.size:=fun c' s' q=>lt_of_at (h4 c' s' q).2.1
 refine ⟨⟨vs.set c (.slice (Option.some ⟨nb,0,Option.none⟩) nm nm),fun x=>if x=c then nb else f x,?_,by simp [h2],fun c' hc' => ?_,fun c' s' hc' => ?_,fun c1 c2 s1 s2 q1 q2 e=>?_⟩,by simp [h.len],h.lo⟩
 ·rw [setAt (k1.at0 h1)]
  simp
 ·have e:c' ≠ c:=fun e=>by subst e;rw [List.getElem?_set_self hcl] at hc'; cases hc'
  rw [List.getElem?_set_ne (Ne.symm e)] at hc' ⊢
  exact h3 c' hc'
 ·by_cases e:c' = c
  ·subst e
   rw [List.getElem?_set_self hcl] at hc'
   simp only [Option.some.injEq] at hc'
   subst hc'
   simp only [if_true]
   exact ⟨List.getElem?_set_self hcv,K.at hn hne,by simp,hb⟩
  ·have hc2:=old c' s' e hc'
   obtain ⟨b1,b2,b3,b4⟩:=h4 c' s' hc2
   simp only [if_neg e]
   refine ⟨by rw [List.getElem?_set_ne (Ne.symm e)];exact b1,K.at (k1.at0 b2) (fun q=>?_),b3,b4⟩
   rw [q,h1] at b2;cases b2
 ·by_cases e1:c1=c <;> by_cases e2:c2=c
  ·rw [e1,e2]
  ·simp only [if_pos e1,if_neg e2] at e
   have:=oldlt c2 s2 (old c2 s2 e2 q2);omega
  ·simp only [if_neg e1,if_pos e2] at e
   have:=oldlt c1 s1 (old c1 s1 e1 q1);omega
  ·simp only [if_neg e1,if_neg e2] at e
   exact h5 c1 c2 s1 s2 (old c1 s1 e1 q1) (old c2 s2 e2 q2) e
def unD (nm:Nat) (D:List (Option (List Bool))):Nat:=(D.map (fun o=>match o with | Option.none=>nm | Option.some s=>s.count false)).sum
theorem sum_set {l:List Nat} {c x:Nat} (h:c<l.length):(l.set c x).sum+l[c]=l.sum+x:=by
 induction l generalizing c with
 | nil=>simp at h
 | cons a l ih=>
  cases c with
  | zero=>simp;omega
  | succ c=>
   have h' : c<l.length:=by simp at h;omega
   have:=ih h'
   simp only [List.set_cons_succ,List.sum_cons,List.getElem_cons_succ]
   omega
theorem unD_fresh {nm:Nat} {D:List (Option (List Bool))} {c:Nat} (hc:D[c]? = some Option.none):unD nm (D.set c (Option.some (List.replicate nm false)))=unD nm D:=by
 obtain ⟨hcl,e⟩:=List.getElem?_eq_some_iff.1 hc
 unfold unD
 rw [List.map_set]
 have:=sum_set (l:=D.map (fun o=>match o with | Option.none=>nm | Option.some s=>s.count false)) (c:=c) (x:=(List.replicate nm false).count false) (by simpa using hcl)
 simp only [List.getElem_map,e,List.count_replicate_self] at this ⊢
 omega
theorem unD_mark {nm:Nat} {D:List (Option (List Bool))} {c d:Nat} {s:List Bool} (hc:D[c]? = some (some s)) (hd:s[d]? = some false):unD nm (D.set c (Option.some (s.set d true)))+1=unD nm D:=by
 obtain ⟨hcl,e⟩:=List.getElem?_eq_some_iff.1 hc
 obtain ⟨hdl,e2⟩:=List.getElem?_eq_some_iff.1 hd
 unfold unD
 rw [List.map_set]
 have:=sum_set (l:=D.map (fun o=>match o with | Option.none=>nm | Option.some s=>s.count false)) (c:=c) (x:=(s.set d true).count false) (by simpa using hcl)
 have hcs:(s.set d true).count false+1=s.count false:=by
  rw [List.count_set hdl]
  have:0<s.count false:=List.count_pos_iff.2 (e2 ▸ List.getElem_mem hdl)
  simp [e2]
  omega
 simp only [List.getElem_map,e] at this ⊢
 omega
theorem unD_start (nl nm:Nat):unD nm (List.replicate nl Option.none)=nl * nm:=by
 simp [unD]
end Go.Proofs.Ytmloedlkoijfbaa
