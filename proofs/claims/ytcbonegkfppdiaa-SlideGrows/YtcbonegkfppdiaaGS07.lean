import Derived.Test.YtcbonegkfppdiaaGS06
namespace Go.Proofs.Ytcbonegkfppdiaa
set_option maxRecDepth 100000
set_option linter.unusedVariables false
open Go.RowKit
attribute [local go_sem ↓] Go.wp_at_zero Go.wp_at_succ
theorem rfe_ex (room:Nat) (l:List Nd):∃ E,RfE room l E:=by
 by_cases h1:room<l.length
 ·exact ⟨_,.inl ⟨h1,rfl⟩⟩
 ·by_cases h2:l.all (mayB l.length)=true
  ·by_cases h3:Ac l
   ·exact ⟨_,.inr (.inr (.inr ⟨by omega,h2,h3,rfl⟩))⟩
   ·exact ⟨_,.inr (.inr (.inl ⟨by omega,h2,h3,rfl⟩))⟩
  ·exact ⟨_,.inr (.inl ⟨by omega,by rw [Bool.not_eq_true] at h2;exact h2,rfl⟩)⟩
theorem rfe_range {room:Nat} {l:List Nd} {E:Int} (h:RfE room l E):0≤E∧E≤120:=by
 rcases h with ⟨_,rfl⟩ | ⟨_,_,rfl⟩ | ⟨_,_,_,rfl⟩ | ⟨_,_,_,rfl⟩ <;> omega
theorem RhB.mono {B B' : Nat→Prop} {w:World} {r room:Nat} {v:Value} {l:List Nd} (p:RhB B w r room v l) (hB:∀ k,k<w.heap.size→B k→B' k):RhB B' w r room v l:=⟨p.box,p.row.mono hB,p.rm1,p.rm2,p.le,p.may,p.ac⟩
structure MdAt (w w' : World) (h g r:Nat) (v:Value) (l:List Nd):Prop where
 hp:HpB (fun b=>w.heap.size≤b) w' h g 4000 l
 rh:RhB (fun b=>w.heap.size≤b) w' r 4000 v l
 same:Same0 w w'
 lh:w.heap.size≤h
 lg:w.heap.size≤g
 lr:w.heap.size≤r
 lv:∀ k,v.ownBlock=some k→w.heap.size≤k∧k≠g∧k≠h∧k≠r
 nr:r≠h∧r≠g
def MdQ (l:List Nd) (w:World) (e:Ending) (w' : World):Prop:=
 (e=.returned (.tuple #[.pointer none,.pointer none])∧Same0 w w')∨∃ h g r v,e=.returned (.tuple #[.pointer (some ⟨h,0,none⟩),.pointer (some ⟨r,0,none⟩)])∧MdAt w w' h g r v l
set_option maxHeartbeats 2000000 in
theorem made12_any {w:World} {ao:Option Addr} {ac:Nat} {l:List Nd} (hs:NsW w ao l) (hsz:l.length≤maxLen) :
  Calls Try.prog 26 #[.int .i64 4000,.slice ao l.length ac] w fun e w' => MdQ l w e w' := by
 obtain ⟨E,hE⟩:=rfe_ex 4000 l
 have C1:=hnew_yes 4000 w (by omega) (by omega)
 have HS:Hid (∀ ww,Same0 w ww→NsW ww ao l):=fun ww hk=>hs.same hk
 have HV:Hid (NsV (fun b=>b<w.heap.size) w ao l):=hs.below
 have HZ:Hid (l.length≤maxLen):=hsz
 have HE:Hid (RfE 4000 l E):=hE
 obtain ⟨e1,e2⟩:=rfe_range hE
 clear hs hsz hE
 by_cases h0:E=0
 ·subst h0
  go_enter Try.func26,Try.ntmps26
  go_upto_region 5 with (first | (go_at_call 15;refine C1.mono ?_;rintro e w1 ⟨h,g,rfl,p1,k1,lh,lg⟩;have C2:=rnew_yes 4000 w1 (by omega) (by omega)) | (go_at_call 16;refine C2.mono ?_;rintro e w2 ⟨r,rfl,q2,k2,lr⟩))
  have p2:=p1.same k2
  have K2:=k1.trans' k2
  have hhl:=p1.ltH
  have hgl:=p1.ltG
  have C3:=refill_yes (ac:=ac) p2 ((HV.out.same K2).mono (fun b hb=>show b≠g by omega)) HE.out
  clear p1 C1
  go_upto_region 7 with (first | (go_at_call 57;refine C3.mono ?_;rintro e w3 ⟨rfl,p3,k3⟩;have K3:Same0 w w3:=K2.trans k3 (fun i hi e=>by omega);have C4:=rrefill_any (ac:=ac) (q2.kept k3 (fun e=>by omega) (fun k e=>by cases e) (fun k f=>f.elim)) (HS.out w3 K3) HZ.out HE.out) | (go_at_call 58;refine C4.mono ?_;rintro e w4 ⟨rfl,q4⟩))
  have FIN:MdQ l w (.returned (.tuple #[.pointer (some ⟨h,0,none⟩),.pointer (some ⟨r,0,none⟩)])) w4:=by
   rcases q4 with ⟨e,_⟩ | ⟨_,v,r4,k4,lv⟩
   ·exact absurd rfl e
   ·have hr2:=q2.lt
    have s2:=K2.size
    have s3:=k3.size
    refine .inr ⟨h,g,r,v,rfl,(p3.kept k4 (by omega) (by omega) (fun k _ e cur hc=>?_)).mono (fun k _ _ hk=>by omega),RhB.mono r4 (fun k _ hk=>by omega),K3.trans k4 (fun i hi e=>by have:=k1.size;omega),lh,lg,by have:=k1.size;omega,fun k e=>?_,by omega,by omega⟩
    ·subst e
     have:=k3.at q2.box (by omega)
     rw [this] at hc
     cases hc
    ·have:=lv k e
     have:=k1.size
     omega
  clear q4 C3 C4 HE HV HS q2 p2 p3
  go_wp2
  go_ret2
  exact FIN
 ·have HN:Hid (E≠0):=h0
  have b1:(E != 0)=true:=by simpa using h0
  have b2:(E == 0)=false:=by simpa using h0
  have b3:(E != E)=false:=by simp
  go_enter Try.func26,Try.ntmps26
  go_upto_region 5 with (first | (go_at_call 15;refine C1.mono ?_;rintro e w1 ⟨h,g,rfl,p1,k1,lh,lg⟩;have C2:=rnew_yes 4000 w1 (by omega) (by omega)) | (go_at_call 16;refine C2.mono ?_;rintro e w2 ⟨r,rfl,q2,k2,lr⟩))
  have K2:=k1.trans' k2
  have C3:=refill_no (ac:=ac) (p1.same k2) (HS.out w2 K2) HZ.out HE.out HN.out
  clear p1 C1
  go_upto_region 7 with (first | (go_at_call 57;refine C3.mono ?_;rintro e w3 ⟨rfl,k3⟩;have K3:=K2.trans' k3;have C4:=rrefill_any (ac:=ac) (q2.same k3) (HS.out w3 K3) HZ.out HE.out) | (go_at_call 58;refine C4.mono ?_;rintro e w4 ⟨rfl,q4⟩))
  have FIN:MdQ l w (.returned (.tuple #[.pointer none,.pointer none])) w4:=by
   rcases q4 with ⟨_,e⟩ | ⟨e,_⟩
   ·exact .inl ⟨rfl,K3.trans' e⟩
   ·exact absurd e HN.out
  clear q4 C3 C4 HE HV HS q2
  go_wp2
  go_ret2
  exact FIN
def someL (n:Nat) (raw:List Int):List Int:=if n=0 then [] else raw.map (fun c=>(pickF c (n:Int):Int))
theorem someL_rng {n:Nat} {raw:List Int}:∀ z∈someL n raw,0≤z∧z<(n:Int):=by
 intro z hz
 unfold someL at hz
 split at hz
 ·cases hz
 ·rename_i h
  obtain ⟨c,_,rfl⟩:=List.mem_map.1 hz
  have:=pick_lt c (n:=(n:Int)) (by omega)
  omega
theorem someL_len (n:Nat) (raw:List Int):(someL n raw).length≤raw.length:=by
 unfold someL;split <;> simp
set_option maxHeartbeats 2000000 in
theorem some12_any {w:World} {ao:Option Addr} {ac:Nat} {raw:List Int} (hx:Arg w ao raw ac) (hr:∀ z∈raw,I64 z) (n:Nat) (hn:n≤4000) :
  Calls Try.prog 36 #[.slice ao raw.length ac,.int .i64 (n:Int)] w fun e w' => ∃ v,e=.returned v∧Row w.heap.size w' v (someL n raw)∧Same0 w w' := by
 have hsz:=hx.size
 have HX:Hid (Arg w ao raw ac):=hx
 have HR:Hid (∀ z∈raw,I64 z):=hr
 obtain ⟨N,hN⟩:∃ N,N=raw.length:=⟨_,rfl⟩
 have HN:Hid (N=raw.length):=hN
 have HZ:Hid (N * 8≤140737488351232):=by rw [hN];exact hsz
 have hNI:(N:Int)≤17592186043904:=by omega
 have hNI0:(0:Int)≤(N:Int):=by omega
 rw [← hN]
 clear hx hr hN hsz
 by_cases h0:n=0
 ·subst h0
  have HF:Hid (Row w.heap.size w (.slice none 0 0) (someL 0 raw)∧Same0 w w):=⟨World.ownsRow_nil _ _ _ _,Kept.refl _ _⟩
  go_enter Try.func36,Try.ntmps36
  go_wp2
  go_loopw [5,6] (fun v5 v6 wr=>v5=.slice none 0 0∧v6=.int .i64 0∧wr=w) (fun _ _ _=>0)
  case atStart=>exact ⟨rfl,rfl,rfl⟩
  case round=>
   obtain ⟨rfl,rfl,rfl⟩:=hrel
   by_cases hN0:N=0
   ·subst hN0
    go_wp2
    go_ret
    exact ⟨_,rfl,HF.out.1,HF.out.2⟩
   ·have hp:(0:Int)<(N:Int):=by omega
    go_wp2
    go_ret
    exact ⟨_,rfl,HF.out.1,HF.out.2⟩
 ·have hn0:(0:Int)<(n:Int):=by omega
  have hn1:(n:Int)≤4000:=by omega
  have HS:Hid (someL n raw=raw.map (fun c=>(pickF c (n:Int):Int))):=by show _=_;unfold someL;rw [if_neg h0]
  have HF0:Hid (Row w.heap.size w (.slice none 0 0) ((raw.take 0).map (fun c=>(pickF c (n:Int):Int)))):=World.ownsRow_nil _ _ _ _
  go_enter Try.func36,Try.ntmps36
  go_wp2
  go_loopw [5,6] (fun v5 v6 wr=>∃ k:Nat,k≤N∧v6=.int .i64 (k:Int)∧Hid (Row w.heap.size wr v5 ((raw.take k).map (fun c=>(pickF c (n:Int):Int))))∧Same0 w wr) (fun _ v6 _=>N-(intOf v6).toNat)
  case atStart=>exact ⟨0,Nat.zero_le _,rfl,HF0,Kept.refl _ _⟩
  case round=>
   clear HF0
   obtain ⟨k,hk,rfl,HW,hw⟩:=hrel
   by_cases hlt:k<N
   ·have hkx:k<raw.length:=by rw [← HN.out];exact hlt
    obtain ⟨xb,xo,e,hxb,cx⟩:=((HX.out.at').same hw).get hkx
    subst e
    have CP:=pick12_any raw[k] (HR.out _ (List.getElem_mem hkx)) (n:Int) (by omega) (by omega) wr
    have HT:Hid ((raw.take (k+1)).map (fun c=>(pickF c (n:Int):Int))=(raw.take k).map (fun c=>(pickF c (n:Int):Int)) ++ [(pickF raw[k] (n:Int):Int)]):=by
     show _=_
     rw [List.take_succ_eq_append_getElem hkx,List.map_append];rfl
    have hb:w.heap.size≤wr.heap.size:=hw.size
    have hsz:(((raw.take k).map (fun c=>(pickF c (n:Int):Int))).length+1) * 8≤140737488355328:=by have:=HZ.out;simp;omega
    have HR' : Hid (∀ v' w', Row w.heap.size w' v' ((raw.take k).map (fun c=>(pickF c (n:Int):Int)) ++ [(pickF raw[k] (n:Int):Int)])→Row w.heap.size w' v' ((raw.take (k+1)).map (fun c=>(pickF c (n:Int):Int)))):=fun v' w' h=>by rw [HT.out];exact h
    generalize (raw.take k).map (fun c=>(pickF c (n:Int):Int))=P at *
    generalize pickF raw[k] (n:Int)=y at *
    obtain ⟨vo,vc,e⟩:=row_shape HW.out
    subst e
    have iw:IntKind.i64.wrap ((k:Int)+1)=(k:Int)+1:=by rw [IntKind.wrap_i64];omega
    have j5:(0:Int)≤(k:Int):=by omega
    have j6:(k:Int)<(N:Int):=by omega
    clear HT hNI
    go_wp2_with (first | (go_at_call 39;refine CP.mono ?_;rintro e w' ⟨rfl,hw'⟩;have hw' := hw'.symm;subst hw') | (at_builtin;refine wpList_push rfl _ _ 31 rfl Try.underlying31 w.heap.size P _ rfl HW.out (y:Int) rfl hb hsz ?_;intro g5 c5 w5 hr5 hk5 hg5))
    have hr6:=HR'.out _ _ hr5
    have hw6:=hw.onto HW.out hk5
    go_roundw
    case rel=>first | exact ⟨k+1,by omega,by go_num,hr6,hw6⟩ | ((repeat apply Exists.intro);exact ⟨⟨k+1,by omega,by go_num,hr6,hw6⟩,rfl⟩)
    case measure=>simp [intOf];omega
   ·have e:N=k:=by omega
    subst e
    have R1:Row w.heap.size wr u5 (someL n raw):=by
     rw [HS.out]
     have:=HW.out
     rw [List.take_of_length_le (by rw [HN.out];exact Nat.le_refl _)] at this
     exact this
    clear hNI
    go_wp2
    go_ret
    exact ⟨_,rfl,R1,hw⟩
end Go.Proofs.Ytcbonegkfppdiaa
namespace Go.Proofs.Ytcbonegkfppdiaa
set_option linter.unusedVariables false
def exL:List Nd:=[(1,[],0,false,0),(2,[0],0,false,0),(1,[],0,false,0),(3,[1,2],0,false,0),(0,[],0,true,3),(4,[4],1,false,0)]
def exR:Nat→Nat
 | 0=>0
 | 1=>1
 | 2=>0
 | 3=>2
 | 4=>3
 | _=>4
theorem ex_ac:Ac exL:=by
 refine ⟨exR,fun i j e=>?_⟩
 obtain ⟨h,hm⟩:=e
 have h6:i<6:=h
 have key:∀ i:Nat,(h:i<6)→∀ x∈downL (exL[i]'h),exR x.toNat<exR i:=by
  intro i h
  match i,h with
  | 0,_=>decide +revert
  | 1,_=>decide +revert
  | 2,_=>decide +revert
  | 3,_=>decide +revert
  | 4,_=>decide +revert
  | 5,_=>decide +revert
 have:=key i h6 (j:Int) hm
 simpa using this
theorem ex_may:exL.all (mayB exL.length)=true:=by decide
theorem ex_rfe:RfE 6 exL 0:=.inr (.inr (.inr ⟨by decide,ex_may,ex_ac,rfl⟩))
theorem e54:Ed exL 5 4:=⟨by decide,by decide⟩
theorem e43:Ed exL 4 3:=⟨by decide,by decide⟩
theorem e31:Ed exL 3 1:=⟨by decide,by decide⟩
theorem e32:Ed exL 3 2:=⟨by decide,by decide⟩
theorem e10:Ed exL 1 0:=⟨by decide,by decide⟩
theorem r43:Rc exL 4 3:=(Rc.refl exL 3).step e43
theorem r41:Rc exL 4 1:=r43.snoc e31
theorem r42:Rc exL 4 2:=r43.snoc e32
theorem r40:Rc exL 4 0:=r41.snoc e10
theorem app_ex (a:Nat):AppN exL a ↔ a∈[0,1,2,3,5]:=by
 constructor
 ·rintro ⟨h,q⟩
  have h6:a<6:=h
  match a,h6 with
  | 0,_=>decide
  | 1,_=>decide
  | 2,_=>decide
  | 3,_=>decide
  | 4,_=>exact absurd q (by decide +revert)
  | 5,_=>decide
 ·intro h
  simp only [List.mem_cons,List.not_mem_nil,or_false] at h
  rcases h with rfl | rfl | rfl | rfl | rfl <;> exact ⟨by decide,by decide⟩
theorem clo_ex {i j:Nat} (hi:i∈[0,1,2,3,4]) (e:Ed exL i j):j∈[0,1,2,3,4]:=by
 obtain ⟨h,hm⟩:=e
 simp only [List.mem_cons,List.not_mem_nil,or_false] at hi
 have key:∀ x∈downL (exL[i]'h),x.toNat∈[0,1,2,3,4]:=by
  clear hm
  rcases hi with rfl | rfl | rfl | rfl | rfl <;> decide +revert
 simpa using key (j:Int) hm
theorem kl_ex1:KL exL [4] [0,1,2,3]:=by
 refine ⟨by decide,fun a=>⟨fun h=>?_,fun h=>?_⟩⟩
 ·refine ⟨(app_ex a).2 (by simp at h ⊢;omega),4,by simp,?_⟩
  simp only [List.mem_cons,List.not_mem_nil,or_false] at h
  rcases h with rfl | rfl | rfl | rfl
  ·exact r40
  ·exact r41
  ·exact r42
  ·exact r43
 ·obtain ⟨ha,r,hr,hc⟩:=h
  simp only [List.mem_singleton] at hr
  subst hr
  have h1:=Rc.in (S:=fun a=>a∈[0,1,2,3,4]) (fun i j hi e=>clo_ex hi e) (by decide) hc
  have h2:=(app_ex a).1 ha
  simp at h1 h2 ⊢
  omega
theorem kl_ex2:KL exL [5,2,5] [0,1,2,3,5]:=by
 refine ⟨by decide,fun a=>⟨fun h=>⟨(app_ex a).2 h,5,by simp,?_⟩,fun h=>(app_ex a).1 h.1⟩⟩
 simp only [List.mem_cons,List.not_mem_nil,or_false] at h
 rcases h with rfl | rfl | rfl | rfl | rfl
 ·exact r40.step e54
 ·exact r41.step e54
 ·exact r42.step e54
 ·exact r43.step e54
 ·exact Rc.refl _ _
theorem res_ex5:Res exL 5 5:=Res.self (by decide) (by decide)
theorem res_ex2:Res exL 2 2:=Res.self (by decide) (by decide)
theorem res_ex4:Res exL 4 3:=Res.step (by decide) (by decide) (Res.self (by decide) (by decide))
theorem Mv.val {l:List Nd} {R:List Int} {L:List Nat} (hk:KL l R L) {z y:Int} (h:Mv l L z y) {b i:Nat} (hb:Res l z.toNat b) (hi:L[i]? = some b):y=(i:Int):=by
 obtain ⟨b', i', _,h1,h2,rfl⟩:=h
 have:=Res.uniq h1 hb
 subst this
 rw [rise_ne hk.1 h2 hi]
theorem ex_after {L:List Nat} {l' : List Nd} {R' : List Int} (hk:KL exL [5,2,5] L) (hs:Sld exL L l') (hr:Rts exL L [5,2,5] R'):L=[0,1,2,3,5]∧l'.length=5∧R' = [4,2,4]∧l'[4]? = some (4,[3],1,false,0):=by
 have e:=hk.uniq kl_ex2
 subst e
 have hl:l'.length=5:=hs.1
 refine ⟨rfl,hl,?_,?_⟩
 ·have h1:R'.length=3:=hr.1
  match R', h1 with
  | [a,b,c],_=>
   have q1:=(hr.2 0 5 a rfl rfl).val hk (b:=5) (i:=4) res_ex5 rfl
   have q2:=(hr.2 1 2 b rfl rfl).val hk (b:=2) (i:=2) res_ex2 rfl
   have q3:=(hr.2 2 5 c rfl rfl).val hk (b:=5) (i:=4) res_ex5 rfl
   rw [q1,q2,q3];rfl
 ·obtain ⟨h1,h2,a1,a2,a3⟩:=hs.2 4 5 rfl
  rw [List.getElem?_eq_getElem h2]
  have e1:l'[4].1=4:=a1
  have e3:l'[4].2.2=(1,false,0):=a3
  have a2' : Rts exL [0,1,2,3,5] [4] l'[4].2.1:=a2
  have e2:l'[4].2.1=[3]:=by
   have h3:l'[4].2.1.length=1:=a2'.1
   match hm:l'[4].2.1,h3 with
   | [a],_=>
    rw [hm] at a2'
    have q:=(a2'.2 0 4 a rfl rfl).val hk (b:=3) (i:=3) res_ex4 rfl
    rw [q];rfl
  congr 1
  exact Prod.ext e1 (Prod.ext e2 e3)
end Go.Proofs.Ytcbonegkfppdiaa
namespace Go.Proofs.Ytcbonegkfppdiaa
set_option maxRecDepth 100000
set_option linter.unusedVariables false
open Go.RowKit
attribute [local go_sem ↓] Go.wp_at_zero Go.wp_at_succ
def exC (n:Nat):Array Value:=#[.int .i64 1,.slice none 0 0,.int .i64 0,.bool false,.int .i64 0,.int .i64 2,.slice (some ⟨n,0,none⟩) 1 1,.int .i64 0,.bool false,.int .i64 0,.int .i64 1,.slice none 0 0,.int .i64 0,.bool false,.int .i64 0,.int .i64 3,.slice (some ⟨n+1,0,none⟩) 2 2,.int .i64 0,.bool false,.int .i64 0,.int .i64 0,.slice none 0 0,.int .i64 0,.bool true,.int .i64 3,.int .i64 4,.slice (some ⟨n+1+1,0,none⟩) 1 1,.int .i64 1,.bool false,.int .i64 0]
def exW (w:World):World:=(((w.alloc (.cells #[.int .i64 0] 3)).alloc (.cells #[.int .i64 1,.int .i64 2] 3)).alloc (.cells #[.int .i64 4] 3)).alloc (.cells (exC w.heap.size) 47)
theorem exW_at (w:World):(exW w).heap[w.heap.size+1+1+1]? = some (.cells (exC w.heap.size) 47 (0,0)):=by
 have s3:(((w.alloc (.cells #[.int .i64 0] 3)).alloc (.cells #[.int .i64 1,.int .i64 2] 3)).alloc (.cells #[.int .i64 4] 3)).heap.size=w.heap.size+1+1+1:=by simp
 rw [← s3];exact heap_alloc_new _ _
theorem exW_same (w:World):Same0 w (exW w):=((((Kept.refl _ w).alloc _).alloc _).alloc _).alloc _
theorem exW_ns (w:World):NsW (exW w) (some ⟨w.heap.size+1+1+1,0,none⟩) exL:=by
 have s1:(w.alloc (.cells #[.int .i64 0] 3)).heap.size=w.heap.size+1:=by simp
 have s2:((w.alloc (.cells #[.int .i64 0] 3)).alloc (.cells #[.int .i64 1,.int .i64 2] 3)).heap.size=w.heap.size+1+1:=by simp
 have hn:=exW_at w
 have a1:Arg (exW w) (some ⟨w.heap.size,0,none⟩) [0] 1:=(((arg_one w 0).onto ((Kept.refl _ _).alloc _)).onto ((Kept.refl _ _).alloc _)).onto ((Kept.refl _ _).alloc _)
 have a2:Arg (exW w) (some ⟨w.heap.size+1,0,none⟩) [1,2] 2:=by
  have:=arg_two (w.alloc (.cells #[.int .i64 0] 3)) 1 2
  rw [s1] at this
  exact (this.onto ((Kept.refl _ _).alloc _)).onto ((Kept.refl _ _).alloc _)
 have a3:Arg (exW w) (some ⟨w.heap.size+1+1,0,none⟩) [4] 1:=by
  have:=arg_one ((w.alloc (.cells #[.int .i64 0] 3)).alloc (.cells #[.int .i64 1,.int .i64 2] 3)) 4
  rw [s2] at this
  exact this.onto ((Kept.refl _ _).alloc _)
 have c:=fun o=>cellAt hn o
 refine .inr ⟨w.heap.size+1+1+1,0,rfl,lt_of_at hn,fun j hj=>?_⟩
 have h6:j<6:=hj
 match j,h6 with
 | 0,_=>exact ⟨none,0,c 0,c 1,c 2,c 3,c 4,arg_nil _⟩
 | 1,_=>exact ⟨_,1,c 5,c 6,c 7,c 8,c 9,a1⟩
 | 2,_=>exact ⟨none,0,c 10,c 11,c 12,c 13,c 14,arg_nil _⟩
 | 3,_=>exact ⟨_,2,c 15,c 16,c 17,c 18,c 19,a2⟩
 | 4,_=>exact ⟨none,0,c 20,c 21,c 22,c 23,c 24,arg_nil _⟩
 | 5,_=>exact ⟨_,1,c 25,c 26,c 27,c 28,c 29,a3⟩
theorem exW_nv (w:World) {g:Nat} (hg:g<w.heap.size):NsV (fun b=>b≠g) (exW w) (some ⟨w.heap.size+1+1+1,0,none⟩) exL:=by
 rcases exW_ns w with e | ⟨nb,noff,e,hlt,hc⟩
 ·cases e
 ·simp only [Option.some.injEq,Addr.mk.injEq,and_true] at e
  obtain ⟨rfl,rfl⟩:=e
  refine .inr ⟨_,0,rfl,hlt,by omega,fun j hj=>?_⟩
  obtain ⟨xo,xc,n0,n1,n2,n3,n4,n5⟩:=hc j hj
  refine ⟨xo,xc,n0,n1,n2,n3,n4,n5,fun hne a e=>?_⟩
  have hn:=exW_at w
  have c:=fun o=>cellAt hn o
  have h6:j<6:=hj
  match j,h6 with
  | 0,_=>exact absurd rfl hne
  | 1,_=>have h:=n1.symm.trans (show _=some (Value.slice (some ⟨w.heap.size,0,none⟩) 1 1) from c 6);rw [e] at h;cases h;show w.heap.size≠g;omega
  | 2,_=>exact absurd rfl hne
  | 3,_=>have h:=n1.symm.trans (show _=some (Value.slice (some ⟨w.heap.size+1,0,none⟩) 2 2) from c 16);rw [e] at h;cases h;show w.heap.size+1≠g;omega
  | 4,_=>exact absurd rfl hne
  | 5,_=>have h:=n1.symm.trans (show _=some (Value.slice (some ⟨w.heap.size+1+1,0,none⟩) 1 1) from c 26);rw [e] at h;cases h;show w.heap.size+1+1≠g;omega
set_option maxHeartbeats 4000000 in
theorem awake12_any (w:World):Calls Try.prog 25 #[] w fun e w' => e=.returned (.bool true)∧Same0 w w' := by
 have C1:=hnew_yes 6 w (by omega) (by omega)
 go_enter Try.func25,Try.ntmps25
 go_upto_region 4 with (first | (go_at_call 15;refine C1.mono ?_;rintro e w1 ⟨h,g,rfl,p1,k1,lh,lg⟩))
 have C2:=refill_yes (ac:=6) (p1.same (exW_same w1)) (exW_nv w1 p1.ltG) ex_rfe
 have hsz2:Hid ((exW w1).heap.size ≥ w1.heap.size):=(exW_same w1).size
 have K1:Hid (Same0 w (exW w1)):=k1.trans' (exW_same w1)
 unfold exW exC at C2
 simp only [show exL.length=6 from rfl] at C2
 clear C1 p1 k1
 go_upto_region 5 with (first | (go_at_call 57;refine C2.mono ?_;rintro e w2 ⟨rfl,p2,k2⟩))
 have K2:Same0 w w2:=K1.out.trans k2 (fun i hi e=>by omega)
 have hh:=p2.ltH
 have hg:=p2.ltG
 have k3:Same0 w2 (w2.alloc (.cells #[.int .i64 4] 3)):=(Kept.refl _ _).alloc _
 have C3:=live_yes (p2.same k3) (arg_one w2 4) (by intro r hr;simp only [List.mem_singleton] at hr;subst hr;decide)
 simp only [List.length_singleton] at C3
 have HP:Hid (∀ ww,Same0 w2 ww→HpB (fun b=>(exW w1).heap.size≤b) ww h g 6 exL):=fun ww hk=>p2.same hk
 have H3:Hid (Same0 w2 (w2.alloc (.cells #[.int .i64 4] 3))):=k3
 clear C2 p2 k2 K1 hsz2 k3
 go_upto_region 6 with (first | (go_at_call 28;refine C3.mono ?_;rintro e w3 ⟨v,L,rfl,hkl,hrow,hk3⟩))
 have e:=hkl.uniq kl_ex1
 subst e
 obtain ⟨vo,vc,e,hI,hle, -⟩:=hrow.ints
 subst e
 have K23:=H3.out.trans' hk3
 have K3:=K2.trans' K23
 obtain ⟨lb,lo,e,hlb,cl3⟩:=hI.get (i:=3) (by decide)
 subst e
 have cl3' : w3.cell? ⟨lb,lo+3,none⟩=some (.int .i64 3):=cl3
 have k4:Same0 w3 (w3.alloc (.cells #[.int .i64 5,.int .i64 2,.int .i64 5] 3)):=(Kept.refl _ _).alloc _
 have C4:=coll_yes (HP.out _ (K23.trans' k4)) (ao:=some ⟨w3.heap.size,0,none⟩) (R:=[5,2,5]) (ac:=3) ⟨ints_three w3 5 2 5,Nat.le_refl _,(fun e=>by cases e),by simp⟩ (by intro r hr;simp only [List.mem_cons,List.not_mem_nil,or_false] at hr;rcases hr with rfl | rfl | rfl <;> decide) (fun _ a e=>by cases e;have:=K23.size;exact ⟨by simp only;omega,by simp only;omega⟩)
 simp only [show ([5,2,5]:List Int).length=3 from rfl] at C4
 have hlen4:(ofN [0,1,2,3]).length=4:=rfl
 rw [hlen4] at hle ⊢
 have H4:Hid (Same0 w3 (w3.alloc (.cells #[.int .i64 5,.int .i64 2,.int .i64 5] 3))):=k4
 have HC:Hid (w3.cell? ⟨lb,lo+3,none⟩=some (.int .i64 3)∧w.heap.size≤w2.heap.size∧lb<w3.heap.size):=⟨cl3', K2.size,hlb⟩
 have HB:Hid (w2.heap.size≤lb):=by
  have:=(hrow.lt lb rfl).1
  have s:=H3.out.size
  show _≤_
  omega
 clear C3 hkl hrow hI cl3 cl3' hlen4 k4 hk3
 go_upto_region 7 with (first | (go_at_call 34;refine C4.mono ?_;rintro e w5 ⟨rv,R', L', l', rfl,hkl,hsl,hrt,hrow5,p5,k5⟩))
 obtain ⟨rfl,hl5,rfl,hx4⟩:=ex_after hkl hsl hrt
 obtain ⟨h45,hx5⟩:=List.getElem?_eq_some_iff.1 hx4
 have C5:=hat_yes p5 4 h45
 rw [hx5] at C5
 have CU:∀ ww,Same0 w5 ww→Calls Try.prog 24 #[.pointer (some ⟨h,0,none⟩)] ww fun e w' => e=.returned (.int .i64 5)∧w' = ww:=fun ww hk=>by
  have:=used_any (p5.same hk)
  rw [hl5] at this
  exact this
 have HU:=(show Hid _ from CU)
 obtain ⟨ro,rc,e,hRI,hrle,hrb⟩:=hrow5.ints
 subst e
 obtain ⟨rb,roff,e,hrb1,q0⟩:=hRI.get (i:=0) (by decide)
 subst e
 have q1:w5.cell? ⟨rb,roff+1,none⟩=some (.int .i64 2):=by
  obtain ⟨b,o,e,_,h⟩:=hRI.get (i:=1) (by decide)
  cases e;exact h
 have q2:w5.cell? ⟨rb,roff+2,none⟩=some (.int .i64 4):=by
  obtain ⟨b,o,e,_,h⟩:=hRI.get (i:=2) (by decide)
  cases e;exact h
 have q0' : w5.cell? ⟨rb,roff,none⟩=some (.int .i64 4):=q0
 have hlb2:=HB.out
 have q3:w5.cell? ⟨lb,lo+3,none⟩=some (.int .i64 3):=(k5.cell (p:=⟨lb,lo+3,none⟩) (by have:=H4.out.size;simp only;omega) (by simp only;omega)).trans ((H4.out.cell (p:=⟨lb,lo+3,none⟩) hlb (fun f=>f)).trans HC.out.1)
 have hlb5:lb<w5.heap.size:=by have:=H4.out.size;have:=k5.size;omega
 have K5:Same0 w w5:=(K3.trans' H4.out).trans k5 (fun i hi e=>by omega)
 have HQ:Hid (∀ ww,Same0 w5 ww→ww.cell? ⟨rb,roff,none⟩=some (.int .i64 4)∧ww.cell? ⟨rb,roff+1,none⟩=some (.int .i64 2)∧ww.cell? ⟨rb,roff+2,none⟩=some (.int .i64 4)∧ww.cell? ⟨lb,lo+3,none⟩=some (.int .i64 3)∧Same0 w ww):=fun ww hk=>
  ⟨(hk.cell (p:=⟨rb,roff,none⟩) hrb1 (fun f=>f)).trans q0', (hk.cell (p:=⟨rb,roff+1,none⟩) hrb1 (fun f=>f)).trans q1,(hk.cell (p:=⟨rb,roff+2,none⟩) hrb1 (fun f=>f)).trans q2,(hk.cell (p:=⟨lb,lo+3,none⟩) hlb5 (fun f=>f)).trans q3,K5.trans' hk⟩
 simp only [show ([4,2,4]:List Int).length=3 from rfl] at hrle ⊢
 simp only [show exL.length=6 from rfl,show ([0,1,2,3,5]:List Nat).length=5 from rfl]
 clear hkl hsl hrt hrow5 p5 k5 hx4 hx5 h45 hl5 hRI q0 q0' q1 q2 q3 CU C4 HP H3 H4 HC HB hrb
 go_wp2_with (first
  | (go_at_call 42;refine C5.mono ?_;rintro e w6 ⟨bo,bc,rfl,hA,hAb,hk6⟩;obtain ⟨xb,xo,e,hxb,cx⟩:=hA.1.at'.get (i:=0) (by decide);subst e;have kA:Same0 w5 (w6.alloc (.cells #[.int .i64 4,.slice (some ⟨xb,xo,none⟩) 1 bc,.int .i64 1,.bool false,.int .i64 0] 47)):=hk6.alloc _;obtain ⟨t0,t1,t2,t3,t4⟩:=HQ.out _ kA;obtain ⟨d0,d1,d2,d3,d4⟩:=box5 (heap_alloc_new w6 (.cells #[.int .i64 4,.slice (some ⟨xb,xo,none⟩) 1 bc,.int .i64 1,.bool false,.int .i64 0] 47));have cx7:(w6.alloc (.cells #[.int .i64 4,.slice (some ⟨xb,xo,none⟩) 1 bc,.int .i64 1,.bool false,.int .i64 0] 47)).cell? ⟨xb,xo,none⟩=some (.int .i64 3):=(((Kept.refl (fun _=>False) w6).alloc _).cell (p:=⟨xb,xo,none⟩) hxb (fun f=>f)).trans cx;have CU:=HU.out _ kA;clear hA hAb hk6 cx kA C5)
  | (go_at_call 24;refine CU.mono ?_;rintro e w7 ⟨rfl,hw7⟩;have hw7:=hw7.symm;subst hw7))
 go_ret
 exact ⟨rfl,t4⟩
end Go.Proofs.Ytcbonegkfppdiaa
