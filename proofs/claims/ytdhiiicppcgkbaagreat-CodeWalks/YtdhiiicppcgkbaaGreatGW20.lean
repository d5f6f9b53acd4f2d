import Derived.Test.YtdhiiicppcgkbaaGreatGW19
import Derived.Test.YtdhiiicppcgkbaaGreatGW18
import Derived.Test.YtdhiiicppcgkbaaGreatGW16
import Derived.Test.YtdhiiicppcgkbaaGreatGW06
import Derived.Deep.RegionLaw
import Derived.Deep.AppendLies
namespace Go.Proofs.YtdhiiicppcgkbaaGreat
set_option linter.unusedVariables false
def Led8 (L:List Sym) (U:List Int):List (List Int)→List Nat→Prop
 | [],[]=>True
 | p :: ps,q :: qs=>leads L U 0 p=some q∧Led8 L U ps qs
 | _,_=>False
theorem Led8.len {L:List Sym} {U:List Int}:∀ {a:List (List Int)} {b:List Nat},Led8 L U a b→a.length=b.length
 | [],[],_=>rfl
 | _ :: _,_ :: _,h=>by simp [Led8.len h.2]
 | [],_ :: _,h=>h.elim
 | _ :: _,[],h=>h.elim
theorem Led8.append {L:List Sym} {U:List Int}:∀ {a:List (List Int)} {b:List Nat} {c:List (List Int)} {d:List Nat},Led8 L U a b→Led8 L U c d→Led8 L U (a++c) (b++d)
 | [],[],_,_,_,h=>h
 | _ :: _,_ :: _,_,_,h,k=>⟨h.1,h.2.append k⟩
 | [],_ :: _,_,_,h,_=>h.elim
 | _ :: _,[],_,_,h,_=>h.elim
theorem Led8.take {L:List Sym} {U:List Int}:∀ {a:List (List Int)} {b:List Nat} (c:Nat),Led8 L U a b→Led8 L U (a.take c) (b.take c)
 | _,_,0,_=>by simp [Led8]
 | [],[],c+1,_=>by simp [Led8]
 | _ :: _,_ :: _,c+1,h=>⟨h.1,Led8.take c h.2⟩
 | [],_ :: _,_+1,h=>h.elim
 | _ :: _,[],_+1,h=>h.elim
theorem Led8.drop {L:List Sym} {U:List Int}:∀ {a:List (List Int)} {b:List Nat} (c:Nat),Led8 L U a b→Led8 L U (a.drop c) (b.drop c)
 | _,_,0,h=>h
 | [],[],c+1,_=>by simp [Led8]
 | _ :: _,_ :: _,c+1,h=>Led8.drop c h.2
 | [],_ :: _,_+1,h=>h.elim
 | _ :: _,[],_+1,h=>h.elim
theorem Led8.at {L:List Sym} {U:List Int}:∀ {a:List (List Int)} {b:List Nat} {c:Nat},Led8 L U a b→∀ (h1:c<a.length) (h2:c<b.length),leads L U 0 a[c]=some b[c]
 | _ :: _,_ :: _,0,h,_,_=>h.1
 | _ :: _,_ :: _,c+1,h,h1,h2=>Led8.at h.2 (by simpa using h1) (by simpa using h2)
 | [],_,_,_,h1,_=>by simp at h1
 | _ :: _,[],_,h,_,_=>h.elim
theorem led_args {L:List Sym} {U:List Int} {p:List Int} {q:Nat} (h:leads L U 0 p=some q):∀ (m:List Nat) (k:Nat),(∀ i (hi:i<m.length),(argsN L U q)[k+i]? = some m[i])→Led8 L U ((List.range' k m.length).map (fun (i:Nat)=>p ++ [(i:Int)])) m
 | [],_,_=>by simp [Led8]
 | x :: m,k,hm=>by
  rw [List.length_cons,List.range'_succ,List.map_cons]
  refine ⟨?_,led_args h m (k+1) (fun i hi=>?_)⟩
  ·rw [leads_append h,leads,if_neg (by omega),Int.toNat_natCast]
   have:=hm 0 (by simp)
   simp only [Nat.add_zero,List.getElem_cons_zero] at this
   rw [this];rfl
  ·have:=hm (i+1) (by simpa using hi)
   simpa [Nat.add_assoc,Nat.add_comm 1 i] using this
structure FitN (L:List Sym) (U:List Int) (paths:List (List Int)) (rows:List Rw) (qs:List Nat):Prop where
 led:Led8 L U paths qs
 lt:∀ q∈qs,q<U.length
 row:∀ x∈rows,IsT L x.2.1∧x.2.2.length=paths.length∧∀ i∈x.2.2,i<x.2.1.length
 low:∀ x∈rows,∀ k (h:k<x.2.1.length),0<k→defB L x.2.1[k]=false
 inj:∀ x∈rows,∀ y∈rows,x.1=y.1→x=y
def fitX (L:List Sym) (U:List Int) (x:Rw) (qs:List Nat):Bool:=fitP8 L x.2.1 U x.2.2 qs
theorem mem_repl {α:Type} {l m:List α} {c:Nat} {x:α} (h:x∈repl l c m):x∈l∨x∈m:=by
 unfold repl at h
 rcases List.mem_append.1 h with q | q
 ·rcases List.mem_append.1 q with q | q
  ·exact .inl (List.mem_of_mem_take q)
  ·exact .inr q
 ·exact .inl (List.mem_of_mem_drop q)
section
variable {L : List Sym} {U : List Int} {paths : List (List Int)} {rows : List Rw} {qs : List Nat}
theorem FitN.kid (hU:IsT L U) (h:FitN L U paths rows qs) {c s:Nat} (hc:c<paths.length) (hq:c<qs.length) (hs:U[qs[c]]'(h.lt _ (List.getElem_mem hq))=(s:Int)):FitN L U (kidP L paths c s) ((havR rows c (s:Int)).map (kidX L c)) (repl qs c (argsN L U qs[c])):=by
 have hlt:=h.lt _ (List.getElem_mem hq)
 have har:(argsN L U qs[c]).length=arN L (s:Int):=by rw [argsN_eq hlt,starts_length,hs]
 have key:∀ x∈havR rows c (s:Int),x∈rows∧∃ h1:c<x.2.2.length,∃ h2:x.2.2[c]<x.2.1.length,x.2.1[x.2.2[c]]=(s:Int)∧(argsN L x.2.1 x.2.2[c]).length=arN L (s:Int):=fun x hx=>by
  obtain ⟨a,b⟩:=havR_mem hx
  obtain ⟨r1,r2,r3⟩:=h.row x a
  have h1:c<x.2.2.length:=by omega
  have h2:=r3 _ (List.getElem_mem h1)
  rw [numR_eq h1 h2] at b
  exact ⟨a,h1,h2,b,by rw [argsN_eq h2,starts_length,b]⟩
 refine ⟨?_,?_,?_,?_,?_⟩
 ·unfold kidP repl
  refine (Led8.append (h.led.take c) ?_).append (h.led.drop (c+1))
  rw [getD_lt hc,← har,List.range_eq_range']
  exact led_args (h.led.at hc hq) _ 0 (fun i hi=>by rw [Nat.zero_add];exact List.getElem?_eq_getElem hi)
 ·intro q hq'
  rcases mem_repl hq' with e | e
  ·exact h.lt q e
  ·exact (args_lt hU hlt q e).2
 ·intro y hy
  obtain ⟨x,hx,rfl⟩:=List.mem_map.1 hy
  obtain ⟨a,h1,h2,b,d⟩:=key x hx
  obtain ⟨r1,r2,r3⟩:=h.row x a
  refine ⟨r1,?_,?_⟩
  ·simp only [kidX,kidP]
   rw [getD_lt h1,repl_length h1,repl_length hc,d]
   simp;omega
  ·intro i hi
   simp only [kidX] at hi
   rw [getD_lt h1] at hi
   rcases mem_repl hi with e | e
   ·exact r3 i e
   ·exact (args_lt r1 h2 i e).2
 ·intro y hy
  obtain ⟨x,hx,rfl⟩:=List.mem_map.1 hy
  exact h.low x (key x hx).1
 ·intro y hy z hz e
  obtain ⟨x,hx,rfl⟩:=List.mem_map.1 hy
  obtain ⟨x', hx', rfl⟩:=List.mem_map.1 hz
  have:=h.inj x (key x hx).1 x' (key x' hx').1 e
  rw [this]
theorem fit_kid (hU:IsT L U) (h:FitN L U paths rows qs) {c s:Nat} (hc:c<paths.length) (hq:c<qs.length) (hs:U[qs[c]]'(h.lt _ (List.getElem_mem hq))=(s:Int)) {x:Rw} (hx:x∈rows) (hn:numR x c=(s:Int)):fitX L U (kidX L c x) (repl qs c (argsN L U qs[c]))=fitX L U x qs:=by
 have hlt:=h.lt _ (List.getElem_mem hq)
 obtain ⟨r1,r2,r3⟩:=h.row x hx
 have h1:c<x.2.2.length:=by omega
 have h2:=r3 _ (List.getElem_mem h1)
 rw [numR_eq h1 h2] at hn
 have he:x.2.2.length=qs.length:=by rw [r2,h.led.len]
 have hm:(argsN L x.2.1 x.2.2[c]).length=(argsN L U qs[c]).length:=by rw [argsN_eq h2,argsN_eq hlt,starts_length,starts_length,hn,hs]
 unfold fitX
 rw [fitP8_at he h1 hq,fitA_sym r1 hU h2 hlt (by rw [hn];omega),hs,hn]
 simp only [kidX]
 rw [getD_lt h1,fitP8_repl he hm]
 simp
theorem fit_other (hU:IsT L U) (h:FitN L U paths rows qs) {c:Nat} (hc:c<paths.length) (hq:c<qs.length) {x:Rw} (hx:x∈rows) (h0:0≤numR x c) (hn:numR x c≠U[qs[c]]'(h.lt _ (List.getElem_mem hq))):fitX L U x qs=false:=by
 have hlt:=h.lt _ (List.getElem_mem hq)
 obtain ⟨r1,r2,r3⟩:=h.row x hx
 have h1:c<x.2.2.length:=by omega
 have h2:=r3 _ (List.getElem_mem h1)
 rw [numR_eq h1 h2] at hn h0
 have he:x.2.2.length=qs.length:=by rw [r2,h.led.len]
 unfold fitX
 rw [fitP8_at he h1 hq,fitA_sym r1 hU h2 hlt h0]
 simp [Ne.symm hn]
theorem fit_vars (hU:IsT L U) {p:List Int}:∀ {ps qs:List Nat},(∀ i∈ps,∃ h:i<p.length,p[i]<0)→(∀ q∈qs,q<U.length)→fitP8 L p U ps qs=true
 | [],_,_,_=>by simp [fitP8]
 | _ :: _,[],_,_=>by simp [fitP8]
 | i :: ps,q :: qs,h1,h2=>by
  obtain ⟨a,b⟩:=h1 i (List.mem_cons_self ..)
  rw [fitP8,fitA_var hU a (h2 q (List.mem_cons_self ..)) b,fit_vars hU (fun i hi=>h1 i (List.mem_cons_of_mem _ hi)) (fun q hq=>h2 q (List.mem_cons_of_mem _ hq))]
  rfl
end
theorem kidOf_snoc {α:Type} {s k:Int} {t:α}:∀ {l:List (Int × α)},kidOf s (l ++ [(k,t)])=match kidOf s l with | some x=>some x | none=>if k=s then some t else none
 | []=>by simp [kidOf]
 | x :: l=>by
  rw [List.cons_append,kidOf,kidOf]
  by_cases h:x.1=s
  ·rw [if_pos h,if_pos h]
  ·rw [if_neg h,if_neg h];exact kidOf_snoc
theorem kidsN_of {α : Type} {has : Nat → Bool} {g : Nat → Except Int α} : ∀ {m : Nat} {l : List (Int × α)}, kidsN has g m = .ok l → ∀ s : Nat, (s < m → has s = true → ∃ t, g s = .ok t ∧ kidOf (s : Int) l = some t) ∧ (¬ (s < m ∧ has s = true) → kidOf (s : Int) l = none)
  | 0, l, h, s => by
    simp only [kidsN, Except.ok.injEq] at h
    subst h
    exact ⟨fun e => absurd e (by omega), fun _ => rfl⟩
  | m + 1, l, h, s => by
    rw [kidsN] at h
    cases hk : kidsN has g m with
    | error e => rw [hk] at h; cases h
    | ok l' =>
      rw [hk] at h
      obtain ⟨ih1, ih2⟩ := kidsN_of hk s
      simp only at h
      by_cases hm : has m = true
      · rw [if_pos hm] at h
        cases hg : g m with
        | error e => rw [hg] at h; cases h
        | ok t =>
          rw [hg] at h
          simp only [Except.ok.injEq] at h
          subst h
          refine ⟨fun hs hh => ?_, fun hn => ?_⟩
          · rw [kidOf_snoc]
            by_cases e : s = m
            · subst e
              refine ⟨t, hg, ?_⟩
              rw [ih2 (by omega)]; simp
            · obtain ⟨t', h1, h2⟩ := ih1 (by omega) hh
              exact ⟨t', h1, by rw [h2]⟩
          · rw [kidOf_snoc, ih2 (fun q => hn ⟨by omega, q.2⟩)]
            simp only
            rw [if_neg (fun e => hn ⟨by omega, by have : m = s := by omega
                                                  rw [← this]; exact hm⟩)]
      · rw [if_neg hm] at h
        simp only [Except.ok.injEq] at h
        subst h
        refine ⟨fun hs hh => ih1 (by
          have : s ≠ m := fun e => hm (e ▸ hh)
          omega) hh, fun hn => ih2 (fun q => hn ⟨by omega, q.2⟩)⟩
structure Found8 (L:List Sym) (U:List Int) (a:Int) (rows:List Rw) (qs:List Nat) (R:Fd):Prop where
 err:R.2.2.2.2=0
 kind:R.1=1∨R.1=2∨R.1=3
 fits:∀ x∈rows,fitX L U x qs=true ↔ (R.1=1∧R.2.1=x.1)
 one:R.1=1→∃ y∈rows,y.1=R.2.1
 dem:R.1=3→∃ q:Nat,∃ h:q<U.length,R.2.2.2.1=a+q∧0<q∧defB L U[q]=true
theorem partN_none {rows:List Rw}:∀ {k:Nat},partN rows k=none→∀ c,c<k→conB rows c=false
 | 0,_,c,hc=>absurd hc (by omega)
 | k+1,h,c,hc=>by
  unfold partN at h
  cases hk:partN rows k with
  | some d=>rw [hk] at h;cases h
  | none=>
   rw [hk] at h
   simp only at h
   by_cases e:c=k
   ·subst e
    split at h
    ·cases h
    ·rename_i q;simpa using q
   ·exact partN_none hk c (by omega)
theorem lead_pos {L:List Sym} {U:List Int} (hU:IsT L U):∀ (path:List Int) (p:Nat),p<U.length→path≠[]→∀ q,leads L U p path=some q→p<q
 | [],_,_,h,_,_=>absurd rfl h
 | n :: r,p,hp,_,q,e=>by
  rw [leads] at e
  split at e
  ·cases e
  ·split at e
   ·rename_i q' hq'
    have hm:=args_lt hU hp q' (List.mem_of_getElem? hq')
    by_cases hr:r=[]
    ·subst hr
     simp only [leads,Option.some.injEq] at e
     omega
    ·have:=lead_pos hU r q' hm.2 hr q e
     omega
   ·cases e
theorem walk_fits {L:List Sym} {U:List Int} (a:Int) (hU:IsT L U) (hcl:∀ k (h:k<U.length),0≤U[k]∧U[k]<(L.length:Int)):∀ (n:Nat) (paths:List (List Int)) (rows:List Rw) (qs:List Nat) (t:Tr n),FitN L U paths rows qs→(∀ p∈paths,p≠[])→(∀ x∈rows,∀ i∈x.2.2,0<i)→growF L n paths rows=.ok t→Found8 L U a rows qs (goF L U a n t)
 | 0,_,_,_,t,_,_,_,_=>t.elim
 | n+1,paths,rows,qs,t,h,hne,hpos,hg=>by
  rw [growF] at hg
  by_cases h0:rows.length=0
  ·rw [if_pos h0] at hg
   injection hg with hg
   subst hg
   have e:goF L U a (n+1) (3,0,[],[])=(2,0,[],0,0):=by simp [goF]
   rw [e]
   have hr:rows=[]:=List.eq_nil_of_length_eq_zero h0
   subst hr
   exact ⟨rfl,.inr (.inl rfl),fun x hx=>by simp at hx,fun e=>by simp at e,fun e=>by simp at e⟩
  ·rw [if_neg h0] at hg
   cases hp:partN rows paths.length with
   | none=>
    rw [hp] at hg
    simp only at hg
    by_cases h1:rows.length=1
    ·rw [if_pos h1] at hg
     injection hg with hg
     subst hg
     obtain ⟨x,rfl⟩:=List.length_eq_one_iff.1 h1
     have e:goF L U a (n+1) (1,([x].headD (0,[],[])).1,[],[])=(1,x.1,[],0,0):=by simp [goF]
     rw [e]
     obtain ⟨r1,r2,r3⟩:=h.row x (by simp)
     have hv:fitX L U x qs=true:=fit_vars hU (fun i hi=>by
      obtain ⟨c,hc,rfl⟩:=List.getElem_of_mem hi
      have h2:=r3 _ (List.getElem_mem hc)
      have h3:=partN_none hp c (by omega)
      simp only [conB,List.all_cons,List.all_nil,Bool.and_true,decide_eq_false_iff_not] at h3
      rw [numR_eq hc h2] at h3
      exact ⟨h2,by omega⟩) h.lt
     refine ⟨rfl,.inl rfl,fun y hy=>?_,fun _=>⟨x,by simp,rfl⟩,fun e=>by simp at e⟩
     obtain rfl:y=x:=by simpa using hy
     exact ⟨fun _=>⟨rfl,rfl⟩,fun _=>hv⟩
    ·rw [if_neg h1] at hg;cases hg
   | some c=>
    rw [hp] at hg
    simp only at hg
    obtain ⟨hc,hcon⟩:=partN_some hp
    have hq:c<qs.length:=by rw [← h.led.len];exact hc
    have hlt:=h.lt _ (List.getElem_mem hq)
    have hlead:=h.led.at hc hq
    have hnum:∀ x∈rows,0≤numR x c:=fun x hx=>by
     have:=List.all_eq_true.1 hcon x hx
     simpa using this
    obtain ⟨s,hs⟩:∃ s:Nat,U[qs[c]]=(s:Int):=⟨U[qs[c]].toNat,by have:=(hcl _ hlt).1;omega⟩
    have hsl:s<L.length:=by have:=(hcl _ hlt).2;omega
    cases hk:kidsN (fun s=>decide (0<(havR rows c (s:Int)).length)) (fun s=>growF L n (kidP L paths c s) ((havR rows c (s:Int)).map (kidX L c))) L.length with
    | error e=>rw [hk] at hg;cases hg
    | ok l=>
     rw [hk] at hg
     injection hg with hg
     subst hg
     have eg:U.getD qs[c] 0=(s:Int):=by rw [getD_lt hlt,hs]
     have e:goF L U a (n+1) (2,0,paths.getD c [],l)=if defB L (s:Int)=true then (3,0,paths.getD c [],a+(qs[c]:Nat),0) else (match kidOf (s:Int) l with | none=>(2,0,[],0,0) | some t=>goF L U a n t):=by
      rw [goF,if_pos rfl,getD_lt hc,hlead]
      simp only
      rw [eg] <;> rfl
     rw [e]
     have other:∀ x∈rows,numR x c≠(s:Int)→fitX L U x qs=false:=fun x hx hn=>fit_other hU h hc hq hx (hnum x hx) (by rw [hs];exact hn)
     by_cases hd:defB L (s:Int)=true
     ·rw [if_pos hd]
      refine ⟨rfl,.inr (.inr rfl),fun x hx=>?_,fun e=>by simp at e,fun _=>⟨qs[c],hlt,rfl,?_,by rw [hs];exact hd⟩⟩
      ·have hx0:fitX L U x qs=false:=other x hx (fun e=>by
        obtain ⟨r1,r2,r3⟩:=h.row x hx
        have h1:c<x.2.2.length:=by omega
        have h2:=r3 _ (List.getElem_mem h1)
        rw [numR_eq h1 h2] at e
        have:=h.low x hx _ h2 (hpos x hx _ (List.getElem_mem h1))
        rw [e,hd] at this
        cases this)
       rw [hx0]
       simp
      ·exact lead_pos hU _ 0 (by omega) (hne _ (List.getElem_mem hc)) _ hlead
     ·rw [if_neg hd]
      obtain ⟨k1,k2⟩:=kidsN_of hk s
      by_cases hh:0<(havR rows c (s:Int)).length
      ·obtain ⟨t', g1,g2⟩:=k1 hsl (by simpa using hh)
       rw [g2]
       simp only
       have hN:=h.kid hU hc hq hs
       have IH:=walk_fits a hU hcl n _ _ _ t' hN (fun p hp' => by
        unfold kidP at hp'
        rcases mem_repl hp' with e | e
        ·exact hne p e
        ·obtain ⟨i,_,rfl⟩:=List.mem_map.1 e
         simp) (fun y hy i hi=>by
        obtain ⟨x,hx,rfl⟩:=List.mem_map.1 hy
        obtain ⟨hx1,hx2⟩:=havR_mem hx
        obtain ⟨r1,r2,r3⟩:=h.row x hx1
        have h1:c<x.2.2.length:=by omega
        have h2:=r3 _ (List.getElem_mem h1)
        simp only [kidX] at hi
        rw [getD_lt h1] at hi
        rcases mem_repl hi with e | e
        ·exact hpos x hx1 i e
        ·have:=(args_lt r1 h2 i e).1;omega) g1
       have back:∀ x∈rows,numR x c=(s:Int)→kidX L c x∈(havR rows c (s:Int)).map (kidX L c):=fun x hx hn=>List.mem_map.2 ⟨x,by simp [havR,hx,hn],rfl⟩
       refine ⟨IH.err,IH.kind,fun x hx=>?_,fun e=>?_,IH.dem⟩
       ·by_cases hn:numR x c=(s:Int)
        ·rw [← fit_kid hU h hc hq hs hx hn]
         exact IH.fits _ (back x hx hn)
        ·rw [other x hx hn]
         refine ⟨fun e=>by simp at e,fun ⟨e1,e2⟩=>?_⟩
         obtain ⟨y,hy,ey⟩:=IH.one e1
         obtain ⟨z,hz,rfl⟩:=List.mem_map.1 hy
         obtain ⟨hz1,hz2⟩:=havR_mem hz
         have ez:z.1=x.1:=by rw [← e2,← ey];rfl
         have:=h.inj z hz1 x hx ez
         rw [this] at hz2
         exact absurd hz2 hn
       ·obtain ⟨y,hy,ey⟩:=IH.one e
        obtain ⟨z,hz,rfl⟩:=List.mem_map.1 hy
        exact ⟨z,(havR_mem hz).1,ey⟩
      ·rw [k2 (fun q=>hh (by simpa using q.2))]
       refine ⟨rfl,.inr (.inl rfl),fun x hx=>?_,fun e=>by simp at e,fun e=>by simp at e⟩
       have hn:numR x c≠(s:Int):=fun e=>hh (List.length_pos_of_mem (a:=x) (by simp [havR,hx,e]))
       rw [other x hx hn]
       simp
theorem vs_le:∀ (t o:List Int),(vs o t).length≤o.length+negN t
 | [],o=>by simp [vs_nil,negN]
 | x :: r,o=>by
  have e:vs o (x :: r)=vs (vstep o x) r:=rfl
  have h:=vs_le r (vstep o x)
  have hc:negN (x :: r)=negN r+if x<0 then 1 else 0:=by simp [negN,List.countP_cons]
  rw [e,hc]
  by_cases q:isV x=true∧¬ -x∈o
  ·have hx:x<0:=by have:=q.1;simp [isV] at this;omega
   have ev:vstep o x=o ++ [-x]:=by unfold vstep;rw [if_pos q]
   rw [ev] at h ⊢
   rw [if_pos hx]
   simp at h
   omega
  ·have ev:vstep o x=o:=by unfold vstep;rw [if_neg q]
   rw [ev] at h ⊢
   omega
theorem mw_fit {L:List Sym}:∀ (p:List Int) (k:Nat) (ts:List Int) (σ:Tb) (o:List Int),(vs o p).length=o.length+negN p→(∀ x∈p, -99≤x)→need L k p=some 0→need L k ts=some 0→(∀ n:Int,n<0→¬ -n∈o→σ (-n).toNat=[])→(mw L p ts σ).isSome=fitK L p k ts
 | [],k,ts,σ,o,_,_,h1,_,_=>by
  simp only [need,Option.some.injEq] at h1
  subst h1
  simp [mw,fitK]
 | n :: r,k,ts,σ,o,hv,hb,h1,h2,hs=>by
  have he:Even L (n :: r) ts:=⟨k,h1,h2⟩
  obtain ⟨x,ts', rfl,_,_⟩:=he.cons
  cases k with
  | zero=>simp [need] at h1
  | succ k=>
   simp only [need] at h1
   have e:vs o (n :: r)=vs (vstep o n) r:=rfl
   have hc:negN (n :: r)=negN r+if n<0 then 1 else 0:=by simp [negN,List.countP_cons]
   rw [e,hc] at hv
   have hb' : ∀ x∈r, -99≤x:=fun x hx=>hb x (List.mem_cons_of_mem _ hx)
   by_cases hn:0≤n
   ·have ev:vstep o n=o:=by unfold vstep;rw [if_neg (fun q=>by have:=q.1;simp [isV] at this;omega)]
    rw [ev,if_neg (by omega)] at hv
    rw [mw_sym hn,fitK_sym hn]
    by_cases ex:x=n
    ·subst ex
     simp only [need] at h2
     rw [if_pos rfl,mw_fit r _ ts' σ o (by omega) hb' h1 h2 hs]
     simp
    ·rw [if_neg ex];simp [ex]
   ·have hv99:isV n=true:=by have:=hb n (List.mem_cons_self ..);simp [isV];omega
    rw [if_pos (by omega)] at hv
    have hno:¬ -n∈o:=fun q=>by
     have ev:vstep o n=o:=by unfold vstep;rw [if_neg (fun z=>z.2 q)]
     rw [ev] at hv
     have:=vs_le r o
     omega
    have ev:vstep o n=o ++ [-n]:=by unfold vstep;rw [if_pos ⟨hv99,hno⟩]
    rw [ev] at hv
    rw [arN_neg hn,Nat.add_zero] at h1
    obtain ⟨m,g1,g2,g3⟩:=need_split (a:=1) (b:=k) (ts:=x :: ts') (by rw [Nat.add_comm];exact h2)
    have hh:(headT L (x :: ts')).length=m:=by rw [headT,g1,Option.getD_some,List.length_take];omega
    rw [mw_new hn (hs n (by omega) hno),fitK_var hn g1,hh]
    exact mw_fit r k _ _ (o ++ [-n]) (by simp;omega) hb' h1 g3 (fun z hz hzo=>by
     have hne:z≠n:=fun q=>hzo (by rw [q];simp)
     rw [upd_else (by omega)]
     exact hs z hz (fun q=>hzo (List.mem_append_left _ q)))
section
variable {L : List Sym} {R : List Ru} {T : List Int} {a : Nat}
theorem GoodR.lin (h:GoodR L R) {i:Nat} (hi:i<R.length):negN R[i].1=(varsL R[i].1).length:=by
 have:=h.2 i hi 3 (by omega)
 simpa [askB] using this
theorem good_match (h:GoodR L R) {i:Nat} (hi:i<R.length) (hc:checkE L T=0) (ha:a<T.length):matchE L R[i].1 T (a:Int)=0∧(matchS L R[i].1 T (a:Int)).isSome=fitK L R[i].1 1 (subN L T a):=by
 have hf:=h.facts hi
 have h1:=checkE_zero.1 hf.ok.1
 have hT:=checkE_zero.1 hc
 have e:matchE L R[i].1 T (a:Int)=0:=by
  unfold matchE placeE
  rw [if_neg (by simp [hf.ok.1]),if_neg (by simp [hc]),if_neg (by omega)]
 refine ⟨e,?_⟩
 unfold matchS
 rw [if_pos e,Int.toNat_natCast]
 have hl:=h.lin hi
 exact mw_fit _ 1 _ noT [] (by rw [hl];simp [varsL]) (fun x hx=>(badE_zero.1 h1.2.1 x hx).2) h1.2.2 (sub_need hT.2.2 ha) (fun _ _ _=>rfl)
theorem root_fit (h:GoodR L R) (hc:checkE L T=0) (hv:T.any (fun x=>decide (x<0))=false) (ha:a<T.length) {s:Nat} (hs:T[a]=(s:Int)) {t:Tr 2001} (ht:treeF L R s=.ok t) :
  ∃ F,goF L (subN L T a) (a:Int) 2001 t=F∧F.2.2.2.2=0∧(F.1=1∨F.1=2∨F.1=3)∧(∀ i (hi:i<R.length),((i:Nat):Int)∈ofF (s:Int) 0 R→((matchS L R[i].1 T (a:Int)).isSome=true ↔ (F.1=1∧F.2.1=(i:Int))))∧(F.1=3→∃ q:Nat,∃ hq:q<T.length,F.2.2.2.1=(q:Int)∧a<q∧q<endN L T a∧defB L T[q]=true):=by
 have hT:=checkE_zero.1 hc
 have hU:=sub_need hT.2.2 ha
 obtain ⟨hue,hul⟩:=sub_end hT.2.2 ha
 have hel:=endN_le hT.2.2 ha
 have hcl:∀ k (hk:k<(subN L T a).length),0≤(subN L T a)[k]∧(subN L T a)[k]<(L.length:Int):=fun k hk=>by
  rw [← at_sub hT.2.2 ha hk (by omega)]
  have hm:T[a+k]'(by omega)∈T:=List.getElem_mem _
  refine ⟨?_,(badE_zero.1 hT.2.1 _ hm).1⟩
  have hn:=List.any_eq_false.1 hv _ hm
  simpa using hn
 have hU0:(subN L T a)[0]'(by omega)=(s:Int):=by
  rw [← at_sub hT.2.2 ha (by omega) (by omega)];simpa using hs
 have hok:∀ x∈R,checkE L x.1=0∧checkE L x.2=0:=fun x hx=>by
  obtain ⟨i,hi,rfl⟩:=List.getElem_of_mem hx
  exact (h.facts hi).ok
 have hrow:∀ x∈rowsOf R (ofF (s:Int) 0 R),∃ j,∃ hj:j<R.length,x=((j:Int),R[j].1,[0])∧checkE L R[j].1=0∧0<R[j].1.length∧numR x 0=(s:Int):=fun x hx=>rows_fact hok hx
 have hN:FitN L (subN L T a) [[]] (rowsOf R (ofF (s:Int) 0 R)) [0]:=by
  refine ⟨⟨rfl,trivial⟩,fun q hq=>by simp at hq;omega,fun x hx=>?_,fun x hx=>?_,fun x hx y hy e=>?_⟩
  ·obtain ⟨j,hj,rfl,c1,c2,c3⟩:=hrow x hx
   exact ⟨(checkE_zero.1 c1).2.2,rfl,fun i hi=>by simp at hi;subst hi;exact c2⟩
  ·obtain ⟨j,hj,rfl,c1,c2,c3⟩:=hrow x hx
   exact (h.facts hj).low
  ·obtain ⟨j,hj,rfl,_⟩:=hrow x hx
   obtain ⟨j', hj', rfl,_⟩:=hrow y hy
   simp only at e
   have:j=j' := by omega
   subst this;rfl
 have hK:=hN.kid hU (c:=0) (s:=s) (by simp) (by simp) hU0
 have hav:havR (rowsOf R (ofF (s:Int) 0 R)) 0 (s:Int)=rowsOf R (ofF (s:Int) 0 R):=by
  unfold havR
  rw [List.filter_eq_self]
  intro x hx
  obtain ⟨j,hj,_,_,_,e⟩:=hrow x hx
  simpa using e
 rw [hav] at hK
 have hpos:∀ y∈rootR L R s,∀ i∈y.2.2,0<i:=fun y hy i hi=>by
  obtain ⟨x,hx,rfl⟩:=List.mem_map.1 hy
  obtain ⟨j,hj,rfl,c1,c2,c3⟩:=hrow x hx
  simp only [kidX] at hi
  have e:repl [0] 0 (argsN L R[j].1 (([0]:List Nat).getD 0 0))=argsN L R[j].1 0:=by simp [repl]
  rw [e] at hi
  exact (args_lt (checkE_zero.1 c1).2.2 c2 i hi).1
 have hne:∀ p∈rootP L s,p≠[]:=fun p hp=>by
  unfold rootP kidP at hp
  simp only [repl,List.take_zero,List.nil_append,List.drop_succ_cons,List.drop_nil,List.append_nil] at hp
  obtain ⟨i,_,rfl⟩:=List.mem_map.1 hp
  simp
 have W:=walk_fits (a:Int) hU hcl 2001 (rootP L s) (rootR L R s) _ t hK hne hpos ht
 refine ⟨_,rfl,W.err,W.kind,fun i hi hm=>?_,fun e=>?_⟩
 ·have hx:((i:Int),R[i].1,[0])∈rowsOf R (ofF (s:Int) 0 R):=by
   unfold rowsOf
   refine List.mem_map.2 ⟨(i:Int),hm,?_⟩
   simp [List.getD,hi]
  have hn:numR ((i:Int),R[i].1,[0]) 0=(s:Int):=by
   obtain ⟨j,hj,ej,_,_,e⟩:=hrow _ hx
   exact e
  have f1:=W.fits _ (List.mem_map.2 ⟨_,hx,rfl⟩)
  rw [fit_kid hU hN (c:=0) (s:=s) (by simp) (by simp) hU0 hx hn] at f1
  have e1:fitX L (subN L T a) ((i:Int),R[i].1,[0]) [0]=fitK L R[i].1 1 (subN L T a):=by
   simp [fitX,fitP8,fitA]
  rw [e1] at f1
  rw [(good_match h hi hc ha).2,f1]
  rfl
 ·obtain ⟨q,hq,e1,e2,e3⟩:=W.dem e
  refine ⟨a+q,by omega,by rw [e1];simp,by omega,by omega,?_⟩
  rw [at_sub hT.2.2 ha hq (by omega)]
  exact e3
end
theorem arg_ok {L:List Sym} {T:List Int} {p n q:Nat} (hp:p<T.length) (h:(argsN L T p)[n]? = some q):argI L true T (p:Int) (n:Int)=(q:Int):=by
 obtain ⟨hn,e⟩:=List.getElem?_eq_some_iff.1 h
 unfold argI
 rw [if_pos (by simp [idxB,hp]),Int.toNat_natCast,if_pos (by simp [idxB,hn]),Int.toNat_natCast,getD_lt hn,e]
theorem way_ok {L:List Sym} {T:List Int} (hT:IsT L T):∀ (path:List Int) (p q:Nat),p<T.length→leads L T p path=some q→wayI L true T (p:Int) path=(q:Int)
 | [],p,q,_,h=>by simp only [leads,Option.some.injEq] at h;subst h;rfl
 | n :: r,p,q,hp,h=>by
  rw [leads] at h
  split at h
  ·cases h
  ·rename_i hn
   split at h
   ·rename_i q' hq'
    have hm:=args_lt hT hp q' (List.mem_of_getElem? hq')
    have e:n=((n.toNat:Nat):Int):=by omega
    have ea:argI L true T (p:Int) n=(q' : Int):=by rw [e];exact arg_ok hp (by simpa using hq')
    have:=way_ok hT r q' q hm.2 h
    unfold wayI at this ⊢
    rw [List.foldl_cons,ea]
    exact this
   ·cases h
theorem headI_ok {T:List Int} {q:Nat} (hq:q<T.length):headI true T (q:Int)=T[q]:=by
 unfold headI
 rw [if_pos (by simp [idxB,hq]),Int.toNat_natCast,getD_lt hq]
theorem run_grown {L:List Sym} {T:List Int} {a:Nat} {E:List Int} (hT:IsT L T) (ha:a<T.length) (hcl:∀ k (h:k<(subN L T a).length),0≤(subN L T a)[k]∧(subN L T a)[k]<(L.length:Int)) (hE:∀ s:Nat,s<L.length→hasB E (s:Int)=defB L (s:Int)):∀ (n:Nat) (paths:List (List Int)) (rows:List Rw) (qs:List Nat) (t:Tr n),FitN L (subN L T a) paths rows qs→(∀ x∈rows,∀ i∈x.2.2,0<i)→growF L n paths rows=.ok t→runT L true T E (a:Int) n t=goF L (subN L T a) (a:Int) n t
 | 0,_,_,_,t,_,_,_=>t.elim
 | n+1,paths,rows,qs,t,h,hpos,hg=>by
  have hU:=sub_need hT ha
  obtain ⟨hue,hul⟩:=sub_end hT ha
  rw [growF] at hg
  by_cases h0:rows.length=0
  ·rw [if_pos h0] at hg
   injection hg with hg
   subst hg
   simp [runT,goF]
  ·rw [if_neg h0] at hg
   cases hp:partN rows paths.length with
   | none=>
    rw [hp] at hg
    simp only at hg
    by_cases h1:rows.length=1
    ·rw [if_pos h1] at hg
     injection hg with hg
     subst hg
     simp [runT,goF]
    ·rw [if_neg h1] at hg;cases hg
   | some c=>
    rw [hp] at hg
    simp only at hg
    obtain ⟨hc,hcon⟩:=partN_some hp
    have hq:c<qs.length:=by rw [← h.led.len];exact hc
    have hlt:=h.lt _ (List.getElem_mem hq)
    have hlead:=h.led.at hc hq
    obtain ⟨s,hs⟩:∃ s:Nat,(subN L T a)[qs[c]]=(s:Int):=⟨(subN L T a)[qs[c]].toNat,by have:=(hcl _ hlt).1;omega⟩
    have hsl:s<L.length:=by have:=(hcl _ hlt).2;omega
    cases hk:kidsN (fun s=>decide (0<(havR rows c (s:Int)).length)) (fun s=>growF L n (kidP L paths c s) ((havR rows c (s:Int)).map (kidX L c))) L.length with
    | error e=>rw [hk] at hg;cases hg
    | ok l=>
     rw [hk] at hg
     injection hg with hg
     subst hg
     have eg:(subN L T a).getD qs[c] 0=(s:Int):=by rw [getD_lt hlt,hs]
     have e:goF L (subN L T a) (a:Int) (n+1) (2,0,paths.getD c [],l)=if defB L (s:Int)=true then (3,0,paths.getD c [],(a:Int)+(qs[c]:Nat),0) else (match kidOf (s:Int) l with | none=>(2,0,[],0,0) | some t=>goF L (subN L T a) (a:Int) n t):=by
      rw [goF,if_pos rfl,getD_lt hc,hlead]
      simp only
      rw [eg] <;> rfl
     have hway:wayI L true T (a:Int) (paths.getD c [])=((a+qs[c]:Nat):Int):=by
      rw [getD_lt hc]
      have h2:=leads_sub hT ha paths[c] 0 (by omega)
      rw [hlead] at h2
      exact way_ok hT _ a _ ha h2
     have hhead:headI true T ((a+qs[c]:Nat):Int)=(s:Int):=by rw [headI_ok (by omega),at_sub hT ha hlt (by omega),hs]
     obtain ⟨k1,k2⟩:=kidsN_of hk s
     rw [e,runT,if_neg (by omega),if_pos rfl,hway,hhead,hE s hsl]
     by_cases hd:defB L (s:Int)=true
     ·have hno:¬ 0<(havR rows c (s:Int)).length:=fun hh=>by
       obtain ⟨x,hx⟩:=List.exists_mem_of_length_pos hh
       obtain ⟨hx1,hx2⟩:=havR_mem hx
       obtain ⟨r1,r2,r3⟩:=h.row x hx1
       have h1:c<x.2.2.length:=by omega
       have h2:=r3 _ (List.getElem_mem h1)
       rw [numR_eq h1 h2] at hx2
       have:=h.low x hx1 _ h2 (hpos x hx1 _ (List.getElem_mem h1))
       rw [hx2,hd] at this
       cases this
      rw [k2 (fun q=>hno (by simpa using q.2)),if_pos hd]
      simp [hd]
     ·have hd' : defB L (s:Int)=false:=by simpa using hd
      simp only [hd', Bool.false_eq_true,if_false]
      by_cases hh:0<(havR rows c (s:Int)).length
      ·obtain ⟨t', g1,g2⟩:=k1 hsl (by simpa using hh)
       rw [g2]
       simp only
       exact run_grown hT ha hcl hE n _ _ _ t' (h.kid hU hc hq hs) (fun y hy i hi=>by
        obtain ⟨x,hx,rfl⟩:=List.mem_map.1 hy
        obtain ⟨hx1,hx2⟩:=havR_mem hx
        obtain ⟨r1,r2,r3⟩:=h.row x hx1
        have h1:c<x.2.2.length:=by omega
        have h2:=r3 _ (List.getElem_mem h1)
        simp only [kidX] at hi
        rw [getD_lt h1] at hi
        rcases mem_repl hi with e | e
        ·exact hpos x hx1 i e
        ·have:=(args_lt r1 h2 i e).1;omega) g1
      ·rw [k2 (fun q=>hh (by simpa using q.2))]
theorem cmp_at {L:List Sym} {R:List Ru} (hall:∀ k,k<L.length→defB L (k:Int)=true→∃ t,treeF L R k=.ok t):∀ k,k≤L.length→(cmpS L R k).2.length=k∧∀ n,n<k→if defB L (n:Int)=true then ∃ (t:Tr 2001) (s:St9),treeF L R n=.ok t∧(cmpS L R k).2[n]? = some (s.1.length:Int)∧(∀ j,s.1.length≤j→j<(layS 2001 t s).1.length→(cmpS L R k).1.1[j]? = (layS 2001 t s).1[j]?)∧(∀ j,s.2.length≤j→j<(layS 2001 t s).2.length→(cmpS L R k).1.2[j]? = (layS 2001 t s).2[j]?)∧(layS 2001 t s).1.length≤(cmpS L R k).1.1.length∧(layS 2001 t s).2.length≤(cmpS L R k).1.2.length else (cmpS L R k).2[n]? = some (-1)
 | 0,_=>⟨rfl,fun n h=>absurd h (by omega)⟩
 | k+1,hk=>by
  obtain ⟨e1,ih⟩:=cmp_at hall k (by omega)
  cases hd:defB L (k:Int) with
  | false=>
   rw [cmpS_no hd]
   refine ⟨by simp [e1],fun n hn=>?_⟩
   by_cases e:n=k
   ·subst e
    rw [if_neg (by rw [hd];simp)]
    simp only
    rw [List.getElem?_append_right (by omega),e1,Nat.sub_self]
    rfl
   ·have:=ih n (by omega)
    by_cases hdn:defB L (n:Int)=true
    ·rw [if_pos hdn] at this ⊢
     obtain ⟨t,s,h1,h2,h3⟩:=this
     exact ⟨t,s,h1,by simp only;rw [List.getElem?_append_left (by omega)];exact h2,h3⟩
    ·rw [if_neg hdn] at this ⊢
     simp only
     rw [List.getElem?_append_left (by omega)];exact this
  | true=>
   obtain ⟨t,ht⟩:=hall k (by omega) hd
   rw [cmpS_yes hd ht]
   obtain ⟨p1,p2,p3,p4⟩:=layS_pre 2001 t (cmpS L R k).1
   refine ⟨by simp [e1],fun n hn=>?_⟩
   by_cases e:n=k
   ·subst e
    rw [if_pos hd]
    exact ⟨t,(cmpS L R n).1,ht,by simp [e1],fun j _ _=>rfl,fun j _ _=>rfl,Nat.le_refl _,Nat.le_refl _⟩
   ·have:=ih n (by omega)
    by_cases hdn:defB L (n:Int)=true
    ·rw [if_pos hdn] at this ⊢
     obtain ⟨t', s,h1,h2,h3,h4,h5,h6⟩:=this
     refine ⟨t', s,h1,by simp only;rw [List.getElem?_append_left (by omega)];exact h2,fun j j1 j2=>?_,fun j j1 j2=>?_,by simp only;omega,by simp only;omega⟩
     ·simp only;rw [p1 j (by omega)];exact h3 j j1 j2
     ·simp only;rw [p2 j (by omega)];exact h4 j j1 j2
    ·rw [if_neg hdn] at this ⊢
     simp only
     rw [List.getElem?_append_left (by omega)];exact this
theorem cmp_has {L:List Sym} {R:List Ru} (hall:∀ k,k<L.length→defB L (k:Int)=true→∃ t,treeF L R k=.ok t) (s:Nat) (hs:s<L.length):hasB (cmpS L R L.length).2 (s:Int)=defB L (s:Int):=by
 obtain ⟨e1,h⟩:=cmp_at hall L.length (Nat.le_refl _)
 have:=h s hs
 unfold hasB
 by_cases hd:defB L (s:Int)=true
 ·rw [if_pos hd] at this
  obtain ⟨t,z,_,h2,_⟩:=this
  have e2:(cmpS L R L.length).2.getD (s:Int).toNat (-1)=(z.1.length:Int):=by rw [Int.toNat_natCast,List.getD,h2];rfl
  rw [hd,e2]
  simp [idxB,e1,hs]
 ·rw [if_neg hd] at this
  have hd' : defB L (s:Int)=false:=by simpa using hd
  have e2:(cmpS L R L.length).2.getD (s:Int).toNat (-1) = -1:=by rw [Int.toNat_natCast,List.getD,this];rfl
  rw [hd', e2]
  simp
theorem code_walk {L:List Sym} {R:List Ru} {T:List Int} {a:Nat} (hall:∀ k,k<L.length→defB L (k:Int)=true→∃ t,treeF L R k=.ok t) (h:GoodR L R) (hc:checkE L T=0) (hv:T.any (fun x=>decide (x<0))=false) (ha:a<T.length) {s:Nat} (hs:T[a]=(s:Int)) {t:Tr 2001} (ht:treeF L R s=.ok t) (hd:defB L (s:Int)=true) (hsl:s<L.length) :
  codeF L true T (cmpS L R L.length).1.1 (cmpS L R L.length).1.2 (cmpS L R L.length).2 (s:Int) (a:Int)=goF L (subN L T a) (a:Int) 2001 t:=by
 have hT:=checkE_zero.1 hc
 have hU:=sub_need hT.2.2 ha
 obtain ⟨hue,hul⟩:=sub_end hT.2.2 ha
 have hel:=endN_le hT.2.2 ha
 have hcl:∀ k (hk:k<(subN L T a).length),0≤(subN L T a)[k]∧(subN L T a)[k]<(L.length:Int):=fun k hk=>by
  rw [← at_sub hT.2.2 ha hk (by omega)]
  have hm:T[a+k]'(by omega)∈T:=List.getElem_mem _
  refine ⟨?_,(badE_zero.1 hT.2.1 _ hm).1⟩
  have hn:=List.any_eq_false.1 hv _ hm
  simpa using hn
 have hU0:(subN L T a)[0]'(by omega)=(s:Int):=by
  rw [← at_sub hT.2.2 ha (by omega) (by omega)];simpa using hs
 have hok:∀ x∈R,checkE L x.1=0∧checkE L x.2=0:=fun x hx=>by
  obtain ⟨i,hi,rfl⟩:=List.getElem_of_mem hx
  exact (h.facts hi).ok
 have hrow:∀ x∈rowsOf R (ofF (s:Int) 0 R),∃ j,∃ hj:j<R.length,x=((j:Int),R[j].1,[0])∧checkE L R[j].1=0∧0<R[j].1.length∧numR x 0=(s:Int):=fun x hx=>rows_fact hok hx
 have hN:FitN L (subN L T a) [[]] (rowsOf R (ofF (s:Int) 0 R)) [0]:=by
  refine ⟨⟨rfl,trivial⟩,fun q hq=>by simp at hq;omega,fun x hx=>?_,fun x hx=>?_,fun x hx y hy e=>?_⟩
  ·obtain ⟨j,hj,rfl,c1,c2,c3⟩:=hrow x hx
   exact ⟨(checkE_zero.1 c1).2.2,rfl,fun i hi=>by simp at hi;subst hi;exact c2⟩
  ·obtain ⟨j,hj,rfl,c1,c2,c3⟩:=hrow x hx
   exact (h.facts hj).low
  ·obtain ⟨j,hj,rfl,_⟩:=hrow x hx
   obtain ⟨j', hj', rfl,_⟩:=hrow y hy
   simp only at e
   have:j=j' := by omega
   subst this;rfl
 have hK:=hN.kid hU (c:=0) (s:=s) (by simp) (by simp) hU0
 have hav:havR (rowsOf R (ofF (s:Int) 0 R)) 0 (s:Int)=rowsOf R (ofF (s:Int) 0 R):=by
  unfold havR
  rw [List.filter_eq_self]
  intro x hx
  obtain ⟨j,hj,_,_,_,e⟩:=hrow x hx
  simpa using e
 rw [hav] at hK
 have hpos:∀ y∈rootR L R s,∀ i∈y.2.2,0<i:=fun y hy i hi=>by
  obtain ⟨x,hx,rfl⟩:=List.mem_map.1 hy
  obtain ⟨j,hj,rfl,c1,c2,c3⟩:=hrow x hx
  simp only [kidX] at hi
  have e:repl [0] 0 (argsN L R[j].1 (([0]:List Nat).getD 0 0))=argsN L R[j].1 0:=by simp [repl]
  rw [e] at hi
  exact (args_lt (checkE_zero.1 c1).2.2 c2 i hi).1
 have hE:=cmp_has hall
 obtain ⟨e1,hat⟩:=cmp_at hall L.length (Nat.le_refl _)
 have:=hat s hsl
 rw [if_pos hd] at this
 obtain ⟨t', z,h1,h2,h3,h4,h5,h6⟩:=this
 rw [ht] at h1
 injection h1 with h1
 subst h1
 unfold codeF
 rw [if_pos (by rw [hE s hsl,hd])]
 have e2:((cmpS L R L.length).2.getD (s:Int).toNat (-1)).toNat=z.1.length:=by rw [Int.toNat_natCast];simp [List.getD,h2]
 rw [e2,run_tree 2001 t z _ h3 h4 (by omega)]
 exact run_grown hT.2.2 ha hcl hE 2001 (rootP L s) (rootR L R s) _ t hK hpos ht
end Go.Proofs.YtdhiiicppcgkbaaGreat
namespace Go.Proofs.YtdhiiicppcgkbaaGreat
set_option maxRecDepth 100000
set_option linter.unusedVariables false
open Go.RowKit
attribute [local go_sem ↓] Go.wp_at_zero Go.wp_at_succ
structure Lent7 (base:Nat) (w:World) (v:Value) (l:List Ru) (k:Nat) (vs:List Value) (f:Nat→Nat):Prop where
 row:w.ownsRow base 98 2 v k vs
 le:k≤l.length
 lo:∀ i,i<k * 2→base≤f i∧f i<w.heap.size
 up:∀ i j,i<j→j<k * 2→f i<f j
 one:∀ i (h:i<l.length),i<k→vs[i * 2]? = some (.slice (some ⟨f (i * 2),0,none⟩) l[i].1.length (l[i].1.length+1))∧Row base w (.slice (some ⟨f (i * 2),0,none⟩) (l[i].1.length+1) (l[i].1.length+1)) (l[i].1 ++ [77])
 two:∀ i (h:i<l.length),i<k→vs[i * 2+1]? = some (.slice (some ⟨f (i * 2+1),0,none⟩) l[i].2.length (l[i].2.length+1))∧Row base w (.slice (some ⟨f (i * 2+1),0,none⟩) (l[i].2.length+1) (l[i].2.length+1)) (l[i].2 ++ [78])
structure Left7 (base:Nat) (w:World) (gv:Nat) (l:List Ru) (k:Nat) (f:Nat→Nat):Prop where
 blk:∃ cur,w.heap[gv]? = some (.cells cur 98 (0,0))∧l.length * 2≤cur.size∧∀ i (h:i<l.length),k≤i→cur[i * 2]? = some (.slice (some ⟨f (i * 2),0,none⟩) l[i].1.length (l[i].1.length+1))∧cur[i * 2+1]? = some (.slice (some ⟨f (i * 2+1),0,none⟩) l[i].2.length (l[i].2.length+1))
 ge:base≤gv∧∀ i,i<l.length * 2→base≤f i
 up:∀ i j,i<j→j<l.length * 2→f i<f j
 one:∀ i (h:i<l.length),k≤i→Row base w (.slice (some ⟨f (i * 2),0,none⟩) (l[i].1.length+1) (l[i].1.length+1)) (l[i].1 ++ [77])
 two:∀ i (h:i<l.length),k≤i→Row base w (.slice (some ⟨f (i * 2+1),0,none⟩) (l[i].2.length+1) (l[i].2.length+1)) (l[i].2 ++ [78])
theorem step_ownT {wb W : World} {ops : Array Oper} {o : Oper} {a : Act} {K : Act → World → Prop} {Q : Exit → Act → World → Prop} {E : Prop} (hgd : o.guard = none) (s x : Operand)
    (ho : o.op = .call { callee := .builtin .append, args := #[s, x], argTypes := #[64, 64] })
    (B : Nat) (hs : a.eval s = .slice (some ⟨B, 0, none⟩) 0 0) (ys : List Int) (ad : Addr) (c : Nat) (hx : a.eval x = .slice (some ad) ys.length c)
    (hW : Same0 wb W) (hB : W.heap[B]? = some (.cells #[] 3 (0, 0))) (hb : wb.heap.size ≤ B) (hy : IntsAt wb (some ad) ys) (hn : 0 < ys.length) (hsz : ys.length ≤ 2000)
    (h : ∀ g cap w', TmAt w' g cap ys → wb.heap.size ≤ g → Same0 wb w' → (∀ g2 c2 zs, TmAt W g2 c2 zs → 0 < zs.length → TmAt w' g2 c2 zs) → (∀ q o, q ≠ B → W.heap[q]? = some o → w'.heap[q]? = some o) → K (a.put o.dst (.slice (some ⟨g, 0, none⟩) ys.length cap)) w') :
    if Region.wanted o (yielded ops a.tmps) = true then Oper.wp Tryz.prog o a W K Q else E := by
  obtain ⟨i, hi, hz0, hz1, hz2⟩ := info_parts info_intT
  have hBl := lt_of_at hB
  refine step_append_lies _ hgd s x 64 ho wb.heap.size 3 i _ 1 8 Tryz.underlying64 hi hz0 hz1 hz2 rfl (by decide) (.slice (some ⟨B, 0, none⟩) 0 0) 0 [] hs ⟨rfl, .inr ⟨B, 0, #[], rfl, hb, hB, Nat.le_refl _, by unfold maxLen; omega, rfl, rfl⟩⟩ ad ys.length c (iv ys) hx (by rw [iv_length]; omega) (fun j u hj => ?_) (iv_oneCell ys) hn (by unfold maxLen; omega) (by omega) hW.size W.heap.size rfl ?_
  · obtain ⟨ad', e, hc⟩ := (hy.same hW).src (by have := (List.getElem?_eq_some_iff.1 hj).1; omega)
    cases e
    exact hc j u hj
  · intro g cap w' hown hgrow hat hlt
    have k : Kept (fun k => k = B) W w' := Kept.grown (Kept.refl _ W) hgrow (fun _ e _ => by simp only [Value.ownBlock, Option.some.injEq] at e; exact e.symm)
    simp only [Nat.zero_add, List.nil_append] at hown ⊢
    refine h g cap w' ?_ (by rcases hat with e | e; · simp only [Value.ownBlock, Option.some.injEq] at e; omega
                             · have := hW.size; omega) (hW.trans (Kept.mono k (fun i hi e => e)) (fun i hi e => by omega)) (fun g2 c2 zs ht hz => ?_) (fun q o hq ho => k.at ho hq)
    · refine ⟨hown.1, .inr ?_⟩
      rcases hown.2 with ⟨e, _⟩ | ⟨g', c', cur, e, _, r⟩
      · cases e
      · cases e
        exact ⟨g, cap, cur, rfl, Nat.le_refl _, r⟩
    · refine k.row ht (fun q e hq => ?_)
      rcases ht.2 with ⟨e0, _⟩ | ⟨g', c', cur, e1, _, hg, h1, h2, h3, h4⟩
      · cases e0
      · cases e1
        simp only [Value.ownBlock, Option.some.injEq] at e
        subst e; subst hq
        rw [hB] at hg
        cases hg
        simp at h3
        omega
set_option maxHeartbeats 8000000 in
theorem rown_any {w:World} {a1 a2:Addr} {ac bc:Nat} {x:Ru} (h1:IntsAt w (some a1) x.1) (h2:IntsAt w (some a2) x.2) (p1:0<x.1.length) (p2:0<x.2.length) (m1:x.1.length≤2000) (m2:x.2.length≤2000) :
  Calls Tryz.prog 91 #[.agg #[.slice (some a1) x.1.length ac,.slice (some a2) x.2.length bc]] w fun e w' => ∃ g c g' c', e=.returned (.agg #[.slice (some ⟨g,0,none⟩) x.1.length c,.slice (some ⟨g', 0,none⟩) x.2.length c'])∧TmAt w' g c x.1∧TmAt w' g' c' x.2∧w.heap.size≤g∧w.heap.size≤g' ∧ Same0 w w' := by
 obtain ⟨wb,hwb⟩:∃ wb,wb=(w.alloc (.cells #[.slice (some a1) x.1.length ac,.slice (some a2) x.2.length bc] 98)).alloc (.cells #[.slice none 0 0,.slice none 0 0] 98):=⟨_,rfl⟩
 have K0:Same0 w wb:=by rw [hwb];exact ((Kept.refl _ w).alloc _).alloc _
 have z0:wb.heap.size=w.heap.size+2:=by rw [hwb];simp
 have B0:wb.heap[w.heap.size]? = some (.cells #[.slice (some a1) x.1.length ac,.slice (some a2) x.2.length bc] 98 (0,0)):=by rw [hwb];exact heap_alloc2_old _ _ _
 have B1:wb.heap[w.heap.size+1]? = some (.cells #[.slice none 0 0,.slice none 0 0] 98 (0,0)):=by rw [hwb];exact heap_al_al _ _ _
 have HS:Hid (∀ ww,Same0 wb ww→(ww.cell? ⟨w.heap.size,0,none⟩=some (.slice (some a1) x.1.length ac)∧ww.cell? ⟨w.heap.size,1,none⟩=some (.slice (some a2) x.2.length bc))∧(ww.cell? ⟨w.heap.size+1,0,none⟩=some (.slice none 0 0)∧ww.cell? ⟨w.heap.size+1,1,none⟩=some (.slice none 0 0))∧ww.frozen? ⟨w.heap.size+1,0,none⟩=false∧ww.frozen? ⟨w.heap.size+1,1,none⟩=false):=fun ww hk=>⟨⟨cellAt (hk.at0 B0) 0,cellAt (hk.at0 B0) 1⟩,⟨cellAt (hk.at0 B1) 0,cellAt (hk.at0 B1) 1⟩,frozenAt (hk.at0 B1) 0,frozenAt (hk.at0 B1) 1⟩
 have HEnd:Hid (∀ ww (A B:Value),Same0 wb ww→Same0 w ((ww.setCell ⟨w.heap.size+1,0,none⟩ A).setCell ⟨w.heap.size+1,1,none⟩ B)):=fun ww A B hk=>((K0.trans' hk).setCell (fun h=>absurd h (by simp)) _).setCell (fun h=>absurd h (by simp)) _
 have HT:Hid (∀ ww g c xs (A B:Value),TmAt ww g c xs→wb.heap.size≤g→TmAt ((ww.setCell ⟨w.heap.size+1,0,none⟩ A).setCell ⟨w.heap.size+1,1,none⟩ B) g c xs):=fun ww g c xs A B ht hg=>by
  have k:Kept (fun k=>k=w.heap.size+1) ww ((ww.setCell ⟨w.heap.size+1,0,none⟩ A).setCell ⟨w.heap.size+1,1,none⟩ B):=Kept.setCell (p:=⟨w.heap.size+1,1,none⟩) (Kept.setCell (p:=⟨w.heap.size+1,0,none⟩) (Kept.refl (fun k=>k=w.heap.size+1) ww) (fun _=>rfl) A) (fun _=>rfl) B
  exact k.row ht (fun i e=>by simp [Value.ownBlock] at e;omega)
 have HR:Hid (∀ ww (A B:Value),Same0 wb ww→((ww.setCell ⟨w.heap.size+1,0,none⟩ A).setCell ⟨w.heap.size+1,1,none⟩ B).cell? ⟨w.heap.size+1,0,none⟩=some A∧((ww.setCell ⟨w.heap.size+1,0,none⟩ A).setCell ⟨w.heap.size+1,1,none⟩ B).cell? ⟨w.heap.size+1,1,none⟩=some B):=fun ww A B hk=>by
  have b:=setAt (setAt (hk.at0 B1) 0 A) 1 B
  exact ⟨cellAt b 0,cellAt b 1⟩
 have I1:=h1.same K0
 have I2:=h2.same K0
 obtain ⟨⟨c00,c01⟩,⟨c10,c11⟩,f10,f11⟩:=HS.out wb (Kept.refl _ _)
 have HW:Hid (wb=(w.alloc (.cells #[.slice (some a1) x.1.length ac,.slice (some a2) x.2.length bc] 98)).alloc (.cells #[.slice none 0 0,.slice none 0 0] 98)):=hwb
 clear B0 B1 h1 h2 hwb
 go_enter Tryz.func91,Tryz.ntmps91
 go_wp2
 rw [← HW.out]
 have E0:(wb.alloc (.cells #[] 3)).heap[w.heap.size+2]? = some (.cells #[] 3 (0,0)):=by rw [← z0];exact heap_alloc_new _ _
 have E1:((wb.alloc (.cells #[] 3)).alloc (.cells #[] 3)).heap[w.heap.size+2]? = some (.cells #[] 3 (0,0)):=by rw [← z0];exact heap_alloc2_old _ _ _
 have E2:((wb.alloc (.cells #[] 3)).alloc (.cells #[] 3)).heap[w.heap.size+3]? = some (.cells #[] 3 (0,0)):=by have:=heap_alloc_new (wb.alloc (.cells #[] 3)) (.cells #[] 3 (0,0));rw [World.size_alloc,z0] at this;exact this
 have HE:Hid ((wb.alloc (.cells #[] 3)).heap[w.heap.size+2]? = some (.cells #[] 3 (0,0))∧((wb.alloc (.cells #[] 3)).alloc (.cells #[] 3)).heap[w.heap.size+2]? = some (.cells #[] 3 (0,0))∧((wb.alloc (.cells #[] 3)).alloc (.cells #[] 3)).heap[w.heap.size+3]? = some (.cells #[] 3 (0,0))):=⟨E0,E1,E2⟩
 have hz0:Hid (wb.heap.size=w.heap.size+2):=z0
 clear E0 E1 E2
 rename_i QQ KK hKK
 have FIN:Hid (∀ (t0 t1 t3 t4 t5 t6 t7 t8 t9 t10 t11:Value) (w2:World) (g c g' c' : Nat),Same0 wb w2→TmAt w2 g c x.1→TmAt w2 g' c' x.2→wb.heap.size≤g→wb.heap.size≤g' → KK { tmps:=#[t0,t1,.pointer (some ⟨w.heap.size+1,0,none⟩),t3,t4,t5,t6,t7,t8,t9,t10,t11],defers:=[] } ((w2.setCell ⟨w.heap.size+1,0,none⟩ (.slice (some ⟨g,0,none⟩) x.1.length c)).setCell ⟨w.heap.size+1,1,none⟩ (.slice (some ⟨g', 0,none⟩) x.2.length c'))):=by
  intro t0 t1 t3 t4 t5 t6 t7 t8 t9 t10 t11 w2 g c g' c' S3 T5 T3 G1 G3
  apply hKK
  clear HS I1 I2
  go_wp2
  exact bodyPost_ret (v:=.agg #[.slice (some ⟨g,0,none⟩) x.1.length c,.slice (some ⟨g', 0,none⟩) x.2.length c']) (by obtain ⟨r0,r1⟩:=HR.out w2 (.slice (some ⟨g,0,none⟩) x.1.length c) (.slice (some ⟨g', 0,none⟩) x.2.length c') S3;simp [results,Tryz.results91,go_sem,r0,r1]) rfl ⟨g,c,g', c', rfl,HT.out _ _ _ _ _ _ T5 G1,HT.out _ _ _ _ _ _ T3 G3,by omega,by omega,HEnd.out _ _ _ S3⟩
 clear HR HT HEnd
 go_region_law (first
  | (have T2:=T1;have hz:=hz0.out;have hzz:=S1.size;refine step_ownT (wb:=wb) (by rfl) _ _ (by rfl) _ (by rfl) x.2 a2 bc (by rfl) (by first | exact S1 | exact S1.alloc _) (by first | exact heap_alloc_new _ _ | exact X2 | exact X3) (by omega) I2 p2 m2 ?_;intro g' c' w2 T3 G3 S3 T4 _;obtain ⟨⟨e00,e01⟩,⟨e10,e11⟩,y10,y11⟩:=HS.out w2 S3;have T5:=T4 _ _ _ (by first | exact T2 | exact T2.same ((Kept.refl _ _).alloc _)) p1)
  | (have hz:=hz0.out;refine step_ownT (wb:=wb) (by rfl) _ _ (by rfl) _ (by rfl) x.1 a1 ac (by rfl) (by first | exact ((Kept.refl _ wb).alloc _).drew | exact (((Kept.refl _ wb).alloc _).alloc _).drew | exact (Kept.refl _ wb).drew.alloc _ | exact ((Kept.refl _ wb).drew.alloc _).alloc _) (by first | exact HE.out.1 | exact HE.out.2.1 | exact HE.out.2.2) (by omega) I1 p1 m1 ?_;intro g c w1 T1 G1 S1 T0 KQ;obtain ⟨⟨e00,e01⟩,⟨e10,e11⟩,y10,y11⟩:=HS.out w1 S1;obtain ⟨⟨_,e01'⟩,_⟩:=HS.out _ (S1.alloc (.cells #[] 3)); (try have X2:=KQ (w.heap.size+2) _ (by omega) HE.out.2.1); (try have X3:=KQ (w.heap.size+3) _ (by omega) HE.out.2.2);clear hz KQ T0))
 all_goals exact FIN.out _ _ _ _ _ _ _ _ _ _ _ w2 g c g' c' S3 T5 T3 G1 G3
end Go.Proofs.YtdhiiicppcgkbaaGreat
