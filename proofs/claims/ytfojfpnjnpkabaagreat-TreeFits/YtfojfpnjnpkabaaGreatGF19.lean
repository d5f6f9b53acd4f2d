import Derived.Test.YtfojfpnjnpkabaaGreatGF18
import Derived.Test.YtfojfpnjnpkabaaGreatGF17
import Derived.Test.YtfojfpnjnpkabaaGreatGF07
namespace Go.Proofs.YtfojfpnjnpkabaaGreat
set_option linter.unusedVariables false
def Led8 (L:List Sym) (U:List Int):List (List Int)→List Nat→Prop
 | [],[]=>True
 | p :: ps,q :: qs=>leads L U 0 p=some q∧Led8 L U ps qs
 | _,_=>False
theorem Led8.len {L:List Sym} {U:List Int}:∀ {a:List (List Int)} {b:List Nat},Led8 L U a b→a.length=b.length
 | [],[],_=>rfl
 | _ :: _,_ :: _,h=>by simp [Led8.len h.2]
 | [],_ :: _,h=>h.elim
 | _ :: _,[],h=>h.elim
theorem Led8.append {L:List Sym} {U:List Int}:∀ {a:List (List Int)} {b:List Nat} {c:List (List Int)} {d:List Nat},Led8 L U a b→Led8 L U c d→Led8 L U (a++c) (b++d)
 | [],[],_,_,_,h=>h
 | _ :: _,_ :: _,_,_,h,k=>⟨h.1,h.2.append k⟩
 | [],_ :: _,_,_,h,_=>h.elim
 | _ :: _,[],_,_,h,_=>h.elim
theorem Led8.take {L:List Sym} {U:List Int}:∀ {a:List (List Int)} {b:List Nat} (c:Nat),Led8 L U a b→Led8 L U (a.take c) (b.take c)
 | _,_,0,_=>by simp [Led8]
 | [],[],c+1,_=>by simp [Led8]
 | _ :: _,_ :: _,c+1,h=>⟨h.1,Led8.take c h.2⟩
 | [],_ :: _,_+1,h=>h.elim
 | _ :: _,[],_+1,h=>h.elim
theorem Led8.drop {L:List Sym} {U:List Int}:∀ {a:List (List Int)} {b:List Nat} (c:Nat),Led8 L U a b→Led8 L U (a.drop c) (b.drop c)
 | _,_,0,h=>h
 | [],[],c+1,_=>by simp [Led8]
 | _ :: _,_ :: _,c+1,h=>Led8.drop c h.2
 | [],_ :: _,_+1,h=>h.elim
 | _ :: _,[],_+1,h=>h.elim
theorem Led8.at {L:List Sym} {U:List Int}:∀ {a:List (List Int)} {b:List Nat} {c:Nat},Led8 L U a b→∀ (h1:c<a.length) (h2:c<b.length),leads L U 0 a[c]=some b[c]
 | _ :: _,_ :: _,0,h,_,_=>h.1
 | _ :: _,_ :: _,c+1,h,h1,h2=>Led8.at h.2 (by simpa using h1) (by simpa using h2)
 | [],_,_,_,h1,_=>by simp at h1
 | _ :: _,[],_,h,_,_=>h.elim
theorem led_args {L:List Sym} {U:List Int} {p:List Int} {q:Nat} (h:leads L U 0 p=some q):∀ (m:List Nat) (k:Nat),(∀ i (hi:i<m.length),(argsN L U q)[k+i]? = some m[i])→Led8 L U ((List.range' k m.length).map (fun (i:Nat)=>p ++ [(i:Int)])) m
 | [],_,_=>by simp [Led8]
 | x :: m,k,hm=>by
  rw [List.length_cons,List.range'_succ,List.map_cons]
  refine ⟨?_,led_args h m (k+1) (fun i hi=>?_)⟩
  ·rw [leads_append h,leads,if_neg (by omega),Int.toNat_natCast]
   have:=hm 0 (by simp)
   simp only [Nat.add_zero,List.getElem_cons_zero] at this
   rw [this];rfl
  ·have:=hm (i+1) (by simpa using hi)
   simpa [Nat.add_assoc,Nat.add_comm 1 i] using this
structure FitN (L:List Sym) (U:List Int) (paths:List (List Int)) (rows:List Rw) (qs:List Nat):Prop where
 led:Led8 L U paths qs
 lt:∀ q∈qs,q<U.length
 row:∀ x∈rows,IsT L x.2.1∧x.2.2.length=paths.length∧∀ i∈x.2.2,i<x.2.1.length
 low:∀ x∈rows,∀ k (h:k<x.2.1.length),0<k→defB L x.2.1[k]=false
 inj:∀ x∈rows,∀ y∈rows,x.1=y.1→x=y
def fitX (L:List Sym) (U:List Int) (x:Rw) (qs:List Nat):Bool:=fitP8 L x.2.1 U x.2.2 qs
theorem mem_repl {α:Type} {l m:List α} {c:Nat} {x:α} (h:x∈repl l c m):x∈l∨x∈m:=by
 unfold repl at h
 rcases List.mem_append.1 h with q | q
 ·rcases List.mem_append.1 q with q | q
  ·exact .inl (List.mem_of_mem_take q)
  ·exact .inr q
 ·exact .inl (List.mem_of_mem_drop q)
section
variable {L : List Sym} {U : List Int} {paths : List (List Int)} {rows : List Rw} {qs : List Nat}
theorem FitN.kid (hU:IsT L U) (h:FitN L U paths rows qs) {c s:Nat} (hc:c<paths.length) (hq:c<qs.length) (hs:U[qs[c]]'(h.lt _ (List.getElem_mem hq))=(s:Int)):FitN L U (kidP L paths c s) ((havR rows c (s:Int)).map (kidX L c)) (repl qs c (argsN L U qs[c])):=by
 have hlt:=h.lt _ (List.getElem_mem hq)
 have har:(argsN L U qs[c]).length=arN L (s:Int):=by rw [argsN_eq hlt,starts_length,hs]
 have key:∀ x∈havR rows c (s:Int),x∈rows∧∃ h1:c<x.2.2.length,∃ h2:x.2.2[c]<x.2.1.length,x.2.1[x.2.2[c]]=(s:Int)∧(argsN L x.2.1 x.2.2[c]).length=arN L (s:Int):=fun x hx=>by
  obtain ⟨a,b⟩:=havR_mem hx
  obtain ⟨r1,r2,r3⟩:=h.row x a
  have h1:c<x.2.2.length:=by omega
  have h2:=r3 _ (List.getElem_mem h1)
  rw [numR_eq h1 h2] at b
  exact ⟨a,h1,h2,b,by rw [argsN_eq h2,starts_length,b]⟩
 refine ⟨?_,?_,?_,?_,?_⟩
 ·unfold kidP repl
  refine (Led8.append (h.led.take c) ?_).append (h.led.drop (c+1))
  rw [getD_lt hc,← har,List.range_eq_range']
  exact led_args (h.led.at hc hq) _ 0 (fun i hi=>by rw [Nat.zero_add];exact List.getElem?_eq_getElem hi)
 ·intro q hq'
  rcases mem_repl hq' with e | e
  ·exact h.lt q e
  ·exact (args_lt hU hlt q e).2
 ·intro y hy
  obtain ⟨x,hx,rfl⟩:=List.mem_map.1 hy
  obtain ⟨a,h1,h2,b,d⟩:=key x hx
  obtain ⟨r1,r2,r3⟩:=h.row x a
  refine ⟨r1,?_,?_⟩
  ·simp only [kidX,kidP]
   rw [getD_lt h1,repl_length h1,repl_length hc,d]
   simp;omega
  ·intro i hi
   simp only [kidX] at hi
   rw [getD_lt h1] at hi
   rcases mem_repl hi with e | e
   ·exact r3 i e
   ·exact (args_lt r1 h2 i e).2
 ·intro y hy
  obtain ⟨x,hx,rfl⟩:=List.mem_map.1 hy
  exact h.low x (key x hx).1
 ·intro y hy z hz e
  obtain ⟨x,hx,rfl⟩:=List.mem_map.1 hy
  obtain ⟨x', hx', rfl⟩:=List.mem_map.1 hz
  have:=h.inj x (key x hx).1 x' (key x' hx').1 e
  rw [this]
theorem fit_kid (hU:IsT L U) (h:FitN L U paths rows qs) {c s:Nat} (hc:c<paths.length) (hq:c<qs.length) (hs:U[qs[c]]'(h.lt _ (List.getElem_mem hq))=(s:Int)) {x:Rw} (hx:x∈rows) (hn:numR x c=(s:Int)):fitX L U (kidX L c x) (repl qs c (argsN L U qs[c]))=fitX L U x qs:=by
 have hlt:=h.lt _ (List.getElem_mem hq)
 obtain ⟨r1,r2,r3⟩:=h.row x hx
 have h1:c<x.2.2.length:=by omega
 have h2:=r3 _ (List.getElem_mem h1)
 rw [numR_eq h1 h2] at hn
 have he:x.2.2.length=qs.length:=by rw [r2,h.led.len]
 have hm:(argsN L x.2.1 x.2.2[c]).length=(argsN L U qs[c]).length:=by rw [argsN_eq h2,argsN_eq hlt,starts_length,starts_length,hn,hs]
 unfold fitX
 rw [fitP8_at he h1 hq,fitA_sym r1 hU h2 hlt (by rw [hn];omega),hs,hn]
 simp only [kidX]
 rw [getD_lt h1,fitP8_repl he hm]
 simp
theorem fit_other (hU:IsT L U) (h:FitN L U paths rows qs) {c:Nat} (hc:c<paths.length) (hq:c<qs.length) {x:Rw} (hx:x∈rows) (h0:0≤numR x c) (hn:numR x c≠U[qs[c]]'(h.lt _ (List.getElem_mem hq))):fitX L U x qs=false:=by
 have hlt:=h.lt _ (List.getElem_mem hq)
 obtain ⟨r1,r2,r3⟩:=h.row x hx
 have h1:c<x.2.2.length:=by omega
 have h2:=r3 _ (List.getElem_mem h1)
 rw [numR_eq h1 h2] at hn h0
 have he:x.2.2.length=qs.length:=by rw [r2,h.led.len]
 unfold fitX
 rw [fitP8_at he h1 hq,fitA_sym r1 hU h2 hlt h0]
 simp [Ne.symm hn]
theorem fit_vars (hU:IsT L U) {p:List Int}:∀ {ps qs:List Nat},(∀ i∈ps,∃ h:i<p.length,p[i]<0)→(∀ q∈qs,q<U.length)→fitP8 L p U ps qs=true
 | [],_,_,_=>by simp [fitP8]
 | _ :: _,[],_,_=>by simp [fitP8]
 | i :: ps,q :: qs,h1,h2=>by
  obtain ⟨a,b⟩:=h1 i (List.mem_cons_self ..)
  rw [fitP8,fitA_var hU a (h2 q (List.mem_cons_self ..)) b,fit_vars hU (fun i hi=>h1 i (List.mem_cons_of_mem _ hi)) (fun q hq=>h2 q (List.mem_cons_of_mem _ hq))]
  rfl
end
theorem kidOf_snoc {α:Type} {s k:Int} {t:α}:∀ {l:List (Int × α)},kidOf s (l ++ [(k,t)])=match kidOf s l with | some x=>some x | none=>if k=s then some t else none
 | []=>by simp [kidOf]
 | x :: l=>by
  rw [List.cons_append,kidOf,kidOf]
  by_cases h:x.1=s
  ·rw [if_pos h,if_pos h]
  ·rw [if_neg h,if_neg h];exact kidOf_snoc
theorem kidsN_of {α : Type} {has : Nat → Bool} {g : Nat → Except Int α} : ∀ {m : Nat} {l : List (Int × α)}, kidsN has g m = .ok l → ∀ s : Nat, (s < m → has s = true → ∃ t, g s = .ok t ∧ kidOf (s : Int) l = some t) ∧ (¬ (s < m ∧ has s = true) → kidOf (s : Int) l = none)
  | 0, l, h, s => by
    simp only [kidsN, Except.ok.injEq] at h
    subst h
    exact ⟨fun e => absurd e (by omega), fun _ => rfl⟩
  | m + 1, l, h, s => by
    rw [kidsN] at h
    cases hk : kidsN has g m with
    | error e => rw [hk] at h; cases h
    | ok l' =>
      rw [hk] at h
      obtain ⟨ih1, ih2⟩ := kidsN_of hk s
      simp only at h
      by_cases hm : has m = true
      · rw [if_pos hm] at h
        cases hg : g m with
        | error e => rw [hg] at h; cases h
        | ok t =>
          rw [hg] at h
          simp only [Except.ok.injEq] at h
          subst h
          refine ⟨fun hs hh => ?_, fun hn => ?_⟩
          · rw [kidOf_snoc]
            by_cases e : s = m
            · subst e
              refine ⟨t, hg, ?_⟩
              rw [ih2 (by omega)]; simp
            · obtain ⟨t', h1, h2⟩ := ih1 (by omega) hh
              exact ⟨t', h1, by rw [h2]⟩
          · rw [kidOf_snoc, ih2 (fun q => hn ⟨by omega, q.2⟩)]
            simp only
            rw [if_neg (fun e => hn ⟨by omega, by have : m = s := by omega
                                                  rw [← this]; exact hm⟩)]
      · rw [if_neg hm] at h
        simp only [Except.ok.injEq] at h
        subst h
        refine ⟨fun hs hh => ih1 (by
          have : s ≠ m := fun e => hm (e ▸ hh)
          omega) hh, fun hn => ih2 (fun q => hn ⟨by omega, q.2⟩)⟩
structure Found8 (L:List Sym) (U:List Int) (a:Int) (rows:List Rw) (qs:List Nat) (R:Fd):Prop where
 err:R.2.2.2.2=0
 kind:R.1=1∨R.1=2∨R.1=3
 fits:∀ x∈rows,fitX L U x qs=true ↔ (R.1=1∧R.2.1=x.1)
 one:R.1=1→∃ y∈rows,y.1=R.2.1
 dem:R.1=3→∃ q:Nat,∃ h:q<U.length,R.2.2.2.1=a+q∧0<q∧defB L U[q]=true
theorem partN_none {rows:List Rw}:∀ {k:Nat},partN rows k=none→∀ c,c<k→conB rows c=false
 | 0,_,c,hc=>absurd hc (by omega)
 | k+1,h,c,hc=>by
  unfold partN at h
  cases hk:partN rows k with
  | some d=>rw [hk] at h;cases h
  | none=>
   rw [hk] at h
   simp only at h
   by_cases e:c=k
   ·subst e
    split at h
    ·cases h
    ·rename_i q;simpa using q
   ·exact partN_none hk c (by omega)
theorem lead_pos {L:List Sym} {U:List Int} (hU:IsT L U):∀ (path:List Int) (p:Nat),p<U.length→path≠[]→∀ q,leads L U p path=some q→p<q
 | [],_,_,h,_,_=>absurd rfl h
 | n :: r,p,hp,_,q,e=>by
  rw [leads] at e
  split at e
  ·cases e
  ·split at e
   ·rename_i q' hq'
    have hm:=args_lt hU hp q' (List.mem_of_getElem? hq')
    by_cases hr:r=[]
    ·subst hr
     simp only [leads,Option.some.injEq] at e
     omega
    ·have:=lead_pos hU r q' hm.2 hr q e
     omega
   ·cases e
theorem walk_fits {L:List Sym} {U:List Int} (a:Int) (hU:IsT L U) (hcl:∀ k (h:k<U.length),0≤U[k]∧U[k]<(L.length:Int)):∀ (n:Nat) (paths:List (List Int)) (rows:List Rw) (qs:List Nat) (t:Tr n),FitN L U paths rows qs→(∀ p∈paths,p≠[])→(∀ x∈rows,∀ i∈x.2.2,0<i)→growF L n paths rows=.ok t→Found8 L U a rows qs (goF L U a n t)
 | 0,_,_,_,t,_,_,_,_=>t.elim
 | n+1,paths,rows,qs,t,h,hne,hpos,hg=>by
  rw [growF] at hg
  by_cases h0:rows.length=0
  ·rw [if_pos h0] at hg
   injection hg with hg
   subst hg
   have e:goF L U a (n+1) (3,0,[],[])=(2,0,[],0,0):=by simp [goF]
   rw [e]
   have hr:rows=[]:=List.eq_nil_of_length_eq_zero h0
   subst hr
   exact ⟨rfl,.inr (.inl rfl),fun x hx=>by simp at hx,fun e=>by simp at e,fun e=>by simp at e⟩
  ·rw [if_neg h0] at hg
   cases hp:partN rows paths.length with
   | none=>
    rw [hp] at hg
    simp only at hg
    by_cases h1:rows.length=1
    ·rw [if_pos h1] at hg
     injection hg with hg
     subst hg
     obtain ⟨x,rfl⟩:=List.length_eq_one_iff.1 h1
     have e:goF L U a (n+1) (1,([x].headD (0,[],[])).1,[],[])=(1,x.1,[],0,0):=by simp [goF]
     rw [e]
     obtain ⟨r1,r2,r3⟩:=h.row x (by simp)
     have hv:fitX L U x qs=true:=fit_vars hU (fun i hi=>by
      obtain ⟨c,hc,rfl⟩:=List.getElem_of_mem hi
      have h2:=r3 _ (List.getElem_mem hc)
      have h3:=partN_none hp c (by omega)
      simp only [conB,List.all_cons,List.all_nil,Bool.and_true,decide_eq_false_iff_not] at h3
      rw [numR_eq hc h2] at h3
      exact ⟨h2,by omega⟩) h.lt
     refine ⟨rfl,.inl rfl,fun y hy=>?_,fun _=>⟨x,by simp,rfl⟩,fun e=>by simp at e⟩
     obtain rfl:y=x:=by simpa using hy
     exact ⟨fun _=>⟨rfl,rfl⟩,fun _=>hv⟩
    ·rw [if_neg h1] at hg;cases hg
   | some c=>
    rw [hp] at hg
    simp only at hg
    obtain ⟨hc,hcon⟩:=partN_some hp
    have hq:c<qs.length:=by rw [← h.led.len];exact hc
    have hlt:=h.lt _ (List.getElem_mem hq)
    have hlead:=h.led.at hc hq
    have hnum:∀ x∈rows,0≤numR x c:=fun x hx=>by
     have:=List.all_eq_true.1 hcon x hx
     simpa using this
    obtain ⟨s,hs⟩:∃ s:Nat,U[qs[c]]=(s:Int):=⟨U[qs[c]].toNat,by have:=(hcl _ hlt).1;omega⟩
    have hsl:s<L.length:=by have:=(hcl _ hlt).2;omega
    cases hk:kidsN (fun s=>decide (0<(havR rows c (s:Int)).length)) (fun s=>growF L n (kidP L paths c s) ((havR rows c (s:Int)).map (kidX L c))) L.length with
    | error e=>rw [hk] at hg;cases hg
    | ok l=>
     rw [hk] at hg
     injection hg with hg
     subst hg
     have eg:U.getD qs[c] 0=(s:Int):=by rw [getD_lt hlt,hs]
     have e:goF L U a (n+1) (2,0,paths.getD c [],l)=if defB L (s:Int)=true then (3,0,paths.getD c [],a+(qs[c]:Nat),0) else (match kidOf (s:Int) l with | none=>(2,0,[],0,0) | some t=>goF L U a n t):=by
      rw [goF,if_pos rfl,getD_lt hc,hlead]
      simp only
      rw [eg] <;> rfl
     rw [e]
     have other:∀ x∈rows,numR x c≠(s:Int)→fitX L U x qs=false:=fun x hx hn=>fit_other hU h hc hq hx (hnum x hx) (by rw [hs];exact hn)
     by_cases hd:defB L (s:Int)=true
     ·rw [if_pos hd]
      refine ⟨rfl,.inr (.inr rfl),fun x hx=>?_,fun e=>by simp at e,fun _=>⟨qs[c],hlt,rfl,?_,by rw [hs];exact hd⟩⟩
      ·have hx0:fitX L U x qs=false:=other x hx (fun e=>by
        obtain ⟨r1,r2,r3⟩:=h.row x hx
        have h1:c<x.2.2.length:=by omega
        have h2:=r3 _ (List.getElem_mem h1)
        rw [numR_eq h1 h2] at e
        have:=h.low x hx _ h2 (hpos x hx _ (List.getElem_mem h1))
        rw [e,hd] at this
        cases this)
       rw [hx0]
       simp
      ·exact lead_pos hU _ 0 (by omega) (hne _ (List.getElem_mem hc)) _ hlead
     ·rw [if_neg hd]
      obtain ⟨k1,k2⟩:=kidsN_of hk s
      by_cases hh:0<(havR rows c (s:Int)).length
      ·obtain ⟨t', g1,g2⟩:=k1 hsl (by simpa using hh)
       rw [g2]
       simp only
       have hN:=h.kid hU hc hq hs
       have IH:=walk_fits a hU hcl n _ _ _ t' hN (fun p hp' => by
        unfold kidP at hp'
        rcases mem_repl hp' with e | e
        ·exact hne p e
        ·obtain ⟨i,_,rfl⟩:=List.mem_map.1 e
         simp) (fun y hy i hi=>by
        obtain ⟨x,hx,rfl⟩:=List.mem_map.1 hy
        obtain ⟨hx1,hx2⟩:=havR_mem hx
        obtain ⟨r1,r2,r3⟩:=h.row x hx1
        have h1:c<x.2.2.length:=by omega
        have h2:=r3 _ (List.getElem_mem h1)
        simp only [kidX] at hi
        rw [getD_lt h1] at hi
        rcases mem_repl hi with e | e
        ·exact hpos x hx1 i e
        ·have:=(args_lt r1 h2 i e).1;omega) g1
       have back:∀ x∈rows,numR x c=(s:Int)→kidX L c x∈(havR rows c (s:Int)).map (kidX L c):=fun x hx hn=>List.mem_map.2 ⟨x,by simp [havR,hx,hn],rfl⟩
       refine ⟨IH.err,IH.kind,fun x hx=>?_,fun e=>?_,IH.dem⟩
       ·by_cases hn:numR x c=(s:Int)
        ·rw [← fit_kid hU h hc hq hs hx hn]
         exact IH.fits _ (back x hx hn)
        ·rw [other x hx hn]
         refine ⟨fun e=>by simp at e,fun ⟨e1,e2⟩=>?_⟩
         obtain ⟨y,hy,ey⟩:=IH.one e1
         obtain ⟨z,hz,rfl⟩:=List.mem_map.1 hy
         obtain ⟨hz1,hz2⟩:=havR_mem hz
         have ez:z.1=x.1:=by rw [← e2,← ey];rfl
         have:=h.inj z hz1 x hx ez
         rw [this] at hz2
         exact absurd hz2 hn
       ·obtain ⟨y,hy,ey⟩:=IH.one e
        obtain ⟨z,hz,rfl⟩:=List.mem_map.1 hy
        exact ⟨z,(havR_mem hz).1,ey⟩
      ·rw [k2 (fun q=>hh (by simpa using q.2))]
       refine ⟨rfl,.inr (.inl rfl),fun x hx=>?_,fun e=>by simp at e,fun e=>by simp at e⟩
       have hn:numR x c≠(s:Int):=fun e=>hh (List.length_pos_of_mem (a:=x) (by simp [havR,hx,e]))
       rw [other x hx hn]
       simp
end Go.Proofs.YtfojfpnjnpkabaaGreat
namespace Go.Proofs.YtfojfpnjnpkabaaGreat
set_option maxRecDepth 100000
set_option linter.unusedVariables false
open Go.RowKit
attribute [local go_sem ↓] Go.wp_at_zero Go.wp_at_succ
abbrev zeroC:Value:=.agg #[.int .i64 0,.int .i64 0,.slice none 0 0,.slice none 0 0]
def treeF (L:List Sym) (R:List Ru) (s:Nat):Except Int (Tr 2001):=growF L 2001 (rootP L s) (rootR L R s)
def BldPost (L:List Sym) (R:List Ru) (n:Int) (w:World) (e:Ending) (w' : World):Prop:=
 Same0 w w' ∧ if defB L n=true then
  (match treeF L R n.toNat with
  | .ok t=>∃ v,e=.returned (.tuple #[v,.nilIface])∧CsB (fun b=>w.heap.size≤b) w' 2001 v t
  | .error z=>∃ v,e=.returned (.tuple #[zeroC,v])∧FltAt w' [(81,n),(82,z)] v)
 else ∃ v,e=.returned (.tuple #[zeroC,v])∧FltAt w' [(80,0)] v
theorem ptr_nil (b:Nat) (w:World):(binOp .eql 26 (.pointer (some ⟨b,0,none⟩)) (.pointer none)).run Tryz.prog w=.ok (.bool false) w:=by kernel_rfl
theorem kidsN_err {α:Type} {has:Nat→Bool} {g:Nat→Except Int α} {z:Int}:∀ {k:Nat},kidsN has g k=.error z→∃ j,g j=.error z
 | 0,h=>by cases h
 | k+1,h=>by
  rw [kidsN] at h
  cases hk:kidsN has g k with
  | error e=>rw [hk] at h;cases h;exact kidsN_err hk
  | ok l=>
   rw [hk] at h
   simp only at h
   split at h
   ·cases hg:g k with
    | error e=>rw [hg] at h;cases h;exact ⟨k,hg⟩
    | ok t=>rw [hg] at h;cases h
   ·cases h
theorem growF_err {L:List Sym} {z:Int}:∀ {n:Nat} {P:List (List Int)} {R:List Rw},(∀ x∈R,0≤x.1)→growF L n P R=.error z→0≤z
 | 0,P,R,hR,h=>by rw [growF] at h;cases h;omega
 | n+1,P,R,hR,h=>by
  have hh:¬ R.length=0→0≤(R.headD (0,[],[])).1:=fun h0=>by
   cases R with
   | nil=>simp at h0
   | cons x r=>exact hR x (List.mem_cons_self ..)
  by_cases h0:R.length=0
  ·rw [growF_zero h0] at h;cases h
  ·cases hp:partN R P.length with
   | some c=>
    rw [growF_branch h0 hp] at h
    unfold BrF at h
    cases hk:KidsF L n P R c L.length with
    | ok l=>rw [hk] at h;cases h
    | error e=>
     rw [hk] at h
     cases h
     obtain ⟨j,hj⟩:=kidsN_err hk
     refine growF_err (fun x hx=>?_) hj
     obtain ⟨y,hy,rfl⟩:=List.mem_map.1 hx
     exact hR y (havR_mem hy).1
   | none=>
    by_cases h1:R.length=1
    ·rw [growF_leaf h1 hp] at h;cases h
    ·rw [growF_fork h0 h1 hp] at h;cases h;exact hh h0
set_option maxHeartbeats 16000000 in
theorem build_any {w:World} {b bs:Nat} {L:List Sym} {R:List Ru} {lv:Value} {vs:List Value} (h:StAt w b bs L R lv vs) (n:Int) :
  Calls Tryz.prog 9 #[.pointer (some ⟨b,0,none⟩),.int .i64 n] w (BldPost L R n w):=by
 have hpn:=ptr_nil
 have hle:=h.le
 have hok:=h.ok
 obtain ⟨W1,hW1⟩:∃ W1,W1=((w.alloc (.cells #[.int .i64 n] 3)).alloc zeroCs).alloc (.cells #[.nilIface] 37):=⟨_,rfl⟩
 have KW:Same0 w W1:=by rw [hW1];exact (((Kept.refl _ w).alloc _).alloc _).alloc _
 have ez:W1.heap.size=w.heap.size+1+1+1:=by rw [hW1];simp
 have BK:Hid (∀ ww,Same0 W1 ww→ww.heap[w.heap.size]? = some (.cells #[.int .i64 n] 3 (0,0))∧ww.heap[w.heap.size+1]? = some (.cells #[.int .i64 0,.int .i64 0,.slice none 0 0,.slice none 0 0] 35 (0,0))∧ww.heap[w.heap.size+1+1]? = some (.cells #[.nilIface] 37 (0,0))):=fun ww hk=>by
  have k1:Same0 (w.alloc (.cells #[.int .i64 n] 3)) W1:=by rw [hW1];exact ((Kept.refl _ _).alloc _).alloc _
  have k2:Same0 ((w.alloc (.cells #[.int .i64 n] 3)).alloc zeroCs) W1:=by rw [hW1];exact (Kept.refl _ _).alloc _
  have h3:=heap_al_al (w.alloc (.cells #[.int .i64 n] 3)) zeroCs (.cells #[.nilIface] 37)
  rw [World.size_alloc] at h3
  exact ⟨hk.at0 (k1.at0 (heap_alloc_new w _)),hk.at0 (k2.at0 (heap_al_al _ _ _)),hk.at0 (by rw [hW1];exact h3)⟩
 have RC:Hid (∀ ww,Same0 W1 ww→ww.cell? ⟨w.heap.size,0,none⟩=some (.int .i64 n)∧(ww.cell? ⟨w.heap.size+1,0,none⟩=some (.int .i64 0)∧ww.cell? ⟨w.heap.size+1,1,none⟩=some (.int .i64 0)∧ww.cell? ⟨w.heap.size+1,2,none⟩=some (.slice none 0 0)∧ww.cell? ⟨w.heap.size+1,3,none⟩=some (.slice none 0 0))∧(ww.frozen? ⟨w.heap.size+1,0,none⟩=false∧ww.frozen? ⟨w.heap.size+1,1,none⟩=false∧ww.frozen? ⟨w.heap.size+1,2,none⟩=false∧ww.frozen? ⟨w.heap.size+1,3,none⟩=false)∧ww.cell? ⟨w.heap.size+1+1,0,none⟩=some .nilIface∧ww.frozen? ⟨w.heap.size+1+1,0,none⟩=false):=fun ww hk=>by
  obtain ⟨h1,h2,h3⟩:=BK.out ww hk
  exact ⟨cellAt h1 0,⟨cellAt h2 0,cellAt h2 1,cellAt h2 2,cellAt h2 3⟩,⟨frozenAt h2 0,frozenAt h2 1,frozenAt h2 2,frozenAt h2 3⟩,cellAt h3 0,frozenAt h3 0⟩
 have CS:Hid (∀ ww,Same0 w ww→Calls Tryz.prog 30 #[.pointer (some ⟨b,0,none⟩)] ww fun e w' => ∃ bt,e=.returned (.pointer (some ⟨bt,0,none⟩))∧Hid (Sg w'.heap.size w' bt L)∧Same0 ww w'):=fun ww hk=>by
  refine (ssig_any (h.same hk)).mono ?_
  rintro e w' ⟨bt,rfl,hb,sv,mr,h1,h2,h3⟩
  exact ⟨bt,rfl,⟨⟨sv,mr,h1,fun k hk=>sig_foot_lt h1 k hk⟩,h.sig.2⟩,h3⟩
 have HST:Hid (∀ ww,Same0 w ww→StAt ww b bs L R lv vs):=fun ww hk=>h.same hk
 have PUT:Hid (∀ ww x0 x1 x2 x3 y,Same0 W1 ww→((((((ww.setCell ⟨w.heap.size+1,0,none⟩ x0).setCell ⟨w.heap.size+1,1,none⟩ x1).setCell ⟨w.heap.size+1,2,none⟩ x2).setCell ⟨w.heap.size+1,3,none⟩ x3).setCell ⟨w.heap.size+1+1,0,none⟩ y)).cell? ⟨w.heap.size+1,0,none⟩=some x0∧((((((ww.setCell ⟨w.heap.size+1,0,none⟩ x0).setCell ⟨w.heap.size+1,1,none⟩ x1).setCell ⟨w.heap.size+1,2,none⟩ x2).setCell ⟨w.heap.size+1,3,none⟩ x3).setCell ⟨w.heap.size+1+1,0,none⟩ y)).cell? ⟨w.heap.size+1,1,none⟩=some x1∧((((((ww.setCell ⟨w.heap.size+1,0,none⟩ x0).setCell ⟨w.heap.size+1,1,none⟩ x1).setCell ⟨w.heap.size+1,2,none⟩ x2).setCell ⟨w.heap.size+1,3,none⟩ x3).setCell ⟨w.heap.size+1+1,0,none⟩ y)).cell? ⟨w.heap.size+1,2,none⟩=some x2∧((((((ww.setCell ⟨w.heap.size+1,0,none⟩ x0).setCell ⟨w.heap.size+1,1,none⟩ x1).setCell ⟨w.heap.size+1,2,none⟩ x2).setCell ⟨w.heap.size+1,3,none⟩ x3).setCell ⟨w.heap.size+1+1,0,none⟩ y)).cell? ⟨w.heap.size+1,3,none⟩=some x3∧((((((ww.setCell ⟨w.heap.size+1,0,none⟩ x0).setCell ⟨w.heap.size+1,1,none⟩ x1).setCell ⟨w.heap.size+1,2,none⟩ x2).setCell ⟨w.heap.size+1,3,none⟩ x3).setCell ⟨w.heap.size+1+1,0,none⟩ y)).cell? ⟨w.heap.size+1+1,0,none⟩=some y∧Kept (fun q=>q=w.heap.size+1∨q=w.heap.size+1+1) ww ((((((ww.setCell ⟨w.heap.size+1,0,none⟩ x0).setCell ⟨w.heap.size+1,1,none⟩ x1).setCell ⟨w.heap.size+1,2,none⟩ x2).setCell ⟨w.heap.size+1,3,none⟩ x3).setCell ⟨w.heap.size+1+1,0,none⟩ y))∧Same0 w ((((((ww.setCell ⟨w.heap.size+1,0,none⟩ x0).setCell ⟨w.heap.size+1,1,none⟩ x1).setCell ⟨w.heap.size+1,2,none⟩ x2).setCell ⟨w.heap.size+1,3,none⟩ x3).setCell ⟨w.heap.size+1+1,0,none⟩ y))):=by
  intro ww x0 x1 x2 x3 y hk
  obtain ⟨h1,h2,h3⟩:=BK.out ww hk
  have s3:=setAt (setAt (setAt (setAt h2 0 x0) 1 x1) 2 x2) 3 x3
  have k1:=Kept.setCell (p:=⟨w.heap.size+1,0,none⟩) (Kept.refl (fun q=>q=w.heap.size+1) ww) (fun _=>rfl) x0
  have k2:=Kept.setCell (p:=⟨w.heap.size+1,1,none⟩) k1 (fun _=>rfl) x1
  have k3:=Kept.setCell (p:=⟨w.heap.size+1,2,none⟩) k2 (fun _=>rfl) x2
  have k4:=Kept.setCell (p:=⟨w.heap.size+1,3,none⟩) k3 (fun _=>rfl) x3
  have h3' := k4.at h3 (fun e=>by omega)
  have s4:=setAt h3' 0 y
  have k5:=Kept.setCell (p:=⟨w.heap.size+1+1,0,none⟩) (Kept.refl (fun q=>q=w.heap.size+1+1) ((((ww.setCell ⟨w.heap.size+1,0,none⟩ x0).setCell ⟨w.heap.size+1,1,none⟩ x1).setCell ⟨w.heap.size+1,2,none⟩ x2).setCell ⟨w.heap.size+1,3,none⟩ x3)) (fun _=>rfl) y
  have s3' := k5.at s3 (fun e=>by omega)
  have kk:Kept (fun q=>q=w.heap.size+1∨q=w.heap.size+1+1) ww ((((((ww.setCell ⟨w.heap.size+1,0,none⟩ x0).setCell ⟨w.heap.size+1,1,none⟩ x1).setCell ⟨w.heap.size+1,2,none⟩ x2).setCell ⟨w.heap.size+1,3,none⟩ x3).setCell ⟨w.heap.size+1+1,0,none⟩ y)):=Kept.trans (k4.mono (fun _ _ e=>.inl e)) k5 (fun _ _ e=>.inr e)
  exact ⟨cellAt s3' 0,cellAt s3' 1,cellAt s3' 2,cellAt s3' 3,cellAt s4 0,kk,Kept.trans (KW.trans' hk) kk (fun i hi e=>by omega)⟩
 clear h
 have C1:=CS.out W1 KW
 cases hd:defB L n with
 | false=>
  have FIN:Hid (∀ ww v,Same0 w ww→FltAt ww [(80,0)] v→BldPost L R n w (.returned (.tuple #[zeroC,v])) ww):=fun ww v hk hf=>⟨hk,by rw [hd];exact ⟨v,rfl,hf⟩⟩
  have CD:Hid (∀ ww bt,Same0 W1 ww→Sg ww.heap.size ww bt L→Calls Tryz.prog 31 #[.pointer (some ⟨bt,0,none⟩),.int .i64 n] ww fun e w' => e=.returned (.bool false)∧Same0 ww w'):=fun ww bt hk hs=>by rw [← hd];exact tdef_any hs n
  clear hd
  go_enter Tryz.func9,Tryz.ntmps9
  go_upto_region 1 with fail
  rw [← hW1]
  clear hW1
  go_upto_region 4 with (first | (go_at_call 30;refine C1.mono ?_;rintro e w2 ⟨bt,rfl,hs2,k2⟩))
  obtain ⟨r0,_⟩:=RC.out w2 k2
  have C2:=CD.out w2 bt k2 hs2.out
  go_upto_region 5 with (first | (go_at_call 31;refine C2.mono ?_;rintro e w3 ⟨rfl,k3⟩))
  have k13:=k2.trans' k3
  have ka:Same0 W1 (w3.alloc (.cells #[.int .i64 80,.int .i64 0,.nilIface] 84)):=Kept.alloc k13 _
  obtain ⟨_,⟨q0,q1,q2,q3⟩,⟨f0,f1,f2,f3⟩,q4,f4⟩:=RC.out _ ka
  have PP:=PUT.out _ (.int .i64 0) (.int .i64 0) (.slice none 0 0) (.slice none 0 0) (.iface 82 (.pointer (some ⟨w3.heap.size,0,none⟩))) ka
  have PH:Hid _:=PP
  clear PP
  go_wp2_with fail
  obtain ⟨g0,g1,g2,g3,g4,kk,ks⟩:=PH.out
  have hf:=kk.at (heap_alloc_new w3 _) (fun e=>by have:=k13.size;omega)
  exact bodyPost_ret (v:=.tuple #[zeroC,.iface 82 (.pointer (some ⟨w3.heap.size,0,none⟩))]) (by simp [results,Tryz.results9,go_sem,g0,g1,g2,g3,g4]) rfl (FIN.out _ _ ks (.inr ⟨by omega,_,_,rfl,hf,rfl⟩))
 | true=>
  obtain ⟨s,hs,rfl⟩:∃ s:Nat,s<L.length∧n=(s:Int):=by
   by_cases hx:n<0∨(L.length:Int)≤n
   ·rw [defB_no hx] at hd;cases hd
   ·exact ⟨n.toNat,by omega,by omega⟩
  have CD:Hid (∀ ww bt,Same0 W1 ww→Sg ww.heap.size ww bt L→Calls Tryz.prog 31 #[.pointer (some ⟨bt,0,none⟩),.int .i64 (s:Int)] ww fun e w' => e=.returned (.bool true)∧Same0 ww w'):=fun ww bt hk hs=>by rw [← hd];exact tdef_any hs _
  have CR:Hid (∀ ww bt,Same0 W1 ww→Sg ww.heap.size ww bt L→Calls Tryz.prog 34 #[.pointer (some ⟨bt,0,none⟩),.pointer (some ⟨b,0,none⟩),.int .i64 (s:Int)] ww fun e w' => ∃ po pc ro rc,e=.returned (.agg #[.pointer (some ⟨bt,0,none⟩),.slice po (rootP L s).length pc,.slice ro (rootR L R s).length rc])∧Hid (NdIn w' L 2001 bt po pc (rootP L s) ro (rootR L R s))∧Same0 ww w'):=fun ww bt hk hg=>rootOf_any hg (HST.out ww (KW.trans' hk)) hs
  have CG:Hid (∀ ww bt po pc ro rc,NdIn ww L 2001 bt po pc (rootP L s) ro (rootR L R s)→Calls Tryz.prog 35 #[.agg #[.pointer (some ⟨bt,0,none⟩),.slice po (rootP L s).length pc,.slice ro (rootR L R s).length rc]] ww (TreeOut ww (treeF L R s))):=fun ww bt po pc ro rc hi=>tgrow_any L 2001 ww bt po pc _ ro rc _ hi
  cases ht:treeF L R s with
  | ok t=>
   rw [ht] at CG
   have CG2:Hid (∀ ww bt po pc ro rc,NdIn ww L 2001 bt po pc (rootP L s) ro (rootR L R s)→Calls Tryz.prog 35 #[.agg #[.pointer (some ⟨bt,0,none⟩),.slice po (rootP L s).length pc,.slice ro (rootR L R s).length rc]] ww fun e w' => ∃ tk tr tpo tpl tpc tko tkl tkc,e=.returned (.agg #[.int .i64 tk,.int .i64 tr,.slice tpo tpl tpc,.slice tko tkl tkc])∧Hid (CsB (fun b=>ww.heap.size≤b) w' 2001 (.agg #[.int .i64 tk,.int .i64 tr,.slice tpo tpl tpc,.slice tko tkl tkc]) t)∧Same0 ww w'):=fun ww bt po pc ro rc hi=>by
    refine (CG.out ww bt po pc ro rc hi).mono ?_
    rintro e w' ⟨v,rfl,h1,h2⟩
    obtain ⟨tk,tr,tpo,tpl,tpc,tko,tkl,tkc,rfl⟩:=h1.shape
    exact ⟨tk,tr,tpo,tpl,tpc,tko,tkl,tkc,rfl,h1,h2⟩
   have FIN:Hid (∀ ww v,Same0 w ww→CsB (fun b=>w.heap.size≤b) ww 2001 v t→BldPost L R (s:Int) w (.returned (.tuple #[v,.nilIface])) ww):=fun ww v hk hf=>⟨hk,by rw [if_pos hd];simp only [Int.toNat_natCast];rw [ht];exact ⟨v,rfl,hf⟩⟩
   clear hd CG ht
   go_enter_defers Tryz.func9,Tryz.ntmps9
   go_upto_region 1 with fail
   rw [← hW1]
   clear hW1
   go_upto_region 4 with (first | (go_at_call 30;refine C1.mono ?_;rintro e w2 ⟨bt,rfl,hs2,k2⟩))
   obtain ⟨r0,_⟩:=RC.out w2 k2
   have C2:=CD.out w2 bt k2 hs2.out
   go_upto_region 7 with (first | (go_at_call 31;refine C2.mono ?_;rintro e w3 ⟨rfl,k3⟩))
   have k13:=k2.trans' k3
   obtain ⟨r3,_⟩:=RC.out w3 k13
   have C3:=CR.out w3 bt k13 (sg_up (hs2.out.same k3) k3.size)
   go_wp2_with (first
    | (go_at_call 34;refine C3.mono ?_;rintro e w4 ⟨po,pc,ro,rc,rfl,hi,k4⟩;have C4:=CG2.out w4 bt po pc ro rc hi.out)
    | (go_at_call 35;refine C4.mono ?_;rintro e w5 ⟨tk,tr,tpo,tpl,tpc,tko,tkl,tkc,rfl,hcs,k5⟩;have k15:=(k13.trans' k4).trans' k5;obtain ⟨_,⟨q0,q1,q2,q3⟩,⟨f0,f1,f2,f3⟩,q4,f4⟩:=RC.out _ k15))
   have PH:Hid _:=PUT.out w5 (.int .i64 tk) (.int .i64 tr) (.slice tpo tpl tpc) (.slice tko tkl tkc) .nilIface k15
   refine leaves_cons (f:=32) (args:=#[.pointer (some ⟨w.heap.size,0,none⟩),.pointer (some ⟨w.heap.size+1+1,0,none⟩)]) (by simp) (by simp [go_sem]) ?_
   refine (catch_none _).mono ?_
   rintro e u' w'' ⟨rfl,rfl,rfl⟩
   obtain ⟨g0,g1,g2,g3,g4,kk,ks⟩:=PH.out
   have z4:=(k13.trans' k4).size
   simp [Leaves,settle,results,Tryz.results9,go_sem,g0,g1,g2,g3,g4]
   exact FIN.out _ _ ks (CsB.mono (fun b hb q=>by have:w4.heap.size≤b:=q;omega) (CsB.kept kk (fun b q e=>by have:w4.heap.size≤b:=q;omega) hcs.out))
  | error z=>
   rw [ht] at CG
   have hz:0≤z:=by
    refine growF_err (fun x hx=>?_) ht
    obtain ⟨y,hy,rfl⟩:=List.mem_map.1 hx
    obtain ⟨j,hj,rfl,_⟩:=rows_fact hok hy
    show (0:Int)≤(j:Int)
    omega
   have CG2:Hid (∀ ww bt po pc ro rc,NdIn ww L 2001 bt po pc (rootP L s) ro (rootR L R s)→Calls Tryz.prog 35 #[.agg #[.pointer (some ⟨bt,0,none⟩),.slice po (rootP L s).length pc,.slice ro (rootR L R s).length rc]] ww fun e w' => ∃ k,e=.panicked [{ v:=.iface 82 (.pointer (some ⟨k,0,none⟩)),recovered:=false }]∧Hid (w'.heap[k]? = some (.cells #[.int .i64 82,.int .i64 z,.nilIface] 84 (0,0)))∧Same0 ww w'):=fun ww bt po pc ro rc hi=>by
    refine (CG.out ww bt po pc ro rc hi).mono ?_
    rintro e w' ⟨⟨k,h1,h2⟩,h3⟩
    exact ⟨k,h1,h2,h3⟩
   have FIN:Hid (∀ ww v,Same0 w ww→FltAt ww [(81,(s:Int)),(82,z)] v→BldPost L R (s:Int) w (.returned (.tuple #[zeroC,v])) ww):=fun ww v hk hf=>⟨hk,by rw [if_pos hd];simp only [Int.toNat_natCast];rw [ht];exact ⟨v,rfl,hf⟩⟩
   clear hd CG ht
   go_enter_defers Tryz.func9,Tryz.ntmps9
   go_upto_region 1 with fail
   rw [← hW1]
   clear hW1
   go_upto_region 4 with (first | (go_at_call 30;refine C1.mono ?_;rintro e w2 ⟨bt,rfl,hs2,k2⟩))
   obtain ⟨r0,_⟩:=RC.out w2 k2
   have C2:=CD.out w2 bt k2 hs2.out
   go_upto_region 7 with (first | (go_at_call 31;refine C2.mono ?_;rintro e w3 ⟨rfl,k3⟩))
   have k13:=k2.trans' k3
   obtain ⟨r3,_⟩:=RC.out w3 k13
   have C3:=CR.out w3 bt k13 (sg_up (hs2.out.same k3) k3.size)
   go_wp2_with (first
    | (go_at_call 34;refine C3.mono ?_;rintro e w4 ⟨po,pc,ro,rc,rfl,hi,k4⟩;have C4:=CG2.out w4 bt po pc ro rc hi.out)
    | (go_at_call 35;refine C4.mono ?_;rintro e w5 ⟨k,rfl,hk,k5⟩))
   have k15:=(k13.trans' k4).trans' k5
   obtain ⟨x0,⟨q0,q1,q2,q3⟩,⟨f0,f1,f2,f3⟩,q4,f4⟩:=RC.out _ k15
   obtain ⟨b1,b2,b3⟩:=BK.out w5 k15
   refine leaves_cons (f:=32) (args:=#[.pointer (some ⟨w.heap.size,0,none⟩),.pointer (some ⟨w.heap.size+1+1,0,none⟩)]) (by simp) (by simp [go_sem]) ?_
   refine (catch_fork k w5 x0 b3 (by omega)).mono ?_
   rintro e u' w6 ⟨rfl,rfl,q,h1,h2,k6⟩
   have b2' := k6.at b2 (fun e=>by omega)
   have g0:=cellAt b2' 0
   have g1:=cellAt b2' 1
   have g2:=cellAt b2' 2
   have g3:=cellAt b2' 3
   have g4:=cellAt h2 0
   simp only [List.getElem?_toArray,List.getElem?_cons_zero,List.getElem?_cons_succ] at g0 g1 g2 g3 g4
   have hk6:=k6.at hk.out (fun e=>by subst e;have:=hk.out;rw [b3] at this;cases this)
   have ks:Same0 w w6:=Kept.trans (KW.trans' k15) k6 (fun i hi e=>by omega)
   simp [Leaves,settle,results,Tryz.results9,go_sem,g0,g1,g2,g3,g4]
   exact FIN.out _ _ ks (.inr ⟨by omega,q,_,rfl,h1,.inr ⟨by omega,k,_,rfl,hk6,rfl⟩⟩)
end Go.Proofs.YtfojfpnjnpkabaaGreat
namespace Go.Proofs.YtfojfpnjnpkabaaGreat
set_option linter.unusedVariables false
theorem vs_le:∀ (t o:List Int),(vs o t).length≤o.length+negN t
 | [],o=>by simp [vs_nil,negN]
 | x :: r,o=>by
  have e:vs o (x :: r)=vs (vstep o x) r:=rfl
  have h:=vs_le r (vstep o x)
  have hc:negN (x :: r)=negN r+if x<0 then 1 else 0:=by simp [negN,List.countP_cons]
  rw [e,hc]
  by_cases q:isV x=true∧¬ -x∈o
  ·have hx:x<0:=by have:=q.1;simp [isV] at this;omega
   have ev:vstep o x=o ++ [-x]:=by unfold vstep;rw [if_pos q]
   rw [ev] at h ⊢
   rw [if_pos hx]
   simp at h
   omega
  ·have ev:vstep o x=o:=by unfold vstep;rw [if_neg q]
   rw [ev] at h ⊢
   omega
theorem mw_fit {L:List Sym}:∀ (p:List Int) (k:Nat) (ts:List Int) (σ:Tb) (o:List Int),(vs o p).length=o.length+negN p→(∀ x∈p, -99≤x)→need L k p=some 0→need L k ts=some 0→(∀ n:Int,n<0→¬ -n∈o→σ (-n).toNat=[])→(mw L p ts σ).isSome=fitK L p k ts
 | [],k,ts,σ,o,_,_,h1,_,_=>by
  simp only [need,Option.some.injEq] at h1
  subst h1
  simp [mw,fitK]
 | n :: r,k,ts,σ,o,hv,hb,h1,h2,hs=>by
  have he:Even L (n :: r) ts:=⟨k,h1,h2⟩
  obtain ⟨x,ts', rfl,_,_⟩:=he.cons
  cases k with
  | zero=>simp [need] at h1
  | succ k=>
   simp only [need] at h1
   have e:vs o (n :: r)=vs (vstep o n) r:=rfl
   have hc:negN (n :: r)=negN r+if n<0 then 1 else 0:=by simp [negN,List.countP_cons]
   rw [e,hc] at hv
   have hb' : ∀ x∈r, -99≤x:=fun x hx=>hb x (List.mem_cons_of_mem _ hx)
   by_cases hn:0≤n
   ·have ev:vstep o n=o:=by unfold vstep;rw [if_neg (fun q=>by have:=q.1;simp [isV] at this;omega)]
    rw [ev,if_neg (by omega)] at hv
    rw [mw_sym hn,fitK_sym hn]
    by_cases ex:x=n
    ·subst ex
     simp only [need] at h2
     rw [if_pos rfl,mw_fit r _ ts' σ o (by omega) hb' h1 h2 hs]
     simp
    ·rw [if_neg ex];simp [ex]
   ·have hv99:isV n=true:=by have:=hb n (List.mem_cons_self ..);simp [isV];omega
    rw [if_pos (by omega)] at hv
    have hno:¬ -n∈o:=fun q=>by
     have ev:vstep o n=o:=by unfold vstep;rw [if_neg (fun z=>z.2 q)]
     rw [ev] at hv
     have:=vs_le r o
     omega
    have ev:vstep o n=o ++ [-n]:=by unfold vstep;rw [if_pos ⟨hv99,hno⟩]
    rw [ev] at hv
    rw [arN_neg hn,Nat.add_zero] at h1
    obtain ⟨m,g1,g2,g3⟩:=need_split (a:=1) (b:=k) (ts:=x :: ts') (by rw [Nat.add_comm];exact h2)
    have hh:(headT L (x :: ts')).length=m:=by rw [headT,g1,Option.getD_some,List.length_take];omega
    rw [mw_new hn (hs n (by omega) hno),fitK_var hn g1,hh]
    exact mw_fit r k _ _ (o ++ [-n]) (by simp;omega) hb' h1 g3 (fun z hz hzo=>by
     have hne:z≠n:=fun q=>hzo (by rw [q];simp)
     rw [upd_else (by omega)]
     exact hs z hz (fun q=>hzo (List.mem_append_left _ q)))
section
variable {L : List Sym} {R : List Ru} {T : List Int} {a : Nat}
theorem GoodR.lin (h:GoodR L R) {i:Nat} (hi:i<R.length):negN R[i].1=(varsL R[i].1).length:=by
 have:=h.2 i hi 3 (by omega)
 simpa [askB] using this
theorem good_match (h:GoodR L R) {i:Nat} (hi:i<R.length) (hc:checkE L T=0) (ha:a<T.length):matchE L R[i].1 T (a:Int)=0∧(matchS L R[i].1 T (a:Int)).isSome=fitK L R[i].1 1 (subN L T a):=by
 have hf:=h.facts hi
 have h1:=checkE_zero.1 hf.ok.1
 have hT:=checkE_zero.1 hc
 have e:matchE L R[i].1 T (a:Int)=0:=by
  unfold matchE placeE
  rw [if_neg (by simp [hf.ok.1]),if_neg (by simp [hc]),if_neg (by omega)]
 refine ⟨e,?_⟩
 unfold matchS
 rw [if_pos e,Int.toNat_natCast]
 have hl:=h.lin hi
 exact mw_fit _ 1 _ noT [] (by rw [hl];simp [varsL]) (fun x hx=>(badE_zero.1 h1.2.1 x hx).2) h1.2.2 (sub_need hT.2.2 ha) (fun _ _ _=>rfl)
theorem root_fit (h:GoodR L R) (hc:checkE L T=0) (hv:T.any (fun x=>decide (x<0))=false) (ha:a<T.length) {s:Nat} (hs:T[a]=(s:Int)) {t:Tr 2001} (ht:treeF L R s=.ok t) :
  ∃ F,goF L (subN L T a) (a:Int) 2001 t=F∧F.2.2.2.2=0∧(F.1=1∨F.1=2∨F.1=3)∧(∀ i (hi:i<R.length),((i:Nat):Int)∈ofF (s:Int) 0 R→((matchS L R[i].1 T (a:Int)).isSome=true ↔ (F.1=1∧F.2.1=(i:Int))))∧(F.1=3→∃ q:Nat,∃ hq:q<T.length,F.2.2.2.1=(q:Int)∧a<q∧q<endN L T a∧defB L T[q]=true):=by
 have hT:=checkE_zero.1 hc
 have hU:=sub_need hT.2.2 ha
 obtain ⟨hue,hul⟩:=sub_end hT.2.2 ha
 have hel:=endN_le hT.2.2 ha
 have hcl:∀ k (hk:k<(subN L T a).length),0≤(subN L T a)[k]∧(subN L T a)[k]<(L.length:Int):=fun k hk=>by
  rw [← at_sub hT.2.2 ha hk (by omega)]
  have hm:T[a+k]'(by omega)∈T:=List.getElem_mem _
  refine ⟨?_,(badE_zero.1 hT.2.1 _ hm).1⟩
  have hn:=List.any_eq_false.1 hv _ hm
  simpa using hn
 have hU0:(subN L T a)[0]'(by omega)=(s:Int):=by
  rw [← at_sub hT.2.2 ha (by omega) (by omega)];simpa using hs
 have hok:∀ x∈R,checkE L x.1=0∧checkE L x.2=0:=fun x hx=>by
  obtain ⟨i,hi,rfl⟩:=List.getElem_of_mem hx
  exact (h.facts hi).ok
 have hrow:∀ x∈rowsOf R (ofF (s:Int) 0 R),∃ j,∃ hj:j<R.length,x=((j:Int),R[j].1,[0])∧checkE L R[j].1=0∧0<R[j].1.length∧numR x 0=(s:Int):=fun x hx=>rows_fact hok hx
 have hN:FitN L (subN L T a) [[]] (rowsOf R (ofF (s:Int) 0 R)) [0]:=by
  refine ⟨⟨rfl,trivial⟩,fun q hq=>by simp at hq;omega,fun x hx=>?_,fun x hx=>?_,fun x hx y hy e=>?_⟩
  ·obtain ⟨j,hj,rfl,c1,c2,c3⟩:=hrow x hx
   exact ⟨(checkE_zero.1 c1).2.2,rfl,fun i hi=>by simp at hi;subst hi;exact c2⟩
  ·obtain ⟨j,hj,rfl,c1,c2,c3⟩:=hrow x hx
   exact (h.facts hj).low
  ·obtain ⟨j,hj,rfl,_⟩:=hrow x hx
   obtain ⟨j', hj', rfl,_⟩:=hrow y hy
   simp only at e
   have:j=j' := by omega
   subst this;rfl
 have hK:=hN.kid hU (c:=0) (s:=s) (by simp) (by simp) hU0
 have hav:havR (rowsOf R (ofF (s:Int) 0 R)) 0 (s:Int)=rowsOf R (ofF (s:Int) 0 R):=by
  unfold havR
  rw [List.filter_eq_self]
  intro x hx
  obtain ⟨j,hj,_,_,_,e⟩:=hrow x hx
  simpa using e
 rw [hav] at hK
 have hpos:∀ y∈rootR L R s,∀ i∈y.2.2,0<i:=fun y hy i hi=>by
  obtain ⟨x,hx,rfl⟩:=List.mem_map.1 hy
  obtain ⟨j,hj,rfl,c1,c2,c3⟩:=hrow x hx
  simp only [kidX] at hi
  have e:repl [0] 0 (argsN L R[j].1 (([0]:List Nat).getD 0 0))=argsN L R[j].1 0:=by simp [repl]
  rw [e] at hi
  exact (args_lt (checkE_zero.1 c1).2.2 c2 i hi).1
 have hne:∀ p∈rootP L s,p≠[]:=fun p hp=>by
  unfold rootP kidP at hp
  simp only [repl,List.take_zero,List.nil_append,List.drop_succ_cons,List.drop_nil,List.append_nil] at hp
  obtain ⟨i,_,rfl⟩:=List.mem_map.1 hp
  simp
 have W:=walk_fits (a:Int) hU hcl 2001 (rootP L s) (rootR L R s) _ t hK hne hpos ht
 refine ⟨_,rfl,W.err,W.kind,fun i hi hm=>?_,fun e=>?_⟩
 ·have hx:((i:Int),R[i].1,[0])∈rowsOf R (ofF (s:Int) 0 R):=by
   unfold rowsOf
   refine List.mem_map.2 ⟨(i:Int),hm,?_⟩
   simp [List.getD,hi]
  have hn:numR ((i:Int),R[i].1,[0]) 0=(s:Int):=by
   obtain ⟨j,hj,ej,_,_,e⟩:=hrow _ hx
   exact e
  have f1:=W.fits _ (List.mem_map.2 ⟨_,hx,rfl⟩)
  rw [fit_kid hU hN (c:=0) (s:=s) (by simp) (by simp) hU0 hx hn] at f1
  have e1:fitX L (subN L T a) ((i:Int),R[i].1,[0]) [0]=fitK L R[i].1 1 (subN L T a):=by
   simp [fitX,fitP8,fitA]
  rw [e1] at f1
  rw [(good_match h hi hc ha).2,f1]
  rfl
 ·obtain ⟨q,hq,e1,e2,e3⟩:=W.dem e
  refine ⟨a+q,by omega,by rw [e1];simp,by omega,by omega,?_⟩
  rw [at_sub hT.2.2 ha hq (by omega)]
  exact e3
end
end Go.Proofs.YtfojfpnjnpkabaaGreat
