import Derived.Test.YtdlibbiaaejpmaaGreatTO07
import Derived.Test.YtdlibbiaaejpmaaGreatTO02
import Derived.Test.YtdlibbiaaejpmaaGreatTO01
import Derived.Test.YtdlibbiaaejpmaaGreatProg
import Derived.KernelRfl
import Derived.Handy
import Derived.LaidEql
import Derived.Stop.Asserts
import Derived.RowKitTokens
import Derived.Test.YtdlibbiaaejpmaaGreatTO05
import Derived.SizedLaws
import Derived.Deep.RegionHeld3
import Derived.Laws.AppendOwnNone
import Derived.Lib.AppendZeros
import Derived.Test.YtdlibbiaaejpmaaGreatTO03
import Derived.Test.YtdlibbiaaejpmaaGreatTO04
namespace Go.Proofs.YtdlibbiaaejpmaaGreat
set_option linter.unusedVariables false
abbrev Xw:=List Int × List Nat
def numX (x:Xw) (c:Nat):Int:=x.1.getD (x.2.getD c 0) (-1)
def kidY (L:List Sym) (c:Nat) (x:Xw):Xw:=(x.1,repl x.2 c (argsN L x.1 (x.2.getD c 0)))
def havX (R:List Xw) (c:Nat) (s:Int):List Xw:=R.filter (fun x=>decide (numX x c=s))
def kidS (L:List Sym) (R:List Xw) (c s:Nat):List Xw:=(havX R c (s:Int)).map (kidY L c)
inductive Can (L:List Sym):Nat→List Xw→Prop
 | leaf {k:Nat} {R:List Xw} (h:R.length≤1):Can L k R
 | node {k:Nat} {R:List Xw} (c:Nat) (hc:c<k) (h0:∀ x∈R,0≤numX x c) (hk:∀ s:Nat,s<L.length→Can L (k-1+arN L (s:Int)) (kidS L R c s)):Can L k R
theorem Can.fewer {L:List Sym} {k:Nat} {R:List Xw} (h:Can L k R):∀ {R' : List Xw},R'.Sublist R→Can L k R' := by
 induction h with
 | leaf h=>intro R' hs;exact .leaf (Nat.le_trans hs.length_le h)
 | node c hc h0 hk ih=>
  intro R' hs
  exact .node c hc (fun x hx=>h0 x (hs.subset hx)) (fun s hl=>ih s hl ((hs.filter _).map _))
theorem Can.perm {L:List Sym} {k:Nat} {R:List Xw} (h:Can L k R):∀ {R' : List Xw},R'.Perm R→Can L k R' := by
 induction h with
 | leaf h=>intro R' hs;exact .leaf (by rw [hs.length_eq];exact h)
 | node c hc h0 hk ih=>
  intro R' hs
  exact .node c hc (fun x hx=>h0 x (hs.mem_iff.1 hx)) (fun s hl=>ih s hl ((hs.filter _).map _))
theorem repl_at {α:Type} (A:List α) (a:α) (C m:List α):repl (A++a :: C) A.length m=A++m++C:=by
 simp [repl]
theorem two_at {α:Type} {l:List α} {c d:Nat} (hcd:c<d) (hd:d<l.length):∃ A a B b C,l=A++a :: (B++b :: C)∧A.length=c∧A.length+1+B.length=d:=by
 refine ⟨l.take c,l[c],(l.drop (c+1)).take (d-(c+1)),l[d],l.drop (d+1),?_,by simp;omega,by simp;omega⟩
 have e1:l.drop (c+1)=(l.drop (c+1)).take (d-(c+1))++l[d] :: l.drop (d+1):=by
  have e2:(l.drop (c+1)).drop (d-(c+1))=l[d] :: l.drop (d+1):=by
   rw [List.drop_drop,List.getElem_cons_drop]
   congr 1;omega
  rw [← e2,List.take_append_drop]
 rw [← e1,List.getElem_cons_drop,List.take_append_drop]
theorem repl_swap {α:Type} {l:List α} {c d:Nat} (hcd:c<d) (hd:d<l.length) (m n:List α):repl (repl l d n) c m=repl (repl l c m) (d-1+m.length) n:=by
 obtain ⟨A,a,B,b,C,rfl,rfl,rfl⟩:=two_at hcd hd
 have e1:repl (A++a :: (B++b :: C)) (A.length+1+B.length) n=A++a :: (B++n++C):=by
  have:=repl_at (A++a :: B) b C n
  simp at this
  rw [show A.length+1+B.length=A.length+(B.length+1) by omega]
  simpa using this
 rw [e1,repl_at,repl_at]
 have:=repl_at (A++m++B) b C n
 rw [show A.length+1+B.length-1+m.length=(A++m++B).length by simp;omega]
 simpa using this.symm
theorem repl_fst {α:Type} {l:List α} {c d:Nat} (hcd:c<d) (hd:d<l.length) (n:List α) (z:α):(repl l d n).getD c z=l.getD c z:=by
 have e:(List.take d l++(n++List.drop (d+1) l))[c]? = l[c]? := by
  rw [List.getElem?_append_left (by simp;omega),List.getElem?_take_of_lt hcd]
 unfold repl
 rw [List.append_assoc,List.getD_eq_getElem?_getD,e,List.getD_eq_getElem?_getD]
theorem repl_snd {α:Type} {l:List α} {c d:Nat} (hcd:c<d) (hd:d<l.length) (m:List α) (z:α):(repl l c m).getD (d-1+m.length) z=l.getD d z:=by
 obtain ⟨A,a,B,b,C,rfl,rfl,rfl⟩:=two_at hcd hd
 rw [repl_at]
 have e1:A.length+1+B.length-1+m.length=(A++m++B).length:=by simp;omega
 have e2:A++m++(B++b :: C)=(A++m++B)++b :: C:=by simp
 have e3:A++a :: (B++b :: C)=(A++a :: B)++b :: C:=by simp
 have e4:A.length+1+B.length=(A++a :: B).length:=by simp;omega
 rw [e1,e2,e3,e4]
 simp [List.getD]
def shC (d n c:Nat):Nat:=if c<d then c else c-1+n
theorem shC_swap {α:Type} {l:List α} {c d:Nat} (hne:c≠d) (hc:c<l.length) (hd:d<l.length) (m n:List α):repl (repl l d n) (shC d n.length c) m=repl (repl l c m) (shC c m.length d) n:=by
 unfold shC
 rcases Nat.lt_or_gt_of_ne hne with q | q
 ·rw [if_pos q,if_neg (by omega)]
  exact repl_swap q hd m n
 ·rw [if_neg (by omega),if_pos q]
  exact (repl_swap q hc n m).symm
theorem shC_getD {α:Type} {l:List α} {c d:Nat} (hne:c≠d) (hc:c<l.length) (hd:d<l.length) (n:List α) (z:α):(repl l d n).getD (shC d n.length c) z=l.getD c z:=by
 unfold shC
 rcases Nat.lt_or_gt_of_ne hne with q | q
 ·rw [if_pos q];exact repl_fst q hd n z
 ·rw [if_neg (by omega)];exact repl_snd q hc n z
def OkX (L:List Sym) (k:Nat) (R:List Xw):Prop:=∀ x∈R,IsT L x.1∧x.2.length=k∧∀ p∈x.2,p<x.1.length
theorem args_len {L:List Sym} {x:Xw} {k c s:Nat} (h2:x.2.length=k) (h3:∀ p∈x.2,p<x.1.length) (hc:c<k) (hn:numX x c=(s:Int)):(argsN L x.1 (x.2.getD c 0)).length=arN L (s:Int):=by
 have hc' : c<x.2.length:=by omega
 have hp:=h3 _ (List.getElem_mem hc')
 have e:numX x c=x.1[x.2[c]]:=numR_eq (x:=(0,x.1,x.2)) hc' hp
 rw [getD_lt hc', argsN_eq hp,starts_length,← e,hn]
theorem OkX.kid {L:List Sym} {k:Nat} {R:List Xw} (h:OkX L k R) {c s:Nat} (hc:c<k):OkX L (k-1+arN L (s:Int)) (kidS L R c s):=by
 intro y hy
 obtain ⟨x,hx,rfl⟩:=List.mem_map.1 hy
 have hx' : x∈R∧numX x c=(s:Int):=by simpa [havX] using hx
 obtain ⟨h1,h2,h3⟩:=h x hx'.1
 have hc' : c<x.2.length:=by omega
 have hp:=h3 _ (List.getElem_mem hc')
 obtain ⟨_,a2⟩:=args_wt h1 hp
 refine ⟨h1,?_,fun p hp' => ?_⟩
 ·show (repl x.2 c _).length=_
  rw [repl_length hc', args_len h2 h3 hc hx'.2,h2]
 ·have hp' : p∈repl x.2 c (argsN L x.1 (x.2.getD c 0)):=hp'
  rw [getD_lt hc'] at hp'
  rcases List.mem_append.1 hp' with q | q
  ·rcases List.mem_append.1 q with q | q
   ·exact h3 p (List.mem_of_mem_take q)
   ·exact a2 p q
  ·exact h3 p (List.mem_of_mem_drop q)
theorem num_kid {L:List Sym} {x:Xw} {k c d s:Nat} (h2:x.2.length=k) (h3:∀ p∈x.2,p<x.1.length) (hne:c≠d) (hc:c<k) (hd:d<k) (hn:numX x d=(s:Int)):numX (kidY L d x) (shC d (arN L (s:Int)) c)=numX x c:=by
 show x.1.getD ((repl x.2 d _).getD _ 0) (-1)=_
 rw [← args_len (L:=L) h2 h3 hd hn,shC_getD hne (by omega) (by omega)]
 rfl
theorem kid_swap {L:List Sym} {k:Nat} {c d s z:Nat} (hne:c≠d) (hc:c<k) (hd:d<k):∀ {R:List Xw},OkX L k R→kidS L (kidS L R d z) (shC d (arN L (z:Int)) c) s=kidS L (kidS L R c s) (shC c (arN L (s:Int)) d) z
 | [],_=>rfl
 | x :: r,h=>by
  have ih:=kid_swap (s:=s) (z:=z) hne hc hd (R:=r) (fun y hy=>h y (List.mem_cons_of_mem _ hy))
  obtain ⟨h1,h2,h3⟩:=h x (List.mem_cons_self ..)
  have put:∀ (e u:Nat),kidS L (x :: r) e u=if numX x e=(u:Int) then kidY L e x :: kidS L r e u else kidS L r e u:=by
   intro e u
   unfold kidS havX
   by_cases q:numX x e=(u:Int)
   ·simp [q]
   ·simp [q]
  have put2:∀ (y:Xw) (l:List Xw) (e u:Nat),kidS L (y :: l) e u=if numX y e=(u:Int) then kidY L e y :: kidS L l e u else kidS L l e u:=by
   intro y l e u
   unfold kidS havX
   by_cases q:numX y e=(u:Int)
   ·simp [q]
   ·simp [q]
  rw [put d z,put c s]
  by_cases q1:numX x d=(z:Int)
  ·rw [if_pos q1,put2,num_kid h2 h3 hne hc hd q1]
   by_cases q2:numX x c=(s:Int)
   ·rw [if_pos q2,if_pos q2,put2,num_kid h2 h3 (Ne.symm hne) hd hc q2,if_pos q1,ih]
    congr 1
    show (x.1,repl (repl x.2 d _) _ _)=(x.1,repl (repl x.2 c _) _ _)
    congr 1
    have a1:=args_len (L:=L) h2 h3 hd q1
    have a2:=args_len (L:=L) h2 h3 hc q2
    have g1:(kidY L d x).2.getD (shC d (arN L (z:Int)) c) 0=x.2.getD c 0:=by rw [← a1];exact shC_getD hne (by omega) (by omega) _ _
    have g2:(kidY L c x).2.getD (shC c (arN L (s:Int)) d) 0=x.2.getD d 0:=by rw [← a2];exact shC_getD (Ne.symm hne) (by omega) (by omega) _ _
    show repl (repl x.2 d _) _ (argsN L x.1 ((kidY L d x).2.getD _ 0))=repl (repl x.2 c _) _ (argsN L x.1 ((kidY L c x).2.getD _ 0))
    rw [g1,g2,← a1,← a2]
    exact shC_swap hne (by omega) (by omega) _ _
   ·rw [if_neg q2,if_neg q2,ih]
  ·rw [if_neg q1]
   by_cases q2:numX x c=(s:Int)
   ·rw [if_pos q2,put2,num_kid h2 h3 (Ne.symm hne) hd hc q2,if_neg q1,ih]
   ·rw [if_neg q2,ih]
theorem Can.any {L:List Sym} {k:Nat} {R:List Xw} (h:Can L k R):OkX L k R→∀ {d:Nat},d<k→(∀ x∈R,0≤numX x d)→∀ z,z<L.length→Can L (k-1+arN L (z:Int)) (kidS L R d z):=by
 induction h with
 | leaf h=>
  intro _ d _ _ z _
  refine .leaf ?_
  unfold kidS havX
  rw [List.length_map]
  exact Nat.le_trans (List.length_filter_le _ _) h
 | @node k R c hc h0 hk ih=>
  intro hok d hd hd0 z hz
  by_cases e:c=d
  ·subst e;exact hk z hz
  ·have hlt:shC d (arN L (z:Int)) c<k-1+arN L (z:Int):=by unfold shC;split <;> omega
   refine .node (shC d (arN L (z:Int)) c) hlt (fun y hy=>?_) (fun s hs=>?_)
   ·obtain ⟨x,hx,rfl⟩:=List.mem_map.1 hy
    have hx' : x∈R∧numX x d=(z:Int):=by simpa [havX] using hx
    obtain ⟨_,h2,h3⟩:=hok x hx'.1
    rw [num_kid h2 h3 e hc hd hx'.2]
    exact h0 x hx'.1
   ·rw [kid_swap e hc hd hok]
    have hlt2:shC c (arN L (s:Int)) d<k-1+arN L (s:Int):=by unfold shC;split <;> omega
    have:=ih s hs (hok.kid hc) hlt2 (fun y hy=>by
     obtain ⟨x,hx,rfl⟩:=List.mem_map.1 hy
     have hx' : x∈R∧numX x c=(s:Int):=by simpa [havX] using hx
     obtain ⟨_,h2,h3⟩:=hok x hx'.1
     rw [num_kid h2 h3 (Ne.symm e) hd hc hx'.2]
     exact hd0 x hx'.1) z hz
    rw [show k-1+arN L (z:Int)-1+arN L (s:Int)=k-1+arN L (s:Int)-1+arN L (z:Int) by omega]
    exact this
theorem kidsN_all {α:Type} {has:Nat→Bool} {g:Nat→Except Int α}:∀ {m:Nat},(∀ s,s<m→has s=true→∃ t,g s=.ok t)→∃ l,kidsN has g m=.ok l
 | 0,_=>⟨[],rfl⟩
 | m+1,h=>by
  obtain ⟨l,hl⟩:=kidsN_all (m:=m) (fun s hs=>h s (by omega))
  rw [kidsN,hl]
  by_cases q:has m=true
  ·obtain ⟨t,ht⟩:=h m (by omega) q
   simp only [q,if_true,ht]
   exact ⟨_,rfl⟩
  ·simp only [q]
   exact ⟨_,rfl⟩
theorem kidsN_each {α:Type} {has:Nat→Bool} {g:Nat→Except Int α}:∀ {m:Nat} {l:List (Int × α)},kidsN has g m=.ok l→∀ s,s<m→has s=true→∃ t,g s=.ok t
 | 0,_,_,s,hs,_=>absurd hs (by omega)
 | m+1,l,h,s,hs,hh=>by
  rw [kidsN] at h
  cases hm:kidsN has g m with
  | error e=>rw [hm] at h;cases h
  | ok l' =>
   rw [hm] at h
   by_cases e:s=m
   ·subst e
    simp only [hh,if_true] at h
    cases hg:g s with
    | error e=>rw [hg] at h;cases h
    | ok t=>exact ⟨t,rfl⟩
   ·exact kidsN_each hm s (by omega) hh
theorem partN_none {R:List Rw}:∀ {k:Nat},partN R k=none→∀ c,c<k→conB R c=false
 | 0,_,c,hc=>absurd hc (by omega)
 | k+1,h,c,hc=>by
  unfold partN at h
  cases hk:partN R k with
  | some c' => rw [hk] at h;cases h
  | none=>
   rw [hk] at h
   simp only at h
   split at h
   ·cases h
   ·by_cases e:c=k
    ·subst e;exact Bool.eq_false_iff.2 (by assumption)
    ·exact partN_none hk c (by omega)
theorem kid_snd (L:List Sym) (R:List Rw) (c s:Nat):((havR R c (s:Int)).map (kidX L c)).map Prod.snd=kidS L (R.map Prod.snd) c s:=by
 induction R with
 | nil=>rfl
 | cons x r ih=>
  unfold kidS havX havR at *
  by_cases q:numR x c=(s:Int)
  ·have q' : numX x.2 c=(s:Int):=q
   simp only [List.map_cons,List.filter_cons,q,q', decide_true,if_true]
   rw [ih];rfl
  ·have q' : ¬ numX x.2 c=(s:Int):=q
   simp only [List.map_cons,List.filter_cons,q,q', decide_false,Bool.false_eq_true,if_false]
   exact ih
theorem conB_iff {R:List Rw} {c:Nat}:conB R c=true ↔ ∀ x∈R.map Prod.snd,0≤numX x c:=by
 unfold conB
 rw [List.all_eq_true]
 constructor
 ·intro h x hx
  obtain ⟨y,hy,rfl⟩:=List.mem_map.1 hx
  exact of_decide_eq_true (h y hy)
 ·intro h y hy
  exact decide_eq_true (h y.2 (List.mem_map_of_mem hy))
theorem kidP_len {L:List Sym} {P:List (List Int)} {c s:Nat} (hc:c<P.length):(kidP L P c s).length=P.length-1+arN L (s:Int):=by
 unfold kidP
 rw [repl_length hc];simp
theorem grow_can {L:List Sym}:∀ {n:Nat} {P:List (List Int)} {R:List Rw} {t:Tr n},growF L n P R=.ok t→Can L P.length (R.map Prod.snd)
 | 0,P,R,t,h=>by rw [growF] at h;cases h
 | n+1,P,R,t,h=>by
  by_cases h0:R.length=0
  ·exact .leaf (by simp;omega)
  ·rw [growF,if_neg h0] at h
   cases hp:partN R P.length with
   | none=>
    rw [hp] at h
    simp only at h
    by_cases h1:R.length=1
    ·exact .leaf (by simp;omega)
    ·rw [if_neg h1] at h;cases h
   | some c=>
    rw [hp] at h
    simp only at h
    obtain ⟨hc,hb⟩:=partN_some hp
    refine .node c hc (conB_iff.1 hb) (fun s hs=>?_)
    rw [← kid_snd,← kidP_len hc]
    by_cases hh:0<(havR R c (s:Int)).length
    ·split at h
     ·cases h
     ·rename_i l hl
      obtain ⟨t', ht⟩:=kidsN_each hl s hs (decide_eq_true hh)
      exact grow_can ht
    ·exact .leaf (by simp;omega)
theorem can_grow {L:List Sym} (ha:Ars L):∀ {n:Nat} {P:List (List Int)} {R:List Rw},NdOk L n P R→Can L P.length (R.map Prod.snd)→∃ t,growF L n P R=.ok t
 | 0,P,R,hn,_=>absurd hn.pos (by omega)
 | n+1,P,R,hn,h=>by
  by_cases h0:R.length=0
  ·rw [growF,if_pos h0];exact ⟨_,rfl⟩
  ·rw [growF,if_neg h0]
   cases hp:partN R P.length with
   | none=>
    simp only
    by_cases h1:R.length=1
    ·rw [if_pos h1];exact ⟨_,rfl⟩
    ·exfalso
     cases h with
     | leaf h=>simp at h;omega
     | node c hc hb _=>
      have:=partN_none hp c hc
      rw [conB_iff.2 hb] at this
      cases this
   | some c=>
    obtain ⟨hc,hb⟩:=partN_some hp
    have hok:OkX L P.length (R.map Prod.snd):=by
     intro y hy
     obtain ⟨x,hx,rfl⟩:=List.mem_map.1 hy
     obtain ⟨k1,k2,k3,_⟩:=hn.ok x hx
     exact ⟨(checkE_zero.1 k1).2.2,k2,k3⟩
    obtain ⟨l,hl⟩:=kidsN_all (has:=fun s=>decide (0<(havR R c (s:Int)).length)) (g:=fun s=>growF L n (kidP L P c s) ((havR R c (s:Int)).map (kidX L c))) (m:=L.length) (fun s hs hh=>by
     have hh:0<(havR R c (s:Int)).length:=of_decide_eq_true hh
     refine can_grow ha (hn.kid hc hs (arN_le ha (s:Int)) (by intro e;rw [e] at hh;simp at hh)) ?_
     rw [kidP_len hc,kid_snd]
     exact h.any hok hc (conB_iff.1 hb) s hs)
    simp only
    rw [hl]
    exact ⟨_,rfl⟩
end Go.Proofs.YtdlibbiaaejpmaaGreat
namespace Go.Proofs.YtdlibbiaaejpmaaGreat
open Go.RowKit Go.Extern.Stop Go.Stop Go.Extern
set_option linter.unusedVariables false
set_option maxRecDepth 100000
theorem is_typeOf (v:Value) (w:World):(Extern.ReflectliteType.typeOf #[.iface 62 v]).run Tryz.prog w=.ok (.iface 263 (.agg #[.pointer (some ⟨0,62,none⟩)])) w:=by kernel_rfl
theorem is_comparable (w:World):(callFunc 217 #[.agg #[.pointer (some ⟨0,62,none⟩)]]).run Tryz.prog w=.ok (.value (.bool true)) w:=
  (@run_callFunc_extern Tryz.prog 217 _ (Extern.ReflectliteType.method fun t => do Extern.Rtype.noPackHeld "Comparable" t; pure (.bool (← typeInfo t).comparable)) Tryz.func217 (by kernel_rfl) (by kernel_rfl) (by kernel_rfl) (by kernel_rfl) _ w).trans (by kernel_rfl)
theorem is_mComparable (v : Value) (w : World) : (Go.method 436 263 v "Comparable").run Tryz.prog w = .ok (217, v) w := by kernel_rfl
theorem is_noIs (v:Value) (xT:TypeId) (w:World):(Instr.typeAssert (.iface 62 v) xT 265 true).run Tryz.prog w=.ok (.tuple #[.nilIface,.bool false]) w:=run_typeAssert_lacksB Tryz.underlying265 (by kernel_rfl) (by kernel_rfl) v xT w
theorem is_noUnwrap (v:Value) (xT:TypeId) (w:World):(Instr.typeAssert (.iface 62 v) xT 268 true).run Tryz.prog w=.ok (.tuple #[.nilIface,.bool false]) w:=run_typeAssert_lacksB Tryz.underlying268 (by kernel_rfl) (by kernel_rfl) v xT w
theorem is_noUnwraps (v:Value) (xT:TypeId) (w:World):(Instr.typeAssert (.iface 62 v) xT 269 true).run Tryz.prog w=.ok (.tuple #[.nilIface,.bool false]) w:=run_typeAssert_lacksB Tryz.underlying269 (by kernel_rfl) (by kernel_rfl) v xT w
theorem is_hasIs (v:Value) (xT:TypeId) (w:World):(Instr.typeAssert (.iface 98 v) xT 265 true).run Tryz.prog w=.ok (.tuple #[.iface 98 v,.bool true]) w:=run_typeAssert_hasB Tryz.underlying265 (by kernel_rfl) v xT w
theorem is_hasUnwrap (v:Value) (xT:TypeId) (w:World):(Instr.typeAssert (.iface 98 v) xT 268 true).run Tryz.prog w=.ok (.tuple #[.iface 98 v,.bool true]) w:=run_typeAssert_hasB Tryz.underlying268 (by kernel_rfl) v xT w
theorem is_mIs (v : Value) (w : World) : (Go.method 436 98 v "Is").run Tryz.prog w = .ok (210, v) w := by kernel_rfl
theorem is_mUnwrap (v : Value) (w : World) : (Go.method 436 98 v "Unwrap").run Tryz.prog w = .ok (211, v) w := by kernel_rfl
theorem is_eqE (a b:Int) (w:World):(binOp .eql 37 (.iface 62 (.int .i64 a)) (.iface 62 (.int .i64 b))).run Tryz.prog w=.ok (.bool (a == b)) w:=by kernel_rfl
theorem is_eqF (v u:Value) (w:World):(binOp .eql 37 (.iface 98 v) (.iface 62 u)).run Tryz.prog w=.ok (.bool false) w:=by kernel_rfl
theorem is_asE (v:Value) (xT:TypeId) (w:World):(Instr.typeAssert (.iface 62 v) xT 62 true).run Tryz.prog w=.ok (.tuple #[v,.bool true]) w:=by kernel_rfl
theorem is_nilE (v:Value) (w:World):(binOp .eql 37 .nilIface (.iface 62 v)).run Tryz.prog w=.ok (.bool false) w:=by kernel_rfl
def FltAt (w:World):List (Int × Int)→Value→Prop
 | [],v=>v=.nilIface
 | (c,p) :: r,v=>(p = -1∧r=[]∧v=.iface 62 (.int .i64 c))∨(p ≠ -1∧∃ b u,v=.iface 98 (.pointer (some ⟨b,0,none⟩))∧w.heap[b]? = some (.cells #[.int .i64 c,.int .i64 p,u] 100 (0,0))∧FltAt w r u)
theorem FltAt.same {w w' : World} (hk:Same0 w w'):∀ {ws:List (Int × Int)} {v:Value},FltAt w ws v→FltAt w' ws v
 | [],_,h=>h
 | (c,p) :: r,v,h=>by
  rcases h with h | ⟨h0,b,u,h1,h2,h3⟩
  ·exact .inl h
  ·exact .inr ⟨h0,b,u,h1,hk.at0 h2,FltAt.same hk h3⟩
theorem fIs_any {w:World} {b:Nat} {c p:Int} {u:Value} (h:w.heap[b]? = some (.cells #[.int .i64 c,.int .i64 p,u] 100 (0,0))) (d:Int) :
  Calls Tryz.prog 210 #[.pointer (some ⟨b,0,none⟩),.iface 62 (.int .i64 d)] w fun e w' => e=.returned (.bool (d == c))∧w' = w:=by
 have aE:=is_asE
 have b0:=cellAt h 0
 simp only [List.getElem?_toArray,List.getElem?_cons_zero] at b0
 clear h
 by_cases hd:d=c
 ·have e1:(d == c)=true:=by simpa using hd
  go_enter Tryz.func210,Tryz.ntmps210
  go_wp2
  go_ret
  exact ⟨by rw [e1];rfl,rfl⟩
 ·have e1:(d == c)=false:=by simpa using hd
  go_enter Tryz.func210,Tryz.ntmps210
  go_wp2
  go_ret
  exact ⟨by rw [e1];rfl,rfl⟩
theorem fUnwrap_any {w:World} {b:Nat} {c p:Int} {u:Value} (h:w.heap[b]? = some (.cells #[.int .i64 c,.int .i64 p,u] 100 (0,0))) :
  Calls Tryz.prog 211 #[.pointer (some ⟨b,0,none⟩)] w fun e w' => e=.returned u∧w' = w:=by
 have b0:=cellAt h 2
 simp only [List.getElem?_toArray,List.getElem?_cons_zero,List.getElem?_cons_succ] at b0
 clear h
 go_enter Tryz.func211,Tryz.ntmps211
 go_wp2
 go_ret
 exact ⟨rfl,rfl⟩
theorem is_one (a d:Int) (w:World):Calls Tryz.prog 117 #[.iface 62 (.int .i64 a),.iface 62 (.int .i64 d)] w fun e w' => e=.returned (.bool (a == d))∧w' = w:=by
 have h8:=@run_callFunc_extern Tryz.prog 149 _ Extern.ReflectliteType.typeOf Tryz.func149 (by kernel_rfl) (by kernel_rfl) (by kernel_rfl) (by kernel_rfl)
 have tT:=is_typeOf
 have cT:=is_comparable
 have mR:=is_mComparable
 have nE:=is_noIs
 have uE:=is_noUnwrap
 have vE:=is_noUnwraps
 by_cases hd:a=d
 ·subst hd
  have e1:(a == a)=true:=by simp
  have eq:=is_eqE a a
  rw [e1] at eq ⊢
  clear e1
  go_enter Tryz.func117,Tryz.ntmps117
  go_wp2
  refine wp_loop_rounds 1 ?_
  rw [rounds_succ]
  go_wp2
  go_ret
  exact ⟨rfl,rfl⟩
 ·have e1:(a == d)=false:=by simpa using hd
  have eq:=is_eqE a d
  rw [e1] at eq ⊢
  clear hd e1
  go_enter Tryz.func117,Tryz.ntmps117
  go_wp2
  refine wp_loop_rounds 1 ?_
  rw [rounds_succ]
  go_wp2
  go_ret
  exact ⟨rfl,rfl⟩
theorem is_fault {w:World} {b:Nat} {c p:Int} (h:w.heap[b]? = some (.cells #[.int .i64 c,.int .i64 p,.nilIface] 100 (0,0))) (d:Int) :
  Calls Tryz.prog 117 #[.iface 98 (.pointer (some ⟨b,0,none⟩)),.iface 62 (.int .i64 d)] w fun e w' => e=.returned (.bool (d == c))∧w' = w:=by
 have h8:=@run_callFunc_extern Tryz.prog 149 _ Extern.ReflectliteType.typeOf Tryz.func149 (by kernel_rfl) (by kernel_rfl) (by kernel_rfl) (by kernel_rfl)
 have tT:=is_typeOf
 have cT:=is_comparable
 have mR:=is_mComparable
 have nE:=is_hasIs
 have uE:=is_hasUnwrap
 have m1:=is_mIs
 have m2:=is_mUnwrap
 have eq:=is_eqF
 have c1:=fIs_any h d
 have c2:=fUnwrap_any h
 clear h
 generalize (d == c)=r at *
 cases r
 ·go_enter Tryz.func117,Tryz.ntmps117
  go_wp2
  refine wp_loop_rounds 1 ?_
  rw [rounds_succ]
  go_wp2_with (first | (go_at_call 210;refine c1.mono ?_;rintro e w' ⟨rfl,rfl⟩) | (go_at_call 211;refine c2.mono ?_;rintro e w' ⟨rfl,rfl⟩))
  go_ret
  exact ⟨rfl,rfl⟩
 ·go_enter Tryz.func117,Tryz.ntmps117
  go_wp2
  refine wp_loop_rounds 1 ?_
  rw [rounds_succ]
  go_wp2_with (first | (go_at_call 210;refine c1.mono ?_;rintro e w' ⟨rfl,rfl⟩) | (go_at_call 211;refine c2.mono ?_;rintro e w' ⟨rfl,rfl⟩))
  go_ret
  exact ⟨rfl,rfl⟩
set_option maxHeartbeats 4000000 in
theorem is_fault_one {w:World} {b:Nat} {c p:Int} {k:Int} (h:w.heap[b]? = some (.cells #[.int .i64 c,.int .i64 p,.iface 62 (.int .i64 k)] 100 (0,0))) (d:Int) :
  Calls Tryz.prog 117 #[.iface 98 (.pointer (some ⟨b,0,none⟩)),.iface 62 (.int .i64 d)] w fun e w' => e=.returned (.bool ((d == c) || k == d))∧w' = w:=by
 have h8:=@run_callFunc_extern Tryz.prog 149 _ Extern.ReflectliteType.typeOf Tryz.func149 (by kernel_rfl) (by kernel_rfl) (by kernel_rfl) (by kernel_rfl)
 have tT:=is_typeOf
 have cT:=is_comparable
 have mR:=is_mComparable
 have nE:=is_hasIs
 have uE:=is_hasUnwrap
 have m1:=is_mIs
 have m2:=is_mUnwrap
 have eq:=is_eqF
 have c1:=fIs_any h d
 have c2:=fUnwrap_any h
 have eqk:=is_eqE k d w
 have nE' := is_noIs
 have uE' := is_noUnwrap
 have vE' := is_noUnwraps
 clear h
 generalize (d == c)=r at *
 cases r
 ·simp only [Bool.false_or]
  generalize (k == d)=q at *
  cases q
  ·go_enter Tryz.func117,Tryz.ntmps117
   go_wp2
   refine wp_loop_rounds 2 ?_
   rw [rounds_succ]
   go_wp2_with (first | (go_at_call 210;refine c1.mono ?_;rintro e w' ⟨rfl,rfl⟩) | (go_at_call 211;refine c2.mono ?_;rintro e w' ⟨rfl,rfl⟩))
   rw [rounds_succ]
   go_wp2
   go_ret
   exact ⟨rfl,rfl⟩
  ·go_enter Tryz.func117,Tryz.ntmps117
   go_wp2
   refine wp_loop_rounds 2 ?_
   rw [rounds_succ]
   go_wp2_with (first | (go_at_call 210;refine c1.mono ?_;rintro e w' ⟨rfl,rfl⟩) | (go_at_call 211;refine c2.mono ?_;rintro e w' ⟨rfl,rfl⟩))
   rw [rounds_succ]
   go_wp2
   go_ret
   exact ⟨rfl,rfl⟩
 ·simp only [Bool.true_or]
  clear c2
  go_enter Tryz.func117,Tryz.ntmps117
  go_wp2
  refine wp_loop_rounds 2 ?_
  rw [rounds_succ]
  go_wp2_with (first | (go_at_call 210;refine c1.mono ?_;rintro e w' ⟨rfl,rfl⟩))
  go_ret
  exact ⟨rfl,rfl⟩
set_option maxHeartbeats 4000000 in
theorem is_fault_two {w:World} {b:Nat} {c p:Int} {b' : Nat} {c' p' : Int} (h:w.heap[b]? = some (.cells #[.int .i64 c,.int .i64 p,.iface 98 (.pointer (some ⟨b', 0,none⟩))] 100 (0,0))) (h' : w.heap[b']? = some (.cells #[.int .i64 c', .int .i64 p', .nilIface] 100 (0,0))) (d:Int) :
  Calls Tryz.prog 117 #[.iface 98 (.pointer (some ⟨b,0,none⟩)),.iface 62 (.int .i64 d)] w fun e w' => e=.returned (.bool ((d == c) || d == c'))∧w' = w:=by
 have h8:=@run_callFunc_extern Tryz.prog 149 _ Extern.ReflectliteType.typeOf Tryz.func149 (by kernel_rfl) (by kernel_rfl) (by kernel_rfl) (by kernel_rfl)
 have tT:=is_typeOf
 have cT:=is_comparable
 have mR:=is_mComparable
 have nE:=is_hasIs
 have uE:=is_hasUnwrap
 have m1:=is_mIs
 have m2:=is_mUnwrap
 have eq:=is_eqF
 have c1:=fIs_any h d
 have c2:=fUnwrap_any h
 have c3:=fIs_any h' d
 have c4:=fUnwrap_any h'
 clear h'
 clear h
 generalize (d == c)=r at *
 cases r
 ·simp only [Bool.false_or]
  generalize (d == c')=q at *
  cases q
  ·go_enter Tryz.func117,Tryz.ntmps117
   go_wp2
   refine wp_loop_rounds 2 ?_
   rw [rounds_succ]
   go_wp2_with (first | (go_at_call 210;refine c1.mono ?_;rintro e w' ⟨rfl,rfl⟩) | (go_at_call 211;refine c2.mono ?_;rintro e w' ⟨rfl,rfl⟩))
   rw [rounds_succ]
   go_wp2_with (first | (go_at_call 210;refine c3.mono ?_;rintro e w' ⟨rfl,rfl⟩) | (go_at_call 211;refine c4.mono ?_;rintro e w' ⟨rfl,rfl⟩))
   go_ret
   exact ⟨rfl,rfl⟩
  ·go_enter Tryz.func117,Tryz.ntmps117
   go_wp2
   refine wp_loop_rounds 2 ?_
   rw [rounds_succ]
   go_wp2_with (first | (go_at_call 210;refine c1.mono ?_;rintro e w' ⟨rfl,rfl⟩) | (go_at_call 211;refine c2.mono ?_;rintro e w' ⟨rfl,rfl⟩))
   rw [rounds_succ]
   go_wp2_with (first | (go_at_call 210;refine c3.mono ?_;rintro e w' ⟨rfl,rfl⟩) | (go_at_call 211;refine c4.mono ?_;rintro e w' ⟨rfl,rfl⟩))
   go_ret
   exact ⟨rfl,rfl⟩
 ·simp only [Bool.true_or]
  clear c2
  go_enter Tryz.func117,Tryz.ntmps117
  go_wp2
  refine wp_loop_rounds 2 ?_
  rw [rounds_succ]
  go_wp2_with (first | (go_at_call 210;refine c1.mono ?_;rintro e w' ⟨rfl,rfl⟩))
  go_ret
  exact ⟨rfl,rfl⟩
theorem is_none (d:Int) (w:World):Calls Tryz.prog 117 #[.nilIface,.iface 62 (.int .i64 d)] w fun e w' => e=.returned (.bool false)∧w' = w:=by
 have hn:=is_nilE
 go_enter Tryz.func117,Tryz.ntmps117
 go_wp2
 go_ret
 exact ⟨rfl,rfl⟩
def bears (ws:List (Int × Int)) (d:Int):Bool:=decide (d∈ws.map Prod.fst)
theorem is_any {w:World} {ws:List (Int × Int)} {v:Value} (h:FltAt w ws v) (h2:ws.length≤2) (d:Int) :
  Calls Tryz.prog 117 #[v,.iface 62 (.int .i64 d)] w fun e w' => e=.returned (.bool (bears ws d))∧w' = w:=by
 match ws,h2 with
 | [],_=>
  obtain rfl:v=.nilIface:=h
  exact is_none d w
 | [(c,p)],_=>
  rcases h with ⟨rfl,_,rfl⟩ | ⟨_,b,u,rfl,h1,hu⟩
  ·refine (is_one c d w).mono ?_
   rintro e w' ⟨rfl,rfl⟩
   refine ⟨ret_bool ?_,rfl⟩
   by_cases e:d=c
   ·simp [bears,e]
   ·simp [bears,e];omega
  ·obtain rfl:u=.nilIface:=hu
   refine (is_fault h1 d).mono ?_
   rintro e w' ⟨rfl,rfl⟩
   refine ⟨ret_bool ?_,rfl⟩
   by_cases e:d=c <;> simp [bears,e]
 | [(c,p),(c', p')],_=>
  rcases h with ⟨_,e,_⟩ | ⟨_,b,u,rfl,h1,hu⟩
  ·cases e
  ·rcases hu with ⟨rfl,_,rfl⟩ | ⟨_,b', u', rfl,h1', hu'⟩
   ·refine (is_fault_one h1 d).mono ?_
    rintro e w' ⟨rfl,rfl⟩
    refine ⟨ret_bool ?_,rfl⟩
    by_cases e:d=c
    ·simp [bears,e]
    ·by_cases e' : d=c'
     ·simp [bears,e']
     ·have:(c' == d)=false:=by simp;omega
      simp [bears,e,e', this]
   ·obtain rfl:u' = .nilIface:=hu'
    refine (is_fault_two h1 h1' d).mono ?_
    rintro e w' ⟨rfl,rfl⟩
    refine ⟨ret_bool ?_,rfl⟩
    by_cases e:d=c
    ·simp [bears,e]
    ·by_cases e' : d=c' <;> simp [bears,e,e']
end Go.Proofs.YtdlibbiaaejpmaaGreat
namespace Go.Proofs.YtdlibbiaaejpmaaGreat
set_option linter.unusedVariables false
open Go.RowKit Go.Deep
structure Arg (w:World) (ao:Option Addr) (xs:List Int) (cap:Nat):Prop where
 at' : IntsAt w ao xs
 cap' : xs.length≤cap
 nil:ao=none→xs.length=0∧cap=0
 size:xs.length * 8≤140737488351232
section
variable {H : Type} {enc : TypeId × Value → H} {w : World} {spare : Nat → Bool} {held : Bool}
theorem bytes_int:Tryz.prog.bytesOf 3=8:=by kernel_rfl
theorem open_ints {t fuel:Nat} {cs:List Value} {x:DataW H × List MemPlace} (ht:Tryz.prog.underlying t=some (.slice 3)) (h:DataW.trod enc Tryz.prog w 0 spare held fuel t cs=some x) (hw:∀ n∈x.1.weights Tryz.prog t,n≤reachBytes) :
  ∃ ao cap xs,cs=[.slice ao xs.length cap]∧Arg w ao xs cap:=by
 have h' := h
 rcases open_slice ht h with ⟨hcs,_⟩ | ⟨a,len,cap,m,n,D,Pl,hcs,_,hl,hm,hmm,rfl,hx⟩
 ·exact ⟨none,0,[],hcs,.inl rfl,Nat.le_refl _,fun _=>⟨rfl,rfl⟩,by simp⟩
 ·subst hcs
  have hsz:len * 8≤140737488351232:=by
   have:=hw ((((List.range len).map D).length+((List.range (m-len)).map fun j=>D (len+j)).length) * Tryz.prog.bytesOf 3) (by simp [DataW.weights,ht])
   rw [bytes_int] at this
   simp [reachBytes] at this
   omega
  rcases open_elems ht cells_int (by omega) h' with ⟨e,_,_⟩ | ⟨a', e,hl1,hl2,hall⟩
  ·cases e
  ·cases e
   have each:∀ i,i<len→∃ z:Int,w.cell? ⟨a.block,a.off+i,none⟩=some (.int .i64 z):=by
    intro i hi
    obtain ⟨_,_,cs,n,y,hl,hcell,hy⟩:=hall i hi
    obtain ⟨z,e1,_,_⟩:=DataW.trod_int Tryz.underlying3 hy
    subst e1
    exact ⟨z,by simpa using hcell 0 (by omega)⟩
   obtain ⟨f,hf⟩:=Classical.axiomOfChoice (fun i:Fin len=>each i i.2)
   refine ⟨some a,cap,List.ofFn f,by simp,?_,by simpa using hl,(fun e=>by cases e),by simpa using hsz⟩
   by_cases h0:len=0
   ·subst h0;exact .inl (by simp)
   ·obtain ⟨ea,hlt,_⟩:=hall 0 (by omega)
    refine .inr ⟨a.block,a.off,by rw [← ea],hlt,fun i hi=>?_⟩
    have hi' : i<len:=by simpa using hi
    simpa using hf ⟨i,hi'⟩
theorem cells_term:Tryz.prog.cellsOf 47=1:=by kernel_rfl
structure CaseIs (w:World) (v:Value) (lo:Option Addr) (ll lc:Nat) (ls:List Sym) (so:Option Addr) (tc:Nat) (t:List Int) (at' : Int) (uo:Option Addr) (uc:Nat) (u:List Int) (po:Option Addr) (pc:Nat) (path:List Int):Prop where
 eq:v=.agg #[.slice lo ll lc,.slice so t.length tc,.int .i64 at', .slice uo u.length uc,.slice po path.length pc]
 syms:SymsAt w lo ll ls
 sl:ll≤maxLen
 t' : Arg w so t tc
 u' : Arg w uo u uc
 p' : Arg w po path pc
end
end Go.Proofs.YtdlibbiaaejpmaaGreat
namespace Go.Proofs.YtdlibbiaaejpmaaGreat
set_option maxRecDepth 100000
set_option linter.unusedVariables false
open Go.RowKit
attribute [local go_sem ↓] Go.wp_at_zero Go.wp_at_succ
theorem Arg.same {w w' : World} {ao:Option Addr} {xs:List Int} {cap:Nat} (h:Arg w ao xs cap) (hk:Same0 w w'):Arg w' ao xs cap:=⟨h.at'.same hk,h.cap', h.nil,h.size⟩
def RuAt (w:World) (b off:Nat) (x:Ru):Prop:=
 ∃ ao ac bo bc,w.cell? ⟨b,off,none⟩=some (.slice ao x.1.length ac)∧w.cell? ⟨b,off+1,none⟩=some (.slice bo x.2.length bc)∧Arg w ao x.1 ac∧Arg w bo x.2 bc
def RsAt (w:World) (lo:Option Addr) (l:List Ru):Prop:=
 l=[]∨∃ b off,lo=some ⟨b,off,none⟩∧b<w.heap.size∧∀ i (h:i<l.length),RuAt w b (off+i * 2) l[i]
theorem RuAt.same {w w' : World} {b off:Nat} {x:Ru} (h:RuAt w b off x) (hb:b<w.heap.size) (hk:Same0 w w'):RuAt w' b off x:=by
 obtain ⟨ao,ac,bo,bc,h1,h2,h3,h4⟩:=h
 exact ⟨ao,ac,bo,bc,(hk.cell (p:=⟨b,off,none⟩) hb (fun f=>f)).trans h1,(hk.cell (p:=⟨b,off+1,none⟩) hb (fun f=>f)).trans h2,h3.same hk,h4.same hk⟩
theorem RsAt.same {w w' : World} {lo:Option Addr} {l:List Ru} (h:RsAt w lo l) (hk:Same0 w w'):RsAt w' lo l:=by
 refine h.imp id ?_
 rintro ⟨b,off,rfl,hb,hc⟩
 exact ⟨b,off,rfl,Nat.lt_of_lt_of_le hb hk.size,fun i hi=>(hc i hi).same hb hk⟩
theorem RsAt.get {w:World} {lo:Option Addr} {l:List Ru} (h:RsAt w lo l) {i:Nat} (hi:i<l.length):∃ b off,lo=some ⟨b,off,none⟩∧b<w.heap.size∧RuAt w b (off+i * 2) l[i]:=by
 rcases h with rfl | ⟨b,off,e,hb,hc⟩
 ·simp at hi
 ·exact ⟨b,off,e,hb,hc i hi⟩
structure StR (w:World) (b bs:Nat) (ro:Option Addr) (rc:Nat) (L:List Sym) (R:List Ru):Prop where
 blk:w.heap[b]? = some (.cells #[.pointer (some ⟨bs,0,none⟩),.slice ro R.length rc] 117 (0,0))
 sig:Sg w.heap.size w bs L
 rs:RsAt w ro R
 nil:ro=none→rc=0
 le:R.length≤100
 ok:∀ x∈R,checkE L x.1=0
theorem StR.same {w w' : World} {b bs:Nat} {ro:Option Addr} {rc:Nat} {L:List Sym} {R:List Ru} (h:StR w b bs ro rc L R) (hk:Same0 w w'):StR w' b bs ro rc L R:=
 ⟨hk.at0 h.blk,sg_up (h.sig.same hk) hk.size,h.rs.same hk,h.nil,h.le,h.ok⟩
theorem StR.cells {w:World} {b bs:Nat} {ro:Option Addr} {rc:Nat} {L:List Sym} {R:List Ru} (h:StR w b bs ro rc L R):w.cell? ⟨b,0,none⟩=some (.pointer (some ⟨bs,0,none⟩))∧w.cell? ⟨b,1,none⟩=some (.slice ro R.length rc):=by
 have h0:=cellAt h.blk 0
 have h1:=cellAt h.blk 1
 simp only [List.getElem?_toArray,List.getElem?_cons_zero,List.getElem?_cons_succ] at h0 h1
 exact ⟨h0,h1⟩
theorem cell_al {w:World} {p:Addr} {v:Value} (h:w.cell? p=some v) (o:Obj):(w.alloc o).cell? p=some v:=by
 rw [World.cell?_alloc_some _ _ _ (by rw [h];rfl),h]
theorem heap_al_al (w:World) (o o' : Obj):((w.alloc o).alloc o').heap[w.heap.size+1]? = some o' := by
 have:=heap_alloc_new (w.alloc o) o'
 rwa [World.size_alloc] at this
set_option maxHeartbeats 1000000 in
theorem rule_any {w:World} {b lb off len lc n:Nat} {ao bo:Option Addr} {al ac bl bc:Nat} (h0:w.cell? ⟨lb,off+n * 2,none⟩=some (.slice ao al ac)) (h1:w.cell? ⟨lb,off+n * 2+1,none⟩=some (.slice bo bl bc)) (hn:n<len) :
  Calls Tryz.prog 167 #[.agg #[.pointer (some ⟨b,0,none⟩),.slice (some ⟨lb,off,none⟩) len lc,.int .i64 (n:Int)]] w fun e w' => e=.returned (.agg #[.slice ao al ac,.slice bo bl bc])∧Same0 w w' := by
 have i1:(0:Int)≤(n:Int):=by omega
 have i2:(n:Int)<(len:Int):=by omega
 have H0:=fun o o' => cell_al (cell_al h0 o) o'
 have H1:=fun o o' => cell_al (cell_al h1 o) o'
 clear h0 h1
 go_enter Tryz.func167,Tryz.ntmps167
 go_wp2
 exact bodyPost_ret (v:=.agg #[.slice ao al ac,.slice bo bl bc]) (by simp [results,Tryz.results167,go_sem]) rfl ⟨rfl,((Kept.refl _ w).alloc _).alloc _⟩
set_option maxHeartbeats 1000000 in
theorem fault_any (w:World) (b:Nat) (lo:Option Addr) (ll lc:Nat) (why:Value) (hw:why=.nilIface∨∃ t v,why=.iface t v) (n:Nat) (c:Int) :
  Calls Tryz.prog 168 #[.agg #[.pointer (some ⟨b,0,none⟩),.slice lo ll lc,.int .i64 (n:Int)],.int .i64 c,why] w fun e w' => ∃ k,e=.returned (.iface 98 (.pointer (some ⟨k,0,none⟩)))∧w'.heap[k]? = some (.cells #[.int .i64 c,.int .i64 (n:Int),why] 100 (0,0))∧Same0 w w' := by
 rcases hw with rfl | ⟨t,v,rfl⟩
 ·go_enter Tryz.func168,Tryz.ntmps168
  go_wp2
  go_ret
  exact ⟨_,rfl,heap_al_al _ _ _,((Kept.refl _ w).alloc _).alloc _⟩
 ·go_enter Tryz.func168,Tryz.ntmps168
  go_wp2
  go_ret
  exact ⟨_,rfl,heap_al_al _ _ _,((Kept.refl _ w).alloc _).alloc _⟩
set_option maxHeartbeats 1000000 in
theorem unless_any (w:World) (b:Nat) (lo:Option Addr) (ll lc n:Nat) (c:Int) (h:Bool) :
  Calls Tryz.prog 166 #[.agg #[.pointer (some ⟨b,0,none⟩),.slice lo ll lc,.int .i64 (n:Int)],.bool h,.int .i64 c] w fun e w' => ∃ v,e=.returned v∧FltAt w' (if h=true then [(0, -1)] else [(c,(n:Int))]) v∧Same0 w w' := by
 cases h
 ·have cF:=fault_any
  go_enter Tryz.func166,Tryz.ntmps166
  go_wp2_with (first | (go_at_call 168;refine (cF _ _ _ _ _ _ (.inl rfl) _ _).mono ?_;rintro e w1 ⟨k,rfl,hk1,hk2⟩))
  go_ret
  exact ⟨_,rfl,.inr ⟨by omega,k,_,rfl,hk1,rfl⟩,Same0.trans' ((Kept.refl _ w).alloc _) hk2⟩
 ·go_enter Tryz.func166,Tryz.ntmps166
  go_wp2
  go_ret
  exact ⟨_,rfl,.inl ⟨rfl,rfl,rfl⟩,(Kept.refl _ w).alloc _⟩
theorem sg_at_no {n b:Nat} {w:World} {L:List Sym} (h:Sg n w b L) {x:Int} (hx:x<0∨(L.length:Int)≤x):Calls Tryz.prog 83 #[.pointer (some ⟨b,0,none⟩),.int .i64 x] w fun e w' => e=.returned (.tuple #[.agg #[.string ⟨#[]⟩,.int .i64 0,.bool false],.int .i64 14])∧Same0 w w' := by
 obtain ⟨⟨sv,mr,h1,_⟩,ha⟩:=h
 exact at_no h1 x hx
theorem sg_at_yes {n b:Nat} {w:World} {L:List Sym} (h:Sg n w b L) {i:Nat} (hi:i<L.length):Calls Tryz.prog 83 #[.pointer (some ⟨b,0,none⟩),.int .i64 (i:Int)] w fun e w' => e=.returned (.tuple #[.agg #[.string L[i].name,.int .i64 L[i].ar,.bool L[i].df],.int .i64 0])∧Same0 w w' := by
 obtain ⟨⟨sv,mr,h1,_⟩,ha⟩:=h
 exact at_yes h1 i hi
set_option maxHeartbeats 1000000 in
theorem isDefined_any {w:World} {b bs:Nat} {ro:Option Addr} {rc:Nat} {L:List Sym} {R:List Ru} (h:StR w b bs ro rc L R) (lo:Option Addr) (ll lc n:Nat) (x:Int) :
  Calls Tryz.prog 169 #[.agg #[.pointer (some ⟨b,0,none⟩),.slice lo ll lc,.int .i64 (n:Int)],.int .i64 x] w fun e w' => e=.returned (.bool (defB L x))∧Same0 w w' := by
 have K:∀ o,Same0 w (w.alloc o):=fun o=>(Kept.refl _ w).alloc o
 have C:=fun o=>(h.same (K o)).cells.1
 by_cases hx:x<0∨(L.length:Int)≤x
 ·have H1:Hid (defB L x=false):=defB_no hx
  have c:=fun o=>sg_at_no (h.same (K o)).sig hx
  clear K h
  go_enter Tryz.func169,Tryz.ntmps169
  go_wp2_with (first | (go_at_call 83;refine (c _).mono ?_;rintro e w' ⟨rfl,hk⟩))
  go_ret
  exact ⟨by rw [H1.out];rfl,Kept.alloc (Same0.trans' ((Kept.refl _ w).alloc _) hk) _⟩
 ·obtain ⟨i,rfl⟩:∃ i:Nat,x=(i:Int):=⟨x.toNat,by omega⟩
  have hi:i<L.length:=by omega
  have H1:Hid (defB L (i:Int)=L[i].df):=defB_at hi
  have c:=fun o=>sg_at_yes (h.same (K o)).sig hi
  clear K h
  go_enter Tryz.func169,Tryz.ntmps169
  go_wp2_with (first | (go_at_call 83;refine (c _).mono ?_;rintro e w' ⟨rfl,hk⟩))
  go_ret
  exact ⟨by rw [H1.out];rfl,Kept.alloc (Same0.trans' ((Kept.refl _ w).alloc _) hk) _⟩
theorem info_rule:(Tryz.prog.info? 49).map (fun i=>(i.zero,i.size,i.bytes))=some (some (.agg #[.slice none 0 0,.slice none 0 0]),2,48):=by kernel_rfl
def RCells (w:World) (vs:List Value) (l:List Ru):Prop:=
 vs.length=l.length * 2∧∀ i (h:i<l.length),∃ ao ac bo bc,vs[i * 2]? = some (.slice ao l[i].1.length ac)∧vs[i * 2+1]? = some (.slice bo l[i].2.length bc)∧Arg w ao l[i].1 ac∧Arg w bo l[i].2 bc
theorem RCells.nil (w:World):RCells w [] []:=⟨rfl,fun i h=>absurd h (by simp)⟩
theorem RCells.same {w w' : World} {vs:List Value} {l:List Ru} (h:RCells w vs l) (hk:Same0 w w'):RCells w' vs l:=
 ⟨h.1,fun i hi=>by
  obtain ⟨ao,ac,bo,bc,h1,h2,h3,h4⟩:=h.2 i hi
  exact ⟨ao,ac,bo,bc,h1,h2,h3.same hk,h4.same hk⟩⟩
theorem RCells.append {w:World} {vs us:List Value} {l m:List Ru} (h:RCells w vs l) (k:RCells w us m):RCells w (vs++us) (l++m):=by
 refine ⟨by simp [h.1,k.1];omega,fun i hi=>?_⟩
 by_cases hl:i<l.length
 ·rw [List.getElem_append_left hl,List.getElem?_append_left (by rw [h.1];omega),List.getElem?_append_left (by rw [h.1];omega)]
  exact h.2 i hl
 ·have hm:i-l.length<m.length:=by simp at hi;omega
  rw [List.getElem_append_right (by omega),List.getElem?_append_right (by rw [h.1];omega),List.getElem?_append_right (by rw [h.1];omega)]
  have e1:i * 2-vs.length=(i-l.length) * 2:=by rw [h.1];omega
  have e2:i * 2+1-vs.length=(i-l.length) * 2+1:=by rw [h.1];omega
  rw [e1,e2]
  exact k.2 _ hm
theorem RCells.one {w:World} {vs:List Value} {l:List Ru} (h:RCells w vs l):∀ u∈vs,u.oneCell' = true:=by
 intro u hu
 obtain ⟨j,hj,rfl⟩:=List.mem_iff_getElem.1 hu
 have hj' : j / 2<l.length:=by rw [h.1] at hj;omega
 obtain ⟨ao,ac,bo,bc,h1,h2,_⟩:=h.2 (j / 2) hj'
 rcases Nat.mod_two_eq_zero_or_one j with e | e
 ·have e1:j / 2 * 2=j:=by omega
  rw [e1,List.getElem?_eq_getElem hj] at h1
  simp only [Option.some.injEq] at h1
  rw [h1];rfl
 ·have e1:j / 2 * 2+1=j:=by omega
  rw [e1,List.getElem?_eq_getElem hj] at h2
  simp only [Option.some.injEq] at h2
  rw [h2];rfl
theorem addr_add (b off j:Nat):(⟨b,off,none⟩:Addr).add j=⟨b,off+j,none⟩:=by
 unfold Addr.add
 split
 ·rename_i h;subst h;simp
 ·simp
theorem RsAt.cells {w:World} {lo:Option Addr} {l:List Ru} (h:RsAt w lo l):∃ vs,RCells w vs l∧∀ ad,lo=some ad→∀ j u,vs[j]? = some u→w.cell? (ad.add j)=some u:=by
 rcases h with rfl | ⟨b,off,rfl,hb,hc⟩
 ·exact ⟨[],RCells.nil w,fun ad _ j u hj=>by simp at hj⟩
 ·have key:∀ j,j<l.length * 2→∃ u,w.cell? ⟨b,off+j,none⟩=some u:=fun j hj=>by
   obtain ⟨ao,ac,bo,bc,h1,h2,_⟩:=hc (j / 2) (by omega)
   rcases Nat.mod_two_eq_zero_or_one j with e | e
   ·exact ⟨_,by rw [← h1];congr 2;omega⟩
   ·exact ⟨_,by rw [← h2];congr 2;omega⟩
  refine ⟨(List.range (l.length * 2)).map (fun j=>(w.cell? ⟨b,off+j,none⟩).getD undef),⟨by simp,fun i hi=>?_⟩,fun ad e j u hj=>?_⟩
  ·obtain ⟨ao,ac,bo,bc,h1,h2,h3,h4⟩:=hc i hi
   have g1:i * 2<l.length * 2:=by omega
   have g2:i * 2+1<l.length * 2:=by omega
   have h2' : w.cell? ⟨b,off+(i * 2+1),none⟩=some (.slice bo l[i].2.length bc):=by rw [← h2];congr 2
   exact ⟨ao,ac,bo,bc,by simp [g1,h1],by simp [g2,h2'],h3,h4⟩
  ·cases e
   rw [addr_add]
   have hlt:j<l.length * 2:=by have:=(List.getElem?_eq_some_iff.1 hj).1;simpa using this
   obtain ⟨v,hv⟩:=key j hlt
   simp [hlt,hv] at hj
   rw [hv,hj]
theorem row_rules {w:World} {base N:Nat} {v:Value} {vs:List Value} {l:List Ru} (hr:w.ownsRow base 49 2 v N vs) (hc:RCells w vs l):∃ ao cap,v=.slice ao l.length cap∧RsAt w ao l∧(ao=none→cap=0)∧N=l.length:=by
 have hN:N=l.length:=by have:=hr.1;rw [hc.1] at this;omega
 subst hN
 rcases hr.2 with ⟨rfl,h0⟩ | ⟨g,cap,cur,rfl,_,hg,_,_,_,ht⟩
 ·exact ⟨none,0,by rw [h0],.inl (List.eq_nil_of_length_eq_zero h0),fun _=>rfl,rfl⟩
 ·refine ⟨_,cap,rfl,.inr ⟨g,0,rfl,lt_of_at hg,fun i hi=>?_⟩,(fun e=>by cases e),rfl⟩
  obtain ⟨ao,ac,bo,bc,h1,h2,h3,h4⟩:=hc.2 i hi
  have q1:=hr.cells (g:=g) rfl _ _ h1
  have q2:=hr.cells (g:=g) rfl _ _ h2
  rw [addr_add] at q1 q2
  exact ⟨ao,ac,bo,bc,q1,by rw [← q2];congr 2,h3,h4⟩
theorem RsAt.src {w:World} {lo:Option Addr} {l:List Ru} (h:RsAt w lo l):∃ us,RCells w us l∧Hid (∀ ww,Same0 w ww→∀ ad,lo=some ad→∀ j u,us[j]? = some u→ww.cell? (ad.add j)=some u):=by
 obtain ⟨us,h1,h2⟩:=h.cells
 refine ⟨us,h1,fun ww hk ad e j u hj=>?_⟩
 have:=h2 ad e j u hj
 exact (hk.cell (World.block_lt_of_cell? w _ this) (fun f=>f)).trans this
theorem wpList_rules {w0 W:World} {ops:Array Oper} {rest:List Oper} {o:Oper} {a:Act} {Q:Exit→Act→World→Prop} (hgd:o.guard=none) (s x:Operand)
  (ho:o.op=.call { callee:=.builtin .append,args:=#[s,x],argTypes:=#[23,23] })
  (base N:Nat) (vs:List Value) (v:Value) (hs:a.eval s=v) (hr:w0.ownsRow base 49 2 v N vs) (lo:Option Addr) (lc:Nat) (l:List Ru) (us:List Value) (hx:a.eval x=.slice lo l.length lc) (hc:RCells W us l) (hu:∀ ad,lo=some ad→∀ j u,us[j]? = some u→w0.cell? (ad.add j)=some u) (hn:lo=none→lc=0∧l=[]) (hb:base≤w0.heap.size) (hsz:N+l.length≤1000)
  (h:∀ v' w', w'.ownsRow base 49 2 v' (N+l.length) (vs++us)→Kept (fun k=>v.ownBlock=some k) w0 w' → wpList Tryz.prog ops Q rest (a.put o.dst v') w') :
  wpList Tryz.prog ops Q (o :: rest) a w0:=by
 obtain ⟨i,hi,hz0,hz1,hz2⟩:=info_parts info_rule
 cases lo with
 | none=>
  obtain ⟨rfl,rfl⟩:=hn rfl
  have e0:us=[]:=List.eq_nil_of_length_eq_zero (by simpa using hc.1)
  subst e0
  refine wpList_append_own_none hgd s x 23 ho base 49 i 2 Tryz.underlying23 hi v N vs hs hr hx ?_
  exact h v w0 (by simpa using hr) (Kept.refl _ _)
 | some ad=>
  refine wpList_append_own _ hgd s x 23 ho base 49 i _ 2 48 Tryz.underlying23 hi hz0 hz1 hz2 rfl (by decide) v N vs hs hr ad l.length lc us hx hc.1 (hu ad rfl) hc.one (by unfold maxLen;omega) (by omega) hb ?_
  intro v' w' hown hgrow _
  exact h v' w' hown (Kept.grown (Kept.refl _ w0) hgrow (fun _ e _=>e))
theorem RsAt.none {w:World} {lo:Option Addr} {l:List Ru} {lc:Nat} (h:RsAt w lo l) (hn:lo=none→lc=0):lo=none→lc=0∧l=[]:=fun e=>⟨hn e,by
 rcases h with h | ⟨_,_,e', _⟩
 ·exact h
 ·rw [e] at e'; cases e'⟩
structure Src (w:World) (ao:Option Addr) (m c:Nat) (us:List Value):Prop where
 len:us.length=m
 one:∀ u∈us,u.oneCell' = true
 at' : ∀ ad,ao=some ad→∀ j u,us[j]? = some u→w.cell? (ad.add j)=some u
 nul:ao=none→c=0∧us=[]
theorem Src.same {w w' : World} {ao:Option Addr} {m c:Nat} {us:List Value} (h:Src w ao m c us) (hk:Same0 w w'):Src w' ao m c us:=
 ⟨h.len,h.one,fun ad e j u hj=>by
  have:=h.at' ad e j u hj
  exact (hk.cell (World.block_lt_of_cell? w _ this) (fun f=>f)).trans this,h.nul⟩
theorem Src.nil (w:World) (ao:Option Addr) (c:Nat) (h:ao=none→c=0):Src w ao 0 c []:=⟨rfl,by simp,fun ad e j u hj=>by simp at hj,fun e=>⟨h e,rfl⟩⟩
theorem info_nums:(Tryz.prog.info? 3).map (fun i=>(i.zero,i.size,i.bytes))=some (some (.int .i64 0),1,8):=by kernel_rfl
theorem wpList_nums {w0:World} {ops:Array Oper} {rest:List Oper} {o:Oper} {a:Act} {Q:Exit→Act→World→Prop} (hgd:o.guard=none) (s x:Operand)
  (ho:o.op=.call { callee:=.builtin .append,args:=#[s,x],argTypes:=#[32,32] })
  (base N:Nat) (vs:List Value) (v:Value) (hs:a.eval s=v) (hr:w0.ownsRow base 3 1 v N vs) (lo:Option Addr) (m lc:Nat) (us:List Value) (hx:a.eval x=.slice lo m lc) (hc:Src w0 lo m lc us) (hb:base≤w0.heap.size) (hsz:N+m≤20000)
  (h:∀ v' w', w'.ownsRow base 3 1 v' (N+m) (vs++us)→Kept (fun k=>v.ownBlock=some k) w0 w' → wpList Tryz.prog ops Q rest (a.put o.dst v') w') :
  wpList Tryz.prog ops Q (o :: rest) a w0:=by
 obtain ⟨i,hi,hz0,hz1,hz2⟩:=info_parts info_nums
 cases lo with
 | none=>
  obtain ⟨rfl,rfl⟩:=hc.nul rfl
  obtain rfl:m=0:=by simpa using hc.len.symm
  refine wpList_append_own_none hgd s x 32 ho base 3 i 1 Tryz.underlying32 hi v N vs hs hr hx ?_
  exact h v w0 (by simpa using hr) (Kept.refl _ _)
 | some ad=>
  refine wpList_append_own _ hgd s x 32 ho base 3 i _ 1 8 Tryz.underlying32 hi hz0 hz1 hz2 rfl (by decide) v N vs hs hr ad m lc us hx (by rw [hc.len];omega) (hc.at' ad rfl) hc.one (by unfold maxLen;omega) (by omega) hb ?_
  intro v' w' hown hgrow _
  exact h v' w' hown (Kept.grown (Kept.refl _ w0) hgrow (fun _ e _=>e))
set_option maxHeartbeats 1000000 in
theorem grow_nums (w:World) (N:Nat) (hN:N≤20000) :
  Calls Tryz.prog 156 #[.slice none 0 0,.int .i64 (N:Int)] w fun e w' => ∃ v,e=.returned v∧w'.ownsRow w.heap.size 3 1 v 0 []∧Same0 w w' := by
 have i0:¬ (N:Int)<0:=by omega
 by_cases h0:N=0
 ·subst h0
  go_enter Tryz.func156,Tryz.ntmps156
  go_wp2
  go_ret
  exact ⟨_,rfl,World.ownsRow_nil _ _ _ _,Kept.refl _ _⟩
 ·obtain ⟨i,hi,hz0,hz1,hz2⟩:=info_parts info_nums
  have i1:(0:Int)<(N:Int):=by omega
  have hrun:=fun ty=>Lib.run_append_nil_zeros (P:=Tryz.prog) w 32 3 ty 3 i _ .i64 .i64 Tryz.underlying32 Tryz.underlying3 hi hz0 N (by omega) (by omega) (by omega) (by rw [hz2];omega)
  have hge:=grownCap_ge w N 0 3
  have hle:=grownCap_le_maxLen w N 0 3 (by unfold maxLen;omega)
  generalize grownCap w N 0 3=cap at *
  obtain ⟨Z,hZ⟩:∃ Z,Z=Builtin.zeroCells (Value.cells (.int .i64 0)) N++Builtin.zeroCells (Value.cells (.int .i64 0)) (cap-N):=⟨_,rfl⟩
  rw [← hZ] at hrun
  have hzs:Z.size=cap * 1:=by
   rw [hZ,Array.size_append,size_zeroCells,size_zeroCells]
   have:(Value.cells (.int .i64 0)).size=1:=rfl
   rw [this];omega
  have HR:Hid ((w.drew.alloc (.cells Z 3)).ownsRow w.heap.size 3 1 (.slice (some ⟨w.heap.size,0,none⟩) 0 cap) 0 []):=⟨rfl,.inr ⟨w.heap.size,cap,Z,rfl,Nat.le_refl _,heap_alloc_new w.drew _,Nat.zero_le _,hle,hzs,by simp⟩⟩
  have HK:Hid (Same0 w (w.drew.alloc (.cells Z 3))):=((Kept.refl _ w).drew).alloc _
  clear hZ hzs hi hz0 hz1 hz2 hge hle
  have j1:(0:Int)≤(cap:Int):=by omega
  go_enter Tryz.func156,Tryz.ntmps156
  go_wp2_with (first | (at_builtin;refine Lib.wpList_append_run _ rfl _ _ 32 3 rfl _ _ rfl rfl _ _ (hrun _) ?_))
  go_ret
  exact ⟨_,rfl,HR.out,HK.out⟩
theorem own_kept_nums {w w1 w2:World} {base N:Nat} {v:Value} {vs:List Value} (hk:Same0 w w1) (hr:w1.ownsRow base 3 1 v N vs) (hb:w.heap.size≤base) (k2:Kept (fun k=>v.ownBlock=some k) w1 w2):Same0 w w2:=
 Kept.trans hk k2 (fun i hi e=>by have:=(hr.lt i e).1;omega)
set_option maxHeartbeats 4000000 in
theorem concat2_nums {w:World} {g:Nat} {a0:Option Addr} {m0 c0:Nat} {u0:List Value} {a1:Option Addr} {m1 c1:Nat} {u1:List Value} (hg:w.heap[g]? = some (.cells #[.slice a0 m0 c0,.slice a1 m1 c1] 32 (0,0))) (h0:Src w a0 m0 c0 u0) (h1:Src w a1 m1 c1 u1) (hl:m0+m1≤20000) :
  Calls Tryz.prog 124 #[.slice (some ⟨g,0,none⟩) 2 2] w fun e w' => ∃ v,e=.returned v∧w'.ownsRow w.heap.size 3 1 v (m0+m1) (u0++u1)∧Same0 w w' := by
 have C0:Hid (∀ ww,Same0 w ww→ww.cell? ⟨g,0,none⟩=some (.slice a0 m0 c0)∧ww.cell? ⟨g,1,none⟩=some (.slice a1 m1 c1)):=fun ww hk=>⟨cellAt (hk.at0 hg) 0,cellAt (hk.at0 hg) 1⟩
 obtain ⟨x0,x1⟩:=C0.out w (Kept.refl _ _)
 have G:=fun ww=>grow_nums ww (m0+m1) (by omega)
 have e1:((m0+m1:Nat):Int)=(m0:Int)+(m1:Int):=by omega
 rw [e1] at G
 have H0:Hid (∀ ww,Same0 w ww→Src ww a0 m0 c0 u0):=fun ww hk=>h0.same hk
 have H1:Hid (∀ ww,Same0 w ww→Src ww a1 m1 c1 u1):=fun ww hk=>h1.same hk
 clear e1 hg h0 h1
 go_enter Tryz.func124,Tryz.ntmps124
 go_wp2
 refine wp_loop_rounds 3 ?_
 rw [rounds_succ]
 go_wp2
 rw [rounds_succ]
 go_wp2
 rw [rounds_succ]
 go_wp2_with (first | (go_at_call 156;refine (G _).mono ?_;rintro e w1 ⟨v,rfl,hr,hk⟩))
 obtain ⟨vo,vc,rfl⟩:=row_shape hr
 obtain ⟨d0,d1⟩:=C0.out _ hk
 have z1:=hk.size
 clear x0 x1 G
 refine wp_loop_rounds 3 ?_
 rw [rounds_succ]
 go_wp2_with (first | (at_builtin;refine wpList_nums rfl _ _ rfl w.heap.size 0 [] _ rfl hr a0 m0 c0 u0 rfl (H0.out _ hk) z1 (by omega) ?_;intro v2 w2 hr2 k2))
 have s2:=own_kept_nums hk hr (Nat.le_refl _) k2
 obtain ⟨vo2,vc2,rfl⟩:=row_shape hr2
 obtain ⟨f2_0,f2_1⟩:=C0.out _ s2
 have z2:=s2.size
 clear d0 d1 z1 hr k2 hk
 rw [rounds_succ]
 go_wp2_with (first | (at_builtin;refine wpList_nums rfl _ _ rfl w.heap.size _ _ _ rfl hr2 a1 m1 c1 u1 rfl (H1.out _ s2) z2 (by omega) ?_;intro v3 w3 hr3 k3))
 have s3:=own_kept_nums s2 hr2 (Nat.le_refl _) k3
 obtain ⟨vo3,vc3,rfl⟩:=row_shape hr3
 have E3:Hid (w3.ownsRow w.heap.size 3 1 (.slice vo3 (0+m0+m1) vc3) (m0+m1) (u0++u1)):=by simpa [Hid] using hr3
 clear hr3 k3
 rw [rounds_succ]
 go_wp2
 go_ret
 exact ⟨_,rfl,E3.out,s3⟩
set_option maxHeartbeats 4000000 in
theorem concat3_nums {w:World} {g:Nat} {a0:Option Addr} {m0 c0:Nat} {u0:List Value} {a1:Option Addr} {m1 c1:Nat} {u1:List Value} {a2:Option Addr} {m2 c2:Nat} {u2:List Value} (hg:w.heap[g]? = some (.cells #[.slice a0 m0 c0,.slice a1 m1 c1,.slice a2 m2 c2] 32 (0,0))) (h0:Src w a0 m0 c0 u0) (h1:Src w a1 m1 c1 u1) (h2:Src w a2 m2 c2 u2) (hl:m0+m1+m2≤20000) :
  Calls Tryz.prog 124 #[.slice (some ⟨g,0,none⟩) 3 3] w fun e w' => ∃ v,e=.returned v∧w'.ownsRow w.heap.size 3 1 v (m0+m1+m2) (u0++u1++u2)∧Same0 w w' := by
 have C0:Hid (∀ ww,Same0 w ww→ww.cell? ⟨g,0,none⟩=some (.slice a0 m0 c0)∧ww.cell? ⟨g,1,none⟩=some (.slice a1 m1 c1)∧ww.cell? ⟨g,2,none⟩=some (.slice a2 m2 c2)):=fun ww hk=>⟨cellAt (hk.at0 hg) 0,cellAt (hk.at0 hg) 1,cellAt (hk.at0 hg) 2⟩
 obtain ⟨x0,x1,x2⟩:=C0.out w (Kept.refl _ _)
 have G:=fun ww=>grow_nums ww (m0+m1+m2) (by omega)
 have e1:((m0+m1+m2:Nat):Int)=(m0:Int)+(m1:Int)+(m2:Int):=by omega
 rw [e1] at G
 have H0:Hid (∀ ww,Same0 w ww→Src ww a0 m0 c0 u0):=fun ww hk=>h0.same hk
 have H1:Hid (∀ ww,Same0 w ww→Src ww a1 m1 c1 u1):=fun ww hk=>h1.same hk
 have H2:Hid (∀ ww,Same0 w ww→Src ww a2 m2 c2 u2):=fun ww hk=>h2.same hk
 clear e1 hg h0 h1 h2
 go_enter Tryz.func124,Tryz.ntmps124
 go_wp2
 refine wp_loop_rounds 4 ?_
 rw [rounds_succ]
 go_wp2
 rw [rounds_succ]
 go_wp2
 rw [rounds_succ]
 go_wp2
 rw [rounds_succ]
 go_wp2_with (first | (go_at_call 156;refine (G _).mono ?_;rintro e w1 ⟨v,rfl,hr,hk⟩))
 obtain ⟨vo,vc,rfl⟩:=row_shape hr
 obtain ⟨d0,d1,d2⟩:=C0.out _ hk
 have z1:=hk.size
 clear x0 x1 x2 G
 refine wp_loop_rounds 4 ?_
 rw [rounds_succ]
 go_wp2_with (first | (at_builtin;refine wpList_nums rfl _ _ rfl w.heap.size 0 [] _ rfl hr a0 m0 c0 u0 rfl (H0.out _ hk) z1 (by omega) ?_;intro v2 w2 hr2 k2))
 have s2:=own_kept_nums hk hr (Nat.le_refl _) k2
 obtain ⟨vo2,vc2,rfl⟩:=row_shape hr2
 obtain ⟨f2_0,f2_1,f2_2⟩:=C0.out _ s2
 have z2:=s2.size
 clear d0 d1 d2 z1 hr k2 hk
 rw [rounds_succ]
 go_wp2_with (first | (at_builtin;refine wpList_nums rfl _ _ rfl w.heap.size _ _ _ rfl hr2 a1 m1 c1 u1 rfl (H1.out _ s2) z2 (by omega) ?_;intro v3 w3 hr3 k3))
 have s3:=own_kept_nums s2 hr2 (Nat.le_refl _) k3
 obtain ⟨vo3,vc3,rfl⟩:=row_shape hr3
 obtain ⟨f3_0,f3_1,f3_2⟩:=C0.out _ s3
 have z3:=s3.size
 clear f2_0 f2_1 f2_2 z2 hr2 k3 s2
 rw [rounds_succ]
 go_wp2_with (first | (at_builtin;refine wpList_nums rfl _ _ rfl w.heap.size _ _ _ rfl hr3 a2 m2 c2 u2 rfl (H2.out _ s3) z3 (by omega) ?_;intro v4 w4 hr4 k4))
 have s4:=own_kept_nums s3 hr3 (Nat.le_refl _) k4
 obtain ⟨vo4,vc4,rfl⟩:=row_shape hr4
 have E3:Hid (w4.ownsRow w.heap.size 3 1 (.slice vo4 (0+m0+m1+m2) vc4) (m0+m1+m2) (u0++u1++u2)):=by simpa [Hid] using hr4
 clear hr4 k4
 rw [rounds_succ]
 go_wp2
 go_ret
 exact ⟨_,rfl,E3.out,s4⟩
theorem info_paths:(Tryz.prog.info? 32).map (fun i=>(i.zero,i.size,i.bytes))=some (some (.slice none 0 0),1,24):=by kernel_rfl
theorem wpList_paths {w0:World} {ops:Array Oper} {rest:List Oper} {o:Oper} {a:Act} {Q:Exit→Act→World→Prop} (hgd:o.guard=none) (s x:Operand)
  (ho:o.op=.call { callee:=.builtin .append,args:=#[s,x],argTypes:=#[52,52] })
  (base N:Nat) (vs:List Value) (v:Value) (hs:a.eval s=v) (hr:w0.ownsRow base 32 1 v N vs) (lo:Option Addr) (m lc:Nat) (us:List Value) (hx:a.eval x=.slice lo m lc) (hc:Src w0 lo m lc us) (hb:base≤w0.heap.size) (hsz:N+m≤20000)
  (h:∀ v' w', w'.ownsRow base 32 1 v' (N+m) (vs++us)→Kept (fun k=>v.ownBlock=some k) w0 w' → wpList Tryz.prog ops Q rest (a.put o.dst v') w') :
  wpList Tryz.prog ops Q (o :: rest) a w0:=by
 obtain ⟨i,hi,hz0,hz1,hz2⟩:=info_parts info_paths
 cases lo with
 | none=>
  obtain ⟨rfl,rfl⟩:=hc.nul rfl
  obtain rfl:m=0:=by simpa using hc.len.symm
  refine wpList_append_own_none hgd s x 52 ho base 32 i 1 Tryz.underlying52 hi v N vs hs hr hx ?_
  exact h v w0 (by simpa using hr) (Kept.refl _ _)
 | some ad=>
  refine wpList_append_own _ hgd s x 52 ho base 32 i _ 1 24 Tryz.underlying52 hi hz0 hz1 hz2 rfl (by decide) v N vs hs hr ad m lc us hx (by rw [hc.len];omega) (hc.at' ad rfl) hc.one (by unfold maxLen;omega) (by omega) hb ?_
  intro v' w' hown hgrow _
  exact h v' w' hown (Kept.grown (Kept.refl _ w0) hgrow (fun _ e _=>e))
set_option maxHeartbeats 1000000 in
theorem grow_paths (w:World) (N:Nat) (hN:N≤20000) :
  Calls Tryz.prog 180 #[.slice none 0 0,.int .i64 (N:Int)] w fun e w' => ∃ v,e=.returned v∧w'.ownsRow w.heap.size 32 1 v 0 []∧Same0 w w' := by
 have i0:¬ (N:Int)<0:=by omega
 by_cases h0:N=0
 ·subst h0
  go_enter Tryz.func180,Tryz.ntmps180
  go_wp2
  go_ret
  exact ⟨_,rfl,World.ownsRow_nil _ _ _ _,Kept.refl _ _⟩
 ·obtain ⟨i,hi,hz0,hz1,hz2⟩:=info_parts info_paths
  have i1:(0:Int)<(N:Int):=by omega
  have hrun:=fun ty=>Lib.run_append_nil_zeros (P:=Tryz.prog) w 52 3 ty 32 i _ .i64 .i64 Tryz.underlying52 Tryz.underlying3 hi hz0 N (by omega) (by omega) (by omega) (by rw [hz2];omega)
  have hge:=grownCap_ge w N 0 32
  have hle:=grownCap_le_maxLen w N 0 32 (by unfold maxLen;omega)
  generalize grownCap w N 0 32=cap at *
  obtain ⟨Z,hZ⟩:∃ Z,Z=Builtin.zeroCells (Value.cells (.slice none 0 0)) N++Builtin.zeroCells (Value.cells (.slice none 0 0)) (cap-N):=⟨_,rfl⟩
  rw [← hZ] at hrun
  have hzs:Z.size=cap * 1:=by
   rw [hZ,Array.size_append,size_zeroCells,size_zeroCells]
   have:(Value.cells (.slice none 0 0)).size=1:=rfl
   rw [this];omega
  have HR:Hid ((w.drew.alloc (.cells Z 32)).ownsRow w.heap.size 32 1 (.slice (some ⟨w.heap.size,0,none⟩) 0 cap) 0 []):=⟨rfl,.inr ⟨w.heap.size,cap,Z,rfl,Nat.le_refl _,heap_alloc_new w.drew _,Nat.zero_le _,hle,hzs,by simp⟩⟩
  have HK:Hid (Same0 w (w.drew.alloc (.cells Z 32))):=((Kept.refl _ w).drew).alloc _
  clear hZ hzs hi hz0 hz1 hz2 hge hle
  have j1:(0:Int)≤(cap:Int):=by omega
  go_enter Tryz.func180,Tryz.ntmps180
  go_wp2_with (first | (at_builtin;refine Lib.wpList_append_run _ rfl _ _ 52 3 rfl _ _ rfl rfl _ _ (hrun _) ?_))
  go_ret
  exact ⟨_,rfl,HR.out,HK.out⟩
theorem own_kept_paths {w w1 w2:World} {base N:Nat} {v:Value} {vs:List Value} (hk:Same0 w w1) (hr:w1.ownsRow base 32 1 v N vs) (hb:w.heap.size≤base) (k2:Kept (fun k=>v.ownBlock=some k) w1 w2):Same0 w w2:=
 Kept.trans hk k2 (fun i hi e=>by have:=(hr.lt i e).1;omega)
set_option maxHeartbeats 4000000 in
theorem concat3_paths {w:World} {g:Nat} {a0:Option Addr} {m0 c0:Nat} {u0:List Value} {a1:Option Addr} {m1 c1:Nat} {u1:List Value} {a2:Option Addr} {m2 c2:Nat} {u2:List Value} (hg:w.heap[g]? = some (.cells #[.slice a0 m0 c0,.slice a1 m1 c1,.slice a2 m2 c2] 52 (0,0))) (h0:Src w a0 m0 c0 u0) (h1:Src w a1 m1 c1 u1) (h2:Src w a2 m2 c2 u2) (hl:m0+m1+m2≤20000) :
  Calls Tryz.prog 157 #[.slice (some ⟨g,0,none⟩) 3 3] w fun e w' => ∃ v,e=.returned v∧w'.ownsRow w.heap.size 32 1 v (m0+m1+m2) (u0++u1++u2)∧Same0 w w' := by
 have C0:Hid (∀ ww,Same0 w ww→ww.cell? ⟨g,0,none⟩=some (.slice a0 m0 c0)∧ww.cell? ⟨g,1,none⟩=some (.slice a1 m1 c1)∧ww.cell? ⟨g,2,none⟩=some (.slice a2 m2 c2)):=fun ww hk=>⟨cellAt (hk.at0 hg) 0,cellAt (hk.at0 hg) 1,cellAt (hk.at0 hg) 2⟩
 obtain ⟨x0,x1,x2⟩:=C0.out w (Kept.refl _ _)
 have G:=fun ww=>grow_paths ww (m0+m1+m2) (by omega)
 have e1:((m0+m1+m2:Nat):Int)=(m0:Int)+(m1:Int)+(m2:Int):=by omega
 rw [e1] at G
 have H0:Hid (∀ ww,Same0 w ww→Src ww a0 m0 c0 u0):=fun ww hk=>h0.same hk
 have H1:Hid (∀ ww,Same0 w ww→Src ww a1 m1 c1 u1):=fun ww hk=>h1.same hk
 have H2:Hid (∀ ww,Same0 w ww→Src ww a2 m2 c2 u2):=fun ww hk=>h2.same hk
 clear e1 hg h0 h1 h2
 go_enter Tryz.func157,Tryz.ntmps157
 go_wp2
 refine wp_loop_rounds 4 ?_
 rw [rounds_succ]
 go_wp2
 rw [rounds_succ]
 go_wp2
 rw [rounds_succ]
 go_wp2
 rw [rounds_succ]
 go_wp2_with (first | (go_at_call 180;refine (G _).mono ?_;rintro e w1 ⟨v,rfl,hr,hk⟩))
 obtain ⟨vo,vc,rfl⟩:=row_shape hr
 obtain ⟨d0,d1,d2⟩:=C0.out _ hk
 have z1:=hk.size
 clear x0 x1 x2 G
 refine wp_loop_rounds 4 ?_
 rw [rounds_succ]
 go_wp2_with (first | (at_builtin;refine wpList_paths rfl _ _ rfl w.heap.size 0 [] _ rfl hr a0 m0 c0 u0 rfl (H0.out _ hk) z1 (by omega) ?_;intro v2 w2 hr2 k2))
 have s2:=own_kept_paths hk hr (Nat.le_refl _) k2
 obtain ⟨vo2,vc2,rfl⟩:=row_shape hr2
 obtain ⟨f2_0,f2_1,f2_2⟩:=C0.out _ s2
 have z2:=s2.size
 clear d0 d1 d2 z1 hr k2 hk
 rw [rounds_succ]
 go_wp2_with (first | (at_builtin;refine wpList_paths rfl _ _ rfl w.heap.size _ _ _ rfl hr2 a1 m1 c1 u1 rfl (H1.out _ s2) z2 (by omega) ?_;intro v3 w3 hr3 k3))
 have s3:=own_kept_paths s2 hr2 (Nat.le_refl _) k3
 obtain ⟨vo3,vc3,rfl⟩:=row_shape hr3
 obtain ⟨f3_0,f3_1,f3_2⟩:=C0.out _ s3
 have z3:=s3.size
 clear f2_0 f2_1 f2_2 z2 hr2 k3 s2
 rw [rounds_succ]
 go_wp2_with (first | (at_builtin;refine wpList_paths rfl _ _ rfl w.heap.size _ _ _ rfl hr3 a2 m2 c2 u2 rfl (H2.out _ s3) z3 (by omega) ?_;intro v4 w4 hr4 k4))
 have s4:=own_kept_paths s3 hr3 (Nat.le_refl _) k4
 obtain ⟨vo4,vc4,rfl⟩:=row_shape hr4
 have E3:Hid (w4.ownsRow w.heap.size 32 1 (.slice vo4 (0+m0+m1+m2) vc4) (m0+m1+m2) (u0++u1++u2)):=by simpa [Hid] using hr4
 clear hr4 k4
 rw [rounds_succ]
 go_wp2
 go_ret
 exact ⟨_,rfl,E3.out,s4⟩
structure ArgT (w:World) (ao:Option Addr) (xs:List Int) (cap:Nat):Prop where
 arg:Arg w ao xs cap
 typ:∀ a,ao=some a→∃ cur,w.heap[a.block]? = some (.cells cur 3 (0,0))
 own:∀ a,ao=some a→∃ b cur,a=⟨b,0,none⟩∧w.heap[b]? = some (.cells cur 3 (0,0))∧cur.size=cap∧cap≤maxLen
theorem ArgT.kept {w w' : World} {ao:Option Addr} {xs:List Int} {cap:Nat} {S:Nat→Prop} (h:ArgT w ao xs cap) (hk:Kept S w w') (hS:∀ k,S k→∀ cur,w.heap[k]? ≠ some (.cells cur 3 (0,0))):ArgT w' ao xs cap:=by
 have ne:∀ a,ao=some a→¬ S a.block:=fun a e s=>by
  obtain ⟨cur,hc⟩:=h.2 a e
  exact hS _ s cur hc
 refine ⟨⟨h.1.at'.kept hk ne,h.1.cap', h.1.nil,h.1.size⟩,fun a e=>?_,fun a e=>?_⟩
 ·obtain ⟨cur,hc⟩:=h.2 a e
  exact ⟨cur,hk.at hc (ne a e)⟩
 ·obtain ⟨b,cur,e1,hc,hs,hm⟩:=h.own a e
  exact ⟨b,cur,e1,hk.at hc (by have:=ne a e;rw [e1] at this;exact this),hs,hm⟩
theorem ArgT.same {w w' : World} {ao:Option Addr} {xs:List Int} {cap:Nat} (h:ArgT w ao xs cap) (hk:Same0 w w'):ArgT w' ao xs cap:=h.kept hk (fun _ f=>f.elim)
theorem Row.arg {base:Nat} {w:World} {v:Value} {xs:List Int} (h:Row base w v xs) (hl:xs.length≤100000):∃ ao ac,v=.slice ao xs.length ac∧ArgT w ao xs ac∧∀ a,ao=some a→base≤a.block:=by
 obtain ⟨ao,ac,e,h1,h2,h3⟩:=h.ints
 rcases h.2 with ⟨e2,h0⟩ | ⟨g,cap,cur,e2,hb,hg,hle,hmx,hsz,_⟩
 ·rw [e] at e2
  simp only [Value.slice.injEq] at e2
  obtain ⟨rfl,_,rfl⟩:=e2
  exact ⟨none,0,e,⟨⟨h1,by omega,fun _=>⟨h0,rfl⟩,by omega⟩,(fun a e=>by cases e),fun a e=>by cases e⟩,fun a e=>by cases e⟩
 ·rw [e] at e2
  simp only [Value.slice.injEq] at e2
  obtain ⟨rfl,_,rfl⟩:=e2
  exact ⟨_,ac,e,⟨⟨h1,hle,(fun e=>by cases e),by omega⟩,(fun a e=>by cases e;exact ⟨cur,hg⟩),fun a e=>by cases e;exact ⟨g,cur,rfl,hg,by simpa using hsz,hmx⟩⟩,fun a e=>by cases e;exact hb⟩
theorem eqnilI (w:World) (a:Option Addr) (n c n' c' : Nat):(binOp .eql 32 (.slice a n c) (.slice none n' c')).run Tryz.prog w=.ok (.bool a.isNone) w:=Lib.run_eql_slice_nil w _ _ a n c n' c' Tryz.underlying32
set_option maxHeartbeats 1000000 in
theorem cloneI_any {w:World} {ao:Option Addr} {cap:Nat} {xs:List Int} (hx:Arg w ao xs cap) :
  Calls Tryz.prog 73 #[.slice ao xs.length cap] w fun e w' => ∃ v,e=.returned v∧Row w.heap.size w' v xs∧Same0 w w' := by
 have hnil:=eqnilI
 have hsz:=hx.size
 cases ao with
 | none=>
  obtain ⟨h0,rfl⟩:=hx.nil rfl
  obtain rfl:xs=[]:=List.eq_nil_of_length_eq_zero h0
  go_enter Tryz.func73,Tryz.ntmps73
  go_wp2
  go_ret
  exact ⟨_,rfl,World.ownsRow_nil _ _ _ _,Kept.refl _ _⟩
 | some ad=>
  have k0:Same0 w (w.alloc (.cells #[] 3)):=(Kept.refl _ w).alloc _
  have r0:Row w.heap.size (w.alloc (.cells #[] 3)) (.slice (some ⟨w.heap.size,0,none⟩) 0 0) []:=row_empty w _ (Nat.le_refl _) rfl
  have cI:=hx.at'.same k0
  have z0:=k0.size
  clear hx
  go_enter Tryz.func73,Tryz.ntmps73
  go_wp2_with (first | (at_builtin;refine wpList_more rfl _ _ 32 rfl Tryz.underlying32 w.heap.size [] _ rfl r0 xs _ _ _ rfl rfl cI z0 (by simp;omega) ?_;intro v' w4 hr4 hk4))
  go_ret
  exact ⟨_,rfl,by simpa using hr4,k0.onto r0 hk4⟩
end Go.Proofs.YtdlibbiaaejpmaaGreat
