import Derived.Test.YtmloedlkoijfbaaSU02
import Derived.Test.YtmloedlkoijfbaaSU01
import Derived.Laws.OwnMore
namespace Go.Proofs.Ytmloedlkoijfbaa
set_option linter.unusedVariables false
def AppN (l:List Nd) (a:Nat):Prop:=∃ h:a<l.length,l[a].2.2.2.1=false
def Kpt (l:List Nd) (R:List Int) (a:Nat):Prop:=AppN l a∧∃ r∈R,Rc l r.toNat a
def Wf (l:List Nd):Prop:=(∀ x∈l,mayB l.length x=true)∧Ac l
theorem Res.app {l:List Nd} {a b:Nat} (h:Res l a b):AppN l b:=h.2
theorem AppN.res {l:List Nd} {a:Nat} (h:AppN l a):Res l a a:=by
 obtain ⟨h1,h2⟩:=h
 exact Res.self h1 h2
theorem ind_to {l:List Nd} (hw:Wf l) {a:Nat} (h:a<l.length) (q:l[a].2.2.2.1=true):Ed l a l[a].2.2.2.2.toNat∧l[a].2.2.2.2.toNat<l.length:=by
 have m:=(may_facts (hw.1 _ (List.getElem_mem h))).2.2.2.2.2.1 q
 exact ⟨ed_ind h q m.1,by omega⟩
theorem Ind.rc {l:List Nd} (hw:Wf l):∀ {k a b:Nat},Ind l k a b→Rc l a b
 | 0,a,b,h=>by cases h;exact Rc.refl l a
 | k+1,a,b,⟨h,q,r⟩=>(Ind.rc hw r).step (ind_to hw h q).1
theorem Res.rc {l:List Nd} (hw:Wf l) {a b:Nat} (h:Res l a b):Rc l a b:=by
 obtain ⟨⟨k,h1⟩,_⟩:=h
 exact h1.rc hw
theorem Ind.under {l:List Nd} (hw:Wf l):∀ {k a b c:Nat},Ind l k a b→AppN l b→Rc l a c→AppN l c→Rc l b c
 | 0,a,b,c,h,_,r,_=>by cases h;exact r
 | k+1,a,b,c,⟨h,q,i⟩,hb,r,hc=>by
  obtain ⟨n,hn⟩:=r
  cases n with
  | zero=>
   cases hn
   obtain ⟨_,hc2⟩:=hc
   rw [q] at hc2;cases hc2
  | succ n=>
   obtain ⟨m,⟨h1,h2⟩,h3⟩:=hn
   unfold downL at h2
   rw [if_pos q] at h2
   simp only [List.mem_singleton] at h2
   have e:m=l[a].2.2.2.2.toNat:=by omega
   rw [e] at h3
   exact Ind.under hw i hb ⟨n,h3⟩ hc
theorem Res.under {l:List Nd} (hw:Wf l) {a b c:Nat} (h:Res l a b) (r:Rc l a c) (hc:AppN l c):Rc l b c:=by
 obtain ⟨⟨k,h1⟩,h2⟩:=h
 exact h1.under hw h2 r hc
theorem res_ex {l:List Nd} (hw:Wf l) {a:Nat} (h:a<l.length):∃ b,Res l a b:=by
 obtain ⟨r,hr⟩:=hw.2
 have:∀ n a,r a<n→a<l.length→∃ b,Res l a b:=by
  intro n
  induction n with
  | zero=>intro a h;omega
  | succ n ih=>
   intro a h1 h2
   by_cases q:l[a].2.2.2.1=true
   ·obtain ⟨e1,e2⟩:=ind_to hw h2 q
    obtain ⟨b,hb⟩:=ih _ (by have:=hr _ _ e1;omega) e2
    exact ⟨b,Res.step h2 q hb⟩
   ·exact ⟨a,Res.self h2 (by simpa using q)⟩
 exact this (r a+1) a (by omega) h
theorem AppN.down {l:List Nd} {a:Nat} (h:AppN l a):downL (l[a]'h.1)=(l[a]'h.1).2.1:=by
 obtain ⟨h1,h2⟩:=h
 unfold downL
 rw [if_neg (by rw [h2];simp)]
theorem args_rng {l:List Nd} (hw:Wf l) {a:Nat} (h:a<l.length) {z:Int} (hz:z∈l[a].2.1):0≤z∧z<(l.length:Int):=(may_facts (hw.1 _ (List.getElem_mem h))).2.2.2.2.1 z hz
theorem Kpt.arg {l:List Nd} (hw:Wf l) {R:List Int} {a:Nat} (h:Kpt l R a) {z:Int} (hz:z∈(l[a]'h.1.1).2.1) {b:Nat} (hb:Res l z.toNat b):Kpt l R b:=by
 obtain ⟨ha,r,hr,hc⟩:=h
 refine ⟨hb.app,r,hr,hc.trans (Rc.step ⟨ha.1,?_⟩ (hb.rc hw))⟩
 rw [ha.down]
 have:=(args_rng hw ha.1 hz).1
 rw [Int.toNat_of_nonneg this];exact hz
theorem Kpt.root {l:List Nd} (hw:Wf l) {R:List Int} {r:Int} (hr:r∈R) {b:Nat} (hb:Res l r.toNat b):Kpt l R b:=⟨hb.app,r,hr,hb.rc hw⟩
theorem Kpt.in {l:List Nd} (hw:Wf l) {R:List Int} (hR:∀ r∈R,0≤r∧r<(l.length:Int)) {S:Nat→Prop} (h1:∀ r∈R,∀ b,Res l r.toNat b→S b) (h2:∀ a (h:AppN l a),S a→∀ z∈(l[a]'h.1).2.1,∀ b,Res l z.toNat b→S b) {a:Nat} (h:Kpt l R a):S a:=by
 obtain ⟨ha,r,hr,hc⟩:=h
 have key:∀ x y,(∀ b,Res l x b→S b)→Ed l x y→∀ b,Res l y b→S b:=by
  intro x y hx ⟨hl,he⟩ b hb
  by_cases q:l[x].2.2.2.1=true
  ·refine hx b (Res.step hl q ?_)
   unfold downL at he
   rw [if_pos q] at he
   simp only [List.mem_singleton] at he
   have e:l[x].2.2.2.2.toNat=y:=by omega
   rw [e];exact hb
  ·have hap:AppN l x:=⟨hl,by simpa using q⟩
   have hd:=hap.down
   refine h2 x hap (hx x hap.res) (y:Int) (by rw [← hd];exact he) b (by simpa using hb)
 have:=Rc.in (S:=fun x=>∀ b,Res l x b→S b) (fun i j hi e=>key i j hi e) (fun b hb=>h1 r hr b hb) hc
 exact this a ha.res
structure Wh (l:List Nd) (R:List Int) (s:List Int) (T:List (List Int)):Prop where
 val:∀ (x:Nat) (v:Int),s[x]? = some v→v = -1∨∃ b:Nat,v=(b:Int)∧Res l x b∧s[b]? = some (b:Int)
 rch:∀ (x b:Nat),s[x]? = some (b:Int)→∃ r∈R,Rc l r.toNat x
 root:∀ r∈R,s[r.toNat]? ≠ some (-1)∨∃ t∈T,r∈t
 args:∀ (a:Nat) (h:a<l.length),s[a]? = some (a:Int)→∀ z∈l[a].2.1,s[z.toNat]? ≠ some (-1)∨∃ t∈T,z∈t
 rng:∀ t∈T,∀ z∈t,(0≤z∧z<(l.length:Int))∧∃ r∈R,Rc l r.toNat z.toNat
 len:l.length≤s.length
theorem Wh.start {l:List Nd} {R:List Int} (hR:∀ r∈R,0≤r∧r<(l.length:Int)) {room:Nat} (hl:l.length≤room):Wh l R (List.replicate room (-1)) [R]:=by
 have h0:∀ (x:Nat) (v:Int),(List.replicate room (-1:Int))[x]? = some v→v = -1:=fun x v h=>by
  rw [List.getElem?_replicate] at h
  split at h
  ·cases h;rfl
  ·cases h
 refine ⟨fun x v h=>.inl (h0 x v h),fun x b h=>?_,fun r hr=>.inr ⟨R,by simp,hr⟩,fun a h ha=>?_,fun t ht z hz=>?_,by simpa using hl⟩
 ·have:=h0 x _ h;omega
 ·have:=h0 a _ ha;omega
 ·simp only [List.mem_singleton] at ht
  subst ht
  exact ⟨hR z hz,z,hz,Rc.refl _ _⟩
theorem Wh.skip {l:List Nd} {R s:List Int} {T:List (List Int)} {b:Int} {t:List Int} (h:Wh l R s (T ++ [b :: t])) (hb:s[b.toNat]? ≠ some (-1)):Wh l R s (T ++ [t]):=by
 have mv:∀ z:Int,(s[z.toNat]? ≠ some (-1)∨∃ u∈T ++ [b :: t],z∈u)→s[z.toNat]? ≠ some (-1)∨∃ u∈T ++ [t],z∈u:=by
  rintro z (q | ⟨u,hu,hz⟩)
  ·exact .inl q
  ·rcases List.mem_append.1 hu with e | e
   ·exact .inr ⟨u,by simp [e],hz⟩
   ·simp only [List.mem_singleton] at e
    subst e
    rcases List.mem_cons.1 hz with e | e
    ·subst e;exact .inl hb
    ·exact .inr ⟨t,by simp,e⟩
 refine ⟨h.val,h.rch,fun r hr=>mv r (h.root r hr),fun a ha q z hz=>mv z (h.args a ha q z hz),fun u hu z hz=>?_,h.len⟩
 rcases List.mem_append.1 hu with e | e
 ·exact h.rng u (by simp [e]) z hz
 ·simp only [List.mem_singleton] at e
  subst e
  exact h.rng (b :: u) (by simp) z (by simp [hz])
theorem Wh.drop {l:List Nd} {R s:List Int} {T:List (List Int)} (h:Wh l R s (T ++ [[]])):Wh l R s T:=by
 have mv:∀ z:Int,(s[z.toNat]? ≠ some (-1)∨∃ u∈T ++ [([]:List Int)],z∈u)→s[z.toNat]? ≠ some (-1)∨∃ u∈T,z∈u:=by
  rintro z (q | ⟨u,hu,hz⟩)
  ·exact .inl q
  ·rcases List.mem_append.1 hu with e | e
   ·exact .inr ⟨u,e,hz⟩
   ·simp only [List.mem_singleton] at e
    subst e;cases hz
 exact ⟨h.val,h.rch,fun r hr=>mv r (h.root r hr),fun a ha q z hz=>mv z (h.args a ha q z hz),fun u hu z hz=>h.rng u (by simp [hu]) z hz,h.len⟩
def wr2 (s:List Int) (a b:Nat):List Int:=(s.set a (a:Int)).set b (a:Int)
theorem wr2_len (s:List Int) (a b:Nat):(wr2 s a b).length=s.length:=by simp [wr2]
theorem wr2_at (s:List Int) (a b x:Nat):(wr2 s a b)[x]? = if b=x then (if x<s.length then some (a:Int) else none) else if a=x then (if x<s.length then some (a:Int) else none) else s[x]? := by
 unfold wr2
 rw [List.getElem?_set]
 simp only [List.length_set]
 split
 ·rename_i e;subst e;rfl
 ·rw [List.getElem?_set]
  split
  ·rename_i e;subst e;rfl
  ·rfl
theorem Wh.look {l:List Nd} (hw:Wf l) {R s:List Int} {T:List (List Int)} {b a:Nat} {t:List Int} (h:Wh l R s (T ++ [(b:Int) :: t])) (hb:s[b]? = some (-1)) (ha:Res l b a) (U:List (List Int)) (hU:∀ u∈T ++ [t],u∈U) (hU2:∀ u∈U,u∈T ++ [t]∨u=(l[a]'ha.2.1).2.1) (hN:s[a]? = some (-1)→(l[a]'ha.2.1).2.1∈U):Wh l R (wr2 s a b) U:=by
 have hlen:=h.len
 have hal:a<l.length:=ha.2.1
 have has:a<s.length:=by omega
 have hbs:b<s.length:=(List.getElem?_eq_some_iff.1 hb).1
 have va:(wr2 s a b)[a]? = some (a:Int):=by
  rw [wr2_at];simp [has]
 have vb:(wr2 s a b)[b]? = some (a:Int):=by rw [wr2_at];simp [hbs]
 have vo:∀ x,x≠a→x≠b→(wr2 s a b)[x]? = s[x]? := fun x h1 h2=>by rw [wr2_at,if_neg (Ne.symm h2),if_neg (Ne.symm h1)]
 have known:∀ x,s[x]? ≠ some (-1)→(wr2 s a b)[x]? ≠ some (-1):=fun x hx=>by
  by_cases h1:x=a
  ·subst h1;rw [va];intro e;simp only [Option.some.injEq] at e;omega
  ·by_cases h2:x=b
   ·subst h2;rw [vb];intro e;simp only [Option.some.injEq] at e;omega
   ·rw [vo x h1 h2];exact hx
 have rb:=(h.rng ((b:Int) :: t) (by simp) (b:Int) (by simp))
 have aa:Res l a a:=AppN.res ha.2
 have mv:∀ z:Int,(s[z.toNat]? ≠ some (-1)∨∃ u∈T ++ [(b:Int) :: t],z∈u)→(wr2 s a b)[z.toNat]? ≠ some (-1)∨∃ u∈U,z∈u:=by
  rintro z (q | ⟨u,hu,hz⟩)
  ·exact .inl (known _ q)
  ·rcases List.mem_append.1 hu with e | e
   ·exact .inr ⟨u,hU u (by simp [e]),hz⟩
   ·simp only [List.mem_singleton] at e
    subst e
    rcases List.mem_cons.1 hz with e | e
    ·subst e
     refine .inl ?_
     rw [Int.toNat_natCast,vb];intro e;simp only [Option.some.injEq] at e;omega
    ·exact .inr ⟨t,hU t (by simp),e⟩
 refine ⟨fun x v hx=>?_,fun x c hx=>?_,fun r hr=>mv r (h.root r hr),fun x hx q z hz=>?_,fun u hu z hz=>?_,by rw [wr2_len];exact hlen⟩
 ·by_cases h1:x=a
  ·subst h1;rw [va] at hx;cases hx;exact .inr ⟨x,rfl,aa,va⟩
  ·by_cases h2:x=b
   ·subst h2;rw [vb] at hx;cases hx;exact .inr ⟨a,rfl,ha,va⟩
   ·rw [vo x h1 h2] at hx
    rcases h.val x v hx with e | ⟨c,e1,e2,e3⟩
    ·exact .inl e
    ·refine .inr ⟨c,e1,e2,?_⟩
     by_cases h3:c=a
     ·subst h3;exact va
     ·by_cases h4:c=b
      ·subst h4;rw [hb] at e3;simp only [Option.some.injEq] at e3;omega
      ·rw [vo c h3 h4];exact e3
 ·by_cases h1:x=a
  ·subst h1
   obtain ⟨r,hr,hc⟩:=rb.2
   rw [Int.toNat_natCast] at hc
   exact ⟨r,hr,hc.trans (ha.rc hw)⟩
  ·by_cases h2:x=b
   ·subst h2
    obtain ⟨r,hr,hc⟩:=rb.2
    rw [Int.toNat_natCast] at hc
    exact ⟨r,hr,hc⟩
   ·rw [vo x h1 h2] at hx
    exact h.rch x c hx
 ·by_cases h1:x=a
  ·subst h1
   by_cases h2:s[x]? = some (-1)
   ·exact .inr ⟨_,hN h2,hz⟩
   ·have h3:s[x]? = some (x:Int):=by
     rcases h.val x s[x] (by simp) with e | ⟨c,e1,e2,e3⟩
     ·exact absurd (by rw [List.getElem?_eq_getElem has,e]) h2
     ·have:=Res.uniq e2 aa;subst this;exact e3
    exact mv z (h.args x hx h3 z hz)
  ·by_cases h2:x=b
   ·subst h2
    rw [vb] at q
    simp only [Option.some.injEq] at q
    omega
   ·rw [vo x h1 h2] at q
    exact mv z (h.args x hx q z hz)
 ·rcases hU2 u hu with e | e
  ·rcases List.mem_append.1 e with e | e
   ·exact h.rng u (by simp [e]) z hz
   ·simp only [List.mem_singleton] at e
    subst e
    exact h.rng ((b:Int) :: u) (by simp) z (by simp [hz])
  ·subst e
   refine ⟨args_rng hw hal hz,?_⟩
   obtain ⟨r,hr,hc⟩:=rb.2
   rw [Int.toNat_natCast] at hc
   refine ⟨r,hr,hc.trans ((ha.rc hw).snoc ⟨hal,?_⟩)⟩
   rw [AppN.down ha.2,Int.toNat_of_nonneg (args_rng hw hal hz).1]
   exact hz
theorem Wh.old {l:List Nd} (hw:Wf l) {R s:List Int} {T:List (List Int)} {b a:Nat} {t:List Int} (h:Wh l R s (T ++ [(b:Int) :: t])) (hb:s[b]? = some (-1)) (ha:Res l b a) (hN:s[a]? ≠ some (-1)):Wh l R (wr2 s a b) (T ++ [t]):=
 h.look hw hb ha (T ++ [t]) (fun _ e=>e) (fun _ e=>.inl e) (fun e=>absurd e hN)
theorem Wh.new {l:List Nd} (hw:Wf l) {R s:List Int} {T:List (List Int)} {b a:Nat} {t:List Int} (h:Wh l R s (T ++ [(b:Int) :: t])) (hb:s[b]? = some (-1)) (ha:Res l b a):Wh l R (wr2 s a b) (T ++ [t] ++ [(l[a]'ha.2.1).2.1]):=
 h.look hw hb ha _ (fun u e=>by simp at e ⊢;rcases e with e | e <;> simp [e]) (fun u e=>by simp at e ⊢;rcases e with e | e | e <;> simp [e]) (fun e=>by simp)
structure IsS (l:List Nd) (R:List Int) (s:List Int):Prop where
 len:l.length≤s.length
 self:∀ a:Nat,s[a]? = some (a:Int) ↔ Kpt l R a
 root:∀ r∈R,∃ b:Nat,s[r.toNat]? = some (b:Int)∧Res l r.toNat b∧Kpt l R b
 args:∀ (a:Nat) (h:Kpt l R a),∀ z∈(l[a]'h.1.1).2.1,∃ b:Nat,s[z.toNat]? = some (b:Int)∧Res l z.toNat b∧Kpt l R b
theorem Wh.done {l:List Nd} (hw:Wf l) {R s:List Int} (hR:∀ r∈R,0≤r∧r<(l.length:Int)) (h:Wh l R s []):IsS l R s:=by
 have hlen:=h.len
 have get:∀ x:Nat,x<l.length→s[x]? ≠ some (-1)→∃ b:Nat,s[x]? = some (b:Int)∧Res l x b∧s[b]? = some (b:Int):=fun x hx hn=>by
  have hs:x<s.length:=by omega
  rcases h.val x s[x] (by simp) with e | ⟨c,e1,e2,e3⟩
  ·exact absurd (by rw [List.getElem?_eq_getElem hs,e]) hn
  ·exact ⟨c,by rw [List.getElem?_eq_getElem hs,e1],e2,e3⟩
 have root:∀ r∈R,∃ b:Nat,s[r.toNat]? = some (b:Int)∧Res l r.toNat b∧s[b]? = some (b:Int):=fun r hr=>by
  have:=hR r hr
  rcases h.root r hr with e | ⟨t,ht,_⟩
  ·exact get _ (by omega) e
  ·cases ht
 have args:∀ (a:Nat) (h:a<l.length),s[a]? = some (a:Int)→∀ z∈l[a].2.1,∃ b:Nat,s[z.toNat]? = some (b:Int)∧Res l z.toNat b∧s[b]? = some (b:Int):=fun a ha q z hz=>by
  have:=args_rng hw ha hz
  rcases h.args a ha q z hz with e | ⟨t,ht,_⟩
  ·exact get _ (by omega) e
  ·cases ht
 have self:∀ a:Nat,s[a]? = some (a:Int) ↔ Kpt l R a:=fun a=>by
  constructor
  ·intro e
   rcases h.val a _ e with e1 | ⟨c,e1,e2,e3⟩
   ·omega
   ·obtain rfl:a=c:=by omega
    exact ⟨e2.app,h.rch a a e⟩
  ·intro k
   refine Kpt.in hw hR (S:=fun a=>s[a]? = some (a:Int)) (fun r hr b hb=>?_) (fun a ha q z hz b hb=>?_) k
   ·obtain ⟨c,c1,c2,c3⟩:=root r hr
    rw [Res.uniq hb c2];exact c3
   ·obtain ⟨c,c1,c2,c3⟩:=args a ha.1 q z hz
    rw [Res.uniq hb c2];exact c3
 refine ⟨hlen,self,fun r hr=>?_,fun a ha z hz=>?_⟩
 ·obtain ⟨b,b1,b2,b3⟩:=root r hr
  exact ⟨b,b1,b2,(self b).1 b3⟩
 ·obtain ⟨b,b1,b2,b3⟩:=args a ha.1.1 ((self a).2 ha) z hz
  exact ⟨b,b1,b2,(self b).1 b3⟩
def msW (s:List Int) (T:List (List Int)):Nat:=8 * s.count (-1)+(T.map (fun t=>t.length+1)).sum
theorem msW_skip (s:List Int) (T:List (List Int)) (b:Int) (t:List Int):msW s (T ++ [t])+1=msW s (T ++ [b :: t]):=by
 simp [msW];omega
theorem msW_drop (s:List Int) (T:List (List Int)):msW s T+1=msW s (T ++ [[]]):=by simp [msW];omega
theorem count_put {s:List Int} {x:Nat} {v:Int} (hv:v ≠ -1):(s.set x v).count (-1)≤s.count (-1):=by
 by_cases h:x<s.length
 ·rw [List.count_set h]
  simp only [beq_iff_eq,hv,if_false]
  omega
 ·rw [List.set_eq_of_length_le (by omega)];exact Nat.le_refl _
theorem count_put' {s:List Int} {x:Nat} {v:Int} (hv:v ≠ -1) (hx:s[x]? = some (-1)):(s.set x v).count (-1)+1=s.count (-1):=by
 obtain ⟨h,e⟩:=List.getElem?_eq_some_iff.1 hx
 rw [List.count_set h]
 have:0<s.count (-1):=List.count_pos_iff.2 (e ▸ List.getElem_mem h)
 simp [hv,e]
 omega
theorem count_wr2 {s:List Int} {a b:Nat} (hb:s[b]? = some (-1)):(wr2 s a b).count (-1)+1≤s.count (-1):=by
 unfold wr2
 by_cases e:a=b
 ·subst e
  rw [List.set_set]
  have:=count_put' (v:=(a:Int)) (by omega) hb
  omega
 ·have h1:(s.set a (a:Int))[b]? = some (-1):=by rw [List.getElem?_set_ne (by omega)];exact hb
  have:=count_put' (v:=(a:Int)) (by omega) h1
  have:=count_put (s:=s) (x:=a) (v:=(a:Int)) (by omega)
  omega
theorem msW_old {s:List Int} (T:List (List Int)) {a b:Nat} (t:List Int) (hb:s[b]? = some (-1)):msW (wr2 s a b) (T ++ [t])<msW s (T ++ [(b:Int) :: t]):=by
 have:=count_wr2 (a:=a) hb
 simp [msW];omega
theorem msW_new {s:List Int} (T:List (List Int)) {a b:Nat} (t u:List Int) (hb:s[b]? = some (-1)) (hu:u.length≤6):msW (wr2 s a b) (T ++ [t] ++ [u])<msW s (T ++ [(b:Int) :: t]):=by
 have:=count_wr2 (a:=a) hb
 simp [msW];omega
structure Bf (l:List Nd) (top N:Nat) (met:List Bool) (F:List Nat):Prop where
 len:met.length=N
 top' : top∈F
 each:∀ j∈F,j<l.length∧Rc l top j
 iff:∀ j,met[j]? = some true ↔ j∈F
 cnt:F.length=met.count true
def Cl (l:List Nd) (F:List Nat) (i:Nat):Prop:=∀ k (h:k<F.length),k<i→∀ j,Ed l F[k] j→j∈F
theorem Bf.le {l:List Nd} {top N:Nat} {met:List Bool} {F:List Nat} (h:Bf l top N met F):F.length≤N:=by
 rw [h.cnt,← h.len];exact List.count_le_length
theorem Bf.start {l:List Nd} {top N:Nat} (ht:top<l.length) (hN:l.length≤N):Bf l top N ((List.replicate N false).set top true) [top]:=by
 refine ⟨by simp,by simp,?_,?_,?_⟩
 ·intro j hj;simp at hj;subst hj;exact ⟨ht,Rc.refl l j⟩
 ·intro j
  rw [List.getElem?_set]
  by_cases e:top=j
  ·subst e;simp;omega
  ·simp [e,List.getElem?_replicate]
   intro h;exact e h.symm
 ·rw [List.count_set (by simp;omega),List.count_replicate]
  simp
theorem Bf.push {l:List Nd} {top N:Nat} {met:List Bool} {F:List Nat} (h:Bf l top N met F) {b:Nat} (hb:met[b]? = some false) (hl:b<l.length) (hr:Rc l top b):Bf l top N (met.set b true) (F ++ [b]):=by
 obtain ⟨hlt,hv⟩:=List.getElem?_eq_some_iff.1 hb
 refine ⟨by simp [h.len],by simp [h.top'],?_,?_,?_⟩
 ·intro j hj
  rcases List.mem_append.1 hj with q | q
  ·exact h.each j q
  ·simp at q;subst q;exact ⟨hl,hr⟩
 ·intro j
  rw [List.getElem?_set]
  by_cases e:b=j
  ·subst e;simp [hlt]
  ·rw [if_neg e,h.iff]
   simp
   intro q;exact absurd q.symm e
 ·rw [List.count_set hlt,List.length_append,h.cnt]
  simp [hv]
theorem Cl.push {l:List Nd} {F:List Nat} {i:Nat} (h:Cl l F i) (hi:i≤F.length) (b:Nat):Cl l (F ++ [b]) i:=by
 intro k hk hki j e
 rw [List.getElem_append_left (by omega)] at e
 exact List.mem_append.2 (.inl (h k (by omega) hki j e))
theorem Bf.done {l:List Nd} {top N:Nat} {met:List Bool} {F:List Nat} (h:Bf l top N met F) (hc:Cl l F F.length) (a:Nat):met[a]? = some true ↔ Rc l top a:=by
 rw [h.iff]
 refine ⟨fun q=>(h.each a q).2,fun q=>?_⟩
 refine Rc.in (S:=fun j=>j∈F) (fun i j hi e=>?_) h.top' q
 obtain ⟨k,hk,rfl⟩:=List.mem_iff_getElem.1 hi
 exact hc k hk hk j e
theorem Bf.has {l:List Nd} {top N:Nat} {met:List Bool} {F:List Nat} (h:Bf l top N met F) {a:Nat} (q:met[a]? = some true):Rc l top a:=(h.each a ((h.iff a).1 q)).2
theorem Cl.next {l:List Nd} {F:List Nat} {i:Nat} (h:Cl l F i) (hi:i<F.length) (hd:∀ z∈(if h:F[i]<l.length then downL l[F[i]] else []),z.toNat∈F):Cl l F (i+1):=by
 intro k hk hki j e
 by_cases q:k=i
 ·subst q
  obtain ⟨hlt,hm⟩:=e
  have:=hd (j:Int) (by rw [dif_pos hlt];exact hm)
  simpa using this
 ·exact h k hk (by omega) j e
end Go.Proofs.Ytmloedlkoijfbaa
namespace Go.Proofs.Ytmloedlkoijfbaa
set_option maxRecDepth 100000
set_option linter.unusedVariables false
open Go.RowKit
attribute [local go_sem ↓] Go.wp_at_zero Go.wp_at_succ
set_option maxHeartbeats 1000000 in
theorem next_any {w:World} {x:Nd} {ao:Option Addr} {ac:Nat} (hx:Arg w ao x.2.1 ac) :
  Calls Try.prog 65 #[nodeV x ao ac] w fun e w' => ∃ bo bc,e=.returned (.slice bo (downL x).length bc)∧IntsAt w' bo (downL x)∧(∀ a,bo=some a→(ao=some a∧downL x=x.2.1)∨(w.heap.size≤a.block∧a.block<w'.heap.size))∧Same0 w w' := by
 obtain ⟨W0,hW0⟩:∃ W0,W0=w.alloc (.cells #[.int .i64 x.1,.slice ao x.2.1.length ac,.int .i64 x.2.2.1,.bool x.2.2.2.1,.int .i64 x.2.2.2.2] 47):=⟨_,rfl⟩
 have k0:Same0 w W0:=by rw [hW0];exact (Kept.refl _ w).alloc _
 have hb:W0.heap[w.heap.size]? = some (.cells #[.int .i64 x.1,.slice ao x.2.1.length ac,.int .i64 x.2.2.1,.bool x.2.2.2.1,.int .i64 x.2.2.2.2] 47 (0,0)):=by rw [hW0];exact heap_alloc_new w _
 obtain ⟨b0,b1,b2,b3,b4⟩:=box5 hb
 have hz:=k0.size
 obtain ⟨pb,hp⟩:∃ pb,x.2.2.2.1=pb:=⟨_,rfl⟩
 cases pb
 ·have hd:downL x=x.2.1:=by unfold downL;rw [hp];rfl
  have H:Hid (IntsAt W0 ao x.2.1∧Same0 w W0):=⟨hx.at'.same k0,k0⟩
  rw [hd]
  rw [hp] at b3
  clear hd hx k0 hb hz hp
  go_enter Try.func65,Try.ntmps65
  go_upto_region 1 with fail
  rw [← hW0]
  clear hW0
  go_wp2
  go_ret
  exact ⟨ao,ac,rfl,H.out.1,fun a e=>.inl ⟨e,by first | trivial | rfl⟩,H.out.2⟩
 ·have hd:downL x=[x.2.2.2.2]:=by unfold downL;rw [hp];rfl
  have H:Hid (IntsAt (W0.alloc (.cells #[.int .i64 x.2.2.2.2] 3)) (some ⟨W0.heap.size,0,none⟩) [x.2.2.2.2]∧(∀ a,some (⟨W0.heap.size,0,none⟩:Addr)=some a→(ao=some a∧[x.2.2.2.2]=x.2.1)∨(w.heap.size≤a.block∧a.block<(W0.alloc (.cells #[.int .i64 x.2.2.2.2] 3)).heap.size))∧Same0 w (W0.alloc (.cells #[.int .i64 x.2.2.2.2] 3))):=⟨ints_one _ _,fun a e=>by cases e;exact .inr ⟨hz,by simp⟩,k0.alloc _⟩
  rw [hd]
  rw [hp] at b3
  clear hd hx k0 hb hz hp
  go_enter Try.func65,Try.ntmps65
  go_upto_region 1 with fail
  rw [← hW0]
  clear hW0
  go_wp2
  go_ret
  exact ⟨_,1,rfl,H.out.1,H.out.2.1,H.out.2.2⟩
theorem info_boolT:(Try.prog.info? 4).map (fun i=>(i.zero,i.size,i.bytes))=some (some (.bool false),1,1):=by kernel_rfl
def bv (m:List Bool):List Value:=m.map Value.bool
theorem bv_set (m:List Bool) (k:Nat) (b:Bool):bv (m.set k b)=(bv m).set k (.bool b):=by simp [bv,List.map_set]
theorem made_bools (n:Nat):(madeCells (Value.bool false).cells (n * 1)).toList=bv (List.replicate n false):=by
 rw [Nat.mul_one,show (Value.bool false).cells = #[Value.bool false] from rfl,toList_madeCells_one]
 simp [bv]
theorem row_bool {w:World} {base g N:Nat} {m:List Bool} (h:w.ownsRow base 4 1 (.slice (some ⟨g,0,none⟩) N N) N (bv m)) {k:Nat} (hk:k<N):∃ b,m[k]? = some b∧w.cell? ⟨g,k,none⟩=some (.bool b)∧w.frozen? ⟨g,k,none⟩=false:=by
 have hl:m.length=N:=by have:=h.1;simp [bv] at this;omega
 refine ⟨m[k]'(by omega),by simp [hl,hk],?_,h.frozenAt k⟩
 rw [h.cellAt k (by omega)]
 simp [bv,hl,hk]
theorem ofN_snoc (F:List Nat) (b:Nat):ofN (F ++ [b])=ofN F ++ [(b:Int)]:=by simp [ofN]
theorem ofN_len' (F:List Nat):(ofN F).length=F.length:=by simp [ofN]
theorem ofN_at {F:List Nat} {i:Nat} (h:i<(ofN F).length):(ofN F)[i]=((F[i]'(by simpa [ofN] using h):Nat):Int):=by simp [ofN]
structure NsAt (w:World) (g N:Nat) (l:List Nd):Prop where
 lt:g<w.heap.size
 le:l.length≤N
 big:N≤4000
 each:∀ i (hi:i<l.length),NdC (fun b=>b<w.heap.size) w g (i * 5) l[i]
 inl:InL l
 few:∀ x∈l,x.2.1.length≤6
theorem NsAt.same {w w' : World} {g N:Nat} {l:List Nd} (h:NsAt w g N l) (hk:Same0 w w'):NsAt w' g N l:=
 ⟨Nat.lt_of_lt_of_le h.lt hk.size,h.le,h.big,fun i hi=>((h.each i hi).kept h.lt hk (fun f=>f) (fun _ _ f=>f.elim)).mono (fun k _ _ e=>Nat.lt_of_lt_of_le e hk.size),h.inl,h.few⟩
theorem HpB.ns {B:Nat→Prop} {w:World} {h g room:Nat} {l:List Nd} (p:HpB B w h g room l):NsAt w g room l:=
 ⟨p.ltG,p.le,p.rm2,fun i hi=>(p.each i hi).mono (fun k hk _ _=>hk),p.inl,fun x hx=>(may_facts (p.may x hx)).2.1⟩
structure StAt' (w wr:World) (mb N:Nat) (met:List Bool) (F:List Nat) (v:Value):Prop where
 mt:wr.ownsRow w.heap.size 4 1 (.slice (some ⟨mb,0,none⟩) N N) N (bv met)
 fd:Row (mb+1) wr v (ofN F)
 kp:Same0 w wr
 lo:w.heap.size≤mb
theorem StAt'.same {w wr w' : World} {mb N:Nat} {met:List Bool} {F:List Nat} {v:Value} (h:StAt' w wr mb N met F v) (hk:Same0 wr w'):StAt' w w' mb N met F v:=
 ⟨hk.row h.mt (fun _ _ f=>f),hk.row h.fd (fun _ _ f=>f),h.kp.trans' hk,h.lo⟩
theorem wpList_pushN {w0:World} {ops:Array Oper} {rest:List Oper} {o:Oper} {a:Act} {Q:Exit→Act→World→Prop} (hgd:o.guard=none) (s x:Operand) (t:TypeId)
  (ho:o.op=.call { callee:=.builtin .append,args:=#[s,x],argTypes:=#[t,t] }) (ht:Try.prog.underlying t=some (.slice 3))
  (base:Nat) (xs:List Int) (v:Value) (hs:a.eval s=v) (hr:Row base w0 v xs) (y:Int) (n:Nat) (hn:w0.heap.size=n) (hx:a.eval x=.slice (some ⟨n,0,none⟩) 1 1) (hb:base≤w0.heap.size) (hsz:(xs.length+1) * 8≤140737488355328)
  (h:∀ g cap w', Row base w' (.slice (some ⟨g,0,none⟩) (xs.length+1) cap) (xs ++ [y])→Kept (fun k=>v.ownBlock=some k) w0 w' → (v.ownBlock=some g∨w0.heap.size≤g)→wpList Try.prog ops Q rest (a.put o.dst (.slice (some ⟨g,0,none⟩) (xs.length+1) cap)) w') :
  wpList Try.prog ops Q (o :: rest) a (w0.alloc (.cells #[.int .i64 y] 3)):=by
 subst hn
 exact wpList_push hgd s x t ho ht base xs v hs hr y hx hb hsz h
theorem row_one (w:World) (base:Nat) (hb:base≤w.heap.size) (z:Int):Row base (w.alloc (.cells #[.int .i64 z] 3)) (.slice (some ⟨w.heap.size,0,none⟩) 1 1) [z]:=
 ⟨rfl,.inr ⟨w.heap.size,1, #[.int .i64 z],rfl,hb,heap_alloc_new w _,Nat.le_refl _,by unfold maxLen;omega,rfl,rfl⟩⟩
theorem StAt'.put {w wr:World} {mb N:Nat} {met:List Bool} {F:List Nat} {v:Value} (h:StAt' w wr mb N met F v) (b:Nat):StAt' w (wr.setCell ⟨mb,b,none⟩ (.bool true)) mb N (met.set b true) F v∧Kept (fun k=>k=mb) wr (wr.setCell ⟨mb,b,none⟩ (.bool true)):=by
 have K:Kept (fun k=>k=mb) wr (wr.setCell ⟨mb,b,none⟩ (.bool true)):=Kept.setCell (S:=fun k=>k=mb) (Kept.refl _ _) (p:=⟨mb,b,none⟩) (fun _=>rfl) _
 refine ⟨⟨by rw [bv_set];exact (h.mt.stored b _).1,K.row h.fd (fun k e q=>?_),h.kp.own h.lo _,h.lo⟩,K⟩
 have:=(h.fd.lt k e).1
 omega
theorem StAt'.push {w wr w4:World} {mb N:Nat} {met:List Bool} {F:List Nat} {v v' : Value} {b:Nat} (h:StAt' w wr mb N met F v) (hr:Row (mb+1) w4 v' (ofN F ++ [(b:Int)])) (hk:Kept (fun k=>v.ownBlock=some k) wr w4):StAt' w w4 mb N met (F ++ [b]) v' := by
 have lo:=h.lo
 refine ⟨hk.row h.mt (fun k e q=>?_),by rw [ofN_snoc];exact hr,h.kp.trans hk (fun i hi e=>?_),h.lo⟩
 ·have:=(h.fd.lt k q).1
  have e' : mb=k:=Option.some.inj e
  omega
 ·have:=(h.fd.lt i e).1
  omega
set_option maxHeartbeats 4000000 in
theorem stands_any {w:World} {g N cap:Nat} {l:List Nd} (h:NsAt w g N l) (a top:Nat) (ha:a<l.length) (ht:top<l.length) :
  Calls Try.prog 51 #[.slice (some ⟨g,0,none⟩) N cap,.int .i64 (a:Int),.int .i64 (top:Int)] w fun e w' => ∃ b:Bool,e=.returned (.bool b)∧(b=true ↔ Rc l top a)∧Same0 w w' := by
 obtain ⟨i,hi,hz0,hz1,hz2⟩:=info_parts info_boolT
 have hle:=h.le
 have hbig:=h.big
 have i1:(0:Int)≤(top:Int):=by omega
 have i2:(top:Int)<(N:Int):=by omega
 have i3:(0:Int)≤(a:Int):=by omega
 have i4:(a:Int)<(N:Int):=by omega
 have i5:(0:Int)≤(N:Int):=by omega
 go_enter Try.func51,Try.ntmps51
 go_upto_region 2 with (first | (at_make;refine wpList_make_full _ rfl _ _ 92 rfl w.heap.size 4 i _ 1 Try.underlying92 hi hz0 hz1 _ _ _ _ N rfl rfl rfl rfl (by rw [hz2];omega) (by unfold maxLen;omega) (Nat.le_refl _) ?_;intro w1 hown hgrow))
 rw [made_bools] at hown
 have K1:Same0 w w1:=Same0.grown (Kept.refl _ w) hgrow
 obtain ⟨mb,hmb⟩:∃ mb,mb=w.heap.size:=⟨_,rfl⟩
 have Hmb:Hid (mb=w.heap.size):=hmb
 have s1:=(hown.stored top (.bool true)).1
 rw [← bv_set] at s1
 have hg1:mb<w1.heap.size:=by have:=(hown.lt w.heap.size rfl).2;omega
 have K2:Same0 w (w1.setCell ⟨w.heap.size,top,none⟩ (.bool true)):=K1.own (Nat.le_refl _) _
 obtain ⟨_, -,m1,m2⟩:=row_bool hown (show top<N by omega)
 have S0:Hid (StAt' w ((w1.setCell ⟨mb,top,none⟩ (.bool true)).alloc (.cells #[.int .i64 (top:Int)] 3)) mb N ((List.replicate N false).set top true) [top] (.slice (some ⟨w1.heap.size,0,none⟩) 1 1)):=by
  have k9:Same0 (w1.setCell ⟨mb,top,none⟩ (.bool true)) ((w1.setCell ⟨mb,top,none⟩ (.bool true)).alloc (.cells #[.int .i64 (top:Int)] 3)):=(Kept.refl _ _).alloc _
  have e9:(w1.setCell ⟨mb,top,none⟩ (.bool true)).heap.size=w1.heap.size:=by simp [World.setCell]
  subst hmb
  refine ⟨k9.row s1 (fun _ _ f=>f),?_,K2.trans' k9,Nat.le_refl _⟩
  have:=row_one (w1.setCell ⟨w.heap.size,top,none⟩ (.bool true)) (w.heap.size+1) (by rw [e9];omega) (top:Int)
  rw [e9] at this
  exact this
 have HB0:Hid (Bf l top N ((List.replicate N false).set top true) [top]):=Bf.start ht (by omega)
 have HN:Hid (∀ ww,Same0 w ww→NsAt ww g N l):=fun ww hk=>h.same hk
 have HL:Hid (∀ ww,Same0 w ww→∀ j (hj:j<l.length),∃ ao ac,ww.cell? ⟨g,j * 5,none⟩=some (.int .i64 l[j].1)∧ww.cell? ⟨g,j * 5+1,none⟩=some (.slice ao l[j].2.1.length ac)∧ww.cell? ⟨g,j * 5+2,none⟩=some (.int .i64 l[j].2.2.1)∧ww.cell? ⟨g,j * 5+3,none⟩=some (.bool l[j].2.2.2.1)∧ww.cell? ⟨g,j * 5+4,none⟩=some (.int .i64 l[j].2.2.2.2)∧ArgT ww ao l[j].2.1 ac∧∀ x,ao=some x→x.block<w.heap.size):=fun ww hk j hj=>by
  obtain ⟨ao,ac,n0,n1,n2,n3,n4,n5,n6⟩:=(h.each j hj).kept h.lt hk (fun f=>f) (fun _ _ f=>f.elim)
  exact ⟨ao,ac,n0,n1,n2,n3,n4,n5,n6⟩
 have HI:Hid (InL l):=h.inl
 have HW:Hid (∀ x∈l,x.2.1.length≤6):=h.few
 rw [← hmb] at m1 m2 ⊢
 clear hmb hown hgrow s1 K1 K2 hz0 hz1 hz2 hi h
 go_upto_region 4 with fail
 go_wp2
 clear m1 m2
 go_loopw [8,9] (fun f i wr=>∃ (k:Nat) (met:List Bool) (F:List Nat),i=.int .i64 (k:Int)∧k≤(ofN F).length∧Hid (StAt' w wr mb N met F f)∧Hid (Bf l top N met F)∧Hid (Cl l F k)) (fun _ i _=>N+1-(intOf i).toNat)
 case atStart=>exact ⟨0,_,_,rfl,Nat.zero_le _,S0,HB0,fun k hk h0=>absurd h0 (Nat.not_lt_zero _)⟩
 case round=>
  clear S0 HB0
  obtain ⟨k,met,F,rfl,hk,HS,HB,HC⟩:=hrel
  have hFN:(ofN F).length≤N:=by rw [ofN_len'];exact HB.out.le
  obtain ⟨fo,fc,rfl⟩:=row_shape HS.out.fd
  obtain ⟨b,hb1,hb2,hb3⟩:=row_bool HS.out.mt (show a<N by omega)
  have HB1:Hid (met[a]? = some b):=hb1
  clear hb1 hb3
  by_cases hlt:k<(ofN F).length
  ·cases b
   ·have j1:(k:Int)<((ofN F).length:Int):=by omega
    have j0:(0:Int)≤(k:Int):=by omega
    have hkF:k<F.length:=by rwa [ofN_len'] at hlt
    obtain ⟨fk,hfk⟩:∃ fk,fk=F[k]:=⟨_,rfl⟩
    have hfl:fk<l.length:=by rw [hfk];exact (HB.out.each _ (List.getElem_mem hkF)).1
    have j2:(0:Int)≤(fk:Int):=by omega
    have j3:(fk:Int)<(N:Int):=by omega
    obtain ⟨fo', ac', e,hfi, -, -⟩:=HS.out.fd.ints
    cases e
    obtain ⟨fb,foff,rfl, -,cF⟩:=hfi.get hlt
    rw [ofN_at hlt,← hfk] at cF
    obtain ⟨ao,ac,n0,n1,n2,n3,n4,n5,n6⟩:=HL.out wr HS.out.kp fk hfl
    have CN:=next_any n5.1
    have HFK:Hid (F[k]? = some fk):=by show _=_;rw [hfk];simp [hkF]
    have HRC:Hid (Rc l top fk):=by show Rc _ _ _;rw [hfk];exact (HB.out.each _ (List.getElem_mem hkF)).2
    have HD:Hid (∀ z∈downL l[fk],0≤z∧z<(l.length:Int)):=HI.out fk hfl
    have HDE:Hid (∀ z:Nat,(z:Int)∈downL l[fk]→Ed l fk z):=fun z hz=>⟨hfl,hz⟩
    have HDL:Hid ((if h:fk<l.length then downL l[fk] else [])=downL l[fk]):=by show _=_;rw [dif_pos hfl]
    have HAO:Hid (∀ x,ao=some x→x.block<w.heap.size):=n6
    have dl:(downL l[fk]).length≤1000:=by have:=HW.out _ (List.getElem_mem hfl);unfold downL;split <;> (simp;try omega)
    generalize downL l[fk]=D at *
    clear n5 n6 hfi hfk
    go_upto_region 8 with (first | (go_at_call 65;refine CN.mono ?_;rintro e w3 ⟨bo,bc,rfl,hD,hbo,hk3⟩))
    have HS3:Hid (StAt' w w3 mb N met F (.slice (some ⟨fb,foff,none⟩) (ofN F).length fc)):=HS.out.same hk3
    have HBO:Hid (IntsAt w3 bo D∧∀ x,bo=some x→x.block<w3.heap.size∧(Value.slice (some ⟨fb,foff,none⟩) (ofN F).length fc).ownBlock≠some x.block∧x.block≠mb):=by
     have hkp:=HS.out.kp
     have hlo:=HS.out.lo
     refine ⟨hD,fun x e=>?_⟩
     have hfb:=HS.out.fd.lt fb rfl
     have hmb:=HS.out.mt.lt mb rfl
     have hne:(Value.slice (some ⟨fb,foff,none⟩) (ofN F).length fc).ownBlock=some fb:=rfl
     rcases hbo x e with ⟨q, -⟩ | q
     ·have q1:=HAO.out x q
      have:=hk3.size
      have:=hkp.size
      exact ⟨by omega,fun t=>by rw [hne] at t;cases t;omega,by omega⟩
     ·exact ⟨q.2,fun t=>by rw [hne] at t;cases t;omega,by omega⟩
    clear hbo hk3 hD CN n0 n1 n2 n3 n4 cF hb2
    go_loopw [8,42] (fun f c wr2=>∃ (q:Nat) (met' : List Bool) (F' : List Nat),c=.int .i64 (q:Int)∧q≤D.length∧Hid (StAt' w wr2 mb N met' F' f)∧Hid (Bf l top N met' F')∧Hid (Cl l F' k∧F'[k]? = some fk)∧Hid (∀ z∈D.take q,z.toNat∈F')∧Hid (IntsAt wr2 bo D∧∀ x,bo=some x→x.block<wr2.heap.size∧f.ownBlock≠some x.block∧x.block≠mb)) (fun _ c _=>D.length-(intOf c).toNat)
    case atStart=>exact ⟨0,met,F,rfl,Nat.zero_le _,HS3,HB,⟨HC.out,HFK.out⟩,fun z hz=>by simp at hz,HBO⟩
    case round=>
     clear HS3 HBO
     obtain ⟨q,met', F', rfl,hq,HS', HB', HC', HT', HO'⟩:=hrel
     obtain ⟨fo2,fc2,rfl⟩:=row_shape HS'.out.fd
     by_cases hql:q<D.length
     ·have q0:(0:Int)≤(q:Int):=by omega
      have q1:(q:Int)<(D.length:Int):=by omega
      obtain ⟨db,doff,rfl, -,cD⟩:=HO'.out.1.get hql
      have hz:=HD.out _ (List.getElem_mem hql)
      obtain ⟨b,hb⟩:∃ b:Nat,D[q]=(b:Int):=⟨D[q].toNat,by omega⟩
      rw [hb] at cD hz
      have HE:Hid (Ed l fk b):=HDE.out b (hb ▸ List.getElem_mem hql)
      have HTQ:Hid (∀ F2:List Nat,(∀ z∈D.take q,z.toNat∈F2)→b∈F2→∀ z∈D.take (q+1),z.toNat∈F2):=fun F2 h1 h2 z hz=>by
       rw [List.take_succ_eq_append_getElem hql,List.mem_append] at hz
       rcases hz with hz | hz
       ·exact h1 z hz
       ·simp at hz;rw [hz,hb];simpa using h2
      have q2:(0:Int)≤(b:Int):=by omega
      have q3:(b:Int)<(N:Int):=by omega
      obtain ⟨vb,m0,m1,m2⟩:=row_bool HS'.out.mt (show b<N by omega)
      have HM:Hid (met'[b]? = some vb):=m0
      have hFN' : (ofN F').length≤N:=by rw [ofN_len'];exact HB'.out.le
      have hbl:b<l.length:=by omega
      clear hb m0
      cases vb
      ·obtain ⟨P1,PK⟩:=HS'.out.put b
       have HP1:Hid (StAt' w (wr.setCell ⟨mb,b,none⟩ (.bool true)) mb N (met'.set b true) F' (.slice fo2 (ofN F').length fc2)):=P1
       have HPK:Hid (Kept (fun k=>k=mb) wr (wr.setCell ⟨mb,b,none⟩ (.bool true))):=PK
       have RW:=P1.fd
       have hbs:mb+1≤(wr.setCell ⟨mb,b,none⟩ (.bool true)).heap.size:=by have:=(P1.mt.lt mb rfl).2;omega
       have esz:(wr.setCell ⟨mb,b,none⟩ (.bool true)).heap.size=wr.heap.size:=by simp [World.setCell]
       clear P1 PK
       go_wp2_with (first | (at_builtin;refine wpList_pushN rfl _ _ 31 rfl Try.underlying31 (mb+1) (ofN F') _ rfl RW (b:Int) _ esz rfl hbs (by omega) ?_;intro g4 cap4 w4 hr4 hk4 hor))
       have P4:StAt' w w4 mb N (met'.set b true) (F' ++ [b]) (.slice (some ⟨g4,0,none⟩) ((ofN F').length+1) cap4):=HP1.out.push hr4 hk4
       have P5:Hid (StAt' w w4 mb N (met'.set b true) (F' ++ [b]) (.slice (some ⟨g4,0,none⟩) ((ofN F').length+1) cap4)):=P4
       have B5:Hid (Bf l top N (met'.set b true) (F' ++ [b])):=HB'.out.push HM.out hbl (HRC.out.snoc HE.out)
       have C5:Hid (Cl l (F' ++ [b]) k∧(F' ++ [b])[k]? = some fk):=by
        obtain ⟨c1,c2⟩:=HC'.out
        have hk' := (List.getElem?_eq_some_iff.1 c2).1
        exact ⟨c1.push (by omega) b,by rw [List.getElem?_append_left hk'];exact c2⟩
       have T5:Hid (∀ z∈D.take (q+1),z.toNat∈F' ++ [b]):=HTQ.out _ (fun z hz=>List.mem_append.2 (.inl (HT'.out z hz))) (by simp)
       have O5:Hid (IntsAt w4 (some ⟨db,doff,none⟩) D∧∀ x,some (⟨db,doff,none⟩:Addr)=some x→x.block<w4.heap.size∧(Value.slice (some ⟨g4,0,none⟩) ((ofN F').length+1) cap4).ownBlock≠some x.block∧x.block≠mb):=by
        obtain ⟨o1,o2⟩:=HO'.out
        have ox:=o2 ⟨db,doff,none⟩ rfl
        have hsz:(wr.setCell ⟨mb,b,none⟩ (.bool true)).heap.size=wr.heap.size:=by simp [World.setCell]
        refine ⟨(o1.kept HPK.out (fun x e t=>by cases e;exact ox.2.2 t)).kept hk4 (fun x e t=>by cases e;exact ox.2.1 t),fun x e=>?_⟩
        cases e
        refine ⟨Nat.lt_of_lt_of_le (by rw [hsz];exact ox.1) hk4.size,fun t=>?_,ox.2.2⟩
        have t' : g4=db:=by simpa [Value.ownBlock] using t
        rcases hor with q | q
        ·rw [t'] at q;exact ox.2.1 q
        ·rw [hsz] at q;have:=ox.1;simp at this;omega
       clear P4 HP1 hr4 hk4 hor RW HTQ
       go_roundw
       case rel=>exact ⟨q+1,_,_,by go_num,by omega,P5,B5,C5,T5,O5⟩
       case measure=>simp [intOf];omega
      ·have HBF:Hid (b∈F'):=(HB'.out.iff b).1 HM.out
       go_wp2
       go_roundw
       case rel=>exact ⟨q+1,met', F', by go_num,by omega,HS', HB', HC', HTQ.out F' HT'.out HBF.out,HO'⟩
       case measure=>simp [intOf];omega
     ·obtain rfl:q=D.length:=by omega
      have hFN' : (ofN F').length≤N:=by rw [ofN_len'];exact HB'.out.le
      go_wp2
      go_roundw
      case rel=>exact ⟨k+1,met', F', by go_num,by
        have:=(List.getElem?_eq_some_iff.1 HC'.out.2).1
        rw [ofN_len'];omega,HS', HB', by
        obtain ⟨c1,c2⟩:=HC'.out
        obtain ⟨c3,c4⟩:=List.getElem?_eq_some_iff.1 c2
        refine c1.next c3 (fun z hz=>HT'.out z ?_)
        rw [List.take_length]
        rw [c4] at hz
        exact HDL.out ▸ hz⟩
      case measure=>simp [intOf];omega
   ·have j1:(k:Int)<((ofN F).length:Int):=by omega
    go_wp2
    go_ret
    exact ⟨true,rfl,⟨fun _=>HB.out.has HB1.out,fun _=>rfl⟩,HS.out.kp⟩
  ·obtain rfl:k=(ofN F).length:=by omega
   clear hlt
   go_wp2
   go_ret
   refine ⟨b,rfl,?_,HS.out.kp⟩
   rw [← HB.out.done (by have:=HC.out;rwa [ofN_len'] at this) a,HB1.out]
   simp
end Go.Proofs.Ytmloedlkoijfbaa
