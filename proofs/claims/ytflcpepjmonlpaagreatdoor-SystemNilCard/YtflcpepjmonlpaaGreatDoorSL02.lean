import Derived.Test.YtflcpepjmonlpaaGreatDoorSL01
import Derived.Test.YtflcpepjmonlpaaGreatDoorProg
import Derived.WalkKit
import Derived.WalkSpells
import Derived.WalkLawsBesides
import Derived.Deep.RegionLaw
import Derived.Deep.DeepCutAuto
import Derived.Deep.DrawnRows
import Derived.Deep.Slices
import Derived.Deep.Strs
import Derived.ProofKit
import Derived.Handy
namespace Go.Proofs.YtflcpepjmonlpaaGreatDoor
set_option linter.unusedVariables false
structure UOk (L:List Sym) (J:List Int) (res:Option (Int→Int)) (k:Nat) (ld:Int→Int) (rs:List (Nat × Nat × Nat)):Prop where
 trs:Trs L J
 ok:LdOk J ld
 runs:∀ r∈rs,RunOk L J r
 eq:uniF L J k ld rs=some res
 len:rs.length+roots J ld≤J.length+1
theorem UOk.nil {L:List Sym} {J:List Int} {res:Option (Int→Int)} {k:Nat} {ld:Int→Int} (h:UOk L J res k ld []):res=some ld:=by
 have:=h.eq
 cases k with
 | zero=>simp [uniF] at this
 | succ k=>simp [uniF] at this;exact this.symm
theorem UOk.pop {L:List Sym} {J:List Int} {res:Option (Int→Int)} {k:Nat} {ld:Int→Int} {x y o:Nat} {rs:List (Nat × Nat × Nat)} (h:UOk L J res k ld ((x,y,o) :: rs)) (hxy:¬ x<y):∃ k', k=k' + 1∧UOk L J res k' ld rs:=by
 have:=h.eq
 cases k with
 | zero=>simp [uniF] at this
 | succ k=>
  rw [uniF,if_neg hxy] at this
  exact ⟨k,rfl,h.trs,h.ok,fun r hr=>h.runs r (by simp [hr]),this,by have:=h.len;simp at this;omega⟩
theorem UOk.top {L:List Sym} {J:List Int} {res:Option (Int→Int)} {k:Nat} {ld:Int→Int} {x y o:Nat} {rs:List (Nat × Nat × Nat)} (h:UOk L J res k ld ((x,y,o) :: rs)) (hxy:x<y):x<J.length∧o<J.length∧endN L J x≤J.length∧endN L J o≤J.length∧UPart J (ld x)∧UPart J (ld o)∧ld (ld x)=ld x∧ld (ld o)=ld o∧(∀ r∈(endN L J x,y,endN L J o) :: rs,RunOk L J r):=by
 obtain ⟨s1,s2,s3,s4,s5,s6⟩:=(h.runs (x,y,o) (by simp)).step hxy
 have px:=part_nat (J:=J) (p:=x) (by omega)
 have po:=part_nat (J:=J) (p:=o) s4
 refine ⟨by omega,s4,by omega,(h.trs.lt s4).2,h.ok.part _ px,h.ok.part _ po,h.ok.idem _ px,h.ok.idem _ po,fun r hr=>?_⟩
 rcases List.mem_cons.1 hr with e | e
 ·rw [e];exact s6
 ·exact h.runs r (by simp [e])
theorem UOk.step {L:List Sym} {J:List Int} {res:Option (Int→Int)} {k:Nat} {ld:Int→Int} {x y o:Nat} {rs:List (Nat × Nat × Nat)} (h:UOk L J res k ld ((x,y,o) :: rs)) (hxy:x<y):∃ k', k=k' + 1 ∧
  (ld x=ld o→UOk L J res k' ld ((endN L J x,y,endN L J o) :: rs)) ∧
  (ld x≠ld o→ld x<0→UOk L J res k' (un (ld x) (ld o) ld) ((endN L J x,y,endN L J o) :: rs)) ∧
  (ld x≠ld o→¬ ld x<0→ld o<0→UOk L J res k' (un (ld o) (ld x) ld) ((endN L J x,y,endN L J o) :: rs)) ∧
  (ld x≠ld o→¬ ld x<0→¬ ld o<0→at' J (ld x)≠at' J (ld o)→res=none) ∧
  (ld x≠ld o→¬ ld x<0→¬ ld o<0→at' J (ld x)=at' J (ld o)→UOk L J res k' (un (ld x) (ld o) ld) (((ld x).toNat+1,endN L J (ld x).toNat,(ld o).toNat+1) :: (endN L J x,y,endN L J o) :: rs)):=by
 have heq:=h.eq
 have hlen:=h.len
 obtain ⟨t1,t2,t3,t4,hpx,hpo,hlx,hlo,hr⟩:=h.top hxy
 have px:=part_nat (J:=J) (p:=x) t1
 have po:=part_nat (J:=J) (p:=o) t2
 simp at hlen
 cases k with
 | zero=>simp [uniF] at heq
 | succ k=>
  rw [uniF,if_pos hxy] at heq
  refine ⟨k,rfl,?_,?_,?_,?_,?_⟩
  ·intro h1;rw [if_pos h1] at heq
   exact ⟨h.trs,h.ok,hr,heq,by simp;omega⟩
  ·intro h1 h2
   rw [if_neg h1,if_pos h2] at heq
   have:=roots_le (J:=J) (p:=ld x) hlo h1
   exact ⟨h.trs,h.ok.un hlx hlo hpo h1 (h.ok.sym _ po) (fun f=>by omega),hr,heq,by simp;omega⟩
  ·intro h1 h2 h3
   have h1' : ld o≠ld x:=fun e=>h1 e.symm
   rw [if_neg h1,if_neg h2,if_pos h3] at heq
   have:=roots_le (J:=J) (p:=ld o) hlx h1'
   exact ⟨h.trs,h.ok.un hlo hlx hpx h1' (h.ok.sym _ px) (fun f=>by omega),hr,heq,by simp;omega⟩
  ·intro h1 h2 h3 h4
   rw [if_neg h1,if_neg h2,if_neg h3,if_pos h4] at heq
   simp at heq;exact heq.symm
  ·intro h1 h2 h3 h4
   rw [if_neg h1,if_neg h2,if_neg h3,if_neg (by simpa using h4)] at heq
   obtain ⟨p,hp⟩:=Int.eq_ofNat_of_zero_le (Int.not_lt.1 h2)
   obtain ⟨q,hq⟩:=Int.eq_ofNat_of_zero_le (Int.not_lt.1 h3)
   have hpl:p<J.length:=by have:=hpx.2;omega
   have hql:q<J.length:=by have:=hpo.2;omega
   have hlt:=roots_lt (J:=J) (ld:=ld) (p:=p) (q:=ld o) hlo (by rw [← hp];exact h1) (by rw [← hp];exact hlx) hpl
   rw [← hp] at hlt
   refine ⟨h.trs,h.ok.un hlx hlo hpo h1 (h.ok.sym _ po) (fun _=>⟨by omega,h4.symm⟩),?_,heq,by simp;omega⟩
   intro r hr'
   rcases List.mem_cons.1 hr' with e | e
   ·rw [e,show (ld x).toNat=p by omega,show (ld o).toNat=q by omega]
    rw [hp,hq,at'_nat J p hpl,at'_nat J q hql] at h4
    exact RunOk.kids h.trs hpl hql h4
   ·exact hr r e
theorem roots_len (J:List Int) (ld:Int→Int):roots J ld≤J.length:=by
 have:=List.countP_le_length (p:=fun p:Nat=>decide (ld (p:Int)=(p:Int))) (l:=List.range J.length)
 simpa [roots] using this
def updN (sz:Nat→Int) (p:Nat) (v:Int):Nat→Int:=fun k=>if k=p then v else sz k
def sizA (f:(Nat→Int)→Int→Option (Int × (Nat→Int))):List Nat→Int→(Nat→Int)→Option (Int × (Nat→Int))
 | [],s,sz=>some (s,sz)
 | x :: r,s,sz=>
  match f sz (x:Int) with
  | none=>none
  | some (k,sz')=>if k = -1 then some (-1,sz') else sizA f r (min (s+k) 2001) sz'
def kidsL (L:List Sym) (J:List Int) (p:Nat):List Nat:=starts L J (arN L (at' J p)) (p+1)
def sizF (L:List Sym) (J:List Int) (ld:Int→Int):Nat→(Nat→Int)→Int→Option (Int × (Nat→Int))
 | 0,_,_=>none
 | n+1,sz,x=>
  if ld x<0 then some (1,sz)
  else if sz (ld x).toNat≠0 then some (sz (ld x).toNat,sz)
  else match sizA (sizF L J ld n) (kidsL L J (ld x).toNat) 1 (updN sz (ld x).toNat (-1)) with
   | none=>none
   | some (s,sz')=>if s = -1 then some (-1,sz') else some (s,updN sz' (ld x).toNat s)
def argsT (f:Int→Option (List Int)):List Nat→Option (List Int)
 | []=>some []
 | x :: r=>
  match f (x:Int) with
  | none=>none
  | some a=>
   match argsT f r with
   | none=>none
   | some b=>some (a++b)
def tmF (L:List Sym) (J:List Int) (ld:Int→Int):Nat→Int→Option (List Int)
 | 0,_=>none
 | d+1,x=>
  if ld x<0 then some [ld x]
  else match argsT (tmF L J ld d) (kidsL L J (ld x).toNat) with
   | none=>none
   | some u=>some (at' J (ld x) :: u)
theorem argsT_mono {f g:Int→Option (List Int)} (h:∀ x u,f x=some u→g x=some u):∀ (l:List Nat) (u:List Int),argsT f l=some u→argsT g l=some u
 | [],u,e=>e
 | x :: r,u,e=>by
  unfold argsT at e ⊢
  cases h1:f (x:Int) with
  | none=>simp [h1] at e
  | some a=>
   cases h2:argsT f r with
   | none=>simp [h1,h2] at e
   | some b=>
    simp only [h1,h2] at e
    simp only [h _ _ h1,argsT_mono h r b h2]
    exact e
theorem tmF_succ {L:List Sym} {J:List Int} {ld:Int→Int}:∀ {d:Nat} {x:Int} {u:List Int},tmF L J ld d x=some u→tmF L J ld (d+1) x=some u:=by
 intro d
 induction d with
 | zero=>intro x u h;simp [tmF] at h
 | succ d ih=>
  intro x u h
  rw [tmF] at h ⊢
  by_cases h1:ld x<0
  ·rw [if_pos h1] at h ⊢;exact h
  ·rw [if_neg h1] at h ⊢
   cases h2:argsT (tmF L J ld d) (kidsL L J (ld x).toNat) with
   | none=>simp [h2] at h
   | some v=>
    simp only [h2] at h
    rw [argsT_mono (fun y w hy=>ih hy) _ _ h2]
    exact h
theorem tmF_le {L : List Sym} {J : List Int} {ld : Int → Int} {d d' : Nat} (hd : d ≤ d') {x : Int} {u : List Int} (h : tmF L J ld d x = some u) : tmF L J ld d' x = some u := by
  induction d' with
  | zero => obtain rfl : d = 0 := by omega
            exact h
  | succ k ih =>
    by_cases e : d = k + 1
    · subst e; exact h
    · exact tmF_succ (ih (by omega))
def Val (L:List Sym) (J:List Int) (ld:Int→Int) (x:Int) (u:List Int):Prop:=∃ d,tmF L J ld d x=some u
def Vals (L:List Sym) (J:List Int) (ld:Int→Int) (l:List Nat) (u:List Int):Prop:=∃ d,argsT (tmF L J ld d) l=some u
theorem vals_nil (L:List Sym) (J:List Int) (ld:Int→Int):Vals L J ld [] []:=⟨0,rfl⟩
theorem vals_cons {L:List Sym} {J:List Int} {ld:Int→Int} {x:Nat} {r:List Nat} {u v:List Int} (h:Val L J ld x u) (k:Vals L J ld r v):Vals L J ld (x :: r) (u++v):=by
 obtain ⟨d,hd⟩:=h
 obtain ⟨e,he⟩:=k
 refine ⟨max d e,?_⟩
 have h2:=argsT_mono (g:=tmF L J ld (max d e)) (fun y w hy=>tmF_le (Nat.le_max_right d e) hy) _ _ he
 simp only [argsT,tmF_le (Nat.le_max_left d e) hd,h2]
theorem val_var {L:List Sym} {J:List Int} {ld:Int→Int} {x:Int} (h:ld x<0):Val L J ld x [ld x]:=⟨1,by rw [tmF,if_pos h]⟩
theorem val_sym {L:List Sym} {J:List Int} {ld:Int→Int} {x:Int} (h:¬ ld x<0) {u:List Int} (hu:Vals L J ld (kidsL L J (ld x).toNat) u):Val L J ld x (at' J (ld x) :: u):=by
 obtain ⟨d,hd⟩:=hu
 exact ⟨d+1,by rw [tmF,if_neg h,hd]⟩
theorem val_ld {L:List Sym} {J:List Int} {ld:Int→Int} {x y:Int} (h:ld x=ld y) {u:List Int} (hv:Val L J ld x u):Val L J ld y u:=by
 obtain ⟨d,hd⟩:=hv
 cases d with
 | zero=>simp [tmF] at hd
 | succ d=>rw [tmF,h] at hd;exact ⟨d+1,by rw [tmF];exact hd⟩
def SzOk (sz:Nat→Int):Prop:=∀ p,sz p = -1∨(0≤sz p∧sz p≤2001)
theorem SzOk.upd {sz:Nat→Int} (h:SzOk sz) (p:Nat) {v:Int} (hv:v = -1∨(0≤v∧v≤2001)):SzOk (updN sz p v):=fun k=>by
 unfold updN;split
 ·exact hv
 ·exact h k
theorem sizA_ok {f:(Nat→Int)→Int→Option (Int × (Nat→Int))} (hf:∀ sz x k sz', SzOk sz→f sz x=some (k,sz')→SzOk sz' ∧ (k = -1∨(1≤k∧k≤2001))):∀ (l:List Nat) (s:Int) (sz:Nat→Int) (k:Int) (sz' : Nat→Int),SzOk sz→1≤s→s≤2001→sizA f l s sz=some (k,sz')→SzOk sz' ∧ (k = -1∨(1≤k∧k≤2001))
 | [],s,sz,k,sz', h,h1,h2,e=>by
  simp only [sizA,Option.some.injEq,Prod.mk.injEq] at e
  obtain ⟨rfl,rfl⟩:=e
  exact ⟨h,.inr ⟨h1,h2⟩⟩
 | x :: r,s,sz,k,sz', h,h1,h2,e=>by
  unfold sizA at e
  cases hx:f sz (x:Int) with
  | none=>simp [hx] at e
  | some v=>
   obtain ⟨k1,sz1⟩:=v
   simp only [hx] at e
   obtain ⟨g1,g2⟩:=hf _ _ _ _ h hx
   by_cases hk:k1 = -1
   ·rw [if_pos hk] at e
    simp only [Option.some.injEq,Prod.mk.injEq] at e
    obtain ⟨rfl,rfl⟩:=e
    exact ⟨g1,.inl rfl⟩
   ·rw [if_neg hk] at e
    exact sizA_ok hf r _ _ _ _ g1 (by omega) (by omega) e
theorem sizF_ok {L:List Sym} {J:List Int} {ld:Int→Int}:∀ (n:Nat) (sz:Nat→Int) (x k:Int) (sz' : Nat→Int),SzOk sz→sizF L J ld n sz x=some (k,sz')→SzOk sz' ∧ (k = -1∨(1≤k∧k≤2001)):=by
 intro n
 induction n with
 | zero=>intro sz x k sz' _ e;simp [sizF] at e
 | succ n ih=>
  intro sz x k sz' h e
  rw [sizF] at e
  by_cases h1:ld x<0
  ·rw [if_pos h1] at e
   simp only [Option.some.injEq,Prod.mk.injEq] at e
   obtain ⟨rfl,rfl⟩:=e
   exact ⟨h,.inr ⟨by omega,by omega⟩⟩
  ·rw [if_neg h1] at e
   by_cases h2:sz (ld x).toNat≠0
   ·rw [if_pos h2] at e
    simp only [Option.some.injEq,Prod.mk.injEq] at e
    obtain ⟨rfl,rfl⟩:=e
    exact ⟨h,by have:=h (ld x).toNat;omega⟩
   ·rw [if_neg h2] at e
    cases h3:sizA (sizF L J ld n) (kidsL L J (ld x).toNat) 1 (updN sz (ld x).toNat (-1)) with
    | none=>simp [h3] at e
    | some v=>
     obtain ⟨s,sz1⟩:=v
     obtain ⟨g1,g2⟩:=sizA_ok ih _ _ _ _ _ (h.upd _ (.inl rfl)) (by omega) (by omega) h3
     simp only [h3] at e
     by_cases hs:s = -1
     ·rw [if_pos hs] at e
      simp only [Option.some.injEq,Prod.mk.injEq] at e
      obtain ⟨rfl,rfl⟩:=e
      exact ⟨g1,.inl rfl⟩
     ·rw [if_neg hs] at e
      simp only [Option.some.injEq,Prod.mk.injEq] at e
      obtain ⟨rfl,rfl⟩:=e
      exact ⟨g1.upd _ (by omega),by omega⟩
def unk (N:Nat) (sz:Nat→Int):Nat:=(List.range N).countP (fun p=>decide (sz p=0))
theorem unk_upd_le {N:Nat} {sz:Nat→Int} {p:Nat} {v:Int} (hv:v≠0):unk N (updN sz p v)≤unk N sz:=
 countP_le (fun x _ h=>by
  have h' : updN sz p v x=0:=of_decide_eq_true h
  refine decide_eq_true ?_
  unfold updN at h'
  by_cases e:x=p
  ·rw [if_pos e] at h'; exact absurd h' hv
  ·rw [if_neg e] at h'; exact h')
theorem unk_upd_lt {N:Nat} {sz:Nat→Int} {p:Nat} {v:Int} (hv:v≠0) (hp:p<N) (h0:sz p=0):unk N (updN sz p v)<unk N sz:=
 countP_lt (y:=p) (fun x _ h=>by
  have h' : updN sz p v x=0:=of_decide_eq_true h
  refine decide_eq_true ?_
  unfold updN at h'
  by_cases e:x=p
  ·rw [if_pos e] at h'; exact absurd h' hv
  ·rw [if_neg e] at h'; exact h') (by simpa using hp) (by simpa using h0) (by simp [updN,hv])
theorem starts_lt {L:List Sym} {J:List Int}:∀ {k p q:Nat},Forest L J k p q→∀ x∈starts L J k p,x<J.length
 | 0,p,q,h,x,hx=>by simp [starts] at hx
 | k+1,p,q,h,x,hx=>by
  obtain ⟨h1,h2,h3⟩:=h.succ
  simp only [starts,List.mem_cons] at hx
  rcases hx with e | e
  ·rw [e];have:=h1.le;omega
  ·exact starts_lt h3 x e
theorem kids_forest {L:List Sym} {J:List Int} (hT:Trs L J) {p:Nat} (hp:p<J.length):Forest L J (arN L (at' J p)) (p+1) (endN L J p):=by
 rw [at'_nat J p hp];exact hT.kids hp
theorem kids_lt {L:List Sym} {J:List Int} (hT:Trs L J) {p:Nat} (hp:p<J.length):∀ x∈kidsL L J p,x<J.length:=starts_lt (kids_forest hT hp)
theorem sizA_ends {N:Nat} {f:(Nat→Int)→Int→Option (Int × (Nat→Int))} {m:Nat} (l:List Nat) (hf:∀ sz,unk N sz<m→SzOk sz→∀ x∈l,∃ k sz', f sz (x:Int)=some (k,sz')∧unk N sz' ≤ unk N sz∧SzOk sz'):∀ (s:Int) (sz:Nat→Int),unk N sz<m→SzOk sz→∃ k sz', sizA f l s sz=some (k,sz')∧unk N sz' ≤ unk N sz:=by
 induction l with
 | nil=>intro s sz h h'; exact ⟨s,sz,rfl,Nat.le_refl _⟩
 | cons x r ih=>
  intro s sz h h'
  obtain ⟨k,sz1,h1,h2,h3⟩:=hf sz h h' x (by simp)
  by_cases hk:k = -1
  ·exact ⟨-1,sz1,by simp [sizA,h1,hk],h2⟩
  ·obtain ⟨k2,sz2,g1,g2⟩:=ih (fun sz a b y hy=>hf sz a b y (by simp [hy])) (min (s+k) 2001) sz1 (by omega) h3
   exact ⟨k2,sz2,by simp only [sizA,h1];rw [if_neg hk];exact g1,by omega⟩
theorem sizF_ends {L:List Sym} {J:List Int} {ld:Int→Int} (hT:Trs L J) (hl:LdOk J ld):∀ (n:Nat) (sz:Nat→Int) (x:Int),UPart J x→SzOk sz→unk J.length sz<n→∃ k sz', sizF L J ld n sz x=some (k,sz')∧unk J.length sz' ≤ unk J.length sz:=by
 intro n
 induction n with
 | zero=>intro sz x _ _ h;omega
 | succ n ih=>
  intro sz x hx hs hn
  rw [sizF]
  by_cases h1:ld x<0
  ·rw [if_pos h1];exact ⟨_,_,rfl,Nat.le_refl _⟩
  ·rw [if_neg h1]
   by_cases h2:sz (ld x).toNat≠0
   ·rw [if_pos h2];exact ⟨_,_,rfl,Nat.le_refl _⟩
   ·rw [if_neg h2]
    have hp:(ld x).toNat<J.length:=by have:=(hl.part x hx).2;omega
    have h0:sz (ld x).toNat=0:=by simpa using h2
    have hlt:=unk_upd_lt (N:=J.length) (sz:=sz) (v:=-1) (by omega) hp h0
    obtain ⟨k,sz1,g1,g2⟩:=sizA_ends (N:=J.length) (m:=n) (f:=sizF L J ld n) (kidsL L J (ld x).toNat) (fun sz a b y hy=>by
     obtain ⟨k,sz', e1,e2⟩:=ih sz y (part_nat (kids_lt hT hp y hy)) b a
     exact ⟨k,sz', e1,e2,(sizF_ok n _ _ _ _ b e1).1⟩) 1 (updN sz (ld x).toNat (-1)) (by omega) (hs.upd _ (.inl rfl))
    rw [g1]
    simp only
    by_cases hk:k = -1
    ·rw [if_pos hk];exact ⟨_,_,rfl,by omega⟩
    ·rw [if_neg hk]
     obtain ⟨_,hkk⟩:=sizA_ok (fun sz x k sz' => sizF_ok n sz x k sz') _ _ _ _ _ (hs.upd _ (.inl rfl)) (by omega) (by omega) g1
     have:=unk_upd_le (N:=J.length) (sz:=sz1) (p:=(ld x).toNat) (v:=k) (by omega)
     exact ⟨_,_,rfl,by omega⟩
def Known (L:List Sym) (J:List Int) (ld:Int→Int) (sz:Nat→Int):Prop:=∀ p:Nat,p<J.length→ld p=p→0<sz p→∃ u,Val L J ld p u∧sz p=min (u.length:Int) 2001
theorem sizA_known {L:List Sym} {J:List Int} {ld:Int→Int} {n:Nat} (hf:∀ sz x k sz', UPart J x→SzOk sz→Known L J ld sz→sizF L J ld n sz x=some (k,sz')→Known L J ld sz' ∧ (k ≠ -1→∃ u,Val L J ld x u∧k=min (u.length:Int) 2001)):∀ (l:List Nat),(∀ x∈l,x<J.length)→∀ (s0:Int) (n0:Nat) (sz:Nat→Int) (k:Int) (sz' : Nat→Int),SzOk sz→Known L J ld sz→s0=min (n0:Int) 2001→sizA (sizF L J ld n) l s0 sz=some (k,sz')→Known L J ld sz' ∧ (k ≠ -1→∃ u,Vals L J ld l u∧k=min ((n0+u.length:Nat):Int) 2001)
 | [],_,s0,n0,sz,k,sz', h1,h2,h3,e=>by
  simp only [sizA,Option.some.injEq,Prod.mk.injEq] at e
  obtain ⟨rfl,rfl⟩:=e
  exact ⟨h2,fun _=>⟨[],vals_nil _ _ _,by simpa using h3⟩⟩
 | x :: r,hl,s0,n0,sz,k,sz', h1,h2,h3,e=>by
  unfold sizA at e
  cases hx:sizF L J ld n sz (x:Int) with
  | none=>simp [hx] at e
  | some v=>
   obtain ⟨k1,sz1⟩:=v
   simp only [hx] at e
   obtain ⟨g1,g2⟩:=hf _ _ _ _ (part_nat (hl x (by simp))) h1 h2 hx
   have g3:=sizF_ok n _ _ _ _ h1 hx
   by_cases hk:k1 = -1
   ·rw [if_pos hk] at e
    simp only [Option.some.injEq,Prod.mk.injEq] at e
    obtain ⟨rfl,rfl⟩:=e
    exact ⟨g1,fun f=>absurd rfl f⟩
   ·rw [if_neg hk] at e
    obtain ⟨u,hu,hku⟩:=g2 hk
    have hsum:min (s0+k1) 2001=min ((n0+u.length:Nat):Int) 2001:=by clear g2 g1 g3 e hf;omega
    obtain ⟨f1,f2⟩:=sizA_known hf r (fun y hy=>hl y (by simp [hy])) _ (n0+u.length) _ _ _ g3.1 g1 hsum e
    refine ⟨f1,fun hk' => ?_⟩
    obtain ⟨u2,hu2,hk2⟩:=f2 hk'
    exact ⟨u++u2,vals_cons hu hu2,by rw [hk2,List.length_append];omega⟩
theorem sizF_known {L:List Sym} {J:List Int} {ld:Int→Int} (hT:Trs L J) (hl:LdOk J ld):∀ (n:Nat) (sz:Nat→Int) (x k:Int) (sz' : Nat→Int),UPart J x→SzOk sz→Known L J ld sz→sizF L J ld n sz x=some (k,sz')→Known L J ld sz' ∧ (k ≠ -1→∃ u,Val L J ld x u∧k=min (u.length:Int) 2001):=by
 intro n
 induction n with
 | zero=>intro sz x k sz' _ _ _ e;simp [sizF] at e
 | succ n ih=>
  intro sz x k sz' hx h hK e
  rw [sizF] at e
  by_cases h1:ld x<0
  ·rw [if_pos h1] at e
   simp only [Option.some.injEq,Prod.mk.injEq] at e
   obtain ⟨rfl,rfl⟩:=e
   exact ⟨hK,fun _=>⟨_,val_var h1,by simp only [List.length_singleton];omega⟩⟩
  ·rw [if_neg h1] at e
   obtain ⟨p,hp⟩:=Int.eq_ofNat_of_zero_le (Int.not_lt.1 h1)
   have hpl:p<J.length:=by have:=(hl.part x hx).2;omega
   have hpp:ld (p:Int)=p:=by
    have:=hl.idem x hx
    rw [hp] at this;exact this
   have e1:(ld x).toNat=p:=by omega
   rw [e1] at e
   by_cases h2:sz p≠0
   ·rw [if_pos h2] at e
    simp only [Option.some.injEq,Prod.mk.injEq] at e
    obtain ⟨rfl,rfl⟩:=e
    refine ⟨hK,fun hk=>?_⟩
    obtain ⟨u,hu,hz⟩:=hK p hpl hpp (by have:=h p;omega)
    exact ⟨u,val_ld (by rw [hpp,hp]) hu,hz⟩
   ·rw [if_neg h2] at e
    have h0:sz p=0:=by simpa using h2
    have hK2:Known L J ld (updN sz p (-1)):=by
     intro q hq hqq hs
     unfold updN at hs ⊢
     by_cases e:q=p
     ·rw [if_pos e] at hs;omega
     ·rw [if_neg e] at hs ⊢;exact hK q hq hqq hs
    cases h3:sizA (sizF L J ld n) (kidsL L J p) 1 (updN sz p (-1)) with
    | none=>simp [h3] at e
    | some v=>
     obtain ⟨s,sz1⟩:=v
     obtain ⟨g1,g2⟩:=sizA_known ih _ (kids_lt hT hpl) 1 1 _ _ _ (h.upd _ (.inl rfl)) hK2 (by decide) h3
     obtain ⟨o1,o2⟩:=sizA_ok (fun sz x k sz' => sizF_ok n sz x k sz') _ _ _ _ _ (h.upd _ (.inl rfl)) (by omega) (by omega) h3
     simp only [h3] at e
     by_cases hs:s = -1
     ·rw [if_pos hs] at e
      simp only [Option.some.injEq,Prod.mk.injEq] at e
      obtain ⟨rfl,rfl⟩:=e
      exact ⟨g1,fun f=>absurd rfl f⟩
     ·rw [if_neg hs] at e
      simp only [Option.some.injEq,Prod.mk.injEq] at e
      obtain ⟨rfl,rfl⟩:=e
      obtain ⟨u,hu,hz⟩:=g2 hs
      have hv:Val L J ld (p:Int) (at' J (p:Int) :: u):=by
       have:=val_sym (L:=L) (J:=J) (ld:=ld) (x:=(p:Int)) (by rw [hpp];omega) (u:=u) (by rw [hpp];simpa using hu)
       rwa [hpp] at this
      have hlen:s=min ((at' J (p:Int) :: u).length:Int) 2001:=by rw [hz];simp;omega
      refine ⟨?_,fun _=>⟨_,val_ld (by rw [hpp,hp]) hv,hlen⟩⟩
      intro q hq hqq hsq
      unfold updN at hsq ⊢
      by_cases e:q=p
      ·subst e
       rw [if_pos rfl]
       exact ⟨_,hv,hlen⟩
      ·rw [if_neg e] at hsq ⊢;exact g1 q hq hqq hsq
end Go.Proofs.YtflcpepjmonlpaaGreatDoor
namespace Go.Proofs.YtflcpepjmonlpaaGreatDoor
set_option maxRecDepth 100000
open Go.RowKit
set_option maxHeartbeats 400000 in
theorem small_any (c:Int) (w:World):Calls Tryz.prog 258 #[.int .u8 c] w fun e w' => e=.returned (.bool (smB c))∧w' = w:=by
 unfold smB
 by_cases h:97≤c
 all_goals
  go_enter Tryz.func258,Tryz.ntmps258
  go_wp2
  go_ret
  exact ⟨by simp [h] <;> omega,rfl⟩
set_option maxHeartbeats 400000 in
theorem digit_any (c:Int) (w:World):Calls Tryz.prog 259 #[.int .u8 c] w fun e w' => e=.returned (.bool (dgB c))∧w' = w:=by
 unfold dgB
 by_cases h:48≤c
 all_goals
  go_enter Tryz.func259,Tryz.ntmps259
  go_wp2
  go_ret
  exact ⟨by simp [h] <;> omega,rfl⟩
def fitB (s:ByteArray):Bool:=decide (1≤s.size) && decide (s.size≤12)
set_option maxHeartbeats 400000 in
theorem fits_any (s:ByteArray) (w:World):Calls Tryz.prog 257 #[.string s] w fun e w' => e=.returned (.bool (fitB s))∧w' = w:=by
 unfold fitB
 by_cases h:1≤s.size
 all_goals
  go_enter Tryz.func257,Tryz.ntmps257
  go_wp2
  go_ret
  exact ⟨by simp [h] <;> omega,rfl⟩
theorem name_of_loop {s : ByteArray} (h1 : 1 ≤ s.size) (h2 : s.size ≤ 12) (h0 : nmAt 0 (s[0].toNat : Int) = true) (h : ∀ j (hj : j < s.size), 1 ≤ j → nmAt j (s[j].toNat : Int) = true) : NameP s :=
  ⟨h1, h2, fun i hi => by by_cases e : i = 0; · subst e; exact h0
                          · exact h i hi (by omega)⟩
set_option maxHeartbeats 1000000 in
theorem isName_any (s:ByteArray) (w:World) (hs:s.size≤maxLen):Calls Tryz.prog 219 #[.string s] w fun e w' => e=.returned (.bool (nameB s))∧w' = w:=by
 unfold maxLen at hs
 by_cases hf:fitB s=true
 ·have hf1:1≤s.size:=by simp [fitB] at hf;omega
  have hf2:s.size≤12:=by simp [fitB] at hf;omega
  by_cases h0:smB (s[0].toNat:Int)=true
  ·go_enter Tryz.func219,Tryz.ntmps219
   go_wp2_with (first | (go_at_call 257;refine (fits_any _ _).mono ?_;rintro e w' ⟨rfl,rfl⟩) | (go_at_call 258;refine (small_any _ _).mono ?_;rintro e w' ⟨rfl,rfl⟩))
   go_loop [3] (fun i=>∃ k:Nat,1≤k∧k≤s.size∧i=.int .i64 k∧∀ j (hj:j<s.size),1≤j→j<k→nmAt j (s[j].toNat:Int)=true) (fun i=>s.size-(intOf i).toNat)
   case atStart=>exact ⟨1,by omega,hf1,rfl,by intro j _ _ _;omega⟩
   case round=>
    obtain ⟨k,hk1,hk,rfl,hal⟩:=hrel
    by_cases hlt:k<s.size
    ·by_cases hsm:smB (s[k].toNat:Int)=true
     ·have hnx:∀ j (hj:j<s.size),1≤j→j<k+1→nmAt j (s[j].toNat:Int)=true:=by
       intro j hj h1 h2
       by_cases e:j=k
       ·subst e;simp [nmAt,hsm]
       ·exact hal j hj h1 (by omega)
      go_wp2_with (first | (go_at_call 258;refine (small_any _ _).mono ?_;rintro e w' ⟨rfl,rfl⟩) | (go_at_call 259;refine (digit_any _ _).mono ?_;rintro e w' ⟨rfl,rfl⟩))
      go_round
      case rel=>exact ⟨k+1,by omega,by omega,by go_num,hnx⟩
      case measure=>simp [intOf];omega
     ·have hsm' : smB (s[k].toNat:Int)=false:=by simpa using hsm
      by_cases hdg:dgB (s[k].toNat:Int)=true
      ·have hnx:∀ j (hj:j<s.size),1≤j→j<k+1→nmAt j (s[j].toNat:Int)=true:=by
        intro j hj h1 h2
        by_cases e:j=k
        ·subst e;simp [nmAt,hdg];omega
        ·exact hal j hj h1 (by omega)
       go_wp2_with (first | (go_at_call 258;refine (small_any _ _).mono ?_;rintro e w' ⟨rfl,rfl⟩) | (go_at_call 259;refine (digit_any _ _).mono ?_;rintro e w' ⟨rfl,rfl⟩))
       go_round
       case rel=>exact ⟨k+1,by omega,by omega,by go_num,hnx⟩
       case measure=>simp [intOf];omega
      ·have hdg' : dgB (s[k].toNat:Int)=false:=by simpa using hdg
       have hno:nameB s=false:=nameB_no fun h=>by have:=h.2.2 k hlt;simp [nmAt,hsm', hdg'] at this
       go_wp2_with (first | (go_at_call 258;refine (small_any _ _).mono ?_;rintro e w' ⟨rfl,rfl⟩) | (go_at_call 259;refine (digit_any _ _).mono ?_;rintro e w' ⟨rfl,rfl⟩))
       go_ret
       exact ⟨ret_bool hno.symm,rfl⟩
    ·have hyes:nameB s=true:=nameB_yes (name_of_loop hf1 hf2 (by simp [nmAt,h0]) fun j hj h1=>hal j hj h1 (by omega))
     go_wp2
     go_ret
     first | exact ⟨rfl,rfl⟩ | exact ⟨ret_bool hyes.symm,rfl⟩
  ·have h0' : smB (s[0].toNat:Int)=false:=by simpa using h0
   have hno:nameB s=false:=nameB_no fun h=>by have:=h.2.2 0 hf1;simp [nmAt,h0'] at this
   go_enter Tryz.func219,Tryz.ntmps219
   go_wp2_with (first | (go_at_call 257;refine (fits_any _ _).mono ?_;rintro e w' ⟨rfl,rfl⟩) | (go_at_call 258;refine (small_any _ _).mono ?_;rintro e w' ⟨rfl,rfl⟩))
   go_ret
   exact ⟨ret_bool hno.symm,rfl⟩
 ·have hf' : fitB s=false:=by simpa using hf
  have hno:nameB s=false:=nameB_no fun h=>hf (by simp [fitB,h.1,h.2.1])
  go_enter Tryz.func219,Tryz.ntmps219
  go_wp2_with (first | (go_at_call 257;refine (fits_any _ _).mono ?_;rintro e w' ⟨rfl,rfl⟩))
  go_ret
  exact ⟨ret_bool hno.symm,rfl⟩
set_option maxHeartbeats 400000 in
theorem new_any (w:World):Calls Tryz.prog 119 #[] w fun e w' => e=.returned (.pointer (some ⟨w.heap.size,0,none⟩))∧w' = w.alloc (.cells #[.slice none 0 0,.map none] 138):=by
 go_enter Tryz.func119,Tryz.ntmps119
 go_wp2
 go_ret
 exact ⟨rfl,rfl⟩
theorem sig_new (w:World):SigAt (w.alloc (.cells #[.slice none 0 0,.map none] 138)) w.heap.size [] (.slice none 0 0) none:=
 ⟨heap_alloc_new w _,World.ownsRow_nil _ _ _ _,rfl,by simp [Value.ownBlock],by simp,by simp⟩
set_option maxHeartbeats 400000 in
theorem has_any {w:World} {b:Nat} {L:List Sym} {sv:Value} {mr:Option Nat} (h:SigAt w b L sv mr) (s:ByteArray) (hs:s.size≤maxLen) :
  Calls Tryz.prog 220 #[.pointer (some ⟨b,0,none⟩),.string s] w fun e w' => e=.returned (.bool (findI L s).isSome)∧w' = w:=by
 have c1:w.cell? ⟨b,1,none⟩=some (.map mr):=cellAt h.blk 1
 have hl:=h.map.look hs
 go_enter Tryz.func220,Tryz.ntmps220
 go_wp2
 go_ret
 exact ⟨rfl,rfl⟩
set_option maxHeartbeats 400000 in
theorem len_any {w:World} {b:Nat} {L:List Sym} {sv:Value} {mr:Option Nat} (h:SigAt w b L sv mr) :
  Calls Tryz.prog 27 #[.pointer (some ⟨b,0,none⟩)] w fun e w' => e=.returned (.int .i64 (L.length:Int))∧w' = w:=by
 obtain ⟨ao,cap,rfl⟩:=h.sv
 have c0:w.cell? ⟨b,0,none⟩=some (.slice ao L.length cap):=cellAt h.blk 0
 go_enter Tryz.func27,Tryz.ntmps27
 go_wp2
 go_ret
 exact ⟨rfl,rfl⟩
set_option maxHeartbeats 1000000 in
theorem refusal_any {w:World} {b:Nat} {L:List Sym} {sv:Value} {mr:Option Nat} (h:SigAt w b L sv mr) (x:Sym) (hs:x.name.size≤maxLen) :
  Calls Tryz.prog 171 #[.pointer (some ⟨b,0,none⟩),.agg #[.string x.name,.int .i64 x.ar,.bool x.df]] w fun e w' => e=.returned (.int .i64 (addErr L x))∧w' = w.alloc (.cells #[.string x.name,.int .i64 x.ar,.bool x.df] 60):=by
 have h1:SigAt (w.alloc (.cells #[.string x.name,.int .i64 x.ar,.bool x.df] 60)) b L sv mr:=h.kept (Kept.alloc (Kept.refl (fun _=>False) w) _) (fun _ _ f=>f)
 have hlen:=h.len
 cases hn:nameB x.name with
 | false=>
  have he:addErr L x=10:=by simp [addErr,hn]
  go_enter Tryz.func171,Tryz.ntmps171
  go_wp2_with (first | (go_at_call 219;refine (isName_any _ _ hs).mono ?_;rintro e w' ⟨rfl,rfl⟩))
  go_ret
  exact ⟨ret_int he.symm,rfl⟩
 | true=>
  by_cases ha:x.ar<0
  ·have he:addErr L x=11:=by simp [addErr,hn,ha]
   go_enter Tryz.func171,Tryz.ntmps171
   go_wp2_with (first | (go_at_call 219;refine (isName_any _ _ hs).mono ?_;rintro e w' ⟨rfl,rfl⟩))
   go_ret
   exact ⟨ret_int he.symm,rfl⟩
  ·by_cases hb:6<x.ar
   ·have he:addErr L x=11:=by simp [addErr,hn,hb]
    go_enter Tryz.func171,Tryz.ntmps171
    go_wp2_with (first | (go_at_call 219;refine (isName_any _ _ hs).mono ?_;rintro e w' ⟨rfl,rfl⟩))
    go_ret
    exact ⟨ret_int he.symm,rfl⟩
   ·cases hf:(findI L x.name).isSome with
    | true=>
     have he:addErr L x=12:=by simp [addErr,hn,ha,hb,hf]
     go_enter Tryz.func171,Tryz.ntmps171
     go_wp2_with (first | (go_at_call 219;refine (isName_any _ _ hs).mono ?_;rintro e w' ⟨rfl,rfl⟩) | (go_at_call 220;refine (has_any h1 _ hs).mono ?_;rintro e w' ⟨rfl,rfl⟩))
     go_ret
     exact ⟨ret_int he.symm,rfl⟩
    | false=>
     by_cases hm:64≤L.length
     ·have he:addErr L x=13:=by simp [addErr,hn,ha,hb,hf,hm]
      go_enter Tryz.func171,Tryz.ntmps171
      go_wp2_with (first | (go_at_call 219;refine (isName_any _ _ hs).mono ?_;rintro e w' ⟨rfl,rfl⟩) | (go_at_call 220;refine (has_any h1 _ hs).mono ?_;rintro e w' ⟨rfl,rfl⟩) | (go_at_call 27;refine (len_any h1).mono ?_;rintro e w' ⟨rfl,rfl⟩))
      go_ret
      exact ⟨ret_int he.symm,rfl⟩
     ·have he:addErr L x=0:=by simp [addErr,hn,ha,hb,hf,hm]
      go_enter Tryz.func171,Tryz.ntmps171
      go_wp2_with (first | (go_at_call 219;refine (isName_any _ _ hs).mono ?_;rintro e w' ⟨rfl,rfl⟩) | (go_at_call 220;refine (has_any h1 _ hs).mono ?_;rintro e w' ⟨rfl,rfl⟩) | (go_at_call 27;refine (len_any h1).mono ?_;rintro e w' ⟨rfl,rfl⟩))
      go_ret
      exact ⟨ret_int he.symm,rfl⟩
def addL (L:List Sym) (x:Sym):List Sym:=if addErr L x=0 then L ++ [x] else L
def addN (L:List Sym) (x:Sym):Int:=if addErr L x=0 then (L.length:Int) else 0
def Moved (w:World) (b:Nat) (sv:Value) (mr:Option Nat) (L' : List Sym) (w' : World):Prop:=
 ∃ sv' mr', SigAt w' b L' sv' mr' ∧ Kept (Foot b sv mr) w w' ∧ ∀ k,Foot b sv' mr' k→Foot b sv mr k∨w.heap.size≤k
abbrev boxOf (x:Sym):Obj:=.cells #[.string x.name,.int .i64 x.ar,.bool x.df] 60 (0,0)
theorem map_empty (w:World):MapIs (w.alloc (.map #[] 0)) (some w.heap.size) []:=
 ⟨0,_,World.ownsMap_made w Tryz.prog _ _,Nat.le_refl _,fun s=>⟨rfl,fun i h=>by simp [findI] at h⟩⟩
theorem eql_map (mr:Option Nat) (w:World):(binOp .eql 136 (.map mr) (.map none)).run Tryz.prog w=.ok (.bool mr.isNone) w:=by
 cases mr <;> kernel_rfl
theorem sig_mapped {W:World} {b:Nat} {L:List Sym} {sv:Value} (h:SigAt W b L sv none):SigAt ((W.alloc (.map #[] 0)).setCell ⟨b,1,none⟩ (.map (some W.heap.size))) b L sv (some W.heap.size):=by
 obtain rfl:L=[]:=h.map
 have hb:=lt_of_at h.blk
 have h3:SigAt (W.alloc (.map #[] 0)) b [] sv none:=h.kept (Kept.alloc (Kept.refl (fun _=>False) _) _) (fun _ _ f=>f)
 have hk:Kept (fun k=>k=b) (W.alloc (.map #[] 0)) ((W.alloc (.map #[] 0)).setCell ⟨b,1,none⟩ (.map (some W.heap.size))):=Kept.setCell (S:=fun k=>k=b) (p:=⟨b,1,none⟩) (Kept.refl _ _) (fun _=>rfl) _
 exact ⟨by rw [setAt h3.blk];rfl,hk.row h3.row (fun k e e' => h.apart (by rw [e,e'])),(map_empty W).kept hk (fun k e e' => by simp at e;omega),h.apart,h.len,h.names⟩
theorem add_zero {L:List Sym} {x:Sym} (h:addErr L x=0):findI L x.name=none∧nameB x.name=true∧L.length<64:=by
 unfold addErr at h
 by_cases h1:nameB x.name=false
 ·simp [h1] at h
 ·rw [if_neg h1] at h
  by_cases h2:x.ar<0∨6<x.ar
  ·simp [h2] at h
  ·rw [if_neg h2] at h
   by_cases h3:(findI L x.name).isSome
   ·simp [h3] at h
   ·rw [if_neg h3] at h
    by_cases h4:64≤L.length
    ·simp [h4] at h
    ·exact ⟨by simpa using h3,by simpa using h1,by omega⟩
theorem blk_grown {w w1:World} {o ob:Obj} {b:Nat} {v:Value} (hg:(w.alloc o).drew.grownBy w1 v.ownBlock) (hb:w.heap[b]? = some ob) (hne:v.ownBlock≠some b):w1.heap[b]? = some ob:=by
 have hlt:=lt_of_at hb
 rw [hg.block b (by simp;omega) (Ne.symm hne)]
 exact (heap_alloc_old w o hlt).trans hb
def AddMid (w:World) (b:Nat) (L:List Sym) (sv:Value) (mr:Option Nat) (bm:Nat) (x:Sym) (w' : World):Prop:=
 ∃ sv', w'.heap[b]? = some (.cells #[sv', .map (some bm)] 138 (0,0))∧w'.ownsRow 0 60 3 sv' (L.length+1) (symCells (L ++ [x]))∧MapIs w' (some bm) L∧w'.heap[w.heap.size]? = some (boxOf x)∧Kept (Foot b sv mr) w w' ∧ ∀ k,sv'.ownBlock=some k→k≠b∧(sv.ownBlock=some k∨w.heap.size≤k)
theorem add_mid {w wc w1:World} {b:Nat} {L:List Sym} {sv:Value} {mr:Option Nat} {x:Sym} {bm gg cap:Nat} (h:SigAt w b L sv mr) (hsg:SigAt wc b L sv (some bm)) (hbx:wc.heap[w.heap.size]? = some (boxOf x)) (hkp:Kept (Foot b sv mr) w wc)
  (hown1:w1.ownsRow 0 60 3 (.slice (some ⟨gg,0,none⟩) (L.length+1) cap) (L.length+1) (symCells L ++ [.string x.name,.int .i64 x.ar,.bool x.df]))
  (hgrow:(wc.alloc (boxOf x)).drew.grownBy w1 sv.ownBlock) (hat:sv.ownBlock=some gg∨gg=wc.heap.size+1) (hb1:w1.heap[b]? = some (.cells #[sv,.map (some bm)] 138 (0,0))) :
  AddMid w b L sv mr bm x (w1.setCell ⟨b,0,none⟩ (.slice (some ⟨gg,0,none⟩) (L.length+1) cap)):=by
 have lb:=lt_of_at h.blk
 have lbc:=lt_of_at hsg.blk
 have lsv:=h.row.lt
 have hgb:gg≠b:=by
  rcases hat with e | e
  ·intro e'; exact hsg.apart (by rw [e,e'])
  ·omega
 obtain ⟨n,D,hm,hn,hall⟩:=hsg.map
 obtain ⟨es,clock,hbm,hrest⟩:=hm
 have hbmb:bm≠b:=fun e=>by subst e;rw [hsg.blk] at hbm;simp at hbm
 have hbms:sv.ownBlock≠some bm:=fun e=>by
  rcases hsg.row.2 with ⟨rfl,_⟩ | ⟨g,c,cur,rfl,_,hg,_⟩
  ·simp [Value.ownBlock] at e
  ·simp [Value.ownBlock] at e;subst e;rw [hg] at hbm;simp at hbm
 have hk1:Kept (fun k=>sv.ownBlock=some k) wc w1:=Kept.grown (Kept.drew (Kept.alloc (Kept.refl _ wc) _)) hgrow (fun _ e _=>e)
 have hk2:Kept (fun k=>sv.ownBlock=some k∨k=b) wc (w1.setCell ⟨b,0,none⟩ (.slice (some ⟨gg,0,none⟩) (L.length+1) cap)):=
  Kept.setCell (hk1.mono (fun _ _ e=>.inl e)) (fun _=>.inr rfl) _
 have hk3:Kept (fun k=>k=b) w1 (w1.setCell ⟨b,0,none⟩ (.slice (some ⟨gg,0,none⟩) (L.length+1) cap)):=Kept.setCell (S:=fun k=>k=b) (p:=⟨b,0,none⟩) (Kept.refl _ _) (fun _=>rfl) _
 refine ⟨_,by rw [setAt hb1];rfl,?_,?_,?_,?_,?_⟩
 ·rw [symCells_snoc];exact hk3.row hown1 (fun k e e' => by simp [Value.ownBlock] at e;omega)
 ·exact ⟨n,D,hk2.map ⟨es,clock,hbm,hrest⟩ (fun e=>e.elim hbms hbmb),hn,hall⟩
 ·exact hk2.at hbx (fun e=>by
   rcases e with e | e
   ·have:=lsv _ e;omega
   ·omega)
 ·exact hkp.trans hk2 (fun i _ e=>e.elim (fun e=>.inr (.inl e)) .inl)
 ·intro k e
  simp [Value.ownBlock] at e
  subst e
  refine ⟨hgb,hat.imp id (fun e=>?_)⟩
  have:=hkp.size
  omega
theorem map_put {w w' : World} {bm:Nat} {L:List Sym} {x:Sym} {n:Nat} {D:DataW Unit} (hf:findI L x.name=none) (hm:w.ownsMap Tryz.prog 9 (plainElem Tryz.prog 3) bm n D) (hn:n≤L.length)
  (hall:∀ s:ByteArray,Maps.has D (.string s.data.toList)=(findI L s).isSome∧∀ i,findI L s=some i→D.atKey (.string s.data.toList) (.lit (.int .i64 0))=.lit (.int .i64 (i:Int)))
  (hm' : w'.ownsMap Tryz.prog 9 (plainElem Tryz.prog 3) bm (n+1) (D.put (.string x.name.data.toList) (.lit (.int .i64 (L.length:Int))))):MapIs w' (some bm) (L ++ [x]):=by
 refine ⟨n+1,_,hm', by simp;omega,fun s=>?_⟩
 have hk:WideAt.IsKeyLit (.string x.name.data.toList):=trivial
 rw [findI_snoc]
 by_cases hs:x.name=s
 ·subst hs
  rw [hf,Maps.has_put_same hm.isMap hk,Maps.atKey_put_same hm.isMap hk]
  simp
 ·have hne:Lit.string s.data.toList≠Lit.string x.name.data.toList:=by
   intro e
   apply hs
   have e1:s.data.toList=x.name.data.toList:=by simpa using e
   have e2:s.data=x.name.data:=Array.toList_inj.1 e1
   cases s;cases hx:x.name;simp_all
  rw [Maps.has_put_other hne,Maps.atKey_put_other hne,(hall s).1]
  cases hfs:findI L s with
  | none=>simp [hs]
  | some i=>simpa using (hall s).2 i hfs
theorem row_not_map {w:World} {e:TypeId} {v:Value} {n:Nat} {xs:List Value} {bm:Nat} {es:Array MapEntry} {clock:Nat} (hr:w.ownsRow 0 e 3 v n xs) (hb:w.heap[bm]? = some (.map es clock)):v.ownBlock≠some bm:=fun e=>by
 rcases hr.2 with ⟨rfl,_⟩ | ⟨g,c,cur,rfl,_,hg,_⟩
 ·simp [Value.ownBlock] at e
 ·simp [Value.ownBlock] at e;subst e;rw [hg] at hb;simp at hb
theorem add_end {w wc w2:World} {b:Nat} {L:List Sym} {sv sv' : Value} {mr:Option Nat} {x:Sym} {bm n:Nat} {D:DataW Unit} (h:SigAt w b L sv mr) (hz:addErr L x=0) (hb:wc.heap[b]? = some (.cells #[sv', .map (some bm)] 138 (0,0)))
  (hrow:wc.ownsRow 0 60 3 sv' (L.length+1) (symCells (L ++ [x]))) (hkp:Kept (Foot b sv mr) w wc) (hft:∀ k,sv'.ownBlock=some k→k≠b∧(sv.ownBlock=some k∨w.heap.size≤k))
  (hm:wc.ownsMap Tryz.prog 9 (plainElem Tryz.prog 3) bm n D) (hn:n≤L.length)
  (hall:∀ s:ByteArray,Maps.has D (.string s.data.toList)=(findI L s).isSome∧∀ i,findI L s=some i→D.atKey (.string s.data.toList) (.lit (.int .i64 0))=.lit (.int .i64 (i:Int)))
  (hm2:w2.ownsMap Tryz.prog 9 (plainElem Tryz.prog 3) bm (n+1) (D.put (.string x.name.data.toList) (.lit (.int .i64 (L.length:Int)))))
  (hturn:wc.drew.mapTurned w2 bm) (hbm:mr=some bm∨w.heap.size≤bm):Moved w b sv mr (L ++ [x]) w2:=by
 obtain ⟨hf,hnm,hlen⟩:=add_zero hz
 have hk:Kept (fun k=>k=bm) wc w2:=Kept.grown (Kept.drew (Kept.refl _ wc)) hturn.grown (fun k e _=>by simpa using e.symm)
 have hbmb:b≠bm:=by
  obtain ⟨es,clock,hb', _⟩:=hm
  intro e;subst e;rw [hb] at hb'; simp at hb'
 have hsb:sv'.ownBlock≠some bm:=by
  obtain ⟨es,clock,hb', _⟩:=hm
  exact row_not_map hrow hb'
 refine ⟨sv', some bm,⟨hk.at hb hbmb,?_,map_put hf hm hn hall hm2,fun e=>(hft b e).1 rfl,by simp;omega,?_⟩,?_,?_⟩
 ·have:=hk.row hrow (fun k e e' => hsb (by rw [e,e']))
  simpa using this
 ·intro y hy
  rcases List.mem_append.1 hy with hy | hy
  ·exact h.names y hy
  ·simp at hy;subst hy;exact hnm
 ·refine hkp.trans hk (fun i hi e=>?_)
  subst e
  rcases hbm with e | e
  ·exact .inr (.inr e)
  ·omega
 ·intro k hk'
  rcases hk' with e | e | e
  ·exact .inl (.inl e)
  ·exact (hft k e).2.imp (fun e=>.inr (.inl e)) id
  ·simp at e;subst e;exact hbm.imp (fun e=>.inr (.inr e)) id
set_option maxHeartbeats 1000000 in
theorem add_ok {w:World} {b:Nat} {L:List Sym} {sv:Value} {mr:Option Nat} (h:SigAt w b L sv mr) (x:Sym) (hs:x.name.size≤maxLen) (hz:addErr L x=0) :
  Calls Tryz.prog 117 #[.pointer (some ⟨b,0,none⟩),.agg #[.string x.name,.int .i64 x.ar,.bool x.df]] w fun e w' => e=.returned (.tuple #[.int .i64 (L.length:Int),.int .i64 0])∧Moved w b sv mr (L ++ [x]) w' := by
 obtain ⟨ao,cap,rfl⟩:=h.sv
 have h1:SigAt (w.alloc (boxOf x)) b L (.slice ao L.length cap) mr:=h.kept (Kept.alloc (Kept.refl (fun _=>False) w) _) (fun _ _ f=>f)
 have h2:SigAt ((w.alloc (boxOf x)).alloc (boxOf x)) b L (.slice ao L.length cap) mr:=h1.kept (Kept.alloc (Kept.refl (fun _=>False) _) _) (fun _ _ f=>f)
 have c1:((w.alloc (boxOf x)).alloc (boxOf x)).cell? ⟨b,1,none⟩=some (.map mr):=cellAt h2.blk 1
 have f1:((w.alloc (boxOf x)).alloc (boxOf x)).frozen? ⟨b,1,none⟩=false:=frozenAt h2.blk 1
 have h2box:((w.alloc (boxOf x)).alloc (boxOf x)).heap[w.heap.size]? = some (boxOf x):=by rw [heap_alloc_old _ _ (by simp)];exact heap_alloc_new w _
 have h3:SigAt (((w.alloc (boxOf x)).alloc (boxOf x)).alloc (.map #[] 0)) b L (.slice ao L.length cap) mr:=h2.kept (Kept.alloc (Kept.refl (fun _=>False) _) _) (fun _ _ f=>f)
 have c3:(((w.alloc (boxOf x)).alloc (boxOf x)).alloc (.map #[] 0)).cell? ⟨b,1,none⟩=some (.map mr):=cellAt h3.blk 1
 have f3:(((w.alloc (boxOf x)).alloc (boxOf x)).alloc (.map #[] 0)).frozen? ⟨b,1,none⟩=false:=frozenAt h3.blk 1
 have hmm:=@run_makeMap Tryz.prog
 have hem:=eql_map
 go_enter Tryz.func117,Tryz.ntmps117
 go_upto_if 18 with (first | (go_at_call 171;refine (refusal_any h1 x hs).mono ?_;rintro e w' ⟨rfl,rfl⟩))
 go_cut [] (fun w' => ∃ bm,SigAt w' b L (.slice ao L.length cap) (some bm)∧w'.heap[w.heap.size]? = some (boxOf x)∧Kept (Foot b (.slice ao L.length cap) mr) w w' ∧ (mr=some bm∨w.heap.size≤bm))
 case first=>
  cases mr with
  | some bm=>
   go_wp2
   go_meet
   case rel=>exact ⟨bm,h2,h2box,Kept.alloc (Kept.alloc (Kept.refl _ w) _) _,.inl rfl⟩
  | none=>
   go_wp2
   go_meet
   case rel=>
    refine ⟨w.heap.size+1+1,?_,?_,?_,.inr (by omega)⟩
    ·simpa using sig_mapped h2
    ·rw [Below.heap_setCell _ _ _ _ (by have:=lt_of_at h.blk;simp;omega),heap_alloc_old _ _ (by simp;omega)];exact h2box
    ·exact Kept.setCell (Kept.alloc (Kept.alloc (Kept.alloc (Kept.refl _ w) _) _) _) (fun _=>.inl rfl) _
 case rest=>
  obtain ⟨bm,hsg,hbx,hkp,hbm⟩:=hcut
  have d0:wc.cell? ⟨b,0,none⟩=some (.slice ao L.length cap):=cellAt hsg.blk 0
  go_upto_region 7 with fail
  go_cut [] (fun w' => AddMid w b L (.slice ao L.length cap) mr bm x w')
  case first=>
   obtain ⟨i0,hi0,hz0,hz1,hz2⟩:=info_parts info_Symbol
   have hn1:L.length+1≤maxLen:=by have:=h.len;unfold maxLen;omega
   have hn2:(L.length+1) * 32≤140737488355328:=by have:=h.len;omega
   have g0:wc.frozen? ⟨b,0,none⟩=false:=frozenAt hsg.blk 0
   have x0:wc.cell? ⟨w.heap.size,0,none⟩=some (.string x.name):=cellAt hbx 0
   have x1:wc.cell? ⟨w.heap.size,1,none⟩=some (.int .i64 x.ar):=cellAt hbx 1
   have x2:wc.cell? ⟨w.heap.size,2,none⟩=some (.bool x.df):=cellAt hbx 2
   have d0' : (wc.alloc (boxOf x)).cell? ⟨b,0,none⟩=some (.slice ao L.length cap):=cellAt ((heap_alloc_old wc _ (lt_of_at hsg.blk)).trans hsg.blk) 0
   go_region_law ((refine step_append_lies _ (by rfl) _ _ _ (by rfl) 0 60 i0 _ 3 32 Tryz.underlying28 hi0 hz0 hz1 hz2 rfl (by omega) (.slice ao L.length cap) L.length (symCells L) (by rfl) ((hsg.row.alloc _).drew) ⟨wc.heap.size,0,none⟩ 1 1 [.string x.name,.int .i64 x.ar,.bool x.df] (by rfl) (by rfl) (World.news_of_block (cs:=#[.string x.name,.int .i64 x.ar,.bool x.df]) (t:=60) (fr:=(0,0)) (heap_alloc_new wc _)) (by simp [Value.oneCell']) (by omega) hn1 hn2 (by omega) (wc.heap.size+1) (by simp) ?_;intro gg cap w1 hown1 hgrow hat hlt;have hb1:=blk_grown hgrow hsg.blk hsg.apart;have k0:=cellAt hb1 0;have k1:=frozenAt hb1 0;simp only [List.getElem?_toArray,List.getElem?_cons_zero] at k0))
   all_goals
    go_wp2
    go_meet
    case rel=>exact add_mid h hsg hbx hkp hown1 hgrow hat hb1
  case rest=>
   obtain ⟨sv', hb,hrow,hmap,hbx,hkp,hft⟩:=hcut
   obtain ⟨n,D,hm,hn,hall⟩:=hmap
   have hsz:findI L x.name=none∧nameB x.name=true∧L.length<64:=add_zero hz
   obtain ⟨w2,hrun,hm2,hturn⟩:=World.ownsMap.store (w:=wc.drew) hm law_string Tryz.underlying136 (by have:=hsz.2.2;unfold maxLen;omega) (key_str hs) (plainElem_int Tryz.underlying3 (a:=(L.length:Int)) (WalkArith.wf_i64 (by have:=hsz.2.2;omega)))
   have y0:wc.cell? ⟨w.heap.size,0,none⟩=some (.string x.name):=cellAt hbx 0
   have y1:wc.cell? ⟨b,1,none⟩=some (.map (some bm)):=cellAt hb 1
   go_wp2_with fail
   go_region
   all_goals
    go_wp2
    go_ret2
    exact ⟨rfl,add_end h hz hb hrow hkp hft hm hn hall hm2 hturn hbm⟩
set_option maxHeartbeats 1000000 in
theorem add_no {w:World} {b:Nat} {L:List Sym} {sv:Value} {mr:Option Nat} (h:SigAt w b L sv mr) (x:Sym) (hs:x.name.size≤maxLen) (hz:addErr L x≠0) :
  Calls Tryz.prog 117 #[.pointer (some ⟨b,0,none⟩),.agg #[.string x.name,.int .i64 x.ar,.bool x.df]] w fun e w' => e=.returned (.tuple #[.int .i64 0,.int .i64 (addErr L x)])∧Moved w b sv mr L w' := by
 have h1:SigAt (w.alloc (boxOf x)) b L sv mr:=h.kept (Kept.alloc (Kept.refl (fun _=>False) w) _) (fun _ _ f=>f)
 have h2:SigAt ((w.alloc (boxOf x)).alloc (boxOf x)) b L sv mr:=h1.kept (Kept.alloc (Kept.refl (fun _=>False) _) _) (fun _ _ f=>f)
 have hz' : (addErr L x != 0)=true:=by simpa using hz
 go_enter Tryz.func117,Tryz.ntmps117
 go_wp2_with (first | (go_at_call 171;refine (refusal_any h1 x hs).mono ?_;rintro e w' ⟨rfl,rfl⟩))
 go_ret2
 exact ⟨rfl,sv,mr,h2,Kept.alloc (Kept.alloc (Kept.refl _ w) _) _,fun k hk=>.inl hk⟩
theorem add_any {w:World} {b:Nat} {L:List Sym} {sv:Value} {mr:Option Nat} (h:SigAt w b L sv mr) (x:Sym) (hs:x.name.size≤maxLen) :
  Calls Tryz.prog 117 #[.pointer (some ⟨b,0,none⟩),.agg #[.string x.name,.int .i64 x.ar,.bool x.df]] w fun e w' => e=.returned (.tuple #[.int .i64 (addN L x),.int .i64 (addErr L x)])∧Moved w b sv mr (addL L x) w' := by
 by_cases hz:addErr L x=0
 ·rw [addN,addL,if_pos hz,if_pos hz,hz];exact add_ok h x hs hz
 ·rw [addN,addL,if_neg hz,if_neg hz];exact add_no h x hs hz
def Own (n:Nat) (w:World) (b:Nat) (L:List Sym):Prop:=∃ sv mr,SigAt w b L sv mr∧∀ k,Foot b sv mr k→n≤k
abbrev From (n k:Nat):Prop:=n≤k
theorem Own.kept {n b:Nat} {w w' : World} {L:List Sym} {S:Nat→Prop} (h:Own n w b L) (hk:Kept S w w') (hs:∀ k,n≤k→¬ S k):Own n w' b L:=by
 obtain ⟨sv,mr,h1,h2⟩:=h
 exact ⟨sv,mr,h1.kept hk (fun k e=>hs k (h2 k e)),h2⟩
theorem Own.add {n b:Nat} {w:World} {L:List Sym} (h:Own n w b L) (hn:n≤w.heap.size) (x:Sym) (hs:x.name.size≤maxLen) :
  Calls Tryz.prog 117 #[.pointer (some ⟨b,0,none⟩),.agg #[.string x.name,.int .i64 x.ar,.bool x.df]] w fun e w' => e=.returned (.tuple #[.int .i64 (addN L x),.int .i64 (addErr L x)])∧Own n w' b (addL L x)∧Kept (From n) w w' := by
 obtain ⟨sv,mr,h1,h2⟩:=h
 refine (add_any h1 x hs).mono ?_
 rintro e w' ⟨rfl,sv', mr', h3,h4,h5⟩
 exact ⟨rfl,⟨sv', mr', h3,fun k hk=>(h5 k hk).elim (h2 k) (fun e=>by omega)⟩,h4.mono (fun k _ e=>h2 k e)⟩
abbrev aS:Sym:=⟨⟨#[115]⟩,1,false⟩
abbrev aAdd:Sym:=⟨⟨#[97,100,100]⟩,2,true⟩
theorem SigAt.sym {w:World} {b:Nat} {L:List Sym} {ao:Option Addr} {cap:Nat} {mr:Option Nat} (h:SigAt w b L (.slice ao L.length cap) mr) {i:Nat} (hi:i<L.length) :
  ∃ g,ao=some ⟨g,0,none⟩∧g<w.heap.size∧w.cell? ⟨g,i * 3,none⟩=some (.string L[i].name)∧w.cell? ⟨g,i * 3+1,none⟩=some (.int .i64 L[i].ar)∧w.cell? ⟨g,i * 3+2,none⟩=some (.bool L[i].df):=by
 obtain ⟨g,cap', hv,_,hlt⟩:=h.row.form (by omega)
 obtain ⟨rfl,_,rfl⟩:ao=some ⟨g,0,none⟩∧L.length=L.length∧cap=cap' := by simpa using hv
 have hc:=fun j hj=>h.row.cellAt j hj
 obtain ⟨a1,a2,a3⟩:=symCells_at hi
 refine ⟨g,rfl,hlt,?_,?_,?_⟩
 ·rw [hc _ (by omega),a1]
 ·rw [hc _ (by omega),a2]
 ·rw [hc _ (by omega),a3]
set_option maxHeartbeats 1000000 in
theorem at_yes {w:World} {b:Nat} {L:List Sym} {sv:Value} {mr:Option Nat} (h:SigAt w b L sv mr) (i:Nat) (hi:i<L.length) :
  Calls Tryz.prog 180 #[.pointer (some ⟨b,0,none⟩),.int .i64 (i:Int)] w fun e w' => e=.returned (.tuple #[.agg #[.string L[i].name,.int .i64 L[i].ar,.bool L[i].df],.int .i64 0])∧Kept (fun _=>False) w w' := by
 obtain ⟨ao,cap,rfl⟩:=h.sv
 have h1:∀ o,SigAt (w.alloc o) b L (.slice ao L.length cap) mr:=fun o=>h.kept (Kept.alloc (Kept.refl (fun _=>False) w) _) (fun _ _ f=>f)
 have c0:∀ o,(w.alloc o).cell? ⟨b,0,none⟩=some (.slice ao L.length cap):=fun o=>cellAt (h1 o).blk 0
 obtain ⟨g,rfl,hg,x0,x1,x2⟩:=h.sym hi
 have hlen:=h.len
 have i1:(0:Int)≤(i:Int):=by omega
 have i2:(i:Int)<(L.length:Int):=by omega
 go_enter Tryz.func180,Tryz.ntmps180
 go_wp2
 exact bodyPost_ret (v:=.tuple #[.agg #[.string L[i].name,.int .i64 L[i].ar,.bool L[i].df],.int .i64 0]) (by simp [results,Tryz.results180,go_sem]) rfl ⟨rfl,Kept.alloc (Kept.refl _ w) _⟩
set_option maxHeartbeats 1000000 in
theorem at_no {w:World} {b:Nat} {L:List Sym} {sv:Value} {mr:Option Nat} (h:SigAt w b L sv mr) (n:Int) (hn:n<0∨(L.length:Int)≤n) :
  Calls Tryz.prog 180 #[.pointer (some ⟨b,0,none⟩),.int .i64 n] w fun e w' => e=.returned (.tuple #[.agg #[.string ⟨#[]⟩,.int .i64 0,.bool false],.int .i64 14])∧Kept (fun _=>False) w w' := by
 obtain ⟨ao,cap,rfl⟩:=h.sv
 have h1:∀ o,SigAt (w.alloc o) b L (.slice ao L.length cap) mr:=fun o=>h.kept (Kept.alloc (Kept.refl (fun _=>False) w) _) (fun _ _ f=>f)
 have c0:∀ o,(w.alloc o).cell? ⟨b,0,none⟩=some (.slice ao L.length cap):=fun o=>cellAt (h1 o).blk 0
 by_cases h0:n<0
 ·go_enter Tryz.func180,Tryz.ntmps180
  go_wp2
  exact bodyPost_ret (v:=.tuple #[.agg #[.string ⟨#[]⟩,.int .i64 0,.bool false],.int .i64 14]) (by simp [results,Tryz.results180,go_sem]) rfl ⟨rfl,Kept.alloc (Kept.refl _ w) _⟩
 ·have h2:(L.length:Int)≤n:=by omega
  go_enter Tryz.func180,Tryz.ntmps180
  go_wp2
  exact bodyPost_ret (v:=.tuple #[.agg #[.string ⟨#[]⟩,.int .i64 0,.bool false],.int .i64 14]) (by simp [results,Tryz.results180,go_sem]) rfl ⟨rfl,Kept.alloc (Kept.refl _ w) _⟩
end Go.Proofs.YtflcpepjmonlpaaGreatDoor
namespace Go.Proofs.YtflcpepjmonlpaaGreatDoor
set_option maxRecDepth 100000
open Go.RowKit
attribute [local go_sem ↓] Go.wp_at_zero Go.wp_at_succ
structure RefAt (w:World) (rb:Nat) (L:List Sym) (rv:Value):Prop where
 blk:w.heap[rb]? = some (.cells #[rv] 153 (0,0))
 row:w.ownsRow 0 60 3 rv L.length (symCells L)
 apart:rv.ownBlock≠some rb
def RFoot (rb:Nat) (rv:Value) (k:Nat):Prop:=k=rb∨rv.ownBlock=some k
end Go.Proofs.YtflcpepjmonlpaaGreatDoor
namespace Go.Proofs.YtflcpepjmonlpaaGreatDoor
open Go.RowKit Go.Deep
def SymsAt (w:World) (ao:Option Addr) (len:Nat) (xs:List Sym):Prop:=
 xs.length=len∧(len=0∨∃ b off,ao=some ⟨b,off,none⟩∧b<w.heap.size∧∀ i (h:i<xs.length),w.cell? ⟨b,off+i * 3,none⟩=some (.string xs[i].name)∧w.cell? ⟨b,off+i * 3+1,none⟩=some (.int .i64 xs[i].ar)∧w.cell? ⟨b,off+i * 3+2,none⟩=some (.bool xs[i].df)) ∧
 ∀ x∈xs,x.name.size≤maxLen∧(Lit.int .i64 x.ar).wf=true
theorem SymsAt.kept {w w' : World} {ao:Option Addr} {len:Nat} {xs:List Sym} (h:SymsAt w ao len xs) (hb:Below w.heap.size w w'):SymsAt w' ao len xs:=by
 obtain ⟨h1,h2,h3⟩:=h
 refine ⟨h1,h2.imp id ?_,h3⟩
 rintro ⟨b,off,e,hlt,hc⟩
 refine ⟨b,off,e,Nat.lt_of_lt_of_le hlt hb.size,fun i hi=>?_⟩
 obtain ⟨a1,a2,a3⟩:=hc i hi
 exact ⟨by rw [hb.cell hlt];exact a1,by rw [hb.cell hlt];exact a2,by rw [hb.cell hlt];exact a3⟩
section
variable {H : Type} {enc : TypeId × Value → H} {w : World} {spare : Nat → Bool} {held : Bool}
end
end Go.Proofs.YtflcpepjmonlpaaGreatDoor
namespace Go.Proofs.YtflcpepjmonlpaaGreatDoor
set_option maxRecDepth 100000
open Go.RowKit
attribute [local go_sem ↓] Go.wp_at_zero Go.wp_at_succ
def IntsAt (w:World) (ao:Option Addr) (xs:List Int):Prop:=
 xs=[]∨∃ b off,ao=some ⟨b,off,none⟩∧b<w.heap.size∧∀ i (h:i<xs.length),w.cell? ⟨b,off+i,none⟩=some (.int .i64 xs[i])
theorem IntsAt.kept {w w' : World} {S:Nat→Prop} {ao:Option Addr} {xs:List Int} (h:IntsAt w ao xs) (hk:Kept S w w') (hs:∀ a,ao=some a→¬ S a.block):IntsAt w' ao xs:=by
 refine h.imp id ?_
 rintro ⟨b,off,rfl,hlt,hc⟩
 exact ⟨b,off,rfl,Nat.lt_of_lt_of_le hlt hk.size,fun i hi=>(hk.cell (p:=⟨b,off+i,none⟩) hlt (hs ⟨b,off,none⟩ rfl)).trans (hc i hi)⟩
theorem IntsAt.same {w w' : World} {ao:Option Addr} {xs:List Int} (h:IntsAt w ao xs) (hk:Same0 w w'):IntsAt w' ao xs:=h.kept hk (fun _ _ f=>f)
theorem IntsAt.get {w:World} {ao:Option Addr} {xs:List Int} (h:IntsAt w ao xs) {i:Nat} (hi:i<xs.length):∃ b off,ao=some ⟨b,off,none⟩∧b<w.heap.size∧w.cell? ⟨b,off+i,none⟩=some (.int .i64 xs[i]):=by
 rcases h with rfl | ⟨b,off,e,hlt,hc⟩
 ·simp at hi
 ·exact ⟨b,off,e,hlt,hc i hi⟩
def Ars (L:List Sym):Prop:=∀ x∈L,0≤x.ar∧x.ar≤6
theorem arN_le {L:List Sym} (h:Ars L) (n:Int):arN L n≤6:=by
 unfold arN
 split
 ·omega
 ·split
  ·rename_i x hx
   have:=h x (List.mem_of_getElem? hx)
   omega
  ·omega
def Sg (n:Nat) (w:World) (b:Nat) (L:List Sym):Prop:=(∃ sv mr,SigAt w b L sv mr∧∀ k,Foot b sv mr k→k<n)∧Ars L
theorem Sg.kept {n b:Nat} {w w' : World} {L:List Sym} {S:Nat→Prop} (h:Sg n w b L) (hk:Kept S w w') (hs:∀ k,k<n→¬ S k):Sg n w' b L:=by
 obtain ⟨⟨sv,mr,h1,h2⟩,h3⟩:=h
 exact ⟨⟨sv,mr,h1.kept hk (fun k e=>hs k (h2 k e)),h2⟩,h3⟩
theorem Sg.same {n b:Nat} {w w' : World} {L:List Sym} (h:Sg n w b L) (hk:Same0 w w'):Sg n w' b L:=h.kept hk (fun _ _ f=>f)
def Rl (n:Nat) (w:World) (rv:Value) (L:List Sym):Prop:=w.ownsRow 0 60 3 rv L.length (symCells L)∧(∀ k,rv.ownBlock=some k→k<n)∧Ars L∧L.length≤64
theorem ar_of {L:List Sym} (h:Ars L) {i:Nat} (hi:i<L.length):((arN L (i:Int):Nat):Int)=L[i].ar:=by
 have:=(h L[i] (List.getElem_mem hi)).1
 rw [arN,if_neg (by omega)];simp [hi];omega
theorem ar_no {L:List Sym} {n:Int} (hn:n<0∨(L.length:Int)≤n):arN L n=0:=by
 unfold arN
 rcases hn with h | h
 ·simp [h]
 ·rw [if_neg (by omega),List.getElem?_eq_none (by omega)]
set_option maxHeartbeats 1000000 in
theorem arity_any {n b:Nat} {w:World} {L:List Sym} (h:Sg n w b L) (x:Int):Calls Tryz.prog 162 #[.pointer (some ⟨b,0,none⟩),.int .i64 x] w fun e w' => e=.returned (.int .i64 ((arN L x:Nat):Int))∧Same0 w w' := by
 obtain ⟨⟨sv,mr,h1,_⟩,ha⟩:=h
 by_cases hx:x<0∨(L.length:Int)≤x
 ·have e1:=ar_no hx
  have H1:Hid (arN L x=0):=e1
  clear e1
  have c:=at_no h1 x hx
  go_enter Tryz.func162,Tryz.ntmps162
  go_wp2_with (first | (go_at_call 180;refine c.mono ?_;rintro e w' ⟨rfl,hk⟩))
  go_ret
  exact ⟨by rw [H1.out];rfl,hk.alloc _⟩
 ·obtain ⟨i,rfl⟩:∃ i:Nat,x=(i:Int):=⟨x.toNat,by omega⟩
  have hi:i<L.length:=by omega
  have H1:Hid (((arN L (i:Int):Nat):Int)=L[i].ar):=ar_of ha hi
  have c:=at_yes h1 i hi
  go_enter Tryz.func162,Tryz.ntmps162
  go_wp2_with (first | (go_at_call 180;refine c.mono ?_;rintro e w' ⟨rfl,hk⟩))
  go_ret
  exact ⟨by rw [H1.out];rfl,hk.alloc _⟩
set_option maxHeartbeats 1000000 in
theorem isVariable_any (x:Int) (w:World):Calls Tryz.prog 213 #[.int .i64 x] w fun e w' => e=.returned (.bool (isV x))∧w' = w:=by
 by_cases h1 : -99≤x
 ·by_cases h2:x ≤ -1
  ·have H:Hid (isV x=true):=by show _=_;simp [isV];omega
   go_enter Tryz.func213,Tryz.ntmps213
   go_wp2
   go_ret
   exact ⟨by rw [H.out];rfl,rfl⟩
  ·have H:Hid (isV x=false):=by show _=_;simp [isV];omega
   go_enter Tryz.func213,Tryz.ntmps213
   go_wp2
   go_ret
   exact ⟨by rw [H.out];rfl,rfl⟩
 ·have H:Hid (isV x=false):=by show _=_;simp [isV];omega
  go_enter Tryz.func213,Tryz.ntmps213
  go_wp2
  go_ret
  exact ⟨by rw [H.out];rfl,rfl⟩
def numE (L:List Sym) (x:Int):Int:=if (L.length:Int)≤x then 21 else if x < -99 then 22 else 0
theorem sg_len {n b:Nat} {w:World} {L:List Sym} (h:Sg n w b L):Calls Tryz.prog 27 #[.pointer (some ⟨b,0,none⟩)] w fun e w' => e=.returned (.int .i64 (L.length:Int))∧w' = w:=by
 obtain ⟨⟨sv,mr,h1,_⟩,ha⟩:=h
 exact len_any h1
set_option maxHeartbeats 1000000 in
theorem checkNumber_any {n b:Nat} {w:World} {L:List Sym} (h:Sg n w b L) (x:Int):Calls Tryz.prog 204 #[.pointer (some ⟨b,0,none⟩),.int .i64 x] w fun e w' => e=.returned (.int .i64 (numE L x))∧w' = w:=by
 have c:=sg_len h
 by_cases h1:(L.length:Int)≤x
 ·have H:Hid (numE L x=21):=by show _=_;simp [numE,h1]
  go_enter Tryz.func204,Tryz.ntmps204
  go_wp2_with (first | (go_at_call 27;refine c.mono ?_;rintro e w' ⟨rfl,rfl⟩))
  all_goals
   go_ret
   exact ⟨by rw [H.out];rfl,rfl⟩
 ·by_cases h2:x<0
  ·by_cases h3:x < -99
   ·have H:Hid (numE L x=22):=by show _=_;simp [numE,h1,h3]
    have h4:isV x=false:=by simp [isV];omega
    go_enter Tryz.func204,Tryz.ntmps204
    go_wp2_with (first | (go_at_call 27;refine c.mono ?_;rintro e w' ⟨rfl,rfl⟩) | (go_at_call 213;refine (isVariable_any _ _).mono ?_;rintro e w' ⟨rfl,rfl⟩))
    all_goals
     go_ret
     exact ⟨by rw [H.out];rfl,rfl⟩
   ·have H:Hid (numE L x=0):=by show _=_;simp [numE,h1,h3]
    have h4:isV x=true:=by simp [isV];omega
    go_enter Tryz.func204,Tryz.ntmps204
    go_wp2_with (first | (go_at_call 27;refine c.mono ?_;rintro e w' ⟨rfl,rfl⟩) | (go_at_call 213;refine (isVariable_any _ _).mono ?_;rintro e w' ⟨rfl,rfl⟩))
    all_goals
     go_ret
     exact ⟨by rw [H.out];rfl,rfl⟩
  ·have H:Hid (numE L x=0):=by show _=_;simp [numE,h1];omega
   go_enter Tryz.func204,Tryz.ntmps204
   go_wp2_with (first | (go_at_call 27;refine c.mono ?_;rintro e w' ⟨rfl,rfl⟩))
   all_goals
    go_ret
    exact ⟨by rw [H.out];rfl,rfl⟩
end Go.Proofs.YtflcpepjmonlpaaGreatDoor
