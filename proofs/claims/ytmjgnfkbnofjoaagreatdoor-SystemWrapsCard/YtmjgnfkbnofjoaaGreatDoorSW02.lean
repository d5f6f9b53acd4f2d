import Derived.Test.YtmjgnfkbnofjoaaGreatDoorSW01
import Derived.Test.YtmjgnfkbnofjoaaGreatDoorProg
import Derived.WalkKit
import Derived.WalkSpells
import Derived.WalkLawsBesides
namespace Go.Proofs.YtmjgnfkbnofjoaaGreatDoor
set_option linter.unusedVariables false
def Trs (L:List Sym) (J:List Int):Prop:=∀ p,p<J.length→Forest L J 1 p (endN L J p)
def shF (apart x:Int):Int:=if x<0 then x-apart else x
def jl (a b:List Int) (apart:Int):List Int:=a++b.map (shF apart)
theorem arN_sh (L:List Sym) {apart:Int} (h:0≤apart) (x:Int):arN L (shF apart x)=arN L x:=by
 unfold shF
 split
 ·unfold arN;rw [if_pos (by omega),if_pos (by omega)]
 ·rfl
theorem need_sh (L:List Sym) {apart:Int} (h:0≤apart) (k:Nat) (b:List Int):need L k (b.map (shF apart))=need L k b:=by
 induction b generalizing k with
 | nil=>rfl
 | cons x r ih=>
  cases k with
  | zero=>rfl
  | succ k=>simp only [List.map_cons,need,arN_sh L h,ih]
theorem isT_sh {L:List Sym} {apart:Int} (h:0≤apart) {b:List Int} (hb:IsT L b):IsT L (b.map (shF apart)):=by
 unfold IsT;rw [need_sh L h];exact hb
theorem scan_more {L:List Sym} {k n:Nat} {ts:List Int} (h:scan L k ts=some n) (r:List Int):scan L k (ts++r)=some n:=by
 obtain ⟨h1,h2⟩:=scan_need h
 have:=need_scan (b:=ts.drop n++r) h2
 rw [← List.append_assoc,List.take_append_drop] at this
 rw [this];simp;omega
theorem trs_append {L:List Sym} {a b:List Int} (ha:IsT L a) (hb:IsT L b):Trs L (a++b):=by
 intro p hp
 have key:∃ n,scan L 1 ((a++b).drop p)=some n∧p+n≤(a++b).length:=by
  by_cases h:p<a.length
  ·obtain ⟨n,h1,h2,h3⟩:=isT_scan ha h
   refine ⟨n,?_,by simp;omega⟩
   rw [List.drop_append_of_le_length (by omega)]
   exact scan_more h1 b
  ·obtain ⟨n,h1,h2,h3⟩:=isT_scan hb (p:=p-a.length) (by simp at hp;omega)
   refine ⟨n,?_,by simp;omega⟩
   rw [List.drop_append,List.drop_eq_nil_of_le (by omega),List.nil_append]
   exact h1
 obtain ⟨n,h1,h2⟩:=key
 exact ⟨n,h1,endN_of h1,by rw [endN_of h1];exact h2⟩
theorem trs_jl {L:List Sym} {a b:List Int} {apart:Int} (h:0≤apart) (ha:IsT L a) (hb:IsT L b):Trs L (jl a b apart):=trs_append ha (isT_sh h hb)
theorem Trs.lt {L:List Sym} {J:List Int} (h:Trs L J) {p:Nat} (hp:p<J.length):p<endN L J p∧endN L J p≤J.length:=⟨(h p hp).pos,(h p hp).le.2⟩
theorem Trs.kids {L:List Sym} {J:List Int} (h:Trs L J) {p:Nat} (hp:p<J.length):Forest L J (arN L J[p]) (p+1) (endN L J p):=by
 obtain ⟨_,h2⟩:=(h p hp).kids;exact h2
def UPart (J:List Int) (x:Int):Prop:=-198≤x∧x<(J.length:Int)
def at' (J:List Int) (x:Int):Int:=J.getD x.toNat 0
def un (p q:Int) (ld:Int→Int):Int→Int:=fun x=>if ld x=p then q else ld x
def ld0 (J:List Int):Int→Int:=fun x=>if 0≤x∧at' J x<0 then at' J x else x
structure LdOk (J:List Int) (ld:Int→Int):Prop where
 part:∀ x,UPart J x→UPart J (ld x)
 idem:∀ x,UPart J x→ld (ld x)=ld x
 sym:∀ x,UPart J x→0≤ld x→0≤at' J (ld x)
 like:∀ x,UPart J x→0≤x→0≤at' J x→0≤ld x∧at' J (ld x)=at' J x
theorem at'_nat (J:List Int) (p:Nat) (h:p<J.length):at' J (p:Int)=J[p]:=by
 unfold at'
 rw [Int.toNat_natCast,List.getD_eq_getElem?_getD,List.getElem?_eq_getElem h];rfl
theorem ld0_ok {J:List Int} (hv:∀ x∈J, -198≤x):LdOk J (ld0 J):=by
 have hm:∀ x,UPart J x→0≤x → -198≤at' J x:=by
  intro x hx h0
  obtain ⟨k,rfl⟩:=Int.eq_ofNat_of_zero_le h0
  rw [at'_nat J k (by have:=hx.2;omega)]
  exact hv _ (List.getElem_mem _)
 refine ⟨?_,?_,?_,?_⟩
 ·intro x hx
  unfold ld0
  split
  ·rename_i h;exact ⟨hm x hx h.1,by have:=h.2;unfold UPart at hx;omega⟩
  ·exact hx
 ·intro x hx
  by_cases h:0≤x∧at' J x<0
  ·have e:ld0 J x=at' J x:=by unfold ld0;rw [if_pos h]
   rw [e];unfold ld0;rw [if_neg (by omega)]
  ·have e:ld0 J x=x:=by unfold ld0;rw [if_neg h]
   rw [e,e]
 ·intro x hx h0
  by_cases h:0≤x∧at' J x<0
  ·have e:ld0 J x=at' J x:=by unfold ld0;rw [if_pos h]
   omega
  ·have e:ld0 J x=x:=by unfold ld0;rw [if_neg h]
   rw [e] at h0 ⊢;omega
 ·intro x hx h0 h1
  have e:ld0 J x=x:=by unfold ld0;rw [if_neg (by omega)]
  rw [e];exact ⟨h0,rfl⟩
theorem LdOk.un {J:List Int} {ld:Int→Int} (h:LdOk J ld) {p q:Int} (hp:ld p=p) (hq:ld q=q) (hq2:UPart J q) (hpq:p≠q) (hs:0≤q→0≤at' J q) (hl:0≤p→0≤q∧at' J q=at' J p):LdOk J (un p q ld):=by
 have u1:∀ x,ld x=p→Proofs.YtmjgnfkbnofjoaaGreatDoor.un p q ld x=q:=fun x e=>by unfold Proofs.YtmjgnfkbnofjoaaGreatDoor.un;rw [if_pos e]
 have u2:∀ x,ld x≠p→Proofs.YtmjgnfkbnofjoaaGreatDoor.un p q ld x=ld x:=fun x e=>by unfold Proofs.YtmjgnfkbnofjoaaGreatDoor.un;rw [if_neg e]
 refine ⟨?_,?_,?_,?_⟩ <;> intro x hx <;> by_cases e:ld x=p
 ·rw [u1 x e];exact hq2
 ·rw [u2 x e];exact h.part x hx
 ·rw [u1 x e,u2 q (by rw [hq];exact fun f=>hpq f.symm),hq]
 ·rw [u2 x e,u2 (ld x) (by rw [h.idem x hx];exact e),h.idem x hx]
 ·rw [u1 x e];exact hs
 ·rw [u2 x e];exact h.sym x hx
 ·intro h0 h1
  obtain ⟨g1,g2⟩:=h.like x hx h0 h1
  rw [e] at g1 g2
  obtain ⟨g3,g4⟩:=hl g1
  rw [u1 x e];exact ⟨g3,g4.trans g2⟩
 ·rw [u2 x e];exact h.like x hx
def uniF (L:List Sym) (J:List Int):Nat→(Int→Int)→List (Nat × Nat × Nat)→Option (Option (Int→Int))
 | 0,_,_=>none
 | _+1,ld,[]=>some (some ld)
 | n+1,ld,(x,y,o) :: r=>
  if x<y then
   if ld x=ld o then uniF L J n ld ((endN L J x,y,endN L J o) :: r)
   else if ld x<0 then uniF L J n (un (ld x) (ld o) ld) ((endN L J x,y,endN L J o) :: r)
   else if ld o<0 then uniF L J n (un (ld o) (ld x) ld) ((endN L J x,y,endN L J o) :: r)
   else if at' J (ld x)≠at' J (ld o) then some none
   else uniF L J n (un (ld x) (ld o) ld) (((ld x).toNat+1,endN L J (ld x).toNat,(ld o).toNat+1) :: (endN L J x,y,endN L J o) :: r)
  else uniF L J n ld r
def RunOk (L:List Sym) (J:List Int) (r:Nat × Nat × Nat):Prop:=∃ k z,Forest L J k r.1 r.2.1∧Forest L J k r.2.2 z
theorem RunOk.step {L:List Sym} {J:List Int} {x y o:Nat} (h:RunOk L J (x,y,o)) (hxy:x<y):x<endN L J x∧endN L J x≤y∧y≤J.length∧o<J.length∧o<endN L J o∧RunOk L J (endN L J x,y,endN L J o):=by
 obtain ⟨k,z,h1,h2⟩:=h
 cases k with
 | zero=>have:=h1.zero;simp only at this;omega
 | succ k=>
  obtain ⟨g1,g2,g3⟩:=h1.succ
  obtain ⟨f1,f2,f3⟩:=h2.succ
  simp only at g1 g2 g3 f1 f2 f3
  have:=g3.le;have:=f1.le
  exact ⟨g2,by omega,by omega,by omega,f2,k,z,g3,f3⟩
theorem RunOk.kids {L:List Sym} {J:List Int} (hT:Trs L J) {p q:Nat} (hp:p<J.length) (hq:q<J.length) (h:J[p]=J[q]):RunOk L J (p+1,endN L J p,q+1):=
 ⟨_,_,hT.kids hp,by rw [h];exact hT.kids hq⟩
def roots (J:List Int) (ld:Int→Int):Nat:=(List.range J.length).countP (fun p:Nat=>decide (ld (p:Int)=(p:Int)))
theorem countP_le {P Q:Nat→Bool} {l:List Nat} (h:∀ x∈l,P x=true→Q x=true):l.countP P≤l.countP Q:=List.countP_mono_left h
theorem countP_lt {P Q:Nat→Bool} {l:List Nat} (h:∀ x∈l,P x=true→Q x=true) {y:Nat} (hy:y∈l) (h1:Q y=true) (h2:P y=false):l.countP P<l.countP Q:=by
 induction l with
 | nil=>simp at hy
 | cons a r ih=>
  have ha:=h a (by simp)
  have hr:=countP_le (l:=r) (fun x hx=>h x (by simp [hx]))
  rw [List.countP_cons,List.countP_cons]
  rcases List.mem_cons.1 hy with e | e
  ·subst e;simp [h1,h2];omega
  ·have:=ih (fun x hx=>h x (by simp [hx])) e
   by_cases hP:P a=true
   ·simp [hP,ha hP];exact this
   ·simp [hP];split <;> omega
theorem un_root {J:List Int} {ld:Int→Int} {p q:Int} (hq:ld q=q) (hpq:p≠q) {x:Int} (h:un p q ld x=x):ld x=x:=by
 unfold un at h
 split at h
 ·rename_i e;subst h;exact absurd (hq.symm.trans e).symm hpq
 ·exact h
theorem roots_le {J:List Int} {ld:Int→Int} {p q:Int} (hq:ld q=q) (hpq:p≠q):roots J (un p q ld)≤roots J ld:=
 countP_le (fun x _ h=>by simp only [decide_eq_true_eq] at h ⊢;exact un_root (J:=J) hq hpq h)
theorem roots_lt {J:List Int} {ld:Int→Int} {p:Nat} {q:Int} (hq:ld q=q) (hpq:(p:Int)≠q) (hp:ld p=p) (hl:p<J.length):roots J (un p q ld)<roots J ld:=
 countP_lt (y:=p) (fun x _ h=>by simp only [decide_eq_true_eq] at h ⊢;exact un_root (J:=J) hq hpq h) (by simpa using hl) (by simpa using hp) (by unfold un;simp [hp];exact fun e=>hpq e.symm)
def runsN:List (Nat × Nat × Nat)→Nat
 | []=>0
 | r :: t=>r.2.1-r.1+1+runsN t
theorem part_nat {J:List Int} {p:Nat} (h:p<J.length):UPart J p:=by unfold UPart;omega
theorem uni_ends {L:List Sym} {J:List Int} (hT:Trs L J):∀ (n:Nat) (ld:Int→Int) (rs:List (Nat × Nat × Nat)),LdOk J ld→(∀ r∈rs,RunOk L J r)→(J.length+1) * roots J ld+runsN rs<n→∃ r,uniF L J n ld rs=some r∧∀ ld', r=some ld' → LdOk J ld' := by
 intro n
 induction n with
 | zero=>intro ld rs _ _ h;omega
 | succ n ih=>
  intro ld rs hl hr hn
  cases rs with
  | nil=>exact ⟨_,rfl,fun ld' e=>by cases e;exact hl⟩
  | cons r rs=>
   obtain ⟨x,y,o⟩:=r
   have hr2:∀ r∈rs,RunOk L J r:=fun r h=>hr r (by simp [h])
   rw [uniF]
   simp only [runsN] at hn
   by_cases hxy:x<y
   ·rw [if_pos hxy]
    obtain ⟨s1,s2,s3,s4,s5,s6⟩:=(hr (x,y,o) (by simp)).step hxy
    have hr3:∀ r∈(endN L J x,y,endN L J o) :: rs,RunOk L J r:=fun r h=>by
     rcases List.mem_cons.1 h with e | e
     ·rw [e];exact s6
     ·exact hr2 r e
    have px:=part_nat (J:=J) (p:=x) (by omega)
    have po:=part_nat (J:=J) (p:=o) s4
    have hlx:=hl.idem _ px
    have hlo:=hl.idem _ po
    have hpx:=hl.part _ px
    have hpo:=hl.part _ po
    by_cases h1:ld x=ld o
    ·rw [if_pos h1];exact ih ld _ hl hr3 (by simp only [runsN];omega)
    ·rw [if_neg h1]
     have h1' : ld o≠ld x:=fun e=>h1 e.symm
     by_cases h2:ld x<0
     ·rw [if_pos h2]
      have:=Nat.mul_le_mul_left (J.length+1) (roots_le (J:=J) (p:=ld x) hlo h1)
      exact ih _ _ (hl.un hlx hlo hpo h1 (hl.sym _ po) (fun f=>by omega)) hr3 (by simp only [runsN];omega)
     ·rw [if_neg h2]
      by_cases h3:ld o<0
      ·rw [if_pos h3]
       have:=Nat.mul_le_mul_left (J.length+1) (roots_le (J:=J) (p:=ld o) hlx h1')
       exact ih _ _ (hl.un hlo hlx hpx h1' (hl.sym _ px) (fun f=>by omega)) hr3 (by simp only [runsN];omega)
      ·rw [if_neg h3]
       by_cases h4:at' J (ld x)≠at' J (ld o)
       ·rw [if_pos h4];exact ⟨_,rfl,fun ld' e=>by cases e⟩
       ·rw [if_neg h4]
        have h4:at' J (ld x)=at' J (ld o):=by simpa using h4
        obtain ⟨p,hp⟩:=Int.eq_ofNat_of_zero_le (Int.not_lt.1 h2)
        obtain ⟨q,hq⟩:=Int.eq_ofNat_of_zero_le (Int.not_lt.1 h3)
        have hpl:p<J.length:=by have:=hpx.2;omega
        have hql:q<J.length:=by have:=hpo.2;omega
        have hlt:=roots_lt (J:=J) (ld:=ld) (p:=p) (q:=ld o) hlo (by rw [← hp];exact h1) (by rw [← hp];exact hlx) hpl
        rw [← hp] at hlt
        have:=Nat.mul_le_mul_left (J.length+1) (Nat.succ_le_of_lt hlt)
        rw [Nat.succ_eq_add_one,Nat.mul_add,Nat.mul_one] at this
        have hpe:=hT.lt hpl
        have e1:(ld x).toNat=p:=by omega
        have e2:(ld o).toNat=q:=by omega
        refine ih _ _ (hl.un hlx hlo hpo h1 (hl.sym _ po) (fun _=>⟨by omega,h4.symm⟩)) ?_ ?_
        ·intro r h
         rcases List.mem_cons.1 h with e | e
         ·rw [e,e1,e2]
          rw [hp,hq,at'_nat J p hpl,at'_nat J q hql] at h4
          exact RunOk.kids hT hpl hql h4
         ·exact hr3 r e
        ·simp only [runsN,e1];omega
   ·rw [if_neg hxy]
    exact ih ld rs hl hr2 (by omega)
structure UOk (L:List Sym) (J:List Int) (res:Option (Int→Int)) (k:Nat) (ld:Int→Int) (rs:List (Nat × Nat × Nat)):Prop where
 trs:Trs L J
 ok:LdOk J ld
 runs:∀ r∈rs,RunOk L J r
 eq:uniF L J k ld rs=some res
 len:rs.length+roots J ld≤J.length+1
theorem UOk.nil {L:List Sym} {J:List Int} {res:Option (Int→Int)} {k:Nat} {ld:Int→Int} (h:UOk L J res k ld []):res=some ld:=by
 have:=h.eq
 cases k with
 | zero=>simp [uniF] at this
 | succ k=>simp [uniF] at this;exact this.symm
theorem UOk.pop {L:List Sym} {J:List Int} {res:Option (Int→Int)} {k:Nat} {ld:Int→Int} {x y o:Nat} {rs:List (Nat × Nat × Nat)} (h:UOk L J res k ld ((x,y,o) :: rs)) (hxy:¬ x<y):∃ k', k=k' + 1∧UOk L J res k' ld rs:=by
 have:=h.eq
 cases k with
 | zero=>simp [uniF] at this
 | succ k=>
  rw [uniF,if_neg hxy] at this
  exact ⟨k,rfl,h.trs,h.ok,fun r hr=>h.runs r (by simp [hr]),this,by have:=h.len;simp at this;omega⟩
theorem UOk.top {L:List Sym} {J:List Int} {res:Option (Int→Int)} {k:Nat} {ld:Int→Int} {x y o:Nat} {rs:List (Nat × Nat × Nat)} (h:UOk L J res k ld ((x,y,o) :: rs)) (hxy:x<y):x<J.length∧o<J.length∧endN L J x≤J.length∧endN L J o≤J.length∧UPart J (ld x)∧UPart J (ld o)∧ld (ld x)=ld x∧ld (ld o)=ld o∧(∀ r∈(endN L J x,y,endN L J o) :: rs,RunOk L J r):=by
 obtain ⟨s1,s2,s3,s4,s5,s6⟩:=(h.runs (x,y,o) (by simp)).step hxy
 have px:=part_nat (J:=J) (p:=x) (by omega)
 have po:=part_nat (J:=J) (p:=o) s4
 refine ⟨by omega,s4,by omega,(h.trs.lt s4).2,h.ok.part _ px,h.ok.part _ po,h.ok.idem _ px,h.ok.idem _ po,fun r hr=>?_⟩
 rcases List.mem_cons.1 hr with e | e
 ·rw [e];exact s6
 ·exact h.runs r (by simp [e])
theorem UOk.step {L:List Sym} {J:List Int} {res:Option (Int→Int)} {k:Nat} {ld:Int→Int} {x y o:Nat} {rs:List (Nat × Nat × Nat)} (h:UOk L J res k ld ((x,y,o) :: rs)) (hxy:x<y):∃ k', k=k' + 1 ∧
  (ld x=ld o→UOk L J res k' ld ((endN L J x,y,endN L J o) :: rs)) ∧
  (ld x≠ld o→ld x<0→UOk L J res k' (un (ld x) (ld o) ld) ((endN L J x,y,endN L J o) :: rs)) ∧
  (ld x≠ld o→¬ ld x<0→ld o<0→UOk L J res k' (un (ld o) (ld x) ld) ((endN L J x,y,endN L J o) :: rs)) ∧
  (ld x≠ld o→¬ ld x<0→¬ ld o<0→at' J (ld x)≠at' J (ld o)→res=none) ∧
  (ld x≠ld o→¬ ld x<0→¬ ld o<0→at' J (ld x)=at' J (ld o)→UOk L J res k' (un (ld x) (ld o) ld) (((ld x).toNat+1,endN L J (ld x).toNat,(ld o).toNat+1) :: (endN L J x,y,endN L J o) :: rs)):=by
 have heq:=h.eq
 have hlen:=h.len
 obtain ⟨t1,t2,t3,t4,hpx,hpo,hlx,hlo,hr⟩:=h.top hxy
 have px:=part_nat (J:=J) (p:=x) t1
 have po:=part_nat (J:=J) (p:=o) t2
 simp at hlen
 cases k with
 | zero=>simp [uniF] at heq
 | succ k=>
  rw [uniF,if_pos hxy] at heq
  refine ⟨k,rfl,?_,?_,?_,?_,?_⟩
  ·intro h1;rw [if_pos h1] at heq
   exact ⟨h.trs,h.ok,hr,heq,by simp;omega⟩
  ·intro h1 h2
   rw [if_neg h1,if_pos h2] at heq
   have:=roots_le (J:=J) (p:=ld x) hlo h1
   exact ⟨h.trs,h.ok.un hlx hlo hpo h1 (h.ok.sym _ po) (fun f=>by omega),hr,heq,by simp;omega⟩
  ·intro h1 h2 h3
   have h1' : ld o≠ld x:=fun e=>h1 e.symm
   rw [if_neg h1,if_neg h2,if_pos h3] at heq
   have:=roots_le (J:=J) (p:=ld o) hlx h1'
   exact ⟨h.trs,h.ok.un hlo hlx hpx h1' (h.ok.sym _ px) (fun f=>by omega),hr,heq,by simp;omega⟩
  ·intro h1 h2 h3 h4
   rw [if_neg h1,if_neg h2,if_neg h3,if_pos h4] at heq
   simp at heq;exact heq.symm
  ·intro h1 h2 h3 h4
   rw [if_neg h1,if_neg h2,if_neg h3,if_neg (by simpa using h4)] at heq
   obtain ⟨p,hp⟩:=Int.eq_ofNat_of_zero_le (Int.not_lt.1 h2)
   obtain ⟨q,hq⟩:=Int.eq_ofNat_of_zero_le (Int.not_lt.1 h3)
   have hpl:p<J.length:=by have:=hpx.2;omega
   have hql:q<J.length:=by have:=hpo.2;omega
   have hlt:=roots_lt (J:=J) (ld:=ld) (p:=p) (q:=ld o) hlo (by rw [← hp];exact h1) (by rw [← hp];exact hlx) hpl
   rw [← hp] at hlt
   refine ⟨h.trs,h.ok.un hlx hlo hpo h1 (h.ok.sym _ po) (fun _=>⟨by omega,h4.symm⟩),?_,heq,by simp;omega⟩
   intro r hr'
   rcases List.mem_cons.1 hr' with e | e
   ·rw [e,show (ld x).toNat=p by omega,show (ld o).toNat=q by omega]
    rw [hp,hq,at'_nat J p hpl,at'_nat J q hql] at h4
    exact RunOk.kids h.trs hpl hql h4
   ·exact hr r e
theorem roots_len (J:List Int) (ld:Int→Int):roots J ld≤J.length:=by
 have:=List.countP_le_length (p:=fun p:Nat=>decide (ld (p:Int)=(p:Int))) (l:=List.range J.length)
 simpa [roots] using this
def updN (sz:Nat→Int) (p:Nat) (v:Int):Nat→Int:=fun k=>if k=p then v else sz k
def sizA (f:(Nat→Int)→Int→Option (Int × (Nat→Int))):List Nat→Int→(Nat→Int)→Option (Int × (Nat→Int))
 | [],s,sz=>some (s,sz)
 | x :: r,s,sz=>
  match f sz (x:Int) with
  | none=>none
  | some (k,sz')=>if k = -1 then some (-1,sz') else sizA f r (min (s+k) 2001) sz'
def kidsL (L:List Sym) (J:List Int) (p:Nat):List Nat:=starts L J (arN L (at' J p)) (p+1)
def sizF (L:List Sym) (J:List Int) (ld:Int→Int):Nat→(Nat→Int)→Int→Option (Int × (Nat→Int))
 | 0,_,_=>none
 | n+1,sz,x=>
  if ld x<0 then some (1,sz)
  else if sz (ld x).toNat≠0 then some (sz (ld x).toNat,sz)
  else match sizA (sizF L J ld n) (kidsL L J (ld x).toNat) 1 (updN sz (ld x).toNat (-1)) with
   | none=>none
   | some (s,sz')=>if s = -1 then some (-1,sz') else some (s,updN sz' (ld x).toNat s)
def argsT (f:Int→Option (List Int)):List Nat→Option (List Int)
 | []=>some []
 | x :: r=>
  match f (x:Int) with
  | none=>none
  | some a=>
   match argsT f r with
   | none=>none
   | some b=>some (a++b)
def tmF (L:List Sym) (J:List Int) (ld:Int→Int):Nat→Int→Option (List Int)
 | 0,_=>none
 | d+1,x=>
  if ld x<0 then some [ld x]
  else match argsT (tmF L J ld d) (kidsL L J (ld x).toNat) with
   | none=>none
   | some u=>some (at' J (ld x) :: u)
theorem argsT_mono {f g:Int→Option (List Int)} (h:∀ x u,f x=some u→g x=some u):∀ (l:List Nat) (u:List Int),argsT f l=some u→argsT g l=some u
 | [],u,e=>e
 | x :: r,u,e=>by
  unfold argsT at e ⊢
  cases h1:f (x:Int) with
  | none=>simp [h1] at e
  | some a=>
   cases h2:argsT f r with
   | none=>simp [h1,h2] at e
   | some b=>
    simp only [h1,h2] at e
    simp only [h _ _ h1,argsT_mono h r b h2]
    exact e
theorem tmF_succ {L:List Sym} {J:List Int} {ld:Int→Int}:∀ {d:Nat} {x:Int} {u:List Int},tmF L J ld d x=some u→tmF L J ld (d+1) x=some u:=by
 intro d
 induction d with
 | zero=>intro x u h;simp [tmF] at h
 | succ d ih=>
  intro x u h
  rw [tmF] at h ⊢
  by_cases h1:ld x<0
  ·rw [if_pos h1] at h ⊢;exact h
  ·rw [if_neg h1] at h ⊢
   cases h2:argsT (tmF L J ld d) (kidsL L J (ld x).toNat) with
   | none=>simp [h2] at h
   | some v=>
    simp only [h2] at h
    rw [argsT_mono (fun y w hy=>ih hy) _ _ h2]
    exact h
theorem tmF_le {L : List Sym} {J : List Int} {ld : Int → Int} {d d' : Nat} (hd : d ≤ d') {x : Int} {u : List Int} (h : tmF L J ld d x = some u) : tmF L J ld d' x = some u := by
  induction d' with
  | zero => obtain rfl : d = 0 := by omega
            exact h
  | succ k ih =>
    by_cases e : d = k + 1
    · subst e; exact h
    · exact tmF_succ (ih (by omega))
def Val (L:List Sym) (J:List Int) (ld:Int→Int) (x:Int) (u:List Int):Prop:=∃ d,tmF L J ld d x=some u
theorem Val.uniq {L:List Sym} {J:List Int} {ld:Int→Int} {x:Int} {u v:List Int} (h:Val L J ld x u) (k:Val L J ld x v):u=v:=by
 obtain ⟨d,hd⟩:=h
 obtain ⟨e,he⟩:=k
 have h1:=tmF_le (Nat.le_max_left d e) hd
 have h2:=tmF_le (Nat.le_max_right d e) he
 rw [h1] at h2;simpa using h2
def Vals (L:List Sym) (J:List Int) (ld:Int→Int) (l:List Nat) (u:List Int):Prop:=∃ d,argsT (tmF L J ld d) l=some u
theorem vals_nil (L:List Sym) (J:List Int) (ld:Int→Int):Vals L J ld [] []:=⟨0,rfl⟩
theorem vals_cons {L:List Sym} {J:List Int} {ld:Int→Int} {x:Nat} {r:List Nat} {u v:List Int} (h:Val L J ld x u) (k:Vals L J ld r v):Vals L J ld (x :: r) (u++v):=by
 obtain ⟨d,hd⟩:=h
 obtain ⟨e,he⟩:=k
 refine ⟨max d e,?_⟩
 have h2:=argsT_mono (g:=tmF L J ld (max d e)) (fun y w hy=>tmF_le (Nat.le_max_right d e) hy) _ _ he
 simp only [argsT,tmF_le (Nat.le_max_left d e) hd,h2]
theorem vals_split {L:List Sym} {J:List Int} {ld:Int→Int} {x:Nat} {r:List Nat} {u:List Int} (h:Vals L J ld (x :: r) u):∃ a b,Val L J ld x a∧Vals L J ld r b∧u=a++b:=by
 obtain ⟨d,hd⟩:=h
 unfold argsT at hd
 cases h1:tmF L J ld d (x:Int) with
 | none=>simp [h1] at hd
 | some a=>
  cases h2:argsT (tmF L J ld d) r with
  | none=>simp [h1,h2] at hd
  | some b=>simp only [h1,h2,Option.some.injEq] at hd;exact ⟨a,b,⟨d,h1⟩,⟨d,h2⟩,hd.symm⟩
theorem val_var {L:List Sym} {J:List Int} {ld:Int→Int} {x:Int} (h:ld x<0):Val L J ld x [ld x]:=⟨1,by rw [tmF,if_pos h]⟩
theorem val_sym {L:List Sym} {J:List Int} {ld:Int→Int} {x:Int} (h:¬ ld x<0) {u:List Int} (hu:Vals L J ld (kidsL L J (ld x).toNat) u):Val L J ld x (at' J (ld x) :: u):=by
 obtain ⟨d,hd⟩:=hu
 exact ⟨d+1,by rw [tmF,if_neg h,hd]⟩
theorem val_sym' {L:List Sym} {J:List Int} {ld:Int→Int} {x:Int} (h:¬ ld x<0) {u:List Int} (hv:Val L J ld x u):∃ v,u=at' J (ld x) :: v∧Vals L J ld (kidsL L J (ld x).toNat) v:=by
 obtain ⟨d,hd⟩:=hv
 cases d with
 | zero=>simp [tmF] at hd
 | succ d=>
  rw [tmF,if_neg h] at hd
  cases h2:argsT (tmF L J ld d) (kidsL L J (ld x).toNat) with
  | none=>simp [h2] at hd
  | some v=>simp only [h2,Option.some.injEq] at hd;exact ⟨v,hd.symm,d,h2⟩
theorem val_ld {L:List Sym} {J:List Int} {ld:Int→Int} {x y:Int} (h:ld x=ld y) {u:List Int} (hv:Val L J ld x u):Val L J ld y u:=by
 obtain ⟨d,hd⟩:=hv
 cases d with
 | zero=>simp [tmF] at hd
 | succ d=>rw [tmF,h] at hd;exact ⟨d+1,by rw [tmF];exact hd⟩
def SzOk (sz:Nat→Int):Prop:=∀ p,sz p = -1∨(0≤sz p∧sz p≤2001)
theorem SzOk.upd {sz:Nat→Int} (h:SzOk sz) (p:Nat) {v:Int} (hv:v = -1∨(0≤v∧v≤2001)):SzOk (updN sz p v):=fun k=>by
 unfold updN;split
 ·exact hv
 ·exact h k
theorem sizA_ok {f:(Nat→Int)→Int→Option (Int × (Nat→Int))} (hf:∀ sz x k sz', SzOk sz→f sz x=some (k,sz')→SzOk sz' ∧ (k = -1∨(1≤k∧k≤2001))):∀ (l:List Nat) (s:Int) (sz:Nat→Int) (k:Int) (sz' : Nat→Int),SzOk sz→1≤s→s≤2001→sizA f l s sz=some (k,sz')→SzOk sz' ∧ (k = -1∨(1≤k∧k≤2001))
 | [],s,sz,k,sz', h,h1,h2,e=>by
  simp only [sizA,Option.some.injEq,Prod.mk.injEq] at e
  obtain ⟨rfl,rfl⟩:=e
  exact ⟨h,.inr ⟨h1,h2⟩⟩
 | x :: r,s,sz,k,sz', h,h1,h2,e=>by
  unfold sizA at e
  cases hx:f sz (x:Int) with
  | none=>simp [hx] at e
  | some v=>
   obtain ⟨k1,sz1⟩:=v
   simp only [hx] at e
   obtain ⟨g1,g2⟩:=hf _ _ _ _ h hx
   by_cases hk:k1 = -1
   ·rw [if_pos hk] at e
    simp only [Option.some.injEq,Prod.mk.injEq] at e
    obtain ⟨rfl,rfl⟩:=e
    exact ⟨g1,.inl rfl⟩
   ·rw [if_neg hk] at e
    exact sizA_ok hf r _ _ _ _ g1 (by omega) (by omega) e
theorem sizF_ok {L:List Sym} {J:List Int} {ld:Int→Int}:∀ (n:Nat) (sz:Nat→Int) (x k:Int) (sz' : Nat→Int),SzOk sz→sizF L J ld n sz x=some (k,sz')→SzOk sz' ∧ (k = -1∨(1≤k∧k≤2001)):=by
 intro n
 induction n with
 | zero=>intro sz x k sz' _ e;simp [sizF] at e
 | succ n ih=>
  intro sz x k sz' h e
  rw [sizF] at e
  by_cases h1:ld x<0
  ·rw [if_pos h1] at e
   simp only [Option.some.injEq,Prod.mk.injEq] at e
   obtain ⟨rfl,rfl⟩:=e
   exact ⟨h,.inr ⟨by omega,by omega⟩⟩
  ·rw [if_neg h1] at e
   by_cases h2:sz (ld x).toNat≠0
   ·rw [if_pos h2] at e
    simp only [Option.some.injEq,Prod.mk.injEq] at e
    obtain ⟨rfl,rfl⟩:=e
    exact ⟨h,by have:=h (ld x).toNat;omega⟩
   ·rw [if_neg h2] at e
    cases h3:sizA (sizF L J ld n) (kidsL L J (ld x).toNat) 1 (updN sz (ld x).toNat (-1)) with
    | none=>simp [h3] at e
    | some v=>
     obtain ⟨s,sz1⟩:=v
     obtain ⟨g1,g2⟩:=sizA_ok ih _ _ _ _ _ (h.upd _ (.inl rfl)) (by omega) (by omega) h3
     simp only [h3] at e
     by_cases hs:s = -1
     ·rw [if_pos hs] at e
      simp only [Option.some.injEq,Prod.mk.injEq] at e
      obtain ⟨rfl,rfl⟩:=e
      exact ⟨g1,.inl rfl⟩
     ·rw [if_neg hs] at e
      simp only [Option.some.injEq,Prod.mk.injEq] at e
      obtain ⟨rfl,rfl⟩:=e
      exact ⟨g1.upd _ (by omega),by omega⟩
def unk (N:Nat) (sz:Nat→Int):Nat:=(List.range N).countP (fun p=>decide (sz p=0))
theorem unk_upd_le {N:Nat} {sz:Nat→Int} {p:Nat} {v:Int} (hv:v≠0):unk N (updN sz p v)≤unk N sz:=
 countP_le (fun x _ h=>by
  have h' : updN sz p v x=0:=of_decide_eq_true h
  refine decide_eq_true ?_
  unfold updN at h'
  by_cases e:x=p
  ·rw [if_pos e] at h'; exact absurd h' hv
  ·rw [if_neg e] at h'; exact h')
theorem unk_upd_lt {N:Nat} {sz:Nat→Int} {p:Nat} {v:Int} (hv:v≠0) (hp:p<N) (h0:sz p=0):unk N (updN sz p v)<unk N sz:=
 countP_lt (y:=p) (fun x _ h=>by
  have h' : updN sz p v x=0:=of_decide_eq_true h
  refine decide_eq_true ?_
  unfold updN at h'
  by_cases e:x=p
  ·rw [if_pos e] at h'; exact absurd h' hv
  ·rw [if_neg e] at h'; exact h') (by simpa using hp) (by simpa using h0) (by simp [updN,hv])
theorem starts_lt {L:List Sym} {J:List Int}:∀ {k p q:Nat},Forest L J k p q→∀ x∈starts L J k p,x<J.length
 | 0,p,q,h,x,hx=>by simp [starts] at hx
 | k+1,p,q,h,x,hx=>by
  obtain ⟨h1,h2,h3⟩:=h.succ
  simp only [starts,List.mem_cons] at hx
  rcases hx with e | e
  ·rw [e];have:=h1.le;omega
  ·exact starts_lt h3 x e
theorem kids_forest {L:List Sym} {J:List Int} (hT:Trs L J) {p:Nat} (hp:p<J.length):Forest L J (arN L (at' J p)) (p+1) (endN L J p):=by
 rw [at'_nat J p hp];exact hT.kids hp
theorem kids_lt {L:List Sym} {J:List Int} (hT:Trs L J) {p:Nat} (hp:p<J.length):∀ x∈kidsL L J p,x<J.length:=starts_lt (kids_forest hT hp)
theorem sizA_ends {N:Nat} {f:(Nat→Int)→Int→Option (Int × (Nat→Int))} {m:Nat} (l:List Nat) (hf:∀ sz,unk N sz<m→SzOk sz→∀ x∈l,∃ k sz', f sz (x:Int)=some (k,sz')∧unk N sz' ≤ unk N sz∧SzOk sz'):∀ (s:Int) (sz:Nat→Int),unk N sz<m→SzOk sz→∃ k sz', sizA f l s sz=some (k,sz')∧unk N sz' ≤ unk N sz:=by
 induction l with
 | nil=>intro s sz h h'; exact ⟨s,sz,rfl,Nat.le_refl _⟩
 | cons x r ih=>
  intro s sz h h'
  obtain ⟨k,sz1,h1,h2,h3⟩:=hf sz h h' x (by simp)
  by_cases hk:k = -1
  ·exact ⟨-1,sz1,by simp [sizA,h1,hk],h2⟩
  ·obtain ⟨k2,sz2,g1,g2⟩:=ih (fun sz a b y hy=>hf sz a b y (by simp [hy])) (min (s+k) 2001) sz1 (by omega) h3
   exact ⟨k2,sz2,by simp only [sizA,h1];rw [if_neg hk];exact g1,by omega⟩
theorem sizF_ends {L:List Sym} {J:List Int} {ld:Int→Int} (hT:Trs L J) (hl:LdOk J ld):∀ (n:Nat) (sz:Nat→Int) (x:Int),UPart J x→SzOk sz→unk J.length sz<n→∃ k sz', sizF L J ld n sz x=some (k,sz')∧unk J.length sz' ≤ unk J.length sz:=by
 intro n
 induction n with
 | zero=>intro sz x _ _ h;omega
 | succ n ih=>
  intro sz x hx hs hn
  rw [sizF]
  by_cases h1:ld x<0
  ·rw [if_pos h1];exact ⟨_,_,rfl,Nat.le_refl _⟩
  ·rw [if_neg h1]
   by_cases h2:sz (ld x).toNat≠0
   ·rw [if_pos h2];exact ⟨_,_,rfl,Nat.le_refl _⟩
   ·rw [if_neg h2]
    have hp:(ld x).toNat<J.length:=by have:=(hl.part x hx).2;omega
    have h0:sz (ld x).toNat=0:=by simpa using h2
    have hlt:=unk_upd_lt (N:=J.length) (sz:=sz) (v:=-1) (by omega) hp h0
    obtain ⟨k,sz1,g1,g2⟩:=sizA_ends (N:=J.length) (m:=n) (f:=sizF L J ld n) (kidsL L J (ld x).toNat) (fun sz a b y hy=>by
     obtain ⟨k,sz', e1,e2⟩:=ih sz y (part_nat (kids_lt hT hp y hy)) b a
     exact ⟨k,sz', e1,e2,(sizF_ok n _ _ _ _ b e1).1⟩) 1 (updN sz (ld x).toNat (-1)) (by omega) (hs.upd _ (.inl rfl))
    rw [g1]
    simp only
    by_cases hk:k = -1
    ·rw [if_pos hk];exact ⟨_,_,rfl,by omega⟩
    ·rw [if_neg hk]
     obtain ⟨_,hkk⟩:=sizA_ok (fun sz x k sz' => sizF_ok n sz x k sz') _ _ _ _ _ (hs.upd _ (.inl rfl)) (by omega) (by omega) g1
     have:=unk_upd_le (N:=J.length) (sz:=sz1) (p:=(ld x).toNat) (v:=k) (by omega)
     exact ⟨_,_,rfl,by omega⟩
def Known (L:List Sym) (J:List Int) (ld:Int→Int) (sz:Nat→Int):Prop:=∀ p:Nat,p<J.length→ld p=p→0<sz p→∃ u,Val L J ld p u∧sz p=min (u.length:Int) 2001
theorem sizA_known {L:List Sym} {J:List Int} {ld:Int→Int} {n:Nat} (hf:∀ sz x k sz', UPart J x→SzOk sz→Known L J ld sz→sizF L J ld n sz x=some (k,sz')→Known L J ld sz' ∧ (k ≠ -1→∃ u,Val L J ld x u∧k=min (u.length:Int) 2001)):∀ (l:List Nat),(∀ x∈l,x<J.length)→∀ (s0:Int) (n0:Nat) (sz:Nat→Int) (k:Int) (sz' : Nat→Int),SzOk sz→Known L J ld sz→s0=min (n0:Int) 2001→sizA (sizF L J ld n) l s0 sz=some (k,sz')→Known L J ld sz' ∧ (k ≠ -1→∃ u,Vals L J ld l u∧k=min ((n0+u.length:Nat):Int) 2001)
 | [],_,s0,n0,sz,k,sz', h1,h2,h3,e=>by
  simp only [sizA,Option.some.injEq,Prod.mk.injEq] at e
  obtain ⟨rfl,rfl⟩:=e
  exact ⟨h2,fun _=>⟨[],vals_nil _ _ _,by simpa using h3⟩⟩
 | x :: r,hl,s0,n0,sz,k,sz', h1,h2,h3,e=>by
  unfold sizA at e
  cases hx:sizF L J ld n sz (x:Int) with
  | none=>simp [hx] at e
  | some v=>
   obtain ⟨k1,sz1⟩:=v
   simp only [hx] at e
   obtain ⟨g1,g2⟩:=hf _ _ _ _ (part_nat (hl x (by simp))) h1 h2 hx
   have g3:=sizF_ok n _ _ _ _ h1 hx
   by_cases hk:k1 = -1
   ·rw [if_pos hk] at e
    simp only [Option.some.injEq,Prod.mk.injEq] at e
    obtain ⟨rfl,rfl⟩:=e
    exact ⟨g1,fun f=>absurd rfl f⟩
   ·rw [if_neg hk] at e
    obtain ⟨u,hu,hku⟩:=g2 hk
    have hsum:min (s0+k1) 2001=min ((n0+u.length:Nat):Int) 2001:=by clear g2 g1 g3 e hf;omega
    obtain ⟨f1,f2⟩:=sizA_known hf r (fun y hy=>hl y (by simp [hy])) _ (n0+u.length) _ _ _ g3.1 g1 hsum e
    refine ⟨f1,fun hk' => ?_⟩
    obtain ⟨u2,hu2,hk2⟩:=f2 hk'
    exact ⟨u++u2,vals_cons hu hu2,by rw [hk2,List.length_append];omega⟩
theorem sizF_known {L:List Sym} {J:List Int} {ld:Int→Int} (hT:Trs L J) (hl:LdOk J ld):∀ (n:Nat) (sz:Nat→Int) (x k:Int) (sz' : Nat→Int),UPart J x→SzOk sz→Known L J ld sz→sizF L J ld n sz x=some (k,sz')→Known L J ld sz' ∧ (k ≠ -1→∃ u,Val L J ld x u∧k=min (u.length:Int) 2001):=by
 intro n
 induction n with
 | zero=>intro sz x k sz' _ _ _ e;simp [sizF] at e
 | succ n ih=>
  intro sz x k sz' hx h hK e
  rw [sizF] at e
  by_cases h1:ld x<0
  ·rw [if_pos h1] at e
   simp only [Option.some.injEq,Prod.mk.injEq] at e
   obtain ⟨rfl,rfl⟩:=e
   exact ⟨hK,fun _=>⟨_,val_var h1,by simp only [List.length_singleton];omega⟩⟩
  ·rw [if_neg h1] at e
   obtain ⟨p,hp⟩:=Int.eq_ofNat_of_zero_le (Int.not_lt.1 h1)
   have hpl:p<J.length:=by have:=(hl.part x hx).2;omega
   have hpp:ld (p:Int)=p:=by
    have:=hl.idem x hx
    rw [hp] at this;exact this
   have e1:(ld x).toNat=p:=by omega
   rw [e1] at e
   by_cases h2:sz p≠0
   ·rw [if_pos h2] at e
    simp only [Option.some.injEq,Prod.mk.injEq] at e
    obtain ⟨rfl,rfl⟩:=e
    refine ⟨hK,fun hk=>?_⟩
    obtain ⟨u,hu,hz⟩:=hK p hpl hpp (by have:=h p;omega)
    exact ⟨u,val_ld (by rw [hpp,hp]) hu,hz⟩
   ·rw [if_neg h2] at e
    have h0:sz p=0:=by simpa using h2
    have hK2:Known L J ld (updN sz p (-1)):=by
     intro q hq hqq hs
     unfold updN at hs ⊢
     by_cases e:q=p
     ·rw [if_pos e] at hs;omega
     ·rw [if_neg e] at hs ⊢;exact hK q hq hqq hs
    cases h3:sizA (sizF L J ld n) (kidsL L J p) 1 (updN sz p (-1)) with
    | none=>simp [h3] at e
    | some v=>
     obtain ⟨s,sz1⟩:=v
     obtain ⟨g1,g2⟩:=sizA_known ih _ (kids_lt hT hpl) 1 1 _ _ _ (h.upd _ (.inl rfl)) hK2 (by decide) h3
     obtain ⟨o1,o2⟩:=sizA_ok (fun sz x k sz' => sizF_ok n sz x k sz') _ _ _ _ _ (h.upd _ (.inl rfl)) (by omega) (by omega) h3
     simp only [h3] at e
     by_cases hs:s = -1
     ·rw [if_pos hs] at e
      simp only [Option.some.injEq,Prod.mk.injEq] at e
      obtain ⟨rfl,rfl⟩:=e
      exact ⟨g1,fun f=>absurd rfl f⟩
     ·rw [if_neg hs] at e
      simp only [Option.some.injEq,Prod.mk.injEq] at e
      obtain ⟨rfl,rfl⟩:=e
      obtain ⟨u,hu,hz⟩:=g2 hs
      have hv:Val L J ld (p:Int) (at' J (p:Int) :: u):=by
       have:=val_sym (L:=L) (J:=J) (ld:=ld) (x:=(p:Int)) (by rw [hpp];omega) (u:=u) (by rw [hpp];simpa using hu)
       rwa [hpp] at this
      have hlen:s=min ((at' J (p:Int) :: u).length:Int) 2001:=by rw [hz];simp;omega
      refine ⟨?_,fun _=>⟨_,val_ld (by rw [hpp,hp]) hv,hlen⟩⟩
      intro q hq hqq hsq
      unfold updN at hsq ⊢
      by_cases e:q=p
      ·subst e
       rw [if_pos rfl]
       exact ⟨_,hv,hlen⟩
      ·rw [if_neg e] at hsq ⊢;exact g1 q hq hqq hsq
end Go.Proofs.YtmjgnfkbnofjoaaGreatDoor
namespace Go.Proofs.YtmjgnfkbnofjoaaGreatDoor
set_option maxRecDepth 100000
open Go.RowKit
set_option maxHeartbeats 400000 in
theorem small_any (c:Int) (w:World):Calls Tryz.prog 206 #[.int .u8 c] w fun e w' => e=.returned (.bool (smB c))∧w' = w:=by
 unfold smB
 by_cases h:97≤c
 all_goals
  go_enter Tryz.func206,Tryz.ntmps206
  go_wp2
  go_ret
  exact ⟨by simp [h] <;> omega,rfl⟩
set_option maxHeartbeats 400000 in
theorem digit_any (c:Int) (w:World):Calls Tryz.prog 207 #[.int .u8 c] w fun e w' => e=.returned (.bool (dgB c))∧w' = w:=by
 unfold dgB
 by_cases h:48≤c
 all_goals
  go_enter Tryz.func207,Tryz.ntmps207
  go_wp2
  go_ret
  exact ⟨by simp [h] <;> omega,rfl⟩
set_option maxHeartbeats 400000 in
theorem rsmall_any (c:Int) (w:World):Calls Tryz.prog 134 #[.int .u8 c] w fun e w' => e=.returned (.bool (smB c))∧w' = w:=by
 unfold smB
 by_cases h:97≤c
 all_goals
  go_enter Tryz.func134,Tryz.ntmps134
  go_wp2
  go_ret
  exact ⟨by simp [h] <;> omega,rfl⟩
set_option maxHeartbeats 400000 in
theorem rdigit_any (c:Int) (w:World):Calls Tryz.prog 135 #[.int .u8 c] w fun e w' => e=.returned (.bool (dgB c))∧w' = w:=by
 unfold dgB
 by_cases h:48≤c
 all_goals
  go_enter Tryz.func135,Tryz.ntmps135
  go_wp2
  go_ret
  exact ⟨by simp [h] <;> omega,rfl⟩
def fitB (s:ByteArray):Bool:=decide (1≤s.size) && decide (s.size≤12)
set_option maxHeartbeats 400000 in
theorem fits_any (s:ByteArray) (w:World):Calls Tryz.prog 205 #[.string s] w fun e w' => e=.returned (.bool (fitB s))∧w' = w:=by
 unfold fitB
 by_cases h:1≤s.size
 all_goals
  go_enter Tryz.func205,Tryz.ntmps205
  go_wp2
  go_ret
  exact ⟨by simp [h] <;> omega,rfl⟩
theorem name_of_loop {s : ByteArray} (h1 : 1 ≤ s.size) (h2 : s.size ≤ 12) (h0 : nmAt 0 (s[0].toNat : Int) = true) (h : ∀ j (hj : j < s.size), 1 ≤ j → nmAt j (s[j].toNat : Int) = true) : NameP s :=
  ⟨h1, h2, fun i hi => by by_cases e : i = 0; · subst e; exact h0
                          · exact h i hi (by omega)⟩
set_option maxHeartbeats 1000000 in
theorem isName_any (s:ByteArray) (w:World) (hs:s.size≤maxLen):Calls Tryz.prog 166 #[.string s] w fun e w' => e=.returned (.bool (nameB s))∧w' = w:=by
 unfold maxLen at hs
 by_cases hf:fitB s=true
 ·have hf1:1≤s.size:=by simp [fitB] at hf;omega
  have hf2:s.size≤12:=by simp [fitB] at hf;omega
  by_cases h0:smB (s[0].toNat:Int)=true
  ·go_enter Tryz.func166,Tryz.ntmps166
   go_wp2_with (first | (go_at_call 205;refine (fits_any _ _).mono ?_;rintro e w' ⟨rfl,rfl⟩) | (go_at_call 206;refine (small_any _ _).mono ?_;rintro e w' ⟨rfl,rfl⟩))
   go_loop [3] (fun i=>∃ k:Nat,1≤k∧k≤s.size∧i=.int .i64 k∧∀ j (hj:j<s.size),1≤j→j<k→nmAt j (s[j].toNat:Int)=true) (fun i=>s.size-(intOf i).toNat)
   case atStart=>exact ⟨1,by omega,hf1,rfl,by intro j _ _ _;omega⟩
   case round=>
    obtain ⟨k,hk1,hk,rfl,hal⟩:=hrel
    by_cases hlt:k<s.size
    ·by_cases hsm:smB (s[k].toNat:Int)=true
     ·have hnx:∀ j (hj:j<s.size),1≤j→j<k+1→nmAt j (s[j].toNat:Int)=true:=by
       intro j hj h1 h2
       by_cases e:j=k
       ·subst e;simp [nmAt,hsm]
       ·exact hal j hj h1 (by omega)
      go_wp2_with (first | (go_at_call 206;refine (small_any _ _).mono ?_;rintro e w' ⟨rfl,rfl⟩) | (go_at_call 207;refine (digit_any _ _).mono ?_;rintro e w' ⟨rfl,rfl⟩))
      go_round
      case rel=>exact ⟨k+1,by omega,by omega,by go_num,hnx⟩
      case measure=>simp [intOf];omega
     ·have hsm' : smB (s[k].toNat:Int)=false:=by simpa using hsm
      by_cases hdg:dgB (s[k].toNat:Int)=true
      ·have hnx:∀ j (hj:j<s.size),1≤j→j<k+1→nmAt j (s[j].toNat:Int)=true:=by
        intro j hj h1 h2
        by_cases e:j=k
        ·subst e;simp [nmAt,hdg];omega
        ·exact hal j hj h1 (by omega)
       go_wp2_with (first | (go_at_call 206;refine (small_any _ _).mono ?_;rintro e w' ⟨rfl,rfl⟩) | (go_at_call 207;refine (digit_any _ _).mono ?_;rintro e w' ⟨rfl,rfl⟩))
       go_round
       case rel=>exact ⟨k+1,by omega,by omega,by go_num,hnx⟩
       case measure=>simp [intOf];omega
      ·have hdg' : dgB (s[k].toNat:Int)=false:=by simpa using hdg
       have hno:nameB s=false:=nameB_no fun h=>by have:=h.2.2 k hlt;simp [nmAt,hsm', hdg'] at this
       go_wp2_with (first | (go_at_call 206;refine (small_any _ _).mono ?_;rintro e w' ⟨rfl,rfl⟩) | (go_at_call 207;refine (digit_any _ _).mono ?_;rintro e w' ⟨rfl,rfl⟩))
       go_ret
       exact ⟨ret_bool hno.symm,rfl⟩
    ·have hyes:nameB s=true:=nameB_yes (name_of_loop hf1 hf2 (by simp [nmAt,h0]) fun j hj h1=>hal j hj h1 (by omega))
     go_wp2
     go_ret
     first | exact ⟨rfl,rfl⟩ | exact ⟨ret_bool hyes.symm,rfl⟩
  ·have h0' : smB (s[0].toNat:Int)=false:=by simpa using h0
   have hno:nameB s=false:=nameB_no fun h=>by have:=h.2.2 0 hf1;simp [nmAt,h0'] at this
   go_enter Tryz.func166,Tryz.ntmps166
   go_wp2_with (first | (go_at_call 205;refine (fits_any _ _).mono ?_;rintro e w' ⟨rfl,rfl⟩) | (go_at_call 206;refine (small_any _ _).mono ?_;rintro e w' ⟨rfl,rfl⟩))
   go_ret
   exact ⟨ret_bool hno.symm,rfl⟩
 ·have hf' : fitB s=false:=by simpa using hf
  have hno:nameB s=false:=nameB_no fun h=>hf (by simp [fitB,h.1,h.2.1])
  go_enter Tryz.func166,Tryz.ntmps166
  go_wp2_with (first | (go_at_call 205;refine (fits_any _ _).mono ?_;rintro e w' ⟨rfl,rfl⟩))
  go_ret
  exact ⟨ret_bool hno.symm,rfl⟩
set_option maxHeartbeats 1000000 in
theorem rIsName_any (s:ByteArray) (w:World) (hs:s.size≤maxLen):Calls Tryz.prog 93 #[.string s] w fun e w' => e=.returned (.bool (nameB s))∧w' = w:=by
 unfold maxLen at hs
 by_cases hf1:1≤s.size
 ·by_cases hf2:s.size≤12
  ·go_enter Tryz.func93,Tryz.ntmps93
   go_wp2
   go_loop [3,4,5] (fun i _ _=>∃ k:Nat,k≤s.size∧i=.int .i64 k∧∀ j (hj:j<s.size),j<k→nmAt j (s[j].toNat:Int)=true) (fun i _ _=>s.size-(intOf i).toNat)
   case atStart=>exact ⟨0,Nat.zero_le _,rfl,by intro j _ _;omega⟩
   case round=>
    obtain ⟨k,hk,rfl,hal⟩:=hrel
    by_cases hlt:k<s.size
    ·by_cases hk0:k=0
     ·subst hk0
      by_cases hsmB:smB (s[0].toNat:Int)=true
      ·
       by_cases hdgB:dgB (s[0].toNat:Int)=true
       ·
        have hnx:∀ j (hj:j<s.size),j<0+1→nmAt j (s[j].toNat:Int)=true:=by
         intro j hj h2
         by_cases e:j=0
         ·subst e;simp [nmAt,hsmB,hdgB] <;> omega
         ·exact hal j hj (by omega)
        go_wp2_with (first | (go_at_call 134;refine (rsmall_any _ _).mono ?_;rintro e w' ⟨rfl,rfl⟩) | (go_at_call 135;refine (rdigit_any _ _).mono ?_;rintro e w' ⟨rfl,rfl⟩))
        go_round
        case rel=>exact ⟨0+1,by omega,by go_num,hnx⟩
        case measure=>simp [intOf] <;> omega
       ·have hdgBn:dgB (s[0].toNat:Int)=false:=by simpa using hdgB
        have hnx:∀ j (hj:j<s.size),j<0+1→nmAt j (s[j].toNat:Int)=true:=by
         intro j hj h2
         by_cases e:j=0
         ·subst e;simp [nmAt,hsmB,hdgBn] <;> omega
         ·exact hal j hj (by omega)
        go_wp2_with (first | (go_at_call 134;refine (rsmall_any _ _).mono ?_;rintro e w' ⟨rfl,rfl⟩) | (go_at_call 135;refine (rdigit_any _ _).mono ?_;rintro e w' ⟨rfl,rfl⟩))
        go_round
        case rel=>exact ⟨0+1,by omega,by go_num,hnx⟩
        case measure=>simp [intOf] <;> omega
      ·have hsmBn:smB (s[0].toNat:Int)=false:=by simpa using hsmB
       by_cases hdgB:dgB (s[0].toNat:Int)=true
       ·
        have hno:nameB s=false:=nameB_no fun h=>by have:=h.2.2 0 hlt;simp [nmAt,hsmBn,hdgB] at this
        go_wp2_with (first | (go_at_call 134;refine (rsmall_any _ _).mono ?_;rintro e w' ⟨rfl,rfl⟩) | (go_at_call 135;refine (rdigit_any _ _).mono ?_;rintro e w' ⟨rfl,rfl⟩))
        go_ret
        first | exact ⟨rfl,rfl⟩ | exact ⟨ret_bool hno.symm,rfl⟩
       ·have hdgBn:dgB (s[0].toNat:Int)=false:=by simpa using hdgB
        have hno:nameB s=false:=nameB_no fun h=>by have:=h.2.2 0 hlt;simp [nmAt,hsmBn,hdgBn] at this
        go_wp2_with (first | (go_at_call 134;refine (rsmall_any _ _).mono ?_;rintro e w' ⟨rfl,rfl⟩) | (go_at_call 135;refine (rdigit_any _ _).mono ?_;rintro e w' ⟨rfl,rfl⟩))
        go_ret
        first | exact ⟨rfl,rfl⟩ | exact ⟨ret_bool hno.symm,rfl⟩
     ·have hk0' : ((k:Int) == 0)=false:=by simp;omega
      have hkp:0<k:=by omega
      by_cases hsmB:smB (s[k].toNat:Int)=true
      ·
       by_cases hdgB:dgB (s[k].toNat:Int)=true
       ·
        have hnx:∀ j (hj:j<s.size),j<k+1→nmAt j (s[j].toNat:Int)=true:=by
         intro j hj h2
         by_cases e:j=k
         ·subst e;simp [nmAt,hsmB,hdgB] <;> omega
         ·exact hal j hj (by omega)
        go_wp2_with (first | (go_at_call 134;refine (rsmall_any _ _).mono ?_;rintro e w' ⟨rfl,rfl⟩) | (go_at_call 135;refine (rdigit_any _ _).mono ?_;rintro e w' ⟨rfl,rfl⟩))
        go_round
        case rel=>exact ⟨k+1,by omega,by go_num,hnx⟩
        case measure=>simp [intOf] <;> omega
       ·have hdgBn:dgB (s[k].toNat:Int)=false:=by simpa using hdgB
        have hnx:∀ j (hj:j<s.size),j<k+1→nmAt j (s[j].toNat:Int)=true:=by
         intro j hj h2
         by_cases e:j=k
         ·subst e;simp [nmAt,hsmB,hdgBn] <;> omega
         ·exact hal j hj (by omega)
        go_wp2_with (first | (go_at_call 134;refine (rsmall_any _ _).mono ?_;rintro e w' ⟨rfl,rfl⟩) | (go_at_call 135;refine (rdigit_any _ _).mono ?_;rintro e w' ⟨rfl,rfl⟩))
        go_round
        case rel=>exact ⟨k+1,by omega,by go_num,hnx⟩
        case measure=>simp [intOf] <;> omega
      ·have hsmBn:smB (s[k].toNat:Int)=false:=by simpa using hsmB
       by_cases hdgB:dgB (s[k].toNat:Int)=true
       ·
        have hnx:∀ j (hj:j<s.size),j<k+1→nmAt j (s[j].toNat:Int)=true:=by
         intro j hj h2
         by_cases e:j=k
         ·subst e;simp [nmAt,hsmBn,hdgB] <;> omega
         ·exact hal j hj (by omega)
        go_wp2_with (first | (go_at_call 134;refine (rsmall_any _ _).mono ?_;rintro e w' ⟨rfl,rfl⟩) | (go_at_call 135;refine (rdigit_any _ _).mono ?_;rintro e w' ⟨rfl,rfl⟩))
        go_round
        case rel=>exact ⟨k+1,by omega,by go_num,hnx⟩
        case measure=>simp [intOf] <;> omega
       ·have hdgBn:dgB (s[k].toNat:Int)=false:=by simpa using hdgB
        have hno:nameB s=false:=nameB_no fun h=>by have:=h.2.2 k hlt;simp [nmAt,hsmBn,hdgBn] at this
        go_wp2_with (first | (go_at_call 134;refine (rsmall_any _ _).mono ?_;rintro e w' ⟨rfl,rfl⟩) | (go_at_call 135;refine (rdigit_any _ _).mono ?_;rintro e w' ⟨rfl,rfl⟩))
        go_ret
        first | exact ⟨rfl,rfl⟩ | exact ⟨ret_bool hno.symm,rfl⟩
    ·have hyes:nameB s=true:=nameB_yes ⟨hf1,hf2,fun j hj=>hal j hj (by omega)⟩
     go_wp2
     go_ret
     first | exact ⟨rfl,rfl⟩ | exact ⟨ret_bool hyes.symm,rfl⟩
  ·have hno:nameB s=false:=nameB_no fun h=>hf2 h.2.1
   go_enter Tryz.func93,Tryz.ntmps93
   go_wp2
   go_ret
   first | exact ⟨rfl,rfl⟩ | exact ⟨ret_bool hno.symm,rfl⟩
 ·have hno:nameB s=false:=nameB_no fun h=>hf1 h.1
  go_enter Tryz.func93,Tryz.ntmps93
  go_wp2
  go_ret
  first | exact ⟨rfl,rfl⟩ | exact ⟨ret_bool hno.symm,rfl⟩
set_option maxHeartbeats 400000 in
theorem new_any (w:World):Calls Tryz.prog 73 #[] w fun e w' => e=.returned (.pointer (some ⟨w.heap.size,0,none⟩))∧w' = w.alloc (.cells #[.slice none 0 0,.map none] 111):=by
 go_enter Tryz.func73,Tryz.ntmps73
 go_wp2
 go_ret
 exact ⟨rfl,rfl⟩
theorem sig_new (w:World):SigAt (w.alloc (.cells #[.slice none 0 0,.map none] 111)) w.heap.size [] (.slice none 0 0) none:=
 ⟨heap_alloc_new w _,World.ownsRow_nil _ _ _ _,rfl,by simp [Value.ownBlock],by simp,by simp⟩
set_option maxHeartbeats 400000 in
theorem has_any {w:World} {b:Nat} {L:List Sym} {sv:Value} {mr:Option Nat} (h:SigAt w b L sv mr) (s:ByteArray) (hs:s.size≤maxLen) :
  Calls Tryz.prog 167 #[.pointer (some ⟨b,0,none⟩),.string s] w fun e w' => e=.returned (.bool (findI L s).isSome)∧w' = w:=by
 have c1:w.cell? ⟨b,1,none⟩=some (.map mr):=cellAt h.blk 1
 have hl:=h.map.look hs
 go_enter Tryz.func167,Tryz.ntmps167
 go_wp2
 go_ret
 exact ⟨rfl,rfl⟩
set_option maxHeartbeats 400000 in
theorem len_any {w:World} {b:Nat} {L:List Sym} {sv:Value} {mr:Option Nat} (h:SigAt w b L sv mr) :
  Calls Tryz.prog 17 #[.pointer (some ⟨b,0,none⟩)] w fun e w' => e=.returned (.int .i64 (L.length:Int))∧w' = w:=by
 obtain ⟨ao,cap,rfl⟩:=h.sv
 have c0:w.cell? ⟨b,0,none⟩=some (.slice ao L.length cap):=cellAt h.blk 0
 go_enter Tryz.func17,Tryz.ntmps17
 go_wp2
 go_ret
 exact ⟨rfl,rfl⟩
set_option maxHeartbeats 1000000 in
theorem refusal_any {w:World} {b:Nat} {L:List Sym} {sv:Value} {mr:Option Nat} (h:SigAt w b L sv mr) (x:Sym) (hs:x.name.size≤maxLen) :
  Calls Tryz.prog 118 #[.pointer (some ⟨b,0,none⟩),.agg #[.string x.name,.int .i64 x.ar,.bool x.df]] w fun e w' => e=.returned (.int .i64 (addErr L x))∧w' = w.alloc (.cells #[.string x.name,.int .i64 x.ar,.bool x.df] 60):=by
 have h1:SigAt (w.alloc (.cells #[.string x.name,.int .i64 x.ar,.bool x.df] 60)) b L sv mr:=h.kept (Kept.alloc (Kept.refl (fun _=>False) w) _) (fun _ _ f=>f)
 have hlen:=h.len
 cases hn:nameB x.name with
 | false=>
  have he:addErr L x=10:=by simp [addErr,hn]
  go_enter Tryz.func118,Tryz.ntmps118
  go_wp2_with (first | (go_at_call 166;refine (isName_any _ _ hs).mono ?_;rintro e w' ⟨rfl,rfl⟩))
  go_ret
  exact ⟨ret_int he.symm,rfl⟩
 | true=>
  by_cases ha:x.ar<0
  ·have he:addErr L x=11:=by simp [addErr,hn,ha]
   go_enter Tryz.func118,Tryz.ntmps118
   go_wp2_with (first | (go_at_call 166;refine (isName_any _ _ hs).mono ?_;rintro e w' ⟨rfl,rfl⟩))
   go_ret
   exact ⟨ret_int he.symm,rfl⟩
  ·by_cases hb:6<x.ar
   ·have he:addErr L x=11:=by simp [addErr,hn,hb]
    go_enter Tryz.func118,Tryz.ntmps118
    go_wp2_with (first | (go_at_call 166;refine (isName_any _ _ hs).mono ?_;rintro e w' ⟨rfl,rfl⟩))
    go_ret
    exact ⟨ret_int he.symm,rfl⟩
   ·cases hf:(findI L x.name).isSome with
    | true=>
     have he:addErr L x=12:=by simp [addErr,hn,ha,hb,hf]
     go_enter Tryz.func118,Tryz.ntmps118
     go_wp2_with (first | (go_at_call 166;refine (isName_any _ _ hs).mono ?_;rintro e w' ⟨rfl,rfl⟩) | (go_at_call 167;refine (has_any h1 _ hs).mono ?_;rintro e w' ⟨rfl,rfl⟩))
     go_ret
     exact ⟨ret_int he.symm,rfl⟩
    | false=>
     by_cases hm:64≤L.length
     ·have he:addErr L x=13:=by simp [addErr,hn,ha,hb,hf,hm]
      go_enter Tryz.func118,Tryz.ntmps118
      go_wp2_with (first | (go_at_call 166;refine (isName_any _ _ hs).mono ?_;rintro e w' ⟨rfl,rfl⟩) | (go_at_call 167;refine (has_any h1 _ hs).mono ?_;rintro e w' ⟨rfl,rfl⟩) | (go_at_call 17;refine (len_any h1).mono ?_;rintro e w' ⟨rfl,rfl⟩))
      go_ret
      exact ⟨ret_int he.symm,rfl⟩
     ·have he:addErr L x=0:=by simp [addErr,hn,ha,hb,hf,hm]
      go_enter Tryz.func118,Tryz.ntmps118
      go_wp2_with (first | (go_at_call 166;refine (isName_any _ _ hs).mono ?_;rintro e w' ⟨rfl,rfl⟩) | (go_at_call 167;refine (has_any h1 _ hs).mono ?_;rintro e w' ⟨rfl,rfl⟩) | (go_at_call 17;refine (len_any h1).mono ?_;rintro e w' ⟨rfl,rfl⟩))
      go_ret
      exact ⟨ret_int he.symm,rfl⟩
end Go.Proofs.YtmjgnfkbnofjoaaGreatDoor
