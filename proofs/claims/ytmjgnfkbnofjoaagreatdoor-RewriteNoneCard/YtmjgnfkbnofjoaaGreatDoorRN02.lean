import Derived.WalkKit
import Derived.Test.YtmjgnfkbnofjoaaGreatDoorRN01
import Derived.WalkLawsBesides
import Derived.Deep.RegionLaw
import Derived.Deep.DeepCutAuto
import Derived.Deep.DrawnRows
import Derived.Deep.Strs
namespace Go.Proofs.YtmjgnfkbnofjoaaGreatDoor
open Go.Proofs.Tryz
set_option maxRecDepth 100000
set_option linter.unusedVariables false
set_option maxHeartbeats 2000000
variable {s:ByteArray} {v x:Int} {ld nx:Int->Int} {J t u xs:List Int} {r:List Nat} {L:List Sym} {M N b base bm cap gg i k n p p0 rb:Nat} {f sz:Nat->Int} {S:Nat->Prop} {ao:Option Addr} {mr:Option Nat} {rv sv:Value} {w w' w1 wc:World}
def Ku (sz:Nat->Int) (p:Nat) (v:Int):Nat->Int:=λ k=>if k=p then v else sz k
def Zaz (f:(Nat->Int)->Int->Option (Int × (Nat->Int))):List Nat->Int->(Nat->Int)->Option (Int × (Nat->Int))
 | [],s,sz=>some (s,sz)
 | x :: r,s,sz=>
  match f sz (x:Int) with
  | none=>none
  | some (k,sz')=>if k = -1 then some (-1,sz') else Zaz f r (min (s+k) 2001) sz'
def Zl (L:List Sym) (J:List Int) (p:Nat):List Nat:=Zq L J (arN L (at' J p)) (p+1)
def Vw (L:List Sym) (J:List Int) (ld:Int->Int):Nat->(Nat->Int)->Int->Option (Int × (Nat->Int))
 | 0,_,_=>none
 | n+1,sz,x=>
  if ld x<0 then some (1,sz)
  else if sz (ld x).toNat≠0 then some (sz (ld x).toNat,sz)
  else match Zaz (Vw L J ld n) (Zl L J (ld x).toNat) 1 (Ku sz (ld x).toNat (-1)) with
   | none=>none
   | some (s,sz')=>if s = -1 then some (-1,sz') else some (s,Ku sz' (ld x).toNat s)
def Vs (f:Int->Option (List Int)):List Nat->Option (List Int)
 | []=>some []
 | x :: r=>
  match f (x:Int) with
  | none=>none
  | some a=>
   match Vs f r with
   | none=>none
   | some b=>some (a++b)
def tmF (L:List Sym) (J:List Int) (ld:Int->Int):Nat->Int->Option (List Int)
 | 0,_=>none
 | d+1,x=>
  if ld x<0 then some [ld x]
  else match Vs (tmF L J ld d) (Zl L J (ld x).toNat) with
   | none=>none
   | some u=>some (at' J (ld x) :: u)
theorem Zb3 {f g:Int->Option (List Int)} (h:∀ x u,f x=some u->g x=some u):∀ (l:List Nat) (u:List Int),Vs f l=some u->Vs g l=some u
 | [],u,e=>e
 | x :: r,u,e=>by
  unfold Vs at e ⊢;cases h1:f (x:Int) with
  | none=>simp [h1] at e
  | some a=>
   cases h2:Vs f r with
   | none=>simp [h1,h2] at e
   | some b=>
    simp only [h1,h2] at e;simp only [h _ _ h1,Zb3 h r b h2];exact e
theorem Zvu:∀ {d:Nat} {x:Int} {u:List Int},tmF L J ld d x=some u->tmF L J ld (d+1) x=some u:=by
 intro d
 induction d with
 | zero=>intro x u h;simp [tmF] at h
 | succ d ih=>
  intro x u h;rw [tmF] at h ⊢
  by_cases h1:ld x<0
  ·rw [if_pos h1] at h ⊢;exact h
  ·rw [if_neg h1] at h ⊢
   cases h2:Vs (tmF L J ld d) (Zl L J (ld x).toNat) with
   | none=>simp [h2] at h
   | some v=>
    simp only [h2] at h;rw [Zb3 (λ y w hy=>ih hy) _ _ h2];exact h
theorem Znp {ld : Int -> Int} {d d' : Nat} (hd : d <= d') (h : tmF L J ld d x = some u) : tmF L J ld d' x = some u := by
  induction d' with
  | zero => obtain rfl : d = 0 := by omega
            exact h
  | succ k ih =>
    by_cases e : d = k + 1
    · subst e; exact h
    · exact Zvu (ih (by omega))
def Val (L:List Sym) (J:List Int) (ld:Int->Int) (x:Int) (u:List Int):Prop:=∃ d,tmF L J ld d x=some u
theorem Val.uniq {v:List Int} (h:Val L J ld x u) (k:Val L J ld x v):u=v:=by
 obtain ⟨d,hd⟩:=h;obtain ⟨e,he⟩:=k;have h1:=Znp (Nat.le_max_left d e) hd;have h2:=Znp (Nat.le_max_right d e) he;rw [h1] at h2;simpa using h2
def Zl9 (L:List Sym) (J:List Int) (ld:Int->Int) (l:List Nat) (u:List Int):Prop:=∃ d,Vs (tmF L J ld d) l=some u
theorem Zdf (L:List Sym) (J:List Int) (ld:Int->Int):Zl9 L J ld [] []:=⟨0,rfl⟩
theorem Zag {x:Nat} {v:List Int} (h:Val L J ld x u) (k:Zl9 L J ld r v):Zl9 L J ld (x :: r) (u++v):=by
 obtain ⟨d,hd⟩:=h;obtain ⟨e,he⟩:=k;refine ⟨max d e,?_⟩;have h2:=Zb3 (g:=tmF L J ld (max d e)) (λ y w hy=>Znp (Nat.le_max_right d e) hy) _ _ he;simp only [Vs,Znp (Nat.le_max_left d e) hd,h2]
theorem J7 {x:Nat} (h:Zl9 L J ld (x :: r) u):∃ a b,Val L J ld x a∧Zl9 L J ld r b∧u=a++b:=by
 obtain ⟨d,hd⟩:=h;unfold Vs at hd;cases h1:tmF L J ld d (x:Int) with
 | none=>simp [h1] at hd
 | some a=>
  cases h2:Vs (tmF L J ld d) r with
  | none=>simp [h1,h2] at hd
  | some b=>simp only [h1,h2,Option.some.injEq] at hd;exact ⟨a,b,⟨d,h1⟩,⟨d,h2⟩,hd.symm⟩
theorem Ztf (h:ld x<0):Val L J ld x [ld x]:=⟨1,by rw [tmF,if_pos h]⟩
theorem Zsb (h:¬ ld x<0) (hu:Zl9 L J ld (Zl L J (ld x).toNat) u):Val L J ld x (at' J (ld x) :: u):=by
 obtain ⟨d,hd⟩:=hu;exact ⟨d+1,by rw [tmF,if_neg h,hd]⟩
theorem Zg4 (h:¬ ld x<0) (hv:Val L J ld x u):∃ v,u=at' J (ld x) :: v∧Zl9 L J ld (Zl L J (ld x).toNat) v:=by
 obtain ⟨d,hd⟩:=hv;cases d with
 | zero=>simp [tmF] at hd
 | succ d=>
  rw [tmF,if_neg h] at hd;cases h2:Vs (tmF L J ld d) (Zl L J (ld x).toNat) with
  | none=>simp [h2] at hd
  | some v=>simp only [h2,Option.some.injEq] at hd;exact ⟨v,hd.symm,d,h2⟩
theorem Zea {y:Int} (h:ld x=ld y) (hv:Val L J ld x u):Val L J ld y u:=by
 obtain ⟨d,hd⟩:=hv;cases d with
 | zero=>simp [tmF] at hd
 | succ d=>rw [tmF,h] at hd;exact ⟨d+1,by rw [tmF];exact hd⟩
def Zbn (sz:Nat->Int):Prop:=∀ p,sz p = -1∨(0<=sz p∧sz p<=2001)
theorem Zbn.upd (h:Zbn sz) (p:Nat) (hv:v = -1∨(0<=v∧v<=2001)):Zbn (Ku sz p v):=λ k=>by
 unfold Ku;split
 ·exact hv
 ·exact h k
theorem Zgz {f:(Nat->Int)->Int->Option (Int × (Nat->Int))} (hf:∀ sz x k sz', Zbn sz->f sz x=some (k,sz')->Zbn sz' ∧ (k = -1∨(1<=k∧k<=2001))):∀ (l:List Nat) (s:Int) (sz:Nat->Int) (k:Int) (sz' : Nat->Int),Zbn sz->1<=s->s<=2001->Zaz f l s sz=some (k,sz')->Zbn sz' ∧ (k = -1∨(1<=k∧k<=2001))
 | [],s,sz,k,sz', h,h1,h2,e=>by
  simp only [Zaz,Option.some.injEq,Prod.mk.injEq] at e;obtain ⟨rfl,rfl⟩:=e;exact ⟨h,.inr ⟨h1,h2⟩⟩
 | x :: r,s,sz,k,sz', h,h1,h2,e=>by
  unfold Zaz at e;cases hx:f sz (x:Int) with
  | none=>simp [hx] at e
  | some v=>
   obtain ⟨k1,sz1⟩:=v;simp only [hx] at e;obtain ⟨g1,g2⟩:=hf _ _ _ _ h hx
   by_cases hk:k1 = -1
   ·rw [if_pos hk] at e
    simp only [Option.some.injEq,Prod.mk.injEq] at e;obtain ⟨rfl,rfl⟩:=e;exact ⟨g1,.inl rfl⟩
   ·rw [if_neg hk] at e
    exact Zgz hf r _ _ _ _ g1 (by omega) (by omega) e
theorem Za3:∀ (n:Nat) (sz:Nat->Int) (x k:Int) (sz' : Nat->Int),Zbn sz->Vw L J ld n sz x=some (k,sz')->Zbn sz' ∧ (k = -1∨(1<=k∧k<=2001)):=by
 intro n
 induction n with
 | zero=>intro sz x k sz' _ e;simp [Vw] at e
 | succ n ih=>
  intro sz x k sz' h e;rw [Vw] at e
  by_cases h1:ld x<0
  ·rw [if_pos h1] at e
   simp only [Option.some.injEq,Prod.mk.injEq] at e;obtain ⟨rfl,rfl⟩:=e;exact ⟨h,.inr ⟨by omega,by omega⟩⟩
  ·rw [if_neg h1] at e
   by_cases h2:sz (ld x).toNat≠0
   ·rw [if_pos h2] at e
    simp only [Option.some.injEq,Prod.mk.injEq] at e;obtain ⟨rfl,rfl⟩:=e;exact ⟨h,by have:=h (ld x).toNat;omega⟩
   ·rw [if_neg h2] at e
    cases h3:Zaz (Vw L J ld n) (Zl L J (ld x).toNat) 1 (Ku sz (ld x).toNat (-1)) with
    | none=>simp [h3] at e
    | some v=>
     obtain ⟨s,sz1⟩:=v;obtain ⟨g1,g2⟩:=Zgz ih _ _ _ _ _ (h.upd _ (.inl rfl)) (by omega) (by omega) h3;simp only [h3] at e
     by_cases hs:s = -1
     ·rw [if_pos hs] at e
      simp only [Option.some.injEq,Prod.mk.injEq] at e;obtain ⟨rfl,rfl⟩:=e;exact ⟨g1,.inl rfl⟩
     ·rw [if_neg hs] at e
      simp only [Option.some.injEq,Prod.mk.injEq] at e;obtain ⟨rfl,rfl⟩:=e;exact ⟨g1.upd _ (by omega),by omega⟩
def unk (N:Nat) (sz:Nat->Int):Nat:=(List.range N).countP (λ p=>decide (sz p=0))
theorem Zpk (hv:v≠0):unk N (Ku sz p v)<=unk N sz:=
 Zdz (λ x _ h=>by
  have h' : Ku sz p v x=0:=of_decide_eq_true h;refine decide_eq_true ?_;unfold Ku at h'
  by_cases e:x=p
  ·rw [if_pos e] at h'; exact absurd h' hv
  ·rw [if_neg e] at h'; exact h')
theorem Zoz (hv:v≠0) (hp:p<N) (h0:sz p=0):unk N (Ku sz p v)<unk N sz:=
 Zib (y:=p) (λ x _ h=>by
  have h' : Ku sz p v x=0:=of_decide_eq_true h;refine decide_eq_true ?_;unfold Ku at h'
  by_cases e:x=p
  ·rw [if_pos e] at h'; exact absurd h' hv
  ·rw [if_neg e] at h'; exact h') (by simpa using hp) (by simpa using h0) (by simp [Ku,hv])
theorem Zby:∀ {k p q:Nat},Zs L J k p q->∀ x∈Zq L J k p,x<J.length
 | 0,p,q,h,x,hx=>by simp [Zq] at hx
 | k+1,p,q,h,x,hx=>by
  obtain ⟨h1,h2,h3⟩:=h.succ;simp only [Zq,List.mem_cons] at hx
  rcases hx with e | e
  ·rw [e];have:=h1.le;omega
  ·exact Zby h3 x e
theorem Yd (hT:Trs L J) (hp:p<J.length):Zs L J (arN L (at' J p)) (p+1) (Zj L J p):=by
 rw [Yl J p hp];exact hT.kids hp
theorem Jb (hT:Trs L J) (hp:p<J.length):∀ x∈Zl L J p,x<J.length:=Zby (Yd hT hp)
theorem Zs8 {f:(Nat->Int)->Int->Option (Int × (Nat->Int))} {m:Nat} (l:List Nat) (hf:∀ sz,unk N sz<m->Zbn sz->∀ x∈l,∃ k sz', f sz (x:Int)=some (k,sz')∧unk N sz' <= unk N sz∧Zbn sz'):∀ (s:Int) (sz:Nat->Int),unk N sz<m->Zbn sz->∃ k sz', Zaz f l s sz=some (k,sz')∧unk N sz' <= unk N sz:=by
 induction l with
 | nil=>intro s sz h h'; exact ⟨s,sz,rfl,Nat.le_refl _⟩
 | cons x r ih=>
  intro s sz h h';obtain ⟨k,sz1,h1,h2,h3⟩:=hf sz h h' x (by simp)
  by_cases hk:k = -1
  ·exact ⟨-1,sz1,by simp [Zaz,h1,hk],h2⟩
  ·obtain ⟨k2,sz2,g1,g2⟩:=ih (λ sz a b y hy=>hf sz a b y (by simp [hy])) (min (s+k) 2001) sz1 (by omega) h3
   exact ⟨k2,sz2,by simp only [Zaz,h1];rw [if_neg hk];exact g1,by omega⟩
theorem Zjz (hT:Trs L J) (hl:Zcl J ld):∀ (n:Nat) (sz:Nat->Int) (x:Int),Z0 J x->Zbn sz->unk J.length sz<n->∃ k sz', Vw L J ld n sz x=some (k,sz')∧unk J.length sz' <= unk J.length sz:=by
 intro n
 induction n with
 | zero=>intro sz x _ _ h;omega
 | succ n ih=>
  intro sz x hx hs hn;rw [Vw]
  by_cases h1:ld x<0
  ·rw [if_pos h1];exact ⟨_,_,rfl,Nat.le_refl _⟩
  ·rw [if_neg h1]
   by_cases h2:sz (ld x).toNat≠0
   ·rw [if_pos h2];exact ⟨_,_,rfl,Nat.le_refl _⟩
   ·rw [if_neg h2]
    have hp:(ld x).toNat<J.length:=by have:=(hl.part x hx).2;omega
    have h0:sz (ld x).toNat=0:=by simpa using h2
    have hlt:=Zoz (N:=J.length) (sz:=sz) (v:=-1) (by omega) hp h0
    obtain ⟨k,sz1,g1,g2⟩:=Zs8 (N:=J.length) (m:=n) (f:=Vw L J ld n) (Zl L J (ld x).toNat) (λ sz a b y hy=>by
     obtain ⟨k,sz', e1,e2⟩:=ih sz y (Zm (Jb hT hp y hy)) b a
     exact ⟨k,sz', e1,e2,(Za3 n _ _ _ _ b e1).1⟩) 1 (Ku sz (ld x).toNat (-1)) (by omega) (hs.upd _ (.inl rfl))
    rw [g1];simp only
    by_cases hk:k = -1
    ·rw [if_pos hk];exact ⟨_,_,rfl,by omega⟩
    ·rw [if_neg hk]
     obtain ⟨_,hkk⟩:=Zgz (λ sz x k sz' => Za3 n sz x k sz') _ _ _ _ _ (hs.upd _ (.inl rfl)) (by omega) (by omega) g1;have:=Zpk (N:=J.length) (sz:=sz1) (p:=(ld x).toNat) (v:=k) (by omega);exact ⟨_,_,rfl,by omega⟩
def Zh0 (L:List Sym) (J:List Int) (ld:Int->Int) (sz:Nat->Int):Prop:=∀ p:Nat,p<J.length->ld p=p->0<sz p->∃ u,Val L J ld p u∧sz p=min (u.length:Int) 2001
theorem Zf0 (hf:∀ sz x k sz', Z0 J x->Zbn sz->Zh0 L J ld sz->Vw L J ld n sz x=some (k,sz')->Zh0 L J ld sz' ∧ (k ≠ -1->∃ u,Val L J ld x u∧k=min (u.length:Int) 2001)):∀ (l:List Nat),(∀ x∈l,x<J.length)->∀ (s0:Int) (n0:Nat) (sz:Nat->Int) (k:Int) (sz' : Nat->Int),Zbn sz->Zh0 L J ld sz->s0=min (n0:Int) 2001->Zaz (Vw L J ld n) l s0 sz=some (k,sz')->Zh0 L J ld sz' ∧ (k ≠ -1->∃ u,Zl9 L J ld l u∧k=min ((n0+u.length:Nat):Int) 2001)
 | [],_,s0,n0,sz,k,sz', h1,h2,h3,e=>by
  simp only [Zaz,Option.some.injEq,Prod.mk.injEq] at e;obtain ⟨rfl,rfl⟩:=e;exact ⟨h2,λ _=>⟨[],Zdf _ _ _,by simpa using h3⟩⟩
 | x :: r,hl,s0,n0,sz,k,sz', h1,h2,h3,e=>by
  unfold Zaz at e;cases hx:Vw L J ld n sz (x:Int) with
  | none=>simp [hx] at e
  | some v=>
   obtain ⟨k1,sz1⟩:=v;simp only [hx] at e;obtain ⟨g1,g2⟩:=hf _ _ _ _ (Zm (hl x (by simp))) h1 h2 hx;have g3:=Za3 n _ _ _ _ h1 hx
   by_cases hk:k1 = -1
   ·rw [if_pos hk] at e
    simp only [Option.some.injEq,Prod.mk.injEq] at e;obtain ⟨rfl,rfl⟩:=e;exact ⟨g1,λ f=>absurd rfl f⟩
   ·rw [if_neg hk] at e
    obtain ⟨u,hu,hku⟩:=g2 hk;have hsum:min (s0+k1) 2001=min ((n0+u.length:Nat):Int) 2001:=by clear g2 g1 g3 e hf;omega
    obtain ⟨f1,f2⟩:=Zf0 hf r (λ y hy=>hl y (by simp [hy])) _ (n0+u.length) _ _ _ g3.1 g1 hsum e;refine ⟨f1,λ hk' => ?_⟩;obtain ⟨u2,hu2,hk2⟩:=f2 hk';exact ⟨u++u2,Zag hu hu2,by rw [hk2,List.length_append];omega⟩
theorem Zgp (hT:Trs L J) (hl:Zcl J ld):∀ (n:Nat) (sz:Nat->Int) (x k:Int) (sz' : Nat->Int),Z0 J x->Zbn sz->Zh0 L J ld sz->Vw L J ld n sz x=some (k,sz')->Zh0 L J ld sz' ∧ (k ≠ -1->∃ u,Val L J ld x u∧k=min (u.length:Int) 2001):=by
 intro n
 induction n with
 | zero=>intro sz x k sz' _ _ _ e;simp [Vw] at e
 | succ n ih=>
  intro sz x k sz' hx h hK e;rw [Vw] at e
  by_cases h1:ld x<0
  ·rw [if_pos h1] at e
   simp only [Option.some.injEq,Prod.mk.injEq] at e;obtain ⟨rfl,rfl⟩:=e;exact ⟨hK,λ _=>⟨_,Ztf h1,by simp only [List.length_singleton];omega⟩⟩
  ·rw [if_neg h1] at e
   obtain ⟨p,hp⟩:=Int.eq_ofNat_of_zero_le (Int.not_lt.1 h1);have hpl:p<J.length:=by have:=(hl.part x hx).2;omega
   have hpp:ld (p:Int)=p:=by
    have:=hl.idem x hx;rw [hp] at this;exact this
   have e1:(ld x).toNat=p:=by omega
   rw [e1] at e
   by_cases h2:sz p≠0
   ·rw [if_pos h2] at e
    simp only [Option.some.injEq,Prod.mk.injEq] at e;obtain ⟨rfl,rfl⟩:=e;refine ⟨hK,λ hk=>?_⟩;obtain ⟨u,hu,hz⟩:=hK p hpl hpp (by have:=h p;omega);exact ⟨u,Zea (by rw [hpp,hp]) hu,hz⟩
   ·rw [if_neg h2] at e
    have h0:sz p=0:=by simpa using h2
    have hK2:Zh0 L J ld (Ku sz p (-1)):=by
     intro q hq hqq hs;unfold Ku at hs ⊢
     by_cases e:q=p
     ·rw [if_pos e] at hs;omega
     ·rw [if_neg e] at hs ⊢;exact hK q hq hqq hs
    cases h3:Zaz (Vw L J ld n) (Zl L J p) 1 (Ku sz p (-1)) with
    | none=>simp [h3] at e
    | some v=>
     obtain ⟨s,sz1⟩:=v;obtain ⟨g1,g2⟩:=Zf0 ih _ (Jb hT hpl) 1 1 _ _ _ (h.upd _ (.inl rfl)) hK2 (by decide) h3;obtain ⟨o1,o2⟩:=Zgz (λ sz x k sz' => Za3 n sz x k sz') _ _ _ _ _ (h.upd _ (.inl rfl)) (by omega) (by omega) h3;simp only [h3] at e
     by_cases hs:s = -1
     ·rw [if_pos hs] at e
      simp only [Option.some.injEq,Prod.mk.injEq] at e;obtain ⟨rfl,rfl⟩:=e;exact ⟨g1,λ f=>absurd rfl f⟩
     ·rw [if_neg hs] at e
      simp only [Option.some.injEq,Prod.mk.injEq] at e;obtain ⟨rfl,rfl⟩:=e;obtain ⟨u,hu,hz⟩:=g2 hs
      have hv:Val L J ld (p:Int) (at' J (p:Int) :: u):=by
       have:=Zsb (L:=L) (J:=J) (ld:=ld) (x:=(p:Int)) (by rw [hpp];omega) (u:=u) (by rw [hpp];simpa using hu)
       rwa [hpp] at this
      have hlen:s=min ((at' J (p:Int) :: u).length:Int) 2001:=by rw [hz];simp;omega
      refine ⟨?_,λ _=>⟨_,Zea (by rw [hpp,hp]) hv,hlen⟩⟩;intro q hq hqq hsq;unfold Ku at hsq ⊢
      by_cases e:q=p
      ·subst e
       rw [if_pos rfl];exact ⟨_,hv,hlen⟩
      ·rw [if_neg e] at hsq ⊢;exact g1 q hq hqq hsq
section
open Go.RowKit
theorem Zah (c:Int) (w:World):Calls prog 206 #[.int .u8 c] w λ e w' => e=.returned (.bool (smB c))∧w' = w:=by
 unfold smB
 by_cases h:97<=c
 all_goals
  go_enter func206,ntmps206
  go_wp2;go_ret;exact ⟨by simp [h] <;> omega,rfl⟩
theorem Zdl (c:Int) (w:World):Calls prog 207 #[.int .u8 c] w λ e w' => e=.returned (.bool (dgB c))∧w' = w:=by
 unfold dgB
 by_cases h:48<=c
 all_goals
  go_enter func207,ntmps207
  go_wp2;go_ret;exact ⟨by simp [h] <;> omega,rfl⟩
theorem Xx (c:Int) (w:World):Calls prog 134 #[.int .u8 c] w λ e w' => e=.returned (.bool (smB c))∧w' = w:=by
 unfold smB
 by_cases h:97<=c
 all_goals
  go_enter func134,ntmps134
  go_wp2;go_ret;exact ⟨by simp [h] <;> omega,rfl⟩
theorem Xu (c:Int) (w:World):Calls prog 135 #[.int .u8 c] w λ e w' => e=.returned (.bool (dgB c))∧w' = w:=by
 unfold dgB
 by_cases h:48<=c
 all_goals
  go_enter func135,ntmps135
  go_wp2;go_ret;exact ⟨by simp [h] <;> omega,rfl⟩
def Zyh (s:ByteArray):Bool:=decide (1<=s.size) && decide (s.size<=12)
theorem Zhf (s:ByteArray) (w:World):Calls prog 205 #[.string s] w λ e w' => e=.returned (.bool (Zyh s))∧w' = w:=by
 unfold Zyh
 by_cases h:1<=s.size
 all_goals
  go_enter func205,ntmps205
  go_wp2;go_ret;exact ⟨by simp [h] <;> omega,rfl⟩
theorem Zip (h1 : 1 <= s.size) (h2 : s.size <= 12) (h0 : Zck 0 (s[0].toNat : Int) = true) (h : ∀ j (hj : j < s.size), 1 <= j -> Zck j (s[j].toNat : Int) = true) : Zya s :=
  ⟨h1, h2, fun i hi => by by_cases e : i = 0; · subst e; exact h0
                          · exact h i hi (by omega)⟩
theorem Vy (s:ByteArray) (w:World) (hs:s.size<=maxLen):Calls prog 166 #[.string s] w λ e w' => e=.returned (.bool (X0 s))∧w' = w:=by
 unfold maxLen at hs
 by_cases hf:Zyh s=true
 ·have hf1:1<=s.size:=by simp [Zyh] at hf;omega
  have hf2:s.size<=12:=by simp [Zyh] at hf;omega
  by_cases h0:smB (s[0].toNat:Int)=true
  ·go_enter func166,ntmps166
   go_wp2_with (first | (go_at_call 205;refine (Zhf _ _).mono ?_;rintro e w' ⟨rfl,rfl⟩) | (go_at_call 206;refine (Zah _ _).mono ?_;rintro e w' ⟨rfl,rfl⟩))
   go_loop [3] (λ i=>∃ k:Nat,1<=k∧k<=s.size∧i=.int .i64 k∧∀ j (hj:j<s.size),1<=j->j<k->Zck j (s[j].toNat:Int)=true) (λ i=>s.size-(intOf i).toNat)
   case atStart=>exact ⟨1,by omega,hf1,rfl,by intro j _ _ _;omega⟩
   case round=>
    obtain ⟨k,hk1,hk,rfl,hal⟩:=hrel
    by_cases hlt:k<s.size
    ·by_cases hsm:smB (s[k].toNat:Int)=true
     ·have hnx:∀ j (hj:j<s.size),1<=j->j<k+1->Zck j (s[j].toNat:Int)=true:=by
       intro j hj h1 h2
       by_cases e:j=k
       ·subst e;simp [Zck,hsm]
       ·exact hal j hj h1 (by omega)
      go_wp2_with (first | (go_at_call 206;refine (Zah _ _).mono ?_;rintro e w' ⟨rfl,rfl⟩) | (go_at_call 207;refine (Zdl _ _).mono ?_;rintro e w' ⟨rfl,rfl⟩))
      go_round
      case rel=>exact ⟨k+1,by omega,by omega,by go_num,hnx⟩
      case measure=>simp [intOf];omega
     ·have hsm' : smB (s[k].toNat:Int)=false:=by simpa using hsm
      by_cases hdg:dgB (s[k].toNat:Int)=true
      ·have hnx:∀ j (hj:j<s.size),1<=j->j<k+1->Zck j (s[j].toNat:Int)=true:=by
        intro j hj h1 h2
        by_cases e:j=k
        ·subst e;simp [Zck,hdg];omega
        ·exact hal j hj h1 (by omega)
       go_wp2_with (first | (go_at_call 206;refine (Zah _ _).mono ?_;rintro e w' ⟨rfl,rfl⟩) | (go_at_call 207;refine (Zdl _ _).mono ?_;rintro e w' ⟨rfl,rfl⟩))
       go_round
       case rel=>exact ⟨k+1,by omega,by omega,by go_num,hnx⟩
       case measure=>simp [intOf];omega
      ·have hdg' : dgB (s[k].toNat:Int)=false:=by simpa using hdg
       have hno:X0 s=false:=Jn λ h=>by have:=h.2.2 k hlt;simp [Zck,hsm', hdg'] at this
       go_wp2_with (first | (go_at_call 206;refine (Zah _ _).mono ?_;rintro e w' ⟨rfl,rfl⟩) | (go_at_call 207;refine (Zdl _ _).mono ?_;rintro e w' ⟨rfl,rfl⟩))
       go_ret;exact ⟨Z5 hno.symm,rfl⟩
    ·have hyes:X0 s=true:=Zil (Zip hf1 hf2 (by simp [Zck,h0]) λ j hj h1=>hal j hj h1 (by omega))
     go_wp2;go_ret
     first | exact ⟨rfl,rfl⟩ | exact ⟨Z5 hyes.symm,rfl⟩
  ·have h0' : smB (s[0].toNat:Int)=false:=by simpa using h0
   have hno:X0 s=false:=Jn λ h=>by have:=h.2.2 0 hf1;simp [Zck,h0'] at this
   go_enter func166,ntmps166
   go_wp2_with (first | (go_at_call 205;refine (Zhf _ _).mono ?_;rintro e w' ⟨rfl,rfl⟩) | (go_at_call 206;refine (Zah _ _).mono ?_;rintro e w' ⟨rfl,rfl⟩))
   go_ret;exact ⟨Z5 hno.symm,rfl⟩
 ·have hf' : Zyh s=false:=by simpa using hf
  have hno:X0 s=false:=Jn λ h=>hf (by simp [Zyh,h.1,h.2.1])
  go_enter func166,ntmps166
  go_wp2_with (go_at_call 205;refine (Zhf _ _).mono ?_;rintro e w' ⟨rfl,rfl⟩)
  go_ret;exact ⟨Z5 hno.symm,rfl⟩
theorem Va (s:ByteArray) (w:World) (hs:s.size<=maxLen):Calls prog 93 #[.string s] w λ e w' => e=.returned (.bool (X0 s))∧w' = w:=by
 unfold maxLen at hs
 by_cases hf1:1<=s.size
 ·by_cases hf2:s.size<=12
  ·go_enter func93,ntmps93
   go_wp2
   go_loop [3,4,5] (λ i _ _=>∃ k:Nat,k<=s.size∧i=.int .i64 k∧∀ j (hj:j<s.size),j<k->Zck j (s[j].toNat:Int)=true) (λ i _ _=>s.size-(intOf i).toNat)
   case atStart=>exact ⟨0,Nat.zero_le _,rfl,by intro j _ _;omega⟩
   case round=>
    obtain ⟨k,hk,rfl,hal⟩:=hrel
    by_cases hlt:k<s.size
    ·by_cases hk0:k=0
     ·subst hk0
      by_cases hsmB:smB (s[0].toNat:Int)=true
      ·
       by_cases hdgB:dgB (s[0].toNat:Int)=true
       ·
        have hnx:∀ j (hj:j<s.size),j<0+1->Zck j (s[j].toNat:Int)=true:=by
         intro j hj h2
         by_cases e:j=0
         ·subst e;simp [Zck,hsmB,hdgB] <;> omega
         ·exact hal j hj (by omega)
        go_wp2_with (first | (go_at_call 134;refine (Xx _ _).mono ?_;rintro e w' ⟨rfl,rfl⟩) | (go_at_call 135;refine (Xu _ _).mono ?_;rintro e w' ⟨rfl,rfl⟩))
        go_round
        case rel=>exact ⟨0+1,by omega,by go_num,hnx⟩
        case measure=>simp [intOf] <;> omega
       ·have hdgBn:dgB (s[0].toNat:Int)=false:=by simpa using hdgB
        have hnx:∀ j (hj:j<s.size),j<0+1->Zck j (s[j].toNat:Int)=true:=by
         intro j hj h2
         by_cases e:j=0
         ·subst e;simp [Zck,hsmB,hdgBn] <;> omega
         ·exact hal j hj (by omega)
        go_wp2_with (first | (go_at_call 134;refine (Xx _ _).mono ?_;rintro e w' ⟨rfl,rfl⟩) | (go_at_call 135;refine (Xu _ _).mono ?_;rintro e w' ⟨rfl,rfl⟩))
        go_round
        case rel=>exact ⟨0+1,by omega,by go_num,hnx⟩
        case measure=>simp [intOf] <;> omega
      ·have hsmBn:smB (s[0].toNat:Int)=false:=by simpa using hsmB
       by_cases hdgB:dgB (s[0].toNat:Int)=true
       ·
        have hno:X0 s=false:=Jn λ h=>by have:=h.2.2 0 hlt;simp [Zck,hsmBn,hdgB] at this
        go_wp2_with (first | (go_at_call 134;refine (Xx _ _).mono ?_;rintro e w' ⟨rfl,rfl⟩) | (go_at_call 135;refine (Xu _ _).mono ?_;rintro e w' ⟨rfl,rfl⟩))
        go_ret
        first | exact ⟨rfl,rfl⟩ | exact ⟨Z5 hno.symm,rfl⟩
       ·have hdgBn:dgB (s[0].toNat:Int)=false:=by simpa using hdgB
        have hno:X0 s=false:=Jn λ h=>by have:=h.2.2 0 hlt;simp [Zck,hsmBn,hdgBn] at this
        go_wp2_with (first | (go_at_call 134;refine (Xx _ _).mono ?_;rintro e w' ⟨rfl,rfl⟩) | (go_at_call 135;refine (Xu _ _).mono ?_;rintro e w' ⟨rfl,rfl⟩))
        go_ret
        first | exact ⟨rfl,rfl⟩ | exact ⟨Z5 hno.symm,rfl⟩
     ·have hk0' : ((k:Int) == 0)=false:=by simp;omega
      have hkp:0<k:=by omega
      by_cases hsmB:smB (s[k].toNat:Int)=true
      ·
       by_cases hdgB:dgB (s[k].toNat:Int)=true
       ·
        have hnx:∀ j (hj:j<s.size),j<k+1->Zck j (s[j].toNat:Int)=true:=by
         intro j hj h2
         by_cases e:j=k
         ·subst e;simp [Zck,hsmB,hdgB] <;> omega
         ·exact hal j hj (by omega)
        go_wp2_with (first | (go_at_call 134;refine (Xx _ _).mono ?_;rintro e w' ⟨rfl,rfl⟩) | (go_at_call 135;refine (Xu _ _).mono ?_;rintro e w' ⟨rfl,rfl⟩))
        go_round
        case rel=>exact ⟨k+1,by omega,by go_num,hnx⟩
        case measure=>simp [intOf] <;> omega
       ·have hdgBn:dgB (s[k].toNat:Int)=false:=by simpa using hdgB
        have hnx:∀ j (hj:j<s.size),j<k+1->Zck j (s[j].toNat:Int)=true:=by
         intro j hj h2
         by_cases e:j=k
         ·subst e;simp [Zck,hsmB,hdgBn] <;> omega
         ·exact hal j hj (by omega)
        go_wp2_with (first | (go_at_call 134;refine (Xx _ _).mono ?_;rintro e w' ⟨rfl,rfl⟩) | (go_at_call 135;refine (Xu _ _).mono ?_;rintro e w' ⟨rfl,rfl⟩))
        go_round
        case rel=>exact ⟨k+1,by omega,by go_num,hnx⟩
        case measure=>simp [intOf] <;> omega
      ·have hsmBn:smB (s[k].toNat:Int)=false:=by simpa using hsmB
       by_cases hdgB:dgB (s[k].toNat:Int)=true
       ·
        have hnx:∀ j (hj:j<s.size),j<k+1->Zck j (s[j].toNat:Int)=true:=by
         intro j hj h2
         by_cases e:j=k
         ·subst e;simp [Zck,hsmBn,hdgB] <;> omega
         ·exact hal j hj (by omega)
        go_wp2_with (first | (go_at_call 134;refine (Xx _ _).mono ?_;rintro e w' ⟨rfl,rfl⟩) | (go_at_call 135;refine (Xu _ _).mono ?_;rintro e w' ⟨rfl,rfl⟩))
        go_round
        case rel=>exact ⟨k+1,by omega,by go_num,hnx⟩
        case measure=>simp [intOf] <;> omega
       ·have hdgBn:dgB (s[k].toNat:Int)=false:=by simpa using hdgB
        have hno:X0 s=false:=Jn λ h=>by have:=h.2.2 k hlt;simp [Zck,hsmBn,hdgBn] at this
        go_wp2_with (first | (go_at_call 134;refine (Xx _ _).mono ?_;rintro e w' ⟨rfl,rfl⟩) | (go_at_call 135;refine (Xu _ _).mono ?_;rintro e w' ⟨rfl,rfl⟩))
        go_ret
        first | exact ⟨rfl,rfl⟩ | exact ⟨Z5 hno.symm,rfl⟩
    ·have hyes:X0 s=true:=Zil ⟨hf1,hf2,λ j hj=>hal j hj (by omega)⟩
     go_wp2;go_ret
     first | exact ⟨rfl,rfl⟩ | exact ⟨Z5 hyes.symm,rfl⟩
  ·have hno:X0 s=false:=Jn λ h=>hf2 h.2.1
   go_enter func93,ntmps93
   go_wp2;go_ret
   first | exact ⟨rfl,rfl⟩ | exact ⟨Z5 hno.symm,rfl⟩
 ·have hno:X0 s=false:=Jn λ h=>hf1 h.1
  go_enter func93,ntmps93
  go_wp2;go_ret
  first | exact ⟨rfl,rfl⟩ | exact ⟨Z5 hno.symm,rfl⟩
theorem Zx0 (w:World):Calls prog 73 #[] w λ e w' => e=.returned (.pointer (some ⟨w.heap.size,0,none⟩))∧w' = w.alloc (.cells #[.slice none 0 0,.map none] 111):=by
 go_enter func73,ntmps73
 go_wp2;go_ret;exact ⟨rfl,rfl⟩
theorem Zzx (w:World):Yc (w.alloc (.cells #[.slice none 0 0,.map none] 111)) w.heap.size [] (.slice none 0 0) none:=
 ⟨heap_alloc_new w _,World.ownsRow_nil _ _ _ _,rfl,by simp [Value.ownBlock],by simp,by simp⟩
theorem Zlv (h:Yc w b L sv mr) (s:ByteArray) (hs:s.size<=maxLen) :
  Calls prog 167 #[.pointer (some ⟨b,0,none⟩),.string s] w λ e w' => e=.returned (.bool (Yt L s).isSome)∧w' = w:=by
 have c1:w.cell? ⟨b,1,none⟩=some (.map mr):=Zb h.blk 1;have hl:=h.map.look hs
 go_enter func167,ntmps167
 go_wp2;go_ret;exact ⟨rfl,rfl⟩
theorem Zln (h:Yc w b L sv mr) :
  Calls prog 17 #[.pointer (some ⟨b,0,none⟩)] w λ e w' => e=.returned (.int .i64 (L.length:Int))∧w' = w:=by
 obtain ⟨ao,cap,rfl⟩:=h.sv;have c0:w.cell? ⟨b,0,none⟩=some (.slice ao L.length cap):=Zb h.blk 0
 go_enter func17,ntmps17
 go_wp2;go_ret;exact ⟨rfl,rfl⟩
theorem Zdn (h:Yc w b L sv mr) (x:Sym) (hs:x.name.size<=maxLen) :
  Calls prog 118 #[.pointer (some ⟨b,0,none⟩),.agg #[.string x.name,.int .i64 x.ar,.bool x.df]] w λ e w' => e=.returned (.int .i64 (Zp L x))∧w' = w.alloc (.cells #[.string x.name,.int .i64 x.ar,.bool x.df] 60):=by
 have h1:Yc (w.alloc (.cells #[.string x.name,.int .i64 x.ar,.bool x.df] 60)) b L sv mr:=h.kept (Zc.alloc (Zc.refl (λ _=>False) w) _) (λ _ _ f=>f);have hlen:=h.len;cases hn:X0 x.name with
 | false=>
  have he:Zp L x=10:=by simp [Zp,hn]
  go_enter func118,ntmps118
  go_wp2_with (go_at_call 166;refine (Vy _ _ hs).mono ?_;rintro e w' ⟨rfl,rfl⟩)
  go_ret;exact ⟨Z3 he.symm,rfl⟩
 | true=>
  by_cases ha:x.ar<0
  ·have he:Zp L x=11:=by simp [Zp,hn,ha]
   go_enter func118,ntmps118
   go_wp2_with (go_at_call 166;refine (Vy _ _ hs).mono ?_;rintro e w' ⟨rfl,rfl⟩)
   go_ret;exact ⟨Z3 he.symm,rfl⟩
  ·by_cases hb:6<x.ar
   ·have he:Zp L x=11:=by simp [Zp,hn,hb]
    go_enter func118,ntmps118
    go_wp2_with (go_at_call 166;refine (Vy _ _ hs).mono ?_;rintro e w' ⟨rfl,rfl⟩)
    go_ret;exact ⟨Z3 he.symm,rfl⟩
   ·cases hf:(Yt L x.name).isSome with
    | true=>
     have he:Zp L x=12:=by simp [Zp,hn,ha,hb,hf]
     go_enter func118,ntmps118
     go_wp2_with (first | (go_at_call 166;refine (Vy _ _ hs).mono ?_;rintro e w' ⟨rfl,rfl⟩) | (go_at_call 167;refine (Zlv h1 _ hs).mono ?_;rintro e w' ⟨rfl,rfl⟩))
     go_ret;exact ⟨Z3 he.symm,rfl⟩
    | false=>
     by_cases hm:64<=L.length
     ·have he:Zp L x=13:=by simp [Zp,hn,ha,hb,hf,hm]
      go_enter func118,ntmps118
      go_wp2_with (first | (go_at_call 166;refine (Vy _ _ hs).mono ?_;rintro e w' ⟨rfl,rfl⟩) | (go_at_call 167;refine (Zlv h1 _ hs).mono ?_;rintro e w' ⟨rfl,rfl⟩) | (go_at_call 17;refine (Zln h1).mono ?_;rintro e w' ⟨rfl,rfl⟩))
      go_ret;exact ⟨Z3 he.symm,rfl⟩
     ·have he:Zp L x=0:=by simp [Zp,hn,ha,hb,hf,hm]
      go_enter func118,ntmps118
      go_wp2_with (first | (go_at_call 166;refine (Vy _ _ hs).mono ?_;rintro e w' ⟨rfl,rfl⟩) | (go_at_call 167;refine (Zlv h1 _ hs).mono ?_;rintro e w' ⟨rfl,rfl⟩) | (go_at_call 17;refine (Zln h1).mono ?_;rintro e w' ⟨rfl,rfl⟩))
      go_ret;exact ⟨Z3 he.symm,rfl⟩
def Ztx (L:List Sym) (x:Sym):List Sym:=if Zp L x=0 then L ++ [x] else L
def Zy8 (L:List Sym) (x:Sym):Int:=if Zp L x=0 then (L.length:Int) else 0
def Zu6 (w:World) (b:Nat) (sv:Value) (mr:Option Nat) (L' : List Sym) (w' : World):Prop:=
 ∃ sv' mr', Yc w' b L' sv' mr' ∧ Zc (Foot b sv mr) w w' ∧ ∀ k,Foot b sv' mr' k->Foot b sv mr k∨w.heap.size<=k
abbrev Xc (x:Sym):Obj:=.cells #[.string x.name,.int .i64 x.ar,.bool x.df] 60 (0,0)
theorem Zqg (w:World):Zct (w.alloc (.map #[] 0)) (some w.heap.size) []:=
 ⟨0,_,World.ownsMap_made w prog _ _,Nat.le_refl _,λ s=>⟨rfl,λ i h=>by simp [Yt] at h⟩⟩
theorem Zle (mr:Option Nat) (w:World):(binOp .eql 109 (.map mr) (.map none)).run prog w=.ok (.bool mr.isNone) w:=by
 cases mr <;> kernel_rfl
theorem Zoe {W:World} (h:Yc W b L sv none):Yc ((W.alloc (.map #[] 0)).setCell ⟨b,1,none⟩ (.map (some W.heap.size))) b L sv (some W.heap.size):=by
 obtain rfl:L=[]:=h.map;have hb:=Zi h.blk;have h3:Yc (W.alloc (.map #[] 0)) b [] sv none:=h.kept (Zc.alloc (Zc.refl (λ _=>False) _) _) (λ _ _ f=>f);have hk:Zc (λ k=>k=b) (W.alloc (.map #[] 0)) ((W.alloc (.map #[] 0)).setCell ⟨b,1,none⟩ (.map (some W.heap.size))):=Zc.setCell (S:=λ k=>k=b) (p:=⟨b,1,none⟩) (Zc.refl _ _) (λ _=>rfl) _;exact ⟨by rw [Zt h3.blk];rfl,hk.row h3.row (λ k e e' => h.apart (by rw [e,e'])),(Zqg W).kept hk (λ k e e' => by simp at e;omega),h.apart,h.len,h.names⟩
theorem add_zero {x:Sym} (h:Zp L x=0):Yt L x.name=none∧X0 x.name=true∧L.length<64:=by
 unfold Zp at h
 by_cases h1:X0 x.name=false
 ·simp [h1] at h
 ·rw [if_neg h1] at h
  by_cases h2:x.ar<0∨6<x.ar
  ·simp [h2] at h
  ·rw [if_neg h2] at h
   by_cases h3:(Yt L x.name).isSome
   ·simp [h3] at h
   ·rw [if_neg h3] at h
    by_cases h4:64<=L.length
    ·simp [h4] at h
    ·exact ⟨by simpa using h3,by simpa using h1,by omega⟩
theorem add_ar {x:Sym} (h:Zp L x=0):0<=x.ar∧x.ar<=6:=by
 unfold Zp at h
 by_cases h1:X0 x.name=false
 ·simp [h1] at h
 ·rw [if_neg h1] at h
  by_cases h2:x.ar<0∨6<x.ar
  ·simp [h2] at h
  ·omega
theorem Zef {o ob:Obj} {v:Value} (hg:(w.alloc o).drew.grownBy w1 v.ownBlock) (hb:w.heap[b]? = some ob) (hne:v.ownBlock≠some b):w1.heap[b]? = some ob:=by
 have hlt:=Zi hb;rw [hg.block b (by simp;omega) (Ne.symm hne)];exact (heap_alloc_old w o hlt).trans hb
def Zw0 (w:World) (b:Nat) (L:List Sym) (sv:Value) (mr:Option Nat) (bm:Nat) (x:Sym) (w' : World):Prop:=
 ∃ sv', w'.heap[b]? = some (.cells #[sv', .map (some bm)] 111 (0,0))∧w'.ownsRow 0 60 3 sv' (L.length+1) (Zw (L ++ [x]))∧Zct w' (some bm) L∧w'.heap[w.heap.size]? = some (Xc x)∧Zc (Foot b sv mr) w w' ∧ ∀ k,sv'.ownBlock=some k->k≠b∧(sv.ownBlock=some k∨w.heap.size<=k)
theorem Zxy {x:Sym} (h:Yc w b L sv mr) (hsg:Yc wc b L sv (some bm)) (hbx:wc.heap[w.heap.size]? = some (Xc x)) (hkp:Zc (Foot b sv mr) w wc)
  (hown1:w1.ownsRow 0 60 3 (.slice (some ⟨gg,0,none⟩) (L.length+1) cap) (L.length+1) (Zw L ++ [.string x.name,.int .i64 x.ar,.bool x.df]))
  (hgrow:(wc.alloc (Xc x)).drew.grownBy w1 sv.ownBlock) (hat:sv.ownBlock=some gg∨gg=wc.heap.size+1) (hb1:w1.heap[b]? = some (.cells #[sv,.map (some bm)] 111 (0,0))) :
  Zw0 w b L sv mr bm x (w1.setCell ⟨b,0,none⟩ (.slice (some ⟨gg,0,none⟩) (L.length+1) cap)):=by
 have lb:=Zi h.blk;have lbc:=Zi hsg.blk;have lsv:=h.row.lt
 have hgb:gg≠b:=by
  rcases hat with e | e
  ·intro e'; exact hsg.apart (by rw [e,e'])
  ·omega
 obtain ⟨n,D,hm,hn,hall⟩:=hsg.map;obtain ⟨es,clock,hbm,hrest⟩:=hm;have hbmb:bm≠b:=λ e=>by subst e;rw [hsg.blk] at hbm;simp at hbm
 have hbms:sv.ownBlock≠some bm:=λ e=>by
  rcases hsg.row.2 with ⟨rfl,_⟩ | ⟨g,c,cur,rfl,_,hg,_⟩
  ·simp [Value.ownBlock] at e
  ·simp [Value.ownBlock] at e;subst e;rw [hg] at hbm;simp at hbm
 have hk1:Zc (λ k=>sv.ownBlock=some k) wc w1:=Zc.grown (Zc.drew (Zc.alloc (Zc.refl _ wc) _)) hgrow (λ _ e _=>e)
 have hk2:Zc (λ k=>sv.ownBlock=some k∨k=b) wc (w1.setCell ⟨b,0,none⟩ (.slice (some ⟨gg,0,none⟩) (L.length+1) cap)):=
  Zc.setCell (hk1.mono (λ _ _ e=>.inl e)) (λ _=>.inr rfl) _
 have hk3:Zc (λ k=>k=b) w1 (w1.setCell ⟨b,0,none⟩ (.slice (some ⟨gg,0,none⟩) (L.length+1) cap)):=Zc.setCell (S:=λ k=>k=b) (p:=⟨b,0,none⟩) (Zc.refl _ _) (λ _=>rfl) _;refine ⟨_,by rw [Zt hb1];rfl,?_,?_,?_,?_,?_⟩
 ·rw [Zbi];exact hk3.row hown1 (λ k e e' => by simp [Value.ownBlock] at e;omega)
 ·exact ⟨n,D,hk2.map ⟨es,clock,hbm,hrest⟩ (λ e=>e.elim hbms hbmb),hn,hall⟩
 ·exact hk2.at hbx (λ e=>by
   rcases e with e | e
   ·have:=lsv _ e;omega
   ·omega)
 ·exact hkp.trans hk2 (λ i _ e=>e.elim (λ e=>.inr (.inl e)) .inl)
 ·intro k e
  simp [Value.ownBlock] at e;subst e;refine ⟨hgb,hat.imp id (λ e=>?_)⟩;have:=hkp.size;omega
theorem Zzm {x:Sym} {D:DataW Unit} (hf:Yt L x.name=none) (hm:w.ownsMap prog 9 (plainElem prog 3) bm n D) (hn:n<=L.length)
  (hall:∀ s:ByteArray,Maps.has D (.string s.data.toList)=(Yt L s).isSome∧∀ i,Yt L s=some i->D.atKey (.string s.data.toList) (.lit (.int .i64 0))=.lit (.int .i64 (i:Int)))
  (hm' : w'.ownsMap prog 9 (plainElem prog 3) bm (n+1) (D.put (.string x.name.data.toList) (.lit (.int .i64 (L.length:Int))))):Zct w' (some bm) (L ++ [x]):=by
 refine ⟨n+1,_,hm', by simp;omega,λ s=>?_⟩;have hk:WideAt.IsKeyLit (.string x.name.data.toList):=trivial;rw [Zpy]
 by_cases hs:x.name=s
 ·subst hs
  rw [hf,Maps.has_put_same hm.isMap hk,Maps.atKey_put_same hm.isMap hk];simp
 ·have hne:Lit.string s.data.toList≠Lit.string x.name.data.toList:=by
   intro e;apply hs;have e1:s.data.toList=x.name.data.toList:=by simpa using e
   have e2:s.data=x.name.data:=Array.toList_inj.1 e1;cases s;cases hx:x.name;simp_all
  rw [Maps.has_put_other hne,Maps.atKey_put_other hne,(hall s).1];cases hfs:Yt L s with
  | none=>simp [hs]
  | some i=>simpa using (hall s).2 i hfs
theorem Zlj {e:TypeId} {v:Value} {xs:List Value} {es:Array MapEntry} {clock:Nat} (hr:w.ownsRow 0 e 3 v n xs) (hb:w.heap[bm]? = some (.map es clock)):v.ownBlock≠some bm:=λ e=>by
 rcases hr.2 with ⟨rfl,_⟩ | ⟨g,c,cur,rfl,_,hg,_⟩
 ·simp [Value.ownBlock] at e
 ·simp [Value.ownBlock] at e;subst e;rw [hg] at hb;simp at hb
theorem Zys {w2:World} {sv':Value} {x:Sym} {D:DataW Unit} (h:Yc w b L sv mr) (hz:Zp L x=0) (hb:wc.heap[b]? = some (.cells #[sv', .map (some bm)] 111 (0,0)))
  (hrow:wc.ownsRow 0 60 3 sv' (L.length+1) (Zw (L ++ [x]))) (hkp:Zc (Foot b sv mr) w wc) (hft:∀ k,sv'.ownBlock=some k->k≠b∧(sv.ownBlock=some k∨w.heap.size<=k))
  (hm:wc.ownsMap prog 9 (plainElem prog 3) bm n D) (hn:n<=L.length)
  (hall:∀ s:ByteArray,Maps.has D (.string s.data.toList)=(Yt L s).isSome∧∀ i,Yt L s=some i->D.atKey (.string s.data.toList) (.lit (.int .i64 0))=.lit (.int .i64 (i:Int)))
  (hm2:w2.ownsMap prog 9 (plainElem prog 3) bm (n+1) (D.put (.string x.name.data.toList) (.lit (.int .i64 (L.length:Int)))))
  (hturn:wc.drew.mapTurned w2 bm) (hbm:mr=some bm∨w.heap.size<=bm):Zu6 w b sv mr (L ++ [x]) w2:=by
 obtain ⟨hf,hnm,hlen⟩:=add_zero hz;have hk:Zc (λ k=>k=bm) wc w2:=Zc.grown (Zc.drew (Zc.refl _ wc)) hturn.grown (λ k e _=>by simpa using e.symm)
 have hbmb:b≠bm:=by
  obtain ⟨es,clock,hb', _⟩:=hm;intro e;subst e;rw [hb] at hb'; simp at hb'
 have hsb:sv'.ownBlock≠some bm:=by
  obtain ⟨es,clock,hb', _⟩:=hm;exact Zlj hrow hb'
 refine ⟨sv', some bm,⟨hk.at hb hbmb,?_,Zzm hf hm hn hall hm2,λ e=>(hft b e).1 rfl,by simp;omega,?_⟩,?_,?_⟩
 ·have:=hk.row hrow (λ k e e' => hsb (by rw [e,e']))
  simpa using this
 ·intro y hy
  rcases List.mem_append.1 hy with hy | hy
  ·exact h.names y hy
  ·simp at hy;subst hy;exact hnm
 ·refine hkp.trans hk (λ i hi e=>?_)
  subst e
  rcases hbm with e | e
  ·exact .inr (.inr e)
  ·omega
 ·intro k hk'
  rcases hk' with e | e | e
  ·exact .inl (.inl e)
  ·exact (hft k e).2.imp (λ e=>.inr (.inl e)) id
  ·simp at e;subst e;exact hbm.imp (λ e=>.inr (.inr e)) id
theorem add_ok (h:Yc w b L sv mr) (x:Sym) (hs:x.name.size<=maxLen) (hz:Zp L x=0) :
  Calls prog 71 #[.pointer (some ⟨b,0,none⟩),.agg #[.string x.name,.int .i64 x.ar,.bool x.df]] w λ e w' => e=.returned (.tuple #[.int .i64 (L.length:Int),.int .i64 0])∧Zu6 w b sv mr (L ++ [x]) w' := by
 obtain ⟨ao,cap,rfl⟩:=h.sv;have h1:Yc (w.alloc (Xc x)) b L (.slice ao L.length cap) mr:=h.kept (Zc.alloc (Zc.refl (λ _=>False) w) _) (λ _ _ f=>f);have h2:Yc ((w.alloc (Xc x)).alloc (Xc x)) b L (.slice ao L.length cap) mr:=h1.kept (Zc.alloc (Zc.refl (λ _=>False) _) _) (λ _ _ f=>f);have c1:((w.alloc (Xc x)).alloc (Xc x)).cell? ⟨b,1,none⟩=some (.map mr):=Zb h2.blk 1;have f1:((w.alloc (Xc x)).alloc (Xc x)).frozen? ⟨b,1,none⟩=false:=Zg h2.blk 1;have h2box:((w.alloc (Xc x)).alloc (Xc x)).heap[w.heap.size]? = some (Xc x):=by rw [heap_alloc_old _ _ (by simp)];exact heap_alloc_new w _
 have h3:Yc (((w.alloc (Xc x)).alloc (Xc x)).alloc (.map #[] 0)) b L (.slice ao L.length cap) mr:=h2.kept (Zc.alloc (Zc.refl (λ _=>False) _) _) (λ _ _ f=>f);have c3:(((w.alloc (Xc x)).alloc (Xc x)).alloc (.map #[] 0)).cell? ⟨b,1,none⟩=some (.map mr):=Zb h3.blk 1;have f3:(((w.alloc (Xc x)).alloc (Xc x)).alloc (.map #[] 0)).frozen? ⟨b,1,none⟩=false:=Zg h3.blk 1;have hmm:=@run_makeMap prog;have hem:=Zle
 go_enter func71,ntmps71
 go_upto_if 18 with (go_at_call 118;refine (Zdn h1 x hs).mono ?_;rintro e w' ⟨rfl,rfl⟩)
 go_cut [] (λ w' => ∃ bm,Yc w' b L (.slice ao L.length cap) (some bm)∧w'.heap[w.heap.size]? = some (Xc x)∧Zc (Foot b (.slice ao L.length cap) mr) w w' ∧ (mr=some bm∨w.heap.size<=bm))
 case first=>
  cases mr with
  | some bm=>
   go_wp2;go_meet
   case rel=>exact ⟨bm,h2,h2box,Zc.alloc (Zc.alloc (Zc.refl _ w) _) _,.inl rfl⟩
  | none=>
   go_wp2;go_meet
   case rel=>
    refine ⟨w.heap.size+1+1,?_,?_,?_,.inr (by omega)⟩
    ·simpa using Zoe h2
    ·rw [Below.heap_setCell _ _ _ _ (by have:=Zi h.blk;simp;omega),heap_alloc_old _ _ (by simp;omega)];exact h2box
    ·exact Zc.setCell (Zc.alloc (Zc.alloc (Zc.alloc (Zc.refl _ w) _) _) _) (λ _=>.inl rfl) _
 case rest=>
  obtain ⟨bm,hsg,hbx,hkp,hbm⟩:=hcut;have d0:wc.cell? ⟨b,0,none⟩=some (.slice ao L.length cap):=Zb hsg.blk 0
  go_upto_region 7 with fail
  go_cut [] (λ w' => Zw0 w b L (.slice ao L.length cap) mr bm x w')
  case first=>
   obtain ⟨i0,hi0,hz0,hz1,hz2⟩:=info_parts Za2;have hn1:L.length+1<=maxLen:=by have:=h.len;unfold maxLen;omega
   have hn2:(L.length+1) * 32<=140737488355328:=by have:=h.len;omega
   have g0:wc.frozen? ⟨b,0,none⟩=false:=Zg hsg.blk 0;have x0:wc.cell? ⟨w.heap.size,0,none⟩=some (.string x.name):=Zb hbx 0;have x1:wc.cell? ⟨w.heap.size,1,none⟩=some (.int .i64 x.ar):=Zb hbx 1;have x2:wc.cell? ⟨w.heap.size,2,none⟩=some (.bool x.df):=Zb hbx 2;have d0' : (wc.alloc (Xc x)).cell? ⟨b,0,none⟩=some (.slice ao L.length cap):=Zb ((heap_alloc_old wc _ (Zi hsg.blk)).trans hsg.blk) 0
   go_region_law ((refine step_append_lies _ (by rfl) _ _ _ (by rfl) 0 60 i0 _ 3 32 underlying28 hi0 hz0 hz1 hz2 rfl (by omega) (.slice ao L.length cap) L.length (Zw L) (by rfl) ((hsg.row.alloc _).drew) ⟨wc.heap.size,0,none⟩ 1 1 [.string x.name,.int .i64 x.ar,.bool x.df] (by rfl) (by rfl) (World.news_of_block (cs:=#[.string x.name,.int .i64 x.ar,.bool x.df]) (t:=60) (fr:=(0,0)) (heap_alloc_new wc _)) (by simp [Value.oneCell']) (by omega) hn1 hn2 (by omega) (wc.heap.size+1) (by simp) ?_;intro gg cap w1 hown1 hgrow hat hlt;have hb1:=Zef hgrow hsg.blk hsg.apart;have k0:=Zb hb1 0;have k1:=Zg hb1 0;simp only [List.getElem?_toArray,List.getElem?_cons_zero] at k0))
   all_goals
    go_wp2;go_meet
    case rel=>exact Zxy h hsg hbx hkp hown1 hgrow hat hb1
  case rest=>
   obtain ⟨sv', hb,hrow,hmap,hbx,hkp,hft⟩:=hcut;obtain ⟨n,D,hm,hn,hall⟩:=hmap;have hsz:Yt L x.name=none∧X0 x.name=true∧L.length<64:=add_zero hz;obtain ⟨w2,hrun,hm2,hturn⟩:=World.ownsMap.store (w:=wc.drew) hm Zb4 underlying109 (by have:=hsz.2.2;unfold maxLen;omega) (Zkz hs) (plainElem_int underlying3 (a:=(L.length:Int)) (WalkArith.wf_i64 (by have:=hsz.2.2;omega)));have y0:wc.cell? ⟨w.heap.size,0,none⟩=some (.string x.name):=Zb hbx 0;have y1:wc.cell? ⟨b,1,none⟩=some (.map (some bm)):=Zb hb 1
   go_wp2_with fail
   go_region
   all_goals
    go_wp2
    go_ret2
    exact ⟨rfl,Zys h hz hb hrow hkp hft hm hn hall hm2 hturn hbm⟩
theorem add_no (h:Yc w b L sv mr) (x:Sym) (hs:x.name.size<=maxLen) (hz:Zp L x≠0) :
  Calls prog 71 #[.pointer (some ⟨b,0,none⟩),.agg #[.string x.name,.int .i64 x.ar,.bool x.df]] w λ e w' => e=.returned (.tuple #[.int .i64 0,.int .i64 (Zp L x)])∧Zu6 w b sv mr L w' := by
 have h1:Yc (w.alloc (Xc x)) b L sv mr:=h.kept (Zc.alloc (Zc.refl (λ _=>False) w) _) (λ _ _ f=>f);have h2:Yc ((w.alloc (Xc x)).alloc (Xc x)) b L sv mr:=h1.kept (Zc.alloc (Zc.refl (λ _=>False) _) _) (λ _ _ f=>f);have hz' : (Zp L x != 0)=true:=by simpa using hz
 go_enter func71,ntmps71
 go_wp2_with (go_at_call 118;refine (Zdn h1 x hs).mono ?_;rintro e w' ⟨rfl,rfl⟩)
 go_ret2
 exact ⟨rfl,sv,mr,h2,Zc.alloc (Zc.alloc (Zc.refl _ w) _) _,λ k hk=>.inl hk⟩
theorem Zyi (h:Yc w b L sv mr) (x:Sym) (hs:x.name.size<=maxLen) :
  Calls prog 71 #[.pointer (some ⟨b,0,none⟩),.agg #[.string x.name,.int .i64 x.ar,.bool x.df]] w λ e w' => e=.returned (.tuple #[.int .i64 (Zy8 L x),.int .i64 (Zp L x)])∧Zu6 w b sv mr (Ztx L x) w' := by
 by_cases hz:Zp L x=0
 ·rw [Zy8,Ztx,if_pos hz,if_pos hz,hz];exact add_ok h x hs hz
 ·rw [Zy8,Ztx,if_neg hz,if_neg hz];exact add_no h x hs hz
def Own (n:Nat) (w:World) (b:Nat) (L:List Sym):Prop:=∃ sv mr,Yc w b L sv mr∧∀ k,Foot b sv mr k->n<=k
abbrev From (n k:Nat):Prop:=n<=k
theorem Own.kept (h:Own n w b L) (hk:Zc S w w') (hs:∀ k,n<=k->¬ S k):Own n w' b L:=by
 obtain ⟨sv,mr,h1,h2⟩:=h;exact ⟨sv,mr,h1.kept hk (λ k e=>hs k (h2 k e)),h2⟩
theorem Own.add (h:Own n w b L) (hn:n<=w.heap.size) (x:Sym) (hs:x.name.size<=maxLen) :
  Calls prog 71 #[.pointer (some ⟨b,0,none⟩),.agg #[.string x.name,.int .i64 x.ar,.bool x.df]] w λ e w' => e=.returned (.tuple #[.int .i64 (Zy8 L x),.int .i64 (Zp L x)])∧Own n w' b (Ztx L x)∧Zc (From n) w w' := by
 obtain ⟨sv,mr,h1,h2⟩:=h;refine (Zyi h1 x hs).mono ?_;rintro e w' ⟨rfl,sv', mr', h3,h4,h5⟩;exact ⟨rfl,⟨sv', mr', h3,λ k hk=>(h5 k hk).elim (h2 k) (λ e=>by omega)⟩,h4.mono (λ k _ e=>h2 k e)⟩
abbrev aS:Sym:=⟨⟨#[115]⟩,1,false⟩
abbrev aAdd:Sym:=⟨⟨#[97,100,100]⟩,2,true⟩
theorem Yc.sym (h:Yc w b L (.slice ao L.length cap) mr) (hi:i<L.length) :
  ∃ g,ao=some ⟨g,0,none⟩∧g<w.heap.size∧w.cell? ⟨g,i * 3,none⟩=some (.string L[i].name)∧w.cell? ⟨g,i * 3+1,none⟩=some (.int .i64 L[i].ar)∧w.cell? ⟨g,i * 3+2,none⟩=some (.bool L[i].df):=by
 obtain ⟨g,cap', hv,_,hlt⟩:=h.row.form (by omega);obtain ⟨rfl,_,rfl⟩:ao=some ⟨g,0,none⟩∧L.length=L.length∧cap=cap' := by simpa using hv
 have hc:=λ j hj=>h.row.cellAt j hj;obtain ⟨a1,a2,a3⟩:=Kf hi;refine ⟨g,rfl,hlt,?_,?_,?_⟩
 ·rw [hc _ (by omega),a1]
 ·rw [hc _ (by omega),a2]
 ·rw [hc _ (by omega),a3]
theorem Zn4 (h:Yc w b L sv mr) (i:Nat) (hi:i<L.length) :
  Calls prog 128 #[.pointer (some ⟨b,0,none⟩),.int .i64 (i:Int)] w λ e w' => e=.returned (.tuple #[.agg #[.string L[i].name,.int .i64 L[i].ar,.bool L[i].df],.int .i64 0])∧Zc (λ _=>False) w w' := by
 obtain ⟨ao,cap,rfl⟩:=h.sv;have h1:∀ o,Yc (w.alloc o) b L (.slice ao L.length cap) mr:=λ o=>h.kept (Zc.alloc (Zc.refl (λ _=>False) w) _) (λ _ _ f=>f);have c0:∀ o,(w.alloc o).cell? ⟨b,0,none⟩=some (.slice ao L.length cap):=λ o=>Zb (h1 o).blk 0;obtain ⟨g,rfl,hg,x0,x1,x2⟩:=h.sym hi;have hlen:=h.len;have i1:(0:Int)<=(i:Int):=by omega
 have i2:(i:Int)<(L.length:Int):=by omega
 go_enter func128,ntmps128
 go_wp2;exact bodyPost_ret (v:=.tuple #[.agg #[.string L[i].name,.int .i64 L[i].ar,.bool L[i].df],.int .i64 0]) (by simp [results,results128,go_sem]) rfl ⟨rfl,Zc.alloc (Zc.refl _ w) _⟩
theorem Zu3 (h:Yc w b L sv mr) (n:Int) (hn:n<0∨(L.length:Int)<=n) :
  Calls prog 128 #[.pointer (some ⟨b,0,none⟩),.int .i64 n] w λ e w' => e=.returned (.tuple #[.agg #[.string ⟨#[]⟩,.int .i64 0,.bool false],.int .i64 14])∧Zc (λ _=>False) w w' := by
 obtain ⟨ao,cap,rfl⟩:=h.sv;have h1:∀ o,Yc (w.alloc o) b L (.slice ao L.length cap) mr:=λ o=>h.kept (Zc.alloc (Zc.refl (λ _=>False) w) _) (λ _ _ f=>f);have c0:∀ o,(w.alloc o).cell? ⟨b,0,none⟩=some (.slice ao L.length cap):=λ o=>Zb (h1 o).blk 0
 by_cases h0:n<0
 ·go_enter func128,ntmps128
  go_wp2;exact bodyPost_ret (v:=.tuple #[.agg #[.string ⟨#[]⟩,.int .i64 0,.bool false],.int .i64 14]) (by simp [results,results128,go_sem]) rfl ⟨rfl,Zc.alloc (Zc.refl _ w) _⟩
 ·have h2:(L.length:Int)<=n:=by omega
  go_enter func128,ntmps128
  go_wp2;exact bodyPost_ret (v:=.tuple #[.agg #[.string ⟨#[]⟩,.int .i64 0,.bool false],.int .i64 14]) (by simp [results,results128,go_sem]) rfl ⟨rfl,Zc.alloc (Zc.refl _ w) _⟩
end
section
open Go.RowKit
attribute [local go_sem ↓] Go.wp_at_zero Go.wp_at_succ
def Zcx (L:List Sym) (s:ByteArray):Int:=match Yt L s with | some i=>(i:Int) | none=>-1
theorem Zlb (hk:k<L.length) (h:L[k].name=s) (hb:∀ j (hj:j<L.length),j<k->L[j].name≠s):Yt L s=some k:=by
 induction L generalizing k with
 | nil=>simp at hk
 | cons y r ih=>
  simp only [Yt];cases k with
  | zero=>simp at h;simp [h]
  | succ j=>
   have h0:y.name≠s:=hb 0 (by simp) (by omega);rw [if_neg h0,ih (k:=j) (by simpa using hk) (by simpa using h) (λ i hi hij=>by have:=hb (i+1) (by simpa using hi) (by omega);simpa using this)];rfl
theorem Zsf (hb:∀ j (hj:j<L.length),L[j].name≠s):Yt L s=none:=by
 induction L with
 | nil=>rfl
 | cons y r ih=>
  simp only [Yt];have h0:y.name≠s:=hb 0 (by simp);rw [if_neg h0,ih (λ j hj=>by have:=hb (j+1) (by simpa using hj);simpa using this)];rfl
theorem Zto (h:w.ownsRow base 60 3 (.slice ao L.length cap) L.length (Zw L)) (hi:i<L.length) :
  ∃ g,ao=some ⟨g,0,none⟩∧g<w.heap.size∧w.cell? ⟨g,i * 3,none⟩=some (.string L[i].name)∧w.cell? ⟨g,i * 3+1,none⟩=some (.int .i64 L[i].ar)∧w.cell? ⟨g,i * 3+2,none⟩=some (.bool L[i].df):=by
 obtain ⟨g,cap', hv,_,hlt⟩:=h.form (by omega);obtain ⟨rfl,_,rfl⟩:ao=some ⟨g,0,none⟩∧L.length=L.length∧cap=cap' := by simpa using hv
 have hc:=λ j hj=>h.cellAt j hj;obtain ⟨a1,a2,a3⟩:=Kf hi;refine ⟨g,rfl,hlt,?_,?_,?_⟩
 ·rw [hc _ (by omega),a1]
 ·rw [hc _ (by omega),a2]
 ·rw [hc _ (by omega),a3]
theorem Zed {v:Value} (hr:w.ownsRow base 60 3 v L.length (Zw L)) (hlen:L.length<=64) (s:ByteArray) :
  Calls prog 94 #[v,.string s] w λ e w' => e=.returned (.int .i64 (Zcx L s))∧w' = w:=by
 obtain ⟨ao,cap,rfl⟩:=Zf hr
 go_enter func94,ntmps94
 go_wp2
 go_loop [5] (λ i=>∃ k:Nat,k<=L.length∧i=.int .i64 k∧∀ j (hj:j<L.length),j<k->L[j].name≠s) (λ i=>L.length-(intOf i).toNat)
 case atStart=>exact ⟨0,Nat.zero_le _,rfl,λ j _ h=>by omega⟩
 case round=>
  obtain ⟨k,hk,rfl,hal⟩:=hrel
  by_cases hlt:k<L.length
  ·obtain ⟨g,rfl,hg,x0,x1,x2⟩:=Zto hr hlt
   have i1:(0:Int)<=(k:Int):=by omega
   have i2:(k:Int)<(L.length:Int):=by omega
   by_cases he:L[k].name=s
   ·have hf:Zcx L s=(k:Int):=by rw [Zcx,Zlb hlt he hal]
    have HF:Hid (Zcx L s=(k:Int)):=hf;clear hf;go_wp2;go_ret;exact ⟨Z3 HF.out.symm,rfl⟩
   ·have hnx:∀ j (hj:j<L.length),j<k+1->L[j].name≠s:=by
     intro j hj h2
     by_cases e:j=k
     ·subst e;exact he
     ·exact hal j hj (by omega)
    have he' := str_ne he;go_wp2
    go_round
    case rel=>exact ⟨k+1,by omega,by go_num,hnx⟩
    case measure=>simp [intOf];omega
  ·have hf:Zcx L s = -1:=by rw [Zcx,Zsf (λ j hj=>hal j hj (by omega))]
   have HF:Hid (Zcx L s = -1):=hf;clear hf;go_wp2;go_ret;exact ⟨Z3 HF.out.symm,rfl⟩
structure Ju (w:World) (rb:Nat) (L:List Sym) (rv:Value):Prop where
 blk:w.heap[rb]? = some (.cells #[rv] 126 (0,0))
 row:w.ownsRow 0 60 3 rv L.length (Zw L)
 apart:rv.ownBlock≠some rb
def Zd2 (rb:Nat) (rv:Value) (k:Nat):Prop:=k=rb∨rv.ownBlock=some k
theorem Ju.kept (h:Ju w rb L rv) (hk:Zc S w w') (hn:∀ k,Zd2 rb rv k->¬ S k):Ju w' rb L rv:=
 ⟨hk.at h.blk (hn rb (.inl rfl)),hk.row h.row (λ k e=>hn k (.inr e)),h.apart⟩
theorem Ju.c0 (h:Ju w rb L rv):w.cell? ⟨rb,0,none⟩=some rv:=Zb h.blk 0
theorem Ju.f0 (h:Ju w rb L rv):w.frozen? ⟨rb,0,none⟩=false:=Zg h.blk 0
def Zm0 (w:World) (rb:Nat) (rv:Value) (L' : List Sym) (w' : World):Prop:=
 ∃ rv', Ju w' rb L' rv' ∧ Zc (Zd2 rb rv) w w' ∧ ∀ k,Zd2 rb rv' k->Zd2 rb rv k∨w.heap.size<=k
theorem Zou (h:(Yt L s).isSome=true):0<=Zcx L s:=by
 unfold Zcx;cases hf:Yt L s with
 | none=>simp [hf] at h
 | some i=>simp
theorem Zgq (h:(Yt L s).isSome=false):Zcx L s = -1:=by
 unfold Zcx;cases hf:Yt L s with
 | none=>rfl
 | some i=>simp [hf] at h
theorem Zxs (h:Ju w rb L rv) (hlen:L.length<=64) (x:Sym) (hs:x.name.size<=maxLen) (hz:Zp L x≠0) :
  Calls prog 53 #[.pointer (some ⟨rb,0,none⟩),symV x] w λ e w' => e=.returned (.tuple #[.int .i64 0,.int .i64 (Zp L x)])∧Zc (λ _=>False) w w' := by
 have h1:Ju (w.alloc (Xc x)) rb L rv:=h.kept (Zc.alloc (Zc.refl (λ _=>False) w) _) (λ _ _ f=>f);have h2:∀ m,Ju ((w.alloc (Xc x)).drewN m) rb L rv:=λ m=>h1.kept (Zc.drewN (Zc.refl (λ _=>False) _) m) (λ _ _ f=>f);obtain ⟨ao,cap,rfl⟩:=Zf h.row;have c0:=h1.c0;cases hn:X0 x.name with
 | false=>
  have he:Zp L x=10:=by simp [Zp,hn]
  have HE:Hid (Zp L x=10):=he;clear he
  go_enter func53,ntmps53
  go_wp2_with (go_at_call 93;refine (Va _ _ hs).mono ?_;rintro e w' ⟨rfl,rfl⟩)
  go_ret2
  exact ⟨by rw [HE.out];rfl,Zc.alloc (Zc.refl _ w) _⟩
 | true=>
  by_cases ha:x.ar<0
  ·have HE:Hid (Zp L x=11):=by show Zp L x=11;simp [Zp,hn,ha]
   go_enter func53,ntmps53
   go_wp2_with (go_at_call 93;refine (Va _ _ hs).mono ?_;rintro e w' ⟨rfl,rfl⟩)
   go_ret2
   exact ⟨by rw [HE.out];rfl,Zc.alloc (Zc.refl _ w) _⟩
  ·by_cases hb:6<x.ar
   ·have HE:Hid (Zp L x=11):=by show Zp L x=11;simp [Zp,hn,hb]
    go_enter func53,ntmps53
    go_wp2_with (go_at_call 93;refine (Va _ _ hs).mono ?_;rintro e w' ⟨rfl,rfl⟩)
    go_ret2
    exact ⟨by rw [HE.out];rfl,Zc.alloc (Zc.refl _ w) _⟩
   ·cases hf:(Yt L x.name).isSome with
    | true=>
     have HE:Hid (Zp L x=12):=by show Zp L x=12;simp [Zp,hn,ha,hb,hf]
     have hfr:=Zou hf
     go_enter func53,ntmps53
     go_wp2_with (go_at_call 93;refine (Va _ _ hs).mono ?_;rintro e w' ⟨rfl,rfl⟩)
     go_quiet ((go_at_call 94;exact Calls.quiet_of_same (Zed (h2 _).row hlen x.name)));go_wp2
     go_ret2
     exact ⟨by rw [HE.out];rfl,Zc.drewN (Zc.alloc (Zc.refl _ w) _) _⟩
    | false=>
     have hm:64<=L.length:=by
      rcases Nat.lt_or_ge L.length 64 with h | h
      ·exact absurd (by simp [Zp,hn,ha,hb,hf];omega) hz
      ·exact h
     have HE:Hid (Zp L x=13):=by show Zp L x=13;simp [Zp,hn,ha,hb,hf,hm]
     have hfr:=Zgq hf
     go_enter func53,ntmps53
     go_wp2_with (go_at_call 93;refine (Va _ _ hs).mono ?_;rintro e w' ⟨rfl,rfl⟩)
     go_quiet ((go_at_call 94;exact Calls.quiet_of_same (Zed (h2 _).row hlen x.name)));go_wp2
     go_ret2
     exact ⟨by rw [HE.out];rfl,Zc.drewN (Zc.alloc (Zc.refl _ w) _) _⟩
theorem Zvf {x:Sym} (h:Ju w rb L rv) (hrc:Ju wc rb L rv) (hkp:Zc (λ _=>False) w wc)
  (hown1:w1.ownsRow 0 60 3 (.slice (some ⟨gg,0,none⟩) (L.length+1) cap) (L.length+1) (Zw L ++ [.string x.name,.int .i64 x.ar,.bool x.df]))
  (hgrow:(wc.alloc (Xc x)).drew.grownBy w1 rv.ownBlock) (hat:rv.ownBlock=some gg∨gg=wc.heap.size+1) :
  Zm0 w rb rv (L ++ [x]) (w1.setCell ⟨rb,0,none⟩ (.slice (some ⟨gg,0,none⟩) (L.length+1) cap)):=by
 have lb:=Zi h.blk;have lbc:=Zi hrc.blk;have hb1:=Zef hgrow hrc.blk hrc.apart
 have hgb:gg≠rb:=by
  rcases hat with e | e
  ·intro e'; exact h.apart (by rw [e,e'])
  ·omega
 have hk1:Zc (Zd2 rb rv) wc w1:=Zc.grown (Zc.drew (Zc.alloc (Zc.refl _ wc) _)) hgrow (λ _ e _=>.inr e);have hk2:Zc (Zd2 rb rv) wc (w1.setCell ⟨rb,0,none⟩ (.slice (some ⟨gg,0,none⟩) (L.length+1) cap)):=Zc.setCell hk1 (λ _=>.inl rfl) _;have hk3:Zc (λ k=>k=rb) w1 (w1.setCell ⟨rb,0,none⟩ (.slice (some ⟨gg,0,none⟩) (L.length+1) cap)):=Zc.setCell (S:=λ k=>k=rb) (p:=⟨rb,0,none⟩) (Zc.refl _ _) (λ _=>rfl) _;refine ⟨_,⟨by rw [Zt hb1];rfl,?_,by simpa [Value.ownBlock] using hgb⟩,?_,?_⟩
 ·rw [Zbi]
  have:=hk3.row hown1 (λ k e e' => by simp [Value.ownBlock] at e;omega)
  simpa using this
 ·exact (hkp.mono (λ _ _ f=>f.elim)).trans hk2 (λ _ _ e=>e)
 ·intro k hk
  rcases hk with e | e
  ·exact .inl (.inl e)
  ·simp [Value.ownBlock] at e
   subst e
   rcases hat with e | e
   ·exact .inl (.inr e)
   ·right;have:=hkp.size;omega
theorem Zzk (h:Ju w rb L rv) (x:Sym) (hs:x.name.size<=maxLen) (hz:Zp L x=0) :
  Calls prog 53 #[.pointer (some ⟨rb,0,none⟩),symV x] w λ e w' => e=.returned (.tuple #[.int .i64 (L.length:Int),.int .i64 0])∧Zm0 w rb rv (L ++ [x]) w' := by
 have h1:Ju (w.alloc (Xc x)) rb L rv:=h.kept (Zc.alloc (Zc.refl (λ _=>False) w) _) (λ _ _ f=>f);have h2:∀ m,Ju ((w.alloc (Xc x)).drewN m) rb L rv:=λ m=>h1.kept (Zc.drewN (Zc.refl (λ _=>False) _) m) (λ _ _ f=>f);obtain ⟨ao,cap,rfl⟩:=Zf h.row;have c0:=h1.c0;obtain ⟨hf,hn,hm⟩:=add_zero hz;have hlen:L.length<=64:=by omega
 have har:=add_ar hz;have ha:¬ x.ar<0:=by omega
 have hb:¬ 6<x.ar:=by omega
 have hfr:Zcx L x.name = -1:=Zgq (by rw [hf];rfl)
 go_enter func53,ntmps53
 go_wp2_with (go_at_call 93;refine (Va _ _ hs).mono ?_;rintro e w' ⟨rfl,rfl⟩)
 go_quiet ((go_at_call 94;exact Calls.quiet_of_same (Zed (h2 _).row hlen x.name)));have hrc:=h2 nq;have hbx:((w.alloc (Xc x)).drewN nq).heap[w.heap.size]? = some (Xc x):=heap_alloc_new w _;have hkp:Zc (λ _=>False) w ((w.alloc (Xc x)).drewN nq):=Zc.drewN (Zc.alloc (Zc.refl _ w) _) nq;obtain ⟨wc,hwc⟩:∃ wc,(w.alloc (Xc x)).drewN nq=wc:=⟨_,rfl⟩;rw [hwc] at hrc hbx hkp ⊢;clear hwc c0;have d0:=hrc.c0
 go_upto_region 10 with fail
 go_cut [] (λ w' => Zm0 w rb (.slice ao L.length cap) (L ++ [x]) w')
 case first=>
  obtain ⟨i0,hi0,hz0,hz1,hz2⟩:=info_parts Za2;have hn1:L.length+1<=maxLen:=by unfold maxLen;omega
  have hn2:(L.length+1) * 32<=140737488355328:=by omega
  have g0:=hrc.f0;have x0:wc.cell? ⟨w.heap.size,0,none⟩=some (.string x.name):=Zb hbx 0;have x1:wc.cell? ⟨w.heap.size,1,none⟩=some (.int .i64 x.ar):=Zb hbx 1;have x2:wc.cell? ⟨w.heap.size,2,none⟩=some (.bool x.df):=Zb hbx 2;have d0' : (wc.alloc (Xc x)).cell? ⟨rb,0,none⟩=some (.slice ao L.length cap):=Zb ((heap_alloc_old wc _ (Zi hrc.blk)).trans hrc.blk) 0
  go_region_law ((refine step_append_lies _ (by rfl) _ _ _ (by rfl) 0 60 i0 _ 3 32 underlying28 hi0 hz0 hz1 hz2 rfl (by omega) (.slice ao L.length cap) L.length (Zw L) (by rfl) ((hrc.row.alloc _).drew) ⟨wc.heap.size,0,none⟩ 1 1 [.string x.name,.int .i64 x.ar,.bool x.df] (by rfl) (by rfl) (World.news_of_block (cs:=#[.string x.name,.int .i64 x.ar,.bool x.df]) (t:=60) (fr:=(0,0)) (heap_alloc_new wc _)) (by simp [Value.oneCell']) (by omega) hn1 hn2 (by omega) (wc.heap.size+1) (by simp) ?_;intro gg cap w1 hown1 hgrow hat hlt;have hb1:=Zef hgrow hrc.blk hrc.apart;have k0:=Zb hb1 0;have k1:=Zg hb1 0;simp only [List.getElem?_toArray,List.getElem?_cons_zero] at k0))
  all_goals
   go_wp2;go_meet
   case rel=>exact Zvf h hrc hkp hown1 hgrow hat
 case rest=>
  obtain ⟨rv', hr', hk', hf'⟩:=hcut;obtain ⟨ao', cap', rfl⟩:=Zf hr'.row;have r0:=hr'.c0;simp only [List.length_append,List.length_cons,List.length_nil] at r0;go_wp2
  go_ret2
  exact ⟨by simp,_,hr', hk', hf'⟩
theorem Zwd (h:Ju w rb L rv) (hlen:L.length<=64) (x:Sym) (hs:x.name.size<=maxLen) :
  Calls prog 53 #[.pointer (some ⟨rb,0,none⟩),symV x] w λ e w' => e=.returned (.tuple #[.int .i64 (Zy8 L x),.int .i64 (Zp L x)])∧Zm0 w rb rv (Ztx L x) w' := by
 by_cases hz:Zp L x=0
 ·rw [Zy8,Ztx,if_pos hz,if_pos hz,hz];exact Zzk h x hs hz
 ·rw [Zy8,Ztx,if_neg hz,if_neg hz]
  refine (Zxs h hlen x hs hz).mono ?_;rintro e w' ⟨rfl,hk⟩;exact ⟨rfl,rv,h.kept hk (λ _ _ f=>f),hk.mono (λ _ _ f=>f.elim),λ k hk=>.inl hk⟩
end
section
open Go.RowKit Go.Deep
def Xw (w:World) (ao:Option Addr) (len:Nat) (xs:List Sym):Prop:=
 xs.length=len∧(len=0∨∃ b off,ao=some ⟨b,off,none⟩∧b<w.heap.size∧∀ i (h:i<xs.length),w.cell? ⟨b,off+i * 3,none⟩=some (.string xs[i].name)∧w.cell? ⟨b,off+i * 3+1,none⟩=some (.int .i64 xs[i].ar)∧w.cell? ⟨b,off+i * 3+2,none⟩=some (.bool xs[i].df)) ∧
 ∀ x∈xs,x.name.size<=maxLen∧(Lit.int .i64 x.ar).wf=true
theorem Xw.kept {len:Nat} {xs:List Sym} (h:Xw w ao len xs) (hb:Below w.heap.size w w'):Xw w' ao len xs:=by
 obtain ⟨h1,h2,h3⟩:=h;refine ⟨h1,h2.imp id ?_,h3⟩;rintro ⟨b,off,e,hlt,hc⟩;refine ⟨b,off,e,Nat.lt_of_lt_of_le hlt hb.size,λ i hi=>?_⟩;obtain ⟨a1,a2,a3⟩:=hc i hi;exact ⟨by rw [hb.cell hlt];exact a1,by rw [hb.cell hlt];exact a2,by rw [hb.cell hlt];exact a3⟩
section
variable {H : Type} {enc : TypeId × Value -> H} {w : World} {spare : Nat -> Bool} {held : Bool}
end
end
section
open Go.RowKit
attribute [local go_sem ↓] Go.wp_at_zero Go.wp_at_succ
def Zh (w:World) (ao:Option Addr) (xs:List Int):Prop:=
 xs=[]∨∃ b off,ao=some ⟨b,off,none⟩∧b<w.heap.size∧∀ i (h:i<xs.length),w.cell? ⟨b,off+i,none⟩=some (.int .i64 xs[i])
theorem Zh.kept (h:Zh w ao xs) (hk:Zc S w w') (hs:∀ a,ao=some a->¬ S a.block):Zh w' ao xs:=by
 refine h.imp id ?_;rintro ⟨b,off,rfl,hlt,hc⟩;exact ⟨b,off,rfl,Nat.lt_of_lt_of_le hlt hk.size,λ i hi=>(hk.cell (p:=⟨b,off+i,none⟩) hlt (hs ⟨b,off,none⟩ rfl)).trans (hc i hi)⟩
theorem Zh.same (h:Zh w ao xs) (hk:Za w w'):Zh w' ao xs:=h.kept hk (λ _ _ f=>f)
theorem Zh.get (h:Zh w ao xs) (hi:i<xs.length):∃ b off,ao=some ⟨b,off,none⟩∧b<w.heap.size∧w.cell? ⟨b,off+i,none⟩=some (.int .i64 xs[i]):=by
 rcases h with rfl | ⟨b,off,e,hlt,hc⟩
 ·simp at hi
 ·exact ⟨b,off,e,hlt,hc i hi⟩
def Ars (L:List Sym):Prop:=∀ x∈L,0<=x.ar∧x.ar<=6
theorem Vm (h:Ars L) (n:Int):arN L n<=6:=by
 unfold arN;split
 ·omega
 ·split
  ·rename_i x hx
   have:=h x (List.mem_of_getElem? hx);omega
  ·omega
def Sg (n:Nat) (w:World) (b:Nat) (L:List Sym):Prop:=(∃ sv mr,Yc w b L sv mr∧∀ k,Foot b sv mr k->k<n)∧Ars L
theorem Sg.kept (h:Sg n w b L) (hk:Zc S w w') (hs:∀ k,k<n->¬ S k):Sg n w' b L:=by
 obtain ⟨⟨sv,mr,h1,h2⟩,h3⟩:=h;exact ⟨⟨sv,mr,h1.kept hk (λ k e=>hs k (h2 k e)),h2⟩,h3⟩
theorem Sg.same (h:Sg n w b L) (hk:Za w w'):Sg n w' b L:=h.kept hk (λ _ _ f=>f)
def Rl (n:Nat) (w:World) (rv:Value) (L:List Sym):Prop:=w.ownsRow 0 60 3 rv L.length (Zw L)∧(∀ k,rv.ownBlock=some k->k<n)∧Ars L∧L.length<=64
theorem Rl.kept (h:Rl n w rv L) (hk:Zc S w w') (hs:∀ k,k<n->¬ S k):Rl n w' rv L:=
 ⟨hk.row h.1 (λ k e=>hs k (h.2.1 k e)),h.2⟩
theorem Rl.same (h:Rl n w rv L) (hk:Za w w'):Rl n w' rv L:=h.kept hk (λ _ _ f=>f)
theorem Zrs (h:Ars L) (hi:i<L.length):((arN L (i:Int):Nat):Int)=L[i].ar:=by
 have:=(h L[i] (List.getElem_mem hi)).1;rw [arN,if_neg (by omega)];simp [hi];omega
theorem Zwk {n:Int} (hn:n<0∨(L.length:Int)<=n):arN L n=0:=by
 unfold arN
 rcases hn with h | h
 ·simp [h]
 ·rw [if_neg (by omega),List.getElem?_eq_none (by omega)]
theorem Zjc (h:Sg n w b L) (x:Int):Calls prog 201 #[.pointer (some ⟨b,0,none⟩),.int .i64 x] w λ e w' => e=.returned (.int .i64 ((arN L x:Nat):Int))∧Za w w' := by
 obtain ⟨⟨sv,mr,h1,_⟩,ha⟩:=h
 by_cases hx:x<0∨(L.length:Int)<=x
 ·have e1:=Zwk hx
  have H1:Hid (arN L x=0):=e1;clear e1;have c:=Zu3 h1 x hx
  go_enter func201,ntmps201
  go_wp2_with (go_at_call 128;refine c.mono ?_;rintro e w' ⟨rfl,hk⟩)
  go_ret;exact ⟨by rw [H1.out];rfl,hk.alloc _⟩
 ·obtain ⟨i,rfl⟩:∃ i:Nat,x=(i:Int):=⟨x.toNat,by omega⟩
  have hi:i<L.length:=by omega
  have H1:Hid (((arN L (i:Int):Nat):Int)=L[i].ar):=Zrs ha hi;have c:=Zn4 h1 i hi
  go_enter func201,ntmps201
  go_wp2_with (go_at_call 128;refine c.mono ?_;rintro e w' ⟨rfl,hk⟩)
  go_ret;exact ⟨by rw [H1.out];rfl,hk.alloc _⟩
theorem Jt (x:Int) (w:World):Calls prog 155 #[.int .i64 x] w λ e w' => e=.returned (.bool (isV x))∧w' = w:=by
 by_cases h1 : -99<=x
 ·by_cases h2:x <= -1
  ·have H:Hid (isV x=true):=by show _=_;simp [isV];omega
   go_enter func155,ntmps155
   go_wp2;go_ret;exact ⟨by rw [H.out];rfl,rfl⟩
  ·have H:Hid (isV x=false):=by show _=_;simp [isV];omega
   go_enter func155,ntmps155
   go_wp2;go_ret;exact ⟨by rw [H.out];rfl,rfl⟩
 ·have H:Hid (isV x=false):=by show _=_;simp [isV];omega
  go_enter func155,ntmps155
  go_wp2;go_ret;exact ⟨by rw [H.out];rfl,rfl⟩
def Zes (L:List Sym) (x:Int):Int:=if (L.length:Int)<=x then 21 else if x < -99 then 22 else 0
theorem Zw6 (h:Sg n w b L):Calls prog 17 #[.pointer (some ⟨b,0,none⟩)] w λ e w' => e=.returned (.int .i64 (L.length:Int))∧w' = w:=by
 obtain ⟨⟨sv,mr,h1,_⟩,ha⟩:=h;exact Zln h1
theorem Zew (h:Sg n w b L) (x:Int):Calls prog 153 #[.pointer (some ⟨b,0,none⟩),.int .i64 x] w λ e w' => e=.returned (.int .i64 (Zes L x))∧w' = w:=by
 have c:=Zw6 h
 by_cases h1:(L.length:Int)<=x
 ·have H:Hid (Zes L x=21):=by show _=_;simp [Zes,h1]
  go_enter func153,ntmps153
  go_wp2_with (go_at_call 17;refine c.mono ?_;rintro e w' ⟨rfl,rfl⟩)
  all_goals
   go_ret;exact ⟨by rw [H.out];rfl,rfl⟩
 ·by_cases h2:x<0
  ·by_cases h3:x < -99
   ·have H:Hid (Zes L x=22):=by show _=_;simp [Zes,h1,h3]
    have h4:isV x=false:=by simp [isV];omega
    go_enter func153,ntmps153
    go_wp2_with (first | (go_at_call 17;refine c.mono ?_;rintro e w' ⟨rfl,rfl⟩) | (go_at_call 155;refine (Jt _ _).mono ?_;rintro e w' ⟨rfl,rfl⟩))
    all_goals
     go_ret;exact ⟨by rw [H.out];rfl,rfl⟩
   ·have H:Hid (Zes L x=0):=by show _=_;simp [Zes,h1,h3]
    have h4:isV x=true:=by simp [isV];omega
    go_enter func153,ntmps153
    go_wp2_with (first | (go_at_call 17;refine c.mono ?_;rintro e w' ⟨rfl,rfl⟩) | (go_at_call 155;refine (Jt _ _).mono ?_;rintro e w' ⟨rfl,rfl⟩))
    all_goals
     go_ret;exact ⟨by rw [H.out];rfl,rfl⟩
  ·have H:Hid (Zes L x=0):=by show _=_;simp [Zes,h1];omega
   go_enter func153,ntmps153
   go_wp2_with (go_at_call 17;refine c.mono ?_;rintro e w' ⟨rfl,rfl⟩)
   all_goals
    go_ret;exact ⟨by rw [H.out];rfl,rfl⟩
def Kd (w:World) (b n:Nat) (f:Nat->Int):Prop:=∃ cs t,w.heap[b]? = some (.cells cs t (0,0))∧n<=cs.size∧∀ i,i<n->cs[i]? = some (.int .i64 (f i))
theorem Kd.kept (h:Kd w b n f) (hk:Zc S w w') (hs:¬ S b):Kd w' b n f:=by
 obtain ⟨cs,t,h1,h2⟩:=h;exact ⟨cs,t,hk.at h1 hs,h2⟩
theorem Kd.lt (h:Kd w b n f):b<w.heap.size:=by
 obtain ⟨cs,t,h1,h2⟩:=h;exact Zi h1
theorem Kd.cell (h:Kd w b n f) (hi:i<n):w.cell? ⟨b,i,none⟩=some (.int .i64 (f i))∧w.frozen? ⟨b,i,none⟩=false:=by
 obtain ⟨cs,t,h1,_,h2⟩:=h;exact ⟨by rw [Zb h1];exact h2 i hi,Zg h1 i⟩
theorem Kd.set (h:Kd w b n f) (i:Nat) (v:Int):Kd (w.setCell ⟨b,i,none⟩ (.int .i64 v)) b n (λ k=>if k=i then v else f k):=by
 obtain ⟨cs,t,h1,h0,h2⟩:=h;refine ⟨_,t,Zt h1 i _,by simpa using h0,λ k hk=>?_⟩;rw [Array.getElem?_setIfInBounds]
 by_cases e:k=i
 ·subst e;rw [if_pos rfl,if_pos (by omega)];simp
 ·rw [if_neg (λ f=>e f.symm)];simp only [e,if_false];exact h2 k hk
theorem Kd.congr {g:Nat->Int} (h:Kd w b n f) (e:∀ i,i<n->f i=g i):Kd w b n g:=by
 obtain ⟨cs,t,h1,h0,h2⟩:=h;exact ⟨cs,t,h1,h0,λ i hi=>by rw [h2 i hi,e i hi]⟩
structure JB where
 jb:Nat
 lb:Nat
 eb:Nat
 sb:Nat
 zb:Nat
 lcap:Nat
def JB.Foot (B:JB) (k:Nat):Prop:=k=B.jb∨k=B.lb∨k=B.eb∨k=B.sb∨k=B.zb
structure JB.Apart (B:JB):Prop where
 a1:B.jb≠B.lb
 a2:B.jb≠B.eb
 a3:B.jb≠B.sb
 a4:B.jb≠B.zb
 a5:B.sb≠B.lb
 a6:B.sb≠B.eb
 a7:B.sb≠B.zb
 a8:B.zb≠B.lb
 a9:B.zb≠B.eb
def Zep (w:World) (B:JB) (N M:Nat) (nx:Int->Int):Prop:=∃ cs,w.heap[B.jb]? = some (.cells cs 359 (0,0))∧cs.size=203∧cs[0]? = some (.slice (some ⟨B.lb,0,none⟩) N B.lcap)∧cs[1]? = some (.slice (some ⟨B.eb,0,none⟩) M M)∧(∀ v,1<=v->v<199->cs[2+v]? = some (.int .i64 (nx (-(v:Int)))))∧cs[201]? = some (.slice (some ⟨B.sb,0,none⟩) M M)∧cs[202]? = some (.slice (some ⟨B.zb,0,none⟩) M M)
theorem Zep.kept {B:JB} (h:Zep w B N M nx) (hk:Zc S w w') (hs:¬ S B.jb):Zep w' B N M nx:=by
 obtain ⟨cs,h1,h2⟩:=h;exact ⟨cs,hk.at h1 hs,h2⟩
theorem Zep.cells {B:JB} (h:Zep w B N M nx):w.cell? ⟨B.jb,0,none⟩=some (.slice (some ⟨B.lb,0,none⟩) N B.lcap)∧w.cell? ⟨B.jb,1,none⟩=some (.slice (some ⟨B.eb,0,none⟩) M M)∧w.cell? ⟨B.jb,201,none⟩=some (.slice (some ⟨B.sb,0,none⟩) M M)∧w.cell? ⟨B.jb,202,none⟩=some (.slice (some ⟨B.zb,0,none⟩) M M)∧B.jb<w.heap.size:=by
 obtain ⟨cs,h1,h2,h3,h4,h5,h6,h7⟩:=h;exact ⟨by rw [Zb h1];exact h3,by rw [Zb h1];exact h4,by rw [Zb h1];exact h6,by rw [Zb h1];exact h7,Zi h1⟩
theorem Zep.var {B:JB} (h:Zep w B N M nx) {v:Nat} (h1:1<=v) (h2:v<199):w.cell? ⟨B.jb,2+v,none⟩=some (.int .i64 (nx (-(v:Int))))∧w.frozen? ⟨B.jb,2+v,none⟩=false:=by
 obtain ⟨cs,g1,g2,g3,g4,g5,g6,g7⟩:=h;exact ⟨by rw [Zb g1];exact g5 v h1 h2,Zg g1 _⟩
theorem Zep.set {B:JB} (h:Zep w B N M nx) {v:Nat} (h1:1<=v) (h2:v<199) (x:Int):Zep (w.setCell ⟨B.jb,2+v,none⟩ (.int .i64 x)) B N M (λ y=>if y = -(v:Int) then x else nx y):=by
 obtain ⟨cs,g1,g2,g3,g4,g5,g6,g7⟩:=h;refine ⟨_,Zt g1 _ _,by simpa using g2,?_,?_,?_,?_,?_⟩
 ·rw [Array.getElem?_setIfInBounds,if_neg (by omega)];exact g3
 ·rw [Array.getElem?_setIfInBounds,if_neg (by omega)];exact g4
 ·intro k hk1 hk2
  rw [Array.getElem?_setIfInBounds]
  by_cases e:k=v
  ·subst e;rw [if_pos rfl,if_pos (by omega)];simp
  ·rw [if_neg (by omega)];simp only [show ¬ (-(k:Int) = -(v:Int)) by omega,if_false];exact g5 k hk1 hk2
 ·rw [Array.getElem?_setIfInBounds,if_neg (by omega)];exact g6
 ·rw [Array.getElem?_setIfInBounds,if_neg (by omega)];exact g7
theorem Zep.congr {B:JB} {ny:Int->Int} (h:Zep w B N M nx) (e:∀ v:Nat,1<=v->v<199->nx (-(v:Int))=ny (-(v:Int))):Zep w B N M ny:=by
 obtain ⟨cs,g1,g2,g3,g4,g5,g6,g7⟩:=h;exact ⟨cs,g1,g2,g3,g4,λ v a b=>by rw [g5 v a b,e v a b],g6,g7⟩
structure JC (L:List Sym) (B:JB) (w:World) (J:List Int) (nx:Int->Int) (sz:Nat->Int):Prop where
 head:Zep w B J.length J.length nx
 list:Kd w B.lb J.length (λ i=>at' J i)
 ends:Kd w B.eb J.length (λ i=>(Zj L J i:Int))
 same:Kd w B.sb J.length (λ i=>nx i)
 sizes:Kd w B.zb J.length sz
 ap:B.Apart
theorem JC.kept {B:JB} (h:JC L B w J nx sz) (hk:Zc S w w') (hs:∀ k,B.Foot k->¬ S k):JC L B w' J nx sz:=
 ⟨h.head.kept hk (hs _ (.inl rfl)),h.list.kept hk (hs _ (.inr (.inl rfl))),h.ends.kept hk (hs _ (.inr (.inr (.inl rfl)))),h.same.kept hk (hs _ (.inr (.inr (.inr (.inl rfl))))),h.sizes.kept hk (hs _ (.inr (.inr (.inr (.inr rfl))))),h.ap⟩
theorem JC.lt {B:JB} (h:JC L B w J nx sz) (hk:B.Foot k):k<w.heap.size:=by
 rcases hk with e | e | e | e | e <;> subst e
 ·exact h.head.cells.2.2.2.2
 ·exact h.list.lt
 ·exact h.ends.lt
 ·exact h.same.lt
 ·exact h.sizes.lt
def nxA (B:JB) (x:Int):Addr:=if x<0 then ⟨B.jb,2+(-x).toNat,none⟩ else ⟨B.sb,x.toNat,none⟩
def nxB (B:JB) (x:Int):Nat:=if x<0 then B.jb else B.sb
theorem Zq8 (B:JB) (x:Int):(nxA B x).block=nxB B x:=by unfold nxA nxB;split <;> rfl
theorem JC.next {B:JB} (h:JC L B w J nx sz) (hx:Z0 J x):w.cell? (nxA B x)=some (.int .i64 (nx x))∧w.frozen? (nxA B x)=false:=by
 unfold nxA;split
 ·have:=h.head.var (v:=(-x).toNat) (by omega) (by have:=hx.1;omega)
  rw [show -(((-x).toNat:Nat):Int)=x by omega] at this;exact this
 ·have:=h.same.cell (i:=x.toNat) (by have:=hx.2;omega)
  rw [show ((x.toNat:Nat):Int)=x by omega] at this;exact this
theorem JC.put {B:JB} (h:JC L B w J nx sz) (hx:Z0 J x) (v:Int):JC L B (w.setCell (nxA B x) (.int .i64 v)) J (λ y=>if y=x then v else nx y) sz∧Zc (λ k=>k=nxB B x) w (w.setCell (nxA B x) (.int .i64 v)):=by
 have hk:Zc (λ k=>k=nxB B x) w (w.setCell (nxA B x) (.int .i64 v)):=Zc.setCell (Zc.refl _ w) (λ _=>Zq8 B x) _;refine ⟨?_,hk⟩;have ap:=h.ap
 by_cases hn:x<0
 ·have e1:nxB B x=B.jb:=by unfold nxB;rw [if_pos hn]
  have e2:nxA B x=⟨B.jb,2+(-x).toNat,none⟩:=by unfold nxA;rw [if_pos hn]
  have hh:=h.head.set (v:=(-x).toNat) (by omega) (by have:=hx.1;omega) v;rw [show -(((-x).toNat:Nat):Int)=x by omega] at hh;rw [e1] at hk;rw [e2] at hk ⊢;refine ⟨hh,h.list.kept hk (λ e=>ap.a1 e.symm),h.ends.kept hk (λ e=>ap.a2 e.symm),(h.same.kept hk (λ e=>ap.a3 e.symm)).congr ?_,h.sizes.kept hk (λ e=>ap.a4 e.symm),ap⟩;intro i _;rw [if_neg (by omega)]
 ·have e1:nxB B x=B.sb:=by unfold nxB;rw [if_neg hn]
  have e2:nxA B x=⟨B.sb,x.toNat,none⟩:=by unfold nxA;rw [if_neg hn]
  have hh:=h.same.set x.toNat v;rw [e1] at hk;rw [e2] at hk ⊢;refine ⟨(h.head.kept hk ap.a3).congr ?_,h.list.kept hk (λ e=>ap.a5 e.symm),h.ends.kept hk (λ e=>ap.a6 e.symm),hh.congr ?_,h.sizes.kept hk (λ e=>ap.a7 e.symm),ap⟩
  ·intro k h1 h2;rw [if_neg (by omega)]
  ·intro i _
   by_cases e:i=x.toNat
   ·rw [if_pos e,if_pos (by omega)]
   ·rw [if_neg e,if_neg (by omega)]
structure Led (J:List Int) (nx ld:Int->Int) (ρ:Int->Nat):Prop where
 part:∀ x,Z0 J x->Z0 J (nx x)
 lead:∀ x,Z0 J x->ld (nx x)=ld x
 stop:∀ x,Z0 J x->(nx x=x ↔ ld x=x)
 down:∀ x,Z0 J x->nx x≠x->ρ (nx x)<ρ x
theorem Led.halve {ρ:Int->Nat} (h:Led J nx ld ρ) (hx:Z0 J x) (hn:nx x≠x):Led J (λ y=>if y=x then nx (nx x) else nx y) ld ρ∧ρ (nx (nx x))<ρ x:=by
 have p1:=h.part x hx;have d1:=h.down x hx hn
 have d2:ρ (nx (nx x))<=ρ (nx x):=by
  by_cases e:nx (nx x)=nx x
  ·rw [e];exact Nat.le_refl _
  ·exact Nat.le_of_lt (h.down _ p1 e)
 refine ⟨⟨?_,?_,?_,?_⟩,by omega⟩ <;> intro y hy <;> by_cases e:y=x
 ·simp only [e,if_true];exact h.part _ p1
 ·simp only [e,if_false];exact h.part _ hy
 ·simp only [e,if_true];rw [h.lead _ p1,h.lead _ hx]
 ·simp only [e,if_false];exact h.lead _ hy
 ·simp only [e,if_true]
  refine ⟨λ f=>?_,λ f=>absurd ((h.stop x hx).2 f) hn⟩;rw [f] at d2;omega
 ·simp only [e,if_false];exact h.stop _ hy
 ·simp only [e,if_true];intro _;omega
 ·simp only [e,if_false];exact h.down _ hy
theorem Led.join {ρ:Int->Nat} (h:Led J nx ld ρ) {p q:Int} (hp:Z0 J p) (hq:Z0 J q) (lp:ld p=p) (lq:ld q=q) (hpq:p≠q):Led J (λ y=>if y=p then q else nx y) (un p q ld) (λ x=>ρ x+if ld x=p then ρ q+1 else 0):=by
 have u1:∀ x,ld x=p->un p q ld x=q:=λ x e=>by unfold un;rw [if_pos e]
 have u2:∀ x,ld x≠p->un p q ld x=ld x:=λ x e=>by unfold un;rw [if_neg e]
 have lqp:ld q≠p:=by rw [lq];exact λ f=>hpq f.symm
 refine ⟨?_,?_,?_,?_⟩ <;> intro y hy <;> by_cases e:y=p
 ·simp only [e,if_true];exact hq
 ·simp only [e,if_false];exact h.part _ hy
 ·simp only [e,if_true];rw [u2 q lqp,u1 p lp,lq]
 ·simp only [e,if_false]
  have:=h.lead y hy;unfold un;rw [this]
 ·simp only [e,if_true];rw [u1 p lp]
 ·simp only [e,if_false]
  by_cases f:ld y=p
  ·rw [u1 y f]
   refine ⟨λ g=>?_,λ g=>?_⟩
   ·have:=(h.stop y hy).1 g;rw [f] at this;exact absurd this.symm e
   ·rw [<- g,lq] at f;exact absurd f.symm hpq
  ·rw [u2 y f];exact h.stop y hy
 ·simp only [e,if_true];intro _;rw [if_neg lqp,if_pos lp];omega
 ·simp only [e,if_false]
  intro hn;have:=h.down y hy hn;rw [h.lead y hy];omega
def JAt (L:List Sym) (B:JB) (w:World) (J:List Int) (ld:Int->Int) (sz:Nat->Int):Prop:=∃ nx ρ,JC L B w J nx sz∧Led J nx ld ρ
theorem JAt.kept {B:JB} (h:JAt L B w J ld sz) (hk:Zc S w w') (hs:∀ k,B.Foot k->¬ S k):JAt L B w' J ld sz:=by
 obtain ⟨nx,ρ,h1,h2⟩:=h;exact ⟨nx,ρ,h1.kept hk hs,h2⟩
theorem Zke {B:JB} (h:JC L B w J nx sz) (hx:Z0 J x) :
  Calls prog 239 #[.pointer (some ⟨B.jb,0,none⟩),.int .i64 x] w λ e w' => e=.returned (.pointer (some (nxA B x)))∧w' = w:=by
 obtain ⟨c0,c1,c2,c3,c4⟩:=h.head.cells;have h1:=hx.1;have h2:=hx.2;clear h hx
 by_cases hn:x<0
 ·obtain ⟨v,hv⟩:∃ v:Nat,x = -(v:Int):=⟨(-x).toNat,by omega⟩
  subst hv;have e:nxA B (-(v:Int))=⟨B.jb,2+v,none⟩:=by unfold nxA;rw [if_pos hn];congr 2;omega
  rw [e];have i1:(0:Int)<=(v:Int):=by omega
  have i2:(v:Int)<199:=by omega
  go_enter func239,ntmps239
  go_wp2
  go_returns
  exact ⟨rfl,rfl⟩
 ·obtain ⟨v,hv⟩:∃ v:Nat,x=(v:Int):=⟨x.toNat,by omega⟩
  subst hv;have e:nxA B (v:Int)=⟨B.sb,v,none⟩:=by unfold nxA;rw [if_neg hn];congr 1
  rw [e];have i1:(0:Int)<=(v:Int):=by omega
  go_enter func239,ntmps239
  go_wp2
  go_returns
  exact ⟨rfl,rfl⟩
def Zid (L:List Sym) (t:List Int) (p:Nat):Int:=match Zie L t p with | some e=>(e:Int) | none=>-1
theorem Zfq (h:Zie L t p0=(Xv L (k+1) (t.drop p)).map (p + ·)) (hp:p<t.length):Zie L t p0=(Xv L (k+arN L t[p]) (t.drop (p+1))).map (p+1 + ·):=by
 rw [h,List.drop_eq_getElem_cons hp,Xv,Option.map_map];congr 1
 funext x
 simp;omega
theorem Zs5 (h:Zie L t p0=(Xv L 0 (t.drop p)).map (p + ·)):Zid L t p0=(p:Int):=by
 simp [Zid,h,Xa]
theorem Zsy (h:Zie L t p0=(Xv L (k+1) (t.drop p)).map (p + ·)) (hp:t.length<=p):Zid L t p0 = -1:=by
 rw [List.drop_eq_nil_of_le hp] at h;simp [Zid,h,Xv]
theorem Zeo (h:Sg n w b L) (ht:Zh w ao t) (hm:t.length<=2000) (p0:Nat) (hp0:p0<=t.length) :
  Calls prog 154 #[.pointer (some ⟨b,0,none⟩),.slice ao t.length cap,.int .i64 (p0:Int)] w λ e w' => e=.returned (.int .i64 (Zid L t p0))∧Za w w' := by
 have ha:=h.2
 go_enter func154,ntmps154
 go_wp2
 go_loopw [2,7] (λ at' la wr=>∃ p k:Nat,p0<=p∧p<=t.length∧at' = .int .i64 (p:Int)∧la=.int .i64 ((k+1:Nat):Int)∧k<=6 * (p-p0)∧Zie L t p0=(Xv L (k+1) (t.drop p)).map (p + ·)∧Za w wr) (λ at' _ _=>t.length-(intOf at').toNat)
 case atStart=>exact ⟨p0,0,Nat.le_refl _,hp0,rfl,rfl,by omega,rfl,Zc.refl _ _⟩
 case round=>
  obtain ⟨p,k,h1,h2,rfl,rfl,h3,h4,hk⟩:=hrel
  by_cases hlt:p<t.length
  ·obtain ⟨tb,off,rfl,htb,hc⟩:=(ht.same hk).get hlt
   have c:=Zjc (h.same hk) t[p];have hle:=Vm ha t[p];have h5:=Zfq h4 hlt;have H5:Hid (Zie L t p0=(Xv L (k+arN L t[p]) (t.drop (p+1))).map (p+1 + ·)):=h5;clear h5 h4;have i1:(0:Int)<=(p:Int):=by omega
   have i2:(p:Int)<(t.length:Int):=by omega
   generalize arN L t[p]=a at *
   by_cases hz:k+a=0
   ·have z1:((k:Int)+1+((a:Int)-1) == 0)=true:=by simp;omega
    have H6:Hid (Zid L t p0=(p:Int)+1):=by
     have H5:=H5.out;rw [hz] at H5;have:=Zs5 H5;show _=_;rw [this];simp
    go_wp2_with (go_at_call 201;refine c.mono ?_;rintro e w' ⟨rfl,hk1⟩)
    go_ret;exact ⟨Z3 H6.out.symm,hk.trans' hk1⟩
   ·have z1:((k:Int)+1+((a:Int)-1) == 0)=false:=by simp;omega
    go_wp2_with (go_at_call 201;refine c.mono ?_;rintro e w' ⟨rfl,hk1⟩)
    refine ⟨⟨p+1,k+a-1,by omega,by omega,by go_num,by congr 1;omega,by omega,?_,hk.trans' hk1⟩,by simp [intOf];omega⟩;rw [show k+a-1+1=k+a by omega];exact H5.out
  ·have H6:Hid (Zid L t p0 = -1):=Zsy h4 (by omega)
   go_wp2;go_ret;exact ⟨Z3 H6.out.symm,hk⟩
theorem Zi6 (hp:p<t.length) (h:Ks L (t.take p)=0):(Zes L t[p]≠0->Ks L t=Zes L t[p])∧(Zes L t[p]=0->Ks L (t.take (p+1))=0):=by
 have e:t=t.take p++(t[p] :: t.drop (p+1)):=by rw [<- List.drop_eq_getElem_cons hp,List.take_append_drop]
 constructor
 ·intro hn
  have h2:=Zei L (t.take p) (t[p] :: t.drop (p+1)) h;rw [<- e] at h2;rw [h2,Ks];unfold Zes at hn ⊢
  by_cases q1:(L.length:Int)<=t[p]
  ·rw [if_pos q1,if_pos q1]
  ·rw [if_neg q1,if_neg q1]
   rw [if_neg q1] at hn
   by_cases q2:t[p] < -99
   ·rw [if_pos q2,if_pos q2]
   ·rw [if_neg q2] at hn;exact absurd rfl hn
 ·intro hn
  rw [List.take_add_one,Zei _ _ _ h,List.getElem?_eq_getElem hp]
  simpa [Ks,Zes] using hn
theorem Zdk (h:2000<t.length):Zd L t=20:=by simp [Zd,h]
theorem Zb6 (h:¬ 2000<t.length) (hb:Ks L t≠0):Zd L t=Ks L t:=by simp [Zd,h,hb]
theorem Zph (h:¬ 2000<t.length) (hb:Ks L t=0):Zd L t=if Zid L t 0=(t.length:Int) then 0 else 23:=by
 have e:Zid L t 0=(t.length:Int) ↔ Yk L 1 t=some 0:=by
  constructor
  ·intro h
   unfold Zid Zie at h;cases hs:Xv L 1 t with
   | none=>simp [hs] at h
   | some m=>
    simp [hs] at h;obtain rfl:m=t.length:=by omega
    have:=(Vn hs).2
    simpa using this
  ·intro h
   have:=X1 (b:=[]) h;rw [List.append_nil] at this;simp [Zid,Zie,this]
 simp only [Zd,h,hb,if_false,ne_eq,not_true,e]
theorem Xn (h:Sg n w b L) (ht:Zh w ao t) (hm:t.length<=maxLen) :
  Calls prog 104 #[.pointer (some ⟨b,0,none⟩),.slice ao t.length cap] w λ e w' => e=.returned (.int .i64 (Zd L t))∧Za w w' := by
 unfold maxLen at hm
 by_cases hl:2000<t.length
 ·have H:Hid (Zd L t=20):=Zdk hl
  go_enter func104,ntmps104
  go_wp2;go_ret;exact ⟨Z3 H.out.symm,Zc.refl _ _⟩
 ·have hl' : t.length<=2000:=by omega
  go_enter func104,ntmps104
  go_wp2
  go_loop [15] (λ i=>∃ p:Nat,p<=t.length∧i=.int .i64 (p:Int)∧Ks L (t.take p)=0) (λ i=>t.length-(intOf i).toNat)
  case atStart=>exact ⟨0,Nat.zero_le _,rfl,by simp [Ks]⟩
  case round=>
   obtain ⟨p,h1,rfl,h2⟩:=hrel
   by_cases hlt:p<t.length
   ·obtain ⟨tb,off,rfl,htb,hc⟩:=ht.get hlt
    have i1:(0:Int)<=(p:Int):=by omega
    have i2:(p:Int)<(t.length:Int):=by omega
    have c:=Zew h t[p];obtain ⟨s1,s2⟩:=Zi6 hlt h2
    by_cases hz:Zes L t[p]=0
    ·have S2:Hid (Ks L (t.take (p+1))=0):=s2 hz
     rw [hz] at c;clear s1 s2 h2
     go_wp2_with (go_at_call 153;refine c.mono ?_;rintro e w' ⟨rfl,rfl⟩)
     exact ⟨⟨p+1,by omega,by go_num,S2.out⟩,by simp [intOf];omega⟩
    ·have hb:=s1 hz
     have H:Hid (Zd L t=Zes L t[p]):=by show _=_;rw [Zb6 hl (by rw [hb];exact hz),hb]
     have hz' : (Zes L t[p] == 0)=false:=by simpa using hz
     clear s1 s2 h2 hb
     go_wp2_with (go_at_call 153;refine c.mono ?_;rintro e w' ⟨rfl,rfl⟩)
     go_ret;exact ⟨Z3 H.out.symm,Zc.refl _ _⟩
   ·obtain rfl:p=t.length:=by omega
    rw [List.take_length] at h2;have c:=Zeo (cap:=cap) h ht hl' 0 (Nat.zero_le _);have he:=Zph hl h2
    by_cases hz:Zid L t 0=(t.length:Int)
    ·have H:Hid (Zd L t=0):=by show _=_;rw [he,if_pos hz]
     rw [hz] at c;clear he
     go_wp2_with (go_at_call 154;refine c.mono ?_;rintro e w' ⟨rfl,hk1⟩)
     all_goals
      go_ret;exact ⟨Z3 H.out.symm,hk1⟩
    ·have H:Hid (Zd L t=23):=by show _=_;rw [he,if_neg hz]
     have hz' : (Zid L t 0 == (t.length:Int))=false:=by simpa using hz
     clear he
     go_wp2_with (go_at_call 154;refine c.mono ?_;rintro e w' ⟨rfl,hk1⟩)
     all_goals
      go_ret;exact ⟨Z3 H.out.symm,hk1⟩
theorem Vf (h:Sg n w b L) (ht:Zh w ao t) (hm:t.length<=maxLen) (a:Int) :
  Calls prog 162 #[.pointer (some ⟨b,0,none⟩),.slice ao t.length cap,.int .i64 a] w λ e w' => e=.returned (.int .i64 (Zz L t a))∧Za w w' := by
 have c:=Xn (cap:=cap) h ht hm
 by_cases hz:Zd L t=0
 ·by_cases h1:a<0
  ·have H:Hid (Zz L t a=24):=by show _=_;simp [Zz,hz,h1]
   rw [hz] at c
   go_enter func162,ntmps162
   go_wp2_with (go_at_call 104;refine c.mono ?_;rintro e w' ⟨rfl,hk1⟩)
   go_ret;exact ⟨Z3 H.out.symm,hk1⟩
  ·by_cases h2:(t.length:Int)<=a
   ·have H:Hid (Zz L t a=24):=by show _=_;simp [Zz,hz,h2]
    rw [hz] at c
    go_enter func162,ntmps162
    go_wp2_with (go_at_call 104;refine c.mono ?_;rintro e w' ⟨rfl,hk1⟩)
    go_ret;exact ⟨Z3 H.out.symm,hk1⟩
   ·have H:Hid (Zz L t a=0):=by show _=_;simp [Zz,hz,h1,h2]
    rw [hz] at c
    go_enter func162,ntmps162
    go_wp2_with (go_at_call 104;refine c.mono ?_;rintro e w' ⟨rfl,hk1⟩)
    go_ret;exact ⟨Z3 H.out.symm,hk1⟩
 ·have H:Hid (Zz L t a=Zd L t):=by show _=_;simp [Zz,hz]
  have hz' : (Zd L t == 0)=false:=by simpa using hz
  go_enter func162,ntmps162
  go_wp2_with (go_at_call 104;refine c.mono ?_;rintro e w' ⟨rfl,hk1⟩)
  go_ret;exact ⟨Z3 H.out.symm,hk1⟩
end
end Go.Proofs.YtmjgnfkbnofjoaaGreatDoor
