import Derived.Test.YtjahpnbijefncaaGreatCC03
import Derived.Laws.CopyOwn
import Derived.Laws.AppendOwnNone
import Derived.Deep.WholeRow
namespace Go.Proofs.YtjahpnbijefncaaGreat
set_option maxRecDepth 100000
set_option linter.unusedVariables false
set_option maxHeartbeats 4000000
theorem Zd6 {L:List Sym} {f:Int->List Int}:∀ (u:List Int),(∀ n∈u,n<0->IsT L (f n))->∀ k,Xb L k (Vl f u)=Xb L k u
 | [],_,k=>rfl
 | n :: r,h,k=>by
  have ih:=Zd6 r (λ m hm=>h m (by simp [hm]));rw [Yn]
  by_cases hn:n<0
  ·rw [if_pos hn,Xe]
   have hT:=h n (by simp) hn;cases k with
   | zero=>
    have:=Z6 hT;cases hd:f n with
    | nil=>rw [hd] at this;simp at this
    | cons x y=>simp [Xb]
   | succ k=>
    have:=Zc2 hT k;rw [Nat.add_comm 1 k,Nat.zero_add] at this;rw [this,Option.bind_some,Xb,show arN L n=0 by unfold arN;rw [if_pos hn],Nat.add_zero];exact ih k
  ·rw [if_neg hn]
   cases k with
   | zero=>rfl
   | succ k=>simp only [List.cons_append,List.nil_append,Xb];exact ih _
theorem Zc8 {L:List Sym} {f:Int->List Int}:∀ (u:List Int),(∀ n∈u,n<0->IsT L (f n))->u.length<=(Vl f u).length
 | [],_=>Nat.le_refl _
 | n :: r,h=>by
  have ih:=Zc8 r (λ m hm=>h m (by simp [hm]));rw [Yn,List.length_append,List.length_cons]
  by_cases hn:n<0
  ·rw [if_pos hn];have:=Z6 (h n (by simp) hn);omega
  ·rw [if_neg hn];simp;omega
theorem Jr {f g:Int->List Int}:∀ (u:List Int),(∀ n∈u,n<0->f n=g n)->Vl f u=Vl g u
 | [],_=>rfl
 | n :: r,h=>by
  rw [Yn,Yn,Jr r (λ m hm=>h m (by simp [hm]))]
  by_cases hn:n<0
  ·rw [if_pos hn,if_pos hn,h n (by simp) hn]
  ·rw [if_neg hn,if_neg hn]
theorem Zlk {L:List Sym} {J:List Int} {ld:Int->Int} {d:Nat} (ih:∀ (x:Int) (u:List Int),Z2 J x->tmF L J ld d x=some u->IsT L u):∀ (l:List Nat) (u:List Int),(∀ x∈l,x<J.length)->Vm (tmF L J ld d) l=some u->Xb L l.length u=some 0
 | [],u,_,e=>by simp only [Vm,Option.some.injEq] at e;subst e;rfl
 | x :: r,u,hl,e=>by
  unfold Vm at e;cases h1:tmF L J ld d (x:Int) with
  | none=>simp [h1] at e
  | some a=>
   cases h2:Vm (tmF L J ld d) r with
   | none=>simp [h1,h2] at e
   | some b=>
    simp only [h1,h2,Option.some.injEq] at e;subst e;have g1:=ih x a (Zn (hl x (by simp))) h1;have g2:=Zlk ih r b (λ y hy=>hl y (by simp [hy])) h2;have:=Zc2 g1 r.length;rw [Nat.add_comm 1,Nat.zero_add] at this;rw [List.length_cons,Xe,this,Option.bind_some,g2]
theorem tm_isT {L:List Sym} {J:List Int} {ld:Int->Int} (hT:Trs L J) (hl:Zcq J ld):∀ (d:Nat) (x:Int) (u:List Int),Z2 J x->tmF L J ld d x=some u->IsT L u:=by
 intro d
 induction d with
 | zero=>intro x u _ h;simp [tmF] at h
 | succ d ih=>
  intro x u hx h;rw [tmF] at h
  by_cases h1:ld x<0
  ·rw [if_pos h1] at h
   simp only [Option.some.injEq] at h;subst h;exact Zd7 L h1
  ·rw [if_neg h1] at h
   have hp:(ld x).toNat<J.length:=by have:=(hl.part x hx).2;omega
   cases h2:Vm (tmF L J ld d) (Zm L J (ld x).toNat) with
   | none=>simp [h2] at h
   | some v=>
    simp only [h2,Option.some.injEq] at h;subst h;have:=Zlk ih _ _ (Vw hT hp) h2
    have e:(Zm L J (ld x).toNat).length=arN L (at' J (ld x)):=by
     rw [show (Zm L J (ld x).toNat).length=arN L (at' J ((ld x).toNat:Nat)) from Zl _ _ _ _,show (((ld x).toNat:Nat):Int)=ld x by omega]
    rw [e] at this;unfold IsT;show Xb L (0+1) _=some 0;rw [Xb,Nat.zero_add];exact this
theorem Val.isT {L:List Sym} {J:List Int} {ld:Int->Int} (hT:Trs L J) (hl:Zcq J ld) {x:Int} {u:List Int} (hx:Z2 J x) (h:Val L J ld x u):IsT L u:=by
 obtain ⟨d,hd⟩:=h;exact tm_isT hT hl d x u hx hd
theorem Zp8 {L:List Sym} {J:List Int} {ld:Int->Int} {d:Nat} {R:Int->Prop} (ih:∀ (x:Int) (u:List Int),Z2 J x->tmF L J ld d x=some u->∀ n∈u,R n):∀ (l:List Nat) (u:List Int),(∀ x∈l,x<J.length)->Vm (tmF L J ld d) l=some u->∀ n∈u,R n
 | [],u,_,e=>by simp only [Vm,Option.some.injEq] at e;subst e;simp
 | x :: r,u,hl,e=>by
  unfold Vm at e;cases h1:tmF L J ld d (x:Int) with
  | none=>simp [h1] at e
  | some a=>
   cases h2:Vm (tmF L J ld d) r with
   | none=>simp [h1,h2] at e
   | some b=>
    simp only [h1,h2,Option.some.injEq] at e;subst e;intro n hn
    rcases List.mem_append.1 hn with q | q
    ·exact ih x a (Zn (hl x (by simp))) h1 n q
    ·exact Zp8 ih r b (λ y hy=>hl y (by simp [hy])) h2 n q
theorem tm_in {L:List Sym} {J:List Int} {ld:Int->Int} (hT:Trs L J) (hl:Zcq J ld):∀ (d:Nat) (x:Int) (u:List Int),Z2 J x->tmF L J ld d x=some u->∀ n∈u,(n<0∧Z2 J n)∨(0<=n∧n∈J):=by
 intro d
 induction d with
 | zero=>intro x u _ h;simp [tmF] at h
 | succ d ih=>
  intro x u hx h;rw [tmF] at h
  by_cases h1:ld x<0
  ·rw [if_pos h1] at h
   simp only [Option.some.injEq] at h;subst h;intro n hn;simp only [List.mem_cons,List.not_mem_nil,or_false] at hn;subst hn;exact .inl ⟨h1,hl.part x hx⟩
  ·rw [if_neg h1] at h
   have hp:(ld x).toNat<J.length:=by have:=(hl.part x hx).2;omega
   cases h2:Vm (tmF L J ld d) (Zm L J (ld x).toNat) with
   | none=>simp [h2] at h
   | some v=>
    simp only [h2,Option.some.injEq] at h;subst h;intro n hn
    rcases List.mem_cons.1 hn with q | q
    ·right
     have hs:=hl.sym x hx (by omega);refine ⟨by omega,?_⟩
     have:at' J (ld x)=J[(ld x).toNat]:=by
      have:=Yl J (ld x).toNat hp
      rwa [show (((ld x).toNat:Nat):Int)=ld x by omega] at this
     rw [q,this];exact List.getElem_mem _
    ·exact Zp8 ih _ _ (Vw hT hp) h2 n q
theorem Val.in {L:List Sym} {J:List Int} {ld:Int->Int} (hT:Trs L J) (hl:Zcq J ld) {x:Int} {u:List Int} (hx:Z2 J x) (h:Val L J ld x u):∀ n∈u,(n<0∧Z2 J n)∨(0<=n∧n∈J):=by
 obtain ⟨d,hd⟩:=h;exact tm_in hT hl d x u hx hd
theorem Zin {L:List Sym} {J:List Int} {ld:Int->Int}:∀ (l m:List Nat) (u:List Int),l.length=m.length->(∀ i (h:i<l.length) (h' : i<m.length),ld (l[i]:Nat)=ld (m[i]:Nat))->Zkk L J ld l u->Zkk L J ld m u
 | [],[],u,_,_,hv=>hv
 | [],y :: m,u,hl,_,_=>by simp at hl
 | x :: l,[],u,hl,_,_=>by simp at hl
 | x :: l,y :: m,u,hl,h,hv=>by
  obtain ⟨a,b,h1,h2,rfl⟩:=Jp hv;have e0:=h 0 (by simp) (by simp);exact Kh (Zdc e0 h1) (Zin l m b (by simpa using hl) (λ i p q=>by have:=h (i+1) (by simpa using p) (by simpa using q);simpa using this) h2)
theorem Jt.own {L:List Sym} {J:List Int} {m:Nat} {ld:Int->Int} (hc:Jt L J m ld) {P:Nat} (hP:P<J.length) (hs:0<=at' J P) {u:List Int} (h:Val L J ld P u):∃ us,u=at' J P :: us∧Zkk L J ld (Zm L J P) us:=by
 obtain ⟨g1,g2⟩:=hc.ok.like P (Zn hP) (by omega) hs;obtain ⟨v,h1,h2⟩:=Zg2 (by omega) h;refine ⟨v,by rw [h1,g2],Zin _ _ v ?_ ?_ h2⟩
 ·have c1:(((ld P).toNat:Nat):Int)=ld P:=by omega
  rw [show (Zm L J (ld P).toNat).length=_ from Zl _ _ _ _,show (Zm L J P).length=_ from Zl _ _ _ _,c1,g2]
 ·intro i p q
  have c1:(((ld P).toNat:Nat):Int)=ld P:=by omega
  have hi:i<arN L (at' J P):=by
   rw [show (Zm L J P).length=arN L (at' J P) from Zl _ _ _ _] at q;exact q
  have k1:=Kl (L:=L) (J:=J) (p:=(ld P).toNat) (i:=i) (by rw [c1,g2];exact hi);have k2:=Kl (L:=L) (J:=J) (p:=P) (i:=i) hi;rw [List.getElem?_eq_getElem p,Option.some.injEq] at k1;rw [List.getElem?_eq_getElem q,Option.some.injEq] at k2;rw [k1,k2];exact (hc.args P hP hs i hi).symm
structure VarT (L:List Sym) (J:List Int) (ld:Int->Int) (f:Int->List Int):Prop where
 val:∀ n u,Val L J ld n u->f n=u
 none:∀ n,(¬ ∃ u,Val L J ld n u)->f n=[n]
theorem Zii (L:List Sym) (J:List Int) (ld:Int->Int):∃ f,VarT L J ld f:=by
 have each:∀ n:Int,∃ y:List Int,(∀ u,Val L J ld n u->y=u)∧((¬ ∃ u,Val L J ld n u)->y=[n]):=by
  intro n
  by_cases h:∃ u,Val L J ld n u
  ·obtain ⟨u,hu⟩:=h
   exact ⟨u,λ v hv=>hu.uniq hv,λ f=>absurd ⟨u,hu⟩ f⟩
  ·exact ⟨[n],λ v hv=>absurd ⟨v,hv⟩ h,λ _=>rfl⟩
 obtain ⟨f,hf⟩:=Classical.axiomOfChoice each;exact ⟨f,λ n=>(hf n).1,λ n=>(hf n).2⟩
theorem VarT.isT {L:List Sym} {J:List Int} {ld:Int->Int} {f:Int->List Int} (h:VarT L J ld f) (hT:Trs L J) (hl:Zcq J ld) {n:Int} (hn:n<0) (hp:Z2 J n):IsT L (f n):=by
 by_cases e:∃ u,Val L J ld n u
 ·obtain ⟨u,hu⟩:=e
  rw [h.val n u hu];exact hu.isT hT hl hp
 ·rw [h.none n e];exact Zd7 L hn
theorem Zf1 {L:List Sym} {J:List Int} {m:Nat} {ld:Int->Int} (hc:Jt L J m ld) {f:Int->List Int} (hv0:VarT L J ld f):∀ (n k p q:Nat) (u:List Int),q-p<=n->Zu L J k p q->Zkk L J ld (Zr L J k p) u->u=Vl f ((J.drop p).take (q-p)):=by
 intro n
 induction n with
 | zero=>
  intro k p q u hn hf hv;cases k with
  | zero=>
   have:=hf.zero;subst this;obtain ⟨d,hd⟩:=hv;simp only [Zr,Vm,Option.some.injEq] at hd;subst hd;simp [Vl]
  | succ k=>have:=hf.pos;omega
 | succ n ih=>
  intro k p q u hn hf hv;cases k with
  | zero=>
   have:=hf.zero;subst this;obtain ⟨d,hd⟩:=hv;simp only [Zr,Vm,Option.some.injEq] at hd;subst hd;simp [Vl]
  | succ k=>
   obtain ⟨h1,h2,h3⟩:=hf.succ;have h4:=h3.le;have hpl:p<J.length:=by have:=h1.le;omega
   rw [Zr] at hv;obtain ⟨a,b,v1,v2,rfl⟩:=Jp hv;have e2:=ih k (Zq L J p) q b (by omega) h3 v2
   have e1:a=Vl f ((J.drop p).take (Zq L J p-p)):=by
    have hcut:(J.drop p).take (Zq L J p-p)=at' J p :: (J.drop (p+1)).take (Zq L J p-(p+1)):=by
     rw [List.drop_eq_getElem_cons hpl,show Zq L J p-p=(Zq L J p-(p+1))+1 by omega,List.take_succ_cons,Yl J p hpl]
    rw [hcut,Yn]
    by_cases hs:0<=at' J p
    ·obtain ⟨us,r1,r2⟩:=hc.own hpl hs v1
     have hk:=Yh hc.trs hpl;rw [r1,if_neg (by omega),ih _ _ _ us (by omega) hk r2];rfl
    ·have hk:=Yh hc.trs hpl
     rw [show arN L (at' J p)=0 by unfold arN;rw [if_pos (by omega)]] at hk;have:=hk.zero;rw [if_pos (by omega),this,show p+1-(p+1)=0 by omega,List.take_zero];have hv' := Zdc (hc.var p hpl (by omega)) v1;rw [hv0.val _ _ hv'];simp [Vl]
   rw [e1,e2,<- Zan];congr 1;rw [show q-p=(Zq L J p-p)+(q-Zq L J p) by omega,List.take_add,List.drop_drop,show p+(Zq L J p-p)=Zq L J p by omega]
theorem Zep {L:List Sym} {a b:List Int} (ha:IsT L a):Zq L (a++b) 0=a.length:=by
 have s1:=Zd9 (Xw (b:=[]) ha) b;rw [List.append_nil] at s1;rw [Y9 (n:=a.length) (by simpa using s1)];omega
theorem Zcg {L:List Sym} {a b:List Int} (hb:IsT L b):Zq L (a++b) a.length=a.length+b.length:=by
 have s1:=Xw (b:=[]) hb;rw [List.append_nil] at s1;exact Y9 (n:=b.length) (by simpa using s1)
theorem Zl7 {L:List Sym} {a b:List Int} {ap:Int} (h0:0<=ap) (ha:IsT L a) (hb:IsT L b) {ld:Int->Int} (hc:Jt L (jl a b ap) a.length ld) {f:Int->List Int} (hf:VarT L (jl a b ap) ld f) {u:List Int} (hu:Val L (jl a b ap) ld 0 u):u=Vl f a∧u=Vl f (b.map (shF ap)):=by
 have hp:=Z6 ha;have hq:=Z6 hb;have hl:(jl a b ap).length=a.length+b.length:=by simp [jl]
 have hb' := Zl9 h0 hb;have hm:Val L (jl a b ap) ld (a.length:Nat) u:=Zdc hc.both hu;have e1:Zq L (jl a b ap) 0=a.length:=Zep (b:=b.map (shF ap)) ha;have e2:Zq L (jl a b ap) a.length=a.length+(b.map (shF ap)).length:=Zcg (a:=a) hb';constructor
 ·have:=Zf1 hc hf _ 1 0 _ u (Nat.le_refl _) (hc.trs 0 (by omega)) (by
   have:=Kh hu (Zda L (jl a b ap) ld);rw [List.append_nil] at this
   exact this)
  rw [e1] at this;rw [this];unfold jl;rw [List.drop_zero,Nat.sub_zero,List.take_left]
 ·have:=Zf1 hc hf _ 1 a.length _ u (Nat.le_refl _) (hc.trs a.length (by omega)) (by
   have:=Kh hm (Zda L (jl a b ap) ld);rw [List.append_nil] at this
   exact this)
  rw [e2] at this;rw [this];unfold jl;rw [List.drop_left,Nat.add_sub_cancel_left,List.take_length]
abbrev Tb:=Nat->List Int
def updT (σ:Tb) (v:Nat) (u:List Int):Tb:=λ x=>if x=v then u else σ x
def noT:Tb:=λ _=>[]
def Ztf (L:List Sym) (ts:List Int):List Int:=ts.take ((V0 L 1 ts).getD 0)
def mw (L:List Sym):List Int->List Int->Tb->Option Tb
 | [],_,σ=>some σ
 | n :: r,ts,σ=>
  if 0<=n then (match ts with | []=>none | x :: ts' => if x=n then mw L r ts' σ else none)
  else if σ (-n).toNat=[] then mw L r (ts.drop (Ztf L ts).length) (updT σ (-n).toNat (Ztf L ts))
  else if σ (-n).toNat=Ztf L ts then mw L r (ts.drop (Ztf L ts).length) σ else none
theorem Zjr {L:List Sym} {n:Int} (h:¬ 0<=n):arN L n=0:=by rw [arN,if_pos (by omega)]
def Even (L:List Sym) (p ts:List Int):Prop:=∃ j,Xb L j p=some 0∧Xb L j ts=some 0
abbrev Bd:=Int × List Int
section
open Go.RowKit
attribute [local go_sem ↓] Go.wp_at_zero Go.wp_at_succ
structure Part where
 ao:Option Addr
 cap:Nat
 xs:List Int
theorem Zb1 (xs:List Int):∀ v∈iv xs,v.oneCell' = true:=by
 intro v hv;simp only [iv,List.mem_map] at hv;obtain ⟨x,_,rfl⟩:=hv;rfl
theorem Zh.src {w:World} {ao:Option Addr} {xs:List Int} (h:Zh w ao xs) (hn:0<(iv xs).length):∃ ad,ao=some ad∧∀ j v,(iv xs)[j]? = some v->w.cell? (ad.add j)=some v:=by
 rcases h with rfl | ⟨b,off,rfl,_,hc⟩
 ·simp [iv] at hn
 ·refine ⟨_,rfl,λ j v hj=>?_⟩
  have hlt:j<xs.length:=by
   have:=(List.getElem?_eq_some_iff.1 hj).1
   rwa [Vc] at this
  rw [Kj hlt] at hj;cases hj;have:=hc j hlt;unfold Addr.add;split
  ·rename_i h0;subst h0;first | (simp;done) | (simpa using this)
  ·exact this
theorem Zh.cut {w:World} {b off:Nat} {t:List Int} (h:Zh w (some ⟨b,off,none⟩) t) (lo hi:Nat):Zh w (some ⟨b,off+lo,none⟩) ((t.take hi).drop lo):=by
 rcases h with rfl | ⟨b', off', e,hlt,hc⟩
 ·left;simp
 ·simp only [Option.some.injEq,Addr.mk.injEq,and_true] at e
  obtain ⟨rfl,rfl⟩:=e;refine .inr ⟨b,off+lo,rfl,hlt,λ i hi' => ?_⟩;have h1:lo+i<t.length:=by simp at hi'; omega
  have:=hc (lo+i) h1;rw [Nat.add_assoc,this];simp
theorem Zh.nil (w:World) (ao:Option Addr):Zh w ao []:=.inl rfl
theorem Zi4 {L:List Sym} {t path:List Int} {q k:Nat} (h:leads L t 0 path=leads L t q (path.drop k)) (hk:k<path.length) (hq:q<t.length) (hn:path[k]<0∨(arN L t[q]:Int)<=path[k]):leads L t 0 path=none:=by
 rw [h,List.drop_eq_getElem_cons hk,leads];split
 ·rfl
 ·rw [Ya hq,List.getElem?_eq_none (by rw [Zl];omega)]
theorem Zm5 {L:List Sym} {t path:List Int} {q k i:Nat} (h:leads L t 0 path=leads L t q (path.drop k)) (hk:k<path.length) (hq:q<t.length) (hi:path[k]=(i:Int)) (hn:i<arN L t[q]):leads L t 0 path=leads L t (past L t i (q+1)) (path.drop (k+1)):=by
 rw [h,List.drop_eq_getElem_cons hk,leads,hi,if_neg (by omega),Ya hq];simp only [Int.toNat_natCast];rw [Za9 hn]
theorem Zoy {L:List Sym} {t:List Int} (h:IsT L t) {q i:Nat} (hq:q<t.length) (hi:i<arN L t[q]):past L t i (q+1)<t.length:=by
 have hf:=(Zu.one h hq).kids.2;have hd:=hf.drop (i:=i) (by omega);rw [show arN L t[q]-i=(arN L t[q]-i-1)+1 by omega] at hd;have:=hd.pos;have:=hd.le;omega
def Zcc (xs ys:List Int):Bool:=decide (xs=ys)
theorem Ztp {xs ys:List Int} (h:xs.length≠ys.length):Zcc xs ys=false:=by
 simp [Zcc];intro e;exact h (by rw [e])
theorem Ziz {xs ys:List Int} {k:Nat} (h:xs.take k=ys.take k) (hx:k<xs.length) (hy:k<ys.length) (he:xs[k]=ys[k]):xs.take (k+1)=ys.take (k+1):=by
 rw [List.take_add_one,List.take_add_one,h,List.getElem?_eq_getElem hx,List.getElem?_eq_getElem hy,he]
theorem Zc9 {w:World} {ao bo:Option Addr} {acap bcap:Nat} {xs ys:List Int} (hx:Zh w ao xs) (hy:Zh w bo ys) (hm:xs.length<=maxLen) :
  Calls Tryz.prog 27 #[.slice ao xs.length acap,.slice bo ys.length bcap] w λ e w' => e=.returned (.bool (Zcc xs ys))∧Za w w' := by
 unfold maxLen at hm
 by_cases hl:xs.length=ys.length
 ·have hl' : (xs.length:Int)=(ys.length:Int):=by omega
  go_enter Tryz.func27,Tryz.ntmps27
  go_wp2
  go_loopw [5] (λ i wr=>∃ k:Nat,k<=xs.length∧i=.int .i64 (k:Int)∧Hid (xs.take k=ys.take k)∧Za w wr) (λ i _=>xs.length-(intOf i).toNat)
  case atStart=>exact ⟨0,Nat.zero_le _,rfl,by simp [Hid],Zc.refl _ _⟩
  case round=>
   obtain ⟨k,hk,rfl,ht,hs⟩:=hrel
   by_cases hlt:k<xs.length
   ·have hlt' : k<ys.length:=by omega
    obtain ⟨ab,ao', rfl,hab,hac⟩:=(hx.same hs).get hlt;obtain ⟨bb,bo', rfl,hbb,hbc⟩:=(hy.same hs).get hlt';have i1:(0:Int)<=(k:Int):=by omega
    have i2:(k:Int)<(xs.length:Int):=by omega
    have i3:(k:Int)<(ys.length:Int):=by omega
    have d1:wr.drew.cell? ⟨ab,ao' + k,none⟩=some (.int .i64 xs[k]):=hac;have d2:wr.drew.cell? ⟨bb,bo' + k,none⟩=some (.int .i64 ys[k]):=hbc
    by_cases he:xs[k]=ys[k]
    ·have hn:Hid (xs.take (k+1)=ys.take (k+1)):=Ziz ht.out hlt hlt' he
     have he' : (xs[k] == ys[k])=true:=by simpa using he
     go_wp2;go_quiet (fail);go_wp2;refine ⟨⟨k+1,by omega,by go_num,hn,hs.drewN _⟩,by simp [intOf];omega⟩
    ·have H:Hid (Zcc xs ys=false):=by
      show _=_;simp only [Zcc,decide_eq_false_iff_not];intro e;subst e;exact he rfl
     have he' : (xs[k] == ys[k])=false:=by simpa using he
     go_wp2;go_quiet (fail);go_wp2;go_ret;exact ⟨by rw [H.out];rfl,hs.drewN _⟩
   ·have H:Hid (Zcc xs ys=true):=by
     have:=ht.out;rw [List.take_of_length_le (by omega),List.take_of_length_le (by omega)] at this;show _=_
     simpa [Zcc] using this
    go_wp2;go_ret;exact ⟨by rw [H.out];rfl,hs⟩
 ·have hl' : ¬ (xs.length:Int)=(ys.length:Int):=by omega
  have H:Hid (Zcc xs ys=false):=Ztp hl
  go_enter Tryz.func27,Tryz.ntmps27
  go_wp2;go_ret;exact ⟨by rw [H.out];rfl,Zc.refl _ _⟩
structure Zwt (n0:Nat) (w0 w:World) (b rb:Nat) (L:List Sym) (sv:Value) (mr:Option Nat) (rv:Value):Prop where
 sg:Yd w b L sv mr
 rf:Jf w rb L rv
 f:∀ k,Foot b sv mr k->n0<=k
 g:∀ k,Ze1 rb rv k->n0<=k
 d:∀ k,Foot b sv mr k->¬ Ze1 rb rv k
 k:Zc (From n0) w0 w
 a:Ars L
theorem Zwt.start (w:World):Zwt w.heap.size w ((w.alloc (.cells #[.slice none 0 0,.map none] 187)).alloc (.cells #[.slice none 0 0] 161)) w.heap.size (w.heap.size+1) [] (.slice none 0 0) none (.slice none 0 0):=by
 have k1:Zc (λ _=>False) (w.alloc (.cells #[.slice none 0 0,.map none] 187)) ((w.alloc (.cells #[.slice none 0 0,.map none] 187)).alloc (.cells #[.slice none 0 0] 161)):=(Zc.refl _ _).alloc _;have e1:(w.alloc (.cells #[.slice none 0 0,.map none] 187)).heap.size=w.heap.size+1:=by simp
 refine ⟨(Zwj w).kept k1 (λ _ _ f=>f),⟨?_,World.ownsRow_nil _ _ _ _,by simp [Value.ownBlock]⟩,?_,?_,?_,((Zc.refl _ w).alloc _).alloc _,λ x hx=>by simp at hx⟩
 ·rw [<- e1];exact heap_alloc_new _ _
 ·rintro k (e | e | e)
  ·omega
  ·simp [Value.ownBlock] at e
  ·simp at e
 ·rintro k (e | e)
  ·omega
  ·simp [Value.ownBlock] at e
 ·rintro k (e | e | e) (e' | e')
  ·omega
  ·simp [Value.ownBlock] at e'
  ·simp [Value.ownBlock] at e
  ·simp [Value.ownBlock] at e
  ·simp at e
  ·simp at e
theorem Zs4 {L:List Sym} (h:Ars L) (x:Sym):Ars (Zkl L x):=by
 unfold Zkl;split
 ·rename_i hz
  intro y hy
  rcases List.mem_append.1 hy with hy | hy
  ·exact h y hy
  ·simp at hy;subst hy;exact Zun hz
 ·exact h
theorem Zwt.next {n0:Nat} {w0 w w1 w2:World} {b rb:Nat} {L:List Sym} {sv:Value} {mr:Option Nat} {rv:Value} (h:Zwt n0 w0 w b rb L sv mr rv) (x:Sym) (hn:n0<=w.heap.size) {sv1:Value} {mr1:Option Nat}
  (h1:Yd w1 b (Zkl L x) sv1 mr1) (h2:Zc (Foot b sv mr) w w1) (h3:∀ k,Foot b sv1 mr1 k->Foot b sv mr k∨w.heap.size<=k) (hr:Zho w1 rb rv (Zkl L x) w2):∃ rv2,Zwt n0 w0 w2 b rb (Zkl L x) sv1 mr1 rv2:=by
 obtain ⟨rv2,r1,r2,r3⟩:=hr;have hrl:=h.rf.lt
 have dd:∀ k,Foot b sv1 mr1 k->¬ Ze1 rb rv k:=λ k hk hk' => by
  rcases h3 k hk with e | e
  ·exact h.d k e hk'
  ·have:=hrl k hk'; omega
 have z1:=h2.size;refine ⟨rv2,h1.kept r2 (λ k e=>dd k e),r1,?_,?_,?_,?_,Zs4 h.a x⟩
 ·intro k hk
  rcases h3 k hk with e | e
  ·exact h.f k e
  ·omega
 ·intro k hk
  rcases r3 k hk with e | e
  ·exact h.g k e
  ·omega
 ·intro k hk hk'
  rcases r3 k hk' with e | e
  ·exact dd k hk e
  ·have:=J7 h1 k hk;omega
 ·exact (h.k.trans h2 (λ i _ e=>h.f i e)).trans r2 (λ i _ e=>h.g i e)
def Kt (xs:List Sym):List Sym:=xs.foldl Zkl []
theorem Znd {xs:List Sym} {k:Nat} (h:k<xs.length):Kt (xs.take (k+1))=Zkl (Kt (xs.take k)) xs[k]:=by
 rw [List.take_add_one,List.getElem?_eq_getElem h];unfold Kt;rw [List.foldl_append];rfl
theorem Zce {w w' : World} (h:Zc (From w.heap.size) w w'):Za w w' := ⟨h.os,h.tape,h.output,h.size,λ k hk _=>h.block k hk (λ e=>by omega)⟩
theorem Zs1 (ao:Option Addr) (len cap:Nat) (xs:List Sym) (w:World) (hx:Vi w ao len xs) (hm:len<=maxLen) :
  Calls Tryz.prog 31 #[.slice ao len cap] w λ e w' => ∃ b rv,e=.returned (.tuple #[.pointer (some ⟨b,0,none⟩),rv])∧Sg w'.heap.size w' b (Kt xs)∧Rl w'.heap.size w' rv (Kt xs)∧Za w w' := by
 unfold maxLen at hm
 go_enter Tryz.func31,Tryz.ntmps31
 go_wp2_with (first | (go_at_call 73;refine (Zvl _).mono ?_;rintro e w' ⟨rfl,rfl⟩))
 go_loopw [6] (λ i wr=>∃ (k:Nat) (sv:Value) (mr:Option Nat) (rv:Value),k<=len∧i=.int .i64 (k:Int)∧Zwt w.heap.size w wr w.heap.size (w.heap.size+1) (Kt (xs.take k)) sv mr rv) (λ i _=>len-(intOf i).toNat)
 case atStart=>exact ⟨0,_,_,_,Nat.zero_le _,rfl,Zwt.start w⟩
 case round=>
  obtain ⟨k,sv,mr,rv,hk,rfl,hb⟩:=hrel;have hlen:=hb.sg.len
  by_cases hlt:k<len
  ·obtain ⟨xl,xc,xw⟩:=hx.kept (Zce hb.k).below
   obtain ⟨xb,off,rfl,hxb,hxc⟩:=xc.resolve_left (by omega);have hkx:k<xs.length:=by omega
   obtain ⟨x0,x1,x2⟩:=hxc k hkx;have xsz:=(xw xs[k] (List.getElem_mem hkx)).1;have i1:(0:Int)<=(k:Int):=by omega
   have i2:(k:Int)<(len:Int):=by omega
   have E1:Hid (Kt (xs.take (k+1))=Zkl (Kt (xs.take k)) xs[k]):=Znd hkx;have hn0:=hb.k.size;have hxs:=hx;clear hxc xw xc xl;generalize Kt (xs.take k)=L at *
   go_wp2_with fail
   refine (Zuz hb.sg xs[k] xsz).mono ?_;rintro e w1 ⟨rfl,sv1,mr1,h1,h2,h3⟩;have hr1:Jf w1 (w.heap.size+1) L rv:=hb.rf.kept h2 (λ k hk' e=>hb.d k e hk');have k1:Zc (From w.heap.size) w w1:=hb.k.trans h2 (λ i _ e=>hb.f i e)
   obtain ⟨y0,y1,y2⟩:w1.cell? ⟨xb,off+k * 3,none⟩=some (.string xs[k].name)∧w1.cell? ⟨xb,off+k * 3+1,none⟩=some (.int .i64 xs[k].ar)∧w1.cell? ⟨xb,off+k * 3+2,none⟩=some (.bool xs[k].df):=by
    obtain ⟨_,yc,_⟩:=hxs.kept (Zce k1).below;obtain ⟨_,_,e,_,hyc⟩:=yc.resolve_left (by omega);simp only [Option.some.injEq,Addr.mk.injEq,and_true] at e;rw [e.1,e.2];exact hyc k hkx
   clear x0 x1 x2
   go_wp2_with fail
   refine (Zsm hr1 hlen xs[k] xsz).mono ?_;rintro e w2 ⟨rfl,hr⟩;obtain ⟨rv2,hb2⟩:=hb.next xs[k] hn0 h1 h2 h3 hr;go_wp2;refine ⟨⟨k+1,sv1,mr1,rv2,by omega,by go_num,?_⟩,by simp [intOf];omega⟩;rw [E1.out];exact hb2
  ·have hxl:=hx.1
   have E1:xs.take k=xs:=List.take_of_length_le (by omega);rw [E1] at hb hlen;have r0:=hb.rf.c0;clear E1;go_wp2;go_quiet (fail);go_wp2
   go_ret2
   have kd:Za wr (wr.drewN nq):=(Zc.refl _ _).drewN nq;have fin:Sg wr.heap.size wr w.heap.size (Kt xs)∧Rl wr.heap.size wr rv (Kt xs)∧Za w wr:=⟨⟨⟨sv,mr,hb.sg,J7 hb.sg⟩,hb.a⟩,⟨hb.rf.row,λ k e=>hb.rf.lt k (.inr e),hb.a,hlen⟩,Zce hb.k⟩;exact ⟨w.heap.size,rv,rfl,fin.1.same kd,fin.2.1.same kd,fin.2.2.trans' kd⟩
theorem Ztv (w:World) (xs:List Int) (T:TypeId) {o:Obj} (ho:o=.cells (iv xs).toArray T (0,0)):Zh (w.alloc o) (some ⟨w.heap.size,0,none⟩) xs:=by
 subst ho;refine .inr ⟨_,_,rfl,by simp,λ i hi=>?_⟩;rw [Nat.zero_add,Zb (heap_alloc_new w _)]
 simpa using Kj hi
theorem Row.ints {base:Nat} {w:World} {v:Value} {xs:List Int} (h:Row base w v xs):∃ ao cap,v=.slice ao xs.length cap∧Zh w ao xs∧xs.length<=cap∧(∀ a,ao=some a->base<=a.block∧a.block<w.heap.size):=by
 rcases h.2 with ⟨rfl,h0⟩ | ⟨g,cap,cur,rfl,hb,hg,h1,h2,h3,h4⟩
 ·have:xs=[]:=List.eq_nil_of_length_eq_zero h0
  subst this;exact ⟨none,0,rfl,.inl rfl,Nat.le_refl _,λ a e=>by cases e⟩
 ·refine ⟨_,cap,rfl,.inr ⟨g,0,rfl,Zi hg,λ i hi=>?_⟩,h1,λ a e=>by cases e;exact ⟨hb,Zi hg⟩⟩
  rw [Nat.zero_add,h.cellAt i (by omega)];exact Kj hi
abbrev zS:Sym:=⟨⟨#[122]⟩,0,false⟩
abbrev L3:List Sym:=[zS,aS,aAdd]
theorem Zfj {n:Nat} {w:World} {rv:Value} {L:List Sym} (h:Rl n w rv L) (x:Int):Calls Tryz.prog 90 #[rv,.int .i64 x] w λ e w' => e=.returned (.int .i64 (if x<0∨(L.length:Int)<=x then -1 else (arN L x:Int)))∧w' = w:=by
 obtain ⟨hr,_,ha,hlen⟩:=h;obtain ⟨ao,cap,rfl⟩:=Zf hr
 by_cases h0:x<0
 ·go_enter Tryz.func90,Tryz.ntmps90
  go_wp2;go_ret;exact ⟨rfl,rfl⟩
 ·by_cases h1:(L.length:Int)<=x
  ·go_enter Tryz.func90,Tryz.ntmps90
   go_wp2;go_ret;exact ⟨rfl,rfl⟩
  ·obtain ⟨i,rfl⟩:∃ i:Nat,x=(i:Int):=⟨x.toNat,by omega⟩
   have hi:i<L.length:=by omega
   have H:Hid (((arN L (i:Int):Nat):Int)=L[i].ar):=Zro ha hi;obtain ⟨g,rfl,hg,x0,x1,x2⟩:=Zo6 hr hi;have i1:(0:Int)<=(i:Int):=by omega
   have i2:(i:Int)<(L.length:Int):=by omega
   go_enter Tryz.func90,Tryz.ntmps90
   go_wp2;go_ret;exact ⟨by rw [H.out];rfl,rfl⟩
theorem Zb4 {n:Nat} {w:World} {rv:Value} {L:List Sym} (h:Rl n w rv L) (x:Int):Calls Tryz.prog 101 #[rv,.int .i64 x] w λ e w' => e=.returned (.int .i64 (arN L x:Int))∧w' = w:=by
 have c:=Zfj h x
 by_cases hx:x<0∨(L.length:Int)<=x
 ·rw [if_pos hx] at c
  have H:Hid (arN L x=0):=Zv6 hx
  go_enter Tryz.func101,Tryz.ntmps101
  go_wp2_with (first | (go_at_call 90;refine c.mono ?_;rintro e w' ⟨rfl,rfl⟩))
  go_ret;exact ⟨by rw [H.out];rfl,rfl⟩
 ·rw [if_neg hx] at c
  go_enter Tryz.func101,Tryz.ntmps101
  go_wp2_with (first | (go_at_call 90;refine c.mono ?_;rintro e w' ⟨rfl,rfl⟩))
  go_ret;exact ⟨rfl,rfl⟩
theorem Zgp {n:Nat} {w:World} {rv:Value} {L:List Sym} (h:Rl n w rv L) {ao:Option Addr} {cap:Nat} {t:List Int} (ht:Zh w ao t) (hm:t.length<=2000) (p0:Nat) (hp0:p0<=t.length) :
  Calls Tryz.prog 67 #[rv,.slice ao t.length cap,.int .i64 (p0:Int)] w λ e w' => e=.returned (.int .i64 (Zq L t p0))∧w' = w:=by
 have ha:=h.2.2.1
 go_enter Tryz.func67,Tryz.ntmps67
 go_wp2
 go_loop [7,8] (λ la at' => ∃ p k:Nat,p0<=p∧p<=t.length∧at' = .int .i64 (p:Int)∧la=.int .i64 (k:Int)∧k<=1+6 * (p-p0)∧Hid (Zjc L t p0=(V0 L k (t.drop p)).map (p + ·))) (λ _ at' => t.length-(intOf at').toNat)
 case atStart=>exact ⟨p0,1,Nat.le_refl _,hp0,rfl,rfl,by omega,rfl⟩
 case round=>
  obtain ⟨p,k,h1,h2,rfl,rfl,h3,h4⟩:=hrel
  by_cases hlt:p<t.length
  ·cases k with
   | zero=>
    have H6:Hid (Zq L t p0=p):=by
     have:=h4.out;simp [Ve] at this;show _=_;simp [Zq,this]
    go_wp2;go_ret;exact ⟨by rw [H6.out];rfl,rfl⟩
   | succ k=>
    obtain ⟨tb,off,rfl,htb,hc⟩:=ht.get hlt;have c:=Zb4 h t[p];have hle:=Xp ha t[p];have H5:Hid (Zjc L t p0=(V0 L (k+arN L t[p]) (t.drop (p+1))).map (p+1 + ·)):=Zf2 h4.out hlt;have i1:(0:Int)<=(p:Int):=by omega
    have i2:(p:Int)<(t.length:Int):=by omega
    clear h4;generalize arN L t[p]=a at *
    go_wp2_with (first | (go_at_call 101;refine c.mono ?_;rintro e w' ⟨rfl,rfl⟩))
    refine ⟨⟨p+1,k+a,by omega,by omega,by go_num,by first | (congr 1;omega) | congr 1,by omega,H5⟩,by simp [intOf];omega⟩
  ·have H6:Hid (Zq L t p0=p):=by
    have h4:=h4.out;rw [List.drop_eq_nil_of_le (by omega)] at h4;show _=_;cases k with
    | zero=>simp [V0] at h4;simp [Zq,h4]
    | succ k=>simp [V0] at h4;simp [Zq,h4];omega
   go_wp2;go_ret;exact ⟨by rw [H6.out];rfl,rfl⟩
theorem Zpq {L:List Sym} {t:List Int} {p k:Nat} (h:Xb L 1 (t.take p)=some k) (hp:p<t.length):(k=0->¬ Xb L 1 t=some 0)∧(∀ j,k=j+1->Xb L 1 (t.take (p+1))=some (j+arN L t[p])):=by
 have e:t=t.take p++(t[p] :: t.drop (p+1)):=by rw [<- List.drop_eq_getElem_cons hp,List.take_append_drop]
 constructor
 ·rintro rfl hn
  rw [e,Xe,h,Option.bind_some,Xb] at hn;cases hn
 ·rintro j rfl
  rw [List.take_add_one,Xe,h,List.getElem?_eq_getElem hp];simp [Xb]
theorem Zi5 {L:List Sym} {t:List Int} (h:¬ 2000<t.length) (hb:Za3 L t=0):Ze L t=if Xb L 1 t=some 0 then 0 else 23:=by
 simp [Ze,h,hb]
theorem Zfp {n:Nat} {w:World} {rv:Value} {L:List Sym} (h:Rl n w rv L) {ao:Option Addr} {cap:Nat} {t:List Int} (ht:Zh w ao t) (hm:t.length<=maxLen) :
  Calls Tryz.prog 57 #[rv,.slice ao t.length cap] w λ e w' => e=.returned (.int .i64 (Ze L t))∧w' = w:=by
 unfold maxLen at hm;have ha:=h.2.2.1;have hL64:=h.2.2.2;obtain ⟨ro,rcap,rfl⟩:=Zf h.1
 by_cases hl:2000<t.length
 ·have H:Hid (Ze L t=20):=Zd3 hl
  go_enter Tryz.func57,Tryz.ntmps57
  go_wp2;go_ret;exact ⟨Z7 H.out.symm,rfl⟩
 ·have hl' : t.length<=2000:=by omega
  go_enter Tryz.func57,Tryz.ntmps57
  go_wp2
  go_loop [5] (λ i=>∃ p:Nat,p<=t.length∧i=.int .i64 (p:Int)∧Hid (Za3 L (t.take p)=0)) (λ i=>t.length-(intOf i).toNat)
  case atStart=>exact ⟨0,Nat.zero_le _,rfl,by simp [Za3,Hid]⟩
  case round=>
   obtain ⟨p,h1,rfl,h2⟩:=hrel
   by_cases hlt:p<t.length
   ·obtain ⟨tb,off,rfl,htb,hc⟩:=ht.get hlt
    have i1:(0:Int)<=(p:Int):=by omega
    have i2:(p:Int)<(t.length:Int):=by omega
    obtain ⟨s1,s2⟩:=Zjb hlt h2.out
    by_cases q1:(L.length:Int)<=t[p]
    ·have e0:Zei L t[p]=21:=by simp [Zei,q1]
     have H:Hid (Ze L t=21):=by
      show _=_;have:=s1 (by omega);rw [Zb0 hl (by omega)];omega
     clear s1 s2 h2 e0;go_wp2;go_ret;exact ⟨Z7 H.out.symm,rfl⟩
    ·by_cases q2:t[p] < -99
     ·have e0:Zei L t[p]=22:=by simp [Zei,q1,q2]
      have H:Hid (Ze L t=22):=by
       show _=_;have:=s1 (by omega);rw [Zb0 hl (by omega)];omega
      clear s1 s2 h2 e0;go_wp2;go_ret;exact ⟨Z7 H.out.symm,rfl⟩
     ·have e0:Zei L t[p]=0:=by simp [Zei,q1,q2]
      have S2:Hid (Za3 L (t.take (p+1))=0):=s2 e0;clear s1 s2 h2 e0;go_wp2;exact ⟨⟨p+1,by omega,by go_num,S2⟩,by simp [intOf];omega⟩
   ·obtain rfl:p=t.length:=by omega
    have hb:=h2.out;rw [List.take_length] at hb;have HC:Hid (Ze L t=if Xb L 1 t=some 0 then 0 else 23):=Zi5 hl hb;clear h2 hb;go_wp2
    go_loop [6,7] (λ la i=>∃ p k:Nat,p<=t.length∧i=.int .i64 (p:Int)∧la=.int .i64 (k:Int)∧k<=1+6 * p∧Hid (Xb L 1 (t.take p)=some k)) (λ _ i=>t.length-(intOf i).toNat)
    case atStart=>exact ⟨0,1,Nat.zero_le _,rfl,rfl,by omega,by simp [Xb,Hid]⟩
    case round=>
     obtain ⟨p,k,g1,rfl,rfl,g2,g3⟩:=hrel
     by_cases hlt2:p<t.length
     ·obtain ⟨tb,off,rfl,htb,hc⟩:=ht.get hlt2
      have i1:(0:Int)<=(p:Int):=by omega
      have i2:(p:Int)<(t.length:Int):=by omega
      obtain ⟨s1,s2⟩:=Zpq g3.out hlt2;cases k with
      | zero=>
       have H:Hid (Ze L t=23):=by show _=_;rw [HC.out,if_neg (s1 rfl)]
       clear s1 s2 g3 HC;go_wp2;go_ret;exact ⟨Z7 H.out.symm,rfl⟩
      | succ k=>
       have S2:Hid (Xb L 1 (t.take (p+1))=some (k+arN L t[p])):=s2 k rfl;have c:=Zb4 h t[p];have hle:=Xp ha t[p];clear s1 s2 g3 HC;generalize arN L t[p]=a at *
       go_wp2_with (first | (go_at_call 101;refine c.mono ?_;rintro e w' ⟨rfl,rfl⟩))
       refine ⟨⟨p+1,k+a,by omega,by go_num,by first | (congr 1;omega) | congr 1,by omega,S2⟩,by simp [intOf];omega⟩
     ·obtain rfl:p=t.length:=by omega
      have g4:=g3.out;rw [List.take_length] at g4
      by_cases hk0:k=0
      ·subst hk0
       have H:Hid (Ze L t=0):=by show _=_;rw [HC.out,if_pos g4]
       clear g3 g4 HC;go_wp2;go_ret;exact ⟨Z7 H.out.symm,rfl⟩
      ·have H:Hid (Ze L t=23):=by show _=_;rw [HC.out,if_neg (by rw [g4];simp;exact hk0)]
       clear g3 g4 HC;go_wp2;go_ret;exact ⟨Z7 H.out.symm,rfl⟩
theorem Yo {w0:World} {ops:Array Oper} {rest:List Oper} {o:Oper} {a:Act} {Q:Exit->Act->World->Prop} (hgd:o.guard=none) (s x:Operand) (t:TypeId)
  (ho:o.op=.call { callee:=.builtin .append,args:=#[s,x],argTypes:=#[t,t] }) (ht:Tryz.prog.underlying t=some (.slice 3))
  (base:Nat) (xs:List Int) (v:Value) (hs:a.eval s=v) (hr:Row base w0 v xs) (y:Int) (hx:a.eval x=.slice (some ⟨w0.heap.size,0,none⟩) 1 1) (hb:base<=w0.heap.size) (hsz:(xs.length+1) * 8<=140737488355328)
  (h:∀ g cap w', Row base w' (.slice (some ⟨g,0,none⟩) (xs.length+1) cap) (xs ++ [y])->Zc (λ k=>v.ownBlock=some k) w0 w' -> (v.ownBlock=some g∨w0.heap.size<=g)->wpList Tryz.prog ops Q rest (a.put o.dst (.slice (some ⟨g,0,none⟩) (xs.length+1) cap)) w') :
  wpList Tryz.prog ops Q (o :: rest) a (w0.alloc (.cells #[.int .i64 y] 3)):=by
 obtain ⟨i,hi,hz0,hz1,hz2⟩:=info_parts Xr;refine wpList_append_lies _ hgd s x t ho base 3 i (.int .i64 0) 1 8 ht hi hz0 hz1 hz2 rfl (by decide) v xs.length (iv xs) hs (hr.alloc _) ⟨w0.heap.size,0,none⟩ 1 1 [.int .i64 y] hx rfl (cell_one_new _ _ _) (by simp [Value.oneCell']) (by omega) (by unfold maxLen;omega) hsz (by simp;omega) (w0.heap.size+1) (by simp) ?_;intro g cap w' hown hgrow hat hlt;refine h g cap w' ?_ ?_ (hat.imp id (λ e=>by omega))
 ·unfold Row;rw [Vd,List.length_append];exact hown
 ·exact Zc.grown (Zc.alloc (Zc.refl _ w0) _) hgrow (λ _ e _=>e)
theorem Za.onto {w w0 w' : World} {v:Value} {xs:List Int} (h:Za w w0) (hr:Row w.heap.size w0 v xs) (hk:Zc (λ k=>v.ownBlock=some k) w0 w'):Za w w' :=
 h.trans hk (λ i hi e=>by have:=(hr.lt i e).1;omega)
theorem Zbn {n:Nat} {w:World} {rv:Value} {L:List Sym} (h:Rl n w rv L) {ao:Option Addr} {cap:Nat} {t:List Int} (ht:Zh w ao t) (hm:t.length<=2000) (hT:IsT L t) (p:Nat) (hp:p<t.length) :
  Calls Tryz.prog 66 #[rv,.slice ao t.length cap,.int .i64 (p:Int)] w λ e w' => ∃ v,e=.returned v∧Row w.heap.size w' v (ofN (Zz L t p))∧Za w w' := by
 have H:Hid (Zz L t p=Zr L t (arN L t[p]) (p+1)):=Ya hp;have hf:=(Zu.one hT hp).kids.2;have har:=Xp h.2.2.1 t[p];have c1:∀ w1,Za w w1->Calls Tryz.prog 101 #[rv,.int .i64 t[p]] w1 λ e w' => e=.returned (.int .i64 (arN L t[p]:Int))∧w' = w1:=λ w1 hk=>Zb4 (h.same hk) t[p]
 have c2:∀ w1 q,Za w w1->q<t.length->Calls Tryz.prog 67 #[rv,.slice ao t.length cap,.int .i64 (q:Int)] w1 λ e w' => e=.returned (.int .i64 (Zq L t q:Int))∧w' = w1:=λ w1 q hk hq=>Zgp (cap:=cap) (h.same hk) (ht.same hk) hm q (by omega)
 have i1:(0:Int)<=(p:Int):=by omega
 have i2:(p:Int)<(t.length:Int):=by omega
 have i0:¬ (p:Int)<0:=by omega
 have i0' : decide ((p:Int)<0)=false:=by simp
 obtain ⟨ro,rcap,rfl⟩:=Zf h.1;obtain ⟨tb,off,rfl,htb,hc⟩:=ht.get hp;have hc' : ∀ w1,Za w w1->w1.cell? ⟨tb,off+p,none⟩=some (.int .i64 t[p]):=λ w1 hk=>(hk.cell (p:=⟨tb,off+p,none⟩) htb (λ f=>f)).trans hc;generalize hA:arN L t[p]=A at *;have hA:Hid (arN L t[p]=A):=hA
 go_enter Tryz.func66,Tryz.ntmps66
 go_wp2
 go_loopw [7,8,9] (λ out nx i wr=>∃ k:Nat,k<=A∧i=.int .i64 (k:Int)∧nx=.int .i64 (past L t k (p+1):Int)∧Row w.heap.size wr out (ofN (Zr L t k (p+1)))∧Za w wr) (λ _ _ i _=>A-(intOf i).toNat)
 case atStart=>exact ⟨0,Nat.zero_le _,rfl,rfl,World.ownsRow_nil _ _ _ _,Zc.refl _ _⟩
 case round=>
  obtain ⟨k,hkA,rfl,rfl,hr,hs⟩:=hrel;have d0:=hc' _ hs;have cA:=c1 _ hs
  by_cases hlt:k<A
  ·have hfk:=hf.drop (i:=k) (by omega)
   rw [show A-k=(A-k-1)+1 by omega] at hfk;have hq:past L t k (p+1)<t.length:=by have:=hfk.pos;have:=hfk.le;omega
   have e1:Hid (past L t (k+1) (p+1)=Zq L t (past L t k (p+1))):=Jw L t k (p+1);have e2:Hid (ofN (Zr L t (k+1) (p+1))=ofN (Zr L t k (p+1)) ++ [((past L t k (p+1):Nat):Int)]):=by show _=_;rw [Za4];simp [ofN]
   have hlen:(ofN (Zr L t k (p+1))).length=k:=by simp [ofN,Zl]
   have hlt' : ¬ A<=k:=by omega
   clear hfk c1 hc';generalize past L t k (p+1)=P at *;generalize ofN (Zr L t k (p+1))=out at *;subst hlen;obtain ⟨oo,ocap,rfl⟩:=Zf hr
   go_wp2_with (first | (go_at_call 101;refine cA.mono ?_;rintro e w' ⟨rfl,rfl⟩) | (at_builtin;refine Yo rfl _ _ 32 rfl Tryz.underlying32 w.heap.size out _ rfl hr (P:Int) rfl hs.size (by omega) ?_;intro g gcap w4 hr4 hk4 _;have hs4:=hs.onto hr hk4) | (go_at_call 67;refine (c2 _ _ hs4 hq).mono ?_;rintro e w' ⟨rfl,rfl⟩))
   rw [<- e2.out] at hr4;go_roundw
   case rel=>first | exact ⟨out.length+1,by omega,by go_num,by rw [e1.out],hr4,hs4⟩ | ((repeat apply Exists.intro);exact ⟨⟨out.length+1,by omega,by go_num,by rw [e1.out],hr4,hs4⟩,rfl⟩)
   case measure=>simp [intOf];omega
  ·obtain rfl:k=A:=by omega
   obtain ⟨oo,ocap,rfl⟩:=Zf hr;clear c1 c2 hc'
   go_wp2_with (first | (go_at_call 101;refine cA.mono ?_;rintro e w' ⟨rfl,rfl⟩))
   go_ret;refine ⟨_,rfl,?_,hs⟩;rw [H.out];exact hr
theorem Zsv (x:Int) (w:World):Calls Tryz.prog 183 #[.int .i64 x] w λ e w' => e=.returned (.bool (isV x))∧w' = w:=by
 by_cases h1:x<0
 ·by_cases h2 : -99<=x
  ·have H:Hid (isV x=true):=by show _=_;simp [isV];omega
   go_enter Tryz.func183,Tryz.ntmps183
   go_wp2;go_ret;exact ⟨by rw [H.out];rfl,rfl⟩
  ·have H:Hid (isV x=false):=by show _=_;simp [isV];omega
   go_enter Tryz.func183,Tryz.ntmps183
   go_wp2;go_ret;exact ⟨by rw [H.out];rfl,rfl⟩
 ·have H:Hid (isV x=false):=by show _=_;simp [isV];omega
  go_enter Tryz.func183,Tryz.ntmps183
  go_wp2;go_ret;exact ⟨by rw [H.out];rfl,rfl⟩
def inB (l:List Int) (n:Int):Bool:=decide (n∈l)
theorem Zqq {w:World} {ao:Option Addr} {cap:Nat} {l:List Int} (hl:Zh w ao l) (n:Int) (hm:l.length<=maxLen):Calls Tryz.prog 175 #[.slice ao l.length cap,.int .i64 n] w λ e w' => e=.returned (.bool (inB l n))∧w' = w:=by
 unfold maxLen at hm
 go_enter Tryz.func175,Tryz.ntmps175
 go_wp2
 go_loop [5] (λ i=>∃ k:Nat,k<=l.length∧i=.int .i64 (k:Int)∧Hid (¬ n∈l.take k)) (λ i=>l.length-(intOf i).toNat)
 case atStart=>exact ⟨0,Nat.zero_le _,rfl,by simp [Hid]⟩
 case round=>
  obtain ⟨k,hk,rfl,hn⟩:=hrel
  by_cases hlt:k<l.length
  ·obtain ⟨b,off,rfl,_,hc⟩:=hl.get hlt
   have i1:(0:Int)<=(k:Int):=by omega
   have i2:(k:Int)<(l.length:Int):=by omega
   by_cases he:l[k]=n
   ·have H:Hid (inB l n=true):=by show _=_;simp [inB];rw [<- he];exact List.getElem_mem hlt
    have he' : (l[k] == n)=true:=by simpa using he
    go_wp2;go_ret;exact ⟨by rw [H.out];rfl,rfl⟩
   ·have he' : (l[k] == n)=false:=by simpa using he
    have hn' : Hid (¬ n∈l.take (k+1)):=by
     rw [List.take_add_one,List.getElem?_eq_getElem hlt];intro hh
     rcases List.mem_append.1 hh with hh | hh
     ·exact hn.out hh
     ·simp at hh;exact he hh.symm
    go_wp2;exact ⟨⟨k+1,by omega,by go_num,hn'⟩,by simp [intOf];omega⟩
  ·have H:Hid (inB l n=false):=by
    have:=hn.out;rw [List.take_of_length_le (by omega)] at this;show _=_;simpa [inB] using this
   go_wp2;go_ret;exact ⟨by rw [H.out];rfl,rfl⟩
theorem Zid {o:List Int} {x:Int} (h1:isV x=true) (h2:inB o (-x)=false):V2 o x=o ++ [-x]:=by
 rw [V2,if_pos ⟨h1,by simpa [inB] using h2⟩]
theorem Zls {o:List Int} {x:Int} (h2:inB o (-x)=true):V2 o x=o:=by
 rw [V2,if_neg (by simp [inB] at h2;simp [h2])]
theorem Zl6 {o:List Int} {x:Int} (h1:isV x=false):V2 o x=o:=by
 rw [V2,if_neg (by simp [h1])]
theorem Zdt {w:World} {ao:Option Addr} {cap:Nat} {t:List Int} (ht:Zh w ao t) (hm:t.length * 8<=140737488351232) :
  Calls Tryz.prog 174 #[.slice ao t.length cap] w λ e w' => ∃ v,e=.returned v∧Row w.heap.size w' v (Z3 t)∧Za w w' := by
 go_enter Tryz.func174,Tryz.ntmps174
 go_wp2
 go_loopw [3,4] (λ ov i wr=>∃ k:Nat,k<=t.length∧i=.int .i64 (k:Int)∧Row w.heap.size wr ov (Z3 (t.take k))∧Za w wr) (λ _ i _=>t.length-(intOf i).toNat)
 case atStart=>exact ⟨0,Nat.zero_le _,rfl,World.ownsRow_nil _ _ _ _,Zc.refl _ _⟩
 case round=>
  obtain ⟨k,hk,rfl,hr,hs⟩:=hrel;obtain ⟨oo,ocap,rfl⟩:=Zf hr
  by_cases hlt:k<t.length
  ·obtain ⟨b,off,rfl,_,hc⟩:=(ht.same hs).get hlt
   have i1:(0:Int)<=(k:Int):=by omega
   have i2:(k:Int)<(t.length:Int):=by omega
   have E:Hid (Z3 (t.take (k+1))=V2 (Z3 (t.take k)) t[k]):=Zq7 hlt;have hl:=Ze9 [] (t.take k);have hl2:(Z3 (t.take k)).length<=t.length:=by simp at hl;unfold Z3;omega
   have cV:=λ w' => Zsv t[k] w';clear hl;generalize hO:Z3 (t.take k)=O at *;generalize hX:t[k]=x at *;cases hv:isV x with
   | false=>
    have E1:Hid (Z3 (t.take (k+1))=O):=by rw [E.out];exact Zl6 hv
    rw [<- E1.out] at hr;simp only [hv] at cV;have hlE:=congrArg List.length E1.out;rw [<- hlE];clear hlE
    go_wp2_with (first | (go_at_call 183;refine (cV _).mono ?_;rintro e wr ⟨rfl,rfl⟩))
    go_roundw
    case rel=>first | exact ⟨k+1,by omega,by go_num,hr,hs⟩ | ((repeat apply Exists.intro);exact ⟨⟨k+1,by omega,by go_num,hr,hs⟩,rfl⟩)
    case measure=>simp [intOf];omega
   | true=>
    simp only [hv] at cV;have hx:=Zg1.1 hv;obtain ⟨oo', ocap', hvv,io,_,_⟩:=hr.ints;simp only [Value.slice.injEq,true_and] at hvv;obtain ⟨rfl,rfl⟩:=hvv;have cI:=Zqq (cap:=ocap) io (-x) (by unfold maxLen;omega);cases hin:inB O (-x) with
    | true=>
     have E1:Hid (Z3 (t.take (k+1))=O):=by rw [E.out];exact Zls hin
     rw [hin] at cI
     go_wp2_with (first | (go_at_call 183;refine (cV _).mono ?_;rintro e wr ⟨rfl,rfl⟩) | (go_at_call 175;refine cI.mono ?_;rintro e wr ⟨rfl,rfl⟩))
     rw [<- E1.out] at hr;have hrE:Row w.heap.size wr (.slice oo O.length ocap) (Z3 (t.take (k+1))):=by rw [E1.out] at hr ⊢;exact hr
     exact ⟨⟨k+1,by omega,by go_num,hrE,hs⟩,by simp [intOf];omega⟩
    | false=>
     have E1:Hid (Z3 (t.take (k+1))=O ++ [-x]):=by rw [E.out];exact Zid hv hin
     rw [hin] at cI;have hb8:(O.length+1) * 8<=140737488355328:=by omega
     have hss:=hs.size
     go_wp2_with (first | (go_at_call 183;refine (cV _).mono ?_;rintro e wr ⟨rfl,rfl⟩) | (go_at_call 175;refine cI.mono ?_;rintro e wr ⟨rfl,rfl⟩) | (at_builtin;refine Yo rfl _ _ 32 rfl Tryz.underlying32 w.heap.size O _ rfl hr (-x) rfl hss hb8 ?_;intro g gcap w4 hr4 hk4 _;have hs4:=hs.onto hr hk4))
     rw [<- E1.out] at hr4;go_roundw
     case rel=>first | exact ⟨k+1,by omega,by go_num,hr4,hs4⟩ | ((repeat apply Exists.intro);exact ⟨⟨k+1,by omega,by go_num,hr4,hs4⟩,rfl⟩)
     case measure=>simp [intOf];omega
  ·obtain rfl:k=t.length:=by omega
   rw [List.take_length] at hr;go_wp2;go_ret;refine ⟨_,rfl,?_,hs⟩
   simpa using hr
theorem Zfu:Tryz.zeroCells285=Array.replicate 100 (.bool false):=by kernel_rfl
def Zcf (w:World) (A:Nat) (o:List Int):Prop:=∃ cs,w.heap[A]? = some (.cells cs 285 (0,0))∧cs.size=100∧∀ v:Nat,1<=v->v<=99->cs[v]? = some (.bool (inB o (v:Int)))
theorem Zvn (w:World):Zcf (w.alloc (.cells Tryz.zeroCells285 285)) w.heap.size []:=by
 refine ⟨_,heap_alloc_new w _,by rw [Zfu];simp,λ v h1 h2=>?_⟩;rw [Zfu,Array.getElem?_replicate,if_pos (by omega)];simp [inB]
theorem Zcf.kept {w w' : World} {A:Nat} {o:List Int} {S:Nat->Prop} (h:Zcf w A o) (hk:Zc S w w') (hn:¬ S A):Zcf w' A o:=by
 obtain ⟨cs,h1,h2⟩:=h;exact ⟨cs,hk.at h1 hn,h2⟩
theorem Zcf.cell {w:World} {A:Nat} {o:List Int} (h:Zcf w A o) {v:Nat} (h1:1<=v) (h2:v<=99):w.cell? ⟨A,v,none⟩=some (.bool (inB o (v:Int)))∧w.frozen? ⟨A,v,none⟩=false:=by
 obtain ⟨cs,q1,q2,q3⟩:=h;exact ⟨(Zb q1 v).trans (q3 v h1 h2),Zd q1 v⟩
theorem Zcf.set {w:World} {A:Nat} {o:List Int} (h:Zcf w A o) {v:Nat} (h1:1<=v) (h2:v<=99):Zcf (w.setCell ⟨A,v,none⟩ (.bool true)) A (o ++ [(v:Int)]):=by
 obtain ⟨cs,q1,q2,q3⟩:=h;refine ⟨_,Zs q1 v _,by simpa using q2,λ u g1 g2=>?_⟩;rw [Array.getElem?_setIfInBounds]
 by_cases e:v=u
 ·subst e;rw [if_pos rfl,if_pos (by omega)];simp [inB]
 ·rw [if_neg e,q3 u g1 g2]
  congr 2;simp [inB];omega
theorem Zrf {w:World} {ao:Option Addr} {cap:Nat} {t:List Int} (ht:Zh w ao t) (hm:t.length * 8<=140737488351232) :
  Calls Tryz.prog 169 #[.slice ao t.length cap] w λ e w' => ∃ v,e=.returned v∧Row w.heap.size w' v (Z3 t)∧Za w w' := by
 have M0:=Zvn w;have K0:Za w (w.alloc (.cells Tryz.zeroCells285 285)):=(Zc.refl _ w).alloc _
 go_enter Tryz.func169,Tryz.ntmps169
 go_wp2
 go_loopw [4,9] (λ ov i wr=>∃ k:Nat,k<=t.length∧i=.int .i64 (k:Int)∧Row w.heap.size wr ov (Z3 (t.take k))∧Zcf wr w.heap.size (Z3 (t.take k))∧ov.ownBlock≠some w.heap.size∧Za w wr) (λ _ i _=>t.length-(intOf i).toNat)
 case atStart=>exact ⟨0,Nat.zero_le _,rfl,World.ownsRow_nil _ _ _ _,M0,by simp [Value.ownBlock],K0⟩
 case round=>
  clear M0 K0;obtain ⟨k,hk,rfl,hr,hM,hne,hs⟩:=hrel;obtain ⟨oo,ocap,rfl⟩:=Zf hr
  by_cases hlt:k<t.length
  ·obtain ⟨b,off,rfl,_,hc⟩:=(ht.same hs).get hlt
   have i1:(0:Int)<=(k:Int):=by omega
   have i2:(k:Int)<(t.length:Int):=by omega
   have E:Hid (Z3 (t.take (k+1))=V2 (Z3 (t.take k)) t[k]):=Zq7 hlt;have hl:=Ze9 [] (t.take k);have hl2:(Z3 (t.take k)).length<=t.length:=by simp at hl;unfold Z3;omega
   have cV:=λ w' => Je t[k] w';clear hl;generalize hO:Z3 (t.take k)=O at *;generalize hX:t[k]=x at *;cases hv:isV x with
   | false=>
    have E1:Hid (Z3 (t.take (k+1))=O):=by rw [E.out];exact Zl6 hv
    simp only [hv] at cV
    go_wp2_with (first | (go_at_call 135;refine (cV _).mono ?_;rintro e wr ⟨rfl,rfl⟩))
    have hrE:Row w.heap.size wr (.slice oo O.length ocap) (Z3 (t.take (k+1))):=by rw [E1.out];exact hr
    have hME:Zcf wr w.heap.size (Z3 (t.take (k+1))):=by rw [E1.out];exact hM
    exact ⟨⟨k+1,by omega,by go_num,hrE,hME,hne,hs⟩,by simp [intOf];omega⟩
   | true=>
    simp only [hv] at cV;have hx:=Zg1.1 hv;obtain ⟨v,rfl⟩:∃ v:Nat,x = -(v:Int):=⟨(-x).toNat,by omega⟩;have hv1:1<=v:=by omega
    have hv2:v<=99:=by omega
    obtain ⟨q1,q2⟩:=hM.cell hv1 hv2;have j1:(0:Int)<=(v:Int):=by omega
    have j2:(v:Int)<100:=by omega
    cases hin:inB O (v:Int) with
    | true=>
     have E1:Hid (Z3 (t.take (k+1))=O):=by rw [E.out];exact Zls (by simpa using hin)
     rw [hin] at q1
     go_wp2_with (first | (go_at_call 135;refine (cV _).mono ?_;rintro e wr ⟨rfl,rfl⟩))
     have hrE:Row w.heap.size wr (.slice oo O.length ocap) (Z3 (t.take (k+1))):=by rw [E1.out];exact hr
     have hME:Zcf wr w.heap.size (Z3 (t.take (k+1))):=by rw [E1.out];exact hM
     exact ⟨⟨k+1,by omega,by go_num,hrE,hME,hne,hs⟩,by simp [intOf];omega⟩
    | false=>
     have E1:Hid (Z3 (t.take (k+1))=O ++ [(v:Int)]):=by show _=_;rw [E.out,Zid hv (by simpa using hin)];simp
     rw [hin] at q1;have hb8:(O.length+1) * 8<=140737488355328:=by omega
     have hMs:=hM.set hv1 hv2;have ks:Zc (λ k=>k=w.heap.size) wr (wr.setCell ⟨w.heap.size,v,none⟩ (.bool true)):=Zc.setCell (S:=λ k=>k=w.heap.size) (p:=⟨w.heap.size,v,none⟩) (Zc.refl _ _) (λ _=>rfl) _;have hrs:Row w.heap.size (wr.setCell ⟨w.heap.size,v,none⟩ (.bool true)) (.slice oo O.length ocap) O:=ks.row hr (λ k e e' => hne (by rw [e,e']));have hss:Za w (wr.setCell ⟨w.heap.size,v,none⟩ (.bool true)):=hs.own (Nat.le_refl _) _;have hsz:=hss.size;have hAl:w.heap.size<wr.heap.size:=by obtain ⟨cs,q,_⟩:=hM;exact Zi q
     have E3:Hid ((wr.setCell ⟨w.heap.size,v,none⟩ (.bool true)).heap.size=wr.heap.size):=by show _=_;simp [World.setCell]
     clear hM hr
     go_wp2_with (first | (go_at_call 135;refine (cV _).mono ?_;rintro e wr ⟨rfl,rfl⟩) | (at_builtin;refine Yo rfl _ _ 32 rfl Tryz.underlying32 w.heap.size O (.slice oo O.length ocap) rfl hrs (v:Int) (by rw [E3.out];rfl) hsz hb8 ?_;intro g gcap w4 hr4 hk4 hat4;have hs4:=hss.onto hrs hk4))
     have hM4:Zcf w4 w.heap.size (O ++ [(v:Int)]):=hMs.kept hk4 hne
     have hne4:Value.ownBlock (.slice (some ⟨g,0,none⟩) (O.length+1) gcap)≠some w.heap.size:=by
      simp only [Value.ownBlock,ne_eq,Option.some.injEq]
      rcases hat4 with e | e
      ·intro e'; exact hne (by rw [e,e'])
      ·have e3:=E3.out
       omega
     rw [<- E1.out] at hr4 hM4;go_roundw
     case rel=>first | exact ⟨k+1,by omega,by go_num,hr4,hM4,hne4,hs4⟩ | ((repeat apply Exists.intro);exact ⟨⟨k+1,by omega,by go_num,hr4,hM4,hne4,hs4⟩,rfl⟩)
     case measure=>simp [intOf];omega
  ·obtain rfl:k=t.length:=by omega
   rw [List.take_length] at hr;go_wp2;go_ret;refine ⟨_,rfl,?_,hs⟩
   simpa using hr
def Lists (w:World) (lo:Option Addr) (ls:List (List Int)):Prop:=
 ls=[]∨∃ b off,lo=some ⟨b,off,none⟩∧b<w.heap.size∧∀ i (h:i<ls.length),∃ ao cap,w.cell? ⟨b,off+i,none⟩=some (.slice ao ls[i].length cap)∧Zh w ao ls[i]∧(ao=none->ls[i].length=0∧cap=0)
structure PlAt (s:Nat) (wr:World) (g n:Nat) (cs:List Value) (done:List (List Int)):Prop where
 row:wr.ownsRow s 64 1 (.slice (some ⟨g,0,none⟩) n n) n cs
 len:done.length<=n
 each:∀ j (h:j<done.length),∃ v,cs[j]? = some v∧Row s wr v done[j]∧v.ownBlock≠some g
 apart:∀ i j vi vj,i<done.length->j<done.length->i≠j->cs[i]? = some vi->cs[j]? = some vj->∀ k,vi.ownBlock=some k->vj.ownBlock≠some k
def Over (base g n:Nat) (w wr:World):Prop:=(∃ ys,wr.ownsRow base 3 1 (.slice (some ⟨g,0,none⟩) n n) n ys)∧Zc (λ k=>k=g) w wr
theorem Xg {w0:World} {ops:Array Oper} {rest:List Oper} {o:Oper} {a:Act} {Q:Exit->Act->World->Prop} (hgd:o.guard=none) (s x:Operand) (t:TypeId)
  (ho:o.op=.call { callee:=.builtin .append,args:=#[s,x],argTypes:=#[t,t] }) (ht:Tryz.prog.underlying t=some (.slice 3))
  (base:Nat) (xs:List Int) (v:Value) (hs:a.eval s=v) (hr:Row base w0 v xs) (ys:List Int) (ad:Addr) (m c:Nat) (hx:a.eval x=.slice (some ad) m c) (hm:m=ys.length) (hy:Zh w0 (some ad) ys) (hb:base<=w0.heap.size) (hsz:(xs.length+ys.length) * 8<=140737488355328)
  (h:∀ v' w', Row base w' v' (xs++ys)->Zc (λ k=>v.ownBlock=some k) w0 w' -> wpList Tryz.prog ops Q rest (a.put o.dst v') w') :
  wpList Tryz.prog ops Q (o :: rest) a w0:=by
 subst hm;obtain ⟨i,hi,hz0,hz1,hz2⟩:=info_parts Xr;refine wpList_append_own _ hgd s x t ho base 3 i (.int .i64 0) 1 8 ht hi hz0 hz1 hz2 rfl (by decide) v xs.length (iv xs) hs hr ad ys.length c (iv ys) hx (by rw [Vc];omega) (λ j u hj=>?_) (Zb1 ys) (by unfold maxLen;omega) hsz hb ?_
 ·obtain ⟨ad', e,hc⟩:=hy.src (by have:=(List.getElem?_eq_some_iff.1 hj).1;omega)
  cases e
  exact hc j u hj
 ·intro v' w' hown hgrow _
  refine h v' w' ?_ (Zc.grown (Zc.refl _ w0) hgrow (λ _ e _=>e));unfold Row;rw [Vd,List.length_append];exact hown
theorem Zbb (w:World) (base:Nat) (hb:base<=w.heap.size) {o:Obj} (ho:o=.cells #[] 3 (0,0)):Row base (w.alloc o) (.slice (some ⟨w.heap.size,0,none⟩) 0 0) []:=by
 subst ho;exact ⟨rfl,.inr ⟨w.heap.size,0, #[],rfl,hb,heap_alloc_new w _,Nat.le_refl _,by unfold maxLen;omega,rfl,rfl⟩⟩
theorem Ztc {n:Nat} {w:World} {rv:Value} {L:List Sym} (h:Rl n w rv L) {ao uo:Option Addr} {cap ucap:Nat} {t u:List Int} (ht:Zh w ao t) (hm:t.length<=2000) (hcap:t.length<=cap) (hT:IsT L t) (p:Nat) (hp:p<t.length) (hu:Zh w uo u) (hum:u.length<=2000) (hun:0<u.length) :
  Calls Tryz.prog 89 #[rv,.slice ao t.length cap,.int .i64 (p:Int),.slice uo u.length ucap] w λ e w' => ∃ v,e=.returned v∧Row w.heap.size w' v (Zco L t p u)∧Za w w' := by
 have c2:∀ w1,Za w w1->Calls Tryz.prog 67 #[rv,.slice ao t.length cap,.int .i64 (p:Int)] w1 λ e w' => e=.returned (.int .i64 (Zq L t p:Int))∧w' = w1:=λ w1 hk=>Zgp (cap:=cap) (h.same hk) (ht.same hk) hm p (by omega)
 obtain ⟨ro,rcap,rfl⟩:=Zf h.1;obtain ⟨hl1,hl2⟩:=Zax hT hp;obtain ⟨tb,off,rfl,htb,hc⟩:=ht.get hp;obtain ⟨ub,uoff,rfl,_,_⟩:=hu.get (i:=0) hun;have i0:¬ (p:Int)<0:=by omega
 have i1:(0:Int)<=(p:Int):=by omega
 have i3:(Zq L t p:Int)<=(t.length:Int):=by omega
 have i4:(0:Int)<=(Zq L t p:Int):=by omega
 have i5:(p:Int)<(t.length:Int):=by omega
 have i6:(p:Int)<=(cap:Int):=by omega
 have k0:Za w (w.alloc (.cells #[] 3)):=(Zc.refl _ w).alloc _;have r0:Row w.heap.size (w.alloc (.cells #[] 3)) (.slice (some ⟨w.heap.size,0,none⟩) 0 0) []:=Zbb w _ (Nat.le_refl _) rfl;have cI:Zh (w.alloc (.cells #[] 3)) (some ⟨tb,off,none⟩) (t.take p):=by simpa using (ht.same k0).cut 0 p
 have tail:∀ w1 (a2:Option Addr),Za w w1->(a2=some ⟨tb,off+Zq L t p,none⟩∨cap=Zq L t p)->Zh w1 a2 (t.drop (Zq L t p)):=λ w1 a2 hk e=>by
  rcases e with rfl | e
  ·simpa using (ht.same hk).cut (Zq L t p) t.length
  ·rw [List.drop_eq_nil_of_le (by omega)];exact Zh.nil _ _
 have z0:=k0.size;have l1:(t.take p).length=p:=by simp;omega
 have H:Hid (Zco L t p u=(t.take p++u)++t.drop (Zq L t p)):=rfl;have l2:(t.drop (Zq L t p)).length=t.length-Zq L t p:=by simp
 have HT:Hid (∀ w1 (a2:Option Addr),Za w w1->(a2=some ⟨tb,off+Zq L t p,none⟩∨cap=Zq L t p)->Zh w1 a2 (t.drop (Zq L t p))):=tail;have HC:Hid (∀ w1,Za w w1->Calls Tryz.prog 67 #[.slice ro L.length rcap,.slice (some ⟨tb,off,none⟩) t.length cap,.int .i64 (p:Int)] w1 λ e w' => e=.returned (.int .i64 (Zq L t p:Int))∧w' = w1):=c2;clear tail c2
 go_enter Tryz.func89,Tryz.ntmps89
 go_upto_region 4 with (first
   | (at_builtin;refine Xg rfl (.tmp 18) (.tmp 21) 64 rfl Tryz.underlying64 w.heap.size [] _ rfl r0 (t.take p) _ _ _ rfl (by omega) cI z0 (by simp;omega) ?_;intro v1 w1 hr1 hk1))
 rw [List.nil_append] at hr1;have s1:=k0.onto r0 hk1;have u1:=hu.same s1;have z1:=s1.size;clear r0 cI hk1 k0 z0
 go_upto_region 5 with (first
   | (at_builtin;refine Xg rfl (.tmp 23) (.tmp 24) 64 rfl Tryz.underlying64 w.heap.size (t.take p) v1 rfl hr1 u _ _ _ rfl rfl u1 z1 (by omega) ?_;intro v2 w2 hr2 hk2))
 have s2:=s1.onto hr1 hk2;have z2:=s2.size;have c3:=HC.out _ s2;have B3:Hid (((t.take p++u).length+(t.drop (Zq L t p)).length) * 8<=140737488355328):=by show _<=_;rw [List.length_append,l1,l2];omega
 have B4:Hid (t.length-Zq L t p=(t.drop (Zq L t p)).length):=l2.symm;clear l1 l2;clear hr1 hk2 u1 z1 HC
 by_cases hcb:cap=Zq L t p
 ·have t2:=HT.out _ (some ⟨tb,off,none⟩) s2 (.inr hcb)
  have B5:Hid (0=(t.drop (Zq L t p)).length):=by have:=B4.out;show _=_;omega
  clear HT;subst hcb
  go_wp2_with (first
   | (go_at_call 67;refine c3.mono ?_;rintro e w' ⟨rfl,rfl⟩)
   | (at_builtin;refine Xg rfl (.tmp 26) (.tmp 32) 64 rfl Tryz.underlying64 w.heap.size (t.take p++u) v2 rfl hr2 (t.drop (Zq L t p)) _ _ _ rfl (by first | exact B4.out | exact B5.out) t2 z2 B3.out ?_;intro v3 w3 hr3 hk3))
  go_ret;exact ⟨_,rfl,by rw [H.out];exact hr3,s2.onto hr2 hk3⟩
 ·have t2:=HT.out _ (some ⟨tb,off+Zq L t p,none⟩) s2 (.inl rfl)
  clear HT
  go_wp2_with (first
   | (go_at_call 67;refine c3.mono ?_;rintro e w' ⟨rfl,rfl⟩)
   | (at_builtin;refine Xg rfl (.tmp 26) (.tmp 32) 64 rfl Tryz.underlying64 w.heap.size (t.take p++u) v2 rfl hr2 (t.drop (Zq L t p)) _ _ _ rfl (by first | exact B4.out | exact B5.out) t2 z2 B3.out ?_;intro v3 w3 hr3 hk3))
  go_ret;exact ⟨_,rfl,by rw [H.out];exact hr3,s2.onto hr2 hk3⟩
def TabV (N:Nat) (w:World) (cs:Array Value) (σ:Tb):Prop:=cs.size=100∧∀ v,v<100->∃ ao cap,cs[v]? = some (.slice ao (σ v).length cap)∧Zh w ao (σ v)∧(σ v).length<=cap∧(σ v=[]->ao=none∧cap=0)∧∀ a,ao=some a->a.block<N
def TabAt (N:Nat) (w:World) (A:Nat) (σ:Tb):Prop:=∃ cs,w.heap[A]? = some (.cells cs 144 (0,0))∧TabV N w cs σ
theorem eqnil (w:World) (a:Option Addr) (n c n' c' : Nat):(binOp .eql 64 (.slice a n c) (.slice none n' c')).run Tryz.prog w=.ok (.bool a.isNone) w:=Lib.run_eql_slice_nil w _ _ a n c n' c' Tryz.underlying64
def Bnd (σ:Tb):Prop:=∀ v,(σ v).length<=2000
theorem Zfe {w:World} {ao:Option Addr} {cap:Nat} {xs:List Int} (hx:Zh w ao xs) (hn:0<xs.length) (hsz:xs.length<=2000) :
  Calls Tryz.prog 94 #[.slice ao xs.length cap] w λ e w' => ∃ v,e=.returned v∧Row w.heap.size w' v xs∧Za w w' := by
 obtain ⟨xb,off,rfl,hxb,hc⟩:=hx.get hn;have k0:Za w (w.alloc (.cells #[] 3)):=(Zc.refl _ w).alloc _;have r0:Row w.heap.size (w.alloc (.cells #[] 3)) (.slice (some ⟨w.heap.size,0,none⟩) 0 0) []:=Zbb w _ (Nat.le_refl _) rfl;have cI:=hx.same k0;have z0:=k0.size;have hnil:=eqnil
 go_enter Tryz.func94,Tryz.ntmps94
 go_wp2_with (first | (at_builtin;refine Xg rfl _ _ 64 rfl Tryz.underlying64 w.heap.size [] _ rfl r0 xs _ _ _ rfl rfl cI z0 (by simp;omega) ?_;intro v' w4 hr4 hk4))
 go_ret;exact ⟨_,rfl,by simpa using hr4,k0.onto r0 hk4⟩
structure Zqs (N:Nat) (w:World) (aB tB sB A b:Nat) (L:List Sym) (ao:Option Addr) (cap:Nat) (u:List Int) (k:Nat) (σ:Tb):Prop where
 a0:w.heap[aB]? = some (.cells #[.int .i64 (k:Int)] 3 (0,0))
 t0:w.heap[tB]? = some (.cells #[.slice ao u.length cap] 64 (0,0))
 s0:w.heap[sB]? = some (.cells #[.pointer (some ⟨b,0,none⟩)] 25 (0,0))
 tab:TabAt N w A σ
 ints:Zh w ao u
 ub:∀ a,ao=some a->a.block<N
 uc:u.length<=cap
 um:u.length<=2000
 sg:Sg N w b L
 ne:N<=aB∧N<=tB∧N<=sB∧N<=A∧aB≠tB∧aB≠sB∧aB≠A∧tB≠A∧sB≠A
theorem Zqs.cells {N:Nat} {w:World} {aB tB sB A b:Nat} {L:List Sym} {ao:Option Addr} {cap:Nat} {u:List Int} {k:Nat} {σ:Tb} (h:Zqs N w aB tB sB A b L ao cap u k σ) :
  w.cell? ⟨aB,0,none⟩=some (.int .i64 (k:Int))∧w.frozen? ⟨aB,0,none⟩=false∧w.cell? ⟨tB,0,none⟩=some (.slice ao u.length cap)∧w.cell? ⟨sB,0,none⟩=some (.pointer (some ⟨b,0,none⟩)):=
 ⟨Zb h.a0 0,Zd h.a0 0,Zb h.t0 0,Zb h.s0 0⟩
structure WalkAt (Z:Array Value) (w wr:World) (b:Nat) (L:List Sym) (po:Option Addr) (p:List Int) (ao:Option Addr) (cap:Nat) (u:List Int) (i k:Nat) (σ:Tb):Prop where
 pass:Zqs w.heap.size wr (w.heap.size+1+1+1+1) (w.heap.size+1) w.heap.size (w.heap.size+1+1+1) b L ao cap u k σ
 res:wr.heap[w.heap.size+1+1]? = some (.cells Z 144 (0,0))
 pat:Zh wr po p
 mw:Proofs.YtjahpnbijefncaaGreat.mw L p u noT=Proofs.YtjahpnbijefncaaGreat.mw L (p.drop i) (u.drop k) σ
 even:Even L (p.drop i) (u.drop k)
 kle:k<=u.length
 bnd:Bnd σ
 kept:Zc (From w.heap.size) w wr
def bcells (l:List (Int × Value)):List Value:=l.flatMap (λ p=>[.int .i64 p.1,p.2])
structure BOwn (base:Nat) (w:World) (v:Value) (l:List (Int × Value)) (bs:List Bd):Prop where
 row:w.ownsRow base 201 2 v l.length (bcells l)
 len:l.length=bs.length
 each:∀ i (h:i<l.length) (h' : i<bs.length),l[i].1=bs[i].1∧Row base w l[i].2 bs[i].2∧∀ k,l[i].2.ownBlock=some k->v.ownBlock≠some k
 apart:∀ i j (hi:i<l.length) (hj:j<l.length),i≠j->∀ k,l[i].2.ownBlock=some k->l[j].2.ownBlock≠some k
end
end Go.Proofs.YtjahpnbijefncaaGreat
