import Derived.Test.YtjahpnbijefncaaGreatCC04
namespace Go.Proofs.YtjahpnbijefncaaGreat
set_option maxRecDepth 100000
set_option linter.unusedVariables false
set_option maxHeartbeats 8000000
section
open Go.RowKit
attribute [local go_sem ↓] Go.wp_at_zero Go.wp_at_succ
def tabF (L:List Sym):List Bd->Tb->Except Int Tb
 | [],σ=>.ok σ
 | b :: r,σ=>if b.1<1∨99<b.1∨σ b.1.toNat≠[] then .error 50 else if Ze L b.2≠0 then .error (Ze L b.2) else tabF L r (updT σ b.1.toNat b.2)
structure TabW (Z:Array Value) (w wr:World) (L:List Sym) (bs:List Bd) (i:Nat) (σ:Tb):Prop where
 tab:TabAt w.heap.size wr (w.heap.size+1) σ
 res:wr.heap[w.heap.size]? = some (.cells Z 144 (0,0))
 eq:tabF L bs noT=tabF L (bs.drop i) σ
 bnd:Bnd σ
 kept:Za w wr
end
def vn (n:Int):Nat:=(-n).toNat
section
open Go.RowKit
attribute [local go_sem ↓] Go.wp_at_zero Go.wp_at_succ
end
structure Ren (f f' : Int->Int) (n:Int):Prop where
 back:f' (f n)=n
 neg:n<0->f n<0
 pos:0<=n->f n=n
theorem Zqf {f f' : Int->Int} {o:List Int} {x:Int} (ho:∀ n∈o,Ren f f' n) (hx:Ren f f' x):f x∈o.map f ↔ x∈o:=by
 rw [List.mem_map];constructor
 ·rintro ⟨y,hy,e⟩
  have:=congrArg f' e;rw [(ho y hy).back,hx.back] at this;rw [<- this];exact hy
 ·intro h;exact ⟨x,h,rfl⟩
theorem Zox {f f' : Int->Int}:∀ {o:List Int} {x:Int},(∀ n∈o,Ren f f' n)->Ren f f' x->(o.map f).idxOf (f x)=o.idxOf x
 | [],x,_,_=>rfl
 | y :: r,x,ho,hx=>by
  rw [List.map_cons,List.idxOf_cons,List.idxOf_cons,Zox (λ n hn=>ho n (by simp [hn])) hx]
  by_cases e:y=x
  ·subst e;simp
  ·have:¬ f y=f x:=λ g=>e (by have:=congrArg f' g;rwa [(ho y (by simp)).back,hx.back] at this)
   have h1:(y == x)=false:=by simpa using e
   have h2:(f y == f x)=false:=by simpa using this
   rw [h1,h2]
theorem Zu7 {f f' : Int->Int} (u:List Int):∀ (o:List Int),(∀ n∈o,Ren f f' n)->(∀ n∈u,Ren f f' n)->wrF (o.map f) (u.map f)=wrF o u:=by
 induction u with
 | nil=>intro o _ _;rfl
 | cons x r ih=>
  intro o ho hu;have hx:=hu x (by simp)
  have ev:vzs (o.map f) (f x)=(vzs o x).map f:=by
   unfold vzs
   by_cases h:x<0∧¬ x∈o
   ·rw [if_pos h,if_pos ⟨hx.neg h.1,λ g=>h.2 ((Zqf ho hx).1 g)⟩];simp
   ·rw [if_neg h,if_neg (λ g=>h ⟨by
     by_cases q:x<0
     ·exact q
     ·have:=hx.pos (by omega);omega,λ q=>g.2 ((Zqf ho hx).2 q)⟩)]
  have hv:∀ n∈vzs o x,Ren f f' n:=by
   intro n hn;unfold vzs at hn;split at hn
   ·rcases List.mem_append.1 hn with q | q
    ·exact ho n q
    ·simp only [List.mem_cons,List.not_mem_nil,or_false] at q;subst q;exact hx
   ·exact ho n hn
  rw [List.map_cons,wrF,wrF,ev,ih _ hv (λ n hn=>hu n (by simp [hn]))];congr 1;unfold rn
  by_cases h:x<0
  ·rw [if_pos h,if_pos (hx.neg h),Zox hv hx]
  ·rw [if_neg h,if_neg (by rw [hx.pos (by omega)];exact h),hx.pos (by omega)]
theorem Zgr {L:List Sym} {g:Int->List Int}:∀ (u:List Int),(∀ n∈u,n<0->IsT L (g n))->(Vl g u).length=u.length->Vl g u=u.map (λ n=>if n<0 then (g n).headD 0 else n)
 | [],_,_=>rfl
 | n :: r,h,e=>by
  have h1:=Zc8 r (λ m hm=>h m (by simp [hm]));rw [Yn,List.length_append,List.length_cons] at e;rw [Yn,List.map_cons]
  by_cases hn:n<0
  ·have h2:=Z6 (h n (by simp) hn)
   rw [if_pos hn] at e ⊢;rw [if_pos hn];have h3:(g n).length=1:=by omega
   obtain ⟨y,hy⟩:=List.length_eq_one_iff.1 h3;rw [Zgr r (λ m hm=>h m (by simp [hm])) (by omega),hy];rfl
  ·rw [if_neg hn] at e ⊢
   rw [if_neg hn];simp only [List.length_cons,List.length_nil] at e;rw [Zgr r (λ m hm=>h m (by simp [hm])) (by omega)];rfl
theorem Zi1 {L:List Sym} {u v:List Int} {g g' : Int->List Int} (h1:∀ n∈u,n<0->IsT L (g n)) (h2:∀ n∈v,n<0->IsT L (g' n)) (e1:v=Vl g u) (e2:u=Vl g' v):wrF [] v=wrF [] u:=by
 have l1:=Zc8 u h1;have l2:=Zc8 v h2;rw [<- e1] at l1;rw [<- e2] at l2;have m1:=Zgr u h1 (by rw [<- e1];omega);have m2:=Zgr v h2 (by rw [<- e2];omega);rw [<- e1] at m1;rw [<- e2] at m2;obtain ⟨f,hf⟩:∃ f:Int->Int,f=λ n=>if n<0 then (g n).headD 0 else n:=⟨_,rfl⟩
 obtain ⟨f', hf'⟩:∃ f:Int->Int,f=λ n=>if n<0 then (g' n).headD 0 else n:=⟨_,rfl⟩
 rw [<- hf] at m1;rw [<- hf'] at m2
 have hb:∀ n∈u,f' (f n)=n:=by
  have:u=u.map (λ n=>f' (f n)):=by rw [m1,List.map_map] at m2;exact m2
  intro n hn;obtain ⟨i,hi,rfl⟩:=List.getElem_of_mem hn;have h3:=congrArg (λ l=>l[i]?) this;simp only [List.getElem?_map,List.getElem?_eq_getElem hi,Option.map_some,Option.some.injEq] at h3;exact h3.symm
 have hpos:∀ n,0<=n->f n=n:=λ n hn=>by rw [hf];simp only;rw [if_neg (by omega)]
 have hpos' : ∀ n,0<=n->f' n=n:=λ n hn=>by rw [hf'];simp only;rw [if_neg (by omega)]
 have hr:∀ n∈u,Ren f f' n:=λ n hn=>⟨hb n hn,λ hn0=>by
  by_cases q:f n<0
  ·exact q
  ·have:=hb n hn;rw [hpos' _ (by omega)] at this;omega,hpos n⟩
 have:=Zu7 u [] (by simp) hr;rw [m1];exact this
theorem Zhi {α:Type} (f:Int->List Int) (g:α->List Int) (l:List α):Vl f (l.flatMap g)=l.flatMap (λ k=>Vl f (g k)):=by
 induction l with
 | nil=>rfl
 | cons x r ih=>rw [List.flatMap_cons,List.flatMap_cons,Zan,ih]
theorem Zom (f:Int->List Int) {ap:Int} (h:0<=ap) (b:List Int):Vl f (b.map (shF ap))=Vl (λ n=>f (n-ap)) b:=by
 induction b with
 | nil=>rfl
 | cons n r ih=>
  rw [List.map_cons,Yn,Yn,ih];congr 1;unfold shF
  by_cases hn:n<0
  ·rw [if_pos hn,if_pos (by omega),if_pos hn]
  ·rw [if_neg hn,if_neg hn,if_neg hn]
def Zqp (L:List Sym) (a b:List Int) (ap:Int) (u:List Int):Prop:=∃ ld k,Zeu L (jl a b ap) a.length=some (ld,k)∧Jt L (jl a b ap) a.length ld∧Val L (jl a b ap) ld 0 u∧k=min (u.length:Int) 2001
theorem Zqp.uniq {L:List Sym} {a b:List Int} {ap:Int} {u v:List Int} (h:Zqp L a b ap u) (k:Zqp L a b ap v):u=v:=by
 obtain ⟨ld,k1,h1,_,h2,_⟩:=h;obtain ⟨ld', k2,g1,_,g2,_⟩:=k;rw [h1] at g1;simp only [Option.some.injEq,Prod.mk.injEq] at g1;obtain ⟨rfl,rfl⟩:=g1;exact h2.uniq g2
theorem com_u {L:List Sym} {a b:List Int} {ap:Nat} (hap:ap<=99) (ha:Ze L a=0) (hb:Ze L b=0):Zeu L (jl a b ap) a.length=none∨∃ u,Zqp L a b ap u:=by
 obtain ⟨x1,x2,x3⟩:=Zg.1 ha;obtain ⟨y1,y2,y3⟩:=Zg.1 hb;have hT:=Zcn (apart:=(ap:Int)) (by omega) x3 y3
 have hv:∀ x∈jl a b ap, -198<=x:=by
  intro x hx;unfold jl at hx
  rcases List.mem_append.1 hx with e | e
  ·have:=(Z4.1 x2 x e).2;omega
  ·obtain ⟨y,hy,rfl⟩:=List.mem_map.1 e
   have:=(Z4.1 y2 y hy).2;unfold shF;split <;> omega
 have p1:=Z6 x3;have p2:=Z6 y3;have hl:(jl a b ap).length=a.length+b.length:=by simp [jl]
 cases hs:Zeu L (jl a b ap) a.length with
 | none=>exact .inl rfl
 | some v=>
  obtain ⟨ld,k⟩:=v;right;obtain ⟨res,hU,hR1,hR2⟩:=(Zjp hT hv (m:=a.length) (by omega) (by omega)).uni;cases res with
  | none=>rw [hR1 rfl] at hs;cases hs
  | some ld' =>
   obtain ⟨g1,k', sz', g2,g3,g4⟩:=hR2 ld' rfl
   by_cases e:k' = -1
   ·rw [g3 e] at hs;cases hs
   ·obtain ⟨f1,u,f2,f3⟩:=g4 e
    rw [f1] at hs;simp only [Option.some.injEq,Prod.mk.injEq] at hs;obtain ⟨rfl,rfl⟩:=hs;exact ⟨u,ld', k', f1,Zi6 hv (by omega) (by omega) hU,f2,f3⟩
theorem Zh2 {L:List Sym} {a b:List Int} (ha:Ze L a=0) (hb:Ze L b=0) {ap:Nat} (hap:ap<=99):∀ x∈jl a b ap, -198<=x:=by
 intro x hx;unfold jl at hx
 rcases List.mem_append.1 hx with e | e
 ·have:=(Z4.1 (Zg.1 ha).2.1 x e).2;omega
 ·obtain ⟨y,hy,rfl⟩:=List.mem_map.1 e
  have:=(Z4.1 (Zg.1 hb).2.1 y hy).2;unfold shF;split <;> omega
theorem Zsp {L:List Sym} {a b:List Int} (ha:Ze L a=0) (hb:Ze L b=0) {fa fb:Int->List Int} (ta:∀ n∈a,n<0->IsT L (fa n)) (tb:∀ n∈b,n<0->IsT L (fb n)) {T:List Int} (e1:Vl fa a=T) (e2:Vl fb b=T) :
  ∃ u g,Zqp L a b 99 u∧T=Vl g u∧(∀ n∈u,n<0->IsT L (g n)):=by
 obtain ⟨x1,x2,x3⟩:=Zg.1 ha;obtain ⟨y1,y2,y3⟩:=Zg.1 hb;have hT:=Zcn (apart:=(99:Int)) (by omega) x3 y3;have hv:∀ x∈jl a b 99, -198<=x:=Zh2 ha hb (ap:=99) (by omega);have p1:=Z6 x3;have p2:=Z6 y3;have hl:(jl a b 99).length=a.length+b.length:=by simp [jl]
 obtain ⟨vv,hvv⟩:∃ vv:Int->List Int,vv=λ n=>if -99<=n then (if n∈a then fa n else [n]) else (if n+99∈b then fb (n+99) else [n]):=⟨_,rfl⟩
 have vT:∀ n,n<0->IsT L (vv n):=by
  intro n hn;rw [hvv];simp only
  by_cases h : -99<=n
  ·rw [if_pos h]
   by_cases q:n∈a
   ·rw [if_pos q];exact ta n q hn
   ·rw [if_neg q];exact Zd7 L hn
  ·rw [if_neg h]
   by_cases q:n+99∈b
   ·rw [if_pos q];exact tb _ q (by omega)
   ·rw [if_neg q];exact Zd7 L hn
 have va:Vl vv a=T:=by
  rw [<- e1];refine Jr a (λ n hn h0=>?_);rw [hvv];simp only;rw [if_pos ((Z4.1 x2 n hn).2),if_pos hn]
 have vb:Vl vv (b.map (shF 99))=T:=by
  rw [Zom vv (by omega),<- e2];refine Jr b (λ n hn h0=>?_);rw [hvv];simp only;rw [if_neg (by omega),if_pos (by rw [Int.sub_add_cancel];exact hn),Int.sub_add_cancel]
 obtain ⟨val,hval⟩:∃ val:Int->List Int,val=λ x=>if x<0 then vv x else Vl vv (Zkx L (jl a b 99) x.toNat):=⟨_,rfl⟩
 have vn:∀ n,n<0->val n=vv n:=λ n hn=>by rw [hval];simp only;rw [if_pos hn]
 have vp:∀ p:Nat,val p=Vl vv (Zkx L (jl a b 99) p):=λ p=>by rw [hval];simp only;rw [if_neg (by omega),Int.toNat_natCast]
 have hg:Good L (jl a b 99) val:=by
  refine ⟨λ p hp hs=>?_,λ p hp hs=>?_,λ x hx=>?_⟩
  ·rw [vp,Zgt hT hp,Yn,if_neg (by omega),Zhi]
   simp only [vp];rfl
  ·rw [vp,Zgt hT hp,Yn,if_pos hs,vn _ hs]
   have:Zm L (jl a b 99) p=[]:=by unfold Zm;rw [show arN L (at' (jl a b 99) p)=0 by unfold arN;rw [if_pos hs]];rfl
   rw [this];simp [Vl]
  ·by_cases h:x<0
   ·rw [vn x h];exact vT x h
   ·obtain ⟨p,rfl⟩:=Int.eq_ofNat_of_zero_le (Int.not_lt.1 h)
    have:=vp p;show IsT L (val (p:Int));rw [this];unfold IsT;rw [Zd6 _ (λ n _ hn=>vT n hn)];exact Zp6 hT (by have:=hx.2;omega)
 have c0:val 0=T:=by
  have:=vp 0;rw [show ((0:Nat):Int)=0 from rfl] at this;rw [this,<- va];congr 1;unfold Zkx;rw [show Zq L (jl a b 99) 0=a.length from Zep (b:=b.map (shF 99)) x3];unfold jl;rw [List.drop_zero,Nat.sub_zero,List.take_left]
 have cm:val (a.length:Nat)=T:=by
  rw [vp,<- vb];congr 1;unfold Zkx;rw [show Zq L (jl a b 99) a.length=a.length+(b.map (shF 99)).length from Zcg (a:=a) (Zl9 (by omega) y3)];unfold jl;rw [List.drop_left,Nat.add_sub_cancel_left,List.take_length]
 obtain ⟨ld,k,u,hs,hcl,hu,hk,he,_⟩:=Zl4 hT hv (m:=a.length) (by omega) (by omega) hg (by rw [c0,cm]);refine ⟨u,val,⟨ld,k,hs,hcl,hu,hk⟩,by rw [<- c0];exact he,λ n hn h0=>?_⟩;rw [vn n h0];exact vT n h0
theorem Ztg {L:List Sym} {a b:List Int} (ha:Ze L a=0) (hb:Ze L b=0) {ap:Nat} (hap:ap<=99) {u:List Int} (h:Zqp L a b ap u):∃ f:Int->List Int,(∀ n,n<0 -> -198<=n->IsT L (f n))∧u=Vl f a∧u=Vl (λ n=>f (n-ap)) b∧IsT L u∧(∀ n∈u,0<=n->n<(L.length:Int)):=by
 obtain ⟨x1,x2,x3⟩:=Zg.1 ha;obtain ⟨y1,y2,y3⟩:=Zg.1 hb;obtain ⟨ld,k,h1,hc,hu,h3⟩:=h;have p1:=Z6 x3;have hl:(jl a b ap).length=a.length+b.length:=by simp [jl]
 obtain ⟨f,hf⟩:=Zii L (jl a b ap) ld;obtain ⟨e1,e2⟩:=Zl7 (by omega) x3 y3 hc hf hu;have p0:Z2 (jl a b ap) 0:=Zn (p:=0) (by omega);refine ⟨f,λ n hn h=>hf.isT hc.trs hc.ok hn ⟨h,by omega⟩,e1,by rw [<- Zom f (by omega)];exact e2,hu.isT hc.trs hc.ok p0,λ n hn h0=>?_⟩
 rcases hu.in hc.trs hc.ok p0 n hn with ⟨q,_⟩ | ⟨_,q⟩
 ·omega
 ·unfold jl at q
  rcases List.mem_append.1 q with e | e
  ·exact (Z4.1 x2 n e).1
  ·obtain ⟨y,hy,hy2⟩:=List.mem_map.1 e
   have:=(Z4.1 y2 y hy).1;unfold shF at hy2;split at hy2 <;> omega
theorem Zt3 {L:List Sym} {a b:List Int} (ha:Ze L a=0) (hb:Ze L b=0) {u:List Int} (h:Zqp L b a 99 u):∃ v,Zqp L a b 99 v∧v.length=u.length∧wrF [] u=wrF [] v:=by
 have step:∀ (a b:List Int),Ze L a=0->Ze L b=0->∀ u,Zqp L b a 99 u->∃ v g,Zqp L a b 99 v∧u=Vl g v∧(∀ n∈v,n<0->IsT L (g n)):=by
  intro a b ha hb u h;obtain ⟨f,h1,h2,h3,_⟩:=Ztg hb ha (ap:=99) (by omega) h;have la:=λ n hn=>(Z4.1 (Zg.1 ha).2.1 n hn).2;have lb:=λ n hn=>(Z4.1 (Zg.1 hb).2.1 n hn).2;exact Zsp ha hb (fa:=λ n=>f (n-((99:Nat):Int))) (fb:=f) (λ n hn h0=>h1 _ (by omega) (by have:=la n hn;omega)) (λ n hn h0=>h1 n h0 (by have:=lb n hn;omega)) h3.symm h2.symm
 obtain ⟨v,g,h1,h2,h3⟩:=step a b ha hb u h;obtain ⟨u', g', k1,k2,k3⟩:=step b a hb ha v h1;have:=k1.uniq h;subst this;have e:=Zi1 h3 k3 h2 k2;have hl:=congrArg List.length e;rw [Zac,Zac] at hl;exact ⟨v,h1,hl.symm,e⟩
section
open Go.RowKit
theorem Zkt:Tryz.zeroCells295 = #[.slice none 0 0,.slice none 0 0]++Array.replicate 199 (.int .i64 0) ++ #[.slice none 0 0,.slice none 0 0]:=by kernel_rfl
structure ZOk (Z:Array Value):Prop where
 size:Z.size=203
 var:∀ v,1<=v->v<199->Z[2+v]? = some (.int .i64 0)
theorem Zq4:ZOk Tryz.zeroCells295:=by
 rw [Zkt];refine ⟨by simp,λ v h1 h2=>?_⟩;rw [Array.getElem?_append_left (by simp;omega),Array.getElem?_append_right (by simp),Array.getElem?_eq_getElem (by simp;omega)];simp
def JZ (Z:Array Value) (l e s z:Value):Array Value:=(((Z.setIfInBounds 0 l).setIfInBounds 1 e).setIfInBounds 201 s).setIfInBounds 202 z
theorem Zds {Z:Array Value} (hZ:ZOk Z) (l e s z:Value):(JZ Z l e s z).size=203:=by simp [JZ,hZ.size]
theorem JZ_0 {Z:Array Value} (hZ:ZOk Z) (l e s z:Value):(JZ Z l e s z)[0]? = some l:=by
 have:=Zds hZ l e s z;simp only [JZ,Array.size_setIfInBounds] at this;simp only [JZ];rw [Array.getElem?_setIfInBounds,if_neg (by omega),Array.getElem?_setIfInBounds,if_neg (by omega),Array.getElem?_setIfInBounds,if_neg (by omega),Array.getElem?_setIfInBounds,if_pos rfl,if_pos (by omega)]
theorem JZ_1 {Z:Array Value} (hZ:ZOk Z) (l e s z:Value):(JZ Z l e s z)[1]? = some e:=by
 have:=Zds hZ l e s z;simp only [JZ,Array.size_setIfInBounds] at this;simp only [JZ];rw [Array.getElem?_setIfInBounds,if_neg (by omega),Array.getElem?_setIfInBounds,if_neg (by omega),Array.getElem?_setIfInBounds,if_pos rfl,if_pos (by simp;omega)]
theorem JZ_201 {Z:Array Value} (hZ:ZOk Z) (l e s z:Value):(JZ Z l e s z)[201]? = some s:=by
 have:=Zds hZ l e s z;simp only [JZ,Array.size_setIfInBounds] at this;simp only [JZ];rw [Array.getElem?_setIfInBounds,if_neg (by omega),Array.getElem?_setIfInBounds,if_pos rfl,if_pos (by simp;omega)]
theorem JZ_202 {Z:Array Value} (hZ:ZOk Z) (l e s z:Value):(JZ Z l e s z)[202]? = some z:=by
 have:=Zds hZ l e s z;simp only [JZ,Array.size_setIfInBounds] at this;simp only [JZ];rw [Array.getElem?_setIfInBounds,if_pos rfl,if_pos (by simp;omega)]
theorem JZ_v {Z:Array Value} (hZ:ZOk Z) (l e s z:Value) {v:Nat} (h1:1<=v) (h2:v<199):(JZ Z l e s z)[2+v]? = some (.int .i64 0):=by
 simp only [JZ];rw [Array.getElem?_setIfInBounds,if_neg (by omega),Array.getElem?_setIfInBounds,if_neg (by omega),Array.getElem?_setIfInBounds,if_neg (by omega),Array.getElem?_setIfInBounds,if_neg (by omega)];exact hZ.var v h1 h2
theorem Zol:(Tryz.prog.info? 3).map (λ i=>(i.zero,i.size,i.bytes))=some (some (.int .i64 0),1,8):=by kernel_rfl
theorem Zcb (n i:Nat) (h:i<n):(madeCells #[Value.int .i64 0] n)[i]? = some (.int .i64 0):=by
 simp [madeCells,h,Nat.mod_one]
theorem at_ar {n b:Nat} {w:World} {L:List Sym} (h:Sg n w b L) (x:Int):Calls Tryz.prog 81 #[.pointer (some ⟨b,0,none⟩),.int .i64 x] w λ e w' => ∃ s d c,e=.returned (.tuple #[.agg #[.string s,.int .i64 ((arN L x:Nat):Int),.bool d],.int .i64 c])∧Za w w' := by
 obtain ⟨⟨sv,mr,h1,_⟩,ha⟩:=h
 by_cases hx:x<0∨(L.length:Int)<=x
 ·refine (Zwd h1 x hx).mono ?_
  rintro e w' ⟨rfl,hk⟩;exact ⟨_,_,_,by rw [Zv6 hx];rfl,hk⟩
 ·obtain ⟨i,rfl⟩:∃ i:Nat,x=(i:Int):=⟨x.toNat,by omega⟩
  have hi:i<L.length:=by omega
  refine (Zqn h1 i hi).mono ?_;rintro e w' ⟨rfl,hk⟩;exact ⟨_,_,_,by rw [Zro ha hi],hk⟩
structure JJ (w0:World) (B:JB) (w:World) (xs:List Int) (M:Nat) (nx:Int->Int) (en sa:Nat->Int):Prop where
 head:Zdb w B xs.length M nx
 row:w.ownsRow w0.heap.size 3 1 (.slice (some ⟨B.lb,0,none⟩) xs.length M) xs.length (iv xs)
 cap:B.lcap=M
 ends:Jd w B.eb M en
 same:Jd w B.sb M sa
 sizes:Jd w B.zb M (λ _=>0)
 ap:B.Apart
 ap2:B.eb≠B.lb
 new:∀ k,B.Foot k->w0.heap.size<=k
 kept:Za w0 w
theorem JJ.same0 {w0:World} {B:JB} {w w' : World} {xs:List Int} {M:Nat} {nx:Int->Int} {en sa:Nat->Int} (h:JJ w0 B w xs M nx en sa) (hk:Za w w'):JJ w0 B w' xs M nx en sa:=
 ⟨h.head.kept hk (λ f=>f),hk.row h.row (λ _ _ f=>f),h.cap,h.ends.kept hk (λ f=>f),h.same.kept hk (λ f=>f),h.sizes.kept hk (λ f=>f),h.ap,h.ap2,h.new,h.kept.trans' hk⟩
theorem Zdb.set0 {w:World} {B:JB} {N M:Nat} {nx:Int->Int} (h:Zdb w B N M nx) (N' : Nat):Zdb (w.setCell ⟨B.jb,0,none⟩ (.slice (some ⟨B.lb,0,none⟩) N' B.lcap)) B N' M nx:=by
 obtain ⟨cs,g1,g2,g3,g4,g5,g6,g7⟩:=h;refine ⟨_,Zs g1 _ _,by simpa using g2,?_,?_,?_,?_,?_⟩
 ·rw [Array.getElem?_setIfInBounds,if_pos rfl,if_pos (by omega)]
 ·rw [Array.getElem?_setIfInBounds,if_neg (by omega)];exact g4
 ·intro k hk1 hk2
  rw [Array.getElem?_setIfInBounds,if_neg (by omega)];exact g5 k hk1 hk2
 ·rw [Array.getElem?_setIfInBounds,if_neg (by omega)];exact g6
 ·rw [Array.getElem?_setIfInBounds,if_neg (by omega)];exact g7
theorem Zdb.setNo {w:World} {B:JB} {N M:Nat} {nx:Int->Int} (h:Zdb w B N M nx) (x:Value):Zdb (w.setCell ⟨B.jb,2,none⟩ x) B N M nx:=by
 obtain ⟨cs,g1,g2,g3,g4,g5,g6,g7⟩:=h;refine ⟨_,Zs g1 _ _,by simpa using g2,?_,?_,?_,?_,?_⟩
 ·rw [Array.getElem?_setIfInBounds,if_neg (by omega)];exact g3
 ·rw [Array.getElem?_setIfInBounds,if_neg (by omega)];exact g4
 ·intro k hk1 hk2
  rw [Array.getElem?_setIfInBounds,if_neg (by omega)];exact g5 k hk1 hk2
 ·rw [Array.getElem?_setIfInBounds,if_neg (by omega)];exact g6
 ·rw [Array.getElem?_setIfInBounds,if_neg (by omega)];exact g7
theorem Zs5 {Z:Array Value} (hZ:ZOk Z) (w:World) (B:JB) (M:Nat) (hj:B.jb=w.heap.size) (hc:B.lcap=M):Zdb (w.alloc (.cells (JZ Z (.slice (some ⟨B.lb,0,none⟩) 0 M) (.slice (some ⟨B.eb,0,none⟩) M M) (.slice (some ⟨B.sb,0,none⟩) M M) (.slice (some ⟨B.zb,0,none⟩) M M)) 295)) B 0 M (λ _=>0):=by
 refine ⟨_,by rw [hj];exact heap_alloc_new _ _,Zds hZ _ _ _ _,?_,?_,?_,?_,?_⟩
 ·rw [hc];exact JZ_0 hZ _ _ _ _
 ·exact JZ_1 hZ _ _ _ _
 ·exact λ v h1 h2=>JZ_v hZ _ _ _ _ h1 h2
 ·exact JZ_201 hZ _ _ _ _
 ·exact JZ_202 hZ _ _ _ _
theorem JJ.grow {w0:World} {B:JB} {w w1:World} {xs ys:List Int} {M:Nat} {nx:Int->Int} {en sa:Nat->Int} (h:JJ w0 B w xs M nx en sa) (hk:Zc (λ k=>k=B.lb) w w1) (hr:w1.ownsRow w0.heap.size 3 1 (.slice (some ⟨B.lb,0,none⟩) (xs++ys).length M) (xs++ys).length (iv (xs++ys))):JJ w0 B (w1.setCell ⟨B.jb,0,none⟩ (.slice (some ⟨B.lb,0,none⟩) (xs++ys).length M)) (xs++ys) M nx en sa:=by
 have hk2:Zc (λ k=>k=B.jb) w1 (w1.setCell ⟨B.jb,0,none⟩ (.slice (some ⟨B.lb,0,none⟩) (xs++ys).length M)):=Zc.setCell (S:=λ k=>k=B.jb) (p:=⟨B.jb,0,none⟩) (Zc.refl _ _) (λ _=>rfl) _;have ap:=h.ap;have hh:=(h.head.kept hk ap.a1).set0 (xs++ys).length;rw [h.cap] at hh;refine ⟨hh,hk2.row hr (λ k e f=>by simp [Value.ownBlock] at e;exact ap.a1 (by omega)),h.cap,(h.ends.kept hk h.ap2).kept hk2 (λ e=>ap.a2 e.symm),(h.same.kept hk ap.a5).kept hk2 (λ e=>ap.a3 e.symm),(h.sizes.kept hk ap.a8).kept hk2 (λ e=>ap.a4 e.symm),ap,h.ap2,h.new,?_⟩;have k1:Za w0 w1:=h.kept.trans hk (λ i hi e=>by have:=h.new B.lb (.inr (.inl rfl));omega);exact k1.trans hk2 (λ i hi e=>by have:=h.new B.jb (.inl rfl);omega)
theorem JJ.stand {w0:World} {B:JB} {w:World} {xs:List Int} {M:Nat} {nx:Int->Int} {en sa:Nat->Int} (h:JJ w0 B w xs M nx en sa) {v:Nat} (hv:v<199) (x:Int):JJ w0 B (w.setCell ⟨B.jb,2+v,none⟩ (.int .i64 x)) xs M (λ y=>if y = -(v:Int) then x else nx y) en sa:=by
 have hk2:Zc (λ k=>k=B.jb) w (w.setCell ⟨B.jb,2+v,none⟩ (.int .i64 x)):=Zc.setCell (S:=λ k=>k=B.jb) (p:=⟨B.jb,2+v,none⟩) (Zc.refl _ _) (λ _=>rfl) _;have ap:=h.ap
 have hh:Zdb (w.setCell ⟨B.jb,2+v,none⟩ (.int .i64 x)) B xs.length M (λ y=>if y = -(v:Int) then x else nx y):=by
  by_cases h0:v=0
  ·subst h0
   exact (h.head.setNo _).congr (λ u h1 h2=>by rw [if_neg (by omega)])
  ·exact h.head.set (by omega) hv x
 exact ⟨hh,hk2.row h.row (λ k e f=>by simp [Value.ownBlock] at e;exact ap.a1 (by omega)),h.cap,h.ends.kept hk2 (λ e=>ap.a2 e.symm),h.same.kept hk2 (λ e=>ap.a3 e.symm),h.sizes.kept hk2 (λ e=>ap.a4 e.symm),ap,h.ap2,h.new,h.kept.trans hk2 (λ i hi e=>by have:=h.new B.jb (.inl rfl);omega)⟩
theorem JJ.setSame {w0:World} {B:JB} {w:World} {xs:List Int} {M:Nat} {nx:Int->Int} {en sa:Nat->Int} (h:JJ w0 B w xs M nx en sa) (i:Nat) (x:Int):JJ w0 B (w.setCell ⟨B.sb,i,none⟩ (.int .i64 x)) xs M nx en (λ k=>if k=i then x else sa k):=by
 have hk2:Zc (λ k=>k=B.sb) w (w.setCell ⟨B.sb,i,none⟩ (.int .i64 x)):=Zc.setCell (S:=λ k=>k=B.sb) (p:=⟨B.sb,i,none⟩) (Zc.refl _ _) (λ _=>rfl) _;have ap:=h.ap;exact ⟨h.head.kept hk2 ap.a3,hk2.row h.row (λ k e f=>by simp [Value.ownBlock] at e;exact ap.a5 (by omega)),h.cap,h.ends.kept hk2 (λ e=>ap.a6 e.symm),h.same.set i x,h.sizes.kept hk2 (λ e=>ap.a7 e.symm),ap,h.ap2,h.new,h.kept.trans hk2 (λ i hi e=>by have:=h.new B.sb (.inr (.inr (.inr (.inl rfl))));omega)⟩
theorem JJ.setEnd {w0:World} {B:JB} {w:World} {xs:List Int} {M:Nat} {nx:Int->Int} {en sa:Nat->Int} (h:JJ w0 B w xs M nx en sa) (i:Nat) (x:Int):JJ w0 B (w.setCell ⟨B.eb,i,none⟩ (.int .i64 x)) xs M nx (λ k=>if k=i then x else en k) sa:=by
 have hk2:Zc (λ k=>k=B.eb) w (w.setCell ⟨B.eb,i,none⟩ (.int .i64 x)):=Zc.setCell (S:=λ k=>k=B.eb) (p:=⟨B.eb,i,none⟩) (Zc.refl _ _) (λ _=>rfl) _;have ap:=h.ap;exact ⟨h.head.kept hk2 ap.a2,hk2.row h.row (λ k e f=>by simp [Value.ownBlock] at e;exact h.ap2 (by omega)),h.cap,h.ends.set i x,h.same.kept hk2 ap.a6,h.sizes.kept hk2 ap.a9,ap,h.ap2,h.new,h.kept.trans hk2 (λ i hi e=>by have:=h.new B.eb (.inr (.inr (.inl rfl)));omega)⟩
theorem JJ.congr {w0:World} {B:JB} {w:World} {xs:List Int} {M:Nat} {nx ny:Int->Int} {en sa en' sa' : Nat->Int} (h:JJ w0 B w xs M nx en sa) (e1:∀ v:Nat,1<=v->v<199->nx (-(v:Int))=ny (-(v:Int))) (e2:∀ i,i<M->en i=en' i) (e3:∀ i,i<M->sa i=sa' i):JJ w0 B w xs M ny en' sa' :=
 ⟨h.head.congr e1,h.row,h.cap,h.ends.congr e2,h.same.congr e3,h.sizes,h.ap,h.ap2,h.new,h.kept⟩
theorem Ztt (w:World) (n:Nat):Jd (w.alloc (.cells (madeCells #[.int .i64 0] n) 3)) w.heap.size n (λ _=>0):=
 ⟨_,_,heap_alloc_new _ _,by rw [size_madeCells];exact Nat.le_refl _,λ i hi=>Zcb n i hi⟩
theorem jj_new {Z:Array Value} (hZ:ZOk Z) {w0:World} (M h p1 p2 p3 p4:Nat) (hh:h=w0.heap.size) (hM:M<=maxLen) (q1:h<=p1∧p1<=h+3) (q2:h<=p2∧p2<=h+3) (q3:h<=p3∧p3<=h+3) (q4:h<=p4∧p4<=h+3) (d:p1≠p2∧p1≠p3∧p1≠p4∧p2≠p3∧p2≠p4∧p3≠p4) (n:Nat) :
  JJ w0 ⟨h+4,p1,p2,p3,p4,M⟩ ((((((w0.alloc (.cells (madeCells #[.int .i64 0] M) 3)).alloc (.cells (madeCells #[.int .i64 0] M) 3)).alloc (.cells (madeCells #[.int .i64 0] M) 3)).alloc (.cells (madeCells #[.int .i64 0] M) 3)).alloc (.cells (JZ Z (.slice (some ⟨p1,0,none⟩) 0 M) (.slice (some ⟨p2,0,none⟩) M M) (.slice (some ⟨p3,0,none⟩) M M) (.slice (some ⟨p4,0,none⟩) M M)) 295)).drewN n) [] M (λ _=>0) (λ _=>0) (λ _=>0):=by
 subst hh;obtain ⟨w1,e1⟩:∃ w1,w1=w0.alloc (.cells (madeCells #[.int .i64 0] M) 3):=⟨_,rfl⟩;obtain ⟨w2,e2⟩:∃ w2,w2=w1.alloc (.cells (madeCells #[.int .i64 0] M) 3):=⟨_,rfl⟩;obtain ⟨w3,e3⟩:∃ w3,w3=w2.alloc (.cells (madeCells #[.int .i64 0] M) 3):=⟨_,rfl⟩;obtain ⟨w4,e4⟩:∃ w4,w4=w3.alloc (.cells (madeCells #[.int .i64 0] M) 3):=⟨_,rfl⟩;rw [<- e1,<- e2,<- e3,<- e4];have z1:w1.heap.size=w0.heap.size+1:=by rw [e1,World.size_alloc]
 have z2:w2.heap.size=w0.heap.size+2:=by rw [e2,World.size_alloc,z1]
 have z3:w3.heap.size=w0.heap.size+3:=by rw [e3,World.size_alloc,z2]
 have z4:w4.heap.size=w0.heap.size+4:=by rw [e4,World.size_alloc,z3]
 have k1:Za w0 w1:=by rw [e1];exact (Zc.refl _ w0).alloc _
 have k2:Za w1 w2:=by rw [e2];exact (Zc.refl _ w1).alloc _
 have k3:Za w2 w3:=by rw [e3];exact (Zc.refl _ w2).alloc _
 have k4:Za w3 w4:=by rw [e4];exact (Zc.refl _ w3).alloc _
 have b1:w4.heap[w0.heap.size]? = some (.cells (madeCells #[.int .i64 0] M) 3 (0,0)):=((k2.trans' k3).trans' k4).at0 (by rw [e1];exact heap_alloc_new _ _);have b2:w4.heap[w0.heap.size+1]? = some (.cells (madeCells #[.int .i64 0] M) 3 (0,0)):=(k3.trans' k4).at0 (by rw [<- z1,e2];exact heap_alloc_new _ _);have b3:w4.heap[w0.heap.size+2]? = some (.cells (madeCells #[.int .i64 0] M) 3 (0,0)):=k4.at0 (by rw [<- z2,e3];exact heap_alloc_new _ _);have b4:w4.heap[w0.heap.size+3]? = some (.cells (madeCells #[.int .i64 0] M) 3 (0,0)):=by rw [<- z3,e4];exact heap_alloc_new _ _
 have ball:∀ p,w0.heap.size<=p->p<=w0.heap.size+3->w4.heap[p]? = some (.cells (madeCells #[.int .i64 0] M) 3 (0,0)):=by
  intro p h1 h2
  rcases (show p=w0.heap.size∨p=w0.heap.size+1∨p=w0.heap.size+2∨p=w0.heap.size+3 by omega) with e | e | e | e <;> rw [e] <;> assumption
 have hd:=Zs5 hZ w4 ⟨w0.heap.size+4,p1,p2,p3,p4,M⟩ M z4.symm rfl;obtain ⟨w5,e5⟩:∃ w5,w5=w4.alloc (.cells (JZ Z (.slice (some ⟨p1,0,none⟩) 0 M) (.slice (some ⟨p2,0,none⟩) M M) (.slice (some ⟨p3,0,none⟩) M M) (.slice (some ⟨p4,0,none⟩) M M)) 295):=⟨_,rfl⟩;simp only at hd;rw [<- e5] at hd ⊢;have k5:Za w4 w5:=by rw [e5];exact (Zc.refl _ w4).alloc _
 have K:Za w0 w5:=(((k1.trans' k2).trans' k3).trans' k4).trans' k5;have ball5:∀ p,w0.heap.size<=p->p<=w0.heap.size+3->Jd w5 p M (λ _=>0):=λ p h1 h2=>⟨_,_,k5.at0 (ball p h1 h2),by rw [size_madeCells];exact Nat.le_refl _,λ i hi=>Zcb M i hi⟩
 have J5:JJ w0 ⟨w0.heap.size+4,p1,p2,p3,p4,M⟩ w5 [] M (λ _=>0) (λ _=>0) (λ _=>0):=by
  refine ⟨hd,⟨rfl,.inr ⟨p1,M,_,rfl,q1.1,k5.at0 (ball p1 q1.1 q1.2),Nat.zero_le _,hM,by rw [size_madeCells];omega,rfl⟩⟩,rfl,ball5 p2 q2.1 q2.2,ball5 p3 q3.1 q3.2,ball5 p4 q4.1 q4.2,⟨?_,?_,?_,?_,?_,?_,?_,?_,?_⟩,?_,?_,K⟩
  all_goals try (simp only;omega)
  intro k hk;simp only [JB.Foot] at hk;omega
 exact J5.same0 ((Zc.refl _ w5).drewN n)
end
section
open Go.RowKit
attribute [local go_sem ↓] Go.wp_at_zero Go.wp_at_succ
def JMade (w:World) (L:List Sym) (J:List Int) (e:Ending) (w' : World):Prop:=∃ B,e=.returned (.pointer (some ⟨B.jb,0,none⟩))∧JJ w B w' J J.length (λ x=>x) (λ i=>(Zq L J i:Int)) (λ i=>ld0 J i)
theorem Zrc {L:List Sym} {t:List Int} {k p q i:Nat} (h:Zu L t k p q) (hi:i<=k):p<=past L t i p:=by
 cases i with
 | zero=>exact Nat.le_refl _
 | succ i=>
  have h1:=Kq h (i:=0) (j:=i+1) (by omega) hi;cases k with
  | zero=>omega
  | succ k=>
   have:=h.succ.2.1;simp only [past] at h1;exact Nat.le_trans (Nat.le_of_lt this) h1
theorem Zp1 {b:Nat} {w:World} {L:List Sym} (h:Sg w.heap.size w b L) {xo yo:Option Addr} {xc yc:Nat} {x y:List Int} (hx:Zh w xo x) (hy:Zh w yo y) (tx:IsT L x) (ty:IsT L y) (hxl:x.length<=2000) (hyl:y.length<=2000) (hyv:∀ z∈y, -99<=z) {ap:Nat} (hap:ap<=99) :
  Calls Tryz.prog 186 #[.pointer (some ⟨b,0,none⟩),.slice xo x.length xc,.slice yo y.length yc,.int .i64 (ap:Int)] w (JMade w L (jl x y ap)):=by
 obtain ⟨i0,hi0,hz0,hz1,hz2⟩:=info_parts Zol;obtain ⟨n,hn⟩:∃ n,x.length+y.length=n:=⟨_,rfl⟩
 have hm0:∀ w:World,(Instr.makeSlice 64 (.int .i64 0) (.int .i64 (n:Int))).run Tryz.prog w=.ok (.slice (some ⟨w.heap.size,0,none⟩) 0 n) (w.alloc (.cells (madeCells #[.int .i64 0] n) 3)):=λ w=>by
  have:=run_make w 64 3 i0 _ Tryz.underlying64 hi0 hz0 .i64 .i64 0 (n:Int) (by omega) (by omega) (by rw [hz2];omega) (by omega)
  simpa [hz1,Value.cells] using this
 have hm1:∀ w:World,(Instr.makeSlice 32 (.int .i64 (n:Int)) (.int .i64 (n:Int))).run Tryz.prog w=.ok (.slice (some ⟨w.heap.size,0,none⟩) n n) (w.alloc (.cells (madeCells #[.int .i64 0] n) 3)):=λ w=>by
  have:=run_make w 32 3 i0 _ Tryz.underlying32 hi0 hz0 .i64 .i64 (n:Int) (n:Int) (by omega) (by omega) (by rw [hz2];omega) (by omega)
  simpa [hz1,Value.cells] using this
 have hn1:(x.length:Int)+(y.length:Int)=(n:Int):=by omega
 have hnM:n<=maxLen:=by unfold maxLen;omega
 have hxi:(x.length:Int)<=2000:=by omega
 have hyi:(y.length:Int)<=2000:=by omega
 have HX:Hid (x.length+y.length=n∧IsT L x∧IsT L y):=⟨hn,tx,ty⟩;clear hn tx ty;obtain ⟨Z,hz⟩:∃ Z,Tryz.zeroCells295=Z:=⟨_,rfl⟩;have hZ:ZOk Z:=hz ▸ Zq4;have hzs:Z.size=203:=hZ.size;have hzn:¬ Z = #[]:=λ e=>by rw [e] at hzs;simp at hzs
 go_enter Tryz.func186,Tryz.ntmps186
 go_upto_region 2 with fail
 go_cut [10] from 23 to 32 (λ s10 wc=>∃ B,s10=.pointer (some ⟨B.jb,0,none⟩)∧JJ w B wc [] n (λ _=>0) (λ _=>0) (λ _=>0))
 case first=>
  clear h hx hy hyv HX
  go_region
  all_goals
   go_wp2_with fail
   go_meet;refine ⟨_,?_,jj_new hZ n w.heap.size _ _ _ _ rfl hnM (by omega) (by omega) (by omega) (by omega) (by omega) 1⟩;rfl
 case rest=>
  obtain ⟨B,rfl,hJ⟩:=hcut;clear hm0 hm1 hz hZ hzs hzn;have hw:=hJ.row;obtain ⟨c0, -, -, -,c4⟩:=hJ.head.cells;rw [hJ.cap] at c0;have f0:wc.frozen? ⟨B.jb,0,none⟩=false:=by obtain ⟨cs,g1, -⟩:=hJ.head;exact Zd g1 _
  obtain ⟨bx,ox,rfl, -⟩:=(hx.same hJ.kept).get (i:=0) (Z6 HX.out.2.1)
  have hcx:Hid (∀ j u,(iv x)[j]? = some u->wc.cell? ((⟨bx,ox,none⟩:Addr).add j)=some u):=by
   intro j u hu
   have hj:j<x.length:=by
    have:=(List.getElem?_eq_some_iff.1 hu).1
    rwa [Vc] at this
   obtain ⟨b', off', e1,_,e3⟩:=(hx.same hJ.kept).get (i:=j) hj;simp only [Option.some.injEq,Addr.mk.injEq,and_true] at e1;obtain ⟨rfl,rfl⟩:=e1;rw [Kj hj] at hu;cases hu;have hadd:(⟨bx,ox,none⟩:Addr).add j=⟨bx,ox+j,none⟩:=by unfold Addr.add;split <;> simp_all
   rw [hadd];exact e3
  have hJ1:Hid (∀ w1,w1.ownsRow w.heap.size 3 1 (.slice (some ⟨B.lb,0,none⟩) (0+x.length) n) (0+x.length) ([]++iv x)->wc.grownBy w1 (some B.lb)->JJ w B (w1.setCell ⟨B.jb,0,none⟩ (.slice (some ⟨B.lb,0,none⟩) x.length n)) x n (λ _=>0) (λ _=>0) (λ _=>0)∧w1.cell? ⟨B.jb,0,none⟩=some (.slice (some ⟨B.lb,0,none⟩) 0 n)∧w1.frozen? ⟨B.jb,0,none⟩=false):=by
   intro w1 h1 h2;have kg:Zc (λ k=>k=B.lb) wc w1:=Zc.grown (Zc.refl _ wc) h2 (λ k e _=>by simpa using e.symm);have:=hJ.grow (ys:=x) kg (by simpa using h1);have hh:=hJ.head.kept kg hJ.ap.a1;have h0:=hh.cells.1;rw [hJ.cap] at h0;refine ⟨by simpa using this,h0,?_⟩;obtain ⟨cs,g1, -⟩:=hh;exact Zd g1 _
  have hfit:0+x.length<=n:=by have:=HX.out.1;omega
  clear hJ
  go_upto_region 4 with (first | (at_builtin;refine wpList_append_fits _ rfl _ _ 64 rfl w.heap.size 3 i0 1 Tryz.underlying64 hi0 hz1 B.lb 0 n [] rfl hw ⟨bx,ox,none⟩ x.length xc (iv x) rfl (by rw [Vc];omega) hcx.out (λ u hu=>by simp [iv] at hu;obtain ⟨z,_,rfl⟩:=hu;rfl) hfit ?_;intro w1 hown hgrow;obtain ⟨hJ2,k0,k1⟩:=hJ1.out w1 hown hgrow))
  obtain ⟨w2,hw2⟩:∃ w2,w1.setCell ⟨B.jb,0,none⟩ (.slice (some ⟨B.lb,0,none⟩) x.length n)=w2:=⟨_,rfl⟩;rw [hw2] at hJ2 ⊢;clear hw2 hJ1 hcx hown hgrow k0 k1 c0 f0 c4 hw hfit hx
  go_wp2_with fail
  go_loopw [44] (λ s44 wr=>∃ k:Nat,s44=.int .i64 (k:Int)∧k<=y.length∧JJ w B wr (x++(y.take k).map (shF ap)) n (λ _=>0) (λ _=>0) (λ _=>0)) (λ s44 _=>y.length-(intOf s44).toNat)
  case atStart=>exact ⟨0,rfl,by omega,by simpa using hJ2⟩
  case round=>
   clear hJ2;obtain ⟨k,rfl,hk,hJ2⟩:=hrel
   by_cases hkl:k<y.length
   ·obtain ⟨b', off', rfl,hb1,hb2⟩:=(hy.same hJ2.kept).get (i:=k) hkl
    have k1:(0:Int)<=(k:Int):=by omega
    have k2:(k:Int)<(y.length:Int):=by omega
    obtain ⟨z,hz⟩:∃ z,y[k]=z:=⟨_,rfl⟩;have hzv : -99<=z:=by rw [<- hz];exact hyv _ (List.getElem_mem _)
    rw [hz] at hb2;have hapi:(ap:Int)<=99:=by omega
    have hap0:(0:Int)<=(ap:Int):=by omega
    have htk:(y.take (k+1)).map (shF ap)=(y.take k).map (shF ap) ++ [shF ap z]:=by
     rw [List.take_add_one,List.getElem?_eq_getElem hkl,hz];simp
    have hJ3:Hid (∀ w3,w3.ownsRow w.heap.size 3 1 (.slice (some ⟨B.lb,0,none⟩) ((x++(y.take k).map (shF ap)).length+1) n) ((x++(y.take k).map (shF ap)).length+1) (iv (x++(y.take k).map (shF ap)) ++ [.int .i64 (shF ap z)])->(wr.alloc (.cells #[.int .i64 (shF ap z)] 3)).grownBy w3 (some B.lb)->JJ w B (w3.setCell ⟨B.jb,0,none⟩ (.slice (some ⟨B.lb,0,none⟩) ((x++(y.take k).map (shF ap)).length+1) n)) (x++(y.take (k+1)).map (shF ap)) n (λ _=>0) (λ _=>0) (λ _=>0)∧w3.cell? ⟨B.jb,0,none⟩=some (.slice (some ⟨B.lb,0,none⟩) (x++(y.take k).map (shF ap)).length n)∧w3.frozen? ⟨B.jb,0,none⟩=false):=by
     intro w3 h1 h2;have kg:Zc (λ k=>k=B.lb) wr w3:=Zc.grown (Zc.alloc (Zc.refl _ wr) _) h2 (λ k e _=>by simpa using e.symm);have hh:=hJ2.head.kept kg hJ2.ap.a1;have h0:=hh.cells.1;rw [hJ2.cap] at h0;have e1:x++(y.take (k+1)).map (shF ap)=(x++(y.take k).map (shF ap)) ++ [shF ap z]:=by rw [htk,List.append_assoc]
     have e2:(x++(y.take (k+1)).map (shF ap)).length=(x++(y.take k).map (shF ap)).length+1:=by rw [e1,List.length_append];rfl
     have:=hJ2.grow (ys:=[shF ap z]) kg (by rw [<- e1,e2,e1,Vd];exact h1);rw [<- e1,e2] at this;refine ⟨this,h0,?_⟩;obtain ⟨cs,g1, -⟩:=hh;exact Zd g1 _
    have hw:=hJ2.row;obtain ⟨c0, -, -, -,c4⟩:=hJ2.head.cells;rw [hJ2.cap] at c0;have f0:wr.frozen? ⟨B.jb,0,none⟩=false:=by obtain ⟨cs,g1, -⟩:=hJ2.head;exact Zd g1 _
    obtain ⟨l,hl⟩:∃ l,(x++(y.take k).map (shF ap)).length=l:=⟨_,rfl⟩;have hl2:l=x.length+k:=by rw [<- hl];simp;omega
    have hfit:l+1<=n:=by have:=HX.out.1;omega
    have hli:(l:Int)<5000:=by omega
    rw [hl] at c0 hw hJ3;clear hJ2 hz htk hyv hl hl2
    by_cases hzn:z<0
    ·have hs:shF ap z=z-(ap:Int):=by unfold shF;rw [if_pos hzn]
     rw [hs] at hJ3
     go_wp2_with (first | (at_builtin;refine wpList_append_fits _ rfl _ _ 64 rfl w.heap.size 3 i0 1 Tryz.underlying64 hi0 hz1 B.lb l n (iv (x++(y.take k).map (shF ap))) rfl (hw.alloc _) ⟨wr.heap.size,0,none⟩ 1 1 [.int .i64 (z-(ap:Int))] rfl rfl (World.news_of_block (cs:=#[.int .i64 (z-(ap:Int))]) (t:=3) (fr:=(0,0)) (heap_alloc_new wr _)) (by simp [Value.oneCell']) hfit ?_;intro w3 hown hgrow;obtain ⟨hJ4,q0,q1⟩:=hJ3.out w3 hown hgrow))
     go_roundw
     case rel=>exact ⟨k+1,by go_num,by omega,hJ4⟩
     case measure=>simp [intOf];omega
    ·have hs:shF ap z=z:=by unfold shF;rw [if_neg hzn]
     rw [hs] at hJ3
     go_wp2_with (first | (at_builtin;refine wpList_append_fits _ rfl _ _ 64 rfl w.heap.size 3 i0 1 Tryz.underlying64 hi0 hz1 B.lb l n (iv (x++(y.take k).map (shF ap))) rfl (hw.alloc _) ⟨wr.heap.size,0,none⟩ 1 1 [.int .i64 z] rfl rfl (World.news_of_block (cs:=#[.int .i64 z]) (t:=3) (fr:=(0,0)) (heap_alloc_new wr _)) (by simp [Value.oneCell']) hfit ?_;intro w3 hown hgrow;obtain ⟨hJ4,q0,q1⟩:=hJ3.out w3 hown hgrow))
     go_roundw
     case rel=>exact ⟨k+1,by go_num,by omega,hJ4⟩
     case measure=>simp [intOf];omega
   ·obtain rfl:k=y.length:=by omega
    have k2:¬ (y.length:Int)<(y.length:Int):=by omega
    rw [List.take_length] at hJ2;clear hyv hkl
    go_wp2_with fail
    go_loopw [64] (λ s64 wr=>∃ k:Nat,s64=.int .i64 (k:Int)∧k<=199∧JJ w B wr (x++y.map (shF ap)) n (λ z=>if -(k:Int)<z then z else 0) (λ _=>0) (λ _=>0)) (λ s64 _=>199-(intOf s64).toNat)
    case atStart=>exact ⟨0,rfl,by omega,hJ2.congr (λ v h1 h2=>by rw [if_neg (by omega)]) (λ _ _=>rfl) (λ _ _=>rfl)⟩
    case round=>
     clear hJ2;obtain ⟨k,rfl,hk,hJ2⟩:=hrel
     by_cases hkl:k<199
     ·have k1:(0:Int)<=(k:Int):=by omega
      have k2:(k:Int)<199:=by omega
      have hJ3:=hJ2.stand hkl (-(k:Int))
      have hJ4:JJ w B (wr.setCell ⟨B.jb,2+k,none⟩ (.int .i64 (-(k:Int)))) (x++y.map (shF ap)) n (λ z=>if -((k+1:Nat):Int)<z then z else 0) (λ _=>0) (λ _=>0):=by
       refine hJ3.congr (λ v h1 h2=>?_) (λ _ _=>rfl) (λ _ _=>rfl)
       by_cases e:v=k
       ·subst e;rw [if_pos rfl,if_pos (by omega)]
       ·rw [if_neg (by omega)]
        by_cases e2:v<k
        ·rw [if_pos (by omega),if_pos (by omega)]
        ·rw [if_neg (by omega),if_neg (by omega)]
      obtain ⟨q1,q2⟩:(∃ u,wr.cell? ⟨B.jb,2+k,none⟩=some u)∧wr.frozen? ⟨B.jb,2+k,none⟩=false:=by
       obtain ⟨cs,g1,g2, -⟩:=hJ2.head;exact ⟨⟨cs[2+k]'(by omega),by rw [Zb g1];exact Array.getElem?_eq_getElem _⟩,Zd g1 _⟩
      obtain ⟨u,q1⟩:=q1;have c4:=hJ2.head.cells.2.2.2.2;clear hJ2 hJ3
      go_wp2_with fail
      go_roundw
      case rel=>exact ⟨k+1,by go_num,by omega,hJ4⟩
      case measure=>simp [intOf];omega
     ·obtain rfl:k=199:=by omega
      clear hkl hk;have hJ5:JJ w B wr (x++y.map (shF ap)) n (λ z=>z) (λ _=>0) (λ _=>0):=hJ2.congr (λ v h1 h2=>by rw [if_pos (by omega)]) (λ _ _=>rfl) (λ _ _=>rfl);clear hJ2;obtain ⟨J,hJJ⟩:∃ J,jl x y ap=J:=⟨_,rfl⟩;have hlen:J.length=n:=by rw [<- hJJ];simp [jl];exact HX.out.1
      have hTr:Hid (Trs L J):=by rw [<- hJJ];exact Zcn (by omega) HX.out.2.1 HX.out.2.2
      have hJ6:JJ w B wr J n (λ z=>z) (λ _=>0) (λ _=>0):=by rw [<- hJJ];exact hJ5
      have HJ:Hid (jl x y ap=J):=hJJ;have hni:(n:Int)<=4000:=by omega
      clear hJ5 hJJ HX hy hn1
      go_wp2_with fail
      go_loopw [14] (λ s14 wr=>∃ m:Nat,s14=.int .i64 ((m:Int)-1)∧m<=n∧JJ w B wr J n (λ z=>z) (λ i=>if m<=i then (Zq L J i:Int) else 0) (λ i=>if m<=i then ld0 J i else 0)) (λ s14 _=>(intOf s14+1).toNat)
      case atStart=>exact ⟨n,rfl,by omega,hJ6.congr (λ _ _ _=>rfl) (λ i hi=>by rw [if_neg (by omega)]) (λ i hi=>by rw [if_neg (by omega)])⟩
      case round=>
       clear hJ6;obtain ⟨m,rfl,hm,hJ6⟩:=hrel;cases m with
       | zero=>
        have fin:JMade w L (jl x y ap) (.returned (.pointer (some ⟨B.jb,0,none⟩))) wr:=by
         rw [HJ.out];refine ⟨B,rfl,?_⟩;rw [hlen];exact hJ6.congr (λ _ _ _=>rfl) (λ i hi=>by rw [if_pos (by omega)]) (λ i hi=>by rw [if_pos (by omega)])
        clear hJ6
        go_wp2_with fail
        go_returns
        exact fin
       | succ t=>
        have htl:t<n:=by omega
        have htJ:t<J.length:=by omega
        obtain ⟨z,hz⟩:∃ z,J[t]=z:=⟨_,rfl⟩;have ez:(((t+1:Nat):Int)-1)=(t:Int):=by omega
        rw [ez];have k1:(0:Int)<=(t:Int):=by omega
        have k2:(t:Int)<(n:Int):=by omega
        have k3:(t:Int)<4000:=by omega
        obtain ⟨c0,c1,c2,c3,c4⟩:=hJ6.head.cells;rw [hJ6.cap] at c0;obtain ⟨s0,s1⟩:=hJ6.same.cell htl;have hJ7:=hJ6.setSame t (t:Int);clear hJ6 ez
        go_upto_region 20 with fail
        obtain ⟨w3,hw3⟩:∃ w3,wr.setCell ⟨B.sb,t,none⟩ (.int .i64 (t:Int))=w3:=⟨_,rfl⟩;rw [hw3] at hJ7 ⊢;clear hw3 c0 c1 c2 c3 c4 s0 s1;obtain ⟨c0,c1,c2,c3,c4⟩:=hJ7.head.cells;rw [hJ7.cap] at c0
        have dl:w3.cell? ⟨B.lb,t,none⟩=some (.int .i64 z):=by
         rw [hJ7.row.cellAt t (by rw [hlen];omega),Kj (by omega),<- hz]
        obtain ⟨s0,s1⟩:=hJ7.same.cell htl
        by_cases hzn:z<0
        ·have hJ8:=hJ7.setSame t z
         clear hJ7
         go_upto_region 23 with fail
         obtain ⟨w4,hw4⟩:∃ w4,w3.setCell ⟨B.sb,t,none⟩ (.int .i64 z)=w4:=⟨_,rfl⟩;rw [hw4] at hJ8 ⊢
         have hJ7:JJ w B w4 J n (λ z=>z) (λ i=>if t+1<=i then (Zq L J i:Int) else 0) (λ i=>if t<=i then ld0 J i else 0):=by
          refine hJ8.congr (λ _ _ _=>rfl) (λ _ _=>rfl) (λ i hi=>?_)
          by_cases e:i=t
          ·subst e
           rw [if_pos rfl,if_pos (Nat.le_refl _)];unfold ld0;rw [Yl J i htJ,hz,if_pos ⟨by omega,hzn⟩]
          ·rw [if_neg e,if_neg e]
           by_cases e2:t+1<=i
           ·rw [if_pos e2,if_pos (by omega)]
           ·rw [if_neg e2,if_neg (by omega)]
         clear hJ8 hw4 c0 c1 c2 c3 c4 s0 s1 dl;have ce0:=hJ7.head.cells;obtain ⟨d0,d1,d2,d3,d4⟩:=ce0;rw [hJ7.cap] at d0
         have dl:w4.cell? ⟨B.lb,t,none⟩=some (.int .i64 z):=by
          rw [hJ7.row.cellAt t (by rw [hlen];omega),Kj (by omega),<- hz]
         have cA:=at_ar (h.same hJ7.kept) z;obtain ⟨A,hA⟩:∃ A,arN L z=A:=⟨_,rfl⟩;rw [hA] at cA;have hA6:A<=6:=by rw [<- hA];exact Xp h.2 z
         have HF:Hid (Zu L J A (t+1) (Zq L J t)):=by
          have:=hTr.out.kids (show t<J.length by omega);rw [hz,hA] at this;exact this
         go_upto_region 24 with (first | (go_at_call 81;refine cA.mono ?_;rintro e w5 ⟨s,d,c,rfl,hk5⟩))
         have hJ8:=hJ7.same0 hk5;have hx16:=heap_alloc_new w5 (.cells #[.string s,.int .i64 (A:Int),.bool d] 129);have hJ9:=hJ8.same0 ((Zc.refl _ w5).alloc (.cells #[.string s,.int .i64 (A:Int),.bool d] 129));obtain ⟨w6,hw6⟩:∃ w6,w5.alloc (.cells #[.string s,.int .i64 (A:Int),.bool d] 129)=w6:=⟨_,rfl⟩;rw [hw6] at hJ9 hx16 ⊢;have hbe:B.eb<w5.heap.size:=hJ8.ends.lt;obtain ⟨xb,hxb⟩:∃ xb,w5.heap.size=xb:=⟨_,rfl⟩;rw [hxb] at hx16 hbe ⊢;clear hw6 hxb hJ8 hJ7 hk5 d0 d1 d2 d3 d4 dl;obtain ⟨d0,d1,d2,d3,d4⟩:=hJ9.head.cells;obtain ⟨s0,s1⟩:=hJ9.ends.cell htl;have hJ10:=hJ9.setEnd t ((t:Int)+1)
         have hx17:(w6.setCell ⟨B.eb,t,none⟩ (.int .i64 ((t:Int)+1))).heap[xb]? = some (.cells #[.string s,.int .i64 (A:Int),.bool d] 129 (0,0)):=by
          rw [Below.heap_setCell _ _ _ _ (by simp only;omega)];exact hx16
         clear hJ9 hx16
         go_upto_region 25 with fail
         obtain ⟨w7,hw7⟩:∃ w7,w6.setCell ⟨B.eb,t,none⟩ (.int .i64 ((t:Int)+1))=w7:=⟨_,rfl⟩;rw [hw7] at hJ10 hx17 ⊢;have hx18:=Zb hx17 1;simp only [List.getElem?_toArray,List.getElem?_cons_succ,List.getElem?_cons_zero] at hx18;clear hw7 d0 d1 d2 d3 d4 s0 s1 hx17;have hAi:(A:Int)<=6:=by omega
         go_wp2_with fail
         go_loopw [126] (λ s126 wr=>∃ j:Nat,s126=.int .i64 (j:Int)∧j<=A∧JJ w B wr J n (λ z=>z) (λ i=>if i=t then (past L J j (t+1):Int) else if t+1<=i then (Zq L J i:Int) else 0) (λ i=>if t<=i then ld0 J i else 0)) (λ s126 _=>A-(intOf s126).toNat)
         case atStart=>exact ⟨0,rfl,by omega,hJ10.congr (λ _ _ _=>rfl) (λ i hi=>by simp [past]) (λ _ _=>rfl)⟩
         case round=>
          clear hJ10;obtain ⟨j,rfl,hj,hJ10⟩:=hrel
          by_cases hjA:j<A
          ·have j1:(0:Int)<=(j:Int):=by omega
           have j2:(j:Int)<(A:Int):=by omega
           obtain ⟨q,hq⟩:∃ q,past L J j (t+1)=q:=⟨_,rfl⟩;have hq1:t+1<=q:=by rw [<- hq];exact Zrc HF.out hj
           have hq2:q<n:=by
            have hd:=HF.out.drop hj;obtain ⟨c,hc⟩:∃ c,A-j=c+1:=⟨A-j-1,by omega⟩;rw [hc,hq] at hd;have:=hd.pos;have:=hd.le;omega
           have hps:past L J (j+1) (t+1)=Zq L J q:=by rw [Jw,hq]
           have e1:=(hJ10.ends.cell htl);have e2:=(hJ10.ends.cell hq2).1;rw [if_pos rfl,hq] at e1;rw [if_neg (by omega),if_pos hq1] at e2;obtain ⟨e1,e3⟩:=e1;have hJ11:=hJ10.setEnd t (Zq L J q:Int)
           have hJ12:JJ w B (wr.setCell ⟨B.eb,t,none⟩ (.int .i64 (Zq L J q:Int))) J n (λ z=>z) (λ i=>if i=t then (past L J (j+1) (t+1):Int) else if t+1<=i then (Zq L J i:Int) else 0) (λ i=>if t<=i then ld0 J i else 0):=by
            refine hJ11.congr (λ _ _ _=>rfl) (λ i hi=>?_) (λ _ _=>rfl)
            by_cases e:i=t
            ·subst e;rw [if_pos rfl,if_pos rfl,hps]
            ·rw [if_neg e,if_neg e,if_neg e]
           have hJ13:Hid (JJ w B (wr.setCell ⟨B.eb,t,none⟩ (.int .i64 (Zq L J q:Int))).drew J n (λ z=>z) (λ i=>if i=t then (past L J (j+1) (t+1):Int) else if t+1<=i then (Zq L J i:Int) else 0) (λ i=>if t<=i then ld0 J i else 0)):=hJ12.same0 ((Zc.refl _ _).drew);obtain ⟨d0,d1,d2,d3,d4⟩:=hJ10.head.cells;have q1:(0:Int)<=(q:Int):=by omega
           have q2:(q:Int)<(n:Int):=by omega
           clear hJ10 hJ11 hJ12 hq hps
           go_upto_region 27 with fail
           go_region
           all_goals
            go_wp2_with fail
            go_roundw
            case rel=>exact ⟨j+1,by go_num,by omega,hJ13.out⟩
            case measure=>simp [intOf];omega
          ·obtain rfl:j=A:=by omega
           have hfin:JJ w B wr J n (λ z=>z) (λ i=>if t<=i then (Zq L J i:Int) else 0) (λ i=>if t<=i then ld0 J i else 0):=by
            refine hJ10.congr (λ _ _ _=>rfl) (λ i hi=>?_) (λ _ _=>rfl)
            by_cases e:i=t
            ·subst e;rw [if_pos rfl,if_pos (Nat.le_refl _),HF.out.past]
            ·rw [if_neg e]
             by_cases e2:t+1<=i
             ·rw [if_pos e2,if_pos (by omega)]
             ·rw [if_neg e2,if_neg (by omega)]
           clear hJ10
           go_wp2_with fail
           go_roundw
           case rel=>exact ⟨t,by go_num,by omega,hfin⟩
           case measure=>simp [intOf]
        ·have hJ8:JJ w B w3 J n (λ z=>z) (λ i=>if t+1<=i then (Zq L J i:Int) else 0) (λ i=>if t<=i then ld0 J i else 0):=by
          refine hJ7.congr (λ _ _ _=>rfl) (λ _ _=>rfl) (λ i hi=>?_)
          by_cases e:i=t
          ·subst e
           rw [if_pos rfl,if_pos (Nat.le_refl _)];unfold ld0;rw [Yl J i htJ,hz,if_neg (by omega)]
          ·rw [if_neg e]
           by_cases e2:t+1<=i
           ·rw [if_pos e2,if_pos (by omega)]
           ·rw [if_neg e2,if_neg (by omega)]
         clear hJ7
         go_upto_region 23 with fail
         obtain ⟨w4,hw4⟩:∃ w4,w4=w3:=⟨_,rfl⟩;have hJ7:=hJ8;rw [<- hw4] at hJ7 ⊢;clear hJ8 c0 c1 c2 c3 c4 s0 s1 dl hw4;have ce0:=hJ7.head.cells;obtain ⟨d0,d1,d2,d3,d4⟩:=ce0;rw [hJ7.cap] at d0
         have dl:w4.cell? ⟨B.lb,t,none⟩=some (.int .i64 z):=by
          rw [hJ7.row.cellAt t (by rw [hlen];omega),Kj (by omega),<- hz]
         have cA:=at_ar (h.same hJ7.kept) z;obtain ⟨A,hA⟩:∃ A,arN L z=A:=⟨_,rfl⟩;rw [hA] at cA;have hA6:A<=6:=by rw [<- hA];exact Xp h.2 z
         have HF:Hid (Zu L J A (t+1) (Zq L J t)):=by
          have:=hTr.out.kids (show t<J.length by omega);rw [hz,hA] at this;exact this
         go_upto_region 24 with (first | (go_at_call 81;refine cA.mono ?_;rintro e w5 ⟨s,d,c,rfl,hk5⟩))
         have hJ8:=hJ7.same0 hk5;have hx16:=heap_alloc_new w5 (.cells #[.string s,.int .i64 (A:Int),.bool d] 129);have hJ9:=hJ8.same0 ((Zc.refl _ w5).alloc (.cells #[.string s,.int .i64 (A:Int),.bool d] 129));obtain ⟨w6,hw6⟩:∃ w6,w5.alloc (.cells #[.string s,.int .i64 (A:Int),.bool d] 129)=w6:=⟨_,rfl⟩;rw [hw6] at hJ9 hx16 ⊢;have hbe:B.eb<w5.heap.size:=hJ8.ends.lt;obtain ⟨xb,hxb⟩:∃ xb,w5.heap.size=xb:=⟨_,rfl⟩;rw [hxb] at hx16 hbe ⊢;clear hw6 hxb hJ8 hJ7 hk5 d0 d1 d2 d3 d4 dl;obtain ⟨d0,d1,d2,d3,d4⟩:=hJ9.head.cells;obtain ⟨s0,s1⟩:=hJ9.ends.cell htl;have hJ10:=hJ9.setEnd t ((t:Int)+1)
         have hx17:(w6.setCell ⟨B.eb,t,none⟩ (.int .i64 ((t:Int)+1))).heap[xb]? = some (.cells #[.string s,.int .i64 (A:Int),.bool d] 129 (0,0)):=by
          rw [Below.heap_setCell _ _ _ _ (by simp only;omega)];exact hx16
         clear hJ9 hx16
         go_upto_region 25 with fail
         obtain ⟨w7,hw7⟩:∃ w7,w6.setCell ⟨B.eb,t,none⟩ (.int .i64 ((t:Int)+1))=w7:=⟨_,rfl⟩;rw [hw7] at hJ10 hx17 ⊢;have hx18:=Zb hx17 1;simp only [List.getElem?_toArray,List.getElem?_cons_succ,List.getElem?_cons_zero] at hx18;clear hw7 d0 d1 d2 d3 d4 s0 s1 hx17;have hAi:(A:Int)<=6:=by omega
         go_wp2_with fail
         go_loopw [126] (λ s126 wr=>∃ j:Nat,s126=.int .i64 (j:Int)∧j<=A∧JJ w B wr J n (λ z=>z) (λ i=>if i=t then (past L J j (t+1):Int) else if t+1<=i then (Zq L J i:Int) else 0) (λ i=>if t<=i then ld0 J i else 0)) (λ s126 _=>A-(intOf s126).toNat)
         case atStart=>exact ⟨0,rfl,by omega,hJ10.congr (λ _ _ _=>rfl) (λ i hi=>by simp [past]) (λ _ _=>rfl)⟩
         case round=>
          clear hJ10;obtain ⟨j,rfl,hj,hJ10⟩:=hrel
          by_cases hjA:j<A
          ·have j1:(0:Int)<=(j:Int):=by omega
           have j2:(j:Int)<(A:Int):=by omega
           obtain ⟨q,hq⟩:∃ q,past L J j (t+1)=q:=⟨_,rfl⟩;have hq1:t+1<=q:=by rw [<- hq];exact Zrc HF.out hj
           have hq2:q<n:=by
            have hd:=HF.out.drop hj;obtain ⟨c,hc⟩:∃ c,A-j=c+1:=⟨A-j-1,by omega⟩;rw [hc,hq] at hd;have:=hd.pos;have:=hd.le;omega
           have hps:past L J (j+1) (t+1)=Zq L J q:=by rw [Jw,hq]
           have e1:=(hJ10.ends.cell htl);have e2:=(hJ10.ends.cell hq2).1;rw [if_pos rfl,hq] at e1;rw [if_neg (by omega),if_pos hq1] at e2;obtain ⟨e1,e3⟩:=e1;have hJ11:=hJ10.setEnd t (Zq L J q:Int)
           have hJ12:JJ w B (wr.setCell ⟨B.eb,t,none⟩ (.int .i64 (Zq L J q:Int))) J n (λ z=>z) (λ i=>if i=t then (past L J (j+1) (t+1):Int) else if t+1<=i then (Zq L J i:Int) else 0) (λ i=>if t<=i then ld0 J i else 0):=by
            refine hJ11.congr (λ _ _ _=>rfl) (λ i hi=>?_) (λ _ _=>rfl)
            by_cases e:i=t
            ·subst e;rw [if_pos rfl,if_pos rfl,hps]
            ·rw [if_neg e,if_neg e,if_neg e]
           have hJ13:Hid (JJ w B (wr.setCell ⟨B.eb,t,none⟩ (.int .i64 (Zq L J q:Int))).drew J n (λ z=>z) (λ i=>if i=t then (past L J (j+1) (t+1):Int) else if t+1<=i then (Zq L J i:Int) else 0) (λ i=>if t<=i then ld0 J i else 0)):=hJ12.same0 ((Zc.refl _ _).drew);obtain ⟨d0,d1,d2,d3,d4⟩:=hJ10.head.cells;have q1:(0:Int)<=(q:Int):=by omega
           have q2:(q:Int)<(n:Int):=by omega
           clear hJ10 hJ11 hJ12 hq hps
           go_upto_region 27 with fail
           go_region
           all_goals
            go_wp2_with fail
            go_roundw
            case rel=>exact ⟨j+1,by go_num,by omega,hJ13.out⟩
            case measure=>simp [intOf];omega
          ·obtain rfl:j=A:=by omega
           have hfin:JJ w B wr J n (λ z=>z) (λ i=>if t<=i then (Zq L J i:Int) else 0) (λ i=>if t<=i then ld0 J i else 0):=by
            refine hJ10.congr (λ _ _ _=>rfl) (λ i hi=>?_) (λ _ _=>rfl)
            by_cases e:i=t
            ·subst e;rw [if_pos rfl,if_pos (Nat.le_refl _),HF.out.past]
            ·rw [if_neg e]
             by_cases e2:t+1<=i
             ·rw [if_pos e2,if_pos (by omega)]
             ·rw [if_neg e2,if_neg (by omega)]
           clear hJ10
           go_wp2_with fail
           go_roundw
           case rel=>exact ⟨t,by go_num,by omega,hfin⟩
           case measure=>simp [intOf]
def JB.Way (B:JB) (k:Nat):Prop:=k=B.jb∨k=B.sb
theorem JB.way (B:JB) (x:Int):B.Way (nxB B x):=by
 unfold nxB;split
 ·exact .inl rfl
 ·exact .inr rfl
theorem Zfd {L:List Sym} {w:World} {B:JB} {J:List Int} {ld:Int->Int} {sz:Nat->Int} (h:JAt L B w J ld sz) {x:Int} (hx:Z2 J x) :
  Calls Tryz.prog 189 #[.pointer (some ⟨B.jb,0,none⟩),.int .i64 x] w λ e w' => e=.returned (.int .i64 (ld x))∧JAt L B w' J ld sz∧Zc B.Way w w' := by
 obtain ⟨nx,ρ,hC,hL⟩:=h
 go_enter Tryz.func189,Tryz.ntmps189
 go_wp2_with fail
 go_loopw [1] (λ tp wr=>∃ y ny,tp=.int .i64 y∧Z2 J y∧ld y=ld x∧JC L B wr J ny sz∧Led J ny ld ρ∧Zc B.Way w wr) (λ tp _=>ρ (intOf tp))
 case atStart=>exact ⟨x,nx,rfl,hx,rfl,hC,hL,Zc.refl _ _⟩
 case round=>
  obtain ⟨y,ny,rfl,hy,hyx,hC', hL', hK⟩:=hrel;have c1:=Zir hC' hy;have py:=hL'.part y hy;have c2:=Zir hC' py;obtain ⟨a1,a2⟩:=hC'.next hy;obtain ⟨b1,b2⟩:=hC'.next py;have hlt:=hy.1;have hpt:=hC'.put hy (ny (ny y))
  by_cases hn:ny y=y
  ·have e1:ld x=y:=by rw [<- hyx];exact (hL'.stop y hy).1 hn
   have fin:JAt L B wr J ld sz:=⟨ny,ρ,hC', hL'⟩;rw [hn] at a1;clear hC hL hC' hL' hpt c2 b1 b2
   go_wp2_with (go_at_call 190;refine c1.mono ?_;rintro e w' ⟨rfl,rfl⟩)
   go_returns
   exact ⟨by rw [e1];rfl,fin,hK⟩
  ·obtain ⟨hL2,hd⟩:=hL'.halve hy hn
   obtain ⟨hC2,hK2⟩:=hpt;have hK3:Zc B.Way w (wr.setCell (nxA B y) (.int .i64 (ny (ny y)))):=hK.trans hK2 (λ i _ e=>by rw [e];exact B.way y);have pz:=hL'.part _ py;have lz:ld (ny (ny y))=ld x:=by rw [hL'.lead _ py,hL'.lead _ hy,hyx]
   have n3:=hC2.next hy;clear hC hL hC' hL'
   go_upto_region 4 with (go_at_call 190;refine c1.mono ?_;rintro e w' ⟨rfl,rfl⟩)
   go_wp2_with (go_at_call 190;refine c2.mono ?_;rintro e w' ⟨rfl,rfl⟩)
   go_roundw
   case rel=>exact ⟨_,_,rfl,pz,lz,hC2,hL2,hK3⟩
   case measure=>simpa [intOf] using hd
end
section
open Go.RowKit
def Z9 (l:List (Nat × Nat × Nat)):List Value:=l.flatMap λ r=>[.int .i64 (r.1:Int),.int .i64 (r.2.1:Int),.int .i64 (r.2.2:Int)]
theorem Vs (l:List (Nat × Nat × Nat)):(Z9 l).length=l.length * 3:=by
 induction l with
 | nil=>rfl
 | cons x r ih=>simp [Z9] at ih ⊢;omega
theorem Zej (a b:List (Nat × Nat × Nat)):Z9 (a++b)=Z9 a++Z9 b:=by simp [Z9]
theorem Vg (x y o:Nat) (rs:List (Nat × Nat × Nat)):Z9 ((x,y,o) :: rs).reverse=Z9 rs.reverse ++ [.int .i64 (x:Int),.int .i64 (y:Int),.int .i64 (o:Int)]:=by
 rw [List.reverse_cons,Zej];simp [Z9]
theorem Zsh:(Tryz.prog.info? 297).map (λ i=>(i.zero,i.size,i.bytes))=some (some (.agg #[.int .i64 0,.int .i64 0,.int .i64 0]),3,24):=by kernel_rfl
def Zhc (base:Nat) (w:World) (v:Value) (rs:List (Nat × Nat × Nat)):Prop:=w.ownsRow base 297 3 v rs.length (Z9 rs.reverse)
theorem Zhc.top {base:Nat} {w:World} {v:Value} {x y o:Nat} {rs:List (Nat × Nat × Nat)} (h:Zhc base w v ((x,y,o) :: rs)) :
  ∃ g cap,v=.slice (some ⟨g,0,none⟩) (rs.length+1) cap∧base<=g∧g<w.heap.size∧rs.length+1<=cap∧w.cell? ⟨g,rs.length * 3,none⟩=some (.int .i64 (x:Int))∧w.cell? ⟨g,rs.length * 3+1,none⟩=some (.int .i64 (y:Int))∧w.cell? ⟨g,rs.length * 3+2,none⟩=some (.int .i64 (o:Int))∧w.frozen? ⟨g,rs.length * 3,none⟩=false∧w.frozen? ⟨g,rs.length * 3+2,none⟩=false:=by
 obtain ⟨g,cap,hv,hb,hlt⟩:=World.ownsRow.form h (by simp)
 have hcap:rs.length+1<=cap:=by
  rcases h.2 with ⟨e,_⟩ | ⟨g', cap', cur,hv', _,_,hle,_⟩
  ·rw [hv] at e;cases e
  ·rw [hv] at hv'
   simp only [Value.slice.injEq] at hv';have:=hv'.2.2;simp at hle;omega
 subst hv;have h' : w.ownsRow base 297 3 (.slice (some ⟨g,0,none⟩) (rs.length+1) cap) (rs.length+1) (Z9 rs.reverse ++ [.int .i64 (x:Int),.int .i64 (y:Int),.int .i64 (o:Int)]):=by rw [<- Vg];exact h
 have hl:(Z9 rs.reverse).length=rs.length * 3:=by rw [Vs,List.length_reverse]
 refine ⟨g,cap,rfl,hb,hlt,hcap,?_,?_,?_,h'.frozenAt _,h'.frozenAt _⟩
 ·rw [h'.cellAt _ (by omega),List.getElem?_append_right (by omega),hl];simp
 ·rw [h'.cellAt _ (by omega),List.getElem?_append_right (by omega),hl];simp
 ·rw [h'.cellAt _ (by omega),List.getElem?_append_right (by omega),hl];simp
theorem Zhc.kept {base:Nat} {S:Nat->Prop} {w w' : World} {v:Value} {rs:List (Nat × Nat × Nat)} (h:Zhc base w v rs) (hk:Zc S w w') (hs:∀ k,base<=k->¬ S k):Zhc base w' v rs:=by
 refine hk.row h (λ k e=>hs k ?_)
 rcases h.2 with ⟨e', _⟩ | ⟨g,cap,cur,hv,hb,_⟩
 ·rw [e'] at e;simp [Value.ownBlock] at e
 ·rw [hv] at e;simp [Value.ownBlock] at e;omega
theorem Zhc.on {base:Nat} {w:World} {g cap:Nat} {x y o:Nat} {rs:List (Nat × Nat × Nat)} (h:Zhc base w (.slice (some ⟨g,0,none⟩) (rs.length+1) cap) ((x,y,o) :: rs)) (x' o' : Nat) :
  Zhc base ((w.setCell ⟨g,rs.length * 3,none⟩ (.int .i64 (x' : Int))).setCell ⟨g,rs.length * 3+2,none⟩ (.int .i64 (o' : Int))) (.slice (some ⟨g,0,none⟩) (rs.length+1) cap) ((x', y,o') :: rs):=by
 have h' : w.ownsRow base 297 3 (.slice (some ⟨g,0,none⟩) (rs.length+1) cap) (rs.length+1) (Z9 rs.reverse ++ [.int .i64 (x:Int),.int .i64 (y:Int),.int .i64 (o:Int)]):=by rw [<- Vg];exact h
 have hl:(Z9 rs.reverse).length=rs.length * 3:=by rw [Vs,List.length_reverse]
 have h1:=(h'.stored (rs.length * 3) (.int .i64 (x' : Int))).1;have h2:=(h1.stored (rs.length * 3+2) (.int .i64 (o' : Int))).1
 have e:((Z9 rs.reverse ++ [Value.int .i64 (x:Int),.int .i64 (y:Int),.int .i64 (o:Int)]).set (rs.length * 3) (.int .i64 (x' : Int))).set (rs.length * 3+2) (.int .i64 (o' : Int))=Z9 rs.reverse ++ [.int .i64 (x' : Int),.int .i64 (y:Int),.int .i64 (o' : Int)]:=by
  rw [List.set_append_right _ _ (by omega),List.set_append_right _ _ (by omega),hl];simp [show rs.length * 3+2-rs.length * 3=2 by omega]
 rw [e] at h2;unfold Zhc;rw [Vg];exact h2
theorem Zhc.less {base:Nat} {w:World} {g cap:Nat} {x y o:Nat} {rs:List (Nat × Nat × Nat)} (h:Zhc base w (.slice (some ⟨g,0,none⟩) (rs.length+1) cap) ((x,y,o) :: rs)):Zhc base w (.slice (some ⟨g,0,none⟩) rs.length cap) rs:=by
 have hl:(Z9 rs.reverse).length=rs.length * 3:=by rw [Vs,List.length_reverse]
 have h' : w.ownsRow base 297 3 (.slice (some ⟨g,0,none⟩) (rs.length+1) cap) (rs.length+1) (Z9 rs.reverse ++ [.int .i64 (x:Int),.int .i64 (y:Int),.int .i64 (o:Int)]):=by rw [<- Vg];exact h
 have hmn:rs.length * 3<=(rs.length+1) * 3:=by omega
 refine ⟨by rw [hl],?_⟩
 rcases h'.2 with ⟨e1,_⟩ | ⟨g', cap', cur,hv,hb,hg,h1,h2,h3,h4⟩
 ·cases e1
 ·simp only [Value.slice.injEq,Option.some.injEq,Addr.mk.injEq,and_true,true_and] at hv
  obtain ⟨rfl,rfl⟩:=hv;refine .inr ⟨g,cap,cur,rfl,hb,hg,by omega,h2,h3,?_⟩;have:=congrArg (List.take (rs.length * 3)) h4;rw [List.take_take,Nat.min_eq_left hmn,List.take_left' hl] at this;exact this
end
end Go.Proofs.YtjahpnbijefncaaGreat
