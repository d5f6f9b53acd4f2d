import Derived.WalkKit
import Derived.Test.YtmjgnfkbnofjoaaGreatDoorRN11
namespace Go.Proofs.YtmjgnfkbnofjoaaGreatDoor
open Go.Proofs.Tryz
set_option maxRecDepth 100000
set_option linter.unusedVariables false
set_option maxHeartbeats 8000000
variable {ap:Bool} {z:Int} {ld:Int->Int} {AA:List (List Int)} {J R T U a b c ys:List Int} {L:List Sym} {cs0:List Value} {H N b2 base cap cap' g gg i k l m n p q s x y:Nat} {rep:Nat->Int} {xs xs':Nat->List Int} {S:Nat->Prop} {rv sa sb v va:Value} {w w' w0 w1 w9:World}
section
open Go.RowKit
attribute [local go_sem ↓] Go.wp_at_zero Go.wp_at_succ
def ptN (ap:Bool) (N x:Nat):Int:=if x<N then (x:Int) else if ap=true∧(x-N) % 2=1 then -(((x-N) / 2:Nat):Int)-100 else -(((x-N) / 2:Nat):Int)-1
def Xf (ap:Bool) (N x:Nat):Prop:=x<N∨(N<=x∧x<N+198∧(ap=true∨(x-N) % 2=0))
theorem Jo (h:x<N):ptN ap N x=x:=by unfold ptN;rw [if_pos h]
theorem Zd6 (h:N<=x):ptN ap N x<0:=by
 unfold ptN;rw [if_neg (by omega)];split <;> omega
theorem pt_inj (hx:Xf ap N x) (hy:Xf ap N y) (h:ptN ap N x=ptN ap N y):x=y:=by
 unfold ptN at h;unfold Xf at hx hy
 by_cases h1:x<N
 ·rw [if_pos h1] at h
  by_cases h2:y<N
  ·rw [if_pos h2] at h;omega
  ·rw [if_neg h2] at h;split at h <;> omega
 ·rw [if_neg h1] at h
  by_cases h2:y<N
  ·rw [if_pos h2] at h;split at h <;> omega
  ·rw [if_neg h2] at h
   by_cases e1:ap=true∧(x-N) % 2=1
   ·rw [if_pos e1] at h
    by_cases e2:ap=true∧(y-N) % 2=1
    ·rw [if_pos e2] at h;omega
    ·rw [if_neg e2] at h;omega
   ·rw [if_neg e1] at h
    by_cases e2:ap=true∧(y-N) % 2=1
    ·rw [if_pos e2] at h;omega
    ·rw [if_neg e2] at h
     have a1:(x-N) % 2=0:=by
      rcases hx with q | ⟨_,_,q | q⟩
      ·omega
      ·by_cases z:(x-N) % 2=1
       ·exact absurd ⟨q,z⟩ e1
       ·omega
      ·exact q
     have a2:(y-N) % 2=0:=by
      rcases hy with q | ⟨_,_,q | q⟩
      ·omega
      ·by_cases z:(y-N) % 2=1
       ·exact absurd ⟨q,z⟩ e2
       ·omega
      ·exact q
     omega
structure NR (ap:Bool) (J:List Int) (up:Nat->Nat) (rep:Nat->Int) (cl:Nat->Nat) (ρ:Nat->Nat) (ld:Int->Int):Prop where
 node:∀ x,Xf ap J.length x->Xf ap J.length (up x)
 cnode:∀ x,Xf ap J.length x->Xf ap J.length (cl x)
 same:∀ x,Xf ap J.length x->cl (up x)=cl x
 idem:∀ x,Xf ap J.length x->cl (cl x)=cl x
 stop:∀ x,Xf ap J.length x->(up x=x ↔ cl x=x)
 down:∀ x,Xf ap J.length x->up x≠x->ρ (up x)<ρ x
 reps:∀ c,Xf ap J.length c->cl c=c->(rep c = -1∧J.length<=c)∨∃ p:Nat,rep c=p∧p<J.length∧cl p=c
 led:∀ x,Xf ap J.length x->ld (ptN ap J.length x)=if rep (cl x)<0 then ptN ap J.length (cl x) else rep (cl x)
theorem NR.eq {up:Nat->Nat} {cl ρ:Nat->Nat} (h:NR ap J up rep cl ρ ld) (hx:Xf ap J.length x) (hy:Xf ap J.length y):cl x=cl y ↔ ld (ptN ap J.length x)=ld (ptN ap J.length y):=by
 constructor
 ·intro e;rw [h.led x hx,h.led y hy,e]
 ·intro e
  rw [h.led x hx,h.led y hy] at e;have cx:=h.cnode x hx;have cy:=h.cnode y hy
  rcases h.reps _ cx (h.idem x hx) with ⟨a1,a2⟩ | ⟨p,a1,a2,a3⟩ <;> rcases h.reps _ cy (h.idem y hy) with ⟨b1,b2⟩ | ⟨q,b1,b2,b3⟩
  ·rw [if_pos (by omega),if_pos (by omega)] at e;exact pt_inj cx cy e
  ·have:=Zd6 (ap:=ap) a2
   rw [if_pos (by omega),if_neg (by omega)] at e;omega
  ·have:=Zd6 (ap:=ap) b2
   rw [if_neg (by omega),if_pos (by omega)] at e;omega
  ·rw [if_neg (by omega),if_neg (by omega)] at e
   have:p=q:=by omega
   subst this;rw [<- a3,<- b3]
theorem NR.join {up:Nat->Nat} {cl ρ:Nat->Nat} (h:NR ap J up rep cl ρ ld) (hp:Xf ap J.length p) (hq:Xf ap J.length q) (lp:cl p=p) (lq:cl q=q) (hpq:p≠q) :
  ∃ cl' ρ', NR ap J (λ k=>if k=p then q else up k) (λ k=>if k=q then (if rep q<0 then rep p else rep q) else rep k) cl' ρ' (if rep p<0 then un (ptN ap J.length p) (if rep q<0 then ptN ap J.length q else rep q) ld else if rep q<0 then un (ptN ap J.length q) (rep p) ld else un (rep p) (rep q) ld):=by
 obtain ⟨cl', hcl⟩:∃ cl' : Nat->Nat,cl' = λ z=>if cl z=p then q else cl z:=⟨_,rfl⟩
 have c1:∀ z,cl z=p->cl' z=q:=λ z e=>by rw [hcl];simp only;rw [if_pos e]
 have c2:∀ z,cl z≠p->cl' z=cl z:=λ z e=>by rw [hcl];simp only;rw [if_neg e]
 have lqp:cl q≠p:=by rw [lq];exact λ e=>hpq e.symm
 have rp:=h.reps p hp lp;have rq:=h.reps q hq lq;refine ⟨cl', λ x=>ρ x+if cl x=p then ρ q+1 else 0,?_,?_,?_,?_,?_,?_,?_,?_⟩
 ·intro x hx
  by_cases e:x=p
  ·simp only [e,if_true];exact hq
  ·simp only [e,if_false];exact h.node x hx
 ·intro x hx
  by_cases e:cl x=p
  ·rw [c1 x e];exact hq
  ·rw [c2 x e];exact h.cnode x hx
 ·intro x hx
  by_cases e:x=p
  ·simp only [e,if_true];rw [c2 q lqp,c1 p lp,lq]
  ·simp only [e,if_false]
   have:=h.same x hx;rw [hcl];simp only;rw [this]
 ·intro x hx
  by_cases e:cl x=p
  ·rw [c1 x e,c2 q lqp,lq]
  ·rw [c2 x e,c2 (cl x) (by rw [h.idem x hx];exact e),h.idem x hx]
 ·intro x hx
  by_cases e:x=p
  ·simp only [e,if_true];rw [c1 p lp]
  ·simp only [e,if_false]
   by_cases f:cl x=p
   ·rw [c1 x f]
    refine ⟨λ g=>?_,λ g=>?_⟩
    ·have:=(h.stop x hx).1 g;rw [f] at this;exact absurd this.symm e
    ·rw [<- g,lq] at f;exact absurd f.symm hpq
   ·rw [c2 x f];exact h.stop x hx
 ·intro x hx
  by_cases e:x=p
  ·simp only [e,if_true];intro _;rw [if_neg lqp,if_pos lp];omega
  ·simp only [e,if_false]
   intro hn;have:=h.down x hx hn;rw [h.same x hx];omega
 ·intro c hc lc
  have hcp:cl c≠p:=λ e=>by rw [c1 c e] at lc;subst lc;exact lqp e
  rw [c2 c hcp] at lc
  by_cases e:c=q
  ·subst e
   simp only [if_true]
   rcases rq with ⟨b1,b2⟩ | ⟨y,b1,b2,b3⟩
   ·rw [if_pos (by omega)]
    rcases rp with ⟨a1,a2⟩ | ⟨x,a1,a2,a3⟩
    ·exact .inl ⟨a1,b2⟩
    ·exact .inr ⟨x,a1,a2,c1 x a3⟩
   ·rw [if_neg (by omega)]
    exact .inr ⟨y,b1,b2,by rw [c2 y (by rw [b3];exact λ e=>hpq e.symm)];exact b3⟩
  ·simp only [e,if_false]
   rcases h.reps c hc lc with a | ⟨x,a1,a2,a3⟩
   ·exact .inl a
   ·have:c≠p:=λ f=>by rw [f,lp] at hcp;exact hcp rfl
    exact .inr ⟨x,a1,a2,by rw [c2 x (by rw [a3];exact this)];exact a3⟩
 ·intro x hx
  have hl:=h.led x hx;have lq' := h.led q hq;have lp' := h.led p hp;rw [lq] at lq';rw [lp] at lp';have inj:∀ y,Xf ap J.length y->(ld (ptN ap J.length x)=ld (ptN ap J.length y) ↔ cl x=cl y):=λ y hy=>(h.eq hx hy).symm;have ip:=inj p hp;have iq:=inj q hq;rw [lp] at ip;rw [lq] at iq
  have new:(if (λ k=>if k=q then (if rep q<0 then rep p else rep q) else rep k) (cl' x)<0 then ptN ap J.length (cl' x) else (λ k=>if k=q then (if rep q<0 then rep p else rep q) else rep k) (cl' x))=if cl x=p∨cl x=q then (if (if rep q<0 then rep p else rep q)<0 then ptN ap J.length q else (if rep q<0 then rep p else rep q)) else ld (ptN ap J.length x):=by
   by_cases e1:cl x=p
   ·simp only [c1 x e1,e1,true_or,if_true]
   ·by_cases e2:cl x=q
    ·have e3:cl' x=q:=by rw [c2 x e1,e2]
     simp only [e3,e2,or_true,if_true]
    ·have e3:cl' x=cl x:=c2 x e1
     simp only [e3,e1,e2,or_self,if_false];exact hl.symm
  rw [new]
  have key:∀ (u v:Int),(u=ld (ptN ap J.length p)∧v=ld (ptN ap J.length q)∨u=ld (ptN ap J.length q)∧v=ld (ptN ap J.length p))->un u v ld (ptN ap J.length x)=if cl x=p∨cl x=q then v else ld (ptN ap J.length x):=by
   intro u v huv;unfold un
   rcases huv with ⟨rfl,rfl⟩ | ⟨rfl,rfl⟩
   ·by_cases e1:cl x=p
    ·rw [if_pos (ip.2 e1),if_pos (.inl e1)]
    ·rw [if_neg (λ f=>e1 (ip.1 f))]
     by_cases e2:cl x=q
     ·rw [if_pos (.inr e2)];exact iq.2 e2
     ·rw [if_neg (by rintro (f | f);exact e1 f;exact e2 f)]
   ·by_cases e2:cl x=q
    ·rw [if_pos (iq.2 e2),if_pos (.inr e2)]
    ·rw [if_neg (λ f=>e2 (iq.1 f))]
     by_cases e1:cl x=p
     ·rw [if_pos (.inl e1)];exact ip.2 e1
     ·rw [if_neg (by rintro (f | f);exact e1 f;exact e2 f)]
  by_cases hf:rep p<0
  ·rw [if_pos hf] at lp' ⊢
   by_cases hg:rep q<0
   ·rw [if_pos hg] at lq' ⊢
    rw [if_pos hg,if_pos hf];exact key _ _ (.inl ⟨lp'.symm,lq'.symm⟩)
   ·rw [if_neg hg] at lq' ⊢
    rw [if_neg hg,if_neg hg];exact key _ _ (.inl ⟨lp'.symm,lq'.symm⟩)
  ·rw [if_neg hf] at lp' ⊢
   by_cases hg:rep q<0
   ·rw [if_pos hg] at lq' ⊢
    rw [if_pos hg,if_neg hf];exact key _ _ (.inr ⟨lq'.symm,lp'.symm⟩)
   ·rw [if_neg hg] at lq' ⊢
    rw [if_neg hg,if_neg hg];exact key _ _ (.inl ⟨lp'.symm,lq'.symm⟩)
structure NB where
 nb:Nat
 tb:Nat
 ab:Nat
 ub:Nat
 rb:Nat
 tc:Nat
 ac:Nat
 uc:Nat
 rc:Nat
 lv:Value
 top:Nat
def NB.Two (B:NB) (k:Nat):Prop:=k=B.ub∨k=B.rb
structure NC (L:List Sym) (B:NB) (w:World) (T J:List Int) (up:Nat->Nat) (rep:Nat->Int):Prop where
 blk:w.heap[B.nb]? = some (.cells #[B.lv,.slice (some ⟨B.tb,0,none⟩) J.length B.tc,.slice (some ⟨B.ab,0,none⟩) J.length B.ac,.slice (some ⟨B.ub,0,none⟩) (J.length+200) B.uc,.slice (some ⟨B.rb,0,none⟩) (J.length+200) B.rc] 341 (0,0))
 nums:Kd w B.tb J.length (λ i=>at' T i)
 args:∀ p,p<J.length->∃ go gc,w.cell? ⟨B.ab,p,none⟩=some (.slice go (Zl L J p).length gc)∧Zh w go ((Zl L J p).map (λ k:Nat=>(k:Int)))∧∀ a,go=some a->¬ B.Two a.block∧a.block<B.top
 alt:B.ab<w.heap.size
 ups:Kd w B.ub (J.length+200) (λ i=>(up i:Int))
 reps:Kd w B.rb (J.length+200) rep
 n1:¬ B.Two B.nb
 n2:¬ B.Two B.tb
 n3:¬ B.Two B.ab
 n4:B.ub≠B.rb
 t1:B.nb<B.top
 t2:B.tb<B.top
 t3:B.ab<B.top
 t4:B.ub<B.top
 t5:B.rb<B.top
theorem NC.kept {B:NB} {up:Nat->Nat} (h:NC L B w T J up rep) (hk:Zc S w w') (hs:∀ k,k<B.top->¬ S k):NC L B w' T J up rep:=by
 refine ⟨hk.at h.blk (hs _ h.t1),h.nums.kept hk (hs _ h.t2),λ p hp=>?_,Nat.lt_of_lt_of_le h.alt hk.size,h.ups.kept hk (hs _ h.t4),h.reps.kept hk (hs _ h.t5),h.n1,h.n2,h.n3,h.n4,h.t1,h.t2,h.t3,h.t4,h.t5⟩;obtain ⟨go,gc,a1,a2,a3⟩:=h.args p hp;exact ⟨go,gc,(hk.cell (p:=⟨B.ab,p,none⟩) h.alt (hs _ h.t3)).trans a1,a2.kept hk (λ a e=>hs _ (a3 a e).2),a3⟩
theorem NC.same {B:NB} {up:Nat->Nat} (h:NC L B w T J up rep) (hk:Za w w'):NC L B w' T J up rep:=h.kept hk (λ _ _ f=>f)
theorem NC.two {B:NB} {up up' : Nat->Nat} {rep':Nat->Int} (h:NC L B w T J up rep) (hk:Zc B.Two w w') (h1:Kd w' B.ub (J.length+200) (λ i=>(up' i:Int))) (h2:Kd w' B.rb (J.length+200) rep'):NC L B w' T J up' rep' := by
 refine ⟨hk.at h.blk h.n1,h.nums.kept hk h.n2,λ p hp=>?_,Nat.lt_of_lt_of_le h.alt hk.size,h1,h2,h.n1,h.n2,h.n3,h.n4,h.t1,h.t2,h.t3,h.t4,h.t5⟩;obtain ⟨go,gc,a1,a2,a3⟩:=h.args p hp;exact ⟨go,gc,(hk.cell (p:=⟨B.ab,p,none⟩) h.alt h.n3).trans a1,a2.kept hk (λ a e=>(a3 a e).1),a3⟩
theorem NC.cells {B:NB} {up:Nat->Nat} (h:NC L B w T J up rep):w.cell? ⟨B.nb,1,none⟩=some (.slice (some ⟨B.tb,0,none⟩) J.length B.tc)∧w.cell? ⟨B.nb,2,none⟩=some (.slice (some ⟨B.ab,0,none⟩) J.length B.ac)∧w.cell? ⟨B.nb,3,none⟩=some (.slice (some ⟨B.ub,0,none⟩) (J.length+200) B.uc)∧w.cell? ⟨B.nb,4,none⟩=some (.slice (some ⟨B.rb,0,none⟩) (J.length+200) B.rc):=
 ⟨Zb h.blk 1,Zb h.blk 2,Zb h.blk 3,Zb h.blk 4⟩
theorem Zv2 (h:Xf ap N x):x<N+200:=by unfold Xf at h;omega
theorem Zek {B:NB} {up:Nat->Nat} (h:NC L B w T J up rep) {cl ρ:Nat->Nat} (hr:NR ap J up rep cl ρ ld) (hx:Xf ap J.length x) :
  Calls prog 234 #[.pointer (some ⟨B.nb,0,none⟩),.int .i64 (x:Int)] w λ e w' => e=.returned (.int .i64 (cl x:Int))∧w' = w:=by
 obtain ⟨c1,c2,c3,c4⟩:=h.cells;have hU:=h.ups;clear h
 go_enter func234,ntmps234
 go_wp2_with fail
 go_loopw [1] (λ tp wr=>∃ y:Nat,tp=.int .i64 (y:Int)∧Xf ap J.length y∧cl y=cl x∧wr=w) (λ tp _=>ρ (intOf tp).toNat)
 case atStart=>exact ⟨x,rfl,hx,rfl,rfl⟩
 case round=>
  obtain ⟨y,rfl,hy,hyx,rfl⟩:=hrel;have hlt:=Zv2 hy;have cu:=(hU.cell hlt).1;have i1:(0:Int)<=(y:Int):=by omega
  have i2:(y:Int)<(J.length:Int)+200:=by omega
  have i3:(y:Int)<((J.length+200:Nat):Int):=by omega
  by_cases hn:up y=y
  ·have e1:cl x=y:=by rw [<- hyx];exact (hr.stop y hy).1 hn
   rw [hn] at cu;clear hr hU
   go_wp2_with fail
   go_returns
   exact ⟨by rw [e1];rfl,rfl⟩
  ·have hd:=hr.down y hy hn
   have hv:=hr.node y hy;have hs:=hr.same y hy;have hni:¬ (up y:Int)=(y:Int):=by omega
   clear hr hU
   go_wp2_with fail
   go_roundw
   case rel=>exact ⟨up y,rfl,hv,by rw [hs];exact hyx,(by first | rfl | trivial)⟩
   case measure=>simpa [intOf] using hd
def Zqx (l:List (Nat × Nat)):List Value:=l.flatMap λ x=>[.int .i64 (x.1:Int),.int .i64 (x.2:Int)]
def Fine (st:List (Nat × Nat)):Prop:=∀ x∈st,x.1<x.2∧x.2<=6
theorem Zkw (st:List (Nat × Nat)):(Zd7 st).length<=st.length:=by
 induction st with
 | nil=>simp [Zd7]
 | cons x r ih=>
  obtain ⟨j,a⟩:=x;unfold Zd7;split
  ·simp
  ·simp;omega
theorem Zli (st:List (Nat × Nat)) (a:Nat):(pass st a).length<=st.length+1:=by
 unfold pass;split
 ·simp
 ·have:=Zkw st;omega
structure Zyf (base:Nat) (w:World) (a:Nat) (v:Value) (st:List (Nat × Nat)):Prop where
 blk:w.heap[a]? = some (.cells #[v] 331 (0,0))
 row:w.ownsRow base 351 2 v st.length (Zqx st.reverse)
 ap:v.ownBlock≠some a
 fine:Fine st
 len:st.length<=2000
def Zxt (a:Nat) (v:Value) (k:Nat):Prop:=k=a∨v.ownBlock=some k
theorem Zvc {size:Nat} {e:TypeId} {xs:List Value} (h:w.ownsRow base e size (.slice (some ⟨g,0,none⟩) n cap) n xs) (hm:m<=n):w.ownsRow base e size (.slice (some ⟨g,0,none⟩) m cap) m (xs.take (m * size)):=by
 have hl:=h.1;have hmn:m * size<=n * size:=Nat.mul_le_mul_right _ hm;refine ⟨by rw [List.length_take,hl];omega,?_⟩
 rcases h.2 with ⟨e1,_⟩ | ⟨g', cap', cur,hv,hb,hg,h1,h2,h3,h4⟩
 ·cases e1
 ·simp only [Value.slice.injEq,Option.some.injEq,Addr.mk.injEq,and_true,true_and] at hv
  obtain ⟨rfl,rfl⟩:=hv;exact .inr ⟨g,cap,cur,rfl,hb,hg,by omega,h2,h3,by rw [<- h4,List.take_take,Nat.min_eq_left hmn]⟩
structure Popped (base:Nat) (w:World) (a:Nat) (v0:Value) (st0:List (Nat × Nat)) (wr:World) (v:Value) (st:List (Nat × Nat)):Prop where
 tr:Zyf base wr a v st
 k:Zc (Zxt a v0) w wr
 f:∀ k,Zxt a v k->Zxt a v0 k
 eq:Hid (Zd7 st=Zd7 st0)
def Jf (ps:List (Nat × Nat)):List Int:=ps.flatMap (λ r=>[(r.1:Int),(r.2:Int)])
def Z4 (ps:List (Nat × Nat)):List Int:=Jf ps.reverse
theorem Zel (ps:List (Nat × Nat)):(Jf ps).length=2 * ps.length:=by
 induction ps with
 | nil=>rfl
 | cons r ps ih=>simp [Jf] at ih ⊢;omega
theorem Zai (a b:List (Nat × Nat)):Jf (a++b)=Jf a++Jf b:=by simp [Jf]
theorem Zal (ps:List (Nat × Nat)):(Z4 ps).length=2 * ps.length:=by rw [Z4,Zel,List.length_reverse]
theorem Zk8 (y x:Nat) (ps:List (Nat × Nat)):Z4 ((y,x) :: ps)=Z4 ps ++ [(y:Int),(x:Int)]:=by
 unfold Z4;rw [List.reverse_cons,Zai];rfl
theorem Zlm (a ps:List (Nat × Nat)):Z4 (a++ps)=Z4 ps++Jf a.reverse:=by
 unfold Z4;rw [List.reverse_append,Zai]
theorem Zun {l m:List Nat} (h:l.length=m.length) (hi:i<l.length):Jf ((l.zip m).take (i+1))=Jf ((l.zip m).take i) ++ [(l[i]:Int),(m[i]'(by omega):Int)]:=by
 rw [List.take_add_one,Zxh h hi,Zai];rfl
def NAt (L:List Sym) (ap:Bool) (B:NB) (w:World) (T J:List Int) (ld:Int->Int):Prop:=∃ up rep cl ρ,NC L B w T J up rep∧NR ap J up rep cl ρ ld
theorem NAt.kept {B:NB} (h:NAt L ap B w T J ld) (hk:Zc S w w') (hs:∀ k,k<B.top->¬ S k):NAt L ap B w' T J ld:=by
 obtain ⟨up,rep,cl,ρ,h1,h2⟩:=h;exact ⟨up,rep,cl,ρ,h1.kept hk hs,h2⟩
structure NRel (L:List Sym) (ap:Bool) (B:NB) (T J:List Int) (res:Option (Int->Int)) (w0:World) (k:Nat) (wr:World) (v:Value) (ld:Int->Int) (ps:List (Nat × Nat)):Prop where
 u:NOk L J res k ld ps
 j:NAt L ap B wr T J ld
 row:Row w0.heap.size wr v (Z4 ps)
 kept:Zc B.Two w0 wr
def NEnd (L:List Sym) (ap:Bool) (B:NB) (T J:List Int) (res:Option (Int->Int)) (w:World) (e:Ending) (w' : World):Prop:=(∀ ld', res=some ld' -> e=.returned (.bool true)∧NAt L ap B w' T J ld')∧(res=none->e=.returned (.bool false))∧Zc B.Two w w'
theorem Zwy {B:NB} {up:Nat->Nat} {cl ρ:Nat->Nat} (h:NC L B w T J up rep) (hr:NR ap J up rep cl ρ ld) (hx:x<J.length) (hy:y<J.length) (hne:cl x≠cl y) :
  (rep (cl x)<0->ld x<0)∧(¬ rep (cl x)<0->ld x=rep (cl x))∧(rep (cl y)<0->ld y<0)∧(¬ rep (cl y)<0->ld y=rep (cl y)) ∧
  (rep (cl y)<0->NAt L ap B ((w.setCell ⟨B.ub,cl x,none⟩ (.int .i64 (cl y:Int))).setCell ⟨B.rb,cl y,none⟩ (.int .i64 (rep (cl x)))) T J (if ld x<0 then un (ld x) (ld y) ld else un (ld y) (ld x) ld)) ∧
  (¬ rep (cl y)<0->NAt L ap B (w.setCell ⟨B.ub,cl x,none⟩ (.int .i64 (cl y:Int))) T J (un (ld x) (ld y) ld)) ∧
  Zc B.Two w (w.setCell ⟨B.ub,cl x,none⟩ (.int .i64 (cl y:Int)))∧Zc B.Two w ((w.setCell ⟨B.ub,cl x,none⟩ (.int .i64 (cl y:Int))).setCell ⟨B.rb,cl y,none⟩ (.int .i64 (rep (cl x)))):=by
 have vx:Xf ap J.length x:=.inl hx;have vy:Xf ap J.length y:=.inl hy;have lx:=hr.led x vx;have ly:=hr.led y vy;rw [Jo hx] at lx;rw [Jo hy] at ly;have rx:=hr.reps _ (hr.cnode x vx) (hr.idem x vx);have ry:=hr.reps _ (hr.cnode y vy) (hr.idem y vy)
 have x1:rep (cl x)<0->ld x<0:=λ f=>by
  rw [lx,if_pos f]
  rcases rx with ⟨_,a⟩ | ⟨p,a,_⟩
  ·exact Zd6 a
  ·omega
 have y1:rep (cl y)<0->ld y<0:=λ f=>by
  rw [ly,if_pos f]
  rcases ry with ⟨_,a⟩ | ⟨p,a,_⟩
  ·exact Zd6 a
  ·omega
 have x2:¬ rep (cl x)<0->ld x=rep (cl x):=λ f=>by rw [lx,if_neg f]
 have y2:¬ rep (cl y)<0->ld y=rep (cl y):=λ f=>by rw [ly,if_neg f]
 have k1:Zc B.Two w (w.setCell ⟨B.ub,cl x,none⟩ (.int .i64 (cl y:Int))):=Zc.setCell (S:=B.Two) (p:=⟨B.ub,cl x,none⟩) (Zc.refl _ _) (λ _=>.inl rfl) _;have k1' : Zc (λ k=>k=B.ub) w (w.setCell ⟨B.ub,cl x,none⟩ (.int .i64 (cl y:Int))):=Zc.setCell (S:=λ k=>k=B.ub) (p:=⟨B.ub,cl x,none⟩) (Zc.refl _ _) (λ _=>rfl) _;have k2:Zc B.Two w ((w.setCell ⟨B.ub,cl x,none⟩ (.int .i64 (cl y:Int))).setCell ⟨B.rb,cl y,none⟩ (.int .i64 (rep (cl x)))):=k1.setCell (p:=⟨B.rb,cl y,none⟩) (λ _=>.inr rfl) _;have k2' : Zc (λ k=>k=B.rb) (w.setCell ⟨B.ub,cl x,none⟩ (.int .i64 (cl y:Int))) ((w.setCell ⟨B.ub,cl x,none⟩ (.int .i64 (cl y:Int))).setCell ⟨B.rb,cl y,none⟩ (.int .i64 (rep (cl x)))):=Zc.setCell (S:=λ k=>k=B.rb) (p:=⟨B.rb,cl y,none⟩) (Zc.refl _ _) (λ _=>rfl) _;obtain ⟨cl', ρ', hj⟩:=hr.join (hr.cnode x vx) (hr.cnode y vy) (hr.idem x vx) (hr.idem y vy) hne;have u1:Kd (w.setCell ⟨B.ub,cl x,none⟩ (.int .i64 (cl y:Int))) B.ub (J.length+200) (λ i=>((if i=cl x then cl y else up i:Nat):Int)):=(h.ups.set (cl x) (cl y:Int)).congr (λ i _=>by by_cases e:i=cl x <;> simp [e]);have r1:=h.reps.kept k1' (λ e=>h.n4 e.symm);refine ⟨x1,x2,y1,y2,λ hg=>?_,λ hg=>?_,k1,k2⟩
 ·refine ⟨_,λ k=>if k=cl y then (if rep (cl y)<0 then rep (cl x) else rep (cl y)) else rep k,cl', ρ', h.two k2 (u1.kept k2' h.n4) ((r1.set (cl y) (rep (cl x))).congr (λ i _=>?_)),?_⟩
  ·simp only [if_pos hg]
  ·have ly' : ld y=ptN ap J.length (cl y):=by rw [ly,if_pos hg]
   have hE:(if ld x<0 then un (ld x) (ld y) ld else un (ld y) (ld x) ld)=(if rep (cl x)<0 then un (ptN ap J.length (cl x)) (if rep (cl y)<0 then ptN ap J.length (cl y) else rep (cl y)) ld else if rep (cl y)<0 then un (ptN ap J.length (cl y)) (rep (cl x)) ld else un (rep (cl x)) (rep (cl y)) ld):=by
    by_cases hf:rep (cl x)<0
    ·have lx' : ld x=ptN ap J.length (cl x):=by rw [lx,if_pos hf]
     rw [if_pos (x1 hf),if_pos hf,if_pos hg,lx', ly']
    ·have lx' := x2 hf
     have hn:¬ ld x<0:=by
      rcases rx with ⟨a,_⟩ | ⟨p,a,_⟩
      ·omega
      ·omega
     rw [if_neg hn,if_neg hf,if_pos hg,lx', ly']
   rw [hE];exact hj
 ·refine ⟨_,λ k=>if k=cl y then (if rep (cl y)<0 then rep (cl x) else rep (cl y)) else rep k,cl', ρ', h.two k1 u1 (r1.congr (λ i _=>?_)),?_⟩
  ·by_cases e:i=cl y
   ·simp only [e,if_true,if_neg hg]
   ·simp only [e,if_false]
  ·have ly' := y2 hg
   have hE:un (ld x) (ld y) ld=(if rep (cl x)<0 then un (ptN ap J.length (cl x)) (if rep (cl y)<0 then ptN ap J.length (cl y) else rep (cl y)) ld else if rep (cl y)<0 then un (ptN ap J.length (cl y)) (rep (cl x)) ld else un (rep (cl x)) (rep (cl y)) ld):=by
    by_cases hf:rep (cl x)<0
    ·have lx' : ld x=ptN ap J.length (cl x):=by rw [lx,if_pos hf]
     rw [if_pos hf,if_neg hg,lx', ly']
    ·have lx' := x2 hf
     rw [if_neg hf,if_neg hg,lx', ly']
   rw [hE];exact hj
theorem Zdo:(prog.info? 3).map (λ i=>(i.zero,i.size,i.bytes))=some (some (.int .i64 0),1,8):=by kernel_rfl
theorem Zv8 {ps:List (Nat × Nat)} (h:Row base w v (Z4 ((y,x) :: ps))):∃ g cap,v=.slice (some ⟨g,0,none⟩) (2 * ps.length+2) cap∧base<=g∧g<w.heap.size∧2 * ps.length+2<=cap∧w.cell? ⟨g,2 * ps.length,none⟩=some (.int .i64 (y:Int))∧w.cell? ⟨g,2 * ps.length+1,none⟩=some (.int .i64 (x:Int))∧Row base w (.slice (some ⟨g,0,none⟩) (2 * ps.length) cap) (Z4 ps):=by
 have hl:(Z4 ((y,x) :: ps)).length=2 * ps.length+2:=by rw [Zal,List.length_cons];omega
 obtain ⟨g,cap,hv,hb,hlt⟩:=World.ownsRow.form h (by rw [hl];omega);rw [hl] at hv
 have hcap:2 * ps.length+2<=cap:=by
  rcases h.2 with ⟨e,_⟩ | ⟨g', cap', cur,hv', _,_,hle,_⟩
  ·rw [hv] at e;cases e
  ·rw [hv,hl] at hv'
   simp only [Value.slice.injEq] at hv';have:=hv'.2.2;rw [hl] at hle;omega
 subst hv
 have h' : w.ownsRow base 3 1 (.slice (some ⟨g,0,none⟩) (2 * ps.length+2) cap) (2 * ps.length+2) (iv (Z4 ps) ++ [.int .i64 (y:Int),.int .i64 (x:Int)]):=by
  have:iv (Z4 ps) ++ [Value.int .i64 (y:Int),.int .i64 (x:Int)]=iv (Z4 ((y,x) :: ps)):=by rw [Zk8,Xz];rfl
  have h0:w.ownsRow base 3 1 (.slice (some ⟨g,0,none⟩) (2 * ps.length+2) cap) (Z4 ((y,x) :: ps)).length (iv (Z4 ((y,x) :: ps))):=h;rw [hl] at h0;rw [this];exact h0
 have l2:(iv (Z4 ps)).length=2 * ps.length:=by rw [Ye,Zal]
 refine ⟨g,cap,rfl,hb,hlt,hcap,?_,?_,?_⟩
 ·rw [h'.cellAt _ (by omega),List.getElem?_append_right (by omega),l2];simp
 ·rw [h'.cellAt _ (by omega),List.getElem?_append_right (by omega),l2];simp
 ·have:=Zvc (m:=2 * ps.length) h' (by omega)
  rw [Nat.mul_one,List.take_left' l2] at this;show w.ownsRow base 3 1 _ (Z4 ps).length _;rw [Zal];exact this
theorem Zu5 (w:World) (x y:Nat):Row w.heap.size (w.alloc (.cells #[.int .i64 (x:Int),.int .i64 (y:Int)] 3)) (.slice (some ⟨w.heap.size,0,none⟩) 2 2) (Z4 [(x,y)]):=
 ⟨rfl,.inr ⟨w.heap.size,2,_,rfl,Nat.le_refl _,heap_alloc_new _ _,Nat.le_refl _,by decide,rfl,rfl⟩⟩
theorem Zik {B:NB} {up:Nat->Nat} (h:NC L B w T J up rep) (hp:p<J.length) (hk:k<(Zl L J p).length):∃ gb off gc,w.cell? ⟨B.ab,p,none⟩=some (.slice (some ⟨gb,off,none⟩) (Zl L J p).length gc)∧w.cell? ⟨gb,off+k,none⟩=some (.int .i64 ((Zl L J p)[k]:Nat))∧gb<B.top:=by
 obtain ⟨go,gc,a1,a2,a3⟩:=h.args p hp;obtain ⟨gb,off,rfl,b1,b2⟩:=a2.get (i:=k) (by simpa using hk);exact ⟨gb,off,gc,a1,by simpa using b2,(a3 _ rfl).2⟩
theorem net_up {B:NB} {up:Nat->Nat} (h:NC L B w T J up rep) (p q:Nat):NC L B (w.setCell ⟨B.ub,p,none⟩ (.int .i64 (q:Int))) T J (λ i=>if i=p then q else up i) rep:=by
 have k1:Zc B.Two w (w.setCell ⟨B.ub,p,none⟩ (.int .i64 (q:Int))):=Zc.setCell (S:=B.Two) (p:=⟨B.ub,p,none⟩) (Zc.refl _ _) (λ _=>.inl rfl) _;have k1' : Zc (λ k=>k=B.ub) w (w.setCell ⟨B.ub,p,none⟩ (.int .i64 (q:Int))):=Zc.setCell (S:=λ k=>k=B.ub) (p:=⟨B.ub,p,none⟩) (Zc.refl _ _) (λ _=>rfl) _;exact h.two k1 ((h.ups.set p (q:Int)).congr (λ i _=>by by_cases e:i=p <;> simp [e])) (h.reps.kept k1' (λ e=>h.n4 e.symm))
theorem Zsv {B:NB} {res:Option (Int->Int)} (h:NAt L ap B w T J ld) {a:Nat} (hJ:J.length<=4000) (hT:∀ p:Nat,p<J.length->0<=at' J p->at' T p=at' J p) (htop:B.top<=w.heap.size) (hu:NOk L J res n ld [(a,m)]) :
  Calls prog 226 #[.pointer (some ⟨B.nb,0,none⟩),.int .i64 (a:Int),.int .i64 (m:Int)] w (NEnd L ap B T J res w):=by
 obtain ⟨i0,hi0,hz0,hz1,hz2⟩:=info_parts Zdo
 have U0:NRel L ap B T J res w n (w.alloc (.cells #[.int .i64 (a:Int),.int .i64 (m:Int)] 3)) (.slice (some ⟨w.heap.size,0,none⟩) 2 2) ld [(a,m)]:=
  ⟨hu,h.kept (S:=λ _=>False) (Zc.alloc (Zc.refl _ w) _) (λ _ _ f=>f),Zu5 w a m,Zc.alloc (Zc.refl _ w) _⟩
 have htb:∀ k,w.heap.size<=k->¬ B.Two k:=by
  obtain ⟨up,rep,cl,ρ,hC,_⟩:=h;intro k hk f
  rcases f with e | e
  ·have:=hC.t4;omega
  ·have:=hC.t5;omega
 clear h hu
 go_enter func226,ntmps226
 go_wp2_with fail
 go_loopg [7] n (λ k s7 wr=>∃ ld ps,NRel L ap B T J res w k wr s7 ld ps)
 case atStart=>exact ⟨ld,_,U0⟩
 case round=>
  clear U0;obtain ⟨ld,ps,hU⟩:=hrel;cases ps with
  | nil=>
   obtain ⟨vo,vcap,hvv⟩:=Zf hU.row;have hl0:(Z4 []).length=0:=rfl;rw [hl0] at hvv;subst hvv;have e1:=hU.u.nil;have fin:NEnd L ap B T J res w (.returned (.bool true)) wr:=⟨λ ld' e=>⟨rfl,by rw [e1] at e;cases e;exact hU.j⟩,λ e=>(by rw [e1] at e;cases e),hU.kept⟩;clear hU e1
   go_wp2_with fail
   go_returns
   exact fin
  | cons r ps=>
   obtain ⟨y,x⟩:=r;obtain ⟨g,cap,rfl,hg1,hg2,hcap,q0,q1,hrow⟩:=Zv8 hU.row;obtain ⟨up,rep,cl,ρ,hC,hR⟩:=hU.j;obtain ⟨t2,t1⟩:=hU.u.pairs (y,x) (by simp);simp only at t1 t2;have vx:Xf ap J.length x:=.inl t1;have vy:Xf ap J.length y:=.inl t2;have cX:=Zek hC hR vx;have cY:=Zek hC hR vy;obtain ⟨k', hk', S1,S2,S3,S4,S5⟩:=hU.u.step
   have hpl:2 * ps.length<=40000000:=by
    have:=hU.u.len;rw [List.length_cons] at this;have h2:(J.length+1) * J.length<=4001 * 4000:=Nat.mul_le_mul (by omega) hJ;omega
   have hK:=hU.kept;obtain ⟨l,hl⟩:∃ l,2 * ps.length=l:=⟨_,rfl⟩;rw [hl] at q0 q1 hcap hpl hrow ⊢;have j0:(0:Int)<=(l:Int):=by omega
   have j1:(l:Int)+1<((l+2:Nat):Int):=by omega
   have j2:(l:Int)<((l+2:Nat):Int):=by omega
   have j3:(l:Int)<=(cap:Int):=by omega
   have j4:(l:Int)<=40000000:=by omega
   by_cases hne:cl x=cl y
   ·have hN:=S1 (by have:=(hR.eq vx vy).1 hne;rwa [Jo t1,Jo t2] at this)
    have hrow' : Row w.heap.size wr (.slice (some ⟨g,0,none⟩) l cap) (Z4 ps):=hrow;have hj:NAt L ap B wr T J ld:=⟨up,rep,cl,ρ,hC,hR⟩;rw [hne] at cX;clear S1 S2 S3 S4 S5 hC hR hrow hU
    go_upto_region 4 with ((go_at_call 234;refine cX.mono ?_;rintro e w' ⟨rfl,hw'⟩;obtain rfl:wr=w' := hw'.symm))
    go_wp2_with ((go_at_call 234;refine cY.mono ?_;rintro e w' ⟨rfl,hw'⟩;obtain rfl:wr=w' := hw'.symm))
    go_roundg k'
    case measure=>omega
    case rel=>exact ⟨ld,ps,hN,hj,hrow', hK⟩
   ·obtain ⟨x1,x2,y1,y2,NA,NBB,K1,K2⟩:=Zwy hC hR t1 t2 hne
    have hxy:ld x≠ld y:=λ e=>hne ((hR.eq vx vy).2 (by rw [Jo t1,Jo t2];exact e));have N5:=net_up hC (cl x) (cl y);have lx:=Zv2 (hR.cnode x vx);have ly:=Zv2 (hR.cnode y vy);have rx:=hR.reps _ (hR.cnode x vx) (hR.idem x vx);have ry:=hR.reps _ (hR.cnode y vy) (hR.idem y vy);obtain ⟨c1,c2,c3,c4⟩:=hC.cells;have f1:=(hC.reps.cell lx).1;have f2:=(hC.reps.cell ly).1;obtain ⟨u1,u2⟩:=hC.ups.cell lx;obtain ⟨f,hf⟩:∃ f,rep (cl x)=f:=⟨_,rfl⟩;obtain ⟨h', hh⟩:∃ f,rep (cl y)=f:=⟨_,rfl⟩;have N5r:=N5.reps.cell ly;rw [hf] at x1 x2 NA f1 rx K2;rw [hh] at y1 y2 NA NBB f2 ry N5r;have lx' := hU.u.ok.sym x (Zm t1);have ly' := hU.u.ok.sym y (Zm t2);have part_x:=(hU.u.ok.part x (Zm t1)).2;have part_y:=(hU.u.ok.part y (Zm t2)).2;obtain ⟨P,hP⟩:∃ P,cl x=P:=⟨_,rfl⟩;obtain ⟨Q,hQ⟩:∃ Q,cl y=Q:=⟨_,rfl⟩;rw [hP] at cX NA NBB K1 K2 N5 f1 u1 u2 lx N5r;rw [hQ] at cY NA NBB K1 K2 N5 f2 ly N5r;have hPQ:¬ P=Q:=by rw [<- hP,<- hQ];exact hne
    have hPQi:¬ (P:Int)=(Q:Int):=by omega
    have j5:(0:Int)<=(P:Int):=by omega
    have j6:(P:Int)<((J.length+200:Nat):Int):=by omega
    have j7:(0:Int)<=(Q:Int):=by omega
    have j8:(Q:Int)<((J.length+200:Nat):Int):=by omega
    obtain ⟨e1,e2,e3,e4⟩:=N5.cells;have hrowS:∀ w6,Zc B.Two wr w6->Row w.heap.size w6 (.slice (some ⟨g,0,none⟩) l cap) (Z4 ps):=λ w6 hk=>hk.row hrow (λ k e=>by simp [Value.ownBlock] at e;subst e;exact htb g hg1);have HRS:Hid (∀ w6,Zc B.Two wr w6->Row w.heap.size w6 (.slice (some ⟨g,0,none⟩) l cap) (Z4 ps)):=hrowS;clear hrowS hrow S1 hC hR hf hh hP hQ hne vx vy N5
    go_upto_region 4 with ((go_at_call 234;refine cX.mono ?_;rintro e w' ⟨rfl,hw'⟩;obtain rfl:wr=w' := hw'.symm))
    go_upto_region 7 with ((go_at_call 234;refine cY.mono ?_;rintro e w' ⟨rfl,hw'⟩;obtain rfl:wr=w' := hw'.symm))
    go_upto_region 10 with fail
    clear cX cY q0 q1 f1 f2 c1 c2 c3 c4 u1 u2;obtain ⟨w5,hw5⟩:∃ w5,wr.setCell ⟨B.ub,P,none⟩ (.int .i64 (Q:Int))=w5:=⟨_,rfl⟩;rw [hw5] at NA NBB K1 K2 e1 e2 e3 e4 N5r ⊢;obtain ⟨n5a,n5b⟩:=N5r
    by_cases hg:h' < 0
    ·have hN:=NA hg
     have hRw:=HRS.out _ K2;have hK6:=hK.trans K2 (λ _ _ f=>f)
     by_cases hf:f<0
     ·have hlx:=x1 hf
      rw [if_pos hlx] at hN;have hNO:=S2 hxy hlx;clear S2 S3 S4 S5 NA NBB HRS
      go_wp2_with fail
      go_roundg k'
      case measure=>omega
      case rel=>exact ⟨_,ps,hNO,hN,hRw,hK6⟩
     ·have hlx:¬ ld x<0:=by rw [x2 (by omega)];exact hf
      rw [if_neg hlx] at hN;have hNO:=S3 hxy (by omega) (y1 hg);clear S2 S3 S4 S5 NA NBB HRS
      go_wp2_with fail
      go_roundg k'
      case measure=>omega
      case rel=>exact ⟨_,ps,hNO,hN,hRw,hK6⟩
    ·have hN:=NBB (by omega)
     have hRw:=HRS.out _ K1;have hK6:=hK.trans K1 (λ _ _ f=>f)
     by_cases hf:f<0
     ·have hlx:=x1 hf
      have hNO:=S2 hxy hlx;clear S2 S3 S4 S5 NA NBB HRS
      go_wp2_with fail
      go_roundg k'
      case measure=>omega
      case rel=>exact ⟨_,ps,hNO,hN,hRw,hK6⟩
     ·have ex:=x2 (by omega)
      have ey:=y2 (by omega);obtain ⟨fn,rfl⟩:∃ fn:Nat,f=(fn:Int):=⟨f.toNat,by omega⟩;obtain ⟨gn,rfl⟩:∃ gn:Nat,h' = (gn:Int):=⟨h'.toNat,by omega⟩;have hfl:fn<J.length:=by rw [ex] at part_x;omega
      have hgl:gn<J.length:=by rw [ey] at part_y;omega
      rw [ex] at lx' S4 S5 hxy hN;rw [ey] at ly' S4 S5 hxy hN;have sx:=lx' (by omega);have sy:=ly' (by omega);obtain ⟨up6,rep6,cl6,ρ6,hC6,hR6⟩:=id hN;have tf:=(hC6.nums.cell hfl).1;have tg:=(hC6.nums.cell hgl).1;rw [hT fn hfl sx] at tf;rw [hT gn hgl sy] at tg;have j9:(0:Int)<=(fn:Int):=by omega
      have j10:(fn:Int)<(J.length:Int):=by omega
      have j11:(0:Int)<=(gn:Int):=by omega
      have j12:(gn:Int)<(J.length:Int):=by omega
      by_cases h4:at' J (fn:Int)=at' J (gn:Int)
      ·have hNO:=S5 hxy (by omega) (by omega) h4
       rw [Int.toNat_natCast,Int.toNat_natCast] at hNO;have h4' : (at' J (fn:Int) == at' J (gn:Int))=true:=by simpa using h4
       clear S2 S3 S4 S5 NA NBB HRS K1 K2 hC6 hR6
       go_upto_region 13 with fail
       go_quiet (fail);have hN7:NAt L ap B (w5.drewN nq) T J (un (fn:Int) (gn:Int) ld):=hN.kept (S:=λ _=>False) ((Zc.refl _ w5).drewN nq) (λ _ _ f=>f);have hR7:Row w.heap.size (w5.drewN nq) (.slice (some ⟨g,0,none⟩) l cap) (Z4 ps):=Zc.row (S:=λ _=>False) ((Zc.refl _ w5).drewN nq) hRw (λ _ _ f=>f);have hK7:=hK6.drewN nq;obtain ⟨w7,hw7⟩:∃ w7,w5.drewN nq=w7:=⟨_,rfl⟩;rw [hw7] at hN7 hR7 hK7 ⊢;have hA:(Zl L J fn).length=(Zl L J gn).length:=by rw [show (Zl L J fn).length=_ from Zk _ _ _ _,show (Zl L J gn).length=_ from Zk _ _ _ _,h4]
       have hAl:(Zl L J fn).length<=4000:=by
        have h1:=J1 (Yd hNO.trs hfl);have h2:=(hNO.trs.lt hfl).2;rw [show (Zl L J fn).length=_ from Zk _ _ _ _];omega
       have HNO:Hid (NOk L J res k' (un (fn:Int) (gn:Int) ld) (Y3 L J fn gn++ps)):=hNO;have HEND:Hid (Z4 (Y3 L J fn gn++ps)=Z4 ps++Jf ((Zl L J fn).zip (Zl L J gn))):=by rw [Zlm];unfold Y3;rw [List.reverse_reverse];rfl
       have hpsl:(Z4 ps).length=l:=by rw [Zal];exact hl
       clear hw7 hN hRw hK6 tf tg h4' e1 e2 e3 e4 n5a n5b hNO hU
       go_wp2_with fail
       go_loopw [7,12] (λ s7 s12 wx=>∃ k:Nat,s12=.int .i64 (k:Int)∧k<=(Zl L J fn).length∧Row w.heap.size wx s7 (Z4 ps++Jf (((Zl L J fn).zip (Zl L J gn)).take k))∧NAt L ap B wx T J (un (fn:Int) (gn:Int) ld)∧Zc B.Two w wx) (λ _ s12 _=>(Zl L J fn).length-(intOf s12).toNat)
       case atStart=>exact ⟨0,rfl,Nat.zero_le _,by simpa [Jf] using hR7,hN7,hK7⟩
       case round=>
        clear hN7 hR7 hK7;obtain ⟨k,rfl,hk,hR7,hN7,hK7⟩:=hrel;obtain ⟨up7,rep7,cl7,ρ7,hC7,hR8⟩:=id hN7;obtain ⟨e1,e2,e3,e4⟩:=hC7.cells;obtain ⟨vo,vc,hvv⟩:=Zf hR7;have hzl:(((Zl L J fn).zip (Zl L J gn)).take k).length=k:=by rw [List.length_take,Zex _ _ hA];omega
        have hlen7:(Z4 ps++Jf (((Zl L J fn).zip (Zl L J gn)).take k)).length=l+2 * k:=by rw [List.length_append,Zel,hzl,hpsl]
        rw [hlen7] at hvv;subst hvv
        by_cases hkl:k<(Zl L J fn).length
        ·obtain ⟨gb,go,gc,a1,a2,a3⟩:=Zik hC7 hfl hkl
         obtain ⟨hb', ho,hc', b1,b2,b3⟩:=Zik hC7 hgl (k:=k) (by omega);have z1:(0:Int)<=(k:Int):=by omega
         have z2:(k:Int)<((Zl L J fn).length:Int):=by omega
         have z3:(k:Int)<((Zl L J gn).length:Int):=by omega
         have z4:(k:Int)<4000:=by omega
         obtain ⟨A1,hA1⟩:∃ A1,(((Zl L J fn)[k]:Nat):Int)=A1:=⟨_,rfl⟩;obtain ⟨A2,hA2⟩:∃ A2,(((Zl L J gn)[k]'(by omega):Nat):Int)=A2:=⟨_,rfl⟩;rw [hA1] at a2;rw [hA2] at b2
         have hrow7:wr.ownsRow w.heap.size 3 1 (.slice vo (l+2 * k) vc) (l+2 * k) (iv (Z4 ps++Jf (((Zl L J fn).zip (Zl L J gn)).take k))):=by
          have h0:wr.ownsRow w.heap.size 3 1 (.slice vo (l+2 * k) vc) (Z4 ps++Jf (((Zl L J fn).zip (Zl L J gn)).take k)).length (iv (Z4 ps++Jf (((Zl L J fn).zip (Zl L J gn)).take k))):=hR7;rw [hlen7] at h0;exact h0
         have PE:Hid (∀ gg cap' w9,w9.ownsRow w.heap.size 3 1 (.slice (some ⟨gg,0,none⟩) (l+2 * k+2) cap') (l+2 * k+2) (iv (Z4 ps++Jf (((Zl L J fn).zip (Zl L J gn)).take k)) ++ [.int .i64 A1,.int .i64 A2])->(wr.alloc (.cells #[.int .i64 A1,.int .i64 A2] 3)).drew.grownBy w9 (Value.slice vo (l+2 * k) vc).ownBlock->Row w.heap.size w9 (.slice (some ⟨gg,0,none⟩) (l+2 * k+2) cap') (Z4 ps++Jf (((Zl L J fn).zip (Zl L J gn)).take (k+1)))∧NAt L ap B w9 T J (un (fn:Int) (gn:Int) ld)∧Zc B.Two w w9):=by
          intro gg cap' w9 hown hgrow;have own:∀ q,(Value.slice vo (l+2 * k) vc).ownBlock=some q->w.heap.size<=q:=λ q e=>(World.ownsRow.lt hrow7 q e).1;have kg:Zc (λ q=>(Value.slice vo (l+2 * k) vc).ownBlock=some q) wr w9:=Zc.grown (Zc.drew (Zc.alloc (Zc.refl _ wr) _)) hgrow (λ q e _=>e);refine ⟨?_,hN7.kept kg (λ q hq e=>by have:=own q e;omega),hK7.trans kg (λ q hq e=>by have:=own q e;omega)⟩
          have el:(Z4 ps++Jf (((Zl L J fn).zip (Zl L J gn)).take (k+1))).length=l+2 * k+2:=by
           rw [List.length_append,Zel,List.length_take,Zex _ _ hA,hpsl];omega
          show w9.ownsRow w.heap.size 3 1 _ (Z4 ps++Jf (((Zl L J fn).zip (Zl L J gn)).take (k+1))).length _;rw [el,Zun hA hkl,<- List.append_assoc,Xz,hA1,hA2];exact hown
         have hb9:w.heap.size<=(wr.alloc (.cells #[.int .i64 A1,.int .i64 A2] 3)).drew.heap.size:=by
          have:=hK7.size;show w.heap.size<=(wr.alloc (.cells #[.int .i64 A1,.int .i64 A2] 3)).heap.size;rw [World.size_alloc];omega
         have hn1:l+2 * k+2<=maxLen:=by unfold maxLen;omega
         have hn2:(l+2 * k+2) * 8<=140737488355328:=by omega
         clear hC7 hR8 hN7 hR7 hK7 hzl hlen7 hA1 hA2 HNO HEND
         go_upto_region 18 with fail
         go_region_law (refine step_append_lies _ (by rfl) _ _ 51 (by rfl) w.heap.size 3 i0 _ 1 8 underlying51 hi0 hz0 hz1 hz2 rfl (by omega) (.slice vo (l+2 * k) vc) (l+2 * k) (iv (Z4 ps++Jf (((Zl L J fn).zip (Zl L J gn)).take k))) (by rfl) ((hrow7.alloc _).drew) ⟨wr.heap.size,0,none⟩ 2 2 [.int .i64 A1,.int .i64 A2] (by rfl) (by rfl) (World.news_of_block (cs:=#[.int .i64 A1,.int .i64 A2]) (t:=3) (fr:=(0,0)) (heap_alloc_new wr _)) (by simp [Value.oneCell']) (by omega) hn1 hn2 hb9 _ rfl ?_;intro gg cap' w9 hown hgrow hat hlt;obtain ⟨p1,p2,p3⟩:=PE.out gg cap' w9 hown hgrow)
         all_goals
          go_wp2_with fail
          go_roundw
          case rel=>exact ⟨k+1,by go_num,by omega,p1,p2,p3⟩
          case measure=>simp [intOf];omega
        ·have hke:k=(Zl L J fn).length:=by omega
         have z2:¬ (k:Int)<((Zl L J fn).length:Int):=by omega
         have hfin:Row w.heap.size wr (.slice vo (l+2 * k) vc) (Z4 (Y3 L J fn gn++ps)):=by
          rw [HEND.out];have e:((Zl L J fn).zip (Zl L J gn)).take k=(Zl L J fn).zip (Zl L J gn):=List.take_of_length_le (by rw [Zex _ _ hA];omega);rw [e] at hR7;exact hR7
         have hNOx:=HNO.out;obtain ⟨go,gc,a1,a2,a3⟩:=hC7.args fn hfl;have HFIN:Hid (NRel L ap B T J res w k' wr (.slice vo (l+2 * k) vc) (un (fn:Int) (gn:Int) ld) (Y3 L J fn gn++ps)):=⟨hNOx,hN7,hfin,hK7⟩;clear hC7 hR8 hN7 hR7 hK7 hzl hlen7 hke HNO HEND hfin hNOx
         go_wp2_with fail
         go_roundg k'
         case measure=>omega
         case rel=>exact ⟨_,_,HFIN.out⟩
      ·have hres:=S4 hxy (by omega) (by omega) h4
       have fin:Hid (∀ n,NEnd L ap B T J res w (.returned (.bool false)) (w5.drewN n)):=λ n=>⟨λ ld' e=>(by rw [hres] at e;cases e),λ _=>rfl,hK6.drewN n⟩;clear S2 S3 S4 S5 NA NBB HRS hN hC6 hR6 hres
       go_upto_region 13 with fail
       go_quiet (fail)
       go_wp2_with fail
       go_returns
       exact fin.out _
def MZ (ap:Bool) (J:List Int) (rep:Nat->Int) (cl:Nat->Nat) (sz:Nat->Int) (mz:Nat->Int):Prop:=∀ c,Xf ap J.length c->cl c=c->(∀ p:Nat,rep c=p->mz c=sz p)∧(rep c<0->mz c=0∨mz c=1)
theorem MZ.upd {up:Nat->Nat} {cl ρ:Nat->Nat} (hr:NR ap J up rep cl ρ ld) {sz mz:Nat->Int} (h:MZ ap J rep cl sz mz) {c:Nat} (hc:Xf ap J.length c) (hcc:cl c=c) (hp:rep c=p) (v:Int):MZ ap J rep cl (Ku sz p v) (λ k=>if k=c then v else mz k):=by
 have hcp:cl p=c:=by
  rcases hr.reps c hc hcc with ⟨a,_⟩ | ⟨q,a1,a2,a3⟩
  ·omega
  ·have:q=p:=by omega
   rw [<- this];exact a3
 intro d hd hdd;obtain ⟨h1,h2⟩:=h d hd hdd;refine ⟨λ q hq=>?_,λ hn=>?_⟩
 ·by_cases e:d=c
  ·subst e
   have:q=p:=by omega
   subst this;simp [Ku]
  ·have hqp:q≠p:=λ f=>by
    subst f
    rcases hr.reps d hd hdd with ⟨a,_⟩ | ⟨q', a1,a2,a3⟩
    ·omega
    ·have:q' = q:=by omega
     subst this;rw [a3] at hcp;exact e hcp
   simp only [e,if_false];unfold Ku;rw [if_neg hqp];exact h1 q hq
 ·have e:d≠c:=λ f=>by subst f;omega
  simp only [e,if_false];exact h2 hn
def Znq (ap:Bool) (J:List Int) (rep:Nat->Int) (cl:Nat->Nat) (lb:Nat) (w:World) (k:Int) (sz' : Nat->Int) (e:Ending) (w' : World):Prop:=e=.returned (.int .i64 (if k = -1 then -2 else k))∧∃ mz', Kd w' lb (J.length+200) mz' ∧ MZ ap J rep cl sz' mz' ∧ Zc (λ q=>q=lb) w w'
theorem Ztj {B:NB} {up:Nat->Nat} {cl ρ:Nat->Nat} (hT:Trs L J) (hl:Zcl J ld) (hJ:J.length<=4000) (hr:NR ap J up rep cl ρ ld) {lb lc:Nat} (hlb:B.top<=lb):∀ (n:Nat) (w:World) (mz sz:Nat->Int) (x:Nat) (k:Int) (sz' : Nat->Int),NC L B w T J up rep->Kd w lb (J.length+200) mz->MZ ap J rep cl sz mz->x<J.length->Zbn sz->Vw L J ld n sz x=some (k,sz') ->
  Calls prog 227 #[.pointer (some ⟨B.nb,0,none⟩),.slice (some ⟨lb,0,none⟩) (J.length+200) lc,.int .i64 (x:Int)] w (Znq ap J rep cl lb w k sz'):=by
 intro n
 induction n with
 | zero=>intro w mz sz x k sz' _ _ _ _ _ e;simp [Vw] at e
 | succ n ih=>
  intro w mz sz x k sz' hC hN hM hx hs e;have vx:Xf ap J.length x:=.inl hx;have cX:=Zek hC hr vx;have lx:=hr.led x vx;rw [Jo hx] at lx;have vc:=hr.cnode x vx;have hcc:=hr.idem x vx;have rx:=hr.reps _ vc hcc;obtain ⟨m1,m2⟩:=hM _ vc hcc;have hcl:=Zv2 vc;obtain ⟨f1,f2⟩:=hN.cell hcl;have g1:=(hC.reps.cell hcl).1;obtain ⟨c1,c2,c3,c4⟩:=hC.cells;obtain ⟨C,hCC⟩:∃ C,cl x=C:=⟨_,rfl⟩;rw [hCC] at cX lx vc hcc rx m1 m2 hcl f1 f2 g1;have i1:(0:Int)<=(C:Int):=by omega
  have i2:(C:Int)<((J.length+200:Nat):Int):=by omega
  rw [Vw] at e
  by_cases hneg:rep C<0
  ·have hlx:ld x<0:=by
    rw [lx,if_pos hneg]
    rcases rx with ⟨_,a⟩ | ⟨p,a,_⟩
    ·exact Zd6 a
    ·omega
   rw [if_pos hlx] at e;simp only [Option.some.injEq,Prod.mk.injEq] at e;obtain ⟨rfl,rfl⟩:=e
   have hr1:rep C = -1:=by
    rcases rx with ⟨a,_⟩ | ⟨p,a,_⟩
    ·exact a
    ·omega
   rw [hr1] at g1
   by_cases h0:mz C=0
   ·have hN' := hN.set C 1
    have hM' : MZ ap J rep cl sz (λ k=>if k=C then 1 else mz k):=by
     intro d hd hdd
     by_cases ed:d=C
     ·subst ed
      simp only [if_true];exact ⟨λ p hp=>by omega,λ _=>.inr trivial⟩
     ·simp only [ed,if_false];exact hM d hd hdd
    have kk:Zc (λ q=>q=lb) w (w.setCell ⟨lb,C,none⟩ (.int .i64 1)):=Zc.setCell (S:=λ q=>q=lb) (p:=⟨lb,C,none⟩) (Zc.refl _ _) (λ _=>rfl) _;rw [h0] at f1;clear ih hM m1 m2 hC hN hr
    go_enter func227,ntmps227
    go_wp2_with ((go_at_call 234;refine cX.mono ?_;rintro e w' ⟨rfl,hw'⟩;obtain rfl:w=w' := hw'.symm))
    go_returns
    exact ⟨rfl,_,hN', hM', kk⟩
   ·have h1:mz C=1:=(m2 hneg).resolve_left h0
    rw [h1] at f1;clear ih m1 m2 hC hr h0 h1
    go_enter func227,ntmps227
    go_wp2_with ((go_at_call 234;refine cX.mono ?_;rintro e w' ⟨rfl,hw'⟩;obtain rfl:w=w' := hw'.symm))
    go_returns
    exact ⟨rfl,_,hN,hM,Zc.refl _ _⟩
  ·obtain ⟨p,hp,hpl,hpc⟩:∃ p:Nat,rep C=p∧p<J.length∧cl p=C:=by
    rcases rx with ⟨a,_⟩ | a
    ·omega
    ·exact a
   rw [if_neg hneg,hp] at lx;rw [lx,if_neg (by omega),Int.toNat_natCast] at e;have hmz:=m1 p hp;rw [hmz] at f1;rw [hp] at g1
   by_cases h2:sz p≠0
   ·rw [if_pos h2] at e
    simp only [Option.some.injEq,Prod.mk.injEq] at e;obtain ⟨rfl,rfl⟩:=e;have h3:=hs p;obtain ⟨v,hv⟩:∃ v,sz p=v:=⟨_,rfl⟩;rw [hv] at f1 h2 h3 ⊢;clear ih m1 m2 hC hr hmz
    by_cases h4:v = -1
    ·subst h4
     go_enter func227,ntmps227
     go_wp2_with ((go_at_call 234;refine cX.mono ?_;rintro e w' ⟨rfl,hw'⟩;obtain rfl:w=w' := hw'.symm))
     go_returns
     exact ⟨rfl,_,hN,hM,Zc.refl _ _⟩
    ·go_enter func227,ntmps227
     go_wp2_with ((go_at_call 234;refine cX.mono ?_;rintro e w' ⟨rfl,hw'⟩;obtain rfl:w=w' := hw'.symm))
     go_returns
     exact ⟨by rw [if_neg h4];rfl,_,hN,hM,Zc.refl _ _⟩
   ·rw [if_neg h2] at e
    have h0:sz p=0:=by simpa using h2
    rw [h0] at f1;cases h3:Zaz (Vw L J ld n) (Zl L J p) 1 (Ku sz p (-1)) with
    | none=>simp [h3] at e
    | some v=>
     obtain ⟨s,sz1⟩:=v;simp only [h3] at e;have HE:Hid ((if s = -1 then some (-1,sz1) else some (s,Ku sz1 p s))=some (k,sz')):=e;have H3:Hid (Zaz (Vw L J ld n) ((Zl L J p).drop 0) 1 (Ku sz p (-1))=some (s,sz1)):=h3;have hs2:Zbn (Ku sz p (-1)):=hs.upd _ (.inl rfl);have hkl:=Jb hT hpl
     have hAl:(Zl L J p).length<=4000:=by
      have h1:=J1 (Yd hT hpl);have h2:=(hT.lt hpl).2;rw [show (Zl L J p).length=_ from Zk _ _ _ _];omega
     have IH:Hid (∀ (w:World) (mz sz:Nat->Int) (x:Nat) (k:Int) (sz' : Nat->Int),NC L B w T J up rep->Kd w lb (J.length+200) mz->MZ ap J rep cl sz mz->x<J.length->Zbn sz->Vw L J ld n sz x=some (k,sz')->Calls prog 227 #[.pointer (some ⟨B.nb,0,none⟩),.slice (some ⟨lb,0,none⟩) (J.length+200) lc,.int .i64 (x:Int)] w (Znq ap J rep cl lb w k sz')):=ih;have hN2:=hN.set C (-1);have hM2:=hM.upd hr vc hcc hp (-1);have kk:Zc (λ q=>q=lb) w (w.setCell ⟨lb,C,none⟩ (.int .i64 (-1))):=Zc.setCell (S:=λ q=>q=lb) (p:=⟨lb,C,none⟩) (Zc.refl _ _) (λ _=>rfl) _;have hC2:=hC.kept kk (λ q hq e=>by omega);have i3:(0:Int)<=(p:Int):=by omega
     have i4:(p:Int)<(J.length:Int):=by omega
     have HM:Hid (∀ sz mz,MZ ap J rep cl sz mz->∀ v,MZ ap J rep cl (Ku sz p v) (λ k=>if k=C then v else mz k)):=λ sz mz h v=>h.upd hr vc hcc hp v;clear ih hC e h3 h2 hM hN m1 m2 hr hmz rx
     go_enter func227,ntmps227
     go_upto_region 10 with ((go_at_call 234;refine cX.mono ?_;rintro e w' ⟨rfl,hw'⟩;obtain rfl:w=w' := hw'.symm))
     obtain ⟨w2,hw2⟩:∃ w2,w.setCell ⟨lb,C,none⟩ (.int .i64 (-1))=w2:=⟨_,rfl⟩;rw [hw2] at hN2 kk hC2 ⊢;clear hw2 c1 c2 c3 c4 f1 f2 g1 cX;obtain ⟨c1,c2,c3,c4⟩:=hC2.cells;have g1:=(hC2.reps.cell hcl).1;rw [hp] at g1;obtain ⟨go,gc,a1,a2,a3⟩:=hC2.args p hpl;have HA:Hid (∀ w', Zc (λ q=>q=lb) w2 w' -> Zh w' go ((Zl L J p).map (λ k:Nat=>(k:Int)))):=λ w' hk=>a2.kept hk (λ a e f=>by have:=(a3 a e).2;omega)
     go_upto_region 11 with fail
     go_quiet (fail);have KQ:Za w2 (w2.drewN nq):=(Zc.refl _ _).drewN nq;have hN3:=hN2.kept KQ (λ f=>f);have hC3:=hC2.same KQ;have kk3:Zc (λ q=>q=lb) w (w2.drewN nq):=kk.drewN nq;have kk4:Zc (λ q=>q=lb) w2 (w2.drewN nq):=(Zc.refl _ _).drewN nq;obtain ⟨w3,hw3⟩:∃ w3,w2.drewN nq=w3:=⟨_,rfl⟩;rw [hw3] at hN3 hC3 kk3 kk4 ⊢;clear hw3 hN2 hC2 kk KQ c1 c2 c3 c4 g1 a1 a2 a3
     go_wp2_with fail
     go_loopw [8,10] (λ s8 s10 wr=>∃ (sum:Int) (j:Nat) (sq mq:Nat->Int),s8=.int .i64 sum∧s10=.int .i64 (j:Int)∧1<=sum∧sum<=2001∧j<=(Zl L J p).length∧Zbn sq∧Kd wr lb (J.length+200) mq∧MZ ap J rep cl sq mq∧NC L B wr T J up rep∧Zc (λ q=>q=lb) w wr∧Zc (λ q=>q=lb) w2 wr∧Hid (Zaz (Vw L J ld n) ((Zl L J p).drop j) sum sq=some (s,sz1))) (λ _ s10 _=>(Zl L J p).length-(intOf s10).toNat)
     case atStart=>exact ⟨1,0,_,_,rfl,rfl,by omega,by omega,Nat.zero_le _,hs2,hN3,hM2,hC3,kk3,kk4,H3⟩
     case round=>
      clear hN3 hM2 hC3 kk3 kk4 H3 hs2;obtain ⟨sum,j,sq,mq,rfl,rfl,hs1,hs2,hj,hsq,hN,hM,hC,hK,hK2,HS⟩:=hrel
      by_cases hjl:j<(Zl L J p).length
      ·have hd:(Zl L J p).drop j=(Zl L J p)[j] :: (Zl L J p).drop (j+1):=List.drop_eq_getElem_cons hjl
       have hst:=HS.out;rw [hd,Zaz] at hst;obtain ⟨t,ht⟩:∃ t,(Zl L J p)[j]=t:=⟨_,rfl⟩;have htl:t<J.length:=by rw [<- ht];exact hkl _ (List.getElem_mem _)
       rw [ht] at hst;obtain ⟨gb,off,rfl,b1,b2⟩:=(HA.out wr hK2).get (i:=j) (by simpa using hjl);have b3:wr.cell? ⟨gb,off+j,none⟩=some (.int .i64 (t:Int)):=by rw [b2];simp [ht]
       have z1:(0:Int)<=(j:Int):=by omega
       have z2:(j:Int)<((Zl L J p).length:Int):=by omega
       have z3:(j:Int)<4000:=by omega
       cases hq:Vw L J ld n sq (t:Int) with
       | none=>simp [hq] at hst
       | some v=>
        obtain ⟨k1,sq1⟩:=v;simp only [hq] at hst;have cS:=IH.out wr mq sq t k1 sq1 hC hN hM htl hsq hq;obtain ⟨o1,o2⟩:=Za3 n _ _ _ _ hsq hq;have HST:Hid ((if k1 = -1 then some (-1,sq1) else Zaz (Vw L J ld n) ((Zl L J p).drop (j+1)) (min (sum+k1) 2001) sq1)=some (s,sz1)):=hst;have HC:Hid (∀ w', Zc (λ q=>q=lb) wr w' -> NC L B w' T J up rep):=λ w' hk=>hC.kept hk (λ q hq e=>by omega);clear hst hC HS hq hsq hd hM hN ht b2
        by_cases hk1:k1 = -1
        ·subst hk1
         have:=HST.out;rw [if_pos rfl] at this;simp only [Option.some.injEq,Prod.mk.injEq] at this;obtain ⟨rfl,rfl⟩:=this;have:=HE.out;rw [if_pos rfl] at this;simp only [Option.some.injEq,Prod.mk.injEq] at this;obtain ⟨rfl,rfl⟩:=this;have cS1:Calls prog 227 #[.pointer (some ⟨B.nb,0,none⟩),.slice (some ⟨lb,0,none⟩) (J.length+200) lc,.int .i64 (t:Int)] wr λ e w' => e=.returned (.int .i64 (-2))∧∃ mz', Kd w' lb (J.length+200) mz' ∧ MZ ap J rep cl sq1 mz' ∧ Zc (λ q=>q=lb) wr w' := cS.mono (λ e w' ⟨a1,a2⟩=>⟨by rw [a1];rfl,a2⟩)
         clear HE HST IH HA cS
         go_wp2_with ((go_at_call 227;refine cS1.mono ?_;rintro e w5 ⟨rfl,mz5,q1,q2,q3⟩))
         go_returns
         exact ⟨rfl,mz5,q1,q2,hK.trans q3 (λ _ _ f=>f)⟩
        ·have:=HST.out
         rw [if_neg hk1] at this;have HST2:Hid (Zaz (Vw L J ld n) ((Zl L J p).drop (j+1)) (min (sum+k1) 2001) sq1=some (s,sz1)):=this;have i7:1<=k1:=by omega
         have i8:k1<=2001:=by omega
         have i9:¬ k1 = -2:=by omega
         have cS2:Calls prog 227 #[.pointer (some ⟨B.nb,0,none⟩),.slice (some ⟨lb,0,none⟩) (J.length+200) lc,.int .i64 (t:Int)] wr λ e w' => e=.returned (.int .i64 k1)∧∃ mz', Kd w' lb (J.length+200) mz' ∧ MZ ap J rep cl sq1 mz' ∧ Zc (λ q=>q=lb) wr w' := cS.mono (λ e w' ⟨a1,a2⟩=>⟨by rw [a1,if_neg hk1],a2⟩)
         clear HST this o2 HE IH cS HA
         by_cases hm:2000<sum+k1
         ·rw [show min (sum+k1) 2001=2001 by omega] at HST2
          go_wp2_with ((go_at_call 227;refine cS2.mono ?_;rintro e w5 ⟨rfl,mz5,q1,q2,q3⟩))
          go_roundw
          case rel=>exact ⟨2001,j+1,sq1,mz5,by go_num,by go_num,by omega,by omega,by omega,o1,q1,q2,HC.out _ q3,hK.trans q3 (λ _ _ f=>f),hK2.trans q3 (λ _ _ f=>f),HST2⟩
          case measure=>simp [intOf];omega
         ·rw [show min (sum+k1) 2001=sum+k1 by omega] at HST2
          go_wp2_with ((go_at_call 227;refine cS2.mono ?_;rintro e w5 ⟨rfl,mz5,q1,q2,q3⟩))
          go_roundw
          case rel=>exact ⟨sum+k1,j+1,sq1,mz5,by go_num,by go_num,by omega,by omega,by omega,o1,q1,q2,HC.out _ q3,hK.trans q3 (λ _ _ f=>f),hK2.trans q3 (λ _ _ f=>f),HST2⟩
          case measure=>simp [intOf];omega
      ·have hje:j=(Zl L J p).length:=by omega
       have z2:¬ (j:Int)<((Zl L J p).length:Int):=by omega
       have hss:sum=s∧sq=sz1:=by
        have:=HS.out;rw [hje,List.drop_length] at this
        simpa [Zaz] using this
       obtain ⟨rfl,rfl⟩:=hss;have hne:¬ sum = -1:=by omega
       have:=HE.out;rw [if_neg hne] at this;simp only [Option.some.injEq,Prod.mk.injEq] at this;obtain ⟨rfl,rfl⟩:=this;obtain ⟨y1,y2⟩:=hN.cell hcl;have hN9:=hN.set C sum;have hM9:=HM.out _ _ hM sum;have k9:Zc (λ q=>q=lb) wr (wr.setCell ⟨lb,C,none⟩ (.int .i64 sum)):=Zc.setCell (S:=λ q=>q=lb) (p:=⟨lb,C,none⟩) (Zc.refl _ _) (λ _=>rfl) _;have fin:Znq ap J rep cl lb w sum (Ku sq p sum) (.returned (.int .i64 sum)) (wr.setCell ⟨lb,C,none⟩ (.int .i64 sum)):=⟨by rw [if_neg hne],_,hN9,hM9,hK.trans k9 (λ _ _ f=>f)⟩;clear hN hM hC HS HE HM hN9 hM9 k9 hje HA IH
       go_wp2_with fail
       go_returns
       exact fin
theorem Xr {xs:List Int} (h:Row base w v xs) (e:v.ownBlock=some q):base<=q:=(World.ownsRow.lt h q e).1
end
theorem Zvn (h:Xv L 1 (a.drop p)=some n) (hp:p<=a.length):Zj L (a++c) p=Zj L a p:=by
 rw [Xg h];refine Xg (n:=n) ?_;rw [List.drop_append_of_le_length hp];exact Zd3 h c
theorem Zeb:∀ (k p q:Nat),Zs L a k p q->Zq L (a++c) k p=Zq L a k p
 | 0,p,q,h=>rfl
 | k+1,p,q,h=>by
  obtain ⟨h1,h2,h3⟩:=h.succ;obtain ⟨n,e1,e2,e3⟩:=h1;rw [Zq,Zq,Zvn e1 (by omega),Zeb k _ q h3]
theorem Zrk (h:Xv L 1 (c.drop p)=some n):Zj L (a++c) (a.length+p)=a.length+Zj L c p:=by
 rw [Xg h,<- Nat.add_assoc];refine Xg (n:=n) ?_;rw [List.drop_append,List.drop_eq_nil_of_le (by omega),List.nil_append,Nat.add_sub_cancel_left];exact h
theorem Zcr:∀ (k p q:Nat),Zs L c k p q->Zq L (a++c) k (a.length+p)=(Zq L c k p).map (λ x=>a.length+x)
 | 0,p,q,h=>rfl
 | k+1,p,q,h=>by
  obtain ⟨h1,h2,h3⟩:=h.succ;obtain ⟨n,e1,e2,e3⟩:=h1;rw [Zq,Zq,Zrk e1,Zcr k _ q h3];rfl
theorem Zl5 (L:List Sym) {ap:Int} (h:0<=ap):∀ (k:Nat) (b:List Int),Xv L k (b.map (shF ap))=Xv L k b
 | 0,b=>by rw [Xa,Xa]
 | k+1,[]=>rfl
 | k+1,x :: r=>by rw [List.map_cons,Xv,Xv,Zs9 L h,Zl5 L h]
theorem Zr9 (f:Int->Int) (p:Nat) (b:List Int):(b.map f).drop p=(b.drop p).map f:=by simp
theorem end_sh (L:List Sym) {ap:Int} (h:0<=ap) (b:List Int) (p:Nat):Zj L (b.map (shF ap)) p=Zj L b p:=by
 unfold Zj Zie;rw [Zr9,Zl5 L h,List.length_map]
theorem Zjq (L:List Sym) {ap:Int} (h:0<=ap) (b:List Int):∀ (k p:Nat),Zq L (b.map (shF ap)) k p=Zq L b k p
 | 0,p=>rfl
 | k+1,p=>by rw [Zq,Zq,end_sh L h,Zjq L h b]
theorem kids_a {ap:Int} (h0:0<=ap) (ha:IsT L a) (hi:i<a.length):Zl L (jl a b ap) i=Z8 L a i:=by
 rw [Z9 hi];unfold Zl
 have e:at' (jl a b ap) (i:Nat)=a[i]:=by
  rw [Yl _ _ (by simp [jl];omega)];unfold jl;rw [List.getElem_append_left hi]
 rw [e];unfold jl;exact Zeb _ _ _ (Zs.one ha hi).kids.2
theorem kids_b {ap:Int} (h0:0<=ap) (hb:IsT L b) (hi:i<b.length):Zl L (jl a b ap) (a.length+i)=(Z8 L b i).map (λ x=>a.length+x):=by
 rw [Z9 hi];unfold Zl
 have e:at' (jl a b ap) ((a.length+i:Nat):Int)=shF ap b[i]:=by
  rw [Yl _ _ (by simp [jl];omega)];unfold jl;rw [List.getElem_append_right (by omega),List.getElem_map];congr 2;omega
 rw [e,Zs9 L h0];unfold jl;have hf:=(Zs.one hb hi).kids.2
 have hf' : Zs L (b.map (shF ap)) (arN L b[i]) (i+1) (Zj L b i):=by
  obtain ⟨n,e1,e2,e3⟩:=hf;exact ⟨n,by rw [Zr9,Zl5 L h0];exact e1,e2,by rw [List.length_map];exact e3⟩
 rw [Nat.add_assoc,Zcr _ _ _ hf', Zjq L h0]
def Zqe (ap:Bool) (N which:Nat) (n:Int):Nat:=if ap=true then N+2 * (-n-1).toNat+which else N+2 * (-n-1).toNat
def up0 (ap:Bool) (N la:Nat) (T:List Int) (i:Nat):Nat:=if i<N∧at' T i<0 then Zqe ap N (if la<=i then 1 else 0) (at' T i) else i
def Zfh (N:Nat) (T:List Int) (i:Nat):Int:=if i<N∧0<=at' T i then (i:Int) else -1
def apI (ap:Bool):Int:=if ap=true then 99 else 0
theorem at_jl (hi:i<a.length+b.length):at' (jl a b (apI ap)) (i:Nat)=if at' (a++b) i<0∧a.length<=i then at' (a++b) i-apI ap else at' (a++b) i:=by
 rw [Yl _ _ (by simp [jl];omega),Yl _ _ (by simp;omega)];unfold jl
 by_cases h:i<a.length
 ·rw [List.getElem_append_left h,List.getElem_append_left h,if_neg (by omega)]
 ·rw [List.getElem_append_right (by omega),List.getElem_append_right (by omega),List.getElem_map]
  unfold shF
  by_cases q:b[i-a.length]'(by omega)<0
  ·rw [if_pos q,if_pos ⟨q,by omega⟩]
  ·rw [if_neg q,if_neg (λ f=>q f.1)]
theorem Zyv (ha:∀ x∈a, -99<=x) (hb:∀ x∈b, -99<=x):∃ cl ρ,NR ap (jl a b (apI ap)) (up0 ap (a.length+b.length) a.length (a++b)) (Zfh (a.length+b.length) (a++b)) cl ρ (ld0 (jl a b (apI ap))):=by
 obtain ⟨N,hN⟩:∃ N,a.length+b.length=N:=⟨_,rfl⟩;obtain ⟨J,hJ⟩:∃ J,jl a b (apI ap)=J:=⟨_,rfl⟩;obtain ⟨T,hT⟩:∃ T,a++b=T:=⟨_,rfl⟩;obtain ⟨la,hla⟩:∃ la,a.length=la:=⟨_,rfl⟩;have hJl:J.length=N:=by rw [<- hJ,<- hN];simp [jl]
 have hlow:∀ i,i<N -> -99<=at' T i:=by
  intro i hi;rw [<- hT,Yl _ _ (by simp;omega)];have:=List.getElem_mem (l:=a++b) (n:=i) (by simp;omega)
  rcases List.mem_append.1 this with e | e
  ·exact ha _ e
  ·exact hb _ e
 have hat:∀ i:Nat,i<N->at' J i=if at' T i<0∧la<=i then at' T i-apI ap else at' T i:=by
  intro i hi;rw [<- hJ,<- hT,<- hla];exact at_jl (by omega)
 rw [hN,hJ,hT,hla];obtain ⟨u,hu⟩:∃ u,up0 ap N la T=u:=⟨_,rfl⟩;have u1:∀ i,i<N->at' T i<0->u i=Zqe ap N (if la<=i then 1 else 0) (at' T i):=λ i h1 h2=>by rw [<- hu];unfold up0;rw [if_pos ⟨h1,h2⟩]
 have u2:∀ i,¬ (i<N∧at' T i<0)->u i=i:=λ i h=>by rw [<- hu];unfold up0;rw [if_neg h]
 have vn:∀ i,i<N->at' T i<0->Xf ap N (u i)∧N<=u i∧ptN ap N (u i)=at' J i:=by
  intro i h1 h2;rw [u1 i h1 h2,hat i h1];have hl:=hlow i h1;obtain ⟨n,hn⟩:∃ n:Nat,at' T i = -(n:Int)-1:=⟨(-at' T i-1).toNat,by omega⟩;rw [hn];have e0:(-(-(n:Int)-1)-1).toNat=n:=by omega
  unfold Zqe Xf ptN apI;rw [e0];cases ap
  ·simp only [Bool.false_eq_true,if_false,false_or,false_and]
   refine ⟨.inr ⟨by omega,by omega,by omega⟩,by omega,?_⟩;rw [if_neg (by omega),show N+2 * n-N=2 * n by omega,show 2 * n / 2=n by omega];split <;> omega
  ·simp only [if_true,true_or,and_true,true_and]
   by_cases hi:la<=i
   ·rw [if_pos hi]
    refine ⟨.inr ⟨by omega,by omega⟩,by omega,?_⟩;rw [if_neg (by omega),show N+2 * n+1-N=2 * n+1 by omega,if_pos (by omega),show (2 * n+1) / 2=n by omega,if_pos ⟨by omega,hi⟩];omega
   ·rw [if_neg hi]
    refine ⟨.inr ⟨by omega,by omega⟩,by omega,?_⟩;rw [if_neg (by omega),show N+2 * n+0-N=2 * n by omega,if_neg (by omega),show 2 * n / 2=n by omega,if_neg (λ f=>hi f.2)]
 have uu:∀ i,Xf ap N i->u (u i)=u i:=by
  intro i hi
  by_cases h:i<N∧at' T i<0
  ·have:=(vn i h.1 h.2).2.1
   exact u2 _ (by omega)
  ·rw [u2 i h,u2 i h]
 rw [hu];refine ⟨u,λ x=>if x<N then 1 else 0,?_⟩;have hV:∀ x,Xf ap J.length x ↔ Xf ap N x:=λ x=>by rw [hJl]
 refine ⟨?_,?_,?_,?_,?_,?_,?_,?_⟩
 ·intro x hx
  rw [hV] at hx ⊢
  by_cases h:x<N∧at' T x<0
  ·exact (vn x h.1 h.2).1
  ·rw [u2 x h];exact hx
 ·intro x hx
  rw [hV] at hx ⊢
  by_cases h:x<N∧at' T x<0
  ·exact (vn x h.1 h.2).1
  ·rw [u2 x h];exact hx
 ·intro x hx;exact uu x ((hV x).1 hx)
 ·intro x hx;exact uu x ((hV x).1 hx)
 ·intro x hx;exact Iff.rfl
 ·intro x hx hn
  by_cases h:x<N∧at' T x<0
  ·have:=(vn x h.1 h.2).2.1
   rw [if_neg (by omega),if_pos h.1];omega
  ·exact absurd (u2 x h) hn
 ·intro c hc hcc
  rw [hV] at hc
  by_cases h:c<N
  ·by_cases q:at' T c<0
   ·have:=(vn c h q).2.1;omega
   ·right
    refine ⟨c,?_,by omega,hcc⟩;unfold Zfh;rw [if_pos ⟨h,by omega⟩]
  ·left
   refine ⟨?_,by omega⟩;unfold Zfh;rw [if_neg (λ f=>h f.1)]
 ·intro x hx
  rw [hV] at hx;rw [hJl]
  by_cases h:x<N
  ·rw [Jo h]
   by_cases q:at' T x<0
   ·obtain ⟨v1,v2,v3⟩:=vn x h q
    have e1:Zfh N T (u x) = -1:=by unfold Zfh;rw [if_neg (λ f=>by omega)]
    rw [e1,if_pos (by omega),v3];have hneg:at' J x<0:=by rw [<- v3];exact Zd6 v2
    unfold ld0;rw [if_pos ⟨by omega,hneg⟩]
   ·have e0:=u2 x (λ f=>q f.2)
    have e1:Zfh N T x=x:=by unfold Zfh;rw [if_pos ⟨h,by omega⟩]
    rw [e0,e1,if_neg (by omega)];have hpos:¬ at' J x<0:=by rw [hat x h,if_neg (λ f=>q f.1)];exact q
    unfold ld0;rw [if_neg (λ f=>hpos f.2)]
  ·have e0:=u2 x (λ f=>h f.1)
   have e1:Zfh N T x = -1:=by unfold Zfh;rw [if_neg (λ f=>h f.1)]
   rw [e0,e1,if_pos (by omega)];have:=Zd6 (ap:=ap) (N:=N) (x:=x) (by omega);unfold ld0;rw [if_neg (by omega)]
section
open Go.RowKit
structure Fam (b2:Nat) (w:World) (vs:Nat->Value) (xs:Nat->List Int) (va:Value) (AA:List (List Int)):Prop where
 rows:∀ i,i<3->Row b2 w (vs i) (xs i)
 ap:∀ i j,i<3->j<3->i≠j->∀ q,(vs i).ownBlock=some q->(vs j).ownBlock≠some q
 apa:∀ i,i<3->∀ q,(vs i).ownBlock=some q->va.ownBlock≠some q
 ar:∃ cs,w.ownsRow b2 51 1 va AA.length cs∧∀ j (h:j<AA.length),∃ v,cs[j]? = some v∧Row b2 w v AA[j]∧∀ q,v.ownBlock=some q->va.ownBlock≠some q∧∀ i,i<3->(vs i).ownBlock≠some q
theorem Fam.keep {vs:Nat->Value} (h:Fam b2 w vs xs va AA) (hk:Zc S w w') (hs:∀ k,b2<=k->¬ S k):Fam b2 w' vs xs va AA:=by
 refine ⟨λ i hi=>hk.row (h.rows i hi) (λ q e=>hs q (Xr (h.rows i hi) e)),h.ap,h.apa,?_⟩;obtain ⟨cs,h1,h2⟩:=h.ar;refine ⟨cs,hk.row h1 (λ q e=>hs q (World.ownsRow.lt h1 q e).1),λ j hj=>?_⟩;obtain ⟨v,a1,a2,a3⟩:=h2 j hj;exact ⟨v,a1,hk.row a2 (λ q e=>hs q (Xr a2 e)),a3⟩
theorem Fam.same {vs:Nat->Value} (h:Fam b2 w vs xs va AA) (hk:Za w w'):Fam b2 w' vs xs va AA:=h.keep hk (λ _ _ f=>f)
theorem Fam.push {vs:Nat->Value} (h:Fam b2 w vs xs va AA) (hi:i<3) (hl:(xs i).length=l) (hk:Za w w1) (hown:w9.ownsRow b2 3 1 (.slice (some ⟨gg,0,none⟩) (l+1) cap') (l+1) (iv (xs i) ++ [.int .i64 z])) (hgrow:w1.grownBy w9 (vs i).ownBlock) (hat:(vs i).ownBlock=some gg∨w.heap.size<=gg) (e1:xs' i=xs i ++ [z]) (e2:∀ j,j<3->j≠i->xs' j=xs j) :
  Fam b2 w9 (λ j=>if j=i then .slice (some ⟨gg,0,none⟩) (l+1) cap' else vs j) xs' va AA∧Zc (λ q=>b2<=q) w w9:=by
 have kg:Zc (λ q=>(vs i).ownBlock=some q) w w9:=Zc.grown (Zc.mono hk (λ _ _ f=>f.elim)) hgrow (λ q e _=>e)
 have fresh:∀ (v:Value) (q:Nat),v.ownBlock=some q->q<w.heap.size->(vs i).ownBlock≠some q->q≠gg:=by
  intro v q _ h1 h2 e;subst e
  rcases hat with f | f
  ·exact h2 f
  ·omega
 obtain ⟨cs,a1,a2⟩:=h.ar;refine ⟨⟨?_,?_,?_,cs,kg.row a1 (λ q e f=>h.apa i hi q f e),λ j hj=>?_⟩,kg.mono (λ q _ e=>Xr (h.rows i hi) e)⟩
 ·intro j hj
  by_cases ej:j=i
  ·subst ej
   simp only [if_true];rw [e1];have:(xs j ++ [z]).length=l+1:=by simp [hl]
   show w9.ownsRow b2 3 1 _ (xs j ++ [z]).length _;rw [this,Xz];exact hown
  ·simp only [ej,if_false]
   rw [e2 j hj ej];exact kg.row (h.rows j hj) (λ q e f=>h.ap j i hj hi ej q e f)
 ·intro j k hj hkk hjk q e f
  by_cases ej:j=i
  ·subst ej
   simp only [if_true] at e;have ek:k≠j:=λ g=>hjk g.symm;simp only [ek,if_false] at f;simp only [Value.ownBlock,Option.some.injEq] at e;subst e;exact fresh (vs k) gg f (World.ownsRow.lt (h.rows k hkk) gg f).2 (λ g=>h.ap k j hkk hj ek gg f g) rfl
  ·simp only [ej,if_false] at e
   by_cases ek:k=i
   ·subst ek
    simp only [if_true,Value.ownBlock,Option.some.injEq] at f;subst f;exact fresh (vs j) gg e (World.ownsRow.lt (h.rows j hj) gg e).2 (λ g=>h.ap j k hj hkk hjk gg e g) rfl
   ·simp only [ek,if_false] at f
    exact h.ap j k hj hkk hjk q e f
 ·intro j hj q e f
  by_cases ej:j=i
  ·subst ej
   simp only [if_true,Value.ownBlock,Option.some.injEq] at e;subst e;exact fresh va gg f (World.ownsRow.lt a1 gg f).2 (λ g=>h.apa j hj gg g f) rfl
  ·simp only [ej,if_false] at e
   exact h.apa j hj q e f
 ·obtain ⟨v,b1,b2', b3⟩:=a2 j hj
  refine ⟨v,b1,kg.row b2' (λ q e f=>(b3 q e).2 i hi f),λ q e=>⟨(b3 q e).1,λ k hkk f=>?_⟩⟩
  by_cases ek:k=i
  ·subst ek
   simp only [if_true,Value.ownBlock,Option.some.injEq] at f;subst f;exact fresh v gg e (World.ownsRow.lt b2' gg e).2 (λ g=>(b3 gg e).2 k hi g) rfl
  ·simp only [ek,if_false] at f
   exact (b3 q e).2 k hkk f
theorem Fam.more {vs:Nat->Value} (h:Fam b2 w vs xs va AA) (hv:Row b2 w v ys) (hva:∀ q,v.ownBlock=some q->va.ownBlock≠some q∧∀ i,i<3->(vs i).ownBlock≠some q) (hcs:w.ownsRow b2 51 1 va AA.length cs0) (hk:Za w w1) (hown:w9.ownsRow b2 51 1 (.slice (some ⟨gg,0,none⟩) (AA.length+1) cap') (AA.length+1) (cs0 ++ [v])) (hgrow:w1.grownBy w9 va.ownBlock) (hat:va.ownBlock=some gg∨w.heap.size<=gg) :
  Fam b2 w9 vs xs (.slice (some ⟨gg,0,none⟩) (AA.length+1) cap') (AA ++ [ys])∧Zc (λ q=>b2<=q) w w9:=by
 have kg:Zc (λ q=>va.ownBlock=some q) w w9:=Zc.grown (Zc.mono hk (λ _ _ f=>f.elim)) hgrow (λ q e _=>e)
 have fresh:∀ (q:Nat),q<w.heap.size->va.ownBlock≠some q->q≠gg:=by
  intro q h1 h2 e;subst e
  rcases hat with f | f
  ·exact h2 f
  ·omega
 obtain ⟨cs,a1,a2⟩:=h.ar
 have hcc:cs=cs0:=by
  have l1:=a1.1;have l2:=hcs.1;refine List.ext_getElem? (λ i=>?_)
  by_cases hi:i<AA.length
  ·rcases a1.2 with ⟨e,_⟩ | ⟨g,cap,cur,hv', _⟩
   ·have:=a1.2
    rcases hcs.2 with ⟨_,e0⟩ | ⟨g,cap,cur,hv', _⟩
    ·omega
    ·rw [e] at hv'; cases hv'
   ·have c1:=World.ownsRow.cellAt (g:=g) (cap:=cap) (hv' ▸ a1) i (by omega)
    have c2:=World.ownsRow.cellAt (g:=g) (cap:=cap) (hv' ▸ hcs) i (by omega);rw [<- c1,<- c2]
  ·rw [List.getElem?_eq_none (by omega),List.getElem?_eq_none (by omega)]
 subst hcc;have lcs:cs.length=AA.length:=by have:=a1.1;omega
 refine ⟨⟨λ i hi=>kg.row (h.rows i hi) (λ q e f=>h.apa i hi q e f),h.ap,λ i hi q e f=>?_,cs ++ [v],by simpa using hown,λ j hj=>?_⟩,kg.mono (λ q _ e=>(World.ownsRow.lt a1 q e).1)⟩
 ·simp only [Value.ownBlock,Option.some.injEq] at f
  subst f;exact fresh gg (World.ownsRow.lt (h.rows i hi) gg e).2 (h.apa i hi gg e) rfl
 ·by_cases e:j=AA.length
  ·subst e
   refine ⟨v,by rw [List.getElem?_append_right (by omega),lcs];simp,?_,λ q e=>⟨λ f=>?_,(hva q e).2⟩⟩
   ·have e3:(AA ++ [ys])[AA.length]'hj=ys:=by simp
    rw [e3];exact kg.row hv (λ q e f=>(hva q e).1 f)
   ·simp only [Value.ownBlock,Option.some.injEq] at f
    subst f;exact fresh gg (World.ownsRow.lt hv gg e).2 (hva gg e).1 rfl
  ·have hj' : j<AA.length:=by simp at hj;omega
   obtain ⟨u,b1,b2', b3⟩:=a2 j hj';refine ⟨u,by rw [List.getElem?_append_left (by omega)];exact b1,?_,λ q e=>⟨λ f=>?_,(b3 q e).2⟩⟩
   ·rw [List.getElem_append_left hj']
    exact kg.row b2' (λ q e f=>(b3 q e).1 f)
   ·simp only [Value.ownBlock,Option.some.injEq] at f
    subst f;exact fresh gg (World.ownsRow.lt b2' gg e).2 (b3 gg e).1 rfl
end
section
open Go.RowKit
attribute [local go_sem ↓] Go.wp_at_zero Go.wp_at_succ
structure TwoR (w0 w:World) (vo vt:Value) (O W:List Int):Prop where
 o:Row w0.heap.size w vo O
 t:Row w0.heap.size w vt W
 ap:∀ q,vo.ownBlock=some q->vt.ownBlock≠some q
 kept:Za w0 w
def tri (a b c:List Int):Nat->List Int:=λ i=>if i=0 then a else if i=1 then b else c
theorem Zk7 {U':List Int}:∀ j,j<3->j≠1->tri T U' R j=tri T U R j:=λ j _ e=>by unfold tri;rw [if_neg e,if_neg e]
theorem Zla {R':List Int}:∀ j,j<3->j≠2->tri T U R' j=tri T U R j:=by
 intro j h e;unfold tri
 by_cases e0:j=0
 ·rw [if_pos e0,if_pos e0]
 ·rw [if_neg e0,if_neg e0]
  by_cases e1:j=1
  ·rw [if_pos e1,if_pos e1]
  ·omega
structure LS (w0 w:World) (rv sa sb:Value) (vs:Nat->Value) (va:Value) (xs:Nat->List Int) (AA:List (List Int)):Prop where
 fam:Fam (w0.heap.size+2) w vs xs va AA
 blk:w.heap[w0.heap.size]? = some (.cells #[rv,vs 0,va,vs 1,vs 2] 341 (0,0))
 two:w.heap[w0.heap.size+1]? = some (.cells #[sa,sb] 74 (0,0))
 kept:Za w0 w
 big:w0.heap.size+2<=w.heap.size
theorem LS.same {vs:Nat->Value} (h:LS w0 w rv sa sb vs va xs AA) (hk:Za w w'):LS w0 w' rv sa sb vs va xs AA:=
 ⟨h.fam.same hk,hk.at0 h.blk,hk.at0 h.two,h.kept.trans' hk,Nat.le_trans h.big hk.size⟩
theorem LS.store {vs vs' : Nat->Value} {va':Value} {AA':List (List Int)} (h:LS w0 w rv sa sb vs va xs AA) (hf:Fam (w0.heap.size+2) w9 vs' xs' va' AA') (hk:Zc (λ q=>w0.heap.size+2<=q) w w9) (hs:(#[rv,vs 0,va,vs 1,vs 2]:Array Value).setIfInBounds s v = #[rv,vs' 0,va', vs' 1,vs' 2]):LS w0 (w9.setCell ⟨w0.heap.size,s,none⟩ v) rv sa sb vs' va' xs' AA' ∧ w9.heap[w0.heap.size]? = some (.cells #[rv,vs 0,va,vs 1,vs 2] 341 (0,0)):=by
 have b1:=hk.at h.blk (by omega);have b2:=hk.at h.two (by omega);have k2:Zc (λ q=>q=w0.heap.size) w9 (w9.setCell ⟨w0.heap.size,s,none⟩ v):=Zc.setCell (S:=λ q=>q=w0.heap.size) (p:=⟨w0.heap.size,s,none⟩) (Zc.refl _ _) (λ _=>rfl) _;refine ⟨⟨hf.keep k2 (λ q hq e=>by omega),by rw [Zt b1,hs],k2.at b2 (by omega),(h.kept.trans hk (λ q hq f=>by omega)).trans k2 (λ q hq e=>by omega),?_⟩,b1⟩;have:=hk.size;have:=k2.size;have:=h.big;omega
theorem LS.cells {vs:Nat->Value} (h:LS w0 w rv sa sb vs va xs AA):w.cell? ⟨w0.heap.size,1,none⟩=some (vs 0)∧w.cell? ⟨w0.heap.size,2,none⟩=some va∧w.cell? ⟨w0.heap.size,3,none⟩=some (vs 1)∧w.cell? ⟨w0.heap.size,4,none⟩=some (vs 2)∧w.cell? ⟨w0.heap.size+1,0,none⟩=some sa∧w.cell? ⟨w0.heap.size+1,1,none⟩=some sb∧∀ s,w.frozen? ⟨w0.heap.size,s,none⟩=false:=
 ⟨Zb h.blk 1,Zb h.blk 2,Zb h.blk 3,Zb h.blk 4,Zb h.two 0,Zb h.two 1,λ s=>Zg h.blk s⟩
theorem LS.push {vs:Nat->Value} (h:LS w0 w rv sa sb vs va xs AA) (hi:i<3) (hs:s=if i=0 then 1 else i+2) (hl:(xs i).length=l) (hk:Za w w1) (hown:w9.ownsRow (w0.heap.size+2) 3 1 (.slice (some ⟨gg,0,none⟩) (l+1) cap') (l+1) (iv (xs i) ++ [.int .i64 z])) (hgrow:w1.grownBy w9 (vs i).ownBlock) (hat:(vs i).ownBlock=some gg∨gg=H) (hH:w.heap.size<=H) (e1:xs' i=xs i ++ [z]) (e2:∀ j,j<3->j≠i->xs' j=xs j) :
  LS w0 (w9.setCell ⟨w0.heap.size,s,none⟩ (.slice (some ⟨gg,0,none⟩) (l+1) cap')) rv sa sb (λ j=>if j=i then .slice (some ⟨gg,0,none⟩) (l+1) cap' else vs j) va xs' AA∧w9.cell? ⟨w0.heap.size,s,none⟩=some (vs i)∧w9.frozen? ⟨w0.heap.size,s,none⟩=false:=by
 obtain ⟨f1,f2⟩:=h.fam.push hi hl hk hown hgrow (hat.imp id (λ e=>by omega)) e1 e2
 rcases (show i=0∨i=1∨i=2 by omega) with rfl | rfl | rfl
 ·obtain rfl:s=1:=by simpa using hs
  obtain ⟨g1,g2⟩:=h.store f1 f2 (s:=1) (v:=.slice (some ⟨gg,0,none⟩) (l+1) cap') (by simp);exact ⟨g1,Zb g2 1,Zg g2 1⟩
 ·obtain rfl:s=3:=by simpa using hs
  obtain ⟨g1,g2⟩:=h.store f1 f2 (s:=3) (v:=.slice (some ⟨gg,0,none⟩) (l+1) cap') (by simp);exact ⟨g1,Zb g2 3,Zg g2 3⟩
 ·obtain rfl:s=4:=by simpa using hs
  obtain ⟨g1,g2⟩:=h.store f1 f2 (s:=4) (v:=.slice (some ⟨gg,0,none⟩) (l+1) cap') (by simp);exact ⟨g1,Zb g2 4,Zg g2 4⟩
theorem LS.more {vs:Nat->Value} (h:LS w0 w rv sa sb vs va xs AA) (hl:AA.length=l) (hv:Row (w0.heap.size+2) w v ys) (hva:∀ q,v.ownBlock=some q->va.ownBlock≠some q∧∀ i,i<3->(vs i).ownBlock≠some q) (hcs:w.ownsRow (w0.heap.size+2) 51 1 va l cs0) (hk:Za w w1) (hown:w9.ownsRow (w0.heap.size+2) 51 1 (.slice (some ⟨gg,0,none⟩) (l+1) cap') (l+1) (cs0 ++ [v])) (hgrow:w1.grownBy w9 va.ownBlock) (hat:va.ownBlock=some gg∨gg=H) (hH:w.heap.size<=H) :
  LS w0 (w9.setCell ⟨w0.heap.size,2,none⟩ (.slice (some ⟨gg,0,none⟩) (l+1) cap')) rv sa sb vs (.slice (some ⟨gg,0,none⟩) (l+1) cap') xs (AA ++ [ys])∧w9.cell? ⟨w0.heap.size,2,none⟩=some va∧w9.frozen? ⟨w0.heap.size,2,none⟩=false:=by
 subst hl;obtain ⟨f1,f2⟩:=h.fam.more hv hva hcs hk hown hgrow (hat.imp id (λ e=>by omega));obtain ⟨g1,g2⟩:=h.store f1 f2 (s:=2) (v:=.slice (some ⟨gg,0,none⟩) (AA.length+1) cap') (by simp);exact ⟨g1,Zb g2 2,Zg g2 2⟩
theorem LS.pe {vs:Nat->Value} (h:LS w0 w rv sa sb vs va xs AA) (hi:i<3) (hs:s=if i=0 then 1 else i+2) (hl:(xs i).length=l) (e1:xs' i=xs i ++ [z]) (e2:∀ j,j<3->j≠i->xs' j=xs j) :
  ∃ ro rc,vs i=.slice ro l rc∧w.ownsRow (w0.heap.size+2) 3 1 (.slice ro l rc) l (iv (xs i))∧w0.heap.size+2<=(w.alloc (.cells #[.int .i64 z] 3)).heap.size∧Hid (∀ gg cap' w9,w9.ownsRow (w0.heap.size+2) 3 1 (.slice (some ⟨gg,0,none⟩) (l+1) cap') (l+1) (iv (xs i) ++ [.int .i64 z])->(w.alloc (.cells #[.int .i64 z] 3)).grownBy w9 (Value.slice ro l rc).ownBlock->((Value.slice ro l rc).ownBlock=some gg∨gg=(w.alloc (.cells #[.int .i64 z] 3)).heap.size)->LS w0 (w9.setCell ⟨w0.heap.size,s,none⟩ (.slice (some ⟨gg,0,none⟩) (l+1) cap')) rv sa sb (λ j=>if j=i then .slice (some ⟨gg,0,none⟩) (l+1) cap' else vs j) va xs' AA∧w9.cell? ⟨w0.heap.size,s,none⟩=some (.slice ro l rc)∧w9.frozen? ⟨w0.heap.size,s,none⟩=false):=by
 have h0:w.ownsRow (w0.heap.size+2) 3 1 (vs i) l (iv (xs i)):=by
  have:=h.fam.rows i hi;unfold Row at this;rw [hl] at this;exact this
 obtain ⟨ro,rc,hv⟩:=Zf h0;have kd:Za w (w.alloc (.cells #[.int .i64 z] 3)):=Zc.alloc (Zc.refl _ w) _;refine ⟨ro,rc,hv,hv ▸ h0,by have:=kd.size;have:=h.big;omega,?_⟩;intro gg cap' w9 q1 q2 q3;rw [<- hv] at q2 q3 ⊢;exact h.push hi hs hl kd q1 q2 q3 kd.size e1 e2
theorem Fam.put {vs:Nat->Value} (h:Fam b2 w vs xs va AA) (hi:i<3) (hv:vs i=.slice (some ⟨g,0,none⟩) n cap) (hl:(xs i).length=n) (e1:xs' i=(xs i).set k z) (e2:∀ j,j<3->j≠i->xs' j=xs j) :
  Fam b2 (w.setCell ⟨g,k,none⟩ (.int .i64 z)) vs xs' va AA∧Zc (λ q=>b2<=q) w (w.setCell ⟨g,k,none⟩ (.int .i64 z)):=by
 have kg:Zc (λ q=>q=g) w (w.setCell ⟨g,k,none⟩ (.int .i64 z)):=Zc.setCell (S:=λ q=>q=g) (p:=⟨g,k,none⟩) (Zc.refl _ _) (λ _=>rfl) _;have own:(vs i).ownBlock=some g:=by rw [hv];rfl
 have hbase:b2<=g:=Xr (h.rows i hi) own;obtain ⟨cs,a1,a2⟩:=h.ar;refine ⟨⟨?_,h.ap,h.apa,cs,kg.row a1 (λ q e f=>h.apa i hi g own (f ▸ e)),λ j hj=>?_⟩,kg.mono (λ q _ e=>by omega)⟩
 ·intro j hj
  by_cases ej:j=i
  ·subst ej
   have h0:w.ownsRow b2 3 1 (vs j) n (iv (xs j)):=by
    have:=h.rows j hj;unfold Row at this;rw [hl] at this;exact this
   rw [hv] at h0 ⊢;have:=(h0.stored k (.int .i64 z)).1;rw [e1];unfold Row;rw [List.length_set,hl];have e3:(iv (xs j)).set k (.int .i64 z)=iv ((xs j).set k z):=by unfold iv;rw [List.map_set]
   rw [<- e3];exact this
  ·rw [e2 j hj ej]
   exact kg.row (h.rows j hj) (λ q e f=>h.ap j i hj hi ej q e (by rw [f];exact own))
 ·obtain ⟨v,b1,b2', b3⟩:=a2 j hj
  exact ⟨v,b1,kg.row b2' (λ q e f=>(b3 q e).2 i hi (by rw [f];exact own)),b3⟩
theorem LS.put {vs:Nat->Value} (h:LS w0 w rv sa sb vs va xs AA) (hi:i<3) (hv:vs i=.slice (some ⟨g,0,none⟩) n cap) (hl:(xs i).length=n) (e1:xs' i=(xs i).set k z) (e2:∀ j,j<3->j≠i->xs' j=xs j) :
  LS w0 (w.setCell ⟨g,k,none⟩ (.int .i64 z)) rv sa sb vs va xs' AA:=by
 obtain ⟨f1,f2⟩:=h.fam.put (k:=k) hi hv hl e1 e2;refine ⟨f1,f2.at h.blk (by omega),f2.at h.two (by omega),h.kept.trans f2 (λ q hq f=>by omega),?_⟩;have:=f2.size;have:=h.big;omega
theorem Zv5 {xs:List Int} (h:w.ownsRow base 3 1 (.slice (some ⟨g,0,none⟩) n cap) n (iv xs)):Kd w g n (λ i=>at' xs i):=by
 have hl:xs.length=n:=by have:=h.1;simp [iv] at this;omega
 rcases h.2 with ⟨e,_⟩ | ⟨g', cap', cur,e,hb,hg,h1,h2,h3,h4⟩
 ·cases e
 ·simp only [Value.slice.injEq,Option.some.injEq,Addr.mk.injEq,and_true,true_and] at e
  obtain ⟨rfl,rfl⟩:=e;refine ⟨cur,_,hg,by omega,λ i hi=>?_⟩;have e1:cur[i]? = (cur.toList.take (n * 1))[i]? := by rw [List.getElem?_take_of_lt (by omega)];simp
  rw [e1,h4];unfold iv;rw [List.getElem?_map,List.getElem?_eq_getElem (by omega)];show _=some (Value.int .i64 (at' xs (i:Nat)));rw [Yl _ _ (by omega)];rfl
theorem Fam.form {vs:Nat->Value} (h:Fam b2 w vs xs va AA) (hi:i<3) (hl:(xs i).length=n) (hn:0<n):∃ g cap,vs i=.slice (some ⟨g,0,none⟩) n cap∧Kd w g n (λ k=>at' (xs i) k)∧g<w.heap.size:=by
 have h0:w.ownsRow b2 3 1 (vs i) n (iv (xs i)):=by
  have:=h.rows i hi;unfold Row at this;rw [hl] at this;exact this
 obtain ⟨g,cap,e,h1,h2⟩:=World.ownsRow.form h0 hn;exact ⟨g,cap,e,Zv5 (e ▸ h0),h2⟩
theorem LS.net {vs:Nat->Value} {up:Nat->Nat} (h:LS w0 w rv sa sb vs va (tri T U R) ((List.range N).map (λ p=>(Zl L J p).map (λ k:Nat=>(k:Int))))) (hJ:J.length=N) (hT:T.length=N) (hN:0<N) (hU:U.length=N+200) (hR:R.length=N+200) (eU:∀ i,i<N+200->at' U i=(up i:Int)) (eR:∀ i,i<N+200->at' R i=rep i) :
  ∃ B,B.nb=w0.heap.size∧NC L B w T J up rep∧B.top<=w.heap.size∧w0.heap.size<=B.ub∧w0.heap.size<=B.rb:=by
 obtain ⟨tb,tc,t1,t2,t3⟩:=h.fam.form (i:=0) (n:=N) (by omega) hT hN;obtain ⟨ub,uc,u1,u2,u3⟩:=h.fam.form (i:=1) (n:=N+200) (by omega) hU (by omega);obtain ⟨rb,rc,r1,r2,r3⟩:=h.fam.form (i:=2) (n:=N+200) (by omega) hR (by omega);obtain ⟨cs,a1,a2⟩:=h.fam.ar;rw [List.length_map,List.length_range] at a1;obtain ⟨ab,ac,v1,v2,v3⟩:=World.ownsRow.form a1 hN;have o0:(vs 0).ownBlock=some tb:=by rw [t1];rfl
 have o1:(vs 1).ownBlock=some ub:=by rw [u1];rfl
 have o2:(vs 2).ownBlock=some rb:=by rw [r1];rfl
 have oa:va.ownBlock=some ab:=by rw [v1];rfl
 have hb1:=Xr (h.fam.rows 1 (by omega)) o1;have hb2:=Xr (h.fam.rows 2 (by omega)) o2;have hbig:=h.big;have n2:tb≠ub:=λ e=>h.fam.ap 0 1 (by omega) (by omega) (by omega) tb o0 (by rw [e];exact o1);have n2' : tb≠rb:=λ e=>h.fam.ap 0 2 (by omega) (by omega) (by omega) tb o0 (by rw [e];exact o2);have n3:ab≠ub:=λ e=>h.fam.apa 1 (by omega) ub o1 (by rw [<- e];exact oa);have n3' : ab≠rb:=λ e=>h.fam.apa 2 (by omega) rb o2 (by rw [<- e];exact oa);have n4:ub≠rb:=λ e=>h.fam.ap 1 2 (by omega) (by omega) (by omega) ub o1 (by rw [e];exact o2);refine ⟨⟨w0.heap.size,tb,ab,ub,rb,tc,ac,uc,rc,rv,w.heap.size⟩,rfl,⟨?_,?_,?_,v3,?_,?_,?_,?_,?_,n4,by show w0.heap.size<w.heap.size;omega,t3,v3,u3,r3⟩,Nat.le_refl _,by show w0.heap.size<=ub;omega,by show w0.heap.size<=rb;omega⟩
 ·show w.heap[w0.heap.size]? = _
  rw [h.blk,t1,u1,r1,v1,hJ]
 ·show Kd w tb J.length _
  rw [hJ];exact t2
 ·intro p hp
  rw [hJ] at hp;obtain ⟨v,b1,b2,b3⟩:=a2 p (by simpa using hp);have hc:=World.ownsRow.cellAt (v1 ▸ a1) p (by omega);have e3:((List.range N).map (λ p=>(Zl L J p).map (λ k:Nat=>(k:Int))))[p]'(by simpa using hp)=(Zl L J p).map (λ k:Nat=>(k:Int)):=by simp
  rw [e3] at b2;obtain ⟨go,gc,rfl,g2,g3,g4⟩:=b2.ints;rw [List.length_map] at b1;refine ⟨go,gc,by rw [hc,b1],g2,λ a e=>?_⟩;subst e;have hq:=b3 a.block rfl;refine ⟨?_,(g4 a rfl).2⟩;rintro (f | f)
  ·exact hq.2 1 (by omega) (by rw [f];exact o1)
  ·exact hq.2 2 (by omega) (by rw [f];exact o2)
 ·show Kd w ub (J.length+200) _
  rw [hJ];exact u2.congr eU
 ·show Kd w rb (J.length+200) _
  rw [hJ];exact r2.congr eR
 ·rintro (f | f)
  ·have:w0.heap.size=ub:=f;omega
  ·have:w0.heap.size=rb:=f;omega
 ·rintro (f | f)
  ·exact n2 f
  ·exact n2' f
 ·rintro (f | f)
  ·exact n3 f
  ·exact n3' f
def Zlu (w:World) (L:List Sym) (ap:Bool) (a b:List Int) (e:Ending) (w' : World):Prop:=∃ B,e=.returned (.pointer (some ⟨B.nb,0,none⟩))∧NC L B w' (a++b) (jl a b (apI ap)) (up0 ap (a.length+b.length) a.length (a++b)) (Zfh (a.length+b.length) (a++b))∧B.top<=w'.heap.size∧Za w w' ∧ w.heap.size<=B.ub∧w.heap.size<=B.rb
theorem Zcj (w:World) (N which:Nat) (ap:Bool) (n:Nat) (hN:N<=4000) (hw:which<=1) (hn:n<=98):Calls prog 233 #[.int .i64 (N:Int),.bool ap,.int .i64 (which:Int),.int .i64 (n:Int)] w λ e w' => e=.returned (.int .i64 (Zqe ap N which (-(n:Int)-1):Int))∧w' = w:=by
 have e0:(-(-(n:Int)-1)-1).toNat=n:=by omega
 cases ap
 ·have e1:((Zqe false N which (-(n:Int)-1):Nat):Int)=(N:Int)+2 * (n:Int):=by unfold Zqe;rw [e0];simp
  rw [e1];have i1:(N:Int)<=4000:=by omega
  have i2:(n:Int)<=98:=by omega
  go_enter func233,ntmps233
  go_wp2_with fail
  go_returns
  exact ⟨rfl,rfl⟩
 ·have e1:((Zqe true N which (-(n:Int)-1):Nat):Int)=(N:Int)+2 * (n:Int)+(which:Int):=by unfold Zqe;rw [e0];simp
  rw [e1];have i1:(N:Int)<=4000:=by omega
  have i2:(n:Int)<=98:=by omega
  have i3:(which:Int)<=1:=by omega
  go_enter func233,ntmps233
  go_wp2_with fail
  go_returns
  exact ⟨rfl,rfl⟩
end
theorem Zwt {ap:Int} (h0:0<=ap) (x3:IsT L a) (y3:IsT L b) {vv:Int->List Int} (vT:∀ n,n<0->IsT L (vv n)) (va:Vq vv a=T) (vb:Vq vv (b.map (shF ap))=T) :
  ∃ val:Int->List Int,Good L (jl a b ap) val∧val 0=T∧val (a.length:Nat)=T∧∀ n,n<0->val n=vv n:=by
 have hT:=Zcq (apart:=ap) h0 x3 y3;obtain ⟨val,hval⟩:∃ val:Int->List Int,val=λ x=>if x<0 then vv x else Vq vv (Zkq L (jl a b ap) x.toNat):=⟨_,rfl⟩
 have vn:∀ n,n<0->val n=vv n:=λ n hn=>by rw [hval];simp only;rw [if_pos hn]
 have vp:∀ p:Nat,val p=Vq vv (Zkq L (jl a b ap) p):=λ p=>by rw [hval];simp only;rw [if_neg (by omega),Int.toNat_natCast]
 refine ⟨val,⟨λ p hp hs=>?_,λ p hp hs=>?_,λ x hx=>?_⟩,?_,?_,vn⟩
 ·rw [vp,Zhy hT hp,Yp,if_neg (by omega),Zim]
  simp only [vp];rfl
 ·rw [vp,Zhy hT hp,Yp,if_pos hs,vn _ hs]
  have:Zl L (jl a b ap) p=[]:=by unfold Zl;rw [show arN L (at' (jl a b ap) p)=0 by unfold arN;rw [if_pos hs]];rfl
  rw [this];simp [Vq]
 ·by_cases h:x<0
  ·rw [vn x h];exact vT x h
  ·obtain ⟨p,rfl⟩:=Int.eq_ofNat_of_zero_le (Int.not_lt.1 h)
   have:=vp p;show IsT L (val (p:Int));rw [this];unfold IsT;rw [Zey _ (λ n _ hn=>vT n hn)];exact Zrt hT (by have:=hx.2;omega)
 ·have:=vp 0
  rw [show ((0:Nat):Int)=0 from rfl] at this;rw [this,<- va];congr 1;unfold Zkq;rw [show Zj L (jl a b ap) 0=a.length from Zeu (b:=b.map (shF ap)) x3];unfold jl;rw [List.drop_zero,Nat.sub_zero,List.take_left]
 ·rw [vp,<- vb]
  congr 1;unfold Zkq;rw [show Zj L (jl a b ap) a.length=a.length+(b.map (shF ap)).length from Zca (a:=a) (Zmv h0 y3)];unfold jl;rw [List.drop_left,Nat.add_sub_cancel_left,List.take_length]
theorem Za9 {ap:Nat} (hap:ap<=99) (ha:Zd L a=0) (hb:Zd L b=0) (hc:J3 L (jl a b ap) a.length ld) {u:List Int} (hu:Val L (jl a b ap) ld 0 u) :
  ∃ val:Int->List Int,Good L (jl a b ap) val∧val 0=u∧val (a.length:Nat)=u∧∀ n,n<0->IsT L (val n):=by
 obtain ⟨x1,x2,x3⟩:=Ze.1 ha;obtain ⟨y1,y2,y3⟩:=Ze.1 hb;have hlow:=Zi8 ha hb hap;obtain ⟨f,hf⟩:=Zi1 L (jl a b ap) ld;obtain ⟨e1,e2⟩:=Zml (by omega) x3 y3 hc hf hu;obtain ⟨vv,hvv⟩:∃ vv:Int->List Int,vv=λ n=>if -198<=n then f n else [n]:=⟨_,rfl⟩
 have v1:∀ n, -198<=n->vv n=f n:=λ n h=>by rw [hvv];simp only;rw [if_pos h]
 have vT:∀ n,n<0->IsT L (vv n):=by
  intro n hn
  by_cases h : -198<=n
  ·rw [v1 n h];exact hf.isT hc.trs hc.ok hn ⟨h,by omega⟩
  ·rw [hvv];simp only;rw [if_neg h];exact Ze1 L hn
 have va:Vq vv a=u:=by
  rw [e1];exact Jx a (λ n hn _=>v1 n (hlow n (by unfold jl;simp [hn])))
 have vb:Vq vv (b.map (shF ap))=u:=by
  rw [e2];exact Jx _ (λ n hn _=>v1 n (hlow n (by unfold jl;exact List.mem_append_right _ hn)))
 obtain ⟨val,g1,g2,g3,g4⟩:=Zwt (ap:=(ap:Int)) (by omega) x3 y3 vT va vb;exact ⟨val,g1,g2,g3,λ n hn=>by rw [g4 n hn];exact vT n hn⟩
def nsF (L:List Sym) (J:List Int) (m:Nat):Option ((Int->Int) × Int):=
 match Zl1 L J ((J.length+1) * J.length+2) (ld0 J) [(0,m)] with
 | some (some ld)=>
  match Vw L J ld (J.length+1) (λ _=>0) 0 with
  | some (k,_)=>if k = -1 then none else some (ld,k)
  | none=>none
 | _=>none
theorem Zh1 (hT:Trs L J) (hv:∀ x∈J, -198<=x) (h0:0<J.length) (hm:m<J.length) :
  ∃ res,NOk L J res ((J.length+1) * J.length+2) (ld0 J) [(0,m)]∧(res=none->nsF L J m=none)∧∀ ld,res=some ld->J3 L J m ld∧∃ k sz', Vw L J ld (J.length+1) (λ _=>0) 0=some (k,sz')∧(k = -1->nsF L J m=none)∧(k ≠ -1->nsF L J m=some (ld,k)∧∃ u,Val L J ld 0 u∧k=min (u.length:Int) 2001):=by
 have hl:=Zuc hv;have hroot:=Zic J (ld0 J);have hb:=Nat.mul_le_mul_left (J.length+1) hroot;have hp:∀ r∈[((0:Nat),m)],r.1<J.length∧r.2<J.length:=λ r hr=>by simp at hr;rw [hr];exact ⟨h0,hm⟩
 obtain ⟨res,e1⟩:=Zut hT ((J.length+1) * J.length+2) (ld0 J) [(0,m)] hl hp (by simp;omega);have hN:NOk L J res ((J.length+1) * J.length+2) (ld0 J) [(0,m)]:=⟨hT,hl,hp,e1,by simp;omega⟩;refine ⟨res,hN,?_,?_⟩
 ·intro e
  rw [e] at e1;unfold nsF;rw [e1]
 ·intro ld e
  subst e;have hc:=Zpm hN;have hz:Zbn (λ _=>0):=λ p=>.inr ⟨by simp,by simp⟩;have hk:Zh0 L J ld (λ _=>0):=λ p _ _ h=>by simp at h
  have p0:Z0 J 0:=Zm (p:=0) h0;obtain ⟨k,sz', g1,g2⟩:=Zjz hT hc.ok (J.length+1) (λ _=>0) 0 p0 hz (by have:=Zxf J.length (λ _=>0);omega);obtain ⟨-,g4⟩:=Zgp hT hc.ok _ _ _ _ _ p0 hz hk g1;refine ⟨hc,k,sz', g1,?_,?_⟩
  ·intro e
   unfold nsF;rw [e1];simp only [g1];rw [if_pos e]
  ·intro e
   exact ⟨by unfold nsF;rw [e1];simp only [g1];rw [if_neg e],g4 e⟩
theorem Znz (hT:Trs L J) (hv:∀ x∈J, -198<=x) (h0:0<J.length) (hm:m<J.length) {val:Int->List Int} (hg:Good L J val) (he:val 0=val m) :
  ∃ ld k u,nsF L J m=some (ld,k)∧J3 L J m ld∧Val L J ld 0 u∧k=min (u.length:Int) 2001∧val 0=Vq val u:=by
 obtain ⟨res,hU,hR1,hR2⟩:=Zh1 hT hv h0 hm
 have hst:∀ x,Z0 J x->val (ld0 J x)=val x:=by
  intro x hx
  by_cases h:0<=x∧at' J x<0
  ·have e:ld0 J x=at' J x:=by unfold ld0;rw [if_pos h]
   obtain ⟨p,rfl⟩:=Int.eq_ofNat_of_zero_le h.1;rw [e];exact (hg.var p (by have:=hx.2;omega) h.2).symm
  ·have e:ld0 J x=x:=by unfold ld0;rw [if_neg h]
   rw [e]
 obtain ⟨ld,rfl,hc⟩:=Zqu (Zn6 hT hg) _ _ _ _ hU hst (λ r hr=>by
  simp only [List.mem_cons,List.not_mem_nil,or_false] at hr;subst hr
  exact he)
 obtain ⟨hcl,k,sz', hs,hk1,hk2⟩:=hR2 ld rfl;obtain ⟨u,hu,hvu⟩:=Zfr hT hcl.ok hg hc _ 0 (Nat.le_refl _) (Zm (p:=0) h0);have hk:k ≠ -1:=λ e=>(Zjo hT hcl.ok _ _ _ _ _ (Zm (p:=0) h0) (λ p=>.inr ⟨by simp,by simp⟩) hs).2 e (λ p _ _ f=>by simp at f) u hu;obtain ⟨e1,u', hu', hku⟩:=hk2 hk;have:=hu'.uniq hu;subst this;exact ⟨ld,k,u', e1,hcl,hu,hku,hvu⟩
theorem Zvg {ap:Nat} (hap:ap<=99) (ha:Zd L a=0) (hb:Zd L b=0) :
  (nsF L (jl a b ap) a.length=none->Zc0 L (jl a b ap) a.length=none)∧∀ ld k u,nsF L (jl a b ap) a.length=some (ld,k)->J3 L (jl a b ap) a.length ld->Val L (jl a b ap) ld 0 u->∃ v,Zqt L a b ap v∧v.length=u.length∧wrF [] u=wrF [] v:=by
 obtain ⟨x1,x2,x3⟩:=Ze.1 ha;obtain ⟨y1,y2,y3⟩:=Ze.1 hb;have hT:=Zcq (apart:=(ap:Int)) (by omega) x3 y3;have hv:=Zi8 ha hb hap;have p1:=Z2 x3;have p2:=Z2 y3;have hl:(jl a b ap).length=a.length+b.length:=by simp [jl]
 constructor
 ·intro h
  rcases com_u hap ha hb with e | ⟨u,ld,k,h1,hc,hu,h3⟩
  ·exact e
  ·obtain ⟨val,g1,g2,g3,g4⟩:=Za9 hap ha hb hc hu
   obtain ⟨ld', k', u', e1,_⟩:=Znz hT hv (m:=a.length) (by omega) (by omega) g1 (by rw [g2,g3]);rw [h] at e1;cases e1
 ·intro ld k u h hc hu
  obtain ⟨val,g1,g2,g3,g4⟩:=Za9 hap ha hb hc hu;obtain ⟨ld', k', v,e1,hc', hv', hk', ev,_⟩:=Zmb hT hv (m:=a.length) (by omega) (by omega) g1 (by rw [g2,g3]);obtain ⟨val2,f1,f2,f3,f4⟩:=Za9 hap ha hb hc' hv';obtain ⟨ld2,k2,u2,d1,d2,d3,d4,d5⟩:=Znz hT hv (m:=a.length) (by omega) (by omega) f1 (by rw [f2,f3]);rw [h] at d1;simp only [Option.some.injEq,Prod.mk.injEq] at d1;obtain ⟨rfl,rfl⟩:=d1;have:=d3.uniq hu;subst this;rw [g2] at ev;rw [f2] at d5;have e:=Zjp (g:=val) (g' := val2) (λ n _ hn=>g4 n hn) (λ n _ hn=>f4 n hn) ev d5;have hll:=congrArg List.length e;rw [Zas,Zas] at hll;exact ⟨v,⟨ld', k', e1,hc', hv', hk'⟩,hll.symm,e⟩
end Go.Proofs.YtmjgnfkbnofjoaaGreatDoor
