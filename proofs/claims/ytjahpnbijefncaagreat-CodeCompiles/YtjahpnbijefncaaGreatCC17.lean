import Derived.Test.YtjahpnbijefncaaGreatCC16
namespace Go.Proofs.YtjahpnbijefncaaGreat
set_option maxRecDepth 100000
set_option linter.unusedVariables false
set_option maxHeartbeats 8000000
section
open Go.RowKit
attribute [local go_sem ↓] Go.wp_at_zero Go.wp_at_succ
def ptN (ap:Bool) (N x:Nat):Int:=if x<N then (x:Int) else if ap=true∧(x-N) % 2=1 then -(((x-N) / 2:Nat):Int)-100 else -(((x-N) / 2:Nat):Int)-1
def Y2 (ap:Bool) (N x:Nat):Prop:=x<N∨(N<=x∧x<N+198∧(ap=true∨(x-N) % 2=0))
theorem V6 {ap:Bool} {N x:Nat} (h:x<N):ptN ap N x=x:=by unfold ptN;rw [if_pos h]
theorem Zdk {ap:Bool} {N x:Nat} (h:N<=x):ptN ap N x<0:=by
 unfold ptN;rw [if_neg (by omega)];split <;> omega
theorem pt_inj {ap:Bool} {N x y:Nat} (hx:Y2 ap N x) (hy:Y2 ap N y) (h:ptN ap N x=ptN ap N y):x=y:=by
 unfold ptN at h;unfold Y2 at hx hy
 by_cases h1:x<N
 ·rw [if_pos h1] at h
  by_cases h2:y<N
  ·rw [if_pos h2] at h;omega
  ·rw [if_neg h2] at h;split at h <;> omega
 ·rw [if_neg h1] at h
  by_cases h2:y<N
  ·rw [if_pos h2] at h;split at h <;> omega
  ·rw [if_neg h2] at h
   by_cases e1:ap=true∧(x-N) % 2=1
   ·rw [if_pos e1] at h
    by_cases e2:ap=true∧(y-N) % 2=1
    ·rw [if_pos e2] at h;omega
    ·rw [if_neg e2] at h;omega
   ·rw [if_neg e1] at h
    by_cases e2:ap=true∧(y-N) % 2=1
    ·rw [if_pos e2] at h;omega
    ·rw [if_neg e2] at h
     have a1:(x-N) % 2=0:=by
      rcases hx with q | ⟨_,_,q | q⟩
      ·omega
      ·by_cases z:(x-N) % 2=1
       ·exact absurd ⟨q,z⟩ e1
       ·omega
      ·exact q
     have a2:(y-N) % 2=0:=by
      rcases hy with q | ⟨_,_,q | q⟩
      ·omega
      ·by_cases z:(y-N) % 2=1
       ·exact absurd ⟨q,z⟩ e2
       ·omega
      ·exact q
     omega
structure NR (ap:Bool) (J:List Int) (up:Nat->Nat) (rep:Nat->Int) (cl:Nat->Nat) (ρ:Nat->Nat) (ld:Int->Int):Prop where
 node:∀ x,Y2 ap J.length x->Y2 ap J.length (up x)
 cnode:∀ x,Y2 ap J.length x->Y2 ap J.length (cl x)
 same:∀ x,Y2 ap J.length x->cl (up x)=cl x
 idem:∀ x,Y2 ap J.length x->cl (cl x)=cl x
 stop:∀ x,Y2 ap J.length x->(up x=x ↔ cl x=x)
 down:∀ x,Y2 ap J.length x->up x≠x->ρ (up x)<ρ x
 reps:∀ c,Y2 ap J.length c->cl c=c->(rep c = -1∧J.length<=c)∨∃ p:Nat,rep c=p∧p<J.length∧cl p=c
 led:∀ x,Y2 ap J.length x->ld (ptN ap J.length x)=if rep (cl x)<0 then ptN ap J.length (cl x) else rep (cl x)
theorem NR.eq {ap:Bool} {J:List Int} {up:Nat->Nat} {rep:Nat->Int} {cl ρ:Nat->Nat} {ld:Int->Int} (h:NR ap J up rep cl ρ ld) {x y:Nat} (hx:Y2 ap J.length x) (hy:Y2 ap J.length y):cl x=cl y ↔ ld (ptN ap J.length x)=ld (ptN ap J.length y):=by
 constructor
 ·intro e;rw [h.led x hx,h.led y hy,e]
 ·intro e
  rw [h.led x hx,h.led y hy] at e;have cx:=h.cnode x hx;have cy:=h.cnode y hy
  rcases h.reps _ cx (h.idem x hx) with ⟨a1,a2⟩ | ⟨p,a1,a2,a3⟩ <;> rcases h.reps _ cy (h.idem y hy) with ⟨b1,b2⟩ | ⟨q,b1,b2,b3⟩
  ·rw [if_pos (by omega),if_pos (by omega)] at e;exact pt_inj cx cy e
  ·have:=Zdk (ap:=ap) a2
   rw [if_pos (by omega),if_neg (by omega)] at e;omega
  ·have:=Zdk (ap:=ap) b2
   rw [if_neg (by omega),if_pos (by omega)] at e;omega
  ·rw [if_neg (by omega),if_neg (by omega)] at e
   have:p=q:=by omega
   subst this;rw [<- a3,<- b3]
theorem NR.join {ap:Bool} {J:List Int} {up:Nat->Nat} {rep:Nat->Int} {cl ρ:Nat->Nat} {ld:Int->Int} (h:NR ap J up rep cl ρ ld) {p q:Nat} (hp:Y2 ap J.length p) (hq:Y2 ap J.length q) (lp:cl p=p) (lq:cl q=q) (hpq:p≠q) :
  ∃ cl' ρ', NR ap J (λ k=>if k=p then q else up k) (λ k=>if k=q then (if rep q<0 then rep p else rep q) else rep k) cl' ρ' (if rep p<0 then un (ptN ap J.length p) (if rep q<0 then ptN ap J.length q else rep q) ld else if rep q<0 then un (ptN ap J.length q) (rep p) ld else un (rep p) (rep q) ld):=by
 obtain ⟨cl', hcl⟩:∃ cl' : Nat->Nat,cl' = λ z=>if cl z=p then q else cl z:=⟨_,rfl⟩
 have c1:∀ z,cl z=p->cl' z=q:=λ z e=>by rw [hcl];simp only;rw [if_pos e]
 have c2:∀ z,cl z≠p->cl' z=cl z:=λ z e=>by rw [hcl];simp only;rw [if_neg e]
 have lqp:cl q≠p:=by rw [lq];exact λ e=>hpq e.symm
 have rp:=h.reps p hp lp;have rq:=h.reps q hq lq;refine ⟨cl', λ x=>ρ x+if cl x=p then ρ q+1 else 0,?_,?_,?_,?_,?_,?_,?_,?_⟩
 ·intro x hx
  by_cases e:x=p
  ·simp only [e,if_true];exact hq
  ·simp only [e,if_false];exact h.node x hx
 ·intro x hx
  by_cases e:cl x=p
  ·rw [c1 x e];exact hq
  ·rw [c2 x e];exact h.cnode x hx
 ·intro x hx
  by_cases e:x=p
  ·simp only [e,if_true];rw [c2 q lqp,c1 p lp,lq]
  ·simp only [e,if_false]
   have:=h.same x hx;rw [hcl];simp only;rw [this]
 ·intro x hx
  by_cases e:cl x=p
  ·rw [c1 x e,c2 q lqp,lq]
  ·rw [c2 x e,c2 (cl x) (by rw [h.idem x hx];exact e),h.idem x hx]
 ·intro x hx
  by_cases e:x=p
  ·simp only [e,if_true];rw [c1 p lp]
  ·simp only [e,if_false]
   by_cases f:cl x=p
   ·rw [c1 x f]
    refine ⟨λ g=>?_,λ g=>?_⟩
    ·have:=(h.stop x hx).1 g;rw [f] at this;exact absurd this.symm e
    ·rw [<- g,lq] at f;exact absurd f.symm hpq
   ·rw [c2 x f];exact h.stop x hx
 ·intro x hx
  by_cases e:x=p
  ·simp only [e,if_true];intro _;rw [if_neg lqp,if_pos lp];omega
  ·simp only [e,if_false]
   intro hn;have:=h.down x hx hn;rw [h.same x hx];omega
 ·intro c hc lc
  have hcp:cl c≠p:=λ e=>by rw [c1 c e] at lc;subst lc;exact lqp e
  rw [c2 c hcp] at lc
  by_cases e:c=q
  ·subst e
   simp only [if_true]
   rcases rq with ⟨b1,b2⟩ | ⟨y,b1,b2,b3⟩
   ·rw [if_pos (by omega)]
    rcases rp with ⟨a1,a2⟩ | ⟨x,a1,a2,a3⟩
    ·exact .inl ⟨a1,b2⟩
    ·exact .inr ⟨x,a1,a2,c1 x a3⟩
   ·rw [if_neg (by omega)]
    exact .inr ⟨y,b1,b2,by rw [c2 y (by rw [b3];exact λ e=>hpq e.symm)];exact b3⟩
  ·simp only [e,if_false]
   rcases h.reps c hc lc with a | ⟨x,a1,a2,a3⟩
   ·exact .inl a
   ·have:c≠p:=λ f=>by rw [f,lp] at hcp;exact hcp rfl
    exact .inr ⟨x,a1,a2,by rw [c2 x (by rw [a3];exact this)];exact a3⟩
 ·intro x hx
  have hl:=h.led x hx;have lq' := h.led q hq;have lp' := h.led p hp;rw [lq] at lq';rw [lp] at lp';have inj:∀ y,Y2 ap J.length y->(ld (ptN ap J.length x)=ld (ptN ap J.length y) ↔ cl x=cl y):=λ y hy=>(h.eq hx hy).symm;have ip:=inj p hp;have iq:=inj q hq;rw [lp] at ip;rw [lq] at iq
  have new:(if (λ k=>if k=q then (if rep q<0 then rep p else rep q) else rep k) (cl' x)<0 then ptN ap J.length (cl' x) else (λ k=>if k=q then (if rep q<0 then rep p else rep q) else rep k) (cl' x))=if cl x=p∨cl x=q then (if (if rep q<0 then rep p else rep q)<0 then ptN ap J.length q else (if rep q<0 then rep p else rep q)) else ld (ptN ap J.length x):=by
   by_cases e1:cl x=p
   ·simp only [c1 x e1,e1,true_or,if_true]
   ·by_cases e2:cl x=q
    ·have e3:cl' x=q:=by rw [c2 x e1,e2]
     simp only [e3,e2,or_true,if_true]
    ·have e3:cl' x=cl x:=c2 x e1
     simp only [e3,e1,e2,or_self,if_false];exact hl.symm
  rw [new]
  have key:∀ (u v:Int),(u=ld (ptN ap J.length p)∧v=ld (ptN ap J.length q)∨u=ld (ptN ap J.length q)∧v=ld (ptN ap J.length p))->un u v ld (ptN ap J.length x)=if cl x=p∨cl x=q then v else ld (ptN ap J.length x):=by
   intro u v huv;unfold un
   rcases huv with ⟨rfl,rfl⟩ | ⟨rfl,rfl⟩
   ·by_cases e1:cl x=p
    ·rw [if_pos (ip.2 e1),if_pos (.inl e1)]
    ·rw [if_neg (λ f=>e1 (ip.1 f))]
     by_cases e2:cl x=q
     ·rw [if_pos (.inr e2)];exact iq.2 e2
     ·rw [if_neg (by rintro (f | f);exact e1 f;exact e2 f)]
   ·by_cases e2:cl x=q
    ·rw [if_pos (iq.2 e2),if_pos (.inr e2)]
    ·rw [if_neg (λ f=>e2 (iq.1 f))]
     by_cases e1:cl x=p
     ·rw [if_pos (.inl e1)];exact ip.2 e1
     ·rw [if_neg (by rintro (f | f);exact e1 f;exact e2 f)]
  by_cases hf:rep p<0
  ·rw [if_pos hf] at lp' ⊢
   by_cases hg:rep q<0
   ·rw [if_pos hg] at lq' ⊢
    rw [if_pos hg,if_pos hf];exact key _ _ (.inl ⟨lp'.symm,lq'.symm⟩)
   ·rw [if_neg hg] at lq' ⊢
    rw [if_neg hg,if_neg hg];exact key _ _ (.inl ⟨lp'.symm,lq'.symm⟩)
  ·rw [if_neg hf] at lp' ⊢
   by_cases hg:rep q<0
   ·rw [if_pos hg] at lq' ⊢
    rw [if_pos hg,if_neg hf];exact key _ _ (.inr ⟨lq'.symm,lp'.symm⟩)
   ·rw [if_neg hg] at lq' ⊢
    rw [if_neg hg,if_neg hg];exact key _ _ (.inl ⟨lp'.symm,lq'.symm⟩)
structure NB where
 nb:Nat
 tb:Nat
 ab:Nat
 ub:Nat
 rb:Nat
 tc:Nat
 ac:Nat
 uc:Nat
 rc:Nat
 lv:Value
 top:Nat
def NB.Two (B:NB) (k:Nat):Prop:=k=B.ub∨k=B.rb
structure NC (L:List Sym) (B:NB) (w:World) (T J:List Int) (up:Nat->Nat) (rep:Nat->Int):Prop where
 blk:w.heap[B.nb]? = some (.cells #[B.lv,.slice (some ⟨B.tb,0,none⟩) J.length B.tc,.slice (some ⟨B.ab,0,none⟩) J.length B.ac,.slice (some ⟨B.ub,0,none⟩) (J.length+200) B.uc,.slice (some ⟨B.rb,0,none⟩) (J.length+200) B.rc] 275 (0,0))
 nums:Jd w B.tb J.length (λ i=>at' T i)
 args:∀ p,p<J.length->∃ go gc,w.cell? ⟨B.ab,p,none⟩=some (.slice go (Zm L J p).length gc)∧Zh w go ((Zm L J p).map (λ k:Nat=>(k:Int)))∧∀ a,go=some a->¬ B.Two a.block∧a.block<B.top
 alt:B.ab<w.heap.size
 ups:Jd w B.ub (J.length+200) (λ i=>(up i:Int))
 reps:Jd w B.rb (J.length+200) rep
 n1:¬ B.Two B.nb
 n2:¬ B.Two B.tb
 n3:¬ B.Two B.ab
 n4:B.ub≠B.rb
 t1:B.nb<B.top
 t2:B.tb<B.top
 t3:B.ab<B.top
 t4:B.ub<B.top
 t5:B.rb<B.top
theorem NC.kept {L:List Sym} {S:Nat->Prop} {w w' : World} {B:NB} {T J:List Int} {up:Nat->Nat} {rep:Nat->Int} (h:NC L B w T J up rep) (hk:Zc S w w') (hs:∀ k,k<B.top->¬ S k):NC L B w' T J up rep:=by
 refine ⟨hk.at h.blk (hs _ h.t1),h.nums.kept hk (hs _ h.t2),λ p hp=>?_,Nat.lt_of_lt_of_le h.alt hk.size,h.ups.kept hk (hs _ h.t4),h.reps.kept hk (hs _ h.t5),h.n1,h.n2,h.n3,h.n4,h.t1,h.t2,h.t3,h.t4,h.t5⟩;obtain ⟨go,gc,a1,a2,a3⟩:=h.args p hp;exact ⟨go,gc,(hk.cell (p:=⟨B.ab,p,none⟩) h.alt (hs _ h.t3)).trans a1,a2.kept hk (λ a e=>hs _ (a3 a e).2),a3⟩
theorem NC.same {L:List Sym} {w w' : World} {B:NB} {T J:List Int} {up:Nat->Nat} {rep:Nat->Int} (h:NC L B w T J up rep) (hk:Za w w'):NC L B w' T J up rep:=h.kept hk (λ _ _ f=>f)
theorem NC.two {L:List Sym} {w w' : World} {B:NB} {T J:List Int} {up up' : Nat->Nat} {rep rep' : Nat->Int} (h:NC L B w T J up rep) (hk:Zc B.Two w w') (h1:Jd w' B.ub (J.length+200) (λ i=>(up' i:Int))) (h2:Jd w' B.rb (J.length+200) rep'):NC L B w' T J up' rep' := by
 refine ⟨hk.at h.blk h.n1,h.nums.kept hk h.n2,λ p hp=>?_,Nat.lt_of_lt_of_le h.alt hk.size,h1,h2,h.n1,h.n2,h.n3,h.n4,h.t1,h.t2,h.t3,h.t4,h.t5⟩;obtain ⟨go,gc,a1,a2,a3⟩:=h.args p hp;exact ⟨go,gc,(hk.cell (p:=⟨B.ab,p,none⟩) h.alt h.n3).trans a1,a2.kept hk (λ a e=>(a3 a e).1),a3⟩
theorem NC.cells {L:List Sym} {w:World} {B:NB} {T J:List Int} {up:Nat->Nat} {rep:Nat->Int} (h:NC L B w T J up rep):w.cell? ⟨B.nb,1,none⟩=some (.slice (some ⟨B.tb,0,none⟩) J.length B.tc)∧w.cell? ⟨B.nb,2,none⟩=some (.slice (some ⟨B.ab,0,none⟩) J.length B.ac)∧w.cell? ⟨B.nb,3,none⟩=some (.slice (some ⟨B.ub,0,none⟩) (J.length+200) B.uc)∧w.cell? ⟨B.nb,4,none⟩=some (.slice (some ⟨B.rb,0,none⟩) (J.length+200) B.rc):=
 ⟨Zb h.blk 1,Zb h.blk 2,Zb h.blk 3,Zb h.blk 4⟩
theorem Zsd {ap:Bool} {N x:Nat} (h:Y2 ap N x):x<N+200:=by unfold Y2 at h;omega
theorem Zdu {L:List Sym} {w:World} {B:NB} {T J:List Int} {up:Nat->Nat} {rep:Nat->Int} (h:NC L B w T J up rep) {ap:Bool} {cl ρ:Nat->Nat} {ld:Int->Int} (hr:NR ap J up rep cl ρ ld) {x:Nat} (hx:Y2 ap J.length x) :
  Calls Tryz.prog 185 #[.pointer (some ⟨B.nb,0,none⟩),.int .i64 (x:Int)] w λ e w' => e=.returned (.int .i64 (cl x:Int))∧w' = w:=by
 obtain ⟨c1,c2,c3,c4⟩:=h.cells;have hU:=h.ups;clear h
 go_enter Tryz.func185,Tryz.ntmps185
 go_wp2_with fail
 go_loopw [1] (λ tp wr=>∃ y:Nat,tp=.int .i64 (y:Int)∧Y2 ap J.length y∧cl y=cl x∧wr=w) (λ tp _=>ρ (intOf tp).toNat)
 case atStart=>exact ⟨x,rfl,hx,rfl,rfl⟩
 case round=>
  obtain ⟨y,rfl,hy,hyx,rfl⟩:=hrel;have hlt:=Zsd hy;have cu:=(hU.cell hlt).1;have i1:(0:Int)<=(y:Int):=by omega
  have i2:(y:Int)<(J.length:Int)+200:=by omega
  have i3:(y:Int)<((J.length+200:Nat):Int):=by omega
  by_cases hn:up y=y
  ·have e1:cl x=y:=by rw [<- hyx];exact (hr.stop y hy).1 hn
   rw [hn] at cu;clear hr hU
   go_wp2_with fail
   go_returns
   exact ⟨by rw [e1];rfl,rfl⟩
  ·have hd:=hr.down y hy hn
   have hv:=hr.node y hy;have hs:=hr.same y hy;have hni:¬ (up y:Int)=(y:Int):=by omega
   clear hr hU
   go_wp2_with fail
   go_roundw
   case rel=>exact ⟨up y,rfl,hv,by rw [hs];exact hyx,(by first | rfl | trivial)⟩
   case measure=>simpa [intOf] using hd
def Zv (l:List (Nat × Nat)):List Value:=l.flatMap λ x=>[.int .i64 (x.1:Int),.int .i64 (x.2:Int)]
theorem Zct (l:List (Nat × Nat)):(Zv l).length=l.length * 2:=by
 induction l with
 | nil=>rfl
 | cons x r ih=>simp [Zv] at ih ⊢;omega
theorem Vh (a b:List (Nat × Nat)):Zv (a++b)=Zv a++Zv b:=by simp [Zv]
theorem Zch {l:List (Nat × Nat)} {i:Nat} (h:i<l.length):(Zv l)[i * 2]? = some (.int .i64 (l[i].1:Int))∧(Zv l)[i * 2+1]? = some (.int .i64 (l[i].2:Int)):=by
 induction l generalizing i with
 | nil=>simp at h
 | cons x r ih=>
  have e:Zv (x :: r)=.int .i64 (x.1:Int) :: .int .i64 (x.2:Int) :: Zv r:=by simp [Zv]
  rw [e];cases i with
  | zero=>simp
  | succ j=>
   have:=ih (i:=j) (by simpa using h);rw [show (j+1) * 2=j * 2+1+1 by omega]
   simpa using this
theorem Zrl:(Tryz.prog.info? 283).map (λ i=>(i.zero,i.size,i.bytes))=some (some (.agg #[.int .i64 0,.int .i64 0]),2,16):=by kernel_rfl
def Zws (st:List (Nat × Nat)):Prop:=∀ x∈st,x.1<x.2∧x.2<=6
theorem Zrg {st:List (Nat × Nat)} (h:Zws st):Zws (Zah st):=by
 induction st with
 | nil=>exact h
 | cons x r ih=>
  obtain ⟨j,a⟩:=x;have hx:=h (j,a) (by simp);have hr:Zws r:=λ y hy=>h y (by simp [hy]);unfold Zah;split
  ·intro y hy
   rcases List.mem_cons.1 hy with rfl | hy
   ·exact ⟨by simpa using (by assumption:j+1<a),hx.2⟩
   ·exact hr y hy
  ·exact ih hr
theorem Zo8 {st:List (Nat × Nat)} (h:Zws st) {a:Nat} (ha:a<=6):Zws (pass st a):=by
 unfold pass;split
 ·intro y hy
  rcases List.mem_cons.1 hy with rfl | hy
  ·exact ⟨by assumption,ha⟩
  ·exact h y hy
 ·exact Zrg h
theorem Zjv (st:List (Nat × Nat)):(Zah st).length<=st.length:=by
 induction st with
 | nil=>simp [Zah]
 | cons x r ih=>
  obtain ⟨j,a⟩:=x;unfold Zah;split
  ·simp
  ·simp;omega
theorem Zkn (st:List (Nat × Nat)) (a:Nat):(pass st a).length<=st.length+1:=by
 unfold pass;split
 ·simp
 ·have:=Zjv st;omega
structure Ka (base:Nat) (w:World) (a:Nat) (v:Value) (st:List (Nat × Nat)):Prop where
 blk:w.heap[a]? = some (.cells #[v] 251 (0,0))
 row:w.ownsRow base 283 2 v st.length (Zv st.reverse)
 ap:v.ownBlock≠some a
 fine:Zws st
 len:st.length<=2000
def Zcs (a:Nat) (v:Value) (k:Nat):Prop:=k=a∨v.ownBlock=some k
theorem Ka.same {base:Nat} {w w' : World} {a:Nat} {v:Value} {st:List (Nat × Nat)} (h:Ka base w a v st) (k:Za w w'):Ka base w' a v st:=
 ⟨k.at h.blk (λ f=>f),Zc.row k h.row (λ _ _ f=>f),h.ap,h.fine,h.len⟩
theorem Zlr {w:World} {base g n cap size m:Nat} {e:TypeId} {xs:List Value} (h:w.ownsRow base e size (.slice (some ⟨g,0,none⟩) n cap) n xs) (hm:m<=n):w.ownsRow base e size (.slice (some ⟨g,0,none⟩) m cap) m (xs.take (m * size)):=by
 have hl:=h.1;have hmn:m * size<=n * size:=Nat.mul_le_mul_right _ hm;refine ⟨by rw [List.length_take,hl];omega,?_⟩
 rcases h.2 with ⟨e1,_⟩ | ⟨g', cap', cur,hv,hb,hg,h1,h2,h3,h4⟩
 ·cases e1
 ·simp only [Value.slice.injEq,Option.some.injEq,Addr.mk.injEq,and_true,true_and] at hv
  obtain ⟨rfl,rfl⟩:=hv;exact .inr ⟨g,cap,cur,rfl,hb,hg,by omega,h2,h3,by rw [<- h4,List.take_take,Nat.min_eq_left hmn]⟩
def Zdi (base:Nat) (w:World) (a:Nat) (v:Value) (st' : List (Nat × Nat)) (w' : World):Prop:=∃ v', Ka base w' a v' st' ∧ Zc (Zcs a v) w w' ∧ ∀ k,Zcs a v' k->Zcs a v k∨w.heap.size<=k
structure Zaj (base:Nat) (w:World) (a:Nat) (v0:Value) (st0:List (Nat × Nat)) (wr:World) (v:Value) (st:List (Nat × Nat)):Prop where
 tr:Ka base wr a v st
 k:Zc (Zcs a v0) w wr
 f:∀ k,Zcs a v k->Zcs a v0 k
 eq:Hid (Zah st=Zah st0)
theorem Zaj.step {base:Nat} {w:World} {a g cap:Nat} {v0:Value} {st0:List (Nat × Nat)} {wr:World} {j n:Nat} {r:List (Nat × Nat)} (h:Zaj base w a v0 st0 wr (.slice (some ⟨g,0,none⟩) (r.length+1) cap) ((j,n) :: r)) :
  (j+1<n->Ka base (wr.setCell ⟨g,r.length * 2,none⟩ (.int .i64 ((j:Int)+1))) a (.slice (some ⟨g,0,none⟩) (r.length+1) cap) (Zah st0)∧Zc (Zcs a v0) w (wr.setCell ⟨g,r.length * 2,none⟩ (.int .i64 ((j:Int)+1)))∧∀ k,Zcs a (.slice (some ⟨g,0,none⟩) (r.length+1) cap) k->Zcs a v0 k) ∧
  (¬ j+1<n->Zaj base w a v0 st0 ((wr.setCell ⟨g,r.length * 2,none⟩ (.int .i64 ((j:Int)+1))).setCell ⟨a,0,none⟩ (.slice (some ⟨g,0,none⟩) r.length cap)) (.slice (some ⟨g,0,none⟩) r.length cap) r):=by
 have hga:g≠a:=λ e=>h.tr.ap (by rw [e];rfl);have k1:Zc (Zcs a v0) w (wr.setCell ⟨g,r.length * 2,none⟩ (.int .i64 ((j:Int)+1))):=h.k.setCell (p:=⟨g,r.length * 2,none⟩) (λ _=>h.f g (.inr rfl)) _;have hrow:=h.tr.row
 have hx:Zv ((j,n) :: r).reverse=Zv r.reverse ++ [.int .i64 (j:Int),.int .i64 (n:Int)]:=by
  rw [List.reverse_cons,Vh];simp [Zv]
 have hl2:(Zv r.reverse).length=r.length * 2:=by rw [Zct,List.length_reverse]
 rw [hx] at hrow;have hs:=(hrow.stored (r.length * 2) (.int .i64 ((j:Int)+1))).1
 have hset:(Zv r.reverse ++ [Value.int .i64 (j:Int),.int .i64 (n:Int)]).set (r.length * 2) (.int .i64 ((j:Int)+1))=Zv r.reverse ++ [.int .i64 ((j:Int)+1),.int .i64 (n:Int)]:=by
  rw [<- hl2,List.set_append_right _ _ (Nat.le_refl _)];simp
 rw [hset] at hs
 have hb:(wr.setCell ⟨g,r.length * 2,none⟩ (.int .i64 ((j:Int)+1))).heap[a]? = some (.cells #[.slice (some ⟨g,0,none⟩) (r.length+1) cap] 251 (0,0)):=by
  rw [Below.heap_setCell _ _ _ _ (by simpa using (Ne.symm hga))];exact h.tr.blk
 have hfr:Zws r:=λ y hy=>h.tr.fine y (by simp [hy]);have hlr:r.length<=2000:=by have:=h.tr.len;simp at this;omega
 have hf0:=h.tr.fine (j,n) (by simp);constructor
 ·intro hj
  have e1:Zah st0=(j+1,n) :: r:=by rw [<- h.eq.out,Zah,if_pos hj]
  rw [e1];refine ⟨⟨hb,?_,h.tr.ap,?_,by simpa using h.tr.len⟩,k1,h.f⟩
  ·have:Zv ((j+1,n) :: r).reverse=Zv r.reverse ++ [.int .i64 ((j:Int)+1),.int .i64 (n:Int)]:=by
    rw [List.reverse_cons,Vh];simp [Zv]
   rw [this];exact hs
  ·intro y hy
   rcases List.mem_cons.1 hy with rfl | hy
   ·exact ⟨hj,hf0.2⟩
   ·exact hfr y hy
 ·intro hj
  have e1:Zah r=Zah st0:=by rw [<- h.eq.out,Zah,if_neg hj]
  have ht:=Zlr (m:=r.length) hs (by omega);rw [List.take_left' (by rw [hl2])] at ht;have k2:Zc (λ k=>k=a) (wr.setCell ⟨g,r.length * 2,none⟩ (.int .i64 ((j:Int)+1))) ((wr.setCell ⟨g,r.length * 2,none⟩ (.int .i64 ((j:Int)+1))).setCell ⟨a,0,none⟩ (.slice (some ⟨g,0,none⟩) r.length cap)):=Zc.setCell (S:=λ k=>k=a) (p:=⟨a,0,none⟩) (Zc.refl _ _) (λ _=>rfl) _;refine ⟨⟨?_,?_,by simpa [Value.ownBlock] using hga,hfr,hlr⟩,k1.setCell (p:=⟨a,0,none⟩) (λ _=>.inl rfl) _,λ k hk=>h.f k hk,e1⟩
  ·rw [Zs hb];rfl
  ·exact k2.row ht (λ k e e' => by simp [Value.ownBlock] at e;omega)
theorem Zaj.cells {base:Nat} {w:World} {a:Nat} {v0 v:Value} {st0:List (Nat × Nat)} {wr:World} {j n:Nat} {r:List (Nat × Nat)} (h:Zaj base w a v0 st0 wr v ((j,n) :: r)) :
  ∃ g cap,v=.slice (some ⟨g,0,none⟩) (r.length+1) cap∧g≠a∧wr.cell? ⟨a,0,none⟩=some v∧wr.frozen? ⟨a,0,none⟩=false∧wr.cell? ⟨g,r.length * 2,none⟩=some (.int .i64 (j:Int))∧wr.cell? ⟨g,r.length * 2+1,none⟩=some (.int .i64 (n:Int))∧wr.frozen? ⟨g,r.length * 2,none⟩=false∧g<wr.heap.size:=by
 obtain ⟨g,cap,hv,_,hlt⟩:=h.tr.row.form (by simp);subst hv;have hga:g≠a:=λ e=>h.tr.ap (by rw [e];rfl);have hrow:=h.tr.row;have hi:r.length<((j,n) :: r).reverse.length:=by simp
 obtain ⟨c1,c2⟩:=Zch hi;have e:((j,n) :: r).reverse[r.length]=(j,n):=by simp
 rw [e] at c1 c2;refine ⟨g,cap,rfl,hga,Zb h.tr.blk 0,Zd h.tr.blk 0,?_,?_,hrow.frozenAt _,hlt⟩
 ·rw [hrow.cellAt _ (by simp)];exact c1
 ·rw [hrow.cellAt _ (by simp;omega)];exact c2
theorem Zdi.same {base:Nat} {w w' w'' : World} {a:Nat} {v:Value} {st:List (Nat × Nat)} (h:Zdi base w a v st w') (k:Za w' w''):Zdi base w a v st w'' := by
 obtain ⟨v', h1,h2,h3⟩:=h;exact ⟨v', h1.same k,h2.trans k (λ _ _ f=>f.elim),h3⟩
theorem Zaj.same {base:Nat} {w:World} {a:Nat} {v0 v:Value} {st0 st:List (Nat × Nat)} {wr wr' : World} (h:Zaj base w a v0 st0 wr v st) (k:Za wr wr'):Zaj base w a v0 st0 wr' v st:=
 ⟨h.tr.same k,h.k.trans k (λ _ _ f=>f.elim),h.f,h.eq⟩
theorem Ztu {base:Nat} {w w1:World} {a n gg cap:Nat} {v:Value} {st:List (Nat × Nat)} (h:Ka base w a v st) (hb:base<=w.heap.size) (hn:0<n) (hn6:n<=6) (hl:st.length<2000)
  (hown:w1.ownsRow base 283 2 (.slice (some ⟨gg,0,none⟩) (st.length+1) cap) (st.length+1) (Zv st.reverse ++ [.int .i64 0,.int .i64 (n:Int)]))
  (hgrow:(w.alloc (.cells #[.int .i64 0,.int .i64 (n:Int)] 283)).grownBy w1 v.ownBlock) (hat:v.ownBlock=some gg∨gg=w.heap.size+1) :
  (w1.heap[a]? = some (.cells #[v] 251 (0,0)))∧Zdi base w a v (pass st n) (w1.setCell ⟨a,0,none⟩ (.slice (some ⟨gg,0,none⟩) (st.length+1) cap)):=by
 have la:=Zi h.blk;have k1:Zc (λ k=>v.ownBlock=some k) w w1:=Zc.grown (Zc.alloc (Zc.refl _ w) _) hgrow (λ _ e _=>e);have hb1:=k1.at h.blk h.ap
 have hga:gg≠a:=by
  rcases hat with e | e
  ·intro e'; exact h.ap (by rw [e,e'])
  ·omega
 have k2:Zc (Zcs a v) w (w1.setCell ⟨a,0,none⟩ (.slice (some ⟨gg,0,none⟩) (st.length+1) cap)):=(k1.mono (λ _ _ e=>.inr e)).setCell (p:=⟨a,0,none⟩) (λ _=>.inl rfl) _;have k3:Zc (λ k=>k=a) w1 (w1.setCell ⟨a,0,none⟩ (.slice (some ⟨gg,0,none⟩) (st.length+1) cap)):=Zc.setCell (S:=λ k=>k=a) (p:=⟨a,0,none⟩) (Zc.refl _ _) (λ _=>rfl) _;have e1:pass st n=(0,n) :: st:=by rw [pass,if_pos hn]
 refine ⟨hb1,.slice (some ⟨gg,0,none⟩) (st.length+1) cap,⟨?_,?_,by simpa [Value.ownBlock] using hga,Zo8 h.fine hn6,?_⟩,k2,?_⟩
 ·rw [Zs hb1];rfl
 ·rw [e1]
  have:Zv ((0,n) :: st).reverse=Zv st.reverse ++ [.int .i64 0,.int .i64 (n:Int)]:=by
   rw [List.reverse_cons,Vh];simp [Zv]
  rw [this];exact k3.row hown (λ k e e' => by simp [Value.ownBlock] at e;omega)
 ·rw [e1];simp;omega
 ·intro k hk
  rcases hk with e | e
  ·exact .inl (.inl e)
  ·simp [Value.ownBlock] at e
   subst e
   rcases hat with e | e
   ·exact .inl (.inr e)
   ·right;omega
theorem Zsg {base:Nat} {w:World} {a:Nat} {v:Value} {st:List (Nat × Nat)} (h:Ka base w a v st) (hb:base<=w.heap.size) (n:Nat) (hn6:n<=6) (hl:st.length<2000) :
  Calls Tryz.prog 160 #[.pointer (some ⟨a,0,none⟩),.int .i64 (n:Int)] w λ e w' => (∃ x,e=.returned x)∧Zdi base w a v (pass st n) w' := by
 obtain ⟨vo,vcap,rfl⟩:=Zf h.row;have c0:=Zb h.blk 0;have f0:=Zd h.blk 0;simp only [List.getElem?_toArray,List.getElem?_cons_zero] at c0
 by_cases hn:0<n
 ·obtain ⟨i0,hi0,hz0,hz1,hz2⟩:=info_parts Zrl
  have hn1:st.length+1<=maxLen:=by unfold maxLen;omega
  have hn2:(st.length+1) * 16<=140737488355328:=by omega
  have hb' : base<=(w.alloc (.cells #[.int .i64 0,.int .i64 (n:Int)] 283)).heap.size:=by simp;omega
  have hnn:(0:Int)<(n:Int):=by omega
  have PE:=λ gg cap w1 hown hgrow hat=>Ztu (gg:=gg) (cap:=cap) (w1:=w1) h hb hn hn6 hl hown hgrow hat
  go_enter Tryz.func160,Tryz.ntmps160
  go_wp2_with (first | (at_builtin;refine wpList_append_lies _ rfl _ _ 251 rfl base 283 i0 _ 2 16 Tryz.underlying251 hi0 hz0 hz1 hz2 rfl (by omega) (.slice vo st.length vcap) st.length (Zv st.reverse) rfl (h.row.alloc _) ⟨w.heap.size,0,none⟩ 1 1 [.int .i64 0,.int .i64 (n:Int)] rfl rfl (World.news_of_block (cs:=#[.int .i64 0,.int .i64 (n:Int)]) (t:=283) (fr:=(0,0)) (heap_alloc_new w _)) (by simp [Value.oneCell']) (by omega) hn1 hn2 hb' (w.heap.size+1) (by simp) ?_;intro gg cap w1 hown hgrow hat hlt;obtain ⟨b1,hP⟩:=PE gg cap w1 hown hgrow hat;have k0:=Zb b1 0;have k1:=Zd b1 0;simp only [List.getElem?_toArray,List.getElem?_cons_zero] at k0))
  go_returns
  exact ⟨⟨_,rfl⟩,hP⟩
 ·obtain rfl:n=0:=by omega
  have e0:Hid (pass st 0=Zah st):=by show _=_;simp [pass]
  have P0:Zaj base w a (.slice vo st.length vcap) st w (.slice vo st.length vcap) st:=⟨h,Zc.refl _ _,λ k hk=>hk,rfl⟩;clear h
  go_enter Tryz.func160,Tryz.ntmps160
  go_wp2
  go_loopw [4] (λ tp wr=>∃ v' st', tp=.int .i64 ((st'.length:Int)-1)∧Zaj base w a (.slice vo st.length vcap) st wr v' st') (λ tp _=>(intOf tp+1).toNat)
  case atStart=>exact ⟨_,st,rfl,P0⟩
  case round=>
   obtain ⟨v', st', rfl,hP⟩:=hrel;cases st' with
   | nil=>
    have e1:Zah st=[]:=by have:=hP.eq.out;rw [<- this];rfl
    have fin:Zdi base w a (.slice vo st.length vcap) (pass st 0) wr:=by
     rw [e0.out,e1];exact ⟨v', hP.tr,hP.k,λ k hk=>.inl (hP.f k hk)⟩
    clear hP e1;go_wp2
    go_returns
    exact ⟨⟨_,rfl⟩,fin⟩
   | cons x r=>
    obtain ⟨j,n⟩:=x;obtain ⟨g,cap,rfl,hga,q0,q1,q2,q3,q4,q5⟩:=hP.cells;have hjn:=hP.tr.fine (j,n) (by simp);have hrl:=hP.tr.len;obtain ⟨s1,s2⟩:=hP.step;have hl1:(((j,n) :: r).length:Int)-1=(r.length:Int):=by simp
    rw [hl1];have i1:(0:Int)<=(r.length:Int):=by omega
    have i2:(r.length:Int)<((r.length+1:Nat):Int):=by omega
    simp only at hjn;simp at hrl
    by_cases hj:j+1<n
    ·obtain ⟨t1,t2,t3⟩:=s1 hj
     have fin:Zdi base w a (.slice vo st.length vcap) (pass st 0) (wr.setCell ⟨g,r.length * 2,none⟩ (.int .i64 ((j:Int)+1))):=by
      rw [e0.out];exact ⟨_,t1,t2,λ k hk=>.inl (t3 k hk)⟩
     have hji:(j:Int)+1<(n:Int):=by omega
     clear s1 s2 hP t1 t2 t3;go_wp2;go_quiet (fail);go_wp2
     go_returns
     exact ⟨⟨_,rfl⟩,fin.same ((Zc.refl _ _).drewN nq)⟩
    ·have hP2:=s2 hj
     have hji:¬ (j:Int)+1<(n:Int):=by omega
     have i3:(r.length:Int)<=(cap:Int):=by
      rcases hP.tr.row.2 with ⟨e,_⟩ | ⟨_,_,_,hv,_,_,hle,_⟩
      ·cases e
      ·simp only [Value.slice.injEq] at hv
       have:=hv.2.2;simp at hle;omega
     clear s1 s2 hP;go_wp2;go_quiet (fail);go_wp2;have hP3:=hP2.same ((Zc.refl _ _).drewN nq);go_roundw
     case rel=>first | exact ⟨_,r,by go_num,hP3⟩ | ((repeat apply Exists.intro);exact ⟨⟨_,r,by go_num,hP3⟩,rfl⟩)
     case measure=>simp [intOf]
def Vz (ps:List (Nat × Nat)):List Int:=ps.flatMap (λ r=>[(r.1:Int),(r.2:Int)])
def Z8 (ps:List (Nat × Nat)):List Int:=Vz ps.reverse
theorem Zd8 (ps:List (Nat × Nat)):(Vz ps).length=2 * ps.length:=by
 induction ps with
 | nil=>rfl
 | cons r ps ih=>simp [Vz] at ih ⊢;omega
theorem Ko (a b:List (Nat × Nat)):Vz (a++b)=Vz a++Vz b:=by simp [Vz]
theorem Ky (ps:List (Nat × Nat)):(Z8 ps).length=2 * ps.length:=by rw [Z8,Zd8,List.length_reverse]
theorem Zkf (y x:Nat) (ps:List (Nat × Nat)):Z8 ((y,x) :: ps)=Z8 ps ++ [(y:Int),(x:Int)]:=by
 unfold Z8;rw [List.reverse_cons,Ko];rfl
theorem Zjx (a ps:List (Nat × Nat)):Z8 (a++ps)=Z8 ps++Vz a.reverse:=by
 unfold Z8;rw [List.reverse_append,Ko]
theorem Zsw {l m:List Nat} (h:l.length=m.length) {i:Nat} (hi:i<l.length):Vz ((l.zip m).take (i+1))=Vz ((l.zip m).take i) ++ [(l[i]:Int),(m[i]'(by omega):Int)]:=by
 rw [List.take_add_one,Zur h hi,Ko];rfl
def NAt (L:List Sym) (ap:Bool) (B:NB) (w:World) (T J:List Int) (ld:Int->Int):Prop:=∃ up rep cl ρ,NC L B w T J up rep∧NR ap J up rep cl ρ ld
theorem NAt.kept {L:List Sym} {ap:Bool} {S:Nat->Prop} {w w' : World} {B:NB} {T J:List Int} {ld:Int->Int} (h:NAt L ap B w T J ld) (hk:Zc S w w') (hs:∀ k,k<B.top->¬ S k):NAt L ap B w' T J ld:=by
 obtain ⟨up,rep,cl,ρ,h1,h2⟩:=h;exact ⟨up,rep,cl,ρ,h1.kept hk hs,h2⟩
structure NRel (L:List Sym) (ap:Bool) (B:NB) (T J:List Int) (res:Option (Int->Int)) (w0:World) (k:Nat) (wr:World) (v:Value) (ld:Int->Int) (ps:List (Nat × Nat)):Prop where
 u:NOk L J res k ld ps
 j:NAt L ap B wr T J ld
 row:Row w0.heap.size wr v (Z8 ps)
 kept:Zc B.Two w0 wr
def NEnd (L:List Sym) (ap:Bool) (B:NB) (T J:List Int) (res:Option (Int->Int)) (w:World) (e:Ending) (w' : World):Prop:=(∀ ld', res=some ld' -> e=.returned (.bool true)∧NAt L ap B w' T J ld')∧(res=none->e=.returned (.bool false))∧Zc B.Two w w'
theorem Zt7 {L:List Sym} {ap:Bool} {w:World} {B:NB} {T J:List Int} {up:Nat->Nat} {rep:Nat->Int} {cl ρ:Nat->Nat} {ld:Int->Int} (h:NC L B w T J up rep) (hr:NR ap J up rep cl ρ ld) {x y:Nat} (hx:x<J.length) (hy:y<J.length) (hne:cl x≠cl y) :
  (rep (cl x)<0->ld x<0)∧(¬ rep (cl x)<0->ld x=rep (cl x))∧(rep (cl y)<0->ld y<0)∧(¬ rep (cl y)<0->ld y=rep (cl y)) ∧
  (rep (cl y)<0->NAt L ap B ((w.setCell ⟨B.ub,cl x,none⟩ (.int .i64 (cl y:Int))).setCell ⟨B.rb,cl y,none⟩ (.int .i64 (rep (cl x)))) T J (if ld x<0 then un (ld x) (ld y) ld else un (ld y) (ld x) ld)) ∧
  (¬ rep (cl y)<0->NAt L ap B (w.setCell ⟨B.ub,cl x,none⟩ (.int .i64 (cl y:Int))) T J (un (ld x) (ld y) ld)) ∧
  Zc B.Two w (w.setCell ⟨B.ub,cl x,none⟩ (.int .i64 (cl y:Int)))∧Zc B.Two w ((w.setCell ⟨B.ub,cl x,none⟩ (.int .i64 (cl y:Int))).setCell ⟨B.rb,cl y,none⟩ (.int .i64 (rep (cl x)))):=by
 have vx:Y2 ap J.length x:=.inl hx;have vy:Y2 ap J.length y:=.inl hy;have lx:=hr.led x vx;have ly:=hr.led y vy;rw [V6 hx] at lx;rw [V6 hy] at ly;have rx:=hr.reps _ (hr.cnode x vx) (hr.idem x vx);have ry:=hr.reps _ (hr.cnode y vy) (hr.idem y vy)
 have x1:rep (cl x)<0->ld x<0:=λ f=>by
  rw [lx,if_pos f]
  rcases rx with ⟨_,a⟩ | ⟨p,a,_⟩
  ·exact Zdk a
  ·omega
 have y1:rep (cl y)<0->ld y<0:=λ f=>by
  rw [ly,if_pos f]
  rcases ry with ⟨_,a⟩ | ⟨p,a,_⟩
  ·exact Zdk a
  ·omega
 have x2:¬ rep (cl x)<0->ld x=rep (cl x):=λ f=>by rw [lx,if_neg f]
 have y2:¬ rep (cl y)<0->ld y=rep (cl y):=λ f=>by rw [ly,if_neg f]
 have k1:Zc B.Two w (w.setCell ⟨B.ub,cl x,none⟩ (.int .i64 (cl y:Int))):=Zc.setCell (S:=B.Two) (p:=⟨B.ub,cl x,none⟩) (Zc.refl _ _) (λ _=>.inl rfl) _;have k1' : Zc (λ k=>k=B.ub) w (w.setCell ⟨B.ub,cl x,none⟩ (.int .i64 (cl y:Int))):=Zc.setCell (S:=λ k=>k=B.ub) (p:=⟨B.ub,cl x,none⟩) (Zc.refl _ _) (λ _=>rfl) _;have k2:Zc B.Two w ((w.setCell ⟨B.ub,cl x,none⟩ (.int .i64 (cl y:Int))).setCell ⟨B.rb,cl y,none⟩ (.int .i64 (rep (cl x)))):=k1.setCell (p:=⟨B.rb,cl y,none⟩) (λ _=>.inr rfl) _;have k2' : Zc (λ k=>k=B.rb) (w.setCell ⟨B.ub,cl x,none⟩ (.int .i64 (cl y:Int))) ((w.setCell ⟨B.ub,cl x,none⟩ (.int .i64 (cl y:Int))).setCell ⟨B.rb,cl y,none⟩ (.int .i64 (rep (cl x)))):=Zc.setCell (S:=λ k=>k=B.rb) (p:=⟨B.rb,cl y,none⟩) (Zc.refl _ _) (λ _=>rfl) _;obtain ⟨cl', ρ', hj⟩:=hr.join (hr.cnode x vx) (hr.cnode y vy) (hr.idem x vx) (hr.idem y vy) hne;have u1:Jd (w.setCell ⟨B.ub,cl x,none⟩ (.int .i64 (cl y:Int))) B.ub (J.length+200) (λ i=>((if i=cl x then cl y else up i:Nat):Int)):=(h.ups.set (cl x) (cl y:Int)).congr (λ i _=>by by_cases e:i=cl x <;> simp [e]);have r1:=h.reps.kept k1' (λ e=>h.n4 e.symm);refine ⟨x1,x2,y1,y2,λ hg=>?_,λ hg=>?_,k1,k2⟩
 ·refine ⟨_,λ k=>if k=cl y then (if rep (cl y)<0 then rep (cl x) else rep (cl y)) else rep k,cl', ρ', h.two k2 (u1.kept k2' h.n4) ((r1.set (cl y) (rep (cl x))).congr (λ i _=>?_)),?_⟩
  ·simp only [if_pos hg]
  ·have ly' : ld y=ptN ap J.length (cl y):=by rw [ly,if_pos hg]
   have hE:(if ld x<0 then un (ld x) (ld y) ld else un (ld y) (ld x) ld)=(if rep (cl x)<0 then un (ptN ap J.length (cl x)) (if rep (cl y)<0 then ptN ap J.length (cl y) else rep (cl y)) ld else if rep (cl y)<0 then un (ptN ap J.length (cl y)) (rep (cl x)) ld else un (rep (cl x)) (rep (cl y)) ld):=by
    by_cases hf:rep (cl x)<0
    ·have lx' : ld x=ptN ap J.length (cl x):=by rw [lx,if_pos hf]
     rw [if_pos (x1 hf),if_pos hf,if_pos hg,lx', ly']
    ·have lx' := x2 hf
     have hn:¬ ld x<0:=by
      rcases rx with ⟨a,_⟩ | ⟨p,a,_⟩
      ·omega
      ·omega
     rw [if_neg hn,if_neg hf,if_pos hg,lx', ly']
   rw [hE];exact hj
 ·refine ⟨_,λ k=>if k=cl y then (if rep (cl y)<0 then rep (cl x) else rep (cl y)) else rep k,cl', ρ', h.two k1 u1 (r1.congr (λ i _=>?_)),?_⟩
  ·by_cases e:i=cl y
   ·simp only [e,if_true,if_neg hg]
   ·simp only [e,if_false]
  ·have ly' := y2 hg
   have hE:un (ld x) (ld y) ld=(if rep (cl x)<0 then un (ptN ap J.length (cl x)) (if rep (cl y)<0 then ptN ap J.length (cl y) else rep (cl y)) ld else if rep (cl y)<0 then un (ptN ap J.length (cl y)) (rep (cl x)) ld else un (rep (cl x)) (rep (cl y)) ld):=by
    by_cases hf:rep (cl x)<0
    ·have lx' : ld x=ptN ap J.length (cl x):=by rw [lx,if_pos hf]
     rw [if_pos hf,if_neg hg,lx', ly']
    ·have lx' := x2 hf
     rw [if_neg hf,if_neg hg,lx', ly']
   rw [hE];exact hj
theorem Zdz:(Tryz.prog.info? 3).map (λ i=>(i.zero,i.size,i.bytes))=some (some (.int .i64 0),1,8):=by kernel_rfl
theorem Zs6 {base:Nat} {w:World} {v:Value} {y x:Nat} {ps:List (Nat × Nat)} (h:Row base w v (Z8 ((y,x) :: ps))):∃ g cap,v=.slice (some ⟨g,0,none⟩) (2 * ps.length+2) cap∧base<=g∧g<w.heap.size∧2 * ps.length+2<=cap∧w.cell? ⟨g,2 * ps.length,none⟩=some (.int .i64 (y:Int))∧w.cell? ⟨g,2 * ps.length+1,none⟩=some (.int .i64 (x:Int))∧Row base w (.slice (some ⟨g,0,none⟩) (2 * ps.length) cap) (Z8 ps):=by
 have hl:(Z8 ((y,x) :: ps)).length=2 * ps.length+2:=by rw [Ky,List.length_cons];omega
 obtain ⟨g,cap,hv,hb,hlt⟩:=World.ownsRow.form h (by rw [hl];omega);rw [hl] at hv
 have hcap:2 * ps.length+2<=cap:=by
  rcases h.2 with ⟨e,_⟩ | ⟨g', cap', cur,hv', _,_,hle,_⟩
  ·rw [hv] at e;cases e
  ·rw [hv,hl] at hv'
   simp only [Value.slice.injEq] at hv';have:=hv'.2.2;rw [hl] at hle;omega
 subst hv
 have h' : w.ownsRow base 3 1 (.slice (some ⟨g,0,none⟩) (2 * ps.length+2) cap) (2 * ps.length+2) (iv (Z8 ps) ++ [.int .i64 (y:Int),.int .i64 (x:Int)]):=by
  have:iv (Z8 ps) ++ [Value.int .i64 (y:Int),.int .i64 (x:Int)]=iv (Z8 ((y,x) :: ps)):=by rw [Zkf,Vd];rfl
  have h0:w.ownsRow base 3 1 (.slice (some ⟨g,0,none⟩) (2 * ps.length+2) cap) (Z8 ((y,x) :: ps)).length (iv (Z8 ((y,x) :: ps))):=h;rw [hl] at h0;rw [this];exact h0
 have l2:(iv (Z8 ps)).length=2 * ps.length:=by rw [Vc,Ky]
 refine ⟨g,cap,rfl,hb,hlt,hcap,?_,?_,?_⟩
 ·rw [h'.cellAt _ (by omega),List.getElem?_append_right (by omega),l2];simp
 ·rw [h'.cellAt _ (by omega),List.getElem?_append_right (by omega),l2];simp
 ·have:=Zlr (m:=2 * ps.length) h' (by omega)
  rw [Nat.mul_one,List.take_left' l2] at this;show w.ownsRow base 3 1 _ (Z8 ps).length _;rw [Ky];exact this
theorem Zt1 (w:World) (x y:Nat):Row w.heap.size (w.alloc (.cells #[.int .i64 (x:Int),.int .i64 (y:Int)] 3)) (.slice (some ⟨w.heap.size,0,none⟩) 2 2) (Z8 [(x,y)]):=
 ⟨rfl,.inr ⟨w.heap.size,2,_,rfl,Nat.le_refl _,heap_alloc_new _ _,Nat.le_refl _,by decide,rfl,rfl⟩⟩
theorem Zja {L:List Sym} {w:World} {B:NB} {T J:List Int} {up:Nat->Nat} {rep:Nat->Int} (h:NC L B w T J up rep) {p:Nat} (hp:p<J.length) {k:Nat} (hk:k<(Zm L J p).length):∃ gb off gc,w.cell? ⟨B.ab,p,none⟩=some (.slice (some ⟨gb,off,none⟩) (Zm L J p).length gc)∧w.cell? ⟨gb,off+k,none⟩=some (.int .i64 ((Zm L J p)[k]:Nat))∧gb<B.top:=by
 obtain ⟨go,gc,a1,a2,a3⟩:=h.args p hp;obtain ⟨gb,off,rfl,b1,b2⟩:=a2.get (i:=k) (by simpa using hk);exact ⟨gb,off,gc,a1,by simpa using b2,(a3 _ rfl).2⟩
theorem net_up {L:List Sym} {w:World} {B:NB} {T J:List Int} {up:Nat->Nat} {rep:Nat->Int} (h:NC L B w T J up rep) (p q:Nat):NC L B (w.setCell ⟨B.ub,p,none⟩ (.int .i64 (q:Int))) T J (λ i=>if i=p then q else up i) rep:=by
 have k1:Zc B.Two w (w.setCell ⟨B.ub,p,none⟩ (.int .i64 (q:Int))):=Zc.setCell (S:=B.Two) (p:=⟨B.ub,p,none⟩) (Zc.refl _ _) (λ _=>.inl rfl) _;have k1' : Zc (λ k=>k=B.ub) w (w.setCell ⟨B.ub,p,none⟩ (.int .i64 (q:Int))):=Zc.setCell (S:=λ k=>k=B.ub) (p:=⟨B.ub,p,none⟩) (Zc.refl _ _) (λ _=>rfl) _;exact h.two k1 ((h.ups.set p (q:Int)).congr (λ i _=>by by_cases e:i=p <;> simp [e])) (h.reps.kept k1' (λ e=>h.n4 e.symm))
theorem Zqa {L:List Sym} {ap:Bool} {w:World} {B:NB} {T J:List Int} {ld:Int->Int} {res:Option (Int->Int)} (h:NAt L ap B w T J ld) {a m n:Nat} (hJ:J.length<=4000) (hT:∀ p:Nat,p<J.length->0<=at' J p->at' T p=at' J p) (htop:B.top<=w.heap.size) (hu:NOk L J res n ld [(a,m)]) :
  Calls Tryz.prog 177 #[.pointer (some ⟨B.nb,0,none⟩),.int .i64 (a:Int),.int .i64 (m:Int)] w (NEnd L ap B T J res w):=by
 obtain ⟨i0,hi0,hz0,hz1,hz2⟩:=info_parts Zdz
 have U0:NRel L ap B T J res w n (w.alloc (.cells #[.int .i64 (a:Int),.int .i64 (m:Int)] 3)) (.slice (some ⟨w.heap.size,0,none⟩) 2 2) ld [(a,m)]:=
  ⟨hu,h.kept (S:=λ _=>False) (Zc.alloc (Zc.refl _ w) _) (λ _ _ f=>f),Zt1 w a m,Zc.alloc (Zc.refl _ w) _⟩
 have htb:∀ k,w.heap.size<=k->¬ B.Two k:=by
  obtain ⟨up,rep,cl,ρ,hC,_⟩:=h;intro k hk f
  rcases f with e | e
  ·have:=hC.t4;omega
  ·have:=hC.t5;omega
 clear h hu
 go_enter Tryz.func177,Tryz.ntmps177
 go_wp2_with fail
 go_loopg [7] n (λ k s7 wr=>∃ ld ps,NRel L ap B T J res w k wr s7 ld ps)
 case atStart=>exact ⟨ld,_,U0⟩
 case round=>
  clear U0;obtain ⟨ld,ps,hU⟩:=hrel;cases ps with
  | nil=>
   obtain ⟨vo,vcap,hvv⟩:=Zf hU.row;have hl0:(Z8 []).length=0:=rfl;rw [hl0] at hvv;subst hvv;have e1:=hU.u.nil;have fin:NEnd L ap B T J res w (.returned (.bool true)) wr:=⟨λ ld' e=>⟨rfl,by rw [e1] at e;cases e;exact hU.j⟩,λ e=>(by rw [e1] at e;cases e),hU.kept⟩;clear hU e1
   go_wp2_with fail
   go_returns
   exact fin
  | cons r ps=>
   obtain ⟨y,x⟩:=r;obtain ⟨g,cap,rfl,hg1,hg2,hcap,q0,q1,hrow⟩:=Zs6 hU.row;obtain ⟨up,rep,cl,ρ,hC,hR⟩:=hU.j;obtain ⟨t2,t1⟩:=hU.u.pairs (y,x) (by simp);simp only at t1 t2;have vx:Y2 ap J.length x:=.inl t1;have vy:Y2 ap J.length y:=.inl t2;have cX:=Zdu hC hR vx;have cY:=Zdu hC hR vy;obtain ⟨k', hk', S1,S2,S3,S4,S5⟩:=hU.u.step
   have hpl:2 * ps.length<=40000000:=by
    have:=hU.u.len;rw [List.length_cons] at this;have h2:(J.length+1) * J.length<=4001 * 4000:=Nat.mul_le_mul (by omega) hJ;omega
   have hK:=hU.kept;obtain ⟨l,hl⟩:∃ l,2 * ps.length=l:=⟨_,rfl⟩;rw [hl] at q0 q1 hcap hpl hrow ⊢;have j0:(0:Int)<=(l:Int):=by omega
   have j1:(l:Int)+1<((l+2:Nat):Int):=by omega
   have j2:(l:Int)<((l+2:Nat):Int):=by omega
   have j3:(l:Int)<=(cap:Int):=by omega
   have j4:(l:Int)<=40000000:=by omega
   by_cases hne:cl x=cl y
   ·have hN:=S1 (by have:=(hR.eq vx vy).1 hne;rwa [V6 t1,V6 t2] at this)
    have hrow' : Row w.heap.size wr (.slice (some ⟨g,0,none⟩) l cap) (Z8 ps):=hrow;have hj:NAt L ap B wr T J ld:=⟨up,rep,cl,ρ,hC,hR⟩;rw [hne] at cX;clear S1 S2 S3 S4 S5 hC hR hrow hU
    go_upto_region 4 with (first | (go_at_call 185;refine cX.mono ?_;rintro e w' ⟨rfl,hw'⟩;obtain rfl:wr=w' := hw'.symm))
    go_wp2_with (first | (go_at_call 185;refine cY.mono ?_;rintro e w' ⟨rfl,hw'⟩;obtain rfl:wr=w' := hw'.symm))
    go_roundg k'
    case measure=>omega
    case rel=>exact ⟨ld,ps,hN,hj,hrow', hK⟩
   ·obtain ⟨x1,x2,y1,y2,NA,NBB,K1,K2⟩:=Zt7 hC hR t1 t2 hne
    have hxy:ld x≠ld y:=λ e=>hne ((hR.eq vx vy).2 (by rw [V6 t1,V6 t2];exact e));have N5:=net_up hC (cl x) (cl y);have lx:=Zsd (hR.cnode x vx);have ly:=Zsd (hR.cnode y vy);have rx:=hR.reps _ (hR.cnode x vx) (hR.idem x vx);have ry:=hR.reps _ (hR.cnode y vy) (hR.idem y vy);obtain ⟨c1,c2,c3,c4⟩:=hC.cells;have f1:=(hC.reps.cell lx).1;have f2:=(hC.reps.cell ly).1;obtain ⟨u1,u2⟩:=hC.ups.cell lx;obtain ⟨f,hf⟩:∃ f,rep (cl x)=f:=⟨_,rfl⟩;obtain ⟨h', hh⟩:∃ f,rep (cl y)=f:=⟨_,rfl⟩;have N5r:=N5.reps.cell ly;rw [hf] at x1 x2 NA f1 rx K2;rw [hh] at y1 y2 NA NBB f2 ry N5r;have lx' := hU.u.ok.sym x (Zn t1);have ly' := hU.u.ok.sym y (Zn t2);have part_x:=(hU.u.ok.part x (Zn t1)).2;have part_y:=(hU.u.ok.part y (Zn t2)).2;obtain ⟨P,hP⟩:∃ P,cl x=P:=⟨_,rfl⟩;obtain ⟨Q,hQ⟩:∃ Q,cl y=Q:=⟨_,rfl⟩;rw [hP] at cX NA NBB K1 K2 N5 f1 u1 u2 lx N5r;rw [hQ] at cY NA NBB K1 K2 N5 f2 ly N5r;have hPQ:¬ P=Q:=by rw [<- hP,<- hQ];exact hne
    have hPQi:¬ (P:Int)=(Q:Int):=by omega
    have j5:(0:Int)<=(P:Int):=by omega
    have j6:(P:Int)<((J.length+200:Nat):Int):=by omega
    have j7:(0:Int)<=(Q:Int):=by omega
    have j8:(Q:Int)<((J.length+200:Nat):Int):=by omega
    obtain ⟨e1,e2,e3,e4⟩:=N5.cells;have hrowS:∀ w6,Zc B.Two wr w6->Row w.heap.size w6 (.slice (some ⟨g,0,none⟩) l cap) (Z8 ps):=λ w6 hk=>hk.row hrow (λ k e=>by simp [Value.ownBlock] at e;subst e;exact htb g hg1);have HRS:Hid (∀ w6,Zc B.Two wr w6->Row w.heap.size w6 (.slice (some ⟨g,0,none⟩) l cap) (Z8 ps)):=hrowS;clear hrowS hrow S1 hC hR hf hh hP hQ hne vx vy N5
    go_upto_region 4 with (first | (go_at_call 185;refine cX.mono ?_;rintro e w' ⟨rfl,hw'⟩;obtain rfl:wr=w' := hw'.symm))
    go_upto_region 7 with (first | (go_at_call 185;refine cY.mono ?_;rintro e w' ⟨rfl,hw'⟩;obtain rfl:wr=w' := hw'.symm))
    go_upto_region 10 with fail
    clear cX cY q0 q1 f1 f2 c1 c2 c3 c4 u1 u2;obtain ⟨w5,hw5⟩:∃ w5,wr.setCell ⟨B.ub,P,none⟩ (.int .i64 (Q:Int))=w5:=⟨_,rfl⟩;rw [hw5] at NA NBB K1 K2 e1 e2 e3 e4 N5r ⊢;obtain ⟨n5a,n5b⟩:=N5r
    by_cases hg:h' < 0
    ·have hN:=NA hg
     have hRw:=HRS.out _ K2;have hK6:=hK.trans K2 (λ _ _ f=>f)
     by_cases hf:f<0
     ·have hlx:=x1 hf
      rw [if_pos hlx] at hN;have hNO:=S2 hxy hlx;clear S2 S3 S4 S5 NA NBB HRS
      go_wp2_with fail
      go_roundg k'
      case measure=>omega
      case rel=>exact ⟨_,ps,hNO,hN,hRw,hK6⟩
     ·have hlx:¬ ld x<0:=by rw [x2 (by omega)];exact hf
      rw [if_neg hlx] at hN;have hNO:=S3 hxy (by omega) (y1 hg);clear S2 S3 S4 S5 NA NBB HRS
      go_wp2_with fail
      go_roundg k'
      case measure=>omega
      case rel=>exact ⟨_,ps,hNO,hN,hRw,hK6⟩
    ·have hN:=NBB (by omega)
     have hRw:=HRS.out _ K1;have hK6:=hK.trans K1 (λ _ _ f=>f)
     by_cases hf:f<0
     ·have hlx:=x1 hf
      have hNO:=S2 hxy hlx;clear S2 S3 S4 S5 NA NBB HRS
      go_wp2_with fail
      go_roundg k'
      case measure=>omega
      case rel=>exact ⟨_,ps,hNO,hN,hRw,hK6⟩
     ·have ex:=x2 (by omega)
      have ey:=y2 (by omega);obtain ⟨fn,rfl⟩:∃ fn:Nat,f=(fn:Int):=⟨f.toNat,by omega⟩;obtain ⟨gn,rfl⟩:∃ gn:Nat,h' = (gn:Int):=⟨h'.toNat,by omega⟩;have hfl:fn<J.length:=by rw [ex] at part_x;omega
      have hgl:gn<J.length:=by rw [ey] at part_y;omega
      rw [ex] at lx' S4 S5 hxy hN;rw [ey] at ly' S4 S5 hxy hN;have sx:=lx' (by omega);have sy:=ly' (by omega);obtain ⟨up6,rep6,cl6,ρ6,hC6,hR6⟩:=id hN;have tf:=(hC6.nums.cell hfl).1;have tg:=(hC6.nums.cell hgl).1;rw [hT fn hfl sx] at tf;rw [hT gn hgl sy] at tg;have j9:(0:Int)<=(fn:Int):=by omega
      have j10:(fn:Int)<(J.length:Int):=by omega
      have j11:(0:Int)<=(gn:Int):=by omega
      have j12:(gn:Int)<(J.length:Int):=by omega
      by_cases h4:at' J (fn:Int)=at' J (gn:Int)
      ·have hNO:=S5 hxy (by omega) (by omega) h4
       rw [Int.toNat_natCast,Int.toNat_natCast] at hNO;have h4' : (at' J (fn:Int) == at' J (gn:Int))=true:=by simpa using h4
       clear S2 S3 S4 S5 NA NBB HRS K1 K2 hC6 hR6
       go_upto_region 13 with fail
       go_quiet (fail);have hN7:NAt L ap B (w5.drewN nq) T J (un (fn:Int) (gn:Int) ld):=hN.kept (S:=λ _=>False) ((Zc.refl _ w5).drewN nq) (λ _ _ f=>f);have hR7:Row w.heap.size (w5.drewN nq) (.slice (some ⟨g,0,none⟩) l cap) (Z8 ps):=Zc.row (S:=λ _=>False) ((Zc.refl _ w5).drewN nq) hRw (λ _ _ f=>f);have hK7:=hK6.drewN nq;obtain ⟨w7,hw7⟩:∃ w7,w5.drewN nq=w7:=⟨_,rfl⟩;rw [hw7] at hN7 hR7 hK7 ⊢;have hA:(Zm L J fn).length=(Zm L J gn).length:=by rw [show (Zm L J fn).length=_ from Zl _ _ _ _,show (Zm L J gn).length=_ from Zl _ _ _ _,h4]
       have hAl:(Zm L J fn).length<=4000:=by
        have h1:=Ji (Yh hNO.trs hfl);have h2:=(hNO.trs.lt hfl).2;rw [show (Zm L J fn).length=_ from Zl _ _ _ _];omega
       have HNO:Hid (NOk L J res k' (un (fn:Int) (gn:Int) ld) (Yx L J fn gn++ps)):=hNO;have HEND:Hid (Z8 (Yx L J fn gn++ps)=Z8 ps++Vz ((Zm L J fn).zip (Zm L J gn))):=by rw [Zjx];unfold Yx;rw [List.reverse_reverse];rfl
       have hpsl:(Z8 ps).length=l:=by rw [Ky];exact hl
       clear hw7 hN hRw hK6 tf tg h4' e1 e2 e3 e4 n5a n5b hNO hU
       go_wp2_with fail
       go_loopw [7,12] (λ s7 s12 wx=>∃ k:Nat,s12=.int .i64 (k:Int)∧k<=(Zm L J fn).length∧Row w.heap.size wx s7 (Z8 ps++Vz (((Zm L J fn).zip (Zm L J gn)).take k))∧NAt L ap B wx T J (un (fn:Int) (gn:Int) ld)∧Zc B.Two w wx) (λ _ s12 _=>(Zm L J fn).length-(intOf s12).toNat)
       case atStart=>exact ⟨0,rfl,Nat.zero_le _,by simpa [Vz] using hR7,hN7,hK7⟩
       case round=>
        clear hN7 hR7 hK7;obtain ⟨k,rfl,hk,hR7,hN7,hK7⟩:=hrel;obtain ⟨up7,rep7,cl7,ρ7,hC7,hR8⟩:=id hN7;obtain ⟨e1,e2,e3,e4⟩:=hC7.cells;obtain ⟨vo,vc,hvv⟩:=Zf hR7;have hzl:(((Zm L J fn).zip (Zm L J gn)).take k).length=k:=by rw [List.length_take,Zdn _ _ hA];omega
        have hlen7:(Z8 ps++Vz (((Zm L J fn).zip (Zm L J gn)).take k)).length=l+2 * k:=by rw [List.length_append,Zd8,hzl,hpsl]
        rw [hlen7] at hvv;subst hvv
        by_cases hkl:k<(Zm L J fn).length
        ·obtain ⟨gb,go,gc,a1,a2,a3⟩:=Zja hC7 hfl hkl
         obtain ⟨hb', ho,hc', b1,b2,b3⟩:=Zja hC7 hgl (k:=k) (by omega);have z1:(0:Int)<=(k:Int):=by omega
         have z2:(k:Int)<((Zm L J fn).length:Int):=by omega
         have z3:(k:Int)<((Zm L J gn).length:Int):=by omega
         have z4:(k:Int)<4000:=by omega
         obtain ⟨A1,hA1⟩:∃ A1,(((Zm L J fn)[k]:Nat):Int)=A1:=⟨_,rfl⟩;obtain ⟨A2,hA2⟩:∃ A2,(((Zm L J gn)[k]'(by omega):Nat):Int)=A2:=⟨_,rfl⟩;rw [hA1] at a2;rw [hA2] at b2
         have hrow7:wr.ownsRow w.heap.size 3 1 (.slice vo (l+2 * k) vc) (l+2 * k) (iv (Z8 ps++Vz (((Zm L J fn).zip (Zm L J gn)).take k))):=by
          have h0:wr.ownsRow w.heap.size 3 1 (.slice vo (l+2 * k) vc) (Z8 ps++Vz (((Zm L J fn).zip (Zm L J gn)).take k)).length (iv (Z8 ps++Vz (((Zm L J fn).zip (Zm L J gn)).take k))):=hR7;rw [hlen7] at h0;exact h0
         have PE:Hid (∀ gg cap' w9,w9.ownsRow w.heap.size 3 1 (.slice (some ⟨gg,0,none⟩) (l+2 * k+2) cap') (l+2 * k+2) (iv (Z8 ps++Vz (((Zm L J fn).zip (Zm L J gn)).take k)) ++ [.int .i64 A1,.int .i64 A2])->(wr.alloc (.cells #[.int .i64 A1,.int .i64 A2] 3)).drew.grownBy w9 (Value.slice vo (l+2 * k) vc).ownBlock->Row w.heap.size w9 (.slice (some ⟨gg,0,none⟩) (l+2 * k+2) cap') (Z8 ps++Vz (((Zm L J fn).zip (Zm L J gn)).take (k+1)))∧NAt L ap B w9 T J (un (fn:Int) (gn:Int) ld)∧Zc B.Two w w9):=by
          intro gg cap' w9 hown hgrow;have own:∀ q,(Value.slice vo (l+2 * k) vc).ownBlock=some q->w.heap.size<=q:=λ q e=>(World.ownsRow.lt hrow7 q e).1;have kg:Zc (λ q=>(Value.slice vo (l+2 * k) vc).ownBlock=some q) wr w9:=Zc.grown (Zc.drew (Zc.alloc (Zc.refl _ wr) _)) hgrow (λ q e _=>e);refine ⟨?_,hN7.kept kg (λ q hq e=>by have:=own q e;omega),hK7.trans kg (λ q hq e=>by have:=own q e;omega)⟩
          have el:(Z8 ps++Vz (((Zm L J fn).zip (Zm L J gn)).take (k+1))).length=l+2 * k+2:=by
           rw [List.length_append,Zd8,List.length_take,Zdn _ _ hA,hpsl];omega
          show w9.ownsRow w.heap.size 3 1 _ (Z8 ps++Vz (((Zm L J fn).zip (Zm L J gn)).take (k+1))).length _;rw [el,Zsw hA hkl,<- List.append_assoc,Vd,hA1,hA2];exact hown
         have hb9:w.heap.size<=(wr.alloc (.cells #[.int .i64 A1,.int .i64 A2] 3)).drew.heap.size:=by
          have:=hK7.size;show w.heap.size<=(wr.alloc (.cells #[.int .i64 A1,.int .i64 A2] 3)).heap.size;rw [World.size_alloc];omega
         have hn1:l+2 * k+2<=maxLen:=by unfold maxLen;omega
         have hn2:(l+2 * k+2) * 8<=140737488355328:=by omega
         clear hC7 hR8 hN7 hR7 hK7 hzl hlen7 hA1 hA2 HNO HEND
         go_upto_region 18 with fail
         go_region_law (refine step_append_lies _ (by rfl) _ _ 32 (by rfl) w.heap.size 3 i0 _ 1 8 Tryz.underlying32 hi0 hz0 hz1 hz2 rfl (by omega) (.slice vo (l+2 * k) vc) (l+2 * k) (iv (Z8 ps++Vz (((Zm L J fn).zip (Zm L J gn)).take k))) (by rfl) ((hrow7.alloc _).drew) ⟨wr.heap.size,0,none⟩ 2 2 [.int .i64 A1,.int .i64 A2] (by rfl) (by rfl) (World.news_of_block (cs:=#[.int .i64 A1,.int .i64 A2]) (t:=3) (fr:=(0,0)) (heap_alloc_new wr _)) (by simp [Value.oneCell']) (by omega) hn1 hn2 hb9 _ rfl ?_;intro gg cap' w9 hown hgrow hat hlt;obtain ⟨p1,p2,p3⟩:=PE.out gg cap' w9 hown hgrow)
         all_goals
          go_wp2_with fail
          go_roundw
          case rel=>exact ⟨k+1,by go_num,by omega,p1,p2,p3⟩
          case measure=>simp [intOf];omega
        ·have hke:k=(Zm L J fn).length:=by omega
         have z2:¬ (k:Int)<((Zm L J fn).length:Int):=by omega
         have hfin:Row w.heap.size wr (.slice vo (l+2 * k) vc) (Z8 (Yx L J fn gn++ps)):=by
          rw [HEND.out];have e:((Zm L J fn).zip (Zm L J gn)).take k=(Zm L J fn).zip (Zm L J gn):=List.take_of_length_le (by rw [Zdn _ _ hA];omega);rw [e] at hR7;exact hR7
         have hNOx:=HNO.out;obtain ⟨go,gc,a1,a2,a3⟩:=hC7.args fn hfl;have HFIN:Hid (NRel L ap B T J res w k' wr (.slice vo (l+2 * k) vc) (un (fn:Int) (gn:Int) ld) (Yx L J fn gn++ps)):=⟨hNOx,hN7,hfin,hK7⟩;clear hC7 hR8 hN7 hR7 hK7 hzl hlen7 hke HNO HEND hfin hNOx
         go_wp2_with fail
         go_roundg k'
         case measure=>omega
         case rel=>exact ⟨_,_,HFIN.out⟩
      ·have hres:=S4 hxy (by omega) (by omega) h4
       have fin:Hid (∀ n,NEnd L ap B T J res w (.returned (.bool false)) (w5.drewN n)):=λ n=>⟨λ ld' e=>(by rw [hres] at e;cases e),λ _=>rfl,hK6.drewN n⟩;clear S2 S3 S4 S5 NA NBB HRS hN hC6 hR6 hres
       go_upto_region 13 with fail
       go_quiet (fail)
       go_wp2_with fail
       go_returns
       exact fin.out _
end
end Go.Proofs.YtjahpnbijefncaaGreat
