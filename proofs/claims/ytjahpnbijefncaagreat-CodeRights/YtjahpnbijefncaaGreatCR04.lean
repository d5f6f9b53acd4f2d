import Derived.Test.YtjahpnbijefncaaGreatCR03
import Derived.Laws.CopyOwn
import Derived.Test.YtjahpnbijefncaaGreatCR02
namespace Go.Proofs.YtjahpnbijefncaaGreat
set_option linter.unusedVariables false
theorem need_subV {L:List Sym} {f:Int→List Int}:∀ (u:List Int),(∀ n∈u,n<0→IsT L (f n))→∀ k,need L k (subV f u)=need L k u
 | [],_,k=>rfl
 | n :: r,h,k=>by
  have ih:=need_subV r (fun m hm=>h m (by simp [hm]))
  rw [subV_cons]
  by_cases hn:n<0
  ·rw [if_pos hn,need_append]
   have hT:=h n (by simp) hn
   cases k with
   | zero=>
    have:=isT_pos hT
    cases hd:f n with
    | nil=>rw [hd] at this;simp at this
    | cons x y=>simp [need]
   | succ k=>
    have:=need_add hT k
    rw [Nat.add_comm 1 k,Nat.zero_add] at this
    rw [this,Option.bind_some,need,show arN L n=0 by unfold arN;rw [if_pos hn],Nat.add_zero]
    exact ih k
  ·rw [if_neg hn]
   cases k with
   | zero=>rfl
   | succ k=>simp only [List.cons_append,List.nil_append,need];exact ih _
theorem subV_len {L:List Sym} {f:Int→List Int}:∀ (u:List Int),(∀ n∈u,n<0→IsT L (f n))→u.length≤(subV f u).length
 | [],_=>Nat.le_refl _
 | n :: r,h=>by
  have ih:=subV_len r (fun m hm=>h m (by simp [hm]))
  rw [subV_cons,List.length_append,List.length_cons]
  by_cases hn:n<0
  ·rw [if_pos hn];have:=isT_pos (h n (by simp) hn);omega
  ·rw [if_neg hn];simp;omega
theorem subV_congr {f g:Int→List Int}:∀ (u:List Int),(∀ n∈u,n<0→f n=g n)→subV f u=subV g u
 | [],_=>rfl
 | n :: r,h=>by
  rw [subV_cons,subV_cons,subV_congr r (fun m hm=>h m (by simp [hm]))]
  by_cases hn:n<0
  ·rw [if_pos hn,if_pos hn,h n (by simp) hn]
  ·rw [if_neg hn,if_neg hn]
theorem args_isT {L:List Sym} {J:List Int} {ld:Int→Int} {d:Nat} (ih:∀ (x:Int) (u:List Int),UPart J x→tmF L J ld d x=some u→IsT L u):∀ (l:List Nat) (u:List Int),(∀ x∈l,x<J.length)→argsT (tmF L J ld d) l=some u→need L l.length u=some 0
 | [],u,_,e=>by simp only [argsT,Option.some.injEq] at e;subst e;rfl
 | x :: r,u,hl,e=>by
  unfold argsT at e
  cases h1:tmF L J ld d (x:Int) with
  | none=>simp [h1] at e
  | some a=>
   cases h2:argsT (tmF L J ld d) r with
   | none=>simp [h1,h2] at e
   | some b=>
    simp only [h1,h2,Option.some.injEq] at e
    subst e
    have g1:=ih x a (part_nat (hl x (by simp))) h1
    have g2:=args_isT ih r b (fun y hy=>hl y (by simp [hy])) h2
    have:=need_add g1 r.length
    rw [Nat.add_comm 1,Nat.zero_add] at this
    rw [List.length_cons,need_append,this,Option.bind_some,g2]
theorem tm_isT {L:List Sym} {J:List Int} {ld:Int→Int} (hT:Trs L J) (hl:LdOk J ld):∀ (d:Nat) (x:Int) (u:List Int),UPart J x→tmF L J ld d x=some u→IsT L u:=by
 intro d
 induction d with
 | zero=>intro x u _ h;simp [tmF] at h
 | succ d ih=>
  intro x u hx h
  rw [tmF] at h
  by_cases h1:ld x<0
  ·rw [if_pos h1] at h
   simp only [Option.some.injEq] at h
   subst h
   exact isT_var L h1
  ·rw [if_neg h1] at h
   have hp:(ld x).toNat<J.length:=by have:=(hl.part x hx).2;omega
   cases h2:argsT (tmF L J ld d) (kidsL L J (ld x).toNat) with
   | none=>simp [h2] at h
   | some v=>
    simp only [h2,Option.some.injEq] at h
    subst h
    have:=args_isT ih _ _ (kids_lt hT hp) h2
    have e:(kidsL L J (ld x).toNat).length=arN L (at' J (ld x)):=by
     rw [show (kidsL L J (ld x).toNat).length=arN L (at' J ((ld x).toNat:Nat)) from starts_length _ _ _ _,show (((ld x).toNat:Nat):Int)=ld x by omega]
    rw [e] at this
    unfold IsT
    show need L (0+1) _=some 0
    rw [need,Nat.zero_add];exact this
theorem Val.isT {L:List Sym} {J:List Int} {ld:Int→Int} (hT:Trs L J) (hl:LdOk J ld) {x:Int} {u:List Int} (hx:UPart J x) (h:Val L J ld x u):IsT L u:=by
 obtain ⟨d,hd⟩:=h
 exact tm_isT hT hl d x u hx hd
theorem args_in {L:List Sym} {J:List Int} {ld:Int→Int} {d:Nat} {R:Int→Prop} (ih:∀ (x:Int) (u:List Int),UPart J x→tmF L J ld d x=some u→∀ n∈u,R n):∀ (l:List Nat) (u:List Int),(∀ x∈l,x<J.length)→argsT (tmF L J ld d) l=some u→∀ n∈u,R n
 | [],u,_,e=>by simp only [argsT,Option.some.injEq] at e;subst e;simp
 | x :: r,u,hl,e=>by
  unfold argsT at e
  cases h1:tmF L J ld d (x:Int) with
  | none=>simp [h1] at e
  | some a=>
   cases h2:argsT (tmF L J ld d) r with
   | none=>simp [h1,h2] at e
   | some b=>
    simp only [h1,h2,Option.some.injEq] at e
    subst e
    intro n hn
    rcases List.mem_append.1 hn with q | q
    ·exact ih x a (part_nat (hl x (by simp))) h1 n q
    ·exact args_in ih r b (fun y hy=>hl y (by simp [hy])) h2 n q
theorem tm_in {L:List Sym} {J:List Int} {ld:Int→Int} (hT:Trs L J) (hl:LdOk J ld):∀ (d:Nat) (x:Int) (u:List Int),UPart J x→tmF L J ld d x=some u→∀ n∈u,(n<0∧UPart J n)∨(0≤n∧n∈J):=by
 intro d
 induction d with
 | zero=>intro x u _ h;simp [tmF] at h
 | succ d ih=>
  intro x u hx h
  rw [tmF] at h
  by_cases h1:ld x<0
  ·rw [if_pos h1] at h
   simp only [Option.some.injEq] at h
   subst h
   intro n hn
   simp only [List.mem_cons,List.not_mem_nil,or_false] at hn
   subst hn
   exact .inl ⟨h1,hl.part x hx⟩
  ·rw [if_neg h1] at h
   have hp:(ld x).toNat<J.length:=by have:=(hl.part x hx).2;omega
   cases h2:argsT (tmF L J ld d) (kidsL L J (ld x).toNat) with
   | none=>simp [h2] at h
   | some v=>
    simp only [h2,Option.some.injEq] at h
    subst h
    intro n hn
    rcases List.mem_cons.1 hn with q | q
    ·right
     have hs:=hl.sym x hx (by omega)
     refine ⟨by omega,?_⟩
     have:at' J (ld x)=J[(ld x).toNat]:=by
      have:=at'_nat J (ld x).toNat hp
      rwa [show (((ld x).toNat:Nat):Int)=ld x by omega] at this
     rw [q,this];exact List.getElem_mem _
    ·exact args_in ih _ _ (kids_lt hT hp) h2 n q
theorem Val.in {L:List Sym} {J:List Int} {ld:Int→Int} (hT:Trs L J) (hl:LdOk J ld) {x:Int} {u:List Int} (hx:UPart J x) (h:Val L J ld x u):∀ n∈u,(n<0∧UPart J n)∨(0≤n∧n∈J):=by
 obtain ⟨d,hd⟩:=h
 exact tm_in hT hl d x u hx hd
theorem vals_same {L:List Sym} {J:List Int} {ld:Int→Int}:∀ (l m:List Nat) (u:List Int),l.length=m.length→(∀ i (h:i<l.length) (h' : i<m.length),ld (l[i]:Nat)=ld (m[i]:Nat))→Vals L J ld l u→Vals L J ld m u
 | [],[],u,_,_,hv=>hv
 | [],y :: m,u,hl,_,_=>by simp at hl
 | x :: l,[],u,hl,_,_=>by simp at hl
 | x :: l,y :: m,u,hl,h,hv=>by
  obtain ⟨a,b,h1,h2,rfl⟩:=vals_split hv
  have e0:=h 0 (by simp) (by simp)
  exact vals_cons (val_ld e0 h1) (vals_same l m b (by simpa using hl) (fun i p q=>by have:=h (i+1) (by simpa using p) (by simpa using q);simpa using this) h2)
theorem Closed.own {L:List Sym} {J:List Int} {m:Nat} {ld:Int→Int} (hc:Closed L J m ld) {P:Nat} (hP:P<J.length) (hs:0≤at' J P) {u:List Int} (h:Val L J ld P u):∃ us,u=at' J P :: us∧Vals L J ld (kidsL L J P) us:=by
 obtain ⟨g1,g2⟩:=hc.ok.like P (part_nat hP) (by omega) hs
 obtain ⟨v,h1,h2⟩:=val_sym' (by omega) h
 refine ⟨v,by rw [h1,g2],vals_same _ _ v ?_ ?_ h2⟩
 ·have c1:(((ld P).toNat:Nat):Int)=ld P:=by omega
  rw [show (kidsL L J (ld P).toNat).length=_ from starts_length _ _ _ _,show (kidsL L J P).length=_ from starts_length _ _ _ _,c1,g2]
 ·intro i p q
  have c1:(((ld P).toNat:Nat):Int)=ld P:=by omega
  have hi:i<arN L (at' J P):=by
   rw [show (kidsL L J P).length=arN L (at' J P) from starts_length _ _ _ _] at q
   exact q
  have k1:=kids_at (L:=L) (J:=J) (p:=(ld P).toNat) (i:=i) (by rw [c1,g2];exact hi)
  have k2:=kids_at (L:=L) (J:=J) (p:=P) (i:=i) hi
  rw [List.getElem?_eq_getElem p,Option.some.injEq] at k1
  rw [List.getElem?_eq_getElem q,Option.some.injEq] at k2
  rw [k1,k2]
  exact (hc.args P hP hs i hi).symm
structure VarT (L:List Sym) (J:List Int) (ld:Int→Int) (f:Int→List Int):Prop where
 val:∀ n u,Val L J ld n u→f n=u
 none:∀ n,(¬ ∃ u,Val L J ld n u)→f n=[n]
theorem varT_some (L:List Sym) (J:List Int) (ld:Int→Int):∃ f,VarT L J ld f:=by
 have each:∀ n:Int,∃ y:List Int,(∀ u,Val L J ld n u→y=u)∧((¬ ∃ u,Val L J ld n u)→y=[n]):=by
  intro n
  by_cases h:∃ u,Val L J ld n u
  ·obtain ⟨u,hu⟩:=h
   exact ⟨u,fun v hv=>hu.uniq hv,fun f=>absurd ⟨u,hu⟩ f⟩
  ·exact ⟨[n],fun v hv=>absurd ⟨v,hv⟩ h,fun _=>rfl⟩
 obtain ⟨f,hf⟩:=Classical.axiomOfChoice each
 exact ⟨f,fun n=>(hf n).1,fun n=>(hf n).2⟩
theorem VarT.isT {L:List Sym} {J:List Int} {ld:Int→Int} {f:Int→List Int} (h:VarT L J ld f) (hT:Trs L J) (hl:LdOk J ld) {n:Int} (hn:n<0) (hp:UPart J n):IsT L (f n):=by
 by_cases e:∃ u,Val L J ld n u
 ·obtain ⟨u,hu⟩:=e
  rw [h.val n u hu]
  exact hu.isT hT hl hp
 ·rw [h.none n e];exact isT_var L hn
theorem forest_sub {L:List Sym} {J:List Int} {m:Nat} {ld:Int→Int} (hc:Closed L J m ld) {f:Int→List Int} (hv0:VarT L J ld f):∀ (n k p q:Nat) (u:List Int),q-p≤n→Forest L J k p q→Vals L J ld (starts L J k p) u→u=subV f ((J.drop p).take (q-p)):=by
 intro n
 induction n with
 | zero=>
  intro k p q u hn hf hv
  cases k with
  | zero=>
   have:=hf.zero
   subst this
   obtain ⟨d,hd⟩:=hv
   simp only [starts,argsT,Option.some.injEq] at hd
   subst hd
   simp [subV]
  | succ k=>have:=hf.pos;omega
 | succ n ih=>
  intro k p q u hn hf hv
  cases k with
  | zero=>
   have:=hf.zero
   subst this
   obtain ⟨d,hd⟩:=hv
   simp only [starts,argsT,Option.some.injEq] at hd
   subst hd
   simp [subV]
  | succ k=>
   obtain ⟨h1,h2,h3⟩:=hf.succ
   have h4:=h3.le
   have hpl:p<J.length:=by have:=h1.le;omega
   rw [starts] at hv
   obtain ⟨a,b,v1,v2,rfl⟩:=vals_split hv
   have e2:=ih k (endN L J p) q b (by omega) h3 v2
   have e1:a=subV f ((J.drop p).take (endN L J p-p)):=by
    have hcut:(J.drop p).take (endN L J p-p)=at' J p :: (J.drop (p+1)).take (endN L J p-(p+1)):=by
     rw [List.drop_eq_getElem_cons hpl,show endN L J p-p=(endN L J p-(p+1))+1 by omega,List.take_succ_cons,at'_nat J p hpl]
    rw [hcut,subV_cons]
    by_cases hs:0≤at' J p
    ·obtain ⟨us,r1,r2⟩:=hc.own hpl hs v1
     have hk:=kids_forest hc.trs hpl
     rw [r1,if_neg (by omega),ih _ _ _ us (by omega) hk r2];rfl
    ·have hk:=kids_forest hc.trs hpl
     rw [show arN L (at' J p)=0 by unfold arN;rw [if_pos (by omega)]] at hk
     have:=hk.zero
     rw [if_pos (by omega),this,show p+1-(p+1)=0 by omega,List.take_zero]
     have hv' := val_ld (hc.var p hpl (by omega)) v1
     rw [hv0.val _ _ hv'];simp [subV]
   rw [e1,e2,← subV_append]
   congr 1
   rw [show q-p=(endN L J p-p)+(q-endN L J p) by omega,List.take_add,List.drop_drop,show p+(endN L J p-p)=endN L J p by omega]
theorem end_first {L:List Sym} {a b:List Int} (ha:IsT L a):endN L (a++b) 0=a.length:=by
 have s1:=scan_more (need_scan (b:=[]) ha) b
 rw [List.append_nil] at s1
 rw [endN_of (n:=a.length) (by simpa using s1)];omega
theorem end_second {L:List Sym} {a b:List Int} (hb:IsT L b):endN L (a++b) a.length=a.length+b.length:=by
 have s1:=need_scan (b:=[]) hb
 rw [List.append_nil] at s1
 exact endN_of (n:=b.length) (by simpa using s1)
theorem both_sub {L:List Sym} {a b:List Int} {ap:Int} (h0:0≤ap) (ha:IsT L a) (hb:IsT L b) {ld:Int→Int} (hc:Closed L (jl a b ap) a.length ld) {f:Int→List Int} (hf:VarT L (jl a b ap) ld f) {u:List Int} (hu:Val L (jl a b ap) ld 0 u):u=subV f a∧u=subV f (b.map (shF ap)):=by
 have hp:=isT_pos ha
 have hq:=isT_pos hb
 have hl:(jl a b ap).length=a.length+b.length:=by simp [jl]
 have hb' := isT_sh h0 hb
 have hm:Val L (jl a b ap) ld (a.length:Nat) u:=val_ld hc.both hu
 have e1:endN L (jl a b ap) 0=a.length:=end_first (b:=b.map (shF ap)) ha
 have e2:endN L (jl a b ap) a.length=a.length+(b.map (shF ap)).length:=end_second (a:=a) hb'
 constructor
 ·have:=forest_sub hc hf _ 1 0 _ u (Nat.le_refl _) (hc.trs 0 (by omega)) (by
   have:=vals_cons hu (vals_nil L (jl a b ap) ld)
   rw [List.append_nil] at this
   exact this)
  rw [e1] at this
  rw [this]
  unfold jl
  rw [List.drop_zero,Nat.sub_zero,List.take_left]
 ·have:=forest_sub hc hf _ 1 a.length _ u (Nat.le_refl _) (hc.trs a.length (by omega)) (by
   have:=vals_cons hm (vals_nil L (jl a b ap) ld)
   rw [List.append_nil] at this
   exact this)
  rw [e2] at this
  rw [this]
  unfold jl
  rw [List.drop_left,Nat.add_sub_cancel_left,List.take_length]
abbrev Tb:=Nat→List Int
def updT (σ:Tb) (v:Nat) (u:List Int):Tb:=fun x=>if x=v then u else σ x
def noT:Tb:=fun _=>[]
def headT (L:List Sym) (ts:List Int):List Int:=ts.take ((scan L 1 ts).getD 0)
def mw (L:List Sym):List Int→List Int→Tb→Option Tb
 | [],_,σ=>some σ
 | n :: r,ts,σ=>
  if 0≤n then (match ts with | []=>none | x :: ts' => if x=n then mw L r ts' σ else none)
  else if σ (-n).toNat=[] then mw L r (ts.drop (headT L ts).length) (updT σ (-n).toNat (headT L ts))
  else if σ (-n).toNat=headT L ts then mw L r (ts.drop (headT L ts).length) σ else none
theorem mw_sym {L:List Sym} {n x:Int} {r ts:List Int} {σ:Tb} (hn:0≤n):mw L (n :: r) (x :: ts) σ=if x=n then mw L r ts σ else none:=by
 rw [mw,if_pos hn]
theorem mw_new {L:List Sym} {n:Int} {r ts:List Int} {σ:Tb} (hn:¬ 0≤n) (h:σ (-n).toNat=[]):mw L (n :: r) ts σ=mw L r (ts.drop (headT L ts).length) (updT σ (-n).toNat (headT L ts)):=by
 rw [mw.eq_def]
 simp only [if_neg hn,if_pos h]
theorem mw_old {L:List Sym} {n:Int} {r ts:List Int} {σ:Tb} (hn:¬ 0≤n) (h:¬ σ (-n).toNat=[]):mw L (n :: r) ts σ=if σ (-n).toNat=headT L ts then mw L r (ts.drop (headT L ts).length) σ else none:=by
 rw [mw.eq_def]
 simp only [if_neg hn,if_neg h]
theorem arN_neg {L:List Sym} {n:Int} (h:¬ 0≤n):arN L n=0:=by rw [arN,if_pos (by omega)]
def Even (L:List Sym) (p ts:List Int):Prop:=∃ j,need L j p=some 0∧need L j ts=some 0
theorem even_term {L:List Sym} {p ts:List Int} (h1:IsT L p) (h2:IsT L ts):Even L p ts:=⟨1,h1,h2⟩
theorem Even.cons {L:List Sym} {n:Int} {r ts:List Int} (h:Even L (n :: r) ts):∃ x ts', ts=x :: ts' ∧ (0≤n→x=n→Even L r ts')∧(¬ 0≤n→∃ m,scan L 1 ts=some m∧0<m∧m≤ts.length∧headT L ts=ts.take m∧(headT L ts).length=m∧Even L r (ts.drop m)):=by
 obtain ⟨j,h1,h2⟩:=h
 cases j with
 | zero=>simp [need] at h1
 | succ j=>
  cases ts with
  | nil=>simp [need] at h2
  | cons x ts' =>
   simp only [need] at h1
   refine ⟨x,ts', rfl,fun hn e=>?_,fun hn=>?_⟩
   ·subst e
    simp only [need] at h2
    exact ⟨_,h1,h2⟩
   ·rw [arN_neg hn,Nat.add_zero] at h1
    rw [Nat.add_comm] at h2
    obtain ⟨m,g1,g2,g3⟩:=need_split h2
    have hh:headT L (x :: ts')=(x :: ts').take m:=by rw [headT,g1];rfl
    exact ⟨m,g1,scan_pos (k:=0) g1,g2,hh,by rw [hh,List.length_take];omega,j,h1,g3⟩
theorem Even.nil {L:List Sym} {ts:List Int} (h:Even L [] ts):ts=[]:=by
 obtain ⟨j,h1,h2⟩:=h
 simp [need] at h1;subst h1
 cases ts with
 | nil=>rfl
 | cons x r=>simp [need] at h2
abbrev Bd:=Int × List Int
def blN (σ:Tb) (n:Nat):List Bd:=((List.range n).filter (fun v=>decide (σ v≠[]))).map (fun (v:Nat)=>(((v:Nat):Int),σ v))
theorem blN_zero (σ:Tb):blN σ 0=[]:=rfl
theorem blN_yes {σ:Tb} {n:Nat} (h:σ n≠[]):blN σ (n+1)=blN σ n ++ [((n:Int),σ n)]:=by
 simp [blN,List.range_succ,h]
theorem blN_no {σ:Tb} {n:Nat} (h:σ n=[]):blN σ (n+1)=blN σ n:=by
 simp [blN,List.range_succ,h]
theorem blN_mem {σ:Tb} {n:Nat} {b:Bd} (h:b∈blN σ n):∃ v:Nat,v<n∧b=((v:Int),σ v)∧σ v≠[]:=by
 simp [blN] at h
 obtain ⟨v,⟨h1,h2⟩,rfl⟩:=h
 exact ⟨v,h1,rfl,h2⟩
theorem blN_len (σ:Tb) (n:Nat):(blN σ n).length≤n:=by
 rw [blN,List.length_map]
 exact Nat.le_trans (List.length_filter_le _ _) (by simp)
theorem upd_same {σ:Tb} {v:Nat} {u:List Int}:updT σ v u v=u:=by simp [updT]
theorem upd_else {σ:Tb} {v x:Nat} {u:List Int} (h:x≠v):updT σ v u x=σ x:=by simp [updT,h]
def inst (σ:Tb) (n:Int):List Int:=if 0≤n∨σ (-n).toNat=[] then [n] else σ (-n).toNat
def appT (σ:Tb) (t:List Int):List Int:=t.flatMap (inst σ)
theorem app_nil (σ:Tb):appT σ []=[]:=rfl
theorem app_cons (σ:Tb) (n:Int) (t:List Int):appT σ (n :: t)=inst σ n++appT σ t:=by simp [appT]
theorem app_append (σ:Tb) (a b:List Int):appT σ (a++b)=appT σ a++appT σ b:=by simp [appT]
theorem inst_len (σ:Tb) (n:Int):(inst σ n).length=max 1 (if 0≤n then 0 else (σ (-n).toNat).length):=by
 unfold inst
 by_cases h:0≤n
 ·simp [h]
 ·by_cases hs:σ (-n).toNat=[]
  ·simp [h,hs]
  ·have:0<(σ (-n).toNat).length:=List.length_pos_iff.2 hs
   simp [h,hs];omega
end Go.Proofs.YtjahpnbijefncaaGreat
namespace Go.Proofs.YtjahpnbijefncaaGreat
set_option maxRecDepth 100000
set_option linter.unusedVariables false
open Go.RowKit
attribute [local go_sem ↓] Go.wp_at_zero Go.wp_at_succ
structure Part where
 ao:Option Addr
 cap:Nat
 xs:List Int
def PartsAt (w:World) (pb:Nat) (ps:List Part):Prop:=pb<w.heap.size∧∀ i (h:i<ps.length),w.cell? ⟨pb,i,none⟩=some (.slice ps[i].ao ps[i].xs.length ps[i].cap)∧IntsAt w ps[i].ao ps[i].xs
def allOf (ps:List Part):List Int:=ps.flatMap Part.xs
theorem PartsAt.same {w w' : World} {pb:Nat} {ps:List Part} (h:PartsAt w pb ps) (hk:Same0 w w'):PartsAt w' pb ps:=
 ⟨Nat.lt_of_lt_of_le h.1 hk.size,fun i hi=>⟨(hk.cell (p:=⟨pb,i,none⟩) h.1 (fun f=>f)).trans (h.2 i hi).1,(h.2 i hi).2.same hk⟩⟩
theorem allOf_snoc {ps:List Part} {k:Nat} (h:k<ps.length):allOf (ps.take (k+1))=allOf (ps.take k)++ps[k].xs:=by
 simp only [allOf];rw [List.take_add_one,List.getElem?_eq_getElem h,List.flatMap_append];simp
theorem allOf_le (ps:List Part) (k:Nat):(allOf (ps.take k)).length≤(allOf ps).length:=by
 have e:allOf ps=allOf (ps.take k)++allOf (ps.drop k):=by rw [allOf,allOf,allOf,← List.flatMap_append,List.take_append_drop]
 rw [e];simp
theorem Same0.of {w w' : World} (h:Below w.heap.size w w'):Same0 w w' := ⟨h.os,h.tape,h.output,h.size,fun k hk _=>h.block k hk⟩
def Joins (g N m:Nat) (xs:List Int) (w wr:World):Prop:=∃ cur:List Value,wr.heap[g]? = some (.cells cur.toArray 3 (0,0))∧cur.length=N∧cur.take m=iv xs∧xs.length=m∧Same0 w wr
theorem Joins.start {g N:Nat} {v:Value} {ys:List Value} {w wr:World} (hv:v=.slice (some ⟨g,0,none⟩) N N) (h:wr.ownsRow w.heap.size 3 1 v N ys) (hs:Same0 w wr):Joins g N 0 [] w wr:=by
 rcases h.2 with ⟨e,_⟩ | ⟨g', cap,cur,e,hb,hg,_,_,hsz,_⟩
 ·rw [hv] at e;cases e
 ·rw [hv] at e
  simp only [Value.slice.injEq,Option.some.injEq,Addr.mk.injEq,and_true,true_and] at e
  obtain ⟨rfl,rfl⟩:=e
  exact ⟨cur.toList,by simpa using hg,by simpa using hsz,by simp [iv],rfl,hs⟩
theorem splice_take {α:Type} (cur cs:List α) (m:Nat) (h:m+cs.length≤cur.length):(splice cur m cs).take (m+cs.length)=cur.take m++cs:=by
 unfold splice
 rw [← List.append_assoc,List.take_left' (by simp;omega)]
theorem Joins.next {g N m:Nat} {xs zs:List Int} {cur:List Value} {w w' : World} (h1:cur.length=N) (h2:cur.take m=iv xs) (h3:xs.length=m) (hm:m+zs.length≤N)
  (hg:w'.heap[g]? = some (.cells (splice cur m (iv zs)).toArray 3 (0,0))) (hb:Below w.heap.size w w'):Joins g N (m+zs.length) (xs++zs) w w' := by
 refine ⟨_,hg,?_,?_,by simp;omega,Same0.of hb⟩
 ·rw [length_splice _ _ _ (by rw [iv_length];omega)];exact h1
 ·have:=splice_take cur (iv zs) m (by rw [iv_length];omega)
  rw [iv_length] at this
  rw [this,h2,iv_append]
theorem Joins.row {g N:Nat} {xs:List Int} {w wr:World} (h:Joins g N N xs w wr) (hg:w.heap.size≤g) (hN:N≤maxLen):Row w.heap.size wr (.slice (some ⟨g,0,none⟩) N N) xs:=by
 obtain ⟨cur,h1,h2,h3,h4,_⟩:=h
 subst h4
 exact ⟨by simp [iv],.inr ⟨g,xs.length,cur.toArray,rfl,hg,h1,Nat.le_refl _,hN,by simpa using h2,by simpa using h3⟩⟩
theorem iv_oneCell (xs:List Int):∀ v∈iv xs,v.oneCell' = true:=by
 intro v hv
 simp only [iv,List.mem_map] at hv
 obtain ⟨x,_,rfl⟩:=hv
 rfl
theorem IntsAt.src {w:World} {ao:Option Addr} {xs:List Int} (h:IntsAt w ao xs) (hn:0<(iv xs).length):∃ ad,ao=some ad∧∀ j v,(iv xs)[j]? = some v→w.cell? (ad.add j)=some v:=by
 rcases h with rfl | ⟨b,off,rfl,_,hc⟩
 ·simp [iv] at hn
 ·refine ⟨_,rfl,fun j v hj=>?_⟩
  have hlt:j<xs.length:=by
   have:=(List.getElem?_eq_some_iff.1 hj).1
   rwa [iv_length] at this
  rw [iv_get hlt] at hj
  cases hj
  have:=hc j hlt
  unfold Addr.add
  split
  ·rename_i h0;subst h0;first | (simp;done) | (simpa using this)
  ·exact this
theorem iv_min {m N d:Nat} {xs:List Int} (h:m+xs.length≤N) (hd:d=N-m):(iv xs).length=Nat.min xs.length d:=by rw [iv_length];exact (Nat.min_eq_left (by omega)).symm
theorem size_int:(Tryz.prog.info? 3).map (·.size)=some 1:=by kernel_rfl
set_option maxRecDepth 10000 in
set_option maxHeartbeats 2000000 in
theorem join_any {w:World} {pb:Nat} {ps:List Part} (h:PartsAt w pb ps) {pc:Nat} (hn:ps.length≤3) (hs:(allOf ps).length≤17592186044416) :
  Calls Tryz.prog 105 #[.slice (some ⟨pb,0,none⟩) ps.length pc] w fun e w' => ∃ v,e=.returned v∧Row w.heap.size w' v (allOf ps)∧Same0 w w' := by
 go_enter Tryz.func105,Tryz.ntmps105
 go_wp2
 go_loop [3,12] (fun sz i=>∃ k:Nat,k≤ps.length∧i=.int .i64 (k:Int)∧sz=.int .i64 ((allOf (ps.take k)).length:Int)) (fun _ i=>ps.length-(intOf i).toNat)
 case atStart=>exact ⟨0,Nat.zero_le _,rfl,rfl⟩
 case round=>
  obtain ⟨k,hk,rfl,rfl⟩:=hrel
  by_cases hlt:k<ps.length
  ·have i1:(0:Int)≤(k:Int):=by omega
   have i2:(k:Int)<(ps.length:Int):=by omega
   obtain ⟨hc,_⟩:=h.2 k hlt
   have hb:=h.1
   have e1:=congrArg List.length (allOf_snoc hlt)
   rw [List.length_append] at e1
   have e2:=allOf_le ps (k+1)
   have E1:Hid ((allOf (ps.take (k+1))).length=(allOf (ps.take k)).length+ps[k].xs.length):=e1
   have b1:(allOf (ps.take k)).length+ps[k].xs.length≤17592186044416:=by omega
   clear e1 e2
   generalize (allOf (ps.take k)).length=S at *
   generalize ps[k].xs.length=X at *
   go_wp2
   refine ⟨⟨k+1,by omega,by go_num,?_⟩,by simp [intOf];omega⟩
   rw [E1.out];go_num
  ·obtain rfl:k=ps.length:=by omega
   obtain ⟨i,hi,hz0,hz1,hz2⟩:=info_parts info_intT
   have e0:ps.take ps.length=ps:=List.take_length
   rw [e0]
   clear e0
   obtain ⟨N,hN⟩:∃ N,N=(allOf ps).length:=⟨_,rfl⟩
   have hN' : Hid (N=(allOf ps).length):=hN
   have hs' : N≤17592186044416:=by omega
   rw [← hN]
   clear hN hs
   go_wp2_with (first | (at_make;refine wpList_make_full _ rfl _ _ 64 rfl w.heap.size 3 i _ 1 Tryz.underlying64 hi hz0 hz1 _ _ _ _ N rfl rfl rfl rfl (by rw [hz2];omega) (by unfold maxLen;omega) (Nat.le_refl _) ?_;intro w3 hown hgrow))
   have J0:Joins w.heap.size N 0 (allOf (ps.take 0)) w w3:=Joins.start rfl hown (Same0.grown (Kept.refl _ w) hgrow)
   clear hown hgrow
   go_loopw [7,25] (fun at' i wr=>∃ (k m:Nat),k≤ps.length∧i=.int .i64 (k:Int)∧at' = .int .i64 (m:Int)∧Joins w.heap.size N m (allOf (ps.take k)) w wr) (fun _ i _=>ps.length-(intOf i).toNat)
   case atStart=>exact ⟨0,0,Nat.zero_le _,rfl,rfl,J0⟩
   case round=>
    obtain ⟨k,m,hk,rfl,rfl,cur,q1,q2,q3,q4,q5⟩:=hrel
    by_cases hlt:k<ps.length
    ·have i1:(0:Int)≤(k:Int):=by omega
     have i2:(k:Int)<(ps.length:Int):=by omega
     have h' := h.same q5
     obtain ⟨hc,hx⟩:=h'.2 k hlt
     have hb:=h'.1
     have e1:=congrArg List.length (allOf_snoc hlt)
     rw [List.length_append,q4] at e1
     have e2:=allOf_le ps (k+1)
     have hN2:=hN'.out
     have b1:m+ps[k].xs.length≤N:=by omega
     have E2:Hid (allOf (ps.take (k+1))=allOf (ps.take k)++ps[k].xs):=allOf_snoc hlt
     have Q3:Hid (cur.take m=iv (allOf (ps.take k))):=q3
     have Q4:Hid ((allOf (ps.take k)).length=m):=q4
     have hbl:=q5.below
     clear e1 e2 hN2 q3 q4 h'
     have m1:(m:Int)≤(N:Int):=by omega
     have m0:(0:Int)≤(m:Int):=by omega
     obtain ⟨pao,hpao⟩:∃ pao,pao=ps[k].ao:=⟨_,rfl⟩
     obtain ⟨pcap,hpcap⟩:∃ pcap,pcap=ps[k].cap:=⟨_,rfl⟩
     obtain ⟨pxs,hpxs⟩:∃ pxs,pxs=ps[k].xs:=⟨_,rfl⟩
     rw [← hpao,← hpxs,← hpcap] at hc
     rw [← hpao,← hpxs] at hx
     rw [← hpxs] at b1 E2
     clear hpao hpcap hpxs
     have hfit:Hid (m+(iv pxs).length≤cur.length):=by show _≤_;rw [iv_length];omega
     go_upto_region 12 with fail
     go_wp2_with (first | (refine wpList_copy_splice rfl (.tmp 32) (.tmp 33) 64 64 rfl 3 Tryz.underlying64 size_int _ _ _ _ _ _ rfl rfl w.heap.size m cur 3 q1 (iv pxs) (iv_min b1 (by omega)) (fun h0=>⟨by first | rfl | (exfalso;rw [iv_length] at h0;omega) | (split <;> first | rfl | (exfalso;rw [iv_length] at h0;omega)),hx.src h0⟩) hfit.out (iv_oneCell pxs) w.heap.size w hbl (Nat.le_refl _) ?_;intro w4 hg4 hb4))
     have ew:wrap64 ((m:Int)+((iv pxs).length:Int))=((m+pxs.length:Nat):Int):=by rw [iv_length];unfold wrap64;omega
     refine ⟨⟨k+1,m+pxs.length,by omega,by go_num,by rw [ew],?_⟩,by simp [intOf];omega⟩
     rw [E2.out]
     exact Joins.next q2 Q3.out Q4.out b1 hg4.out hb4
    ·obtain rfl:k=ps.length:=by omega
     rw [List.take_length] at q3 q4
     obtain rfl:N=m:=by rw [← q4];exact hN'.out
     have hr:Row w.heap.size wr (.slice (some ⟨w.heap.size,0,none⟩) N N) (allOf ps):=Joins.row ⟨cur,q1,q2,q3,q4,q5⟩ (Nat.le_refl _) (by unfold maxLen;omega)
     clear q1 q2 q3 q4
     go_wp2
     go_ret
     exact ⟨_,rfl,hr,q5⟩
theorem IntsAt.cut {w:World} {b off:Nat} {t:List Int} (h:IntsAt w (some ⟨b,off,none⟩) t) (lo hi:Nat):IntsAt w (some ⟨b,off+lo,none⟩) ((t.take hi).drop lo):=by
 rcases h with rfl | ⟨b', off', e,hlt,hc⟩
 ·left;simp
 ·simp only [Option.some.injEq,Addr.mk.injEq,and_true] at e
  obtain ⟨rfl,rfl⟩:=e
  refine .inr ⟨b,off+lo,rfl,hlt,fun i hi' => ?_⟩
  have h1:lo+i<t.length:=by simp at hi'; omega
  have:=hc (lo+i) h1
  rw [Nat.add_assoc,this]
  simp
theorem parts_one {w:World} {ao:Option Addr} {cap m:Nat} {xs:List Int} {T:TypeId} (h:IntsAt w ao xs) (hm:m=xs.length):PartsAt (w.alloc (.cells #[.slice ao m cap] T)) w.heap.size [⟨ao,cap,xs⟩]:=by
 subst hm
 refine ⟨by simp,fun i hi=>?_⟩
 obtain rfl:i=0:=by simpa using hi
 exact ⟨cellAt (heap_alloc_new w _) 0,h.same ((Kept.refl _ w).alloc _)⟩
def subA (L:List Sym) (t:List Int) (a:Int):List Int:=if placeE L t a=0 then subN L t a.toNat else []
set_option maxHeartbeats 2000000 in
theorem sub_any {n b:Nat} {w:World} {L:List Sym} (h:Sg n w b L) {ao:Option Addr} {cap:Nat} {t:List Int} (ht:IntsAt w ao t) (hm:t.length≤maxLen) (hcap:t.length≤cap) (a:Int) :
  Calls Tryz.prog 60 #[.pointer (some ⟨b,0,none⟩),.slice ao t.length cap,.int .i64 a] w fun e w' => ∃ v,e=.returned (.tuple #[v,.int .i64 (placeE L t a)])∧Row w.heap.size w' v (subA L t a)∧Same0 w w' := by
 have c:=checkPlace_any (cap:=cap) h ht hm a
 by_cases hz:placeE L t a=0
 ·obtain ⟨p,rfl,hp,h0,h1,h2⟩:=place_zero hz
  have H:Hid (placeE L t p=0∧subA L t p=subN L t p):=by
   refine ⟨hz,?_⟩
   rw [subA,if_pos hz];rfl
  have c2:∀ w1 q,Same0 w w1→q<t.length→Calls Tryz.prog 103 #[.pointer (some ⟨b,0,none⟩),.slice ao t.length cap,.int .i64 (q:Int)] w1 fun e w' => e=.returned (.int .i64 (endN L t q:Int))∧Same0 w1 w' := fun w1 q hk hq=>by
   have:=end_any (cap:=cap) (h.same hk) (ht.same hk) h1 q (by omega)
   rwa [endI_of h2 hq] at this
  obtain ⟨hl1,hl2⟩:=endN_le h2 hp
  obtain ⟨tb,off,rfl,htb,hc⟩:=ht.get hp
  rw [hz] at c
  have i1:(0:Int)≤(p:Int):=by omega
  have i2:(p:Int)≤(endN L t p:Int):=by omega
  have i3:(endN L t p:Int)≤(cap:Int):=by omega
  have i4:¬ cap=p:=by omega
  go_enter Tryz.func60,Tryz.ntmps60
  go_wp2_with (first | (go_at_call 104;refine c.mono ?_;rintro e w1 ⟨rfl,hk1⟩) | (go_at_call 103;refine (c2 _ _ hk1 hp).mono ?_;rintro e w2 ⟨rfl,hk2⟩))
  have hk3:Same0 w w2:=hk1.trans' hk2
  have hparts:PartsAt (w2.alloc (.cells #[.slice (some ⟨tb,off+p,none⟩) (endN L t p-p) (cap-p)] 64)) w2.heap.size [⟨some ⟨tb,off+p,none⟩,cap-p,subN L t p⟩]:=parts_one ((ht.same hk3).cut p (endN L t p)) (sub_length h2 hp).symm
  have hlen:(subN L t p).length≤2000:=by rw [sub_length h2 hp];omega
  refine (join_any hparts (pc:=1) (by simp) (by simp [allOf];omega)).mono ?_
  rintro e w4 ⟨v,rfl,hr,hk4⟩
  have e5:allOf [⟨some ⟨tb,off+p,none⟩,cap-p,subN L t p⟩]=subN L t p:=by simp [allOf]
  rw [e5] at hr
  have hk5:Same0 w (w2.alloc (.cells #[.slice (some ⟨tb,off+p,none⟩) (endN L t p-p) (cap-p)] 64)):=hk3.alloc _
  have hr' := row_mono hr hk5.size
  have hk6:=hk5.trans' hk4
  clear hr hparts hk4 hk5 c c2
  go_wp2
  go_ret2
  refine ⟨v,?_,?_,hk6⟩
  ·rw [H.out.1];rfl
  ·rw [H.out.2];exact hr'
 ·have H:Hid (subA L t a=[]):=by show _=_;rw [subA,if_neg hz]
  have hz' : (placeE L t a == 0)=false:=by simpa using hz
  go_enter Tryz.func60,Tryz.ntmps60
  go_wp2_with (first | (go_at_call 104;refine c.mono ?_;rintro e w1 ⟨rfl,hk1⟩))
  go_ret2
  refine ⟨_,rfl,?_,hk1⟩
  rw [H.out]
  exact World.ownsRow_nil _ _ _ _
theorem past_lt {L:List Sym} {t:List Int} (h:IsT L t) {q i:Nat} (hq:q<t.length) (hi:i<arN L t[q]):past L t i (q+1)<t.length:=by
 have hf:=(Forest.one h hq).kids.2
 have hd:=hf.drop (i:=i) (by omega)
 rw [show arN L t[q]-i=(arN L t[q]-i-1)+1 by omega] at hd
 have:=hd.pos
 have:=hd.le
 omega
def sameB (xs ys:List Int):Bool:=decide (xs=ys)
theorem same_len {xs ys:List Int} (h:xs.length≠ys.length):sameB xs ys=false:=by
 simp [sameB];intro e;exact h (by rw [e])
theorem take_eq_succ {xs ys:List Int} {k:Nat} (h:xs.take k=ys.take k) (hx:k<xs.length) (hy:k<ys.length) (he:xs[k]=ys[k]):xs.take (k+1)=ys.take (k+1):=by
 rw [List.take_add_one,List.take_add_one,h,List.getElem?_eq_getElem hx,List.getElem?_eq_getElem hy,he]
set_option maxHeartbeats 2000000 in
theorem same_any {w:World} {ao bo:Option Addr} {acap bcap:Nat} {xs ys:List Int} (hx:IntsAt w ao xs) (hy:IntsAt w bo ys) (hm:xs.length≤maxLen) :
  Calls Tryz.prog 27 #[.slice ao xs.length acap,.slice bo ys.length bcap] w fun e w' => e=.returned (.bool (sameB xs ys))∧Same0 w w' := by
 unfold maxLen at hm
 by_cases hl:xs.length=ys.length
 ·have hl' : (xs.length:Int)=(ys.length:Int):=by omega
  go_enter Tryz.func27,Tryz.ntmps27
  go_wp2
  go_loopw [5] (fun i wr=>∃ k:Nat,k≤xs.length∧i=.int .i64 (k:Int)∧Hid (xs.take k=ys.take k)∧Same0 w wr) (fun i _=>xs.length-(intOf i).toNat)
  case atStart=>exact ⟨0,Nat.zero_le _,rfl,by simp [Hid],Kept.refl _ _⟩
  case round=>
   obtain ⟨k,hk,rfl,ht,hs⟩:=hrel
   by_cases hlt:k<xs.length
   ·have hlt' : k<ys.length:=by omega
    obtain ⟨ab,ao', rfl,hab,hac⟩:=(hx.same hs).get hlt
    obtain ⟨bb,bo', rfl,hbb,hbc⟩:=(hy.same hs).get hlt'
    have i1:(0:Int)≤(k:Int):=by omega
    have i2:(k:Int)<(xs.length:Int):=by omega
    have i3:(k:Int)<(ys.length:Int):=by omega
    have d1:wr.drew.cell? ⟨ab,ao' + k,none⟩=some (.int .i64 xs[k]):=hac
    have d2:wr.drew.cell? ⟨bb,bo' + k,none⟩=some (.int .i64 ys[k]):=hbc
    by_cases he:xs[k]=ys[k]
    ·have hn:Hid (xs.take (k+1)=ys.take (k+1)):=take_eq_succ ht.out hlt hlt' he
     have he' : (xs[k] == ys[k])=true:=by simpa using he
     go_wp2
     go_quiet (fail)
     go_wp2
     refine ⟨⟨k+1,by omega,by go_num,hn,hs.drewN _⟩,by simp [intOf];omega⟩
    ·have H:Hid (sameB xs ys=false):=by
      show _=_
      simp only [sameB,decide_eq_false_iff_not]
      intro e;subst e;exact he rfl
     have he' : (xs[k] == ys[k])=false:=by simpa using he
     go_wp2
     go_quiet (fail)
     go_wp2
     go_ret
     exact ⟨by rw [H.out];rfl,hs.drewN _⟩
   ·have H:Hid (sameB xs ys=true):=by
     have:=ht.out
     rw [List.take_of_length_le (by omega),List.take_of_length_le (by omega)] at this
     show _=_
     simpa [sameB] using this
    go_wp2
    go_ret
    exact ⟨by rw [H.out];rfl,hs⟩
 ·have hl' : ¬ (xs.length:Int)=(ys.length:Int):=by omega
  have H:Hid (sameB xs ys=false):=same_len hl
  go_enter Tryz.func27,Tryz.ntmps27
  go_wp2
  go_ret
  exact ⟨by rw [H.out];rfl,Kept.refl _ _⟩
structure Both (n0:Nat) (w0 w:World) (b rb:Nat) (L:List Sym) (sv:Value) (mr:Option Nat) (rv:Value):Prop where
 sg:SigAt w b L sv mr
 rf:RefAt w rb L rv
 f:∀ k,Foot b sv mr k→n0≤k
 g:∀ k,RFoot rb rv k→n0≤k
 d:∀ k,Foot b sv mr k→¬ RFoot rb rv k
 k:Kept (From n0) w0 w
 a:Ars L
theorem Both.start (w:World):Both w.heap.size w ((w.alloc (.cells #[.slice none 0 0,.map none] 187)).alloc (.cells #[.slice none 0 0] 161)) w.heap.size (w.heap.size+1) [] (.slice none 0 0) none (.slice none 0 0):=by
 have k1:Kept (fun _=>False) (w.alloc (.cells #[.slice none 0 0,.map none] 187)) ((w.alloc (.cells #[.slice none 0 0,.map none] 187)).alloc (.cells #[.slice none 0 0] 161)):=(Kept.refl _ _).alloc _
 have e1:(w.alloc (.cells #[.slice none 0 0,.map none] 187)).heap.size=w.heap.size+1:=by simp
 refine ⟨(sig_new w).kept k1 (fun _ _ f=>f),⟨?_,World.ownsRow_nil _ _ _ _,by simp [Value.ownBlock]⟩,?_,?_,?_,((Kept.refl _ w).alloc _).alloc _,fun x hx=>by simp at hx⟩
 ·rw [← e1];exact heap_alloc_new _ _
 ·rintro k (e | e | e)
  ·omega
  ·simp [Value.ownBlock] at e
  ·simp at e
 ·rintro k (e | e)
  ·omega
  ·simp [Value.ownBlock] at e
 ·rintro k (e | e | e) (e' | e')
  ·omega
  ·simp [Value.ownBlock] at e'
  ·simp [Value.ownBlock] at e
  ·simp [Value.ownBlock] at e
  ·simp at e
  ·simp at e
theorem addL_ars {L:List Sym} (h:Ars L) (x:Sym):Ars (addL L x):=by
 unfold addL
 split
 ·rename_i hz
  intro y hy
  rcases List.mem_append.1 hy with hy | hy
  ·exact h y hy
  ·simp at hy;subst hy;exact add_ar hz
 ·exact h
theorem Both.next {n0:Nat} {w0 w w1 w2:World} {b rb:Nat} {L:List Sym} {sv:Value} {mr:Option Nat} {rv:Value} (h:Both n0 w0 w b rb L sv mr rv) (x:Sym) (hn:n0≤w.heap.size) {sv1:Value} {mr1:Option Nat}
  (h1:SigAt w1 b (addL L x) sv1 mr1) (h2:Kept (Foot b sv mr) w w1) (h3:∀ k,Foot b sv1 mr1 k→Foot b sv mr k∨w.heap.size≤k) (hr:RMoved w1 rb rv (addL L x) w2):∃ rv2,Both n0 w0 w2 b rb (addL L x) sv1 mr1 rv2:=by
 obtain ⟨rv2,r1,r2,r3⟩:=hr
 have hrl:=h.rf.lt
 have dd:∀ k,Foot b sv1 mr1 k→¬ RFoot rb rv k:=fun k hk hk' => by
  rcases h3 k hk with e | e
  ·exact h.d k e hk'
  ·have:=hrl k hk'; omega
 have z1:=h2.size
 refine ⟨rv2,h1.kept r2 (fun k e=>dd k e),r1,?_,?_,?_,?_,addL_ars h.a x⟩
 ·intro k hk
  rcases h3 k hk with e | e
  ·exact h.f k e
  ·omega
 ·intro k hk
  rcases r3 k hk with e | e
  ·exact h.g k e
  ·omega
 ·intro k hk hk'
  rcases r3 k hk' with e | e
  ·exact dd k hk e
  ·have:=sig_foot_lt h1 k hk;omega
 ·exact (h.k.trans h2 (fun i _ e=>h.f i e)).trans r2 (fun i _ e=>h.g i e)
def madeL (xs:List Sym):List Sym:=xs.foldl addL []
theorem madeL_snoc {xs:List Sym} {k:Nat} (h:k<xs.length):madeL (xs.take (k+1))=addL (madeL (xs.take k)) xs[k]:=by
 rw [List.take_add_one,List.getElem?_eq_getElem h]
 unfold madeL
 rw [List.foldl_append]
 rfl
theorem from_below {w w' : World} (h:Kept (From w.heap.size) w w'):Same0 w w' := ⟨h.os,h.tape,h.output,h.size,fun k hk _=>h.block k hk (fun e=>by omega)⟩
set_option maxHeartbeats 2000000 in
theorem made_any (ao:Option Addr) (len cap:Nat) (xs:List Sym) (w:World) (hx:SymsAt w ao len xs) (hm:len≤maxLen) :
  Calls Tryz.prog 31 #[.slice ao len cap] w fun e w' => ∃ b rv,e=.returned (.tuple #[.pointer (some ⟨b,0,none⟩),rv])∧Sg w'.heap.size w' b (madeL xs)∧Rl w'.heap.size w' rv (madeL xs)∧Same0 w w' := by
 unfold maxLen at hm
 go_enter Tryz.func31,Tryz.ntmps31
 go_wp2_with (first | (go_at_call 73;refine (new_any _).mono ?_;rintro e w' ⟨rfl,rfl⟩))
 go_loopw [6] (fun i wr=>∃ (k:Nat) (sv:Value) (mr:Option Nat) (rv:Value),k≤len∧i=.int .i64 (k:Int)∧Both w.heap.size w wr w.heap.size (w.heap.size+1) (madeL (xs.take k)) sv mr rv) (fun i _=>len-(intOf i).toNat)
 case atStart=>exact ⟨0,_,_,_,Nat.zero_le _,rfl,Both.start w⟩
 case round=>
  obtain ⟨k,sv,mr,rv,hk,rfl,hb⟩:=hrel
  have hlen:=hb.sg.len
  by_cases hlt:k<len
  ·obtain ⟨xl,xc,xw⟩:=hx.kept (from_below hb.k).below
   obtain ⟨xb,off,rfl,hxb,hxc⟩:=xc.resolve_left (by omega)
   have hkx:k<xs.length:=by omega
   obtain ⟨x0,x1,x2⟩:=hxc k hkx
   have xsz:=(xw xs[k] (List.getElem_mem hkx)).1
   have i1:(0:Int)≤(k:Int):=by omega
   have i2:(k:Int)<(len:Int):=by omega
   have E1:Hid (madeL (xs.take (k+1))=addL (madeL (xs.take k)) xs[k]):=madeL_snoc hkx
   have hn0:=hb.k.size
   have hxs:=hx
   clear hxc xw xc xl
   generalize madeL (xs.take k)=L at *
   go_wp2_with fail
   refine (add_any hb.sg xs[k] xsz).mono ?_
   rintro e w1 ⟨rfl,sv1,mr1,h1,h2,h3⟩
   have hr1:RefAt w1 (w.heap.size+1) L rv:=hb.rf.kept h2 (fun k hk' e=>hb.d k e hk')
   have k1:Kept (From w.heap.size) w w1:=hb.k.trans h2 (fun i _ e=>hb.f i e)
   obtain ⟨y0,y1,y2⟩:w1.cell? ⟨xb,off+k * 3,none⟩=some (.string xs[k].name)∧w1.cell? ⟨xb,off+k * 3+1,none⟩=some (.int .i64 xs[k].ar)∧w1.cell? ⟨xb,off+k * 3+2,none⟩=some (.bool xs[k].df):=by
    obtain ⟨_,yc,_⟩:=hxs.kept (from_below k1).below
    obtain ⟨_,_,e,_,hyc⟩:=yc.resolve_left (by omega)
    simp only [Option.some.injEq,Addr.mk.injEq,and_true] at e
    rw [e.1,e.2]
    exact hyc k hkx
   clear x0 x1 x2
   go_wp2_with fail
   refine (radd_any hr1 hlen xs[k] xsz).mono ?_
   rintro e w2 ⟨rfl,hr⟩
   obtain ⟨rv2,hb2⟩:=hb.next xs[k] hn0 h1 h2 h3 hr
   go_wp2
   refine ⟨⟨k+1,sv1,mr1,rv2,by omega,by go_num,?_⟩,by simp [intOf];omega⟩
   rw [E1.out];exact hb2
  ·have hxl:=hx.1
   have E1:xs.take k=xs:=List.take_of_length_le (by omega)
   rw [E1] at hb hlen
   have r0:=hb.rf.c0
   clear E1
   go_wp2
   go_quiet (fail)
   go_wp2
   go_ret2
   have kd:Same0 wr (wr.drewN nq):=(Kept.refl _ _).drewN nq
   have fin:Sg wr.heap.size wr w.heap.size (madeL xs)∧Rl wr.heap.size wr rv (madeL xs)∧Same0 w wr:=⟨⟨⟨sv,mr,hb.sg,sig_foot_lt hb.sg⟩,hb.a⟩,⟨hb.rf.row,fun k e=>hb.rf.lt k (.inr e),hb.a,hlen⟩,from_below hb.k⟩
   exact ⟨w.heap.size,rv,rfl,fin.1.same kd,fin.2.1.same kd,fin.2.2.trans' kd⟩
theorem ints_new (w:World) (xs:List Int) (T:TypeId) {o:Obj} (ho:o=.cells (iv xs).toArray T (0,0)):IntsAt (w.alloc o) (some ⟨w.heap.size,0,none⟩) xs:=by
 subst ho
 refine .inr ⟨_,_,rfl,by simp,fun i hi=>?_⟩
 rw [Nat.zero_add,cellAt (heap_alloc_new w _)]
 simpa using iv_get hi
theorem Row.ints {base:Nat} {w:World} {v:Value} {xs:List Int} (h:Row base w v xs):∃ ao cap,v=.slice ao xs.length cap∧IntsAt w ao xs∧xs.length≤cap∧(∀ a,ao=some a→base≤a.block∧a.block<w.heap.size):=by
 rcases h.2 with ⟨rfl,h0⟩ | ⟨g,cap,cur,rfl,hb,hg,h1,h2,h3,h4⟩
 ·have:xs=[]:=List.eq_nil_of_length_eq_zero h0
  subst this
  exact ⟨none,0,rfl,.inl rfl,Nat.le_refl _,fun a e=>by cases e⟩
 ·refine ⟨_,cap,rfl,.inr ⟨g,0,rfl,lt_of_at hg,fun i hi=>?_⟩,h1,fun a e=>by cases e;exact ⟨hb,lt_of_at hg⟩⟩
  rw [Nat.zero_add,h.cellAt i (by omega)]
  exact iv_get hi
abbrev zS:Sym:=⟨⟨#[122]⟩,0,false⟩
abbrev L3:List Sym:=[zS,aS,aAdd]
set_option maxHeartbeats 1000000 in
theorem rArity_any {n:Nat} {w:World} {rv:Value} {L:List Sym} (h:Rl n w rv L) (x:Int):Calls Tryz.prog 90 #[rv,.int .i64 x] w fun e w' => e=.returned (.int .i64 (if x<0∨(L.length:Int)≤x then -1 else (arN L x:Int)))∧w' = w:=by
 obtain ⟨hr,_,ha,hlen⟩:=h
 obtain ⟨ao,cap,rfl⟩:=row_shape hr
 by_cases h0:x<0
 ·go_enter Tryz.func90,Tryz.ntmps90
  go_wp2
  go_ret
  exact ⟨rfl,rfl⟩
 ·by_cases h1:(L.length:Int)≤x
  ·go_enter Tryz.func90,Tryz.ntmps90
   go_wp2
   go_ret
   exact ⟨rfl,rfl⟩
  ·obtain ⟨i,rfl⟩:∃ i:Nat,x=(i:Int):=⟨x.toNat,by omega⟩
   have hi:i<L.length:=by omega
   have H:Hid (((arN L (i:Int):Nat):Int)=L[i].ar):=ar_of ha hi
   obtain ⟨g,rfl,hg,x0,x1,x2⟩:=row_sym hr hi
   have i1:(0:Int)≤(i:Int):=by omega
   have i2:(i:Int)<(L.length:Int):=by omega
   go_enter Tryz.func90,Tryz.ntmps90
   go_wp2
   go_ret
   exact ⟨by rw [H.out];rfl,rfl⟩
set_option maxHeartbeats 1000000 in
theorem rarity_any {n:Nat} {w:World} {rv:Value} {L:List Sym} (h:Rl n w rv L) (x:Int):Calls Tryz.prog 101 #[rv,.int .i64 x] w fun e w' => e=.returned (.int .i64 (arN L x:Int))∧w' = w:=by
 have c:=rArity_any h x
 by_cases hx:x<0∨(L.length:Int)≤x
 ·rw [if_pos hx] at c
  have H:Hid (arN L x=0):=ar_no hx
  go_enter Tryz.func101,Tryz.ntmps101
  go_wp2_with (first | (go_at_call 90;refine c.mono ?_;rintro e w' ⟨rfl,rfl⟩))
  go_ret
  exact ⟨by rw [H.out];rfl,rfl⟩
 ·rw [if_neg hx] at c
  go_enter Tryz.func101,Tryz.ntmps101
  go_wp2_with (first | (go_at_call 90;refine c.mono ?_;rintro e w' ⟨rfl,rfl⟩))
  go_ret
  exact ⟨rfl,rfl⟩
set_option maxHeartbeats 2000000 in
theorem rend_any {n:Nat} {w:World} {rv:Value} {L:List Sym} (h:Rl n w rv L) {ao:Option Addr} {cap:Nat} {t:List Int} (ht:IntsAt w ao t) (hm:t.length≤2000) (p0:Nat) (hp0:p0≤t.length) :
  Calls Tryz.prog 67 #[rv,.slice ao t.length cap,.int .i64 (p0:Int)] w fun e w' => e=.returned (.int .i64 (endN L t p0))∧w' = w:=by
 have ha:=h.2.2.1
 go_enter Tryz.func67,Tryz.ntmps67
 go_wp2
 go_loop [7,8] (fun la at' => ∃ p k:Nat,p0≤p∧p≤t.length∧at' = .int .i64 (p:Int)∧la=.int .i64 (k:Int)∧k≤1+6 * (p-p0)∧Hid (endO L t p0=(scan L k (t.drop p)).map (p + ·))) (fun _ at' => t.length-(intOf at').toNat)
 case atStart=>exact ⟨p0,1,Nat.le_refl _,hp0,rfl,rfl,by omega,rfl⟩
 case round=>
  obtain ⟨p,k,h1,h2,rfl,rfl,h3,h4⟩:=hrel
  by_cases hlt:p<t.length
  ·cases k with
   | zero=>
    have H6:Hid (endN L t p0=p):=by
     have:=h4.out
     simp [scan_zero] at this
     show _=_
     simp [endN,this]
    go_wp2
    go_ret
    exact ⟨by rw [H6.out];rfl,rfl⟩
   | succ k=>
    obtain ⟨tb,off,rfl,htb,hc⟩:=ht.get hlt
    have c:=rarity_any h t[p]
    have hle:=arN_le ha t[p]
    have H5:Hid (endO L t p0=(scan L (k+arN L t[p]) (t.drop (p+1))).map (p+1 + ·)):=endO_round h4.out hlt
    have i1:(0:Int)≤(p:Int):=by omega
    have i2:(p:Int)<(t.length:Int):=by omega
    clear h4
    generalize arN L t[p]=a at *
    go_wp2_with (first | (go_at_call 101;refine c.mono ?_;rintro e w' ⟨rfl,rfl⟩))
    refine ⟨⟨p+1,k+a,by omega,by omega,by go_num,by first | (congr 1;omega) | congr 1,by omega,H5⟩,by simp [intOf];omega⟩
  ·have H6:Hid (endN L t p0=p):=by
    have h4:=h4.out
    rw [List.drop_eq_nil_of_le (by omega)] at h4
    show _=_
    cases k with
    | zero=>simp [scan] at h4;simp [endN,h4]
    | succ k=>simp [scan] at h4;simp [endN,h4];omega
   go_wp2
   go_ret
   exact ⟨by rw [H6.out];rfl,rfl⟩
theorem need_take {L:List Sym} {t:List Int} {p k:Nat} (h:need L 1 (t.take p)=some k) (hp:p<t.length):(k=0→¬ need L 1 t=some 0)∧(∀ j,k=j+1→need L 1 (t.take (p+1))=some (j+arN L t[p])):=by
 have e:t=t.take p++(t[p] :: t.drop (p+1)):=by rw [← List.drop_eq_getElem_cons hp,List.take_append_drop]
 constructor
 ·rintro rfl hn
  rw [e,need_append,h,Option.bind_some,need] at hn
  cases hn
 ·rintro j rfl
  rw [List.take_add_one,need_append,h,List.getElem?_eq_getElem hp]
  simp [need]
theorem checkE_shape {L:List Sym} {t:List Int} (h:¬ 2000<t.length) (hb:badE L t=0):checkE L t=if need L 1 t=some 0 then 0 else 23:=by
 simp [checkE,h,hb]
set_option maxHeartbeats 4000000 in
theorem rcheck_any {n:Nat} {w:World} {rv:Value} {L:List Sym} (h:Rl n w rv L) {ao:Option Addr} {cap:Nat} {t:List Int} (ht:IntsAt w ao t) (hm:t.length≤maxLen) :
  Calls Tryz.prog 57 #[rv,.slice ao t.length cap] w fun e w' => e=.returned (.int .i64 (checkE L t))∧w' = w:=by
 unfold maxLen at hm
 have ha:=h.2.2.1
 have hL64:=h.2.2.2
 obtain ⟨ro,rcap,rfl⟩:=row_shape h.1
 by_cases hl:2000<t.length
 ·have H:Hid (checkE L t=20):=checkE_long hl
  go_enter Tryz.func57,Tryz.ntmps57
  go_wp2
  go_ret
  exact ⟨ret_int H.out.symm,rfl⟩
 ·have hl' : t.length≤2000:=by omega
  go_enter Tryz.func57,Tryz.ntmps57
  go_wp2
  go_loop [5] (fun i=>∃ p:Nat,p≤t.length∧i=.int .i64 (p:Int)∧Hid (badE L (t.take p)=0)) (fun i=>t.length-(intOf i).toNat)
  case atStart=>exact ⟨0,Nat.zero_le _,rfl,by simp [badE,Hid]⟩
  case round=>
   obtain ⟨p,h1,rfl,h2⟩:=hrel
   by_cases hlt:p<t.length
   ·obtain ⟨tb,off,rfl,htb,hc⟩:=ht.get hlt
    have i1:(0:Int)≤(p:Int):=by omega
    have i2:(p:Int)<(t.length:Int):=by omega
    obtain ⟨s1,s2⟩:=badE_step hlt h2.out
    by_cases q1:(L.length:Int)≤t[p]
    ·have e0:numE L t[p]=21:=by simp [numE,q1]
     have H:Hid (checkE L t=21):=by
      show _=_
      have:=s1 (by omega)
      rw [checkE_bad hl (by omega)];omega
     clear s1 s2 h2 e0
     go_wp2
     go_ret
     exact ⟨ret_int H.out.symm,rfl⟩
    ·by_cases q2:t[p] < -99
     ·have e0:numE L t[p]=22:=by simp [numE,q1,q2]
      have H:Hid (checkE L t=22):=by
       show _=_
       have:=s1 (by omega)
       rw [checkE_bad hl (by omega)];omega
      clear s1 s2 h2 e0
      go_wp2
      go_ret
      exact ⟨ret_int H.out.symm,rfl⟩
     ·have e0:numE L t[p]=0:=by simp [numE,q1,q2]
      have S2:Hid (badE L (t.take (p+1))=0):=s2 e0
      clear s1 s2 h2 e0
      go_wp2
      exact ⟨⟨p+1,by omega,by go_num,S2⟩,by simp [intOf];omega⟩
   ·obtain rfl:p=t.length:=by omega
    have hb:=h2.out
    rw [List.take_length] at hb
    have HC:Hid (checkE L t=if need L 1 t=some 0 then 0 else 23):=checkE_shape hl hb
    clear h2 hb
    go_wp2
    go_loop [6,7] (fun la i=>∃ p k:Nat,p≤t.length∧i=.int .i64 (p:Int)∧la=.int .i64 (k:Int)∧k≤1+6 * p∧Hid (need L 1 (t.take p)=some k)) (fun _ i=>t.length-(intOf i).toNat)
    case atStart=>exact ⟨0,1,Nat.zero_le _,rfl,rfl,by omega,by simp [need,Hid]⟩
    case round=>
     obtain ⟨p,k,g1,rfl,rfl,g2,g3⟩:=hrel
     by_cases hlt2:p<t.length
     ·obtain ⟨tb,off,rfl,htb,hc⟩:=ht.get hlt2
      have i1:(0:Int)≤(p:Int):=by omega
      have i2:(p:Int)<(t.length:Int):=by omega
      obtain ⟨s1,s2⟩:=need_take g3.out hlt2
      cases k with
      | zero=>
       have H:Hid (checkE L t=23):=by show _=_;rw [HC.out,if_neg (s1 rfl)]
       clear s1 s2 g3 HC
       go_wp2
       go_ret
       exact ⟨ret_int H.out.symm,rfl⟩
      | succ k=>
       have S2:Hid (need L 1 (t.take (p+1))=some (k+arN L t[p])):=s2 k rfl
       have c:=rarity_any h t[p]
       have hle:=arN_le ha t[p]
       clear s1 s2 g3 HC
       generalize arN L t[p]=a at *
       go_wp2_with (first | (go_at_call 101;refine c.mono ?_;rintro e w' ⟨rfl,rfl⟩))
       refine ⟨⟨p+1,k+a,by omega,by go_num,by first | (congr 1;omega) | congr 1,by omega,S2⟩,by simp [intOf];omega⟩
     ·obtain rfl:p=t.length:=by omega
      have g4:=g3.out
      rw [List.take_length] at g4
      by_cases hk0:k=0
      ·subst hk0
       have H:Hid (checkE L t=0):=by show _=_;rw [HC.out,if_pos g4]
       clear g3 g4 HC
       go_wp2
       go_ret
       exact ⟨ret_int H.out.symm,rfl⟩
      ·have H:Hid (checkE L t=23):=by show _=_;rw [HC.out,if_neg (by rw [g4];simp;exact hk0)]
       clear g3 g4 HC
       go_wp2
       go_ret
       exact ⟨ret_int H.out.symm,rfl⟩
theorem wpList_push {w0:World} {ops:Array Oper} {rest:List Oper} {o:Oper} {a:Act} {Q:Exit→Act→World→Prop} (hgd:o.guard=none) (s x:Operand) (t:TypeId)
  (ho:o.op=.call { callee:=.builtin .append,args:=#[s,x],argTypes:=#[t,t] }) (ht:Tryz.prog.underlying t=some (.slice 3))
  (base:Nat) (xs:List Int) (v:Value) (hs:a.eval s=v) (hr:Row base w0 v xs) (y:Int) (hx:a.eval x=.slice (some ⟨w0.heap.size,0,none⟩) 1 1) (hb:base≤w0.heap.size) (hsz:(xs.length+1) * 8≤140737488355328)
  (h:∀ g cap w', Row base w' (.slice (some ⟨g,0,none⟩) (xs.length+1) cap) (xs ++ [y])→Kept (fun k=>v.ownBlock=some k) w0 w' → (v.ownBlock=some g∨w0.heap.size≤g)→wpList Tryz.prog ops Q rest (a.put o.dst (.slice (some ⟨g,0,none⟩) (xs.length+1) cap)) w') :
  wpList Tryz.prog ops Q (o :: rest) a (w0.alloc (.cells #[.int .i64 y] 3)):=by
 obtain ⟨i,hi,hz0,hz1,hz2⟩:=info_parts info_intT
 refine wpList_append_lies _ hgd s x t ho base 3 i (.int .i64 0) 1 8 ht hi hz0 hz1 hz2 rfl (by decide) v xs.length (iv xs) hs (hr.alloc _) ⟨w0.heap.size,0,none⟩ 1 1 [.int .i64 y] hx rfl (cell_one_new _ _ _) (by simp [Value.oneCell']) (by omega) (by unfold maxLen;omega) hsz (by simp;omega) (w0.heap.size+1) (by simp) ?_
 intro g cap w' hown hgrow hat hlt
 refine h g cap w' ?_ ?_ (hat.imp id (fun e=>by omega))
 ·unfold Row;rw [iv_append,List.length_append];exact hown
 ·exact Kept.grown (Kept.alloc (Kept.refl _ w0) _) hgrow (fun _ e _=>e)
theorem Same0.onto {w w0 w' : World} {v:Value} {xs:List Int} (h:Same0 w w0) (hr:Row w.heap.size w0 v xs) (hk:Kept (fun k=>v.ownBlock=some k) w0 w'):Same0 w w' :=
 h.trans hk (fun i hi e=>by have:=(hr.lt i e).1;omega)
set_option maxHeartbeats 4000000 in
theorem rargs_any {n:Nat} {w:World} {rv:Value} {L:List Sym} (h:Rl n w rv L) {ao:Option Addr} {cap:Nat} {t:List Int} (ht:IntsAt w ao t) (hm:t.length≤2000) (hT:IsT L t) (p:Nat) (hp:p<t.length) :
  Calls Tryz.prog 66 #[rv,.slice ao t.length cap,.int .i64 (p:Int)] w fun e w' => ∃ v,e=.returned v∧Row w.heap.size w' v (ofN (argsN L t p))∧Same0 w w' := by
 have H:Hid (argsN L t p=starts L t (arN L t[p]) (p+1)):=argsN_eq hp
 have hf:=(Forest.one hT hp).kids.2
 have har:=arN_le h.2.2.1 t[p]
 have c1:∀ w1,Same0 w w1→Calls Tryz.prog 101 #[rv,.int .i64 t[p]] w1 fun e w' => e=.returned (.int .i64 (arN L t[p]:Int))∧w' = w1:=fun w1 hk=>rarity_any (h.same hk) t[p]
 have c2:∀ w1 q,Same0 w w1→q<t.length→Calls Tryz.prog 67 #[rv,.slice ao t.length cap,.int .i64 (q:Int)] w1 fun e w' => e=.returned (.int .i64 (endN L t q:Int))∧w' = w1:=fun w1 q hk hq=>rend_any (cap:=cap) (h.same hk) (ht.same hk) hm q (by omega)
 have i1:(0:Int)≤(p:Int):=by omega
 have i2:(p:Int)<(t.length:Int):=by omega
 have i0:¬ (p:Int)<0:=by omega
 have i0' : decide ((p:Int)<0)=false:=by simp
 obtain ⟨ro,rcap,rfl⟩:=row_shape h.1
 obtain ⟨tb,off,rfl,htb,hc⟩:=ht.get hp
 have hc' : ∀ w1,Same0 w w1→w1.cell? ⟨tb,off+p,none⟩=some (.int .i64 t[p]):=fun w1 hk=>(hk.cell (p:=⟨tb,off+p,none⟩) htb (fun f=>f)).trans hc
 generalize hA:arN L t[p]=A at *
 have hA:Hid (arN L t[p]=A):=hA
 go_enter Tryz.func66,Tryz.ntmps66
 go_wp2
 go_loopw [7,8,9] (fun out nx i wr=>∃ k:Nat,k≤A∧i=.int .i64 (k:Int)∧nx=.int .i64 (past L t k (p+1):Int)∧Row w.heap.size wr out (ofN (starts L t k (p+1)))∧Same0 w wr) (fun _ _ i _=>A-(intOf i).toNat)
 case atStart=>exact ⟨0,Nat.zero_le _,rfl,rfl,World.ownsRow_nil _ _ _ _,Kept.refl _ _⟩
 case round=>
  obtain ⟨k,hkA,rfl,rfl,hr,hs⟩:=hrel
  have d0:=hc' _ hs
  have cA:=c1 _ hs
  by_cases hlt:k<A
  ·have hfk:=hf.drop (i:=k) (by omega)
   rw [show A-k=(A-k-1)+1 by omega] at hfk
   have hq:past L t k (p+1)<t.length:=by have:=hfk.pos;have:=hfk.le;omega
   have e1:Hid (past L t (k+1) (p+1)=endN L t (past L t k (p+1))):=past_succ L t k (p+1)
   have e2:Hid (ofN (starts L t (k+1) (p+1))=ofN (starts L t k (p+1)) ++ [((past L t k (p+1):Nat):Int)]):=by show _=_;rw [starts_snoc];simp [ofN]
   have hlen:(ofN (starts L t k (p+1))).length=k:=by simp [ofN,starts_length]
   have hlt' : ¬ A≤k:=by omega
   clear hfk c1 hc'
   generalize past L t k (p+1)=P at *
   generalize ofN (starts L t k (p+1))=out at *
   subst hlen
   obtain ⟨oo,ocap,rfl⟩:=row_shape hr
   go_wp2_with (first | (go_at_call 101;refine cA.mono ?_;rintro e w' ⟨rfl,rfl⟩) | (at_builtin;refine wpList_push rfl _ _ 32 rfl Tryz.underlying32 w.heap.size out _ rfl hr (P:Int) rfl hs.size (by omega) ?_;intro g gcap w4 hr4 hk4 _;have hs4:=hs.onto hr hk4) | (go_at_call 67;refine (c2 _ _ hs4 hq).mono ?_;rintro e w' ⟨rfl,rfl⟩))
   rw [← e2.out] at hr4
   go_roundw
   case rel=>first | exact ⟨out.length+1,by omega,by go_num,by rw [e1.out],hr4,hs4⟩ | ((repeat apply Exists.intro);exact ⟨⟨out.length+1,by omega,by go_num,by rw [e1.out],hr4,hs4⟩,rfl⟩)
   case measure=>simp [intOf];omega
  ·obtain rfl:k=A:=by omega
   obtain ⟨oo,ocap,rfl⟩:=row_shape hr
   clear c1 c2 hc'
   go_wp2_with (first | (go_at_call 101;refine cA.mono ?_;rintro e w' ⟨rfl,rfl⟩))
   go_ret
   refine ⟨_,rfl,?_,hs⟩
   rw [H.out];exact hr
end Go.Proofs.YtjahpnbijefncaaGreat
