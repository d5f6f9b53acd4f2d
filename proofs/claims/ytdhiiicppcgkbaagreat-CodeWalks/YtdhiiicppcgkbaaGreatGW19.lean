import Derived.Test.YtdhiiicppcgkbaaGreatGW18
import Derived.Test.YtdhiiicppcgkbaaGreatGW17
import Derived.Test.YtdhiiicppcgkbaaGreatGW10
import Derived.Test.YtdhiiicppcgkbaaGreatGW06
import Derived.Test.YtdhiiicppcgkbaaGreatGW03
import Derived.Test.YtdhiiicppcgkbaaGreatGW05
import Derived.Test.YtdhiiicppcgkbaaGreatGW04
namespace Go.Proofs.YtdhiiicppcgkbaaGreat
set_option maxRecDepth 100000
set_option linter.unusedVariables false
structure GL (n:Nat) (R:List Rw) (t:Tr n):Prop where
 len:(rulesF n t).length=R.length
 mem:∀ x∈R,x.1∈rulesF n t
 fl:(szT n t).2.2=if R.length=0 then 1 else 0
 br:(szT n t).2.1≤n * R.length
 lv:(szT n t).1=R.length
 b0:(szT n t).2.1=0→R.length≤1
 sm:SmK n t
def cntR (R:List Rw) (c:Nat) (k:Nat):Nat:=(R.filter (fun x=>decide (numR x c<(k:Int)))).length
theorem cntR_succ {R:List Rw} {c k:Nat} (h:∀ x∈R,0≤numR x c):cntR R c (k+1)=cntR R c k+(havR R c (k:Int)).length:=by
 unfold cntR havR
 induction R with
 | nil=>rfl
 | cons x r ih=>
  have h0:=ih (fun y hy=>h y (List.mem_cons_of_mem _ hy))
  have hx:=h x (List.mem_cons_self ..)
  by_cases h1:numR x c<(k:Int)
  ·have h2:numR x c<((k+1:Nat):Int):=by omega
   have h3:¬ numR x c=(k:Int):=by omega
   simp only [List.filter_cons,h1,h2,h3,decide_true,decide_false,if_true,Bool.false_eq_true,if_false,List.length_cons]
   omega
  ·by_cases h3:numR x c=(k:Int)
   ·have h2:numR x c<((k+1:Nat):Int):=by omega
    simp only [List.filter_cons,h3,decide_true,if_true,List.length_cons]
    have h4:((k:Int)<((k+1:Nat):Int)):=by omega
    simp only [h4,decide_true,if_true,List.length_cons,Int.lt_irrefl,decide_false,Bool.false_eq_true,if_false]
    omega
   ·have h2:¬ numR x c<((k+1:Nat):Int):=by omega
    simp only [List.filter_cons,h1,h2,h3,decide_false,Bool.false_eq_true,if_false]
    exact h0
structure KL (n:Nat) (R:List Rw) (c k:Nat) (l:List (Int × Tr n)):Prop where
 len:(l.flatMap (fun x=>rulesF n x.2)).length=cntR R c k
 mem:∀ x∈R,numR x c<(k:Int)→x.1∈l.flatMap (fun x=>rulesF n x.2)
 fl:(sum3 (fun x=>szT n x.2) l).2.2=0
 br:(sum3 (fun x=>szT n x.2) l).2.1≤n * cntR R c k
 lv:(sum3 (fun x=>szT n x.2) l).1=cntR R c k
 le:l.length≤k
 sm:∀ i (h:i<l.length),SmK n l[i].2
theorem kids_KL {L:List Sym} {n:Nat} {P:List (List Int)} {R:List Rw} {c:Nat} (h0:∀ x∈R,0≤numR x c) (IH:∀ s,s<L.length→havR R c (s:Int)≠[]→∀ t,growF L n (kidP L P c s) ((havR R c (s:Int)).map (kidX L c))=.ok t→GL n ((havR R c (s:Int)).map (kidX L c)) t):∀ k,k≤L.length→∀ l,KidsF L n P R c k=.ok l→KL n R c k l
 | 0,_,l,h=>by
  cases h
  have e:cntR R c 0=0:=by
   unfold cntR
   rw [List.length_eq_zero_iff,List.filter_eq_nil_iff]
   intro x hx
   have:=h0 x hx
   simp;omega
  exact ⟨by rw [e];rfl,fun x hx hn=>by have:=h0 x hx;omega,rfl,by simp [sum3],by rw [e];rfl,Nat.le_refl _,fun i hi=>absurd hi (by simp)⟩
 | k+1,hk,l,h=>by
  have hsucc:=cntR_succ (c:=c) (k:=k) h0
  cases hm:KidsF L n P R c k with
  | error e=>rw [KidsF_err hm (Nat.le_succ k)] at h;cases h
  | ok m=>
   have K:=kids_KL h0 IH k (by omega) m hm
   have hm' := hm
   unfold KidsF at hm' h
   rw [kidsN,hm'] at h
   simp only at h
   by_cases hh:0<(havR R c (k:Int)).length
   ·simp only [hh,decide_true,if_true] at h
    cases hg:growF L n (kidP L P c k) ((havR R c (k:Int)).map (kidX L c)) with
    | error e=>rw [hg] at h;cases h
    | ok t=>
     rw [hg] at h
     cases h
     have G:=IH k (by omega) (fun e=>by rw [e] at hh;simp at hh) t hg
     have hGl:=G.len
     rw [List.length_map] at hGl
     have hGv:=G.lv
     rw [List.length_map] at hGv
     have hGb:=G.br
     rw [List.length_map] at hGb
     have hGf:=G.fl
     rw [List.length_map,if_neg (by omega)] at hGf
     have efl:(m ++ [((k:Int),t)]).flatMap (fun x=>rulesF n x.2)=m.flatMap (fun x=>rulesF n x.2)++rulesF n t:=by simp
     have es:sum3 (fun x:Int × Tr n=>szT n x.2) (m ++ [((k:Int),t)])=add3 (sum3 (fun x=>szT n x.2) m) (szT n t):=by rw [sum3_append];simp [sum3,add3]
     refine ⟨?_,fun x hx hn=>?_,?_,?_,?_,?_,fun i hi=>?_⟩
     ·rw [efl,List.length_append,K.len,hGl,hsucc]
     ·rw [efl]
      by_cases hlt:numR x c<(k:Int)
      ·exact List.mem_append_left _ (K.mem x hx hlt)
      ·refine List.mem_append_right _ ?_
       have hx2:x∈havR R c (k:Int):=by
        unfold havR
        rw [List.mem_filter]
        exact ⟨hx,by simp;omega⟩
       exact G.mem (kidX L c x) (List.mem_map.2 ⟨x,hx2,rfl⟩)
     ·rw [es];simp only [add3];rw [K.fl,hGf]
     ·rw [es];simp only [add3];have:=K.br;rw [hsucc,Nat.mul_add];omega
     ·rw [es];simp only [add3];rw [K.lv,hGv,hsucc]
     ·have:=K.le;simp;omega
     ·by_cases hi2:i<m.length
      ·rw [List.getElem_append_left hi2];exact K.sm i hi2
      ·obtain rfl:i=m.length:=by simp at hi;omega
       simpa using G.sm
   ·simp only [hh,decide_false,Bool.false_eq_true,if_false] at h
    cases h
    have hz:(havR R c (k:Int)).length=0:=by omega
    rw [hz,Nat.add_zero] at hsucc
    refine ⟨by rw [hsucc];exact K.len,fun x hx hn=>?_,K.fl,by rw [hsucc];exact K.br,by rw [hsucc];exact K.lv,by have:=K.le;omega,K.sm⟩
    refine K.mem x hx ?_
    by_cases e:numR x c=(k:Int)
    ·have hx2:x∈havR R c (k:Int):=by
      unfold havR
      rw [List.mem_filter]
      exact ⟨hx,by simp [e]⟩
     rw [List.eq_nil_of_length_eq_zero hz] at hx2
     simp at hx2
    ·omega
theorem grow_GL {L:List Sym} (hA:Ars L) (hL:L.length≤64):∀ (n:Nat) (P:List (List Int)) (R:List Rw) (t:Tr n),NdOk L n P R→growF L n P R=.ok t→GL n R t
 | 0,P,R,t,h,_=>absurd h.pos (Nat.lt_irrefl 0)
 | n+1,P,R,t,h,hg=>by
  by_cases h0:R.length=0
  ·rw [growF_zero h0] at hg
   cases hg
   refine ⟨by simp [rulesF,h0],fun x hx=>?_,by simp [szT,kind3,add3,h0],by simp [szT,kind3,add3],by simp [szT,kind3,add3,h0],fun _=>by omega,by simp,fun i hi=>absurd hi (by simp)⟩
   rw [List.eq_nil_of_length_eq_zero h0] at hx;simp at hx
  ·cases hp:partN R P.length with
   | none=>
    by_cases h1:R.length=1
    ·rw [growF_leaf h1 hp] at hg
     cases hg
     refine ⟨by simp [rulesF,h1],fun x hx=>?_,by simp [szT,kind3,add3,h0],by simp [szT,kind3,add3],by simp [szT,kind3,add3,h1],fun _=>by omega,by simp,fun i hi=>absurd hi (by simp)⟩
     match R,h1 with
     | [y],_=>
      simp at hx
      subst hx
      simp [rulesF]
    ·rw [growF_fork h0 h1 hp] at hg;cases hg
   | some c=>
    rw [growF_branch h0 hp] at hg
    unfold BrF at hg
    cases hk:KidsF L n P R c L.length with
    | error e=>rw [hk] at hg;cases hg
    | ok l=>
     rw [hk] at hg
     cases hg
     obtain ⟨hc,hcon⟩:=partN_some hp
     have hn0:∀ x∈R,0≤numR x c:=fun x hx=>by
      unfold conB at hcon
      have:=List.all_eq_true.1 hcon x hx
      simpa using this
     have hnL:∀ x∈R,numR x c<(L.length:Int):=fun x hx=>by
      obtain ⟨k1,k2,k3,_⟩:=h.ok x hx
      have hc' : c<x.2.2.length:=by omega
      have hp' := k3 _ (List.getElem_mem hc')
      rw [numR_eq hc' hp']
      exact (badE_zero.1 (checkE_zero.1 k1).2.1 _ (List.getElem_mem hp')).1
     have K:=kids_KL hn0 (fun s hs hne t ht=>grow_GL hA hL n _ _ t (h.kid hc hs (arN_le hA _) hne) ht) L.length (Nat.le_refl _) l hk
     have hall:cntR R c L.length=R.length:=by
      unfold cntR
      rw [List.filter_eq_self.2 (fun x hx=>by simpa using hnL x hx)]
     have er:rulesF (n+1) (2,0,P.getD c [],l)=l.flatMap (fun x=>rulesF n x.2):=by simp [rulesF]
     have es:szT (n+1) (2,0,P.getD c [],l)=add3 (0,1,0) (sum3 (fun x=>szT n x.2) l):=by simp [szT,kind3]
     refine ⟨?_,fun x hx=>?_,?_,?_,?_,fun e=>?_,?_,K.sm⟩
     ·rw [er,K.len,hall]
     ·rw [er];exact K.mem x hx (hnL x hx)
     ·rw [es,if_neg h0];simp only [add3];rw [K.fl]
     ·rw [es];simp only [add3];have:=K.br;rw [hall] at this;rw [Nat.add_mul];omega
     ·rw [es];simp only [add3];rw [K.lv,hall];omega
     ·rw [es] at e;simp only [add3] at e;omega
     ·have:=K.le;omega
def K3:(n:Nat)→Tr n→Prop
 | 0,_=>True
 | n+1,(k,r,p,l)=>(k=1∨k=2∨k=3)∧∀ x∈l,K3 n x.2
theorem kids_K3 {L:List Sym} {n:Nat} {P:List (List Int)} {R:List Rw} {c:Nat} (IH:∀ P R t,growF L n P R=.ok t→K3 n t):∀ k l,KidsF L n P R c k=.ok l→∀ x∈l,K3 n x.2
 | 0,l,h=>by cases h;simp
 | k+1,l,h=>by
  unfold KidsF kidsN at h
  cases hk:KidsF L n P R c k with
  | error e=>unfold KidsF at hk;rw [hk] at h;cases h
  | ok m=>
   have hm:=kids_K3 IH k m hk
   unfold KidsF at hk
   rw [hk] at h
   simp only at h
   split at h
   ·split at h
    ·cases h
    ·rename_i t ht
     cases h
     intro x hx
     rcases List.mem_append.1 hx with q | q
     ·exact hm x q
     ·simp only [List.mem_singleton] at q
      rw [q]
      exact IH _ _ _ ht
   ·cases h;exact hm
theorem grow_K3 {L:List Sym}:∀ (n:Nat) (P:List (List Int)) (R:List Rw) (t:Tr n),growF L n P R=.ok t→K3 n t
 | 0,P,R,t,h=>trivial
 | n+1,P,R,t,h=>by
  by_cases h0:R.length=0
  ·rw [growF_zero h0] at h
   cases h
   exact ⟨.inr (.inr rfl),by simp⟩
  ·cases hp:partN R P.length with
   | none=>
    by_cases h1:R.length=1
    ·rw [growF_leaf h1 hp] at h
     cases h
     exact ⟨.inl rfl,by simp⟩
    ·rw [growF_fork h0 h1 hp] at h;cases h
   | some c=>
    rw [growF_branch h0 hp] at h
    unfold BrF at h
    cases hk:KidsF L n P R c L.length with
    | error e=>rw [hk] at h;cases h
    | ok l=>
     rw [hk] at h
     cases h
     exact ⟨.inr (.inl rfl),kids_K3 (grow_K3 n) _ _ hk⟩
def tot3 (a:T3):Nat:=a.1+a.2.1+a.2.2
theorem tot_add (a b:T3):tot3 (add3 a b)=tot3 a+tot3 b:=by simp [tot3,add3];omega
theorem szT_eq {n:Nat} (k r:Int) (p:List Int) (l:List (Int × Tr n)):szT (n+1) (k,r,p,l)=add3 (kind3 k) (if k=2 then sum3 (fun x=>szT n x.2) l else (0,0,0)):=rfl
theorem K3_eq {n:Nat} (k r:Int) (p:List Int) (l:List (Int × Tr n)):K3 (n+1) (k,r,p,l)=((k=1∨k=2∨k=3)∧∀ x∈l,K3 n x.2):=rfl
theorem insN_kids {n:Nat} (h:∀ t:Tr n,K3 n t→insN n t+1≤4 * tot3 (szT n t)):∀ l:List (Int × Tr n),(∀ x∈l,K3 n x.2)→sumN (l.map (fun x=>insN n x.2))+l.length≤4 * tot3 (sum3 (fun x=>szT n x.2) l)
 | [],_=>by simp [sumN,sum3,tot3]
 | x :: r,hx=>by
  have a:=h x.2 (hx x (List.mem_cons_self ..))
  have b:=insN_kids h r (fun y hy=>hx y (List.mem_cons_of_mem _ hy))
  simp only [List.map_cons,sumN,sum3,tot_add,List.length_cons]
  omega
theorem insN_le:∀ (n:Nat) (t:Tr (n+1)),K3 (n+1) t→insN (n+1) t+1≤4 * tot3 (szT (n+1) t)
 | n,(k,r,p,l),h=>by
  rw [K3_eq] at h
  obtain ⟨hk,hl⟩:=h
  rw [insN_eq,szT_eq,tot_add]
  rcases hk with rfl | rfl | rfl
  ·rw [if_neg (by decide),if_neg (by decide)];simp [kind3,tot3]
  ·rw [if_pos rfl,if_pos rfl]
   have e1:tot3 (kind3 2)=1:=rfl
   rw [e1]
   cases n with
   | zero=>
    have:l=[]:=by
     cases l with
     | nil=>rfl
     | cons x r=>exact (x.2:Empty).elim
    subst this
    simp [sumN,sum3,tot3]
   | succ n=>
    have:=insN_kids (insN_le n) l hl
    omega
  ·rw [if_neg (by decide),if_neg (by decide)];simp [kind3,tot3]
theorem tree_small {L:List Sym} (hA:Ars L) (hL:L.length≤64) {R:List Ru} (hle:R.length≤100) (hok:∀ x∈R,checkE L x.1=0∧checkE L x.2=0) {s:Nat} (hs:s<L.length) {t:Tr 2001} (h:treeF L R s=.ok t):insN 2001 t≤1000000:=by
 have hN:=root_ok hA hle hok hs
 have G:GL 2001 (rootR L R s) t:=grow_GL hA hL 2001 _ _ t hN h
 have hR:=hN.le
 have h1:insN 2001 t+1≤4 * tot3 (szT 2001 t):=insN_le 2000 t (grow_K3 2001 _ _ t h)
 have h2:=G.lv
 have h3:=G.br
 have h4:=G.fl
 have h5:(szT 2001 t).2.2≤1:=by rw [h4];split <;> omega
 have h6:2001 * (rootR L R s).length≤2001 * 100:=Nat.mul_le_mul_left _ hR
 simp only [tot3] at h1
 omega
def cmpS (L:List Sym) (R:List Ru):Nat→St9 × List Int
 | 0=>(([],[]),[])
 | k+1=>if defB L (k:Int)=true then (match treeF L R k with | .ok t=>(layS 2001 t (cmpS L R k).1,(cmpS L R k).2 ++ [((cmpS L R k).1.1.length:Int)]) | .error _=>((cmpS L R k).1,(cmpS L R k).2)) else ((cmpS L R k).1,(cmpS L R k).2 ++ [-1])
theorem cmpS_no {L:List Sym} {R:List Ru} {k:Nat} (h:defB L (k:Int)=false):cmpS L R (k+1)=((cmpS L R k).1,(cmpS L R k).2 ++ [-1]):=by rw [cmpS,if_neg (by rw [h];simp)]
theorem cmpS_yes {L:List Sym} {R:List Ru} {k:Nat} (h:defB L (k:Int)=true) {t:Tr 2001} (ht:treeF L R k=.ok t):cmpS L R (k+1)=(layS 2001 t (cmpS L R k).1,(cmpS L R k).2 ++ [((cmpS L R k).1.1.length:Int)]):=by rw [cmpS,if_pos h,ht]
theorem cmpS_small {L:List Sym} (hA:Ars L) (hL:L.length≤64) {R:List Ru} (hle:R.length≤100) (hok:∀ x∈R,checkE L x.1=0∧checkE L x.2=0):∀ k,k≤L.length→(cmpS L R k).1.1.length+(cmpS L R k).1.2.length≤k * 1000000∧(cmpS L R k).2.length≤k
 | 0,_=>by simp [cmpS]
 | k+1,hk=>by
  obtain ⟨a,b⟩:=cmpS_small hA hL hle hok k (by omega)
  cases hd:defB L (k:Int) with
  | false=>
   rw [cmpS_no hd]
   simp only [List.length_append,List.length_cons,List.length_nil]
   omega
  | true=>
   cases ht:treeF L R k with
   | error z=>
    rw [cmpS,if_pos hd,ht]
    simp only
    omega
   | ok t=>
    rw [cmpS_yes hd ht]
    have h1:=tree_small hA hL hle hok (s:=k) (by omega) ht
    have h2:=(layS_len 2001 t (cmpS L R k).1).1
    simp only [List.length_append,List.length_cons,List.length_nil]
    omega
end Go.Proofs.YtdhiiicppcgkbaaGreat
namespace Go.Proofs.YtdhiiicppcgkbaaGreat
set_option maxRecDepth 100000
set_option linter.unusedVariables false
open Go.RowKit
attribute [local go_sem ↓] Go.wp_at_zero Go.wp_at_succ
theorem AIn.more {L:List Sym} {T:List Int} {wp wr w1:World} {gA gE p j gg cap:Nat} {en:Nat→Int} {f:Nat→Value} {vo:Option Addr} {vc:Nat} (hT:IsT L T) (hp:p<T.length) (hj:j<arN L T[p]) (hg:gA≠gE) (hlA:gA<wp.heap.size) (hlE:gE<wp.heap.size) (h6:∀ q,p+1≤q→q<T.length→en q=(endN L T q:Int))
  (h1:Kept (fun k=>k=gE∨k=gA) wp wr) (h2:Nums wr gE T.length (fun q=>if q=p then (past L T j (p+1):Int) else en q)) (h3:Lsts wr gA T.length (fun q=>if q=p then .slice vo j vc else f q)) (h4:wr.ownsRow wp.heap.size 3 1 (.slice vo j vc) j (iv (ofN (starts L T j (p+1)))))
  (hr:w1.ownsRow wp.heap.size 3 1 (.slice (some ⟨gg,0,none⟩) (j+1) cap) (j+1) (iv (ofN (starts L T j (p+1))) ++ [.int .i64 (past L T j (p+1):Int)])) (hk:Kept (fun k=>(Value.slice vo j vc).ownBlock=some k) wr w1) (hat:(Value.slice vo j vc).ownBlock=some gg∨wr.heap.size≤gg) :
  (w1.cell? ⟨gA,p,none⟩=some (.slice vo j vc)∧w1.frozen? ⟨gA,p,none⟩=false) ∧
  ((w1.setCell ⟨gA,p,none⟩ (.slice (some ⟨gg,0,none⟩) (j+1) cap)).cell? ⟨gE,p,none⟩=some (.int .i64 (past L T j (p+1):Int))∧(w1.setCell ⟨gA,p,none⟩ (.slice (some ⟨gg,0,none⟩) (j+1) cap)).cell? ⟨gE,past L T j (p+1),none⟩=some (.int .i64 (endN L T (past L T j (p+1)):Int))∧(w1.setCell ⟨gA,p,none⟩ (.slice (some ⟨gg,0,none⟩) (j+1) cap)).frozen? ⟨gE,p,none⟩=false) ∧
  AIn L T wp gA gE p en f (j+1) ((w1.setCell ⟨gA,p,none⟩ (.slice (some ⟨gg,0,none⟩) (j+1) cap)).setCell ⟨gE,p,none⟩ (.int .i64 (endN L T (past L T j (p+1)):Int))):=by
 have hf:=(Forest.one hT hp).kids.2
 have hfk:=hf.drop (i:=j) (by omega)
 rw [show arN L T[p]-j=(arN L T[p]-j-1)+1 by omega] at hfk
 have hq:past L T j (p+1)<T.length:=by have:=hfk.pos;have:=hfk.le;omega
 have hfj:=hf.drop (i:=0) (by omega)
 have hge:p+1≤past L T j (p+1):=by
  have:=(Forest.le (k:=arN L T[p]-j-1+1) hfk)
  rcases Nat.eq_zero_or_pos j with e | e
  ·subst e;exact Nat.le_refl _
  ·have h9:=past_mono hf (i:=0) (j:=j) e (by omega)
   have h10:=hf
   rw [show arN L T[p]=(arN L T[p]-1)+1 by omega] at h10
   have:=h10.succ.2.1
   simp only [past] at h9
   omega
 have hbz:=h1.size
 have own:∀ k,(Value.slice vo j vc).ownBlock=some k→wp.heap.size≤k:=fun k e=>by
  rcases h4.2 with ⟨e1,_⟩ | ⟨g,c,cur,e1,e2,_⟩
  ·rw [e1] at e;simp [Value.ownBlock] at e
  ·rw [e1] at e;simp only [Value.ownBlock,Option.some.injEq] at e;omega
 have nA:¬ (Value.slice vo j vc).ownBlock=some gA:=fun e=>by have:=own _ e;omega
 have nE:¬ (Value.slice vo j vc).ownBlock=some gE:=fun e=>by have:=own _ e;omega
 have gge:wp.heap.size≤gg:=by
  rcases hat with e | e
  ·exact own _ e
  ·omega
 have v1:=h3.kept hk nA
 have n1:=h2.kept hk nE
 have v2:=v1.set p (.slice (some ⟨gg,0,none⟩) (j+1) cap)
 have k2:Kept (fun k=>k=gA) w1 (w1.setCell ⟨gA,p,none⟩ (.slice (some ⟨gg,0,none⟩) (j+1) cap)):=kept_at _ _ _ _
 have n2:=n1.kept k2 (fun e=>hg e.symm)
 have k3:Kept (fun k=>k=gE) (w1.setCell ⟨gA,p,none⟩ (.slice (some ⟨gg,0,none⟩) (j+1) cap)) ((w1.setCell ⟨gA,p,none⟩ (.slice (some ⟨gg,0,none⟩) (j+1) cap)).setCell ⟨gE,p,none⟩ (.int .i64 (endN L T (past L T j (p+1)):Int))):=kept_at _ _ _ _
 have n3:=n2.set p (endN L T (past L T j (p+1)):Int)
 have v3:=v2.kept k3 (fun e=>hg e)
 have a1:=v1.cell hp
 have a2:=n2.cell hp
 have a3:=n2.cell hq
 simp only [if_pos] at a1 a2
 rw [if_neg (by omega),h6 _ hge hq] at a3
 refine ⟨a1,⟨a2.1,a3.1,a2.2⟩,?_,?_,some ⟨gg,0,none⟩,cap,?_,?_⟩
 ·exact Kept.trans (Kept.trans (Kept.trans h1 hk (fun i hi e=>by have:=own _ e;omega)) k2 (fun _ _ e=>.inr e)) k3 (fun _ _ e=>.inl e)
 ·refine n3.congr (fun i hi=>?_)
  by_cases e:i=p
  ·rw [if_pos e,if_pos e,past_succ]
  ·rw [if_neg e,if_neg e,if_neg e]
 ·refine v3.congr (fun i hi=>?_)
  by_cases e:i=p
  ·rw [if_pos e,if_pos e]
  ·rw [if_neg e,if_neg e,if_neg e]
 ·have r2:=k3.row (k2.row hr (fun k e q=>by simp only [Value.ownBlock,Option.some.injEq] at e;omega)) (fun k e q=>by simp only [Value.ownBlock,Option.some.injEq] at e;omega)
  rw [starts_snoc]
  have:iv (ofN (starts L T j (p+1) ++ [past L T j (p+1)]))=iv (ofN (starts L T j (p+1))) ++ [.int .i64 (past L T j (p+1):Int)]:=by simp [ofN,iv]
  rw [this]
  exact r2
theorem AOut.psb {L:List Sym} {T:List Int} {w wr:World} {gA gE:Nat} (h:AOut L T w gA gE 0 wr):PsB w.heap.size wr (some ⟨gA,0,none⟩) (argsL L T)∧Same0 w wr:=by
 obtain ⟨h0,h1,h2,h3,en,f,h4,h5,h6,h7,h8⟩:=h
 refine ⟨.inr ⟨gA,0,rfl,h2,h5.lt,fun i hi=>?_⟩,h0⟩
 have hi' : i<T.length:=by rw [argsL_length] at hi;exact hi
 obtain ⟨ao,ac,e1,e2,e3⟩:=h8 i (Nat.zero_le _) hi'
 refine ⟨ao,ac,?_,by rw [argsL_at];exact e2,fun a e=>(e3 a e).2.2⟩
 rw [argsL_at,ofN_len,Nat.zero_add,← e1]
 exact (h5.cell hi').1
set_option maxHeartbeats 16000000 in
theorem argsOf_any {n b:Nat} {w:World} {L:List Sym} (h:Sg n w b L) {ao:Option Addr} {cap:Nat} {T:List Int} (ht:IntsAt w ao T) (hc:checkE L T=0) (hv:∀ x∈T,0≤x) :
  Calls Tryz.prog 63 #[.pointer (some ⟨b,0,none⟩),.slice ao T.length cap] w fun e w' => ∃ go gc,e=.returned (.slice go T.length gc)∧PsB w.heap.size w' go (argsL L T)∧Same0 w w' := by
 obtain ⟨hm,hbad,hT⟩:=checkE_zero.1 hc
 have hnum:Hid (∀ p (hp:p<T.length),∃ i:Nat,T[p]=(i:Int)∧i<L.length):=fun p hp=>by
  have h1:=badE_zero.1 hbad T[p] (List.getElem_mem hp)
  have h2:=hv T[p] (List.getElem_mem hp)
  exact ⟨T[p].toNat,by omega,by omega⟩
 have CAT:Hid (∀ ww i (hi:i<L.length),Same0 w ww→Calls Tryz.prog 105 #[.pointer (some ⟨b,0,none⟩),.int .i64 (i:Int)] ww fun e w' => ∃ nm df,e=.returned (.tuple #[.agg #[.string nm,.int .i64 ((arN L (i:Int):Nat):Int),.bool df],.int .i64 0])∧Same0 ww w'):=fun ww i hi hk=>by
  refine (sg_at_yes (h.same hk) hi).mono ?_
  rintro e w' ⟨rfl,hk'⟩
  exact ⟨_,_,by rw [ar_of h.2 hi],hk'⟩
 have HAR:=fun z=>arN_le h.2 z
 obtain ⟨i1,hi1,hz0,hz1,hz2⟩:=info_parts info_intT
 obtain ⟨i2,hi2,hy0,hy1,hy2⟩:=info_parts (show (Tryz.prog.info? 22).map (fun i=>(i.zero,i.size,i.bytes))=some (some (.slice none 0 0),1,24) by kernel_rfl)
 obtain ⟨N,hN⟩:∃ N,N=T.length:=⟨_,rfl⟩
 have hmN:N≤2000:=by omega
 have mA:∀ w:World,(Instr.makeSlice 28 (.int .i64 (N:Int)) (.int .i64 (N:Int))).run Tryz.prog w=.ok (.slice (some ⟨w.heap.size,0,none⟩) N N) (w.alloc (.cells (madeCells #[.slice none 0 0] N) 22)):=fun w=>by
  have:=run_make w 28 22 i2 _ Tryz.underlying28 hi2 hy0 .i64 .i64 (N:Int) (N:Int) (by omega) (by omega) (by rw [hy2];omega) (by omega)
  simpa [hy1,Value.cells] using this
 have mE:∀ w:World,(Instr.makeSlice 22 (.int .i64 (N:Int)) (.int .i64 (N:Int))).run Tryz.prog w=.ok (.slice (some ⟨w.heap.size,0,none⟩) N N) (w.alloc (.cells (madeCells #[.int .i64 0] N) 3)):=fun w=>by
  have:=run_make w 22 3 i1 _ Tryz.underlying22 hi1 hz0 .i64 .i64 (N:Int) (N:Int) (by omega) (by omega) (by rw [hz2];omega) (by omega)
  simpa [hz1,Value.cells] using this
 have HN:Hid (N=T.length∧IsT L T):=⟨hN,hT⟩
 have START:Hid (∀ wc gA gE,Same0 w wc→gA≠gE→w.heap.size≤gA→w.heap.size≤gE→wc.heap[gA]? = some (.cells (madeCells #[.slice none 0 0] N) 22 (0,0))→wc.heap[gE]? = some (.cells (madeCells #[.int .i64 0] N) 3 (0,0))→AOut L T w gA gE N wc):=by
  intro wc gA gE k1 k2 k3 k4 k5 k6
  subst hN
  exact ⟨k1,k2,k3,k4,fun _=>0,fun _=>.slice none 0 0,⟨_,_,k6,by rw [size_madeCells];exact Nat.le_refl _,fun i hi=>umade_zero _ i hi⟩,⟨_,k5,size_madeCells _ _,fun i hi=>made_slices _ i hi⟩,fun q a b=>by omega,fun q _=>rfl,fun q a b=>by omega⟩
 have HT:Hid (∀ ww p (hp:p<T.length),Same0 w ww→∃ tb off,ao=some ⟨tb,off,none⟩∧ww.cell? ⟨tb,off+p,none⟩=some (.int .i64 T[p])):=fun ww p hp hk=>by
  obtain ⟨tb,off,e,_,hcc⟩:=(ht.same hk).get hp
  exact ⟨tb,off,e,hcc⟩
 rw [← hN]
 clear h ht hc hv hbad hm hT hN
 go_enter Tryz.func63,Tryz.ntmps63
 go_upto_region 1 with fail
 go_cut [5,6] from 10 to 15 (fun s5 s6 wc=>∃ gA gE,s5=.slice (some ⟨gA,0,none⟩) N N∧s6=.slice (some ⟨gE,0,none⟩) N N∧AOut L T w gA gE N wc)
 case first=>
  go_region
  all_goals
   go_wp2_with fail
   go_meet
   case rel=>
    first
     | exact ⟨_,_,rfl,rfl,START.out _ _ _ (Kept.drew (Kept.alloc (Kept.alloc (Kept.refl _ w) _) _)) (by omega) (by omega) (by omega) (heap_alloc2_old w _ _) (heap_al_al w _ _)⟩
     | exact ⟨_,_,rfl,rfl,START.out _ _ _ (Kept.drew (Kept.alloc (Kept.alloc (Kept.refl _ w) _) _)) (by omega) (by omega) (by omega) (heap_al_al w _ _) (heap_alloc2_old w _ _)⟩
 case rest=>
  obtain ⟨gA,gE,rfl,rfl,hO⟩:=hcut
  clear START mA mE
  go_wp2_with fail
  go_loopw [7] (fun s7 wr=>∃ k:Nat,k≤N∧s7=.int .i64 ((k:Int)-1)∧AOut L T w gA gE k wr) (fun s7 _=>(intOf s7+1).toNat)
  case atStart=>exact ⟨N,Nat.le_refl _,by go_num,hO⟩
  case round=>
   clear hO
   obtain ⟨k,hk,rfl,hO⟩:=hrel
   cases k with
   | zero=>
    obtain ⟨q1,q2⟩:=hO.psb
    clear hO
    go_wp2_with fail
    go_ret
    exact ⟨_,_,rfl,q1,q2⟩
   | succ p=>
    have hs7:(((p+1:Nat):Int)-1)=(p:Int):=by omega
    rw [hs7]
    have hp:p<T.length:=by have:=HN.out.1;omega
    obtain ⟨i,hTi,hiL⟩:=hnum.out p hp
    obtain ⟨tb,off,rfl,hcell⟩:=HT.out wr p hp hO.1
    rw [hTi] at hcell
    have CA:=CAT.out wr i hiL hO.1
    obtain ⟨A,hA⟩:∃ A,arN L (i:Int)=A:=⟨_,rfl⟩
    have HA:Hid (arN L T[p]=A):=by show _=_;rw [hTi];exact hA
    have hA6:A≤6:=by rw [← hA];exact HAR _
    rw [hA] at CA
    have j1:(0:Int)≤(p:Int):=by omega
    have j2:(p:Int)<(N:Int):=by omega
    have j3:(p:Int)<2000:=by omega
    have HO:Hid (∀ ww,Same0 wr ww→AOut L T w gA gE (p+1) ww):=fun ww hk=>hO.same hk
    clear hTi hA hO
    go_upto_region 6 with (first | (go_at_call 105;refine CA.mono ?_;rintro e w1 ⟨nm,df,rfl,k1⟩))
    obtain ⟨w2,hw2⟩:∃ w2,w2=w1.alloc (.cells #[.string nm,.int .i64 ((A:Nat):Int),.bool df] 82):=⟨_,rfl⟩
    have k2:Same0 w1 w2:=by rw [hw2];exact (Kept.refl _ _).alloc _
    have bx:w2.heap[w1.heap.size]? = some (.cells #[.string nm,.int .i64 ((A:Nat):Int),.bool df] 82 (0,0)):=by rw [hw2];exact heap_alloc_new _ _
    rw [← hw2]
    clear hw2
    obtain ⟨s0,hg,hgA,hgE,en,f,n2,v2,h6,h7,h8⟩:=HO.out w2 (k1.trans' k2)
    obtain ⟨z0,z1⟩:=n2.cell hp
    have kE:=kept_at w2 gE p (.int .i64 ((p:Int)+1))
    have lA:=v2.lt
    have lE:=n2.lt
    have hbE:¬ w1.heap.size=gE:=fun e=>by
     obtain ⟨cs,t,c1,c2,c3⟩:=n2
     rw [← e,bx] at c1
     simp only [Option.some.injEq,Obj.cells.injEq] at c1
     have:=c3 0 (by omega)
     rw [← c1.1] at this
     simp at this
    have xA:(w2.setCell ⟨gE,p,none⟩ (.int .i64 ((p:Int)+1))).cell? ⟨w1.heap.size,1,none⟩=some (.int .i64 ((A:Nat):Int)):=(kE.cell (p:=⟨w1.heap.size,1,none⟩) (lt_of_at bx) hbE).trans (cellAt bx 1)
    have START2:AIn L T w2 gA gE p en f 0 (w2.setCell ⟨gE,p,none⟩ (.int .i64 ((p:Int)+1))):=by
     refine ⟨kE.mono (fun _ _ e=>.inl e),?_,none,0,?_,World.ownsRow_nil _ _ _ _⟩
     ·refine (n2.set p ((p:Int)+1)).congr (fun q hq=>?_)
      by_cases e:q=p
      ·rw [if_pos e,if_pos e];simp [past]
      ·rw [if_neg e,if_neg e]
     ·refine (v2.kept kE (fun e=>hg e)).congr (fun q hq=>?_)
      by_cases e:q=p
      ·rw [if_pos e,e];exact h7 p (by omega)
      ·rw [if_neg e]
    have HS2:Hid (AIn L T w2 gA gE p en f 0 (w2.setCell ⟨gE,p,none⟩ (.int .i64 ((p:Int)+1)))):=START2
    have FIN2:Hid (∀ ww,AIn L T w2 gA gE p en f A ww→AOut L T w gA gE p ww):=fun ww hI=>by
     rw [← HA.out] at hI
     exact AIn.done HN.out.2 hp s0 hg hgA hgE h6 h7 h8 lA lE hI
    have MORE:Hid (∀ ww j vo vc,j<A→Kept (fun k=>k=gE∨k=gA) w2 ww→Nums ww gE T.length (fun q=>if q=p then (past L T j (p+1):Int) else en q)→Lsts ww gA T.length (fun q=>if q=p then .slice vo j vc else f q)→ww.ownsRow w2.heap.size 3 1 (.slice vo j vc) j (iv (ofN (starts L T j (p+1))))→∀ gg cap w1,w1.ownsRow w2.heap.size 3 1 (.slice (some ⟨gg,0,none⟩) (j+1) cap) (j+1) (iv (ofN (starts L T j (p+1))) ++ [.int .i64 (past L T j (p+1):Int)])→Kept (fun k=>(Value.slice vo j vc).ownBlock=some k) ww w1→((Value.slice vo j vc).ownBlock=some gg∨ww.heap.size≤gg) →
      (w1.cell? ⟨gA,p,none⟩=some (.slice vo j vc)∧w1.frozen? ⟨gA,p,none⟩=false)∧((w1.setCell ⟨gA,p,none⟩ (.slice (some ⟨gg,0,none⟩) (j+1) cap)).cell? ⟨gE,p,none⟩=some (.int .i64 (past L T j (p+1):Int))∧(w1.setCell ⟨gA,p,none⟩ (.slice (some ⟨gg,0,none⟩) (j+1) cap)).cell? ⟨gE,past L T j (p+1),none⟩=some (.int .i64 (endN L T (past L T j (p+1)):Int))∧(w1.setCell ⟨gA,p,none⟩ (.slice (some ⟨gg,0,none⟩) (j+1) cap)).frozen? ⟨gE,p,none⟩=false)∧AIn L T w2 gA gE p en f (j+1) ((w1.setCell ⟨gA,p,none⟩ (.slice (some ⟨gg,0,none⟩) (j+1) cap)).setCell ⟨gE,p,none⟩ (.int .i64 (endN L T (past L T j (p+1)):Int)))):=fun ww j vo vc hj a1 a2 a3 a4 gg cap w1 b1 b2 b3=>AIn.more HN.out.2 hp (by rw [HA.out];exact hj) hg lA lE h6 a1 a2 a3 a4 b1 b2 b3
    have LT:Hid (∀ j,j<A→past L T j (p+1)<N):=fun j hj=>by
     have hf:=(Forest.one HN.out.2 hp).kids.2
     rw [HA.out] at hf
     have hfk:=hf.drop (i:=j) (by omega)
     rw [show A-j=(A-j-1)+1 by omega] at hfk
     have:=hfk.pos;have:=hfk.le;have:=HN.out.1;omega
    clear START2 h6 h7 h8 hbE n2 v2 CA bx
    go_upto_region 8 with fail
    go_loopw [39] (fun s39 wr=>∃ j:Nat,j≤A∧s39=.int .i64 (j:Int)∧AIn L T w2 gA gE p en f j wr) (fun s39 _=>A-(intOf s39).toNat)
    case atStart=>exact ⟨0,Nat.zero_le _,rfl,HS2.out⟩
    case round=>
     clear z0 z1 xA HS2 kE
     obtain ⟨j,hj,rfl,hI⟩:=hrel
     by_cases hlt:j<A
     ·have hE:=LT.out j hlt
      obtain ⟨b1,b2,vo,vc,b3,b4⟩:=hI
      have M:=MORE.out wr j vo vc hlt b1 b2 b3 b4
      obtain ⟨c0, -⟩:=b2.cell hp
      obtain ⟨d0,d1⟩:=b3.cell hp
      simp only [if_true] at c0 d0
      have d2:(wr.alloc (.cells #[.int .i64 (past L T j (p+1):Int)] 3)).cell? ⟨gA,p,none⟩=some (.slice vo j vc):=cell_al d0 _
      have hbs:w2.heap.size≤(wr.alloc (.cells #[.int .i64 (past L T j (p+1):Int)] 3)).heap.size:=by have:=b1.size;simp;omega
      have hn1:j+1≤maxLen:=by unfold maxLen;omega
      generalize endN L T (past L T j (p+1))=Z at *
      generalize past L T j (p+1)=E at *
      have MH:Hid _:=M
      have e1:(0:Int)≤(E:Int):=by omega
      have e2:(E:Int)<(N:Int):=by omega
      have l1:(j:Int)<(A:Int):=by omega
      clear M b1 b2 b3 MORE LT FIN2 CAT HT HO hnum
      go_upto_region 9 with fail
      go_region_law (refine step_append_lies _ (by rfl) _ _ 22 (by rfl) w2.heap.size 3 i1 _ 1 8 Tryz.underlying22 hi1 hz0 hz1 hz2 rfl (by omega) (.slice vo j vc) j (iv (ofN (starts L T j (p+1)))) (by rfl) ((b4.alloc _).drew) ⟨wr.heap.size,0,none⟩ 1 1 [.int .i64 (E:Int)] (by rfl) (by rfl) (World.news_of_block (cs:=#[.int .i64 (E:Int)]) (t:=3) (fr:=(0,0)) (heap_alloc_new wr _)) (by simp [Value.oneCell']) (by omega) hn1 (by omega) hbs (wr.heap.size+1) (by simp) ?_;intro gg cap w5 hown hgrow hat hlt5;obtain ⟨⟨m0,m1⟩,⟨m2,m3,m4⟩,m5⟩:=MH.out gg cap w5 hown (Kept.grown (Kept.drew (Kept.alloc (Kept.refl _ wr) _)) hgrow (fun _ e _=>e)) (hat.imp id (fun e=>by omega)))
      all_goals
       clear b4 c0 d0 d1 d2 MH
       go_wp2_with fail
       go_roundw
       case rel=>exact ⟨j+1,by omega,by go_num,m5⟩
       case measure=>simp [intOf];omega
     ·obtain rfl:j=A:=by omega
      have hF:=FIN2.out _ hI
      clear hI FIN2 MORE LT
      go_wp2_with fail
      go_roundw
      case rel=>first | exact ⟨p,by omega,by go_num,hF⟩ | ((repeat apply Exists.intro);exact ⟨⟨p,by omega,by go_num,hF⟩,rfl⟩)
      case measure=>simp [intOf]
def clsB (L:List Sym) (T:List Int):Bool:=decide (checkE L T=0) && !(T.any (fun x=>decide (x<0)))
theorem vw_none (base:Nat) (w:World) (L:List Sym) (T:List Int):VwAt base w L false T (.agg #[.slice none 0 0,.slice none 0 0]):=⟨none,0,none,0,rfl,fun e=>by cases e⟩
set_option maxHeartbeats 8000000 in
theorem over_any {n b:Nat} {w:World} {L:List Sym} (h:Sg n w b L) {ao:Option Addr} {cap:Nat} {T:List Int} (ht:Arg w ao T cap) :
  Calls Tryz.prog 24 #[.pointer (some ⟨b,0,none⟩),.slice ao T.length cap] w fun e w' => ∃ ho hn hc go gn gc,e=.returned (.agg #[.slice ho hn hc,.slice go gn gc])∧VwAt w.heap.size w' L (clsB L T) T (.agg #[.slice ho hn hc,.slice go gn gc])∧Same0 w w' := by
 have hmx:T.length≤maxLen:=by have:=ht.size;unfold maxLen;omega
 obtain ⟨W1,hW1⟩:∃ W1,W1=w.alloc (.cells #[.slice none 0 0,.slice none 0 0] 70):=⟨_,rfl⟩
 have KW:Same0 w W1:=by rw [hW1];exact (Kept.refl _ w).alloc _
 have hbx:W1.heap[w.heap.size]? = some (.cells #[.slice none 0 0,.slice none 0 0] 70 (0,0)):=by rw [hW1];exact heap_alloc_new w _
 have RC:Hid (∀ ww,Same0 W1 ww→(ww.cell? ⟨w.heap.size,0,none⟩=some (.slice none 0 0)∧ww.cell? ⟨w.heap.size,1,none⟩=some (.slice none 0 0))∧ww.frozen? ⟨w.heap.size,0,none⟩=false∧ww.frozen? ⟨w.heap.size,1,none⟩=false):=fun ww hk=>by
  have:=hk.at0 hbx
  exact ⟨⟨cellAt this 0,cellAt this 1⟩,frozenAt this 0,frozenAt this 1⟩
 have PUT:Hid (∀ ww x y,Same0 W1 ww→(((ww.setCell ⟨w.heap.size,0,none⟩ x).setCell ⟨w.heap.size,1,none⟩ y).cell? ⟨w.heap.size,0,none⟩=some x∧((ww.setCell ⟨w.heap.size,0,none⟩ x).setCell ⟨w.heap.size,1,none⟩ y).cell? ⟨w.heap.size,1,none⟩=some y)∧Kept (fun k=>k=w.heap.size) ww ((ww.setCell ⟨w.heap.size,0,none⟩ x).setCell ⟨w.heap.size,1,none⟩ y)∧Same0 w ((ww.setCell ⟨w.heap.size,0,none⟩ x).setCell ⟨w.heap.size,1,none⟩ y)):=fun ww x y hk=>by
  have h1:=hk.at0 hbx
  have h2:=setAt (setAt h1 0 x) 1 y
  have k1:=kept_at ww w.heap.size 0 x
  have k2:=kept_at (ww.setCell ⟨w.heap.size,0,none⟩ x) w.heap.size 1 y
  have k3:=Kept.trans k1 k2 (fun _ _ e=>e)
  exact ⟨⟨cellAt h2 0,cellAt h2 1⟩,k3,Kept.trans (KW.trans' hk) k3 (fun i hi e=>by omega)⟩
 have CK:Hid (∀ ww,Same0 w ww→Calls Tryz.prog 59 #[.pointer (some ⟨b,0,none⟩),.slice ao T.length cap] ww fun e w' => e=.returned (.int .i64 (checkE L T))∧Same0 ww w'):=fun ww hk=>check_any (h.same hk) (ht.at'.same hk) hmx
 have CV:Hid (∀ ww,Same0 w ww→Calls Tryz.prog 60 #[.slice ao T.length cap,.func (.func 61) #[] #[]] ww fun e w' => e=.returned (.bool (T.any (fun x=>decide (x<0))))∧w' = ww):=fun ww hk=>containsf_cvar (ht.at'.same hk) hmx
 have C1:=CK.out W1 KW
 obtain ⟨⟨r0,r1⟩,f0,f1⟩:=RC.out W1 (Kept.refl _ _)
 have NO:Hid (clsB L T=false→∀ ww,Same0 w ww→VwAt w.heap.size ww L (clsB L T) T (.agg #[.slice none 0 0,.slice none 0 0])∧Same0 w ww):=fun e ww hk=>by rw [e];exact ⟨vw_none _ _ _ _,hk⟩
 by_cases hz:checkE L T=0
 ·rw [hz] at C1
  cases hv:T.any (fun x=>decide (x<0)) with
  | true=>
   rw [hv] at CV
   have hc:clsB L T=false:=by simp [clsB,hv]
   have FIN:=NO.out hc
   have HF:Hid _:=FIN
   clear FIN hv hc NO ht h hz
   go_enter Tryz.func24,Tryz.ntmps24
   go_upto_region 1 with fail
   rw [← hW1]
   clear hW1
   go_upto_region 2 with (first
    | (go_at_call 59;refine C1.mono ?_;rintro e w2 ⟨rfl,k2⟩;have C2:=CV.out w2 (KW.trans' k2))
    | (go_at_call 60;refine C2.mono ?_;rintro e w3 ⟨rfl,rfl⟩;obtain ⟨⟨r2,r3⟩,f2,f3⟩:=RC.out _ k2))
   go_wp2_with fail
   obtain ⟨⟨g0,g1⟩,kk,ks⟩:=PUT.out _ (.slice none 0 0) (.slice none 0 0) k2
   exact bodyPost_ret (v:=.agg #[.slice none 0 0,.slice none 0 0]) (by simp [results,Tryz.results24,go_sem,g0,g1]) rfl ⟨_,_,_,_,_,_,rfl,HF.out _ ks⟩
  | false=>
   rw [hv] at CV
   have hc:clsB L T=true:=by simp [clsB,hv,hz]
   have hpos:∀ x∈T,0≤x:=fun x hx=>by
    have:=List.any_eq_false.1 hv x hx
    simpa using this
   have CT:Hid (∀ ww,Same0 w ww→Calls Tryz.prog 62 #[.slice ao T.length cap] ww fun e w' => ∃ go gc,e=.returned (.slice go T.length gc)∧Hid (IntsAt w' go T∧∀ a,go=some a→ww.heap.size≤a.block)∧Same0 ww w'):=fun ww hk=>by
    refine (clone_term ((ht.at'.same hk)) (isT_pos (checkE_zero.1 hz).2.2) (checkE_zero.1 hz).1).mono ?_
    rintro e w' ⟨v,rfl,hr,hk'⟩
    obtain ⟨go,gc,rfl,g1,g2,g3⟩:=hr.ints
    exact ⟨go,gc,rfl,⟨g1,fun a e=>(g3 a e).1⟩,hk'⟩
   have CA:Hid (∀ ww,Same0 w ww→Calls Tryz.prog 63 #[.pointer (some ⟨b,0,none⟩),.slice ao T.length cap] ww fun e w' => ∃ go gc,e=.returned (.slice go T.length gc)∧Hid (PsB ww.heap.size w' go (argsL L T))∧Same0 ww w'):=fun ww hk=>argsOf_any (h.same hk) (ht.at'.same hk) hz hpos
   clear NO ht h hz hv
   go_enter Tryz.func24,Tryz.ntmps24
   go_upto_region 1 with fail
   rw [← hW1]
   clear hW1
   go_upto_region 3 with (first
    | (go_at_call 59;refine C1.mono ?_;rintro e w2 ⟨rfl,k2⟩;have C2:=CV.out w2 (KW.trans' k2))
    | (go_at_call 60;refine C2.mono ?_;rintro e w3 ⟨rfl,rfl⟩))
   have C3:=CT.out _ (KW.trans' k2)
   go_wp2_with (first
    | (go_at_call 62;refine C3.mono ?_;rintro e w4 ⟨go,gc,rfl,hg,k4⟩;have C4:=CA.out w4 ((KW.trans' k2).trans' k4))
    | (go_at_call 63;refine C4.mono ?_;rintro e w5 ⟨lo,lc,rfl,hl,k5⟩;obtain ⟨⟨r2,r3⟩,f2,f3⟩:=RC.out _ ((k2.trans' k4).trans' k5)))
   obtain ⟨⟨g0,g1⟩,kk,ks⟩:=PUT.out _ (.slice go T.length gc) (.slice lo T.length lc) ((k2.trans' k4).trans' k5)
   have z2:=(KW.trans' k2).size
   have z4:=k4.size
   have zW:=lt_of_at hbx
   have zk:=k2.size
   refine bodyPost_ret (v:=.agg #[.slice go T.length gc,.slice lo T.length lc]) (by simp [results,Tryz.results24,go_sem,g0,g1]) rfl ⟨_,_,_,_,_,_,rfl,?_,ks⟩
   rw [hc]
   obtain ⟨q1,q2⟩:=hg.out
   refine ⟨go,gc,lo,lc,rfl,fun _=>⟨(q1.same k5).kept kk (fun a e=>by have:=q2 a e;omega),fun a e=>by have:=q2 a e;omega,?_⟩⟩
   have hP:=hl.out
   rcases hP with e0 | ⟨b', off,rfl,a1,a2,a3⟩
   ·exact .inl e0
   ·refine .inr ⟨b', off,rfl,by omega,Nat.lt_of_lt_of_le a2 kk.size,fun i hi=>?_⟩
    obtain ⟨xo,xc,y1,y2,y3⟩:=a3 i hi
    exact ⟨xo,xc,(kk.cell (p:=⟨b', off+i,none⟩) a2 (fun e=>by have e' : b' = w.heap.size:=e;omega)).trans y1,y2.kept kk (fun a e=>by have:=y3 a e;omega),fun a e=>by have:=y3 a e;omega⟩
 ·have hc:clsB L T=false:=by simp [clsB,hz]
  have FIN:=NO.out hc
  have HF:Hid _:=FIN
  have hz' : (checkE L T == 0)=false:=by simpa using hz
  generalize checkE L T=z at *
  clear FIN hc NO ht h CV CK
  go_enter Tryz.func24,Tryz.ntmps24
  go_upto_region 1 with fail
  rw [← hW1]
  clear hW1
  go_wp2_with (first
   | (go_at_call 59;refine C1.mono ?_;rintro e w2 ⟨rfl,k2⟩;obtain ⟨⟨r2,r3⟩,f2,f3⟩:=RC.out _ k2))
  obtain ⟨⟨g0,g1⟩,kk,ks⟩:=PUT.out _ (.slice none 0 0) (.slice none 0 0) k2
  exact bodyPost_ret (v:=.agg #[.slice none 0 0,.slice none 0 0]) (by simp [results,Tryz.results24,go_sem,g0,g1]) rfl ⟨_,_,_,_,_,_,rfl,HF.out _ ks⟩
set_option maxHeartbeats 2000000 in
theorem indexf_var {w:World} {so:Option Addr} {sc:Nat} {t:List Int} (ht:IntsAt w so t) (hm:t.length≤maxLen) :
  Calls Tryz.prog 104 #[.slice so t.length sc,.func (.func 74) #[] #[]] w fun e w' => ∃ z:Int,e=.returned (.int .i64 z)∧FoundAt z (t.any (fun x=>decide (x<0)))∧w' = w:=by
 have CV:=tvar_any
 unfold maxLen at hm
 go_enter Tryz.func104,Tryz.ntmps104
 go_wp2
 go_loop [8] (fun i=>∃ k:Nat,k≤t.length∧i=.int .i64 (k:Int)∧Hid ((t.take k).any (fun x=>decide (x<0))=false)) (fun i=>t.length-(intOf i).toNat)
 case atStart=>exact ⟨0,Nat.zero_le _,rfl,by show _=_;simp⟩
 case round=>
  obtain ⟨k,hk,rfl,ha⟩:=hrel
  by_cases hlt:k<t.length
  ·obtain ⟨tb,off,rfl,_,hc⟩:=ht.get hlt
   have i1:(0:Int)≤(k:Int):=by omega
   have i2:(k:Int)<(t.length:Int):=by omega
   have C:=CV t[k] w
   cases hq:decide (t[k]<0) with
   | true=>
    have H:Hid (FoundAt (k:Int) (t.any (fun x=>decide (x<0)))):=by
     have e1:t.any (fun x=>decide (x<0))=true:=List.any_eq_true.2 ⟨t[k],List.getElem_mem hlt,hq⟩
     show decide _=_
     rw [e1];simp
    rw [hq] at C
    clear hq ha CV
    go_wp2_with (first | (go_at_call 74;refine C.mono ?_;rintro e w2 ⟨rfl,rfl⟩))
    go_ret
    exact ⟨_,rfl,H.out,rfl⟩
   | false=>
    have H:Hid ((t.take (k+1)).any (fun x=>decide (x<0))=false):=by
     have e1:=ha.out
     show _=_
     rw [List.take_add_one,List.getElem?_eq_getElem hlt,List.any_append,e1]
     simpa using hq
    rw [hq] at C
    clear hq ha CV
    go_wp2_with (first | (go_at_call 74;refine C.mono ?_;rintro e w2 ⟨rfl,rfl⟩))
    exact ⟨⟨k+1,by omega,by go_num,H⟩,by simp [intOf];omega⟩
  ·have H:Hid (FoundAt (-1) (t.any (fun x=>decide (x<0)))):=by
    have:=ha.out
    rw [List.take_of_length_le (by omega)] at this
    show decide _=_
    rw [this];rfl
   go_wp2
   go_ret
   exact ⟨_,rfl,H.out,rfl⟩
set_option maxHeartbeats 1000000 in
theorem containsf_var {w:World} {so:Option Addr} {sc:Nat} {t:List Int} (ht:IntsAt w so t) (hm:t.length≤maxLen) :
  Calls Tryz.prog 60 #[.slice so t.length sc,.func (.func 74) #[] #[]] w fun e w' => e=.returned (.bool (t.any (fun x=>decide (x<0))))∧w' = w:=by
 have C:=indexf_var (sc:=sc) ht hm
 clear ht
 generalize t.any (fun x=>decide (x<0))=z at *
 go_enter Tryz.func60,Tryz.ntmps60
 go_wp2_with (first | (go_at_call 104;refine C.mono ?_;rintro e w2 ⟨z', rfl,hz,rfl⟩))
 go_ret
 exact ⟨ret_bool (FoundAt.eq hz),rfl⟩
end Go.Proofs.YtdhiiicppcgkbaaGreat
namespace Go.Proofs.YtdhiiicppcgkbaaGreat
set_option maxRecDepth 100000
set_option linter.unusedVariables false
open Go.RowKit
theorem leads_lt {L:List Sym} {t:List Int} (h:IsT L t):∀ (path:List Int) (p:Nat),p<t.length→∀ q,leads L t p path=some q→q<t.length
 | [],p,hp,q,e=>by simp [leads] at e;omega
 | n :: r,p,hp,q,e=>by
  rw [leads] at e
  split at e
  ·cases e
  ·rw [argsN_eq hp] at e
   split at e
   ·rename_i hn q' hq'
    refine leads_lt h r q' ?_ q e
    obtain ⟨h1,h2⟩:=List.getElem?_eq_some_iff.1 hq'
    rw [starts_length] at h1
    have:=past_lt h hp h1
    rw [starts_at h1] at hq'
    cases hq'
    exact this
   ·cases e
abbrev Fd:=Int × Int × List Int × Int × Int
def goF (L:List Sym) (U:List Int) (a:Int):(n:Nat)→Tr n→Fd
 | 0,_=>(2,0,[],0,0)
 | n+1,(k,r,p,l)=>if k=2 then (match leads L U 0 p with
  | none=>(0,0,[],0,25)
  | some q=>if defB L (U.getD q 0)=true then (3,0,p,a+q,0) else (match kidOf (U.getD q 0) l with | none=>(2,0,[],0,0) | some t=>goF L U a n t)) else if k=1 then (1,r,[],0,0) else (2,0,[],0,0)
def SmW:(n:Nat)→Tr n→Prop
 | 0,_=>True
 | n+1,(k,r,p,l)=>l.length≤140737488355328∧∀ i (h:i<l.length),SmW n l[i].2
def mesT:(n:Nat)→Tr n→Nat
 | 0,_=>0
 | n+1,(k,r,p,l)=>2 * (n+1)+(if k=2 then 1 else 0)
theorem mesT_le:∀ (n:Nat) (t:Tr n),mesT n t≤2 * n+1
 | 0,t=>t.elim
 | n+1,(k,r,p,l)=>by simp only [mesT];split <;> omega
theorem kidOf_mem {α:Type} {s:Int}:∀ {l:List (Int × α)} {t:α},kidOf s l=some t→∃ i,∃ h:i<l.length,l[i].2=t
 | [],t,e=>by simp [kidOf] at e
 | x :: r,t,e=>by
  rw [kidOf] at e
  split at e
  ·exact ⟨0,by simp,by simpa using e⟩
  ·obtain ⟨i,h,e1⟩:=kidOf_mem e
   exact ⟨i+1,by simpa using h,by simpa using e1⟩
theorem least_ex (P:Nat→Prop) (h:∃ n,P n):∃ n,P n∧∀ m,P m→n≤m:=by
 apply Classical.byContradiction
 intro hc
 obtain ⟨n,hn⟩:=h
 have:∀ n,¬ P n:=fun n=>Nat.strongRecOn n (fun n ih hp=>hc ⟨n,hp,fun m hm=>Nat.le_of_not_lt (fun hlt=>ih m hlt hm)⟩)
 exact this n hn
theorem least_fun:∃ f:(Nat→Prop)→Nat,(∀ P:Nat→Prop,(∃ n,P n)→P (f P))∧∀ (P:Nat→Prop) n,P n→f P≤n:=by
 have h:∀ P:Nat→Prop,∃ m,((∃ n,P n)→P m)∧∀ n,P n→m≤n:=fun P=>by
  by_cases q:∃ n,P n
  ·obtain ⟨m,h1,h2⟩:=least_ex P q
   exact ⟨m,fun _=>h1,h2⟩
  ·exact ⟨0,fun e=>absurd e q,fun n hn=>absurd ⟨n,hn⟩ q⟩
 obtain ⟨f,hf⟩:=Classical.axiomOfChoice h
 exact ⟨f,fun P=>(hf P).1,fun P=>(hf P).2⟩
def WAt (B:Nat→Prop) (b:Nat) (L:List Sym) (U:List Int) (a:Int) (R:Fd) (w:World) (N:Nat):Prop:=∃ (n:Nat) (t:Tr n) (x0 x1 x2 x3:Value),mesT n t=N∧w.heap[b]? = some (.cells #[x0,x1,x2,x3] 25 (0,0))∧CsB B w n (.agg #[x0,x1,x2,x3]) t∧SmW n t∧goF L U a n t=R
section
variable {L : List Sym} {T : List Int} {a : Nat}
theorem sub_end (hT:IsT L T) (ha:a<T.length):a+(subN L T a).length=endN L T a∧endN L T a≤T.length:=by
 have h1:=endN_le hT ha
 rw [sub_length hT ha]
 omega
theorem drop_sub (hT:IsT L T) (ha:a<T.length) {p:Nat} (hp:p≤(subN L T a).length):T.drop (a+p)=(subN L T a).drop p++T.drop (endN L T a):=by
 obtain ⟨h1,h2⟩:=sub_end hT ha
 have e:T.drop (a+p)=(T.take (endN L T a)++T.drop (endN L T a)).drop (a+p):=by rw [List.take_append_drop]
 rw [e,List.drop_append_of_le_length (by rw [List.length_take];omega)]
 unfold subN
 rw [List.drop_drop]
theorem at_sub (hT:IsT L T) (ha:a<T.length) {p:Nat} (hp:p<(subN L T a).length) (hq:a+p<T.length):T[a+p]=(subN L T a)[p]:=by
 have e:=drop_sub hT ha (Nat.le_of_lt hp)
 rw [List.drop_eq_getElem_cons hq,List.drop_eq_getElem_cons hp] at e
 simpa using (List.cons.inj e).1
theorem end_sub (hT:IsT L T) (ha:a<T.length) {p:Nat} (hp:p<(subN L T a).length):endN L T (a+p)=a+endN L (subN L T a) p:=by
 obtain ⟨n,h1,h2,h3⟩:=isT_scan (sub_need hT ha) hp
 have h4:=scan_need h1
 have h5:=need_scan (b:=((subN L T a).drop p).drop n++T.drop (endN L T a)) h4.2
 have h6:scan L 1 (T.drop (a+p))=some n:=by
  rw [drop_sub hT ha (Nat.le_of_lt hp)]
  rw [← List.append_assoc,List.take_append_drop,List.length_take,Nat.min_eq_left h4.1] at h5
  exact h5
 rw [endN_of h1,endN_of h6]
 omega
theorem starts_sub (hT:IsT L T) (ha:a<T.length):∀ (k p q:Nat),Forest L (subN L T a) k p q→starts L T k (a+p)=(starts L (subN L T a) k p).map (fun x=>a+x)
 | 0,p,q,h=>rfl
 | k+1,p,q,h=>by
  obtain ⟨h1,h2,h3⟩:=h.succ
  have h4:=h1.le
  rw [starts,starts,List.map_cons,end_sub hT ha (by omega),starts_sub hT ha k _ q h3]
theorem leads_sub (hT:IsT L T) (ha:a<T.length):∀ (path:List Int) (p:Nat),p<(subN L T a).length→leads L T (a+p) path=(leads L (subN L T a) p path).map (fun x=>a+x)
 | [],p,hp=>by simp [leads]
 | n :: r,p,hp=>by
  have hU:=sub_need hT ha
  obtain ⟨h1,h2⟩:=sub_end hT ha
  have hq:a+p<T.length:=by omega
  have hf:=(Forest.one hU hp).kids.2
  rw [leads,leads]
  by_cases hn:n<0
  ·rw [if_pos hn,if_pos hn];rfl
  ·rw [if_neg hn,if_neg hn,argsN_eq hp,argsN_eq hq,at_sub hT ha hp hq,Nat.add_assoc,starts_sub hT ha _ _ _ hf,List.getElem?_map]
   cases hs:(starts L (subN L T a) (arN L (subN L T a)[p]) (p+1))[n.toNat]? with
   | none=>rfl
   | some q' =>
    have hlt:q' < (subN L T a).length:=by
     obtain ⟨g1,g2⟩:=List.getElem?_eq_some_iff.1 hs
     rw [starts_length] at g1
     rw [starts_at g1] at hs
     cases hs
     exact past_lt hU hp g1
    exact leads_sub hT ha r q' hlt
end
end Go.Proofs.YtdhiiicppcgkbaaGreat
namespace Go.Proofs.YtdhiiicppcgkbaaGreat
set_option linter.unusedVariables false
def fitK (L:List Sym):List Int→Nat→List Int→Bool
 | [],k,_=>decide (k=0)
 | n :: r,k,ts=>if k=0 then true else if 0≤n then (match ts with | []=>false | x :: ts' => decide (x=n) && fitK L r (k-1+arN L n) ts') else fitK L r (k-1) (ts.drop ((scan L 1 ts).getD 0))
theorem fitK_zero (L:List Sym) (p ts:List Int):fitK L p 0 ts=true:=by cases p <;> rfl
theorem fitK_sym {L:List Sym} {n x:Int} {r ts:List Int} {k:Nat} (hn:0≤n):fitK L (n :: r) (k+1) (x :: ts)=(decide (x=n) && fitK L r (k+arN L n) ts):=by
 rw [fitK,if_neg (by omega),if_pos hn,Nat.add_sub_cancel]
theorem fitK_var {L:List Sym} {n:Int} {r ts:List Int} {k m:Nat} (hn:¬ 0≤n) (h:scan L 1 ts=some m):fitK L (n :: r) (k+1) ts=fitK L r k (ts.drop m):=by
 show (if k+1=0 then true else if 0≤n then _ else fitK L r (k+1-1) (ts.drop ((scan L 1 ts).getD 0)))=_
 rw [if_neg (by omega),if_neg hn,h,Nat.add_sub_cancel,Option.getD_some]
theorem scan_one {L:List Sym} {n:Int} {r:List Int} {a m:Nat} (h:scan L (a+1) (n :: r)=some m):∃ m1,scan L (a+arN L n) r=some m1∧m=m1+1:=by
 simp only [scan,Option.map_eq_some_iff] at h
 obtain ⟨m1,h1,h2⟩:=h
 exact ⟨m1,h1,by omega⟩
theorem fitK_add {L:List Sym} (b:Nat):∀ {p:List Int} {a m m' : Nat} {ts:List Int},scan L a p=some m→scan L a ts=some m' → fitK L p (a+b) ts=(fitK L p a ts && fitK L (p.drop m) b (ts.drop m')):=by
 intro p
 induction p with
 | nil=>
  intro a m m' ts h1 h2
  cases a with
  | zero=>rw [scan_zero] at h1 h2;cases h1;cases h2;simp [fitK_zero]
  | succ a=>simp [scan] at h1
 | cons n r ih=>
  intro a m m' ts h1 h2
  cases a with
  | zero=>rw [scan_zero] at h1 h2;cases h1;cases h2;simp [fitK_zero]
  | succ a=>
   cases ts with
   | nil=>simp [scan] at h2
   | cons x ts' =>
    rw [show a+1+b=(a+b)+1 by omega]
    obtain ⟨m1,g1,rfl⟩:=scan_one h1
    by_cases hn:0≤n
    ·rw [fitK_sym hn,fitK_sym hn]
     by_cases e:x=n
     ·subst e
      obtain ⟨m2,g2,rfl⟩:=scan_one h2
      rw [show a+b+arN L x=a+arN L x+b by omega,ih g1 g2]
      simp
     ·simp [e]
    ·rw [arN_neg hn,Nat.add_zero] at g1
     obtain ⟨u,u', k1,k2,rfl⟩:=scan_add (a:=1) (b:=a) (by rw [Nat.add_comm];exact h2)
     rw [fitK_var hn k1,fitK_var hn k1,ih g1 k2,List.drop_succ_cons,List.drop_drop]
def fitA (L:List Sym) (p:List Int) (i:Nat) (t:List Int) (j:Nat):Bool:=fitK L (p.drop i) 1 (t.drop j)
def fitP8 (L:List Sym) (p:List Int) (t:List Int):List Nat→List Nat→Bool
 | i :: ps,j :: qs=>fitA L p i t j && fitP8 L p t ps qs
 | _,_=>true
theorem fit_starts {L:List Sym} {p t:List Int}:∀ (k i j qi qj:Nat),Forest L p k i qi→Forest L t k j qj→fitK L (p.drop i) k (t.drop j)=fitP8 L p t (starts L p k i) (starts L t k j)
 | 0,i,j,_,_,_,_=>by rw [fitK_zero];rfl
 | k+1,i,j,qi,qj,h1,h2=>by
  obtain ⟨a1,a2,a3⟩:=h1.succ
  obtain ⟨b1,b2,b3⟩:=h2.succ
  obtain ⟨m,c1,c2,_⟩:=a1
  obtain ⟨m', d1,d2,_⟩:=b1
  have e:=fitK_add k c1 d1
  rw [Nat.add_comm 1 k,List.drop_drop,List.drop_drop,← c2,← d2,fit_starts k _ _ qi qj a3 b3] at e
  rw [e]
  rfl
theorem fitA_var {L:List Sym} {p t:List Int} {i j:Nat} (ht:IsT L t) (hi:i<p.length) (hj:j<t.length) (hv:p[i]<0):fitA L p i t j=true:=by
 obtain ⟨m,h1,_⟩:=isT_scan ht hj
 rw [fitA,List.drop_eq_getElem_cons hi,fitK_var (by omega) h1,fitK_zero]
theorem fitA_sym {L:List Sym} {p t:List Int} {i j:Nat} (hp:IsT L p) (ht:IsT L t) (hi:i<p.length) (hj:j<t.length) (hn:0≤p[i]):fitA L p i t j=(decide (t[j]=p[i]) && fitP8 L p t (argsN L p i) (argsN L t j)):=by
 obtain ⟨_,f1⟩:=(Forest.one hp hi).kids
 obtain ⟨_,f2⟩:=(Forest.one ht hj).kids
 rw [fitA,List.drop_eq_getElem_cons hi,List.drop_eq_getElem_cons hj,fitK_sym hn,Nat.zero_add]
 by_cases e:t[j]=p[i]
 ·rw [e] at f2
  rw [argsN_eq hi,argsN_eq hj,e,fit_starts _ _ _ _ _ f1 f2]
 ·simp [e]
theorem fitP8_append {L:List Sym} {p t:List Int}:∀ {a b c d:List Nat},a.length=c.length→fitP8 L p t (a++b) (c++d)=(fitP8 L p t a c && fitP8 L p t b d)
 | [],b,[],d,_=>by simp [fitP8]
 | x :: a,b,y :: c,d,h=>by
  simp only [List.cons_append,fitP8]
  rw [fitP8_append (by simpa using h),Bool.and_assoc]
 | [],b,y :: c,d,h=>by simp at h
 | x :: a,b,[],d,h=>by simp at h
theorem repl_split {α:Type} {l:List α} {c:Nat} (h:c<l.length):l=l.take c ++ [l[c]]++l.drop (c+1):=by
 rw [List.append_assoc,List.singleton_append,List.getElem_cons_drop,List.take_append_drop]
theorem fitP8_at {L:List Sym} {p t:List Int} {ps qs:List Nat} (he:ps.length=qs.length) {c:Nat} (h1:c<ps.length) (h2:c<qs.length):fitP8 L p t ps qs=(fitP8 L p t (ps.take c) (qs.take c) && fitA L p ps[c] t qs[c] && fitP8 L p t (ps.drop (c+1)) (qs.drop (c+1))):=by
 have e1:=repl_split h1
 have e2:=repl_split h2
 have:fitP8 L p t ps qs=fitP8 L p t (ps.take c ++ [ps[c]]++ps.drop (c+1)) (qs.take c ++ [qs[c]]++qs.drop (c+1)):=by rw [← e1,← e2]
 rw [this,fitP8_append (by simp [he]),fitP8_append (by simp [he])]
 simp [fitP8]
theorem fitP8_repl {L:List Sym} {p t:List Int} {ps qs:List Nat} (he:ps.length=qs.length) {c:Nat} {m m' : List Nat} (hm:m.length=m'.length):fitP8 L p t (repl ps c m) (repl qs c m')=(fitP8 L p t (ps.take c) (qs.take c) && fitP8 L p t m m' && fitP8 L p t (ps.drop (c+1)) (qs.drop (c+1))):=by
 unfold repl
 rw [fitP8_append (by simp [he,hm]),fitP8_append (by simp [he])]
theorem args_lt {L:List Sym} {t:List Int} (h:IsT L t) {p:Nat} (hp:p<t.length):∀ x∈argsN L t p,p<x∧x<t.length:=by
 intro x hx
 obtain ⟨_,hk⟩:=(Forest.one h hp).kids
 rw [argsN_eq hp] at hx
 obtain ⟨i,hi,e⟩:=List.getElem_of_mem hx
 rw [starts_length] at hi
 have h2:(starts L t (arN L t[p]) (p+1))[i]? = some x:=by rw [← e];exact List.getElem?_eq_getElem _
 rw [starts_at hi] at h2
 simp only [Option.some.injEq] at h2
 subst h2
 have h3:=hk.drop (Nat.le_of_lt hi)
 have h4:∃ j,arN L t[p]-i=j+1:=⟨arN L t[p]-i-1,by omega⟩
 obtain ⟨j,hj⟩:=h4
 rw [hj] at h3
 have h5:=h3.pos
 have h6:=h3.le
 have h7:p+1≤past L t i (p+1):=by
  cases i with
  | zero=>exact Nat.le_refl _
  | succ i=>
   have:=past_mono hk (i:=0) (j:=i+1) (by omega) (by omega)
   have h0:past L t 0 (p+1)=p+1:=rfl
   rw [h0] at this
   have hs:=(hk.drop (i:=0) (by omega))
   obtain ⟨k', hk'⟩:∃ k', arN L t[p]-0=k' + 1:=⟨arN L t[p]-1,by omega⟩
   rw [hk'] at hs
   have:=hs.succ.2.1
   rw [h0] at this
   omega
 exact ⟨by omega,by omega⟩
end Go.Proofs.YtdhiiicppcgkbaaGreat
