import Derived.WalkKit
import Derived.Test.YtjahpnbijefncaaGreatCC26
namespace Go.Proofs.YtjahpnbijefncaaGreat
set_option maxRecDepth 100000
set_option linter.unusedVariables false
set_option maxHeartbeats 16000000
section
open Go.RowKit
theorem Xx.wr {W:World} {lo:Nat} {ao:Option Addr} {xs:List Int} {ac:Nat} (h:Xx W ao xs ac) (hb:∀ a,ao=some a->lo<=a.block):WrI W lo W.heap.size ao xs.length:=by
 cases ao with
 | none=>exact .inl (h.arg.nil rfl).1
 | some a=>
  obtain ⟨b,cur,rfl,h1,h2,h3⟩:=h.own a rfl;exact .inr ⟨b,cur,rfl,hb _ rfl,Zi h1,h1,by have:=h.arg.cap'; omega⟩
theorem Zfs.write {L:List Sym} {R:List Ru} {w w' : World} {e:Ending} (h:Zfs L R w e w') (h9:∀ q∈Zj L R,q.length<=20000000000000):Za w w' ∧ ∃ io ic po pc eo ec ro rc,e=.returned (.tuple #[.agg #[.slice io (Zk L R L.length).1.1.length ic,.slice po (Zk L R L.length).1.2.length pc,.slice eo (Zk L R L.length).2.length ec,.slice ro (Zj L R).length rc],.nilIface])∧CdA w' io po eo ro (Zk L R L.length).1 (Zk L R L.length).2 (Zj L R)∧Zt4 w' ro (Zj L R)∧CdW w' w.heap.size w'.heap.size io po eo ro (Zk L R L.length).1.1.length (Zk L R L.length).1.2.length (Zk L R L.length).2.length (Zj L R).length:=by
 obtain ⟨io,ic,po,pc,eo,ec,ro,rc,cs,rfl,h1,h2,h3,h4,h5⟩:=h;obtain ⟨ao,ac,e2,i1,_⟩:=h2.ints;simp only [Value.slice.injEq,true_and] at e2;obtain ⟨rfl,rfl⟩:=e2;have hlen:R.length=(Zj L R).length:=by rw [Zj,List.length_map]
 refine ⟨h5,io,ic,po,pc,eo,ec,ro,rc,by rw [hlen],⟨h1.insAt,h1.pthAt,i1,h4.rgP h3⟩,h4.rgAt h3,⟨?_,?_,?_,?_⟩⟩
 ·rcases h1.ri.2 with ⟨_,h0⟩ | ⟨g,cap,cur,e,_,hg,a1,a2,a3,_⟩
  ·exact .inl h0
  ·simp only [Value.slice.injEq] at e
   obtain ⟨rfl,_,rfl⟩:=e;have nb:=h1.ib g rfl;refine .inr ⟨g,cur,rfl,by omega,Zi hg,hg,by have:=Nat.mul_le_mul_right 3 a1;omega⟩
 ·obtain ⟨vs,r1,r2⟩:=h1.rp
  rcases r1.2 with ⟨_,h0⟩ | ⟨g,cap,cur,e,_,hg,a1,a2,a3,_⟩
  ·exact .inl h0
  ·simp only [Value.slice.injEq] at e
   obtain ⟨rfl,_,rfl⟩:=e;refine .inr ⟨g,cur,rfl,hg,λ i hi=>?_⟩;obtain ⟨qo,qc,b1,b2,b3⟩:=r2.2 i hi
   have hc:w'.cell? ⟨g,i,none⟩=some (.slice qo (Zk L R L.length).1.2[i].length qc):=by
    rw [r1.cellAt _ (by omega)];exact b1
   rw [Zb hg] at hc;exact ⟨qo,_,qc,hc,b2.wr (λ a e=>by have:=b3 a e;omega),by have:=b2.arg.size;omega⟩
 ·rcases h2.2 with ⟨_,h0⟩ | ⟨g,cap,cur,e,hb,hg,a1,a2,a3,_⟩
  ·exact .inl h0
  ·simp only [Value.slice.injEq] at e
   obtain ⟨rfl,_,rfl⟩:=e;exact .inr ⟨g,cur,rfl,hb,Zi hg,hg,by omega⟩
 ·rcases h3.2 with ⟨_,h0⟩ | ⟨g,cap,cur,e,hb,hg,a1,a2,a3,_⟩
  ·exact .inl (by omega)
  ·simp only [Value.slice.injEq] at e
   obtain ⟨rfl,_,rfl⟩:=e;refine .inr ⟨g,cur,rfl,hg,λ i hi=>?_⟩;obtain ⟨b,gc,c1,c2,cu,d1,d2,d3⟩:=h4.2 i hi
   have hc:w'.cell? ⟨g,i,none⟩=some (.slice (some ⟨b,0,none⟩) (Zj L R)[i].length gc):=by
    rw [h3.cellAt _ (by omega)];exact c1
   rw [Zb hg] at hc;refine ⟨b,_,gc,cu,hc,c2,Zi d1,d1,by omega,h9 _ (List.getElem_mem hi),λ k hk=>?_⟩;obtain ⟨qo,qc,_,f2,f3,f4⟩:=d3 k hk hk;exact ⟨qo,_,qc,f2,f3.wr f4,by have:=f3.arg.size;omega⟩
theorem Zis {L:List Sym} {R:List Ru} (h:GoodR L R):∀ x∈R,∀ y∈x.2,y<0->y∈x.1:=by
 intro x hx y hy hn;obtain ⟨i,hi,rfl⟩:=List.getElem_of_mem hx;have h6:=h.2 i hi 5 (by omega);have h7:R[i].2.all (λ n=>!Jm R[i].1 n)=true:=h6;have h8:=List.all_eq_true.1 h7 y hy;simp [Jm] at h8
 rcases h8 with h8 | h8
 ·omega
 ·exact h8
theorem Ze6 {L:List Sym} {R:List Ru} (h:GoodR L R):∀ q∈Zj L R,q.length<=200∧∀ p∈q,p.2.length<=2000:=by
 intro q hq;obtain ⟨x,hx,rfl⟩:=List.mem_map.1 hq;obtain ⟨i,hi,rfl⟩:=List.getElem_of_mem hx;have h2:=h.2 i hi 1 (by omega);have h3:(decide (R[i].1.length<=200) && decide (R[i].2.length<=200))=true:=h2;simp only [Bool.and_eq_true,decide_eq_true_eq] at h3;refine ⟨by rw [Yf,List.length_map];exact h3.2,λ p hp=>?_⟩;obtain ⟨y,_,rfl⟩:=List.mem_map.1 hp;unfold Xn;split
 ·simp
 ·exact Zit L _ _ (by omega)
theorem PtC.keptLow {base:Nat} {W W' : World} {g k:Nat} {Q:List (Int × List Int)} {S:Nat->Prop} (h:PtC base W g k Q) (hg:base<=g) (hk:Zc S W W') (hS:∀ q,S q->q<base):PtC base W' g k Q:=by
 obtain ⟨cur,h1,h2,h3⟩:=h;refine ⟨cur,hk.at h1 (λ s=>by have:=hS _ s;omega),h2,λ i hi hik=>?_⟩;obtain ⟨ao,ac,a,b,c,d⟩:=h3 i hi hik;exact ⟨ao,ac,a,b,c.keptB hk (λ x e s=>by have:=hS _ s;have:=d x e;omega),d⟩
theorem RtC.keptLow {base:Nat} {W W' : World} {cs:List Value} {Q:List (List (Int × List Int))} {S:Nat->Prop} (h:RtC base W cs Q) (hk:Zc S W W') (hS:∀ q,S q->q<base):RtC base W' cs Q:=
 ⟨h.1,λ i hi=>by
  obtain ⟨g,gc,a,b,c⟩:=h.2 i hi
  exact ⟨g,gc,a,b,c.keptLow b hk hS⟩⟩
theorem PtV.keptLow {base:Nat} {W W' : World} {v:Value} {Q:List (Int × List Int)} {S:Nat->Prop} (h:PtV base W v Q) (hk:Zc S W W') (hS:∀ q,S q->q<base):PtV base W' v Q:=by
 obtain ⟨vs,h1,h2,h3⟩:=h;refine ⟨vs,hk.row h1 (λ q e s=>by have:=hS _ s;have:=Y0 h1 e;omega),h2,λ i hi=>?_⟩;obtain ⟨ao,ac,a,b,c,d⟩:=h3 i hi;exact ⟨ao,ac,a,b,c.keptB hk (λ x e s=>by have:=hS _ s;have:=d x e;omega),d⟩
theorem RvC.keptLow {base:Nat} {W W' : World} {cs:List Value} {Q:List (List (Int × List Int))} {S:Nat->Prop} (h:RvC base W cs Q) (hk:Zc S W W') (hS:∀ q,S q->q<base):RvC base W' cs Q:=
 ⟨h.1,λ i hi=>by
  obtain ⟨v,a,b⟩:=h.2 i hi
  exact ⟨v,a,b.keptLow hk hS⟩⟩
structure CpA (L:List Sym) (R:List Ru) (base:Nat) (W:World) (io po eo ro:Option Addr) (ic pc ec rc:Nat) (cs:List Value):Prop where
 lay:Lay (λ q=>q<base) W (.slice io (Zk L R L.length).1.1.length ic) (.slice po (Zk L R L.length).1.2.length pc) (Zk L R L.length).1
 ent:Row base W (.slice eo (Zk L R L.length).2.length ec) (Zk L R L.length).2
 row:W.ownsRow base 62 1 (.slice ro R.length rc) R.length cs
theorem CpA.keptLow {L:List Sym} {R:List Ru} {base:Nat} {W W' : World} {io po eo ro:Option Addr} {ic pc ec rc:Nat} {cs:List Value} {S:Nat->Prop} (h:CpA L R base W io po eo ro ic pc ec rc cs) (hk:Zc S W W') (hS:∀ q,S q->q<base):CpA L R base W' io po eo ro ic pc ec rc cs:=
 ⟨h.lay.keptB hk (λ q s=>hS q s),hk.row h.ent (λ q e s=>by have:=hS _ s;have:=Y0 h.ent e;omega),hk.row h.row (λ q e s=>by have:=hS _ s;have:=Y0 h.row e;omega)⟩
theorem CpA.cdA {L:List Sym} {R:List Ru} {base:Nat} {W:World} {io po eo ro:Option Addr} {ic pc ec rc:Nat} {cs:List Value} (h:CpA L R base W io po eo ro ic pc ec rc cs) (hr:RgP W ro (Zj L R)):CdA W io po eo ro (Zk L R L.length).1 (Zk L R L.length).2 (Zj L R):=by
 obtain ⟨ao,ac,e2,i1,_⟩:=h.ent.ints;simp only [Value.slice.injEq,true_and] at e2;obtain ⟨rfl,rfl⟩:=e2;exact ⟨h.lay.insAt,h.lay.pthAt,i1,hr⟩
theorem Zfs.cpA {L:List Sym} {R:List Ru} {w w' : World} {e:Ending} (h:Zfs L R w e w'):Za w w' ∧ ∃ io ic po pc eo ec ro rc cs,e=.returned (.tuple #[.agg #[.slice io (Zk L R L.length).1.1.length ic,.slice po (Zk L R L.length).1.2.length pc,.slice eo (Zk L R L.length).2.length ec,.slice ro (Zj L R).length rc],.nilIface])∧CpA L R w.heap.size w' io po eo ro ic pc ec rc cs∧RtC w.heap.size w' cs (Zj L R):=by
 obtain ⟨io,ic,po,pc,eo,ec,ro,rc,cs,rfl,h1,h2,h3,h4,h5⟩:=h;exact ⟨h5,io,ic,po,pc,eo,ec,ro,rc,cs,by rw [Zj,List.length_map],⟨h1,h2,h3⟩,h4⟩
theorem J8.cpA {L:List Sym} {R:List Ru} {w w' : World} {e:Ending} (h:J8 L R w e w') (hall:Ziy L R L.length):Za w w' ∧ ∃ io ic po pc eo ec ro rc cs,e=.returned (.tuple #[.agg #[.slice io (Zk L R L.length).1.1.length ic,.slice po (Zk L R L.length).1.2.length pc,.slice eo (Zk L R L.length).2.length ec,.slice ro (Zj L R).length rc],.slice none 0 0])∧CpA L R w.heap.size w' io po eo ro ic pc ec rc cs∧RvC w.heap.size w' cs (Zj L R):=by
 obtain ⟨hs,h | h⟩:=h
 ·obtain ⟨_,vi,vp,ev,rv,cs,rfl,h1,h2,h3,h4⟩:=h
  obtain ⟨io,ic,po,pc,rfl,rfl⟩:=Kv h1;obtain ⟨eo,ec,rfl,i1,_⟩:=h2.ints;obtain ⟨ro,rc,rfl⟩:=Zf h3;exact ⟨hs,io,ic,po,pc,eo,ec,ro,rc,cs,by rw [Zj,List.length_map],⟨h1,h2,h3⟩,h4⟩
 ·obtain ⟨K,z,v,h1,h2,h3,h4,_⟩:=h
  obtain ⟨t,ht⟩:=hall K h1 h2;rw [h4] at ht;cases ht
theorem J8.err {L:List Sym} {R:List Ru} {w w' : World} {e:Ending} (h:J8 L R w e w') {K:Nat} {z:Int} (hK:K<L.length) (hd:Y7 L (K:Int)=true) (ht:X5 L R K=.error z) (hall:Ziy L R K):Za w w' ∧ ∃ v,e=.returned (.tuple #[.agg #[.slice none 0 0,.slice none 0 0,.slice none 0 0,.slice none 0 0],v])∧Y5 w' v [(81,(K:Int)),(82,z)]∧Zrw w v:=by
 obtain ⟨hs,h | h⟩:=h
 ·obtain ⟨h,_⟩:=h
  obtain ⟨t,h2⟩:=h K hK hd;rw [ht] at h2;cases h2
 ·obtain ⟨K', z', v,h1,h2,h3,h4,h5,h6,h7⟩:=h
  have e1:K' = K:=by
   by_cases h8:K' < K
   ·obtain ⟨t,h9⟩:=hall K' h8 h2
    rw [h4] at h9;cases h9
   ·by_cases h8:K<K'
    ·obtain ⟨t,h9⟩:=h3 K h8 hd
     rw [ht] at h9;cases h9
    ·omega
  subst e1;rw [ht] at h4;cases h4;exact ⟨hs,v,h5,h6,h7⟩
end
section
open Go.RowKit
attribute [local go_sem ↓] Go.wp_at_zero Go.wp_at_succ
theorem AIn.more {L:List Sym} {T:List Int} {wp wr w1:World} {gA gE p j gg cap:Nat} {en:Nat->Int} {f:Nat->Value} {vo:Option Addr} {vc:Nat} (hT:IsT L T) (hp:p<T.length) (hj:j<arN L T[p]) (hg:gA≠gE) (hlA:gA<wp.heap.size) (hlE:gE<wp.heap.size) (h6:∀ q,p+1<=q->q<T.length->en q=(Zq L T q:Int))
  (h1:Zc (λ k=>k=gE∨k=gA) wp wr) (h2:Jd wr gE T.length (λ q=>if q=p then (past L T j (p+1):Int) else en q)) (h3:Zio wr gA T.length (λ q=>if q=p then .slice vo j vc else f q)) (h4:wr.ownsRow wp.heap.size 3 1 (.slice vo j vc) j (iv (ofN (Zr L T j (p+1)))))
  (hr:w1.ownsRow wp.heap.size 3 1 (.slice (some ⟨gg,0,none⟩) (j+1) cap) (j+1) (iv (ofN (Zr L T j (p+1))) ++ [.int .i64 (past L T j (p+1):Int)])) (hk:Zc (λ k=>(Value.slice vo j vc).ownBlock=some k) wr w1) (hat:(Value.slice vo j vc).ownBlock=some gg∨wr.heap.size<=gg) :
  (w1.cell? ⟨gA,p,none⟩=some (.slice vo j vc)∧w1.frozen? ⟨gA,p,none⟩=false) ∧
  ((w1.setCell ⟨gA,p,none⟩ (.slice (some ⟨gg,0,none⟩) (j+1) cap)).cell? ⟨gE,p,none⟩=some (.int .i64 (past L T j (p+1):Int))∧(w1.setCell ⟨gA,p,none⟩ (.slice (some ⟨gg,0,none⟩) (j+1) cap)).cell? ⟨gE,past L T j (p+1),none⟩=some (.int .i64 (Zq L T (past L T j (p+1)):Int))∧(w1.setCell ⟨gA,p,none⟩ (.slice (some ⟨gg,0,none⟩) (j+1) cap)).frozen? ⟨gE,p,none⟩=false) ∧
  AIn L T wp gA gE p en f (j+1) ((w1.setCell ⟨gA,p,none⟩ (.slice (some ⟨gg,0,none⟩) (j+1) cap)).setCell ⟨gE,p,none⟩ (.int .i64 (Zq L T (past L T j (p+1)):Int))):=by
 have hf:=(Zu.one hT hp).kids.2;have hfk:=hf.drop (i:=j) (by omega);rw [show arN L T[p]-j=(arN L T[p]-j-1)+1 by omega] at hfk;have hq:past L T j (p+1)<T.length:=by have:=hfk.pos;have:=hfk.le;omega
 have hfj:=hf.drop (i:=0) (by omega)
 have hge:p+1<=past L T j (p+1):=by
  have:=(Zu.le (k:=arN L T[p]-j-1+1) hfk)
  rcases Nat.eq_zero_or_pos j with e | e
  ·subst e;exact Nat.le_refl _
  ·have h9:=Kq hf (i:=0) (j:=j) e (by omega)
   have h10:=hf;rw [show arN L T[p]=(arN L T[p]-1)+1 by omega] at h10;have:=h10.succ.2.1;simp only [past] at h9;omega
 have hbz:=h1.size
 have own:∀ k,(Value.slice vo j vc).ownBlock=some k->wp.heap.size<=k:=λ k e=>by
  rcases h4.2 with ⟨e1,_⟩ | ⟨g,c,cur,e1,e2,_⟩
  ·rw [e1] at e;simp [Value.ownBlock] at e
  ·rw [e1] at e;simp only [Value.ownBlock,Option.some.injEq] at e;omega
 have nA:¬ (Value.slice vo j vc).ownBlock=some gA:=λ e=>by have:=own _ e;omega
 have nE:¬ (Value.slice vo j vc).ownBlock=some gE:=λ e=>by have:=own _ e;omega
 have gge:wp.heap.size<=gg:=by
  rcases hat with e | e
  ·exact own _ e
  ·omega
 have v1:=h3.kept hk nA;have n1:=h2.kept hk nE;have v2:=v1.set p (.slice (some ⟨gg,0,none⟩) (j+1) cap);have k2:Zc (λ k=>k=gA) w1 (w1.setCell ⟨gA,p,none⟩ (.slice (some ⟨gg,0,none⟩) (j+1) cap)):=Zt _ _ _ _;have n2:=n1.kept k2 (λ e=>hg e.symm);have k3:Zc (λ k=>k=gE) (w1.setCell ⟨gA,p,none⟩ (.slice (some ⟨gg,0,none⟩) (j+1) cap)) ((w1.setCell ⟨gA,p,none⟩ (.slice (some ⟨gg,0,none⟩) (j+1) cap)).setCell ⟨gE,p,none⟩ (.int .i64 (Zq L T (past L T j (p+1)):Int))):=Zt _ _ _ _;have n3:=n2.set p (Zq L T (past L T j (p+1)):Int);have v3:=v2.kept k3 (λ e=>hg e);have a1:=v1.cell hp;have a2:=n2.cell hp;have a3:=n2.cell hq;simp only [if_pos] at a1 a2;rw [if_neg (by omega),h6 _ hge hq] at a3;refine ⟨a1,⟨a2.1,a3.1,a2.2⟩,?_,?_,some ⟨gg,0,none⟩,cap,?_,?_⟩
 ·exact Zc.trans (Zc.trans (Zc.trans h1 hk (λ i hi e=>by have:=own _ e;omega)) k2 (λ _ _ e=>.inr e)) k3 (λ _ _ e=>.inl e)
 ·refine n3.congr (λ i hi=>?_)
  by_cases e:i=p
  ·rw [if_pos e,if_pos e,Jw]
  ·rw [if_neg e,if_neg e,if_neg e]
 ·refine v3.congr (λ i hi=>?_)
  by_cases e:i=p
  ·rw [if_pos e,if_pos e]
  ·rw [if_neg e,if_neg e,if_neg e]
 ·have r2:=k3.row (k2.row hr (λ k e q=>by simp only [Value.ownBlock,Option.some.injEq] at e;omega)) (λ k e q=>by simp only [Value.ownBlock,Option.some.injEq] at e;omega)
  rw [Za4];have:iv (ofN (Zr L T j (p+1) ++ [past L T j (p+1)]))=iv (ofN (Zr L T j (p+1))) ++ [.int .i64 (past L T j (p+1):Int)]:=by simp [ofN,iv]
  rw [this];exact r2
theorem Zq8.psb {L:List Sym} {T:List Int} {w wr:World} {gA gE:Nat} (h:Zq8 L T w gA gE 0 wr):PsB w.heap.size wr (some ⟨gA,0,none⟩) (Zg4 L T)∧Za w wr:=by
 obtain ⟨h0,h1,h2,h3,en,f,h4,h5,h6,h7,h8⟩:=h;refine ⟨.inr ⟨gA,0,rfl,h2,h5.lt,λ i hi=>?_⟩,h0⟩;have hi' : i<T.length:=by rw [Ks] at hi;exact hi
 obtain ⟨ao,ac,e1,e2,e3⟩:=h8 i (Nat.zero_le _) hi';refine ⟨ao,ac,?_,by rw [Zha];exact e2,λ a e=>(e3 a e).2.2⟩;rw [Zha,X4,Nat.zero_add,<- e1];exact (h5.cell hi').1
theorem Zn7 {n b:Nat} {w:World} {L:List Sym} (h:Sg n w b L) {ao:Option Addr} {cap:Nat} {T:List Int} (ht:Zh w ao T) (hc:Ze L T=0) (hv:∀ x∈T,0<=x) :
  Calls Tryz.prog 95 #[.pointer (some ⟨b,0,none⟩),.slice ao T.length cap] w λ e w' => ∃ go gc,e=.returned (.slice go T.length gc)∧PsB w.heap.size w' go (Zg4 L T)∧Za w w' := by
 obtain ⟨hm,hbad,hT⟩:=Zg.1 hc
 have hnum:Hid (∀ p (hp:p<T.length),∃ i:Nat,T[p]=(i:Int)∧i<L.length):=λ p hp=>by
  have h1:=Z4.1 hbad T[p] (List.getElem_mem hp);have h2:=hv T[p] (List.getElem_mem hp);exact ⟨T[p].toNat,by omega,by omega⟩
 have CAT:Hid (∀ ww i (hi:i<L.length),Za w ww->Calls Tryz.prog 81 #[.pointer (some ⟨b,0,none⟩),.int .i64 (i:Int)] ww λ e w' => ∃ nm df,e=.returned (.tuple #[.agg #[.string nm,.int .i64 ((arN L (i:Int):Nat):Int),.bool df],.int .i64 0])∧Za ww w'):=λ ww i hi hk=>by
  refine (Zbk (h.same hk) hi).mono ?_;rintro e w' ⟨rfl,hk'⟩;exact ⟨_,_,by rw [Zro h.2 hi],hk'⟩
 have HAR:=λ z=>Xp h.2 z;obtain ⟨i1,hi1,hz0,hz1,hz2⟩:=info_parts Xr;obtain ⟨i2,hi2,hy0,hy1,hy2⟩:=info_parts (show (Tryz.prog.info? 32).map (λ i=>(i.zero,i.size,i.bytes))=some (some (.slice none 0 0),1,24) by kernel_rfl);obtain ⟨N,hN⟩:∃ N,N=T.length:=⟨_,rfl⟩;have hmN:N<=2000:=by omega
 have mA:∀ w:World,(Instr.makeSlice 48 (.int .i64 (N:Int)) (.int .i64 (N:Int))).run Tryz.prog w=.ok (.slice (some ⟨w.heap.size,0,none⟩) N N) (w.alloc (.cells (madeCells #[.slice none 0 0] N) 32)):=λ w=>by
  have:=run_make w 48 32 i2 _ Tryz.underlying48 hi2 hy0 .i64 .i64 (N:Int) (N:Int) (by omega) (by omega) (by rw [hy2];omega) (by omega)
  simpa [hy1,Value.cells] using this
 have mE:∀ w:World,(Instr.makeSlice 32 (.int .i64 (N:Int)) (.int .i64 (N:Int))).run Tryz.prog w=.ok (.slice (some ⟨w.heap.size,0,none⟩) N N) (w.alloc (.cells (madeCells #[.int .i64 0] N) 3)):=λ w=>by
  have:=run_make w 32 3 i1 _ Tryz.underlying32 hi1 hz0 .i64 .i64 (N:Int) (N:Int) (by omega) (by omega) (by rw [hz2];omega) (by omega)
  simpa [hz1,Value.cells] using this
 have HN:Hid (N=T.length∧IsT L T):=⟨hN,hT⟩
 have START:Hid (∀ wc gA gE,Za w wc->gA≠gE->w.heap.size<=gA->w.heap.size<=gE->wc.heap[gA]? = some (.cells (madeCells #[.slice none 0 0] N) 32 (0,0))->wc.heap[gE]? = some (.cells (madeCells #[.int .i64 0] N) 3 (0,0))->Zq8 L T w gA gE N wc):=by
  intro wc gA gE k1 k2 k3 k4 k5 k6;subst hN;exact ⟨k1,k2,k3,k4,λ _=>0,λ _=>.slice none 0 0,⟨_,_,k6,by rw [size_madeCells];exact Nat.le_refl _,λ i hi=>Zcb _ i hi⟩,⟨_,k5,size_madeCells _ _,λ i hi=>Zka _ i hi⟩,λ q a b=>by omega,λ q _=>rfl,λ q a b=>by omega⟩
 have HT:Hid (∀ ww p (hp:p<T.length),Za w ww->∃ tb off,ao=some ⟨tb,off,none⟩∧ww.cell? ⟨tb,off+p,none⟩=some (.int .i64 T[p])):=λ ww p hp hk=>by
  obtain ⟨tb,off,e,_,hcc⟩:=(ht.same hk).get hp;exact ⟨tb,off,e,hcc⟩
 rw [<- hN];clear h ht hc hv hbad hm hT hN
 go_enter Tryz.func95,Tryz.ntmps95
 go_upto_region 1 with fail
 go_cut [5,6] from 10 to 15 (λ s5 s6 wc=>∃ gA gE,s5=.slice (some ⟨gA,0,none⟩) N N∧s6=.slice (some ⟨gE,0,none⟩) N N∧Zq8 L T w gA gE N wc)
 case first=>
  go_region
  all_goals
   go_wp2_with fail
   go_meet
   case rel=>
    first
     | exact ⟨_,_,rfl,rfl,START.out _ _ _ (Zc.drew (Zc.alloc (Zc.alloc (Zc.refl _ w) _) _)) (by omega) (by omega) (by omega) (heap_alloc2_old w _ _) (Zp w _ _)⟩
     | exact ⟨_,_,rfl,rfl,START.out _ _ _ (Zc.drew (Zc.alloc (Zc.alloc (Zc.refl _ w) _) _)) (by omega) (by omega) (by omega) (Zp w _ _) (heap_alloc2_old w _ _)⟩
 case rest=>
  obtain ⟨gA,gE,rfl,rfl,hO⟩:=hcut;clear START mA mE
  go_wp2_with fail
  go_loopw [7] (λ s7 wr=>∃ k:Nat,k<=N∧s7=.int .i64 ((k:Int)-1)∧Zq8 L T w gA gE k wr) (λ s7 _=>(intOf s7+1).toNat)
  case atStart=>exact ⟨N,Nat.le_refl _,by go_num,hO⟩
  case round=>
   clear hO;obtain ⟨k,hk,rfl,hO⟩:=hrel;cases k with
   | zero=>
    obtain ⟨q1,q2⟩:=hO.psb;clear hO
    go_wp2_with fail
    go_ret;exact ⟨_,_,rfl,q1,q2⟩
   | succ p=>
    have hs7:(((p+1:Nat):Int)-1)=(p:Int):=by omega
    rw [hs7];have hp:p<T.length:=by have:=HN.out.1;omega
    obtain ⟨i,hTi,hiL⟩:=hnum.out p hp;obtain ⟨tb,off,rfl,hcell⟩:=HT.out wr p hp hO.1;rw [hTi] at hcell;have CA:=CAT.out wr i hiL hO.1;obtain ⟨A,hA⟩:∃ A,arN L (i:Int)=A:=⟨_,rfl⟩;have HA:Hid (arN L T[p]=A):=by show _=_;rw [hTi];exact hA
    have hA6:A<=6:=by rw [<- hA];exact HAR _
    rw [hA] at CA;have j1:(0:Int)<=(p:Int):=by omega
    have j2:(p:Int)<(N:Int):=by omega
    have j3:(p:Int)<2000:=by omega
    have HO:Hid (∀ ww,Za wr ww->Zq8 L T w gA gE (p+1) ww):=λ ww hk=>hO.same hk;clear hTi hA hO
    go_upto_region 6 with (first | (go_at_call 81;refine CA.mono ?_;rintro e w1 ⟨nm,df,rfl,k1⟩))
    obtain ⟨w2,hw2⟩:∃ w2,w2=w1.alloc (.cells #[.string nm,.int .i64 ((A:Nat):Int),.bool df] 129):=⟨_,rfl⟩;have k2:Za w1 w2:=by rw [hw2];exact (Zc.refl _ _).alloc _
    have bx:w2.heap[w1.heap.size]? = some (.cells #[.string nm,.int .i64 ((A:Nat):Int),.bool df] 129 (0,0)):=by rw [hw2];exact heap_alloc_new _ _
    rw [<- hw2];clear hw2;obtain ⟨s0,hg,hgA,hgE,en,f,n2,v2,h6,h7,h8⟩:=HO.out w2 (k1.trans' k2);obtain ⟨z0,z1⟩:=n2.cell hp;have kE:=Zt w2 gE p (.int .i64 ((p:Int)+1));have lA:=v2.lt;have lE:=n2.lt
    have hbE:¬ w1.heap.size=gE:=λ e=>by
     obtain ⟨cs,t,c1,c2,c3⟩:=n2;rw [<- e,bx] at c1;simp only [Option.some.injEq,Obj.cells.injEq] at c1;have:=c3 0 (by omega);rw [<- c1.1] at this;simp at this
    have xA:(w2.setCell ⟨gE,p,none⟩ (.int .i64 ((p:Int)+1))).cell? ⟨w1.heap.size,1,none⟩=some (.int .i64 ((A:Nat):Int)):=(kE.cell (p:=⟨w1.heap.size,1,none⟩) (Zi bx) hbE).trans (Zb bx 1)
    have START2:AIn L T w2 gA gE p en f 0 (w2.setCell ⟨gE,p,none⟩ (.int .i64 ((p:Int)+1))):=by
     refine ⟨kE.mono (λ _ _ e=>.inl e),?_,none,0,?_,World.ownsRow_nil _ _ _ _⟩
     ·refine (n2.set p ((p:Int)+1)).congr (λ q hq=>?_)
      by_cases e:q=p
      ·rw [if_pos e,if_pos e];simp [past]
      ·rw [if_neg e,if_neg e]
     ·refine (v2.kept kE (λ e=>hg e)).congr (λ q hq=>?_)
      by_cases e:q=p
      ·rw [if_pos e,e];exact h7 p (by omega)
      ·rw [if_neg e]
    have HS2:Hid (AIn L T w2 gA gE p en f 0 (w2.setCell ⟨gE,p,none⟩ (.int .i64 ((p:Int)+1)))):=START2
    have FIN2:Hid (∀ ww,AIn L T w2 gA gE p en f A ww->Zq8 L T w gA gE p ww):=λ ww hI=>by
     rw [<- HA.out] at hI;exact AIn.done HN.out.2 hp s0 hg hgA hgE h6 h7 h8 lA lE hI
    have MORE:Hid (∀ ww j vo vc,j<A->Zc (λ k=>k=gE∨k=gA) w2 ww->Jd ww gE T.length (λ q=>if q=p then (past L T j (p+1):Int) else en q)->Zio ww gA T.length (λ q=>if q=p then .slice vo j vc else f q)->ww.ownsRow w2.heap.size 3 1 (.slice vo j vc) j (iv (ofN (Zr L T j (p+1))))->∀ gg cap w1,w1.ownsRow w2.heap.size 3 1 (.slice (some ⟨gg,0,none⟩) (j+1) cap) (j+1) (iv (ofN (Zr L T j (p+1))) ++ [.int .i64 (past L T j (p+1):Int)])->Zc (λ k=>(Value.slice vo j vc).ownBlock=some k) ww w1->((Value.slice vo j vc).ownBlock=some gg∨ww.heap.size<=gg) ->
      (w1.cell? ⟨gA,p,none⟩=some (.slice vo j vc)∧w1.frozen? ⟨gA,p,none⟩=false)∧((w1.setCell ⟨gA,p,none⟩ (.slice (some ⟨gg,0,none⟩) (j+1) cap)).cell? ⟨gE,p,none⟩=some (.int .i64 (past L T j (p+1):Int))∧(w1.setCell ⟨gA,p,none⟩ (.slice (some ⟨gg,0,none⟩) (j+1) cap)).cell? ⟨gE,past L T j (p+1),none⟩=some (.int .i64 (Zq L T (past L T j (p+1)):Int))∧(w1.setCell ⟨gA,p,none⟩ (.slice (some ⟨gg,0,none⟩) (j+1) cap)).frozen? ⟨gE,p,none⟩=false)∧AIn L T w2 gA gE p en f (j+1) ((w1.setCell ⟨gA,p,none⟩ (.slice (some ⟨gg,0,none⟩) (j+1) cap)).setCell ⟨gE,p,none⟩ (.int .i64 (Zq L T (past L T j (p+1)):Int)))):=λ ww j vo vc hj a1 a2 a3 a4 gg cap w1 b1 b2 b3=>AIn.more HN.out.2 hp (by rw [HA.out];exact hj) hg lA lE h6 a1 a2 a3 a4 b1 b2 b3
    have LT:Hid (∀ j,j<A->past L T j (p+1)<N):=λ j hj=>by
     have hf:=(Zu.one HN.out.2 hp).kids.2;rw [HA.out] at hf;have hfk:=hf.drop (i:=j) (by omega);rw [show A-j=(A-j-1)+1 by omega] at hfk;have:=hfk.pos;have:=hfk.le;have:=HN.out.1;omega
    clear START2 h6 h7 h8 hbE n2 v2 CA bx
    go_upto_region 8 with fail
    go_loopw [39] (λ s39 wr=>∃ j:Nat,j<=A∧s39=.int .i64 (j:Int)∧AIn L T w2 gA gE p en f j wr) (λ s39 _=>A-(intOf s39).toNat)
    case atStart=>exact ⟨0,Nat.zero_le _,rfl,HS2.out⟩
    case round=>
     clear z0 z1 xA HS2 kE;obtain ⟨j,hj,rfl,hI⟩:=hrel
     by_cases hlt:j<A
     ·have hE:=LT.out j hlt
      obtain ⟨b1,b2,vo,vc,b3,b4⟩:=hI;have M:=MORE.out wr j vo vc hlt b1 b2 b3 b4;obtain ⟨c0, -⟩:=b2.cell hp;obtain ⟨d0,d1⟩:=b3.cell hp;simp only [if_true] at c0 d0;have d2:(wr.alloc (.cells #[.int .i64 (past L T j (p+1):Int)] 3)).cell? ⟨gA,p,none⟩=some (.slice vo j vc):=Xh d0 _;have hbs:w2.heap.size<=(wr.alloc (.cells #[.int .i64 (past L T j (p+1):Int)] 3)).heap.size:=by have:=b1.size;simp;omega
      have hn1:j+1<=maxLen:=by unfold maxLen;omega
      generalize Zq L T (past L T j (p+1))=Z at *;generalize past L T j (p+1)=E at *;have MH:Hid _:=M;have e1:(0:Int)<=(E:Int):=by omega
      have e2:(E:Int)<(N:Int):=by omega
      have l1:(j:Int)<(A:Int):=by omega
      clear M b1 b2 b3 MORE LT FIN2 CAT HT HO hnum
      go_upto_region 9 with fail
      go_region_law (refine step_append_lies _ (by rfl) _ _ 32 (by rfl) w2.heap.size 3 i1 _ 1 8 Tryz.underlying32 hi1 hz0 hz1 hz2 rfl (by omega) (.slice vo j vc) j (iv (ofN (Zr L T j (p+1)))) (by rfl) ((b4.alloc _).drew) ⟨wr.heap.size,0,none⟩ 1 1 [.int .i64 (E:Int)] (by rfl) (by rfl) (World.news_of_block (cs:=#[.int .i64 (E:Int)]) (t:=3) (fr:=(0,0)) (heap_alloc_new wr _)) (by simp [Value.oneCell']) (by omega) hn1 (by omega) hbs (wr.heap.size+1) (by simp) ?_;intro gg cap w5 hown hgrow hat hlt5;obtain ⟨⟨m0,m1⟩,⟨m2,m3,m4⟩,m5⟩:=MH.out gg cap w5 hown (Zc.grown (Zc.drew (Zc.alloc (Zc.refl _ wr) _)) hgrow (λ _ e _=>e)) (hat.imp id (λ e=>by omega)))
      all_goals
       clear b4 c0 d0 d1 d2 MH
       go_wp2_with fail
       go_roundw
       case rel=>exact ⟨j+1,by omega,by go_num,m5⟩
       case measure=>simp [intOf];omega
     ·obtain rfl:j=A:=by omega
      have hF:=FIN2.out _ hI;clear hI FIN2 MORE LT
      go_wp2_with fail
      go_roundw
      case rel=>first | exact ⟨p,by omega,by go_num,hF⟩ | ((repeat apply Exists.intro);exact ⟨⟨p,by omega,by go_num,hF⟩,rfl⟩)
      case measure=>simp [intOf]
def Zoa (L:List Sym) (T:List Int):Bool:=decide (Ze L T=0) && !(T.any (λ x=>decide (x<0)))
theorem Zvq (base:Nat) (w:World) (L:List Sym) (T:List Int):Zhj base w L false T (.agg #[.slice none 0 0,.slice none 0 0]):=⟨none,0,none,0,rfl,λ e=>by cases e⟩
theorem Ztd {n b:Nat} {w:World} {L:List Sym} (h:Sg n w b L) {ao:Option Addr} {cap:Nat} {T:List Int} (ht:Arg w ao T cap) :
  Calls Tryz.prog 48 #[.pointer (some ⟨b,0,none⟩),.slice ao T.length cap] w λ e w' => ∃ ho hn hc go gn gc,e=.returned (.agg #[.slice ho hn hc,.slice go gn gc])∧Zhj w.heap.size w' L (Zoa L T) T (.agg #[.slice ho hn hc,.slice go gn gc])∧Za w w' := by
 have hmx:T.length<=maxLen:=by have:=ht.size;unfold maxLen;omega
 obtain ⟨W1,hW1⟩:∃ W1,W1=w.alloc (.cells #[.slice none 0 0,.slice none 0 0] 121):=⟨_,rfl⟩;have KW:Za w W1:=by rw [hW1];exact (Zc.refl _ w).alloc _
 have hbx:W1.heap[w.heap.size]? = some (.cells #[.slice none 0 0,.slice none 0 0] 121 (0,0)):=by rw [hW1];exact heap_alloc_new w _
 have RC:Hid (∀ ww,Za W1 ww->(ww.cell? ⟨w.heap.size,0,none⟩=some (.slice none 0 0)∧ww.cell? ⟨w.heap.size,1,none⟩=some (.slice none 0 0))∧ww.frozen? ⟨w.heap.size,0,none⟩=false∧ww.frozen? ⟨w.heap.size,1,none⟩=false):=λ ww hk=>by
  have:=hk.at0 hbx;exact ⟨⟨Zb this 0,Zb this 1⟩,Zd this 0,Zd this 1⟩
 have PUT:Hid (∀ ww x y,Za W1 ww->(((ww.setCell ⟨w.heap.size,0,none⟩ x).setCell ⟨w.heap.size,1,none⟩ y).cell? ⟨w.heap.size,0,none⟩=some x∧((ww.setCell ⟨w.heap.size,0,none⟩ x).setCell ⟨w.heap.size,1,none⟩ y).cell? ⟨w.heap.size,1,none⟩=some y)∧Zc (λ k=>k=w.heap.size) ww ((ww.setCell ⟨w.heap.size,0,none⟩ x).setCell ⟨w.heap.size,1,none⟩ y)∧Za w ((ww.setCell ⟨w.heap.size,0,none⟩ x).setCell ⟨w.heap.size,1,none⟩ y)):=λ ww x y hk=>by
  have h1:=hk.at0 hbx;have h2:=Zs (Zs h1 0 x) 1 y;have k1:=Zt ww w.heap.size 0 x;have k2:=Zt (ww.setCell ⟨w.heap.size,0,none⟩ x) w.heap.size 1 y;have k3:=Zc.trans k1 k2 (λ _ _ e=>e);exact ⟨⟨Zb h2 0,Zb h2 1⟩,k3,Zc.trans (KW.trans' hk) k3 (λ i hi e=>by omega)⟩
 have CK:Hid (∀ ww,Za w ww->Calls Tryz.prog 59 #[.pointer (some ⟨b,0,none⟩),.slice ao T.length cap] ww λ e w' => e=.returned (.int .i64 (Ze L T))∧Za ww w'):=λ ww hk=>Jj (h.same hk) (ht.at'.same hk) hmx;have CV:Hid (∀ ww,Za w ww->Calls Tryz.prog 68 #[.slice ao T.length cap,.func (.func 93) #[] #[]] ww λ e w' => e=.returned (.bool (T.any (λ x=>decide (x<0))))∧w' = ww):=λ ww hk=>Zez (ht.at'.same hk) hmx;have C1:=CK.out W1 KW;obtain ⟨⟨r0,r1⟩,f0,f1⟩:=RC.out W1 (Zc.refl _ _);have NO:Hid (Zoa L T=false->∀ ww,Za w ww->Zhj w.heap.size ww L (Zoa L T) T (.agg #[.slice none 0 0,.slice none 0 0])∧Za w ww):=λ e ww hk=>by rw [e];exact ⟨Zvq _ _ _ _,hk⟩
 by_cases hz:Ze L T=0
 ·rw [hz] at C1
  cases hv:T.any (λ x=>decide (x<0)) with
  | true=>
   rw [hv] at CV;have hc:Zoa L T=false:=by simp [Zoa,hv]
   have FIN:=NO.out hc;have HF:Hid _:=FIN;clear FIN hv hc NO ht h hz
   go_enter Tryz.func48,Tryz.ntmps48
   go_upto_region 1 with fail
   rw [<- hW1];clear hW1
   go_upto_region 2 with (first
    | (go_at_call 59;refine C1.mono ?_;rintro e w2 ⟨rfl,k2⟩;have C2:=CV.out w2 (KW.trans' k2))
    | (go_at_call 68;refine C2.mono ?_;rintro e w3 ⟨rfl,rfl⟩;obtain ⟨⟨r2,r3⟩,f2,f3⟩:=RC.out _ k2))
   go_wp2_with fail
   obtain ⟨⟨g0,g1⟩,kk,ks⟩:=PUT.out _ (.slice none 0 0) (.slice none 0 0) k2;exact bodyPost_ret (v:=.agg #[.slice none 0 0,.slice none 0 0]) (by simp [results,Tryz.results48,go_sem,g0,g1]) rfl ⟨_,_,_,_,_,_,rfl,HF.out _ ks⟩
  | false=>
   rw [hv] at CV;have hc:Zoa L T=true:=by simp [Zoa,hv,hz]
   have hpos:∀ x∈T,0<=x:=λ x hx=>by
    have:=List.any_eq_false.1 hv x hx
    simpa using this
   have CT:Hid (∀ ww,Za w ww->Calls Tryz.prog 94 #[.slice ao T.length cap] ww λ e w' => ∃ go gc,e=.returned (.slice go T.length gc)∧Hid (Zh w' go T∧∀ a,go=some a->ww.heap.size<=a.block)∧Za ww w'):=λ ww hk=>by
    refine (Zfe ((ht.at'.same hk)) (Z6 (Zg.1 hz).2.2) (Zg.1 hz).1).mono ?_;rintro e w' ⟨v,rfl,hr,hk'⟩;obtain ⟨go,gc,rfl,g1,g2,g3⟩:=hr.ints;exact ⟨go,gc,rfl,⟨g1,λ a e=>(g3 a e).1⟩,hk'⟩
   have CA:Hid (∀ ww,Za w ww->Calls Tryz.prog 95 #[.pointer (some ⟨b,0,none⟩),.slice ao T.length cap] ww λ e w' => ∃ go gc,e=.returned (.slice go T.length gc)∧Hid (PsB ww.heap.size w' go (Zg4 L T))∧Za ww w'):=λ ww hk=>Zn7 (h.same hk) (ht.at'.same hk) hz hpos;clear NO ht h hz hv
   go_enter Tryz.func48,Tryz.ntmps48
   go_upto_region 1 with fail
   rw [<- hW1];clear hW1
   go_upto_region 3 with (first
    | (go_at_call 59;refine C1.mono ?_;rintro e w2 ⟨rfl,k2⟩;have C2:=CV.out w2 (KW.trans' k2))
    | (go_at_call 68;refine C2.mono ?_;rintro e w3 ⟨rfl,rfl⟩))
   have C3:=CT.out _ (KW.trans' k2)
   go_wp2_with (first
    | (go_at_call 94;refine C3.mono ?_;rintro e w4 ⟨go,gc,rfl,hg,k4⟩;have C4:=CA.out w4 ((KW.trans' k2).trans' k4))
    | (go_at_call 95;refine C4.mono ?_;rintro e w5 ⟨lo,lc,rfl,hl,k5⟩;obtain ⟨⟨r2,r3⟩,f2,f3⟩:=RC.out _ ((k2.trans' k4).trans' k5)))
   obtain ⟨⟨g0,g1⟩,kk,ks⟩:=PUT.out _ (.slice go T.length gc) (.slice lo T.length lc) ((k2.trans' k4).trans' k5);have z2:=(KW.trans' k2).size;have z4:=k4.size;have zW:=Zi hbx;have zk:=k2.size;refine bodyPost_ret (v:=.agg #[.slice go T.length gc,.slice lo T.length lc]) (by simp [results,Tryz.results48,go_sem,g0,g1]) rfl ⟨_,_,_,_,_,_,rfl,?_,ks⟩;rw [hc];obtain ⟨q1,q2⟩:=hg.out;refine ⟨go,gc,lo,lc,rfl,λ _=>⟨(q1.same k5).kept kk (λ a e=>by have:=q2 a e;omega),λ a e=>by have:=q2 a e;omega,?_⟩⟩;have hP:=hl.out
   rcases hP with e0 | ⟨b', off,rfl,a1,a2,a3⟩
   ·exact .inl e0
   ·refine .inr ⟨b', off,rfl,by omega,Nat.lt_of_lt_of_le a2 kk.size,λ i hi=>?_⟩
    obtain ⟨xo,xc,y1,y2,y3⟩:=a3 i hi;exact ⟨xo,xc,(kk.cell (p:=⟨b', off+i,none⟩) a2 (λ e=>by have e' : b' = w.heap.size:=e;omega)).trans y1,y2.kept kk (λ a e=>by have:=y3 a e;omega),λ a e=>by have:=y3 a e;omega⟩
 ·have hc:Zoa L T=false:=by simp [Zoa,hz]
  have FIN:=NO.out hc;have HF:Hid _:=FIN;have hz' : (Ze L T == 0)=false:=by simpa using hz
  generalize Ze L T=z at *;clear FIN hc NO ht h CV CK
  go_enter Tryz.func48,Tryz.ntmps48
  go_upto_region 1 with fail
  rw [<- hW1];clear hW1
  go_wp2_with (first
   | (go_at_call 59;refine C1.mono ?_;rintro e w2 ⟨rfl,k2⟩;obtain ⟨⟨r2,r3⟩,f2,f3⟩:=RC.out _ k2))
  obtain ⟨⟨g0,g1⟩,kk,ks⟩:=PUT.out _ (.slice none 0 0) (.slice none 0 0) k2;exact bodyPost_ret (v:=.agg #[.slice none 0 0,.slice none 0 0]) (by simp [results,Tryz.results48,go_sem,g0,g1]) rfl ⟨_,_,_,_,_,_,rfl,HF.out _ ks⟩
theorem Ztr {w:World} {m:Nat} {ro:Option Addr} {rc:Nat} {L:List Sym} {R:List Ru} {lv:Value} {vs:List Value} (h:MO w m ro rc L R lv vs) {lo:Option Addr} {lc:Nat} {l:List Ru} (hl:V7 w lo l) (hll:l.length<=140737488355328) (hln:lo=none->lc=0) (ha:Ans L R l []) (hok:∀ x∈l,Ze L x.1=0∧Ze L x.2=0) (hlen:R.length+l.length<=100)
  (hlk:∀ ww,Zc (λ q=>q=m∨lv.ownBlock=some q) w ww->V7 ww lo l) :
  Calls Tryz.prog 34 #[.pointer (some ⟨m,0,none⟩),.slice lo l.length lc] w λ e w' => ∃ lv' vs', e=.returned (.slice none 0 0)∧MO w' m ro rc L (R++l) lv' vs' ∧ (∀ q,lv'.ownBlock=some q->lv.ownBlock=some q∨w.heap.size<=q)∧Zc (λ q=>q=m∨lv.ownBlock=some q) w w' := by
 obtain ⟨mo,mc,hlv,hm⟩:=h.read;have CK:=Zlg hm (lc:=lc) hl hll hln;have c1:=Zb h.blk 1;have HH:Hid (∀ ww,Za w ww->MO ww m ro rc L R lv vs):=λ ww hk=>h.same hk;clear hlv hm hl h
 go_enter Tryz.func34,Tryz.ntmps34
 go_wp2_with (first | (go_at_call 78;refine CK.mono ?_;rintro e w1 ⟨ws,v,rfl,hws,hwa,hk1⟩;obtain rfl:ws=[]:=hws.uniq ha;obtain ⟨wo,wc', rfl,_⟩:=hwa))
 have M1:=HH.out w1 hk1;have K1:Zc (λ q=>q=m∨lv.ownBlock=some q) w w1:=Zc.mono hk1 (λ _ _ f=>f.elim);clear HH CK hk1 c1
 go_loopw [6] (λ i wr=>∃ (k:Nat) (lk:Value) (vk:List Value),k<=l.length∧i=.int .i64 (k:Int)∧Hid (MO wr m ro rc L (R++l.take k) lk vk)∧Hid (∀ q,lk.ownBlock=some q->lv.ownBlock=some q∨w.heap.size<=q)∧Zc (λ q=>q=m∨lv.ownBlock=some q) w wr) (λ i _=>l.length-(intOf i).toNat)
 case atStart=>exact ⟨0,lv,vs,Nat.zero_le _,rfl,by simpa [Hid] using M1,(λ q e=>.inl e),K1⟩
 case round=>
  clear M1 K1;obtain ⟨k,lk,vk,hk,rfl,hM,hB,hw⟩:=hrel
  by_cases hlt:k<l.length
  ·obtain ⟨gb,goff,rfl,hgb,go1,gc1,go2,gc2,r0,r1,A1,A2⟩:=(hlk wr hw).get hlt
   have hxk:=hok _ (List.getElem_mem hlt);have hxl:=Xv hxk
   obtain ⟨a1,rfl⟩:∃ a1,go1=some a1:=by
    cases go1 with
    | none=>have:=(A1.nil rfl).1;omega
    | some a=>exact ⟨a,rfl⟩
   obtain ⟨a2,rfl⟩:∃ a2,go2=some a2:=by
    cases go2 with
    | none=>have:=(A2.nil rfl).1;omega
    | some a=>exact ⟨a,rfl⟩
   have i1:(0:Int)<=(k:Int):=by omega
   have i2:(k:Int)<(l.length:Int):=by omega
   have hn:(R++l.take k).length=R.length+k:=by simp;omega
   have CELLS:Hid (∀ ww,Za wr ww->ww.cell? ⟨m,1,none⟩=some lk∧ww.cell? ⟨gb,goff+k * 2,none⟩=some (.slice (some a1) l[k].1.length gc1)∧ww.cell? ⟨gb,goff+k * 2+1,none⟩=some (.slice (some a2) l[k].2.length gc2)):=λ ww hk=>⟨Zb (hk.at0 hM.out.blk) 1,(hk.cell (p:=⟨gb,goff+k * 2,none⟩) hgb (λ f=>f)).trans r0,(hk.cell (p:=⟨gb,goff+k * 2+1,none⟩) hgb (λ f=>f)).trans r1⟩;have CO:Hid (∀ ww,Za wr ww->Calls Tryz.prog 79 #[.agg #[.slice (some a1) l[k].1.length gc1,.slice (some a2) l[k].2.length gc2]] ww λ e w' => ∃ g c g' c', e=.returned (.agg #[.slice (some ⟨g,0,none⟩) l[k].1.length c,.slice (some ⟨g', 0,none⟩) l[k].2.length c'])∧Vo w' g c l[k].1∧Vo w' g' c' l[k].2∧Za wr w'):=λ ww hk=>(Zsy (ac:=gc1) (bc:=gc2) (A1.same hk).at' (A2.same hk).at' hxl.1.1 hxl.2.1 hxl.1.2 hxl.2.2).mono (λ e w' ⟨g,c,g', c', q1,q2,q3,_,_,q4⟩=>⟨g,c,g', c', q1,q2,q3,hk.trans' q4⟩);have W1:Za wr wr.drew:=Zc.drew (Zc.refl _ _);have CC0:=CELLS.out wr (Zc.refl _ _);have HRW:Hid (∀ ww,Za wr ww->ww.ownsRow 0 68 2 lk (R.length+k) vk):=λ ww hk=>by rw [<- hn];exact (hM.out.same hk).row
   have h48:(R.length+k+1) * 48<=140737488355328:=by omega
   have FIN:Hid (∀ w2 g c g' c' gg cap w9,Za wr w2->Vo w2 g c l[k].1->Vo w2 g' c' l[k].2->w9.ownsRow 0 68 2 (.slice (some ⟨gg,0,none⟩) (R.length+k+1) cap) (R.length+k+1) (vk ++ [.slice (some ⟨g,0,none⟩) l[k].1.length c,.slice (some ⟨g', 0,none⟩) l[k].2.length c'])->Zc (λ q=>lk.ownBlock=some q) w2 w9->(lk.ownBlock=some gg∨w2.heap.size<=gg)->(w9.cell? ⟨m,1,none⟩=some lk∧w9.frozen? ⟨m,1,none⟩=false)∧Hid (∃ (k' : Nat) (lk' : Value) (vk' : List Value),k' <= l.length∧Value.int .i64 ((k:Int)+1)=.int .i64 (k' : Int)∧lk' = .slice (some ⟨gg,0,none⟩) (R.length+k+1) cap∧Hid (MO (w9.setCell ⟨m,1,none⟩ (.slice (some ⟨gg,0,none⟩) (R.length+k+1) cap)) m ro rc L (R++l.take k') lk' vk')∧Hid (∀ q,lk'.ownBlock=some q->lv.ownBlock=some q∨w.heap.size<=q)∧Zc (λ q=>q=m∨lv.ownBlock=some q) w (w9.setCell ⟨m,1,none⟩ (.slice (some ⟨gg,0,none⟩) (R.length+k+1) cap)))):=by
    intro w2 g c g' c' gg cap w9 s2 t1 t2 r9 k9 hat;have:=hM.out.more (gg:=gg) (cap:=cap) s2 t1 t2 hxk (by omega) (by rw [hn];exact r9) k9;rw [hn] at this;refine ⟨this.1,k+1,_,vk ++ [.slice (some ⟨g,0,none⟩) l[k].1.length c,.slice (some ⟨g', 0,none⟩) l[k].2.length c'],hlt,rfl,rfl,?_,?_,?_⟩
    ·show MO _ m ro rc L (R++l.take (k+1)) _ _
     rw [List.take_add_one,List.getElem?_eq_getElem hlt,<- List.append_assoc];exact this.2
    ·intro q e
     simp only [Value.ownBlock,Option.some.injEq] at e;subst e
     rcases hat with e | e
     ·exact hB.out _ e
     ·have:=hw.size;have:=s2.size;exact .inr (by omega)
    ·have sub:∀ q,q<w.heap.size->lk.ownBlock=some q->q=m∨lv.ownBlock=some q:=λ q hq e=>(hB.out q e).elim .inr (λ e=>absurd hq (by omega))
     exact Zc.setCell (p:=⟨m,1,none⟩) ((hw.trans (Zc.mono s2 (λ _ _ f=>f.elim)) (λ _ _ e=>e)).trans k9 (λ q hq e=>sub q hq e)) (λ _=>.inl rfl) _
   have hz0:0<=wr.heap.size:=Nat.zero_le _;clear hM hB hw hn A1 A2 r0 r1 hxk hxl hlk
   go_wp2_with fail
   obtain ⟨x1,x2,x3⟩:=CC0
   go_region_law (first
    | (refine Yb rfl (CO.out _ W1) (by simp [go_sem]) ?_;rintro e w2 ⟨g,c,g', c', rfl,t1,t2,hk2⟩;refine ⟨_,rfl,?_⟩;obtain ⟨cc1,cc2,cc3⟩:=CELLS.out _ hk2;obtain ⟨cd1,_,_⟩:=CELLS.out _ (hk2.alloc (.cells #[.slice (some ⟨g,0,none⟩) l[k].1.length c,.slice (some ⟨g', 0,none⟩) l[k].2.length c'] 68)))
    | (refine Zn2 (w0:=w2) (by rfl) _ _ (by rfl) 0 (R.length+k) vk lk (by rfl) (by first | exact (Zc.refl _ w2).alloc _ | exact (Zc.refl _ w2).drew.alloc _ | exact ((Zc.refl _ w2).alloc _).drew) (HRW.out _ hk2) (.slice (some ⟨g,0,none⟩) l[k].1.length c) (.slice (some ⟨g', 0,none⟩) l[k].2.length c') w2.heap.size (by rfl) (heap_alloc_new w2 _) (by rfl) (by rfl) (Nat.zero_le _) h48 ?_;intro gg cap w9 r9 k9 hat;obtain ⟨⟨y1,y2⟩,FF⟩:=FIN.out w2 g c g' c' gg cap w9 hk2 t1 t2 r9 k9 hat))
   all_goals
    go_wp2_with fail
    obtain ⟨k', lk', vk', z1,z2,rfl,z3,z4,z5⟩:=FF.out;exact ⟨⟨k', _,vk', z1,z2,z3,z4,z5⟩,by simp [intOf];omega⟩
  ·obtain rfl:k=l.length:=by omega
   have HM:Hid (MO wr m ro rc L (R++l) lk vk):=by have:=hM.out;rw [List.take_length] at this;exact this
   clear hM;go_wp2;go_ret;exact ⟨lk,vk,rfl,HM.out,hB.out,hw⟩
theorem Zsc {w:World} {m:Nat} {ro:Option Addr} {rc:Nat} {L:List Sym} {R:List Ru} {lv:Value} {vs:List Value} (h:MO w m ro rc L R lv vs) {lo:Option Addr} {lc:Nat} {l:List Ru} (hl:V7 w lo l) (hll:l.length<=140737488355328) (hln:lo=none->lc=0) {ws:List (Int × Int)} (ha:Ans L R l ws) (hne:ws≠[]) :
  Calls Tryz.prog 34 #[.pointer (some ⟨m,0,none⟩),.slice lo l.length lc] w λ e w' => ∃ v,e=.returned v∧Y5 w' v ws∧Za w w' := by
 obtain ⟨mo,mc,hlv,hm⟩:=h.read;have CK:=Zlg hm (lc:=lc) hl hll hln;have hp:(0:Int)<(ws.length:Int):=by have:=List.length_pos_iff.2 hne;omega
 have HW:Hid (∀ w1 v,Y5 w1 v ws->∃ wo wc,v=.slice wo ws.length wc∧Hid (Y5 w1 v ws)):=λ w1 v hv=>by
  obtain ⟨wo,wc,e,_⟩:=id hv;exact ⟨wo,wc,e,hv⟩
 clear hlv hm hl h
 go_enter Tryz.func34,Tryz.ntmps34
 go_wp2_with (first | (go_at_call 78;refine CK.mono ?_;rintro e w1 ⟨ws', v,rfl,hws,hwa,hk1⟩;obtain rfl:ws' = ws:=hws.uniq ha;obtain ⟨wo,wc', rfl,hwh⟩:=HW.out _ _ hwa;clear hwa))
 go_ret;exact ⟨_,rfl,hwh.out,hk1⟩
end
section
open Go.RowKit Go.Deep
attribute [local go_sem ↓] Go.wp_at_zero Go.wp_at_succ
section
variable {H : Type} {enc : TypeId × Value -> H} {w : World} {spare : Nat -> Bool} {held : Bool}
end
end
section
open Go.RowKit
attribute [local go_sem ↓] Go.wp_at_zero Go.wp_at_succ
def X7 (L:List Sym):List Ru->List Ru->List Ru->Prop
 | [],R,R' => R' = R
 | x :: r,R,R' => (Ans L R [x] []∧X7 L r (R ++ [x]) R')∨(¬ Ans L R [x] []∧X7 L r R R')
theorem X7.snoc {L:List Sym} {x:Ru}:∀ {l R R1 R2:List Ru},X7 L l R R1->(Ans L R1 [x] []∧R2=R1 ++ [x])∨(¬ Ans L R1 [x] []∧R2=R1)->X7 L (l ++ [x]) R R2
 | [],R,R1,R2,h,k=>by
  have h:R1=R:=h;subst h
  rcases k with ⟨a,b⟩ | ⟨a,b⟩
  ·exact .inl ⟨a,b⟩
  ·exact .inr ⟨a,b⟩
 | y :: r,R,R1,R2,h,k=>by
  rcases h with ⟨a,b⟩ | ⟨a,b⟩
  ·exact .inl ⟨a,b.snoc k⟩
  ·exact .inr ⟨a,b.snoc k⟩
def Zpz (w:World) (q:Nat):Prop:=(∃ c,w.heap[q]? = some (.cells c 139 (0,0)))∨(∃ c,w.heap[q]? = some (.cells c 68 (0,0)))∨∃ c,w.heap[q]? = some (.cells c 31 (0,0))
theorem Zpz.no_int {w:World} {q:Nat} (h:Zpz w q):∀ cur,w.heap[q]? ≠ some (.cells cur 3 (0,0)):=by
 intro cur e
 rcases h with ⟨c,h⟩ | ⟨c,h⟩ | ⟨c,h⟩ <;> (rw [h] at e;cases e)
theorem Zpz.no_sym {w:World} {q:Nat} (h:Zpz w q):∀ cur,w.heap[q]? ≠ some (.cells cur 129 (0,0)):=by
 intro cur e
 rcases h with ⟨c,h⟩ | ⟨c,h⟩ | ⟨c,h⟩ <;> (rw [h] at e;cases e)
theorem Zpz.no_sig {w:World} {k b:Nat} {L:List Sym} {sv:Value} {mr:Option Nat} (h:Zpz w k) (hs:Yd w b L sv mr):¬ Foot b sv mr k:=by
 rintro (e | e | e)
 ·subst e
  have:=hs.blk
  rcases h with ⟨c,h⟩ | ⟨c,h⟩ | ⟨c,h⟩ <;> (rw [h] at this;cases this)
 ·obtain ⟨c', this⟩:=Yj hs.row e
  exact h.no_sym c' this
 ·subst e
  obtain ⟨n,D,hm,_⟩:=hs.map;obtain ⟨es,clock,this,_⟩:=hm
  rcases h with ⟨c,h⟩ | ⟨c,h⟩ | ⟨c,h⟩ <;> (rw [h] at this;cases this)
theorem Sg.keptF {n b:Nat} {w w' : World} {L:List Sym} {S:Nat->Prop} (h:Sg n w b L) (hk:Zc S w w') (hS:∀ k,S k->Zpz w k):Sg n w' b L:=by
 obtain ⟨⟨sv,mr,h1,h2⟩,h3⟩:=h;exact ⟨⟨sv,mr,h1.kept hk (λ k e s=>(hS k s).no_sig h1 e),h2⟩,h3⟩
theorem Kd.keptF {w w' : World} {b bs:Nat} {L:List Sym} {R:List Ru} {lv:Value} {vs:List Value} {S:Nat->Prop} (h:Kd w b bs L R lv vs) (hk:Zc S w w') (hS:∀ k,S k->Zpz w k) (hb:¬ S b) (hr:∀ q,lv.ownBlock=some q->¬ S q):Kd w' b bs L R lv vs:=
 ⟨hk.at h.blk hb,Zcy (h.sig.keptF hk hS) hk.size,hk.row h.row (λ q e s=>hr q e s),h.own.kept hk (λ k s=>(hS k s).no_int),h.le,h.ok⟩
theorem MO.keptF {w w' : World} {m:Nat} {ro:Option Addr} {rc:Nat} {L:List Sym} {R:List Ru} {lv:Value} {vs:List Value} {S:Nat->Prop} (h:MO w m ro rc L R lv vs) (hk:Zc S w w') (hS:∀ k,S k->Zpz w k) (hb:¬ S m) (hr:∀ q,lv.ownBlock=some q->¬ S q):MO w' m ro rc L R lv vs:=by
 obtain ⟨a1,a2,a3⟩:=h.rl;refine ⟨hk.at h.blk hb,⟨hk.row a1 (λ q e s=>?_),λ q e=>Nat.lt_of_lt_of_le (a2 q e) hk.size,a3⟩,hk.row h.row (λ q e s=>hr q e s),h.own.kept hk (λ k s=>(hS k s).no_int),h.le,h.ok⟩;obtain ⟨cu,hc⟩:=Yj a1 e;exact (hS q s).no_sym cu hc
structure Zmd (w0 w:World) (L:List Sym) (R:List Ru) (bs b m:Nat) (ro:Option Addr) (rc:Nat) (lv:Value) (vs:List Value) (mv:Value) (ms:List Value):Prop where
 st:Kd w b bs L R lv vs
 mo:MO w m ro rc L R mv ms
 good:GoodR L R
 b0:w0.heap.size<=b
 m0:w0.heap.size<=m
 l0:∀ q,lv.ownBlock=some q->w0.heap.size<=q
 v0:∀ q,mv.ownBlock=some q->w0.heap.size<=q
 apart:∀ q,lv.ownBlock=some q->mv.ownBlock≠some q
 same:Za w0 w
theorem Zmd.same' {w0 w w' : World} {L:List Sym} {R:List Ru} {bs b m:Nat} {ro:Option Addr} {rc:Nat} {lv:Value} {vs:List Value} {mv:Value} {ms:List Value} (h:Zmd w0 w L R bs b m ro rc lv vs mv ms) (hk:Za w w'):Zmd w0 w' L R bs b m ro rc lv vs mv ms:=
 ⟨h.st.same hk,h.mo.same hk,h.good,h.b0,h.m0,h.l0,h.v0,h.apart,h.same.trans' hk⟩
theorem Zmd.bm {w0 w:World} {L:List Sym} {R:List Ru} {bs b m:Nat} {ro:Option Addr} {rc:Nat} {lv:Value} {vs:List Value} {mv:Value} {ms:List Value} (h:Zmd w0 w L R bs b m ro rc lv vs mv ms):b≠m∧lv.ownBlock≠some m∧mv.ownBlock≠some b:=by
 refine ⟨λ e=>?_,λ e=>?_,λ e=>?_⟩
 ·subst e;have:=h.st.blk;rw [h.mo.blk] at this;cases this
 ·obtain ⟨c,hc⟩:=Yj h.st.row e;rw [h.mo.blk] at hc;cases hc
 ·obtain ⟨c,hc⟩:=Yj h.mo.row e;rw [h.st.blk] at hc;cases hc
theorem Zmd.more {w0 w w1 w2:World} {L:List Sym} {R:List Ru} {bs b m:Nat} {ro:Option Addr} {rc:Nat} {lv:Value} {vs:List Value} {mv:Value} {ms:List Value} (h:Zmd w0 w L R bs b m ro rc lv vs mv ms) {l:List Ru} (ha:Ans L R l []) {lv' : Value} {vs' : List Value} (s1:Kd w1 b bs L (R++l) lv' vs') (k1:Zc (Zrt w b lv) w w1) (o1:∀ k,lv'.ownBlock=some k->lv.ownBlock=some k∨w.heap.size<=k) :
  MO w1 m ro rc L R mv ms∧Za w0 w1∧∀ (mv' : Value) (ms' : List Value),MO w2 m ro rc L (R++l) mv' ms' -> (∀ q,mv'.ownBlock=some q->mv.ownBlock=some q∨w1.heap.size<=q)->Zc (λ q=>q=m∨mv.ownBlock=some q) w1 w2->Zmd w0 w2 L (R++l) bs b m ro rc lv' vs' mv' ms' := by
 obtain ⟨e1,e2,e3⟩:=h.bm
 have F1:∀ k,Zrt w b lv k->Zpz w k:=λ k e=>by
  rcases e with e | e
  ·subst e;exact .inl ⟨_,h.st.blk⟩
  ·exact .inr (.inl (Yj h.st.row e))
 have hmo:MO w1 m ro rc L R mv ms:=h.mo.keptF k1 F1 (λ e=>by
  rcases e with e | e
  ·exact e1 e.symm
  ·exact e2 e) (λ q e s=>by
  rcases s with s | s
  ·subst s;exact e3 e
  ·exact h.apart q s e)
 have hs1:Za w0 w1:=Zc.trans h.same k1 (λ i hi e=>by
  rcases e with e | e
  ·have:=h.b0;omega
  ·have:=h.l0 i e;omega)
 refine ⟨hmo,hs1,λ mv' ms' hm2 ho2 k2=>?_⟩
 have F2:∀ k,(k=m∨mv.ownBlock=some k)->Zpz w1 k:=λ k e=>by
  rcases e with e | e
  ·subst e;exact .inr (.inr ⟨_,hmo.blk⟩)
  ·exact .inr (.inl (Yj hmo.row e))
 have mlt:∀ q,mv.ownBlock=some q->q<w.heap.size:=λ q e=>by
  obtain ⟨c,hc⟩:=Yj h.mo.row e;exact Zi hc
 have llt:∀ q,lv'.ownBlock=some q->q<w1.heap.size:=λ q e=>by
  obtain ⟨c,hc⟩:=Yj s1.row e;exact Zi hc
 have ap1:∀ q,lv'.ownBlock=some q->mv.ownBlock≠some q:=λ q e f=>by
  rcases o1 q e with g | g
  ·exact h.apart q g f
  ·have:=mlt q f;omega
 refine ⟨s1.keptF k2 F2 (λ e=>by
  rcases e with e | e
  ·exact e1 e
  ·exact e3 e) (λ q e s=>by
  rcases s with s | s
  ·subst s
   obtain ⟨c,hc⟩:=Yj s1.row e;rw [hmo.blk] at hc;cases hc
  ·exact ap1 q e s),hm2,h.good.add ha,h.b0,h.m0,λ q e=>?_,λ q e=>?_,λ q e f=>?_,Zc.trans hs1 k2 (λ i hi e=>by
  rcases e with e | e
  ·have:=h.m0;omega
  ·have:=h.v0 i e;omega)⟩
 ·rcases o1 q e with g | g
  ·exact h.l0 q g
  ·have:=h.same.size;omega
 ·rcases ho2 q e with g | g
  ·exact h.v0 q g
  ·have:=hs1.size;omega
 ·rcases ho2 q f with g | g
  ·exact ap1 q e g
  ·have:=llt q e;omega
theorem Zu0 (b:Nat) (w:World):(binOp .eql 25 (.pointer (some ⟨b,0,none⟩)) (.pointer none)).run Tryz.prog w=.ok (.bool false) w:=by kernel_rfl
theorem Zwx (b:Nat) (w:World):(binOp .eql 26 (.pointer (some ⟨b,0,none⟩)) (.pointer none)).run Tryz.prog w=.ok (.bool false) w:=by kernel_rfl
def Zpb (L:List Sym) (l:List Ru) (w:World) (e:Ending) (w' : World):Prop:=
 ∃ bs b m ro rc lv vs mv ms R,e=.returned (.tuple #[.pointer (some ⟨bs,0,none⟩),.pointer (some ⟨b,0,none⟩),.pointer (some ⟨m,0,none⟩)])∧Zmd w w' L R bs b m ro rc lv vs mv ms∧X7 L l [] R
theorem Zbm {w:World} {lb loff:Nat} {l:List Ru} (h:V7 w (some ⟨lb,loff,none⟩) l) {j:Nat} (hj:j<l.length):V7 w (some ⟨lb,loff+j * 2,none⟩) [l[j]]:=by
 obtain ⟨b,off,e,hb,hc⟩:=h.get hj;cases e;refine .inr ⟨lb,loff+j * 2,rfl,hb,λ i hi=>?_⟩;obtain rfl:i=0:=by simp at hi;omega
 simpa using hc
theorem Zto {w0 w2:World} {L:List Sym} {bs b:Nat} {rv:Value} (hs:Kd w2 b bs L [] (.slice none 0 0) []) (hr:Rl w2.heap.size w2 rv L) (hb:w0.heap.size<=b) (hk:Za w0 w2):∃ ro rc,rv=.slice ro L.length rc∧Zmd w0 (w2.alloc (.cells #[rv,.slice none 0 0] 31)) L [] bs b w2.heap.size ro rc (.slice none 0 0) [] (.slice none 0 0) []:=by
 obtain ⟨ro,rc,rfl⟩:=Zf hr.1;have ka:Za w2 (w2.alloc (.cells #[.slice ro L.length rc,.slice none 0 0] 31)):=(Zc.refl _ _).alloc _;refine ⟨ro,rc,rfl,hs.same ka,⟨heap_alloc_new _ _,Ze4 (hr.same ka) ka.size,World.ownsRow_nil _ _ _ _,⟨rfl,λ i hi=>absurd hi (by simp)⟩,by simp,λ x hx=>by simp at hx⟩,GoodR.nil L,hb,hk.size,(λ q e=>by cases e),(λ q e=>by cases e),(λ q e=>by cases e),hk.trans' ka⟩
theorem Zfi {w:World} {ao:Option Addr} {len cap:Nat} {xs:List Sym} (hx:Vi w ao len xs) (hm:len<=maxLen) {lo:Option Addr} {lc:Nat} {l:List Ru} (hl:V7 w lo l) (hll:l.length<=140737488355328) (hlc:l.length<=lc) :
  Calls Tryz.prog 7 #[.slice ao len cap,.slice lo l.length lc] w (Zpb (Kt xs) l w):=by
 have hn1:=Zu0;have hn2:=Zwx;have CM:=Zs1 ao len cap xs w hx hm;have HL:Hid (∀ ww,Za w ww->V7 ww lo l):=λ ww hk=>hl.same hk;generalize Kt xs=L at *;clear hx hl hm
 go_enter Tryz.func7,Tryz.ntmps7
 go_upto_region 4 with (first | (go_at_call 31;refine CM.mono ?_;rintro e w1 ⟨bs,rv,rfl,hsg,hrl,k1⟩))
 have CN:=Zr0 hsg
 go_upto_region 5 with (first | (go_at_call 32;refine CN.mono ?_;rintro e w2 ⟨rfl,hst,k2⟩))
 obtain ⟨ro,rc,rfl,hT⟩:=Zto hst (Ze4 (hrl.same k2) k2.size) k1.size (k1.trans' k2);obtain ⟨b,hb⟩:∃ b,b=w1.heap.size:=⟨_,rfl⟩;obtain ⟨m,hmm⟩:∃ m,m=w2.heap.size:=⟨_,rfl⟩;have T0:Hid (Zmd w (w2.alloc (.cells #[.slice ro L.length rc,.slice none 0 0] 31)) L [] bs b m ro rc (.slice none 0 0) [] (.slice none 0 0) []):=by rw [hb,hmm];exact hT
 have HMM:Hid (w2.heap.size=m):=hmm.symm;rw [<- hb];clear hT hst hrl hsg CN CM hb hmm
 go_wp2_with fail
 rw [HMM.out]
 go_loopw [11] (λ i wr=>∃ (j:Nat) (R:List Ru) (lv:Value) (vs:List Value) (mv:Value) (ms:List Value),j<=l.length∧i=.int .i64 (j:Int)∧Hid (Zmd w wr L R bs b m ro rc lv vs mv ms)∧Hid (X7 L (l.take j) [] R)) (λ i _=>l.length-(intOf i).toNat)
 case atStart=>exact ⟨0,[],_,_,_,_,Nat.zero_le _,rfl,T0,rfl⟩
 case round=>
  clear T0 k1 k2 HMM;obtain ⟨j,R,lv,vs,mv,ms,hj,rfl,hT,hR⟩:=hrel
  by_cases hlt:j<l.length
  ·obtain ⟨lb,loff,rfl,_,_⟩:=(HL.out wr hT.out.same).get hlt
   have hj1:IntKind.i64.wrap ((j:Int)+1)=(j:Int)+1:=Zt6 (by omega) (by omega);have i1:(0:Int)<=(j:Int):=by omega
   have i2:(j:Int)+1<=(lc:Int):=by omega
   have i3:(j:Int)<=(j:Int)+1:=by omega
   have hcj:¬ lc=j:=by omega
   have CA:=Zo7 (l:=[l[j]]) (lc:=lc-j) hT.out.st (Zbm (HL.out wr hT.out.same) hlt) (by simp) (by simp;omega);have CAH:Hid (Calls Tryz.prog 33 #[.pointer (some ⟨b,0,none⟩),.slice (some ⟨lb,loff+j * 2,none⟩) 1 (lc-j)] wr (Zpa L R [l[j]] b bs lv wr)):=CA;have hsn:Hid (l.take (j+1)=l.take j ++ [l[j]]):=by show _=_;rw [List.take_add_one,List.getElem?_eq_getElem hlt];rfl
   by_cases hA:Ans L R [l[j]] []
   ·have hfit:=hA.fit hT.out.st.le
    have hs2:Hid (X7 L (l.take (j+1)) [] (R ++ [l[j]])):=by show X7 _ _ _ _;rw [hsn.out];exact hR.out.snoc (.inl ⟨hA,rfl⟩)
    have CA2:Hid (Calls Tryz.prog 33 #[.pointer (some ⟨b,0,none⟩),.slice (some ⟨lb,loff+j * 2,none⟩) 1 (lc-j)] wr λ e w1=>∃ lv' vs', e=.returned .nilIface∧Hid (Kd w1 b bs L (R ++ [l[j]]) lv' vs' ∧ Zc (Zrt wr b lv) wr w1∧∀ k,lv'.ownBlock=some k->lv.ownBlock=some k∨wr.heap.size<=k)):=CAH.out.mono (λ e w1 ⟨ws,v,e1,ha,hv,_,_,hy⟩=>by
     obtain rfl:=ha.uniq hA;obtain rfl:v=.nilIface:=hv;obtain ⟨lv', vs', a1,a2,a3⟩:=hy rfl
     exact ⟨lv', vs', e1,a1,a2,a3⟩)
    have CB:Hid (∀ w1 lv' vs', Kd w1 b bs L (R ++ [l[j]]) lv' vs' ∧ Zc (Zrt wr b lv) wr w1∧(∀ k,lv'.ownBlock=some k->lv.ownBlock=some k∨wr.heap.size<=k)->Calls Tryz.prog 34 #[.pointer (some ⟨m,0,none⟩),.slice (some ⟨lb,loff+j * 2,none⟩) 1 (lc-j)] w1 λ e w2=>∃ mv' ms', e=.returned (.slice none 0 0)∧Hid (Zmd w w2 L (R ++ [l[j]]) bs b m ro rc lv' vs' mv' ms')):=λ w1 lv' vs' ⟨a1,a2,a3⟩=>by
     obtain ⟨hmo,hs1,hmore⟩:=hT.out.more (w2:=w1) hA a1 a2 a3
     refine (Ztr (l:=[l[j]]) (lc:=lc-j) hmo (Zbm (HL.out w1 hs1) hlt) (by simp) (λ e=>by cases e) hA hfit.2 (by simpa using hfit.1) (λ ww hk=>Zbm (HL.out ww (Zc.trans hs1 hk (λ i hi e=>by
      rcases e with e | e
      ·have:=hT.out.m0;omega
      ·have:=hT.out.v0 i e;omega))) hlt)).mono ?_
     rintro e w2 ⟨mv', ms', rfl,m1,m2,m3⟩;obtain ⟨_,_,hmore2⟩:=hT.out.more (w2:=w2) hA a1 a2 a3;exact ⟨mv', ms', rfl,hmore2 mv' ms' m1 m2 m3⟩
    have CS:=λ ww=>Zbq (w:=ww) (er:=.nilIface) (lv:=.slice none 0 0) (ws:=[]) rfl ⟨none,0,rfl,.inl rfl⟩ (by simp);have CSH:Hid (∀ ww,Calls Tryz.prog 12 #[.nilIface,.slice none 0 0] ww λ e w' => e=.returned (.bool true)∧Za ww w'):=CS;have D1:=CA2.out;clear CA CAH CA2 CS hfit hT hR hsn
    go_upto_region 12 with (first | (go_at_call 33;refine D1.mono ?_;rintro e w4 ⟨lv', vs', rfl,h4⟩))
    have D2:=CB.out w4 lv' vs' h4.out
    go_upto_region 13 with (first | (go_at_call 34;refine D2.mono ?_;rintro e w5 ⟨mv', ms', rfl,h5⟩))
    have D3:=CSH.out w5
    go_wp2_with (first | (go_at_call 12;refine D3.mono ?_;rintro e w6 ⟨rfl,k6⟩))
    exact ⟨⟨j+1,R ++ [l[j]],lv', vs', mv', ms', by omega,by go_num,h5.out.same' k6,hs2⟩,by simp [intOf];omega⟩
   ·have hs2:Hid (X7 L (l.take (j+1)) [] R):=by show X7 _ _ _ _;rw [hsn.out];exact hR.out.snoc (.inr ⟨hA,rfl⟩)
    have CA2:Hid (Calls Tryz.prog 33 #[.pointer (some ⟨b,0,none⟩),.slice (some ⟨lb,loff+j * 2,none⟩) 1 (lc-j)] wr λ e w1=>∃ ws k,e=.returned (.iface 98 (.pointer (some ⟨k,0,none⟩)))∧Hid (Ans L R [l[j]] ws∧ws≠[]∧ws.length<=2∧Yg w1 ws (.iface 98 (.pointer (some ⟨k,0,none⟩))))∧Za wr w1):=CAH.out.mono (λ e w1 ⟨ws,v,e1,ha,hv,h2,hno,_⟩=>by
     have hne:ws≠[]:=λ e=>hA (e ▸ ha)
     rcases ha.flt hv with ⟨e,_⟩ | ⟨_,k,rfl⟩
     ·exact absurd e hne
     ·exact ⟨ws,k,e1,⟨ha,hne,h2,hv⟩,hno hne⟩)
    have CB:Hid (∀ w1 ws,Za wr w1->Ans L R [l[j]] ws->ws≠[]->Calls Tryz.prog 34 #[.pointer (some ⟨m,0,none⟩),.slice (some ⟨lb,loff+j * 2,none⟩) 1 (lc-j)] w1 λ e w2=>∃ v,e=.returned v∧Hid (Y5 w2 v ws)∧Za w1 w2):=λ w1 ws k1 ha hne=>Zsc (l:=[l[j]]) (lc:=lc-j) (hT.out.same' k1).mo (Zbm (HL.out w1 (hT.out.same' k1).same) hlt) (by simp) (λ e=>by cases e) ha hne;have HT2:Hid (∀ ww,Za wr ww->Zmd w ww L R bs b m ro rc lv vs mv ms):=λ ww hk=>hT.out.same' hk;have D1:=CA2.out;clear CA CAH CA2 hT hR hsn
    go_upto_region 12 with (first | (go_at_call 33;refine D1.mono ?_;rintro e w4 ⟨ws,k,rfl,h4,k4⟩))
    obtain ⟨q1,q2,q3,q4⟩:=h4.out;have D2:=CB.out w4 ws k4 q1 q2
    go_upto_region 13 with (first | (go_at_call 34;refine D2.mono ?_;rintro e w5 ⟨v5,rfl,h5,k5⟩))
    have D3:=Zbq (Yg.same k5 q4) h5.out q3;clear q1 q2 q3 q4 D1 D2
    go_wp2_with (first | (go_at_call 12;refine D3.mono ?_;rintro e w6 ⟨rfl,k6⟩))
    exact ⟨⟨j+1,R,lv,vs,mv,ms,by omega,by go_num,HT2.out _ ((k4.trans' k5).trans' k6),hs2⟩,by simp [intOf];omega⟩
  ·obtain rfl:j=l.length:=by omega
   have hR2:Hid (X7 L l [] R):=by have:=hR.out;rw [List.take_length] at this;exact this
   clear hR
   go_wp2_with fail
   go_ret3
   exact ⟨bs,b,m,ro,rc,lv,vs,mv,ms,R,rfl,hT.out,hR2.out⟩
theorem Zm9 (p:List Int):Zcc p p=true:=by simp [Zcc]
theorem Zqg {w:World} {k r nd:Int} {p:List Int} {po po' : Option Addr} {pc pc' : Nat} (ha:Zh w po p) (hb:Zh w po' p) (hl:p.length<=maxLen) :
  Calls Tryz.prog 30 #[.agg #[.int .i64 k,.int .i64 r,.slice po p.length pc,.int .i64 nd],.agg #[.int .i64 k,.int .i64 r,.slice po' p.length pc', .int .i64 nd]] w λ e w' => e=.returned (.bool true)∧Za w w' := by
 obtain ⟨W1,hW1⟩:∃ W1,W1=(w.alloc (.cells #[.int .i64 k,.int .i64 r,.slice po p.length pc,.int .i64 nd] 85)).alloc (.cells #[.int .i64 k,.int .i64 r,.slice po' p.length pc', .int .i64 nd] 85):=⟨_,rfl⟩;have KW:Za w W1:=by rw [hW1];exact ((Zc.refl _ w).alloc _).alloc _
 have BX:Hid (∀ ww,Za W1 ww->(ww.cell? ⟨w.heap.size,0,none⟩=some (.int .i64 k)∧ww.cell? ⟨w.heap.size,1,none⟩=some (.int .i64 r)∧ww.cell? ⟨w.heap.size,2,none⟩=some (.slice po p.length pc)∧ww.cell? ⟨w.heap.size,3,none⟩=some (.int .i64 nd))∧ww.cell? ⟨w.heap.size+1,0,none⟩=some (.int .i64 k)∧ww.cell? ⟨w.heap.size+1,1,none⟩=some (.int .i64 r)∧ww.cell? ⟨w.heap.size+1,2,none⟩=some (.slice po' p.length pc')∧ww.cell? ⟨w.heap.size+1,3,none⟩=some (.int .i64 nd)):=λ ww hk=>by
  have h1:=hk.at0 (show W1.heap[w.heap.size]? = _ by rw [hW1];exact heap_alloc2_old _ _ _);have h2:=hk.at0 (show W1.heap[w.heap.size+1]? = _ by rw [hW1];exact Zp _ _ _);exact ⟨⟨Zb h1 0,Zb h1 1,Zb h1 2,Zb h1 3⟩,Zb h2 0,Zb h2 1,Zb h2 2,Zb h2 3⟩
 have CP:=Zc9 (acap:=pc) (bcap:=pc') (ha.same KW) (hb.same KW) hl;rw [Zm9] at CP;obtain ⟨⟨x0,x1,x2,x3⟩,y0,y1,y2,y3⟩:=BX.out W1 (Zc.refl _ _);have ek:(k == k)=true:=by simp
 have er:(r == r)=true:=by simp
 have en:(nd == nd)=true:=by simp
 clear ha hb
 go_enter Tryz.func30,Tryz.ntmps30
 go_upto_region 1 with fail
 rw [<- hW1];clear hW1
 go_upto_region 2 with (first | (go_at_call 27;refine CP.mono ?_;rintro e w2 ⟨rfl,k2⟩))
 obtain ⟨⟨u0,u1,u2,u3⟩,v0,v1,v2,v3⟩:=BX.out w2 k2;clear x0 x1 x2 x3 y0 y1 y2 y3 CP
 go_wp2_with fail
 go_ret;exact ⟨by simp,KW.trans' k2⟩
theorem nm8_z:X6 ⟨#[122]⟩=true:=by decide +kernel
theorem nm8_s:X6 ⟨#[115]⟩=true:=by decide +kernel
theorem Zvf:X6 ⟨#[97,100,100]⟩=true:=by decide +kernel
theorem nm8_h:X6 ⟨#[104]⟩=true:=by decide +kernel
def Zua (n:Nat):Tr (n+1+1):=(2,0,[0],[(0,((1,0,[],[]):Int × Int × List Int × List (Int × Tr n))),(1,((1,1,[],[]):Int × Int × List Int × List (Int × Tr n)))])
theorem Vi.same8 {w w' : World} {ao:Option Addr} {len:Nat} {xs:List Sym} (h:Vi w ao len xs) (hk:Za w w'):Vi w' ao len xs:=by
 obtain ⟨h1,h2,h3⟩:=h;refine ⟨h1,h2.imp id ?_,h3⟩;rintro ⟨b,off,e,hb,hc⟩;refine ⟨b,off,e,Nat.lt_of_lt_of_le hb hk.size,λ i hi=>?_⟩;obtain ⟨c1,c2,c3⟩:=hc i hi;exact ⟨(hk.cell (p:=⟨b,_,none⟩) hb (λ f=>f)).trans c1,(hk.cell (p:=⟨b,_,none⟩) hb (λ f=>f)).trans c2,(hk.cell (p:=⟨b,_,none⟩) hb (λ f=>f)).trans c3⟩
end
end Go.Proofs.YtjahpnbijefncaaGreat
