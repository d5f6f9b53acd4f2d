import Derived.Test.YtblgblgchkonhaaGreatGB10
import Derived.Test.YtblgblgchkonhaaGreatGB12
import Derived.Deep.AppendLies
import Derived.Test.YtblgblgchkonhaaGreatGB11
import Derived.Test.YtblgblgchkonhaaGreatGB08
import Derived.Laws.StructEq
import Derived.Deep.RegionHeld3
import Derived.Deep.RegionLaw
namespace Go.Proofs.YtblgblgchkonhaaGreat
set_option maxRecDepth 100000
set_option linter.unusedVariables false
open Go.RowKit
theorem info_partX:(Tryz.prog.info? 73).map (fun i=>(i.zero,i.size,i.bytes))=some (some (.agg #[.int .i64 0,.slice none 0 0]),2,32):=by kernel_rfl
theorem info_partsX:(Tryz.prog.info? 74).map (fun i=>(i.zero,i.size,i.bytes))=some (some (.slice none 0 0),1,24):=by kernel_rfl
def LtP (lo:Nat) (w:World) (g c:Nat) (xs:List Int):Prop:=Row lo w (.slice (some ⟨g,0,none⟩) (xs.length+3) c) (lentG xs)∧xs.length+3≤c
theorem LtP.kept {lo:Nat} {w w' : World} {g c:Nat} {xs:List Int} {S:Nat→Prop} (h:LtP lo w g c xs) (hk:Kept S w w') (hn:¬ S g):LtP lo w' g c xs:=
 ⟨hk.row h.1 (fun k e s=>hn (by have e2:g=k:=Option.some.inj e;rw [e2];exact s)),h.2⟩
theorem LtP.at {lo:Nat} {w:World} {g c:Nat} {xs:List Int} (h:LtP lo w g c xs):lo≤g∧g<w.heap.size∧∃ cur,w.heap[g]? = some (.cells cur 3 (0,0)):=by
 rcases h.1.2 with ⟨e,_⟩ | ⟨g', cap', cur', e,hb,hg', _⟩
 ·simp at e
 ·simp only [Value.slice.injEq,Option.some.injEq,Addr.mk.injEq,and_true] at e
  obtain ⟨rfl,_⟩:=e
  exact ⟨hb,lt_of_at hg', cur', hg'⟩
theorem LtP.ints {lo:Nat} {w:World} {g c:Nat} {xs:List Int} (h:LtP lo w g c xs):IntsAt w (some ⟨g,0,none⟩) xs:=by
 obtain ⟨ao,ac,e,hi,_,_⟩:=h.1.ints
 simp only [Value.slice.injEq] at e
 rw [← e.1] at hi
 rcases hi with q | ⟨b,off,e1,hb,hc⟩
 ·simp at q
 ·refine .inr ⟨b,off,e1,hb,fun j hj=>?_⟩
  have:=hc j (by simp;omega)
  simpa [List.getElem_append_left hj] using this
def PCl (lo:Nat) (w:World) (vs:List Value) (Q:List (Int × List Int)) (k:Nat) (f:Nat→Nat):Prop:=
 vs.length=k * 2∧(∀ i (h:i<Q.length),i<k→∃ c,vs[i * 2]? = some (.int .i64 Q[i].1)∧vs[i * 2+1]? = some (.slice (some ⟨f i,0,none⟩) Q[i].2.length c)∧LtP lo w (f i) c Q[i].2)∧∀ i j,i<j→j<k→f i<f j
theorem PCl.nil (lo:Nat) (w:World) (Q:List (Int × List Int)) (f:Nat→Nat):PCl lo w [] Q 0 f:=⟨rfl,fun i _ h=>absurd h (Nat.not_lt_zero _),fun i j _ h=>absurd h (Nat.not_lt_zero _)⟩
theorem PCl.kept {lo:Nat} {w w' : World} {vs:List Value} {Q:List (Int × List Int)} {k:Nat} {f:Nat→Nat} {S:Nat→Prop} (h:PCl lo w vs Q k f) (hk:Kept S w w') (hn:∀ i,i<Q.length→i<k→¬ S (f i)):PCl lo w' vs Q k f:=by
 refine ⟨h.1,fun i hi hik=>?_,h.2.2⟩
 obtain ⟨c,h0,h1,h2⟩:=h.2.1 i hi hik
 exact ⟨c,h0,h1,h2.kept hk (hn i hi hik)⟩
theorem PCl.snoc {lo:Nat} {w:World} {vs:List Value} {Q:List (Int × List Int)} {k:Nat} {f:Nat→Nat} (h:PCl lo w vs Q k f) (hk:k<Q.length) {g c:Nat} (hl:LtP lo w g c Q[k].2) (hg:∀ i,i<k→f i<g) :
  PCl lo w (vs ++ [.int .i64 Q[k].1,.slice (some ⟨g,0,none⟩) Q[k].2.length c]) Q (k+1) (fun i=>if i<k then f i else g):=by
 have hv:=h.1
 refine ⟨by simp [hv];omega,fun i hi hik=>?_,fun i j hij hj=>?_⟩
 ·by_cases e:i<k
  ·obtain ⟨c', h0,h1,h2⟩:=h.2.1 i hi e
   simp only [if_pos e]
   exact ⟨c', by rw [List.getElem?_append_left (by omega)];exact h0,by rw [List.getElem?_append_left (by omega)];exact h1,h2⟩
  ·obtain rfl:i=k:=by omega
   simp only [if_neg e]
   exact ⟨c,by rw [List.getElem?_append_right (by omega),hv];simp,by rw [List.getElem?_append_right (by omega),hv,Nat.add_sub_cancel_left];rfl,hl⟩
 ·by_cases e:j<k
  ·simp only [if_pos e,if_pos (show i<k by omega)];exact h.2.2 i j hij e
  ·simp only [if_neg e,if_pos (show i<k by omega)];exact hg i (by omega)
theorem row_kindX {w:World} {base:Nat} {e:TypeId} {size:Nat} {v:Value} {n:Nat} {xs:List Value} (h:w.ownsRow base e size v n xs) {k:Nat} (hk:v.ownBlock=some k):∃ cur,w.heap[k]? = some (.cells cur e (0,0)):=by
 rcases h.2 with ⟨rfl,_⟩ | ⟨g,cap,cur,rfl,hb,hg,_⟩
 ·cases hk
 ·obtain rfl:g=k:=Option.some.inj hk
  exact ⟨cur,hg⟩
theorem PCl.more {lo:Nat} {w1 w9:World} {u:Value} {vs:List Value} {Q:List (Int × List Int)} {k:Nat} {f:Nat→Nat} (h:PCl lo w1 vs Q k f) (hr:w1.ownsRow lo 73 2 u k vs) (hk:Kept (fun q=>u.ownBlock=some q) w1 w9) (hkl:k<Q.length) {g c:Nat} (hl:LtP lo w1 g c Q[k].2) (hg:∀ i,i<k→f i<g) :
  PCl lo w9 (vs ++ [.int .i64 Q[k].1,.slice (some ⟨g,0,none⟩) Q[k].2.length c]) Q (k+1) (fun i=>if i<k then f i else g):=by
 have no:∀ q,(∃ cur,w1.heap[q]? = some (.cells cur 3 (0,0)))→¬ u.ownBlock=some q:=fun q ⟨cur,hc⟩ e=>by
  obtain ⟨c2,h2⟩:=row_kindX hr e
  rw [hc] at h2;cases h2
 refine (h.kept hk (fun i hi hik=>?_)).snoc hkl (hl.kept hk (no _ hl.at.2.2)) hg
 obtain ⟨c', _,_,q⟩:=h.2.1 i hi hik
 exact no _ q.at.2.2
theorem PCl.lt {lo:Nat} {w:World} {vs:List Value} {Q:List (Int × List Int)} {k:Nat} {f:Nat→Nat} (h:PCl lo w vs Q k f) (hk:k≤Q.length):∀ i,i<k→f i<w.heap.size:=fun i hi=>by
 obtain ⟨c', _,_,q⟩:=h.2.1 i (by omega) hi
 exact q.at.2.1
def PRw (lo hi:Nat) (w:World) (pb cap:Nat) (Q:List (Int × List Int)) (f:Nat→Nat):Prop:=
 pb<hi∧(∀ i,i<Q.length→f i<hi)∧∃ vs,w.ownsRow lo 73 2 (.slice (some ⟨pb,0,none⟩) (Q.length+1) cap) (Q.length+1) (vs ++ [.int .i64 (-77),.slice none 0 0])∧PCl lo w vs Q Q.length f
section
variable {lo hi : Nat} {w w' : World} {pb cap : Nat} {Q : List (Int × List Int)} {f : Nat → Nat}
theorem PRw.box (h:PRw lo hi w pb cap Q f):lo≤pb∧pb<w.heap.size∧Q.length+1≤cap∧∃ cur,w.heap[pb]? = some (.cells cur 73 (0,0)):=by
 obtain ⟨_,_,vs,h1,_⟩:=h
 rcases h1.2 with ⟨e,_⟩ | ⟨g', cap', cur', e,hb,hg', hc,_⟩
 ·simp at e
 ·simp only [Value.slice.injEq,Option.some.injEq,Addr.mk.injEq,and_true,true_and] at e
  obtain ⟨rfl,rfl⟩:=e
  exact ⟨hb,lt_of_at hg', hc,cur', hg'⟩
theorem PRw.kept {S:Nat→Prop} (h:PRw lo hi w pb cap Q f) (hk:Kept S w w') (hS:∀ k,lo≤k→k<hi→¬ S k):PRw lo hi w' pb cap Q f:=by
 have hb:=h.box
 obtain ⟨h0,h00,vs,h1,h2⟩:=h
 refine ⟨h0,h00,vs,hk.row h1 (fun k e s=>?_),h2.kept hk (fun i hi _ s=>?_)⟩
 ·have e2:pb=k:=Option.some.inj e
  subst e2
  exact hS _ hb.1 h0 s
 ·obtain ⟨c,_,_,q⟩:=h2.2.1 i hi hi
  exact hS _ q.at.1 (h00 i hi) s
theorem PRw.keptT {S:Nat→Prop} (h:PRw lo hi w pb cap Q f) (hk:Kept S w w') (hS:∀ k,S k→∃ cur,w.heap[k]? = some (.cells cur 74 (0,0))):PRw lo hi w' pb cap Q f:=by
 obtain ⟨_,_,_,cb,hb⟩:=h.box
 obtain ⟨h0,h00,vs,h1,h2⟩:=h
 refine ⟨h0,h00,vs,hk.row h1 (fun k e s=>?_),h2.kept hk (fun i hi _ s=>?_)⟩
 ·have e2:pb=k:=Option.some.inj e
  subst e2
  obtain ⟨c2,q⟩:=hS _ s
  rw [hb] at q;cases q
 ·obtain ⟨c,_,_,q⟩:=h2.2.1 i hi hi
  obtain ⟨_,_,c3,q3⟩:=q.at
  obtain ⟨c2,q2⟩:=hS _ s
  rw [q3] at q2;cases q2
theorem PRw.mark (h:PRw lo hi w pb cap Q f):w.cell? ⟨pb,Q.length * 2,none⟩=some (.int .i64 (-77)):=by
 obtain ⟨_,_,vs,h1,h2⟩:=h
 rw [h1.cellAt (Q.length * 2) (by omega),List.getElem?_append_right (by rw [h2.1];exact Nat.le_refl _),h2.1]
 simp
theorem PRw.part (h:PRw lo hi w pb cap Q f) {k:Nat} (hk:k<Q.length):∃ c,w.cell? ⟨pb,k * 2,none⟩=some (.int .i64 Q[k].1)∧w.cell? ⟨pb,k * 2+1,none⟩=some (.slice (some ⟨f k,0,none⟩) Q[k].2.length c)∧LtP lo w (f k) c Q[k].2:=by
 obtain ⟨_,_,vs,h1,h2⟩:=h
 obtain ⟨c,q0,q1,q2⟩:=h2.2.1 k hk hk
 have hv:=h2.1
 refine ⟨c,?_,?_,q2⟩
 ·rw [h1.cellAt (k * 2) (by omega),List.getElem?_append_left (by omega)];exact q0
 ·rw [h1.cellAt (k * 2+1) (by omega),List.getElem?_append_left (by omega)];exact q1
theorem PRw.grow (h:PRw lo hi w pb cap Q f) {i j:Nat} (hij:i<j) (hj:j<Q.length):f i<f j:=by
 obtain ⟨_,_,vs,h1,h2⟩:=h
 exact h2.2.2 i j hij hj
theorem PRw.blk (h:PRw lo hi w pb cap Q f) {k:Nat} (hk:k<Q.length):lo≤f k∧f k<hi∧∃ cur,w.heap[f k]? = some (.cells cur 3 (0,0)):=by
 obtain ⟨c,_,_,q⟩:=h.part hk
 exact ⟨q.at.1,h.2.1 k hk,q.at.2.2⟩
theorem PRw.parts (h:PRw lo hi w pb cap Q f) (hm:∀ x∈Q,x.2.length≤maxLen):PaAt w (some ⟨pb,0,none⟩) Q:=by
 refine .inr ⟨pb,0,rfl,h.box.2.1,fun k hk=>?_⟩
 obtain ⟨c,q0,q1,q2⟩:=h.part hk
 exact ⟨_,c,by simpa using q0,by simpa using q1,q2.ints,hm _ (List.getElem_mem hk)⟩
end
structure RRw (lo hi:Nat) (w:World) (v:Value) (R:List (List (Int × List Int))) (m:Nat) (b:Nat→Nat):Prop where
 row:∃ vs,w.ownsRow lo 74 1 v m vs∧∀ i (h:i<R.length),i<m→∃ pb cap f,vs[i]? = some (.slice (some ⟨pb,0,none⟩) R[i].length cap)∧PRw (b i) (b (i+1)) w pb cap R[i] f
 up:∀ i,b i≤b (i+1)
 low:lo≤b 0
 high:∀ i,b i≤hi
 own:∀ k,v.ownBlock=some k→k<hi
section
variable {lo hi : Nat} {w w' : World} {v : Value} {R : List (List (Int × List Int))} {m : Nat} {b : Nat → Nat}
theorem RRw.le (h:RRw lo hi w v R m b):∀ i,lo≤b i
 | 0=>h.low
 | i+1=>Nat.le_trans (h.le i) (h.up i)
theorem RRw.kept {S:Nat→Prop} (h:RRw lo hi w v R m b) (hk:Kept S w w') (hS:∀ k,lo≤k→k<hi→¬ S k):RRw lo hi w' v R m b:=by
 obtain ⟨vs,h1,h2⟩:=h.row
 refine ⟨⟨vs,hk.row h1 (fun k e s=>hS k (h1.lt k e).1 (h.own k e) s),fun i hi him=>?_⟩,h.up,h.low,h.high,h.own⟩
 obtain ⟨pb,cap,f,q0,q1⟩:=h2 i hi him
 exact ⟨pb,cap,f,q0,q1.kept hk (fun k a c=>hS k (Nat.le_trans (h.le i) a) (Nat.lt_of_lt_of_le c (h.high _)))⟩
theorem RRw.wide {hi' : Nat} (h:RRw lo hi w v R m b) (hh:hi≤hi'):RRw lo hi' w v R m b:=⟨h.row,h.up,h.low,fun i=>Nat.le_trans (h.high i) hh,fun k e=>Nat.lt_of_lt_of_le (h.own k e) hh⟩
theorem RRw.snoc {vs:List Value} (h1:w.ownsRow lo 74 1 v (m+1) vs) {vs0:List Value} (h0:∀ i (h:i<R.length),i<m→∃ pb cap f,vs0[i]? = some (.slice (some ⟨pb,0,none⟩) R[i].length cap)∧PRw (b i) (b (i+1)) w pb cap R[i] f) (hv:vs0.length=m) (hm:m<R.length) {pb cap:Nat} {f:Nat→Nat} (ev:vs=vs0 ++ [.slice (some ⟨pb,0,none⟩) R[m].length cap]) {z:Nat} (hp:PRw z w.heap.size w pb cap R[m] f) (hz:∀ i,b i≤z) (hzw:z≤w.heap.size) (up:∀ i,b i≤b (i+1)) (l0:lo≤b 0):RRw lo w.heap.size w v R (m+1) (fun i=>if i<m then b i else if i=m then z else w.heap.size):=by
 refine ⟨⟨vs,h1,fun i hi him=>?_⟩,fun i=>?_,?_,fun i=>?_,fun k e=>(h1.lt k e).2⟩
 ·subst ev
  by_cases e:i<m
  ·obtain ⟨pb,cap,f,q0,q1⟩:=h0 i hi e
   refine ⟨pb,cap,f,by rw [List.getElem?_append_left (by omega)];exact q0,?_⟩
   simp only [if_pos e]
   by_cases e2:i+1<m
   ·simp only [if_pos e2];exact q1
   ·obtain e3:i+1=m:=by omega
    simp only [e3,Nat.lt_irrefl,if_false,if_true]
    have hb:=hz (i+1)
    exact ⟨Nat.lt_of_lt_of_le q1.1 hb,fun j hj=>Nat.lt_of_lt_of_le (q1.2.1 j hj) hb,q1.2.2⟩
  ·obtain rfl:i=m:=by omega
   refine ⟨pb,cap,f,by rw [List.getElem?_append_right (by omega),hv];simp,?_⟩
   simp only [Nat.lt_irrefl,if_false,if_true,show ¬ i+1<i by omega,show ¬ i+1=i by omega]
   exact hp
 ·by_cases e:i+1<m
  ·simp only [if_pos e,if_pos (show i<m by omega)];exact up i
  ·by_cases e2:i+1=m
   ·simp only [if_pos (show i<m by omega),e2,Nat.lt_irrefl,if_false,if_true];exact hz i
   ·by_cases e3:i=m
    ·subst e3
     simp only [Nat.lt_irrefl,if_false,if_true,show ¬ i+1<i by omega,show ¬ i+1=i by omega];exact hzw
    ·simp only [show ¬ i<m by omega,show ¬ i+1<m by omega,e3,e2,if_false];exact Nat.le_refl _
 ·by_cases e:0<m
  ·simp only [if_pos e];exact l0
  ·obtain rfl:m=0:=by omega
   simp only [Nat.lt_irrefl,if_false,if_true]
   exact Nat.le_trans l0 (hz 0)
 ·by_cases e:i<m
  ·simp only [if_pos e];exact Nat.le_trans (hz i) hzw
  ·by_cases e2:i=m
   ·simp only [if_neg e,if_pos e2];exact hzw
   ·simp only [if_neg e,if_neg e2];exact Nat.le_refl _
theorem RRw.shape (h:RRw lo hi w v R m b):∃ ao cap,v=.slice ao m cap:=by
 obtain ⟨vs,h1,_⟩:=h.row
 exact row_shape h1
theorem RRw.at {ro:Option Addr} {rc:Nat} (h:RRw lo hi w (.slice ro R.length rc) R R.length b) {i:Nat} (hi:i<R.length):∃ rb,ro=some ⟨rb,0,none⟩∧rb<w.heap.size∧∃ pb cap f,w.cell? ⟨rb,i,none⟩=some (.slice (some ⟨pb,0,none⟩) R[i].length cap)∧PRw (b i) (b (i+1)) w pb cap R[i] f:=by
 obtain ⟨vs,h1,h2⟩:=h.row
 obtain ⟨pb,cap,f,q0,q1⟩:=h2 i hi hi
 have h1' := h1
 rcases h1.2 with ⟨e,e0⟩ | ⟨g', cap', cur', e,hb,hg', hc,_⟩
 ·omega
 ·simp only [Value.slice.injEq,true_and] at e
  obtain ⟨rfl,rfl⟩:=e
  refine ⟨g', rfl,lt_of_at hg', pb,cap,f,?_,q1⟩
  rw [h1'.cellAt i (by omega)];exact q0
end
def PaS (w:World) (go:Option Addr) (Q:List (Int × List Int)):Prop:=
 Q=[]∨∃ b off,go=some ⟨b,off,none⟩∧b<w.heap.size∧∀ j (hj:j<Q.length),∃ ao ac,w.cell? ⟨b,off+j * 2,none⟩=some (.int .i64 Q[j].1)∧w.cell? ⟨b,off+j * 2+1,none⟩=some (.slice ao Q[j].2.length ac)∧Arg w ao Q[j].2 ac
def RtS (w:World) (ro:Option Addr) (R:List (List (Int × List Int))):Prop:=
 R=[]∨∃ b off,ro=some ⟨b,off,none⟩∧b<w.heap.size∧∀ i (h:i<R.length),∃ go gc,w.cell? ⟨b,off+i,none⟩=some (.slice go R[i].length gc)∧PaS w go R[i]∧R[i].length * 32≤140737488351232
theorem PaS.same {w w' : World} {go:Option Addr} {Q:List (Int × List Int)} (h:PaS w go Q) (hk:Same0 w w'):PaS w' go Q:=by
 refine h.imp id ?_
 rintro ⟨b,off,e,hb,hc⟩
 refine ⟨b,off,e,Nat.lt_of_lt_of_le hb hk.size,fun j hj=>?_⟩
 obtain ⟨ao,ac,d0,d1,d2⟩:=hc j hj
 exact ⟨ao,ac,(hk.cell (p:=⟨b,off+j * 2,none⟩) hb (fun f=>f)).trans d0,(hk.cell (p:=⟨b,off+j * 2+1,none⟩) hb (fun f=>f)).trans d1,⟨d2.at'.same hk,d2.cap', d2.nil,d2.size⟩⟩
theorem RtS.same {w w' : World} {ro:Option Addr} {R:List (List (Int × List Int))} (h:RtS w ro R) (hk:Same0 w w'):RtS w' ro R:=by
 refine h.imp id ?_
 rintro ⟨b,off,e,hb,hc⟩
 refine ⟨b,off,e,Nat.lt_of_lt_of_le hb hk.size,fun i hi=>?_⟩
 obtain ⟨go,gc,c0,c1,c2⟩:=hc i hi
 exact ⟨go,gc,(hk.cell (p:=⟨b,off+i,none⟩) hb (fun f=>f)).trans c0,c1.same hk,c2⟩
theorem PaS.weak {w:World} {go:Option Addr} {Q:List (Int × List Int)} (h:PaS w go Q):PaAt w go Q:=by
 refine h.imp id ?_
 rintro ⟨b,off,e,hb,hc⟩
 refine ⟨b,off,e,hb,fun j hj=>?_⟩
 obtain ⟨ao,ac,d0,d1,d2⟩:=hc j hj
 exact ⟨ao,ac,d0,d1,d2.at', by have:=d2.size;unfold maxLen;omega⟩
theorem RtS.weak {w:World} {ro:Option Addr} {R:List (List (Int × List Int))} (h:RtS w ro R):RtAt w ro R:=by
 refine h.imp id ?_
 rintro ⟨b,off,e,hb,hc⟩
 refine ⟨b,off,e,hb,fun i hi=>?_⟩
 obtain ⟨go,gc,c0,c1,c2⟩:=hc i hi
 exact ⟨go,gc,c0,c1.weak,by omega⟩
theorem PaS.lens {w:World} {go:Option Addr} {Q:List (Int × List Int)} (h:PaS w go Q):∀ x∈Q,x.2.length≤maxLen:=fun x hx=>by
 obtain ⟨i,hi,rfl⟩:=List.mem_iff_getElem.1 hx
 obtain ⟨b,off,_,_,hc⟩:=h.resolve_left (fun e=>by rw [e] at hi;simp at hi)
 obtain ⟨ao,ac,_,_,d2⟩:=hc i hi
 have:=d2.size;unfold maxLen;omega
theorem RtS.get {w:World} {ro:Option Addr} {R:List (List (Int × List Int))} (h:RtS w ro R) {i:Nat} (hi:i<R.length):∃ b off,ro=some ⟨b,off,none⟩∧b<w.heap.size∧∃ go gc,w.cell? ⟨b,off+i,none⟩=some (.slice go R[i].length gc)∧PaS w go R[i]∧R[i].length * 32≤140737488351232:=by
 obtain ⟨b,off,e,hb,hc⟩:=h.resolve_left (fun e=>by rw [e] at hi;simp at hi)
 exact ⟨b,off,e,hb,hc i hi⟩
theorem PaS.get {w:World} {go:Option Addr} {Q:List (Int × List Int)} (h:PaS w go Q) {j:Nat} (hj:j<Q.length):∃ b off,go=some ⟨b,off,none⟩∧b<w.heap.size∧∃ ao ac,w.cell? ⟨b,off+j * 2,none⟩=some (.int .i64 Q[j].1)∧w.cell? ⟨b,off+j * 2+1,none⟩=some (.slice ao Q[j].2.length ac)∧Arg w ao Q[j].2 ac:=by
 obtain ⟨b,off,e,hb,hc⟩:=h.resolve_left (fun e=>by rw [e] at hj;simp at hj)
 exact ⟨b,off,e,hb,hc j hj⟩
theorem RRw.rt {lo hi:Nat} {w w0:World} {ro qo:Option Addr} {rc:Nat} {R:List (List (Int × List Int))} {b:Nat→Nat} (h:RRw lo hi w (.slice ro R.length rc) R R.length b) (hs:RtS w0 qo R):RtAt w ro R:=by
 by_cases e:R=[]
 ·exact .inl e
 ·have h0:0<R.length:=by
   cases R with
   | nil=>exact absurd rfl e
   | cons _ _=>simp
  obtain ⟨rb,rfl,hrb,_⟩:=h.at h0
  refine .inr ⟨rb,0,rfl,hrb,fun i hi=>?_⟩
  obtain ⟨rb', e', _,pb,cap,f,q0,q1⟩:=h.at hi
  simp only [Option.some.injEq,Addr.mk.injEq,and_true] at e'
  subst e'
  obtain ⟨_,_,_,_,go,gc,_,d1,d2⟩:=hs.get hi
  exact ⟨_,cap,by simpa using q0,q1.parts d1.lens,by omega⟩
open Go.Deep
section
variable {H : Type} {enc : TypeId × Value → H} {w : World} {spare : Nat → Bool} {held : Bool}
theorem open_partsS {fuel:Nat} {ao:Option Addr} {len cap:Nat} {x:DataW H × List MemPlace} (h:DataW.trod enc Tryz.prog w 0 spare held fuel 74 [.slice ao len cap]=some x) (hw:∀ n∈x.1.weights Tryz.prog 74,n≤reachBytes) :
  ∃ l:List (Int × List Int),l.length=len∧PaS w ao l∧len * 32≤140737488351232:=by
 rcases open_elems11 Tryz.underlying74 cells_partT (by omega) h hw with ⟨rfl,rfl,rfl⟩ | ⟨a,rfl,hl1,hl2,hsz,hall⟩
 ·exact ⟨[],rfl,.inl rfl,by omega⟩
 ·rw [bytes_partT] at hsz
  have each:∀ i,i<len→∃ y:Int × List Int,∃ xo xc,w.cell? ⟨a.block,a.off+i * 2,none⟩=some (.int .i64 y.1)∧w.cell? ⟨a.block,a.off+i * 2+1,none⟩=some (.slice xo y.2.length xc)∧Arg w xo y.2 xc:=by
   intro i hi
   obtain ⟨_,_,cs,n,y,hl,hcell,hy,hyw⟩:=hall i hi
   obtain ⟨y0,y1,n', hyd,hl', g0,g1⟩:=trod_struct2 Tryz.underlying73 hy
   match cs,hl with
   | [c0,c1],_=>
    simp only [cells_int,cells_intsT,List.drop_zero,List.take_succ_cons,List.take_zero,List.drop_succ_cons] at g0 g1
    obtain ⟨z0,e0,_,w0⟩:=DataW.trod_int Tryz.underlying3 g0
    have hyw1:∀ n∈y1.1.weights Tryz.prog 33,n≤reachBytes:=fun n hn=>hyw n (by
     rw [hyd]
     simp only [DataW.weights,Tryz.underlying73]
     simp [DataW.weightsEach,hn])
    obtain ⟨xo,xl,xc,e1⟩:=slice_one Tryz.underlying33 g1
    subst e1
    obtain ⟨xs,hxl,hxa,hxi⟩:=open_ints64 Tryz.underlying33 g1 hyw1
    subst hxl
    simp only [List.cons.injEq,and_true] at e0
    subst e0
    exact ⟨(z0,xs),xo,xc,by simpa using hcell 0 (by omega),by simpa using hcell 1 (by omega),hxa⟩
  obtain ⟨f,hf⟩:=Classical.axiomOfChoice (fun i:Fin len=>each i i.2)
  refine ⟨List.ofFn f,by simp,?_,by unfold reachBytes at hsz;omega⟩
  by_cases h0:len=0
  ·subst h0;exact .inl (by simp)
  ·obtain ⟨ea,hlt,_⟩:=hall 0 (by omega)
   refine .inr ⟨a.block,a.off,by rw [← ea],hlt,fun i hi=>?_⟩
   have hi' : i<len:=by simpa using hi
   simpa using hf ⟨i,hi'⟩
theorem bytes_partsT:Tryz.prog.bytesOf 74=24:=by kernel_rfl
theorem open_rightsS {fuel:Nat} {ao:Option Addr} {len cap:Nat} {x:DataW H × List MemPlace} (h:DataW.trod enc Tryz.prog w 0 spare held fuel 53 [.slice ao len cap]=some x) (hw:∀ n∈x.1.weights Tryz.prog 53,n≤reachBytes) :
  ∃ l:List (List (Int × List Int)),l.length=len∧RtS w ao l∧len * 24≤140737488351232:=by
 rcases open_elems11 Tryz.underlying53 cells_partsT (by omega) h hw with ⟨rfl,rfl,rfl⟩ | ⟨a,rfl,hl1,hl2,hsz,hall⟩
 ·exact ⟨[],rfl,.inl rfl,by omega⟩
 ·rw [bytes_partsT] at hsz
  have each:∀ i,i<len→∃ y:List (Int × List Int),∃ go gc,w.cell? ⟨a.block,a.off+i,none⟩=some (.slice go y.length gc)∧PaS w go y∧y.length * 32≤140737488351232:=by
   intro i hi
   obtain ⟨_,_,cs,n,y,hl,hcell,hy,hyw⟩:=hall i hi
   match cs,hl with
   | [c0],_=>
    obtain ⟨xo,xl,xc,e1⟩:=slice_one Tryz.underlying74 hy
    subst e1
    obtain ⟨q,hq1,hq2,hq3⟩:=open_partsS hy hyw
    subst hq1
    exact ⟨q,xo,xc,by simpa using hcell 0 (by omega),hq2,hq3⟩
  obtain ⟨f,hf⟩:=Classical.axiomOfChoice (fun i:Fin len=>each i i.2)
  refine ⟨List.ofFn f,by simp,?_,by unfold reachBytes at hsz;omega⟩
  by_cases h0:len=0
  ·subst h0;exact .inl (by simp)
  ·obtain ⟨ea,hlt,_⟩:=hall 0 (by omega)
   refine .inr ⟨a.block,a.off,by rw [← ea],hlt,fun i hi=>?_⟩
   have hi' : i<len:=by simpa using hi
   simpa using hf ⟨i,hi'⟩
end
theorem step_partX {w0 W:World} {ops:Array Oper} {o:Oper} {a:Act} {K:Act→World→Prop} {Q:Exit→Act→World→Prop} {E:Prop} (hgd:o.guard=none) (s x:Operand)
  (ho:o.op=.call { callee:=.builtin .append,args:=#[s,x],argTypes:=#[74,74] })
  (base k:Nat) (vs:List Value) (v:Value) (hs:a.eval s=v) (hW:Same0 w0 W) (hr:w0.ownsRow base 73 2 v k vs) (A B:Value) (q:Nat) (hx:a.eval x=.slice (some ⟨q,0,none⟩) 1 1) (hq:W.heap[q]? = some (.cells #[A,B] 73 (0,0))) (hA:A.oneCell' = true) (hB:B.oneCell' = true) (hb:base≤w0.heap.size) (hsz:(k+1) * 32≤140737488355328)
  (h:∀ g cap w', w'.ownsRow base 73 2 (.slice (some ⟨g,0,none⟩) (k+1) cap) (k+1) (vs ++ [A,B])→Kept (fun q=>v.ownBlock=some q) w0 w' → K (a.put o.dst (.slice (some ⟨g,0,none⟩) (k+1) cap)) w') :
  if Region.wanted o (yielded ops a.tmps)=true then Oper.wp Tryz.prog o a W K Q else E:=by
 obtain ⟨i,hi,hz0,hz1,hz2⟩:=info_parts info_partX
 refine step_append_lies _ hgd s x 74 ho base 73 i _ 2 32 Tryz.underlying74 hi hz0 hz1 hz2 rfl (by decide) v k vs hs (hW.row hr (fun _ _ f=>f)) ⟨q,0,none⟩ 1 1 [A,B] hx rfl (World.news_of_block (cs:=#[A,B]) (t:=73) (fr:=(0,0)) hq) (by intro u hu;simp at hu;rcases hu with rfl | rfl <;> assumption) (by omega) (by unfold maxLen;omega) hsz (Nat.le_trans hb hW.size) W.heap.size rfl ?_
 intro g cap w' hown hgrow hat hlt
 exact h g cap w' hown (Kept.grown (Kept.mono hW (fun _ _ f=>f.elim)) hgrow (fun _ e _=>e))
theorem wpList_partX {w0 W:World} {ops:Array Oper} {rest:List Oper} {o:Oper} {a:Act} {Q:Exit→Act→World→Prop} (hgd:o.guard=none) (s x:Operand)
  (ho:o.op=.call { callee:=.builtin .append,args:=#[s,x],argTypes:=#[74,74] })
  (base k:Nat) (vs:List Value) (v:Value) (hs:a.eval s=v) (hW:Same0 w0 W) (hr:w0.ownsRow base 73 2 v k vs) (A B:Value) (q:Nat) (hx:a.eval x=.slice (some ⟨q,0,none⟩) 1 1) (hq:W.heap[q]? = some (.cells #[A,B] 73 (0,0))) (hA:A.oneCell' = true) (hB:B.oneCell' = true) (hb:base≤w0.heap.size) (hsz:(k+1) * 32≤140737488355328)
  (h:∀ g cap w', w'.ownsRow base 73 2 (.slice (some ⟨g,0,none⟩) (k+1) cap) (k+1) (vs ++ [A,B])→Kept (fun q=>v.ownBlock=some q) w0 w' → wpList Tryz.prog ops Q rest (a.put o.dst (.slice (some ⟨g,0,none⟩) (k+1) cap)) w') :
  wpList Tryz.prog ops Q (o :: rest) a W:=by
 obtain ⟨i,hi,hz0,hz1,hz2⟩:=info_parts info_partX
 refine wpList_append_lies _ hgd s x 74 ho base 73 i _ 2 32 Tryz.underlying74 hi hz0 hz1 hz2 rfl (by decide) v k vs hs (hW.row hr (fun _ _ f=>f)) ⟨q,0,none⟩ 1 1 [A,B] hx rfl (World.news_of_block (cs:=#[A,B]) (t:=73) (fr:=(0,0)) hq) (by intro u hu;simp at hu;rcases hu with rfl | rfl <;> assumption) (by omega) (by unfold maxLen;omega) hsz (Nat.le_trans hb hW.size) W.heap.size rfl ?_
 intro g cap w' hown hgrow hat hlt
 exact h g cap w' hown (Kept.grown (Kept.mono hW (fun _ _ f=>f.elim)) hgrow (fun _ e _=>e))
theorem wpList_partsX {w0 W:World} {ops:Array Oper} {rest:List Oper} {o:Oper} {a:Act} {Q:Exit→Act→World→Prop} (hgd:o.guard=none) (s x:Operand)
  (ho:o.op=.call { callee:=.builtin .append,args:=#[s,x],argTypes:=#[53,53] })
  (base k:Nat) (vs:List Value) (v:Value) (hs:a.eval s=v) (hW:Same0 w0 W) (hr:w0.ownsRow base 74 1 v k vs) (A:Value) (q:Nat) (hx:a.eval x=.slice (some ⟨q,0,none⟩) 1 1) (hq:W.heap[q]? = some (.cells #[A] 74 (0,0))) (hA:A.oneCell' = true) (hb:base≤w0.heap.size) (hsz:(k+1) * 24≤140737488355328)
  (h:∀ g cap w', w'.ownsRow base 74 1 (.slice (some ⟨g,0,none⟩) (k+1) cap) (k+1) (vs ++ [A])→Kept (fun q=>v.ownBlock=some q) w0 w' → wpList Tryz.prog ops Q rest (a.put o.dst (.slice (some ⟨g,0,none⟩) (k+1) cap)) w') :
  wpList Tryz.prog ops Q (o :: rest) a W:=by
 obtain ⟨i,hi,hz0,hz1,hz2⟩:=info_parts info_partsX
 refine wpList_append_lies _ hgd s x 53 ho base 74 i _ 1 24 Tryz.underlying53 hi hz0 hz1 hz2 rfl (by decide) v k vs hs (hW.row hr (fun _ _ f=>f)) ⟨q,0,none⟩ 1 1 [A] hx rfl (World.news_of_block (cs:=#[A]) (t:=74) (fr:=(0,0)) hq) (by intro u hu;simp at hu;subst hu;assumption) (by omega) (by unfold maxLen;omega) hsz (Nat.le_trans hb hW.size) W.heap.size rfl ?_
 intro g cap w' hown hgrow hat hlt
 exact h g cap w' hown (Kept.grown (Kept.mono hW (fun _ _ f=>f.elim)) hgrow (fun _ e _=>e))
theorem neq_fltX (c a y:Int) (w:World):(binOp .neq 42 (.agg #[.int .i64 c,.int .i64 a,.int .i64 y,.bool false,.int .i64 0,.int .i64 0]) (.agg #[.int .i64 c,.int .i64 a,.int .i64 y,.bool false,.int .i64 0,.int .i64 0])).run Tryz.prog w=.ok (.bool false) w:=by
 simp [go_sem]
def FtX (n0:Nat) (w:World) (v:Value) (c a y:Int):Prop:=(v=.nilIface∧c=0∧a=0∧y=0)∨FtAt n0 w v c a y
theorem FtX.same {n0:Nat} {w w' : World} {v:Value} {c a y:Int} (h:FtX n0 w v c a y) (hk:Same0 w w'):FtX n0 w' v c a y:=h.imp id (fun q=>q.sameG hk)
theorem FtX.fb {n0:Nat} {w:World} {v:Value} {c a y:Int} (h:FtX n0 w v c a y) {k:Nat} (hf:FB v k):n0≤k∧∃ cs,w.heap[k]? = some (.cells cs 94 (0,0)):=by
 unfold FB at hf
 rcases h with ⟨e,_⟩ | ⟨b,e,hn,hb⟩
 ·rw [hf] at e;cases e
 ·rw [hf] at e
  cases e
  exact ⟨hn,_,hb⟩
theorem FtX.boxes {n0:Nat} {w w' : World} {v:Value} {c a y:Int} {S:Nat→Prop} (h:FtX n0 w v c a y) (hk:Kept S w w') (hS:∀ k,S k→∃ cs,w.heap[k]? = some (.cells cs 42 (0,0))):FtX n0 w' v c a y:=by
 refine h.imp id (fun q=>?_)
 obtain ⟨b,e,hn,hb⟩:=q
 refine ⟨b,e,hn,hk.at hb (fun s=>?_)⟩
 obtain ⟨cs,h2⟩:=hS _ s
 rw [hb] at h2;cases h2
theorem put6_at {w:World} {g:Nat} {u0 u1 u2 u3 u4 u5 v0 v1 v2 v3 v4 v5:Value} {t:TypeId} (h:w.heap[g]? = some (.cells #[u0,u1,u2,u3,u4,u5] t (0,0))):(put6 w g v0 v1 v2 v3 v4 v5).heap[g]? = some (.cells #[v0,v1,v2,v3,v4,v5] t (0,0)):=
 setAt (setAt (setAt (setAt (setAt (setAt h 0 v0) 1 v1) 2 v2) 3 v3) 4 v4) 5 v5
theorem flt_callX {n0:Nat} {w:World} {v:Value} {c a y:Int} (h:FtX n0 w v c a y):Calls Tryz.prog 11 #[v] w fun e w' => e=.returned (fltV c a y)∧Kept (FB v) w w' := by
 rcases h with ⟨rfl,rfl,rfl,rfl⟩ | ⟨b,rfl,hn,hb⟩
 ·exact (fault_none w).mono (fun e w' ⟨e1,e2⟩=>⟨e1,e2.mono (fun _ _ f=>f.elim)⟩)
 ·unfold whyV at hb
  by_cases hy:y=0
  ·rw [if_pos hy] at hb
   subst hy
   exact (fault_zero hb).mono (fun e w' ⟨e1,e2⟩=>⟨e1,e2.mono (fun i _ e=>by rw [e];rfl)⟩)
  ·rw [if_neg hy] at hb
   exact (fault_why hb).mono (fun e w' ⟨e1,e2⟩=>⟨e1,e2.mono (fun i _ e=>by rw [e];rfl)⟩)
structure GBW (n0 n1 n2 sb:Nat) (rv:Value) (L:List Sym) (h g r room:Nat) (v:Value) (N M:List Nd) (w:World):Prop where
 glw:GLW (fun b=>b<n1∨n2≤b) n0 sb rv L h g r room v N M w
 ownX:∀ k,v.ownBlock=some k→k<n1∨n2≤k
 low:h<n1∧g<n1∧r<n1
 size:n0≤n2∧n2≤w.heap.size
section
variable {n0 n1 n2 sb : Nat} {rv : Value} {L : List Sym} {h g r room : Nat} {v : Value} {N M : List Nd} {w w' : World}
theorem GBW.same (q:GBW n0 n1 n2 sb rv L h g r room v N M w) (hk:Same0 w w'):GBW n0 n1 n2 sb rv L h g r room v N M w' :=
 ⟨q.glw.same hk,q.ownX,q.low,q.size.1,Nat.le_trans q.size.2 hk.size⟩
theorem GBW.faults {S:Nat→Prop} (q:GBW n0 n1 n2 sb rv L h g r room v N M w) (hk:Kept S w w') (hS:∀ k,S k→n2≤k∧∃ cs,w.heap[k]? = some (.cells cs 94 (0,0))):GBW n0 n1 n2 sb rv L h g r room v N M w' := by
 have hz:=q.size
 have hl:=q.low
 refine ⟨q.glw.kept hk (fun k hk' s=>by have:=(hS k s).1;omega) ⟨fun s=>?_,fun s=>?_,fun s=>?_⟩ (fun k e s=>?_) (fun k _ s cur hc=>?_),q.ownX,q.low,q.size.1,Nat.le_trans q.size.2 hk.size⟩
 ·obtain ⟨_,cs,e⟩:=hS _ s
  rw [q.glw.hp.box] at e;cases e
 ·obtain ⟨_,cs,e⟩:=hS _ s
  obtain ⟨c2,hq,_⟩:=q.glw.hp.blk
  rw [hq] at e;cases e
 ·obtain ⟨_,cs,e⟩:=hS _ s
  rw [q.glw.rh.box] at e;cases e
 ·obtain ⟨_,cs,e'⟩:=hS _ s
  obtain ⟨c2,hq⟩:=q.glw.rh.rowT e
  rw [hq] at e'; cases e'
 ·obtain ⟨_,cs,e⟩:=hS _ s
  rw [hc] at e;cases e
theorem GBW.boxes {S:Nat→Prop} (q:GBW n0 n1 n2 sb rv L h g r room v N M w) (hk:Kept S w w') (hS:∀ k,S k→n2≤k∧∃ cs,w.heap[k]? = some (.cells cs 42 (0,0))):GBW n0 n1 n2 sb rv L h g r room v N M w' := by
 have hz:=q.size
 have hl:=q.low
 refine ⟨q.glw.kept hk (fun k hk' s=>by have:=(hS k s).1;omega) ⟨fun s=>?_,fun s=>?_,fun s=>?_⟩ (fun k e s=>?_) (fun k _ s cur hc=>?_),q.ownX,q.low,q.size.1,Nat.le_trans q.size.2 hk.size⟩
 ·obtain ⟨_,cs,e⟩:=hS _ s
  rw [q.glw.hp.box] at e;cases e
 ·obtain ⟨_,cs,e⟩:=hS _ s
  obtain ⟨c2,hq,_⟩:=q.glw.hp.blk
  rw [hq] at e;cases e
 ·obtain ⟨_,cs,e⟩:=hS _ s
  rw [q.glw.rh.box] at e;cases e
 ·obtain ⟨_,cs,e'⟩:=hS _ s
  obtain ⟨c2,hq⟩:=q.glw.rh.rowT e
  rw [hq] at e'; cases e'
 ·obtain ⟨_,cs,e⟩:=hS _ s
  rw [hc] at e;cases e
end
def GBM (n0 n1 n2 sb:Nat) (rv:Value) (L:List Sym) (h g r room:Nat) (w:World):Prop:=∃ v N,GBW n0 n1 n2 sb rv L h g r room v N N w
theorem GBM.same {n0 n1 n2 sb:Nat} {rv:Value} {L:List Sym} {h g r room:Nat} {w w' : World} (q:GBM n0 n1 n2 sb rv L h g r room w) (hk:Same0 w w'):GBM n0 n1 n2 sb rv L h g r room w' := by
 obtain ⟨v,N,q⟩:=q
 exact ⟨v,N,q.same hk⟩
def BdP (n0 n1 n2 sb:Nat) (rv:Value) (L:List Sym) (h g r room:Nat) (v:Value) (N:List Nd) (R:List (List (Int × List Int))) (rule node a:Int) (v2:Value) (w:World):Prop:=
 (∃ l,BdY L N room R rule node l∧a=hdA N l 0∧v2=.nilIface∧GBW n0 n1 n2 sb rv L h g r room v (layF N l).1 N w) ∨
 (∃ c aa y,BdE L N room R rule node c aa y∧a=0∧FtAt n2 w v2 c aa y∧GBW n0 n1 n2 sb rv L h g r room v N N w)
theorem BdP.same {n0 n1 n2 sb:Nat} {rv:Value} {L:List Sym} {h g r room:Nat} {v:Value} {N:List Nd} {R:List (List (Int × List Int))} {rule node a:Int} {v2:Value} {w w' : World} (p:BdP n0 n1 n2 sb rv L h g r room v N R rule node a v2 w) (hk:Same0 w w'):BdP n0 n1 n2 sb rv L h g r room v N R rule node a v2 w' := by
 rcases p with ⟨l,h1,h2,h3,q⟩ | ⟨c,aa,y,h1,h2,h3,q⟩
 ·exact .inl ⟨l,h1,h2,h3,q.same hk⟩
 ·exact .inr ⟨c,aa,y,h1,h2,h3.sameG hk,q.same hk⟩
section
variable {n0 n1 n2 sb : Nat} {rv : Value} {L : List Sym} {h g r room : Nat} {v : Value} {N : List Nd} {w : World} {R : List (List (Int × List Int))} {rule node : Int}
theorem bd_call (q:GBW n0 n1 n2 sb rv L h g r room v N N w) {ro:Option Addr} {rc:Nat} (hR:RtAt w ro R) :
  Calls Tryz.prog 16 #[.pointer (some ⟨sb,0,none⟩),.agg #[.slice none 0 0,.slice none 0 0,.slice none 0 0,.slice ro R.length rc],.pointer (some ⟨h,0,none⟩),.int .i64 rule,.int .i64 node] w fun e w' => ∃ a v2,e=.returned (.tuple #[.int .i64 a,v2])∧BdP n0 n1 n2 sb rv L h g r room v N R rule node a v2 w' ∧ Kept (fun k=>k=h∨k=g) w w' := by
 have hz:=q.size
 have hl:=q.low
 refine (build_any q.glw.sg q.glw.hp hR none none none 0 0 0 0 0 0 rule node).mono (fun e w' hb=>?_)
 rcases hb with ⟨v2,c,a,y,e1,ft,be,k⟩ | ⟨l,a,e1,by', e2,hp,k⟩
 ·exact ⟨0,v2,e1,.inr ⟨c,a,y,be,rfl,ft.from hz.2,q.same k⟩,k.mono (fun _ _ f=>f.elim)⟩
 ·refine ⟨a,.nilIface,e1,.inl ⟨l,by', ?_,rfl,⟨?_,q.ownX,q.low,hz.1,Nat.le_trans hz.2 k.size⟩⟩,k⟩
  ·unfold hdA
   rw [List.drop_zero,e2];rfl
  ·have s0:∀ k,k<n0→¬ (k=h∨k=g):=fun k hk e=>by have:=q.glw.lo;omega
   refine ⟨q.glw.sg.kept k s0,q.glw.rl.kept k s0,hp.mono (fun z _ _ hb=>?_),q.glw.rh.kept k (fun e=>by have:=q.glw.sep;omega) (fun z e s=>by have:=q.glw.own z e;omega) (fun z _ s=>q.glw.hp.notG z s),q.glw.sep,q.glw.own,q.glw.lo⟩
   rcases hb with hb | hb
   ·exact hb
   ·exact .inr (Nat.le_trans hz.2 hb)
theorem rbd_call {a:Int} {v2:Value} (p:BdP n0 n1 n2 sb rv L h g r room v N R rule node a v2 w) {w0:World} {ro:Option Addr} {rc:Nat} (hR:RtS w0 ro R) (hRm:R.length≤maxLen) (hk0:Same0 w0 w) (hlo:w0.heap.size≤n0) :
  Calls Tryz.prog 17 #[rv,.agg #[.slice none 0 0,.slice none 0 0,.slice none 0 0,.slice ro R.length rc],.pointer (some ⟨r,0,none⟩),.int .i64 rule,.int .i64 node] w fun e w' => ∃ c aa y,e=.returned (.tuple #[.int .i64 a,fltV c aa y])∧(FtX n2 w' v2 c aa y∧GBM n0 n1 n2 sb rv L h g r room w')∧Kept (fun k=>k=r∨v.ownBlock=some k) w w' := by
 rcases p with ⟨l,⟨i,j,top,hi,rfl,rfl,hres,hall,h1,hf⟩,rfl,rfl,q⟩ | ⟨c,aa,y,hE,rfl,ft,q⟩
 ·obtain ⟨rb,roff,rfl,hrb,go,gc,c0,pS,hq32⟩:=hR.get hi
  have hz:=q.size
  have hl:=q.low
  have nS:∀ z,z<w0.heap.size→¬ (z=r∨v.ownBlock=some z):=fun z hz s=>by
   rcases s with s | s
   ·have:=q.glw.lo;omega
   ·have:=(q.glw.own _ s).1;omega
  refine (rb_yes q.glw.rl q.glw.rh q.glw.lo.2.2 (fun k e=>(q.glw.own k e).1) hRm none none none 0 0 0 0 0 0 i j top l hi (go:=go) (gc:=gc) (Nat.lt_of_lt_of_le hrb hk0.size) ((hk0.cell (p:=⟨rb,roff+i,none⟩) hrb (fun f=>f)).trans c0) (by omega) (fun ww hk=>(pS.same (hk0.trans hk (fun z hz s=>nS z hz s))).weak) hres.lt.1 hres hall h1 hf).mono (fun e w' ⟨e1,v', e2,e3,e4⟩=>⟨0,0,0,e1,⟨.inl ⟨rfl,rfl,rfl,rfl⟩,v', (layF N l).1,?_⟩,e4⟩)
  have s0:∀ k,k<n0→¬ (k=r∨v.ownBlock=some k):=fun k hk s=>by
   rcases s with s | s
   ·have:=q.glw.lo;omega
   ·have:=(q.glw.own _ s).1;omega
  have hzh:=q.glw.hp.ltH
  have hzg:=q.glw.hp.ltG
  have hzr:=q.glw.rh.lt
  refine ⟨⟨q.glw.sg.kept e4 s0,q.glw.rl.kept e4 s0,q.glw.hp.kept e4 (fun s=>?_) (fun s=>?_) (fun k _ s=>?_),?_,q.glw.sep,fun k e=>?_,q.glw.lo⟩,fun k e=>?_,q.low,hz.1,Nat.le_trans hz.2 e4.size⟩
  ·rcases s with s | s
   ·have:=q.glw.sep;omega
   ·have:=(q.glw.own _ s).2.1;omega
  ·rcases s with s | s
   ·have:=q.glw.sep;omega
   ·have:=(q.glw.own _ s).2.2.1;omega
  ·rcases s with s | s
   ·rw [s];exact q.glw.rh.noti
   ·exact q.glw.rh.ownNot s
  ·refine e2.monoG (fun k _ hb=>?_)
   rcases hb with hb | hb
   ·exact hb
   ·exact .inr (Nat.le_trans hz.2 hb)
  ·rcases e3 k e with s | s
   ·exact q.glw.own k s
   ·have:=q.glw.lo;omega
  ·rcases e3 k e with s | s
   ·exact q.ownX k s
   ·exact .inr (Nat.le_trans hz.2 s)
 ·have FIN:∀ {w' : World},Same0 w w' → (FtX n2 w' v2 c aa y∧GBM n0 n1 n2 sb rv L h g r room w')∧Kept (fun k=>k=r∨v.ownBlock=some k) w w' := fun k=>⟨⟨.inr (ft.sameG k),v,N,q.same k⟩,k.mono (fun _ _ f=>f.elim)⟩
  have hE' := hE
  rcases hE with ⟨h0,rfl,rfl,rfl⟩ | ⟨⟨h0,h0'⟩,h00,rfl,rfl,rfl⟩ | ⟨i,j,top,hi,rfl,rfl,hres,_⟩
  ·exact (rb_rule hRm none none none 0 0 0 0 0 0 rule node h0).mono (fun e w' ⟨e1,e3⟩=>⟨_,_,_,e1,FIN e3⟩)
  ·obtain ⟨i,rfl⟩:∃ i:Nat,rule=(i:Int):=⟨rule.toNat,by omega⟩
   exact (rb_node q.glw.rh hRm none none none 0 0 0 0 0 0 i (by omega) node h00).mono (fun e w' ⟨e1,e3⟩=>⟨_,_,_,e1,FIN e3⟩)
  ·refine (rb_err q.glw.rl q.glw.rh ((hR.same hk0).weak) hRm none none none 0 0 0 0 0 0 i j top hi hres.lt.1 hres (fun ⟨l,hy⟩=>hy.notE hE')).mono (fun e w' ⟨c', a', y', e1,e2,e3⟩=>?_)
   obtain ⟨rfl,rfl,rfl⟩:=BdE.uniq e2 hE'
   exact ⟨_,_,_,e1,FIN e3⟩
end
end Go.Proofs.YtblgblgchkonhaaGreat
namespace Go.Proofs.YtblgblgchkonhaaGreat
set_option maxRecDepth 100000
set_option linter.unusedVariables false
open Go.RowKit
attribute [local go_sem ↓] Go.wp_at_zero Go.wp_at_succ
set_option maxHeartbeats 8000000 in
theorem code13_any {w:World} {ro:Option Addr} {rc:Nat} {R:List (List (Int × List Int))} (hR:RtS w ro R) (hRm:R.length * 24≤140737488351232) :
  Calls Tryz.prog 15 #[.slice ro R.length rc] w fun e w' => ∃ v b,e=.returned (.agg #[.slice none 0 0,.slice none 0 0,.slice none 0 0,v])∧RRw (w.heap.size+1) w'.heap.size w' v R R.length b∧Same0 w w' := by
 obtain ⟨W0,hW0⟩:∃ W0,W0=w.alloc (.cells #[.slice none 0 0,.slice none 0 0,.slice none 0 0,.slice none 0 0] 58):=⟨_,rfl⟩
 have k0:Same0 w W0:=by rw [hW0];exact (Kept.refl _ w).alloc _
 have zv:W0.heap.size=w.heap.size+1:=by rw [hW0];simp
 have h0:W0.heap[w.heap.size]? = some (.cells #[.slice none 0 0,.slice none 0 0,.slice none 0 0,.slice none 0 0] 58 (0,0)):=by rw [hW0];exact heap_alloc_new w _
 have HK0:Hid (Same0 w W0):=k0
 have HZ:Hid (W0.heap[w.heap.size]? = some (.cells #[.slice none 0 0,.slice none 0 0,.slice none 0 0,.slice none 0 0] 58 (0,0))):=h0
 have HZV:Hid (W0.heap.size=w.heap.size+1):=zv
 have HRS:Hid (∀ ww,Same0 W0 ww→RtS ww ro R):=fun ww hk=>hR.same (k0.trans' hk)
 have HR0:Hid (RtS w ro R):=hR
 have HRM:Hid (R.length * 24≤140737488351232):=hRm
 have hRi:(R.length:Int)≤5864062014634:=by omega
 have S0:Hid (RRw W0.heap.size W0.heap.size W0 (.slice none 0 0) R 0 (fun _=>W0.heap.size)):=⟨⟨[],World.ownsRow_nil _ _ _ _,fun i _ h=>absurd h (Nat.not_lt_zero _)⟩,fun _=>Nat.le_refl _,Nat.le_refl _,fun _=>Nat.le_refl _,fun k e=>by cases e⟩
 have K00:Hid (Same0 W0 W0):=Kept.refl _ _
 clear hR hRm k0 h0 zv
 go_enter Tryz.func15,Tryz.ntmps15
 go_upto_region 1 with fail
 rw [← hW0]
 clear hW0
 go_upto_region 3 with fail
 go_loopw [3,4] (fun s3 s4 wr=>∃ (i:Nat) (b:Nat→Nat),i≤R.length∧s4=.int .i64 (i:Int)∧Hid (RRw W0.heap.size wr.heap.size wr s3 R i b)∧Hid (Same0 W0 wr)) (fun _ s4 _=>R.length-(intOf s4).toNat)
 case atStart=>exact ⟨0,_,Nat.zero_le _,rfl,S0,K00⟩
 case round=>
  clear S0 K00
  obtain ⟨i,b,hi,rfl,SI,KI⟩:=hrel
  by_cases hlt:i<R.length
  ·obtain ⟨tb,toff,rfl,htb,go,gc,t0,pS,hq32⟩:=(HRS.out wr KI.out).get hlt
   have htw:tb<w.heap.size:=by
    obtain ⟨tb', toff', e', h', _⟩:=HR0.out.get hlt
    simp only [Option.some.injEq,Addr.mk.injEq,and_true] at e'
    omega
   have HTW:Hid (tb<w.heap.size):=htw
   have i1:(0:Int)≤(i:Int):=by omega
   have i2:(i:Int)<(R.length:Int):=by omega
   have HC:Hid (∀ ww,Same0 wr ww→ww.cell? ⟨tb,toff+i,none⟩=some (.slice go R[i].length gc)∧PaS ww go R[i]):=fun ww hk=>⟨(hk.cell (p:=⟨tb,toff+i,none⟩) htb (fun f=>f)).trans t0,pS.same hk⟩
   have HQ32:Hid (R[i].length * 32≤140737488351232):=hq32
   have hQ8:(R[i].length:Int)≤4398046510976:=by omega
   obtain ⟨v3,hv3⟩:∃ v3,v3=u3:=⟨_,rfl⟩
   obtain ⟨w3,hw3⟩:∃ w3,w3=wr:=⟨_,rfl⟩
   rw [← hw3,← hv3] at SI
   rw [← hw3] at HC KI
   rw [← hw3]
   rw [← hv3]
   clear hw3 hv3 t0 pS hq32 htb
   clear wr
   obtain ⟨Q,hQ⟩:∃ Q,Q=R[i]:=⟨_,rfl⟩
   rw [← hQ] at HC HQ32 hQ8
   have HQE:Hid (Q=R[i]):=hQ
   clear hQ
   go_upto_region 7 with fail
   go_loopw [5,6] (fun s5 s6 wr=>∃ (k:Nat) (vs:List Value) (f:Nat→Nat),k≤Q.length∧s6=.int .i64 (k:Int)∧Hid (wr.ownsRow w3.heap.size 73 2 s5 k vs∧PCl w3.heap.size wr vs Q k f)∧Hid (Same0 w3 wr)) (fun _ s6 _=>Q.length-(intOf s6).toNat)
   case atStart=>exact ⟨0,[],fun _=>0,Nat.zero_le _,rfl,⟨World.ownsRow_nil _ _ _ _,PCl.nil _ _ _ _⟩,Kept.refl _ _⟩
   case round=>
    obtain ⟨k,vs,f,hk,rfl,RW,KR⟩:=hrel
    obtain ⟨d0,pR⟩:=HC.out wr KR.out
    by_cases hkl:k<Q.length
    ·obtain ⟨pb,poff,rfl,hpb,yo,yc,c0,c1,ar⟩:=pR.get hkl
     have j1:(0:Int)≤(k:Int):=by omega
     have j2:(k:Int)<(Q.length:Int):=by omega
     have hpw:pb<w3.heap.size:=by
      obtain ⟨pb', poff', e', h', _⟩:=(HC.out w3 (Kept.refl _ _)).2.get hkl
      simp only [Option.some.injEq,Addr.mk.injEq,and_true] at e'
      omega
     have htw3:tb<w3.heap.size:=by have:=HTW.out;have:=HZV.out;have:=KI.out.size;omega
     have CS:Hid (∀ ww,Kept (fun q=>w3.heap.size≤q) wr ww→ww.cell? ⟨tb,toff+i,none⟩=some (.slice (some ⟨pb,poff,none⟩) Q.length gc)∧ww.cell? ⟨pb,poff+k * 2,none⟩=some (.int .i64 Q[k].1)∧ww.cell? ⟨pb,poff+k * 2+1,none⟩=some (.slice yo Q[k].2.length yc)):=fun ww hk=>by
      have hz:=KR.out.size
      exact ⟨(hk.cell (p:=⟨tb,toff+i,none⟩) (by show tb<_;omega) (by show ¬ _≤tb;omega)).trans d0,(hk.cell (p:=⟨pb,poff+k * 2,none⟩) hpb (by show ¬ _≤pb;omega)).trans c0,(hk.cell (p:=⟨pb,poff+k * 2+1,none⟩) hpb (by show ¬ _≤pb;omega)).trans c1⟩
     have CL:Hid (∀ ww,Same0 wr ww→Calls Tryz.prog 8 #[.slice yo Q[k].2.length yc] ww fun e w' => ∃ g c,e=.returned (.slice (some ⟨g,0,none⟩) Q[k].2.length c)∧LtP w3.heap.size w' g c Q[k].2∧wr.heap.size≤g∧Same0 wr w'):=fun ww hk=>(lent13_any ⟨ar.at'.same hk,ar.cap', ar.nil,ar.size⟩).mono (fun e w' ⟨g,c,e1,e2,e3,e4⟩=>by
      have q:LtP ww.heap.size w' g c Q[k].2:=⟨e2,e3⟩
      have hz:=KR.out.size
      have hz2:=hk.size
      exact ⟨g,c,e1,⟨row_mono e2 (by omega),e3⟩,by have:=q.at.1;omega,hk.trans' e4⟩)
     have FIN:Hid (∀ w1 g c gg cap w9,LtP w3.heap.size w1 g c Q[k].2→wr.heap.size≤g→Same0 wr w1→w9.ownsRow w3.heap.size 73 2 (.slice (some ⟨gg,0,none⟩) (k+1) cap) (k+1) (vs ++ [.int .i64 Q[k].1,.slice (some ⟨g,0,none⟩) Q[k].2.length c])→Kept (fun q=>u5.ownBlock=some q) w1 w9→∃ (k' : Nat) (vs' : List Value) (f' : Nat→Nat),k' ≤ Q.length∧Value.int .i64 ((k:Int)+1)=.int .i64 (k' : Int)∧Hid (w9.ownsRow w3.heap.size 73 2 (.slice (some ⟨gg,0,none⟩) (k+1) cap) k' vs' ∧ PCl w3.heap.size w9 vs' Q k' f')∧Hid (Same0 w3 w9)):=fun w1 g c gg cap w9 hl hg k1 r9 k9=>by
      have r1:=k1.row RW.out.1 (fun _ _ f=>f)
      have p1:=RW.out.2.kept k1 (fun _ _ _ f=>f)
      exact ⟨k+1,_,_,hkl,by go_num,⟨r9,p1.more r1 k9 hkl hl (fun i hi=>by have:=RW.out.2.lt (Nat.le_of_lt hkl) i hi;omega)⟩,(KR.out.trans' k1).trans k9 (fun q hq e=>by have:=(r1.lt q e).1;omega)⟩
     have RW1:Hid (∀ w1,Same0 wr w1→w1.ownsRow w3.heap.size 73 2 u5 k vs):=fun w1 k1=>k1.row RW.out.1 (fun _ _ f=>f)
     have KP:Hid (∀ w1 w9,Same0 wr w1→Kept (fun q=>u5.ownBlock=some q) w1 w9→Kept (fun q=>w3.heap.size≤q) wr w9):=fun w1 w9 k1 k9=>(Kept.mono k1 (fun _ _ f=>f.elim)).trans k9 (fun q hq e=>((RW1.out w1 k1).lt q e).1)
     have SM:Hid (∀ w1,Same0 wr w1→Kept (fun q=>w3.heap.size≤q) wr w1):=fun w1 k1=>k1.mono (fun _ _ f=>f.elim)
     have hsz:Hid ((k+1) * 32≤140737488355328):=by show _≤_;have:=HQ32.out;omega
     have HZR:Hid (w3.heap.size≤wr.heap.size):=KR.out.size
     have KA:Hid (Same0 wr wr.drew):=(Kept.refl _ wr).drew
     clear ar RW pR KR hpb
     generalize Q[k].2.length=yl at *
     generalize Q[k].1=sy at *
     go_upto_region 9 with fail
     have cc0:=CS.out wr.drew (SM.out _ KA.out)
     go_region_held3 (fun ww=>ww.cell? ⟨tb,toff+i,none⟩=some (.slice (some ⟨pb,poff,none⟩) Q.length gc)∧ww.cell? ⟨pb,poff+k * 2,none⟩=some (.int .i64 sy)∧ww.cell? ⟨pb,poff+k * 2+1,none⟩=some (.slice yo yl yc)) (with_reducible first | exact ⟨d0,c0,c1⟩ | exact cc0 | exact cc1 | exact cc2 | exact cc3) (first
      | (go_at_call 8;refine (CL.out _ KA.out).mono ?_;rintro e w1 ⟨g,c,rfl,hl,hg,k1⟩;have cc1:=CS.out w1 (SM.out w1 k1);have cc2:=CS.out _ (SM.out _ (Kept.alloc k1 (.cells #[.int .i64 sy,.slice (some ⟨g,0,none⟩) yl c] 73))))
      | (refine step_partX (w0:=w1) (by rfl) _ _ (by rfl) w3.heap.size k vs u5 (by rfl) ((Kept.refl _ w1).alloc _) (RW1.out w1 k1) (.int .i64 sy) (.slice (some ⟨g,0,none⟩) yl c) w1.heap.size (by rfl) (heap_alloc_new w1 _) (by rfl) (by rfl) (Nat.le_trans HZR.out k1.size) hsz.out ?_;intro gg cap w9 r9 k9;have cc3:=CS.out w9 (KP.out w1 w9 k1 k9)))
     all_goals
      go_wp2_with fail
      exact ⟨FIN.out w1 g c gg cap w9 hl hg k1 r9 k9,by simp [intOf];omega⟩
    ·obtain rfl:k=Q.length:=by omega
     have HRW:Hid (wr.ownsRow w3.heap.size 73 2 u5 Q.length vs∧PCl w3.heap.size wr vs Q Q.length f):=RW
     have H5:Hid (∀ pb pcap w5,w5.ownsRow w3.heap.size 73 2 (.slice (some ⟨pb,0,none⟩) (Q.length+1) pcap) (Q.length+1) (vs ++ [.int .i64 (-77),.slice none 0 0])→Kept (fun q=>u5.ownBlock=some q) wr w5→Same0 w3 w5∧PRw w3.heap.size w5.heap.size w5 pb pcap Q f∧Q.length≤pcap):=fun pb pcap w5 r5 k5=>by
      have no:∀ q,(∃ cur,wr.heap[q]? = some (.cells cur 3 (0,0)))→¬ u5.ownBlock=some q:=fun q ⟨cur,hc⟩ e=>by
       obtain ⟨c2,h2⟩:=row_kindX HRW.out.1 e
       rw [hc] at h2;cases h2
      have p5:=HRW.out.2.kept k5 (fun i hi hik=>by
       obtain ⟨c', _,_,q⟩:=HRW.out.2.2.1 i hi hik
       exact no _ q.at.2.2)
      have P5:PRw w3.heap.size w5.heap.size w5 pb pcap Q f:=⟨(r5.lt pb rfl).2,fun i hi=>p5.lt (Nat.le_refl _) i hi,vs,r5,p5⟩
      exact ⟨KR.out.trans k5 (fun q hq e=>by have:=(HRW.out.1.lt q e).1;omega),P5,by have:=P5.box.2.2.1;omega⟩
     have H6:Hid (∀ pb pcap w5 vs0 gg cap w6,Same0 w3 w5→PRw w3.heap.size w5.heap.size w5 pb pcap Q f→w5.ownsRow W0.heap.size 74 1 v3 i vs0→(∀ j (h:j<R.length),j<i→∃ pb cap f,vs0[j]? = some (.slice (some ⟨pb,0,none⟩) R[j].length cap)∧PRw (b j) (b (j+1)) w5 pb cap R[j] f)→w6.ownsRow W0.heap.size 74 1 (.slice (some ⟨gg,0,none⟩) (i+1) cap) (i+1) (vs0 ++ [.slice (some ⟨pb,0,none⟩) Q.length pcap])→Kept (fun q=>v3.ownBlock=some q) w5 w6→∃ (i' : Nat) (b' : Nat→Nat),i' ≤ R.length∧Value.int .i64 ((i:Int)+1)=.int .i64 (i' : Int)∧Hid (RRw W0.heap.size w6.heap.size w6 (.slice (some ⟨gg,0,none⟩) (i+1) cap) R i' b')∧Hid (Same0 W0 w6)):=fun pb pcap w5 vs0 gg cap w6 k5 p5 r5 hall r6 k6=>by
      have e:=HQE.out
      subst e
      have hT:∀ k,v3.ownBlock=some k→∃ cur,w5.heap[k]? = some (.cells cur 74 (0,0)):=fun k e=>row_kindX r5 e
      have hz:=k6.size
      refine ⟨i+1,_,hlt,by go_num,RRw.snoc (b:=b) r6 (vs0:=vs0) (fun j hj hji=>?_) (by have:=r5.1;omega) hlt rfl (z:=w3.heap.size) (pb:=pb) (cap:=pcap) (f:=f) ?_ (fun j=>SI.out.high j) (by have:=k5.size;omega) SI.out.up SI.out.low,(KI.out.trans' k5).trans k6 (fun q hq e=>by have:=(r5.lt q e).1;omega)⟩
      ·obtain ⟨pb,cap,f,q0,q1⟩:=hall j hj hji
       exact ⟨pb,cap,f,q0,q1.keptT k6 hT⟩
      ·have:=p5.keptT k6 hT
       exact ⟨Nat.lt_of_lt_of_le this.1 hz,fun j hj=>Nat.lt_of_lt_of_le (this.2.1 j hj) hz,this.2.2⟩
     obtain ⟨vs0,RV0⟩:∃ vs0,Hid (∀ w5,Same0 w3 w5→w5.ownsRow W0.heap.size 74 1 v3 i vs0∧(∀ j (h:j<R.length),j<i→∃ pb cap f,vs0[j]? = some (.slice (some ⟨pb,0,none⟩) R[j].length cap)∧PRw (b j) (b (j+1)) w5 pb cap R[j] f)):=by
      obtain ⟨vs0,q1,q2⟩:=SI.out.row
      refine ⟨vs0,fun w5 k5=>⟨k5.row q1 (fun _ _ f=>f),fun j hj hji=>?_⟩⟩
      obtain ⟨pb,cap,f,q3,q4⟩:=q2 j hj hji
      exact ⟨pb,cap,f,q3,q4.kept k5 (fun _ _ _ f=>f)⟩
     have HZ3:Hid (w3.heap.size≤wr.heap.size∧W0.heap.size≤w3.heap.size):=⟨KR.out.size,KI.out.size⟩
     have sz1:Hid ((Q.length+1) * 32≤140737488355328):=by show _≤_;have:=HQ32.out;omega
     have sz2:Hid ((i+1) * 24≤140737488355328):=by show _≤_;have:=HRM.out;omega
     have q0:(0:Int)≤(Q.length:Int):=by omega
     clear RW pR
     go_upto_region 10 with fail
     clear d0
     go_upto_region 11 with (first | (at_builtin;refine wpList_partX (w0:=wr) rfl _ _ rfl w3.heap.size Q.length vs _ rfl ((Kept.refl _ wr).alloc _) HRW.out.1 (.int .i64 (-77)) (.slice none 0 0) wr.heap.size rfl (heap_alloc_new wr _) rfl rfl HZ3.out.1 sz1.out ?_;intro pb pcap w5 r5 k5))
     obtain ⟨K5,P5,hpc⟩:=H5.out pb pcap w5 r5 k5
     have HK5:Hid (Same0 w3 w5):=K5
     have HP5:Hid (PRw w3.heap.size w5.heap.size w5 pb pcap Q f):=P5
     have d5:=(HC.out w5 K5).1
     have q1:(Q.length:Int)≤(pcap:Int):=by omega
     have hz5:Hid (W0.heap.size≤w5.heap.size):=by show _≤_;have:=K5.size;have:=HZ3.out;omega
     clear r5 k5 K5 P5 H5 hpc HRW
     go_wp2_with (first | (at_builtin;refine wpList_partsX (w0:=w5) rfl _ _ rfl W0.heap.size i vs0 _ rfl ((Kept.refl _ w5).alloc _) (RV0.out w5 HK5.out).1 (.slice (some ⟨pb,0,none⟩) Q.length pcap) w5.heap.size rfl (heap_alloc_new w5 _) rfl hz5.out sz2.out ?_;intro gg cap w6 r6 k6))
     exact ⟨H6.out pb pcap w5 vs0 gg cap w6 HK5.out HP5.out (RV0.out w5 HK5.out).1 (RV0.out w5 HK5.out).2 r6 k6,by simp [intOf];omega⟩
  ·obtain rfl:i=R.length:=by omega
   obtain ⟨uo,uc,rfl⟩:=SI.out.shape
   have hb:=KI.out.at0 HZ.out
   obtain ⟨b0,b1,b2,b3⟩:=boxT4 hb
   have g0:=frozenAt hb 0
   have g1:=frozenAt hb 1
   have g2:=frozenAt hb 2
   have g3:=frozenAt hb 3
   have FIN:Hid (∀ c0 c1 c2 c3,RRw (w.heap.size+1) (put4 wr w.heap.size 0 c0 c1 c2 c3).heap.size (put4 wr w.heap.size 0 c0 c1 c2 c3) (.slice uo R.length uc) R R.length b∧Same0 w (put4 wr w.heap.size 0 c0 c1 c2 c3)):=fun c0 c1 c2 c3=>by
    have KP:=put4_kept wr w.heap.size 0 c0 c1 c2 c3
    have hz:=HZV.out
    rw [← hz]
    exact ⟨(SI.out.kept KP (fun k a _ e=>by omega)).wide KP.size,(HK0.out.trans' KI.out).trans KP (fun i hi e=>by omega)⟩
   clear SI KI hb
   go_wp2_with fail
   exact bodyPost_ret (v:=.agg #[.slice none 0 0,.slice none 0 0,.slice none 0 0,(.slice uo R.length uc)]) (by simp [results,Tryz.results15,go_sem,b0,b1,b2,b3]) rfl ⟨(.slice uo R.length uc),b,rfl,FIN.out _ _ _ _⟩
def IsN (w:World) (z:Nat):Prop:=∃ cur,w.heap[z]? = some (.cells cur 3 (0,0))
set_option maxHeartbeats 8000000 in
theorem back13_any {w0 w:World} {ro qo:Option Addr} {rc qc lo hi:Nat} {R:List (List (Int × List Int))} {b:Nat→Nat} (hC:RRw lo hi w (.slice qo R.length qc) R R.length b) (hR:RtS w0 ro R) (hk0:Same0 w0 w) (hlo:w0.heap.size≤lo) (hhi:hi≤w.heap.size) (hRm:R.length * 24≤140737488351232) :
  Calls Tryz.prog 18 #[.agg #[.slice none 0 0,.slice none 0 0,.slice none 0 0,.slice qo R.length qc],.slice ro R.length rc] w fun e w' => e=.returned (.bool true)∧Kept (fun z=>lo≤z∧z<hi∧IsN w z) w w' := by
 obtain ⟨W0,hW0⟩:∃ W0,W0=w.alloc (.cells #[.slice none 0 0,.slice none 0 0,.slice none 0 0,.slice qo R.length qc] 58):=⟨_,rfl⟩
 have k0:Same0 w W0:=by rw [hW0];exact (Kept.refl _ w).alloc _
 have h0:W0.heap[w.heap.size]? = some (.cells #[.slice none 0 0,.slice none 0 0,.slice none 0 0,.slice qo R.length qc] 58 (0,0)):=by rw [hW0];exact heap_alloc_new w _
 have HC:Hid (RRw lo hi W0 (.slice qo R.length qc) R R.length b):=hC.kept k0 (fun _ _ _ f=>f)
 have HZ:Hid (W0.heap[w.heap.size]? = some (.cells #[.slice none 0 0,.slice none 0 0,.slice none 0 0,.slice qo R.length qc] 58 (0,0))):=h0
 have HRS:Hid (RtS w0 ro R∧Same0 w0 W0∧w0.heap.size≤lo∧hi≤w.heap.size∧w.heap.size<W0.heap.size):=⟨hR,hk0.trans' k0,hlo,hhi,lt_of_at h0⟩
 have HFIN:Hid (∀ w', Kept (fun z=>lo≤z∧z<b R.length∧IsN W0 z) W0 w' → Kept (fun z=>lo≤z∧z<hi∧IsN w z) w w'):=fun w' hk=>(Kept.mono k0 (fun _ _ f=>f.elim)).trans hk (fun z hz ⟨a,c,cur,hc⟩=>⟨a,Nat.lt_of_lt_of_le c (hC.high _),cur,by rw [← k0.block z hz (fun f=>f)];exact hc⟩)
 have hRi:(R.length:Int)≤5864062014634:=by omega
 have B0:Hid (Kept (fun z=>lo≤z∧z<b 0∧IsN W0 z) W0 W0):=Kept.refl _ _
 clear hC hR hk0 hlo hhi hRm k0 h0
 go_enter Tryz.func18,Tryz.ntmps18
 go_upto_region 1 with fail
 rw [← hW0]
 clear hW0
 go_upto_region 2 with fail
 go_loopw [5] (fun s5 wr=>∃ i:Nat,i≤R.length∧s5=.int .i64 (i:Int)∧Hid (Kept (fun z=>lo≤z∧z<b i∧IsN W0 z) W0 wr)) (fun s5 _=>R.length-(intOf s5).toNat)
 case atStart=>exact ⟨0,Nat.zero_le _,rfl,B0⟩
 case round=>
  clear B0
  obtain ⟨i,hi', rfl,KI⟩:=hrel
  by_cases hlt:i<R.length
  ·obtain ⟨rb,rfl,hrb,pb,cap,f,r0,P0⟩:=HC.out.at hlt
   obtain ⟨Q,hQ⟩:∃ Q,Q=R[i]:=⟨_,rfl⟩
   rw [← hQ] at r0 P0
   obtain ⟨tb,toff,rfl,htb,go,gc,t0,pS,hq32⟩:=HRS.out.1.get hlt
   rw [← hQ] at t0 pS hq32
   have HP:Hid (PRw (b i) (b (i+1)) W0 pb cap Q f):=P0
   have HPS:Hid (PaS w0 go Q):=pS
   have hQ8:(Q.length:Int)≤4398046510976:=by omega
   have hcap:(Q.length:Int)+1≤(cap:Int):=by have:=P0.box.2.2.1;omega
   obtain ⟨C,hCp⟩:∃ C:Nat→Nat,∀ j (h:j<Q.length),W0.cell? ⟨pb,j * 2,none⟩=some (.int .i64 Q[j].1)∧W0.cell? ⟨pb,j * 2+1,none⟩=some (.slice (some ⟨f j,0,none⟩) Q[j].2.length (C j))∧LtP (b i) W0 (f j) (C j) Q[j].2:=by
    have each:∀ j,∃ c,∀ (h:j<Q.length),W0.cell? ⟨pb,j * 2,none⟩=some (.int .i64 Q[j].1)∧W0.cell? ⟨pb,j * 2+1,none⟩=some (.slice (some ⟨f j,0,none⟩) Q[j].2.length c)∧LtP (b i) W0 (f j) c Q[j].2:=fun j=>by
     by_cases h:j<Q.length
     ·obtain ⟨c,q⟩:=P0.part h
      exact ⟨c,fun _=>q⟩
     ·exact ⟨0,fun h' => absurd h' h⟩
    obtain ⟨C,hC⟩:=Classical.axiomOfChoice each
    exact ⟨C,hC⟩
   have HCP:Hid (∀ j (h:j<Q.length),W0.cell? ⟨pb,j * 2,none⟩=some (.int .i64 Q[j].1)∧W0.cell? ⟨pb,j * 2+1,none⟩=some (.slice (some ⟨f j,0,none⟩) Q[j].2.length (C j))∧LtP (b i) W0 (f j) (C j) Q[j].2):=hCp
   clear hCp
   have HFR:Hid (∀ k ww,Kept (fun z=>(lo≤z∧z<b i∧IsN W0 z)∨∃ k', k' < k∧z=f k') W0 ww→k≤Q.length→(ww.cell? ⟨w.heap.size,3,none⟩=some (.slice (some ⟨rb,0,none⟩) R.length qc)∧ww.cell? ⟨rb,i,none⟩=some (.slice (some ⟨pb,0,none⟩) Q.length cap)∧ww.cell? ⟨tb,toff+i,none⟩=some (.slice go Q.length gc)∧ww.cell? ⟨pb,Q.length * 2,none⟩=some (.int .i64 (-77)))∧Same0 w0 ww∧∀ j (h:j<Q.length),ww.cell? ⟨pb,j * 2,none⟩=some (.int .i64 Q[j].1)∧ww.cell? ⟨pb,j * 2+1,none⟩=some (.slice (some ⟨f j,0,none⟩) Q[j].2.length (C j))∧(k≤j→LtP (b i) ww (f j) (C j) Q[j].2)):=fun k ww hk hkl=>by
    obtain ⟨q1,q2,q3,q4,q5⟩:=HRS.out
    have fr:∀ z,((lo≤z∧z<b i∧IsN W0 z)∨∃ k', k' < k∧z=f k')→lo≤z∧z<hi∧IsN W0 z:=fun z e=>by
     rcases e with ⟨a,c,d⟩ | ⟨k', hk', rfl⟩
     ·exact ⟨a,Nat.lt_of_lt_of_le c (HC.out.high _),d⟩
     ·obtain ⟨a,c,d⟩:=HP.out.blk (k:=k') (by omega)
      exact ⟨Nat.le_trans (HC.out.le i) a,Nat.lt_of_lt_of_le c (HC.out.high _),d⟩
    have nb:∀ z cur t,W0.heap[z]? = some (.cells cur t (0,0))→t≠3→¬ ((lo≤z∧z<b i∧IsN W0 z)∨∃ k', k' < k∧z=f k'):=fun z cur t hz ht e=>by
     obtain ⟨_,_,c2,h2⟩:=fr z e
     rw [hz] at h2;cases h2;exact ht rfl
    obtain ⟨_,hpb,_,cb,hcb⟩:=HP.out.box
    obtain ⟨vsr,rr,_⟩:=HC.out.row
    obtain ⟨cr,hcr⟩:=row_kindX rr (k:=rb) rfl
    have n1:=nb _ _ _ hcb (by decide)
    have n2:=nb _ _ _ hcr (by decide)
    have s0:Same0 w0 ww:=q2.trans hk (fun z hz e=>by have:=(fr z e).1;omega)
    refine ⟨⟨cellAt (hk.at HZ.out (fun e=>by have:=(fr _ e).2.1;omega)) 3,(hk.cell (p:=⟨rb,i,none⟩) hrb n2).trans r0,(s0.cell (p:=⟨tb,toff+i,none⟩) htb (fun f=>f)).trans t0,(hk.cell (p:=⟨pb,Q.length * 2,none⟩) hpb n1).trans HP.out.mark⟩,s0,fun j hj=>?_⟩
    obtain ⟨d0,d1,d2⟩:=HCP.out j hj
    refine ⟨(hk.cell (p:=⟨pb,j * 2,none⟩) hpb n1).trans d0,(hk.cell (p:=⟨pb,j * 2+1,none⟩) hpb n1).trans d1,fun hkj=>d2.kept hk (fun e=>?_)⟩
    rcases e with ⟨a,c,d⟩ | ⟨k', hk', e⟩
    ·have:=(HP.out.blk hj).1;omega
    ·have:=HP.out.grow (i:=k') (j:=j) (by omega) hj;omega
   have HUP:Hid (∀ ww,Kept (fun z=>(lo≤z∧z<b i∧IsN W0 z)∨∃ k', k' < Q.length∧z=f k') W0 ww→Kept (fun z=>lo≤z∧z<b (i+1)∧IsN W0 z) W0 ww):=fun ww hk=>hk.mono (fun z _ e=>by
     rcases e with ⟨a,c,d⟩ | ⟨k', hk', rfl⟩
     ·exact ⟨a,Nat.lt_of_lt_of_le c (HC.out.up _),d⟩
     ·obtain ⟨a,c,d⟩:=HP.out.blk (k:=k') (by omega)
      exact ⟨Nat.le_trans (HC.out.le i) a,c,d⟩)
   have HFB:Hid (∀ j,j<Q.length→w0.heap.size≤f j):=fun j hj=>by
    have:=(HP.out.blk hj).1
    have:=HC.out.le i
    have:=HRS.out.2.2.1
    show _≤_
    omega
   have KI0:Hid (Kept (fun z=>(lo≤z∧z<b i∧IsN W0 z)∨∃ k', k' < 0∧z=f k') W0 wr):=KI.out.mono (fun z _ e=>.inl e)
   obtain ⟨⟨x0,x1,x2,x3⟩, -, -⟩:=HFR.out 0 wr KI0.out (Nat.zero_le _)
   have i1:(0:Int)≤(i:Int):=by omega
   have i2:(i:Int)<(R.length:Int):=by omega
   have q0:(0:Int)≤(Q.length:Int)+1:=by omega
   have q1:(Q.length:Int)<(Q.length:Int)+1:=by omega
   have q2:(0:Int)≤(Q.length:Int):=by omega
   clear r0 P0 t0 pS hq32 hQ htb hrb KI
   go_upto_region 4 with fail
   go_quiet (fail)
   obtain ⟨W1,hW1⟩:∃ W1,W1=wr.drewN nq:=⟨_,rfl⟩
   have K1:Hid (Kept (fun z=>(lo≤z∧z<b i∧IsN W0 z)∨∃ k', k' < 0∧z=f k') W0 W1):=by rw [hW1];exact KI0.out.drewN _
   rw [← hW1]
   clear hW1 KI0 x0 x1 x2 x3
   clear wr
   go_upto_region 7 with fail
   go_loopw [6] (fun s6 wr=>∃ k:Nat,k≤Q.length∧s6=.int .i64 (k:Int)∧Hid (Kept (fun z=>(lo≤z∧z<b i∧IsN W0 z)∨∃ k', k' < k∧z=f k') W0 wr)) (fun s6 _=>Q.length-(intOf s6).toNat)
   case atStart=>exact ⟨0,Nat.zero_le _,rfl,K1⟩
   case round=>
    clear K1
    obtain ⟨k,hk,rfl,KR⟩:=hrel
    obtain ⟨⟨x0,x1,x2,x3⟩,sw,hall⟩:=HFR.out k wr KR.out hk
    by_cases hkl:k<Q.length
    ·obtain ⟨d0,d1,d2⟩:=hall k hkl
     have LT:=d2 (Nat.le_refl _)
     obtain ⟨sb,soff,rfl,hsb,yo,yc,y0,y1,ar⟩:=(HPS.out.same sw).get hkl
     have j1:(0:Int)≤(k:Int):=by omega
     have j2:(k:Int)<(Q.length:Int):=by omega
     have CH:Hid (∀ ww,Same0 wr ww→Calls Tryz.prog 12 #[.slice (some ⟨f k,0,none⟩) Q[k].2.length (C k),.slice yo Q[k].2.length yc] ww fun e w' => e=.returned (.bool true)∧Kept (fun z=>(lo≤z∧z<b i∧IsN W0 z)∨∃ k', k' < k+1∧z=f k') W0 w'):=fun ww hk2=>(held13_any (cap:=yc) ((LT.kept hk2 (fun f=>f)).1) LT.2 ⟨ar.at'.same hk2,ar.cap', ar.nil,ar.size⟩ (fun hne a e s=>by
       obtain ⟨sb', soff', e', hsb', yo', yc', z0,z1,ar'⟩:=HPS.out.get hkl
       simp only [Option.some.injEq,Addr.mk.injEq,and_true] at e'
       obtain ⟨rfl,rfl⟩:=e'
       have z2:=(sw.cell (p:=⟨sb,soff+k * 2+1,none⟩) hsb' (fun f=>f)).trans z1
       rw [y1] at z2
       have e3:yo=yo' := by simp at z2;exact z2.1
       rcases ar'.at' with q | ⟨b', off', e4,hb', _⟩
       ·exact hne q
       ·rw [e3,e4] at e
        cases e
        have:=HFB.out k hkl
        have s:b' = f k:=s
        omega)).mono (fun e w' ⟨e1,e2⟩=>⟨e1,((KR.out.mono (fun z _ e=>e.imp id (fun ⟨k', a,b⟩=>⟨k', by omega,b⟩))).trans hk2 (fun _ _ f=>f.elim)).trans e2 (fun z _ e=>.inr ⟨k,by omega,e⟩)⟩)
     have SC:Hid (∀ ww,Kept (fun z=>(lo≤z∧z<b i∧IsN W0 z)∨∃ k', k' < k+1∧z=f k') W0 ww→(ww.cell? ⟨w.heap.size,3,none⟩=some (.slice (some ⟨rb,0,none⟩) R.length qc)∧ww.cell? ⟨rb,i,none⟩=some (.slice (some ⟨pb,0,none⟩) Q.length cap)∧ww.cell? ⟨tb,toff+i,none⟩=some (.slice (some ⟨sb,soff,none⟩) Q.length gc))∧(ww.cell? ⟨pb,k * 2,none⟩=some (.int .i64 Q[k].1)∧ww.cell? ⟨pb,k * 2+1,none⟩=some (.slice (some ⟨f k,0,none⟩) Q[k].2.length (C k)))∧ww.cell? ⟨sb,soff+k * 2,none⟩=some (.int .i64 Q[k].1)∧ww.cell? ⟨sb,soff+k * 2+1,none⟩=some (.slice yo Q[k].2.length yc)):=fun ww hk2=>by
      obtain ⟨⟨x0,x1,x2, -⟩,sw2,hall2⟩:=HFR.out (k+1) ww hk2 (by omega)
      obtain ⟨e0,e1, -⟩:=hall2 k hkl
      obtain ⟨sb', soff', e', hsb', yo', yc', z0,z1,ar'⟩:=HPS.out.get hkl
      simp only [Option.some.injEq,Addr.mk.injEq,and_true] at e'
      obtain ⟨rfl,rfl⟩:=e'
      have z2:=(sw.cell (p:=⟨sb,soff+k * 2+1,none⟩) hsb' (fun f=>f)).trans z1
      rw [y1] at z2
      exact ⟨⟨x0,x1,x2⟩,⟨e0,e1⟩,(sw2.cell (p:=⟨sb,soff+k * 2,none⟩) hsb' (fun f=>f)).trans z0,(sw2.cell (p:=⟨sb,soff+k * 2+1,none⟩) hsb' (fun f=>f)).trans (z1.trans z2.symm)⟩
     have KA:Hid (Same0 wr wr.drew):=(Kept.refl _ wr).drew
     have KW:Hid (Kept (fun z=>(lo≤z∧z<b i∧IsN W0 z)∨∃ k', k' < k+1∧z=f k') W0 wr.drew):=(KR.out.mono (fun z _ e=>e.imp id (fun ⟨k', a,b⟩=>⟨k', by omega,b⟩))).drew
     have HN:Hid (∀ ww,Kept (fun z=>(lo≤z∧z<b i∧IsN W0 z)∨∃ k', k' < k+1∧z=f k') W0 ww→∃ k' : Nat,k' ≤ Q.length∧Value.int .i64 ((k:Int)+1)=.int .i64 (k' : Int)∧Hid (Kept (fun z=>(lo≤z∧z<b i∧IsN W0 z)∨∃ k'', k'' < k' ∧ z=f k'') W0 ww)):=fun ww hk2=>⟨k+1,by omega,by go_num,hk2⟩
     clear ar d2 LT hall sw KR hsb x3
     generalize C k=c at *
     generalize f k=fk at *
     generalize Q[k].2.length=yl at *
     generalize Q[k].1=sy at *
     go_upto_region 9 with fail
     obtain ⟨⟨z0,z1,z2⟩,⟨z3,z4⟩,z5,z6⟩:=SC.out wr.drew KW.out
     clear x0 x1 x2 d0 d1 y0 y1
     go_region_held3 (fun ww=>(ww.cell? ⟨w.heap.size,3,none⟩=some (.slice (some ⟨rb,0,none⟩) R.length qc)∧ww.cell? ⟨rb,i,none⟩=some (.slice (some ⟨pb,0,none⟩) Q.length cap)∧ww.cell? ⟨tb,toff+i,none⟩=some (.slice (some ⟨sb,soff,none⟩) Q.length gc))∧(ww.cell? ⟨pb,k * 2,none⟩=some (.int .i64 sy)∧ww.cell? ⟨pb,k * 2+1,none⟩=some (.slice (some ⟨fk,0,none⟩) yl c))∧ww.cell? ⟨sb,soff+k * 2,none⟩=some (.int .i64 sy)∧ww.cell? ⟨sb,soff+k * 2+1,none⟩=some (.slice yo yl yc)) (with_reducible first | exact ⟨⟨z0,z1,z2⟩,⟨z3,z4⟩,z5,z6⟩ | exact cc1) (first
      | (go_at_call 12;refine (CH.out _ KA.out).mono ?_;rintro e w5 ⟨rfl,k5⟩;have cc1:=SC.out w5 k5))
     all_goals
      have HK5:Hid (Kept (fun z=>(lo≤z∧z<b i∧IsN W0 z)∨∃ k', k' < k+1∧z=f k') W0 w5):=k5
      obtain ⟨⟨x0,x1,x2⟩,⟨x3,x4⟩,x5,x6⟩:=cc1
      clear z0 z1 z2 z3 z4 z5 z6 k5
      go_upto_region 10 with fail
      go_quiet (fail)
      have HK6:Hid (Kept (fun z=>(lo≤z∧z<b i∧IsN W0 z)∨∃ k', k' < k+1∧z=f k') W0 (w5.drewN nq)):=HK5.out.drewN _
      go_wp2_with fail
      exact ⟨HN.out _ HK6.out,by simp [intOf];omega⟩
    ·obtain rfl:k=Q.length:=by omega
     have FF:Hid (Kept (fun z=>lo≤z∧z<b (i+1)∧IsN W0 z) W0 wr):=HUP.out wr KR.out
     clear KR hall sw
     go_wp2_with fail
     refine ⟨⟨i+1,by omega,by go_num,FF⟩,by simp [intOf];omega⟩
  ·obtain rfl:i=R.length:=by omega
   have FF:Hid (Kept (fun z=>lo≤z∧z<hi∧IsN w z) w wr):=HFIN.out wr KI.out
   clear KI
   go_wp2_with fail
   go_ret
   exact ⟨rfl,FF.out⟩
end Go.Proofs.YtblgblgchkonhaaGreat
