import Derived.Test.YtpimndkhoalaeaaGN01
import Derived.Test.YtpimndkhoalaeaaGN03
import Derived.Laws.OwnMore
import Derived.SizedLaws
import Derived.Deep.AppendLies
import Derived.Shelf.Abstract
import Derived.OwnWalkIn
import Derived.TacticsInMore
import Derived.LoopNIn
import Derived.LoopIn
import Derived.Sort.CutIn
import Derived.Deep.RegionHeld3
import Derived.Maps.OwnIn
import Derived.Test.YtpimndkhoalaeaaGN02
import Derived.Test.YtpimndkhoalaeaaProg
import Derived.KernelRfl
import Derived.Handy
import Derived.LaidEql
import Derived.Stop.Asserts
import Derived.RowKitTokens
namespace Go.Proofs.Ytpimndkhoalaeaa
set_option linter.unusedVariables false
structure Bf (l:List Nd) (top N:Nat) (met:List Bool) (F:List Nat):Prop where
 len:met.length=N
 top' : top∈F
 each:∀ j∈F,j<l.length∧Rc l top j
 iff:∀ j,met[j]? = some true ↔ j∈F
 cnt:F.length=met.count true
def Cl (l:List Nd) (F:List Nat) (i:Nat):Prop:=∀ k (h:k<F.length),k<i→∀ j,Ed l F[k] j→j∈F
theorem Bf.le {l:List Nd} {top N:Nat} {met:List Bool} {F:List Nat} (h:Bf l top N met F):F.length≤N:=by
 rw [h.cnt,← h.len];exact List.count_le_length
theorem Bf.start {l:List Nd} {top N:Nat} (ht:top<l.length) (hN:l.length≤N):Bf l top N ((List.replicate N false).set top true) [top]:=by
 refine ⟨by simp,by simp,?_,?_,?_⟩
 ·intro j hj;simp at hj;subst hj;exact ⟨ht,Rc.refl l j⟩
 ·intro j
  rw [List.getElem?_set]
  by_cases e:top=j
  ·subst e;simp;omega
  ·simp [e,List.getElem?_replicate]
   intro h;exact e h.symm
 ·rw [List.count_set (by simp;omega),List.count_replicate]
  simp
theorem Bf.push {l:List Nd} {top N:Nat} {met:List Bool} {F:List Nat} (h:Bf l top N met F) {b:Nat} (hb:met[b]? = some false) (hl:b<l.length) (hr:Rc l top b):Bf l top N (met.set b true) (F ++ [b]):=by
 obtain ⟨hlt,hv⟩:=List.getElem?_eq_some_iff.1 hb
 refine ⟨by simp [h.len],by simp [h.top'],?_,?_,?_⟩
 ·intro j hj
  rcases List.mem_append.1 hj with q | q
  ·exact h.each j q
  ·simp at q;subst q;exact ⟨hl,hr⟩
 ·intro j
  rw [List.getElem?_set]
  by_cases e:b=j
  ·subst e;simp [hlt]
  ·rw [if_neg e,h.iff]
   simp
   intro q;exact absurd q.symm e
 ·rw [List.count_set hlt,List.length_append,h.cnt]
  simp [hv]
theorem Cl.push {l:List Nd} {F:List Nat} {i:Nat} (h:Cl l F i) (hi:i≤F.length) (b:Nat):Cl l (F ++ [b]) i:=by
 intro k hk hki j e
 rw [List.getElem_append_left (by omega)] at e
 exact List.mem_append.2 (.inl (h k (by omega) hki j e))
theorem Bf.done {l:List Nd} {top N:Nat} {met:List Bool} {F:List Nat} (h:Bf l top N met F) (hc:Cl l F F.length) (a:Nat):met[a]? = some true ↔ Rc l top a:=by
 rw [h.iff]
 refine ⟨fun q=>(h.each a q).2,fun q=>?_⟩
 refine Rc.in (S:=fun j=>j∈F) (fun i j hi e=>?_) h.top' q
 obtain ⟨k,hk,rfl⟩:=List.mem_iff_getElem.1 hi
 exact hc k hk hk j e
theorem Bf.has {l:List Nd} {top N:Nat} {met:List Bool} {F:List Nat} (h:Bf l top N met F) {a:Nat} (q:met[a]? = some true):Rc l top a:=(h.each a ((h.iff a).1 q)).2
theorem Cl.next {l:List Nd} {F:List Nat} {i:Nat} (h:Cl l F i) (hi:i<F.length) (hd:∀ z∈(if h:F[i]<l.length then downL l[F[i]] else []),z.toNat∈F):Cl l F (i+1):=by
 intro k hk hki j e
 by_cases q:k=i
 ·subst q
  obtain ⟨hlt,hm⟩:=e
  have:=hd (j:Int) (by rw [dif_pos hlt];exact hm)
  simpa using this
 ·exact h k hk (by omega) j e
end Go.Proofs.Ytpimndkhoalaeaa
namespace Go.Proofs.Ytpimndkhoalaeaa
set_option maxRecDepth 100000
set_option linter.unusedVariables false
open Go.RowKit
attribute [local go_sem ↓] Go.wp_at_zero Go.wp_at_succ
def bv (m:List Bool):List Value:=m.map Value.bool
theorem bv_set (m:List Bool) (k:Nat) (b:Bool):bv (m.set k b)=(bv m).set k (.bool b):=by simp [bv,List.map_set]
theorem ofN_snoc (F:List Nat) (b:Nat):ofN (F ++ [b])=ofN F ++ [(b:Int)]:=by simp [ofN]
structure NsAt (w:World) (g N:Nat) (l:List Nd):Prop where
 lt:g<w.heap.size
 le:l.length≤N
 big:N≤4000
 each:∀ i (hi:i<l.length),NdC (fun b=>b<w.heap.size) w g (i * 5) l[i]
 inl:InL l
 few:∀ x∈l,x.2.1.length≤6
theorem NsAt.same {w w' : World} {g N:Nat} {l:List Nd} (h:NsAt w g N l) (hk:Same0 w w'):NsAt w' g N l:=
 ⟨Nat.lt_of_lt_of_le h.lt hk.size,h.le,h.big,fun i hi=>((h.each i hi).kept h.lt hk (fun f=>f) (fun _ _ f=>f.elim)).mono (fun k _ _ e=>Nat.lt_of_lt_of_le e hk.size),h.inl,h.few⟩
theorem HpB.ns {B:Nat→Prop} {w:World} {h g room:Nat} {l:List Nd} (p:HpB B w h g room l):NsAt w g room l:=
 ⟨p.ltG,p.le,p.rm2,fun i hi=>(p.each i hi).mono (fun k hk _ _=>hk),p.inl,fun x hx=>(may_facts (p.may x hx)).2.1⟩
structure StAt' (w wr:World) (mb N:Nat) (met:List Bool) (F:List Nat) (v:Value):Prop where
 mt:wr.ownsRow w.heap.size 4 1 (.slice (some ⟨mb,0,none⟩) N N) N (bv met)
 fd:Row (mb+1) wr v (ofN F)
 kp:Same0 w wr
 lo:w.heap.size≤mb
theorem StAt'.same {w wr w' : World} {mb N:Nat} {met:List Bool} {F:List Nat} {v:Value} (h:StAt' w wr mb N met F v) (hk:Same0 wr w'):StAt' w w' mb N met F v:=
 ⟨hk.row h.mt (fun _ _ f=>f),hk.row h.fd (fun _ _ f=>f),h.kp.trans' hk,h.lo⟩
theorem StAt'.put {w wr:World} {mb N:Nat} {met:List Bool} {F:List Nat} {v:Value} (h:StAt' w wr mb N met F v) (b:Nat):StAt' w (wr.setCell ⟨mb,b,none⟩ (.bool true)) mb N (met.set b true) F v∧Kept (fun k=>k=mb) wr (wr.setCell ⟨mb,b,none⟩ (.bool true)):=by
 have K:Kept (fun k=>k=mb) wr (wr.setCell ⟨mb,b,none⟩ (.bool true)):=Kept.setCell (S:=fun k=>k=mb) (Kept.refl _ _) (p:=⟨mb,b,none⟩) (fun _=>rfl) _
 refine ⟨⟨by rw [bv_set];exact (h.mt.stored b _).1,K.row h.fd (fun k e q=>?_),h.kp.own h.lo _,h.lo⟩,K⟩
 have:=(h.fd.lt k e).1
 omega
theorem StAt'.push {w wr w4:World} {mb N:Nat} {met:List Bool} {F:List Nat} {v v' : Value} {b:Nat} (h:StAt' w wr mb N met F v) (hr:Row (mb+1) w4 v' (ofN F ++ [(b:Int)])) (hk:Kept (fun k=>v.ownBlock=some k) wr w4):StAt' w w4 mb N met (F ++ [b]) v' := by
 have lo:=h.lo
 refine ⟨hk.row h.mt (fun k e q=>?_),by rw [ofN_snoc];exact hr,h.kp.trans hk (fun i hi e=>?_),h.lo⟩
 ·have:=(h.fd.lt k q).1
  have e' : mb=k:=Option.some.inj e
  omega
 ·have:=(h.fd.lt i e).1
  omega
def marked (x:Nd) (m:Int):Nd:=(x.1,x.2.1,m,x.2.2.2.1,x.2.2.2.2)
theorem may_marked {n:Nat} {x:Nd} (h:mayB n x=true) {m:Int} (hm:0≤m∧m≤2) (hp:x.2.2.2.1=true→m=0):mayB n (marked x m)=true:=by
 unfold mayB at h ⊢
 unfold marked
 cases hq:x.2.2.2.1
 ·simp [hq] at h ⊢
  exact ⟨⟨⟨⟨h.1.1.1.1,hm.1⟩,hm.2⟩,h.1.2⟩,h.2⟩
 ·simp [hq] at h ⊢
  have:=hp hq
  subst this
  exact ⟨⟨⟨⟨h.1.1.1.1,hm.1⟩,hm.2⟩,h.1.2⟩,⟨⟨⟨h.2.1.1.1,h.2.1.1.2⟩,rfl⟩,h.2.2⟩⟩
theorem ac_same {l l' : List Nd} (h:Ac l) (hl:l'.length=l.length) (he:∀ i (h1:i<l'.length) (h2:i<l.length),downL l'[i]=downL l[i]):Ac l' := by
 obtain ⟨r,hr⟩:=h
 refine ⟨r,fun i j e=>hr i j ?_⟩
 obtain ⟨h1,h2⟩:=e
 exact ⟨by omega,by rw [he i h1 (by omega)] at h2;exact h2⟩
theorem HpB.marked {B:Nat→Prop} {w:World} {h g room:Nat} {l:List Nd} (p:HpB B w h g room l) {i:Nat} (hi:i<l.length) {m:Int} (hm:0≤m∧m≤2) (hp:l[i].2.2.2.1=true→m=0) :
  HpB B (w.setCell ⟨g,i * 5+2,none⟩ (.int .i64 m)) h g room (l.set i (Ytpimndkhoalaeaa.marked l[i] m))∧Kept (fun k=>k=g) w (w.setCell ⟨g,i * 5+2,none⟩ (.int .i64 m)):=by
 have K:Kept (fun k=>k=g) w (w.setCell ⟨g,i * 5+2,none⟩ (.int .i64 m)):=Kept.setCell (S:=fun k=>k=g) (Kept.refl _ _) (p:=⟨g,i * 5+2,none⟩) (fun _=>rfl) _
 obtain ⟨cs,h1,h2⟩:=p.blk
 have q:=setAt h1 (i * 5+2) (.int .i64 m)
 have hle:=p.le
 have gi:∀ k,k=g→NotI w k:=fun k e cur h=>by rw [e,h1] at h;cases h
 have old:∀ o,o≠i * 5+2→(w.setCell ⟨g,i * 5+2,none⟩ (.int .i64 m)).cell? ⟨g,o,none⟩=w.cell? ⟨g,o,none⟩:=fun o ho=>by
  rw [cellAt q,cellAt h1,Array.getElem?_setIfInBounds,if_neg (by omega)]
 have new:(w.setCell ⟨g,i * 5+2,none⟩ (.int .i64 m)).cell? ⟨g,i * 5+2,none⟩=some (.int .i64 m):=by
  rw [cellAt q,Array.getElem?_setIfInBounds,if_pos rfl,if_pos (by omega)]
 refine ⟨⟨by rw [List.length_set];exact K.at p.box p.ne,⟨_,q,by simpa using h2⟩,p.rm1,p.rm2,by simpa using hle,fun j hj=>?_,?_,?_⟩,K⟩
 ·have hj' : j<l.length:=by simpa using hj
  obtain ⟨ao,ac,n0,n1,n2,n3,n4,n5,n6⟩:=p.each j hj'
  by_cases e:j=i
  ·subst e
   rw [List.getElem_set_self]
   exact ⟨ao,ac,(old _ (by omega)).trans n0,(old _ (by omega)).trans n1,new,(old _ (by omega)).trans n3,(old _ (by omega)).trans n4,n5.kept K gi,n6⟩
  ·rw [List.getElem_set_ne (by omega)]
   exact ⟨ao,ac,(old _ (by omega)).trans n0,(old _ (by omega)).trans n1,(old _ (by omega)).trans n2,(old _ (by omega)).trans n3,(old _ (by omega)).trans n4,n5.kept K gi,n6⟩
 ·intro x hx
  rw [List.length_set]
  rcases List.mem_or_eq_of_mem_set hx with e | e
  ·exact p.may x e
  ·subst e;exact may_marked (p.may _ (List.getElem_mem hi)) hm hp
 ·refine ac_same p.ac (by simp) (fun j h3 h4=>?_)
  by_cases e:j=i
  ·subst e;rw [List.getElem_set_self];rfl
  ·rw [List.getElem_set_ne (by omega)]
theorem ArgT.nil (w:World):ArgT w none [] 0:=⟨⟨.inl rfl,Nat.le_refl _,fun _=>⟨rfl,rfl⟩,by simp⟩,fun a e=>by cases e⟩
abbrev indN (t:Nat):Nd:=(0,[],0,true,(t:Int))
theorem may_ind {n t:Nat} (h:t<n):mayB n (indN t)=true:=by
 unfold mayB
 simp;omega
theorem HpB.pointed {B:Nat→Prop} {w:World} {h g room:Nat} {l:List Nd} (p:HpB B w h g room l) {i t:Nat} (hi:i<l.length) (ht:t<l.length) (hn:¬ Rc l t i) :
  HpB B (put5 w g (i * 5) (.int .i64 0) (.slice none 0 0) (.int .i64 0) (.bool true) (.int .i64 (t:Int))) h g room (l.set i (indN t))∧Kept (fun k=>k=g) w (put5 w g (i * 5) (.int .i64 0) (.slice none 0 0) (.int .i64 0) (.bool true) (.int .i64 (t:Int))):=by
 have hle:=p.le
 obtain ⟨q1,q2,q3⟩:=put5_nodes (B' := B) (i:=i) (x:=indN t) (ao:=none) (ac:=0) p.blk p.each (by omega) (ArgT.nil w) (fun a e=>by cases e) (fun k e=>e)
 have K:=put5_kept w g (i * 5) (.int .i64 0) (.slice none 0 0) (.int .i64 0) (.bool true) (.int .i64 (t:Int))
 refine ⟨⟨by rw [List.length_set];exact K.at p.box p.ne,q2,p.rm1,p.rm2,by simpa using hle,fun j hj=>?_,?_,?_⟩,K⟩
 ·have hj' : j<l.length:=by simpa using hj
  by_cases e:j=i
  ·subst e;rw [List.getElem_set_self];exact q1
  ·rw [List.getElem_set_ne (by omega)];exact q3 j hj' e
 ·intro x hx
  rw [List.length_set]
  rcases List.mem_or_eq_of_mem_set hx with e | e
  ·exact p.may x e
  ·subst e;exact may_ind ht
 ·refine p.ac.point hn _ (fun j hj=>?_)
  unfold downL at hj
  simp at hj
  omega
abbrev I64 (c:Int):Prop:=-9223372036854775808≤c∧c<9223372036854775808
abbrev Hp (w:World) (h g room:Nat) (l:List Nd):Prop:=HpB (fun _=>True) w h g room l
theorem HpB.any {B:Nat→Prop} {w:World} {h g room:Nat} {l:List Nd} (p:HpB B w h g room l):Hp w h g room l:=p.mono (fun _ _ _ _=>trivial)
theorem arg_one (w:World) (z:Int):Arg (w.alloc (.cells #[.int .i64 z] 3)) (some ⟨w.heap.size,0,none⟩) [z] 1:=⟨ints_one w z,Nat.le_refl _,(fun e=>by cases e),by simp⟩
theorem Same0.heap {w w1 w2:World} (k:Same0 w w1) {h g:Nat} (hh:w.heap.size≤h) (hg:w.heap.size≤g) (k2:Kept (fun k=>k=h∨k=g) w1 w2):Same0 w w2:=k.trans k2 (fun i hi e=>by omega)
end Go.Proofs.Ytpimndkhoalaeaa
namespace Go.Proofs.Ytpimndkhoalaeaa
set_option maxRecDepth 100000
set_option linter.unusedVariables false
open Go.RowKit Go.Deep
abbrev Raw4:=Int × Int × Int × Int
def Raw4.ok (x:Raw4):Prop:=I64 x.1∧I64 x.2.1∧I64 x.2.2.1∧I64 x.2.2.2
def RawsAt (w:World) (ro:Option Addr) (rs:List Raw4):Prop:=
 rs=[]∨∃ b off,ro=some ⟨b,off,none⟩∧b<w.heap.size∧∀ i (h:i<rs.length),w.cell? ⟨b,off+i * 4,none⟩=some (.int .i64 rs[i].1)∧w.cell? ⟨b,off+i * 4+1,none⟩=some (.int .i64 rs[i].2.1)∧w.cell? ⟨b,off+i * 4+2,none⟩=some (.int .i64 rs[i].2.2.1)∧w.cell? ⟨b,off+i * 4+3,none⟩=some (.int .i64 rs[i].2.2.2)
theorem RawsAt.same {w w' : World} {ro:Option Addr} {rs:List Raw4} (h:RawsAt w ro rs) (hk:Same0 w w'):RawsAt w' ro rs:=by
 refine h.imp id ?_
 rintro ⟨b,off,rfl,hlt,hc⟩
 refine ⟨b,off,rfl,Nat.lt_of_lt_of_le hlt hk.size,fun i hi=>?_⟩
 obtain ⟨h0,h1,h2,h3⟩:=hc i hi
 exact ⟨(hk.cell (p:=⟨b,off+i * 4,none⟩) hlt (fun f=>f)).trans h0,(hk.cell (p:=⟨b,off+i * 4+1,none⟩) hlt (fun f=>f)).trans h1,(hk.cell (p:=⟨b,off+i * 4+2,none⟩) hlt (fun f=>f)).trans h2,(hk.cell (p:=⟨b,off+i * 4+3,none⟩) hlt (fun f=>f)).trans h3⟩
theorem RawsAt.get {w:World} {ro:Option Addr} {rs:List Raw4} (h:RawsAt w ro rs) {i:Nat} (hi:i<rs.length):∃ b off,ro=some ⟨b,off,none⟩∧w.cell? ⟨b,off+i * 4,none⟩=some (.int .i64 rs[i].1)∧w.cell? ⟨b,off+i * 4+1,none⟩=some (.int .i64 rs[i].2.1)∧w.cell? ⟨b,off+i * 4+2,none⟩=some (.int .i64 rs[i].2.2.1)∧w.cell? ⟨b,off+i * 4+3,none⟩=some (.int .i64 rs[i].2.2.2):=by
 rcases h with rfl | ⟨b,off,e,hlt,hc⟩
 ·simp at hi
 ·exact ⟨b,off,e,hc i hi⟩
section
variable {H : Type} {enc : TypeId × Value → H} {w : World} {spare : Nat → Bool} {held : Bool}
end
end Go.Proofs.Ytpimndkhoalaeaa
namespace Go.Proofs.Ytpimndkhoalaeaa
set_option maxRecDepth 100000
set_option linter.unusedVariables false
open Go.RowKit
attribute [local go_sem ↓] Go.wp_at_zero Go.wp_at_succ
def FullL (l:List Nd):Prop:=∀ j (h:j<l.length),l[j].2.2.2.1=false∧(1≤j→∃ t,l[j].2.1=[(j:Int)-1,t])
theorem FullL.snoc {l:List Nd} (h:FullL l) {s:Int} {xs:List Int} (hx:1≤l.length→∃ t,xs=[(l.length:Int)-1,t]):FullL (l ++ [(s,xs,0,false,0)]):=by
 intro j hj
 by_cases e:j<l.length
 ·rw [List.getElem_append_left e];exact h j e
 ·obtain rfl:j=l.length:=by simp at hj;omega
  simp
  exact hx
def NCl (B:Nat→Prop) (w:World) (vs:List Value) (l:List Nd):Prop:=
 vs.length=l.length * 5∧∀ i (h:i<l.length),∃ ao ac,vs[i * 5]? = some (.int .i64 l[i].1)∧vs[i * 5+1]? = some (.slice ao l[i].2.1.length ac)∧vs[i * 5+2]? = some (.int .i64 l[i].2.2.1)∧vs[i * 5+3]? = some (.bool l[i].2.2.2.1)∧vs[i * 5+4]? = some (.int .i64 l[i].2.2.2.2)∧ArgT w ao l[i].2.1 ac∧∀ a,ao=some a→B a.block
theorem NCl.nil (B:Nat→Prop) (w:World):NCl B w [] []:=⟨rfl,fun i h=>absurd h (Nat.not_lt_zero _)⟩
theorem NCl.kept {B S:Nat→Prop} {w w' : World} {vs:List Value} {l:List Nd} (h:NCl B w vs l) (hk:Kept S w w') (hS:∀ k,B k→S k→NotI w k):NCl B w' vs l:=by
 refine ⟨h.1,fun i hi=>?_⟩
 obtain ⟨ao,ac,h0,h1,h2,h3,h4,h5,h6⟩:=h.2 i hi
 refine ⟨ao,ac,h0,h1,h2,h3,h4,h5.kept' hk (fun a e s=>?_),h6⟩
 obtain ⟨cur,hc⟩:=h5.2 a e
 exact hS _ (h6 a e) s cur hc
theorem NCl.mono {B B' : Nat→Prop} {w:World} {vs:List Value} {l:List Nd} (h:NCl B w vs l) (hB:∀ k,k<w.heap.size→B k→B' k):NCl B' w vs l:=by
 refine ⟨h.1,fun i hi=>?_⟩
 obtain ⟨ao,ac,h0,h1,h2,h3,h4,h5,h6⟩:=h.2 i hi
 exact ⟨ao,ac,h0,h1,h2,h3,h4,h5,fun a e=>hB _ (h5.lt e) (h6 a e)⟩
theorem NCl.same {B:Nat→Prop} {w w' : World} {vs:List Value} {l:List Nd} (h:NCl B w vs l) (hk:Same0 w w'):NCl B w' vs l:=h.kept hk (fun _ _ f=>f.elim)
theorem NCl.snoc {B:Nat→Prop} {w:World} {vs:List Value} {l:List Nd} (h:NCl B w vs l) {x:Nd} {ao:Option Addr} {ac:Nat} (ha:ArgT w ao x.2.1 ac) (hb:∀ a,ao=some a→B a.block):NCl B w (vs ++ [.int .i64 x.1,.slice ao x.2.1.length ac,.int .i64 x.2.2.1,.bool x.2.2.2.1,.int .i64 x.2.2.2.2]) (l ++ [x]):=by
 refine ⟨by simp [h.1];omega,fun i hi=>?_⟩
 by_cases e:i<l.length
 ·rw [List.getElem_append_left e]
  obtain ⟨ao,ac,h0,h1,h2,h3,h4,h5,h6⟩:=h.2 i e
  have hl:=h.1
  exact ⟨ao,ac,by rw [List.getElem?_append_left (by omega)];exact h0,by rw [List.getElem?_append_left (by omega)];exact h1,by rw [List.getElem?_append_left (by omega)];exact h2,by rw [List.getElem?_append_left (by omega)];exact h3,by rw [List.getElem?_append_left (by omega)];exact h4,h5,h6⟩
 ·obtain rfl:i=l.length:=by simp at hi;omega
  have hl:=h.1
  have t:∀ j,(vs ++ [.int .i64 x.1,.slice ao x.2.1.length ac,.int .i64 x.2.2.1,.bool x.2.2.2.1,.int .i64 x.2.2.2.2])[l.length * 5+j]? = [Value.int .i64 x.1,.slice ao x.2.1.length ac,.int .i64 x.2.2.1,.bool x.2.2.2.1,.int .i64 x.2.2.2.2][j]? := fun j=>by
   rw [List.getElem?_append_right (by omega),hl,Nat.add_sub_cancel_left]
  simp only [List.getElem_append_right (Nat.le_refl _),Nat.sub_self,List.getElem_cons_zero]
  exact ⟨ao,ac,t 0,t 1,t 2,t 3,t 4,ha,hb⟩
def NRow (B:Nat→Prop) (base:Nat) (w:World) (v:Value) (l:List Nd):Prop:=∃ vs,w.ownsRow base 71 5 v l.length vs∧NCl B w vs l
theorem NRow.nil (B:Nat→Prop) (base:Nat) (w:World):NRow B base w (.slice none 0 0) []:=⟨[],World.ownsRow_nil _ _ _ _,NCl.nil B w⟩
theorem NRow.kept {B S:Nat→Prop} {base:Nat} {w w' : World} {v:Value} {l:List Nd} (h:NRow B base w v l) (hk:Kept S w w') (hn:∀ k,v.ownBlock=some k→¬ S k) (hS:∀ k,B k→S k→NotI w k):NRow B base w' v l:=by
 obtain ⟨vs,h1,h2⟩:=h
 exact ⟨vs,hk.row h1 hn,h2.kept hk hS⟩
theorem NRow.same {B:Nat→Prop} {base:Nat} {w w' : World} {v:Value} {l:List Nd} (h:NRow B base w v l) (hk:Same0 w w'):NRow B base w' v l:=h.kept hk (fun _ _ f=>f) (fun _ _ f=>f.elim)
theorem NRow.shape {B:Nat→Prop} {base:Nat} {w:World} {v:Value} {l:List Nd} (h:NRow B base w v l):∃ ao cap,v=.slice ao l.length cap:=by
 obtain ⟨vs,h1,_⟩:=h
 exact row_shape h1
theorem NRow.block {B:Nat→Prop} {base:Nat} {w:World} {v:Value} {l:List Nd} (h:NRow B base w v l) {k:Nat} (e:v.ownBlock=some k):base≤k∧k<w.heap.size∧NotI w k:=by
 obtain ⟨vs,h1,_⟩:=h
 rcases h1.2 with ⟨rfl,_⟩ | ⟨g,cap,cur,rfl,hb,hg,_⟩
 ·cases e
 ·obtain rfl:g=k:=Option.some.inj e
  exact ⟨hb,lt_of_at hg,fun c hc=>by rw [hg] at hc;cases hc⟩
def NsM (B:Nat→Prop) (w:World) (ao:Option Addr) (l:List Nd):Prop:=l=[]∨∃ b off,ao=some ⟨b,off,none⟩∧b<w.heap.size∧∀ i (hi:i<l.length),NdC B w b (off+i * 5) l[i]
theorem NsM.same {B:Nat→Prop} {w w' : World} {ao:Option Addr} {l:List Nd} (h:NsM B w ao l) (hk:Same0 w w'):NsM B w' ao l:=by
 refine h.imp id ?_
 rintro ⟨b,off,rfl,hlt,hc⟩
 exact ⟨b,off,rfl,Nat.lt_of_lt_of_le hlt hk.size,fun i hi=>(hc i hi).kept hlt hk (fun f=>f) (fun _ _ f=>f.elim)⟩
theorem NRow.mem {B:Nat→Prop} {base:Nat} {w:World} {ao:Option Addr} {cap:Nat} {l:List Nd} (h:NRow B base w (.slice ao l.length cap) l):NsM B w ao l:=by
 obtain ⟨vs,h1,h2⟩:=h
 by_cases e:l=[]
 ·exact .inl e
 ·have h1' := h1
  rcases h1.2 with ⟨q,h0⟩ | ⟨g,cap', cur,q,hb,hg,_⟩
  ·exact absurd (List.eq_nil_of_length_eq_zero h0) e
  ·cases q
   refine .inr ⟨g,0,rfl,lt_of_at hg,fun i hi=>?_⟩
   obtain ⟨ao,ac,g0,g1,g2,g3,g4,g5,g6⟩:=h2.2 i hi
   have t:∀ j u,vs[j]? = some u→w.cell? ⟨g,j,none⟩=some u:=fun j u hj=>by
    have:=h1'.cells (g:=g) rfl j u hj
    by_cases q:j=0
    ·subst q;simpa [Addr.add] using this
    ·simpa [Addr.add,q] using this
   rw [Nat.zero_add]
   exact ⟨ao,ac,t _ _ g0,t _ _ g1,t _ _ g2,t _ _ g3,t _ _ g4,g5,g6⟩
theorem NRow.onto {B:Nat→Prop} {w w0 w' : World} {v:Value} {l:List Nd} (h:Same0 w w0) (hr:NRow B w.heap.size w0 v l) (hk:Kept (fun k=>v.ownBlock=some k) w0 w'):Same0 w w' :=
 h.trans hk (fun i hi e=>by have:=(hr.block e).1;omega)
end Go.Proofs.Ytpimndkhoalaeaa
namespace Go.Proofs.Ytpimndkhoalaeaa
set_option maxRecDepth 100000
set_option linter.unusedVariables false
open Go.RowKit Go.Shelf
attribute [local go_sem] Oper.semAt_some
def tgV (x:Tg):Value:=.agg #[.bool x.1,.int .i64 x.2.1,.int .i64 x.2.2.1,.int .i64 x.2.2.2]
def TgB (w:World) (b:Nat) (l:List Tg):Prop:=
 ∃ cs,w.heap[b]? = some (.cells cs 172 (0,0))∧cs.size=l.length * 4∧∀ i (h:i<l.length),cs[i * 4]? = some (.bool l[i].1)∧cs[i * 4+1]? = some (.int .i64 l[i].2.1)∧cs[i * 4+2]? = some (.int .i64 l[i].2.2.1)∧cs[i * 4+3]? = some (.int .i64 l[i].2.2.2)
theorem TgB.kept {S:Nat→Prop} {w w' : World} {b:Nat} {l:List Tg} (h:TgB w b l) (hk:Kept S w w') (hn:¬ S b):TgB w' b l:=by
 obtain ⟨cs,h1,h2,h3⟩:=h
 exact ⟨cs,hk.at h1 hn,h2,h3⟩
theorem TgB.same {w w' : World} {b:Nat} {l:List Tg} (h:TgB w b l) (hk:Same0 w w'):TgB w' b l:=h.kept hk (fun f=>f)
theorem TgB.get {w:World} {b:Nat} {l:List Tg} (h:TgB w b l) {i:Nat} (hi:i<l.length):w.cell? ⟨b,i * 4,none⟩=some (.bool l[i].1)∧w.cell? ⟨b,i * 4+1,none⟩=some (.int .i64 l[i].2.1)∧w.cell? ⟨b,i * 4+2,none⟩=some (.int .i64 l[i].2.2.1)∧w.cell? ⟨b,i * 4+3,none⟩=some (.int .i64 l[i].2.2.2):=by
 obtain ⟨cs,h1,h2,h3⟩:=h
 obtain ⟨q0,q1,q2,q3⟩:=h3 i hi
 exact ⟨(cellAt h1 _).trans q0,(cellAt h1 _).trans q1,(cellAt h1 _).trans q2,(cellAt h1 _).trans q3⟩
def TgLk (l:List Tg) (k:Nat) (vs:Array Value) (W:World):Prop:=∃ h:l.length-1-k<l.length,vs = #[.int .i64 ((l.length-1-k:Nat):Int),tgV l[l.length-1-k]]
theorem back_in (F:Fence) (n:Nat) (hF:F.fn 97) (hro:F.round=none) (ao:Option Addr) (m cap:Nat) (w:World):CallsIn F n Try.prog 97 #[.slice ao m cap] w fun e w' => e=.returned (.func (.func 119) #[] #[.pointer (some ⟨w.heap.size,0,none⟩)])∧w' = w.alloc (.cells #[.slice ao m cap] 127):=by
 refine callsIn_of_wp Try.func97 rfl hF ?_ hro
 simp only [Try.ntmps97,List.size_toArray,List.length_cons,List.length_nil,Nat.reduceAdd,Nat.reduceSub,Array.replicate_succ,Array.replicate_zero,List.push_toArray,List.append_toArray,List.nil_append,List.cons_append]
 gi_wp2
 go_ret
 exact ⟨rfl,rfl⟩
set_option maxHeartbeats 2000000 in
theorem hands_back {n:Nat} {w:World} {b:Nat} {l:List Tg} (p:TgB w b l) {Bn cap:Nat} (hbx:w.heap[Bn]? = some (.cells #[.slice (some ⟨b,0,none⟩) l.length cap] 127 (0,0))) (hl:l.length≤1000000000000000) (hn:1≤n) :
  HandsC Fence.wide n Try.prog 119 #[.pointer (some ⟨Bn,0,none⟩)] (fun i=>i=Bn∨i=b) l.length (TgLk l) w:=by
 intro l' J Z W hW hJ hZ hY h0
 have hFn:∀ k,Fence.wide.fn k:=fun _=>trivial
 have b1:=hW.at0 hbx
 have pW:=p.same hW
 have s1:W.cell? ⟨Bn,0,none⟩=some (.slice (some ⟨b,0,none⟩) l.length cap):=cellAt b1 0
 obtain ⟨C,hC⟩:∃ C:Nat→Prop,C=fun i=>i=Bn∨i=b:=⟨_,rfl⟩
 have HC1:Hid (C Bn∧C b):=by rw [hC];exact ⟨.inl rfl,.inr rfl⟩
 have HCC:Hid (CellsOf C W):=fun i hi=>by
  rw [hC] at hi
  rcases hi with e | e
  ·exact ⟨_,_,_,e ▸ b1⟩
  ·obtain ⟨cs,q,_⟩:=pW;exact ⟨cs,_,_,e ▸ q⟩
 have HJ0:Hid (J C 0 W):=h0 C W (Kept.refl _ _) HCC.out (fun i hi=>.inr (by rw [hC] at hi;exact hi))
 clear hC h0 p hbx
 have HROW:Hid (W.heap[Bn]? = some (.cells #[.slice (some ⟨b,0,none⟩) l.length cap] 127 (0,0))∧TgB W b l):=⟨b1,pW⟩
 clear b1 pW
 refine callsIn_of_wp Try.func119 rfl trivial ?_ rfl
 simp only [Try.ntmps119,List.size_toArray,List.length_cons,List.length_nil,Nat.reduceAdd,Nat.reduceSub,Array.replicate_succ,Array.replicate_zero,List.push_toArray,List.append_toArray,List.nil_append,List.cons_append]
 gi_wp2_with fail
 gi_loopw [3] (fun i wr=>∃ k:Nat,k≤l.length∧i=.int .i64 ((l.length:Int)-1-(k:Int))∧Hid (wr.heap[Bn]? = some (.cells #[.slice (some ⟨b,0,none⟩) l.length cap] 127 (0,0))∧TgB wr b l)∧Hid (CellsOf C wr)∧Hid (J C k wr)) (fun i _=>(intOf i+1).toNat)
 case atStart=>exact ⟨0,Nat.zero_le _,by simp,HROW,HCC,HJ0⟩
 case round=>
  clear HROW HCC HJ0 s1
  obtain ⟨k,hk,rfl,HROW,HCC,HJ⟩:=hrel
  by_cases hlt:k<l.length
  ·obtain ⟨m,hm⟩:∃ m,m+k+1=l.length:=⟨l.length-1-k,by omega⟩
   have em:(l.length:Int)-1-(k:Int)=(m:Int):=by omega
   have em2:l.length-1-k=m:=by omega
   rw [em]
   have hml:m<l.length:=by omega
   have i1:(0:Int)≤(m:Int):=by omega
   have i2:(m:Int)<(l.length:Int):=by omega
   have s1:wr.cell? ⟨Bn,0,none⟩=some (.slice (some ⟨b,0,none⟩) l.length cap):=cellAt HROW.out.1 0
   obtain ⟨c0,c1,c2,c3⟩:=HROW.out.2.get hml
   obtain ⟨fn,tmps,asg,bdy,hy,hR⟩:=hY C k _ wr hlt HCC.out HJ.out ⟨by omega,rfl⟩
   simp only [em2,tgV] at hy
   gi_wp2_with fail
   refine hR.mono ?_
   rintro e w4 (⟨rfl,hj4,hk4⟩ | ⟨rfl,hz4⟩)
   rotate_left
   ·clear hR hy
    gi_wp2_with fail
    go_returns
    exact ⟨⟨_,rfl⟩,.inr hz4⟩
   have HR4:Hid (w4.heap[Bn]? = some (.cells #[.slice (some ⟨b,0,none⟩) l.length cap] 127 (0,0))∧TgB w4 b l):=⟨hk4.at HROW.out.1 (fun q=>q HC1.out.1),HROW.out.2.kept hk4 (fun q=>q HC1.out.2)⟩
   have HC4:Hid (CellsOf C w4):=HCC.out.kept hk4
   have HJ4:Hid (J C (k+1) w4):=hj4
   clear hR hy c0 c1 c2 c3 s1 hj4 hk4 HROW HCC HJ
   gi_wp2_with fail
   go_roundw
   case rel=>exact ⟨k+1,by omega,by go_num,HR4,HC4,HJ4⟩
   case measure=>simp [intOf]
  ·obtain rfl:k=l.length:=by omega
   have e0:(l.length:Int)-1-(l.length:Int) = -1:=by omega
   rw [e0]
   gi_wp2_with fail
   go_end0
   exact ⟨⟨_,rfl⟩,.inl ⟨C,HJ.out⟩⟩
end Go.Proofs.Ytpimndkhoalaeaa
namespace Go.Proofs.Ytpimndkhoalaeaa
set_option maxRecDepth 100000
set_option linter.unusedVariables false
open Go.RowKit
attribute [local go_sem ↓] Go.wp_at_zero Go.wp_at_succ
def tgT (L:List Sym) (n:Int):Tg:=(true,n,(arN L n:Int),0)
theorem info_thing:(Try.prog.info? 172).map (fun i=>(i.zero,i.size,i.bytes))=some (some (.agg #[.bool false,.int .i64 0,.int .i64 0,.int .i64 0]),4,32):=by kernel_rfl
def put4 (w:World) (g off:Nat) (v0 v1 v2 v3:Value):World:=(((w.setCell ⟨g,off,none⟩ v0).setCell ⟨g,off+1,none⟩ v1).setCell ⟨g,off+2,none⟩ v2).setCell ⟨g,off+3,none⟩ v3
theorem put4_at {w:World} {g off:Nat} {v0 v1 v2 v3:Value} {cs:Array Value} {t:TypeId} {fr:Nat × Nat} (h:w.heap[g]? = some (.cells cs t fr)):(put4 w g off v0 v1 v2 v3).heap[g]? = some (.cells ((((cs.setIfInBounds off v0).setIfInBounds (off+1) v1).setIfInBounds (off+2) v2).setIfInBounds (off+3) v3) t fr):=
 setAt (setAt (setAt (setAt h _ _) _ _) _ _) _ _
theorem put4_kept (w:World) (g off:Nat) (v0 v1 v2 v3:Value):Kept (fun k=>k=g) w (put4 w g off v0 v1 v2 v3):=by
 have t:∀ (w' : World) (o:Nat) (v:Value),Kept (fun k=>k=g) w w' → Kept (fun k=>k=g) w (w'.setCell ⟨g,o,none⟩ v):=fun w' o v h=>Kept.setCell (S:=fun k=>k=g) h (p:=⟨g,o,none⟩) (fun _=>rfl) v
 exact t _ _ _ (t _ _ _ (t _ _ _ (t _ _ _ (Kept.refl _ w))))
theorem boxT4 {w:World} {b:Nat} {v0 v1 v2 v3:Value} {t:TypeId} (h:w.heap[b]? = some (.cells #[v0,v1,v2,v3] t (0,0))):w.cell? ⟨b,0,none⟩=some v0∧w.cell? ⟨b,1,none⟩=some v1∧w.cell? ⟨b,2,none⟩=some v2∧w.cell? ⟨b,3,none⟩=some v3:=⟨cellAt h 0,cellAt h 1,cellAt h 2,cellAt h 3⟩
theorem freeT4 {w:World} {b:Nat} {cs:Array Value} {t:TypeId} (h:w.heap[b]? = some (.cells cs t (0,0))):w.frozen? ⟨b,0,none⟩=false∧w.frozen? ⟨b,1,none⟩=false∧w.frozen? ⟨b,2,none⟩=false∧w.frozen? ⟨b,3,none⟩=false:=⟨frozenAt h 0,frozenAt h 1,frozenAt h 2,frozenAt h 3⟩
def TgQ (w:World) (b n:Nat) (l:List Tg):Prop:=
 ∃ cs,w.heap[b]? = some (.cells cs 172 (0,0))∧cs.size=n * 4∧∀ i (h:i<l.length),cs[i * 4]? = some (.bool l[i].1)∧cs[i * 4+1]? = some (.int .i64 l[i].2.1)∧cs[i * 4+2]? = some (.int .i64 l[i].2.2.1)∧cs[i * 4+3]? = some (.int .i64 l[i].2.2.2)
theorem TgQ.all {w:World} {b:Nat} {l:List Tg} (h:TgQ w b l.length l):TgB w b l:=h
theorem TgQ.kept {S:Nat→Prop} {w w' : World} {b n:Nat} {l:List Tg} (h:TgQ w b n l) (hk:Kept S w w') (hn:¬ S b):TgQ w' b n l:=by
 obtain ⟨cs,h1,h2,h3⟩:=h
 exact ⟨cs,hk.at h1 hn,h2,h3⟩
theorem TgQ.same {w w' : World} {b n:Nat} {l:List Tg} (h:TgQ w b n l) (hk:Same0 w w'):TgQ w' b n l:=h.kept hk (fun f=>f)
theorem TgQ.snoc {w:World} {b n:Nat} {l:List Tg} (h:TgQ w b n l) (hl:l.length<n) (x:Tg):TgQ (put4 w b (l.length * 4) (.bool x.1) (.int .i64 x.2.1) (.int .i64 x.2.2.1) (.int .i64 x.2.2.2)) b n (l ++ [x]):=by
 obtain ⟨cs,h1,h2,h3⟩:=h
 refine ⟨_,put4_at h1,by simp [h2],fun i hi=>?_⟩
 by_cases hi' : i<l.length
 ·obtain ⟨q0,q1,q2,q3⟩:=h3 i hi'
  simp only [List.getElem_append_left hi', Array.getElem?_setIfInBounds]
  refine ⟨?_,?_,?_,?_⟩
  ·rw [if_neg (by omega),if_neg (by omega),if_neg (by omega),if_neg (by omega)];exact q0
  ·rw [if_neg (by omega),if_neg (by omega),if_neg (by omega),if_neg (by omega)];exact q1
  ·rw [if_neg (by omega),if_neg (by omega),if_neg (by omega),if_neg (by omega)];exact q2
  ·rw [if_neg (by omega),if_neg (by omega),if_neg (by omega),if_neg (by omega)];exact q3
 ·obtain rfl:i=l.length:=by simp at hi;omega
  simp only [List.getElem_concat_length,Array.getElem?_setIfInBounds,Array.size_setIfInBounds]
  refine ⟨?_,?_,?_,?_⟩
  ·rw [if_neg (by omega),if_neg (by omega),if_neg (by omega),if_pos trivial,if_pos (by omega)]
  ·rw [if_neg (by omega),if_neg (by omega),if_pos trivial,if_pos (by omega)]
  ·rw [if_neg (by omega),if_pos trivial,if_pos (by omega)]
  ·rw [if_pos trivial,if_pos (by omega)]
theorem TgQ.there {w:World} {b n:Nat} {l:List Tg} (h:TgQ w b n l) (hl:l.length<n):∃ u0 u1 u2 u3,w.cell? ⟨b,l.length * 4,none⟩=some u0∧w.cell? ⟨b,l.length * 4+1,none⟩=some u1∧w.cell? ⟨b,l.length * 4+2,none⟩=some u2∧w.cell? ⟨b,l.length * 4+3,none⟩=some u3∧∀ o,w.frozen? ⟨b,o,none⟩=false:=by
 obtain ⟨cs,h1,h2,_⟩:=h
 have t:∀ o,o<cs.size→w.cell? ⟨b,o,none⟩=some cs[o]! := fun o ho=>by rw [cellAt h1];simp [ho]
 exact ⟨_,_,_,_,t _ (by omega),t _ (by omega),t _ (by omega),t _ (by omega),fun o=>frozenAt h1 o⟩
theorem TgQ.start {w w' : World} {n:Nat} {vs:List Value} (h:w'.ownsRow w.heap.size 172 4 (.slice (some ⟨w.heap.size,0,none⟩) n n) n vs):TgQ w' w.heap.size n []:=by
 rcases h.2 with ⟨e,h0⟩ | ⟨g,cap,cur,e,hb,hg,hle,hml,hsz,ht⟩
 ·cases e
 ·simp only [Value.slice.injEq,Option.some.injEq,Addr.mk.injEq,and_true,true_and] at e
  obtain ⟨rfl,rfl⟩:=e
  exact ⟨cur,hg,hsz,fun i hi=>by simp at hi⟩
set_option maxHeartbeats 2000000 in
theorem newT_yes {n b:Nat} {w:World} {L:List Sym} (h:Sg n w b L) (i:Nat) (hi:i<L.length):Calls Try.prog 99 #[.pointer (some ⟨b,0,none⟩),.int .i64 (i:Int)] w fun e w' => e=.returned (.tuple #[tgV (tgT L (i:Int)),.int .i64 0])∧Same0 w w' := by
 have ea:=ar_of h.2 hi
 have HV:Hid (tgV (tgT L (i:Int))=.agg #[.bool true,.int .i64 (i:Int),.int .i64 L[i].ar,.int .i64 0]):=by show _=_;unfold tgV tgT;simp only;rw [ea]
 obtain ⟨⟨sv,mr,hs,hf⟩,har⟩:=h
 obtain ⟨W0,hW0⟩:∃ W0,W0=w.alloc (.cells #[.bool false,.int .i64 0,.int .i64 0,.int .i64 0] 172):=⟨_,rfl⟩
 have k0:Same0 w W0:=by rw [hW0];exact (Kept.refl _ w).alloc _
 have hb:W0.heap[w.heap.size]? = some (.cells #[.bool false,.int .i64 0,.int .i64 0,.int .i64 0] 172 (0,0)):=by rw [hW0];exact heap_alloc_new w _
 have C:=at_yes (hs.kept k0 (fun _ _ f=>f)) i hi
 have HB:Hid (∀ ww,Same0 W0 ww→ww.heap[w.heap.size]? = some (.cells #[.bool false,.int .i64 0,.int .i64 0,.int .i64 0] 172 (0,0))∧Same0 w ww):=fun ww hk=>⟨hk.at0 hb,k0.trans' hk⟩
 clear hs hf har k0 hb ea
 go_enter Try.func99,Try.ntmps99
 go_upto_region 1 with fail
 rw [← hW0]
 clear hW0
 go_upto_region 2 with (first | (go_at_call 120;refine C.mono ?_;rintro e w1 ⟨rfl,k1⟩))
 obtain ⟨X1,hX1⟩:∃ X1,X1=w1.alloc (.cells #[.string L[i].name,.int .i64 L[i].ar,.bool L[i].df] 76):=⟨_,rfl⟩
 rw [← hX1]
 obtain ⟨q,k2⟩:=HB.out X1 (by rw [hX1];exact (show Same0 W0 w1 from k1).alloc _)
 have y1:X1.cell? ⟨w1.heap.size,1,none⟩=some (.int .i64 L[i].ar):=by rw [hX1];exact cellAt (heap_alloc_new w1 _) 1
 obtain ⟨b0,b1,b2,b3⟩:=boxT4 q
 obtain ⟨g0,g1,g2,g3⟩:=freeT4 q
 clear hX1 C
 go_wp2
 have K4:=put4_kept X1 w.heap.size 0 (.bool true) (.int .i64 (i:Int)) (.int .i64 L[i].ar) (.int .i64 0)
 exact bodyPost_ret (v:=.tuple #[.agg #[.bool true,.int .i64 (i:Int),.int .i64 L[i].ar,.int .i64 0],.int .i64 0]) (by simp [results,Try.results99,go_sem,b0,b1,b2,b3]) rfl ⟨by rw [HV.out],k2.trans K4 (fun i hi e=>by omega)⟩
set_option maxHeartbeats 2000000 in
theorem newT_no {n b:Nat} {w:World} {L:List Sym} (h:Sg n w b L) (z:Int) (hz:z<0∨(L.length:Int)≤z):Calls Try.prog 99 #[.pointer (some ⟨b,0,none⟩),.int .i64 z] w fun e w' => e=.returned (.tuple #[tgV (true,z,0,0),.int .i64 14])∧Same0 w w' := by
 obtain ⟨⟨sv,mr,hs,hf⟩,har⟩:=h
 obtain ⟨W0,hW0⟩:∃ W0,W0=w.alloc (.cells #[.bool false,.int .i64 0,.int .i64 0,.int .i64 0] 172):=⟨_,rfl⟩
 have k0:Same0 w W0:=by rw [hW0];exact (Kept.refl _ w).alloc _
 have hb:W0.heap[w.heap.size]? = some (.cells #[.bool false,.int .i64 0,.int .i64 0,.int .i64 0] 172 (0,0)):=by rw [hW0];exact heap_alloc_new w _
 have C:=at_no (hs.kept k0 (fun _ _ f=>f)) z hz
 have HB:Hid (∀ ww,Same0 W0 ww→ww.heap[w.heap.size]? = some (.cells #[.bool false,.int .i64 0,.int .i64 0,.int .i64 0] 172 (0,0))∧Same0 w ww):=fun ww hk=>⟨hk.at0 hb,k0.trans' hk⟩
 clear hs hf har k0 hb
 go_enter Try.func99,Try.ntmps99
 go_upto_region 1 with fail
 rw [← hW0]
 clear hW0
 go_upto_region 2 with (first | (go_at_call 120;refine C.mono ?_;rintro e w1 ⟨rfl,k1⟩))
 obtain ⟨X1,hX1⟩:∃ X1,X1=w1.alloc (.cells #[.string ⟨#[]⟩,.int .i64 0,.bool false] 76):=⟨_,rfl⟩
 rw [← hX1]
 obtain ⟨q,k2⟩:=HB.out X1 (by rw [hX1];exact (show Same0 W0 w1 from k1).alloc _)
 have y1:X1.cell? ⟨w1.heap.size,1,none⟩=some (.int .i64 0):=by rw [hX1];exact cellAt (heap_alloc_new w1 _) 1
 obtain ⟨b0,b1,b2,b3⟩:=boxT4 q
 obtain ⟨g0,g1,g2,g3⟩:=freeT4 q
 clear hX1 C
 go_wp2
 have K4:=put4_kept X1 w.heap.size 0 (.bool true) (.int .i64 z) (.int .i64 0) (.int .i64 0)
 exact bodyPost_ret (v:=.tuple #[.agg #[.bool true,.int .i64 z,.int .i64 0,.int .i64 0],.int .i64 14]) (by simp [results,Try.results99,go_sem,b0,b1,b2,b3]) rfl ⟨rfl,k2.trans K4 (fun i hi e=>by omega)⟩
set_option maxHeartbeats 1000000 in
theorem hasRoom_any {B:Nat→Prop} {w:World} {h g room:Nat} {N:List Nd} (p:HpB B w h g room N) (c:Nat):Calls Try.prog 53 #[.pointer (some ⟨h,0,none⟩),.int .i64 (c:Int)] w fun e w' => e=.returned (.bool (decide (N.length+c≤room)))∧Same0 w w' := by
 have C1:=room_any p
 have C2:=used_any p
 have hle:=p.le
 have hr2:=p.rm2
 clear p
 by_cases hc:N.length+c≤room
 ·have H:Hid (decide (N.length+c≤room)=true):=by simp [Hid,hc]
  have i1:(c:Int)≤(room:Int)-(N.length:Int):=by omega
  go_enter Try.func53,Try.ntmps53
  go_wp2_with (first | (go_at_call 75;refine C1.mono ?_;rintro e w' ⟨rfl,rfl⟩) | (go_at_call 17;refine C2.mono ?_;rintro e w' ⟨rfl,rfl⟩))
  go_ret
  exact ⟨by rw [H.out];first | rfl | (simp;done) | (simp;omega),Kept.refl _ _⟩
 ·have H:Hid (decide (N.length+c≤room)=false):=by simp [Hid];omega
  have i1:¬ (c:Int)≤(room:Int)-(N.length:Int):=by omega
  go_enter Try.func53,Try.ntmps53
  go_wp2_with (first | (go_at_call 75;refine C1.mono ?_;rintro e w' ⟨rfl,rfl⟩) | (go_at_call 17;refine C2.mono ?_;rintro e w' ⟨rfl,rfl⟩))
  go_ret
  exact ⟨by rw [H.out];first | rfl | (simp;done) | (simp;omega),Kept.refl _ _⟩
def whyV (y:Int):Value:=if y=0 then .nilIface else .iface 30 (.int .i64 y)
def FtAt (n0:Nat) (w:World) (e:Value) (c a y:Int):Prop:=∃ b,e=.iface 119 (.pointer (some ⟨b,0,none⟩))∧n0≤b∧w.heap[b]? = some (.cells #[.int .i64 c,.int .i64 a,whyV y] 121 (0,0))
theorem full_any (w:World):Calls Try.prog 54 #[] w fun e w' => ∃ v,e=.returned v∧FtAt w.heap.size w' v 131 0 111∧Same0 w w' := by
 go_enter Try.func54,Try.ntmps54
 go_wp2
 go_ret
 exact ⟨_,rfl,⟨w.heap.size,rfl,Nat.le_refl _,heap_alloc_new w _⟩,(Kept.refl _ w).alloc _⟩
end Go.Proofs.Ytpimndkhoalaeaa
namespace Go.Proofs.Ytpimndkhoalaeaa
open Go.RowKit Go.Extern.Stop Go.Stop Go.Extern
set_option linter.unusedVariables false
set_option maxRecDepth 100000
theorem is_typeOf (v:Value) (w:World):(Extern.ReflectliteType.typeOf #[.iface 30 v]).run Try.prog w=.ok (.iface 205 (.agg #[.pointer (some ⟨0,30,none⟩)])) w:=by kernel_rfl
theorem is_comparable (w:World):(callFunc 155 #[.agg #[.pointer (some ⟨0,30,none⟩)]]).run Try.prog w=.ok (.value (.bool true)) w:=
  (@run_callFunc_extern Try.prog 155 _ (Extern.ReflectliteType.method fun t => do Extern.Rtype.noPackHeld "Comparable" t; pure (.bool (← typeInfo t).comparable)) Try.func155 (by kernel_rfl) (by kernel_rfl) (by kernel_rfl) (by kernel_rfl) _ w).trans (by kernel_rfl)
theorem is_mComparable (v : Value) (w : World) : (Go.method 348 205 v "Comparable").run Try.prog w = .ok (155, v) w := by kernel_rfl
theorem is_noIs (v:Value) (xT:TypeId) (w:World):(Instr.typeAssert (.iface 30 v) xT 207 true).run Try.prog w=.ok (.tuple #[.nilIface,.bool false]) w:=run_typeAssert_lacksB Try.underlying207 (by kernel_rfl) (by kernel_rfl) v xT w
theorem is_noUnwrap (v:Value) (xT:TypeId) (w:World):(Instr.typeAssert (.iface 30 v) xT 210 true).run Try.prog w=.ok (.tuple #[.nilIface,.bool false]) w:=run_typeAssert_lacksB Try.underlying210 (by kernel_rfl) (by kernel_rfl) v xT w
theorem is_noUnwraps (v:Value) (xT:TypeId) (w:World):(Instr.typeAssert (.iface 30 v) xT 211 true).run Try.prog w=.ok (.tuple #[.nilIface,.bool false]) w:=run_typeAssert_lacksB Try.underlying211 (by kernel_rfl) (by kernel_rfl) v xT w
theorem is_eqE (a b:Int) (w:World):(binOp .eql 35 (.iface 30 (.int .i64 a)) (.iface 30 (.int .i64 b))).run Try.prog w=.ok (.bool (a == b)) w:=by kernel_rfl
def FltAt (w:World):List (Int × Int)→Value→Prop
 | [],v=>v=.nilIface
 | (c,p) :: r,v=>(p = -1∧r=[]∧v=.iface 30 (.int .i64 c))∨(p ≠ -1∧∃ b u,v=.iface 119 (.pointer (some ⟨b,0,none⟩))∧w.heap[b]? = some (.cells #[.int .i64 c,.int .i64 p,u] 121 (0,0))∧FltAt w r u)
theorem FltAt.same {w w' : World} (hk:Same0 w w'):∀ {ws:List (Int × Int)} {v:Value},FltAt w ws v→FltAt w' ws v
 | [],_,h=>h
 | (c,p) :: r,v,h=>by
  rcases h with h | ⟨h0,b,u,h1,h2,h3⟩
  ·exact .inl h
  ·exact .inr ⟨h0,b,u,h1,hk.at0 h2,FltAt.same hk h3⟩
theorem is_one (a d:Int) (w:World):Calls Try.prog 122 #[.iface 30 (.int .i64 a),.iface 30 (.int .i64 d)] w fun e w' => e=.returned (.bool (a == d))∧w' = w:=by
 have h8:=@run_callFunc_extern Try.prog 129 _ Extern.ReflectliteType.typeOf Try.func129 (by kernel_rfl) (by kernel_rfl) (by kernel_rfl) (by kernel_rfl)
 have tT:=is_typeOf
 have cT:=is_comparable
 have mR:=is_mComparable
 have nE:=is_noIs
 have uE:=is_noUnwrap
 have vE:=is_noUnwraps
 by_cases hd:a=d
 ·subst hd
  have e1:(a == a)=true:=by simp
  have eq:=is_eqE a a
  rw [e1] at eq ⊢
  clear e1
  go_enter Try.func122,Try.ntmps122
  go_wp2
  refine wp_loop_rounds 1 ?_
  rw [rounds_succ]
  go_wp2
  go_ret
  exact ⟨rfl,rfl⟩
 ·have e1:(a == d)=false:=by simpa using hd
  have eq:=is_eqE a d
  rw [e1] at eq ⊢
  clear hd e1
  go_enter Try.func122,Try.ntmps122
  go_wp2
  refine wp_loop_rounds 1 ?_
  rw [rounds_succ]
  go_wp2
  go_ret
  exact ⟨rfl,rfl⟩
end Go.Proofs.Ytpimndkhoalaeaa
namespace Go.Proofs.Ytpimndkhoalaeaa
set_option maxRecDepth 100000
set_option linter.unusedVariables false
open Go.RowKit
attribute [local go_sem ↓] Go.wp_at_zero Go.wp_at_succ
theorem arg_any {B:Nat→Prop} {w:World} {h g room:Nat} {N:List Nd} (p:HpB B w h g room N) (a n:Int) :
  Calls Try.prog 30 #[.agg #[.pointer (some ⟨h,0,none⟩)],.int .i64 a,.int .i64 n] w fun e w' => ∃ y,e=.returned (.int .i64 y)∧ArR N a n y∧Same0 w w' := by
 by_cases ha:0≤a∧a<(N.length:Int)
 ·obtain ⟨i,rfl⟩:∃ i:Nat,a=(i:Int):=⟨a.toNat,by omega⟩
  exact arg_yes p i (by omega) n
 ·refine (arg_no p a n ha).mono ?_
  rintro e w' ⟨rfl,k⟩
  refine ⟨-1,rfl,.inr ⟨rfl,fun ⟨i,b,hb,e1,e2,_⟩=>ha ?_⟩,k⟩
  have:=e2.lt.1
  omega
set_option maxHeartbeats 2000000 in
theorem along_any {B:Nat→Prop} {w:World} {h g room:Nat} {N:List Nd} (p:HpB B w h g room N) (z:Int) {ao:Option Addr} {cap:Nat} {xs:List Int} (hx:IntsAt w ao xs) (hm:xs.length≤maxLen) :
  Calls Try.prog 121 #[.iface 79 (.agg #[.pointer (some ⟨h,0,none⟩)]),.int .i64 z,.slice ao xs.length cap] w fun e w' => ∃ y,e=.returned (.int .i64 y)∧LdR N z xs y∧Same0 w w' := by
 unfold maxLen at hm
 have mA:=sight_arg
 have HX:Hid (∀ wr,Same0 w wr→IntsAt wr ao xs):=fun wr hk=>hx.same hk
 have HA:Hid (∀ wr a n,Same0 w wr→Calls Try.prog 30 #[.agg #[.pointer (some ⟨h,0,none⟩)],.int .i64 a,.int .i64 n] wr fun e w' => ∃ y,e=.returned (.int .i64 y)∧ArR N a n y∧Same0 wr w'):=fun wr a n hk=>arg_any (p.same hk) a n
 clear p hx
 go_enter Try.func121,Try.ntmps121
 go_wp2
 go_loopw [1,11] (fun s1 s11 wr=>∃ (k:Nat) (y:Int),k≤xs.length∧s1=.int .i64 y∧s11=.int .i64 (k:Int)∧Hid (LdR N z (xs.take k) y)∧Same0 w wr) (fun _ s11 _=>xs.length-(intOf s11).toNat)
 case atStart=>exact ⟨0,z,Nat.zero_le _,rfl,rfl,by simp [Hid,LdR],Kept.refl _ _⟩
 case round=>
  obtain ⟨k,y,hk,rfl,rfl,hl,hs⟩:=hrel
  by_cases hlt:k<xs.length
  ·obtain ⟨xb,off,rfl,hxb,hxc⟩:=(HX.out wr hs).get hlt
   have i1:(0:Int)≤(k:Int):=by omega
   have i2:(k:Int)<(xs.length:Int):=by omega
   have C:=HA.out wr y xs[k] hs
   have NX:Hid (∀ u,ArR N y xs[k] u→LdR N z (xs.take (k+1)) u):=fun u hu=>by rw [List.take_succ_eq_append_getElem hlt];exact hl.out.snoc hu
   generalize xs[k]=x at *
   go_wp2_with (first | (go_at_call 30;refine C.mono ?_;rintro e w2 ⟨u,rfl,hu,k2⟩))
   refine ⟨⟨k+1,u,by omega,by go_num,by go_num,NX.out u hu,hs.trans' k2⟩,by simp [intOf];omega⟩
  ·have hl' : LdR N z xs y:=by have:=hl.out;rw [List.take_of_length_le (by omega)] at this;exact this
   go_wp2
   go_ret
   exact ⟨y,rfl,hl', hs⟩
def PtR (L:List Sym) (N:List Nd) (z:Int) (p:Int × List Int) (x:Tg) (e:Int):Prop:=
 (0≤p.1∧p.1<(L.length:Int)∧x=tgT L p.1∧e=0)∨((L.length:Int)≤p.1∧x=(true,p.1,0,0)∧e=14)∨(p.1 < -1∧x=(false,0,0,0)∧e=1) ∨
 (p.1 = -1∧LdR N z p.2 (-1)∧x=(false,0,0,0)∧e=112)∨(p.1 = -1∧∃ y,LdR N z p.2 y∧y ≠ -1∧x=(false,0,0,y)∧e=0)
set_option maxHeartbeats 4000000 in
theorem part_any {B:Nat→Prop} {n sb:Nat} {L:List Sym} {w:World} {h g room:Nat} {N:List Nd} (hs:Sg n w sb L) (p:HpB B w h g room N) (z s:Int) {ao:Option Addr} {cap:Nat} {xs:List Int} (hx:IntsAt w ao xs) (hm:xs.length≤maxLen) :
  Calls Try.prog 102 #[.pointer (some ⟨sb,0,none⟩),.agg #[.int .i64 s,.slice ao xs.length cap],.iface 79 (.agg #[.pointer (some ⟨h,0,none⟩)]),.int .i64 z] w fun e w' => ∃ x c,e=.returned (.tuple #[tgV x,.int .i64 c])∧PtR L N z (s,xs) x c∧Same0 w w' := by
 obtain ⟨W0,hW0⟩:∃ W0,W0=(w.alloc (.cells #[.int .i64 s,.slice ao xs.length cap] 52)).alloc (.cells #[.bool false,.int .i64 0,.int .i64 0,.int .i64 0] 172):=⟨_,rfl⟩
 have k0:Same0 w W0:=by rw [hW0];exact ((Kept.refl _ w).alloc _).alloc _
 have h0:W0.heap[w.heap.size]? = some (.cells #[.int .i64 s,.slice ao xs.length cap] 52 (0,0)):=by
  rw [hW0,heap_alloc_old _ _ (by simp)];exact heap_alloc_new w _
 have h1:W0.heap[w.heap.size+1]? = some (.cells #[.bool false,.int .i64 0,.int .i64 0,.int .i64 0] 172 (0,0)):=by
  rw [hW0]
  have:=heap_alloc_new (w.alloc (.cells #[.int .i64 s,.slice ao xs.length cap] 52)) (.cells #[.bool false,.int .i64 0,.int .i64 0,.int .i64 0] 172)
  simpa using this
 have c0:W0.cell? ⟨w.heap.size,0,none⟩=some (.int .i64 s):=cellAt h0 0
 have c1:W0.cell? ⟨w.heap.size,1,none⟩=some (.slice ao xs.length cap):=cellAt h0 1
 have FIN:Hid (∀ ww x c,Same0 W0 ww→PtR L N z (s,xs) x c→∀ w', w' = put4 ww (w.heap.size+1) 0 (.bool x.1) (.int .i64 x.2.1) (.int .i64 x.2.2.1) (.int .i64 x.2.2.2)→∃ x' c', Ending.returned (.tuple #[tgV x,.int .i64 c])=.returned (.tuple #[tgV x', .int .i64 c'])∧PtR L N z (s,xs) x' c' ∧ Same0 w w'):=fun ww x c hk hp w' hw=>⟨x,c,rfl,hp,by rw [hw];exact (k0.trans' hk).trans (put4_kept _ _ _ _ _ _ _) (fun i hi e=>by omega)⟩
 have HB:Hid (∀ ww,Same0 W0 ww→ww.heap[w.heap.size+1]? = some (.cells #[.bool false,.int .i64 0,.int .i64 0,.int .i64 0] 172 (0,0))):=fun ww hk=>hk.at0 h1
 have hs0:=hs.same k0
 have p0:=p.same k0
 have hx0:=hx.same k0
 have q0:=HB.out W0 (Kept.refl _ _)
 obtain ⟨b0,b1,b2,b3⟩:=boxT4 q0
 obtain ⟨g0,g1,g2,g3⟩:=freeT4 q0
 clear hs p hx h0 h1 q0
 by_cases hs1:0≤s
 ·by_cases hs2:s<(L.length:Int)
  ·obtain ⟨i,rfl⟩:∃ i:Nat,s=(i:Int):=⟨s.toNat,by omega⟩
   have C:=newT_yes hs0 i (by omega)
   have HP:Hid (PtR L N z ((i:Int),xs) (tgT L (i:Int)) 0):=.inl ⟨hs1,hs2,rfl,rfl⟩
   generalize tgT L (i:Int)=x at *
   clear hs0 p0 hx0 b0 b1 b2 b3 g0 g1 g2 g3
   go_enter Try.func102,Try.ntmps102
   go_upto_region 1 with fail
   rw [← hW0]
   clear hW0
   go_wp2_with (first | (go_at_call 99;refine C.mono ?_;rintro e w2 ⟨rfl,k2⟩;obtain ⟨b0,b1,b2,b3⟩:=boxT4 (HB.out w2 k2);obtain ⟨g0,g1,g2,g3⟩:=freeT4 (HB.out w2 k2);simp only [tgV]))
   exact bodyPost_ret (v:=.tuple #[tgV x,.int .i64 0]) (by simp [results,Try.results102,go_sem,b0,b1,b2,b3,tgV]) rfl (FIN.out w2 x 0 k2 HP.out _ rfl)
  ·have C:=newT_no hs0 s (.inr (by omega))
   have HP:Hid (PtR L N z (s,xs) (true,s,0,0) 14):=.inr (.inl ⟨by show _≤s;omega,rfl,rfl⟩)
   clear hs0 p0 hx0 b0 b1 b2 b3 g0 g1 g2 g3 hs2
   go_enter Try.func102,Try.ntmps102
   go_upto_region 1 with fail
   rw [← hW0]
   clear hW0
   go_wp2_with (first | (go_at_call 99;refine C.mono ?_;rintro e w2 ⟨rfl,k2⟩;obtain ⟨b0,b1,b2,b3⟩:=boxT4 (HB.out w2 k2);obtain ⟨g0,g1,g2,g3⟩:=freeT4 (HB.out w2 k2);simp only [tgV]))
   exact bodyPost_ret (v:=.tuple #[tgV (true,s,0,0),.int .i64 14]) (by simp [results,Try.results102,go_sem,b0,b1,b2,b3,tgV]) rfl (FIN.out w2 (true,s,0,0) 14 k2 HP.out _ rfl)
 ·by_cases hs2:s < -1
  ·have HP:Hid (PtR L N z (s,xs) (false,0,0,0) 1):=.inr (.inr (.inl ⟨hs2,rfl,rfl⟩))
   have CC:Calls Try.prog 102 #[.pointer (some ⟨sb,0,none⟩),.agg #[.int .i64 s,.slice ao xs.length cap],.iface 79 (.agg #[.pointer (some ⟨h,0,none⟩)]),.int .i64 z] w fun e w' => e=.returned (.tuple #[tgV (false,0,0,0),.int .i64 1])∧Same0 w w' := by
    have K4:Hid (Same0 w (put4 W0 (w.heap.size+1) 0 (.bool false) (.int .i64 0) (.int .i64 0) (.int .i64 0))):=k0.trans (put4_kept _ _ _ _ _ _ _) (fun i hi e=>by omega)
    clear hs0 p0 hx0 HP FIN HB k0 hs1
    go_enter Try.func102,Try.ntmps102
    go_upto_region 1 with fail
    rw [← hW0]
    clear hW0
    go_wp2
    exact bodyPost_ret (v:=.tuple #[tgV (false,0,0,0),.int .i64 1]) (by simp [results,Try.results102,go_sem,b0,b1,b2,b3,tgV]) rfl ⟨rfl,K4.out⟩
   refine CC.mono ?_
   rintro e w' ⟨rfl,k⟩
   exact ⟨_,_,rfl,HP.out,k⟩
  ·obtain rfl:s = -1:=by omega
   have C:=along_any (cap:=cap) p0 z hx0 hm
   clear hs0 p0 hx0 b0 b1 b2 b3 g0 g1 g2 g3 hs1 hs2
   go_enter Try.func102,Try.ntmps102
   go_upto_region 1 with fail
   rw [← hW0]
   clear hW0
   go_upto_region 6 with (first | (go_at_call 121;refine C.mono ?_;rintro e w2 ⟨y,rfl,hy,k2⟩))
   obtain ⟨b0,b1,b2,b3⟩:=boxT4 (HB.out w2 k2)
   obtain ⟨g0,g1,g2,g3⟩:=freeT4 (HB.out w2 k2)
   by_cases hy1:y = -1
   ·subst hy1
    have HP:Hid (PtR L N z (-1,xs) (false,0,0,0) 112):=.inr (.inr (.inr (.inl ⟨rfl,hy,rfl,rfl⟩)))
    go_wp2
    exact bodyPost_ret (v:=.tuple #[tgV (false,0,0,0),.int .i64 112]) (by simp [results,Try.results102,go_sem,b0,b1,b2,b3,tgV]) rfl (FIN.out w2 (false,0,0,0) 112 k2 HP.out _ rfl)
   ·have HP:Hid (PtR L N z (-1,xs) (false,0,0,y) 0):=.inr (.inr (.inr (.inr ⟨rfl,y,hy,hy1,rfl,rfl⟩)))
    have d1:(y == -1)=false:=by simpa using hy1
    go_wp2
    exact bodyPost_ret (v:=.tuple #[tgV (false,0,0,y),.int .i64 0]) (by simp [results,Try.results102,go_sem,b0,b1,b2,b3,tgV]) rfl (FIN.out w2 (false,0,0,y) 0 k2 HP.out _ rfl)
set_option maxHeartbeats 2000000 in
theorem nothing_sym (k:Int) (w:World):Calls Try.prog 103 #[.int .i64 k,.iface 30 (.int .i64 14)] w fun e w' => ∃ v,e=.returned v∧FtAt w.heap.size w' v 132 k 14∧Same0 w w' := by
 obtain ⟨W0,hW0⟩:∃ W0,W0=w.alloc (.cells #[.int .i64 132,.int .i64 k,.nilIface] 121):=⟨_,rfl⟩
 have k0:Same0 w W0:=by rw [hW0];exact (Kept.refl _ w).alloc _
 have h0:W0.heap[w.heap.size]? = some (.cells #[.int .i64 132,.int .i64 k,.nilIface] 121 (0,0)):=by rw [hW0];exact heap_alloc_new w _
 have C:=is_one 14 14 W0
 have f2:=frozenAt h0 2
 have c2:W0.cell? ⟨w.heap.size,2,none⟩=some .nilIface:=cellAt h0 2
 have e1:((14:Int) == 14)=true:=by decide
 rw [e1] at C
 have HF:Hid (FtAt w.heap.size (W0.setCell ⟨w.heap.size,2,none⟩ (.iface 30 (.int .i64 14))) (.iface 119 (.pointer (some ⟨w.heap.size,0,none⟩))) 132 k 14∧Same0 w (W0.setCell ⟨w.heap.size,2,none⟩ (.iface 30 (.int .i64 14)))):=by
  refine ⟨⟨w.heap.size,rfl,Nat.le_refl _,?_⟩,?_⟩
  ·have:=setAt h0 2 (.iface 30 (.int .i64 14))
   simpa [whyV] using this
  ·exact k0.trans (Kept.setCell (S:=fun q=>q=w.heap.size) (Kept.refl _ _) (p:=⟨w.heap.size,2,none⟩) (fun _=>rfl) _) (fun i hi e=>by omega)
 clear h0 k0
 go_enter Try.func103,Try.ntmps103
 go_upto_region 2 with fail
 rw [← hW0]
 clear hW0
 go_wp2_with (first | (go_at_call 122;refine C.mono ?_;rintro e w' ⟨rfl,rfl⟩))
 go_ret
 exact ⟨_,rfl,HF.out.1,HF.out.2⟩
set_option maxHeartbeats 2000000 in
theorem nothing_else (k e0:Int) (he:e0≠14) (w:World):Calls Try.prog 103 #[.int .i64 k,.iface 30 (.int .i64 e0)] w fun e w' => ∃ v,e=.returned v∧FtAt w.heap.size w' v 132 k 0∧Same0 w w' := by
 obtain ⟨W0,hW0⟩:∃ W0,W0=w.alloc (.cells #[.int .i64 132,.int .i64 k,.nilIface] 121):=⟨_,rfl⟩
 have k0:Same0 w W0:=by rw [hW0];exact (Kept.refl _ w).alloc _
 have h0:W0.heap[w.heap.size]? = some (.cells #[.int .i64 132,.int .i64 k,.nilIface] 121 (0,0)):=by rw [hW0];exact heap_alloc_new w _
 have C:=is_one e0 14 W0
 have e1:(e0 == 14)=false:=by simpa using he
 rw [e1] at C
 have HF:Hid (FtAt w.heap.size W0 (.iface 119 (.pointer (some ⟨w.heap.size,0,none⟩))) 132 k 0∧Same0 w W0):=⟨⟨w.heap.size,rfl,Nat.le_refl _,h0⟩,k0⟩
 clear h0 k0 he e1
 go_enter Try.func103,Try.ntmps103
 go_upto_region 2 with fail
 rw [← hW0]
 clear hW0
 go_wp2_with (first | (go_at_call 122;refine C.mono ?_;rintro e w' ⟨rfl,rfl⟩))
 go_ret
 exact ⟨_,rfl,HF.out.1,HF.out.2⟩
theorem nothing_any (k e0:Int) (w:World):Calls Try.prog 103 #[.int .i64 k,.iface 30 (.int .i64 e0)] w fun e w' => ∃ v,e=.returned v∧FtAt w.heap.size w' v 132 k (if e0=14 then 14 else 0)∧Same0 w w' := by
 by_cases he:e0=14
 ·subst he;exact nothing_sym k w
 ·rw [if_neg he];exact nothing_else k e0 he w
def PaAt (w:World) (go:Option Addr) (Q:List (Int × List Int)):Prop:=
 Q=[]∨∃ b off,go=some ⟨b,off,none⟩∧b<w.heap.size∧∀ j (hj:j<Q.length),∃ ao ac,w.cell? ⟨b,off+j * 2,none⟩=some (.int .i64 Q[j].1)∧w.cell? ⟨b,off+j * 2+1,none⟩=some (.slice ao Q[j].2.length ac)∧IntsAt w ao Q[j].2∧Q[j].2.length≤maxLen
theorem PaAt.same {w w' : World} {go:Option Addr} {Q:List (Int × List Int)} (h:PaAt w go Q) (hk:Same0 w w'):PaAt w' go Q:=by
 refine h.imp id ?_
 rintro ⟨b,off,e,hb,hc⟩
 refine ⟨b,off,e,Nat.lt_of_lt_of_le hb hk.size,fun j hj=>?_⟩
 obtain ⟨ao,ac,d0,d1,d2,d3⟩:=hc j hj
 exact ⟨ao,ac,(hk.cell (p:=⟨b,off+j * 2,none⟩) hb (fun f=>f)).trans d0,(hk.cell (p:=⟨b,off+j * 2+1,none⟩) hb (fun f=>f)).trans d1,d2.same hk,d3⟩
def AllP (L:List Sym) (N:List Nd) (z:Int) (Q:List (Int × List Int)) (l:List Tg):Prop:=l.length=Q.length∧∀ i (h:i<Q.length) (h' : i<l.length),PtR L N z Q[i] l[i] 0
def BadP (L:List Sym) (N:List Nd) (z:Int) (Q:List (Int × List Int)) (k:Nat) (c:Int):Prop:=
 c≠0∧∃ (l:List Tg) (hk:k<Q.length) (x:Tg),l.length=k∧(∀ i (h:i<Q.length) (h' : i<l.length),PtR L N z Q[i] l[i] 0)∧PtR L N z Q[k] x c
def PtsOut (L:List Sym) (N:List Nd) (z:Int) (Q:List (Int × List Int)) (w:World) (e:Ending) (w' : World):Prop:=
 (∃ l tb,e=.returned (.tuple #[.slice (some ⟨tb,0,none⟩) Q.length Q.length,.nilIface])∧AllP L N z Q l∧w.heap.size≤tb∧TgB w' tb l∧Same0 w w') ∨
 (∃ k c v,e=.returned (.tuple #[.slice none 0 0,v])∧BadP L N z Q k c∧FtAt w.heap.size w' v 132 (k:Int) (if c=14 then 14 else 0)∧Same0 w w')
theorem FtAt.from {n0 n1:Nat} {w:World} {v:Value} {c a y:Int} (h:FtAt n1 w v c a y) (hn:n0≤n1):FtAt n0 w v c a y:=by
 obtain ⟨b,h1,h2,h3⟩:=h
 exact ⟨b,h1,Nat.le_trans hn h2,h3⟩
set_option maxHeartbeats 4000000 in
theorem parts_any {B:Nat→Prop} {n sb:Nat} {L:List Sym} {w:World} {h g room:Nat} {N:List Nd} (hs:Sg n w sb L) (p:HpB B w h g room N) (z:Int) {go:Option Addr} {gc:Nat} {Q:List (Int × List Int)} (hq:PaAt w go Q) (hl:Q.length≤4398046511104) :
  Calls Try.prog 62 #[.pointer (some ⟨sb,0,none⟩),.slice go Q.length gc,.iface 79 (.agg #[.pointer (some ⟨h,0,none⟩)]),.int .i64 z] w fun e w' => PtsOut L N z Q w e w' := by
 obtain ⟨i0,hi0,hz0,hz1,hz2⟩:=info_parts info_thing
 have HQ:Hid (∀ wr,Same0 w wr→PaAt wr go Q):=fun wr hk=>hq.same hk
 have HP:Hid (∀ wr (s:Int) (ao:Option Addr) (cap:Nat) (xs:List Int),Same0 w wr→IntsAt wr ao xs→xs.length≤maxLen→Calls Try.prog 102 #[.pointer (some ⟨sb,0,none⟩),.agg #[.int .i64 s,.slice ao xs.length cap],.iface 79 (.agg #[.pointer (some ⟨h,0,none⟩)]),.int .i64 z] wr fun e w' => ∃ x c,e=.returned (.tuple #[tgV x,.int .i64 c])∧PtR L N z (s,xs) x c∧Same0 wr w'):=fun wr s ao cap xs hk hx hm=>part_any (hs.same hk) (p.same hk) z s hx hm
 clear hs p hq
 go_enter Try.func62,Try.ntmps62
 go_wp2_with (first | (at_make;refine wpList_make_full _ rfl _ _ 127 rfl w.heap.size 172 i0 _ 4 Try.underlying127 hi0 hz0 hz1 _ _ _ _ Q.length rfl rfl rfl rfl (by rw [hz2];omega) (by unfold maxLen;omega) (Nat.le_refl _) ?_;intro w1 hown hgrow))
 have K1:Same0 w w1:=Same0.grown (Kept.refl _ w) hgrow
 have HT:Hid (TgQ w1 w.heap.size Q.length []):=TgQ.start hown
 clear hown hgrow
 go_loopw [20] (fun s20 wr=>∃ (k:Nat) (l:List Tg),k≤Q.length∧s20=.int .i64 (k:Int)∧Hid (l.length=k∧TgQ wr w.heap.size Q.length l∧∀ i (h:i<Q.length) (h' : i<l.length),PtR L N z Q[i] l[i] 0)∧Same0 w wr) (fun s20 _=>Q.length-(intOf s20).toNat)
 case atStart=>exact ⟨0,[],Nat.zero_le _,rfl,⟨rfl,HT.out,fun i h h' => by simp at h'⟩,K1⟩
 case round=>
  clear HT K1
  obtain ⟨k,l,hk,rfl,hl2,hs⟩:=hrel
  by_cases hlt:k<Q.length
  ·obtain ⟨xb,off,rfl,hxb,hxc⟩:=(HQ.out wr hs).resolve_left (fun e=>by rw [e] at hlt;simp at hlt)
   obtain ⟨ao,ac,d0,d1,d2,d3⟩:=hxc k hlt
   have i1:(0:Int)≤(k:Int):=by omega
   have i2:(k:Int)<(Q.length:Int):=by omega
   have ka:Same0 wr (wr.alloc (.cells #[.int .i64 Q[k].1,.slice ao Q[k].2.length ac] 52)):=(Kept.refl _ _).alloc _
   have C:=HP.out (wr.alloc (.cells #[.int .i64 Q[k].1,.slice ao Q[k].2.length ac] 52)) Q[k].1 ao ac Q[k].2 (hs.trans' ka) (d2.same ka) d3
   have BAD:Hid (∀ w2 x c v w4,Same0 (wr.alloc (.cells #[.int .i64 Q[k].1,.slice ao Q[k].2.length ac] 52)) w2→PtR L N z (Q[k].1,Q[k].2) x c→c≠0→FtAt w2.heap.size w4 v 132 (k:Int) (if c=14 then 14 else 0)→Same0 w2 w4→PtsOut L N z Q w (.returned (.tuple #[.slice none 0 0,v])) w4):=fun w2 x c v w4 k2 hp hc hf k4=>
    .inr ⟨k,c,v,rfl,⟨hc,l,hlt,x,hl2.out.1,hl2.out.2.2,hp⟩,hf.from ((hs.trans' ka).trans' k2).size,((hs.trans' ka).trans' k2).trans' k4⟩
   have NX:Hid (∀ w2 x,Same0 (wr.alloc (.cells #[.int .i64 Q[k].1,.slice ao Q[k].2.length ac] 52)) w2→PtR L N z (Q[k].1,Q[k].2) x 0→(∃ u0 u1 u2 u3,w2.cell? ⟨w.heap.size,k * 4,none⟩=some u0∧w2.cell? ⟨w.heap.size,k * 4+1,none⟩=some u1∧w2.cell? ⟨w.heap.size,k * 4+2,none⟩=some u2∧w2.cell? ⟨w.heap.size,k * 4+3,none⟩=some u3∧∀ o,w2.frozen? ⟨w.heap.size,o,none⟩=false)∧((l ++ [x]).length=k+1∧TgQ (put4 w2 w.heap.size (k * 4) (.bool x.1) (.int .i64 x.2.1) (.int .i64 x.2.2.1) (.int .i64 x.2.2.2)) w.heap.size Q.length (l ++ [x])∧∀ i (h:i<Q.length) (h' : i<(l ++ [x]).length),PtR L N z Q[i] (l ++ [x])[i] 0)∧Same0 w (put4 w2 w.heap.size (k * 4) (.bool x.1) (.int .i64 x.2.1) (.int .i64 x.2.2.1) (.int .i64 x.2.2.2))):=fun w2 x k2 hp=>by
    obtain ⟨e1,e2,e3⟩:=hl2.out
    have q2:=e2.same (ka.trans' k2)
    have th:=q2.there (by omega)
    have sn:=q2.snoc (by omega) x
    rw [e1] at th sn
    refine ⟨th,⟨by simp [e1],sn,fun i h h' => ?_⟩,((hs.trans' ka).trans' k2).trans (put4_kept _ _ _ _ _ _ _) (fun i hi e=>by omega)⟩
    by_cases hi:i<l.length
    ·rw [List.getElem_append_left hi];exact e3 i h hi
    ·obtain rfl:i=l.length:=by simp at h'; omega
     rw [List.getElem_concat_length rfl]
     simp only [e1]
     exact hp
   clear d2 d3 hxc hl2 HP
   generalize Q[k].1=q1 at *
   generalize Q[k].2=q2 at *
   go_upto_region 6 with (first | (go_at_call 102;refine C.mono ?_;rintro e w2 ⟨x,c,rfl,hp,k2⟩;simp only [tgV]))
   obtain ⟨X2,hX2⟩:∃ X2,X2=w2.alloc (.cells #[.bool x.1,.int .i64 x.2.1,.int .i64 x.2.2.1,.int .i64 x.2.2.2] 172):=⟨_,rfl⟩
   have kx:Same0 w2 X2:=by rw [hX2];exact (Kept.refl _ _).alloc _
   obtain ⟨y0,y1,y2,y3⟩:=boxT4 (show X2.heap[w2.heap.size]? = some (.cells #[.bool x.1,.int .i64 x.2.1,.int .i64 x.2.2.1,.int .i64 x.2.2.2] 172 (0,0)) by rw [hX2];exact heap_alloc_new _ _)
   rw [← hX2]
   clear hX2 C d0 d1
   by_cases hc:c=0
   ·subst hc
    obtain ⟨⟨u0,u1,u2,u3,d0,d1,d2,d3,fz⟩,n1,n2⟩:=NX.out X2 x (k2.trans' kx) hp
    have f0:=fz (k * 4)
    have f1:=fz (k * 4+1)
    have f2:=fz (k * 4+2)
    have f3:=fz (k * 4+3)
    have HN:Hid ((l ++ [x]).length=k+1∧TgQ (put4 X2 w.heap.size (k * 4) (.bool x.1) (.int .i64 x.2.1) (.int .i64 x.2.2.1) (.int .i64 x.2.2.2)) w.heap.size Q.length (l ++ [x])∧∀ i (h:i<Q.length) (h' : i<(l ++ [x]).length),PtR L N z Q[i] (l ++ [x])[i] 0):=n1
    clear n1 fz BAD NX
    go_wp2
    refine ⟨⟨k+1,l ++ [x],by omega,by go_num,HN,n2⟩,by simp [intOf];omega⟩
   ·have CN:=nothing_any (k:Int) c X2
    have HB:Hid (∀ v w4,FtAt X2.heap.size w4 v 132 (k:Int) (if c=14 then 14 else 0)→Same0 X2 w4→PtsOut L N z Q w (.returned (.tuple #[.slice none 0 0,v])) w4):=fun v w4 h1 h2=>BAD.out X2 x c v w4 (k2.trans' kx) hp hc h1 h2
    have d1:(c == 0)=false:=by simpa using hc
    clear BAD NX
    generalize (if c=14 then (14:Int) else 0)=yy at *
    go_wp2_with (first | (go_at_call 103;refine CN.mono ?_;rintro e w4 ⟨v,rfl,hf,k4⟩))
    go_ret2
    exact HB.out v w4 hf k4
  ·obtain rfl:k=Q.length:=by omega
   obtain ⟨e1,e2,e3⟩:=hl2.out
   have FIN:Hid (PtsOut L N z Q w (.returned (.tuple #[.slice (some ⟨w.heap.size,0,none⟩) Q.length Q.length,.nilIface])) wr):=.inl ⟨l,w.heap.size,rfl,⟨e1,e3⟩,Nat.le_refl _,by rw [← e1] at e2;exact e2.all,hs⟩
   clear e1 e2 e3 hl2
   go_wp2
   go_ret2
   exact FIN.out
end Go.Proofs.Ytpimndkhoalaeaa
