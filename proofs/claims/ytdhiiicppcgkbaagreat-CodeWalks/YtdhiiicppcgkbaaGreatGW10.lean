import Derived.Test.YtdhiiicppcgkbaaGreatGW09
import Derived.Test.YtdhiiicppcgkbaaGreatGW04
import Derived.Test.YtdhiiicppcgkbaaGreatGW05
import Derived.Test.YtdhiiicppcgkbaaGreatGW06
import Derived.Test.YtdhiiicppcgkbaaGreatGW08
namespace Go.Proofs.YtdhiiicppcgkbaaGreat
set_option maxRecDepth 100000
set_option linter.unusedVariables false
open Go.RowKit
theorem ofN_len (l:List Nat):(ofN l).length=l.length:=by simp [ofN]
def ArgT (w:World) (ao:Option Addr) (xs:List Int) (cap:Nat):Prop:=Arg w ao xs cap∧∀ a,ao=some a→∃ cur,w.heap[a.block]? = some (.cells cur 3 (0,0))
theorem ArgT.kept {w w' : World} {ao:Option Addr} {xs:List Int} {cap:Nat} {S:Nat→Prop} (h:ArgT w ao xs cap) (hk:Kept S w w') (hS:∀ k,S k→∀ cur,w.heap[k]? ≠ some (.cells cur 3 (0,0))):ArgT w' ao xs cap:=by
 have ne:∀ a,ao=some a→¬ S a.block:=fun a e s=>by
  obtain ⟨cur,hc⟩:=h.2 a e
  exact hS _ s cur hc
 refine ⟨⟨h.1.at'.kept hk ne,h.1.cap', h.1.nil,h.1.size⟩,fun a e=>?_⟩
 obtain ⟨cur,hc⟩:=h.2 a e
 exact ⟨cur,hk.at hc (ne a e)⟩
theorem ArgT.same {w w' : World} {ao:Option Addr} {xs:List Int} {cap:Nat} (h:ArgT w ao xs cap) (hk:Same0 w w'):ArgT w' ao xs cap:=h.kept hk (fun _ f=>f.elim)
theorem Row.arg {base:Nat} {w:World} {v:Value} {xs:List Int} (h:Row base w v xs) (hl:xs.length≤100000):∃ ao ac,v=.slice ao xs.length ac∧ArgT w ao xs ac∧∀ a,ao=some a→base≤a.block:=by
 obtain ⟨ao,ac,e,h1,h2,h3⟩:=h.ints
 rcases h.2 with ⟨e2,h0⟩ | ⟨g,cap,cur,e2,hb,hg,hle,_⟩
 ·rw [e] at e2
  simp only [Value.slice.injEq] at e2
  obtain ⟨rfl,_,rfl⟩:=e2
  exact ⟨none,0,e,⟨⟨h1,by omega,fun _=>⟨h0,rfl⟩,by omega⟩,fun a e=>by cases e⟩,fun a e=>by cases e⟩
 ·rw [e] at e2
  simp only [Value.slice.injEq] at e2
  obtain ⟨rfl,_,rfl⟩:=e2
  exact ⟨_,ac,e,⟨⟨h1,hle,(fun e=>by cases e),by omega⟩,fun a e=>by cases e;exact ⟨cur,hg⟩⟩,fun a e=>by cases e;exact hb⟩
def NdB (w:World) (k:Nat):Prop:=∃ cur,w.heap[k]? = some (.cells cur 163 (0,0))
theorem ArgT.keptN {w w' : World} {ao:Option Addr} {xs:List Int} {cap:Nat} {S:Nat→Prop} (h:ArgT w ao xs cap) (hk:Kept S w w') (hS:∀ k,S k→NdB w k):ArgT w' ao xs cap:=
 h.kept hk (fun k e cur hc=>by obtain ⟨c,h2⟩:=hS k e;rw [hc] at h2;cases h2)
def PsAt (w:World) (po:Option Addr) (P:List (List Int)):Prop:=
 P=[]∨∃ b off,po=some ⟨b,off,none⟩∧(∃ cur,w.heap[b]? = some (.cells cur 22 (0,0)))∧∀ i (h:i<P.length),∃ ao ac,w.cell? ⟨b,off+i,none⟩=some (.slice ao P[i].length ac)∧ArgT w ao P[i] ac
theorem PsAt.keptN {w w' : World} {po:Option Addr} {P:List (List Int)} {S:Nat→Prop} (h:PsAt w po P) (hk:Kept S w w') (hS:∀ k,S k→NdB w k):PsAt w' po P:=by
 refine h.imp id ?_
 rintro ⟨b,off,rfl,⟨cur,hb⟩,hc⟩
 have nb:¬ S b:=fun e=>by obtain ⟨c,h2⟩:=hS b e;rw [hb] at h2;cases h2
 refine ⟨b,off,rfl,⟨cur,hk.at hb nb⟩,fun i hi=>?_⟩
 obtain ⟨ao,ac,h1,h2⟩:=hc i hi
 exact ⟨ao,ac,(hk.cell (p:=⟨b,off+i,none⟩) (lt_of_at hb) nb).trans h1,h2.keptN hk hS⟩
theorem PsAt.same {w w' : World} {po:Option Addr} {P:List (List Int)} (h:PsAt w po P) (hk:Same0 w w'):PsAt w' po P:=h.keptN hk (fun _ f=>f.elim)
theorem PsAt.get {w:World} {po:Option Addr} {P:List (List Int)} (h:PsAt w po P) {i:Nat} (hi:i<P.length):∃ b off ao ac,po=some ⟨b,off,none⟩∧b<w.heap.size∧w.cell? ⟨b,off+i,none⟩=some (.slice ao P[i].length ac)∧ArgT w ao P[i] ac:=by
 rcases h with rfl | ⟨b,off,e,⟨cur,hb⟩,hc⟩
 ·simp at hi
 ·obtain ⟨ao,ac,h1,h2⟩:=hc i hi
  exact ⟨b,off,ao,ac,e,lt_of_at hb,h1,h2⟩
def PCells (w:World) (vs:List Value) (P:List (List Int)):Prop:=
 vs.length=P.length∧∀ i (h:i<P.length),∃ ao ac,vs[i]? = some (.slice ao P[i].length ac)∧ArgT w ao P[i] ac
theorem PCells.nil (w:World):PCells w [] []:=⟨rfl,fun i h=>absurd h (by simp)⟩
theorem PCells.same {w w' : World} {vs:List Value} {P:List (List Int)} (h:PCells w vs P) (hk:Same0 w w'):PCells w' vs P:=
 ⟨h.1,fun i hi=>by
  obtain ⟨ao,ac,h1,h2⟩:=h.2 i hi
  exact ⟨ao,ac,h1,h2.same hk⟩⟩
theorem PCells.kept {w w' : World} {vs:List Value} {P:List (List Int)} {S:Nat→Prop} (h:PCells w vs P) (hk:Kept S w w') (hS:∀ k,S k→∀ cur,w.heap[k]? ≠ some (.cells cur 3 (0,0))):PCells w' vs P:=
 ⟨h.1,fun i hi=>by
  obtain ⟨ao,ac,h1,h2⟩:=h.2 i hi
  exact ⟨ao,ac,h1,h2.kept hk hS⟩⟩
theorem PCells.append {w:World} {vs us:List Value} {P Q:List (List Int)} (h:PCells w vs P) (k:PCells w us Q):PCells w (vs++us) (P++Q):=by
 refine ⟨by simp [h.1,k.1],fun i hi=>?_⟩
 by_cases hl:i<P.length
 ·rw [List.getElem_append_left hl,List.getElem?_append_left (by rw [h.1];omega)]
  exact h.2 i hl
 ·have hm:i-P.length<Q.length:=by simp at hi;omega
  rw [List.getElem_append_right (by omega),List.getElem?_append_right (by rw [h.1];omega),h.1]
  exact k.2 _ hm
theorem PCells.take {w:World} {vs:List Value} {P:List (List Int)} (h:PCells w vs P) (n:Nat):PCells w (vs.take n) (P.take n):=by
 refine ⟨by simp [h.1],fun i hi=>?_⟩
 have hi' : i<P.length:=by simp at hi;omega
 have hn:i<n:=by simp at hi;omega
 obtain ⟨ao,ac,h1,h2⟩:=h.2 i hi'
 exact ⟨ao,ac,by rw [List.getElem?_take,if_pos hn];simpa using h1,by simpa using h2⟩
theorem PCells.drop {w:World} {vs:List Value} {P:List (List Int)} (h:PCells w vs P) (n:Nat):PCells w (vs.drop n) (P.drop n):=by
 refine ⟨by simp [h.1],fun i hi=>?_⟩
 have hi' : n+i<P.length:=by simp at hi;omega
 obtain ⟨ao,ac,h1,h2⟩:=h.2 (n+i) hi'
 exact ⟨ao,ac,by rw [List.getElem?_drop];simpa using h1,by simpa using h2⟩
theorem PCells.one {w:World} {vs:List Value} {P:List (List Int)} (h:PCells w vs P):∀ u∈vs,u.oneCell' = true:=by
 intro u hu
 obtain ⟨j,hj,rfl⟩:=List.mem_iff_getElem.1 hu
 obtain ⟨ao,ac,h1,_⟩:=h.2 j (by rw [← h.1];exact hj)
 rw [List.getElem?_eq_getElem hj] at h1
 simp only [Option.some.injEq] at h1
 rw [h1];rfl
theorem PsAt.cells {w:World} {po:Option Addr} {P:List (List Int)} (h:PsAt w po P):∃ vs,PCells w vs P∧∀ ad,po=some ad→∀ j u,vs[j]? = some u→w.cell? (ad.add j)=some u:=by
 rcases h with rfl | ⟨b,off,rfl,hb,hc⟩
 ·exact ⟨[],PCells.nil w,fun ad _ j u hj=>by simp at hj⟩
 ·refine ⟨(List.range P.length).map (fun j=>(w.cell? ⟨b,off+j,none⟩).getD undef),⟨by simp,fun i hi=>?_⟩,fun ad e j u hj=>?_⟩
  ·obtain ⟨ao,ac,h1,h2⟩:=hc i hi
   exact ⟨ao,ac,by simp [hi,h1],h2⟩
  ·cases e
   rw [addr_add]
   have hlt:j<P.length:=by have:=(List.getElem?_eq_some_iff.1 hj).1;simpa using this
   obtain ⟨ao,ac,h1,_⟩:=hc j hlt
   simp [hlt,h1] at hj
   rw [h1,hj]
theorem row_paths {w:World} {base N:Nat} {v:Value} {vs:List Value} {P:List (List Int)} (hr:w.ownsRow base 22 1 v N vs) (hc:PCells w vs P):∃ ao cap,v=.slice ao P.length cap∧PsAt w ao P∧(ao=none→cap=0)∧P.length≤cap:=by
 have hN:N=P.length:=by have:=hr.1;rw [hc.1] at this;omega
 subst hN
 rcases hr.2 with ⟨rfl,h0⟩ | ⟨g,cap,cur,rfl,_,hg,hle,_,_,ht⟩
 ·exact ⟨none,0,by rw [h0],.inl (List.eq_nil_of_length_eq_zero h0),fun _=>rfl,by omega⟩
 ·refine ⟨_,cap,rfl,.inr ⟨g,0,rfl,⟨cur,hg⟩,fun i hi=>?_⟩,(fun e=>by cases e),hle⟩
  obtain ⟨ao,ac,h1,h2⟩:=hc.2 i hi
  have q1:=hr.cells (g:=g) rfl _ _ h1
  rw [addr_add] at q1
  exact ⟨ao,ac,q1,h2⟩
def RwC (w:World) (b off:Nat) (x:Rw):Prop:=
 ∃ ao ac bo bc,w.cell? ⟨b,off,none⟩=some (.int .i64 x.1)∧w.cell? ⟨b,off+1,none⟩=some (.slice ao x.2.1.length ac)∧w.cell? ⟨b,off+2,none⟩=some (.slice bo x.2.2.length bc)∧ArgT w ao x.2.1 ac∧ArgT w bo (ofN x.2.2) bc
def RwAt (w:World) (ro:Option Addr) (R:List Rw):Prop:=
 R=[]∨∃ b off,ro=some ⟨b,off,none⟩∧(∃ cur,w.heap[b]? = some (.cells cur 208 (0,0)))∧∀ i (h:i<R.length),RwC w b (off+i * 3) R[i]
theorem RwAt.keptN {w w' : World} {ro:Option Addr} {R:List Rw} {S:Nat→Prop} (h:RwAt w ro R) (hk:Kept S w w') (hS:∀ k,S k→NdB w k):RwAt w' ro R:=by
 refine h.imp id ?_
 rintro ⟨b,off,rfl,⟨cur,hb⟩,hc⟩
 have nb:¬ S b:=fun e=>by obtain ⟨c,h2⟩:=hS b e;rw [hb] at h2;cases h2
 have hl:=lt_of_at hb
 refine ⟨b,off,rfl,⟨cur,hk.at hb nb⟩,fun i hi=>?_⟩
 obtain ⟨ao,ac,bo,bc,h0,h1,h2,h3,h4⟩:=hc i hi
 exact ⟨ao,ac,bo,bc,(hk.cell (p:=⟨b,off+i * 3,none⟩) hl nb).trans h0,(hk.cell (p:=⟨b,off+i * 3+1,none⟩) hl nb).trans h1,(hk.cell (p:=⟨b,off+i * 3+2,none⟩) hl nb).trans h2,h3.keptN hk hS,h4.keptN hk hS⟩
theorem RwAt.same {w w' : World} {ro:Option Addr} {R:List Rw} (h:RwAt w ro R) (hk:Same0 w w'):RwAt w' ro R:=h.keptN hk (fun _ f=>f.elim)
theorem RwAt.get {w:World} {ro:Option Addr} {R:List Rw} (h:RwAt w ro R) {i:Nat} (hi:i<R.length):∃ b off,ro=some ⟨b,off,none⟩∧b<w.heap.size∧RwC w b (off+i * 3) R[i]:=by
 rcases h with rfl | ⟨b,off,e,⟨cur,hb⟩,hc⟩
 ·simp at hi
 ·exact ⟨b,off,e,lt_of_at hb,hc i hi⟩
theorem info_row:(Tryz.prog.info? 208).map (fun i=>(i.zero,i.size,i.bytes))=some (some (.agg #[.int .i64 0,.slice none 0 0,.slice none 0 0]),3,56):=by kernel_rfl
def WCells (w:World) (vs:List Value) (l:List Rw):Prop:=
 vs.length=l.length * 3∧∀ i (h:i<l.length),∃ ao ac bo bc,vs[i * 3]? = some (.int .i64 l[i].1)∧vs[i * 3+1]? = some (.slice ao l[i].2.1.length ac)∧vs[i * 3+2]? = some (.slice bo l[i].2.2.length bc)∧ArgT w ao l[i].2.1 ac∧ArgT w bo (ofN l[i].2.2) bc
theorem WCells.nil (w:World):WCells w [] []:=⟨rfl,fun i h=>absurd h (by simp)⟩
theorem WCells.same {w w' : World} {vs:List Value} {l:List Rw} (h:WCells w vs l) (hk:Same0 w w'):WCells w' vs l:=
 ⟨h.1,fun i hi=>by
  obtain ⟨ao,ac,bo,bc,h0,h1,h2,h3,h4⟩:=h.2 i hi
  exact ⟨ao,ac,bo,bc,h0,h1,h2,h3.same hk,h4.same hk⟩⟩
theorem WCells.snoc {w:World} {vs:List Value} {l:List Rw} (h:WCells w vs l) {x:Rw} {ao bo:Option Addr} {ac bc:Nat} (h3:ArgT w ao x.2.1 ac) (h4:ArgT w bo (ofN x.2.2) bc):WCells w (vs ++ [.int .i64 x.1,.slice ao x.2.1.length ac,.slice bo x.2.2.length bc]) (l ++ [x]):=by
 refine ⟨by simp [h.1];omega,fun i hi=>?_⟩
 by_cases hl:i<l.length
 ·rw [List.getElem_append_left hl,List.getElem?_append_left (by rw [h.1];omega),List.getElem?_append_left (by rw [h.1];omega),List.getElem?_append_left (by rw [h.1];omega)]
  exact h.2 i hl
 ·obtain rfl:i=l.length:=by simp at hi;omega
  refine ⟨ao,ac,bo,bc,?_,?_,?_,by simpa using h3,by simpa using h4⟩
  ·rw [List.getElem?_append_right (by rw [h.1];omega),h.1];simp
  ·rw [List.getElem?_append_right (by rw [h.1];omega),h.1];simp [Nat.add_sub_cancel_left]
  ·rw [List.getElem?_append_right (by rw [h.1];omega),h.1];simp [Nat.add_sub_cancel_left]
theorem row_rows {w:World} {base N:Nat} {v:Value} {vs:List Value} {l:List Rw} (hr:w.ownsRow base 208 3 v N vs) (hc:WCells w vs l):∃ ao cap,v=.slice ao l.length cap∧RwAt w ao l∧(ao=none→cap=0)∧N=l.length:=by
 have hN:N=l.length:=by have:=hr.1;rw [hc.1] at this;omega
 subst hN
 rcases hr.2 with ⟨rfl,h0⟩ | ⟨g,cap,cur,rfl,_,hg,_,_,_,ht⟩
 ·exact ⟨none,0,by rw [h0],.inl (List.eq_nil_of_length_eq_zero h0),fun _=>rfl,rfl⟩
 ·refine ⟨_,cap,rfl,.inr ⟨g,0,rfl,⟨cur,hg⟩,fun i hi=>?_⟩,(fun e=>by cases e),rfl⟩
  obtain ⟨ao,ac,bo,bc,h0,h1,h2,h3,h4⟩:=hc.2 i hi
  have q0:=hr.cells (g:=g) rfl _ _ h0
  have q1:=hr.cells (g:=g) rfl _ _ h1
  have q2:=hr.cells (g:=g) rfl _ _ h2
  rw [addr_add] at q0 q1 q2
  exact ⟨ao,ac,bo,bc,q0,by rw [← q1];congr 2,by rw [← q2];congr 2,h3,h4⟩
theorem WCells.kept {w w' : World} {vs:List Value} {l:List Rw} {S:Nat→Prop} (h:WCells w vs l) (hk:Kept S w w') (hS:∀ k,S k→∀ cur,w.heap[k]? ≠ some (.cells cur 3 (0,0))):WCells w' vs l:=
 ⟨h.1,fun i hi=>by
  obtain ⟨ao,ac,bo,bc,h0,h1,h2,h3,h4⟩:=h.2 i hi
  exact ⟨ao,ac,bo,bc,h0,h1,h2,h3.kept hk hS,h4.kept hk hS⟩⟩
end Go.Proofs.YtdhiiicppcgkbaaGreat
namespace Go.Proofs.YtdhiiicppcgkbaaGreat
set_option maxRecDepth 100000
set_option linter.unusedVariables false
open Go.RowKit
attribute [local go_sem ↓] Go.wp_at_zero Go.wp_at_succ
def argsL (L:List Sym) (T:List Int):List (List Int):=(List.range T.length).map (fun q=>ofN (argsN L T q))
theorem argsL_length (L:List Sym) (T:List Int):(argsL L T).length=T.length:=by simp [argsL]
theorem argsL_at {L:List Sym} {T:List Int} {q:Nat} (h:q<(argsL L T).length):(argsL L T)[q]=ofN (argsN L T q):=by simp [argsL]
def PsB (base:Nat) (w:World) (po:Option Addr) (P:List (List Int)):Prop:=
 P=[]∨∃ b off,po=some ⟨b,off,none⟩∧base≤b∧b<w.heap.size∧∀ i (h:i<P.length),∃ ao ac,w.cell? ⟨b,off+i,none⟩=some (.slice ao P[i].length ac)∧IntsAt w ao P[i]∧∀ a,ao=some a→base≤a.block
theorem PsB.kept {base:Nat} {w w' : World} {po:Option Addr} {P:List (List Int)} {S:Nat→Prop} (h:PsB base w po P) (hk:Kept S w w') (hS:∀ k,base≤k→¬ S k):PsB base w' po P:=by
 refine h.imp id ?_
 rintro ⟨b,off,rfl,hb,hl,hc⟩
 refine ⟨b,off,rfl,hb,Nat.lt_of_lt_of_le hl hk.size,fun i hi=>?_⟩
 obtain ⟨ao,ac,h1,h2,h3⟩:=hc i hi
 exact ⟨ao,ac,(hk.cell (p:=⟨b,off+i,none⟩) hl (hS b hb)).trans h1,h2.kept hk (fun a e=>hS _ (h3 a e)),h3⟩
def VwAt (base:Nat) (w:World) (L:List Sym) (ok:Bool) (T:List Int) (v:Value):Prop:=
 ∃ ho hc ao ac,v=.agg #[.slice ho (if ok then T.length else 0) hc,.slice ao (if ok then T.length else 0) ac]∧(ok=true→IntsAt w ho T∧(∀ a,ho=some a→base≤a.block)∧PsB base w ao (argsL L T))
theorem VwAt.kept {base:Nat} {w w' : World} {L:List Sym} {ok:Bool} {T:List Int} {v:Value} {S:Nat→Prop} (h:VwAt base w L ok T v) (hk:Kept S w w') (hS:∀ k,base≤k→¬ S k):VwAt base w' L ok T v:=by
 obtain ⟨ho,hc,ao,ac,e,h1⟩:=h
 refine ⟨ho,hc,ao,ac,e,fun q=>?_⟩
 obtain ⟨a,b,c⟩:=h1 q
 exact ⟨a.kept hk (fun x e=>hS _ (b x e)),b,c.kept hk hS⟩
theorem VwAt.same {base:Nat} {w w' : World} {L:List Sym} {ok:Bool} {T:List Int} {v:Value} (h:VwAt base w L ok T v) (hk:Same0 w w'):VwAt base w' L ok T v:=h.kept hk (fun _ _ f=>f)
def headI (ok:Bool) (T:List Int) (p:Int):Int:=if (ok && idxB p T.length)=true then T.getD p.toNat (-1) else -1
def argI (L:List Sym) (ok:Bool) (T:List Int) (p n:Int):Int:=if (ok && idxB p T.length)=true then (if idxB n (argsN L T p.toNat).length=true then (((argsN L T p.toNat).getD n.toNat 0:Nat):Int) else -1) else -1
theorem idx_yes {n:Int} {m:Nat} (h:idxB n m=true):∃ i:Nat,n=(i:Int)∧i<m:=by
 simp [idxB] at h
 exact ⟨n.toNat,by omega,by omega⟩
theorem idx_zero (n:Int):idxB n 0=false:=by
 simp [idxB]
theorem idx_if (ok:Bool) (n:Int) (m:Nat):idxB n (if ok then m else 0)=(ok && idxB n m):=by
 cases ok
 ·simp [idx_zero]
 ·simp
set_option maxHeartbeats 2000000 in
theorem head_any {base:Nat} {w:World} {L:List Sym} {ok:Bool} {T:List Int} {v:Value} (h:VwAt base w L ok T v) (p:Int) :
  Calls Tryz.prog 29 #[v,.int .i64 p] w fun e w' => e=.returned (.tuple #[.int .i64 (headI ok T p),.bool false])∧Same0 w w' := by
 obtain ⟨ho,hc,ao,ac,rfl,h1⟩:=h
 have CI:=isIndex_any p (if ok then T.length else 0)
 rw [idx_if] at CI
 have ka:Same0 w (w.alloc (.cells #[.slice ho (if ok then T.length else 0) hc,.slice ao (if ok then T.length else 0) ac] 70)):=(Kept.refl _ w).alloc _
 cases hi:(ok && idxB p T.length) with
 | false=>
  rw [hi] at CI
  have H:Hid (headI ok T p = -1):=by show _=_;rw [headI,if_neg (by rw [hi];decide)]
  clear hi h1
  generalize (if ok then T.length else 0)=N at *
  go_enter Tryz.func29,Tryz.ntmps29
  go_wp2_with (first | (go_at_call 56;refine (CI _).mono ?_;rintro e w2 ⟨rfl,rfl⟩))
  exact bodyPost_ret (v:=.tuple #[.int .i64 (-1),.bool false]) (by simp [results,Tryz.results29,go_sem]) rfl ⟨by rw [H.out],ka⟩
 | true=>
  rw [hi] at CI
  obtain ⟨rfl,hx⟩:ok=true∧idxB p T.length=true:=by simpa using hi
  obtain ⟨i,rfl,hl⟩:=idx_yes hx
  have H:Hid (headI true T (i:Int)=T[i]):=by
   show _=_
   rw [headI,if_pos (by simpa using hx),Int.toNat_natCast]
   simp [hl]
  obtain ⟨a,_,_⟩:=h1 rfl
  obtain ⟨b,off,rfl,hb,hcell⟩:=(a.same ka).get hl
  simp only [if_true] at CI ka hcell ⊢
  have i1:(0:Int)≤(i:Int):=by omega
  have i2:(i:Int)<(T.length:Int):=by omega
  clear hi h1 a hx
  go_enter Tryz.func29,Tryz.ntmps29
  go_wp2_with (first | (go_at_call 56;refine (CI _).mono ?_;rintro e w2 ⟨rfl,rfl⟩))
  exact bodyPost_ret (v:=.tuple #[.int .i64 T[i],.bool false]) (by simp [results,Tryz.results29,go_sem]) rfl ⟨by rw [H.out],ka⟩
set_option maxHeartbeats 4000000 in
theorem arg_any {base:Nat} {w:World} {L:List Sym} {ok:Bool} {T:List Int} {v:Value} (h:VwAt base w L ok T v) (p n:Int) :
  Calls Tryz.prog 31 #[v,.int .i64 p,.int .i64 n] w fun e w' => e=.returned (.int .i64 (argI L ok T p n))∧Same0 w w' := by
 obtain ⟨ho,hc,ao,ac,rfl,h1⟩:=h
 have CI:=isIndex_any p (if ok then T.length else 0)
 rw [idx_if] at CI
 have ka:Same0 w (w.alloc (.cells #[.slice ho (if ok then T.length else 0) hc,.slice ao (if ok then T.length else 0) ac] 70)):=(Kept.refl _ w).alloc _
 cases hi:(ok && idxB p T.length) with
 | false=>
  rw [hi] at CI
  have H:Hid (argI L ok T p n = -1):=by show _=_;rw [argI,if_neg (by rw [hi];decide)]
  clear hi h1
  generalize (if ok then T.length else 0)=N at *
  go_enter Tryz.func31,Tryz.ntmps31
  go_wp2_with (first | (go_at_call 56;refine (CI _).mono ?_;rintro e w2 ⟨rfl,rfl⟩))
  go_ret
  exact ⟨by rw [H.out];rfl,ka⟩
 | true=>
  rw [hi] at CI
  obtain ⟨rfl,hx⟩:ok=true∧idxB p T.length=true:=by simpa using hi
  obtain ⟨i,rfl,hl⟩:=idx_yes hx
  obtain ⟨_,_,a⟩:=h1 rfl
  have a' := a.kept ka (fun _ _ f=>f)
  rcases a' with e0 | ⟨b,off,rfl,_,hb,hcell⟩
  ·have:=argsL_length L T;rw [e0] at this;simp at this;omega
  ·obtain ⟨qo,qc,c1,c2,_⟩:=hcell i (by rw [argsL_length];exact hl)
   rw [argsL_at] at c1 c2
   have hN:(ofN (argsN L T i)).length=(argsN L T i).length:=ofN_len _
   rw [hN] at c1
   obtain ⟨A,hA⟩:∃ A,A=argsN L T i:=⟨_,rfl⟩
   have HV:Hid (argI L true T (i:Int) n=if idxB n A.length=true then ((A.getD n.toNat 0:Nat):Int) else -1):=by
    show _=_
    rw [argI,if_pos (by simpa using hx),Int.toNat_natCast,hA]
   rw [← hA] at c1 c2 hN
   have CJ:=isIndex_any n A.length
   simp only [if_true] at CI ka c1 c2 ⊢
   have i1:(0:Int)≤(i:Int):=by omega
   have i2:(i:Int)<(T.length:Int):=by omega
   have CC:Hid (∀ (z:Int) (m:Nat) ww,(z=(i:Int)∧m=T.length)∨(z=n∧m=A.length)→Calls Tryz.prog 56 #[.int .i64 z,.int .i64 (m:Int)] ww fun e w' => e=.returned (.bool (idxB z m))∧w' = ww):=fun z m ww _=>isIndex_any z m ww
   have hx2:idxB (i:Int) T.length=true:=hx
   cases hj:idxB n A.length with
   | false=>
    rw [hj] at HV CJ
    have H:Hid (argI L true T (i:Int) n = -1):=by rw [HV.out];rfl
    clear hi h1 a hx HV hA
    go_enter Tryz.func31,Tryz.ntmps31
    go_wp2_with (first | (go_at_call 56;have hold:=hdone;refine (CJ _).mono ?_;rintro e w2 ⟨rfl,rfl⟩) | (go_at_call 56;refine (CI _).mono ?_;rintro e w2 ⟨rfl,rfl⟩;have hdone:True:=trivial))
    go_ret
    exact ⟨by rw [H.out];rfl,ka⟩
   | true=>
    obtain ⟨j,rfl,hjl⟩:=idx_yes hj
    rw [hj] at HV CJ
    have H:Hid (argI L true T (i:Int) (j:Int)=((A[j]:Nat):Int)):=by rw [HV.out];show _=_;simp [hjl]
    obtain ⟨qb,qoff,rfl,hqb,hq⟩:=c2.get (i:=j) (by rw [hN];exact hjl)
    have hq2:(ofN A)[j]'(by rw [hN];exact hjl)=((A[j]:Nat):Int):=by simp [ofN]
    rw [hq2] at hq
    have j1:(0:Int)≤(j:Int):=by omega
    have j2:(j:Int)<(A.length:Int):=by omega
    clear hi h1 a hx HV hA c2 hq2
    go_enter Tryz.func31,Tryz.ntmps31
    go_wp2_with (first | (go_at_call 56;have hold:=hdone;refine (CJ _).mono ?_;rintro e w2 ⟨rfl,rfl⟩) | (go_at_call 56;refine (CI _).mono ?_;rintro e w2 ⟨rfl,rfl⟩;have hdone:True:=trivial))
    go_ret
    exact ⟨by rw [H.out];rfl,ka⟩
theorem kept_at (w:World) (b o:Nat) (u:Value):Kept (fun k=>k=b) w (w.setCell ⟨b,o,none⟩ u):=Kept.setCell (p:=⟨b,o,none⟩) (Kept.refl (fun k=>k=b) w) (fun _=>rfl) u
def Lsts (w:World) (b n:Nat) (f:Nat→Value):Prop:=∃ cs,w.heap[b]? = some (.cells cs 22 (0,0))∧cs.size=n∧∀ i,i<n→cs[i]? = some (f i)
theorem Lsts.kept {S:Nat→Prop} {w w' : World} {b n:Nat} {f:Nat→Value} (h:Lsts w b n f) (hk:Kept S w w') (hs:¬ S b):Lsts w' b n f:=by
 obtain ⟨cs,h1,h2,h3⟩:=h
 exact ⟨cs,hk.at h1 hs,h2,h3⟩
theorem Lsts.cell {w:World} {b n:Nat} {f:Nat→Value} (h:Lsts w b n f) {i:Nat} (hi:i<n):w.cell? ⟨b,i,none⟩=some (f i)∧w.frozen? ⟨b,i,none⟩=false:=by
 obtain ⟨cs,h1,h2,h3⟩:=h
 exact ⟨(cellAt h1 i).trans (h3 i hi),frozenAt h1 i⟩
theorem Lsts.set {w:World} {b n:Nat} {f:Nat→Value} (h:Lsts w b n f) (i:Nat) (v:Value):Lsts (w.setCell ⟨b,i,none⟩ v) b n (fun k=>if k=i then v else f k):=by
 obtain ⟨cs,h1,h2,h3⟩:=h
 refine ⟨cs.setIfInBounds i v,setAt h1 i v,by simp [h2],fun k hk=>?_⟩
 by_cases e:k=i
 ·subst e;simp [h2,hk]
 ·simp only [if_neg e];rw [Array.getElem?_setIfInBounds_ne (fun q=>e q.symm)];exact h3 k hk
theorem Lsts.congr {w:World} {b n:Nat} {f g:Nat→Value} (h:Lsts w b n f) (e:∀ i,i<n→f i=g i):Lsts w b n g:=by
 obtain ⟨cs,h1,h2,h3⟩:=h
 exact ⟨cs,h1,h2,fun i hi=>by rw [← e i hi];exact h3 i hi⟩
theorem Lsts.lt {w:World} {b n:Nat} {f:Nat→Value} (h:Lsts w b n f):b<w.heap.size:=by
 obtain ⟨cs,h1,_⟩:=h
 exact lt_of_at h1
theorem made_slices (n i:Nat) (h:i<n):(madeCells #[Value.slice none 0 0] n)[i]? = some (.slice none 0 0):=by
 rw [← Array.getElem?_toList,toList_madeCells_one];simp [h]
def AOut (L:List Sym) (T:List Int) (w0:World) (gA gE k:Nat) (wr:World):Prop:=
 Same0 w0 wr∧gA≠gE∧w0.heap.size≤gA∧w0.heap.size≤gE∧∃ (en:Nat→Int) (f:Nat→Value),Nums wr gE T.length en∧Lsts wr gA T.length f∧(∀ q,k≤q→q<T.length→en q=(endN L T q:Int))∧(∀ q,q<k→f q=.slice none 0 0) ∧
  ∀ q,k≤q→q<T.length→∃ ao ac,f q=.slice ao (argsN L T q).length ac∧IntsAt wr ao (ofN (argsN L T q))∧∀ a,ao=some a→a.block≠gE∧a.block≠gA∧w0.heap.size≤a.block
def AIn (L:List Sym) (T:List Int) (w0:World) (gA gE p:Nat) (en:Nat→Int) (f:Nat→Value) (j:Nat) (wr:World):Prop:=
 Kept (fun k=>k=gE∨k=gA) w0 wr∧Nums wr gE T.length (fun q=>if q=p then (past L T j (p+1):Int) else en q)∧∃ vo vc,Lsts wr gA T.length (fun q=>if q=p then .slice vo j vc else f q)∧wr.ownsRow w0.heap.size 3 1 (.slice vo j vc) j (iv (ofN (starts L T j (p+1))))
theorem AOut.same {L:List Sym} {T:List Int} {w0:World} {gA gE k:Nat} {wr w' : World} (h:AOut L T w0 gA gE k wr) (hk:Same0 wr w'):AOut L T w0 gA gE k w' := by
 obtain ⟨h0,h1,h2,h3,en,f,h4,h5,h6,h7,h8⟩:=h
 refine ⟨h0.trans' hk,h1,h2,h3,en,f,h4.kept hk (fun f=>f),h5.kept hk (fun f=>f),h6,h7,fun q a b=>?_⟩
 obtain ⟨ao,ac,x,y,z⟩:=h8 q a b
 exact ⟨ao,ac,x,y.same hk,z⟩
theorem AIn.done {L:List Sym} {T:List Int} {w0 wp wr:World} {gA gE p:Nat} (hT:IsT L T) (hp:p<T.length) (h0:Same0 w0 wp) (hg:gA≠gE) (hA:w0.heap.size≤gA) (hE:w0.heap.size≤gE) {en:Nat→Int} {f:Nat→Value} (h6:∀ q,p+1≤q→q<T.length→en q=(endN L T q:Int)) (h7:∀ q,q<p+1→f q=.slice none 0 0)
  (h8:∀ q,p+1≤q→q<T.length→∃ ao ac,f q=.slice ao (argsN L T q).length ac∧IntsAt wp ao (ofN (argsN L T q))∧∀ a,ao=some a→a.block≠gE∧a.block≠gA∧w0.heap.size≤a.block) (hlA:gA<wp.heap.size) (hlE:gE<wp.heap.size) (h:AIn L T wp gA gE p en f (arN L T[p]) wr):AOut L T w0 gA gE p wr:=by
 obtain ⟨k1,h2,vo,vc,h3,h4⟩:=h
 have hf:=(Forest.one hT hp).kids.2
 have hpast:=hf.past
 have hS:Same0 w0 wr:=Kept.trans h0 k1 (fun i hi e=>by rcases e with e | e <;> omega)
 refine ⟨hS,hg,hA,hE,_,_,h2,h3,fun q a b=>?_,fun q a=>?_,fun q a b=>?_⟩
 ·by_cases e:q=p
  ·subst e;rw [if_pos rfl,hpast]
  ·rw [if_neg e];exact h6 q (by omega) b
 ·rw [if_neg (by omega)];exact h7 q (by omega)
 ·by_cases e:q=p
  ·subst e
   have hN:argsN L T q=starts L T (arN L T[q]) (q+1):=argsN_eq hp
   have hlen:(argsN L T q).length=arN L T[q]:=by rw [hN,starts_length]
   refine ⟨vo,vc,by rw [if_pos rfl,hlen],?_,fun a e=>?_⟩
   ·rw [hN]
    rcases h4.2 with ⟨e1,e2⟩ | ⟨g,cap,cur,e1,e2,e3,_⟩
    ·have:(starts L T (arN L T[q]) (q+1)).length=0:=by rw [starts_length];exact e2
     rw [List.eq_nil_of_length_eq_zero this]
     exact .inl rfl
    ·simp only [Value.slice.injEq] at e1
     obtain ⟨rfl,_,rfl⟩:=e1
     refine .inr ⟨g,0,rfl,lt_of_at e3,fun i hi=>?_⟩
     have hc:=h4.cells (g:=g) rfl i (.int .i64 (ofN (starts L T (arN L T[q]) (q+1)))[i]) (iv_get hi)
     rw [addr_add] at hc
     exact hc
   ·rcases h4.2 with ⟨e1,e2⟩ | ⟨g,cap,cur,e1,e2,e3,_⟩
    ·simp only [Value.slice.injEq] at e1
     obtain ⟨rfl,_,_⟩:=e1
     cases e
    ·simp only [Value.slice.injEq] at e1
     obtain ⟨rfl,_,rfl⟩:=e1
     cases e
     have:=h0.size
     refine ⟨fun q=>?_,fun q=>?_,?_⟩
     ·simp at q;omega
     ·simp at q;omega
     ·simp;omega
  ·obtain ⟨ao,ac,x,y,z⟩:=h8 q (by omega) b
   refine ⟨ao,ac,by rw [if_neg e];exact x,y.kept k1 (fun a e=>?_),z⟩
   obtain ⟨z1,z2,_⟩:=z a e
   rintro (q | q) <;> contradiction
theorem tvar_any (x:Int) (w:World):Calls Tryz.prog 74 #[.int .i64 x] w fun e w' => e=.returned (.bool (decide (x<0)))∧w' = w:=by
 go_enter Tryz.func74,Tryz.ntmps74
 go_wp2
 go_ret
 exact ⟨rfl,rfl⟩
set_option maxHeartbeats 2000000 in
theorem number_any {w:World} {x:Rw} {ao bo:Option Addr} {ac bc:Nat} (h1:IntsAt w ao x.2.1) (h2:IntsAt w bo (ofN x.2.2)) {c:Nat} (hc:c<x.2.2.length) (hp:x.2.2[c]<x.2.1.length) :
  Calls Tryz.prog 149 #[.agg #[.int .i64 x.1,.slice ao x.2.1.length ac,.slice bo x.2.2.length bc],.int .i64 (c:Int)] w fun e w' => e=.returned (.int .i64 (numR x c))∧Same0 w w' := by
 obtain ⟨lb,loff,rfl,_,hl⟩:=h1.get hp
 obtain ⟨pb,poff,rfl,_,hl2⟩:=h2.get (i:=c) (by rw [ofN_len];exact hc)
 have e2:(ofN x.2.2)[c]'(by rw [ofN_len];exact hc)=((x.2.2[c]:Nat):Int):=by simp [ofN]
 rw [e2] at hl2
 clear e2 h1 h2
 rw [numR_eq hc hp]
 have K:Hid (∀ o,Same0 w (w.alloc o)):=fun o=>(Kept.refl _ w).alloc o
 generalize x.2.1[x.2.2[c]]=y at *
 generalize x.2.2[c]=q at *
 generalize x.2.1.length=n1 at *
 generalize x.2.2.length=n2 at *
 generalize x.1=r at *
 have D1:∀ o,(w.alloc o).cell? ⟨lb,loff+q,none⟩=some (.int .i64 y):=fun o=>cell_al hl o
 have D2:∀ o,(w.alloc o).cell? ⟨pb,poff+c,none⟩=some (.int .i64 (q:Int)):=fun o=>cell_al hl2 o
 have E1:∀ o,(w.alloc o).drew.cell? ⟨lb,loff+q,none⟩=some (.int .i64 y):=fun o=>cell_al hl o
 have E2:∀ o,(w.alloc o).drew.cell? ⟨pb,poff+c,none⟩=some (.int .i64 (q:Int)):=fun o=>cell_al hl2 o
 have i1:(0:Int)≤(c:Int):=by omega
 have i2:(c:Int)<(n2:Int):=by omega
 have i3:(0:Int)≤(q:Int):=by omega
 have i4:(q:Int)<(n1:Int):=by omega
 clear hl hl2
 go_enter Tryz.func149,Tryz.ntmps149
 go_wp2
 go_quiet (fail)
 go_wp2
 go_ret
 exact ⟨rfl,(K.out _).drewN _⟩
set_option maxHeartbeats 2000000 in
theorem opens_any {w:World} {x:Rw} {ao bo:Option Addr} {ac bc:Nat} (h1:IntsAt w ao x.2.1) (h2:IntsAt w bo (ofN x.2.2)) {c:Nat} (hc:c<x.2.2.length) (hp:x.2.2[c]<x.2.1.length) {cb:Nat} (hcb:w.cell? ⟨cb,0,none⟩=some (.int .i64 (c:Int))) :
  Calls Tryz.prog 148 #[.agg #[.int .i64 x.1,.slice ao x.2.1.length ac,.slice bo x.2.2.length bc],.pointer (some ⟨cb,0,none⟩)] w fun e w' => e=.returned (.bool (decide (numR x c<0)))∧Same0 w w' := by
 have K:∀ o,Same0 w (w.alloc o):=fun o=>(Kept.refl _ w).alloc o
 have C:∀ o,Calls Tryz.prog 149 #[.agg #[.int .i64 x.1,.slice ao x.2.1.length ac,.slice bo x.2.2.length bc],.int .i64 (c:Int)] (w.alloc o) fun e w' => e=.returned (.int .i64 (numR x c))∧Same0 w w' := fun o=>(number_any (h1.same (K o)) (h2.same (K o)) hc hp).mono (fun e w' h=>⟨h.1,(K o).trans' h.2⟩)
 have D1:∀ o,(w.alloc o).cell? ⟨cb,0,none⟩=some (.int .i64 (c:Int)):=fun o=>cell_al hcb o
 have C2:=tvar_any
 generalize numR x c=z at *
 clear h1 h2 hcb K
 go_enter Tryz.func148,Tryz.ntmps148
 go_wp2_with (first
  | (go_at_call 149;refine (C _).mono ?_;rintro e w1 ⟨rfl,hk⟩)
  | (go_at_call 74;refine (C2 _ _).mono ?_;rintro e w2 ⟨rfl,rfl⟩))
 go_ret
 exact ⟨rfl,hk⟩
def RowsOk (n:Nat) (R:List Rw):Prop:=∀ x∈R,x.2.2.length=n∧∀ p∈x.2.2,p<x.2.1.length
set_option maxHeartbeats 4000000 in
theorem indexf_row {w0:World} {c cb n:Nat} {ro:Option Addr} {rc:Nat} {R:List Rw} (hR:RwAt w0 ro R) (hok:RowsOk n R) (hc:c<n) (hcb:w0.cell? ⟨cb,0,none⟩=some (.int .i64 (c:Int))) (hm:R.length≤100) :
  Calls Tryz.prog 172 #[.slice ro R.length rc,.func (.func 148) #[] #[.pointer (some ⟨cb,0,none⟩)]] w0 fun e w' => ∃ z:Int,e=.returned (.int .i64 z)∧FoundAt z (R.any (fun x=>decide (numR x c<0)))∧Same0 w0 w' := by
 have HB:=World.block_lt_of_cell? w0 _ hcb
 go_enter Tryz.func172,Tryz.ntmps172
 go_wp2
 go_loopw [8] (fun i wr=>∃ k:Nat,k≤R.length∧i=.int .i64 (k:Int)∧Hid ((R.take k).any (fun x=>decide (numR x c<0))=false)∧Same0 w0 wr) (fun i _=>R.length-(intOf i).toNat)
 case atStart=>exact ⟨0,Nat.zero_le _,rfl,by show _=_;simp,Kept.refl _ _⟩
 case round=>
  obtain ⟨k,hk,rfl,ha,hw⟩:=hrel
  by_cases hlt:k<R.length
  ·obtain ⟨b,off,rfl,_,ao,ac,bo,bc,r0,r1,r2,A1,A2⟩:=(hR.same hw).get hlt
   obtain ⟨o1,o2⟩:=hok _ (List.getElem_mem hlt)
   have hc' : c<R[k].2.2.length:=by omega
   have C:=opens_any (ac:=ac) (bc:=bc) A1.1.at' A2.1.at' hc' (o2 _ (List.getElem_mem hc')) ((hw.cell (p:=⟨cb,0,none⟩) HB (fun f=>f)).trans hcb)
   have i1:(0:Int)≤(k:Int):=by omega
   have i2:(k:Int)<(R.length:Int):=by omega
   have hz:∀ q:Bool,decide (numR R[k] c<0)=q→Hid (decide (numR R[k] c<0)=q):=fun q h=>h
   cases hq:decide (numR R[k] c<0) with
   | true=>
    have H:Hid (FoundAt (k:Int) (R.any (fun x=>decide (numR x c<0)))):=by
     have e1:R.any (fun x=>decide (numR x c<0))=true:=List.any_eq_true.2 ⟨R[k],List.getElem_mem hlt,hq⟩
     show decide _=_
     rw [e1];simp
    rw [hq] at C
    clear hz hq ha hcb hok hR A1 A2 o2 o1
    go_wp2_with (first | (go_at_call 148;refine C.mono ?_;rintro e w2 ⟨rfl,hw2⟩))
    go_ret
    exact ⟨_,rfl,H.out,hw.trans' hw2⟩
   | false=>
    have H:Hid ((R.take (k+1)).any (fun x=>decide (numR x c<0))=false):=by
     have e1:=ha.out
     show _=_
     rw [List.take_add_one,List.getElem?_eq_getElem hlt,List.any_append,e1]
     simpa using hq
    rw [hq] at C
    clear hz hq ha hcb A1 A2 o2 o1
    go_wp2_with (first | (go_at_call 148;refine C.mono ?_;rintro e w2 ⟨rfl,hw2⟩))
    exact ⟨⟨k+1,by omega,by go_num,H,hw.trans' hw2⟩,by simp [intOf];omega⟩
  ·have H:Hid (FoundAt (-1) (R.any (fun x=>decide (numR x c<0)))):=by
    have:=ha.out
    rw [List.take_of_length_le (by omega)] at this
    show decide _=_
    rw [this];rfl
   go_wp2
   go_ret
   exact ⟨_,rfl,H.out,hw⟩
set_option maxHeartbeats 1000000 in
theorem containsf_row {w0:World} {c cb n:Nat} {ro:Option Addr} {rc:Nat} {R:List Rw} (hR:RwAt w0 ro R) (hok:RowsOk n R) (hc:c<n) (hcb:w0.cell? ⟨cb,0,none⟩=some (.int .i64 (c:Int))) (hm:R.length≤100) :
  Calls Tryz.prog 150 #[.slice ro R.length rc,.func (.func 148) #[] #[.pointer (some ⟨cb,0,none⟩)]] w0 fun e w' => e=.returned (.bool (R.any (fun x=>decide (numR x c<0))))∧Same0 w0 w' := by
 have C:=indexf_row (rc:=rc) hR hok hc hcb hm
 clear hR hok hcb
 generalize R.any (fun x=>decide (numR x c<0))=z at *
 go_enter Tryz.func150,Tryz.ntmps150
 go_wp2_with (first | (go_at_call 172;refine C.mono ?_;rintro e w2 ⟨z', rfl,hz,hw2⟩))
 go_ret
 exact ⟨ret_bool (FoundAt.eq hz),hw2⟩
theorem any_con (R:List Rw) (c:Nat):R.any (fun x=>decide (numR x c<0)) = !conB R c:=by
 unfold conB
 induction R with
 | nil=>rfl
 | cons x r ih=>
  simp only [List.any_cons,List.all_cons,ih,Bool.not_and]
  congr 1
  by_cases h:numR x c<0
  ·simp [h]
  ·simp [h];omega
def partI (R:List Rw) (n:Nat):Int:=match partN R n with | some c=>(c:Int) | none=>-1
theorem partN_stays {R : List Rw} {k c : Nat} (h : partN R k = some c) : ∀ m, k ≤ m → partN R m = some c
  | 0, hm => by obtain rfl : k = 0 := by omega
                exact h
  | m + 1, hm => by
    by_cases e : k = m + 1
    · subst e; exact h
    · unfold partN
      rw [partN_stays h m (by omega)]
set_option maxHeartbeats 4000000 in
theorem parting_any {w:World} {bs:Nat} {po ro:Option Addr} {pl pc rc:Nat} {R:List Rw} (hR:RwAt w ro R) (hok:RowsOk pl R) (hm:R.length≤100) (hpl:pl≤4000) :
  Calls Tryz.prog 113 #[.agg #[.pointer (some ⟨bs,0,none⟩),.slice po pl pc,.slice ro R.length rc]] w fun e w' => e=.returned (.int .i64 (partI R pl))∧Same0 w w' := by
 have CC:Hid (∀ ww c,c<pl→Same0 w ww→Calls Tryz.prog 150 #[.slice ro R.length rc,.func (.func 148) #[] #[.pointer (some ⟨ww.heap.size,0,none⟩)]] (ww.alloc (.cells #[.int .i64 (c:Int)] 3)) fun e w' => e=.returned (.bool (R.any (fun x=>decide (numR x c<0))))∧Same0 (ww.alloc (.cells #[.int .i64 (c:Int)] 3)) w'):=fun ww c hc hk=>by
  have ka:Same0 ww (ww.alloc (.cells #[.int .i64 (c:Int)] 3)):=(Kept.refl _ _).alloc _
  exact (containsf_row ((hR.same hk).same ka) hok hc (cellAt (heap_alloc_new ww _) 0) hm)
 have K:Same0 w (w.alloc (.cells #[.pointer (some ⟨bs,0,none⟩),.slice po pl pc,.slice ro R.length rc] 163)):=(Kept.refl _ w).alloc _
 have BX:Hid (∀ ww,Same0 (w.alloc (.cells #[.pointer (some ⟨bs,0,none⟩),.slice po pl pc,.slice ro R.length rc] 163)) ww→ww.cell? ⟨w.heap.size,1,none⟩=some (.slice po pl pc)∧ww.cell? ⟨w.heap.size,2,none⟩=some (.slice ro R.length rc)):=fun ww hk=>⟨cellAt (hk.at0 (heap_alloc_new w _)) 1,cellAt (hk.at0 (heap_alloc_new w _)) 2⟩
 clear hR hok
 go_enter Tryz.func113,Tryz.ntmps113
 go_wp2
 go_loopw [8] (fun i wr=>∃ k:Nat,k≤pl∧i=.int .i64 (k:Int)∧Hid (partN R k=none)∧Same0 (w.alloc (.cells #[.pointer (some ⟨bs,0,none⟩),.slice po pl pc,.slice ro R.length rc] 163)) wr) (fun i _=>pl-(intOf i).toNat)
 case atStart=>exact ⟨0,Nat.zero_le _,rfl,rfl,Kept.refl _ _⟩
 case round=>
  obtain ⟨k,hk,rfl,ha,hw⟩:=hrel
  by_cases hlt:k<pl
  ·have C:=CC.out wr k hlt (K.trans' hw)
   have ka:Same0 wr (wr.alloc (.cells #[.int .i64 (k:Int)] 3)):=(Kept.refl _ _).alloc _
   obtain ⟨b1,b2⟩:=BX.out _ (hw.trans' ka)
   have i2:(k:Int)<(pl:Int):=by omega
   rw [any_con] at C
   cases hq:conB R k with
   | true=>
    have H:Hid (partI R pl=(k:Int)):=by
     have:partN R (k+1)=some k:=by unfold partN;rw [ha.out];simp [hq]
     show _=_
     unfold partI
     rw [partN_stays this pl (by omega)]
    rw [hq] at C
    have HC:Hid (∀ w2,Same0 (wr.alloc (.cells #[.int .i64 (k:Int)] 3)) w2→w2.cell? ⟨wr.heap.size,0,none⟩=some (.int .i64 (k:Int))):=fun w2 h2=>cellAt (h2.at0 (heap_alloc_new wr _)) 0
    clear hq ha CC
    go_wp2_with (first | (go_at_call 150;refine C.mono ?_;rintro e w2 ⟨rfl,hw2⟩;have c2:=HC.out _ hw2))
    go_ret
    exact ⟨ret_int H.out.symm,(K.trans' hw).trans' (ka.trans' hw2)⟩
   | false=>
    have H:Hid (partN R (k+1)=none):=by
     show _=_
     unfold partN;rw [ha.out];simp [hq]
    rw [hq] at C
    clear hq ha
    go_wp2_with (first | (go_at_call 150;refine C.mono ?_;rintro e w2 ⟨rfl,hw2⟩))
    exact ⟨⟨k+1,by omega,by go_num,H,hw.trans' (ka.trans' hw2)⟩,by simp [intOf];omega⟩
  ·have H:Hid (partI R pl = -1):=by
    obtain rfl:k=pl:=by omega
    show _=_
    unfold partI
    rw [ha.out]
   clear ha
   go_wp2
   go_ret
   exact ⟨ret_int H.out.symm,K.trans' hw⟩
theorem field_left (a d:Option Addr) (b c e f:Nat) (w:World):(Instr.field 98 (.agg #[.slice a b c,.slice d e f]) 0).run Tryz.prog w=.ok (.slice a b c) w:=by kernel_rfl
theorem field_right (a d:Option Addr) (b c e f:Nat) (w:World):(Instr.field 98 (.agg #[.slice a b c,.slice d e f]) 1).run Tryz.prog w=.ok (.slice d e f) w:=by kernel_rfl
def askW (L:List Sym) (R l:List Ru) (j n:Nat):List (Int × Int):=if ckB L R l j n=true then [(0, -1)] else wrongL L R l j n
structure Cnd (w:World) (b bs:Nat) (ro:Option Addr) (rc:Nat) (L:List Sym) (R:List Ru) (lo:Option Addr) (l:List Ru) (n:Nat):Prop where
 st:StR w b bs ro rc L R
 ls:RsAt w lo l
 ll:l.length≤140737488355328
 hn:n<l.length
def BoxAt (w:World) (k b:Nat) (lo:Option Addr) (ll lc n:Nat):Prop:=w.cell? ⟨k,0,none⟩=some (.pointer (some ⟨b,0,none⟩))∧w.cell? ⟨k,1,none⟩=some (.slice lo ll lc)∧w.cell? ⟨k,2,none⟩=some (.int .i64 (n:Int))
theorem box_new (w:World) (b:Nat) (lo:Option Addr) (ll lc n:Nat) (t:TypeId):BoxAt (w.alloc (.cells #[.pointer (some ⟨b,0,none⟩),.slice lo ll lc,.int .i64 (n:Int)] t)) w.heap.size b lo ll lc n:=by
 have h:=heap_alloc_new w (.cells #[.pointer (some ⟨b,0,none⟩),.slice lo ll lc,.int .i64 (n:Int)] t)
 exact ⟨cellAt h 0,cellAt h 1,cellAt h 2⟩
theorem BoxAt.same {w w' : World} {k b:Nat} {lo:Option Addr} {ll lc n:Nat} (h:BoxAt w k b lo ll lc n) (hb:k<w.heap.size) (hk:Same0 w w'):BoxAt w' k b lo ll lc n:=
 ⟨(hk.cell (p:=⟨k,0,none⟩) hb (fun f=>f)).trans h.1,(hk.cell (p:=⟨k,1,none⟩) hb (fun f=>f)).trans h.2.1,(hk.cell (p:=⟨k,2,none⟩) hb (fun f=>f)).trans h.2.2⟩
theorem iwrap {z:Int} (h1 : -9223372036854775808≤z) (h2:z<9223372036854775808):IntKind.i64.wrap z=z:=by
 simp [IntKind.wrap,IntKind.bits,IntKind.signed];omega
set_option maxHeartbeats 2000000 in
theorem many_any {w:World} {b bs:Nat} {ro:Option Addr} {rc:Nat} {L:List Sym} {R:List Ru} {lo:Option Addr} {l:List Ru} {n lc:Nat} (h:Cnd w b bs ro rc L R lo l n) :
  Calls Tryz.prog 152 #[.agg #[.pointer (some ⟨b,0,none⟩),.slice lo l.length lc,.int .i64 (n:Int)]] w fun e w' => ∃ v,e=.returned v∧FltAt w' (askW L R l 0 n) v∧Same0 w w' := by
 have W1:Same0 w (w.alloc (.cells #[.pointer (some ⟨b,0,none⟩),.slice lo l.length lc,.int .i64 (n:Int)] 222)):=(Kept.refl _ w).alloc _
 have B1:=box_new w b lo l.length lc n 222
 have C1:=(h.st.same W1).cells
 have hz:w.heap.size<(w.alloc (.cells #[.pointer (some ⟨b,0,none⟩),.slice lo l.length lc,.int .i64 (n:Int)] 222)).heap.size:=by simp
 have HS:Hid (∀ ww,Same0 (w.alloc (.cells #[.pointer (some ⟨b,0,none⟩),.slice lo l.length lc,.int .i64 (n:Int)] 222)) ww→(ww.cell? ⟨b,0,none⟩=some (.pointer (some ⟨bs,0,none⟩))∧ww.cell? ⟨b,1,none⟩=some (.slice ro R.length rc))∧ww.cell? ⟨w.heap.size,0,none⟩=some (.pointer (some ⟨b,0,none⟩))∧ww.cell? ⟨w.heap.size,1,none⟩=some (.slice lo l.length lc)∧ww.cell? ⟨w.heap.size,2,none⟩=some (.int .i64 (n:Int))):=fun ww hk=>⟨((h.st.same W1).same hk).cells,B1.same hz hk⟩
 have hR:=h.st.le
 have hl:=h.ll
 have CC0:=HS.out _ (Kept.refl _ _)
 have E:Hid (∀ q:Bool,q=decide (R.length+l.length≤100)→(if q=true then [(0, -1)] else [(70,(n:Int))])=askW L R l 0 n):=by
  intro q hq
  subst hq
  simp only [askW,ckB,askB,wrongL]
  split <;> simp_all
 have Q:Hid (decide (IntKind.i64.wrap ((R.length:Int)+(l.length:Int))≤100)=decide (R.length+l.length≤100)):=by
  show _=_
  rw [iwrap (by omega) (by omega)]
  congr 1
  exact propext ⟨fun h=>by omega,fun h=>by omega⟩
 clear B1 C1 hz
 go_enter Tryz.func152,Tryz.ntmps152
 go_wp2
 go_region_held3 (fun w' => (w'.cell? ⟨b,0,none⟩=some (.pointer (some ⟨bs,0,none⟩))∧w'.cell? ⟨b,1,none⟩=some (.slice ro R.length rc))∧w'.cell? ⟨w.heap.size,0,none⟩=some (.pointer (some ⟨b,0,none⟩))∧w'.cell? ⟨w.heap.size,1,none⟩=some (.slice lo l.length lc)∧w'.cell? ⟨w.heap.size,2,none⟩=some (.int .i64 (n:Int))) (first | exact cc1 | exact CC0) (first | (go_at_call 173;refine (unless_any _ _ _ _ _ _ _ _).mono ?_;rintro e w2 ⟨v,rfl,hv,hk2⟩;have cc1:=HS.out _ (Same0.trans' (Kept.drew (Kept.refl _ _)) hk2)))
 go_wp2
 go_ret
 exact ⟨_,rfl,by rw [← E.out _ Q.out];exact hv,Same0.trans' (Kept.drew W1) hk2⟩
end Go.Proofs.YtdhiiicppcgkbaaGreat
