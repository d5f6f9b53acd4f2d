import Derived.Test.YtjahpnbijefncaaGreatCR09
import Derived.Test.YtjahpnbijefncaaGreatCR03
import Derived.Test.YtjahpnbijefncaaGreatCR04
import Derived.Test.YtjahpnbijefncaaGreatCR07
namespace Go.Proofs.YtjahpnbijefncaaGreat
set_option maxRecDepth 100000
set_option linter.unusedVariables false
open Go.RowKit
theorem ofN_len (l:List Nat):(ofN l).length=l.length:=by simp [ofN]
def NdB (w:World) (k:Nat):Prop:=∃ cur,w.heap[k]? = some (.cells cur 106 (0,0))
theorem ArgT.keptN {w w' : World} {ao:Option Addr} {xs:List Int} {cap:Nat} {S:Nat→Prop} (h:ArgT w ao xs cap) (hk:Kept S w w') (hS:∀ k,S k→NdB w k):ArgT w' ao xs cap:=
 h.kept hk (fun k e cur hc=>by obtain ⟨c,h2⟩:=hS k e;rw [hc] at h2;cases h2)
def PsAt (w:World) (po:Option Addr) (P:List (List Int)):Prop:=
 P=[]∨∃ b off,po=some ⟨b,off,none⟩∧(∃ cur,w.heap[b]? = some (.cells cur 32 (0,0)))∧∀ i (h:i<P.length),∃ ao ac,w.cell? ⟨b,off+i,none⟩=some (.slice ao P[i].length ac)∧ArgT w ao P[i] ac
theorem PsAt.keptN {w w' : World} {po:Option Addr} {P:List (List Int)} {S:Nat→Prop} (h:PsAt w po P) (hk:Kept S w w') (hS:∀ k,S k→NdB w k):PsAt w' po P:=by
 refine h.imp id ?_
 rintro ⟨b,off,rfl,⟨cur,hb⟩,hc⟩
 have nb:¬ S b:=fun e=>by obtain ⟨c,h2⟩:=hS b e;rw [hb] at h2;cases h2
 refine ⟨b,off,rfl,⟨cur,hk.at hb nb⟩,fun i hi=>?_⟩
 obtain ⟨ao,ac,h1,h2⟩:=hc i hi
 exact ⟨ao,ac,(hk.cell (p:=⟨b,off+i,none⟩) (lt_of_at hb) nb).trans h1,h2.keptN hk hS⟩
theorem PsAt.same {w w' : World} {po:Option Addr} {P:List (List Int)} (h:PsAt w po P) (hk:Same0 w w'):PsAt w' po P:=h.keptN hk (fun _ f=>f.elim)
theorem PsAt.get {w:World} {po:Option Addr} {P:List (List Int)} (h:PsAt w po P) {i:Nat} (hi:i<P.length):∃ b off ao ac,po=some ⟨b,off,none⟩∧b<w.heap.size∧w.cell? ⟨b,off+i,none⟩=some (.slice ao P[i].length ac)∧ArgT w ao P[i] ac:=by
 rcases h with rfl | ⟨b,off,e,⟨cur,hb⟩,hc⟩
 ·simp at hi
 ·obtain ⟨ao,ac,h1,h2⟩:=hc i hi
  exact ⟨b,off,ao,ac,e,lt_of_at hb,h1,h2⟩
def PCells (w:World) (vs:List Value) (P:List (List Int)):Prop:=
 vs.length=P.length∧∀ i (h:i<P.length),∃ ao ac,vs[i]? = some (.slice ao P[i].length ac)∧ArgT w ao P[i] ac
theorem PCells.nil (w:World):PCells w [] []:=⟨rfl,fun i h=>absurd h (by simp)⟩
theorem PCells.same {w w' : World} {vs:List Value} {P:List (List Int)} (h:PCells w vs P) (hk:Same0 w w'):PCells w' vs P:=
 ⟨h.1,fun i hi=>by
  obtain ⟨ao,ac,h1,h2⟩:=h.2 i hi
  exact ⟨ao,ac,h1,h2.same hk⟩⟩
theorem PCells.kept {w w' : World} {vs:List Value} {P:List (List Int)} {S:Nat→Prop} (h:PCells w vs P) (hk:Kept S w w') (hS:∀ k,S k→∀ cur,w.heap[k]? ≠ some (.cells cur 3 (0,0))):PCells w' vs P:=
 ⟨h.1,fun i hi=>by
  obtain ⟨ao,ac,h1,h2⟩:=h.2 i hi
  exact ⟨ao,ac,h1,h2.kept hk hS⟩⟩
theorem PCells.append {w:World} {vs us:List Value} {P Q:List (List Int)} (h:PCells w vs P) (k:PCells w us Q):PCells w (vs++us) (P++Q):=by
 refine ⟨by simp [h.1,k.1],fun i hi=>?_⟩
 by_cases hl:i<P.length
 ·rw [List.getElem_append_left hl,List.getElem?_append_left (by rw [h.1];omega)]
  exact h.2 i hl
 ·have hm:i-P.length<Q.length:=by simp at hi;omega
  rw [List.getElem_append_right (by omega),List.getElem?_append_right (by rw [h.1];omega),h.1]
  exact k.2 _ hm
theorem PCells.take {w:World} {vs:List Value} {P:List (List Int)} (h:PCells w vs P) (n:Nat):PCells w (vs.take n) (P.take n):=by
 refine ⟨by simp [h.1],fun i hi=>?_⟩
 have hi' : i<P.length:=by simp at hi;omega
 have hn:i<n:=by simp at hi;omega
 obtain ⟨ao,ac,h1,h2⟩:=h.2 i hi'
 exact ⟨ao,ac,by rw [List.getElem?_take,if_pos hn];simpa using h1,by simpa using h2⟩
theorem PCells.drop {w:World} {vs:List Value} {P:List (List Int)} (h:PCells w vs P) (n:Nat):PCells w (vs.drop n) (P.drop n):=by
 refine ⟨by simp [h.1],fun i hi=>?_⟩
 have hi' : n+i<P.length:=by simp at hi;omega
 obtain ⟨ao,ac,h1,h2⟩:=h.2 (n+i) hi'
 exact ⟨ao,ac,by rw [List.getElem?_drop];simpa using h1,by simpa using h2⟩
theorem PCells.one {w:World} {vs:List Value} {P:List (List Int)} (h:PCells w vs P):∀ u∈vs,u.oneCell' = true:=by
 intro u hu
 obtain ⟨j,hj,rfl⟩:=List.mem_iff_getElem.1 hu
 obtain ⟨ao,ac,h1,_⟩:=h.2 j (by rw [← h.1];exact hj)
 rw [List.getElem?_eq_getElem hj] at h1
 simp only [Option.some.injEq] at h1
 rw [h1];rfl
theorem PsAt.cells {w:World} {po:Option Addr} {P:List (List Int)} (h:PsAt w po P):∃ vs,PCells w vs P∧∀ ad,po=some ad→∀ j u,vs[j]? = some u→w.cell? (ad.add j)=some u:=by
 rcases h with rfl | ⟨b,off,rfl,hb,hc⟩
 ·exact ⟨[],PCells.nil w,fun ad _ j u hj=>by simp at hj⟩
 ·refine ⟨(List.range P.length).map (fun j=>(w.cell? ⟨b,off+j,none⟩).getD undef),⟨by simp,fun i hi=>?_⟩,fun ad e j u hj=>?_⟩
  ·obtain ⟨ao,ac,h1,h2⟩:=hc i hi
   exact ⟨ao,ac,by simp [hi,h1],h2⟩
  ·cases e
   rw [addr_add]
   have hlt:j<P.length:=by have:=(List.getElem?_eq_some_iff.1 hj).1;simpa using this
   obtain ⟨ao,ac,h1,_⟩:=hc j hlt
   simp [hlt,h1] at hj
   rw [h1,hj]
theorem row_paths {w:World} {base N:Nat} {v:Value} {vs:List Value} {P:List (List Int)} (hr:w.ownsRow base 32 1 v N vs) (hc:PCells w vs P):∃ ao cap,v=.slice ao P.length cap∧PsAt w ao P∧(ao=none→cap=0)∧P.length≤cap:=by
 have hN:N=P.length:=by have:=hr.1;rw [hc.1] at this;omega
 subst hN
 rcases hr.2 with ⟨rfl,h0⟩ | ⟨g,cap,cur,rfl,_,hg,hle,_,_,ht⟩
 ·exact ⟨none,0,by rw [h0],.inl (List.eq_nil_of_length_eq_zero h0),fun _=>rfl,by omega⟩
 ·refine ⟨_,cap,rfl,.inr ⟨g,0,rfl,⟨cur,hg⟩,fun i hi=>?_⟩,(fun e=>by cases e),hle⟩
  obtain ⟨ao,ac,h1,h2⟩:=hc.2 i hi
  have q1:=hr.cells (g:=g) rfl _ _ h1
  rw [addr_add] at q1
  exact ⟨ao,ac,q1,h2⟩
def RwC (w:World) (b off:Nat) (x:Rw):Prop:=
 ∃ ao ac bo bc,w.cell? ⟨b,off,none⟩=some (.int .i64 x.1)∧w.cell? ⟨b,off+1,none⟩=some (.slice ao x.2.1.length ac)∧w.cell? ⟨b,off+2,none⟩=some (.slice bo x.2.2.length bc)∧ArgT w ao x.2.1 ac∧ArgT w bo (ofN x.2.2) bc
def RwAt (w:World) (ro:Option Addr) (R:List Rw):Prop:=
 R=[]∨∃ b off,ro=some ⟨b,off,none⟩∧(∃ cur,w.heap[b]? = some (.cells cur 168 (0,0)))∧∀ i (h:i<R.length),RwC w b (off+i * 3) R[i]
theorem RwAt.keptN {w w' : World} {ro:Option Addr} {R:List Rw} {S:Nat→Prop} (h:RwAt w ro R) (hk:Kept S w w') (hS:∀ k,S k→NdB w k):RwAt w' ro R:=by
 refine h.imp id ?_
 rintro ⟨b,off,rfl,⟨cur,hb⟩,hc⟩
 have nb:¬ S b:=fun e=>by obtain ⟨c,h2⟩:=hS b e;rw [hb] at h2;cases h2
 have hl:=lt_of_at hb
 refine ⟨b,off,rfl,⟨cur,hk.at hb nb⟩,fun i hi=>?_⟩
 obtain ⟨ao,ac,bo,bc,h0,h1,h2,h3,h4⟩:=hc i hi
 exact ⟨ao,ac,bo,bc,(hk.cell (p:=⟨b,off+i * 3,none⟩) hl nb).trans h0,(hk.cell (p:=⟨b,off+i * 3+1,none⟩) hl nb).trans h1,(hk.cell (p:=⟨b,off+i * 3+2,none⟩) hl nb).trans h2,h3.keptN hk hS,h4.keptN hk hS⟩
theorem RwAt.same {w w' : World} {ro:Option Addr} {R:List Rw} (h:RwAt w ro R) (hk:Same0 w w'):RwAt w' ro R:=h.keptN hk (fun _ f=>f.elim)
theorem RwAt.get {w:World} {ro:Option Addr} {R:List Rw} (h:RwAt w ro R) {i:Nat} (hi:i<R.length):∃ b off,ro=some ⟨b,off,none⟩∧b<w.heap.size∧RwC w b (off+i * 3) R[i]:=by
 rcases h with rfl | ⟨b,off,e,⟨cur,hb⟩,hc⟩
 ·simp at hi
 ·exact ⟨b,off,e,lt_of_at hb,hc i hi⟩
theorem info_row:(Tryz.prog.info? 168).map (fun i=>(i.zero,i.size,i.bytes))=some (some (.agg #[.int .i64 0,.slice none 0 0,.slice none 0 0]),3,56):=by kernel_rfl
def WCells (w:World) (vs:List Value) (l:List Rw):Prop:=
 vs.length=l.length * 3∧∀ i (h:i<l.length),∃ ao ac bo bc,vs[i * 3]? = some (.int .i64 l[i].1)∧vs[i * 3+1]? = some (.slice ao l[i].2.1.length ac)∧vs[i * 3+2]? = some (.slice bo l[i].2.2.length bc)∧ArgT w ao l[i].2.1 ac∧ArgT w bo (ofN l[i].2.2) bc
theorem WCells.nil (w:World):WCells w [] []:=⟨rfl,fun i h=>absurd h (by simp)⟩
theorem WCells.same {w w' : World} {vs:List Value} {l:List Rw} (h:WCells w vs l) (hk:Same0 w w'):WCells w' vs l:=
 ⟨h.1,fun i hi=>by
  obtain ⟨ao,ac,bo,bc,h0,h1,h2,h3,h4⟩:=h.2 i hi
  exact ⟨ao,ac,bo,bc,h0,h1,h2,h3.same hk,h4.same hk⟩⟩
theorem WCells.snoc {w:World} {vs:List Value} {l:List Rw} (h:WCells w vs l) {x:Rw} {ao bo:Option Addr} {ac bc:Nat} (h3:ArgT w ao x.2.1 ac) (h4:ArgT w bo (ofN x.2.2) bc):WCells w (vs ++ [.int .i64 x.1,.slice ao x.2.1.length ac,.slice bo x.2.2.length bc]) (l ++ [x]):=by
 refine ⟨by simp [h.1];omega,fun i hi=>?_⟩
 by_cases hl:i<l.length
 ·rw [List.getElem_append_left hl,List.getElem?_append_left (by rw [h.1];omega),List.getElem?_append_left (by rw [h.1];omega),List.getElem?_append_left (by rw [h.1];omega)]
  exact h.2 i hl
 ·obtain rfl:i=l.length:=by simp at hi;omega
  refine ⟨ao,ac,bo,bc,?_,?_,?_,by simpa using h3,by simpa using h4⟩
  ·rw [List.getElem?_append_right (by rw [h.1];omega),h.1];simp
  ·rw [List.getElem?_append_right (by rw [h.1];omega),h.1];simp [Nat.add_sub_cancel_left]
  ·rw [List.getElem?_append_right (by rw [h.1];omega),h.1];simp [Nat.add_sub_cancel_left]
theorem row_rows {w:World} {base N:Nat} {v:Value} {vs:List Value} {l:List Rw} (hr:w.ownsRow base 168 3 v N vs) (hc:WCells w vs l):∃ ao cap,v=.slice ao l.length cap∧RwAt w ao l∧(ao=none→cap=0)∧N=l.length:=by
 have hN:N=l.length:=by have:=hr.1;rw [hc.1] at this;omega
 subst hN
 rcases hr.2 with ⟨rfl,h0⟩ | ⟨g,cap,cur,rfl,_,hg,_,_,_,ht⟩
 ·exact ⟨none,0,by rw [h0],.inl (List.eq_nil_of_length_eq_zero h0),fun _=>rfl,rfl⟩
 ·refine ⟨_,cap,rfl,.inr ⟨g,0,rfl,⟨cur,hg⟩,fun i hi=>?_⟩,(fun e=>by cases e),rfl⟩
  obtain ⟨ao,ac,bo,bc,h0,h1,h2,h3,h4⟩:=hc.2 i hi
  have q0:=hr.cells (g:=g) rfl _ _ h0
  have q1:=hr.cells (g:=g) rfl _ _ h1
  have q2:=hr.cells (g:=g) rfl _ _ h2
  rw [addr_add] at q0 q1 q2
  exact ⟨ao,ac,bo,bc,q0,by rw [← q1];congr 2,by rw [← q2];congr 2,h3,h4⟩
theorem WCells.kept {w w' : World} {vs:List Value} {l:List Rw} {S:Nat→Prop} (h:WCells w vs l) (hk:Kept S w w') (hS:∀ k,S k→∀ cur,w.heap[k]? ≠ some (.cells cur 3 (0,0))):WCells w' vs l:=
 ⟨h.1,fun i hi=>by
  obtain ⟨ao,ac,bo,bc,h0,h1,h2,h3,h4⟩:=h.2 i hi
  exact ⟨ao,ac,bo,bc,h0,h1,h2,h3.kept hk hS,h4.kept hk hS⟩⟩
end Go.Proofs.YtjahpnbijefncaaGreat
namespace Go.Proofs.YtjahpnbijefncaaGreat
set_option maxRecDepth 100000
set_option linter.unusedVariables false
open Go.RowKit
attribute [local go_sem ↓] Go.wp_at_zero Go.wp_at_succ
def argsL (L:List Sym) (T:List Int):List (List Int):=(List.range T.length).map (fun q=>ofN (argsN L T q))
theorem argsL_length (L:List Sym) (T:List Int):(argsL L T).length=T.length:=by simp [argsL]
theorem argsL_at {L:List Sym} {T:List Int} {q:Nat} (h:q<(argsL L T).length):(argsL L T)[q]=ofN (argsN L T q):=by simp [argsL]
def PsB (base:Nat) (w:World) (po:Option Addr) (P:List (List Int)):Prop:=
 P=[]∨∃ b off,po=some ⟨b,off,none⟩∧base≤b∧b<w.heap.size∧∀ i (h:i<P.length),∃ ao ac,w.cell? ⟨b,off+i,none⟩=some (.slice ao P[i].length ac)∧IntsAt w ao P[i]∧∀ a,ao=some a→base≤a.block
theorem PsB.kept {base:Nat} {w w' : World} {po:Option Addr} {P:List (List Int)} {S:Nat→Prop} (h:PsB base w po P) (hk:Kept S w w') (hS:∀ k,base≤k→¬ S k):PsB base w' po P:=by
 refine h.imp id ?_
 rintro ⟨b,off,rfl,hb,hl,hc⟩
 refine ⟨b,off,rfl,hb,Nat.lt_of_lt_of_le hl hk.size,fun i hi=>?_⟩
 obtain ⟨ao,ac,h1,h2,h3⟩:=hc i hi
 exact ⟨ao,ac,(hk.cell (p:=⟨b,off+i,none⟩) hl (hS b hb)).trans h1,h2.kept hk (fun a e=>hS _ (h3 a e)),h3⟩
def VwAt (base:Nat) (w:World) (L:List Sym) (ok:Bool) (T:List Int) (v:Value):Prop:=
 ∃ ho hc ao ac,v=.agg #[.slice ho (if ok then T.length else 0) hc,.slice ao (if ok then T.length else 0) ac]∧(ok=true→IntsAt w ho T∧(∀ a,ho=some a→base≤a.block)∧PsB base w ao (argsL L T))
theorem VwAt.kept {base:Nat} {w w' : World} {L:List Sym} {ok:Bool} {T:List Int} {v:Value} {S:Nat→Prop} (h:VwAt base w L ok T v) (hk:Kept S w w') (hS:∀ k,base≤k→¬ S k):VwAt base w' L ok T v:=by
 obtain ⟨ho,hc,ao,ac,e,h1⟩:=h
 refine ⟨ho,hc,ao,ac,e,fun q=>?_⟩
 obtain ⟨a,b,c⟩:=h1 q
 exact ⟨a.kept hk (fun x e=>hS _ (b x e)),b,c.kept hk hS⟩
theorem VwAt.same {base:Nat} {w w' : World} {L:List Sym} {ok:Bool} {T:List Int} {v:Value} (h:VwAt base w L ok T v) (hk:Same0 w w'):VwAt base w' L ok T v:=h.kept hk (fun _ _ f=>f)
def headI (ok:Bool) (T:List Int) (p:Int):Int:=if (ok && idxB p T.length)=true then T.getD p.toNat (-1) else -1
def argI (L:List Sym) (ok:Bool) (T:List Int) (p n:Int):Int:=if (ok && idxB p T.length)=true then (if idxB n (argsN L T p.toNat).length=true then (((argsN L T p.toNat).getD n.toNat 0:Nat):Int) else -1) else -1
theorem idx_yes {n:Int} {m:Nat} (h:idxB n m=true):∃ i:Nat,n=(i:Int)∧i<m:=by
 simp [idxB] at h
 exact ⟨n.toNat,by omega,by omega⟩
theorem idx_zero (n:Int):idxB n 0=false:=by
 simp [idxB]
theorem idx_if (ok:Bool) (n:Int) (m:Nat):idxB n (if ok then m else 0)=(ok && idxB n m):=by
 cases ok
 ·simp [idx_zero]
 ·simp
set_option maxHeartbeats 2000000 in
theorem head_any {base:Nat} {w:World} {L:List Sym} {ok:Bool} {T:List Int} {v:Value} (h:VwAt base w L ok T v) (p:Int) :
  Calls Tryz.prog 212 #[v,.int .i64 p] w fun e w' => e=.returned (.tuple #[.int .i64 (headI ok T p),.bool false])∧Same0 w w' := by
 obtain ⟨ho,hc,ao,ac,rfl,h1⟩:=h
 have CI:=isIndex_any p (if ok then T.length else 0)
 rw [idx_if] at CI
 have ka:Same0 w (w.alloc (.cells #[.slice ho (if ok then T.length else 0) hc,.slice ao (if ok then T.length else 0) ac] 121)):=(Kept.refl _ w).alloc _
 cases hi:(ok && idxB p T.length) with
 | false=>
  rw [hi] at CI
  have H:Hid (headI ok T p = -1):=by show _=_;rw [headI,if_neg (by rw [hi];decide)]
  clear hi h1
  generalize (if ok then T.length else 0)=N at *
  go_enter Tryz.func212,Tryz.ntmps212
  go_wp2_with (first | (go_at_call 56;refine (CI _).mono ?_;rintro e w2 ⟨rfl,rfl⟩))
  exact bodyPost_ret (v:=.tuple #[.int .i64 (-1),.bool false]) (by simp [results,Tryz.results212,go_sem]) rfl ⟨by rw [H.out],ka⟩
 | true=>
  rw [hi] at CI
  obtain ⟨rfl,hx⟩:ok=true∧idxB p T.length=true:=by simpa using hi
  obtain ⟨i,rfl,hl⟩:=idx_yes hx
  have H:Hid (headI true T (i:Int)=T[i]):=by
   show _=_
   rw [headI,if_pos (by simpa using hx),Int.toNat_natCast]
   simp [hl]
  obtain ⟨a,_,_⟩:=h1 rfl
  obtain ⟨b,off,rfl,hb,hcell⟩:=(a.same ka).get hl
  simp only [if_true] at CI ka hcell ⊢
  have i1:(0:Int)≤(i:Int):=by omega
  have i2:(i:Int)<(T.length:Int):=by omega
  clear hi h1 a hx
  go_enter Tryz.func212,Tryz.ntmps212
  go_wp2_with (first | (go_at_call 56;refine (CI _).mono ?_;rintro e w2 ⟨rfl,rfl⟩))
  exact bodyPost_ret (v:=.tuple #[.int .i64 T[i],.bool false]) (by simp [results,Tryz.results212,go_sem]) rfl ⟨by rw [H.out],ka⟩
set_option maxHeartbeats 4000000 in
theorem arg_any {base:Nat} {w:World} {L:List Sym} {ok:Bool} {T:List Int} {v:Value} (h:VwAt base w L ok T v) (p n:Int) :
  Calls Tryz.prog 211 #[v,.int .i64 p,.int .i64 n] w fun e w' => e=.returned (.int .i64 (argI L ok T p n))∧Same0 w w' := by
 obtain ⟨ho,hc,ao,ac,rfl,h1⟩:=h
 have CI:=isIndex_any p (if ok then T.length else 0)
 rw [idx_if] at CI
 have ka:Same0 w (w.alloc (.cells #[.slice ho (if ok then T.length else 0) hc,.slice ao (if ok then T.length else 0) ac] 121)):=(Kept.refl _ w).alloc _
 cases hi:(ok && idxB p T.length) with
 | false=>
  rw [hi] at CI
  have H:Hid (argI L ok T p n = -1):=by show _=_;rw [argI,if_neg (by rw [hi];decide)]
  clear hi h1
  generalize (if ok then T.length else 0)=N at *
  go_enter Tryz.func211,Tryz.ntmps211
  go_wp2_with (first | (go_at_call 56;refine (CI _).mono ?_;rintro e w2 ⟨rfl,rfl⟩))
  go_ret
  exact ⟨by rw [H.out];rfl,ka⟩
 | true=>
  rw [hi] at CI
  obtain ⟨rfl,hx⟩:ok=true∧idxB p T.length=true:=by simpa using hi
  obtain ⟨i,rfl,hl⟩:=idx_yes hx
  obtain ⟨_,_,a⟩:=h1 rfl
  have a' := a.kept ka (fun _ _ f=>f)
  rcases a' with e0 | ⟨b,off,rfl,_,hb,hcell⟩
  ·have:=argsL_length L T;rw [e0] at this;simp at this;omega
  ·obtain ⟨qo,qc,c1,c2,_⟩:=hcell i (by rw [argsL_length];exact hl)
   rw [argsL_at] at c1 c2
   have hN:(ofN (argsN L T i)).length=(argsN L T i).length:=ofN_len _
   rw [hN] at c1
   obtain ⟨A,hA⟩:∃ A,A=argsN L T i:=⟨_,rfl⟩
   have HV:Hid (argI L true T (i:Int) n=if idxB n A.length=true then ((A.getD n.toNat 0:Nat):Int) else -1):=by
    show _=_
    rw [argI,if_pos (by simpa using hx),Int.toNat_natCast,hA]
   rw [← hA] at c1 c2 hN
   have CJ:=isIndex_any n A.length
   simp only [if_true] at CI ka c1 c2 ⊢
   have i1:(0:Int)≤(i:Int):=by omega
   have i2:(i:Int)<(T.length:Int):=by omega
   have CC:Hid (∀ (z:Int) (m:Nat) ww,(z=(i:Int)∧m=T.length)∨(z=n∧m=A.length)→Calls Tryz.prog 56 #[.int .i64 z,.int .i64 (m:Int)] ww fun e w' => e=.returned (.bool (idxB z m))∧w' = ww):=fun z m ww _=>isIndex_any z m ww
   have hx2:idxB (i:Int) T.length=true:=hx
   cases hj:idxB n A.length with
   | false=>
    rw [hj] at HV CJ
    have H:Hid (argI L true T (i:Int) n = -1):=by rw [HV.out];rfl
    clear hi h1 a hx HV hA
    go_enter Tryz.func211,Tryz.ntmps211
    go_wp2_with (first | (go_at_call 56;have hold:=hdone;refine (CJ _).mono ?_;rintro e w2 ⟨rfl,rfl⟩) | (go_at_call 56;refine (CI _).mono ?_;rintro e w2 ⟨rfl,rfl⟩;have hdone:True:=trivial))
    go_ret
    exact ⟨by rw [H.out];rfl,ka⟩
   | true=>
    obtain ⟨j,rfl,hjl⟩:=idx_yes hj
    rw [hj] at HV CJ
    have H:Hid (argI L true T (i:Int) (j:Int)=((A[j]:Nat):Int)):=by rw [HV.out];show _=_;simp [hjl]
    obtain ⟨qb,qoff,rfl,hqb,hq⟩:=c2.get (i:=j) (by rw [hN];exact hjl)
    have hq2:(ofN A)[j]'(by rw [hN];exact hjl)=((A[j]:Nat):Int):=by simp [ofN]
    rw [hq2] at hq
    have j1:(0:Int)≤(j:Int):=by omega
    have j2:(j:Int)<(A.length:Int):=by omega
    clear hi h1 a hx HV hA c2 hq2
    go_enter Tryz.func211,Tryz.ntmps211
    go_wp2_with (first | (go_at_call 56;have hold:=hdone;refine (CJ _).mono ?_;rintro e w2 ⟨rfl,rfl⟩) | (go_at_call 56;refine (CI _).mono ?_;rintro e w2 ⟨rfl,rfl⟩;have hdone:True:=trivial))
    go_ret
    exact ⟨by rw [H.out];rfl,ka⟩
theorem kept_at (w:World) (b o:Nat) (u:Value):Kept (fun k=>k=b) w (w.setCell ⟨b,o,none⟩ u):=Kept.setCell (p:=⟨b,o,none⟩) (Kept.refl (fun k=>k=b) w) (fun _=>rfl) u
def Lsts (w:World) (b n:Nat) (f:Nat→Value):Prop:=∃ cs,w.heap[b]? = some (.cells cs 32 (0,0))∧cs.size=n∧∀ i,i<n→cs[i]? = some (f i)
theorem Lsts.kept {S:Nat→Prop} {w w' : World} {b n:Nat} {f:Nat→Value} (h:Lsts w b n f) (hk:Kept S w w') (hs:¬ S b):Lsts w' b n f:=by
 obtain ⟨cs,h1,h2,h3⟩:=h
 exact ⟨cs,hk.at h1 hs,h2,h3⟩
theorem Lsts.cell {w:World} {b n:Nat} {f:Nat→Value} (h:Lsts w b n f) {i:Nat} (hi:i<n):w.cell? ⟨b,i,none⟩=some (f i)∧w.frozen? ⟨b,i,none⟩=false:=by
 obtain ⟨cs,h1,h2,h3⟩:=h
 exact ⟨(cellAt h1 i).trans (h3 i hi),frozenAt h1 i⟩
theorem Lsts.set {w:World} {b n:Nat} {f:Nat→Value} (h:Lsts w b n f) (i:Nat) (v:Value):Lsts (w.setCell ⟨b,i,none⟩ v) b n (fun k=>if k=i then v else f k):=by
 obtain ⟨cs,h1,h2,h3⟩:=h
 refine ⟨cs.setIfInBounds i v,setAt h1 i v,by simp [h2],fun k hk=>?_⟩
 by_cases e:k=i
 ·subst e;simp [h2,hk]
 ·simp only [if_neg e];rw [Array.getElem?_setIfInBounds_ne (fun q=>e q.symm)];exact h3 k hk
theorem Lsts.congr {w:World} {b n:Nat} {f g:Nat→Value} (h:Lsts w b n f) (e:∀ i,i<n→f i=g i):Lsts w b n g:=by
 obtain ⟨cs,h1,h2,h3⟩:=h
 exact ⟨cs,h1,h2,fun i hi=>by rw [← e i hi];exact h3 i hi⟩
theorem Lsts.lt {w:World} {b n:Nat} {f:Nat→Value} (h:Lsts w b n f):b<w.heap.size:=by
 obtain ⟨cs,h1,_⟩:=h
 exact lt_of_at h1
theorem made_slices (n i:Nat) (h:i<n):(madeCells #[Value.slice none 0 0] n)[i]? = some (.slice none 0 0):=by
 rw [← Array.getElem?_toList,toList_madeCells_one];simp [h]
def AOut (L:List Sym) (T:List Int) (w0:World) (gA gE k:Nat) (wr:World):Prop:=
 Same0 w0 wr∧gA≠gE∧w0.heap.size≤gA∧w0.heap.size≤gE∧∃ (en:Nat→Int) (f:Nat→Value),Nums wr gE T.length en∧Lsts wr gA T.length f∧(∀ q,k≤q→q<T.length→en q=(endN L T q:Int))∧(∀ q,q<k→f q=.slice none 0 0) ∧
  ∀ q,k≤q→q<T.length→∃ ao ac,f q=.slice ao (argsN L T q).length ac∧IntsAt wr ao (ofN (argsN L T q))∧∀ a,ao=some a→a.block≠gE∧a.block≠gA∧w0.heap.size≤a.block
def AIn (L:List Sym) (T:List Int) (w0:World) (gA gE p:Nat) (en:Nat→Int) (f:Nat→Value) (j:Nat) (wr:World):Prop:=
 Kept (fun k=>k=gE∨k=gA) w0 wr∧Nums wr gE T.length (fun q=>if q=p then (past L T j (p+1):Int) else en q)∧∃ vo vc,Lsts wr gA T.length (fun q=>if q=p then .slice vo j vc else f q)∧wr.ownsRow w0.heap.size 3 1 (.slice vo j vc) j (iv (ofN (starts L T j (p+1))))
theorem AOut.same {L:List Sym} {T:List Int} {w0:World} {gA gE k:Nat} {wr w' : World} (h:AOut L T w0 gA gE k wr) (hk:Same0 wr w'):AOut L T w0 gA gE k w' := by
 obtain ⟨h0,h1,h2,h3,en,f,h4,h5,h6,h7,h8⟩:=h
 refine ⟨h0.trans' hk,h1,h2,h3,en,f,h4.kept hk (fun f=>f),h5.kept hk (fun f=>f),h6,h7,fun q a b=>?_⟩
 obtain ⟨ao,ac,x,y,z⟩:=h8 q a b
 exact ⟨ao,ac,x,y.same hk,z⟩
theorem AIn.done {L:List Sym} {T:List Int} {w0 wp wr:World} {gA gE p:Nat} (hT:IsT L T) (hp:p<T.length) (h0:Same0 w0 wp) (hg:gA≠gE) (hA:w0.heap.size≤gA) (hE:w0.heap.size≤gE) {en:Nat→Int} {f:Nat→Value} (h6:∀ q,p+1≤q→q<T.length→en q=(endN L T q:Int)) (h7:∀ q,q<p+1→f q=.slice none 0 0)
  (h8:∀ q,p+1≤q→q<T.length→∃ ao ac,f q=.slice ao (argsN L T q).length ac∧IntsAt wp ao (ofN (argsN L T q))∧∀ a,ao=some a→a.block≠gE∧a.block≠gA∧w0.heap.size≤a.block) (hlA:gA<wp.heap.size) (hlE:gE<wp.heap.size) (h:AIn L T wp gA gE p en f (arN L T[p]) wr):AOut L T w0 gA gE p wr:=by
 obtain ⟨k1,h2,vo,vc,h3,h4⟩:=h
 have hf:=(Forest.one hT hp).kids.2
 have hpast:=hf.past
 have hS:Same0 w0 wr:=Kept.trans h0 k1 (fun i hi e=>by rcases e with e | e <;> omega)
 refine ⟨hS,hg,hA,hE,_,_,h2,h3,fun q a b=>?_,fun q a=>?_,fun q a b=>?_⟩
 ·by_cases e:q=p
  ·subst e;rw [if_pos rfl,hpast]
  ·rw [if_neg e];exact h6 q (by omega) b
 ·rw [if_neg (by omega)];exact h7 q (by omega)
 ·by_cases e:q=p
  ·subst e
   have hN:argsN L T q=starts L T (arN L T[q]) (q+1):=argsN_eq hp
   have hlen:(argsN L T q).length=arN L T[q]:=by rw [hN,starts_length]
   refine ⟨vo,vc,by rw [if_pos rfl,hlen],?_,fun a e=>?_⟩
   ·rw [hN]
    rcases h4.2 with ⟨e1,e2⟩ | ⟨g,cap,cur,e1,e2,e3,_⟩
    ·have:(starts L T (arN L T[q]) (q+1)).length=0:=by rw [starts_length];exact e2
     rw [List.eq_nil_of_length_eq_zero this]
     exact .inl rfl
    ·simp only [Value.slice.injEq] at e1
     obtain ⟨rfl,_,rfl⟩:=e1
     refine .inr ⟨g,0,rfl,lt_of_at e3,fun i hi=>?_⟩
     have hc:=h4.cells (g:=g) rfl i (.int .i64 (ofN (starts L T (arN L T[q]) (q+1)))[i]) (iv_get hi)
     rw [addr_add] at hc
     exact hc
   ·rcases h4.2 with ⟨e1,e2⟩ | ⟨g,cap,cur,e1,e2,e3,_⟩
    ·simp only [Value.slice.injEq] at e1
     obtain ⟨rfl,_,_⟩:=e1
     cases e
    ·simp only [Value.slice.injEq] at e1
     obtain ⟨rfl,_,rfl⟩:=e1
     cases e
     have:=h0.size
     refine ⟨fun q=>?_,fun q=>?_,?_⟩
     ·simp at q;omega
     ·simp at q;omega
     ·simp;omega
  ·obtain ⟨ao,ac,x,y,z⟩:=h8 q (by omega) b
   refine ⟨ao,ac,by rw [if_neg e];exact x,y.kept k1 (fun a e=>?_),z⟩
   obtain ⟨z1,z2,_⟩:=z a e
   rintro (q | q) <;> contradiction
end Go.Proofs.YtjahpnbijefncaaGreat
namespace Go.Proofs.YtjahpnbijefncaaGreat
set_option linter.unusedVariables false
open Go.RowKit
attribute [local go_sem ↓] Go.wp_at_zero Go.wp_at_succ
def turnCells (l:List (Nat × Nat)):List Value:=l.flatMap fun x=>[.int .i64 (x.1:Int),.int .i64 (x.2:Int)]
theorem turnCells_length (l:List (Nat × Nat)):(turnCells l).length=l.length * 2:=by
 induction l with
 | nil=>rfl
 | cons x r ih=>simp [turnCells] at ih ⊢;omega
theorem turnCells_append (a b:List (Nat × Nat)):turnCells (a++b)=turnCells a++turnCells b:=by simp [turnCells]
theorem turnCells_at {l:List (Nat × Nat)} {i:Nat} (h:i<l.length):(turnCells l)[i * 2]? = some (.int .i64 (l[i].1:Int))∧(turnCells l)[i * 2+1]? = some (.int .i64 (l[i].2:Int)):=by
 induction l generalizing i with
 | nil=>simp at h
 | cons x r ih=>
  have e:turnCells (x :: r)=.int .i64 (x.1:Int) :: .int .i64 (x.2:Int) :: turnCells r:=by simp [turnCells]
  rw [e]
  cases i with
  | zero=>simp
  | succ j=>
   have:=ih (i:=j) (by simpa using h)
   rw [show (j+1) * 2=j * 2+1+1 by omega]
   simpa using this
theorem info_turn:(Tryz.prog.info? 283).map (fun i=>(i.zero,i.size,i.bytes))=some (some (.agg #[.int .i64 0,.int .i64 0]),2,16):=by kernel_rfl
def Fine (st:List (Nat × Nat)):Prop:=∀ x∈st,x.1<x.2∧x.2≤6
theorem bump_fine {st:List (Nat × Nat)} (h:Fine st):Fine (bump st):=by
 induction st with
 | nil=>exact h
 | cons x r ih=>
  obtain ⟨j,a⟩:=x
  have hx:=h (j,a) (by simp)
  have hr:Fine r:=fun y hy=>h y (by simp [hy])
  unfold bump
  split
  ·intro y hy
   rcases List.mem_cons.1 hy with rfl | hy
   ·exact ⟨by simpa using (by assumption:j+1<a),hx.2⟩
   ·exact hr y hy
  ·exact ih hr
theorem pass_fine {st:List (Nat × Nat)} (h:Fine st) {a:Nat} (ha:a≤6):Fine (pass st a):=by
 unfold pass
 split
 ·intro y hy
  rcases List.mem_cons.1 hy with rfl | hy
  ·exact ⟨by assumption,ha⟩
  ·exact h y hy
 ·exact bump_fine h
theorem bump_length (st:List (Nat × Nat)):(bump st).length≤st.length:=by
 induction st with
 | nil=>simp [bump]
 | cons x r ih=>
  obtain ⟨j,a⟩:=x
  unfold bump
  split
  ·simp
  ·simp;omega
theorem pass_length (st:List (Nat × Nat)) (a:Nat):(pass st a).length≤st.length+1:=by
 unfold pass
 split
 ·simp
 ·have:=bump_length st;omega
structure TrailAt (base:Nat) (w:World) (a:Nat) (v:Value) (st:List (Nat × Nat)):Prop where
 blk:w.heap[a]? = some (.cells #[v] 251 (0,0))
 row:w.ownsRow base 283 2 v st.length (turnCells st.reverse)
 ap:v.ownBlock≠some a
 fine:Fine st
 len:st.length≤2000
def TFoot (a:Nat) (v:Value) (k:Nat):Prop:=k=a∨v.ownBlock=some k
theorem TrailAt.same {base:Nat} {w w' : World} {a:Nat} {v:Value} {st:List (Nat × Nat)} (h:TrailAt base w a v st) (k:Same0 w w'):TrailAt base w' a v st:=
 ⟨k.at h.blk (fun f=>f),Kept.row k h.row (fun _ _ f=>f),h.ap,h.fine,h.len⟩
theorem row_take {w:World} {base g n cap size m:Nat} {e:TypeId} {xs:List Value} (h:w.ownsRow base e size (.slice (some ⟨g,0,none⟩) n cap) n xs) (hm:m≤n):w.ownsRow base e size (.slice (some ⟨g,0,none⟩) m cap) m (xs.take (m * size)):=by
 have hl:=h.1
 have hmn:m * size≤n * size:=Nat.mul_le_mul_right _ hm
 refine ⟨by rw [List.length_take,hl];omega,?_⟩
 rcases h.2 with ⟨e1,_⟩ | ⟨g', cap', cur,hv,hb,hg,h1,h2,h3,h4⟩
 ·cases e1
 ·simp only [Value.slice.injEq,Option.some.injEq,Addr.mk.injEq,and_true,true_and] at hv
  obtain ⟨rfl,rfl⟩:=hv
  exact .inr ⟨g,cap,cur,rfl,hb,hg,by omega,h2,h3,by rw [← h4,List.take_take,Nat.min_eq_left hmn]⟩
def Passed (base:Nat) (w:World) (a:Nat) (v:Value) (st' : List (Nat × Nat)) (w' : World):Prop:=∃ v', TrailAt base w' a v' st' ∧ Kept (TFoot a v) w w' ∧ ∀ k,TFoot a v' k→TFoot a v k∨w.heap.size≤k
structure Popped (base:Nat) (w:World) (a:Nat) (v0:Value) (st0:List (Nat × Nat)) (wr:World) (v:Value) (st:List (Nat × Nat)):Prop where
 tr:TrailAt base wr a v st
 k:Kept (TFoot a v0) w wr
 f:∀ k,TFoot a v k→TFoot a v0 k
 eq:Hid (bump st=bump st0)
theorem Popped.step {base:Nat} {w:World} {a g cap:Nat} {v0:Value} {st0:List (Nat × Nat)} {wr:World} {j n:Nat} {r:List (Nat × Nat)} (h:Popped base w a v0 st0 wr (.slice (some ⟨g,0,none⟩) (r.length+1) cap) ((j,n) :: r)) :
  (j+1<n→TrailAt base (wr.setCell ⟨g,r.length * 2,none⟩ (.int .i64 ((j:Int)+1))) a (.slice (some ⟨g,0,none⟩) (r.length+1) cap) (bump st0)∧Kept (TFoot a v0) w (wr.setCell ⟨g,r.length * 2,none⟩ (.int .i64 ((j:Int)+1)))∧∀ k,TFoot a (.slice (some ⟨g,0,none⟩) (r.length+1) cap) k→TFoot a v0 k) ∧
  (¬ j+1<n→Popped base w a v0 st0 ((wr.setCell ⟨g,r.length * 2,none⟩ (.int .i64 ((j:Int)+1))).setCell ⟨a,0,none⟩ (.slice (some ⟨g,0,none⟩) r.length cap)) (.slice (some ⟨g,0,none⟩) r.length cap) r):=by
 have hga:g≠a:=fun e=>h.tr.ap (by rw [e];rfl)
 have k1:Kept (TFoot a v0) w (wr.setCell ⟨g,r.length * 2,none⟩ (.int .i64 ((j:Int)+1))):=h.k.setCell (p:=⟨g,r.length * 2,none⟩) (fun _=>h.f g (.inr rfl)) _
 have hrow:=h.tr.row
 have hx:turnCells ((j,n) :: r).reverse=turnCells r.reverse ++ [.int .i64 (j:Int),.int .i64 (n:Int)]:=by
  rw [List.reverse_cons,turnCells_append];simp [turnCells]
 have hl2:(turnCells r.reverse).length=r.length * 2:=by rw [turnCells_length,List.length_reverse]
 rw [hx] at hrow
 have hs:=(hrow.stored (r.length * 2) (.int .i64 ((j:Int)+1))).1
 have hset:(turnCells r.reverse ++ [Value.int .i64 (j:Int),.int .i64 (n:Int)]).set (r.length * 2) (.int .i64 ((j:Int)+1))=turnCells r.reverse ++ [.int .i64 ((j:Int)+1),.int .i64 (n:Int)]:=by
  rw [← hl2,List.set_append_right _ _ (Nat.le_refl _)];simp
 rw [hset] at hs
 have hb:(wr.setCell ⟨g,r.length * 2,none⟩ (.int .i64 ((j:Int)+1))).heap[a]? = some (.cells #[.slice (some ⟨g,0,none⟩) (r.length+1) cap] 251 (0,0)):=by
  rw [Below.heap_setCell _ _ _ _ (by simpa using (Ne.symm hga))]
  exact h.tr.blk
 have hfr:Fine r:=fun y hy=>h.tr.fine y (by simp [hy])
 have hlr:r.length≤2000:=by have:=h.tr.len;simp at this;omega
 have hf0:=h.tr.fine (j,n) (by simp)
 constructor
 ·intro hj
  have e1:bump st0=(j+1,n) :: r:=by rw [← h.eq.out,bump,if_pos hj]
  rw [e1]
  refine ⟨⟨hb,?_,h.tr.ap,?_,by simpa using h.tr.len⟩,k1,h.f⟩
  ·have:turnCells ((j+1,n) :: r).reverse=turnCells r.reverse ++ [.int .i64 ((j:Int)+1),.int .i64 (n:Int)]:=by
    rw [List.reverse_cons,turnCells_append];simp [turnCells]
   rw [this];exact hs
  ·intro y hy
   rcases List.mem_cons.1 hy with rfl | hy
   ·exact ⟨hj,hf0.2⟩
   ·exact hfr y hy
 ·intro hj
  have e1:bump r=bump st0:=by rw [← h.eq.out,bump,if_neg hj]
  have ht:=row_take (m:=r.length) hs (by omega)
  rw [List.take_left' (by rw [hl2])] at ht
  have k2:Kept (fun k=>k=a) (wr.setCell ⟨g,r.length * 2,none⟩ (.int .i64 ((j:Int)+1))) ((wr.setCell ⟨g,r.length * 2,none⟩ (.int .i64 ((j:Int)+1))).setCell ⟨a,0,none⟩ (.slice (some ⟨g,0,none⟩) r.length cap)):=Kept.setCell (S:=fun k=>k=a) (p:=⟨a,0,none⟩) (Kept.refl _ _) (fun _=>rfl) _
  refine ⟨⟨?_,?_,by simpa [Value.ownBlock] using hga,hfr,hlr⟩,k1.setCell (p:=⟨a,0,none⟩) (fun _=>.inl rfl) _,fun k hk=>h.f k hk,e1⟩
  ·rw [setAt hb];rfl
  ·exact k2.row ht (fun k e e' => by simp [Value.ownBlock] at e;omega)
theorem Popped.cells {base:Nat} {w:World} {a:Nat} {v0 v:Value} {st0:List (Nat × Nat)} {wr:World} {j n:Nat} {r:List (Nat × Nat)} (h:Popped base w a v0 st0 wr v ((j,n) :: r)) :
  ∃ g cap,v=.slice (some ⟨g,0,none⟩) (r.length+1) cap∧g≠a∧wr.cell? ⟨a,0,none⟩=some v∧wr.frozen? ⟨a,0,none⟩=false∧wr.cell? ⟨g,r.length * 2,none⟩=some (.int .i64 (j:Int))∧wr.cell? ⟨g,r.length * 2+1,none⟩=some (.int .i64 (n:Int))∧wr.frozen? ⟨g,r.length * 2,none⟩=false∧g<wr.heap.size:=by
 obtain ⟨g,cap,hv,_,hlt⟩:=h.tr.row.form (by simp)
 subst hv
 have hga:g≠a:=fun e=>h.tr.ap (by rw [e];rfl)
 have hrow:=h.tr.row
 have hi:r.length<((j,n) :: r).reverse.length:=by simp
 obtain ⟨c1,c2⟩:=turnCells_at hi
 have e:((j,n) :: r).reverse[r.length]=(j,n):=by simp
 rw [e] at c1 c2
 refine ⟨g,cap,rfl,hga,cellAt h.tr.blk 0,frozenAt h.tr.blk 0,?_,?_,hrow.frozenAt _,hlt⟩
 ·rw [hrow.cellAt _ (by simp)];exact c1
 ·rw [hrow.cellAt _ (by simp;omega)];exact c2
theorem Passed.same {base:Nat} {w w' w'' : World} {a:Nat} {v:Value} {st:List (Nat × Nat)} (h:Passed base w a v st w') (k:Same0 w' w''):Passed base w a v st w'' := by
 obtain ⟨v', h1,h2,h3⟩:=h
 exact ⟨v', h1.same k,h2.trans k (fun _ _ f=>f.elim),h3⟩
theorem Popped.same {base:Nat} {w:World} {a:Nat} {v0 v:Value} {st0 st:List (Nat × Nat)} {wr wr' : World} (h:Popped base w a v0 st0 wr v st) (k:Same0 wr wr'):Popped base w a v0 st0 wr' v st:=
 ⟨h.tr.same k,h.k.trans k (fun _ _ f=>f.elim),h.f,h.eq⟩
theorem push_end {base:Nat} {w w1:World} {a n gg cap:Nat} {v:Value} {st:List (Nat × Nat)} (h:TrailAt base w a v st) (hb:base≤w.heap.size) (hn:0<n) (hn6:n≤6) (hl:st.length<2000)
  (hown:w1.ownsRow base 283 2 (.slice (some ⟨gg,0,none⟩) (st.length+1) cap) (st.length+1) (turnCells st.reverse ++ [.int .i64 0,.int .i64 (n:Int)]))
  (hgrow:(w.alloc (.cells #[.int .i64 0,.int .i64 (n:Int)] 283)).grownBy w1 v.ownBlock) (hat:v.ownBlock=some gg∨gg=w.heap.size+1) :
  (w1.heap[a]? = some (.cells #[v] 251 (0,0)))∧Passed base w a v (pass st n) (w1.setCell ⟨a,0,none⟩ (.slice (some ⟨gg,0,none⟩) (st.length+1) cap)):=by
 have la:=lt_of_at h.blk
 have k1:Kept (fun k=>v.ownBlock=some k) w w1:=Kept.grown (Kept.alloc (Kept.refl _ w) _) hgrow (fun _ e _=>e)
 have hb1:=k1.at h.blk h.ap
 have hga:gg≠a:=by
  rcases hat with e | e
  ·intro e'; exact h.ap (by rw [e,e'])
  ·omega
 have k2:Kept (TFoot a v) w (w1.setCell ⟨a,0,none⟩ (.slice (some ⟨gg,0,none⟩) (st.length+1) cap)):=(k1.mono (fun _ _ e=>.inr e)).setCell (p:=⟨a,0,none⟩) (fun _=>.inl rfl) _
 have k3:Kept (fun k=>k=a) w1 (w1.setCell ⟨a,0,none⟩ (.slice (some ⟨gg,0,none⟩) (st.length+1) cap)):=Kept.setCell (S:=fun k=>k=a) (p:=⟨a,0,none⟩) (Kept.refl _ _) (fun _=>rfl) _
 have e1:pass st n=(0,n) :: st:=by rw [pass,if_pos hn]
 refine ⟨hb1,.slice (some ⟨gg,0,none⟩) (st.length+1) cap,⟨?_,?_,by simpa [Value.ownBlock] using hga,pass_fine h.fine hn6,?_⟩,k2,?_⟩
 ·rw [setAt hb1];rfl
 ·rw [e1]
  have:turnCells ((0,n) :: st).reverse=turnCells st.reverse ++ [.int .i64 0,.int .i64 (n:Int)]:=by
   rw [List.reverse_cons,turnCells_append];simp [turnCells]
  rw [this]
  exact k3.row hown (fun k e e' => by simp [Value.ownBlock] at e;omega)
 ·rw [e1];simp;omega
 ·intro k hk
  rcases hk with e | e
  ·exact .inl (.inl e)
  ·simp [Value.ownBlock] at e
   subst e
   rcases hat with e | e
   ·exact .inl (.inr e)
   ·right;omega
set_option maxHeartbeats 4000000 in
theorem pass_any {base:Nat} {w:World} {a:Nat} {v:Value} {st:List (Nat × Nat)} (h:TrailAt base w a v st) (hb:base≤w.heap.size) (n:Nat) (hn6:n≤6) (hl:st.length<2000) :
  Calls Tryz.prog 160 #[.pointer (some ⟨a,0,none⟩),.int .i64 (n:Int)] w fun e w' => (∃ x,e=.returned x)∧Passed base w a v (pass st n) w' := by
 obtain ⟨vo,vcap,rfl⟩:=row_shape h.row
 have c0:=cellAt h.blk 0
 have f0:=frozenAt h.blk 0
 simp only [List.getElem?_toArray,List.getElem?_cons_zero] at c0
 by_cases hn:0<n
 ·obtain ⟨i0,hi0,hz0,hz1,hz2⟩:=info_parts info_turn
  have hn1:st.length+1≤maxLen:=by unfold maxLen;omega
  have hn2:(st.length+1) * 16≤140737488355328:=by omega
  have hb' : base≤(w.alloc (.cells #[.int .i64 0,.int .i64 (n:Int)] 283)).heap.size:=by simp;omega
  have hnn:(0:Int)<(n:Int):=by omega
  have PE:=fun gg cap w1 hown hgrow hat=>push_end (gg:=gg) (cap:=cap) (w1:=w1) h hb hn hn6 hl hown hgrow hat
  go_enter Tryz.func160,Tryz.ntmps160
  go_wp2_with (first | (at_builtin;refine wpList_append_lies _ rfl _ _ 251 rfl base 283 i0 _ 2 16 Tryz.underlying251 hi0 hz0 hz1 hz2 rfl (by omega) (.slice vo st.length vcap) st.length (turnCells st.reverse) rfl (h.row.alloc _) ⟨w.heap.size,0,none⟩ 1 1 [.int .i64 0,.int .i64 (n:Int)] rfl rfl (World.news_of_block (cs:=#[.int .i64 0,.int .i64 (n:Int)]) (t:=283) (fr:=(0,0)) (heap_alloc_new w _)) (by simp [Value.oneCell']) (by omega) hn1 hn2 hb' (w.heap.size+1) (by simp) ?_;intro gg cap w1 hown hgrow hat hlt;obtain ⟨b1,hP⟩:=PE gg cap w1 hown hgrow hat;have k0:=cellAt b1 0;have k1:=frozenAt b1 0;simp only [List.getElem?_toArray,List.getElem?_cons_zero] at k0))
  go_returns
  exact ⟨⟨_,rfl⟩,hP⟩
 ·obtain rfl:n=0:=by omega
  have e0:Hid (pass st 0=bump st):=by show _=_;simp [pass]
  have P0:Popped base w a (.slice vo st.length vcap) st w (.slice vo st.length vcap) st:=⟨h,Kept.refl _ _,fun k hk=>hk,rfl⟩
  clear h
  go_enter Tryz.func160,Tryz.ntmps160
  go_wp2
  go_loopw [4] (fun tp wr=>∃ v' st', tp=.int .i64 ((st'.length:Int)-1)∧Popped base w a (.slice vo st.length vcap) st wr v' st') (fun tp _=>(intOf tp+1).toNat)
  case atStart=>exact ⟨_,st,rfl,P0⟩
  case round=>
   obtain ⟨v', st', rfl,hP⟩:=hrel
   cases st' with
   | nil=>
    have e1:bump st=[]:=by have:=hP.eq.out;rw [← this];rfl
    have fin:Passed base w a (.slice vo st.length vcap) (pass st 0) wr:=by
     rw [e0.out,e1]
     exact ⟨v', hP.tr,hP.k,fun k hk=>.inl (hP.f k hk)⟩
    clear hP e1
    go_wp2
    go_returns
    exact ⟨⟨_,rfl⟩,fin⟩
   | cons x r=>
    obtain ⟨j,n⟩:=x
    obtain ⟨g,cap,rfl,hga,q0,q1,q2,q3,q4,q5⟩:=hP.cells
    have hjn:=hP.tr.fine (j,n) (by simp)
    have hrl:=hP.tr.len
    obtain ⟨s1,s2⟩:=hP.step
    have hl1:(((j,n) :: r).length:Int)-1=(r.length:Int):=by simp
    rw [hl1]
    have i1:(0:Int)≤(r.length:Int):=by omega
    have i2:(r.length:Int)<((r.length+1:Nat):Int):=by omega
    simp only at hjn
    simp at hrl
    by_cases hj:j+1<n
    ·obtain ⟨t1,t2,t3⟩:=s1 hj
     have fin:Passed base w a (.slice vo st.length vcap) (pass st 0) (wr.setCell ⟨g,r.length * 2,none⟩ (.int .i64 ((j:Int)+1))):=by
      rw [e0.out]
      exact ⟨_,t1,t2,fun k hk=>.inl (t3 k hk)⟩
     have hji:(j:Int)+1<(n:Int):=by omega
     clear s1 s2 hP t1 t2 t3
     go_wp2
     go_quiet (fail)
     go_wp2
     go_returns
     exact ⟨⟨_,rfl⟩,fin.same ((Kept.refl _ _).drewN nq)⟩
    ·have hP2:=s2 hj
     have hji:¬ (j:Int)+1<(n:Int):=by omega
     have i3:(r.length:Int)≤(cap:Int):=by
      rcases hP.tr.row.2 with ⟨e,_⟩ | ⟨_,_,_,hv,_,_,hle,_⟩
      ·cases e
      ·simp only [Value.slice.injEq] at hv
       have:=hv.2.2
       simp at hle
       omega
     clear s1 s2 hP
     go_wp2
     go_quiet (fail)
     go_wp2
     have hP3:=hP2.same ((Kept.refl _ _).drewN nq)
     go_roundw
     case rel=>first | exact ⟨_,r,by go_num,hP3⟩ | ((repeat apply Exists.intro);exact ⟨⟨_,r,by go_num,hP3⟩,rfl⟩)
     case measure=>simp [intOf]
def firsts (st:List (Nat × Nat)):List Int:=ofN (st.reverse.map Prod.fst)
theorem firsts_length (st:List (Nat × Nat)):(firsts st).length=st.length:=by simp [firsts,ofN]
theorem firsts_take {st:List (Nat × Nat)} {k:Nat} (h:k<st.length):(firsts st).take (k+1)=(firsts st).take k ++ [((st.reverse[k]'(by simpa using h)).1:Int)]:=by
 rw [List.take_add_one,List.getElem?_eq_getElem (by rw [firsts_length];exact h)]
 simp [firsts,ofN]
set_option maxHeartbeats 4000000 in
theorem tpathv_any {base:Nat} {w:World} {v:Value} {st:List (Nat × Nat)} (hr:w.ownsRow base 283 2 v st.length (turnCells st.reverse)) (hl:st.length≤2000) :
  Calls Tryz.prog 161 #[v] w fun e w' => ∃ v', e=.returned v' ∧ Row w.heap.size w' v' (firsts st)∧Same0 w w' := by
 obtain ⟨vo,vcap,rfl⟩:=row_shape hr
 obtain ⟨i,hi,hz0,hz1,hz2⟩:=info_parts info_intT
 go_enter Tryz.func161,Tryz.ntmps161
 go_wp2_with (first | (at_make;refine wpList_make_full _ rfl _ _ 32 rfl w.heap.size 3 i _ 1 Tryz.underlying32 hi hz0 hz1 _ _ _ _ st.length rfl rfl rfl rfl (by rw [hz2];omega) (by unfold maxLen;omega) (Nat.le_refl _) ?_;intro w3 hown hgrow))
 have L0:Laid w.heap.size w.heap.size st.length 0 ((firsts st).take 0) w w3:=⟨_,hown,by simp [iv],Same0.grown (Kept.refl _ w) hgrow⟩
 clear hown hgrow hi hz0 hz1 hz2
 have HR:Hid (w.ownsRow base 283 2 (.slice vo st.length vcap) st.length (turnCells st.reverse)):=hr
 clear hr
 go_loopw [11] (fun kv wr=>∃ k:Nat,k≤st.length∧kv=.int .i64 (k:Int)∧Laid w.heap.size w.heap.size st.length k ((firsts st).take k) w wr) (fun kv _=>st.length-(intOf kv).toNat)
 case atStart=>exact ⟨0,Nat.zero_le _,rfl,L0⟩
 case round=>
  clear L0
  obtain ⟨k,hk,rfl,hL⟩:=hrel
  by_cases hlt:k<st.length
  ·have hsm:Same0 w wr:=by obtain ⟨_,_,_,h3⟩:=hL;exact h3
   have hrw:=Kept.row hsm HR.out (fun _ _ f=>f)
   obtain ⟨g,cap,hv,_,hg⟩:=hrw.form (by omega)
   simp only [Value.slice.injEq,true_and] at hv
   obtain ⟨rfl,rfl⟩:=hv
   have hkr:k<st.reverse.length:=by simpa using hlt
   obtain ⟨c1,c2⟩:=turnCells_at hkr
   have q1:wr.cell? ⟨g,k * 2,none⟩=some (.int .i64 (st.reverse[k].1:Int)):=by rw [hrw.cellAt _ (by omega)];exact c1
   have q2:wr.cell? ⟨g,k * 2+1,none⟩=some (.int .i64 (st.reverse[k].2:Int)):=by rw [hrw.cellAt _ (by omega)];exact c2
   have e2:Hid ((firsts st).take (k+1)=(firsts st).take k ++ [(st.reverse[k].1:Int)]):=firsts_take hlt
   have i1:(0:Int)≤(k:Int):=by omega
   have i2:(k:Int)<(st.length:Int):=by omega
   generalize st.reverse[k].1=x1 at *
   generalize st.reverse[k].2=x2 at *
   clear hrw c1 c2
   obtain ⟨old,f1,f2⟩:∃ old,wr.cell? ⟨w.heap.size,k,none⟩=some old∧wr.frozen? ⟨w.heap.size,k,none⟩=false:=by obtain ⟨ys,h1,_⟩:=hL;exact row_put h1 hlt
   have hwl:w.heap.size<wr.heap.size:=by obtain ⟨ys,h1,_⟩:=hL;exact (h1.lt _ rfl).2
   have hne:¬ w.heap.size=wr.heap.size:=by omega
   have hLn:=(hL.next hlt (Nat.le_refl _) (x1:Int)).same ((Kept.refl _ _).alloc (.cells #[.int .i64 (x1:Int),.int .i64 (x2:Int)] 283))
   go_wp2
   refine ⟨⟨k+1,by omega,by go_num,?_⟩,by simp [intOf];omega⟩
   rw [e2.out];exact hLn
  ·obtain rfl:k=st.length:=by omega
   have hrr:=hL.row
   obtain ⟨_,_,_,hs⟩:=hL
   go_wp2
   go_ret
   refine ⟨_,rfl,?_,hs⟩
   have:=hrr.1
   rwa [List.take_of_length_le (by rw [firsts_length];exact Nat.le_refl _)] at this
theorem way_length (L:List Sym) (t:List Int) (k:Nat) (hk:k≤t.length):(way L t k).length≤k:=by
 induction k with
 | zero=>simp [way,run]
 | succ k ih=>
  rw [way_succ (by omega)]
  have:=pass_length (way L t k) (arN L (t[k]'(by omega)))
  have:=ih (by omega)
  omega
def WayAt (w:World) (a:Nat) (st:List (Nat × Nat)) (wr:World):Prop:=∃ v,TrailAt w.heap.size wr a v st∧Same0 w wr∧w.heap.size≤a∧∀ k,v.ownBlock=some k→w.heap.size≤k
theorem WayAt.start {w w1:World} (k:Same0 w w1):WayAt w w1.heap.size [] (w1.alloc (.cells #[.slice none 0 0] 251)):=
 ⟨.slice none 0 0,⟨heap_alloc_new w1 _,World.ownsRow_nil _ _ _ _,by simp [Value.ownBlock],fun x hx=>by simp at hx,by simp⟩,k.alloc _,k.size,fun k e=>by simp [Value.ownBlock] at e⟩
theorem WayAt.same {w wr wr' : World} {a:Nat} {st:List (Nat × Nat)} (h:WayAt w a st wr) (k:Same0 wr wr'):WayAt w a st wr' := by
 obtain ⟨v,h1,h2,h3,h4⟩:=h
 exact ⟨v,h1.same k,h2.trans' k,h3,h4⟩
theorem WayAt.pass {w wr:World} {a:Nat} {st:List (Nat × Nat)} (h:WayAt w a st wr) (n:Nat) (hn:n≤6) (hl:st.length<2000) :
  Calls Tryz.prog 160 #[.pointer (some ⟨a,0,none⟩),.int .i64 (n:Int)] wr fun e w' => (∃ x,e=.returned x)∧WayAt w a (Proofs.YtjahpnbijefncaaGreat.pass st n) w' := by
 obtain ⟨v,h1,h2,h3,h4⟩:=h
 refine (pass_any h1 h2.size n hn hl).mono ?_
 rintro e w' ⟨hx,v', t1,t2,t3⟩
 have hf:∀ k,TFoot a v k→w.heap.size≤k:=fun k hk=>hk.elim (fun e=>by omega) (h4 k)
 refine ⟨hx,v', t1,Kept.trans h2 t2 (fun i hi e=>by have:=hf i e;omega),h3,fun k e=>?_⟩
 rcases t3 k (.inr e) with e1 | e1
 ·exact hf k e1
 ·have:=h2.size;omega
theorem WayAt.cell {w wr:World} {a:Nat} {st:List (Nat × Nat)} (h:WayAt w a st wr):∃ vo vcap,wr.cell? ⟨a,0,none⟩=some (.slice vo st.length vcap)∧wr.ownsRow w.heap.size 283 2 (.slice vo st.length vcap) st.length (turnCells st.reverse):=by
 obtain ⟨v,h1,h2,h3,h4⟩:=h
 obtain ⟨vo,vcap,rfl⟩:=row_shape h1.row
 exact ⟨vo,vcap,cellAt h1.blk 0,h1.row⟩
def pathA (L:List Sym) (t:List Int) (a:Int):List Int:=if placeE L t a=0 then firsts (way L t a.toNat) else []
set_option maxHeartbeats 4000000 in
theorem tpath_any {n b:Nat} {w:World} {L:List Sym} (h:Sg n w b L) {ao:Option Addr} {cap:Nat} {t:List Int} (ht:IntsAt w ao t) (hm:t.length≤maxLen) (hcap:t.length≤cap) (a:Int) :
  Calls Tryz.prog 133 #[.pointer (some ⟨b,0,none⟩),.slice ao t.length cap,.int .i64 a] w fun e w' => ∃ v,e=.returned (.tuple #[v,.int .i64 (placeE L t a)])∧Row w.heap.size w' v (pathA L t a)∧Same0 w w' := by
 have c:=checkPlace_any (cap:=cap) h ht hm a
 by_cases hz:placeE L t a=0
 ·obtain ⟨p,rfl,hp,h0,h1,h2⟩:=place_zero hz
  have H:Hid (placeE L t p=0∧pathA L t p=firsts (way L t p)):=by
   refine ⟨hz,?_⟩
   rw [pathA,if_pos hz];rfl
  have c1:Hid (∀ w1 x,Same0 w w1→Calls Tryz.prog 110 #[.pointer (some ⟨b,0,none⟩),.int .i64 x] w1 fun e w' => e=.returned (.int .i64 ((arN L x:Nat):Int))∧Same0 w1 w'):=fun w1 x hk=>arity_any (h.same hk) x
  have HAR:Hid (∀ x,arN L x≤6):=fun x=>arN_le h.2 x
  have hpc:(p:Int)≤(cap:Int):=by omega
  have i0:(0:Int)≤(p:Int):=by omega
  obtain ⟨tb,off,rfl,htb,hc⟩:=ht.get hp
  clear hc
  rw [hz] at c
  go_enter Tryz.func133,Tryz.ntmps133
  go_wp2_with (first | (go_at_call 104;refine c.mono ?_;rintro e w1 ⟨rfl,hk1⟩))
  have W0:WayAt w w1.heap.size (way L t 0) (w1.alloc (.cells #[.slice none 0 0] 251)):=WayAt.start hk1
  generalize hA:w1.heap.size=A at *
  clear c
  go_loopw [23] (fun kv wr=>∃ k:Nat,k≤p∧kv=.int .i64 (k:Int)∧WayAt w A (way L t k) wr) (fun kv _=>p-(intOf kv).toNat)
  case atStart=>exact ⟨0,Nat.zero_le _,rfl,W0⟩
  case round=>
   clear W0
   obtain ⟨k,hk,rfl,hW⟩:=hrel
   have hs:Same0 w wr:=by obtain ⟨_,_,h2,_⟩:=hW;exact h2
   by_cases hlt:k<p
   ·have hkt:k<t.length:=by omega
    obtain ⟨tb', off', e,_,hcc⟩:=(ht.same hs).get hkt
    simp only [Option.some.injEq,Addr.mk.injEq,and_true] at e
    obtain ⟨rfl,rfl⟩:=e
    have cA:=c1.out wr t[k] hs
    have h6:=HAR.out t[k]
    have E:Hid (way L t (k+1)=pass (way L t k) (arN L t[k])):=way_succ hkt
    have hwl:=way_length L t k (by omega)
    have i1:(0:Int)≤(k:Int):=by omega
    have i2:(k:Int)<(p:Int):=by omega
    generalize arN L t[k]=m at *
    go_wp2_with fail
    refine cA.mono ?_
    rintro e w4 ⟨rfl,k4⟩
    have cP:=(hW.same k4).pass m h6 (by omega)
    clear hW cA
    go_wp2_with fail
    refine cP.mono ?_
    rintro e w5 ⟨⟨x,rfl⟩,hW5⟩
    clear cP
    go_wp2
    refine ⟨⟨k+1,by omega,by go_num,?_⟩,by simp [intOf];omega⟩
    rw [E.out];exact hW5
   ·obtain rfl:k=p:=by omega
    obtain ⟨vo,vcap,q0,q1⟩:=hW.cell
    have hwl:=way_length L t k (by omega)
    have cp:=tpathv_any q1 (by omega)
    clear hW q1
    go_wp2_with fail
    refine cp.mono ?_
    rintro e w6 ⟨v', rfl,hr,k6⟩
    clear cp
    have hr' := row_mono hr hs.size
    go_wp2
    go_ret2
    refine ⟨v', ?_,?_,hs.trans' k6⟩
    ·rw [H.out.1];rfl
    ·rw [H.out.2];exact hr'
 ·have H:Hid (pathA L t a=[]):=by show _=_;rw [pathA,if_neg hz]
  have hz' : (placeE L t a == 0)=false:=by simpa using hz
  go_enter Tryz.func133,Tryz.ntmps133
  go_wp2_with (first | (go_at_call 104;refine c.mono ?_;rintro e w1 ⟨rfl,hk1⟩))
  go_ret2
  refine ⟨_,rfl,?_,hk1⟩
  rw [H.out]
  exact World.ownsRow_nil _ _ _ _
end Go.Proofs.YtjahpnbijefncaaGreat
namespace Go.Proofs.YtjahpnbijefncaaGreat
set_option maxRecDepth 100000
set_option linter.unusedVariables false
open Go.RowKit
attribute [local go_sem ↓] Go.wp_at_zero Go.wp_at_succ
def idxG:List Int→Nat→Int→Int
 | [],_,_=>-1
 | x :: r,i,y=>if y=x then (i:Int) else idxG r (i+1) y
def idxI (t:List Int) (y:Int):Int:=idxG t 0 y
theorem idxG_step {t:List Int} {k:Nat} (h:k<t.length) (y:Int):idxG (t.drop k) k y=if y=t[k] then (k:Int) else idxG (t.drop (k+1)) (k+1) y:=by
 rw [List.drop_eq_getElem_cons h,idxG]
set_option maxHeartbeats 2000000 in
theorem indexI_any {w:World} {so:Option Addr} {sc:Nat} {t:List Int} (ht:IntsAt w so t) (hm:t.length≤2000) (y:Int) :
  Calls Tryz.prog 134 #[.slice so t.length sc,.int .i64 y] w fun e w' => e=.returned (.int .i64 (idxI t y))∧w' = w:=by
 go_enter Tryz.func134,Tryz.ntmps134
 go_wp2
 go_loop [8] (fun i=>∃ k:Nat,k≤t.length∧i=.int .i64 (k:Int)∧Hid (idxI t y=idxG (t.drop k) k y)) (fun i=>t.length-(intOf i).toNat)
 case atStart=>exact ⟨0,Nat.zero_le _,rfl,by show _=_;simp [idxI]⟩
 case round=>
  obtain ⟨k,hk,rfl,ha⟩:=hrel
  by_cases hlt:k<t.length
  ·obtain ⟨tb,off,rfl,_,hc⟩:=ht.get hlt
   have i1:(0:Int)≤(k:Int):=by omega
   have i2:(k:Int)<(t.length:Int):=by omega
   by_cases hq:y=t[k]
   ·have H:Hid (idxI t y=(k:Int)):=by rw [ha.out];show _=_;rw [idxG_step hlt,if_pos hq]
    have q1:(y == t[k])=true:=by simpa using hq
    clear hq ha
    go_wp2
    go_ret
    exact ⟨by rw [H.out];rfl,rfl⟩
   ·have H:Hid (idxI t y=idxG (t.drop (k+1)) (k+1) y):=by rw [ha.out];show _=_;rw [idxG_step hlt,if_neg hq]
    have q1:(y == t[k])=false:=by simpa using hq
    clear hq ha
    go_wp2
    exact ⟨⟨k+1,by omega,by go_num,H⟩,by simp [intOf];omega⟩
  ·have H:Hid (idxI t y = -1):=by rw [ha.out];show _=_;rw [List.drop_eq_nil_of_le (by omega)];rfl
   go_wp2
   go_ret
   exact ⟨by rw [H.out];rfl,rfl⟩
def partP (L:List Sym) (left:List Int) (x:Int):Int × List Int:=if 0≤x then (x,[]) else (-1,pathA L left (idxI left x))
theorem pathA_len (L:List Sym) (t:List Int) (a:Int) (hm:t.length≤2000):(pathA L t a).length≤2000:=by
 unfold pathA
 split
 ·rename_i h
  obtain ⟨p,rfl,hp,_⟩:=place_zero h
  rw [firsts_length,Int.toNat_natCast]
  have:=way_length L t p (by omega)
  omega
 ·simp
set_option maxHeartbeats 8000000 in
theorem partOf_any {n b:Nat} {w:World} {L:List Sym} (h:Sg n w b L) {ao:Option Addr} {cap:Nat} {t:List Int} (ht:IntsAt w ao t) (hm:t.length≤2000) (hcap:t.length≤cap) (x:Int) :
  Calls Tryz.prog 100 #[.pointer (some ⟨b,0,none⟩),.slice ao t.length cap,.int .i64 x] w fun e w' => ∃ so sc,e=.returned (.agg #[.int .i64 (partP L t x).1,.slice so (partP L t x).2.length sc])∧Row w.heap.size w' (.slice so (partP L t x).2.length sc) (partP L t x).2∧Same0 w w' := by
 have hmx:t.length≤maxLen:=by unfold maxLen;omega
 obtain ⟨W1,hW1⟩:∃ W1,W1=w.alloc (.cells #[.int .i64 0,.slice none 0 0] 77):=⟨_,rfl⟩
 have KW:Same0 w W1:=by rw [hW1];exact (Kept.refl _ w).alloc _
 have hbx:W1.heap[w.heap.size]? = some (.cells #[.int .i64 0,.slice none 0 0] 77 (0,0)):=by rw [hW1];exact heap_alloc_new w _
 have zW:=lt_of_at hbx
 have RC:Hid (∀ ww,Same0 W1 ww→(ww.cell? ⟨w.heap.size,0,none⟩=some (.int .i64 0)∧ww.cell? ⟨w.heap.size,1,none⟩=some (.slice none 0 0))∧ww.frozen? ⟨w.heap.size,0,none⟩=false∧ww.frozen? ⟨w.heap.size,1,none⟩=false):=fun ww hk=>by
  have:=hk.at0 hbx
  exact ⟨⟨cellAt this 0,cellAt this 1⟩,frozenAt this 0,frozenAt this 1⟩
 have PUT:Hid (∀ ww x y,Same0 W1 ww→(((ww.setCell ⟨w.heap.size,0,none⟩ x).setCell ⟨w.heap.size,1,none⟩ y).cell? ⟨w.heap.size,0,none⟩=some x∧((ww.setCell ⟨w.heap.size,0,none⟩ x).setCell ⟨w.heap.size,1,none⟩ y).cell? ⟨w.heap.size,1,none⟩=some y)∧Kept (fun k=>k=w.heap.size) ww ((ww.setCell ⟨w.heap.size,0,none⟩ x).setCell ⟨w.heap.size,1,none⟩ y)∧Same0 w ((ww.setCell ⟨w.heap.size,0,none⟩ x).setCell ⟨w.heap.size,1,none⟩ y)):=fun ww x y hk=>by
  have h1:=hk.at0 hbx
  have h2:=setAt (setAt h1 0 x) 1 y
  have k1:=kept_at ww w.heap.size 0 x
  have k2:=kept_at (ww.setCell ⟨w.heap.size,0,none⟩ x) w.heap.size 1 y
  have k3:=Kept.trans k1 k2 (fun _ _ e=>e)
  exact ⟨⟨cellAt h2 0,cellAt h2 1⟩,k3,Kept.trans (KW.trans' hk) k3 (fun i hi e=>by omega)⟩
 obtain ⟨⟨r0,r1⟩,f0,f1⟩:=RC.out W1 (Kept.refl _ _)
 by_cases hx:0≤x
 ·have HP:Hid (partP L t x=(x,[])):=by show _=_;rw [partP,if_pos hx]
  have PH:Hid _:=PUT.out W1 (.int .i64 x) (.slice none 0 0) (Kept.refl _ _)
  clear h ht
  go_enter Tryz.func100,Tryz.ntmps100
  go_upto_region 1 with fail
  rw [← hW1]
  clear hW1
  go_wp2_with fail
  obtain ⟨⟨g0,g1⟩,kk,ks⟩:=PH.out
  refine bodyPost_ret (v:=.agg #[.int .i64 x,.slice none 0 0]) (by simp [results,Tryz.results100,go_sem,g0,g1]) rfl ?_
  rw [HP.out]
  exact ⟨none,0,rfl,World.ownsRow_nil _ _ _ _,ks⟩
 ·have HP:Hid (partP L t x=(-1,pathA L t (idxI t x))):=by show _=_;rw [partP,if_neg hx]
  have CI:=indexI_any (sc:=cap) (ht.same KW) hm x
  have CP:Calls Tryz.prog 133 #[.pointer (some ⟨b,0,none⟩),.slice ao t.length cap,.int .i64 (idxI t x)] W1 fun e w' => ∃ so sc er,e=.returned (.tuple #[.slice so (pathA L t (idxI t x)).length sc,.int .i64 er])∧Hid (Row W1.heap.size w' (.slice so (pathA L t (idxI t x)).length sc) (pathA L t (idxI t x)))∧Same0 W1 w' := by
   refine (tpath_any (h.same KW) (ht.same KW) hmx hcap (idxI t x)).mono ?_
   rintro e w' ⟨v,rfl,hr,hk⟩
   obtain ⟨so,sc,rfl,_⟩:=hr.ints
   exact ⟨so,sc,_,rfl,hr,hk⟩
  generalize idxI t x=z at *
  generalize pathA L t z=q at *
  clear h ht
  go_enter Tryz.func100,Tryz.ntmps100
  go_upto_region 1 with fail
  rw [← hW1]
  clear hW1
  go_wp2_with (first
   | (go_at_call 134;refine CI.mono ?_;rintro e w2 ⟨rfl,rfl⟩)
   | (go_at_call 133;refine CP.mono ?_;rintro e w3 ⟨so,sc,er,rfl,hr,k3⟩;obtain ⟨⟨r2,r3⟩,f2,f3⟩:=RC.out w3 k3))
  obtain ⟨⟨g0,g1⟩,kk,ks⟩:=PUT.out w3 (.int .i64 (-1)) (.slice so q.length sc) k3
  refine bodyPost_ret (v:=.agg #[.int .i64 (-1),.slice so q.length sc]) (by simp [results,Tryz.results100,go_sem,g0,g1]) rfl ?_
  rw [HP.out]
  have hr2:=kk.row hr.out (fun k e q=>by
   rcases hr.out.2 with ⟨e1,_⟩ | ⟨g,_,_,e1,e2,_⟩
   ·rw [e1] at e;simp [Value.ownBlock] at e
   ·rw [e1] at e;simp only [Value.ownBlock,Option.some.injEq] at e;omega)
  exact ⟨so,sc,rfl,row_mono hr2 (by omega),ks⟩
end Go.Proofs.YtjahpnbijefncaaGreat
