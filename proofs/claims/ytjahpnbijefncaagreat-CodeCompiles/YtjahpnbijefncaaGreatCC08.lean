import Derived.Test.YtjahpnbijefncaaGreatCC07
namespace Go.Proofs.YtjahpnbijefncaaGreat
set_option maxRecDepth 100000
set_option linter.unusedVariables false
set_option maxHeartbeats 4000000
section
open Go.RowKit
theorem X4 (l:List Nat):(ofN l).length=l.length:=by simp [ofN]
def NdB (w:World) (k:Nat):Prop:=∃ cur,w.heap[k]? = some (.cells cur 106 (0,0))
theorem Xx.keptN {w w' : World} {ao:Option Addr} {xs:List Int} {cap:Nat} {S:Nat->Prop} (h:Xx w ao xs cap) (hk:Zc S w w') (hS:∀ k,S k->NdB w k):Xx w' ao xs cap:=
 h.kept hk (λ k e cur hc=>by obtain ⟨c,h2⟩:=hS k e;rw [hc] at h2;cases h2)
def Zbt (w:World) (po:Option Addr) (P:List (List Int)):Prop:=
 P=[]∨∃ b off,po=some ⟨b,off,none⟩∧(∃ cur,w.heap[b]? = some (.cells cur 32 (0,0)))∧∀ i (h:i<P.length),∃ ao ac,w.cell? ⟨b,off+i,none⟩=some (.slice ao P[i].length ac)∧Xx w ao P[i] ac
theorem Zbt.keptN {w w' : World} {po:Option Addr} {P:List (List Int)} {S:Nat->Prop} (h:Zbt w po P) (hk:Zc S w w') (hS:∀ k,S k->NdB w k):Zbt w' po P:=by
 refine h.imp id ?_;rintro ⟨b,off,rfl,⟨cur,hb⟩,hc⟩;have nb:¬ S b:=λ e=>by obtain ⟨c,h2⟩:=hS b e;rw [hb] at h2;cases h2
 refine ⟨b,off,rfl,⟨cur,hk.at hb nb⟩,λ i hi=>?_⟩;obtain ⟨ao,ac,h1,h2⟩:=hc i hi;exact ⟨ao,ac,(hk.cell (p:=⟨b,off+i,none⟩) (Zi hb) nb).trans h1,h2.keptN hk hS⟩
theorem Zbt.same {w w' : World} {po:Option Addr} {P:List (List Int)} (h:Zbt w po P) (hk:Za w w'):Zbt w' po P:=h.keptN hk (λ _ f=>f.elim)
theorem Zbt.get {w:World} {po:Option Addr} {P:List (List Int)} (h:Zbt w po P) {i:Nat} (hi:i<P.length):∃ b off ao ac,po=some ⟨b,off,none⟩∧b<w.heap.size∧w.cell? ⟨b,off+i,none⟩=some (.slice ao P[i].length ac)∧Xx w ao P[i] ac:=by
 rcases h with rfl | ⟨b,off,e,⟨cur,hb⟩,hc⟩
 ·simp at hi
 ·obtain ⟨ao,ac,h1,h2⟩:=hc i hi
  exact ⟨b,off,ao,ac,e,Zi hb,h1,h2⟩
def Ym (w:World) (vs:List Value) (P:List (List Int)):Prop:=
 vs.length=P.length∧∀ i (h:i<P.length),∃ ao ac,vs[i]? = some (.slice ao P[i].length ac)∧Xx w ao P[i] ac
theorem Ym.nil (w:World):Ym w [] []:=⟨rfl,λ i h=>absurd h (by simp)⟩
theorem Ym.same {w w' : World} {vs:List Value} {P:List (List Int)} (h:Ym w vs P) (hk:Za w w'):Ym w' vs P:=
 ⟨h.1,λ i hi=>by
  obtain ⟨ao,ac,h1,h2⟩:=h.2 i hi
  exact ⟨ao,ac,h1,h2.same hk⟩⟩
theorem Ym.kept {w w' : World} {vs:List Value} {P:List (List Int)} {S:Nat->Prop} (h:Ym w vs P) (hk:Zc S w w') (hS:∀ k,S k->∀ cur,w.heap[k]? ≠ some (.cells cur 3 (0,0))):Ym w' vs P:=
 ⟨h.1,λ i hi=>by
  obtain ⟨ao,ac,h1,h2⟩:=h.2 i hi
  exact ⟨ao,ac,h1,h2.kept hk hS⟩⟩
theorem Ym.append {w:World} {vs us:List Value} {P Q:List (List Int)} (h:Ym w vs P) (k:Ym w us Q):Ym w (vs++us) (P++Q):=by
 refine ⟨by simp [h.1,k.1],λ i hi=>?_⟩
 by_cases hl:i<P.length
 ·rw [List.getElem_append_left hl,List.getElem?_append_left (by rw [h.1];omega)]
  exact h.2 i hl
 ·have hm:i-P.length<Q.length:=by simp at hi;omega
  rw [List.getElem_append_right (by omega),List.getElem?_append_right (by rw [h.1];omega),h.1];exact k.2 _ hm
theorem Ym.take {w:World} {vs:List Value} {P:List (List Int)} (h:Ym w vs P) (n:Nat):Ym w (vs.take n) (P.take n):=by
 refine ⟨by simp [h.1],λ i hi=>?_⟩;have hi' : i<P.length:=by simp at hi;omega
 have hn:i<n:=by simp at hi;omega
 obtain ⟨ao,ac,h1,h2⟩:=h.2 i hi';exact ⟨ao,ac,by rw [List.getElem?_take,if_pos hn];simpa using h1,by simpa using h2⟩
theorem Ym.drop {w:World} {vs:List Value} {P:List (List Int)} (h:Ym w vs P) (n:Nat):Ym w (vs.drop n) (P.drop n):=by
 refine ⟨by simp [h.1],λ i hi=>?_⟩;have hi' : n+i<P.length:=by simp at hi;omega
 obtain ⟨ao,ac,h1,h2⟩:=h.2 (n+i) hi';exact ⟨ao,ac,by rw [List.getElem?_drop];simpa using h1,by simpa using h2⟩
theorem Ym.one {w:World} {vs:List Value} {P:List (List Int)} (h:Ym w vs P):∀ u∈vs,u.oneCell' = true:=by
 intro u hu;obtain ⟨j,hj,rfl⟩:=List.mem_iff_getElem.1 hu;obtain ⟨ao,ac,h1,_⟩:=h.2 j (by rw [<- h.1];exact hj);rw [List.getElem?_eq_getElem hj] at h1;simp only [Option.some.injEq] at h1;rw [h1];rfl
theorem Zbt.cells {w:World} {po:Option Addr} {P:List (List Int)} (h:Zbt w po P):∃ vs,Ym w vs P∧∀ ad,po=some ad->∀ j u,vs[j]? = some u->w.cell? (ad.add j)=some u:=by
 rcases h with rfl | ⟨b,off,rfl,hb,hc⟩
 ·exact ⟨[],Ym.nil w,λ ad _ j u hj=>by simp at hj⟩
 ·refine ⟨(List.range P.length).map (λ j=>(w.cell? ⟨b,off+j,none⟩).getD undef),⟨by simp,λ i hi=>?_⟩,λ ad e j u hj=>?_⟩
  ·obtain ⟨ao,ac,h1,h2⟩:=hc i hi
   exact ⟨ao,ac,by simp [hi,h1],h2⟩
  ·cases e
   rw [Xq];have hlt:j<P.length:=by have:=(List.getElem?_eq_some_iff.1 hj).1;simpa using this
   obtain ⟨ao,ac,h1,_⟩:=hc j hlt;simp [hlt,h1] at hj;rw [h1,hj]
theorem Zop {w:World} {base N:Nat} {v:Value} {vs:List Value} {P:List (List Int)} (hr:w.ownsRow base 32 1 v N vs) (hc:Ym w vs P):∃ ao cap,v=.slice ao P.length cap∧Zbt w ao P∧(ao=none->cap=0)∧P.length<=cap:=by
 have hN:N=P.length:=by have:=hr.1;rw [hc.1] at this;omega
 subst hN
 rcases hr.2 with ⟨rfl,h0⟩ | ⟨g,cap,cur,rfl,_,hg,hle,_,_,ht⟩
 ·exact ⟨none,0,by rw [h0],.inl (List.eq_nil_of_length_eq_zero h0),λ _=>rfl,by omega⟩
 ·refine ⟨_,cap,rfl,.inr ⟨g,0,rfl,⟨cur,hg⟩,λ i hi=>?_⟩,(λ e=>by cases e),hle⟩
  obtain ⟨ao,ac,h1,h2⟩:=hc.2 i hi;have q1:=hr.cells (g:=g) rfl _ _ h1;rw [Xq] at q1;exact ⟨ao,ac,q1,h2⟩
def RwC (w:World) (b off:Nat) (x:Rw):Prop:=
 ∃ ao ac bo bc,w.cell? ⟨b,off,none⟩=some (.int .i64 x.1)∧w.cell? ⟨b,off+1,none⟩=some (.slice ao x.2.1.length ac)∧w.cell? ⟨b,off+2,none⟩=some (.slice bo x.2.2.length bc)∧Xx w ao x.2.1 ac∧Xx w bo (ofN x.2.2) bc
def Zes (w:World) (ro:Option Addr) (R:List Rw):Prop:=
 R=[]∨∃ b off,ro=some ⟨b,off,none⟩∧(∃ cur,w.heap[b]? = some (.cells cur 168 (0,0)))∧∀ i (h:i<R.length),RwC w b (off+i * 3) R[i]
theorem Zes.keptN {w w' : World} {ro:Option Addr} {R:List Rw} {S:Nat->Prop} (h:Zes w ro R) (hk:Zc S w w') (hS:∀ k,S k->NdB w k):Zes w' ro R:=by
 refine h.imp id ?_;rintro ⟨b,off,rfl,⟨cur,hb⟩,hc⟩;have nb:¬ S b:=λ e=>by obtain ⟨c,h2⟩:=hS b e;rw [hb] at h2;cases h2
 have hl:=Zi hb;refine ⟨b,off,rfl,⟨cur,hk.at hb nb⟩,λ i hi=>?_⟩;obtain ⟨ao,ac,bo,bc,h0,h1,h2,h3,h4⟩:=hc i hi;exact ⟨ao,ac,bo,bc,(hk.cell (p:=⟨b,off+i * 3,none⟩) hl nb).trans h0,(hk.cell (p:=⟨b,off+i * 3+1,none⟩) hl nb).trans h1,(hk.cell (p:=⟨b,off+i * 3+2,none⟩) hl nb).trans h2,h3.keptN hk hS,h4.keptN hk hS⟩
theorem Zes.same {w w' : World} {ro:Option Addr} {R:List Rw} (h:Zes w ro R) (hk:Za w w'):Zes w' ro R:=h.keptN hk (λ _ f=>f.elim)
theorem Zes.get {w:World} {ro:Option Addr} {R:List Rw} (h:Zes w ro R) {i:Nat} (hi:i<R.length):∃ b off,ro=some ⟨b,off,none⟩∧b<w.heap.size∧RwC w b (off+i * 3) R[i]:=by
 rcases h with rfl | ⟨b,off,e,⟨cur,hb⟩,hc⟩
 ·simp at hi
 ·exact ⟨b,off,e,Zi hb,hc i hi⟩
theorem Zlc:(Tryz.prog.info? 168).map (λ i=>(i.zero,i.size,i.bytes))=some (some (.agg #[.int .i64 0,.slice none 0 0,.slice none 0 0]),3,56):=by kernel_rfl
def Yr (w:World) (vs:List Value) (l:List Rw):Prop:=
 vs.length=l.length * 3∧∀ i (h:i<l.length),∃ ao ac bo bc,vs[i * 3]? = some (.int .i64 l[i].1)∧vs[i * 3+1]? = some (.slice ao l[i].2.1.length ac)∧vs[i * 3+2]? = some (.slice bo l[i].2.2.length bc)∧Xx w ao l[i].2.1 ac∧Xx w bo (ofN l[i].2.2) bc
theorem Yr.nil (w:World):Yr w [] []:=⟨rfl,λ i h=>absurd h (by simp)⟩
theorem Yr.same {w w' : World} {vs:List Value} {l:List Rw} (h:Yr w vs l) (hk:Za w w'):Yr w' vs l:=
 ⟨h.1,λ i hi=>by
  obtain ⟨ao,ac,bo,bc,h0,h1,h2,h3,h4⟩:=h.2 i hi
  exact ⟨ao,ac,bo,bc,h0,h1,h2,h3.same hk,h4.same hk⟩⟩
theorem Yr.snoc {w:World} {vs:List Value} {l:List Rw} (h:Yr w vs l) {x:Rw} {ao bo:Option Addr} {ac bc:Nat} (h3:Xx w ao x.2.1 ac) (h4:Xx w bo (ofN x.2.2) bc):Yr w (vs ++ [.int .i64 x.1,.slice ao x.2.1.length ac,.slice bo x.2.2.length bc]) (l ++ [x]):=by
 refine ⟨by simp [h.1];omega,λ i hi=>?_⟩
 by_cases hl:i<l.length
 ·rw [List.getElem_append_left hl,List.getElem?_append_left (by rw [h.1];omega),List.getElem?_append_left (by rw [h.1];omega),List.getElem?_append_left (by rw [h.1];omega)]
  exact h.2 i hl
 ·obtain rfl:i=l.length:=by simp at hi;omega
  refine ⟨ao,ac,bo,bc,?_,?_,?_,by simpa using h3,by simpa using h4⟩
  ·rw [List.getElem?_append_right (by rw [h.1];omega),h.1];simp
  ·rw [List.getElem?_append_right (by rw [h.1];omega),h.1];simp [Nat.add_sub_cancel_left]
  ·rw [List.getElem?_append_right (by rw [h.1];omega),h.1];simp [Nat.add_sub_cancel_left]
theorem Zg0 {w:World} {base N:Nat} {v:Value} {vs:List Value} {l:List Rw} (hr:w.ownsRow base 168 3 v N vs) (hc:Yr w vs l):∃ ao cap,v=.slice ao l.length cap∧Zes w ao l∧(ao=none->cap=0)∧N=l.length:=by
 have hN:N=l.length:=by have:=hr.1;rw [hc.1] at this;omega
 subst hN
 rcases hr.2 with ⟨rfl,h0⟩ | ⟨g,cap,cur,rfl,_,hg,_,_,_,ht⟩
 ·exact ⟨none,0,by rw [h0],.inl (List.eq_nil_of_length_eq_zero h0),λ _=>rfl,rfl⟩
 ·refine ⟨_,cap,rfl,.inr ⟨g,0,rfl,⟨cur,hg⟩,λ i hi=>?_⟩,(λ e=>by cases e),rfl⟩
  obtain ⟨ao,ac,bo,bc,h0,h1,h2,h3,h4⟩:=hc.2 i hi;have q0:=hr.cells (g:=g) rfl _ _ h0;have q1:=hr.cells (g:=g) rfl _ _ h1;have q2:=hr.cells (g:=g) rfl _ _ h2;rw [Xq] at q0 q1 q2;exact ⟨ao,ac,bo,bc,q0,by rw [<- q1];congr 2,by rw [<- q2];congr 2,h3,h4⟩
theorem Yr.kept {w w' : World} {vs:List Value} {l:List Rw} {S:Nat->Prop} (h:Yr w vs l) (hk:Zc S w w') (hS:∀ k,S k->∀ cur,w.heap[k]? ≠ some (.cells cur 3 (0,0))):Yr w' vs l:=
 ⟨h.1,λ i hi=>by
  obtain ⟨ao,ac,bo,bc,h0,h1,h2,h3,h4⟩:=h.2 i hi
  exact ⟨ao,ac,bo,bc,h0,h1,h2,h3.kept hk hS,h4.kept hk hS⟩⟩
end
section
open Go.RowKit
attribute [local go_sem ↓] Go.wp_at_zero Go.wp_at_succ
def Zg4 (L:List Sym) (T:List Int):List (List Int):=(List.range T.length).map (λ q=>ofN (Zz L T q))
theorem Ks (L:List Sym) (T:List Int):(Zg4 L T).length=T.length:=by simp [Zg4]
theorem Zha {L:List Sym} {T:List Int} {q:Nat} (h:q<(Zg4 L T).length):(Zg4 L T)[q]=ofN (Zz L T q):=by simp [Zg4]
def PsB (base:Nat) (w:World) (po:Option Addr) (P:List (List Int)):Prop:=
 P=[]∨∃ b off,po=some ⟨b,off,none⟩∧base<=b∧b<w.heap.size∧∀ i (h:i<P.length),∃ ao ac,w.cell? ⟨b,off+i,none⟩=some (.slice ao P[i].length ac)∧Zh w ao P[i]∧∀ a,ao=some a->base<=a.block
theorem PsB.kept {base:Nat} {w w' : World} {po:Option Addr} {P:List (List Int)} {S:Nat->Prop} (h:PsB base w po P) (hk:Zc S w w') (hS:∀ k,base<=k->¬ S k):PsB base w' po P:=by
 refine h.imp id ?_;rintro ⟨b,off,rfl,hb,hl,hc⟩;refine ⟨b,off,rfl,hb,Nat.lt_of_lt_of_le hl hk.size,λ i hi=>?_⟩;obtain ⟨ao,ac,h1,h2,h3⟩:=hc i hi;exact ⟨ao,ac,(hk.cell (p:=⟨b,off+i,none⟩) hl (hS b hb)).trans h1,h2.kept hk (λ a e=>hS _ (h3 a e)),h3⟩
def Zhj (base:Nat) (w:World) (L:List Sym) (ok:Bool) (T:List Int) (v:Value):Prop:=
 ∃ ho hc ao ac,v=.agg #[.slice ho (if ok then T.length else 0) hc,.slice ao (if ok then T.length else 0) ac]∧(ok=true->Zh w ho T∧(∀ a,ho=some a->base<=a.block)∧PsB base w ao (Zg4 L T))
theorem Zhj.kept {base:Nat} {w w' : World} {L:List Sym} {ok:Bool} {T:List Int} {v:Value} {S:Nat->Prop} (h:Zhj base w L ok T v) (hk:Zc S w w') (hS:∀ k,base<=k->¬ S k):Zhj base w' L ok T v:=by
 obtain ⟨ho,hc,ao,ac,e,h1⟩:=h;refine ⟨ho,hc,ao,ac,e,λ q=>?_⟩;obtain ⟨a,b,c⟩:=h1 q;exact ⟨a.kept hk (λ x e=>hS _ (b x e)),b,c.kept hk hS⟩
theorem Zhj.same {base:Nat} {w w' : World} {L:List Sym} {ok:Bool} {T:List Int} {v:Value} (h:Zhj base w L ok T v) (hk:Za w w'):Zhj base w' L ok T v:=h.kept hk (λ _ _ f=>f)
def Jx (ok:Bool) (T:List Int) (p:Int):Int:=if (ok && Jh p T.length)=true then T.getD p.toNat (-1) else -1
def Zn9 (L:List Sym) (ok:Bool) (T:List Int) (p n:Int):Int:=if (ok && Jh p T.length)=true then (if Jh n (Zz L T p.toNat).length=true then (((Zz L T p.toNat).getD n.toNat 0:Nat):Int) else -1) else -1
theorem Za1 {n:Int} {m:Nat} (h:Jh n m=true):∃ i:Nat,n=(i:Int)∧i<m:=by
 simp [Jh] at h;exact ⟨n.toNat,by omega,by omega⟩
theorem Zr1 (n:Int):Jh n 0=false:=by
 simp [Jh]
theorem Zuf (ok:Bool) (n:Int) (m:Nat):Jh n (if ok then m else 0)=(ok && Jh n m):=by
 cases ok
 ·simp [Zr1]
 ·simp
theorem Zr4 {base:Nat} {w:World} {L:List Sym} {ok:Bool} {T:List Int} {v:Value} (h:Zhj base w L ok T v) (p:Int) :
  Calls Tryz.prog 212 #[v,.int .i64 p] w λ e w' => e=.returned (.tuple #[.int .i64 (Jx ok T p),.bool false])∧Za w w' := by
 obtain ⟨ho,hc,ao,ac,rfl,h1⟩:=h;have CI:=Xj p (if ok then T.length else 0);rw [Zuf] at CI;have ka:Za w (w.alloc (.cells #[.slice ho (if ok then T.length else 0) hc,.slice ao (if ok then T.length else 0) ac] 121)):=(Zc.refl _ w).alloc _;cases hi:(ok && Jh p T.length) with
 | false=>
  rw [hi] at CI;have H:Hid (Jx ok T p = -1):=by show _=_;rw [Jx,if_neg (by rw [hi];decide)]
  clear hi h1;generalize (if ok then T.length else 0)=N at *
  go_enter Tryz.func212,Tryz.ntmps212
  go_wp2_with (first | (go_at_call 56;refine (CI _).mono ?_;rintro e w2 ⟨rfl,rfl⟩))
  exact bodyPost_ret (v:=.tuple #[.int .i64 (-1),.bool false]) (by simp [results,Tryz.results212,go_sem]) rfl ⟨by rw [H.out],ka⟩
 | true=>
  rw [hi] at CI;obtain ⟨rfl,hx⟩:ok=true∧Jh p T.length=true:=by simpa using hi
  obtain ⟨i,rfl,hl⟩:=Za1 hx
  have H:Hid (Jx true T (i:Int)=T[i]):=by
   show _=_;rw [Jx,if_pos (by simpa using hx),Int.toNat_natCast];simp [hl]
  obtain ⟨a,_,_⟩:=h1 rfl;obtain ⟨b,off,rfl,hb,hcell⟩:=(a.same ka).get hl;simp only [if_true] at CI ka hcell ⊢;have i1:(0:Int)<=(i:Int):=by omega
  have i2:(i:Int)<(T.length:Int):=by omega
  clear hi h1 a hx
  go_enter Tryz.func212,Tryz.ntmps212
  go_wp2_with (first | (go_at_call 56;refine (CI _).mono ?_;rintro e w2 ⟨rfl,rfl⟩))
  exact bodyPost_ret (v:=.tuple #[.int .i64 T[i],.bool false]) (by simp [results,Tryz.results212,go_sem]) rfl ⟨by rw [H.out],ka⟩
theorem Zvg {base:Nat} {w:World} {L:List Sym} {ok:Bool} {T:List Int} {v:Value} (h:Zhj base w L ok T v) (p n:Int) :
  Calls Tryz.prog 211 #[v,.int .i64 p,.int .i64 n] w λ e w' => e=.returned (.int .i64 (Zn9 L ok T p n))∧Za w w' := by
 obtain ⟨ho,hc,ao,ac,rfl,h1⟩:=h;have CI:=Xj p (if ok then T.length else 0);rw [Zuf] at CI;have ka:Za w (w.alloc (.cells #[.slice ho (if ok then T.length else 0) hc,.slice ao (if ok then T.length else 0) ac] 121)):=(Zc.refl _ w).alloc _;cases hi:(ok && Jh p T.length) with
 | false=>
  rw [hi] at CI;have H:Hid (Zn9 L ok T p n = -1):=by show _=_;rw [Zn9,if_neg (by rw [hi];decide)]
  clear hi h1;generalize (if ok then T.length else 0)=N at *
  go_enter Tryz.func211,Tryz.ntmps211
  go_wp2_with (first | (go_at_call 56;refine (CI _).mono ?_;rintro e w2 ⟨rfl,rfl⟩))
  go_ret;exact ⟨by rw [H.out];rfl,ka⟩
 | true=>
  rw [hi] at CI;obtain ⟨rfl,hx⟩:ok=true∧Jh p T.length=true:=by simpa using hi
  obtain ⟨i,rfl,hl⟩:=Za1 hx;obtain ⟨_,_,a⟩:=h1 rfl;have a' := a.kept ka (λ _ _ f=>f)
  rcases a' with e0 | ⟨b,off,rfl,_,hb,hcell⟩
  ·have:=Ks L T;rw [e0] at this;simp at this;omega
  ·obtain ⟨qo,qc,c1,c2,_⟩:=hcell i (by rw [Ks];exact hl)
   rw [Zha] at c1 c2;have hN:(ofN (Zz L T i)).length=(Zz L T i).length:=X4 _;rw [hN] at c1;obtain ⟨A,hA⟩:∃ A,A=Zz L T i:=⟨_,rfl⟩
   have HV:Hid (Zn9 L true T (i:Int) n=if Jh n A.length=true then ((A.getD n.toNat 0:Nat):Int) else -1):=by
    show _=_;rw [Zn9,if_pos (by simpa using hx),Int.toNat_natCast,hA]
   rw [<- hA] at c1 c2 hN;have CJ:=Xj n A.length;simp only [if_true] at CI ka c1 c2 ⊢;have i1:(0:Int)<=(i:Int):=by omega
   have i2:(i:Int)<(T.length:Int):=by omega
   have CC:Hid (∀ (z:Int) (m:Nat) ww,(z=(i:Int)∧m=T.length)∨(z=n∧m=A.length)->Calls Tryz.prog 56 #[.int .i64 z,.int .i64 (m:Int)] ww λ e w' => e=.returned (.bool (Jh z m))∧w' = ww):=λ z m ww _=>Xj z m ww;have hx2:Jh (i:Int) T.length=true:=hx;cases hj:Jh n A.length with
   | false=>
    rw [hj] at HV CJ;have H:Hid (Zn9 L true T (i:Int) n = -1):=by rw [HV.out];rfl
    clear hi h1 a hx HV hA
    go_enter Tryz.func211,Tryz.ntmps211
    go_wp2_with (first | (go_at_call 56;have hold:=hdone;refine (CJ _).mono ?_;rintro e w2 ⟨rfl,rfl⟩) | (go_at_call 56;refine (CI _).mono ?_;rintro e w2 ⟨rfl,rfl⟩;have hdone:True:=trivial))
    go_ret;exact ⟨by rw [H.out];rfl,ka⟩
   | true=>
    obtain ⟨j,rfl,hjl⟩:=Za1 hj;rw [hj] at HV CJ;have H:Hid (Zn9 L true T (i:Int) (j:Int)=((A[j]:Nat):Int)):=by rw [HV.out];show _=_;simp [hjl]
    obtain ⟨qb,qoff,rfl,hqb,hq⟩:=c2.get (i:=j) (by rw [hN];exact hjl);have hq2:(ofN A)[j]'(by rw [hN];exact hjl)=((A[j]:Nat):Int):=by simp [ofN]
    rw [hq2] at hq;have j1:(0:Int)<=(j:Int):=by omega
    have j2:(j:Int)<(A.length:Int):=by omega
    clear hi h1 a hx HV hA c2 hq2
    go_enter Tryz.func211,Tryz.ntmps211
    go_wp2_with (first | (go_at_call 56;have hold:=hdone;refine (CJ _).mono ?_;rintro e w2 ⟨rfl,rfl⟩) | (go_at_call 56;refine (CI _).mono ?_;rintro e w2 ⟨rfl,rfl⟩;have hdone:True:=trivial))
    go_ret;exact ⟨by rw [H.out];rfl,ka⟩
theorem Zt (w:World) (b o:Nat) (u:Value):Zc (λ k=>k=b) w (w.setCell ⟨b,o,none⟩ u):=Zc.setCell (p:=⟨b,o,none⟩) (Zc.refl (λ k=>k=b) w) (λ _=>rfl) u
def Zio (w:World) (b n:Nat) (f:Nat->Value):Prop:=∃ cs,w.heap[b]? = some (.cells cs 32 (0,0))∧cs.size=n∧∀ i,i<n->cs[i]? = some (f i)
theorem Zio.kept {S:Nat->Prop} {w w' : World} {b n:Nat} {f:Nat->Value} (h:Zio w b n f) (hk:Zc S w w') (hs:¬ S b):Zio w' b n f:=by
 obtain ⟨cs,h1,h2,h3⟩:=h;exact ⟨cs,hk.at h1 hs,h2,h3⟩
theorem Zio.cell {w:World} {b n:Nat} {f:Nat->Value} (h:Zio w b n f) {i:Nat} (hi:i<n):w.cell? ⟨b,i,none⟩=some (f i)∧w.frozen? ⟨b,i,none⟩=false:=by
 obtain ⟨cs,h1,h2,h3⟩:=h;exact ⟨(Zb h1 i).trans (h3 i hi),Zd h1 i⟩
theorem Zio.set {w:World} {b n:Nat} {f:Nat->Value} (h:Zio w b n f) (i:Nat) (v:Value):Zio (w.setCell ⟨b,i,none⟩ v) b n (λ k=>if k=i then v else f k):=by
 obtain ⟨cs,h1,h2,h3⟩:=h;refine ⟨cs.setIfInBounds i v,Zs h1 i v,by simp [h2],λ k hk=>?_⟩
 by_cases e:k=i
 ·subst e;simp [h2,hk]
 ·simp only [if_neg e];rw [Array.getElem?_setIfInBounds_ne (λ q=>e q.symm)];exact h3 k hk
theorem Zio.congr {w:World} {b n:Nat} {f g:Nat->Value} (h:Zio w b n f) (e:∀ i,i<n->f i=g i):Zio w b n g:=by
 obtain ⟨cs,h1,h2,h3⟩:=h;exact ⟨cs,h1,h2,λ i hi=>by rw [<- e i hi];exact h3 i hi⟩
theorem Zio.lt {w:World} {b n:Nat} {f:Nat->Value} (h:Zio w b n f):b<w.heap.size:=by
 obtain ⟨cs,h1,_⟩:=h;exact Zi h1
theorem Zka (n i:Nat) (h:i<n):(madeCells #[Value.slice none 0 0] n)[i]? = some (.slice none 0 0):=by
 rw [<- Array.getElem?_toList,toList_madeCells_one];simp [h]
def Zq8 (L:List Sym) (T:List Int) (w0:World) (gA gE k:Nat) (wr:World):Prop:=
 Za w0 wr∧gA≠gE∧w0.heap.size<=gA∧w0.heap.size<=gE∧∃ (en:Nat->Int) (f:Nat->Value),Jd wr gE T.length en∧Zio wr gA T.length f∧(∀ q,k<=q->q<T.length->en q=(Zq L T q:Int))∧(∀ q,q<k->f q=.slice none 0 0) ∧
  ∀ q,k<=q->q<T.length->∃ ao ac,f q=.slice ao (Zz L T q).length ac∧Zh wr ao (ofN (Zz L T q))∧∀ a,ao=some a->a.block≠gE∧a.block≠gA∧w0.heap.size<=a.block
def AIn (L:List Sym) (T:List Int) (w0:World) (gA gE p:Nat) (en:Nat->Int) (f:Nat->Value) (j:Nat) (wr:World):Prop:=
 Zc (λ k=>k=gE∨k=gA) w0 wr∧Jd wr gE T.length (λ q=>if q=p then (past L T j (p+1):Int) else en q)∧∃ vo vc,Zio wr gA T.length (λ q=>if q=p then .slice vo j vc else f q)∧wr.ownsRow w0.heap.size 3 1 (.slice vo j vc) j (iv (ofN (Zr L T j (p+1))))
theorem Zq8.same {L:List Sym} {T:List Int} {w0:World} {gA gE k:Nat} {wr w' : World} (h:Zq8 L T w0 gA gE k wr) (hk:Za wr w'):Zq8 L T w0 gA gE k w' := by
 obtain ⟨h0,h1,h2,h3,en,f,h4,h5,h6,h7,h8⟩:=h;refine ⟨h0.trans' hk,h1,h2,h3,en,f,h4.kept hk (λ f=>f),h5.kept hk (λ f=>f),h6,h7,λ q a b=>?_⟩;obtain ⟨ao,ac,x,y,z⟩:=h8 q a b;exact ⟨ao,ac,x,y.same hk,z⟩
theorem AIn.done {L:List Sym} {T:List Int} {w0 wp wr:World} {gA gE p:Nat} (hT:IsT L T) (hp:p<T.length) (h0:Za w0 wp) (hg:gA≠gE) (hA:w0.heap.size<=gA) (hE:w0.heap.size<=gE) {en:Nat->Int} {f:Nat->Value} (h6:∀ q,p+1<=q->q<T.length->en q=(Zq L T q:Int)) (h7:∀ q,q<p+1->f q=.slice none 0 0)
  (h8:∀ q,p+1<=q->q<T.length->∃ ao ac,f q=.slice ao (Zz L T q).length ac∧Zh wp ao (ofN (Zz L T q))∧∀ a,ao=some a->a.block≠gE∧a.block≠gA∧w0.heap.size<=a.block) (hlA:gA<wp.heap.size) (hlE:gE<wp.heap.size) (h:AIn L T wp gA gE p en f (arN L T[p]) wr):Zq8 L T w0 gA gE p wr:=by
 obtain ⟨k1,h2,vo,vc,h3,h4⟩:=h;have hf:=(Zu.one hT hp).kids.2;have hpast:=hf.past;have hS:Za w0 wr:=Zc.trans h0 k1 (λ i hi e=>by rcases e with e | e <;> omega);refine ⟨hS,hg,hA,hE,_,_,h2,h3,λ q a b=>?_,λ q a=>?_,λ q a b=>?_⟩
 ·by_cases e:q=p
  ·subst e;rw [if_pos rfl,hpast]
  ·rw [if_neg e];exact h6 q (by omega) b
 ·rw [if_neg (by omega)];exact h7 q (by omega)
 ·by_cases e:q=p
  ·subst e
   have hN:Zz L T q=Zr L T (arN L T[q]) (q+1):=Ya hp;have hlen:(Zz L T q).length=arN L T[q]:=by rw [hN,Zl]
   refine ⟨vo,vc,by rw [if_pos rfl,hlen],?_,λ a e=>?_⟩
   ·rw [hN]
    rcases h4.2 with ⟨e1,e2⟩ | ⟨g,cap,cur,e1,e2,e3,_⟩
    ·have:(Zr L T (arN L T[q]) (q+1)).length=0:=by rw [Zl];exact e2
     rw [List.eq_nil_of_length_eq_zero this];exact .inl rfl
    ·simp only [Value.slice.injEq] at e1
     obtain ⟨rfl,_,rfl⟩:=e1;refine .inr ⟨g,0,rfl,Zi e3,λ i hi=>?_⟩;have hc:=h4.cells (g:=g) rfl i (.int .i64 (ofN (Zr L T (arN L T[q]) (q+1)))[i]) (Kj hi);rw [Xq] at hc;exact hc
   ·rcases h4.2 with ⟨e1,e2⟩ | ⟨g,cap,cur,e1,e2,e3,_⟩
    ·simp only [Value.slice.injEq] at e1
     obtain ⟨rfl,_,_⟩:=e1;cases e
    ·simp only [Value.slice.injEq] at e1
     obtain ⟨rfl,_,rfl⟩:=e1;cases e;have:=h0.size;refine ⟨λ q=>?_,λ q=>?_,?_⟩
     ·simp at q;omega
     ·simp at q;omega
     ·simp;omega
  ·obtain ⟨ao,ac,x,y,z⟩:=h8 q (by omega) b
   refine ⟨ao,ac,by rw [if_neg e];exact x,y.kept k1 (λ a e=>?_),z⟩;obtain ⟨z1,z2,_⟩:=z a e;rintro (q | q) <;> contradiction
theorem Zs8 (x:Int) (w:World):Calls Tryz.prog 69 #[.int .i64 x] w λ e w' => e=.returned (.bool (decide (x<0)))∧w' = w:=by
 go_enter Tryz.func69,Tryz.ntmps69
 go_wp2;go_ret;exact ⟨rfl,rfl⟩
theorem Zfc {w:World} {x:Rw} {ao bo:Option Addr} {ac bc:Nat} (h1:Zh w ao x.2.1) (h2:Zh w bo (ofN x.2.2)) {c:Nat} (hc:c<x.2.2.length) (hp:x.2.2[c]<x.2.1.length) :
  Calls Tryz.prog 127 #[.agg #[.int .i64 x.1,.slice ao x.2.1.length ac,.slice bo x.2.2.length bc],.int .i64 (c:Int)] w λ e w' => e=.returned (.int .i64 (Xo x c))∧Za w w' := by
 obtain ⟨lb,loff,rfl,_,hl⟩:=h1.get hp;obtain ⟨pb,poff,rfl,_,hl2⟩:=h2.get (i:=c) (by rw [X4];exact hc);have e2:(ofN x.2.2)[c]'(by rw [X4];exact hc)=((x.2.2[c]:Nat):Int):=by simp [ofN]
 rw [e2] at hl2;clear e2 h1 h2;rw [Za2 hc hp];have K:Hid (∀ o,Za w (w.alloc o)):=λ o=>(Zc.refl _ w).alloc o;generalize x.2.1[x.2.2[c]]=y at *;generalize x.2.2[c]=q at *;generalize x.2.1.length=n1 at *;generalize x.2.2.length=n2 at *;generalize x.1=r at *;have D1:∀ o,(w.alloc o).cell? ⟨lb,loff+q,none⟩=some (.int .i64 y):=λ o=>Xh hl o;have D2:∀ o,(w.alloc o).cell? ⟨pb,poff+c,none⟩=some (.int .i64 (q:Int)):=λ o=>Xh hl2 o;have E1:∀ o,(w.alloc o).drew.cell? ⟨lb,loff+q,none⟩=some (.int .i64 y):=λ o=>Xh hl o;have E2:∀ o,(w.alloc o).drew.cell? ⟨pb,poff+c,none⟩=some (.int .i64 (q:Int)):=λ o=>Xh hl2 o;have i1:(0:Int)<=(c:Int):=by omega
 have i2:(c:Int)<(n2:Int):=by omega
 have i3:(0:Int)<=(q:Int):=by omega
 have i4:(q:Int)<(n1:Int):=by omega
 clear hl hl2
 go_enter Tryz.func127,Tryz.ntmps127
 go_wp2;go_quiet (fail);go_wp2;go_ret;exact ⟨rfl,(K.out _).drewN _⟩
theorem Zpe {w:World} {x:Rw} {ao bo:Option Addr} {ac bc:Nat} (h1:Zh w ao x.2.1) (h2:Zh w bo (ofN x.2.2)) {c:Nat} (hc:c<x.2.2.length) (hp:x.2.2[c]<x.2.1.length) {cb:Nat} (hcb:w.cell? ⟨cb,0,none⟩=some (.int .i64 (c:Int))) :
  Calls Tryz.prog 126 #[.agg #[.int .i64 x.1,.slice ao x.2.1.length ac,.slice bo x.2.2.length bc],.pointer (some ⟨cb,0,none⟩)] w λ e w' => e=.returned (.bool (decide (Xo x c<0)))∧Za w w' := by
 have K:∀ o,Za w (w.alloc o):=λ o=>(Zc.refl _ w).alloc o;have C:∀ o,Calls Tryz.prog 127 #[.agg #[.int .i64 x.1,.slice ao x.2.1.length ac,.slice bo x.2.2.length bc],.int .i64 (c:Int)] (w.alloc o) λ e w' => e=.returned (.int .i64 (Xo x c))∧Za w w' := λ o=>(Zfc (h1.same (K o)) (h2.same (K o)) hc hp).mono (λ e w' h=>⟨h.1,(K o).trans' h.2⟩)
 have D1:∀ o,(w.alloc o).cell? ⟨cb,0,none⟩=some (.int .i64 (c:Int)):=λ o=>Xh hcb o;have C2:=Zs8;generalize Xo x c=z at *;clear h1 h2 hcb K
 go_enter Tryz.func126,Tryz.ntmps126
 go_wp2_with (first
  | (go_at_call 127;refine (C _).mono ?_;rintro e w1 ⟨rfl,hk⟩)
  | (go_at_call 69;refine (C2 _ _).mono ?_;rintro e w2 ⟨rfl,rfl⟩))
 go_ret;exact ⟨rfl,hk⟩
def RowsOk (n:Nat) (R:List Rw):Prop:=∀ x∈R,x.2.2.length=n∧∀ p∈x.2.2,p<x.2.1.length
theorem Znh {w0:World} {c cb n:Nat} {ro:Option Addr} {rc:Nat} {R:List Rw} (hR:Zes w0 ro R) (hok:RowsOk n R) (hc:c<n) (hcb:w0.cell? ⟨cb,0,none⟩=some (.int .i64 (c:Int))) (hm:R.length<=100) :
  Calls Tryz.prog 157 #[.slice ro R.length rc,.func (.func 126) #[] #[.pointer (some ⟨cb,0,none⟩)]] w0 λ e w' => ∃ z:Int,e=.returned (.int .i64 z)∧Yk z (R.any (λ x=>decide (Xo x c<0)))∧Za w0 w' := by
 have HB:=World.block_lt_of_cell? w0 _ hcb
 go_enter Tryz.func157,Tryz.ntmps157
 go_wp2
 go_loopw [8] (λ i wr=>∃ k:Nat,k<=R.length∧i=.int .i64 (k:Int)∧Hid ((R.take k).any (λ x=>decide (Xo x c<0))=false)∧Za w0 wr) (λ i _=>R.length-(intOf i).toNat)
 case atStart=>exact ⟨0,Nat.zero_le _,rfl,by show _=_;simp,Zc.refl _ _⟩
 case round=>
  obtain ⟨k,hk,rfl,ha,hw⟩:=hrel
  by_cases hlt:k<R.length
  ·obtain ⟨b,off,rfl,_,ao,ac,bo,bc,r0,r1,r2,A1,A2⟩:=(hR.same hw).get hlt
   obtain ⟨o1,o2⟩:=hok _ (List.getElem_mem hlt);have hc' : c<R[k].2.2.length:=by omega
   have C:=Zpe (ac:=ac) (bc:=bc) A1.1.at' A2.1.at' hc' (o2 _ (List.getElem_mem hc')) ((hw.cell (p:=⟨cb,0,none⟩) HB (λ f=>f)).trans hcb);have i1:(0:Int)<=(k:Int):=by omega
   have i2:(k:Int)<(R.length:Int):=by omega
   have hz:∀ q:Bool,decide (Xo R[k] c<0)=q->Hid (decide (Xo R[k] c<0)=q):=λ q h=>h;cases hq:decide (Xo R[k] c<0) with
   | true=>
    have H:Hid (Yk (k:Int) (R.any (λ x=>decide (Xo x c<0)))):=by
     have e1:R.any (λ x=>decide (Xo x c<0))=true:=List.any_eq_true.2 ⟨R[k],List.getElem_mem hlt,hq⟩;show decide _=_;rw [e1];simp
    rw [hq] at C;clear hz hq ha hcb hok hR A1 A2 o2 o1
    go_wp2_with (first | (go_at_call 126;refine C.mono ?_;rintro e w2 ⟨rfl,hw2⟩))
    go_ret;exact ⟨_,rfl,H.out,hw.trans' hw2⟩
   | false=>
    have H:Hid ((R.take (k+1)).any (λ x=>decide (Xo x c<0))=false):=by
     have e1:=ha.out;show _=_;rw [List.take_add_one,List.getElem?_eq_getElem hlt,List.any_append,e1]
     simpa using hq
    rw [hq] at C;clear hz hq ha hcb A1 A2 o2 o1
    go_wp2_with (first | (go_at_call 126;refine C.mono ?_;rintro e w2 ⟨rfl,hw2⟩))
    exact ⟨⟨k+1,by omega,by go_num,H,hw.trans' hw2⟩,by simp [intOf];omega⟩
  ·have H:Hid (Yk (-1) (R.any (λ x=>decide (Xo x c<0)))):=by
    have:=ha.out;rw [List.take_of_length_le (by omega)] at this;show decide _=_;rw [this];rfl
   go_wp2;go_ret;exact ⟨_,rfl,H.out,hw⟩
theorem Zf8 {w0:World} {c cb n:Nat} {ro:Option Addr} {rc:Nat} {R:List Rw} (hR:Zes w0 ro R) (hok:RowsOk n R) (hc:c<n) (hcb:w0.cell? ⟨cb,0,none⟩=some (.int .i64 (c:Int))) (hm:R.length<=100) :
  Calls Tryz.prog 128 #[.slice ro R.length rc,.func (.func 126) #[] #[.pointer (some ⟨cb,0,none⟩)]] w0 λ e w' => e=.returned (.bool (R.any (λ x=>decide (Xo x c<0))))∧Za w0 w' := by
 have C:=Znh (rc:=rc) hR hok hc hcb hm;clear hR hok hcb;generalize R.any (λ x=>decide (Xo x c<0))=z at *
 go_enter Tryz.func128,Tryz.ntmps128
 go_wp2_with (first | (go_at_call 157;refine C.mono ?_;rintro e w2 ⟨z', rfl,hz,hw2⟩))
 go_ret;exact ⟨Ye (Yk.eq hz),hw2⟩
theorem Zv7 (R:List Rw) (c:Nat):R.any (λ x=>decide (Xo x c<0)) = !Zet R c:=by
 unfold Zet
 induction R with
 | nil=>rfl
 | cons x r ih=>
  simp only [List.any_cons,List.all_cons,ih,Bool.not_and];congr 1
  by_cases h:Xo x c<0
  ·simp [h]
  ·simp [h];omega
def Zex (R:List Rw) (n:Nat):Int:=match Yw R n with | some c=>(c:Int) | none=>-1
theorem Zem {R : List Rw} {k c : Nat} (h : Yw R k = some c) : ∀ m, k <= m -> Yw R m = some c
  | 0, hm => by obtain rfl : k = 0 := by omega
                exact h
  | m + 1, hm => by
    by_cases e : k = m + 1
    · subst e; exact h
    · unfold Yw
      rw [Zem h m (by omega)]
theorem Zke {w:World} {bs:Nat} {po ro:Option Addr} {pl pc rc:Nat} {R:List Rw} (hR:Zes w ro R) (hok:RowsOk pl R) (hm:R.length<=100) (hpl:pl<=4000) :
  Calls Tryz.prog 84 #[.agg #[.pointer (some ⟨bs,0,none⟩),.slice po pl pc,.slice ro R.length rc]] w λ e w' => e=.returned (.int .i64 (Zex R pl))∧Za w w' := by
 have CC:Hid (∀ ww c,c<pl->Za w ww->Calls Tryz.prog 128 #[.slice ro R.length rc,.func (.func 126) #[] #[.pointer (some ⟨ww.heap.size,0,none⟩)]] (ww.alloc (.cells #[.int .i64 (c:Int)] 3)) λ e w' => e=.returned (.bool (R.any (λ x=>decide (Xo x c<0))))∧Za (ww.alloc (.cells #[.int .i64 (c:Int)] 3)) w'):=λ ww c hc hk=>by
  have ka:Za ww (ww.alloc (.cells #[.int .i64 (c:Int)] 3)):=(Zc.refl _ _).alloc _;exact (Zf8 ((hR.same hk).same ka) hok hc (Zb (heap_alloc_new ww _) 0) hm)
 have K:Za w (w.alloc (.cells #[.pointer (some ⟨bs,0,none⟩),.slice po pl pc,.slice ro R.length rc] 106)):=(Zc.refl _ w).alloc _;have BX:Hid (∀ ww,Za (w.alloc (.cells #[.pointer (some ⟨bs,0,none⟩),.slice po pl pc,.slice ro R.length rc] 106)) ww->ww.cell? ⟨w.heap.size,1,none⟩=some (.slice po pl pc)∧ww.cell? ⟨w.heap.size,2,none⟩=some (.slice ro R.length rc)):=λ ww hk=>⟨Zb (hk.at0 (heap_alloc_new w _)) 1,Zb (hk.at0 (heap_alloc_new w _)) 2⟩;clear hR hok
 go_enter Tryz.func84,Tryz.ntmps84
 go_wp2
 go_loopw [8] (λ i wr=>∃ k:Nat,k<=pl∧i=.int .i64 (k:Int)∧Hid (Yw R k=none)∧Za (w.alloc (.cells #[.pointer (some ⟨bs,0,none⟩),.slice po pl pc,.slice ro R.length rc] 106)) wr) (λ i _=>pl-(intOf i).toNat)
 case atStart=>exact ⟨0,Nat.zero_le _,rfl,rfl,Zc.refl _ _⟩
 case round=>
  obtain ⟨k,hk,rfl,ha,hw⟩:=hrel
  by_cases hlt:k<pl
  ·have C:=CC.out wr k hlt (K.trans' hw)
   have ka:Za wr (wr.alloc (.cells #[.int .i64 (k:Int)] 3)):=(Zc.refl _ _).alloc _;obtain ⟨b1,b2⟩:=BX.out _ (hw.trans' ka);have i2:(k:Int)<(pl:Int):=by omega
   rw [Zv7] at C;cases hq:Zet R k with
   | true=>
    have H:Hid (Zex R pl=(k:Int)):=by
     have:Yw R (k+1)=some k:=by unfold Yw;rw [ha.out];simp [hq]
     show _=_;unfold Zex;rw [Zem this pl (by omega)]
    rw [hq] at C;have HC:Hid (∀ w2,Za (wr.alloc (.cells #[.int .i64 (k:Int)] 3)) w2->w2.cell? ⟨wr.heap.size,0,none⟩=some (.int .i64 (k:Int))):=λ w2 h2=>Zb (h2.at0 (heap_alloc_new wr _)) 0;clear hq ha CC
    go_wp2_with (first | (go_at_call 128;refine C.mono ?_;rintro e w2 ⟨rfl,hw2⟩;have c2:=HC.out _ hw2))
    go_ret;exact ⟨Z7 H.out.symm,(K.trans' hw).trans' (ka.trans' hw2)⟩
   | false=>
    have H:Hid (Yw R (k+1)=none):=by
     show _=_;unfold Yw;rw [ha.out];simp [hq]
    rw [hq] at C;clear hq ha
    go_wp2_with (first | (go_at_call 128;refine C.mono ?_;rintro e w2 ⟨rfl,hw2⟩))
    exact ⟨⟨k+1,by omega,by go_num,H,hw.trans' (ka.trans' hw2)⟩,by simp [intOf];omega⟩
  ·have H:Hid (Zex R pl = -1):=by
    obtain rfl:k=pl:=by omega
    show _=_;unfold Zex;rw [ha.out]
   clear ha;go_wp2;go_ret;exact ⟨Z7 H.out.symm,K.trans' hw⟩
theorem X8 (a d:Option Addr) (b c e f:Nat) (w:World):(Instr.field 68 (.agg #[.slice a b c,.slice d e f]) 0).run Tryz.prog w=.ok (.slice a b c) w:=by kernel_rfl
theorem Xi (a d:Option Addr) (b c e f:Nat) (w:World):(Instr.field 68 (.agg #[.slice a b c,.slice d e f]) 1).run Tryz.prog w=.ok (.slice d e f) w:=by kernel_rfl
def X9 (L:List Sym) (R l:List Ru) (j n:Nat):List (Int × Int):=if ckB L R l j n=true then [(0, -1)] else Xm L R l j n
structure Cnd (w:World) (b bs:Nat) (ro:Option Addr) (rc:Nat) (L:List Sym) (R:List Ru) (lo:Option Addr) (l:List Ru) (n:Nat):Prop where
 st:StR w b bs ro rc L R
 ls:V7 w lo l
 ll:l.length<=140737488355328
 hn:n<l.length
def Zqv (w:World) (k b:Nat) (lo:Option Addr) (ll lc n:Nat):Prop:=w.cell? ⟨k,0,none⟩=some (.pointer (some ⟨b,0,none⟩))∧w.cell? ⟨k,1,none⟩=some (.slice lo ll lc)∧w.cell? ⟨k,2,none⟩=some (.int .i64 (n:Int))
theorem Zpp (w:World) (b:Nat) (lo:Option Addr) (ll lc n:Nat) (t:TypeId):Zqv (w.alloc (.cells #[.pointer (some ⟨b,0,none⟩),.slice lo ll lc,.int .i64 (n:Int)] t)) w.heap.size b lo ll lc n:=by
 have h:=heap_alloc_new w (.cells #[.pointer (some ⟨b,0,none⟩),.slice lo ll lc,.int .i64 (n:Int)] t);exact ⟨Zb h 0,Zb h 1,Zb h 2⟩
theorem Zqv.same {w w' : World} {k b:Nat} {lo:Option Addr} {ll lc n:Nat} (h:Zqv w k b lo ll lc n) (hb:k<w.heap.size) (hk:Za w w'):Zqv w' k b lo ll lc n:=
 ⟨(hk.cell (p:=⟨k,0,none⟩) hb (λ f=>f)).trans h.1,(hk.cell (p:=⟨k,1,none⟩) hb (λ f=>f)).trans h.2.1,(hk.cell (p:=⟨k,2,none⟩) hb (λ f=>f)).trans h.2.2⟩
theorem Zt6 {z:Int} (h1 : -9223372036854775808<=z) (h2:z<9223372036854775808):IntKind.i64.wrap z=z:=by
 simp [IntKind.wrap,IntKind.bits,IntKind.signed];omega
theorem Zst {w:World} {b bs:Nat} {ro:Option Addr} {rc:Nat} {L:List Sym} {R:List Ru} {lo:Option Addr} {l:List Ru} {n lc:Nat} (h:Cnd w b bs ro rc L R lo l n) :
  Calls Tryz.prog 140 #[.agg #[.pointer (some ⟨b,0,none⟩),.slice lo l.length lc,.int .i64 (n:Int)]] w λ e w' => ∃ v,e=.returned v∧Yg w' (X9 L R l 0 n) v∧Za w w' := by
 have W1:Za w (w.alloc (.cells #[.pointer (some ⟨b,0,none⟩),.slice lo l.length lc,.int .i64 (n:Int)] 211)):=(Zc.refl _ w).alloc _;have B1:=Zpp w b lo l.length lc n 211;have C1:=(h.st.same W1).cells;have hz:w.heap.size<(w.alloc (.cells #[.pointer (some ⟨b,0,none⟩),.slice lo l.length lc,.int .i64 (n:Int)] 211)).heap.size:=by simp
 have HS:Hid (∀ ww,Za (w.alloc (.cells #[.pointer (some ⟨b,0,none⟩),.slice lo l.length lc,.int .i64 (n:Int)] 211)) ww->(ww.cell? ⟨b,0,none⟩=some (.pointer (some ⟨bs,0,none⟩))∧ww.cell? ⟨b,1,none⟩=some (.slice ro R.length rc))∧ww.cell? ⟨w.heap.size,0,none⟩=some (.pointer (some ⟨b,0,none⟩))∧ww.cell? ⟨w.heap.size,1,none⟩=some (.slice lo l.length lc)∧ww.cell? ⟨w.heap.size,2,none⟩=some (.int .i64 (n:Int))):=λ ww hk=>⟨((h.st.same W1).same hk).cells,B1.same hz hk⟩;have hR:=h.st.le;have hl:=h.ll;have CC0:=HS.out _ (Zc.refl _ _)
 have E:Hid (∀ q:Bool,q=decide (R.length+l.length<=100)->(if q=true then [(0, -1)] else [(70,(n:Int))])=X9 L R l 0 n):=by
  intro q hq;subst hq;simp only [X9,ckB,Zbu,Xm];split <;> simp_all
 have Q:Hid (decide (IntKind.i64.wrap ((R.length:Int)+(l.length:Int))<=100)=decide (R.length+l.length<=100)):=by
  show _=_;rw [Zt6 (by omega) (by omega)];congr 1;exact propext ⟨λ h=>by omega,λ h=>by omega⟩
 clear B1 C1 hz
 go_enter Tryz.func140,Tryz.ntmps140
 go_wp2
 go_region_held3 (λ w' => (w'.cell? ⟨b,0,none⟩=some (.pointer (some ⟨bs,0,none⟩))∧w'.cell? ⟨b,1,none⟩=some (.slice ro R.length rc))∧w'.cell? ⟨w.heap.size,0,none⟩=some (.pointer (some ⟨b,0,none⟩))∧w'.cell? ⟨w.heap.size,1,none⟩=some (.slice lo l.length lc)∧w'.cell? ⟨w.heap.size,2,none⟩=some (.int .i64 (n:Int))) (first | exact cc1 | exact CC0) (first | (go_at_call 165;refine (Zfm _ _ _ _ _ _ _ _).mono ?_;rintro e w2 ⟨v,rfl,hv,hk2⟩;have cc1:=HS.out _ (Za.trans' (Zc.drew (Zc.refl _ _)) hk2)))
 go_wp2;go_ret;exact ⟨_,rfl,by rw [<- E.out _ Q.out];exact hv,Za.trans' (Zc.drew W1) hk2⟩
theorem Cnd.opened {w:World} {b bs:Nat} {ro:Option Addr} {rc:Nat} {L:List Sym} {R:List Ru} {lo:Option Addr} {l:List Ru} {n:Nat} (h:Cnd w b bs ro rc L R lo l n) (lc:Nat) :
  ∃ lb off ao ac bo bc x,lo=some ⟨lb,off,none⟩∧x=l.getD n ([],[])∧Za w (w.alloc (.cells #[.pointer (some ⟨b,0,none⟩),.slice (some ⟨lb,off,none⟩) l.length lc,.int .i64 (n:Int)] 211))∧(((w.alloc (.cells #[.pointer (some ⟨b,0,none⟩),.slice (some ⟨lb,off,none⟩) l.length lc,.int .i64 (n:Int)] 211)).cell? ⟨b,0,none⟩=some (.pointer (some ⟨bs,0,none⟩))∧(w.alloc (.cells #[.pointer (some ⟨b,0,none⟩),.slice (some ⟨lb,off,none⟩) l.length lc,.int .i64 (n:Int)] 211)).cell? ⟨b,1,none⟩=some (.slice ro R.length rc))∧((w.alloc (.cells #[.pointer (some ⟨b,0,none⟩),.slice (some ⟨lb,off,none⟩) l.length lc,.int .i64 (n:Int)] 211)).cell? ⟨w.heap.size,0,none⟩=some (.pointer (some ⟨b,0,none⟩))∧(w.alloc (.cells #[.pointer (some ⟨b,0,none⟩),.slice (some ⟨lb,off,none⟩) l.length lc,.int .i64 (n:Int)] 211)).cell? ⟨w.heap.size,1,none⟩=some (.slice (some ⟨lb,off,none⟩) l.length lc)∧(w.alloc (.cells #[.pointer (some ⟨b,0,none⟩),.slice (some ⟨lb,off,none⟩) l.length lc,.int .i64 (n:Int)] 211)).cell? ⟨w.heap.size,2,none⟩=some (.int .i64 (n:Int)))∧(w.alloc (.cells #[.pointer (some ⟨b,0,none⟩),.slice (some ⟨lb,off,none⟩) l.length lc,.int .i64 (n:Int)] 211)).cell? ⟨lb,off+n * 2,none⟩=some (.slice ao x.1.length ac)∧(w.alloc (.cells #[.pointer (some ⟨b,0,none⟩),.slice (some ⟨lb,off,none⟩) l.length lc,.int .i64 (n:Int)] 211)).cell? ⟨lb,off+n * 2+1,none⟩=some (.slice bo x.2.length bc)) ∧
   Hid (∀ ww,Za (w.alloc (.cells #[.pointer (some ⟨b,0,none⟩),.slice (some ⟨lb,off,none⟩) l.length lc,.int .i64 (n:Int)] 211)) ww->(ww.cell? ⟨b,0,none⟩=some (.pointer (some ⟨bs,0,none⟩))∧ww.cell? ⟨b,1,none⟩=some (.slice ro R.length rc))∧(ww.cell? ⟨w.heap.size,0,none⟩=some (.pointer (some ⟨b,0,none⟩))∧ww.cell? ⟨w.heap.size,1,none⟩=some (.slice (some ⟨lb,off,none⟩) l.length lc)∧ww.cell? ⟨w.heap.size,2,none⟩=some (.int .i64 (n:Int)))∧ww.cell? ⟨lb,off+n * 2,none⟩=some (.slice ao x.1.length ac)∧ww.cell? ⟨lb,off+n * 2+1,none⟩=some (.slice bo x.2.length bc)) ∧
   Hid (∀ ww,Za (w.alloc (.cells #[.pointer (some ⟨b,0,none⟩),.slice (some ⟨lb,off,none⟩) l.length lc,.int .i64 (n:Int)] 211)) ww->Arg ww ao x.1 ac∧Arg ww bo x.2 bc∧StR ww b bs ro rc L R) ∧
   Hid (∀ ww,Za (w.alloc (.cells #[.pointer (some ⟨b,0,none⟩),.slice (some ⟨lb,off,none⟩) l.length lc,.int .i64 (n:Int)] 211)) ww->Calls Tryz.prog 166 #[.agg #[.pointer (some ⟨b,0,none⟩),.slice (some ⟨lb,off,none⟩) l.length lc,.int .i64 (n:Int)]] ww λ e w' => e=.returned (.agg #[.slice ao x.1.length ac,.slice bo x.2.length bc])∧Za (w.alloc (.cells #[.pointer (some ⟨b,0,none⟩),.slice (some ⟨lb,off,none⟩) l.length lc,.int .i64 (n:Int)] 211)) w') ∧
   Hid (∀ ww q c,Za (w.alloc (.cells #[.pointer (some ⟨b,0,none⟩),.slice (some ⟨lb,off,none⟩) l.length lc,.int .i64 (n:Int)] 211)) ww->Calls Tryz.prog 165 #[.agg #[.pointer (some ⟨b,0,none⟩),.slice (some ⟨lb,off,none⟩) l.length lc,.int .i64 (n:Int)],.bool q,.int .i64 c] ww λ e w' => ∃ v,e=.returned v∧Yg w' (if q=true then [(0, -1)] else [(c,(n:Int))]) v∧Za (w.alloc (.cells #[.pointer (some ⟨b,0,none⟩),.slice (some ⟨lb,off,none⟩) l.length lc,.int .i64 (n:Int)] 211)) w'):=by
 obtain ⟨lb,off,rfl,hlb,hr⟩:=h.ls.get h.hn;obtain ⟨x,hx⟩:∃ x,x=l[n]'h.hn:=⟨_,rfl⟩;rw [<- hx] at hr;obtain ⟨ao,ac,bo,bc,r0,r1,A1,A2⟩:=hr;have e:x=l.getD n ([],[]):=by rw [hx];simp [List.getD,h.hn]
 have hn:=h.hn;obtain ⟨wb,hwb⟩:∃ wb,wb=w.alloc (.cells #[.pointer (some ⟨b,0,none⟩),.slice (some ⟨lb,off,none⟩) l.length lc,.int .i64 (n:Int)] 211):=⟨_,rfl⟩;have W0:Za w wb:=hwb ▸ (Zc.refl _ w).alloc _;have B1:Zqv wb w.heap.size b (some ⟨lb,off,none⟩) l.length lc n:=hwb ▸ Zpp w b _ l.length lc n _;have hz:w.heap.size<wb.heap.size:=by rw [hwb];simp
 have HS:∀ ww,Za wb ww->(ww.cell? ⟨b,0,none⟩=some (.pointer (some ⟨bs,0,none⟩))∧ww.cell? ⟨b,1,none⟩=some (.slice ro R.length rc))∧(ww.cell? ⟨w.heap.size,0,none⟩=some (.pointer (some ⟨b,0,none⟩))∧ww.cell? ⟨w.heap.size,1,none⟩=some (.slice (some ⟨lb,off,none⟩) l.length lc)∧ww.cell? ⟨w.heap.size,2,none⟩=some (.int .i64 (n:Int)))∧ww.cell? ⟨lb,off+n * 2,none⟩=some (.slice ao x.1.length ac)∧ww.cell? ⟨lb,off+n * 2+1,none⟩=some (.slice bo x.2.length bc):=λ ww hk=>⟨((h.st.same W0).same hk).cells,B1.same hz hk,((W0.trans' hk).cell (p:=⟨lb,off+n * 2,none⟩) hlb (λ f=>f)).trans r0,((W0.trans' hk).cell (p:=⟨lb,off+n * 2+1,none⟩) hlb (λ f=>f)).trans r1⟩;refine ⟨lb,off,ao,ac,bo,bc,x,rfl,e,?_⟩;rw [<- hwb];refine ⟨W0,HS wb (Zc.refl _ _),HS,λ ww hk=>⟨(A1.same W0).same hk,(A2.same W0).same hk,(h.st.same W0).same hk⟩,λ ww hk=>?_,λ ww q c hk=>?_⟩
 ·obtain ⟨_,_,g0,g1⟩:=HS ww hk
  exact (Zl3 g0 g1 hn).mono (λ e w' ⟨q1,q2⟩=>⟨q1,hk.trans' q2⟩)
 ·exact (Zfm ww b _ _ _ n c q).mono (λ e w' ⟨v,q1,q2,q3⟩=>⟨v,q1,q2,hk.trans' q3⟩)
theorem Zr8 {w:World} {b bs:Nat} {ro:Option Addr} {rc:Nat} {L:List Sym} {R:List Ru} {lo:Option Addr} {l:List Ru} {n lc:Nat} (h:Cnd w b bs ro rc L R lo l n) (hu:Yv L R l 2 n) :
  Calls Tryz.prog 142 #[.agg #[.pointer (some ⟨b,0,none⟩),.slice lo l.length lc,.int .i64 (n:Int)]] w λ e w' => ∃ v,e=.returned v∧Yg w' (X9 L R l 2 n) v∧Za w w' := by
 obtain ⟨lb,off,ao,ac,bo,bc,x,rfl,hx,W0,CC0,HS,HA,CR,CU⟩:=h.opened lc;have W1:Za (w.alloc (.cells #[.pointer (some ⟨b,0,none⟩),.slice (some ⟨lb,off,none⟩) l.length lc,.int .i64 (n:Int)] 211)) (w.alloc (.cells #[.pointer (some ⟨b,0,none⟩),.slice (some ⟨lb,off,none⟩) l.length lc,.int .i64 (n:Int)] 211)).drew:=Zc.drew (Zc.refl _ _);have f0:=X8;have f1:=Xi
 have E:Hid (∀ q:Bool,(q=true ↔ x.1.length<=200∧x.2.length<=200)->(if q=true then [(0, -1)] else [(72,(n:Int))])=X9 L R l 2 n):=by
  intro q hq
  have e1:q=(decide (x.1.length<=200) && decide (x.2.length<=200)):=by
   rw [<- Bool.decide_and];cases q <;> simp_all
  subst e1;simp only [X9,ckB,Zbu,Xm,<- hx];rfl
 have s1:=((HA.out _ (Zc.refl _ _)).1).size;have s2:=((HA.out _ (Zc.refl _ _)).2.1).size;clear h hu hx
 go_enter Tryz.func142,Tryz.ntmps142
 go_wp2
 go_region_held3 (λ w' => (w'.cell? ⟨b,0,none⟩=some (.pointer (some ⟨bs,0,none⟩))∧w'.cell? ⟨b,1,none⟩=some (.slice ro R.length rc))∧(w'.cell? ⟨w.heap.size,0,none⟩=some (.pointer (some ⟨b,0,none⟩))∧w'.cell? ⟨w.heap.size,1,none⟩=some (.slice (some ⟨lb,off,none⟩) l.length lc)∧w'.cell? ⟨w.heap.size,2,none⟩=some (.int .i64 (n:Int)))∧w'.cell? ⟨lb,off+n * 2,none⟩=some (.slice ao x.1.length ac)∧w'.cell? ⟨lb,off+n * 2+1,none⟩=some (.slice bo x.2.length bc)) (first | exact cc1 | exact CC0) (first | (go_at_call 166;refine (CR.out _ (by first | exact hw1 | exact W1)).mono ?_;rintro e w1 ⟨rfl,hw1⟩;have cc1:=HS.out _ hw1))
 all_goals
  go_wp2_with (first | (go_at_call 165;refine (CU.out _ _ _ (by first | exact hw1 | exact W1)).mono ?_;rintro e w2 ⟨v,rfl,hv,hw2⟩;have cc1:=HS.out _ hw2))
 all_goals
  go_ret;exact ⟨_,rfl,by rw [<- E.out _ ?_];exact hv;simp;first | omega | (split <;> omega),W0.trans' hw2⟩
theorem Zsa {w:World} {b bs:Nat} {ro:Option Addr} {rc:Nat} {L:List Sym} {R:List Ru} {lo:Option Addr} {l:List Ru} {n lc:Nat} (h:Cnd w b bs ro rc L R lo l n) (hu:Yv L R l 3 n) :
  Calls Tryz.prog 143 #[.agg #[.pointer (some ⟨b,0,none⟩),.slice lo l.length lc,.int .i64 (n:Int)]] w λ e w' => ∃ v,e=.returned v∧Yg w' (X9 L R l 3 n) v∧Za w w' := by
 obtain ⟨lb,off,ao,ac,bo,bc,x,rfl,hx,W0,CC0,HS,HA,CR,CU⟩:=h.opened lc;have W1:Za (w.alloc (.cells #[.pointer (some ⟨b,0,none⟩),.slice (some ⟨lb,off,none⟩) l.length lc,.int .i64 (n:Int)] 211)) (w.alloc (.cells #[.pointer (some ⟨b,0,none⟩),.slice (some ⟨lb,off,none⟩) l.length lc,.int .i64 (n:Int)] 211)).drew:=Zc.drew (Zc.refl _ _);have f0:=X8;have f1:=Xi
 have hc:Ze L x.1=0:=by
  have:=hu.1 1 (by omega) n h.hn;simp only [ckB,Zbu,<- hx,Bool.and_eq_true,decide_eq_true_eq] at this;exact this.1
 have hp:0<x.1.length:=Z6 (Zg.1 hc).2.2
 have E:Hid (∀ q:Bool,q=Y7 L x.1[0]->(if q=true then [(0, -1)] else [(73,(n:Int))])=X9 L R l 3 n):=by
  intro q hq
  have e1:x.1.headD (-1)=x.1[0]:=by
   clear CC0 HS HA CR CU W0 W1 hc hx h hu;obtain ⟨x1,x2⟩:=x;cases x1 with
   | nil=>simp at hp
   | cons y r=>simp
  subst hq;simp only [X9,ckB,Zbu,Xm,<- hx,e1];rfl
 obtain ⟨ab,ao', rfl,hab⟩:∃ ab ao', ao=some ⟨ab,ao', none⟩∧Hid (∀ ww,Za (w.alloc (.cells #[.pointer (some ⟨b,0,none⟩),.slice (some ⟨lb,off,none⟩) l.length lc,.int .i64 (n:Int)] 211)) ww->ww.cell? ⟨ab,ao', none⟩=some (.int .i64 x.1[0])):=by
  obtain ⟨ab,ao', e,hlt,hc⟩:=((HA.out _ (Zc.refl _ _)).1).at'.get hp;exact ⟨ab,ao', e,λ ww hk=>(hk.cell (p:=⟨ab,ao', none⟩) hlt (λ f=>f)).trans hc⟩
 have CD:Hid (∀ ww z,Za (w.alloc (.cells #[.pointer (some ⟨b,0,none⟩),.slice (some ⟨lb,off,none⟩) l.length lc,.int .i64 (n:Int)] 211)) ww->Calls Tryz.prog 168 #[.agg #[.pointer (some ⟨b,0,none⟩),.slice (some ⟨lb,off,none⟩) l.length lc,.int .i64 (n:Int)],.int .i64 z] ww λ e w' => e=.returned (.bool (Y7 L z))∧Za (w.alloc (.cells #[.pointer (some ⟨b,0,none⟩),.slice (some ⟨lb,off,none⟩) l.length lc,.int .i64 (n:Int)] 211)) w'):=λ ww z hk=>(Zbf (HA.out ww hk).2.2 _ _ _ _ _).mono (λ e w' ⟨q1,q2⟩=>⟨q1,hk.trans' q2⟩);have i1:(0:Int)<(x.1.length:Int):=by omega
 have CC0:=And.intro (hab.out _ (Zc.refl _ _)) CC0;have HS' : Hid (∀ ww,Za (w.alloc (.cells #[.pointer (some ⟨b,0,none⟩),.slice (some ⟨lb,off,none⟩) l.length lc,.int .i64 (n:Int)] 211)) ww->ww.cell? ⟨ab,ao', none⟩=some (.int .i64 x.1[0])∧(ww.cell? ⟨b,0,none⟩=some (.pointer (some ⟨bs,0,none⟩))∧ww.cell? ⟨b,1,none⟩=some (.slice ro R.length rc))∧(ww.cell? ⟨w.heap.size,0,none⟩=some (.pointer (some ⟨b,0,none⟩))∧ww.cell? ⟨w.heap.size,1,none⟩=some (.slice (some ⟨lb,off,none⟩) l.length lc)∧ww.cell? ⟨w.heap.size,2,none⟩=some (.int .i64 (n:Int)))∧ww.cell? ⟨lb,off+n * 2,none⟩=some (.slice (some ⟨ab,ao', none⟩) x.1.length ac)∧ww.cell? ⟨lb,off+n * 2+1,none⟩=some (.slice bo x.2.length bc)):=λ ww hk=>⟨hab.out ww hk,HS.out ww hk⟩;clear h hu hx hab HS hc
 go_enter Tryz.func143,Tryz.ntmps143
 go_wp2
 go_region_held3 (λ w' => w'.cell? ⟨ab,ao', none⟩=some (.int .i64 x.1[0])∧(w'.cell? ⟨b,0,none⟩=some (.pointer (some ⟨bs,0,none⟩))∧w'.cell? ⟨b,1,none⟩=some (.slice ro R.length rc))∧(w'.cell? ⟨w.heap.size,0,none⟩=some (.pointer (some ⟨b,0,none⟩))∧w'.cell? ⟨w.heap.size,1,none⟩=some (.slice (some ⟨lb,off,none⟩) l.length lc)∧w'.cell? ⟨w.heap.size,2,none⟩=some (.int .i64 (n:Int)))∧w'.cell? ⟨lb,off+n * 2,none⟩=some (.slice (some ⟨ab,ao', none⟩) x.1.length ac)∧w'.cell? ⟨lb,off+n * 2+1,none⟩=some (.slice bo x.2.length bc)) (first | exact cc1 | exact CC0) (first | (go_at_call 166;refine (CR.out _ (by first | exact hw1 | exact W1)).mono ?_;rintro e w1 ⟨rfl,hw1⟩;have cc1:=HS'.out _ hw1) | (go_at_call 168;refine (CD.out _ _ (by first | exact hw1 | exact W1)).mono ?_;rintro e w1 ⟨rfl,hw1⟩;have cc1:=HS'.out _ hw1) | (go_at_call 165;refine (CU.out _ _ _ (by first | exact hw1 | exact W1)).mono ?_;rintro e w2 ⟨v,rfl,hv,hw2⟩;have cc1:=HS'.out _ hw2))
 all_goals
  go_wp2;go_ret;exact ⟨_,rfl,by rw [<- E.out _ rfl];exact hv,W0.trans' hw2⟩
theorem Zt0 {w:World} {b bs:Nat} {ro:Option Addr} {rc:Nat} {L:List Sym} {R:List Ru} {lo:Option Addr} {l:List Ru} {n lc:Nat} (h:Cnd w b bs ro rc L R lo l n) (hu:Yv L R l 1 n) :
  Calls Tryz.prog 141 #[.agg #[.pointer (some ⟨b,0,none⟩),.slice lo l.length lc,.int .i64 (n:Int)]] w λ e w' => ∃ v,e=.returned v∧Yg w' (X9 L R l 1 n) v∧Za w w' := by
 obtain ⟨lb,off,ao,ac,bo,bc,x,rfl,hx,W0,CC0,HS,HA,CR,CU⟩:=h.opened lc;have W1:Za (w.alloc (.cells #[.pointer (some ⟨b,0,none⟩),.slice (some ⟨lb,off,none⟩) l.length lc,.int .i64 (n:Int)] 211)) (w.alloc (.cells #[.pointer (some ⟨b,0,none⟩),.slice (some ⟨lb,off,none⟩) l.length lc,.int .i64 (n:Int)] 211)).drew:=Zc.drew (Zc.refl _ _);have f0:=X8;have f1:=Xi;have CF:Hid (∀ ww why c,(why=.nilIface∨∃ t v,why=.iface t v)->Za (w.alloc (.cells #[.pointer (some ⟨b,0,none⟩),.slice (some ⟨lb,off,none⟩) l.length lc,.int .i64 (n:Int)] 211)) ww->Calls Tryz.prog 167 #[.agg #[.pointer (some ⟨b,0,none⟩),.slice (some ⟨lb,off,none⟩) l.length lc,.int .i64 (n:Int)],.int .i64 c,why] ww λ e w' => ∃ k,e=.returned (.iface 98 (.pointer (some ⟨k,0,none⟩)))∧w'.heap[k]? = some (.cells #[.int .i64 c,.int .i64 (n:Int),why] 100 (0,0))∧Za (w.alloc (.cells #[.pointer (some ⟨b,0,none⟩),.slice (some ⟨lb,off,none⟩) l.length lc,.int .i64 (n:Int)] 211)) w'):=λ ww why c hw hk=>(Zd1 ww b _ _ _ why hw n c).mono (λ e w' ⟨k,q1,q2,q3⟩=>⟨k,q1,q2,hk.trans' q3⟩);have CK:Hid (∀ ww so sc (t:List Int),Za (w.alloc (.cells #[.pointer (some ⟨b,0,none⟩),.slice (some ⟨lb,off,none⟩) l.length lc,.int .i64 (n:Int)] 211)) ww->Arg ww so t sc->Calls Tryz.prog 59 #[.pointer (some ⟨bs,0,none⟩),.slice so t.length sc] ww λ e w' => e=.returned (.int .i64 (Ze L t))∧Za ww w' ∧ Za (w.alloc (.cells #[.pointer (some ⟨b,0,none⟩),.slice (some ⟨lb,off,none⟩) l.length lc,.int .i64 (n:Int)] 211)) w'):=λ ww so sc t hk ha=>(Jj (HA.out ww hk).2.2.sig ha.at' (by have:=ha.size;unfold maxLen;omega)).mono (λ e w' ⟨q1,q2⟩=>⟨q1,q2,hk.trans' q2⟩);have E0:Hid (Ze L x.1=0->Ze L x.2=0->X9 L R l 1 n=[(0, -1)]):=λ h1 h2=>by simp only [X9,ckB,Zbu,<- hx];simp [h1,h2]
 have E1:Hid (¬ Ze L x.1=0->X9 L R l 1 n=[(71,(n:Int)),(Ze L x.1, -1)]):=λ h1=>by simp only [X9,ckB,Zbu,Xm,<- hx];simp [h1]
 have E2:Hid (Ze L x.1=0->¬ Ze L x.2=0->X9 L R l 1 n=[(71,(n:Int)),(Ze L x.2, -1)]):=λ h1 h2=>by simp only [X9,ckB,Zbu,Xm,<- hx];simp [h1,h2]
 clear h hu hx
 go_enter Tryz.func141,Tryz.ntmps141
 go_wp2
 go_region_held3 (λ w' => (w'.cell? ⟨b,0,none⟩=some (.pointer (some ⟨bs,0,none⟩))∧w'.cell? ⟨b,1,none⟩=some (.slice ro R.length rc))∧(w'.cell? ⟨w.heap.size,0,none⟩=some (.pointer (some ⟨b,0,none⟩))∧w'.cell? ⟨w.heap.size,1,none⟩=some (.slice (some ⟨lb,off,none⟩) l.length lc)∧w'.cell? ⟨w.heap.size,2,none⟩=some (.int .i64 (n:Int)))∧w'.cell? ⟨lb,off+n * 2,none⟩=some (.slice ao x.1.length ac)∧w'.cell? ⟨lb,off+n * 2+1,none⟩=some (.slice bo x.2.length bc)) (first | exact cc1 | exact CC0 | exact HS.out _ (Zc.alloc hw1 _)) (first | (go_at_call 166;refine (CR.out _ (by first | exact hw1 | exact W1)).mono ?_;rintro e w1 ⟨rfl,hw1⟩;have cc1:=HS.out _ hw1))
 have wg:=heap_alloc_new w1 (.cells #[.slice ao x.1.length ac,.slice bo x.2.length bc] 64);have hg:Hid (∀ ww,Za (w1.alloc (.cells #[.slice ao x.1.length ac,.slice bo x.2.length bc] 64)) ww->(ww.cell? ⟨w1.heap.size,0,none⟩=some (.slice ao x.1.length ac)∧ww.cell? ⟨w1.heap.size,1,none⟩=some (.slice bo x.2.length bc))∧Za (w.alloc (.cells #[.pointer (some ⟨b,0,none⟩),.slice (some ⟨lb,off,none⟩) l.length lc,.int .i64 (n:Int)] 211)) ww):=λ ww hk=>⟨⟨Zb (hk.at0 wg) 0,Zb (hk.at0 wg) 1⟩,Za.trans' (Zc.alloc hw1 _) hk⟩;have K0:Za (w1.alloc (.cells #[.slice ao x.1.length ac,.slice bo x.2.length bc] 64)) (w1.alloc (.cells #[.slice ao x.1.length ac,.slice bo x.2.length bc] 64)):=Zc.refl _ _;go_wp2
 go_loopw [14] (λ i wr=>(i=.int .i64 0∨(i=.int .i64 1∧Hid (Ze L x.1=0))∨(i=.int .i64 2∧Hid (Ze L x.1=0)∧Hid (Ze L x.2=0)))∧Za (w1.alloc (.cells #[.slice ao x.1.length ac,.slice bo x.2.length bc] 64)) wr) (λ i _=>2-(intOf i).toNat)
 case atStart=>exact ⟨.inl rfl,K0⟩
 case round=>
  clear wg K0 CC0 W1;obtain ⟨hi,hk⟩:=hrel;obtain ⟨⟨g0,g1⟩,kw⟩:=hg.out _ hk;obtain ⟨c1,c2,c3⟩:=HS.out _ kw;obtain ⟨a1,a2,a3⟩:=HA.out _ kw
  rcases hi with rfl | ⟨rfl,z1⟩ | ⟨rfl,z1,z2⟩
  ·by_cases hz:Ze L x.1=0
   ·have Z:Hid (Ze L x.1=0):=hz
    have zz:(Ze L x.1 == 0)=true:=by simpa using hz
    go_wp2_with (first | (go_at_call 59;refine (CK.out _ _ _ _ kw a1).mono ?_;rintro e w2 ⟨rfl,ks2,kw2⟩;obtain ⟨d1,d2,d3⟩:=HS.out _ kw2) | (go_at_call 167;refine (CF.out _ _ _ (.inr ⟨_,_,rfl⟩) kw2).mono ?_;rintro e w3 ⟨k,rfl,hk3,kw3⟩))
    exact ⟨⟨.inr (.inl ⟨rfl,Z⟩),hk.trans' ks2⟩,by simp [intOf]⟩
   ·have zz:(Ze L x.1 == 0)=false:=by simpa using hz
    have Z:=E1.out hz;clear E0 E1 E2
    go_wp2_with (first | (go_at_call 59;refine (CK.out _ _ _ _ kw a1).mono ?_;rintro e w2 ⟨rfl,ks2,kw2⟩;obtain ⟨d1,d2,d3⟩:=HS.out _ kw2) | (go_at_call 167;refine (CF.out _ _ _ (.inr ⟨_,_,rfl⟩) kw2).mono ?_;rintro e w3 ⟨k,rfl,hk3,kw3⟩))
    go_ret;exact ⟨_,rfl,by rw [Z];exact .inr ⟨by omega,k,_,rfl,hk3,.inl ⟨rfl,rfl,rfl⟩⟩,W0.trans' kw3⟩
  ·by_cases hz:Ze L x.2=0
   ·have Z:Hid (Ze L x.2=0):=hz
    have zz:(Ze L x.2 == 0)=true:=by simpa using hz
    go_wp2_with (first | (go_at_call 59;refine (CK.out _ _ _ _ kw a2).mono ?_;rintro e w2 ⟨rfl,ks2,kw2⟩;obtain ⟨d1,d2,d3⟩:=HS.out _ kw2) | (go_at_call 167;refine (CF.out _ _ _ (.inr ⟨_,_,rfl⟩) kw2).mono ?_;rintro e w3 ⟨k,rfl,hk3,kw3⟩))
    exact ⟨⟨.inr (.inr ⟨rfl,z1,Z⟩),hk.trans' ks2⟩,by simp [intOf]⟩
   ·have zz:(Ze L x.2 == 0)=false:=by simpa using hz
    have Z:=E2.out z1.out hz;clear E0 E1 E2
    go_wp2_with (first | (go_at_call 59;refine (CK.out _ _ _ _ kw a2).mono ?_;rintro e w2 ⟨rfl,ks2,kw2⟩;obtain ⟨d1,d2,d3⟩:=HS.out _ kw2) | (go_at_call 167;refine (CF.out _ _ _ (.inr ⟨_,_,rfl⟩) kw2).mono ?_;rintro e w3 ⟨k,rfl,hk3,kw3⟩))
    go_ret;exact ⟨_,rfl,by rw [Z];exact .inr ⟨by omega,k,_,rfl,hk3,.inl ⟨rfl,rfl,rfl⟩⟩,W0.trans' kw3⟩
  ·go_wp2
   go_ret;exact ⟨_,rfl,by rw [E0.out z1.out z2.out];exact .inl ⟨rfl,rfl,rfl⟩,W0.trans' kw⟩
theorem Zni {w:World} {b bs:Nat} {ro:Option Addr} {rc:Nat} {L:List Sym} {R:List Ru} {lo:Option Addr} {l:List Ru} {n lc:Nat} (h:Cnd w b bs ro rc L R lo l n) (hu:Yv L R l 4 n) :
  Calls Tryz.prog 144 #[.agg #[.pointer (some ⟨b,0,none⟩),.slice lo l.length lc,.int .i64 (n:Int)]] w λ e w' => ∃ v,e=.returned v∧Yg w' (X9 L R l 4 n) v∧Za w w' := by
 obtain ⟨lb,off,ao,ac,bo,bc,x,rfl,hx,W0,CC0,HS,HA,CR,CU⟩:=h.opened lc;have W1:Za (w.alloc (.cells #[.pointer (some ⟨b,0,none⟩),.slice (some ⟨lb,off,none⟩) l.length lc,.int .i64 (n:Int)] 211)) (w.alloc (.cells #[.pointer (some ⟨b,0,none⟩),.slice (some ⟨lb,off,none⟩) l.length lc,.int .i64 (n:Int)] 211)).drew:=Zc.drew (Zc.refl _ _);have f0:=X8;have f1:=Xi
 have hc:Ze L x.1=0:=by
  have:=hu.1 1 (by omega) n h.hn;simp only [ckB,Zbu,<- hx,Bool.and_eq_true,decide_eq_true_eq] at this;exact this.1
 have hm:x.1.length<=2000:=(Zg.1 hc).1
 have E:Hid (∀ q:Bool,(q=true ↔ Zer x.1=(Z3 x.1).length)->(if q=true then [(0, -1)] else [(74,(n:Int))])=X9 L R l 4 n):=by
  intro q hq;have e1:q=decide (Zer x.1=(Z3 x.1).length):=by cases q <;> simp_all
  subst e1;simp only [X9,ckB,Zbu,Xm,<- hx];rfl
 have hvl:(Z3 x.1).length<=x.1.length:=by have:=Ze9 [] x.1;simpa [Z3] using this
 have hnl:=Zkm x.1
 have CV:Hid (∀ ww,Za (w.alloc (.cells #[.pointer (some ⟨b,0,none⟩),.slice (some ⟨lb,off,none⟩) l.length lc,.int .i64 (n:Int)] 211)) ww->Calls Tryz.prog 169 #[.slice ao x.1.length ac] ww λ e w' => ∃ vo vc,e=.returned (.slice vo (Z3 x.1).length vc)∧Za (w.alloc (.cells #[.pointer (some ⟨b,0,none⟩),.slice (some ⟨lb,off,none⟩) l.length lc,.int .i64 (n:Int)] 211)) w'):=λ ww hk=>(Zrf (HA.out ww hk).1.at' (by omega)).mono (λ e w' ⟨v,q1,q2,q3⟩=>by
  obtain ⟨vo,vc,rfl⟩:=Zf q2
  exact ⟨vo,vc,q1,hk.trans' q3⟩)
 clear h hu hx hc W1;have W1:Za (w.alloc (.cells #[.pointer (some ⟨b,0,none⟩),.slice (some ⟨lb,off,none⟩) l.length lc,.int .i64 (n:Int)] 211)) (w.alloc (.cells #[.pointer (some ⟨b,0,none⟩),.slice (some ⟨lb,off,none⟩) l.length lc,.int .i64 (n:Int)] 211)):=Zc.refl _ _
 go_enter Tryz.func144,Tryz.ntmps144
 go_wp2_with (first | (go_at_call 166;refine (CR.out _ (by first | exact hw1 | exact W1)).mono ?_;rintro e w1 ⟨rfl,hw1⟩;have cc1:=HS.out _ hw1))
 obtain ⟨a1,a2,a3⟩:=HA.out _ hw1
 have HI:Hid (∀ k (hk:k<x.1.length),∃ tb off', ao=some ⟨tb,off', none⟩∧w1.cell? ⟨tb,off' + k,none⟩=some (.int .i64 x.1[k])):=λ k hk=>by
  obtain ⟨tb,off', e,_,hc⟩:=a1.at'.get hk;exact ⟨tb,off', e,hc⟩
 go_loop [3,11] (λ s i=>∃ k:Nat,k<=x.1.length∧i=.int .i64 (k:Int)∧s=.int .i64 ((Zer (x.1.take k):Nat):Int)) (λ _ i=>x.1.length-(intOf i).toNat)
 case atStart=>exact ⟨0,Nat.zero_le _,rfl,rfl⟩
 case round=>
  obtain ⟨k,hk,rfl,rfl⟩:=hrel;have b0:=Zkm (x.1.take k);have b1:Zer (x.1.take k)<=2000:=by rw [List.length_take] at b0;omega
  clear b0
  by_cases hlt:k<x.1.length
  ·obtain ⟨tb,off', rfl,hcell⟩:=HI.out k hlt
   have i1:(0:Int)<=(k:Int):=by omega
   have i2:(k:Int)<(x.1.length:Int):=by omega
   have N:Hid (Zer (x.1.take (k+1))=Zer (x.1.take k)+if x.1[k]<0 then 1 else 0):=Zhk hlt;generalize Zer (x.1.take k)=m at *
   by_cases hneg:x.1[k]<0
   ·go_wp2
    exact ⟨⟨k+1,by omega,by go_num,by rw [N.out,if_pos hneg];go_num⟩,by simp [intOf];omega⟩
   ·go_wp2
    exact ⟨⟨k+1,by omega,by go_num,by rw [N.out,if_neg hneg];rfl⟩,by simp [intOf];omega⟩
  ·obtain rfl:k=x.1.length:=by omega
   rw [List.take_length];clear b1;have cc1:=HS.out _ hw1
   go_wp2_with (first | (go_at_call 166;refine (CR.out _ (by first | exact hw1 | exact W1)).mono ?_;rintro e w1 ⟨rfl,hw1⟩;have cc1:=HS.out _ hw1) | (go_at_call 169;refine (CV.out _ hw1).mono ?_;rintro e w1 ⟨vo,vc,rfl,hw1⟩;have cc1:=HS.out _ hw1) | (go_at_call 165;refine (CU.out _ _ _ (by first | exact hw1 | exact W1)).mono ?_;rintro e w2 ⟨v,rfl,hv,hw2⟩;have cc1:=HS.out _ hw2))
   go_ret;exact ⟨_,rfl,by rw [<- E.out _ ?_];exact hv;simp;try omega,W0.trans' hw2⟩
end
end Go.Proofs.YtjahpnbijefncaaGreat
