import Derived.WalkSpells
import Derived.Deep.AppendLies
import Derived.BigQuiet
import Derived.Test.YtjahpnbijefncaaGreatProg
namespace Go.Proofs.YtjahpnbijefncaaGreat
set_option maxRecDepth 100000
set_option linter.unusedVariables false
section
open Go.RowKit
structure Zc (S:Nat->Prop) (w w' : World):Prop where
 os:w'.os=w.os
 tape:w'.tape=w.tape
 output:w'.output=w.output
 size:w.heap.size<=w'.heap.size
 block:∀ k,k<w.heap.size->¬ S k->w'.heap[k]? = w.heap[k]?
theorem Zc.refl (S:Nat->Prop) (w:World):Zc S w w:=⟨rfl,rfl,rfl,Nat.le_refl _,λ _ _ _=>rfl⟩
theorem Zc.trans {S S' : Nat->Prop} {a b c:World} (h:Zc S a b) (k:Zc S' b c) (hs:∀ i,i<a.heap.size->S' i->S i):Zc S a c:=
 ⟨k.os.trans h.os,k.tape.trans h.tape,k.output.trans h.output,Nat.le_trans h.size k.size,λ i hi hn=>(k.block i (Nat.lt_of_lt_of_le hi h.size) (λ x=>hn (hs i hi x))).trans (h.block i hi hn)⟩
theorem Zc.mono {S S' : Nat->Prop} {w w' : World} (h:Zc S w w') (hs:∀ i,i<w.heap.size->S i->S' i):Zc S' w w' :=
 ⟨h.os,h.tape,h.output,h.size,λ k hk hn=>h.block k hk (λ x=>hn (hs k hk x))⟩
theorem Zc.drew {S:Nat->Prop} {a w:World} (h:Zc S a w):Zc S a w.drew:=⟨h.os,h.tape,h.output,h.size,h.block⟩
theorem Zc.drewN {S:Nat->Prop} {a w:World} (h:Zc S a w) (n:Nat):Zc S a (w.drewN n):=⟨h.os,h.tape,h.output,h.size,h.block⟩
theorem Zc.alloc {S:Nat->Prop} {a w:World} (h:Zc S a w) (o:Obj):Zc S a (w.alloc o):=
 h.trans (S' := λ _=>False) ⟨rfl,rfl,rfl,by simp,λ k hk _=>Below.heap_alloc _ _ _ hk⟩ (λ _ _ x=>x.elim)
theorem Zc.setCell {S:Nat->Prop} {a w:World} (h:Zc S a w) {p:Addr} (hp:p.block<a.heap.size->S p.block) (u:Value):Zc S a (w.setCell p u):=
 h.trans (S' := λ k=>k=p.block) ⟨rfl,rfl,rfl,by simp [World.setCell],λ k _ hn=>Below.heap_setCell _ _ _ _ hn⟩ (λ i hi e=>by subst e;exact hp hi)
theorem Zc.grown {S:Nat->Prop} {a w w' : World} {row:Option Nat} (h:Zc S a w) (hg:w.grownBy w' row) (hr:∀ k,row=some k->k<a.heap.size->S k):Zc S a w' :=
 h.trans (S' := λ k=>row=some k) ⟨hg.os,hg.tape,hg.output,hg.size,λ k hk hn=>hg.block k hk (λ e=>hn e.symm)⟩ (λ i hi e=>hr i e hi)
theorem Zc.below {S:Nat->Prop} {w w' : World} {B:Nat} (h:Zc S w w') (hB:B<=w.heap.size) (hs:∀ k,k<B->¬ S k):Below B w w' :=
 ⟨h.os,h.tape,h.output,h.size,λ k hk=>h.block k (by omega) (hs k hk)⟩
theorem Zc.cell {S:Nat->Prop} {w w' : World} (h:Zc S w w') {p:Addr} (hp:p.block<w.heap.size) (hn:¬ S p.block):w'.cell? p=w.cell? p:=World.cell?_of_block (h.block p.block hp hn)
theorem Zc.at {S:Nat->Prop} {w w' : World} (h:Zc S w w') {b:Nat} {o:Obj} (hb:w.heap[b]? = some o) (hn:¬ S b):w'.heap[b]? = some o:=
 (h.block b (Array.getElem?_eq_some_iff.1 hb).1 hn).trans hb
theorem Zi {w:World} {b:Nat} {o:Obj} (hb:w.heap[b]? = some o):b<w.heap.size:=(Array.getElem?_eq_some_iff.1 hb).1
theorem Zc.row {S:Nat->Prop} {w w' : World} (h:Zc S w w') {base:Nat} {e:TypeId} {size:Nat} {v:Value} {n:Nat} {xs:List Value} (hr:w.ownsRow base e size v n xs) (hn:∀ k,v.ownBlock=some k->¬ S k):w'.ownsRow base e size v n xs:=by
 refine ⟨hr.1,?_⟩
 rcases hr.2 with h0 | ⟨g,cap,cur,rfl,hb,hg,r⟩
 ·exact .inl h0
 ·exact .inr ⟨g,cap,cur,rfl,hb,h.at hg (hn g rfl),r⟩
theorem Zc.map {S:Nat->Prop} {w w' : World} (h:Zc S w w') {H:Type} {P:Program} {k:TypeId} {R:Value->Option (DataW H × List MemPlace)} {b n:Nat} {D:DataW H} (hm:w.ownsMap P k R b n D) (hn:¬ S b):w'.ownsMap P k R b n D:=by
 obtain ⟨es,clock,hb,r⟩:=hm;exact ⟨es,clock,h.at hb hn,r⟩
theorem Zb {w:World} {b:Nat} {cs:Array Value} {t:TypeId} {fr:Nat × Nat} (h:w.heap[b]? = some (.cells cs t fr)) (o:Nat):w.cell? ⟨b,o,none⟩=cs[o]? := by
 simp [World.cell?,h]
theorem Zd {w:World} {b:Nat} {cs:Array Value} {t:TypeId} (h:w.heap[b]? = some (.cells cs t (0,0))) (o:Nat):w.frozen? ⟨b,o,none⟩=false:=by
 simp [World.frozen?,h]
theorem Zs {w:World} {b:Nat} {cs:Array Value} {t:TypeId} {fr:Nat × Nat} (h:w.heap[b]? = some (.cells cs t fr)) (o:Nat) (v:Value):(w.setCell ⟨b,o,none⟩ v).heap[b]? = some (.cells (cs.setIfInBounds o v) t fr):=by
 simp [World.setCell,Array.getElem?_modify,h]
theorem Zf {w:World} {base:Nat} {e:TypeId} {size:Nat} {v:Value} {n:Nat} {xs:List Value} (h:w.ownsRow base e size v n xs):∃ ao cap,v=.slice ao n cap:=by
 rcases h.2 with ⟨rfl,h0⟩ | ⟨g,cap,cur,rfl,_⟩
 ·exact ⟨none,0,by rw [h0]⟩
 ·exact ⟨_,cap,rfl⟩
theorem Yi {w:World} {base base' : Nat} {e:TypeId} {size:Nat} {v:Value} {n:Nat} {xs:List Value} (h:w.ownsRow base e size v n xs) (hb:base' <= base):w.ownsRow base' e size v n xs:=by
 refine ⟨h.1,h.2.imp id ?_⟩;rintro ⟨g,cap,cur,hv,hg,r⟩;exact ⟨g,cap,cur,hv,by omega,r⟩
end
def smB (c:Int):Bool:=decide (97<=c) && decide (c<=122)
def dgB (c:Int):Bool:=decide (48<=c) && decide (c<=57)
def Zcj (i:Nat) (c:Int):Bool:=smB c || (decide (0<i) && dgB c)
def Zwa (s:ByteArray):Prop:=1<=s.size∧s.size<=12∧∀ i (h:i<s.size),Zcj i (s[i].toNat:Int)=true
def X6 (s:ByteArray):Bool:=decide (1<=s.size∧s.size<=12∧∀ i (h:i<s.size),Zcj i (s[i].toNat:Int)=true)
theorem V8 {s:ByteArray} (h:¬ Zwa s):X6 s=false:=decide_eq_false h
theorem Zig {s:ByteArray} (h:Zwa s):X6 s=true:=decide_eq_true h
section
open Go.RowKit
structure Sym where
 name:ByteArray
 ar:Int
 df:Bool
def Yz:List Sym->ByteArray->Option Nat
 | [],_=>none
 | x :: r,s=>if x.name=s then some 0 else (Yz r s).map (· + 1)
theorem Zmj (L:List Sym) (x:Sym) (s:ByteArray):Yz (L ++ [x]) s=match Yz L s with | some i=>some i | none=>if x.name=s then some L.length else none:=by
 induction L with
 | nil=>simp [Yz]
 | cons y r ih=>
  simp only [List.cons_append,Yz]
  by_cases h:y.name=s
  ·simp [h]
  ·simp only [h,if_false,ih]
   cases hf:Yz r s with
   | some i=>simp
   | none=>by_cases hx:x.name=s <;> simp [hx]
def Z0 (L:List Sym):List Value:=L.flatMap λ x=>[.string x.name,.int .i64 x.ar,.bool x.df]
theorem Zen (L:List Sym):(Z0 L).length=L.length * 3:=by
 induction L with
 | nil=>rfl
 | cons x r ih=>simp [Z0] at ih ⊢;omega
theorem Zbl (L:List Sym) (x:Sym):Z0 (L ++ [x])=Z0 L ++ [.string x.name,.int .i64 x.ar,.bool x.df]:=by simp [Z0]
theorem Kc {L:List Sym} {i:Nat} (h:i<L.length):(Z0 L)[i * 3]? = some (.string L[i].name)∧(Z0 L)[i * 3+1]? = some (.int .i64 L[i].ar)∧(Z0 L)[i * 3+2]? = some (.bool L[i].df):=by
 induction L generalizing i with
 | nil=>simp at h
 | cons x r ih=>
  have e:Z0 (x :: r)=.string x.name :: .int .i64 x.ar :: .bool x.df :: Z0 r:=by simp [Z0]
  rw [e];cases i with
  | zero=>simp
  | succ j=>
   have:=ih (i:=j) (by simpa using h);rw [show (j+1) * 3=j * 3+1+1+1 by omega]
   simpa using this
def Zy (L:List Sym) (x:Sym):Int:=
 if X6 x.name=false then 10 else if x.ar<0∨6<x.ar then 11 else if (Yz L x.name).isSome then 12 else if 64<=L.length then 13 else 0
theorem Zar:(Tryz.prog.info? 129).map (λ i=>(i.zero,i.size,i.bytes))=some (some (.agg #[.string ByteArray.empty,.int .i64 0,.bool false]),3,32):=by kernel_rfl
theorem Zca:Maps.Keyed Tryz.prog 9:=Maps.string_keyed Tryz.underlying9
theorem Zk1 (w:World):(zeroValue 3).run Tryz.prog w=.ok (.int .i64 0) w:=by kernel_rfl
def Zcv (w:World) (mr:Option Nat) (L:List Sym):Prop:=
 match mr with
 | none=>L=[]
 | some bm=>∃ n D,w.ownsMap (H:=Unit) Tryz.prog 9 (plainElem Tryz.prog 3) bm n D∧n<=L.length ∧
   ∀ s:ByteArray,Maps.has D (.string s.data.toList)=(Yz L s).isSome∧∀ i,Yz L s=some i->D.atKey (.string s.data.toList) (.lit (.int .i64 0))=.lit (.int .i64 (i:Int))
structure Yd (w:World) (b:Nat) (L:List Sym) (sv:Value) (mr:Option Nat):Prop where
 blk:w.heap[b]? = some (.cells #[sv,.map mr] 187 (0,0))
 row:w.ownsRow 0 129 3 sv L.length (Z0 L)
 map:Zcv w mr L
 apart:sv.ownBlock≠some b
 len:L.length<=64
 names:∀ x∈L,X6 x.name=true
def Foot (b:Nat) (sv:Value) (mr:Option Nat) (k:Nat):Prop:=k=b∨sv.ownBlock=some k∨mr=some k
theorem Zcv.kept {S:Nat->Prop} {w w' : World} {mr:Option Nat} {L:List Sym} (h:Zcv w mr L) (hk:Zc S w w') (hn:∀ k,mr=some k->¬ S k):Zcv w' mr L:=by
 cases mr with
 | none=>exact h
 | some bm=>
  obtain ⟨n,D,hm,r⟩:=h;exact ⟨n,D,hk.map hm (hn bm rfl),r⟩
theorem Yd.kept {S:Nat->Prop} {w w' : World} {b:Nat} {L:List Sym} {sv:Value} {mr:Option Nat} (h:Yd w b L sv mr) (hk:Zc S w w') (hn:∀ k,Foot b sv mr k->¬ S k):Yd w' b L sv mr:=
 ⟨hk.at h.blk (hn b (.inl rfl)),hk.row h.row (λ k e=>hn k (.inr (.inl e))),h.map.kept hk (λ k e=>hn k (.inr (.inr e))),h.apart,h.len,h.names⟩
theorem Yd.sv {w:World} {b:Nat} {L:List Sym} {sv:Value} {mr:Option Nat} (h:Yd w b L sv mr):∃ ao cap,sv=.slice ao L.length cap:=by
 rcases h.row.2 with ⟨rfl,h0⟩ | ⟨g,cap,cur,rfl,_⟩
 ·exact ⟨none,0,by rw [h0]⟩
 ·exact ⟨_,cap,rfl⟩
theorem J7 {w:World} {b:Nat} {L:List Sym} {sv:Value} {mr:Option Nat} (h:Yd w b L sv mr):∀ k,Foot b sv mr k->k<w.heap.size:=by
 intro k hk
 rcases hk with e | e | e
 ·subst e;exact Zi h.blk
 ·exact (h.row.lt k e).2
 ·subst e
  obtain ⟨n,D,hm,_⟩:=h.map;exact hm.lt
theorem Zjj {s:ByteArray} (hs:s.size<=maxLen):keyOf Tryz.prog 9 (.string s)=some (.string s.data.toList):=Go.WideMaps.keyOf_string_mk Tryz.underlying9 hs
theorem Zcv.look {w:World} {mr:Option Nat} {L:List Sym} (h:Zcv w mr L) {s:ByteArray} (hs:s.size<=maxLen) :
  (Instr.lookup 185 (.map mr) (.string s) true).run Tryz.prog w=.ok (.tuple #[.int .i64 (((Yz L s).getD 0:Nat):Int),.bool (Yz L s).isSome]) w:=by
 cases mr with
 | none=>
  obtain rfl:L=[]:=h;rw [Maps.look_nil true Zca Tryz.underlying185 (Zk1 w) (Zjj hs)];simp [Yz]
 | some bm=>
  obtain ⟨n,D,hm,hn,hall⟩:=h;obtain ⟨v,ps,hrun,hv⟩:=hm.look_ok Zca Tryz.underlying185 (Zk1 w) (plainElem_int Tryz.underlying3 (by decide)) (Zjj hs);obtain ⟨a,rfl,hz,_⟩:=plainElem_int_inv Tryz.underlying3 hv;rw [hrun,(hall s).1];simp only [Prod.mk.injEq] at hz;cases hf:Yz L s with
  | none=>
   have hno:Maps.has D (.string s.data.toList)=false:=by rw [(hall s).1,hf];rfl
   rw [Maps.atKey_of_not_has hno] at hz;have:=hz.1;simp at this;simp [<- this]
  | some i=>
   rw [(hall s).2 i hf] at hz;have:=hz.1;simp at this;simp [<- this]
abbrev symV (x:Sym):Value:=.agg #[.string x.name,.int .i64 x.ar,.bool x.df]
end
def arN (L:List Sym) (n:Int):Nat:=if n<0 then 0 else match L[n.toNat]? with | some x=>x.ar.toNat | none=>0
def V0 (L:List Sym):Nat->List Int->Option Nat
 | 0,_=>some 0
 | _+1,[]=>none
 | k+1,x :: r=>(V0 L (k+arN L x) r).map (· + 1)
def Xb (L:List Sym):Nat->List Int->Option Nat
 | k,[]=>some k
 | 0,_ :: _=>none
 | k+1,x :: r=>Xb L (k+arN L x) r
theorem Ve (L:List Sym) (ts:List Int):V0 L 0 ts=some 0:=by cases ts <;> rfl
theorem Xe (L:List Sym) (k:Nat) (a b:List Int):Xb L k (a++b)=(Xb L k a).bind (λ m=>Xb L m b):=by
 induction a generalizing k with
 | nil=>simp [Xb]
 | cons x r ih=>
  cases k with
  | zero=>simp [Xb]
  | succ k=>simp [Xb,ih]
theorem Zc2 {L:List Sym} {k m:Nat} {a:List Int} (h:Xb L k a=some m) (j:Nat):Xb L (k+j) a=some (m+j):=by
 induction a generalizing k with
 | nil=>simp [Xb] at h ⊢;omega
 | cons x r ih=>
  cases k with
  | zero=>simp [Xb] at h
  | succ k=>
   rw [show k+1+j=(k+j)+1 by omega];simp only [Xb] at h ⊢;have:=ih h;rw [show k+arN L x+j=k+j+arN L x by omega] at this;exact this
theorem Zfv {L:List Sym} {a b:Nat} {ts:List Int} (h:Xb L (a+b) ts=some 0):∃ n,V0 L a ts=some n∧n<=ts.length∧Xb L b (ts.drop n)=some 0:=by
 induction ts generalizing a with
 | nil=>
  simp [Xb] at h;obtain ⟨rfl,rfl⟩:=h;exact ⟨0,rfl,by simp,by simp [Xb]⟩
 | cons x r ih=>
  cases a with
  | zero=>exact ⟨0,by simp [Ve],by simp,by simpa using h⟩
  | succ a=>
   rw [show a+1+b=(a+b)+1 by omega] at h;simp only [Xb] at h;rw [show a+b+arN L x=(a+arN L x)+b by omega] at h;obtain ⟨n,h1,h2,h3⟩:=ih h;exact ⟨n+1,by simp [V0,h1],by simpa using h2,by simpa using h3⟩
theorem Js {L:List Sym} {k n:Nat} {ts:List Int} (h:V0 L k ts=some n):n<=ts.length∧Xb L k (ts.take n)=some 0:=by
 induction ts generalizing k n with
 | nil=>cases k <;> simp [V0] at h;subst h;simp [Xb]
 | cons x r ih=>
  cases k with
  | zero=>simp [V0] at h;subst h;simp [Xb]
  | succ k=>
   simp only [V0,Option.map_eq_some_iff] at h;obtain ⟨m,hm,rfl⟩:=h;obtain ⟨h1,h2⟩:=ih hm;exact ⟨by simpa using h1,by simpa [Xb] using h2⟩
theorem Xw {L:List Sym} {k:Nat} {a b:List Int} (h:Xb L k a=some 0):V0 L k (a++b)=some a.length:=by
 induction a generalizing k with
 | nil=>simp [Xb] at h;subst h;simp [Ve]
 | cons x r ih=>
  cases k with
  | zero=>simp [Xb] at h
  | succ k=>
   simp only [Xb] at h;simp [V0,ih h]
theorem Zgq {L:List Sym} {k n:Nat} {ts:List Int} (h:V0 L (k+1) ts=some n):0<n:=by
 cases ts with
 | nil=>simp [V0] at h
 | cons x r=>simp only [V0,Option.map_eq_some_iff] at h;obtain ⟨m,_,rfl⟩:=h;omega
theorem Zs3 {L:List Sym} {a b m:Nat} {ts:List Int} (h:V0 L (a+b) ts=some m):∃ n n', V0 L a ts=some n∧V0 L b (ts.drop n)=some n' ∧ m=n+n' := by
 obtain ⟨h1,h2⟩:=Js h;obtain ⟨n,h3,h4,h5⟩:=Zfv h2;obtain ⟨h6,h7⟩:=Js h3;have h4:n<=m:=by simp at h4;omega
 have e1:ts.take m=ts.take n++(ts.drop n).take (m-n):=by
  rw [List.take_drop,show n+(m-n)=m by omega];have:=(List.take_append_drop n (ts.take m)).symm
  rwa [List.take_take,Nat.min_eq_left h4] at this
 have h8:Xb L a (ts.take n)=some 0:=by rwa [List.take_take,Nat.min_eq_left h4] at h7
 refine ⟨n,m-n,?_,?_,by omega⟩
 ·have:=Xw (b:=ts.drop n) h8
  rw [List.take_append_drop] at this;rw [this];simp;omega
 ·have h9:Xb L b ((ts.drop n).take (m-n))=some 0:=by
   have:(ts.take m).drop n=(ts.drop n).take (m-n):=by rw [List.drop_take]
   rwa [this] at h5
  have:=Xw (b:=(ts.drop n).drop (m-n)) h9;rw [List.take_append_drop] at this;rw [this];simp;omega
def Zjc (L:List Sym) (t:List Int) (p:Nat):Option Nat:=(V0 L 1 (t.drop p)).map (p + ·)
def Zq (L:List Sym) (t:List Int) (p:Nat):Nat:=(Zjc L t p).getD t.length
def IsT (L:List Sym) (t:List Int):Prop:=Xb L 1 t=some 0
theorem Ztn {L:List Sym} {t:List Int} (h:IsT L t) {p:Nat} (hp:p<t.length):∃ k,Xb L (k+1) (t.drop p)=some 0:=by
 have h' : Xb L 1 (t.take p++t.drop p)=some 0:=by rw [List.take_append_drop];exact h
 rw [Xe] at h';cases hn:Xb L 1 (t.take p) with
 | none=>simp [hn] at h'
 | some k=>
  simp only [hn,Option.bind_some] at h';cases k with
  | zero=>
   have:t.drop p≠[]:=by intro e;have:=congrArg List.length e;simp at this;omega
   cases hd:t.drop p with
   | nil=>exact absurd hd this
   | cons x r=>rw [hd] at h'; simp [Xb] at h'
  | succ k=>exact ⟨k,h'⟩
theorem Zae {L:List Sym} {t:List Int} (h:IsT L t) {p:Nat} (hp:p<t.length):∃ n,V0 L 1 (t.drop p)=some n∧0<n∧p+n<=t.length:=by
 obtain ⟨k,hk⟩:=Ztn h hp;rw [Nat.add_comm] at hk;obtain ⟨n,h1,h2,_⟩:=Zfv hk;exact ⟨n,h1,Zgq (k:=0) h1,by simp at h2;omega⟩
theorem Y9 {L:List Sym} {t:List Int} {p n:Nat} (h:V0 L 1 (t.drop p)=some n):Zq L t p=p+n:=by simp [Zq,Zjc,h]
theorem Zq9 {L:List Sym} {t:List Int} (h:IsT L t) {p:Nat} (hp:p<t.length):Zjc L t p=some (Zq L t p):=by
 obtain ⟨n,h1,_,_⟩:=Zae h hp;rw [Y9 h1,Zjc,h1];rfl
theorem Zax {L:List Sym} {t:List Int} (h:IsT L t) {p:Nat} (hp:p<t.length):p<Zq L t p∧Zq L t p<=t.length:=by
 obtain ⟨n,h1,h2,h3⟩:=Zae h hp;rw [Y9 h1];omega
theorem Z6 {L:List Sym} {t:List Int} (h:IsT L t):0<t.length:=by
 cases t with
 | nil=>simp [IsT,Xb] at h
 | cons=>simp
theorem Zdo {L:List Sym} {t:List Int} (h:IsT L t):Zq L t 0=t.length:=by
 have:=Xw (b:=[]) h;rw [List.append_nil] at this;rw [Y9 (n:=t.length) (by simpa using this)];omega
def Zr (L:List Sym) (t:List Int):Nat->Nat->List Nat
 | 0,_=>[]
 | k+1,p=>p :: Zr L t k (Zq L t p)
theorem Zl (L:List Sym) (t:List Int) (k p:Nat):(Zr L t k p).length=k:=by
 induction k generalizing p with
 | zero=>rfl
 | succ k ih=>simp [Zr,ih]
def past (L:List Sym) (t:List Int):Nat->Nat->Nat
 | 0,p=>p
 | k+1,p=>past L t k (Zq L t p)
theorem Jw (L:List Sym) (t:List Int) (k p:Nat):past L t (k+1) p=Zq L t (past L t k p):=by
 induction k generalizing p with
 | zero=>rfl
 | succ k ih=>rw [past,ih,past]
theorem Za9 {L:List Sym} {t:List Int} {k p i:Nat} (h:i<k):(Zr L t k p)[i]? = some (past L t i p):=by
 induction k generalizing p i with
 | zero=>omega
 | succ k ih=>
  cases i with
  | zero=>simp [Zr,past]
  | succ i=>simpa [Zr,past] using ih (p:=Zq L t p) (by omega)
theorem Za4 (L:List Sym) (t:List Int) (k p:Nat):Zr L t (k+1) p=Zr L t k p ++ [past L t k p]:=by
 induction k generalizing p with
 | zero=>simp [Zr,past]
 | succ k ih=>
  have:=ih (Zq L t p)
  conv=>lhs;rw [Zr]
  rw [this];simp [Zr,past]
def Zu (L:List Sym) (t:List Int) (k p q:Nat):Prop:=∃ n,V0 L k (t.drop p)=some n∧q=p+n∧q<=t.length
theorem Zu.zero {L:List Sym} {t:List Int} {p q:Nat} (h:Zu L t 0 p q):q=p:=by
 obtain ⟨n,h1,h2,_⟩:=h;simp [Ve] at h1;omega
theorem Zu.le {L:List Sym} {t:List Int} {k p q:Nat} (h:Zu L t k p q):p<=q∧q<=t.length:=by
 obtain ⟨n,_,h2,h3⟩:=h;omega
theorem Zu.succ {L:List Sym} {t:List Int} {k p q:Nat} (h:Zu L t (k+1) p q):Zu L t 1 p (Zq L t p)∧p<Zq L t p∧Zu L t k (Zq L t p) q:=by
 obtain ⟨n,h1,h2,h3⟩:=h;rw [Nat.add_comm] at h1;obtain ⟨a,b,h4,h5,h6⟩:=Zs3 h1;have e:=Y9 h4;have ha:=Zgq (k:=0) h4;refine ⟨⟨a,h4,e,by omega⟩,by omega,b,?_,by omega,h3⟩;rw [e,<- List.drop_drop];exact h5
theorem Zu.pos {L:List Sym} {t:List Int} {k p q:Nat} (h:Zu L t (k+1) p q):p<q:=by
 have:=h.succ.2.1;have:=h.succ.2.2.le;omega
theorem Zu.one {L:List Sym} {t:List Int} (h:IsT L t) {p:Nat} (hp:p<t.length):Zu L t 1 p (Zq L t p):=by
 obtain ⟨n,h1,h2,h3⟩:=Zae h hp;exact ⟨n,h1,Y9 h1,by rw [Y9 h1];exact h3⟩
theorem Zu.kids {L:List Sym} {t:List Int} {p q:Nat} (h:Zu L t 1 p q):∃ hp:p<t.length,Zu L t (arN L t[p]) (p+1) q:=by
 obtain ⟨n,h1,h2,h3⟩:=h;have hn:=Zgq (k:=0) h1;have hp:p<t.length:=by omega
 refine ⟨hp,?_⟩;rw [List.drop_eq_getElem_cons hp] at h1;simp only [V0,Nat.zero_add,Option.map_eq_some_iff] at h1;obtain ⟨m,hm,rfl⟩:=h1;exact ⟨m,hm,by omega,h3⟩
theorem Zu.past {L:List Sym} {t:List Int} {k p q:Nat} (h:Zu L t k p q):past L t k p=q:=by
 induction k generalizing p with
 | zero=>exact h.zero.symm
 | succ k ih=>rw [Proofs.YtjahpnbijefncaaGreat.past];exact ih h.succ.2.2
theorem Zu.drop {L:List Sym} {t:List Int} {k i p q:Nat} (h:Zu L t k p q) (hi:i<=k):Zu L t (k-i) (Proofs.YtjahpnbijefncaaGreat.past L t i p) q:=by
 induction i generalizing k p with
 | zero=>exact h
 | succ i ih=>
  cases k with
  | zero=>omega
  | succ k=>
   have:=ih h.succ.2.2 (by omega)
   simpa [Proofs.YtjahpnbijefncaaGreat.past] using this
theorem Kq {L:List Sym} {t:List Int} {k p q:Nat} (h:Zu L t k p q) {i j:Nat} (hij:i<j) (hj:j<=k):Zq L t (past L t i p)<=past L t j p:=by
 induction j with
 | zero=>omega
 | succ j ih=>
  rw [Jw]
  by_cases e:i=j
  ·subst e;exact Nat.le_refl _
  ·have h1:=ih (by omega) (by omega)
   have h2:=h.drop (i:=j) (by omega);obtain ⟨m,hm⟩:∃ m,k-j=m+1:=⟨k-j-1,by omega⟩;rw [hm] at h2;have:=h2.succ.2.1;omega
def Zz (L:List Sym) (t:List Int) (p:Nat):List Nat:=Zr L t (arN L (t.getD p 0)) (p+1)
theorem Ya {L:List Sym} {t:List Int} {p:Nat} (hp:p<t.length):Zz L t p=Zr L t (arN L t[p]) (p+1):=by
 simp [Zz,hp]
def Zah:List (Nat × Nat)->List (Nat × Nat)
 | []=>[]
 | (j,a) :: st=>if j+1<a then (j+1,a) :: st else Zah st
def pass (st:List (Nat × Nat)) (a:Nat):List (Nat × Nat):=if 0<a then (0,a) :: st else Zah st
def run (L:List Sym) (st:List (Nat × Nat)) (ts:List Int):List (Nat × Nat):=ts.foldl (λ s x=>pass s (arN L x)) st
theorem Zfw (L:List Sym) (st:List (Nat × Nat)) (a b:List Int):run L st (a++b)=run L (run L st a) b:=by simp [run]
def way (L:List Sym) (t:List Int) (p:Nat):List (Nat × Nat):=run L [] (t.take p)
theorem Zc1 {L:List Sym} {t:List Int} {p:Nat} (hp:p<t.length):way L t (p+1)=pass (way L t p) (arN L t[p]):=by
 unfold way;rw [List.take_add_one,Zfw,List.getElem?_eq_getElem hp];rfl
theorem Zn5 {L:List Sym} {t:List Int} (n:Nat):∀ (p q:Nat),q-p<=n ->
  (Zu L t 1 p q->way L t q=Zah (way L t p)) ∧
  (∀ (k j a:Nat) (st:List (Nat × Nat)),Zu L t (k+1) p q->way L t p=(j,a) :: st->j+(k+1)=a->way L t q=Zah st):=by
 induction n with
 | zero=>
  intro p q h;refine ⟨λ hf=>?_,λ k j a st hf _ _=>?_⟩
  ·have:=hf.pos;omega
  ·have:=hf.pos;omega
 | succ n ih=>
  intro p q h
  have one:Zu L t 1 p q->way L t q=Zah (way L t p):=by
   intro hf;obtain ⟨hp,hk⟩:=hf.kids;have hw:=Zc1 (L:=L) hp;cases ha:arN L t[p] with
   | zero=>
    rw [ha] at hk hw;rw [hk.zero,hw];rfl
   | succ a=>
    rw [ha] at hk hw;exact (ih (p+1) q (by omega)).2 a 0 (a+1) (way L t p) hk (by rw [hw];rfl) (by omega)
  refine ⟨one,?_⟩;intro k j a st hf hw hj;cases k with
  | zero=>
   rw [one hf,hw,Zah,if_neg (by omega)]
  | succ k=>
   obtain ⟨h1,h2,h3⟩:=hf.succ;have h4:=h3.pos;have e1:=(ih p (Zq L t p) (by omega)).1 h1;rw [hw,Zah,if_pos (by omega)] at e1;exact (ih (Zq L t p) q (by omega)).2 k (j+1) a st h3 e1 (by omega)
theorem Zvr {L:List Sym} {t:List Int} {p q:Nat} (h:Zu L t 1 p q):way L t q=Zah (way L t p):=(Zn5 (q-p) p q (Nat.le_refl _)).1 h
theorem Zrz {L:List Sym} {t:List Int} {k p q:Nat} (h:Zu L t k p q) {j a:Nat} {st:List (Nat × Nat)} (hw:way L t p=(j,a) :: st) {i:Nat} (hi:i<k) (ha:j+k<=a) :
  way L t (past L t i p)=(j+i,a) :: st:=by
 induction i generalizing k j p with
 | zero=>exact hw
 | succ i ih=>
  cases k with
  | zero=>omega
  | succ k=>
   obtain ⟨h1,h2,h3⟩:=h.succ;have e1:=Zvr h1;rw [hw,Zah,if_pos (by omega)] at e1;have:=ih h3 e1 (by omega) (by omega);rw [show j+1+i=j+(i+1) by omega] at this;exact this
theorem Zqw {L:List Sym} {t:List Int} {k p q at' : Nat} (h:Zu L t k p q) (h1:p<=at') (h2:at' < q):∃ i,i<k∧past L t i p<=at' ∧ at' < Zq L t (past L t i p):=by
 induction k generalizing p with
 | zero=>have:=h.zero;omega
 | succ k ih=>
  obtain ⟨f1,f2,f3⟩:=h.succ
  by_cases e:at' < Zq L t p
  ·exact ⟨0,by omega,h1,e⟩
  ·obtain ⟨i,hi,g1,g2⟩:=ih f3 (by omega)
   exact ⟨i+1,by omega,g1,g2⟩
theorem kid_in {L:List Sym} {t:List Int} (h:IsT L t) {p a:Nat} (hp:p<t.length) (h1:p<a) (h2:a<Zq L t p) :
  ∃ i,i<arN L t[p]∧past L t i (p+1)<=a∧a<Zq L t (past L t i (p+1))∧past L t i (p+1)<t.length∧p<past L t i (p+1)∧way L t (past L t i (p+1))=(i,arN L t[p]) :: way L t p ∧
   ∀ j,j<arN L t[p]->(past L t j (p+1)<=a∧a<Zq L t (past L t j (p+1)) ↔ j=i):=by
 obtain ⟨hp', hk⟩:=(Zu.one h hp).kids;obtain ⟨i,hi,g1,g2⟩:=Zqw hk (by omega) h2;have hle:=(Zax h hp).2;have hw:way L t (p+1)=(0,arN L t[p]) :: way L t p:=by rw [Zc1 hp,pass,if_pos (by omega)]
 have hwi:=Zrz hk hw hi (by omega);rw [Nat.zero_add] at hwi
 have hpp:p<past L t i (p+1):=by
  cases i with
  | zero=>simp [past]
  | succ i=>
   have:=Kq hk (i:=0) (j:=i+1) (by omega) (by omega);have h5:=hk.drop (i:=0) (by omega);have:=(Zu.one h (p:=p+1) (by omega)).pos;simp [past] at *;omega
 refine ⟨i,hi,g1,g2,by omega,hpp,hwi,λ j hj=>⟨λ ⟨x1,x2⟩=>?_,λ e=>by subst e;exact ⟨g1,g2⟩⟩⟩
 rcases Nat.lt_trichotomy j i with hji | hji | hji
 ·have:=Kq hk hji (by omega);omega
 ·exact hji
 ·have:=Kq hk hji (by omega);omega
def leads (L:List Sym) (t:List Int):Nat->List Int->Option Nat
 | p,[]=>some p
 | p,n :: r=>if n<0 then none else match (Zz L t p)[n.toNat]? with | some q=>leads L t q r | none=>none
theorem Zix {L:List Sym} {t:List Int} {p q:Nat} {a b:List Int} (h:leads L t p a=some q):leads L t p (a++b)=leads L t q b:=by
 induction a generalizing p with
 | nil=>simp [leads] at h;subst h;rfl
 | cons n r ih=>
  simp only [leads,List.cons_append] at h ⊢
  by_cases hn:n<0
  ·simp [hn] at h
  ·simp only [hn,if_false] at h ⊢
   cases ha:(Zz L t p)[n.toNat]? with
   | none=>simp [ha] at h
   | some q' => simp only [ha] at h ⊢;exact ih h
def Zco (L:List Sym) (t:List Int) (p:Nat) (u:List Int):List Int:=t.take p++u++t.drop (Zq L t p)
def Zw2 (L:List Sym) (t:List Int) (p:Nat):List Int:=(t.take (Zq L t p)).drop p
theorem Zli {L:List Sym} {t:List Int} (h:IsT L t) {p:Nat} (hp:p<t.length):IsT L (Zw2 L t p):=by
 obtain ⟨n,h1,h2,h3⟩:=Zae h hp;have:=(Js h1).2;unfold IsT Zw2;rw [Y9 h1,List.drop_take]
 simpa using this
theorem Zwl {L:List Sym} {t:List Int} (h:IsT L t) {p:Nat} (hp:p<t.length):Zco L t p (Zw2 L t p)=t:=by
 have he:=Zax h hp;unfold Zco Zw2;have e1:t.take p=(t.take (Zq L t p)).take p:=by rw [List.take_take,Nat.min_eq_left (by omega)]
 rw [e1,List.take_append_drop,List.take_append_drop]
theorem Ztw {L:List Sym} {t:List Int} (h:IsT L t) {p:Nat} (hp:p<t.length) {u:List Int} (hu:IsT L u):IsT L (Zco L t p u):=by
 have h0:Xb L 1 (Zco L t p (Zw2 L t p))=some 0:=by rw [Zwl h hp];exact h
 unfold Zco at h0 ⊢;unfold IsT;rw [List.append_assoc,Xe] at h0 ⊢;cases hk:Xb L 1 (t.take p) with
 | none=>simp [hk] at h0
 | some k=>
  simp only [hk,Option.bind_some] at h0 ⊢;rw [Xe] at h0 ⊢;cases k with
  | zero=>
   have hs:=Zli h hp;have:=Z6 hs;cases hd:Zw2 L t p with
   | nil=>simp [hd] at this
   | cons x r=>rw [hd] at h0;simp [Xb] at h0
  | succ k=>
   have e1:=Zc2 (Zli h hp) k;have e2:=Zc2 hu k;rw [Nat.add_comm 1 k] at e1 e2;rw [e1] at h0;rw [e2];exact h0
def Za3 (L:List Sym):List Int->Int
 | []=>0
 | x :: r=>if (L.length:Int)<=x then 21 else if x < -99 then 22 else Za3 L r
def Ze (L:List Sym) (t:List Int):Int:=if 2000<t.length then 20 else if Za3 L t≠0 then Za3 L t else if Xb L 1 t=some 0 then 0 else 23
def Yt (L:List Sym) (t:List Int) (at' : Int):Int:=if Ze L t≠0 then Ze L t else if at' < 0∨(t.length:Int)<=at' then 24 else 0
theorem Z4 {L:List Sym} {t:List Int}:Za3 L t=0 ↔ ∀ x∈t,x<(L.length:Int) ∧ -99<=x:=by
 induction t with
 | nil=>simp [Za3]
 | cons x r ih=>
  simp only [Za3,List.mem_cons,forall_eq_or_imp]
  by_cases h1:(L.length:Int)<=x
  ·simp only [h1,if_true];constructor
   ·intro h;omega
   ·intro h;omega
  ·by_cases h2:x < -99
   ·simp only [h1,h2,if_true,if_false];constructor
    ·intro h;omega
    ·intro h;omega
   ·simp only [h1,h2,if_false,ih];constructor
    ·intro h;exact ⟨by omega,h⟩
    ·intro h;exact h.2
theorem Zdr (L:List Sym) (a b:List Int) (h:Za3 L a=0):Za3 L (a++b)=Za3 L b:=by
 induction a with
 | nil=>rfl
 | cons x r ih=>
  simp only [Za3] at h
  by_cases h1:(L.length:Int)<=x
  ·simp [h1] at h
  ·by_cases h2:x < -99
   ·simp [h1,h2] at h
   ·simp only [h1,h2,if_false] at h
    simp only [List.cons_append,Za3,h1,h2,if_false];exact ih h
theorem Zg {L:List Sym} {t:List Int}:Ze L t=0 ↔ t.length<=2000∧Za3 L t=0∧IsT L t:=by
 unfold Ze IsT
 by_cases h1:2000<t.length
 ·simp [h1];intro;omega
 ·by_cases h2:Za3 L t=0
  ·by_cases h3:Xb L 1 t=some 0
   ·simp [h1,h2,h3];omega
   ·simp [h1,h2,h3]
  ·simp [h1,h2]
def isV (x:Int):Bool:=decide (-99<=x∧x <= -1)
def Trs (L:List Sym) (J:List Int):Prop:=∀ p,p<J.length->Zu L J 1 p (Zq L J p)
def shF (apart x:Int):Int:=if x<0 then x-apart else x
def jl (a b:List Int) (apart:Int):List Int:=a++b.map (shF apart)
theorem Zok (L:List Sym) {apart:Int} (h:0<=apart) (x:Int):arN L (shF apart x)=arN L x:=by
 unfold shF;split
 ·unfold arN;rw [if_pos (by omega),if_pos (by omega)]
 ·rfl
theorem Zwb (L:List Sym) {apart:Int} (h:0<=apart) (k:Nat) (b:List Int):Xb L k (b.map (shF apart))=Xb L k b:=by
 induction b generalizing k with
 | nil=>rfl
 | cons x r ih=>
  cases k with
  | zero=>rfl
  | succ k=>simp only [List.map_cons,Xb,Zok L h,ih]
theorem Zl9 {L:List Sym} {apart:Int} (h:0<=apart) {b:List Int} (hb:IsT L b):IsT L (b.map (shF apart)):=by
 unfold IsT;rw [Zwb L h];exact hb
theorem Zd9 {L:List Sym} {k n:Nat} {ts:List Int} (h:V0 L k ts=some n) (r:List Int):V0 L k (ts++r)=some n:=by
 obtain ⟨h1,h2⟩:=Js h;have:=Xw (b:=ts.drop n++r) h2;rw [<- List.append_assoc,List.take_append_drop] at this;rw [this];simp;omega
theorem Zmw {L:List Sym} {a b:List Int} (ha:IsT L a) (hb:IsT L b):Trs L (a++b):=by
 intro p hp
 have key:∃ n,V0 L 1 ((a++b).drop p)=some n∧p+n<=(a++b).length:=by
  by_cases h:p<a.length
  ·obtain ⟨n,h1,h2,h3⟩:=Zae ha h
   refine ⟨n,?_,by simp;omega⟩;rw [List.drop_append_of_le_length (by omega)];exact Zd9 h1 b
  ·obtain ⟨n,h1,h2,h3⟩:=Zae hb (p:=p-a.length) (by simp at hp;omega)
   refine ⟨n,?_,by simp;omega⟩;rw [List.drop_append,List.drop_eq_nil_of_le (by omega),List.nil_append];exact h1
 obtain ⟨n,h1,h2⟩:=key;exact ⟨n,h1,Y9 h1,by rw [Y9 h1];exact h2⟩
theorem Zcn {L:List Sym} {a b:List Int} {apart:Int} (h:0<=apart) (ha:IsT L a) (hb:IsT L b):Trs L (jl a b apart):=Zmw ha (Zl9 h hb)
theorem Trs.lt {L:List Sym} {J:List Int} (h:Trs L J) {p:Nat} (hp:p<J.length):p<Zq L J p∧Zq L J p<=J.length:=⟨(h p hp).pos,(h p hp).le.2⟩
theorem Trs.kids {L:List Sym} {J:List Int} (h:Trs L J) {p:Nat} (hp:p<J.length):Zu L J (arN L J[p]) (p+1) (Zq L J p):=by
 obtain ⟨_,h2⟩:=(h p hp).kids;exact h2
def Z2 (J:List Int) (x:Int):Prop:=-198<=x∧x<(J.length:Int)
def at' (J:List Int) (x:Int):Int:=J.getD x.toNat 0
def un (p q:Int) (ld:Int->Int):Int->Int:=λ x=>if ld x=p then q else ld x
def ld0 (J:List Int):Int->Int:=λ x=>if 0<=x∧at' J x<0 then at' J x else x
structure Zcq (J:List Int) (ld:Int->Int):Prop where
 part:∀ x,Z2 J x->Z2 J (ld x)
 idem:∀ x,Z2 J x->ld (ld x)=ld x
 sym:∀ x,Z2 J x->0<=ld x->0<=at' J (ld x)
 like:∀ x,Z2 J x->0<=x->0<=at' J x->0<=ld x∧at' J (ld x)=at' J x
theorem Yl (J:List Int) (p:Nat) (h:p<J.length):at' J (p:Int)=J[p]:=by
 unfold at';rw [Int.toNat_natCast,List.getD_eq_getElem?_getD,List.getElem?_eq_getElem h];rfl
theorem Zpw {J:List Int} (hv:∀ x∈J, -198<=x):Zcq J (ld0 J):=by
 have hm:∀ x,Z2 J x->0<=x -> -198<=at' J x:=by
  intro x hx h0;obtain ⟨k,rfl⟩:=Int.eq_ofNat_of_zero_le h0;rw [Yl J k (by have:=hx.2;omega)];exact hv _ (List.getElem_mem _)
 refine ⟨?_,?_,?_,?_⟩
 ·intro x hx
  unfold ld0;split
  ·rename_i h;exact ⟨hm x hx h.1,by have:=h.2;unfold Z2 at hx;omega⟩
  ·exact hx
 ·intro x hx
  by_cases h:0<=x∧at' J x<0
  ·have e:ld0 J x=at' J x:=by unfold ld0;rw [if_pos h]
   rw [e];unfold ld0;rw [if_neg (by omega)]
  ·have e:ld0 J x=x:=by unfold ld0;rw [if_neg h]
   rw [e,e]
 ·intro x hx h0
  by_cases h:0<=x∧at' J x<0
  ·have e:ld0 J x=at' J x:=by unfold ld0;rw [if_pos h]
   omega
  ·have e:ld0 J x=x:=by unfold ld0;rw [if_neg h]
   rw [e] at h0 ⊢;omega
 ·intro x hx h0 h1
  have e:ld0 J x=x:=by unfold ld0;rw [if_neg (by omega)]
  rw [e];exact ⟨h0,rfl⟩
theorem Zcq.un {J:List Int} {ld:Int->Int} (h:Zcq J ld) {p q:Int} (hp:ld p=p) (hq:ld q=q) (hq2:Z2 J q) (hpq:p≠q) (hs:0<=q->0<=at' J q) (hl:0<=p->0<=q∧at' J q=at' J p):Zcq J (un p q ld):=by
 have u1:∀ x,ld x=p->Proofs.YtjahpnbijefncaaGreat.un p q ld x=q:=λ x e=>by unfold Proofs.YtjahpnbijefncaaGreat.un;rw [if_pos e]
 have u2:∀ x,ld x≠p->Proofs.YtjahpnbijefncaaGreat.un p q ld x=ld x:=λ x e=>by unfold Proofs.YtjahpnbijefncaaGreat.un;rw [if_neg e]
 refine ⟨?_,?_,?_,?_⟩ <;> intro x hx <;> by_cases e:ld x=p
 ·rw [u1 x e];exact hq2
 ·rw [u2 x e];exact h.part x hx
 ·rw [u1 x e,u2 q (by rw [hq];exact λ f=>hpq f.symm),hq]
 ·rw [u2 x e,u2 (ld x) (by rw [h.idem x hx];exact e),h.idem x hx]
 ·rw [u1 x e];exact hs
 ·rw [u2 x e];exact h.sym x hx
 ·intro h0 h1
  obtain ⟨g1,g2⟩:=h.like x hx h0 h1;rw [e] at g1 g2;obtain ⟨g3,g4⟩:=hl g1;rw [u1 x e];exact ⟨g3,g4.trans g2⟩
 ·rw [u2 x e];exact h.like x hx
def Zgu (L:List Sym) (J:List Int):Nat->(Int->Int)->List (Nat × Nat × Nat)->Option (Option (Int->Int))
 | 0,_,_=>none
 | _+1,ld,[]=>some (some ld)
 | n+1,ld,(x,y,o) :: r=>
  if x<y then
   if ld x=ld o then Zgu L J n ld ((Zq L J x,y,Zq L J o) :: r)
   else if ld x<0 then Zgu L J n (un (ld x) (ld o) ld) ((Zq L J x,y,Zq L J o) :: r)
   else if ld o<0 then Zgu L J n (un (ld o) (ld x) ld) ((Zq L J x,y,Zq L J o) :: r)
   else if at' J (ld x)≠at' J (ld o) then some none
   else Zgu L J n (un (ld x) (ld o) ld) (((ld x).toNat+1,Zq L J (ld x).toNat,(ld o).toNat+1) :: (Zq L J x,y,Zq L J o) :: r)
  else Zgu L J n ld r
def Zb6 (L:List Sym) (J:List Int) (r:Nat × Nat × Nat):Prop:=∃ k z,Zu L J k r.1 r.2.1∧Zu L J k r.2.2 z
theorem Zb6.step {L:List Sym} {J:List Int} {x y o:Nat} (h:Zb6 L J (x,y,o)) (hxy:x<y):x<Zq L J x∧Zq L J x<=y∧y<=J.length∧o<J.length∧o<Zq L J o∧Zb6 L J (Zq L J x,y,Zq L J o):=by
 obtain ⟨k,z,h1,h2⟩:=h;cases k with
 | zero=>have:=h1.zero;simp only at this;omega
 | succ k=>
  obtain ⟨g1,g2,g3⟩:=h1.succ;obtain ⟨f1,f2,f3⟩:=h2.succ;simp only at g1 g2 g3 f1 f2 f3;have:=g3.le;have:=f1.le;exact ⟨g2,by omega,by omega,by omega,f2,k,z,g3,f3⟩
theorem Zb6.kids {L:List Sym} {J:List Int} (hT:Trs L J) {p q:Nat} (hp:p<J.length) (hq:q<J.length) (h:J[p]=J[q]):Zb6 L J (p+1,Zq L J p,q+1):=
 ⟨_,_,hT.kids hp,by rw [h];exact hT.kids hq⟩
def Zeq (J:List Int) (ld:Int->Int):Nat:=(List.range J.length).countP (λ p:Nat=>decide (ld (p:Int)=(p:Int)))
theorem Zel {P Q:Nat->Bool} {l:List Nat} (h:∀ x∈l,P x=true->Q x=true):l.countP P<=l.countP Q:=List.countP_mono_left h
theorem Zhn {P Q:Nat->Bool} {l:List Nat} (h:∀ x∈l,P x=true->Q x=true) {y:Nat} (hy:y∈l) (h1:Q y=true) (h2:P y=false):l.countP P<l.countP Q:=by
 induction l with
 | nil=>simp at hy
 | cons a r ih=>
  have ha:=h a (by simp);have hr:=Zel (l:=r) (λ x hx=>h x (by simp [hx]));rw [List.countP_cons,List.countP_cons]
  rcases List.mem_cons.1 hy with e | e
  ·subst e;simp [h1,h2];omega
  ·have:=ih (λ x hx=>h x (by simp [hx])) e
   by_cases hP:P a=true
   ·simp [hP,ha hP];exact this
   ·simp [hP];split <;> omega
theorem Zoq {J:List Int} {ld:Int->Int} {p q:Int} (hq:ld q=q) (hpq:p≠q) {x:Int} (h:un p q ld x=x):ld x=x:=by
 unfold un at h;split at h
 ·rename_i e;subst h;exact absurd (hq.symm.trans e).symm hpq
 ·exact h
theorem V4 {J:List Int} {ld:Int->Int} {p q:Int} (hq:ld q=q) (hpq:p≠q):Zeq J (un p q ld)<=Zeq J ld:=
 Zel (λ x _ h=>by simp only [decide_eq_true_eq] at h ⊢;exact Zoq (J:=J) hq hpq h)
theorem Zc6 {J:List Int} {ld:Int->Int} {p:Nat} {q:Int} (hq:ld q=q) (hpq:(p:Int)≠q) (hp:ld p=p) (hl:p<J.length):Zeq J (un p q ld)<Zeq J ld:=
 Zhn (y:=p) (λ x _ h=>by simp only [decide_eq_true_eq] at h ⊢;exact Zoq (J:=J) hq hpq h) (by simpa using hl) (by simpa using hp) (by unfold un;simp [hp];exact λ e=>hpq e.symm)
def Zga:List (Nat × Nat × Nat)->Nat
 | []=>0
 | r :: t=>r.2.1-r.1+1+Zga t
theorem Zn {J:List Int} {p:Nat} (h:p<J.length):Z2 J p:=by unfold Z2;omega
theorem Ztl {L:List Sym} {J:List Int} (hT:Trs L J):∀ (n:Nat) (ld:Int->Int) (rs:List (Nat × Nat × Nat)),Zcq J ld->(∀ r∈rs,Zb6 L J r)->(J.length+1) * Zeq J ld+Zga rs<n->∃ r,Zgu L J n ld rs=some r∧∀ ld', r=some ld' -> Zcq J ld' := by
 intro n
 induction n with
 | zero=>intro ld rs _ _ h;omega
 | succ n ih=>
  intro ld rs hl hr hn;cases rs with
  | nil=>exact ⟨_,rfl,λ ld' e=>by cases e;exact hl⟩
  | cons r rs=>
   obtain ⟨x,y,o⟩:=r;have hr2:∀ r∈rs,Zb6 L J r:=λ r h=>hr r (by simp [h]);rw [Zgu];simp only [Zga] at hn
   by_cases hxy:x<y
   ·rw [if_pos hxy]
    obtain ⟨s1,s2,s3,s4,s5,s6⟩:=(hr (x,y,o) (by simp)).step hxy
    have hr3:∀ r∈(Zq L J x,y,Zq L J o) :: rs,Zb6 L J r:=λ r h=>by
     rcases List.mem_cons.1 h with e | e
     ·rw [e];exact s6
     ·exact hr2 r e
    have px:=Zn (J:=J) (p:=x) (by omega);have po:=Zn (J:=J) (p:=o) s4;have hlx:=hl.idem _ px;have hlo:=hl.idem _ po;have hpx:=hl.part _ px;have hpo:=hl.part _ po
    by_cases h1:ld x=ld o
    ·rw [if_pos h1];exact ih ld _ hl hr3 (by simp only [Zga];omega)
    ·rw [if_neg h1]
     have h1' : ld o≠ld x:=λ e=>h1 e.symm
     by_cases h2:ld x<0
     ·rw [if_pos h2]
      have:=Nat.mul_le_mul_left (J.length+1) (V4 (J:=J) (p:=ld x) hlo h1);exact ih _ _ (hl.un hlx hlo hpo h1 (hl.sym _ po) (λ f=>by omega)) hr3 (by simp only [Zga];omega)
     ·rw [if_neg h2]
      by_cases h3:ld o<0
      ·rw [if_pos h3]
       have:=Nat.mul_le_mul_left (J.length+1) (V4 (J:=J) (p:=ld o) hlx h1');exact ih _ _ (hl.un hlo hlx hpx h1' (hl.sym _ px) (λ f=>by omega)) hr3 (by simp only [Zga];omega)
      ·rw [if_neg h3]
       by_cases h4:at' J (ld x)≠at' J (ld o)
       ·rw [if_pos h4];exact ⟨_,rfl,λ ld' e=>by cases e⟩
       ·rw [if_neg h4]
        have h4:at' J (ld x)=at' J (ld o):=by simpa using h4
        obtain ⟨p,hp⟩:=Int.eq_ofNat_of_zero_le (Int.not_lt.1 h2);obtain ⟨q,hq⟩:=Int.eq_ofNat_of_zero_le (Int.not_lt.1 h3);have hpl:p<J.length:=by have:=hpx.2;omega
        have hql:q<J.length:=by have:=hpo.2;omega
        have hlt:=Zc6 (J:=J) (ld:=ld) (p:=p) (q:=ld o) hlo (by rw [<- hp];exact h1) (by rw [<- hp];exact hlx) hpl;rw [<- hp] at hlt;have:=Nat.mul_le_mul_left (J.length+1) (Nat.succ_le_of_lt hlt);rw [Nat.succ_eq_add_one,Nat.mul_add,Nat.mul_one] at this;have hpe:=hT.lt hpl;have e1:(ld x).toNat=p:=by omega
        have e2:(ld o).toNat=q:=by omega
        refine ih _ _ (hl.un hlx hlo hpo h1 (hl.sym _ po) (λ _=>⟨by omega,h4.symm⟩)) ?_ ?_
        ·intro r h
         rcases List.mem_cons.1 h with e | e
         ·rw [e,e1,e2]
          rw [hp,hq,Yl J p hpl,Yl J q hql] at h4;exact Zb6.kids hT hpl hql h4
         ·exact hr3 r e
        ·simp only [Zga,e1];omega
   ·rw [if_neg hxy]
    exact ih ld rs hl hr2 (by omega)
structure UOk (L:List Sym) (J:List Int) (res:Option (Int->Int)) (k:Nat) (ld:Int->Int) (rs:List (Nat × Nat × Nat)):Prop where
 trs:Trs L J
 ok:Zcq J ld
 runs:∀ r∈rs,Zb6 L J r
 eq:Zgu L J k ld rs=some res
 len:rs.length+Zeq J ld<=J.length+1
theorem UOk.nil {L:List Sym} {J:List Int} {res:Option (Int->Int)} {k:Nat} {ld:Int->Int} (h:UOk L J res k ld []):res=some ld:=by
 have:=h.eq;cases k with
 | zero=>simp [Zgu] at this
 | succ k=>simp [Zgu] at this;exact this.symm
theorem UOk.pop {L:List Sym} {J:List Int} {res:Option (Int->Int)} {k:Nat} {ld:Int->Int} {x y o:Nat} {rs:List (Nat × Nat × Nat)} (h:UOk L J res k ld ((x,y,o) :: rs)) (hxy:¬ x<y):∃ k', k=k' + 1∧UOk L J res k' ld rs:=by
 have:=h.eq;cases k with
 | zero=>simp [Zgu] at this
 | succ k=>
  rw [Zgu,if_neg hxy] at this;exact ⟨k,rfl,h.trs,h.ok,λ r hr=>h.runs r (by simp [hr]),this,by have:=h.len;simp at this;omega⟩
theorem UOk.top {L:List Sym} {J:List Int} {res:Option (Int->Int)} {k:Nat} {ld:Int->Int} {x y o:Nat} {rs:List (Nat × Nat × Nat)} (h:UOk L J res k ld ((x,y,o) :: rs)) (hxy:x<y):x<J.length∧o<J.length∧Zq L J x<=J.length∧Zq L J o<=J.length∧Z2 J (ld x)∧Z2 J (ld o)∧ld (ld x)=ld x∧ld (ld o)=ld o∧(∀ r∈(Zq L J x,y,Zq L J o) :: rs,Zb6 L J r):=by
 obtain ⟨s1,s2,s3,s4,s5,s6⟩:=(h.runs (x,y,o) (by simp)).step hxy;have px:=Zn (J:=J) (p:=x) (by omega);have po:=Zn (J:=J) (p:=o) s4;refine ⟨by omega,s4,by omega,(h.trs.lt s4).2,h.ok.part _ px,h.ok.part _ po,h.ok.idem _ px,h.ok.idem _ po,λ r hr=>?_⟩
 rcases List.mem_cons.1 hr with e | e
 ·rw [e];exact s6
 ·exact h.runs r (by simp [e])
theorem UOk.step {L:List Sym} {J:List Int} {res:Option (Int->Int)} {k:Nat} {ld:Int->Int} {x y o:Nat} {rs:List (Nat × Nat × Nat)} (h:UOk L J res k ld ((x,y,o) :: rs)) (hxy:x<y):∃ k', k=k' + 1 ∧
  (ld x=ld o->UOk L J res k' ld ((Zq L J x,y,Zq L J o) :: rs)) ∧
  (ld x≠ld o->ld x<0->UOk L J res k' (un (ld x) (ld o) ld) ((Zq L J x,y,Zq L J o) :: rs)) ∧
  (ld x≠ld o->¬ ld x<0->ld o<0->UOk L J res k' (un (ld o) (ld x) ld) ((Zq L J x,y,Zq L J o) :: rs)) ∧
  (ld x≠ld o->¬ ld x<0->¬ ld o<0->at' J (ld x)≠at' J (ld o)->res=none) ∧
  (ld x≠ld o->¬ ld x<0->¬ ld o<0->at' J (ld x)=at' J (ld o)->UOk L J res k' (un (ld x) (ld o) ld) (((ld x).toNat+1,Zq L J (ld x).toNat,(ld o).toNat+1) :: (Zq L J x,y,Zq L J o) :: rs)):=by
 have heq:=h.eq;have hlen:=h.len;obtain ⟨t1,t2,t3,t4,hpx,hpo,hlx,hlo,hr⟩:=h.top hxy;have px:=Zn (J:=J) (p:=x) t1;have po:=Zn (J:=J) (p:=o) t2;simp at hlen;cases k with
 | zero=>simp [Zgu] at heq
 | succ k=>
  rw [Zgu,if_pos hxy] at heq;refine ⟨k,rfl,?_,?_,?_,?_,?_⟩
  ·intro h1;rw [if_pos h1] at heq
   exact ⟨h.trs,h.ok,hr,heq,by simp;omega⟩
  ·intro h1 h2
   rw [if_neg h1,if_pos h2] at heq;have:=V4 (J:=J) (p:=ld x) hlo h1;exact ⟨h.trs,h.ok.un hlx hlo hpo h1 (h.ok.sym _ po) (λ f=>by omega),hr,heq,by simp;omega⟩
  ·intro h1 h2 h3
   have h1' : ld o≠ld x:=λ e=>h1 e.symm;rw [if_neg h1,if_neg h2,if_pos h3] at heq;have:=V4 (J:=J) (p:=ld o) hlx h1';exact ⟨h.trs,h.ok.un hlo hlx hpx h1' (h.ok.sym _ px) (λ f=>by omega),hr,heq,by simp;omega⟩
  ·intro h1 h2 h3 h4
   rw [if_neg h1,if_neg h2,if_neg h3,if_pos h4] at heq;simp at heq;exact heq.symm
  ·intro h1 h2 h3 h4
   rw [if_neg h1,if_neg h2,if_neg h3,if_neg (by simpa using h4)] at heq;obtain ⟨p,hp⟩:=Int.eq_ofNat_of_zero_le (Int.not_lt.1 h2);obtain ⟨q,hq⟩:=Int.eq_ofNat_of_zero_le (Int.not_lt.1 h3);have hpl:p<J.length:=by have:=hpx.2;omega
   have hql:q<J.length:=by have:=hpo.2;omega
   have hlt:=Zc6 (J:=J) (ld:=ld) (p:=p) (q:=ld o) hlo (by rw [<- hp];exact h1) (by rw [<- hp];exact hlx) hpl;rw [<- hp] at hlt;refine ⟨h.trs,h.ok.un hlx hlo hpo h1 (h.ok.sym _ po) (λ _=>⟨by omega,h4.symm⟩),?_,heq,by simp;omega⟩;intro r hr'
   rcases List.mem_cons.1 hr' with e | e
   ·rw [e,show (ld x).toNat=p by omega,show (ld o).toNat=q by omega]
    rw [hp,hq,Yl J p hpl,Yl J q hql] at h4;exact Zb6.kids h.trs hpl hql h4
   ·exact hr r e
theorem Zhv (J:List Int) (ld:Int->Int):Zeq J ld<=J.length:=by
 have:=List.countP_le_length (p:=λ p:Nat=>decide (ld (p:Int)=(p:Int))) (l:=List.range J.length)
 simpa [Zeq] using this
def Kg (sz:Nat->Int) (p:Nat) (v:Int):Nat->Int:=λ k=>if k=p then v else sz k
def Zaz (f:(Nat->Int)->Int->Option (Int × (Nat->Int))):List Nat->Int->(Nat->Int)->Option (Int × (Nat->Int))
 | [],s,sz=>some (s,sz)
 | x :: r,s,sz=>
  match f sz (x:Int) with
  | none=>none
  | some (k,sz')=>if k = -1 then some (-1,sz') else Zaz f r (min (s+k) 2001) sz'
def Zm (L:List Sym) (J:List Int) (p:Nat):List Nat:=Zr L J (arN L (at' J p)) (p+1)
def Vy (L:List Sym) (J:List Int) (ld:Int->Int):Nat->(Nat->Int)->Int->Option (Int × (Nat->Int))
 | 0,_,_=>none
 | n+1,sz,x=>
  if ld x<0 then some (1,sz)
  else if sz (ld x).toNat≠0 then some (sz (ld x).toNat,sz)
  else match Zaz (Vy L J ld n) (Zm L J (ld x).toNat) 1 (Kg sz (ld x).toNat (-1)) with
   | none=>none
   | some (s,sz')=>if s = -1 then some (-1,sz') else some (s,Kg sz' (ld x).toNat s)
def Vm (f:Int->Option (List Int)):List Nat->Option (List Int)
 | []=>some []
 | x :: r=>
  match f (x:Int) with
  | none=>none
  | some a=>
   match Vm f r with
   | none=>none
   | some b=>some (a++b)
def tmF (L:List Sym) (J:List Int) (ld:Int->Int):Nat->Int->Option (List Int)
 | 0,_=>none
 | d+1,x=>
  if ld x<0 then some [ld x]
  else match Vm (tmF L J ld d) (Zm L J (ld x).toNat) with
   | none=>none
   | some u=>some (at' J (ld x) :: u)
theorem Zb8 {f g:Int->Option (List Int)} (h:∀ x u,f x=some u->g x=some u):∀ (l:List Nat) (u:List Int),Vm f l=some u->Vm g l=some u
 | [],u,e=>e
 | x :: r,u,e=>by
  unfold Vm at e ⊢;cases h1:f (x:Int) with
  | none=>simp [h1] at e
  | some a=>
   cases h2:Vm f r with
   | none=>simp [h1,h2] at e
   | some b=>
    simp only [h1,h2] at e;simp only [h _ _ h1,Zb8 h r b h2];exact e
theorem Zta {L:List Sym} {J:List Int} {ld:Int->Int}:∀ {d:Nat} {x:Int} {u:List Int},tmF L J ld d x=some u->tmF L J ld (d+1) x=some u:=by
 intro d
 induction d with
 | zero=>intro x u h;simp [tmF] at h
 | succ d ih=>
  intro x u h;rw [tmF] at h ⊢
  by_cases h1:ld x<0
  ·rw [if_pos h1] at h ⊢;exact h
  ·rw [if_neg h1] at h ⊢
   cases h2:Vm (tmF L J ld d) (Zm L J (ld x).toNat) with
   | none=>simp [h2] at h
   | some v=>
    simp only [h2] at h;rw [Zb8 (λ y w hy=>ih hy) _ _ h2];exact h
theorem Zlh {L : List Sym} {J : List Int} {ld : Int -> Int} {d d' : Nat} (hd : d <= d') {x : Int} {u : List Int} (h : tmF L J ld d x = some u) : tmF L J ld d' x = some u := by
  induction d' with
  | zero => obtain rfl : d = 0 := by omega
            exact h
  | succ k ih =>
    by_cases e : d = k + 1
    · subst e; exact h
    · exact Zta (ih (by omega))
def Val (L:List Sym) (J:List Int) (ld:Int->Int) (x:Int) (u:List Int):Prop:=∃ d,tmF L J ld d x=some u
theorem Val.uniq {L:List Sym} {J:List Int} {ld:Int->Int} {x:Int} {u v:List Int} (h:Val L J ld x u) (k:Val L J ld x v):u=v:=by
 obtain ⟨d,hd⟩:=h;obtain ⟨e,he⟩:=k;have h1:=Zlh (Nat.le_max_left d e) hd;have h2:=Zlh (Nat.le_max_right d e) he;rw [h1] at h2;simpa using h2
def Zkk (L:List Sym) (J:List Int) (ld:Int->Int) (l:List Nat) (u:List Int):Prop:=∃ d,Vm (tmF L J ld d) l=some u
theorem Zda (L:List Sym) (J:List Int) (ld:Int->Int):Zkk L J ld [] []:=⟨0,rfl⟩
theorem Kh {L:List Sym} {J:List Int} {ld:Int->Int} {x:Nat} {r:List Nat} {u v:List Int} (h:Val L J ld x u) (k:Zkk L J ld r v):Zkk L J ld (x :: r) (u++v):=by
 obtain ⟨d,hd⟩:=h;obtain ⟨e,he⟩:=k;refine ⟨max d e,?_⟩;have h2:=Zb8 (g:=tmF L J ld (max d e)) (λ y w hy=>Zlh (Nat.le_max_right d e) hy) _ _ he;simp only [Vm,Zlh (Nat.le_max_left d e) hd,h2]
theorem Jp {L:List Sym} {J:List Int} {ld:Int->Int} {x:Nat} {r:List Nat} {u:List Int} (h:Zkk L J ld (x :: r) u):∃ a b,Val L J ld x a∧Zkk L J ld r b∧u=a++b:=by
 obtain ⟨d,hd⟩:=h;unfold Vm at hd;cases h1:tmF L J ld d (x:Int) with
 | none=>simp [h1] at hd
 | some a=>
  cases h2:Vm (tmF L J ld d) r with
  | none=>simp [h1,h2] at hd
  | some b=>simp only [h1,h2,Option.some.injEq] at hd;exact ⟨a,b,⟨d,h1⟩,⟨d,h2⟩,hd.symm⟩
theorem Zpu {L:List Sym} {J:List Int} {ld:Int->Int} {x:Int} (h:ld x<0):Val L J ld x [ld x]:=⟨1,by rw [tmF,if_pos h]⟩
theorem Zrp {L:List Sym} {J:List Int} {ld:Int->Int} {x:Int} (h:¬ ld x<0) {u:List Int} (hu:Zkk L J ld (Zm L J (ld x).toNat) u):Val L J ld x (at' J (ld x) :: u):=by
 obtain ⟨d,hd⟩:=hu;exact ⟨d+1,by rw [tmF,if_neg h,hd]⟩
theorem Zg2 {L:List Sym} {J:List Int} {ld:Int->Int} {x:Int} (h:¬ ld x<0) {u:List Int} (hv:Val L J ld x u):∃ v,u=at' J (ld x) :: v∧Zkk L J ld (Zm L J (ld x).toNat) v:=by
 obtain ⟨d,hd⟩:=hv;cases d with
 | zero=>simp [tmF] at hd
 | succ d=>
  rw [tmF,if_neg h] at hd;cases h2:Vm (tmF L J ld d) (Zm L J (ld x).toNat) with
  | none=>simp [h2] at hd
  | some v=>simp only [h2,Option.some.injEq] at hd;exact ⟨v,hd.symm,d,h2⟩
theorem Zdc {L:List Sym} {J:List Int} {ld:Int->Int} {x y:Int} (h:ld x=ld y) {u:List Int} (hv:Val L J ld x u):Val L J ld y u:=by
 obtain ⟨d,hd⟩:=hv;cases d with
 | zero=>simp [tmF] at hd
 | succ d=>rw [tmF,h] at hd;exact ⟨d+1,by rw [tmF];exact hd⟩
def Zbd (sz:Nat->Int):Prop:=∀ p,sz p = -1∨(0<=sz p∧sz p<=2001)
theorem Zbd.upd {sz:Nat->Int} (h:Zbd sz) (p:Nat) {v:Int} (hv:v = -1∨(0<=v∧v<=2001)):Zbd (Kg sz p v):=λ k=>by
 unfold Kg;split
 ·exact hv
 ·exact h k
theorem Zgf {f:(Nat->Int)->Int->Option (Int × (Nat->Int))} (hf:∀ sz x k sz', Zbd sz->f sz x=some (k,sz')->Zbd sz' ∧ (k = -1∨(1<=k∧k<=2001))):∀ (l:List Nat) (s:Int) (sz:Nat->Int) (k:Int) (sz' : Nat->Int),Zbd sz->1<=s->s<=2001->Zaz f l s sz=some (k,sz')->Zbd sz' ∧ (k = -1∨(1<=k∧k<=2001))
 | [],s,sz,k,sz', h,h1,h2,e=>by
  simp only [Zaz,Option.some.injEq,Prod.mk.injEq] at e;obtain ⟨rfl,rfl⟩:=e;exact ⟨h,.inr ⟨h1,h2⟩⟩
 | x :: r,s,sz,k,sz', h,h1,h2,e=>by
  unfold Zaz at e;cases hx:f sz (x:Int) with
  | none=>simp [hx] at e
  | some v=>
   obtain ⟨k1,sz1⟩:=v;simp only [hx] at e;obtain ⟨g1,g2⟩:=hf _ _ _ _ h hx
   by_cases hk:k1 = -1
   ·rw [if_pos hk] at e
    simp only [Option.some.injEq,Prod.mk.injEq] at e;obtain ⟨rfl,rfl⟩:=e;exact ⟨g1,.inl rfl⟩
   ·rw [if_neg hk] at e
    exact Zgf hf r _ _ _ _ g1 (by omega) (by omega) e
theorem Za0 {L:List Sym} {J:List Int} {ld:Int->Int}:∀ (n:Nat) (sz:Nat->Int) (x k:Int) (sz' : Nat->Int),Zbd sz->Vy L J ld n sz x=some (k,sz')->Zbd sz' ∧ (k = -1∨(1<=k∧k<=2001)):=by
 intro n
 induction n with
 | zero=>intro sz x k sz' _ e;simp [Vy] at e
 | succ n ih=>
  intro sz x k sz' h e;rw [Vy] at e
  by_cases h1:ld x<0
  ·rw [if_pos h1] at e
   simp only [Option.some.injEq,Prod.mk.injEq] at e;obtain ⟨rfl,rfl⟩:=e;exact ⟨h,.inr ⟨by omega,by omega⟩⟩
  ·rw [if_neg h1] at e
   by_cases h2:sz (ld x).toNat≠0
   ·rw [if_pos h2] at e
    simp only [Option.some.injEq,Prod.mk.injEq] at e;obtain ⟨rfl,rfl⟩:=e;exact ⟨h,by have:=h (ld x).toNat;omega⟩
   ·rw [if_neg h2] at e
    cases h3:Zaz (Vy L J ld n) (Zm L J (ld x).toNat) 1 (Kg sz (ld x).toNat (-1)) with
    | none=>simp [h3] at e
    | some v=>
     obtain ⟨s,sz1⟩:=v;obtain ⟨g1,g2⟩:=Zgf ih _ _ _ _ _ (h.upd _ (.inl rfl)) (by omega) (by omega) h3;simp only [h3] at e
     by_cases hs:s = -1
     ·rw [if_pos hs] at e
      simp only [Option.some.injEq,Prod.mk.injEq] at e;obtain ⟨rfl,rfl⟩:=e;exact ⟨g1,.inl rfl⟩
     ·rw [if_neg hs] at e
      simp only [Option.some.injEq,Prod.mk.injEq] at e;obtain ⟨rfl,rfl⟩:=e;exact ⟨g1.upd _ (by omega),by omega⟩
def unk (N:Nat) (sz:Nat->Int):Nat:=(List.range N).countP (λ p=>decide (sz p=0))
theorem Zn0 {N:Nat} {sz:Nat->Int} {p:Nat} {v:Int} (hv:v≠0):unk N (Kg sz p v)<=unk N sz:=
 Zel (λ x _ h=>by
  have h' : Kg sz p v x=0:=of_decide_eq_true h;refine decide_eq_true ?_;unfold Kg at h'
  by_cases e:x=p
  ·rw [if_pos e] at h'; exact absurd h' hv
  ·rw [if_neg e] at h'; exact h')
theorem Znw {N:Nat} {sz:Nat->Int} {p:Nat} {v:Int} (hv:v≠0) (hp:p<N) (h0:sz p=0):unk N (Kg sz p v)<unk N sz:=
 Zhn (y:=p) (λ x _ h=>by
  have h' : Kg sz p v x=0:=of_decide_eq_true h;refine decide_eq_true ?_;unfold Kg at h'
  by_cases e:x=p
  ·rw [if_pos e] at h'; exact absurd h' hv
  ·rw [if_neg e] at h'; exact h') (by simpa using hp) (by simpa using h0) (by simp [Kg,hv])
theorem Zbj {L:List Sym} {J:List Int}:∀ {k p q:Nat},Zu L J k p q->∀ x∈Zr L J k p,x<J.length
 | 0,p,q,h,x,hx=>by simp [Zr] at hx
 | k+1,p,q,h,x,hx=>by
  obtain ⟨h1,h2,h3⟩:=h.succ;simp only [Zr,List.mem_cons] at hx
  rcases hx with e | e
  ·rw [e];have:=h1.le;omega
  ·exact Zbj h3 x e
theorem Yh {L:List Sym} {J:List Int} (hT:Trs L J) {p:Nat} (hp:p<J.length):Zu L J (arN L (at' J p)) (p+1) (Zq L J p):=by
 rw [Yl J p hp];exact hT.kids hp
theorem Vw {L:List Sym} {J:List Int} (hT:Trs L J) {p:Nat} (hp:p<J.length):∀ x∈Zm L J p,x<J.length:=Zbj (Yh hT hp)
theorem Zou {N:Nat} {f:(Nat->Int)->Int->Option (Int × (Nat->Int))} {m:Nat} (l:List Nat) (hf:∀ sz,unk N sz<m->Zbd sz->∀ x∈l,∃ k sz', f sz (x:Int)=some (k,sz')∧unk N sz' <= unk N sz∧Zbd sz'):∀ (s:Int) (sz:Nat->Int),unk N sz<m->Zbd sz->∃ k sz', Zaz f l s sz=some (k,sz')∧unk N sz' <= unk N sz:=by
 induction l with
 | nil=>intro s sz h h'; exact ⟨s,sz,rfl,Nat.le_refl _⟩
 | cons x r ih=>
  intro s sz h h';obtain ⟨k,sz1,h1,h2,h3⟩:=hf sz h h' x (by simp)
  by_cases hk:k = -1
  ·exact ⟨-1,sz1,by simp [Zaz,h1,hk],h2⟩
  ·obtain ⟨k2,sz2,g1,g2⟩:=ih (λ sz a b y hy=>hf sz a b y (by simp [hy])) (min (s+k) 2001) sz1 (by omega) h3
   exact ⟨k2,sz2,by simp only [Zaz,h1];rw [if_neg hk];exact g1,by omega⟩
theorem Ziv {L:List Sym} {J:List Int} {ld:Int->Int} (hT:Trs L J) (hl:Zcq J ld):∀ (n:Nat) (sz:Nat->Int) (x:Int),Z2 J x->Zbd sz->unk J.length sz<n->∃ k sz', Vy L J ld n sz x=some (k,sz')∧unk J.length sz' <= unk J.length sz:=by
 intro n
 induction n with
 | zero=>intro sz x _ _ h;omega
 | succ n ih=>
  intro sz x hx hs hn;rw [Vy]
  by_cases h1:ld x<0
  ·rw [if_pos h1];exact ⟨_,_,rfl,Nat.le_refl _⟩
  ·rw [if_neg h1]
   by_cases h2:sz (ld x).toNat≠0
   ·rw [if_pos h2];exact ⟨_,_,rfl,Nat.le_refl _⟩
   ·rw [if_neg h2]
    have hp:(ld x).toNat<J.length:=by have:=(hl.part x hx).2;omega
    have h0:sz (ld x).toNat=0:=by simpa using h2
    have hlt:=Znw (N:=J.length) (sz:=sz) (v:=-1) (by omega) hp h0
    obtain ⟨k,sz1,g1,g2⟩:=Zou (N:=J.length) (m:=n) (f:=Vy L J ld n) (Zm L J (ld x).toNat) (λ sz a b y hy=>by
     obtain ⟨k,sz', e1,e2⟩:=ih sz y (Zn (Vw hT hp y hy)) b a
     exact ⟨k,sz', e1,e2,(Za0 n _ _ _ _ b e1).1⟩) 1 (Kg sz (ld x).toNat (-1)) (by omega) (hs.upd _ (.inl rfl))
    rw [g1];simp only
    by_cases hk:k = -1
    ·rw [if_pos hk];exact ⟨_,_,rfl,by omega⟩
    ·rw [if_neg hk]
     obtain ⟨_,hkk⟩:=Zgf (λ sz x k sz' => Za0 n sz x k sz') _ _ _ _ _ (hs.upd _ (.inl rfl)) (by omega) (by omega) g1;have:=Zn0 (N:=J.length) (sz:=sz1) (p:=(ld x).toNat) (v:=k) (by omega);exact ⟨_,_,rfl,by omega⟩
def Zgk (L:List Sym) (J:List Int) (ld:Int->Int) (sz:Nat->Int):Prop:=∀ p:Nat,p<J.length->ld p=p->0<sz p->∃ u,Val L J ld p u∧sz p=min (u.length:Int) 2001
theorem Zfy {L:List Sym} {J:List Int} {ld:Int->Int} {n:Nat} (hf:∀ sz x k sz', Z2 J x->Zbd sz->Zgk L J ld sz->Vy L J ld n sz x=some (k,sz')->Zgk L J ld sz' ∧ (k ≠ -1->∃ u,Val L J ld x u∧k=min (u.length:Int) 2001)):∀ (l:List Nat),(∀ x∈l,x<J.length)->∀ (s0:Int) (n0:Nat) (sz:Nat->Int) (k:Int) (sz' : Nat->Int),Zbd sz->Zgk L J ld sz->s0=min (n0:Int) 2001->Zaz (Vy L J ld n) l s0 sz=some (k,sz')->Zgk L J ld sz' ∧ (k ≠ -1->∃ u,Zkk L J ld l u∧k=min ((n0+u.length:Nat):Int) 2001)
 | [],_,s0,n0,sz,k,sz', h1,h2,h3,e=>by
  simp only [Zaz,Option.some.injEq,Prod.mk.injEq] at e;obtain ⟨rfl,rfl⟩:=e;exact ⟨h2,λ _=>⟨[],Zda _ _ _,by simpa using h3⟩⟩
 | x :: r,hl,s0,n0,sz,k,sz', h1,h2,h3,e=>by
  unfold Zaz at e;cases hx:Vy L J ld n sz (x:Int) with
  | none=>simp [hx] at e
  | some v=>
   obtain ⟨k1,sz1⟩:=v;simp only [hx] at e;obtain ⟨g1,g2⟩:=hf _ _ _ _ (Zn (hl x (by simp))) h1 h2 hx;have g3:=Za0 n _ _ _ _ h1 hx
   by_cases hk:k1 = -1
   ·rw [if_pos hk] at e
    simp only [Option.some.injEq,Prod.mk.injEq] at e;obtain ⟨rfl,rfl⟩:=e;exact ⟨g1,λ f=>absurd rfl f⟩
   ·rw [if_neg hk] at e
    obtain ⟨u,hu,hku⟩:=g2 hk;have hsum:min (s0+k1) 2001=min ((n0+u.length:Nat):Int) 2001:=by clear g2 g1 g3 e hf;omega
    obtain ⟨f1,f2⟩:=Zfy hf r (λ y hy=>hl y (by simp [hy])) _ (n0+u.length) _ _ _ g3.1 g1 hsum e;refine ⟨f1,λ hk' => ?_⟩;obtain ⟨u2,hu2,hk2⟩:=f2 hk';exact ⟨u++u2,Kh hu hu2,by rw [hk2,List.length_append];omega⟩
theorem Zfz {L:List Sym} {J:List Int} {ld:Int->Int} (hT:Trs L J) (hl:Zcq J ld):∀ (n:Nat) (sz:Nat->Int) (x k:Int) (sz' : Nat->Int),Z2 J x->Zbd sz->Zgk L J ld sz->Vy L J ld n sz x=some (k,sz')->Zgk L J ld sz' ∧ (k ≠ -1->∃ u,Val L J ld x u∧k=min (u.length:Int) 2001):=by
 intro n
 induction n with
 | zero=>intro sz x k sz' _ _ _ e;simp [Vy] at e
 | succ n ih=>
  intro sz x k sz' hx h hK e;rw [Vy] at e
  by_cases h1:ld x<0
  ·rw [if_pos h1] at e
   simp only [Option.some.injEq,Prod.mk.injEq] at e;obtain ⟨rfl,rfl⟩:=e;exact ⟨hK,λ _=>⟨_,Zpu h1,by simp only [List.length_singleton];omega⟩⟩
  ·rw [if_neg h1] at e
   obtain ⟨p,hp⟩:=Int.eq_ofNat_of_zero_le (Int.not_lt.1 h1);have hpl:p<J.length:=by have:=(hl.part x hx).2;omega
   have hpp:ld (p:Int)=p:=by
    have:=hl.idem x hx;rw [hp] at this;exact this
   have e1:(ld x).toNat=p:=by omega
   rw [e1] at e
   by_cases h2:sz p≠0
   ·rw [if_pos h2] at e
    simp only [Option.some.injEq,Prod.mk.injEq] at e;obtain ⟨rfl,rfl⟩:=e;refine ⟨hK,λ hk=>?_⟩;obtain ⟨u,hu,hz⟩:=hK p hpl hpp (by have:=h p;omega);exact ⟨u,Zdc (by rw [hpp,hp]) hu,hz⟩
   ·rw [if_neg h2] at e
    have h0:sz p=0:=by simpa using h2
    have hK2:Zgk L J ld (Kg sz p (-1)):=by
     intro q hq hqq hs;unfold Kg at hs ⊢
     by_cases e:q=p
     ·rw [if_pos e] at hs;omega
     ·rw [if_neg e] at hs ⊢;exact hK q hq hqq hs
    cases h3:Zaz (Vy L J ld n) (Zm L J p) 1 (Kg sz p (-1)) with
    | none=>simp [h3] at e
    | some v=>
     obtain ⟨s,sz1⟩:=v;obtain ⟨g1,g2⟩:=Zfy ih _ (Vw hT hpl) 1 1 _ _ _ (h.upd _ (.inl rfl)) hK2 (by decide) h3;obtain ⟨o1,o2⟩:=Zgf (λ sz x k sz' => Za0 n sz x k sz') _ _ _ _ _ (h.upd _ (.inl rfl)) (by omega) (by omega) h3;simp only [h3] at e
     by_cases hs:s = -1
     ·rw [if_pos hs] at e
      simp only [Option.some.injEq,Prod.mk.injEq] at e;obtain ⟨rfl,rfl⟩:=e;exact ⟨g1,λ f=>absurd rfl f⟩
     ·rw [if_neg hs] at e
      simp only [Option.some.injEq,Prod.mk.injEq] at e;obtain ⟨rfl,rfl⟩:=e;obtain ⟨u,hu,hz⟩:=g2 hs
      have hv:Val L J ld (p:Int) (at' J (p:Int) :: u):=by
       have:=Zrp (L:=L) (J:=J) (ld:=ld) (x:=(p:Int)) (by rw [hpp];omega) (u:=u) (by rw [hpp];simpa using hu)
       rwa [hpp] at this
      have hlen:s=min ((at' J (p:Int) :: u).length:Int) 2001:=by rw [hz];simp;omega
      refine ⟨?_,λ _=>⟨_,Zdc (by rw [hpp,hp]) hv,hlen⟩⟩;intro q hq hqq hsq;unfold Kg at hsq ⊢
      by_cases e:q=p
      ·subst e
       rw [if_pos rfl];exact ⟨_,hv,hlen⟩
      ·rw [if_neg e] at hsq ⊢;exact g1 q hq hqq hsq
section
open Go.RowKit
theorem Ye {a b:Bool} (h:a=b):Ending.returned (.bool a)=.returned (.bool b):=by rw [h]
theorem Z7 {k:IntKind} {a b:Int} (h:a=b):Ending.returned (.int k a)=.returned (.int k b):=by rw [h]
theorem str_ne {a b:ByteArray} (h:¬ a=b):(a.toList == b.toList)=false  := by
 rw [beq_eq_false_iff_ne];intro e;rw [ByteArray.toList_eq,ByteArray.toList_eq] at e;exact h (Go.WideShapes.bytes_inj e)
abbrev Za:World->World->Prop:=Zc (λ _=>False)
theorem Za.trans' {a b c:World} (h:Za a b) (k:Za b c):Za a c:=Zc.trans h k (λ _ _ f=>f)
theorem Za.of_below {w w' : World} (h:Below w.heap.size w w'):Za w w' := ⟨h.os,h.tape,h.output,h.size,λ k hk _=>h.block k hk⟩
theorem Za.below {w w' : World} (h:Za w w'):Below w.heap.size w w' := Zc.below h (Nat.le_refl _) (λ _ _ f=>f)
theorem Za.at0 {w w' : World} (h:Za w w') {b:Nat} {o:Obj} (hb:w.heap[b]? = some o):w'.heap[b]? = some o:=Zc.at h hb (λ f=>f)
end
end Go.Proofs.YtjahpnbijefncaaGreat
