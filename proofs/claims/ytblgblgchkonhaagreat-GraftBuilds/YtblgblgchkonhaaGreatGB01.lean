import Derived.WalkKit
import Derived.WalkSpells
import Derived.Maps.OwnSet
import Derived.Deep.AppendLies
import Derived.Deep.QuietTactic
import Derived.BigQuiet
import Derived.Test.YtblgblgchkonhaaGreatProg
import Derived.KernelRfl
import Derived.Below
import Derived.WideShapes
import Derived.WalkLawsBesides
import Derived.Deep.RegionLaw
import Derived.Deep.DeepCutAuto
namespace Go.Proofs.YtblgblgchkonhaaGreat
open Go.RowKit
structure Kept (S:Nat→Prop) (w w' : World):Prop where
 os:w'.os=w.os
 tape:w'.tape=w.tape
 output:w'.output=w.output
 size:w.heap.size≤w'.heap.size
 block:∀ k,k<w.heap.size→¬ S k→w'.heap[k]? = w.heap[k]?
theorem Kept.refl (S:Nat→Prop) (w:World):Kept S w w:=⟨rfl,rfl,rfl,Nat.le_refl _,fun _ _ _=>rfl⟩
theorem Kept.trans {S S' : Nat→Prop} {a b c:World} (h:Kept S a b) (k:Kept S' b c) (hs:∀ i,i<a.heap.size→S' i→S i):Kept S a c:=
 ⟨k.os.trans h.os,k.tape.trans h.tape,k.output.trans h.output,Nat.le_trans h.size k.size,fun i hi hn=>(k.block i (Nat.lt_of_lt_of_le hi h.size) (fun x=>hn (hs i hi x))).trans (h.block i hi hn)⟩
theorem Kept.mono {S S' : Nat→Prop} {w w' : World} (h:Kept S w w') (hs:∀ i,i<w.heap.size→S i→S' i):Kept S' w w' :=
 ⟨h.os,h.tape,h.output,h.size,fun k hk hn=>h.block k hk (fun x=>hn (hs k hk x))⟩
theorem Kept.drew {S:Nat→Prop} {a w:World} (h:Kept S a w):Kept S a w.drew:=⟨h.os,h.tape,h.output,h.size,h.block⟩
theorem Kept.drewN {S:Nat→Prop} {a w:World} (h:Kept S a w) (n:Nat):Kept S a (w.drewN n):=⟨h.os,h.tape,h.output,h.size,h.block⟩
theorem Kept.alloc {S:Nat→Prop} {a w:World} (h:Kept S a w) (o:Obj):Kept S a (w.alloc o):=
 h.trans (S' := fun _=>False) ⟨rfl,rfl,rfl,by simp,fun k hk _=>Below.heap_alloc _ _ _ hk⟩ (fun _ _ x=>x.elim)
theorem Kept.setCell {S:Nat→Prop} {a w:World} (h:Kept S a w) {p:Addr} (hp:p.block<a.heap.size→S p.block) (u:Value):Kept S a (w.setCell p u):=
 h.trans (S' := fun k=>k=p.block) ⟨rfl,rfl,rfl,by simp [World.setCell],fun k _ hn=>Below.heap_setCell _ _ _ _ hn⟩ (fun i hi e=>by subst e;exact hp hi)
theorem Kept.grown {S:Nat→Prop} {a w w' : World} {row:Option Nat} (h:Kept S a w) (hg:w.grownBy w' row) (hr:∀ k,row=some k→k<a.heap.size→S k):Kept S a w' :=
 h.trans (S' := fun k=>row=some k) ⟨hg.os,hg.tape,hg.output,hg.size,fun k hk hn=>hg.block k hk (fun e=>hn e.symm)⟩ (fun i hi e=>hr i e hi)
theorem Kept.below {S:Nat→Prop} {w w' : World} {B:Nat} (h:Kept S w w') (hB:B≤w.heap.size) (hs:∀ k,k<B→¬ S k):Below B w w' :=
 ⟨h.os,h.tape,h.output,h.size,fun k hk=>h.block k (by omega) (hs k hk)⟩
theorem Kept.cell {S:Nat→Prop} {w w' : World} (h:Kept S w w') {p:Addr} (hp:p.block<w.heap.size) (hn:¬ S p.block):w'.cell? p=w.cell? p:=World.cell?_of_block (h.block p.block hp hn)
theorem Kept.at {S:Nat→Prop} {w w' : World} (h:Kept S w w') {b:Nat} {o:Obj} (hb:w.heap[b]? = some o) (hn:¬ S b):w'.heap[b]? = some o:=
 (h.block b (Array.getElem?_eq_some_iff.1 hb).1 hn).trans hb
theorem lt_of_at {w:World} {b:Nat} {o:Obj} (hb:w.heap[b]? = some o):b<w.heap.size:=(Array.getElem?_eq_some_iff.1 hb).1
theorem Kept.row {S:Nat→Prop} {w w' : World} (h:Kept S w w') {base:Nat} {e:TypeId} {size:Nat} {v:Value} {n:Nat} {xs:List Value} (hr:w.ownsRow base e size v n xs) (hn:∀ k,v.ownBlock=some k→¬ S k):w'.ownsRow base e size v n xs:=by
 refine ⟨hr.1,?_⟩
 rcases hr.2 with h0 | ⟨g,cap,cur,rfl,hb,hg,r⟩
 ·exact .inl h0
 ·exact .inr ⟨g,cap,cur,rfl,hb,h.at hg (hn g rfl),r⟩
theorem Kept.map {S:Nat→Prop} {w w' : World} (h:Kept S w w') {H:Type} {P:Program} {k:TypeId} {R:Value→Option (DataW H × List MemPlace)} {b n:Nat} {D:DataW H} (hm:w.ownsMap P k R b n D) (hn:¬ S b):w'.ownsMap P k R b n D:=by
 obtain ⟨es,clock,hb,r⟩:=hm
 exact ⟨es,clock,h.at hb hn,r⟩
theorem cellAt {w:World} {b:Nat} {cs:Array Value} {t:TypeId} {fr:Nat × Nat} (h:w.heap[b]? = some (.cells cs t fr)) (o:Nat):w.cell? ⟨b,o,none⟩=cs[o]? := by
 simp [World.cell?,h]
theorem frozenAt {w:World} {b:Nat} {cs:Array Value} {t:TypeId} (h:w.heap[b]? = some (.cells cs t (0,0))) (o:Nat):w.frozen? ⟨b,o,none⟩=false:=by
 simp [World.frozen?,h]
theorem setAt {w:World} {b:Nat} {cs:Array Value} {t:TypeId} {fr:Nat × Nat} (h:w.heap[b]? = some (.cells cs t fr)) (o:Nat) (v:Value):(w.setCell ⟨b,o,none⟩ v).heap[b]? = some (.cells (cs.setIfInBounds o v) t fr):=by
 simp [World.setCell,Array.getElem?_modify,h]
theorem row_shape {w:World} {base:Nat} {e:TypeId} {size:Nat} {v:Value} {n:Nat} {xs:List Value} (h:w.ownsRow base e size v n xs):∃ ao cap,v=.slice ao n cap:=by
 rcases h.2 with ⟨rfl,h0⟩ | ⟨g,cap,cur,rfl,_⟩
 ·exact ⟨none,0,by rw [h0]⟩
 ·exact ⟨_,cap,rfl⟩
theorem row_mono {w:World} {base base' : Nat} {e:TypeId} {size:Nat} {v:Value} {n:Nat} {xs:List Value} (h:w.ownsRow base e size v n xs) (hb:base' ≤ base):w.ownsRow base' e size v n xs:=by
 refine ⟨h.1,h.2.imp id ?_⟩
 rintro ⟨g,cap,cur,hv,hg,r⟩
 exact ⟨g,cap,cur,hv,by omega,r⟩
end Go.Proofs.YtblgblgchkonhaaGreat
namespace Go.Proofs.YtblgblgchkonhaaGreat
set_option linter.unusedVariables false
abbrev Nd:=Int × List Int × Int × Bool × Int
def downL (n:Nd):List Int:=if n.2.2.2.1=true then [n.2.2.2.2] else n.2.1
def InL (l:List Nd):Prop:=∀ i (h:i<l.length),∀ x∈downL l[i],0≤x∧x<(l.length:Int)
def Ed (l:List Nd) (i j:Nat):Prop:=∃ h:i<l.length,(j:Int)∈downL l[i]
def Ac (l:List Nd):Prop:=∃ r:Nat→Nat,∀ i j,Ed l i j→r j<r i
def Rk (l:List Nd):Nat→Nat→Nat→Prop
 | 0,i,j=>i=j
 | k+1,i,j=>∃ m,Ed l i m∧Rk l k m j
def Rc (l:List Nd) (i j:Nat):Prop:=∃ k,Rk l k i j
theorem Rc.refl (l:List Nd) (i:Nat):Rc l i i:=⟨0,rfl⟩
theorem Rc.step {l:List Nd} {i m j:Nat} (h:Ed l i m) (k:Rc l m j):Rc l i j:=by
 obtain ⟨n,hn⟩:=k
 exact ⟨n+1,m,h,hn⟩
theorem Rk.snoc {l:List Nd}:∀ {k i m j:Nat},Rk l k i m→Ed l m j→Rk l (k+1) i j
 | 0,i,m,j,h,e=>by cases h;exact ⟨j,e,rfl⟩
 | k+1,i,m,j,⟨x,h1,h2⟩,e=>⟨x,h1,h2.snoc e⟩
theorem Rc.snoc {l:List Nd} {i m j:Nat} (h:Rc l i m) (e:Ed l m j):Rc l i j:=by
 obtain ⟨n,hn⟩:=h
 exact ⟨n+1,hn.snoc e⟩
theorem Rk.trans {l:List Nd}:∀ {k i m j:Nat},Rk l k i m→Rc l m j→Rc l i j
 | 0,i,m,j,h,e=>by cases h;exact e
 | k+1,i,m,j,⟨x,h1,h2⟩,e=>(h2.trans e).step h1
theorem Rc.trans {l:List Nd} {i m j:Nat} (h:Rc l i m) (e:Rc l m j):Rc l i j:=by
 obtain ⟨n,hn⟩:=h
 exact hn.trans e
theorem Rk.rank {l:List Nd} {r:Nat→Nat} (hr:∀ i j,Ed l i j→r j<r i):∀ {k i j:Nat},Rk l k i j→r j+k≤r i
 | 0,i,j,h=>by cases h;omega
 | k+1,i,j,⟨m,h1,h2⟩=>by
  have:=Rk.rank hr h2
  have:=hr i m h1
  omega
theorem Ac.no_ring {l:List Nd} (h:Ac l) {i j:Nat} (e:Ed l i j):¬ Rc l j i:=by
 obtain ⟨r,hr⟩:=h
 rintro ⟨k,hk⟩
 have:=Rk.rank hr hk
 have:=hr i j e
 omega
theorem Rc.in {l:List Nd} {S:Nat→Prop} (hS:∀ i j,S i→Ed l i j→S j) {i j:Nat} (hi:S i) (h:Rc l i j):S j:=by
 obtain ⟨k,hk⟩:=h
 induction k generalizing i with
 | zero=>cases hk;exact hi
 | succ k ih=>
  obtain ⟨m,h1,h2⟩:=hk
  exact ih (hS i m hi h1) h2
theorem ed_set {l:List Nd} {a:Nat} {x:Nd} {i j:Nat} (h:Ed (l.set a x) i j):(i≠a∧Ed l i j)∨(i=a∧(j:Int)∈downL x):=by
 obtain ⟨hi,hm⟩:=h
 by_cases e:i=a
 ·subst e
  rw [List.getElem_set_self] at hm
  exact .inr ⟨rfl,hm⟩
 ·rw [List.getElem_set_ne (by omega)] at hm
  exact .inl ⟨e,by simpa using hi,hm⟩
theorem Ac.point {l:List Nd} (h:Ac l) {a t:Nat} (hn:¬ Rc l t a) (x:Nd) (hx:∀ j:Nat,(j:Int)∈downL x→j=t):Ac (l.set a x):=by
 obtain ⟨r,hr⟩:=h
 have dec:∀ i,Rc l t i∨¬ Rc l t i:=fun i=>Classical.em _
 obtain ⟨f,hf⟩:=Classical.axiomOfChoice (r:=fun (i:Nat) (n:Nat)=>(Rc l t i→n=r i)∧(¬ Rc l t i→n=r i+(r t+1))) (fun i=>by
  rcases dec i with q | q
  ·exact ⟨r i,fun _=>rfl,fun e=>absurd q e⟩
  ·exact ⟨r i+(r t+1),fun e=>absurd e q,fun _=>rfl⟩)
 refine ⟨f,fun i j e=>?_⟩
 have up:∀ i,r i≤f i∧f i≤r i+(r t+1):=fun i=>by
  rcases dec i with q | q
  ·have:=(hf i).1 q;omega
  ·have:=(hf i).2 q;omega
 rcases ed_set e with ⟨hne,e1⟩ | ⟨rfl,e1⟩
 ·have h1:=hr i j e1
  rcases dec i with q | q
  ·have h2:=(hf i).1 q
   have h3:=(hf j).1 (q.snoc e1)
   omega
  ·have h2:=(hf i).2 q
   have h3:=(up j).2
   omega
 ·obtain rfl:=hx j e1
  have h2:=(hf i).2 hn
  have h3:=(hf j).1 (Rc.refl l j)
  omega
theorem ed_snoc {l:List Nd} {x:Nd} {i j:Nat} (h:Ed (l ++ [x]) i j):Ed l i j∨(i=l.length∧(j:Int)∈downL x):=by
 obtain ⟨hi,hm⟩:=h
 by_cases e:i<l.length
 ·rw [List.getElem_append_left e] at hm
  exact .inl ⟨e,hm⟩
 ·obtain rfl:i=l.length:=by simp at hi;omega
  exact .inr ⟨rfl,by simpa using hm⟩
def topR (r:Nat→Nat):List Int→Nat
 | []=>0
 | x :: l=>max (r x.toNat) (topR r l)
theorem topR_le {r:Nat→Nat}:∀ {l:List Int} {j:Nat},(j:Int)∈l→r j≤topR r l
 | x :: l,j,h=>by
  rcases List.mem_cons.1 h with e | e
  ·simp only [topR,← e,Int.toNat_natCast];omega
  ·have:=topR_le (r:=r) e
   simp only [topR];omega
theorem Ac.make {l:List Nd} (h:Ac l) (hl:InL l) (x:Nd) (hx:∀ z∈downL x,0≤z∧z<(l.length:Int)):Ac (l ++ [x]):=by
 obtain ⟨r,hr⟩:=h
 refine ⟨fun i=>if i=l.length then topR r (downL x)+1 else r i,fun i j e=>?_⟩
 rcases ed_snoc e with e1 | ⟨rfl,e1⟩
 ·have hi:i<l.length:=e1.1
  have hj:(j:Int)<(l.length:Int):=(hl i hi _ e1.2).2
  simp only [if_neg (show ¬ i=l.length by omega),if_neg (show ¬ j=l.length by omega)]
  exact hr i j e1
 ·have hj:=(hx _ e1).2
  simp only [if_neg (show ¬ j=l.length by omega),if_true]
  have:=topR_le (r:=r) e1
  omega
theorem InL.make {l:List Nd} (hl:InL l) (x:Nd) (hx:∀ z∈downL x,0≤z∧z<(l.length:Int)):InL (l ++ [x]):=by
 intro i hi z hz
 have e:((l ++ [x]).length:Int)=(l.length:Int)+1:=by simp
 by_cases h:i<l.length
 ·rw [List.getElem_append_left h] at hz
  have:=hl i h z hz
  omega
 ·obtain rfl:i=l.length:=by simp at hi;omega
  have:=hx z (by simpa using hz)
  omega
theorem InL.set {l:List Nd} (hl:InL l) (a:Nat) (x:Nd) (hx:∀ z∈downL x,0≤z∧z<(l.length:Int)):InL (l.set a x):=by
 intro i hi z hz
 rw [List.length_set]
 by_cases e:i=a
 ·subst e
  rw [List.getElem_set_self] at hz
  exact hx z hz
 ·rw [List.getElem_set_ne (by omega)] at hz
  exact hl i (by simpa using hi) z hz
def Snd (l:List Nd) (S:Nat→Prop):Prop:=∃ r:Nat→Nat,∀ i j,S i→Ed l i j→S j∧r j<r i
theorem Snd.none (l:List Nd):Snd l (fun _=>False):=⟨fun _=>0,fun _ _ h=>h.elim⟩
theorem Snd.more {l:List Nd} {S:Nat→Prop} (h:Snd l S) {a:Nat} (ha:∀ j,Ed l a j→S j):Snd l (fun i=>S i∨i=a):=by
 obtain ⟨r,hr⟩:=h
 by_cases hS:S a
 ·refine ⟨r,fun i j hi e=>?_⟩
  have hi:S i:=by rcases hi with q | q;exact q;rw [q];exact hS
  exact ⟨.inl (hr i j hi e).1,(hr i j hi e).2⟩
 ·by_cases hl:a<l.length
  ·refine ⟨fun i=>if i=a then topR r (downL l[a])+1 else r i,fun i j hi e=>?_⟩
   rcases hi with hi | rfl
   ·have h1:=hr i j hi e
    have n1:¬ i=a:=fun q=>hS (q ▸ hi)
    have n2:¬ j=a:=fun q=>hS (q ▸ h1.1)
    simp only [if_neg n1,if_neg n2]
    exact ⟨.inl h1.1,h1.2⟩
   ·have h1:=ha j e
    have n2:¬ j=i:=fun q=>hS (q ▸ h1)
    simp only [if_neg n2,if_true]
    have:=topR_le (r:=r) e.2
    exact ⟨.inl h1,by omega⟩
  ·refine ⟨r,fun i j hi e=>?_⟩
   rcases hi with hi | rfl
   ·exact ⟨.inl (hr i j hi e).1,(hr i j hi e).2⟩
   ·exact absurd e.1 hl
theorem Snd.ac {l:List Nd} {S:Nat→Prop} (h:Snd l S) (ha:∀ i,i<l.length→S i):Ac l:=by
 obtain ⟨r,hr⟩:=h
 exact ⟨r,fun i j e=>(hr i j (ha i e.1) e).2⟩
theorem Ac.all {l:List Nd} (h:Ac l) (hl:InL l) {S:Nat→Prop} (hS:∀ i,i<l.length→(∀ j,Ed l i j→S j)→S i):∀ i,i<l.length→S i:=by
 obtain ⟨r,hr⟩:=h
 have:∀ n i,r i<n→i<l.length→S i:=by
  intro n
  induction n with
  | zero=>intro i h;omega
  | succ n ih=>
   intro i h hi
   refine hS i hi (fun j e=>ih j ?_ ?_)
   ·have:=hr i j e;omega
   ·have:=(hl i hi _ e.2).2;omega
 exact fun i hi=>this (r i+1) i (by omega) hi
end Go.Proofs.YtblgblgchkonhaaGreat
namespace Go.Proofs.YtblgblgchkonhaaGreat
def smB (c:Int):Bool:=decide (97≤c) && decide (c≤122)
def dgB (c:Int):Bool:=decide (48≤c) && decide (c≤57)
def nmAt (i:Nat) (c:Int):Bool:=smB c || (decide (0<i) && dgB c)
def NameP (s:ByteArray):Prop:=1≤s.size∧s.size≤12∧∀ i (h:i<s.size),nmAt i (s[i].toNat:Int)=true
def nameB (s:ByteArray):Bool:=decide (1≤s.size∧s.size≤12∧∀ i (h:i<s.size),nmAt i (s[i].toNat:Int)=true)
theorem nameB_no {s:ByteArray} (h:¬ NameP s):nameB s=false:=decide_eq_false h
theorem nameB_yes {s:ByteArray} (h:NameP s):nameB s=true:=decide_eq_true h
end Go.Proofs.YtblgblgchkonhaaGreat
namespace Go.Proofs.YtblgblgchkonhaaGreat
open Go.RowKit
structure Sym where
 name:ByteArray
 ar:Int
 df:Bool
def findI:List Sym→ByteArray→Option Nat
 | [],_=>none
 | x :: r,s=>if x.name=s then some 0 else (findI r s).map (· + 1)
theorem findI_snoc (L:List Sym) (x:Sym) (s:ByteArray):findI (L ++ [x]) s=match findI L s with | some i=>some i | none=>if x.name=s then some L.length else none:=by
 induction L with
 | nil=>simp [findI]
 | cons y r ih=>
  simp only [List.cons_append,findI]
  by_cases h:y.name=s
  ·simp [h]
  ·simp only [h,if_false,ih]
   cases hf:findI r s with
   | some i=>simp
   | none=>by_cases hx:x.name=s <;> simp [hx]
def symCells (L:List Sym):List Value:=L.flatMap fun x=>[.string x.name,.int .i64 x.ar,.bool x.df]
theorem symCells_snoc (L:List Sym) (x:Sym):symCells (L ++ [x])=symCells L ++ [.string x.name,.int .i64 x.ar,.bool x.df]:=by simp [symCells]
theorem symCells_at {L:List Sym} {i:Nat} (h:i<L.length):(symCells L)[i * 3]? = some (.string L[i].name)∧(symCells L)[i * 3+1]? = some (.int .i64 L[i].ar)∧(symCells L)[i * 3+2]? = some (.bool L[i].df):=by
 induction L generalizing i with
 | nil=>simp at h
 | cons x r ih=>
  have e:symCells (x :: r)=.string x.name :: .int .i64 x.ar :: .bool x.df :: symCells r:=by simp [symCells]
  rw [e]
  cases i with
  | zero=>simp
  | succ j=>
   have:=ih (i:=j) (by simpa using h)
   rw [show (j+1) * 3=j * 3+1+1+1 by omega]
   simpa using this
def addErr (L:List Sym) (x:Sym):Int:=
 if nameB x.name=false then 10 else if x.ar<0∨6<x.ar then 11 else if (findI L x.name).isSome then 12 else if 64≤L.length then 13 else 0
theorem info_Symbol:(Tryz.prog.info? 67).map (fun i=>(i.zero,i.size,i.bytes))=some (some (.agg #[.string ByteArray.empty,.int .i64 0,.bool false]),3,32):=by kernel_rfl
theorem law_string:Maps.Keyed Tryz.prog 9:=Maps.string_keyed Tryz.underlying9
theorem zero_int (w:World):(zeroValue 3).run Tryz.prog w=.ok (.int .i64 0) w:=by kernel_rfl
def MapIs (w:World) (mr:Option Nat) (L:List Sym):Prop:=
 match mr with
 | none=>L=[]
 | some bm=>∃ n D,w.ownsMap (H:=Unit) Tryz.prog 9 (plainElem Tryz.prog 3) bm n D∧n≤L.length ∧
   ∀ s:ByteArray,Maps.has D (.string s.data.toList)=(findI L s).isSome∧∀ i,findI L s=some i→D.atKey (.string s.data.toList) (.lit (.int .i64 0))=.lit (.int .i64 (i:Int))
structure SigAt (w:World) (b:Nat) (L:List Sym) (sv:Value) (mr:Option Nat):Prop where
 blk:w.heap[b]? = some (.cells #[sv,.map mr] 125 (0,0))
 row:w.ownsRow 0 67 3 sv L.length (symCells L)
 map:MapIs w mr L
 apart:sv.ownBlock≠some b
 len:L.length≤64
 names:∀ x∈L,nameB x.name=true
def Foot (b:Nat) (sv:Value) (mr:Option Nat) (k:Nat):Prop:=k=b∨sv.ownBlock=some k∨mr=some k
theorem MapIs.kept {S:Nat→Prop} {w w' : World} {mr:Option Nat} {L:List Sym} (h:MapIs w mr L) (hk:Kept S w w') (hn:∀ k,mr=some k→¬ S k):MapIs w' mr L:=by
 cases mr with
 | none=>exact h
 | some bm=>
  obtain ⟨n,D,hm,r⟩:=h
  exact ⟨n,D,hk.map hm (hn bm rfl),r⟩
theorem SigAt.kept {S:Nat→Prop} {w w' : World} {b:Nat} {L:List Sym} {sv:Value} {mr:Option Nat} (h:SigAt w b L sv mr) (hk:Kept S w w') (hn:∀ k,Foot b sv mr k→¬ S k):SigAt w' b L sv mr:=
 ⟨hk.at h.blk (hn b (.inl rfl)),hk.row h.row (fun k e=>hn k (.inr (.inl e))),h.map.kept hk (fun k e=>hn k (.inr (.inr e))),h.apart,h.len,h.names⟩
theorem SigAt.sv {w:World} {b:Nat} {L:List Sym} {sv:Value} {mr:Option Nat} (h:SigAt w b L sv mr):∃ ao cap,sv=.slice ao L.length cap:=by
 rcases h.row.2 with ⟨rfl,h0⟩ | ⟨g,cap,cur,rfl,_⟩
 ·exact ⟨none,0,by rw [h0]⟩
 ·exact ⟨_,cap,rfl⟩
theorem sig_foot_lt {w:World} {b:Nat} {L:List Sym} {sv:Value} {mr:Option Nat} (h:SigAt w b L sv mr):∀ k,Foot b sv mr k→k<w.heap.size:=by
 intro k hk
 rcases hk with e | e | e
 ·subst e;exact lt_of_at h.blk
 ·exact (h.row.lt k e).2
 ·subst e
  obtain ⟨n,D,hm,_⟩:=h.map
  exact hm.lt
theorem key_str {s:ByteArray} (hs:s.size≤maxLen):keyOf Tryz.prog 9 (.string s)=some (.string s.data.toList):=Go.WideMaps.keyOf_string_mk Tryz.underlying9 hs
theorem MapIs.look {w:World} {mr:Option Nat} {L:List Sym} (h:MapIs w mr L) {s:ByteArray} (hs:s.size≤maxLen) :
  (Instr.lookup 123 (.map mr) (.string s) true).run Tryz.prog w=.ok (.tuple #[.int .i64 (((findI L s).getD 0:Nat):Int),.bool (findI L s).isSome]) w:=by
 cases mr with
 | none=>
  obtain rfl:L=[]:=h
  rw [Maps.look_nil true law_string Tryz.underlying123 (zero_int w) (key_str hs)]
  simp [findI]
 | some bm=>
  obtain ⟨n,D,hm,hn,hall⟩:=h
  obtain ⟨v,ps,hrun,hv⟩:=hm.look_ok law_string Tryz.underlying123 (zero_int w) (plainElem_int Tryz.underlying3 (by decide)) (key_str hs)
  obtain ⟨a,rfl,hz,_⟩:=plainElem_int_inv Tryz.underlying3 hv
  rw [hrun,(hall s).1]
  simp only [Prod.mk.injEq] at hz
  cases hf:findI L s with
  | none=>
   have hno:Maps.has D (.string s.data.toList)=false:=by rw [(hall s).1,hf];rfl
   rw [Maps.atKey_of_not_has hno] at hz
   have:=hz.1
   simp at this
   simp [← this]
  | some i=>
   rw [(hall s).2 i hf] at hz
   have:=hz.1
   simp at this
   simp [← this]
abbrev symV (x:Sym):Value:=.agg #[.string x.name,.int .i64 x.ar,.bool x.df]
end Go.Proofs.YtblgblgchkonhaaGreat
namespace Go.Proofs.YtblgblgchkonhaaGreat
def arN (L:List Sym) (n:Int):Nat:=if n<0 then 0 else match L[n.toNat]? with | some x=>x.ar.toNat | none=>0
def scan (L:List Sym):Nat→List Int→Option Nat
 | 0,_=>some 0
 | _+1,[]=>none
 | k+1,x :: r=>(scan L (k+arN L x) r).map (· + 1)
def need (L:List Sym):Nat→List Int→Option Nat
 | k,[]=>some k
 | 0,_ :: _=>none
 | k+1,x :: r=>need L (k+arN L x) r
theorem scan_zero (L:List Sym) (ts:List Int):scan L 0 ts=some 0:=by cases ts <;> rfl
theorem need_append (L:List Sym) (k:Nat) (a b:List Int):need L k (a++b)=(need L k a).bind (fun m=>need L m b):=by
 induction a generalizing k with
 | nil=>simp [need]
 | cons x r ih=>
  cases k with
  | zero=>simp [need]
  | succ k=>simp [need,ih]
theorem need_split {L:List Sym} {a b:Nat} {ts:List Int} (h:need L (a+b) ts=some 0):∃ n,scan L a ts=some n∧n≤ts.length∧need L b (ts.drop n)=some 0:=by
 induction ts generalizing a with
 | nil=>
  simp [need] at h
  obtain ⟨rfl,rfl⟩:=h
  exact ⟨0,rfl,by simp,by simp [need]⟩
 | cons x r ih=>
  cases a with
  | zero=>exact ⟨0,by simp [scan_zero],by simp,by simpa using h⟩
  | succ a=>
   rw [show a+1+b=(a+b)+1 by omega] at h
   simp only [need] at h
   rw [show a+b+arN L x=(a+arN L x)+b by omega] at h
   obtain ⟨n,h1,h2,h3⟩:=ih h
   exact ⟨n+1,by simp [scan,h1],by simpa using h2,by simpa using h3⟩
theorem scan_need {L:List Sym} {k n:Nat} {ts:List Int} (h:scan L k ts=some n):n≤ts.length∧need L k (ts.take n)=some 0:=by
 induction ts generalizing k n with
 | nil=>cases k <;> simp [scan] at h;subst h;simp [need]
 | cons x r ih=>
  cases k with
  | zero=>simp [scan] at h;subst h;simp [need]
  | succ k=>
   simp only [scan,Option.map_eq_some_iff] at h
   obtain ⟨m,hm,rfl⟩:=h
   obtain ⟨h1,h2⟩:=ih hm
   exact ⟨by simpa using h1,by simpa [need] using h2⟩
theorem need_scan {L:List Sym} {k:Nat} {a b:List Int} (h:need L k a=some 0):scan L k (a++b)=some a.length:=by
 induction a generalizing k with
 | nil=>simp [need] at h;subst h;simp [scan_zero]
 | cons x r ih=>
  cases k with
  | zero=>simp [need] at h
  | succ k=>
   simp only [need] at h
   simp [scan,ih h]
theorem scan_pos {L:List Sym} {k n:Nat} {ts:List Int} (h:scan L (k+1) ts=some n):0<n:=by
 cases ts with
 | nil=>simp [scan] at h
 | cons x r=>simp only [scan,Option.map_eq_some_iff] at h;obtain ⟨m,_,rfl⟩:=h;omega
theorem scan_add {L:List Sym} {a b m:Nat} {ts:List Int} (h:scan L (a+b) ts=some m):∃ n n', scan L a ts=some n∧scan L b (ts.drop n)=some n' ∧ m=n+n' := by
 obtain ⟨h1,h2⟩:=scan_need h
 obtain ⟨n,h3,h4,h5⟩:=need_split h2
 obtain ⟨h6,h7⟩:=scan_need h3
 have h4:n≤m:=by simp at h4;omega
 have e1:ts.take m=ts.take n++(ts.drop n).take (m-n):=by
  rw [List.take_drop,show n+(m-n)=m by omega]
  have:=(List.take_append_drop n (ts.take m)).symm
  rwa [List.take_take,Nat.min_eq_left h4] at this
 have h8:need L a (ts.take n)=some 0:=by rwa [List.take_take,Nat.min_eq_left h4] at h7
 refine ⟨n,m-n,?_,?_,by omega⟩
 ·have:=need_scan (b:=ts.drop n) h8
  rw [List.take_append_drop] at this
  rw [this];simp;omega
 ·have h9:need L b ((ts.drop n).take (m-n))=some 0:=by
   have:(ts.take m).drop n=(ts.drop n).take (m-n):=by rw [List.drop_take]
   rwa [this] at h5
  have:=need_scan (b:=(ts.drop n).drop (m-n)) h9
  rw [List.take_append_drop] at this
  rw [this];simp;omega
def endO (L:List Sym) (t:List Int) (p:Nat):Option Nat:=(scan L 1 (t.drop p)).map (p + ·)
def endN (L:List Sym) (t:List Int) (p:Nat):Nat:=(endO L t p).getD t.length
def IsT (L:List Sym) (t:List Int):Prop:=need L 1 t=some 0
theorem isT_need {L:List Sym} {t:List Int} (h:IsT L t) {p:Nat} (hp:p<t.length):∃ k,need L (k+1) (t.drop p)=some 0:=by
 have h' : need L 1 (t.take p++t.drop p)=some 0:=by rw [List.take_append_drop];exact h
 rw [need_append] at h'
 cases hn:need L 1 (t.take p) with
 | none=>simp [hn] at h'
 | some k=>
  simp only [hn,Option.bind_some] at h'
  cases k with
  | zero=>
   have:t.drop p≠[]:=by intro e;have:=congrArg List.length e;simp at this;omega
   cases hd:t.drop p with
   | nil=>exact absurd hd this
   | cons x r=>rw [hd] at h'; simp [need] at h'
  | succ k=>exact ⟨k,h'⟩
theorem isT_scan {L:List Sym} {t:List Int} (h:IsT L t) {p:Nat} (hp:p<t.length):∃ n,scan L 1 (t.drop p)=some n∧0<n∧p+n≤t.length:=by
 obtain ⟨k,hk⟩:=isT_need h hp
 rw [Nat.add_comm] at hk
 obtain ⟨n,h1,h2,_⟩:=need_split hk
 exact ⟨n,h1,scan_pos (k:=0) h1,by simp at h2;omega⟩
theorem endN_of {L:List Sym} {t:List Int} {p n:Nat} (h:scan L 1 (t.drop p)=some n):endN L t p=p+n:=by simp [endN,endO,h]
theorem endO_some {L:List Sym} {t:List Int} (h:IsT L t) {p:Nat} (hp:p<t.length):endO L t p=some (endN L t p):=by
 obtain ⟨n,h1,_,_⟩:=isT_scan h hp
 rw [endN_of h1,endO,h1];rfl
theorem isT_pos {L:List Sym} {t:List Int} (h:IsT L t):0<t.length:=by
 cases t with
 | nil=>simp [IsT,need] at h
 | cons=>simp
def starts (L:List Sym) (t:List Int):Nat→Nat→List Nat
 | 0,_=>[]
 | k+1,p=>p :: starts L t k (endN L t p)
theorem starts_length (L:List Sym) (t:List Int) (k p:Nat):(starts L t k p).length=k:=by
 induction k generalizing p with
 | zero=>rfl
 | succ k ih=>simp [starts,ih]
def past (L:List Sym) (t:List Int):Nat→Nat→Nat
 | 0,p=>p
 | k+1,p=>past L t k (endN L t p)
theorem past_succ (L:List Sym) (t:List Int) (k p:Nat):past L t (k+1) p=endN L t (past L t k p):=by
 induction k generalizing p with
 | zero=>rfl
 | succ k ih=>rw [past,ih,past]
theorem starts_at {L:List Sym} {t:List Int} {k p i:Nat} (h:i<k):(starts L t k p)[i]? = some (past L t i p):=by
 induction k generalizing p i with
 | zero=>omega
 | succ k ih=>
  cases i with
  | zero=>simp [starts,past]
  | succ i=>simpa [starts,past] using ih (p:=endN L t p) (by omega)
theorem starts_snoc (L:List Sym) (t:List Int) (k p:Nat):starts L t (k+1) p=starts L t k p ++ [past L t k p]:=by
 induction k generalizing p with
 | zero=>simp [starts,past]
 | succ k ih=>
  have:=ih (endN L t p)
  conv=>lhs;rw [starts]
  rw [this];simp [starts,past]
def Forest (L:List Sym) (t:List Int) (k p q:Nat):Prop:=∃ n,scan L k (t.drop p)=some n∧q=p+n∧q≤t.length
theorem Forest.zero {L:List Sym} {t:List Int} {p q:Nat} (h:Forest L t 0 p q):q=p:=by
 obtain ⟨n,h1,h2,_⟩:=h
 simp [scan_zero] at h1;omega
theorem Forest.le {L:List Sym} {t:List Int} {k p q:Nat} (h:Forest L t k p q):p≤q∧q≤t.length:=by
 obtain ⟨n,_,h2,h3⟩:=h;omega
theorem Forest.succ {L:List Sym} {t:List Int} {k p q:Nat} (h:Forest L t (k+1) p q):Forest L t 1 p (endN L t p)∧p<endN L t p∧Forest L t k (endN L t p) q:=by
 obtain ⟨n,h1,h2,h3⟩:=h
 rw [Nat.add_comm] at h1
 obtain ⟨a,b,h4,h5,h6⟩:=scan_add h1
 have e:=endN_of h4
 have ha:=scan_pos (k:=0) h4
 refine ⟨⟨a,h4,e,by omega⟩,by omega,b,?_,by omega,h3⟩
 rw [e,← List.drop_drop];exact h5
theorem Forest.pos {L:List Sym} {t:List Int} {k p q:Nat} (h:Forest L t (k+1) p q):p<q:=by
 have:=h.succ.2.1;have:=h.succ.2.2.le;omega
theorem Forest.one {L:List Sym} {t:List Int} (h:IsT L t) {p:Nat} (hp:p<t.length):Forest L t 1 p (endN L t p):=by
 obtain ⟨n,h1,h2,h3⟩:=isT_scan h hp
 exact ⟨n,h1,endN_of h1,by rw [endN_of h1];exact h3⟩
theorem Forest.kids {L:List Sym} {t:List Int} {p q:Nat} (h:Forest L t 1 p q):∃ hp:p<t.length,Forest L t (arN L t[p]) (p+1) q:=by
 obtain ⟨n,h1,h2,h3⟩:=h
 have hn:=scan_pos (k:=0) h1
 have hp:p<t.length:=by omega
 refine ⟨hp,?_⟩
 rw [List.drop_eq_getElem_cons hp] at h1
 simp only [scan,Nat.zero_add,Option.map_eq_some_iff] at h1
 obtain ⟨m,hm,rfl⟩:=h1
 exact ⟨m,hm,by omega,h3⟩
theorem Forest.past {L:List Sym} {t:List Int} {k p q:Nat} (h:Forest L t k p q):past L t k p=q:=by
 induction k generalizing p with
 | zero=>exact h.zero.symm
 | succ k ih=>rw [Proofs.YtblgblgchkonhaaGreat.past];exact ih h.succ.2.2
theorem Forest.drop {L:List Sym} {t:List Int} {k i p q:Nat} (h:Forest L t k p q) (hi:i≤k):Forest L t (k-i) (Proofs.YtblgblgchkonhaaGreat.past L t i p) q:=by
 induction i generalizing k p with
 | zero=>exact h
 | succ i ih=>
  cases k with
  | zero=>omega
  | succ k=>
   have:=ih h.succ.2.2 (by omega)
   simpa [Proofs.YtblgblgchkonhaaGreat.past] using this
def argsN (L:List Sym) (t:List Int) (p:Nat):List Nat:=starts L t (arN L (t.getD p 0)) (p+1)
def bump:List (Nat × Nat)→List (Nat × Nat)
 | []=>[]
 | (j,a) :: st=>if j+1<a then (j+1,a) :: st else bump st
def pass (st:List (Nat × Nat)) (a:Nat):List (Nat × Nat):=if 0<a then (0,a) :: st else bump st
def run (L:List Sym) (st:List (Nat × Nat)) (ts:List Int):List (Nat × Nat):=ts.foldl (fun s x=>pass s (arN L x)) st
def way (L:List Sym) (t:List Int) (p:Nat):List (Nat × Nat):=run L [] (t.take p)
def leads (L:List Sym) (t:List Int):Nat→List Int→Option Nat
 | p,[]=>some p
 | p,n :: r=>if n<0 then none else match (argsN L t p)[n.toNat]? with | some q=>leads L t q r | none=>none
def badE (L:List Sym):List Int→Int
 | []=>0
 | x :: r=>if (L.length:Int)≤x then 21 else if x < -99 then 22 else badE L r
def checkE (L:List Sym) (t:List Int):Int:=if 2000<t.length then 20 else if badE L t≠0 then badE L t else if need L 1 t=some 0 then 0 else 23
theorem badE_zero {L:List Sym} {t:List Int}:badE L t=0 ↔ ∀ x∈t,x<(L.length:Int) ∧ -99≤x:=by
 induction t with
 | nil=>simp [badE]
 | cons x r ih=>
  simp only [badE,List.mem_cons,forall_eq_or_imp]
  by_cases h1:(L.length:Int)≤x
  ·simp only [h1,if_true];constructor
   ·intro h;omega
   ·intro h;omega
  ·by_cases h2:x < -99
   ·simp only [h1,h2,if_true,if_false];constructor
    ·intro h;omega
    ·intro h;omega
   ·simp only [h1,h2,if_false,ih];constructor
    ·intro h;exact ⟨by omega,h⟩
    ·intro h;exact h.2
theorem badE_append (L:List Sym) (a b:List Int) (h:badE L a=0):badE L (a++b)=badE L b:=by
 induction a with
 | nil=>rfl
 | cons x r ih=>
  simp only [badE] at h
  by_cases h1:(L.length:Int)≤x
  ·simp [h1] at h
  ·by_cases h2:x < -99
   ·simp [h1,h2] at h
   ·simp only [h1,h2,if_false] at h
    simp only [List.cons_append,badE,h1,h2,if_false]
    exact ih h
def isV (x:Int):Bool:=decide (-99≤x∧x ≤ -1)
end Go.Proofs.YtblgblgchkonhaaGreat
namespace Go.Proofs.YtblgblgchkonhaaGreat
open Go.RowKit
theorem ret_bool {a b:Bool} (h:a=b):Ending.returned (.bool a)=.returned (.bool b):=by rw [h]
theorem ret_int {k:IntKind} {a b:Int} (h:a=b):Ending.returned (.int k a)=.returned (.int k b):=by rw [h]
theorem str_ne {a b:ByteArray} (h:¬ a=b):(a.toList == b.toList)=false  := by
 rw [beq_eq_false_iff_ne]
 intro e
 rw [ByteArray.toList_eq,ByteArray.toList_eq] at e
 exact h (Go.WideShapes.bytes_inj e)
abbrev Same0:World→World→Prop:=Kept (fun _=>False)
theorem Same0.trans' {a b c:World} (h:Same0 a b) (k:Same0 b c):Same0 a c:=Kept.trans h k (fun _ _ f=>f)
theorem Same0.of_below {w w' : World} (h:Below w.heap.size w w'):Same0 w w' := ⟨h.os,h.tape,h.output,h.size,fun k hk _=>h.block k hk⟩
theorem Same0.below {w w' : World} (h:Same0 w w'):Below w.heap.size w w' := Kept.below h (Nat.le_refl _) (fun _ _ f=>f)
theorem Same0.at0 {w w' : World} (h:Same0 w w') {b:Nat} {o:Obj} (hb:w.heap[b]? = some o):w'.heap[b]? = some o:=Kept.at h hb (fun f=>f)
end Go.Proofs.YtblgblgchkonhaaGreat
namespace Go.Proofs.YtblgblgchkonhaaGreat
set_option maxRecDepth 100000
open Go.RowKit
set_option maxHeartbeats 400000 in
theorem small_any (c:Int) (w:World):Calls Tryz.prog 92 #[.int .u8 c] w fun e w' => e=.returned (.bool (smB c))∧w' = w:=by
 unfold smB
 by_cases h:97≤c
 all_goals
  go_enter Tryz.func92,Tryz.ntmps92
  go_wp2
  go_ret
  exact ⟨by simp [h] <;> omega,rfl⟩
set_option maxHeartbeats 400000 in
theorem digit_any (c:Int) (w:World):Calls Tryz.prog 93 #[.int .u8 c] w fun e w' => e=.returned (.bool (dgB c))∧w' = w:=by
 unfold dgB
 by_cases h:48≤c
 all_goals
  go_enter Tryz.func93,Tryz.ntmps93
  go_wp2
  go_ret
  exact ⟨by simp [h] <;> omega,rfl⟩
set_option maxHeartbeats 400000 in
theorem rsmall_any (c:Int) (w:World):Calls Tryz.prog 78 #[.int .u8 c] w fun e w' => e=.returned (.bool (smB c))∧w' = w:=by
 unfold smB
 by_cases h:97≤c
 all_goals
  go_enter Tryz.func78,Tryz.ntmps78
  go_wp2
  go_ret
  exact ⟨by simp [h] <;> omega,rfl⟩
set_option maxHeartbeats 400000 in
theorem rdigit_any (c:Int) (w:World):Calls Tryz.prog 79 #[.int .u8 c] w fun e w' => e=.returned (.bool (dgB c))∧w' = w:=by
 unfold dgB
 by_cases h:48≤c
 all_goals
  go_enter Tryz.func79,Tryz.ntmps79
  go_wp2
  go_ret
  exact ⟨by simp [h] <;> omega,rfl⟩
def fitB (s:ByteArray):Bool:=decide (1≤s.size) && decide (s.size≤12)
set_option maxHeartbeats 400000 in
theorem fits_any (s:ByteArray) (w:World):Calls Tryz.prog 91 #[.string s] w fun e w' => e=.returned (.bool (fitB s))∧w' = w:=by
 unfold fitB
 by_cases h:1≤s.size
 all_goals
  go_enter Tryz.func91,Tryz.ntmps91
  go_wp2
  go_ret
  exact ⟨by simp [h] <;> omega,rfl⟩
theorem name_of_loop {s : ByteArray} (h1 : 1 ≤ s.size) (h2 : s.size ≤ 12) (h0 : nmAt 0 (s[0].toNat : Int) = true) (h : ∀ j (hj : j < s.size), 1 ≤ j → nmAt j (s[j].toNat : Int) = true) : NameP s :=
  ⟨h1, h2, fun i hi => by by_cases e : i = 0; · subst e; exact h0
                          · exact h i hi (by omega)⟩
set_option maxHeartbeats 1000000 in
theorem isName_any (s:ByteArray) (w:World) (hs:s.size≤maxLen):Calls Tryz.prog 75 #[.string s] w fun e w' => e=.returned (.bool (nameB s))∧w' = w:=by
 unfold maxLen at hs
 by_cases hf:fitB s=true
 ·have hf1:1≤s.size:=by simp [fitB] at hf;omega
  have hf2:s.size≤12:=by simp [fitB] at hf;omega
  by_cases h0:smB (s[0].toNat:Int)=true
  ·go_enter Tryz.func75,Tryz.ntmps75
   go_wp2_with (first | (go_at_call 91;refine (fits_any _ _).mono ?_;rintro e w' ⟨rfl,rfl⟩) | (go_at_call 92;refine (small_any _ _).mono ?_;rintro e w' ⟨rfl,rfl⟩))
   go_loop [3] (fun i=>∃ k:Nat,1≤k∧k≤s.size∧i=.int .i64 k∧∀ j (hj:j<s.size),1≤j→j<k→nmAt j (s[j].toNat:Int)=true) (fun i=>s.size-(intOf i).toNat)
   case atStart=>exact ⟨1,by omega,hf1,rfl,by intro j _ _ _;omega⟩
   case round=>
    obtain ⟨k,hk1,hk,rfl,hal⟩:=hrel
    by_cases hlt:k<s.size
    ·by_cases hsm:smB (s[k].toNat:Int)=true
     ·have hnx:∀ j (hj:j<s.size),1≤j→j<k+1→nmAt j (s[j].toNat:Int)=true:=by
       intro j hj h1 h2
       by_cases e:j=k
       ·subst e;simp [nmAt,hsm]
       ·exact hal j hj h1 (by omega)
      go_wp2_with (first | (go_at_call 92;refine (small_any _ _).mono ?_;rintro e w' ⟨rfl,rfl⟩) | (go_at_call 93;refine (digit_any _ _).mono ?_;rintro e w' ⟨rfl,rfl⟩))
      go_round
      case rel=>exact ⟨k+1,by omega,by omega,by go_num,hnx⟩
      case measure=>simp [intOf];omega
     ·have hsm' : smB (s[k].toNat:Int)=false:=by simpa using hsm
      by_cases hdg:dgB (s[k].toNat:Int)=true
      ·have hnx:∀ j (hj:j<s.size),1≤j→j<k+1→nmAt j (s[j].toNat:Int)=true:=by
        intro j hj h1 h2
        by_cases e:j=k
        ·subst e;simp [nmAt,hdg];omega
        ·exact hal j hj h1 (by omega)
       go_wp2_with (first | (go_at_call 92;refine (small_any _ _).mono ?_;rintro e w' ⟨rfl,rfl⟩) | (go_at_call 93;refine (digit_any _ _).mono ?_;rintro e w' ⟨rfl,rfl⟩))
       go_round
       case rel=>exact ⟨k+1,by omega,by omega,by go_num,hnx⟩
       case measure=>simp [intOf];omega
      ·have hdg' : dgB (s[k].toNat:Int)=false:=by simpa using hdg
       have hno:nameB s=false:=nameB_no fun h=>by have:=h.2.2 k hlt;simp [nmAt,hsm', hdg'] at this
       go_wp2_with (first | (go_at_call 92;refine (small_any _ _).mono ?_;rintro e w' ⟨rfl,rfl⟩) | (go_at_call 93;refine (digit_any _ _).mono ?_;rintro e w' ⟨rfl,rfl⟩))
       go_ret
       exact ⟨ret_bool hno.symm,rfl⟩
    ·have hyes:nameB s=true:=nameB_yes (name_of_loop hf1 hf2 (by simp [nmAt,h0]) fun j hj h1=>hal j hj h1 (by omega))
     go_wp2
     go_ret
     first | exact ⟨rfl,rfl⟩ | exact ⟨ret_bool hyes.symm,rfl⟩
  ·have h0' : smB (s[0].toNat:Int)=false:=by simpa using h0
   have hno:nameB s=false:=nameB_no fun h=>by have:=h.2.2 0 hf1;simp [nmAt,h0'] at this
   go_enter Tryz.func75,Tryz.ntmps75
   go_wp2_with (first | (go_at_call 91;refine (fits_any _ _).mono ?_;rintro e w' ⟨rfl,rfl⟩) | (go_at_call 92;refine (small_any _ _).mono ?_;rintro e w' ⟨rfl,rfl⟩))
   go_ret
   exact ⟨ret_bool hno.symm,rfl⟩
 ·have hf' : fitB s=false:=by simpa using hf
  have hno:nameB s=false:=nameB_no fun h=>hf (by simp [fitB,h.1,h.2.1])
  go_enter Tryz.func75,Tryz.ntmps75
  go_wp2_with (first | (go_at_call 91;refine (fits_any _ _).mono ?_;rintro e w' ⟨rfl,rfl⟩))
  go_ret
  exact ⟨ret_bool hno.symm,rfl⟩
set_option maxHeartbeats 1000000 in
theorem rIsName_any (s:ByteArray) (w:World) (hs:s.size≤maxLen):Calls Tryz.prog 52 #[.string s] w fun e w' => e=.returned (.bool (nameB s))∧w' = w:=by
 unfold maxLen at hs
 by_cases hf1:1≤s.size
 ·by_cases hf2:s.size≤12
  ·go_enter Tryz.func52,Tryz.ntmps52
   go_wp2
   go_loop [3,4,5] (fun i _ _=>∃ k:Nat,k≤s.size∧i=.int .i64 k∧∀ j (hj:j<s.size),j<k→nmAt j (s[j].toNat:Int)=true) (fun i _ _=>s.size-(intOf i).toNat)
   case atStart=>exact ⟨0,Nat.zero_le _,rfl,by intro j _ _;omega⟩
   case round=>
    obtain ⟨k,hk,rfl,hal⟩:=hrel
    by_cases hlt:k<s.size
    ·by_cases hk0:k=0
     ·subst hk0
      by_cases hsmB:smB (s[0].toNat:Int)=true
      ·
       by_cases hdgB:dgB (s[0].toNat:Int)=true
       ·
        have hnx:∀ j (hj:j<s.size),j<0+1→nmAt j (s[j].toNat:Int)=true:=by
         intro j hj h2
         by_cases e:j=0
         ·subst e;simp [nmAt,hsmB,hdgB] <;> omega
         ·exact hal j hj (by omega)
        go_wp2_with (first | (go_at_call 78;refine (rsmall_any _ _).mono ?_;rintro e w' ⟨rfl,rfl⟩) | (go_at_call 79;refine (rdigit_any _ _).mono ?_;rintro e w' ⟨rfl,rfl⟩))
        go_round
        case rel=>exact ⟨0+1,by omega,by go_num,hnx⟩
        case measure=>simp [intOf] <;> omega
       ·have hdgBn:dgB (s[0].toNat:Int)=false:=by simpa using hdgB
        have hnx:∀ j (hj:j<s.size),j<0+1→nmAt j (s[j].toNat:Int)=true:=by
         intro j hj h2
         by_cases e:j=0
         ·subst e;simp [nmAt,hsmB,hdgBn] <;> omega
         ·exact hal j hj (by omega)
        go_wp2_with (first | (go_at_call 78;refine (rsmall_any _ _).mono ?_;rintro e w' ⟨rfl,rfl⟩) | (go_at_call 79;refine (rdigit_any _ _).mono ?_;rintro e w' ⟨rfl,rfl⟩))
        go_round
        case rel=>exact ⟨0+1,by omega,by go_num,hnx⟩
        case measure=>simp [intOf] <;> omega
      ·have hsmBn:smB (s[0].toNat:Int)=false:=by simpa using hsmB
       by_cases hdgB:dgB (s[0].toNat:Int)=true
       ·
        have hno:nameB s=false:=nameB_no fun h=>by have:=h.2.2 0 hlt;simp [nmAt,hsmBn,hdgB] at this
        go_wp2_with (first | (go_at_call 78;refine (rsmall_any _ _).mono ?_;rintro e w' ⟨rfl,rfl⟩) | (go_at_call 79;refine (rdigit_any _ _).mono ?_;rintro e w' ⟨rfl,rfl⟩))
        go_ret
        first | exact ⟨rfl,rfl⟩ | exact ⟨ret_bool hno.symm,rfl⟩
       ·have hdgBn:dgB (s[0].toNat:Int)=false:=by simpa using hdgB
        have hno:nameB s=false:=nameB_no fun h=>by have:=h.2.2 0 hlt;simp [nmAt,hsmBn,hdgBn] at this
        go_wp2_with (first | (go_at_call 78;refine (rsmall_any _ _).mono ?_;rintro e w' ⟨rfl,rfl⟩) | (go_at_call 79;refine (rdigit_any _ _).mono ?_;rintro e w' ⟨rfl,rfl⟩))
        go_ret
        first | exact ⟨rfl,rfl⟩ | exact ⟨ret_bool hno.symm,rfl⟩
     ·have hk0' : ((k:Int) == 0)=false:=by simp;omega
      have hkp:0<k:=by omega
      by_cases hsmB:smB (s[k].toNat:Int)=true
      ·
       by_cases hdgB:dgB (s[k].toNat:Int)=true
       ·
        have hnx:∀ j (hj:j<s.size),j<k+1→nmAt j (s[j].toNat:Int)=true:=by
         intro j hj h2
         by_cases e:j=k
         ·subst e;simp [nmAt,hsmB,hdgB] <;> omega
         ·exact hal j hj (by omega)
        go_wp2_with (first | (go_at_call 78;refine (rsmall_any _ _).mono ?_;rintro e w' ⟨rfl,rfl⟩) | (go_at_call 79;refine (rdigit_any _ _).mono ?_;rintro e w' ⟨rfl,rfl⟩))
        go_round
        case rel=>exact ⟨k+1,by omega,by go_num,hnx⟩
        case measure=>simp [intOf] <;> omega
       ·have hdgBn:dgB (s[k].toNat:Int)=false:=by simpa using hdgB
        have hnx:∀ j (hj:j<s.size),j<k+1→nmAt j (s[j].toNat:Int)=true:=by
         intro j hj h2
         by_cases e:j=k
         ·subst e;simp [nmAt,hsmB,hdgBn] <;> omega
         ·exact hal j hj (by omega)
        go_wp2_with (first | (go_at_call 78;refine (rsmall_any _ _).mono ?_;rintro e w' ⟨rfl,rfl⟩) | (go_at_call 79;refine (rdigit_any _ _).mono ?_;rintro e w' ⟨rfl,rfl⟩))
        go_round
        case rel=>exact ⟨k+1,by omega,by go_num,hnx⟩
        case measure=>simp [intOf] <;> omega
      ·have hsmBn:smB (s[k].toNat:Int)=false:=by simpa using hsmB
       by_cases hdgB:dgB (s[k].toNat:Int)=true
       ·
        have hnx:∀ j (hj:j<s.size),j<k+1→nmAt j (s[j].toNat:Int)=true:=by
         intro j hj h2
         by_cases e:j=k
         ·subst e;simp [nmAt,hsmBn,hdgB] <;> omega
         ·exact hal j hj (by omega)
        go_wp2_with (first | (go_at_call 78;refine (rsmall_any _ _).mono ?_;rintro e w' ⟨rfl,rfl⟩) | (go_at_call 79;refine (rdigit_any _ _).mono ?_;rintro e w' ⟨rfl,rfl⟩))
        go_round
        case rel=>exact ⟨k+1,by omega,by go_num,hnx⟩
        case measure=>simp [intOf] <;> omega
       ·have hdgBn:dgB (s[k].toNat:Int)=false:=by simpa using hdgB
        have hno:nameB s=false:=nameB_no fun h=>by have:=h.2.2 k hlt;simp [nmAt,hsmBn,hdgBn] at this
        go_wp2_with (first | (go_at_call 78;refine (rsmall_any _ _).mono ?_;rintro e w' ⟨rfl,rfl⟩) | (go_at_call 79;refine (rdigit_any _ _).mono ?_;rintro e w' ⟨rfl,rfl⟩))
        go_ret
        first | exact ⟨rfl,rfl⟩ | exact ⟨ret_bool hno.symm,rfl⟩
    ·have hyes:nameB s=true:=nameB_yes ⟨hf1,hf2,fun j hj=>hal j hj (by omega)⟩
     go_wp2
     go_ret
     first | exact ⟨rfl,rfl⟩ | exact ⟨ret_bool hyes.symm,rfl⟩
  ·have hno:nameB s=false:=nameB_no fun h=>hf2 h.2.1
   go_enter Tryz.func52,Tryz.ntmps52
   go_wp2
   go_ret
   first | exact ⟨rfl,rfl⟩ | exact ⟨ret_bool hno.symm,rfl⟩
 ·have hno:nameB s=false:=nameB_no fun h=>hf1 h.1
  go_enter Tryz.func52,Tryz.ntmps52
  go_wp2
  go_ret
  first | exact ⟨rfl,rfl⟩ | exact ⟨ret_bool hno.symm,rfl⟩
set_option maxHeartbeats 400000 in
theorem new_any (w:World):Calls Tryz.prog 24 #[] w fun e w' => e=.returned (.pointer (some ⟨w.heap.size,0,none⟩))∧w' = w.alloc (.cells #[.slice none 0 0,.map none] 125):=by
 go_enter Tryz.func24,Tryz.ntmps24
 go_wp2
 go_ret
 exact ⟨rfl,rfl⟩
theorem sig_new (w:World):SigAt (w.alloc (.cells #[.slice none 0 0,.map none] 125)) w.heap.size [] (.slice none 0 0) none:=
 ⟨heap_alloc_new w _,World.ownsRow_nil _ _ _ _,rfl,by simp [Value.ownBlock],by simp,by simp⟩
set_option maxHeartbeats 400000 in
theorem has_any {w:World} {b:Nat} {L:List Sym} {sv:Value} {mr:Option Nat} (h:SigAt w b L sv mr) (s:ByteArray) (hs:s.size≤maxLen) :
  Calls Tryz.prog 76 #[.pointer (some ⟨b,0,none⟩),.string s] w fun e w' => e=.returned (.bool (findI L s).isSome)∧w' = w:=by
 have c1:w.cell? ⟨b,1,none⟩=some (.map mr):=cellAt h.blk 1
 have hl:=h.map.look hs
 go_enter Tryz.func76,Tryz.ntmps76
 go_wp2
 go_ret
 exact ⟨rfl,rfl⟩
set_option maxHeartbeats 400000 in
theorem len_any {w:World} {b:Nat} {L:List Sym} {sv:Value} {mr:Option Nat} (h:SigAt w b L sv mr) :
  Calls Tryz.prog 77 #[.pointer (some ⟨b,0,none⟩)] w fun e w' => e=.returned (.int .i64 (L.length:Int))∧w' = w:=by
 obtain ⟨ao,cap,rfl⟩:=h.sv
 have c0:w.cell? ⟨b,0,none⟩=some (.slice ao L.length cap):=cellAt h.blk 0
 go_enter Tryz.func77,Tryz.ntmps77
 go_wp2
 go_ret
 exact ⟨rfl,rfl⟩
set_option maxHeartbeats 1000000 in
theorem refusal_any {w:World} {b:Nat} {L:List Sym} {sv:Value} {mr:Option Nat} (h:SigAt w b L sv mr) (x:Sym) (hs:x.name.size≤maxLen) :
  Calls Tryz.prog 51 #[.pointer (some ⟨b,0,none⟩),.agg #[.string x.name,.int .i64 x.ar,.bool x.df]] w fun e w' => e=.returned (.int .i64 (addErr L x))∧w' = w.alloc (.cells #[.string x.name,.int .i64 x.ar,.bool x.df] 67):=by
 have h1:SigAt (w.alloc (.cells #[.string x.name,.int .i64 x.ar,.bool x.df] 67)) b L sv mr:=h.kept (Kept.alloc (Kept.refl (fun _=>False) w) _) (fun _ _ f=>f)
 have hlen:=h.len
 cases hn:nameB x.name with
 | false=>
  have he:addErr L x=10:=by simp [addErr,hn]
  go_enter Tryz.func51,Tryz.ntmps51
  go_wp2_with (first | (go_at_call 75;refine (isName_any _ _ hs).mono ?_;rintro e w' ⟨rfl,rfl⟩))
  go_ret
  exact ⟨ret_int he.symm,rfl⟩
 | true=>
  by_cases ha:x.ar<0
  ·have he:addErr L x=11:=by simp [addErr,hn,ha]
   go_enter Tryz.func51,Tryz.ntmps51
   go_wp2_with (first | (go_at_call 75;refine (isName_any _ _ hs).mono ?_;rintro e w' ⟨rfl,rfl⟩))
   go_ret
   exact ⟨ret_int he.symm,rfl⟩
  ·by_cases hb:6<x.ar
   ·have he:addErr L x=11:=by simp [addErr,hn,hb]
    go_enter Tryz.func51,Tryz.ntmps51
    go_wp2_with (first | (go_at_call 75;refine (isName_any _ _ hs).mono ?_;rintro e w' ⟨rfl,rfl⟩))
    go_ret
    exact ⟨ret_int he.symm,rfl⟩
   ·cases hf:(findI L x.name).isSome with
    | true=>
     have he:addErr L x=12:=by simp [addErr,hn,ha,hb,hf]
     go_enter Tryz.func51,Tryz.ntmps51
     go_wp2_with (first | (go_at_call 75;refine (isName_any _ _ hs).mono ?_;rintro e w' ⟨rfl,rfl⟩) | (go_at_call 76;refine (has_any h1 _ hs).mono ?_;rintro e w' ⟨rfl,rfl⟩))
     go_ret
     exact ⟨ret_int he.symm,rfl⟩
    | false=>
     by_cases hm:64≤L.length
     ·have he:addErr L x=13:=by simp [addErr,hn,ha,hb,hf,hm]
      go_enter Tryz.func51,Tryz.ntmps51
      go_wp2_with (first | (go_at_call 75;refine (isName_any _ _ hs).mono ?_;rintro e w' ⟨rfl,rfl⟩) | (go_at_call 76;refine (has_any h1 _ hs).mono ?_;rintro e w' ⟨rfl,rfl⟩) | (go_at_call 77;refine (len_any h1).mono ?_;rintro e w' ⟨rfl,rfl⟩))
      go_ret
      exact ⟨ret_int he.symm,rfl⟩
     ·have he:addErr L x=0:=by simp [addErr,hn,ha,hb,hf,hm]
      go_enter Tryz.func51,Tryz.ntmps51
      go_wp2_with (first | (go_at_call 75;refine (isName_any _ _ hs).mono ?_;rintro e w' ⟨rfl,rfl⟩) | (go_at_call 76;refine (has_any h1 _ hs).mono ?_;rintro e w' ⟨rfl,rfl⟩) | (go_at_call 77;refine (len_any h1).mono ?_;rintro e w' ⟨rfl,rfl⟩))
      go_ret
      exact ⟨ret_int he.symm,rfl⟩
def addL (L:List Sym) (x:Sym):List Sym:=if addErr L x=0 then L ++ [x] else L
def addN (L:List Sym) (x:Sym):Int:=if addErr L x=0 then (L.length:Int) else 0
def Moved (w:World) (b:Nat) (sv:Value) (mr:Option Nat) (L' : List Sym) (w' : World):Prop:=
 ∃ sv' mr', SigAt w' b L' sv' mr' ∧ Kept (Foot b sv mr) w w' ∧ ∀ k,Foot b sv' mr' k→Foot b sv mr k∨w.heap.size≤k
abbrev boxOf (x:Sym):Obj:=.cells #[.string x.name,.int .i64 x.ar,.bool x.df] 67 (0,0)
theorem map_empty (w:World):MapIs (w.alloc (.map #[] 0)) (some w.heap.size) []:=
 ⟨0,_,World.ownsMap_made w Tryz.prog _ _,Nat.le_refl _,fun s=>⟨rfl,fun i h=>by simp [findI] at h⟩⟩
theorem eql_map (mr:Option Nat) (w:World):(binOp .eql 123 (.map mr) (.map none)).run Tryz.prog w=.ok (.bool mr.isNone) w:=by
 cases mr <;> kernel_rfl
theorem sig_mapped {W:World} {b:Nat} {L:List Sym} {sv:Value} (h:SigAt W b L sv none):SigAt ((W.alloc (.map #[] 0)).setCell ⟨b,1,none⟩ (.map (some W.heap.size))) b L sv (some W.heap.size):=by
 obtain rfl:L=[]:=h.map
 have hb:=lt_of_at h.blk
 have h3:SigAt (W.alloc (.map #[] 0)) b [] sv none:=h.kept (Kept.alloc (Kept.refl (fun _=>False) _) _) (fun _ _ f=>f)
 have hk:Kept (fun k=>k=b) (W.alloc (.map #[] 0)) ((W.alloc (.map #[] 0)).setCell ⟨b,1,none⟩ (.map (some W.heap.size))):=Kept.setCell (S:=fun k=>k=b) (p:=⟨b,1,none⟩) (Kept.refl _ _) (fun _=>rfl) _
 exact ⟨by rw [setAt h3.blk];rfl,hk.row h3.row (fun k e e' => h.apart (by rw [e,e'])),(map_empty W).kept hk (fun k e e' => by simp at e;omega),h.apart,h.len,h.names⟩
theorem add_zero {L:List Sym} {x:Sym} (h:addErr L x=0):findI L x.name=none∧nameB x.name=true∧L.length<64:=by
 unfold addErr at h
 by_cases h1:nameB x.name=false
 ·simp [h1] at h
 ·rw [if_neg h1] at h
  by_cases h2:x.ar<0∨6<x.ar
  ·simp [h2] at h
  ·rw [if_neg h2] at h
   by_cases h3:(findI L x.name).isSome
   ·simp [h3] at h
   ·rw [if_neg h3] at h
    by_cases h4:64≤L.length
    ·simp [h4] at h
    ·exact ⟨by simpa using h3,by simpa using h1,by omega⟩
theorem add_ar {L:List Sym} {x:Sym} (h:addErr L x=0):0≤x.ar∧x.ar≤6:=by
 unfold addErr at h
 by_cases h1:nameB x.name=false
 ·simp [h1] at h
 ·rw [if_neg h1] at h
  by_cases h2:x.ar<0∨6<x.ar
  ·simp [h2] at h
  ·omega
theorem blk_grown {w w1:World} {o ob:Obj} {b:Nat} {v:Value} (hg:(w.alloc o).drew.grownBy w1 v.ownBlock) (hb:w.heap[b]? = some ob) (hne:v.ownBlock≠some b):w1.heap[b]? = some ob:=by
 have hlt:=lt_of_at hb
 rw [hg.block b (by simp;omega) (Ne.symm hne)]
 exact (heap_alloc_old w o hlt).trans hb
def AddMid (w:World) (b:Nat) (L:List Sym) (sv:Value) (mr:Option Nat) (bm:Nat) (x:Sym) (w' : World):Prop:=
 ∃ sv', w'.heap[b]? = some (.cells #[sv', .map (some bm)] 125 (0,0))∧w'.ownsRow 0 67 3 sv' (L.length+1) (symCells (L ++ [x]))∧MapIs w' (some bm) L∧w'.heap[w.heap.size]? = some (boxOf x)∧Kept (Foot b sv mr) w w' ∧ ∀ k,sv'.ownBlock=some k→k≠b∧(sv.ownBlock=some k∨w.heap.size≤k)
theorem add_mid {w wc w1:World} {b:Nat} {L:List Sym} {sv:Value} {mr:Option Nat} {x:Sym} {bm gg cap:Nat} (h:SigAt w b L sv mr) (hsg:SigAt wc b L sv (some bm)) (hbx:wc.heap[w.heap.size]? = some (boxOf x)) (hkp:Kept (Foot b sv mr) w wc)
  (hown1:w1.ownsRow 0 67 3 (.slice (some ⟨gg,0,none⟩) (L.length+1) cap) (L.length+1) (symCells L ++ [.string x.name,.int .i64 x.ar,.bool x.df]))
  (hgrow:(wc.alloc (boxOf x)).drew.grownBy w1 sv.ownBlock) (hat:sv.ownBlock=some gg∨gg=wc.heap.size+1) (hb1:w1.heap[b]? = some (.cells #[sv,.map (some bm)] 125 (0,0))) :
  AddMid w b L sv mr bm x (w1.setCell ⟨b,0,none⟩ (.slice (some ⟨gg,0,none⟩) (L.length+1) cap)):=by
 have lb:=lt_of_at h.blk
 have lbc:=lt_of_at hsg.blk
 have lsv:=h.row.lt
 have hgb:gg≠b:=by
  rcases hat with e | e
  ·intro e'; exact hsg.apart (by rw [e,e'])
  ·omega
 obtain ⟨n,D,hm,hn,hall⟩:=hsg.map
 obtain ⟨es,clock,hbm,hrest⟩:=hm
 have hbmb:bm≠b:=fun e=>by subst e;rw [hsg.blk] at hbm;simp at hbm
 have hbms:sv.ownBlock≠some bm:=fun e=>by
  rcases hsg.row.2 with ⟨rfl,_⟩ | ⟨g,c,cur,rfl,_,hg,_⟩
  ·simp [Value.ownBlock] at e
  ·simp [Value.ownBlock] at e;subst e;rw [hg] at hbm;simp at hbm
 have hk1:Kept (fun k=>sv.ownBlock=some k) wc w1:=Kept.grown (Kept.drew (Kept.alloc (Kept.refl _ wc) _)) hgrow (fun _ e _=>e)
 have hk2:Kept (fun k=>sv.ownBlock=some k∨k=b) wc (w1.setCell ⟨b,0,none⟩ (.slice (some ⟨gg,0,none⟩) (L.length+1) cap)):=
  Kept.setCell (hk1.mono (fun _ _ e=>.inl e)) (fun _=>.inr rfl) _
 have hk3:Kept (fun k=>k=b) w1 (w1.setCell ⟨b,0,none⟩ (.slice (some ⟨gg,0,none⟩) (L.length+1) cap)):=Kept.setCell (S:=fun k=>k=b) (p:=⟨b,0,none⟩) (Kept.refl _ _) (fun _=>rfl) _
 refine ⟨_,by rw [setAt hb1];rfl,?_,?_,?_,?_,?_⟩
 ·rw [symCells_snoc];exact hk3.row hown1 (fun k e e' => by simp [Value.ownBlock] at e;omega)
 ·exact ⟨n,D,hk2.map ⟨es,clock,hbm,hrest⟩ (fun e=>e.elim hbms hbmb),hn,hall⟩
 ·exact hk2.at hbx (fun e=>by
   rcases e with e | e
   ·have:=lsv _ e;omega
   ·omega)
 ·exact hkp.trans hk2 (fun i _ e=>e.elim (fun e=>.inr (.inl e)) .inl)
 ·intro k e
  simp [Value.ownBlock] at e
  subst e
  refine ⟨hgb,hat.imp id (fun e=>?_)⟩
  have:=hkp.size
  omega
theorem map_put {w w' : World} {bm:Nat} {L:List Sym} {x:Sym} {n:Nat} {D:DataW Unit} (hf:findI L x.name=none) (hm:w.ownsMap Tryz.prog 9 (plainElem Tryz.prog 3) bm n D) (hn:n≤L.length)
  (hall:∀ s:ByteArray,Maps.has D (.string s.data.toList)=(findI L s).isSome∧∀ i,findI L s=some i→D.atKey (.string s.data.toList) (.lit (.int .i64 0))=.lit (.int .i64 (i:Int)))
  (hm' : w'.ownsMap Tryz.prog 9 (plainElem Tryz.prog 3) bm (n+1) (D.put (.string x.name.data.toList) (.lit (.int .i64 (L.length:Int))))):MapIs w' (some bm) (L ++ [x]):=by
 refine ⟨n+1,_,hm', by simp;omega,fun s=>?_⟩
 have hk:WideAt.IsKeyLit (.string x.name.data.toList):=trivial
 rw [findI_snoc]
 by_cases hs:x.name=s
 ·subst hs
  rw [hf,Maps.has_put_same hm.isMap hk,Maps.atKey_put_same hm.isMap hk]
  simp
 ·have hne:Lit.string s.data.toList≠Lit.string x.name.data.toList:=by
   intro e
   apply hs
   have e1:s.data.toList=x.name.data.toList:=by simpa using e
   have e2:s.data=x.name.data:=Array.toList_inj.1 e1
   cases s;cases hx:x.name;simp_all
  rw [Maps.has_put_other hne,Maps.atKey_put_other hne,(hall s).1]
  cases hfs:findI L s with
  | none=>simp [hs]
  | some i=>simpa using (hall s).2 i hfs
theorem row_not_map {w:World} {e:TypeId} {v:Value} {n:Nat} {xs:List Value} {bm:Nat} {es:Array MapEntry} {clock:Nat} (hr:w.ownsRow 0 e 3 v n xs) (hb:w.heap[bm]? = some (.map es clock)):v.ownBlock≠some bm:=fun e=>by
 rcases hr.2 with ⟨rfl,_⟩ | ⟨g,c,cur,rfl,_,hg,_⟩
 ·simp [Value.ownBlock] at e
 ·simp [Value.ownBlock] at e;subst e;rw [hg] at hb;simp at hb
theorem add_end {w wc w2:World} {b:Nat} {L:List Sym} {sv sv' : Value} {mr:Option Nat} {x:Sym} {bm n:Nat} {D:DataW Unit} (h:SigAt w b L sv mr) (hz:addErr L x=0) (hb:wc.heap[b]? = some (.cells #[sv', .map (some bm)] 125 (0,0)))
  (hrow:wc.ownsRow 0 67 3 sv' (L.length+1) (symCells (L ++ [x]))) (hkp:Kept (Foot b sv mr) w wc) (hft:∀ k,sv'.ownBlock=some k→k≠b∧(sv.ownBlock=some k∨w.heap.size≤k))
  (hm:wc.ownsMap Tryz.prog 9 (plainElem Tryz.prog 3) bm n D) (hn:n≤L.length)
  (hall:∀ s:ByteArray,Maps.has D (.string s.data.toList)=(findI L s).isSome∧∀ i,findI L s=some i→D.atKey (.string s.data.toList) (.lit (.int .i64 0))=.lit (.int .i64 (i:Int)))
  (hm2:w2.ownsMap Tryz.prog 9 (plainElem Tryz.prog 3) bm (n+1) (D.put (.string x.name.data.toList) (.lit (.int .i64 (L.length:Int)))))
  (hturn:wc.drew.mapTurned w2 bm) (hbm:mr=some bm∨w.heap.size≤bm):Moved w b sv mr (L ++ [x]) w2:=by
 obtain ⟨hf,hnm,hlen⟩:=add_zero hz
 have hk:Kept (fun k=>k=bm) wc w2:=Kept.grown (Kept.drew (Kept.refl _ wc)) hturn.grown (fun k e _=>by simpa using e.symm)
 have hbmb:b≠bm:=by
  obtain ⟨es,clock,hb', _⟩:=hm
  intro e;subst e;rw [hb] at hb'; simp at hb'
 have hsb:sv'.ownBlock≠some bm:=by
  obtain ⟨es,clock,hb', _⟩:=hm
  exact row_not_map hrow hb'
 refine ⟨sv', some bm,⟨hk.at hb hbmb,?_,map_put hf hm hn hall hm2,fun e=>(hft b e).1 rfl,by simp;omega,?_⟩,?_,?_⟩
 ·have:=hk.row hrow (fun k e e' => hsb (by rw [e,e']))
  simpa using this
 ·intro y hy
  rcases List.mem_append.1 hy with hy | hy
  ·exact h.names y hy
  ·simp at hy;subst hy;exact hnm
 ·refine hkp.trans hk (fun i hi e=>?_)
  subst e
  rcases hbm with e | e
  ·exact .inr (.inr e)
  ·omega
 ·intro k hk'
  rcases hk' with e | e | e
  ·exact .inl (.inl e)
  ·exact (hft k e).2.imp (fun e=>.inr (.inl e)) id
  ·simp at e;subst e;exact hbm.imp (fun e=>.inr (.inr e)) id
set_option maxHeartbeats 1000000 in
theorem add_ok {w:World} {b:Nat} {L:List Sym} {sv:Value} {mr:Option Nat} (h:SigAt w b L sv mr) (x:Sym) (hs:x.name.size≤maxLen) (hz:addErr L x=0) :
  Calls Tryz.prog 25 #[.pointer (some ⟨b,0,none⟩),.agg #[.string x.name,.int .i64 x.ar,.bool x.df]] w fun e w' => e=.returned (.tuple #[.int .i64 (L.length:Int),.int .i64 0])∧Moved w b sv mr (L ++ [x]) w' := by
 obtain ⟨ao,cap,rfl⟩:=h.sv
 have h1:SigAt (w.alloc (boxOf x)) b L (.slice ao L.length cap) mr:=h.kept (Kept.alloc (Kept.refl (fun _=>False) w) _) (fun _ _ f=>f)
 have h2:SigAt ((w.alloc (boxOf x)).alloc (boxOf x)) b L (.slice ao L.length cap) mr:=h1.kept (Kept.alloc (Kept.refl (fun _=>False) _) _) (fun _ _ f=>f)
 have c1:((w.alloc (boxOf x)).alloc (boxOf x)).cell? ⟨b,1,none⟩=some (.map mr):=cellAt h2.blk 1
 have f1:((w.alloc (boxOf x)).alloc (boxOf x)).frozen? ⟨b,1,none⟩=false:=frozenAt h2.blk 1
 have h2box:((w.alloc (boxOf x)).alloc (boxOf x)).heap[w.heap.size]? = some (boxOf x):=by rw [heap_alloc_old _ _ (by simp)];exact heap_alloc_new w _
 have h3:SigAt (((w.alloc (boxOf x)).alloc (boxOf x)).alloc (.map #[] 0)) b L (.slice ao L.length cap) mr:=h2.kept (Kept.alloc (Kept.refl (fun _=>False) _) _) (fun _ _ f=>f)
 have c3:(((w.alloc (boxOf x)).alloc (boxOf x)).alloc (.map #[] 0)).cell? ⟨b,1,none⟩=some (.map mr):=cellAt h3.blk 1
 have f3:(((w.alloc (boxOf x)).alloc (boxOf x)).alloc (.map #[] 0)).frozen? ⟨b,1,none⟩=false:=frozenAt h3.blk 1
 have hmm:=@run_makeMap Tryz.prog
 have hem:=eql_map
 go_enter Tryz.func25,Tryz.ntmps25
 go_upto_if 18 with (first | (go_at_call 51;refine (refusal_any h1 x hs).mono ?_;rintro e w' ⟨rfl,rfl⟩))
 go_cut [] (fun w' => ∃ bm,SigAt w' b L (.slice ao L.length cap) (some bm)∧w'.heap[w.heap.size]? = some (boxOf x)∧Kept (Foot b (.slice ao L.length cap) mr) w w' ∧ (mr=some bm∨w.heap.size≤bm))
 case first=>
  cases mr with
  | some bm=>
   go_wp2
   go_meet
   case rel=>exact ⟨bm,h2,h2box,Kept.alloc (Kept.alloc (Kept.refl _ w) _) _,.inl rfl⟩
  | none=>
   go_wp2
   go_meet
   case rel=>
    refine ⟨w.heap.size+1+1,?_,?_,?_,.inr (by omega)⟩
    ·simpa using sig_mapped h2
    ·rw [Below.heap_setCell _ _ _ _ (by have:=lt_of_at h.blk;simp;omega),heap_alloc_old _ _ (by simp;omega)];exact h2box
    ·exact Kept.setCell (Kept.alloc (Kept.alloc (Kept.alloc (Kept.refl _ w) _) _) _) (fun _=>.inl rfl) _
 case rest=>
  obtain ⟨bm,hsg,hbx,hkp,hbm⟩:=hcut
  have d0:wc.cell? ⟨b,0,none⟩=some (.slice ao L.length cap):=cellAt hsg.blk 0
  go_upto_region 7 with fail
  go_cut [] (fun w' => AddMid w b L (.slice ao L.length cap) mr bm x w')
  case first=>
   obtain ⟨i0,hi0,hz0,hz1,hz2⟩:=info_parts info_Symbol
   have hn1:L.length+1≤maxLen:=by have:=h.len;unfold maxLen;omega
   have hn2:(L.length+1) * 32≤140737488355328:=by have:=h.len;omega
   have g0:wc.frozen? ⟨b,0,none⟩=false:=frozenAt hsg.blk 0
   have x0:wc.cell? ⟨w.heap.size,0,none⟩=some (.string x.name):=cellAt hbx 0
   have x1:wc.cell? ⟨w.heap.size,1,none⟩=some (.int .i64 x.ar):=cellAt hbx 1
   have x2:wc.cell? ⟨w.heap.size,2,none⟩=some (.bool x.df):=cellAt hbx 2
   have d0' : (wc.alloc (boxOf x)).cell? ⟨b,0,none⟩=some (.slice ao L.length cap):=cellAt ((heap_alloc_old wc _ (lt_of_at hsg.blk)).trans hsg.blk) 0
   go_region_law ((refine step_append_lies _ (by rfl) _ _ _ (by rfl) 0 67 i0 _ 3 32 Tryz.underlying22 hi0 hz0 hz1 hz2 rfl (by omega) (.slice ao L.length cap) L.length (symCells L) (by rfl) ((hsg.row.alloc _).drew) ⟨wc.heap.size,0,none⟩ 1 1 [.string x.name,.int .i64 x.ar,.bool x.df] (by rfl) (by rfl) (World.news_of_block (cs:=#[.string x.name,.int .i64 x.ar,.bool x.df]) (t:=67) (fr:=(0,0)) (heap_alloc_new wc _)) (by simp [Value.oneCell']) (by omega) hn1 hn2 (by omega) (wc.heap.size+1) (by simp) ?_;intro gg cap w1 hown1 hgrow hat hlt;have hb1:=blk_grown hgrow hsg.blk hsg.apart;have k0:=cellAt hb1 0;have k1:=frozenAt hb1 0;simp only [List.getElem?_toArray,List.getElem?_cons_zero] at k0))
   all_goals
    go_wp2
    go_meet
    case rel=>exact add_mid h hsg hbx hkp hown1 hgrow hat hb1
  case rest=>
   obtain ⟨sv', hb,hrow,hmap,hbx,hkp,hft⟩:=hcut
   obtain ⟨n,D,hm,hn,hall⟩:=hmap
   have hsz:findI L x.name=none∧nameB x.name=true∧L.length<64:=add_zero hz
   obtain ⟨w2,hrun,hm2,hturn⟩:=World.ownsMap.store (w:=wc.drew) hm law_string Tryz.underlying123 (by have:=hsz.2.2;unfold maxLen;omega) (key_str hs) (plainElem_int Tryz.underlying3 (a:=(L.length:Int)) (WalkArith.wf_i64 (by have:=hsz.2.2;omega)))
   have y0:wc.cell? ⟨w.heap.size,0,none⟩=some (.string x.name):=cellAt hbx 0
   have y1:wc.cell? ⟨b,1,none⟩=some (.map (some bm)):=cellAt hb 1
   go_wp2_with fail
   go_region
   all_goals
    go_wp2
    go_ret2
    exact ⟨rfl,add_end h hz hb hrow hkp hft hm hn hall hm2 hturn hbm⟩
set_option maxHeartbeats 1000000 in
theorem add_no {w:World} {b:Nat} {L:List Sym} {sv:Value} {mr:Option Nat} (h:SigAt w b L sv mr) (x:Sym) (hs:x.name.size≤maxLen) (hz:addErr L x≠0) :
  Calls Tryz.prog 25 #[.pointer (some ⟨b,0,none⟩),.agg #[.string x.name,.int .i64 x.ar,.bool x.df]] w fun e w' => e=.returned (.tuple #[.int .i64 0,.int .i64 (addErr L x)])∧Moved w b sv mr L w' := by
 have h1:SigAt (w.alloc (boxOf x)) b L sv mr:=h.kept (Kept.alloc (Kept.refl (fun _=>False) w) _) (fun _ _ f=>f)
 have h2:SigAt ((w.alloc (boxOf x)).alloc (boxOf x)) b L sv mr:=h1.kept (Kept.alloc (Kept.refl (fun _=>False) _) _) (fun _ _ f=>f)
 have hz' : (addErr L x != 0)=true:=by simpa using hz
 go_enter Tryz.func25,Tryz.ntmps25
 go_wp2_with (first | (go_at_call 51;refine (refusal_any h1 x hs).mono ?_;rintro e w' ⟨rfl,rfl⟩))
 go_ret2
 exact ⟨rfl,sv,mr,h2,Kept.alloc (Kept.alloc (Kept.refl _ w) _) _,fun k hk=>.inl hk⟩
theorem add_any {w:World} {b:Nat} {L:List Sym} {sv:Value} {mr:Option Nat} (h:SigAt w b L sv mr) (x:Sym) (hs:x.name.size≤maxLen) :
  Calls Tryz.prog 25 #[.pointer (some ⟨b,0,none⟩),.agg #[.string x.name,.int .i64 x.ar,.bool x.df]] w fun e w' => e=.returned (.tuple #[.int .i64 (addN L x),.int .i64 (addErr L x)])∧Moved w b sv mr (addL L x) w' := by
 by_cases hz:addErr L x=0
 ·rw [addN,addL,if_pos hz,if_pos hz,hz];exact add_ok h x hs hz
 ·rw [addN,addL,if_neg hz,if_neg hz];exact add_no h x hs hz
def Own (n:Nat) (w:World) (b:Nat) (L:List Sym):Prop:=∃ sv mr,SigAt w b L sv mr∧∀ k,Foot b sv mr k→n≤k
abbrev From (n k:Nat):Prop:=n≤k
theorem Own.new (w : World) {n : Nat} (hn : n ≤ w.heap.size) : Own n (w.alloc (.cells #[.slice none 0 0, .map none] 125)) w.heap.size [] :=
  ⟨_, _, sig_new w, fun k hk => by rcases hk with e | e | e; · omega
                                   · simp [Value.ownBlock] at e
                                   · simp at e⟩
theorem Own.kept {n b:Nat} {w w' : World} {L:List Sym} {S:Nat→Prop} (h:Own n w b L) (hk:Kept S w w') (hs:∀ k,n≤k→¬ S k):Own n w' b L:=by
 obtain ⟨sv,mr,h1,h2⟩:=h
 exact ⟨sv,mr,h1.kept hk (fun k e=>hs k (h2 k e)),h2⟩
theorem Own.add {n b:Nat} {w:World} {L:List Sym} (h:Own n w b L) (hn:n≤w.heap.size) (x:Sym) (hs:x.name.size≤maxLen) :
  Calls Tryz.prog 25 #[.pointer (some ⟨b,0,none⟩),.agg #[.string x.name,.int .i64 x.ar,.bool x.df]] w fun e w' => e=.returned (.tuple #[.int .i64 (addN L x),.int .i64 (addErr L x)])∧Own n w' b (addL L x)∧Kept (From n) w w' := by
 obtain ⟨sv,mr,h1,h2⟩:=h
 refine (add_any h1 x hs).mono ?_
 rintro e w' ⟨rfl,sv', mr', h3,h4,h5⟩
 exact ⟨rfl,⟨sv', mr', h3,fun k hk=>(h5 k hk).elim (h2 k) (fun e=>by omega)⟩,h4.mono (fun k _ e=>h2 k e)⟩
theorem Own.len {n b:Nat} {w:World} {L:List Sym} (h:Own n w b L) :
  Calls Tryz.prog 77 #[.pointer (some ⟨b,0,none⟩)] w fun e w' => e=.returned (.int .i64 (L.length:Int))∧w' = w:=by
 obtain ⟨sv,mr,h1,h2⟩:=h
 exact len_any h1
theorem Kept.from {n:Nat} {w0 w w' : World} (h:Kept (From n) w0 w) (h' : Kept (From n) w w'):Kept (From n) w0 w' := h.trans h' (fun _ _ e=>e)
end Go.Proofs.YtblgblgchkonhaaGreat
