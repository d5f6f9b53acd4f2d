import Derived.WalkKit
import Derived.WalkSpells
import Derived.Maps.OwnSet
import Derived.Deep.AppendLies
import Derived.Deep.QuietTactic
import Derived.BigQuiet
import Derived.Test.YtjahpnbijefncaaGreatProg
import Derived.KernelRfl
import Derived.Below
import Derived.WideShapes
namespace Go.Proofs.YtjahpnbijefncaaGreat
open Go.RowKit
structure Kept (S:Nat→Prop) (w w' : World):Prop where
 os:w'.os=w.os
 tape:w'.tape=w.tape
 output:w'.output=w.output
 size:w.heap.size≤w'.heap.size
 block:∀ k,k<w.heap.size→¬ S k→w'.heap[k]? = w.heap[k]?
theorem Kept.refl (S:Nat→Prop) (w:World):Kept S w w:=⟨rfl,rfl,rfl,Nat.le_refl _,fun _ _ _=>rfl⟩
theorem Kept.trans {S S' : Nat→Prop} {a b c:World} (h:Kept S a b) (k:Kept S' b c) (hs:∀ i,i<a.heap.size→S' i→S i):Kept S a c:=
 ⟨k.os.trans h.os,k.tape.trans h.tape,k.output.trans h.output,Nat.le_trans h.size k.size,fun i hi hn=>(k.block i (Nat.lt_of_lt_of_le hi h.size) (fun x=>hn (hs i hi x))).trans (h.block i hi hn)⟩
theorem Kept.mono {S S' : Nat→Prop} {w w' : World} (h:Kept S w w') (hs:∀ i,i<w.heap.size→S i→S' i):Kept S' w w' :=
 ⟨h.os,h.tape,h.output,h.size,fun k hk hn=>h.block k hk (fun x=>hn (hs k hk x))⟩
theorem Kept.drew {S:Nat→Prop} {a w:World} (h:Kept S a w):Kept S a w.drew:=⟨h.os,h.tape,h.output,h.size,h.block⟩
theorem Kept.drewN {S:Nat→Prop} {a w:World} (h:Kept S a w) (n:Nat):Kept S a (w.drewN n):=⟨h.os,h.tape,h.output,h.size,h.block⟩
theorem Kept.alloc {S:Nat→Prop} {a w:World} (h:Kept S a w) (o:Obj):Kept S a (w.alloc o):=
 h.trans (S' := fun _=>False) ⟨rfl,rfl,rfl,by simp,fun k hk _=>Below.heap_alloc _ _ _ hk⟩ (fun _ _ x=>x.elim)
theorem Kept.setCell {S:Nat→Prop} {a w:World} (h:Kept S a w) {p:Addr} (hp:p.block<a.heap.size→S p.block) (u:Value):Kept S a (w.setCell p u):=
 h.trans (S' := fun k=>k=p.block) ⟨rfl,rfl,rfl,by simp [World.setCell],fun k _ hn=>Below.heap_setCell _ _ _ _ hn⟩ (fun i hi e=>by subst e;exact hp hi)
theorem Kept.grown {S:Nat→Prop} {a w w' : World} {row:Option Nat} (h:Kept S a w) (hg:w.grownBy w' row) (hr:∀ k,row=some k→k<a.heap.size→S k):Kept S a w' :=
 h.trans (S' := fun k=>row=some k) ⟨hg.os,hg.tape,hg.output,hg.size,fun k hk hn=>hg.block k hk (fun e=>hn e.symm)⟩ (fun i hi e=>hr i e hi)
theorem Kept.below {S:Nat→Prop} {w w' : World} {B:Nat} (h:Kept S w w') (hB:B≤w.heap.size) (hs:∀ k,k<B→¬ S k):Below B w w' :=
 ⟨h.os,h.tape,h.output,h.size,fun k hk=>h.block k (by omega) (hs k hk)⟩
theorem Kept.cell {S:Nat→Prop} {w w' : World} (h:Kept S w w') {p:Addr} (hp:p.block<w.heap.size) (hn:¬ S p.block):w'.cell? p=w.cell? p:=World.cell?_of_block (h.block p.block hp hn)
theorem Kept.at {S:Nat→Prop} {w w' : World} (h:Kept S w w') {b:Nat} {o:Obj} (hb:w.heap[b]? = some o) (hn:¬ S b):w'.heap[b]? = some o:=
 (h.block b (Array.getElem?_eq_some_iff.1 hb).1 hn).trans hb
theorem lt_of_at {w:World} {b:Nat} {o:Obj} (hb:w.heap[b]? = some o):b<w.heap.size:=(Array.getElem?_eq_some_iff.1 hb).1
theorem Kept.row {S:Nat→Prop} {w w' : World} (h:Kept S w w') {base:Nat} {e:TypeId} {size:Nat} {v:Value} {n:Nat} {xs:List Value} (hr:w.ownsRow base e size v n xs) (hn:∀ k,v.ownBlock=some k→¬ S k):w'.ownsRow base e size v n xs:=by
 refine ⟨hr.1,?_⟩
 rcases hr.2 with h0 | ⟨g,cap,cur,rfl,hb,hg,r⟩
 ·exact .inl h0
 ·exact .inr ⟨g,cap,cur,rfl,hb,h.at hg (hn g rfl),r⟩
theorem Kept.map {S:Nat→Prop} {w w' : World} (h:Kept S w w') {H:Type} {P:Program} {k:TypeId} {R:Value→Option (DataW H × List MemPlace)} {b n:Nat} {D:DataW H} (hm:w.ownsMap P k R b n D) (hn:¬ S b):w'.ownsMap P k R b n D:=by
 obtain ⟨es,clock,hb,r⟩:=hm
 exact ⟨es,clock,h.at hb hn,r⟩
theorem cellAt {w:World} {b:Nat} {cs:Array Value} {t:TypeId} {fr:Nat × Nat} (h:w.heap[b]? = some (.cells cs t fr)) (o:Nat):w.cell? ⟨b,o,none⟩=cs[o]? := by
 simp [World.cell?,h]
theorem frozenAt {w:World} {b:Nat} {cs:Array Value} {t:TypeId} (h:w.heap[b]? = some (.cells cs t (0,0))) (o:Nat):w.frozen? ⟨b,o,none⟩=false:=by
 simp [World.frozen?,h]
theorem setAt {w:World} {b:Nat} {cs:Array Value} {t:TypeId} {fr:Nat × Nat} (h:w.heap[b]? = some (.cells cs t fr)) (o:Nat) (v:Value):(w.setCell ⟨b,o,none⟩ v).heap[b]? = some (.cells (cs.setIfInBounds o v) t fr):=by
 simp [World.setCell,Array.getElem?_modify,h]
theorem row_shape {w:World} {base:Nat} {e:TypeId} {size:Nat} {v:Value} {n:Nat} {xs:List Value} (h:w.ownsRow base e size v n xs):∃ ao cap,v=.slice ao n cap:=by
 rcases h.2 with ⟨rfl,h0⟩ | ⟨g,cap,cur,rfl,_⟩
 ·exact ⟨none,0,by rw [h0]⟩
 ·exact ⟨_,cap,rfl⟩
theorem row_mono {w:World} {base base' : Nat} {e:TypeId} {size:Nat} {v:Value} {n:Nat} {xs:List Value} (h:w.ownsRow base e size v n xs) (hb:base' ≤ base):w.ownsRow base' e size v n xs:=by
 refine ⟨h.1,h.2.imp id ?_⟩
 rintro ⟨g,cap,cur,hv,hg,r⟩
 exact ⟨g,cap,cur,hv,by omega,r⟩
end Go.Proofs.YtjahpnbijefncaaGreat
namespace Go.Proofs.YtjahpnbijefncaaGreat
def smB (c:Int):Bool:=decide (97≤c) && decide (c≤122)
def dgB (c:Int):Bool:=decide (48≤c) && decide (c≤57)
def nmAt (i:Nat) (c:Int):Bool:=smB c || (decide (0<i) && dgB c)
def NameP (s:ByteArray):Prop:=1≤s.size∧s.size≤12∧∀ i (h:i<s.size),nmAt i (s[i].toNat:Int)=true
def nameB (s:ByteArray):Bool:=decide (1≤s.size∧s.size≤12∧∀ i (h:i<s.size),nmAt i (s[i].toNat:Int)=true)
theorem nameB_no {s:ByteArray} (h:¬ NameP s):nameB s=false:=decide_eq_false h
theorem nameB_yes {s:ByteArray} (h:NameP s):nameB s=true:=decide_eq_true h
end Go.Proofs.YtjahpnbijefncaaGreat
namespace Go.Proofs.YtjahpnbijefncaaGreat
open Go.RowKit
structure Sym where
 name:ByteArray
 ar:Int
 df:Bool
def findI:List Sym→ByteArray→Option Nat
 | [],_=>none
 | x :: r,s=>if x.name=s then some 0 else (findI r s).map (· + 1)
theorem findI_snoc (L:List Sym) (x:Sym) (s:ByteArray):findI (L ++ [x]) s=match findI L s with | some i=>some i | none=>if x.name=s then some L.length else none:=by
 induction L with
 | nil=>simp [findI]
 | cons y r ih=>
  simp only [List.cons_append,findI]
  by_cases h:y.name=s
  ·simp [h]
  ·simp only [h,if_false,ih]
   cases hf:findI r s with
   | some i=>simp
   | none=>by_cases hx:x.name=s <;> simp [hx]
def symCells (L:List Sym):List Value:=L.flatMap fun x=>[.string x.name,.int .i64 x.ar,.bool x.df]
theorem symCells_length (L:List Sym):(symCells L).length=L.length * 3:=by
 induction L with
 | nil=>rfl
 | cons x r ih=>simp [symCells] at ih ⊢;omega
theorem symCells_snoc (L:List Sym) (x:Sym):symCells (L ++ [x])=symCells L ++ [.string x.name,.int .i64 x.ar,.bool x.df]:=by simp [symCells]
theorem symCells_at {L:List Sym} {i:Nat} (h:i<L.length):(symCells L)[i * 3]? = some (.string L[i].name)∧(symCells L)[i * 3+1]? = some (.int .i64 L[i].ar)∧(symCells L)[i * 3+2]? = some (.bool L[i].df):=by
 induction L generalizing i with
 | nil=>simp at h
 | cons x r ih=>
  have e:symCells (x :: r)=.string x.name :: .int .i64 x.ar :: .bool x.df :: symCells r:=by simp [symCells]
  rw [e]
  cases i with
  | zero=>simp
  | succ j=>
   have:=ih (i:=j) (by simpa using h)
   rw [show (j+1) * 3=j * 3+1+1+1 by omega]
   simpa using this
def addErr (L:List Sym) (x:Sym):Int:=
 if nameB x.name=false then 10 else if x.ar<0∨6<x.ar then 11 else if (findI L x.name).isSome then 12 else if 64≤L.length then 13 else 0
theorem info_Symbol:(Tryz.prog.info? 129).map (fun i=>(i.zero,i.size,i.bytes))=some (some (.agg #[.string ByteArray.empty,.int .i64 0,.bool false]),3,32):=by kernel_rfl
theorem law_string:Maps.Keyed Tryz.prog 9:=Maps.string_keyed Tryz.underlying9
theorem zero_int (w:World):(zeroValue 3).run Tryz.prog w=.ok (.int .i64 0) w:=by kernel_rfl
def MapIs (w:World) (mr:Option Nat) (L:List Sym):Prop:=
 match mr with
 | none=>L=[]
 | some bm=>∃ n D,w.ownsMap (H:=Unit) Tryz.prog 9 (plainElem Tryz.prog 3) bm n D∧n≤L.length ∧
   ∀ s:ByteArray,Maps.has D (.string s.data.toList)=(findI L s).isSome∧∀ i,findI L s=some i→D.atKey (.string s.data.toList) (.lit (.int .i64 0))=.lit (.int .i64 (i:Int))
structure SigAt (w:World) (b:Nat) (L:List Sym) (sv:Value) (mr:Option Nat):Prop where
 blk:w.heap[b]? = some (.cells #[sv,.map mr] 187 (0,0))
 row:w.ownsRow 0 129 3 sv L.length (symCells L)
 map:MapIs w mr L
 apart:sv.ownBlock≠some b
 len:L.length≤64
 names:∀ x∈L,nameB x.name=true
def Foot (b:Nat) (sv:Value) (mr:Option Nat) (k:Nat):Prop:=k=b∨sv.ownBlock=some k∨mr=some k
theorem MapIs.kept {S:Nat→Prop} {w w' : World} {mr:Option Nat} {L:List Sym} (h:MapIs w mr L) (hk:Kept S w w') (hn:∀ k,mr=some k→¬ S k):MapIs w' mr L:=by
 cases mr with
 | none=>exact h
 | some bm=>
  obtain ⟨n,D,hm,r⟩:=h
  exact ⟨n,D,hk.map hm (hn bm rfl),r⟩
theorem SigAt.kept {S:Nat→Prop} {w w' : World} {b:Nat} {L:List Sym} {sv:Value} {mr:Option Nat} (h:SigAt w b L sv mr) (hk:Kept S w w') (hn:∀ k,Foot b sv mr k→¬ S k):SigAt w' b L sv mr:=
 ⟨hk.at h.blk (hn b (.inl rfl)),hk.row h.row (fun k e=>hn k (.inr (.inl e))),h.map.kept hk (fun k e=>hn k (.inr (.inr e))),h.apart,h.len,h.names⟩
theorem SigAt.sv {w:World} {b:Nat} {L:List Sym} {sv:Value} {mr:Option Nat} (h:SigAt w b L sv mr):∃ ao cap,sv=.slice ao L.length cap:=by
 rcases h.row.2 with ⟨rfl,h0⟩ | ⟨g,cap,cur,rfl,_⟩
 ·exact ⟨none,0,by rw [h0]⟩
 ·exact ⟨_,cap,rfl⟩
theorem sig_foot_lt {w:World} {b:Nat} {L:List Sym} {sv:Value} {mr:Option Nat} (h:SigAt w b L sv mr):∀ k,Foot b sv mr k→k<w.heap.size:=by
 intro k hk
 rcases hk with e | e | e
 ·subst e;exact lt_of_at h.blk
 ·exact (h.row.lt k e).2
 ·subst e
  obtain ⟨n,D,hm,_⟩:=h.map
  exact hm.lt
theorem key_str {s:ByteArray} (hs:s.size≤maxLen):keyOf Tryz.prog 9 (.string s)=some (.string s.data.toList):=Go.WideMaps.keyOf_string_mk Tryz.underlying9 hs
theorem MapIs.look {w:World} {mr:Option Nat} {L:List Sym} (h:MapIs w mr L) {s:ByteArray} (hs:s.size≤maxLen) :
  (Instr.lookup 185 (.map mr) (.string s) true).run Tryz.prog w=.ok (.tuple #[.int .i64 (((findI L s).getD 0:Nat):Int),.bool (findI L s).isSome]) w:=by
 cases mr with
 | none=>
  obtain rfl:L=[]:=h
  rw [Maps.look_nil true law_string Tryz.underlying185 (zero_int w) (key_str hs)]
  simp [findI]
 | some bm=>
  obtain ⟨n,D,hm,hn,hall⟩:=h
  obtain ⟨v,ps,hrun,hv⟩:=hm.look_ok law_string Tryz.underlying185 (zero_int w) (plainElem_int Tryz.underlying3 (by decide)) (key_str hs)
  obtain ⟨a,rfl,hz,_⟩:=plainElem_int_inv Tryz.underlying3 hv
  rw [hrun,(hall s).1]
  simp only [Prod.mk.injEq] at hz
  cases hf:findI L s with
  | none=>
   have hno:Maps.has D (.string s.data.toList)=false:=by rw [(hall s).1,hf];rfl
   rw [Maps.atKey_of_not_has hno] at hz
   have:=hz.1
   simp at this
   simp [← this]
  | some i=>
   rw [(hall s).2 i hf] at hz
   have:=hz.1
   simp at this
   simp [← this]
abbrev symV (x:Sym):Value:=.agg #[.string x.name,.int .i64 x.ar,.bool x.df]
end Go.Proofs.YtjahpnbijefncaaGreat
namespace Go.Proofs.YtjahpnbijefncaaGreat
def arN (L:List Sym) (n:Int):Nat:=if n<0 then 0 else match L[n.toNat]? with | some x=>x.ar.toNat | none=>0
def scan (L:List Sym):Nat→List Int→Option Nat
 | 0,_=>some 0
 | _+1,[]=>none
 | k+1,x :: r=>(scan L (k+arN L x) r).map (· + 1)
def need (L:List Sym):Nat→List Int→Option Nat
 | k,[]=>some k
 | 0,_ :: _=>none
 | k+1,x :: r=>need L (k+arN L x) r
theorem scan_zero (L:List Sym) (ts:List Int):scan L 0 ts=some 0:=by cases ts <;> rfl
theorem need_append (L:List Sym) (k:Nat) (a b:List Int):need L k (a++b)=(need L k a).bind (fun m=>need L m b):=by
 induction a generalizing k with
 | nil=>simp [need]
 | cons x r ih=>
  cases k with
  | zero=>simp [need]
  | succ k=>simp [need,ih]
theorem need_add {L:List Sym} {k m:Nat} {a:List Int} (h:need L k a=some m) (j:Nat):need L (k+j) a=some (m+j):=by
 induction a generalizing k with
 | nil=>simp [need] at h ⊢;omega
 | cons x r ih=>
  cases k with
  | zero=>simp [need] at h
  | succ k=>
   rw [show k+1+j=(k+j)+1 by omega]
   simp only [need] at h ⊢
   have:=ih h
   rw [show k+arN L x+j=k+j+arN L x by omega] at this
   exact this
theorem need_split {L:List Sym} {a b:Nat} {ts:List Int} (h:need L (a+b) ts=some 0):∃ n,scan L a ts=some n∧n≤ts.length∧need L b (ts.drop n)=some 0:=by
 induction ts generalizing a with
 | nil=>
  simp [need] at h
  obtain ⟨rfl,rfl⟩:=h
  exact ⟨0,rfl,by simp,by simp [need]⟩
 | cons x r ih=>
  cases a with
  | zero=>exact ⟨0,by simp [scan_zero],by simp,by simpa using h⟩
  | succ a=>
   rw [show a+1+b=(a+b)+1 by omega] at h
   simp only [need] at h
   rw [show a+b+arN L x=(a+arN L x)+b by omega] at h
   obtain ⟨n,h1,h2,h3⟩:=ih h
   exact ⟨n+1,by simp [scan,h1],by simpa using h2,by simpa using h3⟩
theorem scan_need {L:List Sym} {k n:Nat} {ts:List Int} (h:scan L k ts=some n):n≤ts.length∧need L k (ts.take n)=some 0:=by
 induction ts generalizing k n with
 | nil=>cases k <;> simp [scan] at h;subst h;simp [need]
 | cons x r ih=>
  cases k with
  | zero=>simp [scan] at h;subst h;simp [need]
  | succ k=>
   simp only [scan,Option.map_eq_some_iff] at h
   obtain ⟨m,hm,rfl⟩:=h
   obtain ⟨h1,h2⟩:=ih hm
   exact ⟨by simpa using h1,by simpa [need] using h2⟩
theorem need_scan {L:List Sym} {k:Nat} {a b:List Int} (h:need L k a=some 0):scan L k (a++b)=some a.length:=by
 induction a generalizing k with
 | nil=>simp [need] at h;subst h;simp [scan_zero]
 | cons x r ih=>
  cases k with
  | zero=>simp [need] at h
  | succ k=>
   simp only [need] at h
   simp [scan,ih h]
theorem scan_pos {L:List Sym} {k n:Nat} {ts:List Int} (h:scan L (k+1) ts=some n):0<n:=by
 cases ts with
 | nil=>simp [scan] at h
 | cons x r=>simp only [scan,Option.map_eq_some_iff] at h;obtain ⟨m,_,rfl⟩:=h;omega
theorem scan_add {L:List Sym} {a b m:Nat} {ts:List Int} (h:scan L (a+b) ts=some m):∃ n n', scan L a ts=some n∧scan L b (ts.drop n)=some n' ∧ m=n+n' := by
 obtain ⟨h1,h2⟩:=scan_need h
 obtain ⟨n,h3,h4,h5⟩:=need_split h2
 obtain ⟨h6,h7⟩:=scan_need h3
 have h4:n≤m:=by simp at h4;omega
 have e1:ts.take m=ts.take n++(ts.drop n).take (m-n):=by
  rw [List.take_drop,show n+(m-n)=m by omega]
  have:=(List.take_append_drop n (ts.take m)).symm
  rwa [List.take_take,Nat.min_eq_left h4] at this
 have h8:need L a (ts.take n)=some 0:=by rwa [List.take_take,Nat.min_eq_left h4] at h7
 refine ⟨n,m-n,?_,?_,by omega⟩
 ·have:=need_scan (b:=ts.drop n) h8
  rw [List.take_append_drop] at this
  rw [this];simp;omega
 ·have h9:need L b ((ts.drop n).take (m-n))=some 0:=by
   have:(ts.take m).drop n=(ts.drop n).take (m-n):=by rw [List.drop_take]
   rwa [this] at h5
  have:=need_scan (b:=(ts.drop n).drop (m-n)) h9
  rw [List.take_append_drop] at this
  rw [this];simp;omega
def endO (L:List Sym) (t:List Int) (p:Nat):Option Nat:=(scan L 1 (t.drop p)).map (p + ·)
def endN (L:List Sym) (t:List Int) (p:Nat):Nat:=(endO L t p).getD t.length
def IsT (L:List Sym) (t:List Int):Prop:=need L 1 t=some 0
theorem isT_need {L:List Sym} {t:List Int} (h:IsT L t) {p:Nat} (hp:p<t.length):∃ k,need L (k+1) (t.drop p)=some 0:=by
 have h' : need L 1 (t.take p++t.drop p)=some 0:=by rw [List.take_append_drop];exact h
 rw [need_append] at h'
 cases hn:need L 1 (t.take p) with
 | none=>simp [hn] at h'
 | some k=>
  simp only [hn,Option.bind_some] at h'
  cases k with
  | zero=>
   have:t.drop p≠[]:=by intro e;have:=congrArg List.length e;simp at this;omega
   cases hd:t.drop p with
   | nil=>exact absurd hd this
   | cons x r=>rw [hd] at h'; simp [need] at h'
  | succ k=>exact ⟨k,h'⟩
theorem isT_scan {L:List Sym} {t:List Int} (h:IsT L t) {p:Nat} (hp:p<t.length):∃ n,scan L 1 (t.drop p)=some n∧0<n∧p+n≤t.length:=by
 obtain ⟨k,hk⟩:=isT_need h hp
 rw [Nat.add_comm] at hk
 obtain ⟨n,h1,h2,_⟩:=need_split hk
 exact ⟨n,h1,scan_pos (k:=0) h1,by simp at h2;omega⟩
theorem endN_of {L:List Sym} {t:List Int} {p n:Nat} (h:scan L 1 (t.drop p)=some n):endN L t p=p+n:=by simp [endN,endO,h]
theorem endO_some {L:List Sym} {t:List Int} (h:IsT L t) {p:Nat} (hp:p<t.length):endO L t p=some (endN L t p):=by
 obtain ⟨n,h1,_,_⟩:=isT_scan h hp
 rw [endN_of h1,endO,h1];rfl
theorem endN_le {L:List Sym} {t:List Int} (h:IsT L t) {p:Nat} (hp:p<t.length):p<endN L t p∧endN L t p≤t.length:=by
 obtain ⟨n,h1,h2,h3⟩:=isT_scan h hp
 rw [endN_of h1];omega
theorem isT_pos {L:List Sym} {t:List Int} (h:IsT L t):0<t.length:=by
 cases t with
 | nil=>simp [IsT,need] at h
 | cons=>simp
theorem endN_zero {L:List Sym} {t:List Int} (h:IsT L t):endN L t 0=t.length:=by
 have:=need_scan (b:=[]) h
 rw [List.append_nil] at this
 rw [endN_of (n:=t.length) (by simpa using this)];omega
def starts (L:List Sym) (t:List Int):Nat→Nat→List Nat
 | 0,_=>[]
 | k+1,p=>p :: starts L t k (endN L t p)
theorem starts_length (L:List Sym) (t:List Int) (k p:Nat):(starts L t k p).length=k:=by
 induction k generalizing p with
 | zero=>rfl
 | succ k ih=>simp [starts,ih]
def past (L:List Sym) (t:List Int):Nat→Nat→Nat
 | 0,p=>p
 | k+1,p=>past L t k (endN L t p)
theorem past_succ (L:List Sym) (t:List Int) (k p:Nat):past L t (k+1) p=endN L t (past L t k p):=by
 induction k generalizing p with
 | zero=>rfl
 | succ k ih=>rw [past,ih,past]
theorem starts_at {L:List Sym} {t:List Int} {k p i:Nat} (h:i<k):(starts L t k p)[i]? = some (past L t i p):=by
 induction k generalizing p i with
 | zero=>omega
 | succ k ih=>
  cases i with
  | zero=>simp [starts,past]
  | succ i=>simpa [starts,past] using ih (p:=endN L t p) (by omega)
theorem starts_snoc (L:List Sym) (t:List Int) (k p:Nat):starts L t (k+1) p=starts L t k p ++ [past L t k p]:=by
 induction k generalizing p with
 | zero=>simp [starts,past]
 | succ k ih=>
  have:=ih (endN L t p)
  conv=>lhs;rw [starts]
  rw [this];simp [starts,past]
def Forest (L:List Sym) (t:List Int) (k p q:Nat):Prop:=∃ n,scan L k (t.drop p)=some n∧q=p+n∧q≤t.length
theorem Forest.zero {L:List Sym} {t:List Int} {p q:Nat} (h:Forest L t 0 p q):q=p:=by
 obtain ⟨n,h1,h2,_⟩:=h
 simp [scan_zero] at h1;omega
theorem Forest.le {L:List Sym} {t:List Int} {k p q:Nat} (h:Forest L t k p q):p≤q∧q≤t.length:=by
 obtain ⟨n,_,h2,h3⟩:=h;omega
theorem Forest.succ {L:List Sym} {t:List Int} {k p q:Nat} (h:Forest L t (k+1) p q):Forest L t 1 p (endN L t p)∧p<endN L t p∧Forest L t k (endN L t p) q:=by
 obtain ⟨n,h1,h2,h3⟩:=h
 rw [Nat.add_comm] at h1
 obtain ⟨a,b,h4,h5,h6⟩:=scan_add h1
 have e:=endN_of h4
 have ha:=scan_pos (k:=0) h4
 refine ⟨⟨a,h4,e,by omega⟩,by omega,b,?_,by omega,h3⟩
 rw [e,← List.drop_drop];exact h5
theorem Forest.pos {L:List Sym} {t:List Int} {k p q:Nat} (h:Forest L t (k+1) p q):p<q:=by
 have:=h.succ.2.1;have:=h.succ.2.2.le;omega
theorem Forest.one {L:List Sym} {t:List Int} (h:IsT L t) {p:Nat} (hp:p<t.length):Forest L t 1 p (endN L t p):=by
 obtain ⟨n,h1,h2,h3⟩:=isT_scan h hp
 exact ⟨n,h1,endN_of h1,by rw [endN_of h1];exact h3⟩
theorem Forest.kids {L:List Sym} {t:List Int} {p q:Nat} (h:Forest L t 1 p q):∃ hp:p<t.length,Forest L t (arN L t[p]) (p+1) q:=by
 obtain ⟨n,h1,h2,h3⟩:=h
 have hn:=scan_pos (k:=0) h1
 have hp:p<t.length:=by omega
 refine ⟨hp,?_⟩
 rw [List.drop_eq_getElem_cons hp] at h1
 simp only [scan,Nat.zero_add,Option.map_eq_some_iff] at h1
 obtain ⟨m,hm,rfl⟩:=h1
 exact ⟨m,hm,by omega,h3⟩
theorem Forest.past {L:List Sym} {t:List Int} {k p q:Nat} (h:Forest L t k p q):past L t k p=q:=by
 induction k generalizing p with
 | zero=>exact h.zero.symm
 | succ k ih=>rw [Proofs.YtjahpnbijefncaaGreat.past];exact ih h.succ.2.2
theorem Forest.drop {L:List Sym} {t:List Int} {k i p q:Nat} (h:Forest L t k p q) (hi:i≤k):Forest L t (k-i) (Proofs.YtjahpnbijefncaaGreat.past L t i p) q:=by
 induction i generalizing k p with
 | zero=>exact h
 | succ i ih=>
  cases k with
  | zero=>omega
  | succ k=>
   have:=ih h.succ.2.2 (by omega)
   simpa [Proofs.YtjahpnbijefncaaGreat.past] using this
theorem past_mono {L:List Sym} {t:List Int} {k p q:Nat} (h:Forest L t k p q) {i j:Nat} (hij:i<j) (hj:j≤k):endN L t (past L t i p)≤past L t j p:=by
 induction j with
 | zero=>omega
 | succ j ih=>
  rw [past_succ]
  by_cases e:i=j
  ·subst e;exact Nat.le_refl _
  ·have h1:=ih (by omega) (by omega)
   have h2:=h.drop (i:=j) (by omega)
   obtain ⟨m,hm⟩:∃ m,k-j=m+1:=⟨k-j-1,by omega⟩
   rw [hm] at h2
   have:=h2.succ.2.1
   omega
def argsN (L:List Sym) (t:List Int) (p:Nat):List Nat:=starts L t (arN L (t.getD p 0)) (p+1)
theorem argsN_eq {L:List Sym} {t:List Int} {p:Nat} (hp:p<t.length):argsN L t p=starts L t (arN L t[p]) (p+1):=by
 simp [argsN,hp]
def bump:List (Nat × Nat)→List (Nat × Nat)
 | []=>[]
 | (j,a) :: st=>if j+1<a then (j+1,a) :: st else bump st
def pass (st:List (Nat × Nat)) (a:Nat):List (Nat × Nat):=if 0<a then (0,a) :: st else bump st
def run (L:List Sym) (st:List (Nat × Nat)) (ts:List Int):List (Nat × Nat):=ts.foldl (fun s x=>pass s (arN L x)) st
theorem run_append (L:List Sym) (st:List (Nat × Nat)) (a b:List Int):run L st (a++b)=run L (run L st a) b:=by simp [run]
def way (L:List Sym) (t:List Int) (p:Nat):List (Nat × Nat):=run L [] (t.take p)
theorem way_succ {L:List Sym} {t:List Int} {p:Nat} (hp:p<t.length):way L t (p+1)=pass (way L t p) (arN L t[p]):=by
 unfold way
 rw [List.take_add_one,run_append,List.getElem?_eq_getElem hp]
 rfl
theorem way_forest {L:List Sym} {t:List Int} (n:Nat):∀ (p q:Nat),q-p≤n →
  (Forest L t 1 p q→way L t q=bump (way L t p)) ∧
  (∀ (k j a:Nat) (st:List (Nat × Nat)),Forest L t (k+1) p q→way L t p=(j,a) :: st→j+(k+1)=a→way L t q=bump st):=by
 induction n with
 | zero=>
  intro p q h
  refine ⟨fun hf=>?_,fun k j a st hf _ _=>?_⟩
  ·have:=hf.pos;omega
  ·have:=hf.pos;omega
 | succ n ih=>
  intro p q h
  have one:Forest L t 1 p q→way L t q=bump (way L t p):=by
   intro hf
   obtain ⟨hp,hk⟩:=hf.kids
   have hw:=way_succ (L:=L) hp
   cases ha:arN L t[p] with
   | zero=>
    rw [ha] at hk hw
    rw [hk.zero,hw];rfl
   | succ a=>
    rw [ha] at hk hw
    exact (ih (p+1) q (by omega)).2 a 0 (a+1) (way L t p) hk (by rw [hw];rfl) (by omega)
  refine ⟨one,?_⟩
  intro k j a st hf hw hj
  cases k with
  | zero=>
   rw [one hf,hw,bump,if_neg (by omega)]
  | succ k=>
   obtain ⟨h1,h2,h3⟩:=hf.succ
   have h4:=h3.pos
   have e1:=(ih p (endN L t p) (by omega)).1 h1
   rw [hw,bump,if_pos (by omega)] at e1
   exact (ih (endN L t p) q (by omega)).2 k (j+1) a st h3 e1 (by omega)
theorem way_one {L:List Sym} {t:List Int} {p q:Nat} (h:Forest L t 1 p q):way L t q=bump (way L t p):=(way_forest (q-p) p q (Nat.le_refl _)).1 h
theorem way_past {L:List Sym} {t:List Int} {k p q:Nat} (h:Forest L t k p q) {j a:Nat} {st:List (Nat × Nat)} (hw:way L t p=(j,a) :: st) {i:Nat} (hi:i<k) (ha:j+k≤a) :
  way L t (past L t i p)=(j+i,a) :: st:=by
 induction i generalizing k j p with
 | zero=>exact hw
 | succ i ih=>
  cases k with
  | zero=>omega
  | succ k=>
   obtain ⟨h1,h2,h3⟩:=h.succ
   have e1:=way_one h1
   rw [hw,bump,if_pos (by omega)] at e1
   have:=ih h3 e1 (by omega) (by omega)
   rw [show j+1+i=j+(i+1) by omega] at this
   exact this
theorem forest_in {L:List Sym} {t:List Int} {k p q at' : Nat} (h:Forest L t k p q) (h1:p≤at') (h2:at' < q):∃ i,i<k∧past L t i p≤at' ∧ at' < endN L t (past L t i p):=by
 induction k generalizing p with
 | zero=>have:=h.zero;omega
 | succ k ih=>
  obtain ⟨f1,f2,f3⟩:=h.succ
  by_cases e:at' < endN L t p
  ·exact ⟨0,by omega,h1,e⟩
  ·obtain ⟨i,hi,g1,g2⟩:=ih f3 (by omega)
   exact ⟨i+1,by omega,g1,g2⟩
theorem kid_in {L:List Sym} {t:List Int} (h:IsT L t) {p a:Nat} (hp:p<t.length) (h1:p<a) (h2:a<endN L t p) :
  ∃ i,i<arN L t[p]∧past L t i (p+1)≤a∧a<endN L t (past L t i (p+1))∧past L t i (p+1)<t.length∧p<past L t i (p+1)∧way L t (past L t i (p+1))=(i,arN L t[p]) :: way L t p ∧
   ∀ j,j<arN L t[p]→(past L t j (p+1)≤a∧a<endN L t (past L t j (p+1)) ↔ j=i):=by
 obtain ⟨hp', hk⟩:=(Forest.one h hp).kids
 obtain ⟨i,hi,g1,g2⟩:=forest_in hk (by omega) h2
 have hle:=(endN_le h hp).2
 have hw:way L t (p+1)=(0,arN L t[p]) :: way L t p:=by rw [way_succ hp,pass,if_pos (by omega)]
 have hwi:=way_past hk hw hi (by omega)
 rw [Nat.zero_add] at hwi
 have hpp:p<past L t i (p+1):=by
  cases i with
  | zero=>simp [past]
  | succ i=>
   have:=past_mono hk (i:=0) (j:=i+1) (by omega) (by omega)
   have h5:=hk.drop (i:=0) (by omega)
   have:=(Forest.one h (p:=p+1) (by omega)).pos
   simp [past] at *;omega
 refine ⟨i,hi,g1,g2,by omega,hpp,hwi,fun j hj=>⟨fun ⟨x1,x2⟩=>?_,fun e=>by subst e;exact ⟨g1,g2⟩⟩⟩
 rcases Nat.lt_trichotomy j i with hji | hji | hji
 ·have:=past_mono hk hji (by omega);omega
 ·exact hji
 ·have:=past_mono hk hji (by omega);omega
def pathN (L:List Sym) (t:List Int) (p:Nat):List Nat:=((way L t p).map Prod.fst).reverse
def leads (L:List Sym) (t:List Int):Nat→List Int→Option Nat
 | p,[]=>some p
 | p,n :: r=>if n<0 then none else match (argsN L t p)[n.toNat]? with | some q=>leads L t q r | none=>none
theorem leads_down {L:List Sym} {t:List Int} (h:IsT L t) (n:Nat):∀ p a,a-p≤n→p≤a→p<t.length→a<endN L t p→∃ fr,way L t a=fr++way L t p∧leads L t p ((fr.map (fun x=>(x.1:Int))).reverse)=some a:=by
 induction n with
 | zero=>
  intro p a h1 h2 h3 h4
  obtain rfl:p=a:=by omega
  exact ⟨[],rfl,rfl⟩
 | succ n ih=>
  intro p a h1 h2 h3 h4
  by_cases e:p=a
  ·subst e;exact ⟨[],rfl,rfl⟩
  ·obtain ⟨i,hi,g1,g2,g3,g4,g5,_⟩:=kid_in h h3 (by omega) h4
   obtain ⟨fr,f1,f2⟩:=ih (past L t i (p+1)) a (by omega) g1 g3 g2
   refine ⟨fr ++ [(i,arN L t[p])],by rw [f1,g5];simp,?_⟩
   have e1:((fr ++ [(i,arN L t[p])]).map (fun x=>(x.1:Int))).reverse=(i:Int) :: (fr.map (fun x=>(x.1:Int))).reverse:=by simp
   rw [e1,leads,if_neg (by omega)]
   have e2:(argsN L t p)[(i:Int).toNat]? = some (past L t i (p+1)):=by
    rw [argsN_eq h3];simpa using starts_at hi
   rw [e2];exact f2
theorem leads_path {L:List Sym} {t:List Int} (h:IsT L t) {a:Nat} (ha:a<t.length):leads L t 0 ((pathN L t a).map (fun (x:Nat)=>(x:Int)))=some a:=by
 obtain ⟨fr,f1,f2⟩:=leads_down h a 0 a (by omega) (by omega) (isT_pos h) (by rw [endN_zero h];exact ha)
 have:way L t 0=[]:=rfl
 rw [this,List.append_nil] at f1
 rw [pathN,f1]
 simpa [List.map_reverse,Function.comp_def] using f2
def subN (L:List Sym) (t:List Int) (p:Nat):List Int:=(t.take (endN L t p)).drop p
theorem sub_need {L:List Sym} {t:List Int} (h:IsT L t) {p:Nat} (hp:p<t.length):IsT L (subN L t p):=by
 obtain ⟨n,h1,h2,h3⟩:=isT_scan h hp
 have:=(scan_need h1).2
 unfold IsT subN
 rw [endN_of h1,List.drop_take]
 simpa using this
theorem sub_length {L:List Sym} {t:List Int} (h:IsT L t) {p:Nat} (hp:p<t.length):(subN L t p).length=endN L t p-p:=by
 have:=endN_le h hp
 simp [subN];omega
def badE (L:List Sym):List Int→Int
 | []=>0
 | x :: r=>if (L.length:Int)≤x then 21 else if x < -99 then 22 else badE L r
def checkE (L:List Sym) (t:List Int):Int:=if 2000<t.length then 20 else if badE L t≠0 then badE L t else if need L 1 t=some 0 then 0 else 23
def placeE (L:List Sym) (t:List Int) (at' : Int):Int:=if checkE L t≠0 then checkE L t else if at' < 0∨(t.length:Int)≤at' then 24 else 0
theorem badE_zero {L:List Sym} {t:List Int}:badE L t=0 ↔ ∀ x∈t,x<(L.length:Int) ∧ -99≤x:=by
 induction t with
 | nil=>simp [badE]
 | cons x r ih=>
  simp only [badE,List.mem_cons,forall_eq_or_imp]
  by_cases h1:(L.length:Int)≤x
  ·simp only [h1,if_true];constructor
   ·intro h;omega
   ·intro h;omega
  ·by_cases h2:x < -99
   ·simp only [h1,h2,if_true,if_false];constructor
    ·intro h;omega
    ·intro h;omega
   ·simp only [h1,h2,if_false,ih];constructor
    ·intro h;exact ⟨by omega,h⟩
    ·intro h;exact h.2
theorem badE_append (L:List Sym) (a b:List Int) (h:badE L a=0):badE L (a++b)=badE L b:=by
 induction a with
 | nil=>rfl
 | cons x r ih=>
  simp only [badE] at h
  by_cases h1:(L.length:Int)≤x
  ·simp [h1] at h
  ·by_cases h2:x < -99
   ·simp [h1,h2] at h
   ·simp only [h1,h2,if_false] at h
    simp only [List.cons_append,badE,h1,h2,if_false]
    exact ih h
theorem checkE_zero {L:List Sym} {t:List Int}:checkE L t=0 ↔ t.length≤2000∧badE L t=0∧IsT L t:=by
 unfold checkE IsT
 by_cases h1:2000<t.length
 ·simp [h1];intro;omega
 ·by_cases h2:badE L t=0
  ·by_cases h3:need L 1 t=some 0
   ·simp [h1,h2,h3];omega
   ·simp [h1,h2,h3]
  ·simp [h1,h2]
def isV (x:Int):Bool:=decide (-99≤x∧x ≤ -1)
end Go.Proofs.YtjahpnbijefncaaGreat
namespace Go.Proofs.YtjahpnbijefncaaGreat
set_option linter.unusedVariables false
def Trs (L:List Sym) (J:List Int):Prop:=∀ p,p<J.length→Forest L J 1 p (endN L J p)
def shF (apart x:Int):Int:=if x<0 then x-apart else x
def jl (a b:List Int) (apart:Int):List Int:=a++b.map (shF apart)
theorem arN_sh (L:List Sym) {apart:Int} (h:0≤apart) (x:Int):arN L (shF apart x)=arN L x:=by
 unfold shF
 split
 ·unfold arN;rw [if_pos (by omega),if_pos (by omega)]
 ·rfl
theorem need_sh (L:List Sym) {apart:Int} (h:0≤apart) (k:Nat) (b:List Int):need L k (b.map (shF apart))=need L k b:=by
 induction b generalizing k with
 | nil=>rfl
 | cons x r ih=>
  cases k with
  | zero=>rfl
  | succ k=>simp only [List.map_cons,need,arN_sh L h,ih]
theorem isT_sh {L:List Sym} {apart:Int} (h:0≤apart) {b:List Int} (hb:IsT L b):IsT L (b.map (shF apart)):=by
 unfold IsT;rw [need_sh L h];exact hb
theorem scan_more {L:List Sym} {k n:Nat} {ts:List Int} (h:scan L k ts=some n) (r:List Int):scan L k (ts++r)=some n:=by
 obtain ⟨h1,h2⟩:=scan_need h
 have:=need_scan (b:=ts.drop n++r) h2
 rw [← List.append_assoc,List.take_append_drop] at this
 rw [this];simp;omega
theorem trs_append {L:List Sym} {a b:List Int} (ha:IsT L a) (hb:IsT L b):Trs L (a++b):=by
 intro p hp
 have key:∃ n,scan L 1 ((a++b).drop p)=some n∧p+n≤(a++b).length:=by
  by_cases h:p<a.length
  ·obtain ⟨n,h1,h2,h3⟩:=isT_scan ha h
   refine ⟨n,?_,by simp;omega⟩
   rw [List.drop_append_of_le_length (by omega)]
   exact scan_more h1 b
  ·obtain ⟨n,h1,h2,h3⟩:=isT_scan hb (p:=p-a.length) (by simp at hp;omega)
   refine ⟨n,?_,by simp;omega⟩
   rw [List.drop_append,List.drop_eq_nil_of_le (by omega),List.nil_append]
   exact h1
 obtain ⟨n,h1,h2⟩:=key
 exact ⟨n,h1,endN_of h1,by rw [endN_of h1];exact h2⟩
theorem trs_jl {L:List Sym} {a b:List Int} {apart:Int} (h:0≤apart) (ha:IsT L a) (hb:IsT L b):Trs L (jl a b apart):=trs_append ha (isT_sh h hb)
theorem Trs.lt {L:List Sym} {J:List Int} (h:Trs L J) {p:Nat} (hp:p<J.length):p<endN L J p∧endN L J p≤J.length:=⟨(h p hp).pos,(h p hp).le.2⟩
theorem Trs.kids {L:List Sym} {J:List Int} (h:Trs L J) {p:Nat} (hp:p<J.length):Forest L J (arN L J[p]) (p+1) (endN L J p):=by
 obtain ⟨_,h2⟩:=(h p hp).kids;exact h2
def UPart (J:List Int) (x:Int):Prop:=-198≤x∧x<(J.length:Int)
def at' (J:List Int) (x:Int):Int:=J.getD x.toNat 0
def un (p q:Int) (ld:Int→Int):Int→Int:=fun x=>if ld x=p then q else ld x
def ld0 (J:List Int):Int→Int:=fun x=>if 0≤x∧at' J x<0 then at' J x else x
structure LdOk (J:List Int) (ld:Int→Int):Prop where
 part:∀ x,UPart J x→UPart J (ld x)
 idem:∀ x,UPart J x→ld (ld x)=ld x
 sym:∀ x,UPart J x→0≤ld x→0≤at' J (ld x)
 like:∀ x,UPart J x→0≤x→0≤at' J x→0≤ld x∧at' J (ld x)=at' J x
theorem at'_nat (J:List Int) (p:Nat) (h:p<J.length):at' J (p:Int)=J[p]:=by
 unfold at'
 rw [Int.toNat_natCast,List.getD_eq_getElem?_getD,List.getElem?_eq_getElem h];rfl
theorem ld0_ok {J:List Int} (hv:∀ x∈J, -198≤x):LdOk J (ld0 J):=by
 have hm:∀ x,UPart J x→0≤x → -198≤at' J x:=by
  intro x hx h0
  obtain ⟨k,rfl⟩:=Int.eq_ofNat_of_zero_le h0
  rw [at'_nat J k (by have:=hx.2;omega)]
  exact hv _ (List.getElem_mem _)
 refine ⟨?_,?_,?_,?_⟩
 ·intro x hx
  unfold ld0
  split
  ·rename_i h;exact ⟨hm x hx h.1,by have:=h.2;unfold UPart at hx;omega⟩
  ·exact hx
 ·intro x hx
  by_cases h:0≤x∧at' J x<0
  ·have e:ld0 J x=at' J x:=by unfold ld0;rw [if_pos h]
   rw [e];unfold ld0;rw [if_neg (by omega)]
  ·have e:ld0 J x=x:=by unfold ld0;rw [if_neg h]
   rw [e,e]
 ·intro x hx h0
  by_cases h:0≤x∧at' J x<0
  ·have e:ld0 J x=at' J x:=by unfold ld0;rw [if_pos h]
   omega
  ·have e:ld0 J x=x:=by unfold ld0;rw [if_neg h]
   rw [e] at h0 ⊢;omega
 ·intro x hx h0 h1
  have e:ld0 J x=x:=by unfold ld0;rw [if_neg (by omega)]
  rw [e];exact ⟨h0,rfl⟩
theorem LdOk.un {J:List Int} {ld:Int→Int} (h:LdOk J ld) {p q:Int} (hp:ld p=p) (hq:ld q=q) (hq2:UPart J q) (hpq:p≠q) (hs:0≤q→0≤at' J q) (hl:0≤p→0≤q∧at' J q=at' J p):LdOk J (un p q ld):=by
 have u1:∀ x,ld x=p→Proofs.YtjahpnbijefncaaGreat.un p q ld x=q:=fun x e=>by unfold Proofs.YtjahpnbijefncaaGreat.un;rw [if_pos e]
 have u2:∀ x,ld x≠p→Proofs.YtjahpnbijefncaaGreat.un p q ld x=ld x:=fun x e=>by unfold Proofs.YtjahpnbijefncaaGreat.un;rw [if_neg e]
 refine ⟨?_,?_,?_,?_⟩ <;> intro x hx <;> by_cases e:ld x=p
 ·rw [u1 x e];exact hq2
 ·rw [u2 x e];exact h.part x hx
 ·rw [u1 x e,u2 q (by rw [hq];exact fun f=>hpq f.symm),hq]
 ·rw [u2 x e,u2 (ld x) (by rw [h.idem x hx];exact e),h.idem x hx]
 ·rw [u1 x e];exact hs
 ·rw [u2 x e];exact h.sym x hx
 ·intro h0 h1
  obtain ⟨g1,g2⟩:=h.like x hx h0 h1
  rw [e] at g1 g2
  obtain ⟨g3,g4⟩:=hl g1
  rw [u1 x e];exact ⟨g3,g4.trans g2⟩
 ·rw [u2 x e];exact h.like x hx
def uniF (L:List Sym) (J:List Int):Nat→(Int→Int)→List (Nat × Nat × Nat)→Option (Option (Int→Int))
 | 0,_,_=>none
 | _+1,ld,[]=>some (some ld)
 | n+1,ld,(x,y,o) :: r=>
  if x<y then
   if ld x=ld o then uniF L J n ld ((endN L J x,y,endN L J o) :: r)
   else if ld x<0 then uniF L J n (un (ld x) (ld o) ld) ((endN L J x,y,endN L J o) :: r)
   else if ld o<0 then uniF L J n (un (ld o) (ld x) ld) ((endN L J x,y,endN L J o) :: r)
   else if at' J (ld x)≠at' J (ld o) then some none
   else uniF L J n (un (ld x) (ld o) ld) (((ld x).toNat+1,endN L J (ld x).toNat,(ld o).toNat+1) :: (endN L J x,y,endN L J o) :: r)
  else uniF L J n ld r
def RunOk (L:List Sym) (J:List Int) (r:Nat × Nat × Nat):Prop:=∃ k z,Forest L J k r.1 r.2.1∧Forest L J k r.2.2 z
theorem RunOk.step {L:List Sym} {J:List Int} {x y o:Nat} (h:RunOk L J (x,y,o)) (hxy:x<y):x<endN L J x∧endN L J x≤y∧y≤J.length∧o<J.length∧o<endN L J o∧RunOk L J (endN L J x,y,endN L J o):=by
 obtain ⟨k,z,h1,h2⟩:=h
 cases k with
 | zero=>have:=h1.zero;simp only at this;omega
 | succ k=>
  obtain ⟨g1,g2,g3⟩:=h1.succ
  obtain ⟨f1,f2,f3⟩:=h2.succ
  simp only at g1 g2 g3 f1 f2 f3
  have:=g3.le;have:=f1.le
  exact ⟨g2,by omega,by omega,by omega,f2,k,z,g3,f3⟩
theorem RunOk.kids {L:List Sym} {J:List Int} (hT:Trs L J) {p q:Nat} (hp:p<J.length) (hq:q<J.length) (h:J[p]=J[q]):RunOk L J (p+1,endN L J p,q+1):=
 ⟨_,_,hT.kids hp,by rw [h];exact hT.kids hq⟩
def roots (J:List Int) (ld:Int→Int):Nat:=(List.range J.length).countP (fun p:Nat=>decide (ld (p:Int)=(p:Int)))
theorem countP_le {P Q:Nat→Bool} {l:List Nat} (h:∀ x∈l,P x=true→Q x=true):l.countP P≤l.countP Q:=List.countP_mono_left h
theorem countP_lt {P Q:Nat→Bool} {l:List Nat} (h:∀ x∈l,P x=true→Q x=true) {y:Nat} (hy:y∈l) (h1:Q y=true) (h2:P y=false):l.countP P<l.countP Q:=by
 induction l with
 | nil=>simp at hy
 | cons a r ih=>
  have ha:=h a (by simp)
  have hr:=countP_le (l:=r) (fun x hx=>h x (by simp [hx]))
  rw [List.countP_cons,List.countP_cons]
  rcases List.mem_cons.1 hy with e | e
  ·subst e;simp [h1,h2];omega
  ·have:=ih (fun x hx=>h x (by simp [hx])) e
   by_cases hP:P a=true
   ·simp [hP,ha hP];exact this
   ·simp [hP];split <;> omega
theorem un_root {J:List Int} {ld:Int→Int} {p q:Int} (hq:ld q=q) (hpq:p≠q) {x:Int} (h:un p q ld x=x):ld x=x:=by
 unfold un at h
 split at h
 ·rename_i e;subst h;exact absurd (hq.symm.trans e).symm hpq
 ·exact h
theorem roots_le {J:List Int} {ld:Int→Int} {p q:Int} (hq:ld q=q) (hpq:p≠q):roots J (un p q ld)≤roots J ld:=
 countP_le (fun x _ h=>by simp only [decide_eq_true_eq] at h ⊢;exact un_root (J:=J) hq hpq h)
theorem roots_lt {J:List Int} {ld:Int→Int} {p:Nat} {q:Int} (hq:ld q=q) (hpq:(p:Int)≠q) (hp:ld p=p) (hl:p<J.length):roots J (un p q ld)<roots J ld:=
 countP_lt (y:=p) (fun x _ h=>by simp only [decide_eq_true_eq] at h ⊢;exact un_root (J:=J) hq hpq h) (by simpa using hl) (by simpa using hp) (by unfold un;simp [hp];exact fun e=>hpq e.symm)
def runsN:List (Nat × Nat × Nat)→Nat
 | []=>0
 | r :: t=>r.2.1-r.1+1+runsN t
theorem part_nat {J:List Int} {p:Nat} (h:p<J.length):UPart J p:=by unfold UPart;omega
theorem uni_ends {L:List Sym} {J:List Int} (hT:Trs L J):∀ (n:Nat) (ld:Int→Int) (rs:List (Nat × Nat × Nat)),LdOk J ld→(∀ r∈rs,RunOk L J r)→(J.length+1) * roots J ld+runsN rs<n→∃ r,uniF L J n ld rs=some r∧∀ ld', r=some ld' → LdOk J ld' := by
 intro n
 induction n with
 | zero=>intro ld rs _ _ h;omega
 | succ n ih=>
  intro ld rs hl hr hn
  cases rs with
  | nil=>exact ⟨_,rfl,fun ld' e=>by cases e;exact hl⟩
  | cons r rs=>
   obtain ⟨x,y,o⟩:=r
   have hr2:∀ r∈rs,RunOk L J r:=fun r h=>hr r (by simp [h])
   rw [uniF]
   simp only [runsN] at hn
   by_cases hxy:x<y
   ·rw [if_pos hxy]
    obtain ⟨s1,s2,s3,s4,s5,s6⟩:=(hr (x,y,o) (by simp)).step hxy
    have hr3:∀ r∈(endN L J x,y,endN L J o) :: rs,RunOk L J r:=fun r h=>by
     rcases List.mem_cons.1 h with e | e
     ·rw [e];exact s6
     ·exact hr2 r e
    have px:=part_nat (J:=J) (p:=x) (by omega)
    have po:=part_nat (J:=J) (p:=o) s4
    have hlx:=hl.idem _ px
    have hlo:=hl.idem _ po
    have hpx:=hl.part _ px
    have hpo:=hl.part _ po
    by_cases h1:ld x=ld o
    ·rw [if_pos h1];exact ih ld _ hl hr3 (by simp only [runsN];omega)
    ·rw [if_neg h1]
     have h1' : ld o≠ld x:=fun e=>h1 e.symm
     by_cases h2:ld x<0
     ·rw [if_pos h2]
      have:=Nat.mul_le_mul_left (J.length+1) (roots_le (J:=J) (p:=ld x) hlo h1)
      exact ih _ _ (hl.un hlx hlo hpo h1 (hl.sym _ po) (fun f=>by omega)) hr3 (by simp only [runsN];omega)
     ·rw [if_neg h2]
      by_cases h3:ld o<0
      ·rw [if_pos h3]
       have:=Nat.mul_le_mul_left (J.length+1) (roots_le (J:=J) (p:=ld o) hlx h1')
       exact ih _ _ (hl.un hlo hlx hpx h1' (hl.sym _ px) (fun f=>by omega)) hr3 (by simp only [runsN];omega)
      ·rw [if_neg h3]
       by_cases h4:at' J (ld x)≠at' J (ld o)
       ·rw [if_pos h4];exact ⟨_,rfl,fun ld' e=>by cases e⟩
       ·rw [if_neg h4]
        have h4:at' J (ld x)=at' J (ld o):=by simpa using h4
        obtain ⟨p,hp⟩:=Int.eq_ofNat_of_zero_le (Int.not_lt.1 h2)
        obtain ⟨q,hq⟩:=Int.eq_ofNat_of_zero_le (Int.not_lt.1 h3)
        have hpl:p<J.length:=by have:=hpx.2;omega
        have hql:q<J.length:=by have:=hpo.2;omega
        have hlt:=roots_lt (J:=J) (ld:=ld) (p:=p) (q:=ld o) hlo (by rw [← hp];exact h1) (by rw [← hp];exact hlx) hpl
        rw [← hp] at hlt
        have:=Nat.mul_le_mul_left (J.length+1) (Nat.succ_le_of_lt hlt)
        rw [Nat.succ_eq_add_one,Nat.mul_add,Nat.mul_one] at this
        have hpe:=hT.lt hpl
        have e1:(ld x).toNat=p:=by omega
        have e2:(ld o).toNat=q:=by omega
        refine ih _ _ (hl.un hlx hlo hpo h1 (hl.sym _ po) (fun _=>⟨by omega,h4.symm⟩)) ?_ ?_
        ·intro r h
         rcases List.mem_cons.1 h with e | e
         ·rw [e,e1,e2]
          rw [hp,hq,at'_nat J p hpl,at'_nat J q hql] at h4
          exact RunOk.kids hT hpl hql h4
         ·exact hr3 r e
        ·simp only [runsN,e1];omega
   ·rw [if_neg hxy]
    exact ih ld rs hl hr2 (by omega)
structure UOk (L:List Sym) (J:List Int) (res:Option (Int→Int)) (k:Nat) (ld:Int→Int) (rs:List (Nat × Nat × Nat)):Prop where
 trs:Trs L J
 ok:LdOk J ld
 runs:∀ r∈rs,RunOk L J r
 eq:uniF L J k ld rs=some res
 len:rs.length+roots J ld≤J.length+1
theorem UOk.nil {L:List Sym} {J:List Int} {res:Option (Int→Int)} {k:Nat} {ld:Int→Int} (h:UOk L J res k ld []):res=some ld:=by
 have:=h.eq
 cases k with
 | zero=>simp [uniF] at this
 | succ k=>simp [uniF] at this;exact this.symm
theorem UOk.pop {L:List Sym} {J:List Int} {res:Option (Int→Int)} {k:Nat} {ld:Int→Int} {x y o:Nat} {rs:List (Nat × Nat × Nat)} (h:UOk L J res k ld ((x,y,o) :: rs)) (hxy:¬ x<y):∃ k', k=k' + 1∧UOk L J res k' ld rs:=by
 have:=h.eq
 cases k with
 | zero=>simp [uniF] at this
 | succ k=>
  rw [uniF,if_neg hxy] at this
  exact ⟨k,rfl,h.trs,h.ok,fun r hr=>h.runs r (by simp [hr]),this,by have:=h.len;simp at this;omega⟩
theorem UOk.top {L:List Sym} {J:List Int} {res:Option (Int→Int)} {k:Nat} {ld:Int→Int} {x y o:Nat} {rs:List (Nat × Nat × Nat)} (h:UOk L J res k ld ((x,y,o) :: rs)) (hxy:x<y):x<J.length∧o<J.length∧endN L J x≤J.length∧endN L J o≤J.length∧UPart J (ld x)∧UPart J (ld o)∧ld (ld x)=ld x∧ld (ld o)=ld o∧(∀ r∈(endN L J x,y,endN L J o) :: rs,RunOk L J r):=by
 obtain ⟨s1,s2,s3,s4,s5,s6⟩:=(h.runs (x,y,o) (by simp)).step hxy
 have px:=part_nat (J:=J) (p:=x) (by omega)
 have po:=part_nat (J:=J) (p:=o) s4
 refine ⟨by omega,s4,by omega,(h.trs.lt s4).2,h.ok.part _ px,h.ok.part _ po,h.ok.idem _ px,h.ok.idem _ po,fun r hr=>?_⟩
 rcases List.mem_cons.1 hr with e | e
 ·rw [e];exact s6
 ·exact h.runs r (by simp [e])
theorem UOk.step {L:List Sym} {J:List Int} {res:Option (Int→Int)} {k:Nat} {ld:Int→Int} {x y o:Nat} {rs:List (Nat × Nat × Nat)} (h:UOk L J res k ld ((x,y,o) :: rs)) (hxy:x<y):∃ k', k=k' + 1 ∧
  (ld x=ld o→UOk L J res k' ld ((endN L J x,y,endN L J o) :: rs)) ∧
  (ld x≠ld o→ld x<0→UOk L J res k' (un (ld x) (ld o) ld) ((endN L J x,y,endN L J o) :: rs)) ∧
  (ld x≠ld o→¬ ld x<0→ld o<0→UOk L J res k' (un (ld o) (ld x) ld) ((endN L J x,y,endN L J o) :: rs)) ∧
  (ld x≠ld o→¬ ld x<0→¬ ld o<0→at' J (ld x)≠at' J (ld o)→res=none) ∧
  (ld x≠ld o→¬ ld x<0→¬ ld o<0→at' J (ld x)=at' J (ld o)→UOk L J res k' (un (ld x) (ld o) ld) (((ld x).toNat+1,endN L J (ld x).toNat,(ld o).toNat+1) :: (endN L J x,y,endN L J o) :: rs)):=by
 have heq:=h.eq
 have hlen:=h.len
 obtain ⟨t1,t2,t3,t4,hpx,hpo,hlx,hlo,hr⟩:=h.top hxy
 have px:=part_nat (J:=J) (p:=x) t1
 have po:=part_nat (J:=J) (p:=o) t2
 simp at hlen
 cases k with
 | zero=>simp [uniF] at heq
 | succ k=>
  rw [uniF,if_pos hxy] at heq
  refine ⟨k,rfl,?_,?_,?_,?_,?_⟩
  ·intro h1;rw [if_pos h1] at heq
   exact ⟨h.trs,h.ok,hr,heq,by simp;omega⟩
  ·intro h1 h2
   rw [if_neg h1,if_pos h2] at heq
   have:=roots_le (J:=J) (p:=ld x) hlo h1
   exact ⟨h.trs,h.ok.un hlx hlo hpo h1 (h.ok.sym _ po) (fun f=>by omega),hr,heq,by simp;omega⟩
  ·intro h1 h2 h3
   have h1' : ld o≠ld x:=fun e=>h1 e.symm
   rw [if_neg h1,if_neg h2,if_pos h3] at heq
   have:=roots_le (J:=J) (p:=ld o) hlx h1'
   exact ⟨h.trs,h.ok.un hlo hlx hpx h1' (h.ok.sym _ px) (fun f=>by omega),hr,heq,by simp;omega⟩
  ·intro h1 h2 h3 h4
   rw [if_neg h1,if_neg h2,if_neg h3,if_pos h4] at heq
   simp at heq;exact heq.symm
  ·intro h1 h2 h3 h4
   rw [if_neg h1,if_neg h2,if_neg h3,if_neg (by simpa using h4)] at heq
   obtain ⟨p,hp⟩:=Int.eq_ofNat_of_zero_le (Int.not_lt.1 h2)
   obtain ⟨q,hq⟩:=Int.eq_ofNat_of_zero_le (Int.not_lt.1 h3)
   have hpl:p<J.length:=by have:=hpx.2;omega
   have hql:q<J.length:=by have:=hpo.2;omega
   have hlt:=roots_lt (J:=J) (ld:=ld) (p:=p) (q:=ld o) hlo (by rw [← hp];exact h1) (by rw [← hp];exact hlx) hpl
   rw [← hp] at hlt
   refine ⟨h.trs,h.ok.un hlx hlo hpo h1 (h.ok.sym _ po) (fun _=>⟨by omega,h4.symm⟩),?_,heq,by simp;omega⟩
   intro r hr'
   rcases List.mem_cons.1 hr' with e | e
   ·rw [e,show (ld x).toNat=p by omega,show (ld o).toNat=q by omega]
    rw [hp,hq,at'_nat J p hpl,at'_nat J q hql] at h4
    exact RunOk.kids h.trs hpl hql h4
   ·exact hr r e
theorem roots_len (J:List Int) (ld:Int→Int):roots J ld≤J.length:=by
 have:=List.countP_le_length (p:=fun p:Nat=>decide (ld (p:Int)=(p:Int))) (l:=List.range J.length)
 simpa [roots] using this
def updN (sz:Nat→Int) (p:Nat) (v:Int):Nat→Int:=fun k=>if k=p then v else sz k
def sizA (f:(Nat→Int)→Int→Option (Int × (Nat→Int))):List Nat→Int→(Nat→Int)→Option (Int × (Nat→Int))
 | [],s,sz=>some (s,sz)
 | x :: r,s,sz=>
  match f sz (x:Int) with
  | none=>none
  | some (k,sz')=>if k = -1 then some (-1,sz') else sizA f r (min (s+k) 2001) sz'
def kidsL (L:List Sym) (J:List Int) (p:Nat):List Nat:=starts L J (arN L (at' J p)) (p+1)
def sizF (L:List Sym) (J:List Int) (ld:Int→Int):Nat→(Nat→Int)→Int→Option (Int × (Nat→Int))
 | 0,_,_=>none
 | n+1,sz,x=>
  if ld x<0 then some (1,sz)
  else if sz (ld x).toNat≠0 then some (sz (ld x).toNat,sz)
  else match sizA (sizF L J ld n) (kidsL L J (ld x).toNat) 1 (updN sz (ld x).toNat (-1)) with
   | none=>none
   | some (s,sz')=>if s = -1 then some (-1,sz') else some (s,updN sz' (ld x).toNat s)
def argsT (f:Int→Option (List Int)):List Nat→Option (List Int)
 | []=>some []
 | x :: r=>
  match f (x:Int) with
  | none=>none
  | some a=>
   match argsT f r with
   | none=>none
   | some b=>some (a++b)
def tmF (L:List Sym) (J:List Int) (ld:Int→Int):Nat→Int→Option (List Int)
 | 0,_=>none
 | d+1,x=>
  if ld x<0 then some [ld x]
  else match argsT (tmF L J ld d) (kidsL L J (ld x).toNat) with
   | none=>none
   | some u=>some (at' J (ld x) :: u)
theorem argsT_mono {f g:Int→Option (List Int)} (h:∀ x u,f x=some u→g x=some u):∀ (l:List Nat) (u:List Int),argsT f l=some u→argsT g l=some u
 | [],u,e=>e
 | x :: r,u,e=>by
  unfold argsT at e ⊢
  cases h1:f (x:Int) with
  | none=>simp [h1] at e
  | some a=>
   cases h2:argsT f r with
   | none=>simp [h1,h2] at e
   | some b=>
    simp only [h1,h2] at e
    simp only [h _ _ h1,argsT_mono h r b h2]
    exact e
theorem tmF_succ {L:List Sym} {J:List Int} {ld:Int→Int}:∀ {d:Nat} {x:Int} {u:List Int},tmF L J ld d x=some u→tmF L J ld (d+1) x=some u:=by
 intro d
 induction d with
 | zero=>intro x u h;simp [tmF] at h
 | succ d ih=>
  intro x u h
  rw [tmF] at h ⊢
  by_cases h1:ld x<0
  ·rw [if_pos h1] at h ⊢;exact h
  ·rw [if_neg h1] at h ⊢
   cases h2:argsT (tmF L J ld d) (kidsL L J (ld x).toNat) with
   | none=>simp [h2] at h
   | some v=>
    simp only [h2] at h
    rw [argsT_mono (fun y w hy=>ih hy) _ _ h2]
    exact h
theorem tmF_le {L : List Sym} {J : List Int} {ld : Int → Int} {d d' : Nat} (hd : d ≤ d') {x : Int} {u : List Int} (h : tmF L J ld d x = some u) : tmF L J ld d' x = some u := by
  induction d' with
  | zero => obtain rfl : d = 0 := by omega
            exact h
  | succ k ih =>
    by_cases e : d = k + 1
    · subst e; exact h
    · exact tmF_succ (ih (by omega))
def Val (L:List Sym) (J:List Int) (ld:Int→Int) (x:Int) (u:List Int):Prop:=∃ d,tmF L J ld d x=some u
theorem Val.uniq {L:List Sym} {J:List Int} {ld:Int→Int} {x:Int} {u v:List Int} (h:Val L J ld x u) (k:Val L J ld x v):u=v:=by
 obtain ⟨d,hd⟩:=h
 obtain ⟨e,he⟩:=k
 have h1:=tmF_le (Nat.le_max_left d e) hd
 have h2:=tmF_le (Nat.le_max_right d e) he
 rw [h1] at h2;simpa using h2
def Vals (L:List Sym) (J:List Int) (ld:Int→Int) (l:List Nat) (u:List Int):Prop:=∃ d,argsT (tmF L J ld d) l=some u
theorem vals_nil (L:List Sym) (J:List Int) (ld:Int→Int):Vals L J ld [] []:=⟨0,rfl⟩
theorem vals_cons {L:List Sym} {J:List Int} {ld:Int→Int} {x:Nat} {r:List Nat} {u v:List Int} (h:Val L J ld x u) (k:Vals L J ld r v):Vals L J ld (x :: r) (u++v):=by
 obtain ⟨d,hd⟩:=h
 obtain ⟨e,he⟩:=k
 refine ⟨max d e,?_⟩
 have h2:=argsT_mono (g:=tmF L J ld (max d e)) (fun y w hy=>tmF_le (Nat.le_max_right d e) hy) _ _ he
 simp only [argsT,tmF_le (Nat.le_max_left d e) hd,h2]
theorem vals_split {L:List Sym} {J:List Int} {ld:Int→Int} {x:Nat} {r:List Nat} {u:List Int} (h:Vals L J ld (x :: r) u):∃ a b,Val L J ld x a∧Vals L J ld r b∧u=a++b:=by
 obtain ⟨d,hd⟩:=h
 unfold argsT at hd
 cases h1:tmF L J ld d (x:Int) with
 | none=>simp [h1] at hd
 | some a=>
  cases h2:argsT (tmF L J ld d) r with
  | none=>simp [h1,h2] at hd
  | some b=>simp only [h1,h2,Option.some.injEq] at hd;exact ⟨a,b,⟨d,h1⟩,⟨d,h2⟩,hd.symm⟩
theorem val_var {L:List Sym} {J:List Int} {ld:Int→Int} {x:Int} (h:ld x<0):Val L J ld x [ld x]:=⟨1,by rw [tmF,if_pos h]⟩
theorem val_sym {L:List Sym} {J:List Int} {ld:Int→Int} {x:Int} (h:¬ ld x<0) {u:List Int} (hu:Vals L J ld (kidsL L J (ld x).toNat) u):Val L J ld x (at' J (ld x) :: u):=by
 obtain ⟨d,hd⟩:=hu
 exact ⟨d+1,by rw [tmF,if_neg h,hd]⟩
theorem val_sym' {L:List Sym} {J:List Int} {ld:Int→Int} {x:Int} (h:¬ ld x<0) {u:List Int} (hv:Val L J ld x u):∃ v,u=at' J (ld x) :: v∧Vals L J ld (kidsL L J (ld x).toNat) v:=by
 obtain ⟨d,hd⟩:=hv
 cases d with
 | zero=>simp [tmF] at hd
 | succ d=>
  rw [tmF,if_neg h] at hd
  cases h2:argsT (tmF L J ld d) (kidsL L J (ld x).toNat) with
  | none=>simp [h2] at hd
  | some v=>simp only [h2,Option.some.injEq] at hd;exact ⟨v,hd.symm,d,h2⟩
theorem val_ld {L:List Sym} {J:List Int} {ld:Int→Int} {x y:Int} (h:ld x=ld y) {u:List Int} (hv:Val L J ld x u):Val L J ld y u:=by
 obtain ⟨d,hd⟩:=hv
 cases d with
 | zero=>simp [tmF] at hd
 | succ d=>rw [tmF,h] at hd;exact ⟨d+1,by rw [tmF];exact hd⟩
def SzOk (sz:Nat→Int):Prop:=∀ p,sz p = -1∨(0≤sz p∧sz p≤2001)
theorem SzOk.upd {sz:Nat→Int} (h:SzOk sz) (p:Nat) {v:Int} (hv:v = -1∨(0≤v∧v≤2001)):SzOk (updN sz p v):=fun k=>by
 unfold updN;split
 ·exact hv
 ·exact h k
theorem sizA_ok {f:(Nat→Int)→Int→Option (Int × (Nat→Int))} (hf:∀ sz x k sz', SzOk sz→f sz x=some (k,sz')→SzOk sz' ∧ (k = -1∨(1≤k∧k≤2001))):∀ (l:List Nat) (s:Int) (sz:Nat→Int) (k:Int) (sz' : Nat→Int),SzOk sz→1≤s→s≤2001→sizA f l s sz=some (k,sz')→SzOk sz' ∧ (k = -1∨(1≤k∧k≤2001))
 | [],s,sz,k,sz', h,h1,h2,e=>by
  simp only [sizA,Option.some.injEq,Prod.mk.injEq] at e
  obtain ⟨rfl,rfl⟩:=e
  exact ⟨h,.inr ⟨h1,h2⟩⟩
 | x :: r,s,sz,k,sz', h,h1,h2,e=>by
  unfold sizA at e
  cases hx:f sz (x:Int) with
  | none=>simp [hx] at e
  | some v=>
   obtain ⟨k1,sz1⟩:=v
   simp only [hx] at e
   obtain ⟨g1,g2⟩:=hf _ _ _ _ h hx
   by_cases hk:k1 = -1
   ·rw [if_pos hk] at e
    simp only [Option.some.injEq,Prod.mk.injEq] at e
    obtain ⟨rfl,rfl⟩:=e
    exact ⟨g1,.inl rfl⟩
   ·rw [if_neg hk] at e
    exact sizA_ok hf r _ _ _ _ g1 (by omega) (by omega) e
theorem sizF_ok {L:List Sym} {J:List Int} {ld:Int→Int}:∀ (n:Nat) (sz:Nat→Int) (x k:Int) (sz' : Nat→Int),SzOk sz→sizF L J ld n sz x=some (k,sz')→SzOk sz' ∧ (k = -1∨(1≤k∧k≤2001)):=by
 intro n
 induction n with
 | zero=>intro sz x k sz' _ e;simp [sizF] at e
 | succ n ih=>
  intro sz x k sz' h e
  rw [sizF] at e
  by_cases h1:ld x<0
  ·rw [if_pos h1] at e
   simp only [Option.some.injEq,Prod.mk.injEq] at e
   obtain ⟨rfl,rfl⟩:=e
   exact ⟨h,.inr ⟨by omega,by omega⟩⟩
  ·rw [if_neg h1] at e
   by_cases h2:sz (ld x).toNat≠0
   ·rw [if_pos h2] at e
    simp only [Option.some.injEq,Prod.mk.injEq] at e
    obtain ⟨rfl,rfl⟩:=e
    exact ⟨h,by have:=h (ld x).toNat;omega⟩
   ·rw [if_neg h2] at e
    cases h3:sizA (sizF L J ld n) (kidsL L J (ld x).toNat) 1 (updN sz (ld x).toNat (-1)) with
    | none=>simp [h3] at e
    | some v=>
     obtain ⟨s,sz1⟩:=v
     obtain ⟨g1,g2⟩:=sizA_ok ih _ _ _ _ _ (h.upd _ (.inl rfl)) (by omega) (by omega) h3
     simp only [h3] at e
     by_cases hs:s = -1
     ·rw [if_pos hs] at e
      simp only [Option.some.injEq,Prod.mk.injEq] at e
      obtain ⟨rfl,rfl⟩:=e
      exact ⟨g1,.inl rfl⟩
     ·rw [if_neg hs] at e
      simp only [Option.some.injEq,Prod.mk.injEq] at e
      obtain ⟨rfl,rfl⟩:=e
      exact ⟨g1.upd _ (by omega),by omega⟩
def unk (N:Nat) (sz:Nat→Int):Nat:=(List.range N).countP (fun p=>decide (sz p=0))
theorem unk_upd_le {N:Nat} {sz:Nat→Int} {p:Nat} {v:Int} (hv:v≠0):unk N (updN sz p v)≤unk N sz:=
 countP_le (fun x _ h=>by
  have h' : updN sz p v x=0:=of_decide_eq_true h
  refine decide_eq_true ?_
  unfold updN at h'
  by_cases e:x=p
  ·rw [if_pos e] at h'; exact absurd h' hv
  ·rw [if_neg e] at h'; exact h')
theorem unk_upd_lt {N:Nat} {sz:Nat→Int} {p:Nat} {v:Int} (hv:v≠0) (hp:p<N) (h0:sz p=0):unk N (updN sz p v)<unk N sz:=
 countP_lt (y:=p) (fun x _ h=>by
  have h' : updN sz p v x=0:=of_decide_eq_true h
  refine decide_eq_true ?_
  unfold updN at h'
  by_cases e:x=p
  ·rw [if_pos e] at h'; exact absurd h' hv
  ·rw [if_neg e] at h'; exact h') (by simpa using hp) (by simpa using h0) (by simp [updN,hv])
theorem starts_lt {L:List Sym} {J:List Int}:∀ {k p q:Nat},Forest L J k p q→∀ x∈starts L J k p,x<J.length
 | 0,p,q,h,x,hx=>by simp [starts] at hx
 | k+1,p,q,h,x,hx=>by
  obtain ⟨h1,h2,h3⟩:=h.succ
  simp only [starts,List.mem_cons] at hx
  rcases hx with e | e
  ·rw [e];have:=h1.le;omega
  ·exact starts_lt h3 x e
theorem kids_forest {L:List Sym} {J:List Int} (hT:Trs L J) {p:Nat} (hp:p<J.length):Forest L J (arN L (at' J p)) (p+1) (endN L J p):=by
 rw [at'_nat J p hp];exact hT.kids hp
theorem kids_lt {L:List Sym} {J:List Int} (hT:Trs L J) {p:Nat} (hp:p<J.length):∀ x∈kidsL L J p,x<J.length:=starts_lt (kids_forest hT hp)
theorem sizA_ends {N:Nat} {f:(Nat→Int)→Int→Option (Int × (Nat→Int))} {m:Nat} (l:List Nat) (hf:∀ sz,unk N sz<m→SzOk sz→∀ x∈l,∃ k sz', f sz (x:Int)=some (k,sz')∧unk N sz' ≤ unk N sz∧SzOk sz'):∀ (s:Int) (sz:Nat→Int),unk N sz<m→SzOk sz→∃ k sz', sizA f l s sz=some (k,sz')∧unk N sz' ≤ unk N sz:=by
 induction l with
 | nil=>intro s sz h h'; exact ⟨s,sz,rfl,Nat.le_refl _⟩
 | cons x r ih=>
  intro s sz h h'
  obtain ⟨k,sz1,h1,h2,h3⟩:=hf sz h h' x (by simp)
  by_cases hk:k = -1
  ·exact ⟨-1,sz1,by simp [sizA,h1,hk],h2⟩
  ·obtain ⟨k2,sz2,g1,g2⟩:=ih (fun sz a b y hy=>hf sz a b y (by simp [hy])) (min (s+k) 2001) sz1 (by omega) h3
   exact ⟨k2,sz2,by simp only [sizA,h1];rw [if_neg hk];exact g1,by omega⟩
theorem sizF_ends {L:List Sym} {J:List Int} {ld:Int→Int} (hT:Trs L J) (hl:LdOk J ld):∀ (n:Nat) (sz:Nat→Int) (x:Int),UPart J x→SzOk sz→unk J.length sz<n→∃ k sz', sizF L J ld n sz x=some (k,sz')∧unk J.length sz' ≤ unk J.length sz:=by
 intro n
 induction n with
 | zero=>intro sz x _ _ h;omega
 | succ n ih=>
  intro sz x hx hs hn
  rw [sizF]
  by_cases h1:ld x<0
  ·rw [if_pos h1];exact ⟨_,_,rfl,Nat.le_refl _⟩
  ·rw [if_neg h1]
   by_cases h2:sz (ld x).toNat≠0
   ·rw [if_pos h2];exact ⟨_,_,rfl,Nat.le_refl _⟩
   ·rw [if_neg h2]
    have hp:(ld x).toNat<J.length:=by have:=(hl.part x hx).2;omega
    have h0:sz (ld x).toNat=0:=by simpa using h2
    have hlt:=unk_upd_lt (N:=J.length) (sz:=sz) (v:=-1) (by omega) hp h0
    obtain ⟨k,sz1,g1,g2⟩:=sizA_ends (N:=J.length) (m:=n) (f:=sizF L J ld n) (kidsL L J (ld x).toNat) (fun sz a b y hy=>by
     obtain ⟨k,sz', e1,e2⟩:=ih sz y (part_nat (kids_lt hT hp y hy)) b a
     exact ⟨k,sz', e1,e2,(sizF_ok n _ _ _ _ b e1).1⟩) 1 (updN sz (ld x).toNat (-1)) (by omega) (hs.upd _ (.inl rfl))
    rw [g1]
    simp only
    by_cases hk:k = -1
    ·rw [if_pos hk];exact ⟨_,_,rfl,by omega⟩
    ·rw [if_neg hk]
     obtain ⟨_,hkk⟩:=sizA_ok (fun sz x k sz' => sizF_ok n sz x k sz') _ _ _ _ _ (hs.upd _ (.inl rfl)) (by omega) (by omega) g1
     have:=unk_upd_le (N:=J.length) (sz:=sz1) (p:=(ld x).toNat) (v:=k) (by omega)
     exact ⟨_,_,rfl,by omega⟩
def Known (L:List Sym) (J:List Int) (ld:Int→Int) (sz:Nat→Int):Prop:=∀ p:Nat,p<J.length→ld p=p→0<sz p→∃ u,Val L J ld p u∧sz p=min (u.length:Int) 2001
theorem sizA_known {L:List Sym} {J:List Int} {ld:Int→Int} {n:Nat} (hf:∀ sz x k sz', UPart J x→SzOk sz→Known L J ld sz→sizF L J ld n sz x=some (k,sz')→Known L J ld sz' ∧ (k ≠ -1→∃ u,Val L J ld x u∧k=min (u.length:Int) 2001)):∀ (l:List Nat),(∀ x∈l,x<J.length)→∀ (s0:Int) (n0:Nat) (sz:Nat→Int) (k:Int) (sz' : Nat→Int),SzOk sz→Known L J ld sz→s0=min (n0:Int) 2001→sizA (sizF L J ld n) l s0 sz=some (k,sz')→Known L J ld sz' ∧ (k ≠ -1→∃ u,Vals L J ld l u∧k=min ((n0+u.length:Nat):Int) 2001)
 | [],_,s0,n0,sz,k,sz', h1,h2,h3,e=>by
  simp only [sizA,Option.some.injEq,Prod.mk.injEq] at e
  obtain ⟨rfl,rfl⟩:=e
  exact ⟨h2,fun _=>⟨[],vals_nil _ _ _,by simpa using h3⟩⟩
 | x :: r,hl,s0,n0,sz,k,sz', h1,h2,h3,e=>by
  unfold sizA at e
  cases hx:sizF L J ld n sz (x:Int) with
  | none=>simp [hx] at e
  | some v=>
   obtain ⟨k1,sz1⟩:=v
   simp only [hx] at e
   obtain ⟨g1,g2⟩:=hf _ _ _ _ (part_nat (hl x (by simp))) h1 h2 hx
   have g3:=sizF_ok n _ _ _ _ h1 hx
   by_cases hk:k1 = -1
   ·rw [if_pos hk] at e
    simp only [Option.some.injEq,Prod.mk.injEq] at e
    obtain ⟨rfl,rfl⟩:=e
    exact ⟨g1,fun f=>absurd rfl f⟩
   ·rw [if_neg hk] at e
    obtain ⟨u,hu,hku⟩:=g2 hk
    have hsum:min (s0+k1) 2001=min ((n0+u.length:Nat):Int) 2001:=by clear g2 g1 g3 e hf;omega
    obtain ⟨f1,f2⟩:=sizA_known hf r (fun y hy=>hl y (by simp [hy])) _ (n0+u.length) _ _ _ g3.1 g1 hsum e
    refine ⟨f1,fun hk' => ?_⟩
    obtain ⟨u2,hu2,hk2⟩:=f2 hk'
    exact ⟨u++u2,vals_cons hu hu2,by rw [hk2,List.length_append];omega⟩
theorem sizF_known {L:List Sym} {J:List Int} {ld:Int→Int} (hT:Trs L J) (hl:LdOk J ld):∀ (n:Nat) (sz:Nat→Int) (x k:Int) (sz' : Nat→Int),UPart J x→SzOk sz→Known L J ld sz→sizF L J ld n sz x=some (k,sz')→Known L J ld sz' ∧ (k ≠ -1→∃ u,Val L J ld x u∧k=min (u.length:Int) 2001):=by
 intro n
 induction n with
 | zero=>intro sz x k sz' _ _ _ e;simp [sizF] at e
 | succ n ih=>
  intro sz x k sz' hx h hK e
  rw [sizF] at e
  by_cases h1:ld x<0
  ·rw [if_pos h1] at e
   simp only [Option.some.injEq,Prod.mk.injEq] at e
   obtain ⟨rfl,rfl⟩:=e
   exact ⟨hK,fun _=>⟨_,val_var h1,by simp only [List.length_singleton];omega⟩⟩
  ·rw [if_neg h1] at e
   obtain ⟨p,hp⟩:=Int.eq_ofNat_of_zero_le (Int.not_lt.1 h1)
   have hpl:p<J.length:=by have:=(hl.part x hx).2;omega
   have hpp:ld (p:Int)=p:=by
    have:=hl.idem x hx
    rw [hp] at this;exact this
   have e1:(ld x).toNat=p:=by omega
   rw [e1] at e
   by_cases h2:sz p≠0
   ·rw [if_pos h2] at e
    simp only [Option.some.injEq,Prod.mk.injEq] at e
    obtain ⟨rfl,rfl⟩:=e
    refine ⟨hK,fun hk=>?_⟩
    obtain ⟨u,hu,hz⟩:=hK p hpl hpp (by have:=h p;omega)
    exact ⟨u,val_ld (by rw [hpp,hp]) hu,hz⟩
   ·rw [if_neg h2] at e
    have h0:sz p=0:=by simpa using h2
    have hK2:Known L J ld (updN sz p (-1)):=by
     intro q hq hqq hs
     unfold updN at hs ⊢
     by_cases e:q=p
     ·rw [if_pos e] at hs;omega
     ·rw [if_neg e] at hs ⊢;exact hK q hq hqq hs
    cases h3:sizA (sizF L J ld n) (kidsL L J p) 1 (updN sz p (-1)) with
    | none=>simp [h3] at e
    | some v=>
     obtain ⟨s,sz1⟩:=v
     obtain ⟨g1,g2⟩:=sizA_known ih _ (kids_lt hT hpl) 1 1 _ _ _ (h.upd _ (.inl rfl)) hK2 (by decide) h3
     obtain ⟨o1,o2⟩:=sizA_ok (fun sz x k sz' => sizF_ok n sz x k sz') _ _ _ _ _ (h.upd _ (.inl rfl)) (by omega) (by omega) h3
     simp only [h3] at e
     by_cases hs:s = -1
     ·rw [if_pos hs] at e
      simp only [Option.some.injEq,Prod.mk.injEq] at e
      obtain ⟨rfl,rfl⟩:=e
      exact ⟨g1,fun f=>absurd rfl f⟩
     ·rw [if_neg hs] at e
      simp only [Option.some.injEq,Prod.mk.injEq] at e
      obtain ⟨rfl,rfl⟩:=e
      obtain ⟨u,hu,hz⟩:=g2 hs
      have hv:Val L J ld (p:Int) (at' J (p:Int) :: u):=by
       have:=val_sym (L:=L) (J:=J) (ld:=ld) (x:=(p:Int)) (by rw [hpp];omega) (u:=u) (by rw [hpp];simpa using hu)
       rwa [hpp] at this
      have hlen:s=min ((at' J (p:Int) :: u).length:Int) 2001:=by rw [hz];simp;omega
      refine ⟨?_,fun _=>⟨_,val_ld (by rw [hpp,hp]) hv,hlen⟩⟩
      intro q hq hqq hsq
      unfold updN at hsq ⊢
      by_cases e:q=p
      ·subst e
       rw [if_pos rfl]
       exact ⟨_,hv,hlen⟩
      ·rw [if_neg e] at hsq ⊢;exact g1 q hq hqq hsq
end Go.Proofs.YtjahpnbijefncaaGreat
namespace Go.Proofs.YtjahpnbijefncaaGreat
open Go.RowKit
theorem ret_bool {a b:Bool} (h:a=b):Ending.returned (.bool a)=.returned (.bool b):=by rw [h]
theorem ret_int {k:IntKind} {a b:Int} (h:a=b):Ending.returned (.int k a)=.returned (.int k b):=by rw [h]
theorem str_ne {a b:ByteArray} (h:¬ a=b):(a.toList == b.toList)=false  := by
 rw [beq_eq_false_iff_ne]
 intro e
 rw [ByteArray.toList_eq,ByteArray.toList_eq] at e
 exact h (Go.WideShapes.bytes_inj e)
abbrev Same0:World→World→Prop:=Kept (fun _=>False)
theorem Same0.trans' {a b c:World} (h:Same0 a b) (k:Same0 b c):Same0 a c:=Kept.trans h k (fun _ _ f=>f)
theorem Same0.of_below {w w' : World} (h:Below w.heap.size w w'):Same0 w w' := ⟨h.os,h.tape,h.output,h.size,fun k hk _=>h.block k hk⟩
theorem Same0.below {w w' : World} (h:Same0 w w'):Below w.heap.size w w' := Kept.below h (Nat.le_refl _) (fun _ _ f=>f)
theorem Same0.at0 {w w' : World} (h:Same0 w w') {b:Nat} {o:Obj} (hb:w.heap[b]? = some o):w'.heap[b]? = some o:=Kept.at h hb (fun f=>f)
end Go.Proofs.YtjahpnbijefncaaGreat
