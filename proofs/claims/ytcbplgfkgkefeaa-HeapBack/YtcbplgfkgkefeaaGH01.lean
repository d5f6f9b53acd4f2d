import Derived.WalkKit
import Derived.WalkSpells
import Derived.Maps.OwnSet
import Derived.Deep.AppendLies
import Derived.Deep.QuietTactic
import Derived.BigQuiet
import Derived.Test.YtcbplgfkgkefeaaProg
import Derived.KernelRfl
import Derived.Below
import Derived.WideShapes
import Derived.WalkLawsBesides
import Derived.Deep.RegionLaw
import Derived.Deep.DeepCutAuto
import Derived.Deep.DrawnRows
import Derived.Deep.Slices
import Derived.Deep.Strs
import Derived.ProofKit
import Derived.Handy
import Derived.OwnWalk
import Derived.Laws.CopyOwn
import Derived.Laws.AppendOwnNone
import Derived.SizedLaws
import Derived.Deep.RegionHeld3
namespace Go.Proofs.Ytcbplgfkgkefeaa
open Go.RowKit
structure Kept (S:Nat→Prop) (w w' : World):Prop where
 os:w'.os=w.os
 tape:w'.tape=w.tape
 output:w'.output=w.output
 size:w.heap.size≤w'.heap.size
 block:∀ k,k<w.heap.size→¬ S k→w'.heap[k]? = w.heap[k]?
theorem Kept.refl (S:Nat→Prop) (w:World):Kept S w w:=⟨rfl,rfl,rfl,Nat.le_refl _,fun _ _ _=>rfl⟩
theorem Kept.trans {S S' : Nat→Prop} {a b c:World} (h:Kept S a b) (k:Kept S' b c) (hs:∀ i,i<a.heap.size→S' i→S i):Kept S a c:=
 ⟨k.os.trans h.os,k.tape.trans h.tape,k.output.trans h.output,Nat.le_trans h.size k.size,fun i hi hn=>(k.block i (Nat.lt_of_lt_of_le hi h.size) (fun x=>hn (hs i hi x))).trans (h.block i hi hn)⟩
theorem Kept.mono {S S' : Nat→Prop} {w w' : World} (h:Kept S w w') (hs:∀ i,i<w.heap.size→S i→S' i):Kept S' w w' :=
 ⟨h.os,h.tape,h.output,h.size,fun k hk hn=>h.block k hk (fun x=>hn (hs k hk x))⟩
theorem Kept.drew {S:Nat→Prop} {a w:World} (h:Kept S a w):Kept S a w.drew:=⟨h.os,h.tape,h.output,h.size,h.block⟩
theorem Kept.drewN {S:Nat→Prop} {a w:World} (h:Kept S a w) (n:Nat):Kept S a (w.drewN n):=⟨h.os,h.tape,h.output,h.size,h.block⟩
theorem Kept.alloc {S:Nat→Prop} {a w:World} (h:Kept S a w) (o:Obj):Kept S a (w.alloc o):=
 h.trans (S' := fun _=>False) ⟨rfl,rfl,rfl,by simp,fun k hk _=>Below.heap_alloc _ _ _ hk⟩ (fun _ _ x=>x.elim)
theorem Kept.setCell {S:Nat→Prop} {a w:World} (h:Kept S a w) {p:Addr} (hp:p.block<a.heap.size→S p.block) (u:Value):Kept S a (w.setCell p u):=
 h.trans (S' := fun k=>k=p.block) ⟨rfl,rfl,rfl,by simp [World.setCell],fun k _ hn=>Below.heap_setCell _ _ _ _ hn⟩ (fun i hi e=>by subst e;exact hp hi)
theorem Kept.grown {S:Nat→Prop} {a w w' : World} {row:Option Nat} (h:Kept S a w) (hg:w.grownBy w' row) (hr:∀ k,row=some k→k<a.heap.size→S k):Kept S a w' :=
 h.trans (S' := fun k=>row=some k) ⟨hg.os,hg.tape,hg.output,hg.size,fun k hk hn=>hg.block k hk (fun e=>hn e.symm)⟩ (fun i hi e=>hr i e hi)
theorem Kept.below {S:Nat→Prop} {w w' : World} {B:Nat} (h:Kept S w w') (hB:B≤w.heap.size) (hs:∀ k,k<B→¬ S k):Below B w w' :=
 ⟨h.os,h.tape,h.output,h.size,fun k hk=>h.block k (by omega) (hs k hk)⟩
theorem Kept.cell {S:Nat→Prop} {w w' : World} (h:Kept S w w') {p:Addr} (hp:p.block<w.heap.size) (hn:¬ S p.block):w'.cell? p=w.cell? p:=World.cell?_of_block (h.block p.block hp hn)
theorem Kept.at {S:Nat→Prop} {w w' : World} (h:Kept S w w') {b:Nat} {o:Obj} (hb:w.heap[b]? = some o) (hn:¬ S b):w'.heap[b]? = some o:=
 (h.block b (Array.getElem?_eq_some_iff.1 hb).1 hn).trans hb
theorem lt_of_at {w:World} {b:Nat} {o:Obj} (hb:w.heap[b]? = some o):b<w.heap.size:=(Array.getElem?_eq_some_iff.1 hb).1
theorem Kept.row {S:Nat→Prop} {w w' : World} (h:Kept S w w') {base:Nat} {e:TypeId} {size:Nat} {v:Value} {n:Nat} {xs:List Value} (hr:w.ownsRow base e size v n xs) (hn:∀ k,v.ownBlock=some k→¬ S k):w'.ownsRow base e size v n xs:=by
 refine ⟨hr.1,?_⟩
 rcases hr.2 with h0 | ⟨g,cap,cur,rfl,hb,hg,r⟩
 ·exact .inl h0
 ·exact .inr ⟨g,cap,cur,rfl,hb,h.at hg (hn g rfl),r⟩
theorem cellAt {w:World} {b:Nat} {cs:Array Value} {t:TypeId} {fr:Nat × Nat} (h:w.heap[b]? = some (.cells cs t fr)) (o:Nat):w.cell? ⟨b,o,none⟩=cs[o]? := by
 simp [World.cell?,h]
theorem frozenAt {w:World} {b:Nat} {cs:Array Value} {t:TypeId} (h:w.heap[b]? = some (.cells cs t (0,0))) (o:Nat):w.frozen? ⟨b,o,none⟩=false:=by
 simp [World.frozen?,h]
theorem setAt {w:World} {b:Nat} {cs:Array Value} {t:TypeId} {fr:Nat × Nat} (h:w.heap[b]? = some (.cells cs t fr)) (o:Nat) (v:Value):(w.setCell ⟨b,o,none⟩ v).heap[b]? = some (.cells (cs.setIfInBounds o v) t fr):=by
 simp [World.setCell,Array.getElem?_modify,h]
theorem row_shape {w:World} {base:Nat} {e:TypeId} {size:Nat} {v:Value} {n:Nat} {xs:List Value} (h:w.ownsRow base e size v n xs):∃ ao cap,v=.slice ao n cap:=by
 rcases h.2 with ⟨rfl,h0⟩ | ⟨g,cap,cur,rfl,_⟩
 ·exact ⟨none,0,by rw [h0]⟩
 ·exact ⟨_,cap,rfl⟩
end Go.Proofs.Ytcbplgfkgkefeaa
namespace Go.Proofs.Ytcbplgfkgkefeaa
set_option linter.unusedVariables false
abbrev Nd:=Int × List Int × Int × Bool × Int
def downL (n:Nd):List Int:=if n.2.2.2.1=true then [n.2.2.2.2] else n.2.1
def InL (l:List Nd):Prop:=∀ i (h:i<l.length),∀ x∈downL l[i],0≤x∧x<(l.length:Int)
def Ed (l:List Nd) (i j:Nat):Prop:=∃ h:i<l.length,(j:Int)∈downL l[i]
def Ac (l:List Nd):Prop:=∃ r:Nat→Nat,∀ i j,Ed l i j→r j<r i
def Rk (l:List Nd):Nat→Nat→Nat→Prop
 | 0,i,j=>i=j
 | k+1,i,j=>∃ m,Ed l i m∧Rk l k m j
def Rc (l:List Nd) (i j:Nat):Prop:=∃ k,Rk l k i j
theorem Rc.refl (l:List Nd) (i:Nat):Rc l i i:=⟨0,rfl⟩
theorem Rk.snoc {l:List Nd}:∀ {k i m j:Nat},Rk l k i m→Ed l m j→Rk l (k+1) i j
 | 0,i,m,j,h,e=>by cases h;exact ⟨j,e,rfl⟩
 | k+1,i,m,j,⟨x,h1,h2⟩,e=>⟨x,h1,h2.snoc e⟩
theorem Rc.snoc {l:List Nd} {i m j:Nat} (h:Rc l i m) (e:Ed l m j):Rc l i j:=by
 obtain ⟨n,hn⟩:=h
 exact ⟨n+1,hn.snoc e⟩
theorem Rc.in {l:List Nd} {S:Nat→Prop} (hS:∀ i j,S i→Ed l i j→S j) {i j:Nat} (hi:S i) (h:Rc l i j):S j:=by
 obtain ⟨k,hk⟩:=h
 induction k generalizing i with
 | zero=>cases hk;exact hi
 | succ k ih=>
  obtain ⟨m,h1,h2⟩:=hk
  exact ih (hS i m hi h1) h2
theorem ed_set {l:List Nd} {a:Nat} {x:Nd} {i j:Nat} (h:Ed (l.set a x) i j):(i≠a∧Ed l i j)∨(i=a∧(j:Int)∈downL x):=by
 obtain ⟨hi,hm⟩:=h
 by_cases e:i=a
 ·subst e
  rw [List.getElem_set_self] at hm
  exact .inr ⟨rfl,hm⟩
 ·rw [List.getElem_set_ne (by omega)] at hm
  exact .inl ⟨e,by simpa using hi,hm⟩
theorem Ac.point {l:List Nd} (h:Ac l) {a t:Nat} (hn:¬ Rc l t a) (x:Nd) (hx:∀ j:Nat,(j:Int)∈downL x→j=t):Ac (l.set a x):=by
 obtain ⟨r,hr⟩:=h
 have dec:∀ i,Rc l t i∨¬ Rc l t i:=fun i=>Classical.em _
 obtain ⟨f,hf⟩:=Classical.axiomOfChoice (r:=fun (i:Nat) (n:Nat)=>(Rc l t i→n=r i)∧(¬ Rc l t i→n=r i+(r t+1))) (fun i=>by
  rcases dec i with q | q
  ·exact ⟨r i,fun _=>rfl,fun e=>absurd q e⟩
  ·exact ⟨r i+(r t+1),fun e=>absurd e q,fun _=>rfl⟩)
 refine ⟨f,fun i j e=>?_⟩
 have up:∀ i,r i≤f i∧f i≤r i+(r t+1):=fun i=>by
  rcases dec i with q | q
  ·have:=(hf i).1 q;omega
  ·have:=(hf i).2 q;omega
 rcases ed_set e with ⟨hne,e1⟩ | ⟨rfl,e1⟩
 ·have h1:=hr i j e1
  rcases dec i with q | q
  ·have h2:=(hf i).1 q
   have h3:=(hf j).1 (q.snoc e1)
   omega
  ·have h2:=(hf i).2 q
   have h3:=(up j).2
   omega
 ·obtain rfl:=hx j e1
  have h2:=(hf i).2 hn
  have h3:=(hf j).1 (Rc.refl l j)
  omega
theorem ed_snoc {l:List Nd} {x:Nd} {i j:Nat} (h:Ed (l ++ [x]) i j):Ed l i j∨(i=l.length∧(j:Int)∈downL x):=by
 obtain ⟨hi,hm⟩:=h
 by_cases e:i<l.length
 ·rw [List.getElem_append_left e] at hm
  exact .inl ⟨e,hm⟩
 ·obtain rfl:i=l.length:=by simp at hi;omega
  exact .inr ⟨rfl,by simpa using hm⟩
def topR (r:Nat→Nat):List Int→Nat
 | []=>0
 | x :: l=>max (r x.toNat) (topR r l)
theorem topR_le {r:Nat→Nat}:∀ {l:List Int} {j:Nat},(j:Int)∈l→r j≤topR r l
 | x :: l,j,h=>by
  rcases List.mem_cons.1 h with e | e
  ·simp only [topR,← e,Int.toNat_natCast];omega
  ·have:=topR_le (r:=r) e
   simp only [topR];omega
theorem Ac.make {l:List Nd} (h:Ac l) (hl:InL l) (x:Nd) (hx:∀ z∈downL x,0≤z∧z<(l.length:Int)):Ac (l ++ [x]):=by
 obtain ⟨r,hr⟩:=h
 refine ⟨fun i=>if i=l.length then topR r (downL x)+1 else r i,fun i j e=>?_⟩
 rcases ed_snoc e with e1 | ⟨rfl,e1⟩
 ·have hi:i<l.length:=e1.1
  have hj:(j:Int)<(l.length:Int):=(hl i hi _ e1.2).2
  simp only [if_neg (show ¬ i=l.length by omega),if_neg (show ¬ j=l.length by omega)]
  exact hr i j e1
 ·have hj:=(hx _ e1).2
  simp only [if_neg (show ¬ j=l.length by omega),if_true]
  have:=topR_le (r:=r) e1
  omega
end Go.Proofs.Ytcbplgfkgkefeaa
namespace Go.Proofs.Ytcbplgfkgkefeaa
end Go.Proofs.Ytcbplgfkgkefeaa
namespace Go.Proofs.Ytcbplgfkgkefeaa
open Go.RowKit
structure Sym where
 name:ByteArray
 ar:Int
 df:Bool
end Go.Proofs.Ytcbplgfkgkefeaa
namespace Go.Proofs.Ytcbplgfkgkefeaa
def arN (L:List Sym) (n:Int):Nat:=if n<0 then 0 else match L[n.toNat]? with | some x=>x.ar.toNat | none=>0
def scan (L:List Sym):Nat→List Int→Option Nat
 | 0,_=>some 0
 | _+1,[]=>none
 | k+1,x :: r=>(scan L (k+arN L x) r).map (· + 1)
def endO (L:List Sym) (t:List Int) (p:Nat):Option Nat:=(scan L 1 (t.drop p)).map (p + ·)
def endN (L:List Sym) (t:List Int) (p:Nat):Nat:=(endO L t p).getD t.length
def starts (L:List Sym) (t:List Int):Nat→Nat→List Nat
 | 0,_=>[]
 | k+1,p=>p :: starts L t k (endN L t p)
def argsN (L:List Sym) (t:List Int) (p:Nat):List Nat:=starts L t (arN L (t.getD p 0)) (p+1)
def bump:List (Nat × Nat)→List (Nat × Nat)
 | []=>[]
 | (j,a) :: st=>if j+1<a then (j+1,a) :: st else bump st
def pass (st:List (Nat × Nat)) (a:Nat):List (Nat × Nat):=if 0<a then (0,a) :: st else bump st
def run (L:List Sym) (st:List (Nat × Nat)) (ts:List Int):List (Nat × Nat):=ts.foldl (fun s x=>pass s (arN L x)) st
def way (L:List Sym) (t:List Int) (p:Nat):List (Nat × Nat):=run L [] (t.take p)
def leads (L:List Sym) (t:List Int):Nat→List Int→Option Nat
 | p,[]=>some p
 | p,n :: r=>if n<0 then none else match (argsN L t p)[n.toNat]? with | some q=>leads L t q r | none=>none
end Go.Proofs.Ytcbplgfkgkefeaa
namespace Go.Proofs.Ytcbplgfkgkefeaa
open Go.RowKit
theorem ret_bool {a b:Bool} (h:a=b):Ending.returned (.bool a)=.returned (.bool b):=by rw [h]
theorem ret_int {k:IntKind} {a b:Int} (h:a=b):Ending.returned (.int k a)=.returned (.int k b):=by rw [h]
abbrev Same0:World→World→Prop:=Kept (fun _=>False)
theorem Same0.trans' {a b c:World} (h:Same0 a b) (k:Same0 b c):Same0 a c:=Kept.trans h k (fun _ _ f=>f)
theorem Same0.below {w w' : World} (h:Same0 w w'):Below w.heap.size w w' := Kept.below h (Nat.le_refl _) (fun _ _ f=>f)
theorem Same0.at0 {w w' : World} (h:Same0 w w') {b:Nat} {o:Obj} (hb:w.heap[b]? = some o):w'.heap[b]? = some o:=Kept.at h hb (fun f=>f)
end Go.Proofs.Ytcbplgfkgkefeaa
namespace Go.Proofs.Ytcbplgfkgkefeaa
set_option maxRecDepth 100000
open Go.RowKit
end Go.Proofs.Ytcbplgfkgkefeaa
namespace Go.Proofs.Ytcbplgfkgkefeaa
set_option maxRecDepth 100000
open Go.RowKit
attribute [local go_sem ↓] Go.wp_at_zero Go.wp_at_succ
end Go.Proofs.Ytcbplgfkgkefeaa
namespace Go.Proofs.Ytcbplgfkgkefeaa
open Go.RowKit Go.Deep
def SymsAt (w:World) (ao:Option Addr) (len:Nat) (xs:List Sym):Prop:=
 xs.length=len∧(len=0∨∃ b off,ao=some ⟨b,off,none⟩∧b<w.heap.size∧∀ i (h:i<xs.length),w.cell? ⟨b,off+i * 3,none⟩=some (.string xs[i].name)∧w.cell? ⟨b,off+i * 3+1,none⟩=some (.int .i64 xs[i].ar)∧w.cell? ⟨b,off+i * 3+2,none⟩=some (.bool xs[i].df)) ∧
 ∀ x∈xs,x.name.size≤maxLen∧(Lit.int .i64 x.ar).wf=true
section
variable {H : Type} {enc : TypeId × Value → H} {w : World} {spare : Nat → Bool} {held : Bool}
theorem cells_int:Try.prog.cellsOf 3=1:=by kernel_rfl
set_option maxRecDepth 100000 in
theorem open_elems {t e c fuel:Nat} {ao:Option Addr} {len cap:Nat} {x:DataW H × List MemPlace} (ht:Try.prog.underlying t=some (.slice e)) (hc:Try.prog.cellsOf e=c) (h0:0<c) (h:DataW.trod enc Try.prog w 0 spare held fuel t [.slice ao len cap]=some x) :
  (ao=none∧len=0∧cap=0)∨∃ a,ao=some a∧len≤cap∧cap≤maxLen∧∀ i,i<len→a=⟨a.block,a.off,none⟩∧a.block<w.heap.size∧∃ cs n y,cs.length=c∧(∀ j,j<c→w.cell? ⟨a.block,a.off+i * c+j,none⟩=cs[j]?)∧DataW.trod enc Try.prog w 0 spare held n e cs=some y:=by
 rcases open_slice ht h with ⟨hcs,_⟩ | ⟨a,len', cap', m,n,D,Pl,hcs,_,hl,hm,hmm,rfl,hx⟩
 ·simp at hcs;exact .inl ⟨hcs.1,hcs.2.1,hcs.2.2⟩
 ·simp at hcs
  obtain ⟨rfl,rfl,rfl⟩:=hcs
  refine .inr ⟨a,rfl,hl,hm,fun i hi=>?_⟩
  have hmi:i<m:=by rw [hmm];split <;> omega
  have hm0:0<m:=by omega
  obtain ⟨cs0,g0,_⟩:=hx 0 hm0
  rw [hc] at g0
  obtain ⟨_,gl,gc⟩:=World.cells?_some g0
  have hsp:a.spot=none:=by
   have:=gc 0 h0
   have hv:cs0[0]? = some (cs0[0]'(by omega)):=List.getElem?_eq_getElem (by omega)
   rw [hv] at this
   simp [Addr.add] at this
   exact World.cell?_spot this
  have hlt:a.block<w.heap.size:=World.cells?_block (by simpa [Addr.add] using g0) h0
  have ea:a=⟨a.block,a.off,none⟩:=by cases a;simp_all
  obtain ⟨cs,g1,g2⟩:=hx i hmi
  rw [hc] at g1
  obtain ⟨_,gl1,gc1⟩:=World.cells?_some g1
  refine ⟨ea,hlt,cs,n,_,gl1,fun j hj=>?_,g2⟩
  rw [← gc1 j hj,add_add]
  congr 1
  unfold Addr.add
  split
  ·rw [ea];simp;omega
  ·simp
end
end Go.Proofs.Ytcbplgfkgkefeaa
namespace Go.Proofs.Ytcbplgfkgkefeaa
set_option maxRecDepth 100000
open Go.RowKit
attribute [local go_sem ↓] Go.wp_at_zero Go.wp_at_succ
def IntsAt (w:World) (ao:Option Addr) (xs:List Int):Prop:=
 xs=[]∨∃ b off,ao=some ⟨b,off,none⟩∧b<w.heap.size∧∀ i (h:i<xs.length),w.cell? ⟨b,off+i,none⟩=some (.int .i64 xs[i])
theorem IntsAt.kept {w w' : World} {S:Nat→Prop} {ao:Option Addr} {xs:List Int} (h:IntsAt w ao xs) (hk:Kept S w w') (hs:∀ a,ao=some a→¬ S a.block):IntsAt w' ao xs:=by
 refine h.imp id ?_
 rintro ⟨b,off,rfl,hlt,hc⟩
 exact ⟨b,off,rfl,Nat.lt_of_lt_of_le hlt hk.size,fun i hi=>(hk.cell (p:=⟨b,off+i,none⟩) hlt (hs ⟨b,off,none⟩ rfl)).trans (hc i hi)⟩
theorem IntsAt.same {w w' : World} {ao:Option Addr} {xs:List Int} (h:IntsAt w ao xs) (hk:Same0 w w'):IntsAt w' ao xs:=h.kept hk (fun _ _ f=>f)
theorem IntsAt.get {w:World} {ao:Option Addr} {xs:List Int} (h:IntsAt w ao xs) {i:Nat} (hi:i<xs.length):∃ b off,ao=some ⟨b,off,none⟩∧b<w.heap.size∧w.cell? ⟨b,off+i,none⟩=some (.int .i64 xs[i]):=by
 rcases h with rfl | ⟨b,off,e,hlt,hc⟩
 ·simp at hi
 ·exact ⟨b,off,e,hlt,hc i hi⟩
def iv (xs:List Int):List Value:=xs.map (Value.int .i64)
theorem iv_length (xs:List Int):(iv xs).length=xs.length:=by simp [iv]
theorem iv_append (xs ys:List Int):iv (xs++ys)=iv xs++iv ys:=by simp [iv]
theorem iv_get {xs:List Int} {i:Nat} (h:i<xs.length):(iv xs)[i]? = some (.int .i64 xs[i]):=by simp [iv,h]
theorem info_intT:(Try.prog.info? 3).map (fun i=>(i.zero,i.size,i.bytes))=some (some (.int .i64 0),1,8):=by kernel_rfl
abbrev Row (base:Nat) (w:World) (v:Value) (xs:List Int):Prop:=w.ownsRow base 3 1 v xs.length (iv xs)
def ofN (l:List Nat):List Int:=l.map (fun (x:Nat)=>(x:Int))
theorem Same0.grown {w w1 w2:World} (h:Same0 w w1) (hg:w1.grownBy w2 none):Same0 w w2:=Kept.grown h hg (fun _ e _=>by cases e)
theorem Same0.own {w w1:World} (h:Same0 w w1) {g o:Nat} (hg:w.heap.size≤g) (u:Value):Same0 w (w1.setCell ⟨g,o,none⟩ u):=h.setCell (p:=⟨g,o,none⟩) (fun hlt=>by simp at hlt;omega) u
end Go.Proofs.Ytcbplgfkgkefeaa
namespace Go.Proofs.Ytcbplgfkgkefeaa
set_option maxRecDepth 100000
set_option linter.unusedVariables false
open Go.RowKit
attribute [local go_sem ↓] Go.wp_at_zero Go.wp_at_succ
structure Part where
 ao:Option Addr
 cap:Nat
 xs:List Int
theorem iv_oneCell (xs:List Int):∀ v∈iv xs,v.oneCell' = true:=by
 intro v hv
 simp only [iv,List.mem_map] at hv
 obtain ⟨x,_,rfl⟩:=hv
 rfl
theorem IntsAt.src {w:World} {ao:Option Addr} {xs:List Int} (h:IntsAt w ao xs) (hn:0<(iv xs).length):∃ ad,ao=some ad∧∀ j v,(iv xs)[j]? = some v→w.cell? (ad.add j)=some v:=by
 rcases h with rfl | ⟨b,off,rfl,_,hc⟩
 ·simp [iv] at hn
 ·refine ⟨_,rfl,fun j v hj=>?_⟩
  have hlt:j<xs.length:=by
   have:=(List.getElem?_eq_some_iff.1 hj).1
   rwa [iv_length] at this
  rw [iv_get hlt] at hj
  cases hj
  have:=hc j hlt
  unfold Addr.add
  split
  ·rename_i h0;subst h0;first | (simp;done) | (simpa using this)
  ·exact this
theorem Row.ints {base:Nat} {w:World} {v:Value} {xs:List Int} (h:Row base w v xs):∃ ao cap,v=.slice ao xs.length cap∧IntsAt w ao xs∧xs.length≤cap∧(∀ a,ao=some a→base≤a.block∧a.block<w.heap.size):=by
 rcases h.2 with ⟨rfl,h0⟩ | ⟨g,cap,cur,rfl,hb,hg,h1,h2,h3,h4⟩
 ·have:xs=[]:=List.eq_nil_of_length_eq_zero h0
  subst this
  exact ⟨none,0,rfl,.inl rfl,Nat.le_refl _,fun a e=>by cases e⟩
 ·refine ⟨_,cap,rfl,.inr ⟨g,0,rfl,lt_of_at hg,fun i hi=>?_⟩,h1,fun a e=>by cases e;exact ⟨hb,lt_of_at hg⟩⟩
  rw [Nat.zero_add,h.cellAt i (by omega)]
  exact iv_get hi
theorem wpList_push {w0:World} {ops:Array Oper} {rest:List Oper} {o:Oper} {a:Act} {Q:Exit→Act→World→Prop} (hgd:o.guard=none) (s x:Operand) (t:TypeId)
  (ho:o.op=.call { callee:=.builtin .append,args:=#[s,x],argTypes:=#[t,t] }) (ht:Try.prog.underlying t=some (.slice 3))
  (base:Nat) (xs:List Int) (v:Value) (hs:a.eval s=v) (hr:Row base w0 v xs) (y:Int) (hx:a.eval x=.slice (some ⟨w0.heap.size,0,none⟩) 1 1) (hb:base≤w0.heap.size) (hsz:(xs.length+1) * 8≤140737488355328)
  (h:∀ g cap w', Row base w' (.slice (some ⟨g,0,none⟩) (xs.length+1) cap) (xs ++ [y])→Kept (fun k=>v.ownBlock=some k) w0 w' → (v.ownBlock=some g∨w0.heap.size≤g)→wpList Try.prog ops Q rest (a.put o.dst (.slice (some ⟨g,0,none⟩) (xs.length+1) cap)) w') :
  wpList Try.prog ops Q (o :: rest) a (w0.alloc (.cells #[.int .i64 y] 3)):=by
 obtain ⟨i,hi,hz0,hz1,hz2⟩:=info_parts info_intT
 refine wpList_append_lies _ hgd s x t ho base 3 i (.int .i64 0) 1 8 ht hi hz0 hz1 hz2 rfl (by decide) v xs.length (iv xs) hs (hr.alloc _) ⟨w0.heap.size,0,none⟩ 1 1 [.int .i64 y] hx rfl (cell_one_new _ _ _) (by simp [Value.oneCell']) (by omega) (by unfold maxLen;omega) hsz (by simp;omega) (w0.heap.size+1) (by simp) ?_
 intro g cap w' hown hgrow hat hlt
 refine h g cap w' ?_ ?_ (hat.imp id (fun e=>by omega))
 ·unfold Row;rw [iv_append,List.length_append];exact hown
 ·exact Kept.grown (Kept.alloc (Kept.refl _ w0) _) hgrow (fun _ e _=>e)
theorem Same0.onto {w w0 w' : World} {v:Value} {xs:List Int} (h:Same0 w w0) (hr:Row w.heap.size w0 v xs) (hk:Kept (fun k=>v.ownBlock=some k) w0 w'):Same0 w w' :=
 h.trans hk (fun i hi e=>by have:=(hr.lt i e).1;omega)
end Go.Proofs.Ytcbplgfkgkefeaa
namespace Go.Proofs.Ytcbplgfkgkefeaa
set_option linter.unusedVariables false
open Go.RowKit
attribute [local go_sem ↓] Go.wp_at_zero Go.wp_at_succ
end Go.Proofs.Ytcbplgfkgkefeaa
namespace Go.Proofs.Ytcbplgfkgkefeaa
set_option linter.unusedVariables false
open Go.RowKit Go.Deep
structure Arg (w:World) (ao:Option Addr) (xs:List Int) (cap:Nat):Prop where
 at' : IntsAt w ao xs
 cap' : xs.length≤cap
 nil:ao=none→xs.length=0∧cap=0
 size:xs.length * 8≤140737488351232
section
variable {H : Type} {enc : TypeId × Value → H} {w : World} {spare : Nat → Bool} {held : Bool}
structure CaseIs (w:World) (v:Value) (lo:Option Addr) (ll lc:Nat) (ls:List Sym) (so:Option Addr) (tc:Nat) (t:List Int) (at' : Int) (uo:Option Addr) (uc:Nat) (u:List Int) (po:Option Addr) (pc:Nat) (path:List Int):Prop where
 eq:v=.agg #[.slice lo ll lc,.slice so t.length tc,.int .i64 at', .slice uo u.length uc,.slice po path.length pc]
 syms:SymsAt w lo ll ls
 sl:ll≤maxLen
 t' : Arg w so t tc
 u' : Arg w uo u uc
 p' : Arg w po path pc
end
end Go.Proofs.Ytcbplgfkgkefeaa
namespace Go.Proofs.Ytcbplgfkgkefeaa
set_option linter.unusedVariables false
open Go.RowKit
attribute [local go_sem ↓] Go.wp_at_zero Go.wp_at_succ
theorem wpList_more {w0:World} {ops:Array Oper} {rest:List Oper} {o:Oper} {a:Act} {Q:Exit→Act→World→Prop} (hgd:o.guard=none) (s x:Operand) (t:TypeId)
  (ho:o.op=.call { callee:=.builtin .append,args:=#[s,x],argTypes:=#[t,t] }) (ht:Try.prog.underlying t=some (.slice 3))
  (base:Nat) (xs:List Int) (v:Value) (hs:a.eval s=v) (hr:Row base w0 v xs) (ys:List Int) (ad:Addr) (m c:Nat) (hx:a.eval x=.slice (some ad) m c) (hm:m=ys.length) (hy:IntsAt w0 (some ad) ys) (hb:base≤w0.heap.size) (hsz:(xs.length+ys.length) * 8≤140737488355328)
  (h:∀ v' w', Row base w' v' (xs++ys)→Kept (fun k=>v.ownBlock=some k) w0 w' → wpList Try.prog ops Q rest (a.put o.dst v') w') :
  wpList Try.prog ops Q (o :: rest) a w0:=by
 subst hm
 obtain ⟨i,hi,hz0,hz1,hz2⟩:=info_parts info_intT
 refine wpList_append_own _ hgd s x t ho base 3 i (.int .i64 0) 1 8 ht hi hz0 hz1 hz2 rfl (by decide) v xs.length (iv xs) hs hr ad ys.length c (iv ys) hx (by rw [iv_length];omega) (fun j u hj=>?_) (iv_oneCell ys) (by unfold maxLen;omega) hsz hb ?_
 ·obtain ⟨ad', e,hc⟩:=hy.src (by have:=(List.getElem?_eq_some_iff.1 hj).1;omega)
  cases e
  exact hc j u hj
 ·intro v' w' hown hgrow _
  refine h v' w' ?_ (Kept.grown (Kept.refl _ w0) hgrow (fun _ e _=>e))
  unfold Row;rw [iv_append,List.length_append];exact hown
theorem row_empty (w:World) (base:Nat) (hb:base≤w.heap.size) {o:Obj} (ho:o=.cells #[] 3 (0,0)):Row base (w.alloc o) (.slice (some ⟨w.heap.size,0,none⟩) 0 0) []:=by
 subst ho
 exact ⟨rfl,.inr ⟨w.heap.size,0, #[],rfl,hb,heap_alloc_new w _,Nat.le_refl _,by unfold maxLen;omega,rfl,rfl⟩⟩
end Go.Proofs.Ytcbplgfkgkefeaa
namespace Go.Proofs.Ytcbplgfkgkefeaa
set_option maxRecDepth 100000
set_option linter.unusedVariables false
open Go.RowKit
attribute [local go_sem ↓] Go.wp_at_zero Go.wp_at_succ
def ArgT (w:World) (ao:Option Addr) (xs:List Int) (cap:Nat):Prop:=Arg w ao xs cap∧∀ a,ao=some a→∃ cur,w.heap[a.block]? = some (.cells cur 3 (0,0))
theorem ArgT.kept {w w' : World} {ao:Option Addr} {xs:List Int} {cap:Nat} {S:Nat→Prop} (h:ArgT w ao xs cap) (hk:Kept S w w') (hS:∀ k,S k→∀ cur,w.heap[k]? ≠ some (.cells cur 3 (0,0))):ArgT w' ao xs cap:=by
 have ne:∀ a,ao=some a→¬ S a.block:=fun a e s=>by
  obtain ⟨cur,hc⟩:=h.2 a e
  exact hS _ s cur hc
 refine ⟨⟨h.1.at'.kept hk ne,h.1.cap', h.1.nil,h.1.size⟩,fun a e=>?_⟩
 obtain ⟨cur,hc⟩:=h.2 a e
 exact ⟨cur,hk.at hc (ne a e)⟩
theorem ArgT.same {w w' : World} {ao:Option Addr} {xs:List Int} {cap:Nat} (h:ArgT w ao xs cap) (hk:Same0 w w'):ArgT w' ao xs cap:=h.kept hk (fun _ f=>f.elim)
theorem Row.arg {base:Nat} {w:World} {v:Value} {xs:List Int} (h:Row base w v xs) (hl:xs.length≤100000):∃ ao ac,v=.slice ao xs.length ac∧ArgT w ao xs ac∧∀ a,ao=some a→base≤a.block:=by
 obtain ⟨ao,ac,e,h1,h2,h3⟩:=h.ints
 rcases h.2 with ⟨e2,h0⟩ | ⟨g,cap,cur,e2,hb,hg,hle,_⟩
 ·rw [e] at e2
  simp only [Value.slice.injEq] at e2
  obtain ⟨rfl,_,rfl⟩:=e2
  exact ⟨none,0,e,⟨⟨h1,by omega,fun _=>⟨h0,rfl⟩,by omega⟩,fun a e=>by cases e⟩,fun a e=>by cases e⟩
 ·rw [e] at e2
  simp only [Value.slice.injEq] at e2
  obtain ⟨rfl,_,rfl⟩:=e2
  exact ⟨_,ac,e,⟨⟨h1,hle,(fun e=>by cases e),by omega⟩,fun a e=>by cases e;exact ⟨cur,hg⟩⟩,fun a e=>by cases e;exact hb⟩
theorem eqnilI (w:World) (a:Option Addr) (n c n' c' : Nat):(binOp .eql 31 (.slice a n c) (.slice none n' c')).run Try.prog w=.ok (.bool a.isNone) w:=Lib.run_eql_slice_nil w _ _ a n c n' c' Try.underlying31
set_option maxHeartbeats 1000000 in
theorem cloneI_any {w:World} {ao:Option Addr} {cap:Nat} {xs:List Int} (hx:Arg w ao xs cap) :
  Calls Try.prog 60 #[.slice ao xs.length cap] w fun e w' => ∃ v,e=.returned v∧Row w.heap.size w' v xs∧Same0 w w' := by
 have hnil:=eqnilI
 have hsz:=hx.size
 cases ao with
 | none=>
  obtain ⟨h0,rfl⟩:=hx.nil rfl
  obtain rfl:xs=[]:=List.eq_nil_of_length_eq_zero h0
  go_enter Try.func60,Try.ntmps60
  go_wp2
  go_ret
  exact ⟨_,rfl,World.ownsRow_nil _ _ _ _,Kept.refl _ _⟩
 | some ad=>
  have k0:Same0 w (w.alloc (.cells #[] 3)):=(Kept.refl _ w).alloc _
  have r0:Row w.heap.size (w.alloc (.cells #[] 3)) (.slice (some ⟨w.heap.size,0,none⟩) 0 0) []:=row_empty w _ (Nat.le_refl _) rfl
  have cI:=hx.at'.same k0
  have z0:=k0.size
  clear hx
  go_enter Try.func60,Try.ntmps60
  go_wp2_with (first | (at_builtin;refine wpList_more rfl _ _ 31 rfl Try.underlying31 w.heap.size [] _ rfl r0 xs _ _ _ rfl rfl cI z0 (by simp;omega) ?_;intro v' w4 hr4 hk4))
  go_ret
  exact ⟨_,rfl,by simpa using hr4,k0.onto r0 hk4⟩
end Go.Proofs.Ytcbplgfkgkefeaa
namespace Go.Proofs.Ytcbplgfkgkefeaa
set_option maxRecDepth 100000
set_option linter.unusedVariables false
open Go.RowKit
def mayB (n:Nat) (x:Nd):Bool:=
 decide (0≤x.1) && decide (x.2.1.length≤6) && decide (0≤x.2.2.1) && decide (x.2.2.1≤2) && x.2.1.all (fun z=>decide (0≤z) && decide (z<(n:Int))) &&
  (if x.2.2.2.1=true then decide (0≤x.2.2.2.2) && decide (x.2.2.2.2<(n:Int)) && decide (x.1=0) && decide (x.2.2.1=0) && decide (x.2.1.length=0) else decide (x.2.2.2.2=0))
theorem may_facts {n:Nat} {x:Nd} (h:mayB n x=true):0≤x.1∧x.2.1.length≤6∧0≤x.2.2.1∧x.2.2.1≤2∧(∀ z∈x.2.1,0≤z∧z<(n:Int))∧(x.2.2.2.1=true→0≤x.2.2.2.2∧x.2.2.2.2<(n:Int)∧x.1=0∧x.2.2.1=0∧x.2.1=[])∧(x.2.2.2.1=false→x.2.2.2.2=0):=by
 unfold mayB at h
 cases hp:x.2.2.2.1
 ·simp [hp] at h
  refine ⟨h.1.1.1.1.1,h.1.1.1.1.2,h.1.1.1.2,h.1.1.2,h.1.2,by simp,fun _=>h.2⟩
 ·simp [hp] at h
  refine ⟨h.1.1.1.1.1,h.1.1.1.1.2,h.1.1.1.2,h.1.1.2,h.1.2,fun _=>⟨h.2.1.1.1.1,h.2.1.1.1.2,h.2.1.1.2,h.2.1.2,h.2.2⟩,by simp⟩
theorem may_down {n:Nat} {x:Nd} (h:mayB n x=true):∀ z∈downL x,0≤z∧z<(n:Int):=by
 obtain ⟨_,_,_,_,h5,h6,_⟩:=may_facts h
 intro z hz
 unfold downL at hz
 split at hz
 ·rename_i hp
  simp at hz
  subst hz
  exact ⟨(h6 hp).1,(h6 hp).2.1⟩
 ·exact h5 z hz
theorem may_more {n m:Nat} {x:Nd} (h:mayB n x=true) (hn:n≤m):mayB m x=true:=by
 obtain ⟨h1,h2,h3,h4,h5,h6,h7⟩:=may_facts h
 unfold mayB
 have h8:x.2.1.all (fun z=>decide (0≤z) && decide (z<(m:Int)))=true:=by
  rw [List.all_eq_true]
  intro z hz
  have:=h5 z hz
  simp;omega
 cases hp:x.2.2.2.1
 ·simp [h1,h2,h3,h4,h8,h7 hp]
 ·obtain ⟨a,b,c,d,e⟩:=h6 hp
  simp [a,c,d,e]
  omega
theorem inl_of_may {l:List Nd} (h:∀ x∈l,mayB l.length x=true):InL l:=fun i hi z hz=>may_down (h _ (List.getElem_mem hi)) z hz
def NdC (B:Nat→Prop) (w:World) (b off:Nat) (x:Nd):Prop:=
 ∃ ao ac,w.cell? ⟨b,off,none⟩=some (.int .i64 x.1)∧w.cell? ⟨b,off+1,none⟩=some (.slice ao x.2.1.length ac)∧w.cell? ⟨b,off+2,none⟩=some (.int .i64 x.2.2.1)∧w.cell? ⟨b,off+3,none⟩=some (.bool x.2.2.2.1)∧w.cell? ⟨b,off+4,none⟩=some (.int .i64 x.2.2.2.2)∧ArgT w ao x.2.1 ac∧∀ a,ao=some a→B a.block
def NotI (w:World) (k:Nat):Prop:=∀ cur,w.heap[k]? ≠ some (.cells cur 3 (0,0))
theorem ArgT.kept' {w w' : World} {ao:Option Addr} {xs:List Int} {cap:Nat} {S:Nat→Prop} (h:ArgT w ao xs cap) (hk:Kept S w w') (hS:∀ a,ao=some a→¬ S a.block):ArgT w' ao xs cap:=by
 refine ⟨⟨h.1.at'.kept hk hS,h.1.cap', h.1.nil,h.1.size⟩,fun a e=>?_⟩
 obtain ⟨cur,hc⟩:=h.2 a e
 exact ⟨cur,hk.at hc (hS a e)⟩
theorem ArgT.lt {w:World} {ao:Option Addr} {xs:List Int} {cap:Nat} (h:ArgT w ao xs cap) {a:Addr} (e:ao=some a):a.block<w.heap.size:=by
 obtain ⟨cur,hc⟩:=h.2 a e
 exact lt_of_at hc
theorem NdC.kept {B S:Nat→Prop} {w w' : World} {b off:Nat} {x:Nd} (h:NdC B w b off x) (hb:b<w.heap.size) (hk:Kept S w w') (nb:¬ S b) (hS:∀ k,B k→S k→NotI w k):NdC B w' b off x:=by
 obtain ⟨ao,ac,h0,h1,h2,h3,h4,h5,h6⟩:=h
 have t:∀ o,w'.cell? ⟨b,o,none⟩=w.cell? ⟨b,o,none⟩:=fun o=>hk.cell (p:=⟨b,o,none⟩) hb nb
 refine ⟨ao,ac,(t _).trans h0,(t _).trans h1,(t _).trans h2,(t _).trans h3,(t _).trans h4,h5.kept' hk (fun a e s=>?_),h6⟩
 obtain ⟨cur,hc⟩:=h5.2 a e
 exact hS _ (h6 a e) s cur hc
theorem NdC.mono {B B' : Nat→Prop} {w:World} {b off:Nat} {x:Nd} (h:NdC B w b off x) (hB:∀ k,k<w.heap.size→(∃ cur,w.heap[k]? = some (.cells cur 3 (0,0)))→B k→B' k):NdC B' w b off x:=by
 obtain ⟨ao,ac,h0,h1,h2,h3,h4,h5,h6⟩:=h
 exact ⟨ao,ac,h0,h1,h2,h3,h4,h5,fun a e=>hB _ (h5.lt e) (h5.2 a e) (h6 a e)⟩
structure HpB (B:Nat→Prop) (w:World) (h g room:Nat) (l:List Nd):Prop where
 box:w.heap[h]? = some (.cells #[.slice (some ⟨g,0,none⟩) room room,.int .i64 (l.length:Int)] 69 (0,0))
 blk:∃ cs,w.heap[g]? = some (.cells cs 45 (0,0))∧cs.size=room * 5
 rm1:1≤room
 rm2:room≤4000
 le:l.length≤room
 each:∀ i (hi:i<l.length),NdC B w g (i * 5) l[i]
 may:∀ x∈l,mayB l.length x=true
 ac:Ac l
theorem HpB.inl {B:Nat→Prop} {w:World} {h g room:Nat} {l:List Nd} (p:HpB B w h g room l):InL l:=inl_of_may p.may
theorem HpB.ne {B:Nat→Prop} {w:World} {h g room:Nat} {l:List Nd} (p:HpB B w h g room l):h≠g:=fun e=>by
 obtain ⟨cs,h1,_⟩:=p.blk
 rw [← e,p.box] at h1
 cases h1
theorem HpB.ltH {B:Nat→Prop} {w:World} {h g room:Nat} {l:List Nd} (p:HpB B w h g room l):h<w.heap.size:=lt_of_at p.box
theorem HpB.ltG {B:Nat→Prop} {w:World} {h g room:Nat} {l:List Nd} (p:HpB B w h g room l):g<w.heap.size:=by
 obtain ⟨cs,h1,_⟩:=p.blk
 exact lt_of_at h1
theorem HpB.kept {B S:Nat→Prop} {w w' : World} {h g room:Nat} {l:List Nd} (p:HpB B w h g room l) (hk:Kept S w w') (n1:¬ S h) (n2:¬ S g) (hS:∀ k,B k→S k→NotI w k):HpB B w' h g room l:=by
 refine ⟨hk.at p.box n1,?_,p.rm1,p.rm2,p.le,fun i hi=>(p.each i hi).kept p.ltG hk n2 hS,p.may,p.ac⟩
 obtain ⟨cs,h1,h2⟩:=p.blk
 exact ⟨cs,hk.at h1 n2,h2⟩
theorem HpB.same {B:Nat→Prop} {w w' : World} {h g room:Nat} {l:List Nd} (p:HpB B w h g room l) (hk:Same0 w w'):HpB B w' h g room l:=p.kept hk (fun f=>f) (fun f=>f) (fun _ _ f=>f.elim)
theorem HpB.mono {B B' : Nat→Prop} {w:World} {h g room:Nat} {l:List Nd} (p:HpB B w h g room l) (hB:∀ k,k<w.heap.size→(∃ cur,w.heap[k]? = some (.cells cur 3 (0,0)))→B k→B' k):HpB B' w h g room l:=
 ⟨p.box,p.blk,p.rm1,p.rm2,p.le,fun i hi=>(p.each i hi).mono hB,p.may,p.ac⟩
theorem HpB.cells {B:Nat→Prop} {w:World} {h g room:Nat} {l:List Nd} (p:HpB B w h g room l):w.cell? ⟨h,0,none⟩=some (.slice (some ⟨g,0,none⟩) room room)∧w.cell? ⟨h,1,none⟩=some (.int .i64 (l.length:Int)):=⟨cellAt p.box 0,cellAt p.box 1⟩
theorem HpB.free {B:Nat→Prop} {w:World} {h g room:Nat} {l:List Nd} (p:HpB B w h g room l):(∀ o,w.frozen? ⟨h,o,none⟩=false)∧∀ o,w.frozen? ⟨g,o,none⟩=false:=by
 obtain ⟨cs,h1,_⟩:=p.blk
 exact ⟨fun o=>frozenAt p.box o,fun o=>frozenAt h1 o⟩
theorem HpB.there {B:Nat→Prop} {w:World} {h g room:Nat} {l:List Nd} (p:HpB B w h g room l) {i:Nat} (hi:i<room):∃ u0 u1 u2 u3 u4,w.cell? ⟨g,i * 5,none⟩=some u0∧w.cell? ⟨g,i * 5+1,none⟩=some u1∧w.cell? ⟨g,i * 5+2,none⟩=some u2∧w.cell? ⟨g,i * 5+3,none⟩=some u3∧w.cell? ⟨g,i * 5+4,none⟩=some u4:=by
 obtain ⟨cs,h1,h2⟩:=p.blk
 have t:∀ o,o<cs.size→w.cell? ⟨g,o,none⟩=some cs[o]! := fun o ho=>by rw [cellAt h1];simp [ho]
 exact ⟨_,_,_,_,_,t _ (by omega),t _ (by omega),t _ (by omega),t _ (by omega),t _ (by omega)⟩
theorem box5 {w:World} {b:Nat} {v0 v1 v2 v3 v4:Value} {t:TypeId} (h:w.heap[b]? = some (.cells #[v0,v1,v2,v3,v4] t (0,0))):w.cell? ⟨b,0,none⟩=some v0∧w.cell? ⟨b,1,none⟩=some v1∧w.cell? ⟨b,2,none⟩=some v2∧w.cell? ⟨b,3,none⟩=some v3∧w.cell? ⟨b,4,none⟩=some v4:=
 ⟨cellAt h 0,cellAt h 1,cellAt h 2,cellAt h 3,cellAt h 4⟩
theorem free5 {w:World} {b:Nat} {cs:Array Value} {t:TypeId} (h:w.heap[b]? = some (.cells cs t (0,0))):w.frozen? ⟨b,0,none⟩=false∧w.frozen? ⟨b,1,none⟩=false∧w.frozen? ⟨b,2,none⟩=false∧w.frozen? ⟨b,3,none⟩=false∧w.frozen? ⟨b,4,none⟩=false:=
 ⟨frozenAt h 0,frozenAt h 1,frozenAt h 2,frozenAt h 3,frozenAt h 4⟩
def put5 (w:World) (g off:Nat) (v0 v1 v2 v3 v4:Value):World:=
 ((((w.setCell ⟨g,off,none⟩ v0).setCell ⟨g,off+1,none⟩ v1).setCell ⟨g,off+2,none⟩ v2).setCell ⟨g,off+3,none⟩ v3).setCell ⟨g,off+4,none⟩ v4
theorem put5_at {w:World} {g off:Nat} {v0 v1 v2 v3 v4:Value} {cs:Array Value} {t:TypeId} {fr:Nat × Nat} (h:w.heap[g]? = some (.cells cs t fr)):(put5 w g off v0 v1 v2 v3 v4).heap[g]? = some (.cells (((((cs.setIfInBounds off v0).setIfInBounds (off+1) v1).setIfInBounds (off+2) v2).setIfInBounds (off+3) v3).setIfInBounds (off+4) v4) t fr):=
 setAt (setAt (setAt (setAt (setAt h _ _) _ _) _ _) _ _) _ _
theorem put5_kept (w:World) (g off:Nat) (v0 v1 v2 v3 v4:Value):Kept (fun k=>k=g) w (put5 w g off v0 v1 v2 v3 v4):=by
 have t:∀ (w' : World) (o:Nat) (v:Value),Kept (fun k=>k=g) w w' → Kept (fun k=>k=g) w (w'.setCell ⟨g,o,none⟩ v):=fun w' o v h=>Kept.setCell (S:=fun k=>k=g) h (p:=⟨g,o,none⟩) (fun _=>rfl) v
 exact t _ _ _ (t _ _ _ (t _ _ _ (t _ _ _ (t _ _ _ (Kept.refl _ w)))))
theorem put5_new {w:World} {g off:Nat} {v0 v1 v2 v3 v4:Value} {cs:Array Value} {t:TypeId} {fr:Nat × Nat} (h:w.heap[g]? = some (.cells cs t fr)) (hs:off+5≤cs.size):(put5 w g off v0 v1 v2 v3 v4).cell? ⟨g,off,none⟩=some v0∧(put5 w g off v0 v1 v2 v3 v4).cell? ⟨g,off+1,none⟩=some v1∧(put5 w g off v0 v1 v2 v3 v4).cell? ⟨g,off+2,none⟩=some v2∧(put5 w g off v0 v1 v2 v3 v4).cell? ⟨g,off+3,none⟩=some v3∧(put5 w g off v0 v1 v2 v3 v4).cell? ⟨g,off+4,none⟩=some v4:=by
 have q:=put5_at (v0:=v0) (v1:=v1) (v2:=v2) (v3:=v3) (v4:=v4) (off:=off) h
 refine ⟨?_,?_,?_,?_,?_⟩ <;> rw [cellAt q] <;> simp [Array.getElem?_setIfInBounds] <;> omega
theorem put5_old {w:World} {g off:Nat} {v0 v1 v2 v3 v4:Value} {cs:Array Value} {t:TypeId} {fr:Nat × Nat} (h:w.heap[g]? = some (.cells cs t fr)) {o:Nat} (ho:o<off∨off+5≤o):(put5 w g off v0 v1 v2 v3 v4).cell? ⟨g,o,none⟩=w.cell? ⟨g,o,none⟩:=by
 have q:=put5_at (v0:=v0) (v1:=v1) (v2:=v2) (v3:=v3) (v4:=v4) (off:=off) h
 rw [cellAt q,cellAt h,Array.getElem?_setIfInBounds,if_neg (by omega),Array.getElem?_setIfInBounds,if_neg (by omega),Array.getElem?_setIfInBounds,if_neg (by omega),Array.getElem?_setIfInBounds,if_neg (by omega),Array.getElem?_setIfInBounds,if_neg (by omega)]
theorem put5_nodes {B B' : Nat→Prop} {w:World} {g room:Nat} {l:List Nd} (hb:∃ cs,w.heap[g]? = some (.cells cs 45 (0,0))∧cs.size=room * 5) (hc:∀ i (hi:i<l.length),NdC B w g (i * 5) l[i]) {i:Nat} (hi:i<room) {x:Nd} {ao:Option Addr} {ac:Nat} (ha:ArgT w ao x.2.1 ac) (hB:∀ a,ao=some a→B' a.block) (hBB:∀ k,B k→B' k) :
  let w' := put5 w g (i * 5) (.int .i64 x.1) (.slice ao x.2.1.length ac) (.int .i64 x.2.2.1) (.bool x.2.2.2.1) (.int .i64 x.2.2.2.2)
  NdC B' w' g (i * 5) x∧(∃ cs,w'.heap[g]? = some (.cells cs 45 (0,0))∧cs.size=room * 5)∧∀ j (hj:j<l.length),j≠i→NdC B' w' g (j * 5) l[j]:=by
 obtain ⟨cs,h1,h2⟩:=hb
 have hk:=put5_kept w g (i * 5) (.int .i64 x.1) (.slice ao x.2.1.length ac) (.int .i64 x.2.2.1) (.bool x.2.2.2.1) (.int .i64 x.2.2.2.2)
 have gi:∀ k,k=g→NotI w k:=fun k e cur h=>by rw [e,h1] at h;cases h
 have ka:∀ {ao:Option Addr} {xs:List Int} {ac:Nat},ArgT w ao xs ac→ArgT (put5 w g (i * 5) (.int .i64 x.1) (.slice ao x.2.1.length ac) (.int .i64 x.2.2.1) (.bool x.2.2.2.1) (.int .i64 x.2.2.2.2)) ao xs ac:=fun h=>h.kept (put5_kept _ _ _ _ _ _ _ _) (fun k e=>gi k e)
 refine ⟨?_,?_,fun j hj hne=>?_⟩
 ·obtain ⟨q0,q1,q2,q3,q4⟩:=put5_new (v0:=.int .i64 x.1) (v1:=.slice ao x.2.1.length ac) (v2:=.int .i64 x.2.2.1) (v3:=.bool x.2.2.2.1) (v4:=.int .i64 x.2.2.2.2) h1 (show i * 5+5≤cs.size by omega)
  exact ⟨ao,ac,q0,q1,q2,q3,q4,ha.kept hk gi,hB⟩
 ·exact ⟨_,put5_at h1,by simpa using h2⟩
 ·obtain ⟨bo,bc,q0,q1,q2,q3,q4,q5,q6⟩:=hc j hj
  have t:=fun {o:Nat} (ho:o<i * 5∨i * 5+5≤o)=>put5_old (v0:=.int .i64 x.1) (v1:=.slice ao x.2.1.length ac) (v2:=.int .i64 x.2.2.1) (v3:=.bool x.2.2.2.1) (v4:=.int .i64 x.2.2.2.2) h1 ho
  exact ⟨bo,bc,(t (by omega)).trans q0,(t (by omega)).trans q1,(t (by omega)).trans q2,(t (by omega)).trans q3,(t (by omega)).trans q4,q5.kept hk gi,fun a e=>hBB _ (q6 a e)⟩
end Go.Proofs.Ytcbplgfkgkefeaa
namespace Go.Proofs.Ytcbplgfkgkefeaa
set_option maxRecDepth 100000
set_option linter.unusedVariables false
open Go.RowKit
attribute [local go_sem ↓] Go.wp_at_zero Go.wp_at_succ
def insB (n:Int) (xs:List Int):Bool:=xs.all (fun z=>decide (0≤z) && decide (z<n))
theorem insB_iff {n:Int} {xs:List Int}:insB n xs=true ↔ ∀ z∈xs,0≤z∧z<n:=by
 unfold insB;simp [List.all_eq_true]
theorem insB_no {n:Int} {xs:List Int} {k:Nat} (hk:k<xs.length) (h:¬ (0≤xs[k]∧xs[k]<n)):insB n xs=false:=by
 cases e:insB n xs
 ·rfl
 ·exact absurd (insB_iff.1 e _ (List.getElem_mem hk)) h
set_option maxHeartbeats 1000000 in
theorem inside_any {w:World} {ao:Option Addr} {xs:List Int} (cap:Nat) (hx:IntsAt w ao xs) (hm:xs.length≤1000) (n:Int) :
  Calls Try.prog 51 #[.int .i64 n,.slice ao xs.length cap] w fun e w' => e=.returned (.bool (insB n xs))∧w' = w:=by
 have H1:Hid (∀ k (hk:k<xs.length),¬ (0≤xs[k]∧xs[k]<n)→insB n xs=false):=fun k hk h=>insB_no hk h
 go_enter Try.func51,Try.ntmps51
 go_wp2
 go_loop [9] (fun i=>∃ k:Nat,k≤xs.length∧i=.int .i64 k∧Hid (∀ j (hj:j<xs.length),j<k→0≤xs[j]∧xs[j]<n)) (fun i=>xs.length-(intOf i).toNat)
 case atStart=>exact ⟨0,Nat.zero_le _,rfl,fun j _ hj=>absurd hj (Nat.not_lt_zero _)⟩
 case round=>
  obtain ⟨k,hk,rfl,hall⟩:=hrel
  by_cases hlt:k<xs.length
  ·obtain ⟨b,off,rfl,hb,hc⟩:=hx.get hlt
   have i1:(0:Int)≤(k:Int):=by omega
   have i2:(k:Int)<(xs.length:Int):=by omega
   clear hx
   by_cases h1:xs[k]<0
   ·have H2:Hid (insB n xs=false):=H1.out k hlt (by omega)
    clear H1
    go_wp2
    go_ret
    exact ⟨ret_bool H2.out.symm,rfl⟩
   ·by_cases h2:n≤xs[k]
    ·have H2:Hid (insB n xs=false):=H1.out k hlt (by omega)
     clear H1
     go_wp2
     go_ret
     exact ⟨ret_bool H2.out.symm,rfl⟩
    ·go_wp2
     go_round
     case rel=>exact ⟨k+1,by omega,by go_num,fun j hj hjk=>by
      by_cases e:j=k
      ·subst e;omega
      ·exact hall.out j hj (by omega)⟩
     case measure=>simp [intOf];omega
  ·obtain rfl:k=xs.length:=by omega
   have H2:Hid (insB n xs=true):=insB_iff.2 (fun z hz=>by
    obtain ⟨j,hj,rfl⟩:=List.mem_iff_getElem.1 hz
    exact hall.out j hj hj)
   clear hall H1
   go_wp2
   go_ret
   exact ⟨ret_bool H2.out.symm,rfl⟩
def refE (n:Int) (xs:List Int):Int:=if insB n xs=true then 0 else 112
set_option maxHeartbeats 1000000 in
theorem refusal_hp {B:Nat→Prop} {w:World} {h g room:Nat} {l:List Nd} (p:HpB B w h g room l) {ao:Option Addr} {xs:List Int} (cap:Nat) (hx:IntsAt w ao xs) (hm:xs.length≤1000) :
  Calls Try.prog 46 #[.pointer (some ⟨h,0,none⟩),.slice ao xs.length cap] w fun e w' => e=.returned (.int .i64 (refE (l.length:Int) xs))∧w' = w:=by
 have C:=inside_any cap hx hm (l.length:Int)
 obtain ⟨c0,c1⟩:=p.cells
 clear p hx
 cases hi:insB (l.length:Int) xs
 ·have H:Hid (refE (l.length:Int) xs=112):=by show _=_;rw [refE,hi];rfl
  rw [hi] at C
  go_enter Try.func46,Try.ntmps46
  go_wp2_with (first | (go_at_call 51;refine C.mono ?_;rintro e w' ⟨rfl,rfl⟩))
  go_ret
  exact ⟨ret_int H.out.symm,rfl⟩
 ·have H:Hid (refE (l.length:Int) xs=0):=by show _=_;rw [refE,hi];rfl
  rw [hi] at C
  go_enter Try.func46,Try.ntmps46
  go_wp2_with (first | (go_at_call 51;refine C.mono ?_;rintro e w' ⟨rfl,rfl⟩))
  go_ret
  exact ⟨ret_int H.out.symm,rfl⟩
theorem set6_kept (w:World) (a b:Nat) (v v0 v1 v2 v3 v4:Value):Kept (fun k=>k=a∨k=b) w (put5 (w.setCell ⟨a,1,none⟩ v) b 0 v0 v1 v2 v3 v4):=
 (Kept.setCell (S:=fun k=>k=a∨k=b) (Kept.refl _ w) (p:=⟨a,1,none⟩) (fun _=>.inl rfl) v).trans (put5_kept _ _ _ _ _ _ _ _) (fun _ _ e=>.inr e)
abbrev nodeV (x:Nd) (ao:Option Addr) (ac:Nat):Value:=.agg #[.int .i64 x.1,.slice ao x.2.1.length ac,.int .i64 x.2.2.1,.bool x.2.2.2.1,.int .i64 x.2.2.2.2]
set_option maxHeartbeats 1000000 in
theorem copied_any {w:World} {x:Nd} {ao:Option Addr} {ac:Nat} (hx:Arg w ao x.2.1 ac) (hm:x.2.1.length≤1000) :
  Calls Try.prog 47 #[nodeV x ao ac] w fun e w' => ∃ bo bc,e=.returned (nodeV x bo bc)∧ArgT w' bo x.2.1 bc∧(∀ a,bo=some a→w.heap.size≤a.block)∧Same0 w w' := by
 have k1:Same0 w (w.alloc (.cells #[.int .i64 x.1,.slice ao x.2.1.length ac,.int .i64 x.2.2.1,.bool x.2.2.2.1,.int .i64 x.2.2.2.2] 45)):=(Kept.refl _ w).alloc _
 have k2:Same0 w ((w.alloc (.cells #[.int .i64 x.1,.slice ao x.2.1.length ac,.int .i64 x.2.2.1,.bool x.2.2.2.1,.int .i64 x.2.2.2.2] 45)).alloc (.cells #[.int .i64 0,.slice none 0 0,.int .i64 0,.bool false,.int .i64 0] 45)):=k1.alloc _
 have C:=cloneI_any (cap:=ac) (show Arg _ ao x.2.1 ac from ⟨hx.at'.same k2,hx.cap', hx.nil,hx.size⟩)
 simp only [World.size_alloc] at C
 have hb1:((w.alloc (.cells #[.int .i64 x.1,.slice ao x.2.1.length ac,.int .i64 x.2.2.1,.bool x.2.2.2.1,.int .i64 x.2.2.2.2] 45)).alloc (.cells #[.int .i64 0,.slice none 0 0,.int .i64 0,.bool false,.int .i64 0] 45)).heap[w.heap.size]? = some (.cells #[.int .i64 x.1,.slice ao x.2.1.length ac,.int .i64 x.2.2.1,.bool x.2.2.2.1,.int .i64 x.2.2.2.2] 45 (0,0)):=(Below.heap_alloc _ _ _ (by simp)).trans (heap_alloc_new w _)
 have hb2:=heap_alloc_new (w.alloc (.cells #[.int .i64 x.1,.slice ao x.2.1.length ac,.int .i64 x.2.2.1,.bool x.2.2.2.1,.int .i64 x.2.2.2.2] 45)) (.cells #[.int .i64 0,.slice none 0 0,.int .i64 0,.bool false,.int .i64 0] 45)
 have HB:Hid (∀ ww,Same0 ((w.alloc (.cells #[.int .i64 x.1,.slice ao x.2.1.length ac,.int .i64 x.2.2.1,.bool x.2.2.2.1,.int .i64 x.2.2.2.2] 45)).alloc (.cells #[.int .i64 0,.slice none 0 0,.int .i64 0,.bool false,.int .i64 0] 45)) ww→ww.heap[w.heap.size]? = some (.cells #[.int .i64 x.1,.slice ao x.2.1.length ac,.int .i64 x.2.2.1,.bool x.2.2.2.1,.int .i64 x.2.2.2.2] 45 (0,0))∧ww.heap[w.heap.size+1]? = some (.cells #[.int .i64 0,.slice none 0 0,.int .i64 0,.bool false,.int .i64 0] 45 (0,0))):=fun ww hk=>⟨hk.at0 hb1,by have:=hk.at0 hb2;simpa using this⟩
 have HK:Hid (∀ ww,Same0 ((w.alloc (.cells #[.int .i64 x.1,.slice ao x.2.1.length ac,.int .i64 x.2.2.1,.bool x.2.2.2.1,.int .i64 x.2.2.2.2] 45)).alloc (.cells #[.int .i64 0,.slice none 0 0,.int .i64 0,.bool false,.int .i64 0] 45)) ww→Same0 w ww):=fun ww hk=>k2.trans' hk
 clear hb1 hb2 k1 k2 hx
 go_enter Try.func47,Try.ntmps47
 go_upto_region 2 with (first | (go_at_call 60;refine C.mono ?_;rintro e w1 ⟨v,rfl,hr,hk⟩;obtain ⟨bo,bc,rfl,ha,hbb⟩:=hr.arg (by omega);obtain ⟨q1,q2⟩:=HB.out w1 hk;obtain ⟨a0,a1,a2,a3,a4⟩:=box5 q1;obtain ⟨b0,b1,b2,b3,b4⟩:=box5 q2;obtain ⟨-,f1, -, -, -⟩:=free5 q1;obtain ⟨g0,g1,g2,g3,g4⟩:=free5 q2;clear q1 q2))
 go_wp2
 have K6:=set6_kept w1 w.heap.size (w.heap.size+1) (.slice bo x.2.1.length bc) (.int .i64 x.1) (.slice bo x.2.1.length bc) (.int .i64 x.2.2.1) (.bool x.2.2.2.1) (.int .i64 x.2.2.2.2)
 have R1:=ha.kept' K6 (fun a e s=>by have:=hbb a e;omega)
 have R2:Same0 w _:=(HK.out w1 hk).trans K6 (fun i hi e=>by omega)
 exact bodyPost_ret (v:=nodeV x bo bc) (by simp [results,Try.results47,go_sem,b0,b1,b2,b3,b4]) rfl ⟨bo,bc,rfl,R1,fun a e=>by have:=hbb a e;omega,R2⟩
theorem info_node:(Try.prog.info? 45).map (fun i=>(i.zero,i.size,i.bytes))=some (some (.agg #[.int .i64 0,.slice none 0 0,.int .i64 0,.bool false,.int .i64 0]),5,56):=by kernel_rfl
theorem Ac.nil:Ac []:=⟨fun _=>0,fun i j e=>absurd e.1 (Nat.not_lt_zero _)⟩
set_option maxHeartbeats 1000000 in
theorem hnew_yes (n:Nat) (w:World) (h1:1≤n) (h2:n≤4000):Calls Try.prog 13 #[.int .i64 (n:Int)] w fun e w' => ∃ h g,e=.returned (.tuple #[.pointer (some ⟨h,0,none⟩),.int .i64 0])∧HpB (fun _=>False) w' h g n []∧Same0 w w' ∧ w.heap.size≤h∧w.heap.size≤g:=by
 obtain ⟨i,hi,hz0,hz1,hz2⟩:=info_parts info_node
 have i1:(1:Int)≤(n:Int):=by omega
 have i2:(n:Int)≤4000:=by omega
 go_enter Try.func13,Try.ntmps13
 go_wp2_with (first | (at_make;refine wpList_make_full _ rfl _ _ 32 rfl w.heap.size 45 i _ 5 Try.underlying32 hi hz0 hz1 _ _ _ _ n rfl rfl rfl rfl (by rw [hz2];omega) (by unfold maxLen;omega) (Nat.le_refl _) ?_;intro w1 hown hgrow))
 go_ret2
 obtain ⟨hl,hr⟩:=hown
 rcases hr with ⟨e,h0⟩ | ⟨g,cap,cur,e,hb,hg,hle,hml,hsz,ht⟩
 ·cases e
 ·simp only [Value.slice.injEq,Option.some.injEq,Addr.mk.injEq,and_true,true_and] at e
  obtain ⟨rfl,rfl⟩:=e
  have K:Same0 w w1:=Same0.grown (Kept.refl _ w) hgrow
  refine ⟨w1.heap.size,w.heap.size,rfl,⟨heap_alloc_new w1 _,⟨cur,(Below.heap_alloc _ _ _ (lt_of_at hg)).trans hg,hsz⟩,h1,h2,Nat.zero_le _,fun i hi=>absurd hi (Nat.not_lt_zero _),fun x hx=>absurd hx (by simp),Ac.nil⟩,K.alloc _,K.size,Nat.le_refl _⟩
set_option maxHeartbeats 1000000 in
theorem room_any {B:Nat→Prop} {w:World} {h g room:Nat} {l:List Nd} (p:HpB B w h g room l):Calls Try.prog 28 #[.pointer (some ⟨h,0,none⟩)] w fun e w' => e=.returned (.int .i64 (room:Int))∧w' = w:=by
 obtain ⟨c0,c1⟩:=p.cells
 clear p
 go_enter Try.func28,Try.ntmps28
 go_wp2
 go_ret
 exact ⟨rfl,rfl⟩
set_option maxHeartbeats 1000000 in
theorem used_any {B:Nat→Prop} {w:World} {h g room:Nat} {l:List Nd} (p:HpB B w h g room l):Calls Try.prog 18 #[.pointer (some ⟨h,0,none⟩)] w fun e w' => e=.returned (.int .i64 (l.length:Int))∧w' = w:=by
 obtain ⟨c0,c1⟩:=p.cells
 clear p
 go_enter Try.func18,Try.ntmps18
 go_wp2
 go_ret
 exact ⟨rfl,rfl⟩
theorem ints_one (w:World) (z:Int):IntsAt (w.alloc (.cells #[.int .i64 z] 3)) (some ⟨w.heap.size,0,none⟩) [z]:=
 .inr ⟨w.heap.size,0,rfl,by simp,fun i hi=>by
  have hi' : i<1:=hi
  match i,hi' with
  | 0,_=>exact cellAt (heap_alloc_new w _) 0⟩
theorem ints_two (w:World) (z y:Int):IntsAt (w.alloc (.cells #[.int .i64 z,.int .i64 y] 3)) (some ⟨w.heap.size,0,none⟩) [z,y]:=
 .inr ⟨w.heap.size,0,rfl,by simp,fun i hi=>by
  have hi' : i<2:=hi
  match i,hi' with
  | 0,_=>exact cellAt (heap_alloc_new w _) 0
  | 1,_=>exact cellAt (heap_alloc_new w _) 1⟩
theorem refE_one {n:Nat} {a:Int} (h:0≤a∧a<(n:Int)):refE (n:Int) [a]=0:=by
 unfold refE;rw [if_pos (insB_iff.2 (by simpa using h))]
theorem refE_no {n:Nat} {a:Int} (h:¬ (0≤a∧a<(n:Int))):refE (n:Int) [a]=112:=by
 unfold refE;rw [if_neg (fun e=>h (by simpa using insB_iff.1 e))]
def NdOut (w w' : World) (x:Nd) (bo:Option Addr) (bc:Nat):Prop:=ArgT w' bo x.2.1 bc∧(∀ a,bo=some a→w.heap.size≤a.block)∧Same0 w w'
set_option maxHeartbeats 2000000 in
theorem hat_yes {B:Nat→Prop} {w:World} {h g room:Nat} {l:List Nd} (p:HpB B w h g room l) (i:Nat) (hi:i<l.length):Calls Try.prog 21 #[.pointer (some ⟨h,0,none⟩),.int .i64 (i:Int)] w fun e w' => ∃ bo bc,e=.returned (.tuple #[nodeV l[i] bo bc,.int .i64 0])∧NdOut w w' l[i] bo bc:=by
 obtain ⟨W0,hW0⟩:∃ W0,W0=w.alloc (.cells #[.int .i64 0,.slice none 0 0,.int .i64 0,.bool false,.int .i64 0] 45):=⟨_,rfl⟩
 have k0:Same0 w W0:=by rw [hW0];exact (Kept.refl _ w).alloc _
 have hb:W0.heap[w.heap.size]? = some (.cells #[.int .i64 0,.slice none 0 0,.int .i64 0,.bool false,.int .i64 0] 45 (0,0)):=by rw [hW0];exact heap_alloc_new w _
 have hz:W0.heap.size=w.heap.size+1:=by rw [hW0];simp
 have k1:Same0 W0 (W0.alloc (.cells #[.int .i64 (i:Int)] 3)):=(Kept.refl _ _).alloc _
 have p1:=(p.same k0).same k1
 have C:=refusal_hp p1 1 (ints_one W0 (i:Int)) (by simp)
 rw [refE_one (by omega)] at C
 obtain ⟨c0,c1⟩:=p1.cells
 obtain ⟨ao,ac,n0,n1,n2,n3,n4,n5,n6⟩:=p1.each i hi
 have hm:=(may_facts (p.may _ (List.getElem_mem hi))).2.1
 have CC:=copied_any (x:=l[i]) (ac:=ac) n5.1 (by omega)
 have i1:(0:Int)≤(i:Int):=by omega
 have i2:(i:Int)<(room:Int):=by have:=p.le;omega
 have HB:Hid (∀ ww,Same0 (W0.alloc (.cells #[.int .i64 (i:Int)] 3)) ww→ww.heap[w.heap.size]? = some (.cells #[.int .i64 0,.slice none 0 0,.int .i64 0,.bool false,.int .i64 0] 45 (0,0))):=fun ww hk=>(k1.trans' hk).at0 hb
 have HK:Hid (∀ ww,Same0 (W0.alloc (.cells #[.int .i64 (i:Int)] 3)) ww→Same0 w ww):=fun ww hk=>(k0.trans' k1).trans' hk
 have HZ:Hid (w.heap.size<W0.heap.size):=by show _<_;omega
 clear p p1 k0 hb k1 hz n5 n6
 go_enter Try.func21,Try.ntmps21
 go_upto_region 1 with fail
 rw [← hW0]
 clear hW0
 go_upto_region 4 with (first | (go_at_call 46;refine C.mono ?_;rintro e w' ⟨rfl,rfl⟩))
 clear C
 go_wp2_with (first | (go_at_call 47;refine CC.mono ?_;rintro e w1 ⟨bo,bc,rfl,ha,hbb,hk⟩;have q:=HB.out w1 hk;obtain ⟨b0,b1,b2,b3,b4⟩:=box5 q;obtain ⟨g0,g1,g2,g3,g4⟩:=free5 q;clear q CC n0 n1 n2 n3 n4 c0 c1))
 have hlt:w.heap.size<(W0.alloc (.cells #[.int .i64 (i:Int)] 3)).heap.size:=by have:=HZ.out;simp;omega
 have hx:∀ a,bo=some a→w.heap.size<a.block:=fun a e=>by have:=hbb a e;omega
 have K5:=put5_kept w1 w.heap.size 0 (.int .i64 l[i].1) (.slice bo l[i].2.1.length bc) (.int .i64 l[i].2.2.1) (.bool l[i].2.2.2.1) (.int .i64 l[i].2.2.2.2)
 have R1:=ha.kept' K5 (fun a e s=>by have:=hx a e;omega)
 have R2:Same0 w _:=(HK.out w1 hk).trans K5 (fun i hi e=>by omega)
 exact bodyPost_ret (v:=.tuple #[nodeV l[i] bo bc,.int .i64 0]) (by simp [results,Try.results21,go_sem,b0,b1,b2,b3,b4]) rfl ⟨bo,bc,rfl,R1,fun a e=>Nat.le_of_lt (hx a e),R2⟩
def mkE (l:List Nd) (room:Nat) (s:Int) (xs:List Int):Int:=if s<0∨6<xs.length then 1 else if insB (l.length:Int) xs=false then 112 else if l.length=room then 111 else 0
set_option maxHeartbeats 2000000 in
theorem make_no {B:Nat→Prop} {w:World} {h g room:Nat} {l:List Nd} (p:HpB B w h g room l) (s:Int) {ao:Option Addr} {xs:List Int} {cap:Nat} (hx:Arg w ao xs cap) (he:mkE l room s xs≠0) :
  Calls Try.prog 29 #[.pointer (some ⟨h,0,none⟩),.int .i64 s,.slice ao xs.length cap] w fun e w' => e=.returned (.tuple #[.int .i64 0,.int .i64 (mkE l room s xs)])∧Same0 w w' := by
 obtain ⟨c0,c1⟩:=p.cells
 have hs:=hx.size
 have hle:=p.le
 have hr2:=p.rm2
 have r0:Hid (Same0 w w∧Same0 w w.drew∧∀ n,Same0 w (w.drewN n)):=⟨Kept.refl _ _,(Kept.refl _ _).drew,fun n=>(Kept.refl _ _).drewN n⟩
 by_cases h1:s<0
 ·have H:Hid (mkE l room s xs=1):=by show _=_;rw [mkE,if_pos (.inl h1)]
  clear he hx p
  go_enter Try.func29,Try.ntmps29
  go_wp2
  go_ret2
  exact ⟨by rw [H.out];rfl,r0.out.1⟩
 ·by_cases h2:6<xs.length
  ·have H:Hid (mkE l room s xs=1):=by show _=_;rw [mkE,if_pos (.inr h2)]
   clear he hx p
   go_enter Try.func29,Try.ntmps29
   go_wp2
   go_ret2
   exact ⟨by rw [H.out];rfl,r0.out.1⟩
  ·have C:=inside_any cap hx.at' (by omega) (l.length:Int)
   cases hi:insB (l.length:Int) xs
   ·have H:Hid (mkE l room s xs=112):=by show _=_;rw [mkE,if_neg (by omega),if_pos hi]
    rw [hi] at C
    clear he hx p hi
    go_enter Try.func29,Try.ntmps29
    go_wp2_with (first | (go_at_call 51;refine C.mono ?_;rintro e w' ⟨rfl,rfl⟩))
    go_ret2
    exact ⟨by rw [H.out];rfl,r0.out.1⟩
   ·have h4:l.length=room:=by
     by_cases q:l.length=room
     ·exact q
     ·exact absurd (by rw [mkE,if_neg (by omega),if_neg (by rw [hi];simp),if_neg q]) he
    have H:Hid (mkE l room s xs=111):=by show _=_;rw [mkE,if_neg (by omega),if_neg (by rw [hi];simp),if_pos h4]
    rw [hi] at C
    rw [h4] at c1 C
    clear he hx p hi h4 hle
    go_enter Try.func29,Try.ntmps29
    go_upto_region 5 with (first | (go_at_call 51;refine C.mono ?_;rintro e w' ⟨rfl,rfl⟩))
    clear C
    go_quiet (fail)
    go_wp2
    go_ret2
    exact ⟨by rw [H.out];rfl,r0.out.2.2 _⟩
theorem may_make {l:List Nd} (h:∀ x∈l,mayB l.length x=true) {x:Nd} (hx:mayB l.length x=true):∀ y∈l ++ [x],mayB (l ++ [x]).length y=true:=by
 intro y hy
 have:l.length≤(l ++ [x]).length:=by simp
 rcases List.mem_append.1 hy with q | q
 ·exact may_more (h y q) this
 ·simp at q;subst q;exact may_more hx this
theorem mk_zero {l:List Nd} {room:Nat} {s:Int} {xs:List Int} (he:mkE l room s xs=0):0≤s∧xs.length≤6∧insB (l.length:Int) xs=true∧l.length≠room:=by
 unfold mkE at he
 split at he
 ·cases he
 ·split at he
  ·cases he
  ·split at he
   ·cases he
   ·rename_i a b c
    exact ⟨by omega,by omega,by simpa using b,c⟩
theorem mk_may {l:List Nd} {s:Int} {xs:List Int} (h0:0≤s) (h1:xs.length≤6) (h2:insB (l.length:Int) xs=true):mayB l.length (s,xs,0,false,0)=true:=by
 unfold mayB
 unfold insB at h2
 simp [h0,h1]
 simpa using h2
theorem HpB.made {B:Nat→Prop} {w w1:World} {h g room:Nat} {l:List Nd} (p:HpB B w h g room l) (k1:Same0 w w1) {s:Int} {xs:List Int} (he:mkE l room s xs=0) {bo:Option Addr} {bc:Nat} (ha:ArgT w1 bo xs bc) (hb:∀ a,bo=some a→w.heap.size≤a.block) :
  HpB (fun b=>B b∨w.heap.size≤b) ((put5 w1 g (l.length * 5) (.int .i64 s) (.slice bo xs.length bc) (.int .i64 0) (.bool false) (.int .i64 0)).setCell ⟨h,1,none⟩ (.int .i64 ((l.length:Int)+1))) h g room (l ++ [(s,xs,0,false,0)]):=by
 obtain ⟨h0,h1,h2,h3⟩:=mk_zero he
 have hle:=p.le
 have p1:=p.same k1
 have q:=put5_nodes (B' := fun b=>B b∨w.heap.size≤b) (i:=l.length) (x:=(s,xs,0,false,0)) (ao:=bo) (ac:=bc) p1.blk p1.each (by omega) ha (fun a e=>.inr (hb a e)) (fun k e=>.inl e)
 obtain ⟨q1,q2,q3⟩:=q
 have kp:=put5_kept w1 g (l.length * 5) (.int .i64 s) (.slice bo xs.length bc) (.int .i64 0) (.bool false) (.int .i64 0)
 have bx:=kp.at p1.box p.ne
 have ks:Kept (fun k=>k=h) (put5 w1 g (l.length * 5) (.int .i64 s) (.slice bo xs.length bc) (.int .i64 0) (.bool false) (.int .i64 0)) _:=Kept.setCell (S:=fun k=>k=h) (Kept.refl _ _) (p:=⟨h,1,none⟩) (fun _=>rfl) (.int .i64 ((l.length:Int)+1))
 have nh:∀ k,k=h→NotI (put5 w1 g (l.length * 5) (.int .i64 s) (.slice bo xs.length bc) (.int .i64 0) (.bool false) (.int .i64 0)) k:=fun k e cur hc=>by rw [e,bx] at hc;cases hc
 have gl:g<(put5 w1 g (l.length * 5) (.int .i64 s) (.slice bo xs.length bc) (.int .i64 0) (.bool false) (.int .i64 0)).heap.size:=Nat.lt_of_lt_of_le p1.ltG kp.size
 refine ⟨?_,?_,p.rm1,p.rm2,by simp;omega,fun i hi=>?_,may_make p.may (mk_may h0 h1 h2),p.ac.make p.inl _ (may_down (mk_may h0 h1 h2))⟩
 ·have:=setAt bx 1 (.int .i64 ((l.length:Int)+1))
  simpa using this
 ·obtain ⟨cs,q4,q5⟩:=q2
  exact ⟨cs,ks.at q4 (fun e=>p.ne e.symm),q5⟩
 ·by_cases e:i<l.length
  ·rw [List.getElem_append_left e]
   exact (q3 i e (by omega)).kept gl ks (fun e=>p.ne e.symm) (fun k _ e=>nh k e)
  ·obtain rfl:i=l.length:=by simp at hi;omega
   simp only [List.getElem_append_right (Nat.le_refl _),Nat.sub_self,List.getElem_cons_zero]
   exact q1.kept gl ks (fun e=>p.ne e.symm) (fun k _ e=>nh k e)
theorem made_kept {w w1:World} (k1:Same0 w w1) (h g off:Nat) (v0 v1 v2 v3 v4 v5:Value):Kept (fun k=>k=h∨k=g) w ((put5 w1 g off v0 v1 v2 v3 v4).setCell ⟨h,1,none⟩ v5):=by
 have a:Kept (fun k=>k=h∨k=g) w w1:=k1.mono (fun _ _ f=>f.elim)
 have b:=a.trans (S' := fun k=>k=g) (put5_kept w1 g off v0 v1 v2 v3 v4) (fun _ _ e=>.inr e)
 exact Kept.setCell (S:=fun k=>k=h∨k=g) b (p:=⟨h,1,none⟩) (fun _=>.inl rfl) v5
set_option maxHeartbeats 1000000 in
theorem make_yes {B:Nat→Prop} {w:World} {h g room:Nat} {l:List Nd} (p:HpB B w h g room l) (s:Int) {ao:Option Addr} {xs:List Int} {cap:Nat} (hx:Arg w ao xs cap) (he:mkE l room s xs=0) :
  Calls Try.prog 29 #[.pointer (some ⟨h,0,none⟩),.int .i64 s,.slice ao xs.length cap] w fun e w' => e=.returned (.tuple #[.int .i64 (l.length:Int),.int .i64 0])∧HpB (fun b=>B b∨w.heap.size≤b) w' h g room (l ++ [(s,xs,0,false,0)])∧Kept (fun k=>k=h∨k=g) w w' := by
 obtain ⟨h0,h1,h2,h3⟩:=mk_zero he
 obtain ⟨c0,c1⟩:=p.cells
 have hle:=p.le
 have hr2:=p.rm2
 have hne:=p.ne
 have C:=inside_any cap hx.at' (by omega) (l.length:Int)
 rw [h2] at C
 have i0:¬ s<0:=by omega
 have i1:(0:Int)≤(l.length:Int):=by omega
 have i2:(l.length:Int)<(room:Int):=by omega
 have i3:¬ ((l.length:Int)=(room:Int)):=by omega
 have HP:Hid (∀ ww,Same0 w ww→HpB B ww h g room l):=fun ww hk=>p.same hk
 have HC:Hid (∀ ww,Same0 w ww→Calls Try.prog 47 #[nodeV (s,xs,0,false,0) ao cap] ww fun e w' => ∃ bo bc,e=.returned (nodeV (s,xs,0,false,0) bo bc)∧ArgT w' bo xs bc∧(∀ a,bo=some a→ww.heap.size≤a.block)∧Same0 ww w'):=fun ww hk=>copied_any (x:=(s,xs,0,false,0)) (ac:=cap) ⟨hx.at'.same hk,hx.cap', hx.nil,hx.size⟩ (by simp;omega)
 have HF:Hid (∀ w1 bo bc,Same0 w w1→ArgT w1 bo xs bc→(∀ a,bo=some a→w.heap.size≤a.block)→HpB (fun b=>B b∨w.heap.size≤b) ((put5 w1 g (l.length * 5) (.int .i64 s) (.slice bo xs.length bc) (.int .i64 0) (.bool false) (.int .i64 0)).setCell ⟨h,1,none⟩ (.int .i64 ((l.length:Int)+1))) h g room (l ++ [(s,xs,0,false,0)])):=fun w1 bo bc k1 ha hb=>p.made k1 he ha hb
 have K0:Hid (∀ n,Same0 w (w.drewN n)):=fun n=>(Kept.refl _ _).drewN n
 clear he hx p h2 h3
 go_enter Try.func29,Try.ntmps29
 go_upto_region 5 with (first | (go_at_call 51;refine C.mono ?_;rintro e w' ⟨rfl,rfl⟩))
 clear C
 go_quiet (fail)
 go_upto_region 8 with fail
 obtain ⟨W2,hW2⟩:∃ W2,W2=w'.drewN nq:=⟨_,rfl⟩
 have K2:Same0 w' W2:=by rw [hW2];exact K0.out _
 rw [← hW2]
 clear hW2 c0 c1
 have K2d:Same0 w' W2.drew:=K2.drew
 have C0:=(HP.out _ K2d).cells.1
 have CCd:=HC.out _ K2d
 have hlr:l.length<room:=by omega
 have HT:Hid (l.length<room):=hlr
 have Hsz:Hid (w'.heap.size≤W2.drew.heap.size):=K2d.size
 go_region_with (first | (go_at_call 47;refine CCd.mono ?_;rintro e w3 ⟨bo,bc,rfl,ha,hbb,hk3⟩;have K3:=K2d.trans' hk3;have P3:=HP.out w3 K3;have cc1:=P3.cells.1;obtain ⟨u0,u1,u2,u3,u4,t0,t1,t2,t3,t4⟩:=P3.there HT.out;have f0:=P3.free.2 (l.length * 5);have f1:=P3.free.2 (l.length * 5+1);have f2:=P3.free.2 (l.length * 5+2);have f3:=P3.free.2 (l.length * 5+3);have f4:=P3.free.2 (l.length * 5+4)))
 all_goals
  obtain ⟨w5,hw5⟩:∃ w5,w5=put5 w3 g (l.length * 5) (.int .i64 s) (.slice bo xs.length bc) (.int .i64 0) (.bool false) (.int .i64 0):=⟨_,rfl⟩
  have K5:Kept (fun k=>k=g) w3 w5:=by rw [hw5];exact put5_kept _ _ _ _ _ _ _ _
  have b5:=K5.at P3.box hne
  have c5:w5.cell? ⟨h,1,none⟩=some (.int .i64 (l.length:Int)):=cellAt b5 1
  have e5:w5.frozen? ⟨h,1,none⟩=false:=frozenAt b5 1
  have F1:=HF.out w3 bo bc K3 ha (fun a e=>Nat.le_trans Hsz.out (hbb a e))
  have F2:=made_kept K3 h g (l.length * 5) (.int .i64 s) (.slice bo xs.length bc) (.int .i64 0) (.bool false) (.int .i64 0) (.int .i64 ((l.length:Int)+1))
  rw [← hw5] at F1 F2
  have FF:Hid (HpB (fun b=>B b∨w'.heap.size≤b) (w5.setCell ⟨h,1,none⟩ (.int .i64 ((l.length:Int)+1))) h g room (l ++ [(s,xs,0,false,0)])∧Kept (fun k=>k=h∨k=g) w' (w5.setCell ⟨h,1,none⟩ (.int .i64 ((l.length:Int)+1)))):=⟨F1,F2⟩
  change Exit.then _ _ Exit.normal _ (put5 w3 g (l.length * 5) (.int .i64 s) (.slice bo xs.length bc) (.int .i64 0) (.bool false) (.int .i64 0))
  rw [← hw5]
  clear hw5 F1 F2 b5 t0 t1 t2 t3 t4 f0 f1 f2 f3 f4 cc1 P3 C0 CCd ha hbb HF HC HP
  go_wp2
  go_ret2
  exact ⟨rfl,FF.out.1,FF.out.2⟩
end Go.Proofs.Ytcbplgfkgkefeaa
namespace Go.Proofs.Ytcbplgfkgkefeaa
set_option linter.unusedVariables false
structure Bf (l:List Nd) (top N:Nat) (met:List Bool) (F:List Nat):Prop where
 len:met.length=N
 top' : top∈F
 each:∀ j∈F,j<l.length∧Rc l top j
 iff:∀ j,met[j]? = some true ↔ j∈F
 cnt:F.length=met.count true
def Cl (l:List Nd) (F:List Nat) (i:Nat):Prop:=∀ k (h:k<F.length),k<i→∀ j,Ed l F[k] j→j∈F
theorem Bf.le {l:List Nd} {top N:Nat} {met:List Bool} {F:List Nat} (h:Bf l top N met F):F.length≤N:=by
 rw [h.cnt,← h.len];exact List.count_le_length
theorem Bf.start {l:List Nd} {top N:Nat} (ht:top<l.length) (hN:l.length≤N):Bf l top N ((List.replicate N false).set top true) [top]:=by
 refine ⟨by simp,by simp,?_,?_,?_⟩
 ·intro j hj;simp at hj;subst hj;exact ⟨ht,Rc.refl l j⟩
 ·intro j
  rw [List.getElem?_set]
  by_cases e:top=j
  ·subst e;simp;omega
  ·simp [e,List.getElem?_replicate]
   intro h;exact e h.symm
 ·rw [List.count_set (by simp;omega),List.count_replicate]
  simp
theorem Bf.push {l:List Nd} {top N:Nat} {met:List Bool} {F:List Nat} (h:Bf l top N met F) {b:Nat} (hb:met[b]? = some false) (hl:b<l.length) (hr:Rc l top b):Bf l top N (met.set b true) (F ++ [b]):=by
 obtain ⟨hlt,hv⟩:=List.getElem?_eq_some_iff.1 hb
 refine ⟨by simp [h.len],by simp [h.top'],?_,?_,?_⟩
 ·intro j hj
  rcases List.mem_append.1 hj with q | q
  ·exact h.each j q
  ·simp at q;subst q;exact ⟨hl,hr⟩
 ·intro j
  rw [List.getElem?_set]
  by_cases e:b=j
  ·subst e;simp [hlt]
  ·rw [if_neg e,h.iff]
   simp
   intro q;exact absurd q.symm e
 ·rw [List.count_set hlt,List.length_append,h.cnt]
  simp [hv]
theorem Cl.push {l:List Nd} {F:List Nat} {i:Nat} (h:Cl l F i) (hi:i≤F.length) (b:Nat):Cl l (F ++ [b]) i:=by
 intro k hk hki j e
 rw [List.getElem_append_left (by omega)] at e
 exact List.mem_append.2 (.inl (h k (by omega) hki j e))
theorem Bf.done {l:List Nd} {top N:Nat} {met:List Bool} {F:List Nat} (h:Bf l top N met F) (hc:Cl l F F.length) (a:Nat):met[a]? = some true ↔ Rc l top a:=by
 rw [h.iff]
 refine ⟨fun q=>(h.each a q).2,fun q=>?_⟩
 refine Rc.in (S:=fun j=>j∈F) (fun i j hi e=>?_) h.top' q
 obtain ⟨k,hk,rfl⟩:=List.mem_iff_getElem.1 hi
 exact hc k hk hk j e
theorem Bf.has {l:List Nd} {top N:Nat} {met:List Bool} {F:List Nat} (h:Bf l top N met F) {a:Nat} (q:met[a]? = some true):Rc l top a:=(h.each a ((h.iff a).1 q)).2
theorem Cl.next {l:List Nd} {F:List Nat} {i:Nat} (h:Cl l F i) (hi:i<F.length) (hd:∀ z∈(if h:F[i]<l.length then downL l[F[i]] else []),z.toNat∈F):Cl l F (i+1):=by
 intro k hk hki j e
 by_cases q:k=i
 ·subst q
  obtain ⟨hlt,hm⟩:=e
  have:=hd (j:Int) (by rw [dif_pos hlt];exact hm)
  simpa using this
 ·exact h k hk (by omega) j e
end Go.Proofs.Ytcbplgfkgkefeaa
