import Derived.WalkKit
import Derived.WalkSpells
import Derived.Maps.OwnSet
import Derived.Deep.AppendLies
import Derived.Deep.QuietTactic
import Derived.BigQuiet
import Derived.Below
import Derived.WideShapes
import Derived.RangeFuncNested
import Derived.RangeFuncLeaves
import Derived.RangeFuncBox
import Derived.Test.YtmloedlkoijfbaaProg
import Derived.KernelRfl
import Derived.WalkLawsBesides
import Derived.Deep.RegionLaw
import Derived.Deep.DeepCutAuto
import Derived.Deep.DrawnRows
import Derived.Deep.Slices
import Derived.Deep.Strs
import Derived.ProofKit
import Derived.Handy
import Derived.OwnWalk
import Derived.Laws.CopyOwn
import Derived.Laws.AppendOwnNone
import Derived.SizedLaws
namespace Go.Proofs.Ytmloedlkoijfbaa
open Go.RowKit
structure Kept (S:Nat→Prop) (w w' : World):Prop where
 os:w'.os=w.os
 tape:w'.tape=w.tape
 output:w'.output=w.output
 size:w.heap.size≤w'.heap.size
 block:∀ k,k<w.heap.size→¬ S k→w'.heap[k]? = w.heap[k]?
theorem Kept.refl (S:Nat→Prop) (w:World):Kept S w w:=⟨rfl,rfl,rfl,Nat.le_refl _,fun _ _ _=>rfl⟩
theorem Kept.trans {S S' : Nat→Prop} {a b c:World} (h:Kept S a b) (k:Kept S' b c) (hs:∀ i,i<a.heap.size→S' i→S i):Kept S a c:=
 ⟨k.os.trans h.os,k.tape.trans h.tape,k.output.trans h.output,Nat.le_trans h.size k.size,fun i hi hn=>(k.block i (Nat.lt_of_lt_of_le hi h.size) (fun x=>hn (hs i hi x))).trans (h.block i hi hn)⟩
theorem Kept.mono {S S' : Nat→Prop} {w w' : World} (h:Kept S w w') (hs:∀ i,i<w.heap.size→S i→S' i):Kept S' w w' :=
 ⟨h.os,h.tape,h.output,h.size,fun k hk hn=>h.block k hk (fun x=>hn (hs k hk x))⟩
theorem Kept.drew {S:Nat→Prop} {a w:World} (h:Kept S a w):Kept S a w.drew:=⟨h.os,h.tape,h.output,h.size,h.block⟩
theorem Kept.drewN {S:Nat→Prop} {a w:World} (h:Kept S a w) (n:Nat):Kept S a (w.drewN n):=⟨h.os,h.tape,h.output,h.size,h.block⟩
theorem Kept.alloc {S:Nat→Prop} {a w:World} (h:Kept S a w) (o:Obj):Kept S a (w.alloc o):=
 h.trans (S' := fun _=>False) ⟨rfl,rfl,rfl,by simp,fun k hk _=>Below.heap_alloc _ _ _ hk⟩ (fun _ _ x=>x.elim)
theorem Kept.setCell {S:Nat→Prop} {a w:World} (h:Kept S a w) {p:Addr} (hp:p.block<a.heap.size→S p.block) (u:Value):Kept S a (w.setCell p u):=
 h.trans (S' := fun k=>k=p.block) ⟨rfl,rfl,rfl,by simp [World.setCell],fun k _ hn=>Below.heap_setCell _ _ _ _ hn⟩ (fun i hi e=>by subst e;exact hp hi)
theorem Kept.grown {S:Nat→Prop} {a w w' : World} {row:Option Nat} (h:Kept S a w) (hg:w.grownBy w' row) (hr:∀ k,row=some k→k<a.heap.size→S k):Kept S a w' :=
 h.trans (S' := fun k=>row=some k) ⟨hg.os,hg.tape,hg.output,hg.size,fun k hk hn=>hg.block k hk (fun e=>hn e.symm)⟩ (fun i hi e=>hr i e hi)
theorem Kept.below {S:Nat→Prop} {w w' : World} {B:Nat} (h:Kept S w w') (hB:B≤w.heap.size) (hs:∀ k,k<B→¬ S k):Below B w w' :=
 ⟨h.os,h.tape,h.output,h.size,fun k hk=>h.block k (by omega) (hs k hk)⟩
theorem Kept.cell {S:Nat→Prop} {w w' : World} (h:Kept S w w') {p:Addr} (hp:p.block<w.heap.size) (hn:¬ S p.block):w'.cell? p=w.cell? p:=World.cell?_of_block (h.block p.block hp hn)
theorem Kept.at {S:Nat→Prop} {w w' : World} (h:Kept S w w') {b:Nat} {o:Obj} (hb:w.heap[b]? = some o) (hn:¬ S b):w'.heap[b]? = some o:=
 (h.block b (Array.getElem?_eq_some_iff.1 hb).1 hn).trans hb
theorem lt_of_at {w:World} {b:Nat} {o:Obj} (hb:w.heap[b]? = some o):b<w.heap.size:=(Array.getElem?_eq_some_iff.1 hb).1
theorem Kept.row {S:Nat→Prop} {w w' : World} (h:Kept S w w') {base:Nat} {e:TypeId} {size:Nat} {v:Value} {n:Nat} {xs:List Value} (hr:w.ownsRow base e size v n xs) (hn:∀ k,v.ownBlock=some k→¬ S k):w'.ownsRow base e size v n xs:=by
 refine ⟨hr.1,?_⟩
 rcases hr.2 with h0 | ⟨g,cap,cur,rfl,hb,hg,r⟩
 ·exact .inl h0
 ·exact .inr ⟨g,cap,cur,rfl,hb,h.at hg (hn g rfl),r⟩
theorem Kept.map {S:Nat→Prop} {w w' : World} (h:Kept S w w') {H:Type} {P:Program} {k:TypeId} {R:Value→Option (DataW H × List MemPlace)} {b n:Nat} {D:DataW H} (hm:w.ownsMap P k R b n D) (hn:¬ S b):w'.ownsMap P k R b n D:=by
 obtain ⟨es,clock,hb,r⟩:=hm
 exact ⟨es,clock,h.at hb hn,r⟩
theorem cellAt {w:World} {b:Nat} {cs:Array Value} {t:TypeId} {fr:Nat × Nat} (h:w.heap[b]? = some (.cells cs t fr)) (o:Nat):w.cell? ⟨b,o,none⟩=cs[o]? := by
 simp [World.cell?,h]
theorem frozenAt {w:World} {b:Nat} {cs:Array Value} {t:TypeId} (h:w.heap[b]? = some (.cells cs t (0,0))) (o:Nat):w.frozen? ⟨b,o,none⟩=false:=by
 simp [World.frozen?,h]
theorem setAt {w:World} {b:Nat} {cs:Array Value} {t:TypeId} {fr:Nat × Nat} (h:w.heap[b]? = some (.cells cs t fr)) (o:Nat) (v:Value):(w.setCell ⟨b,o,none⟩ v).heap[b]? = some (.cells (cs.setIfInBounds o v) t fr):=by
 simp [World.setCell,Array.getElem?_modify,h]
theorem row_shape {w:World} {base:Nat} {e:TypeId} {size:Nat} {v:Value} {n:Nat} {xs:List Value} (h:w.ownsRow base e size v n xs):∃ ao cap,v=.slice ao n cap:=by
 rcases h.2 with ⟨rfl,h0⟩ | ⟨g,cap,cur,rfl,_⟩
 ·exact ⟨none,0,by rw [h0]⟩
 ·exact ⟨_,cap,rfl⟩
theorem row_mono {w:World} {base base' : Nat} {e:TypeId} {size:Nat} {v:Value} {n:Nat} {xs:List Value} (h:w.ownsRow base e size v n xs) (hb:base' ≤ base):w.ownsRow base' e size v n xs:=by
 refine ⟨h.1,h.2.imp id ?_⟩
 rintro ⟨g,cap,cur,hv,hg,r⟩
 exact ⟨g,cap,cur,hv,by omega,r⟩
theorem ret_bool {a b:Bool} (h:a=b):Ending.returned (.bool a)=.returned (.bool b):=by rw [h]
theorem ret_int {k:IntKind} {a b:Int} (h:a=b):Ending.returned (.int k a)=.returned (.int k b):=by rw [h]
abbrev Same0:World→World→Prop:=Kept (fun _=>False)
theorem Same0.trans' {a b c:World} (h:Same0 a b) (k:Same0 b c):Same0 a c:=Kept.trans h k (fun _ _ f=>f)
theorem Same0.of_below {w w' : World} (h:Below w.heap.size w w'):Same0 w w' := ⟨h.os,h.tape,h.output,h.size,fun k hk _=>h.block k hk⟩
theorem Same0.below {w w' : World} (h:Same0 w w'):Below w.heap.size w w' := Kept.below h (Nat.le_refl _) (fun _ _ f=>f)
theorem Same0.at0 {w w' : World} (h:Same0 w w') {b:Nat} {o:Obj} (hb:w.heap[b]? = some o):w'.heap[b]? = some o:=Kept.at h hb (fun f=>f)
end Go.Proofs.Ytmloedlkoijfbaa
namespace Go.Proofs.Ytmloedlkoijfbaa
set_option linter.unusedVariables false
open Go.RowKit
theorem putObj_at {W:World} {l k:Nat} {o o' x:Obj} (hl:W.heap[l]? = some o) (hx:o.isCells=false) (hk:W.heap[k]? = some x) (hc:x.isCells=true):(W.putObj l o').heap[k]? = some x:=by
 have:k≠l:=fun e=>by subst e;rw [hl] at hk;cases hk;rw [hx] at hc;cases hc
 exact (World.putObj_heap_other this).trans hk
structure Rnd (D B:Nat) (W W' : World):Prop where
 recs:KeepsFrom D W W'
 below:Below B W W'
theorem Rnd.trans {D B:Nat} {X Y Z:World} (h:Rnd D B X Y) (k:Rnd D B Y Z):Rnd D B X Z:=⟨h.recs.trans k.recs,h.below.trans k.below⟩
theorem Rnd.same {D B:Nat} {W W' : World} (h:Same0 W W') (hB:B≤W.heap.size):Rnd D B W W' :=
 ⟨⟨h.size,fun k o _ hk _=>h.at0 hk⟩,h.below.mono hB⟩
section
variable {F : Fence} {n : Nat} {P : Program}
end
section
variable {F : Fence} {n : Nat} {P : Program}
end
theorem kept_putH {W:World} {l:Nat} {o' : Obj}:Kept (fun k=>k=l) W (W.putObj l o'):=
 ⟨rfl,rfl,rfl,by simp,fun k _ hn=>World.putObj_heap_other hn⟩
def CellsOf (C:Nat→Prop) (X:World):Prop:=∀ i,C i→∃ cs t fr,X.heap[i]? = some (.cells cs t fr)
theorem CellsOf.kept {C:Nat→Prop} {X Y:World} (h:CellsOf C X) (hk:Kept (fun i=>¬ C i) X Y):CellsOf C Y:=fun i hi=>by
 obtain ⟨cs,t,fr,e⟩:=h i hi
 exact ⟨cs,t,fr,hk.at e (fun q=>q hi)⟩
theorem CellsOf.same {C:Nat→Prop} {X Y:World} (h:CellsOf C X) (hk:Same0 X Y):CellsOf C Y:=h.kept (hk.mono (fun _ _ f=>f.elim))
theorem CellsOf.put {C:Nat→Prop} {X:World} (h:CellsOf C X) {l:Nat} {o o' : Obj} (hl:X.heap[l]? = some o) (ho:o.isCells=false):Kept (fun i=>¬ C i) X (X.putObj l o'):=
 kept_putH.mono (fun i _ e hc=>by
  obtain ⟨cs,t,fr,q⟩:=h i hc
  have e' : i=l:=e
  rw [e', hl] at q
  cases q
  cases ho)
structure RndC (D:Nat) (C:Nat→Prop) (W W' : World):Prop where
 recs:KeepsFrom D W W'
 kp:Kept (fun i=>¬ C i) W W'
theorem RndC.same {D:Nat} {C:Nat→Prop} {W W' : World} (h:Same0 W W'):RndC D C W W' := ⟨⟨h.size,fun k o _ hk _=>h.at0 hk⟩,h.mono (fun _ _ f=>f.elim)⟩
section
variable {F : Fence} {n : Nat} {P : Program}
def HandsC (F:Fence) (n:Nat) (P:Program) (gf:Nat) (lb:Array Value) (A:Nat→Prop) (N:Nat) (Lk:Nat→Array Value→World→Prop) (w:World):Prop:=
 ∀ (l:Nat) (J:(Nat→Prop)→Nat→World→Prop) (Z:World→Prop) (W:World),Same0 w W→(∀ C k X Y,J C k X→Same0 X Y→J C k Y)→(∀ X Y,Z X→Same0 X Y→Z Y) →
  (∀ C k vs X,k<N→CellsOf C X→J C k X→Lk k vs X→YieldAt F (n-1) P l vs X fun e Y=>(e=.returned (.bool true)∧J C (k+1) Y∧Kept (fun i=>¬ C i) X Y)∨(e=.returned (.bool false)∧Z Y)) →
  (∀ C X,Same0 W X→CellsOf C X→(∀ i,C i→W.heap.size≤i∨A i)→J C 0 X) →
  CallsIn F n P gf (#[.func (.yield l) #[] #[]]++lb) W fun e Y=>(∃ v,e=.returned v)∧((∃ C,J C N Y)∨Z Y)
theorem wp_handsC {g:Operand} {ps:Array Tmp} {assign body:Code} {Q:Exit→Act→World→Prop} {a:Act} {w:World}
  (hro:F.round=none) (h1:1≤n) {gf:Nat} {lb:Array Value} (hg:a.eval g=.func (.func gf) #[] lb) (hFg:F.fn gf) (eg:∀ args w,(callFunc gf args).run P w=.ok (.enter gf args) w)
  {N:Nat} {Lk:Nat→Array Value→World→Prop} {A:Nat→Prop} (hh:HandsC F (n-1) P gf lb A N Lk w) (hsz:∀ k vs W,Lk k vs W→vs.size=ps.size)
  (J:(Nat→Prop)→Nat→World→Prop) (hJ:∀ C k X Y,J C k X→Same0 X Y→J C k Y) (hJp:∀ C k X l o o', J C k X→X.heap[l]? = some o→o.isCells=false→w.heap.size≤l→J C k (X.putObj l o')) (h0:∀ C X,Same0 w X→CellsOf C X→(∀ i,C i→w.heap.size≤i∨A i)→J C 0 X) (Z:World→Prop) (hZ:∀ X Y,Z X→Same0 X Y→Z Y) (hZp:∀ X l o o', Z X→X.heap[l]? = some o→o.isCells=false→w.heap.size≤l→Z (X.putObj l o'))
  (hround:∀ (l:Nat) (C:Nat→Prop) (k:Nat) (vs:Array Value) (W:World),k<N→w.heap.size≤l→l<W.heap.size→CellsOf C W→J C k W→Lk k vs W →
   assign.wpIn (F.inRound l) (n-1-1) P (Exit.then (fun a' Wa=>RndC w.heap.size C W Wa∧∀ o o', Wa.heap[l]? = some o→o.isCells=false→o'.isCells=false →
    body.wpIn (F.inRound l) (n-1-1) P (fun e _ Y=>(e=.normal∧RndC w.heap.size C (Wa.putObj l o') Y∧J C (k+1) Y)∨(e=.ret∧KeepsFrom w.heap.size (Wa.putObj l o') Y∧Z Y)) a' (Wa.putObj l o')) (fun _ _ _=>False))
    { tmps:=(ps.zip vs).foldl (fun t (p,v)=>t.setIfInBounds p v) a.tmps,defers:=[] } W)
  (hdone:∀ (D:Nat) (W:World),w.heap.size≤D→(∃ C,J C N W)→W.heap[D]? = some (.deferred (some []))→Q .normal { a with defers:={ target:=.collected D,args:=#[] } :: a.defers } W)
  (hstop:∀ (D:Nat) (W:World),w.heap.size≤D→Z W→W.heap[D]? = some (.deferred (some []))→Code.wpIn F n P .ret Q { a with defers:={ target:=.collected D,args:=#[] } :: a.defers } W) :
  (Code.rangeFunc g ps assign body).wpIn F n P Q a w:=by
 refine wpIn_rangeFunc fun fn hfn=>?_
 rw [hro]
 have hen:=run_enterLoop_outer (P:=P) (w:=w) fn a.tmps ps assign body
 obtain ⟨st,hst⟩:∃ st:LoopState→Option Code→Loop,st=fun s p=>{ state:=s,pending:=p,fn:=fn,tmps:=a.tmps,params:=ps,assign:=assign,body:=body,defers:=w.heap.size }:=⟨_,rfl⟩
 obtain ⟨W1,hW1⟩:∃ W1,W1=(w.alloc (.deferred (some []))).alloc (.loop (st .ready none)):=⟨_,rfl⟩
 have hs1:Same0 w W1:=by rw [hW1];exact ((Kept.refl _ w).alloc _).alloc _
 have hd1:W1.heap[w.heap.size]? = some (.deferred (some [])):=by
  rw [hW1];exact (Below.heap_alloc _ _ _ (by simp)).trans (World.alloc_heap_new w _)
 have hl1:W1.heap[w.heap.size+1]? = some (.loop (st .ready none)):=by
  have:=World.alloc_heap_new (w.alloc (.deferred (some []))) (.loop (st .ready none))
  rw [hW1];simpa using this
 refine ⟨w.heap.size+1,[{ target:=.collected w.heap.size,args:=#[] }],W1, { target:=.fn (.func gf) lb,args:=#[.func (.yield (w.heap.size+1)) #[] #[]] },W1,gf, #[.func (.yield (w.heap.size+1)) #[] #[]]++lb,W1,?_,?_,?_,?_,fun _=>h1,?_⟩
 ·rw [hen,hW1,hst]
 ·simp only [resolve,hg];simp [go_sem]
 ·intro f' hf'; simp [Target.leads] at hf'; subst hf'; exact hFg
 ·simp [invoke,go_sem,eg]
 ·have hcall:=hh (w.heap.size+1) (fun C k X=>J C k X∧X.heap[w.heap.size+1]? = some (.loop (st .ready none))∧X.heap[w.heap.size]? = some (.deferred (some []))) (fun X=>Z X∧X.heap[w.heap.size+1]? = some (.loop (st .done (some .ret)))∧X.heap[w.heap.size]? = some (.deferred (some []))) W1 hs1
   (fun C k X Y h hk=>⟨hJ C k X Y h.1 hk,hk.at0 h.2.1,hk.at0 h.2.2⟩) (fun X Y h hk=>⟨hZ X Y h.1 hk,hk.at0 h.2.1,hk.at0 h.2.2⟩) ?_ (fun C X hk hc hci=>⟨h0 C X (hs1.trans' hk) hc (fun i hi=>(hci i hi).imp (fun q=>Nat.le_trans hs1.size q) id),hk.at0 hl1,hk.at0 hd1⟩)
  ·refine hcall.mono ?_
   rintro e Y ⟨⟨v,rfl⟩,⟨C,hj,hl,hd⟩ | ⟨hz,hl,hd⟩⟩
   rotate_left
   ·have hend:=run_endLoop (P:=P) hl (by rw [hst];simp)
    rw [hst] at hend
    exact ⟨some .ret,_,hend,hstop w.heap.size _ (Nat.le_refl _) (hZp _ _ _ _ hz hl rfl (by omega)) ((World.putObj_heap_other (by omega)).trans hd)⟩
   have hend:=run_endLoop (P:=P) hl (by rw [hst];simp)
   rw [hst] at hend
   exact ⟨none,_,hend,hdone w.heap.size _ (Nat.le_refl _) ⟨C,hJp _ _ _ _ _ _ hj hl rfl (by omega)⟩ ((World.putObj_heap_other (by omega)).trans hd)⟩
  ·rintro C k vs X hk hcc ⟨hj,hl,hd⟩ hlk
   have hy:=run_yield (P:=P) (args:=vs) hl (by rw [hst];exact hsz k vs X hlk)
   rw [hst] at hy
   have hlX:w.heap.size+1<X.heap.size:=(Array.getElem?_eq_some_iff.1 hl).1
   refine ⟨fn,_,assign,body,hy,roundIn_of_wpIn hfn (wpIn_mono (hround (w.heap.size+1) C k vs X hk (by omega) hlX hcc hj hlk) ?_)⟩
   rintro e a' Wa hp
   cases e with
   | normal=>
    obtain ⟨hr,hb⟩:=hp
    have hla:=hr.recs.same _ _ (by omega) hl rfl
    have hda:=hr.recs.same _ _ (Nat.le_refl _) hd rfl
    have hlt:w.heap.size+1<Wa.heap.size:=(Array.getElem?_eq_some_iff.1 hla).1
    refine ⟨_,run_beginRound hla (by rw [hst]),wpIn_mono (hb _ (.loop { st .ready none with state:=.busy }) hla rfl rfl) ?_⟩
    rintro e2 a2 Y (⟨rfl,hr2,hj2⟩ | ⟨rfl,hr2,hz2⟩)
    rotate_left
    ·have hl2:=hr2.same _ _ (by omega) (World.putObj_heap_same (o:=.loop { st .ready none with state:=.busy }) hlt) rfl
     have hd2:=hr2.same _ _ (Nat.le_refl _) ((World.putObj_heap_other (o:=.loop { st .ready none with state:=.busy }) (by omega)).trans hda) rfl
     have hend:=run_endRound (P:=P) (some .ret) hl2
     rw [hst] at hend
     refine ⟨_,_,hend,.inr ⟨rfl,hZp _ _ _ _ hz2 hl2 rfl (by omega),?_,(World.putObj_heap_other (by omega)).trans hd2⟩⟩
     rw [hst];exact World.putObj_heap_same (Array.getElem?_eq_some_iff.1 hl2).1
    have hl2:=hr2.recs.same _ _ (by omega) (World.putObj_heap_same (o:=.loop { st .ready none with state:=.busy }) hlt) rfl
    have hd2:=hr2.recs.same _ _ (Nat.le_refl _) ((World.putObj_heap_other (o:=.loop { st .ready none with state:=.busy }) (by omega)).trans hda) rfl
    have hend:=run_endRound (P:=P) none hl2
    rw [hst] at hend
    refine ⟨_,_,hend,.inl ⟨rfl,⟨hJp _ _ _ _ _ _ hj2 hl2 rfl (by omega),?_,(World.putObj_heap_other (by omega)).trans hd2⟩,?_⟩⟩
    ·rw [hst];exact World.putObj_heap_same (Array.getElem?_eq_some_iff.1 hl2).1
    ·have c1:=hcc.kept hr.kp
     have p1:=c1.put (o' := .loop { st .ready none with state:=.busy }) hla rfl
     have c2:=(c1.kept p1).kept hr2.kp
     exact ((hr.kp.trans p1 (fun _ _ e=>e)).trans hr2.kp (fun _ _ e=>e)).trans (c2.put hl2 rfl) (fun _ _ e=>e)
   | _=>exact hp.elim
end
end Go.Proofs.Ytmloedlkoijfbaa
namespace Go.Proofs.Ytmloedlkoijfbaa
set_option linter.unusedVariables false
abbrev Nd:=Int × List Int × Int × Bool × Int
def downL (n:Nd):List Int:=if n.2.2.2.1=true then [n.2.2.2.2] else n.2.1
def InL (l:List Nd):Prop:=∀ i (h:i<l.length),∀ x∈downL l[i],0≤x∧x<(l.length:Int)
def Ed (l:List Nd) (i j:Nat):Prop:=∃ h:i<l.length,(j:Int)∈downL l[i]
def Ac (l:List Nd):Prop:=∃ r:Nat→Nat,∀ i j,Ed l i j→r j<r i
def Rk (l:List Nd):Nat→Nat→Nat→Prop
 | 0,i,j=>i=j
 | k+1,i,j=>∃ m,Ed l i m∧Rk l k m j
def Rc (l:List Nd) (i j:Nat):Prop:=∃ k,Rk l k i j
theorem Rc.refl (l:List Nd) (i:Nat):Rc l i i:=⟨0,rfl⟩
theorem Rc.step {l:List Nd} {i m j:Nat} (h:Ed l i m) (k:Rc l m j):Rc l i j:=by
 obtain ⟨n,hn⟩:=k
 exact ⟨n+1,m,h,hn⟩
theorem Rk.snoc {l:List Nd}:∀ {k i m j:Nat},Rk l k i m→Ed l m j→Rk l (k+1) i j
 | 0,i,m,j,h,e=>by cases h;exact ⟨j,e,rfl⟩
 | k+1,i,m,j,⟨x,h1,h2⟩,e=>⟨x,h1,h2.snoc e⟩
theorem Rc.snoc {l:List Nd} {i m j:Nat} (h:Rc l i m) (e:Ed l m j):Rc l i j:=by
 obtain ⟨n,hn⟩:=h
 exact ⟨n+1,hn.snoc e⟩
theorem Rk.trans {l:List Nd}:∀ {k i m j:Nat},Rk l k i m→Rc l m j→Rc l i j
 | 0,i,m,j,h,e=>by cases h;exact e
 | k+1,i,m,j,⟨x,h1,h2⟩,e=>(h2.trans e).step h1
theorem Rc.trans {l:List Nd} {i m j:Nat} (h:Rc l i m) (e:Rc l m j):Rc l i j:=by
 obtain ⟨n,hn⟩:=h
 exact hn.trans e
theorem Rk.rank {l:List Nd} {r:Nat→Nat} (hr:∀ i j,Ed l i j→r j<r i):∀ {k i j:Nat},Rk l k i j→r j+k≤r i
 | 0,i,j,h=>by cases h;omega
 | k+1,i,j,⟨m,h1,h2⟩=>by
  have:=Rk.rank hr h2
  have:=hr i m h1
  omega
theorem Ac.no_ring {l:List Nd} (h:Ac l) {i j:Nat} (e:Ed l i j):¬ Rc l j i:=by
 obtain ⟨r,hr⟩:=h
 rintro ⟨k,hk⟩
 have:=Rk.rank hr hk
 have:=hr i j e
 omega
theorem Rc.in {l:List Nd} {S:Nat→Prop} (hS:∀ i j,S i→Ed l i j→S j) {i j:Nat} (hi:S i) (h:Rc l i j):S j:=by
 obtain ⟨k,hk⟩:=h
 induction k generalizing i with
 | zero=>cases hk;exact hi
 | succ k ih=>
  obtain ⟨m,h1,h2⟩:=hk
  exact ih (hS i m hi h1) h2
theorem ed_set {l:List Nd} {a:Nat} {x:Nd} {i j:Nat} (h:Ed (l.set a x) i j):(i≠a∧Ed l i j)∨(i=a∧(j:Int)∈downL x):=by
 obtain ⟨hi,hm⟩:=h
 by_cases e:i=a
 ·subst e
  rw [List.getElem_set_self] at hm
  exact .inr ⟨rfl,hm⟩
 ·rw [List.getElem_set_ne (by omega)] at hm
  exact .inl ⟨e,by simpa using hi,hm⟩
theorem Ac.point {l:List Nd} (h:Ac l) {a t:Nat} (hn:¬ Rc l t a) (x:Nd) (hx:∀ j:Nat,(j:Int)∈downL x→j=t):Ac (l.set a x):=by
 obtain ⟨r,hr⟩:=h
 have dec:∀ i,Rc l t i∨¬ Rc l t i:=fun i=>Classical.em _
 obtain ⟨f,hf⟩:=Classical.axiomOfChoice (r:=fun (i:Nat) (n:Nat)=>(Rc l t i→n=r i)∧(¬ Rc l t i→n=r i+(r t+1))) (fun i=>by
  rcases dec i with q | q
  ·exact ⟨r i,fun _=>rfl,fun e=>absurd q e⟩
  ·exact ⟨r i+(r t+1),fun e=>absurd e q,fun _=>rfl⟩)
 refine ⟨f,fun i j e=>?_⟩
 have up:∀ i,r i≤f i∧f i≤r i+(r t+1):=fun i=>by
  rcases dec i with q | q
  ·have:=(hf i).1 q;omega
  ·have:=(hf i).2 q;omega
 rcases ed_set e with ⟨hne,e1⟩ | ⟨rfl,e1⟩
 ·have h1:=hr i j e1
  rcases dec i with q | q
  ·have h2:=(hf i).1 q
   have h3:=(hf j).1 (q.snoc e1)
   omega
  ·have h2:=(hf i).2 q
   have h3:=(up j).2
   omega
 ·obtain rfl:=hx j e1
  have h2:=(hf i).2 hn
  have h3:=(hf j).1 (Rc.refl l j)
  omega
theorem ed_snoc {l:List Nd} {x:Nd} {i j:Nat} (h:Ed (l ++ [x]) i j):Ed l i j∨(i=l.length∧(j:Int)∈downL x):=by
 obtain ⟨hi,hm⟩:=h
 by_cases e:i<l.length
 ·rw [List.getElem_append_left e] at hm
  exact .inl ⟨e,hm⟩
 ·obtain rfl:i=l.length:=by simp at hi;omega
  exact .inr ⟨rfl,by simpa using hm⟩
def topR (r:Nat→Nat):List Int→Nat
 | []=>0
 | x :: l=>max (r x.toNat) (topR r l)
theorem topR_le {r:Nat→Nat}:∀ {l:List Int} {j:Nat},(j:Int)∈l→r j≤topR r l
 | x :: l,j,h=>by
  rcases List.mem_cons.1 h with e | e
  ·simp only [topR,← e,Int.toNat_natCast];omega
  ·have:=topR_le (r:=r) e
   simp only [topR];omega
theorem Ac.make {l:List Nd} (h:Ac l) (hl:InL l) (x:Nd) (hx:∀ z∈downL x,0≤z∧z<(l.length:Int)):Ac (l ++ [x]):=by
 obtain ⟨r,hr⟩:=h
 refine ⟨fun i=>if i=l.length then topR r (downL x)+1 else r i,fun i j e=>?_⟩
 rcases ed_snoc e with e1 | ⟨rfl,e1⟩
 ·have hi:i<l.length:=e1.1
  have hj:(j:Int)<(l.length:Int):=(hl i hi _ e1.2).2
  simp only [if_neg (show ¬ i=l.length by omega),if_neg (show ¬ j=l.length by omega)]
  exact hr i j e1
 ·have hj:=(hx _ e1).2
  simp only [if_neg (show ¬ j=l.length by omega),if_true]
  have:=topR_le (r:=r) e1
  omega
theorem InL.make {l:List Nd} (hl:InL l) (x:Nd) (hx:∀ z∈downL x,0≤z∧z<(l.length:Int)):InL (l ++ [x]):=by
 intro i hi z hz
 have e:((l ++ [x]).length:Int)=(l.length:Int)+1:=by simp
 by_cases h:i<l.length
 ·rw [List.getElem_append_left h] at hz
  have:=hl i h z hz
  omega
 ·obtain rfl:i=l.length:=by simp at hi;omega
  have:=hx z (by simpa using hz)
  omega
theorem InL.set {l:List Nd} (hl:InL l) (a:Nat) (x:Nd) (hx:∀ z∈downL x,0≤z∧z<(l.length:Int)):InL (l.set a x):=by
 intro i hi z hz
 rw [List.length_set]
 by_cases e:i=a
 ·subst e
  rw [List.getElem_set_self] at hz
  exact hx z hz
 ·rw [List.getElem_set_ne (by omega)] at hz
  exact hl i (by simpa using hi) z hz
def Snd (l:List Nd) (S:Nat→Prop):Prop:=∃ r:Nat→Nat,∀ i j,S i→Ed l i j→S j∧r j<r i
theorem Snd.none (l:List Nd):Snd l (fun _=>False):=⟨fun _=>0,fun _ _ h=>h.elim⟩
theorem Snd.more {l:List Nd} {S:Nat→Prop} (h:Snd l S) {a:Nat} (ha:∀ j,Ed l a j→S j):Snd l (fun i=>S i∨i=a):=by
 obtain ⟨r,hr⟩:=h
 by_cases hS:S a
 ·refine ⟨r,fun i j hi e=>?_⟩
  have hi:S i:=by rcases hi with q | q;exact q;rw [q];exact hS
  exact ⟨.inl (hr i j hi e).1,(hr i j hi e).2⟩
 ·by_cases hl:a<l.length
  ·refine ⟨fun i=>if i=a then topR r (downL l[a])+1 else r i,fun i j hi e=>?_⟩
   rcases hi with hi | rfl
   ·have h1:=hr i j hi e
    have n1:¬ i=a:=fun q=>hS (q ▸ hi)
    have n2:¬ j=a:=fun q=>hS (q ▸ h1.1)
    simp only [if_neg n1,if_neg n2]
    exact ⟨.inl h1.1,h1.2⟩
   ·have h1:=ha j e
    have n2:¬ j=i:=fun q=>hS (q ▸ h1)
    simp only [if_neg n2,if_true]
    have:=topR_le (r:=r) e.2
    exact ⟨.inl h1,by omega⟩
  ·refine ⟨r,fun i j hi e=>?_⟩
   rcases hi with hi | rfl
   ·exact ⟨.inl (hr i j hi e).1,(hr i j hi e).2⟩
   ·exact absurd e.1 hl
theorem Snd.ac {l:List Nd} {S:Nat→Prop} (h:Snd l S) (ha:∀ i,i<l.length→S i):Ac l:=by
 obtain ⟨r,hr⟩:=h
 exact ⟨r,fun i j e=>(hr i j (ha i e.1) e).2⟩
theorem Ac.all {l:List Nd} (h:Ac l) (hl:InL l) {S:Nat→Prop} (hS:∀ i,i<l.length→(∀ j,Ed l i j→S j)→S i):∀ i,i<l.length→S i:=by
 obtain ⟨r,hr⟩:=h
 have:∀ n i,r i<n→i<l.length→S i:=by
  intro n
  induction n with
  | zero=>intro i h;omega
  | succ n ih=>
   intro i h hi
   refine hS i hi (fun j e=>ih j ?_ ?_)
   ·have:=hr i j e;omega
   ·have:=(hl i hi _ e.2).2;omega
 exact fun i hi=>this (r i+1) i (by omega) hi
end Go.Proofs.Ytmloedlkoijfbaa
namespace Go.Proofs.Ytmloedlkoijfbaa
end Go.Proofs.Ytmloedlkoijfbaa
namespace Go.Proofs.Ytmloedlkoijfbaa
open Go.RowKit
structure Sym where
 name:ByteArray
 ar:Int
 df:Bool
def findI:List Sym→ByteArray→Option Nat
 | [],_=>none
 | x :: r,s=>if x.name=s then some 0 else (findI r s).map (· + 1)
def MapIs (w:World) (mr:Option Nat) (L:List Sym):Prop:=
 match mr with
 | none=>L=[]
 | some bm=>∃ n D,w.ownsMap (H:=Unit) Try.prog 9 (plainElem Try.prog 3) bm n D∧n≤L.length ∧
   ∀ s:ByteArray,Maps.has D (.string s.data.toList)=(findI L s).isSome∧∀ i,findI L s=some i→D.atKey (.string s.data.toList) (.lit (.int .i64 0))=.lit (.int .i64 (i:Int))
theorem MapIs.kept {S:Nat→Prop} {w w' : World} {mr:Option Nat} {L:List Sym} (h:MapIs w mr L) (hk:Kept S w w') (hn:∀ k,mr=some k→¬ S k):MapIs w' mr L:=by
 cases mr with
 | none=>exact h
 | some bm=>
  obtain ⟨n,D,hm,r⟩:=h
  exact ⟨n,D,hk.map hm (hn bm rfl),r⟩
end Go.Proofs.Ytmloedlkoijfbaa
namespace Go.Proofs.Ytmloedlkoijfbaa
def arN (L:List Sym) (n:Int):Nat:=if n<0 then 0 else match L[n.toNat]? with | some x=>x.ar.toNat | none=>0
def scan (L:List Sym):Nat→List Int→Option Nat
 | 0,_=>some 0
 | _+1,[]=>none
 | k+1,x :: r=>(scan L (k+arN L x) r).map (· + 1)
def need (L:List Sym):Nat→List Int→Option Nat
 | k,[]=>some k
 | 0,_ :: _=>none
 | k+1,x :: r=>need L (k+arN L x) r
theorem scan_zero (L:List Sym) (ts:List Int):scan L 0 ts=some 0:=by cases ts <;> rfl
theorem need_append (L:List Sym) (k:Nat) (a b:List Int):need L k (a++b)=(need L k a).bind (fun m=>need L m b):=by
 induction a generalizing k with
 | nil=>simp [need]
 | cons x r ih=>
  cases k with
  | zero=>simp [need]
  | succ k=>simp [need,ih]
theorem need_split {L:List Sym} {a b:Nat} {ts:List Int} (h:need L (a+b) ts=some 0):∃ n,scan L a ts=some n∧n≤ts.length∧need L b (ts.drop n)=some 0:=by
 induction ts generalizing a with
 | nil=>
  simp [need] at h
  obtain ⟨rfl,rfl⟩:=h
  exact ⟨0,rfl,by simp,by simp [need]⟩
 | cons x r ih=>
  cases a with
  | zero=>exact ⟨0,by simp [scan_zero],by simp,by simpa using h⟩
  | succ a=>
   rw [show a+1+b=(a+b)+1 by omega] at h
   simp only [need] at h
   rw [show a+b+arN L x=(a+arN L x)+b by omega] at h
   obtain ⟨n,h1,h2,h3⟩:=ih h
   exact ⟨n+1,by simp [scan,h1],by simpa using h2,by simpa using h3⟩
theorem scan_need {L:List Sym} {k n:Nat} {ts:List Int} (h:scan L k ts=some n):n≤ts.length∧need L k (ts.take n)=some 0:=by
 induction ts generalizing k n with
 | nil=>cases k <;> simp [scan] at h;subst h;simp [need]
 | cons x r ih=>
  cases k with
  | zero=>simp [scan] at h;subst h;simp [need]
  | succ k=>
   simp only [scan,Option.map_eq_some_iff] at h
   obtain ⟨m,hm,rfl⟩:=h
   obtain ⟨h1,h2⟩:=ih hm
   exact ⟨by simpa using h1,by simpa [need] using h2⟩
theorem need_scan {L:List Sym} {k:Nat} {a b:List Int} (h:need L k a=some 0):scan L k (a++b)=some a.length:=by
 induction a generalizing k with
 | nil=>simp [need] at h;subst h;simp [scan_zero]
 | cons x r ih=>
  cases k with
  | zero=>simp [need] at h
  | succ k=>
   simp only [need] at h
   simp [scan,ih h]
theorem scan_pos {L:List Sym} {k n:Nat} {ts:List Int} (h:scan L (k+1) ts=some n):0<n:=by
 cases ts with
 | nil=>simp [scan] at h
 | cons x r=>simp only [scan,Option.map_eq_some_iff] at h;obtain ⟨m,_,rfl⟩:=h;omega
theorem scan_add {L:List Sym} {a b m:Nat} {ts:List Int} (h:scan L (a+b) ts=some m):∃ n n', scan L a ts=some n∧scan L b (ts.drop n)=some n' ∧ m=n+n' := by
 obtain ⟨h1,h2⟩:=scan_need h
 obtain ⟨n,h3,h4,h5⟩:=need_split h2
 obtain ⟨h6,h7⟩:=scan_need h3
 have h4:n≤m:=by simp at h4;omega
 have e1:ts.take m=ts.take n++(ts.drop n).take (m-n):=by
  rw [List.take_drop,show n+(m-n)=m by omega]
  have:=(List.take_append_drop n (ts.take m)).symm
  rwa [List.take_take,Nat.min_eq_left h4] at this
 have h8:need L a (ts.take n)=some 0:=by rwa [List.take_take,Nat.min_eq_left h4] at h7
 refine ⟨n,m-n,?_,?_,by omega⟩
 ·have:=need_scan (b:=ts.drop n) h8
  rw [List.take_append_drop] at this
  rw [this];simp;omega
 ·have h9:need L b ((ts.drop n).take (m-n))=some 0:=by
   have:(ts.take m).drop n=(ts.drop n).take (m-n):=by rw [List.drop_take]
   rwa [this] at h5
  have:=need_scan (b:=(ts.drop n).drop (m-n)) h9
  rw [List.take_append_drop] at this
  rw [this];simp;omega
def endO (L:List Sym) (t:List Int) (p:Nat):Option Nat:=(scan L 1 (t.drop p)).map (p + ·)
def endN (L:List Sym) (t:List Int) (p:Nat):Nat:=(endO L t p).getD t.length
def IsT (L:List Sym) (t:List Int):Prop:=need L 1 t=some 0
theorem isT_need {L:List Sym} {t:List Int} (h:IsT L t) {p:Nat} (hp:p<t.length):∃ k,need L (k+1) (t.drop p)=some 0:=by
 have h' : need L 1 (t.take p++t.drop p)=some 0:=by rw [List.take_append_drop];exact h
 rw [need_append] at h'
 cases hn:need L 1 (t.take p) with
 | none=>simp [hn] at h'
 | some k=>
  simp only [hn,Option.bind_some] at h'
  cases k with
  | zero=>
   have:t.drop p≠[]:=by intro e;have:=congrArg List.length e;simp at this;omega
   cases hd:t.drop p with
   | nil=>exact absurd hd this
   | cons x r=>rw [hd] at h'; simp [need] at h'
  | succ k=>exact ⟨k,h'⟩
theorem isT_scan {L:List Sym} {t:List Int} (h:IsT L t) {p:Nat} (hp:p<t.length):∃ n,scan L 1 (t.drop p)=some n∧0<n∧p+n≤t.length:=by
 obtain ⟨k,hk⟩:=isT_need h hp
 rw [Nat.add_comm] at hk
 obtain ⟨n,h1,h2,_⟩:=need_split hk
 exact ⟨n,h1,scan_pos (k:=0) h1,by simp at h2;omega⟩
theorem endN_of {L:List Sym} {t:List Int} {p n:Nat} (h:scan L 1 (t.drop p)=some n):endN L t p=p+n:=by simp [endN,endO,h]
def starts (L:List Sym) (t:List Int):Nat→Nat→List Nat
 | 0,_=>[]
 | k+1,p=>p :: starts L t k (endN L t p)
def past (L:List Sym) (t:List Int):Nat→Nat→Nat
 | 0,p=>p
 | k+1,p=>past L t k (endN L t p)
def Forest (L:List Sym) (t:List Int) (k p q:Nat):Prop:=∃ n,scan L k (t.drop p)=some n∧q=p+n∧q≤t.length
theorem Forest.zero {L:List Sym} {t:List Int} {p q:Nat} (h:Forest L t 0 p q):q=p:=by
 obtain ⟨n,h1,h2,_⟩:=h
 simp [scan_zero] at h1;omega
theorem Forest.le {L:List Sym} {t:List Int} {k p q:Nat} (h:Forest L t k p q):p≤q∧q≤t.length:=by
 obtain ⟨n,_,h2,h3⟩:=h;omega
theorem Forest.succ {L:List Sym} {t:List Int} {k p q:Nat} (h:Forest L t (k+1) p q):Forest L t 1 p (endN L t p)∧p<endN L t p∧Forest L t k (endN L t p) q:=by
 obtain ⟨n,h1,h2,h3⟩:=h
 rw [Nat.add_comm] at h1
 obtain ⟨a,b,h4,h5,h6⟩:=scan_add h1
 have e:=endN_of h4
 have ha:=scan_pos (k:=0) h4
 refine ⟨⟨a,h4,e,by omega⟩,by omega,b,?_,by omega,h3⟩
 rw [e,← List.drop_drop];exact h5
theorem Forest.pos {L:List Sym} {t:List Int} {k p q:Nat} (h:Forest L t (k+1) p q):p<q:=by
 have:=h.succ.2.1;have:=h.succ.2.2.le;omega
theorem Forest.one {L:List Sym} {t:List Int} (h:IsT L t) {p:Nat} (hp:p<t.length):Forest L t 1 p (endN L t p):=by
 obtain ⟨n,h1,h2,h3⟩:=isT_scan h hp
 exact ⟨n,h1,endN_of h1,by rw [endN_of h1];exact h3⟩
theorem Forest.kids {L:List Sym} {t:List Int} {p q:Nat} (h:Forest L t 1 p q):∃ hp:p<t.length,Forest L t (arN L t[p]) (p+1) q:=by
 obtain ⟨n,h1,h2,h3⟩:=h
 have hn:=scan_pos (k:=0) h1
 have hp:p<t.length:=by omega
 refine ⟨hp,?_⟩
 rw [List.drop_eq_getElem_cons hp] at h1
 simp only [scan,Nat.zero_add,Option.map_eq_some_iff] at h1
 obtain ⟨m,hm,rfl⟩:=h1
 exact ⟨m,hm,by omega,h3⟩
theorem Forest.past {L:List Sym} {t:List Int} {k p q:Nat} (h:Forest L t k p q):past L t k p=q:=by
 induction k generalizing p with
 | zero=>exact h.zero.symm
 | succ k ih=>rw [Proofs.Ytmloedlkoijfbaa.past];exact ih h.succ.2.2
theorem Forest.drop {L:List Sym} {t:List Int} {k i p q:Nat} (h:Forest L t k p q) (hi:i≤k):Forest L t (k-i) (Proofs.Ytmloedlkoijfbaa.past L t i p) q:=by
 induction i generalizing k p with
 | zero=>exact h
 | succ i ih=>
  cases k with
  | zero=>omega
  | succ k=>
   have:=ih h.succ.2.2 (by omega)
   simpa [Proofs.Ytmloedlkoijfbaa.past] using this
def argsN (L:List Sym) (t:List Int) (p:Nat):List Nat:=starts L t (arN L (t.getD p 0)) (p+1)
def bump:List (Nat × Nat)→List (Nat × Nat)
 | []=>[]
 | (j,a) :: st=>if j+1<a then (j+1,a) :: st else bump st
def pass (st:List (Nat × Nat)) (a:Nat):List (Nat × Nat):=if 0<a then (0,a) :: st else bump st
def run (L:List Sym) (st:List (Nat × Nat)) (ts:List Int):List (Nat × Nat):=ts.foldl (fun s x=>pass s (arN L x)) st
def way (L:List Sym) (t:List Int) (p:Nat):List (Nat × Nat):=run L [] (t.take p)
def leads (L:List Sym) (t:List Int):Nat→List Int→Option Nat
 | p,[]=>some p
 | p,n :: r=>if n<0 then none else match (argsN L t p)[n.toNat]? with | some q=>leads L t q r | none=>none
end Go.Proofs.Ytmloedlkoijfbaa
namespace Go.Proofs.Ytmloedlkoijfbaa
set_option maxRecDepth 100000
open Go.RowKit
abbrev From (n k:Nat):Prop:=n≤k
theorem Kept.from {n:Nat} {w0 w w' : World} (h:Kept (From n) w0 w) (h' : Kept (From n) w w'):Kept (From n) w0 w' := h.trans h' (fun _ _ e=>e)
end Go.Proofs.Ytmloedlkoijfbaa
namespace Go.Proofs.Ytmloedlkoijfbaa
set_option maxRecDepth 100000
open Go.RowKit
attribute [local go_sem ↓] Go.wp_at_zero Go.wp_at_succ
end Go.Proofs.Ytmloedlkoijfbaa
namespace Go.Proofs.Ytmloedlkoijfbaa
open Go.RowKit Go.Deep
def SymsAt (w:World) (ao:Option Addr) (len:Nat) (xs:List Sym):Prop:=
 xs.length=len∧(len=0∨∃ b off,ao=some ⟨b,off,none⟩∧b<w.heap.size∧∀ i (h:i<xs.length),w.cell? ⟨b,off+i * 3,none⟩=some (.string xs[i].name)∧w.cell? ⟨b,off+i * 3+1,none⟩=some (.int .i64 xs[i].ar)∧w.cell? ⟨b,off+i * 3+2,none⟩=some (.bool xs[i].df)) ∧
 ∀ x∈xs,x.name.size≤maxLen∧(Lit.int .i64 x.ar).wf=true
theorem SymsAt.kept {w w' : World} {ao:Option Addr} {len:Nat} {xs:List Sym} (h:SymsAt w ao len xs) (hb:Below w.heap.size w w'):SymsAt w' ao len xs:=by
 obtain ⟨h1,h2,h3⟩:=h
 refine ⟨h1,h2.imp id ?_,h3⟩
 rintro ⟨b,off,e,hlt,hc⟩
 refine ⟨b,off,e,Nat.lt_of_lt_of_le hlt hb.size,fun i hi=>?_⟩
 obtain ⟨a1,a2,a3⟩:=hc i hi
 exact ⟨by rw [hb.cell hlt];exact a1,by rw [hb.cell hlt];exact a2,by rw [hb.cell hlt];exact a3⟩
section
variable {H : Type} {enc : TypeId × Value → H} {w : World} {spare : Nat → Bool} {held : Bool}
theorem cells_int:Try.prog.cellsOf 3=1:=by kernel_rfl
set_option maxRecDepth 100000 in
theorem open_elems {t e c fuel:Nat} {ao:Option Addr} {len cap:Nat} {x:DataW H × List MemPlace} (ht:Try.prog.underlying t=some (.slice e)) (hc:Try.prog.cellsOf e=c) (h0:0<c) (h:DataW.trod enc Try.prog w 0 spare held fuel t [.slice ao len cap]=some x) :
  (ao=none∧len=0∧cap=0)∨∃ a,ao=some a∧len≤cap∧cap≤maxLen∧∀ i,i<len→a=⟨a.block,a.off,none⟩∧a.block<w.heap.size∧∃ cs n y,cs.length=c∧(∀ j,j<c→w.cell? ⟨a.block,a.off+i * c+j,none⟩=cs[j]?)∧DataW.trod enc Try.prog w 0 spare held n e cs=some y:=by
 rcases open_slice ht h with ⟨hcs,_⟩ | ⟨a,len', cap', m,n,D,Pl,hcs,_,hl,hm,hmm,rfl,hx⟩
 ·simp at hcs;exact .inl ⟨hcs.1,hcs.2.1,hcs.2.2⟩
 ·simp at hcs
  obtain ⟨rfl,rfl,rfl⟩:=hcs
  refine .inr ⟨a,rfl,hl,hm,fun i hi=>?_⟩
  have hmi:i<m:=by rw [hmm];split <;> omega
  have hm0:0<m:=by omega
  obtain ⟨cs0,g0,_⟩:=hx 0 hm0
  rw [hc] at g0
  obtain ⟨_,gl,gc⟩:=World.cells?_some g0
  have hsp:a.spot=none:=by
   have:=gc 0 h0
   have hv:cs0[0]? = some (cs0[0]'(by omega)):=List.getElem?_eq_getElem (by omega)
   rw [hv] at this
   simp [Addr.add] at this
   exact World.cell?_spot this
  have hlt:a.block<w.heap.size:=World.cells?_block (by simpa [Addr.add] using g0) h0
  have ea:a=⟨a.block,a.off,none⟩:=by cases a;simp_all
  obtain ⟨cs,g1,g2⟩:=hx i hmi
  rw [hc] at g1
  obtain ⟨_,gl1,gc1⟩:=World.cells?_some g1
  refine ⟨ea,hlt,cs,n,_,gl1,fun j hj=>?_,g2⟩
  rw [← gc1 j hj,add_add]
  congr 1
  unfold Addr.add
  split
  ·rw [ea];simp;omega
  ·simp
end
end Go.Proofs.Ytmloedlkoijfbaa
namespace Go.Proofs.Ytmloedlkoijfbaa
set_option maxRecDepth 100000
open Go.RowKit
attribute [local go_sem ↓] Go.wp_at_zero Go.wp_at_succ
def IntsAt (w:World) (ao:Option Addr) (xs:List Int):Prop:=
 xs=[]∨∃ b off,ao=some ⟨b,off,none⟩∧b<w.heap.size∧∀ i (h:i<xs.length),w.cell? ⟨b,off+i,none⟩=some (.int .i64 xs[i])
theorem IntsAt.kept {w w' : World} {S:Nat→Prop} {ao:Option Addr} {xs:List Int} (h:IntsAt w ao xs) (hk:Kept S w w') (hs:∀ a,ao=some a→¬ S a.block):IntsAt w' ao xs:=by
 refine h.imp id ?_
 rintro ⟨b,off,rfl,hlt,hc⟩
 exact ⟨b,off,rfl,Nat.lt_of_lt_of_le hlt hk.size,fun i hi=>(hk.cell (p:=⟨b,off+i,none⟩) hlt (hs ⟨b,off,none⟩ rfl)).trans (hc i hi)⟩
theorem IntsAt.same {w w' : World} {ao:Option Addr} {xs:List Int} (h:IntsAt w ao xs) (hk:Same0 w w'):IntsAt w' ao xs:=h.kept hk (fun _ _ f=>f)
theorem IntsAt.get {w:World} {ao:Option Addr} {xs:List Int} (h:IntsAt w ao xs) {i:Nat} (hi:i<xs.length):∃ b off,ao=some ⟨b,off,none⟩∧b<w.heap.size∧w.cell? ⟨b,off+i,none⟩=some (.int .i64 xs[i]):=by
 rcases h with rfl | ⟨b,off,e,hlt,hc⟩
 ·simp at hi
 ·exact ⟨b,off,e,hlt,hc i hi⟩
def iv (xs:List Int):List Value:=xs.map (Value.int .i64)
theorem iv_length (xs:List Int):(iv xs).length=xs.length:=by simp [iv]
theorem iv_append (xs ys:List Int):iv (xs++ys)=iv xs++iv ys:=by simp [iv]
theorem iv_get {xs:List Int} {i:Nat} (h:i<xs.length):(iv xs)[i]? = some (.int .i64 xs[i]):=by simp [iv,h]
theorem info_intT:(Try.prog.info? 3).map (fun i=>(i.zero,i.size,i.bytes))=some (some (.int .i64 0),1,8):=by kernel_rfl
abbrev Row (base:Nat) (w:World) (v:Value) (xs:List Int):Prop:=w.ownsRow base 3 1 v xs.length (iv xs)
def ofN (l:List Nat):List Int:=l.map (fun (x:Nat)=>(x:Int))
theorem take_set {α:Type} {l:List α} {k:Nat} (h:k<l.length) (u:α):(l.set k u).take (k+1)=l.take k ++ [u]:=by
 rw [List.take_add_one,List.take_set_of_le (Nat.le_refl _)]
 simp [h]
theorem Same0.grown {w w1 w2:World} (h:Same0 w w1) (hg:w1.grownBy w2 none):Same0 w w2:=Kept.grown h hg (fun _ e _=>by cases e)
theorem Same0.own {w w1:World} (h:Same0 w w1) {g o:Nat} (hg:w.heap.size≤g) (u:Value):Same0 w (w1.setCell ⟨g,o,none⟩ u):=h.setCell (p:=⟨g,o,none⟩) (fun hlt=>by simp at hlt;omega) u
theorem row_put {w:World} {base g cap n:Nat} {e:TypeId} {ys:List Value} (h:w.ownsRow base e 1 (.slice (some ⟨g,0,none⟩) n cap) n ys) {k:Nat} (hk:k<n):∃ old,w.cell? ⟨g,k,none⟩=some old∧w.frozen? ⟨g,k,none⟩=false:=by
 have hl:k<ys.length:=by have:=h.1;omega
 exact ⟨ys[k],(h.cellAt k (by omega)).trans (List.getElem?_eq_getElem hl),h.frozenAt k⟩
def Laid (base g A k:Nat) (xs:List Int) (w wr:World):Prop:=∃ ys:List Value,wr.ownsRow base 3 1 (.slice (some ⟨g,0,none⟩) A A) A ys∧ys.take k=iv xs∧Same0 w wr
theorem Laid.next {base g A k:Nat} {xs:List Int} {w wr:World} (h:Laid base g A k xs w wr) (hk:k<A) (hg:w.heap.size≤g) (x:Int):Laid base g A (k+1) (xs ++ [x]) w (wr.setCell ⟨g,k,none⟩ (.int .i64 x)):=by
 obtain ⟨ys,h1,h2,h3⟩:=h
 have hl:ys.length=A:=by have:=h1.1;omega
 refine ⟨ys.set k (.int .i64 x),(h1.stored k _).1,?_,h3.own hg _⟩
 rw [take_set (by omega),h2,iv_append];rfl
theorem Laid.same {base g A k:Nat} {xs:List Int} {w wr w1:World} (h:Laid base g A k xs w wr) (hk:Same0 wr w1):Laid base g A k xs w w1:=by
 obtain ⟨ys,h1,h2,h3⟩:=h
 exact ⟨ys,hk.row h1 (fun _ _ f=>f),h2,h3.trans' hk⟩
theorem Laid.row {base g A:Nat} {xs:List Int} {w wr:World} (h:Laid base g A A xs w wr):Row base wr (.slice (some ⟨g,0,none⟩) A A) xs∧xs.length=A:=by
 obtain ⟨ys,h1,h2,_⟩:=h
 have hl:ys.length=A:=by have:=h1.1;omega
 rw [List.take_of_length_le (by omega)] at h2
 subst h2
 have:xs.length=A:=by rw [← hl,iv_length]
 unfold Row
 rw [this]
 exact ⟨h1,rfl⟩
end Go.Proofs.Ytmloedlkoijfbaa
namespace Go.Proofs.Ytmloedlkoijfbaa
set_option maxRecDepth 100000
set_option linter.unusedVariables false
open Go.RowKit
attribute [local go_sem ↓] Go.wp_at_zero Go.wp_at_succ
structure Part where
 ao:Option Addr
 cap:Nat
 xs:List Int
def PartsAt (w:World) (pb:Nat) (ps:List Part):Prop:=pb<w.heap.size∧∀ i (h:i<ps.length),w.cell? ⟨pb,i,none⟩=some (.slice ps[i].ao ps[i].xs.length ps[i].cap)∧IntsAt w ps[i].ao ps[i].xs
theorem PartsAt.same {w w' : World} {pb:Nat} {ps:List Part} (h:PartsAt w pb ps) (hk:Same0 w w'):PartsAt w' pb ps:=
 ⟨Nat.lt_of_lt_of_le h.1 hk.size,fun i hi=>⟨(hk.cell (p:=⟨pb,i,none⟩) h.1 (fun f=>f)).trans (h.2 i hi).1,(h.2 i hi).2.same hk⟩⟩
theorem Same0.of {w w' : World} (h:Below w.heap.size w w'):Same0 w w' := ⟨h.os,h.tape,h.output,h.size,fun k hk _=>h.block k hk⟩
def Joins (g N m:Nat) (xs:List Int) (w wr:World):Prop:=∃ cur:List Value,wr.heap[g]? = some (.cells cur.toArray 3 (0,0))∧cur.length=N∧cur.take m=iv xs∧xs.length=m∧Same0 w wr
theorem Joins.start {g N:Nat} {v:Value} {ys:List Value} {w wr:World} (hv:v=.slice (some ⟨g,0,none⟩) N N) (h:wr.ownsRow w.heap.size 3 1 v N ys) (hs:Same0 w wr):Joins g N 0 [] w wr:=by
 rcases h.2 with ⟨e,_⟩ | ⟨g', cap,cur,e,hb,hg,_,_,hsz,_⟩
 ·rw [hv] at e;cases e
 ·rw [hv] at e
  simp only [Value.slice.injEq,Option.some.injEq,Addr.mk.injEq,and_true,true_and] at e
  obtain ⟨rfl,rfl⟩:=e
  exact ⟨cur.toList,by simpa using hg,by simpa using hsz,by simp [iv],rfl,hs⟩
theorem splice_take {α:Type} (cur cs:List α) (m:Nat) (h:m+cs.length≤cur.length):(splice cur m cs).take (m+cs.length)=cur.take m++cs:=by
 unfold splice
 rw [← List.append_assoc,List.take_left' (by simp;omega)]
theorem Joins.next {g N m:Nat} {xs zs:List Int} {cur:List Value} {w w' : World} (h1:cur.length=N) (h2:cur.take m=iv xs) (h3:xs.length=m) (hm:m+zs.length≤N)
  (hg:w'.heap[g]? = some (.cells (splice cur m (iv zs)).toArray 3 (0,0))) (hb:Below w.heap.size w w'):Joins g N (m+zs.length) (xs++zs) w w' := by
 refine ⟨_,hg,?_,?_,by simp;omega,Same0.of hb⟩
 ·rw [length_splice _ _ _ (by rw [iv_length];omega)];exact h1
 ·have:=splice_take cur (iv zs) m (by rw [iv_length];omega)
  rw [iv_length] at this
  rw [this,h2,iv_append]
theorem Joins.row {g N:Nat} {xs:List Int} {w wr:World} (h:Joins g N N xs w wr) (hg:w.heap.size≤g) (hN:N≤maxLen):Row w.heap.size wr (.slice (some ⟨g,0,none⟩) N N) xs:=by
 obtain ⟨cur,h1,h2,h3,h4,_⟩:=h
 subst h4
 exact ⟨by simp [iv],.inr ⟨g,xs.length,cur.toArray,rfl,hg,h1,Nat.le_refl _,hN,by simpa using h2,by simpa using h3⟩⟩
theorem iv_oneCell (xs:List Int):∀ v∈iv xs,v.oneCell' = true:=by
 intro v hv
 simp only [iv,List.mem_map] at hv
 obtain ⟨x,_,rfl⟩:=hv
 rfl
theorem IntsAt.src {w:World} {ao:Option Addr} {xs:List Int} (h:IntsAt w ao xs) (hn:0<(iv xs).length):∃ ad,ao=some ad∧∀ j v,(iv xs)[j]? = some v→w.cell? (ad.add j)=some v:=by
 rcases h with rfl | ⟨b,off,rfl,_,hc⟩
 ·simp [iv] at hn
 ·refine ⟨_,rfl,fun j v hj=>?_⟩
  have hlt:j<xs.length:=by
   have:=(List.getElem?_eq_some_iff.1 hj).1
   rwa [iv_length] at this
  rw [iv_get hlt] at hj
  cases hj
  have:=hc j hlt
  unfold Addr.add
  split
  ·rename_i h0;subst h0;first | (simp;done) | (simpa using this)
  ·exact this
theorem IntsAt.cut {w:World} {b off:Nat} {t:List Int} (h:IntsAt w (some ⟨b,off,none⟩) t) (lo hi:Nat):IntsAt w (some ⟨b,off+lo,none⟩) ((t.take hi).drop lo):=by
 rcases h with rfl | ⟨b', off', e,hlt,hc⟩
 ·left;simp
 ·simp only [Option.some.injEq,Addr.mk.injEq,and_true] at e
  obtain ⟨rfl,rfl⟩:=e
  refine .inr ⟨b,off+lo,rfl,hlt,fun i hi' => ?_⟩
  have h1:lo+i<t.length:=by simp at hi'; omega
  have:=hc (lo+i) h1
  rw [Nat.add_assoc,this]
  simp
theorem IntsAt.nil (w:World) (ao:Option Addr):IntsAt w ao []:=.inl rfl
theorem Row.ints {base:Nat} {w:World} {v:Value} {xs:List Int} (h:Row base w v xs):∃ ao cap,v=.slice ao xs.length cap∧IntsAt w ao xs∧xs.length≤cap∧(∀ a,ao=some a→base≤a.block∧a.block<w.heap.size):=by
 rcases h.2 with ⟨rfl,h0⟩ | ⟨g,cap,cur,rfl,hb,hg,h1,h2,h3,h4⟩
 ·have:xs=[]:=List.eq_nil_of_length_eq_zero h0
  subst this
  exact ⟨none,0,rfl,.inl rfl,Nat.le_refl _,fun a e=>by cases e⟩
 ·refine ⟨_,cap,rfl,.inr ⟨g,0,rfl,lt_of_at hg,fun i hi=>?_⟩,h1,fun a e=>by cases e;exact ⟨hb,lt_of_at hg⟩⟩
  rw [Nat.zero_add,h.cellAt i (by omega)]
  exact iv_get hi
theorem Same0.new {w w' : World} {o:Obj} (h:Same0 (w.alloc o) w'):Same0 w w' := Same0.trans' ((Kept.refl _ w).alloc o) h
theorem wpList_push {w0:World} {ops:Array Oper} {rest:List Oper} {o:Oper} {a:Act} {Q:Exit→Act→World→Prop} (hgd:o.guard=none) (s x:Operand) (t:TypeId)
  (ho:o.op=.call { callee:=.builtin .append,args:=#[s,x],argTypes:=#[t,t] }) (ht:Try.prog.underlying t=some (.slice 3))
  (base:Nat) (xs:List Int) (v:Value) (hs:a.eval s=v) (hr:Row base w0 v xs) (y:Int) (hx:a.eval x=.slice (some ⟨w0.heap.size,0,none⟩) 1 1) (hb:base≤w0.heap.size) (hsz:(xs.length+1) * 8≤140737488355328)
  (h:∀ g cap w', Row base w' (.slice (some ⟨g,0,none⟩) (xs.length+1) cap) (xs ++ [y])→Kept (fun k=>v.ownBlock=some k) w0 w' → (v.ownBlock=some g∨w0.heap.size≤g)→wpList Try.prog ops Q rest (a.put o.dst (.slice (some ⟨g,0,none⟩) (xs.length+1) cap)) w') :
  wpList Try.prog ops Q (o :: rest) a (w0.alloc (.cells #[.int .i64 y] 3)):=by
 obtain ⟨i,hi,hz0,hz1,hz2⟩:=info_parts info_intT
 refine wpList_append_lies _ hgd s x t ho base 3 i (.int .i64 0) 1 8 ht hi hz0 hz1 hz2 rfl (by decide) v xs.length (iv xs) hs (hr.alloc _) ⟨w0.heap.size,0,none⟩ 1 1 [.int .i64 y] hx rfl (cell_one_new _ _ _) (by simp [Value.oneCell']) (by omega) (by unfold maxLen;omega) hsz (by simp;omega) (w0.heap.size+1) (by simp) ?_
 intro g cap w' hown hgrow hat hlt
 refine h g cap w' ?_ ?_ (hat.imp id (fun e=>by omega))
 ·unfold Row;rw [iv_append,List.length_append];exact hown
 ·exact Kept.grown (Kept.alloc (Kept.refl _ w0) _) hgrow (fun _ e _=>e)
theorem Same0.onto {w w0 w' : World} {v:Value} {xs:List Int} (h:Same0 w w0) (hr:Row w.heap.size w0 v xs) (hk:Kept (fun k=>v.ownBlock=some k) w0 w'):Same0 w w' :=
 h.trans hk (fun i hi e=>by have:=(hr.lt i e).1;omega)
end Go.Proofs.Ytmloedlkoijfbaa
namespace Go.Proofs.Ytmloedlkoijfbaa
set_option linter.unusedVariables false
open Go.RowKit
attribute [local go_sem ↓] Go.wp_at_zero Go.wp_at_succ
def Over (base g n:Nat) (w wr:World):Prop:=(∃ ys,wr.ownsRow base 3 1 (.slice (some ⟨g,0,none⟩) n n) n ys)∧Kept (fun k=>k=g) w wr
theorem Over.store {base g n:Nat} {w wr:World} (h:Over base g n w wr) (k:Nat) (u:Value):Over base g n w (wr.setCell ⟨g,k,none⟩ u):=by
 obtain ⟨⟨ys,h1⟩,h2⟩:=h
 exact ⟨⟨_,(h1.stored k u).1⟩,h2.setCell (p:=⟨g,k,none⟩) (fun _=>rfl) u⟩
theorem Same0.after {w w5 w6:World} {S:Nat→Prop} (h:Same0 w w5) (k:Kept S w5 w6) (hs:∀ i,i<w.heap.size→¬ S i):Same0 w w6:=
 Kept.trans h k (fun i hi e=>(hs i hi e).elim)
def OverA (base:Nat) (v:Value) (B:Nat→Prop) (n:Nat) (w wr:World):Prop:=∃ zs:List Int,zs.length=n∧Row base wr v zs∧(∀ k,v.ownBlock=some k→B k)∧Kept B w wr
theorem OverA.at {base:Nat} {ao:Option Addr} {cap n:Nat} {B:Nat→Prop} {w wr:World} (h:OverA base (.slice ao n cap) B n w wr) {k:Nat} (hk:k<n):∃ g,ao=some ⟨g,0,none⟩∧∃ old,wr.cell? ⟨g,k,none⟩=some old∧wr.frozen? ⟨g,k,none⟩=false:=by
 obtain ⟨zs,rfl,h1,_,_⟩:=h
 obtain ⟨g,cap', hv,_,_⟩:=h1.form (by omega)
 cases hv
 exact ⟨g,rfl,row_put h1 hk⟩
theorem OverA.store {base g:Nat} {cap n:Nat} {B:Nat→Prop} {w wr:World} (h:OverA base (.slice (some ⟨g,0,none⟩) n cap) B n w wr) (k:Nat) (x:Int):OverA base (.slice (some ⟨g,0,none⟩) n cap) B n w (wr.setCell ⟨g,k,none⟩ (.int .i64 x)):=by
 obtain ⟨zs,rfl,h1,hB,h2⟩:=h
 refine ⟨zs.set k x,by simp,?_,hB,h2.setCell (p:=⟨g,k,none⟩) (fun _=>hB g rfl) _⟩
 have:=(h1.stored k (.int .i64 x)).1
 unfold Row
 rw [List.length_set]
 have e:iv (zs.set k x)=(iv zs).set k (.int .i64 x):=by simp [iv,List.map_set]
 rw [e];exact this
end Go.Proofs.Ytmloedlkoijfbaa
namespace Go.Proofs.Ytmloedlkoijfbaa
set_option linter.unusedVariables false
open Go.RowKit Go.Deep
structure Arg (w:World) (ao:Option Addr) (xs:List Int) (cap:Nat):Prop where
 at' : IntsAt w ao xs
 cap' : xs.length≤cap
 nil:ao=none→xs.length=0∧cap=0
 size:xs.length * 8≤140737488351232
section
variable {H : Type} {enc : TypeId × Value → H} {w : World} {spare : Nat → Bool} {held : Bool}
theorem trod_struct5 {P:Program} {base:Nat} {t:TypeId} {f0 f1 f2 f3 f4:Field} {fuel:Nat} {cs:List Value} {x:DataW H × List MemPlace} (ht:P.underlying t=some (.struct #[f0,f1,f2,f3,f4])) (h:DataW.trod enc P w base spare held fuel t cs=some x) :
  ∃ y0 y1 y2 y3 y4 n,x.1=.agg [y0.1,y1.1,y2.1,y3.1,y4.1]∧cs.length=P.cellsOf t∧DataW.trod enc P w base spare held n f0.type ((cs.drop f0.offset).take (P.cellsOf f0.type))=some y0 ∧
   DataW.trod enc P w base spare held n f1.type ((cs.drop f1.offset).take (P.cellsOf f1.type))=some y1∧DataW.trod enc P w base spare held n f2.type ((cs.drop f2.offset).take (P.cellsOf f2.type))=some y2 ∧
   DataW.trod enc P w base spare held n f3.type ((cs.drop f3.offset).take (P.cellsOf f3.type))=some y3∧DataW.trod enc P w base spare held n f4.type ((cs.drop f4.offset).take (P.cellsOf f4.type))=some y4:=by
 obtain ⟨xs,n,_,rfl,hl,hlen,hf⟩:=DataW.trod_struct ht h
 match xs,hlen with
 | [y0,y1,y2,y3,y4],_=>exact ⟨y0,y1,y2,y3,y4,n,by simp,hl,by simpa using hf 0 f0 rfl,by simpa using hf 1 f1 rfl,by simpa using hf 2 f2 rfl,by simpa using hf 3 f3 rfl,by simpa using hf 4 f4 rfl⟩
theorem bytes_int:Try.prog.bytesOf 3=8:=by kernel_rfl
theorem open_ints {t fuel:Nat} {cs:List Value} {x:DataW H × List MemPlace} (ht:Try.prog.underlying t=some (.slice 3)) (h:DataW.trod enc Try.prog w 0 spare held fuel t cs=some x) (hw:∀ n∈x.1.weights Try.prog t,n≤reachBytes) :
  ∃ ao cap xs,cs=[.slice ao xs.length cap]∧Arg w ao xs cap:=by
 have h' := h
 rcases open_slice ht h with ⟨hcs,_⟩ | ⟨a,len,cap,m,n,D,Pl,hcs,_,hl,hm,hmm,rfl,hx⟩
 ·exact ⟨none,0,[],hcs,.inl rfl,Nat.le_refl _,fun _=>⟨rfl,rfl⟩,by simp⟩
 ·subst hcs
  have hsz:len * 8≤140737488351232:=by
   have:=hw ((((List.range len).map D).length+((List.range (m-len)).map fun j=>D (len+j)).length) * Try.prog.bytesOf 3) (by simp [DataW.weights,ht])
   rw [bytes_int] at this
   simp [reachBytes] at this
   omega
  rcases open_elems ht cells_int (by omega) h' with ⟨e,_,_⟩ | ⟨a', e,hl1,hl2,hall⟩
  ·cases e
  ·cases e
   have each:∀ i,i<len→∃ z:Int,w.cell? ⟨a.block,a.off+i,none⟩=some (.int .i64 z):=by
    intro i hi
    obtain ⟨_,_,cs,n,y,hl,hcell,hy⟩:=hall i hi
    obtain ⟨z,e1,_,_⟩:=DataW.trod_int Try.underlying3 hy
    subst e1
    exact ⟨z,by simpa using hcell 0 (by omega)⟩
   obtain ⟨f,hf⟩:=Classical.axiomOfChoice (fun i:Fin len=>each i i.2)
   refine ⟨some a,cap,List.ofFn f,by simp,?_,by simpa using hl,(fun e=>by cases e),by simpa using hsz⟩
   by_cases h0:len=0
   ·subst h0;exact .inl (by simp)
   ·obtain ⟨ea,hlt,_⟩:=hall 0 (by omega)
    refine .inr ⟨a.block,a.off,by rw [← ea],hlt,fun i hi=>?_⟩
    have hi' : i<len:=by simpa using hi
    simpa using hf ⟨i,hi'⟩
theorem slice_one {t e fuel:Nat} {c:Value} {x:DataW H × List MemPlace} (ht:Try.prog.underlying t=some (.slice e)) (h:DataW.trod enc Try.prog w 0 spare held fuel t [c]=some x):∃ ao len cap,c=.slice ao len cap:=by
 rcases open_slice ht h with ⟨hcs,_⟩ | ⟨a,len,cap,m,n,D,Pl,hcs,_⟩
 ·simp at hcs;exact ⟨_,_,_,hcs⟩
 ·simp at hcs;exact ⟨_,_,_,hcs⟩
structure CaseIs (w:World) (v:Value) (lo:Option Addr) (ll lc:Nat) (ls:List Sym) (so:Option Addr) (tc:Nat) (t:List Int) (at' : Int) (uo:Option Addr) (uc:Nat) (u:List Int) (po:Option Addr) (pc:Nat) (path:List Int):Prop where
 eq:v=.agg #[.slice lo ll lc,.slice so t.length tc,.int .i64 at', .slice uo u.length uc,.slice po path.length pc]
 syms:SymsAt w lo ll ls
 sl:ll≤maxLen
 t' : Arg w so t tc
 u' : Arg w uo u uc
 p' : Arg w po path pc
end
end Go.Proofs.Ytmloedlkoijfbaa
namespace Go.Proofs.Ytmloedlkoijfbaa
set_option linter.unusedVariables false
open Go.RowKit
attribute [local go_sem ↓] Go.wp_at_zero Go.wp_at_succ
theorem wpList_more {w0:World} {ops:Array Oper} {rest:List Oper} {o:Oper} {a:Act} {Q:Exit→Act→World→Prop} (hgd:o.guard=none) (s x:Operand) (t:TypeId)
  (ho:o.op=.call { callee:=.builtin .append,args:=#[s,x],argTypes:=#[t,t] }) (ht:Try.prog.underlying t=some (.slice 3))
  (base:Nat) (xs:List Int) (v:Value) (hs:a.eval s=v) (hr:Row base w0 v xs) (ys:List Int) (ad:Addr) (m c:Nat) (hx:a.eval x=.slice (some ad) m c) (hm:m=ys.length) (hy:IntsAt w0 (some ad) ys) (hb:base≤w0.heap.size) (hsz:(xs.length+ys.length) * 8≤140737488355328)
  (h:∀ v' w', Row base w' v' (xs++ys)→Kept (fun k=>v.ownBlock=some k) w0 w' → wpList Try.prog ops Q rest (a.put o.dst v') w') :
  wpList Try.prog ops Q (o :: rest) a w0:=by
 subst hm
 obtain ⟨i,hi,hz0,hz1,hz2⟩:=info_parts info_intT
 refine wpList_append_own _ hgd s x t ho base 3 i (.int .i64 0) 1 8 ht hi hz0 hz1 hz2 rfl (by decide) v xs.length (iv xs) hs hr ad ys.length c (iv ys) hx (by rw [iv_length];omega) (fun j u hj=>?_) (iv_oneCell ys) (by unfold maxLen;omega) hsz hb ?_
 ·obtain ⟨ad', e,hc⟩:=hy.src (by have:=(List.getElem?_eq_some_iff.1 hj).1;omega)
  cases e
  exact hc j u hj
 ·intro v' w' hown hgrow _
  refine h v' w' ?_ (Kept.grown (Kept.refl _ w0) hgrow (fun _ e _=>e))
  unfold Row;rw [iv_append,List.length_append];exact hown
theorem row_empty (w:World) (base:Nat) (hb:base≤w.heap.size) {o:Obj} (ho:o=.cells #[] 3 (0,0)):Row base (w.alloc o) (.slice (some ⟨w.heap.size,0,none⟩) 0 0) []:=by
 subst ho
 exact ⟨rfl,.inr ⟨w.heap.size,0, #[],rfl,hb,heap_alloc_new w _,Nat.le_refl _,by unfold maxLen;omega,rfl,rfl⟩⟩
end Go.Proofs.Ytmloedlkoijfbaa
namespace Go.Proofs.Ytmloedlkoijfbaa
set_option maxRecDepth 100000
set_option linter.unusedVariables false
open Go.RowKit
attribute [local go_sem ↓] Go.wp_at_zero Go.wp_at_succ
structure ArgT (w:World) (ao:Option Addr) (xs:List Int) (cap:Nat):Prop where
 arg:Arg w ao xs cap
 typ:∀ a,ao=some a→∃ cur,w.heap[a.block]? = some (.cells cur 3 (0,0))
 own:∀ a,ao=some a→∃ b cur,a=⟨b,0,none⟩∧w.heap[b]? = some (.cells cur 3 (0,0))∧cur.size=cap∧cap≤maxLen
theorem ArgT.kept {w w' : World} {ao:Option Addr} {xs:List Int} {cap:Nat} {S:Nat→Prop} (h:ArgT w ao xs cap) (hk:Kept S w w') (hS:∀ k,S k→∀ cur,w.heap[k]? ≠ some (.cells cur 3 (0,0))):ArgT w' ao xs cap:=by
 have ne:∀ a,ao=some a→¬ S a.block:=fun a e s=>by
  obtain ⟨cur,hc⟩:=h.2 a e
  exact hS _ s cur hc
 refine ⟨⟨h.1.at'.kept hk ne,h.1.cap', h.1.nil,h.1.size⟩,fun a e=>?_,fun a e=>?_⟩
 ·obtain ⟨cur,hc⟩:=h.2 a e
  exact ⟨cur,hk.at hc (ne a e)⟩
 ·obtain ⟨b,cur,e1,hc,hs,hm⟩:=h.own a e
  exact ⟨b,cur,e1,hk.at hc (by have:=ne a e;rw [e1] at this;exact this),hs,hm⟩
theorem ArgT.same {w w' : World} {ao:Option Addr} {xs:List Int} {cap:Nat} (h:ArgT w ao xs cap) (hk:Same0 w w'):ArgT w' ao xs cap:=h.kept hk (fun _ f=>f.elim)
theorem Row.arg {base:Nat} {w:World} {v:Value} {xs:List Int} (h:Row base w v xs) (hl:xs.length≤100000):∃ ao ac,v=.slice ao xs.length ac∧ArgT w ao xs ac∧∀ a,ao=some a→base≤a.block:=by
 obtain ⟨ao,ac,e,h1,h2,h3⟩:=h.ints
 rcases h.2 with ⟨e2,h0⟩ | ⟨g,cap,cur,e2,hb,hg,hle,hmx,hsz,_⟩
 ·rw [e] at e2
  simp only [Value.slice.injEq] at e2
  obtain ⟨rfl,_,rfl⟩:=e2
  exact ⟨none,0,e,⟨⟨h1,by omega,fun _=>⟨h0,rfl⟩,by omega⟩,(fun a e=>by cases e),fun a e=>by cases e⟩,fun a e=>by cases e⟩
 ·rw [e] at e2
  simp only [Value.slice.injEq] at e2
  obtain ⟨rfl,_,rfl⟩:=e2
  exact ⟨_,ac,e,⟨⟨h1,hle,(fun e=>by cases e),by omega⟩,(fun a e=>by cases e;exact ⟨cur,hg⟩),fun a e=>by cases e;exact ⟨g,cur,rfl,hg,by simpa using hsz,hmx⟩⟩,fun a e=>by cases e;exact hb⟩
theorem eqnilI (w:World) (a:Option Addr) (n c n' c' : Nat):(binOp .eql 31 (.slice a n c) (.slice none n' c')).run Try.prog w=.ok (.bool a.isNone) w:=Lib.run_eql_slice_nil w _ _ a n c n' c' Try.underlying31
set_option maxHeartbeats 1000000 in
theorem cloneI_any {w:World} {ao:Option Addr} {cap:Nat} {xs:List Int} (hx:Arg w ao xs cap) :
  Calls Try.prog 64 #[.slice ao xs.length cap] w fun e w' => ∃ v,e=.returned v∧Row w.heap.size w' v xs∧Same0 w w' := by
 have hnil:=eqnilI
 have hsz:=hx.size
 cases ao with
 | none=>
  obtain ⟨h0,rfl⟩:=hx.nil rfl
  obtain rfl:xs=[]:=List.eq_nil_of_length_eq_zero h0
  go_enter Try.func64,Try.ntmps64
  go_wp2
  go_ret
  exact ⟨_,rfl,World.ownsRow_nil _ _ _ _,Kept.refl _ _⟩
 | some ad=>
  have k0:Same0 w (w.alloc (.cells #[] 3)):=(Kept.refl _ w).alloc _
  have r0:Row w.heap.size (w.alloc (.cells #[] 3)) (.slice (some ⟨w.heap.size,0,none⟩) 0 0) []:=row_empty w _ (Nat.le_refl _) rfl
  have cI:=hx.at'.same k0
  have z0:=k0.size
  clear hx
  go_enter Try.func64,Try.ntmps64
  go_wp2_with (first | (at_builtin;refine wpList_more rfl _ _ 31 rfl Try.underlying31 w.heap.size [] _ rfl r0 xs _ _ _ rfl rfl cI z0 (by simp;omega) ?_;intro v' w4 hr4 hk4))
  go_ret
  exact ⟨_,rfl,by simpa using hr4,k0.onto r0 hk4⟩
end Go.Proofs.Ytmloedlkoijfbaa
