import Derived.Test.YtdhiiicppcgkbaaGreatGW13
import Derived.SizedLaws
import Derived.Test.YtdhiiicppcgkbaaGreatGW05
import Derived.Test.YtdhiiicppcgkbaaGreatGW06
import Derived.Test.YtdhiiicppcgkbaaGreatGW02
import Derived.Laws.Externs
import Derived.MapKept
import Derived.Deep.RegionWith
import Derived.Deep.DrawnRows
namespace Go.Proofs.YtdhiiicppcgkbaaGreat
set_option maxRecDepth 100000
set_option linter.unusedVariables false
open Go.RowKit
attribute [local go_sem ↓] Go.wp_at_zero Go.wp_at_succ
def RuOut (base:Nat) (w:World) (v:Value) (x:Ru):Prop:=∃ g c g' c', v=.agg #[.slice (some ⟨g,0,none⟩) x.1.length c,.slice (some ⟨g', 0,none⟩) x.2.length c']∧TmAt w g c x.1∧TmAt w g' c' x.2∧base≤g∧base≤g' ∧ g≠g'
set_option maxHeartbeats 2000000 in
theorem sat_yes {w:World} {b bs:Nat} {L:List Sym} {R:List Ru} {lv:Value} {vs:List Value} (h:StAt w b bs L R lv vs) (i:Nat) (hi:i<R.length) :
  Calls Tryz.prog 38 #[.pointer (some ⟨b,0,none⟩),.int .i64 (i:Int)] w fun e w' => ∃ v,e=.returned (.tuple #[v,.int .i64 0])∧RuOut w.heap.size w' v R[i]∧Same0 w w' := by
 have K:Same0 w (w.alloc (.cells #[.slice none 0 0,.slice none 0 0] 98)):=(Kept.refl _ w).alloc _
 have hz:=ok_len (h.ok _ (List.getElem_mem hi))
 have hle:=h.le
 obtain ⟨ro,rc,rfl,hR⟩:=h.read
 have hR1:=hR.same K
 have C:=hR1.cells.2
 obtain ⟨gb,goff,rfl,hgb,ao,ac,bo,bc,r0,r1,A1,A2⟩:=hR1.rs.get hi
 have CC:=copied_any (ac:=ac) (bc:=bc) (x:=R[i]) A1.at' A2.at' hz.1.1 hz.2.1 hz.1.2 hz.2.2
 have G0:=heap_alloc_new w (.cells #[.slice none 0 0,.slice none 0 0] 98)
 have HF:Hid (∀ ww,Same0 (w.alloc (.cells #[.slice none 0 0,.slice none 0 0] 98)) ww→(ww.cell? ⟨w.heap.size,0,none⟩=some (.slice none 0 0)∧ww.cell? ⟨w.heap.size,1,none⟩=some (.slice none 0 0))∧ww.frozen? ⟨w.heap.size,0,none⟩=false∧ww.frozen? ⟨w.heap.size,1,none⟩=false):=fun ww hk=>⟨⟨cellAt (hk.at0 G0) 0,cellAt (hk.at0 G0) 1⟩,frozenAt (hk.at0 G0) 0,frozenAt (hk.at0 G0) 1⟩
 have HR:Hid (∀ ww (A B:Value),Same0 (w.alloc (.cells #[.slice none 0 0,.slice none 0 0] 98)) ww→((ww.setCell ⟨w.heap.size,0,none⟩ A).setCell ⟨w.heap.size,1,none⟩ B).cell? ⟨w.heap.size,0,none⟩=some A∧((ww.setCell ⟨w.heap.size,0,none⟩ A).setCell ⟨w.heap.size,1,none⟩ B).cell? ⟨w.heap.size,1,none⟩=some B):=fun ww A B hk=>by
  have b:=setAt (setAt (hk.at0 G0) 0 A) 1 B
  exact ⟨cellAt b 0,cellAt b 1⟩
 have HE:Hid (∀ ww (A B:Value),Same0 (w.alloc (.cells #[.slice none 0 0,.slice none 0 0] 98)) ww→Same0 w ((ww.setCell ⟨w.heap.size,0,none⟩ A).setCell ⟨w.heap.size,1,none⟩ B)):=fun ww A B hk=>((K.trans' hk).setCell (fun h=>absurd h (by simp)) _).setCell (fun h=>absurd h (by simp)) _
 have HT:Hid (∀ ww g c xs (A B:Value),TmAt ww g c xs→w.heap.size+1≤g→TmAt ((ww.setCell ⟨w.heap.size,0,none⟩ A).setCell ⟨w.heap.size,1,none⟩ B) g c xs):=fun ww g c xs A B ht hg=>by
  have k:Kept (fun k=>k=w.heap.size) ww ((ww.setCell ⟨w.heap.size,0,none⟩ A).setCell ⟨w.heap.size,1,none⟩ B):=Kept.setCell (p:=⟨w.heap.size,1,none⟩) (Kept.setCell (p:=⟨w.heap.size,0,none⟩) (Kept.refl (fun k=>k=w.heap.size) ww) (fun _=>rfl) A) (fun _=>rfl) B
  exact k.row ht (fun i e=>by simp [Value.ownBlock] at e;omega)
 have i1:(0:Int)≤(i:Int):=by omega
 have i2:(i:Int)<(R.length:Int):=by omega
 clear h hR hR1 K A1 A2 hz G0
 simp only [World.size_alloc] at CC
 go_enter Tryz.func38,Tryz.ntmps38
 go_wp2_with (first | (go_at_call 79;refine CC.mono ?_;rintro e w2 ⟨g,c,g', c', rfl,t1,t2,q1,q2,q3,hk2⟩;obtain ⟨⟨c1,c2⟩,f1,f2⟩:=HF.out _ hk2))
 exact bodyPost_ret (v:=.tuple #[.agg #[.slice (some ⟨g,0,none⟩) R[i].1.length c,.slice (some ⟨g', 0,none⟩) R[i].2.length c'],.int .i64 0]) (by obtain ⟨r0,r1⟩:=HR.out w2 (.slice (some ⟨g,0,none⟩) R[i].1.length c) (.slice (some ⟨g', 0,none⟩) R[i].2.length c') hk2;simp [results,Tryz.results38,go_sem,r0,r1]) rfl ⟨_,rfl,⟨g,c,g', c', rfl,HT.out _ _ _ _ _ _ t1 q1,HT.out _ _ _ _ _ _ t2 q2,by omega,by omega,q3⟩,HE.out _ _ _ hk2⟩
end Go.Proofs.YtdhiiicppcgkbaaGreat
namespace Go.Proofs.YtdhiiicppcgkbaaGreat
set_option linter.unusedVariables false
set_option maxRecDepth 100000
open Go.RowKit Go.Deep
def GoodR (L:List Sym) (R:List Ru):Prop:=R.length≤100∧∀ i (h:i<R.length) (j:Nat),j+1<8→askB L 0 (R.take i) R[i] (j+1)=true
theorem GoodR.nil (L:List Sym):GoodR L []:=⟨by simp,fun i h=>absurd h (by simp)⟩
theorem ask_any (L:List Sym) (N M:Nat) (A:List Ru) (x:Ru) (j:Nat):askB L N A x (j+1)=askB L M A x (j+1):=by
 match j with
 | 0=>rfl
 | 1=>rfl
 | 2=>rfl
 | 3=>rfl
 | 4=>rfl
 | 5=>rfl
 | j+6=>rfl
theorem GoodR.add {L:List Sym} {R l:List Ru} (h:GoodR L R) (ha:Ans L R l []):GoodR L (R++l):=by
 refine ⟨by simpa using (ha.fit h.1).1,fun i hi j hj=>?_⟩
 by_cases hl:i<R.length
 ·rw [List.getElem_append_left hl,List.take_append_of_le_length (by omega)]
  exact h.2 i hl j hj
 ·have hm:i-R.length<l.length:=by simp at hi;omega
  have:=ha.nil (j+1) hj (i-R.length) hm
  rw [List.getElem_append_right (by omega),List.take_append,List.take_of_length_le (by omega)]
  unfold ckB at this
  rw [ask_any L _ 0] at this
  simpa [List.getD,hm] using this
structure RFacts (L:List Sym) (R:List Ru) (i:Nat) (x:Ru):Prop where
 ok:checkE L x.1=0∧checkE L x.2=0
 l1:x.1.length≤200
 l2:x.2.length≤200
 pos:0<x.1.length
 top:∀ h:0<x.1.length,defB L x.1[0]=true
 low:∀ k (h:k<x.1.length),0<k→defB L x.1[k]=false
 apart:∀ k (hk:k<i) (h:k<R.length),claB L x.1 R[k].1=true∧claE L x.1 R[k].1=0
theorem GoodR.facts {L:List Sym} {R:List Ru} (h:GoodR L R) {i:Nat} (hi:i<R.length):RFacts L R i R[i]:=by
 have ok:∀ k (hk:k<R.length),checkE L R[k].1=0∧checkE L R[k].2=0:=fun k hk=>by
  have:=h.2 k hk 0 (by omega)
  simpa [askB] using this
 have o:=ok i hi
 have s:=h.2 i hi 1 (by omega)
 have t:=h.2 i hi 2 (by omega)
 have b:=h.2 i hi 4 (by omega)
 have v:=h.2 i hi 6 (by omega)
 have hp:=(ok_len o).1.1
 simp only [askB,Bool.and_eq_true,decide_eq_true_eq] at s t b v
 refine ⟨o,s.1,s.2,hp,fun hp' => ?_,fun k hk h0=>?_,fun k hk hk' => ?_⟩
 ·have e1:R[i].1.headD (-1)=R[i].1[0]:=by
   generalize R[i].1=y at *
   cases y with
   | nil=>simp at hp
   | cons y r=>simp
  rw [← e1];exact t
 ·have:=List.all_eq_true.1 b R[i].1[k] (by
   rw [List.mem_iff_getElem]
   exact ⟨k-1,by simp;omega,by simp;congr 1;omega⟩)
  simpa using this
 ·have:=List.all_eq_true.1 v R[k] (by
   rw [List.mem_iff_getElem]
   exact ⟨k,by simp;omega,by simp⟩)
  have ok' := ok k hk'
  rw [meetB_eq ok'.1 o.1] at this
  exact ⟨by simpa using this,by simp [claE,o.1,ok'.1]⟩
theorem bytes_rule:Tryz.prog.bytesOf 98=48:=by kernel_rfl
theorem cells_rule:Tryz.prog.cellsOf 98=2:=by kernel_rfl
structure ArgR (w:World) (lo:Option Addr) (l:List Ru) (cap:Nat):Prop where
 at' : RsAt w lo l
 cap' : l.length≤cap
 size:l.length * 48≤140737488351232
section
variable {H : Type} {enc : TypeId × Value → H} {w : World} {spare : Nat → Bool} {held : Bool}
theorem weightsAll_mem7 {P:Program} {e:TypeId} {l:List (DataW H)} {d:DataW H} (h:d∈l) {n:Nat} (hn:n∈d.weights P e):n∈DataW.weightsAll P e l:=by
 induction l with
 | nil=>cases h
 | cons x r ih=>
  simp only [DataW.weightsAll,List.mem_append]
  rcases List.mem_cons.1 h with q | q
  ·subst q;exact .inl hn
  ·exact .inr (ih q)
theorem open_elems7 {t e c fuel:Nat} {ao:Option Addr} {len cap:Nat} {x:DataW H × List MemPlace} (ht:Tryz.prog.underlying t=some (.slice e)) (hc:Tryz.prog.cellsOf e=c) (h0:0<c) (h:DataW.trod enc Tryz.prog w 0 spare held fuel t [.slice ao len cap]=some x) (hw:∀ n∈x.1.weights Tryz.prog t,n≤reachBytes) :
  (ao=none∧len=0∧cap=0)∨∃ a,ao=some a∧len≤cap∧cap≤maxLen∧len * Tryz.prog.bytesOf e≤reachBytes∧∀ i,i<len→a=⟨a.block,a.off,none⟩∧a.block<w.heap.size∧∃ cs n y,cs.length=c∧(∀ j,j<c→w.cell? ⟨a.block,a.off+i * c+j,none⟩=cs[j]?)∧DataW.trod enc Tryz.prog w 0 spare held n e cs=some y∧∀ n∈y.1.weights Tryz.prog e,n≤reachBytes:=by
 rcases open_slice ht h with ⟨hcs,_⟩ | ⟨a,len', cap', m,n,D,Pl,hcs,_,hl,hm,hmm,rfl,hx⟩
 ·simp at hcs;exact .inl ⟨hcs.1,hcs.2.1,hcs.2.2⟩
 ·simp at hcs
  obtain ⟨rfl,rfl,rfl⟩:=hcs
  have hb:len * Tryz.prog.bytesOf e≤reachBytes:=by
   have:=hw ((((List.range len).map D).length+((List.range (m-len)).map fun j=>D (len+j)).length) * Tryz.prog.bytesOf e) (by simp [DataW.weights,ht])
   refine Nat.le_trans (Nat.mul_le_mul_right _ ?_) this
   simp
  refine .inr ⟨a,rfl,hl,hm,hb,fun i hi=>?_⟩
  have hmi:i<m:=by rw [hmm];split <;> omega
  have hm0:0<m:=by omega
  obtain ⟨cs0,g0,_⟩:=hx 0 hm0
  rw [hc] at g0
  obtain ⟨_,gl,gc⟩:=World.cells?_some g0
  have hsp:a.spot=none:=by
   have:=gc 0 h0
   have hv:cs0[0]? = some (cs0[0]'(by omega)):=List.getElem?_eq_getElem (by omega)
   rw [hv] at this
   simp [Addr.add] at this
   exact World.cell?_spot this
  have hlt:a.block<w.heap.size:=World.cells?_block (by simpa [Addr.add] using g0) h0
  have ea:a=⟨a.block,a.off,none⟩:=by cases a;simp_all
  obtain ⟨cs,g1,g2⟩:=hx i hmi
  rw [hc] at g1
  obtain ⟨_,gl1,gc1⟩:=World.cells?_some g1
  refine ⟨ea,hlt,cs,n,_,gl1,fun j hj=>?_,g2,fun k hk=>hw k ?_⟩
  ·rw [← gc1 j hj,add_add]
   congr 1
   unfold Addr.add
   split
   ·rw [ea];simp;omega
   ·simp
  ·simp only [DataW.weights,ht,List.mem_cons,List.mem_append]
   exact .inr (.inl (weightsAll_mem7 (List.mem_map.2 ⟨i,by simpa using hi,rfl⟩) hk))
theorem trod_pair7 {P:Program} {base:Nat} {t:TypeId} {f0 f1:Field} {fuel:Nat} {cs:List Value} {x:DataW H × List MemPlace} (ht:P.underlying t=some (.struct #[f0,f1])) (h:DataW.trod enc P w base spare held fuel t cs=some x) :
  ∃ y0 y1 n,x.1=.agg [y0.1,y1.1]∧cs.length=P.cellsOf t∧DataW.trod enc P w base spare held n f0.type ((cs.drop f0.offset).take (P.cellsOf f0.type))=some y0∧DataW.trod enc P w base spare held n f1.type ((cs.drop f1.offset).take (P.cellsOf f1.type))=some y1:=by
 obtain ⟨xs,n,_,rfl,hl,hlen,hf⟩:=DataW.trod_struct ht h
 match xs,hlen with
 | [y0,y1],_=>exact ⟨y0,y1,n,by simp,hl,by simpa using hf 0 f0 rfl,by simpa using hf 1 f1 rfl⟩
theorem open_rules {fuel:Nat} {ao:Option Addr} {len cap:Nat} {x:DataW H × List MemPlace} (h:DataW.trod enc Tryz.prog w 0 spare held fuel 37 [.slice ao len cap]=some x) (hw:∀ n∈x.1.weights Tryz.prog 37,n≤reachBytes) :
  ∃ l,l.length=len∧ArgR w ao l cap:=by
 rcases open_elems7 Tryz.underlying37 cells_rule (by omega) h hw with ⟨rfl,rfl,rfl⟩ | ⟨a,rfl,hl1,hl2,hsz,hall⟩
 ·exact ⟨[],rfl,.inl rfl,Nat.le_refl _,by simp⟩
 ·rw [bytes_rule] at hsz
  have each:∀ i,i<len→∃ x:Ru,RuAt w a.block (a.off+i * 2) x:=by
   intro i hi
   obtain ⟨_,_,cs,n,y,hl,hcell,hy,hyw⟩:=hall i hi
   obtain ⟨y0,y1,n', hyd,hl', g0,g1⟩:=trod_pair7 Tryz.underlying98 hy
   match cs,hl with
   | [c0,c1],_=>
    simp only [cells_term,List.drop_zero,List.take_succ_cons,List.take_zero,List.drop_succ_cons] at g0 g1
    have hyw0:∀ n∈y0.1.weights Tryz.prog 64,n≤reachBytes:=fun n hn=>hyw n (by
     rw [hyd]
     simp only [DataW.weights,Tryz.underlying98]
     simp [DataW.weightsEach,hn])
    have hyw1:∀ n∈y1.1.weights Tryz.prog 64,n≤reachBytes:=fun n hn=>hyw n (by
     rw [hyd]
     simp only [DataW.weights,Tryz.underlying98]
     simp [DataW.weightsEach,hn])
    obtain ⟨xo,xc,xs,e0,k0⟩:=open_ints Tryz.underlying64 g0 hyw0
    obtain ⟨yo,yc,ys,e1,k1⟩:=open_ints Tryz.underlying64 g1 hyw1
    simp only [List.cons.injEq,and_true] at e0 e1
    subst e0 e1
    exact ⟨(xs,ys),xo,xc,yo,yc,by simpa using hcell 0 (by omega),by simpa using hcell 1 (by omega),k0,k1⟩
  obtain ⟨f,hf⟩:=Classical.axiomOfChoice (r:=fun (i:Fin len) (x:Ru)=>RuAt w a.block (a.off+i * 2) x) (fun i=>each i i.2)
  refine ⟨List.ofFn f,by simp,?_,by simpa using hl1,by simpa [reachBytes] using hsz⟩
  by_cases h0:len=0
  ·subst h0;exact .inl (by simp)
  ·obtain ⟨ea,hlt,_⟩:=hall 0 (by omega)
   refine .inr ⟨a.block,a.off,by rw [← ea],hlt,fun i hi=>?_⟩
   have hi' : i<len:=by simpa using hi
   simpa using hf ⟨i,hi'⟩
end
end Go.Proofs.YtdhiiicppcgkbaaGreat
namespace Go.Proofs.YtdhiiicppcgkbaaGreat
set_option maxRecDepth 100000
set_option linter.unusedVariables false
open Go.RowKit
attribute [local go_sem ↓] Go.wp_at_zero Go.wp_at_succ
theorem vs_from7 {t:List Int}:∀ {o:List Int} {v:Int},v∈vs o t→v∈o∨∃ n∈t,isV n=true∧v = -n:=by
 induction t with
 | nil=>intro o v h;exact .inl h
 | cons x r ih=>
  intro o v h
  rcases ih (o:=vstep o x) h with q | ⟨n,h1,h2,h3⟩
  ·unfold vstep at q
   split at q
   ·rename_i hx
    rcases List.mem_append.1 q with q | q
    ·exact .inl q
    ·simp at q;exact .inr ⟨x,by simp,hx.1,q⟩
   ·exact .inl q
  ·exact .inr ⟨n,by simp [h1],h2,h3⟩
theorem vars_iff {t:List Int} (ht:∀ n∈t, -99≤n) {v:Int}:v∈varsL t ↔ -v∈t∧0<v:=by
 constructor
 ·intro h
  rcases vs_from7 h with q | ⟨n,h1,h2,h3⟩
  ·simp at q
  ·have:=isV_iff.1 h2
   subst h3
   exact ⟨by simpa using h1,by omega⟩
 ·rintro ⟨h1,h2⟩
  have h3:=ht _ h1
  have:=vs_mem (o:=[]) h1 (isV_iff.2 ⟨h3,by omega⟩)
  simpa [varsL] using this
theorem free_eq {a b:List Int} (ha:∀ n∈a, -99≤n) (hb:∀ n∈b, -99≤n):(varsL b).all (fun v=>inB (varsL a) v)=b.all (fun n=>!freeB a n):=by
 rw [Bool.eq_iff_iff,List.all_eq_true,List.all_eq_true]
 constructor
 ·intro h n hn
  by_cases h0:n<0
  ·have:=h (-n) ((vars_iff hb).2 ⟨by simpa using hn,by omega⟩)
   simp only [inB,decide_eq_true_eq] at this
   have:=(vars_iff ha).1 this
   simp [freeB]
   exact .inr (by simpa using this.1)
  ·simp [freeB];exact .inl (by omega)
 ·intro h v hv
  obtain ⟨h1,h2⟩:=(vars_iff hb).1 hv
  have:=h _ h1
  simp [freeB] at this
  simp only [inB,decide_eq_true_eq]
  refine (vars_iff ha).2 ⟨?_,h2⟩
  rcases this with q | q
  ·omega
  ·exact q
set_option maxHeartbeats 1000000 in
theorem rdef_any {n:Nat} {w:World} {rv:Value} {L:List Sym} (h:Rl n w rv L) (x:Int):Calls Tryz.prog 34 #[rv,.int .i64 x] w fun e w' => e=.returned (.bool (defB L x))∧w' = w:=by
 have hlen:=h.2.2.2
 by_cases hx:x<0∨(L.length:Int)≤x
 ·have H:Hid (defB L x=false):=defB_no hx
  obtain ⟨ro,rc,rfl⟩:=row_shape h.1
  rcases hx with hx | hx
  ·have hx' : ¬ (0:Int)≤x:=by omega
   go_enter Tryz.func34,Tryz.ntmps34
   go_wp2
   go_ret
   exact ⟨by rw [H.out];rfl,rfl⟩
  ·have hx' : (0:Int)≤x:=by omega
   have hx'' : ¬ x<(L.length:Int):=by omega
   go_enter Tryz.func34,Tryz.ntmps34
   go_wp2
   go_ret
   exact ⟨by rw [H.out];rfl,rfl⟩
 ·obtain ⟨i,rfl⟩:∃ i:Nat,x=(i:Int):=⟨x.toNat,by omega⟩
  have hi:i<L.length:=by omega
  have H:Hid (defB L (i:Int)=L[i].df):=defB_at hi
  rcases h.1.2 with ⟨_,h0⟩ | ⟨g,cap,cur,rfl,_,hg,_⟩
  ·omega
  ·have hc:=h.1.cells (g:=g) rfl _ _ (symCells_at hi).2.2
   rw [addr_add,Nat.zero_add] at hc
   have i1:(0:Int)≤(i:Int):=by omega
   have i2:(i:Int)<(L.length:Int):=by omega
   clear h hg
   go_enter Tryz.func34,Tryz.ntmps34
   go_wp2
   go_ret
   exact ⟨by rw [H.out];rfl,rfl⟩
set_option maxHeartbeats 2000000 in
theorem rlinear_any {w:World} {ao:Option Addr} {ac:Nat} {t:List Int} (ht:IntsAt w ao t) (hm:t.length≤2000) :
  Calls Tryz.prog 162 #[.slice ao t.length ac] w fun e w' => e=.returned (.bool (decide (negN t=(varsL t).length)))∧Same0 w w' := by
 have CV:=rvars_any (cap:=ac) ht (by omega)
 have hvl:(varsL t).length≤t.length:=by have:=vs_len [] t;simpa [varsL] using this
 have E:Hid (∀ q:Bool,(q=true ↔ negN t=(varsL t).length)→q=decide (negN t=(varsL t).length)):=fun q h=>by cases q <;> simp_all
 go_enter Tryz.func162,Tryz.ntmps162
 go_wp2
 go_loop [3,4] (fun s i=>∃ k:Nat,k≤t.length∧i=.int .i64 (k:Int)∧s=.int .i64 ((negN (t.take k):Nat):Int)) (fun _ i=>t.length-(intOf i).toNat)
 case atStart=>exact ⟨0,Nat.zero_le _,rfl,rfl⟩
 case round=>
  obtain ⟨k,hk,rfl,rfl⟩:=hrel
  have b0:=negN_le (t.take k)
  have b1:negN (t.take k)≤2000:=by rw [List.length_take] at b0;omega
  clear b0
  by_cases hlt:k<t.length
  ·obtain ⟨tb,off', rfl,_,hcell⟩:=ht.get hlt
   have i1:(0:Int)≤(k:Int):=by omega
   have i2:(k:Int)<(t.length:Int):=by omega
   have N:Hid (negN (t.take (k+1))=negN (t.take k)+if t[k]<0 then 1 else 0):=negN_take hlt
   generalize negN (t.take k)=m at *
   by_cases hneg:t[k]<0
   ·go_wp2
    exact ⟨⟨k+1,by omega,by go_num,by rw [N.out,if_pos hneg];go_num⟩,by simp [intOf];omega⟩
   ·go_wp2
    exact ⟨⟨k+1,by omega,by go_num,by rw [N.out,if_neg hneg];rfl⟩,by simp [intOf];omega⟩
  ·obtain rfl:k=t.length:=by omega
   rw [List.take_length] at b1 ⊢
   go_wp2_with (first | (go_at_call 182;refine CV.mono ?_;rintro e w2 ⟨v,rfl,hr,hk2⟩;obtain ⟨vo,vc,rfl⟩:=row_shape hr))
   go_ret
   exact ⟨ret_bool (E.out _ (by simp;try omega)),hk2⟩
set_option maxHeartbeats 2000000 in
theorem rbelow_any {n:Nat} {w:World} {rv:Value} {L:List Sym} (h:Rl n w rv L) {ao:Option Addr} {ac:Nat} {t:List Int} (ht:IntsAt w ao t) (hm:t.length≤2000) :
  Calls Tryz.prog 163 #[rv,.slice ao t.length ac] w fun e w' => e=.returned (.bool (t.tail.all (fun n=>!defB L n)))∧w' = w:=by
 have CD:=fun x=>rdef_any h x
 obtain ⟨ro,rc,rfl⟩:=row_shape h.1
 go_enter Tryz.func163,Tryz.ntmps163
 go_wp2
 go_loop [5] (fun i=>∃ k:Nat,1≤k∧i=.int .i64 (k:Int)∧(k≤t.length∨k=1)∧Hid ((t.tail.take (k-1)).all (fun n=>!defB L n)=true)) (fun i=>t.length+1-(intOf i).toNat)
 case atStart=>exact ⟨1,by omega,rfl,.inr rfl,by show _=_;simp⟩
 case round=>
  obtain ⟨k,hk1,rfl,hk2,ha⟩:=hrel
  by_cases hlt:k<t.length
  ·obtain ⟨tb,off', rfl,_,hcell⟩:=ht.get hlt
   have i1:(0:Int)≤(k:Int):=by omega
   have i2:(k:Int)<(t.length:Int):=by omega
   have C:=CD t[k]
   have e0:t.tail[k-1]? = some t[k]:=by
    rw [List.getElem?_tail]
    have:k-1+1=k:=by omega
    rw [this,List.getElem?_eq_getElem hlt]
   cases hq:defB L t[k] with
   | true=>
    have H:Hid (t.tail.all (fun n=>!defB L n)=false):=by
     show _=_
     rw [List.all_eq_false]
     exact ⟨t[k],List.mem_of_getElem? e0,by simp [hq]⟩
    rw [hq] at C
    clear hq ha e0
    go_wp2_with (first | (go_at_call 34;refine C.mono ?_;rintro e w2 ⟨rfl,rfl⟩))
    go_ret
    exact ⟨by rw [H.out];rfl,rfl⟩
   | false=>
    have H:Hid ((t.tail.take (k+1-1)).all (fun n=>!defB L n)=true):=by
     have:=ha.out
     have e1:k+1-1=(k-1)+1:=by omega
     show _=_
     rw [e1,List.take_add_one,e0,List.all_append,this]
     simp [hq]
    rw [hq] at C
    clear hq ha e0
    go_wp2_with (first | (go_at_call 34;refine C.mono ?_;rintro e w2 ⟨rfl,rfl⟩))
    exact ⟨⟨k+1,by omega,by go_num,.inl (by omega),H⟩,by simp [intOf];omega⟩
  ·have H:Hid (t.tail.all (fun n=>!defB L n)=true):=by
    have:=ha.out
    rw [List.take_of_length_le (by simp;omega)] at this
    exact this
   have hlt' : ¬ (k:Int)<(t.length:Int):=by omega
   go_wp2
   go_ret
   exact ⟨by rw [H.out];rfl,rfl⟩
theorem rone_any (w:World) (c p:Int):Calls Tryz.prog 123 #[.int .i64 c,.int .i64 p] w fun e w' => ∃ v,e=.returned v∧WrsAt w' v [(c,p)]∧Same0 w w' := by
 go_enter Tryz.func123,Tryz.ntmps123
 go_wp2
 go_ret
 exact ⟨_,rfl,wrs_new w [(c,p)] _ 112 rfl (fun i hi=>by have hi' : i<1:=hi;match i,hi' with | 0,_=>exact ⟨rfl,rfl⟩) 1 rfl,(Kept.refl _ w).alloc _⟩
structure MR (w:World) (m:Nat) (ro:Option Addr) (rc:Nat) (mo:Option Addr) (mc:Nat) (L:List Sym) (R:List Ru):Prop where
 blk:w.heap[m]? = some (.cells #[.slice ro L.length rc,.slice mo R.length mc] 54 (0,0))
 rl:Rl w.heap.size w (.slice ro L.length rc) L
 rs:RsAt w mo R
 nil:mo=none→mc=0
 le:R.length≤100
 ok:∀ x∈R,checkE L x.1=0
theorem rl_up {n m:Nat} {w:World} {rv:Value} {L:List Sym} (h:Rl n w rv L) (hn:n≤m):Rl m w rv L:=⟨h.1,fun k e=>Nat.lt_of_lt_of_le (h.2.1 k e) hn,h.2.2⟩
theorem MR.same {w w' : World} {m:Nat} {ro:Option Addr} {rc:Nat} {mo:Option Addr} {mc:Nat} {L:List Sym} {R:List Ru} (h:MR w m ro rc mo mc L R) (hk:Same0 w w'):MR w' m ro rc mo mc L R:=
 ⟨hk.at0 h.blk,rl_up (h.rl.same hk) hk.size,h.rs.same hk,h.nil,h.le,h.ok⟩
def PartA (L:List Sym) (R l:List Ru) (j0 j1:Nat) (ws:List (Int × Int)):Prop:=
 (ws=[]∧Upto L R l j1 0)∨∃ j n,j0≤j∧j<j1∧n<l.length∧Upto L R l j n∧ckB L R l j n=false∧ws=wrongL L R l j n
theorem ck1_eq {L:List Sym} {R l:List Ru} {n:Nat} {x:Ru} (hx:x=l.getD n ([],[])):ckB L R l 1 n=(decide (checkE L x.1=0) && decide (checkE L x.2=0)):=by subst hx;rfl
theorem ck2_eq {L:List Sym} {R l:List Ru} {n:Nat} {x:Ru} (hx:x=l.getD n ([],[])):ckB L R l 2 n=(decide (x.1.length≤200) && decide (x.2.length≤200)):=by subst hx;rfl
theorem wr1_eq {L:List Sym} {R l:List Ru} {n:Nat} {x:Ru} (hx:x=l.getD n ([],[])):wrongL L R l 1 n=[(71,(n:Int)),(if checkE L x.1=0 then checkE L x.2 else checkE L x.1, -1)]:=by subst hx;rfl
theorem wrs_two (w:World) (a b c d:Int) {o:Obj} (ho:o=.cells #[.int .i64 a,.int .i64 b,.int .i64 c,.int .i64 d] 112 (0,0)):WrsAt (w.alloc o) (.slice (some ⟨w.heap.size,0,none⟩) 2 2) [(a,b),(c,d)]:=
 wrs_new w [(a,b),(c,d)] _ 112 ho (fun i hi=>by have hi' : i<2:=hi;match i,hi' with | 0,_=>exact ⟨rfl,rfl⟩ | 1,_=>exact ⟨rfl,rfl⟩) 2 rfl
theorem wrs_nil (w:World):WrsAt w (.slice none 0 0) []:=⟨none,0,rfl,.inl rfl⟩
set_option maxHeartbeats 8000000 in
theorem rterms_any {w:World} {m:Nat} {ro:Option Addr} {rc:Nat} {mo:Option Addr} {mc:Nat} {L:List Sym} {R:List Ru} (h:MR w m ro rc mo mc L R) {lo:Option Addr} {lc:Nat} {l:List Ru} (hl:RsAt w lo l) (hn:l.length≤100) (hu:Upto L R l 1 0) :
  Calls Tryz.prog 124 #[.pointer (some ⟨m,0,none⟩),.slice lo l.length lc] w fun e w' => ∃ ws v,e=.returned v∧PartA L R l 1 3 ws∧WrsAt w' v ws∧Same0 w w' := by
 have M0:Same0 w w:=Kept.refl _ _
 go_enter Tryz.func124,Tryz.ntmps124
 go_wp2
 go_loopw [5] (fun i wr=>∃ n:Nat,n≤l.length∧i=.int .i64 (n:Int)∧Hid (Upto L R l 1 n)∧Same0 w wr) (fun i _=>l.length-(intOf i).toNat)
 case atStart=>exact ⟨0,Nat.zero_le _,rfl,hu,M0⟩
 case round=>
  clear M0 hu
  obtain ⟨n,hnl,rfl,hu,hs⟩:=hrel
  by_cases hlt:n<l.length
  ·obtain ⟨lb,off,rfl,hlb,hru⟩:=(hl.same hs).get hlt
   obtain ⟨x,hx0⟩:∃ x,x=l[n]:=⟨_,rfl⟩
   rw [← hx0] at hru
   have hx:x=l.getD n ([],[]):=by rw [hx0];simp [List.getD,hlt]
   obtain ⟨ao,ac,bo,bc,r0,r1,A1,A2⟩:=hru
   have i1:(0:Int)≤(n:Int):=by omega
   have i2:(n:Int)<(l.length:Int):=by omega
   have hm1:=h.same hs
   have HS:Hid (∀ ww,Same0 wr ww→ww.cell? ⟨m,0,none⟩=some (.slice ro L.length rc)∧ww.cell? ⟨lb,off+n * 2,none⟩=some (.slice ao x.1.length ac)∧ww.cell? ⟨lb,off+n * 2+1,none⟩=some (.slice bo x.2.length bc)):=fun ww hk=>⟨cellAt (hm1.same hk).blk 0,(hk.cell (p:=⟨lb,off+n * 2,none⟩) hlb (fun f=>f)).trans r0,(hk.cell (p:=⟨lb,off+n * 2+1,none⟩) hlb (fun f=>f)).trans r1⟩
   have s1:=A1.size
   have s2:=A2.size
   have C1:Hid (∀ ww,Same0 wr ww→Calls Tryz.prog 68 #[.slice ro L.length rc,.slice ao x.1.length ac] ww fun e w' => e=.returned (.int .i64 (checkE L x.1))∧Same0 wr w'):=fun ww hk=>(rcheck_any (hm1.same hk).rl (A1.same hk).at' (by unfold maxLen;omega)).mono (fun e w' ⟨q1,q2⟩=>⟨q1,by rw [q2];exact hk⟩)
   have C2:Hid (∀ ww,Same0 wr ww→Calls Tryz.prog 68 #[.slice ro L.length rc,.slice bo x.2.length bc] ww fun e w' => e=.returned (.int .i64 (checkE L x.2))∧Same0 wr w'):=fun ww hk=>(rcheck_any (hm1.same hk).rl (A2.same hk).at' (by unfold maxLen;omega)).mono (fun e w' ⟨q1,q2⟩=>⟨q1,by rw [q2];exact hk⟩)
   have CC0:=HS.out wr (Kept.refl _ _)
   have W1:Same0 wr wr.drew:=Kept.drew (Kept.refl _ _)
   have P0:Hid (checkE L x.1=0→checkE L x.2=0→Upto L R l 1 (n+1)):=fun q1 q2=>hu.out.step (by rw [ck1_eq hx];simp [q1,q2])
   have P1:Hid (¬ (checkE L x.1=0∧checkE L x.2=0)→PartA L R l 1 3 [(71,(n:Int)),(if checkE L x.1=0 then checkE L x.2 else checkE L x.1, -1)]):=fun q=>.inr ⟨1,n,by omega,by omega,hlt,hu.out,by rw [ck1_eq hx];simpa using q,(wr1_eq hx).symm⟩
   clear r0 r1 A1 A2 hm1 hx hx0 hu h hl
   by_cases hz:checkE L x.1=0
   ·have zz:(checkE L x.1 == 0)=true:=by simpa using hz
    go_wp2
    go_region_held3 (fun w' => w'.cell? ⟨m,0,none⟩=some (.slice ro L.length rc)∧w'.cell? ⟨lb,off+n * 2,none⟩=some (.slice ao x.1.length ac)∧w'.cell? ⟨lb,off+n * 2+1,none⟩=some (.slice bo x.2.length bc)) (first | exact cc1 | exact CC0) (first | (go_at_call 68;refine (C1.out _ W1).mono ?_;rintro e w2 ⟨rfl,hw2⟩;have cc1:=HS.out _ hw2))
    all_goals
     have W2:Same0 wr w2.drew:=Kept.drew hw2
     by_cases hq:checkE L x.2=0
     ·have zq:(checkE L x.2 == 0)=true:=by simpa using hq
      go_wp2
      go_region_held3 (fun w' => w'.cell? ⟨m,0,none⟩=some (.slice ro L.length rc)∧w'.cell? ⟨lb,off+n * 2,none⟩=some (.slice ao x.1.length ac)∧w'.cell? ⟨lb,off+n * 2+1,none⟩=some (.slice bo x.2.length bc)) (first | exact cc2 | exact cc1) (first | (go_at_call 68;refine (C2.out _ W2).mono ?_;rintro e w3 ⟨rfl,hw3⟩;have cc2:=HS.out _ hw3))
      all_goals
       have P:=P0.out hz hq
       clear P0 P1
       go_wp2
       exact ⟨⟨n+1,by omega,by go_num,P,hs.trans' hw3⟩,by simp [intOf];omega⟩
     ·have zq:(checkE L x.2 == 0)=false:=by simpa using hq
      go_wp2
      go_region_held3 (fun w' => w'.cell? ⟨m,0,none⟩=some (.slice ro L.length rc)∧w'.cell? ⟨lb,off+n * 2,none⟩=some (.slice ao x.1.length ac)∧w'.cell? ⟨lb,off+n * 2+1,none⟩=some (.slice bo x.2.length bc)) (first | exact cc2 | exact cc1) (first | (go_at_call 68;refine (C2.out _ W2).mono ?_;rintro e w3 ⟨rfl,hw3⟩;have cc2:=HS.out _ hw3))
      all_goals
       have P:Hid (PartA L R l 1 3 [(71,(n:Int)),(checkE L x.2, -1)]):=by
        have:=P1.out (fun q=>hq q.2)
        rwa [if_pos hz] at this
       clear P0 P1
       go_wp2
       go_ret
       exact ⟨_,_,rfl,P.out,wrs_two w3 _ _ _ _ rfl,hs.trans' (Kept.alloc hw3 _)⟩
   ·have zz:(checkE L x.1 == 0)=false:=by simpa using hz
    have P:Hid (PartA L R l 1 3 [(71,(n:Int)),(checkE L x.1, -1)]):=by
     have:=P1.out (fun q=>hz q.1)
     rwa [if_neg hz] at this
    clear P0 P1
    go_wp2
    go_region_held3 (fun w' => w'.cell? ⟨m,0,none⟩=some (.slice ro L.length rc)∧w'.cell? ⟨lb,off+n * 2,none⟩=some (.slice ao x.1.length ac)∧w'.cell? ⟨lb,off+n * 2+1,none⟩=some (.slice bo x.2.length bc)) (first | exact cc1 | exact CC0) (first | (go_at_call 68;refine (C1.out _ W1).mono ?_;rintro e w2 ⟨rfl,hw2⟩;have cc1:=HS.out _ hw2))
    all_goals
     go_wp2
     go_ret
     exact ⟨_,_,rfl,P.out,wrs_two w2 _ _ _ _ rfl,hs.trans' (Kept.alloc hw2 _)⟩
  ·have hu2:Hid (Upto L R l 2 0):=hu.out.next (by omega)
   have hlt' : ¬ (n:Int)<(l.length:Int):=by omega
   clear hu hlt
   go_wp2
   go_loopw [7] (fun i wr=>∃ n:Nat,n≤l.length∧i=.int .i64 (n:Int)∧Hid (Upto L R l 2 n)∧Same0 w wr) (fun i _=>l.length-(intOf i).toNat)
   case atStart=>exact ⟨0,Nat.zero_le _,rfl,hu2,hs⟩
   case round=>
    clear hs hu2 hlt' hnl
    obtain ⟨n,hnl,rfl,hu,hs⟩:=hrel
    by_cases hlt:n<l.length
    ·obtain ⟨lb,off,rfl,hlb,hru⟩:=(hl.same hs).get hlt
     obtain ⟨x,hx0⟩:∃ x,x=l[n]:=⟨_,rfl⟩
     rw [← hx0] at hru
     have hx:x=l.getD n ([],[]):=by rw [hx0];simp [List.getD,hlt]
     obtain ⟨ao,ac,bo,bc,r0,r1,A1,A2⟩:=hru
     have i1:(0:Int)≤(n:Int):=by omega
     have i2:(n:Int)<(l.length:Int):=by omega
     have P0:Hid (x.1.length≤200→x.2.length≤200→Upto L R l 2 (n+1)):=fun q1 q2=>hu.out.step (by rw [ck2_eq hx];simp [q1,q2])
     have P1:Hid (¬ (x.1.length≤200∧x.2.length≤200)→PartA L R l 1 3 [(72,(n:Int))]):=fun q=>.inr ⟨2,n,by omega,by omega,hlt,hu.out,by rw [ck2_eq hx];simpa using q,rfl⟩
     clear A1 A2 hx hx0 hu h hl
     by_cases h1:x.1.length≤200
     ·have g1:¬ (200:Int)<(x.1.length:Int):=by omega
      by_cases h2:x.2.length≤200
      ·have g2:¬ (200:Int)<(x.2.length:Int):=by omega
       have P:=P0.out h1 h2
       clear P0 P1
       go_wp2
       exact ⟨⟨n+1,by omega,by go_num,P,hs⟩,by simp [intOf];omega⟩
      ·have g2:(200:Int)<(x.2.length:Int):=by omega
       have P:=P1.out (fun q=>h2 q.2)
       clear P0 P1
       go_wp2_with (first | (go_at_call 123;refine (rone_any _ _ _).mono ?_;rintro e w2 ⟨v,rfl,hv,hk2⟩))
       go_ret
       exact ⟨_,_,rfl,P,hv,hs.trans' hk2⟩
     ·have g1:(200:Int)<(x.1.length:Int):=by omega
      have P:=P1.out (fun q=>h1 q.1)
      clear P0 P1
      go_wp2_with (first | (go_at_call 123;refine (rone_any _ _ _).mono ?_;rintro e w2 ⟨v,rfl,hv,hk2⟩))
      go_ret
      exact ⟨_,_,rfl,P,hv,hs.trans' hk2⟩
    ·have P:Hid (PartA L R l 1 3 []):=.inl ⟨rfl,hu.out.next (by omega)⟩
     have hlt' : ¬ (n:Int)<(l.length:Int):=by omega
     clear hu hlt
     go_wp2
     go_ret
     exact ⟨_,_,rfl,P.out,wrs_nil _,hs⟩
def ofF (s:Int):Nat→List Ru→List Int
 | _,[]=>[]
 | k,x :: r=>(if x.1.head? = some s then [(k:Int)] else [])++ofF s (k+1) r
theorem ofF_snoc (s:Int) (x:Ru):∀ (l:List Ru) (k:Nat),ofF s k (l ++ [x])=ofF s k l++(if x.1.head? = some s then [((k+l.length:Nat):Int)] else [])
 | [],k=>by simp [ofF]
 | y :: r,k=>by
  simp only [List.cons_append,ofF,ofF_snoc s x r (k+1),List.append_assoc]
  congr 3
  simp;omega
theorem ofF_take {s:Int} {R:List Ru} {k:Nat} (h:k<R.length):ofF s 0 (R.take (k+1))=ofF s 0 (R.take k)++(if R[k].1.head? = some s then [(k:Int)] else []):=by
 rw [List.take_add_one,List.getElem?_eq_getElem h]
 show ofF s 0 (R.take k ++ [R[k]])=_
 rw [ofF_snoc]
 have:(R.take k).length=k:=by simp;omega
 rw [this,Nat.zero_add]
theorem ofF_len (s:Int):∀ (l:List Ru) (k:Nat),(ofF s k l).length≤l.length
 | [],_=>by simp [ofF]
 | x :: r,k=>by
  have:=ofF_len s r (k+1)
  simp only [ofF,List.length_append,List.length_cons]
  split <;> simp <;> omega
theorem head_at {xs:List Int} (h:0<xs.length) (s:Int):(xs.head? = some s) ↔ xs[0]=s:=by
 cases xs with
 | nil=>simp at h
 | cons x r=>simp
set_option maxHeartbeats 4000000 in
theorem sof_any {w:World} {b bs:Nat} {L:List Sym} {R:List Ru} {lv:Value} {vs:List Value} (h:StAt w b bs L R lv vs) (s:Int) :
  Calls Tryz.prog 111 #[.pointer (some ⟨b,0,none⟩),.int .i64 s] w fun e w' => ∃ v,e=.returned v∧Row w.heap.size w' v (ofF s 0 R)∧Same0 w w' := by
 have hok:=h.ok
 have hle:=h.le
 obtain ⟨ro,rc,rfl,hR⟩:=h.read
 obtain ⟨c0,c1⟩:=hR.cells
 have M0:Same0 w w:=Kept.refl _ _
 clear h
 go_enter Tryz.func111,Tryz.ntmps111
 go_wp2
 go_loopw [5,15] (fun v i wr=>∃ k:Nat,k≤R.length∧i=.int .i64 (k:Int)∧Row w.heap.size wr v (ofF s 0 (R.take k))∧Same0 w wr) (fun _ i _=>R.length-(intOf i).toNat)
 case atStart=>exact ⟨0,Nat.zero_le _,rfl,World.ownsRow_nil _ _ _ _,M0⟩
 case round=>
  clear M0 c0 c1
  obtain ⟨k,hk,rfl,hr,hs⟩:=hrel
  obtain ⟨vo,vc,rfl⟩:=row_shape hr
  by_cases hlt:k<R.length
  ·obtain ⟨gb,goff,rfl,hgb,ao,ac,bo,bc,r0,r1,A1,A2⟩:=(hR.rs.same hs).get hlt
   have hp:=(ok_len (hok _ (List.getElem_mem hlt))).1.1
   obtain ⟨ab,ao', rfl,hab,hcell⟩:=A1.at'.get hp
   have KA:Same0 wr (wr.alloc (.cells #[.slice (some ⟨ab,ao', none⟩) R[k].1.length ac,.slice bo R[k].2.length bc] 98)):=(Kept.refl _ _).alloc _
   have hcell' : (wr.alloc (.cells #[.slice (some ⟨ab,ao', none⟩) R[k].1.length ac,.slice bo R[k].2.length bc] 98)).cell? ⟨ab,ao', none⟩=some (.int .i64 R[k].1[0]):=(KA.cell (p:=⟨ab,ao' + 0,none⟩) hab (fun f=>f)).trans hcell
   have i1:(0:Int)≤(k:Int):=by omega
   have i2:(k:Int)<(R.length:Int):=by omega
   have i3:(0:Int)<(R[k].1.length:Int):=by omega
   have hol:=ofF_len s (R.take k) 0
   have hol2:(ofF s 0 (R.take k)).length≤100:=by rw [List.length_take] at hol;omega
   have E:Hid (ofF s 0 (R.take (k+1))=ofF s 0 (R.take k)++(if R[k].1[0]=s then [(k:Int)] else [])):=by
    show _=_
    rw [ofF_take hlt]
    simp only [head_at hp]
   have hrA:Row w.heap.size (wr.alloc (.cells #[.slice (some ⟨ab,ao', none⟩) R[k].1.length ac,.slice bo R[k].2.length bc] 98)) (.slice vo (ofF s 0 (R.take k)).length vc) (ofF s 0 (R.take k)):=KA.row hr (fun _ _ f=>f)
   have zA:=(hs.trans' KA).size
   clear hcell A1 A2 hol
   by_cases he:R[k].1[0]=s
   ·have he' : (R[k].1[0] == s)=true:=by simpa using he
    have E2:=E.out
    rw [if_pos he] at E2
    have E3:Hid (ofF s 0 (R.take (k+1))=ofF s 0 (R.take k) ++ [(k:Int)]):=E2
    clear E E2 he
    go_upto_region 8 with fail
    obtain ⟨wa,hwa⟩:∃ wa,wa=wr.alloc (.cells #[.slice (some ⟨ab,ao', none⟩) R[k].1.length ac,.slice bo R[k].2.length bc] 98):=⟨_,rfl⟩
    rw [← hwa] at hrA zA KA hcell' ⊢
    clear hwa
    go_wp2_with (first | (at_builtin;refine wpList_push rfl _ _ 22 rfl Tryz.underlying22 w.heap.size (ofF s 0 (R.take k)) _ rfl hrA (k:Int) rfl zA (by omega) ?_;intro g cap w4 hr4 hk4 hat4))
    refine ⟨⟨k+1,by omega,by go_num,?_,Kept.trans (hs.trans' KA) hk4 (fun i hi e=>by have:=(hr.lt i e).1;omega)⟩,by simp [intOf];omega⟩
    rw [E3.out]
    exact hr4
   ·have he' : (R[k].1[0] == s)=false:=by simpa using he
    have E2:=E.out
    rw [if_neg he,List.append_nil] at E2
    have E3:Hid (ofF s 0 (R.take (k+1))=ofF s 0 (R.take k)):=E2
    clear E E2 he
    go_wp2
    refine ⟨⟨k+1,by omega,by go_num,?_,hs.trans' KA⟩,by simp [intOf];omega⟩
    rw [E3.out]
    exact hrA
  ·obtain rfl:k=R.length:=by omega
   rw [List.take_length] at hr
   rw [List.take_length]
   go_wp2
   go_ret
   exact ⟨_,rfl,hr,hs⟩
end Go.Proofs.YtdhiiicppcgkbaaGreat
namespace Go.Proofs.YtdhiiicppcgkbaaGreat
set_option linter.unusedVariables false
set_option maxRecDepth 100000
open Go.RowKit
attribute [local go_sem ↓] Go.wp_at_zero Go.wp_at_succ
end Go.Proofs.YtdhiiicppcgkbaaGreat
namespace Go.Proofs.YtdhiiicppcgkbaaGreat
set_option maxRecDepth 100000
set_option linter.unusedVariables false
open Go.RowKit
attribute [local go_sem ↓] Go.wp_at_zero Go.wp_at_succ
theorem MR.cells {w:World} {m:Nat} {ro:Option Addr} {rc:Nat} {mo:Option Addr} {mc:Nat} {L:List Sym} {R:List Ru} (h:MR w m ro rc mo mc L R):w.cell? ⟨m,0,none⟩=some (.slice ro L.length rc)∧w.cell? ⟨m,1,none⟩=some (.slice mo R.length mc):=⟨cellAt h.blk 0,cellAt h.blk 1⟩
end Go.Proofs.YtdhiiicppcgkbaaGreat
namespace Go.Proofs.YtdhiiicppcgkbaaGreat
set_option maxRecDepth 100000
open Go.RowKit
attribute [local go_sem ↓] Go.wp_at_zero Go.wp_at_succ
theorem eql_slice (ao:Option Addr) (n c:Nat) (w:World):(binOp .eql 36 (.slice ao n c) (.slice none 0 0)).run Tryz.prog w=.ok (.bool ao.isNone) w:=by
 cases ao <;> kernel_rfl
set_option maxHeartbeats 1000000 in
theorem clone_nil (n c:Nat) (w:World):Calls Tryz.prog 127 #[.slice none n c] w fun e w' => e=.returned (.slice none 0 0)∧w' = w:=by
 have he:=eql_slice
 go_enter Tryz.func127,Tryz.ntmps127
 go_wp2
 go_ret
 exact ⟨rfl,rfl⟩
set_option maxHeartbeats 1000000 in
theorem clone_some (a:Addr) (n c:Nat) (xs:List Value) (w:World) (hl:xs.length=n * 3) (hc:∀ j u,xs[j]? = some u→w.cell? (a.add j)=some u) (h1:∀ u∈xs,u.oneCell' = true) (hn:n≤64) :
  Calls Tryz.prog 127 #[.slice (some a) n c] w fun e w' => ∃ v,e=.returned v∧w'.ownsRow w.heap.size 82 3 v n xs∧Kept (fun _=>False) w w' := by
 have he:=eql_slice
 obtain ⟨i0,hi0,hz0,hz1,hz2⟩:=info_parts info_Symbol
 go_enter Tryz.func127,Tryz.ntmps127
 have hown:(w.alloc (.cells #[] 82)).ownsRow w.heap.size 82 3 (.slice (some ⟨w.heap.size,0,none⟩) 0 0) 0 []:=World.ownsRow_made w #[] 0 (Nat.le_refl _) (by simp) (by simp)
 have hnews:∀ j u,xs[j]? = some u→(w.alloc (.cells #[] 82)).cell? (a.add j)=some u:=fun j u hu=>by
  have h:=hc j u hu
  rw [Kept.cell ((Kept.refl (fun _=>False) w).alloc _) (World.block_lt_of_cell? w _ h) (fun f=>f)]
  exact h
 have b1:0+n≤maxLen:=by unfold maxLen;omega
 have b2:(0+n) * 32≤140737488355328:=by omega
 have b3:w.heap.size≤(w.alloc (.cells #[] 82)).heap.size:=by simp
 go_wp2_with (first | (at_builtin;refine wpList_append_own _ rfl _ _ 36 rfl w.heap.size 82 i0 _ 3 32 Tryz.underlying36 hi0 hz0 hz1 hz2 rfl (by omega) (.slice (some ⟨w.heap.size,0,none⟩) 0 0) 0 [] rfl hown a n c xs rfl hl hnews h1 b1 b2 b3 ?_;intro v' w1 hown1 hgrow _))
 go_ret
 refine ⟨v', rfl,by simpa using hown1,?_⟩
 exact Kept.grown (Kept.alloc (Kept.refl _ w) _) hgrow (fun k e hk=>by simp only [Value.ownBlock,Option.some.injEq] at e;omega)
theorem clone_any {w:World} {v:Value} {L:List Sym} {base:Nat} (hr:w.ownsRow base 82 3 v L.length (symCells L)) (hn:L.length≤64) :
  Calls Tryz.prog 127 #[v] w fun e w' => ∃ v', e=.returned v' ∧ w'.ownsRow w.heap.size 82 3 v' L.length (symCells L)∧Kept (fun _=>False) w w' := by
 rcases hr.2 with ⟨rfl,h0⟩ | ⟨g,cap,cur,rfl,_⟩
 ·refine (clone_nil 0 0 w).mono ?_
  rintro e w' ⟨rfl,rfl⟩
  obtain rfl:L=[]:=List.eq_nil_of_length_eq_zero h0
  exact ⟨_,rfl,World.ownsRow_nil _ _ _ _,Kept.refl _ _⟩
 ·exact clone_some _ _ _ _ w (symCells_length L) (hr.cells rfl) (by
   intro u hu
   simp only [symCells,List.mem_flatMap] at hu
   obtain ⟨x,_,hx⟩:=hu
   simp at hx
   rcases hx with rfl | rfl | rfl <;> rfl) hn
theorem run_typeAssert_map (t xT k e:TypeId) (v:Value) (w:World) (h:Tryz.prog.underlying t=some (.map k e)):(Instr.typeAssert (.iface t v) xT t false).run Tryz.prog w=.ok v w:=by
 simp [Instr.typeAssert,run_underlying h,go_sem,Result.andThen]
theorem run_mclone {r:Nat} {es:Array MapEntry} {clock:Nat} (t:TypeId) (w:World) (hb:w.heap[r]? = some (.map es clock)) :
  (Extern.MapsClone.clone #[.iface t (.map (some r))]).run Tryz.prog w=.ok (.iface t (.map (some w.heap.size))) (w.alloc (.map es clock)):=by
 refine (Sem.run_bind _ _ _ _).trans ?_
 simp [MapKept.run_getObj_map hb,Result.andThen,go_sem]
set_option maxHeartbeats 2000000 in
theorem mclone_some (b:Nat) (es:Array MapEntry) (clock:Nat) (w:World) (hb:w.heap[b]? = some (.map es clock)) :
  Calls Tryz.prog 128 #[.map (some b)] w fun e w' => e=.returned (.map (some w.heap.size))∧w' = w.alloc (.map es clock):=by
 have hq:=fun w=>eql_map (some b) w
 go_enter Tryz.func128,Tryz.ntmps128
 go_wp2
 rw [run_callFunc_extern Tryz.func166 (by kernel_rfl) (by kernel_rfl) (by kernel_rfl) (e:=Extern.MapsClone.clone) (by kernel_rfl),run_mclone 154 w hb]
 simp only [Result.andThen]
 rw [Oper.upon_value]
 go_wp2
 rw [run_typeAssert_map 154 _ _ _ _ _ Tryz.underlying154]
 simp only [Result.andThen]
 rw [Oper.upon_value]
 go_wp2
 go_ret
 exact ⟨rfl,rfl⟩
set_option maxHeartbeats 2000000 in
theorem mclone_nil (w:World):Calls Tryz.prog 128 #[.map none] w fun e w' => e=.returned (.map none)∧w' = w:=by
 have hq:=fun w=>eql_map none w
 go_enter Tryz.func128,Tryz.ntmps128
 go_wp2
 go_ret
 exact ⟨rfl,rfl⟩
theorem mclone_any {w:World} {mr:Option Nat} {L:List Sym} (h:MapIs w mr L) :
  Calls Tryz.prog 128 #[.map mr] w fun e w' => ∃ mr', e=.returned (.map mr')∧MapIs w' mr' L∧(∀ k,mr' = some k→k=w.heap.size∧w.heap.size<w'.heap.size)∧Kept (fun _=>False) w w' := by
 cases mr with
 | none=>
  refine (mclone_nil w).mono ?_
  rintro e w' ⟨rfl,rfl⟩
  exact ⟨none,rfl,h,by simp,Kept.refl _ _⟩
 | some bm=>
  obtain ⟨n,D,⟨es,clock,hb,hF⟩,hn,hall⟩:=h
  refine (mclone_some bm es clock w hb).mono ?_
  rintro e w' ⟨rfl,rfl⟩
  exact ⟨some w.heap.size,rfl,⟨n,D,⟨es,clock,heap_alloc_new w _,hF⟩,hn,hall⟩,fun k e=>⟨by simpa using e.symm,by simp⟩,Kept.alloc (Kept.refl _ w) _⟩
theorem SigAt.c0 {w:World} {b:Nat} {L:List Sym} {sv:Value} {mr:Option Nat} (h:SigAt w b L sv mr):w.cell? ⟨b,0,none⟩=some sv:=cellAt h.blk 0
theorem SigAt.c1 {w:World} {b:Nat} {L:List Sym} {sv:Value} {mr:Option Nat} (h:SigAt w b L sv mr):w.cell? ⟨b,1,none⟩=some (.map mr):=cellAt h.blk 1
def Copied (w:World) (L:List Sym) (b' : Nat) (w' : World):Prop:=∃ sv mr,SigAt w' b' L sv mr∧(∀ k,Foot b' sv mr k→w.heap.size≤k)∧Kept (fun _=>False) w w'
theorem copied_of {w w1 w2:World} {L:List Sym} {v' : Value} {mr' : Option Nat} (hn:L.length≤64) (hnm:∀ x∈L,nameB x.name=true) (hr:w2.ownsRow w.heap.size 82 3 v' L.length (symCells L)) (hm:MapIs w2 mr' L) (hmk:∀ k,mr' = some k→w.heap.size≤k∧k<w2.heap.size) (hk:Kept (fun _=>False) w w2) (_e:w1=w2) :
  Copied w L w2.heap.size (w2.alloc (.cells #[v', .map mr'] 156)):=by
 have ha:Kept (fun _=>False) w2 (w2.alloc (.cells #[v', .map mr'] 156)):=Kept.alloc (Kept.refl _ _) _
 have hr' := ha.row hr (fun _ _ f=>f)
 refine ⟨v', mr', ⟨heap_alloc_new w2 _,row_mono hr' (Nat.zero_le _),hm.kept ha (fun _ _ f=>f),fun e=>?_,hn,hnm⟩,fun k hk' => ?_,hk.trans ha (fun _ _ f=>f)⟩
 ·have:=(hr.lt _ e).2;omega
 ·rcases hk' with e | e | e
  ·have:=hk.size;omega
  ·exact (hr.lt k e).1
  ·exact (hmk k e).1
set_option maxHeartbeats 2000000 in
theorem copy_any {w:World} {b:Nat} {L:List Sym} {sv:Value} {mr:Option Nat} (hs:SigAt w b L sv mr) :
  Calls Tryz.prog 92 #[.pointer (some ⟨b,0,none⟩)] w fun e w' => ∃ b', e=.returned (.pointer (some ⟨b', 0,none⟩))∧b' < w'.heap.size∧Copied w L b' w' := by
 have hsD:SigAt w.drew b L sv mr:=hs.kept (Kept.drew (Kept.refl (fun _=>False) w)) (fun _ _ f=>f)
 have q0:=hs.c0
 have q1:=hs.c1
 have hlen:=hs.len
 go_enter Tryz.func92,Tryz.ntmps92
 go_wp2_with fail
 go_region_with (first
  | (go_at_call 127;refine (clone_any (L:=L) (base:=0) (by first | exact hsD.row | exact hsB.row) hlen).mono ?_;rintro e w1 ⟨v', rfl,hv', hkv⟩;obtain ⟨ao,cp,rfl⟩:=row_shape hv'; have hsA:SigAt w1 b L sv mr:=(by first | exact hsB.kept hkv (fun _ _ f=>f) | exact hsD.kept hkv (fun _ _ f=>f));have qa:=hsA.c1)
  | (go_at_call 128;refine (mclone_any (L:=L) (by first | exact hsD.map | exact hsA.map)).mono ?_;rintro e w2 ⟨mr', rfl,hm', hmk,hkm⟩;have hsB:SigAt w2 b L sv mr:=(by first | exact hsA.kept hkm (fun _ _ f=>f) | exact hsD.kept hkm (fun _ _ f=>f));have qb:=hsB.c0))
 all_goals
  go_wp2
  go_ret
  exact ⟨_,rfl,by simp,copied_of hlen hs.names (hkm.row hv' (fun _ _ f=>f)) hm' (fun k e=>⟨by have h1:=(hmk k e).1;have h2:=hkv.size;simp at h2;omega,by have h1:=hmk k e;omega⟩) ((Kept.drew (Kept.refl _ w)).trans (hkv.trans hkm (fun _ _ f=>f)) (fun _ _ f=>f)) rfl⟩
end Go.Proofs.YtdhiiicppcgkbaaGreat
namespace Go.Proofs.YtdhiiicppcgkbaaGreat
set_option maxRecDepth 100000
set_option linter.unusedVariables false
open Go.RowKit
attribute [local go_sem ↓] Go.wp_at_zero Go.wp_at_succ
set_option maxHeartbeats 2000000 in
theorem ssig_any {w:World} {b bs:Nat} {L:List Sym} {R:List Ru} {lv:Value} {vs:List Value} (h:StAt w b bs L R lv vs) :
  Calls Tryz.prog 50 #[.pointer (some ⟨b,0,none⟩)] w fun e w' => ∃ b', e=.returned (.pointer (some ⟨b', 0,none⟩))∧b' < w'.heap.size∧Copied w L b' w' := by
 have c0:=cellAt h.blk 0
 obtain ⟨⟨sv,mr,hsg,_⟩,_⟩:=h.sig
 have C:=copy_any hsg
 simp only [List.getElem?_toArray,List.getElem?_cons_zero] at c0
 clear h hsg
 go_enter Tryz.func50,Tryz.ntmps50
 go_wp2_with (first | (go_at_call 92;refine C.mono ?_;rintro e w1 ⟨b', rfl,hb,hc⟩))
 go_ret
 exact ⟨b', rfl,hb,hc⟩
end Go.Proofs.YtdhiiicppcgkbaaGreat
