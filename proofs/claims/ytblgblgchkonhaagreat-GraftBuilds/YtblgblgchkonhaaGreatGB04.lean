import Derived.Test.YtblgblgchkonhaaGreatGB03
import Derived.SizedLaws
import Derived.Deep.AppendLies
import Derived.Test.YtblgblgchkonhaaGreatGB02
import Derived.Laws.AppendOwnNone
namespace Go.Proofs.YtblgblgchkonhaaGreat
set_option maxRecDepth 100000
set_option linter.unusedVariables false
open Go.RowKit
attribute [local go_sem ↓] Go.wp_at_zero Go.wp_at_succ
theorem ArgT.nil (w:World):ArgT w none [] 0:=⟨⟨.inl rfl,Nat.le_refl _,fun _=>⟨rfl,rfl⟩,by simp⟩,fun a e=>by cases e⟩
abbrev indN (t:Nat):Nd:=(0,[],0,true,(t:Int))
theorem may_ind {n t:Nat} (h:t<n):mayB n (indN t)=true:=by
 unfold mayB
 simp;omega
theorem HpB.pointed {B:Nat→Prop} {w:World} {h g room:Nat} {l:List Nd} (p:HpB B w h g room l) {i t:Nat} (hi:i<l.length) (ht:t<l.length) (hn:¬ Rc l t i) :
  HpB B (put5 w g (i * 5) (.int .i64 0) (.slice none 0 0) (.int .i64 0) (.bool true) (.int .i64 (t:Int))) h g room (l.set i (indN t))∧Kept (fun k=>k=g) w (put5 w g (i * 5) (.int .i64 0) (.slice none 0 0) (.int .i64 0) (.bool true) (.int .i64 (t:Int))):=by
 have hle:=p.le
 obtain ⟨q1,q2,q3⟩:=put5_nodes (B' := B) (i:=i) (x:=indN t) (ao:=none) (ac:=0) p.blk p.each (by omega) (ArgT.nil w) (fun a e=>by cases e) (fun k e=>e)
 have K:=put5_kept w g (i * 5) (.int .i64 0) (.slice none 0 0) (.int .i64 0) (.bool true) (.int .i64 (t:Int))
 refine ⟨⟨by rw [List.length_set];exact K.at p.box p.ne,q2,p.rm1,p.rm2,by simpa using hle,fun j hj=>?_,?_,?_⟩,K⟩
 ·have hj' : j<l.length:=by simpa using hj
  by_cases e:j=i
  ·subst e;rw [List.getElem_set_self];exact q1
  ·rw [List.getElem_set_ne (by omega)];exact q3 j hj' e
 ·intro x hx
  rw [List.length_set]
  rcases List.mem_or_eq_of_mem_set hx with e | e
  ·exact p.may x e
  ·subst e;exact may_ind ht
 ·refine p.ac.point hn _ (fun j hj=>?_)
  unfold downL at hj
  simp at hj
  omega
abbrev I64 (c:Int):Prop:=-9223372036854775808≤c∧c<9223372036854775808
abbrev Hp (w:World) (h g room:Nat) (l:List Nd):Prop:=HpB (fun _=>True) w h g room l
theorem HpB.any {B:Nat→Prop} {w:World} {h g room:Nat} {l:List Nd} (p:HpB B w h g room l):Hp w h g room l:=p.mono (fun _ _ _ _=>trivial)
theorem arg_one (w:World) (z:Int):Arg (w.alloc (.cells #[.int .i64 z] 3)) (some ⟨w.heap.size,0,none⟩) [z] 1:=⟨ints_one w z,Nat.le_refl _,(fun e=>by cases e),by simp⟩
theorem Same0.heap {w w1 w2:World} (k:Same0 w w1) {h g:Nat} (hh:w.heap.size≤h) (hg:w.heap.size≤g) (k2:Kept (fun k=>k=h∨k=g) w1 w2):Same0 w w2:=k.trans k2 (fun i hi e=>by omega)
end Go.Proofs.YtblgblgchkonhaaGreat
namespace Go.Proofs.YtblgblgchkonhaaGreat
set_option maxRecDepth 100000
set_option linter.unusedVariables false
open Go.RowKit Go.Deep
theorem i64_wf {n:Int} (h:(Lit.int .i64 n).wf=true):I64 n:=by
 have h1:(IntKind.i64.min≤n)∧n≤IntKind.i64.max:=by simpa [Lit.wf] using h
 have e1:IntKind.i64.min = -9223372036854775808:=by decide
 have e2:IntKind.i64.max=9223372036854775807:=by decide
 omega
abbrev Raw4:=Int × Int × Int × Int
def Raw4.ok (x:Raw4):Prop:=I64 x.1∧I64 x.2.1∧I64 x.2.2.1∧I64 x.2.2.2
def RawsAt (w:World) (ro:Option Addr) (rs:List Raw4):Prop:=
 rs=[]∨∃ b off,ro=some ⟨b,off,none⟩∧b<w.heap.size∧∀ i (h:i<rs.length),w.cell? ⟨b,off+i * 4,none⟩=some (.int .i64 rs[i].1)∧w.cell? ⟨b,off+i * 4+1,none⟩=some (.int .i64 rs[i].2.1)∧w.cell? ⟨b,off+i * 4+2,none⟩=some (.int .i64 rs[i].2.2.1)∧w.cell? ⟨b,off+i * 4+3,none⟩=some (.int .i64 rs[i].2.2.2)
theorem RawsAt.same {w w' : World} {ro:Option Addr} {rs:List Raw4} (h:RawsAt w ro rs) (hk:Same0 w w'):RawsAt w' ro rs:=by
 refine h.imp id ?_
 rintro ⟨b,off,rfl,hlt,hc⟩
 refine ⟨b,off,rfl,Nat.lt_of_lt_of_le hlt hk.size,fun i hi=>?_⟩
 obtain ⟨h0,h1,h2,h3⟩:=hc i hi
 exact ⟨(hk.cell (p:=⟨b,off+i * 4,none⟩) hlt (fun f=>f)).trans h0,(hk.cell (p:=⟨b,off+i * 4+1,none⟩) hlt (fun f=>f)).trans h1,(hk.cell (p:=⟨b,off+i * 4+2,none⟩) hlt (fun f=>f)).trans h2,(hk.cell (p:=⟨b,off+i * 4+3,none⟩) hlt (fun f=>f)).trans h3⟩
theorem RawsAt.get {w:World} {ro:Option Addr} {rs:List Raw4} (h:RawsAt w ro rs) {i:Nat} (hi:i<rs.length):∃ b off,ro=some ⟨b,off,none⟩∧w.cell? ⟨b,off+i * 4,none⟩=some (.int .i64 rs[i].1)∧w.cell? ⟨b,off+i * 4+1,none⟩=some (.int .i64 rs[i].2.1)∧w.cell? ⟨b,off+i * 4+2,none⟩=some (.int .i64 rs[i].2.2.1)∧w.cell? ⟨b,off+i * 4+3,none⟩=some (.int .i64 rs[i].2.2.2):=by
 rcases h with rfl | ⟨b,off,e,hlt,hc⟩
 ·simp at hi
 ·exact ⟨b,off,e,hc i hi⟩
section
variable {H : Type} {enc : TypeId × Value → H} {w : World} {spare : Nat → Bool} {held : Bool}
theorem open_ints64 {t fuel:Nat} {ao:Option Addr} {len cap:Nat} {x:DataW H × List MemPlace} (ht:Tryz.prog.underlying t=some (.slice 3)) (h:DataW.trod enc Tryz.prog w 0 spare held fuel t [.slice ao len cap]=some x) (hw:∀ n∈x.1.weights Tryz.prog t,n≤reachBytes) :
  ∃ xs:List Int,xs.length=len∧Arg w ao xs cap∧∀ z∈xs,I64 z:=by
 obtain ⟨ao', cap', xs,e,ha⟩:=open_ints ht h hw
 simp only [List.cons.injEq,Value.slice.injEq,and_true] at e
 obtain ⟨rfl,rfl,rfl⟩:=e
 refine ⟨xs,rfl,ha,fun z hz=>?_⟩
 obtain ⟨i,hi,rfl⟩:=List.mem_iff_getElem.1 hz
 obtain ⟨b,off,e,hlt,hc⟩:=ha.at'.get hi
 rcases open_elems ht cells_int (by omega) h with ⟨e1,_,_⟩ | ⟨a', e1,hl1,hl2,hall⟩
 ·rw [e] at e1;cases e1
 ·rw [e] at e1
  cases e1
  obtain ⟨_,_,cs,n,y,hl,hcell,hy⟩:=hall i hi
  obtain ⟨z,e2,_,wf⟩:=DataW.trod_int Tryz.underlying3 hy
  subst e2
  have q:=hcell 0 (by omega)
  simp at q
  rw [hc] at q
  simp at q
  rw [q]
  exact i64_wf wf
end
end Go.Proofs.YtblgblgchkonhaaGreat
namespace Go.Proofs.YtblgblgchkonhaaGreat
set_option maxRecDepth 100000
set_option linter.unusedVariables false
open Go.RowKit
attribute [local go_sem ↓] Go.wp_at_zero Go.wp_at_succ
def FullL (l:List Nd):Prop:=∀ j (h:j<l.length),l[j].2.2.2.1=false∧(1≤j→∃ t,l[j].2.1=[(j:Int)-1,t])
theorem FullL.snoc {l:List Nd} (h:FullL l) {s:Int} {xs:List Int} (hx:1≤l.length→∃ t,xs=[(l.length:Int)-1,t]):FullL (l ++ [(s,xs,0,false,0)]):=by
 intro j hj
 by_cases e:j<l.length
 ·rw [List.getElem_append_left e];exact h j e
 ·obtain rfl:j=l.length:=by simp at hj;omega
  simp
  exact hx
def NCl (B:Nat→Prop) (w:World) (vs:List Value) (l:List Nd):Prop:=
 vs.length=l.length * 5∧∀ i (h:i<l.length),∃ ao ac,vs[i * 5]? = some (.int .i64 l[i].1)∧vs[i * 5+1]? = some (.slice ao l[i].2.1.length ac)∧vs[i * 5+2]? = some (.int .i64 l[i].2.2.1)∧vs[i * 5+3]? = some (.bool l[i].2.2.2.1)∧vs[i * 5+4]? = some (.int .i64 l[i].2.2.2.2)∧ArgT w ao l[i].2.1 ac∧∀ a,ao=some a→B a.block
theorem NCl.nil (B:Nat→Prop) (w:World):NCl B w [] []:=⟨rfl,fun i h=>absurd h (Nat.not_lt_zero _)⟩
theorem NCl.kept {B S:Nat→Prop} {w w' : World} {vs:List Value} {l:List Nd} (h:NCl B w vs l) (hk:Kept S w w') (hS:∀ k,B k→S k→NotI w k):NCl B w' vs l:=by
 refine ⟨h.1,fun i hi=>?_⟩
 obtain ⟨ao,ac,h0,h1,h2,h3,h4,h5,h6⟩:=h.2 i hi
 refine ⟨ao,ac,h0,h1,h2,h3,h4,h5.kept' hk (fun a e s=>?_),h6⟩
 obtain ⟨cur,hc⟩:=h5.2 a e
 exact hS _ (h6 a e) s cur hc
theorem NCl.mono {B B' : Nat→Prop} {w:World} {vs:List Value} {l:List Nd} (h:NCl B w vs l) (hB:∀ k,k<w.heap.size→B k→B' k):NCl B' w vs l:=by
 refine ⟨h.1,fun i hi=>?_⟩
 obtain ⟨ao,ac,h0,h1,h2,h3,h4,h5,h6⟩:=h.2 i hi
 exact ⟨ao,ac,h0,h1,h2,h3,h4,h5,fun a e=>hB _ (h5.lt e) (h6 a e)⟩
theorem NCl.same {B:Nat→Prop} {w w' : World} {vs:List Value} {l:List Nd} (h:NCl B w vs l) (hk:Same0 w w'):NCl B w' vs l:=h.kept hk (fun _ _ f=>f.elim)
theorem NCl.snoc {B:Nat→Prop} {w:World} {vs:List Value} {l:List Nd} (h:NCl B w vs l) {x:Nd} {ao:Option Addr} {ac:Nat} (ha:ArgT w ao x.2.1 ac) (hb:∀ a,ao=some a→B a.block):NCl B w (vs ++ [.int .i64 x.1,.slice ao x.2.1.length ac,.int .i64 x.2.2.1,.bool x.2.2.2.1,.int .i64 x.2.2.2.2]) (l ++ [x]):=by
 refine ⟨by simp [h.1];omega,fun i hi=>?_⟩
 by_cases e:i<l.length
 ·rw [List.getElem_append_left e]
  obtain ⟨ao,ac,h0,h1,h2,h3,h4,h5,h6⟩:=h.2 i e
  have hl:=h.1
  exact ⟨ao,ac,by rw [List.getElem?_append_left (by omega)];exact h0,by rw [List.getElem?_append_left (by omega)];exact h1,by rw [List.getElem?_append_left (by omega)];exact h2,by rw [List.getElem?_append_left (by omega)];exact h3,by rw [List.getElem?_append_left (by omega)];exact h4,h5,h6⟩
 ·obtain rfl:i=l.length:=by simp at hi;omega
  have hl:=h.1
  have t:∀ j,(vs ++ [.int .i64 x.1,.slice ao x.2.1.length ac,.int .i64 x.2.2.1,.bool x.2.2.2.1,.int .i64 x.2.2.2.2])[l.length * 5+j]? = [Value.int .i64 x.1,.slice ao x.2.1.length ac,.int .i64 x.2.2.1,.bool x.2.2.2.1,.int .i64 x.2.2.2.2][j]? := fun j=>by
   rw [List.getElem?_append_right (by omega),hl,Nat.add_sub_cancel_left]
  simp only [List.getElem_append_right (Nat.le_refl _),Nat.sub_self,List.getElem_cons_zero]
  exact ⟨ao,ac,t 0,t 1,t 2,t 3,t 4,ha,hb⟩
def NRow (B:Nat→Prop) (base:Nat) (w:World) (v:Value) (l:List Nd):Prop:=∃ vs,w.ownsRow base 76 5 v l.length vs∧NCl B w vs l
theorem NRow.nil (B:Nat→Prop) (base:Nat) (w:World):NRow B base w (.slice none 0 0) []:=⟨[],World.ownsRow_nil _ _ _ _,NCl.nil B w⟩
theorem NRow.kept {B S:Nat→Prop} {base:Nat} {w w' : World} {v:Value} {l:List Nd} (h:NRow B base w v l) (hk:Kept S w w') (hn:∀ k,v.ownBlock=some k→¬ S k) (hS:∀ k,B k→S k→NotI w k):NRow B base w' v l:=by
 obtain ⟨vs,h1,h2⟩:=h
 exact ⟨vs,hk.row h1 hn,h2.kept hk hS⟩
theorem NRow.same {B:Nat→Prop} {base:Nat} {w w' : World} {v:Value} {l:List Nd} (h:NRow B base w v l) (hk:Same0 w w'):NRow B base w' v l:=h.kept hk (fun _ _ f=>f) (fun _ _ f=>f.elim)
theorem NRow.shape {B:Nat→Prop} {base:Nat} {w:World} {v:Value} {l:List Nd} (h:NRow B base w v l):∃ ao cap,v=.slice ao l.length cap:=by
 obtain ⟨vs,h1,_⟩:=h
 exact row_shape h1
theorem NRow.block {B:Nat→Prop} {base:Nat} {w:World} {v:Value} {l:List Nd} (h:NRow B base w v l) {k:Nat} (e:v.ownBlock=some k):base≤k∧k<w.heap.size∧NotI w k:=by
 obtain ⟨vs,h1,_⟩:=h
 rcases h1.2 with ⟨rfl,_⟩ | ⟨g,cap,cur,rfl,hb,hg,_⟩
 ·cases e
 ·obtain rfl:g=k:=Option.some.inj e
  exact ⟨hb,lt_of_at hg,fun c hc=>by rw [hg] at hc;cases hc⟩
def NsM (B:Nat→Prop) (w:World) (ao:Option Addr) (l:List Nd):Prop:=l=[]∨∃ b off,ao=some ⟨b,off,none⟩∧b<w.heap.size∧∀ i (hi:i<l.length),NdC B w b (off+i * 5) l[i]
theorem NsM.same {B:Nat→Prop} {w w' : World} {ao:Option Addr} {l:List Nd} (h:NsM B w ao l) (hk:Same0 w w'):NsM B w' ao l:=by
 refine h.imp id ?_
 rintro ⟨b,off,rfl,hlt,hc⟩
 exact ⟨b,off,rfl,Nat.lt_of_lt_of_le hlt hk.size,fun i hi=>(hc i hi).kept hlt hk (fun f=>f) (fun _ _ f=>f.elim)⟩
theorem NRow.mem {B:Nat→Prop} {base:Nat} {w:World} {ao:Option Addr} {cap:Nat} {l:List Nd} (h:NRow B base w (.slice ao l.length cap) l):NsM B w ao l:=by
 obtain ⟨vs,h1,h2⟩:=h
 by_cases e:l=[]
 ·exact .inl e
 ·have h1' := h1
  rcases h1.2 with ⟨q,h0⟩ | ⟨g,cap', cur,q,hb,hg,_⟩
  ·exact absurd (List.eq_nil_of_length_eq_zero h0) e
  ·cases q
   refine .inr ⟨g,0,rfl,lt_of_at hg,fun i hi=>?_⟩
   obtain ⟨ao,ac,g0,g1,g2,g3,g4,g5,g6⟩:=h2.2 i hi
   have t:∀ j u,vs[j]? = some u→w.cell? ⟨g,j,none⟩=some u:=fun j u hj=>by
    have:=h1'.cells (g:=g) rfl j u hj
    by_cases q:j=0
    ·subst q;simpa [Addr.add] using this
    ·simpa [Addr.add,q] using this
   rw [Nat.zero_add]
   exact ⟨ao,ac,t _ _ g0,t _ _ g1,t _ _ g2,t _ _ g3,t _ _ g4,g5,g6⟩
theorem wpList_nd {w0 W:World} {ops:Array Oper} {rest:List Oper} {o:Oper} {a:Act} {Q:Exit→Act→World→Prop} (hgd:o.guard=none) (s x:Operand)
  (ho:o.op=.call { callee:=.builtin .append,args:=#[s,x],argTypes:=#[23,23] })
  {B:Nat→Prop} (base:Nat) (l:List Nd) (v:Value) (hs:a.eval s=v) (hW:Same0 w0 W) (hr:NRow B base w0 v l) (y:Nd) (ao:Option Addr) (ac:Nat) (q:Nat) (hx:a.eval x=.slice (some ⟨q,0,none⟩) 1 1) (hq:W.heap[q]? = some (.cells #[.int .i64 y.1,.slice ao y.2.1.length ac,.int .i64 y.2.2.1,.bool y.2.2.2.1,.int .i64 y.2.2.2.2] 76 (0,0))) (ha:ArgT w0 ao y.2.1 ac) (hba:∀ b,ao=some b→B b.block) (hb:base≤w0.heap.size) (hsz:(l.length+1) * 56≤140737488355328)
  (h:∀ g cap w', NRow B base w' (.slice (some ⟨g,0,none⟩) (l.length+1) cap) (l ++ [y])→Kept (fun k=>v.ownBlock=some k) w0 w' → (v.ownBlock=some g∨W.heap.size≤g)→wpList Tryz.prog ops Q rest (a.put o.dst (.slice (some ⟨g,0,none⟩) (l.length+1) cap)) w') :
  wpList Tryz.prog ops Q (o :: rest) a W:=by
 obtain ⟨i,hi,hz0,hz1,hz2⟩:=info_parts info_node
 obtain ⟨vs,h1,h2⟩:=hr
 have nb:∀ k,v.ownBlock=some k→NotI w0 k:=fun k e=>(NRow.block ⟨vs,h1,h2⟩ e).2.2
 refine wpList_append_lies _ hgd s x 23 ho base 76 i _ 5 56 Tryz.underlying23 hi hz0 hz1 hz2 rfl (by decide) v l.length vs hs (hW.row h1 (fun _ _ f=>f)) ⟨q,0,none⟩ 1 1 [.int .i64 y.1,.slice ao y.2.1.length ac,.int .i64 y.2.2.1,.bool y.2.2.2.1,.int .i64 y.2.2.2.2] hx rfl (World.news_of_block (cs:=#[.int .i64 y.1,.slice ao y.2.1.length ac,.int .i64 y.2.2.1,.bool y.2.2.2.1,.int .i64 y.2.2.2.2]) (t:=76) (fr:=(0,0)) hq) (by intro u hu;simp at hu;rcases hu with rfl | rfl | rfl | rfl | rfl <;> rfl) (by omega) (by unfold maxLen;omega) (by omega) (Nat.le_trans hb hW.size) W.heap.size rfl ?_
 intro g cap w' hown hgrow hat hlt
 have K:Kept (fun k=>v.ownBlock=some k) w0 w' := Kept.grown (Kept.mono hW (fun _ _ f=>f.elim)) hgrow (fun _ e _=>e)
 refine h g cap w' ⟨_,by rw [List.length_append];exact hown,?_⟩ K (hat.imp id (fun e=>by omega))
 exact (h2.kept K (fun k _ e=>nb k e)).snoc (ha.kept K (fun k e=>nb k e)) hba
theorem box_node' (w:World) (x:Nd) (ao:Option Addr) (ac:Nat) {ww:World} (hk:Same0 (w.alloc (.cells #[.int .i64 x.1,.slice ao x.2.1.length ac,.int .i64 x.2.2.1,.bool x.2.2.2.1,.int .i64 x.2.2.2.2] 76)) ww) :
  ww.cell? ⟨w.heap.size,0,none⟩=some (.int .i64 x.1)∧ww.cell? ⟨w.heap.size,1,none⟩=some (.slice ao x.2.1.length ac)∧ww.cell? ⟨w.heap.size,2,none⟩=some (.int .i64 x.2.2.1)∧ww.cell? ⟨w.heap.size,3,none⟩=some (.bool x.2.2.2.1)∧ww.cell? ⟨w.heap.size,4,none⟩=some (.int .i64 x.2.2.2.2):=
 box5 (hk.at0 (heap_alloc_new w _))
theorem heap_at_node (w:World) (x:Nd) (ao:Option Addr) (ac:Nat):(w.alloc (.cells #[.int .i64 x.1,.slice ao x.2.1.length ac,.int .i64 x.2.2.1,.bool x.2.2.2.1,.int .i64 x.2.2.2.2] 76)).heap[w.heap.size]? = some (.cells #[.int .i64 x.1,.slice ao x.2.1.length ac,.int .i64 x.2.2.1,.bool x.2.2.2.1,.int .i64 x.2.2.2.2] 76 (0,0)):=heap_alloc_new w _
theorem NRow.onto {B:Nat→Prop} {w w0 w' : World} {v:Value} {l:List Nd} (h:Same0 w w0) (hr:NRow B w.heap.size w0 v l) (hk:Kept (fun k=>v.ownBlock=some k) w0 w'):Same0 w w' :=
 h.trans hk (fun i hi e=>by have:=(hr.block e).1;omega)
end Go.Proofs.YtblgblgchkonhaaGreat
namespace Go.Proofs.YtblgblgchkonhaaGreat
set_option maxRecDepth 100000
set_option linter.unusedVariables false
open Go.RowKit
theorem Arg.onto {w w' : World} {ao:Option Addr} {xs:List Int} {cap:Nat} (h:Arg w ao xs cap) (hk:Same0 w w'):Arg w' ao xs cap:=⟨h.at'.same hk,h.cap', h.nil,h.size⟩
theorem IntsAt.lt {w:World} {ao:Option Addr} {xs:List Int} (h:IntsAt w ao xs) (h0:xs≠[]) {a:Addr} (e:ao=some a):a.block<w.heap.size:=by
 rcases h with q | ⟨b,off,rfl,hlt,_⟩
 ·exact absurd q h0
 ·cases e;exact hlt
def NsW (w:World) (ao:Option Addr) (l:List Nd):Prop:=l=[]∨∃ nb noff,ao=some ⟨nb,noff,none⟩∧nb<w.heap.size∧∀ j (hj:j<l.length),∃ xo xc,w.cell? ⟨nb,noff+j * 5,none⟩=some (.int .i64 l[j].1)∧w.cell? ⟨nb,noff+j * 5+1,none⟩=some (.slice xo l[j].2.1.length xc)∧w.cell? ⟨nb,noff+j * 5+2,none⟩=some (.int .i64 l[j].2.2.1)∧w.cell? ⟨nb,noff+j * 5+3,none⟩=some (.bool l[j].2.2.2.1)∧w.cell? ⟨nb,noff+j * 5+4,none⟩=some (.int .i64 l[j].2.2.2.2)∧Arg w xo l[j].2.1 xc
theorem NsM.weak {B:Nat→Prop} {w:World} {ao:Option Addr} {l:List Nd} (h:NsM B w ao l):NsW w ao l:=by
 refine h.imp id ?_
 rintro ⟨b,off,rfl,hlt,hc⟩
 refine ⟨b,off,rfl,hlt,fun j hj=>?_⟩
 obtain ⟨xo,xc,n0,n1,n2,n3,n4,n5, -⟩:=hc j hj
 exact ⟨xo,xc,n0,n1,n2,n3,n4,n5.1⟩
theorem NsW.same {w w' : World} {ao:Option Addr} {l:List Nd} (h:NsW w ao l) (hk:Same0 w w'):NsW w' ao l:=by
 refine h.imp id ?_
 rintro ⟨nb,noff,rfl,hlt,hc⟩
 have t:∀ o,w'.cell? ⟨nb,o,none⟩=w.cell? ⟨nb,o,none⟩:=fun o=>hk.cell (p:=⟨nb,o,none⟩) hlt (fun f=>f)
 refine ⟨nb,noff,rfl,Nat.lt_of_lt_of_le hlt hk.size,fun j hj=>?_⟩
 obtain ⟨xo,xc,n0,n1,n2,n3,n4,n5⟩:=hc j hj
 exact ⟨xo,xc,(t _).trans n0,(t _).trans n1,(t _).trans n2,(t _).trans n3,(t _).trans n4,⟨n5.at'.same hk,n5.cap', n5.nil,n5.size⟩⟩
def NsV (P:Nat→Prop) (w:World) (ao:Option Addr) (l:List Nd):Prop:=l=[]∨∃ nb noff,ao=some ⟨nb,noff,none⟩∧nb<w.heap.size∧P nb∧∀ j (hj:j<l.length),∃ xo xc,w.cell? ⟨nb,noff+j * 5,none⟩=some (.int .i64 l[j].1)∧w.cell? ⟨nb,noff+j * 5+1,none⟩=some (.slice xo l[j].2.1.length xc)∧w.cell? ⟨nb,noff+j * 5+2,none⟩=some (.int .i64 l[j].2.2.1)∧w.cell? ⟨nb,noff+j * 5+3,none⟩=some (.bool l[j].2.2.2.1)∧w.cell? ⟨nb,noff+j * 5+4,none⟩=some (.int .i64 l[j].2.2.2.2)∧Arg w xo l[j].2.1 xc∧(l[j].2.1≠[]→∀ a,xo=some a→P a.block)
theorem NsV.weak {P:Nat→Prop} {w:World} {ao:Option Addr} {l:List Nd} (h:NsV P w ao l):NsW w ao l:=by
 refine h.imp id ?_
 rintro ⟨b,off,rfl,hlt,_,hc⟩
 refine ⟨b,off,rfl,hlt,fun j hj=>?_⟩
 obtain ⟨xo,xc,n0,n1,n2,n3,n4,n5, -⟩:=hc j hj
 exact ⟨xo,xc,n0,n1,n2,n3,n4,n5⟩
theorem NsW.below {w:World} {ao:Option Addr} {l:List Nd} (h:NsW w ao l):NsV (fun b=>b<w.heap.size) w ao l:=by
 refine h.imp id ?_
 rintro ⟨b,off,rfl,hlt,hc⟩
 refine ⟨b,off,rfl,hlt,hlt,fun j hj=>?_⟩
 obtain ⟨xo,xc,n0,n1,n2,n3,n4,n5⟩:=hc j hj
 exact ⟨xo,xc,n0,n1,n2,n3,n4,n5,fun h0 a e=>n5.at'.lt h0 e⟩
theorem NsV.mono {P Q:Nat→Prop} {w:World} {ao:Option Addr} {l:List Nd} (h:NsV P w ao l) (hq:∀ b,P b→Q b):NsV Q w ao l:=by
 refine h.imp id ?_
 rintro ⟨b,off,rfl,hlt,hp,hc⟩
 refine ⟨b,off,rfl,hlt,hq _ hp,fun j hj=>?_⟩
 obtain ⟨xo,xc,n0,n1,n2,n3,n4,n5,n6⟩:=hc j hj
 exact ⟨xo,xc,n0,n1,n2,n3,n4,n5,fun h0 a e=>hq _ (n6 h0 a e)⟩
theorem NsV.kept {P S:Nat→Prop} {w w' : World} {ao:Option Addr} {l:List Nd} (h:NsV P w ao l) (hk:Kept S w w') (hS:∀ b,P b→¬ S b):NsV P w' ao l:=by
 refine h.imp id ?_
 rintro ⟨nb,noff,rfl,hlt,hp,hc⟩
 have t:∀ o,w'.cell? ⟨nb,o,none⟩=w.cell? ⟨nb,o,none⟩:=fun o=>hk.cell (p:=⟨nb,o,none⟩) hlt (hS _ hp)
 refine ⟨nb,noff,rfl,Nat.lt_of_lt_of_le hlt hk.size,hp,fun j hj=>?_⟩
 obtain ⟨xo,xc,n0,n1,n2,n3,n4,n5,n6⟩:=hc j hj
 refine ⟨xo,xc,(t _).trans n0,(t _).trans n1,(t _).trans n2,(t _).trans n3,(t _).trans n4,⟨?_,n5.cap', n5.nil,n5.size⟩,n6⟩
 by_cases e:l[j].2.1=[]
 ·exact .inl e
 ·exact n5.at'.kept hk (fun a q=>hS _ (n6 e a q))
theorem NsV.same {P:Nat→Prop} {w w' : World} {ao:Option Addr} {l:List Nd} (h:NsV P w ao l) (hk:Same0 w w'):NsV P w' ao l:=h.kept hk (fun _ _ f=>f)
theorem NsM.apart {B:Nat→Prop} {w:World} {ao:Option Addr} {l:List Nd} {g:Nat} (h:NsM B w ao l) (hap:l≠[]→∀ a,ao=some a→a.block≠g) (hg:NotI w g):NsV (fun b=>b≠g) w ao l:=by
 rcases h with e | ⟨b,off,rfl,hlt,hc⟩
 ·exact .inl e
 ·by_cases e:l=[]
  ·exact .inl e
  refine .inr ⟨b,off,rfl,hlt,hap e _ rfl,fun j hj=>?_⟩
  obtain ⟨xo,xc,n0,n1,n2,n3,n4,n5, -⟩:=hc j hj
  refine ⟨xo,xc,n0,n1,n2,n3,n4,n5.1,fun _ a q t=>?_⟩
  obtain ⟨cur,hcur⟩:=n5.2 a q
  rw [t] at hcur
  exact hg cur hcur
theorem HpB.notg {B:Nat→Prop} {w:World} {h g room:Nat} {l:List Nd} (p:HpB B w h g room l):NotI w g:=fun cur hc=>by
 obtain ⟨cs,h1,_⟩:=p.blk
 rw [h1] at hc
 cases hc
end Go.Proofs.YtblgblgchkonhaaGreat
namespace Go.Proofs.YtblgblgchkonhaaGreat
set_option maxRecDepth 100000
set_option linter.unusedVariables false
open Go.RowKit
attribute [local go_sem ↓] Go.wp_at_zero Go.wp_at_succ
theorem may_app {n:Nat} {x:Nd} (h:x.2.2.2.1=false):mayB n x=(decide (0≤x.1) && decide (x.2.1.length≤6) && insB (n:Int) x.2.1 && isMk x.2.2.1 && decide (x.2.2.2.2=0)):=by
 rw [Bool.eq_iff_iff]
 unfold mayB insB isMk
 simp [h]
 intro _
 constructor
 ·rintro ⟨⟨⟨⟨a,b⟩,c⟩,d⟩,e⟩;exact ⟨⟨⟨a,b⟩,e⟩,c,d⟩
 ·rintro ⟨⟨⟨a,b⟩,e⟩,c,d⟩;exact ⟨⟨⟨⟨a,b⟩,c⟩,d⟩,e⟩
theorem may_indir {n:Nat} {x:Nd} (h:x.2.2.2.1=true):mayB n x=(decide (x.1=0) && decide (x.2.1.length=0) && decide (x.2.2.1=0) && insB (n:Int) [x.2.2.2.2]):=by
 rw [Bool.eq_iff_iff]
 unfold mayB insB
 simp [h]
 constructor
 ·rintro ⟨_,⟨⟨⟨⟨a,b⟩,c⟩,d⟩,e⟩⟩;exact ⟨⟨⟨c,e⟩,d⟩,a,b⟩
 ·rintro ⟨⟨⟨c,e⟩,d⟩,a,b⟩
  rw [c,d,e]
  simp [a,b]
end Go.Proofs.YtblgblgchkonhaaGreat
namespace Go.Proofs.YtblgblgchkonhaaGreat
set_option linter.unusedVariables false
open Go.RowKit
theorem wpList_more9 {w0:World} {ops:Array Oper} {rest:List Oper} {o:Oper} {a:Act} {Q:Exit→Act→World→Prop} (hgd:o.guard=none) (s x:Operand) (t:TypeId)
  (ho:o.op=.call { callee:=.builtin .append,args:=#[s,x],argTypes:=#[t,t] }) (ht:Tryz.prog.underlying t=some (.slice 3))
  (base:Nat) (xs:List Int) (v:Value) (hs:a.eval s=v) (hr:Row base w0 v xs) (ys:List Int) (ao:Option Addr) (m c:Nat) (hx:a.eval x=.slice ao m c) (hm:m=ys.length) (hy:IntsAt w0 ao ys) (hnil:ao=none→ys.length=0∧c=0) (hb:base≤w0.heap.size) (hsz:(xs.length+ys.length) * 8≤140737488355328)
  (h:∀ v' w', Row base w' v' (xs++ys)→Kept (fun k=>v.ownBlock=some k) w0 w' → wpList Tryz.prog ops Q rest (a.put o.dst v') w') :
  wpList Tryz.prog ops Q (o :: rest) a w0:=by
 cases ao with
 | none=>
  obtain ⟨h1,rfl⟩:=hnil rfl
  have:ys=[]:=List.eq_nil_of_length_eq_zero h1
  subst this
  subst hm
  obtain ⟨i,hi,hz0,hz1,hz2⟩:=info_parts info_intT
  exact wpList_append_own_none hgd s x t ho base 3 i 1 ht hi v xs.length (iv xs) hs hr hx (h v w0 (by simpa using hr) (Kept.refl _ _))
 | some ad=>exact wpList_more hgd s x t ho ht base xs v hs hr ys ad m c hx hm hy hb hsz h
end Go.Proofs.YtblgblgchkonhaaGreat
namespace Go.Proofs.YtblgblgchkonhaaGreat
set_option maxRecDepth 100000
set_option linter.unusedVariables false
open Go.RowKit
attribute [local go_sem ↓] Go.wp_at_zero Go.wp_at_succ
theorem Row.argS {base:Nat} {w:World} {v:Value} {xs:List Int} (h:Row base w v xs) (hl:xs.length * 8≤140737488351232):∃ ao ac,v=.slice ao xs.length ac∧ArgT w ao xs ac∧∀ a,ao=some a→base≤a.block:=by
 obtain ⟨ao,ac,e,h1,h2,h3⟩:=h.ints
 rcases h.2 with ⟨e2,h0⟩ | ⟨g,cap,cur,e2,hb,hg,hle,_⟩
 ·rw [e] at e2
  simp only [Value.slice.injEq] at e2
  obtain ⟨rfl,_,rfl⟩:=e2
  exact ⟨none,0,e,⟨⟨h1,by omega,fun _=>⟨h0,rfl⟩,by omega⟩,fun a e=>by cases e⟩,fun a e=>by cases e⟩
 ·rw [e] at e2
  simp only [Value.slice.injEq] at e2
  obtain ⟨rfl,_,rfl⟩:=e2
  exact ⟨_,ac,e,⟨⟨h1,hle,(fun e=>by cases e),by omega⟩,fun a e=>by cases e;exact ⟨cur,hg⟩⟩,fun a e=>by cases e;exact hb⟩
theorem rcopied_any {w:World} {ao:Option Addr} {cap:Nat} {xs:List Int} (hx:Arg w ao xs cap) :
  Calls Tryz.prog 84 #[.slice ao xs.length cap] w fun e w' => ∃ bo bc,e=.returned (.slice bo xs.length bc)∧ArgT w' bo xs bc∧(∀ a,bo=some a→w.heap.size≤a.block)∧Same0 w w' := by
 have k0:Same0 w (w.alloc (.cells #[] 3)):=(Kept.refl _ w).alloc _
 have r0:Row w.heap.size (w.alloc (.cells #[] 3)) (.slice (some ⟨w.heap.size,0,none⟩) 0 0) []:=row_empty w _ (Nat.le_refl _) rfl
 have cI:=hx.at'.same k0
 have hn:=hx.nil
 have hs:Hid (xs.length * 8≤140737488351232):=hx.size
 have z0:=k0.size
 clear hx
 go_enter Tryz.func84,Tryz.ntmps84
 go_wp2_with (first | (at_builtin;refine wpList_more9 rfl _ _ 33 rfl Tryz.underlying33 w.heap.size [] _ rfl r0 xs _ _ _ rfl rfl cI hn z0 (by have:=hs.out;simp;omega) ?_;intro v' w4 hr4 hk4))
 go_ret
 obtain ⟨bo,bc,rfl,h1,h2⟩:=Row.argS (by simpa using hr4) hs.out
 exact ⟨bo,bc,rfl,h1,h2,k0.onto r0 hk4⟩
theorem Row.last {base:Nat} {w:World} {vo:Option Addr} {vc:Nat} {T:List Int} {z:Int} (h:Row base w (.slice vo (T.length+1) vc) (T ++ [z])) :
  ∃ g,vo=some ⟨g,0,none⟩∧base≤g∧w.cell? ⟨g,T.length,none⟩=some (.int .i64 z)∧Row base w (.slice (some ⟨g,0,none⟩) T.length vc) T∧T.length+1≤vc:=by
 have hi:=h.ints
 obtain ⟨ao,ac,e,h1,h2,h3⟩:=hi
 simp only [Value.slice.injEq] at e
 obtain ⟨rfl,_,rfl⟩:=e
 obtain ⟨b,off,e1,hlt,hc⟩:=h1.get (i:=T.length) (by simp)
 subst e1
 unfold Row at h
 rcases h.2 with ⟨e2,h0⟩ | ⟨g,cap,cur,e2,hb,hg,hle,hm,hsz,ht⟩
 ·cases e2
 ·simp only [Value.slice.injEq,Option.some.injEq,Addr.mk.injEq,and_true] at e2
  obtain ⟨⟨rfl,rfl⟩,e3,rfl⟩:=e2
  refine ⟨b,rfl,hb,by simpa using hc,?_,by simpa using hle⟩
  unfold Row
  refine ⟨by simp [iv_length],.inr ⟨b,vc,cur,rfl,hb,hg,by simp at hle;omega,hm,hsz,?_⟩⟩
  have:=congrArg (List.take T.length) ht
  rw [List.take_take] at this
  simp [iv] at this
  simpa [iv,Nat.min_eq_left (Nat.le_succ _)] using this
set_option maxHeartbeats 1000000 in
theorem rmay_any {w:World} {x:Nd} {ao:Option Addr} {ac:Nat} (hx:Arg w ao x.2.1 ac) (n:Nat) :
  Calls Tryz.prog 56 #[nodeV x ao ac,.int .i64 (n:Int)] w fun e w' => e=.returned (.bool (mayB n x))∧Same0 w w' := by
 obtain ⟨W0,hW0⟩:∃ W0,W0=w.alloc (.cells #[.int .i64 x.1,.slice ao x.2.1.length ac,.int .i64 x.2.2.1,.bool x.2.2.2.1,.int .i64 x.2.2.2.2] 76):=⟨_,rfl⟩
 have k0:Same0 w W0:=by rw [hW0];exact (Kept.refl _ w).alloc _
 obtain ⟨b0,b1,b2,b3,b4⟩:=box_node' w x ao ac (show Same0 _ W0 by rw [hW0];exact Kept.refl _ _)
 have HE:Hid (mayB n x=(decide (0≤x.1) && decide (x.2.1.length≤6) && decide (0≤x.2.2.1) && decide (x.2.2.1≤2) && x.2.1.all (fun z=>decide (0≤z) && decide (z<(n:Int))) &&
  (if x.2.2.2.1=true then decide (0≤x.2.2.2.2) && decide (x.2.2.2.2<(n:Int)) && decide (x.1=0) && decide (x.2.2.1=0) && decide (x.2.1.length=0) else decide (x.2.2.2.2=0)))):=rfl
 have hsz:=hx.size
 have HI:Hid (IntsAt W0 ao x.2.1):=hx.at'.same k0
 have K0:Hid (Same0 w W0):=k0
 clear k0 hx
 generalize mayB n x=R at *
 obtain ⟨xs,xa,xm,xp,xt⟩:=x
 simp only at *
 by_cases h1:0≤xs
 ·by_cases h2:xa.length≤6
  ·by_cases h3:0≤xm
   ·by_cases h4:xm≤2
    ·have HNO:Hid (∀ k (hk:k<xa.length),¬ (0≤xa[k]∧xa[k]<(n:Int))→R=false):=fun k hk hn=>by
      rw [HE.out]
      have:xa.all (fun z=>decide (0≤z) && decide (z<(n:Int)))=false:=by
       rw [Bool.eq_false_iff]
       intro q
       rw [List.all_eq_true] at q
       have:=q _ (List.getElem_mem hk)
       simp at this
       exact hn this
      rw [this]
      simp
     have HYE:Hid ((∀ k (hk:k<xa.length),0≤xa[k]∧xa[k]<(n:Int))→R=(if xp=true then decide (0≤xt) && decide (xt<(n:Int)) && decide (xs=0) && decide (xm=0) && decide (xa.length=0) else decide (xt=0))):=fun hall=>by
      rw [HE.out]
      have:xa.all (fun z=>decide (0≤z) && decide (z<(n:Int)))=true:=by
       rw [List.all_eq_true]
       intro z hz
       obtain ⟨k,hk,rfl⟩:=List.mem_iff_getElem.1 hz
       simpa using hall k hk
      rw [this]
      simp [h1,h2,h3,h4]
     have j1:¬ xs<0:=by omega
     have j2:¬ (6:Int)<(xa.length:Int):=by omega
     have j3:¬ xm<0:=by omega
     have j4:¬ (2:Int)<xm:=by omega
     clear HE h1 h3 h4
     go_enter Tryz.func56,Tryz.ntmps56
     go_upto_region 1 with fail
     rw [← hW0]
     clear hW0
     go_upto_region 4 with fail
     go_loop [5] (fun i=>∃ k:Nat,k≤xa.length∧i=.int .i64 (k:Int)∧Hid (∀ j (hj:j<xa.length),j<k→0≤xa[j]∧xa[j]<(n:Int))) (fun i=>xa.length-(intOf i).toNat)
     case atStart=>exact ⟨0,Nat.zero_le _,rfl,fun j _ hj=>absurd hj (Nat.not_lt_zero _)⟩
     case round=>
      obtain ⟨k,hk,rfl,hall⟩:=hrel
      by_cases hlt:k<xa.length
      ·have i0:(0:Int)≤(k:Int):=by omega
       have i1:(k:Int)<(xa.length:Int):=by omega
       obtain ⟨db,doff,rfl, -,cD⟩:=HI.out.get hlt
       have HN:=HNO.out k hlt
       have HNX:Hid (0≤xa[k]∧xa[k]<(n:Int)→Hid (∀ j (hj:j<xa.length),j<k+1→0≤xa[j]∧xa[j]<(n:Int))):=fun e j hj hjk=>by
        by_cases q:j=k
        ·subst q;exact e
        ·exact hall.out j hj (by omega)
       clear hall
       generalize xa[k]=z at *
       by_cases q1:z<0
       ·have HF:Hid (R=false):=HN (by omega)
        clear HN HNX
        go_wp2
        go_ret
        exact ⟨ret_bool HF.out.symm,K0.out⟩
       ·by_cases q2:(n:Int)≤z
        ·have HF:Hid (R=false):=HN (by omega)
         clear HN HNX
         go_wp2
         go_ret
         exact ⟨ret_bool HF.out.symm,K0.out⟩
        ·have HF:=HNX.out ⟨by omega,by omega⟩
         clear HN HNX
         go_wp2
         go_round
         case rel=>exact ⟨k+1,by omega,by go_num,HF⟩
         case measure=>simp [intOf];omega
      ·obtain rfl:k=xa.length:=by omega
       have HY:=HYE.out (fun j hj=>hall.out j hj hj)
       clear hall HYE HNO
       cases xp
       ·have HY2:Hid (R=decide (xt=0)):=HY.trans (if_neg (by simp))
        clear HY
        by_cases g0:xt=0
        ·have HR:Hid (R=true):=by show _=_;rw [HY2.out];simp [g0]
         clear HY2
         go_wp2
         go_ret
         exact ⟨ret_bool (by first | exact HR.out.symm | (rw [HR.out];simp;done) | (rw [HR.out];simp;assumption)),K0.out⟩
        ·have HR:Hid (R=false):=by show _=_;rw [HY2.out];simp [g0]
         clear HY2
         go_wp2
         go_ret
         exact ⟨ret_bool (by first | exact HR.out.symm | (rw [HR.out];simp;done) | (rw [HR.out];simp;assumption)),K0.out⟩
       ·have HY2:Hid (R=(decide (0≤xt) && decide (xt<(n:Int)) && decide (xs=0) && decide (xm=0) && decide (xa.length=0))):=HY.trans (if_pos rfl)
        clear HY
        by_cases g1:0≤xt
        ·by_cases g2:xt<(n:Int)
         ·by_cases g3:xs=0
          ·by_cases g4:xm=0
           ·have HY3:Hid (R=decide (xa.length=0)):=by show _=_;rw [HY2.out];simp [g1,g2,g3,g4]
            clear HY2
            by_cases g5:xa.length=0
            ·have HR:Hid (R=true):=by show _=_;rw [HY3.out];simpa using g5
             have hxa:xa=[]:=List.eq_nil_of_length_eq_zero g5
             subst hxa
             clear HY3 g5
             go_wp2
             go_ret
             exact ⟨ret_bool (by first | exact HR.out.symm | (rw [HR.out];simp;done) | (rw [HR.out];simp;assumption)),K0.out⟩
            ·have HR:Hid (R=false):=by show _=_;rw [HY3.out];simpa using g5
             have g6:¬ (xa.length:Int)=0:=by omega
             clear HY3
             go_wp2
             go_ret
             exact ⟨ret_bool (by first | exact HR.out.symm | (rw [HR.out];simp;done) | (rw [HR.out];simp;assumption) | (rw [HR.out];simp;intro q;rw [q] at g5;exact g5 rfl)),K0.out⟩
           ·have HR:Hid (R=false):=by show _=_;rw [HY2.out];simp [g4]
            clear HY2
            go_wp2
            go_ret
            exact ⟨ret_bool (by first | exact HR.out.symm | (rw [HR.out];simp;done) | (rw [HR.out];simp;assumption)),K0.out⟩
          ·have HR:Hid (R=false):=by show _=_;rw [HY2.out];simp [g3]
           clear HY2
           go_wp2
           go_ret
           exact ⟨ret_bool (by first | exact HR.out.symm | (rw [HR.out];simp;done) | (rw [HR.out];simp;assumption)),K0.out⟩
         ·have HR:Hid (R=false):=by show _=_;rw [HY2.out];simp [g2]
          clear HY2
          go_wp2
          go_ret
          exact ⟨ret_bool (by first | exact HR.out.symm | (rw [HR.out];simp;done) | (rw [HR.out];simp;assumption)),K0.out⟩
        ·have HR:Hid (R=false):=by show _=_;rw [HY2.out];simp [g1]
         have g1' : ¬ xt ≥ 0:=g1
         clear HY2
         go_wp2
         go_ret
         exact ⟨ret_bool (by first | exact HR.out.symm | (rw [HR.out];simp;done) | (rw [HR.out];simp;assumption)),K0.out⟩
    ·have HR:Hid (R=false):=by show _=_;rw [HE.out];simp [h4]
     have j1:¬ xs<0:=by omega
     have j2:¬ (6:Int)<(xa.length:Int):=by omega
     have j3:¬ xm<0:=by omega
     have j4:(2:Int)<xm:=by omega
     clear HE HI
     go_enter Tryz.func56,Tryz.ntmps56
     go_upto_region 1 with fail
     rw [← hW0]
     clear hW0
     go_wp2
     go_ret
     exact ⟨ret_bool (by first | exact HR.out.symm | (rw [HR.out];simp;done) | (rw [HR.out];simp;assumption)),K0.out⟩
   ·have HR:Hid (R=false):=by show _=_;rw [HE.out];simp [h3]
    have j1:¬ xs<0:=by omega
    have j2:¬ (6:Int)<(xa.length:Int):=by omega
    have j3:xm<0:=by omega
    clear HE HI
    go_enter Tryz.func56,Tryz.ntmps56
    go_upto_region 1 with fail
    rw [← hW0]
    clear hW0
    go_wp2
    go_ret
    exact ⟨ret_bool (by first | exact HR.out.symm | (rw [HR.out];simp;done) | (rw [HR.out];simp;assumption)),K0.out⟩
  ·have HR:Hid (R=false):=by show _=_;rw [HE.out];simp [h2]
   have j1:¬ xs<0:=by omega
   have j2:(6:Int)<(xa.length:Int):=by omega
   clear HE HI
   go_enter Tryz.func56,Tryz.ntmps56
   go_upto_region 1 with fail
   rw [← hW0]
   clear hW0
   go_wp2
   go_ret
   exact ⟨ret_bool (by first | exact HR.out.symm | (rw [HR.out];simp;done) | (rw [HR.out];simp;assumption)),K0.out⟩
 ·have HR:Hid (R=false):=by show _=_;rw [HE.out];simp [h1]
  have j1:xs<0:=by omega
  clear HE HI
  go_enter Tryz.func56,Tryz.ntmps56
  go_upto_region 1 with fail
  rw [← hW0]
  clear hW0
  go_wp2
  go_ret
  exact ⟨ret_bool (by first | exact HR.out.symm | (rw [HR.out];simp;done) | (rw [HR.out];simp;assumption)),K0.out⟩
structure RhB (B:Nat→Prop) (w:World) (r room:Nat) (v:Value) (l:List Nd):Prop where
 box:w.heap[r]? = some (.cells #[.int .i64 (room:Int),v] 51 (0,0))
 row:NRow B 0 w v l
 rm1:1≤room
 rm2:room≤4000
 le:l.length≤room
 may:∀ x∈l,mayB l.length x=true
 ac:Ac l
theorem RhB.lt {B:Nat→Prop} {w:World} {r room:Nat} {v:Value} {l:List Nd} (p:RhB B w r room v l):r<w.heap.size:=lt_of_at p.box
theorem RhB.noti {B:Nat→Prop} {w:World} {r room:Nat} {v:Value} {l:List Nd} (p:RhB B w r room v l):NotI w r:=fun cur h=>by rw [p.box] at h;cases h
theorem RhB.inl {B:Nat→Prop} {w:World} {r room:Nat} {v:Value} {l:List Nd} (p:RhB B w r room v l):InL l:=inl_of_may p.may
theorem RhB.cells {B:Nat→Prop} {w:World} {r room:Nat} {v:Value} {l:List Nd} (p:RhB B w r room v l):w.cell? ⟨r,0,none⟩=some (.int .i64 (room:Int))∧w.cell? ⟨r,1,none⟩=some v:=⟨cellAt p.box 0,cellAt p.box 1⟩
theorem RhB.kept {B S:Nat→Prop} {w w' : World} {r room:Nat} {v:Value} {l:List Nd} (p:RhB B w r room v l) (hk:Kept S w w') (n1:¬ S r) (n2:∀ k,v.ownBlock=some k→¬ S k) (hS:∀ k,B k→S k→NotI w k):RhB B w' r room v l:=
 ⟨hk.at p.box n1,p.row.kept hk n2 hS,p.rm1,p.rm2,p.le,p.may,p.ac⟩
theorem RhB.same {B:Nat→Prop} {w w' : World} {r room:Nat} {v:Value} {l:List Nd} (p:RhB B w r room v l) (hk:Same0 w w'):RhB B w' r room v l:=p.kept hk (fun f=>f) (fun _ _ f=>f) (fun _ _ f=>f.elim)
theorem RhB.mem {B:Nat→Prop} {w:World} {r room:Nat} {v:Value} {l:List Nd} (p:RhB B w r room v l):∃ ao cap,v=.slice ao l.length cap∧NsM B w ao l:=by
 obtain ⟨ao,cap,rfl⟩:=p.row.shape
 exact ⟨ao,cap,rfl,p.row.mem⟩
set_option maxHeartbeats 1000000 in
theorem rnew_no (n:Int) (w:World) (hn:n<1∨4000<n):Calls Tryz.prog 27 #[.int .i64 n] w fun e w' => e=.returned (.tuple #[.pointer none,.int .i64 110])∧w' = w:=by
 rcases hn with hn | hn
 ·go_enter Tryz.func27,Tryz.ntmps27
  go_wp2
  go_ret2
  exact ⟨rfl,rfl⟩
 ·have h1:¬ n<1:=by omega
  go_enter Tryz.func27,Tryz.ntmps27
  go_wp2
  go_ret2
  exact ⟨rfl,rfl⟩
set_option maxHeartbeats 1000000 in
theorem rnew_yes (n:Nat) (w:World) (h1:1≤n) (h2:n≤4000):Calls Tryz.prog 27 #[.int .i64 (n:Int)] w fun e w' => ∃ r,e=.returned (.tuple #[.pointer (some ⟨r,0,none⟩),.int .i64 0])∧RhB (fun _=>False) w' r n (.slice none 0 0) []∧Same0 w w' ∧ w.heap.size≤r:=by
 have i1:¬ (n:Int)<1:=by omega
 have i2:¬ (4000:Int)<(n:Int):=by omega
 go_enter Tryz.func27,Tryz.ntmps27
 go_wp2
 go_ret2
 exact ⟨w.heap.size,rfl,⟨heap_alloc_new w _,NRow.nil _ _ _,h1,h2,Nat.zero_le _,fun x hx=>absurd hx (by simp),Ac.nil⟩,(Kept.refl _ w).alloc _,Nat.le_refl _⟩
theorem set_box {w:World} {b:Nat} {v0 v1 v2 v3 v4:Value} {t:TypeId} (h:w.heap[b]? = some (.cells #[v0,v1,v2,v3,v4] t (0,0))) (u:Value):(w.setCell ⟨b,1,none⟩ u).heap[b]? = some (.cells #[v0,u,v2,v3,v4] t (0,0)):=setAt h 1 u
set_option maxHeartbeats 2000000 in
theorem rnodes_any {w:World} {ao:Option Addr} {ac:Nat} {l:List Nd} (h:NsW w ao l) (hsz:l.length * 56≤140737488351232) :
  Calls Tryz.prog 58 #[.slice ao l.length ac] w fun e w' => ∃ v,e=.returned v∧NRow (fun b=>w.heap.size≤b) w.heap.size w' v l∧Same0 w w' := by
 have HX:Hid (∀ ww,Same0 w ww→NsW ww ao l):=fun ww hw=>h.same hw
 have KR:Same0 w w:=Kept.refl _ _
 clear h
 go_enter Tryz.func58,Tryz.ntmps58
 go_wp2
 go_loopw [3,4] (fun v i wr=>∃ k:Nat,i=.int .i64 (k:Int)∧k≤l.length∧NRow (fun b=>w.heap.size≤b) w.heap.size wr v (l.take k)∧Same0 w wr) (fun _ i _=>l.length-(intOf i).toNat)
 case atStart=>exact ⟨0,rfl,Nat.zero_le _,NRow.nil _ _ _,KR⟩
 case round=>
  clear KR
  obtain ⟨k,rfl,hk,hrow,hw⟩:=hrel
  obtain ⟨vo,vc,rfl⟩:=hrow.shape
  have hlk:(l.take k).length=k:=by simp;omega
  rw [hlk] at hrow
  by_cases hlt:k<l.length
  ·have j1:(k:Int)<(l.length:Int):=by omega
   have j2:(0:Int)≤(k:Int):=by omega
   rcases HX.out wr hw with e | ⟨nb,noff,e,hnb,hn⟩
   ·rw [e] at hlt;simp at hlt
   subst e
   obtain ⟨xo,xc,n0,n1,n2,n3,n4,n5⟩:=hn k hlt
   have HT:Hid (l.take (k+1)=l.take k ++ [l[k]]):=List.take_succ_eq_append_getElem hlt
   have HLK:Hid ((l.take k).length=k):=hlk
   obtain ⟨W3,hW3⟩:∃ W3,W3=wr.alloc (.cells #[.int .i64 l[k].1,.slice xo l[k].2.1.length xc,.int .i64 l[k].2.2.1,.bool l[k].2.2.2.1,.int .i64 l[k].2.2.2.2] 76):=⟨_,rfl⟩
   have kb:Same0 wr W3:=by rw [hW3];exact (Kept.refl _ _).alloc _
   have hbx:W3.heap[wr.heap.size]? = some (.cells #[.int .i64 l[k].1,.slice xo l[k].2.1.length xc,.int .i64 l[k].2.2.1,.bool l[k].2.2.2.1,.int .i64 l[k].2.2.2.2] 76 (0,0)):=by rw [hW3];exact heap_alloc_new wr _
   obtain ⟨x0,x1,x2,x3,x4⟩:=box5 hbx
   have HBX:Hid (∀ ww,Same0 W3 ww→ww.heap[wr.heap.size]? = some (.cells #[.int .i64 l[k].1,.slice xo l[k].2.1.length xc,.int .i64 l[k].2.2.1,.bool l[k].2.2.2.1,.int .i64 l[k].2.2.2.2] 76 (0,0))):=fun ww hk=>hk.at0 hbx
   have CC:=rcopied_any (n5.onto kb)
   rw [hlk]
   clear n5 hn hlk hbx
   go_upto_region 6 with fail
   rw [← hW3]
   clear hW3 n0 n1 n2 n3 n4
   go_upto_region 7 with (first | (go_at_call 84;refine CC.mono ?_;rintro e w5 ⟨bo,bc,rfl,ha,hbb,k5⟩;have q5:=HBX.out w5 k5;obtain ⟨u0,u1,u2,u3,u4⟩:=box5 q5;obtain ⟨-,f1, -, -, -⟩:=free5 q5))
   obtain ⟨W6,hW6⟩:∃ W6,W6=w5.setCell ⟨wr.heap.size,1,none⟩ (.slice bo l[k].2.1.length bc):=⟨_,rfl⟩
   rw [← hW6]
   have q6:W6.heap[wr.heap.size]? = some (.cells #[.int .i64 l[k].1,.slice bo l[k].2.1.length bc,.int .i64 l[k].2.2.1,.bool l[k].2.2.2.1,.int .i64 l[k].2.2.2.2] 76 (0,0)):=by rw [hW6];exact set_box q5 _
   obtain ⟨y0,y1,y2,y3,y4⟩:=box5 q6
   have K6:Kept (fun i=>i=wr.heap.size) w5 W6:=by rw [hW6];exact Kept.setCell (S:=fun i=>i=wr.heap.size) (Kept.refl _ _) (p:=⟨wr.heap.size,1,none⟩) (fun _=>rfl) _
   have KW:Same0 wr W6:=(kb.trans' k5).trans K6 (fun i hi e=>by omega)
   have ha6:ArgT W6 bo l[k].2.1 bc:=ha.kept K6 (fun i e cur hc=>by rw [e,q5] at hc;cases hc)
   have hr6:=hrow.same KW
   have hsz6:w.heap.size≤W6.heap.size:=(hw.trans' KW).size
   have hbb' : ∀ b,bo=some b→w.heap.size≤b.block:=fun b e=>Nat.le_trans (Nat.le_trans hw.size kb.size) (hbb b e)
   have kW:=(Kept.refl (fun _=>False) W6).alloc (.cells #[.int .i64 l[k].1,.slice bo l[k].2.1.length bc,.int .i64 l[k].2.2.1,.bool l[k].2.2.2.1,.int .i64 l[k].2.2.2.2] 76)
   have hq:=heap_at_node W6 l[k] bo bc
   have HKK:Hid (∀ ww,Kept (fun i=>(Value.slice vo k vc).ownBlock=some i) W6 ww→Same0 w ww):=fun ww hk=>NRow.onto (hw.trans' KW) hr6 hk
   clear hW6 CC q5 q6 u0 u1 u2 u3 u4 f1 x0 x1 x2 x3 x4 ha hbb k5 kb K6 hrow
   go_wp2_with (first | (at_builtin;refine wpList_nd rfl _ _ rfl w.heap.size (l.take k) _ rfl kW hr6 l[k] bo bc _ rfl hq ha6 hbb' hsz6 (by rw [HLK.out];omega) ?_;rw [HLK.out];intro g4 cap4 w4 hr4 hk4 hor))
   have hr5:NRow (fun b=>w.heap.size≤b) w.heap.size w4 (.slice (some ⟨g4,0,none⟩) (k+1) cap4) (l.take (k+1)):=by rw [HT.out];exact hr4
   have hk5:Same0 w w4:=HKK.out w4 hk4
   go_roundw
   case rel=>first | exact ⟨k+1,by go_num,by omega,hr5,hk5⟩ | ((repeat apply Exists.intro);exact ⟨⟨k+1,by go_num,by omega,hr5,hk5⟩,rfl⟩)
   case measure=>simp [intOf];omega
  ·obtain rfl:k=l.length:=by omega
   rw [List.take_length] at *
   clear hlk
   go_wp2
   go_ret
   exact ⟨_,rfl,hrow,hw⟩
def eqI (xs ys:List Int):Bool:=decide (xs=ys)
theorem eqI_no {xs ys:List Int} {k:Nat} (h1:k<xs.length) (h2:k<ys.length) (h:xs[k]≠ys[k]):eqI xs ys=false:=by
 unfold eqI;simp;rintro rfl;exact h rfl
theorem eqI_yes {xs ys:List Int} (hl:xs.length=ys.length) (h:∀ k (h1:k<xs.length) (h2:k<ys.length),xs[k]=ys[k]):eqI xs ys=true:=by
 unfold eqI;simp;exact List.ext_getElem hl (fun k h1 h2=>h k h1 h2)
set_option maxHeartbeats 1000000 in
theorem sameInts_any {w:World} {ao bo:Option Addr} {xs ys:List Int} (ac bc:Nat) (hx:IntsAt w ao xs) (hy:IntsAt w bo ys) (hm:xs.length≤maxLen) :
  Calls Tryz.prog 68 #[.slice ao xs.length ac,.slice bo ys.length bc] w fun e w' => e=.returned (.bool (eqI xs ys))∧Same0 w w' := by
 unfold maxLen at hm
 by_cases hl:xs.length=ys.length
 ·have hl' : (xs.length:Int)=(ys.length:Int):=by omega
  have HX:Hid (∀ ww,Same0 w ww→∀ k (hk:k<xs.length),∃ b off,ao=some ⟨b,off,none⟩∧ww.cell? ⟨b,off+k,none⟩=some (.int .i64 xs[k])):=fun ww hw k hk=>by
   obtain ⟨b,off,e,_,hc⟩:=(hx.same hw).get hk
   exact ⟨b,off,e,hc⟩
  have HY:Hid (∀ ww,Same0 w ww→∀ k (hk:k<ys.length),∃ b off,bo=some ⟨b,off,none⟩∧ww.cell? ⟨b,off+k,none⟩=some (.int .i64 ys[k])):=fun ww hw k hk=>by
   obtain ⟨b,off,e,_,hc⟩:=(hy.same hw).get hk
   exact ⟨b,off,e,hc⟩
  have HL:Hid (xs.length=ys.length):=hl
  have KR:Same0 w w:=Kept.refl _ _
  clear hx hy hl
  go_enter Tryz.func68,Tryz.ntmps68
  go_wp2
  go_loopw [5] (fun i wr=>∃ k:Nat,k≤xs.length∧i=.int .i64 k∧Hid (∀ j (h1:j<xs.length) (h2:j<ys.length),j<k→xs[j]=ys[j])∧Same0 w wr) (fun i _=>xs.length-(intOf i).toNat)
  case atStart=>exact ⟨0,Nat.zero_le _,rfl,fun j _ _ hj=>absurd hj (Nat.not_lt_zero _),KR⟩
  case round=>
   clear KR
   obtain ⟨k,hk,rfl,hall,hw⟩:=hrel
   by_cases hlt:k<xs.length
   ·have hlt' : k<ys.length:=by rw [← HL.out];exact hlt
    obtain ⟨b,off,rfl,hc⟩:=HX.out wr hw k hlt
    obtain ⟨b', off', rfl,hc'⟩:=HY.out wr hw k hlt'
    have i1:(0:Int)≤(k:Int):=by omega
    have i2:(k:Int)<(xs.length:Int):=by omega
    have i3:(k:Int)<(ys.length:Int):=by omega
    obtain ⟨u,hu⟩:∃ u,u=xs[k]:=⟨_,rfl⟩
    obtain ⟨u', hu'⟩:∃ u', u' = ys[k]:=⟨_,rfl⟩
    rw [← hu] at hc
    rw [← hu'] at hc'
    by_cases he:u=u'
    ·have HE:Hid (xs[k]=ys[k]):=by show _=_;rw [← hu,← hu', he]
     clear hu hu' HX HY
     subst he
     go_upto_region 6 with fail
     go_quiet (fail)
     go_wp2
     go_roundw
     case rel=>exact ⟨k+1,by omega,by go_num,fun j h1 h2 hj=>by
      by_cases e:j=k
      ·subst e;exact HE.out
      ·exact hall.out j h1 h2 (by omega),hw.drewN _⟩
     case measure=>simp [intOf];omega
    ·have HE:Hid (eqI xs ys=false):=eqI_no hlt hlt' (by rw [← hu,← hu'];exact he)
     clear hu hu' HX HY
     go_upto_region 6 with fail
     go_quiet (fail)
     go_wp2
     go_ret
     exact ⟨ret_bool HE.out.symm,hw.drewN _⟩
   ·obtain rfl:k=xs.length:=by omega
    have HE:Hid (eqI xs ys=true):=eqI_yes HL.out (fun j h1 h2=>hall.out j h1 h2 h1)
    clear HX HY hall
    go_wp2
    go_ret
    exact ⟨ret_bool HE.out.symm,hw⟩
 ·have HE:Hid (eqI xs ys=false):=by show _=_;unfold eqI;simp;rintro rfl;exact hl rfl
  have hl' : ¬ (xs.length:Int)=(ys.length:Int):=by omega
  clear hx hy hl
  go_enter Tryz.func68,Tryz.ntmps68
  go_wp2
  go_ret
  exact ⟨ret_bool HE.out.symm,Kept.refl _ _⟩
def eqN (x y:Nd):Bool:=decide (x=y)
theorem eqN_no {x y:Nd} (h:¬ (x.1=y.1∧x.2.2.1=y.2.2.1∧x.2.2.2.1=y.2.2.2.1∧x.2.2.2.2=y.2.2.2.2)):eqN x y=false:=by
 unfold eqN;simp;rintro rfl;exact h ⟨rfl,rfl,rfl,rfl⟩
theorem eqN_same {x y:Nd} (h:x.1=y.1∧x.2.2.1=y.2.2.1∧x.2.2.2.1=y.2.2.2.1∧x.2.2.2.2=y.2.2.2.2):eqN x y=eqI x.2.1 y.2.1:=by
 obtain ⟨a,b,c,d,e⟩:=x
 obtain ⟨a', b', c', d', e'⟩:=y
 obtain ⟨h1,h2,h3,h4⟩:=h
 simp only at h1 h2 h3 h4
 subst h1 h2 h3 h4
 unfold eqN eqI
 simp
set_option maxHeartbeats 2000000 in
theorem sameNode_any {w:World} {x y:Nd} {ao bo:Option Addr} {ac bc:Nat} (hx:Arg w ao x.2.1 ac) (hy:Arg w bo y.2.1 bc) :
  Calls Tryz.prog 39 #[nodeV x ao ac,nodeV y bo bc] w fun e w' => e=.returned (.bool (eqN x y))∧Same0 w w' := by
 obtain ⟨W1,hW1⟩:∃ W1,W1=(w.alloc (.cells #[.int .i64 x.1,.slice ao x.2.1.length ac,.int .i64 x.2.2.1,.bool x.2.2.2.1,.int .i64 x.2.2.2.2] 76)).alloc (.cells #[.int .i64 y.1,.slice bo y.2.1.length bc,.int .i64 y.2.2.1,.bool y.2.2.2.1,.int .i64 y.2.2.2.2] 76):=⟨_,rfl⟩
 have K1:Same0 w W1:=by rw [hW1];exact ((Kept.refl _ w).alloc _).alloc _
 obtain ⟨x0,x1,x2,x3,x4⟩:=box_node' w x ao ac (show Same0 _ W1 by rw [hW1];exact (Kept.refl _ _).alloc _)
 obtain ⟨y0,y1,y2,y3,y4⟩:=box_node' _ y bo bc (show Same0 _ W1 by rw [hW1];exact Kept.refl _ _)
 simp only [World.size_alloc] at y0 y1 y2 y3 y4
 have hxm:x.2.1.length≤maxLen:=by have:=hx.size;unfold maxLen;omega
 have CI:=sameInts_any ac bc (hx.at'.same K1) (hy.at'.same K1) hxm
 have HK:Hid (∀ ww,Same0 W1 ww→Same0 w ww):=fun ww hk=>K1.trans' hk
 have HW:Hid (Same0 W1 W1):=Kept.refl _ _
 have HE:Hid (x.1=y.1→x.2.2.1=y.2.2.1→x.2.2.2.1=y.2.2.2.1→x.2.2.2.2=y.2.2.2.2→eqN x y=eqI x.2.1 y.2.1):=fun a b c d=>eqN_same ⟨a,b,c,d⟩
 have HN:Hid (¬ (x.1=y.1∧x.2.2.1=y.2.2.1∧x.2.2.2.1=y.2.2.2.1∧x.2.2.2.2=y.2.2.2.2)→eqN x y=false):=fun h=>eqN_no h
 clear hx hy K1
 generalize eqN x y=R at *
 generalize eqI x.2.1 y.2.1=I at *
 obtain ⟨sx,ax,mx,px,tx⟩:=x
 obtain ⟨sy,ay,my,py,ty⟩:=y
 simp only at *
 have go:∀ b:Bool,(sx=sy∧mx=my∧px=py∧tx=ty)∨¬ (sx=sy∧mx=my∧px=py∧tx=ty):=fun _=>Classical.em _
 by_cases e1:sx=sy
 ·subst e1
  by_cases e2:mx=my
  ·subst e2
   by_cases e3:px=py
   ·subst e3
    by_cases e4:tx=ty
    ·subst e4
     have HR:Hid (R=I):=HE.out rfl rfl rfl rfl
     clear HE HN go
     go_enter Tryz.func39,Tryz.ntmps39
     go_upto_region 1 with fail
     rw [← hW1]
     clear hW1
     go_wp2_with (first | (go_at_call 68;refine CI.mono ?_;rintro e w3 ⟨rfl,k3⟩))
     go_ret
     exact ⟨ret_bool HR.out.symm,HK.out _ k3⟩
    ·have HR:Hid (R=false):=HN.out (fun h=>e4 h.2.2.2)
     clear HE HN go
     go_enter Tryz.func39,Tryz.ntmps39
     go_upto_region 1 with fail
     rw [← hW1]
     clear hW1
     go_wp2
     go_ret
     exact ⟨ret_bool HR.out.symm,HK.out _ HW.out⟩
   ·have HR:Hid (R=false):=HN.out (fun h=>e3 h.2.2.1)
    clear HE HN go
    go_enter Tryz.func39,Tryz.ntmps39
    go_upto_region 1 with fail
    rw [← hW1]
    clear hW1
    go_wp2
    go_ret
    exact ⟨ret_bool HR.out.symm,HK.out _ HW.out⟩
  ·have HR:Hid (R=false):=HN.out (fun h=>e2 h.2.1)
   clear HE HN go
   go_enter Tryz.func39,Tryz.ntmps39
   go_upto_region 1 with fail
   rw [← hW1]
   clear hW1
   go_wp2
   go_ret
   exact ⟨ret_bool HR.out.symm,HK.out _ HW.out⟩
 ·have HR:Hid (R=false):=HN.out (fun h=>e1 h.1)
  clear HE HN go
  go_enter Tryz.func39,Tryz.ntmps39
  go_upto_region 1 with fail
  rw [← hW1]
  clear hW1
  go_wp2
  go_ret
  exact ⟨ret_bool HR.out.symm,HK.out _ HW.out⟩
set_option maxHeartbeats 1000000 in
theorem down_any {w:World} {x:Nd} {ao:Option Addr} {ac:Nat} (hx:Arg w ao x.2.1 ac) :
  Calls Tryz.prog 83 #[nodeV x ao ac] w fun e w' => ∃ bo bc,e=.returned (.slice bo (downL x).length bc)∧IntsAt w' bo (downL x)∧(∀ a,bo=some a→(ao=some a∧downL x=x.2.1)∨(w.heap.size≤a.block∧a.block<w'.heap.size))∧Same0 w w' := by
 obtain ⟨W0,hW0⟩:∃ W0,W0=w.alloc (.cells #[.int .i64 x.1,.slice ao x.2.1.length ac,.int .i64 x.2.2.1,.bool x.2.2.2.1,.int .i64 x.2.2.2.2] 76):=⟨_,rfl⟩
 have k0:Same0 w W0:=by rw [hW0];exact (Kept.refl _ w).alloc _
 have hb:W0.heap[w.heap.size]? = some (.cells #[.int .i64 x.1,.slice ao x.2.1.length ac,.int .i64 x.2.2.1,.bool x.2.2.2.1,.int .i64 x.2.2.2.2] 76 (0,0)):=by rw [hW0];exact heap_alloc_new w _
 obtain ⟨b0,b1,b2,b3,b4⟩:=box5 hb
 have hz:=k0.size
 obtain ⟨pb,hp⟩:∃ pb,x.2.2.2.1=pb:=⟨_,rfl⟩
 cases pb
 ·have hd:downL x=x.2.1:=by unfold downL;rw [hp];rfl
  have H:Hid (IntsAt W0 ao x.2.1∧Same0 w W0):=⟨hx.at'.same k0,k0⟩
  rw [hd]
  rw [hp] at b3
  clear hd hx k0 hb hz hp
  go_enter Tryz.func83,Tryz.ntmps83
  go_upto_region 1 with fail
  rw [← hW0]
  clear hW0
  go_wp2
  go_ret
  exact ⟨ao,ac,rfl,H.out.1,fun a e=>.inl ⟨e,by first | trivial | rfl⟩,H.out.2⟩
 ·have hd:downL x=[x.2.2.2.2]:=by unfold downL;rw [hp];rfl
  have H:Hid (IntsAt (W0.alloc (.cells #[.int .i64 x.2.2.2.2] 3)) (some ⟨W0.heap.size,0,none⟩) [x.2.2.2.2]∧(∀ a,some (⟨W0.heap.size,0,none⟩:Addr)=some a→(ao=some a∧[x.2.2.2.2]=x.2.1)∨(w.heap.size≤a.block∧a.block<(W0.alloc (.cells #[.int .i64 x.2.2.2.2] 3)).heap.size))∧Same0 w (W0.alloc (.cells #[.int .i64 x.2.2.2.2] 3))):=⟨ints_one _ _,fun a e=>by cases e;exact .inr ⟨hz,by simp⟩,k0.alloc _⟩
  rw [hd]
  rw [hp] at b3
  clear hd hx k0 hb hz hp
  go_enter Tryz.func83,Tryz.ntmps83
  go_upto_region 1 with fail
  rw [← hW0]
  clear hW0
  go_wp2
  go_ret
  exact ⟨_,1,rfl,H.out.1,H.out.2.1,H.out.2.2⟩
def falses (w:World) (mb N:Nat):Nat:=(List.range N).countP (fun i=>match w.cell? ⟨mb,i,none⟩ with | some (.bool false)=>true | _=>false)
theorem falses_row {w:World} {base mb N:Nat} {s:List Bool} (h:w.ownsRow base 4 1 (.slice (some ⟨mb,0,none⟩) N N) N (bv s)):falses w mb N=s.count false:=by
 have hl:s.length=N:=by have:=h.1;simp [bv] at this;omega
 subst hl
 unfold falses
 have:∀ i,i<s.length→(match w.cell? ⟨mb,i,none⟩ with | some (.bool false)=>true | _=>false)=(s.getD i true == false):=fun i hi=>by
  obtain ⟨b,h1,h2,_⟩:=row_bool h hi
  rw [h2,List.getD_eq_getElem?_getD,h1]
  cases b <;> rfl
 rw [List.countP_congr (q:=fun i=>s.getD i true == false) (fun i hi=>by rw [this i (by simpa using hi)])]
 clear this h
 induction s with
 | nil=>rfl
 | cons b t ih=>
  rw [List.length_cons,List.range_succ_eq_map,List.countP_cons,List.countP_map,List.count_cons]
  have:((fun i=>(b :: t).getD i true == false) ∘ Nat.succ)=fun i=>t.getD i true == false:=by funext i;simp
  rw [this,ih]
  simp
def Mk (s:List Bool) (i:Nat):Prop:=s[i]? = some true
theorem Mk.set {s:List Bool} {k:Nat} (h:k<s.length) (i:Nat):Mk (s.set k true) i ↔ Mk s i∨i=k:=by
 unfold Mk
 rw [List.getElem?_set]
 by_cases e:k=i
 ·subst e;simp [h]
 ·rw [if_neg e];constructor
  ·exact .inl
  ·rintro (q | q)
   ·exact q
   ·exact absurd q.symm e
theorem snd_set {l:List Nd} {s:List Bool} (h:Snd l (Mk s)) {k:Nat} (hk:k<s.length) (ha:∀ j,Ed l k j→Mk s j):Snd l (Mk (s.set k true)):=by
 obtain ⟨r,hr⟩:=h.more ha
 refine ⟨r,fun i j hi e=>?_⟩
 obtain ⟨q1,q2⟩:=hr i j ((Mk.set hk i).1 hi) e
 exact ⟨(Mk.set hk j).2 q1,q2⟩
theorem count_set {s:List Bool} {k:Nat} (h:s[k]? = some false):(s.set k true).count false+1=s.count false:=by
 obtain ⟨hk,hv⟩:=List.getElem?_eq_some_iff.1 h
 have hc:0<s.count false:=List.count_pos_iff.2 (hv ▸ List.getElem_mem hk)
 rw [List.count_set hk]
 simp [hv]
 omega
def Pass (l:List Nd) (s0:List Bool) (C k:Nat) (again:Bool) (s:List Bool):Prop:=
 (again=false∧s=s0∧∀ j,j<k→(∀ m,Ed l j m→Mk s0 m)→Mk s0 j)∨(again=true∧s.count false<C)
end Go.Proofs.YtblgblgchkonhaaGreat
