import Derived.Test.YtmloedlkoijfbaaSU04
import Derived.Deep.AppendLies
import Derived.Deep.LoopGhost
import Derived.WalkMore
import Derived.Test.YtmloedlkoijfbaaSU01
import Derived.Laws.AppendOwnNone
namespace Go.Proofs.Ytmloedlkoijfbaa
set_option maxRecDepth 100000
set_option linter.unusedVariables false
open Go.RowKit
attribute [local go_sem ↓] Go.wp_at_zero Go.wp_at_succ
def NCl (B:Nat→Prop) (w:World) (vs:List Value) (l:List Nd):Prop:=
 vs.length=l.length * 5∧∀ i (h:i<l.length),∃ ao ac,vs[i * 5]? = some (.int .i64 l[i].1)∧vs[i * 5+1]? = some (.slice ao l[i].2.1.length ac)∧vs[i * 5+2]? = some (.int .i64 l[i].2.2.1)∧vs[i * 5+3]? = some (.bool l[i].2.2.2.1)∧vs[i * 5+4]? = some (.int .i64 l[i].2.2.2.2)∧ArgT w ao l[i].2.1 ac∧∀ a,ao=some a→B a.block
theorem NCl.nil (B:Nat→Prop) (w:World):NCl B w [] []:=⟨rfl,fun i h=>absurd h (Nat.not_lt_zero _)⟩
theorem NCl.kept {B S:Nat→Prop} {w w' : World} {vs:List Value} {l:List Nd} (h:NCl B w vs l) (hk:Kept S w w') (hS:∀ k,B k→S k→NotI w k):NCl B w' vs l:=by
 refine ⟨h.1,fun i hi=>?_⟩
 obtain ⟨ao,ac,h0,h1,h2,h3,h4,h5,h6⟩:=h.2 i hi
 refine ⟨ao,ac,h0,h1,h2,h3,h4,h5.kept' hk (fun a e s=>?_),h6⟩
 obtain ⟨cur,hc⟩:=h5.2 a e
 exact hS _ (h6 a e) s cur hc
theorem NCl.mono {B B' : Nat→Prop} {w:World} {vs:List Value} {l:List Nd} (h:NCl B w vs l) (hB:∀ k,k<w.heap.size→B k→B' k):NCl B' w vs l:=by
 refine ⟨h.1,fun i hi=>?_⟩
 obtain ⟨ao,ac,h0,h1,h2,h3,h4,h5,h6⟩:=h.2 i hi
 exact ⟨ao,ac,h0,h1,h2,h3,h4,h5,fun a e=>hB _ (h5.lt e) (h6 a e)⟩
theorem NCl.same {B:Nat→Prop} {w w' : World} {vs:List Value} {l:List Nd} (h:NCl B w vs l) (hk:Same0 w w'):NCl B w' vs l:=h.kept hk (fun _ _ f=>f.elim)
theorem NCl.snoc {B:Nat→Prop} {w:World} {vs:List Value} {l:List Nd} (h:NCl B w vs l) {x:Nd} {ao:Option Addr} {ac:Nat} (ha:ArgT w ao x.2.1 ac) (hb:∀ a,ao=some a→B a.block):NCl B w (vs ++ [.int .i64 x.1,.slice ao x.2.1.length ac,.int .i64 x.2.2.1,.bool x.2.2.2.1,.int .i64 x.2.2.2.2]) (l ++ [x]):=by
 refine ⟨by simp [h.1];omega,fun i hi=>?_⟩
 by_cases e:i<l.length
 ·rw [List.getElem_append_left e]
  obtain ⟨ao,ac,h0,h1,h2,h3,h4,h5,h6⟩:=h.2 i e
  have hl:=h.1
  exact ⟨ao,ac,by rw [List.getElem?_append_left (by omega)];exact h0,by rw [List.getElem?_append_left (by omega)];exact h1,by rw [List.getElem?_append_left (by omega)];exact h2,by rw [List.getElem?_append_left (by omega)];exact h3,by rw [List.getElem?_append_left (by omega)];exact h4,h5,h6⟩
 ·obtain rfl:i=l.length:=by simp at hi;omega
  have hl:=h.1
  have t:∀ j,(vs ++ [.int .i64 x.1,.slice ao x.2.1.length ac,.int .i64 x.2.2.1,.bool x.2.2.2.1,.int .i64 x.2.2.2.2])[l.length * 5+j]? = [Value.int .i64 x.1,.slice ao x.2.1.length ac,.int .i64 x.2.2.1,.bool x.2.2.2.1,.int .i64 x.2.2.2.2][j]? := fun j=>by
   rw [List.getElem?_append_right (by omega),hl,Nat.add_sub_cancel_left]
  simp only [List.getElem_append_right (Nat.le_refl _),Nat.sub_self,List.getElem_cons_zero]
  exact ⟨ao,ac,t 0,t 1,t 2,t 3,t 4,ha,hb⟩
def NRow (B:Nat→Prop) (base:Nat) (w:World) (v:Value) (l:List Nd):Prop:=∃ vs,w.ownsRow base 47 5 v l.length vs∧NCl B w vs l
theorem NRow.nil (B:Nat→Prop) (base:Nat) (w:World):NRow B base w (.slice none 0 0) []:=⟨[],World.ownsRow_nil _ _ _ _,NCl.nil B w⟩
theorem NRow.kept {B S:Nat→Prop} {base:Nat} {w w' : World} {v:Value} {l:List Nd} (h:NRow B base w v l) (hk:Kept S w w') (hn:∀ k,v.ownBlock=some k→¬ S k) (hS:∀ k,B k→S k→NotI w k):NRow B base w' v l:=by
 obtain ⟨vs,h1,h2⟩:=h
 exact ⟨vs,hk.row h1 hn,h2.kept hk hS⟩
theorem NRow.same {B:Nat→Prop} {base:Nat} {w w' : World} {v:Value} {l:List Nd} (h:NRow B base w v l) (hk:Same0 w w'):NRow B base w' v l:=h.kept hk (fun _ _ f=>f) (fun _ _ f=>f.elim)
theorem NRow.shape {B:Nat→Prop} {base:Nat} {w:World} {v:Value} {l:List Nd} (h:NRow B base w v l):∃ ao cap,v=.slice ao l.length cap:=by
 obtain ⟨vs,h1,_⟩:=h
 exact row_shape h1
theorem NRow.block {B:Nat→Prop} {base:Nat} {w:World} {v:Value} {l:List Nd} (h:NRow B base w v l) {k:Nat} (e:v.ownBlock=some k):base≤k∧k<w.heap.size∧NotI w k:=by
 obtain ⟨vs,h1,_⟩:=h
 rcases h1.2 with ⟨rfl,_⟩ | ⟨g,cap,cur,rfl,hb,hg,_⟩
 ·cases e
 ·obtain rfl:g=k:=Option.some.inj e
  exact ⟨hb,lt_of_at hg,fun c hc=>by rw [hg] at hc;cases hc⟩
def NsM (B:Nat→Prop) (w:World) (ao:Option Addr) (l:List Nd):Prop:=l=[]∨∃ b off,ao=some ⟨b,off,none⟩∧b<w.heap.size∧∀ i (hi:i<l.length),NdC B w b (off+i * 5) l[i]
theorem NsM.same {B:Nat→Prop} {w w' : World} {ao:Option Addr} {l:List Nd} (h:NsM B w ao l) (hk:Same0 w w'):NsM B w' ao l:=by
 refine h.imp id ?_
 rintro ⟨b,off,rfl,hlt,hc⟩
 exact ⟨b,off,rfl,Nat.lt_of_lt_of_le hlt hk.size,fun i hi=>(hc i hi).kept hlt hk (fun f=>f) (fun _ _ f=>f.elim)⟩
theorem NRow.mem {B:Nat→Prop} {base:Nat} {w:World} {ao:Option Addr} {cap:Nat} {l:List Nd} (h:NRow B base w (.slice ao l.length cap) l):NsM B w ao l:=by
 obtain ⟨vs,h1,h2⟩:=h
 by_cases e:l=[]
 ·exact .inl e
 ·have h1' := h1
  rcases h1.2 with ⟨q,h0⟩ | ⟨g,cap', cur,q,hb,hg,_⟩
  ·exact absurd (List.eq_nil_of_length_eq_zero h0) e
  ·cases q
   refine .inr ⟨g,0,rfl,lt_of_at hg,fun i hi=>?_⟩
   obtain ⟨ao,ac,g0,g1,g2,g3,g4,g5,g6⟩:=h2.2 i hi
   have t:∀ j u,vs[j]? = some u→w.cell? ⟨g,j,none⟩=some u:=fun j u hj=>by
    have:=h1'.cells (g:=g) rfl j u hj
    by_cases q:j=0
    ·subst q;simpa [Addr.add] using this
    ·simpa [Addr.add,q] using this
   rw [Nat.zero_add]
   exact ⟨ao,ac,t _ _ g0,t _ _ g1,t _ _ g2,t _ _ g3,t _ _ g4,g5,g6⟩
theorem wpList_nd {w0 W:World} {ops:Array Oper} {rest:List Oper} {o:Oper} {a:Act} {Q:Exit→Act→World→Prop} (hgd:o.guard=none) (s x:Operand)
  (ho:o.op=.call { callee:=.builtin .append,args:=#[s,x],argTypes:=#[32,32] })
  {B:Nat→Prop} (base:Nat) (l:List Nd) (v:Value) (hs:a.eval s=v) (hW:Same0 w0 W) (hr:NRow B base w0 v l) (y:Nd) (ao:Option Addr) (ac:Nat) (q:Nat) (hx:a.eval x=.slice (some ⟨q,0,none⟩) 1 1) (hq:W.heap[q]? = some (.cells #[.int .i64 y.1,.slice ao y.2.1.length ac,.int .i64 y.2.2.1,.bool y.2.2.2.1,.int .i64 y.2.2.2.2] 47 (0,0))) (ha:ArgT w0 ao y.2.1 ac) (hba:∀ b,ao=some b→B b.block) (hb:base≤w0.heap.size) (hsz:(l.length+1) * 56≤140737488355328)
  (h:∀ g cap w', NRow B base w' (.slice (some ⟨g,0,none⟩) (l.length+1) cap) (l ++ [y])→Kept (fun k=>v.ownBlock=some k) w0 w' → (v.ownBlock=some g∨W.heap.size≤g)→wpList Try.prog ops Q rest (a.put o.dst (.slice (some ⟨g,0,none⟩) (l.length+1) cap)) w') :
  wpList Try.prog ops Q (o :: rest) a W:=by
 obtain ⟨i,hi,hz0,hz1,hz2⟩:=info_parts info_node
 obtain ⟨vs,h1,h2⟩:=hr
 have nb:∀ k,v.ownBlock=some k→NotI w0 k:=fun k e=>(NRow.block ⟨vs,h1,h2⟩ e).2.2
 refine wpList_append_lies _ hgd s x 32 ho base 47 i _ 5 56 Try.underlying32 hi hz0 hz1 hz2 rfl (by decide) v l.length vs hs (hW.row h1 (fun _ _ f=>f)) ⟨q,0,none⟩ 1 1 [.int .i64 y.1,.slice ao y.2.1.length ac,.int .i64 y.2.2.1,.bool y.2.2.2.1,.int .i64 y.2.2.2.2] hx rfl (World.news_of_block (cs:=#[.int .i64 y.1,.slice ao y.2.1.length ac,.int .i64 y.2.2.1,.bool y.2.2.2.1,.int .i64 y.2.2.2.2]) (t:=47) (fr:=(0,0)) hq) (by intro u hu;simp at hu;rcases hu with rfl | rfl | rfl | rfl | rfl <;> rfl) (by omega) (by unfold maxLen;omega) (by omega) (Nat.le_trans hb hW.size) W.heap.size rfl ?_
 intro g cap w' hown hgrow hat hlt
 have K:Kept (fun k=>v.ownBlock=some k) w0 w' := Kept.grown (Kept.mono hW (fun _ _ f=>f.elim)) hgrow (fun _ e _=>e)
 refine h g cap w' ⟨_,by rw [List.length_append];exact hown,?_⟩ K (hat.imp id (fun e=>by omega))
 exact (h2.kept K (fun k _ e=>nb k e)).snoc (ha.kept K (fun k e=>nb k e)) hba
theorem box_node' (w:World) (x:Nd) (ao:Option Addr) (ac:Nat) {ww:World} (hk:Same0 (w.alloc (.cells #[.int .i64 x.1,.slice ao x.2.1.length ac,.int .i64 x.2.2.1,.bool x.2.2.2.1,.int .i64 x.2.2.2.2] 47)) ww) :
  ww.cell? ⟨w.heap.size,0,none⟩=some (.int .i64 x.1)∧ww.cell? ⟨w.heap.size,1,none⟩=some (.slice ao x.2.1.length ac)∧ww.cell? ⟨w.heap.size,2,none⟩=some (.int .i64 x.2.2.1)∧ww.cell? ⟨w.heap.size,3,none⟩=some (.bool x.2.2.2.1)∧ww.cell? ⟨w.heap.size,4,none⟩=some (.int .i64 x.2.2.2.2):=
 box5 (hk.at0 (heap_alloc_new w _))
theorem heap_at_node (w:World) (x:Nd) (ao:Option Addr) (ac:Nat):(w.alloc (.cells #[.int .i64 x.1,.slice ao x.2.1.length ac,.int .i64 x.2.2.1,.bool x.2.2.2.1,.int .i64 x.2.2.2.2] 47)).heap[w.heap.size]? = some (.cells #[.int .i64 x.1,.slice ao x.2.1.length ac,.int .i64 x.2.2.1,.bool x.2.2.2.1,.int .i64 x.2.2.2.2] 47 (0,0)):=heap_alloc_new w _
theorem NRow.onto {B:Nat→Prop} {w w0 w' : World} {v:Value} {l:List Nd} (h:Same0 w w0) (hr:NRow B w.heap.size w0 v l) (hk:Kept (fun k=>v.ownBlock=some k) w0 w'):Same0 w w' :=
 h.trans hk (fun i hi e=>by have:=(hr.block e).1;omega)
end Go.Proofs.Ytmloedlkoijfbaa
namespace Go.Proofs.Ytmloedlkoijfbaa
set_option maxRecDepth 100000
set_option linter.unusedVariables false
open Go.RowKit
theorem Arg.onto {w w' : World} {ao:Option Addr} {xs:List Int} {cap:Nat} (h:Arg w ao xs cap) (hk:Same0 w w'):Arg w' ao xs cap:=⟨h.at'.same hk,h.cap', h.nil,h.size⟩
theorem IntsAt.lt {w:World} {ao:Option Addr} {xs:List Int} (h:IntsAt w ao xs) (h0:xs≠[]) {a:Addr} (e:ao=some a):a.block<w.heap.size:=by
 rcases h with q | ⟨b,off,rfl,hlt,_⟩
 ·exact absurd q h0
 ·cases e;exact hlt
def NsW (w:World) (ao:Option Addr) (l:List Nd):Prop:=l=[]∨∃ nb noff,ao=some ⟨nb,noff,none⟩∧nb<w.heap.size∧∀ j (hj:j<l.length),∃ xo xc,w.cell? ⟨nb,noff+j * 5,none⟩=some (.int .i64 l[j].1)∧w.cell? ⟨nb,noff+j * 5+1,none⟩=some (.slice xo l[j].2.1.length xc)∧w.cell? ⟨nb,noff+j * 5+2,none⟩=some (.int .i64 l[j].2.2.1)∧w.cell? ⟨nb,noff+j * 5+3,none⟩=some (.bool l[j].2.2.2.1)∧w.cell? ⟨nb,noff+j * 5+4,none⟩=some (.int .i64 l[j].2.2.2.2)∧Arg w xo l[j].2.1 xc
theorem NsM.weak {B:Nat→Prop} {w:World} {ao:Option Addr} {l:List Nd} (h:NsM B w ao l):NsW w ao l:=by
 refine h.imp id ?_
 rintro ⟨b,off,rfl,hlt,hc⟩
 refine ⟨b,off,rfl,hlt,fun j hj=>?_⟩
 obtain ⟨xo,xc,n0,n1,n2,n3,n4,n5, -⟩:=hc j hj
 exact ⟨xo,xc,n0,n1,n2,n3,n4,n5.1⟩
theorem NsW.same {w w' : World} {ao:Option Addr} {l:List Nd} (h:NsW w ao l) (hk:Same0 w w'):NsW w' ao l:=by
 refine h.imp id ?_
 rintro ⟨nb,noff,rfl,hlt,hc⟩
 have t:∀ o,w'.cell? ⟨nb,o,none⟩=w.cell? ⟨nb,o,none⟩:=fun o=>hk.cell (p:=⟨nb,o,none⟩) hlt (fun f=>f)
 refine ⟨nb,noff,rfl,Nat.lt_of_lt_of_le hlt hk.size,fun j hj=>?_⟩
 obtain ⟨xo,xc,n0,n1,n2,n3,n4,n5⟩:=hc j hj
 exact ⟨xo,xc,(t _).trans n0,(t _).trans n1,(t _).trans n2,(t _).trans n3,(t _).trans n4,⟨n5.at'.same hk,n5.cap', n5.nil,n5.size⟩⟩
def NsV (P:Nat→Prop) (w:World) (ao:Option Addr) (l:List Nd):Prop:=l=[]∨∃ nb noff,ao=some ⟨nb,noff,none⟩∧nb<w.heap.size∧P nb∧∀ j (hj:j<l.length),∃ xo xc,w.cell? ⟨nb,noff+j * 5,none⟩=some (.int .i64 l[j].1)∧w.cell? ⟨nb,noff+j * 5+1,none⟩=some (.slice xo l[j].2.1.length xc)∧w.cell? ⟨nb,noff+j * 5+2,none⟩=some (.int .i64 l[j].2.2.1)∧w.cell? ⟨nb,noff+j * 5+3,none⟩=some (.bool l[j].2.2.2.1)∧w.cell? ⟨nb,noff+j * 5+4,none⟩=some (.int .i64 l[j].2.2.2.2)∧Arg w xo l[j].2.1 xc∧(l[j].2.1≠[]→∀ a,xo=some a→P a.block)
theorem NsV.weak {P:Nat→Prop} {w:World} {ao:Option Addr} {l:List Nd} (h:NsV P w ao l):NsW w ao l:=by
 refine h.imp id ?_
 rintro ⟨b,off,rfl,hlt,_,hc⟩
 refine ⟨b,off,rfl,hlt,fun j hj=>?_⟩
 obtain ⟨xo,xc,n0,n1,n2,n3,n4,n5, -⟩:=hc j hj
 exact ⟨xo,xc,n0,n1,n2,n3,n4,n5⟩
theorem NsW.below {w:World} {ao:Option Addr} {l:List Nd} (h:NsW w ao l):NsV (fun b=>b<w.heap.size) w ao l:=by
 refine h.imp id ?_
 rintro ⟨b,off,rfl,hlt,hc⟩
 refine ⟨b,off,rfl,hlt,hlt,fun j hj=>?_⟩
 obtain ⟨xo,xc,n0,n1,n2,n3,n4,n5⟩:=hc j hj
 exact ⟨xo,xc,n0,n1,n2,n3,n4,n5,fun h0 a e=>n5.at'.lt h0 e⟩
theorem NsV.mono {P Q:Nat→Prop} {w:World} {ao:Option Addr} {l:List Nd} (h:NsV P w ao l) (hq:∀ b,P b→Q b):NsV Q w ao l:=by
 refine h.imp id ?_
 rintro ⟨b,off,rfl,hlt,hp,hc⟩
 refine ⟨b,off,rfl,hlt,hq _ hp,fun j hj=>?_⟩
 obtain ⟨xo,xc,n0,n1,n2,n3,n4,n5,n6⟩:=hc j hj
 exact ⟨xo,xc,n0,n1,n2,n3,n4,n5,fun h0 a e=>hq _ (n6 h0 a e)⟩
theorem NsV.kept {P S:Nat→Prop} {w w' : World} {ao:Option Addr} {l:List Nd} (h:NsV P w ao l) (hk:Kept S w w') (hS:∀ b,P b→¬ S b):NsV P w' ao l:=by
 refine h.imp id ?_
 rintro ⟨nb,noff,rfl,hlt,hp,hc⟩
 have t:∀ o,w'.cell? ⟨nb,o,none⟩=w.cell? ⟨nb,o,none⟩:=fun o=>hk.cell (p:=⟨nb,o,none⟩) hlt (hS _ hp)
 refine ⟨nb,noff,rfl,Nat.lt_of_lt_of_le hlt hk.size,hp,fun j hj=>?_⟩
 obtain ⟨xo,xc,n0,n1,n2,n3,n4,n5,n6⟩:=hc j hj
 refine ⟨xo,xc,(t _).trans n0,(t _).trans n1,(t _).trans n2,(t _).trans n3,(t _).trans n4,⟨?_,n5.cap', n5.nil,n5.size⟩,n6⟩
 by_cases e:l[j].2.1=[]
 ·exact .inl e
 ·exact n5.at'.kept hk (fun a q=>hS _ (n6 e a q))
theorem NsV.same {P:Nat→Prop} {w w' : World} {ao:Option Addr} {l:List Nd} (h:NsV P w ao l) (hk:Same0 w w'):NsV P w' ao l:=h.kept hk (fun _ _ f=>f)
theorem NsM.apart {B:Nat→Prop} {w:World} {ao:Option Addr} {l:List Nd} {g:Nat} (h:NsM B w ao l) (hap:l≠[]→∀ a,ao=some a→a.block≠g) (hg:NotI w g):NsV (fun b=>b≠g) w ao l:=by
 rcases h with e | ⟨b,off,rfl,hlt,hc⟩
 ·exact .inl e
 ·by_cases e:l=[]
  ·exact .inl e
  refine .inr ⟨b,off,rfl,hlt,hap e _ rfl,fun j hj=>?_⟩
  obtain ⟨xo,xc,n0,n1,n2,n3,n4,n5, -⟩:=hc j hj
  refine ⟨xo,xc,n0,n1,n2,n3,n4,n5.1,fun _ a q t=>?_⟩
  obtain ⟨cur,hcur⟩:=n5.2 a q
  rw [t] at hcur
  exact hg cur hcur
theorem HpB.notg {B:Nat→Prop} {w:World} {h g room:Nat} {l:List Nd} (p:HpB B w h g room l):NotI w g:=fun cur hc=>by
 obtain ⟨cs,h1,_⟩:=p.blk
 rw [h1] at hc
 cases hc
end Go.Proofs.Ytmloedlkoijfbaa
namespace Go.Proofs.Ytmloedlkoijfbaa
set_option maxRecDepth 100000
set_option linter.unusedVariables false
open Go.RowKit
attribute [local go_sem ↓] Go.wp_at_zero Go.wp_at_succ
theorem LsAt.nil (N ib:Nat) (w:World) (ao:Option Addr):LsAt N ib w ao []:=⟨.inl rfl,fun h=>absurd rfl h⟩
theorem LsAt.tail {N ib:Nat} {w:World} {b o:Nat} {z:Int} {t:List Int} (h:LsAt N ib w (some ⟨b,o,none⟩) (z :: t)):LsAt N ib w (some ⟨b,o+1,none⟩) t:=by
 refine ⟨?_,fun _ a e=>?_⟩
 ·have:=h.1.cut 1 (t.length+1)
  simpa using this
 ·cases e
  exact h.2 (by simp) ⟨b,o,none⟩ rfl
theorem row_at {base:Nat} {w:World} {g n cap:Nat} {xs:List Int} (h:Row base w (.slice (some ⟨g,0,none⟩) n cap) xs) {i:Nat} (hi:i<xs.length):w.cell? ⟨g,i,none⟩=some (.int .i64 xs[i])∧w.frozen? ⟨g,i,none⟩=false∧base≤g∧g<w.heap.size:=by
 unfold Row at h
 rcases h.2 with ⟨e,_⟩ | ⟨g', cap', cur,e,hb,hg,hle,hm,hsz,ht⟩
 ·cases e
 ·simp only [Value.slice.injEq,Option.some.injEq,Addr.mk.injEq,and_true] at e
  obtain ⟨rfl,e2,rfl⟩:=e
  refine ⟨?_,frozenAt hg _,hb,lt_of_at hg⟩
  have h2:(iv xs)[i]? = some (.int .i64 xs[i]):=by simp [iv,hi]
  rw [← ht,List.getElem?_take,if_pos (by omega)] at h2
  rw [cellAt hg,← h2]
  simp
theorem rowI_put {base:Nat} {w:World} {g n cap:Nat} {xs:List Int} (h:Row base w (.slice (some ⟨g,0,none⟩) n cap) xs) (i:Nat) (z:Int):Row base (w.setCell ⟨g,i,none⟩ (.int .i64 z)) (.slice (some ⟨g,0,none⟩) n cap) (xs.set i z):=by
 unfold Row at h ⊢
 rcases h.2 with ⟨e,_⟩ | ⟨g', cap', cur,e,hb,hg,hle,hm,hsz,ht⟩
 ·cases e
 ·simp only [Value.slice.injEq,Option.some.injEq,Addr.mk.injEq,and_true] at e
  obtain ⟨rfl,e2,rfl⟩:=e
  refine ⟨by simp [iv_length],.inr ⟨g,cap,cur.setIfInBounds i (.int .i64 z),by simp [e2],hb,setAt hg _ _,by simpa using hle,hm,by simp [hsz],?_⟩⟩
  rw [Array.toList_setIfInBounds,List.take_set,List.length_set,ht]
  simp [iv,List.map_set]
structure ArgL (w:World) (ao:Option Addr) (xs:List Int) (cap:Nat):Prop where
 at' : IntsAt w ao xs
 cap' : xs.length≤cap
 nil:ao=none→xs.length=0∧cap=0
 size:xs.length≤20000000000000
theorem ArgL.onto {w w' : World} {ao:Option Addr} {xs:List Int} {cap:Nat} (h:ArgL w ao xs cap) (hk:Same0 w w'):ArgL w' ao xs cap:=⟨h.at'.same hk,h.cap', h.nil,h.size⟩
theorem Arg.l {w:World} {ao:Option Addr} {xs:List Int} {cap:Nat} (h:Arg w ao xs cap):ArgL w ao xs cap:=⟨h.at', h.cap', h.nil,by have:=h.size;omega⟩
def WhQ (l:List Nd) (R:List Int) (room:Nat) (w:World) (e:Ending) (w' : World):Prop:=
 ∃ ib s,e=.returned (.slice (some ⟨ib,0,none⟩) room room)∧w.heap.size≤ib∧Row w.heap.size w' (.slice (some ⟨ib,0,none⟩) room room) s∧s.length=room∧IsS l R s∧Same0 w w'
structure WhM (l:List Nd) (R:List Int) (room N ib:Nat) (w wr:World) (v:Value) (s:List Int) (T:List (List Int)) (m:Nat):Prop where
 row:Row N wr (.slice (some ⟨ib,0,none⟩) room room) s
 len:s.length=room
 stk:Stk N ib wr v T
 wh:Wh l R s T
 ms:msW s T=m
 few:T.length+s.count (-1)≤4001
 kept:Same0 w wr
 ibl:ib<wr.heap.size
set_option maxHeartbeats 4000000 in
theorem whatIs_any {B:Nat→Prop} {w:World} {h g room:Nat} {l:List Nd} (p:HpB B w h g room l) {ao:Option Addr} {R:List Int} {ac:Nat} (hx:ArgL w ao R ac) (hR:∀ r∈R,0≤r∧r<(l.length:Int)) :
  Calls Try.prog 53 #[.pointer (some ⟨h,0,none⟩),.slice ao R.length ac] w fun e w' => WhQ l R room w e w' := by
 have hw:Hid (Wf l):=⟨p.may,p.ac⟩
 have k1:Same0 w (w.alloc (.cells #[.int .i64 (-1)] 3)):=(Kept.refl _ w).alloc _
 have CR:=room_any (p.same k1)
 have CP:=repeat_any room p.rm1 p.rm2 (heap_alloc_new w (.cells #[.int .i64 (-1)] 3))
 have HP:Hid (∀ ww,Same0 w ww→HpB B ww h g room l):=fun ww hk=>p.same hk
 have hrm:room≤4000:=p.rm2
 have HX:Hid (ArgL w ao R ac):=hx
 have HR:Hid (∀ r∈R,0≤r∧r<(l.length:Int)):=hR
 obtain ⟨N,hN⟩:∃ N,N=w.heap.size:=⟨_,rfl⟩
 have hle:=p.le
 have HS:Hid (∀ (w2:World) (ib:Nat),Same0 (w.alloc (.cells #[.int .i64 (-1)] 3)) w2→(w.alloc (.cells #[.int .i64 (-1)] 3)).heap.size≤ib→Row (w.alloc (.cells #[.int .i64 (-1)] 3)).heap.size w2 (.slice (some ⟨ib,0,none⟩) room room) (List.replicate room (-1))→N≤ib∧ib<w2.heap.size∧WhM l R room N ib w (w2.alloc (.cells #[.slice ao R.length ac] 31)) (.slice (some ⟨w2.heap.size,0,none⟩) 1 1) (List.replicate room (-1)) [R] (8 * room+(R.length+1))):=by
  intro w2 ib hk hib hr
  have hsz:(w.alloc (.cells #[.int .i64 (-1)] 3)).heap.size=w.heap.size+1:=by simp
  have K2:Same0 w w2:=k1.trans' hk
  have K3:Same0 w2 (w2.alloc (.cells #[.slice ao R.length ac] 31)):=(Kept.refl _ _).alloc _
  have hl:=(hr.lt ib rfl).2
  refine ⟨by omega,hl,⟨row_mono (K3.row hr (fun _ _ f=>f)) (by omega),by simp,⟨[.slice ao R.length ac],⟨rfl,.inr ⟨w2.heap.size,1,_,rfl,by omega,heap_alloc_new w2 _,Nat.le_refl _,by unfold maxLen;omega,rfl,rfl⟩⟩,rfl,fun i hi=>?_⟩,Wh.start hR hle,?_,?_,K2.trans' K3,?_⟩⟩
  ·obtain rfl:i=0:=by simp at hi;omega
   have a1:=(HX.out.onto K2).onto K3
   refine ⟨ao,ac,rfl,⟨a1.at', fun hne a e=>.inl ?_⟩,a1.cap', fun e=>(a1.nil e).2⟩
   have:=HX.out.at'.lt hne e
   omega
  ·simp [msW]
  ·simp;omega
  ·simp;omega
 clear p k1 hx hR hle
 go_enter Try.func53,Try.ntmps53
 go_wp2
 go_step3
 go_upto_region 3 with (first | (go_at_call 27;refine CR.mono ?_;rintro e w' ⟨rfl,hw'⟩;have hw' := hw'.symm;subst hw') | (go_at_call 66;refine CP.mono ?_;rintro e w2 ⟨ib,rfl,hib,hr2,hk2⟩;have HM:=HS.out w2 ib hk2 hib hr2;clear hib hr2 hk2))
 obtain ⟨hNi,hib2,HM⟩:=HM
 have HM0:Hid (WhM l R room N ib w (w2.alloc (.cells #[.slice ao R.length ac] 31)) (.slice (some ⟨w2.heap.size,0,none⟩) 1 1) (List.replicate room (-1)) [R] (8 * room+(R.length+1))):=HM
 have HN:Hid (N=w.heap.size):=hN
 have HF:Hid (∀ s ww,Row N ww (.slice (some ⟨ib,0,none⟩) room room) s→s.length=room→Wh l R s []→Same0 w ww→WhQ l R room w (.returned (.slice (some ⟨ib,0,none⟩) room room)) ww):=fun s ww h1 h2 h3 h4=>⟨ib,s,rfl,by omega,by rw [← hN];exact h1,h2,h3.done hw.out HR.out,h4⟩
 clear HM HS CR CP hN HX hib2
 go_step3
 go_wp2
 go_loopg [6] (8 * room+(R.length+1)) (fun gm v6 wr=>∃ s T,Hid (WhM l R room N ib w wr v6 s T gm))
 case atStart=>exact ⟨_,_,HM0⟩
 case round=>
  clear HM0
  obtain ⟨s,T,HM⟩:=hrel
  obtain ⟨vo,vc,e⟩:=HM.out.stk.shape
  subst e
  rcases List.eq_nil_or_concat T with e | ⟨T', t,e⟩
  ·subst e
   have HE:=HF.out s wr HM.out.row HM.out.len HM.out.wh HM.out.kept
   clear HF HM
   go_wp2
   rw [Exit.noGoto_ret]
   go_ret
   exact HE
  ·rw [List.concat_eq_append] at e
   subst e
   have hl1:(T' ++ [t]).length=T'.length+1:=by simp
   have HL:Hid (T'.length≤4000):=by have:=HM.out.few;rw [hl1] at this;show _≤_;omega
   obtain ⟨M,hM⟩:∃ M,M=T'.length:=⟨_,rfl⟩
   rw [hl1,← hM] at HM
   rw [hl1,← hM]
   have hM4:(M:Int)≤4000:=by have:=HL.out;omega
   have hM0:(0:Int)≤(M:Int):=by omega
   have HMT:Hid (M=T'.length):=hM
   obtain ⟨og, -, -,e,hog,hcap, -⟩:=Stk.top HM.out.stk (by rw [hM])
   subst e
   have i1:(M:Int)<(M:Int)+1:=by omega
   have i2:(0:Int)<(M:Int)+1:=by omega
   have i3:(M:Int)≤(vc:Int):=by omega
   clear hl1 hM
   go_wp2
   obtain ⟨GO,rfl⟩:∃ GO,GO=gk:=⟨_,rfl⟩
   go_loopg [6] GO (fun gm v6 wy=>v6=.slice (some ⟨og,0,none⟩) (M+1) vc∧∃ s t,Hid (WhM l R room N ib w wy (.slice (some ⟨og,0,none⟩) (M+1) vc) s (T' ++ [t]) gm)∧gm≤GO)
   case atStart=>exact ⟨rfl,_,_,HM,Nat.le_refl _⟩
   case round=>
    clear HM s t
    obtain ⟨rfl,s,t,HM,hgk⟩:=hrel
    obtain ⟨og', tp,tc,e, -, -,c1,c2,hls,htc,htn,hst⟩:=Stk.top HM.out.stk (by rw [HMT.out])
    simp only [Option.some.injEq,Addr.mk.injEq,and_true] at e
    subst e
    rw [← HMT.out] at c1 c2 hst
    cases t with
    | nil=>
     have HMN:Hid (WhM l R room N ib w wr (.slice (some ⟨og,0,none⟩) M vc) s T' (msW s T')):=⟨HM.out.row,HM.out.len,hst,HM.out.wh.drop,rfl,by have:=HM.out.few;simp at this;omega,HM.out.kept,HM.out.ibl⟩
     have hms:msW s T' < gk:=by have:=msW_drop s T'; have:=HM.out.ms;omega
     clear HM hls hst htc htn
     go_wp2
     go_roundg (msW s T')
     case measure=>omega
     case rel=>exact ⟨s,T', HMN⟩
    | cons z t=>
     have hz:=(HM.out.wh.rng (z :: t) (by simp) z (by simp)).1
     obtain ⟨b,hb⟩:∃ b:Nat,z=(b:Int):=⟨z.toNat,by omega⟩
     subst hb
     have hbl:b<l.length:=by omega
     obtain ⟨xb,xo,e,hxb,cx⟩:=hls.1.get (i:=0) (by simp)
     subst e
     simp only [List.getElem_cons_zero,Nat.add_zero] at cx
     obtain ⟨np,hnp⟩:∃ np,(if tc=1 then some (⟨xb,xo,none⟩:Addr) else some ⟨xb,xo+1,none⟩)=np:=⟨_,rfl⟩
     have htc' : t.length+1≤tc:=by simpa using htc
     have hnl:LsAt N ib wr np t:=by
      rw [← hnp]
      split
      ·have:t=[]:=List.eq_nil_of_length_eq_zero (by omega)
       subst this
       exact LsAt.nil _ _ _ _
      ·exact hls.tail
     have hnn:np=none→tc-1=0:=fun e=>by rw [← hnp] at e;split at e <;> cases e
     obtain ⟨st7,K7⟩:=HM.out.stk.put (u:=t) (by rw [HMT.out]) (by omega) hnl (ac:=tc-1) (by omega) hnn
     obtain ⟨W7,hW7⟩:∃ W7,W7=wr.setCell ⟨og,M,none⟩ (.slice np t.length (tc-1)):=⟨_,rfl⟩
     rw [← HMT.out,← hW7] at st7 K7
     have hgo:N≤og:=by omega
     have r7:Row N W7 (.slice (some ⟨ib,0,none⟩) room room) s:=K7.row HM.out.row (fun k e q=>by have:ib=k:=Option.some.inj e;omega)
     have k7:Same0 w W7:=HM.out.kept.trans K7 (fun k hk e=>by have:=HN.out;omega)
     have hsl:b<s.length:=Nat.lt_of_lt_of_le hbl HM.out.wh.len
     have hbr:b<room:=by rw [← HM.out.len];exact hsl
     obtain ⟨cb, -, -, -⟩:=row_at r7 hsl
     have HM7:Hid (WhM l R room N ib w W7 (.slice (some ⟨og,0,none⟩) (M+1) vc) s (T' ++ [t]) (msW s (T' ++ [t]))∨s[b]? = some (-1)):=by
      by_cases q:s[b]? = some (-1)
      ·exact .inr q
      ·exact .inl ⟨r7,HM.out.len,st7,HM.out.wh.skip (by simpa using q),rfl,by have:=HM.out.few;simpa using this,k7,Nat.lt_of_lt_of_le HM.out.ibl K7.size⟩
     have j1:(0:Int)≤(b:Int):=by omega
     have j2:(b:Int)<(room:Int):=by omega
     have j3:(0:Int)<(t.length:Int)+1:=by omega
     have j4:(1:Int)≤(tc:Int):=by omega
     have j5:(1:Int)≤(t.length:Int)+1:=by omega
     by_cases q:s[b] = -1
     ·have hbq:s[b]? = some (-1):=by rw [List.getElem?_eq_getElem hsl,q]
      have HB:Hid (s[b]? = some (-1)):=hbq
      rw [q] at cb
      have CS:=hres_yes (HP.out W7 k7) b hbl
      have HM8:Hid (WhM l R room N ib w wr (.slice (some ⟨og,0,none⟩) (M+1) vc) s (T' ++ [(b:Int) :: t]) gk):=HM
      have R7:Hid (Row N W7 (.slice (some ⟨ib,0,none⟩) room room) s∧Stk N ib W7 (.slice (some ⟨og,0,none⟩) (M+1) vc) (T' ++ [t])∧Same0 w W7):=⟨r7,st7,k7⟩
      have Hib:Hid (ib<W7.heap.size):=Nat.lt_of_lt_of_le HM.out.ibl K7.size
      clear HM HM7 hls hst st7 hnl r7 K7 k7 htc htn hnn htc' hbq q
      go_upto_region 8 with fail
      rw [← hW7]
      clear hW7 hnp cx c1 c2
      go_upto_region 10 with (first | (go_at_call 21;refine CS.mono ?_;rintro e w8 ⟨a,rfl,hres,hk8⟩))
      have HS8:Hid (Res l b a):=hres
      have hal:a<l.length:=hres.2.1
      have has:a<s.length:=Nat.lt_of_lt_of_le hal HM8.out.wh.len
      have har:a<room:=by rw [← HM8.out.len];exact has
      have r8:Row N w8 (.slice (some ⟨ib,0,none⟩) room room) s:=hk8.row R7.out.1 (fun _ _ f=>f)
      have r9:Row N ((w8.setCell ⟨ib,a,none⟩ (.int .i64 (a:Int))).setCell ⟨ib,b,none⟩ (.int .i64 (a:Int))) (.slice (some ⟨ib,0,none⟩) room room) (wr2 s a b):=rowI_put (rowI_put r8 a _) b _
      have K9:Kept (fun k=>k=ib) w8 ((w8.setCell ⟨ib,a,none⟩ (.int .i64 (a:Int))).setCell ⟨ib,b,none⟩ (.int .i64 (a:Int))):=Kept.setCell (S:=fun k=>k=ib) (Kept.setCell (S:=fun k=>k=ib) (Kept.refl _ _) (p:=⟨ib,a,none⟩) (fun _=>rfl) _) (p:=⟨ib,b,none⟩) (fun _=>rfl) _
      obtain ⟨ca,fa, -, -⟩:=row_at r8 has
      obtain ⟨-,fb, -, -⟩:=row_at r8 hsl
      obtain ⟨W9,hW9⟩:∃ W9,W9=(w8.setCell ⟨ib,a,none⟩ (.int .i64 (a:Int))).setCell ⟨ib,b,none⟩ (.int .i64 (a:Int)):=⟨_,rfl⟩
      rw [← hW9] at r9 K9
      have st9:Stk N ib W9 (.slice (some ⟨og,0,none⟩) (M+1) vc) (T' ++ [t]):=(R7.out.2.1.same hk8).kept K9 (fun k e q=>by have:og=k:=Option.some.inj e;omega) (fun k e=>by subst e;exact ⟨hNi,.inl (Nat.le_refl _)⟩)
      have k9:Same0 w W9:=(R7.out.2.2.trans' hk8).trans K9 (fun k hk e=>by have:=HN.out;omega)
      have hib9:ib<W9.heap.size:=Nat.lt_of_lt_of_le Hib.out (Nat.le_trans hk8.size K9.size)
      have cb8:w8.cell? ⟨ib,b,none⟩=some (.int .i64 (-1)):=by
       have h1:=(row_at r8 hsl).1
       have h2:=(List.getElem?_eq_some_iff.1 HB.out).2
       rw [h2] at h1;exact h1
      have n1:(0:Int)≤(a:Int):=by omega
      have n2:(a:Int)<(room:Int):=by omega
      have R9:Hid (Row N W9 (.slice (some ⟨ib,0,none⟩) room room) (wr2 s a b)∧Stk N ib W9 (.slice (some ⟨og,0,none⟩) (M+1) vc) (T' ++ [t])∧Same0 w W9∧ib<W9.heap.size):=⟨r9,st9,k9,hib9⟩
      clear CS r8 r9 K9 st9 k9 hib9 hk8 hres R7 Hib
      by_cases q:s[a] = -1
      ·rw [q] at ca
       have hfew:(l[a]).2.1.length≤6:=(may_facts (hw.out.1 _ (List.getElem_mem hal))).2.1
       have CA:=hat_yes (HP.out W9 R9.out.2.2.1) a hal
       have HWN:Hid (Wh l R (wr2 s a b) (T' ++ [t] ++ [l[a].2.1])):=HM8.out.wh.new hw.out HB.out HS8.out
       have hms:msW (wr2 s a b) (T' ++ [t] ++ [l[a].2.1])<gk:=by have:=msW_new (a:=a) T' t l[a].2.1 HB.out hfew;have:=HM8.out.ms;omega
       have HCN:Hid ((T' ++ [t] ++ [l[a].2.1]).length+(wr2 s a b).count (-1)≤4001):=by
        have h1:=HM8.out.few
        have h2:=count_wr2 (a:=a) HB.out
        simp at h1
        show _≤_
        simp
        omega
       have HLN:Hid ((wr2 s a b).length=room):=by show _=_;rw [wr2_len];exact HM8.out.len
       have HTL:Hid ((T' ++ [t]).length=M+1):=by show _=_;rw [HMT.out];simp
       clear HM8 HB HS8 q
       generalize hX:l[a]=X at *
       clear hX
       obtain ⟨x0,x1,x2,x3,x4⟩:=X
       go_upto_region 11 with fail
       go_cut [] from 62 to 69 (fun wc=>wc=W9)
       case first=>
        by_cases hab:a=b
        ·subst hab
         go_wp2_with fail
         go_meet
         case rel=>exact hW9.symm
        ·go_wp2_with fail
         go_meet
         case rel=>exact hW9.symm
       case rest=>
       subst hcut
       clear hW9 ca fa fb cb8 cb
       go_upto_region 14 with (first | (go_at_call 26;refine CA.mono ?_;rintro e w10 ⟨bo,bc,rfl,hA,hAb,hk10⟩))
       have K11:Same0 w10 (w10.alloc (.cells #[.int .i64 x0,.slice bo x1.length bc,.int .i64 x2,.bool x3,.int .i64 x4] 47)):=(Kept.refl _ _).alloc _
       have hB11:=heap_alloc_new w10 (.cells #[.int .i64 x0,.slice bo x1.length bc,.int .i64 x2,.bool x3,.int .i64 x4] 47)
       obtain ⟨-,b1, -, -, -⟩:=box5 hB11
       obtain ⟨W11,hW11⟩:∃ W11,W11=w10.alloc (.cells #[.int .i64 x0,.slice bo x1.length bc,.int .i64 x2,.bool x3,.int .i64 x4] 47):=⟨_,rfl⟩
       rw [← hW11] at K11 b1 ⊢
       have K12:Same0 w10 (W11.alloc (.cells #[.slice bo x1.length bc] 31)):=K11.alloc _
       have hq12:=heap_alloc_new W11 (.cells #[.slice bo x1.length bc] 31)
       have st10:Hid (Stk N ib w10 (.slice (some ⟨og,0,none⟩) (M+1) vc) (T' ++ [t])):=R9.out.2.1.same hk10
       have ls10:LsAt N ib w10 bo x1:=⟨hA.1.at', fun _ ad e=>.inr ⟨by have:=hAb ad e;have:=R9.out.2.2.2;omega,hA.2 ad e⟩⟩
       have hc10:x1.length≤bc:=hA.1.cap'
       have hn10:bo=none→bc=0:=fun e=>(hA.1.nil e).2
       have hz10:ib+1≤w10.heap.size:=Nat.le_trans R9.out.2.2.2 hk10.size
       have hsz:((T' ++ [t]).length+1) * 24≤140737488355328:=by have:=HTL.out;omega
       clear hB11 hW11 hA hAb CA
       go_wp2_with (first | (at_builtin;refine wpList_stk rfl _ _ rfl N ib (T' ++ [t]) (.slice (some ⟨og,0,none⟩) (M+1) vc) rfl K12 st10.out (fun k e=>by have:og=k:=Option.some.inj e;omega) x1 bo bc W11.heap.size rfl hq12 ls10 hc10 hn10 hz10 hsz ?_;intro g13 c13 w13 hst13 hk13 hg13))
       have e13:(T' ++ [t]).length+1=T'.length+1+1:=by simp
       rw [e13] at hst13
       have r13:Row N w13 (.slice (some ⟨ib,0,none⟩) room room) (wr2 s a b):=hk13.row (hk10.row R9.out.1 (fun _ _ f=>f)) (fun k e q=>by
        have h1:ib=k:=Option.some.inj e
        have h2:og=k:=Option.some.inj q
        omega)
       have k13:Same0 w w13:=(R9.out.2.2.1.trans' hk10).trans hk13 (fun k hk e=>by
        have h2:og=k:=Option.some.inj e
        have:=HN.out
        omega)
       go_roundg (msW (wr2 s a b) (T' ++ [t] ++ [x1]))
       case measure=>omega
       case rel=>exact ⟨wr2 s a b,T' ++ [t] ++ [x1],r13,HLN.out,hst13,HWN.out,rfl,HCN.out,k13,Nat.lt_of_lt_of_le hz10 hk13.size⟩
      ·have q1:(s[a] == -1)=false:=by simpa using q
       have HMN:Hid (WhM l R room N ib w W9 (.slice (some ⟨og,0,none⟩) (M+1) vc) (wr2 s a b) (T' ++ [t]) (msW (wr2 s a b) (T' ++ [t]))):=⟨R9.out.1,by rw [wr2_len];exact HM8.out.len,R9.out.2.1,HM8.out.wh.old hw.out HB.out HS8.out (by rw [List.getElem?_eq_getElem has];simpa using q),rfl,by
        have h1:=HM8.out.few
        have h2:=count_wr2 (a:=a) HB.out
        simp at h1 ⊢
        omega,R9.out.2.2.1,R9.out.2.2.2⟩
       have hms:msW (wr2 s a b) (T' ++ [t])<gk:=by have:=msW_old (a:=a) T' t HB.out;have:=HM8.out.ms;omega
       clear HM8 R9 HB HS8 q
       go_upto_region 11 with fail
       go_cut [] from 62 to 69 (fun wc=>wc=W9)
       case first=>
        by_cases hab:a=b
        ·subst hab
         go_wp2_with fail
         go_meet
         case rel=>exact hW9.symm
        ·go_wp2_with fail
         go_meet
         case rel=>exact hW9.symm
       case rest=>
       subst hcut
       clear hW9 ca fa fb cb8 cb
       go_wp2
       go_roundg (msW (wr2 s a b) (T' ++ [t]))
       case measure=>omega
       case rel=>exact ⟨rfl,wr2 s a b,t,HMN,by omega⟩
     ·have HMN:Hid (WhM l R room N ib w W7 (.slice (some ⟨og,0,none⟩) (M+1) vc) s (T' ++ [t]) (msW s (T' ++ [t]))):=by
       rcases HM7.out with e | e
       ·exact e
       ·rw [List.getElem?_eq_getElem hsl] at e;simp only [Option.some.injEq] at e;exact absurd e q
      have hms:msW s (T' ++ [t])<gk:=by have:=msW_skip s T' (b:Int) t;have:=HM.out.ms;omega
      have q1:(s[b] == -1)=false:=by simpa using q
      have q2:(s[b] != -1)=true:=by simpa using q
      clear HM HM7 hls hst st7 hnl r7 K7 k7 htc htn hnn htc'
      go_upto_region 8 with fail
      rw [← hW7]
      clear hW7 hnp cx c1 c2
      go_wp2
      go_roundg (msW s (T' ++ [t]))
      case measure=>omega
      case rel=>exact ⟨rfl,s,t,HMN,by omega⟩
theorem may_app {n:Nat} {x:Nd} (h:x.2.2.2.1=false):mayB n x=(decide (0≤x.1) && decide (x.2.1.length≤6) && insB (n:Int) x.2.1 && isMk x.2.2.1 && decide (x.2.2.2.2=0)):=by
 rw [Bool.eq_iff_iff]
 unfold mayB insB isMk
 simp [h]
 intro _
 constructor
 ·rintro ⟨⟨⟨⟨a,b⟩,c⟩,d⟩,e⟩;exact ⟨⟨⟨a,b⟩,e⟩,c,d⟩
 ·rintro ⟨⟨⟨a,b⟩,e⟩,c,d⟩;exact ⟨⟨⟨⟨a,b⟩,c⟩,d⟩,e⟩
theorem may_indir {n:Nat} {x:Nd} (h:x.2.2.2.1=true):mayB n x=(decide (x.1=0) && decide (x.2.1.length=0) && decide (x.2.2.1=0) && insB (n:Int) [x.2.2.2.2]):=by
 rw [Bool.eq_iff_iff]
 unfold mayB insB
 simp [h]
 constructor
 ·rintro ⟨_,⟨⟨⟨⟨a,b⟩,c⟩,d⟩,e⟩⟩;exact ⟨⟨⟨c,e⟩,d⟩,a,b⟩
 ·rintro ⟨⟨⟨c,e⟩,d⟩,a,b⟩
  rw [c,d,e]
  simp [a,b]
end Go.Proofs.Ytmloedlkoijfbaa
namespace Go.Proofs.Ytmloedlkoijfbaa
set_option linter.unusedVariables false
open Go.RowKit
end Go.Proofs.Ytmloedlkoijfbaa
namespace Go.Proofs.Ytmloedlkoijfbaa
set_option maxRecDepth 100000
set_option linter.unusedVariables false
open Go.RowKit
attribute [local go_sem ↓] Go.wp_at_zero Go.wp_at_succ
theorem Row.argS {base:Nat} {w:World} {v:Value} {xs:List Int} (h:Row base w v xs) (hl:xs.length * 8≤140737488351232):∃ ao ac,v=.slice ao xs.length ac∧ArgT w ao xs ac∧∀ a,ao=some a→base≤a.block:=by
 obtain ⟨ao,ac,e,h1,h2,h3⟩:=h.ints
 rcases h.2 with ⟨e2,h0⟩ | ⟨g,cap,cur,e2,hb,hg,hle,_⟩
 ·rw [e] at e2
  simp only [Value.slice.injEq] at e2
  obtain ⟨rfl,_,rfl⟩:=e2
  exact ⟨none,0,e,⟨⟨h1,by omega,fun _=>⟨h0,rfl⟩,by omega⟩,fun a e=>by cases e⟩,fun a e=>by cases e⟩
 ·rw [e] at e2
  simp only [Value.slice.injEq] at e2
  obtain ⟨rfl,_,rfl⟩:=e2
  exact ⟨_,ac,e,⟨⟨h1,hle,(fun e=>by cases e),by omega⟩,fun a e=>by cases e;exact ⟨cur,hg⟩⟩,fun a e=>by cases e;exact hb⟩
theorem Row.last {base:Nat} {w:World} {vo:Option Addr} {vc:Nat} {T:List Int} {z:Int} (h:Row base w (.slice vo (T.length+1) vc) (T ++ [z])) :
  ∃ g,vo=some ⟨g,0,none⟩∧base≤g∧w.cell? ⟨g,T.length,none⟩=some (.int .i64 z)∧Row base w (.slice (some ⟨g,0,none⟩) T.length vc) T∧T.length+1≤vc:=by
 have hi:=h.ints
 obtain ⟨ao,ac,e,h1,h2,h3⟩:=hi
 simp only [Value.slice.injEq] at e
 obtain ⟨rfl,_,rfl⟩:=e
 obtain ⟨b,off,e1,hlt,hc⟩:=h1.get (i:=T.length) (by simp)
 subst e1
 unfold Row at h
 rcases h.2 with ⟨e2,h0⟩ | ⟨g,cap,cur,e2,hb,hg,hle,hm,hsz,ht⟩
 ·cases e2
 ·simp only [Value.slice.injEq,Option.some.injEq,Addr.mk.injEq,and_true] at e2
  obtain ⟨⟨rfl,rfl⟩,e3,rfl⟩:=e2
  refine ⟨b,rfl,hb,by simpa using hc,?_,by simpa using hle⟩
  unfold Row
  refine ⟨by simp [iv_length],.inr ⟨b,vc,cur,rfl,hb,hg,by simp at hle;omega,hm,hsz,?_⟩⟩
  have:=congrArg (List.take T.length) ht
  rw [List.take_take] at this
  simp [iv] at this
  simpa [iv,Nat.min_eq_left (Nat.le_succ _)] using this
def sRef (n:Int) (xs:List Int):Int:=if insB n xs=true then 0 else 120
theorem sRef_yes {n:Int} {xs:List Int} (h:∀ z∈xs,0≤z∧z<n):sRef n xs=0:=by unfold sRef;rw [if_pos (insB_iff.2 h)]
theorem sRef_no {n:Int} {xs:List Int} (h:¬ ∀ z∈xs,0≤z∧z<n):sRef n xs=120:=by unfold sRef;rw [if_neg (fun e=>h (insB_iff.1 e))]
set_option maxHeartbeats 1000000 in
theorem srefusal_any {B:Nat→Prop} {w:World} {h g room:Nat} {l:List Nd} (p:HpB B w h g room l) {ao:Option Addr} {xs:List Int} (cap:Nat) (hx:IntsAt w ao xs) (hm:xs.length≤100000000000000) :
  Calls Try.prog 52 #[.pointer (some ⟨h,0,none⟩),.slice ao xs.length cap] w fun e w' => e=.returned (.int .i64 (sRef (l.length:Int) xs))∧w' = w:=by
 have CU:=used_any p
 obtain ⟨n,hn⟩:∃ n:Int,n=(l.length:Int):=⟨_,rfl⟩
 rw [← hn] at CU ⊢
 have H1:Hid (∀ k (hk:k<xs.length),¬ (0≤xs[k]∧xs[k]<n)→sRef n xs=120):=fun k hk h=>sRef_no (fun e=>h (e _ (List.getElem_mem hk)))
 have HM:Hid (xs.length≤100000000000000):=hm
 clear p hn hm
 go_enter Try.func52,Try.ntmps52
 go_wp2
 go_loop [11] (fun i=>∃ k:Nat,k≤xs.length∧i=.int .i64 k∧Hid (∀ j (hj:j<xs.length),j<k→0≤xs[j]∧xs[j]<n)) (fun i=>xs.length-(intOf i).toNat)
 case atStart=>exact ⟨0,Nat.zero_le _,rfl,fun j _ hj=>absurd hj (Nat.not_lt_zero _)⟩
 case round=>
  obtain ⟨k,hk,rfl,hall⟩:=hrel
  by_cases hlt:k<xs.length
  ·obtain ⟨b,off,rfl,hb,hc⟩:=hx.get hlt
   have i1:(0:Int)≤(k:Int):=by omega
   have i2:(k:Int)<(xs.length:Int):=by omega
   have i3:(k:Int)<100000000000000:=by have:=HM.out;omega
   clear hx
   by_cases h1:xs[k]<0
   ·have H2:Hid (sRef n xs=120):=H1.out k hlt (by omega)
    clear H1
    go_wp2_with (first | (go_at_call 17;refine CU.mono ?_;rintro e w' ⟨rfl,rfl⟩))
    go_ret
    exact ⟨ret_int H2.out.symm,rfl⟩
   ·by_cases h2:n≤xs[k]
    ·have H2:Hid (sRef n xs=120):=H1.out k hlt (by omega)
     clear H1
     go_wp2_with (first | (go_at_call 17;refine CU.mono ?_;rintro e w' ⟨rfl,rfl⟩))
     go_ret
     exact ⟨ret_int H2.out.symm,rfl⟩
    ·have iw:IntKind.i64.wrap ((k:Int)+1)=(k:Int)+1:=by rw [IntKind.wrap_i64];omega
     have h3:decide (n≤xs[k])=false:=by simpa using h2
     have h4:decide (xs[k]<0)=false:=by simpa using h1
     have G2:Hid (¬ n≤xs[k]∧¬ xs[k]<0):=⟨h2,h1⟩
     clear i3 h1 h2 H1
     go_wp2_with (first | (go_at_call 17;refine CU.mono ?_;rintro e w' ⟨rfl,rfl⟩))
     go_round
     case rel=>exact ⟨k+1,by omega,by go_num,fun j hj hjk=>by
      by_cases e:j=k
      ·subst e;have:=G2.out;omega
      ·exact hall.out j hj (by omega)⟩
     case measure=>simp [intOf];omega
  ·obtain rfl:k=xs.length:=by omega
   have H2:Hid (sRef n xs=0):=sRef_yes (fun z hz=>by
    obtain ⟨j,hj,rfl⟩:=List.mem_iff_getElem.1 hz
    exact hall.out j hj hj)
   clear hall H1
   go_wp2
   go_ret
   exact ⟨ret_int H2.out.symm,rfl⟩
def keptL (n:Nat) (s:List Int):List Nat:=(List.range n).filter (fun a=>s[a]? == some (a:Int))
theorem keptL_succ (n:Nat) (s:List Int):keptL (n+1) s=keptL n s++(if s[n]? = some (n:Int) then [n] else []):=by
 unfold keptL
 rw [List.range_succ,List.filter_append]
 by_cases h:s[n]? = some (n:Int) <;> simp [h]
theorem keptL_mem {n:Nat} {s:List Int} {a:Nat}:a∈keptL n s ↔ a<n∧s[a]? = some (a:Int):=by
 unfold keptL;simp
theorem keptL_lt (n:Nat) (s:List Int):(keptL n s).Pairwise (· < ·):=List.Pairwise.filter _ List.pairwise_lt_range
theorem keptL_len (n:Nat) (s:List Int):(keptL n s).length≤n:=by
 have:=List.length_filter_le (fun a:Nat=>s[a]? == some (a:Int)) (List.range n)
 simpa [keptL] using this
set_option maxHeartbeats 2000000 in
theorem skept_any {B:Nat→Prop} {w:World} {h g room:Nat} {l:List Nd} (p:HpB B w h g room l) {base ib c n:Nat} {s:List Int} (hs:Row base w (.slice (some ⟨ib,0,none⟩) n c) s) (hn:s.length=n) (hl:l.length≤n) :
  Calls Try.prog 54 #[.pointer (some ⟨h,0,none⟩),.slice (some ⟨ib,0,none⟩) n c] w fun e w' => ∃ v,e=.returned v∧Row w.heap.size w' v (ofN (keptL l.length s))∧Same0 w w' := by
 have CU:=used_any p
 have hm:l.length≤4000:=by have:=p.le;have:=p.rm2;omega
 have HI:Hid (∀ ww,Same0 w ww→∀ a,(h:a<s.length)→ww.cell? ⟨ib,a,none⟩=some (.int .i64 s[a])):=fun ww hk a ha=>by
  obtain ⟨h1, -, -,h2⟩:=row_at hs ha
  exact (hk.cell (p:=⟨ib,a,none⟩) h2 (fun f=>f)).trans h1
 have HN:Hid (s.length=n):=hn
 have HL:Hid (l.length≤n):=hl
 clear p hs hn hl
 obtain ⟨M,hM⟩:∃ M,M=l.length:=⟨_,rfl⟩
 rw [← hM] at CU HL hm ⊢
 clear hM
 go_enter Try.func54,Try.ntmps54
 go_upto_region 3 with (first | (go_at_call 17;refine CU.mono ?_;rintro e w' ⟨rfl,hw'⟩;have hw' := hw'.symm;subst hw'))
 go_loopw [5,9] (fun v5 v9 wr=>∃ k:Nat,k≤M∧v9=.int .i64 (k:Int)∧Hid (Row w.heap.size wr v5 (ofN (keptL k s)))∧Same0 w wr) (fun _ v9 _=>M-(intOf v9).toNat)
 case atStart=>exact ⟨0,Nat.zero_le _,rfl,World.ownsRow_nil _ _ _ _,Kept.refl _ _⟩
 case round=>
  obtain ⟨k,hk,rfl,HR,hw⟩:=hrel
  by_cases hlt:k<M
  ·have hks:k<s.length:=by rw [HN.out];exact Nat.lt_of_lt_of_le hlt HL.out
   have hc:=HI.out wr hw k hks
   have i1:(0:Int)≤(k:Int):=by omega
   have i2:(k:Int)<(M:Int):=by omega
   have i3:(k:Int)<(n:Int):=by have:=HL.out;omega
   have i4:(M:Int)≤4000:=by omega
   by_cases q:s[k]=(k:Int)
   ·rw [q] at hc
    have HK:Hid (keptL (k+1) s=keptL k s ++ [k]):=by show _=_;rw [keptL_succ,if_pos (by rw [List.getElem?_eq_getElem hks,q])]
    have hb:w.heap.size≤wr.heap.size:=hw.size
    have hsz:((ofN (keptL k s)).length+1) * 8≤140737488355328:=by have:=keptL_len k s;rw [ofN_len'];omega
    have HR' : Hid (∀ v' w', Row w.heap.size w' v' (ofN (keptL k s) ++ [(k:Int)])→Row w.heap.size w' v' (ofN (keptL (k+1) s))):=fun v' w' hr=>by rw [HK.out,ofN_snoc];exact hr
    generalize ofN (keptL k s)=P at *
    obtain ⟨vo,vc,e⟩:=row_shape HR.out
    subst e
    clear q HK
    go_wp2_with (first | (at_builtin;refine wpList_push rfl _ _ 31 rfl Try.underlying31 w.heap.size P _ rfl HR.out (k:Int) rfl hb hsz ?_;intro g5 c5 w5 hr5 hk5 hg5))
    have hr6:=HR'.out _ _ hr5
    have hw6:=hw.onto HR.out hk5
    go_roundw
    case rel=>exact ⟨k+1,by omega,by go_num,hr6,hw6⟩
    case measure=>simp [intOf];omega
   ·have HK:Hid (keptL (k+1) s=keptL k s):=by show _=_;rw [keptL_succ,if_neg (by rw [List.getElem?_eq_getElem hks];simpa using q)];simp
    have q1:(s[k] == (k:Int))=false:=by simpa using q
    have HR' : Hid (Row w.heap.size wr u5 (ofN (keptL (k+1) s))):=by rw [HK.out];exact HR.out
    clear q HK HR
    go_wp2
    go_roundw
    case rel=>exact ⟨k+1,by omega,by go_num,HR', hw⟩
    case measure=>simp [intOf];omega
  ·obtain rfl:k=M:=by omega
   go_wp2
   go_ret
   exact ⟨_,rfl,HR.out,hw⟩
end Go.Proofs.Ytmloedlkoijfbaa
