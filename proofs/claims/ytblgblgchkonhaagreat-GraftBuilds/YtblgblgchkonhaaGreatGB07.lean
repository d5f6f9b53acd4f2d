import Derived.Test.YtblgblgchkonhaaGreatGB06
import Derived.Test.YtblgblgchkonhaaGreatGB03
import Derived.RangeFuncCalls
import Derived.Test.YtblgblgchkonhaaGreatGB01
import Derived.Test.YtblgblgchkonhaaGreatGB02
import Derived.Test.YtblgblgchkonhaaGreatProg
import Derived.KernelRfl
import Derived.Handy
import Derived.LaidEql
import Derived.Stop.Asserts
import Derived.RowKitTokens
namespace Go.Proofs.YtblgblgchkonhaaGreat
set_option maxRecDepth 100000
set_option linter.unusedVariables false
open Go.RowKit
theorem Row.own_int {base:Nat} {X:World} {v:Value} {xs:List Int} (r:Row base X v xs) {q:Nat} (e:v.ownBlock=some q):base≤q∧∃ cur,X.heap[q]? = some (.cells cur 3 (0,0)):=by
 rcases r.2 with ⟨e1,_⟩ | ⟨g', cap', cur', e1,hb,hg', _⟩
 ·rw [e1] at e;cases e
 ·rw [e1] at e
  have e2:g' = q:=Option.some.inj e
  exact ⟨e2 ▸ hb,cur', e2 ▸ hg'⟩
theorem rev_row {base:Nat} {X:World} {vo:Option Addr} {vc:Nat} {xs:List Int} (hr:Row base X (.slice vo xs.length vc) xs) (m a:Nat) (hm:xs.length=m+a) (ha:a≤6) (ao:Option Addr) (hao:ao=if vc=m then vo else vo.map (·.add m)) :
  Calls Tryz.prog 64 #[.slice ao a (vc-m)] X fun e w1=>e=.returned (.tuple #[])∧Arg w1 ao (xs.drop m).reverse (vc-m)∧Row base w1 (.slice vo m vc) (xs.take m)∧Kept (fun k=>(Value.slice vo xs.length vc).ownBlock=some k) X w1:=by
 unfold Row at hr
 rcases hr.2 with ⟨e2,h0⟩ | ⟨g,cap,cur,e2,hb,hg,hle,hml,hsz,ht⟩
 ·simp only [Value.slice.injEq] at e2
  obtain ⟨rfl,e3,rfl⟩:=e2
  have hx:xs=[]:=List.length_eq_zero_iff.1 h0
  subst hx
  obtain ⟨rfl,rfl⟩:m=0∧a=0:=by simp at hm;omega
  simp only [if_true] at hao
  subst hao
  refine (rev_none none _ X).mono ?_
  rintro e w1 ⟨rfl,rfl⟩
  exact ⟨rfl,⟨.inl rfl,by simp,fun _=>⟨rfl,rfl⟩,by simp⟩,hr,Kept.refl _ _⟩
 ·simp only [Value.slice.injEq] at e2
  obtain ⟨rfl,e3,rfl⟩:=e2
  have hcap:xs.length≤vc:=by simpa using hle
  have cs:cur.size=vc:=by simpa using hsz
  have hci:∀ k (h:k<xs.length),cur[k]? = some (.int .i64 xs[k]):=fun k hk=>by
   have e5:(iv xs)[k]? = some (.int .i64 xs[k]):=iv_get hk
   rw [← ht,List.getElem?_take] at e5
   split at e5
   ·simpa using e5
   ·cases e5
  have rowOf:∀ {w1:World} {cu:Array Value},w1.heap[g]? = some (.cells cu 3 (0,0))→cu.size=vc→(∀ o,o<m→cu[o]? = cur[o]?)→Row base w1 (.slice (some ⟨g,0,none⟩) m vc) (xs.take m):=by
   intro w1 cu q1 q2 q3
   have hlm:(xs.take m).length=m:=by simp;omega
   unfold Row
   rw [hlm]
   refine ⟨by simp [iv_length];omega,.inr ⟨g,vc,cu,rfl,hb,q1,by omega,hml,by omega,?_⟩⟩
   apply List.ext_getElem?
   intro i
   by_cases hi:i<m
   ·rw [List.getElem?_take,if_pos (by omega),iv_get (by simp;omega)]
    have:=(q3 i hi).trans (hci i (by omega))
    simpa using this
   ·rw [List.getElem?_take,if_neg (by omega)]
    simp [iv]
    omega
  by_cases h0:a=0
  ·subst h0
   have hd:xs.drop m=[]:=List.drop_of_length_le (by omega)
   rw [hd]
   refine (rev_none ao _ X).mono ?_
   rintro e w1 ⟨rfl,rfl⟩
   refine ⟨rfl,⟨.inl rfl,by simp,fun q=>?_,by simp⟩,rowOf hg cs (fun _ _=>rfl),Kept.refl _ _⟩
   rw [hao] at q
   split at q <;> cases q
  ·have e1:ao=some ⟨g,m,none⟩:=by rw [hao,if_neg (by omega)];show some (Addr.add ⟨g,0,none⟩ m)=_;simp [Addr.add];exact fun e=>e.symm
   subst e1
   have hdl:(xs.drop m).length=a:=by simp;omega
   have C:=rev_any (b:=g) (off:=m) (xs:=xs.drop m) hg (by omega) (fun k hk=>by rw [hci (m+k) (by omega)];simp) (by omega) (vc-m)
   rw [← hdl]
   refine C.mono ?_
   rintro e w1 ⟨rfl,⟨cu,c1,c2,c3,c4⟩,k1⟩
   refine ⟨rfl,⟨.inr ⟨g,m,rfl,lt_of_at c1,fun i hi=>?_⟩,by simp;omega,fun q=>(by cases q),by simp;omega⟩,rowOf c1 (by omega) (fun o ho=>c4 o (by omega)),k1.mono (fun i _ e=>by rw [e];rfl)⟩
   have hi' : i<(xs.drop m).length:=by simpa using hi
   rw [cellAt c1,c3 i hi']
   congr 2
   rw [List.getElem_reverse]
structure LyJ (B:Nat→Prop) (w:World) (h g room:Nat) (N:List Nd) (l:List Tg) (C:Nat→Prop) (k:Nat) (X:World):Prop where
 ex:∃ v,X.heap[w.heap.size+1]? = some (.cells #[v] 33 (0,0))∧Row (w.heap.size+3) X v (layF N (l.drop (l.length-k))).2.reverse∧(∀ q,v.ownBlock=some q→¬ C q)∧HpB (fun b=>(B b∧b<w.heap.size)∨(w.heap.size≤b∧v.ownBlock≠some b)) X h g room (layF N (l.drop (l.length-k))).1
 bx:X.heap[w.heap.size]? = some (.cells #[.pointer (some ⟨h,0,none⟩)] 29 (0,0))
 kp:Kept (fun k=>k=h∨k=g) w X
 no:¬ C (w.heap.size+1)∧¬ C h∧¬ C g
 lt:h<w.heap.size∧g<w.heap.size
theorem LyJ.same {B:Nat→Prop} {w:World} {h g room:Nat} {N:List Nd} {l:List Tg} {C:Nat→Prop} {k:Nat} {X Y:World} (j:LyJ B w h g room N l C k X) (hk:Same0 X Y):LyJ B w h g room N l C k Y:=by
 obtain ⟨v,h1,h2,h3,h4⟩:=j.ex
 exact ⟨⟨v,hk.at0 h1,hk.row h2 (fun _ _ f=>f),h3,h4.same hk⟩,hk.at0 j.bx,j.kp.trans hk (fun _ _ f=>f.elim),j.no,j.lt⟩
theorem rec_not {X:World} {r:Nat} {o:Obj} (hl:X.heap[r]? = some o) (ho:o.isCells=false) {cs:Array Value} {t:TypeId} {fr:Nat × Nat} {q:Nat} (hq:X.heap[q]? = some (.cells cs t fr)):q≠r:=fun e=>by
 rw [e,hl] at hq;cases hq;cases ho
theorem LyJ.put {B:Nat→Prop} {w:World} {h g room:Nat} {N:List Nd} {l:List Tg} {C:Nat→Prop} {k:Nat} {X:World} {r:Nat} {o o' : Obj} (j:LyJ B w h g room N l C k X) (hl:X.heap[r]? = some o) (ho:o.isCells=false) (hw:w.heap.size≤r):LyJ B w h g room N l C k (X.putObj r o'):=by
 obtain ⟨v,h1,h2,h3,h4⟩:=j.ex
 have kk:Kept (fun k=>k=r) X (X.putObj r o'):=kept_putH
 obtain ⟨cs,q1,q2⟩:=h4.blk
 refine ⟨⟨v,putObj_at hl ho h1 rfl,kk.row h2 (fun q e s=>?_),h3,h4.kept kk (fun e=>rec_not hl ho h4.box e) (fun e=>rec_not hl ho q1 e) (fun q _ s cur hc=>rec_not hl ho hc s)⟩,putObj_at hl ho j.bx rfl,j.kp.trans kk (fun i hi e=>by have e' : i=r:=e;omega),j.no,j.lt⟩
 obtain ⟨_,cur,hc⟩:=h2.own_int e
 exact rec_not hl ho hc s
theorem LyJ.next {B:Nat→Prop} {w:World} {h g room:Nat} {N:List Nd} {l:List Tg} {C:Nat→Prop} {k:Nat} {X w3:World} {v v' : Value} (j:LyJ B w h g room N l C k X) (hC:CellsOf C X) (hv:X.heap[w.heap.size+1]? = some (.cells #[v] 33 (0,0))) (h2:Row (w.heap.size+3) X v (layF N (l.drop (l.length-k))).2.reverse) (h3:∀ q,v.ownBlock=some q→¬ C q)
  (hr:Row (w.heap.size+3) w3 v' (layF N (l.drop (l.length-(k+1)))).2.reverse) (hp:HpB (fun b=>(B b∧b<w.heap.size)∨(w.heap.size≤b∧v'.ownBlock≠some b)) w3 h g room (layF N (l.drop (l.length-(k+1)))).1) (kp:Kept (fun q=>v.ownBlock=some q∨q=h∨q=g) X w3) (hat:∀ q,v'.ownBlock=some q→v.ownBlock=some q∨X.heap.size≤q) :
  w3.heap[w.heap.size+1]? = some (.cells #[v] 33 (0,0))∧LyJ B w h g room N l C (k+1) (w3.setCell ⟨w.heap.size+1,0,none⟩ v')∧∀ D,RndC D C X (w3.setCell ⟨w.heap.size+1,0,none⟩ v'):=by
 obtain ⟨lh,lg⟩:=j.lt
 have ob:∀ q,v.ownBlock=some q→w.heap.size+3≤q:=fun q e=>(h2.own_int e).1
 have n1:∀ i,w.heap.size≤i→i<w.heap.size+3→¬ (v.ownBlock=some i∨i=h∨i=g):=fun i h1 hi e=>by
  rcases e with e | e | e
  ·have:=ob i e;omega
  ·omega
  ·omega
 have q2:=kp.at hv (n1 _ (by omega) (by omega))
 have ks:Kept (fun q=>q=w.heap.size+1) w3 (w3.setCell ⟨w.heap.size+1,0,none⟩ v'):=Kept.setCell (S:=fun q=>q=w.heap.size+1) (Kept.refl _ _) (p:=⟨w.heap.size+1,0,none⟩) (fun _=>rfl) _
 have ni:∀ q,q=w.heap.size+1→NotI w3 q:=fun q e cur hc=>by rw [e,q2] at hc;cases hc
 refine ⟨q2,⟨⟨v', ?_,ks.row hr (fun q e s=>?_),fun q e hc=>?_,hp.kept ks (by omega) (by omega) (fun q _ s=>ni q s)⟩,ks.at (kp.at j.bx (n1 _ (by omega) (by omega))) (by omega),?_,j.no,j.lt⟩,fun D=>⟨⟨?_,fun i o hD hi ho=>?_⟩,?_⟩⟩
 ·have:=setAt q2 0 v'
  simpa using this
 ·have:=(hr.own_int e).1;omega
 ·rcases hat q e with q1 | q1
  ·exact h3 q q1 hc
  ·obtain ⟨cs,t,fr,q2⟩:=hC q hc
   have:=lt_of_at q2
   omega
 ·exact (j.kp.trans kp (fun i hi e=>by
   rcases e with e | e
   ·have:=ob i e;omega
   ·exact e)).trans ks (fun i hi e=>by omega)
 ·exact Nat.le_trans kp.size ks.size
 ·obtain ⟨_,_,_,_,h4⟩:=j.ex
  obtain ⟨cs,q1,_⟩:=h4.blk
  have hn1:¬ (v.ownBlock=some i∨i=h∨i=g):=fun e=>by
   rcases e with e | e | e
   ·obtain ⟨_,cur,hc⟩:=h2.own_int e
    rw [hi] at hc;cases hc;cases ho
   ·rw [e,h4.box] at hi;cases hi;cases ho
   ·rw [e,q1] at hi;cases hi;cases ho
  have hn2:i≠w.heap.size+1:=fun e=>by rw [e,hv] at hi;cases hi;cases ho
  exact ks.at (kp.at hi hn1) hn2
 ·exact (kp.mono (fun i _ e=>by
   rcases e with e | e | e
   ·exact h3 i e
   ·rw [e];exact j.no.2.1
   ·rw [e];exact j.no.2.2)).trans ks (fun i _ e hc=>by have e' : i=w.heap.size+1:=e;rw [e'] at hc;exact j.no.1 hc)
theorem drop_last {l:List Tg} {k:Nat} (hk:k<l.length):l.drop (l.length-(k+1))=l[l.length-1-k] :: l.drop (l.length-k):=by
 have e:l.length-(k+1)=l.length-1-k:=by omega
 have e2:l.length-k=l.length-1-k+1:=by omega
 rw [e,e2]
 exact List.drop_eq_getElem_cons (by omega)
end Go.Proofs.YtblgblgchkonhaaGreat
namespace Go.Proofs.YtblgblgchkonhaaGreat
set_option maxRecDepth 100000
set_option linter.unusedVariables false
open Go.RowKit Go.Shelf
attribute [local go_sem] Oper.semAt_some
theorem rev_snoc {S:List Int} {m a:Nat} (h:S.length=m+a):S.reverse.take m=(S.drop a).reverse:=by
 rw [List.take_reverse]
 congr 2
 omega
theorem rev_args {S:List Int} {m a:Nat} (h:S.length=m+a):(S.reverse.drop m).reverse=S.take a:=by
 rw [List.drop_reverse,List.reverse_reverse]
 congr 1
 omega
theorem TgB.ne {B:Nat→Prop} {w:World} {h g room b:Nat} {N:List Nd} {l:List Tg} (pt:TgB w b l) (p:HpB B w h g room N):b≠h∧b≠g:=by
 obtain ⟨cs,q1,_⟩:=pt
 obtain ⟨cs', q2,_⟩:=p.blk
 refine ⟨fun e=>?_,fun e=>?_⟩
 ·rw [e,p.box] at q1;cases q1
 ·rw [e,q2] at q1;cases q1
theorem TgB.lt {w:World} {b:Nat} {l:List Tg} (pt:TgB w b l):b<w.heap.size:=by
 obtain ⟨cs,q1,_⟩:=pt
 exact lt_of_at q1
set_option maxHeartbeats 4000000 in
theorem lay_any {B:Nat→Prop} {w:World} {h g room:Nat} {N:List Nd} {l:List Tg} (p:HpB B w h g room N) {b:Nat} (cap:Nat) (pt:TgB w b l) (h1:oneT 1 l=true) (ho:∀ x∈l,TgOk N.length x) (hrm:N.length+newN l≤room) (hl:l.length≤10000000000000) :
  Calls Tryz.prog 34 #[.pointer (some ⟨h,0,none⟩),.slice (some ⟨b,0,none⟩) l.length cap] w fun e w' => ∃ a:Nat,e=.returned (.int .i64 (a:Int))∧(layF N l).2=[(a:Int)]∧HpB (fun b=>B b∨w.heap.size≤b) w' h g room (layF N l).1∧Kept (fun k=>k=h∨k=g) w w' := by
 have hFn:∀ k,Fence.wide.fn k:=fun _=>trivial
 obtain ⟨nb1,nb2⟩:=pt.ne p
 have hbl:=pt.lt
 have lth:=p.ltH
 have ltg:=p.ltG
 obtain ⟨W0,hW0⟩:∃ W0,W0=((w.alloc (.cells #[.pointer (some ⟨h,0,none⟩)] 29)).alloc (.cells #[.slice none 0 0] 33)).alloc (.cells #[.slice (some ⟨b,0,none⟩) l.length cap] 100):=⟨_,rfl⟩
 have K0:Same0 w W0:=by rw [hW0];exact (((Kept.refl _ w).alloc _).alloc _).alloc _
 have z0:W0.heap.size=w.heap.size+3:=by rw [hW0];simp
 have b2:W0.heap[w.heap.size+1+1]? = some (.cells #[.slice (some ⟨b,0,none⟩) l.length cap] 100 (0,0)):=by
  rw [hW0]
  have:=heap_alloc_new ((w.alloc (.cells #[.pointer (some ⟨h,0,none⟩)] 29)).alloc (.cells #[.slice none 0 0] 33)) (.cells #[.slice (some ⟨b,0,none⟩) l.length cap] 100)
  simpa using this
 have b0:W0.heap[w.heap.size]? = some (.cells #[.pointer (some ⟨h,0,none⟩)] 29 (0,0)):=by
  rw [hW0,heap_alloc_old _ _ (by simp;omega),heap_alloc_old _ _ (by simp)];exact heap_alloc_new w _
 have b1:W0.heap[w.heap.size+1]? = some (.cells #[.slice none 0 0] 33 (0,0)):=by
  rw [hW0,heap_alloc_old _ _ (by simp)]
  have:=heap_alloc_new (w.alloc (.cells #[.pointer (some ⟨h,0,none⟩)] 29)) (.cells #[.slice none 0 0] 33)
  simpa using this
 have p0:HpB (fun b=>(B b∧b<w.heap.size)∨(w.heap.size≤b∧(Value.slice none 0 0).ownBlock≠some b)) W0 h g room N:=(p.mono (B' := fun b=>(B b∧b<w.heap.size)∨(w.heap.size≤b∧(Value.slice none 0 0).ownBlock≠some b)) (fun k hk _ hb=>.inl ⟨hb,hk⟩)).same K0
 have pt0:=pt.same K0
 refine (callsIn_wide (n:=9)).1 ?_
 refine callsIn_of_wp_marks Tryz.func34 rfl trivial ?_ rfl
 simp only [Tryz.ntmps34,List.size_toArray,List.length_cons,List.length_nil,Nat.reduceAdd,Nat.reduceSub,Array.replicate_succ,Array.replicate_zero,List.push_toArray,List.append_toArray,List.nil_append,List.cons_append]
 gi_wp2_with (gi_at_call 63;refine (back_in Fence.wide _ trivial rfl _ _ _ _).mono ?_;rintro e w' ⟨rfl,rfl⟩)
 rw [← hW0]
 clear hW0
 have START:∀ C X,Same0 W0 X→CellsOf C X→(∀ i,C i→W0.heap.size≤i∨i=w.heap.size+1+1∨i=b)→LyJ B w h g room N l C 0 X:=fun C X hk _ hc=>
  ⟨⟨.slice none 0 0,hk.at0 b1,by simp [layF];exact World.ownsRow_nil _ _ _ _,(fun q e=>by cases e),by simpa [layF] using p0.same hk⟩,hk.at0 b0,(K0.trans' hk).mono (fun _ _ f=>f.elim),⟨fun q=>by have:=hc _ q;omega,fun q=>by have:=hc _ q;omega,fun q=>by have:=hc _ q;omega⟩,lth,ltg⟩
 refine wp_handsC rfl (by omega) (gf:=86) (lb:=#[.pointer (some ⟨w.heap.size+1+1,0,none⟩)]) rfl trivial (enters_of Tryz.func86 (by kernel_rfl) rfl) (hands_back pt0 b2 (by omega) (by omega)) (fun k vs W h=>by obtain ⟨_,rfl⟩:=h;rfl)
  (LyJ B w h g room N l) (fun C k X Y h hk=>h.same hk) (fun C k X r o o' h hl ho hw=>h.put hl ho (by omega)) START (fun _=>False) (fun _ _ h=>h.elim) (fun _ _ _ _ h=>h.elim) ?round ?done ?stop
 case stop=>exact fun _ _ _ h=>h.elim
 case done=>
  rintro D W hD ⟨C,hj⟩ hD2
  obtain ⟨v,q1,q2,q3,q4⟩:=hj.ex
  rw [Nat.sub_self,List.drop_zero] at q2 q4
  obtain ⟨a,ea,ha⟩:=lay_one h1 ho
  have q2' : Row (w.heap.size+3) W v [(a:Int)]:=by rw [ea] at q2;exact q2
  obtain ⟨vo,vc,hv,vi,vl,_⟩:=q2'.ints
  subst hv
  obtain ⟨vb,voff,rfl,hvb,hvc⟩:=vi.get (i:=0) (by simp)
  have v2:=cellAt q1 0
  simp only [List.getElem?_toArray,List.getElem?_cons_zero,List.length_cons,List.length_nil,Nat.zero_add] at v2
  simp only [List.getElem_cons_zero,Nat.add_zero] at hvc
  have FIN:Hid (HpB (fun b=>B b∨w.heap.size≤b) (W.putObj D (.deferred none)) h g room (layF N l).1∧Kept (fun k=>k=h∨k=g) w (W.putObj D (.deferred none))):=by
   have kk:Kept (fun k=>k=D) W (W.putObj D (.deferred none)):=kept_putH
   have hpk:=q4.kept kk (by omega) (by omega) (fun q _ s cur hc=>rec_not hD2 rfl hc s)
   exact ⟨hpk.mono (fun k _ _ e=>e.elim (fun e=>.inl e.1) (fun e=>.inr e.1)),hj.kp.trans kk (fun i hi e=>by have e' : i=D:=e;omega)⟩
  clear q1 q2 q3 q4 q2' hj START
  gi_wp2_with fail
  refine ⟨by simp,.inl ⟨_,_,rfl,run_takeDeferred hD2,?_⟩⟩
  refine ⟨.int .i64 (a:Int),by simp [results,Tryz.results34,go_sem],a,rfl,ea,FIN.out.1,FIN.out.2⟩
 case round=>
  rintro r C k vs W hk hr' hrW hcc hj ⟨hkl,rfl⟩
  have hxm:=List.getElem_mem hkl
  have hxo:=ho _ hxm
  have ED:=drop_last hk
  have hsub:∀ y∈l.drop (l.length-(k+1)),TgOk N.length y:=fun y hy=>ho y (List.mem_of_mem_drop hy)
  obtain ⟨k', hone⟩:=one_drop h1 (l.length-(k+1))
  have hroom:N.length+newN (l.drop (l.length-(k+1)))≤room:=Nat.le_trans (Nat.add_le_add_left (newN_drop l _) _) hrm
  have hshort:(layF N (l.drop (l.length-k))).2.length≤l.length:=by have:=lay_short N (l.drop (l.length-k));simp at this;omega
  rw [ED] at hsub hone hroom
  generalize l[l.length-1-k]=x at *
  simp only [tgV]
  obtain ⟨Wa,hWa⟩:∃ Wa,Wa=W.alloc (.cells #[.bool x.1,.int .i64 x.2.1,.int .i64 x.2.2.1,.int .i64 x.2.2.2] 139):=⟨_,rfl⟩
  have ka:Same0 W Wa:=by rw [hWa];exact (Kept.refl _ _).alloc _
  have bx:Wa.heap[W.heap.size]? = some (.cells #[.bool x.1,.int .i64 x.2.1,.int .i64 x.2.2.1,.int .i64 x.2.2.2] 139 (0,0)):=by rw [hWa];exact heap_alloc_new _ _
  gi_wp2_with fail
  rw [← hWa]
  clear hWa
  refine ⟨RndC.same ka,fun o o' ho' hoc hoc' => ?_⟩
  have hjb:=(hj.same ka).put (o' := o') ho' hoc (by omega)
  have hccb:=(hcc.same ka).kept ((hcc.same ka).put (o' := o') ho' hoc)
  have bxb:=putObj_at (o' := o') ho' hoc bx rfl
  obtain ⟨Wb,hWb⟩:∃ Wb,Wb=Wa.putObj r o' := ⟨_,rfl⟩
  rw [← hWb] at hjb hccb bxb ⊢
  have hzb:W0.heap.size≤Wb.heap.size:=by have h1:=ka.size;rw [hWb];simp;omega
  clear hWb ho' bx hj ka hcc hxm
  have x0:=cellAt bxb 0
  have x1:=cellAt bxb 1
  have x2:=cellAt bxb 2
  have x3:=cellAt bxb 3
  obtain ⟨v,v1,v2,v3,v4⟩:=hjb.ex
  have c2:=cellAt v1 0
  simp only [List.getElem?_toArray,List.getElem?_cons_zero,List.getElem?_cons_succ] at c2 x0 x1 x2 x3
  obtain ⟨vo,vc,rfl⟩:=row_shape v2
  obtain ⟨i0,hi0,hz0,hz1,hz2⟩:=info_parts info_intT
  cases hx:x.1
  ·rw [hx] at x0 bxb
   have EL:layF N (l.drop (l.length-(k+1)))=((layF N (l.drop (l.length-k))).1,x.2.2.2 :: (layF N (l.drop (l.length-k))).2):=by rw [ED];exact lay_old N _ hx
   have MORE:Hid (∀ w2 v', w2.ownsRow (w.heap.size+3) 3 1 v' ((layF N (l.drop (l.length-k))).2.reverse.length+1) (iv (layF N (l.drop (l.length-k))).2.reverse ++ [.int .i64 x.2.2.2])→Kept (fun q=>(Value.slice vo (layF N (l.drop (l.length-k))).2.reverse.length vc).ownBlock=some q) Wb w2→(∀ q,v'.ownBlock=some q→(Value.slice vo (layF N (l.drop (l.length-k))).2.reverse.length vc).ownBlock=some q∨Wb.heap.size≤q)→(w2.cell? ⟨w.heap.size+1,0,none⟩=some (.slice vo (layF N (l.drop (l.length-k))).2.reverse.length vc)∧w2.frozen? ⟨w.heap.size+1,0,none⟩=false)∧LyJ B w h g room N l C (k+1) (w2.setCell ⟨w.heap.size+1,0,none⟩ v')∧RndC W0.heap.size C Wb (w2.setCell ⟨w.heap.size+1,0,none⟩ v')):=fun w2 v' hr hkp hat=>by
    have hr2:Row (w.heap.size+3) w2 v' (layF N (l.drop (l.length-(k+1)))).2.reverse:=by
     rw [EL]
     unfold Row
     rw [List.reverse_cons,iv_append,List.length_append]
     exact hr
    have hob:∀ q,(Value.slice vo (layF N (l.drop (l.length-k))).2.reverse.length vc).ownBlock=some q→w.heap.size+3≤q:=fun q e=>(v2.own_int e).1
    have p1:=v4.mono (B' := fun b=>((B b∧b<w.heap.size)∨(w.heap.size≤b∧(Value.slice vo (layF N (l.drop (l.length-k))).2.reverse.length vc).ownBlock≠some b))∧b<Wb.heap.size) (fun q hq _ e=>⟨e,hq⟩)
    have p2:=p1.kept hkp (fun e=>by have:=hob _ e;omega) (fun e=>by have:=hob _ e;omega) (fun q e s=>by
     rcases e.1 with e1 | e1
     ·have:=hob _ s;omega
     ·exact absurd s e1.2)
    have p3:HpB (fun b=>(B b∧b<w.heap.size)∨(w.heap.size≤b∧v'.ownBlock≠some b)) w2 h g room (layF N (l.drop (l.length-(k+1)))).1:=by
     rw [EL]
     refine p2.mono (fun q _ _ e=>?_)
     rcases e.1 with e1 | e1
     ·exact .inl e1
     ·refine .inr ⟨e1.1,fun s=>?_⟩
      rcases hat q s with t | t
      ·exact e1.2 t
      ·omega
    obtain ⟨t1,t2,t3⟩:=hjb.next hccb v1 v2 v3 hr2 p3 (hkp.mono (fun _ _ e=>.inl e)) hat
    exact ⟨⟨cellAt t1 0,frozenAt t1 0⟩,t2,t3 _⟩
   have HOW:Hid (Wb.ownsRow (w.heap.size+3) 3 1 (.slice vo (layF N (l.drop (l.length-k))).2.reverse.length vc) (layF N (l.drop (l.length-k))).2.reverse.length (iv (layF N (l.drop (l.length-k))).2.reverse)):=v2
   have hlr:(layF N (l.drop (l.length-k))).2.reverse.length≤10000000000000:=by simp;omega
   clear EL hjb hccb bxb v1 v2 v3 v4 START ED
   generalize (layF N (l.drop (l.length-k))).2.reverse=xs at *
   have bb1:xs.length+1≤maxLen:=by unfold maxLen;omega
   have bb2:(xs.length+1) * 8≤140737488355328:=by omega
   have bb3:w.heap.size+3≤(Wb.alloc (.cells #[.int .i64 x.2.2.2] 3)).heap.size:=by simp;omega
   have HNW:Hid (∀ j u,[Value.int .i64 x.2.2.2][j]? = some u→(Wb.alloc (.cells #[.int .i64 x.2.2.2] 3)).cell? ((⟨Wb.heap.size,0,none⟩:Addr).add j)=some u):=World.news_of_block (cs:=#[.int .i64 x.2.2.2]) (t:=3) (fr:=(0,0)) (heap_alloc_new Wb _)
   have HON:Hid (∀ u∈[Value.int .i64 x.2.2.2],u.oneCell' = true):=by (show ∀ u∈_,_);intro u hu;simp at hu;rcases hu with rfl;rfl
   gi_wp2_with (gi_at_builtin;refine wpListIn_append_own_at _ rfl _ _ 33 rfl (w.heap.size+3) 3 i0 _ 1 8 Tryz.underlying33 hi0 hz0 hz1 hz2 rfl (by decide) (.slice vo xs.length vc) xs.length _ rfl (World.ownsRow.alloc HOW.out _) ⟨Wb.heap.size,0,none⟩ 1 1 _ rfl rfl HNW.out HON.out bb1 bb2 bb3 ?_;intro v' w2 hown' hgrow _ hat;obtain ⟨o9,c9,rfl⟩:=row_shape hown'; obtain ⟨⟨m1,m2⟩,m3,m4⟩:=MORE.out w2 _ hown' (Kept.grown (Kept.alloc (Kept.refl _ Wb) _) hgrow (fun _ e _=>e)) (fun q e=>by rcases hat with t | t; (rw [t] at e;exact .inl e); (rw [t] at e;right;have:=Option.some.inj e;simp at this;omega)))
   first | exact m4 | (rw [← z0];exact m4) | (rw [z0] at m4;exact m4)
  ·rw [hx] at x0 bxb
   obtain ⟨f1,f2,f3⟩:=lay_fits hone hsub hroom hx
   have EL:layF N (l.drop (l.length-(k+1)))=((layF N (l.drop (l.length-k))).1 ++ [(x.2.1,(layF N (l.drop (l.length-k))).2.take (arT x),0,false,0)],((layF N (l.drop (l.length-k))).1.length:Int) :: (layF N (l.drop (l.length-k))).2.drop (arT x)):=by rw [ED];exact lay_new N _ hx
   have ea:x.2.2.1=((arT x:Nat):Int):=by unfold arT;have:=hxo.1;omega
   rw [ea] at x2 bxb
   generalize arT x=a at *
   generalize EN:layF N (l.drop (l.length-k))=NS at *
   obtain ⟨N1,S1⟩:=NS
   simp only at *
   obtain ⟨m,hm⟩:∃ m,S1.length=m+a:=⟨S1.length-a,by omega⟩
   have hn:S1.reverse.length=m+a:=by simp [hm]
   have hargs:=rev_args hm
   have htop:=rev_snoc hm
   have CR0:=rev_row v2 m a hn f2 _ rfl
   rw [hargs,htop] at CR0
   rw [hn] at CR0 c2 v1 v2 v3 v4
   have hob:∀ q,(Value.slice vo (m+a) vc).ownBlock=some q→w.heap.size+3≤q∧q<Wb.heap.size∧∃ cur,Wb.heap[q]? = some (.cells cur 3 (0,0)):=fun q e=>by
    obtain ⟨t1,cur,t2⟩:=v2.own_int e
    exact ⟨t1,lt_of_at t2,cur,t2⟩
   have hownE:∀ n' q,(Value.slice vo n' vc).ownBlock=some q→(Value.slice vo (m+a) vc).ownBlock=some q:=fun n' q e=>by
    cases vo <;> exact e
   have hml:(S1.take a).length=a:=by simp;omega
   have hla:(List.reverse (S1.drop a)).length=m:=by simp;omega
   have STG1:Hid (∀ w1,Kept (fun k=>(Value.slice vo (m+a) vc).ownBlock=some k) Wb w1→w1.cell? ⟨w.heap.size,0,none⟩=some (.pointer (some ⟨h,0,none⟩))∧w1.cell? ⟨W.heap.size,1,none⟩=some (.int .i64 x.2.1)∧w1.cell? ⟨w.heap.size+1,0,none⟩=some (.slice vo (m+a) vc)∧HpB (fun b=>((B b∧b<w.heap.size)∨(w.heap.size≤b∧(Value.slice vo (m+a) vc).ownBlock≠some b))∧b<Wb.heap.size) w1 h g room N1):=fun w1 k1=>by
    have p1:=v4.mono (B' := fun b=>((B b∧b<w.heap.size)∨(w.heap.size≤b∧(Value.slice vo (m+a) vc).ownBlock≠some b))∧b<Wb.heap.size) (fun q hq _ e=>⟨e,hq⟩)
    refine ⟨cellAt (k1.at hjb.bx (fun e=>by have:=hob _ e;omega)) 0,cellAt (k1.at bxb (fun e=>?_)) 1,cellAt (k1.at v1 (fun e=>by have:=hob _ e;omega)) 0,p1.kept k1 (fun e=>by have:=hob _ e;omega) (fun e=>by have:=hob _ e;omega) (fun q e s=>?_)⟩
    ·obtain ⟨_,_,cur,t⟩:=hob _ e
     rw [bxb] at t;cases t
    ·rcases e.1 with e1 | e1
     ·have:=hob _ s;omega
     ·exact absurd s e1.2
   have STG2:Hid (∀ w1 w2,Kept (fun k=>(Value.slice vo (m+a) vc).ownBlock=some k) Wb w1→Row (w.heap.size+3) w1 (.slice vo m vc) (S1.drop a).reverse→Kept (fun k=>k=h∨k=g) w1 w2→w2.cell? ⟨w.heap.size+1,0,none⟩=some (.slice vo (m+a) vc)∧w2.ownsRow (w.heap.size+3) 3 1 (.slice vo m vc) m (iv (S1.drop a).reverse)∧w.heap.size+3≤w2.heap.size):=fun w1 w2 k1 r1 k2=>by
    have z1:=k1.size
    have z2:=k2.size
    refine ⟨cellAt (k2.at (k1.at v1 (fun e=>by have:=hob _ e;omega)) (by omega)) 0,?_,by omega⟩
    have:=k2.row r1 (fun q e s=>by have:=(hob q (hownE _ _ e)).1;omega)
    rw [hla] at this
    exact this
   have STG3:Hid (∀ w1 w2 w3 v', Kept (fun k=>(Value.slice vo (m+a) vc).ownBlock=some k) Wb w1→HpB (fun b=>(((B b∧b<w.heap.size)∨(w.heap.size≤b∧(Value.slice vo (m+a) vc).ownBlock≠some b))∧b<Wb.heap.size)∨w1.heap.size≤b) w2 h g room (N1 ++ [(x.2.1,S1.take a,0,false,0)])→Kept (fun k=>k=h∨k=g) w1 w2→w3.ownsRow (w.heap.size+3) 3 1 v' (m+1) (iv (S1.drop a).reverse ++ [.int .i64 (N1.length:Int)])→Kept (fun q=>(Value.slice vo m vc).ownBlock=some q) w2 w3→(∀ q,v'.ownBlock=some q→(Value.slice vo m vc).ownBlock=some q∨w2.heap.size≤q)→(w3.cell? ⟨w.heap.size+1,0,none⟩=some (.slice vo (m+a) vc)∧w3.frozen? ⟨w.heap.size+1,0,none⟩=false)∧LyJ B w h g room N l C (k+1) (w3.setCell ⟨w.heap.size+1,0,none⟩ v')∧RndC W0.heap.size C Wb (w3.setCell ⟨w.heap.size+1,0,none⟩ v')):=fun w1 w2 w3 v' k1 p2 k2 hr k3 hat=>by
    have z1:=k1.size
    have z2:=k2.size
    have z3:=k3.size
    have hr2:Row (w.heap.size+3) w3 v' (layF N (l.drop (l.length-(k+1)))).2.reverse:=by
     rw [EL]
     unfold Row
     rw [List.reverse_cons,iv_append,List.length_append,hla]
     exact hr
    have p3:=(p2.mono (B' := fun b=>((((B b∧b<w.heap.size)∨(w.heap.size≤b∧(Value.slice vo (m+a) vc).ownBlock≠some b))∧b<Wb.heap.size)∨w1.heap.size≤b)∧b<w2.heap.size) (fun q hq _ e=>⟨e,hq⟩)).kept k3 (fun e=>by have:=hob _ (hownE _ _ e);omega) (fun e=>by have:=hob _ (hownE _ _ e);omega) (fun q e s=>by
     have s' := hob _ (hownE _ _ s)
     rcases e.1 with e1 | e1
     ·rcases e1.1 with e2 | e2
      ·omega
      ·exact absurd (hownE _ _ s) e2.2
     ·omega)
    have p4:HpB (fun b=>(B b∧b<w.heap.size)∨(w.heap.size≤b∧v'.ownBlock≠some b)) w3 h g room (layF N (l.drop (l.length-(k+1)))).1:=by
     rw [EL]
     refine p3.mono (fun q _ _ e=>?_)
     rcases e.1 with e1 | e1
     ·rcases e1.1 with e2 | e2
      ·exact .inl e2
      ·refine .inr ⟨e2.1,fun s=>?_⟩
       rcases hat q s with t | t
       ·exact e2.2 (hownE _ _ t)
       ·omega
     ·refine .inr ⟨by omega,fun s=>?_⟩
      rcases hat q s with t | t
      ·have:=hob _ (hownE _ _ t);omega
      ·omega
    have v2' : Row (w.heap.size+3) Wb (.slice vo (m+a) vc) (layF N (l.drop (l.length-k))).2.reverse:=by rw [EN];exact v2
    obtain ⟨t1,t2,t3⟩:=hjb.next hccb v1 v2' v3 hr2 p4 (((k1.mono (fun _ _ e=>.inl e)).trans (k2.mono (fun _ _ e=>.inr e)) (fun _ _ e=>e)).trans (S' := fun q=>(Value.slice vo m vc).ownBlock=some q) k3 (fun q _ e=>.inl (hownE _ _ e))) (fun q e=>(hat q e).imp (fun t=>hownE _ _ t) (fun t=>by omega))
    exact ⟨⟨cellAt t1 0,frozenAt t1 0⟩,t2,t3 _⟩
   have hS1:S1.length≤10000000000000:=by omega
   have i1:(0:Int)≤(m:Int):=by omega
   have i2:(m:Int)≤((m+a:Nat):Int):=by omega
   have hvc:m+a≤vc:=by
    rcases v2.2 with ⟨e2,h0⟩ | ⟨g', cap', cur', e2,hb', hg', hle', _⟩
    ·simp only [Value.slice.injEq] at e2;omega
    ·simp only [Value.slice.injEq] at e2;obtain ⟨_,e3,e4⟩:=e2;omega
   have i3:(m:Int)≤(vc:Int):=by omega
   have bb1:m+1≤maxLen:=by unfold maxLen;omega
   have bb2:(m+1) * 8≤140737488355328:=by omega
   have HML:Hid ((S1.take a).length=a):=hml
   have HF3:Hid (mkE N1 room x.2.1 (S1.take a)=0):=f3
   clear EL hjb hccb bxb v1 v2 v3 v4 START ED hownE hob EN hm hn hargs htop hml hla f1 f3 hone hsub hroom hshort hxo ea hx h1 ho hrm hl
   have HON:Hid (∀ u∈[Value.int .i64 (N1.length:Int)],u.oneCell' = true):=by (show ∀ u∈_,_);intro u hu;simp at hu;rcases hu with rfl;rfl
   by_cases hvm:vc=m
   ·rw [if_pos hvm] at CR0
    have hvm2:=hvm.symm
    clear hvc
    subst hvm2
    clear hvm
    rw [Nat.sub_self] at CR0
    gi_wp2_with (first
     | (gi_at_call 64;refine (CallsIn.inRound r (callsIn_wide.2 CR0)).mono ?_;rintro e w1 ⟨rfl,ha1,hr1,k1⟩;obtain ⟨d1,d2,d3,hp1⟩:=STG1.out w1 k1;have CM:=make_yes hp1 x.2.1 ha1 HF3.out;rw [HML.out] at CM;clear c2 x0 x1 x2 x3 CR0)
     | (gi_at_call 20;refine (CallsIn.inRound r (callsIn_wide.2 CM)).mono ?_;rintro e w2 ⟨rfl,hp2,k2⟩;obtain ⟨e1,e2,e3⟩:=STG2.out w1 w2 k1 hr1 k2;have HNW:Hid (∀ j u,[Value.int .i64 (N1.length:Int)][j]? = some u→(w2.alloc (.cells #[.int .i64 (N1.length:Int)] 3)).cell? ((⟨w2.heap.size,0,none⟩:Addr).add j)=some u):=World.news_of_block (cs:=#[.int .i64 (N1.length:Int)]) (t:=3) (fr:=(0,0)) (heap_alloc_new w2 _);have bb3:w.heap.size+3≤(w2.alloc (.cells #[.int .i64 (N1.length:Int)] 3)).heap.size:=(by simp;omega);clear d1 d2 d3 CM)
     | (gi_at_builtin;refine wpListIn_append_own_at _ rfl _ _ 33 rfl (w.heap.size+3) 3 i0 _ 1 8 Tryz.underlying33 hi0 hz0 hz1 hz2 rfl (by decide) (.slice vo m m) m _ rfl (World.ownsRow.alloc e2 _) ⟨w2.heap.size,0,none⟩ 1 1 _ rfl rfl HNW.out HON.out bb1 bb2 bb3 ?_;intro v' w3 hown' hgrow _ hat;obtain ⟨o9,c9,rfl⟩:=row_shape hown'; obtain ⟨⟨m1,m2⟩,m3,m4⟩:=STG3.out w1 w2 w3 _ k1 hp2 k2 hown' (Kept.grown (Kept.alloc (Kept.refl _ w2) _) hgrow (fun _ e _=>e)) (fun q e=>by rcases hat with t | t; (rw [t] at e;exact .inl e); (rw [t] at e;right;have:=Option.some.inj e;simp at this;omega))))
    first | exact m4 | (rw [← z0];exact m4) | (rw [z0] at m4;exact m4)
   ·rw [if_neg hvm] at CR0
    gi_wp2_with (first
     | (gi_at_call 64;refine (CallsIn.inRound r (callsIn_wide.2 CR0)).mono ?_;rintro e w1 ⟨rfl,ha1,hr1,k1⟩;obtain ⟨d1,d2,d3,hp1⟩:=STG1.out w1 k1;have CM:=make_yes hp1 x.2.1 ha1 HF3.out;rw [HML.out] at CM;clear c2 x0 x1 x2 x3 CR0)
     | (gi_at_call 20;refine (CallsIn.inRound r (callsIn_wide.2 CM)).mono ?_;rintro e w2 ⟨rfl,hp2,k2⟩;obtain ⟨e1,e2,e3⟩:=STG2.out w1 w2 k1 hr1 k2;have HNW:Hid (∀ j u,[Value.int .i64 (N1.length:Int)][j]? = some u→(w2.alloc (.cells #[.int .i64 (N1.length:Int)] 3)).cell? ((⟨w2.heap.size,0,none⟩:Addr).add j)=some u):=World.news_of_block (cs:=#[.int .i64 (N1.length:Int)]) (t:=3) (fr:=(0,0)) (heap_alloc_new w2 _);have bb3:w.heap.size+3≤(w2.alloc (.cells #[.int .i64 (N1.length:Int)] 3)).heap.size:=(by simp;omega);clear d1 d2 d3 CM)
     | (gi_at_builtin;refine wpListIn_append_own_at _ rfl _ _ 33 rfl (w.heap.size+3) 3 i0 _ 1 8 Tryz.underlying33 hi0 hz0 hz1 hz2 rfl (by decide) (.slice vo m vc) m _ rfl (World.ownsRow.alloc e2 _) ⟨w2.heap.size,0,none⟩ 1 1 _ rfl rfl HNW.out HON.out bb1 bb2 bb3 ?_;intro v' w3 hown' hgrow _ hat;obtain ⟨o9,c9,rfl⟩:=row_shape hown'; obtain ⟨⟨m1,m2⟩,m3,m4⟩:=STG3.out w1 w2 w3 _ k1 hp2 k2 hown' (Kept.grown (Kept.alloc (Kept.refl _ w2) _) hgrow (fun _ e _=>e)) (fun q e=>by rcases hat with t | t; (rw [t] at e;exact .inl e); (rw [t] at e;right;have:=Option.some.inj e;simp at this;omega))))
    first | exact m4 | (rw [← z0];exact m4) | (rw [z0] at m4;exact m4)
end Go.Proofs.YtblgblgchkonhaaGreat
namespace Go.Proofs.YtblgblgchkonhaaGreat
set_option linter.unusedVariables false
def vstep (o:List Int) (x:Int):List Int:=if isV x=true∧¬ (-x)∈o then o ++ [-x] else o
def vs (o:List Int) (t:List Int):List Int:=t.foldl vstep o
def varsL (t:List Int):List Int:=vs [] t
theorem vs_snoc (o a:List Int) (x:Int):vs o (a ++ [x])=vstep (vs o a) x:=by simp [vs]
theorem vs_take {o t:List Int} {k:Nat} (h:k<t.length):vs o (t.take (k+1))=vstep (vs o (t.take k)) t[k]:=by
 rw [List.take_add_one,List.getElem?_eq_getElem h];exact vs_snoc _ _ _
theorem isV_iff {x:Int}:isV x=true ↔ -99≤x∧x ≤ -1:=by simp [isV]
theorem vs_len (o t:List Int):(vs o t).length≤o.length+t.length:=by
 induction t generalizing o with
 | nil=>simp [vs]
 | cons x r ih=>
  have:=ih (vstep o x)
  have h2:(vstep o x).length≤o.length+1:=by unfold vstep;split <;> simp
  simp only [vs,List.foldl_cons,List.length_cons] at *
  omega
def pl (o:List Int) (x:Int):Int:=if isV x=true then -((o.idxOf (-x):Int)+1) else x
end Go.Proofs.YtblgblgchkonhaaGreat
namespace Go.Proofs.YtblgblgchkonhaaGreat
set_option linter.unusedVariables false
open Go.RowKit
attribute [local go_sem ↓] Go.wp_at_zero Go.wp_at_succ
def inB (l:List Int) (n:Int):Bool:=decide (n∈l)
theorem vstep_yes {o:List Int} {x:Int} (h1:isV x=true) (h2:inB o (-x)=false):vstep o x=o ++ [-x]:=by
 rw [vstep,if_pos ⟨h1,by simpa [inB] using h2⟩]
theorem vstep_in {o:List Int} {x:Int} (h2:inB o (-x)=true):vstep o x=o:=by
 rw [vstep,if_neg (by simp [inB] at h2;simp [h2])]
theorem vstep_no {o:List Int} {x:Int} (h1:isV x=false):vstep o x=o:=by
 rw [vstep,if_neg (by simp [h1])]
theorem zeros_bool:Tryz.zeroCells134=Array.replicate 100 (.bool false):=by kernel_rfl
def MetAt (w:World) (A:Nat) (o:List Int):Prop:=∃ cs,w.heap[A]? = some (.cells cs 134 (0,0))∧cs.size=100∧∀ v:Nat,1≤v→v≤99→cs[v]? = some (.bool (inB o (v:Int)))
theorem met_new (w:World):MetAt (w.alloc (.cells Tryz.zeroCells134 134)) w.heap.size []:=by
 refine ⟨_,heap_alloc_new w _,by rw [zeros_bool];simp,fun v h1 h2=>?_⟩
 rw [zeros_bool,Array.getElem?_replicate,if_pos (by omega)]
 simp [inB]
theorem MetAt.kept {w w' : World} {A:Nat} {o:List Int} {S:Nat→Prop} (h:MetAt w A o) (hk:Kept S w w') (hn:¬ S A):MetAt w' A o:=by
 obtain ⟨cs,h1,h2⟩:=h
 exact ⟨cs,hk.at h1 hn,h2⟩
theorem MetAt.cell {w:World} {A:Nat} {o:List Int} (h:MetAt w A o) {v:Nat} (h1:1≤v) (h2:v≤99):w.cell? ⟨A,v,none⟩=some (.bool (inB o (v:Int)))∧w.frozen? ⟨A,v,none⟩=false:=by
 obtain ⟨cs,q1,q2,q3⟩:=h
 exact ⟨(cellAt q1 v).trans (q3 v h1 h2),frozenAt q1 v⟩
theorem MetAt.set {w:World} {A:Nat} {o:List Int} (h:MetAt w A o) {v:Nat} (h1:1≤v) (h2:v≤99):MetAt (w.setCell ⟨A,v,none⟩ (.bool true)) A (o ++ [(v:Int)]):=by
 obtain ⟨cs,q1,q2,q3⟩:=h
 refine ⟨_,setAt q1 v _,by simpa using q2,fun u g1 g2=>?_⟩
 rw [Array.getElem?_setIfInBounds]
 by_cases e:v=u
 ·subst e;rw [if_pos rfl,if_pos (by omega)];simp [inB]
 ·rw [if_neg e,q3 u g1 g2]
  congr 2
  simp [inB];omega
set_option maxHeartbeats 4000000 in
theorem tvars_any {w:World} {ao:Option Addr} {cap:Nat} {t:List Int} (ht:IntsAt w ao t) (hm:t.length * 8≤140737488351232) :
  Calls Tryz.prog 31 #[.slice ao t.length cap] w fun e w' => ∃ v,e=.returned v∧Row w.heap.size w' v (varsL t)∧Same0 w w' := by
 have M0:=met_new w
 have K0:Same0 w (w.alloc (.cells Tryz.zeroCells134 134)):=(Kept.refl _ w).alloc _
 go_enter Tryz.func31,Tryz.ntmps31
 go_wp2
 go_loopw [4,9] (fun ov i wr=>∃ k:Nat,k≤t.length∧i=.int .i64 (k:Int)∧Row w.heap.size wr ov (varsL (t.take k))∧MetAt wr w.heap.size (varsL (t.take k))∧ov.ownBlock≠some w.heap.size∧Same0 w wr) (fun _ i _=>t.length-(intOf i).toNat)
 case atStart=>exact ⟨0,Nat.zero_le _,rfl,World.ownsRow_nil _ _ _ _,M0,by simp [Value.ownBlock],K0⟩
 case round=>
  clear M0 K0
  obtain ⟨k,hk,rfl,hr,hM,hne,hs⟩:=hrel
  obtain ⟨oo,ocap,rfl⟩:=row_shape hr
  by_cases hlt:k<t.length
  ·obtain ⟨b,off,rfl,_,hc⟩:=(ht.same hs).get hlt
   have i1:(0:Int)≤(k:Int):=by omega
   have i2:(k:Int)<(t.length:Int):=by omega
   have E:Hid (varsL (t.take (k+1))=vstep (varsL (t.take k)) t[k]):=vs_take hlt
   have hl:=vs_len [] (t.take k)
   have hl2:(varsL (t.take k)).length≤t.length:=by simp at hl;unfold varsL;omega
   have cV:=fun w' => isVariable_any t[k] w'
   clear hl
   generalize hO:varsL (t.take k)=O at *
   generalize hX:t[k]=x at *
   cases hv:isV x with
   | false=>
    have E1:Hid (varsL (t.take (k+1))=O):=by rw [E.out];exact vstep_no hv
    simp only [hv] at cV
    go_wp2_with (first | (go_at_call 61;refine (cV _).mono ?_;rintro e wr ⟨rfl,rfl⟩))
    have hrE:Row w.heap.size wr (.slice oo O.length ocap) (varsL (t.take (k+1))):=by rw [E1.out];exact hr
    have hME:MetAt wr w.heap.size (varsL (t.take (k+1))):=by rw [E1.out];exact hM
    exact ⟨⟨k+1,by omega,by go_num,hrE,hME,hne,hs⟩,by simp [intOf];omega⟩
   | true=>
    simp only [hv] at cV
    have hx:=isV_iff.1 hv
    obtain ⟨v,rfl⟩:∃ v:Nat,x = -(v:Int):=⟨(-x).toNat,by omega⟩
    have hv1:1≤v:=by omega
    have hv2:v≤99:=by omega
    obtain ⟨q1,q2⟩:=hM.cell hv1 hv2
    have j1:(0:Int)≤(v:Int):=by omega
    have j2:(v:Int)<100:=by omega
    cases hin:inB O (v:Int) with
    | true=>
     have E1:Hid (varsL (t.take (k+1))=O):=by rw [E.out];exact vstep_in (by simpa using hin)
     rw [hin] at q1
     go_wp2_with (first | (go_at_call 61;refine (cV _).mono ?_;rintro e wr ⟨rfl,rfl⟩))
     have hrE:Row w.heap.size wr (.slice oo O.length ocap) (varsL (t.take (k+1))):=by rw [E1.out];exact hr
     have hME:MetAt wr w.heap.size (varsL (t.take (k+1))):=by rw [E1.out];exact hM
     exact ⟨⟨k+1,by omega,by go_num,hrE,hME,hne,hs⟩,by simp [intOf];omega⟩
    | false=>
     have E1:Hid (varsL (t.take (k+1))=O ++ [(v:Int)]):=by show _=_;rw [E.out,vstep_yes hv (by simpa using hin)];simp
     rw [hin] at q1
     have hb8:(O.length+1) * 8≤140737488355328:=by omega
     have hMs:=hM.set hv1 hv2
     have ks:Kept (fun k=>k=w.heap.size) wr (wr.setCell ⟨w.heap.size,v,none⟩ (.bool true)):=Kept.setCell (S:=fun k=>k=w.heap.size) (p:=⟨w.heap.size,v,none⟩) (Kept.refl _ _) (fun _=>rfl) _
     have hrs:Row w.heap.size (wr.setCell ⟨w.heap.size,v,none⟩ (.bool true)) (.slice oo O.length ocap) O:=ks.row hr (fun k e e' => hne (by rw [e,e']))
     have hss:Same0 w (wr.setCell ⟨w.heap.size,v,none⟩ (.bool true)):=hs.own (Nat.le_refl _) _
     have hsz:=hss.size
     have hAl:w.heap.size<wr.heap.size:=by obtain ⟨cs,q,_⟩:=hM;exact lt_of_at q
     have E3:Hid ((wr.setCell ⟨w.heap.size,v,none⟩ (.bool true)).heap.size=wr.heap.size):=by show _=_;simp [World.setCell]
     clear hM hr
     go_wp2_with (first | (go_at_call 61;refine (cV _).mono ?_;rintro e wr ⟨rfl,rfl⟩) | (at_builtin;refine wpList_push rfl _ _ 33 rfl Tryz.underlying33 w.heap.size O (.slice oo O.length ocap) rfl hrs (v:Int) (by rw [E3.out];rfl) hsz hb8 ?_;intro g gcap w4 hr4 hk4 hat4;have hs4:=hss.onto hrs hk4))
     have hM4:MetAt w4 w.heap.size (O ++ [(v:Int)]):=hMs.kept hk4 hne
     have hne4:Value.ownBlock (.slice (some ⟨g,0,none⟩) (O.length+1) gcap)≠some w.heap.size:=by
      simp only [Value.ownBlock,ne_eq,Option.some.injEq]
      rcases hat4 with e | e
      ·intro e'; exact hne (by rw [e,e'])
      ·have e3:=E3.out
       omega
     rw [← E1.out] at hr4 hM4
     go_roundw
     case rel=>first | exact ⟨k+1,by omega,by go_num,hr4,hM4,hne4,hs4⟩ | ((repeat apply Exists.intro);exact ⟨⟨k+1,by omega,by go_num,hr4,hM4,hne4,hs4⟩,rfl⟩)
     case measure=>simp [intOf];omega
  ·obtain rfl:k=t.length:=by omega
   rw [List.take_length] at hr
   go_wp2
   go_ret
   refine ⟨_,rfl,?_,hs⟩
   simpa using hr
end Go.Proofs.YtblgblgchkonhaaGreat
namespace Go.Proofs.YtblgblgchkonhaaGreat
set_option maxRecDepth 100000
set_option linter.unusedVariables false
open Go.RowKit
attribute [local go_sem ↓] Go.wp_at_zero Go.wp_at_succ
set_option maxHeartbeats 2000000 in
theorem isOne_any {w:World} {b:Nat} {l:List Tg} (p:TgB w b l) (cap:Nat) (ho:∀ x∈l,0≤x.2.2.1∧x.2.2.1≤6) (hl:l.length≤10000000000000) :
  Calls Tryz.prog 43 #[.slice (some ⟨b,0,none⟩) l.length cap] w fun e w' => e=.returned (.bool (oneT 1 l))∧Same0 w w' := by
 have HP:Hid (∀ wr,Same0 w wr→TgB wr b l):=fun wr hk=>p.same hk
 have HO:Hid (∀ x∈l,0≤x.2.2.1∧x.2.2.1≤6):=ho
 clear p ho
 go_enter Tryz.func43,Tryz.ntmps43
 go_wp2
 go_loopw [3,8] (fun s3 s8 wr=>∃ k m:Nat,k≤l.length∧s3=.int .i64 (m:Int)∧s8=.int .i64 (k:Int)∧m≤6 * k+1∧Hid (oneT 1 l=oneT m (l.drop k))∧Same0 w wr) (fun _ s8 _=>l.length-(intOf s8).toNat)
 case atStart=>exact ⟨0,1,Nat.zero_le _,rfl,rfl,by omega,by simp [Hid],Kept.refl _ _⟩
 case round=>
  obtain ⟨k,m,hk,rfl,rfl,hm,hd,hs⟩:=hrel
  by_cases hlt:k<l.length
  ·obtain ⟨c0,c1,c2,c3⟩:=(HP.out wr hs).get hlt
   have hx:=HO.out _ (List.getElem_mem hlt)
   have hdr:l.drop k=l[k] :: l.drop (k+1):=List.drop_eq_getElem_cons hlt
   have i1:(0:Int)≤(k:Int):=by omega
   have i2:(k:Int)<(l.length:Int):=by omega
   have hd' : Hid (m=0→oneT 1 l=false):=fun e=>by have:=hd.out;rw [hdr,e] at this;rw [this];rfl
   have hd2:Hid (∀ q,m=q+1→oneT 1 l=oneT (q+arT l[k]) (l.drop (k+1))):=fun q e=>by have:=hd.out;rw [hdr,e] at this;rw [this];rfl
   clear hdr hd
   obtain ⟨a,ha⟩:∃ a,arT l[k]=a:=⟨_,rfl⟩
   have ea:l[k].2.2.1=(a:Int):=by unfold arT at ha;omega
   have ha6:a≤6:=by omega
   have HA:Hid (arT l[k]=a):=ha
   rw [ea] at c2
   clear ea ha hx
   generalize l[k].1=y0 at c0
   generalize l[k].2.1=y1 at c1
   generalize l[k].2.2.2=y3 at c3
   cases m with
   | zero=>
    have H:Hid (oneT 1 l=false):=hd'.out rfl
    go_wp2
    go_ret
    exact ⟨by rw [H.out];rfl,hs.trans' ((Kept.refl _ wr).alloc _)⟩
   | succ q=>
    have i3:¬ ((q:Int)+1=0):=by omega
    have H:Hid (oneT 1 l=oneT (q+a) (l.drop (k+1))):=by have:=hd2.out q rfl;rw [HA.out] at this;exact this
    go_wp2
    refine ⟨⟨k+1,q+a,by omega,by go_num,by go_num,by omega,H,hs.trans' ((Kept.refl _ wr).alloc _)⟩,by simp [intOf];omega⟩
  ·obtain rfl:k=l.length:=by omega
   have hd' := hd.out
   rw [List.drop_length] at hd'
   cases m with
   | zero=>
    have H:Hid (oneT 1 l=true):=by show _=_;rw [hd'];rfl
    clear hd' hd
    go_wp2
    go_ret
    exact ⟨by rw [H.out];rfl,hs⟩
   | succ q=>
    have H:Hid (oneT 1 l=false):=by show _=_;rw [hd'];rfl
    have i3:¬ ((q:Int)+1=0):=by omega
    clear hd' hd
    go_wp2
    go_ret
    exact ⟨by rw [H.out];rfl,hs⟩
set_option maxHeartbeats 2000000 in
theorem thingsT_any {n b:Nat} {w:World} {L:List Sym} (h:Sg n w b L) {ao:Option Addr} {cap:Nat} {t:List Int} (ht:IntsAt w ao t) (hm:t.length≤2000) (ho:∀ x∈t,0≤x∧x<(L.length:Int)) :
  Calls Tryz.prog 35 #[.pointer (some ⟨b,0,none⟩),.slice ao t.length cap] w fun e w' => ∃ tb,e=.returned (.slice (some ⟨tb,0,none⟩) t.length t.length)∧w.heap.size≤tb∧TgB w' tb (t.map (tgT L))∧Same0 w w' := by
 obtain ⟨i0,hi0,hz0,hz1,hz2⟩:=info_parts info_thing
 have HS:Hid (∀ wr,Same0 w wr→Sg n wr b L):=fun wr hk=>h.same hk
 have HT:Hid (∀ wr,Same0 w wr→IntsAt wr ao t):=fun wr hk=>ht.same hk
 have HO:Hid (∀ x∈t,0≤x∧x<(L.length:Int)):=ho
 clear h ht ho
 go_enter Tryz.func35,Tryz.ntmps35
 go_wp2_with (first | (at_make;refine wpList_make_full _ rfl _ _ 100 rfl w.heap.size 139 i0 _ 4 Tryz.underlying100 hi0 hz0 hz1 _ _ _ _ t.length rfl rfl rfl rfl (by rw [hz2];omega) (by unfold maxLen;omega) (Nat.le_refl _) ?_;intro w1 hown hgrow))
 have K1:Same0 w w1:=Same0.grown (Kept.refl _ w) hgrow
 have HQ:Hid (TgQ w1 w.heap.size t.length []):=TgQ.start hown
 clear hown hgrow
 go_loopw [13] (fun s13 wr=>∃ k:Nat,k≤t.length∧s13=.int .i64 (k:Int)∧Hid (TgQ wr w.heap.size t.length ((t.take k).map (tgT L)))∧Same0 w wr) (fun s13 _=>t.length-(intOf s13).toNat)
 case atStart=>exact ⟨0,Nat.zero_le _,rfl,by simpa using HQ,K1⟩
 case round=>
  clear HQ K1
  obtain ⟨k,hk,rfl,hq,hs⟩:=hrel
  by_cases hlt:k<t.length
  ·obtain ⟨xb,off,rfl,hxb,hxc⟩:=(HT.out wr hs).get hlt
   have i1:(0:Int)≤(k:Int):=by omega
   have i2:(k:Int)<(t.length:Int):=by omega
   have hx:=HO.out _ (List.getElem_mem hlt)
   obtain ⟨s,es⟩:∃ s:Nat,t[k]=(s:Int):=⟨t[k].toNat,by omega⟩
   have C:=newT_yes (HS.out wr hs) s (by omega)
   rw [es] at hxc
   have hlen:((t.take k).map (tgT L)).length=k:=by simp;omega
   have NX:Hid (∀ w2,Same0 wr w2→(∃ u0 u1 u2 u3,w2.cell? ⟨w.heap.size,k * 4,none⟩=some u0∧w2.cell? ⟨w.heap.size,k * 4+1,none⟩=some u1∧w2.cell? ⟨w.heap.size,k * 4+2,none⟩=some u2∧w2.cell? ⟨w.heap.size,k * 4+3,none⟩=some u3∧∀ o,w2.frozen? ⟨w.heap.size,o,none⟩=false)∧TgQ (put4 w2 w.heap.size (k * 4) (.bool true) (.int .i64 (s:Int)) (.int .i64 (arN L (s:Int):Int)) (.int .i64 0)) w.heap.size t.length ((t.take (k+1)).map (tgT L))∧Same0 w (put4 w2 w.heap.size (k * 4) (.bool true) (.int .i64 (s:Int)) (.int .i64 (arN L (s:Int):Int)) (.int .i64 0))):=fun w2 k2=>by
    have q2:=hq.out.same k2
    have th:=q2.there (by omega)
    have sn:=q2.snoc (by omega) (tgT L (s:Int))
    rw [hlen] at th sn
    refine ⟨th,?_,(hs.trans' k2).trans (put4_kept _ _ _ _ _ _ _) (fun i hi e=>by omega)⟩
    rw [List.take_succ_eq_append_getElem hlt,List.map_append,es]
    exact sn
   clear hx es hlen hq
   go_wp2_with (first | (go_at_call 65;refine C.mono ?_;rintro e w2 ⟨rfl,k2⟩;obtain ⟨⟨u0,u1,u2,u3,d0,d1,d2,d3,fz⟩,n1,n2⟩:=NX.out w2 k2;have f0:=fz (k * 4);have f1:=fz (k * 4+1);have f2:=fz (k * 4+2);have f3:=fz (k * 4+3);simp only [tgV,tgT]))
   refine ⟨⟨k+1,by omega,by go_num,n1,n2⟩,by simp [intOf];omega⟩
  ·obtain rfl:k=t.length:=by omega
   have hq' : TgB wr w.heap.size (t.map (tgT L)):=by
    have:=hq.out
    rw [List.take_length] at this
    exact TgQ.all (by simpa using this)
   clear hq
   go_wp2
   go_ret
   exact ⟨w.heap.size,rfl,Nat.le_refl _,hq', hs⟩
theorem vars_none:∀ {t o:List Int},(∀ x∈t,0≤x)→vs o t=o
 | [],o,_=>rfl
 | x :: r,o,h=>by
  show vs (vstep o x) r=o
  have hx:=h x (List.mem_cons_self ..)
  have e:vstep o x=o:=by
   unfold vstep
   rw [if_neg]
   intro q
   have:=q.1
   simp [isV] at this
   omega
  rw [e]
  exact vars_none (fun y hy=>h y (List.mem_cons_of_mem _ hy))
theorem one_term (L:List Sym):∀ (t:List Int) (k:Nat),need L k t=some 0→oneT k (t.map (tgT L))=true
 | [],0,_=>rfl
 | [],k+1,h=>by simp [need] at h
 | x :: r,0,h=>by simp [need] at h
 | x :: r,k+1,h=>by
  have e:arT (tgT L x)=arN L x:=by simp [arT,tgT]
  show oneT (k+arT (tgT L x)) (r.map (tgT L))=true
  rw [e]
  exact one_term L r _ (by simpa [need] using h)
theorem new_term (L:List Sym) (t:List Int):newN (t.map (tgT L))=t.length:=by
 unfold newN
 rw [List.countP_eq_length.2 (fun x hx=>by obtain ⟨y,_,rfl⟩:=List.mem_map.1 hx;rfl)]
 simp
theorem check_zero {L:List Sym} {t:List Int} (h:checkE L t=0):t.length≤2000∧(∀ x∈t,x<(L.length:Int) ∧ -99≤x)∧need L 1 t=some 0:=by
 unfold checkE at h
 split at h
 ·cases h
 ·split at h
  ·rename_i q1 q2;exact absurd h q2
  ·rename_i q1 q2
   split at h
   ·rename_i q3
    exact ⟨by omega,badE_zero.1 (by simpa using q2),q3⟩
   ·cases h
theorem ok_term {L:List Sym} (ha:Ars L) {t:List Int} (h:∀ x∈t,0≤x) (m:Nat):∀ x∈t.map (tgT L),TgOk m x:=fun x hx=>by
 obtain ⟨y,hy,rfl⟩:=List.mem_map.1 hx
 have h1:=arN_le ha y
 exact ⟨by simp [tgT],by simp [tgT];omega,fun _=>h y hy,fun q=>by cases q⟩
set_option maxHeartbeats 2000000 in
theorem load_bad {n b:Nat} {w:World} {L:List Sym} (hs:Sg n w b L) (ha:Addr) {ao:Option Addr} {cap:Nat} {t:List Int} (ht:IntsAt w ao t) (hm:t.length * 8≤140737488351232) (hc:checkE L t≠0) :
  Calls Tryz.prog 9 #[.pointer (some ⟨b,0,none⟩),.pointer (some ha),.slice ao t.length cap] w fun e w' => ∃ v,e=.returned (.tuple #[.int .i64 0,v])∧FtAt w.heap.size w' v 130 0 (checkE L t)∧Same0 w w' := by
 have C:=check_any (cap:=cap) hs ht (by unfold maxLen;omega)
 have HW:Hid (whyV (checkE L t)=.iface 40 (.int .i64 (checkE L t))):=by show _=_;unfold whyV;rw [if_neg hc]
 generalize checkE L t=ce at *
 clear hs ht
 go_enter Tryz.func9,Tryz.ntmps9
 go_wp2_with (first | (go_at_call 30;refine C.mono ?_;rintro e w1 ⟨rfl,k1⟩))
 go_ret2
 exact ⟨_,rfl,⟨w1.heap.size,rfl,k1.size,by rw [HW.out];exact heap_alloc_new w1 _⟩,k1.trans' ((Kept.refl _ w1).alloc _)⟩
set_option maxHeartbeats 2000000 in
theorem load_yes {B:Nat→Prop} {n b h g room:Nat} {w:World} {L:List Sym} {N:List Nd} (hs:Sg n w b L) (p:HpB B w h g room N) {ao:Option Addr} {cap:Nat} {t:List Int} (ht:IntsAt w ao t) (hc:checkE L t=0) (hv:∀ x∈t,0≤x) (hf:N.length+t.length≤room) :
  Calls Tryz.prog 9 #[.pointer (some ⟨b,0,none⟩),.pointer (some ⟨h,0,none⟩),.slice ao t.length cap] w fun e w' => ∃ a:Nat,e=.returned (.tuple #[.int .i64 (a:Int),.nilIface])∧(layF N (t.map (tgT L))).2=[(a:Int)]∧HpB (fun b=>B b∨w.heap.size≤b) w' h g room (layF N (t.map (tgT L))).1∧Kept (fun k=>k=h∨k=g) w w' := by
 obtain ⟨h1,h2,h3⟩:=check_zero hc
 have C:=check_any (cap:=cap) hs ht (by unfold maxLen;omega)
 rw [hc] at C
 have hvr:varsL t=[]:=vars_none hv
 have HV:Hid (∀ w1,Same0 w w1→Calls Tryz.prog 31 #[.slice ao t.length cap] w1 fun e w' => ∃ v,e=.returned v∧Row w1.heap.size w' v []∧Same0 w1 w'):=fun w1 k1=>by have:=tvars_any (cap:=cap) (ht.same k1) (by omega);rw [hvr] at this;exact this
 have HR:Hid (∀ w1,Same0 w w1→Calls Tryz.prog 32 #[.pointer (some ⟨h,0,none⟩),.int .i64 (t.length:Int)] w1 fun e w' => e=.returned (.bool true)∧Same0 w1 w'):=fun w1 k1=>by have:=hasRoom_any (p.same k1) t.length;rw [show decide (N.length+t.length≤room)=true by simpa using hf] at this;exact this
 have HT:Hid (∀ w1,Same0 w w1→Calls Tryz.prog 35 #[.pointer (some ⟨b,0,none⟩),.slice ao t.length cap] w1 fun e w' => ∃ tb,e=.returned (.slice (some ⟨tb,0,none⟩) t.length t.length)∧w1.heap.size≤tb∧TgB w' tb (t.map (tgT L))∧Same0 w1 w'):=fun w1 k1=>thingsT_any (hs.same k1) (ht.same k1) h1 (fun x hx=>⟨hv x hx,(h2 x hx).1⟩)
 have HL:Hid (∀ w1 tb,Same0 w w1→TgB w1 tb (t.map (tgT L))→Calls Tryz.prog 34 #[.pointer (some ⟨h,0,none⟩),.slice (some ⟨tb,0,none⟩) t.length t.length] w1 fun e w' => ∃ a:Nat,e=.returned (.int .i64 (a:Int))∧(layF N (t.map (tgT L))).2=[(a:Int)]∧HpB (fun b=>B b∨w1.heap.size≤b) w' h g room (layF N (t.map (tgT L))).1∧Kept (fun k=>k=h∨k=g) w1 w'):=fun w1 tb k1 pt=>by
  have:=lay_any (p.same k1) t.length pt (one_term L t 1 h3) (ok_term hs.2 hv N.length) (by rw [new_term];exact hf) (by simp;omega)
  rw [List.length_map] at this
  exact this
 clear hs ht hc hvr hv p hf h2 h3
 go_enter Tryz.func9,Tryz.ntmps9
 go_wp2_with (first
  | (go_at_call 30;refine C.mono ?_;rintro e w1 ⟨rfl,k1⟩)
  | (go_at_call 31;refine (HV.out w1 k1).mono ?_;rintro e w2 ⟨v,rfl,hr,k2⟩;obtain ⟨vo,vc,rfl⟩:=row_shape hr;simp only [List.length_nil])
  | (go_at_call 32;refine (HR.out w2 (k1.trans' k2)).mono ?_;rintro e w3 ⟨rfl,k3⟩)
  | (go_at_call 35;refine (HT.out w3 ((k1.trans' k2).trans' k3)).mono ?_;rintro e w4 ⟨tb,rfl, -,pt,k4⟩)
  | (go_at_call 34;refine (HL.out w4 tb (((k1.trans' k2).trans' k3).trans' k4) pt).mono ?_;rintro e w5 ⟨a,rfl,ea,hp,k5⟩))
 go_ret2
 have kk:=((k1.trans' k2).trans' k3).trans' k4
 exact ⟨a,rfl,ea,hp.mono (fun q _ _ e=>e.imp id (fun e=>Nat.le_trans kk.size e)),(kk.mono (S' := fun k=>k=h∨k=g) (fun _ _ f=>f.elim)).trans k5 (fun _ _ e=>e)⟩
end Go.Proofs.YtblgblgchkonhaaGreat
namespace Go.Proofs.YtblgblgchkonhaaGreat
set_option linter.unusedVariables false
theorem starts_app (L:List Sym) (t:List Int):∀ (a k q:Nat),starts L t (a+k) q=starts L t a q++starts L t k (past L t a q)
 | 0,k,q=>by simp [starts,past]
 | a+1,k,q=>by
  have e:a+1+k=(a+k)+1:=by omega
  rw [e]
  show q :: starts L t (a+k) (endN L t q)=(q :: starts L t a (endN L t q))++starts L t k (past L t (a+1) q)
  rw [starts_app L t a k (endN L t q)]
  rfl
def adr (M:Nat) (q:Nat):Int:=(M:Int)-1-(q:Int)
theorem end_past {L:List Sym} {t:List Int} (h:IsT L t) {p:Nat} (hp:p<t.length):past L t (arN L t[p]) (p+1)=endN L t p:=
 Forest.past (Forest.kids (Forest.one h hp)).2
def plN (L:List Sym) (t:List Int) (M p:Nat):Nd:=(t.getD p 0,(starts L t (arN L (t.getD p 0)) (p+1)).map (adr M),0,false,0)
end Go.Proofs.YtblgblgchkonhaaGreat
namespace Go.Proofs.YtblgblgchkonhaaGreat
set_option maxRecDepth 100000
set_option linter.unusedVariables false
open Go.RowKit
attribute [local go_sem ↓] Go.wp_at_zero Go.wp_at_succ
set_option maxHeartbeats 4000000 in
theorem arg_yes {B:Nat→Prop} {w:World} {h g room:Nat} {N:List Nd} (p:HpB B w h g room N) (i:Nat) (hi:i<N.length) (n:Int) :
  Calls Tryz.prog 115 #[.agg #[.pointer (some ⟨h,0,none⟩)],.int .i64 (i:Int),.int .i64 n] w fun e w' => ∃ y,e=.returned (.int .i64 y)∧ArR N (i:Int) n y∧Same0 w w' := by
 obtain ⟨W0,hW0⟩:∃ W0,W0=w.alloc (.cells #[.pointer (some ⟨h,0,none⟩)] 81):=⟨_,rfl⟩
 have k0:Same0 w W0:=by rw [hW0];exact (Kept.refl _ w).alloc _
 have h0:W0.heap[w.heap.size]? = some (.cells #[.pointer (some ⟨h,0,none⟩)] 81 (0,0)):=by rw [hW0];exact heap_alloc_new w _
 have b0:W0.cell? ⟨w.heap.size,0,none⟩=some (.pointer (some ⟨h,0,none⟩)):=cellAt h0 0
 have C:=appl_yes (p.same k0) i hi
 have HM:Hid (∀ x∈N,x.2.1.length≤6∧∀ z∈x.2.1,0≤z∧z<(N.length:Int)):=fun x hx=>⟨(may_facts (p.may x hx)).2.1,(may_facts (p.may x hx)).2.2.2.2.1⟩
 have HA:Hid (∀ ww (j:Nat),Same0 W0 ww→j<N.length→Calls Tryz.prog 41 #[.pointer (some ⟨h,0,none⟩),.int .i64 (j:Int)] ww fun e w' => ∃ (b:Nat) (hb:b<N.length) (bo:Option Addr) (bc:Nat),e=.returned (.tuple #[.int .i64 (b:Int),nodeV N[b] bo bc,.int .i64 0])∧Res N j b∧ArgT w' bo N[b].2.1 bc∧(∀ a,bo=some a→ww.heap.size≤a.block)∧Same0 ww w'):=fun ww j hk hj=>appl_yes ((p.same k0).same hk) j hj
 have HB:Hid (∀ ww,Same0 W0 ww→ww.cell? ⟨w.heap.size,0,none⟩=some (.pointer (some ⟨h,0,none⟩))∧Same0 w ww):=fun ww hk=>⟨cellAt (hk.at0 h0) 0,k0.trans' hk⟩
 clear p hi k0 h0
 go_enter Tryz.func115,Tryz.ntmps115
 go_upto_region 1 with fail
 rw [← hW0]
 clear hW0
 go_upto_region 2 with (first | (go_at_call 41;refine C.mono ?_;rintro e w1 ⟨b,hb,bo,bc,rfl,hr,ha, -,k1⟩))
 obtain ⟨X1,hX1⟩:∃ X1,X1=w1.alloc (.cells #[.int .i64 N[b].1,.slice bo N[b].2.1.length bc,.int .i64 N[b].2.2.1,.bool N[b].2.2.2.1,.int .i64 N[b].2.2.2.2] 76):=⟨_,rfl⟩
 have kx1:Same0 w1 X1:=by rw [hX1];exact (Kept.refl _ _).alloc _
 have kx:Same0 W0 X1:=k1.trans' kx1
 have hbox:X1.heap[w1.heap.size]? = some (.cells #[.int .i64 N[b].1,.slice bo N[b].2.1.length bc,.int .i64 N[b].2.2.1,.bool N[b].2.2.2.1,.int .i64 N[b].2.2.2.2] 76 (0,0)):=by rw [hX1];exact heap_alloc_new _ _
 obtain ⟨x0,x1,x2,x3,x4⟩:=box5 hbox
 rw [← hX1]
 obtain ⟨hlen,hall⟩:=HM.out _ (List.getElem_mem hb)
 obtain ⟨y0,k2⟩:=HB.out X1 kx
 have NO:Hid (¬ (0≤n∧n<(N[b].2.1.length:Int))→ArR N (i:Int) n (-1)):=fun hn=>.inr ⟨rfl,fun ⟨i', b', hb', e1,e2,e3,e4⟩=>by
  obtain rfl:i=i' := by omega
  obtain rfl:=hr.uniq e2
  exact hn ⟨e3,e4⟩⟩
 clear hX1 C b0
 by_cases hn0:n<0
 ·have H:=NO.out (by omega)
  clear hall
  go_wp2_with fail
  go_ret
  exact ⟨-1,rfl,H,k2⟩
 ·by_cases hn1:(N[b].2.1.length:Int)≤n
  ·have H:=NO.out (by omega)
   clear hall
   go_wp2_with fail
   go_ret
   exact ⟨-1,rfl,H,k2⟩
  ·obtain ⟨m,rfl⟩:∃ m:Nat,n=(m:Int):=⟨n.toNat,by omega⟩
   have hm:m<N[b].2.1.length:=by omega
   obtain ⟨hz0,hz1⟩:=hall _ (List.getElem_mem hm)
   obtain ⟨j,ej⟩:∃ j:Nat,N[b].2.1[m]=(j:Int):=⟨N[b].2.1[m].toNat,by omega⟩
   have HAJ:Hid (∀ ww,Same0 X1 ww→Calls Tryz.prog 41 #[.pointer (some ⟨h,0,none⟩),.int .i64 (j:Int)] ww fun e w' => ∃ (c:Nat) (s:Int) (bo:Option Addr) (ln bc:Nat) (mk:Int) (pt:Bool) (tt:Int),e=.returned (.tuple #[.int .i64 (c:Int),.agg #[.int .i64 s,.slice bo ln bc,.int .i64 mk,.bool pt,.int .i64 tt],.int .i64 0])∧Res N j c∧Same0 ww w'):=fun ww hk=>(HA.out ww j (kx.trans' hk) (by omega)).mono (fun e w' ⟨c,hc,bo,bc,e1,e2,_,_,e5⟩=>⟨c,_,bo,_,bc,_,_,_,e1,e2,e5⟩)
   have ha1:=(ha.same kx1).1.at'
   obtain ⟨ab,aoff,hbo,hab,hac⟩:=ha1.get hm
   rw [ej] at hac
   have i1:(0:Int)≤(m:Int):=by omega
   have i2:(m:Int)<(N[b].2.1.length:Int):=by omega
   have YES:Hid (∀ c,Res N j c→ArR N (i:Int) (m:Int) (c:Int)):=fun c hc=>.inl ⟨i,b,c,hb,by simpa using hm,rfl,hr,by omega,by simp only [Int.toNat_natCast];rw [ej];simpa using hc,rfl⟩
   subst hbo
   have hzx:w.heap.size≤X1.heap.size:=k2.size
   have hbx1:=lt_of_at hbox
   have REST:Hid (∀ lb,N[b].2.1.length=lb→i<N.length→True):=fun _ _ _=>trivial
   obtain ⟨lb,hlb⟩:∃ lb,N[b].2.1.length=lb:=⟨_,rfl⟩
   rw [hlb] at i2 x1 hbox
   clear REST hlb
   have hbw:X1.heap[w1.heap.size]? = some (.cells #[.int .i64 N[b].1,.slice (some ⟨ab,aoff,none⟩) lb bc,.int .i64 N[b].2.2.1,.bool N[b].2.2.2.1,.int .i64 N[b].2.2.2.2] 76 (0,0)):=hbox
   have y0w:w.heap.size<X1.heap.size:=World.block_lt_of_cell? _ _ y0
   have FC:Hid (∀ ww,Kept (fun k=>X1.heap.size≤k) X1 ww→(ww.cell? ⟨w.heap.size,0,none⟩=some (.pointer (some ⟨h,0,none⟩))∧ww.cell? ⟨w1.heap.size,1,none⟩=some (.slice (some ⟨ab,aoff,none⟩) lb bc)∧ww.cell? ⟨ab,aoff+m,none⟩=some (.int .i64 (j:Int)))):=fun ww hk=>⟨(hk.cell (p:=⟨w.heap.size,0,none⟩) y0w (fun q=>by have q' : X1.heap.size≤w.heap.size:=q;omega)).trans y0,cellAt (hk.at hbox (by omega)) 1,(hk.cell (p:=⟨ab,aoff+m,none⟩) hab (fun q=>by have q' : X1.heap.size≤ab:=q;omega)).trans hac⟩
   have KA:Hid (Same0 X1 (X1.alloc (.cells #[.int .i64 0,.slice none 0 0,.int .i64 0,.bool false,.int .i64 0] 76)).drew):=Same0.trans' ((Kept.refl _ X1).alloc _) ((Kept.refl _ _).drew)
   have HK2:Hid (Same0 w X1):=k2
   have KD:Hid (Same0 X1 X1.drew):=(Kept.refl _ _).drew
   clear hall hz0 hz1 ej hn0 hn1 NO HA HM ha ha1 hbox hbw kx1 x0 x2 x3 x4 hr hm hlen hbx1 y0w kx HB k1 k2
   go_upto_region 4 with fail
   obtain ⟨S0a,S0b,S0c⟩:=FC.out X1.drew ((Kept.refl _ _).drew)
   obtain ⟨S1a,S1b,S1c⟩:=FC.out (X1.alloc (.cells #[.int .i64 0,.slice none 0 0,.int .i64 0,.bool false,.int .i64 0] 76)).drew (KA.out.mono (fun _ _ f=>f.elim))
   clear hac x1 y0
   go_region_held3 (fun ww=>ww.cell? ⟨w.heap.size,0,none⟩=some (.pointer (some ⟨h,0,none⟩))∧ww.cell? ⟨w1.heap.size,1,none⟩=some (.slice (some ⟨ab,aoff,none⟩) lb bc)∧ww.cell? ⟨ab,aoff+m,none⟩=some (.int .i64 (j:Int))) (with_reducible first | exact ⟨S0a,S0b,S0c⟩ | exact ⟨S1a,S1b,S1c⟩ | exact cc1 | exact cc2 | exact cc3 | exact cc4) (first
    | (go_at_call 41;refine (HAJ.out _ (by with_reducible exact KD.out)).mono ?_;rintro e w2 ⟨c,s,bo2,ln,bc2,mk,pt,tt,rfl,hr2,k3⟩;have K2:Kept (fun k=>X1.heap.size≤k) X1 w2:=((Kept.refl _ X1).drew).trans k3 (fun _ _ f=>f.elim);have KF:Hid (∀ ww,Kept (fun k=>k=w2.heap.size) w2 ww→Same0 w ww):=(fun ww hk=>(HK2.out.trans' (Same0.trans' ((Kept.refl _ X1).drew) k3)).trans hk (fun i hi e=>by have:=K2.size;omega));have cc1:=FC.out w2 K2;have cc2:=FC.out (w2.alloc (.cells #[.int .i64 0,.slice none 0 0,.int .i64 0,.bool false,.int .i64 0] 76)) (K2.trans ((Kept.refl (fun _=>False) w2).alloc _) (fun _ _ f=>f.elim));have cc3:=FC.out (w2.alloc (.cells #[.int .i64 s,.slice bo2 ln bc2,.int .i64 mk,.bool pt,.int .i64 tt] 76)) (K2.trans ((Kept.refl (fun _=>False) w2).alloc _) (fun _ _ f=>f.elim)))
    | (go_at_call 41;refine (HAJ.out _ (by with_reducible exact KA.out)).mono ?_;rintro e w2 ⟨c,s,bo2,ln,bc2,mk,pt,tt,rfl,hr2,k3⟩;have K2:Kept (fun k=>X1.heap.size≤k) X1 w2:=(Same0.trans' KA.out k3).mono (fun _ _ f=>f.elim);have KF:Hid (∀ ww,Kept (fun k=>k=X1.heap.size) w2 ww→Same0 w ww):=(fun ww hk=>(HK2.out.trans' (Same0.trans' KA.out k3)).trans hk (fun i hi e=>by omega));have q5:w2.heap[X1.heap.size]? = some (.cells #[.int .i64 0,.slice none 0 0,.int .i64 0,.bool false,.int .i64 0] 76 (0,0)):=k3.at0 (heap_alloc_new X1 _);obtain ⟨z0,z1,z2,z3,z4⟩:=box5 q5;obtain ⟨f0,f1,f2,f3,f4⟩:=free5 q5;clear q5;have cc1:=FC.out w2 K2;have cc4:=FC.out (put5 w2 X1.heap.size 0 (.int .i64 s) (.slice bo2 ln bc2) (.int .i64 mk) (.bool pt) (.int .i64 tt)) (K2.trans (put5_kept _ _ _ _ _ _ _ _) (fun i hi e=>by omega));unfold put5 at cc4))
   all_goals go_wp2_with fail
   all_goals go_ret
   all_goals first
    | exact ⟨_,rfl,YES.out _ hr2,KF.out _ ((Kept.refl _ _).alloc _)⟩
    | exact ⟨_,rfl,YES.out _ hr2,KF.out _ (put5_kept _ _ _ _ _ _ _ _)⟩
    | exact ⟨_,rfl,YES.out _ hr2,KF.out _ (((Kept.refl (fun _=>False) w2).alloc _).trans (put5_kept _ _ _ _ _ _ _ _) (fun _ _ e=>e))⟩
end Go.Proofs.YtblgblgchkonhaaGreat
namespace Go.Proofs.YtblgblgchkonhaaGreat
open Go.RowKit Go.Extern.Stop Go.Stop Go.Extern
set_option linter.unusedVariables false
set_option maxRecDepth 100000
theorem is_typeOf (v:Value) (w:World):(Extern.ReflectliteType.typeOf #[.iface 40 v]).run Tryz.prog w=.ok (.iface 166 (.agg #[.pointer (some ⟨0,40,none⟩)])) w:=by kernel_rfl
theorem is_comparable (w:World):(callFunc 122 #[.agg #[.pointer (some ⟨0,40,none⟩)]]).run Tryz.prog w=.ok (.value (.bool true)) w:=
  (@run_callFunc_extern Tryz.prog 122 _ (Extern.ReflectliteType.method fun t => do Extern.Rtype.noPackHeld "Comparable" t; pure (.bool (← typeInfo t).comparable)) Tryz.func122 (by kernel_rfl) (by kernel_rfl) (by kernel_rfl) (by kernel_rfl) _ w).trans (by kernel_rfl)
theorem is_mComparable (v : Value) (w : World) : (Go.method 310 166 v "Comparable").run Tryz.prog w = .ok (122, v) w := by kernel_rfl
theorem is_noIs (v:Value) (xT:TypeId) (w:World):(Instr.typeAssert (.iface 40 v) xT 168 true).run Tryz.prog w=.ok (.tuple #[.nilIface,.bool false]) w:=run_typeAssert_lacksB Tryz.underlying168 (by kernel_rfl) (by kernel_rfl) v xT w
theorem is_noUnwrap (v:Value) (xT:TypeId) (w:World):(Instr.typeAssert (.iface 40 v) xT 171 true).run Tryz.prog w=.ok (.tuple #[.nilIface,.bool false]) w:=run_typeAssert_lacksB Tryz.underlying171 (by kernel_rfl) (by kernel_rfl) v xT w
theorem is_noUnwraps (v:Value) (xT:TypeId) (w:World):(Instr.typeAssert (.iface 40 v) xT 172 true).run Tryz.prog w=.ok (.tuple #[.nilIface,.bool false]) w:=run_typeAssert_lacksB Tryz.underlying172 (by kernel_rfl) (by kernel_rfl) v xT w
theorem is_eqE (a b:Int) (w:World):(binOp .eql 37 (.iface 40 (.int .i64 a)) (.iface 40 (.int .i64 b))).run Tryz.prog w=.ok (.bool (a == b)) w:=by kernel_rfl
theorem is_asE (v:Value) (xT:TypeId) (w:World):(Instr.typeAssert (.iface 40 v) xT 40 true).run Tryz.prog w=.ok (.tuple #[v,.bool true]) w:=by kernel_rfl
def FltAt (w:World):List (Int × Int)→Value→Prop
 | [],v=>v=.nilIface
 | (c,p) :: r,v=>(p = -1∧r=[]∧v=.iface 40 (.int .i64 c))∨(p ≠ -1∧∃ b u,v=.iface 92 (.pointer (some ⟨b,0,none⟩))∧w.heap[b]? = some (.cells #[.int .i64 c,.int .i64 p,u] 94 (0,0))∧FltAt w r u)
theorem FltAt.same {w w' : World} (hk:Same0 w w'):∀ {ws:List (Int × Int)} {v:Value},FltAt w ws v→FltAt w' ws v
 | [],_,h=>h
 | (c,p) :: r,v,h=>by
  rcases h with h | ⟨h0,b,u,h1,h2,h3⟩
  ·exact .inl h
  ·exact .inr ⟨h0,b,u,h1,hk.at0 h2,FltAt.same hk h3⟩
theorem is_one (a d:Int) (w:World):Calls Tryz.prog 90 #[.iface 40 (.int .i64 a),.iface 40 (.int .i64 d)] w fun e w' => e=.returned (.bool (a == d))∧w' = w:=by
 have h8:=@run_callFunc_extern Tryz.prog 95 _ Extern.ReflectliteType.typeOf Tryz.func95 (by kernel_rfl) (by kernel_rfl) (by kernel_rfl) (by kernel_rfl)
 have tT:=is_typeOf
 have cT:=is_comparable
 have mR:=is_mComparable
 have nE:=is_noIs
 have uE:=is_noUnwrap
 have vE:=is_noUnwraps
 by_cases hd:a=d
 ·subst hd
  have e1:(a == a)=true:=by simp
  have eq:=is_eqE a a
  rw [e1] at eq ⊢
  clear e1
  go_enter Tryz.func90,Tryz.ntmps90
  go_wp2
  refine wp_loop_rounds 1 ?_
  rw [rounds_succ]
  go_wp2
  go_ret
  exact ⟨rfl,rfl⟩
 ·have e1:(a == d)=false:=by simpa using hd
  have eq:=is_eqE a d
  rw [e1] at eq ⊢
  clear hd e1
  go_enter Tryz.func90,Tryz.ntmps90
  go_wp2
  refine wp_loop_rounds 1 ?_
  rw [rounds_succ]
  go_wp2
  go_ret
  exact ⟨rfl,rfl⟩
end Go.Proofs.YtblgblgchkonhaaGreat
