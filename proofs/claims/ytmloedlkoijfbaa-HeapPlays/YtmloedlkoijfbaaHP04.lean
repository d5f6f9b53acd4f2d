import Derived.Test.YtmloedlkoijfbaaHP03
import Derived.Test.YtmloedlkoijfbaaHP01
import Derived.Laws.AppendOwnNone
namespace Go.Proofs.Ytmloedlkoijfbaa
set_option maxRecDepth 100000
set_option linter.unusedVariables false
open Go.RowKit Go.Shelf
attribute [local go_sem] Oper.semAt_some
theorem notI_rec {X:World} {l:Nat} {o:Obj} (hl:X.heap[l]? = some o) (ho:o.isCells=false):NotI X l:=fun cur e=>by rw [hl] at e;cases e;cases ho
structure RgC (w:World) (l:List Nd) (C:Nat→Prop) (k:Nat) (X:World):Prop where
 ex:∃ v,X.heap[w.heap.size+1+1]? = some (.cells #[v] 32 (0,0))∧NRow (fun b=>w.heap.size≤b) (w.heap.size+3) X v (l.take k)∧∀ q,v.ownBlock=some q→¬ C q
 r0:X.heap[w.heap.size]? = some (.cells #[.slice none 0 0] 32 (0,0))
 r1:X.heap[w.heap.size+1]? = some (.cells #[.bool false] 4 (0,0))
 kp:Same0 w X
 no:¬ C (w.heap.size+1+1)
theorem RgC.same {w:World} {l:List Nd} {C:Nat→Prop} {k:Nat} {X Y:World} (h:RgC w l C k X) (hk:Same0 X Y):RgC w l C k Y:=by
 obtain ⟨v,h1,h2,h3⟩:=h.ex
 exact ⟨⟨v,hk.at0 h1,h2.same hk,h3⟩,hk.at0 h.r0,hk.at0 h.r1,h.kp.trans' hk,h.no⟩
theorem RgC.put {w:World} {l:List Nd} {C:Nat→Prop} {k:Nat} {X:World} {r:Nat} {o o' : Obj} (h:RgC w l C k X) (hl:X.heap[r]? = some o) (ho:o.isCells=false) (hw:w.heap.size≤r):RgC w l C k (X.putObj r o'):=by
 obtain ⟨v,h1,h2,h3⟩:=h.ex
 have kk:Kept (fun k=>k=r) X (X.putObj r o'):=kept_putH
 refine ⟨⟨v,putObj_at hl ho h1 rfl,h2.kept kk (fun q e s=>?_) (fun q _ s=>by have s' : q=r:=s;rw [s'];exact notI_rec hl ho),h3⟩,putObj_at hl ho h.r0 rfl,putObj_at hl ho h.r1 rfl,h.kp.trans kk (fun i hi e=>by have e' : i=r:=e;omega),h.no⟩
 have s' : q=r:=s
 obtain ⟨vs,q1,_⟩:=h2
 rcases q1.2 with ⟨e1,_⟩ | ⟨g', cap', cur', e1,_,hg', _⟩
 ·rw [e1] at e;cases e
 ·rw [e1] at e
  have e2:g' = q:=Option.some.inj e
  rw [e2,s', hl] at hg'
  cases hg'
  cases ho
theorem NRow.own_cells {B:Nat→Prop} {base:Nat} {X:World} {v:Value} {l:List Nd} (r:NRow B base X v l) {q:Nat} (e:v.ownBlock=some q):∃ cur,X.heap[q]? = some (.cells cur 47 (0,0)):=by
 obtain ⟨vs,q1,_⟩:=r
 rcases q1.2 with ⟨e1,_⟩ | ⟨g', cap', cur', e1,_,hg', _⟩
 ·rw [e1] at e;cases e
 ·rw [e1] at e
  have e2:g' = q:=Option.some.inj e
  exact ⟨cur', e2 ▸ hg'⟩
theorem RgC.next {w:World} {l:List Nd} {C:Nat→Prop} {k:Nat} {X w2:World} {v v' : Value} (h:RgC w l C k X) (hC:CellsOf C X) (hv:X.heap[w.heap.size+1+1]? = some (.cells #[v] 32 (0,0))) (hr:NRow (fun b=>w.heap.size≤b) (w.heap.size+3) X v (l.take k)) (h3:∀ q,v.ownBlock=some q→¬ C q)
  (hn:NRow (fun b=>w.heap.size≤b) (w.heap.size+3) w2 v' (l.take (k+1))) (kp2:Kept (fun q=>v.ownBlock=some q) X w2) (hat:∀ q,v'.ownBlock=some q→v.ownBlock=some q∨X.heap.size≤q) :
  w2.heap[w.heap.size+1+1]? = some (.cells #[v] 32 (0,0))∧RgC w l C (k+1) (w2.setCell ⟨w.heap.size+1+1,0,none⟩ v')∧∀ D,RndC D C X (w2.setCell ⟨w.heap.size+1+1,0,none⟩ v'):=by
 have ob:∀ q,v.ownBlock=some q→w.heap.size+3≤q:=fun q e=>(hr.block e).1
 have n2:∀ i,i<w.heap.size+3→¬ v.ownBlock=some i:=fun i hi e=>by have:=ob i e;omega
 have h2:=kp2.at hv (n2 _ (by omega))
 have ks:Kept (fun q=>q=w.heap.size+1+1) w2 (w2.setCell ⟨w.heap.size+1+1,0,none⟩ v'):=Kept.setCell (S:=fun q=>q=w.heap.size+1+1) (Kept.refl _ _) (p:=⟨w.heap.size+1+1,0,none⟩) (fun _=>rfl) _
 have ni:∀ q,q=w.heap.size+1+1→NotI w2 q:=fun q e cur hc=>by rw [e,h2] at hc;cases hc
 refine ⟨h2,⟨⟨v', ?_,hn.kept ks (fun q e s=>?_) (fun q _ s=>ni q s),fun q e hc=>?_⟩,ks.at (kp2.at h.r0 (n2 _ (by omega))) (by omega),ks.at (kp2.at h.r1 (n2 _ (by omega))) (by omega),?_,h.no⟩,fun D=>⟨⟨?_,fun i o hD hi ho=>?_⟩,?_⟩⟩
 ·have:=setAt h2 0 v'
  simpa using this
 ·have:=(hn.block e).1;omega
 ·rcases hat q e with q1 | q1
  ·exact h3 q q1 hc
  ·obtain ⟨cs,t,fr,q2⟩:=hC q hc
   have:=lt_of_at q2
   omega
 ·exact (h.kp.trans kp2 (fun i hi e=>by have:=ob i e;omega)).trans ks (fun i hi e=>by omega)
 ·exact Nat.le_trans kp2.size ks.size
 ·have hn1:¬ v.ownBlock=some i:=fun e=>by
   obtain ⟨cur,hc⟩:=hr.own_cells e
   rw [hi] at hc;cases hc;cases ho
  have hn2:i≠w.heap.size+1+1:=fun e=>by rw [e,hv] at hi;cases hi;cases ho
  exact ks.at (kp2.at hi hn1) hn2
 ·exact (kp2.mono (fun i _ e=>h3 i e)).trans ks (fun i _ e hc=>by have e' : i=w.heap.size+1+1:=e;rw [e'] at hc;exact h.no hc)
set_option maxHeartbeats 4000000 in
theorem ranged_any {w:World} {h g room:Nat} {l:List Nd} (p:Hp w h g room l):Calls Try.prog 39 #[.pointer (some ⟨h,0,none⟩)] w fun e w' => ∃ v,e=.returned (.tuple #[v,.bool true])∧NRow (fun b=>w.heap.size≤b) w.heap.size w' v l∧Same0 w w' := by
 have hFn:∀ k,Fence.wide.fn k:=fun _=>trivial
 have hle:=p.le
 have hr2:=p.rm2
 have hl4:l.length≤4000:=by omega
 have pB:HpB (fun i=>i<w.heap.size) w h g room l:=p.mono (fun k hk _ _=>hk)
 obtain ⟨W0,hW0⟩:∃ W0,W0=(((w.alloc (.cells #[.slice none 0 0] 32)).alloc (.cells #[.bool false] 4)).alloc (.cells #[.slice none 0 0] 32)).alloc (.cells #[.pointer (some ⟨h,0,none⟩)] 24):=⟨_,rfl⟩
 have K0:Same0 w W0:=by rw [hW0];exact ((((Kept.refl _ w).alloc _).alloc _).alloc _).alloc _
 have z0:W0.heap.size=w.heap.size+4:=by rw [hW0];simp
 have b3:W0.cell? ⟨w.heap.size+1+1+1,0,none⟩=some (.pointer (some ⟨h,0,none⟩)):=by
  rw [hW0]
  have:=heap_alloc_new (((w.alloc (.cells #[.slice none 0 0] 32)).alloc (.cells #[.bool false] 4)).alloc (.cells #[.slice none 0 0] 32)) (.cells #[.pointer (some ⟨h,0,none⟩)] 24)
  simp only [World.size_alloc] at this
  exact cellAt this 0
 have b0:W0.heap[w.heap.size]? = some (.cells #[.slice none 0 0] 32 (0,0)):=by
  rw [hW0,heap_alloc_old _ _ (by simp;omega),heap_alloc_old _ _ (by simp;omega),heap_alloc_old _ _ (by simp)];exact heap_alloc_new w _
 have b1:W0.heap[w.heap.size+1]? = some (.cells #[.bool false] 4 (0,0)):=by
  rw [hW0,heap_alloc_old _ _ (by simp),heap_alloc_old _ _ (by simp)]
  have:=heap_alloc_new (w.alloc (.cells #[.slice none 0 0] 32)) (.cells #[.bool false] 4)
  simpa using this
 have b2:W0.heap[w.heap.size+1+1]? = some (.cells #[.slice none 0 0] 32 (0,0)):=by
  rw [hW0,heap_alloc_old _ _ (by simp)]
  have:=heap_alloc_new ((w.alloc (.cells #[.slice none 0 0] 32)).alloc (.cells #[.bool false] 4)) (.cells #[.slice none 0 0] 32)
  simpa using this
 refine (callsIn_wide (n:=9)).1 ?_
 refine callsIn_of_wp_marks Try.func39 rfl trivial ?_ rfl
 simp only [Try.ntmps39,List.size_toArray,List.length_cons,List.length_nil,Nat.reduceAdd,Nat.reduceSub,Array.replicate_succ,Array.replicate_zero,List.push_toArray,List.append_toArray,List.nil_append,List.cons_append]
 gi_wp2_with (gi_at_call 13;refine (hall_in Fence.wide _ trivial rfl _ _).mono ?_;rintro e w' ⟨rfl,rfl⟩)
 rw [← hW0]
 clear hW0
 have START:∀ C X,Same0 W0 X→CellsOf C X→(∀ i,C i→W0.heap.size≤i∨i<w.heap.size)→RgC w l C 0 X:=fun C X hk _ hc=>
  ⟨⟨.slice none 0 0,hk.at0 b2,NRow.nil _ _ _,fun q e=>by cases e⟩,hk.at0 b0,hk.at0 b1,K0.trans' hk,fun q=>by have:=hc _ q;omega⟩
 refine wp_handsC rfl (by omega) (gf:=44) (lb:=#[.pointer (some ⟨w.heap.size+1+1+1,0,none⟩)]) rfl trivial (enters_of Try.func44 (by kernel_rfl) rfl) (hands_heap pB K0 b3 (by omega)) (fun k vs W h=>by obtain ⟨_,_,_,rfl,_⟩:=h;rfl)
  (RgC w l) (fun C k X Y h hk=>h.same hk) (fun C k X r o o' h hl ho hw=>h.put hl ho (by omega)) START (fun _=>False) (fun _ _ h=>h.elim) (fun _ _ _ _ h=>h.elim) ?round ?done ?stop
 case stop=>exact fun _ _ _ h=>h.elim
 case done=>
  rintro D W hD ⟨C,hj⟩ hD2
  obtain ⟨v,h1,h2,h3⟩:=hj.ex
  have v0:=cellAt hj.r0 0
  have v1:=cellAt hj.r1 0
  have v2:=cellAt h1 0
  have f0:=frozenAt hj.r0 0
  have f1:=frozenAt hj.r1 0
  simp only [List.getElem?_toArray,List.getElem?_cons_zero] at v0 v1 v2
  have HJ:Hid (RgC w l C l.length W):=hj
  rw [List.take_length] at h2
  have HRW:Hid (NRow (fun b=>w.heap.size≤b) (w.heap.size+3) W v l):=h2
  obtain ⟨vo,vc,rfl⟩:=h2.shape
  clear hj h1 h2 h3 START
  gi_wp2_with fail
  obtain ⟨Wx,hWx⟩:∃ Wx,Wx=(W.setCell ⟨w.heap.size,0,none⟩ (.slice vo l.length vc)).setCell ⟨w.heap.size+1,0,none⟩ (.bool true):=⟨_,rfl⟩
  have kx:Kept (fun q=>q=w.heap.size∨q=w.heap.size+1) W Wx:=by
   rw [hWx]
   exact Kept.setCell (S:=fun q=>q=w.heap.size∨q=w.heap.size+1) (Kept.setCell (S:=fun q=>q=w.heap.size∨q=w.heap.size+1) (Kept.refl _ _) (p:=⟨w.heap.size,0,none⟩) (fun _=>.inl rfl) _) (p:=⟨w.heap.size+1,0,none⟩) (fun _=>.inr rfl) _
  have x0:Wx.heap[w.heap.size]? = some (.cells #[.slice vo l.length vc] 32 (0,0)):=by
   rw [hWx]
   exact (Below.heap_setCell _ _ _ _ (by simp)).trans (setAt HJ.out.r0 0 (.slice vo l.length vc))
  have x1:Wx.heap[w.heap.size+1]? = some (.cells #[.bool true] 4 (0,0)):=by
   rw [hWx]
   exact setAt ((Below.heap_setCell _ _ _ _ (by simp)).trans HJ.out.r1) 0 (.bool true)
  have xD:=kx.at hD2 (by omega)
  rw [← hWx]
  have ks' : Kept (fun q=>q=D) Wx (Wx.putObj D (.deferred none)):=kept_putH
  have y0:=cellAt (ks'.at x0 (by omega)) 0
  have y1:=cellAt (ks'.at x1 (by omega)) 0
  simp only [List.getElem?_toArray,List.getElem?_cons_zero] at y0 y1
  refine ⟨by simp,.inl ⟨_,_,rfl,run_takeDeferred xD,?_⟩⟩
  refine ⟨.tuple #[.slice vo l.length vc,.bool true],by simp [results,Try.results39,go_sem,y0,y1],_,rfl,?_,?_⟩
  ·have n1:=HRW.out.kept kx (fun q e s=>by have:=(HRW.out.block e).1;omega) (fun q _ s cur hc=>by
    rcases s with s | s
    ·rw [s,HJ.out.r0] at hc;cases hc
    ·rw [s,HJ.out.r1] at hc;cases hc)
   have n2:=n1.kept ks' (fun q e s=>by
    have s' : q=D:=s
    obtain ⟨vs,q1,_⟩:=n1
    rcases q1.2 with ⟨e1,_⟩ | ⟨g', cap', cur', e1,_,hg', _⟩
    ·rw [e1] at e;cases e
    ·rw [e1] at e
     have e2:g' = q:=Option.some.inj e
     rw [e2,s', xD] at hg'
     cases hg') (fun q _ s=>by have s' : q=D:=s;rw [s'];exact notI_rec xD rfl)
   obtain ⟨vs,q1,q2⟩:=n2
   exact ⟨vs,row_mono q1 (by omega),q2⟩
  ·exact (HJ.out.kp.trans kx (fun i hi e=>by omega)).trans ks' (fun i hi e=>by omega)
 case round=>
  rintro r C k vs W hk hr' hrW hcc hj ⟨hkl,bo,bc,rfl,ha,hba⟩
  obtain ⟨Wa,hWa⟩:∃ Wa,Wa=W.alloc (.cells #[.int .i64 l[k].1,.slice bo l[k].2.1.length bc,.int .i64 l[k].2.2.1,.bool l[k].2.2.2.1,.int .i64 l[k].2.2.2.2] 47):=⟨_,rfl⟩
  have ka:Same0 W Wa:=by rw [hWa];exact (Kept.refl _ _).alloc _
  have bx:Wa.heap[W.heap.size]? = some (.cells #[.int .i64 l[k].1,.slice bo l[k].2.1.length bc,.int .i64 l[k].2.2.1,.bool l[k].2.2.2.1,.int .i64 l[k].2.2.2.2] 47 (0,0)):=by rw [hWa];exact heap_alloc_new _ _
  gi_wp2_with fail
  rw [← hWa]
  clear hWa
  refine ⟨RndC.same ka,fun o o' ho hoc hoc' => ?_⟩
  have hjb:=(hj.same ka).put (o' := o') ho hoc (by omega)
  have hccb:=(hcc.same ka).kept ((hcc.same ka).put (o' := o') ho hoc)
  have bxb:=putObj_at (o' := o') ho hoc bx rfl
  have hab:=(ha.same ka).kept (kept_putH (l:=r) (o' := o')) (fun q s=>by have s' : q=r:=s;rw [s'];exact notI_rec ho hoc)
  obtain ⟨Wb,hWb⟩:∃ Wb,Wb=Wa.putObj r o' := ⟨_,rfl⟩
  rw [← hWb] at hjb hccb bxb hab ⊢
  have hzb:W0.heap.size≤Wb.heap.size:=by have h1:=ka.size;rw [hWb];simp;omega
  clear hWb ho bx hj ka hcc ha
  obtain ⟨x0,x1,x2,x3,x4⟩:=box5 bxb
  obtain ⟨v,h1,h2,h3⟩:=hjb.ex
  have v2:=cellAt h1 0
  simp only [List.getElem?_toArray,List.getElem?_cons_zero] at v2
  have hlk:(l.take k).length=k:=by simp;omega
  obtain ⟨vo,vc,rfl⟩:=h2.shape
  rw [hlk] at v2 h1 h2 h3
  obtain ⟨ws,hown,hncl⟩:=h2
  rw [hlk] at hown
  obtain ⟨i0,hi0,hz0,hz1,hz2⟩:=info_parts info_node
  have kWn:Same0 Wb (Wb.alloc (.cells #[.int .i64 l[k].1,.slice bo l[k].2.1.length bc,.int .i64 l[k].2.2.1,.bool l[k].2.2.2.1,.int .i64 l[k].2.2.2.2] 47)):=(Kept.refl _ _).alloc _
  have hr2' : NRow (fun b=>w.heap.size≤b) (w.heap.size+3) Wb (.slice vo k vc) (l.take k):=⟨ws,by rw [hlk];exact hown,hncl⟩
  have nI:∀ q,(Value.slice vo k vc).ownBlock=some q→NotI Wb q:=fun q e=>(hr2'.block e).2.2
  have MORE:Hid (∀ w2 v', w2.ownsRow (w.heap.size+3) 47 5 v' (k+1) (ws ++ [.int .i64 l[k].1,.slice bo l[k].2.1.length bc,.int .i64 l[k].2.2.1,.bool l[k].2.2.2.1,.int .i64 l[k].2.2.2.2])→Kept (fun q=>(Value.slice vo k vc).ownBlock=some q) Wb w2→(∀ q,v'.ownBlock=some q→(Value.slice vo k vc).ownBlock=some q∨Wb.heap.size≤q)→(w2.cell? ⟨w.heap.size+1+1,0,none⟩=some (.slice vo k vc)∧w2.frozen? ⟨w.heap.size+1+1,0,none⟩=false)∧RgC w l C (k+1) (w2.setCell ⟨w.heap.size+1+1,0,none⟩ v')∧RndC W0.heap.size C Wb (w2.setCell ⟨w.heap.size+1+1,0,none⟩ v')):=fun w2 v' hr hkp hat=>by
   have hn2:NRow (fun b=>w.heap.size≤b) (w.heap.size+3) w2 v' (l.take (k+1)):=by
    refine ⟨_,by simp only [List.length_take];rw [Nat.min_eq_left (by omega)];exact hr,?_⟩
    rw [List.take_succ_eq_append_getElem hkl]
    exact (hncl.kept hkp (fun q _ e=>nI q e)).snoc (hab.kept hkp (fun q e=>nI q e)) (fun a e=>by have:=hba a e;omega)
   obtain ⟨q1,q2,q3⟩:=hjb.next hccb h1 hr2' h3 hn2 hkp hat
   exact ⟨⟨cellAt q1 0,frozenAt q1 0⟩,q2,q3 _⟩
  have bb1:k+1≤maxLen:=by unfold maxLen;omega
  have bb2:(k+1) * 56≤140737488355328:=by omega
  have bb3:w.heap.size+3≤(Wb.alloc (.cells #[.int .i64 l[k].1,.slice bo l[k].2.1.length bc,.int .i64 l[k].2.2.1,.bool l[k].2.2.2.1,.int .i64 l[k].2.2.2.2] 47)).heap.size:=by simp;omega
  have HOW:Hid (Wb.ownsRow (w.heap.size+3) 47 5 (.slice vo k vc) k ws):=hown
  have HNW:Hid (∀ j u,[Value.int .i64 l[k].1,.slice bo l[k].2.1.length bc,.int .i64 l[k].2.2.1,.bool l[k].2.2.2.1,.int .i64 l[k].2.2.2.2][j]? = some u→(Wb.alloc (.cells #[.int .i64 l[k].1,.slice bo l[k].2.1.length bc,.int .i64 l[k].2.2.1,.bool l[k].2.2.2.1,.int .i64 l[k].2.2.2.2] 47)).cell? ((⟨Wb.heap.size,0,none⟩:Addr).add j)=some u):=World.news_of_block (cs:=#[.int .i64 l[k].1,.slice bo l[k].2.1.length bc,.int .i64 l[k].2.2.1,.bool l[k].2.2.2.1,.int .i64 l[k].2.2.2.2]) (t:=47) (fr:=(0,0)) (heap_alloc_new Wb _)
  have HON:Hid (∀ u∈[Value.int .i64 l[k].1,.slice bo l[k].2.1.length bc,.int .i64 l[k].2.2.1,.bool l[k].2.2.2.1,.int .i64 l[k].2.2.2.2],u.oneCell' = true):=by (show ∀ u∈_,_);intro u hu;simp at hu;rcases hu with rfl | rfl | rfl | rfl | rfl <;> rfl
  clear hjb hccb bxb hab h1 h3 hncl hown kWn hr2' nI START hba
  gi_wp2_with (gi_at_builtin;refine wpListIn_append_own_at _ rfl _ _ 32 rfl (w.heap.size+3) 47 i0 _ 5 56 Try.underlying32 hi0 hz0 hz1 hz2 rfl (by decide) (.slice vo k vc) k ws rfl (World.ownsRow.alloc HOW.out _) ⟨Wb.heap.size,0,none⟩ 1 1 _ rfl rfl HNW.out HON.out bb1 bb2 bb3 ?_;intro v' w2 hown' hgrow _ hat;obtain ⟨o9,c9,rfl⟩:=row_shape hown'; obtain ⟨⟨m1,m2⟩,m3,m4⟩:=MORE.out w2 _ hown' (Kept.grown (Kept.alloc (Kept.refl _ Wb) _) hgrow (fun _ e _=>e)) (fun q e=>by rcases hat with t | t; (rw [t] at e;exact .inl e); (rw [t] at e;right;have:=Option.some.inj e;simp at this;omega)))
  first | exact m4 | (rw [← z0];exact m4) | (rw [z0] at m4;exact m4)
end Go.Proofs.Ytmloedlkoijfbaa
namespace Go.Proofs.Ytmloedlkoijfbaa
set_option maxRecDepth 100000
set_option linter.unusedVariables false
open Go.RowKit
theorem Arg.onto {w w' : World} {ao:Option Addr} {xs:List Int} {cap:Nat} (h:Arg w ao xs cap) (hk:Same0 w w'):Arg w' ao xs cap:=⟨h.at'.same hk,h.cap', h.nil,h.size⟩
theorem IntsAt.lt {w:World} {ao:Option Addr} {xs:List Int} (h:IntsAt w ao xs) (h0:xs≠[]) {a:Addr} (e:ao=some a):a.block<w.heap.size:=by
 rcases h with q | ⟨b,off,rfl,hlt,_⟩
 ·exact absurd q h0
 ·cases e;exact hlt
def NsW (w:World) (ao:Option Addr) (l:List Nd):Prop:=l=[]∨∃ nb noff,ao=some ⟨nb,noff,none⟩∧nb<w.heap.size∧∀ j (hj:j<l.length),∃ xo xc,w.cell? ⟨nb,noff+j * 5,none⟩=some (.int .i64 l[j].1)∧w.cell? ⟨nb,noff+j * 5+1,none⟩=some (.slice xo l[j].2.1.length xc)∧w.cell? ⟨nb,noff+j * 5+2,none⟩=some (.int .i64 l[j].2.2.1)∧w.cell? ⟨nb,noff+j * 5+3,none⟩=some (.bool l[j].2.2.2.1)∧w.cell? ⟨nb,noff+j * 5+4,none⟩=some (.int .i64 l[j].2.2.2.2)∧Arg w xo l[j].2.1 xc
theorem NsM.weak {B:Nat→Prop} {w:World} {ao:Option Addr} {l:List Nd} (h:NsM B w ao l):NsW w ao l:=by
 refine h.imp id ?_
 rintro ⟨b,off,rfl,hlt,hc⟩
 refine ⟨b,off,rfl,hlt,fun j hj=>?_⟩
 obtain ⟨xo,xc,n0,n1,n2,n3,n4,n5, -⟩:=hc j hj
 exact ⟨xo,xc,n0,n1,n2,n3,n4,n5.1⟩
theorem NsW.same {w w' : World} {ao:Option Addr} {l:List Nd} (h:NsW w ao l) (hk:Same0 w w'):NsW w' ao l:=by
 refine h.imp id ?_
 rintro ⟨nb,noff,rfl,hlt,hc⟩
 have t:∀ o,w'.cell? ⟨nb,o,none⟩=w.cell? ⟨nb,o,none⟩:=fun o=>hk.cell (p:=⟨nb,o,none⟩) hlt (fun f=>f)
 refine ⟨nb,noff,rfl,Nat.lt_of_lt_of_le hlt hk.size,fun j hj=>?_⟩
 obtain ⟨xo,xc,n0,n1,n2,n3,n4,n5⟩:=hc j hj
 exact ⟨xo,xc,(t _).trans n0,(t _).trans n1,(t _).trans n2,(t _).trans n3,(t _).trans n4,⟨n5.at'.same hk,n5.cap', n5.nil,n5.size⟩⟩
def NsV (P:Nat→Prop) (w:World) (ao:Option Addr) (l:List Nd):Prop:=l=[]∨∃ nb noff,ao=some ⟨nb,noff,none⟩∧nb<w.heap.size∧P nb∧∀ j (hj:j<l.length),∃ xo xc,w.cell? ⟨nb,noff+j * 5,none⟩=some (.int .i64 l[j].1)∧w.cell? ⟨nb,noff+j * 5+1,none⟩=some (.slice xo l[j].2.1.length xc)∧w.cell? ⟨nb,noff+j * 5+2,none⟩=some (.int .i64 l[j].2.2.1)∧w.cell? ⟨nb,noff+j * 5+3,none⟩=some (.bool l[j].2.2.2.1)∧w.cell? ⟨nb,noff+j * 5+4,none⟩=some (.int .i64 l[j].2.2.2.2)∧Arg w xo l[j].2.1 xc∧(l[j].2.1≠[]→∀ a,xo=some a→P a.block)
theorem NsV.weak {P:Nat→Prop} {w:World} {ao:Option Addr} {l:List Nd} (h:NsV P w ao l):NsW w ao l:=by
 refine h.imp id ?_
 rintro ⟨b,off,rfl,hlt,_,hc⟩
 refine ⟨b,off,rfl,hlt,fun j hj=>?_⟩
 obtain ⟨xo,xc,n0,n1,n2,n3,n4,n5, -⟩:=hc j hj
 exact ⟨xo,xc,n0,n1,n2,n3,n4,n5⟩
theorem NsW.below {w:World} {ao:Option Addr} {l:List Nd} (h:NsW w ao l):NsV (fun b=>b<w.heap.size) w ao l:=by
 refine h.imp id ?_
 rintro ⟨b,off,rfl,hlt,hc⟩
 refine ⟨b,off,rfl,hlt,hlt,fun j hj=>?_⟩
 obtain ⟨xo,xc,n0,n1,n2,n3,n4,n5⟩:=hc j hj
 exact ⟨xo,xc,n0,n1,n2,n3,n4,n5,fun h0 a e=>n5.at'.lt h0 e⟩
theorem NsV.mono {P Q:Nat→Prop} {w:World} {ao:Option Addr} {l:List Nd} (h:NsV P w ao l) (hq:∀ b,P b→Q b):NsV Q w ao l:=by
 refine h.imp id ?_
 rintro ⟨b,off,rfl,hlt,hp,hc⟩
 refine ⟨b,off,rfl,hlt,hq _ hp,fun j hj=>?_⟩
 obtain ⟨xo,xc,n0,n1,n2,n3,n4,n5,n6⟩:=hc j hj
 exact ⟨xo,xc,n0,n1,n2,n3,n4,n5,fun h0 a e=>hq _ (n6 h0 a e)⟩
theorem NsV.kept {P S:Nat→Prop} {w w' : World} {ao:Option Addr} {l:List Nd} (h:NsV P w ao l) (hk:Kept S w w') (hS:∀ b,P b→¬ S b):NsV P w' ao l:=by
 refine h.imp id ?_
 rintro ⟨nb,noff,rfl,hlt,hp,hc⟩
 have t:∀ o,w'.cell? ⟨nb,o,none⟩=w.cell? ⟨nb,o,none⟩:=fun o=>hk.cell (p:=⟨nb,o,none⟩) hlt (hS _ hp)
 refine ⟨nb,noff,rfl,Nat.lt_of_lt_of_le hlt hk.size,hp,fun j hj=>?_⟩
 obtain ⟨xo,xc,n0,n1,n2,n3,n4,n5,n6⟩:=hc j hj
 refine ⟨xo,xc,(t _).trans n0,(t _).trans n1,(t _).trans n2,(t _).trans n3,(t _).trans n4,⟨?_,n5.cap', n5.nil,n5.size⟩,n6⟩
 by_cases e:l[j].2.1=[]
 ·exact .inl e
 ·exact n5.at'.kept hk (fun a q=>hS _ (n6 e a q))
theorem NsV.same {P:Nat→Prop} {w w' : World} {ao:Option Addr} {l:List Nd} (h:NsV P w ao l) (hk:Same0 w w'):NsV P w' ao l:=h.kept hk (fun _ _ f=>f)
theorem NsM.apart {B:Nat→Prop} {w:World} {ao:Option Addr} {l:List Nd} {g:Nat} (h:NsM B w ao l) (hap:l≠[]→∀ a,ao=some a→a.block≠g) (hg:NotI w g):NsV (fun b=>b≠g) w ao l:=by
 rcases h with e | ⟨b,off,rfl,hlt,hc⟩
 ·exact .inl e
 ·by_cases e:l=[]
  ·exact .inl e
  refine .inr ⟨b,off,rfl,hlt,hap e _ rfl,fun j hj=>?_⟩
  obtain ⟨xo,xc,n0,n1,n2,n3,n4,n5, -⟩:=hc j hj
  refine ⟨xo,xc,n0,n1,n2,n3,n4,n5.1,fun _ a q t=>?_⟩
  obtain ⟨cur,hcur⟩:=n5.2 a q
  rw [t] at hcur
  exact hg cur hcur
theorem HpB.notg {B:Nat→Prop} {w:World} {h g room:Nat} {l:List Nd} (p:HpB B w h g room l):NotI w g:=fun cur hc=>by
 obtain ⟨cs,h1,_⟩:=p.blk
 rw [h1] at hc
 cases hc
end Go.Proofs.Ytmloedlkoijfbaa
namespace Go.Proofs.Ytmloedlkoijfbaa
set_option maxRecDepth 100000
set_option linter.unusedVariables false
open Go.RowKit
attribute [local go_sem ↓] Go.wp_at_zero Go.wp_at_succ
theorem may_app {n:Nat} {x:Nd} (h:x.2.2.2.1=false):mayB n x=(decide (0≤x.1) && decide (x.2.1.length≤6) && insB (n:Int) x.2.1 && isMk x.2.2.1 && decide (x.2.2.2.2=0)):=by
 rw [Bool.eq_iff_iff]
 unfold mayB insB isMk
 simp [h]
 intro _
 constructor
 ·rintro ⟨⟨⟨⟨a,b⟩,c⟩,d⟩,e⟩;exact ⟨⟨⟨a,b⟩,e⟩,c,d⟩
 ·rintro ⟨⟨⟨a,b⟩,e⟩,c,d⟩;exact ⟨⟨⟨⟨a,b⟩,c⟩,d⟩,e⟩
theorem may_indir {n:Nat} {x:Nd} (h:x.2.2.2.1=true):mayB n x=(decide (x.1=0) && decide (x.2.1.length=0) && decide (x.2.2.1=0) && insB (n:Int) [x.2.2.2.2]):=by
 rw [Bool.eq_iff_iff]
 unfold mayB insB
 simp [h]
 constructor
 ·rintro ⟨_,⟨⟨⟨⟨a,b⟩,c⟩,d⟩,e⟩⟩;exact ⟨⟨⟨c,e⟩,d⟩,a,b⟩
 ·rintro ⟨⟨⟨c,e⟩,d⟩,a,b⟩
  rw [c,d,e]
  simp [a,b]
end Go.Proofs.Ytmloedlkoijfbaa
namespace Go.Proofs.Ytmloedlkoijfbaa
set_option linter.unusedVariables false
open Go.RowKit
theorem wpList_more9 {w0:World} {ops:Array Oper} {rest:List Oper} {o:Oper} {a:Act} {Q:Exit→Act→World→Prop} (hgd:o.guard=none) (s x:Operand) (t:TypeId)
  (ho:o.op=.call { callee:=.builtin .append,args:=#[s,x],argTypes:=#[t,t] }) (ht:Try.prog.underlying t=some (.slice 3))
  (base:Nat) (xs:List Int) (v:Value) (hs:a.eval s=v) (hr:Row base w0 v xs) (ys:List Int) (ao:Option Addr) (m c:Nat) (hx:a.eval x=.slice ao m c) (hm:m=ys.length) (hy:IntsAt w0 ao ys) (hnil:ao=none→ys.length=0∧c=0) (hb:base≤w0.heap.size) (hsz:(xs.length+ys.length) * 8≤140737488355328)
  (h:∀ v' w', Row base w' v' (xs++ys)→Kept (fun k=>v.ownBlock=some k) w0 w' → wpList Try.prog ops Q rest (a.put o.dst v') w') :
  wpList Try.prog ops Q (o :: rest) a w0:=by
 cases ao with
 | none=>
  obtain ⟨h1,rfl⟩:=hnil rfl
  have:ys=[]:=List.eq_nil_of_length_eq_zero h1
  subst this
  subst hm
  obtain ⟨i,hi,hz0,hz1,hz2⟩:=info_parts info_intT
  exact wpList_append_own_none hgd s x t ho base 3 i 1 ht hi v xs.length (iv xs) hs hr hx (h v w0 (by simpa using hr) (Kept.refl _ _))
 | some ad=>exact wpList_more hgd s x t ho ht base xs v hs hr ys ad m c hx hm hy hb hsz h
end Go.Proofs.Ytmloedlkoijfbaa
namespace Go.Proofs.Ytmloedlkoijfbaa
set_option maxRecDepth 100000
set_option linter.unusedVariables false
open Go.RowKit
attribute [local go_sem ↓] Go.wp_at_zero Go.wp_at_succ
theorem Row.argS {base:Nat} {w:World} {v:Value} {xs:List Int} (h:Row base w v xs) (hl:xs.length * 8≤140737488351232):∃ ao ac,v=.slice ao xs.length ac∧ArgT w ao xs ac∧∀ a,ao=some a→base≤a.block:=by
 obtain ⟨ao,ac,e,h1,h2,h3⟩:=h.ints
 rcases h.2 with ⟨e2,h0⟩ | ⟨g,cap,cur,e2,hb,hg,hle,hmx,hsz,_⟩
 ·rw [e] at e2
  simp only [Value.slice.injEq] at e2
  obtain ⟨rfl,_,rfl⟩:=e2
  exact ⟨none,0,e,⟨⟨h1,by omega,fun _=>⟨h0,rfl⟩,by omega⟩,(fun a e=>by cases e),fun a e=>by cases e⟩,fun a e=>by cases e⟩
 ·rw [e] at e2
  simp only [Value.slice.injEq] at e2
  obtain ⟨rfl,_,rfl⟩:=e2
  exact ⟨_,ac,e,⟨⟨h1,hle,(fun e=>by cases e),by omega⟩,(fun a e=>by cases e;exact ⟨cur,hg⟩),fun a e=>by cases e;exact ⟨g,cur,rfl,hg,by simpa using hsz,hmx⟩⟩,fun a e=>by cases e;exact hb⟩
theorem rcopied_any {w:World} {ao:Option Addr} {cap:Nat} {xs:List Int} (hx:Arg w ao xs cap) :
  Calls Try.prog 57 #[.slice ao xs.length cap] w fun e w' => ∃ bo bc,e=.returned (.slice bo xs.length bc)∧ArgT w' bo xs bc∧(∀ a,bo=some a→w.heap.size≤a.block)∧Same0 w w' := by
 have k0:Same0 w (w.alloc (.cells #[] 3)):=(Kept.refl _ w).alloc _
 have r0:Row w.heap.size (w.alloc (.cells #[] 3)) (.slice (some ⟨w.heap.size,0,none⟩) 0 0) []:=row_empty w _ (Nat.le_refl _) rfl
 have cI:=hx.at'.same k0
 have hn:=hx.nil
 have hs:Hid (xs.length * 8≤140737488351232):=hx.size
 have z0:=k0.size
 clear hx
 go_enter Try.func57,Try.ntmps57
 go_wp2_with (first | (at_builtin;refine wpList_more9 rfl _ _ 31 rfl Try.underlying31 w.heap.size [] _ rfl r0 xs _ _ _ rfl rfl cI hn z0 (by have:=hs.out;simp;omega) ?_;intro v' w4 hr4 hk4))
 go_ret
 obtain ⟨bo,bc,rfl,h1,h2⟩:=Row.argS (by simpa using hr4) hs.out
 exact ⟨bo,bc,rfl,h1,h2,k0.onto r0 hk4⟩
theorem Row.last {base:Nat} {w:World} {vo:Option Addr} {vc:Nat} {T:List Int} {z:Int} (h:Row base w (.slice vo (T.length+1) vc) (T ++ [z])) :
  ∃ g,vo=some ⟨g,0,none⟩∧base≤g∧w.cell? ⟨g,T.length,none⟩=some (.int .i64 z)∧Row base w (.slice (some ⟨g,0,none⟩) T.length vc) T∧T.length+1≤vc:=by
 have hi:=h.ints
 obtain ⟨ao,ac,e,h1,h2,h3⟩:=hi
 simp only [Value.slice.injEq] at e
 obtain ⟨rfl,_,rfl⟩:=e
 obtain ⟨b,off,e1,hlt,hc⟩:=h1.get (i:=T.length) (by simp)
 subst e1
 unfold Row at h
 rcases h.2 with ⟨e2,h0⟩ | ⟨g,cap,cur,e2,hb,hg,hle,hm,hsz,ht⟩
 ·cases e2
 ·simp only [Value.slice.injEq,Option.some.injEq,Addr.mk.injEq,and_true] at e2
  obtain ⟨⟨rfl,rfl⟩,e3,rfl⟩:=e2
  refine ⟨b,rfl,hb,by simpa using hc,?_,by simpa using hle⟩
  unfold Row
  refine ⟨by simp [iv_length],.inr ⟨b,vc,cur,rfl,hb,hg,by simp at hle;omega,hm,hsz,?_⟩⟩
  have:=congrArg (List.take T.length) ht
  rw [List.take_take] at this
  simp [iv] at this
  simpa [iv,Nat.min_eq_left (Nat.le_succ _)] using this
set_option maxHeartbeats 1000000 in
theorem rcopied_row {w:World} {ao:Option Addr} {cap:Nat} {xs:List Int} (hx:Arg w ao xs cap) :
  Calls Try.prog 57 #[.slice ao xs.length cap] w fun e w' => ∃ v,e=.returned v∧Row w.heap.size w' v xs∧Same0 w w' := by
 have k0:Same0 w (w.alloc (.cells #[] 3)):=(Kept.refl _ w).alloc _
 have r0:Row w.heap.size (w.alloc (.cells #[] 3)) (.slice (some ⟨w.heap.size,0,none⟩) 0 0) []:=row_empty w _ (Nat.le_refl _) rfl
 have cI:=hx.at'.same k0
 have hn:=hx.nil
 have hs:Hid (xs.length * 8≤140737488351232):=hx.size
 have z0:=k0.size
 clear hx
 go_enter Try.func57,Try.ntmps57
 go_wp2_with (first | (at_builtin;refine wpList_more9 rfl _ _ 31 rfl Try.underlying31 w.heap.size [] _ rfl r0 xs _ _ _ rfl rfl cI hn z0 (by have:=hs.out;simp;omega) ?_;intro v' w4 hr4 hk4))
 go_ret
 exact ⟨_,rfl,by simpa using hr4,k0.onto r0 hk4⟩
set_option maxHeartbeats 1000000 in
theorem rmay_any {w:World} {x:Nd} {ao:Option Addr} {ac:Nat} (hx:Arg w ao x.2.1 ac) (n:Nat) :
  Calls Try.prog 62 #[nodeV x ao ac,.int .i64 (n:Int)] w fun e w' => e=.returned (.bool (mayB n x))∧Same0 w w' := by
 obtain ⟨W0,hW0⟩:∃ W0,W0=w.alloc (.cells #[.int .i64 x.1,.slice ao x.2.1.length ac,.int .i64 x.2.2.1,.bool x.2.2.2.1,.int .i64 x.2.2.2.2] 47):=⟨_,rfl⟩
 have k0:Same0 w W0:=by rw [hW0];exact (Kept.refl _ w).alloc _
 obtain ⟨b0,b1,b2,b3,b4⟩:=box_node' w x ao ac (show Same0 _ W0 by rw [hW0];exact Kept.refl _ _)
 have HE:Hid (mayB n x=(decide (0≤x.1) && decide (x.2.1.length≤6) && decide (0≤x.2.2.1) && decide (x.2.2.1≤2) && x.2.1.all (fun z=>decide (0≤z) && decide (z<(n:Int))) &&
  (if x.2.2.2.1=true then decide (0≤x.2.2.2.2) && decide (x.2.2.2.2<(n:Int)) && decide (x.1=0) && decide (x.2.2.1=0) && decide (x.2.1.length=0) else decide (x.2.2.2.2=0)))):=rfl
 have hsz:=hx.size
 have HI:Hid (IntsAt W0 ao x.2.1):=hx.at'.same k0
 have K0:Hid (Same0 w W0):=k0
 clear k0 hx
 generalize mayB n x=R at *
 obtain ⟨xs,xa,xm,xp,xt⟩:=x
 simp only at *
 by_cases h1:0≤xs
 ·by_cases h2:xa.length≤6
  ·by_cases h3:0≤xm
   ·by_cases h4:xm≤2
    ·have HNO:Hid (∀ k (hk:k<xa.length),¬ (0≤xa[k]∧xa[k]<(n:Int))→R=false):=fun k hk hn=>by
      rw [HE.out]
      have:xa.all (fun z=>decide (0≤z) && decide (z<(n:Int)))=false:=by
       rw [Bool.eq_false_iff]
       intro q
       rw [List.all_eq_true] at q
       have:=q _ (List.getElem_mem hk)
       simp at this
       exact hn this
      rw [this]
      simp
     have HYE:Hid ((∀ k (hk:k<xa.length),0≤xa[k]∧xa[k]<(n:Int))→R=(if xp=true then decide (0≤xt) && decide (xt<(n:Int)) && decide (xs=0) && decide (xm=0) && decide (xa.length=0) else decide (xt=0))):=fun hall=>by
      rw [HE.out]
      have:xa.all (fun z=>decide (0≤z) && decide (z<(n:Int)))=true:=by
       rw [List.all_eq_true]
       intro z hz
       obtain ⟨k,hk,rfl⟩:=List.mem_iff_getElem.1 hz
       simpa using hall k hk
      rw [this]
      simp [h1,h2,h3,h4]
     have j1:¬ xs<0:=by omega
     have j2:¬ (6:Int)<(xa.length:Int):=by omega
     have j3:¬ xm<0:=by omega
     have j4:¬ (2:Int)<xm:=by omega
     clear HE h1 h3 h4
     go_enter Try.func62,Try.ntmps62
     go_upto_region 1 with fail
     rw [← hW0]
     clear hW0
     go_upto_region 4 with fail
     go_loop [5] (fun i=>∃ k:Nat,k≤xa.length∧i=.int .i64 (k:Int)∧Hid (∀ j (hj:j<xa.length),j<k→0≤xa[j]∧xa[j]<(n:Int))) (fun i=>xa.length-(intOf i).toNat)
     case atStart=>exact ⟨0,Nat.zero_le _,rfl,fun j _ hj=>absurd hj (Nat.not_lt_zero _)⟩
     case round=>
      obtain ⟨k,hk,rfl,hall⟩:=hrel
      by_cases hlt:k<xa.length
      ·have i0:(0:Int)≤(k:Int):=by omega
       have i1:(k:Int)<(xa.length:Int):=by omega
       obtain ⟨db,doff,rfl, -,cD⟩:=HI.out.get hlt
       have HN:=HNO.out k hlt
       have HNX:Hid (0≤xa[k]∧xa[k]<(n:Int)→Hid (∀ j (hj:j<xa.length),j<k+1→0≤xa[j]∧xa[j]<(n:Int))):=fun e j hj hjk=>by
        by_cases q:j=k
        ·subst q;exact e
        ·exact hall.out j hj (by omega)
       clear hall
       generalize xa[k]=z at *
       by_cases q1:z<0
       ·have HF:Hid (R=false):=HN (by omega)
        clear HN HNX
        go_wp2
        go_ret
        exact ⟨ret_bool HF.out.symm,K0.out⟩
       ·by_cases q2:(n:Int)≤z
        ·have HF:Hid (R=false):=HN (by omega)
         clear HN HNX
         go_wp2
         go_ret
         exact ⟨ret_bool HF.out.symm,K0.out⟩
        ·have HF:=HNX.out ⟨by omega,by omega⟩
         clear HN HNX
         go_wp2
         go_round
         case rel=>exact ⟨k+1,by omega,by go_num,HF⟩
         case measure=>simp [intOf];omega
      ·obtain rfl:k=xa.length:=by omega
       have HY:=HYE.out (fun j hj=>hall.out j hj hj)
       clear hall HYE HNO
       cases xp
       ·have HY2:Hid (R=decide (xt=0)):=HY.trans (if_neg (by simp))
        clear HY
        by_cases g0:xt=0
        ·have HR:Hid (R=true):=by show _=_;rw [HY2.out];simp [g0]
         clear HY2
         go_wp2
         go_ret
         exact ⟨ret_bool (by first | exact HR.out.symm | (rw [HR.out];simp;done) | (rw [HR.out];simp;assumption)),K0.out⟩
        ·have HR:Hid (R=false):=by show _=_;rw [HY2.out];simp [g0]
         clear HY2
         go_wp2
         go_ret
         exact ⟨ret_bool (by first | exact HR.out.symm | (rw [HR.out];simp;done) | (rw [HR.out];simp;assumption)),K0.out⟩
       ·have HY2:Hid (R=(decide (0≤xt) && decide (xt<(n:Int)) && decide (xs=0) && decide (xm=0) && decide (xa.length=0))):=HY.trans (if_pos rfl)
        clear HY
        by_cases g1:0≤xt
        ·by_cases g2:xt<(n:Int)
         ·by_cases g3:xs=0
          ·by_cases g4:xm=0
           ·have HY3:Hid (R=decide (xa.length=0)):=by show _=_;rw [HY2.out];simp [g1,g2,g3,g4]
            clear HY2
            by_cases g5:xa.length=0
            ·have HR:Hid (R=true):=by show _=_;rw [HY3.out];simpa using g5
             have hxa:xa=[]:=List.eq_nil_of_length_eq_zero g5
             subst hxa
             clear HY3 g5
             go_wp2
             go_ret
             exact ⟨ret_bool (by first | exact HR.out.symm | (rw [HR.out];simp;done) | (rw [HR.out];simp;assumption)),K0.out⟩
            ·have HR:Hid (R=false):=by show _=_;rw [HY3.out];simpa using g5
             have g6:¬ (xa.length:Int)=0:=by omega
             clear HY3
             go_wp2
             go_ret
             exact ⟨ret_bool (by first | exact HR.out.symm | (rw [HR.out];simp;done) | (rw [HR.out];simp;assumption) | (rw [HR.out];simp;intro q;rw [q] at g5;exact g5 rfl)),K0.out⟩
           ·have HR:Hid (R=false):=by show _=_;rw [HY2.out];simp [g4]
            clear HY2
            go_wp2
            go_ret
            exact ⟨ret_bool (by first | exact HR.out.symm | (rw [HR.out];simp;done) | (rw [HR.out];simp;assumption)),K0.out⟩
          ·have HR:Hid (R=false):=by show _=_;rw [HY2.out];simp [g3]
           clear HY2
           go_wp2
           go_ret
           exact ⟨ret_bool (by first | exact HR.out.symm | (rw [HR.out];simp;done) | (rw [HR.out];simp;assumption)),K0.out⟩
         ·have HR:Hid (R=false):=by show _=_;rw [HY2.out];simp [g2]
          clear HY2
          go_wp2
          go_ret
          exact ⟨ret_bool (by first | exact HR.out.symm | (rw [HR.out];simp;done) | (rw [HR.out];simp;assumption)),K0.out⟩
        ·have HR:Hid (R=false):=by show _=_;rw [HY2.out];simp [g1]
         have g1' : ¬ xt ≥ 0:=g1
         clear HY2
         go_wp2
         go_ret
         exact ⟨ret_bool (by first | exact HR.out.symm | (rw [HR.out];simp;done) | (rw [HR.out];simp;assumption)),K0.out⟩
    ·have HR:Hid (R=false):=by show _=_;rw [HE.out];simp [h4]
     have j1:¬ xs<0:=by omega
     have j2:¬ (6:Int)<(xa.length:Int):=by omega
     have j3:¬ xm<0:=by omega
     have j4:(2:Int)<xm:=by omega
     clear HE HI
     go_enter Try.func62,Try.ntmps62
     go_upto_region 1 with fail
     rw [← hW0]
     clear hW0
     go_wp2
     go_ret
     exact ⟨ret_bool (by first | exact HR.out.symm | (rw [HR.out];simp;done) | (rw [HR.out];simp;assumption)),K0.out⟩
   ·have HR:Hid (R=false):=by show _=_;rw [HE.out];simp [h3]
    have j1:¬ xs<0:=by omega
    have j2:¬ (6:Int)<(xa.length:Int):=by omega
    have j3:xm<0:=by omega
    clear HE HI
    go_enter Try.func62,Try.ntmps62
    go_upto_region 1 with fail
    rw [← hW0]
    clear hW0
    go_wp2
    go_ret
    exact ⟨ret_bool (by first | exact HR.out.symm | (rw [HR.out];simp;done) | (rw [HR.out];simp;assumption)),K0.out⟩
  ·have HR:Hid (R=false):=by show _=_;rw [HE.out];simp [h2]
   have j1:¬ xs<0:=by omega
   have j2:(6:Int)<(xa.length:Int):=by omega
   clear HE HI
   go_enter Try.func62,Try.ntmps62
   go_upto_region 1 with fail
   rw [← hW0]
   clear hW0
   go_wp2
   go_ret
   exact ⟨ret_bool (by first | exact HR.out.symm | (rw [HR.out];simp;done) | (rw [HR.out];simp;assumption)),K0.out⟩
 ·have HR:Hid (R=false):=by show _=_;rw [HE.out];simp [h1]
  have j1:xs<0:=by omega
  clear HE HI
  go_enter Try.func62,Try.ntmps62
  go_upto_region 1 with fail
  rw [← hW0]
  clear hW0
  go_wp2
  go_ret
  exact ⟨ret_bool (by first | exact HR.out.symm | (rw [HR.out];simp;done) | (rw [HR.out];simp;assumption)),K0.out⟩
structure RhB (B:Nat→Prop) (w:World) (r room:Nat) (v:Value) (l:List Nd):Prop where
 box:w.heap[r]? = some (.cells #[.int .i64 (room:Int),v] 70 (0,0))
 row:NRow B 0 w v l
 rm1:1≤room
 rm2:room≤4000
 le:l.length≤room
 may:∀ x∈l,mayB l.length x=true
 ac:Ac l
theorem RhB.lt {B:Nat→Prop} {w:World} {r room:Nat} {v:Value} {l:List Nd} (p:RhB B w r room v l):r<w.heap.size:=lt_of_at p.box
theorem RhB.noti {B:Nat→Prop} {w:World} {r room:Nat} {v:Value} {l:List Nd} (p:RhB B w r room v l):NotI w r:=fun cur h=>by rw [p.box] at h;cases h
theorem RhB.inl {B:Nat→Prop} {w:World} {r room:Nat} {v:Value} {l:List Nd} (p:RhB B w r room v l):InL l:=inl_of_may p.may
theorem RhB.cells {B:Nat→Prop} {w:World} {r room:Nat} {v:Value} {l:List Nd} (p:RhB B w r room v l):w.cell? ⟨r,0,none⟩=some (.int .i64 (room:Int))∧w.cell? ⟨r,1,none⟩=some v:=⟨cellAt p.box 0,cellAt p.box 1⟩
theorem RhB.kept {B S:Nat→Prop} {w w' : World} {r room:Nat} {v:Value} {l:List Nd} (p:RhB B w r room v l) (hk:Kept S w w') (n1:¬ S r) (n2:∀ k,v.ownBlock=some k→¬ S k) (hS:∀ k,B k→S k→NotI w k):RhB B w' r room v l:=
 ⟨hk.at p.box n1,p.row.kept hk n2 hS,p.rm1,p.rm2,p.le,p.may,p.ac⟩
theorem RhB.same {B:Nat→Prop} {w w' : World} {r room:Nat} {v:Value} {l:List Nd} (p:RhB B w r room v l) (hk:Same0 w w'):RhB B w' r room v l:=p.kept hk (fun f=>f) (fun _ _ f=>f) (fun _ _ f=>f.elim)
theorem RhB.mem {B:Nat→Prop} {w:World} {r room:Nat} {v:Value} {l:List Nd} (p:RhB B w r room v l):∃ ao cap,v=.slice ao l.length cap∧NsM B w ao l:=by
 obtain ⟨ao,cap,rfl⟩:=p.row.shape
 exact ⟨ao,cap,rfl,p.row.mem⟩
set_option maxHeartbeats 1000000 in
theorem rnew_no (n:Int) (w:World) (hn:n<1∨4000<n):Calls Try.prog 9 #[.int .i64 n] w fun e w' => e=.returned (.tuple #[.pointer none,.int .i64 110])∧w' = w:=by
 rcases hn with hn | hn
 ·go_enter Try.func9,Try.ntmps9
  go_wp2
  go_ret2
  exact ⟨rfl,rfl⟩
 ·have h1:¬ n<1:=by omega
  go_enter Try.func9,Try.ntmps9
  go_wp2
  go_ret2
  exact ⟨rfl,rfl⟩
set_option maxHeartbeats 1000000 in
theorem rnew_yes (n:Nat) (w:World) (h1:1≤n) (h2:n≤4000):Calls Try.prog 9 #[.int .i64 (n:Int)] w fun e w' => ∃ r,e=.returned (.tuple #[.pointer (some ⟨r,0,none⟩),.int .i64 0])∧RhB (fun _=>False) w' r n (.slice none 0 0) []∧Same0 w w' ∧ w.heap.size≤r:=by
 have i1:¬ (n:Int)<1:=by omega
 have i2:¬ (4000:Int)<(n:Int):=by omega
 go_enter Try.func9,Try.ntmps9
 go_wp2
 go_ret2
 exact ⟨w.heap.size,rfl,⟨heap_alloc_new w _,NRow.nil _ _ _,h1,h2,Nat.zero_le _,fun x hx=>absurd hx (by simp),Ac.nil⟩,(Kept.refl _ w).alloc _,Nat.le_refl _⟩
theorem set_box {w:World} {b:Nat} {v0 v1 v2 v3 v4:Value} {t:TypeId} (h:w.heap[b]? = some (.cells #[v0,v1,v2,v3,v4] t (0,0))) (u:Value):(w.setCell ⟨b,1,none⟩ u).heap[b]? = some (.cells #[v0,u,v2,v3,v4] t (0,0)):=setAt h 1 u
set_option maxHeartbeats 2000000 in
theorem rnodes_any {w:World} {ao:Option Addr} {ac:Nat} {l:List Nd} (h:NsW w ao l) (hsz:l.length * 56≤140737488351232) :
  Calls Try.prog 41 #[.slice ao l.length ac] w fun e w' => ∃ v,e=.returned v∧NRow (fun b=>w.heap.size≤b) w.heap.size w' v l∧Same0 w w' := by
 have HX:Hid (∀ ww,Same0 w ww→NsW ww ao l):=fun ww hw=>h.same hw
 have KR:Same0 w w:=Kept.refl _ _
 clear h
 go_enter Try.func41,Try.ntmps41
 go_wp2
 go_loopw [3,4] (fun v i wr=>∃ k:Nat,i=.int .i64 (k:Int)∧k≤l.length∧NRow (fun b=>w.heap.size≤b) w.heap.size wr v (l.take k)∧Same0 w wr) (fun _ i _=>l.length-(intOf i).toNat)
 case atStart=>exact ⟨0,rfl,Nat.zero_le _,NRow.nil _ _ _,KR⟩
 case round=>
  clear KR
  obtain ⟨k,rfl,hk,hrow,hw⟩:=hrel
  obtain ⟨vo,vc,rfl⟩:=hrow.shape
  have hlk:(l.take k).length=k:=by simp;omega
  rw [hlk] at hrow
  by_cases hlt:k<l.length
  ·have j1:(k:Int)<(l.length:Int):=by omega
   have j2:(0:Int)≤(k:Int):=by omega
   rcases HX.out wr hw with e | ⟨nb,noff,e,hnb,hn⟩
   ·rw [e] at hlt;simp at hlt
   subst e
   obtain ⟨xo,xc,n0,n1,n2,n3,n4,n5⟩:=hn k hlt
   have HT:Hid (l.take (k+1)=l.take k ++ [l[k]]):=List.take_succ_eq_append_getElem hlt
   have HLK:Hid ((l.take k).length=k):=hlk
   obtain ⟨W3,hW3⟩:∃ W3,W3=wr.alloc (.cells #[.int .i64 l[k].1,.slice xo l[k].2.1.length xc,.int .i64 l[k].2.2.1,.bool l[k].2.2.2.1,.int .i64 l[k].2.2.2.2] 47):=⟨_,rfl⟩
   have kb:Same0 wr W3:=by rw [hW3];exact (Kept.refl _ _).alloc _
   have hbx:W3.heap[wr.heap.size]? = some (.cells #[.int .i64 l[k].1,.slice xo l[k].2.1.length xc,.int .i64 l[k].2.2.1,.bool l[k].2.2.2.1,.int .i64 l[k].2.2.2.2] 47 (0,0)):=by rw [hW3];exact heap_alloc_new wr _
   obtain ⟨x0,x1,x2,x3,x4⟩:=box5 hbx
   have HBX:Hid (∀ ww,Same0 W3 ww→ww.heap[wr.heap.size]? = some (.cells #[.int .i64 l[k].1,.slice xo l[k].2.1.length xc,.int .i64 l[k].2.2.1,.bool l[k].2.2.2.1,.int .i64 l[k].2.2.2.2] 47 (0,0))):=fun ww hk=>hk.at0 hbx
   have CC:=rcopied_any (n5.onto kb)
   rw [hlk]
   clear n5 hn hlk hbx
   go_upto_region 6 with fail
   rw [← hW3]
   clear hW3 n0 n1 n2 n3 n4
   go_upto_region 7 with (first | (go_at_call 57;refine CC.mono ?_;rintro e w5 ⟨bo,bc,rfl,ha,hbb,k5⟩;have q5:=HBX.out w5 k5;obtain ⟨u0,u1,u2,u3,u4⟩:=box5 q5;obtain ⟨-,f1, -, -, -⟩:=free5 q5))
   obtain ⟨W6,hW6⟩:∃ W6,W6=w5.setCell ⟨wr.heap.size,1,none⟩ (.slice bo l[k].2.1.length bc):=⟨_,rfl⟩
   rw [← hW6]
   have q6:W6.heap[wr.heap.size]? = some (.cells #[.int .i64 l[k].1,.slice bo l[k].2.1.length bc,.int .i64 l[k].2.2.1,.bool l[k].2.2.2.1,.int .i64 l[k].2.2.2.2] 47 (0,0)):=by rw [hW6];exact set_box q5 _
   obtain ⟨y0,y1,y2,y3,y4⟩:=box5 q6
   have K6:Kept (fun i=>i=wr.heap.size) w5 W6:=by rw [hW6];exact Kept.setCell (S:=fun i=>i=wr.heap.size) (Kept.refl _ _) (p:=⟨wr.heap.size,1,none⟩) (fun _=>rfl) _
   have KW:Same0 wr W6:=(kb.trans' k5).trans K6 (fun i hi e=>by omega)
   have ha6:ArgT W6 bo l[k].2.1 bc:=ha.kept K6 (fun i e cur hc=>by rw [e,q5] at hc;cases hc)
   have hr6:=hrow.same KW
   have hsz6:w.heap.size≤W6.heap.size:=(hw.trans' KW).size
   have hbb' : ∀ b,bo=some b→w.heap.size≤b.block:=fun b e=>Nat.le_trans (Nat.le_trans hw.size kb.size) (hbb b e)
   have kW:=(Kept.refl (fun _=>False) W6).alloc (.cells #[.int .i64 l[k].1,.slice bo l[k].2.1.length bc,.int .i64 l[k].2.2.1,.bool l[k].2.2.2.1,.int .i64 l[k].2.2.2.2] 47)
   have hq:=heap_at_node W6 l[k] bo bc
   have HKK:Hid (∀ ww,Kept (fun i=>(Value.slice vo k vc).ownBlock=some i) W6 ww→Same0 w ww):=fun ww hk=>NRow.onto (hw.trans' KW) hr6 hk
   clear hW6 CC q5 q6 u0 u1 u2 u3 u4 f1 x0 x1 x2 x3 x4 ha hbb k5 kb K6 hrow
   go_wp2_with (first | (at_builtin;refine wpList_nd rfl _ _ rfl w.heap.size (l.take k) _ rfl kW hr6 l[k] bo bc _ rfl hq ha6 hbb' hsz6 (by rw [HLK.out];omega) ?_;rw [HLK.out];intro g4 cap4 w4 hr4 hk4 hor))
   have hr5:NRow (fun b=>w.heap.size≤b) w.heap.size w4 (.slice (some ⟨g4,0,none⟩) (k+1) cap4) (l.take (k+1)):=by rw [HT.out];exact hr4
   have hk5:Same0 w w4:=HKK.out w4 hk4
   go_roundw
   case rel=>first | exact ⟨k+1,by go_num,by omega,hr5,hk5⟩ | ((repeat apply Exists.intro);exact ⟨⟨k+1,by go_num,by omega,hr5,hk5⟩,rfl⟩)
   case measure=>simp [intOf];omega
  ·obtain rfl:k=l.length:=by omega
   rw [List.take_length] at *
   clear hlk
   go_wp2
   go_ret
   exact ⟨_,rfl,hrow,hw⟩
def eqI (xs ys:List Int):Bool:=decide (xs=ys)
theorem eqI_no {xs ys:List Int} {k:Nat} (h1:k<xs.length) (h2:k<ys.length) (h:xs[k]≠ys[k]):eqI xs ys=false:=by
 unfold eqI;simp;rintro rfl;exact h rfl
theorem eqI_yes {xs ys:List Int} (hl:xs.length=ys.length) (h:∀ k (h1:k<xs.length) (h2:k<ys.length),xs[k]=ys[k]):eqI xs ys=true:=by
 unfold eqI;simp;exact List.ext_getElem hl (fun k h1 h2=>h k h1 h2)
set_option maxHeartbeats 1000000 in
theorem sameInts_any {w:World} {ao bo:Option Addr} {xs ys:List Int} (ac bc:Nat) (hx:IntsAt w ao xs) (hy:IntsAt w bo ys) (hm:xs.length≤maxLen) :
  Calls Try.prog 47 #[.slice ao xs.length ac,.slice bo ys.length bc] w fun e w' => e=.returned (.bool (eqI xs ys))∧Same0 w w' := by
 unfold maxLen at hm
 by_cases hl:xs.length=ys.length
 ·have hl' : (xs.length:Int)=(ys.length:Int):=by omega
  have HX:Hid (∀ ww,Same0 w ww→∀ k (hk:k<xs.length),∃ b off,ao=some ⟨b,off,none⟩∧ww.cell? ⟨b,off+k,none⟩=some (.int .i64 xs[k])):=fun ww hw k hk=>by
   obtain ⟨b,off,e,_,hc⟩:=(hx.same hw).get hk
   exact ⟨b,off,e,hc⟩
  have HY:Hid (∀ ww,Same0 w ww→∀ k (hk:k<ys.length),∃ b off,bo=some ⟨b,off,none⟩∧ww.cell? ⟨b,off+k,none⟩=some (.int .i64 ys[k])):=fun ww hw k hk=>by
   obtain ⟨b,off,e,_,hc⟩:=(hy.same hw).get hk
   exact ⟨b,off,e,hc⟩
  have HL:Hid (xs.length=ys.length):=hl
  have KR:Same0 w w:=Kept.refl _ _
  clear hx hy hl
  go_enter Try.func47,Try.ntmps47
  go_wp2
  go_loopw [5] (fun i wr=>∃ k:Nat,k≤xs.length∧i=.int .i64 k∧Hid (∀ j (h1:j<xs.length) (h2:j<ys.length),j<k→xs[j]=ys[j])∧Same0 w wr) (fun i _=>xs.length-(intOf i).toNat)
  case atStart=>exact ⟨0,Nat.zero_le _,rfl,fun j _ _ hj=>absurd hj (Nat.not_lt_zero _),KR⟩
  case round=>
   clear KR
   obtain ⟨k,hk,rfl,hall,hw⟩:=hrel
   by_cases hlt:k<xs.length
   ·have hlt' : k<ys.length:=by rw [← HL.out];exact hlt
    obtain ⟨b,off,rfl,hc⟩:=HX.out wr hw k hlt
    obtain ⟨b', off', rfl,hc'⟩:=HY.out wr hw k hlt'
    have i1:(0:Int)≤(k:Int):=by omega
    have i2:(k:Int)<(xs.length:Int):=by omega
    have i3:(k:Int)<(ys.length:Int):=by omega
    obtain ⟨u,hu⟩:∃ u,u=xs[k]:=⟨_,rfl⟩
    obtain ⟨u', hu'⟩:∃ u', u' = ys[k]:=⟨_,rfl⟩
    rw [← hu] at hc
    rw [← hu'] at hc'
    by_cases he:u=u'
    ·have HE:Hid (xs[k]=ys[k]):=by show _=_;rw [← hu,← hu', he]
     clear hu hu' HX HY
     subst he
     go_upto_region 6 with fail
     go_quiet (fail)
     go_wp2
     go_roundw
     case rel=>exact ⟨k+1,by omega,by go_num,fun j h1 h2 hj=>by
      by_cases e:j=k
      ·subst e;exact HE.out
      ·exact hall.out j h1 h2 (by omega),hw.drewN _⟩
     case measure=>simp [intOf];omega
    ·have HE:Hid (eqI xs ys=false):=eqI_no hlt hlt' (by rw [← hu,← hu'];exact he)
     clear hu hu' HX HY
     go_upto_region 6 with fail
     go_quiet (fail)
     go_wp2
     go_ret
     exact ⟨ret_bool HE.out.symm,hw.drewN _⟩
   ·obtain rfl:k=xs.length:=by omega
    have HE:Hid (eqI xs ys=true):=eqI_yes HL.out (fun j h1 h2=>hall.out j h1 h2 h1)
    clear HX HY hall
    go_wp2
    go_ret
    exact ⟨ret_bool HE.out.symm,hw⟩
 ·have HE:Hid (eqI xs ys=false):=by show _=_;unfold eqI;simp;rintro rfl;exact hl rfl
  have hl' : ¬ (xs.length:Int)=(ys.length:Int):=by omega
  clear hx hy hl
  go_enter Try.func47,Try.ntmps47
  go_wp2
  go_ret
  exact ⟨ret_bool HE.out.symm,Kept.refl _ _⟩
def eqN (x y:Nd):Bool:=decide (x=y)
theorem eqN_no {x y:Nd} (h:¬ (x.1=y.1∧x.2.2.1=y.2.2.1∧x.2.2.2.1=y.2.2.2.1∧x.2.2.2.2=y.2.2.2.2)):eqN x y=false:=by
 unfold eqN;simp;rintro rfl;exact h ⟨rfl,rfl,rfl,rfl⟩
theorem eqN_same {x y:Nd} (h:x.1=y.1∧x.2.2.1=y.2.2.1∧x.2.2.2.1=y.2.2.2.1∧x.2.2.2.2=y.2.2.2.2):eqN x y=eqI x.2.1 y.2.1:=by
 obtain ⟨a,b,c,d,e⟩:=x
 obtain ⟨a', b', c', d', e'⟩:=y
 obtain ⟨h1,h2,h3,h4⟩:=h
 simp only at h1 h2 h3 h4
 subst h1 h2 h3 h4
 unfold eqN eqI
 simp
set_option maxHeartbeats 2000000 in
theorem sameNode_any {w:World} {x y:Nd} {ao bo:Option Addr} {ac bc:Nat} (hx:Arg w ao x.2.1 ac) (hy:Arg w bo y.2.1 bc) :
  Calls Try.prog 15 #[nodeV x ao ac,nodeV y bo bc] w fun e w' => e=.returned (.bool (eqN x y))∧Same0 w w' := by
 obtain ⟨W1,hW1⟩:∃ W1,W1=(w.alloc (.cells #[.int .i64 x.1,.slice ao x.2.1.length ac,.int .i64 x.2.2.1,.bool x.2.2.2.1,.int .i64 x.2.2.2.2] 47)).alloc (.cells #[.int .i64 y.1,.slice bo y.2.1.length bc,.int .i64 y.2.2.1,.bool y.2.2.2.1,.int .i64 y.2.2.2.2] 47):=⟨_,rfl⟩
 have K1:Same0 w W1:=by rw [hW1];exact ((Kept.refl _ w).alloc _).alloc _
 obtain ⟨x0,x1,x2,x3,x4⟩:=box_node' w x ao ac (show Same0 _ W1 by rw [hW1];exact (Kept.refl _ _).alloc _)
 obtain ⟨y0,y1,y2,y3,y4⟩:=box_node' _ y bo bc (show Same0 _ W1 by rw [hW1];exact Kept.refl _ _)
 simp only [World.size_alloc] at y0 y1 y2 y3 y4
 have hxm:x.2.1.length≤maxLen:=by have:=hx.size;unfold maxLen;omega
 have CI:=sameInts_any ac bc (hx.at'.same K1) (hy.at'.same K1) hxm
 have HK:Hid (∀ ww,Same0 W1 ww→Same0 w ww):=fun ww hk=>K1.trans' hk
 have HW:Hid (Same0 W1 W1):=Kept.refl _ _
 have HE:Hid (x.1=y.1→x.2.2.1=y.2.2.1→x.2.2.2.1=y.2.2.2.1→x.2.2.2.2=y.2.2.2.2→eqN x y=eqI x.2.1 y.2.1):=fun a b c d=>eqN_same ⟨a,b,c,d⟩
 have HN:Hid (¬ (x.1=y.1∧x.2.2.1=y.2.2.1∧x.2.2.2.1=y.2.2.2.1∧x.2.2.2.2=y.2.2.2.2)→eqN x y=false):=fun h=>eqN_no h
 clear hx hy K1
 generalize eqN x y=R at *
 generalize eqI x.2.1 y.2.1=I at *
 obtain ⟨sx,ax,mx,px,tx⟩:=x
 obtain ⟨sy,ay,my,py,ty⟩:=y
 simp only at *
 have go:∀ b:Bool,(sx=sy∧mx=my∧px=py∧tx=ty)∨¬ (sx=sy∧mx=my∧px=py∧tx=ty):=fun _=>Classical.em _
 by_cases e1:sx=sy
 ·subst e1
  by_cases e2:mx=my
  ·subst e2
   by_cases e3:px=py
   ·subst e3
    by_cases e4:tx=ty
    ·subst e4
     have HR:Hid (R=I):=HE.out rfl rfl rfl rfl
     clear HE HN go
     go_enter Try.func15,Try.ntmps15
     go_upto_region 1 with fail
     rw [← hW1]
     clear hW1
     go_wp2_with (first | (go_at_call 47;refine CI.mono ?_;rintro e w3 ⟨rfl,k3⟩))
     go_ret
     exact ⟨ret_bool HR.out.symm,HK.out _ k3⟩
    ·have HR:Hid (R=false):=HN.out (fun h=>e4 h.2.2.2)
     clear HE HN go
     go_enter Try.func15,Try.ntmps15
     go_upto_region 1 with fail
     rw [← hW1]
     clear hW1
     go_wp2
     go_ret
     exact ⟨ret_bool HR.out.symm,HK.out _ HW.out⟩
   ·have HR:Hid (R=false):=HN.out (fun h=>e3 h.2.2.1)
    clear HE HN go
    go_enter Try.func15,Try.ntmps15
    go_upto_region 1 with fail
    rw [← hW1]
    clear hW1
    go_wp2
    go_ret
    exact ⟨ret_bool HR.out.symm,HK.out _ HW.out⟩
  ·have HR:Hid (R=false):=HN.out (fun h=>e2 h.2.1)
   clear HE HN go
   go_enter Try.func15,Try.ntmps15
   go_upto_region 1 with fail
   rw [← hW1]
   clear hW1
   go_wp2
   go_ret
   exact ⟨ret_bool HR.out.symm,HK.out _ HW.out⟩
 ·have HR:Hid (R=false):=HN.out (fun h=>e1 h.1)
  clear HE HN go
  go_enter Try.func15,Try.ntmps15
  go_upto_region 1 with fail
  rw [← hW1]
  clear hW1
  go_wp2
  go_ret
  exact ⟨ret_bool HR.out.symm,HK.out _ HW.out⟩
set_option maxHeartbeats 1000000 in
theorem down_any {w:World} {x:Nd} {ao:Option Addr} {ac:Nat} (hx:Arg w ao x.2.1 ac) :
  Calls Try.prog 67 #[nodeV x ao ac] w fun e w' => ∃ bo bc,e=.returned (.slice bo (downL x).length bc)∧IntsAt w' bo (downL x)∧(∀ a,bo=some a→(ao=some a∧downL x=x.2.1)∨(w.heap.size≤a.block∧a.block<w'.heap.size))∧Same0 w w' := by
 obtain ⟨W0,hW0⟩:∃ W0,W0=w.alloc (.cells #[.int .i64 x.1,.slice ao x.2.1.length ac,.int .i64 x.2.2.1,.bool x.2.2.2.1,.int .i64 x.2.2.2.2] 47):=⟨_,rfl⟩
 have k0:Same0 w W0:=by rw [hW0];exact (Kept.refl _ w).alloc _
 have hb:W0.heap[w.heap.size]? = some (.cells #[.int .i64 x.1,.slice ao x.2.1.length ac,.int .i64 x.2.2.1,.bool x.2.2.2.1,.int .i64 x.2.2.2.2] 47 (0,0)):=by rw [hW0];exact heap_alloc_new w _
 obtain ⟨b0,b1,b2,b3,b4⟩:=box5 hb
 have hz:=k0.size
 obtain ⟨pb,hp⟩:∃ pb,x.2.2.2.1=pb:=⟨_,rfl⟩
 cases pb
 ·have hd:downL x=x.2.1:=by unfold downL;rw [hp];rfl
  have H:Hid (IntsAt W0 ao x.2.1∧Same0 w W0):=⟨hx.at'.same k0,k0⟩
  rw [hd]
  rw [hp] at b3
  clear hd hx k0 hb hz hp
  go_enter Try.func67,Try.ntmps67
  go_upto_region 1 with fail
  rw [← hW0]
  clear hW0
  go_wp2
  go_ret
  exact ⟨ao,ac,rfl,H.out.1,fun a e=>.inl ⟨e,by first | trivial | rfl⟩,H.out.2⟩
 ·have hd:downL x=[x.2.2.2.2]:=by unfold downL;rw [hp];rfl
  have H:Hid (IntsAt (W0.alloc (.cells #[.int .i64 x.2.2.2.2] 3)) (some ⟨W0.heap.size,0,none⟩) [x.2.2.2.2]∧(∀ a,some (⟨W0.heap.size,0,none⟩:Addr)=some a→(ao=some a∧[x.2.2.2.2]=x.2.1)∨(w.heap.size≤a.block∧a.block<(W0.alloc (.cells #[.int .i64 x.2.2.2.2] 3)).heap.size))∧Same0 w (W0.alloc (.cells #[.int .i64 x.2.2.2.2] 3))):=⟨ints_one _ _,fun a e=>by cases e;exact .inr ⟨hz,by simp⟩,k0.alloc _⟩
  rw [hd]
  rw [hp] at b3
  clear hd hx k0 hb hz hp
  go_enter Try.func67,Try.ntmps67
  go_upto_region 1 with fail
  rw [← hW0]
  clear hW0
  go_wp2
  go_ret
  exact ⟨_,1,rfl,H.out.1,H.out.2.1,H.out.2.2⟩
def falses (w:World) (mb N:Nat):Nat:=(List.range N).countP (fun i=>match w.cell? ⟨mb,i,none⟩ with | some (.bool false)=>true | _=>false)
theorem falses_row {w:World} {base mb N:Nat} {s:List Bool} (h:w.ownsRow base 4 1 (.slice (some ⟨mb,0,none⟩) N N) N (bv s)):falses w mb N=s.count false:=by
 have hl:s.length=N:=by have:=h.1;simp [bv] at this;omega
 subst hl
 unfold falses
 have:∀ i,i<s.length→(match w.cell? ⟨mb,i,none⟩ with | some (.bool false)=>true | _=>false)=(s.getD i true == false):=fun i hi=>by
  obtain ⟨b,h1,h2,_⟩:=row_bool h hi
  rw [h2,List.getD_eq_getElem?_getD,h1]
  cases b <;> rfl
 rw [List.countP_congr (q:=fun i=>s.getD i true == false) (fun i hi=>by rw [this i (by simpa using hi)])]
 clear this h
 induction s with
 | nil=>rfl
 | cons b t ih=>
  rw [List.length_cons,List.range_succ_eq_map,List.countP_cons,List.countP_map,List.count_cons]
  have:((fun i=>(b :: t).getD i true == false) ∘ Nat.succ)=fun i=>t.getD i true == false:=by funext i;simp
  rw [this,ih]
  simp
def Mk (s:List Bool) (i:Nat):Prop:=s[i]? = some true
theorem Mk.set {s:List Bool} {k:Nat} (h:k<s.length) (i:Nat):Mk (s.set k true) i ↔ Mk s i∨i=k:=by
 unfold Mk
 rw [List.getElem?_set]
 by_cases e:k=i
 ·subst e;simp [h]
 ·rw [if_neg e];constructor
  ·exact .inl
  ·rintro (q | q)
   ·exact q
   ·exact absurd q.symm e
theorem snd_set {l:List Nd} {s:List Bool} (h:Snd l (Mk s)) {k:Nat} (hk:k<s.length) (ha:∀ j,Ed l k j→Mk s j):Snd l (Mk (s.set k true)):=by
 obtain ⟨r,hr⟩:=h.more ha
 refine ⟨r,fun i j hi e=>?_⟩
 obtain ⟨q1,q2⟩:=hr i j ((Mk.set hk i).1 hi) e
 exact ⟨(Mk.set hk j).2 q1,q2⟩
theorem count_set {s:List Bool} {k:Nat} (h:s[k]? = some false):(s.set k true).count false+1=s.count false:=by
 obtain ⟨hk,hv⟩:=List.getElem?_eq_some_iff.1 h
 have hc:0<s.count false:=List.count_pos_iff.2 (hv ▸ List.getElem_mem hk)
 rw [List.count_set hk]
 simp [hv]
 omega
def Pass (l:List Nd) (s0:List Bool) (C k:Nat) (again:Bool) (s:List Bool):Prop:=
 (again=false∧s=s0∧∀ j,j<k→(∀ m,Ed l j m→Mk s0 m)→Mk s0 j)∨(again=true∧s.count false<C)
end Go.Proofs.Ytmloedlkoijfbaa
