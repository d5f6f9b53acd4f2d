import Derived.Test.YtmjgnfkbnofjoaaGreatDoorSW23
import Derived.Test.YtmjgnfkbnofjoaaGreatDoorSW21
import Derived.Maps.OwnIn
import Derived.Test.YtmjgnfkbnofjoaaGreatDoorSW13
import Derived.Test.YtmjgnfkbnofjoaaGreatDoorSW03
import Derived.Test.YtmjgnfkbnofjoaaGreatDoorSW04
import Derived.Test.YtmjgnfkbnofjoaaGreatDoorSW25
import Derived.Laws.AppendOwnNone
namespace Go.Proofs.YtmjgnfkbnofjoaaGreatDoor
set_option maxRecDepth 100000
set_option linter.unusedVariables false
open Go.RowKit Go.Shelf
attribute [local go_sem] Oper.semAt_some
structure LsJ (R:List Ru) (w:World) (k:Nat) (W:World):Prop where
 same:Same0 w W
 row:∃ v cs,W.heap[w.heap.size+1]? = some (.cells #[v] 29 (0,0))∧W.ownsRow w.heap.size 90 2 v k cs∧OCells W cs (R.take k)
theorem LsJ.up {R:List Ru} {w:World} {k:Nat} {W W' : World} (h:LsJ R w k W) (hk:Same0 W W'):LsJ R w k W' := by
 obtain ⟨h1,v,cs,h3,h4,h5⟩:=h
 exact ⟨h1.trans' hk,v,cs,hk.at0 h3,hk.row h4 (fun _ _ f=>f),h5.same hk⟩
theorem LsJ.put {R:List Ru} {w:World} {k:Nat} {X:World} {l:Nat} {o o' : Obj} (h:LsJ R w k X) (hl:X.heap[l]? = some o) (ho:o.isCells=false) (hw:w.heap.size≤l):LsJ R w k (X.putObj l o'):=by
 obtain ⟨h1,v,cs,h3,h4,h5⟩:=h
 have kk:Kept (fun k=>k=l) X (X.putObj l o'):=kept_put
 have no:∀ cur t fr,X.heap[l]? ≠ some (.cells cur t fr):=fun cur t fr e=>by rw [hl] at e;cases e;cases ho
 refine ⟨Kept.trans h1 kk (fun i hi e=>by have e' : i=l:=e;omega),v,cs,putObj_at hl ho h3 rfl,kk.row h4 (fun q e e2=>?_),h5.kept kk (fun q e=>?_)⟩
 ·obtain ⟨cur,hc⟩:=own_typed h4 e
  have e3:q=l:=e2
  rw [e3] at hc
  exact no _ _ _ hc
 ·have e3:q=l:=e
  rw [e3]
  exact fun cur=>no _ _ _
theorem LsJ.more {R:List Ru} {w:World} {k:Nat} {W w1:World} (j1:Same0 w W) {v v' : Value} {cs:List Value} (j3:W.heap[w.heap.size+1]? = some (.cells #[v] 29 (0,0))) (j4:W.ownsRow w.heap.size 90 2 v k cs) (j5:OCells W cs (R.take k)) (hk:k<R.length) {g c g' c' : Nat} (t1:TmAt W g c R[k].1) (t2:TmAt W g' c' R[k].2)
  (hr:w1.ownsRow w.heap.size 90 2 v' (k+1) (cs ++ [.slice (some ⟨g,0,none⟩) R[k].1.length c,.slice (some ⟨g', 0,none⟩) R[k].2.length c'])) (hkp:Kept (fun q=>v.ownBlock=some q) W w1) {D:Nat} :
  w1.heap[w.heap.size+1]? = some (.cells #[v] 29 (0,0))∧LsJ R w (k+1) (w1.setCell ⟨w.heap.size+1,0,none⟩ v')∧Rnd D w.heap.size W (w1.setCell ⟨w.heap.size+1,0,none⟩ v'):=by
 have ty:∀ q,v.ownBlock=some q→∃ cur,W.heap[q]? = some (.cells cur 90 (0,0)):=fun q e=>own_typed j4 e
 have n3:¬ v.ownBlock=some (w.heap.size+1):=fun e=>by obtain ⟨cur,hc⟩:=ty _ e;rw [j3] at hc;cases hc
 have b3:=hkp.at j3 n3
 have ks:=kept_at w1 (w.heap.size+1) 0 v'
 have kk:Kept (fun q=>v.ownBlock=some q∨q=w.heap.size+1) W (w1.setCell ⟨w.heap.size+1,0,none⟩ v'):=Kept.trans (hkp.mono (fun _ _ e=>.inl e)) ks (fun _ _ e=>.inr e)
 have e1:R.take (k+1)=R.take k ++ [R[k]]:=by
  rw [List.take_add_one,List.getElem?_eq_getElem hk];rfl
 refine ⟨b3,⟨Kept.trans j1 kk (fun i hi e=>?_),v', _,by rw [setAt b3];rfl,ks.row hr (fun q e e2=>?_),?_⟩,Rnd.of kk (fun q e=>?_) (fun q hq e=>?_) j1.size⟩
 ·rcases e with e | e
  ·have:=own_low j4 e;omega
  ·omega
 ·have e3:q=w.heap.size+1:=e2
  rw [e3] at e
  obtain ⟨cur,hc⟩:=own_typed hr e
  rw [b3] at hc;cases hc
 ·rw [e1]
  refine (j5.append (OCells.one t1 t2)).kept kk (fun q e=>?_)
  rcases e with e | e
  ·obtain ⟨cur,hc⟩:=ty q e
   exact fun cur' h=>(by rw [hc] at h;cases h)
  ·rw [e]
   exact fun cur' h=>(by rw [j3] at h;cases h)
 ·rcases e with e | e
  ·obtain ⟨cur,hc⟩:=ty q e
   exact ⟨_,_,_,hc⟩
  ·rw [e];exact ⟨_,_,_,j3⟩
 ·rcases e with e | e
  ·have:=own_low j4 e;omega
  ·omega
theorem laid_some {w:World} {p bs:Nat} {L:List Sym} {R:List Ru} {lv:Value} {vs:List Value} (h:StAt w p bs L R lv vs) :
  Calls Tryz.prog 41 #[.agg #[.pointer (some ⟨p,0,none⟩)]] w fun e w' => e=.returned (.pointer (some ⟨p,0,none⟩))∧Same0 w w' := by
 have hn2:=sy_some
 have ka:Same0 w (w.alloc (.cells #[.pointer (some ⟨p,0,none⟩)] 92)):=(Kept.refl _ w).alloc _
 clear h
 go_enter Tryz.func41,Tryz.ntmps41
 go_wp2
 go_ret
 exact ⟨rfl,ka⟩
theorem OCells.rs {w:World} {base N:Nat} {v:Value} {cs:List Value} {R:List Ru} (hr:w.ownsRow base 90 2 v N cs) (hc:OCells w cs R) (hl:∀ x∈R,x.1.length≤2000∧x.2.length≤2000):∃ lo lc,v=.slice lo R.length lc∧RsAt w lo R∧R.length≤lc:=by
 obtain ⟨ao,cap,e,h1,h2,h3⟩:=row_rules hr (hc.rcells hl)
 refine ⟨ao,cap,e,h1,?_⟩
 subst h3
 rcases hr.2 with ⟨e2,h0⟩ | ⟨g,cap', cur,e2,_,_,_,h4,_⟩
 ·omega
 ·rw [e] at e2
  simp only [Value.slice.injEq] at e2
  omega
set_option maxHeartbeats 16000000 in
theorem ylist_any {w:World} {sp:Option Addr} {L:List Sym} {R:List Ru} (h:SyG w sp L R) :
  Calls Tryz.prog 83 #[.agg #[.pointer sp]] w fun e w' => ∃ lo lc,e=.returned (.slice lo R.length lc)∧RsAt w' lo R∧R.length≤lc∧Same0 w w' := by
 have hFn:∀ k,Fence.wide.fn k:=fun _=>trivial
 obtain ⟨W1,hW1⟩:∃ W1,W1=(w.alloc (.cells #[.pointer sp] 92)).alloc (.cells #[.slice none 0 0] 29):=⟨_,rfl⟩
 have KW:Same0 w W1:=by rw [hW1];exact ((Kept.refl _ w).alloc _).alloc _
 have g0:W1.cell? ⟨w.heap.size,0,none⟩=some (.pointer sp):=by rw [hW1];exact cellAt (heap_alloc2_old _ _ _) 0
 have g1:W1.heap[w.heap.size+1]? = some (.cells #[.slice none 0 0] 29 (0,0)):=by rw [hW1];exact heap_al_al _ _ _
 rcases h with ⟨rfl,rfl,rfl⟩ | ⟨p,bs,lv,vs,rfl,hst⟩
 ·have CL:=(callsIn_wide (n:=8)).2 (laid_any10 (w:=W1) (sp:=none) (L:=[]) (R:=[]) (.inl ⟨rfl,rfl,rfl⟩))
  refine (callsIn_wide (n:=9)).1 ?_
  refine callsIn_of_wp_marks Tryz.func83 rfl trivial ?_ rfl
  simp only [Tryz.ntmps83,List.size_toArray,List.length_cons,List.length_nil,Nat.reduceAdd,Nat.reduceSub,Array.replicate_succ,Array.replicate_zero,List.push_toArray,List.append_toArray,List.nil_append,List.cons_append]
  gi_upto_region 2 with fail
  rw [← hW1]
  clear hW1
  gi_wp2_with (first
   | (gi_at_call 41;refine CL.mono ?_;rintro e w2 ⟨p,bs,lv,vs,rfl,hst,k2'⟩;have k2:Same0 W1 w2:=k2')
   | (gi_at_call 45;refine (crall_in Fence.wide _ trivial rfl _ _).mono ?_;rintro e w' ⟨rfl,rfl⟩))
  obtain ⟨W0,hW0⟩:∃ W0,W0=w2.alloc (.cells #[.pointer (some ⟨p,0,none⟩)] 43):=⟨_,rfl⟩
  have K0:Same0 w2 W0:=by rw [hW0];exact (Kept.refl _ _).alloc _
  have b2:W0.cell? ⟨w2.heap.size,0,none⟩=some (.pointer (some ⟨p,0,none⟩)):=by rw [hW0];exact cellAt (heap_alloc_new _ _) 0
  have z0:w2.heap.size≤W0.heap.size:=K0.size
  have z1:w.heap.size≤w2.heap.size:=(KW.trans' k2).size
  have gl:=(k2.trans' K0).at0 g1
  have HSM:Same0 w W0:=(KW.trans' k2).trans' K0
  rw [← hW0]
  clear hW0
  refine wp_hands rfl (by omega) (gf:=80) (lb:=#[.pointer (some ⟨w2.heap.size,0,none⟩)]) rfl trivial (enters_of Tryz.func80 (by kernel_rfl) rfl) (B:=w2.heap.size) z0 (hands_rules hst K0 b2 (by omega)) (fun k vs W h=>by obtain ⟨_,_,_,_,_,rfl,_⟩:=h;rfl)
   (fun k W=>Same0 w W∧W.heap[w.heap.size+1]? = some (.cells #[.slice none 0 0] 29 (0,0))) (fun k X Y h hk=>⟨h.1.trans' hk,hk.at0 h.2⟩) (fun k X l o o' h hl ho hw=>⟨Kept.trans h.1 (kept_put (l:=l) (o' := o')) (fun i hi e=>by have e' : i=l:=e;omega),putObj_at hl ho h.2 rfl⟩) ⟨HSM,gl⟩ ?round ?done
  case done=>
   rintro D W hD ⟨j1,j3⟩ hK
   have c3:W.cell? ⟨w.heap.size+1,0,none⟩=some (.slice none 0 0):=cellAt j3 0
   have hz3:=lt_of_at j3
   have HF:Same0 w (W.putObj D (.deferred none)):=Kept.trans j1 (kept_put (l:=D) (o' := .deferred none)) (fun i hi e=>by have e' : i=D:=e;omega)
   have HFH:Hid (Same0 w (W.putObj D (.deferred none))):=HF
   clear j1 j3 HF
   gi_wp2_with fail
   refine ⟨by simp,.inl ⟨_,_,rfl,run_takeDeferred hK,?_⟩⟩
   exact ⟨_,results_tmp rfl _ _ _,none,0,rfl,.inl rfl,by simp,HFH.out⟩
  case round=>
   rintro l k vs W hk
   simp at hk
 ·have hle:=hst.le
  have hok:=hst.ok
  have CL:=(callsIn_wide (n:=8)).2 (laid_some (hst.same KW))
  refine (callsIn_wide (n:=9)).1 ?_
  refine callsIn_of_wp_marks Tryz.func83 rfl trivial ?_ rfl
  simp only [Tryz.ntmps83,List.size_toArray,List.length_cons,List.length_nil,Nat.reduceAdd,Nat.reduceSub,Array.replicate_succ,Array.replicate_zero,List.push_toArray,List.append_toArray,List.nil_append,List.cons_append]
  gi_upto_region 2 with fail
  rw [← hW1]
  clear hW1
  gi_wp2_with (first
   | (gi_at_call 41;refine CL.mono ?_;rintro e w2 ⟨rfl,k2'⟩;have k2:Same0 W1 w2:=k2')
   | (gi_at_call 45;refine (crall_in Fence.wide _ trivial rfl _ _).mono ?_;rintro e w' ⟨rfl,rfl⟩))
  obtain ⟨W0,hW0⟩:∃ W0,W0=w2.alloc (.cells #[.pointer (some ⟨p,0,none⟩)] 43):=⟨_,rfl⟩
  have K0:Same0 w2 W0:=by rw [hW0];exact (Kept.refl _ _).alloc _
  have b2:W0.cell? ⟨w2.heap.size,0,none⟩=some (.pointer (some ⟨p,0,none⟩)):=by rw [hW0];exact cellAt (heap_alloc_new _ _) 0
  have HSM:Same0 w W0:=(KW.trans' k2).trans' K0
  have z0:w.heap.size≤W0.heap.size:=HSM.size
  have gl:=(k2.trans' K0).at0 g1
  have hz1:=lt_of_at gl
  have START:LsJ R w 0 W0:=⟨HSM,.slice none 0 0,[],gl,World.ownsRow_nil _ _ _ _,⟨rfl,fun i hi=>absurd hi (by simp)⟩⟩
  have hlen:∀ x∈R,x.1.length≤2000∧x.2.length≤2000:=fun x hx=>⟨(ok_len (hok x hx)).1.2,(ok_len (hok x hx)).2.2⟩
  rw [← hW0]
  clear hW0
  refine wp_hands rfl (by omega) (gf:=80) (lb:=#[.pointer (some ⟨w2.heap.size,0,none⟩)]) rfl trivial (enters_of Tryz.func80 (by kernel_rfl) rfl) (B:=w.heap.size) z0 (hands_rules hst HSM b2 (by omega)) (fun k vs W h=>by obtain ⟨_,_,_,_,_,rfl,_⟩:=h;rfl)
   (fun k W=>LsJ R w k W) (fun k X Y h hk=>h.up hk) (fun k X l o o' h hl ho hw=>h.put hl ho (by omega)) START ?round ?done
  case done=>
   rintro D W hD hj hK
   obtain ⟨j1,v,cs,j3,j4,j5⟩:=hj
   have hz3:=lt_of_at j3
   have kk:Kept (fun k=>k=D) W (W.putObj D (.deferred none)):=kept_put
   have c3:=cellAt j3 0
   obtain ⟨j1', v', cs', j3', j4', j5'⟩:=LsJ.put (o' := .deferred none) (⟨j1,v,cs,j3,j4,j5⟩:LsJ R w R.length W) hK rfl (by omega)
   have c3' := putObj_at (o' := .deferred none) hK rfl j3 rfl
   rw [c3'] at j3'
   cases j3'
   rw [List.take_of_length_le (Nat.le_refl _)] at j5'
   obtain ⟨lo,lc,rfl,r1,r2⟩:=OCells.rs j4' j5' hlen
   simp only [List.getElem?_toArray,List.getElem?_cons_zero] at c3
   have HF:Hid (RsAt (W.putObj D (.deferred none)) lo R∧R.length≤lc∧Same0 w (W.putObj D (.deferred none))):=⟨r1,r2,j1'⟩
   clear j1 j3 j4 j5 j1' j4' j5' c3' r1 r2 kk START
   gi_wp2_with fail
   refine ⟨by simp,.inl ⟨_,_,rfl,run_takeDeferred hK,?_⟩⟩
   exact ⟨_,results_tmp rfl _ _ _,lo,lc,rfl,HF.out⟩
  case round=>
   rintro l k vs W hk hl hlW hj ⟨hk', g,c,g', c', rfl,t1,t2⟩
   obtain ⟨Wa,hWa⟩:∃ Wa,Wa=W.alloc (.cells #[.slice (some ⟨g,0,none⟩) R[k].1.length c,.slice (some ⟨g', 0,none⟩) R[k].2.length c'] 90):=⟨_,rfl⟩
   have ka:Same0 W Wa:=by rw [hWa];exact (Kept.refl _ _).alloc _
   have bx:Wa.heap[W.heap.size]? = some (.cells #[.slice (some ⟨g,0,none⟩) R[k].1.length c,.slice (some ⟨g', 0,none⟩) R[k].2.length c'] 90 (0,0)):=by rw [hWa];exact heap_alloc_new _ _
   gi_wp2_with fail
   rw [← hWa]
   clear hWa START
   refine ⟨Rnd.same ka (by omega),fun o o' ho hoc hoc' => ?_⟩
   have hpk:Kept (fun q=>q=l) Wa (Wa.putObj l o'):=kept_put
   have no:∀ q,(fun q=>q=l) q→∀ cur,Wa.heap[q]? ≠ some (.cells cur 3 (0,0)):=fun q e cur hc=>by
    have e' : q=l:=e
    rw [e', ho] at hc;cases hc;cases hoc
   have hjb:=(hj.up ka).put (o' := o') ho hoc (by omega)
   have t1b:=(t1.same ka).kept hpk no
   have t2b:=(t2.same ka).kept hpk no
   have bxb:=putObj_at (o' := o') ho hoc bx rfl
   have lob:(Wa.putObj l o').heap[l]? = some o' := World.putObj_heap_same (lt_of_at ho)
   obtain ⟨Wb,hWb⟩:∃ Wb,Wb=Wa.putObj l o' := ⟨_,rfl⟩
   rw [← hWb] at hjb t1b t2b bxb lob ⊢
   have hzb:W0.heap.size≤Wb.heap.size:=by have:=lt_of_at lob;omega
   clear hWb hpk no ho t1 t2 bx hj
   have y0:=cellAt bxb 0
   have y1:=cellAt bxb 1
   simp only [List.getElem?_toArray,List.getElem?_cons_zero,List.getElem?_cons_succ] at y0 y1
   obtain ⟨j1,v,cs,j3,j4,j5⟩:=hjb
   have c3:=cellAt j3 0
   simp only [List.getElem?_toArray,List.getElem?_cons_zero] at c3
   obtain ⟨ro,rc,rfl⟩:=row_shape j4
   obtain ⟨i0,hi0,hz0,hz1,hz2⟩:=info_parts info_rule
   have b1:k+1≤maxLen:=by unfold maxLen;omega
   have b2:(k+1) * 48≤140737488355328:=by omega
   have b3:w.heap.size≤(Wb.alloc (.cells #[.slice (some ⟨g,0,none⟩) R[k].1.length c,.slice (some ⟨g', 0,none⟩) R[k].2.length c'] 90)).heap.size:=by simp;omega
   have MORE:Hid (∀ w1 v', w1.ownsRow w.heap.size 90 2 v' (k+1) (cs ++ [.slice (some ⟨g,0,none⟩) R[k].1.length c,.slice (some ⟨g', 0,none⟩) R[k].2.length c'])→Kept (fun q=>(Value.slice ro k rc).ownBlock=some q) Wb w1→(w1.cell? ⟨w.heap.size+1,0,none⟩=some (.slice ro k rc)∧w1.frozen? ⟨w.heap.size+1,0,none⟩=false)∧LsJ R w (k+1) (w1.setCell ⟨w.heap.size+1,0,none⟩ v')∧Rnd W0.heap.size w.heap.size Wb (w1.setCell ⟨w.heap.size+1,0,none⟩ v')):=fun w1 v' h1 h2=>by
    obtain ⟨q1,q2,q3⟩:=LsJ.more (D:=W0.heap.size) j1 j3 j4 j5 hk' t1b t2b h1 h2
    exact ⟨⟨cellAt q1 0,frozenAt q1 0⟩,q2,q3⟩
   have HOW:Hid (Wb.ownsRow w.heap.size 90 2 (.slice ro k rc) k cs):=j4
   have HNW:Hid (∀ j u,[Value.slice (some ⟨g,0,none⟩) R[k].1.length c,.slice (some ⟨g', 0,none⟩) R[k].2.length c'][j]? = some u→(Wb.alloc (.cells #[.slice (some ⟨g,0,none⟩) R[k].1.length c,.slice (some ⟨g', 0,none⟩) R[k].2.length c'] 90)).cell? ((⟨Wb.heap.size,0,none⟩:Addr).add j)=some u):=World.news_of_block (cs:=#[.slice (some ⟨g,0,none⟩) R[k].1.length c,.slice (some ⟨g', 0,none⟩) R[k].2.length c']) (t:=90) (fr:=(0,0)) (heap_alloc_new Wb _)
   have HON:Hid (∀ u∈[Value.slice (some ⟨g,0,none⟩) R[k].1.length c,.slice (some ⟨g', 0,none⟩) R[k].2.length c'],u.oneCell' = true):=by (show ∀ u∈_,_);intro u hu;simp at hu;rcases hu with rfl | rfl <;> rfl
   clear j1 j3 j4 j5 t1b t2b bxb lob
   generalize R[k].1.length=n1 at *
   generalize R[k].2.length=n2 at *
   gi_wp2_with (gi_at_builtin;refine wpListIn_append_own _ rfl _ _ 29 rfl w.heap.size 90 i0 _ 2 48 Tryz.underlying29 hi0 hz0 hz1 hz2 rfl (by decide) (.slice ro k rc) k cs rfl (World.ownsRow.alloc HOW.out _) ⟨Wb.heap.size,0,none⟩ 1 1 _ rfl rfl HNW.out HON.out b1 b2 b3 ?_;intro v' w1 hown' hgrow _;obtain ⟨g9,cap9,rfl⟩:=ownsRow_succ hown'; obtain ⟨⟨m1', m2'⟩,m3,m4⟩:=MORE.out w1 _ hown' (Kept.grown (Kept.alloc (Kept.refl _ Wb) _) hgrow (fun _ e _=>e)))
   all_goals first | exact m4 | (rw [← z0];exact m4)
end Go.Proofs.YtmjgnfkbnofjoaaGreatDoor
namespace Go.Proofs.YtmjgnfkbnofjoaaGreatDoor
set_option linter.unusedVariables false
def Agr (L L' : List Sym) (J:List Int):Prop:=∀ x∈J,arN L' x=arN L x
theorem scan_agr {L L' : List Sym}:∀ (ts:List Int) (k:Nat),Agr L L' ts→scan L' k ts=scan L k ts
 | ts,0,h=>by rw [scan_zero,scan_zero]
 | [],k+1,h=>rfl
 | x :: r,k+1,h=>by rw [scan,scan,h x (List.mem_cons_self ..),scan_agr r _ (fun y hy=>h y (List.mem_cons_of_mem _ hy))]
theorem need_agr {L L' : List Sym}:∀ (ts:List Int) (k:Nat),Agr L L' ts→need L' k ts=need L k ts
 | [],k,h=>by cases k <;> rfl
 | x :: r,0,h=>rfl
 | x :: r,k+1,h=>by rw [need,need,h x (List.mem_cons_self ..),need_agr r _ (fun y hy=>h y (List.mem_cons_of_mem _ hy))]
section
variable {L L' : List Sym} {J : List Int}
theorem endN_agr (h:Agr L L' J) (p:Nat):endN L' J p=endN L J p:=by
 unfold endN endO
 rw [scan_agr _ _ (fun x hx=>h x (List.mem_of_mem_drop hx))]
theorem starts_agr (h:Agr L L' J):∀ k p:Nat,starts L' J k p=starts L J k p
 | 0,p=>rfl
 | k+1,p=>by rw [starts,starts,endN_agr h,starts_agr h k]
theorem at_agr (h:Agr L L' J) (h0:arN L' 0=arN L 0) (x:Int):arN L' (at' J x)=arN L (at' J x):=by
 unfold at'
 by_cases hx:x.toNat<J.length
 ·rw [List.getD_eq_getElem?_getD,List.getElem?_eq_getElem hx]
  exact h _ (List.getElem_mem hx)
 ·rw [List.getD_eq_getElem?_getD,List.getElem?_eq_none (by omega)]
  exact h0
theorem uniF_agr (h:Agr L L' J):∀ (n:Nat) (ld:Int→Int) (rs:List (Nat × Nat × Nat)),uniF L' J n ld rs=uniF L J n ld rs
 | 0,_,_=>rfl
 | n+1,ld,[]=>rfl
 | n+1,ld,(x,y,o) :: r=>by simp only [uniF,endN_agr h,uniF_agr h n]
theorem sizF_agr (h:Agr L L' J) (h0:arN L' 0=arN L 0) (ld:Int→Int):∀ n:Nat,sizF L' J ld n=sizF L J ld n
 | 0=>rfl
 | n+1=>by
  funext sz x
  simp only [sizF,kidsL,starts_agr h,at_agr h h0,sizF_agr h h0 ld n]
theorem solF_agr (h:Agr L L' J) (h0:arN L' 0=arN L 0) (m:Nat):solF L' J m=solF L J m:=by
 unfold solF
 rw [uniF_agr h,endN_agr h]
 simp only [sizF_agr h h0]
end
theorem defB_grow {L X:List Sym} {x:Int} (h:x<(L.length:Int)):defB (L++X) x=defB L x:=by
 unfold defB
 by_cases hx:x<0
 ·rw [if_pos hx,if_pos hx]
 ·rw [if_neg hx,if_neg hx,List.getElem?_append_left (by omega)]
theorem agr_grow {L X:List Sym} {t:List Int} (h:∀ x∈t,x<(L.length:Int)):Agr L (L++X) t:=fun x hx=>arN_grow (h x hx) X
theorem check_lt {L:List Sym} {t:List Int} (h:checkE L t=0):∀ x∈t,x<(L.length:Int):=fun x hx=>((badE_zero.1 (checkE_zero.1 h).2.1) x hx).1
theorem checkE_grow {L X:List Sym} {t:List Int} (h:checkE L t=0):checkE (L++X) t=0:=by
 obtain ⟨h1,h2,h3⟩:=checkE_zero.1 h
 refine checkE_zero.2 ⟨h1,badE_zero.2 (fun x hx=>?_),?_⟩
 ·obtain ⟨a,b⟩:=badE_zero.1 h2 x hx
  exact ⟨by rw [List.length_append];omega,b⟩
 ·show need _ 1 t=some 0
  rw [need_agr _ _ (agr_grow (check_lt h))]
  exact h3
theorem meetB_grow {L X:List Sym} {a b:List Int} (hL:0<L.length) (ha:checkE L a=0) (hb:checkE L b=0):meetB (L++X) a b=meetB L a b:=by
 have e1:claE L a b=0:=by unfold claE;rw [if_neg (by simp [ha])];exact hb
 have e2:claE (L++X) a b=0:=by unfold claE;rw [if_neg (by simp [checkE_grow ha])];exact checkE_grow hb
 have hag:Agr L (L++X) (jl a b 99):=agr_grow (fun x hx=>by
  unfold jl at hx
  rcases List.mem_append.1 hx with h | h
  ·exact check_lt ha x h
  ·obtain ⟨y,hy,rfl⟩:=List.mem_map.1 h
   have:=check_lt hb y hy
   unfold shF
   split <;> omega)
 have h0:arN (L++X) 0=arN L 0:=arN_grow (by omega) X
 unfold meetB claB
 rw [e1,e2,solF_agr hag h0]
theorem ask_grow {L X:List Sym} (hL:0<L.length) {A:List Ru} {x:Ru} (hx:checkE L x.1=0∧checkE L x.2=0) (hA:∀ a∈A,checkE L a.1=0) {N M:Nat}:∀ j:Nat,askB L N A x (j+1)=true→askB (L++X) M A x (j+1)=true
 | 0,h=>by simp [askB,checkE_grow hx.1,checkE_grow hx.2]
 | 1,h=>h
 | 2,h=>by
  have h' : defB L (x.1.headD (-1))=true:=h
  have hlt:x.1.headD (-1)<(L.length:Int):=by
   by_cases e:x.1.headD (-1)<(L.length:Int)
   ·exact e
   ·rw [defB_no (.inr (by omega))] at h'; cases h'
  show defB (L++X) (x.1.headD (-1))=true
  rw [defB_grow hlt];exact h'
 | 3,h=>h
 | 4,h=>by
  have h' : x.1.tail.all (fun n=>!defB L n)=true:=h
  show x.1.tail.all (fun n=>!defB (L++X) n)=true
  rw [List.all_eq_true] at h' ⊢
  intro n hn
  rw [defB_grow (check_lt hx.1 n (List.mem_of_mem_tail hn))]
  exact h' n hn
 | 5,h=>h
 | j+6,h=>by
  have h' : A.all (fun a=>!meetB L a.1 x.1)=true:=by
   cases j <;> exact h
  have g:A.all (fun a=>!meetB (L++X) a.1 x.1)=true:=by
   rw [List.all_eq_true] at h' ⊢
   intro a ha
   rw [meetB_grow hL (hA a ha) hx.1]
   exact h' a ha
  cases j <;> exact g
theorem GoodR.grow {L:List Sym} {R:List Ru} (h:GoodR L R) (X:List Sym):GoodR (L++X) R:=by
 refine ⟨h.1,fun i hi j hj=>?_⟩
 have hck:∀ m (hm:m<R.length),checkE L R[m].1=0∧checkE L R[m].2=0:=fun m hm=>by
  have:=h.2 m hm 0 (by omega)
  simpa [askB] using this
 have hL:0<L.length:=by
  have h3:defB L (R[i].1.headD (-1))=true:=h.2 i hi 2 (by omega)
  by_cases e:0<L.length
  ·exact e
  ·have:L=[]:=List.eq_nil_of_length_eq_zero (by omega)
   subst this
   unfold defB at h3
   split at h3
   ·cases h3
   ·simp at h3
 refine ask_grow hL (hck i hi) (fun a ha=>?_) j (h.2 i hi j hj)
 obtain ⟨m,hm,rfl⟩:=List.getElem_of_mem ha
 rw [List.getElem_take]
 exact (hck _ _).1
theorem GoodR.ans {L:List Sym} {R:List Ru} (h:GoodR L R):Ans L [] R []:=by
 refine .inl ⟨rfl,fun i hi m hm=>?_,fun m hm=>absurd hm (by omega)⟩
 unfold ckB
 have e:R.getD m ([],[])=R[m]:=by simp [hm]
 rw [e]
 cases i with
 | zero=>
  have:=h.1
  simp [askB,this]
 | succ i=>
  have:=h.2 m hm i (by omega)
  rw [ask_any L _ 0]
  simpa using this
end Go.Proofs.YtmjgnfkbnofjoaaGreatDoor
namespace Go.Proofs.YtmjgnfkbnofjoaaGreatDoor
set_option maxRecDepth 100000
set_option linter.unusedVariables false
open Go.RowKit
attribute [local go_sem ↓] Go.wp_at_zero Go.wp_at_succ
structure SyAt (w:World) (y:Nat) (sp:Option Addr) (V:Nat) (L:List Sym) (R:List Ru):Prop where
 blk:w.heap[y]? = some (.cells #[.pointer sp,.int .i64 (V:Int)] 94 (0,0))
 g:SyG w sp L R
theorem SyAt.same {w w' : World} {y:Nat} {sp:Option Addr} {V:Nat} {L:List Sym} {R:List Ru} (h:SyAt w y sp V L R) (hk:Same0 w w'):SyAt w' y sp V L R:=⟨hk.at0 h.blk,h.g.same hk⟩
theorem yy_nil (b:Nat) (w:World):(binOp .eql 24 (.pointer (some ⟨b,0,none⟩)) (.pointer none)).run Tryz.prog w=.ok (.bool false) w:=by kernel_rfl
theorem SyAt.put {w:World} {y:Nat} {sp sp' : Option Addr} {V V' : Nat} {L L' : List Sym} {R R' : List Ru} (h:SyAt w y sp V L R) (hg:SyG w sp' L' R'):SyAt (w.setCell ⟨y,0,none⟩ (.pointer sp')) y sp' V L' R' ∧ SyAt ((w.setCell ⟨y,0,none⟩ (.pointer sp')).setCell ⟨y,1,none⟩ (.int .i64 (V' : Int))) y sp' V' L' R' ∧ Kept (fun k=>k=y) w (w.setCell ⟨y,0,none⟩ (.pointer sp'))∧Kept (fun k=>k=y) w ((w.setCell ⟨y,0,none⟩ (.pointer sp')).setCell ⟨y,1,none⟩ (.int .i64 (V' : Int))):=by
 have k1:=kept_at w y 0 (.pointer sp')
 have k2:=Kept.setCell (p:=⟨y,1,none⟩) k1 (fun _=>rfl) (.int .i64 (V' : Int))
 have s1:=setAt h.blk 0 (.pointer sp')
 have s2:=setAt s1 1 (.int .i64 (V' : Int))
 have far:∀ k,k=y→FarY w k:=fun k e=>by subst e;exact .inr (.inl ⟨_,h.blk⟩)
 exact ⟨⟨s1,hg.keptY k1 far⟩,⟨s2,hg.keptY k2 far⟩,k1,k2⟩
def YRPost (L:List Sym) (R l:List Ru) (V y:Nat) (w:World) (ws:List (Int × Int)) (v:Value) (w' : World):Prop:=
 AnsY L R l ws∧FltAt w' ws v∧(∃ sp' V' R', SyAt w' y sp' V' L R' ∧ (ws=[]→v=.nilIface∧R' = R++l∧V' = V+(if l.length=0 then 0 else 1))∧(ws≠[]→(∃ k,v=.iface 114 (.pointer (some ⟨k,0,none⟩)))∧R' = R∧V' = V∧Same0 w w'))∧Kept (fun k=>k=y) w w'
set_option maxHeartbeats 8000000 in
theorem yAddRules_any {w:World} (hE:ErrT w) {y:Nat} {sp:Option Addr} {V:Nat} {L:List Sym} {R:List Ru} (h:SyAt w y sp V L R) (hV:V≤1000) {lo:Option Addr} {l:List Ru} {lc:Nat} (hl:RsAt w lo l) (hll:l.length≤140737488355328) (hlc:l.length≤lc) :
  Calls Tryz.prog 21 #[.pointer (some ⟨y,0,none⟩),.slice lo l.length lc] w fun e w' => ∃ ws v,e=.returned v∧YRPost L R l V y w ws v w' := by
 have hpn:=yy_nil
 have hn1:=yerr_ne
 have hn0:=yerr_nn
 have c0:=cellAt h.blk 0
 simp only [List.getElem?_toArray,List.getElem?_cons_zero] at c0
 have CW:Calls Tryz.prog 49 #[.agg #[.pointer sp],.slice lo l.length lc] w fun e w' => ∃ ws v sp', e=.returned (.tuple #[.agg #[.pointer sp'],v])∧Hid (AnsY L R l ws∧FltAt w' ws v∧(ws=[]→v=.nilIface∧∃ p bs lv vs,sp' = some ⟨p,0,none⟩∧StAt w' p bs L (R++l) lv vs)∧(ws≠[]→∃ k,v=.iface 114 (.pointer (some ⟨k,0,none⟩))))∧Same0 w w' := (withRules_any hE h.g hl hll hlc).mono (fun e w' ⟨ws,v,sp', e1,a1,a2,a3,a4,a5⟩=>⟨ws,v,sp', e1,⟨a1,a2,a4,a5⟩,a3⟩)
 have HS:Hid (∀ ww,Same0 w ww→SyAt ww y sp V L R):=fun ww hk=>h.same hk
 clear h hE hl
 go_enter Tryz.func21,Tryz.ntmps21
 go_upto_region 4 with (first | (go_at_call 49;refine CW.mono ?_;rintro e w2 ⟨ws,v,sp', rfl,h2,k2⟩))
 obtain ⟨a1,a2,a3,a4⟩:=h2.out
 obtain ⟨w3,hw3⟩:∃ w3,w3=w2.alloc (.cells #[.pointer sp'] 92):=⟨_,rfl⟩
 have k3:Same0 w2 w3:=by rw [hw3];exact (Kept.refl _ _).alloc _
 have g3:w3.cell? ⟨w2.heap.size,0,none⟩=some (.pointer sp'):=by rw [hw3];exact cellAt (heap_alloc_new _ _) 0
 have K3:Same0 w w3:=k2.trans' k3
 rw [← hw3]
 have hS3:=HS.out w3 K3
 have y0:=cellAt hS3.blk 0
 have y1:=cellAt hS3.blk 1
 have f0:=frozenAt hS3.blk 0
 have f1:=frozenAt hS3.blk 1
 simp only [List.getElem?_toArray,List.getElem?_cons_zero,List.getElem?_cons_succ] at y0 y1
 clear hw3 h2 CW c0 k2
 by_cases hws:ws=[]
 ·obtain ⟨rfl,p,bs,lv,vs,rfl,hst⟩:=a3 hws
  subst hws
  have hg:SyG w3 (some ⟨p,0,none⟩) L (R++l):=.inr ⟨p,bs,lv,vs,rfl,hst.same k3⟩
  obtain ⟨q1,q2,q3,q4⟩:=hS3.put (V' := V+1) hg
  have HA:Hid (AnsY L R l []):=a1
  by_cases h0:l.length=0
  ·have HQ:Hid (SyAt (w3.setCell ⟨y,0,none⟩ (.pointer (some ⟨p,0,none⟩))) y (some ⟨p,0,none⟩) V L (R++l)∧Kept (fun k=>k=y) w (w3.setCell ⟨y,0,none⟩ (.pointer (some ⟨p,0,none⟩)))):=⟨q1,Kept.trans (K3.mono (fun _ _ f=>f.elim)) q3 (fun _ _ e=>e)⟩
   clear a1 a2 a3 a4 hst hg q1 q2 q3 q4 hS3 K3 k3
   have h0' : ¬ (0:Int)<(l.length:Int):=by omega
   have HV0:Hid (V=V+(if l.length=0 then 0 else 1)):=by show _=_;rw [if_pos h0];omega
   go_wp2
   go_ret
   exact ⟨[],_,rfl,HA.out,rfl,⟨_,V,_,HQ.out.1,fun _=>⟨rfl,rfl,HV0.out⟩,fun e=>absurd rfl e⟩,HQ.out.2⟩
  ·have HQ:Hid (SyAt ((w3.setCell ⟨y,0,none⟩ (.pointer (some ⟨p,0,none⟩))).setCell ⟨y,1,none⟩ (.int .i64 ((V+1:Nat):Int))) y (some ⟨p,0,none⟩) (V+1) L (R++l)∧Kept (fun k=>k=y) w ((w3.setCell ⟨y,0,none⟩ (.pointer (some ⟨p,0,none⟩))).setCell ⟨y,1,none⟩ (.int .i64 ((V+1:Nat):Int)))):=⟨q2,Kept.trans (K3.mono (fun _ _ f=>f.elim)) q4 (fun _ _ e=>e)⟩
   have s1:=setAt hS3.blk 0 (.pointer (some ⟨p,0,none⟩))
   have y2:(w3.setCell ⟨y,0,none⟩ (.pointer (some ⟨p,0,none⟩))).cell? ⟨y,1,none⟩=some (.int .i64 (V:Int)):=cellAt s1 1
   have f2:=frozenAt s1 1
   have hVw:IntKind.i64.wrap ((V:Int)+1)=((V+1:Nat):Int):=by rw [iwrap (by omega) (by omega)];omega
   clear a1 a2 a3 a4 hst hg q1 q2 q3 q4 hS3 K3 k3 s1
   have h0' : (0:Int)<(l.length:Int):=by omega
   have HV0:Hid (V+1=V+(if l.length=0 then 0 else 1)):=by show _=_;rw [if_neg h0]
   clear h0
   go_wp2
   go_ret
   exact ⟨[],_,rfl,HA.out,rfl,⟨_,V+1,_,HQ.out.1,fun _=>⟨rfl,rfl,HV0.out⟩,fun e=>absurd rfl e⟩,HQ.out.2⟩
 ·obtain ⟨k,rfl⟩:=a4 hws
  have HF:Hid (AnsY L R l ws∧FltAt w3 ws (.iface 114 (.pointer (some ⟨k,0,none⟩)))∧SyAt w3 y sp V L R∧Same0 w w3∧ws≠[]):=⟨a1,FltAt.same k3 a2,hS3,K3,hws⟩
  clear a1 a2 a3 a4 hS3 K3 k3 hws
  go_wp2
  go_ret
  obtain ⟨z1,z2,z3,z4,z5⟩:=HF.out
  exact ⟨ws,_,rfl,z1,z2,⟨sp,V,R,z3,fun e=>absurd e z5,fun _=>⟨⟨k,rfl⟩,rfl,rfl,z4⟩⟩,z4.mono (fun _ _ f=>f.elim)⟩
def UpS (L xs:List Sym) (n:Nat):Prop:=∀ i (h:i<xs.length),i<n→addErr (L++xs.take i) xs[i]=0
def AnsS (L xs:List Sym) (ws:List (Int × Int)):Prop:=
 (ws=[]∧UpS L xs xs.length)∨∃ n,∃ h:n<xs.length,UpS L xs n∧addErr (L++xs.take n) xs[n]≠0∧ws=[(100,(n:Int)),(addErr (L++xs.take n) xs[n], -1)]
theorem AnsS.uniq {L xs:List Sym} {ws ws' : List (Int × Int)} (h:AnsS L xs ws) (h' : AnsS L xs ws'):ws=ws' := by
 rcases h with ⟨e,u⟩ | ⟨n,hn,u,b,e⟩ <;> rcases h' with ⟨e', u'⟩ | ⟨n', hn', u', b', e'⟩
 ·rw [e,e']
 ·exact absurd (u n' hn' hn') b'
 ·exact absurd (u' n hn hn) b
 ·have:n=n' := by
   rcases Nat.lt_trichotomy n n' with q | q | q
   ·exact absurd (u' n hn q) b
   ·exact q
   ·exact absurd (u n' hn' q) b'
  subst this
  rw [e,e']
theorem AnsS.len {L xs:List Sym} {ws:List (Int × Int)} (h:AnsS L xs ws):ws.length≤2:=by
 rcases h with ⟨e,_⟩ | ⟨n,hn,_,_,e⟩ <;> rw [e] <;> simp
theorem add_ar10 {L:List Sym} {x:Sym} (h:addErr L x=0):0≤x.ar∧x.ar≤6:=by
 unfold addErr at h
 split at h
 ·cases h
 ·split at h
  ·cases h
  ·omega
theorem UpS.ars {L xs:List Sym} (h:UpS L xs xs.length) (hL:Ars L):Ars (L++xs):=by
 intro x hx
 rcases List.mem_append.1 hx with hx | hx
 ·exact hL x hx
 ·obtain ⟨i,hi,rfl⟩:=List.getElem_of_mem hx
  exact add_ar10 (h i hi hi)
theorem Own.sg {n b:Nat} {w:World} {L:List Sym} (h:Own n w b L) (hL:Ars L):Sg w.heap.size w b L:=by
 obtain ⟨sv,mr,h1,h2⟩:=h
 exact ⟨⟨sv,mr,h1,sig_foot_lt h1⟩,hL⟩
theorem SyG.ars {w:World} {sp:Option Addr} {L:List Sym} {R:List Ru} (h:SyG w sp L R):Ars L:=by
 rcases h with ⟨_,rfl,_⟩ | ⟨p,bs,lv,vs,_,hs⟩
 ·exact ars_nil
 ·exact hs.sig.2
theorem SyG.le {w:World} {sp:Option Addr} {L:List Sym} {R:List Ru} (h:SyG w sp L R):R.length≤100:=by
 rcases h with ⟨_,_,rfl⟩ | ⟨p,bs,lv,vs,_,hs⟩
 ·simp
 ·exact hs.le
theorem SymsAt.cells {w:World} {ao:Option Addr} {xs:List Sym} (h:SymsAt w ao xs.length xs) {i:Nat} (hi:i<xs.length):∃ b off,ao=some ⟨b,off,none⟩∧b<w.heap.size∧w.cell? ⟨b,off+i * 3,none⟩=some (.string xs[i].name)∧w.cell? ⟨b,off+i * 3+1,none⟩=some (.int .i64 xs[i].ar)∧w.cell? ⟨b,off+i * 3+2,none⟩=some (.bool xs[i].df):=by
 obtain ⟨_,h2,_⟩:=h
 obtain ⟨b,off,e,hb,hc⟩:=h2.resolve_left (by omega)
 exact ⟨b,off,e,hb,hc i hi⟩
set_option maxHeartbeats 16000000 in
theorem withSymbols_any {w:World} {sp:Option Addr} {L:List Sym} {R:List Ru} (h:SyG w sp L R) (hg:GoodR L R) {ao:Option Addr} {xs:List Sym} {cap:Nat} (hx:SymsAt w ao xs.length xs) (hm:xs.length≤maxLen) :
  Calls Tryz.prog 48 #[.agg #[.pointer sp],.slice ao xs.length cap] w fun e w' => ∃ ws v sp', e=.returned (.tuple #[.agg #[.pointer sp'],v])∧AnsS L xs ws∧FltAt w' ws v∧Same0 w w' ∧ (ws=[]→v=.nilIface∧∃ p bs lv vs,sp' = some ⟨p,0,none⟩∧StAt w' p bs (L++xs) R lv vs)∧(ws≠[]→∃ k,v=.iface 114 (.pointer (some ⟨k,0,none⟩))):=by
 have hLa:=h.ars
 have hRl:=h.le
 unfold maxLen at hm
 obtain ⟨W1,hW1⟩:∃ W1,W1=(w.alloc (.cells #[.pointer sp] 92)).alloc (.cells #[.pointer none] 92):=⟨_,rfl⟩
 have KW:Same0 w W1:=by rw [hW1];exact ((Kept.refl _ w).alloc _).alloc _
 have b0:W1.heap[w.heap.size]? = some (.cells #[.pointer sp] 92 (0,0)):=by rw [hW1];exact heap_alloc2_old _ _ _
 have b1:W1.heap[w.heap.size+1]? = some (.cells #[.pointer none] 92 (0,0)):=by rw [hW1];exact heap_al_al _ _ _
 have HG0:Hid (∀ ww,Same0 W1 ww→ww.cell? ⟨w.heap.size,0,none⟩=some (.pointer sp)∧SyG ww sp L R):=fun ww hk=>⟨cellAt (hk.at0 b0) 0,h.same (KW.trans' hk)⟩
 have HB:Hid (∀ ww,Same0 W1 ww→ww.cell? ⟨w.heap.size+1,0,none⟩=some (.pointer none)∧ww.frozen? ⟨w.heap.size+1,0,none⟩=false∧FarY ww (w.heap.size+1)∧∀ u,(ww.setCell ⟨w.heap.size+1,0,none⟩ u).cell? ⟨w.heap.size+1,0,none⟩=some u∧Same0 w (ww.setCell ⟨w.heap.size+1,0,none⟩ u)∧Kept (fun q=>q=w.heap.size+1) ww (ww.setCell ⟨w.heap.size+1,0,none⟩ u)):=fun ww hk=>by
  have h2:=hk.at0 b1
  refine ⟨cellAt h2 0,frozenAt h2 0,(.inl ⟨_,h2⟩),fun u=>?_⟩
  have k3:=kept_at ww (w.heap.size+1) 0 u
  exact ⟨cellAt (setAt h2 0 u) 0,Kept.trans (KW.trans' hk) k3 (fun i hi e=>by have e' : i=w.heap.size+1:=e;omega),k3⟩
 have C1:=laid_any10 (h.same KW)
 have HX:Hid (∀ ww,Same0 W1 ww→SymsAt ww ao xs.length xs):=fun ww hk=>hx.kept (KW.trans' hk).below
 have HNM:Hid (∀ x∈xs,x.name.size≤maxLen):=fun x h=>(hx.2.2 x h).1
 have HGD:Hid (GoodR L R):=hg
 obtain ⟨g0, -⟩:=HG0.out W1 (Kept.refl _ _)
 clear h hx b0 b1 hg
 go_enter Tryz.func48,Tryz.ntmps48
 go_upto_region 1 with fail
 rw [← hW1]
 clear hW1
 go_upto_region 2 with (first
  | (go_at_call 41;refine C1.mono ?_;rintro e w2 ⟨p,bs,lv,vs,rfl,hst,k2⟩;have C3:=ssig_any hst)
  | (go_at_call 47;refine C3.mono ?_;rintro e w3 ⟨b', rfl,hb', sv,mr,hsa,hfoot,k3'⟩))
 have k3:Same0 w2 w3:=k3'
 have K3:Same0 W1 w3:=k2.trans' k3
 have z23:=k3.size
 have OW3:Own w2.heap.size w3 b' L:=⟨sv,mr,hsa,hfoot⟩
 clear C1 C3 g0 hst hsa hfoot k3'
 go_wp2_with fail
 go_loopw [17] (fun i wr=>∃ n:Nat,n≤xs.length∧i=.int .i64 (n:Int)∧Same0 w2 wr∧Hid (Own w2.heap.size wr b' (L++xs.take n)∧UpS L xs n)) (fun i _=>xs.length-(intOf i).toNat)
 case atStart=>exact ⟨0,Nat.zero_le _,rfl,k3,by show _∧_;rw [List.take_zero,List.append_nil];exact ⟨OW3,fun i _ hi=>absurd hi (by omega)⟩⟩
 case round=>
  obtain ⟨n,hn,rfl,hs,ho⟩:=hrel
  obtain ⟨wz,rfl⟩:∃ wz,wz=wr:=⟨_,rfl⟩
  have KZ:Same0 W1 wz:=k2.trans' hs
  by_cases hlt:n<xs.length
  ·have i1:(0:Int)≤(n:Int):=by omega
   have i2:(n:Int)<(xs.length:Int):=by omega
   have hl3:IntKind.i64.wrap ((n:Int)+1)=(n:Int)+1:=iwrap (by omega) (by omega)
   obtain ⟨xb,off,rfl,hxb,x0,x1,x2⟩:=(HX.out wz KZ).cells hlt
   obtain ⟨WA,hWA⟩:∃ WA,WA=wz.alloc (.cells #[.string xs[n].name,.int .i64 xs[n].ar,.bool xs[n].df] 60):=⟨_,rfl⟩
   have ka:Same0 wz WA:=by rw [hWA];exact (Kept.refl _ _).alloc _
   have bx:WA.heap[wz.heap.size]? = some (.cells #[.string xs[n].name,.int .i64 xs[n].ar,.bool xs[n].df] 60 (0,0)):=by rw [hWA];exact heap_alloc_new _ _
   have c0:=cellAt bx 0
   have c1:=cellAt bx 1
   have c2:=cellAt bx 2
   simp only [List.getElem?_toArray,List.getElem?_cons_zero,List.getElem?_cons_succ] at c0 c1 c2
   have hsz:w2.heap.size≤WA.heap.size:=(hs.trans' ka).size
   have OA:Own w2.heap.size WA b' (L++xs.take n):=ho.out.1.kept ka (fun _ _ f=>f.elim)
   have CA:=OA.add hsz xs[n] (HNM.out _ (List.getElem_mem hlt))
   have hsA:=hs.trans' ka
   have HUP:Hid (UpS L xs n):=ho.out.2
   have HKA:Hid (Same0 w2 WA):=hsA
   clear bx OA ho
   by_cases he:addErr (L++xs.take n) xs[n]=0
   ·have CA2:Calls Tryz.prog 71 #[.pointer (some ⟨b', 0,none⟩),.agg #[.string xs[n].name,.int .i64 xs[n].ar,.bool xs[n].df]] WA fun e w' => ∃ q:Int,e=.returned (.tuple #[.int .i64 q,.int .i64 0])∧Same0 w2 w' ∧ Hid (Own w2.heap.size w' b' (L++xs.take (n+1))∧UpS L xs (n+1)):=by
     refine CA.mono ?_
     rintro e w' ⟨rfl,h1,h2⟩
     have e1:addL (L++xs.take n) xs[n]=L++xs.take (n+1):=by
      rw [addL,if_pos he,List.append_assoc,List.take_add_one,List.getElem?_eq_getElem hlt];rfl
     rw [e1] at h1
     refine ⟨_,by rw [he],Kept.trans HKA.out h2 (fun i hi e=>by have e' : w2.heap.size≤i:=e;omega),h1,fun i hi hi2=>?_⟩
     by_cases q:i=n
     ·subst q;exact he
     ·exact HUP.out i hi (by omega)
    clear CA he HUP HKA hsA
    generalize xs[n].name=nm at *
    generalize xs[n].ar=nar at *
    generalize xs[n].df=ndf at *
    go_upto_region 5 with fail
    rw [← hWA]
    clear hWA x0 x1 x2
    go_wp2_with (first | (go_at_call 71;refine CA2.mono ?_;rintro e w4 ⟨q,rfl,h4,h5⟩))
    first | exact ⟨⟨n+1,by omega,by go_num,h4,h5⟩,by simp [intOf];omega⟩ | (go_roundw;case rel=>first | exact ⟨n+1,by omega,by go_num,h4,h5⟩ | ((repeat apply Exists.intro);exact ⟨⟨n+1,by omega,by go_num,h4,h5⟩,rfl⟩);case measure=>first | (simp [intOf];done) | (simp [intOf];omega))
   ·obtain ⟨E,hE⟩:∃ E,E=addErr (L++xs.take n) xs[n]:=⟨_,rfl⟩
    have hE0:E≠0:=by rw [hE];exact he
    have CA2:Calls Tryz.prog 71 #[.pointer (some ⟨b', 0,none⟩),.agg #[.string xs[n].name,.int .i64 xs[n].ar,.bool xs[n].df]] WA fun e w' => ∃ q:Int,e=.returned (.tuple #[.int .i64 q,.int .i64 E])∧Same0 w2 w' := by
     refine CA.mono ?_
     rintro e w' ⟨rfl,h1,h2⟩
     exact ⟨_,by rw [hE],Kept.trans HKA.out h2 (fun i hi e=>by have e' : w2.heap.size≤i:=e;omega)⟩
    have HA:Hid (AnsS L xs [(100,(n:Int)),(E, -1)]):=.inr ⟨n,hlt,HUP.out,by rw [← hE];exact hE0,by rw [hE]⟩
    clear CA he HUP HKA hsA hE
    generalize xs[n].name=nm at *
    generalize xs[n].ar=nar at *
    generalize xs[n].df=ndf at *
    go_upto_region 5 with fail
    rw [← hWA]
    clear hWA x0 x1 x2
    go_upto_region 7 with (first | (go_at_call 71;refine CA2.mono ?_;rintro e w4 ⟨q,rfl,k4⟩))
    have K4:Same0 W1 w4:=k2.trans' k4
    obtain ⟨w5,hw5⟩:∃ w5,w5=w4.alloc (.cells #[.int .i64 100,.int .i64 (n:Int),.iface 70 (.int .i64 E)] 116):=⟨_,rfl⟩
    have k5:Same0 w4 w5:=by rw [hw5];exact (Kept.refl _ _).alloc _
    have b5:w5.heap[w4.heap.size]? = some (.cells #[.int .i64 100,.int .i64 (n:Int),.iface 70 (.int .i64 E)] 116 (0,0)):=by rw [hw5];exact heap_alloc_new _ _
    obtain ⟨y0,y1,y3,y2⟩:=HB.out w5 (K4.trans' k5)
    obtain ⟨q0,q1,q2⟩:=y2 (.pointer none)
    have hz2:=lt_of_at b5
    have FL:FltAt w5 [(100,(n:Int)),(E, -1)] (.iface 114 (.pointer (some ⟨w4.heap.size,0,none⟩))):=.inr ⟨by omega,w4.heap.size,_,rfl,b5,.inl ⟨rfl,rfl,rfl⟩⟩
    have HQ:Hid (_∧_∧FltAt _ _ _):=⟨q0,q1,FltAt.keptN q2 y3.no.2.2.2.2.1 FL⟩
    rw [hw5] at y0 y1
    clear q0 q1 q2 y2 y3 b5 FL CA2
    go_wp2_with fail
    rw [← hw5]
    exact bodyPost_ret (v:=.tuple #[.agg #[.pointer none],.iface 114 (.pointer (some ⟨w4.heap.size,0,none⟩))]) (by simp [results,Tryz.results48,go_sem,HQ.out.1]) rfl ⟨_,_,none,rfl,HA.out,HQ.out.2.2,HQ.out.2.1,(fun e=>by cases e),fun _=>⟨_,rfl⟩⟩
  ·have en:n=xs.length:=by omega
   subst en
   have i2:¬ (xs.length:Int)<(xs.length:Int):=by omega
   have hO:=ho.out.1
   rw [List.take_length] at hO
   have HUP:Hid (UpS L xs xs.length):=ho.out.2
   have C5:=snew_any (hO.sg (HUP.out.ars hLa))
   have HLI:Hid (∀ ww,Same0 wz ww→Calls Tryz.prog 83 #[.agg #[.pointer sp]] ww fun e w' => ∃ lo lc,e=.returned (.slice lo R.length lc)∧Hid (RsAt w' lo R∧R.length≤lc)∧Same0 ww w'):=fun ww hk=>(ylist_any (HG0.out ww (KZ.trans' hk)).2).mono (fun e w' ⟨lo,lc,e1,a,a2,a3⟩=>⟨lo,lc,e1,⟨a,a2⟩,a3⟩)
   clear ho hO OW3
   go_upto_region 10 with (first | (go_at_call 72;refine C5.mono ?_;rintro e w4 ⟨rfl,hst4,k4⟩))
   obtain ⟨g0, -⟩:=HG0.out w4 (KZ.trans' k4)
   have C6:=HLI.out w4 k4
   have HS4:Hid (∀ ww,Same0 w4 ww→StAt ww wz.heap.size b' (L++xs) [] (.slice none 0 0) []):=fun ww hk=>hst4.same hk
   have hz4:=k4.size
   have hzz:=hs.size
   have CAD:Hid (∀ ww lo lc,Same0 w4 ww→RsAt ww lo R→R.length≤lc→Calls Tryz.prog 46 #[.pointer (some ⟨wz.heap.size,0,none⟩),.slice lo R.length lc] ww fun e w' => ∃ v,e=.returned v∧Hid (∃ lv2 vs2,StAt w' wz.heap.size b' (L++xs) R lv2 vs2)∧Same0 w2 w'):=fun ww lo lc hk hr hlc=>by
    refine (add_rules (lc:=lc) (HS4.out ww hk) hr (by omega) hlc).mono ?_
    rintro e w' ⟨ws,v,e1,a1,a2,a3,a4,a5⟩
    have hws:ws=[]:=a1.uniq (HGD.out.grow xs).ans
    obtain ⟨lv2,vs2,q1,q2,q3⟩:=a5 hws
    rw [List.nil_append] at q1
    refine ⟨v,e1,⟨lv2,vs2,q1⟩,Kept.trans ((hs.trans' k4).trans' hk) q2 (fun i hi e=>?_)⟩
    rcases e with e | e
    ·omega
    ·simp [Value.ownBlock] at e
   clear C5 hst4 HLI
   go_upto_region 11 with (first
    | (go_at_call 83;refine C6.mono ?_;rintro e w5 ⟨lo,lc,rfl,h5,k5⟩;have C7:=CAD.out w5 lo lc k5 h5.out.1 h5.out.2)
    | (go_at_call 46;refine C7.mono ?_;rintro e w6 ⟨v6,rfl,h6,k6⟩))
   obtain ⟨lv2,vs2,hst6⟩:=h6.out
   obtain ⟨y0,y1,y3,y2⟩:=HB.out w6 (k2.trans' k6)
   obtain ⟨q0,q1,q2⟩:=y2 (.pointer (some ⟨wz.heap.size,0,none⟩))
   have FIN:Hid (StAt (w6.setCell ⟨w.heap.size+1,0,none⟩ (.pointer (some ⟨wz.heap.size,0,none⟩))) wz.heap.size b' (L++xs) R lv2 vs2):=hst6.keptY q2 (fun i e=>by have e' : i=w.heap.size+1:=e;rw [e'];exact y3)
   have HQ:Hid (_∧_):=⟨q0,q1⟩
   clear q0 q1 q2 y2 y3 hst6 h6 C6 C7 CAD
   go_wp2
   exact bodyPost_ret (v:=.tuple #[.agg #[.pointer (some ⟨wz.heap.size,0,none⟩)],.nilIface]) (by simp [results,Tryz.results48,go_sem,HQ.out.1]) rfl ⟨[],.nilIface,_,rfl,.inl ⟨rfl,HUP.out⟩,rfl,HQ.out.2,fun _=>⟨rfl,_,_,lv2,vs2,rfl,FIN.out⟩,fun e=>absurd rfl e⟩
def YSPost (L xs:List Sym) (R:List Ru) (V y:Nat) (w:World) (ws:List (Int × Int)) (v:Value) (w' : World):Prop:=
 AnsS L xs ws∧FltAt w' ws v∧(∃ sp' L', SyAt w' y sp' V L' R∧(ws=[]→v=.nilIface∧L' = L++xs)∧(ws≠[]→(∃ k,v=.iface 114 (.pointer (some ⟨k,0,none⟩)))∧L' = L∧Same0 w w'))∧Kept (fun k=>k=y) w w'
set_option maxHeartbeats 8000000 in
theorem yAddSymbols_any {w:World} {y:Nat} {sp:Option Addr} {V:Nat} {L:List Sym} {R:List Ru} (h:SyAt w y sp V L R) (hg:GoodR L R) {ao:Option Addr} {xs:List Sym} {cap:Nat} (hx:SymsAt w ao xs.length xs) (hm:xs.length≤maxLen) :
  Calls Tryz.prog 20 #[.pointer (some ⟨y,0,none⟩),.slice ao xs.length cap] w fun e w' => ∃ ws v,e=.returned v∧YSPost L xs R V y w ws v w' := by
 have hpn:=yy_nil
 have hn1:=yerr_ne
 have hn0:=yerr_nn
 have c0:=cellAt h.blk 0
 simp only [List.getElem?_toArray,List.getElem?_cons_zero] at c0
 have CW:Calls Tryz.prog 48 #[.agg #[.pointer sp],.slice ao xs.length cap] w fun e w' => ∃ ws v sp', e=.returned (.tuple #[.agg #[.pointer sp'],v])∧Hid (AnsS L xs ws∧FltAt w' ws v∧(ws=[]→v=.nilIface∧∃ p bs lv vs,sp' = some ⟨p,0,none⟩∧StAt w' p bs (L++xs) R lv vs)∧(ws≠[]→∃ k,v=.iface 114 (.pointer (some ⟨k,0,none⟩))))∧Same0 w w' := (withSymbols_any h.g hg hx hm).mono (fun e w' ⟨ws,v,sp', e1,a1,a2,a3,a4,a5⟩=>⟨ws,v,sp', e1,⟨a1,a2,a4,a5⟩,a3⟩)
 have HS:Hid (∀ ww,Same0 w ww→SyAt ww y sp V L R):=fun ww hk=>h.same hk
 clear h hx
 go_enter Tryz.func20,Tryz.ntmps20
 go_upto_region 4 with (first | (go_at_call 48;refine CW.mono ?_;rintro e w2 ⟨ws,v,sp', rfl,h2,k2⟩))
 obtain ⟨a1,a2,a3,a4⟩:=h2.out
 obtain ⟨w3,hw3⟩:∃ w3,w3=w2.alloc (.cells #[.pointer sp'] 92):=⟨_,rfl⟩
 have k3:Same0 w2 w3:=by rw [hw3];exact (Kept.refl _ _).alloc _
 have g3:w3.cell? ⟨w2.heap.size,0,none⟩=some (.pointer sp'):=by rw [hw3];exact cellAt (heap_alloc_new _ _) 0
 have K3:Same0 w w3:=k2.trans' k3
 rw [← hw3]
 have hS3:=HS.out w3 K3
 have y0:=cellAt hS3.blk 0
 have f0:=frozenAt hS3.blk 0
 simp only [List.getElem?_toArray,List.getElem?_cons_zero] at y0
 clear hw3 h2 CW c0 k2
 by_cases hws:ws=[]
 ·obtain ⟨rfl,p,bs,lv,vs,rfl,hst⟩:=a3 hws
  subst hws
  have hg3:SyG w3 (some ⟨p,0,none⟩) (L++xs) R:=.inr ⟨p,bs,lv,vs,rfl,hst.same k3⟩
  obtain ⟨q1,q2,q3,q4⟩:=hS3.put (V' := V) hg3
  have HA:Hid (AnsS L xs []):=a1
  have HQ:Hid (SyAt (w3.setCell ⟨y,0,none⟩ (.pointer (some ⟨p,0,none⟩))) y (some ⟨p,0,none⟩) V (L++xs) R∧Kept (fun k=>k=y) w (w3.setCell ⟨y,0,none⟩ (.pointer (some ⟨p,0,none⟩)))):=⟨q1,Kept.trans (K3.mono (fun _ _ f=>f.elim)) q3 (fun _ _ e=>e)⟩
  clear a1 a2 a3 a4 hst hg3 q1 q2 q3 q4 hS3 K3 k3
  go_wp2
  go_ret
  exact ⟨[],_,rfl,HA.out,rfl,⟨_,_,HQ.out.1,fun _=>⟨rfl,rfl⟩,fun e=>absurd rfl e⟩,HQ.out.2⟩
 ·obtain ⟨k,rfl⟩:=a4 hws
  have HF:Hid (AnsS L xs ws∧FltAt w3 ws (.iface 114 (.pointer (some ⟨k,0,none⟩)))∧SyAt w3 y sp V L R∧Same0 w w3∧ws≠[]):=⟨a1,FltAt.same k3 a2,hS3,K3,hws⟩
  clear a1 a2 a3 a4 hS3 K3 k3 hws
  go_wp2
  go_ret
  exact ⟨ws,_,rfl,HF.out.1,HF.out.2.1,⟨sp,L,HF.out.2.2.1,fun e=>absurd e HF.out.2.2.2.2,fun _=>⟨⟨k,rfl⟩,rfl,HF.out.2.2.2.1⟩⟩,HF.out.2.2.2.1.mono (fun _ _ f=>f.elim)⟩
theorem info_sym7:(Tryz.prog.info? 60).map (fun i=>(i.zero,i.size,i.bytes))=some (some (.agg #[.string ByteArray.empty,.int .i64 0,.bool false]),3,32):=by kernel_rfl
theorem symCells_one7 (L:List Sym):∀ u∈symCells L,u.oneCell' = true:=by
 intro u hu
 simp [symCells] at hu
 obtain ⟨a,_,rfl | rfl | rfl⟩:=hu <;> rfl
theorem add_len {L:List Sym} {x:Sym} (h:addErr L x=0):L.length<64:=by
 unfold addErr at h
 split at h
 ·cases h
 ·split at h
  ·cases h
  ·split at h
   ·cases h
   ·split at h
    ·cases h
    ·omega
theorem UpS.len {L xs:List Sym} {n:Nat} (h:UpS L xs n) (hL:L.length≤64) (hn:n≤xs.length):(L++xs.take n).length≤64:=by
 cases n with
 | zero=>simpa using hL
 | succ k=>
  have:=add_len (h k (by omega) (by omega))
  rw [List.length_append,List.length_take] at this ⊢
  omega
theorem wpList_onto {wb W:World} {ops:Array Oper} {rest:List Oper} {o:Oper} {a:Act} {Q:Exit→Act→World→Prop} (hgd:o.guard=none) (s x:Operand) (t e:TypeId)
  (ho:o.op=.call { callee:=.builtin .append,args:=#[s,x],argTypes:=#[t,t] })
  (i:TypeInfo) (z:Value) (size bytes:Nat) (ht:Tryz.prog.underlying t=some (.slice e)) (hi:Tryz.prog.info? e=some i) (hz0:i.zero=some z) (hz1:i.size=size) (hz2:i.bytes=bytes) (hz3:z.cells.size=size) (hz4:0<size)
  (B:Nat) (hs:a.eval s=.slice (some ⟨B,0,none⟩) 0 0) (n:Nat) (news:List Value) (v:Value) (hx:a.eval x=v) (hrow:wb.ownsRow 0 e size v n news) (hW:Same0 wb W) (hB:W.heap[B]? = some (.cells #[] e (0,0))) (hb:wb.heap.size≤B) (hn:n≤1000) (hby:n * bytes≤140737488355328) (h1:∀ u∈news,u.oneCell' = true)
  (h:∀ v' w', w'.ownsRow wb.heap.size e size v' n news→Same0 wb w' → wpList Tryz.prog ops Q rest (a.put o.dst v') w') :
  wpList Tryz.prog ops Q (o :: rest) a W:=by
 have hE:W.ownsRow wb.heap.size e size (.slice (some ⟨B,0,none⟩) 0 0) 0 []:=⟨by simp,.inr ⟨B,0, #[],rfl,hb,hB,Nat.le_refl _,by unfold maxLen;omega,by simp,by simp⟩⟩
 have hR:=hW.row hrow (fun _ _ f=>f)
 rcases hR.2 with ⟨e0,n0⟩ | ⟨g,cap,cur,e0,hg⟩
 ·subst e0
  have hn0:n=0:=n0
  subst hn0
  have hnews:news=[]:=List.eq_nil_of_length_eq_zero (by simpa using hR.1)
  subst hnews
  exact wpList_append_own_none hgd s x t ho wb.heap.size e i size ht hi _ 0 [] hs hE hx (h _ W hE hW)
 ·subst e0
  refine wpList_append_own _ hgd s x t ho wb.heap.size e i z size bytes ht hi hz0 hz1 hz2 hz3 hz4 _ 0 [] hs hE ⟨g,0,none⟩ n cap news hx hR.1 (hR.cells rfl) h1 (by unfold maxLen;omega) (by simpa using hby) hW.size ?_
  intro v' w' hr hgw _
  simp only [Nat.zero_add,List.nil_append] at hr
  refine h v' w' hr (hW.trans (Kept.grown (Kept.refl _ W) hgw (fun _ e _=>e)) (fun j hj e=>?_))
  have e' : (Value.slice (some ⟨B,0,none⟩) 0 0).ownBlock=some j:=e
  simp only [Value.ownBlock,Option.some.injEq] at e'
  omega
theorem RyAt.putS {w:World} {m:Nat} {so so2:Option Addr} {sc sc2 V:Nat} {L L2:List Sym} {R:List Ru} {lv:Value} {vs:List Value} (h:RyAt w m so sc V L R lv vs) (r2:w.ownsRow 0 60 3 (.slice so2 L2.length sc2) L2.length (symCells L2)) (ha:Ars L2) (hl:L2.length≤64) (hok:∀ x∈R,checkE L2 x.1=0∧checkE L2 x.2=0) :
  RyAt (w.setCell ⟨m,0,none⟩ (.slice so2 L2.length sc2)) m so2 sc2 V L2 R lv vs∧Kept (fun q=>q=m) w (w.setCell ⟨m,0,none⟩ (.slice so2 L2.length sc2)):=by
 have k1:=kept_at w m 0 (.slice so2 L2.length sc2)
 have s1:=setAt h.blk 0 (.slice so2 L2.length sc2)
 have no:∀ (T:TypeId) (c:Array Value),T≠31→w.heap[m]? ≠ some (.cells c T (0,0)):=fun T c hT e=>by rw [h.blk] at e;cases e;exact hT rfl
 have q2:=k1.row r2 (fun q e s=>by obtain ⟨c,hc⟩:=own_blk r2 e;have s' : q=m:=s;rw [s'] at hc;exact no _ _ (by decide) hc)
 refine ⟨⟨s1,⟨q2,fun q e=>(q2.lt q e).2,ha,hl⟩,k1.row h.row (fun q e s=>?_),h.own.kept k1 (fun q s c e=>?_),h.le,hok⟩,k1⟩
 ·obtain ⟨c,hc⟩:=own_blk h.row e
  have s' : q=m:=s
  rw [s'] at hc
  exact no _ _ (by decide) hc
 ·have s' : q=m:=s
  rw [s'] at e
  exact no _ _ (by decide) e
def RySPost (m:Nat) (V:Nat) (L xs:List Sym) (R:List Ru) (lv:Value) (vs:List Value) (w:World) (e:Ending) (w' : World):Prop:=
 ∃ ws v,e=.returned v∧AnsS L xs ws∧WrsAt w' v ws∧Kept (fun q=>q=m) w w' ∧ ∃ so' sc' L', RyAt w' m so' sc' V L' R lv vs∧(ws=[]→L' = L++xs)∧(ws≠[]→L' = L∧Same0 w w')
set_option maxHeartbeats 32000000 in
theorem raddS10_any {w:World} {m:Nat} {so:Option Addr} {sc V:Nat} {L:List Sym} {R:List Ru} {lv:Value} {vs:List Value} (h:RyAt w m so sc V L R lv vs) {ao:Option Addr} {xs:List Sym} {cap:Nat} (hx:SymsAt w ao xs.length xs) (hm:xs.length≤maxLen) :
  Calls Tryz.prog 25 #[.pointer (some ⟨m,0,none⟩),.slice ao xs.length cap] w (RySPost m V L xs R lv vs w):=by
 unfold maxLen at hm
 have hL64:L.length≤64:=h.rl.2.2.2
 have hLa:Ars L:=h.rl.2.2.1
 have hok:=h.ok
 have HRY:Hid (∀ ww,Same0 w ww→RyAt ww m so sc V L R lv vs):=fun ww hk=>h.same hk
 have c0:=cellAt h.blk 0
 simp only [List.getElem?_toArray,List.getElem?_cons_zero] at c0
 have r1:=h.rl.1
 have o1:=symCells_one7 L
 have hmw:=lt_of_at h.blk
 obtain ⟨i1,hi1,hz01,hz11,hz21⟩:=info_parts info_sym7
 have k0:Same0 w (w.alloc (.cells #[] 60)):=(Kept.refl _ _).alloc _
 have b0:(w.alloc (.cells #[] 60)).heap[w.heap.size]? = some (.cells #[] 60 (0,0)):=heap_alloc_new _ _
 have c0a:(w.alloc (.cells #[] 60)).cell? ⟨m,0,none⟩=some (.slice so L.length sc):=cell_al c0 _
 have HX:Hid (∀ ww,Same0 w ww→SymsAt ww ao xs.length xs):=fun ww hk=>hx.kept hk.below
 have HNM:Hid (∀ x∈xs,x.name.size≤maxLen):=fun x h=>(hx.2.2 x h).1
 clear h hx
 go_enter Tryz.func25,Tryz.ntmps25
 go_upto_region 2 with (first | (at_builtin;refine wpList_onto (wb:=w) rfl _ _ 28 60 rfl i1 _ 3 32 Tryz.underlying28 hi1 hz01 hz11 hz21 rfl (by decide) w.heap.size rfl L.length (symCells L) (.slice so L.length sc) rfl r1 k0 b0 (Nat.le_refl _) (by omega) (by omega) o1 ?_;intro sv w1 q1 s1;obtain ⟨so1,sc1,rfl⟩:=row_shape q1))
 obtain ⟨w2,hw2⟩:∃ w2,w2=w1.alloc (.cells #[.slice so1 L.length sc1] 126):=⟨_,rfl⟩
 have k2:Same0 w1 w2:=by rw [hw2];exact (Kept.refl _ _).alloc _
 have K2:Same0 w w2:=s1.trans' k2
 have hz1:=s1.size
 have RF2:RefAt w2 w1.heap.size L (.slice so1 L.length sc1):=⟨by rw [hw2];exact heap_alloc_new _ _,row_mono (k2.row q1 (fun _ _ f=>f)) (Nat.zero_le _),fun e=>by have:=(q1.lt _ e).2;omega⟩
 have FT2:∀ q,RFoot w1.heap.size (.slice so1 L.length sc1) q→w.heap.size≤q:=fun q e=>by
  rcases e with e | e
  ·omega
  ·exact (q1.lt q e).1
 rw [← hw2]
 clear hw2 q1 r1 o1 k0 b0 c0a c0
 generalize hrb:w1.heap.size=rb at *
 clear hrb
 go_upto_region 3 with fail
 go_loopw [6] (fun i wr=>∃ n:Nat,n≤xs.length∧i=.int .i64 (n:Int)∧Same0 w wr∧Hid (UpS L xs n∧∃ rv,RefAt wr rb (L++xs.take n) rv∧∀ q,RFoot rb rv q→w.heap.size≤q)) (fun i _=>xs.length-(intOf i).toNat)
 case atStart=>exact ⟨0,Nat.zero_le _,rfl,K2,fun i _ hi=>absurd hi (by omega),_,by rw [List.take_zero,List.append_nil];exact RF2,FT2⟩
 case round=>
  obtain ⟨n,hn,rfl,hs,ho⟩:=hrel
  obtain ⟨wz,rfl⟩:∃ wz,wz=wr:=⟨_,rfl⟩
  obtain ⟨hup,rv,hrf,hft⟩:=ho.out
  have hl64:=hup.len hL64 hn
  by_cases hlt:n<xs.length
  ·have j1:(0:Int)≤(n:Int):=by omega
   have j2:(n:Int)<(xs.length:Int):=by omega
   have hl3:IntKind.i64.wrap ((n:Int)+1)=(n:Int)+1:=iwrap (by omega) (by omega)
   obtain ⟨xb,off,rfl,hxb,x0,x1,x2⟩:=(HX.out wz hs).cells hlt
   have CA:=radd_any hrf hl64 xs[n] (HNM.out _ (List.getElem_mem hlt))
   have HUP:Hid (UpS L xs n):=hup
   clear ho RF2 FT2
   by_cases he:addErr (L++xs.take n) xs[n]=0
   ·have CA2:Calls Tryz.prog 53 #[.pointer (some ⟨rb,0,none⟩),.agg #[.string xs[n].name,.int .i64 xs[n].ar,.bool xs[n].df]] wz fun e w' => ∃ q:Int,e=.returned (.tuple #[.int .i64 q,.int .i64 0])∧Same0 w w' ∧ Hid (UpS L xs (n+1)∧∃ rv,RefAt w' rb (L++xs.take (n+1)) rv∧∀ q,RFoot rb rv q→w.heap.size≤q):=by
     refine CA.mono ?_
     rintro e w' ⟨rfl,rv2,h1,h2,h3⟩
     have e1:addL (L++xs.take n) xs[n]=L++xs.take (n+1):=by
      rw [addL,if_pos he,List.append_assoc,List.take_add_one,List.getElem?_eq_getElem hlt];rfl
     rw [e1] at h1
     have hsz:=hs.size
     refine ⟨_,by rw [he],Kept.trans hs h2 (fun i hi e=>by have:=hft i e;omega),fun i hi hi2=>?_,rv2,h1,fun q e=>?_⟩
     ·by_cases q:i=n
      ·subst q;exact he
      ·exact HUP.out i hi (by omega)
     ·rcases h3 q e with e2 | e2
      ·exact hft q e2
      ·omega
    clear CA he HUP hrf hft
    generalize xs[n].name=nm at *
    generalize xs[n].ar=nar at *
    generalize xs[n].df=ndf at *
    go_wp2_with (first | (go_at_call 53;refine CA2.mono ?_;rintro e w4 ⟨q,rfl,h4,h5⟩))
    first | exact ⟨⟨n+1,by omega,by go_num,h4,h5⟩,by simp [intOf];omega⟩ | (go_roundw;case rel=>first | exact ⟨n+1,by omega,by go_num,h4,h5⟩ | ((repeat apply Exists.intro);exact ⟨⟨n+1,by omega,by go_num,h4,h5⟩,rfl⟩);case measure=>first | (simp [intOf];done) | (simp [intOf];omega))
   ·obtain ⟨E,hE⟩:∃ E,E=addErr (L++xs.take n) xs[n]:=⟨_,rfl⟩
    have hE0:E≠0:=by rw [hE];exact he
    have hEb:(E != 0)=true:=by simpa using hE0
    have CA2:Calls Tryz.prog 53 #[.pointer (some ⟨rb,0,none⟩),.agg #[.string xs[n].name,.int .i64 xs[n].ar,.bool xs[n].df]] wz fun e w' => ∃ q:Int,e=.returned (.tuple #[.int .i64 q,.int .i64 E])∧Same0 w w' := by
     refine CA.mono ?_
     rintro e w' ⟨rfl,rv2,h1,h2,h3⟩
     have hsz:=hs.size
     exact ⟨_,by rw [hE],Kept.trans hs h2 (fun i hi e=>by have:=hft i e;omega)⟩
    have HA:Hid (AnsS L xs [(100,(n:Int)),(E, -1)]):=.inr ⟨n,hlt,HUP.out,by rw [← hE];exact hE0,by rw [hE]⟩
    clear CA he HUP hE hrf hft
    generalize xs[n].name=nm at *
    generalize xs[n].ar=nar at *
    generalize xs[n].df=ndf at *
    go_upto_region 7 with (first | (go_at_call 53;refine CA2.mono ?_;rintro e w4 ⟨q,rfl,k4⟩))
    have kw:Same0 w4 (w4.alloc (.cells #[.int .i64 100,.int .i64 (n:Int),.int .i64 E,.int .i64 (-1)] 72)):=(Kept.refl _ _).alloc _
    have W4:=wrs_new w4 [(100,(n:Int)),(E, -1)] #[.int .i64 100,.int .i64 (n:Int),.int .i64 E,.int .i64 (-1)] 72 rfl (fun i hi=>by have hi' : i<2:=hi;match i,hi' with | 0,_=>exact ⟨rfl,rfl⟩ | 1,_=>exact ⟨rfl,rfl⟩) 2 rfl
    have HW4:Hid (WrsAt _ _ _):=W4
    have K4:=k4.trans' kw
    have HR4:Hid (RyAt _ _ _ _ _ _ _ _ _):=HRY.out _ K4
    have HK4:Hid (Same0 _ _):=K4
    clear W4 K4 kw CA2
    go_wp2_with fail
    go_ret
    exact ⟨_,_,rfl,HA.out,HW4.out,HK4.out.mono (fun _ _ f=>f.elim),so,sc,L,HR4.out,(fun e=>by cases e),fun _=>⟨rfl,HK4.out⟩⟩
  ·have en:n=xs.length:=by omega
   subst en
   have j2:¬ (xs.length:Int)<(xs.length:Int):=by omega
   rw [List.take_length] at hrf hl64
   have hra:=hup.ars hLa
   obtain ⟨so2,sc2,rfl⟩:=row_shape hrf.row
   have hRz:=HRY.out wz hs
   obtain ⟨p1,p2⟩:=hRz.putS hrf.row hra hl64 (fun x hx=>⟨check_grow (hok x hx).1 xs,check_grow (hok x hx).2 xs⟩)
   have y0:=cellAt hRz.blk 0
   have f0:=frozenAt hRz.blk 0
   have z0:=cellAt hrf.blk 0
   simp only [List.getElem?_toArray,List.getElem?_cons_zero] at y0 z0
   have HUP:Hid (AnsS L xs []):=.inl ⟨rfl,hup⟩
   have HP:Hid (_∧_):=And.intro p1 (Kept.trans (hs.mono (S' := fun q=>q=m) (fun _ _ f=>f.elim)) p2 (fun _ _ e=>e))
   clear ho hup hrf hft hRz p1 p2 hra HRY RF2 FT2
   generalize (L++xs).length=NL at *
   go_wp2
   go_ret
   exact ⟨[],_,rfl,HUP.out,⟨none,0,rfl,.inl rfl⟩,HP.out.2,_,_,_,HP.out.1,fun _=>rfl,fun e=>absurd rfl e⟩
theorem AnsY.len3 {L:List Sym} {R l:List Ru} {ws:List (Int × Int)} (h:AnsY L R l ws):ws.length≤3:=by
 rcases h with ⟨c,p,r,_,_,h,rfl⟩ | ⟨_,K,z,_,rfl⟩ | ⟨_,_,rfl⟩
 ·simp;omega
 ·simp
 ·simp
theorem AnsY.good {L:List Sym} {R l:List Ru} (h:AnsY L R l []):Ans L R l []∧NoFork L (R++l) L.length:=by
 rcases h with ⟨c,p,r,_,_,_,e⟩ | ⟨_,K,z,_,e⟩ | ⟨a,b,_⟩
 ·cases e
 ·cases e
 ·exact ⟨a,b⟩
theorem SyAt.keptM {w w' : World} {y m:Nat} {sp:Option Addr} {V:Nat} {L:List Sym} {R:List Ru} (h:SyAt w y sp V L R) (hk:Kept (fun q=>q=m) w w') (hf:FarY w m) (hne:y≠m):SyAt w' y sp V L R:=
 ⟨hk.at h.blk (fun e=>hne e),h.g.keptY hk (fun k e=>by subst e;exact hf)⟩
theorem RyAt.far {w:World} {m:Nat} {so:Option Addr} {sc V:Nat} {L:List Sym} {R:List Ru} {lv:Value} {vs:List Value} (h:RyAt w m so sc V L R lv vs):FarY w m:=.inr (.inr (.inl ⟨_,h.blk⟩))
theorem SyAt.far {w:World} {y:Nat} {sp:Option Addr} {V:Nat} {L:List Sym} {R:List Ru} (h:SyAt w y sp V L R):FarY w y:=.inr (.inl ⟨_,h.blk⟩)
theorem RyAt.keptY {w w' : World} {y m:Nat} {so:Option Addr} {sc V:Nat} {L:List Sym} {R:List Ru} {lv:Value} {vs:List Value} (h:RyAt w m so sc V L R lv vs) (hk:Kept (fun q=>q=y) w w') (hf:FarY w y) (hne:m≠y):RyAt w' m so sc V L R lv vs:=by
 refine ⟨hk.at h.blk (fun e=>hne e),⟨hk.row h.rl.1 (fun q e s=>?_),fun q e=>Nat.lt_of_lt_of_le (h.rl.2.1 q e) hk.size,h.rl.2.2⟩,hk.row h.row (fun q e s=>?_),h.own.kept hk (fun q s=>?_),h.le,h.ok⟩
 ·obtain ⟨c,hc⟩:=own_blk h.rl.1 e
  have s' : q=y:=s
  rw [s'] at hc
  exact hf.no.2.1 _ hc
 ·obtain ⟨c,hc⟩:=own_blk h.row e
  have s' : q=y:=s
  rw [s'] at hc
  exact hf.no.2.2.1 _ hc
 ·have s' : q=y:=s
  rw [s']
  exact hf.no.1
structure TwY (w0 w:World) (y m:Nat) (sp so:Option Addr) (sc:Nat) (L:List Sym) (R:List Ru) (lv:Value) (vs:List Value):Prop where
 sy:SyAt w y sp R.length L R
 ry:RyAt w m so sc R.length L R lv vs
 good:GoodR L R
 y0:w0.heap.size≤y
 m0:w0.heap.size≤m
 same:Same0 w0 w
theorem TwY.ne {w0 w:World} {y m:Nat} {sp so:Option Addr} {sc:Nat} {L:List Sym} {R:List Ru} {lv:Value} {vs:List Value} (h:TwY w0 w y m sp so sc L R lv vs):y≠m:=fun e=>by
 have:=h.sy.blk
 rw [e,h.ry.blk] at this
 cases this
theorem TwY.syms {w0 w w1 w2:World} {y m:Nat} {sp so:Option Addr} {sc:Nat} {L:List Sym} {R:List Ru} {lv:Value} {vs:List Value} (h:TwY w0 w y m sp so sc L R lv vs) {xs:List Sym} {ws:List (Int × Int)} {v:Value} (h1:YSPost L xs R R.length y w ws v w1) {e:Ending} (h2:RySPost m R.length L xs R lv vs w1 e w2) :
  ∃ v', e=.returned v' ∧ FltAt w2 ws v∧WrsAt w2 v' ws∧ws.length≤2∧∃ sp' so' sc' L', TwY w0 w2 y m sp' so' sc' L' R lv vs∧(ws=[]→L' = L++xs)∧(ws≠[]→L' = L)∧AnsS L xs ws:=by
 obtain ⟨a1,a2,⟨sp', L', a3,a4,a5⟩,a6⟩:=h1
 obtain ⟨ws', v', rfl,b1,b2,b3,so', sc', L'', b4,b5,b6⟩:=h2
 obtain rfl:=a1.uniq b1
 have hne:=h.ne
 have hf1:FarY w1 m:=(h.ry.keptY a6 h.sy.far (fun e=>hne e.symm)).far
 have eL:L'' = L' := by
  by_cases q:ws=[]
  ·rw [b5 q,(a4 q).2]
  ·rw [(b6 q).1,(a5 q).2.1]
 subst eL
 have hg:GoodR L'' R:=by
  by_cases q:ws=[]
  ·rw [b5 q];exact h.good.grow xs
  ·rw [(b6 q).1];exact h.good
 have hs1:Same0 w0 w1:=Kept.trans h.same a6 (fun i hi e=>by have e' : i=y:=e;have:=h.y0;omega)
 refine ⟨v', rfl,FltAt.keptN b3 hf1.no.2.2.2.2.1 a2,b2,a1.len,sp', so', sc', L'', ⟨a3.keptM b3 hf1 hne,b4,hg,h.y0,h.m0,Kept.trans hs1 b3 (fun i hi e=>by have e' : i=m:=e;have:=h.m0;omega)⟩,b5,fun q=>(b6 q).1,a1⟩
theorem TwY.ryAt {w0 w w1:World} {y m:Nat} {sp so:Option Addr} {sc:Nat} {L:List Sym} {R:List Ru} {lv:Value} {vs:List Value} (h:TwY w0 w y m sp so sc L R lv vs) (hk:Kept (fun q=>q=y) w w1):RyAt w1 m so sc R.length L R lv vs∧Same0 w0 w1:=
 ⟨h.ry.keptY hk h.sy.far (fun e=>h.ne e.symm),Kept.trans h.same hk (fun i hi e=>by have e' : i=y:=e;have:=h.y0;omega)⟩
inductive MadeS:List Sym→List Sym→Prop
 | nil:MadeS [] []
 | yes {l L:List Sym} {x:Sym}:MadeS l L→AnsS L [x] []→MadeS (l ++ [x]) (L ++ [x])
 | no {l L:List Sym} {x:Sym} {ws:List (Int × Int)}:MadeS l L→AnsS L [x] ws→ws≠[]→MadeS (l ++ [x]) L
inductive MadeR (L:List Sym):List Ru→List Ru→Prop
 | nil:MadeR L [] []
 | yes {l R:List Ru} {x:Ru}:MadeR L l R→AnsY L R [x] []→MadeR L (l ++ [x]) (R ++ [x])
 | no {l R:List Ru} {x:Ru} {ws:List (Int × Int)}:MadeR L l R→AnsY L R [x] ws→ws≠[]→MadeR L (l ++ [x]) R
theorem ym_nil (b:Nat) (w:World):(binOp .eql 24 (.pointer (some ⟨b,0,none⟩)) (.pointer none)).run Tryz.prog w=.ok (.bool false) w:=by kernel_rfl
end Go.Proofs.YtmjgnfkbnofjoaaGreatDoor
