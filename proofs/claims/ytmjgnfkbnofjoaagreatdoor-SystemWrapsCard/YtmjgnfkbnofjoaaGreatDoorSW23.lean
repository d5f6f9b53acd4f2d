import Derived.Test.YtmjgnfkbnofjoaaGreatDoorSW22
import Derived.Test.YtmjgnfkbnofjoaaGreatDoorSW20
import Derived.Test.YtmjgnfkbnofjoaaGreatDoorSW14
import Derived.Test.YtmjgnfkbnofjoaaGreatDoorSW13
import Derived.Test.YtmjgnfkbnofjoaaGreatDoorSW11
import Derived.Test.YtmjgnfkbnofjoaaGreatDoorSW01
import Derived.Test.YtmjgnfkbnofjoaaGreatDoorSW15
import Derived.Test.YtmjgnfkbnofjoaaGreatDoorSW04
import Derived.Test.YtmjgnfkbnofjoaaGreatDoorSW21
namespace Go.Proofs.YtmjgnfkbnofjoaaGreatDoor
set_option maxRecDepth 100000
set_option linter.unusedVariables false
open Go.RowKit Go.Shelf
attribute [local go_sem] Oper.semAt_some
def NoFork (L:List Sym) (R:List Ru) (K:Nat):Prop:=∀ k,k<K→defB L (k:Int)=true→∃ t,treeF L R k=.ok t
theorem FltAt.keptC {S:Nat→Prop} {w w' : World} (hk:Kept S w w') (hS:∀ b,S b→∀ cs T,w.heap[b]? ≠ some (.cells cs T (0,0))):∀ {ws:List (Int × Int)} {v:Value},FltAt w ws v→FltAt w' ws v
 | [],_,h=>h
 | (c,p) :: r,v,h=>by
  rcases h with h | ⟨h0,b,u,h1,h2,h3⟩
  ·exact .inl h
  ·exact .inr ⟨h0,b,u,h1,hk.at h2 (fun s=>hS b s _ _ h2),FltAt.keptC hk hS h3⟩
theorem fork_ok {w:World} {b bs:Nat} {L:List Sym} {R:List Ru} {lv:Value} {vs:List Value} (h:StAt w b bs L R lv vs) {k:Nat} (hk:defB L (k:Int)=true→∃ t,treeF L R k=.ok t) :
  Calls Tryz.prog 52 #[.pointer (some ⟨b,0,none⟩),.int .i64 (k:Int)] w fun e w' => ∃ tk tr tpo tpl tpc tko tkl tkc ev,e=.returned (.tuple #[.agg #[.int .i64 tk,.int .i64 tr,.slice tpo tpl tpc,.slice tko tkl tkc],ev])∧Hid (∀ ww,Same0 w' ww→Calls Tryz.prog 27 #[ev,.iface 70 (.int .i64 81)] ww fun e w' => e=.returned (.bool false)∧w' = ww)∧Same0 w w' := by
 refine (build_any h (k:Int)).mono ?_
 rintro e w' ⟨hs,hp⟩
 by_cases hd:defB L (k:Int)=true
 ·rw [if_pos hd,Int.toNat_natCast] at hp
  obtain ⟨t,ht⟩:=hk hd
  rw [ht] at hp
  obtain ⟨v,rfl,hc⟩:=hp
  obtain ⟨tk,tr,tpo,tpl,tpc,tko,tkl,tkc,rfl⟩:=hc.shape
  exact ⟨tk,tr,tpo,tpl,tpc,tko,tkl,tkc,_,rfl,fun ww _=>is_any (ws:=[]) rfl (by simp) 81,hs⟩
 ·rw [if_neg hd] at hp
  obtain ⟨v,rfl,hf⟩:=hp
  exact ⟨0,0,none,0,0,none,0,0,v,rfl,fun ww hk=>is_any (FltAt.same hk hf) (by simp) 81,hs⟩
set_option maxHeartbeats 32000000 in
theorem forked_ok {w:World} {b bs:Nat} {L:List Sym} {R:List Ru} {lv:Value} {vs:List Value} (h:StAt w b bs L R lv vs) (hall:NoFork L R L.length) :
  Calls Tryz.prog 85 #[.pointer (some ⟨b,0,none⟩)] w fun e w' => e=.returned .nilIface∧Same0 w w' := by
 have hFn:∀ k,Fence.wide.fn k:=fun _=>trivial
 obtain ⟨W1,hW1⟩:∃ W1,W1=(w.alloc (.cells #[.pointer (some ⟨b,0,none⟩)] 43)).alloc (.cells #[.nilIface] 46):=⟨_,rfl⟩
 have KW:Same0 w W1:=by rw [hW1];exact ((Kept.refl _ w).alloc _).alloc _
 have ez:W1.heap.size=w.heap.size+1+1:=by rw [hW1];simp
 have BK:Hid (∀ ww,Same0 W1 ww→ww.heap[w.heap.size]? = some (.cells #[.pointer (some ⟨b,0,none⟩)] 43 (0,0))∧ww.heap[w.heap.size+1]? = some (.cells #[.nilIface] 46 (0,0))):=fun ww hk=>by
  have k1:Same0 (w.alloc (.cells #[.pointer (some ⟨b,0,none⟩)] 43)) W1:=by rw [hW1];exact (Kept.refl _ _).alloc _
  exact ⟨hk.at0 (k1.at0 (heap_alloc_new w _)),hk.at0 (by rw [hW1];exact heap_al_al _ _ _)⟩
 have r0:W1.cell? ⟨w.heap.size,0,none⟩=some (.pointer (some ⟨b,0,none⟩)):=cellAt (BK.out W1 (Kept.refl _ _)).1 0
 have CS:=(callsIn_wide (n:=8)).2 (ssig_any (h.same KW))
 refine (callsIn_wide (n:=9)).1 ?_
 refine callsIn_of_wp_marks Tryz.func85 rfl trivial ?_ rfl
 simp only [Tryz.ntmps85,List.size_toArray,List.length_cons,List.length_nil,Nat.reduceAdd,Nat.reduceSub,Array.replicate_succ,Array.replicate_zero,List.push_toArray,List.append_toArray,List.nil_append,List.cons_append]
 gi_upto_region 1 with fail
 rw [← hW1]
 clear hW1
 gi_wp2_with (first
  | (gi_at_call 47;refine CS.mono ?_;rintro e w1 ⟨bt,rfl,hbt,sv,mr,hsig,hfoot,k1'⟩)
  | (gi_at_call 23;refine (all_in Fence.wide _ trivial rfl _ _).mono ?_;rintro e w' ⟨rfl,rfl⟩))
 have k1:Same0 W1 w1:=k1'
 have K1:Same0 w w1:=KW.trans' k1
 have hzw:=k1.size
 obtain ⟨W0,hW0⟩:∃ W0,W0=w1.alloc (.cells #[.pointer (some ⟨bt,0,none⟩)] 41):=⟨_,rfl⟩
 have K0:Same0 w1 W0:=by rw [hW0];exact (Kept.refl _ _).alloc _
 have z0:W0.heap.size=w1.heap.size+1:=by rw [hW0];simp
 have b2:W0.cell? ⟨w1.heap.size,0,none⟩=some (.pointer (some ⟨bt,0,none⟩)):=by rw [hW0];exact cellAt (heap_alloc_new w1 _) 0
 rw [← hW0]
 clear hW0
 have ST:Hid (∀ X,Same0 w1 X→StAt X b bs L R lv vs∧X.cell? ⟨w.heap.size,0,none⟩=some (.pointer (some ⟨b,0,none⟩))):=fun X hk=>⟨h.same (K1.trans' hk),cellAt (BK.out X (k1.trans' hk)).1 0⟩
 refine wp_handsX rfl (by omega) (gf:=51) (lb:=#[.pointer (some ⟨w1.heap.size,0,none⟩)]) rfl trivial (enters_of Tryz.func51 (by kernel_rfl) rfl) (B:=w1.heap.size) (by omega) (hands_symsX hsig K0 b2 (by omega)) (fun k vs W h=>by obtain ⟨_,rfl⟩:=h;rfl)
  (fun k W=>Same0 w1 W) (fun k X Y h hk=>h.trans' hk) (fun k X l o o' h hl ho hw=>Kept.trans h (kept_put (l:=l) (o' := o')) (fun i hi e=>by have e' : i=l:=e;omega)) K0 (fun _=>False) (fun X Y h hk=>h.elim) (fun X l o o' h hl ho hw=>h.elim) ?round ?done ?stop
 case stop=>exact fun D W hD h=>h.elim
 case done=>
  rintro D W hD hj hD2
  obtain ⟨g1,g2⟩:=BK.out W (k1.trans' hj)
  have v0:=cellAt g2 0
  have f0:=frozenAt g2 0
  obtain ⟨X,hX⟩:∃ X,X=W.setCell ⟨w.heap.size+1,0,none⟩ .nilIface:=⟨_,rfl⟩
  have kx:Kept (fun q=>q=w.heap.size+1) W X:=by rw [hX];exact kept_at W (w.heap.size+1) 0 .nilIface
  have g3:X.heap[w.heap.size+1]? = some (.cells #[.nilIface] 46 (0,0)):=by rw [hX];exact setAt g2 0 .nilIface
  have hD3:=kx.at hD2 (fun e=>by have e' : D=w.heap.size+1:=e;omega)
  have gZ:=(World.putObj_heap_other (w:=X) (r:=D) (o:=.deferred none) (k:=w.heap.size+1) (by omega)).trans g3
  have v4:=cellAt gZ 0
  simp only [List.getElem?_toArray,List.getElem?_cons_zero] at v0 v4
  have ks:Kept (fun q=>q=D) X (X.putObj D (.deferred none)):=kept_put
  have KF:Same0 w (X.putObj D (.deferred none)):=Kept.trans (Kept.trans (K1.trans' hj) kx (fun i hi e=>by have e' : i=w.heap.size+1:=e;omega)) ks (fun i hi e=>by have e' : i=D:=e;omega)
  have HX:Hid (W.setCell ⟨w.heap.size+1,0,none⟩ .nilIface=X):=hX.symm
  clear hX
  gi_wp2_with fail
  rw [HX.out]
  refine ⟨by simp,.inl ⟨_,_,rfl,run_takeDeferred hD3,?_⟩⟩
  exact ⟨.nilIface,by simp [results,Tryz.results85,go_sem,v4],rfl,KF⟩
 case round=>
  rintro l k vs W hk hl hlW hj ⟨hk', rfl⟩
  have rb:=(ST.out W hj).2
  gi_wp2_with fail
  refine ⟨Rnd.same (Kept.refl _ _) (by have:=hj.size;omega),fun o o' ho hoc hoc' => ?_⟩
  obtain ⟨Wb,hWb⟩:∃ Wb,Wb=W.putObj l o' := ⟨_,rfl⟩
  have kb:Kept (fun q=>q=l) W Wb:=by rw [hWb];exact kept_put
  have hjb:Same0 w1 Wb:=Kept.trans hj kb (fun i hi e=>by have e' : i=l:=e;omega)
  rw [← hWb]
  clear hWb ho
  obtain ⟨hstb,rbb⟩:=ST.out Wb hjb
  have hzb:=hjb.size
  have CB:=fork_ok hstb (hall k hk)
  have FIN:Hid (∀ w3 o,Same0 Wb w3→Rnd (w1.heap.size+1) w1.heap.size Wb (w3.alloc o)∧Same0 w1 (w3.alloc o)):=fun w3 o hk3=>⟨Rnd.same (Kept.alloc hk3 _) hzb,hjb.trans' (Kept.alloc hk3 _)⟩
  clear hstb kb hj rb
  gi_wp2_with (first
   | (gi_at_call 52;refine (CallsIn.inRound l (callsIn_wide.2 CB)).mono ?_;rintro e w3 ⟨tk,tr,tpo,tpl,tpc,tko,tkl,tkc,ev,rfl,hev,k3⟩;have C2:=hev.out (w3.alloc (.cells #[.int .i64 tk,.int .i64 tr,.slice tpo tpl tpc,.slice tko tkl tkc] 63)) ((Kept.refl _ _).alloc _);obtain ⟨m3,m4⟩:=FIN.out w3 (.cells #[.int .i64 tk,.int .i64 tr,.slice tpo tpl tpc,.slice tko tkl tkc] 63) k3)
   | (gi_at_call 27;refine (CallsIn.inRound l (callsIn_wide.2 C2)).mono ?_;rintro e w4 ⟨rfl,rfl⟩))
def ZFk (w:World) (K:Nat) (z:Int) (W:World):Prop:=∃ q,W.heap[w.heap.size+1]? = some (.cells #[.iface 114 (.pointer (some ⟨q,0,none⟩))] 46 (0,0))∧FltAt W [(81,(K:Int)),(82,z)] (.iface 114 (.pointer (some ⟨q,0,none⟩)))∧Same0 w W
theorem FltAt.keptE {w w' : World} {x:Nat} (hk:Kept (fun q=>q=x) w w') {c:Array Value} (hx:w.heap[x]? = some (.cells c 46 (0,0))):∀ {ws:List (Int × Int)} {v:Value},FltAt w ws v→FltAt w' ws v
 | [],_,h=>h
 | (c', p) :: r,v,h=>by
  rcases h with h | ⟨h0,b,u,h1,h2,h3⟩
  ·exact .inl h
  ·exact .inr ⟨h0,b,u,h1,hk.at h2 (fun e=>by have e' : b=x:=e;subst e'; rw [hx] at h2;cases h2),FltAt.keptE hk hx h3⟩
set_option maxHeartbeats 32000000 in
theorem forked_err {w:World} {b bs:Nat} {L:List Sym} {R:List Ru} {lv:Value} {vs:List Value} (h:StAt w b bs L R lv vs) {K:Nat} (hKL:K<L.length) (hdK:defB L (K:Int)=true) {z:Int} (hz:treeF L R K=.error z) (hall:NoFork L R K) :
  Calls Tryz.prog 85 #[.pointer (some ⟨b,0,none⟩)] w fun e w' => ∃ q,e=.returned (.iface 114 (.pointer (some ⟨q,0,none⟩)))∧FltAt w' [(81,(K:Int)),(82,z)] (.iface 114 (.pointer (some ⟨q,0,none⟩)))∧Same0 w w' := by
 have hFn:∀ k,Fence.wide.fn k:=fun _=>trivial
 obtain ⟨W1,hW1⟩:∃ W1,W1=(w.alloc (.cells #[.pointer (some ⟨b,0,none⟩)] 43)).alloc (.cells #[.nilIface] 46):=⟨_,rfl⟩
 have KW:Same0 w W1:=by rw [hW1];exact ((Kept.refl _ w).alloc _).alloc _
 have ez:W1.heap.size=w.heap.size+1+1:=by rw [hW1];simp
 have BK:Hid (∀ ww,Same0 W1 ww→ww.heap[w.heap.size]? = some (.cells #[.pointer (some ⟨b,0,none⟩)] 43 (0,0))∧ww.heap[w.heap.size+1]? = some (.cells #[.nilIface] 46 (0,0))):=fun ww hk=>by
  have k1:Same0 (w.alloc (.cells #[.pointer (some ⟨b,0,none⟩)] 43)) W1:=by rw [hW1];exact (Kept.refl _ _).alloc _
  exact ⟨hk.at0 (k1.at0 (heap_alloc_new w _)),hk.at0 (by rw [hW1];exact heap_al_al _ _ _)⟩
 have r0:W1.cell? ⟨w.heap.size,0,none⟩=some (.pointer (some ⟨b,0,none⟩)):=cellAt (BK.out W1 (Kept.refl _ _)).1 0
 have CS:=(callsIn_wide (n:=8)).2 (ssig_any (h.same KW))
 refine (callsIn_wide (n:=9)).1 ?_
 refine callsIn_of_wp_marks Tryz.func85 rfl trivial ?_ rfl
 simp only [Tryz.ntmps85,List.size_toArray,List.length_cons,List.length_nil,Nat.reduceAdd,Nat.reduceSub,Array.replicate_succ,Array.replicate_zero,List.push_toArray,List.append_toArray,List.nil_append,List.cons_append]
 gi_upto_region 1 with fail
 rw [← hW1]
 clear hW1
 gi_wp2_with (first
  | (gi_at_call 47;refine CS.mono ?_;rintro e w1 ⟨bt,rfl,hbt,sv,mr,hsig,hfoot,k1'⟩)
  | (gi_at_call 23;refine (all_in Fence.wide _ trivial rfl _ _).mono ?_;rintro e w' ⟨rfl,rfl⟩))
 have k1:Same0 W1 w1:=k1'
 have K1:Same0 w w1:=KW.trans' k1
 have hzw:=k1.size
 obtain ⟨W0,hW0⟩:∃ W0,W0=w1.alloc (.cells #[.pointer (some ⟨bt,0,none⟩)] 41):=⟨_,rfl⟩
 have K0:Same0 w1 W0:=by rw [hW0];exact (Kept.refl _ _).alloc _
 have z0:W0.heap.size=w1.heap.size+1:=by rw [hW0];simp
 have b2:W0.cell? ⟨w1.heap.size,0,none⟩=some (.pointer (some ⟨bt,0,none⟩)):=by rw [hW0];exact cellAt (heap_alloc_new w1 _) 0
 rw [← hW0]
 clear hW0
 have ST:Hid (∀ X,Same0 w1 X→StAt X b bs L R lv vs∧X.cell? ⟨w.heap.size,0,none⟩=some (.pointer (some ⟨b,0,none⟩))):=fun X hk=>⟨h.same (K1.trans' hk),cellAt (BK.out X (k1.trans' hk)).1 0⟩
 refine wp_handsX rfl (by omega) (gf:=51) (lb:=#[.pointer (some ⟨w1.heap.size,0,none⟩)]) rfl trivial (enters_of Tryz.func51 (by kernel_rfl) rfl) (B:=w1.heap.size) (by omega) (hands_symsX hsig K0 b2 (by omega)) (fun k vs W h=>by obtain ⟨_,rfl⟩:=h;rfl)
  (fun k W=>k≤K∧Same0 w1 W) (fun k X Y h hk=>⟨h.1,h.2.trans' hk⟩) (fun k X l o o' h hl ho hw=>⟨h.1,Kept.trans h.2 (kept_put (l:=l) (o' := o')) (fun i hi e=>by have e' : i=l:=e;omega)⟩) ⟨Nat.zero_le _,K0⟩ (ZFk w K z) (fun X Y h hk=>by
   obtain ⟨q,h1,h2,h3⟩:=h
   exact ⟨q,hk.at0 h1,FltAt.same hk h2,h3.trans' hk⟩) (fun X l o o' h hl ho hw=>by
   obtain ⟨q,h1,h2,h3⟩:=h
   have kk:Kept (fun k=>k=l) X (X.putObj l o'):=kept_put
   exact ⟨q,putObj_at hl ho h1 rfl,FltAt.keptC kk (fun b e cs T hb=>by have e' : b=l:=e;subst e'; rw [hl] at hb;cases hb;cases ho) h2,Kept.trans h3 kk (fun i hi e=>by have e' : i=l:=e;omega)⟩) ?round ?done ?stop
 case done=>
  rintro D W hD ⟨hj,_⟩ hD2
  omega
 case stop=>
  rintro D W hD ⟨q,h1,h2,h3⟩ hD2
  have ks:Kept (fun q=>q=D) W (W.putObj D (.deferred none)):=kept_put
  have gZ:=(World.putObj_heap_other (w:=W) (r:=D) (o:=.deferred none) (k:=w.heap.size+1) (by omega)).trans h1
  have v0:=cellAt gZ 0
  simp only [List.getElem?_toArray,List.getElem?_cons_zero] at v0
  have hf2:FltAt (W.putObj D (.deferred none)) [(81,(K:Int)),(82,z)] (.iface 114 (.pointer (some ⟨q,0,none⟩))):=FltAt.keptC ks (fun b e cs T hb=>by have e' : b=D:=e;subst e'; rw [hD2] at hb;cases hb) h2
  have KF:Same0 w (W.putObj D (.deferred none)):=Kept.trans h3 ks (fun i hi e=>by have e' : i=D:=e;omega)
  gi_wp2_with fail
  refine ⟨by simp,.inl ⟨_,_,rfl,run_takeDeferred hD2,?_⟩⟩
  exact ⟨.iface 114 (.pointer (some ⟨q,0,none⟩)),by simp [results,Tryz.results85,go_sem,v0],q,rfl,hf2,KF⟩
 case round=>
  rintro l k vs W hk hl hlW ⟨hkK,hj⟩ ⟨hk', rfl⟩
  have rb:=(ST.out W hj).2
  gi_wp2_with fail
  refine ⟨Rnd.same (Kept.refl _ _) (by have:=hj.size;omega),fun o o' ho hoc hoc' => ?_⟩
  obtain ⟨Wb,hWb⟩:∃ Wb,Wb=W.putObj l o' := ⟨_,rfl⟩
  have kb:Kept (fun q=>q=l) W Wb:=by rw [hWb];exact kept_put
  have hjb:Same0 w1 Wb:=Kept.trans hj kb (fun i hi e=>by have e' : i=l:=e;omega)
  rw [← hWb]
  clear hWb ho
  obtain ⟨hstb,rbb⟩:=ST.out Wb hjb
  have hzb:=hjb.size
  by_cases ekK:k=K
  ·subst ekK
   have CB:Calls Tryz.prog 52 #[.pointer (some ⟨b,0,none⟩),.int .i64 (k:Int)] Wb fun e w' => ∃ q,e=.returned (.tuple #[zeroC,.iface 114 (.pointer (some ⟨q,0,none⟩))])∧Hid (FltAt w' [(81,(k:Int)),(82,z)] (.iface 114 (.pointer (some ⟨q,0,none⟩))))∧Same0 Wb w' := by
    refine (build_any hstb (k:Int)).mono ?_
    rintro e w' ⟨hk9,h9⟩
    rw [if_pos hdK,Int.toNat_natCast,hz] at h9
    obtain ⟨v,rfl,hf⟩:=h9
    have hf2:=hf
    rcases hf2 with ⟨q,_⟩ | ⟨_,q,u,e1,_⟩
    ·omega
    ·subst e1;exact ⟨q,rfl,hf,hk9⟩
   have FINX:Hid (∀ w3 q,Same0 Wb w3→FltAt w3 [(81,(k:Int)),(82,z)] (.iface 114 (.pointer (some ⟨q,0,none⟩)))→(w3.cell? ⟨w.heap.size+1,0,none⟩=some .nilIface∧w3.frozen? ⟨w.heap.size+1,0,none⟩=false)∧KeepsFrom (w1.heap.size+1) Wb (w3.setCell ⟨w.heap.size+1,0,none⟩ (.iface 114 (.pointer (some ⟨q,0,none⟩))))∧ZFk w k z (w3.setCell ⟨w.heap.size+1,0,none⟩ (.iface 114 (.pointer (some ⟨q,0,none⟩))))):=fun w3 q hk3 hf=>by
    obtain ⟨_,a2⟩:=BK.out w3 ((k1.trans' hjb).trans' hk3)
    have k5:=kept_at w3 (w.heap.size+1) 0 (.iface 114 (.pointer (some ⟨q,0,none⟩)))
    have kk:=Kept.trans (hk3.mono (S' := fun q=>q=w.heap.size+1) (fun _ _ f=>f.elim)) k5 (fun _ _ e=>e)
    have n5:=setAt a2 0 (.iface 114 (.pointer (some ⟨q,0,none⟩)))
    have hf5:=FltAt.keptE k5 (c:=#[.nilIface]) a2 hf
    exact ⟨⟨cellAt a2 0,frozenAt a2 0⟩,⟨kk.size,fun i o hi ho _=>kk.at ho (fun e=>by have e' : i=w.heap.size+1:=e;omega)⟩,q,n5,hf5,Kept.trans ((K1.trans' hjb).trans' hk3) k5 (fun i hi e=>by have e' : i=w.heap.size+1:=e;omega)⟩
   have C2:Hid (∀ w3 ww q,FltAt w3 [(81,(k:Int)),(82,z)] (.iface 114 (.pointer (some ⟨q,0,none⟩)))→Same0 w3 ww→Calls Tryz.prog 27 #[.iface 114 (.pointer (some ⟨q,0,none⟩)),.iface 70 (.int .i64 81)] ww fun e w' => e=.returned (.bool true)∧w' = ww):=fun w3 ww q hf hk=>by
    have:=is_any (FltAt.same hk hf) (by simp) 81
    have e1:bears [(81,(k:Int)),(82,z)] 81=true:=by simp [bears]
    rw [e1] at this
    exact this
   clear hstb kb hj rb
   gi_wp2_with (first
    | (gi_at_call 52;refine (CallsIn.inRound l (callsIn_wide.2 CB)).mono ?_;rintro e w3 ⟨q,rfl,hf3,k3⟩;have C3:=C2.out w3 (w3.alloc zeroCs) q hf3.out ((Kept.refl _ _).alloc _);obtain ⟨⟨m1,m2⟩,m3,m4⟩:=FINX.out (w3.alloc zeroCs) q (Kept.alloc k3 _) (FltAt.same ((Kept.refl _ _).alloc _) hf3.out))
    | (gi_at_call 27;refine (CallsIn.inRound l (callsIn_wide.2 C3)).mono ?_;rintro e w4 ⟨rfl,rfl⟩))
  ·have CB:=fork_ok hstb (hall k (by omega))
   have hk1:k+1≤K:=by omega
   have FIN:Hid (∀ w3 o,Same0 Wb w3→Rnd (w1.heap.size+1) w1.heap.size Wb (w3.alloc o)∧Same0 w1 (w3.alloc o)):=fun w3 o hk3=>⟨Rnd.same (Kept.alloc hk3 _) hzb,hjb.trans' (Kept.alloc hk3 _)⟩
   clear hstb kb hj rb
   gi_wp2_with (first
    | (gi_at_call 52;refine (CallsIn.inRound l (callsIn_wide.2 CB)).mono ?_;rintro e w3 ⟨tk,tr,tpo,tpl,tpc,tko,tkl,tkc,ev,rfl,hev,k3⟩;have C2:=hev.out (w3.alloc (.cells #[.int .i64 tk,.int .i64 tr,.slice tpo tpl tpc,.slice tko tkl tkc] 63)) ((Kept.refl _ _).alloc _);obtain ⟨m3,m4⟩:=FIN.out w3 (.cells #[.int .i64 tk,.int .i64 tr,.slice tpo tpl tpc,.slice tko tkl tkc] 63) k3)
    | (gi_at_call 27;refine (CallsIn.inRound l (callsIn_wide.2 C2)).mono ?_;rintro e w4 ⟨rfl,rfl⟩))
end Go.Proofs.YtmjgnfkbnofjoaaGreatDoor
namespace Go.Proofs.YtmjgnfkbnofjoaaGreatDoor
set_option maxRecDepth 100000
set_option linter.unusedVariables false
open Go.RowKit
attribute [local go_sem ↓] Go.wp_at_zero Go.wp_at_succ
set_option maxHeartbeats 8000000 in
theorem radd_yes {w:World} {m:Nat} {ro:Option Addr} {rc:Nat} {L:List Sym} {R:List Ru} {lv:Value} {vs:List Value} (h:MO w m ro rc L R lv vs) {lo:Option Addr} {lc:Nat} {l:List Ru} (hl:RsAt w lo l) (hll:l.length≤140737488355328) (hln:lo=none→lc=0) (ha:Ans L R l []) (hok:∀ x∈l,checkE L x.1=0∧checkE L x.2=0) (hlen:R.length+l.length≤100)
  (hlk:∀ ww,Kept (fun q=>q=m∨lv.ownBlock=some q) w ww→RsAt ww lo l) :
  Calls Tryz.prog 54 #[.pointer (some ⟨m,0,none⟩),.slice lo l.length lc] w fun e w' => ∃ lv' vs', e=.returned (.slice none 0 0)∧MO w' m ro rc L (R++l) lv' vs' ∧ (∀ q,lv'.ownBlock=some q→lv.ownBlock=some q∨w.heap.size≤q)∧Kept (fun q=>q=m∨lv.ownBlock=some q) w w' := by
 obtain ⟨mo,mc,hlv,hm⟩:=h.read
 have CK:=rchk_any hm (lc:=lc) hl hll hln
 have c1:=cellAt h.blk 1
 have HH:Hid (∀ ww,Same0 w ww→MO ww m ro rc L R lv vs):=fun ww hk=>h.same hk
 clear hlv hm hl h
 go_enter Tryz.func54,Tryz.ntmps54
 go_wp2_with (first | (go_at_call 95;refine CK.mono ?_;rintro e w1 ⟨ws,v,rfl,hws,hwa,hk1⟩;obtain rfl:ws=[]:=hws.uniq ha;obtain ⟨wo,wc', rfl,_⟩:=hwa))
 have M1:=HH.out w1 hk1
 have K1:Kept (fun q=>q=m∨lv.ownBlock=some q) w w1:=Kept.mono hk1 (fun _ _ f=>f.elim)
 clear HH CK hk1 c1
 go_loopw [6] (fun i wr=>∃ (k:Nat) (lk:Value) (vk:List Value),k≤l.length∧i=.int .i64 (k:Int)∧Hid (MO wr m ro rc L (R++l.take k) lk vk)∧Hid (∀ q,lk.ownBlock=some q→lv.ownBlock=some q∨w.heap.size≤q)∧Kept (fun q=>q=m∨lv.ownBlock=some q) w wr) (fun i _=>l.length-(intOf i).toNat)
 case atStart=>exact ⟨0,lv,vs,Nat.zero_le _,rfl,by simpa [Hid] using M1,(fun q e=>.inl e),K1⟩
 case round=>
  clear M1 K1
  obtain ⟨k,lk,vk,hk,rfl,hM,hB,hw⟩:=hrel
  by_cases hlt:k<l.length
  ·obtain ⟨gb,goff,rfl,hgb,go1,gc1,go2,gc2,r0,r1,A1,A2⟩:=(hlk wr hw).get hlt
   have hxk:=hok _ (List.getElem_mem hlt)
   have hxl:=ok_len hxk
   obtain ⟨a1,rfl⟩:∃ a1,go1=some a1:=by
    cases go1 with
    | none=>have:=(A1.nil rfl).1;omega
    | some a=>exact ⟨a,rfl⟩
   obtain ⟨a2,rfl⟩:∃ a2,go2=some a2:=by
    cases go2 with
    | none=>have:=(A2.nil rfl).1;omega
    | some a=>exact ⟨a,rfl⟩
   have i1:(0:Int)≤(k:Int):=by omega
   have i2:(k:Int)<(l.length:Int):=by omega
   have hn:(R++l.take k).length=R.length+k:=by simp;omega
   have CELLS:Hid (∀ ww,Same0 wr ww→ww.cell? ⟨m,1,none⟩=some lk∧ww.cell? ⟨gb,goff+k * 2,none⟩=some (.slice (some a1) l[k].1.length gc1)∧ww.cell? ⟨gb,goff+k * 2+1,none⟩=some (.slice (some a2) l[k].2.length gc2)):=fun ww hk=>⟨cellAt (hk.at0 hM.out.blk) 1,(hk.cell (p:=⟨gb,goff+k * 2,none⟩) hgb (fun f=>f)).trans r0,(hk.cell (p:=⟨gb,goff+k * 2+1,none⟩) hgb (fun f=>f)).trans r1⟩
   have CO:Hid (∀ ww,Same0 wr ww→Calls Tryz.prog 96 #[.agg #[.slice (some a1) l[k].1.length gc1,.slice (some a2) l[k].2.length gc2]] ww fun e w' => ∃ g c g' c', e=.returned (.agg #[.slice (some ⟨g,0,none⟩) l[k].1.length c,.slice (some ⟨g', 0,none⟩) l[k].2.length c'])∧TmAt w' g c l[k].1∧TmAt w' g' c' l[k].2∧Same0 wr w'):=fun ww hk=>(rown_any (ac:=gc1) (bc:=gc2) (A1.same hk).at' (A2.same hk).at' hxl.1.1 hxl.2.1 hxl.1.2 hxl.2.2).mono (fun e w' ⟨g,c,g', c', q1,q2,q3,_,_,q4⟩=>⟨g,c,g', c', q1,q2,q3,hk.trans' q4⟩)
   have W1:Same0 wr wr.drew:=Kept.drew (Kept.refl _ _)
   have CC0:=CELLS.out wr (Kept.refl _ _)
   have HRW:Hid (∀ ww,Same0 wr ww→ww.ownsRow 0 90 2 lk (R.length+k) vk):=fun ww hk=>by rw [← hn];exact (hM.out.same hk).row
   have h48:(R.length+k+1) * 48≤140737488355328:=by omega
   have FIN:Hid (∀ w2 g c g' c' gg cap w9,Same0 wr w2→TmAt w2 g c l[k].1→TmAt w2 g' c' l[k].2→w9.ownsRow 0 90 2 (.slice (some ⟨gg,0,none⟩) (R.length+k+1) cap) (R.length+k+1) (vk ++ [.slice (some ⟨g,0,none⟩) l[k].1.length c,.slice (some ⟨g', 0,none⟩) l[k].2.length c'])→Kept (fun q=>lk.ownBlock=some q) w2 w9→(lk.ownBlock=some gg∨w2.heap.size≤gg)→(w9.cell? ⟨m,1,none⟩=some lk∧w9.frozen? ⟨m,1,none⟩=false)∧Hid (∃ (k' : Nat) (lk' : Value) (vk' : List Value),k' ≤ l.length∧Value.int .i64 ((k:Int)+1)=.int .i64 (k' : Int)∧lk' = .slice (some ⟨gg,0,none⟩) (R.length+k+1) cap∧Hid (MO (w9.setCell ⟨m,1,none⟩ (.slice (some ⟨gg,0,none⟩) (R.length+k+1) cap)) m ro rc L (R++l.take k') lk' vk')∧Hid (∀ q,lk'.ownBlock=some q→lv.ownBlock=some q∨w.heap.size≤q)∧Kept (fun q=>q=m∨lv.ownBlock=some q) w (w9.setCell ⟨m,1,none⟩ (.slice (some ⟨gg,0,none⟩) (R.length+k+1) cap)))):=by
    intro w2 g c g' c' gg cap w9 s2 t1 t2 r9 k9 hat
    have:=hM.out.more (gg:=gg) (cap:=cap) s2 t1 t2 hxk (by omega) (by rw [hn];exact r9) k9
    rw [hn] at this
    refine ⟨this.1,k+1,_,vk ++ [.slice (some ⟨g,0,none⟩) l[k].1.length c,.slice (some ⟨g', 0,none⟩) l[k].2.length c'],hlt,rfl,rfl,?_,?_,?_⟩
    ·show MO _ m ro rc L (R++l.take (k+1)) _ _
     rw [List.take_add_one,List.getElem?_eq_getElem hlt,← List.append_assoc];exact this.2
    ·intro q e
     simp only [Value.ownBlock,Option.some.injEq] at e
     subst e
     rcases hat with e | e
     ·exact hB.out _ e
     ·have:=hw.size;have:=s2.size;exact .inr (by omega)
    ·have sub:∀ q,q<w.heap.size→lk.ownBlock=some q→q=m∨lv.ownBlock=some q:=fun q hq e=>(hB.out q e).elim .inr (fun e=>absurd hq (by omega))
     exact Kept.setCell (p:=⟨m,1,none⟩) ((hw.trans (Kept.mono s2 (fun _ _ f=>f.elim)) (fun _ _ e=>e)).trans k9 (fun q hq e=>sub q hq e)) (fun _=>.inl rfl) _
   have hz0:0≤wr.heap.size:=Nat.zero_le _
   clear hM hB hw hn A1 A2 r0 r1 hxk hxl hlk
   go_wp2_with fail
   obtain ⟨x1,x2,x3⟩:=CC0
   go_region_law (first
    | (refine step_callx rfl (CO.out _ W1) (by simp [go_sem]) ?_;rintro e w2 ⟨g,c,g', c', rfl,t1,t2,hk2⟩;refine ⟨_,rfl,?_⟩;obtain ⟨cc1,cc2,cc3⟩:=CELLS.out _ hk2;obtain ⟨cd1,_,_⟩:=CELLS.out _ (hk2.alloc (.cells #[.slice (some ⟨g,0,none⟩) l[k].1.length c,.slice (some ⟨g', 0,none⟩) l[k].2.length c'] 90)))
    | (refine step_rule8 (w0:=w2) (by rfl) _ _ (by rfl) 0 (R.length+k) vk lk (by rfl) (by first | exact (Kept.refl _ w2).alloc _ | exact (Kept.refl _ w2).drew.alloc _ | exact ((Kept.refl _ w2).alloc _).drew) (HRW.out _ hk2) (.slice (some ⟨g,0,none⟩) l[k].1.length c) (.slice (some ⟨g', 0,none⟩) l[k].2.length c') w2.heap.size (by rfl) (heap_alloc_new w2 _) (by rfl) (by rfl) (Nat.zero_le _) h48 ?_;intro gg cap w9 r9 k9 hat;obtain ⟨⟨y1,y2⟩,FF⟩:=FIN.out w2 g c g' c' gg cap w9 hk2 t1 t2 r9 k9 hat))
   all_goals
    go_wp2_with fail
    obtain ⟨k', lk', vk', z1,z2,rfl,z3,z4,z5⟩:=FF.out
    exact ⟨⟨k', _,vk', z1,z2,z3,z4,z5⟩,by simp [intOf];omega⟩
  ·obtain rfl:k=l.length:=by omega
   have HM:Hid (MO wr m ro rc L (R++l) lk vk):=by have:=hM.out;rw [List.take_length] at this;exact this
   clear hM
   go_wp2
   go_ret
   exact ⟨lk,vk,rfl,HM.out,hB.out,hw⟩
set_option maxHeartbeats 4000000 in
theorem radd7_no {w:World} {m:Nat} {ro:Option Addr} {rc:Nat} {L:List Sym} {R:List Ru} {lv:Value} {vs:List Value} (h:MO w m ro rc L R lv vs) {lo:Option Addr} {lc:Nat} {l:List Ru} (hl:RsAt w lo l) (hll:l.length≤140737488355328) (hln:lo=none→lc=0) {ws:List (Int × Int)} (ha:Ans L R l ws) (hne:ws≠[]) :
  Calls Tryz.prog 54 #[.pointer (some ⟨m,0,none⟩),.slice lo l.length lc] w fun e w' => ∃ v,e=.returned v∧WrsAt w' v ws∧Same0 w w' := by
 obtain ⟨mo,mc,hlv,hm⟩:=h.read
 have CK:=rchk_any hm (lc:=lc) hl hll hln
 have hp:(0:Int)<(ws.length:Int):=by have:=List.length_pos_iff.2 hne;omega
 have HW:Hid (∀ w1 v,WrsAt w1 v ws→∃ wo wc,v=.slice wo ws.length wc∧Hid (WrsAt w1 v ws)):=fun w1 v hv=>by
  obtain ⟨wo,wc,e,_⟩:=id hv
  exact ⟨wo,wc,e,hv⟩
 clear hlv hm hl h
 go_enter Tryz.func54,Tryz.ntmps54
 go_wp2_with (first | (go_at_call 95;refine CK.mono ?_;rintro e w1 ⟨ws', v,rfl,hws,hwa,hk1⟩;obtain rfl:ws' = ws:=hws.uniq ha;obtain ⟨wo,wc', rfl,hwh⟩:=HW.out _ _ hwa;clear hwa))
 go_ret
 exact ⟨_,rfl,hwh.out,hk1⟩
end Go.Proofs.YtmjgnfkbnofjoaaGreatDoor
namespace Go.Proofs.YtmjgnfkbnofjoaaGreatDoor
set_option maxRecDepth 100000
set_option linter.unusedVariables false
open Go.RowKit Go.Deep
attribute [local go_sem ↓] Go.wp_at_zero Go.wp_at_succ
section
variable {H : Type} {enc : TypeId × Value → H} {w : World} {spare : Nat → Bool} {held : Bool}
theorem rules_nil {fuel:Nat} {ao:Option Addr} {len cap:Nat} {x:DataW H × List MemPlace} (h:DataW.trod enc Tryz.prog w 0 spare held fuel 29 [.slice ao len cap]=some x) (hw:∀ n∈x.1.weights Tryz.prog 29,n≤reachBytes):ao=none→cap=0:=by
 rcases open_elems7 Tryz.underlying29 cells_rule (by omega) h hw with ⟨_,_,e⟩ | ⟨a,e,_⟩
 ·exact fun _=>e
 ·intro q;rw [e] at q;cases q
end
end Go.Proofs.YtmjgnfkbnofjoaaGreatDoor
namespace Go.Proofs.YtmjgnfkbnofjoaaGreatDoor
set_option maxRecDepth 100000
set_option linter.unusedVariables false
open Go.RowKit
attribute [local go_sem ↓] Go.wp_at_zero Go.wp_at_succ
structure Twin (w0 w:World) (L:List Sym) (R:List Ru) (bs b m:Nat) (ro:Option Addr) (rc:Nat) (lv:Value) (vs:List Value) (mv:Value) (ms:List Value):Prop where
 st:StAt w b bs L R lv vs
 mo:MO w m ro rc L R mv ms
 good:GoodR L R
 b0:w0.heap.size≤b
 m0:w0.heap.size≤m
 l0:∀ q,lv.ownBlock=some q→w0.heap.size≤q
 v0:∀ q,mv.ownBlock=some q→w0.heap.size≤q
 apart:∀ q,lv.ownBlock=some q→mv.ownBlock≠some q
 same:Same0 w0 w
def SyG (w:World) (sp:Option Addr) (L:List Sym) (R:List Ru):Prop:=
 (sp=none∧L=[]∧R=[])∨∃ p bs lv vs,sp=some ⟨p,0,none⟩∧StAt w p bs L R lv vs
theorem SyG.same {w w' : World} {sp:Option Addr} {L:List Sym} {R:List Ru} (h:SyG w sp L R) (hk:Same0 w w'):SyG w' sp L R:=
 h.imp id (fun ⟨p,bs,lv,vs,e,hs⟩=>⟨p,bs,lv,vs,e,hs.same hk⟩)
def FarY (w:World) (q:Nat):Prop:=(∃ c,w.heap[q]? = some (.cells c 92 (0,0)))∨(∃ c,w.heap[q]? = some (.cells c 94 (0,0)))∨(∃ c,w.heap[q]? = some (.cells c 31 (0,0)))∨(∃ c,w.heap[q]? = some (.cells c 131 (0,0)))∨∃ c,w.heap[q]? = some (.cells c 126 (0,0))
theorem FarY.no {w:World} {q:Nat} (h:FarY w q):(∀ cur,w.heap[q]? ≠ some (.cells cur 3 (0,0)))∧(∀ cur,w.heap[q]? ≠ some (.cells cur 60 (0,0)))∧(∀ cur,w.heap[q]? ≠ some (.cells cur 90 (0,0)))∧(∀ cur,w.heap[q]? ≠ some (.cells cur 113 (0,0)))∧(∀ cur,w.heap[q]? ≠ some (.cells cur 116 (0,0)))∧(∀ cur,w.heap[q]? ≠ some (.cells cur 111 (0,0))):=by
 refine ⟨fun cur e=>?_,fun cur e=>?_,fun cur e=>?_,fun cur e=>?_,fun cur e=>?_,fun cur e=>?_⟩ <;> rcases h with ⟨c,h⟩ | ⟨c,h⟩ | ⟨c,h⟩ | ⟨c,h⟩ | ⟨c,h⟩ <;> (rw [h] at e;cases e)
theorem FarY.no_sig {w:World} {k b:Nat} {L:List Sym} {sv:Value} {mr:Option Nat} (h:FarY w k) (hs:SigAt w b L sv mr):¬ Foot b sv mr k:=by
 rintro (e | e | e)
 ·subst e
  exact h.no.2.2.2.2.2 _ hs.blk
 ·obtain ⟨c', this⟩:=own_blk hs.row e
  exact h.no.2.1 c' this
 ·subst e
  obtain ⟨n,D,hm,_⟩:=hs.map
  obtain ⟨es,clock,this,_⟩:=hm
  rcases h with ⟨c,h⟩ | ⟨c,h⟩ | ⟨c,h⟩ | ⟨c,h⟩ | ⟨c,h⟩ <;> (rw [h] at this;cases this)
theorem Sg.keptY {n b:Nat} {w w' : World} {L:List Sym} {S:Nat→Prop} (h:Sg n w b L) (hk:Kept S w w') (hS:∀ k,S k→FarY w k):Sg n w' b L:=by
 obtain ⟨⟨sv,mr,h1,h2⟩,h3⟩:=h
 exact ⟨⟨sv,mr,h1.kept hk (fun k e s=>(hS k s).no_sig h1 e),h2⟩,h3⟩
theorem StAt.keptY {w w' : World} {b bs:Nat} {L:List Sym} {R:List Ru} {lv:Value} {vs:List Value} {S:Nat→Prop} (h:StAt w b bs L R lv vs) (hk:Kept S w w') (hS:∀ k,S k→FarY w k):StAt w' b bs L R lv vs:=
 ⟨hk.at h.blk (fun s=>(hS b s).no.2.2.2.1 _ h.blk),sg_up (h.sig.keptY hk hS) hk.size,hk.row h.row (fun q e s=>by obtain ⟨c,hc⟩:=own_blk h.row e;exact (hS q s).no.2.2.1 c hc),h.own.kept hk (fun k s=>(hS k s).no.1),h.le,h.ok⟩
theorem SyG.keptY {w w' : World} {sp:Option Addr} {L:List Sym} {R:List Ru} {S:Nat→Prop} (h:SyG w sp L R) (hk:Kept S w w') (hS:∀ k,S k→FarY w k):SyG w' sp L R:=
 h.imp id (fun ⟨p,bs,lv,vs,e,hs⟩=>⟨p,bs,lv,vs,e,hs.keptY hk hS⟩)
theorem sy_nil (w:World):(binOp .eql 43 (.pointer none) (.pointer none)).run Tryz.prog w=.ok (.bool true) w:=by kernel_rfl
theorem sy_some (b:Nat) (w:World):(binOp .eql 43 (.pointer (some ⟨b,0,none⟩)) (.pointer none)).run Tryz.prog w=.ok (.bool false) w:=by kernel_rfl
theorem ars_nil:Ars []:=fun x hx=>by simp at hx
set_option maxHeartbeats 1000000 in
theorem laid_any10 {w:World} {sp:Option Addr} {L:List Sym} {R:List Ru} (h:SyG w sp L R) :
  Calls Tryz.prog 41 #[.agg #[.pointer sp]] w fun e w' => ∃ p bs lv vs,e=.returned (.pointer (some ⟨p,0,none⟩))∧StAt w' p bs L R lv vs∧Same0 w w' := by
 have hn1:=sy_nil
 have hn2:=sy_some
 rcases h with ⟨rfl,rfl,rfl⟩ | ⟨p,bs,lv,vs,rfl,hs⟩
 ·obtain ⟨W1,hW1⟩:∃ W1,W1=w.alloc (.cells #[.pointer none] 92):=⟨_,rfl⟩
  have KW:Same0 w W1:=by rw [hW1];exact (Kept.refl _ w).alloc _
  have h0:W1.cell? ⟨w.heap.size,0,none⟩=some (.pointer none):=by rw [hW1];exact cellAt (heap_alloc_new w _) 0
  have C1:=new_any W1
  obtain ⟨W2,hW2⟩:∃ W2,W2=W1.alloc (.cells #[.slice none 0 0,.map none] 111):=⟨_,rfl⟩
  have K2:Same0 W1 W2:=by rw [hW2];exact (Kept.refl _ _).alloc _
  have hsa:SigAt W2 W1.heap.size [] (.slice none 0 0) none:=by rw [hW2];exact sig_new W1
  have C2:=snew_any (w:=W2) (bs:=W1.heap.size) (L:=[]) ⟨⟨_,none,hsa,fun k hk=>sig_foot_lt hsa k hk⟩,ars_nil⟩
  rw [← hW2] at C1
  clear hsa hW2
  generalize W1.heap.size=bq at *
  go_enter Tryz.func41,Tryz.ntmps41
  go_upto_region 1 with fail
  rw [← hW1]
  clear hW1
  go_wp2_with (first | (go_at_call 73;refine C1.mono ?_;rintro e w1 ⟨rfl,rfl⟩) | (go_at_call 72;refine C2.mono ?_;rintro e w2 ⟨rfl,hst,k2⟩))
  go_ret
  exact ⟨_,_,_,_,rfl,hst,(KW.trans' K2).trans' k2⟩
 ·have ka:Same0 w (w.alloc (.cells #[.pointer (some ⟨p,0,none⟩)] 92)):=(Kept.refl _ w).alloc _
  have HS:Hid (StAt (w.alloc (.cells #[.pointer (some ⟨p,0,none⟩)] 92)) p bs L R lv vs):=hs.same ka
  clear hs
  go_enter Tryz.func41,Tryz.ntmps41
  go_wp2
  go_ret
  exact ⟨_,_,_,_,rfl,HS.out,ka⟩
set_option maxHeartbeats 4000000 in
theorem wrapped_any {w:World} (hE:ErrT w) {code c p:Int} {r:List (Int × Int)} {v:Value} (hv:FltAt w ((c,p) :: r) v) (hp:p ≠ -1) :
  Calls Tryz.prog 84 #[.int .i64 code,v] w fun e w' => ∃ q,e=.returned (.iface 114 (.pointer (some ⟨q,0,none⟩)))∧FltAt w' ((code,p) :: (c,p) :: r) (.iface 114 (.pointer (some ⟨q,0,none⟩)))∧Same0 w w' := by
 rcases hv with ⟨e,_⟩ | ⟨h0,b,u,rfl,h2,h3⟩
 ·exact absurd e hp
 ·obtain ⟨W1,hW1⟩:∃ W1,W1=(w.alloc (.cells #[.int .i64 code,.int .i64 0,.iface 114 (.pointer (some ⟨b,0,none⟩))] 116)).alloc (.cells #[.pointer none] 114):=⟨_,rfl⟩
  have KW:Same0 w W1:=by rw [hW1];exact ((Kept.refl _ w).alloc _).alloc _
  have b0:W1.heap[w.heap.size]? = some (.cells #[.int .i64 code,.int .i64 0,.iface 114 (.pointer (some ⟨b,0,none⟩))] 116 (0,0)):=by rw [hW1];exact heap_alloc2_old _ _ _
  have b1:W1.heap[w.heap.size+1]? = some (.cells #[.pointer none] 114 (0,0)):=by rw [hW1];exact heap_al_al _ _ _
  have CA:=as_hit ⟨b,0,none⟩ (hE.same KW) b1
  have hbw:=lt_of_at h2
  have AFT:Hid (∀ w2,w2.heap[w.heap.size+1]? = some (.cells #[.pointer (some ⟨b,0,none⟩)] 114 (0,0))→Kept (fun k=>k=w.heap.size+1) W1 w2→(w2.cell? ⟨w.heap.size+1,0,none⟩=some (.pointer (some ⟨b,0,none⟩))∧w2.cell? ⟨b,1,none⟩=some (.int .i64 p)∧w2.cell? ⟨w.heap.size,1,none⟩=some (.int .i64 0)∧w2.frozen? ⟨w.heap.size,1,none⟩=false)∧FltAt (w2.setCell ⟨w.heap.size,1,none⟩ (.int .i64 p)) ((code,p) :: (c,p) :: r) (.iface 114 (.pointer (some ⟨w.heap.size,0,none⟩)))∧Same0 w (w2.setCell ⟨w.heap.size,1,none⟩ (.int .i64 p))):=fun w2 g1 g2=>by
   have d0:=g2.at b0 (fun e=>by have e' : w.heap.size=w.heap.size+1:=e;omega)
   have d1:=g2.at (KW.at0 h2) (fun e=>by have e' : b=w.heap.size+1:=e;omega)
   have k3:=kept_at w2 w.heap.size 1 (.int .i64 p)
   have d2:=k3.at d1 (fun e=>by have e' : b=w.heap.size:=e;omega)
   have n0:=setAt d0 1 (.int .i64 p)
   have K2:Same0 w w2:=Kept.trans KW g2 (fun i hi e=>by have e' : i=w.heap.size+1:=e;omega)
   have K3:Same0 w (w2.setCell ⟨w.heap.size,1,none⟩ (.int .i64 p)):=Kept.trans K2 k3 (fun i hi e=>by have e' : i=w.heap.size:=e;omega)
   exact ⟨⟨cellAt g1 0,cellAt d1 1,cellAt d0 1,frozenAt d0 1⟩,.inr ⟨hp,w.heap.size,_,rfl,n0,.inr ⟨hp,b,u,rfl,d2,FltAt.same K3 h3⟩⟩,K3⟩
  clear b0 b1 h2 h3 hbw hE
  go_enter Tryz.func84,Tryz.ntmps84
  go_upto_region 3 with fail
  rw [← hW1]
  clear hW1
  go_upto_region 4 with (first | (go_at_call 103;refine CA.mono ?_;rintro e w2 ⟨rfl,g1,g2⟩))
  obtain ⟨⟨y0,y1,y2,y3⟩,HF⟩:=AFT.out w2 g1 g2
  have HF2:Hid (_∧_):=HF
  clear HF g1 g2 CA
  go_wp2
  go_ret
  exact ⟨_,rfl,HF2.out.1,HF2.out.2⟩
theorem ynew_any (w:World):Calls Tryz.prog 8 #[] w fun e w' => e=.returned (.pointer (some ⟨w.heap.size,0,none⟩))∧w' = w.alloc (.cells #[.pointer none,.int .i64 0] 94):=by
 go_enter Tryz.func8,Tryz.ntmps8
 go_wp2
 go_ret
 exact ⟨rfl,rfl⟩
def ForkAt (L:List Sym) (R:List Ru) (K:Nat) (z:Int):Prop:=K<L.length∧defB L (K:Int)=true∧treeF L R K=.error z∧NoFork L R K
theorem fork_cases (L:List Sym) (R:List Ru):NoFork L R L.length∨∃ K z,ForkAt L R K z:=by
 have key:∀ n,n≤L.length→NoFork L R n∨∃ K z,ForkAt L R K z:=by
  intro n
  induction n with
  | zero=>exact fun _=>.inl (fun k hk=>by omega)
  | succ n ih=>
   intro hn
   rcases ih (by omega) with h | h
   ·by_cases hd:defB L (n:Int)=true
    ·cases ht:treeF L R n with
     | ok t=>
      refine .inl (fun k hk hdk=>?_)
      by_cases e:k=n
      ·subst e;exact ⟨t,ht⟩
      ·exact h k (by omega) hdk
     | error z=>exact .inr ⟨n,z,by omega,hd,ht,h⟩
    ·refine .inl (fun k hk hdk=>?_)
     by_cases e:k=n
     ·subst e;exact absurd hdk hd
     ·exact h k (by omega) hdk
   ·exact .inr h
 exact key L.length (Nat.le_refl _)
def AnsY (L:List Sym) (R l:List Ru) (ws:List (Int × Int)):Prop:=
 (∃ c p r,Ans L R l ((c,p) :: r)∧p ≠ -1∧r.length≤1∧ws=(101,p) :: (c,p) :: r)∨(Ans L R l []∧∃ K z,ForkAt L (R++l) K z∧ws=[(102,(K:Int)),(81,(K:Int)),(82,z)])∨(Ans L R l []∧NoFork L (R++l) L.length∧ws=[])
theorem AnsY.uniq {L:List Sym} {R l:List Ru} {ws ws' : List (Int × Int)} (h:AnsY L R l ws) (h' : AnsY L R l ws'):ws=ws' := by
 have nf:∀ {R' : List Ru} {K:Nat} {z:Int},ForkAt L R' K z→¬ NoFork L R' L.length:=fun hf hn=>by
  obtain ⟨t,ht⟩:=hn _ hf.1 hf.2.1
  rw [hf.2.2.1] at ht;cases ht
 rcases h with ⟨c,p,r,a,_,_,e⟩ | ⟨a,K,z,f,e⟩ | ⟨a,f,e⟩ <;> rcases h' with ⟨c', p', r', a', _,_,e'⟩ | ⟨a', K', z', f', e'⟩ | ⟨a', f', e'⟩
 ·have:=a.uniq a'
  cases this
  rw [e,e']
 ·have:=a.uniq a'; cases this
 ·have:=a.uniq a'; cases this
 ·have:=a.uniq a'; cases this
 ·have hK:K=K' := by
   rcases Nat.lt_trichotomy K K' with q | q | q
   ·obtain ⟨t,ht⟩:=f'.2.2.2 K q f.2.1
    rw [f.2.2.1] at ht;cases ht
   ·exact q
   ·obtain ⟨t,ht⟩:=f.2.2.2 K' q f'.2.1
    rw [f'.2.2.1] at ht;cases ht
  subst hK
  have hz:z=z' := by
   have:=f.2.2.1.symm.trans f'.2.2.1
   cases this;rfl
  rw [e,e', hz]
 ·exact absurd f' (nf f)
 ·have:=a.uniq a'; cases this
 ·exact absurd f (nf f')
 ·rw [e,e']
theorem FltAt.keptN {w w' : World} {x:Nat} (hk:Kept (fun q=>q=x) w w') (hx:∀ c,w.heap[x]? ≠ some (.cells c 116 (0,0))):∀ {ws:List (Int × Int)} {v:Value},FltAt w ws v→FltAt w' ws v
 | [],_,h=>h
 | (c', p) :: r,v,h=>by
  rcases h with h | ⟨h0,b,u,h1,h2,h3⟩
  ·exact .inl h
  ·exact .inr ⟨h0,b,u,h1,hk.at h2 (fun e=>by have e' : b=x:=e;subst e'; exact hx _ h2),FltAt.keptN hk hx h3⟩
theorem yerr_ne (v:Value) (w:World):(binOp .neq 46 (.iface 114 v) .nilIface).run Tryz.prog w=.ok (.bool true) w:=by kernel_rfl
theorem yerr_nn (w:World):(binOp .neq 46 .nilIface .nilIface).run Tryz.prog w=.ok (.bool false) w:=by kernel_rfl
set_option maxHeartbeats 8000000 in
theorem withRules_any {w:World} (hE:ErrT w) {sp:Option Addr} {L:List Sym} {R:List Ru} (h:SyG w sp L R) {lo:Option Addr} {l:List Ru} {lc:Nat} (hl:RsAt w lo l) (hll:l.length≤140737488355328) (hlc:l.length≤lc) :
  Calls Tryz.prog 49 #[.agg #[.pointer sp],.slice lo l.length lc] w fun e w' => ∃ ws v sp', e=.returned (.tuple #[.agg #[.pointer sp'],v])∧AnsY L R l ws∧FltAt w' ws v∧Same0 w w' ∧ (ws=[]→v=.nilIface∧∃ p bs lv vs,sp' = some ⟨p,0,none⟩∧StAt w' p bs L (R++l) lv vs)∧(ws≠[]→∃ k,v=.iface 114 (.pointer (some ⟨k,0,none⟩))):=by
 have hn1:=yerr_ne
 have hn0:=yerr_nn
 obtain ⟨W1,hW1⟩:∃ W1,W1=(w.alloc (.cells #[.pointer sp] 92)).alloc (.cells #[.pointer none] 92):=⟨_,rfl⟩
 have KW:Same0 w W1:=by rw [hW1];exact ((Kept.refl _ w).alloc _).alloc _
 have b0:W1.heap[w.heap.size]? = some (.cells #[.pointer sp] 92 (0,0)):=by rw [hW1];exact heap_alloc2_old _ _ _
 have b1:W1.heap[w.heap.size+1]? = some (.cells #[.pointer none] 92 (0,0)):=by rw [hW1];exact heap_al_al _ _ _
 have g0:W1.cell? ⟨w.heap.size,0,none⟩=some (.pointer sp):=cellAt b0 0
 have HB:Hid (∀ ww,Same0 W1 ww→ww.cell? ⟨w.heap.size+1,0,none⟩=some (.pointer none)∧ww.frozen? ⟨w.heap.size+1,0,none⟩=false∧FarY ww (w.heap.size+1)∧∀ u,(ww.setCell ⟨w.heap.size+1,0,none⟩ u).cell? ⟨w.heap.size+1,0,none⟩=some u∧Same0 w (ww.setCell ⟨w.heap.size+1,0,none⟩ u)∧Kept (fun q=>q=w.heap.size+1) ww (ww.setCell ⟨w.heap.size+1,0,none⟩ u)):=fun ww hk=>by
  have h2:=hk.at0 b1
  refine ⟨cellAt h2 0,frozenAt h2 0,(.inl ⟨_,h2⟩),fun u=>?_⟩
  have k3:=kept_at ww (w.heap.size+1) 0 u
  exact ⟨cellAt (setAt h2 0 u) 0,Kept.trans (KW.trans' hk) k3 (fun i hi e=>by have e' : i=w.heap.size+1:=e;omega),k3⟩
 have C1:=laid_any10 (h.same KW)
 have C2:Hid (∀ ww p bs lv vs,StAt ww p bs L R lv vs→Calls Tryz.prog 42 #[.pointer (some ⟨p,0,none⟩)] ww fun e w' => ∃ b' bs' lv' vs', e=.returned (.pointer (some ⟨b', 0,none⟩))∧Hid (StAt w' b' bs' L R lv' vs' ∧ ww.heap.size≤b' ∧ (∀ q,lv'.ownBlock=some q→ww.heap.size≤q))∧Same0 ww w'):=fun ww p bs lv vs hs=>(scopy_any hs).mono (fun e w' ⟨b', bs', lv', vs', e1,a,a2,a3,a4,a5⟩=>⟨b', bs', lv', vs', e1,⟨a,a2,a4⟩,a5⟩)
 have HL:Hid (∀ ww,Same0 W1 ww→RsAt ww lo l):=fun ww hk=>hl.same (KW.trans' hk)
 have HET:Hid (∀ ww,Same0 W1 ww→ErrT ww):=fun ww hk=>hE.same (KW.trans' hk)
 have HZ:Hid (w.heap.size+1<W1.heap.size):=lt_of_at b1
 clear h hE hl b0 b1
 go_enter Tryz.func49,Tryz.ntmps49
 go_upto_region 1 with fail
 rw [← hW1]
 clear hW1
 go_upto_region 2 with (first
  | (go_at_call 41;refine C1.mono ?_;rintro e w2 ⟨p,bs,lv,vs,rfl,hst,k2⟩;have C3:=C2.out w2 p bs lv vs hst)
  | (go_at_call 42;refine C3.mono ?_;rintro e w3 ⟨b', bs', lv', vs', rfl,h3,k3⟩))
 have K3:Same0 W1 w3:=k2.trans' k3
 have z23:=k2.size
 have CA:Calls Tryz.prog 46 #[.pointer (some ⟨b', 0,none⟩),.slice lo l.length lc] w3 fun e w' => ∃ ws v,e=.returned v∧Hid (Ans L R l ws∧FltAt w' ws v∧ws.length≤2∧(ws=[]→∃ lv2 vs2,StAt w' b' bs' L (R++l) lv2 vs2))∧Same0 W1 w' := by
  refine (add_rules (lc:=lc) h3.out.1 (HL.out w3 K3) hll hlc).mono ?_
  rintro e w' ⟨ws,v,e1,a1,a2,a3,a4,a5⟩
  by_cases hws:ws=[]
  ·obtain ⟨lv2,vs2,q1,q2,q3⟩:=a5 hws
   refine ⟨ws,v,e1,⟨a1,a2,a3,fun _=>⟨lv2,vs2,q1⟩⟩,Kept.trans K3 q2 (fun i hi e=>?_)⟩
   have:=h3.out.2.1
   rcases e with e | e
   ·omega
   ·have:=h3.out.2.2 i e;omega
  ·exact ⟨ws,v,e1,⟨a1,a2,a3,fun e=>absurd e hws⟩,K3.trans' (a4 hws)⟩
 clear C1 C2 C3 g0 h3 HL z23
 go_upto_region 3 with (first | (go_at_call 46;refine CA.mono ?_;rintro e w4 ⟨ws,v,rfl,h4,K4⟩))
 obtain ⟨a1,a2,a3,a4⟩:=h4.out
 clear CA h4
 rcases a1.flt a2 with ⟨hws,rfl⟩ | ⟨hws,k,rfl⟩
 ·obtain ⟨lv2,vs2,hst2⟩:=a4 hws
  rw [hws] at a1
  have HA:Hid (Ans L R l []):=a1
  clear a1 a2 a3 a4 hws
  rcases fork_cases L (R++l) with hno | ⟨K,z,hf⟩
  ·have C5:=forked_ok hst2 hno
   have HST:Hid (∀ ww,Same0 w4 ww→StAt ww b' bs' L (R++l) lv2 vs2):=fun ww hk=>hst2.same hk
   have HN:Hid (NoFork L (R++l) L.length):=hno
   clear hst2 hno
   go_upto_region 6 with (first | (go_at_call 85;refine C5.mono ?_;rintro e w5 ⟨rfl,k5⟩))
   obtain ⟨y0,y1,y3,y2⟩:=HB.out w5 (K4.trans' k5)
   obtain ⟨q0,q1,q2⟩:=y2 (.pointer (some ⟨b', 0,none⟩))
   have hz:=HZ.out
   have hsz4:=K4.size
   have FIN:Hid (StAt (w5.setCell ⟨w.heap.size+1,0,none⟩ (.pointer (some ⟨b', 0,none⟩))) b' bs' L (R++l) lv2 vs2):=(HST.out w5 k5).keptY q2 (fun i e=>by have e' : i=w.heap.size+1:=e;rw [e'];exact y3)
   have HQ:Hid (_∧_):=⟨q0,q1⟩
   clear q0 q1 q2 y2 y3 hz hsz4 C5
   go_wp2
   exact bodyPost_ret (v:=.tuple #[.agg #[.pointer (some ⟨b', 0,none⟩)],.nilIface]) (by simp [results,Tryz.results49,go_sem,HQ.out.1]) rfl ⟨[],.nilIface,_,rfl,.inr (.inr ⟨HA.out,HN.out,rfl⟩),rfl,HQ.out.2,fun _=>⟨rfl,b', bs', lv2,vs2,rfl,FIN.out⟩,fun e=>absurd rfl e⟩
  ·have C5:=forked_err hst2 hf.1 hf.2.1 hf.2.2.1 hf.2.2.2
   have HF:Hid (ForkAt L (R++l) K z):=hf
   clear hst2 hf
   go_upto_region 6 with (first | (go_at_call 85;refine C5.mono ?_;rintro e w5 ⟨q,rfl,hfl,k5⟩))
   have C6:=wrapped_any (code:=102) (HET.out w5 (K4.trans' k5)) hfl (by omega)
   clear C5 hfl
   go_upto_region 7 with fail
   go_wp2_with (first | (go_at_call 84;refine C6.mono ?_;rintro e w6 ⟨q', rfl,hf6,k6⟩;obtain ⟨y0,y1,y3,y2⟩:=HB.out w6 ((K4.trans' k5).trans' k6);obtain ⟨q0,q1,q2⟩:=y2 (.pointer none);have HQ:Hid (_∧_∧FltAt _ _ _):=⟨q0,q1,FltAt.keptN q2 y3.no.2.2.2.2.1 hf6⟩;clear q0 q1 q2 y2 y3 hf6))
   exact bodyPost_ret (v:=.tuple #[.agg #[.pointer none],.iface 114 (.pointer (some ⟨q', 0,none⟩))]) (by simp [results,Tryz.results49,go_sem,HQ.out.1]) rfl ⟨_,_,none,rfl,.inr (.inl ⟨HA.out,K,z,HF.out,rfl⟩),HQ.out.2.2,HQ.out.2.1,(fun e=>by cases e),fun _=>⟨q', rfl⟩⟩
 ·obtain ⟨c,p,r,rfl⟩:∃ c p r,ws=(c,p) :: r:=by
   cases ws with
   | nil=>exact absurd rfl hws
   | cons x r=>exact ⟨x.1,x.2,r,rfl⟩
  have hp:p ≠ -1:=by
   rcases a2 with ⟨_,_,q⟩ | ⟨q,_⟩
   ·cases q
   ·exact q
  have C6:=wrapped_any (code:=101) (HET.out w4 K4) a2 hp
  have HA:Hid (Ans L R l ((c,p) :: r)∧p ≠ -1∧r.length≤1):=⟨a1,hp,by simp at a3;omega⟩
  clear a1 a2 a3 a4 hws hp
  go_wp2_with (first | (go_at_call 84;refine C6.mono ?_;rintro e w6 ⟨q', rfl,hf6,k6⟩;obtain ⟨y0,y1,y3,y2⟩:=HB.out w6 (K4.trans' k6);obtain ⟨q0,q1,q2⟩:=y2 (.pointer none);have HQ:Hid (_∧_∧FltAt _ _ _):=⟨q0,q1,FltAt.keptN q2 y3.no.2.2.2.2.1 hf6⟩;clear q0 q1 q2 y2 y3 hf6))
  exact bodyPost_ret (v:=.tuple #[.agg #[.pointer none],.iface 114 (.pointer (some ⟨q', 0,none⟩))]) (by simp [results,Tryz.results49,go_sem,HQ.out.1]) rfl ⟨_,_,none,rfl,.inl ⟨c,p,r,HA.out.1,HA.out.2.1,HA.out.2.2,rfl⟩,HQ.out.2.2,HQ.out.2.1,(fun e=>by cases e),fun _=>⟨q', rfl⟩⟩
end Go.Proofs.YtmjgnfkbnofjoaaGreatDoor
namespace Go.Proofs.YtmjgnfkbnofjoaaGreatDoor
set_option maxRecDepth 100000
set_option linter.unusedVariables false
open Go.RowKit
theorem step_onto {wb W:World} {ops:Array Oper} {o:Oper} {a:Act} {K:Act→World→Prop} {Q:Exit→Act→World→Prop} {E:Prop} (hgd:o.guard=none) (s x:Operand) (t e:TypeId)
  (ho:o.op=.call { callee:=.builtin .append,args:=#[s,x],argTypes:=#[t,t] })
  (i:TypeInfo) (z:Value) (size bytes:Nat) (ht:Tryz.prog.underlying t=some (.slice e)) (hi:Tryz.prog.info? e=some i) (hz0:i.zero=some z) (hz1:i.size=size) (hz2:i.bytes=bytes) (hz3:z.cells.size=size) (hz4:0<size)
  (B:Nat) (hs:a.eval s=.slice (some ⟨B,0,none⟩) 0 0) (n:Nat) (news:List Value) (v:Value) (hx:a.eval x=v) (hrow:wb.ownsRow 0 e size v n news) (hW:Same0 wb W) (hB:W.heap[B]? = some (.cells #[] e (0,0))) (hb:wb.heap.size≤B) (hn:n≤1000) (hby:n * bytes≤140737488355328) (h1:∀ u∈news,u.oneCell' = true)
  (h:∀ v' w', w'.ownsRow wb.heap.size e size v' n news→Same0 wb w' → (∀ q o,q≠B→W.heap[q]? = some o→w'.heap[q]? = some o)→K (a.put o.dst v') w') :
  if Region.wanted o (yielded ops a.tmps)=true then Oper.wp Tryz.prog o a W K Q else E:=by
 have hw:Region.wanted o (yielded ops a.tmps)=true:=by simp [Region.wanted,hgd]
 have hE:W.ownsRow wb.heap.size e size (.slice (some ⟨B,0,none⟩) 0 0) 0 []:=⟨by simp,.inr ⟨B,0, #[],rfl,hb,hB,Nat.le_refl _,by unfold maxLen;omega,by simp,by simp⟩⟩
 have hR:=hW.row hrow (fun _ _ f=>f)
 have fin:∀ v' w', w'.ownsRow wb.heap.size e size v' n news→W.grownBy w' (some B)→K (a.put o.dst v') w' := fun v' w' r g=>by
  have k:Kept (fun q=>q=B) W w' := Kept.grown (Kept.refl _ W) g (fun q e _=>by simp only [Option.some.injEq] at e;exact e.symm)
  exact h v' w' r (hW.trans k (fun i hi e=>by omega)) (fun q o hq ho=>k.at ho hq)
 rcases hR.2 with ⟨e0,n0⟩ | ⟨g,cap,cur,e0,hg⟩
 ·subst e0
  have hn0:n=0:=n0
  subst hn0
  have hnews:news=[]:=List.eq_nil_of_length_eq_zero (by simpa using hR.1)
  subst hnews
  rw [if_pos hw]
  have hrun:=run_append_owned_none (P:=Tryz.prog) W wb.heap.size t o.type e i size ht hi _ 0 [] hE
  unfold Oper.wp
  simp [execOp,ho,resolve,invoke,builtin,hs,hx,hrun,Result.andThen]
  exact fin _ W hE (World.grownBy.refl _ _)
 ·subst e0
  have hc:=hR.cells rfl
  by_cases hn0:n=0
  ·subst hn0
   have hnews:news=[]:=List.eq_nil_of_length_eq_zero (by simpa using hR.1)
   subst hnews
   rw [if_pos hw]
   obtain ⟨w', hrun,r1,r2⟩:=run_append_fits (P:=Tryz.prog) W wb.heap.size t o.type e i size ht hi hz1 B 0 0 [] hE ⟨g,0,none⟩ 0 cap [] (by simp) (fun j u hj=>by simp at hj) (fun u hu=>by cases hu) (by omega)
   unfold Oper.wp
   simp [execOp,ho,resolve,invoke,builtin,hs,hx,hrun,Result.andThen]
   exact fin _ w' r1 r2
  ·refine step_append_lies _ hgd s x t ho wb.heap.size e i z size bytes ht hi hz0 hz1 hz2 hz3 hz4 (.slice (some ⟨B,0,none⟩) 0 0) 0 [] hs hE ⟨g,0,none⟩ n cap news hx hR.1 hc h1 (by omega) (by unfold maxLen;omega) (by simpa using hby) hW.size W.heap.size rfl ?_
   intro gg cc w' r g' _ _
   simp only [Nat.zero_add,List.nil_append] at r ⊢
   exact fin _ w' r g'
end Go.Proofs.YtmjgnfkbnofjoaaGreatDoor
namespace Go.Proofs.YtmjgnfkbnofjoaaGreatDoor
set_option maxRecDepth 100000
set_option linter.unusedVariables false
open Go.RowKit
attribute [local go_sem ↓] Go.wp_at_zero Go.wp_at_succ
end Go.Proofs.YtmjgnfkbnofjoaaGreatDoor
namespace Go.Proofs.YtmjgnfkbnofjoaaGreatDoor
set_option maxRecDepth 100000
set_option linter.unusedVariables false
open Go.RowKit
section
variable {L : List Sym} {T : List Int} {a : Nat}
end
end Go.Proofs.YtmjgnfkbnofjoaaGreatDoor
namespace Go.Proofs.YtmjgnfkbnofjoaaGreatDoor
set_option linter.unusedVariables false
def Led8 (L:List Sym) (U:List Int):List (List Int)→List Nat→Prop
 | [],[]=>True
 | p :: ps,q :: qs=>leads L U 0 p=some q∧Led8 L U ps qs
 | _,_=>False
theorem Led8.append {L:List Sym} {U:List Int}:∀ {a:List (List Int)} {b:List Nat} {c:List (List Int)} {d:List Nat},Led8 L U a b→Led8 L U c d→Led8 L U (a++c) (b++d)
 | [],[],_,_,_,h=>h
 | _ :: _,_ :: _,_,_,h,k=>⟨h.1,h.2.append k⟩
 | [],_ :: _,_,_,h,_=>h.elim
 | _ :: _,[],_,_,h,_=>h.elim
theorem Led8.take {L:List Sym} {U:List Int}:∀ {a:List (List Int)} {b:List Nat} (c:Nat),Led8 L U a b→Led8 L U (a.take c) (b.take c)
 | _,_,0,_=>by simp [Led8]
 | [],[],c+1,_=>by simp [Led8]
 | _ :: _,_ :: _,c+1,h=>⟨h.1,Led8.take c h.2⟩
 | [],_ :: _,_+1,h=>h.elim
 | _ :: _,[],_+1,h=>h.elim
theorem Led8.drop {L:List Sym} {U:List Int}:∀ {a:List (List Int)} {b:List Nat} (c:Nat),Led8 L U a b→Led8 L U (a.drop c) (b.drop c)
 | _,_,0,h=>h
 | [],[],c+1,_=>by simp [Led8]
 | _ :: _,_ :: _,c+1,h=>Led8.drop c h.2
 | [],_ :: _,_+1,h=>h.elim
 | _ :: _,[],_+1,h=>h.elim
theorem Led8.at {L:List Sym} {U:List Int}:∀ {a:List (List Int)} {b:List Nat} {c:Nat},Led8 L U a b→∀ (h1:c<a.length) (h2:c<b.length),leads L U 0 a[c]=some b[c]
 | _ :: _,_ :: _,0,h,_,_=>h.1
 | _ :: _,_ :: _,c+1,h,h1,h2=>Led8.at h.2 (by simpa using h1) (by simpa using h2)
 | [],_,_,_,h1,_=>by simp at h1
 | _ :: _,[],_,h,_,_=>h.elim
theorem led_args {L:List Sym} {U:List Int} {p:List Int} {q:Nat} (h:leads L U 0 p=some q):∀ (m:List Nat) (k:Nat),(∀ i (hi:i<m.length),(argsN L U q)[k+i]? = some m[i])→Led8 L U ((List.range' k m.length).map (fun (i:Nat)=>p ++ [(i:Int)])) m
 | [],_,_=>by simp [Led8]
 | x :: m,k,hm=>by
  rw [List.length_cons,List.range'_succ,List.map_cons]
  refine ⟨?_,led_args h m (k+1) (fun i hi=>?_)⟩
  ·rw [leads_append h,leads,if_neg (by omega),Int.toNat_natCast]
   have:=hm 0 (by simp)
   simp only [Nat.add_zero,List.getElem_cons_zero] at this
   rw [this];rfl
  ·have:=hm (i+1) (by simpa using hi)
   simpa [Nat.add_assoc,Nat.add_comm 1 i] using this
structure FitN (L:List Sym) (U:List Int) (paths:List (List Int)) (rows:List Rw) (qs:List Nat):Prop where
 led:Led8 L U paths qs
 lt:∀ q∈qs,q<U.length
 row:∀ x∈rows,IsT L x.2.1∧x.2.2.length=paths.length∧∀ i∈x.2.2,i<x.2.1.length
 low:∀ x∈rows,∀ k (h:k<x.2.1.length),0<k→defB L x.2.1[k]=false
 inj:∀ x∈rows,∀ y∈rows,x.1=y.1→x=y
section
variable {L : List Sym} {U : List Int} {paths : List (List Int)} {rows : List Rw} {qs : List Nat}
end
def vpS (L:List Sym):List (Nat × Nat)→List Int→List (List Int)
 | _,[]=>[]
 | st,x :: r=>(if x<0 then [firsts st] else [])++vpS L (pass st (arN L x)) r
theorem vpS_append (L:List Sym):∀ (a b:List Int) (st:List (Nat × Nat)),vpS L st (a++b)=vpS L st a++vpS L (run L st a) b
 | [],b,st=>rfl
 | x :: a,b,st=>by
  rw [List.cons_append,vpS,vpS,vpS_append L a b,List.append_assoc]
  rfl
def freshN (L:List Sym) (c:Nat):List Int:=(c:Int) :: List.replicate (arN L (c:Int)) (-1)
theorem firsts_snoc (i a:Nat) (st:List (Nat × Nat)):firsts ((i,a) :: st)=firsts st ++ [(i:Int)]:=by simp [firsts,ofN]
theorem arN_minus (L:List Sym):arN L (-1)=0:=arN_neg (by omega)
theorem vars_run (L:List Sym):∀ (k j a:Nat) (st:List (Nat × Nat)),j+(k+1)=a →
  vpS L ((j,a) :: st) (List.replicate (k+1) (-1))=(List.range' j (k+1)).map (fun (i:Nat)=>firsts st ++ [(i:Int)])∧run L ((j,a) :: st) (List.replicate (k+1) (-1))=bump st
 | 0,j,a,st,h=>by
  have e:bump ((j,a) :: st)=bump st:=by rw [bump,if_neg (by omega)]
  refine ⟨?_,?_⟩
  ·simp [vpS,firsts_snoc]
  ·show pass ((j,a) :: st) (arN L (-1))=_
   rw [arN_minus,pass,if_neg (by omega),e]
 | k+1,j,a,st,h=>by
  have e:pass ((j,a) :: st) (arN L (-1))=(j+1,a) :: st:=by rw [arN_minus,pass,if_neg (by omega),bump,if_pos (by omega)]
  obtain ⟨h1,h2⟩:=vars_run L k (j+1) a st (by omega)
  refine ⟨?_,?_⟩
  ·rw [List.replicate_succ,vpS,e,h1,if_pos (by omega),firsts_snoc,List.range'_succ,List.map_cons]
   rfl
  ·rw [List.replicate_succ]
   show run L (pass ((j,a) :: st) (arN L (-1))) _=_
   rw [e,h2]
theorem vp_fresh (L:List Sym) (c:Nat) (st:List (Nat × Nat)):vpS L st (freshN L c)=(List.range (arN L (c:Int))).map (fun (i:Nat)=>firsts st ++ [(i:Int)])∧run L st (freshN L c)=bump st:=by
 have e0:vpS L st (freshN L c)=vpS L (pass st (arN L (c:Int))) (List.replicate (arN L (c:Int)) (-1)):=by
  rw [freshN,vpS,if_neg (by omega),List.nil_append]
 have e1:run L st (freshN L c)=run L (pass st (arN L (c:Int))) (List.replicate (arN L (c:Int)) (-1)):=rfl
 rw [e0,e1]
 generalize arN L (c:Int)=k
 cases k with
 | zero=>exact ⟨rfl,rfl⟩
 | succ k=>
  have e:pass st (k+1)=(0,k+1) :: st:=by rw [pass,if_pos (by omega)]
  rw [e,List.range_eq_range']
  exact vars_run L k 0 (k+1) st (by omega)
theorem fresh_need (L:List Sym) (c:Nat):IsT L (freshN L c):=by
 unfold IsT freshN
 rw [need,Nat.zero_add]
 generalize arN L (c:Int)=k
 induction k with
 | zero=>rfl
 | succ k ih=>rw [List.replicate_succ,need,arN_minus,Nat.add_zero];exact ih
theorem fresh_len (L:List Sym) (c:Nat):(freshN L c).length=arN L (c:Int)+1:=by simp [freshN]
theorem end_var {L:List Sym} {t:List Int} {p:Nat} (hp:p<t.length) (hv:t[p]<0):endN L t p=p+1:=by
 refine endN_of ?_
 rw [List.drop_eq_getElem_cons hp,scan,arN_neg (by omega),Nat.zero_add,scan_zero]
 rfl
def colN (L:List Sym) (t:List Int) (p:Nat):Nat:=(vpS L [] (t.take p)).length
theorem vp_split {L:List Sym} {t:List Int} {p:Nat} (hp:p<t.length) (hv:t[p]<0):vpS L [] t=vpS L [] (t.take p) ++ [firsts (way L t p)]++vpS L (bump (way L t p)) (t.drop (p+1)):=by
 have e:t=t.take p++(t[p] :: t.drop (p+1)):=by rw [List.getElem_cons_drop,List.take_append_drop]
 have e2:vpS L [] t=vpS L [] (t.take p++(t[p] :: t.drop (p+1))):=by rw [← e]
 rw [e2,vpS_append,vpS,if_pos hv,arN_neg (by omega),pass,if_neg (by omega),List.append_assoc]
 rfl
theorem col_lt {L:List Sym} {t:List Int} {p:Nat} (hp:p<t.length) (hv:t[p]<0):colN L t p<(vpS L [] t).length:=by
 rw [vp_split hp hv];unfold colN;simp
theorem col_get {L:List Sym} {t:List Int} {p:Nat} (hp:p<t.length) (hv:t[p]<0):(vpS L [] t)[colN L t p]? = some (firsts (way L t p)):=by
 rw [vp_split hp hv];unfold colN;simp
theorem col_next {L:List Sym} {t:List Int} {p:Nat} (hp:p<t.length):colN L t (p+1)=colN L t p+(if t[p]<0 then 1 else 0):=by
 unfold colN
 rw [List.take_add_one,List.getElem?_eq_getElem hp,vpS_append,List.length_append]
 congr 1
 show (vpS L _ [t[p]]).length=_
 rw [vpS]
 split <;> simp [vpS]
theorem col_all {L:List Sym} {t:List Int}:colN L t t.length=(vpS L [] t).length:=by unfold colN;rw [List.take_length]
theorem vp_kid {L:List Sym} {t:List Int} {p:Nat} (hp:p<t.length) (hv:t[p]<0) (c:Nat):vpS L [] (putN L t p (freshN L c))=kidP L (vpS L [] t) (colN L t p) c:=by
 obtain ⟨f1,f2⟩:=vp_fresh L c (way L t p)
 have hg:(vpS L [] t).getD (colN L t p) []=firsts (way L t p):=by rw [List.getD,col_get hp hv];rfl
 unfold putN kidP repl
 rw [hg,end_var hp hv,vpS_append,vpS_append]
 have e1:run L [] (t.take p)=way L t p:=rfl
 have e2:run L [] (t.take p++freshN L c)=bump (way L t p):=by rw [run_append,e1,f2]
 rw [e1,e2,f1]
 have hs:=vp_split (L:=L) hp hv
 have t1:(vpS L [] t).take (colN L t p)=vpS L [] (t.take p):=by rw [hs];unfold colN;simp
 have t2:(vpS L [] t).drop (colN L t p+1)=vpS L (bump (way L t p)) (t.drop (p+1)):=by
  rw [hs];unfold colN;rw [List.append_assoc,List.drop_append,List.drop_eq_nil_of_le (by omega),Nat.add_sub_cancel_left];simp
 rw [t1,t2]
theorem put_len {L:List Sym} {t:List Int} {p:Nat} (hp:p<t.length) (hv:t[p]<0) (c:Nat):(putN L t p (freshN L c)).length=t.length+arN L (c:Int):=by
 unfold putN
 rw [end_var hp hv]
 simp [fresh_len];omega
structure DocN (L:List Sym) (R:List Ru) (t:List Int) (rows:List Rw):Prop where
 isT:IsT L t
 row:∀ x∈rows,∃ j,∃ h:j<R.length,x.1=(j:Int)∧x.2.1=R[j].1
 led:∀ x∈rows,Led8 L x.2.1 (vpS L [] t) x.2.2
 len:∀ x∈rows,t.length+wtL L x.2.1 x.2.2=x.2.1.length+(vpS L [] t).length
theorem wt_count {L:List Sym} {t:List Int} (hT:IsT L t):∀ (ps:List Nat),(∀ p∈ps,p<t.length)→ps.length≤wtL L t ps
 | [],_=>by simp [wtL,sumN]
 | p :: r,hp=>by
  have:=wt_count hT r (fun q hq=>hp q (List.mem_cons_of_mem _ hq))
  have e:=endN_le hT (hp p (List.mem_cons_self ..))
  show r.length+1≤(endN L t p-p)+wtL L t r
  omega
theorem DocN.small {L:List Sym} {R:List Ru} {t:List Int} {rows:List Rw} {n:Nat} (h:DocN L R t rows) (hn:NdOk L n (vpS L [] t) rows) (hne:rows≠[]):t.length≤2000:=by
 obtain ⟨x,hx⟩:=List.exists_mem_of_ne_nil _ hne
 obtain ⟨k1,k2,k3,k4⟩:=hn.ok x hx
 have hz:=checkE_zero.1 k1
 have:=wt_count hz.2.2 _ k3
 have:=h.len x hx
 have:=hz.1
 omega
theorem DocN.kid {L:List Sym} {R:List Ru} {t:List Int} {rows:List Rw} {n:Nat} (h:DocN L R t rows) (hn:NdOk L n (vpS L [] t) rows) {p:Nat} (hp:p<t.length) (hv:t[p]<0) (c:Nat):DocN L R (putN L t p (freshN L c)) ((havR rows (colN L t p) (c:Int)).map (kidX L (colN L t p))):=by
 have hc:=col_lt (L:=L) hp hv
 have key:∀ x∈havR rows (colN L t p) (c:Int),x∈rows∧∃ h1:colN L t p<x.2.2.length,∃ h2:x.2.2[colN L t p]<x.2.1.length,x.2.1[x.2.2[colN L t p]]=(c:Int)∧(argsN L x.2.1 x.2.2[colN L t p]).length=arN L (c:Int):=fun x hx=>by
  obtain ⟨a,b⟩:=havR_mem hx
  obtain ⟨_,r2,r3,_⟩:=hn.ok x a
  have h1:colN L t p<x.2.2.length:=by omega
  have h2:=r3 _ (List.getElem_mem h1)
  rw [numR_eq h1 h2] at b
  exact ⟨a,h1,h2,b,by rw [argsN_eq h2,starts_length,b]⟩
 refine ⟨put_need h.isT hp (fresh_need L c),?_,?_,?_⟩
 ·intro y hy
  obtain ⟨x,hx,rfl⟩:=List.mem_map.1 hy
  exact h.row x (key x hx).1
 ·intro y hy
  obtain ⟨x,hx,rfl⟩:=List.mem_map.1 hy
  obtain ⟨a,h1,h2,b,d⟩:=key x hx
  rw [vp_kid hp hv]
  have hled:=h.led x a
  show Led8 L x.2.1 (kidP L (vpS L [] t) (colN L t p) c) (repl x.2.2 (colN L t p) (argsN L x.2.1 (x.2.2.getD (colN L t p) 0)))
  rw [getD_lt h1]
  unfold kidP repl
  refine (Led8.append (hled.take _) ?_).append (hled.drop _)
  rw [getD_lt hc,← d,List.range_eq_range']
  exact led_args (hled.at hc h1) _ 0 (fun i hi=>by rw [Nat.zero_add];exact List.getElem?_eq_getElem hi)
 ·intro y hy
  obtain ⟨x,hx,rfl⟩:=List.mem_map.1 hy
  obtain ⟨a,h1,h2,b,d⟩:=key x hx
  obtain ⟨k1,_,k3,_⟩:=hn.ok x a
  have hT:=(checkE_zero.1 k1).2.2
  obtain ⟨a1,_⟩:=args_wt hT h2
  have hl:=h.len x a
  have hw:=wtL_repl (L:=L) (t:=x.2.1) h1 (argsN L x.2.1 x.2.2[colN L t p])
  rw [vp_kid hp hv,put_len hp hv]
  show _+wtL L x.2.1 (repl x.2.2 (colN L t p) (argsN L x.2.1 (x.2.2.getD (colN L t p) 0)))=x.2.1.length+(kidP L (vpS L [] t) (colN L t p) c).length
  rw [getD_lt h1]
  have e:(kidP L (vpS L [] t) (colN L t p) c).length=(vpS L [] t).length-1+arN L (c:Int):=by
   unfold kidP;rw [repl_length hc];simp
  rw [e]
  omega
theorem vp_root (L:List Sym) (s:Nat):vpS L [] (freshN L s)=rootP L s:=by
 rw [(vp_fresh L s []).1]
 simp [rootP,kidP,repl,firsts,ofN]
theorem doc_root {L:List Sym} {R:List Ru} (hok:∀ x∈R,checkE L x.1=0∧checkE L x.2=0) (s:Nat):DocN L R (freshN L s) (rootR L R s):=by
 have key:∀ y∈rootR L R s,∃ j,∃ h:j<R.length,y=((j:Int),R[j].1,argsN L R[j].1 0)∧checkE L R[j].1=0∧0<R[j].1.length∧R[j].1.getD 0 0=(s:Int):=by
  intro y hy
  obtain ⟨x,hx,rfl⟩:=List.mem_map.1 hy
  obtain ⟨j,hj,rfl,h0,hp,hn⟩:=rows_fact hok hx
  refine ⟨j,hj,by simp [kidX,repl],h0,hp,?_⟩
  rw [numR_eq (by simp) (by simpa using hp)] at hn
  rw [getD_lt hp]
  simpa using hn
 refine ⟨fresh_need L s,?_,?_,?_⟩
 ·intro y hy
  obtain ⟨j,hj,rfl,_⟩:=key y hy
  exact ⟨j,hj,rfl,rfl⟩
 ·intro y hy
  obtain ⟨j,hj,rfl,h0,hp,hs⟩:=key y hy
  rw [(vp_fresh L s []).1]
  have hl:(argsN L R[j].1 0).length=arN L (s:Int):=by rw [argsN_eq hp,starts_length];rw [getD_lt hp] at hs;rw [hs]
  rw [← hl,List.range_eq_range']
  exact led_args (q:=0) (p:=firsts []) rfl _ 0 (fun i hi=>by rw [Nat.zero_add];exact List.getElem?_eq_getElem hi)
 ·intro y hy
  obtain ⟨j,hj,rfl,h0,hp,hs⟩:=key y hy
  have hT:=(checkE_zero.1 h0).2.2
  obtain ⟨a1,_⟩:=args_wt hT hp
  have e0:=endN_zero hT
  rw [(vp_fresh L s []).1,fresh_len]
  simp only [List.length_map,List.length_range]
  show _+wtL L R[j].1 (argsN L R[j].1 0)=_
  omega
end Go.Proofs.YtmjgnfkbnofjoaaGreatDoor
