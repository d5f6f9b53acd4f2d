import Derived.Test.YtjahpnbijefncaaGreatCR25
import Derived.Test.YtjahpnbijefncaaGreatCR05
import Derived.Laws.AppendOwnNone
import Derived.Test.YtjahpnbijefncaaGreatCR23
import Derived.Test.YtjahpnbijefncaaGreatCR17
import Derived.Test.YtjahpnbijefncaaGreatCR10
import Derived.Test.YtjahpnbijefncaaGreatCR16
import Derived.Test.YtjahpnbijefncaaGreatCR15
import Derived.Test.YtjahpnbijefncaaGreatCR03
namespace Go.Proofs.YtjahpnbijefncaaGreat
set_option maxRecDepth 100000
set_option linter.unusedVariables false
open Go.RowKit Go.Shelf
attribute [local go_sem] Oper.semAt_some
theorem cerr_ne1 (v:Value) (w:World):(binOp .neq 37 (.iface 98 v) .nilIface).run Tryz.prog w=.ok (.bool true) w:=by kernel_rfl
theorem FltAt.putO {W:World} {l:Nat} {o o' : Obj} (hl:W.heap[l]? = some o) (ho:o.isCells=false):∀ {ws:List (Int × Int)} {v:Value},FltAt W ws v→FltAt (W.putObj l o') ws v
 | [],_,h=>h
 | (c,p) :: r,v,h=>by
  rcases h with h | ⟨h0,b,u,h1,h2,h3⟩
  ·exact .inl h
  ·exact .inr ⟨h0,b,u,h1,putObj_at (o' := o') hl ho h2 rfl,FltAt.putO hl ho h3⟩
theorem FltAt.keptX {S:Nat→Prop} {w w' : World} (hk:Kept S w w') (hS:∀ b,S b→∀ c,w.heap[b]? ≠ some (.cells c 100 (0,0))):∀ {ws:List (Int × Int)} {v:Value},FltAt w ws v→FltAt w' ws v
 | [],_,h=>h
 | (c,p) :: r,v,h=>by
  rcases h with h | ⟨h0,b,u,h1,h2,h3⟩
  ·exact .inl h
  ·exact .inr ⟨h0,b,u,h1,hk.at h2 (fun e=>hS b e _ h2),FltAt.keptX hk hS h3⟩
def ZErr (w:World) (K z:Int) (W:World):Prop:=∃ q,W.heap[w.heap.size+1]? = some (.cells #[.slice none 0 0,.slice none 0 0,.slice none 0 0,.slice none 0 0] 51 (0,0))∧W.heap[w.heap.size+1+1]? = some (.cells #[.iface 98 (.pointer (some ⟨q,0,none⟩))] 37 (0,0))∧FltAt W [(81,K),(82,z)] (.iface 98 (.pointer (some ⟨q,0,none⟩)))∧Same0 w W
set_option maxHeartbeats 32000000 in
theorem compile_err {w:World} {b bs:Nat} {L:List Sym} {R:List Ru} {lv:Value} {vs:List Value} (h:StAt w b bs L R lv vs) {K:Nat} (hKL:K<L.length) (hdK:defB L (K:Int)=true) {z:Int} (hz:treeF L R K=.error z) (hall:∀ k,k<K→defB L (k:Int)=true→∃ t,treeF L R k=.ok t) :
  Calls Tryz.prog 14 #[.pointer (some ⟨b,0,none⟩)] w fun e w' => ∃ q,e=.returned (.tuple #[.agg #[.slice none 0 0,.slice none 0 0,.slice none 0 0,.slice none 0 0],.iface 98 (.pointer (some ⟨q,0,none⟩))])∧FltAt w' [(81,(K:Int)),(82,z)] (.iface 98 (.pointer (some ⟨q,0,none⟩)))∧Same0 w w' := by
 have hFn:∀ k,Fence.wide.fn k:=fun _=>trivial
 have hpn:=cnil_ptr
 have hen:=cnil_err
 have hen1:=cerr_ne1
 have hle:=h.le
 have hok:=h.ok
 have hArs:=h.sig.2
 have hL64:L.length≤64:=by obtain ⟨⟨sv,mr,hs,_⟩,_⟩:=h.sig;exact hs.len
 obtain ⟨W1,hW1⟩:∃ W1,W1=((w.alloc (.cells #[.pointer (some ⟨b,0,none⟩)] 26)).alloc (.cells #[.slice none 0 0,.slice none 0 0,.slice none 0 0,.slice none 0 0] 51)).alloc (.cells #[.nilIface] 37):=⟨_,rfl⟩
 have KW:Same0 w W1:=by rw [hW1];exact (((Kept.refl _ w).alloc _).alloc _).alloc _
 have ez:W1.heap.size=w.heap.size+1+1+1:=by rw [hW1];simp
 have BK:Hid (∀ ww,Same0 W1 ww→ww.heap[w.heap.size]? = some (.cells #[.pointer (some ⟨b,0,none⟩)] 26 (0,0))∧ww.heap[w.heap.size+1]? = some (.cells #[.slice none 0 0,.slice none 0 0,.slice none 0 0,.slice none 0 0] 51 (0,0))∧ww.heap[w.heap.size+1+1]? = some (.cells #[.nilIface] 37 (0,0))):=fun ww hk=>by
  have k1:Same0 (w.alloc (.cells #[.pointer (some ⟨b,0,none⟩)] 26)) W1:=by rw [hW1];exact ((Kept.refl _ _).alloc _).alloc _
  have k2:Same0 ((w.alloc (.cells #[.pointer (some ⟨b,0,none⟩)] 26)).alloc (.cells #[.slice none 0 0,.slice none 0 0,.slice none 0 0,.slice none 0 0] 51)) W1:=by rw [hW1];exact (Kept.refl _ _).alloc _
  have h3:=heap_al_al (w.alloc (.cells #[.pointer (some ⟨b,0,none⟩)] 26)) (.cells #[.slice none 0 0,.slice none 0 0,.slice none 0 0,.slice none 0 0] 51) (.cells #[.nilIface] 37)
  rw [World.size_alloc] at h3
  exact ⟨hk.at0 (k1.at0 (heap_alloc_new w _)),hk.at0 (k2.at0 (heap_al_al _ _ _)),hk.at0 (by rw [hW1];exact h3)⟩
 have r0:W1.cell? ⟨w.heap.size,0,none⟩=some (.pointer (some ⟨b,0,none⟩)):=cellAt (BK.out W1 (Kept.refl _ _)).1 0
 have CS:=(callsIn_wide (n:=8)).2 (ssig_any (h.same KW))
 refine (callsIn_wide (n:=9)).1 ?_
 refine callsIn_of_wp_marks Tryz.func14 rfl trivial ?_ rfl
 simp only [Tryz.ntmps14,List.size_toArray,List.length_cons,List.length_nil,Nat.reduceAdd,Nat.reduceSub,Array.replicate_succ,Array.replicate_zero,List.push_toArray,List.append_toArray,List.nil_append,List.cons_append]
 gi_upto_region 1 with fail
 rw [← hW1]
 clear hW1
 gi_upto_region 4 with (gi_at_call 35;refine CS.mono ?_;rintro e w1 ⟨bt,rfl,hbt,sv,mr,hsig,hfoot,k1'⟩)
 have k1:Same0 W1 w1:=k1'
 have K1:Same0 w w1:=KW.trans' k1
 have hzw:=k1.size
 gi_wp2_with (gi_at_call 49;refine (all_in Fence.wide _ trivial rfl _ _).mono ?_;rintro e w' ⟨rfl,rfl⟩)
 obtain ⟨W0,hW0⟩:∃ W0,W0=((w1.alloc (.cells #[.slice none 0 0,.slice none 0 0] 124)).alloc (.cells #[.slice none 0 0] 32)).alloc (.cells #[.pointer (some ⟨bt,0,none⟩)] 25):=⟨_,rfl⟩
 have K0:Same0 w1 W0:=by rw [hW0];exact (((Kept.refl _ _).alloc _).alloc _).alloc _
 have z0:W0.heap.size=w1.heap.size+3:=by rw [hW0];simp
 have b0:W0.heap[w1.heap.size]? = some (.cells #[.slice none 0 0,.slice none 0 0] 124 (0,0)):=by
  rw [hW0,heap_alloc_old _ _ (by simp;omega)];exact heap_alloc2_old _ _ _
 have b1:W0.heap[w1.heap.size+1]? = some (.cells #[.slice none 0 0] 32 (0,0)):=by
  rw [hW0,heap_alloc_old _ _ (by simp)];exact heap_al_al _ _ _
 have b2:W0.cell? ⟨w1.heap.size+1+1,0,none⟩=some (.pointer (some ⟨bt,0,none⟩)):=by
  have:=heap_al_al (w1.alloc (.cells #[.slice none 0 0,.slice none 0 0] 124)) (.cells #[.slice none 0 0] 32) (.cells #[.pointer (some ⟨bt,0,none⟩)] 25)
  simp only [World.size_alloc] at this
  rw [← hW0] at this
  exact cellAt this 0
 rw [← hW0]
 clear hW0
 have START:CpJ L R w1 0 W0:=⟨K0,.slice none 0 0,b1,World.ownsRow_nil _ _ _ _,.slice none 0 0,.slice none 0 0,b0,(fun e=>by rcases e with e | e | e <;> first | omega | (simp [Value.ownBlock] at e)),Lay.nil _ _⟩
 have ST:Hid (∀ X,Same0 w1 X→StAt X b bs L R lv vs∧X.cell? ⟨w.heap.size,0,none⟩=some (.pointer (some ⟨b,0,none⟩))):=fun X hk=>⟨h.same (K1.trans' hk),cellAt (BK.out X (k1.trans' hk)).1 0⟩
 refine wp_handsX rfl (by omega) (gf:=96) (lb:=#[.pointer (some ⟨w1.heap.size+1+1,0,none⟩)]) rfl trivial (enters_of Tryz.func96 (by kernel_rfl) rfl) (B:=w1.heap.size) (by omega) (hands_symsX hsig K0 b2 (by omega)) (fun k vs W h=>by obtain ⟨_,rfl⟩:=h;rfl)
  (fun k W=>k≤K∧CpJ L R w1 k W) (fun k X Y h hk=>⟨h.1,h.2.up hk⟩) (fun k X l o o' h hl ho hw=>⟨h.1,h.2.put hl ho (by omega)⟩) ⟨Nat.zero_le _,START⟩ (ZErr w (K:Int) z) (fun X Y h hk=>by
   obtain ⟨q,h1,h2,hf,h3⟩:=h
   exact ⟨q,hk.at0 h1,hk.at0 h2,hf.same hk,h3.trans' hk⟩) (fun X l o o' h hl ho hw=>by
   obtain ⟨q,h1,h2,hf,h3⟩:=h
   have kk:Kept (fun k=>k=l) X (X.putObj l o'):=kept_put
   exact ⟨q,putObj_at hl ho h1 rfl,putObj_at hl ho h2 rfl,hf.putO hl ho,Kept.trans h3 kk (fun i hi e=>by have e' : i=l:=e;omega)⟩) ?round ?done ?stop
 case done=>
  rintro D W hD ⟨hj,_⟩ hD2
  omega
 case stop=>
  rintro D W hD ⟨q,h1,h2,hf,h3⟩ hD2
  have ks:Kept (fun q=>q=D) W (W.putObj D (.deferred none)):=kept_put
  have gZ:=(World.putObj_heap_other (w:=W) (r:=D) (o:=.deferred none) (k:=w.heap.size+1) (by omega)).trans h1
  have nZ:=(World.putObj_heap_other (w:=W) (r:=D) (o:=.deferred none) (k:=w.heap.size+1+1) (by omega)).trans h2
  have hf2:FltAt (W.putObj D (.deferred none)) [(81,(K:Int)),(82,z)] (.iface 98 (.pointer (some ⟨q,0,none⟩))):=hf.putO hD2 rfl
  have v0:=cellAt gZ 0
  have v1:=cellAt gZ 1
  have v2:=cellAt gZ 2
  have v3:=cellAt gZ 3
  have v4:=cellAt nZ 0
  simp only [List.getElem?_toArray,List.getElem?_cons_zero,List.getElem?_cons_succ] at v0 v1 v2 v3 v4
  clear START
  gi_wp2_with fail
  refine ⟨by simp,.inl ⟨_,_,rfl,run_takeDeferred hD2,?_⟩⟩
  exact ⟨.tuple #[.agg #[.slice none 0 0,.slice none 0 0,.slice none 0 0,.slice none 0 0],.iface 98 (.pointer (some ⟨q,0,none⟩))],by simp [results,Tryz.results14,go_sem,v0,v1,v2,v3,v4],q,rfl,hf2,Kept.trans h3 ks (fun i hi e=>by have e' : i=D:=e;omega)⟩
 case round=>
  rintro l k vs W hk hl hlW ⟨hkK,hj⟩ ⟨hk', rfl⟩
  obtain ⟨Wa,hWa⟩:∃ Wa,Wa=W.alloc (.cells #[.string L[k].name,.int .i64 L[k].ar,.bool L[k].df] 129):=⟨_,rfl⟩
  have ka:Same0 W Wa:=by rw [hWa];exact (Kept.refl _ _).alloc _
  have bx:Wa.heap[W.heap.size]? = some (.cells #[.string L[k].name,.int .i64 L[k].ar,.bool L[k].df] 129 (0,0)):=by rw [hWa];exact heap_alloc_new _ _
  gi_wp2_with fail
  rw [← hWa]
  clear hWa
  refine ⟨Rnd.same ka (by omega),fun o o' ho hoc hoc' => ?_⟩
  have hjb:=(hj.up ka).put (o' := o') ho hoc (by omega)
  have bxb:=putObj_at (o' := o') ho hoc bx rfl
  have lob:(Wa.putObj l o').heap[l]? = some o' := World.putObj_heap_same (lt_of_at ho)
  obtain ⟨Wb,hWb⟩:∃ Wb,Wb=Wa.putObj l o' := ⟨_,rfl⟩
  rw [← hWb] at hjb bxb lob ⊢
  have hzb:W0.heap.size≤Wb.heap.size:=by have:=lt_of_at lob;omega
  clear hWb ho bx hj ka
  have y2:Wb.cell? ⟨W.heap.size,2,none⟩=some (.bool L[k].df):=cellAt bxb 2
  obtain ⟨j1,ev,j2,j3,j4⟩:=hjb
  obtain ⟨sm1,sm2⟩:=cmpS_small hArs hL64 hle hok k (by omega)
  have c2:=cellAt j2 0
  simp only [List.getElem?_toArray,List.getElem?_cons_zero] at c2
  obtain ⟨eo,ec,rfl⟩:=row_shape j3
  obtain ⟨i0,hi0,hz0,hz1,hz2⟩:=info_parts info_intT
  have bb1:(cmpS L R k).2.length+1≤maxLen:=by unfold maxLen;omega
  have bb2:((cmpS L R k).2.length+1) * 8≤140737488355328:=by omega
  have hdf:=defB_at hk'
  have hj1:=j1.size
  cases hd:L[k].df with
  | false=>
   rw [hd] at hdf y2
   have hk1:k+1≤K:=by
    have:k≠K:=fun e=>by subst e;rw [hdf] at hdK;cases hdK
    omega
   have MORE:Hid (∀ w2 ev', w2.ownsRow w1.heap.size 3 1 ev' ((cmpS L R k).2.length+1) (iv (cmpS L R k).2 ++ [.int .i64 (-1)])→Kept (fun q=>(Value.slice eo (cmpS L R k).2.length ec).ownBlock=some q) Wb w2→(∀ q,ev'.ownBlock=some q→(Value.slice eo (cmpS L R k).2.length ec).ownBlock=some q∨Wb.heap.size≤q)→(w2.cell? ⟨w1.heap.size+1,0,none⟩=some (.slice eo (cmpS L R k).2.length ec)∧w2.frozen? ⟨w1.heap.size+1,0,none⟩=false)∧CpJ L R w1 (k+1) (w2.setCell ⟨w1.heap.size+1,0,none⟩ ev')∧Rnd (w1.heap.size+3) w1.heap.size Wb (w2.setCell ⟨w1.heap.size+1,0,none⟩ ev')):=fun w2 ev' hr hkp hat=>by
    obtain ⟨q1,q2,q3⟩:=CpJ.pass (D:=w1.heap.size+3) hdf j1 j2 j3 j4 hr hkp hat
    exact ⟨⟨cellAt q1 0,frozenAt q1 0⟩,q2,q3⟩
   have hj3:Hid (Wb.ownsRow w1.heap.size 3 1 (.slice eo (cmpS L R k).2.length ec) (cmpS L R k).2.length (iv (cmpS L R k).2)):=j3
   have bb3:w1.heap.size≤(Wb.alloc (.cells #[.int .i64 (-1)] 3)).heap.size:=by simp;omega
   clear j1 j2 j3 j4 bxb lob sm1 sm2 hd ST
   generalize (cmpS L R k).2=EE at *
   gi_wp2_with (gi_at_builtin;refine wpListIn_append_own_at _ rfl _ _ 32 rfl w1.heap.size 3 i0 (.int .i64 0) 1 8 Tryz.underlying32 hi0 hz0 hz1 hz2 rfl (by decide) (.slice eo EE.length ec) EE.length (iv EE) rfl (World.ownsRow.alloc hj3.out _) ⟨Wb.heap.size,0,none⟩ 1 1 [.int .i64 (-1)] rfl rfl (cell_one_new _ _ _) (by simp [Value.oneCell']) bb1 bb2 bb3 ?_;intro v' w2 hown' hgrow _ hat;obtain ⟨g9,cap9,rfl⟩:=ownsRow_succ hown'; obtain ⟨⟨m1', m2'⟩,m3,m4⟩:=MORE.out w2 _ hown' (Kept.grown (Kept.alloc (Kept.refl _ Wb) _) hgrow (fun _ e _=>e)) (hat_of hat (by simp)))
  | true=>
   rw [hd] at hdf y2
   obtain ⟨hstb,rb⟩:=ST.out Wb j1
   by_cases ekK:k=K
   ·subst ekK
    have CB:Calls Tryz.prog 8 #[.pointer (some ⟨b,0,none⟩),.int .i64 (k:Int)] Wb fun e w' => ∃ q,e=.returned (.tuple #[.agg #[.int .i64 0,.int .i64 0,.slice none 0 0,.slice none 0 0],.iface 98 (.pointer (some ⟨q,0,none⟩))])∧FltAt w' [(81,(k:Int)),(82,z)] (.iface 98 (.pointer (some ⟨q,0,none⟩)))∧Same0 Wb w' := by
     refine (build_any hstb (k:Int)).mono ?_
     rintro e w' ⟨hk9,h9⟩
     rw [if_pos hdf,Int.toNat_natCast,hz] at h9
     obtain ⟨v,rfl,hf⟩:=h9
     have hf' := hf
     rcases hf with ⟨q,_⟩ | ⟨_,q,u,e1,_⟩
     ·omega
     ·subst e1;exact ⟨q,rfl,hf', hk9⟩
    have CX:Hid (∀ w3,Same0 Wb w3→(w3.heap[w.heap.size+1]? = some (.cells #[.slice none 0 0,.slice none 0 0,.slice none 0 0,.slice none 0 0] 51 (0,0))∧w3.heap[w.heap.size+1+1]? = some (.cells #[.nilIface] 37 (0,0)))∧Same0 w w3):=fun w3 hk3=>by
     obtain ⟨a1,a2,a3⟩:=BK.out w3 ((k1.trans' j1).trans' hk3)
     exact ⟨⟨a2,a3⟩,K1.trans' (j1.trans' hk3)⟩
    have FINX:Hid (∀ w3 q,Same0 Wb w3→FltAt w3 [(81,(k:Int)),(82,z)] (.iface 98 (.pointer (some ⟨q,0,none⟩)))→((w3.cell? ⟨w.heap.size+1,0,none⟩=some (.slice none 0 0)∧w3.cell? ⟨w.heap.size+1,1,none⟩=some (.slice none 0 0)∧w3.cell? ⟨w.heap.size+1,2,none⟩=some (.slice none 0 0)∧w3.cell? ⟨w.heap.size+1,3,none⟩=some (.slice none 0 0))∧(w3.frozen? ⟨w.heap.size+1,0,none⟩=false∧w3.frozen? ⟨w.heap.size+1,1,none⟩=false∧w3.frozen? ⟨w.heap.size+1,2,none⟩=false∧w3.frozen? ⟨w.heap.size+1,3,none⟩=false))∧(((((w3.setCell ⟨w.heap.size+1,0,none⟩ (.slice none 0 0)).setCell ⟨w.heap.size+1,1,none⟩ (.slice none 0 0)).setCell ⟨w.heap.size+1,2,none⟩ (.slice none 0 0)).setCell ⟨w.heap.size+1,3,none⟩ (.slice none 0 0)).cell? ⟨w.heap.size+1+1,0,none⟩=some .nilIface∧((((w3.setCell ⟨w.heap.size+1,0,none⟩ (.slice none 0 0)).setCell ⟨w.heap.size+1,1,none⟩ (.slice none 0 0)).setCell ⟨w.heap.size+1,2,none⟩ (.slice none 0 0)).setCell ⟨w.heap.size+1,3,none⟩ (.slice none 0 0)).frozen? ⟨w.heap.size+1+1,0,none⟩=false)∧KeepsFrom (w1.heap.size+3) Wb (((((w3.setCell ⟨w.heap.size+1,0,none⟩ (.slice none 0 0)).setCell ⟨w.heap.size+1,1,none⟩ (.slice none 0 0)).setCell ⟨w.heap.size+1,2,none⟩ (.slice none 0 0)).setCell ⟨w.heap.size+1,3,none⟩ (.slice none 0 0)).setCell ⟨w.heap.size+1+1,0,none⟩ (.iface 98 (.pointer (some ⟨q,0,none⟩))))∧ZErr w (k:Int) z (((((w3.setCell ⟨w.heap.size+1,0,none⟩ (.slice none 0 0)).setCell ⟨w.heap.size+1,1,none⟩ (.slice none 0 0)).setCell ⟨w.heap.size+1,2,none⟩ (.slice none 0 0)).setCell ⟨w.heap.size+1,3,none⟩ (.slice none 0 0)).setCell ⟨w.heap.size+1+1,0,none⟩ (.iface 98 (.pointer (some ⟨q,0,none⟩))))):=fun w3 q hk3 hfq=>by
     obtain ⟨⟨a2,a3⟩,a4⟩:=CX.out w3 hk3
     obtain ⟨p1,p2⟩:=put4_raw a2 (.slice none 0 0) (.slice none 0 0) (.slice none 0 0) (.slice none 0 0)
     have n1:=p2.at a3 (fun e=>(by have e' : w.heap.size+1+1=w.heap.size+1:=e;omega))
     have k5:=kept_at ((((w3.setCell ⟨w.heap.size+1,0,none⟩ (.slice none 0 0)).setCell ⟨w.heap.size+1,1,none⟩ (.slice none 0 0)).setCell ⟨w.heap.size+1,2,none⟩ (.slice none 0 0)).setCell ⟨w.heap.size+1,3,none⟩ (.slice none 0 0)) (w.heap.size+1+1) 0 (.iface 98 (.pointer (some ⟨q,0,none⟩)))
     have k35:=Kept.trans (p2.mono (S' := fun q=>q=w.heap.size+1∨q=w.heap.size+1+1) (fun _ _ e=>.inl e)) k5 (fun _ _ e=>.inr e)
     have g5:=k5.at p1 (fun e=>(by have e' : w.heap.size+1=w.heap.size+1+1:=e;omega))
     have n5:=setAt n1 0 (.iface 98 (.pointer (some ⟨q,0,none⟩)))
     have hf5:=hfq.keptX k35 (fun b e c hb=>by rcases e with e | e <;> (subst e;first | (rw [a2] at hb;cases hb;done) | (rw [a3] at hb;cases hb;done)))
     have kk:=Kept.trans (hk3.mono (S' := fun q=>q=w.heap.size+1∨q=w.heap.size+1+1) (fun _ _ f=>f.elim)) k35 (fun _ _ e=>e)
     refine ⟨⟨⟨cellAt a2 0,cellAt a2 1,cellAt a2 2,cellAt a2 3⟩,frozenAt a2 0,frozenAt a2 1,frozenAt a2 2,frozenAt a2 3⟩,⟨cellAt n1 0,frozenAt n1 0⟩,⟨kk.size,fun i o hi ho _=>kk.at ho (fun e=>by omega)⟩,q,g5,n5,hf5,Kept.trans a4 k35 (fun i hi e=>by omega)⟩
    have CBA:Hid (∀ w3 o,Same0 Wb w3→Same0 Wb (w3.alloc o)):=fun w3 o hk3=>Kept.alloc hk3 _
    clear j1 j2 j3 j4 bxb lob sm1 sm2 hd ST hstb
    gi_wp2_with (first
     | (gi_at_call 8;refine (CallsIn.inRound l (callsIn_wide.2 CB)).mono ?_;rintro e w3 ⟨q,rfl,hfq,k3⟩;obtain ⟨⟨⟨s0,s1,s2,s3⟩,t0,t1,t2,t3⟩,⟨s4,t4⟩,kf,zf⟩:=FINX.out (w3.alloc (.cells #[.int .i64 0,.int .i64 0,.slice none 0 0,.slice none 0 0] 35)) q (CBA.out w3 _ k3) (hfq.same ((Kept.refl _ w3).alloc _))))
   ·obtain ⟨t,ht⟩:=hall k (by omega) hdf
    have hk1:k+1≤K:=by omega
    have hts:=tree_small hArs hL64 hle hok hk' ht
    have CB:Calls Tryz.prog 8 #[.pointer (some ⟨b,0,none⟩),.int .i64 (k:Int)] Wb fun e w' => ∃ tk tr tpo tpl tpc tko tkl tkc,e=.returned (.tuple #[.agg #[.int .i64 tk,.int .i64 tr,.slice tpo tpl tpc,.slice tko tkl tkc],.nilIface])∧Hid (CsB (fun b=>Wb.heap.size≤b) w' 2001 (.agg #[.int .i64 tk,.int .i64 tr,.slice tpo tpl tpc,.slice tko tkl tkc]) t)∧Same0 Wb w' := by
     refine (build_any hstb (k:Int)).mono ?_
     rintro e w' ⟨hk9,h9⟩
     rw [if_pos hdf,Int.toNat_natCast,ht] at h9
     obtain ⟨v,rfl,hc⟩:=h9
     obtain ⟨tk,tr,tpo,tpl,tpc,tko,tkl,tkc,rfl⟩:=hc.shape
     exact ⟨tk,tr,tpo,tpl,tpc,tko,tkl,tkc,rfl,hc,hk9⟩
    obtain ⟨vi,vp,tt1,tt2,tt3⟩:=id j4
    obtain ⟨io,ic,rfl⟩:=row_shape tt3.ri
    have XC:Hid (∀ w3 o,Same0 Wb w3→(w3.alloc o).cell? ⟨w1.heap.size+1,0,none⟩=some (.slice eo (cmpS L R k).2.length ec)∧(w3.alloc o).cell? ⟨w1.heap.size,0,none⟩=some (.slice io (cmpS L R k).1.1.length ic)∧(w3.alloc o).ownsRow w1.heap.size 3 1 (.slice eo (cmpS L R k).2.length ec) (cmpS L R k).2.length (iv (cmpS L R k).2)∧w1.heap.size≤((w3.alloc o).alloc (.cells #[.int .i64 ((cmpS L R k).1.1.length:Int)] 3)).heap.size):=fun w3 o hk3=>by
     have kx:Same0 Wb (w3.alloc o):=Kept.alloc hk3 _
     exact ⟨cellAt (kx.at0 j2) 0,cellAt (kx.at0 tt1) 0,kx.row j3 (fun _ _ f=>f),by have:=kx.size;simp at this ⊢;omega⟩
    have LAID:Hid (∀ w3 tk tr tpo tpl tpc tko tkl tkc w4 ev', Same0 Wb w3→CsB (fun b=>Wb.heap.size≤b) w3 2001 (.agg #[.int .i64 tk,.int .i64 tr,.slice tpo tpl tpc,.slice tko tkl tkc]) t→w4.ownsRow w1.heap.size 3 1 ev' ((cmpS L R k).2.length+1) (iv (cmpS L R k).2 ++ [.int .i64 ((cmpS L R k).1.1.length:Int)])→Kept (fun q=>(Value.slice eo (cmpS L R k).2.length ec).ownBlock=some q) (w3.alloc (.cells #[.int .i64 tk,.int .i64 tr,.slice tpo tpl tpc,.slice tko tkl tkc] 35)) w4→(∀ q,ev'.ownBlock=some q→(Value.slice eo (cmpS L R k).2.length ec).ownBlock=some q∨(w3.alloc (.cells #[.int .i64 tk,.int .i64 tr,.slice tpo tpl tpc,.slice tko tkl tkc] 35)).heap.size≤q) →
      (w4.cell? ⟨w1.heap.size+1,0,none⟩=some (.slice eo (cmpS L R k).2.length ec)∧w4.frozen? ⟨w1.heap.size+1,0,none⟩=false)∧((w4.setCell ⟨w1.heap.size+1,0,none⟩ ev').cell? ⟨w3.heap.size,0,none⟩=some (.int .i64 tk)∧(w4.setCell ⟨w1.heap.size+1,0,none⟩ ev').cell? ⟨w3.heap.size,1,none⟩=some (.int .i64 tr)∧(w4.setCell ⟨w1.heap.size+1,0,none⟩ ev').cell? ⟨w3.heap.size,2,none⟩=some (.slice tpo tpl tpc)∧(w4.setCell ⟨w1.heap.size+1,0,none⟩ ev').cell? ⟨w3.heap.size,3,none⟩=some (.slice tko tkl tkc))∧Calls Tryz.prog 50 #[.pointer (some ⟨w1.heap.size,0,none⟩),.agg #[.int .i64 tk,.int .i64 tr,.slice tpo tpl tpc,.slice tko tkl tkc]] (w4.setCell ⟨w1.heap.size+1,0,none⟩ ev') fun e Z=>(∃ u,e=.returned u)∧CpJ L R w1 (k+1) Z∧Rnd (w1.heap.size+3) w1.heap.size Wb Z):=by
     intro w3 tk tr tpo tpl tpc tko tkl tkc w4 ev' hk3 hc3 hr hkp hat
     have ka:Same0 w3 (w3.alloc (.cells #[.int .i64 tk,.int .i64 tr,.slice tpo tpl tpc,.slice tko tkl tkc] 35)):=(Kept.refl _ _).alloc _
     obtain ⟨q1,q2,q3⟩:=CpJ.laid (D:=w1.heap.size+3) hdf ht (by omega) (hk3.trans' ka) j1 j2 j3 j4 (hc3.same ka) hr hkp hat
     have hz3:=hk3.size
     have lE:=lt_of_at j2
     have hb:=q2.at (heap_alloc_new w3 (.cells #[.int .i64 tk,.int .i64 tr,.slice tpo tpl tpc,.slice tko tkl tkc] 35)) (fun e=>by
      rcases e with e | e
      ·have:=typed_lt j3 e;omega
      ·omega)
     exact ⟨⟨cellAt q1 0,frozenAt q1 0⟩,⟨cellAt hb 0,cellAt hb 1,cellAt hb 2,cellAt hb 3⟩,q3⟩
    clear j1 j2 j3 j4 tt1 tt2 tt3 bxb lob sm1 sm2 hd ST hstb hts ht
    generalize (cmpS L R k).2=EE at *
    generalize (cmpS L R k).1.1.length=NN at *
    gi_wp2_with (first
     | (gi_at_call 8;refine (CallsIn.inRound l (callsIn_wide.2 CB)).mono ?_;rintro e w3 ⟨tk,tr,tpo,tpl,tpc,tko,tkl,tkc,rfl,hcs,k3⟩;obtain ⟨xc1,xc2,xc3,bb3⟩:=XC.out w3 (.cells #[.int .i64 tk,.int .i64 tr,.slice tpo tpl tpc,.slice tko tkl tkc] 35) k3)
     | (gi_at_builtin;refine wpListIn_append_own_at _ rfl _ _ 32 rfl w1.heap.size 3 i0 (.int .i64 0) 1 8 Tryz.underlying32 hi0 hz0 hz1 hz2 rfl (by decide) (.slice eo EE.length ec) EE.length (iv EE) rfl (World.ownsRow.alloc xc3 _) ⟨w3.heap.size+1,0,none⟩ 1 1 [.int .i64 (NN:Int)] rfl rfl (by have:=cell_one_new (w3.alloc (.cells #[.int .i64 tk,.int .i64 tr,.slice tpo tpl tpc,.slice tko tkl tkc] 35)) (.int .i64 (NN:Int)) 3;simp only [World.size_alloc] at this;exact this) (by simp [Value.oneCell']) bb1 bb2 bb3 ?_;intro v' w4 hown' hgrow _ hat;obtain ⟨g9,cap9,rfl⟩:=ownsRow_succ hown'; obtain ⟨⟨m1', m2'⟩,⟨d0,d1,d2,d3⟩,CL⟩:=LAID.out w3 tk tr tpo tpl tpc tko tkl tkc w4 _ k3 hcs.out hown' (Kept.grown (Kept.alloc (Kept.refl _ _) _) hgrow (fun _ e _=>e)) (hat_of hat (by simp)))
     | (gi_at_call 50;refine (CallsIn.inRound l (callsIn_wide.2 CL)).mono ?_;rintro e w5 ⟨⟨u,rfl⟩,m3,m4⟩))
end Go.Proofs.YtjahpnbijefncaaGreat
namespace Go.Proofs.YtjahpnbijefncaaGreat
set_option linter.unusedVariables false
open Go.RowKit
end Go.Proofs.YtjahpnbijefncaaGreat
namespace Go.Proofs.YtjahpnbijefncaaGreat
set_option maxRecDepth 100000
set_option linter.unusedVariables false
open Go.RowKit
attribute [local go_sem ↓] Go.wp_at_zero Go.wp_at_succ
end Go.Proofs.YtjahpnbijefncaaGreat
namespace Go.Proofs.YtjahpnbijefncaaGreat
set_option linter.unusedVariables false
def vpS (L:List Sym):List (Nat × Nat)→List Int→List (List Int)
 | _,[]=>[]
 | st,x :: r=>(if x<0 then [firsts st] else [])++vpS L (pass st (arN L x)) r
structure DocN (L:List Sym) (R:List Ru) (t:List Int) (rows:List Rw):Prop where
 isT:IsT L t
 row:∀ x∈rows,∃ j,∃ h:j<R.length,x.1=(j:Int)∧x.2.1=R[j].1
 led:∀ x∈rows,Led8 L x.2.1 (vpS L [] t) x.2.2
 len:∀ x∈rows,t.length+wtL L x.2.1 x.2.2=x.2.1.length+(vpS L [] t).length
end Go.Proofs.YtjahpnbijefncaaGreat
namespace Go.Proofs.YtjahpnbijefncaaGreat
set_option linter.unusedVariables false
open Go.RowKit
attribute [local go_sem ↓] Go.wp_at_zero Go.wp_at_succ
theorem Row.get {base:Nat} {w:World} {v:Value} {xs:List Int} (h:Row base w v xs) {i:Nat} (hi:i<xs.length):∃ g cap,v=.slice (some ⟨g,0,none⟩) xs.length cap∧g<w.heap.size∧w.cell? ⟨g,i,none⟩=some (.int .i64 xs[i]):=by
 obtain ⟨g,cap,hv,_,hlt⟩:=h.form (by omega)
 subst hv
 exact ⟨g,cap,rfl,hlt,(h.cellAt i (by omega)).trans (iv_get hi)⟩
end Go.Proofs.YtjahpnbijefncaaGreat
namespace Go.Proofs.YtjahpnbijefncaaGreat
set_option maxRecDepth 100000
set_option linter.unusedVariables false
open Go.RowKit
attribute [local go_sem ↓] Go.wp_at_zero Go.wp_at_succ
structure NdD (w:World) (L:List Sym) (R:List Ru) (n:Nat) (rv:Value) (mo tn so:Option Addr) (tc:Nat) (t:List Int) (rows:List Rw):Prop where
 rl:Rl w.heap.size w rv L
 rs:RsAt w mo R
 le:R.length≤100
 ti:IntsAt w tn t
 cap:t.length≤tc
 si:IntsAt w so (rows.map (·.1))
 dn:DocN L R t rows
 nk:NdOk L n (vpS L [] t) rows
end Go.Proofs.YtjahpnbijefncaaGreat
namespace Go.Proofs.YtjahpnbijefncaaGreat
set_option maxRecDepth 100000
set_option linter.unusedVariables false
open Go.RowKit
structure CoJ (L:List Sym) (R:List Ru) (W2:World) (cb k:Nat) (W:World) (ev vi vp:Value):Prop where
 kp:Kept (fun q=>q=cb) W2 W
 bx:W.heap[cb]? = some (.cells #[.slice none 0 0,.slice none 0 0,ev,.slice none 0 0] 51 (0,0))
 row:Row W2.heap.size W ev (cmpS L R k).2
 lay:Lay (EnB W2.heap.size cb ev) W vi vp (cmpS L R k).1
end Go.Proofs.YtjahpnbijefncaaGreat
namespace Go.Proofs.YtjahpnbijefncaaGreat
set_option maxRecDepth 100000
set_option linter.unusedVariables false
open Go.RowKit
attribute [local go_sem ↓] Go.wp_at_zero Go.wp_at_succ
def RvC (base:Nat) (W:World) (cs:List Value) (Q:List (List (Int × List Int))):Prop:=
 cs.length=Q.length∧∀ i (h:i<Q.length),∃ v,cs[i]? = some v∧PtV base W v Q[i]
def AllT (L:List Sym) (R:List Ru) (k:Nat):Prop:=∀ j,j<k→defB L (j:Int)=true→∃ t,treeF L R j=.ok t
structure CoK (W5:World) (cb:Nat) (vi vp ev:Value) (L:List Sym) (R:List Ru) (i:Nat) (W:World) (rv:Value) (cs:List Value):Prop where
 kp:Kept (fun q=>q=cb) W5 W
 bx:W.heap[cb]? = some (.cells #[vi,vp,ev,rv] 51 (0,0))
 row:W.ownsRow W5.heap.size 62 1 rv i cs
 pts:RvC W5.heap.size W cs (rightsL L (R.take i))
theorem AllT.step_no {L:List Sym} {R:List Ru} {k:Nat} (h:AllT L R k) (hd:defB L (k:Int)=false):AllT L R (k+1):=fun j hj hdj=>by
 by_cases e:j=k
 ·subst e;rw [hd] at hdj;cases hdj
 ·exact h j (by omega) hdj
theorem AllT.step_yes {L:List Sym} {R:List Ru} {k:Nat} (h:AllT L R k) {t:Tr 2001} (ht:treeF L R k=.ok t):AllT L R (k+1):=fun j hj hdj=>by
 by_cases e:j=k
 ·subst e;exact ⟨t,ht⟩
 ·exact h j (by omega) hdj
theorem PtC.paA {base:Nat} {W:World} {g:Nat} {Q:List (Int × List Int)} (h:PtC base W g Q.length Q):PaA W (some ⟨g,0,none⟩) Q:=by
 obtain ⟨cur,c1,c2,c3⟩:=h
 refine .inr ⟨g,0,rfl,lt_of_at c1,fun i hi=>?_⟩
 obtain ⟨ao,ac,d1,d2,d3,_⟩:=c3 i hi hi
 rw [Nat.zero_add]
 exact ⟨ao,ac,(cellAt c1 _).trans d1,(cellAt c1 _).trans d2,d3.1.at'⟩
theorem RtC.rgP {base:Nat} {w:World} {ro:Option Addr} {n rc:Nat} {cs:List Value} {Q:List (List (Int × List Int))} (hr:w.ownsRow base 62 1 (.slice ro n rc) n cs) (h:RtC base w cs Q):RgP w ro Q:=by
 have hn:Q.length=n:=by have:=hr.1;have:=h.1;omega
 rcases hr.2 with ⟨e,h0⟩ | ⟨g,cap,cur,e,hb,hg,h1,h2,h3,h4⟩
 ·exact .inl (List.eq_nil_of_length_eq_zero (by omega))
 ·cases e
  refine .inr ⟨g,0,rfl,lt_of_at hg,fun i hi=>?_⟩
  obtain ⟨g', gc,a,b,c⟩:=h.2 i hi
  refine ⟨_,gc,?_,c.paA⟩
  rw [Nat.zero_add,hr.cellAt _ (by omega)]
  exact a
theorem CmpOut.read {L:List Sym} {R:List Ru} {w w' : World} {e:Ending} (h:CmpOut L R w e w'):Same0 w w' ∧ ∃ io ic po pc eo ec ro rc,e=.returned (.tuple #[.agg #[.slice io (cmpS L R L.length).1.1.length ic,.slice po (cmpS L R L.length).1.2.length pc,.slice eo (cmpS L R L.length).2.length ec,.slice ro (rightsL L R).length rc],.nilIface])∧CdA w' io po eo ro (cmpS L R L.length).1 (cmpS L R L.length).2 (rightsL L R):=by
 obtain ⟨io,ic,po,pc,eo,ec,ro,rc,cs,rfl,h1,h2,h3,h4,h5⟩:=h
 obtain ⟨ao,ac,e2,i1,_⟩:=h2.ints
 simp only [Value.slice.injEq,true_and] at e2
 obtain ⟨rfl,rfl⟩:=e2
 exact ⟨h5,io,ic,po,pc,eo,ec,ro,rc,by rw [rightsL,List.length_map],h1.insAt,h1.pthAt,i1,h4.rgP h3⟩
end Go.Proofs.YtjahpnbijefncaaGreat
namespace Go.Proofs.YtjahpnbijefncaaGreat
set_option maxRecDepth 100000
set_option linter.unusedVariables false
open Go.RowKit
def Wt (W W' : World):Prop:=∀ (q:Nat) (cur:Array Value) (T:TypeId),W.heap[q]? = some (Obj.cells cur T (0,0))→∃ cur', W'.heap[q]? = some (Obj.cells cur' T (0,0))∧cur'.size=cur.size∧((T=32∨T=62∨T=51)→cur' = cur)∧(T=77→∀ k:Nat,cur'[k * 2+1]? = cur[k * 2+1]? ∨ cur'[k * 2+1]? = some (.slice none 0 0))
structure SpK (lo hi:Nat) (W1 W:World):Prop where
 wt:Wt W1 W
 kp:Kept (fun q=>lo≤q∧q<hi) W1 W
def WrI (W:World) (lo hi:Nat) (ao:Option Addr) (n:Nat):Prop:=n=0∨∃ g cur,ao=some ⟨g,0,none⟩∧lo≤g∧g<hi∧W.heap[g]? = some (.cells cur 3 (0,0))∧n≤cur.size
structure CdW (W:World) (lo hi:Nat) (io po eo ro:Option Addr) (I P E R:Nat):Prop where
 ins:I=0∨∃ g cur,io=some ⟨g,0,none⟩∧lo≤g∧g<hi∧W.heap[g]? = some (.cells cur 117 (0,0))∧I * 3≤cur.size
 pth:P=0∨∃ g cur,po=some ⟨g,0,none⟩∧W.heap[g]? = some (.cells cur 32 (0,0))∧∀ i,i<P→∃ qo ql qc,cur[i]? = some (.slice qo ql qc)∧WrI W lo hi qo ql∧ql≤20000000000000
 ent:WrI W lo hi eo E
 rgt:R=0∨∃ g cur,ro=some ⟨g,0,none⟩∧W.heap[g]? = some (.cells cur 62 (0,0))∧∀ i,i<R→∃ h hl hc cu,cur[i]? = some (.slice (some ⟨h,0,none⟩) hl hc)∧lo≤h∧h<hi∧W.heap[h]? = some (.cells cu 77 (0,0))∧hl * 2≤cu.size∧hl≤20000000000000∧∀ k,k<hl→∃ qo ql qc,cu[k * 2+1]? = some (.slice qo ql qc)∧WrI W lo hi qo ql∧ql≤20000000000000
end Go.Proofs.YtjahpnbijefncaaGreat
namespace Go.Proofs.YtjahpnbijefncaaGreat
set_option maxRecDepth 100000
set_option linter.unusedVariables false
open Go.RowKit
attribute [local go_sem ↓] Go.wp_at_zero Go.wp_at_succ
end Go.Proofs.YtjahpnbijefncaaGreat
namespace Go.Proofs.YtjahpnbijefncaaGreat
set_option maxRecDepth 100000
set_option linter.unusedVariables false
open Go.RowKit
theorem good_vars {L:List Sym} {R:List Ru} (h:GoodR L R):∀ x∈R,∀ y∈x.2,y<0→y∈x.1:=by
 intro x hx y hy hn
 obtain ⟨i,hi,rfl⟩:=List.getElem_of_mem hx
 have h6:=h.2 i hi 5 (by omega)
 have h7:R[i].2.all (fun n=>!freeB R[i].1 n)=true:=h6
 have h8:=List.all_eq_true.1 h7 y hy
 simp [freeB] at h8
 rcases h8 with h8 | h8
 ·omega
 ·exact h8
structure CpA (L:List Sym) (R:List Ru) (base:Nat) (W:World) (io po eo ro:Option Addr) (ic pc ec rc:Nat) (cs:List Value):Prop where
 lay:Lay (fun q=>q<base) W (.slice io (cmpS L R L.length).1.1.length ic) (.slice po (cmpS L R L.length).1.2.length pc) (cmpS L R L.length).1
 ent:Row base W (.slice eo (cmpS L R L.length).2.length ec) (cmpS L R L.length).2
 row:W.ownsRow base 62 1 (.slice ro R.length rc) R.length cs
end Go.Proofs.YtjahpnbijefncaaGreat
namespace Go.Proofs.YtjahpnbijefncaaGreat
set_option maxRecDepth 100000
set_option linter.unusedVariables false
open Go.RowKit
attribute [local go_sem ↓] Go.wp_at_zero Go.wp_at_succ
theorem AIn.more {L:List Sym} {T:List Int} {wp wr w1:World} {gA gE p j gg cap:Nat} {en:Nat→Int} {f:Nat→Value} {vo:Option Addr} {vc:Nat} (hT:IsT L T) (hp:p<T.length) (hj:j<arN L T[p]) (hg:gA≠gE) (hlA:gA<wp.heap.size) (hlE:gE<wp.heap.size) (h6:∀ q,p+1≤q→q<T.length→en q=(endN L T q:Int))
  (h1:Kept (fun k=>k=gE∨k=gA) wp wr) (h2:Nums wr gE T.length (fun q=>if q=p then (past L T j (p+1):Int) else en q)) (h3:Lsts wr gA T.length (fun q=>if q=p then .slice vo j vc else f q)) (h4:wr.ownsRow wp.heap.size 3 1 (.slice vo j vc) j (iv (ofN (starts L T j (p+1)))))
  (hr:w1.ownsRow wp.heap.size 3 1 (.slice (some ⟨gg,0,none⟩) (j+1) cap) (j+1) (iv (ofN (starts L T j (p+1))) ++ [.int .i64 (past L T j (p+1):Int)])) (hk:Kept (fun k=>(Value.slice vo j vc).ownBlock=some k) wr w1) (hat:(Value.slice vo j vc).ownBlock=some gg∨wr.heap.size≤gg) :
  (w1.cell? ⟨gA,p,none⟩=some (.slice vo j vc)∧w1.frozen? ⟨gA,p,none⟩=false) ∧
  ((w1.setCell ⟨gA,p,none⟩ (.slice (some ⟨gg,0,none⟩) (j+1) cap)).cell? ⟨gE,p,none⟩=some (.int .i64 (past L T j (p+1):Int))∧(w1.setCell ⟨gA,p,none⟩ (.slice (some ⟨gg,0,none⟩) (j+1) cap)).cell? ⟨gE,past L T j (p+1),none⟩=some (.int .i64 (endN L T (past L T j (p+1)):Int))∧(w1.setCell ⟨gA,p,none⟩ (.slice (some ⟨gg,0,none⟩) (j+1) cap)).frozen? ⟨gE,p,none⟩=false) ∧
  AIn L T wp gA gE p en f (j+1) ((w1.setCell ⟨gA,p,none⟩ (.slice (some ⟨gg,0,none⟩) (j+1) cap)).setCell ⟨gE,p,none⟩ (.int .i64 (endN L T (past L T j (p+1)):Int))):=by
 have hf:=(Forest.one hT hp).kids.2
 have hfk:=hf.drop (i:=j) (by omega)
 rw [show arN L T[p]-j=(arN L T[p]-j-1)+1 by omega] at hfk
 have hq:past L T j (p+1)<T.length:=by have:=hfk.pos;have:=hfk.le;omega
 have hfj:=hf.drop (i:=0) (by omega)
 have hge:p+1≤past L T j (p+1):=by
  have:=(Forest.le (k:=arN L T[p]-j-1+1) hfk)
  rcases Nat.eq_zero_or_pos j with e | e
  ·subst e;exact Nat.le_refl _
  ·have h9:=past_mono hf (i:=0) (j:=j) e (by omega)
   have h10:=hf
   rw [show arN L T[p]=(arN L T[p]-1)+1 by omega] at h10
   have:=h10.succ.2.1
   simp only [past] at h9
   omega
 have hbz:=h1.size
 have own:∀ k,(Value.slice vo j vc).ownBlock=some k→wp.heap.size≤k:=fun k e=>by
  rcases h4.2 with ⟨e1,_⟩ | ⟨g,c,cur,e1,e2,_⟩
  ·rw [e1] at e;simp [Value.ownBlock] at e
  ·rw [e1] at e;simp only [Value.ownBlock,Option.some.injEq] at e;omega
 have nA:¬ (Value.slice vo j vc).ownBlock=some gA:=fun e=>by have:=own _ e;omega
 have nE:¬ (Value.slice vo j vc).ownBlock=some gE:=fun e=>by have:=own _ e;omega
 have gge:wp.heap.size≤gg:=by
  rcases hat with e | e
  ·exact own _ e
  ·omega
 have v1:=h3.kept hk nA
 have n1:=h2.kept hk nE
 have v2:=v1.set p (.slice (some ⟨gg,0,none⟩) (j+1) cap)
 have k2:Kept (fun k=>k=gA) w1 (w1.setCell ⟨gA,p,none⟩ (.slice (some ⟨gg,0,none⟩) (j+1) cap)):=kept_at _ _ _ _
 have n2:=n1.kept k2 (fun e=>hg e.symm)
 have k3:Kept (fun k=>k=gE) (w1.setCell ⟨gA,p,none⟩ (.slice (some ⟨gg,0,none⟩) (j+1) cap)) ((w1.setCell ⟨gA,p,none⟩ (.slice (some ⟨gg,0,none⟩) (j+1) cap)).setCell ⟨gE,p,none⟩ (.int .i64 (endN L T (past L T j (p+1)):Int))):=kept_at _ _ _ _
 have n3:=n2.set p (endN L T (past L T j (p+1)):Int)
 have v3:=v2.kept k3 (fun e=>hg e)
 have a1:=v1.cell hp
 have a2:=n2.cell hp
 have a3:=n2.cell hq
 simp only [if_pos] at a1 a2
 rw [if_neg (by omega),h6 _ hge hq] at a3
 refine ⟨a1,⟨a2.1,a3.1,a2.2⟩,?_,?_,some ⟨gg,0,none⟩,cap,?_,?_⟩
 ·exact Kept.trans (Kept.trans (Kept.trans h1 hk (fun i hi e=>by have:=own _ e;omega)) k2 (fun _ _ e=>.inr e)) k3 (fun _ _ e=>.inl e)
 ·refine n3.congr (fun i hi=>?_)
  by_cases e:i=p
  ·rw [if_pos e,if_pos e,past_succ]
  ·rw [if_neg e,if_neg e,if_neg e]
 ·refine v3.congr (fun i hi=>?_)
  by_cases e:i=p
  ·rw [if_pos e,if_pos e]
  ·rw [if_neg e,if_neg e,if_neg e]
 ·have r2:=k3.row (k2.row hr (fun k e q=>by simp only [Value.ownBlock,Option.some.injEq] at e;omega)) (fun k e q=>by simp only [Value.ownBlock,Option.some.injEq] at e;omega)
  rw [starts_snoc]
  have:iv (ofN (starts L T j (p+1) ++ [past L T j (p+1)]))=iv (ofN (starts L T j (p+1))) ++ [.int .i64 (past L T j (p+1):Int)]:=by simp [ofN,iv]
  rw [this]
  exact r2
theorem AOut.psb {L:List Sym} {T:List Int} {w wr:World} {gA gE:Nat} (h:AOut L T w gA gE 0 wr):PsB w.heap.size wr (some ⟨gA,0,none⟩) (argsL L T)∧Same0 w wr:=by
 obtain ⟨h0,h1,h2,h3,en,f,h4,h5,h6,h7,h8⟩:=h
 refine ⟨.inr ⟨gA,0,rfl,h2,h5.lt,fun i hi=>?_⟩,h0⟩
 have hi' : i<T.length:=by rw [argsL_length] at hi;exact hi
 obtain ⟨ao,ac,e1,e2,e3⟩:=h8 i (Nat.zero_le _) hi'
 refine ⟨ao,ac,?_,by rw [argsL_at];exact e2,fun a e=>(e3 a e).2.2⟩
 rw [argsL_at,ofN_len,Nat.zero_add,← e1]
 exact (h5.cell hi').1
set_option maxHeartbeats 16000000 in
theorem argsOf_any {n b:Nat} {w:World} {L:List Sym} (h:Sg n w b L) {ao:Option Addr} {cap:Nat} {T:List Int} (ht:IntsAt w ao T) (hc:checkE L T=0) (hv:∀ x∈T,0≤x) :
  Calls Tryz.prog 95 #[.pointer (some ⟨b,0,none⟩),.slice ao T.length cap] w fun e w' => ∃ go gc,e=.returned (.slice go T.length gc)∧PsB w.heap.size w' go (argsL L T)∧Same0 w w' := by
 obtain ⟨hm,hbad,hT⟩:=checkE_zero.1 hc
 have hnum:Hid (∀ p (hp:p<T.length),∃ i:Nat,T[p]=(i:Int)∧i<L.length):=fun p hp=>by
  have h1:=badE_zero.1 hbad T[p] (List.getElem_mem hp)
  have h2:=hv T[p] (List.getElem_mem hp)
  exact ⟨T[p].toNat,by omega,by omega⟩
 have CAT:Hid (∀ ww i (hi:i<L.length),Same0 w ww→Calls Tryz.prog 81 #[.pointer (some ⟨b,0,none⟩),.int .i64 (i:Int)] ww fun e w' => ∃ nm df,e=.returned (.tuple #[.agg #[.string nm,.int .i64 ((arN L (i:Int):Nat):Int),.bool df],.int .i64 0])∧Same0 ww w'):=fun ww i hi hk=>by
  refine (sg_at_yes (h.same hk) hi).mono ?_
  rintro e w' ⟨rfl,hk'⟩
  exact ⟨_,_,by rw [ar_of h.2 hi],hk'⟩
 have HAR:=fun z=>arN_le h.2 z
 obtain ⟨i1,hi1,hz0,hz1,hz2⟩:=info_parts info_intT
 obtain ⟨i2,hi2,hy0,hy1,hy2⟩:=info_parts (show (Tryz.prog.info? 32).map (fun i=>(i.zero,i.size,i.bytes))=some (some (.slice none 0 0),1,24) by kernel_rfl)
 obtain ⟨N,hN⟩:∃ N,N=T.length:=⟨_,rfl⟩
 have hmN:N≤2000:=by omega
 have mA:∀ w:World,(Instr.makeSlice 48 (.int .i64 (N:Int)) (.int .i64 (N:Int))).run Tryz.prog w=.ok (.slice (some ⟨w.heap.size,0,none⟩) N N) (w.alloc (.cells (madeCells #[.slice none 0 0] N) 32)):=fun w=>by
  have:=run_make w 48 32 i2 _ Tryz.underlying48 hi2 hy0 .i64 .i64 (N:Int) (N:Int) (by omega) (by omega) (by rw [hy2];omega) (by omega)
  simpa [hy1,Value.cells] using this
 have mE:∀ w:World,(Instr.makeSlice 32 (.int .i64 (N:Int)) (.int .i64 (N:Int))).run Tryz.prog w=.ok (.slice (some ⟨w.heap.size,0,none⟩) N N) (w.alloc (.cells (madeCells #[.int .i64 0] N) 3)):=fun w=>by
  have:=run_make w 32 3 i1 _ Tryz.underlying32 hi1 hz0 .i64 .i64 (N:Int) (N:Int) (by omega) (by omega) (by rw [hz2];omega) (by omega)
  simpa [hz1,Value.cells] using this
 have HN:Hid (N=T.length∧IsT L T):=⟨hN,hT⟩
 have START:Hid (∀ wc gA gE,Same0 w wc→gA≠gE→w.heap.size≤gA→w.heap.size≤gE→wc.heap[gA]? = some (.cells (madeCells #[.slice none 0 0] N) 32 (0,0))→wc.heap[gE]? = some (.cells (madeCells #[.int .i64 0] N) 3 (0,0))→AOut L T w gA gE N wc):=by
  intro wc gA gE k1 k2 k3 k4 k5 k6
  subst hN
  exact ⟨k1,k2,k3,k4,fun _=>0,fun _=>.slice none 0 0,⟨_,_,k6,by rw [size_madeCells];exact Nat.le_refl _,fun i hi=>umade_zero _ i hi⟩,⟨_,k5,size_madeCells _ _,fun i hi=>made_slices _ i hi⟩,fun q a b=>by omega,fun q _=>rfl,fun q a b=>by omega⟩
 have HT:Hid (∀ ww p (hp:p<T.length),Same0 w ww→∃ tb off,ao=some ⟨tb,off,none⟩∧ww.cell? ⟨tb,off+p,none⟩=some (.int .i64 T[p])):=fun ww p hp hk=>by
  obtain ⟨tb,off,e,_,hcc⟩:=(ht.same hk).get hp
  exact ⟨tb,off,e,hcc⟩
 rw [← hN]
 clear h ht hc hv hbad hm hT hN
 go_enter Tryz.func95,Tryz.ntmps95
 go_upto_region 1 with fail
 go_cut [5,6] from 10 to 15 (fun s5 s6 wc=>∃ gA gE,s5=.slice (some ⟨gA,0,none⟩) N N∧s6=.slice (some ⟨gE,0,none⟩) N N∧AOut L T w gA gE N wc)
 case first=>
  go_region
  all_goals
   go_wp2_with fail
   go_meet
   case rel=>
    first
     | exact ⟨_,_,rfl,rfl,START.out _ _ _ (Kept.drew (Kept.alloc (Kept.alloc (Kept.refl _ w) _) _)) (by omega) (by omega) (by omega) (heap_alloc2_old w _ _) (heap_al_al w _ _)⟩
     | exact ⟨_,_,rfl,rfl,START.out _ _ _ (Kept.drew (Kept.alloc (Kept.alloc (Kept.refl _ w) _) _)) (by omega) (by omega) (by omega) (heap_al_al w _ _) (heap_alloc2_old w _ _)⟩
 case rest=>
  obtain ⟨gA,gE,rfl,rfl,hO⟩:=hcut
  clear START mA mE
  go_wp2_with fail
  go_loopw [7] (fun s7 wr=>∃ k:Nat,k≤N∧s7=.int .i64 ((k:Int)-1)∧AOut L T w gA gE k wr) (fun s7 _=>(intOf s7+1).toNat)
  case atStart=>exact ⟨N,Nat.le_refl _,by go_num,hO⟩
  case round=>
   clear hO
   obtain ⟨k,hk,rfl,hO⟩:=hrel
   cases k with
   | zero=>
    obtain ⟨q1,q2⟩:=hO.psb
    clear hO
    go_wp2_with fail
    go_ret
    exact ⟨_,_,rfl,q1,q2⟩
   | succ p=>
    have hs7:(((p+1:Nat):Int)-1)=(p:Int):=by omega
    rw [hs7]
    have hp:p<T.length:=by have:=HN.out.1;omega
    obtain ⟨i,hTi,hiL⟩:=hnum.out p hp
    obtain ⟨tb,off,rfl,hcell⟩:=HT.out wr p hp hO.1
    rw [hTi] at hcell
    have CA:=CAT.out wr i hiL hO.1
    obtain ⟨A,hA⟩:∃ A,arN L (i:Int)=A:=⟨_,rfl⟩
    have HA:Hid (arN L T[p]=A):=by show _=_;rw [hTi];exact hA
    have hA6:A≤6:=by rw [← hA];exact HAR _
    rw [hA] at CA
    have j1:(0:Int)≤(p:Int):=by omega
    have j2:(p:Int)<(N:Int):=by omega
    have j3:(p:Int)<2000:=by omega
    have HO:Hid (∀ ww,Same0 wr ww→AOut L T w gA gE (p+1) ww):=fun ww hk=>hO.same hk
    clear hTi hA hO
    go_upto_region 6 with (first | (go_at_call 81;refine CA.mono ?_;rintro e w1 ⟨nm,df,rfl,k1⟩))
    obtain ⟨w2,hw2⟩:∃ w2,w2=w1.alloc (.cells #[.string nm,.int .i64 ((A:Nat):Int),.bool df] 129):=⟨_,rfl⟩
    have k2:Same0 w1 w2:=by rw [hw2];exact (Kept.refl _ _).alloc _
    have bx:w2.heap[w1.heap.size]? = some (.cells #[.string nm,.int .i64 ((A:Nat):Int),.bool df] 129 (0,0)):=by rw [hw2];exact heap_alloc_new _ _
    rw [← hw2]
    clear hw2
    obtain ⟨s0,hg,hgA,hgE,en,f,n2,v2,h6,h7,h8⟩:=HO.out w2 (k1.trans' k2)
    obtain ⟨z0,z1⟩:=n2.cell hp
    have kE:=kept_at w2 gE p (.int .i64 ((p:Int)+1))
    have lA:=v2.lt
    have lE:=n2.lt
    have hbE:¬ w1.heap.size=gE:=fun e=>by
     obtain ⟨cs,t,c1,c2,c3⟩:=n2
     rw [← e,bx] at c1
     simp only [Option.some.injEq,Obj.cells.injEq] at c1
     have:=c3 0 (by omega)
     rw [← c1.1] at this
     simp at this
    have xA:(w2.setCell ⟨gE,p,none⟩ (.int .i64 ((p:Int)+1))).cell? ⟨w1.heap.size,1,none⟩=some (.int .i64 ((A:Nat):Int)):=(kE.cell (p:=⟨w1.heap.size,1,none⟩) (lt_of_at bx) hbE).trans (cellAt bx 1)
    have START2:AIn L T w2 gA gE p en f 0 (w2.setCell ⟨gE,p,none⟩ (.int .i64 ((p:Int)+1))):=by
     refine ⟨kE.mono (fun _ _ e=>.inl e),?_,none,0,?_,World.ownsRow_nil _ _ _ _⟩
     ·refine (n2.set p ((p:Int)+1)).congr (fun q hq=>?_)
      by_cases e:q=p
      ·rw [if_pos e,if_pos e];simp [past]
      ·rw [if_neg e,if_neg e]
     ·refine (v2.kept kE (fun e=>hg e)).congr (fun q hq=>?_)
      by_cases e:q=p
      ·rw [if_pos e,e];exact h7 p (by omega)
      ·rw [if_neg e]
    have HS2:Hid (AIn L T w2 gA gE p en f 0 (w2.setCell ⟨gE,p,none⟩ (.int .i64 ((p:Int)+1)))):=START2
    have FIN2:Hid (∀ ww,AIn L T w2 gA gE p en f A ww→AOut L T w gA gE p ww):=fun ww hI=>by
     rw [← HA.out] at hI
     exact AIn.done HN.out.2 hp s0 hg hgA hgE h6 h7 h8 lA lE hI
    have MORE:Hid (∀ ww j vo vc,j<A→Kept (fun k=>k=gE∨k=gA) w2 ww→Nums ww gE T.length (fun q=>if q=p then (past L T j (p+1):Int) else en q)→Lsts ww gA T.length (fun q=>if q=p then .slice vo j vc else f q)→ww.ownsRow w2.heap.size 3 1 (.slice vo j vc) j (iv (ofN (starts L T j (p+1))))→∀ gg cap w1,w1.ownsRow w2.heap.size 3 1 (.slice (some ⟨gg,0,none⟩) (j+1) cap) (j+1) (iv (ofN (starts L T j (p+1))) ++ [.int .i64 (past L T j (p+1):Int)])→Kept (fun k=>(Value.slice vo j vc).ownBlock=some k) ww w1→((Value.slice vo j vc).ownBlock=some gg∨ww.heap.size≤gg) →
      (w1.cell? ⟨gA,p,none⟩=some (.slice vo j vc)∧w1.frozen? ⟨gA,p,none⟩=false)∧((w1.setCell ⟨gA,p,none⟩ (.slice (some ⟨gg,0,none⟩) (j+1) cap)).cell? ⟨gE,p,none⟩=some (.int .i64 (past L T j (p+1):Int))∧(w1.setCell ⟨gA,p,none⟩ (.slice (some ⟨gg,0,none⟩) (j+1) cap)).cell? ⟨gE,past L T j (p+1),none⟩=some (.int .i64 (endN L T (past L T j (p+1)):Int))∧(w1.setCell ⟨gA,p,none⟩ (.slice (some ⟨gg,0,none⟩) (j+1) cap)).frozen? ⟨gE,p,none⟩=false)∧AIn L T w2 gA gE p en f (j+1) ((w1.setCell ⟨gA,p,none⟩ (.slice (some ⟨gg,0,none⟩) (j+1) cap)).setCell ⟨gE,p,none⟩ (.int .i64 (endN L T (past L T j (p+1)):Int)))):=fun ww j vo vc hj a1 a2 a3 a4 gg cap w1 b1 b2 b3=>AIn.more HN.out.2 hp (by rw [HA.out];exact hj) hg lA lE h6 a1 a2 a3 a4 b1 b2 b3
    have LT:Hid (∀ j,j<A→past L T j (p+1)<N):=fun j hj=>by
     have hf:=(Forest.one HN.out.2 hp).kids.2
     rw [HA.out] at hf
     have hfk:=hf.drop (i:=j) (by omega)
     rw [show A-j=(A-j-1)+1 by omega] at hfk
     have:=hfk.pos;have:=hfk.le;have:=HN.out.1;omega
    clear START2 h6 h7 h8 hbE n2 v2 CA bx
    go_upto_region 8 with fail
    go_loopw [39] (fun s39 wr=>∃ j:Nat,j≤A∧s39=.int .i64 (j:Int)∧AIn L T w2 gA gE p en f j wr) (fun s39 _=>A-(intOf s39).toNat)
    case atStart=>exact ⟨0,Nat.zero_le _,rfl,HS2.out⟩
    case round=>
     clear z0 z1 xA HS2 kE
     obtain ⟨j,hj,rfl,hI⟩:=hrel
     by_cases hlt:j<A
     ·have hE:=LT.out j hlt
      obtain ⟨b1,b2,vo,vc,b3,b4⟩:=hI
      have M:=MORE.out wr j vo vc hlt b1 b2 b3 b4
      obtain ⟨c0, -⟩:=b2.cell hp
      obtain ⟨d0,d1⟩:=b3.cell hp
      simp only [if_true] at c0 d0
      have d2:(wr.alloc (.cells #[.int .i64 (past L T j (p+1):Int)] 3)).cell? ⟨gA,p,none⟩=some (.slice vo j vc):=cell_al d0 _
      have hbs:w2.heap.size≤(wr.alloc (.cells #[.int .i64 (past L T j (p+1):Int)] 3)).heap.size:=by have:=b1.size;simp;omega
      have hn1:j+1≤maxLen:=by unfold maxLen;omega
      generalize endN L T (past L T j (p+1))=Z at *
      generalize past L T j (p+1)=E at *
      have MH:Hid _:=M
      have e1:(0:Int)≤(E:Int):=by omega
      have e2:(E:Int)<(N:Int):=by omega
      have l1:(j:Int)<(A:Int):=by omega
      clear M b1 b2 b3 MORE LT FIN2 CAT HT HO hnum
      go_upto_region 9 with fail
      go_region_law (refine step_append_lies _ (by rfl) _ _ 32 (by rfl) w2.heap.size 3 i1 _ 1 8 Tryz.underlying32 hi1 hz0 hz1 hz2 rfl (by omega) (.slice vo j vc) j (iv (ofN (starts L T j (p+1)))) (by rfl) ((b4.alloc _).drew) ⟨wr.heap.size,0,none⟩ 1 1 [.int .i64 (E:Int)] (by rfl) (by rfl) (World.news_of_block (cs:=#[.int .i64 (E:Int)]) (t:=3) (fr:=(0,0)) (heap_alloc_new wr _)) (by simp [Value.oneCell']) (by omega) hn1 (by omega) hbs (wr.heap.size+1) (by simp) ?_;intro gg cap w5 hown hgrow hat hlt5;obtain ⟨⟨m0,m1⟩,⟨m2,m3,m4⟩,m5⟩:=MH.out gg cap w5 hown (Kept.grown (Kept.drew (Kept.alloc (Kept.refl _ wr) _)) hgrow (fun _ e _=>e)) (hat.imp id (fun e=>by omega)))
      all_goals
       clear b4 c0 d0 d1 d2 MH
       go_wp2_with fail
       go_roundw
       case rel=>exact ⟨j+1,by omega,by go_num,m5⟩
       case measure=>simp [intOf];omega
     ·obtain rfl:j=A:=by omega
      have hF:=FIN2.out _ hI
      clear hI FIN2 MORE LT
      go_wp2_with fail
      go_roundw
      case rel=>first | exact ⟨p,by omega,by go_num,hF⟩ | ((repeat apply Exists.intro);exact ⟨⟨p,by omega,by go_num,hF⟩,rfl⟩)
      case measure=>simp [intOf]
def clsB (L:List Sym) (T:List Int):Bool:=decide (checkE L T=0) && !(T.any (fun x=>decide (x<0)))
theorem vw_none (base:Nat) (w:World) (L:List Sym) (T:List Int):VwAt base w L false T (.agg #[.slice none 0 0,.slice none 0 0]):=⟨none,0,none,0,rfl,fun e=>by cases e⟩
set_option maxHeartbeats 8000000 in
theorem over_any {n b:Nat} {w:World} {L:List Sym} (h:Sg n w b L) {ao:Option Addr} {cap:Nat} {T:List Int} (ht:Arg w ao T cap) :
  Calls Tryz.prog 48 #[.pointer (some ⟨b,0,none⟩),.slice ao T.length cap] w fun e w' => ∃ ho hn hc go gn gc,e=.returned (.agg #[.slice ho hn hc,.slice go gn gc])∧VwAt w.heap.size w' L (clsB L T) T (.agg #[.slice ho hn hc,.slice go gn gc])∧Same0 w w' := by
 have hmx:T.length≤maxLen:=by have:=ht.size;unfold maxLen;omega
 obtain ⟨W1,hW1⟩:∃ W1,W1=w.alloc (.cells #[.slice none 0 0,.slice none 0 0] 121):=⟨_,rfl⟩
 have KW:Same0 w W1:=by rw [hW1];exact (Kept.refl _ w).alloc _
 have hbx:W1.heap[w.heap.size]? = some (.cells #[.slice none 0 0,.slice none 0 0] 121 (0,0)):=by rw [hW1];exact heap_alloc_new w _
 have RC:Hid (∀ ww,Same0 W1 ww→(ww.cell? ⟨w.heap.size,0,none⟩=some (.slice none 0 0)∧ww.cell? ⟨w.heap.size,1,none⟩=some (.slice none 0 0))∧ww.frozen? ⟨w.heap.size,0,none⟩=false∧ww.frozen? ⟨w.heap.size,1,none⟩=false):=fun ww hk=>by
  have:=hk.at0 hbx
  exact ⟨⟨cellAt this 0,cellAt this 1⟩,frozenAt this 0,frozenAt this 1⟩
 have PUT:Hid (∀ ww x y,Same0 W1 ww→(((ww.setCell ⟨w.heap.size,0,none⟩ x).setCell ⟨w.heap.size,1,none⟩ y).cell? ⟨w.heap.size,0,none⟩=some x∧((ww.setCell ⟨w.heap.size,0,none⟩ x).setCell ⟨w.heap.size,1,none⟩ y).cell? ⟨w.heap.size,1,none⟩=some y)∧Kept (fun k=>k=w.heap.size) ww ((ww.setCell ⟨w.heap.size,0,none⟩ x).setCell ⟨w.heap.size,1,none⟩ y)∧Same0 w ((ww.setCell ⟨w.heap.size,0,none⟩ x).setCell ⟨w.heap.size,1,none⟩ y)):=fun ww x y hk=>by
  have h1:=hk.at0 hbx
  have h2:=setAt (setAt h1 0 x) 1 y
  have k1:=kept_at ww w.heap.size 0 x
  have k2:=kept_at (ww.setCell ⟨w.heap.size,0,none⟩ x) w.heap.size 1 y
  have k3:=Kept.trans k1 k2 (fun _ _ e=>e)
  exact ⟨⟨cellAt h2 0,cellAt h2 1⟩,k3,Kept.trans (KW.trans' hk) k3 (fun i hi e=>by omega)⟩
 have CK:Hid (∀ ww,Same0 w ww→Calls Tryz.prog 59 #[.pointer (some ⟨b,0,none⟩),.slice ao T.length cap] ww fun e w' => e=.returned (.int .i64 (checkE L T))∧Same0 ww w'):=fun ww hk=>check_any (h.same hk) (ht.at'.same hk) hmx
 have CV:Hid (∀ ww,Same0 w ww→Calls Tryz.prog 68 #[.slice ao T.length cap,.func (.func 93) #[] #[]] ww fun e w' => e=.returned (.bool (T.any (fun x=>decide (x<0))))∧w' = ww):=fun ww hk=>containsf_cvar (ht.at'.same hk) hmx
 have C1:=CK.out W1 KW
 obtain ⟨⟨r0,r1⟩,f0,f1⟩:=RC.out W1 (Kept.refl _ _)
 have NO:Hid (clsB L T=false→∀ ww,Same0 w ww→VwAt w.heap.size ww L (clsB L T) T (.agg #[.slice none 0 0,.slice none 0 0])∧Same0 w ww):=fun e ww hk=>by rw [e];exact ⟨vw_none _ _ _ _,hk⟩
 by_cases hz:checkE L T=0
 ·rw [hz] at C1
  cases hv:T.any (fun x=>decide (x<0)) with
  | true=>
   rw [hv] at CV
   have hc:clsB L T=false:=by simp [clsB,hv]
   have FIN:=NO.out hc
   have HF:Hid _:=FIN
   clear FIN hv hc NO ht h hz
   go_enter Tryz.func48,Tryz.ntmps48
   go_upto_region 1 with fail
   rw [← hW1]
   clear hW1
   go_upto_region 2 with (first
    | (go_at_call 59;refine C1.mono ?_;rintro e w2 ⟨rfl,k2⟩;have C2:=CV.out w2 (KW.trans' k2))
    | (go_at_call 68;refine C2.mono ?_;rintro e w3 ⟨rfl,rfl⟩;obtain ⟨⟨r2,r3⟩,f2,f3⟩:=RC.out _ k2))
   go_wp2_with fail
   obtain ⟨⟨g0,g1⟩,kk,ks⟩:=PUT.out _ (.slice none 0 0) (.slice none 0 0) k2
   exact bodyPost_ret (v:=.agg #[.slice none 0 0,.slice none 0 0]) (by simp [results,Tryz.results48,go_sem,g0,g1]) rfl ⟨_,_,_,_,_,_,rfl,HF.out _ ks⟩
  | false=>
   rw [hv] at CV
   have hc:clsB L T=true:=by simp [clsB,hv,hz]
   have hpos:∀ x∈T,0≤x:=fun x hx=>by
    have:=List.any_eq_false.1 hv x hx
    simpa using this
   have CT:Hid (∀ ww,Same0 w ww→Calls Tryz.prog 94 #[.slice ao T.length cap] ww fun e w' => ∃ go gc,e=.returned (.slice go T.length gc)∧Hid (IntsAt w' go T∧∀ a,go=some a→ww.heap.size≤a.block)∧Same0 ww w'):=fun ww hk=>by
    refine (clone_term ((ht.at'.same hk)) (isT_pos (checkE_zero.1 hz).2.2) (checkE_zero.1 hz).1).mono ?_
    rintro e w' ⟨v,rfl,hr,hk'⟩
    obtain ⟨go,gc,rfl,g1,g2,g3⟩:=hr.ints
    exact ⟨go,gc,rfl,⟨g1,fun a e=>(g3 a e).1⟩,hk'⟩
   have CA:Hid (∀ ww,Same0 w ww→Calls Tryz.prog 95 #[.pointer (some ⟨b,0,none⟩),.slice ao T.length cap] ww fun e w' => ∃ go gc,e=.returned (.slice go T.length gc)∧Hid (PsB ww.heap.size w' go (argsL L T))∧Same0 ww w'):=fun ww hk=>argsOf_any (h.same hk) (ht.at'.same hk) hz hpos
   clear NO ht h hz hv
   go_enter Tryz.func48,Tryz.ntmps48
   go_upto_region 1 with fail
   rw [← hW1]
   clear hW1
   go_upto_region 3 with (first
    | (go_at_call 59;refine C1.mono ?_;rintro e w2 ⟨rfl,k2⟩;have C2:=CV.out w2 (KW.trans' k2))
    | (go_at_call 68;refine C2.mono ?_;rintro e w3 ⟨rfl,rfl⟩))
   have C3:=CT.out _ (KW.trans' k2)
   go_wp2_with (first
    | (go_at_call 94;refine C3.mono ?_;rintro e w4 ⟨go,gc,rfl,hg,k4⟩;have C4:=CA.out w4 ((KW.trans' k2).trans' k4))
    | (go_at_call 95;refine C4.mono ?_;rintro e w5 ⟨lo,lc,rfl,hl,k5⟩;obtain ⟨⟨r2,r3⟩,f2,f3⟩:=RC.out _ ((k2.trans' k4).trans' k5)))
   obtain ⟨⟨g0,g1⟩,kk,ks⟩:=PUT.out _ (.slice go T.length gc) (.slice lo T.length lc) ((k2.trans' k4).trans' k5)
   have z2:=(KW.trans' k2).size
   have z4:=k4.size
   have zW:=lt_of_at hbx
   have zk:=k2.size
   refine bodyPost_ret (v:=.agg #[.slice go T.length gc,.slice lo T.length lc]) (by simp [results,Tryz.results48,go_sem,g0,g1]) rfl ⟨_,_,_,_,_,_,rfl,?_,ks⟩
   rw [hc]
   obtain ⟨q1,q2⟩:=hg.out
   refine ⟨go,gc,lo,lc,rfl,fun _=>⟨(q1.same k5).kept kk (fun a e=>by have:=q2 a e;omega),fun a e=>by have:=q2 a e;omega,?_⟩⟩
   have hP:=hl.out
   rcases hP with e0 | ⟨b', off,rfl,a1,a2,a3⟩
   ·exact .inl e0
   ·refine .inr ⟨b', off,rfl,by omega,Nat.lt_of_lt_of_le a2 kk.size,fun i hi=>?_⟩
    obtain ⟨xo,xc,y1,y2,y3⟩:=a3 i hi
    exact ⟨xo,xc,(kk.cell (p:=⟨b', off+i,none⟩) a2 (fun e=>by have e' : b' = w.heap.size:=e;omega)).trans y1,y2.kept kk (fun a e=>by have:=y3 a e;omega),fun a e=>by have:=y3 a e;omega⟩
 ·have hc:clsB L T=false:=by simp [clsB,hz]
  have FIN:=NO.out hc
  have HF:Hid _:=FIN
  have hz' : (checkE L T == 0)=false:=by simpa using hz
  generalize checkE L T=z at *
  clear FIN hc NO ht h CV CK
  go_enter Tryz.func48,Tryz.ntmps48
  go_upto_region 1 with fail
  rw [← hW1]
  clear hW1
  go_wp2_with (first
   | (go_at_call 59;refine C1.mono ?_;rintro e w2 ⟨rfl,k2⟩;obtain ⟨⟨r2,r3⟩,f2,f3⟩:=RC.out _ k2))
  obtain ⟨⟨g0,g1⟩,kk,ks⟩:=PUT.out _ (.slice none 0 0) (.slice none 0 0) k2
  exact bodyPost_ret (v:=.agg #[.slice none 0 0,.slice none 0 0]) (by simp [results,Tryz.results48,go_sem,g0,g1]) rfl ⟨_,_,_,_,_,_,rfl,HF.out _ ks⟩
set_option maxHeartbeats 8000000 in
theorem radd_yes {w:World} {m:Nat} {ro:Option Addr} {rc:Nat} {L:List Sym} {R:List Ru} {lv:Value} {vs:List Value} (h:MO w m ro rc L R lv vs) {lo:Option Addr} {lc:Nat} {l:List Ru} (hl:RsAt w lo l) (hll:l.length≤140737488355328) (hln:lo=none→lc=0) (ha:Ans L R l []) (hok:∀ x∈l,checkE L x.1=0∧checkE L x.2=0) (hlen:R.length+l.length≤100)
  (hlk:∀ ww,Kept (fun q=>q=m∨lv.ownBlock=some q) w ww→RsAt ww lo l) :
  Calls Tryz.prog 34 #[.pointer (some ⟨m,0,none⟩),.slice lo l.length lc] w fun e w' => ∃ lv' vs', e=.returned (.slice none 0 0)∧MO w' m ro rc L (R++l) lv' vs' ∧ (∀ q,lv'.ownBlock=some q→lv.ownBlock=some q∨w.heap.size≤q)∧Kept (fun q=>q=m∨lv.ownBlock=some q) w w' := by
 obtain ⟨mo,mc,hlv,hm⟩:=h.read
 have CK:=rchk_any hm (lc:=lc) hl hll hln
 have c1:=cellAt h.blk 1
 have HH:Hid (∀ ww,Same0 w ww→MO ww m ro rc L R lv vs):=fun ww hk=>h.same hk
 clear hlv hm hl h
 go_enter Tryz.func34,Tryz.ntmps34
 go_wp2_with (first | (go_at_call 78;refine CK.mono ?_;rintro e w1 ⟨ws,v,rfl,hws,hwa,hk1⟩;obtain rfl:ws=[]:=hws.uniq ha;obtain ⟨wo,wc', rfl,_⟩:=hwa))
 have M1:=HH.out w1 hk1
 have K1:Kept (fun q=>q=m∨lv.ownBlock=some q) w w1:=Kept.mono hk1 (fun _ _ f=>f.elim)
 clear HH CK hk1 c1
 go_loopw [6] (fun i wr=>∃ (k:Nat) (lk:Value) (vk:List Value),k≤l.length∧i=.int .i64 (k:Int)∧Hid (MO wr m ro rc L (R++l.take k) lk vk)∧Hid (∀ q,lk.ownBlock=some q→lv.ownBlock=some q∨w.heap.size≤q)∧Kept (fun q=>q=m∨lv.ownBlock=some q) w wr) (fun i _=>l.length-(intOf i).toNat)
 case atStart=>exact ⟨0,lv,vs,Nat.zero_le _,rfl,by simpa [Hid] using M1,(fun q e=>.inl e),K1⟩
 case round=>
  clear M1 K1
  obtain ⟨k,lk,vk,hk,rfl,hM,hB,hw⟩:=hrel
  by_cases hlt:k<l.length
  ·obtain ⟨gb,goff,rfl,hgb,go1,gc1,go2,gc2,r0,r1,A1,A2⟩:=(hlk wr hw).get hlt
   have hxk:=hok _ (List.getElem_mem hlt)
   have hxl:=ok_len hxk
   obtain ⟨a1,rfl⟩:∃ a1,go1=some a1:=by
    cases go1 with
    | none=>have:=(A1.nil rfl).1;omega
    | some a=>exact ⟨a,rfl⟩
   obtain ⟨a2,rfl⟩:∃ a2,go2=some a2:=by
    cases go2 with
    | none=>have:=(A2.nil rfl).1;omega
    | some a=>exact ⟨a,rfl⟩
   have i1:(0:Int)≤(k:Int):=by omega
   have i2:(k:Int)<(l.length:Int):=by omega
   have hn:(R++l.take k).length=R.length+k:=by simp;omega
   have CELLS:Hid (∀ ww,Same0 wr ww→ww.cell? ⟨m,1,none⟩=some lk∧ww.cell? ⟨gb,goff+k * 2,none⟩=some (.slice (some a1) l[k].1.length gc1)∧ww.cell? ⟨gb,goff+k * 2+1,none⟩=some (.slice (some a2) l[k].2.length gc2)):=fun ww hk=>⟨cellAt (hk.at0 hM.out.blk) 1,(hk.cell (p:=⟨gb,goff+k * 2,none⟩) hgb (fun f=>f)).trans r0,(hk.cell (p:=⟨gb,goff+k * 2+1,none⟩) hgb (fun f=>f)).trans r1⟩
   have CO:Hid (∀ ww,Same0 wr ww→Calls Tryz.prog 79 #[.agg #[.slice (some a1) l[k].1.length gc1,.slice (some a2) l[k].2.length gc2]] ww fun e w' => ∃ g c g' c', e=.returned (.agg #[.slice (some ⟨g,0,none⟩) l[k].1.length c,.slice (some ⟨g', 0,none⟩) l[k].2.length c'])∧TmAt w' g c l[k].1∧TmAt w' g' c' l[k].2∧Same0 wr w'):=fun ww hk=>(rown_any (ac:=gc1) (bc:=gc2) (A1.same hk).at' (A2.same hk).at' hxl.1.1 hxl.2.1 hxl.1.2 hxl.2.2).mono (fun e w' ⟨g,c,g', c', q1,q2,q3,_,_,q4⟩=>⟨g,c,g', c', q1,q2,q3,hk.trans' q4⟩)
   have W1:Same0 wr wr.drew:=Kept.drew (Kept.refl _ _)
   have CC0:=CELLS.out wr (Kept.refl _ _)
   have HRW:Hid (∀ ww,Same0 wr ww→ww.ownsRow 0 68 2 lk (R.length+k) vk):=fun ww hk=>by rw [← hn];exact (hM.out.same hk).row
   have h48:(R.length+k+1) * 48≤140737488355328:=by omega
   have FIN:Hid (∀ w2 g c g' c' gg cap w9,Same0 wr w2→TmAt w2 g c l[k].1→TmAt w2 g' c' l[k].2→w9.ownsRow 0 68 2 (.slice (some ⟨gg,0,none⟩) (R.length+k+1) cap) (R.length+k+1) (vk ++ [.slice (some ⟨g,0,none⟩) l[k].1.length c,.slice (some ⟨g', 0,none⟩) l[k].2.length c'])→Kept (fun q=>lk.ownBlock=some q) w2 w9→(lk.ownBlock=some gg∨w2.heap.size≤gg)→(w9.cell? ⟨m,1,none⟩=some lk∧w9.frozen? ⟨m,1,none⟩=false)∧Hid (∃ (k' : Nat) (lk' : Value) (vk' : List Value),k' ≤ l.length∧Value.int .i64 ((k:Int)+1)=.int .i64 (k' : Int)∧lk' = .slice (some ⟨gg,0,none⟩) (R.length+k+1) cap∧Hid (MO (w9.setCell ⟨m,1,none⟩ (.slice (some ⟨gg,0,none⟩) (R.length+k+1) cap)) m ro rc L (R++l.take k') lk' vk')∧Hid (∀ q,lk'.ownBlock=some q→lv.ownBlock=some q∨w.heap.size≤q)∧Kept (fun q=>q=m∨lv.ownBlock=some q) w (w9.setCell ⟨m,1,none⟩ (.slice (some ⟨gg,0,none⟩) (R.length+k+1) cap)))):=by
    intro w2 g c g' c' gg cap w9 s2 t1 t2 r9 k9 hat
    have:=hM.out.more (gg:=gg) (cap:=cap) s2 t1 t2 hxk (by omega) (by rw [hn];exact r9) k9
    rw [hn] at this
    refine ⟨this.1,k+1,_,vk ++ [.slice (some ⟨g,0,none⟩) l[k].1.length c,.slice (some ⟨g', 0,none⟩) l[k].2.length c'],hlt,rfl,rfl,?_,?_,?_⟩
    ·show MO _ m ro rc L (R++l.take (k+1)) _ _
     rw [List.take_add_one,List.getElem?_eq_getElem hlt,← List.append_assoc];exact this.2
    ·intro q e
     simp only [Value.ownBlock,Option.some.injEq] at e
     subst e
     rcases hat with e | e
     ·exact hB.out _ e
     ·have:=hw.size;have:=s2.size;exact .inr (by omega)
    ·have sub:∀ q,q<w.heap.size→lk.ownBlock=some q→q=m∨lv.ownBlock=some q:=fun q hq e=>(hB.out q e).elim .inr (fun e=>absurd hq (by omega))
     exact Kept.setCell (p:=⟨m,1,none⟩) ((hw.trans (Kept.mono s2 (fun _ _ f=>f.elim)) (fun _ _ e=>e)).trans k9 (fun q hq e=>sub q hq e)) (fun _=>.inl rfl) _
   have hz0:0≤wr.heap.size:=Nat.zero_le _
   clear hM hB hw hn A1 A2 r0 r1 hxk hxl hlk
   go_wp2_with fail
   obtain ⟨x1,x2,x3⟩:=CC0
   go_region_law (first
    | (refine step_callx rfl (CO.out _ W1) (by simp [go_sem]) ?_;rintro e w2 ⟨g,c,g', c', rfl,t1,t2,hk2⟩;refine ⟨_,rfl,?_⟩;obtain ⟨cc1,cc2,cc3⟩:=CELLS.out _ hk2;obtain ⟨cd1,_,_⟩:=CELLS.out _ (hk2.alloc (.cells #[.slice (some ⟨g,0,none⟩) l[k].1.length c,.slice (some ⟨g', 0,none⟩) l[k].2.length c'] 68)))
    | (refine step_rule8 (w0:=w2) (by rfl) _ _ (by rfl) 0 (R.length+k) vk lk (by rfl) (by first | exact (Kept.refl _ w2).alloc _ | exact (Kept.refl _ w2).drew.alloc _ | exact ((Kept.refl _ w2).alloc _).drew) (HRW.out _ hk2) (.slice (some ⟨g,0,none⟩) l[k].1.length c) (.slice (some ⟨g', 0,none⟩) l[k].2.length c') w2.heap.size (by rfl) (heap_alloc_new w2 _) (by rfl) (by rfl) (Nat.zero_le _) h48 ?_;intro gg cap w9 r9 k9 hat;obtain ⟨⟨y1,y2⟩,FF⟩:=FIN.out w2 g c g' c' gg cap w9 hk2 t1 t2 r9 k9 hat))
   all_goals
    go_wp2_with fail
    obtain ⟨k', lk', vk', z1,z2,rfl,z3,z4,z5⟩:=FF.out
    exact ⟨⟨k', _,vk', z1,z2,z3,z4,z5⟩,by simp [intOf];omega⟩
  ·obtain rfl:k=l.length:=by omega
   have HM:Hid (MO wr m ro rc L (R++l) lk vk):=by have:=hM.out;rw [List.take_length] at this;exact this
   clear hM
   go_wp2
   go_ret
   exact ⟨lk,vk,rfl,HM.out,hB.out,hw⟩
set_option maxHeartbeats 4000000 in
theorem radd7_no {w:World} {m:Nat} {ro:Option Addr} {rc:Nat} {L:List Sym} {R:List Ru} {lv:Value} {vs:List Value} (h:MO w m ro rc L R lv vs) {lo:Option Addr} {lc:Nat} {l:List Ru} (hl:RsAt w lo l) (hll:l.length≤140737488355328) (hln:lo=none→lc=0) {ws:List (Int × Int)} (ha:Ans L R l ws) (hne:ws≠[]) :
  Calls Tryz.prog 34 #[.pointer (some ⟨m,0,none⟩),.slice lo l.length lc] w fun e w' => ∃ v,e=.returned v∧WrsAt w' v ws∧Same0 w w' := by
 obtain ⟨mo,mc,hlv,hm⟩:=h.read
 have CK:=rchk_any hm (lc:=lc) hl hll hln
 have hp:(0:Int)<(ws.length:Int):=by have:=List.length_pos_iff.2 hne;omega
 have HW:Hid (∀ w1 v,WrsAt w1 v ws→∃ wo wc,v=.slice wo ws.length wc∧Hid (WrsAt w1 v ws)):=fun w1 v hv=>by
  obtain ⟨wo,wc,e,_⟩:=id hv
  exact ⟨wo,wc,e,hv⟩
 clear hlv hm hl h
 go_enter Tryz.func34,Tryz.ntmps34
 go_wp2_with (first | (go_at_call 78;refine CK.mono ?_;rintro e w1 ⟨ws', v,rfl,hws,hwa,hk1⟩;obtain rfl:ws' = ws:=hws.uniq ha;obtain ⟨wo,wc', rfl,hwh⟩:=HW.out _ _ hwa;clear hwa))
 go_ret
 exact ⟨_,rfl,hwh.out,hk1⟩
end Go.Proofs.YtjahpnbijefncaaGreat
namespace Go.Proofs.YtjahpnbijefncaaGreat
set_option maxRecDepth 100000
set_option linter.unusedVariables false
open Go.RowKit Go.Deep
attribute [local go_sem ↓] Go.wp_at_zero Go.wp_at_succ
section
variable {H : Type} {enc : TypeId × Value → H} {w : World} {spare : Nat → Bool} {held : Bool}
end
end Go.Proofs.YtjahpnbijefncaaGreat
