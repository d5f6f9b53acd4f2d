import Derived.Test.YtdhiiicppcgkbaaGreatGW29
import Derived.Test.YtdhiiicppcgkbaaGreatGW18
import Derived.Test.YtdhiiicppcgkbaaGreatGW15
namespace Go.Proofs.YtdhiiicppcgkbaaGreat
set_option maxRecDepth 100000
set_option linter.unusedVariables false
open Go.RowKit Go.Shelf
attribute [local go_sem] Oper.semAt_some
theorem cerr_ne1 (v:Value) (w:World):(binOp .neq 47 (.iface 123 v) .nilIface).run Tryz.prog w=.ok (.bool true) w:=by kernel_rfl
def ZErr (w W:World):Prop:=∃ q,W.heap[w.heap.size+1]? = some (.cells #[.slice none 0 0,.slice none 0 0,.slice none 0 0,.slice none 0 0] 45 (0,0))∧W.heap[w.heap.size+1+1]? = some (.cells #[.iface 123 (.pointer (some ⟨q,0,none⟩))] 47 (0,0))∧Same0 w W
set_option maxHeartbeats 32000000 in
theorem compile_err {w:World} {b bs:Nat} {L:List Sym} {R:List Ru} {lv:Value} {vs:List Value} (h:StAt w b bs L R lv vs) {K:Nat} (hKL:K<L.length) (hdK:defB L (K:Int)=true) {z:Int} (hz:treeF L R K=.error z) (hall:∀ k,k<K→defB L (k:Int)=true→∃ t,treeF L R k=.ok t) :
  Calls Tryz.prog 16 #[.pointer (some ⟨b,0,none⟩)] w fun e w' => ∃ q,e=.returned (.tuple #[.agg #[.slice none 0 0,.slice none 0 0,.slice none 0 0,.slice none 0 0],.iface 123 (.pointer (some ⟨q,0,none⟩))])∧Same0 w w' := by
 have hFn:∀ k,Fence.wide.fn k:=fun _=>trivial
 have hpn:=cnil_ptr
 have hen:=cnil_err
 have hen1:=cerr_ne1
 have hle:=h.le
 have hok:=h.ok
 have hArs:=h.sig.2
 have hL64:L.length≤64:=by obtain ⟨⟨sv,mr,hs,_⟩,_⟩:=h.sig;exact hs.len
 obtain ⟨W1,hW1⟩:∃ W1,W1=((w.alloc (.cells #[.pointer (some ⟨b,0,none⟩)] 39)).alloc (.cells #[.slice none 0 0,.slice none 0 0,.slice none 0 0,.slice none 0 0] 45)).alloc (.cells #[.nilIface] 47):=⟨_,rfl⟩
 have KW:Same0 w W1:=by rw [hW1];exact (((Kept.refl _ w).alloc _).alloc _).alloc _
 have ez:W1.heap.size=w.heap.size+1+1+1:=by rw [hW1];simp
 have BK:Hid (∀ ww,Same0 W1 ww→ww.heap[w.heap.size]? = some (.cells #[.pointer (some ⟨b,0,none⟩)] 39 (0,0))∧ww.heap[w.heap.size+1]? = some (.cells #[.slice none 0 0,.slice none 0 0,.slice none 0 0,.slice none 0 0] 45 (0,0))∧ww.heap[w.heap.size+1+1]? = some (.cells #[.nilIface] 47 (0,0))):=fun ww hk=>by
  have k1:Same0 (w.alloc (.cells #[.pointer (some ⟨b,0,none⟩)] 39)) W1:=by rw [hW1];exact ((Kept.refl _ _).alloc _).alloc _
  have k2:Same0 ((w.alloc (.cells #[.pointer (some ⟨b,0,none⟩)] 39)).alloc (.cells #[.slice none 0 0,.slice none 0 0,.slice none 0 0,.slice none 0 0] 45)) W1:=by rw [hW1];exact (Kept.refl _ _).alloc _
  have h3:=heap_al_al (w.alloc (.cells #[.pointer (some ⟨b,0,none⟩)] 39)) (.cells #[.slice none 0 0,.slice none 0 0,.slice none 0 0,.slice none 0 0] 45) (.cells #[.nilIface] 47)
  rw [World.size_alloc] at h3
  exact ⟨hk.at0 (k1.at0 (heap_alloc_new w _)),hk.at0 (k2.at0 (heap_al_al _ _ _)),hk.at0 (by rw [hW1];exact h3)⟩
 have r0:W1.cell? ⟨w.heap.size,0,none⟩=some (.pointer (some ⟨b,0,none⟩)):=cellAt (BK.out W1 (Kept.refl _ _)).1 0
 have CS:=(callsIn_wide (n:=8)).2 (ssig_any (h.same KW))
 refine (callsIn_wide (n:=9)).1 ?_
 refine callsIn_of_wp_marks Tryz.func16 rfl trivial ?_ rfl
 simp only [Tryz.ntmps16,List.size_toArray,List.length_cons,List.length_nil,Nat.reduceAdd,Nat.reduceSub,Array.replicate_succ,Array.replicate_zero,List.push_toArray,List.append_toArray,List.nil_append,List.cons_append]
 gi_upto_region 1 with fail
 rw [← hW1]
 clear hW1
 gi_upto_region 4 with (gi_at_call 50;refine CS.mono ?_;rintro e w1 ⟨bt,rfl,hbt,sv,mr,hsig,hfoot,k1'⟩)
 have k1:Same0 W1 w1:=k1'
 have K1:Same0 w w1:=KW.trans' k1
 have hzw:=k1.size
 gi_wp2_with (gi_at_call 51;refine (all_in Fence.wide _ trivial rfl _ _).mono ?_;rintro e w' ⟨rfl,rfl⟩)
 obtain ⟨W0,hW0⟩:∃ W0,W0=((w1.alloc (.cells #[.slice none 0 0,.slice none 0 0] 117)).alloc (.cells #[.slice none 0 0] 22)).alloc (.cells #[.pointer (some ⟨bt,0,none⟩)] 38):=⟨_,rfl⟩
 have K0:Same0 w1 W0:=by rw [hW0];exact (((Kept.refl _ _).alloc _).alloc _).alloc _
 have z0:W0.heap.size=w1.heap.size+3:=by rw [hW0];simp
 have b0:W0.heap[w1.heap.size]? = some (.cells #[.slice none 0 0,.slice none 0 0] 117 (0,0)):=by
  rw [hW0,heap_alloc_old _ _ (by simp;omega)];exact heap_alloc2_old _ _ _
 have b1:W0.heap[w1.heap.size+1]? = some (.cells #[.slice none 0 0] 22 (0,0)):=by
  rw [hW0,heap_alloc_old _ _ (by simp)];exact heap_al_al _ _ _
 have b2:W0.cell? ⟨w1.heap.size+1+1,0,none⟩=some (.pointer (some ⟨bt,0,none⟩)):=by
  have:=heap_al_al (w1.alloc (.cells #[.slice none 0 0,.slice none 0 0] 117)) (.cells #[.slice none 0 0] 22) (.cells #[.pointer (some ⟨bt,0,none⟩)] 38)
  simp only [World.size_alloc] at this
  rw [← hW0] at this
  exact cellAt this 0
 rw [← hW0]
 clear hW0
 have START:CpJ L R w1 0 W0:=⟨K0,.slice none 0 0,b1,World.ownsRow_nil _ _ _ _,.slice none 0 0,.slice none 0 0,b0,(fun e=>by rcases e with e | e | e <;> first | omega | (simp [Value.ownBlock] at e)),Lay.nil _ _⟩
 have ST:Hid (∀ X,Same0 w1 X→StAt X b bs L R lv vs∧X.cell? ⟨w.heap.size,0,none⟩=some (.pointer (some ⟨b,0,none⟩))):=fun X hk=>⟨h.same (K1.trans' hk),cellAt (BK.out X (k1.trans' hk)).1 0⟩
 refine wp_handsX rfl (by omega) (gf:=93) (lb:=#[.pointer (some ⟨w1.heap.size+1+1,0,none⟩)]) rfl trivial (enters_of Tryz.func93 (by kernel_rfl) rfl) (B:=w1.heap.size) (by omega) (hands_symsX hsig K0 b2 (by omega)) (fun k vs W h=>by obtain ⟨_,rfl⟩:=h;rfl)
  (fun k W=>k≤K∧CpJ L R w1 k W) (fun k X Y h hk=>⟨h.1,h.2.up hk⟩) (fun k X l o o' h hl ho hw=>⟨h.1,h.2.put hl ho (by omega)⟩) ⟨Nat.zero_le _,START⟩ (ZErr w) (fun X Y h hk=>by
   obtain ⟨q,h1,h2,h3⟩:=h
   exact ⟨q,hk.at0 h1,hk.at0 h2,h3.trans' hk⟩) (fun X l o o' h hl ho hw=>by
   obtain ⟨q,h1,h2,h3⟩:=h
   have kk:Kept (fun k=>k=l) X (X.putObj l o'):=kept_put
   exact ⟨q,putObj_at hl ho h1 rfl,putObj_at hl ho h2 rfl,Kept.trans h3 kk (fun i hi e=>by have e' : i=l:=e;omega)⟩) ?round ?done ?stop
 case done=>
  rintro D W hD ⟨hj,_⟩ hD2
  omega
 case stop=>
  rintro D W hD ⟨q,h1,h2,h3⟩ hD2
  have ks:Kept (fun q=>q=D) W (W.putObj D (.deferred none)):=kept_put
  have gZ:=(World.putObj_heap_other (w:=W) (r:=D) (o:=.deferred none) (k:=w.heap.size+1) (by omega)).trans h1
  have nZ:=(World.putObj_heap_other (w:=W) (r:=D) (o:=.deferred none) (k:=w.heap.size+1+1) (by omega)).trans h2
  have v0:=cellAt gZ 0
  have v1:=cellAt gZ 1
  have v2:=cellAt gZ 2
  have v3:=cellAt gZ 3
  have v4:=cellAt nZ 0
  simp only [List.getElem?_toArray,List.getElem?_cons_zero,List.getElem?_cons_succ] at v0 v1 v2 v3 v4
  clear START
  gi_wp2_with fail
  refine ⟨by simp,.inl ⟨_,_,rfl,run_takeDeferred hD2,?_⟩⟩
  exact ⟨.tuple #[.agg #[.slice none 0 0,.slice none 0 0,.slice none 0 0,.slice none 0 0],.iface 123 (.pointer (some ⟨q,0,none⟩))],by simp [results,Tryz.results16,go_sem,v0,v1,v2,v3,v4],q,rfl,Kept.trans h3 ks (fun i hi e=>by have e' : i=D:=e;omega)⟩
 case round=>
  rintro l k vs W hk hl hlW ⟨hkK,hj⟩ ⟨hk', rfl⟩
  obtain ⟨Wa,hWa⟩:∃ Wa,Wa=W.alloc (.cells #[.string L[k].name,.int .i64 L[k].ar,.bool L[k].df] 82):=⟨_,rfl⟩
  have ka:Same0 W Wa:=by rw [hWa];exact (Kept.refl _ _).alloc _
  have bx:Wa.heap[W.heap.size]? = some (.cells #[.string L[k].name,.int .i64 L[k].ar,.bool L[k].df] 82 (0,0)):=by rw [hWa];exact heap_alloc_new _ _
  gi_wp2_with fail
  rw [← hWa]
  clear hWa
  refine ⟨Rnd.same ka (by omega),fun o o' ho hoc hoc' => ?_⟩
  have hjb:=(hj.up ka).put (o' := o') ho hoc (by omega)
  have bxb:=putObj_at (o' := o') ho hoc bx rfl
  have lob:(Wa.putObj l o').heap[l]? = some o' := World.putObj_heap_same (lt_of_at ho)
  obtain ⟨Wb,hWb⟩:∃ Wb,Wb=Wa.putObj l o' := ⟨_,rfl⟩
  rw [← hWb] at hjb bxb lob ⊢
  have hzb:W0.heap.size≤Wb.heap.size:=by have:=lt_of_at lob;omega
  clear hWb ho bx hj ka
  have y2:Wb.cell? ⟨W.heap.size,2,none⟩=some (.bool L[k].df):=cellAt bxb 2
  obtain ⟨j1,ev,j2,j3,j4⟩:=hjb
  obtain ⟨sm1,sm2⟩:=cmpS_small hArs hL64 hle hok k (by omega)
  have c2:=cellAt j2 0
  simp only [List.getElem?_toArray,List.getElem?_cons_zero] at c2
  obtain ⟨eo,ec,rfl⟩:=row_shape j3
  obtain ⟨i0,hi0,hz0,hz1,hz2⟩:=info_parts info_intT
  have bb1:(cmpS L R k).2.length+1≤maxLen:=by unfold maxLen;omega
  have bb2:((cmpS L R k).2.length+1) * 8≤140737488355328:=by omega
  have hdf:=defB_at hk'
  have hj1:=j1.size
  cases hd:L[k].df with
  | false=>
   rw [hd] at hdf y2
   have hk1:k+1≤K:=by
    have:k≠K:=fun e=>by subst e;rw [hdf] at hdK;cases hdK
    omega
   have MORE:Hid (∀ w2 ev', w2.ownsRow w1.heap.size 3 1 ev' ((cmpS L R k).2.length+1) (iv (cmpS L R k).2 ++ [.int .i64 (-1)])→Kept (fun q=>(Value.slice eo (cmpS L R k).2.length ec).ownBlock=some q) Wb w2→(∀ q,ev'.ownBlock=some q→(Value.slice eo (cmpS L R k).2.length ec).ownBlock=some q∨Wb.heap.size≤q)→(w2.cell? ⟨w1.heap.size+1,0,none⟩=some (.slice eo (cmpS L R k).2.length ec)∧w2.frozen? ⟨w1.heap.size+1,0,none⟩=false)∧CpJ L R w1 (k+1) (w2.setCell ⟨w1.heap.size+1,0,none⟩ ev')∧Rnd (w1.heap.size+3) w1.heap.size Wb (w2.setCell ⟨w1.heap.size+1,0,none⟩ ev')):=fun w2 ev' hr hkp hat=>by
    obtain ⟨q1,q2,q3⟩:=CpJ.pass (D:=w1.heap.size+3) hdf j1 j2 j3 j4 hr hkp hat
    exact ⟨⟨cellAt q1 0,frozenAt q1 0⟩,q2,q3⟩
   have hj3:Hid (Wb.ownsRow w1.heap.size 3 1 (.slice eo (cmpS L R k).2.length ec) (cmpS L R k).2.length (iv (cmpS L R k).2)):=j3
   have bb3:w1.heap.size≤(Wb.alloc (.cells #[.int .i64 (-1)] 3)).heap.size:=by simp;omega
   clear j1 j2 j3 j4 bxb lob sm1 sm2 hd ST
   generalize (cmpS L R k).2=EE at *
   gi_wp2_with (gi_at_builtin;refine wpListIn_append_own_at _ rfl _ _ 22 rfl w1.heap.size 3 i0 (.int .i64 0) 1 8 Tryz.underlying22 hi0 hz0 hz1 hz2 rfl (by decide) (.slice eo EE.length ec) EE.length (iv EE) rfl (World.ownsRow.alloc hj3.out _) ⟨Wb.heap.size,0,none⟩ 1 1 [.int .i64 (-1)] rfl rfl (cell_one_new _ _ _) (by simp [Value.oneCell']) bb1 bb2 bb3 ?_;intro v' w2 hown' hgrow _ hat;obtain ⟨g9,cap9,rfl⟩:=ownsRow_succ hown'; obtain ⟨⟨m1', m2'⟩,m3,m4⟩:=MORE.out w2 _ hown' (Kept.grown (Kept.alloc (Kept.refl _ Wb) _) hgrow (fun _ e _=>e)) (hat_of hat (by simp)))
  | true=>
   rw [hd] at hdf y2
   obtain ⟨hstb,rb⟩:=ST.out Wb j1
   by_cases ekK:k=K
   ·subst ekK
    have CB:Calls Tryz.prog 35 #[.pointer (some ⟨b,0,none⟩),.int .i64 (k:Int)] Wb fun e w' => ∃ q,e=.returned (.tuple #[.agg #[.int .i64 0,.int .i64 0,.slice none 0 0,.slice none 0 0],.iface 123 (.pointer (some ⟨q,0,none⟩))])∧Same0 Wb w' := by
     refine (build_any hstb (k:Int)).mono ?_
     rintro e w' ⟨hk9,h9⟩
     rw [if_pos hdf,Int.toNat_natCast,hz] at h9
     obtain ⟨v,rfl,hf⟩:=h9
     rcases hf with ⟨q,_⟩ | ⟨_,q,u,e1,_⟩
     ·omega
     ·subst e1;exact ⟨q,rfl,hk9⟩
    have CX:Hid (∀ w3,Same0 Wb w3→(w3.heap[w.heap.size+1]? = some (.cells #[.slice none 0 0,.slice none 0 0,.slice none 0 0,.slice none 0 0] 45 (0,0))∧w3.heap[w.heap.size+1+1]? = some (.cells #[.nilIface] 47 (0,0)))∧Same0 w w3):=fun w3 hk3=>by
     obtain ⟨a1,a2,a3⟩:=BK.out w3 ((k1.trans' j1).trans' hk3)
     exact ⟨⟨a2,a3⟩,K1.trans' (j1.trans' hk3)⟩
    have FINX:Hid (∀ w3 q,Same0 Wb w3→((w3.cell? ⟨w.heap.size+1,0,none⟩=some (.slice none 0 0)∧w3.cell? ⟨w.heap.size+1,1,none⟩=some (.slice none 0 0)∧w3.cell? ⟨w.heap.size+1,2,none⟩=some (.slice none 0 0)∧w3.cell? ⟨w.heap.size+1,3,none⟩=some (.slice none 0 0))∧(w3.frozen? ⟨w.heap.size+1,0,none⟩=false∧w3.frozen? ⟨w.heap.size+1,1,none⟩=false∧w3.frozen? ⟨w.heap.size+1,2,none⟩=false∧w3.frozen? ⟨w.heap.size+1,3,none⟩=false))∧(((((w3.setCell ⟨w.heap.size+1,0,none⟩ (.slice none 0 0)).setCell ⟨w.heap.size+1,1,none⟩ (.slice none 0 0)).setCell ⟨w.heap.size+1,2,none⟩ (.slice none 0 0)).setCell ⟨w.heap.size+1,3,none⟩ (.slice none 0 0)).cell? ⟨w.heap.size+1+1,0,none⟩=some .nilIface∧((((w3.setCell ⟨w.heap.size+1,0,none⟩ (.slice none 0 0)).setCell ⟨w.heap.size+1,1,none⟩ (.slice none 0 0)).setCell ⟨w.heap.size+1,2,none⟩ (.slice none 0 0)).setCell ⟨w.heap.size+1,3,none⟩ (.slice none 0 0)).frozen? ⟨w.heap.size+1+1,0,none⟩=false)∧KeepsFrom (w1.heap.size+3) Wb (((((w3.setCell ⟨w.heap.size+1,0,none⟩ (.slice none 0 0)).setCell ⟨w.heap.size+1,1,none⟩ (.slice none 0 0)).setCell ⟨w.heap.size+1,2,none⟩ (.slice none 0 0)).setCell ⟨w.heap.size+1,3,none⟩ (.slice none 0 0)).setCell ⟨w.heap.size+1+1,0,none⟩ (.iface 123 (.pointer (some ⟨q,0,none⟩))))∧ZErr w (((((w3.setCell ⟨w.heap.size+1,0,none⟩ (.slice none 0 0)).setCell ⟨w.heap.size+1,1,none⟩ (.slice none 0 0)).setCell ⟨w.heap.size+1,2,none⟩ (.slice none 0 0)).setCell ⟨w.heap.size+1,3,none⟩ (.slice none 0 0)).setCell ⟨w.heap.size+1+1,0,none⟩ (.iface 123 (.pointer (some ⟨q,0,none⟩))))):=fun w3 q hk3=>by
     obtain ⟨⟨a2,a3⟩,a4⟩:=CX.out w3 hk3
     obtain ⟨p1,p2⟩:=put4_raw a2 (.slice none 0 0) (.slice none 0 0) (.slice none 0 0) (.slice none 0 0)
     have n1:=p2.at a3 (fun e=>(by have e' : w.heap.size+1+1=w.heap.size+1:=e;omega))
     have k5:=kept_at ((((w3.setCell ⟨w.heap.size+1,0,none⟩ (.slice none 0 0)).setCell ⟨w.heap.size+1,1,none⟩ (.slice none 0 0)).setCell ⟨w.heap.size+1,2,none⟩ (.slice none 0 0)).setCell ⟨w.heap.size+1,3,none⟩ (.slice none 0 0)) (w.heap.size+1+1) 0 (.iface 123 (.pointer (some ⟨q,0,none⟩)))
     have k35:=Kept.trans (p2.mono (S' := fun q=>q=w.heap.size+1∨q=w.heap.size+1+1) (fun _ _ e=>.inl e)) k5 (fun _ _ e=>.inr e)
     have g5:=k5.at p1 (fun e=>(by have e' : w.heap.size+1=w.heap.size+1+1:=e;omega))
     have n5:=setAt n1 0 (.iface 123 (.pointer (some ⟨q,0,none⟩)))
     have kk:=Kept.trans (hk3.mono (S' := fun q=>q=w.heap.size+1∨q=w.heap.size+1+1) (fun _ _ f=>f.elim)) k35 (fun _ _ e=>e)
     refine ⟨⟨⟨cellAt a2 0,cellAt a2 1,cellAt a2 2,cellAt a2 3⟩,frozenAt a2 0,frozenAt a2 1,frozenAt a2 2,frozenAt a2 3⟩,⟨cellAt n1 0,frozenAt n1 0⟩,⟨kk.size,fun i o hi ho _=>kk.at ho (fun e=>by omega)⟩,q,g5,n5,Kept.trans a4 k35 (fun i hi e=>by omega)⟩
    have CBA:Hid (∀ w3 o,Same0 Wb w3→Same0 Wb (w3.alloc o)):=fun w3 o hk3=>Kept.alloc hk3 _
    clear j1 j2 j3 j4 bxb lob sm1 sm2 hd ST hstb
    gi_wp2_with (first
     | (gi_at_call 35;refine (CallsIn.inRound l (callsIn_wide.2 CB)).mono ?_;rintro e w3 ⟨q,rfl,k3⟩;obtain ⟨⟨⟨s0,s1,s2,s3⟩,t0,t1,t2,t3⟩,⟨s4,t4⟩,kf,zf⟩:=FINX.out (w3.alloc (.cells #[.int .i64 0,.int .i64 0,.slice none 0 0,.slice none 0 0] 25)) q (CBA.out w3 _ k3)))
   ·obtain ⟨t,ht⟩:=hall k (by omega) hdf
    have hk1:k+1≤K:=by omega
    have hts:=tree_small hArs hL64 hle hok hk' ht
    have CB:Calls Tryz.prog 35 #[.pointer (some ⟨b,0,none⟩),.int .i64 (k:Int)] Wb fun e w' => ∃ tk tr tpo tpl tpc tko tkl tkc,e=.returned (.tuple #[.agg #[.int .i64 tk,.int .i64 tr,.slice tpo tpl tpc,.slice tko tkl tkc],.nilIface])∧Hid (CsB (fun b=>Wb.heap.size≤b) w' 2001 (.agg #[.int .i64 tk,.int .i64 tr,.slice tpo tpl tpc,.slice tko tkl tkc]) t)∧Same0 Wb w' := by
     refine (build_any hstb (k:Int)).mono ?_
     rintro e w' ⟨hk9,h9⟩
     rw [if_pos hdf,Int.toNat_natCast,ht] at h9
     obtain ⟨v,rfl,hc⟩:=h9
     obtain ⟨tk,tr,tpo,tpl,tpc,tko,tkl,tkc,rfl⟩:=hc.shape
     exact ⟨tk,tr,tpo,tpl,tpc,tko,tkl,tkc,rfl,hc,hk9⟩
    obtain ⟨vi,vp,tt1,tt2,tt3⟩:=id j4
    obtain ⟨io,ic,rfl⟩:=row_shape tt3.ri
    have XC:Hid (∀ w3 o,Same0 Wb w3→(w3.alloc o).cell? ⟨w1.heap.size+1,0,none⟩=some (.slice eo (cmpS L R k).2.length ec)∧(w3.alloc o).cell? ⟨w1.heap.size,0,none⟩=some (.slice io (cmpS L R k).1.1.length ic)∧(w3.alloc o).ownsRow w1.heap.size 3 1 (.slice eo (cmpS L R k).2.length ec) (cmpS L R k).2.length (iv (cmpS L R k).2)∧w1.heap.size≤((w3.alloc o).alloc (.cells #[.int .i64 ((cmpS L R k).1.1.length:Int)] 3)).heap.size):=fun w3 o hk3=>by
     have kx:Same0 Wb (w3.alloc o):=Kept.alloc hk3 _
     exact ⟨cellAt (kx.at0 j2) 0,cellAt (kx.at0 tt1) 0,kx.row j3 (fun _ _ f=>f),by have:=kx.size;simp at this ⊢;omega⟩
    have LAID:Hid (∀ w3 tk tr tpo tpl tpc tko tkl tkc w4 ev', Same0 Wb w3→CsB (fun b=>Wb.heap.size≤b) w3 2001 (.agg #[.int .i64 tk,.int .i64 tr,.slice tpo tpl tpc,.slice tko tkl tkc]) t→w4.ownsRow w1.heap.size 3 1 ev' ((cmpS L R k).2.length+1) (iv (cmpS L R k).2 ++ [.int .i64 ((cmpS L R k).1.1.length:Int)])→Kept (fun q=>(Value.slice eo (cmpS L R k).2.length ec).ownBlock=some q) (w3.alloc (.cells #[.int .i64 tk,.int .i64 tr,.slice tpo tpl tpc,.slice tko tkl tkc] 25)) w4→(∀ q,ev'.ownBlock=some q→(Value.slice eo (cmpS L R k).2.length ec).ownBlock=some q∨(w3.alloc (.cells #[.int .i64 tk,.int .i64 tr,.slice tpo tpl tpc,.slice tko tkl tkc] 25)).heap.size≤q) →
      (w4.cell? ⟨w1.heap.size+1,0,none⟩=some (.slice eo (cmpS L R k).2.length ec)∧w4.frozen? ⟨w1.heap.size+1,0,none⟩=false)∧((w4.setCell ⟨w1.heap.size+1,0,none⟩ ev').cell? ⟨w3.heap.size,0,none⟩=some (.int .i64 tk)∧(w4.setCell ⟨w1.heap.size+1,0,none⟩ ev').cell? ⟨w3.heap.size,1,none⟩=some (.int .i64 tr)∧(w4.setCell ⟨w1.heap.size+1,0,none⟩ ev').cell? ⟨w3.heap.size,2,none⟩=some (.slice tpo tpl tpc)∧(w4.setCell ⟨w1.heap.size+1,0,none⟩ ev').cell? ⟨w3.heap.size,3,none⟩=some (.slice tko tkl tkc))∧Calls Tryz.prog 45 #[.pointer (some ⟨w1.heap.size,0,none⟩),.agg #[.int .i64 tk,.int .i64 tr,.slice tpo tpl tpc,.slice tko tkl tkc]] (w4.setCell ⟨w1.heap.size+1,0,none⟩ ev') fun e Z=>(∃ u,e=.returned u)∧CpJ L R w1 (k+1) Z∧Rnd (w1.heap.size+3) w1.heap.size Wb Z):=by
     intro w3 tk tr tpo tpl tpc tko tkl tkc w4 ev' hk3 hc3 hr hkp hat
     have ka:Same0 w3 (w3.alloc (.cells #[.int .i64 tk,.int .i64 tr,.slice tpo tpl tpc,.slice tko tkl tkc] 25)):=(Kept.refl _ _).alloc _
     obtain ⟨q1,q2,q3⟩:=CpJ.laid (D:=w1.heap.size+3) hdf ht (by omega) (hk3.trans' ka) j1 j2 j3 j4 (hc3.same ka) hr hkp hat
     have hz3:=hk3.size
     have lE:=lt_of_at j2
     have hb:=q2.at (heap_alloc_new w3 (.cells #[.int .i64 tk,.int .i64 tr,.slice tpo tpl tpc,.slice tko tkl tkc] 25)) (fun e=>by
      rcases e with e | e
      ·have:=typed_lt j3 e;omega
      ·omega)
     exact ⟨⟨cellAt q1 0,frozenAt q1 0⟩,⟨cellAt hb 0,cellAt hb 1,cellAt hb 2,cellAt hb 3⟩,q3⟩
    clear j1 j2 j3 j4 tt1 tt2 tt3 bxb lob sm1 sm2 hd ST hstb hts ht
    generalize (cmpS L R k).2=EE at *
    generalize (cmpS L R k).1.1.length=NN at *
    gi_wp2_with (first
     | (gi_at_call 35;refine (CallsIn.inRound l (callsIn_wide.2 CB)).mono ?_;rintro e w3 ⟨tk,tr,tpo,tpl,tpc,tko,tkl,tkc,rfl,hcs,k3⟩;obtain ⟨xc1,xc2,xc3,bb3⟩:=XC.out w3 (.cells #[.int .i64 tk,.int .i64 tr,.slice tpo tpl tpc,.slice tko tkl tkc] 25) k3)
     | (gi_at_builtin;refine wpListIn_append_own_at _ rfl _ _ 22 rfl w1.heap.size 3 i0 (.int .i64 0) 1 8 Tryz.underlying22 hi0 hz0 hz1 hz2 rfl (by decide) (.slice eo EE.length ec) EE.length (iv EE) rfl (World.ownsRow.alloc xc3 _) ⟨w3.heap.size+1,0,none⟩ 1 1 [.int .i64 (NN:Int)] rfl rfl (by have:=cell_one_new (w3.alloc (.cells #[.int .i64 tk,.int .i64 tr,.slice tpo tpl tpc,.slice tko tkl tkc] 25)) (.int .i64 (NN:Int)) 3;simp only [World.size_alloc] at this;exact this) (by simp [Value.oneCell']) bb1 bb2 bb3 ?_;intro v' w4 hown' hgrow _ hat;obtain ⟨g9,cap9,rfl⟩:=ownsRow_succ hown'; obtain ⟨⟨m1', m2'⟩,⟨d0,d1,d2,d3⟩,CL⟩:=LAID.out w3 tk tr tpo tpl tpc tko tkl tkc w4 _ k3 hcs.out hown' (Kept.grown (Kept.alloc (Kept.refl _ _) _) hgrow (fun _ e _=>e)) (hat_of hat (by simp)))
     | (gi_at_call 45;refine (CallsIn.inRound l (callsIn_wide.2 CL)).mono ?_;rintro e w5 ⟨⟨u,rfl⟩,m3,m4⟩))
end Go.Proofs.YtdhiiicppcgkbaaGreat
namespace Go.Proofs.YtdhiiicppcgkbaaGreat
set_option maxRecDepth 100000
set_option linter.unusedVariables false
open Go.RowKit
attribute [local go_sem ↓] Go.wp_at_zero Go.wp_at_succ
theorem lookF_of {L:List Sym} {ok:Bool} {T:List Int} {I:List I3} {E:List Int} {node:Int} {a:Nat} {p:List Int} {nd s:Int} {j:Nat} {has:Bool} (hnd:wayI L ok T node p=nd) (hs:headI ok T nd=s) (hJ:caseF I s (a+1)=(j,has)):lookF L ok T I E node a p=if has=true then (if (I.getD j (0,0,0)).2.2≤(j:Int) then .inl bad5 else .inr (I.getD j (0,0,0)).2.2) else if hasB E s=true then .inl (3,0,p,nd,0) else .inr (j:Int):=by
 subst hnd
 subst hs
 unfold lookF
 rw [hJ]
def LookOut (w:World) (r:R5 ⊕ Int) (e:Ending) (w' : World):Prop:=
 match r with
 | .inl R=>∃ qo qc,e=.returned (.tuple #[.agg #[.int .i64 R.1,.int .i64 R.2.1,.slice qo R.2.2.1.length qc,.int .i64 R.2.2.2.1],.int .i64 0,.int .i64 R.2.2.2.2])∧Row w.heap.size w' (.slice qo R.2.2.1.length qc) R.2.2.1∧Same0 w w'
 | .inr z=>e=.returned (.tuple #[.agg #[.int .i64 0,.int .i64 0,.slice none 0 0,.int .i64 0],.int .i64 z,.int .i64 0])∧Same0 w w'
set_option maxHeartbeats 16000000 in
theorem look_any {base:Nat} {w:World} {L:List Sym} {ok:Bool} {T:List Int} {ho:Option Addr} {hn hc:Nat} {go:Option Addr} {gn gc:Nat} (hv:VwAt base w L ok T (.agg #[.slice ho hn hc,.slice go gn gc])) {io:Option Addr} {I:List I3} (hI:InsAt w io I) (hl:I.length≤140737488355328) {eo:Option Addr} {E:List Int} (hE:IntsAt w eo E) {qo:Option Addr} {qc:Nat} {p:List Int} (hp:Arg w qo p qc) (ic ec:Nat) (po ro:Option Addr) (pl pc rl rc:Nat) (node:Int) (a:Nat) (ha:a<I.length) :
  Calls Tryz.prog 106 #[.agg #[.slice io I.length ic,.slice po pl pc,.slice eo E.length ec,.slice ro rl rc,.iface 70 (.agg #[.slice ho hn hc,.slice go gn gc]),.int .i64 node],.int .i64 (a:Int),.slice qo p.length qc] w (LookOut w (lookF L ok T I E node a p)):=by
 have hmx:p.length≤maxLen:=by have:=hp.size;unfold maxLen;omega
 obtain ⟨W1,hW1⟩:∃ W1,W1=(w.alloc (.cells #[.slice io I.length ic,.slice po pl pc,.slice eo E.length ec,.slice ro rl rc,.iface 70 (.agg #[.slice ho hn hc,.slice go gn gc]),.int .i64 node] 151)).alloc (.cells #[.int .i64 0,.int .i64 0,.slice none 0 0,.int .i64 0] 73):=⟨_,rfl⟩
 have KW:Same0 w W1:=by rw [hW1];exact ((Kept.refl _ w).alloc _).alloc _
 have hbx:W1.heap[w.heap.size]? = some (.cells #[.slice io I.length ic,.slice po pl pc,.slice eo E.length ec,.slice ro rl rc,.iface 70 (.agg #[.slice ho hn hc,.slice go gn gc]),.int .i64 node] 151 (0,0)):=by rw [hW1];exact heap_alloc2_old _ _ _
 have hfd:W1.heap[w.heap.size+1]? = some (.cells #[.int .i64 0,.int .i64 0,.slice none 0 0,.int .i64 0] 73 (0,0)):=by rw [hW1];exact heap_al_al _ _ _
 have BX:Hid (∀ ww,Same0 W1 ww→ww.cell? ⟨w.heap.size,0,none⟩=some (.slice io I.length ic)∧ww.cell? ⟨w.heap.size,1,none⟩=some (.slice po pl pc)∧ww.cell? ⟨w.heap.size,2,none⟩=some (.slice eo E.length ec)∧ww.cell? ⟨w.heap.size,3,none⟩=some (.slice ro rl rc)∧ww.cell? ⟨w.heap.size,4,none⟩=some (.iface 70 (.agg #[.slice ho hn hc,.slice go gn gc]))∧ww.cell? ⟨w.heap.size,5,none⟩=some (.int .i64 node)):=fun ww hk=>by
  have:=hk.at0 hbx
  exact ⟨cellAt this 0,cellAt this 1,cellAt this 2,cellAt this 3,cellAt this 4,cellAt this 5⟩
 have RC:Hid (∀ ww,Same0 W1 ww→(ww.cell? ⟨w.heap.size+1,0,none⟩=some (.int .i64 0)∧ww.cell? ⟨w.heap.size+1,1,none⟩=some (.int .i64 0)∧ww.cell? ⟨w.heap.size+1,2,none⟩=some (.slice none 0 0)∧ww.cell? ⟨w.heap.size+1,3,none⟩=some (.int .i64 0))∧ww.frozen? ⟨w.heap.size+1,0,none⟩=false∧ww.frozen? ⟨w.heap.size+1,1,none⟩=false∧ww.frozen? ⟨w.heap.size+1,2,none⟩=false∧ww.frozen? ⟨w.heap.size+1,3,none⟩=false):=fun ww hk=>by
  have:=hk.at0 hfd
  exact ⟨⟨cellAt this 0,cellAt this 1,cellAt this 2,cellAt this 3⟩,frozenAt this 0,frozenAt this 1,frozenAt this 2,frozenAt this 3⟩
 have PUT:Hid (∀ ww x0 x1 x2 x3,Same0 W1 ww→(((((ww.setCell ⟨w.heap.size+1,0,none⟩ x0).setCell ⟨w.heap.size+1,1,none⟩ x1).setCell ⟨w.heap.size+1,2,none⟩ x2).setCell ⟨w.heap.size+1,3,none⟩ x3).cell? ⟨w.heap.size+1,0,none⟩=some x0∧((((ww.setCell ⟨w.heap.size+1,0,none⟩ x0).setCell ⟨w.heap.size+1,1,none⟩ x1).setCell ⟨w.heap.size+1,2,none⟩ x2).setCell ⟨w.heap.size+1,3,none⟩ x3).cell? ⟨w.heap.size+1,1,none⟩=some x1∧((((ww.setCell ⟨w.heap.size+1,0,none⟩ x0).setCell ⟨w.heap.size+1,1,none⟩ x1).setCell ⟨w.heap.size+1,2,none⟩ x2).setCell ⟨w.heap.size+1,3,none⟩ x3).cell? ⟨w.heap.size+1,2,none⟩=some x2∧((((ww.setCell ⟨w.heap.size+1,0,none⟩ x0).setCell ⟨w.heap.size+1,1,none⟩ x1).setCell ⟨w.heap.size+1,2,none⟩ x2).setCell ⟨w.heap.size+1,3,none⟩ x3).cell? ⟨w.heap.size+1,3,none⟩=some x3)∧Kept (fun q=>q=w.heap.size+1) ww ((((ww.setCell ⟨w.heap.size+1,0,none⟩ x0).setCell ⟨w.heap.size+1,1,none⟩ x1).setCell ⟨w.heap.size+1,2,none⟩ x2).setCell ⟨w.heap.size+1,3,none⟩ x3)∧Same0 w ((((ww.setCell ⟨w.heap.size+1,0,none⟩ x0).setCell ⟨w.heap.size+1,1,none⟩ x1).setCell ⟨w.heap.size+1,2,none⟩ x2).setCell ⟨w.heap.size+1,3,none⟩ x3)):=by
  intro ww x0 x1 x2 x3 hk
  have rs:=hk.at0 hfd
  have s3:=setAt (setAt (setAt (setAt rs 0 x0) 1 x1) 2 x2) 3 x3
  have k1:=kept_at ww (w.heap.size+1) 0 x0
  have k2:=Kept.trans k1 (kept_at _ (w.heap.size+1) 1 x1) (fun _ _ e=>e)
  have k3:=Kept.trans k2 (kept_at _ (w.heap.size+1) 2 x2) (fun _ _ e=>e)
  have k4:=Kept.trans k3 (kept_at _ (w.heap.size+1) 3 x3) (fun _ _ e=>e)
  exact ⟨⟨cellAt s3 0,cellAt s3 1,cellAt s3 2,cellAt s3 3⟩,k4,Kept.trans (KW.trans' hk) k4 (fun i hi e=>by omega)⟩
 have CK:Hid (∀ ww,Same0 w ww→Calls Tryz.prog 139 #[.agg #[.slice io I.length ic,.slice po pl pc,.slice eo E.length ec,.slice ro rl rc,.iface 70 (.agg #[.slice ho hn hc,.slice go gn gc]),.int .i64 node],.slice qo p.length qc] ww fun e w' => e=.returned (.tuple #[.int .i64 (wayI L ok T node p),.int .i64 (headI ok T (wayI L ok T node p)),.bool false,.int .i64 0])∧Same0 ww w'):=fun ww hk=>cask_any (hv.same hk) (hp.at'.same hk) hmx _ _ _ _ _ _ _ _ _ _ _ _ node
 have CO:Hid (∀ ww s,Same0 w ww→Calls Tryz.prog 140 #[.agg #[.slice io I.length ic,.slice po pl pc,.slice eo E.length ec,.slice ro rl rc,.iface 70 (.agg #[.slice ho hn hc,.slice go gn gc]),.int .i64 node],.int .i64 s,.int .i64 ((a:Int)+1)] ww fun e w' => e=.returned (.tuple #[.int .i64 ((caseF I s (a+1)).1:Int),.bool (caseF I s (a+1)).2])∧Same0 ww w'):=fun ww s hk=>ccase_any (hI.same hk) hl _ _ _ _ _ _ _ _ _ _ _ node s (a+1) (by omega)
 have CB:Hid (∀ ww n,Same0 w ww→Calls Tryz.prog 64 #[.agg #[.slice io I.length ic,.slice po pl pc,.slice eo E.length ec,.slice ro rl rc],.int .i64 n] ww fun e w' => e=.returned (.bool (hasB E n))∧Same0 ww w'):=fun ww n hk=>chas_any (hE.same hk) _ _ _ _ _ _ _ _ _ _ n
 have CC:Hid (∀ ww,Same0 w ww→Calls Tryz.prog 77 #[.slice qo p.length qc] ww fun e w' => ∃ zo zc,e=.returned (.slice zo p.length zc)∧Hid (Row ww.heap.size w' (.slice zo p.length zc) p)∧Same0 ww w'):=fun ww hk=>by
  refine (cloneI_any (hp.same hk)).mono ?_
  rintro e w' ⟨v,rfl,hr,hk'⟩
  obtain ⟨zo,zc,rfl,_⟩:=hr.ints
  exact ⟨zo,zc,rfl,hr,hk'⟩
 have HI:Hid (∀ ww j (hj:j<I.length),Same0 w ww→∃ b off,io=some ⟨b,off,none⟩∧ww.cell? ⟨b,off+j * 3+2,none⟩=some (.int .i64 I[j].2.2)):=fun ww j hj hk=>by
  obtain ⟨b,off,e,_,_,_,h2⟩:=(hI.same hk).get hj
  exact ⟨b,off,e,h2⟩
 have C1:=CK.out W1 KW
 obtain ⟨x0,x1,x2,x3,x4,x5⟩:=BX.out W1 (Kept.refl _ _)
 have ai:(a:Int)<140737488355328:=by omega
 obtain ⟨nd,hnd⟩:∃ nd,wayI L ok T node p=nd:=⟨_,rfl⟩
 rw [hnd] at C1
 obtain ⟨s,hs⟩:∃ s,headI ok T nd=s:=⟨_,rfl⟩
 rw [hs] at C1
 obtain ⟨cle,cl2,clt⟩:=caseF_le (I:=I) (s:=s) (a:=a+1) (by omega)
 obtain ⟨j,has,hJ⟩:∃ j has,caseF I s (a+1)=(j,has):=⟨_,_,rfl⟩
 have C2:Hid (∀ ww,Same0 w ww→Calls Tryz.prog 140 #[.agg #[.slice io I.length ic,.slice po pl pc,.slice eo E.length ec,.slice ro rl rc,.iface 70 (.agg #[.slice ho hn hc,.slice go gn gc]),.int .i64 node],.int .i64 s,.int .i64 ((a:Int)+1)] ww fun e w' => e=.returned (.tuple #[.int .i64 (j:Int),.bool has])∧Same0 ww w'):=fun ww hk=>by
  have:=CO.out ww s hk
  rw [hJ] at this
  exact this
 have HF:Hid _:=lookF_of (E:=E) hnd hs hJ
 rw [hJ] at cle cl2 clt
 simp only at cle cl2 clt
 have j0:(0:Int)≤(j:Int):=by omega
 clear hJ CO CK hv hI hE hp hbx hfd hnd hs
 cases has with
 | true=>
  have hj:=clt rfl
  obtain ⟨ib,ioff,rfl,_⟩:=HI.out w j hj (Kept.refl _ _)
  have HC:Hid (∀ ww,Same0 w ww→ww.cell? ⟨ib,ioff+j * 3+2,none⟩=some (.int .i64 I[j].2.2)):=fun ww hk=>by
   obtain ⟨b', off', e,h2⟩:=HI.out ww j hj hk
   simp only [Option.some.injEq,Addr.mk.injEq,and_true] at e
   obtain ⟨rfl,rfl⟩:=e
   exact h2
  have eg:I.getD j (0,0,0)=I[j]:=by simp [hj]
  rw [if_pos rfl,eg] at HF
  have j1:(j:Int)<(I.length:Int):=by omega
  generalize I[j].2.2=z at *
  clear HI clt eg CB CC
  by_cases hz:z≤(j:Int)
  ·rw [if_pos hz] at HF
   rw [HF.out]
   clear HF
   go_enter Tryz.func106,Tryz.ntmps106
   go_upto_region 1 with fail
   rw [← hW1]
   clear hW1
   go_wp2_with (first
    | (go_at_call 139;refine C1.mono ?_;rintro e w2 ⟨rfl,k2⟩;have C3:=C2.out w2 (KW.trans' k2);obtain ⟨y0,y1,y2,y3,y4,y5⟩:=BX.out w2 k2)
    | (go_at_call 140;refine C3.mono ?_;rintro e w3 ⟨rfl,k3⟩;have k13:=k2.trans' k3;obtain ⟨z0,z1,z2,z3,z4,z5⟩:=BX.out w3 k13;have cz:=HC.out w3 (KW.trans' k13);obtain ⟨⟨r0,r1,r2,r3⟩,f0,f1,f2,f3⟩:=RC.out w3 k13))
   obtain ⟨⟨g0,g1,g2,g3⟩,kk,ks⟩:=PUT.out w3 (.int .i64 0) (.int .i64 0) (.slice none 0 0) (.int .i64 0) k13
   exact bodyPost_ret (v:=.tuple #[.agg #[.int .i64 0,.int .i64 0,.slice none 0 0,.int .i64 0],.int .i64 0,.int .i64 92]) (by simp [results,Tryz.results106,go_sem,g0,g1,g2,g3]) rfl ⟨none,0,rfl,World.ownsRow_nil _ _ _ _,ks⟩
  ·rw [if_neg hz] at HF
   rw [HF.out]
   have hzd:decide (z≤(j:Int))=false:=by simpa using hz
   clear HF hz
   go_enter Tryz.func106,Tryz.ntmps106
   go_upto_region 1 with fail
   rw [← hW1]
   clear hW1
   go_upto_region 5 with (first
    | (go_at_call 139;refine C1.mono ?_;rintro e w2 ⟨rfl,k2⟩;have C3:=C2.out w2 (KW.trans' k2);obtain ⟨y0,y1,y2,y3,y4,y5⟩:=BX.out w2 k2)
    | (go_at_call 140;refine C3.mono ?_;rintro e w3 ⟨rfl,k3⟩;have k13:=k2.trans' k3;obtain ⟨z0,z1,z2,z3,z4,z5⟩:=BX.out w3 k13;have cz:=HC.out w3 (KW.trans' k13);obtain ⟨⟨r0,r1,r2,r3⟩,f0,f1,f2,f3⟩:=RC.out w3 k13))
   go_upto_region 7 with fail
   go_upto_region 8 with fail
   have PH:Hid _:=PUT.out w3 (.int .i64 0) (.int .i64 0) (.slice none 0 0) (.int .i64 0) k13
   have S0:w3.cell? ⟨w.heap.size,0,none⟩=some (.slice (some ⟨ib,ioff,none⟩) I.length ic)∧w3.cell? ⟨ib,ioff+j * 3+2,none⟩=some (.int .i64 z):=⟨z0,cz⟩
   have S1:Hid ((((((w3.setCell ⟨w.heap.size+1,0,none⟩ (.int .i64 0)).setCell ⟨w.heap.size+1,1,none⟩ (.int .i64 0)).setCell ⟨w.heap.size+1,2,none⟩ (.slice none 0 0)).setCell ⟨w.heap.size+1,3,none⟩ (.int .i64 0))).cell? ⟨w.heap.size,0,none⟩=some (.slice (some ⟨ib,ioff,none⟩) I.length ic)∧(((((w3.setCell ⟨w.heap.size+1,0,none⟩ (.int .i64 0)).setCell ⟨w.heap.size+1,1,none⟩ (.int .i64 0)).setCell ⟨w.heap.size+1,2,none⟩ (.slice none 0 0)).setCell ⟨w.heap.size+1,3,none⟩ (.int .i64 0))).cell? ⟨ib,ioff+j * 3+2,none⟩=some (.int .i64 z)):=by
    obtain ⟨_,kk,_⟩:=PH.out
    have hib:ib<w.heap.size:=World.block_lt_of_cell? w _ (HC.out w (Kept.refl _ _))
    exact ⟨(kk.cell (p:=⟨w.heap.size,0,none⟩) (World.block_lt_of_cell? _ _ z0) (fun e=>by have e' : w.heap.size=w.heap.size+1:=e;omega)).trans z0,(kk.cell (p:=⟨ib,ioff+j * 3+2,none⟩) (World.block_lt_of_cell? _ _ cz) (fun e=>by have e' : ib=w.heap.size+1:=e;omega)).trans cz⟩
   clear y0 y1 y2 y3 y4 y5 z0 z1 z2 z3 z4 z5 cz
   go_region_held3 (fun w' => w'.cell? ⟨w.heap.size,0,none⟩=some (.slice (some ⟨ib,ioff,none⟩) I.length ic)∧w'.cell? ⟨ib,ioff+j * 3+2,none⟩=some (.int .i64 z)) (first | exact S0 | exact S1.out) (fail)
   all_goals
    go_wp2_with fail
    obtain ⟨⟨g0,g1,g2,g3⟩,kk,ks⟩:=PH.out
    exact bodyPost_ret (v:=.tuple #[.agg #[.int .i64 0,.int .i64 0,.slice none 0 0,.int .i64 0],.int .i64 z,.int .i64 0]) (by simp [results,Tryz.results106,go_sem,g0,g1,g2,g3]) rfl ⟨rfl,Kept.drew ks⟩
 | false=>
  have CB2:Hid (∀ ww,Same0 w ww→Calls Tryz.prog 64 #[.agg #[.slice io I.length ic,.slice po pl pc,.slice eo E.length ec,.slice ro rl rc],.int .i64 s] ww fun e w' => e=.returned (.bool (hasB E s))∧Same0 ww w'):=fun ww hk=>CB.out ww s hk
  rw [if_neg (by simp)] at HF
  clear HI clt CB
  cases hb:hasB E s with
  | true=>
   rw [hb] at CB2
   rw [if_pos hb] at HF
   rw [HF.out]
   clear HF hb
   go_enter Tryz.func106,Tryz.ntmps106
   go_upto_region 1 with fail
   rw [← hW1]
   clear hW1
   go_wp2_with (first
    | (go_at_call 139;refine C1.mono ?_;rintro e w2 ⟨rfl,k2⟩;have C3:=C2.out w2 (KW.trans' k2);obtain ⟨y0,y1,y2,y3,y4,y5⟩:=BX.out w2 k2)
    | (go_at_call 140;refine C3.mono ?_;rintro e w3 ⟨rfl,k3⟩;have k13:=k2.trans' k3;obtain ⟨z0,z1,z2,z3,z4,z5⟩:=BX.out w3 k13;have C4:=CB2.out w3 (KW.trans' k13))
    | (go_at_call 64;refine C4.mono ?_;rintro e w4 ⟨rfl,k4⟩;have k14:=k13.trans' k4;have C5:=CC.out w4 (KW.trans' k14))
    | (go_at_call 77;refine C5.mono ?_;rintro e w5 ⟨zo,zc,rfl,hr,k5⟩;have k15:=k14.trans' k5;obtain ⟨⟨r0,r1,r2,r3⟩,f0,f1,f2,f3⟩:=RC.out w5 k15))
   obtain ⟨⟨g0,g1,g2,g3⟩,kk,ks⟩:=PUT.out w5 (.int .i64 3) (.int .i64 0) (.slice zo p.length zc) (.int .i64 nd) k15
   have z5:=(KW.trans' k14).size
   have zz:=k14.size
   have zW:w.heap.size+1<W1.heap.size:=by
    obtain ⟨⟨q0,_⟩,_⟩:=RC.out W1 (Kept.refl _ _)
    exact World.block_lt_of_cell? _ _ q0
   refine bodyPost_ret (v:=.tuple #[.agg #[.int .i64 3,.int .i64 0,.slice zo p.length zc,.int .i64 nd],.int .i64 0,.int .i64 0]) (by simp [results,Tryz.results106,go_sem,g0,g1,g2,g3]) rfl ⟨zo,zc,rfl,?_,ks⟩
   have hr2:=kk.row hr.out (fun k e q=>by
    rcases hr.out.2 with ⟨e1,_⟩ | ⟨g,_,_,e1,e2,_⟩
    ·rw [e1] at e;simp [Value.ownBlock] at e
    ·rw [e1] at e;simp only [Value.ownBlock,Option.some.injEq] at e;omega)
   exact row_mono hr2 z5
  | false=>
   rw [hb] at CB2
   rw [if_neg (by rw [hb];simp)] at HF
   rw [HF.out]
   clear HF hb CC
   go_enter Tryz.func106,Tryz.ntmps106
   go_upto_region 1 with fail
   rw [← hW1]
   clear hW1
   go_wp2_with (first
    | (go_at_call 139;refine C1.mono ?_;rintro e w2 ⟨rfl,k2⟩;have C3:=C2.out w2 (KW.trans' k2);obtain ⟨y0,y1,y2,y3,y4,y5⟩:=BX.out w2 k2)
    | (go_at_call 140;refine C3.mono ?_;rintro e w3 ⟨rfl,k3⟩;have k13:=k2.trans' k3;obtain ⟨z0,z1,z2,z3,z4,z5⟩:=BX.out w3 k13;have C4:=CB2.out w3 (KW.trans' k13))
    | (go_at_call 64;refine C4.mono ?_;rintro e w4 ⟨rfl,k4⟩;have k14:=k13.trans' k4;obtain ⟨⟨r0,r1,r2,r3⟩,f0,f1,f2,f3⟩:=RC.out w4 k14))
   obtain ⟨⟨g0,g1,g2,g3⟩,kk,ks⟩:=PUT.out w4 (.int .i64 0) (.int .i64 0) (.slice none 0 0) (.int .i64 0) k14
   exact bodyPost_ret (v:=.tuple #[.agg #[.int .i64 0,.int .i64 0,.slice none 0 0,.int .i64 0],.int .i64 (j:Int),.int .i64 0]) (by simp [results,Tryz.results106,go_sem,g0,g1,g2,g3]) rfl ⟨rfl,ks⟩
end Go.Proofs.YtdhiiicppcgkbaaGreat
