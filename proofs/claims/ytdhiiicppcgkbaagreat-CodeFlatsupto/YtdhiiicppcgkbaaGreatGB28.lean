import Derived.Test.YtdhiiicppcgkbaaGreatGB27
import Derived.Test.YtdhiiicppcgkbaaGreatGB16
import Derived.Sort.CutIn
import Derived.Maps.OwnIn
import Derived.Test.YtdhiiicppcgkbaaGreatGB19
import Derived.Test.YtdhiiicppcgkbaaGreatGB25
import Derived.Test.YtdhiiicppcgkbaaGreatGB13
namespace Go.Proofs.YtdhiiicppcgkbaaGreat
set_option maxRecDepth 100000
set_option linter.unusedVariables false
open Go.RowKit Go.Shelf
attribute [local go_sem] Oper.semAt_some
def CmpOut (L:List Sym) (R:List Ru) (w:World) (e:Ending) (w' : World):Prop:=
 ∃ io ic po pc eo ec ro rc cs,e=.returned (.tuple #[.agg #[.slice io (cmpS L R L.length).1.1.length ic,.slice po (cmpS L R L.length).1.2.length pc,.slice eo (cmpS L R L.length).2.length ec,.slice ro R.length rc],.nilIface])∧Lay (fun q=>q<w.heap.size) w' (.slice io (cmpS L R L.length).1.1.length ic) (.slice po (cmpS L R L.length).1.2.length pc) (cmpS L R L.length).1∧Row w.heap.size w' (.slice eo (cmpS L R L.length).2.length ec) (cmpS L R L.length).2∧w'.ownsRow w.heap.size 62 1 (.slice ro R.length rc) R.length cs∧RtC w.heap.size w' cs (rightsL L R)∧Same0 w w'
theorem put4_raw {w3:World} {n:Nat} {a0 a1 a2 a3:Value} {t:TypeId} (hb:w3.heap[n]? = some (.cells #[a0,a1,a2,a3] t (0,0))) (x0 x1 x2 x3:Value):((((w3.setCell ⟨n,0,none⟩ x0).setCell ⟨n,1,none⟩ x1).setCell ⟨n,2,none⟩ x2).setCell ⟨n,3,none⟩ x3).heap[n]? = some (.cells #[x0,x1,x2,x3] t (0,0))∧Kept (fun q=>q=n) w3 ((((w3.setCell ⟨n,0,none⟩ x0).setCell ⟨n,1,none⟩ x1).setCell ⟨n,2,none⟩ x2).setCell ⟨n,3,none⟩ x3):=by
 have s3:=setAt (setAt (setAt (setAt hb 0 x0) 1 x1) 2 x2) 3 x3
 have k1:=kept_at w3 n 0 x0
 have k2:=Kept.trans k1 (kept_at _ n 1 x1) (fun _ _ e=>e)
 have k3:=Kept.trans k2 (kept_at _ n 2 x2) (fun _ _ e=>e)
 have k4:=Kept.trans k3 (kept_at _ n 3 x3) (fun _ _ e=>e)
 exact ⟨s3,k4⟩
theorem PtC.low {base base' : Nat} {W:World} {g k:Nat} {Q:List (Int × List Int)} (h:PtC base W g k Q) (hb:base' ≤ base):PtC base' W g k Q:=by
 obtain ⟨cur,h1,h2,h3⟩:=h
 refine ⟨cur,h1,h2,fun i hi hik=>?_⟩
 obtain ⟨ao,ac,a,b,c,d⟩:=h3 i hi hik
 exact ⟨ao,ac,a,b,c,fun x e=>Nat.le_trans hb (d x e)⟩
theorem RtC.low {base base' : Nat} {W:World} {cs:List Value} {Q:List (List (Int × List Int))} (h:RtC base W cs Q) (hb:base' ≤ base):RtC base' W cs Q:=
 ⟨h.1,fun i hi=>by
  obtain ⟨g,gc,a,b,c⟩:=h.2 i hi
  exact ⟨g,gc,a,Nat.le_trans hb b,c.low hb⟩⟩
theorem cnil_ptr (b:Nat) (w:World):(binOp .eql 39 (.pointer (some ⟨b,0,none⟩)) (.pointer none)).run Tryz.prog w=.ok (.bool false) w:=by kernel_rfl
theorem cnil_err (w:World):(binOp .neq 47 .nilIface .nilIface).run Tryz.prog w=.ok (.bool false) w:=by kernel_rfl
set_option maxHeartbeats 32000000 in
theorem compile_ok {w:World} {b bs:Nat} {L:List Sym} {R:List Ru} {lv:Value} {vs:List Value} (h:StAt w b bs L R lv vs) (hall:∀ k,k<L.length→defB L (k:Int)=true→∃ t,treeF L R k=.ok t) :
  Calls Tryz.prog 16 #[.pointer (some ⟨b,0,none⟩)] w (CmpOut L R w):=by
 have hFn:∀ k,Fence.wide.fn k:=fun _=>trivial
 have hpn:=cnil_ptr
 have hen:=cnil_err
 have hle:=h.le
 have hok:=h.ok
 have hArs:=h.sig.2
 have hL64:L.length≤64:=by obtain ⟨⟨sv,mr,hs,_⟩,_⟩:=h.sig;exact hs.len
 obtain ⟨W1,hW1⟩:∃ W1,W1=((w.alloc (.cells #[.pointer (some ⟨b,0,none⟩)] 39)).alloc (.cells #[.slice none 0 0,.slice none 0 0,.slice none 0 0,.slice none 0 0] 45)).alloc (.cells #[.nilIface] 47):=⟨_,rfl⟩
 have KW:Same0 w W1:=by rw [hW1];exact (((Kept.refl _ w).alloc _).alloc _).alloc _
 have ez:W1.heap.size=w.heap.size+1+1+1:=by rw [hW1];simp
 have BK:Hid (∀ ww,Same0 W1 ww→ww.heap[w.heap.size]? = some (.cells #[.pointer (some ⟨b,0,none⟩)] 39 (0,0))∧ww.heap[w.heap.size+1]? = some (.cells #[.slice none 0 0,.slice none 0 0,.slice none 0 0,.slice none 0 0] 45 (0,0))∧ww.heap[w.heap.size+1+1]? = some (.cells #[.nilIface] 47 (0,0))):=fun ww hk=>by
  have k1:Same0 (w.alloc (.cells #[.pointer (some ⟨b,0,none⟩)] 39)) W1:=by rw [hW1];exact ((Kept.refl _ _).alloc _).alloc _
  have k2:Same0 ((w.alloc (.cells #[.pointer (some ⟨b,0,none⟩)] 39)).alloc (.cells #[.slice none 0 0,.slice none 0 0,.slice none 0 0,.slice none 0 0] 45)) W1:=by rw [hW1];exact (Kept.refl _ _).alloc _
  have h3:=heap_al_al (w.alloc (.cells #[.pointer (some ⟨b,0,none⟩)] 39)) (.cells #[.slice none 0 0,.slice none 0 0,.slice none 0 0,.slice none 0 0] 45) (.cells #[.nilIface] 47)
  rw [World.size_alloc] at h3
  exact ⟨hk.at0 (k1.at0 (heap_alloc_new w _)),hk.at0 (k2.at0 (heap_al_al _ _ _)),hk.at0 (by rw [hW1];exact h3)⟩
 have r0:W1.cell? ⟨w.heap.size,0,none⟩=some (.pointer (some ⟨b,0,none⟩)):=cellAt (BK.out W1 (Kept.refl _ _)).1 0
 have CS:=(callsIn_wide (n:=8)).2 (ssig_any (h.same KW))
 refine (callsIn_wide (n:=9)).1 ?_
 refine callsIn_of_wp_marks Tryz.func16 rfl trivial ?_ rfl
 simp only [Tryz.ntmps16,List.size_toArray,List.length_cons,List.length_nil,Nat.reduceAdd,Nat.reduceSub,Array.replicate_succ,Array.replicate_zero,List.push_toArray,List.append_toArray,List.nil_append,List.cons_append]
 gi_upto_region 1 with fail
 rw [← hW1]
 clear hW1
 gi_upto_region 4 with (gi_at_call 50;refine CS.mono ?_;rintro e w1 ⟨bt,rfl,hbt,sv,mr,hsig,hfoot,k1'⟩)
 have k1:Same0 W1 w1:=k1'
 have K1:Same0 w w1:=KW.trans' k1
 have hzw:=k1.size
 gi_wp2_with (gi_at_call 51;refine (all_in Fence.wide _ trivial rfl _ _).mono ?_;rintro e w' ⟨rfl,rfl⟩)
 obtain ⟨W0,hW0⟩:∃ W0,W0=((w1.alloc (.cells #[.slice none 0 0,.slice none 0 0] 117)).alloc (.cells #[.slice none 0 0] 22)).alloc (.cells #[.pointer (some ⟨bt,0,none⟩)] 38):=⟨_,rfl⟩
 have K0:Same0 w1 W0:=by rw [hW0];exact (((Kept.refl _ _).alloc _).alloc _).alloc _
 have z0:W0.heap.size=w1.heap.size+3:=by rw [hW0];simp
 have b0:W0.heap[w1.heap.size]? = some (.cells #[.slice none 0 0,.slice none 0 0] 117 (0,0)):=by
  rw [hW0,heap_alloc_old _ _ (by simp;omega)];exact heap_alloc2_old _ _ _
 have b1:W0.heap[w1.heap.size+1]? = some (.cells #[.slice none 0 0] 22 (0,0)):=by
  rw [hW0,heap_alloc_old _ _ (by simp)];exact heap_al_al _ _ _
 have b2:W0.cell? ⟨w1.heap.size+1+1,0,none⟩=some (.pointer (some ⟨bt,0,none⟩)):=by
  have:=heap_al_al (w1.alloc (.cells #[.slice none 0 0,.slice none 0 0] 117)) (.cells #[.slice none 0 0] 22) (.cells #[.pointer (some ⟨bt,0,none⟩)] 38)
  simp only [World.size_alloc] at this
  rw [← hW0] at this
  exact cellAt this 0
 rw [← hW0]
 clear hW0
 have START:CpJ L R w1 0 W0:=⟨K0,.slice none 0 0,b1,World.ownsRow_nil _ _ _ _,.slice none 0 0,.slice none 0 0,b0,(fun e=>by rcases e with e | e | e <;> first | omega | (simp [Value.ownBlock] at e)),Lay.nil _ _⟩
 have ST:Hid (∀ X,Same0 w1 X→StAt X b bs L R lv vs∧X.cell? ⟨w.heap.size,0,none⟩=some (.pointer (some ⟨b,0,none⟩))):=fun X hk=>⟨h.same (K1.trans' hk),cellAt (BK.out X (k1.trans' hk)).1 0⟩
 refine wp_hands rfl (by omega) (gf:=93) (lb:=#[.pointer (some ⟨w1.heap.size+1+1,0,none⟩)]) rfl trivial (enters_of Tryz.func93 (by kernel_rfl) rfl) (B:=w1.heap.size) (by omega) (hands_syms hsig K0 b2 (by omega)) (fun k vs W h=>by obtain ⟨_,rfl⟩:=h;rfl)
  (fun k W=>CpJ L R w1 k W) (fun k X Y h hk=>h.up hk) (fun k X l o o' h hl ho hw=>h.put hl ho (by omega)) START ?round ?done
 case done=>
  rintro D W hD hj hK
  obtain ⟨j1,ev,j2,j3,vi,vp,j4,j5,j6⟩:=hj
  obtain ⟨eo,ec,rfl⟩:=row_shape j3
  obtain ⟨io,ic,rfl⟩:=row_shape j6.ri
  obtain ⟨pvs,j7,j8⟩:=j6.rp
  obtain ⟨po,pc,rfl⟩:=row_shape j7
  have SS:Hid (∀ X,Same0 W X→(X.cell? ⟨w1.heap.size,0,none⟩=some (.slice io (cmpS L R L.length).1.1.length ic)∧X.cell? ⟨w1.heap.size,1,none⟩=some (.slice po (cmpS L R L.length).1.2.length pc)∧X.cell? ⟨w1.heap.size+1,0,none⟩=some (.slice eo (cmpS L R L.length).2.length ec)∧X.cell? ⟨w.heap.size,0,none⟩=some (.pointer (some ⟨b,0,none⟩)))∧X.heap[w.heap.size+1]? = some (.cells #[.slice none 0 0,.slice none 0 0,.slice none 0 0,.slice none 0 0] 45 (0,0))∧X.heap[w.heap.size+1+1]? = some (.cells #[.nilIface] 47 (0,0))∧X.heap[D]? = some (.deferred (some []))):=fun X hk=>by
   obtain ⟨a1,a2,a3⟩:=BK.out X ((k1.trans' j1).trans' hk)
   exact ⟨⟨cellAt (hk.at0 j4) 0,cellAt (hk.at0 j4) 1,cellAt (hk.at0 j2) 0,cellAt a1 0⟩,a2,a3,hk.at0 hK⟩
  have CR:Hid (∀ X,Same0 W X→Calls Tryz.prog 52 #[.pointer (some ⟨bt,0,none⟩),.pointer (some ⟨b,0,none⟩)] X fun e w' => ∃ ro rc cs,e=.returned (.slice ro R.length rc)∧Hid (w'.ownsRow X.heap.size 62 1 (.slice ro R.length rc) R.length cs∧RtC X.heap.size w' cs (rightsL L R))∧Same0 X w'):=fun X hk=>by
   have hsX:SigAt X bt L sv mr:=hsig.kept (j1.trans' hk) (fun _ _ f=>f)
   refine (rightsOf_any ⟨⟨sv,mr,hsX,fun q hq=>sig_foot_lt hsX q hq⟩,hArs⟩ (ST.out X (j1.trans' hk)).1).mono ?_
   rintro e w' ⟨ro,rc,cs,rfl,q1,q2,q3⟩
   exact ⟨ro,rc,cs,rfl,⟨q1,q2⟩,q3⟩
  have hzW:=j1.size
  have LAYW:Hid (Lay (fun q=>q<w1.heap.size) W (.slice io (cmpS L R L.length).1.1.length ic) (.slice po (cmpS L R L.length).1.2.length pc) (cmpS L R L.length).1∧Row w1.heap.size W (.slice eo (cmpS L R L.length).2.length ec) (cmpS L R L.length).2):=⟨j6.mono (fun q _ e=>.inl e),j3⟩
  obtain ⟨⟨s0,s1,s2,s3⟩,_,_,_⟩:=SS.out W (Kept.refl _ _)
  have CC0:=And.intro s0 (And.intro s1 (And.intro s2 s3))
  have kd:Same0 W W.drew:=Kept.drew (Kept.refl _ _)
  have HJ1:Hid (Same0 w W):=K1.trans' j1
  clear j2 j3 j4 j5 j6 j7 j8 START
  obtain ⟨I1,hI1⟩:∃ I1,I1=(cmpS L R L.length).1.1.length:=⟨_,rfl⟩
  obtain ⟨P1,hP1⟩:∃ P1,P1=(cmpS L R L.length).1.2.length:=⟨_,rfl⟩
  obtain ⟨E1,hE1⟩:∃ E1,E1=(cmpS L R L.length).2.length:=⟨_,rfl⟩
  have HIP:Hid (I1=(cmpS L R L.length).1.1.length∧P1=(cmpS L R L.length).1.2.length∧E1=(cmpS L R L.length).2.length):=⟨hI1,hP1,hE1⟩
  rw [← hI1,← hP1,← hE1] at CC0 SS LAYW
  clear hI1 hP1 hE1 s0 s1 s2 s3
  have SX:Hid (∀ X,Same0 W X→X.cell? ⟨w1.heap.size,0,none⟩=some (.slice io I1 ic)∧X.cell? ⟨w1.heap.size,1,none⟩=some (.slice po P1 pc)∧X.cell? ⟨w1.heap.size+1,0,none⟩=some (.slice eo E1 ec)∧X.cell? ⟨w.heap.size,0,none⟩=some (.pointer (some ⟨b,0,none⟩))):=fun X hk=>(SS.out X hk).1
  have SK:Hid (∀ X Y,Same0 W X→Kept (fun q=>q=w.heap.size+1∨q=w.heap.size+1+1) X Y→Y.cell? ⟨w1.heap.size,0,none⟩=some (.slice io I1 ic)∧Y.cell? ⟨w1.heap.size,1,none⟩=some (.slice po P1 pc)∧Y.cell? ⟨w1.heap.size+1,0,none⟩=some (.slice eo E1 ec)∧Y.cell? ⟨w.heap.size,0,none⟩=some (.pointer (some ⟨b,0,none⟩))):=fun X Y hk hy=>by
   obtain ⟨a0,a1,a2,a3⟩:=SX.out X hk
   have far:∀ q,w1.heap.size≤q∨q=w.heap.size→¬ (q=w.heap.size+1∨q=w.heap.size+1+1):=fun q e e2=>by omega
   exact ⟨(hy.cell (p:=⟨w1.heap.size,0,none⟩) (World.block_lt_of_cell? _ _ a0) (far _ (.inl (Nat.le_refl _)))).trans a0,(hy.cell (p:=⟨w1.heap.size,1,none⟩) (World.block_lt_of_cell? _ _ a1) (far _ (.inl (Nat.le_refl _)))).trans a1,(hy.cell (p:=⟨w1.heap.size+1,0,none⟩) (World.block_lt_of_cell? _ _ a2) (far _ (.inl (Nat.le_succ _)))).trans a2,(hy.cell (p:=⟨w.heap.size,0,none⟩) (World.block_lt_of_cell? _ _ a3) (far _ (.inr rfl))).trans a3⟩
  gi_wp2_with fail
  refine wpIn_wide.2 ?_
  refine Code.wp_mono (Q:=Exit.then _ (fun _ _ _=>False)) (fun e a w h=>by cases e <;> first | exact h | exact h.elim) ?_
  refine wp_region_held_drew (S:=fun w' => w'.cell? ⟨w1.heap.size,0,none⟩=some (.slice io I1 ic)∧w'.cell? ⟨w1.heap.size,1,none⟩=some (.slice po P1 pc)∧w'.cell? ⟨w1.heap.size+1,0,none⟩=some (.slice eo E1 ec)∧w'.cell? ⟨w.heap.size,0,none⟩=some (.pointer (some ⟨b,0,none⟩))) (by kernel_rfl) CC0 (fun hHeld=>?_)
  refine wpAnyH_take (i:=0) (v:=.pointer (some ⟨w1.heap.size,0,none⟩)) rfl (by kernel_rfl) (by kernel_rfl) (by kernel_rfl) (fun _ _ _ h=>h) (.inl ⟨rfl,fun w' hS=>by obtain ⟨h0,h1,h2,h3⟩:=hS;simp [go_sem]⟩) hHeld ?_
  refine wpAnyH_take (i:=1) (v:=.slice io I1 ic) rfl (by kernel_rfl) (by kernel_rfl) (by kernel_rfl) (fun _ _ _ h=>h) (.inl ⟨rfl,fun w' hS=>by obtain ⟨h0,h1,h2,h3⟩:=hS;simp [go_sem,h0]⟩) hHeld ?_
  refine wpAnyH_take (i:=2) (v:=.pointer (some ⟨w1.heap.size,1,none⟩)) rfl (by kernel_rfl) (by kernel_rfl) (by kernel_rfl) (fun _ _ _ h=>h) (.inl ⟨rfl,fun w' hS=>by obtain ⟨h0,h1,h2,h3⟩:=hS;simp [go_sem]⟩) hHeld ?_
  refine wpAnyH_take (i:=3) (v:=.slice po P1 pc) rfl (by kernel_rfl) (by kernel_rfl) (by kernel_rfl) (fun _ _ _ h=>h) (.inl ⟨rfl,fun w' hS=>by obtain ⟨h0,h1,h2,h3⟩:=hS;simp [go_sem,h1]⟩) hHeld ?_
  refine wpAnyH_take (i:=4) (v:=.slice eo E1 ec) rfl (by kernel_rfl) (by kernel_rfl) (by kernel_rfl) (fun _ _ _ h=>h) (.inl ⟨rfl,fun w' hS=>by obtain ⟨h0,h1,h2,h3⟩:=hS;simp [go_sem,h2]⟩) hHeld ?_
  refine wpAnyH_take (i:=5) (v:=.pointer (some ⟨bt,0,none⟩)) rfl (by kernel_rfl) (by kernel_rfl) (by kernel_rfl) (fun _ _ _ h=>h) (.inl ⟨rfl,fun w' hS=>by obtain ⟨h0,h1,h2,h3⟩:=hS;simp [go_sem]⟩) hHeld ?_
  refine wpAnyH_take (i:=6) (v:=.pointer (some ⟨b,0,none⟩)) rfl (by kernel_rfl) (by kernel_rfl) (by kernel_rfl) (fun _ _ _ h=>h) (.inl ⟨rfl,fun w' hS=>by obtain ⟨h0,h1,h2,h3⟩:=hS;simp [go_sem,h3]⟩) hHeld ?_
  refine wpAnyH_ready (rs:=[7]) (by kernel_rfl) (by simp) ?_
  refine AllReadyH.cons rfl (fun K hK=>?_) AllReadyH.nil
  refine step_callx rfl (CR.out _ kd) (by simp [go_sem]) ?_
  rintro e w3 ⟨ro,rc,cs,rfl,hrt,k3⟩
  refine ⟨_,rfl,?_⟩
  have hk3:Same0 W w3:=kd.trans' k3
  have cc3:=SX.out w3 hk3
  obtain ⟨-,q1,q2,q3⟩:=SS.out w3 hk3
  have e0:w3.cell? ⟨w.heap.size+1,0,none⟩=some (.slice none 0 0):=cellAt q1 0
  have e1:w3.cell? ⟨w.heap.size+1,1,none⟩=some (.slice none 0 0):=cellAt q1 1
  have e2:w3.cell? ⟨w.heap.size+1,2,none⟩=some (.slice none 0 0):=cellAt q1 2
  have e3:w3.cell? ⟨w.heap.size+1,3,none⟩=some (.slice none 0 0):=cellAt q1 3
  have f0:=frozenAt q1 0
  have f1:=frozenAt q1 1
  have f2:=frozenAt q1 2
  have f3:=frozenAt q1 3
  obtain ⟨p1,p2⟩:=put4_raw q1 (.slice io I1 ic) (.slice po P1 pc) (.slice eo E1 ec) (.slice ro R.length rc)
  have n1:=p2.at q2 (fun e=>(by have e' : w.heap.size+1+1=w.heap.size+1:=e;omega))
  have n0:=cellAt n1 0
  have nf:=frozenAt n1 0
  simp only [List.getElem?_toArray,List.getElem?_cons_zero] at n0
  have cc4:=SK.out w3 _ hk3 (p2.mono (fun _ _ e=>.inl e))
  have k5:=kept_at ((((w3.setCell ⟨w.heap.size+1,0,none⟩ (.slice io I1 ic)).setCell ⟨w.heap.size+1,1,none⟩ (.slice po P1 pc)).setCell ⟨w.heap.size+1,2,none⟩ (.slice eo E1 ec)).setCell ⟨w.heap.size+1,3,none⟩ (.slice ro R.length rc)) (w.heap.size+1+1) 0 .nilIface
  have k35:=Kept.trans (p2.mono (S' := fun q=>q=w.heap.size+1∨q=w.heap.size+1+1) (fun _ _ e=>.inl e)) k5 (fun _ _ e=>.inr e)
  have cc5:=SK.out w3 _ hk3 k35
  refine hK.out _ _ cc3 (fun hHeld=>?_)
  clear hK K
  refine wpAnyH_take (i:=8) (v:=.agg #[.slice io I1 ic,.slice po P1 pc,.slice eo E1 ec,.slice ro R.length rc]) rfl (by kernel_rfl) (by kernel_rfl) (by kernel_rfl) (fun _ _ _ h=>h) (.inl ⟨rfl,fun w' hS=>by simp [go_sem]⟩) hHeld ?_
  refine wpAnyH_ready (rs:=[9]) (by kernel_rfl) (by simp) ?_
  refine AllReadyH.cons rfl (fun K hK=>?_) AllReadyH.nil
  go_simp
  refine hK.out _ _ cc4 (fun hHeld=>?_)
  clear hK K
  refine wpAnyH_ready (rs:=[10]) (by kernel_rfl) (by simp) ?_
  refine AllReadyH.cons rfl (fun K hK=>?_) AllReadyH.nil
  go_simp
  refine hK.out _ _ cc5 (fun hHeld=>?_)
  clear hK K
  refine wpAnyH_done (by kernel_rfl) ?_ _
  gi_wp2_with fail
  obtain ⟨Y4,hY4⟩:∃ Y4,Y4=(((w3.setCell ⟨w.heap.size+1,0,none⟩ (.slice io I1 ic)).setCell ⟨w.heap.size+1,1,none⟩ (.slice po P1 pc)).setCell ⟨w.heap.size+1,2,none⟩ (.slice eo E1 ec)).setCell ⟨w.heap.size+1,3,none⟩ (.slice ro R.length rc):=⟨_,rfl⟩
  rw [← hY4] at p1 n1 k5 k35 ⊢
  have hzW3:=hk3.size
  have g5:=k5.at p1 (fun e=>(by have e' : w.heap.size+1=w.heap.size+1+1:=e;omega))
  have n5:=setAt n1 0 (.nilIface)
  have d5:=k35.at q3 (fun e=>by omega)
  have ks:Kept (fun q=>q=D) (Y4.setCell ⟨w.heap.size+1+1,0,none⟩ .nilIface) ((Y4.setCell ⟨w.heap.size+1+1,0,none⟩ .nilIface).putObj D (.deferred none)):=kept_put
  have noD:∀ q,(fun q=>q=D) q→∀ cur t,(Y4.setCell ⟨w.heap.size+1+1,0,none⟩ .nilIface).heap[q]? ≠ some (.cells cur t (0,0)):=fun q e cur t hc=>by
   have e' : q=D:=e
   rw [e', d5] at hc;cases hc
  have zz:=z0
  have gZ:=(World.putObj_heap_other (w:=Y4.setCell ⟨w.heap.size+1+1,0,none⟩ .nilIface) (r:=D) (o:=.deferred none) (k:=w.heap.size+1) (by omega)).trans g5
  have nZ:=(World.putObj_heap_other (w:=Y4.setCell ⟨w.heap.size+1+1,0,none⟩ .nilIface) (r:=D) (o:=.deferred none) (k:=w.heap.size+1+1) (by omega)).trans n5
  have v0:=cellAt gZ 0
  have v1:=cellAt gZ 1
  have v2:=cellAt gZ 2
  have v3:=cellAt gZ 3
  have v4:=cellAt nZ 0
  simp only [List.getElem?_toArray,List.getElem?_cons_zero,List.getElem?_cons_succ] at v0 v1 v2 v3
  have v5:((Y4.setCell ⟨w.heap.size+1+1,0,none⟩ .nilIface).putObj D (.deferred none)).cell? ⟨w.heap.size+1+1,0,none⟩=some .nilIface:=by rw [v4];rfl
  refine ⟨by simp,.inl ⟨_,_,rfl,run_takeDeferred d5,?_⟩⟩
  refine ⟨.tuple #[.agg #[.slice io I1 ic,.slice po P1 pc,.slice eo E1 ec,.slice ro R.length rc],.nilIface],by simp [results,Tryz.results16,go_sem,v0,v1,v2,v3,v5],?_⟩
  obtain ⟨l1,l2⟩:=LAYW.out
  obtain ⟨t1,t2⟩:=hrt.out
  obtain ⟨a1,a2,a3⟩:=HIP.out
  have hdz:W.drew.heap.size=W.heap.size:=rfl
  have own1:∀ q,(Value.slice eo E1 ec).ownBlock=some q→¬ (q=w.heap.size+1∨q=w.heap.size+1+1):=fun q e e2=>by have:=own_low l2 e;omega
  have own2:∀ q,(Value.slice ro R.length rc).ownBlock=some q→¬ (q=w.heap.size+1∨q=w.heap.size+1+1):=fun q e e2=>by have:=own_low t1 e;omega
  have r1:=k35.row (hk3.row l2 (fun _ _ f=>f)) own1
  have r2:=k35.row t1 own2
  refine ⟨io,ic,po,pc,eo,ec,ro,rc,cs,by rw [a1,a2,a3],?_,?_,?_,?_,?_⟩
  ·rw [← a1,← a2]
   exact (((l1.same hk3).keptB k35 (fun q e=>by show q<w1.heap.size;omega)).kept ks (fun q e=>⟨fun cur=>noD q e cur _,fun cur=>noD q e cur _,fun cur=>noD q e cur _⟩)).mono (fun q _ e=>by show q<w1.heap.size;have e' : q<w.heap.size:=e;omega)
  ·rw [← a3]
   exact row_mono (ks.row r1 (fun q e e2=>by obtain ⟨cur,hc⟩:=own_typed r1 e;exact noD q e2 cur _ hc)) (by omega)
  ·exact row_mono (ks.row r2 (fun q e e2=>by obtain ⟨cur,hc⟩:=own_typed r2 e;exact noD q e2 cur _ hc)) (by omega)
  ·refine RtC.low ((t2.kept k35 (fun q e=>?_)).kept ks (fun q e=>⟨fun cur=>noD q e cur _,fun cur=>noD q e cur _⟩)) (by omega)
   rcases e with e | e
   ·rw [e]
    exact ⟨fun cur h=>(by rw [q1] at h;cases h),fun cur h=>(by rw [q1] at h;cases h)⟩
   ·rw [e]
    exact ⟨fun cur h=>(by rw [q2] at h;cases h),fun cur h=>(by rw [q2] at h;cases h)⟩
  ·exact Kept.trans (Kept.trans (HJ1.out.trans' hk3) k35 (fun i hi e=>by omega)) ks (fun i hi e=>by have e' : i=D:=e;omega)
 case round=>
  rintro l k vs W hk hl hlW hj ⟨hk', rfl⟩
  obtain ⟨Wa,hWa⟩:∃ Wa,Wa=W.alloc (.cells #[.string L[k].name,.int .i64 L[k].ar,.bool L[k].df] 82):=⟨_,rfl⟩
  have ka:Same0 W Wa:=by rw [hWa];exact (Kept.refl _ _).alloc _
  have bx:Wa.heap[W.heap.size]? = some (.cells #[.string L[k].name,.int .i64 L[k].ar,.bool L[k].df] 82 (0,0)):=by rw [hWa];exact heap_alloc_new _ _
  gi_wp2_with fail
  rw [← hWa]
  clear hWa
  refine ⟨Rnd.same ka (by omega),fun o o' ho hoc hoc' => ?_⟩
  have hjb:=(hj.up ka).put (o' := o') ho hoc (by omega)
  have bxb:=putObj_at (o' := o') ho hoc bx rfl
  have lob:(Wa.putObj l o').heap[l]? = some o' := World.putObj_heap_same (lt_of_at ho)
  obtain ⟨Wb,hWb⟩:∃ Wb,Wb=Wa.putObj l o' := ⟨_,rfl⟩
  rw [← hWb] at hjb bxb lob ⊢
  have hzb:W0.heap.size≤Wb.heap.size:=by have:=lt_of_at lob;omega
  clear hWb ho bx hj ka
  have y2:Wb.cell? ⟨W.heap.size,2,none⟩=some (.bool L[k].df):=cellAt bxb 2
  obtain ⟨j1,ev,j2,j3,j4⟩:=hjb
  obtain ⟨sm1,sm2⟩:=cmpS_small hArs hL64 hle hok k (by omega)
  have c2:=cellAt j2 0
  simp only [List.getElem?_toArray,List.getElem?_cons_zero] at c2
  obtain ⟨eo,ec,rfl⟩:=row_shape j3
  obtain ⟨i0,hi0,hz0,hz1,hz2⟩:=info_parts info_intT
  have bb1:(cmpS L R k).2.length+1≤maxLen:=by unfold maxLen;omega
  have bb2:((cmpS L R k).2.length+1) * 8≤140737488355328:=by omega
  have hdf:=defB_at hk'
  have hj1:=j1.size
  cases hd:L[k].df with
  | false=>
   rw [hd] at hdf y2
   have MORE:Hid (∀ w2 ev', w2.ownsRow w1.heap.size 3 1 ev' ((cmpS L R k).2.length+1) (iv (cmpS L R k).2 ++ [.int .i64 (-1)])→Kept (fun q=>(Value.slice eo (cmpS L R k).2.length ec).ownBlock=some q) Wb w2→(∀ q,ev'.ownBlock=some q→(Value.slice eo (cmpS L R k).2.length ec).ownBlock=some q∨Wb.heap.size≤q)→(w2.cell? ⟨w1.heap.size+1,0,none⟩=some (.slice eo (cmpS L R k).2.length ec)∧w2.frozen? ⟨w1.heap.size+1,0,none⟩=false)∧CpJ L R w1 (k+1) (w2.setCell ⟨w1.heap.size+1,0,none⟩ ev')∧Rnd (w1.heap.size+3) w1.heap.size Wb (w2.setCell ⟨w1.heap.size+1,0,none⟩ ev')):=fun w2 ev' hr hkp hat=>by
    obtain ⟨q1,q2,q3⟩:=CpJ.pass (D:=w1.heap.size+3) hdf j1 j2 j3 j4 hr hkp hat
    exact ⟨⟨cellAt q1 0,frozenAt q1 0⟩,q2,q3⟩
   have hj3:Hid (Wb.ownsRow w1.heap.size 3 1 (.slice eo (cmpS L R k).2.length ec) (cmpS L R k).2.length (iv (cmpS L R k).2)):=j3
   have bb3:w1.heap.size≤(Wb.alloc (.cells #[.int .i64 (-1)] 3)).heap.size:=by simp;omega
   clear j1 j2 j3 j4 bxb lob sm1 sm2 hd ST
   generalize (cmpS L R k).2=EE at *
   gi_wp2_with (gi_at_builtin;refine wpListIn_append_own_at _ rfl _ _ 22 rfl w1.heap.size 3 i0 (.int .i64 0) 1 8 Tryz.underlying22 hi0 hz0 hz1 hz2 rfl (by decide) (.slice eo EE.length ec) EE.length (iv EE) rfl (World.ownsRow.alloc hj3.out _) ⟨Wb.heap.size,0,none⟩ 1 1 [.int .i64 (-1)] rfl rfl (cell_one_new _ _ _) (by simp [Value.oneCell']) bb1 bb2 bb3 ?_;intro v' w2 hown' hgrow _ hat;obtain ⟨g9,cap9,rfl⟩:=ownsRow_succ hown'; obtain ⟨⟨m1', m2'⟩,m3,m4⟩:=MORE.out w2 _ hown' (Kept.grown (Kept.alloc (Kept.refl _ Wb) _) hgrow (fun _ e _=>e)) (hat_of hat (by simp)))
  | true=>
   rw [hd] at hdf y2
   obtain ⟨t,ht⟩:=hall k hk' hdf
   obtain ⟨hstb,rb⟩:=ST.out Wb j1
   have hts:=tree_small hArs hL64 hle hok hk' ht
   have CB:Calls Tryz.prog 35 #[.pointer (some ⟨b,0,none⟩),.int .i64 (k:Int)] Wb fun e w' => ∃ tk tr tpo tpl tpc tko tkl tkc,e=.returned (.tuple #[.agg #[.int .i64 tk,.int .i64 tr,.slice tpo tpl tpc,.slice tko tkl tkc],.nilIface])∧Hid (CsB (fun b=>Wb.heap.size≤b) w' 2001 (.agg #[.int .i64 tk,.int .i64 tr,.slice tpo tpl tpc,.slice tko tkl tkc]) t)∧Same0 Wb w' := by
    refine (build_any hstb (k:Int)).mono ?_
    rintro e w' ⟨hk9,h9⟩
    rw [if_pos hdf,Int.toNat_natCast,ht] at h9
    obtain ⟨v,rfl,hc⟩:=h9
    obtain ⟨tk,tr,tpo,tpl,tpc,tko,tkl,tkc,rfl⟩:=hc.shape
    exact ⟨tk,tr,tpo,tpl,tpc,tko,tkl,tkc,rfl,hc,hk9⟩
   obtain ⟨vi,vp,tt1,tt2,tt3⟩:=id j4
   obtain ⟨io,ic,rfl⟩:=row_shape tt3.ri
   have XC:Hid (∀ w3 o,Same0 Wb w3→(w3.alloc o).cell? ⟨w1.heap.size+1,0,none⟩=some (.slice eo (cmpS L R k).2.length ec)∧(w3.alloc o).cell? ⟨w1.heap.size,0,none⟩=some (.slice io (cmpS L R k).1.1.length ic)∧(w3.alloc o).ownsRow w1.heap.size 3 1 (.slice eo (cmpS L R k).2.length ec) (cmpS L R k).2.length (iv (cmpS L R k).2)∧w1.heap.size≤((w3.alloc o).alloc (.cells #[.int .i64 ((cmpS L R k).1.1.length:Int)] 3)).heap.size):=fun w3 o hk3=>by
    have kx:Same0 Wb (w3.alloc o):=Kept.alloc hk3 _
    exact ⟨cellAt (kx.at0 j2) 0,cellAt (kx.at0 tt1) 0,kx.row j3 (fun _ _ f=>f),by have:=kx.size;simp at this ⊢;omega⟩
   have LAID:Hid (∀ w3 tk tr tpo tpl tpc tko tkl tkc w4 ev', Same0 Wb w3→CsB (fun b=>Wb.heap.size≤b) w3 2001 (.agg #[.int .i64 tk,.int .i64 tr,.slice tpo tpl tpc,.slice tko tkl tkc]) t→w4.ownsRow w1.heap.size 3 1 ev' ((cmpS L R k).2.length+1) (iv (cmpS L R k).2 ++ [.int .i64 ((cmpS L R k).1.1.length:Int)])→Kept (fun q=>(Value.slice eo (cmpS L R k).2.length ec).ownBlock=some q) (w3.alloc (.cells #[.int .i64 tk,.int .i64 tr,.slice tpo tpl tpc,.slice tko tkl tkc] 25)) w4→(∀ q,ev'.ownBlock=some q→(Value.slice eo (cmpS L R k).2.length ec).ownBlock=some q∨(w3.alloc (.cells #[.int .i64 tk,.int .i64 tr,.slice tpo tpl tpc,.slice tko tkl tkc] 25)).heap.size≤q) →
     (w4.cell? ⟨w1.heap.size+1,0,none⟩=some (.slice eo (cmpS L R k).2.length ec)∧w4.frozen? ⟨w1.heap.size+1,0,none⟩=false)∧((w4.setCell ⟨w1.heap.size+1,0,none⟩ ev').cell? ⟨w3.heap.size,0,none⟩=some (.int .i64 tk)∧(w4.setCell ⟨w1.heap.size+1,0,none⟩ ev').cell? ⟨w3.heap.size,1,none⟩=some (.int .i64 tr)∧(w4.setCell ⟨w1.heap.size+1,0,none⟩ ev').cell? ⟨w3.heap.size,2,none⟩=some (.slice tpo tpl tpc)∧(w4.setCell ⟨w1.heap.size+1,0,none⟩ ev').cell? ⟨w3.heap.size,3,none⟩=some (.slice tko tkl tkc))∧Calls Tryz.prog 45 #[.pointer (some ⟨w1.heap.size,0,none⟩),.agg #[.int .i64 tk,.int .i64 tr,.slice tpo tpl tpc,.slice tko tkl tkc]] (w4.setCell ⟨w1.heap.size+1,0,none⟩ ev') fun e Z=>(∃ u,e=.returned u)∧CpJ L R w1 (k+1) Z∧Rnd (w1.heap.size+3) w1.heap.size Wb Z):=by
    intro w3 tk tr tpo tpl tpc tko tkl tkc w4 ev' hk3 hc3 hr hkp hat
    have ka:Same0 w3 (w3.alloc (.cells #[.int .i64 tk,.int .i64 tr,.slice tpo tpl tpc,.slice tko tkl tkc] 25)):=(Kept.refl _ _).alloc _
    obtain ⟨q1,q2,q3⟩:=CpJ.laid (D:=w1.heap.size+3) hdf ht (by omega) (hk3.trans' ka) j1 j2 j3 j4 (hc3.same ka) hr hkp hat
    have hz3:=hk3.size
    have lE:=lt_of_at j2
    have hb:=q2.at (heap_alloc_new w3 (.cells #[.int .i64 tk,.int .i64 tr,.slice tpo tpl tpc,.slice tko tkl tkc] 25)) (fun e=>by
     rcases e with e | e
     ·have:=typed_lt j3 e;omega
     ·omega)
    exact ⟨⟨cellAt q1 0,frozenAt q1 0⟩,⟨cellAt hb 0,cellAt hb 1,cellAt hb 2,cellAt hb 3⟩,q3⟩
   clear j1 j2 j3 j4 tt1 tt2 tt3 bxb lob sm1 sm2 hd ST hstb hts ht
   generalize (cmpS L R k).2=EE at *
   generalize (cmpS L R k).1.1.length=NN at *
   gi_wp2_with (first
    | (gi_at_call 35;refine (CallsIn.inRound l (callsIn_wide.2 CB)).mono ?_;rintro e w3 ⟨tk,tr,tpo,tpl,tpc,tko,tkl,tkc,rfl,hcs,k3⟩;obtain ⟨xc1,xc2,xc3,bb3⟩:=XC.out w3 (.cells #[.int .i64 tk,.int .i64 tr,.slice tpo tpl tpc,.slice tko tkl tkc] 25) k3)
    | (gi_at_builtin;refine wpListIn_append_own_at _ rfl _ _ 22 rfl w1.heap.size 3 i0 (.int .i64 0) 1 8 Tryz.underlying22 hi0 hz0 hz1 hz2 rfl (by decide) (.slice eo EE.length ec) EE.length (iv EE) rfl (World.ownsRow.alloc xc3 _) ⟨w3.heap.size+1,0,none⟩ 1 1 [.int .i64 (NN:Int)] rfl rfl (by have:=cell_one_new (w3.alloc (.cells #[.int .i64 tk,.int .i64 tr,.slice tpo tpl tpc,.slice tko tkl tkc] 25)) (.int .i64 (NN:Int)) 3;simp only [World.size_alloc] at this;exact this) (by simp [Value.oneCell']) bb1 bb2 bb3 ?_;intro v' w4 hown' hgrow _ hat;obtain ⟨g9,cap9,rfl⟩:=ownsRow_succ hown'; obtain ⟨⟨m1', m2'⟩,⟨d0,d1,d2,d3⟩,CL⟩:=LAID.out w3 tk tr tpo tpl tpc tko tkl tkc w4 _ k3 hcs.out hown' (Kept.grown (Kept.alloc (Kept.refl _ _) _) hgrow (fun _ e _=>e)) (hat_of hat (by simp)))
    | (gi_at_call 45;refine (CallsIn.inRound l (callsIn_wide.2 CL)).mono ?_;rintro e w5 ⟨⟨u,rfl⟩,m3,m4⟩))
end Go.Proofs.YtdhiiicppcgkbaaGreat
namespace Go.Proofs.YtdhiiicppcgkbaaGreat
set_option maxRecDepth 100000
set_option linter.unusedVariables false
open Go.RowKit
attribute [local go_sem ↓] Go.wp_at_zero Go.wp_at_succ
set_option maxHeartbeats 8000000 in
theorem radd_yes {w:World} {m:Nat} {ro:Option Addr} {rc:Nat} {L:List Sym} {R:List Ru} {lv:Value} {vs:List Value} (h:MO w m ro rc L R lv vs) {lo:Option Addr} {lc:Nat} {l:List Ru} (hl:RsAt w lo l) (hll:l.length≤140737488355328) (hln:lo=none→lc=0) (ha:Ans L R l []) (hok:∀ x∈l,checkE L x.1=0∧checkE L x.2=0) (hlen:R.length+l.length≤100)
  (hlk:∀ ww,Kept (fun q=>q=m∨lv.ownBlock=some q) w ww→RsAt ww lo l) :
  Calls Tryz.prog 49 #[.pointer (some ⟨m,0,none⟩),.slice lo l.length lc] w fun e w' => ∃ lv' vs', e=.returned (.slice none 0 0)∧MO w' m ro rc L (R++l) lv' vs' ∧ (∀ q,lv'.ownBlock=some q→lv.ownBlock=some q∨w.heap.size≤q)∧Kept (fun q=>q=m∨lv.ownBlock=some q) w w' := by
 obtain ⟨mo,mc,hlv,hm⟩:=h.read
 have CK:=rchk_any hm (lc:=lc) hl hll hln
 have c1:=cellAt h.blk 1
 have HH:Hid (∀ ww,Same0 w ww→MO ww m ro rc L R lv vs):=fun ww hk=>h.same hk
 clear hlv hm hl h
 go_enter Tryz.func49,Tryz.ntmps49
 go_wp2_with (first | (go_at_call 90;refine CK.mono ?_;rintro e w1 ⟨ws,v,rfl,hws,hwa,hk1⟩;obtain rfl:ws=[]:=hws.uniq ha;obtain ⟨wo,wc', rfl,_⟩:=hwa))
 have M1:=HH.out w1 hk1
 have K1:Kept (fun q=>q=m∨lv.ownBlock=some q) w w1:=Kept.mono hk1 (fun _ _ f=>f.elim)
 clear HH CK hk1 c1
 go_loopw [6] (fun i wr=>∃ (k:Nat) (lk:Value) (vk:List Value),k≤l.length∧i=.int .i64 (k:Int)∧Hid (MO wr m ro rc L (R++l.take k) lk vk)∧Hid (∀ q,lk.ownBlock=some q→lv.ownBlock=some q∨w.heap.size≤q)∧Kept (fun q=>q=m∨lv.ownBlock=some q) w wr) (fun i _=>l.length-(intOf i).toNat)
 case atStart=>exact ⟨0,lv,vs,Nat.zero_le _,rfl,by simpa [Hid] using M1,(fun q e=>.inl e),K1⟩
 case round=>
  clear M1 K1
  obtain ⟨k,lk,vk,hk,rfl,hM,hB,hw⟩:=hrel
  by_cases hlt:k<l.length
  ·obtain ⟨gb,goff,rfl,hgb,go1,gc1,go2,gc2,r0,r1,A1,A2⟩:=(hlk wr hw).get hlt
   have hxk:=hok _ (List.getElem_mem hlt)
   have hxl:=ok_len hxk
   obtain ⟨a1,rfl⟩:∃ a1,go1=some a1:=by
    cases go1 with
    | none=>have:=(A1.nil rfl).1;omega
    | some a=>exact ⟨a,rfl⟩
   obtain ⟨a2,rfl⟩:∃ a2,go2=some a2:=by
    cases go2 with
    | none=>have:=(A2.nil rfl).1;omega
    | some a=>exact ⟨a,rfl⟩
   have i1:(0:Int)≤(k:Int):=by omega
   have i2:(k:Int)<(l.length:Int):=by omega
   have hn:(R++l.take k).length=R.length+k:=by simp;omega
   have CELLS:Hid (∀ ww,Same0 wr ww→ww.cell? ⟨m,1,none⟩=some lk∧ww.cell? ⟨gb,goff+k * 2,none⟩=some (.slice (some a1) l[k].1.length gc1)∧ww.cell? ⟨gb,goff+k * 2+1,none⟩=some (.slice (some a2) l[k].2.length gc2)):=fun ww hk=>⟨cellAt (hk.at0 hM.out.blk) 1,(hk.cell (p:=⟨gb,goff+k * 2,none⟩) hgb (fun f=>f)).trans r0,(hk.cell (p:=⟨gb,goff+k * 2+1,none⟩) hgb (fun f=>f)).trans r1⟩
   have CO:Hid (∀ ww,Same0 wr ww→Calls Tryz.prog 91 #[.agg #[.slice (some a1) l[k].1.length gc1,.slice (some a2) l[k].2.length gc2]] ww fun e w' => ∃ g c g' c', e=.returned (.agg #[.slice (some ⟨g,0,none⟩) l[k].1.length c,.slice (some ⟨g', 0,none⟩) l[k].2.length c'])∧TmAt w' g c l[k].1∧TmAt w' g' c' l[k].2∧Same0 wr w'):=fun ww hk=>(rown_any (ac:=gc1) (bc:=gc2) (A1.same hk).at' (A2.same hk).at' hxl.1.1 hxl.2.1 hxl.1.2 hxl.2.2).mono (fun e w' ⟨g,c,g', c', q1,q2,q3,_,_,q4⟩=>⟨g,c,g', c', q1,q2,q3,hk.trans' q4⟩)
   have W1:Same0 wr wr.drew:=Kept.drew (Kept.refl _ _)
   have CC0:=CELLS.out wr (Kept.refl _ _)
   have HRW:Hid (∀ ww,Same0 wr ww→ww.ownsRow 0 98 2 lk (R.length+k) vk):=fun ww hk=>by rw [← hn];exact (hM.out.same hk).row
   have h48:(R.length+k+1) * 48≤140737488355328:=by omega
   have FIN:Hid (∀ w2 g c g' c' gg cap w9,Same0 wr w2→TmAt w2 g c l[k].1→TmAt w2 g' c' l[k].2→w9.ownsRow 0 98 2 (.slice (some ⟨gg,0,none⟩) (R.length+k+1) cap) (R.length+k+1) (vk ++ [.slice (some ⟨g,0,none⟩) l[k].1.length c,.slice (some ⟨g', 0,none⟩) l[k].2.length c'])→Kept (fun q=>lk.ownBlock=some q) w2 w9→(lk.ownBlock=some gg∨w2.heap.size≤gg)→(w9.cell? ⟨m,1,none⟩=some lk∧w9.frozen? ⟨m,1,none⟩=false)∧Hid (∃ (k' : Nat) (lk' : Value) (vk' : List Value),k' ≤ l.length∧Value.int .i64 ((k:Int)+1)=.int .i64 (k' : Int)∧lk' = .slice (some ⟨gg,0,none⟩) (R.length+k+1) cap∧Hid (MO (w9.setCell ⟨m,1,none⟩ (.slice (some ⟨gg,0,none⟩) (R.length+k+1) cap)) m ro rc L (R++l.take k') lk' vk')∧Hid (∀ q,lk'.ownBlock=some q→lv.ownBlock=some q∨w.heap.size≤q)∧Kept (fun q=>q=m∨lv.ownBlock=some q) w (w9.setCell ⟨m,1,none⟩ (.slice (some ⟨gg,0,none⟩) (R.length+k+1) cap)))):=by
    intro w2 g c g' c' gg cap w9 s2 t1 t2 r9 k9 hat
    have:=hM.out.more (gg:=gg) (cap:=cap) s2 t1 t2 hxk (by omega) (by rw [hn];exact r9) k9
    rw [hn] at this
    refine ⟨this.1,k+1,_,vk ++ [.slice (some ⟨g,0,none⟩) l[k].1.length c,.slice (some ⟨g', 0,none⟩) l[k].2.length c'],hlt,rfl,rfl,?_,?_,?_⟩
    ·show MO _ m ro rc L (R++l.take (k+1)) _ _
     rw [List.take_add_one,List.getElem?_eq_getElem hlt,← List.append_assoc];exact this.2
    ·intro q e
     simp only [Value.ownBlock,Option.some.injEq] at e
     subst e
     rcases hat with e | e
     ·exact hB.out _ e
     ·have:=hw.size;have:=s2.size;exact .inr (by omega)
    ·have sub:∀ q,q<w.heap.size→lk.ownBlock=some q→q=m∨lv.ownBlock=some q:=fun q hq e=>(hB.out q e).elim .inr (fun e=>absurd hq (by omega))
     exact Kept.setCell (p:=⟨m,1,none⟩) ((hw.trans (Kept.mono s2 (fun _ _ f=>f.elim)) (fun _ _ e=>e)).trans k9 (fun q hq e=>sub q hq e)) (fun _=>.inl rfl) _
   have hz0:0≤wr.heap.size:=Nat.zero_le _
   clear hM hB hw hn A1 A2 r0 r1 hxk hxl hlk
   go_wp2_with fail
   obtain ⟨x1,x2,x3⟩:=CC0
   go_region_law (first
    | (refine step_callx rfl (CO.out _ W1) (by simp [go_sem]) ?_;rintro e w2 ⟨g,c,g', c', rfl,t1,t2,hk2⟩;refine ⟨_,rfl,?_⟩;obtain ⟨cc1,cc2,cc3⟩:=CELLS.out _ hk2;obtain ⟨cd1,_,_⟩:=CELLS.out _ (hk2.alloc (.cells #[.slice (some ⟨g,0,none⟩) l[k].1.length c,.slice (some ⟨g', 0,none⟩) l[k].2.length c'] 98)))
    | (refine step_rule8 (w0:=w2) (by rfl) _ _ (by rfl) 0 (R.length+k) vk lk (by rfl) (by first | exact (Kept.refl _ w2).alloc _ | exact (Kept.refl _ w2).drew.alloc _ | exact ((Kept.refl _ w2).alloc _).drew) (HRW.out _ hk2) (.slice (some ⟨g,0,none⟩) l[k].1.length c) (.slice (some ⟨g', 0,none⟩) l[k].2.length c') w2.heap.size (by rfl) (heap_alloc_new w2 _) (by rfl) (by rfl) (Nat.zero_le _) h48 ?_;intro gg cap w9 r9 k9 hat;obtain ⟨⟨y1,y2⟩,FF⟩:=FIN.out w2 g c g' c' gg cap w9 hk2 t1 t2 r9 k9 hat))
   all_goals
    go_wp2_with fail
    obtain ⟨k', lk', vk', z1,z2,rfl,z3,z4,z5⟩:=FF.out
    exact ⟨⟨k', _,vk', z1,z2,z3,z4,z5⟩,by simp [intOf];omega⟩
  ·obtain rfl:k=l.length:=by omega
   have HM:Hid (MO wr m ro rc L (R++l) lk vk):=by have:=hM.out;rw [List.take_length] at this;exact this
   clear hM
   go_wp2
   go_ret
   exact ⟨lk,vk,rfl,HM.out,hB.out,hw⟩
set_option maxHeartbeats 4000000 in
theorem radd7_no {w:World} {m:Nat} {ro:Option Addr} {rc:Nat} {L:List Sym} {R:List Ru} {lv:Value} {vs:List Value} (h:MO w m ro rc L R lv vs) {lo:Option Addr} {lc:Nat} {l:List Ru} (hl:RsAt w lo l) (hll:l.length≤140737488355328) (hln:lo=none→lc=0) {ws:List (Int × Int)} (ha:Ans L R l ws) (hne:ws≠[]) :
  Calls Tryz.prog 49 #[.pointer (some ⟨m,0,none⟩),.slice lo l.length lc] w fun e w' => ∃ v,e=.returned v∧WrsAt w' v ws∧Same0 w w' := by
 obtain ⟨mo,mc,hlv,hm⟩:=h.read
 have CK:=rchk_any hm (lc:=lc) hl hll hln
 have hp:(0:Int)<(ws.length:Int):=by have:=List.length_pos_iff.2 hne;omega
 have HW:Hid (∀ w1 v,WrsAt w1 v ws→∃ wo wc,v=.slice wo ws.length wc∧Hid (WrsAt w1 v ws)):=fun w1 v hv=>by
  obtain ⟨wo,wc,e,_⟩:=id hv
  exact ⟨wo,wc,e,hv⟩
 clear hlv hm hl h
 go_enter Tryz.func49,Tryz.ntmps49
 go_wp2_with (first | (go_at_call 90;refine CK.mono ?_;rintro e w1 ⟨ws', v,rfl,hws,hwa,hk1⟩;obtain rfl:ws' = ws:=hws.uniq ha;obtain ⟨wo,wc', rfl,hwh⟩:=HW.out _ _ hwa;clear hwa))
 go_ret
 exact ⟨_,rfl,hwh.out,hk1⟩
end Go.Proofs.YtdhiiicppcgkbaaGreat
namespace Go.Proofs.YtdhiiicppcgkbaaGreat
set_option maxRecDepth 100000
set_option linter.unusedVariables false
open Go.RowKit Go.Deep
attribute [local go_sem ↓] Go.wp_at_zero Go.wp_at_succ
section
variable {H : Type} {enc : TypeId × Value → H} {w : World} {spare : Nat → Bool} {held : Bool}
end
end Go.Proofs.YtdhiiicppcgkbaaGreat
namespace Go.Proofs.YtdhiiicppcgkbaaGreat
set_option maxRecDepth 100000
set_option linter.unusedVariables false
open Go.RowKit
attribute [local go_sem ↓] Go.wp_at_zero Go.wp_at_succ
def StoredR (L:List Sym):List Ru→List Ru→List Ru→Prop
 | [],R,R' => R' = R
 | x :: r,R,R' => (Ans L R [x] []∧StoredR L r (R ++ [x]) R')∨(¬ Ans L R [x] []∧StoredR L r R R')
theorem StoredR.snoc {L:List Sym} {x:Ru}:∀ {l R R1 R2:List Ru},StoredR L l R R1→(Ans L R1 [x] []∧R2=R1 ++ [x])∨(¬ Ans L R1 [x] []∧R2=R1)→StoredR L (l ++ [x]) R R2
 | [],R,R1,R2,h,k=>by
  have h:R1=R:=h
  subst h
  rcases k with ⟨a,b⟩ | ⟨a,b⟩
  ·exact .inl ⟨a,b⟩
  ·exact .inr ⟨a,b⟩
 | y :: r,R,R1,R2,h,k=>by
  rcases h with ⟨a,b⟩ | ⟨a,b⟩
  ·exact .inl ⟨a,b.snoc k⟩
  ·exact .inr ⟨a,b.snoc k⟩
def FarB (w:World) (q:Nat):Prop:=(∃ c,w.heap[q]? = some (.cells c 171 (0,0)))∨(∃ c,w.heap[q]? = some (.cells c 98 (0,0)))∨∃ c,w.heap[q]? = some (.cells c 54 (0,0))
theorem FarB.no_int {w:World} {q:Nat} (h:FarB w q):∀ cur,w.heap[q]? ≠ some (.cells cur 3 (0,0)):=by
 intro cur e
 rcases h with ⟨c,h⟩ | ⟨c,h⟩ | ⟨c,h⟩ <;> (rw [h] at e;cases e)
theorem FarB.no_sym {w:World} {q:Nat} (h:FarB w q):∀ cur,w.heap[q]? ≠ some (.cells cur 82 (0,0)):=by
 intro cur e
 rcases h with ⟨c,h⟩ | ⟨c,h⟩ | ⟨c,h⟩ <;> (rw [h] at e;cases e)
theorem FarB.no_sig {w:World} {k b:Nat} {L:List Sym} {sv:Value} {mr:Option Nat} (h:FarB w k) (hs:SigAt w b L sv mr):¬ Foot b sv mr k:=by
 rintro (e | e | e)
 ·subst e
  have:=hs.blk
  rcases h with ⟨c,h⟩ | ⟨c,h⟩ | ⟨c,h⟩ <;> (rw [h] at this;cases this)
 ·obtain ⟨c', this⟩:=own_blk hs.row e
  exact h.no_sym c' this
 ·subst e
  obtain ⟨n,D,hm,_⟩:=hs.map
  obtain ⟨es,clock,this,_⟩:=hm
  rcases h with ⟨c,h⟩ | ⟨c,h⟩ | ⟨c,h⟩ <;> (rw [h] at this;cases this)
theorem Sg.keptF {n b:Nat} {w w' : World} {L:List Sym} {S:Nat→Prop} (h:Sg n w b L) (hk:Kept S w w') (hS:∀ k,S k→FarB w k):Sg n w' b L:=by
 obtain ⟨⟨sv,mr,h1,h2⟩,h3⟩:=h
 exact ⟨⟨sv,mr,h1.kept hk (fun k e s=>(hS k s).no_sig h1 e),h2⟩,h3⟩
theorem StAt.keptF {w w' : World} {b bs:Nat} {L:List Sym} {R:List Ru} {lv:Value} {vs:List Value} {S:Nat→Prop} (h:StAt w b bs L R lv vs) (hk:Kept S w w') (hS:∀ k,S k→FarB w k) (hb:¬ S b) (hr:∀ q,lv.ownBlock=some q→¬ S q):StAt w' b bs L R lv vs:=
 ⟨hk.at h.blk hb,sg_up (h.sig.keptF hk hS) hk.size,hk.row h.row (fun q e s=>hr q e s),h.own.kept hk (fun k s=>(hS k s).no_int),h.le,h.ok⟩
theorem MO.keptF {w w' : World} {m:Nat} {ro:Option Addr} {rc:Nat} {L:List Sym} {R:List Ru} {lv:Value} {vs:List Value} {S:Nat→Prop} (h:MO w m ro rc L R lv vs) (hk:Kept S w w') (hS:∀ k,S k→FarB w k) (hb:¬ S m) (hr:∀ q,lv.ownBlock=some q→¬ S q):MO w' m ro rc L R lv vs:=by
 obtain ⟨a1,a2,a3⟩:=h.rl
 refine ⟨hk.at h.blk hb,⟨hk.row a1 (fun q e s=>?_),fun q e=>Nat.lt_of_lt_of_le (a2 q e) hk.size,a3⟩,hk.row h.row (fun q e s=>hr q e s),h.own.kept hk (fun k s=>(hS k s).no_int),h.le,h.ok⟩
 obtain ⟨cu,hc⟩:=own_blk a1 e
 exact (hS q s).no_sym cu hc
structure Twin (w0 w:World) (L:List Sym) (R:List Ru) (bs b m:Nat) (ro:Option Addr) (rc:Nat) (lv:Value) (vs:List Value) (mv:Value) (ms:List Value):Prop where
 st:StAt w b bs L R lv vs
 mo:MO w m ro rc L R mv ms
 good:GoodR L R
 b0:w0.heap.size≤b
 m0:w0.heap.size≤m
 l0:∀ q,lv.ownBlock=some q→w0.heap.size≤q
 v0:∀ q,mv.ownBlock=some q→w0.heap.size≤q
 apart:∀ q,lv.ownBlock=some q→mv.ownBlock≠some q
 same:Same0 w0 w
theorem Twin.same' {w0 w w' : World} {L:List Sym} {R:List Ru} {bs b m:Nat} {ro:Option Addr} {rc:Nat} {lv:Value} {vs:List Value} {mv:Value} {ms:List Value} (h:Twin w0 w L R bs b m ro rc lv vs mv ms) (hk:Same0 w w'):Twin w0 w' L R bs b m ro rc lv vs mv ms:=
 ⟨h.st.same hk,h.mo.same hk,h.good,h.b0,h.m0,h.l0,h.v0,h.apart,h.same.trans' hk⟩
theorem Twin.bm {w0 w:World} {L:List Sym} {R:List Ru} {bs b m:Nat} {ro:Option Addr} {rc:Nat} {lv:Value} {vs:List Value} {mv:Value} {ms:List Value} (h:Twin w0 w L R bs b m ro rc lv vs mv ms):b≠m∧lv.ownBlock≠some m∧mv.ownBlock≠some b:=by
 refine ⟨fun e=>?_,fun e=>?_,fun e=>?_⟩
 ·subst e;have:=h.st.blk;rw [h.mo.blk] at this;cases this
 ·obtain ⟨c,hc⟩:=own_blk h.st.row e;rw [h.mo.blk] at hc;cases hc
 ·obtain ⟨c,hc⟩:=own_blk h.mo.row e;rw [h.st.blk] at hc;cases hc
theorem Twin.more {w0 w w1 w2:World} {L:List Sym} {R:List Ru} {bs b m:Nat} {ro:Option Addr} {rc:Nat} {lv:Value} {vs:List Value} {mv:Value} {ms:List Value} (h:Twin w0 w L R bs b m ro rc lv vs mv ms) {l:List Ru} (ha:Ans L R l []) {lv' : Value} {vs' : List Value} (s1:StAt w1 b bs L (R++l) lv' vs') (k1:Kept (StoB w b lv) w w1) (o1:∀ k,lv'.ownBlock=some k→lv.ownBlock=some k∨w.heap.size≤k) :
  MO w1 m ro rc L R mv ms∧Same0 w0 w1∧∀ (mv' : Value) (ms' : List Value),MO w2 m ro rc L (R++l) mv' ms' → (∀ q,mv'.ownBlock=some q→mv.ownBlock=some q∨w1.heap.size≤q)→Kept (fun q=>q=m∨mv.ownBlock=some q) w1 w2→Twin w0 w2 L (R++l) bs b m ro rc lv' vs' mv' ms' := by
 obtain ⟨e1,e2,e3⟩:=h.bm
 have F1:∀ k,StoB w b lv k→FarB w k:=fun k e=>by
  rcases e with e | e
  ·subst e;exact .inl ⟨_,h.st.blk⟩
  ·exact .inr (.inl (own_blk h.st.row e))
 have hmo:MO w1 m ro rc L R mv ms:=h.mo.keptF k1 F1 (fun e=>by
  rcases e with e | e
  ·exact e1 e.symm
  ·exact e2 e) (fun q e s=>by
  rcases s with s | s
  ·subst s;exact e3 e
  ·exact h.apart q s e)
 have hs1:Same0 w0 w1:=Kept.trans h.same k1 (fun i hi e=>by
  rcases e with e | e
  ·have:=h.b0;omega
  ·have:=h.l0 i e;omega)
 refine ⟨hmo,hs1,fun mv' ms' hm2 ho2 k2=>?_⟩
 have F2:∀ k,(k=m∨mv.ownBlock=some k)→FarB w1 k:=fun k e=>by
  rcases e with e | e
  ·subst e;exact .inr (.inr ⟨_,hmo.blk⟩)
  ·exact .inr (.inl (own_blk hmo.row e))
 have mlt:∀ q,mv.ownBlock=some q→q<w.heap.size:=fun q e=>by
  obtain ⟨c,hc⟩:=own_blk h.mo.row e;exact lt_of_at hc
 have llt:∀ q,lv'.ownBlock=some q→q<w1.heap.size:=fun q e=>by
  obtain ⟨c,hc⟩:=own_blk s1.row e;exact lt_of_at hc
 have ap1:∀ q,lv'.ownBlock=some q→mv.ownBlock≠some q:=fun q e f=>by
  rcases o1 q e with g | g
  ·exact h.apart q g f
  ·have:=mlt q f;omega
 refine ⟨s1.keptF k2 F2 (fun e=>by
  rcases e with e | e
  ·exact e1 e
  ·exact e3 e) (fun q e s=>by
  rcases s with s | s
  ·subst s
   obtain ⟨c,hc⟩:=own_blk s1.row e;rw [hmo.blk] at hc;cases hc
  ·exact ap1 q e s),hm2,h.good.add ha,h.b0,h.m0,fun q e=>?_,fun q e=>?_,fun q e f=>?_,Kept.trans hs1 k2 (fun i hi e=>by
  rcases e with e | e
  ·have:=h.m0;omega
  ·have:=h.v0 i e;omega)⟩
 ·rcases o1 q e with g | g
  ·exact h.l0 q g
  ·have:=h.same.size;omega
 ·rcases ho2 q e with g | g
  ·exact h.v0 q g
  ·have:=hs1.size;omega
 ·rcases ho2 q f with g | g
  ·exact ap1 q e g
  ·have:=llt q e;omega
theorem sg_nil8 (b:Nat) (w:World):(binOp .eql 38 (.pointer (some ⟨b,0,none⟩)) (.pointer none)).run Tryz.prog w=.ok (.bool false) w:=by kernel_rfl
theorem st_nil8 (b:Nat) (w:World):(binOp .eql 39 (.pointer (some ⟨b,0,none⟩)) (.pointer none)).run Tryz.prog w=.ok (.bool false) w:=by kernel_rfl
def StoPost (L:List Sym) (l:List Ru) (w:World) (e:Ending) (w' : World):Prop:=
 ∃ bs b m ro rc lv vs mv ms R,e=.returned (.tuple #[.pointer (some ⟨bs,0,none⟩),.pointer (some ⟨b,0,none⟩),.pointer (some ⟨m,0,none⟩)])∧Twin w w' L R bs b m ro rc lv vs mv ms∧StoredR L l [] R
theorem rsat_part {w:World} {lb loff:Nat} {l:List Ru} (h:RsAt w (some ⟨lb,loff,none⟩) l) {j:Nat} (hj:j<l.length):RsAt w (some ⟨lb,loff+j * 2,none⟩) [l[j]]:=by
 obtain ⟨b,off,e,hb,hc⟩:=h.get hj
 cases e
 refine .inr ⟨lb,loff+j * 2,rfl,hb,fun i hi=>?_⟩
 obtain rfl:i=0:=by simp at hi;omega
 simpa using hc
theorem twin_new {w0 w2:World} {L:List Sym} {bs b:Nat} {rv:Value} (hs:StAt w2 b bs L [] (.slice none 0 0) []) (hr:Rl w2.heap.size w2 rv L) (hb:w0.heap.size≤b) (hk:Same0 w0 w2):∃ ro rc,rv=.slice ro L.length rc∧Twin w0 (w2.alloc (.cells #[rv,.slice none 0 0] 54)) L [] bs b w2.heap.size ro rc (.slice none 0 0) [] (.slice none 0 0) []:=by
 obtain ⟨ro,rc,rfl⟩:=row_shape hr.1
 have ka:Same0 w2 (w2.alloc (.cells #[.slice ro L.length rc,.slice none 0 0] 54)):=(Kept.refl _ _).alloc _
 refine ⟨ro,rc,rfl,hs.same ka,⟨heap_alloc_new _ _,rl_up (hr.same ka) ka.size,World.ownsRow_nil _ _ _ _,⟨rfl,fun i hi=>absurd hi (by simp)⟩,by simp,fun x hx=>by simp at hx⟩,GoodR.nil L,hb,hk.size,(fun q e=>by cases e),(fun q e=>by cases e),(fun q e=>by cases e),hk.trans' ka⟩
set_option maxHeartbeats 16000000 in
theorem stored_any {w:World} {ao:Option Addr} {len cap:Nat} {xs:List Sym} (hx:SymsAt w ao len xs) (hm:len≤maxLen) {lo:Option Addr} {lc:Nat} {l:List Ru} (hl:RsAt w lo l) (hll:l.length≤140737488355328) (hlc:l.length≤lc) :
  Calls Tryz.prog 15 #[.slice ao len cap,.slice lo l.length lc] w (StoPost (madeL xs) l w):=by
 have hn1:=sg_nil8
 have hn2:=st_nil8
 have CM:=made_any ao len cap xs w hx hm
 have HL:Hid (∀ ww,Same0 w ww→RsAt ww lo l):=fun ww hk=>hl.same hk
 generalize madeL xs=L at *
 clear hx hl hm
 go_enter Tryz.func15,Tryz.ntmps15
 go_upto_region 4 with (first | (go_at_call 23;refine CM.mono ?_;rintro e w1 ⟨bs,rv,rfl,hsg,hrl,k1⟩))
 have CN:=snew_any hsg
 go_upto_region 5 with (first | (go_at_call 47;refine CN.mono ?_;rintro e w2 ⟨rfl,hst,k2⟩))
 obtain ⟨ro,rc,rfl,hT⟩:=twin_new hst (rl_up (hrl.same k2) k2.size) k1.size (k1.trans' k2)
 obtain ⟨b,hb⟩:∃ b,b=w1.heap.size:=⟨_,rfl⟩
 obtain ⟨m,hmm⟩:∃ m,m=w2.heap.size:=⟨_,rfl⟩
 have T0:Hid (Twin w (w2.alloc (.cells #[.slice ro L.length rc,.slice none 0 0] 54)) L [] bs b m ro rc (.slice none 0 0) [] (.slice none 0 0) []):=by rw [hb,hmm];exact hT
 have HMM:Hid (w2.heap.size=m):=hmm.symm
 rw [← hb]
 clear hT hst hrl hsg CN CM hb hmm
 go_wp2_with fail
 rw [HMM.out]
 go_loopw [11] (fun i wr=>∃ (j:Nat) (R:List Ru) (lv:Value) (vs:List Value) (mv:Value) (ms:List Value),j≤l.length∧i=.int .i64 (j:Int)∧Hid (Twin w wr L R bs b m ro rc lv vs mv ms)∧Hid (StoredR L (l.take j) [] R)) (fun i _=>l.length-(intOf i).toNat)
 case atStart=>exact ⟨0,[],_,_,_,_,Nat.zero_le _,rfl,T0,rfl⟩
 case round=>
  clear T0 k1 k2 HMM
  obtain ⟨j,R,lv,vs,mv,ms,hj,rfl,hT,hR⟩:=hrel
  by_cases hlt:j<l.length
  ·obtain ⟨lb,loff,rfl,_,_⟩:=(HL.out wr hT.out.same).get hlt
   have hj1:IntKind.i64.wrap ((j:Int)+1)=(j:Int)+1:=iwrap (by omega) (by omega)
   have i1:(0:Int)≤(j:Int):=by omega
   have i2:(j:Int)+1≤(lc:Int):=by omega
   have i3:(j:Int)≤(j:Int)+1:=by omega
   have hcj:¬ lc=j:=by omega
   have CA:=add_rules (l:=[l[j]]) (lc:=lc-j) hT.out.st (rsat_part (HL.out wr hT.out.same) hlt) (by simp) (by simp;omega)
   have CAH:Hid (Calls Tryz.prog 48 #[.pointer (some ⟨b,0,none⟩),.slice (some ⟨lb,loff+j * 2,none⟩) 1 (lc-j)] wr (AddPost L R [l[j]] b bs lv wr)):=CA
   have hsn:Hid (l.take (j+1)=l.take j ++ [l[j]]):=by show _=_;rw [List.take_add_one,List.getElem?_eq_getElem hlt];rfl
   by_cases hA:Ans L R [l[j]] []
   ·have hfit:=hA.fit hT.out.st.le
    have hs2:Hid (StoredR L (l.take (j+1)) [] (R ++ [l[j]])):=by show StoredR _ _ _ _;rw [hsn.out];exact hR.out.snoc (.inl ⟨hA,rfl⟩)
    have CA2:Hid (Calls Tryz.prog 48 #[.pointer (some ⟨b,0,none⟩),.slice (some ⟨lb,loff+j * 2,none⟩) 1 (lc-j)] wr fun e w1=>∃ lv' vs', e=.returned .nilIface∧Hid (StAt w1 b bs L (R ++ [l[j]]) lv' vs' ∧ Kept (StoB wr b lv) wr w1∧∀ k,lv'.ownBlock=some k→lv.ownBlock=some k∨wr.heap.size≤k)):=CAH.out.mono (fun e w1 ⟨ws,v,e1,ha,hv,_,_,hy⟩=>by
     obtain rfl:=ha.uniq hA
     obtain rfl:v=.nilIface:=hv
     obtain ⟨lv', vs', a1,a2,a3⟩:=hy rfl
     exact ⟨lv', vs', e1,a1,a2,a3⟩)
    have CB:Hid (∀ w1 lv' vs', StAt w1 b bs L (R ++ [l[j]]) lv' vs' ∧ Kept (StoB wr b lv) wr w1∧(∀ k,lv'.ownBlock=some k→lv.ownBlock=some k∨wr.heap.size≤k)→Calls Tryz.prog 49 #[.pointer (some ⟨m,0,none⟩),.slice (some ⟨lb,loff+j * 2,none⟩) 1 (lc-j)] w1 fun e w2=>∃ mv' ms', e=.returned (.slice none 0 0)∧Hid (Twin w w2 L (R ++ [l[j]]) bs b m ro rc lv' vs' mv' ms')):=fun w1 lv' vs' ⟨a1,a2,a3⟩=>by
     obtain ⟨hmo,hs1,hmore⟩:=hT.out.more (w2:=w1) hA a1 a2 a3
     refine (radd_yes (l:=[l[j]]) (lc:=lc-j) hmo (rsat_part (HL.out w1 hs1) hlt) (by simp) (fun e=>by cases e) hA hfit.2 (by simpa using hfit.1) (fun ww hk=>rsat_part (HL.out ww (Kept.trans hs1 hk (fun i hi e=>by
      rcases e with e | e
      ·have:=hT.out.m0;omega
      ·have:=hT.out.v0 i e;omega))) hlt)).mono ?_
     rintro e w2 ⟨mv', ms', rfl,m1,m2,m3⟩
     obtain ⟨_,_,hmore2⟩:=hT.out.more (w2:=w2) hA a1 a2 a3
     exact ⟨mv', ms', rfl,hmore2 mv' ms' m1 m2 m3⟩
    have CS:=fun ww=>same_flt (w:=ww) (er:=.nilIface) (lv:=.slice none 0 0) (ws:=[]) rfl ⟨none,0,rfl,.inl rfl⟩ (by simp)
    have CSH:Hid (∀ ww,Calls Tryz.prog 20 #[.nilIface,.slice none 0 0] ww fun e w' => e=.returned (.bool true)∧Same0 ww w'):=CS
    have D1:=CA2.out
    clear CA CAH CA2 CS hfit hT hR hsn
    go_upto_region 12 with (first | (go_at_call 48;refine D1.mono ?_;rintro e w4 ⟨lv', vs', rfl,h4⟩))
    have D2:=CB.out w4 lv' vs' h4.out
    go_upto_region 13 with (first | (go_at_call 49;refine D2.mono ?_;rintro e w5 ⟨mv', ms', rfl,h5⟩))
    have D3:=CSH.out w5
    go_wp2_with (first | (go_at_call 20;refine D3.mono ?_;rintro e w6 ⟨rfl,k6⟩))
    exact ⟨⟨j+1,R ++ [l[j]],lv', vs', mv', ms', by omega,by go_num,h5.out.same' k6,hs2⟩,by simp [intOf];omega⟩
   ·have hs2:Hid (StoredR L (l.take (j+1)) [] R):=by show StoredR _ _ _ _;rw [hsn.out];exact hR.out.snoc (.inr ⟨hA,rfl⟩)
    have CA2:Hid (Calls Tryz.prog 48 #[.pointer (some ⟨b,0,none⟩),.slice (some ⟨lb,loff+j * 2,none⟩) 1 (lc-j)] wr fun e w1=>∃ ws k,e=.returned (.iface 123 (.pointer (some ⟨k,0,none⟩)))∧Hid (Ans L R [l[j]] ws∧ws≠[]∧ws.length≤2∧FltAt w1 ws (.iface 123 (.pointer (some ⟨k,0,none⟩))))∧Same0 wr w1):=CAH.out.mono (fun e w1 ⟨ws,v,e1,ha,hv,h2,hno,_⟩=>by
     have hne:ws≠[]:=fun e=>hA (e ▸ ha)
     rcases ha.flt hv with ⟨e,_⟩ | ⟨_,k,rfl⟩
     ·exact absurd e hne
     ·exact ⟨ws,k,e1,⟨ha,hne,h2,hv⟩,hno hne⟩)
    have CB:Hid (∀ w1 ws,Same0 wr w1→Ans L R [l[j]] ws→ws≠[]→Calls Tryz.prog 49 #[.pointer (some ⟨m,0,none⟩),.slice (some ⟨lb,loff+j * 2,none⟩) 1 (lc-j)] w1 fun e w2=>∃ v,e=.returned v∧Hid (WrsAt w2 v ws)∧Same0 w1 w2):=fun w1 ws k1 ha hne=>radd7_no (l:=[l[j]]) (lc:=lc-j) (hT.out.same' k1).mo (rsat_part (HL.out w1 (hT.out.same' k1).same) hlt) (by simp) (fun e=>by cases e) ha hne
    have HT2:Hid (∀ ww,Same0 wr ww→Twin w ww L R bs b m ro rc lv vs mv ms):=fun ww hk=>hT.out.same' hk
    have D1:=CA2.out
    clear CA CAH CA2 hT hR hsn
    go_upto_region 12 with (first | (go_at_call 48;refine D1.mono ?_;rintro e w4 ⟨ws,k,rfl,h4,k4⟩))
    obtain ⟨q1,q2,q3,q4⟩:=h4.out
    have D2:=CB.out w4 ws k4 q1 q2
    go_upto_region 13 with (first | (go_at_call 49;refine D2.mono ?_;rintro e w5 ⟨v5,rfl,h5,k5⟩))
    have D3:=same_flt (FltAt.same k5 q4) h5.out q3
    clear q1 q2 q3 q4 D1 D2
    go_wp2_with (first | (go_at_call 20;refine D3.mono ?_;rintro e w6 ⟨rfl,k6⟩))
    exact ⟨⟨j+1,R,lv,vs,mv,ms,by omega,by go_num,HT2.out _ ((k4.trans' k5).trans' k6),hs2⟩,by simp [intOf];omega⟩
  ·obtain rfl:j=l.length:=by omega
   have hR2:Hid (StoredR L l [] R):=by have:=hR.out;rw [List.take_length] at this;exact this
   clear hR
   go_wp2_with fail
   go_ret3
   exact ⟨bs,b,m,ro,rc,lv,vs,mv,ms,R,rfl,hT.out,hR2.out⟩
end Go.Proofs.YtdhiiicppcgkbaaGreat
