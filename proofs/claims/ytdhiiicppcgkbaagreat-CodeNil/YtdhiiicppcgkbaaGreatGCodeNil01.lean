import Derived.Test.YtdhiiicppcgkbaaGreatGB19
import Derived.Test.YtdhiiicppcgkbaaGreatGB05
import Derived.Test.YtdhiiicppcgkbaaGreatGB28
import Derived.Test.YtdhiiicppcgkbaaGreatGB29
import Derived.Test.YtdhiiicppcgkbaaGreatGB03
import Derived.Test.YtdhiiicppcgkbaaGreatGB08
import Derived.SizedLaws
namespace Go.Proofs.YtdhiiicppcgkbaaGreat
set_option maxRecDepth 100000
set_option linter.unusedVariables false
open Go.RowKit
attribute [local go_sem ↓] Go.wp_at_zero Go.wp_at_succ
theorem vw_nn (w:World):(binOp .eql 147 .nilIface .nilIface).run Tryz.prog w=.ok (.bool true) w:=by kernel_rfl
set_option maxHeartbeats 4000000 in
theorem run_nil9 (io po eo ro:Option Addr) (il ic pl pc el ec rl rc:Nat) (n node:Int) (w:World) :
  Calls Tryz.prog 25 #[.agg #[.slice io il ic,.slice po pl pc,.slice eo el ec,.slice ro rl rc],.int .i64 n,.nilIface,.int .i64 node] w fun e w' => e=.returned (.tuple #[.agg #[.int .i64 0,.int .i64 0,.slice none 0 0,.int .i64 0],.int .i64 1])∧Same0 w w' := by
 have en:=vw_nn
 obtain ⟨W1,hW1⟩:∃ W1,W1=(w.alloc (.cells #[.slice io il ic,.slice po pl pc,.slice eo el ec,.slice ro rl rc] 45)).alloc (.cells #[.int .i64 0,.int .i64 0,.slice none 0 0,.int .i64 0] 73):=⟨_,rfl⟩
 have KW:Same0 w W1:=by rw [hW1];exact ((Kept.refl _ w).alloc _).alloc _
 have hfd:W1.heap[w.heap.size+1]? = some (.cells #[.int .i64 0,.int .i64 0,.slice none 0 0,.int .i64 0] 73 (0,0)):=by rw [hW1];exact heap_al_al _ _ _
 have r0:=cellAt hfd 0
 have r1:=cellAt hfd 1
 have r2:=cellAt hfd 2
 have r3:=cellAt hfd 3
 have f0:=frozenAt hfd 0
 have f1:=frozenAt hfd 1
 have f2:=frozenAt hfd 2
 have f3:=frozenAt hfd 3
 simp only [List.getElem?_toArray,List.getElem?_cons_zero,List.getElem?_cons_succ] at r0 r1 r2 r3
 have PH:Hid ((((((W1.setCell ⟨w.heap.size+1,0,none⟩ (.int .i64 0)).setCell ⟨w.heap.size+1,1,none⟩ (.int .i64 0)).setCell ⟨w.heap.size+1,2,none⟩ (.slice none 0 0)).setCell ⟨w.heap.size+1,3,none⟩ (.int .i64 0)).heap[w.heap.size+1]? = some (.cells #[.int .i64 0,.int .i64 0,.slice none 0 0,.int .i64 0] 73 (0,0)))∧Same0 w ((((W1.setCell ⟨w.heap.size+1,0,none⟩ (.int .i64 0)).setCell ⟨w.heap.size+1,1,none⟩ (.int .i64 0)).setCell ⟨w.heap.size+1,2,none⟩ (.slice none 0 0)).setCell ⟨w.heap.size+1,3,none⟩ (.int .i64 0))):=
  ⟨setAt (setAt (setAt (setAt hfd 0 _) 1 _) 2 _) 3 _,Same0.own (Same0.own (Same0.own (Same0.own KW (by omega) _) (by omega) _) (by omega) _) (by omega) _⟩
 clear hfd
 go_enter Tryz.func25,Tryz.ntmps25
 go_upto_region 1 with fail
 rw [← hW1]
 clear hW1
 go_wp2_with fail
 obtain ⟨h,ks⟩:=PH.out
 have q0:=cellAt h 0
 have q1:=cellAt h 1
 have q2:=cellAt h 2
 have q3:=cellAt h 3
 simp only [List.getElem?_toArray,List.getElem?_cons_zero,List.getElem?_cons_succ] at q0 q1 q2 q3
 exact bodyPost_ret (v:=.tuple #[.agg #[.int .i64 0,.int .i64 0,.slice none 0 0,.int .i64 0],.int .i64 1]) (by simp [results,Tryz.results25,go_sem,q0,q1,q2,q3]) rfl ⟨rfl,ks⟩
set_option maxHeartbeats 2000000 in
theorem lists_nil9 (ao bo:Option Addr) (ac bc:Nat) (w:World):Calls Tryz.prog 14 #[.slice ao 0 ac,.slice bo 0 bc] w fun e w' => e=.returned (.bool true)∧w' = w:=by
 go_enter Tryz.func14,Tryz.ntmps14
 go_wp2
 go_loopw [5] (fun s wr=>s=.int .i64 0∧wr=w) (fun _ _=>0)
 case atStart=>exact ⟨rfl,rfl⟩
 case round=>
  obtain ⟨rfl,rfl⟩:=hrel
  go_wp2
  go_ret
  exact ⟨rfl,rfl⟩
set_option maxHeartbeats 2000000 in
theorem rsame_nil9 (w:World):Calls Tryz.prog 18 #[.agg #[.slice none 0 0,.slice none 0 0,.slice none 0 0,.slice none 0 0],.agg #[.slice none 0 0,.slice none 0 0,.slice none 0 0,.slice none 0 0]] w fun e w' => e=.returned (.bool true)∧Same0 w w' := by
 obtain ⟨W1,hW1⟩:∃ W1,W1=(w.alloc (.cells #[.slice none 0 0,.slice none 0 0,.slice none 0 0,.slice none 0 0] 45)).alloc (.cells #[.slice none 0 0,.slice none 0 0,.slice none 0 0,.slice none 0 0] 45):=⟨_,rfl⟩
 have KW:Same0 w W1:=by rw [hW1];exact ((Kept.refl _ w).alloc _).alloc _
 have hb0:W1.heap[w.heap.size]? = some (.cells #[.slice none 0 0,.slice none 0 0,.slice none 0 0,.slice none 0 0] 45 (0,0)):=by rw [hW1];exact heap_alloc2_old _ _ _
 have hb1:W1.heap[w.heap.size+1]? = some (.cells #[.slice none 0 0,.slice none 0 0,.slice none 0 0,.slice none 0 0] 45 (0,0)):=by rw [hW1];exact heap_al_al _ _ _
 have BX:Hid (∀ ww,Same0 W1 ww→(ww.cell? ⟨w.heap.size,0,none⟩=some (.slice none 0 0)∧ww.cell? ⟨w.heap.size,1,none⟩=some (.slice none 0 0)∧ww.cell? ⟨w.heap.size,2,none⟩=some (.slice none 0 0)∧ww.cell? ⟨w.heap.size,3,none⟩=some (.slice none 0 0))∧ww.cell? ⟨w.heap.size+1,0,none⟩=some (.slice none 0 0)∧ww.cell? ⟨w.heap.size+1,1,none⟩=some (.slice none 0 0)∧ww.cell? ⟨w.heap.size+1,2,none⟩=some (.slice none 0 0)∧ww.cell? ⟨w.heap.size+1,3,none⟩=some (.slice none 0 0)):=fun ww hk=>by
  have a:=hk.at0 hb0
  have b:=hk.at0 hb1
  exact ⟨⟨cellAt a 0,cellAt a 1,cellAt a 2,cellAt a 3⟩,cellAt b 0,cellAt b 1,cellAt b 2,cellAt b 3⟩
 have C1:∀ ww,Calls Tryz.prog 13 #[.slice none 0 0,.slice none 0 0] ww fun e w' => e=.returned (.bool true)∧Same0 ww w' := fun ww=>sameIns_any (I:=[]) (.inl rfl) (.inl rfl) (by decide) 0 0
 have C3:∀ ww,Calls Tryz.prog 43 #[.slice none 0 0,.slice none 0 0] ww fun e w' => e=.returned (.bool true)∧Same0 ww w' := fun ww=>by
  refine (same_any (xs:=[]) (ys:=[]) (.inl rfl) (.inl rfl) (by decide)).mono ?_
  rintro e w' ⟨rfl,hk⟩
  exact ⟨rfl,hk⟩
 obtain ⟨⟨x0,x1,x2,x3⟩,y0,y1,y2,y3⟩:=BX.out W1 (Kept.refl _ _)
 clear hb0 hb1
 go_enter Tryz.func18,Tryz.ntmps18
 go_upto_region 1 with fail
 rw [← hW1]
 clear hW1
 go_wp2_with (first
  | (go_at_call 13;refine (C1 _).mono ?_;rintro e w2 ⟨rfl,k2⟩;obtain ⟨⟨u0,u1,u2,u3⟩,v0,v1,v2,v3⟩:=BX.out w2 k2)
  | (go_at_call 14;refine (lists_nil9 _ _ _ _ _).mono ?_;rintro e w3 ⟨rfl,rfl⟩)
  | (go_at_call 43;refine (C3 _).mono ?_;rintro e w4 ⟨rfl,k4⟩;obtain ⟨⟨p0,p1,p2,p3⟩,q0,q1,q2,q3⟩:=BX.out w4 (k2.trans' k4)))
 go_loopw [8] (fun s wr=>s=.int .i64 0∧wr=w4) (fun _ _=>0)
 case atStart=>exact ⟨rfl,rfl⟩
 case round=>
  obtain ⟨rfl,rfl⟩:=hrel
  go_wp2
  go_ret
  exact ⟨rfl,(KW.trans' k2).trans' k4⟩
end Go.Proofs.YtdhiiicppcgkbaaGreat
namespace Go.Proofs.YtdhiiicppcgkbaaGreat
set_option maxRecDepth 100000
set_option linter.unusedVariables false
open Go.RowKit Go.Shelf
attribute [local go_sem ↓] Go.wp_at_zero Go.wp_at_succ
theorem cptr_nil0 (w:World):(binOp .eql 39 (.pointer none) (.pointer none)).run Tryz.prog w=.ok (.bool true) w:=by kernel_rfl
set_option maxHeartbeats 2000000 in
theorem compile_nil (w:World):Calls Tryz.prog 16 #[.pointer none] w fun e w' => ∃ k,e=.returned (.tuple #[.agg #[.slice none 0 0,.slice none 0 0,.slice none 0 0,.slice none 0 0],.iface 123 (.pointer (some ⟨k,0,none⟩))])∧FltAt w' [(1,0)] (.iface 123 (.pointer (some ⟨k,0,none⟩)))∧Same0 w w' := by
 have hpn:=cptr_nil0
 obtain ⟨W1,hW1⟩:∃ W1,W1=((w.alloc (.cells #[.pointer none] 39)).alloc (.cells #[.slice none 0 0,.slice none 0 0,.slice none 0 0,.slice none 0 0] 45)).alloc (.cells #[.nilIface] 47):=⟨_,rfl⟩
 have KW:Same0 w W1:=by rw [hW1];exact (((Kept.refl _ w).alloc _).alloc _).alloc _
 have ez:W1.heap.size=w.heap.size+1+1+1:=by rw [hW1];simp
 have ka:Same0 W1 (W1.alloc (.cells #[.int .i64 1,.int .i64 0,.nilIface] 125)):=(Kept.refl _ _).alloc _
 have h0:W1.heap[w.heap.size]? = some (.cells #[.pointer none] 39 (0,0)):=by
  have k2:Same0 (w.alloc (.cells #[.pointer none] 39)) W1:=by rw [hW1];exact ((Kept.refl _ _).alloc _).alloc _
  exact k2.at0 (heap_alloc_new _ _)
 have h2:(W1.alloc (.cells #[.int .i64 1,.int .i64 0,.nilIface] 125)).heap[w.heap.size+1]? = some (.cells #[.slice none 0 0,.slice none 0 0,.slice none 0 0,.slice none 0 0] 45 (0,0)):=by
  have k2:Same0 ((w.alloc (.cells #[.pointer none] 39)).alloc (.cells #[.slice none 0 0,.slice none 0 0,.slice none 0 0,.slice none 0 0] 45)) W1:=by rw [hW1];exact (Kept.refl _ _).alloc _
  exact ka.at0 (k2.at0 (heap_al_al _ _ _))
 have h3:(W1.alloc (.cells #[.int .i64 1,.int .i64 0,.nilIface] 125)).heap[w.heap.size+1+1]? = some (.cells #[.nilIface] 47 (0,0)):=by
  have h3:=heap_al_al (w.alloc (.cells #[.pointer none] 39)) (.cells #[.slice none 0 0,.slice none 0 0,.slice none 0 0,.slice none 0 0] 45) (.cells #[.nilIface] 47)
  rw [World.size_alloc] at h3
  exact ka.at0 (by rw [hW1];exact h3)
 have x0:=cellAt h0 0
 have q0:=cellAt h2 0
 have q1:=cellAt h2 1
 have q2:=cellAt h2 2
 have q3:=cellAt h2 3
 have q4:=cellAt h3 0
 have f0:=frozenAt h2 0
 have f1:=frozenAt h2 1
 have f2:=frozenAt h2 2
 have f3:=frozenAt h2 3
 have f4:=frozenAt h3 0
 simp only [List.getElem?_toArray,List.getElem?_cons_zero,List.getElem?_cons_succ] at x0 q0 q1 q2 q3 q4
 have PH:Hid (∃ W9,W9=((((((W1.alloc (.cells #[.int .i64 1,.int .i64 0,.nilIface] 125)).setCell ⟨w.heap.size+1,0,none⟩ (.slice none 0 0)).setCell ⟨w.heap.size+1,1,none⟩ (.slice none 0 0)).setCell ⟨w.heap.size+1,2,none⟩ (.slice none 0 0)).setCell ⟨w.heap.size+1,3,none⟩ (.slice none 0 0)).setCell ⟨w.heap.size+1+1,0,none⟩ (.iface 123 (.pointer (some ⟨W1.heap.size,0,none⟩))))∧W9.cell? ⟨w.heap.size+1,0,none⟩=some (.slice none 0 0)∧W9.cell? ⟨w.heap.size+1,1,none⟩=some (.slice none 0 0)∧W9.cell? ⟨w.heap.size+1,2,none⟩=some (.slice none 0 0)∧W9.cell? ⟨w.heap.size+1,3,none⟩=some (.slice none 0 0)∧W9.cell? ⟨w.heap.size+1+1,0,none⟩=some (.iface 123 (.pointer (some ⟨W1.heap.size,0,none⟩)))∧W9.heap[W1.heap.size]? = some (.cells #[.int .i64 1,.int .i64 0,.nilIface] 125 (0,0))∧Same0 w W9):=by
  refine ⟨_,rfl,?_⟩
  have s3:=setAt (setAt (setAt (setAt h2 0 (.slice none 0 0)) 1 (.slice none 0 0)) 2 (.slice none 0 0)) 3 (.slice none 0 0)
  have k1:=Kept.setCell (p:=⟨w.heap.size+1,0,none⟩) (Kept.refl (fun q=>q=w.heap.size+1) (W1.alloc (.cells #[.int .i64 1,.int .i64 0,.nilIface] 125))) (fun _=>rfl) (.slice none 0 0)
  have k2:=Kept.setCell (p:=⟨w.heap.size+1,1,none⟩) k1 (fun _=>rfl) (.slice none 0 0)
  have k3:=Kept.setCell (p:=⟨w.heap.size+1,2,none⟩) k2 (fun _=>rfl) (.slice none 0 0)
  have k4:=Kept.setCell (p:=⟨w.heap.size+1,3,none⟩) k3 (fun _=>rfl) (.slice none 0 0)
  have h3' := k4.at h3 (fun e=>by omega)
  have s4:=setAt h3' 0 (.iface 123 (.pointer (some ⟨W1.heap.size,0,none⟩)))
  have k5:=Kept.setCell (p:=⟨w.heap.size+1+1,0,none⟩) (Kept.refl (fun q=>q=w.heap.size+1+1) (((((W1.alloc (.cells #[.int .i64 1,.int .i64 0,.nilIface] 125)).setCell ⟨w.heap.size+1,0,none⟩ (.slice none 0 0)).setCell ⟨w.heap.size+1,1,none⟩ (.slice none 0 0)).setCell ⟨w.heap.size+1,2,none⟩ (.slice none 0 0)).setCell ⟨w.heap.size+1,3,none⟩ (.slice none 0 0))) (fun _=>rfl) (.iface 123 (.pointer (some ⟨W1.heap.size,0,none⟩)))
  have s3' := k5.at s3 (fun e=>by omega)
  have hf:=k5.at (k4.at (heap_alloc_new W1 _) (fun e=>by omega)) (fun e=>by omega)
  exact ⟨cellAt s3' 0,cellAt s3' 1,cellAt s3' 2,cellAt s3' 3,cellAt s4 0,hf,Kept.trans (Kept.trans (KW.trans' ka) k4 (fun i hi e=>by omega)) k5 (fun i hi e=>by omega)⟩
 clear h0 h2 h3 ka KW ez
 go_enter Tryz.func16,Tryz.ntmps16
 go_upto_region 1 with fail
 rw [← hW1]
 clear hW1
 go_upto_region 2 with fail
 go_wp2_with fail
 obtain ⟨W9,rfl,g0,g1,g2,g3,g4,hf,ks⟩:=PH.out
 exact bodyPost_ret (v:=.tuple #[.agg #[.slice none 0 0,.slice none 0 0,.slice none 0 0,.slice none 0 0],.iface 123 (.pointer (some ⟨W1.heap.size,0,none⟩))]) (by simp [results,Tryz.results16,go_sem,g0,g1,g2,g3,g4]) rfl ⟨_,rfl,.inr ⟨by omega,_,_,rfl,hf,rfl⟩,ks⟩
end Go.Proofs.YtdhiiicppcgkbaaGreat
namespace Go.Proofs.YtdhiiicppcgkbaaGreat
set_option maxRecDepth 100000
set_option linter.unusedVariables false
open Go.RowKit Go.Deep
section
variable {H : Type} {enc : TypeId × Value → H} {w : World} {spare : Nat → Bool} {held : Bool}
theorem trod_struct4 {P:Program} {base:Nat} {t:TypeId} {f0 f1 f2 f3:Field} {fuel:Nat} {cs:List Value} {x:DataW H × List MemPlace} (ht:P.underlying t=some (.struct #[f0,f1,f2,f3])) (h:DataW.trod enc P w base spare held fuel t cs=some x) :
  ∃ y0 y1 y2 y3 n,n<fuel∧x.1=.agg [y0.1,y1.1,y2.1,y3.1]∧cs.length=P.cellsOf t∧DataW.trod enc P w base spare held n f0.type ((cs.drop f0.offset).take (P.cellsOf f0.type))=some y0 ∧
   DataW.trod enc P w base spare held n f1.type ((cs.drop f1.offset).take (P.cellsOf f1.type))=some y1∧DataW.trod enc P w base spare held n f2.type ((cs.drop f2.offset).take (P.cellsOf f2.type))=some y2 ∧
   DataW.trod enc P w base spare held n f3.type ((cs.drop f3.offset).take (P.cellsOf f3.type))=some y3:=by
 obtain ⟨xs,n,hn,rfl,hl,hlen,hf⟩:=DataW.trod_struct ht h
 match xs,hlen with
 | [y0,y1,y2,y3],_=>exact ⟨y0,y1,y2,y3,n,by omega,by simp,hl,by simpa using hf 0 f0 rfl,by simpa using hf 1 f1 rfl,by simpa using hf 2 f2 rfl,by simpa using hf 3 f3 rfl⟩
theorem cells_Cs:Tryz.prog.cellsOf 25=4:=by kernel_rfl
theorem cells_kids:Tryz.prog.cellsOf 23=1:=by kernel_rfl
end
section
variable {H : Type} {enc : TypeId × Value → H} {w : World} {spare : Nat → Bool} {held : Bool}
theorem cells_Code9:Tryz.prog.cellsOf 45=4:=by kernel_rfl
theorem cells_Ins9:Tryz.prog.cellsOf 27=1:=by kernel_rfl
theorem cells_Paths9:Tryz.prog.cellsOf 28=1:=by kernel_rfl
theorem cells_Rights9:Tryz.prog.cellsOf 43=1:=by kernel_rfl
theorem shape_code {fuel:Nat} {cs:List Value} {x:DataW H × List MemPlace} (h:DataW.trod enc Tryz.prog w 0 spare held fuel 45 cs=some x):∃ io il ic po pl pc eo el ec ro rl rc,cs=[.slice io il ic,.slice po pl pc,.slice eo el ec,.slice ro rl rc]:=by
 obtain ⟨y0,y1,y2,y3,n,_,hd,hl,h0,h1,h2,h3⟩:=trod_struct4 Tryz.underlying45 h
 rw [cells_Code9] at hl
 match cs,hl with
 | [c0,c1,c2,c3],_=>
  simp only [cells_Ins9,cells_ints,cells_Paths9,cells_Rights9,List.drop_zero,List.take_succ_cons,List.take_zero,List.drop_succ_cons] at h0 h1 h2 h3
  obtain ⟨io,il,ic,rfl⟩:=slice_one Tryz.underlying27 h0
  obtain ⟨po,pl,pc,rfl⟩:=slice_one Tryz.underlying28 h1
  obtain ⟨eo,el,ec,rfl⟩:=slice_one Tryz.underlying22 h2
  obtain ⟨ro,rl,rc,rfl⟩:=slice_one Tryz.underlying43 h3
  exact ⟨io,il,ic,po,pl,pc,eo,el,ec,ro,rl,rc,rfl⟩
theorem open_code9 {r:Go.Reach} {b0:Nat} {v:Value} {d:DataW H} {p:List MemPlace} (hv:Value.okWide Tryz.prog w r b0 45 v) (h:DataW.Trod enc Tryz.prog w 0 spare held 45 v d p):∃ io il ic po pl pc eo el ec ro rl rc,v=.agg #[.slice io il ic,.slice po pl pc,.slice eo el ec,.slice ro rl rc]:=by
 obtain ⟨cs,rfl,_⟩:=Go.WideShapes.okWide_struct Tryz.underlying45 hv
 obtain ⟨fuel,hf⟩:=h
 obtain ⟨io,il,ic,po,pl,pc,eo,el,ec,ro,rl,rc,e⟩:=shape_code (show DataW.trod enc Tryz.prog w 0 spare held fuel 45 cs.toList=some (d,p) by simpa [Value.cells] using hf)
 refine ⟨io,il,ic,po,pl,pc,eo,el,ec,ro,rl,rc,?_⟩
 congr 1
 cases cs
 simp only at e
 rw [e]
end
end Go.Proofs.YtdhiiicppcgkbaaGreat
namespace Go.Proofs.YtdhiiicppcgkbaaGreat
set_option maxRecDepth 100000
set_option linter.unusedVariables false
open Go.RowKit Go.Deep
attribute [local go_sem ↓] Go.wp_at_zero Go.wp_at_succ
set_option maxHeartbeats 4000000 in
theorem cnil_walk (io po eo ro:Option Addr) (il ic pl pc el ec rl rc:Nat) (n node:Int) (w:World):Calls Tryz.prog 9 #[.agg #[.slice io il ic,.slice po pl pc,.slice eo el ec,.slice ro rl rc],.int .i64 n,.int .i64 node] w fun e w' => e=.returned (.bool true)∧Below w.heap.size w w' := by
 have CA:=awake9_any
 have CB:=compile_nil
 have CW:=run_nil9 io po eo ro il ic pl pc el ec rl rc n node
 have CS:=rsame_nil9
 have CF:Hid (∀ ww,Calls Tryz.prog 27 #[.agg #[.int .i64 0,.int .i64 0,.slice none 0 0,.int .i64 0],.agg #[.int .i64 0,.int .i64 0,.slice none 0 0,.int .i64 0]] ww fun e w' => e=.returned (.bool true)∧Same0 ww w'):=fun ww=>fsame_any (p:=[]) (.inl rfl) (.inl rfl) (by decide)
 go_enter Tryz.func9,Tryz.ntmps9
 go_upto_region 1 with fail
 obtain ⟨W0,hW0⟩:∃ W0,W0=w.alloc (.cells #[.slice io il ic,.slice po pl pc,.slice eo el ec,.slice ro rl rc] 45):=⟨_,rfl⟩
 have K0:Same0 w W0:=by rw [hW0];exact (Kept.refl _ w).alloc _
 have HB:Hid (∀ ww,Same0 W0 ww→ww.cell? ⟨w.heap.size,0,none⟩=some (.slice io il ic)∧ww.cell? ⟨w.heap.size,1,none⟩=some (.slice po pl pc)∧ww.cell? ⟨w.heap.size,2,none⟩=some (.slice eo el ec)∧ww.cell? ⟨w.heap.size,3,none⟩=some (.slice ro rl rc)):=fun ww hk=>by
  have h1:=hk.at0 (show W0.heap[w.heap.size]? = some (.cells #[.slice io il ic,.slice po pl pc,.slice eo el ec,.slice ro rl rc] 45 (0,0)) by rw [hW0];exact heap_alloc_new w _)
  exact ⟨cellAt h1 0,cellAt h1 1,cellAt h1 2,cellAt h1 3⟩
 rw [← hW0]
 clear hW0
 have C0:=CA W0
 go_upto_region 2 with (first | (go_at_call 10;refine C0.mono ?_;rintro e w1 ⟨rfl,k1⟩))
 have C1:=CB w1
 go_upto_region 3 with (first | (go_at_call 16;refine C1.mono ?_;rintro e w2 ⟨q,rfl,hf,k2⟩))
 obtain ⟨w3,hw3⟩:∃ w3,w3=w2.alloc (.cells #[.slice none 0 0,.slice none 0 0,.slice none 0 0,.slice none 0 0] 45):=⟨_,rfl⟩
 have k3:Same0 w2 w3:=by rw [hw3];exact (Kept.refl _ _).alloc _
 have K3:Same0 W0 w3:=(k1.trans' k2).trans' k3
 have HZ:Hid (∀ ww,Same0 w3 ww→ww.cell? ⟨w2.heap.size,0,none⟩=some (.slice none 0 0)∧ww.cell? ⟨w2.heap.size,1,none⟩=some (.slice none 0 0)∧ww.cell? ⟨w2.heap.size,2,none⟩=some (.slice none 0 0)∧ww.cell? ⟨w2.heap.size,3,none⟩=some (.slice none 0 0)):=fun ww hk=>by
  have h1:=hk.at0 (show w3.heap[w2.heap.size]? = some (.cells #[.slice none 0 0,.slice none 0 0,.slice none 0 0,.slice none 0 0] 45 (0,0)) by rw [hw3];exact heap_alloc_new w2 _)
  exact ⟨cellAt h1 0,cellAt h1 1,cellAt h1 2,cellAt h1 3⟩
 have HF:Hid (∀ ww,Same0 w3 ww→FltAt ww [(1,0)] (.iface 123 (.pointer (some ⟨q,0,none⟩)))):=fun ww hk=>FltAt.same hk (FltAt.same k3 hf)
 rw [← hw3]
 clear hw3 hf C0 C1 CA CB
 obtain ⟨b0,b1,b2,b3⟩:=HB.out w3 K3
 have C2:=CW w3
 go_upto_region 4 with (first | (go_at_call 25;refine C2.mono ?_;rintro e w4 ⟨rfl,k4⟩))
 obtain ⟨w5,hw5⟩:∃ w5,w5=w4.alloc (.cells #[.int .i64 0,.int .i64 0,.slice none 0 0,.int .i64 0] 73):=⟨_,rfl⟩
 have k5:Same0 w4 w5:=by rw [hw5];exact (Kept.refl _ _).alloc _
 have K5:Same0 w3 w5:=k4.trans' k5
 have HN:Hid (∀ ww,Same0 w5 ww→ww.cell? ⟨w4.heap.size,0,none⟩=some (.int .i64 0)∧ww.cell? ⟨w4.heap.size,1,none⟩=some (.int .i64 0)∧ww.cell? ⟨w4.heap.size,2,none⟩=some (.slice none 0 0)∧ww.cell? ⟨w4.heap.size,3,none⟩=some (.int .i64 0)):=fun ww hk=>by
  have h1:=hk.at0 (show w5.heap[w4.heap.size]? = some (.cells #[.int .i64 0,.int .i64 0,.slice none 0 0,.int .i64 0] 73 (0,0)) by rw [hw5];exact heap_alloc_new w4 _)
  exact ⟨cellAt h1 0,cellAt h1 1,cellAt h1 2,cellAt h1 3⟩
 rw [← hw5]
 clear hw5 b0 b1 b2 b3 C2 CW
 have kx:Same0 w5 (w5.alloc (.cells #[.int .i64 1,.int .i64 0] 112)):=(Kept.refl _ _).alloc _
 have B6:=same_flt (HF.out _ (K5.trans' kx)) (wrs_new w5 [(1,0)] _ 112 rfl (fun i hi=>by have hi' : i<1:=hi;match i,hi' with | 0,_=>exact ⟨rfl,rfl⟩) 1 rfl) (by decide)
 go_upto_region 5 with (first | (go_at_call 20;refine B6.mono ?_;rintro e w7 ⟨rfl,k7⟩))
 have K57:Same0 w5 w7:=kx.trans' k7
 obtain ⟨z0,z1,z2,z3⟩:=HZ.out w7 (K5.trans' K57)
 have C7:=CS w7
 go_upto_region 6 with (first | (go_at_call 18;refine C7.mono ?_;rintro e w8 ⟨rfl,k8⟩))
 have K58:Same0 w5 w8:=K57.trans' k8
 obtain ⟨y0,y1,y2,y3⟩:=HN.out w8 K58
 have C8:=CF.out w8
 clear z0 z1 z2 z3 C7 B6
 have KF:Hid (∀ ww,Same0 w8 ww→Same0 w ww):=fun ww hk=>(((K0.trans' K3).trans' K5).trans' K58).trans' hk
 go_wp2_with (first | (go_at_call 27;refine C8.mono ?_;rintro e w9 ⟨rfl,k9⟩))
 go_ret
 exact ⟨rfl,(KF.out _ k9).below⟩
end Go.Proofs.YtdhiiicppcgkbaaGreat
