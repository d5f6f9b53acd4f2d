import Derived.Test.YtblgblgchkonhaaGreatGO04
import Derived.Test.YtblgblgchkonhaaGreatGO05
import Derived.Test.YtblgblgchkonhaaGreatGO03
import Derived.Deep.RegionHeld3
import Derived.BigQuiet
import Derived.Laws.AppendOwnNone
namespace Go.Proofs.YtblgblgchkonhaaGreat
set_option maxRecDepth 100000
set_option linter.unusedVariables false
open Go.RowKit
attribute [local go_sem ↓] Go.wp_at_zero Go.wp_at_succ
theorem as_flt (v:Value) (xT:TypeId) (w:World):(Instr.typeAssert (.iface 92 v) xT 92 true).run Tryz.prog w=.ok (.tuple #[v,.bool true]) w:=by kernel_rfl
theorem as_fnil (xT:TypeId) (w:World):(Instr.typeAssert .nilIface xT 92 true).run Tryz.prog w=.ok (.tuple #[.pointer none,.bool false]) w:=by kernel_rfl
theorem as_enil (xT:TypeId) (w:World):(Instr.typeAssert .nilIface xT 40 true).run Tryz.prog w=.ok (.tuple #[.int .i64 0,.bool false]) w:=by kernel_rfl
def fltV (c a y:Int):Value:=.agg #[.int .i64 c,.int .i64 a,.int .i64 y,.bool false,.int .i64 0,.int .i64 0]
theorem neq_efault (v:Value) (w:World):(binOp .neq 37 (.iface 92 v) .nilIface).run Tryz.prog w=.ok (.bool true) w:=by kernel_rfl
theorem neq_enil (w:World):(binOp .neq 37 .nilIface .nilIface).run Tryz.prog w=.ok (.bool false) w:=by kernel_rfl
theorem neq_eerr (v:Value) (w:World):(binOp .neq 37 (.iface 40 v) .nilIface).run Tryz.prog w=.ok (.bool true) w:=by kernel_rfl
set_option maxHeartbeats 2000000 in
theorem fault_none (w:World):Calls Tryz.prog 11 #[.nilIface] w fun e w' => e=.returned (fltV 0 0 0)∧Same0 w w' := by
 obtain ⟨W0,hW0⟩:∃ W0,W0=w.alloc (.cells #[.int .i64 0,.int .i64 0,.int .i64 0,.bool false,.int .i64 0,.int .i64 0] 42):=⟨_,rfl⟩
 have k0:Same0 w W0:=by rw [hW0];exact (Kept.refl _ w).alloc _
 have h0:W0.heap[w.heap.size]? = some (.cells #[.int .i64 0,.int .i64 0,.int .i64 0,.bool false,.int .i64 0,.int .i64 0] 42 (0,0)):=by rw [hW0];exact heap_alloc_new w _
 have b0:W0.cell? ⟨w.heap.size,0,none⟩=some (.int .i64 0):=cellAt h0 0
 have b1:W0.cell? ⟨w.heap.size,1,none⟩=some (.int .i64 0):=cellAt h0 1
 have b2:W0.cell? ⟨w.heap.size,2,none⟩=some (.int .i64 0):=cellAt h0 2
 have b3:W0.cell? ⟨w.heap.size,3,none⟩=some (.bool false):=cellAt h0 3
 have b4:W0.cell? ⟨w.heap.size,4,none⟩=some (.int .i64 0):=cellAt h0 4
 have b5:W0.cell? ⟨w.heap.size,5,none⟩=some (.int .i64 0):=cellAt h0 5
 have g0:=frozenAt h0 0
 have g1:=frozenAt h0 1
 have g2:=frozenAt h0 2
 have g3:=frozenAt h0 3
 have g4:=frozenAt h0 4
 have g5:=frozenAt h0 5
 have a1:=as_fnil
 have n1:=neq_enil
 have KF:Hid (∀ ww,Kept (fun k=>k=w.heap.size) W0 ww→Same0 w ww):=fun ww hk=>k0.trans hk (fun i hi e=>by omega)
 clear h0
 go_enter Tryz.func11,Tryz.ntmps11
 go_upto_region 1 with fail
 rw [← hW0]
 clear hW0
 go_wp2
 refine bodyPost_ret (v:=fltV 0 0 0) (by simp [results,Tryz.results11,go_sem,b0,b1,b2,b3,b4,b5,fltV]) rfl ⟨rfl,KF.out _ ?_⟩
 have t:∀ (w' : World) (o:Nat) (v:Value),Kept (fun k=>k=w.heap.size) W0 w' → Kept (fun k=>k=w.heap.size) W0 (w'.setCell ⟨w.heap.size,o,none⟩ v):=fun w' o v h=>Kept.setCell (S:=fun k=>k=w.heap.size) h (p:=⟨w.heap.size,o,none⟩) (fun _=>rfl) v
 exact t _ _ _ (t _ _ _ (t _ _ _ (t _ _ _ (t _ _ _ (t _ _ _ (Kept.refl _ _))))))
set_option maxHeartbeats 4000000 in
theorem fault_zero {w:World} {b:Nat} {c a:Int} (hb:w.heap[b]? = some (.cells #[.int .i64 c,.int .i64 a,.nilIface] 94 (0,0))):Calls Tryz.prog 11 #[.iface 92 (.pointer (some ⟨b,0,none⟩))] w fun e w' => e=.returned (fltV c a 0)∧Kept (fun k=>k=b) w w' := by
 have hbl:=lt_of_at hb
 obtain ⟨W0,hW0⟩:∃ W0,W0=w.alloc (.cells #[.int .i64 0,.int .i64 0,.int .i64 0,.bool false,.int .i64 0,.int .i64 0] 42):=⟨_,rfl⟩
 have k0:Same0 w W0:=by rw [hW0];exact (Kept.refl _ w).alloc _
 have h0:W0.heap[w.heap.size]? = some (.cells #[.int .i64 0,.int .i64 0,.int .i64 0,.bool false,.int .i64 0,.int .i64 0] 42 (0,0)):=by rw [hW0];exact heap_alloc_new w _
 have hb0:=k0.at0 hb
 have hz0:W0.heap.size=w.heap.size+1:=by rw [hW0];simp
 have e0:W0.cell? ⟨b,0,none⟩=some (.int .i64 c):=cellAt hb0 0
 have e1:W0.cell? ⟨b,1,none⟩=some (.int .i64 a):=cellAt hb0 1
 have a1:=as_flt
 have a2:=as_enil
 have n1:=neq_enil
 obtain ⟨W1,hW1⟩:∃ W1,W1=W0.alloc (.cells #[.int .i64 c,.int .i64 a,.int .i64 0,.bool false,.int .i64 0,.int .i64 0] 42):=⟨_,rfl⟩
 have hz0l:b<W0.heap.size:=by omega
 have k1:Same0 W0 W1:=by rw [hW1];exact (Kept.refl _ _).alloc _
 have o0:W1.heap[W0.heap.size]? = some (.cells #[.int .i64 c,.int .i64 a,.int .i64 0,.bool false,.int .i64 0,.int .i64 0] 42 (0,0)):=by rw [hW1];exact heap_alloc_new _ _
 have KF:Hid (∀ ww,Kept (fun k=>k=b∨k=w.heap.size∨k=W0.heap.size) W1 ww→Kept (fun k=>k=b) w ww):=fun ww hk=>((k0.trans' k1).mono (S' := fun k=>k=b) (fun _ _ f=>f.elim)).trans hk (fun i hi e=>by omega)
 have HR:Hid (∀ ww,Same0 W1 ww→ww.heap[b]? = some (.cells #[.int .i64 c,.int .i64 a,.nilIface] 94 (0,0))∧ww.heap[w.heap.size]? = some (.cells #[.int .i64 0,.int .i64 0,.int .i64 0,.bool false,.int .i64 0,.int .i64 0] 42 (0,0))∧ww.heap[W0.heap.size]? = some (.cells #[.int .i64 c,.int .i64 a,.int .i64 0,.bool false,.int .i64 0,.int .i64 0] 42 (0,0))):=fun ww hk=>⟨hk.at0 (k1.at0 hb0),hk.at0 (k1.at0 h0),hk.at0 o0⟩
 have e0' : (W0.alloc (.cells #[.int .i64 0,.int .i64 0,.int .i64 0,.bool false,.int .i64 0,.int .i64 0] 42)).cell? ⟨b,0,none⟩=some (.int .i64 c):=cellAt (((Kept.refl (fun _=>False) W0).alloc _).at hb0 (fun f=>f)) 0
 have e1' : (W0.alloc (.cells #[.int .i64 0,.int .i64 0,.int .i64 0,.bool false,.int .i64 0,.int .i64 0] 42)).cell? ⟨b,1,none⟩=some (.int .i64 a):=cellAt (((Kept.refl (fun _=>False) W0).alloc _).at hb0 (fun f=>f)) 1
 have ne1:b≠w.heap.size:=by omega
 have ne2:b≠W0.heap.size:=by omega
 have ne3:w.heap.size≠W0.heap.size:=by omega
 clear hb h0 hb0 k0 k1 o0 hz0 hbl hz0l
 go_enter Tryz.func11,Tryz.ntmps11
 go_upto_region 1 with fail
 rw [← hW0]
 clear hW0
 go_upto_region 6 with fail
 go_region
 rw [← hW1]
 clear hW1 e0 e1 e0' e1'
 obtain ⟨r1,r2,r3⟩:=HR.out W1.drew ((Kept.refl _ _).drew)
 have KF2:Hid (∀ ww,Kept (fun k=>k=b∨k=w.heap.size∨k=W0.heap.size) W1.drew ww→Kept (fun k=>k=b) w ww):=fun ww hk=>KF.out ww (((Kept.refl (fun k=>k=b∨k=w.heap.size∨k=W0.heap.size) W1).drew).trans hk (fun _ _ e=>e))
 clear HR KF
 generalize W1.drew=W2 at *
 generalize hob:W0.heap.size=ob at *
 generalize hrb:w.heap.size=rb at *
 have c0:W2.cell? ⟨b,0,none⟩=some (.int .i64 c):=cellAt r1 0
 have c1:W2.cell? ⟨b,1,none⟩=some (.int .i64 a):=cellAt r1 1
 have c2:W2.cell? ⟨b,2,none⟩=some (.nilIface):=cellAt r1 2
 have d0:W2.cell? ⟨rb,0,none⟩=some (.int .i64 0):=cellAt r2 0
 have d1:W2.cell? ⟨rb,1,none⟩=some (.int .i64 0):=cellAt r2 1
 have d2:W2.cell? ⟨rb,2,none⟩=some (.int .i64 0):=cellAt r2 2
 have d3:W2.cell? ⟨rb,3,none⟩=some (.bool false):=cellAt r2 3
 have d4:W2.cell? ⟨rb,4,none⟩=some (.int .i64 0):=cellAt r2 4
 have d5:W2.cell? ⟨rb,5,none⟩=some (.int .i64 0):=cellAt r2 5
 have o0:W2.cell? ⟨ob,0,none⟩=some (.int .i64 c):=cellAt r3 0
 have o1:W2.cell? ⟨ob,1,none⟩=some (.int .i64 a):=cellAt r3 1
 have o2:W2.cell? ⟨ob,2,none⟩=some (.int .i64 0):=cellAt r3 2
 have o3:W2.cell? ⟨ob,3,none⟩=some (.bool false):=cellAt r3 3
 have o4:W2.cell? ⟨ob,4,none⟩=some (.int .i64 0):=cellAt r3 4
 have o5:W2.cell? ⟨ob,5,none⟩=some (.int .i64 0):=cellAt r3 5
 have fc1:=frozenAt r1 1
 have fd0:=frozenAt r2 0
 have fd1:=frozenAt r2 1
 have fd2:=frozenAt r2 2
 have fd3:=frozenAt r2 3
 have fd4:=frozenAt r2 4
 have fd5:=frozenAt r2 5
 have fo2:=frozenAt r3 2
 have ne1' : rb≠b:=fun e=>ne1 e.symm
 have ne2' : ob≠b:=fun e=>ne2 e.symm
 have ne3' : ob≠rb:=fun e=>ne3 e.symm
 have HB2:(W2.setCell ⟨b,1,none⟩ (.int .i64 (-99))).heap[rb]? = some (.cells #[.int .i64 0,.int .i64 0,.int .i64 0,.bool false,.int .i64 0,.int .i64 0] 42 (0,0)):=(Below.heap_setCell _ _ _ _ ne1').trans r2
 have HW:Hid ((((((((W2.setCell ⟨b,1,none⟩ (.int .i64 (-99))).setCell ⟨rb,0,none⟩ (.int .i64 c)).setCell ⟨rb,1,none⟩ (.int .i64 a)).setCell ⟨rb,2,none⟩ (.int .i64 0)).setCell ⟨rb,3,none⟩ (.bool false)).setCell ⟨rb,4,none⟩ (.int .i64 0)).setCell ⟨rb,5,none⟩ (.int .i64 0)).heap[rb]? = some (.cells #[.int .i64 c,.int .i64 a,.int .i64 0,.bool false,.int .i64 0,.int .i64 0] 42 (0,0))∧Kept (fun k=>k=b) w (((((((W2.setCell ⟨b,1,none⟩ (.int .i64 (-99))).setCell ⟨rb,0,none⟩ (.int .i64 c)).setCell ⟨rb,1,none⟩ (.int .i64 a)).setCell ⟨rb,2,none⟩ (.int .i64 0)).setCell ⟨rb,3,none⟩ (.bool false)).setCell ⟨rb,4,none⟩ (.int .i64 0)).setCell ⟨rb,5,none⟩ (.int .i64 0))):=by
  have t:∀ (w' : World) (q o:Nat) (v:Value),(q=b∨q=rb∨q=ob)→Kept (fun k=>k=b∨k=rb∨k=ob) W2 w' → Kept (fun k=>k=b∨k=rb∨k=ob) W2 (w'.setCell ⟨q,o,none⟩ v):=fun w' q o v hq h=>Kept.setCell (S:=fun k=>k=b∨k=rb∨k=ob) h (p:=⟨q,o,none⟩) (fun _=>hq) v
  exact ⟨(setAt (setAt (setAt (setAt (setAt (setAt HB2 _ _) _ _) _ _) _ _) _ _) _ _),KF2.out _ (t _ rb _ _ (.inr (.inl rfl)) (t _ rb _ _ (.inr (.inl rfl)) (t _ rb _ _ (.inr (.inl rfl)) (t _ rb _ _ (.inr (.inl rfl)) (t _ rb _ _ (.inr (.inl rfl)) (t _ rb _ _ (.inr (.inl rfl)) (t _ b _ _ (.inl rfl) (Kept.refl _ _))))))))⟩
 clear r1 r2 r3 hob hrb HB2 KF2
 go_wp2
 obtain ⟨W3,hW3⟩:∃ W3,W3=(((((((W2.setCell ⟨b,1,none⟩ (.int .i64 (-99))).setCell ⟨rb,0,none⟩ (.int .i64 c)).setCell ⟨rb,1,none⟩ (.int .i64 a)).setCell ⟨rb,2,none⟩ (.int .i64 0)).setCell ⟨rb,3,none⟩ (.bool false)).setCell ⟨rb,4,none⟩ (.int .i64 0)).setCell ⟨rb,5,none⟩ (.int .i64 0)):=⟨_,rfl⟩
 rw [← hW3] at HW ⊢
 obtain ⟨q,kq⟩:=HW
 have y0:W3.cell? ⟨rb,0,none⟩=some (.int .i64 c):=cellAt q 0
 have y1:W3.cell? ⟨rb,1,none⟩=some (.int .i64 a):=cellAt q 1
 have y2:W3.cell? ⟨rb,2,none⟩=some (.int .i64 0):=cellAt q 2
 have y3:W3.cell? ⟨rb,3,none⟩=some (.bool false):=cellAt q 3
 have y4:W3.cell? ⟨rb,4,none⟩=some (.int .i64 0):=cellAt q 4
 have y5:W3.cell? ⟨rb,5,none⟩=some (.int .i64 0):=cellAt q 5
 clear hW3
 exact bodyPost_ret (v:=fltV c a 0) (by simp [results,Tryz.results11,go_sem,y0,y1,y2,y3,y4,y5,fltV]) rfl ⟨rfl,kq⟩
set_option maxHeartbeats 4000000 in
theorem fault_why {w:World} {b:Nat} {c a y:Int} (hb:w.heap[b]? = some (.cells #[.int .i64 c,.int .i64 a,.iface 40 (.int .i64 y)] 94 (0,0))):Calls Tryz.prog 11 #[.iface 92 (.pointer (some ⟨b,0,none⟩))] w fun e w' => e=.returned (fltV c a y)∧Kept (fun k=>k=b) w w' := by
 have hbl:=lt_of_at hb
 obtain ⟨W0,hW0⟩:∃ W0,W0=w.alloc (.cells #[.int .i64 0,.int .i64 0,.int .i64 0,.bool false,.int .i64 0,.int .i64 0] 42):=⟨_,rfl⟩
 have k0:Same0 w W0:=by rw [hW0];exact (Kept.refl _ w).alloc _
 have h0:W0.heap[w.heap.size]? = some (.cells #[.int .i64 0,.int .i64 0,.int .i64 0,.bool false,.int .i64 0,.int .i64 0] 42 (0,0)):=by rw [hW0];exact heap_alloc_new w _
 have hb0:=k0.at0 hb
 have hz0:W0.heap.size=w.heap.size+1:=by rw [hW0];simp
 have e0:W0.cell? ⟨b,0,none⟩=some (.int .i64 c):=cellAt hb0 0
 have e1:W0.cell? ⟨b,1,none⟩=some (.int .i64 a):=cellAt hb0 1
 have a1:=as_flt
 have a2:=is_asE
 have n1:=neq_eerr
 obtain ⟨W1,hW1⟩:∃ W1,W1=W0.alloc (.cells #[.int .i64 c,.int .i64 a,.int .i64 0,.bool false,.int .i64 0,.int .i64 0] 42):=⟨_,rfl⟩
 have hz0l:b<W0.heap.size:=by omega
 have k1:Same0 W0 W1:=by rw [hW1];exact (Kept.refl _ _).alloc _
 have o0:W1.heap[W0.heap.size]? = some (.cells #[.int .i64 c,.int .i64 a,.int .i64 0,.bool false,.int .i64 0,.int .i64 0] 42 (0,0)):=by rw [hW1];exact heap_alloc_new _ _
 have KF:Hid (∀ ww,Kept (fun k=>k=b∨k=w.heap.size∨k=W0.heap.size) W1 ww→Kept (fun k=>k=b) w ww):=fun ww hk=>((k0.trans' k1).mono (S' := fun k=>k=b) (fun _ _ f=>f.elim)).trans hk (fun i hi e=>by omega)
 have HR:Hid (∀ ww,Same0 W1 ww→ww.heap[b]? = some (.cells #[.int .i64 c,.int .i64 a,.iface 40 (.int .i64 y)] 94 (0,0))∧ww.heap[w.heap.size]? = some (.cells #[.int .i64 0,.int .i64 0,.int .i64 0,.bool false,.int .i64 0,.int .i64 0] 42 (0,0))∧ww.heap[W0.heap.size]? = some (.cells #[.int .i64 c,.int .i64 a,.int .i64 0,.bool false,.int .i64 0,.int .i64 0] 42 (0,0))):=fun ww hk=>⟨hk.at0 (k1.at0 hb0),hk.at0 (k1.at0 h0),hk.at0 o0⟩
 have e0' : (W0.alloc (.cells #[.int .i64 0,.int .i64 0,.int .i64 0,.bool false,.int .i64 0,.int .i64 0] 42)).cell? ⟨b,0,none⟩=some (.int .i64 c):=cellAt (((Kept.refl (fun _=>False) W0).alloc _).at hb0 (fun f=>f)) 0
 have e1' : (W0.alloc (.cells #[.int .i64 0,.int .i64 0,.int .i64 0,.bool false,.int .i64 0,.int .i64 0] 42)).cell? ⟨b,1,none⟩=some (.int .i64 a):=cellAt (((Kept.refl (fun _=>False) W0).alloc _).at hb0 (fun f=>f)) 1
 have ne1:b≠w.heap.size:=by omega
 have ne2:b≠W0.heap.size:=by omega
 have ne3:w.heap.size≠W0.heap.size:=by omega
 clear hb h0 hb0 k0 k1 o0 hz0 hbl hz0l
 go_enter Tryz.func11,Tryz.ntmps11
 go_upto_region 1 with fail
 rw [← hW0]
 clear hW0
 go_upto_region 6 with fail
 go_region
 rw [← hW1]
 clear hW1 e0 e1 e0' e1'
 obtain ⟨r1,r2,r3⟩:=HR.out W1.drew ((Kept.refl _ _).drew)
 have KF2:Hid (∀ ww,Kept (fun k=>k=b∨k=w.heap.size∨k=W0.heap.size) W1.drew ww→Kept (fun k=>k=b) w ww):=fun ww hk=>KF.out ww (((Kept.refl (fun k=>k=b∨k=w.heap.size∨k=W0.heap.size) W1).drew).trans hk (fun _ _ e=>e))
 clear HR KF
 generalize W1.drew=W2 at *
 generalize hob:W0.heap.size=ob at *
 generalize hrb:w.heap.size=rb at *
 have c0:W2.cell? ⟨b,0,none⟩=some (.int .i64 c):=cellAt r1 0
 have c1:W2.cell? ⟨b,1,none⟩=some (.int .i64 a):=cellAt r1 1
 have c2:W2.cell? ⟨b,2,none⟩=some (.iface 40 (.int .i64 y)):=cellAt r1 2
 have d0:W2.cell? ⟨rb,0,none⟩=some (.int .i64 0):=cellAt r2 0
 have d1:W2.cell? ⟨rb,1,none⟩=some (.int .i64 0):=cellAt r2 1
 have d2:W2.cell? ⟨rb,2,none⟩=some (.int .i64 0):=cellAt r2 2
 have d3:W2.cell? ⟨rb,3,none⟩=some (.bool false):=cellAt r2 3
 have d4:W2.cell? ⟨rb,4,none⟩=some (.int .i64 0):=cellAt r2 4
 have d5:W2.cell? ⟨rb,5,none⟩=some (.int .i64 0):=cellAt r2 5
 have o0:W2.cell? ⟨ob,0,none⟩=some (.int .i64 c):=cellAt r3 0
 have o1:W2.cell? ⟨ob,1,none⟩=some (.int .i64 a):=cellAt r3 1
 have o2:W2.cell? ⟨ob,2,none⟩=some (.int .i64 0):=cellAt r3 2
 have o3:W2.cell? ⟨ob,3,none⟩=some (.bool false):=cellAt r3 3
 have o4:W2.cell? ⟨ob,4,none⟩=some (.int .i64 0):=cellAt r3 4
 have o5:W2.cell? ⟨ob,5,none⟩=some (.int .i64 0):=cellAt r3 5
 have fc1:=frozenAt r1 1
 have fd0:=frozenAt r2 0
 have fd1:=frozenAt r2 1
 have fd2:=frozenAt r2 2
 have fd3:=frozenAt r2 3
 have fd4:=frozenAt r2 4
 have fd5:=frozenAt r2 5
 have fo2:=frozenAt r3 2
 have ne1' : rb≠b:=fun e=>ne1 e.symm
 have ne2' : ob≠b:=fun e=>ne2 e.symm
 have ne3' : ob≠rb:=fun e=>ne3 e.symm
 have HB2:((W2.setCell ⟨b,1,none⟩ (.int .i64 (-99))).setCell ⟨ob,2,none⟩ (.int .i64 y)).heap[rb]? = some (.cells #[.int .i64 0,.int .i64 0,.int .i64 0,.bool false,.int .i64 0,.int .i64 0] 42 (0,0)):=(Below.heap_setCell _ _ _ _ ne3).trans ((Below.heap_setCell _ _ _ _ ne1').trans r2)
 have HW:Hid (((((((((W2.setCell ⟨b,1,none⟩ (.int .i64 (-99))).setCell ⟨ob,2,none⟩ (.int .i64 y)).setCell ⟨rb,0,none⟩ (.int .i64 c)).setCell ⟨rb,1,none⟩ (.int .i64 a)).setCell ⟨rb,2,none⟩ (.int .i64 y)).setCell ⟨rb,3,none⟩ (.bool false)).setCell ⟨rb,4,none⟩ (.int .i64 0)).setCell ⟨rb,5,none⟩ (.int .i64 0)).heap[rb]? = some (.cells #[.int .i64 c,.int .i64 a,.int .i64 y,.bool false,.int .i64 0,.int .i64 0] 42 (0,0))∧Kept (fun k=>k=b) w ((((((((W2.setCell ⟨b,1,none⟩ (.int .i64 (-99))).setCell ⟨ob,2,none⟩ (.int .i64 y)).setCell ⟨rb,0,none⟩ (.int .i64 c)).setCell ⟨rb,1,none⟩ (.int .i64 a)).setCell ⟨rb,2,none⟩ (.int .i64 y)).setCell ⟨rb,3,none⟩ (.bool false)).setCell ⟨rb,4,none⟩ (.int .i64 0)).setCell ⟨rb,5,none⟩ (.int .i64 0))):=by
  have t:∀ (w' : World) (q o:Nat) (v:Value),(q=b∨q=rb∨q=ob)→Kept (fun k=>k=b∨k=rb∨k=ob) W2 w' → Kept (fun k=>k=b∨k=rb∨k=ob) W2 (w'.setCell ⟨q,o,none⟩ v):=fun w' q o v hq h=>Kept.setCell (S:=fun k=>k=b∨k=rb∨k=ob) h (p:=⟨q,o,none⟩) (fun _=>hq) v
  exact ⟨(setAt (setAt (setAt (setAt (setAt (setAt HB2 _ _) _ _) _ _) _ _) _ _) _ _),KF2.out _ (t _ rb _ _ (.inr (.inl rfl)) (t _ rb _ _ (.inr (.inl rfl)) (t _ rb _ _ (.inr (.inl rfl)) (t _ rb _ _ (.inr (.inl rfl)) (t _ rb _ _ (.inr (.inl rfl)) (t _ rb _ _ (.inr (.inl rfl)) (t _ ob _ _ (.inr (.inr rfl)) (t _ b _ _ (.inl rfl) (Kept.refl _ _)))))))))⟩
 clear r1 r2 r3 hob hrb HB2 KF2
 go_wp2
 obtain ⟨W3,hW3⟩:∃ W3,W3=((((((((W2.setCell ⟨b,1,none⟩ (.int .i64 (-99))).setCell ⟨ob,2,none⟩ (.int .i64 y)).setCell ⟨rb,0,none⟩ (.int .i64 c)).setCell ⟨rb,1,none⟩ (.int .i64 a)).setCell ⟨rb,2,none⟩ (.int .i64 y)).setCell ⟨rb,3,none⟩ (.bool false)).setCell ⟨rb,4,none⟩ (.int .i64 0)).setCell ⟨rb,5,none⟩ (.int .i64 0)):=⟨_,rfl⟩
 rw [← hW3] at HW ⊢
 obtain ⟨q,kq⟩:=HW
 have y0:W3.cell? ⟨rb,0,none⟩=some (.int .i64 c):=cellAt q 0
 have y1:W3.cell? ⟨rb,1,none⟩=some (.int .i64 a):=cellAt q 1
 have y2:W3.cell? ⟨rb,2,none⟩=some (.int .i64 y):=cellAt q 2
 have y3:W3.cell? ⟨rb,3,none⟩=some (.bool false):=cellAt q 3
 have y4:W3.cell? ⟨rb,4,none⟩=some (.int .i64 0):=cellAt q 4
 have y5:W3.cell? ⟨rb,5,none⟩=some (.int .i64 0):=cellAt q 5
 clear hW3
 exact bodyPost_ret (v:=fltV c a y) (by simp [results,Tryz.results11,go_sem,y0,y1,y2,y3,y4,y5,fltV]) rfl ⟨rfl,kq⟩
set_option maxHeartbeats 2000000 in
theorem appl_no {B:Nat→Prop} {w:World} {h g room:Nat} {N:List Nd} (p:HpB B w h g room N) (a:Int) (ha:¬ (0≤a∧a<(N.length:Int))) :
  Calls Tryz.prog 41 #[.pointer (some ⟨h,0,none⟩),.int .i64 a] w fun e w' => e=.returned (.tuple #[.int .i64 0,nodeV (0,[],0,false,0) none 0,.int .i64 112])∧Same0 w w' := by
 obtain ⟨W0,hW0⟩:∃ W0,W0=w.alloc (.cells #[.int .i64 0,.slice none 0 0,.int .i64 0,.bool false,.int .i64 0] 76):=⟨_,rfl⟩
 have k0:Same0 w W0:=by rw [hW0];exact (Kept.refl _ w).alloc _
 have hb:W0.heap[w.heap.size]? = some (.cells #[.int .i64 0,.slice none 0 0,.int .i64 0,.bool false,.int .i64 0] 76 (0,0)):=by rw [hW0];exact heap_alloc_new w _
 have C:=hres_no (p.same k0) a ha
 have HB:Hid (∀ ww,Same0 W0 ww→ww.heap[w.heap.size]? = some (.cells #[.int .i64 0,.slice none 0 0,.int .i64 0,.bool false,.int .i64 0] 76 (0,0))∧Same0 w ww):=fun ww hk=>⟨hk.at0 hb,k0.trans' hk⟩
 clear p ha k0 hb
 go_enter Tryz.func41,Tryz.ntmps41
 go_upto_region 1 with fail
 rw [← hW0]
 clear hW0
 go_wp2_with (first | (go_at_call 70;refine C.mono ?_;rintro e w1 ⟨rfl,k1⟩;obtain ⟨q,k2⟩:=HB.out w1 k1;obtain ⟨b0,b1,b2,b3,b4⟩:=box5 q;obtain ⟨g0,g1,g2,g3,g4⟩:=free5 q;clear q C))
 have K5:=put5_kept w1 w.heap.size 0 (.int .i64 0) (.slice none 0 0) (.int .i64 0) (.bool false) (.int .i64 0)
 exact bodyPost_ret (v:=.tuple #[.int .i64 0,nodeV (0,[],0,false,0) none 0,.int .i64 112]) (by simp [results,Tryz.results41,go_sem,b0,b1,b2,b3,b4,nodeV]) rfl ⟨rfl,k2.trans K5 (fun i hi e=>by omega)⟩
set_option maxHeartbeats 4000000 in
theorem appl_yes {B:Nat→Prop} {w:World} {h g room:Nat} {N:List Nd} (p:HpB B w h g room N) (i:Nat) (hi:i<N.length) :
  Calls Tryz.prog 41 #[.pointer (some ⟨h,0,none⟩),.int .i64 (i:Int)] w fun e w' => ∃ (b:Nat) (hb:b<N.length) (bo:Option Addr) (bc:Nat),e=.returned (.tuple #[.int .i64 (b:Int),nodeV N[b] bo bc,.int .i64 0])∧Res N i b∧ArgT w' bo N[b].2.1 bc∧(∀ a,bo=some a→w.heap.size≤a.block)∧Same0 w w' := by
 obtain ⟨W0,hW0⟩:∃ W0,W0=w.alloc (.cells #[.int .i64 0,.slice none 0 0,.int .i64 0,.bool false,.int .i64 0] 76):=⟨_,rfl⟩
 have k0:Same0 w W0:=by rw [hW0];exact (Kept.refl _ w).alloc _
 have hb:W0.heap[w.heap.size]? = some (.cells #[.int .i64 0,.slice none 0 0,.int .i64 0,.bool false,.int .i64 0] 76 (0,0)):=by rw [hW0];exact heap_alloc_new w _
 have C:=hres_yes (p.same k0) i hi
 have HA:Hid (∀ ww b,Same0 W0 ww→(hb:b<N.length)→Calls Tryz.prog 21 #[.pointer (some ⟨h,0,none⟩),.int .i64 (b:Int)] ww fun e w' => ∃ bo bc,e=.returned (.tuple #[nodeV N[b] bo bc,.int .i64 0])∧NdOut ww w' N[b] bo bc):=fun ww b hk hb=>hat_yes ((p.same k0).same hk) b hb
 have HB:Hid (∀ ww,Same0 W0 ww→ww.heap[w.heap.size]? = some (.cells #[.int .i64 0,.slice none 0 0,.int .i64 0,.bool false,.int .i64 0] 76 (0,0))∧Same0 w ww):=fun ww hk=>⟨hk.at0 hb,k0.trans' hk⟩
 have hz0:w.heap.size<W0.heap.size:=by rw [hW0];simp
 clear p hi k0 hb
 go_enter Tryz.func41,Tryz.ntmps41
 go_upto_region 1 with fail
 rw [← hW0]
 clear hW0
 go_upto_region 5 with (first
  | (go_at_call 70;refine C.mono ?_;rintro e w1 ⟨b,rfl,hr,k1⟩;obtain ⟨hbl, -⟩:=hr.2;have CA:=HA.out w1 b k1 hbl)
  | (go_at_call 21;refine CA.mono ?_;rintro e w2 ⟨bo,bc,rfl,a1,a2,k2⟩))
 obtain ⟨X1,hX1⟩:∃ X1,X1=w2.alloc (.cells #[.int .i64 N[b].1,.slice bo N[b].2.1.length bc,.int .i64 N[b].2.2.1,.bool N[b].2.2.2.1,.int .i64 N[b].2.2.2.2] 76):=⟨_,rfl⟩
 have kx:Same0 w2 X1:=by rw [hX1];exact (Kept.refl _ _).alloc _
 obtain ⟨q,k3⟩:=HB.out X1 ((k1.trans' k2).trans' kx)
 obtain ⟨x0,x1,x2,x3,x4⟩:=box5 (show X1.heap[w2.heap.size]? = some (.cells #[.int .i64 N[b].1,.slice bo N[b].2.1.length bc,.int .i64 N[b].2.2.1,.bool N[b].2.2.2.1,.int .i64 N[b].2.2.2.2] 76 (0,0)) by rw [hX1];exact heap_alloc_new _ _)
 rw [← hX1]
 obtain ⟨b0,b1,b2,b3,b4⟩:=box5 q
 obtain ⟨g0,g1,g2,g3,g4⟩:=free5 q
 have a3:=a1.same kx
 have hz1:=k1.size
 have FIN:Hid (∀ ww,Same0 (put5 X1 w.heap.size 0 (.int .i64 N[b].1) (.slice bo N[b].2.1.length bc) (.int .i64 N[b].2.2.1) (.bool N[b].2.2.2.1) (.int .i64 N[b].2.2.2.2)) ww→∃ (b' : Nat) (hb:b' < N.length) (bo' : Option Addr) (bc' : Nat),Ending.returned (.tuple #[.int .i64 (b:Int),nodeV N[b] bo bc,.int .i64 0])=.returned (.tuple #[.int .i64 (b' : Int),nodeV N[b'] bo' bc', .int .i64 0])∧Res N i b' ∧ ArgT ww bo' N[b'].2.1 bc' ∧ (∀ a,bo' = some a→w.heap.size≤a.block)∧Same0 w ww):=fun ww hk=>by
  have K5:=put5_kept X1 w.heap.size 0 (.int .i64 N[b].1) (.slice bo N[b].2.1.length bc) (.int .i64 N[b].2.2.1) (.bool N[b].2.2.2.1) (.int .i64 N[b].2.2.2.2)
  exact ⟨b,hbl,bo,bc,rfl,hr,(a3.kept' K5 (fun a e s=>by have:=a2 a e;omega)).same hk,fun a e=>by have:=a2 a e;omega,Same0.trans' (k3.trans K5 (fun i hi e=>by omega)) hk⟩
 clear hX1 q C CA a1 a2 a3 kx HB HA
 go_region
 all_goals (go_wp2;exact bodyPost_ret (v:=.tuple #[.int .i64 (b:Int),nodeV N[b] bo bc,.int .i64 0]) (by simp [results,Tryz.results41,go_sem,b0,b1,b2,b3,b4,nodeV]) rfl (FIN.out _ (by first | exact Kept.refl _ _ | exact (Kept.refl _ _).drew | exact (Kept.refl _ _).drewN _)))
theorem of_any (ho:Option Addr) (w:World):Calls Tryz.prog 22 #[.pointer ho] w fun e w' => e=.returned (.agg #[.pointer ho])∧Same0 w w' := by
 obtain ⟨W0,hW0⟩:∃ W0,W0=w.alloc (.cells #[.pointer none] 81):=⟨_,rfl⟩
 have k0:Same0 w W0:=by rw [hW0];exact (Kept.refl _ w).alloc _
 have hb:W0.heap[w.heap.size]? = some (.cells #[.pointer none] 81 (0,0)):=by rw [hW0];exact heap_alloc_new w _
 have b0:W0.cell? ⟨w.heap.size,0,none⟩=some (.pointer none):=cellAt hb 0
 have g0:=frozenAt hb 0
 go_enter Tryz.func22,Tryz.ntmps22
 go_upto_region 1 with fail
 rw [← hW0]
 clear hW0
 go_wp2
 have K1:Kept (fun k=>k=w.heap.size) W0 (W0.setCell ⟨w.heap.size,0,none⟩ (.pointer ho)):=Kept.setCell (S:=fun k=>k=w.heap.size) (Kept.refl _ _) (p:=⟨w.heap.size,0,none⟩) (fun _=>rfl) _
 exact bodyPost_ret (v:=.agg #[.pointer ho]) (by simp [results,Tryz.results22,go_sem,b0]) rfl ⟨rfl,k0.trans K1 (fun i hi e=>by omega)⟩
def HasA (N:List Nd) (z n:Int):Prop:=∃ (i b:Nat) (hb:b<N.length),z=(i:Int)∧Res N i b∧0≤n∧n<(N[b].2.1.length:Int)
def ArR (N:List Nd) (z n y:Int):Prop:=
 (∃ (i b c:Nat) (hb:b<N.length) (hn:n.toNat<N[b].2.1.length),z=(i:Int)∧Res N i b∧0≤n∧Res N (N[b].2.1[n.toNat]).toNat c∧y=(c:Int))∨(y = -1∧¬ HasA N z n)
def LdR (N:List Nd):Int→List Int→Int→Prop
 | z,[],y=>y=z
 | z,n :: p,y=>∃ u,ArR N z n u∧LdR N u p y
theorem LdR.snoc {N:List Nd}:∀ {p:List Int} {z y n u:Int},LdR N z p y→ArR N y n u→LdR N z (p ++ [n]) u
 | [],z,y,n,u,h,h2=>by cases h;exact ⟨u,h2,rfl⟩
 | m :: p,z,y,n,u,⟨v,h1,h2⟩,h3=>⟨v,h1,h2.snoc h3⟩
theorem Res.lt {N:List Nd} {i b:Nat} (h:Res N i b):i<N.length∧b<N.length:=by
 obtain ⟨⟨k,h1⟩,hb,_⟩:=h
 cases k with
 | zero=>cases h1;exact ⟨hb,hb⟩
 | succ k=>exact ⟨h1.1,hb⟩
theorem ArR.range {N:List Nd} {z n y:Int} (h:ArR N z n y):y = -1∨(0≤y∧y<(N.length:Int)):=by
 rcases h with ⟨i,b,c,hb,hn,_,_,_,h5,rfl⟩ | ⟨rfl,_⟩
 ·have:=h5.lt.2;right;omega
 ·exact .inl rfl
theorem LdR.range {N:List Nd}:∀ {p:List Int} {z y:Int},(z = -1∨(0≤z∧z<(N.length:Int)))→LdR N z p y→y = -1∨(0≤y∧y<(N.length:Int))
 | [],z,y,hz,h=>by cases h;exact hz
 | m :: p,z,y,hz,⟨v,h1,h2⟩=>LdR.range h1.range h2
theorem sight_arg (v : Value) (w : World) : (Go.method 310 81 v "Arg").run Tryz.prog w = .ok (115, v) w := by kernel_rfl
set_option maxHeartbeats 2000000 in
theorem head_yes {B:Nat→Prop} {w:World} {h g room:Nat} {N:List Nd} (p:HpB B w h g room N) (i:Nat) (hi:i<N.length) :
  Calls Tryz.prog 23 #[.agg #[.pointer (some ⟨h,0,none⟩)],.int .i64 (i:Int)] w fun e w' => ∃ (b:Nat) (hb:b<N.length),e=.returned (.tuple #[.int .i64 N[b].1,.bool (decide (0<N[b].2.2.1))])∧Res N i b∧Same0 w w' := by
 obtain ⟨W0,hW0⟩:∃ W0,W0=w.alloc (.cells #[.pointer (some ⟨h,0,none⟩)] 81):=⟨_,rfl⟩
 have k0:Same0 w W0:=by rw [hW0];exact (Kept.refl _ w).alloc _
 have b0:W0.cell? ⟨w.heap.size,0,none⟩=some (.pointer (some ⟨h,0,none⟩)):=by rw [hW0];exact cellAt (heap_alloc_new w _) 0
 have C:=appl_yes (p.same k0) i hi
 have HM:Hid (∀ x∈N,0≤x.2.2.1∧x.2.2.1≤2):=fun x hx=>⟨(may_facts (p.may x hx)).2.2.1,(may_facts (p.may x hx)).2.2.2.1⟩
 clear p hi
 go_enter Tryz.func23,Tryz.ntmps23
 go_upto_region 1 with fail
 rw [← hW0]
 clear hW0
 go_upto_region 4 with (first | (go_at_call 41;refine C.mono ?_;rintro e w1 ⟨b,hb,bo,bc,rfl,hr, -, -,k1⟩))
 obtain ⟨X1,hX1⟩:∃ X1,X1=w1.alloc (.cells #[.int .i64 N[b].1,.slice bo N[b].2.1.length bc,.int .i64 N[b].2.2.1,.bool N[b].2.2.2.1,.int .i64 N[b].2.2.2.2] 76):=⟨_,rfl⟩
 have kx:Same0 w X1:=by rw [hX1];exact (k0.trans' k1).trans' ((Kept.refl _ _).alloc _)
 obtain ⟨x0,x1,x2,x3,x4⟩:=box5 (show X1.heap[w1.heap.size]? = some (.cells #[.int .i64 N[b].1,.slice bo N[b].2.1.length bc,.int .i64 N[b].2.2.1,.bool N[b].2.2.2.1,.int .i64 N[b].2.2.2.2] 76 (0,0)) by rw [hX1];exact heap_alloc_new _ _)
 rw [← hX1]
 have hmk:=HM.out _ (List.getElem_mem hb)
 have FIN:Hid (∀ ww,Same0 X1 ww→∀ v,v=decide (0<N[b].2.2.1)→∃ (b' : Nat) (hb' : b' < N.length),Ending.returned (.tuple #[.int .i64 N[b].1,.bool v])=.returned (.tuple #[.int .i64 N[b'].1,.bool (decide (0<N[b'].2.2.1))])∧Res N i b' ∧ Same0 w ww):=fun ww hk v hv=>⟨b,hb,by rw [hv],hr,kx.trans' hk⟩
 clear hX1 C k0 b0 HM
 generalize N[b].2.2.1=m at *
 generalize N[b].1=s at *
 by_cases h1:m=1
 ·have d1:(m == 1)=true:=by simpa using h1
  have hv:Hid (true=decide (0<m)):=by show _=_;simp;omega
  clear h1 hmk
  go_quiet (fail)
  go_wp2
  go_ret2
  exact FIN.out _ ((Kept.refl _ _).drewN _) _ hv.out
 ·have d1:(m == 1)=false:=by simpa using h1
  by_cases h2:m=2
  ·have d2:(m == 2)=true:=by simpa using h2
   have hv:Hid (true=decide (0<m)):=by show _=_;simp;omega
   clear h1 h2 hmk
   go_quiet (fail)
   go_wp2
   go_ret2
   exact FIN.out _ ((Kept.refl _ _).drewN _) _ hv.out
  ·have d2:(m == 2)=false:=by simpa using h2
   have hv:Hid (false=decide (0<m)):=by show _=_;simp;omega
   clear h1 h2 hmk
   go_quiet (fail)
   go_wp2
   go_ret2
   exact FIN.out _ ((Kept.refl _ _).drewN _) _ hv.out
set_option maxHeartbeats 2000000 in
theorem arg_no {B:Nat→Prop} {w:World} {h g room:Nat} {N:List Nd} (p:HpB B w h g room N) (a n:Int) (ha:¬ (0≤a∧a<(N.length:Int))) :
  Calls Tryz.prog 115 #[.agg #[.pointer (some ⟨h,0,none⟩)],.int .i64 a,.int .i64 n] w fun e w' => e=.returned (.int .i64 (-1))∧Same0 w w' := by
 obtain ⟨W0,hW0⟩:∃ W0,W0=w.alloc (.cells #[.pointer (some ⟨h,0,none⟩)] 81):=⟨_,rfl⟩
 have k0:Same0 w W0:=by rw [hW0];exact (Kept.refl _ w).alloc _
 have b0:W0.cell? ⟨w.heap.size,0,none⟩=some (.pointer (some ⟨h,0,none⟩)):=by rw [hW0];exact cellAt (heap_alloc_new w _) 0
 have C:=appl_no (p.same k0) a ha
 clear p ha
 go_enter Tryz.func115,Tryz.ntmps115
 go_upto_region 1 with fail
 rw [← hW0]
 clear hW0
 go_wp2_with (first | (go_at_call 41;refine C.mono ?_;rintro e w1 ⟨rfl,k1⟩))
 go_ret
 exact ⟨rfl,(k0.trans' k1).trans' ((Kept.refl _ w1).alloc _)⟩
end Go.Proofs.YtblgblgchkonhaaGreat
namespace Go.Proofs.YtblgblgchkonhaaGreat
set_option maxRecDepth 100000
set_option linter.unusedVariables false
open Go.RowKit
theorem Arg.onto {w w' : World} {ao:Option Addr} {xs:List Int} {cap:Nat} (h:Arg w ao xs cap) (hk:Same0 w w'):Arg w' ao xs cap:=⟨h.at'.same hk,h.cap', h.nil,h.size⟩
theorem IntsAt.lt {w:World} {ao:Option Addr} {xs:List Int} (h:IntsAt w ao xs) (h0:xs≠[]) {a:Addr} (e:ao=some a):a.block<w.heap.size:=by
 rcases h with q | ⟨b,off,rfl,hlt,_⟩
 ·exact absurd q h0
 ·cases e;exact hlt
def NsW (w:World) (ao:Option Addr) (l:List Nd):Prop:=l=[]∨∃ nb noff,ao=some ⟨nb,noff,none⟩∧nb<w.heap.size∧∀ j (hj:j<l.length),∃ xo xc,w.cell? ⟨nb,noff+j * 5,none⟩=some (.int .i64 l[j].1)∧w.cell? ⟨nb,noff+j * 5+1,none⟩=some (.slice xo l[j].2.1.length xc)∧w.cell? ⟨nb,noff+j * 5+2,none⟩=some (.int .i64 l[j].2.2.1)∧w.cell? ⟨nb,noff+j * 5+3,none⟩=some (.bool l[j].2.2.2.1)∧w.cell? ⟨nb,noff+j * 5+4,none⟩=some (.int .i64 l[j].2.2.2.2)∧Arg w xo l[j].2.1 xc
theorem NsM.weak {B:Nat→Prop} {w:World} {ao:Option Addr} {l:List Nd} (h:NsM B w ao l):NsW w ao l:=by
 refine h.imp id ?_
 rintro ⟨b,off,rfl,hlt,hc⟩
 refine ⟨b,off,rfl,hlt,fun j hj=>?_⟩
 obtain ⟨xo,xc,n0,n1,n2,n3,n4,n5, -⟩:=hc j hj
 exact ⟨xo,xc,n0,n1,n2,n3,n4,n5.1⟩
theorem NsW.same {w w' : World} {ao:Option Addr} {l:List Nd} (h:NsW w ao l) (hk:Same0 w w'):NsW w' ao l:=by
 refine h.imp id ?_
 rintro ⟨nb,noff,rfl,hlt,hc⟩
 have t:∀ o,w'.cell? ⟨nb,o,none⟩=w.cell? ⟨nb,o,none⟩:=fun o=>hk.cell (p:=⟨nb,o,none⟩) hlt (fun f=>f)
 refine ⟨nb,noff,rfl,Nat.lt_of_lt_of_le hlt hk.size,fun j hj=>?_⟩
 obtain ⟨xo,xc,n0,n1,n2,n3,n4,n5⟩:=hc j hj
 exact ⟨xo,xc,(t _).trans n0,(t _).trans n1,(t _).trans n2,(t _).trans n3,(t _).trans n4,⟨n5.at'.same hk,n5.cap', n5.nil,n5.size⟩⟩
def NsV (P:Nat→Prop) (w:World) (ao:Option Addr) (l:List Nd):Prop:=l=[]∨∃ nb noff,ao=some ⟨nb,noff,none⟩∧nb<w.heap.size∧P nb∧∀ j (hj:j<l.length),∃ xo xc,w.cell? ⟨nb,noff+j * 5,none⟩=some (.int .i64 l[j].1)∧w.cell? ⟨nb,noff+j * 5+1,none⟩=some (.slice xo l[j].2.1.length xc)∧w.cell? ⟨nb,noff+j * 5+2,none⟩=some (.int .i64 l[j].2.2.1)∧w.cell? ⟨nb,noff+j * 5+3,none⟩=some (.bool l[j].2.2.2.1)∧w.cell? ⟨nb,noff+j * 5+4,none⟩=some (.int .i64 l[j].2.2.2.2)∧Arg w xo l[j].2.1 xc∧(l[j].2.1≠[]→∀ a,xo=some a→P a.block)
theorem NsV.weak {P:Nat→Prop} {w:World} {ao:Option Addr} {l:List Nd} (h:NsV P w ao l):NsW w ao l:=by
 refine h.imp id ?_
 rintro ⟨b,off,rfl,hlt,_,hc⟩
 refine ⟨b,off,rfl,hlt,fun j hj=>?_⟩
 obtain ⟨xo,xc,n0,n1,n2,n3,n4,n5, -⟩:=hc j hj
 exact ⟨xo,xc,n0,n1,n2,n3,n4,n5⟩
theorem NsW.below {w:World} {ao:Option Addr} {l:List Nd} (h:NsW w ao l):NsV (fun b=>b<w.heap.size) w ao l:=by
 refine h.imp id ?_
 rintro ⟨b,off,rfl,hlt,hc⟩
 refine ⟨b,off,rfl,hlt,hlt,fun j hj=>?_⟩
 obtain ⟨xo,xc,n0,n1,n2,n3,n4,n5⟩:=hc j hj
 exact ⟨xo,xc,n0,n1,n2,n3,n4,n5,fun h0 a e=>n5.at'.lt h0 e⟩
theorem NsV.mono {P Q:Nat→Prop} {w:World} {ao:Option Addr} {l:List Nd} (h:NsV P w ao l) (hq:∀ b,P b→Q b):NsV Q w ao l:=by
 refine h.imp id ?_
 rintro ⟨b,off,rfl,hlt,hp,hc⟩
 refine ⟨b,off,rfl,hlt,hq _ hp,fun j hj=>?_⟩
 obtain ⟨xo,xc,n0,n1,n2,n3,n4,n5,n6⟩:=hc j hj
 exact ⟨xo,xc,n0,n1,n2,n3,n4,n5,fun h0 a e=>hq _ (n6 h0 a e)⟩
theorem NsV.kept {P S:Nat→Prop} {w w' : World} {ao:Option Addr} {l:List Nd} (h:NsV P w ao l) (hk:Kept S w w') (hS:∀ b,P b→¬ S b):NsV P w' ao l:=by
 refine h.imp id ?_
 rintro ⟨nb,noff,rfl,hlt,hp,hc⟩
 have t:∀ o,w'.cell? ⟨nb,o,none⟩=w.cell? ⟨nb,o,none⟩:=fun o=>hk.cell (p:=⟨nb,o,none⟩) hlt (hS _ hp)
 refine ⟨nb,noff,rfl,Nat.lt_of_lt_of_le hlt hk.size,hp,fun j hj=>?_⟩
 obtain ⟨xo,xc,n0,n1,n2,n3,n4,n5,n6⟩:=hc j hj
 refine ⟨xo,xc,(t _).trans n0,(t _).trans n1,(t _).trans n2,(t _).trans n3,(t _).trans n4,⟨?_,n5.cap', n5.nil,n5.size⟩,n6⟩
 by_cases e:l[j].2.1=[]
 ·exact .inl e
 ·exact n5.at'.kept hk (fun a q=>hS _ (n6 e a q))
theorem NsV.same {P:Nat→Prop} {w w' : World} {ao:Option Addr} {l:List Nd} (h:NsV P w ao l) (hk:Same0 w w'):NsV P w' ao l:=h.kept hk (fun _ _ f=>f)
theorem NsM.apart {B:Nat→Prop} {w:World} {ao:Option Addr} {l:List Nd} {g:Nat} (h:NsM B w ao l) (hap:l≠[]→∀ a,ao=some a→a.block≠g) (hg:NotI w g):NsV (fun b=>b≠g) w ao l:=by
 rcases h with e | ⟨b,off,rfl,hlt,hc⟩
 ·exact .inl e
 ·by_cases e:l=[]
  ·exact .inl e
  refine .inr ⟨b,off,rfl,hlt,hap e _ rfl,fun j hj=>?_⟩
  obtain ⟨xo,xc,n0,n1,n2,n3,n4,n5, -⟩:=hc j hj
  refine ⟨xo,xc,n0,n1,n2,n3,n4,n5.1,fun _ a q t=>?_⟩
  obtain ⟨cur,hcur⟩:=n5.2 a q
  rw [t] at hcur
  exact hg cur hcur
theorem HpB.notg {B:Nat→Prop} {w:World} {h g room:Nat} {l:List Nd} (p:HpB B w h g room l):NotI w g:=fun cur hc=>by
 obtain ⟨cs,h1,_⟩:=p.blk
 rw [h1] at hc
 cases hc
end Go.Proofs.YtblgblgchkonhaaGreat
namespace Go.Proofs.YtblgblgchkonhaaGreat
set_option maxRecDepth 100000
set_option linter.unusedVariables false
open Go.RowKit
attribute [local go_sem ↓] Go.wp_at_zero Go.wp_at_succ
theorem may_app {n:Nat} {x:Nd} (h:x.2.2.2.1=false):mayB n x=(decide (0≤x.1) && decide (x.2.1.length≤6) && insB (n:Int) x.2.1 && isMk x.2.2.1 && decide (x.2.2.2.2=0)):=by
 rw [Bool.eq_iff_iff]
 unfold mayB insB isMk
 simp [h]
 intro _
 constructor
 ·rintro ⟨⟨⟨⟨a,b⟩,c⟩,d⟩,e⟩;exact ⟨⟨⟨a,b⟩,e⟩,c,d⟩
 ·rintro ⟨⟨⟨a,b⟩,e⟩,c,d⟩;exact ⟨⟨⟨⟨a,b⟩,c⟩,d⟩,e⟩
theorem may_indir {n:Nat} {x:Nd} (h:x.2.2.2.1=true):mayB n x=(decide (x.1=0) && decide (x.2.1.length=0) && decide (x.2.2.1=0) && insB (n:Int) [x.2.2.2.2]):=by
 rw [Bool.eq_iff_iff]
 unfold mayB insB
 simp [h]
 constructor
 ·rintro ⟨_,⟨⟨⟨⟨a,b⟩,c⟩,d⟩,e⟩⟩;exact ⟨⟨⟨c,e⟩,d⟩,a,b⟩
 ·rintro ⟨⟨⟨c,e⟩,d⟩,a,b⟩
  rw [c,d,e]
  simp [a,b]
end Go.Proofs.YtblgblgchkonhaaGreat
namespace Go.Proofs.YtblgblgchkonhaaGreat
set_option linter.unusedVariables false
open Go.RowKit
theorem wpList_more9 {w0:World} {ops:Array Oper} {rest:List Oper} {o:Oper} {a:Act} {Q:Exit→Act→World→Prop} (hgd:o.guard=none) (s x:Operand) (t:TypeId)
  (ho:o.op=.call { callee:=.builtin .append,args:=#[s,x],argTypes:=#[t,t] }) (ht:Tryz.prog.underlying t=some (.slice 3))
  (base:Nat) (xs:List Int) (v:Value) (hs:a.eval s=v) (hr:Row base w0 v xs) (ys:List Int) (ao:Option Addr) (m c:Nat) (hx:a.eval x=.slice ao m c) (hm:m=ys.length) (hy:IntsAt w0 ao ys) (hnil:ao=none→ys.length=0∧c=0) (hb:base≤w0.heap.size) (hsz:(xs.length+ys.length) * 8≤140737488355328)
  (h:∀ v' w', Row base w' v' (xs++ys)→Kept (fun k=>v.ownBlock=some k) w0 w' → wpList Tryz.prog ops Q rest (a.put o.dst v') w') :
  wpList Tryz.prog ops Q (o :: rest) a w0:=by
 cases ao with
 | none=>
  obtain ⟨h1,rfl⟩:=hnil rfl
  have:ys=[]:=List.eq_nil_of_length_eq_zero h1
  subst this
  subst hm
  obtain ⟨i,hi,hz0,hz1,hz2⟩:=info_parts info_intT
  exact wpList_append_own_none hgd s x t ho base 3 i 1 ht hi v xs.length (iv xs) hs hr hx (h v w0 (by simpa using hr) (Kept.refl _ _))
 | some ad=>exact wpList_more hgd s x t ho ht base xs v hs hr ys ad m c hx hm hy hb hsz h
end Go.Proofs.YtblgblgchkonhaaGreat
namespace Go.Proofs.YtblgblgchkonhaaGreat
set_option maxRecDepth 100000
set_option linter.unusedVariables false
open Go.RowKit
attribute [local go_sem ↓] Go.wp_at_zero Go.wp_at_succ
theorem Row.argS {base:Nat} {w:World} {v:Value} {xs:List Int} (h:Row base w v xs) (hl:xs.length * 8≤140737488351232):∃ ao ac,v=.slice ao xs.length ac∧ArgT w ao xs ac∧∀ a,ao=some a→base≤a.block:=by
 obtain ⟨ao,ac,e,h1,h2,h3⟩:=h.ints
 rcases h.2 with ⟨e2,h0⟩ | ⟨g,cap,cur,e2,hb,hg,hle,_⟩
 ·rw [e] at e2
  simp only [Value.slice.injEq] at e2
  obtain ⟨rfl,_,rfl⟩:=e2
  exact ⟨none,0,e,⟨⟨h1,by omega,fun _=>⟨h0,rfl⟩,by omega⟩,fun a e=>by cases e⟩,fun a e=>by cases e⟩
 ·rw [e] at e2
  simp only [Value.slice.injEq] at e2
  obtain ⟨rfl,_,rfl⟩:=e2
  exact ⟨_,ac,e,⟨⟨h1,hle,(fun e=>by cases e),by omega⟩,fun a e=>by cases e;exact ⟨cur,hg⟩⟩,fun a e=>by cases e;exact hb⟩
theorem rcopied_any {w:World} {ao:Option Addr} {cap:Nat} {xs:List Int} (hx:Arg w ao xs cap) :
  Calls Tryz.prog 84 #[.slice ao xs.length cap] w fun e w' => ∃ bo bc,e=.returned (.slice bo xs.length bc)∧ArgT w' bo xs bc∧(∀ a,bo=some a→w.heap.size≤a.block)∧Same0 w w' := by
 have k0:Same0 w (w.alloc (.cells #[] 3)):=(Kept.refl _ w).alloc _
 have r0:Row w.heap.size (w.alloc (.cells #[] 3)) (.slice (some ⟨w.heap.size,0,none⟩) 0 0) []:=row_empty w _ (Nat.le_refl _) rfl
 have cI:=hx.at'.same k0
 have hn:=hx.nil
 have hs:Hid (xs.length * 8≤140737488351232):=hx.size
 have z0:=k0.size
 clear hx
 go_enter Tryz.func84,Tryz.ntmps84
 go_wp2_with (first | (at_builtin;refine wpList_more9 rfl _ _ 33 rfl Tryz.underlying33 w.heap.size [] _ rfl r0 xs _ _ _ rfl rfl cI hn z0 (by have:=hs.out;simp;omega) ?_;intro v' w4 hr4 hk4))
 go_ret
 obtain ⟨bo,bc,rfl,h1,h2⟩:=Row.argS (by simpa using hr4) hs.out
 exact ⟨bo,bc,rfl,h1,h2,k0.onto r0 hk4⟩
theorem Row.last {base:Nat} {w:World} {vo:Option Addr} {vc:Nat} {T:List Int} {z:Int} (h:Row base w (.slice vo (T.length+1) vc) (T ++ [z])) :
  ∃ g,vo=some ⟨g,0,none⟩∧base≤g∧w.cell? ⟨g,T.length,none⟩=some (.int .i64 z)∧Row base w (.slice (some ⟨g,0,none⟩) T.length vc) T∧T.length+1≤vc:=by
 have hi:=h.ints
 obtain ⟨ao,ac,e,h1,h2,h3⟩:=hi
 simp only [Value.slice.injEq] at e
 obtain ⟨rfl,_,rfl⟩:=e
 obtain ⟨b,off,e1,hlt,hc⟩:=h1.get (i:=T.length) (by simp)
 subst e1
 unfold Row at h
 rcases h.2 with ⟨e2,h0⟩ | ⟨g,cap,cur,e2,hb,hg,hle,hm,hsz,ht⟩
 ·cases e2
 ·simp only [Value.slice.injEq,Option.some.injEq,Addr.mk.injEq,and_true] at e2
  obtain ⟨⟨rfl,rfl⟩,e3,rfl⟩:=e2
  refine ⟨b,rfl,hb,by simpa using hc,?_,by simpa using hle⟩
  unfold Row
  refine ⟨by simp [iv_length],.inr ⟨b,vc,cur,rfl,hb,hg,by simp at hle;omega,hm,hsz,?_⟩⟩
  have:=congrArg (List.take T.length) ht
  rw [List.take_take] at this
  simp [iv] at this
  simpa [iv,Nat.min_eq_left (Nat.le_succ _)] using this
set_option maxHeartbeats 1000000 in
theorem rmay_any {w:World} {x:Nd} {ao:Option Addr} {ac:Nat} (hx:Arg w ao x.2.1 ac) (n:Nat) :
  Calls Tryz.prog 56 #[nodeV x ao ac,.int .i64 (n:Int)] w fun e w' => e=.returned (.bool (mayB n x))∧Same0 w w' := by
 obtain ⟨W0,hW0⟩:∃ W0,W0=w.alloc (.cells #[.int .i64 x.1,.slice ao x.2.1.length ac,.int .i64 x.2.2.1,.bool x.2.2.2.1,.int .i64 x.2.2.2.2] 76):=⟨_,rfl⟩
 have k0:Same0 w W0:=by rw [hW0];exact (Kept.refl _ w).alloc _
 obtain ⟨b0,b1,b2,b3,b4⟩:=box_node' w x ao ac (show Same0 _ W0 by rw [hW0];exact Kept.refl _ _)
 have HE:Hid (mayB n x=(decide (0≤x.1) && decide (x.2.1.length≤6) && decide (0≤x.2.2.1) && decide (x.2.2.1≤2) && x.2.1.all (fun z=>decide (0≤z) && decide (z<(n:Int))) &&
  (if x.2.2.2.1=true then decide (0≤x.2.2.2.2) && decide (x.2.2.2.2<(n:Int)) && decide (x.1=0) && decide (x.2.2.1=0) && decide (x.2.1.length=0) else decide (x.2.2.2.2=0)))):=rfl
 have hsz:=hx.size
 have HI:Hid (IntsAt W0 ao x.2.1):=hx.at'.same k0
 have K0:Hid (Same0 w W0):=k0
 clear k0 hx
 generalize mayB n x=R at *
 obtain ⟨xs,xa,xm,xp,xt⟩:=x
 simp only at *
 by_cases h1:0≤xs
 ·by_cases h2:xa.length≤6
  ·by_cases h3:0≤xm
   ·by_cases h4:xm≤2
    ·have HNO:Hid (∀ k (hk:k<xa.length),¬ (0≤xa[k]∧xa[k]<(n:Int))→R=false):=fun k hk hn=>by
      rw [HE.out]
      have:xa.all (fun z=>decide (0≤z) && decide (z<(n:Int)))=false:=by
       rw [Bool.eq_false_iff]
       intro q
       rw [List.all_eq_true] at q
       have:=q _ (List.getElem_mem hk)
       simp at this
       exact hn this
      rw [this]
      simp
     have HYE:Hid ((∀ k (hk:k<xa.length),0≤xa[k]∧xa[k]<(n:Int))→R=(if xp=true then decide (0≤xt) && decide (xt<(n:Int)) && decide (xs=0) && decide (xm=0) && decide (xa.length=0) else decide (xt=0))):=fun hall=>by
      rw [HE.out]
      have:xa.all (fun z=>decide (0≤z) && decide (z<(n:Int)))=true:=by
       rw [List.all_eq_true]
       intro z hz
       obtain ⟨k,hk,rfl⟩:=List.mem_iff_getElem.1 hz
       simpa using hall k hk
      rw [this]
      simp [h1,h2,h3,h4]
     have j1:¬ xs<0:=by omega
     have j2:¬ (6:Int)<(xa.length:Int):=by omega
     have j3:¬ xm<0:=by omega
     have j4:¬ (2:Int)<xm:=by omega
     clear HE h1 h3 h4
     go_enter Tryz.func56,Tryz.ntmps56
     go_upto_region 1 with fail
     rw [← hW0]
     clear hW0
     go_upto_region 4 with fail
     go_loop [5] (fun i=>∃ k:Nat,k≤xa.length∧i=.int .i64 (k:Int)∧Hid (∀ j (hj:j<xa.length),j<k→0≤xa[j]∧xa[j]<(n:Int))) (fun i=>xa.length-(intOf i).toNat)
     case atStart=>exact ⟨0,Nat.zero_le _,rfl,fun j _ hj=>absurd hj (Nat.not_lt_zero _)⟩
     case round=>
      obtain ⟨k,hk,rfl,hall⟩:=hrel
      by_cases hlt:k<xa.length
      ·have i0:(0:Int)≤(k:Int):=by omega
       have i1:(k:Int)<(xa.length:Int):=by omega
       obtain ⟨db,doff,rfl, -,cD⟩:=HI.out.get hlt
       have HN:=HNO.out k hlt
       have HNX:Hid (0≤xa[k]∧xa[k]<(n:Int)→Hid (∀ j (hj:j<xa.length),j<k+1→0≤xa[j]∧xa[j]<(n:Int))):=fun e j hj hjk=>by
        by_cases q:j=k
        ·subst q;exact e
        ·exact hall.out j hj (by omega)
       clear hall
       generalize xa[k]=z at *
       by_cases q1:z<0
       ·have HF:Hid (R=false):=HN (by omega)
        clear HN HNX
        go_wp2
        go_ret
        exact ⟨ret_bool HF.out.symm,K0.out⟩
       ·by_cases q2:(n:Int)≤z
        ·have HF:Hid (R=false):=HN (by omega)
         clear HN HNX
         go_wp2
         go_ret
         exact ⟨ret_bool HF.out.symm,K0.out⟩
        ·have HF:=HNX.out ⟨by omega,by omega⟩
         clear HN HNX
         go_wp2
         go_round
         case rel=>exact ⟨k+1,by omega,by go_num,HF⟩
         case measure=>simp [intOf];omega
      ·obtain rfl:k=xa.length:=by omega
       have HY:=HYE.out (fun j hj=>hall.out j hj hj)
       clear hall HYE HNO
       cases xp
       ·have HY2:Hid (R=decide (xt=0)):=HY.trans (if_neg (by simp))
        clear HY
        by_cases g0:xt=0
        ·have HR:Hid (R=true):=by show _=_;rw [HY2.out];simp [g0]
         clear HY2
         go_wp2
         go_ret
         exact ⟨ret_bool (by first | exact HR.out.symm | (rw [HR.out];simp;done) | (rw [HR.out];simp;assumption)),K0.out⟩
        ·have HR:Hid (R=false):=by show _=_;rw [HY2.out];simp [g0]
         clear HY2
         go_wp2
         go_ret
         exact ⟨ret_bool (by first | exact HR.out.symm | (rw [HR.out];simp;done) | (rw [HR.out];simp;assumption)),K0.out⟩
       ·have HY2:Hid (R=(decide (0≤xt) && decide (xt<(n:Int)) && decide (xs=0) && decide (xm=0) && decide (xa.length=0))):=HY.trans (if_pos rfl)
        clear HY
        by_cases g1:0≤xt
        ·by_cases g2:xt<(n:Int)
         ·by_cases g3:xs=0
          ·by_cases g4:xm=0
           ·have HY3:Hid (R=decide (xa.length=0)):=by show _=_;rw [HY2.out];simp [g1,g2,g3,g4]
            clear HY2
            by_cases g5:xa.length=0
            ·have HR:Hid (R=true):=by show _=_;rw [HY3.out];simpa using g5
             have hxa:xa=[]:=List.eq_nil_of_length_eq_zero g5
             subst hxa
             clear HY3 g5
             go_wp2
             go_ret
             exact ⟨ret_bool (by first | exact HR.out.symm | (rw [HR.out];simp;done) | (rw [HR.out];simp;assumption)),K0.out⟩
            ·have HR:Hid (R=false):=by show _=_;rw [HY3.out];simpa using g5
             have g6:¬ (xa.length:Int)=0:=by omega
             clear HY3
             go_wp2
             go_ret
             exact ⟨ret_bool (by first | exact HR.out.symm | (rw [HR.out];simp;done) | (rw [HR.out];simp;assumption) | (rw [HR.out];simp;intro q;rw [q] at g5;exact g5 rfl)),K0.out⟩
           ·have HR:Hid (R=false):=by show _=_;rw [HY2.out];simp [g4]
            clear HY2
            go_wp2
            go_ret
            exact ⟨ret_bool (by first | exact HR.out.symm | (rw [HR.out];simp;done) | (rw [HR.out];simp;assumption)),K0.out⟩
          ·have HR:Hid (R=false):=by show _=_;rw [HY2.out];simp [g3]
           clear HY2
           go_wp2
           go_ret
           exact ⟨ret_bool (by first | exact HR.out.symm | (rw [HR.out];simp;done) | (rw [HR.out];simp;assumption)),K0.out⟩
         ·have HR:Hid (R=false):=by show _=_;rw [HY2.out];simp [g2]
          clear HY2
          go_wp2
          go_ret
          exact ⟨ret_bool (by first | exact HR.out.symm | (rw [HR.out];simp;done) | (rw [HR.out];simp;assumption)),K0.out⟩
        ·have HR:Hid (R=false):=by show _=_;rw [HY2.out];simp [g1]
         have g1' : ¬ xt ≥ 0:=g1
         clear HY2
         go_wp2
         go_ret
         exact ⟨ret_bool (by first | exact HR.out.symm | (rw [HR.out];simp;done) | (rw [HR.out];simp;assumption)),K0.out⟩
    ·have HR:Hid (R=false):=by show _=_;rw [HE.out];simp [h4]
     have j1:¬ xs<0:=by omega
     have j2:¬ (6:Int)<(xa.length:Int):=by omega
     have j3:¬ xm<0:=by omega
     have j4:(2:Int)<xm:=by omega
     clear HE HI
     go_enter Tryz.func56,Tryz.ntmps56
     go_upto_region 1 with fail
     rw [← hW0]
     clear hW0
     go_wp2
     go_ret
     exact ⟨ret_bool (by first | exact HR.out.symm | (rw [HR.out];simp;done) | (rw [HR.out];simp;assumption)),K0.out⟩
   ·have HR:Hid (R=false):=by show _=_;rw [HE.out];simp [h3]
    have j1:¬ xs<0:=by omega
    have j2:¬ (6:Int)<(xa.length:Int):=by omega
    have j3:xm<0:=by omega
    clear HE HI
    go_enter Tryz.func56,Tryz.ntmps56
    go_upto_region 1 with fail
    rw [← hW0]
    clear hW0
    go_wp2
    go_ret
    exact ⟨ret_bool (by first | exact HR.out.symm | (rw [HR.out];simp;done) | (rw [HR.out];simp;assumption)),K0.out⟩
  ·have HR:Hid (R=false):=by show _=_;rw [HE.out];simp [h2]
   have j1:¬ xs<0:=by omega
   have j2:(6:Int)<(xa.length:Int):=by omega
   clear HE HI
   go_enter Tryz.func56,Tryz.ntmps56
   go_upto_region 1 with fail
   rw [← hW0]
   clear hW0
   go_wp2
   go_ret
   exact ⟨ret_bool (by first | exact HR.out.symm | (rw [HR.out];simp;done) | (rw [HR.out];simp;assumption)),K0.out⟩
 ·have HR:Hid (R=false):=by show _=_;rw [HE.out];simp [h1]
  have j1:xs<0:=by omega
  clear HE HI
  go_enter Tryz.func56,Tryz.ntmps56
  go_upto_region 1 with fail
  rw [← hW0]
  clear hW0
  go_wp2
  go_ret
  exact ⟨ret_bool (by first | exact HR.out.symm | (rw [HR.out];simp;done) | (rw [HR.out];simp;assumption)),K0.out⟩
structure RhB (B:Nat→Prop) (w:World) (r room:Nat) (v:Value) (l:List Nd):Prop where
 box:w.heap[r]? = some (.cells #[.int .i64 (room:Int),v] 51 (0,0))
 row:NRow B 0 w v l
 rm1:1≤room
 rm2:room≤4000
 le:l.length≤room
 may:∀ x∈l,mayB l.length x=true
 ac:Ac l
theorem RhB.lt {B:Nat→Prop} {w:World} {r room:Nat} {v:Value} {l:List Nd} (p:RhB B w r room v l):r<w.heap.size:=lt_of_at p.box
theorem RhB.noti {B:Nat→Prop} {w:World} {r room:Nat} {v:Value} {l:List Nd} (p:RhB B w r room v l):NotI w r:=fun cur h=>by rw [p.box] at h;cases h
theorem RhB.inl {B:Nat→Prop} {w:World} {r room:Nat} {v:Value} {l:List Nd} (p:RhB B w r room v l):InL l:=inl_of_may p.may
theorem RhB.cells {B:Nat→Prop} {w:World} {r room:Nat} {v:Value} {l:List Nd} (p:RhB B w r room v l):w.cell? ⟨r,0,none⟩=some (.int .i64 (room:Int))∧w.cell? ⟨r,1,none⟩=some v:=⟨cellAt p.box 0,cellAt p.box 1⟩
theorem RhB.kept {B S:Nat→Prop} {w w' : World} {r room:Nat} {v:Value} {l:List Nd} (p:RhB B w r room v l) (hk:Kept S w w') (n1:¬ S r) (n2:∀ k,v.ownBlock=some k→¬ S k) (hS:∀ k,B k→S k→NotI w k):RhB B w' r room v l:=
 ⟨hk.at p.box n1,p.row.kept hk n2 hS,p.rm1,p.rm2,p.le,p.may,p.ac⟩
theorem RhB.same {B:Nat→Prop} {w w' : World} {r room:Nat} {v:Value} {l:List Nd} (p:RhB B w r room v l) (hk:Same0 w w'):RhB B w' r room v l:=p.kept hk (fun f=>f) (fun _ _ f=>f) (fun _ _ f=>f.elim)
theorem RhB.mem {B:Nat→Prop} {w:World} {r room:Nat} {v:Value} {l:List Nd} (p:RhB B w r room v l):∃ ao cap,v=.slice ao l.length cap∧NsM B w ao l:=by
 obtain ⟨ao,cap,rfl⟩:=p.row.shape
 exact ⟨ao,cap,rfl,p.row.mem⟩
set_option maxHeartbeats 1000000 in
theorem rnew_no (n:Int) (w:World) (hn:n<1∨4000<n):Calls Tryz.prog 27 #[.int .i64 n] w fun e w' => e=.returned (.tuple #[.pointer none,.int .i64 110])∧w' = w:=by
 rcases hn with hn | hn
 ·go_enter Tryz.func27,Tryz.ntmps27
  go_wp2
  go_ret2
  exact ⟨rfl,rfl⟩
 ·have h1:¬ n<1:=by omega
  go_enter Tryz.func27,Tryz.ntmps27
  go_wp2
  go_ret2
  exact ⟨rfl,rfl⟩
set_option maxHeartbeats 1000000 in
theorem rnew_yes (n:Nat) (w:World) (h1:1≤n) (h2:n≤4000):Calls Tryz.prog 27 #[.int .i64 (n:Int)] w fun e w' => ∃ r,e=.returned (.tuple #[.pointer (some ⟨r,0,none⟩),.int .i64 0])∧RhB (fun _=>False) w' r n (.slice none 0 0) []∧Same0 w w' ∧ w.heap.size≤r:=by
 have i1:¬ (n:Int)<1:=by omega
 have i2:¬ (4000:Int)<(n:Int):=by omega
 go_enter Tryz.func27,Tryz.ntmps27
 go_wp2
 go_ret2
 exact ⟨w.heap.size,rfl,⟨heap_alloc_new w _,NRow.nil _ _ _,h1,h2,Nat.zero_le _,fun x hx=>absurd hx (by simp),Ac.nil⟩,(Kept.refl _ w).alloc _,Nat.le_refl _⟩
theorem set_box {w:World} {b:Nat} {v0 v1 v2 v3 v4:Value} {t:TypeId} (h:w.heap[b]? = some (.cells #[v0,v1,v2,v3,v4] t (0,0))) (u:Value):(w.setCell ⟨b,1,none⟩ u).heap[b]? = some (.cells #[v0,u,v2,v3,v4] t (0,0)):=setAt h 1 u
set_option maxHeartbeats 2000000 in
theorem rnodes_any {w:World} {ao:Option Addr} {ac:Nat} {l:List Nd} (h:NsW w ao l) (hsz:l.length * 56≤140737488351232) :
  Calls Tryz.prog 58 #[.slice ao l.length ac] w fun e w' => ∃ v,e=.returned v∧NRow (fun b=>w.heap.size≤b) w.heap.size w' v l∧Same0 w w' := by
 have HX:Hid (∀ ww,Same0 w ww→NsW ww ao l):=fun ww hw=>h.same hw
 have KR:Same0 w w:=Kept.refl _ _
 clear h
 go_enter Tryz.func58,Tryz.ntmps58
 go_wp2
 go_loopw [3,4] (fun v i wr=>∃ k:Nat,i=.int .i64 (k:Int)∧k≤l.length∧NRow (fun b=>w.heap.size≤b) w.heap.size wr v (l.take k)∧Same0 w wr) (fun _ i _=>l.length-(intOf i).toNat)
 case atStart=>exact ⟨0,rfl,Nat.zero_le _,NRow.nil _ _ _,KR⟩
 case round=>
  clear KR
  obtain ⟨k,rfl,hk,hrow,hw⟩:=hrel
  obtain ⟨vo,vc,rfl⟩:=hrow.shape
  have hlk:(l.take k).length=k:=by simp;omega
  rw [hlk] at hrow
  by_cases hlt:k<l.length
  ·have j1:(k:Int)<(l.length:Int):=by omega
   have j2:(0:Int)≤(k:Int):=by omega
   rcases HX.out wr hw with e | ⟨nb,noff,e,hnb,hn⟩
   ·rw [e] at hlt;simp at hlt
   subst e
   obtain ⟨xo,xc,n0,n1,n2,n3,n4,n5⟩:=hn k hlt
   have HT:Hid (l.take (k+1)=l.take k ++ [l[k]]):=List.take_succ_eq_append_getElem hlt
   have HLK:Hid ((l.take k).length=k):=hlk
   obtain ⟨W3,hW3⟩:∃ W3,W3=wr.alloc (.cells #[.int .i64 l[k].1,.slice xo l[k].2.1.length xc,.int .i64 l[k].2.2.1,.bool l[k].2.2.2.1,.int .i64 l[k].2.2.2.2] 76):=⟨_,rfl⟩
   have kb:Same0 wr W3:=by rw [hW3];exact (Kept.refl _ _).alloc _
   have hbx:W3.heap[wr.heap.size]? = some (.cells #[.int .i64 l[k].1,.slice xo l[k].2.1.length xc,.int .i64 l[k].2.2.1,.bool l[k].2.2.2.1,.int .i64 l[k].2.2.2.2] 76 (0,0)):=by rw [hW3];exact heap_alloc_new wr _
   obtain ⟨x0,x1,x2,x3,x4⟩:=box5 hbx
   have HBX:Hid (∀ ww,Same0 W3 ww→ww.heap[wr.heap.size]? = some (.cells #[.int .i64 l[k].1,.slice xo l[k].2.1.length xc,.int .i64 l[k].2.2.1,.bool l[k].2.2.2.1,.int .i64 l[k].2.2.2.2] 76 (0,0))):=fun ww hk=>hk.at0 hbx
   have CC:=rcopied_any (n5.onto kb)
   rw [hlk]
   clear n5 hn hlk hbx
   go_upto_region 6 with fail
   rw [← hW3]
   clear hW3 n0 n1 n2 n3 n4
   go_upto_region 7 with (first | (go_at_call 84;refine CC.mono ?_;rintro e w5 ⟨bo,bc,rfl,ha,hbb,k5⟩;have q5:=HBX.out w5 k5;obtain ⟨u0,u1,u2,u3,u4⟩:=box5 q5;obtain ⟨-,f1, -, -, -⟩:=free5 q5))
   obtain ⟨W6,hW6⟩:∃ W6,W6=w5.setCell ⟨wr.heap.size,1,none⟩ (.slice bo l[k].2.1.length bc):=⟨_,rfl⟩
   rw [← hW6]
   have q6:W6.heap[wr.heap.size]? = some (.cells #[.int .i64 l[k].1,.slice bo l[k].2.1.length bc,.int .i64 l[k].2.2.1,.bool l[k].2.2.2.1,.int .i64 l[k].2.2.2.2] 76 (0,0)):=by rw [hW6];exact set_box q5 _
   obtain ⟨y0,y1,y2,y3,y4⟩:=box5 q6
   have K6:Kept (fun i=>i=wr.heap.size) w5 W6:=by rw [hW6];exact Kept.setCell (S:=fun i=>i=wr.heap.size) (Kept.refl _ _) (p:=⟨wr.heap.size,1,none⟩) (fun _=>rfl) _
   have KW:Same0 wr W6:=(kb.trans' k5).trans K6 (fun i hi e=>by omega)
   have ha6:ArgT W6 bo l[k].2.1 bc:=ha.kept K6 (fun i e cur hc=>by rw [e,q5] at hc;cases hc)
   have hr6:=hrow.same KW
   have hsz6:w.heap.size≤W6.heap.size:=(hw.trans' KW).size
   have hbb' : ∀ b,bo=some b→w.heap.size≤b.block:=fun b e=>Nat.le_trans (Nat.le_trans hw.size kb.size) (hbb b e)
   have kW:=(Kept.refl (fun _=>False) W6).alloc (.cells #[.int .i64 l[k].1,.slice bo l[k].2.1.length bc,.int .i64 l[k].2.2.1,.bool l[k].2.2.2.1,.int .i64 l[k].2.2.2.2] 76)
   have hq:=heap_at_node W6 l[k] bo bc
   have HKK:Hid (∀ ww,Kept (fun i=>(Value.slice vo k vc).ownBlock=some i) W6 ww→Same0 w ww):=fun ww hk=>NRow.onto (hw.trans' KW) hr6 hk
   clear hW6 CC q5 q6 u0 u1 u2 u3 u4 f1 x0 x1 x2 x3 x4 ha hbb k5 kb K6 hrow
   go_wp2_with (first | (at_builtin;refine wpList_nd rfl _ _ rfl w.heap.size (l.take k) _ rfl kW hr6 l[k] bo bc _ rfl hq ha6 hbb' hsz6 (by rw [HLK.out];omega) ?_;rw [HLK.out];intro g4 cap4 w4 hr4 hk4 hor))
   have hr5:NRow (fun b=>w.heap.size≤b) w.heap.size w4 (.slice (some ⟨g4,0,none⟩) (k+1) cap4) (l.take (k+1)):=by rw [HT.out];exact hr4
   have hk5:Same0 w w4:=HKK.out w4 hk4
   go_roundw
   case rel=>first | exact ⟨k+1,by go_num,by omega,hr5,hk5⟩ | ((repeat apply Exists.intro);exact ⟨⟨k+1,by go_num,by omega,hr5,hk5⟩,rfl⟩)
   case measure=>simp [intOf];omega
  ·obtain rfl:k=l.length:=by omega
   rw [List.take_length] at *
   clear hlk
   go_wp2
   go_ret
   exact ⟨_,rfl,hrow,hw⟩
def eqI (xs ys:List Int):Bool:=decide (xs=ys)
theorem eqI_no {xs ys:List Int} {k:Nat} (h1:k<xs.length) (h2:k<ys.length) (h:xs[k]≠ys[k]):eqI xs ys=false:=by
 unfold eqI;simp;rintro rfl;exact h rfl
theorem eqI_yes {xs ys:List Int} (hl:xs.length=ys.length) (h:∀ k (h1:k<xs.length) (h2:k<ys.length),xs[k]=ys[k]):eqI xs ys=true:=by
 unfold eqI;simp;exact List.ext_getElem hl (fun k h1 h2=>h k h1 h2)
set_option maxHeartbeats 1000000 in
theorem sameInts_any {w:World} {ao bo:Option Addr} {xs ys:List Int} (ac bc:Nat) (hx:IntsAt w ao xs) (hy:IntsAt w bo ys) (hm:xs.length≤maxLen) :
  Calls Tryz.prog 68 #[.slice ao xs.length ac,.slice bo ys.length bc] w fun e w' => e=.returned (.bool (eqI xs ys))∧Same0 w w' := by
 unfold maxLen at hm
 by_cases hl:xs.length=ys.length
 ·have hl' : (xs.length:Int)=(ys.length:Int):=by omega
  have HX:Hid (∀ ww,Same0 w ww→∀ k (hk:k<xs.length),∃ b off,ao=some ⟨b,off,none⟩∧ww.cell? ⟨b,off+k,none⟩=some (.int .i64 xs[k])):=fun ww hw k hk=>by
   obtain ⟨b,off,e,_,hc⟩:=(hx.same hw).get hk
   exact ⟨b,off,e,hc⟩
  have HY:Hid (∀ ww,Same0 w ww→∀ k (hk:k<ys.length),∃ b off,bo=some ⟨b,off,none⟩∧ww.cell? ⟨b,off+k,none⟩=some (.int .i64 ys[k])):=fun ww hw k hk=>by
   obtain ⟨b,off,e,_,hc⟩:=(hy.same hw).get hk
   exact ⟨b,off,e,hc⟩
  have HL:Hid (xs.length=ys.length):=hl
  have KR:Same0 w w:=Kept.refl _ _
  clear hx hy hl
  go_enter Tryz.func68,Tryz.ntmps68
  go_wp2
  go_loopw [5] (fun i wr=>∃ k:Nat,k≤xs.length∧i=.int .i64 k∧Hid (∀ j (h1:j<xs.length) (h2:j<ys.length),j<k→xs[j]=ys[j])∧Same0 w wr) (fun i _=>xs.length-(intOf i).toNat)
  case atStart=>exact ⟨0,Nat.zero_le _,rfl,fun j _ _ hj=>absurd hj (Nat.not_lt_zero _),KR⟩
  case round=>
   clear KR
   obtain ⟨k,hk,rfl,hall,hw⟩:=hrel
   by_cases hlt:k<xs.length
   ·have hlt' : k<ys.length:=by rw [← HL.out];exact hlt
    obtain ⟨b,off,rfl,hc⟩:=HX.out wr hw k hlt
    obtain ⟨b', off', rfl,hc'⟩:=HY.out wr hw k hlt'
    have i1:(0:Int)≤(k:Int):=by omega
    have i2:(k:Int)<(xs.length:Int):=by omega
    have i3:(k:Int)<(ys.length:Int):=by omega
    obtain ⟨u,hu⟩:∃ u,u=xs[k]:=⟨_,rfl⟩
    obtain ⟨u', hu'⟩:∃ u', u' = ys[k]:=⟨_,rfl⟩
    rw [← hu] at hc
    rw [← hu'] at hc'
    by_cases he:u=u'
    ·have HE:Hid (xs[k]=ys[k]):=by show _=_;rw [← hu,← hu', he]
     clear hu hu' HX HY
     subst he
     go_upto_region 6 with fail
     go_quiet (fail)
     go_wp2
     go_roundw
     case rel=>exact ⟨k+1,by omega,by go_num,fun j h1 h2 hj=>by
      by_cases e:j=k
      ·subst e;exact HE.out
      ·exact hall.out j h1 h2 (by omega),hw.drewN _⟩
     case measure=>simp [intOf];omega
    ·have HE:Hid (eqI xs ys=false):=eqI_no hlt hlt' (by rw [← hu,← hu'];exact he)
     clear hu hu' HX HY
     go_upto_region 6 with fail
     go_quiet (fail)
     go_wp2
     go_ret
     exact ⟨ret_bool HE.out.symm,hw.drewN _⟩
   ·obtain rfl:k=xs.length:=by omega
    have HE:Hid (eqI xs ys=true):=eqI_yes HL.out (fun j h1 h2=>hall.out j h1 h2 h1)
    clear HX HY hall
    go_wp2
    go_ret
    exact ⟨ret_bool HE.out.symm,hw⟩
 ·have HE:Hid (eqI xs ys=false):=by show _=_;unfold eqI;simp;rintro rfl;exact hl rfl
  have hl' : ¬ (xs.length:Int)=(ys.length:Int):=by omega
  clear hx hy hl
  go_enter Tryz.func68,Tryz.ntmps68
  go_wp2
  go_ret
  exact ⟨ret_bool HE.out.symm,Kept.refl _ _⟩
def eqN (x y:Nd):Bool:=decide (x=y)
theorem eqN_no {x y:Nd} (h:¬ (x.1=y.1∧x.2.2.1=y.2.2.1∧x.2.2.2.1=y.2.2.2.1∧x.2.2.2.2=y.2.2.2.2)):eqN x y=false:=by
 unfold eqN;simp;rintro rfl;exact h ⟨rfl,rfl,rfl,rfl⟩
theorem eqN_same {x y:Nd} (h:x.1=y.1∧x.2.2.1=y.2.2.1∧x.2.2.2.1=y.2.2.2.1∧x.2.2.2.2=y.2.2.2.2):eqN x y=eqI x.2.1 y.2.1:=by
 obtain ⟨a,b,c,d,e⟩:=x
 obtain ⟨a', b', c', d', e'⟩:=y
 obtain ⟨h1,h2,h3,h4⟩:=h
 simp only at h1 h2 h3 h4
 subst h1 h2 h3 h4
 unfold eqN eqI
 simp
set_option maxHeartbeats 2000000 in
theorem sameNode_any {w:World} {x y:Nd} {ao bo:Option Addr} {ac bc:Nat} (hx:Arg w ao x.2.1 ac) (hy:Arg w bo y.2.1 bc) :
  Calls Tryz.prog 39 #[nodeV x ao ac,nodeV y bo bc] w fun e w' => e=.returned (.bool (eqN x y))∧Same0 w w' := by
 obtain ⟨W1,hW1⟩:∃ W1,W1=(w.alloc (.cells #[.int .i64 x.1,.slice ao x.2.1.length ac,.int .i64 x.2.2.1,.bool x.2.2.2.1,.int .i64 x.2.2.2.2] 76)).alloc (.cells #[.int .i64 y.1,.slice bo y.2.1.length bc,.int .i64 y.2.2.1,.bool y.2.2.2.1,.int .i64 y.2.2.2.2] 76):=⟨_,rfl⟩
 have K1:Same0 w W1:=by rw [hW1];exact ((Kept.refl _ w).alloc _).alloc _
 obtain ⟨x0,x1,x2,x3,x4⟩:=box_node' w x ao ac (show Same0 _ W1 by rw [hW1];exact (Kept.refl _ _).alloc _)
 obtain ⟨y0,y1,y2,y3,y4⟩:=box_node' _ y bo bc (show Same0 _ W1 by rw [hW1];exact Kept.refl _ _)
 simp only [World.size_alloc] at y0 y1 y2 y3 y4
 have hxm:x.2.1.length≤maxLen:=by have:=hx.size;unfold maxLen;omega
 have CI:=sameInts_any ac bc (hx.at'.same K1) (hy.at'.same K1) hxm
 have HK:Hid (∀ ww,Same0 W1 ww→Same0 w ww):=fun ww hk=>K1.trans' hk
 have HW:Hid (Same0 W1 W1):=Kept.refl _ _
 have HE:Hid (x.1=y.1→x.2.2.1=y.2.2.1→x.2.2.2.1=y.2.2.2.1→x.2.2.2.2=y.2.2.2.2→eqN x y=eqI x.2.1 y.2.1):=fun a b c d=>eqN_same ⟨a,b,c,d⟩
 have HN:Hid (¬ (x.1=y.1∧x.2.2.1=y.2.2.1∧x.2.2.2.1=y.2.2.2.1∧x.2.2.2.2=y.2.2.2.2)→eqN x y=false):=fun h=>eqN_no h
 clear hx hy K1
 generalize eqN x y=R at *
 generalize eqI x.2.1 y.2.1=I at *
 obtain ⟨sx,ax,mx,px,tx⟩:=x
 obtain ⟨sy,ay,my,py,ty⟩:=y
 simp only at *
 have go:∀ b:Bool,(sx=sy∧mx=my∧px=py∧tx=ty)∨¬ (sx=sy∧mx=my∧px=py∧tx=ty):=fun _=>Classical.em _
 by_cases e1:sx=sy
 ·subst e1
  by_cases e2:mx=my
  ·subst e2
   by_cases e3:px=py
   ·subst e3
    by_cases e4:tx=ty
    ·subst e4
     have HR:Hid (R=I):=HE.out rfl rfl rfl rfl
     clear HE HN go
     go_enter Tryz.func39,Tryz.ntmps39
     go_upto_region 1 with fail
     rw [← hW1]
     clear hW1
     go_wp2_with (first | (go_at_call 68;refine CI.mono ?_;rintro e w3 ⟨rfl,k3⟩))
     go_ret
     exact ⟨ret_bool HR.out.symm,HK.out _ k3⟩
    ·have HR:Hid (R=false):=HN.out (fun h=>e4 h.2.2.2)
     clear HE HN go
     go_enter Tryz.func39,Tryz.ntmps39
     go_upto_region 1 with fail
     rw [← hW1]
     clear hW1
     go_wp2
     go_ret
     exact ⟨ret_bool HR.out.symm,HK.out _ HW.out⟩
   ·have HR:Hid (R=false):=HN.out (fun h=>e3 h.2.2.1)
    clear HE HN go
    go_enter Tryz.func39,Tryz.ntmps39
    go_upto_region 1 with fail
    rw [← hW1]
    clear hW1
    go_wp2
    go_ret
    exact ⟨ret_bool HR.out.symm,HK.out _ HW.out⟩
  ·have HR:Hid (R=false):=HN.out (fun h=>e2 h.2.1)
   clear HE HN go
   go_enter Tryz.func39,Tryz.ntmps39
   go_upto_region 1 with fail
   rw [← hW1]
   clear hW1
   go_wp2
   go_ret
   exact ⟨ret_bool HR.out.symm,HK.out _ HW.out⟩
 ·have HR:Hid (R=false):=HN.out (fun h=>e1 h.1)
  clear HE HN go
  go_enter Tryz.func39,Tryz.ntmps39
  go_upto_region 1 with fail
  rw [← hW1]
  clear hW1
  go_wp2
  go_ret
  exact ⟨ret_bool HR.out.symm,HK.out _ HW.out⟩
end Go.Proofs.YtblgblgchkonhaaGreat
