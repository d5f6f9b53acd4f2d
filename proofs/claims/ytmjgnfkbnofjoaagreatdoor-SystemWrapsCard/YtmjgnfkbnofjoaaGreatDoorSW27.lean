import Derived.Test.YtmjgnfkbnofjoaaGreatDoorSW26
import Derived.Test.YtmjgnfkbnofjoaaGreatDoorSW22
import Derived.Test.YtmjgnfkbnofjoaaGreatDoorSW11
import Derived.Test.YtmjgnfkbnofjoaaGreatDoorSW23
import Derived.Test.YtmjgnfkbnofjoaaGreatDoorSW01
namespace Go.Proofs.YtmjgnfkbnofjoaaGreatDoor
set_option maxRecDepth 100000
set_option linter.unusedVariables false
open Go.RowKit
attribute [local go_sem ↓] Go.wp_at_zero Go.wp_at_succ
abbrev L10:List Sym:=[⟨⟨#[122]⟩,0,false⟩,⟨⟨#[115]⟩,1,false⟩,⟨⟨#[97,100,100]⟩,2,true⟩]
abbrev qz10:List Sym:=[⟨⟨#[113]⟩,0,false⟩,⟨⟨#[122]⟩,0,false⟩]
abbrev R10:List Ru:=[([2,0, -1],[-1]),([2,1, -1, -2],[1,2, -1, -2])]
abbrev D10:List Ru:=[([2, -1,0],[0])]
theorem nm10_z:nameB ⟨#[122]⟩=true:=by decide +kernel
theorem nm10_s:nameB ⟨#[115]⟩=true:=by decide +kernel
theorem nm10_q:nameB ⟨#[113]⟩=true:=by decide +kernel
theorem nm10_add:nameB ⟨#[97,100,100]⟩=true:=by decide +kernel
theorem up10:UpS [] L10 3:=by
 intro i hi h3
 match i,h3 with
 | 0,_=>simp [addErr,nm10_z,findI]
 | 1,_=>simp [addErr,nm10_s,findI]
 | 2,_=>simp [addErr,nm10_add,findI]
theorem syms10:AnsS [] L10 []:=.inl ⟨rfl,up10⟩
theorem twice10:AnsS L10 qz10 [(100,1),(12, -1)]:=by
 refine .inr ⟨1,by decide,fun i hi h1=>?_,?_,?_⟩
 ·obtain rfl:i=0:=by omega
  simp [addErr,nm10_q,findI]
 ·simp [addErr,nm10_z,findI]
 ·simp [addErr,nm10_z,findI]
theorem a10_a:Ans L10 [] R10 []:=Ans.of_all (by decide +kernel)
theorem a10_d:Ans L10 R10 D10 [(77,0),(78,0)]:=.inr ⟨7,0,by omega,by decide,⟨by decide +kernel,by decide +kernel⟩,by decide +kernel,by decide +kernel⟩
def tree10 (n:Nat):Tr (n+1+1):=(2,0,[0],[(0,((1,0,[],[]):Int × Int × List Int × List (Int × Tr n))),(1,((1,1,[],[]):Int × Int × List Int × List (Int × Tr n)))])
theorem aw10_grow (n:Nat):growF L10 (n+1+1) (rootP L10 2) (rootR L10 R10 2)=.ok (tree10 n):=by rfl
theorem aw10_tree:treeF L10 R10 2=.ok (tree10 1999):=aw10_grow 1999
theorem aw10_all:∀ k:Nat,k<L10.length→defB L10 (k:Int)=true→∃ t,treeF L10 R10 k=.ok t:=by
 intro k hk hd
 have hk' : k<3:=hk
 match k,hk' with
 | 0,_=>exact absurd hd (by decide)
 | 1,_=>exact absurd hd (by decide)
 | 2,_=>exact ⟨_,aw10_tree⟩
theorem aw10_lay (n:Nat):layS (n+1+1) (tree10 n) ([],[])=([(1,0,0),(2,0,4),(2,1,5),(3,0,0),(4,0,0),(4,1,0)],[[0]]):=by rfl
theorem aw10_cmp:(cmpS L10 R10 3).1.1.length=6:=by
 rw [cmpS_yes (k:=2) (by decide) aw10_tree,cmpS_no (k:=1) (by decide),cmpS_no (k:=0) (by decide)]
 have e1:layS 2001 (tree10 1999) (cmpS L10 R10 0).1=_:=aw10_lay 1999
 rw [e1]
 rfl
theorem y10_a:AnsY L10 [] R10 []:=.inr (.inr ⟨a10_a,fun k hk hd=>aw10_all k hk hd,rfl⟩)
theorem y10_d:AnsY L10 R10 D10 [(101,0),(77,0),(78,0)]:=.inl ⟨77,0,[(78,0)],a10_d,by omega,by simp,rfl⟩
theorem syms10_at (w:World) (T:TypeId):SymsAt (w.alloc (.cells #[.string ⟨#[122]⟩,.int .i64 0,.bool false,.string ⟨#[115]⟩,.int .i64 1,.bool false,.string ⟨#[97,100,100]⟩,.int .i64 2,.bool true] T)) (some ⟨w.heap.size,0,none⟩) L10.length L10:=by
 refine ⟨rfl,.inr ⟨_,_,rfl,by simp,fun i hi=>?_⟩,?_⟩
 ·have hi' : i<3:=by simpa using hi
  rw [cellAt (heap_alloc_new w _),cellAt (heap_alloc_new w _),cellAt (heap_alloc_new w _)]
  match i,hi' with
  | 0,_=>exact ⟨rfl,rfl,rfl⟩
  | 1,_=>exact ⟨rfl,rfl,rfl⟩
  | 2,_=>exact ⟨rfl,rfl,rfl⟩
 ·intro x hx
  simp at hx
  rcases hx with rfl | rfl | rfl <;> exact ⟨by decide +kernel,by decide +kernel⟩
theorem qz10_at (w:World) (T:TypeId):SymsAt (w.alloc (.cells #[.string ⟨#[113]⟩,.int .i64 0,.bool false,.string ⟨#[122]⟩,.int .i64 0,.bool false] T)) (some ⟨w.heap.size,0,none⟩) qz10.length qz10:=by
 refine ⟨rfl,.inr ⟨_,_,rfl,by simp,fun i hi=>?_⟩,?_⟩
 ·have hi' : i<2:=by simpa using hi
  rw [cellAt (heap_alloc_new w _),cellAt (heap_alloc_new w _),cellAt (heap_alloc_new w _)]
  match i,hi' with
  | 0,_=>exact ⟨rfl,rfl,rfl⟩
  | 1,_=>exact ⟨rfl,rfl,rfl⟩
 ·intro x hx
  simp at hx
  rcases hx with rfl | rfl <;> exact ⟨by decide +kernel,by decide +kernel⟩
theorem rs_one (w:World) (x1 x2:List Int) (T1 T2 T5:TypeId) (b1:x1.length≤2000) (b2:x2.length≤2000) {o1 o2 o5:Obj} (h1:o1=.cells (iv x1).toArray T1 (0,0)) (h2:o2=.cells (iv x2).toArray T2 (0,0))
  (h5:o5=.cells #[.slice (some ⟨w.heap.size,0,none⟩) x1.length x1.length,.slice (some ⟨w.heap.size+1,0,none⟩) x2.length x2.length] T5 (0,0)) :
  RsAt (((w.alloc o1).alloc o2).alloc o5) (some ⟨w.heap.size+1+1,0,none⟩) [(x1,x2)]∧Same0 w (((w.alloc o1).alloc o2).alloc o5):=by
 have k1:Same0 w (w.alloc o1):=(Kept.refl _ w).alloc _
 have k2:Same0 (w.alloc o1) ((w.alloc o1).alloc o2):=(Kept.refl _ _).alloc _
 have k5:Same0 ((w.alloc o1).alloc o2) (((w.alloc o1).alloc o2).alloc o5):=(Kept.refl _ _).alloc _
 have a1:=((ints_arg w x1 T1 b1 h1).same k2).same k5
 have a2:=(ints_arg (w.alloc o1) x2 T2 b2 h2).same k5
 have hb:=heap_alloc_new ((w.alloc o1).alloc o2) o5
 simp only [World.size_alloc] at a2 hb
 rw [h5] at hb
 refine ⟨.inr ⟨_,0,rfl,by simp,fun i hi=>?_⟩,(k1.trans' k2).trans' k5⟩
 rw [h5] at *
 have hi' : i<1:=by simpa using hi
 match i,hi' with
 | 0,_=>exact ⟨_,_,_,_,cellAt hb 0,cellAt hb 1,a1,a2⟩
theorem yversion_any {w:World} {y:Nat} {sp:Option Addr} {V:Nat} {L:List Sym} {R:List Ru} (h:SyAt w y sp V L R) :
  Calls Tryz.prog 15 #[.pointer (some ⟨y,0,none⟩)] w fun e w' => e=.returned (.int .i64 (V:Int))∧w' = w:=by
 have hpn:=yy_nil
 have c1:=cellAt h.blk 1
 simp only [List.getElem?_toArray,List.getElem?_cons_zero,List.getElem?_cons_succ] at c1
 clear h
 go_enter Tryz.func15,Tryz.ntmps15
 go_wp2
 go_ret
 exact ⟨rfl,rfl⟩
set_option maxHeartbeats 8000000 in
theorem ycode_any {w:World} {y:Nat} {sp:Option Addr} {V:Nat} {L:List Sym} {R:List Ru} (h:SyAt w y sp V L R) (hall:∀ k:Nat,k<L.length→defB L (k:Int)=true→∃ t,treeF L R k=.ok t) :
  Calls Tryz.prog 22 #[.pointer (some ⟨y,0,none⟩)] w fun e w' => ∃ io ic po P pc eo E ec ro rc,e=.returned (.agg #[.slice io (cmpS L R L.length).1.1.length ic,.slice po P pc,.slice eo E ec,.slice ro R.length rc])∧Same0 w w' := by
 have hpn:=yy_nil
 obtain ⟨W1,hW1⟩:∃ W1,W1=w.alloc (.cells #[.slice none 0 0,.slice none 0 0,.slice none 0 0,.slice none 0 0] 54):=⟨_,rfl⟩
 have KW:Same0 w W1:=by rw [hW1];exact (Kept.refl _ _).alloc _
 have b0:W1.heap[w.heap.size]? = some (.cells #[.slice none 0 0,.slice none 0 0,.slice none 0 0,.slice none 0 0] 54 (0,0)):=by rw [hW1];exact heap_alloc_new _ _
 have c0:=cellAt (KW.at0 h.blk) 0
 simp only [List.getElem?_toArray,List.getElem?_cons_zero] at c0
 have C1:=laid_any10 (h.g.same KW)
 have HZ:Hid (∀ ww a b c d,Same0 W1 ww→(ww.cell? ⟨w.heap.size,0,none⟩=some (.slice none 0 0)∧ww.cell? ⟨w.heap.size,1,none⟩=some (.slice none 0 0)∧ww.cell? ⟨w.heap.size,2,none⟩=some (.slice none 0 0)∧ww.cell? ⟨w.heap.size,3,none⟩=some (.slice none 0 0))∧(ww.frozen? ⟨w.heap.size,0,none⟩=false∧ww.frozen? ⟨w.heap.size,1,none⟩=false∧ww.frozen? ⟨w.heap.size,2,none⟩=false∧ww.frozen? ⟨w.heap.size,3,none⟩=false)∧∃ Z,Hid (Z=(((ww.setCell ⟨w.heap.size,0,none⟩ a).setCell ⟨w.heap.size,1,none⟩ b).setCell ⟨w.heap.size,2,none⟩ c).setCell ⟨w.heap.size,3,none⟩ d)∧Hid (Z.cell? ⟨w.heap.size,0,none⟩=some a∧Z.cell? ⟨w.heap.size,1,none⟩=some b∧Z.cell? ⟨w.heap.size,2,none⟩=some c∧Z.cell? ⟨w.heap.size,3,none⟩=some d)∧Same0 w Z):=fun ww a b c d hk=>by
  have h2:=hk.at0 b0
  obtain ⟨p1,p2⟩:=put4_raw h2 a b c d
  exact ⟨⟨cellAt h2 0,cellAt h2 1,cellAt h2 2,cellAt h2 3⟩,⟨frozenAt h2 0,frozenAt h2 1,frozenAt h2 2,frozenAt h2 3⟩,_,rfl,⟨cellAt p1 0,cellAt p1 1,cellAt p1 2,cellAt p1 3⟩,Kept.trans (KW.trans' hk) p2 (fun i hi e=>by have e' : i=w.heap.size:=e;omega)⟩
 have HCM:Hid (∀ ww p bs lv vs,StAt ww p bs L R lv vs→Calls Tryz.prog 50 #[.pointer (some ⟨p,0,none⟩)] ww fun e w' => ∃ io ic po P pc eo E ec ro rc,e=.returned (.tuple #[.agg #[.slice io (cmpS L R L.length).1.1.length ic,.slice po P pc,.slice eo E ec,.slice ro R.length rc],.nilIface])∧Same0 ww w'):=fun ww p bs lv vs hst=>(compile_ok hst hall).mono (fun e w' hc=>by
  obtain ⟨io,ic,po,pc,eo,ec,ro,rc,cs,e1,_,_,_,_,hk⟩:=hc
  exact ⟨io,ic,po,_,pc,eo,_,ec,ro,rc,e1,hk⟩)
 clear h b0
 go_enter Tryz.func22,Tryz.ntmps22
 go_upto_region 1 with fail
 rw [← hW1]
 clear hW1
 go_upto_region 4 with (first
  | (go_at_call 41;refine C1.mono ?_;rintro e w2 ⟨p,bs,lv,vs,rfl,hst,k2⟩;have C3:=HCM.out w2 p bs lv vs hst)
  | (go_at_call 50;refine C3.mono ?_;rintro e w3 ⟨io,ic,po,P,pc,eo,E,ec,ro,rc,rfl,k3⟩))
 obtain ⟨w4,hw4⟩:∃ w4,w4=w3.alloc (.cells #[.slice io (cmpS L R L.length).1.1.length ic,.slice po P pc,.slice eo E ec,.slice ro R.length rc] 54):=⟨_,rfl⟩
 have k4:Same0 w3 w4:=by rw [hw4];exact (Kept.refl _ _).alloc _
 have b4:w4.heap[w3.heap.size]? = some (.cells #[.slice io (cmpS L R L.length).1.1.length ic,.slice po P pc,.slice eo E ec,.slice ro R.length rc] 54 (0,0)):=by rw [hw4];exact heap_alloc_new _ _
 have d0:=cellAt b4 0
 have d1:=cellAt b4 1
 have d2:=cellAt b4 2
 have d3:=cellAt b4 3
 simp only [List.getElem?_toArray,List.getElem?_cons_zero,List.getElem?_cons_succ] at d0 d1 d2 d3
 obtain ⟨⟨y0,y1,y2,y3⟩,⟨f0,f1,f2,f3⟩,Z,hZ,hZ2,hZ3⟩:=HZ.out w4 (.slice io (cmpS L R L.length).1.1.length ic) (.slice po P pc) (.slice eo E ec) (.slice ro R.length rc) ((k2.trans' k3).trans' k4)
 have HZ3:Hid (Same0 w Z):=hZ3
 rw [← hw4]
 clear hw4 b4 C1 C3 c0 hZ3 hst k2 k3 k4
 go_wp2
 rw [← hZ.out]
 exact bodyPost_ret (v:=.agg #[.slice io (cmpS L R L.length).1.1.length ic,.slice po P pc,.slice eo E ec,.slice ro R.length rc]) (by simp [results,Tryz.results22,go_sem,hZ2.out.1,hZ2.out.2.1,hZ2.out.2.2.1,hZ2.out.2.2.2]) rfl ⟨io,ic,po,P,pc,eo,E,ec,ro,rc,rfl,HZ3.out⟩
theorem yeq0 (w:World):(binOp .eql 46 .nilIface .nilIface).run Tryz.prog w=.ok (.bool true) w:=by kernel_rfl
theorem field_ins10 (a a2 a3 a4:Option Addr) (b c b2 c2 b3 c3 b4 c4:Nat) (w:World):(Instr.field 54 (.agg #[.slice a b c,.slice a2 b2 c2,.slice a3 b3 c3,.slice a4 b4 c4]) 0).run Tryz.prog w=.ok (.slice a b c) w:=by kernel_rfl
set_option maxHeartbeats 16000000 in
theorem awake10_any {w:World} (hE:ErrT w):Calls Tryz.prog 7 #[] w fun e w' => e=.returned (.bool true)∧Same0 w w' := by
 have hpn:=yy_nil
 have hq:=yeq0
 have hfi:=field_ins10
 go_enter Tryz.func7,Tryz.ntmps7
 go_upto_region 2 with (first | (go_at_call 8;refine (ynew_any w).mono ?_;rintro e w1 ⟨rfl,rfl⟩))
 obtain ⟨w1,hw1⟩:∃ w1,w1=w.alloc (.cells #[.pointer none,.int .i64 0] 94):=⟨_,rfl⟩
 have K1:Same0 w w1:=by rw [hw1];exact (Kept.refl _ _).alloc _
 have H1:SyAt w1 w.heap.size none 0 [] []:=⟨by rw [hw1];exact heap_alloc_new _ _,.inl ⟨rfl,rfl,rfl⟩⟩
 have hyw:w.heap.size<w1.heap.size:=lt_of_at H1.blk
 rw [← hw1]
 clear hw1
 have sx:=syms10_at w1 60
 have kx:Same0 w1 (w1.alloc (.cells #[.string ⟨#[122]⟩,.int .i64 0,.bool false,.string ⟨#[115]⟩,.int .i64 1,.bool false,.string ⟨#[97,100,100]⟩,.int .i64 2,.bool true] 60)):=(Kept.refl _ _).alloc _
 have CA:=yAddSymbols_any (cap:=3) (H1.same kx) (GoodR.nil []) sx (by decide)
 go_upto_region 5 with (first | (go_at_call 20;refine CA.mono ?_;rintro e w2 ⟨ws,v,rfl,hA,hF,⟨sp2,L2,hS2,hy2, -⟩,hk2⟩))
 obtain rfl:=hA.uniq syms10
 obtain ⟨rfl,rfl⟩:=hy2 rfl
 rw [List.nil_append] at hS2
 have K2:Same0 w w2:=Kept.trans (K1.trans' kx) hk2 (fun i hi e=>by omega)
 clear CA hA hF hy2 hk2 sx kx H1
 have sx:=qz10_at w2 60
 have kx:Same0 w2 (w2.alloc (.cells #[.string ⟨#[113]⟩,.int .i64 0,.bool false,.string ⟨#[122]⟩,.int .i64 0,.bool false] 60)):=(Kept.refl _ _).alloc _
 have CA:=yAddSymbols_any (cap:=2) (hS2.same kx) (GoodR.nil L10) sx (by decide)
 go_upto_region 6 with (first | (go_at_call 20;refine CA.mono ?_;rintro e w3 ⟨ws,v,rfl,hA,hF,⟨sp3,L3', hS3, -,hy3⟩,hk3⟩))
 obtain rfl:=hA.uniq twice10
 obtain ⟨⟨kb,rfl⟩,rfl,hs3⟩:=hy3 (by simp)
 have K3:Same0 w w3:=(K2.trans' kx).trans' hs3
 clear CA hA hy3 hk3 sx kx hS2 hs3
 obtain ⟨ra,ka⟩:=rs_two w3 [2,0, -1] [-1] [2,1, -1, -2] [1,2, -1, -2] 3 3 3 3 90 (by decide) (by decide) (by decide) (by decide) rfl rfl rfl rfl rfl
 have CA:=yAddRules_any (hE.same (K3.trans' ka)) (hS3.same ka) (by omega) (l:=R10) (lc:=2) ra (by decide) (by decide)
 have hF3:=FltAt.same ka hF
 go_upto_region 7 with (first | (go_at_call 21;refine CA.mono ?_;rintro e w4 ⟨ws,v,rfl,hA,hF4,⟨sp4,V4,R4,hS4,hy4, -⟩,hk4⟩))
 obtain rfl:=hA.uniq y10_a
 obtain ⟨rfl,rfl,rfl⟩:=hy4 rfl
 rw [List.nil_append] at hS4
 have HF4:FltAt w4 [(100,1),(12, -1)] (.iface 114 (.pointer (some ⟨kb,0,none⟩))):=FltAt.keptN hk4 (fun c hc=>by rw [(hS3.same ka).blk] at hc;cases hc) hF3
 have K4:Same0 w w4:=Kept.trans (K3.trans' ka) hk4 (fun i hi e=>by omega)
 clear CA hA hF4 hy4 hk4 hF3 hF hS3 ra ka
 obtain ⟨ra,ka⟩:=rs_one w4 [2, -1,0] [0] 3 3 90 (by decide) (by decide) rfl rfl rfl
 have CA:=yAddRules_any (hE.same (K4.trans' ka)) (hS4.same ka) (by simp) (l:=D10) (lc:=1) ra (by decide) (by decide)
 have HFB:=FltAt.same ka HF4
 go_upto_region 8 with (first | (go_at_call 21;refine CA.mono ?_;rintro e w5 ⟨ws,v,rfl,hA,hF5,⟨sp5,V5,R5,hS5, -,hy5⟩,hk5⟩))
 obtain rfl:=hA.uniq y10_d
 obtain ⟨⟨kd,rfl⟩,rfl,rfl,hs5⟩:=hy5 (by simp)
 have K5:Same0 w w5:=(K4.trans' ka).trans' hs5
 have HFB5:Hid (FltAt w5 [(100,1),(12, -1)] (.iface 114 (.pointer (some ⟨kb,0,none⟩)))):=FltAt.same hs5 HFB
 have HFD5:Hid (FltAt w5 [(101,0),(77,0),(78,0)] (.iface 114 (.pointer (some ⟨kd,0,none⟩)))):=hF5
 have HS5:Hid (∀ ww,Same0 w5 ww→SyAt ww w.heap.size sp5 _ L10 R10):=fun ww hk=>hS5.same hk
 clear CA hA hF5 hy5 hk5 HF4 HFB hS4 hS5 hs5 ra ka
 have W8:=wrs_new w5 [(100,1),(12, -1)] #[.int .i64 100,.int .i64 1,.int .i64 12,.int .i64 (-1)] 72 rfl (fun i hi=>by have hi' : i<2:=hi;match i,hi' with | 0,_=>exact ⟨rfl,rfl⟩ | 1,_=>exact ⟨rfl,rfl⟩) 2 rfl
 have k8:Same0 w5 (w5.alloc (.cells #[.int .i64 100,.int .i64 1,.int .i64 12,.int .i64 (-1)] 72)):=(Kept.refl _ _).alloc _
 have C8:=same_fltN (HFB5.out.same k8) W8 (by decide)
 go_upto_region 9 with (first | (go_at_call 35;refine C8.mono ?_;rintro e w6 ⟨rfl,k6⟩))
 have K56:Same0 w5 w6:=k8.trans' k6
 clear C8 W8 k8 k6
 have W9:=wrs_new w6 [(101,0),(77,0),(78,0)] #[.int .i64 101,.int .i64 0,.int .i64 77,.int .i64 0,.int .i64 78,.int .i64 0] 72 rfl (fun i hi=>by have hi' : i<3:=hi;match i,hi' with | 0,_=>exact ⟨rfl,rfl⟩ | 1,_=>exact ⟨rfl,rfl⟩ | 2,_=>exact ⟨rfl,rfl⟩) 3 rfl
 have k9:Same0 w6 (w6.alloc (.cells #[.int .i64 101,.int .i64 0,.int .i64 77,.int .i64 0,.int .i64 78,.int .i64 0] 72)):=(Kept.refl _ _).alloc _
 have C9:=same_fltN (HFD5.out.same (K56.trans' k9)) W9 (by decide)
 go_upto_region 10 with (first | (go_at_call 35;refine C9.mono ?_;rintro e w7 ⟨rfl,k7⟩))
 have K57:Same0 w5 w7:=(K56.trans' k9).trans' k7
 have C10:=yversion_any (HS5.out w7 K57)
 have C11:=ycode_any (HS5.out w7 K57) aw10_all
 rw [show (cmpS L10 R10 L10.length).1.1.length=6 from aw10_cmp] at C11
 have FIN:Hid (Same0 w w7):=K5.trans' K57
 clear C9 W9 k9 k7 HFB5 HFD5 HS5
 go_wp2_with (first | (go_at_call 15;refine C10.mono ?_;rintro e w8 ⟨rfl,e8⟩;have e9:=e8.symm;subst e9) | (go_at_call 22;refine C11.mono ?_;rintro e w9 ⟨io,ic,po,P,pc,eo,E,ec,ro,rc,rfl,k9⟩))
 go_ret
 exact ⟨by first | rfl | simp,FIN.out.trans' k9⟩
structure TwV (w0 w:World) (y m:Nat) (sp so:Option Addr) (sc V:Nat) (L:List Sym) (R:List Ru) (lv:Value) (vs:List Value):Prop where
 sy:SyAt w y sp V L R
 ry:RyAt w m so sc V L R lv vs
 good:GoodR L R
 y0:w0.heap.size≤y
 m0:w0.heap.size≤m
 same:Same0 w0 w
theorem TwV.ne {w0 w:World} {y m:Nat} {sp so:Option Addr} {sc V:Nat} {L:List Sym} {R:List Ru} {lv:Value} {vs:List Value} (h:TwV w0 w y m sp so sc V L R lv vs):y≠m:=fun e=>by
 have:=h.sy.blk
 rw [e,h.ry.blk] at this
 cases this
theorem TwV.ryAt {w0 w w1:World} {y m:Nat} {sp so:Option Addr} {sc V:Nat} {L:List Sym} {R:List Ru} {lv:Value} {vs:List Value} (h:TwV w0 w y m sp so sc V L R lv vs) (hk:Kept (fun q=>q=y) w w1):RyAt w1 m so sc V L R lv vs∧Same0 w0 w1:=
 ⟨h.ry.keptY hk h.sy.far (fun e=>h.ne e.symm),Kept.trans h.same hk (fun i hi e=>by have e' : i=y:=e;have:=h.y0;omega)⟩
theorem TwV.rules {w0 w w1 w2:World} {y m:Nat} {sp so:Option Addr} {sc V:Nat} {L:List Sym} {R:List Ru} {lv:Value} {vs:List Value} (h:TwV w0 w y m sp so sc V L R lv vs) {l:List Ru} {ws:List (Int × Int)} {v:Value} (h1:YRPost L R l V y w ws v w1) {e:Ending} (h2:RyPost m so sc V L R l w1 e w2) :
  ∃ v', e=.returned v' ∧ FltAt w2 ws v∧WrsAt w2 v' ws∧ws.length≤3∧(ws=[]∧v=.nilIface∨ws≠[]∧∃ k,v=.iface 114 (.pointer (some ⟨k,0,none⟩)))∧∃ sp' V' R' lv' vs', V' ≤ V+1∧TwV w0 w2 y m sp' so sc V' L R' lv' vs' := by
 obtain ⟨a1,a2,⟨sp', V', R', a3,a4,a5⟩,a6⟩:=h1
 obtain ⟨ws', v', rfl,b1,b2,b3,V'', R'', lv', vs', b4,b5,b6⟩:=h2
 obtain rfl:=a1.uniq b1
 have hne:=h.ne
 have hf1:FarY w1 m:=(h.ry.keptY a6 h.sy.far (fun e=>hne e.symm)).far
 have eR:R'' = R' ∧ V'' = V' ∧ V' ≤ V+1∧GoodR L R'' ∧ (ws=[]∧v=.nilIface∨ws≠[]∧∃ k,v=.iface 114 (.pointer (some ⟨k,0,none⟩))):=by
  by_cases q:ws=[]
  ·obtain ⟨q1,q2⟩:=b5 q
   obtain ⟨q5,q3,q4⟩:=a4 q
   refine ⟨by rw [q1,q3],by rw [q2,q4],by rw [q4];split <;> omega,?_,.inl ⟨q,q5⟩⟩
   rw [q1]
   rw [q] at a1
   exact h.good.add a1.good.1
  ·obtain ⟨q1,q2,_⟩:=b6 q
   obtain ⟨q5,q3,q4,_⟩:=a5 q
   exact ⟨by rw [q1,q3],by rw [q2,q4],by omega,by rw [q1];exact h.good,.inr ⟨q,q5⟩⟩
 obtain ⟨rfl,rfl,hV,hg,hv⟩:=eR
 have hs1:Same0 w0 w1:=Kept.trans h.same a6 (fun i hi e=>by have e' : i=y:=e;have:=h.y0;omega)
 exact ⟨v', rfl,FltAt.keptN b3 hf1.no.2.2.2.2.1 a2,b2,a1.len3,hv,sp', _,_,lv', vs', hV,⟨a3.keptM b3 hf1 hne,b4,hg,h.y0,h.m0,Kept.trans hs1 b3 (fun i hi e=>by have e' : i=m:=e;have:=h.m0;omega)⟩⟩
set_option maxHeartbeats 32000000 in
theorem wraps10_walk {w:World} (hE:ErrT w) (IS:∀ {ww:World} {ws:List (Int × Int)} {v:Value},FltAt ww ws v→ws.length≤3→∀ d:Int,Calls Tryz.prog 27 #[v,.iface 70 (.int .i64 d)] ww fun e w' => e=.returned (.bool (bears ws d))∧w' = ww) {ao:Option Addr} {xs:List Sym} {cap:Nat} (hx:SymsAt w ao xs.length xs) (hm:xs.length≤maxLen) {lo:Option Addr} {lc:Nat} {l:List Ru} (hl:ArgR w lo l lc) (hln:lo=none→lc=0) {ro:Option Addr} {rc:Nat} {r:List Ru} (hr:ArgR w ro r rc) (hrn:ro=none→rc=0) :
  Calls Tryz.prog 5 #[.slice ao xs.length cap,.slice lo l.length lc,.slice ro r.length rc] w fun e w' => e=.returned (.bool true)∧Below w.heap.size w w' := by
 have hpn:=ym_nil
 have sz1:=hl.size
 have sz2:=hr.size
 have cp1:=hl.cap'
 have cp2:=hr.cap'
 have HX:Hid (∀ ww,Same0 w ww→SymsAt ww ao xs.length xs):=fun ww hk=>hx.kept hk.below
 have HL:Hid (∀ ww,Same0 w ww→RsAt ww lo l):=fun ww hk=>hl.at'.same hk
 have HR:Hid (∀ ww,Same0 w ww→RsAt ww ro r):=fun ww hk=>hr.at'.same hk
 have HE:Hid (∀ ww,Same0 w ww→ErrT ww):=fun ww hk=>hE.same hk
 have CA0:=awake10_any hE
 clear hx hl hr hE
 go_enter Tryz.func5,Tryz.ntmps5
 go_upto_region 2 with (first | (go_at_call 7;refine CA0.mono ?_;rintro e w0 ⟨rfl,k0⟩))
 clear CA0
 go_upto_region 3 with (first | (go_at_call 8;refine (ynew_any w0).mono ?_;rintro e w1 ⟨rfl,rfl⟩))
 obtain ⟨w1,hw1⟩:∃ w1,w1=w0.alloc (.cells #[.pointer none,.int .i64 0] 94):=⟨_,rfl⟩
 have K1:Same0 w0 w1:=by rw [hw1];exact (Kept.refl _ _).alloc _
 have H1:SyAt w1 w0.heap.size none 0 [] []:=⟨by rw [hw1];exact heap_alloc_new _ _,.inl ⟨rfl,rfl,rfl⟩⟩
 rw [← hw1]
 clear hw1
 obtain ⟨w2,hw2⟩:∃ w2,w2=w1.alloc (.cells #[.slice none 0 0,.slice none 0 0,.int .i64 0] 31):=⟨_,rfl⟩
 have K2:Same0 w1 w2:=by rw [hw2];exact (Kept.refl _ _).alloc _
 have H2:RyAt w2 w1.heap.size none 0 0 [] [] (.slice none 0 0) []:=⟨by rw [hw2];exact heap_alloc_new _ _,⟨World.ownsRow_nil _ _ _ _,(fun q e=>by cases e),ars_nil,by simp⟩,World.ownsRow_nil _ _ _ _,⟨rfl,fun i hi=>absurd hi (by simp)⟩,by simp,fun x hx=>by simp at hx⟩
 have T0:Hid (TwY w w2 w0.heap.size w1.heap.size none none 0 [] [] (.slice none 0 0) []):=⟨H1.same K2,H2,GoodR.nil [],k0.size,Nat.le_trans k0.size K1.size,(k0.trans' K1).trans' K2⟩
 go_upto_region 4 with fail
 rw [← hw2]
 clear hw2 H1 H2
 generalize w0.heap.size=y at *
 generalize w1.heap.size=m at *
 clear K1 K2 k0
 have CA:Calls Tryz.prog 20 #[.pointer (some ⟨y,0,none⟩),.slice ao xs.length cap] w2 fun e w' => ∃ ws v,e=.returned v∧YSPost [] xs [] 0 y w2 ws v w' := yAddSymbols_any T0.out.sy T0.out.good (HX.out w2 T0.out.same) hm
 go_upto_region 7 with (first | (go_at_call 20;refine CA.mono ?_;rintro e w3 ⟨wsA,vA,rfl,hA⟩))
 have CB:=raddS10_any (cap:=cap) (T0.out.ryAt hA.2.2.2).1 (HX.out w3 (T0.out.ryAt hA.2.2.2).2) hm
 have HA:Hid (YSPost [] xs [] 0 y w2 wsA vA w3):=hA
 clear CA hA
 go_upto_region 8 with (first | (go_at_call 25;refine CB.mono ?_;rintro e w4 h4;obtain ⟨v4,rfl,_,_,_,sp4,so4,sc4,L4,hT4,_,_⟩:=T0.out.syms HA.out h4))
 have T4:Hid (TwV w w4 y m sp4 so4 sc4 0 L4 [] (.slice none 0 0) []):=⟨hT4.sy,hT4.ry,hT4.good,hT4.y0,hT4.m0,hT4.same⟩
 clear CB HA h4 hT4 T0
 have CC:Calls Tryz.prog 21 #[.pointer (some ⟨y,0,none⟩),.slice lo l.length lc] w4 fun e w' => ∃ ws v,e=.returned v∧YRPost L4 [] l 0 y w4 ws v w' := yAddRules_any (HE.out w4 T4.out.same) T4.out.sy (by omega) (HL.out w4 T4.out.same) (by omega) cp1
 go_upto_region 9 with (first | (go_at_call 21;refine CC.mono ?_;rintro e w5 ⟨wsC,vC,rfl,hC⟩))
 have CD:=radd10_any (lc:=lc) (T4.out.ryAt hC.2.2.2).1 (by omega) (HL.out w5 (T4.out.ryAt hC.2.2.2).2) (by omega) hln
 have HC:Hid (YRPost L4 [] l 0 y w4 wsC vC w5):=hC
 clear CC hC
 go_upto_region 10 with (first | (go_at_call 26;refine CD.mono ?_;rintro e w6 h6;obtain ⟨v6,rfl,_,_,_,_,sp6,V6,R6,lv6,vs6,hV6,hT6⟩:=T4.out.rules HC.out h6))
 have T6:Hid (TwV w w6 y m sp6 so4 sc4 V6 L4 R6 lv6 vs6):=hT6
 clear CD HC h6 hT6 T4
 have CE:Calls Tryz.prog 21 #[.pointer (some ⟨y,0,none⟩),.slice ro r.length rc] w6 fun e w' => ∃ ws v,e=.returned v∧YRPost L4 R6 r V6 y w6 ws v w' := yAddRules_any (HE.out w6 T6.out.same) T6.out.sy (by omega) (HR.out w6 T6.out.same) (by omega) cp2
 go_upto_region 11 with (first | (go_at_call 21;refine CE.mono ?_;rintro e w7 ⟨ws5,v4,rfl,hG⟩))
 have CF:=radd10_any (lc:=rc) (T6.out.ryAt hG.2.2.2).1 (by omega) (HR.out w7 (T6.out.ryAt hG.2.2.2).2) (by omega) hrn
 have HG:Hid (YRPost L4 R6 r V6 y w6 ws5 v4 w7):=hG
 clear CE hG
 go_upto_region 12 with (first | (go_at_call 26;refine CF.mono ?_;rintro e w8 h8;obtain ⟨v8,rfl,f8,g8,len8,hv8,sp8,V8,R8,lv8,vs8,_,hT8⟩:=T6.out.rules HG.out h8))
 have K8:=hT8.same
 obtain ⟨vo,vc,rfl,hv5'⟩:=id g8
 obtain ⟨z4,e4,g4,i4⟩:=err_bool (hv8.imp (fun q=>q.2) (fun q=>q.2))
 have HZ:Hid (z4=decide (ws5.length=0)):=by
  show _=_
  rcases hv8 with ⟨rfl,rfl⟩ | ⟨hne,k,rfl⟩
  ·rw [i4.2 rfl];rfl
  ·cases z4
   ·have:¬ ws5.length=0:=fun e=>hne (List.eq_nil_of_length_eq_zero e)
    simp [this]
   ·exact absurd (i4.1 rfl) (by simp)
 have FIN:Hid (∀ ww,Same0 w8 ww→Below w.heap.size w ww):=fun ww hk=>(K8.trans' hk).below
 have CI:Hid (∀ (i:Nat) (h:i<ws5.length) ww,Same0 w8 ww→Calls Tryz.prog 27 #[v4,.iface 70 (.int .i64 ws5[i].1)] ww fun e w' => e=.returned (.bool true)∧w' = ww):=fun i hi ww hk=>(IS (FltAt.same hk f8) len8 ws5[i].1).mono (fun e w' ⟨q1,q2⟩=>⟨by rw [q1];congr 2;simp only [bears,decide_eq_true_eq,List.mem_map];exact ⟨_,List.getElem_mem hi,rfl⟩,q2⟩)
 have M0:Same0 w8 w8:=Kept.refl _ _
 clear CF HG h8 hT8 T6 f8 g8 i4 hv8 K8 HX HL HR HE IS hpn sz1 sz2 cp1 cp2 hln hrn hm hV6
 go_wp2_with fail
 go_loopw [12] (fun i wr=>∃ k:Nat,k≤ws5.length∧i=.int .i64 (k:Int)∧Same0 w8 wr) (fun i _=>ws5.length-(intOf i).toNat)
 case atStart=>exact ⟨0,Nat.zero_le _,rfl,M0⟩
 case round=>
  clear M0
  obtain ⟨k,hk,rfl,hs⟩:=hrel
  by_cases hlt:k<ws5.length
  ·obtain ⟨vb,rfl,hvb,hc⟩:∃ b,vo=some ⟨b,0,none⟩∧b<w8.heap.size∧∀ i (h:i<ws5.length),w8.cell? ⟨b,i * 2,none⟩=some (.int .i64 ws5[i].1)∧w8.cell? ⟨b,i * 2+1,none⟩=some (.int .i64 ws5[i].2):=by
    rcases hv5' with e | e
    ·rw [e] at hlt;simp at hlt
    ·exact e
   have c0:=(hs.cell (p:=⟨vb,k * 2,none⟩) hvb (fun f=>f)).trans (hc k hlt).1
   have i1:(0:Int)≤(k:Int):=by omega
   have i2:(k:Int)<(ws5.length:Int):=by omega
   have C:=CI.out k hlt _ hs
   clear hc CI e4 g4
   go_wp2_with (first | (go_at_call 27;refine C.mono ?_;rintro e w6 ⟨rfl,rfl⟩))
   exact ⟨⟨k+1,by omega,by go_num,hs⟩,by simp [intOf];omega⟩
  ·have hlt' : ¬ (k:Int)<(ws5.length:Int):=by omega
   clear CI hv5'
   by_cases hz:ws5.length=0
   ·have e1:z4=true:=by rw [HZ.out];simp [hz]
    subst e1
    have hz' : ((ws5.length:Int) == 0)=true:=by rw [beq_iff_eq];omega
    clear HZ
    go_wp2
    go_ret
    exact ⟨by first | rfl | simp,FIN.out _ hs⟩
   ·have e1:z4=false:=by rw [HZ.out];simp [hz]
    subst e1
    have hz' : ((ws5.length:Int) == 0)=false:=by rw [beq_eq_false_iff_ne];omega
    clear HZ
    go_wp2
    go_ret
    exact ⟨by first | rfl | simp,FIN.out _ hs⟩
end Go.Proofs.YtmjgnfkbnofjoaaGreatDoor
namespace Go.Proofs.YtmjgnfkbnofjoaaGreatDoor
open Go.RowKit
set_option maxRecDepth 100000
set_option linter.unusedVariables false
set_option maxHeartbeats 4000000 in
theorem is_fault_two_one {w:World} {b b' : Nat} {c p c' p' k:Int} (h:w.heap[b]? = some (.cells #[.int .i64 c,.int .i64 p,.iface 114 (.pointer (some ⟨b', 0,none⟩))] 116 (0,0))) (h' : w.heap[b']? = some (.cells #[.int .i64 c', .int .i64 p', .iface 70 (.int .i64 k)] 116 (0,0))) (d:Int) :
  Calls Tryz.prog 27 #[.iface 114 (.pointer (some ⟨b,0,none⟩)),.iface 70 (.int .i64 d)] w fun e w' => e=.returned (.bool (((d == c) || d == c') || k == d))∧w' = w:=by
 have h8:=@run_callFunc_extern Tryz.prog 56 _ Extern.ReflectliteType.typeOf Tryz.func56 (by kernel_rfl) (by kernel_rfl) (by kernel_rfl) (by kernel_rfl)
 have tT:=is_typeOf
 have cT:=is_comparable
 have mR:=is_mComparable
 have nE:=is_hasIs
 have uE:=is_hasUnwrap
 have m1:=is_mIs
 have m2:=is_mUnwrap
 have eq:=is_eqF
 have c1:=fIs_any h d
 have c2:=fUnwrap_any h
 have c3:=fIs_any h' d
 have c4:=fUnwrap_any h'
 have eqk:=is_eqE k d w
 have nE' := is_noIs
 have uE' := is_noUnwrap
 have vE' := is_noUnwraps
 clear h' h
 generalize (d == c)=r at *
 generalize (d == c')=q at *
 generalize (k == d)=s at *
 rcases Bool.eq_false_or_eq_true r with rfl | rfl
 ·simp only [Bool.true_or]
  clear c2
  go_enter Tryz.func27,Tryz.ntmps27
  go_wp2
  refine wp_loop_rounds 3 ?_
  rw [rounds_succ]
  go_wp2_with (first | (go_at_call 259;refine c1.mono ?_;rintro e w' ⟨rfl,rfl⟩))
  go_ret
  exact ⟨rfl,rfl⟩
 rcases Bool.eq_false_or_eq_true q with rfl | rfl
 ·simp only [Bool.false_or,Bool.true_or]
  clear c4
  go_enter Tryz.func27,Tryz.ntmps27
  go_wp2
  refine wp_loop_rounds 3 ?_
  rw [rounds_succ]
  go_wp2_with (first | (go_at_call 259;refine c1.mono ?_;rintro e w' ⟨rfl,rfl⟩) | (go_at_call 260;refine c2.mono ?_;rintro e w' ⟨rfl,rfl⟩))
  rw [rounds_succ]
  go_wp2_with (first | (go_at_call 259;refine c3.mono ?_;rintro e w' ⟨rfl,rfl⟩))
  go_ret
  exact ⟨rfl,rfl⟩
 rcases Bool.eq_false_or_eq_true s with rfl | rfl
 ·simp only [Bool.false_or]
  go_enter Tryz.func27,Tryz.ntmps27
  go_wp2
  refine wp_loop_rounds 3 ?_
  rw [rounds_succ]
  go_wp2_with (first | (go_at_call 259;refine c1.mono ?_;rintro e w' ⟨rfl,rfl⟩) | (go_at_call 260;refine c2.mono ?_;rintro e w' ⟨rfl,rfl⟩))
  rw [rounds_succ]
  go_wp2_with (first | (go_at_call 259;refine c3.mono ?_;rintro e w' ⟨rfl,rfl⟩) | (go_at_call 260;refine c4.mono ?_;rintro e w' ⟨rfl,rfl⟩))
  rw [rounds_succ]
  go_wp2
  go_ret
  exact ⟨rfl,rfl⟩
 ·simp only [Bool.false_or]
  go_enter Tryz.func27,Tryz.ntmps27
  go_wp2
  refine wp_loop_rounds 3 ?_
  rw [rounds_succ]
  go_wp2_with (first | (go_at_call 259;refine c1.mono ?_;rintro e w' ⟨rfl,rfl⟩) | (go_at_call 260;refine c2.mono ?_;rintro e w' ⟨rfl,rfl⟩))
  rw [rounds_succ]
  go_wp2_with (first | (go_at_call 259;refine c3.mono ?_;rintro e w' ⟨rfl,rfl⟩) | (go_at_call 260;refine c4.mono ?_;rintro e w' ⟨rfl,rfl⟩))
  rw [rounds_succ]
  go_wp2
  go_ret
  exact ⟨rfl,rfl⟩
set_option maxHeartbeats 4000000 in
theorem is_fault_three {w:World} {b b' b'' : Nat} {c p c' p' c'' p'' : Int} (h:w.heap[b]? = some (.cells #[.int .i64 c,.int .i64 p,.iface 114 (.pointer (some ⟨b', 0,none⟩))] 116 (0,0))) (h' : w.heap[b']? = some (.cells #[.int .i64 c', .int .i64 p', .iface 114 (.pointer (some ⟨b'', 0,none⟩))] 116 (0,0))) (h'' : w.heap[b'']? = some (.cells #[.int .i64 c'', .int .i64 p'', .nilIface] 116 (0,0))) (d:Int) :
  Calls Tryz.prog 27 #[.iface 114 (.pointer (some ⟨b,0,none⟩)),.iface 70 (.int .i64 d)] w fun e w' => e=.returned (.bool (((d == c) || d == c') || d == c''))∧w' = w:=by
 have h8:=@run_callFunc_extern Tryz.prog 56 _ Extern.ReflectliteType.typeOf Tryz.func56 (by kernel_rfl) (by kernel_rfl) (by kernel_rfl) (by kernel_rfl)
 have tT:=is_typeOf
 have cT:=is_comparable
 have mR:=is_mComparable
 have nE:=is_hasIs
 have uE:=is_hasUnwrap
 have m1:=is_mIs
 have m2:=is_mUnwrap
 have eq:=is_eqF
 have c1:=fIs_any h d
 have c2:=fUnwrap_any h
 have c3:=fIs_any h' d
 have c4:=fUnwrap_any h'
 have c5:=fIs_any h'' d
 have c6:=fUnwrap_any h''
 clear h'' h' h
 generalize (d == c)=r at *
 generalize (d == c')=q at *
 generalize (d == c'')=s at *
 rcases Bool.eq_false_or_eq_true r with rfl | rfl
 ·simp only [Bool.true_or]
  clear c2
  go_enter Tryz.func27,Tryz.ntmps27
  go_wp2
  refine wp_loop_rounds 3 ?_
  rw [rounds_succ]
  go_wp2_with (first | (go_at_call 259;refine c1.mono ?_;rintro e w' ⟨rfl,rfl⟩))
  go_ret
  exact ⟨rfl,rfl⟩
 rcases Bool.eq_false_or_eq_true q with rfl | rfl
 ·simp only [Bool.false_or,Bool.true_or]
  clear c4
  go_enter Tryz.func27,Tryz.ntmps27
  go_wp2
  refine wp_loop_rounds 3 ?_
  rw [rounds_succ]
  go_wp2_with (first | (go_at_call 259;refine c1.mono ?_;rintro e w' ⟨rfl,rfl⟩) | (go_at_call 260;refine c2.mono ?_;rintro e w' ⟨rfl,rfl⟩))
  rw [rounds_succ]
  go_wp2_with (first | (go_at_call 259;refine c3.mono ?_;rintro e w' ⟨rfl,rfl⟩))
  go_ret
  exact ⟨rfl,rfl⟩
 rcases Bool.eq_false_or_eq_true s with rfl | rfl
 ·simp only [Bool.false_or]
  clear c6
  go_enter Tryz.func27,Tryz.ntmps27
  go_wp2
  refine wp_loop_rounds 3 ?_
  rw [rounds_succ]
  go_wp2_with (first | (go_at_call 259;refine c1.mono ?_;rintro e w' ⟨rfl,rfl⟩) | (go_at_call 260;refine c2.mono ?_;rintro e w' ⟨rfl,rfl⟩))
  rw [rounds_succ]
  go_wp2_with (first | (go_at_call 259;refine c3.mono ?_;rintro e w' ⟨rfl,rfl⟩) | (go_at_call 260;refine c4.mono ?_;rintro e w' ⟨rfl,rfl⟩))
  rw [rounds_succ]
  go_wp2_with (first | (go_at_call 259;refine c5.mono ?_;rintro e w' ⟨rfl,rfl⟩))
  go_ret
  exact ⟨rfl,rfl⟩
 ·simp only [Bool.false_or]
  go_enter Tryz.func27,Tryz.ntmps27
  go_wp2
  refine wp_loop_rounds 3 ?_
  rw [rounds_succ]
  go_wp2_with (first | (go_at_call 259;refine c1.mono ?_;rintro e w' ⟨rfl,rfl⟩) | (go_at_call 260;refine c2.mono ?_;rintro e w' ⟨rfl,rfl⟩))
  rw [rounds_succ]
  go_wp2_with (first | (go_at_call 259;refine c3.mono ?_;rintro e w' ⟨rfl,rfl⟩) | (go_at_call 260;refine c4.mono ?_;rintro e w' ⟨rfl,rfl⟩))
  rw [rounds_succ]
  go_wp2_with (first | (go_at_call 259;refine c5.mono ?_;rintro e w' ⟨rfl,rfl⟩) | (go_at_call 260;refine c6.mono ?_;rintro e w' ⟨rfl,rfl⟩))
  go_ret
  exact ⟨rfl,rfl⟩
theorem is_any3 {w:World} {ws:List (Int × Int)} {v:Value} (h:FltAt w ws v) (h2:ws.length≤3) (d:Int) :
  Calls Tryz.prog 27 #[v,.iface 70 (.int .i64 d)] w fun e w' => e=.returned (.bool (bears ws d))∧w' = w:=by
 match ws,h2 with
 | [],_=>exact is_any h (by simp) d
 | [a],_=>exact is_any h (by simp) d
 | [a,a'],_=>exact is_any h (by simp) d
 | [(c,p),(c', p'),(c'', p'')],_=>
  rcases h with ⟨_,e,_⟩ | ⟨_,b,u,rfl,h1,hu⟩
  ·cases e
  rcases hu with ⟨_,e,_⟩ | ⟨_,b', u', rfl,h1', hu'⟩
  ·cases e
  rcases hu' with ⟨rfl,_,rfl⟩ | ⟨_,b'', u'', rfl,h1'', hu''⟩
  ·refine (is_fault_two_one h1 h1' d).mono ?_
   rintro e w' ⟨rfl,rfl⟩
   refine ⟨ret_bool ?_,rfl⟩
   have e3:(c'' == d)=(d == c''):=by rw [Bool.eq_iff_iff,beq_iff_eq,beq_iff_eq];exact eq_comm
   rw [e3]
   by_cases e:d=c <;> by_cases e' : d=c' <;> by_cases e'' : d=c'' <;> simp [bears,e,e', e'']
  ·obtain rfl:u'' = .nilIface:=hu''
   refine (is_fault_three h1 h1' h1'' d).mono ?_
   rintro e w' ⟨rfl,rfl⟩
   refine ⟨ret_bool ?_,rfl⟩
   by_cases e:d=c <;> by_cases e' : d=c' <;> by_cases e'' : d=c'' <;> simp [bears,e,e', e'']
end Go.Proofs.YtmjgnfkbnofjoaaGreatDoor
