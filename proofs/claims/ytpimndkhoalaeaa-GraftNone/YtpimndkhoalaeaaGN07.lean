import Derived.Test.YtpimndkhoalaeaaGN06
namespace Go.Proofs.Ytpimndkhoalaeaa
set_option maxRecDepth 100000
set_option linter.unusedVariables false
open Go.RowKit
attribute [local go_sem ↓] Go.wp_at_zero Go.wp_at_succ
theorem gres_none (w:World):Calls Try.prog 33 #[.pointer none,.int .i64 0] w fun e w' => e=.returned (.tuple #[.int .i64 0,.int .i64 1])∧Same0 w w' := by
 have k1:Same0 w (w.alloc (.cells #[.int .i64 0] 3)):=(Kept.refl _ _).alloc _
 have C:=refusal_none (.slice (some ⟨w.heap.size,0,none⟩) 1 1) (w.alloc (.cells #[.int .i64 0] 3))
 go_enter Try.func33,Try.ntmps33
 go_wp2_with (first | (go_at_call 69;refine C.mono ?_;rintro e w' ⟨rfl,rfl⟩))
 go_ret2
 exact ⟨rfl,k1⟩
set_option maxHeartbeats 2000000 in
theorem appl_none (w:World):Calls Try.prog 61 #[.pointer none,.int .i64 0] w fun e w' => e=.returned (.tuple #[.int .i64 0,nodeV (0,[],0,false,0) none 0,.int .i64 1])∧Same0 w w' := by
 obtain ⟨W0,hW0⟩:∃ W0,W0=w.alloc (.cells #[.int .i64 0,.slice none 0 0,.int .i64 0,.bool false,.int .i64 0] 71):=⟨_,rfl⟩
 have k0:Same0 w W0:=by rw [hW0];exact (Kept.refl _ w).alloc _
 have hb:W0.heap[w.heap.size]? = some (.cells #[.int .i64 0,.slice none 0 0,.int .i64 0,.bool false,.int .i64 0] 71 (0,0)):=by rw [hW0];exact heap_alloc_new w _
 have C:=gres_none W0
 have HB:Hid (∀ ww,Same0 W0 ww→ww.heap[w.heap.size]? = some (.cells #[.int .i64 0,.slice none 0 0,.int .i64 0,.bool false,.int .i64 0] 71 (0,0))∧Same0 w ww):=fun ww hk=>⟨hk.at0 hb,k0.trans' hk⟩
 clear k0 hb
 go_enter Try.func61,Try.ntmps61
 go_upto_region 1 with fail
 rw [← hW0]
 clear hW0
 go_wp2_with (first | (go_at_call 33;refine C.mono ?_;rintro e w1 ⟨rfl,k1⟩;obtain ⟨q,k2⟩:=HB.out w1 k1;obtain ⟨b0,b1,b2,b3,b4⟩:=box5 q;obtain ⟨g0,g1,g2,g3,g4⟩:=free5 q;clear q C))
 have K5:=put5_kept w1 w.heap.size 0 (.int .i64 0) (.slice none 0 0) (.int .i64 0) (.bool false) (.int .i64 0)
 exact bodyPost_ret (v:=.tuple #[.int .i64 0,nodeV (0,[],0,false,0) none 0,.int .i64 1]) (by simp [results,Try.results61,go_sem,b0,b1,b2,b3,b4,nodeV]) rfl ⟨rfl,k2.trans K5 (fun i hi e=>by omega)⟩
set_option maxHeartbeats 2000000 in
theorem head_none (w:World):Calls Try.prog 29 #[.agg #[.pointer none],.int .i64 0] w fun e w' => e=.returned (.tuple #[.int .i64 (-1),.bool false])∧Same0 w w' := by
 obtain ⟨W0,hW0⟩:∃ W0,W0=w.alloc (.cells #[.pointer none] 79):=⟨_,rfl⟩
 have k0:Same0 w W0:=by rw [hW0];exact (Kept.refl _ w).alloc _
 have b0:W0.cell? ⟨w.heap.size,0,none⟩=some (.pointer none):=by rw [hW0];exact cellAt (heap_alloc_new w _) 0
 have C:=appl_none W0
 go_enter Try.func29,Try.ntmps29
 go_upto_region 1 with fail
 rw [← hW0]
 clear hW0
 go_wp2_with (first | (go_at_call 61;refine C.mono ?_;rintro e w1 ⟨rfl,k1⟩))
 go_ret2
 exact ⟨rfl,(k0.trans' k1).trans' ((Kept.refl _ w1).alloc _)⟩
set_option maxHeartbeats 2000000 in
theorem arg_none (w:World):Calls Try.prog 30 #[.agg #[.pointer none],.int .i64 0,.int .i64 0] w fun e w' => e=.returned (.int .i64 (-1))∧Same0 w w' := by
 obtain ⟨W0,hW0⟩:∃ W0,W0=w.alloc (.cells #[.pointer none] 79):=⟨_,rfl⟩
 have k0:Same0 w W0:=by rw [hW0];exact (Kept.refl _ w).alloc _
 have b0:W0.cell? ⟨w.heap.size,0,none⟩=some (.pointer none):=by rw [hW0];exact cellAt (heap_alloc_new w _) 0
 have C:=appl_none W0
 go_enter Try.func30,Try.ntmps30
 go_upto_region 1 with fail
 rw [← hW0]
 clear hW0
 go_wp2_with (first | (go_at_call 61;refine C.mono ?_;rintro e w1 ⟨rfl,k1⟩))
 go_ret
 exact ⟨rfl,(k0.trans' k1).trans' ((Kept.refl _ w1).alloc _)⟩
theorem syms_Z (w:World):SymsAt (w.alloc (.cells #[.string ⟨#[122]⟩,.int .i64 0,.bool false] 76)) (some ⟨w.heap.size,0,none⟩) 1 [gZ]:=by
 refine ⟨rfl,.inr ⟨_,_,rfl,by simp,fun i hi=>?_⟩,?_⟩
 ·have hi' : i<1:=by simpa using hi
  rw [cellAt (heap_alloc_new w _),cellAt (heap_alloc_new w _),cellAt (heap_alloc_new w _)]
  match i,hi' with
  | 0,_=>exact ⟨rfl,rfl,rfl⟩
 ·intro x hx
  simp at hx
  rcases hx with rfl
  exact ⟨by decide +kernel,by decide +kernel⟩
theorem eq_flt1 (w:World):(binOp .eql 60 (.agg #[.int .i64 1,.int .i64 0,.int .i64 0,.bool false,.int .i64 0,.int .i64 0]) (.agg #[.int .i64 1,.int .i64 0,.int .i64 0,.bool false,.int .i64 0,.int .i64 0])).run Try.prog w=.ok (.bool true) w:=by kernel_rfl
set_option maxHeartbeats 3000000 in
theorem gnone_walk (w:World):Calls Try.prog 7 #[] w fun e w' => e=.returned (.bool true)∧Below w.heap.size w w' := by
 have CA:=awake13_any w
 have HB:Hid (∀ w', Same0 w w' → Below w.heap.size w w'):=fun w' hk=>hk.below
 have CS:Hid (∀ ww,Calls Try.prog 13 #[.slice (some ⟨ww.heap.size,0,none⟩) 1 1] (ww.alloc (.cells #[.string ⟨#[122]⟩,.int .i64 0,.bool false] 76)) fun e w' => ∃ b rv,e=.returned (.tuple #[.pointer (some ⟨b,0,none⟩),rv])∧Same0 ww w'):=fun ww=>(sign_any (some ⟨ww.heap.size,0,none⟩) 1 1 [gZ] _ (syms_Z ww) (by unfold maxLen;omega)).mono (fun e w' ⟨b,rv,e1,_,_,e4⟩=>⟨b,rv,e1,Same0.trans' ((Kept.refl _ ww).alloc _) e4⟩)
 go_enter Try.func7,Try.ntmps7
 go_upto_region 6 with (first
  | (go_at_call 12;refine CA.mono ?_;rintro e w1 ⟨rfl,k1⟩)
  | (go_at_call 13;refine (CS.out w1).mono ?_;rintro e w2 ⟨sb,rv,rfl,k2⟩)
  | (go_at_call 14;refine (hnew_yes 3 w2 (by omega) (by omega)).mono ?_;rintro e w3 ⟨h,g,rfl,p3,k3,hh,hg⟩))
 have K3:Hid (Same0 w w3):=(k1.trans' k2).trans' k3
 have P3:Hid (HpB (fun _=>False) w3 h g 3 []):=p3
 clear CA CS k1 k2 k3 p3 hh hg
 go_upto_region 7 with (go_at_call 16;refine (load_nil1 _ _ _ _ _).mono ?_;rintro e w4 ⟨v4,rfl,f4,k4⟩)
 go_upto_region 8 with (go_at_call 16;refine (load_nil2 _ _ _ _ _).mono ?_;rintro e w5 ⟨v5,rfl,f5,k5⟩)
 go_upto_region 9 with (go_at_call 22;refine (build_nil1 _ _ _ _ _ _ _ _ _ _ _ _ _ _ _ _).mono ?_;rintro e w6 ⟨v6,rfl,f6,k6⟩)
 go_upto_region 10 with (go_at_call 22;refine (build_nil2 _ _ _ _ _ _ _ _ _ _ _ _ _ _ _ _).mono ?_;rintro e w7 ⟨v7,rfl,f7,k7⟩)
 obtain ⟨b4,rfl,l4,q4⟩:=f4
 obtain ⟨b5,rfl,l5,q5⟩:=f5
 obtain ⟨b6,rfl,l6,q6⟩:=f6
 obtain ⟨b7,rfl,l7,q7⟩:=f7
 simp only [whyV,if_true] at q4 q5 q6 q7
 have s4:=k4.size
 have s5:=k5.size
 have s6:=k6.size
 have s7:=k7.size
 have m4:=lt_of_at q4
 have m5:=lt_of_at q5
 have m6:=lt_of_at q6
 have m7:=lt_of_at q7
 simp only [World.size_alloc] at s4 s5 l4 l5
 have a5:Same0 w4 w5:=Same0.trans' ((Kept.refl _ w4).alloc _) k5
 have KK:Kept (fun k=>w3.heap.size≤k) w3 w7:=(Same0.trans' (Same0.trans' (Same0.trans' (Same0.trans' ((Kept.refl _ w3).alloc _) k4) a5) k6) k7).mono (fun _ _ f=>f.elim)
 have r4:=k7.at0 (k6.at0 (a5.at0 q4))
 have r5:=k7.at0 (k6.at0 q5)
 have r6:=k7.at0 q6
 obtain ⟨X10,hX10⟩:∃ X10,X10=w7.alloc (.cells #[.int .i64 1,.int .i64 0,.int .i64 0,.bool false,.int .i64 0,.int .i64 0] 60):=⟨_,rfl⟩
 have j10:Same0 w7 X10:=by rw [hX10];exact (Kept.refl _ _).alloc _
 have z10:X10.heap.size=w7.heap.size+1:=by rw [hX10];simp
 have n10:X10.heap[w7.heap.size]? = some (.cells #[.int .i64 1,.int .i64 0,.int .i64 0,.bool false,.int .i64 0,.int .i64 0] 60 (0,0)):=by rw [hX10];exact heap_alloc_new _ _
 have C4:=fault_zero (j10.at0 r4)
 go_upto_region 11 with fail
 rw [← hX10]
 clear hX10
 go_upto_region 12 with (go_at_call 23;refine C4.mono ?_;rintro e w11 ⟨rfl,k11⟩;simp only [fltV])
 obtain ⟨X11,hX11⟩:∃ X11,X11=w11.alloc (.cells #[.int .i64 1,.int .i64 0,.int .i64 0,.bool false,.int .i64 0,.int .i64 0] 60):=⟨_,rfl⟩
 have j11:Same0 w11 X11:=by rw [hX11];exact (Kept.refl _ _).alloc _
 have z11:X11.heap.size=w11.heap.size+1:=by rw [hX11];simp
 have n11:X11.heap[w11.heap.size]? = some (.cells #[.int .i64 1,.int .i64 0,.int .i64 0,.bool false,.int .i64 0,.int .i64 0] 60 (0,0)):=by rw [hX11];exact heap_alloc_new _ _
 rw [← hX11]
 clear hX11 C4
 have y11:=k11.size
 have C5:=fault_zero (j11.at0 (k11.at (j10.at0 r5) (by omega)))
 go_upto_region 13 with (go_at_call 23;refine C5.mono ?_;rintro e w12 ⟨rfl,k12⟩;simp only [fltV])
 obtain ⟨X12,hX12⟩:∃ X12,X12=w12.alloc (.cells #[.int .i64 1,.int .i64 0,.int .i64 0,.bool false,.int .i64 0,.int .i64 0] 60):=⟨_,rfl⟩
 have j12:Same0 w12 X12:=by rw [hX12];exact (Kept.refl _ _).alloc _
 have z12:X12.heap.size=w12.heap.size+1:=by rw [hX12];simp
 have n12:X12.heap[w12.heap.size]? = some (.cells #[.int .i64 1,.int .i64 0,.int .i64 0,.bool false,.int .i64 0,.int .i64 0] 60 (0,0)):=by rw [hX12];exact heap_alloc_new _ _
 rw [← hX12]
 clear hX12 C5
 have y12:=k12.size
 have C6:=fault_zero (j12.at0 (k12.at (j11.at0 (k11.at (j10.at0 r6) (by omega))) (by omega)))
 go_upto_region 14 with (go_at_call 23;refine C6.mono ?_;rintro e w13 ⟨rfl,k13⟩;simp only [fltV])
 obtain ⟨X13,hX13⟩:∃ X13,X13=w13.alloc (.cells #[.int .i64 1,.int .i64 0,.int .i64 0,.bool false,.int .i64 0,.int .i64 0] 60):=⟨_,rfl⟩
 have j13:Same0 w13 X13:=by rw [hX13];exact (Kept.refl _ _).alloc _
 have z13:X13.heap.size=w13.heap.size+1:=by rw [hX13];simp
 have n13:X13.heap[w13.heap.size]? = some (.cells #[.int .i64 1,.int .i64 0,.int .i64 0,.bool false,.int .i64 0,.int .i64 0] 60 (0,0)):=by rw [hX13];exact heap_alloc_new _ _
 rw [← hX13]
 clear hX13 C6
 have y13:=k13.size
 have C7:=fault_zero (j13.at0 (k13.at (j12.at0 (k12.at (j11.at0 (k11.at (j10.at0 q7) (by omega))) (by omega))) (by omega)))
 go_upto_region 15 with (go_at_call 23;refine C7.mono ?_;rintro e w14 ⟨rfl,k14⟩;simp only [fltV])
 obtain ⟨X14,hX14⟩:∃ X14,X14=w14.alloc (.cells #[.int .i64 1,.int .i64 0,.int .i64 0,.bool false,.int .i64 0,.int .i64 0] 60):=⟨_,rfl⟩
 have j14:Same0 w14 X14:=by rw [hX14];exact (Kept.refl _ _).alloc _
 have n14:X14.heap[w14.heap.size]? = some (.cells #[.int .i64 1,.int .i64 0,.int .i64 0,.bool false,.int .i64 0,.int .i64 0] 60 (0,0)):=by rw [hX14];exact heap_alloc_new _ _
 rw [← hX14]
 clear hX14 C7
 have y14:=k14.size
 have u13:=j14.at0 (k14.at n13 (by omega))
 have u12:=j14.at0 (k14.at (j13.at0 (k13.at n12 (by omega))) (by omega))
 have u11:=j14.at0 (k14.at (j13.at0 (k13.at (j12.at0 (k12.at n11 (by omega))) (by omega))) (by omega))
 have u10:=j14.at0 (k14.at (j13.at0 (k13.at (j12.at0 (k12.at (j11.at0 (k11.at n10 (by omega))) (by omega))) (by omega))) (by omega))
 have KX:Kept (fun k=>w3.heap.size≤k) w3 X14:=by
  have e1:=KK.trans j10 (fun _ _ f=>f.elim)
  have e2:=(e1.trans k11 (fun i hi e=>by omega)).trans j11 (fun _ _ f=>f.elim)
  have e3:=(e2.trans k12 (fun i hi e=>by omega)).trans j12 (fun _ _ f=>f.elim)
  have e4:=(e3.trans k13 (fun i hi e=>by omega)).trans j13 (fun _ _ f=>f.elim)
  exact (e4.trans k14 (fun i hi e=>by omega)).trans j14 (fun _ _ f=>f.elim)
 have lth:=P3.out.ltH
 have ltg:=P3.out.ltG
 have PX:=P3.out.kept KX (by omega) (by omega) (fun _ f=>f.elim)
 have KW:Hid (Same0 w X14):=K3.out.trans KX (fun i hi e=>by have:=K3.out.size;omega)
 have HC:Hid (∀ ww,Same0 X14 ww→Calls Try.prog 17 #[.pointer (some ⟨h,0,none⟩)] ww fun e w' => e=.returned (.int .i64 0)∧w' = ww):=fun ww hk=>used_any (PX.same hk)
 have HF:Hid (∀ ww,Same0 X14 ww→ww.heap[w7.heap.size]? = some (.cells #[.int .i64 1,.int .i64 0,.int .i64 0,.bool false,.int .i64 0,.int .i64 0] 60 (0,0))∧ww.heap[w11.heap.size]? = some (.cells #[.int .i64 1,.int .i64 0,.int .i64 0,.bool false,.int .i64 0,.int .i64 0] 60 (0,0))∧ww.heap[w12.heap.size]? = some (.cells #[.int .i64 1,.int .i64 0,.int .i64 0,.bool false,.int .i64 0,.int .i64 0] 60 (0,0))∧ww.heap[w13.heap.size]? = some (.cells #[.int .i64 1,.int .i64 0,.int .i64 0,.bool false,.int .i64 0,.int .i64 0] 60 (0,0))∧ww.heap[w14.heap.size]? = some (.cells #[.int .i64 1,.int .i64 0,.int .i64 0,.bool false,.int .i64 0,.int .i64 0] 60 (0,0))):=fun ww hk=>⟨hk.at0 u10,hk.at0 u11,hk.at0 u12,hk.at0 u13,hk.at0 n14⟩
 clear u10 u11 u12 u13 n10 n11 n12 n13 n14 KX PX lth ltg KK r4 r5 r6 q4 q5 q6 q7 k4 k5 k6 k7 a5 j10 j11 j12 j13 j14 k11 k12 k13 k14 z10 z11 z12 z13 s4 s5 s6 s7 m4 m5 m6 m7 l4 l5 l6 l7 y11 y12 y13 y14 P3 K3
 have CO:=of_any none X14
 go_upto_region 16 with (first
  | (go_at_call 28;refine CO.mono ?_;rintro e w15 ⟨rfl,k15⟩)
  | (go_at_call 29;refine (head_none _).mono ?_;rintro e w16 ⟨rfl,k16⟩))
 have K16:Same0 X14 w16:=Same0.trans' k15 k16
 obtain ⟨u0,u1,u2,u3,u4⟩:=HF.out w16 K16
 have EQ:=eq_flt1
 have p0:=fun o=>cellAt u0 o
 have p1:=fun o=>cellAt u1 o
 have p2:=fun o=>cellAt u2 o
 have p3:=fun o=>cellAt u3 o
 have p4:=fun o=>cellAt u4 o
 have c00:w16.cell? ⟨w7.heap.size,0,none⟩=some (.int .i64 1):=p0 0
 have c01:w16.cell? ⟨w7.heap.size,1,none⟩=some (.int .i64 0):=p0 1
 have c02:w16.cell? ⟨w7.heap.size,2,none⟩=some (.int .i64 0):=p0 2
 have c03:w16.cell? ⟨w7.heap.size,3,none⟩=some (.bool false):=p0 3
 have c04:w16.cell? ⟨w7.heap.size,4,none⟩=some (.int .i64 0):=p0 4
 have c05:w16.cell? ⟨w7.heap.size,5,none⟩=some (.int .i64 0):=p0 5
 have c10:w16.cell? ⟨w11.heap.size,0,none⟩=some (.int .i64 1):=p1 0
 have c11:w16.cell? ⟨w11.heap.size,1,none⟩=some (.int .i64 0):=p1 1
 have c12:w16.cell? ⟨w11.heap.size,2,none⟩=some (.int .i64 0):=p1 2
 have c13:w16.cell? ⟨w11.heap.size,3,none⟩=some (.bool false):=p1 3
 have c14:w16.cell? ⟨w11.heap.size,4,none⟩=some (.int .i64 0):=p1 4
 have c15:w16.cell? ⟨w11.heap.size,5,none⟩=some (.int .i64 0):=p1 5
 have c20:w16.cell? ⟨w12.heap.size,0,none⟩=some (.int .i64 1):=p2 0
 have c21:w16.cell? ⟨w12.heap.size,1,none⟩=some (.int .i64 0):=p2 1
 have c22:w16.cell? ⟨w12.heap.size,2,none⟩=some (.int .i64 0):=p2 2
 have c23:w16.cell? ⟨w12.heap.size,3,none⟩=some (.bool false):=p2 3
 have c24:w16.cell? ⟨w12.heap.size,4,none⟩=some (.int .i64 0):=p2 4
 have c25:w16.cell? ⟨w12.heap.size,5,none⟩=some (.int .i64 0):=p2 5
 have c30:w16.cell? ⟨w13.heap.size,0,none⟩=some (.int .i64 1):=p3 0
 have c31:w16.cell? ⟨w13.heap.size,1,none⟩=some (.int .i64 0):=p3 1
 have c32:w16.cell? ⟨w13.heap.size,2,none⟩=some (.int .i64 0):=p3 2
 have c33:w16.cell? ⟨w13.heap.size,3,none⟩=some (.bool false):=p3 3
 have c34:w16.cell? ⟨w13.heap.size,4,none⟩=some (.int .i64 0):=p3 4
 have c35:w16.cell? ⟨w13.heap.size,5,none⟩=some (.int .i64 0):=p3 5
 have c40:w16.cell? ⟨w14.heap.size,0,none⟩=some (.int .i64 1):=p4 0
 have c41:w16.cell? ⟨w14.heap.size,1,none⟩=some (.int .i64 0):=p4 1
 have c42:w16.cell? ⟨w14.heap.size,2,none⟩=some (.int .i64 0):=p4 2
 have c43:w16.cell? ⟨w14.heap.size,3,none⟩=some (.bool false):=p4 3
 have c44:w16.cell? ⟨w14.heap.size,4,none⟩=some (.int .i64 0):=p4 4
 have c45:w16.cell? ⟨w14.heap.size,5,none⟩=some (.int .i64 0):=p4 5
 clear p0 p1 p2 p3 p4 u0 u1 u2 u3 u4 CO
 go_wp2_with (first
  | (go_at_call 28;refine (of_any none _).mono ?_;rintro e w17 ⟨rfl,k17⟩)
  | (go_at_call 30;refine (arg_none _).mono ?_;rintro e w18 ⟨rfl,k18⟩)
  | (go_at_call 17;refine (HC.out w18 (Same0.trans' (Same0.trans' K16 k17) k18)).mono ?_;rintro e w19 ⟨rfl,rfl⟩))
 go_ret
 exact ⟨rfl,HB.out _ (KW.out.trans' (Same0.trans' (Same0.trans' K16 k17) k18))⟩
end Go.Proofs.Ytpimndkhoalaeaa
