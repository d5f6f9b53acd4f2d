import Derived.Test.YtfojfpnjnpkabaaGreatGB18
import Derived.Test.YtfojfpnjnpkabaaGreatGB24
import Derived.Test.YtfojfpnjnpkabaaGreatGB06
import Derived.Test.YtfojfpnjnpkabaaGreatGB05
import Derived.Test.YtfojfpnjnpkabaaGreatGB03
import Derived.Test.YtfojfpnjnpkabaaGreatGB08
import Derived.SizedLaws
import Derived.Test.YtfojfpnjnpkabaaGreatGB14
import Derived.Test.YtfojfpnjnpkabaaGreatRows
import Derived.Test.YtfojfpnjnpkabaaGreatGB15
import Derived.Test.YtfojfpnjnpkabaaGreatGB16
namespace Go.Proofs.YtfojfpnjnpkabaaGreat
set_option maxRecDepth 100000
set_option linter.unusedVariables false
open Go.RowKit
attribute [local go_sem ↓] Go.wp_at_zero Go.wp_at_succ
theorem row_max8 {base:Nat} {w:World} {v:Value} {xs:List Int} (h:Row base w v xs):xs.length≤maxLen:=by
 rcases h.2 with ⟨rfl,h0⟩ | ⟨g,cap,cur,rfl,hb,hg,h1,h2,h3,h4⟩
 ·omega
 ·omega
theorem row_own8 {base:Nat} {w:World} {ao:Option Addr} {n c:Nat} {xs:List Int} (h:Row base w (.slice ao n c) xs):IntsAt w ao xs∧∀ q,(Value.slice ao n c).ownBlock=some q→base≤q∧q<w.heap.size:=by
 refine ⟨?_,fun q e=>World.ownsRow.lt h q e⟩
 obtain ⟨a1,a2,e,i1,_⟩:=h.ints
 cases e
 exact i1
theorem ints_over8 {base:Nat} {w w' : World} {ao bo:Option Addr} {n c m d:Nat} {xs:List Int} {k:Nat} (h:Row base w (.slice ao n c) xs) (hb:k≤base) (hk:Kept (fun q=>(Value.slice bo m d).ownBlock=some q) w w') (hq:∀ q,(Value.slice bo m d).ownBlock=some q→q<k):IntsAt w' ao xs:=
 (row_own8 (hk.row h (fun q e f=>by have:=(row_own8 h).2 q e;have:=hq q f;omega))).1
set_option maxHeartbeats 16000000 in
theorem walks_walk {W:World} {ao:Option Addr} {len cap:Nat} {xs:List Sym} (hx:SymsAt W ao len xs) (hm:len≤maxLen) {n:Nat} {k r:Int} {po ko:Option Addr} {pl pc kl kc:Nat} {t:Tr n} (hC:CsB (fun b=>b<W.heap.size) W n (.agg #[.int .i64 k,.int .i64 r,.slice po pl pc,.slice ko kl kc]) t) (hsm:SmW n t) {to' : Option Addr} {tc:Nat} {T:List Int} (ht:Arg W to' T tc) (a:Int) :
  Calls Tryz.prog 4 #[.agg #[.slice ao len cap,.int .i64 k,.int .i64 r,.slice po pl pc,.slice ko kl kc,.slice to' T.length tc,.int .i64 a]] W fun e w' => e=.returned (.bool true)∧Below W.heap.size W w' := by
 have hn1:=sg_nil8
 obtain ⟨W1,hW1⟩:∃ W1,W1=W.alloc (.cells #[.slice ao len cap,.int .i64 k,.int .i64 r,.slice po pl pc,.slice ko kl kc,.slice to' T.length tc,.int .i64 a] 49):=⟨_,rfl⟩
 have KW:Same0 W W1:=by rw [hW1];exact (Kept.refl _ W).alloc _
 have h0:W1.heap[W.heap.size]? = some (.cells #[.slice ao len cap,.int .i64 k,.int .i64 r,.slice po pl pc,.slice ko kl kc,.slice to' T.length tc,.int .i64 a] 49 (0,0)):=by rw [hW1];exact heap_alloc_new W _
 have BX:Hid (∀ ww,Same0 W1 ww→ww.cell? ⟨W.heap.size,0,none⟩=some (.slice ao len cap)∧ww.cell? ⟨W.heap.size,1,none⟩=some (.int .i64 k)∧ww.cell? ⟨W.heap.size,2,none⟩=some (.int .i64 r)∧ww.cell? ⟨W.heap.size,3,none⟩=some (.slice po pl pc)∧ww.cell? ⟨W.heap.size,4,none⟩=some (.slice ko kl kc)∧ww.cell? ⟨W.heap.size,5,none⟩=some (.slice to' T.length tc)∧ww.cell? ⟨W.heap.size,6,none⟩=some (.int .i64 a)):=fun ww hk=>by
  have h1:=hk.at0 h0
  exact ⟨cellAt h1 0,cellAt h1 1,cellAt h1 2,cellAt h1 3,cellAt h1 4,cellAt h1 5,cellAt h1 6⟩
 have CA:=awake8_any W1
 clear h0
 go_enter Tryz.func4,Tryz.ntmps4
 go_upto_region 1 with fail
 rw [← hW1]
 clear hW1
 go_upto_region 2 with (first | (go_at_call 7;refine CA.mono ?_;rintro e w2 ⟨rfl,k2⟩))
 have CM:=made_any ao len cap xs w2 (hx.same8 (KW.trans' k2)) hm
 generalize madeL xs=L at CM
 obtain ⟨x0,x1,x2,x3,x4,x5,x6⟩:=BX.out w2 k2
 clear hx hm CA
 go_upto_region 3 with (first | (go_at_call 14;refine CM.mono ?_;rintro e wa ⟨b,rv,rfl,hS,hR,k3⟩;obtain ⟨so,sc,rfl⟩:=row_shape hR.1))
 clear x0 x1 x2 x3 x4 x5 x6 CM
 go_upto_region 5 with fail
 have K1:=k2.trans' k3
 have K0:=KW.trans' K1
 have CSB:∀ ww,Same0 wa ww→CsB (fun b=>b<ww.heap.size) ww n (.agg #[.int .i64 k,.int .i64 r,.slice po pl pc,.slice ko kl kc]) t:=fun ww hk=>by
  have q:=K0.trans' hk
  have z:=q.size
  exact CsB.mono (fun b _ e=>Nat.lt_of_lt_of_le e z) (hC.same q)
 obtain ⟨R,hRR⟩:∃ R,R=walkR L T a n t:=⟨_,rfl⟩
 have CR:∀ ww,Same0 wa ww→Calls Tryz.prog 15 #[.pointer (some ⟨b,0,none⟩),.agg #[.int .i64 k,.int .i64 r,.slice po pl pc,.slice ko kl kc],.slice to' T.length tc,.int .i64 a] ww (FdOut ww R):=fun ww hk=>by rw [hRR];exact twalk_any (sg_up (hS.same hk) hk.size) (CSB ww hk) hsm (ht.same (K0.trans' hk)) a
 have CF:∀ ww,Same0 wa ww→Calls Tryz.prog 16 #[.slice so L.length sc,.agg #[.int .i64 k,.int .i64 r,.slice po pl pc,.slice ko kl kc],.slice to' T.length tc,.int .i64 a] ww (FdOut ww R):=fun ww hk=>by rw [hRR];exact rwalk_any (hR.same hk) (CSB ww hk) hsm (ht.same (K0.trans' hk)) a
 clear hRR CSB
 obtain ⟨rk,rr,rp,rn,re⟩:=R
 have CRH:Hid (∀ ww,Same0 wa ww→Calls Tryz.prog 15 #[.pointer (some ⟨b,0,none⟩),.agg #[.int .i64 k,.int .i64 r,.slice po pl pc,.slice ko kl kc],.slice to' T.length tc,.int .i64 a] ww fun e w' => ∃ qo qc,e=.returned (.tuple #[.agg #[.int .i64 rk,.int .i64 rr,.slice qo rp.length qc,.int .i64 rn],.int .i64 re])∧Hid (Row ww.heap.size w' (.slice qo rp.length qc) rp)∧Same0 ww w'):=CR
 have CFH:Hid (∀ ww,Same0 wa ww→Calls Tryz.prog 16 #[.slice so L.length sc,.agg #[.int .i64 k,.int .i64 r,.slice po pl pc,.slice ko kl kc],.slice to' T.length tc,.int .i64 a] ww fun e w' => ∃ qo qc,e=.returned (.tuple #[.agg #[.int .i64 rk,.int .i64 rr,.slice qo rp.length qc,.int .i64 rn],.int .i64 re])∧Hid (Row ww.heap.size w' (.slice qo rp.length qc) rp)∧Same0 ww w'):=CF
 have BF:Hid (∀ (u:World) (q:Option Addr) (c:Nat),∃ v,v=u.alloc (.cells #[.int .i64 rk,.int .i64 rr,.slice q rp.length c,.int .i64 rn] 53)∧Same0 u v∧v.heap[u.heap.size]? = some (.cells #[.int .i64 rk,.int .i64 rr,.slice q rp.length c,.int .i64 rn] 53 (0,0))):=fun u q c=>⟨_,rfl,(Kept.refl _ _).alloc _,heap_alloc_new u _⟩
 clear CR CF ht hR hS hC hsm
 obtain ⟨x0,x1,x2,x3,x4,x5,x6⟩:=BX.out wa K1
 have e1:=CRH.out wa (Kept.refl _ _)
 go_upto_region 6 with (first | (go_at_call 15;refine e1.mono ?_;rintro e w8 ⟨ao1,ac1,rfl,r1,k8⟩))
 obtain ⟨w9,hw9,k9,b9⟩:=BF.out w8 ao1 ac1
 rw [← hw9]
 have s9:=k8.trans' k9
 clear hw9 e1 x0 x1 x2 x3 x4 x5 x6
 obtain ⟨x0,x1,x2,x3,x4,x5,x6⟩:=BX.out w9 (K1.trans' s9)
 have e1:=CRH.out w9 s9
 go_upto_region 7 with (first | (go_at_call 15;refine e1.mono ?_;rintro e w10 ⟨ao2,ac2,rfl,r2,k10⟩))
 obtain ⟨w11,hw11,k11,b11⟩:=BF.out w10 ao2 ac2
 rw [← hw11]
 have k911:=k10.trans' k11
 have s11:=s9.trans' k911
 clear hw11 e1 x0 x1 x2 x3 x4 x5 x6
 obtain ⟨x0,x1,x2,x3,x4,x5,x6⟩:=BX.out w11 (K1.trans' s11)
 have e1:=CFH.out w11 s11
 go_upto_region 8 with (first | (go_at_call 16;refine e1.mono ?_;rintro e w12 ⟨ao3,ac3,rfl,r3,k12⟩))
 obtain ⟨w13,hw13,k13,b13⟩:=BF.out w12 ao3 ac3
 rw [← hw13]
 have k1113:=k12.trans' k13
 have k913:=k911.trans' k1113
 have s13:=s11.trans' k1113
 clear hw13 e1 x0 x1 x2 x3 x4 x5 x6
 have q1:Row wa.heap.size w13 (.slice ao1 rp.length ac1) rp:=(k9.trans' k913).row r1.out (fun _ _ f=>f)
 have q2:Row w9.heap.size w13 (.slice ao2 rp.length ac2) rp:=(k11.trans' k1113).row r2.out (fun _ _ f=>f)
 have q3:Row w11.heap.size w13 (.slice ao3 rp.length ac3) rp:=k13.row r3.out (fun _ _ f=>f)
 have hrm:=row_max8 q1
 have o1:=(row_own8 r1.out).2
 have B9:=k913.at0 b9
 have B11:=k1113.at0 b11
 have HF:Hid (∀ ww ao1 ac1 ao3 ac3,IntsAt ww ao1 rp→IntsAt ww ao3 rp→Calls Tryz.prog 17 #[.agg #[.int .i64 rk,.int .i64 rr,.slice ao1 rp.length ac1,.int .i64 rn],.agg #[.int .i64 rk,.int .i64 rr,.slice ao3 rp.length ac3,.int .i64 rn]] ww fun e w' => e=.returned (.bool true)∧Same0 ww w'):=fun ww _ _ _ _ h1 h2=>fsame_any h1 h2 hrm
 have HX:Hid (∀ ww,Same0 w13 ww→(ww.cell? ⟨w8.heap.size,0,none⟩=some (.int .i64 rk)∧ww.cell? ⟨w8.heap.size,1,none⟩=some (.int .i64 rr)∧ww.cell? ⟨w8.heap.size,2,none⟩=some (.slice ao1 rp.length ac1)∧ww.cell? ⟨w8.heap.size,3,none⟩=some (.int .i64 rn))∧ww.cell? ⟨w12.heap.size,0,none⟩=some (.int .i64 rk)∧ww.cell? ⟨w12.heap.size,1,none⟩=some (.int .i64 rr)∧ww.cell? ⟨w12.heap.size,2,none⟩=some (.slice ao3 rp.length ac3)∧ww.cell? ⟨w12.heap.size,3,none⟩=some (.int .i64 rn)):=fun ww hk=>by
  have a:=hk.at0 B9
  have b:=hk.at0 b13
  exact ⟨⟨cellAt a 0,cellAt a 1,cellAt a 2,cellAt a 3⟩,cellAt b 0,cellAt b 1,cellAt b 2,cellAt b 3⟩
 have z8:=k8.size
 have z9:=k9.size
 have zz:w8.heap.size<w9.heap.size:=lt_of_at b9
 have z11:=k911.size
 have z10:=k10.size
 have z12:=k12.size
 have z911:w9.heap.size≤w11.heap.size:=k911.size
 have K0a:=K0.size
 have HK2:Hid (∀ w14 wz,Same0 w13 w14→OverA wa.heap.size (.slice ao1 rp.length ac1) (fun q=>(Value.slice ao1 rp.length ac1).ownBlock=some q) rp.length w14 wz→wz.cell? ⟨w8.heap.size,2,none⟩=some (.slice ao1 rp.length ac1)∧((wz.cell? ⟨w10.heap.size,0,none⟩=some (.int .i64 rk)∧wz.cell? ⟨w10.heap.size,1,none⟩=some (.int .i64 rr)∧wz.cell? ⟨w10.heap.size,2,none⟩=some (.slice ao2 rp.length ac2)∧wz.cell? ⟨w10.heap.size,3,none⟩=some (.int .i64 rn))∧wz.cell? ⟨w12.heap.size,0,none⟩=some (.int .i64 rk)∧wz.cell? ⟨w12.heap.size,1,none⟩=some (.int .i64 rr)∧wz.cell? ⟨w12.heap.size,2,none⟩=some (.slice ao3 rp.length ac3)∧wz.cell? ⟨w12.heap.size,3,none⟩=some (.int .i64 rn))∧Hid (IntsAt wz ao2 rp∧IntsAt wz ao3 rp∧Same0 W wz)):=fun w14 wz hk ⟨zs,_,_,_,hKz⟩=>by
  have a:=(hKz.block _ (lt_of_at (hk.at0 B9)) (fun e=>by have:=(o1 _ e).2;omega)).trans (hk.at0 B9)
  have b:=(hKz.block _ (lt_of_at (hk.at0 B11)) (fun e=>by have:=(o1 _ e).2;omega)).trans (hk.at0 B11)
  have c:=(hKz.block _ (lt_of_at (hk.at0 b13)) (fun e=>by have:=(o1 _ e).2;omega)).trans (hk.at0 b13)
  have p2:=ints_over8 (hk.row q2 (fun _ _ f=>f)) (Nat.le_of_lt zz) hKz (fun q e=>(o1 q e).2)
  have p3:=ints_over8 (k:=w8.heap.size) (hk.row q3 (fun _ _ f=>f)) (by omega) hKz (fun q e=>(o1 q e).2)
  exact ⟨cellAt a 2,⟨⟨cellAt b 0,cellAt b 1,cellAt b 2,cellAt b 3⟩,cellAt c 0,cellAt c 1,cellAt c 2,cellAt c 3⟩,p2,p3,Kept.trans (K0.trans' (s13.trans' hk)) hKz (fun i hi e=>by have:=(o1 _ e).1;omega)⟩
 obtain ⟨⟨x0,x1,x2,x3⟩,y0,y1,y2,y3⟩:=HX.out w13 (Kept.refl _ _)
 have e1:=HF.out w13 ao1 ac1 ao3 ac3 (row_own8 q1).1 (row_own8 q3).1
 have HQ1:Hid (Row wa.heap.size w13 (.slice ao1 rp.length ac1) rp):=q1
 have HRM:Hid (rp.length≤maxLen):=hrm
 clear q1 q2 q3 hrm o1 B9 B11 b9 b11 b13 r1 r2 r3 HX CRH CFH BF
 go_upto_region 9 with (first | (go_at_call 17;refine e1.mono ?_;rintro e w14 ⟨rfl,k14⟩))
 clear x0 x1 x2 x3 y0 y1 y2 y3 e1
 have R0:Hid (OverA wa.heap.size (.slice ao1 rp.length ac1) (fun q=>(Value.slice ao1 rp.length ac1).ownBlock=some q) rp.length w14 w14):=⟨rp,rfl,k14.row HQ1.out (fun _ _ f=>f),fun q e=>e,Kept.refl _ _⟩
 clear HQ1
 go_wp2_with fail
 go_loopw [13] (fun i wz=>∃ j:Nat,j≤rp.length∧i=.int .i64 (j:Int)∧Hid (OverA wa.heap.size (.slice ao1 rp.length ac1) (fun q=>(Value.slice ao1 rp.length ac1).ownBlock=some q) rp.length w14 wz)) (fun i _=>rp.length-(intOf i).toNat)
 case atStart=>exact ⟨0,Nat.zero_le _,rfl,R0⟩
 case round=>
  clear R0
  obtain ⟨wz,rfl⟩:∃ wz,wz=wr:=⟨_,rfl⟩
  obtain ⟨j,hj,rfl,hO⟩:=hrel
  obtain ⟨x2,⟨⟨y0,y1,y2,y3⟩,v0,v1,v2,v3⟩,HZ⟩:=HK2.out w14 wz k14 hO.out
  by_cases hlt2:j<rp.length
  ·obtain ⟨g,rfl,old,f1,f2⟩:=hO.out.at hlt2
   have hO' : Hid _:=hO.out.store j 55
   have hl2:=HRM.out
   have hl3:IntKind.i64.wrap ((j:Int)+1)=(j:Int)+1:=iwrap (by omega) (by unfold maxLen at hl2;omega)
   have j1:(0:Int)≤(j:Int):=by omega
   have j3:(j:Int)<(rp.length:Int):=by omega
   clear hO HK2 hl2 HZ y0 y1 y2 y3 v0 v1 v2 v3
   go_wp2_with fail
   exact ⟨⟨j+1,by omega,by go_num,hO'⟩,by simp [intOf];omega⟩
  ·have j3:¬ (j:Int)<(rp.length:Int):=by omega
   obtain ⟨p2,p3,p4⟩:=HZ.out
   have e1:=HF.out wz ao2 ac2 ao3 ac3 p2 p3
   have FIN:Hid (Same0 W wz):=p4
   clear hO HK2 HF p2 p3 p4 HZ
   go_wp2_with (first | (go_at_call 17;refine e1.mono ?_;rintro e w15 ⟨rfl,k15⟩))
   go_ret
   exact ⟨rfl,(FIN.out.trans' k15).below⟩
end Go.Proofs.YtfojfpnjnpkabaaGreat
namespace Go.Proofs.YtfojfpnjnpkabaaGreat
set_option maxRecDepth 100000
set_option linter.unusedVariables false
open Go.RowKit Go.Deep
section
variable {H : Type} {enc : TypeId × Value → H} {w : World} {spare : Nat → Bool} {held : Bool}
theorem trod_struct4 {P:Program} {base:Nat} {t:TypeId} {f0 f1 f2 f3:Field} {fuel:Nat} {cs:List Value} {x:DataW H × List MemPlace} (ht:P.underlying t=some (.struct #[f0,f1,f2,f3])) (h:DataW.trod enc P w base spare held fuel t cs=some x) :
  ∃ y0 y1 y2 y3 n,n<fuel∧x.1=.agg [y0.1,y1.1,y2.1,y3.1]∧cs.length=P.cellsOf t∧DataW.trod enc P w base spare held n f0.type ((cs.drop f0.offset).take (P.cellsOf f0.type))=some y0 ∧
   DataW.trod enc P w base spare held n f1.type ((cs.drop f1.offset).take (P.cellsOf f1.type))=some y1∧DataW.trod enc P w base spare held n f2.type ((cs.drop f2.offset).take (P.cellsOf f2.type))=some y2 ∧
   DataW.trod enc P w base spare held n f3.type ((cs.drop f3.offset).take (P.cellsOf f3.type))=some y3:=by
 obtain ⟨xs,n,hn,rfl,hl,hlen,hf⟩:=DataW.trod_struct ht h
 match xs,hlen with
 | [y0,y1,y2,y3],_=>exact ⟨y0,y1,y2,y3,n,by omega,by simp,hl,by simpa using hf 0 f0 rfl,by simpa using hf 1 f1 rfl,by simpa using hf 2 f2 rfl,by simpa using hf 3 f3 rfl⟩
theorem cells_Cs:Tryz.prog.cellsOf 35=4:=by kernel_rfl
theorem cells_kids:Tryz.prog.cellsOf 33=1:=by kernel_rfl
theorem shape_case {fuel:Nat} {cs:List Value} {x:DataW H × List MemPlace} (h:DataW.trod enc Tryz.prog w 0 spare held fuel 35 cs=some x):∃ k r po pl pc ko kl kc,cs=[.int .i64 k,.int .i64 r,.slice po pl pc,.slice ko kl kc]:=by
 obtain ⟨y0,y1,y2,y3,n,_,hd,hl,h0,h1,h2,h3⟩:=trod_struct4 Tryz.underlying35 h
 rw [cells_Cs] at hl
 match cs,hl with
 | [c0,c1,c2,c3],_=>
  simp only [cells_int,cells_ints,cells_kids,List.drop_zero,List.take_succ_cons,List.take_zero,List.drop_succ_cons] at h0 h1 h2 h3
  obtain ⟨k,e0,_,_⟩:=DataW.trod_int Tryz.underlying3 h0
  obtain ⟨r,e1,_,_⟩:=DataW.trod_int Tryz.underlying3 h1
  obtain ⟨po,pl,pc,rfl⟩:=slice_one Tryz.underlying32 h2
  obtain ⟨ko,kl,kc,rfl⟩:=slice_one Tryz.underlying33 h3
  simp only [List.cons.injEq,and_true] at e0 e1
  subst e0 e1
  exact ⟨k,r,po,pl,pc,ko,kl,kc,rfl⟩
end
end Go.Proofs.YtfojfpnjnpkabaaGreat
namespace Go.Proofs.YtfojfpnjnpkabaaGreat
set_option maxRecDepth 100000
set_option linter.unusedVariables false
open Go.RowKit
attribute [local go_sem ↓] Go.wp_at_zero Go.wp_at_succ
def rulesF:(n:Nat)→Tr n→List Int
 | 0,_=>[]
 | n+1,(k,r,p,l)=>if k=1 then [r] else if k=2 then l.flatMap (fun x=>rulesF n x.2) else []
def SmK:(n:Nat)→Tr n→Prop
 | 0,_=>True
 | n+1,(k,r,p,l)=>l.length≤1000000000∧∀ i (h:i<l.length),SmK n l[i].2
structure RAt (w:World) (lb base:Nat) (lv:Value) (out:List Int):Prop where
 blk:w.heap[lb]? = some (.cells #[lv] 32 (0,0))
 row:Row base w lv out
abbrev T3:=Nat × Nat × Nat
def add3 (a b:T3):T3:=(a.1+b.1,a.2.1+b.2.1,a.2.2+b.2.2)
def sum3 {α:Type} (f:α→T3):List α→T3
 | []=>(0,0,0)
 | x :: r=>add3 (f x) (sum3 f r)
def kind3 (k:Int):T3:=if k=1 then (1,0,0) else if k=2 then (0,1,0) else if k=3 then (0,0,1) else (0,0,0)
def szT:(n:Nat)→Tr n→T3
 | 0,_=>(0,0,0)
 | n+1,(k,r,p,l)=>add3 (kind3 k) (if k=2 then sum3 (fun x=>szT n x.2) l else (0,0,0))
structure SAt (w:World) (x y z:Nat) (a:T3):Prop where
 bx:w.heap[x]? = some (.cells #[.int .i64 (a.1:Int)] 3 (0,0))
 by' : w.heap[y]? = some (.cells #[.int .i64 (a.2.1:Int)] 3 (0,0))
 bz:w.heap[z]? = some (.cells #[.int .i64 (a.2.2:Int)] 3 (0,0))
 xy:x≠y
 xz:x≠z
 yz:y≠z
end Go.Proofs.YtfojfpnjnpkabaaGreat
namespace Go.Proofs.YtfojfpnjnpkabaaGreat
set_option maxRecDepth 100000
set_option linter.unusedVariables false
open Go.RowKit Go.Deep
theorem bulk_one8 {H:Type} (d:DataW H):1≤Rows.uptoBulk d:=by
 cases d with
 | lit l=>cases l <;> simp [Rows.uptoBulk]
 | nil=>simp [Rows.uptoBulk]
 | ptr d=>simp [Rows.uptoBulk]
 | slice elems spare=>simp [Rows.uptoBulk]
 | agg parts=>simp [Rows.uptoBulk]
 | iface t d=>simp [Rows.uptoBulk]
 | map entries=>simp [Rows.uptoBulk]
 | held h=>simp [Rows.uptoBulk]
theorem bulk_part8 {H:Type} {d:DataW H} {l:List (DataW H)} (h:d∈l):Rows.uptoBulk d≤Rows.uptoBulkAll l:=by
 induction l with
 | nil=>cases h
 | cons x r ih=>
  simp only [Rows.uptoBulkAll]
  rcases List.mem_cons.1 h with e | e
  ·subst e;omega
  ·have:=ih e;omega
theorem bulk_length8 {H:Type} (l:List (DataW H)):l.length≤Rows.uptoBulkAll l:=by
 induction l with
 | nil=>simp [Rows.uptoBulkAll]
 | cons x r ih=>have:=bulk_one8 x;simp only [Rows.uptoBulkAll,List.length_cons];omega
theorem flat_bulk {α H:Type} (g:α→List Int):∀ (L:List α) (E:List (DataW H)),L.length=E.length→(∀ i (h:i<L.length) (h' : i<E.length),(g L[i]).length≤Rows.uptoBulk E[i])→(L.flatMap g).length≤Rows.uptoBulkAll E
 | [],E,_,_=>by simp
 | x :: L,[],h,_=>by simp at h
 | x :: L,e :: E,h,hi=>by
  have h0:(g x).length≤Rows.uptoBulk e:=hi 0 (by simp) (by simp)
  have h1:=flat_bulk g L E (by simpa using h) (fun i h1 h2=>hi (i+1) (by simpa using h1) (by simpa using h2))
  simp only [List.flatMap_cons,List.length_append,Rows.uptoBulkAll]
  omega
def LeN (a:T3) (m:Nat):Prop:=a.1≤m∧a.2.1≤m∧a.2.2≤m
theorem sum3_bulk {α H:Type} (g:α→T3):∀ (L:List α) (E:List (DataW H)),L.length=E.length→(∀ i (h:i<L.length) (h' : i<E.length),LeN (g L[i]) (Rows.uptoBulk E[i]))→LeN (sum3 g L) (Rows.uptoBulkAll E)
 | [],E,_,_=>by simp [sum3,LeN]
 | x :: L,[],h,_=>by simp at h
 | x :: L,e :: E,h,hi=>by
  have h0:LeN (g x) (Rows.uptoBulk e):=hi 0 (by simp) (by simp)
  have h1:=sum3_bulk g L E (by simpa using h) (fun i h1 h2=>hi (i+1) (by simpa using h1) (by simpa using h2))
  obtain ⟨p1,p2,p3⟩:=h0
  obtain ⟨q1,q2,q3⟩:=h1
  refine ⟨?_,?_,?_⟩ <;> (simp only [sum3,add3,Rows.uptoBulkAll];omega)
section
variable {H : Type} {enc : TypeId × Value → H} {w : World} {spare : Nat → Bool} {held : Bool}
theorem open_elemsD {t e c fuel:Nat} {ao:Option Addr} {len cap:Nat} {x:DataW H × List MemPlace} (ht:Tryz.prog.underlying t=some (.slice e)) (hc:Tryz.prog.cellsOf e=c) (h0:0<c) (h:DataW.trod enc Tryz.prog w 0 spare held fuel t [.slice ao len cap]=some x) :
  (ao=none∧len=0∧cap=0)∨∃ (a:Addr) (E:List (DataW H)),ao=some a∧len≤cap∧cap≤maxLen∧E.length=len∧Rows.uptoBulkAll E<Rows.uptoBulk x.1∧∀ i (hi:i<E.length),a=⟨a.block,a.off,none⟩∧a.block<w.heap.size∧∃ cs n y,cs.length=c∧(∀ j,j<c→w.cell? ⟨a.block,a.off+i * c+j,none⟩=cs[j]?)∧DataW.trod enc Tryz.prog w 0 spare held n e cs=some y∧y.1=E[i]:=by
 rcases open_slice ht h with ⟨hcs,_⟩ | ⟨a,len', cap', m,n,D,Pl,hcs,_,hl,hm,hmm,rfl,hx⟩
 ·simp at hcs;exact .inl ⟨hcs.1,hcs.2.1,hcs.2.2⟩
 ·simp at hcs
  obtain ⟨rfl,rfl,rfl⟩:=hcs
  refine .inr ⟨a,(List.range len).map D,rfl,hl,hm,by simp,by simp only [Rows.uptoBulk];omega,fun i hi=>?_⟩
  have hi:i<len:=by simpa using hi
  have hmi:i<m:=by rw [hmm];split <;> omega
  have hm0:0<m:=by omega
  obtain ⟨cs0,g0,_⟩:=hx 0 hm0
  rw [hc] at g0
  obtain ⟨_,gl,gc⟩:=World.cells?_some g0
  have hsp:a.spot=none:=by
   have:=gc 0 h0
   have hv:cs0[0]? = some (cs0[0]'(by omega)):=List.getElem?_eq_getElem (by omega)
   rw [hv] at this
   simp [Addr.add] at this
   exact World.cell?_spot this
  have hlt:a.block<w.heap.size:=World.cells?_block (by simpa [Addr.add] using g0) h0
  have ea:a=⟨a.block,a.off,none⟩:=by cases a;simp_all
  obtain ⟨cs,g1,g2⟩:=hx i hmi
  rw [hc] at g1
  obtain ⟨_,gl1,gc1⟩:=World.cells?_some g1
  refine ⟨ea,hlt,cs,n,_,gl1,fun j hj=>?_,g2,by simp⟩
  rw [← gc1 j hj,add_add]
  congr 1
  unfold Addr.add
  split
  ·rw [ea];simp;omega
  ·simp
theorem open_ints8 {fuel:Nat} {ao:Option Addr} {len cap:Nat} {x:DataW H × List MemPlace} (h:DataW.trod enc Tryz.prog w 0 spare held fuel 32 [.slice ao len cap]=some x) (hb:Rows.uptoBulk x.1≤2000000):∃ xs:List Int,len=xs.length∧Arg w ao xs cap:=by
 rcases open_elemsD Tryz.underlying32 cells_int (by omega) h with ⟨rfl,rfl,rfl⟩ | ⟨a,E,rfl,h1,h2,h3,h4,hall⟩
 ·exact ⟨[],rfl,.inl rfl,Nat.le_refl _,fun _=>⟨rfl,rfl⟩,by simp⟩
 ·have each:∀ i,i<len→∃ z:Int,w.cell? ⟨a.block,a.off+i,none⟩=some (.int .i64 z):=by
   intro i hi
   obtain ⟨_,_,cs,n,y,hl,hcell,hy,_⟩:=hall i (by omega)
   obtain ⟨z,e1,_,_⟩:=DataW.trod_int Tryz.underlying3 hy
   subst e1
   exact ⟨z,by simpa using hcell 0 (by omega)⟩
  obtain ⟨f,hf⟩:=Classical.axiomOfChoice (fun i:Fin len=>each i i.2)
  have h5:=bulk_length8 E
  refine ⟨List.ofFn f,by simp,?_,by simpa using h1,(fun e=>by cases e),by simp;omega⟩
  by_cases h0:len=0
  ·subst h0;exact .inl (by simp)
  ·obtain ⟨ea,hlt,_⟩:=hall 0 (by omega)
   refine .inr ⟨a.block,a.off,by rw [← ea],hlt,fun i hi=>?_⟩
   have hi' : i<len:=by simpa using hi
   simpa using hf ⟨i,hi'⟩
theorem cells_kid:Tryz.prog.cellsOf 76=5:=by kernel_rfl
def Told (w:World) (N:Nat) (cs:List Value) (m:Nat):Prop:=∃ t:Tr N,CsB (fun b=>b<w.heap.size) w N (.agg cs.toArray) t∧SmK N t∧(rulesF N t).length≤m∧LeN (szT N t) m
def TIH (enc:TypeId × Value→H) (w:World) (spare:Nat→Bool) (held:Bool) (N:Nat):Prop:=∀ (fuel:Nat) (cs:List Value) (x:DataW H × List MemPlace),DataW.trod enc Tryz.prog w 0 spare held fuel 35 cs=some x→Rows.uptoBulk x.1<N→Rows.uptoBulk x.1≤2000000→Told w N cs (Rows.uptoBulk x.1)
theorem open_kid {N fuel:Nat} {cs:List Value} {y:DataW H × List MemPlace} (IH:TIH enc w spare held N) (h:DataW.trod enc Tryz.prog w 0 spare held fuel 76 cs=some y) (hN:Rows.uptoBulk y.1≤N) (hb:Rows.uptoBulk y.1≤2000000) :
  ∃ (z:Int) (c0 c1 c2 c3:Value),cs=[.int .i64 z,c0,c1,c2,c3]∧Told w N [c0,c1,c2,c3] (Rows.uptoBulk y.1):=by
 obtain ⟨y0,y1,n', hyd,hl', g0,g1⟩:=trod_pair7 Tryz.underlying76 h
 rw [cells_kid] at hl'
 match cs,hl' with
 | [c,c0,c1,c2,c3],_=>
  simp only [cells_int,cells_Cs,List.drop_zero,List.take_succ_cons,List.take_zero,List.drop_succ_cons] at g0 g1
  obtain ⟨z,e1,_,_⟩:=DataW.trod_int Tryz.underlying3 g0
  simp only [List.cons.injEq,and_true] at e1
  subst e1
  have e2:Rows.uptoBulk y1.1<Rows.uptoBulk y.1:=by rw [hyd];simp only [Rows.uptoBulk,Rows.uptoBulkAll];omega
  obtain ⟨t,q1,q2,q3,q4⟩:=IH _ _ _ g1 (by omega) (by omega)
  exact ⟨z,c0,c1,c2,c3,rfl,t,q1,q2,by omega,by obtain ⟨a1,a2,a3⟩:=q4;exact ⟨by omega,by omega,by omega⟩⟩
theorem open_tree_step {N:Nat} (IH:TIH enc w spare held N):TIH enc w spare held (N+1):=by
 intro fuel cs x h hN hb
 obtain ⟨y0,y1,y2,y3,n,_,hd,hl,h0,h1,h2,h3⟩:=trod_struct4 Tryz.underlying35 h
 rw [cells_Cs] at hl
 match cs,hl with
 | [c0,c1,c2,c3],_=>
  simp only [cells_int,cells_ints,cells_kids,List.drop_zero,List.take_succ_cons,List.take_zero,List.drop_succ_cons] at h0 h1 h2 h3
  obtain ⟨k,e0,_,_⟩:=DataW.trod_int Tryz.underlying3 h0
  obtain ⟨r,e1,_,_⟩:=DataW.trod_int Tryz.underlying3 h1
  obtain ⟨po,pl,pc,rfl⟩:=slice_one Tryz.underlying32 h2
  obtain ⟨ko,kl,kc,rfl⟩:=slice_one Tryz.underlying33 h3
  simp only [List.cons.injEq,and_true] at e0 e1
  subst e0 e1
  have hbx:Rows.uptoBulk x.1=Rows.uptoBulk y0.1+(Rows.uptoBulk y1.1+(Rows.uptoBulk y2.1+(Rows.uptoBulk y3.1+0)))+1:=by rw [hd];simp only [Rows.uptoBulk,Rows.uptoBulkAll]
  obtain ⟨p,rfl,hp⟩:=open_ints8 h2 (by omega)
  have hpB:p=[]∨∀ a,po=some a→a.block<w.heap.size:=by
   rcases hp.at' with e | ⟨b,off,e,hlt,_⟩
   ·exact .inl (by simpa using e)
   ·exact .inr (fun a ea=>by rw [e] at ea;cases ea;exact hlt)
  rcases open_elemsD Tryz.underlying33 cells_kid (by omega) h3 with ⟨rfl,rfl,rfl⟩ | ⟨a,E,rfl,g1,g2,g3,g4,hall⟩
  ·refine ⟨(k,r,p,[]),⟨po,pc,none,0,rfl,hp,hpB,fun _=>rfl,Nat.le_refl _,.inl rfl⟩,⟨by simp,fun i h=>by simp at h⟩,?_,?_⟩
   ·simp only [rulesF]
    split
    ·simp;omega
    ·split <;> simp
   ·simp only [szT,sum3,ite_self,kind3]
    refine ⟨?_,?_,?_⟩ <;> (simp only [add3];split <;> (try split) <;> (try split) <;> simp <;> omega)
  ·have each:∀ i:Fin kl,∃ z:Int × Tr N,(∃ c0 c1 c2 c3,w.cell? ⟨a.block,a.off+i * 5,none⟩=some (.int .i64 z.1)∧w.cell? ⟨a.block,a.off+i * 5+1,none⟩=some c0∧w.cell? ⟨a.block,a.off+i * 5+2,none⟩=some c1∧w.cell? ⟨a.block,a.off+i * 5+3,none⟩=some c2∧w.cell? ⟨a.block,a.off+i * 5+4,none⟩=some c3∧CsB (fun b=>b<w.heap.size) w N (.agg #[c0,c1,c2,c3]) z.2)∧SmK N z.2∧(rulesF N z.2).length≤Rows.uptoBulk (E[i.1]'(by omega))∧LeN (szT N z.2) (Rows.uptoBulk (E[i.1]'(by omega))):=by
    intro ⟨i,hi⟩
    obtain ⟨_,_,cs,n,y,hl,hcell,hy,hye⟩:=hall i (by omega)
    have hle:=bulk_part8 (List.getElem_mem (l:=E) (n:=i) (by omega))
    obtain ⟨z,d0,d1,d2,d3,rfl,t,q1,q2,q3,q4⟩:=open_kid IH hy (by rw [hye];omega) (by rw [hye];omega)
    rw [hye] at q3 q4
    exact ⟨(z,t),⟨d0,d1,d2,d3,by simpa using hcell 0 (by omega),by simpa using hcell 1 (by omega),by simpa using hcell 2 (by omega),by simpa using hcell 3 (by omega),by simpa using hcell 4 (by omega),q1⟩,q2,q3,q4⟩
   obtain ⟨f,hf⟩:=Classical.axiomOfChoice each
   have h5:=bulk_length8 E
   obtain ⟨l,hl⟩:∃ l:List (Int × Tr N),l=List.ofFn f:=⟨_,rfl⟩
   have hll:l.length=kl:=by rw [hl];simp
   have hli:∀ i (hi:i<l.length),l[i]=f ⟨i,by omega⟩:=fun i hi=>by subst hl;simp
   have F1:(l.flatMap (fun x=>rulesF N x.2)).length≤Rows.uptoBulkAll E:=flat_bulk _ l E (by omega) (fun i h1 h2=>by rw [hli];exact (hf ⟨i,by omega⟩).2.2.1)
   have F2:LeN (sum3 (fun x=>szT N x.2) l) (Rows.uptoBulkAll E):=sum3_bulk _ l E (by omega) (fun i h1 h2=>by rw [hli];exact (hf ⟨i,by omega⟩).2.2.2)
   subst hll
   refine ⟨(k,r,p,l),⟨po,pc,some a,kc,rfl,hp,hpB,(fun e=>by cases e),g1,?_⟩,⟨by omega,fun i hi=>by rw [hli];exact (hf ⟨i,hi⟩).2.1⟩,?_,?_⟩
   ·by_cases h0:l.length=0
    ·exact .inl (by simpa using h0)
    ·obtain ⟨ea,hlt,_⟩:=hall 0 (by omega)
     refine .inr ⟨a.block,a.off,by rw [← ea],hlt,hlt,fun i hi=>?_⟩
     rw [hli]
     exact (hf ⟨i,hi⟩).1
   ·simp only [rulesF]
    split
    ·simp;omega
    ·split
     ·omega
     ·simp
   ·obtain ⟨f1,f2,f3⟩:=F2
    simp only [szT,kind3]
    refine ⟨?_,?_,?_⟩ <;> (simp only [add3];split <;> (try split) <;> (try split) <;> simp <;> omega)
theorem open_tree:∀ N,TIH enc w spare held N
 | 0=>fun _ _ _ _ h _=>by omega
 | N+1=>open_tree_step (open_tree N)
end
theorem SmK.smW:∀ {n:Nat} {t:Tr n},SmK n t→SmW n t
 | 0,_,_=>trivial
 | n+1,(k,r,p,l),h=>⟨Nat.le_trans h.1 (by omega),fun i hi=>SmK.smW (h.2 i hi)⟩
section
variable {H : Type} {enc : TypeId × Value → H} {w : World} {spare : Nat → Bool} {held : Bool}
theorem cells_Trip8:Tryz.prog.cellsOf 49=7:=by kernel_rfl
theorem open_term8 {fuel:Nat} {ao:Option Addr} {len cap:Nat} {x:DataW H × List MemPlace} (h:DataW.trod enc Tryz.prog w 0 spare held fuel 47 [.slice ao len cap]=some x) (hb:Rows.uptoBulk x.1≤2000000):∃ xs:List Int,len=xs.length∧Arg w ao xs cap:=by
 rcases open_elemsD Tryz.underlying47 cells_int (by omega) h with ⟨rfl,rfl,rfl⟩ | ⟨a,E,rfl,h1,h2,h3,h4,hall⟩
 ·exact ⟨[],rfl,.inl rfl,Nat.le_refl _,fun _=>⟨rfl,rfl⟩,by simp⟩
 ·have each:∀ i,i<len→∃ z:Int,w.cell? ⟨a.block,a.off+i,none⟩=some (.int .i64 z):=by
   intro i hi
   obtain ⟨_,_,cs,n,y,hl,hcell,hy,_⟩:=hall i (by omega)
   obtain ⟨z,e1,_,_⟩:=DataW.trod_int Tryz.underlying3 hy
   subst e1
   exact ⟨z,by simpa using hcell 0 (by omega)⟩
  obtain ⟨f,hf⟩:=Classical.axiomOfChoice (fun i:Fin len=>each i i.2)
  have h5:=bulk_length8 E
  refine ⟨List.ofFn f,by simp,?_,by simpa using h1,(fun e=>by cases e),by simp;omega⟩
  by_cases h0:len=0
  ·subst h0;exact .inl (by simp)
  ·obtain ⟨ea,hlt,_⟩:=hall 0 (by omega)
   refine .inr ⟨a.block,a.off,by rw [← ea],hlt,fun i hi=>?_⟩
   have hi' : i<len:=by simpa using hi
   simpa using hf ⟨i,hi'⟩
theorem open_trip8 {r:Go.Reach} {b0:Nat} {v:Value} {d:DataW H} {p:List MemPlace} (hv:Value.okWide Tryz.prog w r b0 49 v) (h:DataW.Trod enc Tryz.prog w 0 spare held 49 v d p) (hb:Rows.uptoBulk d≤1048576) :
  ∃ lo ll lc ls k r po pl pc ko kl kc so tc t a,v=.agg #[.slice lo ll lc,.int .i64 k,.int .i64 r,.slice po pl pc,.slice ko kl kc,.slice so t.length tc,.int .i64 a]∧SymsAt w lo ll ls∧ll≤maxLen∧(∃ (n:Nat) (c:Tr n),CsB (fun b=>b<w.heap.size) w n (.agg #[.int .i64 k,.int .i64 r,.slice po pl pc,.slice ko kl kc]) c∧SmW n c)∧Arg w so t tc:=by
 obtain ⟨cs,rfl,_⟩:=Go.WideShapes.okWide_struct Tryz.underlying49 hv
 obtain ⟨fuel,hf⟩:=h
 have hf' : DataW.trod enc Tryz.prog w 0 spare held fuel 49 cs.toList=some (d,p):=by simpa [Value.cells] using hf
 obtain ⟨y0,y1,y2,y3,n,_,hd,hl,h0,h1,h2,h3⟩:=trod_struct4 Tryz.underlying49 hf'
 rw [cells_Trip8] at hl
 obtain ⟨l⟩:=cs
 match l,hl with
 | [c0,c1,c2,c3,c4,c5,c6],_=>
  simp only [cells_syms,cells_Cs,cells_term,cells_int,List.drop_zero,List.take_succ_cons,List.take_zero,List.drop_succ_cons] at h0 h1 h2 h3
  have hbx:Rows.uptoBulk d=Rows.uptoBulk y0.1+(Rows.uptoBulk y1.1+(Rows.uptoBulk y2.1+(Rows.uptoBulk y3.1+0)))+1:=by
   have hd' : d=.agg [y0.1,y1.1,y2.1,y3.1]:=hd
   rw [hd'];simp only [Rows.uptoBulk,Rows.uptoBulkAll]
  obtain ⟨lo,ll,lc,rfl⟩:=slice_one Tryz.underlying22 h0
  obtain ⟨ls,s1,s2⟩:=open_syms h0
  obtain ⟨k,r,po,pl,pc,ko,kl,kc,e1⟩:=shape_case h1
  obtain ⟨c,q1,q2,_,_⟩:=open_tree (Rows.uptoBulk y1.1+1) _ _ _ h1 (Nat.lt_succ_self _) (by omega)
  obtain ⟨so,tl,tc,rfl⟩:=slice_one Tryz.underlying47 h2
  obtain ⟨t,rfl,u1⟩:=open_term8 h2 (by omega)
  obtain ⟨z,f4,_,_⟩:=DataW.trod_int Tryz.underlying3 h3
  simp only [List.cons.injEq,and_true] at e1 f4
  obtain ⟨rfl,rfl,rfl,rfl⟩:=e1
  subst f4
  exact ⟨lo,ll,lc,ls,k,r,po,pl,pc,ko,kl,kc,so,tc,t,z,rfl,s1,s2,⟨_,c,q1,q2.smW⟩,u1⟩
end
end Go.Proofs.YtfojfpnjnpkabaaGreat
