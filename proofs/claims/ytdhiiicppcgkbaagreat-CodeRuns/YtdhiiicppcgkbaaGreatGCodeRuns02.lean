import Derived.Test.YtdhiiicppcgkbaaGreatGB29
import Derived.Test.YtdhiiicppcgkbaaGreatGCodeRuns01
import Derived.Test.YtdhiiicppcgkbaaGreatGB03
import Derived.Test.YtdhiiicppcgkbaaGreatGB08
import Derived.SizedLaws
import Derived.Test.YtdhiiicppcgkbaaGreatGB16
import Derived.Test.YtdhiiicppcgkbaaGreatGB18
namespace Go.Proofs.YtdhiiicppcgkbaaGreat
set_option maxRecDepth 100000
set_option linter.unusedVariables false
open Go.RowKit
attribute [local go_sem ↓] Go.wp_at_zero Go.wp_at_succ
theorem row_max {base:Nat} {w:World} {v:Value} {xs:List Int} (h:Row base w v xs):xs.length≤maxLen:=by
 rcases h.2 with ⟨rfl,h0⟩ | ⟨g,cap,cur,rfl,hb,hg,h1,h2,h3,h4⟩
 ·omega
 ·omega
theorem row_own {base:Nat} {w:World} {ao:Option Addr} {n c:Nat} {xs:List Int} (h:Row base w (.slice ao n c) xs):IntsAt w ao xs∧∀ q,(Value.slice ao n c).ownBlock=some q→base≤q∧q<w.heap.size:=by
 refine ⟨?_,fun q e=>World.ownsRow.lt h q e⟩
 obtain ⟨a1,a2,e,i1,_⟩:=h.ints
 cases e
 exact i1
theorem ints_over {base:Nat} {w w' : World} {ao bo:Option Addr} {n c m d:Nat} {xs:List Int} {k:Nat} (h:Row base w (.slice ao n c) xs) (hb:k≤base) (hk:Kept (fun q=>(Value.slice bo m d).ownBlock=some q) w w') (hq:∀ q,(Value.slice bo m d).ownBlock=some q→q<k):IntsAt w' ao xs:=
 (row_own (hk.row h (fun q e f=>by have:=(row_own h).2 q e;have:=hq q f;omega))).1
set_option maxHeartbeats 16000000 in
theorem runs_walk {W:World} {ao:Option Addr} {len cap:Nat} {xs:List Sym} (hx:SymsAt W ao len xs) (hm:len≤maxLen) {io:Option Addr} {I:List I3} (hI:InsAt W io I) (hl:I.length≤140737488355328) {po:Option Addr} {P:List (List Int)} (hP:PthAt W po P) {eo:Option Addr} {E:List Int} (hE:IntsAt W eo E) (ic pc ec:Nat) (ro:Option Addr) (rl rc:Nat) {to' : Option Addr} {tc:Nat} {T:List Int} (ht:Arg W to' T tc) (n0 node:Int) :
  Calls Tryz.prog 5 #[.agg #[.slice ao len cap,.slice io I.length ic,.slice po P.length pc,.slice eo E.length ec,.slice ro rl rc,.int .i64 n0,.slice to' T.length tc,.int .i64 node]] W fun e w' => e=.returned (.bool true)∧Below W.heap.size W w' := by
 have hn1:=sg_nil8
 have hts:=ht.size
 have htm:T.length≤maxLen:=by unfold maxLen;omega
 obtain ⟨W1,hW1⟩:∃ W1,W1=W.alloc (.cells #[.slice ao len cap,.slice io I.length ic,.slice po P.length pc,.slice eo E.length ec,.slice ro rl rc,.int .i64 n0,.slice to' T.length tc,.int .i64 node] 66):=⟨_,rfl⟩
 have KW:Same0 W W1:=by rw [hW1];exact (Kept.refl _ W).alloc _
 have h0:W1.heap[W.heap.size]? = some (.cells #[.slice ao len cap,.slice io I.length ic,.slice po P.length pc,.slice eo E.length ec,.slice ro rl rc,.int .i64 n0,.slice to' T.length tc,.int .i64 node] 66 (0,0)):=by rw [hW1];exact heap_alloc_new W _
 have BX:Hid (∀ ww,Same0 W1 ww→ww.cell? ⟨W.heap.size,0,none⟩=some (.slice ao len cap)∧ww.cell? ⟨W.heap.size,1,none⟩=some (.slice io I.length ic)∧ww.cell? ⟨W.heap.size,2,none⟩=some (.slice po P.length pc)∧ww.cell? ⟨W.heap.size,3,none⟩=some (.slice eo E.length ec)∧ww.cell? ⟨W.heap.size,4,none⟩=some (.slice ro rl rc)∧ww.cell? ⟨W.heap.size,5,none⟩=some (.int .i64 n0)∧ww.cell? ⟨W.heap.size,6,none⟩=some (.slice to' T.length tc)∧ww.cell? ⟨W.heap.size,7,none⟩=some (.int .i64 node)):=fun ww hk=>by
  have h1:=hk.at0 h0
  exact ⟨cellAt h1 0,cellAt h1 1,cellAt h1 2,cellAt h1 3,cellAt h1 4,cellAt h1 5,cellAt h1 6,cellAt h1 7⟩
 have CA:=awake9_any W1
 clear h0
 go_enter Tryz.func5,Tryz.ntmps5
 go_upto_region 1 with fail
 rw [← hW1]
 clear hW1
 go_upto_region 2 with (first | (go_at_call 10;refine CA.mono ?_;rintro e w2 ⟨rfl,k2⟩))
 have CM:=made_both ao len cap xs w2 (hx.same8 (KW.trans' k2)) hm
 generalize madeL xs=L at CM
 obtain ⟨x0,x1,x2,x3,x4,x5,x6,x7⟩:=BX.out w2 k2
 clear hx hm CA
 go_upto_region 3 with (first | (go_at_call 23;refine CM.mono ?_;rintro e w3 ⟨b,so,sc,sv,mr,rfl,hsg,hft,hS,hR,hRf,k3⟩))
 clear x0 x1 x2 x3 x4 x5 x6 x7 CM hsg hft hRf
 go_upto_region 5 with fail
 have K3:=k2.trans' k3
 have kA:Same0 w3 (w3.alloc (.cells #[] 3)):=(Kept.refl _ w3).alloc _
 have iA:=ht.at'.same ((KW.trans' K3).trans' kA)
 have nA:=ht.nil
 obtain ⟨x0,x1,x2,x3,x4,x5,x6,x7⟩:=BX.out _ (K3.trans' kA)
 have rA:Row w3.heap.size (w3.alloc (.cells #[] 3)) (.slice (some ⟨w3.heap.size,0,none⟩) 0 0) []:=row_empty w3 w3.heap.size (Nat.le_refl _) rfl
 have zA:w3.heap.size≤(w3.alloc (.cells #[] 3)).heap.size:=kA.size
 have z1:(([]:List Int).length+T.length) * 8≤140737488355328:=by simp;omega
 have z2:(T.length+1) * 8≤140737488355328:=by omega
 go_upto_region 6 with (first | (at_builtin;refine wpList_more9 rfl _ _ 64 rfl Tryz.underlying64 w3.heap.size [] (.slice (some ⟨w3.heap.size,0,none⟩) 0 0) rfl rA T to' T.length tc rfl rfl iA nA zA z1 ?_;intro v4 w4 r4 k4;have m4:w3.heap.size≤w4.heap.size:=Nat.le_trans zA k4.size;rw [List.nil_append] at r4) | (at_builtin;refine wpList_push rfl _ _ 64 rfl Tryz.underlying64 w3.heap.size T v4 rfl r4 7 rfl m4 z2 ?_;intro ga ca w5 r5 k5 _))
 have k35:Same0 w3 w5:=(kA.onto rA k4).onto r4 k5
 have g5:=(row_own r5).2 ga rfl
 have HC5:T.length+1≤ca:=by
  obtain ⟨a1,a2,e,_,i2,_⟩:=r5.ints
  simp only [Value.slice.injEq] at e
  obtain ⟨-, -,rfl⟩:=e
  simpa using i2
 have CO:=over_any (hS.same k35) (ao:=some ⟨ga,0,none⟩) (cap:=ca) (T:=T) ⟨row_prefix r5,by omega,fun e=>(by cases e),hts⟩
 clear x0 x1 x2 x3 x4 x5 x6 x7 kA iA nA rA zA z1 z2 r4 k4 k5 m4
 obtain ⟨x0,x1,x2,x3,x4,x5,x6,x7⟩:=BX.out w5 (K3.trans' k35)
 have c1:(T.length:Int)≤(ca:Int):=by omega
 have c2:(0:Int)≤(T.length:Int):=by omega
 go_upto_region 7 with (first | (go_at_call 24;refine CO.mono ?_;rintro e w6 ⟨ho,hn,hc,go,gn,gc,rfl,hV,k6⟩))
 obtain ⟨w7,hw7⟩:∃ w7,w7=w6.alloc (.cells #[.slice ho hn hc,.slice go gn gc] 70):=⟨_,rfl⟩
 have k7:Same0 w6 w7:=by rw [hw7];exact (Kept.refl _ _).alloc _
 have hb7:w7.heap[w6.heap.size]? = some (.cells #[.slice ho hn hc,.slice go gn gc] 70 (0,0)):=by rw [hw7];exact heap_alloc_new w6 _
 rw [← hw7]
 clear hw7 CO x0 x1 x2 x3 x4 x5 x6 x7
 have k57:=k6.trans' k7
 have r7:Row w3.heap.size w7 (.slice (some ⟨ga,0,none⟩) (T.length+1) ca) (T ++ [7]):=k57.row r5 (fun _ _ f=>f)
 obtain ⟨M,hM⟩:∃ M,M=T.length+1:=⟨_,rfl⟩
 have R0:Hid (OverA w3.heap.size (.slice (some ⟨ga,0,none⟩) M ca) (fun q=>q=ga) M w7 w7):=⟨T ++ [7],by rw [hM];simp,by rw [hM];exact r7,fun q e=>by simp only [Value.ownBlock,Option.some.injEq] at e;exact e.symm,Kept.refl _ _⟩
 have z6:=k6.size
 have HK:Hid (∀ wr,OverA w3.heap.size (.slice (some ⟨ga,0,none⟩) M ca) (fun q=>q=ga) M w7 wr→Same0 w3 wr∧wr.heap[w6.heap.size]? = some (.cells #[.slice ho hn hc,.slice go gn gc] 70 (0,0))∧VwAt w5.heap.size wr L (clsB L T) T (.agg #[.slice ho hn hc,.slice go gn gc])):=fun wr ⟨zs,_,_,_,hKz⟩=>⟨Kept.trans (k35.trans' k57) hKz (fun i hi e=>by omega),(hKz.block _ (lt_of_at hb7) (fun e=>by omega)).trans hb7,(hV.same k7).kept hKz (fun k hk e=>by omega)⟩
 have HML:Hid (M≤17592186044416):=by show _≤_;omega
 rw [← hM]
 clear r5 r7 hM k57 hb7 hV
 go_wp2_with fail
 go_loopw [8] (fun i wr=>∃ k:Nat,k≤M∧i=.int .i64 (k:Int)∧Hid (OverA w3.heap.size (.slice (some ⟨ga,0,none⟩) M ca) (fun q=>q=ga) M w7 wr)) (fun i _=>M-(intOf i).toNat)
 case atStart=>exact ⟨0,Nat.zero_le _,rfl,R0⟩
 case round=>
  clear R0
  obtain ⟨k,hk,rfl,hO⟩:=hrel
  by_cases hlt:k<M
  ·obtain ⟨g,eg,old,f1,f2⟩:=hO.out.at hlt
   cases eg
   have hO' : Hid _:=hO.out.store k 3
   have hl2:=HML.out
   have hl3:IntKind.i64.wrap ((k:Int)+1)=(k:Int)+1:=iwrap (by omega) (by omega)
   have j1:(0:Int)≤(k:Int):=by omega
   have j2:(k:Int)<(M:Int):=by omega
   clear hO HK hl2
   go_wp2_with fail
   exact ⟨⟨k+1,by omega,by go_num,hO'⟩,by simp [intOf];omega⟩
  ·obtain ⟨KR,hbv,hVr⟩:=HK.out wr hO.out
   clear hO HK
   obtain ⟨wa,rfl⟩:∃ wa,wa=wr:=⟨_,rfl⟩
   have j2:¬ (k:Int)<(M:Int):=by omega
   have K1:=K3.trans' KR
   have K0:=KW.trans' K1
   have HB:Hid (∀ ww,Same0 wa ww→(ww.cell? ⟨W.heap.size,0,none⟩=some (.slice ao len cap)∧ww.cell? ⟨W.heap.size,1,none⟩=some (.slice io I.length ic)∧ww.cell? ⟨W.heap.size,2,none⟩=some (.slice po P.length pc)∧ww.cell? ⟨W.heap.size,3,none⟩=some (.slice eo E.length ec)∧ww.cell? ⟨W.heap.size,4,none⟩=some (.slice ro rl rc)∧ww.cell? ⟨W.heap.size,5,none⟩=some (.int .i64 n0)∧ww.cell? ⟨W.heap.size,6,none⟩=some (.slice to' T.length tc)∧ww.cell? ⟨W.heap.size,7,none⟩=some (.int .i64 node))∧ww.cell? ⟨w6.heap.size,0,none⟩=some (.slice ho hn hc)∧ww.cell? ⟨w6.heap.size,1,none⟩=some (.slice go gn gc)):=fun ww hk=>⟨BX.out ww (K1.trans' hk),cellAt (hk.at0 hbv) 0,cellAt (hk.at0 hbv) 1⟩
   obtain ⟨R,hRR⟩:∃ R,R=codeF L (clsB L T) T I P E n0 node:=⟨_,rfl⟩
   have CR:∀ ww,Same0 wa ww→Calls Tryz.prog 25 #[.agg #[.slice io I.length ic,.slice po P.length pc,.slice eo E.length ec,.slice ro rl rc],.int .i64 n0,.iface 70 (.agg #[.slice ho hn hc,.slice go gn gc]),.int .i64 node] ww (FndOut ww R):=fun ww hk=>by rw [hRR];exact run_any (hVr.same hk) (hI.same (K0.trans' hk)) hl (hP.same (K0.trans' hk)) (hE.same (K0.trans' hk)) ic pc ec ro rl rc n0 node
   have CF:∀ ww,Same0 wa ww→Calls Tryz.prog 26 #[.agg #[.slice io I.length ic,.slice po P.length pc,.slice eo E.length ec,.slice ro rl rc],.int .i64 n0,.slice so L.length sc,.slice to' T.length tc,.int .i64 node] ww (FndOut ww R):=fun ww hk=>by rw [hRR];exact rrun_any (hR.same (KR.trans' hk)) (ht.at'.same (K0.trans' hk)) htm (hI.same (K0.trans' hk)) hl (hP.same (K0.trans' hk)) (hE.same (K0.trans' hk)) ic pc ec ro rl rc n0 node
   clear hRR
   obtain ⟨rk,rr,rp,rn,re⟩:=R
   have CRH:Hid (∀ ww,Same0 wa ww→Calls Tryz.prog 25 #[.agg #[.slice io I.length ic,.slice po P.length pc,.slice eo E.length ec,.slice ro rl rc],.int .i64 n0,.iface 70 (.agg #[.slice ho hn hc,.slice go gn gc]),.int .i64 node] ww fun e w' => ∃ qo qc,e=.returned (.tuple #[.agg #[.int .i64 rk,.int .i64 rr,.slice qo rp.length qc,.int .i64 rn],.int .i64 re])∧Hid (Row ww.heap.size w' (.slice qo rp.length qc) rp)∧Same0 ww w'):=CR
   have CFH:Hid (∀ ww,Same0 wa ww→Calls Tryz.prog 26 #[.agg #[.slice io I.length ic,.slice po P.length pc,.slice eo E.length ec,.slice ro rl rc],.int .i64 n0,.slice so L.length sc,.slice to' T.length tc,.int .i64 node] ww fun e w' => ∃ qo qc,e=.returned (.tuple #[.agg #[.int .i64 rk,.int .i64 rr,.slice qo rp.length qc,.int .i64 rn],.int .i64 re])∧Hid (Row ww.heap.size w' (.slice qo rp.length qc) rp)∧Same0 ww w'):=CF
   have BF:Hid (∀ (u:World) (q:Option Addr) (c:Nat),∃ v,v=u.alloc (.cells #[.int .i64 rk,.int .i64 rr,.slice q rp.length c,.int .i64 rn] 73)∧Same0 u v∧v.heap[u.heap.size]? = some (.cells #[.int .i64 rk,.int .i64 rr,.slice q rp.length c,.int .i64 rn] 73 (0,0))):=fun u q c=>⟨_,rfl,(Kept.refl _ _).alloc _,heap_alloc_new u _⟩
   clear CR CF hVr hbv hI hP hE hl ht hR hS hts htm BX c1 c2 HC5 HML
   obtain ⟨⟨x0,x1,x2,x3,x4,x5,x6,x7⟩,y0,y1⟩:=HB.out wa (Kept.refl _ _)
   have e1:=CRH.out wa (Kept.refl _ _)
   go_upto_region 12 with (first | (go_at_call 25;refine e1.mono ?_;rintro e w8 ⟨ao1,ac1,rfl,r1,k8⟩))
   obtain ⟨w9,hw9,k9,b9⟩:=BF.out w8 ao1 ac1
   rw [← hw9]
   have s9:=k8.trans' k9
   clear hw9 e1 x0 x1 x2 x3 x4 x5 x6 x7 y0 y1
   obtain ⟨⟨x0,x1,x2,x3,x4,x5,x6,x7⟩,y0,y1⟩:=HB.out w9 s9
   have e1:=CRH.out w9 s9
   go_upto_region 13 with (first | (go_at_call 25;refine e1.mono ?_;rintro e w10 ⟨ao2,ac2,rfl,r2,k10⟩))
   obtain ⟨w11,hw11,k11,b11⟩:=BF.out w10 ao2 ac2
   rw [← hw11]
   have k911:=k10.trans' k11
   have s11:=s9.trans' k911
   clear hw11 e1 x0 x1 x2 x3 x4 x5 x6 x7 y0 y1
   obtain ⟨⟨x0,x1,x2,x3,x4,x5,x6,x7⟩,y0,y1⟩:=HB.out w11 s11
   have e1:=CFH.out w11 s11
   go_upto_region 14 with (first | (go_at_call 26;refine e1.mono ?_;rintro e w12 ⟨ao3,ac3,rfl,r3,k12⟩))
   obtain ⟨w13,hw13,k13,b13⟩:=BF.out w12 ao3 ac3
   rw [← hw13]
   have k1113:=k12.trans' k13
   have k913:=k911.trans' k1113
   have s13:=s11.trans' k1113
   clear hw13 e1 x0 x1 x2 x3 x4 x5 x6 x7 y0 y1
   have q1:Row wa.heap.size w13 (.slice ao1 rp.length ac1) rp:=(k9.trans' k913).row r1.out (fun _ _ f=>f)
   have q2:Row w9.heap.size w13 (.slice ao2 rp.length ac2) rp:=(k11.trans' k1113).row r2.out (fun _ _ f=>f)
   have q3:Row w11.heap.size w13 (.slice ao3 rp.length ac3) rp:=k13.row r3.out (fun _ _ f=>f)
   have hrm:=row_max q1
   have o1:=(row_own r1.out).2
   have B9:=k913.at0 b9
   have B11:=k1113.at0 b11
   have HF:Hid (∀ ww ao1 ac1 ao3 ac3,IntsAt ww ao1 rp→IntsAt ww ao3 rp→Calls Tryz.prog 27 #[.agg #[.int .i64 rk,.int .i64 rr,.slice ao1 rp.length ac1,.int .i64 rn],.agg #[.int .i64 rk,.int .i64 rr,.slice ao3 rp.length ac3,.int .i64 rn]] ww fun e w' => e=.returned (.bool true)∧Same0 ww w'):=fun ww _ _ _ _ h1 h2=>fsame_any h1 h2 hrm
   have HX:Hid (∀ ww,Same0 w13 ww→(ww.cell? ⟨w8.heap.size,0,none⟩=some (.int .i64 rk)∧ww.cell? ⟨w8.heap.size,1,none⟩=some (.int .i64 rr)∧ww.cell? ⟨w8.heap.size,2,none⟩=some (.slice ao1 rp.length ac1)∧ww.cell? ⟨w8.heap.size,3,none⟩=some (.int .i64 rn))∧ww.cell? ⟨w12.heap.size,0,none⟩=some (.int .i64 rk)∧ww.cell? ⟨w12.heap.size,1,none⟩=some (.int .i64 rr)∧ww.cell? ⟨w12.heap.size,2,none⟩=some (.slice ao3 rp.length ac3)∧ww.cell? ⟨w12.heap.size,3,none⟩=some (.int .i64 rn)):=fun ww hk=>by
    have a:=hk.at0 B9
    have b:=hk.at0 b13
    exact ⟨⟨cellAt a 0,cellAt a 1,cellAt a 2,cellAt a 3⟩,cellAt b 0,cellAt b 1,cellAt b 2,cellAt b 3⟩
   have z8:=k8.size
   have z9:=k9.size
   have zz:w8.heap.size<w9.heap.size:=lt_of_at b9
   have z11:=k911.size
   have z10:=k10.size
   have z12:=k12.size
   have z911:w9.heap.size≤w11.heap.size:=k911.size
   have K0a:=K0.size
   have HK2:Hid (∀ w14 wz,Same0 w13 w14→OverA wa.heap.size (.slice ao1 rp.length ac1) (fun q=>(Value.slice ao1 rp.length ac1).ownBlock=some q) rp.length w14 wz→wz.cell? ⟨w8.heap.size,2,none⟩=some (.slice ao1 rp.length ac1)∧((wz.cell? ⟨w10.heap.size,0,none⟩=some (.int .i64 rk)∧wz.cell? ⟨w10.heap.size,1,none⟩=some (.int .i64 rr)∧wz.cell? ⟨w10.heap.size,2,none⟩=some (.slice ao2 rp.length ac2)∧wz.cell? ⟨w10.heap.size,3,none⟩=some (.int .i64 rn))∧wz.cell? ⟨w12.heap.size,0,none⟩=some (.int .i64 rk)∧wz.cell? ⟨w12.heap.size,1,none⟩=some (.int .i64 rr)∧wz.cell? ⟨w12.heap.size,2,none⟩=some (.slice ao3 rp.length ac3)∧wz.cell? ⟨w12.heap.size,3,none⟩=some (.int .i64 rn))∧Hid (IntsAt wz ao2 rp∧IntsAt wz ao3 rp∧Same0 W wz)):=fun w14 wz hk ⟨zs,_,_,_,hKz⟩=>by
    have a:=(hKz.block _ (lt_of_at (hk.at0 B9)) (fun e=>by have:=(o1 _ e).2;omega)).trans (hk.at0 B9)
    have b:=(hKz.block _ (lt_of_at (hk.at0 B11)) (fun e=>by have:=(o1 _ e).2;omega)).trans (hk.at0 B11)
    have c:=(hKz.block _ (lt_of_at (hk.at0 b13)) (fun e=>by have:=(o1 _ e).2;omega)).trans (hk.at0 b13)
    have p2:=ints_over (hk.row q2 (fun _ _ f=>f)) (Nat.le_of_lt zz) hKz (fun q e=>(o1 q e).2)
    have p3:=ints_over (k:=w8.heap.size) (hk.row q3 (fun _ _ f=>f)) (by omega) hKz (fun q e=>(o1 q e).2)
    exact ⟨cellAt a 2,⟨⟨cellAt b 0,cellAt b 1,cellAt b 2,cellAt b 3⟩,cellAt c 0,cellAt c 1,cellAt c 2,cellAt c 3⟩,p2,p3,Kept.trans (K0.trans' (s13.trans' hk)) hKz (fun i hi e=>by have:=(o1 _ e).1;omega)⟩
   obtain ⟨⟨x0,x1,x2,x3⟩,y0,y1,y2,y3⟩:=HX.out w13 (Kept.refl _ _)
   have e1:=HF.out w13 ao1 ac1 ao3 ac3 (row_own q1).1 (row_own q3).1
   have HQ1:Hid (Row wa.heap.size w13 (.slice ao1 rp.length ac1) rp):=q1
   have HRM:Hid (rp.length≤maxLen):=hrm
   clear q1 q2 q3 hrm o1 B9 B11 b9 b11 b13 r1 r2 r3 HX CRH CFH BF
   go_upto_region 15 with (first | (go_at_call 27;refine e1.mono ?_;rintro e w14 ⟨rfl,k14⟩))
   clear x0 x1 x2 x3 y0 y1 y2 y3 e1
   have R0:Hid (OverA wa.heap.size (.slice ao1 rp.length ac1) (fun q=>(Value.slice ao1 rp.length ac1).ownBlock=some q) rp.length w14 w14):=⟨rp,rfl,k14.row HQ1.out (fun _ _ f=>f),fun q e=>e,Kept.refl _ _⟩
   clear HQ1
   go_wp2_with fail
   go_loopw [16] (fun i wz=>∃ j:Nat,j≤rp.length∧i=.int .i64 (j:Int)∧Hid (OverA wa.heap.size (.slice ao1 rp.length ac1) (fun q=>(Value.slice ao1 rp.length ac1).ownBlock=some q) rp.length w14 wz)) (fun i _=>rp.length-(intOf i).toNat)
   case atStart=>exact ⟨0,Nat.zero_le _,rfl,R0⟩
   case round=>
    clear R0
    obtain ⟨wz,rfl⟩:∃ wz,wz=wr:=⟨_,rfl⟩
    obtain ⟨j,hj,rfl,hO⟩:=hrel
    obtain ⟨x2,⟨⟨y0,y1,y2,y3⟩,v0,v1,v2,v3⟩,HZ⟩:=HK2.out w14 wz k14 hO.out
    by_cases hlt2:j<rp.length
    ·obtain ⟨g,rfl,old,f1,f2⟩:=hO.out.at hlt2
     have hO' : Hid _:=hO.out.store j 66
     have hl2:=HRM.out
     have hl3:IntKind.i64.wrap ((j:Int)+1)=(j:Int)+1:=iwrap (by omega) (by unfold maxLen at hl2;omega)
     have j1:(0:Int)≤(j:Int):=by omega
     have j3:(j:Int)<(rp.length:Int):=by omega
     clear hO HK2 hl2 HZ y0 y1 y2 y3 v0 v1 v2 v3
     go_wp2_with fail
     exact ⟨⟨j+1,by omega,by go_num,hO'⟩,by simp [intOf];omega⟩
    ·have j3:¬ (j:Int)<(rp.length:Int):=by omega
     obtain ⟨p2,p3,p4⟩:=HZ.out
     have e1:=HF.out wz ao2 ac2 ao3 ac3 p2 p3
     have FIN:Hid (Same0 W wz):=p4
     clear hO HK2 HF p2 p3 p4 HZ
     go_wp2_with (first | (go_at_call 27;refine e1.mono ?_;rintro e w15 ⟨rfl,k15⟩))
     go_ret
     exact ⟨rfl,(FIN.out.trans' k15).below⟩
end Go.Proofs.YtdhiiicppcgkbaaGreat
namespace Go.Proofs.YtdhiiicppcgkbaaGreat
set_option maxRecDepth 100000
set_option linter.unusedVariables false
open Go.RowKit Go.Deep
section
variable {H : Type} {enc : TypeId × Value → H} {w : World} {spare : Nat → Bool} {held : Bool}
theorem trod_struct4 {P:Program} {base:Nat} {t:TypeId} {f0 f1 f2 f3:Field} {fuel:Nat} {cs:List Value} {x:DataW H × List MemPlace} (ht:P.underlying t=some (.struct #[f0,f1,f2,f3])) (h:DataW.trod enc P w base spare held fuel t cs=some x) :
  ∃ y0 y1 y2 y3 n,n<fuel∧x.1=.agg [y0.1,y1.1,y2.1,y3.1]∧cs.length=P.cellsOf t∧DataW.trod enc P w base spare held n f0.type ((cs.drop f0.offset).take (P.cellsOf f0.type))=some y0 ∧
   DataW.trod enc P w base spare held n f1.type ((cs.drop f1.offset).take (P.cellsOf f1.type))=some y1∧DataW.trod enc P w base spare held n f2.type ((cs.drop f2.offset).take (P.cellsOf f2.type))=some y2 ∧
   DataW.trod enc P w base spare held n f3.type ((cs.drop f3.offset).take (P.cellsOf f3.type))=some y3:=by
 obtain ⟨xs,n,hn,rfl,hl,hlen,hf⟩:=DataW.trod_struct ht h
 match xs,hlen with
 | [y0,y1,y2,y3],_=>exact ⟨y0,y1,y2,y3,n,by omega,by simp,hl,by simpa using hf 0 f0 rfl,by simpa using hf 1 f1 rfl,by simpa using hf 2 f2 rfl,by simpa using hf 3 f3 rfl⟩
theorem cells_Cs:Tryz.prog.cellsOf 25=4:=by kernel_rfl
theorem cells_kids:Tryz.prog.cellsOf 23=1:=by kernel_rfl
end
section
variable {H : Type} {enc : TypeId × Value → H} {w : World} {spare : Nat → Bool} {held : Bool}
theorem cells_Code9:Tryz.prog.cellsOf 45=4:=by kernel_rfl
theorem cells_Ins9:Tryz.prog.cellsOf 27=1:=by kernel_rfl
theorem cells_Paths9:Tryz.prog.cellsOf 28=1:=by kernel_rfl
theorem cells_Rights9:Tryz.prog.cellsOf 43=1:=by kernel_rfl
theorem shape_code {fuel:Nat} {cs:List Value} {x:DataW H × List MemPlace} (h:DataW.trod enc Tryz.prog w 0 spare held fuel 45 cs=some x):∃ io il ic po pl pc eo el ec ro rl rc,cs=[.slice io il ic,.slice po pl pc,.slice eo el ec,.slice ro rl rc]:=by
 obtain ⟨y0,y1,y2,y3,n,_,hd,hl,h0,h1,h2,h3⟩:=trod_struct4 Tryz.underlying45 h
 rw [cells_Code9] at hl
 match cs,hl with
 | [c0,c1,c2,c3],_=>
  simp only [cells_Ins9,cells_ints,cells_Paths9,cells_Rights9,List.drop_zero,List.take_succ_cons,List.take_zero,List.drop_succ_cons] at h0 h1 h2 h3
  obtain ⟨io,il,ic,rfl⟩:=slice_one Tryz.underlying27 h0
  obtain ⟨po,pl,pc,rfl⟩:=slice_one Tryz.underlying28 h1
  obtain ⟨eo,el,ec,rfl⟩:=slice_one Tryz.underlying22 h2
  obtain ⟨ro,rl,rc,rfl⟩:=slice_one Tryz.underlying43 h3
  exact ⟨io,il,ic,po,pl,pc,eo,el,ec,ro,rl,rc,rfl⟩
theorem open_code9 {r:Go.Reach} {b0:Nat} {v:Value} {d:DataW H} {p:List MemPlace} (hv:Value.okWide Tryz.prog w r b0 45 v) (h:DataW.Trod enc Tryz.prog w 0 spare held 45 v d p):∃ io il ic po pl pc eo el ec ro rl rc,v=.agg #[.slice io il ic,.slice po pl pc,.slice eo el ec,.slice ro rl rc]:=by
 obtain ⟨cs,rfl,_⟩:=Go.WideShapes.okWide_struct Tryz.underlying45 hv
 obtain ⟨fuel,hf⟩:=h
 obtain ⟨io,il,ic,po,pl,pc,eo,el,ec,ro,rl,rc,e⟩:=shape_code (show DataW.trod enc Tryz.prog w 0 spare held fuel 45 cs.toList=some (d,p) by simpa [Value.cells] using hf)
 refine ⟨io,il,ic,po,pl,pc,eo,el,ec,ro,rl,rc,?_⟩
 congr 1
 cases cs
 simp only at e
 rw [e]
end
section
variable {H : Type} {enc : TypeId × Value → H} {w : World} {spare : Nat → Bool} {held : Bool}
theorem cells_In9:Tryz.prog.cellsOf 34=3:=by kernel_rfl
theorem bytes_In9:Tryz.prog.bytesOf 34=24:=by kernel_rfl
theorem cells_Trip9:Tryz.prog.cellsOf 66=8:=by kernel_rfl
theorem open_ins9 {fuel:Nat} {ao:Option Addr} {len cap:Nat} {x:DataW H × List MemPlace} (h:DataW.trod enc Tryz.prog w 0 spare held fuel 27 [.slice ao len cap]=some x) (hw:∀ n∈x.1.weights Tryz.prog 27,n≤reachBytes) :
  ∃ I:List I3,I.length=len∧InsAt w ao I∧len≤140737488355328:=by
 rcases open_elems7 Tryz.underlying27 cells_In9 (by omega) h hw with ⟨rfl,rfl,rfl⟩ | ⟨a,rfl,hl1,hl2,hsz,hall⟩
 ·exact ⟨[],rfl,.inl rfl,by omega⟩
 ·rw [bytes_In9] at hsz
  have each:∀ i,i<len→∃ y:I3,w.cell? ⟨a.block,a.off+i * 3,none⟩=some (.int .i64 y.1)∧w.cell? ⟨a.block,a.off+i * 3+1,none⟩=some (.int .i64 y.2.1)∧w.cell? ⟨a.block,a.off+i * 3+2,none⟩=some (.int .i64 y.2.2):=by
   intro i hi
   obtain ⟨_,_,cs,n,y,hl,hcell,hy,_⟩:=hall i hi
   obtain ⟨y0,y1,y2,n', _,hl', g0,g1,g2⟩:=trod_struct3 Tryz.underlying34 hy
   match cs,hl with
   | [c0,c1,c2],_=>
    simp only [cells_int,List.drop_zero,List.take_succ_cons,List.take_zero,List.drop_succ_cons] at g0 g1 g2
    obtain ⟨p,e0,_,_⟩:=DataW.trod_int Tryz.underlying3 g0
    obtain ⟨q,e1,_,_⟩:=DataW.trod_int Tryz.underlying3 g1
    obtain ⟨r,e2,_,_⟩:=DataW.trod_int Tryz.underlying3 g2
    simp only [List.cons.injEq,and_true] at e0 e1 e2
    subst e0 e1 e2
    exact ⟨(p,q,r),by simpa using hcell 0 (by omega),by simpa using hcell 1 (by omega),by simpa using hcell 2 (by omega)⟩
  obtain ⟨f,hf⟩:=Classical.axiomOfChoice (r:=fun (i:Fin len) (y:I3)=>w.cell? ⟨a.block,a.off+i * 3,none⟩=some (.int .i64 y.1)∧w.cell? ⟨a.block,a.off+i * 3+1,none⟩=some (.int .i64 y.2.1)∧w.cell? ⟨a.block,a.off+i * 3+2,none⟩=some (.int .i64 y.2.2)) (fun i=>each i i.2)
  refine ⟨List.ofFn f,by simp,?_,by simp [reachBytes] at hsz;omega⟩
  by_cases h0:len=0
  ·subst h0;exact .inl (by simp)
  ·obtain ⟨ea,hlt,_⟩:=hall 0 (by omega)
   refine .inr ⟨a.block,a.off,by rw [← ea],hlt,fun i hi=>?_⟩
   have hi' : i<len:=by simpa using hi
   simpa using hf ⟨i,hi'⟩
theorem open_pths9 {fuel:Nat} {ao:Option Addr} {len cap:Nat} {x:DataW H × List MemPlace} (h:DataW.trod enc Tryz.prog w 0 spare held fuel 28 [.slice ao len cap]=some x) (hw:∀ n∈x.1.weights Tryz.prog 28,n≤reachBytes) :
  ∃ P:List (List Int),P.length=len∧PthAt w ao P:=by
 rcases open_elems7 Tryz.underlying28 cells_ints (by omega) h hw with ⟨rfl,rfl,rfl⟩ | ⟨a,rfl,hl1,hl2,hsz,hall⟩
 ·exact ⟨[],rfl,.inl rfl⟩
 ·have each:∀ i,i<len→∃ y:List Int,∃ ao ac,w.cell? ⟨a.block,a.off+i,none⟩=some (.slice ao y.length ac)∧Arg w ao y ac:=by
   intro i hi
   obtain ⟨_,_,cs,n,y,hl,hcell,hy,hyw⟩:=hall i hi
   obtain ⟨xo,xc,xs,e0,k0⟩:=open_ints Tryz.underlying22 hy hyw
   subst e0
   exact ⟨xs,xo,xc,by simpa using hcell 0 (by omega),k0⟩
  obtain ⟨f,hf⟩:=Classical.axiomOfChoice (r:=fun (i:Fin len) (y:List Int)=>∃ ao ac,w.cell? ⟨a.block,a.off+i,none⟩=some (.slice ao y.length ac)∧Arg w ao y ac) (fun i=>each i i.2)
  refine ⟨List.ofFn f,by simp,?_⟩
  by_cases h0:len=0
  ·subst h0;exact .inl (by simp)
  ·obtain ⟨ea,hlt,_⟩:=hall 0 (by omega)
   refine .inr ⟨a.block,a.off,by rw [← ea],hlt,fun i hi=>?_⟩
   have hi' : i<len:=by simpa using hi
   simpa using hf ⟨i,hi'⟩
theorem trip_weights9 {d0 d1 d2 d3 d4:DataW H} (hw:∀ n∈(DataW.agg [d0,d1,d2,d3,d4]).weights Tryz.prog 66,n≤reachBytes) :
  (∀ n∈d1.weights Tryz.prog 45,n≤reachBytes)∧∀ n∈d3.weights Tryz.prog 64,n≤reachBytes:=by
 have hww:∀ n∈DataW.weightsEach Tryz.prog [36,45,3,64,3] [d0,d1,d2,d3,d4],n≤reachBytes:=by
  intro n hn
  apply hw
  simpa [DataW.weights,Tryz.underlying66] using hn
 simp only [DataW.weightsEach,List.mem_append] at hww
 exact ⟨fun n hn=>hww n (by simp [hn]),fun n hn=>hww n (by simp [hn])⟩
theorem code_weights9 {d0 d1 d2 d3:DataW H} (hw:∀ n∈(DataW.agg [d0,d1,d2,d3]).weights Tryz.prog 45,n≤reachBytes) :
  (∀ n∈d0.weights Tryz.prog 27,n≤reachBytes)∧(∀ n∈d1.weights Tryz.prog 28,n≤reachBytes)∧∀ n∈d2.weights Tryz.prog 22,n≤reachBytes:=by
 have hww:∀ n∈DataW.weightsEach Tryz.prog [27,28,22,43] [d0,d1,d2,d3],n≤reachBytes:=by
  intro n hn
  apply hw
  simpa [DataW.weights,Tryz.underlying45] using hn
 simp only [DataW.weightsEach,List.mem_append] at hww
 exact ⟨fun n hn=>hww n (by simp [hn]),fun n hn=>hww n (by simp [hn]),fun n hn=>hww n (by simp [hn])⟩
structure TripIs (w:World) (v:Value) (lo:Option Addr) (ll lc:Nat) (ls:List Sym) (io:Option Addr) (ic:Nat) (I:List I3) (po:Option Addr) (pc:Nat) (P:List (List Int)) (eo:Option Addr) (ec:Nat) (E:List Int) (ro:Option Addr) (rl rc:Nat) (n0:Int) (so:Option Addr) (tc:Nat) (t:List Int) (node:Int):Prop where
 eq:v=.agg #[.slice lo ll lc,.slice io I.length ic,.slice po P.length pc,.slice eo E.length ec,.slice ro rl rc,.int .i64 n0,.slice so t.length tc,.int .i64 node]
 syms:SymsAt w lo ll ls
 sl:ll≤maxLen
 ins:InsAt w io I
 il:I.length≤140737488355328
 pths:PthAt w po P
 ents:IntsAt w eo E
 t' : Arg w so t tc
theorem open_trip {r:Go.Reach} {b0:Nat} {v:Value} {d:DataW H} {p:List MemPlace} (hv:Value.okWide Tryz.prog w r b0 66 v) (h:DataW.Trod enc Tryz.prog w 0 spare held 66 v d p) (hw:∀ n∈d.weights Tryz.prog 66,n≤reachBytes) :
  ∃ lo ll lc ls io ic I po pc P eo ec E ro rl rc n0 so tc t node,TripIs w v lo ll lc ls io ic I po pc P eo ec E ro rl rc n0 so tc t node:=by
 obtain ⟨cs,rfl,_⟩:=Go.WideShapes.okWide_struct Tryz.underlying66 hv
 obtain ⟨fuel,hf⟩:=h
 have hf' : DataW.trod enc Tryz.prog w 0 spare held fuel 66 cs.toList=some (d,p):=by simpa [Value.cells] using hf
 obtain ⟨y0,y1,y2,y3,y4,n,hd,hl,h0,h1,h2,h3,h4⟩:=trod_struct5 Tryz.underlying66 hf'
 rw [cells_Trip9] at hl
 obtain ⟨l⟩:=cs
 match l,hl with
 | [c0,c1,c2,c3,c4,c5,c6,c7],_=>
  simp only [cells_syms,cells_Code9,cells_term,cells_int,List.drop_zero,List.take_succ_cons,List.take_zero,List.drop_succ_cons] at h0 h1 h2 h3 h4
  have hd' : d=.agg [y0.1,y1.1,y2.1,y3.1,y4.1]:=hd
  subst hd'
  obtain ⟨hw1,hw3⟩:=trip_weights9 hw
  obtain ⟨u0,u1,u2,u3,n', _,hu,_,g0,g1,g2,g3⟩:=trod_struct4 Tryz.underlying45 h1
  rw [hu] at hw1
  obtain ⟨v0,v1,v2⟩:=code_weights9 hw1
  simp only [cells_Ins9,cells_ints,cells_Paths9,cells_Rights9,List.drop_zero,List.take_succ_cons,List.take_zero,List.drop_succ_cons] at g0 g1 g2 g3
  obtain ⟨lo,ll,lc,rfl⟩:=slice_one Tryz.underlying36 h0
  obtain ⟨ls,s1,s2⟩:=open_syms h0
  obtain ⟨io,il,ic,rfl⟩:=slice_one Tryz.underlying27 g0
  obtain ⟨I,rfl,i1,i2⟩:=open_ins9 g0 v0
  obtain ⟨po,pl,pc,rfl⟩:=slice_one Tryz.underlying28 g1
  obtain ⟨P,rfl,p1⟩:=open_pths9 g1 v1
  obtain ⟨eo,ec,E,e2,k2⟩:=open_ints Tryz.underlying22 g2 v2
  obtain ⟨ro,rl,rc,rfl⟩:=slice_one Tryz.underlying43 g3
  obtain ⟨so,tc,t,e3,k3⟩:=open_ints Tryz.underlying64 h3 hw3
  obtain ⟨z2,f2,_,_⟩:=DataW.trod_int Tryz.underlying3 h2
  obtain ⟨z4,f4,_,_⟩:=DataW.trod_int Tryz.underlying3 h4
  simp only [List.cons.injEq,and_true] at e2 e3 f2 f4
  subst e2 e3 f2 f4
  exact ⟨lo,ll,lc,ls,io,ic,I,po,pc,P,eo,ec,E,ro,rl,rc,z2,so,tc,t,z4,rfl,s1,s2,i1,i2,p1,k2.at', k3⟩
end
end Go.Proofs.YtdhiiicppcgkbaaGreat
