import Derived.Test.YtflcpepjmonlpaaGreatDoorSL16
import Derived.Test.YtflcpepjmonlpaaGreatDoorSL10
namespace Go.Proofs.YtflcpepjmonlpaaGreatDoor
set_option maxRecDepth 100000
set_option linter.unusedVariables false
open Go.RowKit
attribute [local go_sem ↓] Go.wp_at_zero Go.wp_at_succ
structure CdA (w:World) (io po eo ro:Option Addr) (s:St9) (E:List Int) (Q:List (List (Int × List Int))):Prop where
 ins:InsAt w io s.1
 pth:PthAt w po s.2
 ent:IntsAt w eo E
 rgt:RgP w ro Q
set_option maxHeartbeats 8000000 in
theorem rsame9_any {w:World} {io po eo ro io' po' eo' ro' : Option Addr} {s:St9} {E:List Int} {Q:List (List (Int × List Int))} (h:CdA w io po eo ro s E Q) (h' : CdA w io' po' eo' ro' s E Q) (h1:s.1.length≤140737488355328) (h2:s.2.length≤140737488355328) (h3:E.length≤140737488355328) (h4:Q.length≤140737488355328) (h5:∀ q∈Q,q.length≤140737488355328∧∀ x∈q,x.2.length≤100000) (ic pc ec rc ic' pc' ec' rc' : Nat) :
  Calls Tryz.prog 40 #[.agg #[.slice io s.1.length ic,.slice po s.2.length pc,.slice eo E.length ec,.slice ro Q.length rc],.agg #[.slice io' s.1.length ic', .slice po' s.2.length pc', .slice eo' E.length ec', .slice ro' Q.length rc']] w fun e w' => e=.returned (.bool true)∧Same0 w w' := by
 obtain ⟨W1,hW1⟩:∃ W1,W1=(w.alloc (.cells #[.slice io s.1.length ic,.slice po s.2.length pc,.slice eo E.length ec,.slice ro Q.length rc] 54)).alloc (.cells #[.slice io' s.1.length ic', .slice po' s.2.length pc', .slice eo' E.length ec', .slice ro' Q.length rc'] 54):=⟨_,rfl⟩
 have KW:Same0 w W1:=by rw [hW1];exact ((Kept.refl _ w).alloc _).alloc _
 have hb0:W1.heap[w.heap.size]? = some (.cells #[.slice io s.1.length ic,.slice po s.2.length pc,.slice eo E.length ec,.slice ro Q.length rc] 54 (0,0)):=by
  have k1:Same0 (w.alloc (.cells #[.slice io s.1.length ic,.slice po s.2.length pc,.slice eo E.length ec,.slice ro Q.length rc] 54)) W1:=by rw [hW1];exact (Kept.refl _ _).alloc _
  exact k1.at0 (heap_alloc_new w _)
 have hb1:W1.heap[w.heap.size+1]? = some (.cells #[.slice io' s.1.length ic', .slice po' s.2.length pc', .slice eo' E.length ec', .slice ro' Q.length rc'] 54 (0,0)):=by rw [hW1];exact heap_al_al _ _ _
 have BX:Hid (∀ X,Same0 W1 X→(X.cell? ⟨w.heap.size,0,none⟩=some (.slice io s.1.length ic)∧X.cell? ⟨w.heap.size,1,none⟩=some (.slice po s.2.length pc)∧X.cell? ⟨w.heap.size,2,none⟩=some (.slice eo E.length ec)∧X.cell? ⟨w.heap.size,3,none⟩=some (.slice ro Q.length rc))∧X.cell? ⟨w.heap.size+1,0,none⟩=some (.slice io' s.1.length ic')∧X.cell? ⟨w.heap.size+1,1,none⟩=some (.slice po' s.2.length pc')∧X.cell? ⟨w.heap.size+1,2,none⟩=some (.slice eo' E.length ec')∧X.cell? ⟨w.heap.size+1,3,none⟩=some (.slice ro' Q.length rc')):=fun X hk=>by
  have a:=hk.at0 hb0
  have b:=hk.at0 hb1
  exact ⟨⟨cellAt a 0,cellAt a 1,cellAt a 2,cellAt a 3⟩,cellAt b 0,cellAt b 1,cellAt b 2,cellAt b 3⟩
 have C1:Hid (∀ X,Same0 W1 X→Calls Tryz.prog 81 #[.slice io s.1.length ic,.slice io' s.1.length ic'] X fun e w' => e=.returned (.bool true)∧Same0 X w'):=fun X hk=>sameIns_any ((h.ins.same KW).same hk) ((h'.ins.same KW).same hk) h1 ic ic'
 have C2:Hid (∀ X,Same0 W1 X→Calls Tryz.prog 82 #[.slice po s.2.length pc,.slice po' s.2.length pc'] X fun e w' => e=.returned (.bool true)∧Same0 X w'):=fun X hk=>lists_any9 ((h.pth.same KW).same hk) ((h'.pth.same KW).same hk) h2 pc pc'
 have C3:Hid (∀ X,Same0 W1 X→Calls Tryz.prog 80 #[.slice eo E.length ec,.slice eo' E.length ec'] X fun e w' => e=.returned (.bool true)∧Same0 X w'):=fun X hk=>by
  refine (same_any ((h.ent.same KW).same hk) ((h'.ent.same KW).same hk) (by unfold maxLen;omega)).mono ?_
  rintro e w' ⟨rfl,hk'⟩
  exact ⟨by simp [sameB],hk'⟩
 have RG:Hid (∀ i (hi:i<Q.length),∃ b off b' off' xo xc yo yc,ro=some ⟨b,off,none⟩∧ro' = some ⟨b', off', none⟩∧Hid (∀ X,Same0 W1 X→(X.cell? ⟨b,off+i,none⟩=some (.slice xo Q[i].length xc)∧X.cell? ⟨b', off' + i,none⟩=some (.slice yo Q[i].length yc))∧Calls Tryz.prog 83 #[.slice xo Q[i].length xc,.slice yo Q[i].length yc] X fun e w' => e=.returned (.bool true)∧Same0 X w')):=fun i hi=>by
  obtain ⟨b,off,xo,xc,e1,c1,c2⟩:=(h.rgt.same KW).get hi
  obtain ⟨b', off', yo,yc,e2,d1,d2⟩:=(h'.rgt.same KW).get hi
  obtain ⟨m1,m2⟩:=h5 _ (List.getElem_mem hi)
  exact ⟨b,off,b', off', xo,xc,yo,yc,e1,e2,fun X hk=>⟨⟨(hk.cell (p:=⟨b,off+i,none⟩) (World.block_lt_of_cell? _ _ c1) (fun f=>f)).trans c1,(hk.cell (p:=⟨b', off' + i,none⟩) (World.block_lt_of_cell? _ _ d1) (fun f=>f)).trans d1⟩,sameparts_any (c2.same hk) (d2.same hk) m1 m2 xc yc⟩⟩
 have HK:Hid (Same0 w W1):=KW
 have HQ:Hid (Q.length≤140737488355328):=h4
 have HR:Hid (∀ X,Same0 W1 X→X.cell? ⟨w.heap.size,3,none⟩=some (.slice ro Q.length rc)∧X.cell? ⟨w.heap.size+1,3,none⟩=some (.slice ro' Q.length rc')):=fun X hk=>⟨(BX.out X hk).1.2.2.2,(BX.out X hk).2.2.2.2⟩
 obtain ⟨⟨x0,x1,x2,x3⟩,y0,y1,y2,y3⟩:=BX.out W1 (Kept.refl _ _)
 have CA:=C1.out W1 (Kept.refl _ _)
 clear hb0 hb1 h h' h1 h2 h3 h4 h5 KW C1
 generalize s.1.length=I0 at *
 generalize s.2.length=P0 at *
 generalize E.length=E0 at *
 go_enter Tryz.func40,Tryz.ntmps40
 go_upto_region 1 with fail
 rw [← hW1]
 clear hW1
 go_upto_region 2 with (first | (go_at_call 81;refine CA.mono ?_;rintro e w2 ⟨rfl,k2⟩;obtain ⟨⟨u0,u1,u2,u3⟩,v0,v1,v2,v3⟩:=BX.out w2 k2))
 have CB:=C2.out w2 k2
 go_upto_region 3 with (first | (go_at_call 82;refine CB.mono ?_;rintro e w3 ⟨rfl,k3⟩))
 have K3:=k2.trans' k3
 obtain ⟨⟨p0,p1,p2,p3⟩,q0,q1,q2,q3⟩:=BX.out w3 K3
 have CC:=C3.out w3 K3
 go_upto_region 4 with (first | (go_at_call 80;refine CC.mono ?_;rintro e w4 ⟨rfl,k4⟩))
 have K4:=K3.trans' k4
 obtain ⟨r3,s3⟩:=HR.out w4 K4
 clear CA CB CC C2 C3 BX x0 x1 x2 x3 y0 y1 y2 y3 u0 u1 u2 u3 v0 v1 v2 v3 p0 p1 p2 p3 q0 q1 q2 q3
 go_wp2_with fail
 go_loopw [8] (fun nv wr=>∃ i:Nat,i≤Q.length∧nv=.int .i64 (i:Int)∧Same0 W1 wr) (fun nv _=>Q.length-(intOf nv).toNat)
 case atStart=>exact ⟨0,Nat.zero_le _,rfl,K4⟩
 case round=>
  obtain ⟨i,hi,rfl,hs⟩:=hrel
  obtain ⟨a3,b3⟩:=HR.out wr hs
  by_cases hlt:i<Q.length
  ·obtain ⟨b,off,b', off', xo,xc,yo,yc,rfl,rfl,RX⟩:=RG.out i hlt
   have i1:(0:Int)≤(i:Int):=by omega
   have i2:(i:Int)<(Q.length:Int):=by omega
   have hq:=HQ.out
   have CS:Hid (∀ ww,Same0 wr ww→Calls Tryz.prog 83 #[.slice xo Q[i].length xc,.slice yo Q[i].length yc] ww fun e w' => e=.returned (.bool true)∧Same0 ww w'):=fun ww hk=>(RX.out ww (hs.trans' hk)).2
   have HS:Hid (∀ ww,Same0 wr ww→(ww.cell? ⟨w.heap.size,3,none⟩=some (.slice (some ⟨b,off,none⟩) Q.length rc)∧ww.cell? ⟨w.heap.size+1,3,none⟩=some (.slice (some ⟨b', off', none⟩) Q.length rc'))∧ww.cell? ⟨b,off+i,none⟩=some (.slice xo Q[i].length xc)∧ww.cell? ⟨b', off' + i,none⟩=some (.slice yo Q[i].length yc)):=fun ww hk=>⟨HR.out ww (hs.trans' hk),(RX.out ww (hs.trans' hk)).1⟩
   have C0:=HS.out wr (Kept.refl _ _)
   have kd:Same0 wr wr.drew:=Kept.drew (Kept.refl _ _)
   generalize Q[i].length=N at *
   clear RX RG
   go_upto_region 9 with fail
   go_region_held3 (fun w' => (w'.cell? ⟨w.heap.size,3,none⟩=some (.slice (some ⟨b,off,none⟩) Q.length rc)∧w'.cell? ⟨w.heap.size+1,3,none⟩=some (.slice (some ⟨b', off', none⟩) Q.length rc'))∧w'.cell? ⟨b,off+i,none⟩=some (.slice xo N xc)∧w'.cell? ⟨b', off' + i,none⟩=some (.slice yo N yc)) (first | exact C0 | exact cc1) (first
    | (go_at_call 83;refine (CS.out _ kd).mono ?_;rintro e w5 ⟨rfl,k5⟩;have k6:=kd.trans' k5;have cc1:=HS.out w5 k6))
   all_goals
    go_wp2_with fail
    go_roundw
    case rel=>exact ⟨i+1,by omega,by go_num,hs.trans' k6⟩
    case measure=>simp [intOf];omega
  ·go_wp2_with fail
   go_ret
   exact ⟨rfl,HK.out.trans' hs⟩
def SmT:(n:Nat)→Tr n→Prop
 | 0,_=>True
 | n+1,(k,r,p,l)=>l.length≤1000000000∧∀ i (h:i<l.length),SmT n l[i].2
def SameIH (n:Nat):Prop:=∀ (w:World) (a b:Value) (t:Tr n) (B B' : Nat→Prop),CsB B w n a t→CsB B' w n b t→SmT n t→Calls Tryz.prog 39 #[a,b] w fun e w' => e=.returned (.bool true)∧Same0 w w'
theorem sameB_self (p:List Int):sameB p p=true:=by simp [sameB]
set_option maxHeartbeats 8000000 in
theorem csame_step {n:Nat} (IH:SameIH n):SameIH (n+1):=by
 intro w va vb t B B' ha hb hsm
 obtain ⟨k,r,p,l⟩:=t
 obtain ⟨hl9,hsk⟩:=hsm
 obtain ⟨po,pc,ko,kc,rfl,a2,a3,a4,a5,a6⟩:=ha
 obtain ⟨po', pc', ko', kc', rfl,b2,b3,b4,b5,b6⟩:=hb
 obtain ⟨W1,hW1⟩:∃ W1,W1=(w.alloc (.cells #[.int .i64 k,.int .i64 r,.slice po p.length pc,.slice ko l.length kc] 63)).alloc (.cells #[.int .i64 k,.int .i64 r,.slice po' p.length pc', .slice ko' l.length kc'] 63):=⟨_,rfl⟩
 have KW:Same0 w W1:=by rw [hW1];exact ((Kept.refl _ w).alloc _).alloc _
 have BX:Hid (∀ ww,Same0 W1 ww→(ww.cell? ⟨w.heap.size,0,none⟩=some (.int .i64 k)∧ww.cell? ⟨w.heap.size,1,none⟩=some (.int .i64 r)∧ww.cell? ⟨w.heap.size,2,none⟩=some (.slice po p.length pc)∧ww.cell? ⟨w.heap.size,3,none⟩=some (.slice ko l.length kc))∧ww.cell? ⟨w.heap.size+1,0,none⟩=some (.int .i64 k)∧ww.cell? ⟨w.heap.size+1,1,none⟩=some (.int .i64 r)∧ww.cell? ⟨w.heap.size+1,2,none⟩=some (.slice po' p.length pc')∧ww.cell? ⟨w.heap.size+1,3,none⟩=some (.slice ko' l.length kc')):=fun ww hk=>by
  have h1:=hk.at0 (show W1.heap[w.heap.size]? = _ by rw [hW1];exact heap_alloc2_old _ _ _)
  have h2:=hk.at0 (show W1.heap[w.heap.size+1]? = _ by rw [hW1];exact heap_al_al _ _ _)
  exact ⟨⟨cellAt h1 0,cellAt h1 1,cellAt h1 2,cellAt h1 3⟩,cellAt h2 0,cellAt h2 1,cellAt h2 2,cellAt h2 3⟩
 have CP:=same_any (acap:=pc) (bcap:=pc') (a2.at'.same KW) (b2.at'.same KW) (by have:=a2.size;unfold maxLen;omega)
 rw [sameB_self] at CP
 have CI:Hid (∀ ww a b (t:Tr n) B B', CsB B ww n a t→CsB B' ww n b t→SmT n t→Calls Tryz.prog 39 #[a,b] ww fun e w' => e=.returned (.bool true)∧Same0 ww w'):=fun ww a b t B B' => IH ww a b t B B'
 have A6:Hid (l=[]∨∃ b off,ko=some ⟨b,off,none⟩∧B b∧b<w.heap.size∧∀ i (h:i<l.length),∃ c0 c1 c2 c3,w.cell? ⟨b,off+i * 5,none⟩=some (.int .i64 l[i].1)∧w.cell? ⟨b,off+i * 5+1,none⟩=some c0∧w.cell? ⟨b,off+i * 5+2,none⟩=some c1∧w.cell? ⟨b,off+i * 5+3,none⟩=some c2∧w.cell? ⟨b,off+i * 5+4,none⟩=some c3∧CsB B w n (.agg #[c0,c1,c2,c3]) l[i].2):=a6
 have B6:Hid (l=[]∨∃ b off,ko' = some ⟨b,off,none⟩∧B' b∧b<w.heap.size∧∀ i (h:i<l.length),∃ c0 c1 c2 c3,w.cell? ⟨b,off+i * 5,none⟩=some (.int .i64 l[i].1)∧w.cell? ⟨b,off+i * 5+1,none⟩=some c0∧w.cell? ⟨b,off+i * 5+2,none⟩=some c1∧w.cell? ⟨b,off+i * 5+3,none⟩=some c2∧w.cell? ⟨b,off+i * 5+4,none⟩=some c3∧CsB B' w n (.agg #[c0,c1,c2,c3]) l[i].2):=b6
 obtain ⟨⟨x0,x1,x2,x3⟩,y0,y1,y2,y3⟩:=BX.out W1 (Kept.refl _ _)
 have ek:(k == k)=true:=by simp
 have er:(r == r)=true:=by simp
 have el:((l.length:Int) == (l.length:Int))=true:=by simp
 have HSK:Hid (∀ i (h:i<l.length),SmT n l[i].2):=hsk
 clear a6 b6 IH a2 b2 a3 b3 a4 b4 hsk
 go_enter Tryz.func39,Tryz.ntmps39
 go_upto_region 1 with fail
 rw [← hW1]
 clear hW1
 go_upto_region 2 with (first | (go_at_call 80;refine CP.mono ?_;rintro e w2 ⟨rfl,k2⟩))
 obtain ⟨⟨u0,u1,u2,u3⟩,v0,v1,v2,v3⟩:=BX.out w2 k2
 clear x0 x1 x2 x3 y0 y1 y2 y3 CP
 go_wp2_with fail
 go_loopw [6] (fun i wr=>∃ j:Nat,j≤l.length∧i=.int .i64 (j:Int)∧Same0 W1 wr) (fun i _=>l.length-(intOf i).toNat)
 case atStart=>exact ⟨0,Nat.zero_le _,rfl,k2⟩
 case round=>
  clear u0 u1 u2 u3 v0 v1 v2 v3 k2
  obtain ⟨j,hj,rfl,hw⟩:=hrel
  obtain ⟨⟨u0,u1,u2,u3⟩,v0,v1,v2,v3⟩:=BX.out wr hw
  by_cases hlt:j<l.length
  ·rcases A6.out with e | ⟨ab,aoff,rfl,_,hab,hca⟩
   ·subst e;simp at hlt
   rcases B6.out with e | ⟨bb,boff,rfl,_,hbb,hcb⟩
   ·subst e;simp at hlt
   obtain ⟨c0,c1,c2,c3,p0,p1,p2,p3,p4,p5⟩:=hca j hlt
   obtain ⟨d0,d1,d2,d3,q0,q1,q2,q3,q4,q5⟩:=hcb j hlt
   obtain ⟨e0,e1,e2,e3,e4,e5,e6,e7,ea⟩:=p5.shape
   simp only [Value.agg.injEq,Array.mk.injEq,List.cons.injEq,and_true] at ea
   obtain ⟨rfl,rfl,rfl,rfl⟩:=ea
   obtain ⟨g0,g1,g2,g3,g4,g5,g6,g7,eb⟩:=q5.shape
   simp only [Value.agg.injEq,Array.mk.injEq,List.cons.injEq,and_true] at eb
   obtain ⟨rfl,rfl,rfl,rfl⟩:=eb
   have CELLS:Hid (∀ ww,Same0 W1 ww→(ww.cell? ⟨w.heap.size,3,none⟩=some (.slice (some ⟨ab,aoff,none⟩) l.length kc)∧ww.cell? ⟨w.heap.size+1,3,none⟩=some (.slice (some ⟨bb,boff,none⟩) l.length kc')∧ww.cell? ⟨ab,aoff+j * 5+1,none⟩=some (.int .i64 e0)∧ww.cell? ⟨ab,aoff+j * 5+2,none⟩=some (.int .i64 e1)∧ww.cell? ⟨ab,aoff+j * 5+3,none⟩=some (.slice e2 e3 e4)∧ww.cell? ⟨ab,aoff+j * 5+4,none⟩=some (.slice e5 e6 e7)∧ww.cell? ⟨bb,boff+j * 5+1,none⟩=some (.int .i64 g0)∧ww.cell? ⟨bb,boff+j * 5+2,none⟩=some (.int .i64 g1)∧ww.cell? ⟨bb,boff+j * 5+3,none⟩=some (.slice g2 g3 g4)∧ww.cell? ⟨bb,boff+j * 5+4,none⟩=some (.slice g5 g6 g7))∧ww.cell? ⟨ab,aoff+j * 5,none⟩=some (.int .i64 l[j].1)∧ww.cell? ⟨bb,boff+j * 5,none⟩=some (.int .i64 l[j].1)):=fun ww hk=>by
    obtain ⟨⟨_,_,_,m3⟩,_,_,_,n3⟩:=BX.out ww hk
    have kk:=KW.trans' hk
    have ta:∀ o v,w.cell? ⟨ab,o,none⟩=some v→ww.cell? ⟨ab,o,none⟩=some v:=fun o v e=>(kk.cell (p:=⟨ab,o,none⟩) hab (fun f=>f)).trans e
    have tb:∀ o v,w.cell? ⟨bb,o,none⟩=some v→ww.cell? ⟨bb,o,none⟩=some v:=fun o v e=>(kk.cell (p:=⟨bb,o,none⟩) hbb (fun f=>f)).trans e
    exact ⟨⟨m3,n3,ta _ _ p1,ta _ _ p2,ta _ _ p3,ta _ _ p4,tb _ _ q1,tb _ _ q2,tb _ _ q3,tb _ _ q4⟩,ta _ _ p0,tb _ _ q0⟩
   have WD:Same0 wr wr.drew:=(Kept.refl _ _).drew
   have CC:=CI.out wr.drew _ _ l[j].2 B B' (p5.same (KW.trans' (hw.trans' WD))) (q5.same (KW.trans' (hw.trans' WD))) (HSK.out j hlt)
   have i1:(0:Int)≤(j:Int):=by omega
   have i2:(j:Int)<(l.length:Int):=by omega
   have es:(l[j].1 == l[j].1)=true:=by simp
   have S0:=(CELLS.out wr hw).1
   clear hca hcb p0 p1 p2 p3 p4 p5 q0 q1 q2 q3 q4 q5 A6 B6
   go_upto_region 7 with fail
   go_cut [7] from 45 to 57 (fun s7 wc=>s7=.bool true∧Same0 wr wc)
   case first=>
    go_region_held3 (fun ww=>ww.cell? ⟨w.heap.size,3,none⟩=some (.slice (some ⟨ab,aoff,none⟩) l.length kc)∧ww.cell? ⟨w.heap.size+1,3,none⟩=some (.slice (some ⟨bb,boff,none⟩) l.length kc')∧ww.cell? ⟨ab,aoff+j * 5+1,none⟩=some (.int .i64 e0)∧ww.cell? ⟨ab,aoff+j * 5+2,none⟩=some (.int .i64 e1)∧ww.cell? ⟨ab,aoff+j * 5+3,none⟩=some (.slice e2 e3 e4)∧ww.cell? ⟨ab,aoff+j * 5+4,none⟩=some (.slice e5 e6 e7)∧ww.cell? ⟨bb,boff+j * 5+1,none⟩=some (.int .i64 g0)∧ww.cell? ⟨bb,boff+j * 5+2,none⟩=some (.int .i64 g1)∧ww.cell? ⟨bb,boff+j * 5+3,none⟩=some (.slice g2 g3 g4)∧ww.cell? ⟨bb,boff+j * 5+4,none⟩=some (.slice g5 g6 g7)) (first | exact S0 | exact (CELLS.out _ (hw.trans' kc9)).1) (first
     | (go_at_call 39;refine CC.mono ?_;rintro e w9 ⟨rfl,k9⟩;have kc9:=WD.trans' k9))
    all_goals
     go_wp2_with fail
     go_meet
     exact ⟨rfl,kc9⟩
   case rest=>
    obtain ⟨rfl,k9⟩:=hcut
    obtain ⟨w9,rfl⟩:∃ w9,w9=wc:=⟨_,rfl⟩
    obtain ⟨⟨m1,m2,_⟩,m3,m4⟩:=CELLS.out w9 (hw.trans' k9)
    have n1:w9.drew.cell? ⟨w.heap.size,3,none⟩=some (.slice (some ⟨ab,aoff,none⟩) l.length kc):=m1
    have n2:w9.drew.cell? ⟨w.heap.size+1,3,none⟩=some (.slice (some ⟨bb,boff,none⟩) l.length kc'):=m2
    have n3:w9.drew.cell? ⟨ab,aoff+j * 5,none⟩=some (.int .i64 l[j].1):=m3
    have n4:w9.drew.cell? ⟨bb,boff+j * 5,none⟩=some (.int .i64 l[j].1):=m4
    clear u0 u1 u2 u3 v0 v1 v2 v3 S0 CC
    go_wp2_with fail
    go_quiet (fail)
    go_wp2_with fail
    exact ⟨⟨j+1,by omega,by go_num,(hw.trans' k9).drewN _⟩,by simp [intOf];omega⟩
  ·obtain rfl:j=l.length:=by omega
   go_wp2_with fail
   go_ret
   exact ⟨rfl,KW.trans' hw⟩
theorem csame_any:∀ n,SameIH n
 | 0=>fun w a b t B B' h _ _=>h.elim
 | n+1=>csame_step (csame_any n)
theorem yn_nil (w:World):(binOp .eql 24 (.pointer none) (.pointer none)).run Tryz.prog w=.ok (.bool true) w:=by kernel_rfl
theorem ys_nil (w:World):(binOp .eql 41 (.pointer none) (.pointer none)).run Tryz.prog w=.ok (.bool true) w:=by kernel_rfl
theorem yr_nil (w:World):(binOp .eql 43 (.pointer none) (.pointer none)).run Tryz.prog w=.ok (.bool true) w:=by kernel_rfl
theorem flt_arg (w:World):FltAt (w.alloc (.cells #[.int .i64 1,.int .i64 0,.nilIface] 143)) [(1,0)] (.iface 141 (.pointer (some ⟨w.heap.size,0,none⟩))):=.inr ⟨by omega,w.heap.size,.nilIface,rfl,heap_alloc_new _ _,rfl⟩
theorem nsyms_any (ao:Option Addr) (len cap:Nat) (w:World):Calls Tryz.prog 30 #[.pointer none,.slice ao len cap] w fun e w' => ∃ q,e=.returned (.iface 141 (.pointer (some ⟨q,0,none⟩)))∧FltAt w' [(1,0)] (.iface 141 (.pointer (some ⟨q,0,none⟩)))∧Same0 w w' := by
 have hpn:=yn_nil
 go_enter Tryz.func30,Tryz.ntmps30
 go_wp2
 go_ret
 exact ⟨_,rfl,flt_arg w,(Kept.refl _ w).alloc _⟩
theorem nrules_any (ao:Option Addr) (len cap:Nat) (w:World):Calls Tryz.prog 31 #[.pointer none,.slice ao len cap] w fun e w' => ∃ q,e=.returned (.iface 141 (.pointer (some ⟨q,0,none⟩)))∧FltAt w' [(1,0)] (.iface 141 (.pointer (some ⟨q,0,none⟩)))∧Same0 w w' := by
 have hpn:=yn_nil
 go_enter Tryz.func31,Tryz.ntmps31
 go_wp2
 go_ret
 exact ⟨_,rfl,flt_arg w,(Kept.refl _ w).alloc _⟩
abbrev zeroCs10:Value:=.agg #[.int .i64 0,.int .i64 0,.slice none 0 0,.slice none 0 0]
theorem ntree_any (n:Int) (w:World):Calls Tryz.prog 34 #[.pointer none,.int .i64 n] w fun e w' => ∃ q,e=.returned (.tuple #[zeroCs10,.iface 141 (.pointer (some ⟨q,0,none⟩))])∧FltAt w' [(1,0)] (.iface 141 (.pointer (some ⟨q,0,none⟩)))∧Same0 w w' := by
 have hpn:=yn_nil
 obtain ⟨W1,hW1⟩:∃ W1,W1=w.alloc (.cells #[.int .i64 0,.int .i64 0,.slice none 0 0,.slice none 0 0] 63):=⟨_,rfl⟩
 have KW:Same0 w W1:=by rw [hW1];exact (Kept.refl _ _).alloc _
 have b0:W1.heap[w.heap.size]? = some (.cells #[.int .i64 0,.int .i64 0,.slice none 0 0,.slice none 0 0] 63 (0,0)):=by rw [hW1];exact heap_alloc_new _ _
 obtain ⟨W2,hW2⟩:∃ W2,W2=W1.alloc (.cells #[.int .i64 1,.int .i64 0,.nilIface] 143):=⟨_,rfl⟩
 have K2:Same0 W1 W2:=by rw [hW2];exact (Kept.refl _ _).alloc _
 have F2:FltAt W2 [(1,0)] (.iface 141 (.pointer (some ⟨W1.heap.size,0,none⟩))):=by rw [hW2];exact flt_arg W1
 have b2:=K2.at0 b0
 obtain ⟨p1,p2⟩:=put4_raw b2 (.int .i64 0) (.int .i64 0) (.slice none 0 0) (.slice none 0 0)
 have F3:=FltAt.keptN p2 (fun c hc=>by rw [b2] at hc;cases hc) F2
 have K3:=Kept.trans (KW.trans' K2) p2 (fun i hi e=>by have e' : i=w.heap.size:=e;omega)
 have v0:=cellAt b2 0
 have v1:=cellAt b2 1
 have v2:=cellAt b2 2
 have v3:=cellAt b2 3
 have f0:=frozenAt b2 0
 have f1:=frozenAt b2 1
 have f2:=frozenAt b2 2
 have f3:=frozenAt b2 3
 have z0:=cellAt p1 0
 have z1:=cellAt p1 1
 have z2:=cellAt p1 2
 have z3:=cellAt p1 3
 obtain ⟨Z,hZ⟩:∃ Z,Z=((((W2.setCell ⟨w.heap.size,0,none⟩ (.int .i64 0)).setCell ⟨w.heap.size,1,none⟩ (.int .i64 0)).setCell ⟨w.heap.size,2,none⟩ (.slice none 0 0)).setCell ⟨w.heap.size,3,none⟩ (.slice none 0 0)):=⟨_,rfl⟩
 rw [← hZ] at F3 K3 z0 z1 z2 z3
 have HF:Hid (FltAt Z [(1,0)] (.iface 141 (.pointer (some ⟨W1.heap.size,0,none⟩)))∧Same0 w Z):=⟨F3,K3⟩
 simp only [List.getElem?_toArray,List.getElem?_cons_zero,List.getElem?_cons_succ] at v0 v1 v2 v3 z0 z1 z2 z3
 clear F3 K3 p1 p2 F2 b2 K2 b0 KW
 go_enter Tryz.func34,Tryz.ntmps34
 go_upto_region 2 with fail
 rw [← hW1]
 clear hW1
 rw [hW2] at v0 v1 v2 v3 f0 f1 f2 f3 hZ
 go_wp2
 rw [← hZ]
 exact bodyPost_ret (v:=.tuple #[zeroCs10,.iface 141 (.pointer (some ⟨W1.heap.size,0,none⟩))]) (by simp [results,Tryz.results34,go_sem,z0,z1,z2,z3]) rfl ⟨_,rfl,HF.out⟩
theorem ncode_any (w:World):Calls Tryz.prog 32 #[.pointer none] w fun e w' => e=.returned (.agg #[.slice none 0 0,.slice none 0 0,.slice none 0 0,.slice none 0 0])∧Same0 w w' := by
 have hpn:=yn_nil
 obtain ⟨W1,hW1⟩:∃ W1,W1=w.alloc (.cells #[.slice none 0 0,.slice none 0 0,.slice none 0 0,.slice none 0 0] 54):=⟨_,rfl⟩
 have KW:Same0 w W1:=by rw [hW1];exact (Kept.refl _ _).alloc _
 have b2:W1.heap[w.heap.size]? = some (.cells #[.slice none 0 0,.slice none 0 0,.slice none 0 0,.slice none 0 0] 54 (0,0)):=by rw [hW1];exact heap_alloc_new _ _
 obtain ⟨p1,p2⟩:=put4_raw b2 (.slice none 0 0) (.slice none 0 0) (.slice none 0 0) (.slice none 0 0)
 have K3:=Kept.trans KW p2 (fun i hi e=>by have e' : i=w.heap.size:=e;omega)
 have v0:=cellAt b2 0
 have v1:=cellAt b2 1
 have v2:=cellAt b2 2
 have v3:=cellAt b2 3
 have f0:=frozenAt b2 0
 have f1:=frozenAt b2 1
 have f2:=frozenAt b2 2
 have f3:=frozenAt b2 3
 have z0:=cellAt p1 0
 have z1:=cellAt p1 1
 have z2:=cellAt p1 2
 have z3:=cellAt p1 3
 obtain ⟨Z,hZ⟩:∃ Z,Z=((((W1.setCell ⟨w.heap.size,0,none⟩ (.slice none 0 0)).setCell ⟨w.heap.size,1,none⟩ (.slice none 0 0)).setCell ⟨w.heap.size,2,none⟩ (.slice none 0 0)).setCell ⟨w.heap.size,3,none⟩ (.slice none 0 0)):=⟨_,rfl⟩
 rw [← hZ] at K3 z0 z1 z2 z3
 have HF:Hid (Same0 w Z):=K3
 simp only [List.getElem?_toArray,List.getElem?_cons_zero,List.getElem?_cons_succ] at v0 v1 v2 v3 z0 z1 z2 z3
 clear K3 p1 p2 b2 KW
 go_enter Tryz.func32,Tryz.ntmps32
 go_upto_region 1 with fail
 rw [← hW1]
 clear hW1
 go_wp2
 rw [← hZ]
 exact bodyPost_ret (v:=.agg #[.slice none 0 0,.slice none 0 0,.slice none 0 0,.slice none 0 0]) (by simp [results,Tryz.results32,go_sem,z0,z1,z2,z3]) rfl ⟨rfl,HF.out⟩
theorem nsig_any (w:World):Calls Tryz.prog 26 #[.pointer none] w fun e w' => e=.returned (.pointer none)∧w' = w:=by
 have hpn:=yn_nil
 go_enter Tryz.func26,Tryz.ntmps26
 go_wp2
 go_ret
 exact ⟨rfl,rfl⟩
theorem nrul_any (w:World):Calls Tryz.prog 28 #[.pointer none] w fun e w' => e=.returned (.pointer none)∧w' = w:=by
 have hpn:=yn_nil
 go_enter Tryz.func28,Tryz.ntmps28
 go_wp2
 go_ret
 exact ⟨rfl,rfl⟩
theorem ncopy_any (w:World):Calls Tryz.prog 21 #[.pointer none] w fun e w' => e=.returned (.pointer none)∧w' = w:=by
 have hpn:=yn_nil
 go_enter Tryz.func21,Tryz.ntmps21
 go_wp2
 go_ret
 exact ⟨rfl,rfl⟩
theorem nver_any (w:World):Calls Tryz.prog 25 #[.pointer none] w fun e w' => e=.returned (.int .i64 0)∧w' = w:=by
 have hpn:=yn_nil
 go_enter Tryz.func25,Tryz.ntmps25
 go_wp2
 go_ret
 exact ⟨rfl,rfl⟩
theorem cs0_any (w:World):Calls Tryz.prog 39 #[zeroCs10,zeroCs10] w fun e w' => e=.returned (.bool true)∧Same0 w w' :=
 csame_any 1 w _ _ (0,0,[],[]) (fun _=>True) (fun _=>True) (leaf_cs _ _ 0 0 0) (leaf_cs _ _ 0 0 0) ⟨by simp,fun i hi=>absurd hi (by simp)⟩
theorem cd0_any (w:World):Calls Tryz.prog 40 #[.agg #[.slice none 0 0,.slice none 0 0,.slice none 0 0,.slice none 0 0],.agg #[.slice none 0 0,.slice none 0 0,.slice none 0 0,.slice none 0 0]] w fun e w' => e=.returned (.bool true)∧Same0 w w' := by
 have h0:CdA w none none none none (([],[]):St9) [] []:=⟨.inl rfl,.inl rfl,.inl rfl,.inl rfl⟩
 exact rsame9_any h0 h0 (by simp) (by simp) (by simp) (by simp) (by simp) 0 0 0 0 0 0 0 0
set_option maxHeartbeats 16000000 in
theorem nil10_walk {w:World} (hE:ErrT w) (ao:Option Addr) (len cap:Nat) (po:Option Addr) (pl' pc:Nat) (n:Int):Calls Tryz.prog 7 #[.slice ao len cap,.slice po pl' pc,.int .i64 n] w fun e w' => e=.returned (.bool true)∧Below w.heap.size w w' := by
 have h1:=yn_nil
 have h2:=ys_nil
 have h3:=yr_nil
 have CA:=awake10_any hE
 go_enter Tryz.func7,Tryz.ntmps7
 go_upto_region 3 with (first | (go_at_call 17;refine CA.mono ?_;rintro e w1 ⟨rfl,k1⟩))
 have C1:=nsyms_any ao len cap w1
 go_upto_region 4 with (first | (go_at_call 30;refine C1.mono ?_;rintro e w2 ⟨qa,rfl,fa,k2⟩))
 have C2:=nrules_any po pl' pc w2
 go_upto_region 5 with (first | (go_at_call 31;refine C2.mono ?_;rintro e w3 ⟨qb,rfl,fb,k3⟩))
 have C3:=ntree_any n w3
 go_upto_region 6 with (first | (go_at_call 34;refine C3.mono ?_;rintro e w4 ⟨qc,rfl,fc,k4⟩))
 obtain ⟨w5,hw5⟩:∃ w5,w5=w4.alloc (.cells #[.int .i64 0,.int .i64 0,.slice none 0 0,.slice none 0 0] 63):=⟨_,rfl⟩
 have k5:Same0 w4 w5:=by rw [hw5];exact (Kept.refl _ _).alloc _
 have HC5:Hid (∀ ww,Same0 w5 ww→ww.cell? ⟨w4.heap.size,0,none⟩=some (.int .i64 0)∧ww.cell? ⟨w4.heap.size,1,none⟩=some (.int .i64 0)∧ww.cell? ⟨w4.heap.size,2,none⟩=some (.slice none 0 0)∧ww.cell? ⟨w4.heap.size,3,none⟩=some (.slice none 0 0)):=fun ww hk=>by
  have h9:=hk.at0 (show w5.heap[w4.heap.size]? = some (.cells #[.int .i64 0,.int .i64 0,.slice none 0 0,.slice none 0 0] 63 (0,0)) by rw [hw5];exact heap_alloc_new _ _)
  exact ⟨cellAt h9 0,cellAt h9 1,cellAt h9 2,cellAt h9 3⟩
 obtain ⟨w6,hw6⟩:∃ w6,w6=w5.alloc (.cells #[.int .i64 1,.int .i64 0] 72):=⟨_,rfl⟩
 have k6:Same0 w5 w6:=by rw [hw6];exact (Kept.refl _ _).alloc _
 have W6:WrsAt w6 (.slice (some ⟨w5.heap.size,0,none⟩) 1 1) [(1,0)]:=by
  rw [hw6]
  exact wrs_new w5 [(1,0)] #[.int .i64 1,.int .i64 0] 72 rfl (fun i hi=>by have hi' : i<1:=hi;match i,hi' with | 0,_=>exact ⟨rfl,rfl⟩) 1 rfl
 have HSM:Hid (∀ ww,Same0 w6 ww→∀ q,q=qa∨q=qb∨q=qc→Calls Tryz.prog 38 #[.iface 141 (.pointer (some ⟨q,0,none⟩)),.slice (some ⟨w5.heap.size,0,none⟩) 1 1] ww fun e w' => e=.returned (.bool true)∧Same0 ww w'):=fun ww hk q hq=>by
  have K46:=(k5.trans' k6).trans' hk
  refine same_fltN ?_ (W6.same hk) (by simp)
  rcases hq with rfl | rfl | rfl
  ·exact FltAt.same ((k3.trans' k4).trans' K46) fa
  ·exact FltAt.same (k4.trans' K46) fb
  ·exact FltAt.same K46 fc
 have K6:Hid (Same0 w w6):=((((k1.trans' k2).trans' k3).trans' k4).trans' k5).trans' k6
 rw [← hw5]
 clear hw5
 go_upto_region 7 with fail
 rw [← hw6]
 clear C1 C2 C3 CA hw6 fa fb fc W6 k1 k2 k3 k4 k5
 have D1:=HSM.out w6 (Kept.refl _ _) qa (.inl rfl)
 go_upto_region 8 with (first | (go_at_call 38;refine D1.mono ?_;rintro e w7 ⟨rfl,k7⟩))
 have D2:=HSM.out w7 k7 qb (.inr (.inl rfl))
 go_upto_region 9 with (first | (go_at_call 38;refine D2.mono ?_;rintro e w8 ⟨rfl,k8⟩))
 have D3:=HSM.out w8 (k7.trans' k8) qc (.inr (.inr rfl))
 go_upto_region 10 with (first | (go_at_call 38;refine D3.mono ?_;rintro e w9 ⟨rfl,k9⟩))
 have K9:=(k7.trans' k8).trans' k9
 obtain ⟨c0,c1,c2,c3⟩:=HC5.out w9 (k6.trans' K9)
 have D4:=cs0_any w9
 clear D1 D2 D3
 go_upto_region 11 with (first | (go_at_call 39;refine D4.mono ?_;rintro e w10 ⟨rfl,k10⟩))
 have D5:=ncode_any w10
 clear c0 c1 c2 c3 D4
 go_upto_region 12 with (first
  | (go_at_call 32;refine D5.mono ?_;rintro e w11 ⟨rfl,k11⟩;have D6:=cd0_any w11)
  | (go_at_call 40;refine D6.mono ?_;rintro e w12 ⟨rfl,k12⟩))
 have FIN:Hid (Same0 w w12):=((K6.out.trans' K9).trans' k10).trans' (k11.trans' k12)
 have E1:=nsig_any w12
 have E2:=nrul_any w12
 have E3:=ncopy_any w12
 have E4:=nver_any w12
 go_wp2_with (first
  | (go_at_call 26;refine E1.mono ?_;rintro e w13 ⟨rfl,e9⟩;have e8:=e9.symm;subst e8)
  | (go_at_call 28;refine E2.mono ?_;rintro e w13 ⟨rfl,e9⟩;have e8:=e9.symm;subst e8)
  | (go_at_call 21;refine E3.mono ?_;rintro e w13 ⟨rfl,e9⟩;have e8:=e9.symm;subst e8)
  | (go_at_call 25;refine E4.mono ?_;rintro e w13 ⟨rfl,e9⟩;have e8:=e9.symm;subst e8))
 go_ret
 exact ⟨rfl,FIN.out.below⟩
end Go.Proofs.YtflcpepjmonlpaaGreatDoor
