import Derived.Test.YtblgblgchkonhaaGreatGB08
import Derived.Test.YtblgblgchkonhaaGreatGB10
import Derived.Test.YtblgblgchkonhaaGreatGB02
import Derived.Test.YtblgblgchkonhaaGreatGB09
import Derived.Test.YtblgblgchkonhaaGreatGB04
import Derived.Test.YtblgblgchkonhaaGreatGB07
namespace Go.Proofs.YtblgblgchkonhaaGreat
set_option maxRecDepth 100000
set_option linter.unusedVariables false
open Go.RowKit
attribute [local go_sem ↓] Go.wp_at_zero Go.wp_at_succ
abbrev gZ:Sym:=⟨⟨#[122]⟩,0,false⟩
abbrev gS:Sym:=⟨⟨#[115]⟩,1,false⟩
abbrev gP:Sym:=⟨⟨#[112]⟩,2,false⟩
abbrev gD:Sym:=⟨⟨#[100]⟩,1,true⟩
theorem ng_z:nameB ⟨#[122]⟩=true:=by decide +kernel
theorem ng_s:nameB ⟨#[115]⟩=true:=by decide +kernel
theorem ng_p:nameB ⟨#[112]⟩=true:=by decide +kernel
theorem ng_d:nameB ⟨#[100]⟩=true:=by decide +kernel
abbrev LG:List Sym:=[gZ,gS,gP,gD]
theorem made_LG:madeL [gZ,gS,gP,gD]=LG:=by
 simp [madeL,addL,addErr,ng_z,ng_s,ng_p,ng_d,findI]
abbrev NG4:List Nd:=[(0,[],0,false,0),(1,[0],0,false,0),(0,[],0,false,0),(2,[2,1],0,false,0)]
abbrev NG5:List Nd:=NG4 ++ [(3,[3],0,false,0)]
abbrev NG7:List Nd:=NG5 ++ [(1,[3],0,false,0),(2,[3,5],0,false,0)]
theorem ld_term:layF [] ([2,0,1,0].map (tgT LG))=(NG4,[3]):=by decide +kernel
theorem ck_term:checkE LG [2,0,1,0]=0:=by decide +kernel
theorem ck_one:checkE LG [1]=23:=by decide +kernel
theorem mk_five:mkE NG4 8 3 [3]=0:=by decide +kernel
abbrev TG:List Tg:=[(true,2,2,0),(false,0,0,3),(true,1,1,0),(false,0,0,3)]
theorem ld_right:layF NG5 TG=(NG7,[6]):=by decide +kernel
theorem ar_four:ArR NG5 4 0 3:=.inl ⟨4,4,3,by decide,by decide,rfl,Res.self (by decide) rfl,by decide,Res.self (by decide) rfl,rfl⟩
abbrev QG:List (Int × List Int):=[(2,[]),(-1,[0]),(1,[]),(-1,[0])]
theorem tg_two:tgT LG 2=(true,2,2,0):=by decide +kernel
theorem tg_one:tgT LG 1=(true,1,1,0):=by decide +kernel
theorem all_right:AllP LG NG5 ((4:Nat):Int) QG TG:=by
 refine ⟨rfl,fun i h h' => ?_⟩
 have hl:i<4:=h
 match i,hl with
 | 0,_=>exact .inl ⟨show (0:Int)≤2 by decide,show (2:Int)<4 by decide,tg_two.symm,rfl⟩
 | 1,_=>exact .inr (.inr (.inr (.inr ⟨rfl,3,⟨3,ar_four,rfl⟩,by decide,rfl,rfl⟩)))
 | 2,_=>exact .inl ⟨show (0:Int)≤1 by decide,show (1:Int)<4 by decide,tg_one.symm,rfl⟩
 | 3,_=>exact .inr (.inr (.inr (.inr ⟨rfl,3,⟨3,ar_four,rfl⟩,by decide,rfl,rfl⟩)))
theorem bd_right:BdY LG NG5 8 [QG] 0 4 TG:=⟨0,4,4,by decide,rfl,rfl,Res.self (by decide) rfl,all_right,by decide,by decide⟩
theorem syms_LG (w:World):SymsAt (w.alloc (.cells #[.string ⟨#[122]⟩,.int .i64 0,.bool false,.string ⟨#[115]⟩,.int .i64 1,.bool false,.string ⟨#[112]⟩,.int .i64 2,.bool false,.string ⟨#[100]⟩,.int .i64 1,.bool true] 67)) (some ⟨w.heap.size,0,none⟩) 4 [gZ,gS,gP,gD]:=by
 refine ⟨rfl,.inr ⟨_,_,rfl,by simp,fun i hi=>?_⟩,?_⟩
 ·have hi' : i<4:=by simpa using hi
  rw [cellAt (heap_alloc_new w _),cellAt (heap_alloc_new w _),cellAt (heap_alloc_new w _)]
  match i,hi' with
  | 0,_=>exact ⟨rfl,rfl,rfl⟩
  | 1,_=>exact ⟨rfl,rfl,rfl⟩
  | 2,_=>exact ⟨rfl,rfl,rfl⟩
  | 3,_=>exact ⟨rfl,rfl,rfl⟩
 ·intro x hx
  simp at hx
  rcases hx with rfl | rfl | rfl | rfl <;> exact ⟨by decide +kernel,by decide +kernel⟩
structure GH (n sb:Nat) (L:List Sym) (h g room:Nat) (N:List Nd) (w:World):Prop where
 sg:Sg n w sb L
 hp:HpB (fun _=>True) w h g room N
 gh:n≤h∧n≤g
theorem GH.same {n sb:Nat} {L:List Sym} {h g room:Nat} {N:List Nd} {w w' : World} (q:GH n sb L h g room N w) (hk:Same0 w w'):GH n sb L h g room N w' := ⟨q.sg.same hk,q.hp.same hk,q.gh⟩
theorem GH.next {n sb:Nat} {L:List Sym} {h g room:Nat} {N N' : List Nd} {w w' : World} {B:Nat→Prop} (q:GH n sb L h g room N w) (hk:Kept (fun k=>k=h∨k=g) w w') (hp:HpB B w' h g room N'):GH n sb L h g room N' w' :=
 ⟨q.sg.kept hk (fun k hk e=>by have:=q.gh;omega),hp.mono (fun _ _ _ _=>trivial),q.gh⟩
theorem GH.load_yes {n sb:Nat} {L:List Sym} {h g room:Nat} {N:List Nd} {w:World} (q:GH n sb L h g room N w) {ao:Option Addr} {cap:Nat} {t:List Int} (ht:IntsAt w ao t) (hc:checkE L t=0) (hv:∀ x∈t,0≤x) (hf:N.length+t.length≤room) :
  Calls Tryz.prog 9 #[.pointer (some ⟨sb,0,none⟩),.pointer (some ⟨h,0,none⟩),.slice ao t.length cap] w fun e w' => ∃ a:Nat,e=.returned (.tuple #[.int .i64 (a:Int),.nilIface])∧(layF N (t.map (tgT L))).2=[(a:Int)]∧GH n sb L h g room (layF N (t.map (tgT L))).1 w' ∧ Kept (fun k=>k=h∨k=g) w w' :=
 (Go.Proofs.YtblgblgchkonhaaGreat.load_yes q.sg q.hp ht hc hv hf).mono (fun e w' ⟨a,e1,e2,e3,e4⟩=>⟨a,e1,e2,q.next e4 e3,e4⟩)
theorem GH.made {n sb:Nat} {L:List Sym} {h g room:Nat} {N:List Nd} {w:World} (q:GH n sb L h g room N w) (s:Int) {ao:Option Addr} {xs:List Int} {cap:Nat} (hx:Arg w ao xs cap) (he:mkE N room s xs=0) :
  Calls Tryz.prog 20 #[.pointer (some ⟨h,0,none⟩),.int .i64 s,.slice ao xs.length cap] w fun e w' => e=.returned (.tuple #[.int .i64 (N.length:Int),.int .i64 0])∧GH n sb L h g room (N ++ [(s,xs,0,false,0)]) w' ∧ Kept (fun k=>k=h∨k=g) w w' :=
 (make_yes q.hp s hx he).mono (fun e w' ⟨e1,e2,e3⟩=>⟨e1,q.next e3 e2,e3⟩)
theorem GH.build_yes {n sb:Nat} {L:List Sym} {h g room:Nat} {N:List Nd} {w:World} (q:GH n sb L h g room N w) {ro:Option Addr} {rc:Nat} {R:List (List (Int × List Int))} (hR:RtAt w ro R) (io po eo:Option Addr) (il ic pl pc el ec:Nat) {rule node:Int} {l:List Tg} (hy:BdY L N room R rule node l) :
  Calls Tryz.prog 16 #[.pointer (some ⟨sb,0,none⟩),.agg #[.slice io il ic,.slice po pl pc,.slice eo el ec,.slice ro R.length rc],.pointer (some ⟨h,0,none⟩),.int .i64 rule,.int .i64 node] w fun e w' => ∃ a:Nat,e=.returned (.tuple #[.int .i64 (a:Int),.nilIface])∧(layF N l).2=[(a:Int)]∧GH n sb L h g room (layF N l).1 w' ∧ Kept (fun k=>k=h∨k=g) w w' :=
 (build_any q.sg q.hp hR io po eo il ic pl pc el ec rule node).mono (fun e w' hb=>by
  obtain ⟨a,e1,e2,e3,e4⟩:=hb.yes hy
  exact ⟨a,e1,e2,q.next e4 e3,e4⟩)
theorem rt_QG (w:World) (X:World) (b0 b1 b2 b3:Nat) (h0:X.heap[b0]? = some (.cells #[.int .i64 0] 3 (0,0))) (h1:X.heap[b1]? = some (.cells #[.int .i64 0] 3 (0,0))) (h2:X.heap[b2]? = some (.cells #[.int .i64 2,.slice none 0 0,.int .i64 (-1),.slice (some ⟨b0,0,none⟩) 1 1,.int .i64 1,.slice none 0 0,.int .i64 (-1),.slice (some ⟨b1,0,none⟩) 1 1] 73 (0,0))) (h3:X.heap[b3]? = some (.cells #[.slice (some ⟨b2,0,none⟩) 4 4] 74 (0,0))):RtAt X (some ⟨b3,0,none⟩) [QG]:=by
 refine .inr ⟨b3,0,rfl,lt_of_at h3,fun i hi=>?_⟩
 have hi' : i<1:=hi
 obtain rfl:i=0:=by omega
 refine ⟨some ⟨b2,0,none⟩,4,cellAt h3 0,.inr ⟨b2,0,rfl,lt_of_at h2,fun j hj=>?_⟩,show (4:Nat)≤4398046511104 by decide⟩
 have hj' : j<4:=hj
 have I:∀ bb,X.heap[bb]? = some (.cells #[.int .i64 0] 3 (0,0))→IntsAt X (some ⟨bb,0,none⟩) [0]:=fun bb hb=>.inr ⟨bb,0,rfl,lt_of_at hb,fun i hi=>by
  have hi' : i<1:=hi
  obtain rfl:i=0:=by omega
  exact cellAt hb 0⟩
 match j,hj' with
 | 0,_=>exact ⟨none,0,cellAt h2 0,cellAt h2 1,.inl rfl,show (0:Nat)≤maxLen by decide⟩
 | 1,_=>exact ⟨some ⟨b0,0,none⟩,1,cellAt h2 2,cellAt h2 3,I b0 h0,show (1:Nat)≤maxLen by decide⟩
 | 2,_=>exact ⟨none,0,cellAt h2 4,cellAt h2 5,.inl rfl,show (0:Nat)≤maxLen by decide⟩
 | 3,_=>exact ⟨some ⟨b1,0,none⟩,1,cellAt h2 6,cellAt h2 7,I b1 h1,show (1:Nat)≤maxLen by decide⟩
set_option maxHeartbeats 4000000 in
theorem awake13_any (w:World):Calls Tryz.prog 5 #[] w fun e w' => e=.returned (.bool true)∧Same0 w w' := by
 have C1:=sign_any (some ⟨w.heap.size,0,none⟩) 4 4 [gZ,gS,gP,gD] _ (syms_LG w) (by unfold maxLen;omega)
 rw [made_LG] at C1
 have k0:Hid (Same0 w (w.alloc (.cells #[.string ⟨#[122]⟩,.int .i64 0,.bool false,.string ⟨#[115]⟩,.int .i64 1,.bool false,.string ⟨#[112]⟩,.int .i64 2,.bool false,.string ⟨#[100]⟩,.int .i64 1,.bool true] 67))):=(Kept.refl _ w).alloc _
 have F1:Hid (checkE LG [2,0,1,0]=0∧layF [] ([2,0,1,0].map (tgT LG))=(NG4,[3])∧checkE LG [1]=23∧BdY LG NG5 8 [QG] 0 4 TG):=⟨ck_term,ld_term,ck_one,bd_right⟩
 generalize LG=L at *
 go_enter Tryz.func5,Tryz.ntmps5
 go_upto_region 5 with (first
  | (go_at_call 6;refine C1.mono ?_;rintro e w1 ⟨sb,rv,rfl,hs, -,k1⟩)
  | (go_at_call 19;refine (hnew_yes 8 w1 (by omega) (by omega)).mono ?_;rintro e w2 ⟨h,g,rfl,p2,k2,hh,hg⟩))
 have Q2:Hid (GH w1.heap.size sb L h g 8 [] w2):=⟨hs.same k2,p2.mono (fun _ _ _ _=>trivial),hh,hg⟩
 have K2:Hid (Same0 w w2):=(k0.out.trans' k1).trans' k2
 have hz1:w.heap.size≤w1.heap.size:=(k0.out.trans' k1).size
 have KH:Hid (∀ a b,Kept (fun k=>k=h∨k=g) a b→Same0 w a→Same0 w b):=fun a b hk h1=>h1.trans hk (fun i hi e=>by omega)
 clear C1 hs p2 k1 k2 k0
 have ka2:=(Kept.refl (fun _=>False) w2).alloc (.cells #[.int .i64 2,.int .i64 0,.int .i64 1,.int .i64 0] 3)
 have CL:=(Q2.out.same ka2).load_yes (cap:=4) (ints_new w2 [2,0,1,0] 3 rfl) F1.out.1 (by decide) (by decide)
 rw [F1.out.2.1] at CL
 go_upto_region 6 with (first | (go_at_call 9;refine CL.mono ?_;rintro e w3 ⟨a3,rfl,ea,Q3,k3⟩))
 obtain rfl:a3=3:=by simp at ea;omega
 have K3:Hid (Same0 w w3):=KH.out _ _ k3 (K2.out.trans' ka2)
 have HQ3:Hid (GH w1.heap.size sb L h g 8 NG4 w3):=Q3
 clear CL ea Q3 k3 Q2 K2 ka2
 have ka3:=(Kept.refl (fun _=>False) w3).alloc (.cells #[.int .i64 1] 3)
 have CB:=load_bad (cap:=1) (HQ3.out.sg.same ka3) ⟨h,0,none⟩ (ints_new w3 [1] 3 rfl) (by decide) (by rw [F1.out.2.2.1];decide)
 rw [F1.out.2.2.1] at CB
 go_upto_region 7 with (first | (go_at_call 9;refine CB.mono ?_;rintro e w4 ⟨v4,rfl,⟨fb,rfl, -, -⟩,k4⟩))
 have K4:Hid (Same0 w w4):=(K3.out.trans' ka3).trans' k4
 have HQ4:Hid (GH w1.heap.size sb L h g 8 NG4 w4):=(HQ3.out.same ka3).same k4
 clear CB k4 ka3 HQ3 K3
 have ka4:=(Kept.refl (fun _=>False) w4).alloc (.cells #[.int .i64 3] 3)
 have CM:=(HQ4.out.same ka4).made 3 (arg_one w4 3) mk_five
 go_upto_region 8 with (first | (go_at_call 20;refine CM.mono ?_;rintro e w5 ⟨rfl,Q5,k5⟩))
 have K5:Hid (Same0 w w5):=KH.out _ _ k5 (K4.out.trans' ka4)
 have HQ5:Hid (GH w1.heap.size sb L h g 8 NG5 w5):=Q5
 clear CM k5 ka4 HQ4 K4 Q5
 obtain ⟨X1,hX1⟩:∃ X1,X1=w5.alloc (.cells #[.int .i64 0] 3):=⟨_,rfl⟩
 obtain ⟨X2,hX2⟩:∃ X2,X2=X1.alloc (.cells #[.int .i64 0] 3):=⟨_,rfl⟩
 obtain ⟨X3,hX3⟩:∃ X3,X3=X2.alloc (.cells #[.int .i64 2,.slice none 0 0,.int .i64 (-1),.slice (some ⟨w5.heap.size,0,none⟩) 1 1,.int .i64 1,.slice none 0 0,.int .i64 (-1),.slice (some ⟨w5.heap.size+1,0,none⟩) 1 1] 73):=⟨_,rfl⟩
 obtain ⟨X4,hX4⟩:∃ X4,X4=X3.alloc (.cells #[.slice (some ⟨w5.heap.size+1+1,0,none⟩) 4 4] 74):=⟨_,rfl⟩
 obtain ⟨X5,hX5⟩:∃ X5,X5=X4.alloc (.cells #[.slice none 0 0,.slice none 0 0,.slice none 0 0,.slice (some ⟨w5.heap.size+1+1+1,0,none⟩) 1 1] 58):=⟨_,rfl⟩
 have z1:X1.heap.size=w5.heap.size+1:=by rw [hX1];simp
 have z2:X2.heap.size=w5.heap.size+1+1:=by rw [hX2];simp [z1]
 have z3:X3.heap.size=w5.heap.size+1+1+1:=by rw [hX3];simp [z2]
 have z4:X4.heap.size=w5.heap.size+1+1+1+1:=by rw [hX4];simp [z3]
 have j1:Same0 w5 X1:=by rw [hX1];exact (Kept.refl _ _).alloc _
 have j2:Same0 X1 X2:=by rw [hX2];exact (Kept.refl _ _).alloc _
 have j3:Same0 X2 X3:=by rw [hX3];exact (Kept.refl _ _).alloc _
 have j4:Same0 X3 X4:=by rw [hX4];exact (Kept.refl _ _).alloc _
 have j5:Same0 X4 X5:=by rw [hX5];exact (Kept.refl _ _).alloc _
 have q0:X1.heap[w5.heap.size]? = some (.cells #[.int .i64 0] 3 (0,0)):=by rw [hX1];exact heap_alloc_new _ _
 have q1:X2.heap[w5.heap.size+1]? = some (.cells #[.int .i64 0] 3 (0,0)):=by rw [hX2,← z1];exact heap_alloc_new _ _
 have q2:X3.heap[w5.heap.size+1+1]? = some (.cells #[.int .i64 2,.slice none 0 0,.int .i64 (-1),.slice (some ⟨w5.heap.size,0,none⟩) 1 1,.int .i64 1,.slice none 0 0,.int .i64 (-1),.slice (some ⟨w5.heap.size+1,0,none⟩) 1 1] 73 (0,0)):=by rw [hX3,← z2];exact heap_alloc_new _ _
 have q3:X4.heap[w5.heap.size+1+1+1]? = some (.cells #[.slice (some ⟨w5.heap.size+1+1,0,none⟩) 4 4] 74 (0,0)):=by rw [hX4,← z3];exact heap_alloc_new _ _
 have q4:X5.heap[w5.heap.size+1+1+1+1]? = some (.cells #[.slice none 0 0,.slice none 0 0,.slice none 0 0,.slice (some ⟨w5.heap.size+1+1+1,0,none⟩) 1 1] 58 (0,0)):=by rw [hX5,← z4];exact heap_alloc_new _ _
 have RT:=rt_QG w5 X5 _ _ _ _ (j5.at0 (j4.at0 (j3.at0 (j2.at0 q0)))) (j5.at0 (j4.at0 (j3.at0 q1))) (j5.at0 (j4.at0 q2)) (j5.at0 q3)
 have J5:=(((j1.trans' j2).trans' j3).trans' j4).trans' j5
 have CB:=(HQ5.out.same J5).build_yes (rc:=1) RT none none none 0 0 0 0 0 0 F1.out.2.2.2
 rw [ld_right] at CB
 have K5' : Hid (Same0 w X5):=K5.out.trans' J5
 obtain ⟨y0,y1,y2,y3⟩:=boxT4 q4
 go_upto_region 9 with fail
 rw [← hX1,← hX2,← hX3,← hX4,← hX5]
 clear hX1 hX2 hX3 hX4 hX5 z1 z2 z3 z4 j1 j2 j3 j4 j5 q0 q1 q2 q3 q4 RT J5 K5 HQ5
 go_upto_region 10 with (first | (go_at_call 16;refine CB.mono ?_;rintro e w6 ⟨a6,rfl,ea,Q6,k6⟩))
 obtain rfl:a6=6:=by simp at ea;omega
 have K6:Hid (Same0 w w6):=KH.out _ _ k6 K5'.out
 have HQ6:Hid (GH w1.heap.size sb L h g 8 NG7 w6):=Q6
 clear CB ea Q6 k6 K5' y0 y1 y2 y3
 have CA:=hat_yes HQ6.out.hp 6 (by decide)
 go_upto_region 11 with (first | (go_at_call 21;refine CA.mono ?_;rintro e w7 ⟨bo,bc,rfl,a1, -,k7⟩))
 obtain ⟨X7,hX7⟩:∃ X7,X7=w7.alloc (.cells #[.int .i64 2,.slice bo 2 bc,.int .i64 0,.bool false,.int .i64 0] 76):=⟨_,rfl⟩
 rw [← hX7]
 have j7:Same0 w7 X7:=by rw [hX7];exact (Kept.refl _ _).alloc _
 have hbx:X7.heap[w7.heap.size]? = some (.cells #[.int .i64 2,.slice bo 2 bc,.int .i64 0,.bool false,.int .i64 0] 76 (0,0)):=by rw [hX7];exact heap_alloc_new _ _
 have K7:Hid (Same0 w X7):=(K6.out.trans' k7).trans' j7
 have HQ7:Hid (GH w1.heap.size sb L h g 8 NG7 X7):=(HQ6.out.same k7).same j7
 have ha7:IntsAt X7 bo [3,5]:=(a1.same j7).1.at'
 obtain ⟨ab,aoff,rfl,hab,hac⟩:=ha7.get (i:=0) (by decide)
 obtain ⟨ab', aoff', e7,hab', hac'⟩:=ha7.get (i:=1) (by decide)
 simp only [Option.some.injEq,Addr.mk.injEq,and_true] at e7
 obtain ⟨rfl,rfl⟩:=e7
 have FC:Hid (∀ ww,Same0 X7 ww→ww.cell? ⟨w7.heap.size,0,none⟩=some (.int .i64 2)∧ww.cell? ⟨w7.heap.size,1,none⟩=some (.slice (some ⟨ab,aoff,none⟩) 2 bc)∧ww.cell? ⟨ab,aoff,none⟩=some (.int .i64 3)∧ww.cell? ⟨ab,aoff+1,none⟩=some (.int .i64 5)):=fun ww hk=>⟨cellAt (hk.at0 hbx) 0,cellAt (hk.at0 hbx) 1,(hk.cell (p:=⟨ab,aoff,none⟩) hab (fun f=>f)).trans hac,(hk.cell (p:=⟨ab,aoff+1,none⟩) hab (fun f=>f)).trans hac'⟩
 clear hX7 j7 hbx a1 k7 K6 HQ6 CA ha7 hac hac' hab hab'
 have CO:=of_any (some ⟨h,0,none⟩) X7
 have CH:Hid (∀ ww,Same0 X7 ww→Calls Tryz.prog 23 #[.agg #[.pointer (some ⟨h,0,none⟩)],.int .i64 4] ww fun e w' => e=.returned (.tuple #[.int .i64 3,.bool false])∧Same0 ww w'):=fun ww hk=>(head_yes (HQ7.out.same hk).hp 4 (by decide)).mono (fun e w' ⟨b,hb,e1,e2,e3⟩=>by
  obtain rfl:=e2.uniq (Res.self (l:=NG7) (a:=4) (by decide) rfl)
  exact ⟨e1,e3⟩)
 go_upto_region 12 with (first
  | (go_at_call 22;refine CO.mono ?_;rintro e w8 ⟨rfl,k8⟩)
  | (go_at_call 23;refine (CH.out w8 k8).mono ?_;rintro e w9 ⟨rfl,k9⟩))
 obtain ⟨y0,y1,y2,y3⟩:=FC.out w9 (Same0.trans' k8 k9)
 have n1:=neq_efault
 have n2:=neq_enil
 go_wp2
 go_ret
 exact ⟨rfl,(K7.out.trans' k8).trans' k9⟩
def eqL (l l' : List Nd):Bool:=decide (l=l')
theorem eqL_self (l:List Nd):eqL l l=true:=by unfold eqL;simp
set_option maxHeartbeats 2000000 in
theorem sameNodes_any {w:World} {ao bo:Option Addr} {ac bc:Nat} {l l' : List Nd} (h:NsW w ao l) (h' : NsW w bo l') (hm:l.length≤maxLen) :
  Calls Tryz.prog 14 #[.slice ao l.length ac,.slice bo l'.length bc] w fun e w' => e=.returned (.bool (eqL l l'))∧Same0 w w' := by
 unfold maxLen at hm
 by_cases hl:l.length=l'.length
 ·have hl' : (l.length:Int)=(l'.length:Int):=by omega
  have HX:Hid (∀ ww,Same0 w ww→NsW ww ao l):=fun ww hw=>h.same hw
  have HY:Hid (∀ ww,Same0 w ww→NsW ww bo l'):=fun ww hw=>h'.same hw
  have HL:Hid (l.length=l'.length):=hl
  have KR:Same0 w w:=Kept.refl _ _
  clear h h' hl
  go_enter Tryz.func14,Tryz.ntmps14
  go_wp2
  go_loopw [5] (fun i wr=>∃ k:Nat,k≤l.length∧i=.int .i64 k∧Hid (∀ j (h1:j<l.length) (h2:j<l'.length),j<k→l[j]=l'[j])∧Same0 w wr) (fun i _=>l.length-(intOf i).toNat)
  case atStart=>exact ⟨0,Nat.zero_le _,rfl,fun j _ _ hj=>absurd hj (Nat.not_lt_zero _),KR⟩
  case round=>
   clear KR
   obtain ⟨k,hk,rfl,hall,hw⟩:=hrel
   by_cases hlt:k<l.length
   ·have hlt' : k<l'.length:=by rw [← HL.out];exact hlt
    have i1:(0:Int)≤(k:Int):=by omega
    have i2:(k:Int)<(l.length:Int):=by omega
    have i3:(k:Int)<(l'.length:Int):=by omega
    rcases HX.out wr.drew (hw.drew) with e | ⟨mb,moff,e,hmb,hm'⟩
    ·rw [e] at hlt;simp at hlt
    subst e
    rcases HY.out wr.drew (hw.drew) with e | ⟨nb,noff,e,hnb,hn⟩
    ·rw [e] at hlt'; simp at hlt'
    subst e
    obtain ⟨xo,xc,m0,m1,m2,m3,m4,m5⟩:=hm' k hlt
    obtain ⟨yo,yc,n0,n1,n2,n3,n4,n5⟩:=hn k hlt'
    have CS:=sameNode_any m5 n5
    have HEY:Hid (eqN l[k] l'[k]=true→l[k]=l'[k]):=fun e=>by unfold eqN at e;simpa using e
    have HEN:Hid (eqN l[k] l'[k]=false→eqL l l' = false):=fun e=>by
     unfold eqN at e
     unfold eqL
     simp at e ⊢
     rintro rfl
     exact e rfl
    clear hm' hn m5 n5
    generalize eqN l[k] l'[k]=R at *
    go_upto_region 6 with fail
    go_region_with (first | (go_at_call 39;refine CS.mono ?_;rintro e w8 ⟨rfl,k8⟩))
    all_goals
     have hw8:Same0 w w8:=Same0.trans' (Kept.drew hw) k8
     clear m0 m1 m2 m3 m4 n0 n1 n2 n3 n4 CS
     cases R
     ·have HF:Hid (eqL l l' = false):=HEN.out rfl
      go_wp2
      go_ret
      exact ⟨ret_bool HF.out.symm,hw8⟩
     ·have HF:Hid (∀ j (h1:j<l.length) (h2:j<l'.length),j<k+1→l[j]=l'[j]):=fun j h1 h2 hj=>by
       by_cases e:j=k
       ·subst e;exact HEY.out rfl
       ·exact hall.out j h1 h2 (by omega)
      go_wp2
      go_roundw
      case rel=>first | exact ⟨k+1,by omega,by go_num,HF,hw8⟩ | ((repeat apply Exists.intro);exact ⟨⟨k+1,by omega,by go_num,HF,hw8⟩,rfl⟩)
      case measure=>simp [intOf];omega
   ·obtain rfl:k=l.length:=by omega
    have HE:Hid (eqL l l' = true):=by
     show _=_
     unfold eqL
     simp
     exact List.ext_getElem HL.out (fun j h1 h2=>hall.out j h1 h2 h1)
    clear hall
    go_wp2
    go_ret
    exact ⟨ret_bool HE.out.symm,hw⟩
 ·have HE:Hid (eqL l l' = false):=by show _=_;unfold eqL;simp;rintro rfl;exact hl rfl
  have hl' : ¬ (l.length:Int)=(l'.length:Int):=by omega
  have KR:Hid (Same0 w w):=Kept.refl _ _
  clear h h' hl
  go_enter Tryz.func14,Tryz.ntmps14
  go_wp2
  go_ret
  exact ⟨ret_bool HE.out.symm,KR.out⟩
end Go.Proofs.YtblgblgchkonhaaGreat
namespace Go.Proofs.YtblgblgchkonhaaGreat
set_option maxRecDepth 100000
set_option linter.unusedVariables false
open Go.RowKit
theorem RhB.rowT {B:Nat→Prop} {w:World} {r room:Nat} {v:Value} {N:List Nd} (p:RhB B w r room v N) {k:Nat} (e:v.ownBlock=some k):∃ cur,w.heap[k]? = some (.cells cur 76 (0,0)):=by
 obtain ⟨vs,q1,_⟩:=p.row
 rcases q1.2 with ⟨e1,_⟩ | ⟨g', cap', cur', e1,_,hg', _⟩
 ·rw [e1] at e;cases e
 ·rw [e1] at e
  have e2:g' = k:=Option.some.inj e
  exact ⟨cur', e2 ▸ hg'⟩
theorem RhB.ownNot {B:Nat→Prop} {w:World} {r room:Nat} {v:Value} {N:List Nd} (p:RhB B w r room v N) {k:Nat} (e:v.ownBlock=some k):NotI w k:=fun cur hc=>by
 obtain ⟨c,hq⟩:=p.rowT e
 rw [hq] at hc;cases hc
theorem HpB.notG {B:Nat→Prop} {w:World} {h g room:Nat} {l:List Nd} (p:HpB B w h g room l):∀ k,k=h∨k=g→NotI w k:=fun k e cur hc=>by
 rcases e with rfl | rfl
 ·rw [p.box] at hc;cases hc
 ·obtain ⟨c2,hq,_⟩:=p.blk
  rw [hq] at hc;cases hc
structure GLW (B:Nat→Prop) (n0 sb:Nat) (rv:Value) (L:List Sym) (h g r room:Nat) (v:Value) (N M:List Nd) (w:World):Prop where
 sg:Sg n0 w sb L
 rl:Rl n0 w rv L
 hp:HpB B w h g room N
 rh:RhB B w r room v M
 sep:r≠h∧r≠g
 own:∀ k,v.ownBlock=some k→n0≤k∧k≠h∧k≠g∧k≠r
 lo:n0≤h∧n0≤g∧n0≤r
section
variable {B : Nat → Prop} {n0 sb : Nat} {rv : Value} {L : List Sym} {h g r room : Nat} {v : Value} {N M : List Nd} {w w' : World}
theorem GLW.kept {S:Nat→Prop} (q:GLW B n0 sb rv L h g r room v N M w) (hk:Kept S w w') (s0:∀ k,k<n0→¬ S k) (s1:¬ S h∧¬ S g∧¬ S r) (s2:∀ k,v.ownBlock=some k→¬ S k) (s3:∀ k,B k→S k→NotI w k):GLW B n0 sb rv L h g r room v N M w' :=
 ⟨q.sg.kept hk s0,q.rl.kept hk s0,q.hp.kept hk s1.1 s1.2.1 s3,q.rh.kept hk s1.2.2 s2 s3,q.sep,q.own,q.lo⟩
theorem GLW.same (q:GLW B n0 sb rv L h g r room v N M w) (hk:Same0 w w'):GLW B n0 sb rv L h g r room v N M w' :=
 q.kept hk (fun _ _ f=>f) ⟨fun f=>f,fun f=>f,fun f=>f⟩ (fun _ _ f=>f) (fun _ _ f=>f.elim)
theorem GLW.mono {B' : Nat→Prop} (q:GLW B n0 sb rv L h g r room v N M w) (hB:∀ k,k<w.heap.size→B k→B' k):GLW B' n0 sb rv L h g r room v N M w:=
 ⟨q.sg,q.rl,q.hp.mono (fun k hk _ hb=>hB k hk hb),q.rh.monoG hB,q.sep,q.own,q.lo⟩
def GLM (B:Nat→Prop) (n0 sb:Nat) (rv:Value) (L:List Sym) (h g r room:Nat) (w:World):Prop:=∃ v N,GLW B n0 sb rv L h g r room v N N w
theorem GLM.same (q:GLM B n0 sb rv L h g r room w) (hk:Same0 w w'):GLM B n0 sb rv L h g r room w' := by
 obtain ⟨v,N,q⟩:=q
 exact ⟨v,N,q.same hk⟩
theorem GLM.lent {gt:Nat} (q:GLM (fun _=>True) n0 sb rv L h g r room w) (hk:Same0 w w') (hg:w.heap.size≤gt):GLM (fun b=>b≠gt) n0 sb rv L h g r room w' := by
 obtain ⟨v,N,q⟩:=q
 exact ⟨v,N,((q.mono (B' := fun b=>b<w.heap.size) (fun k hk _=>hk)).same hk).mono (fun k _ hb=>by show k≠gt;have:k<w.heap.size:=hb;omega)⟩
theorem GLM.faults {S:Nat→Prop} (q:GLM B n0 sb rv L h g r room w) (hk:Kept S w w') (hS:∀ k,S k→n0≤k∧∃ cs,w.heap[k]? = some (.cells cs 94 (0,0))):GLM B n0 sb rv L h g r room w' := by
 obtain ⟨v,N,q⟩:=q
 refine ⟨v,N,q.kept hk (fun k hk' s=>by have:=(hS k s).1;omega) ⟨fun s=>?_,fun s=>?_,fun s=>?_⟩ (fun k e s=>?_) (fun k _ s cur hc=>?_)⟩
 ·obtain ⟨_,cs,e⟩:=hS _ s
  rw [q.hp.box] at e;cases e
 ·obtain ⟨_,cs,e⟩:=hS _ s
  obtain ⟨c2,hq,_⟩:=q.hp.blk
  rw [hq] at e;cases e
 ·obtain ⟨_,cs,e⟩:=hS _ s
  rw [q.rh.box] at e;cases e
 ·obtain ⟨_,cs,e'⟩:=hS _ s
  obtain ⟨c2,hq⟩:=q.rh.rowT e
  rw [hq] at e'; cases e'
 ·obtain ⟨_,cs,e⟩:=hS _ s
  rw [hc] at e;cases e
theorem GLM.held {gt:Nat} (q:GLM (fun b=>b≠gt) n0 sb rv L h g r room w) (hk:Kept (fun i=>i=gt) w w') (hn:n0≤gt) {cur:Array Value} (hi:w.heap[gt]? = some (.cells cur 3 (0,0))):GLM (fun _=>True) n0 sb rv L h g r room w' := by
 obtain ⟨v,N,q⟩:=q
 refine ⟨v,N,(q.kept hk (fun k hk' (s:k=gt)=>by omega) ⟨fun s=>?_,fun s=>?_,fun s=>?_⟩ (fun k e s=>?_) (fun k hb s=>absurd s hb)).mono (fun _ _ _=>trivial)⟩
 ·have s:h=gt:=s
  rw [← s,q.hp.box] at hi;cases hi
 ·have s:g=gt:=s
  obtain ⟨c2,hq,_⟩:=q.hp.blk
  rw [← s,hq] at hi;cases hi
 ·have s:r=gt:=s
  rw [← s,q.rh.box] at hi;cases hi
 ·have s:k=gt:=s
  obtain ⟨c2,hq⟩:=q.rh.rowT e
  rw [← s,hq] at hi;cases hi
end
def FtO (n0:Nat) (w:World) (v:Value) (c y:Int):Prop:=(v=.nilIface∧c=0∧y=0)∨FtAt n0 w v c 0 y
theorem FtAt.sameG {n0:Nat} {w w' : World} {v:Value} {c a y:Int} (h:FtAt n0 w v c a y) (hk:Same0 w w'):FtAt n0 w' v c a y:=by
 obtain ⟨b,e,hn,hb⟩:=h
 exact ⟨b,e,hn,hk.at0 hb⟩
theorem FtO.same {n0:Nat} {w w' : World} {v:Value} {c y:Int} (h:FtO n0 w v c y) (hk:Same0 w w'):FtO n0 w' v c y:=h.imp id (fun q=>q.sameG hk)
def FB (v:Value) (k:Nat):Prop:=v=.iface 92 (.pointer (some ⟨k,0,none⟩))
theorem FtO.fb {n0:Nat} {w:World} {v:Value} {c y:Int} (h:FtO n0 w v c y) {k:Nat} (hf:FB v k):n0≤k∧∃ cs,w.heap[k]? = some (.cells cs 94 (0,0)):=by
 unfold FB at hf
 rcases h with ⟨e,_⟩ | ⟨b,e,hn,hb⟩
 ·rw [hf] at e;cases e
 ·rw [hf] at e
  cases e
  exact ⟨hn,_,hb⟩
section
variable {n0 sb gt : Nat} {rv : Value} {L : List Sym} {h g r room : Nat} {v : Value} {N : List Nd} {w : World}
end
end Go.Proofs.YtblgblgchkonhaaGreat
namespace Go.Proofs.YtblgblgchkonhaaGreat
set_option linter.unusedVariables false
theorem lay_take {L:List Sym} {t:List Int} {l:List Tg} (h:IsT L t) (hA:AsT L t l) (hO:∀ x∈l,x.1=false→arT x=0) (N:List Nd) {p:Nat} (hl:p<l.length) (hp:p<t.length) :
  (layF N (l.drop (p+1))).2.take (arT l[p])=(starts L t (arN L t[p]) (p+1)).map (hdA N l):=by
 obtain ⟨k,hk⟩:=isT_need h hp
 rw [List.drop_eq_getElem_cons hp] at hk
 have hn' : need L (k+arN L t[p]) (t.drop (p+1))=some 0:=by simpa [need] using hk
 have st:=lay_stackA h hA hO N (t.length-(p+1)) (p+1) (k+arN L t[p]) (by omega) hn'
 rw [st,hA.at hl hp,Nat.add_comm k,starts_app,List.map_append,List.take_left' (by simp [starts_length])]
theorem lay_mk {L:List Sym} {t:List Int} {l:List Tg} (h:IsT L t) (hA:AsT L t l) (hO:∀ x∈l,x.1=false→arT x=0) {N:List Nd} {room:Nat} (h1:oneT 1 l=true) (ho:∀ x∈l,TgOk N.length x) (hf:N.length+newN l≤room) {p:Nat} (hl:p<l.length) (hp:p<t.length) (hx:l[p].1=true) :
  mkE (layF N (l.drop (p+1))).1 room l[p].2.1 ((starts L t (arN L t[p]) (p+1)).map (hdA N l))=0:=by
 obtain ⟨k,hk⟩:=one_drop h1 p
 have el:l.drop p=l[p] :: l.drop (p+1):=List.drop_eq_getElem_cons hl
 rw [el] at hk
 have hn:=newN_drop l p
 rw [el] at hn
 have:=(lay_fits (N:=N) (room:=room) hk (fun y hy=>ho y (List.mem_of_mem_drop (by rw [el];exact hy))) (by omega) hx).2.2
 rwa [lay_take h hA hO N hl hp] at this
def atL (N:List Nd) (l:List Tg) (p:Nat):List Int:=(List.range l.length).map (fun j=>if p≤j then hdA N l j else 0)
theorem atL_len (N:List Nd) (l:List Tg) (p:Nat):(atL N l p).length=l.length:=by simp [atL]
theorem atL_start (N:List Nd) (l:List Tg):atL N l l.length=List.replicate l.length 0:=by
 refine List.ext_getElem (by simp [atL]) (fun i h1 h2=>?_)
 have:i<l.length:=by simpa [atL] using h1
 simp [atL]
 omega
theorem atL_at (N:List Nd) (l:List Tg) {p j:Nat} (h:p≤j) (hj:j<l.length):(atL N l p)[j]'(by rw [atL_len];exact hj)=hdA N l j:=by
 simp [atL,h]
theorem atL_put (N:List Nd) (l:List Tg) {p:Nat} (hp:p<l.length):(atL N l (p+1)).set p (hdA N l p)=atL N l p:=by
 refine List.ext_getElem (by simp [atL]) (fun i h1 h2=>?_)
 have hi:i<l.length:=by simpa [atL] using h2
 rw [List.getElem_set]
 by_cases e:p=i
 ·subst e
  simp [atL]
 ·rw [if_neg e]
  simp only [atL,List.getElem_map,List.getElem_range]
  by_cases q:p+1≤i
  ·rw [if_pos q,if_pos (by omega)]
  ·rw [if_neg q,if_neg (by omega)]
theorem iv_setQ (xs:List Int) (k:Nat) (z:Int):iv (xs.set k z)=(iv xs).set k (.int .i64 z):=by
 unfold iv
 rw [List.map_set]
structure BdI (B:Nat→Prop) (N:List Nd) (l:List Tg) (w0:World) (r room:Nat) (v:Value) (ab p:Nat) (wr:World) (vr:Value):Prop where
 rh:RhB (fun b=>(B b∨w0.heap.size≤b)∧b≠ab) wr r room vr (layF N (l.drop p)).1
 own:∀ k,vr.ownBlock=some k→v.ownBlock=some k∨w0.heap.size≤k
 kept:Kept (fun k=>k=r∨v.ownBlock=some k) w0 wr
 row:Row ab wr (.slice (some ⟨ab,0,none⟩) l.length l.length) (atL N l p)
 lo:w0.heap.size≤ab
section
variable {B : Nat → Prop} {N : List Nd} {l : List Tg} {w0 : World} {r room : Nat} {v : Value} {ab p : Nat} {wr w2 : World} {vr : Value}
theorem BdI.same (I:BdI B N l w0 r room v ab p wr vr) (hk:Same0 wr w2):BdI B N l w0 r room v ab p w2 vr:=
 ⟨I.rh.same hk,I.own,I.kept.trans hk (fun _ _ f=>f.elim),hk.row I.row (fun _ _ f=>f),I.lo⟩
theorem BdI.rowAt (I:BdI B N l w0 r room v ab p wr vr):w0.heap.size≤ab∧ab<wr.heap.size∧(0<l.length→∃ cur,wr.heap[ab]? = some (.cells cur 3 (0,0))):=by
 rcases I.row.2 with ⟨e,_⟩ | ⟨g', cap', cur', e,hb,hg', _⟩
 ·simp at e
 ·simp only [Value.slice.injEq,Option.some.injEq,Addr.mk.injEq,and_true] at e
  obtain ⟨rfl,_⟩:=e
  exact ⟨I.lo,lt_of_at hg', fun _=>⟨cur', hg'⟩⟩
theorem BdI.cell (I:BdI B N l w0 r room v ab p wr vr) {j:Nat} (hj:j<l.length):∃ z,(p≤j→z=hdA N l j)∧wr.cell? ⟨ab,j,none⟩=some (.int .i64 z)∧wr.frozen? ⟨ab,j,none⟩=false:=by
 obtain ⟨ao,ac,e,hi,_,_⟩:=I.row.ints
 simp only [Value.slice.injEq] at e
 rw [← e.1] at hi
 obtain ⟨b,off,e1,_,hc⟩:=hi.get (i:=j) (by rw [atL_len];exact hj)
 simp only [Option.some.injEq,Addr.mk.injEq,and_true] at e1
 obtain ⟨rfl,rfl⟩:=e1
 refine ⟨_,fun q=>atL_at N l q hj,by simpa using hc,?_⟩
 have h1:=I.row
 unfold Row at h1
 rw [atL_len] at h1
 exact h1.frozenAt j
theorem BdI.ne (I:BdI B N l w0 r room v ab p wr vr):ab≠r∧∀ k,vr.ownBlock=some k→k≠ab:=by
 rcases I.row.2 with ⟨e,_⟩ | ⟨g', cap', cur', e,hb,hg', _⟩
 ·simp at e
 ·simp only [Value.slice.injEq,Option.some.injEq,Addr.mk.injEq,and_true] at e
  obtain ⟨rfl,_⟩:=e
  refine ⟨fun s=>?_,fun k e s=>?_⟩
  ·rw [s,I.rh.box] at hg'; cases hg'
  ·obtain ⟨c,hq⟩:=I.rh.rowT e
   rw [s,hg'] at hq;cases hq
theorem BdI.put {M:List Nd} (hM:RhB (fun b=>(B b∨w0.heap.size≤b)∧b≠ab) wr r room vr (layF N (l.drop p)).1) (own:∀ k,vr.ownBlock=some k→v.ownBlock=some k∨w0.heap.size≤k) (hk:Kept (fun k=>k=r∨v.ownBlock=some k) w0 wr) (row:Row ab wr (.slice (some ⟨ab,0,none⟩) l.length l.length) (atL N l (p+1))) (hlo:w0.heap.size≤ab) (hne:ab≠r∧∀ k,vr.ownBlock=some k→k≠ab) (hp:p<l.length) :
  BdI B N l w0 r room v ab p (wr.setCell ⟨ab,p,none⟩ (.int .i64 (hdA N l p))) vr:=by
 have hk2:Kept (fun k=>k=ab) wr (wr.setCell ⟨ab,p,none⟩ (.int .i64 (hdA N l p))):=Kept.setCell (S:=fun k=>k=ab) (Kept.refl _ _) (p:=⟨ab,p,none⟩) (fun _=>rfl) _
 refine ⟨hM.kept hk2 (fun e=>hne.1 e.symm) (fun k e s=>hne.2 k e s) (fun k hb s=>absurd s hb.2),own,hk.trans hk2 (fun i hi e=>by have e:i=ab:=e;omega),?_,hlo⟩
 have h1:=row
 unfold Row at h1 ⊢
 rw [atL_len] at h1 ⊢
 rw [← atL_put N l hp,iv_setQ]
 exact (h1.stored p (.int .i64 (hdA N l p))).1
theorem BdI.step (I:BdI B N l w0 r room v ab (p+1) wr vr) {L:List Sym} {t:List Int} (h:IsT L t) (hA:AsT L t l) (hO:∀ x∈l,x.1=false→arT x=0) (h1:oneT 1 l=true) (ho:∀ x∈l,TgOk N.length x) (hf:N.length+newN l≤room) (hl:p<l.length) (hp:p<t.length) (hx:l[p].1=true) {w9:World} {gg cap:Nat}
  (r9:NRow (fun b=>(B b∨w0.heap.size≤b)∧b≠ab) 0 w9 (.slice (some ⟨gg,0,none⟩) ((layF N (l.drop (p+1))).1.length+1) cap) ((layF N (l.drop (p+1))).1 ++ [(l[p].2.1,(starts L t (arN L t[p]) (p+1)).map (hdA N l),0,false,0)])) (k9:Kept (fun k=>vr.ownBlock=some k) wr w9) (hat:vr.ownBlock=some gg∨wr.heap.size≤gg) :
  (w9.cell? ⟨r,0,none⟩=some (.int .i64 (room:Int))∧w9.cell? ⟨r,1,none⟩=some vr∧w9.frozen? ⟨r,1,none⟩=false)∧(∃ z,w9.cell? ⟨ab,p,none⟩=some (.int .i64 z)∧w9.frozen? ⟨ab,p,none⟩=false)∧BdI B N l w0 r room v ab p ((w9.setCell ⟨r,1,none⟩ (.slice (some ⟨gg,0,none⟩) ((layF N (l.drop (p+1))).1.length+1) cap)).setCell ⟨ab,p,none⟩ (.int .i64 (hdA N l p))) (.slice (some ⟨gg,0,none⟩) ((layF N (l.drop (p+1))).1.length+1) cap):=by
 obtain ⟨q1,q2,q3⟩:=I.rh.made (Kept.refl _ _) (lay_mk h hA hO h1 ho hf hl hp hx) r9 k9
 have hne:=I.ne
 have row9:Row ab w9 (.slice (some ⟨ab,0,none⟩) l.length l.length) (atL N l (p+1)):=k9.row I.row (fun k e s=>by
  have e1:ab=k:=Option.some.inj e
  exact hne.2 k s e1.symm)
 have I9:=I.rowAt
 refine ⟨q1,?_,?_⟩
 ·have r1:=row9
  unfold Row at r1
  rw [atL_len] at r1
  obtain ⟨ao,ac,e,hi,_,_⟩:=row9.ints
  simp only [Value.slice.injEq] at e
  rw [← e.1] at hi
  obtain ⟨b,off,e1,_,hc⟩:=hi.get (i:=p) (by rw [atL_len];exact hl)
  simp only [Option.some.injEq,Addr.mk.injEq,and_true] at e1
  obtain ⟨rfl,rfl⟩:=e1
  exact ⟨_,by simpa using hc,r1.frozenAt p⟩
 ·have row' : Row ab (w9.setCell ⟨r,1,none⟩ (.slice (some ⟨gg,0,none⟩) ((layF N (l.drop (p+1))).1.length+1) cap)) (.slice (some ⟨ab,0,none⟩) l.length l.length) (atL N l (p+1)):=(Kept.setCell (S:=fun k=>k=r) (Kept.refl _ _) (p:=⟨r,1,none⟩) (fun _=>rfl) _).row row9 (fun k e s=>by
   have e1:ab=k:=Option.some.inj e
   have s:k=r:=s
   exact hne.1 (e1.trans s))
  have q2' : RhB (fun b=>(B b∨w0.heap.size≤b)∧b≠ab) (w9.setCell ⟨r,1,none⟩ (.slice (some ⟨gg,0,none⟩) ((layF N (l.drop (p+1))).1.length+1) cap)) r room (.slice (some ⟨gg,0,none⟩) ((layF N (l.drop (p+1))).1.length+1) cap) (layF N (l.drop p)).1:=by
   rw [((lay_at h hA hO N hl hp).2 hx).1];exact q2
  refine BdI.put (M:=[]) q2' (fun k e=>?_) (I.kept.trans q3 ?_) row' I.lo ⟨hne.1,fun k e s=>?_⟩ hl
  ·have e' : gg=k:=Option.some.inj e
   subst e'
   rcases hat with e2 | e2
   ·exact I.own _ e2
   ·exact .inr (Nat.le_trans I.kept.size e2)
  ·rintro i hi (e1 | e1)
   ·exact .inl e1
   ·rcases I.own _ e1 with e2 | e2
    ·exact .inr e2
    ·omega
  ·have e' : gg=k:=Option.some.inj e
   subst e'
   rcases hat with e2 | e2
   ·exact hne.2 _ e2 s
   ·have:=I9.2.1;omega
end
theorem made_numsQ (n:Nat):(madeCells (Value.int .i64 0).cells (n * 1)).toList=iv (List.replicate n 0):=by
 rw [Nat.mul_one,show (Value.int .i64 0).cells = #[Value.int .i64 0] from rfl,toList_madeCells_one]
 simp [iv]
theorem BdI.start {B:Nat→Prop} {N:List Nd} {l:List Tg} {w0 w1 w2:World} {r room:Nat} {v:Value} (p:RhB B w1 r room v N) (k1:Same0 w0 w1) (k2:Same0 w1 w2) (row:Row w1.heap.size w2 (.slice (some ⟨w1.heap.size,0,none⟩) l.length l.length) (List.replicate l.length 0)):BdI B N l w0 r room v w1.heap.size l.length w2 v:=by
 refine ⟨?_,fun k e=>.inl e,(k1.trans' k2).mono (fun _ _ f=>f.elim),by rw [atL_start];exact row,k1.size⟩
 rw [List.drop_of_length_le (Nat.le_refl _)]
 exact ((p.monoG (B' := fun b=>(B b∨w0.heap.size≤b)∧b≠w1.heap.size) (fun k hk hb=>⟨.inl hb,by omega⟩))).same k2
theorem newN_take {l:List Tg} {k:Nat} (h:k<l.length):newN (l.take (k+1))=newN (l.take k)+if l[k].1 then 1 else 0:=by
 rw [← List.take_append_getElem h]
 unfold newN
 rw [List.countP_append]
 simp [List.countP_cons]
end Go.Proofs.YtblgblgchkonhaaGreat
