import Derived.Test.YtblgblgchkonhaaGreatGO10
import Derived.Test.YtblgblgchkonhaaGreatGO03
import Derived.Test.YtblgblgchkonhaaGreatGO06
import Derived.Test.YtblgblgchkonhaaGreatGO09
import Derived.Test.YtblgblgchkonhaaGreatGO05
import Derived.Test.YtblgblgchkonhaaGreatGO04
import Derived.Laws.StructEq
namespace Go.Proofs.YtblgblgchkonhaaGreat
set_option maxRecDepth 100000
set_option linter.unusedVariables false
open Go.RowKit
attribute [local go_sem ↓] Go.wp_at_zero Go.wp_at_succ
abbrev gZ:Sym:=⟨⟨#[122]⟩,0,false⟩
abbrev gS:Sym:=⟨⟨#[115]⟩,1,false⟩
abbrev gP:Sym:=⟨⟨#[112]⟩,2,false⟩
abbrev gD:Sym:=⟨⟨#[100]⟩,1,true⟩
theorem ng_z:nameB ⟨#[122]⟩=true:=by decide +kernel
theorem ng_s:nameB ⟨#[115]⟩=true:=by decide +kernel
theorem ng_p:nameB ⟨#[112]⟩=true:=by decide +kernel
theorem ng_d:nameB ⟨#[100]⟩=true:=by decide +kernel
abbrev LG:List Sym:=[gZ,gS,gP,gD]
theorem made_LG:madeL [gZ,gS,gP,gD]=LG:=by
 simp [madeL,addL,addErr,ng_z,ng_s,ng_p,ng_d,findI]
abbrev NG4:List Nd:=[(0,[],0,false,0),(1,[0],0,false,0),(0,[],0,false,0),(2,[2,1],0,false,0)]
abbrev NG5:List Nd:=NG4 ++ [(3,[3],0,false,0)]
abbrev NG7:List Nd:=NG5 ++ [(1,[3],0,false,0),(2,[3,5],0,false,0)]
theorem ld_term:layF [] ([2,0,1,0].map (tgT LG))=(NG4,[3]):=by decide +kernel
theorem ck_term:checkE LG [2,0,1,0]=0:=by decide +kernel
theorem ck_one:checkE LG [1]=23:=by decide +kernel
theorem mk_five:mkE NG4 8 3 [3]=0:=by decide +kernel
abbrev TG:List Tg:=[(true,2,2,0),(false,0,0,3),(true,1,1,0),(false,0,0,3)]
theorem ld_right:layF NG5 TG=(NG7,[6]):=by decide +kernel
theorem ar_four:ArR NG5 4 0 3:=.inl ⟨4,4,3,by decide,by decide,rfl,Res.self (by decide) rfl,by decide,Res.self (by decide) rfl,rfl⟩
abbrev QG:List (Int × List Int):=[(2,[]),(-1,[0]),(1,[]),(-1,[0])]
theorem tg_two:tgT LG 2=(true,2,2,0):=by decide +kernel
theorem tg_one:tgT LG 1=(true,1,1,0):=by decide +kernel
theorem all_right:AllP LG NG5 ((4:Nat):Int) QG TG:=by
 refine ⟨rfl,fun i h h' => ?_⟩
 have hl:i<4:=h
 match i,hl with
 | 0,_=>exact .inl ⟨show (0:Int)≤2 by decide,show (2:Int)<4 by decide,tg_two.symm,rfl⟩
 | 1,_=>exact .inr (.inr (.inr (.inr ⟨rfl,3,⟨3,ar_four,rfl⟩,by decide,rfl,rfl⟩)))
 | 2,_=>exact .inl ⟨show (0:Int)≤1 by decide,show (1:Int)<4 by decide,tg_one.symm,rfl⟩
 | 3,_=>exact .inr (.inr (.inr (.inr ⟨rfl,3,⟨3,ar_four,rfl⟩,by decide,rfl,rfl⟩)))
theorem bd_right:BdY LG NG5 8 [QG] 0 4 TG:=⟨0,4,4,by decide,rfl,rfl,Res.self (by decide) rfl,all_right,by decide,by decide⟩
theorem syms_LG (w:World):SymsAt (w.alloc (.cells #[.string ⟨#[122]⟩,.int .i64 0,.bool false,.string ⟨#[115]⟩,.int .i64 1,.bool false,.string ⟨#[112]⟩,.int .i64 2,.bool false,.string ⟨#[100]⟩,.int .i64 1,.bool true] 67)) (some ⟨w.heap.size,0,none⟩) 4 [gZ,gS,gP,gD]:=by
 refine ⟨rfl,.inr ⟨_,_,rfl,by simp,fun i hi=>?_⟩,?_⟩
 ·have hi' : i<4:=by simpa using hi
  rw [cellAt (heap_alloc_new w _),cellAt (heap_alloc_new w _),cellAt (heap_alloc_new w _)]
  match i,hi' with
  | 0,_=>exact ⟨rfl,rfl,rfl⟩
  | 1,_=>exact ⟨rfl,rfl,rfl⟩
  | 2,_=>exact ⟨rfl,rfl,rfl⟩
  | 3,_=>exact ⟨rfl,rfl,rfl⟩
 ·intro x hx
  simp at hx
  rcases hx with rfl | rfl | rfl | rfl <;> exact ⟨by decide +kernel,by decide +kernel⟩
structure GH (n sb:Nat) (L:List Sym) (h g room:Nat) (N:List Nd) (w:World):Prop where
 sg:Sg n w sb L
 hp:HpB (fun _=>True) w h g room N
 gh:n≤h∧n≤g
theorem GH.same {n sb:Nat} {L:List Sym} {h g room:Nat} {N:List Nd} {w w' : World} (q:GH n sb L h g room N w) (hk:Same0 w w'):GH n sb L h g room N w' := ⟨q.sg.same hk,q.hp.same hk,q.gh⟩
theorem GH.next {n sb:Nat} {L:List Sym} {h g room:Nat} {N N' : List Nd} {w w' : World} {B:Nat→Prop} (q:GH n sb L h g room N w) (hk:Kept (fun k=>k=h∨k=g) w w') (hp:HpB B w' h g room N'):GH n sb L h g room N' w' :=
 ⟨q.sg.kept hk (fun k hk e=>by have:=q.gh;omega),hp.mono (fun _ _ _ _=>trivial),q.gh⟩
theorem GH.load_yes {n sb:Nat} {L:List Sym} {h g room:Nat} {N:List Nd} {w:World} (q:GH n sb L h g room N w) {ao:Option Addr} {cap:Nat} {t:List Int} (ht:IntsAt w ao t) (hc:checkE L t=0) (hv:∀ x∈t,0≤x) (hf:N.length+t.length≤room) :
  Calls Tryz.prog 9 #[.pointer (some ⟨sb,0,none⟩),.pointer (some ⟨h,0,none⟩),.slice ao t.length cap] w fun e w' => ∃ a:Nat,e=.returned (.tuple #[.int .i64 (a:Int),.nilIface])∧(layF N (t.map (tgT L))).2=[(a:Int)]∧GH n sb L h g room (layF N (t.map (tgT L))).1 w' ∧ Kept (fun k=>k=h∨k=g) w w' :=
 (Go.Proofs.YtblgblgchkonhaaGreat.load_yes q.sg q.hp ht hc hv hf).mono (fun e w' ⟨a,e1,e2,e3,e4⟩=>⟨a,e1,e2,q.next e4 e3,e4⟩)
theorem GH.made {n sb:Nat} {L:List Sym} {h g room:Nat} {N:List Nd} {w:World} (q:GH n sb L h g room N w) (s:Int) {ao:Option Addr} {xs:List Int} {cap:Nat} (hx:Arg w ao xs cap) (he:mkE N room s xs=0) :
  Calls Tryz.prog 20 #[.pointer (some ⟨h,0,none⟩),.int .i64 s,.slice ao xs.length cap] w fun e w' => e=.returned (.tuple #[.int .i64 (N.length:Int),.int .i64 0])∧GH n sb L h g room (N ++ [(s,xs,0,false,0)]) w' ∧ Kept (fun k=>k=h∨k=g) w w' :=
 (make_yes q.hp s hx he).mono (fun e w' ⟨e1,e2,e3⟩=>⟨e1,q.next e3 e2,e3⟩)
theorem GH.build_yes {n sb:Nat} {L:List Sym} {h g room:Nat} {N:List Nd} {w:World} (q:GH n sb L h g room N w) {ro:Option Addr} {rc:Nat} {R:List (List (Int × List Int))} (hR:RtAt w ro R) (io po eo:Option Addr) (il ic pl pc el ec:Nat) {rule node:Int} {l:List Tg} (hy:BdY L N room R rule node l) :
  Calls Tryz.prog 16 #[.pointer (some ⟨sb,0,none⟩),.agg #[.slice io il ic,.slice po pl pc,.slice eo el ec,.slice ro R.length rc],.pointer (some ⟨h,0,none⟩),.int .i64 rule,.int .i64 node] w fun e w' => ∃ a:Nat,e=.returned (.tuple #[.int .i64 (a:Int),.nilIface])∧(layF N l).2=[(a:Int)]∧GH n sb L h g room (layF N l).1 w' ∧ Kept (fun k=>k=h∨k=g) w w' :=
 (build_any q.sg q.hp hR io po eo il ic pl pc el ec rule node).mono (fun e w' hb=>by
  obtain ⟨a,e1,e2,e3,e4⟩:=hb.yes hy
  exact ⟨a,e1,e2,q.next e4 e3,e4⟩)
theorem rt_QG (w:World) (X:World) (b0 b1 b2 b3:Nat) (h0:X.heap[b0]? = some (.cells #[.int .i64 0] 3 (0,0))) (h1:X.heap[b1]? = some (.cells #[.int .i64 0] 3 (0,0))) (h2:X.heap[b2]? = some (.cells #[.int .i64 2,.slice none 0 0,.int .i64 (-1),.slice (some ⟨b0,0,none⟩) 1 1,.int .i64 1,.slice none 0 0,.int .i64 (-1),.slice (some ⟨b1,0,none⟩) 1 1] 73 (0,0))) (h3:X.heap[b3]? = some (.cells #[.slice (some ⟨b2,0,none⟩) 4 4] 74 (0,0))):RtAt X (some ⟨b3,0,none⟩) [QG]:=by
 refine .inr ⟨b3,0,rfl,lt_of_at h3,fun i hi=>?_⟩
 have hi' : i<1:=hi
 obtain rfl:i=0:=by omega
 refine ⟨some ⟨b2,0,none⟩,4,cellAt h3 0,.inr ⟨b2,0,rfl,lt_of_at h2,fun j hj=>?_⟩,show (4:Nat)≤4398046511104 by decide⟩
 have hj' : j<4:=hj
 have I:∀ bb,X.heap[bb]? = some (.cells #[.int .i64 0] 3 (0,0))→IntsAt X (some ⟨bb,0,none⟩) [0]:=fun bb hb=>.inr ⟨bb,0,rfl,lt_of_at hb,fun i hi=>by
  have hi' : i<1:=hi
  obtain rfl:i=0:=by omega
  exact cellAt hb 0⟩
 match j,hj' with
 | 0,_=>exact ⟨none,0,cellAt h2 0,cellAt h2 1,.inl rfl,show (0:Nat)≤maxLen by decide⟩
 | 1,_=>exact ⟨some ⟨b0,0,none⟩,1,cellAt h2 2,cellAt h2 3,I b0 h0,show (1:Nat)≤maxLen by decide⟩
 | 2,_=>exact ⟨none,0,cellAt h2 4,cellAt h2 5,.inl rfl,show (0:Nat)≤maxLen by decide⟩
 | 3,_=>exact ⟨some ⟨b1,0,none⟩,1,cellAt h2 6,cellAt h2 7,I b1 h1,show (1:Nat)≤maxLen by decide⟩
set_option maxHeartbeats 4000000 in
theorem awake13_any (w:World):Calls Tryz.prog 5 #[] w fun e w' => e=.returned (.bool true)∧Same0 w w' := by
 have C1:=sign_any (some ⟨w.heap.size,0,none⟩) 4 4 [gZ,gS,gP,gD] _ (syms_LG w) (by unfold maxLen;omega)
 rw [made_LG] at C1
 have k0:Hid (Same0 w (w.alloc (.cells #[.string ⟨#[122]⟩,.int .i64 0,.bool false,.string ⟨#[115]⟩,.int .i64 1,.bool false,.string ⟨#[112]⟩,.int .i64 2,.bool false,.string ⟨#[100]⟩,.int .i64 1,.bool true] 67))):=(Kept.refl _ w).alloc _
 have F1:Hid (checkE LG [2,0,1,0]=0∧layF [] ([2,0,1,0].map (tgT LG))=(NG4,[3])∧checkE LG [1]=23∧BdY LG NG5 8 [QG] 0 4 TG):=⟨ck_term,ld_term,ck_one,bd_right⟩
 generalize LG=L at *
 go_enter Tryz.func5,Tryz.ntmps5
 go_upto_region 5 with (first
  | (go_at_call 6;refine C1.mono ?_;rintro e w1 ⟨sb,rv,rfl,hs, -,k1⟩)
  | (go_at_call 19;refine (hnew_yes 8 w1 (by omega) (by omega)).mono ?_;rintro e w2 ⟨h,g,rfl,p2,k2,hh,hg⟩))
 have Q2:Hid (GH w1.heap.size sb L h g 8 [] w2):=⟨hs.same k2,p2.mono (fun _ _ _ _=>trivial),hh,hg⟩
 have K2:Hid (Same0 w w2):=(k0.out.trans' k1).trans' k2
 have hz1:w.heap.size≤w1.heap.size:=(k0.out.trans' k1).size
 have KH:Hid (∀ a b,Kept (fun k=>k=h∨k=g) a b→Same0 w a→Same0 w b):=fun a b hk h1=>h1.trans hk (fun i hi e=>by omega)
 clear C1 hs p2 k1 k2 k0
 have ka2:=(Kept.refl (fun _=>False) w2).alloc (.cells #[.int .i64 2,.int .i64 0,.int .i64 1,.int .i64 0] 3)
 have CL:=(Q2.out.same ka2).load_yes (cap:=4) (ints_new w2 [2,0,1,0] 3 rfl) F1.out.1 (by decide) (by decide)
 rw [F1.out.2.1] at CL
 go_upto_region 6 with (first | (go_at_call 9;refine CL.mono ?_;rintro e w3 ⟨a3,rfl,ea,Q3,k3⟩))
 obtain rfl:a3=3:=by simp at ea;omega
 have K3:Hid (Same0 w w3):=KH.out _ _ k3 (K2.out.trans' ka2)
 have HQ3:Hid (GH w1.heap.size sb L h g 8 NG4 w3):=Q3
 clear CL ea Q3 k3 Q2 K2 ka2
 have ka3:=(Kept.refl (fun _=>False) w3).alloc (.cells #[.int .i64 1] 3)
 have CB:=load_bad (cap:=1) (HQ3.out.sg.same ka3) ⟨h,0,none⟩ (ints_new w3 [1] 3 rfl) (by decide) (by rw [F1.out.2.2.1];decide)
 rw [F1.out.2.2.1] at CB
 go_upto_region 7 with (first | (go_at_call 9;refine CB.mono ?_;rintro e w4 ⟨v4,rfl,⟨fb,rfl, -, -⟩,k4⟩))
 have K4:Hid (Same0 w w4):=(K3.out.trans' ka3).trans' k4
 have HQ4:Hid (GH w1.heap.size sb L h g 8 NG4 w4):=(HQ3.out.same ka3).same k4
 clear CB k4 ka3 HQ3 K3
 have ka4:=(Kept.refl (fun _=>False) w4).alloc (.cells #[.int .i64 3] 3)
 have CM:=(HQ4.out.same ka4).made 3 (arg_one w4 3) mk_five
 go_upto_region 8 with (first | (go_at_call 20;refine CM.mono ?_;rintro e w5 ⟨rfl,Q5,k5⟩))
 have K5:Hid (Same0 w w5):=KH.out _ _ k5 (K4.out.trans' ka4)
 have HQ5:Hid (GH w1.heap.size sb L h g 8 NG5 w5):=Q5
 clear CM k5 ka4 HQ4 K4 Q5
 obtain ⟨X1,hX1⟩:∃ X1,X1=w5.alloc (.cells #[.int .i64 0] 3):=⟨_,rfl⟩
 obtain ⟨X2,hX2⟩:∃ X2,X2=X1.alloc (.cells #[.int .i64 0] 3):=⟨_,rfl⟩
 obtain ⟨X3,hX3⟩:∃ X3,X3=X2.alloc (.cells #[.int .i64 2,.slice none 0 0,.int .i64 (-1),.slice (some ⟨w5.heap.size,0,none⟩) 1 1,.int .i64 1,.slice none 0 0,.int .i64 (-1),.slice (some ⟨w5.heap.size+1,0,none⟩) 1 1] 73):=⟨_,rfl⟩
 obtain ⟨X4,hX4⟩:∃ X4,X4=X3.alloc (.cells #[.slice (some ⟨w5.heap.size+1+1,0,none⟩) 4 4] 74):=⟨_,rfl⟩
 obtain ⟨X5,hX5⟩:∃ X5,X5=X4.alloc (.cells #[.slice none 0 0,.slice none 0 0,.slice none 0 0,.slice (some ⟨w5.heap.size+1+1+1,0,none⟩) 1 1] 58):=⟨_,rfl⟩
 have z1:X1.heap.size=w5.heap.size+1:=by rw [hX1];simp
 have z2:X2.heap.size=w5.heap.size+1+1:=by rw [hX2];simp [z1]
 have z3:X3.heap.size=w5.heap.size+1+1+1:=by rw [hX3];simp [z2]
 have z4:X4.heap.size=w5.heap.size+1+1+1+1:=by rw [hX4];simp [z3]
 have j1:Same0 w5 X1:=by rw [hX1];exact (Kept.refl _ _).alloc _
 have j2:Same0 X1 X2:=by rw [hX2];exact (Kept.refl _ _).alloc _
 have j3:Same0 X2 X3:=by rw [hX3];exact (Kept.refl _ _).alloc _
 have j4:Same0 X3 X4:=by rw [hX4];exact (Kept.refl _ _).alloc _
 have j5:Same0 X4 X5:=by rw [hX5];exact (Kept.refl _ _).alloc _
 have q0:X1.heap[w5.heap.size]? = some (.cells #[.int .i64 0] 3 (0,0)):=by rw [hX1];exact heap_alloc_new _ _
 have q1:X2.heap[w5.heap.size+1]? = some (.cells #[.int .i64 0] 3 (0,0)):=by rw [hX2,← z1];exact heap_alloc_new _ _
 have q2:X3.heap[w5.heap.size+1+1]? = some (.cells #[.int .i64 2,.slice none 0 0,.int .i64 (-1),.slice (some ⟨w5.heap.size,0,none⟩) 1 1,.int .i64 1,.slice none 0 0,.int .i64 (-1),.slice (some ⟨w5.heap.size+1,0,none⟩) 1 1] 73 (0,0)):=by rw [hX3,← z2];exact heap_alloc_new _ _
 have q3:X4.heap[w5.heap.size+1+1+1]? = some (.cells #[.slice (some ⟨w5.heap.size+1+1,0,none⟩) 4 4] 74 (0,0)):=by rw [hX4,← z3];exact heap_alloc_new _ _
 have q4:X5.heap[w5.heap.size+1+1+1+1]? = some (.cells #[.slice none 0 0,.slice none 0 0,.slice none 0 0,.slice (some ⟨w5.heap.size+1+1+1,0,none⟩) 1 1] 58 (0,0)):=by rw [hX5,← z4];exact heap_alloc_new _ _
 have RT:=rt_QG w5 X5 _ _ _ _ (j5.at0 (j4.at0 (j3.at0 (j2.at0 q0)))) (j5.at0 (j4.at0 (j3.at0 q1))) (j5.at0 (j4.at0 q2)) (j5.at0 q3)
 have J5:=(((j1.trans' j2).trans' j3).trans' j4).trans' j5
 have CB:=(HQ5.out.same J5).build_yes (rc:=1) RT none none none 0 0 0 0 0 0 F1.out.2.2.2
 rw [ld_right] at CB
 have K5' : Hid (Same0 w X5):=K5.out.trans' J5
 obtain ⟨y0,y1,y2,y3⟩:=boxT4 q4
 go_upto_region 9 with fail
 rw [← hX1,← hX2,← hX3,← hX4,← hX5]
 clear hX1 hX2 hX3 hX4 hX5 z1 z2 z3 z4 j1 j2 j3 j4 j5 q0 q1 q2 q3 q4 RT J5 K5 HQ5
 go_upto_region 10 with (first | (go_at_call 16;refine CB.mono ?_;rintro e w6 ⟨a6,rfl,ea,Q6,k6⟩))
 obtain rfl:a6=6:=by simp at ea;omega
 have K6:Hid (Same0 w w6):=KH.out _ _ k6 K5'.out
 have HQ6:Hid (GH w1.heap.size sb L h g 8 NG7 w6):=Q6
 clear CB ea Q6 k6 K5' y0 y1 y2 y3
 have CA:=hat_yes HQ6.out.hp 6 (by decide)
 go_upto_region 11 with (first | (go_at_call 21;refine CA.mono ?_;rintro e w7 ⟨bo,bc,rfl,a1, -,k7⟩))
 obtain ⟨X7,hX7⟩:∃ X7,X7=w7.alloc (.cells #[.int .i64 2,.slice bo 2 bc,.int .i64 0,.bool false,.int .i64 0] 76):=⟨_,rfl⟩
 rw [← hX7]
 have j7:Same0 w7 X7:=by rw [hX7];exact (Kept.refl _ _).alloc _
 have hbx:X7.heap[w7.heap.size]? = some (.cells #[.int .i64 2,.slice bo 2 bc,.int .i64 0,.bool false,.int .i64 0] 76 (0,0)):=by rw [hX7];exact heap_alloc_new _ _
 have K7:Hid (Same0 w X7):=(K6.out.trans' k7).trans' j7
 have HQ7:Hid (GH w1.heap.size sb L h g 8 NG7 X7):=(HQ6.out.same k7).same j7
 have ha7:IntsAt X7 bo [3,5]:=(a1.same j7).1.at'
 obtain ⟨ab,aoff,rfl,hab,hac⟩:=ha7.get (i:=0) (by decide)
 obtain ⟨ab', aoff', e7,hab', hac'⟩:=ha7.get (i:=1) (by decide)
 simp only [Option.some.injEq,Addr.mk.injEq,and_true] at e7
 obtain ⟨rfl,rfl⟩:=e7
 have FC:Hid (∀ ww,Same0 X7 ww→ww.cell? ⟨w7.heap.size,0,none⟩=some (.int .i64 2)∧ww.cell? ⟨w7.heap.size,1,none⟩=some (.slice (some ⟨ab,aoff,none⟩) 2 bc)∧ww.cell? ⟨ab,aoff,none⟩=some (.int .i64 3)∧ww.cell? ⟨ab,aoff+1,none⟩=some (.int .i64 5)):=fun ww hk=>⟨cellAt (hk.at0 hbx) 0,cellAt (hk.at0 hbx) 1,(hk.cell (p:=⟨ab,aoff,none⟩) hab (fun f=>f)).trans hac,(hk.cell (p:=⟨ab,aoff+1,none⟩) hab (fun f=>f)).trans hac'⟩
 clear hX7 j7 hbx a1 k7 K6 HQ6 CA ha7 hac hac' hab hab'
 have CO:=of_any (some ⟨h,0,none⟩) X7
 have CH:Hid (∀ ww,Same0 X7 ww→Calls Tryz.prog 23 #[.agg #[.pointer (some ⟨h,0,none⟩)],.int .i64 4] ww fun e w' => e=.returned (.tuple #[.int .i64 3,.bool false])∧Same0 ww w'):=fun ww hk=>(head_yes (HQ7.out.same hk).hp 4 (by decide)).mono (fun e w' ⟨b,hb,e1,e2,e3⟩=>by
  obtain rfl:=e2.uniq (Res.self (l:=NG7) (a:=4) (by decide) rfl)
  exact ⟨e1,e3⟩)
 go_upto_region 12 with (first
  | (go_at_call 22;refine CO.mono ?_;rintro e w8 ⟨rfl,k8⟩)
  | (go_at_call 23;refine (CH.out w8 k8).mono ?_;rintro e w9 ⟨rfl,k9⟩))
 obtain ⟨y0,y1,y2,y3⟩:=FC.out w9 (Same0.trans' k8 k9)
 have n1:=neq_efault
 have n2:=neq_enil
 go_wp2
 go_ret
 exact ⟨rfl,(K7.out.trans' k8).trans' k9⟩
def eqL (l l' : List Nd):Bool:=decide (l=l')
theorem eqL_self (l:List Nd):eqL l l=true:=by unfold eqL;simp
set_option maxHeartbeats 2000000 in
theorem sameNodes_any {w:World} {ao bo:Option Addr} {ac bc:Nat} {l l' : List Nd} (h:NsW w ao l) (h' : NsW w bo l') (hm:l.length≤maxLen) :
  Calls Tryz.prog 14 #[.slice ao l.length ac,.slice bo l'.length bc] w fun e w' => e=.returned (.bool (eqL l l'))∧Same0 w w' := by
 unfold maxLen at hm
 by_cases hl:l.length=l'.length
 ·have hl' : (l.length:Int)=(l'.length:Int):=by omega
  have HX:Hid (∀ ww,Same0 w ww→NsW ww ao l):=fun ww hw=>h.same hw
  have HY:Hid (∀ ww,Same0 w ww→NsW ww bo l'):=fun ww hw=>h'.same hw
  have HL:Hid (l.length=l'.length):=hl
  have KR:Same0 w w:=Kept.refl _ _
  clear h h' hl
  go_enter Tryz.func14,Tryz.ntmps14
  go_wp2
  go_loopw [5] (fun i wr=>∃ k:Nat,k≤l.length∧i=.int .i64 k∧Hid (∀ j (h1:j<l.length) (h2:j<l'.length),j<k→l[j]=l'[j])∧Same0 w wr) (fun i _=>l.length-(intOf i).toNat)
  case atStart=>exact ⟨0,Nat.zero_le _,rfl,fun j _ _ hj=>absurd hj (Nat.not_lt_zero _),KR⟩
  case round=>
   clear KR
   obtain ⟨k,hk,rfl,hall,hw⟩:=hrel
   by_cases hlt:k<l.length
   ·have hlt' : k<l'.length:=by rw [← HL.out];exact hlt
    have i1:(0:Int)≤(k:Int):=by omega
    have i2:(k:Int)<(l.length:Int):=by omega
    have i3:(k:Int)<(l'.length:Int):=by omega
    rcases HX.out wr.drew (hw.drew) with e | ⟨mb,moff,e,hmb,hm'⟩
    ·rw [e] at hlt;simp at hlt
    subst e
    rcases HY.out wr.drew (hw.drew) with e | ⟨nb,noff,e,hnb,hn⟩
    ·rw [e] at hlt'; simp at hlt'
    subst e
    obtain ⟨xo,xc,m0,m1,m2,m3,m4,m5⟩:=hm' k hlt
    obtain ⟨yo,yc,n0,n1,n2,n3,n4,n5⟩:=hn k hlt'
    have CS:=sameNode_any m5 n5
    have HEY:Hid (eqN l[k] l'[k]=true→l[k]=l'[k]):=fun e=>by unfold eqN at e;simpa using e
    have HEN:Hid (eqN l[k] l'[k]=false→eqL l l' = false):=fun e=>by
     unfold eqN at e
     unfold eqL
     simp at e ⊢
     rintro rfl
     exact e rfl
    clear hm' hn m5 n5
    generalize eqN l[k] l'[k]=R at *
    go_upto_region 6 with fail
    go_region_with (first | (go_at_call 39;refine CS.mono ?_;rintro e w8 ⟨rfl,k8⟩))
    all_goals
     have hw8:Same0 w w8:=Same0.trans' (Kept.drew hw) k8
     clear m0 m1 m2 m3 m4 n0 n1 n2 n3 n4 CS
     cases R
     ·have HF:Hid (eqL l l' = false):=HEN.out rfl
      go_wp2
      go_ret
      exact ⟨ret_bool HF.out.symm,hw8⟩
     ·have HF:Hid (∀ j (h1:j<l.length) (h2:j<l'.length),j<k+1→l[j]=l'[j]):=fun j h1 h2 hj=>by
       by_cases e:j=k
       ·subst e;exact HEY.out rfl
       ·exact hall.out j h1 h2 (by omega)
      go_wp2
      go_roundw
      case rel=>first | exact ⟨k+1,by omega,by go_num,HF,hw8⟩ | ((repeat apply Exists.intro);exact ⟨⟨k+1,by omega,by go_num,HF,hw8⟩,rfl⟩)
      case measure=>simp [intOf];omega
   ·obtain rfl:k=l.length:=by omega
    have HE:Hid (eqL l l' = true):=by
     show _=_
     unfold eqL
     simp
     exact List.ext_getElem HL.out (fun j h1 h2=>hall.out j h1 h2 h1)
    clear hall
    go_wp2
    go_ret
    exact ⟨ret_bool HE.out.symm,hw⟩
 ·have HE:Hid (eqL l l' = false):=by show _=_;unfold eqL;simp;rintro rfl;exact hl rfl
  have hl' : ¬ (l.length:Int)=(l'.length:Int):=by omega
  have KR:Hid (Same0 w w):=Kept.refl _ _
  clear h h' hl
  go_enter Tryz.func14,Tryz.ntmps14
  go_wp2
  go_ret
  exact ⟨ret_bool HE.out.symm,KR.out⟩
end Go.Proofs.YtblgblgchkonhaaGreat
namespace Go.Proofs.YtblgblgchkonhaaGreat
set_option maxRecDepth 100000
set_option linter.unusedVariables false
open Go.RowKit
theorem RhB.rowT {B:Nat→Prop} {w:World} {r room:Nat} {v:Value} {N:List Nd} (p:RhB B w r room v N) {k:Nat} (e:v.ownBlock=some k):∃ cur,w.heap[k]? = some (.cells cur 76 (0,0)):=by
 obtain ⟨vs,q1,_⟩:=p.row
 rcases q1.2 with ⟨e1,_⟩ | ⟨g', cap', cur', e1,_,hg', _⟩
 ·rw [e1] at e;cases e
 ·rw [e1] at e
  have e2:g' = k:=Option.some.inj e
  exact ⟨cur', e2 ▸ hg'⟩
theorem RhB.ownNot {B:Nat→Prop} {w:World} {r room:Nat} {v:Value} {N:List Nd} (p:RhB B w r room v N) {k:Nat} (e:v.ownBlock=some k):NotI w k:=fun cur hc=>by
 obtain ⟨c,hq⟩:=p.rowT e
 rw [hq] at hc;cases hc
theorem HpB.notG {B:Nat→Prop} {w:World} {h g room:Nat} {l:List Nd} (p:HpB B w h g room l):∀ k,k=h∨k=g→NotI w k:=fun k e cur hc=>by
 rcases e with rfl | rfl
 ·rw [p.box] at hc;cases hc
 ·obtain ⟨c2,hq,_⟩:=p.blk
  rw [hq] at hc;cases hc
structure GLW (B:Nat→Prop) (n0 sb:Nat) (rv:Value) (L:List Sym) (h g r room:Nat) (v:Value) (N M:List Nd) (w:World):Prop where
 sg:Sg n0 w sb L
 rl:Rl n0 w rv L
 hp:HpB B w h g room N
 rh:RhB B w r room v M
 sep:r≠h∧r≠g
 own:∀ k,v.ownBlock=some k→n0≤k∧k≠h∧k≠g∧k≠r
 lo:n0≤h∧n0≤g∧n0≤r
section
variable {B : Nat → Prop} {n0 sb : Nat} {rv : Value} {L : List Sym} {h g r room : Nat} {v : Value} {N M : List Nd} {w w' : World}
theorem GLW.kept {S:Nat→Prop} (q:GLW B n0 sb rv L h g r room v N M w) (hk:Kept S w w') (s0:∀ k,k<n0→¬ S k) (s1:¬ S h∧¬ S g∧¬ S r) (s2:∀ k,v.ownBlock=some k→¬ S k) (s3:∀ k,B k→S k→NotI w k):GLW B n0 sb rv L h g r room v N M w' :=
 ⟨q.sg.kept hk s0,q.rl.kept hk s0,q.hp.kept hk s1.1 s1.2.1 s3,q.rh.kept hk s1.2.2 s2 s3,q.sep,q.own,q.lo⟩
theorem GLW.same (q:GLW B n0 sb rv L h g r room v N M w) (hk:Same0 w w'):GLW B n0 sb rv L h g r room v N M w' :=
 q.kept hk (fun _ _ f=>f) ⟨fun f=>f,fun f=>f,fun f=>f⟩ (fun _ _ f=>f) (fun _ _ f=>f.elim)
theorem GLW.mono {B' : Nat→Prop} (q:GLW B n0 sb rv L h g r room v N M w) (hB:∀ k,k<w.heap.size→B k→B' k):GLW B' n0 sb rv L h g r room v N M w:=
 ⟨q.sg,q.rl,q.hp.mono (fun k hk _ hb=>hB k hk hb),q.rh.monoG hB,q.sep,q.own,q.lo⟩
def GLM (B:Nat→Prop) (n0 sb:Nat) (rv:Value) (L:List Sym) (h g r room:Nat) (w:World):Prop:=∃ v N,GLW B n0 sb rv L h g r room v N N w
theorem GLM.same (q:GLM B n0 sb rv L h g r room w) (hk:Same0 w w'):GLM B n0 sb rv L h g r room w' := by
 obtain ⟨v,N,q⟩:=q
 exact ⟨v,N,q.same hk⟩
theorem GLM.lent {gt:Nat} (q:GLM (fun _=>True) n0 sb rv L h g r room w) (hk:Same0 w w') (hg:w.heap.size≤gt):GLM (fun b=>b≠gt) n0 sb rv L h g r room w' := by
 obtain ⟨v,N,q⟩:=q
 exact ⟨v,N,((q.mono (B' := fun b=>b<w.heap.size) (fun k hk _=>hk)).same hk).mono (fun k _ hb=>by show k≠gt;have:k<w.heap.size:=hb;omega)⟩
theorem GLM.faults {S:Nat→Prop} (q:GLM B n0 sb rv L h g r room w) (hk:Kept S w w') (hS:∀ k,S k→n0≤k∧∃ cs,w.heap[k]? = some (.cells cs 94 (0,0))):GLM B n0 sb rv L h g r room w' := by
 obtain ⟨v,N,q⟩:=q
 refine ⟨v,N,q.kept hk (fun k hk' s=>by have:=(hS k s).1;omega) ⟨fun s=>?_,fun s=>?_,fun s=>?_⟩ (fun k e s=>?_) (fun k _ s cur hc=>?_)⟩
 ·obtain ⟨_,cs,e⟩:=hS _ s
  rw [q.hp.box] at e;cases e
 ·obtain ⟨_,cs,e⟩:=hS _ s
  obtain ⟨c2,hq,_⟩:=q.hp.blk
  rw [hq] at e;cases e
 ·obtain ⟨_,cs,e⟩:=hS _ s
  rw [q.rh.box] at e;cases e
 ·obtain ⟨_,cs,e'⟩:=hS _ s
  obtain ⟨c2,hq⟩:=q.rh.rowT e
  rw [hq] at e'; cases e'
 ·obtain ⟨_,cs,e⟩:=hS _ s
  rw [hc] at e;cases e
theorem GLM.held {gt:Nat} (q:GLM (fun b=>b≠gt) n0 sb rv L h g r room w) (hk:Kept (fun i=>i=gt) w w') (hn:n0≤gt) {cur:Array Value} (hi:w.heap[gt]? = some (.cells cur 3 (0,0))):GLM (fun _=>True) n0 sb rv L h g r room w' := by
 obtain ⟨v,N,q⟩:=q
 refine ⟨v,N,(q.kept hk (fun k hk' (s:k=gt)=>by omega) ⟨fun s=>?_,fun s=>?_,fun s=>?_⟩ (fun k e s=>?_) (fun k hb s=>absurd s hb)).mono (fun _ _ _=>trivial)⟩
 ·have s:h=gt:=s
  rw [← s,q.hp.box] at hi;cases hi
 ·have s:g=gt:=s
  obtain ⟨c2,hq,_⟩:=q.hp.blk
  rw [← s,hq] at hi;cases hi
 ·have s:r=gt:=s
  rw [← s,q.rh.box] at hi;cases hi
 ·have s:k=gt:=s
  obtain ⟨c2,hq⟩:=q.rh.rowT e
  rw [← s,hq] at hi;cases hi
end
def OkT (L:List Sym) (N:List Nd) (room:Nat) (t:List Int):Prop:=checkE L t=0∧(∀ x∈t,0≤x)∧N.length+t.length≤room
def ErT (L:List Sym) (N:List Nd) (room:Nat) (t:List Int) (c y:Int):Prop:=(checkE L t≠0∧c=130∧y=checkE L t)∨(checkE L t=0∧(¬ ∀ x∈t,0≤x)∧c=130∧y=0)∨(checkE L t=0∧(∀ x∈t,0≤x)∧¬ N.length+t.length≤room∧c=131∧y=111)
theorem okt_or (L:List Sym) (N:List Nd) (room:Nat) (t:List Int):OkT L N room t∨∃ c y,ErT L N room t c y:=by
 by_cases h0:checkE L t=0
 ·by_cases hv:∀ x∈t,0≤x
  ·by_cases hf:N.length+t.length≤room
   ·exact .inl ⟨h0,hv,hf⟩
   ·exact .inr ⟨_,_,.inr (.inr ⟨h0,hv,hf,rfl,rfl⟩)⟩
  ·exact .inr ⟨_,_,.inr (.inl ⟨h0,hv,rfl,rfl⟩)⟩
 ·exact .inr ⟨_,_,.inl ⟨h0,rfl,rfl⟩⟩
def FtO (n0:Nat) (w:World) (v:Value) (c y:Int):Prop:=(v=.nilIface∧c=0∧y=0)∨FtAt n0 w v c 0 y
theorem FtAt.sameG {n0:Nat} {w w' : World} {v:Value} {c a y:Int} (h:FtAt n0 w v c a y) (hk:Same0 w w'):FtAt n0 w' v c a y:=by
 obtain ⟨b,e,hn,hb⟩:=h
 exact ⟨b,e,hn,hk.at0 hb⟩
theorem FtO.same {n0:Nat} {w w' : World} {v:Value} {c y:Int} (h:FtO n0 w v c y) (hk:Same0 w w'):FtO n0 w' v c y:=h.imp id (fun q=>q.sameG hk)
def FB (v:Value) (k:Nat):Prop:=v=.iface 92 (.pointer (some ⟨k,0,none⟩))
theorem FtO.fb {n0:Nat} {w:World} {v:Value} {c y:Int} (h:FtO n0 w v c y) {k:Nat} (hf:FB v k):n0≤k∧∃ cs,w.heap[k]? = some (.cells cs 94 (0,0)):=by
 unfold FB at hf
 rcases h with ⟨e,_⟩ | ⟨b,e,hn,hb⟩
 ·rw [hf] at e;cases e
 ·rw [hf] at e
  cases e
  exact ⟨hn,_,hb⟩
theorem flt_call {n0:Nat} {w:World} {v:Value} {c y:Int} (h:FtO n0 w v c y):Calls Tryz.prog 11 #[v] w fun e w' => e=.returned (fltV c 0 y)∧Kept (FB v) w w' := by
 rcases h with ⟨rfl,rfl,rfl⟩ | ⟨b,rfl,hn,hb⟩
 ·exact (fault_none w).mono (fun e w' ⟨e1,e2⟩=>⟨e1,e2.mono (fun _ _ f=>f.elim)⟩)
 ·unfold whyV at hb
  by_cases hy:y=0
  ·rw [if_pos hy] at hb
   subst hy
   exact (fault_zero hb).mono (fun e w' ⟨e1,e2⟩=>⟨e1,e2.mono (fun i _ e=>by rw [e];rfl)⟩)
  ·rw [if_neg hy] at hb
   exact (fault_why hb).mono (fun e w' ⟨e1,e2⟩=>⟨e1,e2.mono (fun i _ e=>by rw [e];rfl)⟩)
def LdP (gt n0 sb:Nat) (rv:Value) (L:List Sym) (h g r room:Nat) (v:Value) (N:List Nd) (t:List Int) (a:Int) (v2:Value) (w:World):Prop:=
 (OkT L N room t∧a=(N.length:Int)+(t.length:Int)-1∧v2=.nilIface∧GLW (fun b=>b≠gt) n0 sb rv L h g r room v (layF N (t.map (tgT L))).1 N w) ∨
 (∃ c y,ErT L N room t c y∧a=0∧FtAt n0 w v2 c 0 y∧GLW (fun b=>b≠gt) n0 sb rv L h g r room v N N w)
section
variable {n0 sb gt : Nat} {rv : Value} {L : List Sym} {h g r room : Nat} {v : Value} {N : List Nd} {w : World}
theorem lay_top {t:List Int} (hn:need L 1 t=some 0) {a:Int} (e:(layF N (t.map (tgT L))).2=[a]):a=(N.length:Int)+(t.length:Int)-1:=by
 have:=lay_stack (show IsT L t from hn) N t.length 0 1 (by simp) (by simpa using hn)
 rw [List.drop_zero,e] at this
 simp [starts,adr] at this
 omega
theorem ld_call (q:GLW (fun b=>b≠gt) n0 sb rv L h g r room v N N w) (hgt:gt<w.heap.size) {ao:Option Addr} {cap:Nat} {t:List Int} (ht:IntsAt w ao t) (hm:t.length * 8≤140737488351232) :
  Calls Tryz.prog 9 #[.pointer (some ⟨sb,0,none⟩),.pointer (some ⟨h,0,none⟩),.slice ao t.length cap] w fun e w' => ∃ a v2,e=.returned (.tuple #[.int .i64 a,v2])∧LdP gt n0 sb rv L h g r room v N t a v2 w' ∧ Kept (fun k=>k=h∨k=g) w w' := by
 have hw0:n0≤w.heap.size:=by have:=q.lo.1;have:=q.hp.ltH;omega
 rcases okt_or L N room t with ⟨h0,hv,hf⟩ | ⟨c,y,hE⟩
 ·refine (load_yes q.sg q.hp ht h0 hv hf).mono (fun e w' ⟨a,e1,e2,e3,e4⟩=>⟨a,.nilIface,e1,.inl ⟨⟨h0,hv,hf⟩,lay_top (check_zero h0).2.2 e2,rfl,?_⟩,e4⟩)
  have s0:∀ k,k<n0→¬ (k=h∨k=g):=fun k hk e=>by have:=q.lo;omega
  refine ⟨q.sg.kept e4 s0,q.rl.kept e4 s0,e3.mono (fun k _ _ hb=>?_),q.rh.kept e4 (fun e=>by have:=q.sep;omega) (fun k e s=>by have:=q.own k e;omega) (fun k _ s=>q.hp.notG k s),q.sep,q.own,q.lo⟩
  rcases hb with hb | hb
  ·exact hb
  ·show k≠gt;omega
 ·have FIN:∀ {v2:Value} {w' : World},FtAt w.heap.size w' v2 c 0 y→Same0 w w' → LdP gt n0 sb rv L h g r room v N t 0 v2 w' := fun f k=>.inr ⟨c,y,hE,rfl,f.from hw0,q.same k⟩
  have hE' := hE
  rcases hE with ⟨h0,rfl,rfl⟩ | ⟨h0,hv,rfl,rfl⟩ | ⟨h0,hv,hf,rfl,rfl⟩
  ·exact (load_bad q.sg ⟨h,0,none⟩ ht hm h0).mono (fun e w' ⟨v2,e1,e2,e3⟩=>⟨0,v2,e1,FIN e2 e3,e3.mono (fun _ _ f=>f.elim)⟩)
  ·exact (load_var q.sg ⟨h,0,none⟩ ht hm h0 hv).mono (fun e w' ⟨v2,e1,e2,e3⟩=>⟨0,v2,e1,FIN e2 e3,e3.mono (fun _ _ f=>f.elim)⟩)
  ·exact (load_full q.sg q.hp ht hm h0 hv hf).mono (fun e w' ⟨v2,e1,e2,e3⟩=>⟨0,v2,e1,FIN e2 e3,e3.mono (fun _ _ f=>f.elim)⟩)
theorem rld_call {t:List Int} {a:Int} {v2:Value} (p:LdP gt n0 sb rv L h g r room v N t a v2 w) (hgt:gt<w.heap.size) {ao:Option Addr} {cap:Nat} (ht:IntsAt w ao t) (hm:t.length≤maxLen) (hlo:t≠[]→∀ b,ao=some b→b.block<n0) :
  Calls Tryz.prog 10 #[rv,.pointer (some ⟨r,0,none⟩),.slice ao t.length cap] w fun e w' => ∃ c y,e=.returned (.tuple #[.int .i64 a,fltV c 0 y])∧(FtO n0 w' v2 c y∧GLM (fun b=>b≠gt) n0 sb rv L h g r room w')∧Kept (fun k=>k=r∨v.ownBlock=some k) w w' := by
 rcases p with ⟨⟨h0,hv,hf⟩,rfl,rfl,q⟩ | ⟨c,y,hE,rfl,ft,q⟩
 ·have hn:=(check_zero h0).2.2
  have hne:t≠[]:=fun e=>by have:=isT_pos (show IsT L t from hn);rw [e] at this;simp at this
  refine (rload_yes q.rl q.rh q.lo.2.2 (fun k e=>(q.own k e).1) ht (fun b e=>?_) hn h0 hv hf).mono (fun e w' ⟨e1,v', e2,e3,e4⟩=>⟨0,0,e1,⟨.inl ⟨rfl,rfl,rfl⟩,v', (layF N (t.map (tgT L))).1,?_⟩,e4⟩)
  ·have h1:=hlo hne b e
   rintro (s | s)
   ·have:=q.lo;omega
   ·have:=(q.own _ s).1;omega
  ·have s0:∀ k,k<n0→¬ (k=r∨v.ownBlock=some k):=fun k hk s=>by
    rcases s with s | s
    ·have:=q.lo;omega
    ·have:=(q.own _ s).1;omega
   have hz:=q.hp.ltH
   have hzg:=q.hp.ltG
   have hzr:=q.rh.lt
   refine ⟨q.sg.kept e4 s0,q.rl.kept e4 s0,q.hp.kept e4 (fun s=>?_) (fun s=>?_) (fun k _ s=>?_),?_,q.sep,fun k e=>?_,q.lo⟩
   ·rcases s with s | s
    ·have:=q.sep;omega
    ·have:=(q.own _ s).2.1;omega
   ·rcases s with s | s
    ·have:=q.sep;omega
    ·have:=(q.own _ s).2.2.1;omega
   ·rcases s with s | s
    ·rw [s];exact q.rh.noti
    ·exact q.rh.ownNot s
   ·rw [← laid_all (show IsT L t from hn) N hn]
    refine e2.monoG (fun k _ hb=>?_)
    rcases hb with hb | hb
    ·exact hb
    ·show k≠gt;omega
   ·rcases e3 k e with s | s
    ·exact q.own k s
    ·have:=q.lo;omega
 ·have FIN:∀ {w' : World},Same0 w w' → (FtO n0 w' v2 c y∧GLM (fun b=>b≠gt) n0 sb rv L h g r room w')∧Kept (fun k=>k=r∨v.ownBlock=some k) w w' := fun k=>⟨⟨.inr (ft.sameG k),v,N,q.same k⟩,k.mono (fun _ _ f=>f.elim)⟩
  rcases hE with ⟨h0,rfl,rfl⟩ | ⟨h0,hv,rfl,rfl⟩ | ⟨h0,hv,hf,rfl,rfl⟩
  ·exact (rload_bad q.rl ⟨r,0,none⟩ ht hm h0).mono (fun e w' ⟨e1,e3⟩=>⟨_,_,e1,FIN e3⟩)
  ·exact (rload_var q.rl ⟨r,0,none⟩ ht hm h0 hv).mono (fun e w' ⟨e1,e3⟩=>⟨_,_,e1,FIN e3⟩)
  ·exact (rload_full q.rl q.rh ht hm h0 hv hf).mono (fun e w' ⟨e1,e3⟩=>⟨_,_,e1,FIN e3⟩)
end
theorem lent_ints {base gt c:Nat} {w:World} {xs:List Int} (h:Row base w (.slice (some ⟨gt,0,none⟩) (xs.length+3) c) (lentG xs)):IntsAt w (some ⟨gt,0,none⟩) xs:=by
 obtain ⟨ao,ac,e,hi,_,_⟩:=h.ints
 simp only [Value.slice.injEq] at e
 rw [← e.1] at hi
 rcases hi with q | ⟨b,off,e1,hb,hc⟩
 ·simp at q
 ·refine .inr ⟨b,off,e1,hb,fun j hj=>?_⟩
  have:=hc j (by simp;omega)
  simpa [List.getElem_append_left hj] using this
theorem lent_at {base gt c:Nat} {w:World} {xs:List Int} (h:Row base w (.slice (some ⟨gt,0,none⟩) (xs.length+3) c) (lentG xs)):base≤gt∧gt<w.heap.size∧∃ cur,w.heap[gt]? = some (.cells cur 3 (0,0)):=by
 rcases h.2 with ⟨e,_⟩ | ⟨g', cap', cur', e,hb,hg', _⟩
 ·simp at e
 ·simp only [Value.slice.injEq,Option.some.injEq,Addr.mk.injEq,and_true] at e
  obtain ⟨rfl,_⟩:=e
  exact ⟨hb,lt_of_at hg', cur', hg'⟩
theorem check_minus (L:List Sym):checkE L [-1]=0:=by
 simp [checkE,badE,need,arN]
 omega
end Go.Proofs.YtblgblgchkonhaaGreat
namespace Go.Proofs.YtblgblgchkonhaaGreat
set_option maxRecDepth 100000
set_option linter.unusedVariables false
open Go.RowKit Go.Deep
section
variable {H : Type} {enc : TypeId × Value → H} {w : World} {spare : Nat → Bool} {held : Bool}
theorem weightsAll_mem11 {P:Program} {e:TypeId} {l:List (DataW H)} {d:DataW H} (h:d∈l) {n:Nat} (hn:n∈d.weights P e):n∈DataW.weightsAll P e l:=by
 induction l with
 | nil=>cases h
 | cons x r ih=>
  simp only [DataW.weightsAll,List.mem_append]
  rcases List.mem_cons.1 h with q | q
  ·subst q;exact .inl hn
  ·exact .inr (ih q)
set_option maxRecDepth 100000 in
theorem open_elems11 {t e c fuel:Nat} {ao:Option Addr} {len cap:Nat} {x:DataW H × List MemPlace} (ht:Tryz.prog.underlying t=some (.slice e)) (hc:Tryz.prog.cellsOf e=c) (h0:0<c) (h:DataW.trod enc Tryz.prog w 0 spare held fuel t [.slice ao len cap]=some x) (hw:∀ n∈x.1.weights Tryz.prog t,n≤reachBytes) :
  (ao=none∧len=0∧cap=0)∨∃ a,ao=some a∧len≤cap∧cap≤maxLen∧len * Tryz.prog.bytesOf e≤reachBytes∧∀ i,i<len→a=⟨a.block,a.off,none⟩∧a.block<w.heap.size∧∃ cs n y,cs.length=c∧(∀ j,j<c→w.cell? ⟨a.block,a.off+i * c+j,none⟩=cs[j]?)∧DataW.trod enc Tryz.prog w 0 spare held n e cs=some y∧∀ n∈y.1.weights Tryz.prog e,n≤reachBytes:=by
 rcases open_slice ht h with ⟨hcs,_⟩ | ⟨a,len', cap', m,n,D,Pl,hcs,_,hl,hm,hmm,rfl,hx⟩
 ·simp at hcs;exact .inl ⟨hcs.1,hcs.2.1,hcs.2.2⟩
 ·simp at hcs
  obtain ⟨rfl,rfl,rfl⟩:=hcs
  have hb:len * Tryz.prog.bytesOf e≤reachBytes:=by
   have:=hw ((((List.range len).map D).length+((List.range (m-len)).map fun j=>D (len+j)).length) * Tryz.prog.bytesOf e) (by simp [DataW.weights,ht])
   refine Nat.le_trans (Nat.mul_le_mul_right _ ?_) this
   simp
  refine .inr ⟨a,rfl,hl,hm,hb,fun i hi=>?_⟩
  have hmi:i<m:=by rw [hmm];split <;> omega
  have hm0:0<m:=by omega
  obtain ⟨cs0,g0,_⟩:=hx 0 hm0
  rw [hc] at g0
  obtain ⟨_,gl,gc⟩:=World.cells?_some g0
  have hsp:a.spot=none:=by
   have:=gc 0 h0
   have hv:cs0[0]? = some (cs0[0]'(by omega)):=List.getElem?_eq_getElem (by omega)
   rw [hv] at this
   simp [Addr.add] at this
   exact World.cell?_spot this
  have hlt:a.block<w.heap.size:=World.cells?_block (by simpa [Addr.add] using g0) h0
  have ea:a=⟨a.block,a.off,none⟩:=by cases a;simp_all
  obtain ⟨cs,g1,g2⟩:=hx i hmi
  rw [hc] at g1
  obtain ⟨_,gl1,gc1⟩:=World.cells?_some g1
  refine ⟨ea,hlt,cs,n,_,gl1,fun j hj=>?_,g2,fun k hk=>hw k ?_⟩
  ·rw [← gc1 j hj,add_add]
   congr 1
   unfold Addr.add
   split
   ·rw [ea];simp;omega
   ·simp
  ·simp only [DataW.weights,ht,List.mem_cons,List.mem_append]
   exact .inr (.inl (weightsAll_mem11 (List.mem_map.2 ⟨i,by simpa using hi,rfl⟩) hk))
end
theorem cells_node:Tryz.prog.cellsOf 76=5:=by kernel_rfl
theorem bytes_node:Tryz.prog.bytesOf 76=56:=by kernel_rfl
theorem cells_boolT:Tryz.prog.cellsOf 4=1:=by kernel_rfl
theorem cells_intsT:Tryz.prog.cellsOf 33=1:=by kernel_rfl
def NdI (x:Nd):Prop:=I64 x.1∧(∀ z∈x.2.1,I64 z)∧I64 x.2.2.1∧I64 x.2.2.2.2
section
variable {H : Type} {enc : TypeId × Value → H} {w : World} {spare : Nat → Bool} {held : Bool}
theorem trod_node {fuel:Nat} {cs:List Value} {x:DataW H × List MemPlace} (hl:cs.length=5) (h:DataW.trod enc Tryz.prog w 0 spare held fuel 76 cs=some x) (hw:∀ n∈x.1.weights Tryz.prog 76,n≤reachBytes):∃ (y:Nd) (xo:Option Addr) (xc:Nat),NdI y∧Arg w xo y.2.1 xc∧cs=[.int .i64 y.1,.slice xo y.2.1.length xc,.int .i64 y.2.2.1,.bool y.2.2.2.1,.int .i64 y.2.2.2.2]:=by
 obtain ⟨y0,y1,y2,y3,y4,n', hyd,hl', g0,g1,g2,g3,g4⟩:=trod_struct5 Tryz.underlying76 h
 match cs,hl with
 | [c0,c1,c2,c3,c4],_=>
  simp only [cells_int,cells_boolT,cells_intsT,List.drop_zero,List.take_succ_cons,List.take_zero,List.drop_succ_cons] at g0 g1 g2 g3 g4
  obtain ⟨z0,e0,_,w0⟩:=DataW.trod_int Tryz.underlying3 g0
  obtain ⟨z2,e2,_,w2⟩:=DataW.trod_int Tryz.underlying3 g2
  obtain ⟨z3,e3,_⟩:=DataW.trod_bool Tryz.underlying4 g3
  obtain ⟨z4,e4,_,w4⟩:=DataW.trod_int Tryz.underlying3 g4
  have hyw1:∀ n∈y1.1.weights Tryz.prog 33,n≤reachBytes:=fun n hn=>hw n (by
   rw [hyd]
   simp only [DataW.weights,Tryz.underlying76]
   simp [DataW.weightsEach,hn])
  obtain ⟨xo,len,xc,e1⟩:=slice_one Tryz.underlying33 g1
  subst e1
  obtain ⟨xs,hxl,hxa,hxi⟩:=open_ints64 Tryz.underlying33 g1 hyw1
  subst hxl
  simp only [List.cons.injEq,and_true] at e0 e2 e3 e4
  subst e0 e2 e3 e4
  exact ⟨(z0,xs,z2,z3,z4),xo,xc,⟨i64_wf w0,hxi,i64_wf w2,i64_wf w4⟩,hxa,rfl⟩
theorem open_nodes {fuel:Nat} {ao:Option Addr} {len cap:Nat} {x:DataW H × List MemPlace} (h:DataW.trod enc Tryz.prog w 0 spare held fuel 23 [.slice ao len cap]=some x) (hw:∀ n∈x.1.weights Tryz.prog 23,n≤reachBytes) :
  ∃ l:List Nd,l.length=len∧NsW w ao l∧len * 56≤140737488351232∧len≤cap∧(ao=none→len=0∧cap=0)∧∀ y∈l,NdI y:=by
 rcases open_elems11 Tryz.underlying23 cells_node (by omega) h hw with ⟨rfl,rfl,rfl⟩ | ⟨a,rfl,hl1,hl2,hsz,hall⟩
 ·exact ⟨[],rfl,.inl rfl,by omega,Nat.le_refl _,fun _=>⟨rfl,rfl⟩,by simp⟩
 ·rw [bytes_node] at hsz
  have each:∀ i,i<len→∃ y:Nd,NdI y∧∃ xo xc,w.cell? ⟨a.block,a.off+i * 5,none⟩=some (.int .i64 y.1)∧w.cell? ⟨a.block,a.off+i * 5+1,none⟩=some (.slice xo y.2.1.length xc)∧w.cell? ⟨a.block,a.off+i * 5+2,none⟩=some (.int .i64 y.2.2.1)∧w.cell? ⟨a.block,a.off+i * 5+3,none⟩=some (.bool y.2.2.2.1)∧w.cell? ⟨a.block,a.off+i * 5+4,none⟩=some (.int .i64 y.2.2.2.2)∧Arg w xo y.2.1 xc:=by
   intro i hi
   obtain ⟨_,_,cs,n,y,hl,hcell,hy,hyw⟩:=hall i hi
   obtain ⟨z,xo,xc,h1,h2,rfl⟩:=trod_node hl hy hyw
   exact ⟨z,h1,xo,xc,by simpa using hcell 0 (by omega),by simpa using hcell 1 (by omega),by simpa using hcell 2 (by omega),by simpa using hcell 3 (by omega),by simpa using hcell 4 (by omega),h2⟩
  obtain ⟨f,hf⟩:=Classical.axiomOfChoice (fun i:Fin len=>each i i.2)
  refine ⟨List.ofFn f,by simp,?_,by simpa [reachBytes] using hsz,hl1,(fun e=>by cases e),fun y hy=>?_⟩
  ·by_cases h0:len=0
   ·subst h0;exact .inl (by simp)
   ·obtain ⟨ea,hlt,_⟩:=hall 0 (by omega)
    refine .inr ⟨a.block,a.off,by rw [← ea],hlt,fun i hi=>?_⟩
    have hi' : i<len:=by simpa using hi
    simpa using (hf ⟨i,hi'⟩).2
  ·obtain ⟨i,rfl⟩:=List.mem_ofFn.1 hy
   exact (hf i).1
end
def TrAt (w:World) (ao:Option Addr) (l:List (Int × Int)):Prop:=
 l=[]∨∃ b off,ao=some ⟨b,off,none⟩∧b<w.heap.size∧∀ j (hj:j<l.length),w.cell? ⟨b,off+j * 2,none⟩=some (.int .i64 l[j].1)∧w.cell? ⟨b,off+j * 2+1,none⟩=some (.int .i64 l[j].2)
theorem TrAt.same {w w' : World} {ao:Option Addr} {l:List (Int × Int)} (h:TrAt w ao l) (hk:Same0 w w'):TrAt w' ao l:=by
 refine h.imp id ?_
 rintro ⟨b,off,e,hb,hc⟩
 refine ⟨b,off,e,Nat.lt_of_lt_of_le hb hk.size,fun j hj=>?_⟩
 obtain ⟨d0,d1⟩:=hc j hj
 exact ⟨(hk.cell (p:=⟨b,off+j * 2,none⟩) hb (fun f=>f)).trans d0,(hk.cell (p:=⟨b,off+j * 2+1,none⟩) hb (fun f=>f)).trans d1⟩
section
variable {H : Type} {enc : TypeId × Value → H} {w : World} {spare : Nat → Bool} {held : Bool}
end
theorem cells_termT:Tryz.prog.cellsOf 35=1:=by kernel_rfl
def TsG (w:World) (ao:Option Addr) (l:List (List Int)):Prop:=
 l=[]∨∃ b off,ao=some ⟨b,off,none⟩∧b<w.heap.size∧∀ j (hj:j<l.length),∃ xo xc,w.cell? ⟨b,off+j,none⟩=some (.slice xo l[j].length xc)∧Arg w xo l[j] xc
theorem TsG.same {w w' : World} {ao:Option Addr} {l:List (List Int)} (h:TsG w ao l) (hk:Same0 w w'):TsG w' ao l:=by
 refine h.imp id ?_
 rintro ⟨b,off,e,hb,hc⟩
 refine ⟨b,off,e,Nat.lt_of_lt_of_le hb hk.size,fun j hj=>?_⟩
 obtain ⟨xo,xc,d0,d1⟩:=hc j hj
 exact ⟨xo,xc,(hk.cell (p:=⟨b,off+j,none⟩) hb (fun f=>f)).trans d0,⟨d1.at'.same hk,d1.cap', d1.nil,d1.size⟩⟩
section
variable {H : Type} {enc : TypeId × Value → H} {w : World} {spare : Nat → Bool} {held : Bool}
theorem open_terms13 {fuel:Nat} {ao:Option Addr} {len cap:Nat} {x:DataW H × List MemPlace} (h:DataW.trod enc Tryz.prog w 0 spare held fuel 24 [.slice ao len cap]=some x) (hw:∀ n∈x.1.weights Tryz.prog 24,n≤reachBytes) :
  ∃ l:List (List Int),l.length=len∧TsG w ao l∧len≤maxLen:=by
 rcases open_elems11 Tryz.underlying24 cells_termT (by omega) h hw with ⟨rfl,rfl,rfl⟩ | ⟨a,rfl,hl1,hl2,hsz,hall⟩
 ·exact ⟨[],rfl,.inl rfl,Nat.zero_le _⟩
 ·have each:∀ i,i<len→∃ y:List Int,∃ go gc,w.cell? ⟨a.block,a.off+i,none⟩=some (.slice go y.length gc)∧Arg w go y gc:=by
   intro i hi
   obtain ⟨_,_,cs,n,y,hl,hcell,hy,hyw⟩:=hall i hi
   match cs,hl with
   | [c0],_=>
    obtain ⟨xo,xl,xc,e1⟩:=slice_one Tryz.underlying35 hy
    subst e1
    obtain ⟨q,hq1,hq2,hq3⟩:=open_ints64 Tryz.underlying35 hy hyw
    subst hq1
    exact ⟨q,xo,xc,by simpa using hcell 0 (by omega),hq2⟩
  obtain ⟨f,hf⟩:=Classical.axiomOfChoice (fun i:Fin len=>each i i.2)
  refine ⟨List.ofFn f,by simp,?_,Nat.le_trans hl1 hl2⟩
  by_cases h0:len=0
  ·subst h0;exact .inl (by simp)
  ·obtain ⟨ea,hlt,_⟩:=hall 0 (by omega)
   refine .inr ⟨a.block,a.off,by rw [← ea],hlt,fun i hi=>?_⟩
   have hi' : i<len:=by simpa using hi
   simpa using hf ⟨i,hi'⟩
end
end Go.Proofs.YtblgblgchkonhaaGreat
namespace Go.Proofs.YtblgblgchkonhaaGreat
set_option maxRecDepth 100000
set_option linter.unusedVariables false
open Go.RowKit
theorem neq_fltG (c y:Int) (w:World):(binOp .neq 42 (.agg #[.int .i64 c,.int .i64 0,.int .i64 y,.bool false,.int .i64 0,.int .i64 0]) (.agg #[.int .i64 c,.int .i64 0,.int .i64 y,.bool false,.int .i64 0,.int .i64 0])).run Tryz.prog w=.ok (.bool false) w:=by
 simp [go_sem]
end Go.Proofs.YtblgblgchkonhaaGreat
namespace Go.Proofs.YtblgblgchkonhaaGreat
set_option maxRecDepth 100000
set_option linter.unusedVariables false
open Go.RowKit
attribute [local go_sem ↓] Go.wp_at_zero Go.wp_at_succ
theorem neq_flt130 (w:World):(binOp .neq 42 (.agg #[.int .i64 130,.int .i64 0,.int .i64 0,.bool false,.int .i64 0,.int .i64 0]) (.agg #[.int .i64 130,.int .i64 0,.int .i64 0,.bool false,.int .i64 0,.int .i64 0])).run Tryz.prog w=.ok (.bool false) w:=by kernel_rfl
set_option maxHeartbeats 4000000 in
theorem gloads_walk {w:World} {ao:Option Addr} {len cap:Nat} {xs:List Sym} (hx:SymsAt w ao len xs) (hm:len≤maxLen) (room:Int) {lo:Option Addr} {lc:Nat} {l:List Nd} (hl:NsW w lo l) (hls:l.length * 56≤140737488351232) {qo:Option Addr} {qc:Nat} {T:List (List Int)} (hT:TsG w qo T) (hTm:T.length≤maxLen) :
  Calls Tryz.prog 3 #[.slice ao len cap,.int .i64 room,.slice lo l.length lc,.slice qo T.length qc] w fun e w' => e=.returned (.bool true)∧Below w.heap.size w w' := by
 have CA:=awake13_any w
 have HB:Hid (∀ w', Same0 w w' → Below w.heap.size w w'):=fun w' hk=>hk.below
 have CS:Hid (∀ ww,Same0 w ww→Calls Tryz.prog 6 #[.slice ao len cap] ww fun e w' => ∃ b rv,e=.returned (.tuple #[.pointer (some ⟨b,0,none⟩),rv])∧Sg w'.heap.size w' b (madeL xs)∧Rl w'.heap.size w' rv (madeL xs)∧Same0 ww w'):=fun ww hk=>sign_any ao len cap xs ww (hx.kept hk.below) hm
 have HL:Hid (∀ ww,Same0 w ww→NsW ww lo l):=fun ww hk=>hl.same hk
 have HQ:Hid (∀ ww,Same0 w ww→TsG ww qo T):=fun ww hk=>hT.same hk
 generalize madeL xs=L at *
 unfold maxLen at hTm
 clear hx hl hT
 go_enter Tryz.func3,Tryz.ntmps3
 go_upto_region 3 with (first
  | (go_at_call 5;refine CA.mono ?_;rintro e wa ⟨rfl,ka⟩)
  | (go_at_call 6;refine (CS.out wa ka).mono ?_;rintro e w2 ⟨sb,rv,rfl,hs,hr,k2⟩))
 have K2:Hid (Same0 w w2):=ka.trans' k2
 have SG:Hid (Sg w2.heap.size w2 sb L):=hs
 have RL:Hid (Rl w2.heap.size w2 rv L):=hr
 have CM:=made13r_any room (ac:=lc) (HL.out w2 K2.out) (by unfold maxLen;omega)
 clear CA CS hs hr ka k2 HL
 go_upto_region 4 with (first | (go_at_call 7;refine CM.mono ?_;rintro e w3 ⟨v1,v2,rfl,hq⟩))
 rcases hq with ⟨e,k3⟩ | ⟨rm,h,g,r,v,e,md⟩
 ·simp only [Ending.returned.injEq,Value.tuple.injEq,Array.mk.injEq,List.cons.injEq,and_true] at e
  obtain ⟨rfl,rfl⟩:=e
  clear CM
  go_wp2
  go_ret
  exact ⟨rfl,HB.out _ (K2.out.trans' k3)⟩
 ·simp only [Ending.returned.injEq,Value.tuple.injEq,Array.mk.injEq,List.cons.injEq,and_true] at e
  obtain ⟨rfl,rfl⟩:=e
  have Q3:Hid (GLM (fun _=>True) w2.heap.size sb rv L h g r rm w3):=⟨v,l,SG.out.same md.same,RL.out.same md.same,md.hp.mono (fun _ _ _ _=>trivial),md.rh.monoG (fun _ _ _=>trivial),md.nr,fun k e=>⟨(md.lv k e).1,(md.lv k e).2.2.1,(md.lv k e).2.1,(md.lv k e).2.2.2⟩,md.lh,md.lg,md.lr⟩
  have K3:Hid (Same0 w w3):=K2.out.trans' md.same
  have hz2:Hid (w.heap.size≤w2.heap.size):=K2.out.size
  have hlo3:Hid (w2.heap.size≤h∧w2.heap.size≤g∧w2.heap.size≤r):=⟨md.lh,md.lg,md.lr⟩
  clear CM md SG RL K2
  generalize w2.heap.size=n0 at *
  go_upto_region 7 with fail
  go_loopw [14] (fun s14 wr=>∃ i:Nat,i≤T.length∧s14=.int .i64 (i:Int)∧Hid (GLM (fun _=>True) n0 sb rv L h g r rm wr)∧Hid (Same0 w wr)) (fun s14 _=>T.length-(intOf s14).toNat)
  case atStart=>exact ⟨0,Nat.zero_le _,rfl,Q3,K3⟩
  case round=>
   clear Q3 K3
   obtain ⟨i,hiT,rfl,QI,KI⟩:=hrel
   by_cases hlt:i<T.length
   ·obtain ⟨tb,toff,rfl,htb,htc⟩:=(HQ.out w (Kept.refl _ _)).resolve_left (fun e=>by rw [e] at hlt;simp at hlt)
    obtain ⟨xo,xc,t0,ax⟩:=htc i hlt
    have i1:(0:Int)≤(i:Int):=by omega
    have i2:(i:Int)<(T.length:Int):=by omega
    have HC:Hid (∀ ww,Same0 w ww→ww.cell? ⟨tb,toff+i,none⟩=some (.slice xo T[i].length xc)∧Arg ww xo T[i] xc):=fun ww hk=>⟨(hk.cell (p:=⟨tb,toff+i,none⟩) htb (fun f=>f)).trans t0,⟨ax.at'.same hk,ax.cap', ax.nil,ax.size⟩⟩
    have hsx:Hid (T[i].length * 8≤140737488351232):=ax.size
    have hax:Hid (T[i]≠[]→∀ b,xo=some b→b.block<n0∧b.block<w.heap.size):=fun hne b e=>by
     rcases ax.at' with q | ⟨b', off', e', hb', _⟩
     ·exact absurd q hne
     ·rw [e'] at e;cases e;have:=hz2.out;exact ⟨by show b' < n0;omega,hb'⟩
    clear htc t0 ax htb
    generalize T[i]=ys at *
    have d0:=(HC.out wr KI.out).1
    have CL:=lent13_any (HC.out wr KI.out).2
    go_upto_region 10 with (first | (go_at_call 8;refine CL.mono ?_;rintro e w1 ⟨gt,c,rfl,hrow,hcl,k1⟩))
    obtain ⟨z1,z2,z3⟩:=lent_at hrow
    have Q1:=QI.out.lent k1 z1
    obtain ⟨v,N,q1⟩:=Q1
    have hn0:Hid (n0≤wr.heap.size∧h<wr.heap.size∧g<wr.heap.size∧r<wr.heap.size∧∀ k,v.ownBlock=some k→k≠gt):=by
     obtain ⟨v', N', q⟩:=QI.out
     refine ⟨by have:=q.lo.1;have:=q.hp.ltH;omega,q.hp.ltH,q.hp.ltG,q.rh.lt,fun k e s=>?_⟩
     obtain ⟨cu,hcu⟩:=z3
     obtain ⟨c2,hq⟩:=q1.rh.rowT e
     rw [s,hcu] at hq;cases hq
    have RW:Hid (Row wr.heap.size w1 (.slice (some ⟨gt,0,none⟩) (ys.length+3) c) (lentG ys)):=hrow
    have K1:Hid (Same0 w w1):=KI.out.trans' k1
    have hcl' : Hid (ys.length+3≤c):=hcl
    have hgz:Hid (wr.heap.size≤gt∧gt<w1.heap.size∧w.heap.size≤wr.heap.size):=⟨z1,z2,KI.out.size⟩
    have C1:=ld_call (cap:=c) q1 z2 (lent_ints hrow) hsx.out
    have HO:Hid (∀ k,v.ownBlock=some k→n0≤k):=fun k e=>(q1.own k e).1
    clear CL d0 QI KI hrow hcl k1 z1 z2 z3 q1
    generalize wr.heap.size=zr at *
    go_upto_region 11 with (first | (go_at_call 9;refine C1.mono ?_;rintro e w4 ⟨a,v2,rfl,p4,k4⟩))
    have K4:Hid (Same0 w w4):=K1.out.trans k4 (fun i hi e=>by have:=hlo3.out;have:=hz2.out;omega)
    have RW4:Hid (Row zr w4 (.slice (some ⟨gt,0,none⟩) (ys.length+3) c) (lentG ys)):=k4.row RW.out (fun k e s=>by
     have e1:gt=k:=Option.some.inj e
     have:=hn0.out;have:=hgz.out;omega)
    have hgt4:gt<w4.heap.size:=(lent_at RW4.out).2.1
    have d4:=(HC.out w4 K4.out).1
    have C2:=rld_call (cap:=xc) p4 hgt4 (HC.out w4 K4.out).2.at' (by have:=hsx.out;unfold maxLen;omega) (fun hne b e=>(hax.out hne b e).1)
    clear C1 p4 k4 K1 RW hgt4
    go_upto_region 12 with (first | (go_at_call 10;refine C2.mono ?_;rintro e w5 ⟨c5,y5,rfl,fq5,k5⟩;simp only [fltV]))
    have K5:Hid (Same0 w w5):=K4.out.trans k5 (fun i hi e=>by
     rcases e with e | e
     ·have:=hlo3.out;have:=hz2.out;omega
     ·have:=HO.out i e;have:=hz2.out;omega)
    have RW5:Hid (Row zr w5 (.slice (some ⟨gt,0,none⟩) (ys.length+3) c) (lentG ys)):=k5.row RW4.out (fun k e s=>by
     have e1:gt=k:=Option.some.inj e
     rcases s with s | s
     ·have:=hn0.out;have:=hgz.out;omega
     ·exact hn0.out.2.2.2.2 k s e1.symm)
    obtain ⟨f5,q5⟩:=fq5
    obtain ⟨X5,hX5⟩:∃ X5,X5=w5.alloc (.cells #[.int .i64 c5,.int .i64 0,.int .i64 y5,.bool false,.int .i64 0,.int .i64 0] 42):=⟨_,rfl⟩
    rw [← hX5]
    have j5:Same0 w5 X5:=by rw [hX5];exact (Kept.refl _ _).alloc _
    have n5:Hid (X5.heap[w5.heap.size]? = some (.cells #[.int .i64 c5,.int .i64 0,.int .i64 y5,.bool false,.int .i64 0,.int .i64 0] 42 (0,0))):=by show _=_;rw [hX5];exact heap_alloc_new _ _
    have F5:Hid (FtO n0 X5 v2 c5 y5):=f5.same j5
    have Q5:Hid (GLM (fun b=>b≠gt) n0 sb rv L h g r rm X5):=q5.same j5
    have KX5:Hid (Same0 w X5):=K5.out.trans' j5
    have RX5:Hid (Row zr X5 (.slice (some ⟨gt,0,none⟩) (ys.length+3) c) (lentG ys)):=j5.row RW5.out (fun _ _ f=>f)
    clear hX5 j5 f5 q5 K5 RW5 RW4 K4 k5 C2 d4
    generalize w5.heap.size=b5 at *
    have C3:=flt_call F5.out
    go_upto_region 13 with (first | (go_at_call 11;refine C3.mono ?_;rintro e w6 ⟨rfl,k6⟩;simp only [fltV]))
    have hfb:Hid (∀ k,FB v2 k→n0≤k∧∃ cs,X5.heap[k]? = some (.cells cs 94 (0,0))):=fun k e=>F5.out.fb e
    have Q6:=Q5.out.faults k6 hfb.out
    have K6:Same0 w w6:=KX5.out.trans k6 (fun i hi e=>by have:=(hfb.out i e).1;have:=hz2.out;omega)
    have R6:Row zr w6 (.slice (some ⟨gt,0,none⟩) (ys.length+3) c) (lentG ys):=k6.row RX5.out (fun k e s=>by
     have e1:gt=k:=Option.some.inj e
     obtain ⟨_,cs,e2⟩:=hfb.out k s
     obtain ⟨_,_,cu,e3⟩:=lent_at RX5.out
     rw [e1,e2] at e3;cases e3)
    have n6:w6.heap[b5]? = some (.cells #[.int .i64 c5,.int .i64 0,.int .i64 y5,.bool false,.int .i64 0,.int .i64 0] 42 (0,0)):=k6.at n5.out (fun s=>by
     obtain ⟨_,cs,e2⟩:=hfb.out b5 s
     rw [n5.out] at e2;cases e2)
    obtain ⟨X6,hX6⟩:∃ X6,X6=w6.alloc (.cells #[.int .i64 c5,.int .i64 0,.int .i64 y5,.bool false,.int .i64 0,.int .i64 0] 42):=⟨_,rfl⟩
    rw [← hX6]
    have j6:Same0 w6 X6:=by rw [hX6];exact (Kept.refl _ _).alloc _
    have m6:Hid (X6.heap[w6.heap.size]? = some (.cells #[.int .i64 c5,.int .i64 0,.int .i64 y5,.bool false,.int .i64 0,.int .i64 0] 42 (0,0))):=by show _=_;rw [hX6];exact heap_alloc_new _ _
    have m5:Hid (X6.heap[b5]? = some (.cells #[.int .i64 c5,.int .i64 0,.int .i64 y5,.bool false,.int .i64 0,.int .i64 0] 42 (0,0))):=j6.at0 n6
    have QX6:Hid (GLM (fun b=>b≠gt) n0 sb rv L h g r rm X6):=Q6.same j6
    have KX6:Hid (Same0 w X6):=K6.trans' j6
    have RX6:Hid (Row zr X6 (.slice (some ⟨gt,0,none⟩) (ys.length+3) c) (lentG ys)):=j6.row R6 (fun _ _ f=>f)
    clear hX6 j6 Q6 K6 R6 n6 n5 k6 hfb F5 Q5 KX5 RX5 C3
    generalize w6.heap.size=b6 at *
    obtain ⟨X7,hX7⟩:∃ X7,X7=X6.alloc (.cells #[.int .i64 (-1)] 3):=⟨_,rfl⟩
    have j7:Same0 X6 X7:=by rw [hX7];exact (Kept.refl _ _).alloc _
    have c7:IntsAt X7 (some ⟨X6.heap.size,0,none⟩) [-1]:=by rw [hX7];exact ints_one X6 (-1)
    obtain ⟨v7,N7,q7⟩:=QX6.out.same j7
    have hn7:n0≤X7.heap.size:=by have:=q7.lo.1;have:=q7.hp.ltH;omega
    have C7:Calls Tryz.prog 9 #[.pointer (some ⟨sb,0,none⟩),.pointer (some ⟨h,0,none⟩),.slice (some ⟨X6.heap.size,0,none⟩) 1 1] X7 fun e w' => ∃ v,e=.returned (.tuple #[.int .i64 0,v])∧FtO n0 w' v 130 0∧Same0 X7 w' :=
     (load_var (cap:=1) q7.sg ⟨h,0,none⟩ c7 (by simp) (check_minus L) (fun hall=>absurd (hall (-1) (by simp)) (by decide))).mono (fun e w' ⟨v,e1,e2,e3⟩=>⟨v,e1,.inr (e2.from hn7),e3⟩)
    have KX7:Hid (Same0 w X7∧Same0 X6 X7):=⟨KX6.out.trans' j7,j7⟩
    clear j7 c7 q7 hn7
    go_upto_region 14 with (first | (go_at_call 9;rw [← hX7];refine C7.mono ?_;rintro e w8 ⟨v8,rfl,f8,k8⟩))
    have K8:Hid (Same0 w w8∧Same0 X6 w8):=⟨KX7.out.1.trans' k8,Same0.trans' KX7.out.2 k8⟩
    have C8:=flt_call f8
    have hfb:Hid (∀ k,FB v8 k→n0≤k∧∃ cs,w8.heap[k]? = some (.cells cs 94 (0,0))):=fun k e=>f8.fb e
    clear hX7 C7 f8 k8 KX7
    go_upto_region 15 with (first | (go_at_call 11;refine C8.mono ?_;rintro e w9 ⟨rfl,k9⟩;simp only [fltV]))
    have Q9:=(QX6.out.same K8.out.2).faults k9 hfb.out
    have K9:Same0 w w9:=K8.out.1.trans k9 (fun i hi e=>by have:=(hfb.out i e).1;have:=hz2.out;omega)
    have R8:Row zr w8 (.slice (some ⟨gt,0,none⟩) (ys.length+3) c) (lentG ys):=K8.out.2.row RX6.out (fun _ _ f=>f)
    have R9:Row zr w9 (.slice (some ⟨gt,0,none⟩) (ys.length+3) c) (lentG ys):=k9.row R8 (fun k e s=>by
     have e1:gt=k:=Option.some.inj e
     obtain ⟨_,cs,e2⟩:=hfb.out k s
     obtain ⟨_,_,cu,e3⟩:=lent_at R8
     rw [e1,e2] at e3;cases e3)
    have n95:w9.heap[b5]? = some (.cells #[.int .i64 c5,.int .i64 0,.int .i64 y5,.bool false,.int .i64 0,.int .i64 0] 42 (0,0)):=k9.at (K8.out.2.at0 m5.out) (fun s=>by
     obtain ⟨_,cs,e2⟩:=hfb.out b5 s
     rw [K8.out.2.at0 m5.out] at e2;cases e2)
    have n96:w9.heap[b6]? = some (.cells #[.int .i64 c5,.int .i64 0,.int .i64 y5,.bool false,.int .i64 0,.int .i64 0] 42 (0,0)):=k9.at (K8.out.2.at0 m6.out) (fun s=>by
     obtain ⟨_,cs,e2⟩:=hfb.out b6 s
     rw [K8.out.2.at0 m6.out] at e2;cases e2)
    obtain ⟨X9,hX9⟩:∃ X9,X9=w9.alloc (.cells #[.int .i64 130,.int .i64 0,.int .i64 0,.bool false,.int .i64 0,.int .i64 0] 42):=⟨_,rfl⟩
    rw [← hX9]
    have j9:Same0 w9 X9:=by rw [hX9];exact (Kept.refl _ _).alloc _
    have o9:Hid (X9.heap[w9.heap.size]? = some (.cells #[.int .i64 130,.int .i64 0,.int .i64 0,.bool false,.int .i64 0,.int .i64 0] 42 (0,0))):=by show _=_;rw [hX9];exact heap_alloc_new _ _
    have o5:Hid (X9.heap[b5]? = some (.cells #[.int .i64 c5,.int .i64 0,.int .i64 y5,.bool false,.int .i64 0,.int .i64 0] 42 (0,0))):=j9.at0 n95
    have o6:Hid (X9.heap[b6]? = some (.cells #[.int .i64 c5,.int .i64 0,.int .i64 y5,.bool false,.int .i64 0,.int .i64 0] 42 (0,0))):=j9.at0 n96
    have QX9:Hid (GLM (fun b=>b≠gt) n0 sb rv L h g r rm X9):=Q9.same j9
    have KX9:Hid (Same0 w X9):=K9.trans' j9
    have RX9:Hid (Row zr X9 (.slice (some ⟨gt,0,none⟩) (ys.length+3) c) (lentG ys)):=j9.row R9 (fun _ _ f=>f)
    clear hX9 j9 Q9 K9 R8 R9 n95 n96 k9 hfb K8 QX6 KX6 RX6 m5 m6 C8
    generalize w9.heap.size=b9 at *
    have d9:=(HC.out X9 KX9.out).1
    have C9:=held13_any (cap:=xc) RX9.out hcl'.out (HC.out X9 KX9.out).2 (fun hne b e s=>by have:=(hax.out hne b e).2;have:=hgz.out;omega)
    have hgb:Hid (gt≠b5∧gt≠b6∧gt≠b9):=by
     obtain ⟨_,_,cu,e3⟩:=lent_at RX9.out
     refine ⟨fun s=>?_,fun s=>?_,fun s=>?_⟩
     ·rw [s,o5.out] at e3;cases e3
     ·rw [s,o6.out] at e3;cases e3
     ·rw [s,o9.out] at e3;cases e3
    go_upto_region 16 with (first | (go_at_call 12;refine C9.mono ?_;rintro e w10 ⟨rfl,k10⟩))
    obtain ⟨_,_,cu,e3⟩:=lent_at RX9.out
    have Q10:Hid (GLM (fun _=>True) n0 sb rv L h g r rm w10):=QX9.out.held k10 (by have:=hn0.out;have:=hgz.out;omega) e3
    have K10:Hid (Same0 w w10):=KX9.out.trans k10 (fun i hi e=>by have:=hgz.out;omega)
    obtain ⟨⟨p0,p1,p2,p3,p4,p5⟩, -⟩:=boxF6 (k10.at o5.out (fun s=>hgb.out.1 s.symm))
    obtain ⟨⟨q0,q1,q2,q3,q4,q5⟩, -⟩:=boxF6 (k10.at o6.out (fun s=>hgb.out.2.1 s.symm))
    obtain ⟨⟨r0,r1,r2,r3,r4,r5⟩, -⟩:=boxF6 (k10.at o9.out (fun s=>hgb.out.2.2 s.symm))
    have f1:=neq_fltG c5 y5
    have f2:=neq_flt130
    clear C9 d9 e3 k10 hgb o5 o6 o9 QX9 KX9 RX9 hax hsx HC hgz hn0 HO
    go_wp2_with fail
    refine ⟨⟨i+1,by omega,by go_num,Q10,K10⟩,by simp [intOf];omega⟩
   ·obtain rfl:i=T.length:=by omega
    obtain ⟨v,N,q⟩:=QI.out
    have CT:=told13_any q.hp
    have hN4:N.length≤maxLen:=by have:=q.rh.le;have:=q.rh.rm2;unfold maxLen;omega
    have QR:Hid (RhB (fun _=>True) wr r rm v N):=q.rh
    have HN4:Hid (N.length≤maxLen):=hN4
    obtain ⟨vo2,vc2,rfl⟩:=q.rh.row.shape
    clear q QI hN4
    go_upto_region 19 with (first | (go_at_call 13;refine CT.mono ?_;rintro e w5 ⟨v6,rfl,hrow,k6⟩;obtain ⟨vo,vc,rfl⟩:=hrow.shape))
    have r5:=QR.out.same k6
    obtain ⟨c0,c1⟩:=r5.cells
    have CN:Calls Tryz.prog 14 #[.slice vo N.length vc,.slice vo2 N.length vc2] w5 fun e w' => e=.returned (.bool true)∧Same0 w5 w' := by
     have:=sameNodes_any (ac:=vc) (bc:=vc2) hrow.mem.weak r5.row.mem.weak HN4.out
     rw [eqL_self] at this
     exact this
    have K6:Hid (Same0 w w5):=KI.out.trans' k6
    clear CT hrow k6 r5 QR HN4 KI
    go_wp2_with (first | (go_at_call 14;refine CN.mono ?_;rintro e w7 ⟨rfl,k7⟩))
    go_ret
    exact ⟨rfl,HB.out _ (K6.out.trans' k7)⟩
end Go.Proofs.YtblgblgchkonhaaGreat
