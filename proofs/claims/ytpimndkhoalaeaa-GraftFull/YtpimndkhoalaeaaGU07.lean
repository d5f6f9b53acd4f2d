import Derived.Test.YtpimndkhoalaeaaGU06
import Derived.Test.YtpimndkhoalaeaaGU02
import Derived.Test.YtpimndkhoalaeaaGU04
import Derived.Test.YtpimndkhoalaeaaGU03
import Derived.Laws.AppendOwnNone
import Derived.Test.YtpimndkhoalaeaaGU01
import Derived.Test.YtpimndkhoalaeaaGU05
namespace Go.Proofs.Ytpimndkhoalaeaa
set_option maxRecDepth 100000
set_option linter.unusedVariables false
open Go.RowKit
attribute [local go_sem ↓] Go.wp_at_zero Go.wp_at_succ
abbrev gZ:Sym:=⟨⟨#[122]⟩,0,false⟩
abbrev gS:Sym:=⟨⟨#[115]⟩,1,false⟩
abbrev gP:Sym:=⟨⟨#[112]⟩,2,false⟩
abbrev gD:Sym:=⟨⟨#[100]⟩,1,true⟩
theorem ng_z:nameB ⟨#[122]⟩=true:=by decide +kernel
theorem ng_s:nameB ⟨#[115]⟩=true:=by decide +kernel
theorem ng_p:nameB ⟨#[112]⟩=true:=by decide +kernel
theorem ng_d:nameB ⟨#[100]⟩=true:=by decide +kernel
abbrev LG:List Sym:=[gZ,gS,gP,gD]
theorem made_LG:madeL [gZ,gS,gP,gD]=LG:=by
 simp [madeL,addL,addErr,ng_z,ng_s,ng_p,ng_d,findI]
abbrev NG4:List Nd:=[(0,[],0,false,0),(1,[0],0,false,0),(0,[],0,false,0),(2,[2,1],0,false,0)]
abbrev NG5:List Nd:=NG4 ++ [(3,[3],0,false,0)]
abbrev NG7:List Nd:=NG5 ++ [(1,[3],0,false,0),(2,[3,5],0,false,0)]
theorem ld_term:layF [] ([2,0,1,0].map (tgT LG))=(NG4,[3]):=by decide +kernel
theorem ck_term:checkE LG [2,0,1,0]=0:=by decide +kernel
theorem ck_one:checkE LG [1]=23:=by decide +kernel
theorem mk_five:mkE NG4 8 3 [3]=0:=by decide +kernel
abbrev TG:List Tg:=[(true,2,2,0),(false,0,0,3),(true,1,1,0),(false,0,0,3)]
theorem ld_right:layF NG5 TG=(NG7,[6]):=by decide +kernel
theorem ar_four:ArR NG5 4 0 3:=.inl ⟨4,4,3,by decide,by decide,rfl,Res.self (by decide) rfl,by decide,Res.self (by decide) rfl,rfl⟩
abbrev QG:List (Int × List Int):=[(2,[]),(-1,[0]),(1,[]),(-1,[0])]
theorem tg_two:tgT LG 2=(true,2,2,0):=by decide +kernel
theorem tg_one:tgT LG 1=(true,1,1,0):=by decide +kernel
theorem all_right:AllP LG NG5 ((4:Nat):Int) QG TG:=by
 refine ⟨rfl,fun i h h' => ?_⟩
 have hl:i<4:=h
 match i,hl with
 | 0,_=>exact .inl ⟨show (0:Int)≤2 by decide,show (2:Int)<4 by decide,tg_two.symm,rfl⟩
 | 1,_=>exact .inr (.inr (.inr (.inr ⟨rfl,3,⟨3,ar_four,rfl⟩,by decide,rfl,rfl⟩)))
 | 2,_=>exact .inl ⟨show (0:Int)≤1 by decide,show (1:Int)<4 by decide,tg_one.symm,rfl⟩
 | 3,_=>exact .inr (.inr (.inr (.inr ⟨rfl,3,⟨3,ar_four,rfl⟩,by decide,rfl,rfl⟩)))
theorem bd_right:BdY LG NG5 8 [QG] 0 4 TG:=⟨0,4,4,by decide,rfl,rfl,Res.self (by decide) rfl,all_right,by decide,by decide⟩
theorem syms_LG (w:World):SymsAt (w.alloc (.cells #[.string ⟨#[122]⟩,.int .i64 0,.bool false,.string ⟨#[115]⟩,.int .i64 1,.bool false,.string ⟨#[112]⟩,.int .i64 2,.bool false,.string ⟨#[100]⟩,.int .i64 1,.bool true] 76)) (some ⟨w.heap.size,0,none⟩) 4 [gZ,gS,gP,gD]:=by
 refine ⟨rfl,.inr ⟨_,_,rfl,by simp,fun i hi=>?_⟩,?_⟩
 ·have hi' : i<4:=by simpa using hi
  rw [cellAt (heap_alloc_new w _),cellAt (heap_alloc_new w _),cellAt (heap_alloc_new w _)]
  match i,hi' with
  | 0,_=>exact ⟨rfl,rfl,rfl⟩
  | 1,_=>exact ⟨rfl,rfl,rfl⟩
  | 2,_=>exact ⟨rfl,rfl,rfl⟩
  | 3,_=>exact ⟨rfl,rfl,rfl⟩
 ·intro x hx
  simp at hx
  rcases hx with rfl | rfl | rfl | rfl <;> exact ⟨by decide +kernel,by decide +kernel⟩
structure GH (n sb:Nat) (L:List Sym) (h g room:Nat) (N:List Nd) (w:World):Prop where
 sg:Sg n w sb L
 hp:HpB (fun _=>True) w h g room N
 gh:n≤h∧n≤g
theorem GH.same {n sb:Nat} {L:List Sym} {h g room:Nat} {N:List Nd} {w w' : World} (q:GH n sb L h g room N w) (hk:Same0 w w'):GH n sb L h g room N w' := ⟨q.sg.same hk,q.hp.same hk,q.gh⟩
theorem GH.next {n sb:Nat} {L:List Sym} {h g room:Nat} {N N' : List Nd} {w w' : World} {B:Nat→Prop} (q:GH n sb L h g room N w) (hk:Kept (fun k=>k=h∨k=g) w w') (hp:HpB B w' h g room N'):GH n sb L h g room N' w' :=
 ⟨q.sg.kept hk (fun k hk e=>by have:=q.gh;omega),hp.mono (fun _ _ _ _=>trivial),q.gh⟩
theorem GH.load_yes {n sb:Nat} {L:List Sym} {h g room:Nat} {N:List Nd} {w:World} (q:GH n sb L h g room N w) {ao:Option Addr} {cap:Nat} {t:List Int} (ht:IntsAt w ao t) (hc:checkE L t=0) (hv:∀ x∈t,0≤x) (hf:N.length+t.length≤room) :
  Calls Try.prog 16 #[.pointer (some ⟨sb,0,none⟩),.pointer (some ⟨h,0,none⟩),.slice ao t.length cap] w fun e w' => ∃ a:Nat,e=.returned (.tuple #[.int .i64 (a:Int),.nilIface])∧(layF N (t.map (tgT L))).2=[(a:Int)]∧GH n sb L h g room (layF N (t.map (tgT L))).1 w' ∧ Kept (fun k=>k=h∨k=g) w w' :=
 (Go.Proofs.Ytpimndkhoalaeaa.load_yes q.sg q.hp ht hc hv hf).mono (fun e w' ⟨a,e1,e2,e3,e4⟩=>⟨a,e1,e2,q.next e4 e3,e4⟩)
theorem GH.made {n sb:Nat} {L:List Sym} {h g room:Nat} {N:List Nd} {w:World} (q:GH n sb L h g room N w) (s:Int) {ao:Option Addr} {xs:List Int} {cap:Nat} (hx:Arg w ao xs cap) (he:mkE N room s xs=0) :
  Calls Try.prog 21 #[.pointer (some ⟨h,0,none⟩),.int .i64 s,.slice ao xs.length cap] w fun e w' => e=.returned (.tuple #[.int .i64 (N.length:Int),.int .i64 0])∧GH n sb L h g room (N ++ [(s,xs,0,false,0)]) w' ∧ Kept (fun k=>k=h∨k=g) w w' :=
 (make_yes q.hp s hx he).mono (fun e w' ⟨e1,e2,e3⟩=>⟨e1,q.next e3 e2,e3⟩)
theorem GH.build_yes {n sb:Nat} {L:List Sym} {h g room:Nat} {N:List Nd} {w:World} (q:GH n sb L h g room N w) {ro:Option Addr} {rc:Nat} {R:List (List (Int × List Int))} (hR:RtAt w ro R) (io po eo:Option Addr) (il ic pl pc el ec:Nat) {rule node:Int} {l:List Tg} (hy:BdY L N room R rule node l) :
  Calls Try.prog 22 #[.pointer (some ⟨sb,0,none⟩),.agg #[.slice io il ic,.slice po pl pc,.slice eo el ec,.slice ro R.length rc],.pointer (some ⟨h,0,none⟩),.int .i64 rule,.int .i64 node] w fun e w' => ∃ a:Nat,e=.returned (.tuple #[.int .i64 (a:Int),.nilIface])∧(layF N l).2=[(a:Int)]∧GH n sb L h g room (layF N l).1 w' ∧ Kept (fun k=>k=h∨k=g) w w' :=
 (build_any q.sg q.hp hR io po eo il ic pl pc el ec rule node).mono (fun e w' hb=>by
  obtain ⟨a,e1,e2,e3,e4⟩:=hb.yes hy
  exact ⟨a,e1,e2,q.next e4 e3,e4⟩)
theorem rt_QG (w:World) (X:World) (b0 b1 b2 b3:Nat) (h0:X.heap[b0]? = some (.cells #[.int .i64 0] 3 (0,0))) (h1:X.heap[b1]? = some (.cells #[.int .i64 0] 3 (0,0))) (h2:X.heap[b2]? = some (.cells #[.int .i64 2,.slice none 0 0,.int .i64 (-1),.slice (some ⟨b0,0,none⟩) 1 1,.int .i64 1,.slice none 0 0,.int .i64 (-1),.slice (some ⟨b1,0,none⟩) 1 1] 52 (0,0))) (h3:X.heap[b3]? = some (.cells #[.slice (some ⟨b2,0,none⟩) 4 4] 50 (0,0))):RtAt X (some ⟨b3,0,none⟩) [QG]:=by
 refine .inr ⟨b3,0,rfl,lt_of_at h3,fun i hi=>?_⟩
 have hi' : i<1:=hi
 obtain rfl:i=0:=by omega
 refine ⟨some ⟨b2,0,none⟩,4,cellAt h3 0,.inr ⟨b2,0,rfl,lt_of_at h2,fun j hj=>?_⟩,show (4:Nat)≤4398046511104 by decide⟩
 have hj' : j<4:=hj
 have I:∀ bb,X.heap[bb]? = some (.cells #[.int .i64 0] 3 (0,0))→IntsAt X (some ⟨bb,0,none⟩) [0]:=fun bb hb=>.inr ⟨bb,0,rfl,lt_of_at hb,fun i hi=>by
  have hi' : i<1:=hi
  obtain rfl:i=0:=by omega
  exact cellAt hb 0⟩
 match j,hj' with
 | 0,_=>exact ⟨none,0,cellAt h2 0,cellAt h2 1,.inl rfl,show (0:Nat)≤maxLen by decide⟩
 | 1,_=>exact ⟨some ⟨b0,0,none⟩,1,cellAt h2 2,cellAt h2 3,I b0 h0,show (1:Nat)≤maxLen by decide⟩
 | 2,_=>exact ⟨none,0,cellAt h2 4,cellAt h2 5,.inl rfl,show (0:Nat)≤maxLen by decide⟩
 | 3,_=>exact ⟨some ⟨b1,0,none⟩,1,cellAt h2 6,cellAt h2 7,I b1 h1,show (1:Nat)≤maxLen by decide⟩
set_option maxHeartbeats 4000000 in
theorem awake13_any (w:World):Calls Try.prog 12 #[] w fun e w' => e=.returned (.bool true)∧Same0 w w' := by
 have C1:=sign_any (some ⟨w.heap.size,0,none⟩) 4 4 [gZ,gS,gP,gD] _ (syms_LG w) (by unfold maxLen;omega)
 rw [made_LG] at C1
 have k0:Hid (Same0 w (w.alloc (.cells #[.string ⟨#[122]⟩,.int .i64 0,.bool false,.string ⟨#[115]⟩,.int .i64 1,.bool false,.string ⟨#[112]⟩,.int .i64 2,.bool false,.string ⟨#[100]⟩,.int .i64 1,.bool true] 76))):=(Kept.refl _ w).alloc _
 have F1:Hid (checkE LG [2,0,1,0]=0∧layF [] ([2,0,1,0].map (tgT LG))=(NG4,[3])∧checkE LG [1]=23∧BdY LG NG5 8 [QG] 0 4 TG):=⟨ck_term,ld_term,ck_one,bd_right⟩
 generalize LG=L at *
 go_enter Try.func12,Try.ntmps12
 go_upto_region 5 with (first
  | (go_at_call 13;refine C1.mono ?_;rintro e w1 ⟨sb,rv,rfl,hs, -,k1⟩)
  | (go_at_call 14;refine (hnew_yes 8 w1 (by omega) (by omega)).mono ?_;rintro e w2 ⟨h,g,rfl,p2,k2,hh,hg⟩))
 have Q2:Hid (GH w1.heap.size sb L h g 8 [] w2):=⟨hs.same k2,p2.mono (fun _ _ _ _=>trivial),hh,hg⟩
 have K2:Hid (Same0 w w2):=(k0.out.trans' k1).trans' k2
 have hz1:w.heap.size≤w1.heap.size:=(k0.out.trans' k1).size
 have KH:Hid (∀ a b,Kept (fun k=>k=h∨k=g) a b→Same0 w a→Same0 w b):=fun a b hk h1=>h1.trans hk (fun i hi e=>by omega)
 clear C1 hs p2 k1 k2 k0
 have ka2:=(Kept.refl (fun _=>False) w2).alloc (.cells #[.int .i64 2,.int .i64 0,.int .i64 1,.int .i64 0] 3)
 have CL:=(Q2.out.same ka2).load_yes (cap:=4) (ints_new w2 [2,0,1,0] 3 rfl) F1.out.1 (by decide) (by decide)
 rw [F1.out.2.1] at CL
 go_upto_region 6 with (first | (go_at_call 16;refine CL.mono ?_;rintro e w3 ⟨a3,rfl,ea,Q3,k3⟩))
 obtain rfl:a3=3:=by simp at ea;omega
 have K3:Hid (Same0 w w3):=KH.out _ _ k3 (K2.out.trans' ka2)
 have HQ3:Hid (GH w1.heap.size sb L h g 8 NG4 w3):=Q3
 clear CL ea Q3 k3 Q2 K2 ka2
 have ka3:=(Kept.refl (fun _=>False) w3).alloc (.cells #[.int .i64 1] 3)
 have CB:=load_bad (cap:=1) (HQ3.out.sg.same ka3) ⟨h,0,none⟩ (ints_new w3 [1] 3 rfl) (by decide) (by rw [F1.out.2.2.1];decide)
 rw [F1.out.2.2.1] at CB
 go_upto_region 7 with (first | (go_at_call 16;refine CB.mono ?_;rintro e w4 ⟨v4,rfl,⟨fb,rfl, -, -⟩,k4⟩))
 have K4:Hid (Same0 w w4):=(K3.out.trans' ka3).trans' k4
 have HQ4:Hid (GH w1.heap.size sb L h g 8 NG4 w4):=(HQ3.out.same ka3).same k4
 clear CB k4 ka3 HQ3 K3
 have ka4:=(Kept.refl (fun _=>False) w4).alloc (.cells #[.int .i64 3] 3)
 have CM:=(HQ4.out.same ka4).made 3 (arg_one w4 3) mk_five
 go_upto_region 8 with (first | (go_at_call 21;refine CM.mono ?_;rintro e w5 ⟨rfl,Q5,k5⟩))
 have K5:Hid (Same0 w w5):=KH.out _ _ k5 (K4.out.trans' ka4)
 have HQ5:Hid (GH w1.heap.size sb L h g 8 NG5 w5):=Q5
 clear CM k5 ka4 HQ4 K4 Q5
 obtain ⟨X1,hX1⟩:∃ X1,X1=w5.alloc (.cells #[.int .i64 0] 3):=⟨_,rfl⟩
 obtain ⟨X2,hX2⟩:∃ X2,X2=X1.alloc (.cells #[.int .i64 0] 3):=⟨_,rfl⟩
 obtain ⟨X3,hX3⟩:∃ X3,X3=X2.alloc (.cells #[.int .i64 2,.slice none 0 0,.int .i64 (-1),.slice (some ⟨w5.heap.size,0,none⟩) 1 1,.int .i64 1,.slice none 0 0,.int .i64 (-1),.slice (some ⟨w5.heap.size+1,0,none⟩) 1 1] 52):=⟨_,rfl⟩
 obtain ⟨X4,hX4⟩:∃ X4,X4=X3.alloc (.cells #[.slice (some ⟨w5.heap.size+1+1,0,none⟩) 4 4] 50):=⟨_,rfl⟩
 obtain ⟨X5,hX5⟩:∃ X5,X5=X4.alloc (.cells #[.slice none 0 0,.slice none 0 0,.slice none 0 0,.slice (some ⟨w5.heap.size+1+1+1,0,none⟩) 1 1] 58):=⟨_,rfl⟩
 have z1:X1.heap.size=w5.heap.size+1:=by rw [hX1];simp
 have z2:X2.heap.size=w5.heap.size+1+1:=by rw [hX2];simp [z1]
 have z3:X3.heap.size=w5.heap.size+1+1+1:=by rw [hX3];simp [z2]
 have z4:X4.heap.size=w5.heap.size+1+1+1+1:=by rw [hX4];simp [z3]
 have j1:Same0 w5 X1:=by rw [hX1];exact (Kept.refl _ _).alloc _
 have j2:Same0 X1 X2:=by rw [hX2];exact (Kept.refl _ _).alloc _
 have j3:Same0 X2 X3:=by rw [hX3];exact (Kept.refl _ _).alloc _
 have j4:Same0 X3 X4:=by rw [hX4];exact (Kept.refl _ _).alloc _
 have j5:Same0 X4 X5:=by rw [hX5];exact (Kept.refl _ _).alloc _
 have q0:X1.heap[w5.heap.size]? = some (.cells #[.int .i64 0] 3 (0,0)):=by rw [hX1];exact heap_alloc_new _ _
 have q1:X2.heap[w5.heap.size+1]? = some (.cells #[.int .i64 0] 3 (0,0)):=by rw [hX2,← z1];exact heap_alloc_new _ _
 have q2:X3.heap[w5.heap.size+1+1]? = some (.cells #[.int .i64 2,.slice none 0 0,.int .i64 (-1),.slice (some ⟨w5.heap.size,0,none⟩) 1 1,.int .i64 1,.slice none 0 0,.int .i64 (-1),.slice (some ⟨w5.heap.size+1,0,none⟩) 1 1] 52 (0,0)):=by rw [hX3,← z2];exact heap_alloc_new _ _
 have q3:X4.heap[w5.heap.size+1+1+1]? = some (.cells #[.slice (some ⟨w5.heap.size+1+1,0,none⟩) 4 4] 50 (0,0)):=by rw [hX4,← z3];exact heap_alloc_new _ _
 have q4:X5.heap[w5.heap.size+1+1+1+1]? = some (.cells #[.slice none 0 0,.slice none 0 0,.slice none 0 0,.slice (some ⟨w5.heap.size+1+1+1,0,none⟩) 1 1] 58 (0,0)):=by rw [hX5,← z4];exact heap_alloc_new _ _
 have RT:=rt_QG w5 X5 _ _ _ _ (j5.at0 (j4.at0 (j3.at0 (j2.at0 q0)))) (j5.at0 (j4.at0 (j3.at0 q1))) (j5.at0 (j4.at0 q2)) (j5.at0 q3)
 have J5:=(((j1.trans' j2).trans' j3).trans' j4).trans' j5
 have CB:=(HQ5.out.same J5).build_yes (rc:=1) RT none none none 0 0 0 0 0 0 F1.out.2.2.2
 rw [ld_right] at CB
 have K5' : Hid (Same0 w X5):=K5.out.trans' J5
 obtain ⟨y0,y1,y2,y3⟩:=boxT4 q4
 go_upto_region 9 with fail
 rw [← hX1,← hX2,← hX3,← hX4,← hX5]
 clear hX1 hX2 hX3 hX4 hX5 z1 z2 z3 z4 j1 j2 j3 j4 j5 q0 q1 q2 q3 q4 RT J5 K5 HQ5
 go_upto_region 10 with (first | (go_at_call 22;refine CB.mono ?_;rintro e w6 ⟨a6,rfl,ea,Q6,k6⟩))
 obtain rfl:a6=6:=by simp at ea;omega
 have K6:Hid (Same0 w w6):=KH.out _ _ k6 K5'.out
 have HQ6:Hid (GH w1.heap.size sb L h g 8 NG7 w6):=Q6
 clear CB ea Q6 k6 K5' y0 y1 y2 y3
 have CA:=hat_yes HQ6.out.hp 6 (by decide)
 go_upto_region 11 with (first | (go_at_call 46;refine CA.mono ?_;rintro e w7 ⟨bo,bc,rfl,a1, -,k7⟩))
 obtain ⟨X7,hX7⟩:∃ X7,X7=w7.alloc (.cells #[.int .i64 2,.slice bo 2 bc,.int .i64 0,.bool false,.int .i64 0] 71):=⟨_,rfl⟩
 rw [← hX7]
 have j7:Same0 w7 X7:=by rw [hX7];exact (Kept.refl _ _).alloc _
 have hbx:X7.heap[w7.heap.size]? = some (.cells #[.int .i64 2,.slice bo 2 bc,.int .i64 0,.bool false,.int .i64 0] 71 (0,0)):=by rw [hX7];exact heap_alloc_new _ _
 have K7:Hid (Same0 w X7):=(K6.out.trans' k7).trans' j7
 have HQ7:Hid (GH w1.heap.size sb L h g 8 NG7 X7):=(HQ6.out.same k7).same j7
 have ha7:IntsAt X7 bo [3,5]:=(a1.same j7).1.at'
 obtain ⟨ab,aoff,rfl,hab,hac⟩:=ha7.get (i:=0) (by decide)
 obtain ⟨ab', aoff', e7,hab', hac'⟩:=ha7.get (i:=1) (by decide)
 simp only [Option.some.injEq,Addr.mk.injEq,and_true] at e7
 obtain ⟨rfl,rfl⟩:=e7
 have FC:Hid (∀ ww,Same0 X7 ww→ww.cell? ⟨w7.heap.size,0,none⟩=some (.int .i64 2)∧ww.cell? ⟨w7.heap.size,1,none⟩=some (.slice (some ⟨ab,aoff,none⟩) 2 bc)∧ww.cell? ⟨ab,aoff,none⟩=some (.int .i64 3)∧ww.cell? ⟨ab,aoff+1,none⟩=some (.int .i64 5)):=fun ww hk=>⟨cellAt (hk.at0 hbx) 0,cellAt (hk.at0 hbx) 1,(hk.cell (p:=⟨ab,aoff,none⟩) hab (fun f=>f)).trans hac,(hk.cell (p:=⟨ab,aoff+1,none⟩) hab (fun f=>f)).trans hac'⟩
 clear hX7 j7 hbx a1 k7 K6 HQ6 CA ha7 hac hac' hab hab'
 have CO:=of_any (some ⟨h,0,none⟩) X7
 have CH:Hid (∀ ww,Same0 X7 ww→Calls Try.prog 29 #[.agg #[.pointer (some ⟨h,0,none⟩)],.int .i64 4] ww fun e w' => e=.returned (.tuple #[.int .i64 3,.bool false])∧Same0 ww w'):=fun ww hk=>(head_yes (HQ7.out.same hk).hp 4 (by decide)).mono (fun e w' ⟨b,hb,e1,e2,e3⟩=>by
  obtain rfl:=e2.uniq (Res.self (l:=NG7) (a:=4) (by decide) rfl)
  exact ⟨e1,e3⟩)
 go_upto_region 12 with (first
  | (go_at_call 28;refine CO.mono ?_;rintro e w8 ⟨rfl,k8⟩)
  | (go_at_call 29;refine (CH.out w8 k8).mono ?_;rintro e w9 ⟨rfl,k9⟩))
 obtain ⟨y0,y1,y2,y3⟩:=FC.out w9 (Same0.trans' k8 k9)
 have n1:=neq_efault
 have n2:=neq_enil
 go_wp2
 go_ret
 exact ⟨rfl,(K7.out.trans' k8).trans' k9⟩
def clG (L:List Sym) (t:List Int):Bool:=decide (checkE L t=0) && !t.any (fun x=>decide (x<0))
theorem clG_neg {L:List Sym} {t:List Int} {k:Nat} (h:k<t.length) (hx:t[k]<0):clG L t=false:=by
 have:t.any (fun x=>decide (x<0))=true:=List.any_eq_true.2 ⟨t[k],List.getElem_mem h,by simpa using hx⟩
 simp [clG,this]
theorem clG_none {L:List Sym} {t:List Int} (h:∀ x∈t,0≤x):clG L t=decide (checkE L t=0):=by
 have:t.any (fun x=>decide (x<0))=false:=by
  rw [List.any_eq_false]
  intro x hx
  have:=h x hx
  simp;omega
 simp [clG,this]
theorem clG_pos {L:List Sym} {t:List Int} (h:clG L t=true):checkE L t=0∧∀ x∈t,0≤x:=by
 unfold clG at h
 simp only [Bool.and_eq_true,decide_eq_true_eq,Bool.not_eq_true', List.any_eq_false,decide_eq_true_eq] at h
 exact ⟨h.1,fun x hx=>by have:=h.2 x hx;omega⟩
set_option maxHeartbeats 4000000 in
theorem gclosed_any {n:Nat} {w:World} {rv:Value} {L:List Sym} (h:Rl n w rv L) {ao:Option Addr} {cap:Nat} {t:List Int} (ht:IntsAt w ao t) (hm:t.length≤maxLen) :
  Calls Try.prog 15 #[rv,.slice ao t.length cap] w fun e w' => e=.returned (.bool (clG L t))∧w' = w:=by
 have CK:=rcheck_any (cap:=cap) h ht hm
 unfold maxLen at hm
 obtain ⟨ro,rcap,rfl⟩:=row_shape h.1
 go_enter Try.func15,Try.ntmps15
 go_wp2
 go_loopw [5] (fun i wr=>∃ k:Nat,k≤t.length∧i=.int .i64 (k:Int)∧Hid (∀ x∈t.take k,0≤x)∧wr=w) (fun i _=>t.length-(intOf i).toNat)
 case atStart=>exact ⟨0,Nat.zero_le _,rfl,fun x hx=>by simp at hx,rfl⟩
 case round=>
  obtain ⟨k,hk,rfl,hH,rfl⟩:=hrel
  by_cases hlt:k<t.length
  ·obtain ⟨b,off,rfl,hb,hc⟩:=ht.get hlt
   have i1:(0:Int)≤(k:Int):=by omega
   have i2:(k:Int)<(t.length:Int):=by omega
   by_cases hx:t[k]<0
   ·have H:Hid (clG L t=false):=clG_neg hlt hx
    generalize t[k]=x at *
    go_wp2
    go_ret
    exact ⟨by rw [H.out];rfl,rfl⟩
   ·have H:Hid (∀ x∈t.take (k+1),0≤x):=fun x hm' => by
     rw [← List.take_append_getElem hlt,List.mem_append] at hm'
     rcases hm' with h1 | h1
     ·exact hH.out x h1
     ·simp at h1;omega
    generalize t[k]=x at *
    go_wp2
    go_roundw
    case rel=>exact ⟨k+1,by omega,by go_num,H,trivial⟩
    case measure=>simp [intOf];omega
  ·have H:Hid (clG L t=decide (checkE L t=0)):=clG_none (fun x hx=>hH.out x (by rw [List.take_of_length_le (by omega)];exact hx))
   generalize checkE L t=z at *
   go_wp2_with (first | (go_at_call 50;refine CK.mono ?_;rintro e w2 ⟨rfl,rfl⟩))
   go_ret
   exact ⟨by rw [H.out];rfl,rfl⟩
end Go.Proofs.Ytpimndkhoalaeaa
namespace Go.Proofs.Ytpimndkhoalaeaa
set_option linter.unusedVariables false
def fullN (k:Nat):List Nd:=(List.range k).map (fun i:Nat=>(((i:Nat):Int),[],0,false,0))
theorem fullN_len (k:Nat):(fullN k).length=k:=by simp [fullN]
theorem fullN_succ (k:Nat):fullN (k+1)=fullN k ++ [((k:Int),[],0,false,0)]:=by simp [fullN,List.range_succ]
theorem fullN_mk {k room:Nat} (h:k<room):mkE (fullN k) room (k:Int) []=0:=by
 unfold mkE
 rw [if_neg (by simp),if_neg (by simp [insB]),if_neg (by rw [fullN_len];omega)]
theorem fullN_app {k i:Nat} (h:i<(fullN k).length):(fullN k)[i].2.2.2.1=false:=by simp [fullN]
def partsT (t:List Int):List (Int × List Int):=t.map (fun x=>(x,[]))
theorem all_parts {L:List Sym} {N:List Nd} {z:Int} {t:List Int} (h:∀ x∈t,0≤x∧x<(L.length:Int)):AllP L N z (partsT t) (t.map (tgT L)):=by
 refine ⟨by simp [partsT],fun i h1 h2=>?_⟩
 have hi:i<t.length:=by simpa using h2
 have:=h _ (List.getElem_mem hi)
 exact .inl ⟨by simp [partsT];omega,by simp [partsT];omega,by simp [partsT],rfl⟩
theorem bd_parts {L:List Sym} {N:List Nd} {room:Nat} {t:List Int} {R:List (List (Int × List Int))} (hN:0<N.length) (hp:N[0].2.2.2.1=false) (h:∀ x∈t,0≤x∧x<(L.length:Int)) (hone:need L 1 t=some 0) (hr:N.length+t.length≤room):BdY L N room (partsT t :: R) 0 0 (t.map (tgT L)):=
 ⟨0,0,0,by simp,rfl,rfl,Res.self hN hp,all_parts h,one_term L t 1 hone,by rw [new_term];exact hr⟩
theorem bd_full {L:List Sym} {N:List Nd} {room:Nat} {t:List Int} {R:List (List (Int × List Int))} (hN:0<N.length) (hp:N[0].2.2.2.1=false) (h:∀ x∈t,0≤x∧x<(L.length:Int)) (hone:need L 1 t=some 0) (hr:¬ N.length+t.length≤room):BdE L N room (partsT t :: R) 0 0 131 0 111:=
 .inr (.inr ⟨0,0,0,by simp,rfl,rfl,Res.self hN hp,.inr ⟨t.map (tgT L),all_parts h,.inr ⟨one_term L t 1 hone,by rw [new_term];exact hr,rfl,rfl,rfl⟩⟩⟩)
theorem bd_self {L:List Sym} {N:List Nd} {room:Nat} {Q:List (Int × List Int)} {j:Nat} (hj:j<N.length) (hp:N[j].2.2.2.1=false) (hr:N.length≤room):BdY L N room [Q,[(-1,[])]] 1 (j:Int) [(false,0,0,(j:Int))]:=
 ⟨1,j,j,by simp,rfl,rfl,Res.self hj hp,⟨rfl,fun i h1 h2=>by
  have hi:i<1:=h2
  obtain rfl:i=0:=by omega
  exact .inr (.inr (.inr (.inr ⟨rfl,(j:Int),rfl,by omega,rfl,rfl⟩)))⟩,rfl,by simpa [newN] using hr⟩
theorem lay_self (N:List Nd) (j:Int):layF N [(false,0,0,j)]=(N,[j]):=rfl
end Go.Proofs.Ytpimndkhoalaeaa
namespace Go.Proofs.Ytpimndkhoalaeaa
set_option maxRecDepth 100000
set_option linter.unusedVariables false
open Go.RowKit
theorem info_part:(Try.prog.info? 52).map (fun i=>(i.zero,i.size,i.bytes))=some (some (.agg #[.int .i64 0,.slice none 0 0]),2,32):=by kernel_rfl
def ptC (t:List Int):List Value:=t.flatMap (fun x=>[.int .i64 x,.slice none 0 0])
theorem ptC_snoc (t:List Int) (x:Int):ptC (t ++ [x])=ptC t ++ [.int .i64 x,.slice none 0 0]:=by simp [ptC]
theorem ptC_get:∀ {t:List Int} {j:Nat} (h:j<t.length),(ptC t)[j * 2]? = some (.int .i64 t[j])∧(ptC t)[j * 2+1]? = some (.slice none 0 0)
 | x :: r,0,_=>⟨rfl,rfl⟩
 | x :: r,j+1,h=>by
  have ih:=ptC_get (t:=r) (j:=j) (by simpa using h)
  have e:(j+1) * 2=j * 2+2:=by omega
  rw [e]
  simp only [ptC,List.flatMap_cons,List.cons_append,List.nil_append,List.getElem?_cons_succ,List.getElem_cons_succ] at ih ⊢
  exact ih
abbrev PRw (base:Nat) (w:World) (v:Value) (t:List Int):Prop:=w.ownsRow base 52 2 v t.length (ptC t)
theorem PRw.pa {base:Nat} {w:World} {go:Option Addr} {n gc:Nat} {t:List Int} (h:PRw base w (.slice go n gc) t):PaAt w go (partsT t):=by
 rcases h.2 with ⟨e,h0⟩ | ⟨g,cap,cur,e,hb,hg,hle,hm,hsz,ht⟩
 ·have:t=[]:=List.length_eq_zero_iff.1 h0
  subst this
  exact .inl rfl
 ·simp only [Value.slice.injEq] at e
  obtain ⟨rfl,rfl,rfl⟩:=e
  refine .inr ⟨g,0,rfl,lt_of_at hg,fun j hj=>?_⟩
  have hj' : j<t.length:=by simpa [partsT] using hj
  have c:∀ o u,(ptC t)[o]? = some u→w.cell? ⟨g,o,none⟩=some u:=fun o u hu=>by
   rw [← ht,List.getElem?_take] at hu
   split at hu
   ·rw [cellAt hg];simpa using hu
   ·cases hu
  have q:=ptC_get hj'
  exact ⟨none,0,by simpa [partsT] using c _ _ q.1,by simpa [partsT] using c _ _ q.2,.inl (by simp [partsT]),by simp [partsT,maxLen]⟩
theorem PRw.shape {base:Nat} {w:World} {v:Value} {t:List Int} (h:PRw base w v t):∃ go gc,v=.slice go t.length gc:=row_shape h
theorem wpList_pt {w0:World} {ops:Array Oper} {rest:List Oper} {o:Oper} {a:Act} {Q:Exit→Act→World→Prop} (hgd:o.guard=none) (s x:Operand)
  (ho:o.op=.call { callee:=.builtin .append,args:=#[s,x],argTypes:=#[50,50] })
  (base:Nat) (t:List Int) (v:Value) (hs:a.eval s=v) (hr:PRw base w0 v t) (y:Int) (hx:a.eval x=.slice (some ⟨w0.heap.size,0,none⟩) 1 1) (hb:base≤w0.heap.size) (hsz:(t.length+1) * 32≤140737488355328)
  (h:∀ g cap w', PRw base w' (.slice (some ⟨g,0,none⟩) (t.length+1) cap) (t ++ [y])→Kept (fun k=>v.ownBlock=some k) w0 w' → wpList Try.prog ops Q rest (a.put o.dst (.slice (some ⟨g,0,none⟩) (t.length+1) cap)) w') :
  wpList Try.prog ops Q (o :: rest) a (w0.alloc (.cells #[.int .i64 y,.slice none 0 0] 52)):=by
 obtain ⟨i,hi,hz0,hz1,hz2⟩:=info_parts info_part
 refine wpList_append_lies _ hgd s x 50 ho base 52 i _ 2 32 Try.underlying50 hi hz0 hz1 hz2 rfl (by decide) v t.length (ptC t) hs (hr.alloc _) ⟨w0.heap.size,0,none⟩ 1 1 [.int .i64 y,.slice none 0 0] hx rfl (World.news_of_block (cs:=#[.int .i64 y,.slice none 0 0]) (t:=52) (fr:=(0,0)) (heap_alloc_new w0 _)) (by intro u hu;simp at hu;rcases hu with rfl | rfl <;> rfl) (by omega) (by unfold maxLen;omega) (by omega) (by simp;omega) (w0.heap.size+1) (by simp) ?_
 intro g cap w' hown hgrow hat hlt
 refine h g cap w' ?_ ?_
 ·unfold PRw;rw [ptC_snoc,List.length_append];exact hown
 ·exact Kept.grown (Kept.alloc (Kept.refl _ w0) _) hgrow (fun _ e _=>e)
theorem rt_two {X:World} {go:Option Addr} {gc b1 b2:Nat} {t:List Int} (hp:PaAt X go (partsT t)) (hl:t.length≤4398046511104) (h1:X.heap[b1]? = some (.cells #[.int .i64 (-1),.slice none 0 0] 52 (0,0))) (h2:X.heap[b2]? = some (.cells #[.slice go t.length gc,.slice (some ⟨b1,0,none⟩) 1 1] 50 (0,0))):RtAt X (some ⟨b2,0,none⟩) [partsT t,[(-1,[])]]:=by
 refine .inr ⟨b2,0,rfl,lt_of_at h2,fun i hi=>?_⟩
 have hi' : i<2:=hi
 match i,hi' with
 | 0,_=>exact ⟨go,gc,by have:=cellAt h2 0;simpa [partsT] using this,hp,by simpa [partsT] using hl⟩
 | 1,_=>
  refine ⟨some ⟨b1,0,none⟩,1,cellAt h2 1,.inr ⟨b1,0,rfl,lt_of_at h1,fun j hj=>?_⟩,show (1:Nat)≤4398046511104 by decide⟩
  have hj' : j<1:=hj
  obtain rfl:j=0:=by omega
  exact ⟨none,0,cellAt h1 0,cellAt h1 1,.inl rfl,show (0:Nat)≤maxLen by decide⟩
end Go.Proofs.Ytpimndkhoalaeaa
namespace Go.Proofs.Ytpimndkhoalaeaa
set_option linter.unusedVariables false
inductive Rdn (N:List Nd):List Int→List Int→Prop
 | nil:Rdn N [] []
 | cons {a:Nat} {s:Int} {xs S out:List Int}:N[a]? = some (s,xs,0,false,0)→Rdn N (xs++S) out→Rdn N ((a:Int) :: S) (s :: out)
theorem Rdn.more {N:List Nd} {S out:List Int} (h:Rdn N S out) (M:List Nd):Rdn (N++M) S out:=by
 induction h with
 | nil=>exact .nil
 | cons h1 _ ih=>exact .cons (by rw [List.getElem?_append_left (List.getElem?_eq_some_iff.1 h1).1];exact h1) ih
theorem Rdn.top {N:List Nd} {a:Int} {S out:List Int} (h:Rdn N (a :: S) out):∃ (n:Nat) (hn:n<N.length) (o:List Int),a=(n:Int)∧N[n].2.2.2.1=false∧out=N[n].1 :: o∧Rdn N (N[n].2.1++S) o:=by
 cases h with
 | @cons n s xs _ o h1 h2=>
  obtain ⟨hn,e⟩:=List.getElem?_eq_some_iff.1 h1
  exact ⟨n,hn,o,rfl,by rw [e],by rw [e],by rw [e];exact h2⟩
end Go.Proofs.Ytpimndkhoalaeaa
namespace Go.Proofs.Ytpimndkhoalaeaa
set_option maxRecDepth 100000
set_option linter.unusedVariables false
open Go.RowKit
theorem Arg.onto {w w' : World} {ao:Option Addr} {xs:List Int} {cap:Nat} (h:Arg w ao xs cap) (hk:Same0 w w'):Arg w' ao xs cap:=⟨h.at'.same hk,h.cap', h.nil,h.size⟩
theorem IntsAt.lt {w:World} {ao:Option Addr} {xs:List Int} (h:IntsAt w ao xs) (h0:xs≠[]) {a:Addr} (e:ao=some a):a.block<w.heap.size:=by
 rcases h with q | ⟨b,off,rfl,hlt,_⟩
 ·exact absurd q h0
 ·cases e;exact hlt
def NsW (w:World) (ao:Option Addr) (l:List Nd):Prop:=l=[]∨∃ nb noff,ao=some ⟨nb,noff,none⟩∧nb<w.heap.size∧∀ j (hj:j<l.length),∃ xo xc,w.cell? ⟨nb,noff+j * 5,none⟩=some (.int .i64 l[j].1)∧w.cell? ⟨nb,noff+j * 5+1,none⟩=some (.slice xo l[j].2.1.length xc)∧w.cell? ⟨nb,noff+j * 5+2,none⟩=some (.int .i64 l[j].2.2.1)∧w.cell? ⟨nb,noff+j * 5+3,none⟩=some (.bool l[j].2.2.2.1)∧w.cell? ⟨nb,noff+j * 5+4,none⟩=some (.int .i64 l[j].2.2.2.2)∧Arg w xo l[j].2.1 xc
theorem NsM.weak {B:Nat→Prop} {w:World} {ao:Option Addr} {l:List Nd} (h:NsM B w ao l):NsW w ao l:=by
 refine h.imp id ?_
 rintro ⟨b,off,rfl,hlt,hc⟩
 refine ⟨b,off,rfl,hlt,fun j hj=>?_⟩
 obtain ⟨xo,xc,n0,n1,n2,n3,n4,n5, -⟩:=hc j hj
 exact ⟨xo,xc,n0,n1,n2,n3,n4,n5.1⟩
theorem NsW.same {w w' : World} {ao:Option Addr} {l:List Nd} (h:NsW w ao l) (hk:Same0 w w'):NsW w' ao l:=by
 refine h.imp id ?_
 rintro ⟨nb,noff,rfl,hlt,hc⟩
 have t:∀ o,w'.cell? ⟨nb,o,none⟩=w.cell? ⟨nb,o,none⟩:=fun o=>hk.cell (p:=⟨nb,o,none⟩) hlt (fun f=>f)
 refine ⟨nb,noff,rfl,Nat.lt_of_lt_of_le hlt hk.size,fun j hj=>?_⟩
 obtain ⟨xo,xc,n0,n1,n2,n3,n4,n5⟩:=hc j hj
 exact ⟨xo,xc,(t _).trans n0,(t _).trans n1,(t _).trans n2,(t _).trans n3,(t _).trans n4,⟨n5.at'.same hk,n5.cap', n5.nil,n5.size⟩⟩
def NsV (P:Nat→Prop) (w:World) (ao:Option Addr) (l:List Nd):Prop:=l=[]∨∃ nb noff,ao=some ⟨nb,noff,none⟩∧nb<w.heap.size∧P nb∧∀ j (hj:j<l.length),∃ xo xc,w.cell? ⟨nb,noff+j * 5,none⟩=some (.int .i64 l[j].1)∧w.cell? ⟨nb,noff+j * 5+1,none⟩=some (.slice xo l[j].2.1.length xc)∧w.cell? ⟨nb,noff+j * 5+2,none⟩=some (.int .i64 l[j].2.2.1)∧w.cell? ⟨nb,noff+j * 5+3,none⟩=some (.bool l[j].2.2.2.1)∧w.cell? ⟨nb,noff+j * 5+4,none⟩=some (.int .i64 l[j].2.2.2.2)∧Arg w xo l[j].2.1 xc∧(l[j].2.1≠[]→∀ a,xo=some a→P a.block)
theorem NsV.weak {P:Nat→Prop} {w:World} {ao:Option Addr} {l:List Nd} (h:NsV P w ao l):NsW w ao l:=by
 refine h.imp id ?_
 rintro ⟨b,off,rfl,hlt,_,hc⟩
 refine ⟨b,off,rfl,hlt,fun j hj=>?_⟩
 obtain ⟨xo,xc,n0,n1,n2,n3,n4,n5, -⟩:=hc j hj
 exact ⟨xo,xc,n0,n1,n2,n3,n4,n5⟩
theorem NsW.below {w:World} {ao:Option Addr} {l:List Nd} (h:NsW w ao l):NsV (fun b=>b<w.heap.size) w ao l:=by
 refine h.imp id ?_
 rintro ⟨b,off,rfl,hlt,hc⟩
 refine ⟨b,off,rfl,hlt,hlt,fun j hj=>?_⟩
 obtain ⟨xo,xc,n0,n1,n2,n3,n4,n5⟩:=hc j hj
 exact ⟨xo,xc,n0,n1,n2,n3,n4,n5,fun h0 a e=>n5.at'.lt h0 e⟩
theorem NsV.mono {P Q:Nat→Prop} {w:World} {ao:Option Addr} {l:List Nd} (h:NsV P w ao l) (hq:∀ b,P b→Q b):NsV Q w ao l:=by
 refine h.imp id ?_
 rintro ⟨b,off,rfl,hlt,hp,hc⟩
 refine ⟨b,off,rfl,hlt,hq _ hp,fun j hj=>?_⟩
 obtain ⟨xo,xc,n0,n1,n2,n3,n4,n5,n6⟩:=hc j hj
 exact ⟨xo,xc,n0,n1,n2,n3,n4,n5,fun h0 a e=>hq _ (n6 h0 a e)⟩
theorem NsV.kept {P S:Nat→Prop} {w w' : World} {ao:Option Addr} {l:List Nd} (h:NsV P w ao l) (hk:Kept S w w') (hS:∀ b,P b→¬ S b):NsV P w' ao l:=by
 refine h.imp id ?_
 rintro ⟨nb,noff,rfl,hlt,hp,hc⟩
 have t:∀ o,w'.cell? ⟨nb,o,none⟩=w.cell? ⟨nb,o,none⟩:=fun o=>hk.cell (p:=⟨nb,o,none⟩) hlt (hS _ hp)
 refine ⟨nb,noff,rfl,Nat.lt_of_lt_of_le hlt hk.size,hp,fun j hj=>?_⟩
 obtain ⟨xo,xc,n0,n1,n2,n3,n4,n5,n6⟩:=hc j hj
 refine ⟨xo,xc,(t _).trans n0,(t _).trans n1,(t _).trans n2,(t _).trans n3,(t _).trans n4,⟨?_,n5.cap', n5.nil,n5.size⟩,n6⟩
 by_cases e:l[j].2.1=[]
 ·exact .inl e
 ·exact n5.at'.kept hk (fun a q=>hS _ (n6 e a q))
theorem NsV.same {P:Nat→Prop} {w w' : World} {ao:Option Addr} {l:List Nd} (h:NsV P w ao l) (hk:Same0 w w'):NsV P w' ao l:=h.kept hk (fun _ _ f=>f)
theorem NsM.apart {B:Nat→Prop} {w:World} {ao:Option Addr} {l:List Nd} {g:Nat} (h:NsM B w ao l) (hap:l≠[]→∀ a,ao=some a→a.block≠g) (hg:NotI w g):NsV (fun b=>b≠g) w ao l:=by
 rcases h with e | ⟨b,off,rfl,hlt,hc⟩
 ·exact .inl e
 ·by_cases e:l=[]
  ·exact .inl e
  refine .inr ⟨b,off,rfl,hlt,hap e _ rfl,fun j hj=>?_⟩
  obtain ⟨xo,xc,n0,n1,n2,n3,n4,n5, -⟩:=hc j hj
  refine ⟨xo,xc,n0,n1,n2,n3,n4,n5.1,fun _ a q t=>?_⟩
  obtain ⟨cur,hcur⟩:=n5.2 a q
  rw [t] at hcur
  exact hg cur hcur
theorem HpB.notg {B:Nat→Prop} {w:World} {h g room:Nat} {l:List Nd} (p:HpB B w h g room l):NotI w g:=fun cur hc=>by
 obtain ⟨cs,h1,_⟩:=p.blk
 rw [h1] at hc
 cases hc
end Go.Proofs.Ytpimndkhoalaeaa
namespace Go.Proofs.Ytpimndkhoalaeaa
set_option maxRecDepth 100000
set_option linter.unusedVariables false
open Go.RowKit
attribute [local go_sem ↓] Go.wp_at_zero Go.wp_at_succ
end Go.Proofs.Ytpimndkhoalaeaa
namespace Go.Proofs.Ytpimndkhoalaeaa
set_option linter.unusedVariables false
open Go.RowKit
end Go.Proofs.Ytpimndkhoalaeaa
namespace Go.Proofs.Ytpimndkhoalaeaa
set_option maxRecDepth 100000
set_option linter.unusedVariables false
open Go.RowKit
attribute [local go_sem ↓] Go.wp_at_zero Go.wp_at_succ
theorem Row.argS {base:Nat} {w:World} {v:Value} {xs:List Int} (h:Row base w v xs) (hl:xs.length * 8≤140737488351232):∃ ao ac,v=.slice ao xs.length ac∧ArgT w ao xs ac∧∀ a,ao=some a→base≤a.block:=by
 obtain ⟨ao,ac,e,h1,h2,h3⟩:=h.ints
 rcases h.2 with ⟨e2,h0⟩ | ⟨g,cap,cur,e2,hb,hg,hle,_⟩
 ·rw [e] at e2
  simp only [Value.slice.injEq] at e2
  obtain ⟨rfl,_,rfl⟩:=e2
  exact ⟨none,0,e,⟨⟨h1,by omega,fun _=>⟨h0,rfl⟩,by omega⟩,fun a e=>by cases e⟩,fun a e=>by cases e⟩
 ·rw [e] at e2
  simp only [Value.slice.injEq] at e2
  obtain ⟨rfl,_,rfl⟩:=e2
  exact ⟨_,ac,e,⟨⟨h1,hle,(fun e=>by cases e),by omega⟩,fun a e=>by cases e;exact ⟨cur,hg⟩⟩,fun a e=>by cases e;exact hb⟩
structure RhB (B:Nat→Prop) (w:World) (r room:Nat) (v:Value) (l:List Nd):Prop where
 box:w.heap[r]? = some (.cells #[.int .i64 (room:Int),v] 46 (0,0))
 row:NRow B 0 w v l
 rm1:1≤room
 rm2:room≤4000
 le:l.length≤room
 may:∀ x∈l,mayB l.length x=true
 ac:Ac l
theorem RhB.lt {B:Nat→Prop} {w:World} {r room:Nat} {v:Value} {l:List Nd} (p:RhB B w r room v l):r<w.heap.size:=lt_of_at p.box
theorem RhB.noti {B:Nat→Prop} {w:World} {r room:Nat} {v:Value} {l:List Nd} (p:RhB B w r room v l):NotI w r:=fun cur h=>by rw [p.box] at h;cases h
theorem RhB.inl {B:Nat→Prop} {w:World} {r room:Nat} {v:Value} {l:List Nd} (p:RhB B w r room v l):InL l:=inl_of_may p.may
theorem RhB.cells {B:Nat→Prop} {w:World} {r room:Nat} {v:Value} {l:List Nd} (p:RhB B w r room v l):w.cell? ⟨r,0,none⟩=some (.int .i64 (room:Int))∧w.cell? ⟨r,1,none⟩=some v:=⟨cellAt p.box 0,cellAt p.box 1⟩
theorem RhB.kept {B S:Nat→Prop} {w w' : World} {r room:Nat} {v:Value} {l:List Nd} (p:RhB B w r room v l) (hk:Kept S w w') (n1:¬ S r) (n2:∀ k,v.ownBlock=some k→¬ S k) (hS:∀ k,B k→S k→NotI w k):RhB B w' r room v l:=
 ⟨hk.at p.box n1,p.row.kept hk n2 hS,p.rm1,p.rm2,p.le,p.may,p.ac⟩
theorem RhB.same {B:Nat→Prop} {w w' : World} {r room:Nat} {v:Value} {l:List Nd} (p:RhB B w r room v l) (hk:Same0 w w'):RhB B w' r room v l:=p.kept hk (fun f=>f) (fun _ _ f=>f) (fun _ _ f=>f.elim)
theorem RhB.mem {B:Nat→Prop} {w:World} {r room:Nat} {v:Value} {l:List Nd} (p:RhB B w r room v l):∃ ao cap,v=.slice ao l.length cap∧NsM B w ao l:=by
 obtain ⟨ao,cap,rfl⟩:=p.row.shape
 exact ⟨ao,cap,rfl,p.row.mem⟩
def Mk (s:List Bool) (i:Nat):Prop:=s[i]? = some true
theorem Mk.set {s:List Bool} {k:Nat} (h:k<s.length) (i:Nat):Mk (s.set k true) i ↔ Mk s i∨i=k:=by
 unfold Mk
 rw [List.getElem?_set]
 by_cases e:k=i
 ·subst e;simp [h]
 ·rw [if_neg e];constructor
  ·exact .inl
  ·rintro (q | q)
   ·exact q
   ·exact absurd q.symm e
theorem count_set {s:List Bool} {k:Nat} (h:s[k]? = some false):(s.set k true).count false+1=s.count false:=by
 obtain ⟨hk,hv⟩:=List.getElem?_eq_some_iff.1 h
 have hc:0<s.count false:=List.count_pos_iff.2 (hv ▸ List.getElem_mem hk)
 rw [List.count_set hk]
 simp [hv]
 omega
def Pass (l:List Nd) (s0:List Bool) (C k:Nat) (again:Bool) (s:List Bool):Prop:=
 (again=false∧s=s0∧∀ j,j<k→(∀ m,Ed l j m→Mk s0 m)→Mk s0 j)∨(again=true∧s.count false<C)
theorem Pass.still {l:List Nd} {s0 s:List Bool} {C k:Nat} {ag:Bool} (h:Pass l s0 C k ag s) (hk:(∀ m,Ed l k m→Mk s m)→Mk s k):Pass l s0 C (k+1) ag s:=by
 rcases h with ⟨h1,h2,h3⟩ | h
 ·refine .inl ⟨h1,h2,fun j hj=>?_⟩
  by_cases e:j=k
  ·subst e;subst h2;exact hk
  ·exact h3 j (by omega)
 ·exact .inr h
theorem Pass.le {l:List Nd} {s0 s:List Bool} {C k:Nat} {ag:Bool} (h:Pass l s0 C k ag s) (hC:C=s0.count false):s.count false≤C:=by
 rcases h with ⟨_,h2,_⟩ | h
 ·rw [h2,hC];exact Nat.le_refl _
 ·omega
theorem Pass.set {l:List Nd} {s0 s:List Bool} {C k k' i:Nat} {ag:Bool} (h:Pass l s0 C k ag s) (hC:C=s0.count false) (hi:s[i]? = some false):Pass l s0 C k' true (s.set i true):=by
 have h1:=h.le hC
 have h2:=count_set hi
 exact .inr ⟨rfl,by omega⟩
end Go.Proofs.Ytpimndkhoalaeaa
namespace Go.Proofs.Ytpimndkhoalaeaa
set_option linter.unusedVariables false
def dnL (l:List Nd) (a:Nat):List Int:=match l[a]? with
 | some x=>downL x
 | none=>[]
theorem dnL_at {l:List Nd} {a:Nat} (h:a<l.length):dnL l a=downL l[a]:=by simp [dnL,h]
theorem ed_iff {l:List Nd} {a b:Nat}:Ed l a b ↔ a<l.length∧(b:Int)∈dnL l a:=by
 constructor
 ·rintro ⟨h,hm⟩;exact ⟨h,by rw [dnL_at h];exact hm⟩
 ·rintro ⟨h,hm⟩;exact ⟨h,by rw [dnL_at h] at hm;exact hm⟩
def sumC (R:Nat→List Int) (b:Nat):Nat→Nat
 | 0=>0
 | n+1=>sumC R b n+(R n).count (b:Int)
theorem sumC_congr {R R' : Nat→List Int} {b:Nat}:∀ {n:Nat},(∀ a,a<n→(R a).count (b:Int)=(R' a).count (b:Int))→sumC R b n=sumC R' b n
 | 0,_=>rfl
 | n+1,h=>by
  unfold sumC
  rw [sumC_congr (fun a ha=>h a (by omega)),h n (by omega)]
theorem sumC_zero {R:Nat→List Int} {b:Nat}:∀ {n:Nat},sumC R b n=0→∀ a,a<n→(b:Int) ∉ R a
 | 0,_,a,ha=>absurd ha (Nat.not_lt_zero _)
 | n+1,h,a,ha=>by
  unfold sumC at h
  by_cases e:a=n
  ·subst e
   exact List.count_eq_zero.1 (by omega)
  ·exact sumC_zero (n:=n) (by omega) a (by omega)
theorem sumC_pos {R:Nat→List Int} {b:Nat}:∀ {n:Nat},sumC R b n≠0→∃ a,a<n∧(b:Int)∈R a
 | 0,h=>absurd rfl h
 | n+1,h=>by
  unfold sumC at h
  by_cases e:sumC R b n=0
  ·exact ⟨n,by omega,List.count_pos_iff.1 (by omega)⟩
  ·obtain ⟨a,h1,h2⟩:=sumC_pos (n:=n) e
   exact ⟨a,by omega,h2⟩
def lose (R:Nat→List Int) (c:Nat) (r:List Int):Nat→List Int:=fun a=>if a=c then r else R a
theorem sumC_lose {R:Nat→List Int} {c:Nat} {z:Int} {r:List Int} (hR:R c=z :: r) (b:Nat):∀ {n:Nat},c<n→sumC R b n=sumC (lose R c r) b n+(if z=(b:Int) then 1 else 0)
 | 0,h=>absurd h (Nat.not_lt_zero _)
 | n+1,h=>by
  unfold sumC
  by_cases e:c=n
  ·subst e
   rw [sumC_congr (R:=R) (R' := lose R c r) (fun a ha=>by unfold lose;rw [if_neg (by omega)])]
   have:lose R c r c=r:=by unfold lose;rw [if_pos rfl]
   rw [this,hR,List.count_cons]
   by_cases q:z=(b:Int)
   ·simp [q];omega
   ·simp [q]
  ·rw [sumC_lose hR b (n:=n) (by omega)]
   have:lose R c r n=R n:=by unfold lose;rw [if_neg (by omega)]
   rw [this]
   omega
theorem nd_snoc {T:List Nat} (h:∀ (p p' b:Nat),p<p' → T[p]? = some b→T[p']? = some b→False) {x:Nat} (hx:x ∉ T):∀ (p p' b:Nat),p<p' → (T ++ [x])[p]? = some b→(T ++ [x])[p']? = some b→False:=by
 intro p p' b hp h1 h2
 have hl:=(List.getElem?_eq_some_iff.1 h2).1
 simp at hl
 rw [List.getElem?_append_left (by omega)] at h1
 by_cases e:p' < T.length
 ·rw [List.getElem?_append_left e] at h2
  exact h p p' b hp h1 h2
 ·have:p' = T.length:=by omega
  subst this
  simp at h2
  subst h2
  exact hx (List.mem_of_getElem? h1)
structure Kh (l:List Nd) (P:Nat→Prop) (R:Nat→List Int) (lead:List Int) (T:List Nat):Prop where
 len:lead.length=l.length
 val:∀ b:Nat,b<l.length→lead[b]? = some ((sumC R b l.length:Nat):Int)
 mem:∀ b:Nat,b∈T ↔ lead[b]? = some 0
 cnt:T.length=lead.count 0
 ord:∀ (p b:Nat),T[p]? = some b→∀ a,Ed l a b→∃ p' : Nat,p' < p∧T[p']? = some a
 rest:∀ a,a<l.length→¬ P a→R a=dnL l a
 begun:∀ a,P a→a∈T
 nd:∀ (p p' b:Nat),p<p' → T[p]? = some b→T[p']? = some b→False
theorem Kh.le {l:List Nd} {P:Nat→Prop} {R:Nat→List Int} {lead:List Int} {T:List Nat} (h:Kh l P R lead T):T.length≤l.length:=by
 rw [h.cnt,← h.len];exact List.count_le_length
theorem Kh.lt {l:List Nd} {P:Nat→Prop} {R:Nat→List Int} {lead:List Int} {T:List Nat} (h:Kh l P R lead T) {b:Nat} (hb:b∈T):b<l.length:=by
 have:=(List.getElem?_eq_some_iff.1 ((h.mem b).1 hb)).1
 rw [h.len] at this;exact this
theorem Kh.more {l:List Nd} {P P' : Nat→Prop} {R:Nat→List Int} {lead:List Int} {T:List Nat} (h:Kh l P R lead T) (h1:∀ a,P a→P' a) (h2:∀ a,P' a→a∈T):Kh l P' R lead T:=
 ⟨h.len,h.val,h.mem,h.cnt,h.ord,fun a ha hn=>h.rest a ha (fun q=>hn (h1 a q)),h2,h.nd⟩
theorem Kh.strike {l:List Nd} {P:Nat→Prop} {R:Nat→List Int} {lead:List Int} {T:List Nat} (h:Kh l P R lead T) {c b:Nat} {r:List Int} (hP:P c) (hR:R c=(b:Int) :: r) (hb:b<l.length) :
  ∃ v:Int,lead[b]? = some v∧1≤v∧((v-1=0∧Kh l P (lose R c r) (lead.set b (v-1)) (T ++ [b]))∨(v-1≠0∧Kh l P (lose R c r) (lead.set b (v-1)) T)):=by
 have hc:c<l.length:=h.lt (h.begun c hP)
 have hv:=h.val b hb
 have hs:=sumC_lose hR b hc
 rw [if_pos rfl] at hs
 have hbl:b<lead.length:=by rw [h.len];exact hb
 have hset:∀ j,(lead.set b ((sumC R b l.length:Nat)-1:Int))[j]? = if j=b then some ((sumC R b l.length:Nat)-1:Int) else lead[j]? := fun j=>by
  rw [List.getElem?_set]
  by_cases e:b=j
  ·subst e;simp [hbl]
  ·rw [if_neg e,if_neg (Ne.symm e)]
 have hval:∀ j,j<l.length→(lead.set b ((sumC R b l.length:Nat)-1:Int))[j]? = some ((sumC (lose R c r) j l.length:Nat):Int):=fun j hj=>by
  rw [hset]
  by_cases e:j=b
  ·subst e;rw [if_pos rfl];congr 1;omega
  ·rw [if_neg e,h.val j hj]
   have:=sumC_lose hR j hc
   rw [if_neg (by omega)] at this
   rw [this];rfl
 have hrest:∀ a,a<l.length→¬ P a→lose R c r a=dnL l a:=fun a ha hn=>by
  have:a≠c:=fun e=>hn (e ▸ hP)
  unfold lose;rw [if_neg this];exact h.rest a ha hn
 have hvb:lead[b]=((sumC R b l.length:Nat):Int):=by
  have:=hv;rw [List.getElem?_eq_getElem hbl] at this;simpa using this
 refine ⟨((sumC R b l.length:Nat):Int),hv,by omega,?_⟩
 have hnT:b ∉ T:=fun q=>by
  have:=(h.mem b).1 q
  rw [hv] at this
  simp at this
  omega
 by_cases e:((sumC R b l.length:Nat):Int)-1=0
 ·refine .inl ⟨e,⟨by simp [h.len],hval,fun j=>?_,?_,?_,hrest,fun a ha=>List.mem_append.2 (.inl (h.begun a ha)),nd_snoc h.nd hnT⟩⟩
  ·rw [hset]
   by_cases q:j=b
   ·subst q;rw [if_pos rfl,e];simp
   ·rw [if_neg q,← h.mem];simp [q]
  ·rw [List.count_set hbl,List.length_append,h.cnt,hvb,e]
   have:((((sumC R b l.length:Nat):Int)) == 0)=false:=by simp;omega
   rw [this]
   simp
  ·intro p x hp a ea
   by_cases q:p<T.length
   ·rw [List.getElem?_append_left q] at hp
    obtain ⟨p', h1,h2⟩:=h.ord p x hp a ea
    exact ⟨p', h1,by rw [List.getElem?_append_left (by omega)];exact h2⟩
   ·have hpe:p=T.length:=by
     have:=(List.getElem?_eq_some_iff.1 hp).1
     simp at this;omega
    subst hpe
    simp at hp
    subst hp
    have hz:sumC (lose R c r) b l.length=0:=by omega
    obtain ⟨ha,hm⟩:=ed_iff.1 ea
    have hPa:P a:=by
     by_cases q:P a
     ·exact q
     ·exact absurd (by rw [hrest a ha q];exact hm) (sumC_zero hz a ha)
    obtain ⟨p', hp', hx⟩:=List.mem_iff_getElem.1 (h.begun a hPa)
    exact ⟨p', hp', by rw [List.getElem?_append_left hp', List.getElem?_eq_getElem hp', hx]⟩
 ·refine .inr ⟨e,⟨by simp [h.len],hval,fun j=>?_,?_,h.ord,hrest,h.begun,h.nd⟩⟩
  ·rw [hset]
   by_cases q:j=b
   ·subst q;rw [if_pos rfl];simp [hnT];omega
   ·rw [if_neg q,← h.mem]
  ·rw [List.count_set hbl,h.cnt,hvb]
   have h1:((((sumC R b l.length:Nat):Int)) == 0)=false:=by simp;omega
   have h2:((((sumC R b l.length:Nat):Int))-1 == 0)=false:=by simp;omega
   rw [h1,h2]
   simp
theorem idx_le:∀ (T:List Nat) (p a:Nat),T[p]? = some a→T.idxOf a≤p
 | [],p,a,h=>by simp at h
 | x :: T,0,a,h=>by
  simp at h
  subst h
  simp
 | x :: T,p+1,a,h=>by
  have:=idx_le T p a (by simpa using h)
  rw [List.idxOf_cons]
  cases x == a <;> simp <;> omega
theorem Kh.done {l:List Nd} {P:Nat→Prop} {R:Nat→List Int} {lead:List Int} {T:List Nat} (h:Kh l P R lead T) (hin:InL l) (hR:∀ a,a∈T→R a=[]):T.length<l.length ↔ ¬ Ac l:=by
 constructor
 ·intro hlt hac
  obtain ⟨r,hr⟩:=hac
  -- a node that is left has one above it that is left
  have up:∀ b,b<l.length→b ∉ T→∃ a,a<l.length∧a ∉ T∧r b<r a:=fun b hb hn=>by
   have h1:sumC R b l.length≠0:=fun e=>hn ((h.mem b).2 (by rw [h.val b hb,e];rfl))
   obtain ⟨a,ha,hm⟩:=sumC_pos h1
   have hna:a ∉ T:=fun q=>by rw [hR a q] at hm;cases hm
   refine ⟨a,ha,hna,hr a b (ed_iff.2 ⟨ha,?_⟩)⟩
   rw [← h.rest a ha (fun q=>hna (h.begun a q))];exact hm
  have top:∀ n,∃ M,∀ i,i<n→r i≤M:=fun n=>by
   induction n with
   | zero=>exact ⟨0,fun i h=>absurd h (Nat.not_lt_zero _)⟩
   | succ n ih=>
    obtain ⟨M,hM⟩:=ih
    refine ⟨max M (r n),fun i hi=>?_⟩
    by_cases e:i=n
    ·subst e;omega
    ·have:=hM i (by omega);omega
  obtain ⟨M,hM⟩:=top l.length
  have no:∀ n b,M-r b<n→b<l.length→b ∉ T→False:=fun n=>by
   induction n with
   | zero=>intro b h;omega
   | succ n ih=>
    intro b hb hl hn
    obtain ⟨a,ha,hna,hra⟩:=up b hl hn
    have:=hM a ha
    exact ih a (by omega) ha hna
  have:∃ b,b<l.length∧b ∉ T:=by
   by_cases q:∃ b,b<l.length∧b ∉ T
   ·exact q
   ·exfalso
    have hall:∀ x∈lead,x=0:=fun x hx=>by
     obtain ⟨b,hb,rfl⟩:=List.mem_iff_getElem.1 hx
     have hb' : b<l.length:=by rw [← h.len];exact hb
     have hm:b∈T:=by
      by_cases q' : b∈T
      ·exact q'
      ·exact absurd ⟨b,hb', q'⟩ q
     have:=(h.mem b).1 hm
     rw [List.getElem?_eq_getElem hb] at this
     simpa using this
    have:lead.count 0=lead.length:=List.count_eq_length.2 (fun b hb=>(hall b hb).symm)
    have h1:=h.cnt
    have h2:=h.len
    omega
  obtain ⟨b,hb,hn⟩:=this
  exact no (M-r b+1) b (by omega) hb hn
 ·intro hac
  by_cases e:T.length<l.length
  ·exact e
  ·exfalso
   apply hac
   have hle:=h.le
   have hcl:lead.count 0=lead.length:=by have h1:=h.cnt;have h2:=h.len;omega
   have hall:∀ b,b<l.length→b∈T:=fun b hb=>by
    have hb' : b<lead.length:=by rw [h.len];exact hb
    have:=List.count_eq_length.1 hcl lead[b] (List.getElem_mem hb')
    exact (h.mem b).2 (by rw [List.getElem?_eq_getElem hb', ← this])
   refine ⟨fun x=>T.length-T.idxOf x,fun a b ea=>?_⟩
   have hb:b<l.length:=by
    have:=(hin a ea.1 _ ea.2).2
    omega
   have hbT:=hall b hb
   have hi:=List.idxOf_lt_length_of_mem hbT
   have hT:T[T.idxOf b]? = some b:=by rw [List.getElem?_eq_getElem hi,List.getElem_idxOf hi]
   obtain ⟨p', h1,h2⟩:=h.ord _ b hT a ea
   have h3:T.idxOf a≤p' := idx_le T p' a h2
   show T.length-T.idxOf b<T.length-T.idxOf a
   omega
def Ld (l:List Nd) (k q:Nat) (lead:List Int):Prop:=lead.length=l.length∧∀ b:Nat,b<l.length→lead[b]? = some (((sumC (dnL l) b k+((dnL l k).take q).count (b:Int):Nat)):Int)
theorem Ld.start (l:List Nd):Ld l 0 0 (List.replicate l.length 0):=⟨by simp,fun b hb=>by simp [hb,sumC]⟩
theorem Ld.next {l:List Nd} {k:Nat} {lead:List Int} (h:Ld l k (dnL l k).length lead):Ld l (k+1) 0 lead:=⟨h.1,fun b hb=>by
 rw [h.2 b hb]
 simp [sumC]⟩
theorem Ld.one {l:List Nd} {k q b:Nat} {lead:List Int} (h:Ld l k q lead) (hq:q<(dnL l k).length) (hz:(dnL l k)[q]=(b:Int)) (hb:b<l.length):∃ v:Int,lead[b]? = some v∧0≤v∧Ld l k (q+1) (lead.set b (v+1)):=by
 refine ⟨_,h.2 b hb,by omega,by simp [h.1],fun j hj=>?_⟩
 have hl:b<lead.length:=by rw [h.1];exact hb
 rw [List.getElem?_set,List.take_succ_eq_append_getElem hq,List.count_append,hz]
 by_cases e:b=j
 ·subst e
  rw [if_pos rfl,if_pos hl]
  simp
  omega
 ·rw [if_neg e,h.2 j hj]
  have:(b:Int)≠(j:Int):=by omega
  simp [this]
theorem Ld.bound {l:List Nd} {k q:Nat} {lead:List Int} (h:Ld l k q lead) (few:∀ x∈l,x.2.1.length≤6) (hk:k≤l.length):∀ (b:Nat) (v:Int),lead[b]? = some v→v≤6 * (l.length:Int)+6:=by
 intro b v hv
 have hb:b<l.length:=by have:=(List.getElem?_eq_some_iff.1 hv).1;rw [h.1] at this;exact this
 rw [h.2 b hb] at hv
 have hd:∀ a,(dnL l a).length≤6:=fun a=>by
  unfold dnL
  split
  ·rename_i x hx
   have:=few x (List.mem_of_getElem? hx)
   unfold downL
   split
   ·simp
   ·exact this
  ·simp
 have hs:∀ n,sumC (dnL l) b n≤6 * n:=fun n=>by
  induction n with
  | zero=>simp [sumC]
  | succ n ih=>
   have h1:=List.count_le_length (a:=(b:Int)) (l:=dnL l n)
   have h2:=hd n
   unfold sumC
   omega
 have h1:=hs k
 have h2:=List.count_le_length (a:=(b:Int)) (l:=(dnL l k).take q)
 have h3:=hd k
 have h4:((dnL l k).take q).length≤6:=by simp;omega
 simp only [Option.some.injEq] at hv
 omega
def Zr (lead:List Int) (k:Nat) (T:List Nat):Prop:=(∀ b:Nat,b∈T ↔ b<k∧lead[b]? = some 0)∧T.length=(lead.take k).count 0∧∀ (p p' b:Nat),p<p' → T[p]? = some b→T[p']? = some b→False
theorem Zr.start (lead:List Int):Zr lead 0 []:=⟨fun b=>by simp,by simp,fun p p' b _ h=>by simp at h⟩
theorem Zr.yes {lead:List Int} {k:Nat} {T:List Nat} (h:Zr lead k T) (hk:lead[k]? = some 0):Zr lead (k+1) (T ++ [k]):=by
 obtain ⟨hl,hv⟩:=List.getElem?_eq_some_iff.1 hk
 refine ⟨fun b=>?_,?_,nd_snoc h.2.2 (fun q=>by have:=((h.1 k).1 q).1;omega)⟩
 ·rw [List.mem_append,h.1]
  simp
  constructor
  ·rintro (⟨q1,q2⟩ | rfl)
   ·exact ⟨by omega,q2⟩
   ·exact ⟨by omega,hk⟩
  ·rintro ⟨q1,q2⟩
   by_cases e:b=k
   ·exact .inr e
   ·exact .inl ⟨by omega,q2⟩
 ·rw [List.take_succ_eq_append_getElem hl,List.count_append,List.length_append,h.2.1,hv]
  simp
theorem Zr.no {lead:List Int} {k:Nat} {T:List Nat} (h:Zr lead k T) (hl:k<lead.length) (hk:lead[k]≠0):Zr lead (k+1) T:=by
 refine ⟨fun b=>?_,?_,h.2.2⟩
 ·rw [h.1]
  constructor
  ·rintro ⟨q1,q2⟩;exact ⟨by omega,q2⟩
  ·rintro ⟨q1,q2⟩
   refine ⟨?_,q2⟩
   by_cases e:b=k
   ·subst e;rw [List.getElem?_eq_getElem hl] at q2;simp at q2;exact absurd q2 hk
   ·omega
 ·rw [List.take_succ_eq_append_getElem hl,List.count_append,h.2.1]
  simp [hk]
theorem Zr.le {lead:List Int} {k:Nat} {T:List Nat} (h:Zr lead k T):T.length≤k:=by
 rw [h.2.1]
 have:=List.count_le_length (a:=(0:Int)) (l:=lead.take k)
 simp at this;omega
theorem Kh.start {l:List Nd} {lead:List Int} {T:List Nat} (h1:Ld l l.length 0 lead) (h2:Zr lead l.length T):Kh l (fun _=>False) (dnL l) lead T:=by
 have hv:∀ b,b<l.length→lead[b]? = some ((sumC (dnL l) b l.length:Nat):Int):=fun b hb=>by
  rw [h1.2 b hb];simp
 have hm:∀ b,b∈T ↔ lead[b]? = some 0:=fun b=>by
  rw [h2.1]
  exact ⟨fun q=>q.2,fun q=>⟨by have:=(List.getElem?_eq_some_iff.1 q).1;rw [h1.1] at this;exact this,q⟩⟩
 refine ⟨h1.1,hv,hm,?_,?_,fun a _ _=>rfl,fun a f=>f.elim,h2.2.2⟩
 ·rw [h2.2.1,List.take_of_length_le (by rw [h1.1];exact Nat.le_refl _)]
 ·intro p b hp a ea
  exfalso
  have hb:=(hm b).1 (List.mem_of_getElem? hp)
  have hbl:b<l.length:=by have:=(List.getElem?_eq_some_iff.1 hb).1;rw [h1.1] at this;exact this
  rw [hv b hbl] at hb
  have hz:sumC (dnL l) b l.length=0:=by simpa using hb
  obtain ⟨ha,hme⟩:=ed_iff.1 ea
  exact sumC_zero hz a ha hme
end Go.Proofs.Ytpimndkhoalaeaa
namespace Go.Proofs.Ytpimndkhoalaeaa
set_option maxRecDepth 100000
set_option linter.unusedVariables false
open Go.RowKit
attribute [local go_sem ↓] Go.wp_at_zero Go.wp_at_succ
theorem iv_set (xs:List Int) (k:Nat) (z:Int):iv (xs.set k z)=(iv xs).set k (.int .i64 z):=by simp [iv,List.map_set]
abbrev LdAt (wr:World) (lb N:Nat) (lead:List Int):Prop:=wr.ownsRow lb 3 1 (.slice (some ⟨lb,0,none⟩) N N) N (iv lead)
theorem LdAt.put {w wr:World} {lb N:Nat} {lead:List Int} (h:LdAt wr lb N lead) (hw:Same0 w wr) (hlo:w.heap.size≤lb) (b:Nat) (z:Int):LdAt (wr.setCell ⟨lb,b,none⟩ (.int .i64 z)) lb N (lead.set b z)∧Same0 w (wr.setCell ⟨lb,b,none⟩ (.int .i64 z))∧Kept (fun k=>k=lb) wr (wr.setCell ⟨lb,b,none⟩ (.int .i64 z)):=
 ⟨by unfold LdAt;rw [iv_set];exact (h.stored b _).1,hw.own hlo _,Kept.setCell (S:=fun k=>k=lb) (Kept.refl _ _) (p:=⟨lb,b,none⟩) (fun _=>rfl) _⟩
def RfE (room:Nat) (l:List Nd) (e:Int):Prop:=
 (room<l.length∧e=111)∨(l.length≤room∧l.all (mayB l.length)=false∧e=114)∨(l.length≤room∧l.all (mayB l.length)=true∧¬ Ac l∧e=113)∨(l.length≤room∧l.all (mayB l.length)=true∧Ac l∧e=0)
theorem RfE.uniq {room:Nat} {l:List Nd} {e e' : Int} (h:RfE room l e) (h' : RfE room l e'):e=e' := by
 rcases h with ⟨a,b⟩ | ⟨a,b,c⟩ | ⟨a,b,c,d⟩ | ⟨a,b,c,d⟩ <;> rcases h' with ⟨a', b'⟩ | ⟨a', b', c'⟩ | ⟨a', b', c', d'⟩ | ⟨a', b', c', d'⟩ <;> first | omega | exact absurd c' c | exact absurd c c' | (rw [b] at b'; cases b'; done)
theorem NRow.zero {B:Nat→Prop} {base:Nat} {w:World} {v:Value} {l:List Nd} (h:NRow B base w v l):NRow B 0 w v l:=by
 obtain ⟨vs,h1,h2⟩:=h
 exact ⟨vs,row_mono h1 (Nat.zero_le _),h2⟩
theorem NRow.mono {B B' : Nat→Prop} {base:Nat} {w:World} {v:Value} {l:List Nd} (h:NRow B base w v l) (hB:∀ k,k<w.heap.size→B k→B' k):NRow B' base w v l:=by
 obtain ⟨vs,h1,h2⟩:=h
 exact ⟨vs,h1,h2.mono hB⟩
theorem Row.popT {base:Nat} {w:World} {vo:Option Addr} {vc:Nat} {T:List Int} {z:Int} (h:Row base w (.slice vo (T.length+1) vc) (T ++ [z])) :
  ∃ g,vo=some ⟨g,0,none⟩∧base≤g∧g<w.heap.size∧w.cell? ⟨g,T.length,none⟩=some (.int .i64 z)∧Row base w (.slice (some ⟨g,0,none⟩) T.length vc) T∧T.length+1≤vc:=by
 have hi:=h.ints
 obtain ⟨ao,ac,e,h1,h2,h3⟩:=hi
 simp only [Value.slice.injEq] at e
 obtain ⟨rfl,_,rfl⟩:=e
 obtain ⟨b,off,e1,hlt,hc⟩:=h1.get (i:=T.length) (by simp)
 subst e1
 unfold Row at h
 rcases h.2 with ⟨e2,h0⟩ | ⟨g,cap,cur,e2,hb,hg,hle,hm,hsz,ht⟩
 ·cases e2
 ·simp only [Value.slice.injEq,Option.some.injEq,Addr.mk.injEq,and_true] at e2
  obtain ⟨⟨rfl,rfl⟩,e3,rfl⟩:=e2
  refine ⟨b,rfl,hb,hlt,by simpa using hc,?_,by simpa using hle⟩
  unfold Row
  refine ⟨by simp [iv_length],.inr ⟨b,vc,cur,rfl,hb,hg,by simp at hle;omega,hm,hsz,?_⟩⟩
  have:=congrArg (List.take T.length) ht
  rw [List.take_take] at this
  simp [iv] at this
  simpa [iv,Nat.min_eq_left (Nat.le_succ _)] using this
theorem Rdn.bound {N:List Nd} {S out:List Int} (h:Rdn N S out):S.length≤out.length:=by
 induction h with
 | nil=>simp
 | cons _ _ ih=>simp at ih ⊢;omega
theorem eq_enil (w:World):(binOp .eql 35 .nilIface .nilIface).run Try.prog w=.ok (.bool true) w:=by kernel_rfl
end Go.Proofs.Ytpimndkhoalaeaa
