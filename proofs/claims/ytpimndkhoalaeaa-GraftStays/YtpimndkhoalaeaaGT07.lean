import Derived.Test.YtpimndkhoalaeaaGT06
import Derived.Test.YtpimndkhoalaeaaGT02
import Derived.Test.YtpimndkhoalaeaaGT04
import Derived.Test.YtpimndkhoalaeaaGT03
import Derived.Laws.AppendOwnNone
namespace Go.Proofs.Ytpimndkhoalaeaa
set_option maxRecDepth 100000
set_option linter.unusedVariables false
open Go.RowKit
attribute [local go_sem ↓] Go.wp_at_zero Go.wp_at_succ
abbrev gZ:Sym:=⟨⟨#[122]⟩,0,false⟩
abbrev gS:Sym:=⟨⟨#[115]⟩,1,false⟩
abbrev gP:Sym:=⟨⟨#[112]⟩,2,false⟩
abbrev gD:Sym:=⟨⟨#[100]⟩,1,true⟩
theorem ng_z:nameB ⟨#[122]⟩=true:=by decide +kernel
theorem ng_s:nameB ⟨#[115]⟩=true:=by decide +kernel
theorem ng_p:nameB ⟨#[112]⟩=true:=by decide +kernel
theorem ng_d:nameB ⟨#[100]⟩=true:=by decide +kernel
abbrev LG:List Sym:=[gZ,gS,gP,gD]
theorem made_LG:madeL [gZ,gS,gP,gD]=LG:=by
 simp [madeL,addL,addErr,ng_z,ng_s,ng_p,ng_d,findI]
abbrev NG4:List Nd:=[(0,[],0,false,0),(1,[0],0,false,0),(0,[],0,false,0),(2,[2,1],0,false,0)]
abbrev NG5:List Nd:=NG4 ++ [(3,[3],0,false,0)]
abbrev NG7:List Nd:=NG5 ++ [(1,[3],0,false,0),(2,[3,5],0,false,0)]
theorem ld_term:layF [] ([2,0,1,0].map (tgT LG))=(NG4,[3]):=by decide +kernel
theorem ck_term:checkE LG [2,0,1,0]=0:=by decide +kernel
theorem ck_one:checkE LG [1]=23:=by decide +kernel
theorem mk_five:mkE NG4 8 3 [3]=0:=by decide +kernel
abbrev TG:List Tg:=[(true,2,2,0),(false,0,0,3),(true,1,1,0),(false,0,0,3)]
theorem ld_right:layF NG5 TG=(NG7,[6]):=by decide +kernel
theorem ar_four:ArR NG5 4 0 3:=.inl ⟨4,4,3,by decide,by decide,rfl,Res.self (by decide) rfl,by decide,Res.self (by decide) rfl,rfl⟩
abbrev QG:List (Int × List Int):=[(2,[]),(-1,[0]),(1,[]),(-1,[0])]
theorem tg_two:tgT LG 2=(true,2,2,0):=by decide +kernel
theorem tg_one:tgT LG 1=(true,1,1,0):=by decide +kernel
theorem all_right:AllP LG NG5 ((4:Nat):Int) QG TG:=by
 refine ⟨rfl,fun i h h' => ?_⟩
 have hl:i<4:=h
 match i,hl with
 | 0,_=>exact .inl ⟨show (0:Int)≤2 by decide,show (2:Int)<4 by decide,tg_two.symm,rfl⟩
 | 1,_=>exact .inr (.inr (.inr (.inr ⟨rfl,3,⟨3,ar_four,rfl⟩,by decide,rfl,rfl⟩)))
 | 2,_=>exact .inl ⟨show (0:Int)≤1 by decide,show (1:Int)<4 by decide,tg_one.symm,rfl⟩
 | 3,_=>exact .inr (.inr (.inr (.inr ⟨rfl,3,⟨3,ar_four,rfl⟩,by decide,rfl,rfl⟩)))
theorem bd_right:BdY LG NG5 8 [QG] 0 4 TG:=⟨0,4,4,by decide,rfl,rfl,Res.self (by decide) rfl,all_right,by decide,by decide⟩
theorem syms_LG (w:World):SymsAt (w.alloc (.cells #[.string ⟨#[122]⟩,.int .i64 0,.bool false,.string ⟨#[115]⟩,.int .i64 1,.bool false,.string ⟨#[112]⟩,.int .i64 2,.bool false,.string ⟨#[100]⟩,.int .i64 1,.bool true] 76)) (some ⟨w.heap.size,0,none⟩) 4 [gZ,gS,gP,gD]:=by
 refine ⟨rfl,.inr ⟨_,_,rfl,by simp,fun i hi=>?_⟩,?_⟩
 ·have hi' : i<4:=by simpa using hi
  rw [cellAt (heap_alloc_new w _),cellAt (heap_alloc_new w _),cellAt (heap_alloc_new w _)]
  match i,hi' with
  | 0,_=>exact ⟨rfl,rfl,rfl⟩
  | 1,_=>exact ⟨rfl,rfl,rfl⟩
  | 2,_=>exact ⟨rfl,rfl,rfl⟩
  | 3,_=>exact ⟨rfl,rfl,rfl⟩
 ·intro x hx
  simp at hx
  rcases hx with rfl | rfl | rfl | rfl <;> exact ⟨by decide +kernel,by decide +kernel⟩
structure GH (n sb:Nat) (L:List Sym) (h g room:Nat) (N:List Nd) (w:World):Prop where
 sg:Sg n w sb L
 hp:HpB (fun _=>True) w h g room N
 gh:n≤h∧n≤g
theorem GH.same {n sb:Nat} {L:List Sym} {h g room:Nat} {N:List Nd} {w w' : World} (q:GH n sb L h g room N w) (hk:Same0 w w'):GH n sb L h g room N w' := ⟨q.sg.same hk,q.hp.same hk,q.gh⟩
theorem GH.next {n sb:Nat} {L:List Sym} {h g room:Nat} {N N' : List Nd} {w w' : World} {B:Nat→Prop} (q:GH n sb L h g room N w) (hk:Kept (fun k=>k=h∨k=g) w w') (hp:HpB B w' h g room N'):GH n sb L h g room N' w' :=
 ⟨q.sg.kept hk (fun k hk e=>by have:=q.gh;omega),hp.mono (fun _ _ _ _=>trivial),q.gh⟩
theorem GH.load_yes {n sb:Nat} {L:List Sym} {h g room:Nat} {N:List Nd} {w:World} (q:GH n sb L h g room N w) {ao:Option Addr} {cap:Nat} {t:List Int} (ht:IntsAt w ao t) (hc:checkE L t=0) (hv:∀ x∈t,0≤x) (hf:N.length+t.length≤room) :
  Calls Try.prog 16 #[.pointer (some ⟨sb,0,none⟩),.pointer (some ⟨h,0,none⟩),.slice ao t.length cap] w fun e w' => ∃ a:Nat,e=.returned (.tuple #[.int .i64 (a:Int),.nilIface])∧(layF N (t.map (tgT L))).2=[(a:Int)]∧GH n sb L h g room (layF N (t.map (tgT L))).1 w' ∧ Kept (fun k=>k=h∨k=g) w w' :=
 (Go.Proofs.Ytpimndkhoalaeaa.load_yes q.sg q.hp ht hc hv hf).mono (fun e w' ⟨a,e1,e2,e3,e4⟩=>⟨a,e1,e2,q.next e4 e3,e4⟩)
theorem GH.made {n sb:Nat} {L:List Sym} {h g room:Nat} {N:List Nd} {w:World} (q:GH n sb L h g room N w) (s:Int) {ao:Option Addr} {xs:List Int} {cap:Nat} (hx:Arg w ao xs cap) (he:mkE N room s xs=0) :
  Calls Try.prog 21 #[.pointer (some ⟨h,0,none⟩),.int .i64 s,.slice ao xs.length cap] w fun e w' => e=.returned (.tuple #[.int .i64 (N.length:Int),.int .i64 0])∧GH n sb L h g room (N ++ [(s,xs,0,false,0)]) w' ∧ Kept (fun k=>k=h∨k=g) w w' :=
 (make_yes q.hp s hx he).mono (fun e w' ⟨e1,e2,e3⟩=>⟨e1,q.next e3 e2,e3⟩)
theorem GH.build_yes {n sb:Nat} {L:List Sym} {h g room:Nat} {N:List Nd} {w:World} (q:GH n sb L h g room N w) {ro:Option Addr} {rc:Nat} {R:List (List (Int × List Int))} (hR:RtAt w ro R) (io po eo:Option Addr) (il ic pl pc el ec:Nat) {rule node:Int} {l:List Tg} (hy:BdY L N room R rule node l) :
  Calls Try.prog 22 #[.pointer (some ⟨sb,0,none⟩),.agg #[.slice io il ic,.slice po pl pc,.slice eo el ec,.slice ro R.length rc],.pointer (some ⟨h,0,none⟩),.int .i64 rule,.int .i64 node] w fun e w' => ∃ a:Nat,e=.returned (.tuple #[.int .i64 (a:Int),.nilIface])∧(layF N l).2=[(a:Int)]∧GH n sb L h g room (layF N l).1 w' ∧ Kept (fun k=>k=h∨k=g) w w' :=
 (build_any q.sg q.hp hR io po eo il ic pl pc el ec rule node).mono (fun e w' hb=>by
  obtain ⟨a,e1,e2,e3,e4⟩:=hb.yes hy
  exact ⟨a,e1,e2,q.next e4 e3,e4⟩)
theorem rt_QG (w:World) (X:World) (b0 b1 b2 b3:Nat) (h0:X.heap[b0]? = some (.cells #[.int .i64 0] 3 (0,0))) (h1:X.heap[b1]? = some (.cells #[.int .i64 0] 3 (0,0))) (h2:X.heap[b2]? = some (.cells #[.int .i64 2,.slice none 0 0,.int .i64 (-1),.slice (some ⟨b0,0,none⟩) 1 1,.int .i64 1,.slice none 0 0,.int .i64 (-1),.slice (some ⟨b1,0,none⟩) 1 1] 52 (0,0))) (h3:X.heap[b3]? = some (.cells #[.slice (some ⟨b2,0,none⟩) 4 4] 50 (0,0))):RtAt X (some ⟨b3,0,none⟩) [QG]:=by
 refine .inr ⟨b3,0,rfl,lt_of_at h3,fun i hi=>?_⟩
 have hi' : i<1:=hi
 obtain rfl:i=0:=by omega
 refine ⟨some ⟨b2,0,none⟩,4,cellAt h3 0,.inr ⟨b2,0,rfl,lt_of_at h2,fun j hj=>?_⟩,show (4:Nat)≤4398046511104 by decide⟩
 have hj' : j<4:=hj
 have I:∀ bb,X.heap[bb]? = some (.cells #[.int .i64 0] 3 (0,0))→IntsAt X (some ⟨bb,0,none⟩) [0]:=fun bb hb=>.inr ⟨bb,0,rfl,lt_of_at hb,fun i hi=>by
  have hi' : i<1:=hi
  obtain rfl:i=0:=by omega
  exact cellAt hb 0⟩
 match j,hj' with
 | 0,_=>exact ⟨none,0,cellAt h2 0,cellAt h2 1,.inl rfl,show (0:Nat)≤maxLen by decide⟩
 | 1,_=>exact ⟨some ⟨b0,0,none⟩,1,cellAt h2 2,cellAt h2 3,I b0 h0,show (1:Nat)≤maxLen by decide⟩
 | 2,_=>exact ⟨none,0,cellAt h2 4,cellAt h2 5,.inl rfl,show (0:Nat)≤maxLen by decide⟩
 | 3,_=>exact ⟨some ⟨b1,0,none⟩,1,cellAt h2 6,cellAt h2 7,I b1 h1,show (1:Nat)≤maxLen by decide⟩
set_option maxHeartbeats 4000000 in
theorem awake13_any (w:World):Calls Try.prog 12 #[] w fun e w' => e=.returned (.bool true)∧Same0 w w' := by
 have C1:=sign_any (some ⟨w.heap.size,0,none⟩) 4 4 [gZ,gS,gP,gD] _ (syms_LG w) (by unfold maxLen;omega)
 rw [made_LG] at C1
 have k0:Hid (Same0 w (w.alloc (.cells #[.string ⟨#[122]⟩,.int .i64 0,.bool false,.string ⟨#[115]⟩,.int .i64 1,.bool false,.string ⟨#[112]⟩,.int .i64 2,.bool false,.string ⟨#[100]⟩,.int .i64 1,.bool true] 76))):=(Kept.refl _ w).alloc _
 have F1:Hid (checkE LG [2,0,1,0]=0∧layF [] ([2,0,1,0].map (tgT LG))=(NG4,[3])∧checkE LG [1]=23∧BdY LG NG5 8 [QG] 0 4 TG):=⟨ck_term,ld_term,ck_one,bd_right⟩
 generalize LG=L at *
 go_enter Try.func12,Try.ntmps12
 go_upto_region 5 with (first
  | (go_at_call 13;refine C1.mono ?_;rintro e w1 ⟨sb,rv,rfl,hs, -,k1⟩)
  | (go_at_call 14;refine (hnew_yes 8 w1 (by omega) (by omega)).mono ?_;rintro e w2 ⟨h,g,rfl,p2,k2,hh,hg⟩))
 have Q2:Hid (GH w1.heap.size sb L h g 8 [] w2):=⟨hs.same k2,p2.mono (fun _ _ _ _=>trivial),hh,hg⟩
 have K2:Hid (Same0 w w2):=(k0.out.trans' k1).trans' k2
 have hz1:w.heap.size≤w1.heap.size:=(k0.out.trans' k1).size
 have KH:Hid (∀ a b,Kept (fun k=>k=h∨k=g) a b→Same0 w a→Same0 w b):=fun a b hk h1=>h1.trans hk (fun i hi e=>by omega)
 clear C1 hs p2 k1 k2 k0
 have ka2:=(Kept.refl (fun _=>False) w2).alloc (.cells #[.int .i64 2,.int .i64 0,.int .i64 1,.int .i64 0] 3)
 have CL:=(Q2.out.same ka2).load_yes (cap:=4) (ints_new w2 [2,0,1,0] 3 rfl) F1.out.1 (by decide) (by decide)
 rw [F1.out.2.1] at CL
 go_upto_region 6 with (first | (go_at_call 16;refine CL.mono ?_;rintro e w3 ⟨a3,rfl,ea,Q3,k3⟩))
 obtain rfl:a3=3:=by simp at ea;omega
 have K3:Hid (Same0 w w3):=KH.out _ _ k3 (K2.out.trans' ka2)
 have HQ3:Hid (GH w1.heap.size sb L h g 8 NG4 w3):=Q3
 clear CL ea Q3 k3 Q2 K2 ka2
 have ka3:=(Kept.refl (fun _=>False) w3).alloc (.cells #[.int .i64 1] 3)
 have CB:=load_bad (cap:=1) (HQ3.out.sg.same ka3) ⟨h,0,none⟩ (ints_new w3 [1] 3 rfl) (by decide) (by rw [F1.out.2.2.1];decide)
 rw [F1.out.2.2.1] at CB
 go_upto_region 7 with (first | (go_at_call 16;refine CB.mono ?_;rintro e w4 ⟨v4,rfl,⟨fb,rfl, -, -⟩,k4⟩))
 have K4:Hid (Same0 w w4):=(K3.out.trans' ka3).trans' k4
 have HQ4:Hid (GH w1.heap.size sb L h g 8 NG4 w4):=(HQ3.out.same ka3).same k4
 clear CB k4 ka3 HQ3 K3
 have ka4:=(Kept.refl (fun _=>False) w4).alloc (.cells #[.int .i64 3] 3)
 have CM:=(HQ4.out.same ka4).made 3 (arg_one w4 3) mk_five
 go_upto_region 8 with (first | (go_at_call 21;refine CM.mono ?_;rintro e w5 ⟨rfl,Q5,k5⟩))
 have K5:Hid (Same0 w w5):=KH.out _ _ k5 (K4.out.trans' ka4)
 have HQ5:Hid (GH w1.heap.size sb L h g 8 NG5 w5):=Q5
 clear CM k5 ka4 HQ4 K4 Q5
 obtain ⟨X1,hX1⟩:∃ X1,X1=w5.alloc (.cells #[.int .i64 0] 3):=⟨_,rfl⟩
 obtain ⟨X2,hX2⟩:∃ X2,X2=X1.alloc (.cells #[.int .i64 0] 3):=⟨_,rfl⟩
 obtain ⟨X3,hX3⟩:∃ X3,X3=X2.alloc (.cells #[.int .i64 2,.slice none 0 0,.int .i64 (-1),.slice (some ⟨w5.heap.size,0,none⟩) 1 1,.int .i64 1,.slice none 0 0,.int .i64 (-1),.slice (some ⟨w5.heap.size+1,0,none⟩) 1 1] 52):=⟨_,rfl⟩
 obtain ⟨X4,hX4⟩:∃ X4,X4=X3.alloc (.cells #[.slice (some ⟨w5.heap.size+1+1,0,none⟩) 4 4] 50):=⟨_,rfl⟩
 obtain ⟨X5,hX5⟩:∃ X5,X5=X4.alloc (.cells #[.slice none 0 0,.slice none 0 0,.slice none 0 0,.slice (some ⟨w5.heap.size+1+1+1,0,none⟩) 1 1] 58):=⟨_,rfl⟩
 have z1:X1.heap.size=w5.heap.size+1:=by rw [hX1];simp
 have z2:X2.heap.size=w5.heap.size+1+1:=by rw [hX2];simp [z1]
 have z3:X3.heap.size=w5.heap.size+1+1+1:=by rw [hX3];simp [z2]
 have z4:X4.heap.size=w5.heap.size+1+1+1+1:=by rw [hX4];simp [z3]
 have j1:Same0 w5 X1:=by rw [hX1];exact (Kept.refl _ _).alloc _
 have j2:Same0 X1 X2:=by rw [hX2];exact (Kept.refl _ _).alloc _
 have j3:Same0 X2 X3:=by rw [hX3];exact (Kept.refl _ _).alloc _
 have j4:Same0 X3 X4:=by rw [hX4];exact (Kept.refl _ _).alloc _
 have j5:Same0 X4 X5:=by rw [hX5];exact (Kept.refl _ _).alloc _
 have q0:X1.heap[w5.heap.size]? = some (.cells #[.int .i64 0] 3 (0,0)):=by rw [hX1];exact heap_alloc_new _ _
 have q1:X2.heap[w5.heap.size+1]? = some (.cells #[.int .i64 0] 3 (0,0)):=by rw [hX2,← z1];exact heap_alloc_new _ _
 have q2:X3.heap[w5.heap.size+1+1]? = some (.cells #[.int .i64 2,.slice none 0 0,.int .i64 (-1),.slice (some ⟨w5.heap.size,0,none⟩) 1 1,.int .i64 1,.slice none 0 0,.int .i64 (-1),.slice (some ⟨w5.heap.size+1,0,none⟩) 1 1] 52 (0,0)):=by rw [hX3,← z2];exact heap_alloc_new _ _
 have q3:X4.heap[w5.heap.size+1+1+1]? = some (.cells #[.slice (some ⟨w5.heap.size+1+1,0,none⟩) 4 4] 50 (0,0)):=by rw [hX4,← z3];exact heap_alloc_new _ _
 have q4:X5.heap[w5.heap.size+1+1+1+1]? = some (.cells #[.slice none 0 0,.slice none 0 0,.slice none 0 0,.slice (some ⟨w5.heap.size+1+1+1,0,none⟩) 1 1] 58 (0,0)):=by rw [hX5,← z4];exact heap_alloc_new _ _
 have RT:=rt_QG w5 X5 _ _ _ _ (j5.at0 (j4.at0 (j3.at0 (j2.at0 q0)))) (j5.at0 (j4.at0 (j3.at0 q1))) (j5.at0 (j4.at0 q2)) (j5.at0 q3)
 have J5:=(((j1.trans' j2).trans' j3).trans' j4).trans' j5
 have CB:=(HQ5.out.same J5).build_yes (rc:=1) RT none none none 0 0 0 0 0 0 F1.out.2.2.2
 rw [ld_right] at CB
 have K5' : Hid (Same0 w X5):=K5.out.trans' J5
 obtain ⟨y0,y1,y2,y3⟩:=boxT4 q4
 go_upto_region 9 with fail
 rw [← hX1,← hX2,← hX3,← hX4,← hX5]
 clear hX1 hX2 hX3 hX4 hX5 z1 z2 z3 z4 j1 j2 j3 j4 j5 q0 q1 q2 q3 q4 RT J5 K5 HQ5
 go_upto_region 10 with (first | (go_at_call 22;refine CB.mono ?_;rintro e w6 ⟨a6,rfl,ea,Q6,k6⟩))
 obtain rfl:a6=6:=by simp at ea;omega
 have K6:Hid (Same0 w w6):=KH.out _ _ k6 K5'.out
 have HQ6:Hid (GH w1.heap.size sb L h g 8 NG7 w6):=Q6
 clear CB ea Q6 k6 K5' y0 y1 y2 y3
 have CA:=hat_yes HQ6.out.hp 6 (by decide)
 go_upto_region 11 with (first | (go_at_call 46;refine CA.mono ?_;rintro e w7 ⟨bo,bc,rfl,a1, -,k7⟩))
 obtain ⟨X7,hX7⟩:∃ X7,X7=w7.alloc (.cells #[.int .i64 2,.slice bo 2 bc,.int .i64 0,.bool false,.int .i64 0] 71):=⟨_,rfl⟩
 rw [← hX7]
 have j7:Same0 w7 X7:=by rw [hX7];exact (Kept.refl _ _).alloc _
 have hbx:X7.heap[w7.heap.size]? = some (.cells #[.int .i64 2,.slice bo 2 bc,.int .i64 0,.bool false,.int .i64 0] 71 (0,0)):=by rw [hX7];exact heap_alloc_new _ _
 have K7:Hid (Same0 w X7):=(K6.out.trans' k7).trans' j7
 have HQ7:Hid (GH w1.heap.size sb L h g 8 NG7 X7):=(HQ6.out.same k7).same j7
 have ha7:IntsAt X7 bo [3,5]:=(a1.same j7).1.at'
 obtain ⟨ab,aoff,rfl,hab,hac⟩:=ha7.get (i:=0) (by decide)
 obtain ⟨ab', aoff', e7,hab', hac'⟩:=ha7.get (i:=1) (by decide)
 simp only [Option.some.injEq,Addr.mk.injEq,and_true] at e7
 obtain ⟨rfl,rfl⟩:=e7
 have FC:Hid (∀ ww,Same0 X7 ww→ww.cell? ⟨w7.heap.size,0,none⟩=some (.int .i64 2)∧ww.cell? ⟨w7.heap.size,1,none⟩=some (.slice (some ⟨ab,aoff,none⟩) 2 bc)∧ww.cell? ⟨ab,aoff,none⟩=some (.int .i64 3)∧ww.cell? ⟨ab,aoff+1,none⟩=some (.int .i64 5)):=fun ww hk=>⟨cellAt (hk.at0 hbx) 0,cellAt (hk.at0 hbx) 1,(hk.cell (p:=⟨ab,aoff,none⟩) hab (fun f=>f)).trans hac,(hk.cell (p:=⟨ab,aoff+1,none⟩) hab (fun f=>f)).trans hac'⟩
 clear hX7 j7 hbx a1 k7 K6 HQ6 CA ha7 hac hac' hab hab'
 have CO:=of_any (some ⟨h,0,none⟩) X7
 have CH:Hid (∀ ww,Same0 X7 ww→Calls Try.prog 29 #[.agg #[.pointer (some ⟨h,0,none⟩)],.int .i64 4] ww fun e w' => e=.returned (.tuple #[.int .i64 3,.bool false])∧Same0 ww w'):=fun ww hk=>(head_yes (HQ7.out.same hk).hp 4 (by decide)).mono (fun e w' ⟨b,hb,e1,e2,e3⟩=>by
  obtain rfl:=e2.uniq (Res.self (l:=NG7) (a:=4) (by decide) rfl)
  exact ⟨e1,e3⟩)
 go_upto_region 12 with (first
  | (go_at_call 28;refine CO.mono ?_;rintro e w8 ⟨rfl,k8⟩)
  | (go_at_call 29;refine (CH.out w8 k8).mono ?_;rintro e w9 ⟨rfl,k9⟩))
 obtain ⟨y0,y1,y2,y3⟩:=FC.out w9 (Same0.trans' k8 k9)
 have n1:=neq_efault
 have n2:=neq_enil
 go_wp2
 go_ret
 exact ⟨rfl,(K7.out.trans' k8).trans' k9⟩
set_option maxHeartbeats 1000000 in
theorem told13_any {w:World} {h g room:Nat} {l:List Nd} (p:Hp w h g room l) :
  Calls Try.prog 18 #[.pointer (some ⟨h,0,none⟩)] w fun e w' => ∃ v,e=.returned (.tuple #[v,.bool true])∧NRow (fun b=>w.heap.size≤b) w.heap.size w' v l∧Same0 w w' := by
 have hle:=p.le
 have hr2:=p.rm2
 have HP:Hid (∀ ww,Same0 w ww→Hp ww h g room l):=fun ww hk=>p.same hk
 have KR:Same0 w w:=Kept.refl _ _
 clear p
 go_enter Try.func18,Try.ntmps18
 go_wp2
 go_loopw [4,5] (fun v i wr=>∃ (k:Nat),i=.int .i64 (k:Int)∧k≤l.length∧NRow (fun b=>w.heap.size≤b) w.heap.size wr v (l.take k)∧Same0 w wr) (fun _ i _=>l.length-(intOf i).toNat)
 case atStart=>exact ⟨0,rfl,Nat.zero_le _,NRow.nil _ _ _,KR⟩
 case round=>
  clear KR
  obtain ⟨k,rfl,hk,hrow,hw⟩:=hrel
  have pr:=HP.out wr hw
  have CU:=used_any pr
  obtain ⟨vo,vc,rfl⟩:=hrow.shape
  have hlk:(l.take k).length=k:=by simp;omega
  rw [hlk] at hrow
  by_cases hlt:k<l.length
  ·have j1:(k:Int)<(l.length:Int):=by omega
   have j2:(k:Int)<4000:=by omega
   have C1:=hat_yes pr k hlt
   have HT:Hid (l.take (k+1)=l.take k ++ [l[k]]):=List.take_succ_eq_append_getElem hlt
   have HLK:Hid ((l.take k).length=k):=hlk
   rw [hlk]
   clear pr hlk
   go_upto_region 8 with (first | (go_at_call 17;refine CU.mono ?_;rintro e w3 ⟨rfl,h3⟩;have h3:=h3.symm;subst h3) | (go_at_call 46;refine C1.mono ?_;rintro e w3 ⟨bo,bc,rfl,ha,hbb,k3⟩))
   obtain ⟨W3,hW3⟩:∃ W3,W3=w3.alloc (.cells #[.int .i64 l[k].1,.slice bo l[k].2.1.length bc,.int .i64 l[k].2.2.1,.bool l[k].2.2.2.1,.int .i64 l[k].2.2.2.2] 71):=⟨_,rfl⟩
   have kk:Same0 w3 W3:=by rw [hW3];exact (Kept.refl _ _).alloc _
   have K3:Same0 wr W3:=k3.trans' kk
   obtain ⟨x0,x1,x2,x3,x4⟩:=box_node' w3 l[k] bo bc (show Same0 _ W3 by rw [hW3];exact Kept.refl _ _)
   have ha3:=ha.same kk
   have hr3:=hrow.same K3
   have hsz:w.heap.size≤W3.heap.size:=(hw.trans' K3).size
   have hbb' : ∀ b,bo=some b→w.heap.size≤b.block:=fun b e=>Nat.le_trans hw.size (hbb b e)
   have kW:=(Kept.refl (fun _=>False) W3).alloc (.cells #[.int .i64 l[k].1,.slice bo l[k].2.1.length bc,.int .i64 l[k].2.2.1,.bool l[k].2.2.2.1,.int .i64 l[k].2.2.2.2] 71)
   have hq:=heap_at_node W3 l[k] bo bc
   have HKK:Hid (∀ ww,Kept (fun i=>(Value.slice vo k vc).ownBlock=some i) W3 ww→Same0 w ww):=fun ww hk=>NRow.onto (hw.trans' K3) hr3 hk
   rw [← hW3]
   clear hW3 C1 CU k3 ha hrow hbb kk
   go_wp2_with (first | (at_builtin;refine wpList_nd rfl _ _ rfl w.heap.size (l.take k) _ rfl kW hr3 l[k] bo bc _ rfl hq ha3 hbb' hsz (by rw [HLK.out];omega) ?_;rw [HLK.out];intro g4 cap4 w4 hr4 hk4 hor))
   have hr5:NRow (fun b=>w.heap.size≤b) w.heap.size w4 (.slice (some ⟨g4,0,none⟩) (k+1) cap4) (l.take (k+1)):=by rw [HT.out];exact hr4
   have hk5:Same0 w w4:=HKK.out w4 hk4
   go_roundw
   case rel=>first | exact ⟨k+1,by go_num,by omega,hr5,hk5⟩ | ((repeat apply Exists.intro);exact ⟨⟨k+1,by go_num,by omega,hr5,hk5⟩,rfl⟩)
   case measure=>simp [intOf];omega
  ·obtain rfl:k=l.length:=by omega
   rw [List.take_length] at *
   clear hlk pr
   go_wp2_with (first | (go_at_call 17;refine CU.mono ?_;rintro e w3 ⟨rfl,h3⟩;have h3:=h3.symm;subst h3))
   go_ret2
   exact ⟨_,rfl,hrow,hw⟩
end Go.Proofs.Ytpimndkhoalaeaa
namespace Go.Proofs.Ytpimndkhoalaeaa
set_option linter.unusedVariables false
inductive Rdn (N:List Nd):List Int→List Int→Prop
 | nil:Rdn N [] []
 | cons {a:Nat} {s:Int} {xs S out:List Int}:N[a]? = some (s,xs,0,false,0)→Rdn N (xs++S) out→Rdn N ((a:Int) :: S) (s :: out)
theorem Rdn.more {N:List Nd} {S out:List Int} (h:Rdn N S out) (M:List Nd):Rdn (N++M) S out:=by
 induction h with
 | nil=>exact .nil
 | cons h1 _ ih=>exact .cons (by rw [List.getElem?_append_left (List.getElem?_eq_some_iff.1 h1).1];exact h1) ih
theorem Rdn.top {N:List Nd} {a:Int} {S out:List Int} (h:Rdn N (a :: S) out):∃ (n:Nat) (hn:n<N.length) (o:List Int),a=(n:Int)∧N[n].2.2.2.1=false∧out=N[n].1 :: o∧Rdn N (N[n].2.1++S) o:=by
 cases h with
 | @cons n s xs _ o h1 h2=>
  obtain ⟨hn,e⟩:=List.getElem?_eq_some_iff.1 h1
  exact ⟨n,hn,o,rfl,by rw [e],by rw [e],by rw [e];exact h2⟩
end Go.Proofs.Ytpimndkhoalaeaa
namespace Go.Proofs.Ytpimndkhoalaeaa
set_option maxRecDepth 100000
set_option linter.unusedVariables false
open Go.RowKit
theorem Arg.onto {w w' : World} {ao:Option Addr} {xs:List Int} {cap:Nat} (h:Arg w ao xs cap) (hk:Same0 w w'):Arg w' ao xs cap:=⟨h.at'.same hk,h.cap', h.nil,h.size⟩
theorem IntsAt.lt {w:World} {ao:Option Addr} {xs:List Int} (h:IntsAt w ao xs) (h0:xs≠[]) {a:Addr} (e:ao=some a):a.block<w.heap.size:=by
 rcases h with q | ⟨b,off,rfl,hlt,_⟩
 ·exact absurd q h0
 ·cases e;exact hlt
def NsW (w:World) (ao:Option Addr) (l:List Nd):Prop:=l=[]∨∃ nb noff,ao=some ⟨nb,noff,none⟩∧nb<w.heap.size∧∀ j (hj:j<l.length),∃ xo xc,w.cell? ⟨nb,noff+j * 5,none⟩=some (.int .i64 l[j].1)∧w.cell? ⟨nb,noff+j * 5+1,none⟩=some (.slice xo l[j].2.1.length xc)∧w.cell? ⟨nb,noff+j * 5+2,none⟩=some (.int .i64 l[j].2.2.1)∧w.cell? ⟨nb,noff+j * 5+3,none⟩=some (.bool l[j].2.2.2.1)∧w.cell? ⟨nb,noff+j * 5+4,none⟩=some (.int .i64 l[j].2.2.2.2)∧Arg w xo l[j].2.1 xc
theorem NsM.weak {B:Nat→Prop} {w:World} {ao:Option Addr} {l:List Nd} (h:NsM B w ao l):NsW w ao l:=by
 refine h.imp id ?_
 rintro ⟨b,off,rfl,hlt,hc⟩
 refine ⟨b,off,rfl,hlt,fun j hj=>?_⟩
 obtain ⟨xo,xc,n0,n1,n2,n3,n4,n5, -⟩:=hc j hj
 exact ⟨xo,xc,n0,n1,n2,n3,n4,n5.1⟩
theorem NsW.same {w w' : World} {ao:Option Addr} {l:List Nd} (h:NsW w ao l) (hk:Same0 w w'):NsW w' ao l:=by
 refine h.imp id ?_
 rintro ⟨nb,noff,rfl,hlt,hc⟩
 have t:∀ o,w'.cell? ⟨nb,o,none⟩=w.cell? ⟨nb,o,none⟩:=fun o=>hk.cell (p:=⟨nb,o,none⟩) hlt (fun f=>f)
 refine ⟨nb,noff,rfl,Nat.lt_of_lt_of_le hlt hk.size,fun j hj=>?_⟩
 obtain ⟨xo,xc,n0,n1,n2,n3,n4,n5⟩:=hc j hj
 exact ⟨xo,xc,(t _).trans n0,(t _).trans n1,(t _).trans n2,(t _).trans n3,(t _).trans n4,⟨n5.at'.same hk,n5.cap', n5.nil,n5.size⟩⟩
def NsV (P:Nat→Prop) (w:World) (ao:Option Addr) (l:List Nd):Prop:=l=[]∨∃ nb noff,ao=some ⟨nb,noff,none⟩∧nb<w.heap.size∧P nb∧∀ j (hj:j<l.length),∃ xo xc,w.cell? ⟨nb,noff+j * 5,none⟩=some (.int .i64 l[j].1)∧w.cell? ⟨nb,noff+j * 5+1,none⟩=some (.slice xo l[j].2.1.length xc)∧w.cell? ⟨nb,noff+j * 5+2,none⟩=some (.int .i64 l[j].2.2.1)∧w.cell? ⟨nb,noff+j * 5+3,none⟩=some (.bool l[j].2.2.2.1)∧w.cell? ⟨nb,noff+j * 5+4,none⟩=some (.int .i64 l[j].2.2.2.2)∧Arg w xo l[j].2.1 xc∧(l[j].2.1≠[]→∀ a,xo=some a→P a.block)
theorem NsV.weak {P:Nat→Prop} {w:World} {ao:Option Addr} {l:List Nd} (h:NsV P w ao l):NsW w ao l:=by
 refine h.imp id ?_
 rintro ⟨b,off,rfl,hlt,_,hc⟩
 refine ⟨b,off,rfl,hlt,fun j hj=>?_⟩
 obtain ⟨xo,xc,n0,n1,n2,n3,n4,n5, -⟩:=hc j hj
 exact ⟨xo,xc,n0,n1,n2,n3,n4,n5⟩
theorem NsW.below {w:World} {ao:Option Addr} {l:List Nd} (h:NsW w ao l):NsV (fun b=>b<w.heap.size) w ao l:=by
 refine h.imp id ?_
 rintro ⟨b,off,rfl,hlt,hc⟩
 refine ⟨b,off,rfl,hlt,hlt,fun j hj=>?_⟩
 obtain ⟨xo,xc,n0,n1,n2,n3,n4,n5⟩:=hc j hj
 exact ⟨xo,xc,n0,n1,n2,n3,n4,n5,fun h0 a e=>n5.at'.lt h0 e⟩
theorem NsV.mono {P Q:Nat→Prop} {w:World} {ao:Option Addr} {l:List Nd} (h:NsV P w ao l) (hq:∀ b,P b→Q b):NsV Q w ao l:=by
 refine h.imp id ?_
 rintro ⟨b,off,rfl,hlt,hp,hc⟩
 refine ⟨b,off,rfl,hlt,hq _ hp,fun j hj=>?_⟩
 obtain ⟨xo,xc,n0,n1,n2,n3,n4,n5,n6⟩:=hc j hj
 exact ⟨xo,xc,n0,n1,n2,n3,n4,n5,fun h0 a e=>hq _ (n6 h0 a e)⟩
theorem NsV.kept {P S:Nat→Prop} {w w' : World} {ao:Option Addr} {l:List Nd} (h:NsV P w ao l) (hk:Kept S w w') (hS:∀ b,P b→¬ S b):NsV P w' ao l:=by
 refine h.imp id ?_
 rintro ⟨nb,noff,rfl,hlt,hp,hc⟩
 have t:∀ o,w'.cell? ⟨nb,o,none⟩=w.cell? ⟨nb,o,none⟩:=fun o=>hk.cell (p:=⟨nb,o,none⟩) hlt (hS _ hp)
 refine ⟨nb,noff,rfl,Nat.lt_of_lt_of_le hlt hk.size,hp,fun j hj=>?_⟩
 obtain ⟨xo,xc,n0,n1,n2,n3,n4,n5,n6⟩:=hc j hj
 refine ⟨xo,xc,(t _).trans n0,(t _).trans n1,(t _).trans n2,(t _).trans n3,(t _).trans n4,⟨?_,n5.cap', n5.nil,n5.size⟩,n6⟩
 by_cases e:l[j].2.1=[]
 ·exact .inl e
 ·exact n5.at'.kept hk (fun a q=>hS _ (n6 e a q))
theorem NsV.same {P:Nat→Prop} {w w' : World} {ao:Option Addr} {l:List Nd} (h:NsV P w ao l) (hk:Same0 w w'):NsV P w' ao l:=h.kept hk (fun _ _ f=>f)
theorem NsM.apart {B:Nat→Prop} {w:World} {ao:Option Addr} {l:List Nd} {g:Nat} (h:NsM B w ao l) (hap:l≠[]→∀ a,ao=some a→a.block≠g) (hg:NotI w g):NsV (fun b=>b≠g) w ao l:=by
 rcases h with e | ⟨b,off,rfl,hlt,hc⟩
 ·exact .inl e
 ·by_cases e:l=[]
  ·exact .inl e
  refine .inr ⟨b,off,rfl,hlt,hap e _ rfl,fun j hj=>?_⟩
  obtain ⟨xo,xc,n0,n1,n2,n3,n4,n5, -⟩:=hc j hj
  refine ⟨xo,xc,n0,n1,n2,n3,n4,n5.1,fun _ a q t=>?_⟩
  obtain ⟨cur,hcur⟩:=n5.2 a q
  rw [t] at hcur
  exact hg cur hcur
theorem HpB.notg {B:Nat→Prop} {w:World} {h g room:Nat} {l:List Nd} (p:HpB B w h g room l):NotI w g:=fun cur hc=>by
 obtain ⟨cs,h1,_⟩:=p.blk
 rw [h1] at hc
 cases hc
end Go.Proofs.Ytpimndkhoalaeaa
namespace Go.Proofs.Ytpimndkhoalaeaa
set_option maxRecDepth 100000
set_option linter.unusedVariables false
open Go.RowKit
attribute [local go_sem ↓] Go.wp_at_zero Go.wp_at_succ
theorem may_app {n:Nat} {x:Nd} (h:x.2.2.2.1=false):mayB n x=(decide (0≤x.1) && decide (x.2.1.length≤6) && insB (n:Int) x.2.1 && isMk x.2.2.1 && decide (x.2.2.2.2=0)):=by
 rw [Bool.eq_iff_iff]
 unfold mayB insB isMk
 simp [h]
 intro _
 constructor
 ·rintro ⟨⟨⟨⟨a,b⟩,c⟩,d⟩,e⟩;exact ⟨⟨⟨a,b⟩,e⟩,c,d⟩
 ·rintro ⟨⟨⟨a,b⟩,e⟩,c,d⟩;exact ⟨⟨⟨⟨a,b⟩,c⟩,d⟩,e⟩
theorem may_indir {n:Nat} {x:Nd} (h:x.2.2.2.1=true):mayB n x=(decide (x.1=0) && decide (x.2.1.length=0) && decide (x.2.2.1=0) && insB (n:Int) [x.2.2.2.2]):=by
 rw [Bool.eq_iff_iff]
 unfold mayB insB
 simp [h]
 constructor
 ·rintro ⟨_,⟨⟨⟨⟨a,b⟩,c⟩,d⟩,e⟩⟩;exact ⟨⟨⟨c,e⟩,d⟩,a,b⟩
 ·rintro ⟨⟨⟨c,e⟩,d⟩,a,b⟩
  rw [c,d,e]
  simp [a,b]
end Go.Proofs.Ytpimndkhoalaeaa
namespace Go.Proofs.Ytpimndkhoalaeaa
set_option linter.unusedVariables false
open Go.RowKit
theorem wpList_more9 {w0:World} {ops:Array Oper} {rest:List Oper} {o:Oper} {a:Act} {Q:Exit→Act→World→Prop} (hgd:o.guard=none) (s x:Operand) (t:TypeId)
  (ho:o.op=.call { callee:=.builtin .append,args:=#[s,x],argTypes:=#[t,t] }) (ht:Try.prog.underlying t=some (.slice 3))
  (base:Nat) (xs:List Int) (v:Value) (hs:a.eval s=v) (hr:Row base w0 v xs) (ys:List Int) (ao:Option Addr) (m c:Nat) (hx:a.eval x=.slice ao m c) (hm:m=ys.length) (hy:IntsAt w0 ao ys) (hnil:ao=none→ys.length=0∧c=0) (hb:base≤w0.heap.size) (hsz:(xs.length+ys.length) * 8≤140737488355328)
  (h:∀ v' w', Row base w' v' (xs++ys)→Kept (fun k=>v.ownBlock=some k) w0 w' → wpList Try.prog ops Q rest (a.put o.dst v') w') :
  wpList Try.prog ops Q (o :: rest) a w0:=by
 cases ao with
 | none=>
  obtain ⟨h1,rfl⟩:=hnil rfl
  have:ys=[]:=List.eq_nil_of_length_eq_zero h1
  subst this
  subst hm
  obtain ⟨i,hi,hz0,hz1,hz2⟩:=info_parts info_intT
  exact wpList_append_own_none hgd s x t ho base 3 i 1 ht hi v xs.length (iv xs) hs hr hx (h v w0 (by simpa using hr) (Kept.refl _ _))
 | some ad=>exact wpList_more hgd s x t ho ht base xs v hs hr ys ad m c hx hm hy hb hsz h
end Go.Proofs.Ytpimndkhoalaeaa
namespace Go.Proofs.Ytpimndkhoalaeaa
set_option maxRecDepth 100000
set_option linter.unusedVariables false
open Go.RowKit
attribute [local go_sem ↓] Go.wp_at_zero Go.wp_at_succ
theorem Row.argS {base:Nat} {w:World} {v:Value} {xs:List Int} (h:Row base w v xs) (hl:xs.length * 8≤140737488351232):∃ ao ac,v=.slice ao xs.length ac∧ArgT w ao xs ac∧∀ a,ao=some a→base≤a.block:=by
 obtain ⟨ao,ac,e,h1,h2,h3⟩:=h.ints
 rcases h.2 with ⟨e2,h0⟩ | ⟨g,cap,cur,e2,hb,hg,hle,_⟩
 ·rw [e] at e2
  simp only [Value.slice.injEq] at e2
  obtain ⟨rfl,_,rfl⟩:=e2
  exact ⟨none,0,e,⟨⟨h1,by omega,fun _=>⟨h0,rfl⟩,by omega⟩,fun a e=>by cases e⟩,fun a e=>by cases e⟩
 ·rw [e] at e2
  simp only [Value.slice.injEq] at e2
  obtain ⟨rfl,_,rfl⟩:=e2
  exact ⟨_,ac,e,⟨⟨h1,hle,(fun e=>by cases e),by omega⟩,fun a e=>by cases e;exact ⟨cur,hg⟩⟩,fun a e=>by cases e;exact hb⟩
theorem rcopied_any {w:World} {ao:Option Addr} {cap:Nat} {xs:List Int} (hx:Arg w ao xs cap) :
  Calls Try.prog 109 #[.slice ao xs.length cap] w fun e w' => ∃ bo bc,e=.returned (.slice bo xs.length bc)∧ArgT w' bo xs bc∧(∀ a,bo=some a→w.heap.size≤a.block)∧Same0 w w' := by
 have k0:Same0 w (w.alloc (.cells #[] 3)):=(Kept.refl _ w).alloc _
 have r0:Row w.heap.size (w.alloc (.cells #[] 3)) (.slice (some ⟨w.heap.size,0,none⟩) 0 0) []:=row_empty w _ (Nat.le_refl _) rfl
 have cI:=hx.at'.same k0
 have hn:=hx.nil
 have hs:Hid (xs.length * 8≤140737488351232):=hx.size
 have z0:=k0.size
 clear hx
 go_enter Try.func109,Try.ntmps109
 go_wp2_with (first | (at_builtin;refine wpList_more9 rfl _ _ 23 rfl Try.underlying23 w.heap.size [] _ rfl r0 xs _ _ _ rfl rfl cI hn z0 (by have:=hs.out;simp;omega) ?_;intro v' w4 hr4 hk4))
 go_ret
 obtain ⟨bo,bc,rfl,h1,h2⟩:=Row.argS (by simpa using hr4) hs.out
 exact ⟨bo,bc,rfl,h1,h2,k0.onto r0 hk4⟩
set_option maxHeartbeats 1000000 in
theorem rmay_any {w:World} {x:Nd} {ao:Option Addr} {ac:Nat} (hx:Arg w ao x.2.1 ac) (n:Nat) :
  Calls Try.prog 106 #[nodeV x ao ac,.int .i64 (n:Int)] w fun e w' => e=.returned (.bool (mayB n x))∧Same0 w w' := by
 obtain ⟨W0,hW0⟩:∃ W0,W0=w.alloc (.cells #[.int .i64 x.1,.slice ao x.2.1.length ac,.int .i64 x.2.2.1,.bool x.2.2.2.1,.int .i64 x.2.2.2.2] 71):=⟨_,rfl⟩
 have k0:Same0 w W0:=by rw [hW0];exact (Kept.refl _ w).alloc _
 obtain ⟨b0,b1,b2,b3,b4⟩:=box_node' w x ao ac (show Same0 _ W0 by rw [hW0];exact Kept.refl _ _)
 have HE:Hid (mayB n x=(decide (0≤x.1) && decide (x.2.1.length≤6) && decide (0≤x.2.2.1) && decide (x.2.2.1≤2) && x.2.1.all (fun z=>decide (0≤z) && decide (z<(n:Int))) &&
  (if x.2.2.2.1=true then decide (0≤x.2.2.2.2) && decide (x.2.2.2.2<(n:Int)) && decide (x.1=0) && decide (x.2.2.1=0) && decide (x.2.1.length=0) else decide (x.2.2.2.2=0)))):=rfl
 have hsz:=hx.size
 have HI:Hid (IntsAt W0 ao x.2.1):=hx.at'.same k0
 have K0:Hid (Same0 w W0):=k0
 clear k0 hx
 generalize mayB n x=R at *
 obtain ⟨xs,xa,xm,xp,xt⟩:=x
 simp only at *
 by_cases h1:0≤xs
 ·by_cases h2:xa.length≤6
  ·by_cases h3:0≤xm
   ·by_cases h4:xm≤2
    ·have HNO:Hid (∀ k (hk:k<xa.length),¬ (0≤xa[k]∧xa[k]<(n:Int))→R=false):=fun k hk hn=>by
      rw [HE.out]
      have:xa.all (fun z=>decide (0≤z) && decide (z<(n:Int)))=false:=by
       rw [Bool.eq_false_iff]
       intro q
       rw [List.all_eq_true] at q
       have:=q _ (List.getElem_mem hk)
       simp at this
       exact hn this
      rw [this]
      simp
     have HYE:Hid ((∀ k (hk:k<xa.length),0≤xa[k]∧xa[k]<(n:Int))→R=(if xp=true then decide (0≤xt) && decide (xt<(n:Int)) && decide (xs=0) && decide (xm=0) && decide (xa.length=0) else decide (xt=0))):=fun hall=>by
      rw [HE.out]
      have:xa.all (fun z=>decide (0≤z) && decide (z<(n:Int)))=true:=by
       rw [List.all_eq_true]
       intro z hz
       obtain ⟨k,hk,rfl⟩:=List.mem_iff_getElem.1 hz
       simpa using hall k hk
      rw [this]
      simp [h1,h2,h3,h4]
     have j1:¬ xs<0:=by omega
     have j2:¬ (6:Int)<(xa.length:Int):=by omega
     have j3:¬ xm<0:=by omega
     have j4:¬ (2:Int)<xm:=by omega
     clear HE h1 h3 h4
     go_enter Try.func106,Try.ntmps106
     go_upto_region 1 with fail
     rw [← hW0]
     clear hW0
     go_upto_region 4 with fail
     go_loop [5] (fun i=>∃ k:Nat,k≤xa.length∧i=.int .i64 (k:Int)∧Hid (∀ j (hj:j<xa.length),j<k→0≤xa[j]∧xa[j]<(n:Int))) (fun i=>xa.length-(intOf i).toNat)
     case atStart=>exact ⟨0,Nat.zero_le _,rfl,fun j _ hj=>absurd hj (Nat.not_lt_zero _)⟩
     case round=>
      obtain ⟨k,hk,rfl,hall⟩:=hrel
      by_cases hlt:k<xa.length
      ·have i0:(0:Int)≤(k:Int):=by omega
       have i1:(k:Int)<(xa.length:Int):=by omega
       obtain ⟨db,doff,rfl, -,cD⟩:=HI.out.get hlt
       have HN:=HNO.out k hlt
       have HNX:Hid (0≤xa[k]∧xa[k]<(n:Int)→Hid (∀ j (hj:j<xa.length),j<k+1→0≤xa[j]∧xa[j]<(n:Int))):=fun e j hj hjk=>by
        by_cases q:j=k
        ·subst q;exact e
        ·exact hall.out j hj (by omega)
       clear hall
       generalize xa[k]=z at *
       by_cases q1:z<0
       ·have HF:Hid (R=false):=HN (by omega)
        clear HN HNX
        go_wp2
        go_ret
        exact ⟨ret_bool HF.out.symm,K0.out⟩
       ·by_cases q2:(n:Int)≤z
        ·have HF:Hid (R=false):=HN (by omega)
         clear HN HNX
         go_wp2
         go_ret
         exact ⟨ret_bool HF.out.symm,K0.out⟩
        ·have HF:=HNX.out ⟨by omega,by omega⟩
         clear HN HNX
         go_wp2
         go_round
         case rel=>exact ⟨k+1,by omega,by go_num,HF⟩
         case measure=>simp [intOf];omega
      ·obtain rfl:k=xa.length:=by omega
       have HY:=HYE.out (fun j hj=>hall.out j hj hj)
       clear hall HYE HNO
       cases xp
       ·have HY2:Hid (R=decide (xt=0)):=HY.trans (if_neg (by simp))
        clear HY
        by_cases g0:xt=0
        ·have HR:Hid (R=true):=by show _=_;rw [HY2.out];simp [g0]
         clear HY2
         go_wp2
         go_ret
         exact ⟨ret_bool (by first | exact HR.out.symm | (rw [HR.out];simp;done) | (rw [HR.out];simp;assumption)),K0.out⟩
        ·have HR:Hid (R=false):=by show _=_;rw [HY2.out];simp [g0]
         clear HY2
         go_wp2
         go_ret
         exact ⟨ret_bool (by first | exact HR.out.symm | (rw [HR.out];simp;done) | (rw [HR.out];simp;assumption)),K0.out⟩
       ·have HY2:Hid (R=(decide (0≤xt) && decide (xt<(n:Int)) && decide (xs=0) && decide (xm=0) && decide (xa.length=0))):=HY.trans (if_pos rfl)
        clear HY
        by_cases g1:0≤xt
        ·by_cases g2:xt<(n:Int)
         ·by_cases g3:xs=0
          ·by_cases g4:xm=0
           ·have HY3:Hid (R=decide (xa.length=0)):=by show _=_;rw [HY2.out];simp [g1,g2,g3,g4]
            clear HY2
            by_cases g5:xa.length=0
            ·have HR:Hid (R=true):=by show _=_;rw [HY3.out];simpa using g5
             have hxa:xa=[]:=List.eq_nil_of_length_eq_zero g5
             subst hxa
             clear HY3 g5
             go_wp2
             go_ret
             exact ⟨ret_bool (by first | exact HR.out.symm | (rw [HR.out];simp;done) | (rw [HR.out];simp;assumption)),K0.out⟩
            ·have HR:Hid (R=false):=by show _=_;rw [HY3.out];simpa using g5
             have g6:¬ (xa.length:Int)=0:=by omega
             clear HY3
             go_wp2
             go_ret
             exact ⟨ret_bool (by first | exact HR.out.symm | (rw [HR.out];simp;done) | (rw [HR.out];simp;assumption) | (rw [HR.out];simp;intro q;rw [q] at g5;exact g5 rfl)),K0.out⟩
           ·have HR:Hid (R=false):=by show _=_;rw [HY2.out];simp [g4]
            clear HY2
            go_wp2
            go_ret
            exact ⟨ret_bool (by first | exact HR.out.symm | (rw [HR.out];simp;done) | (rw [HR.out];simp;assumption)),K0.out⟩
          ·have HR:Hid (R=false):=by show _=_;rw [HY2.out];simp [g3]
           clear HY2
           go_wp2
           go_ret
           exact ⟨ret_bool (by first | exact HR.out.symm | (rw [HR.out];simp;done) | (rw [HR.out];simp;assumption)),K0.out⟩
         ·have HR:Hid (R=false):=by show _=_;rw [HY2.out];simp [g2]
          clear HY2
          go_wp2
          go_ret
          exact ⟨ret_bool (by first | exact HR.out.symm | (rw [HR.out];simp;done) | (rw [HR.out];simp;assumption)),K0.out⟩
        ·have HR:Hid (R=false):=by show _=_;rw [HY2.out];simp [g1]
         have g1' : ¬ xt ≥ 0:=g1
         clear HY2
         go_wp2
         go_ret
         exact ⟨ret_bool (by first | exact HR.out.symm | (rw [HR.out];simp;done) | (rw [HR.out];simp;assumption)),K0.out⟩
    ·have HR:Hid (R=false):=by show _=_;rw [HE.out];simp [h4]
     have j1:¬ xs<0:=by omega
     have j2:¬ (6:Int)<(xa.length:Int):=by omega
     have j3:¬ xm<0:=by omega
     have j4:(2:Int)<xm:=by omega
     clear HE HI
     go_enter Try.func106,Try.ntmps106
     go_upto_region 1 with fail
     rw [← hW0]
     clear hW0
     go_wp2
     go_ret
     exact ⟨ret_bool (by first | exact HR.out.symm | (rw [HR.out];simp;done) | (rw [HR.out];simp;assumption)),K0.out⟩
   ·have HR:Hid (R=false):=by show _=_;rw [HE.out];simp [h3]
    have j1:¬ xs<0:=by omega
    have j2:¬ (6:Int)<(xa.length:Int):=by omega
    have j3:xm<0:=by omega
    clear HE HI
    go_enter Try.func106,Try.ntmps106
    go_upto_region 1 with fail
    rw [← hW0]
    clear hW0
    go_wp2
    go_ret
    exact ⟨ret_bool (by first | exact HR.out.symm | (rw [HR.out];simp;done) | (rw [HR.out];simp;assumption)),K0.out⟩
  ·have HR:Hid (R=false):=by show _=_;rw [HE.out];simp [h2]
   have j1:¬ xs<0:=by omega
   have j2:(6:Int)<(xa.length:Int):=by omega
   clear HE HI
   go_enter Try.func106,Try.ntmps106
   go_upto_region 1 with fail
   rw [← hW0]
   clear hW0
   go_wp2
   go_ret
   exact ⟨ret_bool (by first | exact HR.out.symm | (rw [HR.out];simp;done) | (rw [HR.out];simp;assumption)),K0.out⟩
 ·have HR:Hid (R=false):=by show _=_;rw [HE.out];simp [h1]
  have j1:xs<0:=by omega
  clear HE HI
  go_enter Try.func106,Try.ntmps106
  go_upto_region 1 with fail
  rw [← hW0]
  clear hW0
  go_wp2
  go_ret
  exact ⟨ret_bool (by first | exact HR.out.symm | (rw [HR.out];simp;done) | (rw [HR.out];simp;assumption)),K0.out⟩
structure RhB (B:Nat→Prop) (w:World) (r room:Nat) (v:Value) (l:List Nd):Prop where
 box:w.heap[r]? = some (.cells #[.int .i64 (room:Int),v] 46 (0,0))
 row:NRow B 0 w v l
 rm1:1≤room
 rm2:room≤4000
 le:l.length≤room
 may:∀ x∈l,mayB l.length x=true
 ac:Ac l
theorem RhB.lt {B:Nat→Prop} {w:World} {r room:Nat} {v:Value} {l:List Nd} (p:RhB B w r room v l):r<w.heap.size:=lt_of_at p.box
theorem RhB.noti {B:Nat→Prop} {w:World} {r room:Nat} {v:Value} {l:List Nd} (p:RhB B w r room v l):NotI w r:=fun cur h=>by rw [p.box] at h;cases h
theorem RhB.inl {B:Nat→Prop} {w:World} {r room:Nat} {v:Value} {l:List Nd} (p:RhB B w r room v l):InL l:=inl_of_may p.may
theorem RhB.cells {B:Nat→Prop} {w:World} {r room:Nat} {v:Value} {l:List Nd} (p:RhB B w r room v l):w.cell? ⟨r,0,none⟩=some (.int .i64 (room:Int))∧w.cell? ⟨r,1,none⟩=some v:=⟨cellAt p.box 0,cellAt p.box 1⟩
theorem RhB.kept {B S:Nat→Prop} {w w' : World} {r room:Nat} {v:Value} {l:List Nd} (p:RhB B w r room v l) (hk:Kept S w w') (n1:¬ S r) (n2:∀ k,v.ownBlock=some k→¬ S k) (hS:∀ k,B k→S k→NotI w k):RhB B w' r room v l:=
 ⟨hk.at p.box n1,p.row.kept hk n2 hS,p.rm1,p.rm2,p.le,p.may,p.ac⟩
theorem RhB.same {B:Nat→Prop} {w w' : World} {r room:Nat} {v:Value} {l:List Nd} (p:RhB B w r room v l) (hk:Same0 w w'):RhB B w' r room v l:=p.kept hk (fun f=>f) (fun _ _ f=>f) (fun _ _ f=>f.elim)
theorem RhB.mem {B:Nat→Prop} {w:World} {r room:Nat} {v:Value} {l:List Nd} (p:RhB B w r room v l):∃ ao cap,v=.slice ao l.length cap∧NsM B w ao l:=by
 obtain ⟨ao,cap,rfl⟩:=p.row.shape
 exact ⟨ao,cap,rfl,p.row.mem⟩
set_option maxHeartbeats 1000000 in
theorem rnew_yes (n:Nat) (w:World) (h1:1≤n) (h2:n≤4000):Calls Try.prog 38 #[.int .i64 (n:Int)] w fun e w' => ∃ r,e=.returned (.tuple #[.pointer (some ⟨r,0,none⟩),.int .i64 0])∧RhB (fun _=>False) w' r n (.slice none 0 0) []∧Same0 w w' ∧ w.heap.size≤r:=by
 have i1:¬ (n:Int)<1:=by omega
 have i2:¬ (4000:Int)<(n:Int):=by omega
 go_enter Try.func38,Try.ntmps38
 go_wp2
 go_ret2
 exact ⟨w.heap.size,rfl,⟨heap_alloc_new w _,NRow.nil _ _ _,h1,h2,Nat.zero_le _,fun x hx=>absurd hx (by simp),Ac.nil⟩,(Kept.refl _ w).alloc _,Nat.le_refl _⟩
theorem set_box {w:World} {b:Nat} {v0 v1 v2 v3 v4:Value} {t:TypeId} (h:w.heap[b]? = some (.cells #[v0,v1,v2,v3,v4] t (0,0))) (u:Value):(w.setCell ⟨b,1,none⟩ u).heap[b]? = some (.cells #[v0,u,v2,v3,v4] t (0,0)):=setAt h 1 u
set_option maxHeartbeats 2000000 in
theorem rnodes_any {w:World} {ao:Option Addr} {ac:Nat} {l:List Nd} (h:NsW w ao l) (hsz:l.length * 56≤140737488351232) :
  Calls Try.prog 87 #[.slice ao l.length ac] w fun e w' => ∃ v,e=.returned v∧NRow (fun b=>w.heap.size≤b) w.heap.size w' v l∧Same0 w w' := by
 have HX:Hid (∀ ww,Same0 w ww→NsW ww ao l):=fun ww hw=>h.same hw
 have KR:Same0 w w:=Kept.refl _ _
 clear h
 go_enter Try.func87,Try.ntmps87
 go_wp2
 go_loopw [3,4] (fun v i wr=>∃ k:Nat,i=.int .i64 (k:Int)∧k≤l.length∧NRow (fun b=>w.heap.size≤b) w.heap.size wr v (l.take k)∧Same0 w wr) (fun _ i _=>l.length-(intOf i).toNat)
 case atStart=>exact ⟨0,rfl,Nat.zero_le _,NRow.nil _ _ _,KR⟩
 case round=>
  clear KR
  obtain ⟨k,rfl,hk,hrow,hw⟩:=hrel
  obtain ⟨vo,vc,rfl⟩:=hrow.shape
  have hlk:(l.take k).length=k:=by simp;omega
  rw [hlk] at hrow
  by_cases hlt:k<l.length
  ·have j1:(k:Int)<(l.length:Int):=by omega
   have j2:(0:Int)≤(k:Int):=by omega
   rcases HX.out wr hw with e | ⟨nb,noff,e,hnb,hn⟩
   ·rw [e] at hlt;simp at hlt
   subst e
   obtain ⟨xo,xc,n0,n1,n2,n3,n4,n5⟩:=hn k hlt
   have HT:Hid (l.take (k+1)=l.take k ++ [l[k]]):=List.take_succ_eq_append_getElem hlt
   have HLK:Hid ((l.take k).length=k):=hlk
   obtain ⟨W3,hW3⟩:∃ W3,W3=wr.alloc (.cells #[.int .i64 l[k].1,.slice xo l[k].2.1.length xc,.int .i64 l[k].2.2.1,.bool l[k].2.2.2.1,.int .i64 l[k].2.2.2.2] 71):=⟨_,rfl⟩
   have kb:Same0 wr W3:=by rw [hW3];exact (Kept.refl _ _).alloc _
   have hbx:W3.heap[wr.heap.size]? = some (.cells #[.int .i64 l[k].1,.slice xo l[k].2.1.length xc,.int .i64 l[k].2.2.1,.bool l[k].2.2.2.1,.int .i64 l[k].2.2.2.2] 71 (0,0)):=by rw [hW3];exact heap_alloc_new wr _
   obtain ⟨x0,x1,x2,x3,x4⟩:=box5 hbx
   have HBX:Hid (∀ ww,Same0 W3 ww→ww.heap[wr.heap.size]? = some (.cells #[.int .i64 l[k].1,.slice xo l[k].2.1.length xc,.int .i64 l[k].2.2.1,.bool l[k].2.2.2.1,.int .i64 l[k].2.2.2.2] 71 (0,0))):=fun ww hk=>hk.at0 hbx
   have CC:=rcopied_any (n5.onto kb)
   rw [hlk]
   clear n5 hn hlk hbx
   go_upto_region 6 with fail
   rw [← hW3]
   clear hW3 n0 n1 n2 n3 n4
   go_upto_region 7 with (first | (go_at_call 109;refine CC.mono ?_;rintro e w5 ⟨bo,bc,rfl,ha,hbb,k5⟩;have q5:=HBX.out w5 k5;obtain ⟨u0,u1,u2,u3,u4⟩:=box5 q5;obtain ⟨-,f1, -, -, -⟩:=free5 q5))
   obtain ⟨W6,hW6⟩:∃ W6,W6=w5.setCell ⟨wr.heap.size,1,none⟩ (.slice bo l[k].2.1.length bc):=⟨_,rfl⟩
   rw [← hW6]
   have q6:W6.heap[wr.heap.size]? = some (.cells #[.int .i64 l[k].1,.slice bo l[k].2.1.length bc,.int .i64 l[k].2.2.1,.bool l[k].2.2.2.1,.int .i64 l[k].2.2.2.2] 71 (0,0)):=by rw [hW6];exact set_box q5 _
   obtain ⟨y0,y1,y2,y3,y4⟩:=box5 q6
   have K6:Kept (fun i=>i=wr.heap.size) w5 W6:=by rw [hW6];exact Kept.setCell (S:=fun i=>i=wr.heap.size) (Kept.refl _ _) (p:=⟨wr.heap.size,1,none⟩) (fun _=>rfl) _
   have KW:Same0 wr W6:=(kb.trans' k5).trans K6 (fun i hi e=>by omega)
   have ha6:ArgT W6 bo l[k].2.1 bc:=ha.kept K6 (fun i e cur hc=>by rw [e,q5] at hc;cases hc)
   have hr6:=hrow.same KW
   have hsz6:w.heap.size≤W6.heap.size:=(hw.trans' KW).size
   have hbb' : ∀ b,bo=some b→w.heap.size≤b.block:=fun b e=>Nat.le_trans (Nat.le_trans hw.size kb.size) (hbb b e)
   have kW:=(Kept.refl (fun _=>False) W6).alloc (.cells #[.int .i64 l[k].1,.slice bo l[k].2.1.length bc,.int .i64 l[k].2.2.1,.bool l[k].2.2.2.1,.int .i64 l[k].2.2.2.2] 71)
   have hq:=heap_at_node W6 l[k] bo bc
   have HKK:Hid (∀ ww,Kept (fun i=>(Value.slice vo k vc).ownBlock=some i) W6 ww→Same0 w ww):=fun ww hk=>NRow.onto (hw.trans' KW) hr6 hk
   clear hW6 CC q5 q6 u0 u1 u2 u3 u4 f1 x0 x1 x2 x3 x4 ha hbb k5 kb K6 hrow
   go_wp2_with (first | (at_builtin;refine wpList_nd rfl _ _ rfl w.heap.size (l.take k) _ rfl kW hr6 l[k] bo bc _ rfl hq ha6 hbb' hsz6 (by rw [HLK.out];omega) ?_;rw [HLK.out];intro g4 cap4 w4 hr4 hk4 hor))
   have hr5:NRow (fun b=>w.heap.size≤b) w.heap.size w4 (.slice (some ⟨g4,0,none⟩) (k+1) cap4) (l.take (k+1)):=by rw [HT.out];exact hr4
   have hk5:Same0 w w4:=HKK.out w4 hk4
   go_roundw
   case rel=>first | exact ⟨k+1,by go_num,by omega,hr5,hk5⟩ | ((repeat apply Exists.intro);exact ⟨⟨k+1,by go_num,by omega,hr5,hk5⟩,rfl⟩)
   case measure=>simp [intOf];omega
  ·obtain rfl:k=l.length:=by omega
   rw [List.take_length] at *
   clear hlk
   go_wp2
   go_ret
   exact ⟨_,rfl,hrow,hw⟩
def eqI (xs ys:List Int):Bool:=decide (xs=ys)
def eqN (x y:Nd):Bool:=decide (x=y)
theorem eqI_no {xs ys:List Int} {k:Nat} (h1:k<xs.length) (h2:k<ys.length) (h:xs[k]≠ys[k]):eqI xs ys=false:=by
 unfold eqI;simp;rintro rfl;exact h rfl
theorem eqI_yes {xs ys:List Int} (hl:xs.length=ys.length) (h:∀ k (h1:k<xs.length) (h2:k<ys.length),xs[k]=ys[k]):eqI xs ys=true:=by
 unfold eqI;simp;exact List.ext_getElem hl (fun k h1 h2=>h k h1 h2)
set_option maxHeartbeats 1000000 in
theorem sameInts_any {w:World} {ao bo:Option Addr} {xs ys:List Int} (ac bc:Nat) (hx:IntsAt w ao xs) (hy:IntsAt w bo ys) (hm:xs.length≤maxLen) :
  Calls Try.prog 20 #[.slice ao xs.length ac,.slice bo ys.length bc] w fun e w' => e=.returned (.bool (eqI xs ys))∧Same0 w w' := by
 unfold maxLen at hm
 by_cases hl:xs.length=ys.length
 ·have hl' : (xs.length:Int)=(ys.length:Int):=by omega
  have HX:Hid (∀ ww,Same0 w ww→∀ k (hk:k<xs.length),∃ b off,ao=some ⟨b,off,none⟩∧ww.cell? ⟨b,off+k,none⟩=some (.int .i64 xs[k])):=fun ww hw k hk=>by
   obtain ⟨b,off,e,_,hc⟩:=(hx.same hw).get hk
   exact ⟨b,off,e,hc⟩
  have HY:Hid (∀ ww,Same0 w ww→∀ k (hk:k<ys.length),∃ b off,bo=some ⟨b,off,none⟩∧ww.cell? ⟨b,off+k,none⟩=some (.int .i64 ys[k])):=fun ww hw k hk=>by
   obtain ⟨b,off,e,_,hc⟩:=(hy.same hw).get hk
   exact ⟨b,off,e,hc⟩
  have HL:Hid (xs.length=ys.length):=hl
  have KR:Same0 w w:=Kept.refl _ _
  clear hx hy hl
  go_enter Try.func20,Try.ntmps20
  go_wp2
  go_loopw [5] (fun i wr=>∃ k:Nat,k≤xs.length∧i=.int .i64 k∧Hid (∀ j (h1:j<xs.length) (h2:j<ys.length),j<k→xs[j]=ys[j])∧Same0 w wr) (fun i _=>xs.length-(intOf i).toNat)
  case atStart=>exact ⟨0,Nat.zero_le _,rfl,fun j _ _ hj=>absurd hj (Nat.not_lt_zero _),KR⟩
  case round=>
   clear KR
   obtain ⟨k,hk,rfl,hall,hw⟩:=hrel
   by_cases hlt:k<xs.length
   ·have hlt' : k<ys.length:=by rw [← HL.out];exact hlt
    obtain ⟨b,off,rfl,hc⟩:=HX.out wr hw k hlt
    obtain ⟨b', off', rfl,hc'⟩:=HY.out wr hw k hlt'
    have i1:(0:Int)≤(k:Int):=by omega
    have i2:(k:Int)<(xs.length:Int):=by omega
    have i3:(k:Int)<(ys.length:Int):=by omega
    obtain ⟨u,hu⟩:∃ u,u=xs[k]:=⟨_,rfl⟩
    obtain ⟨u', hu'⟩:∃ u', u' = ys[k]:=⟨_,rfl⟩
    rw [← hu] at hc
    rw [← hu'] at hc'
    by_cases he:u=u'
    ·have HE:Hid (xs[k]=ys[k]):=by show _=_;rw [← hu,← hu', he]
     clear hu hu' HX HY
     subst he
     go_upto_region 6 with fail
     go_quiet (fail)
     go_wp2
     go_roundw
     case rel=>exact ⟨k+1,by omega,by go_num,fun j h1 h2 hj=>by
      by_cases e:j=k
      ·subst e;exact HE.out
      ·exact hall.out j h1 h2 (by omega),hw.drewN _⟩
     case measure=>simp [intOf];omega
    ·have HE:Hid (eqI xs ys=false):=eqI_no hlt hlt' (by rw [← hu,← hu'];exact he)
     clear hu hu' HX HY
     go_upto_region 6 with fail
     go_quiet (fail)
     go_wp2
     go_ret
     exact ⟨ret_bool HE.out.symm,hw.drewN _⟩
   ·obtain rfl:k=xs.length:=by omega
    have HE:Hid (eqI xs ys=true):=eqI_yes HL.out (fun j h1 h2=>hall.out j h1 h2 h1)
    clear HX HY hall
    go_wp2
    go_ret
    exact ⟨ret_bool HE.out.symm,hw⟩
 ·have HE:Hid (eqI xs ys=false):=by show _=_;unfold eqI;simp;rintro rfl;exact hl rfl
  have hl' : ¬ (xs.length:Int)=(ys.length:Int):=by omega
  clear hx hy hl
  go_enter Try.func20,Try.ntmps20
  go_wp2
  go_ret
  exact ⟨ret_bool HE.out.symm,Kept.refl _ _⟩
theorem eqN_no {x y:Nd} (h:¬ (x.1=y.1∧x.2.2.1=y.2.2.1∧x.2.2.2.1=y.2.2.2.1∧x.2.2.2.2=y.2.2.2.2)):eqN x y=false:=by
 unfold eqN;simp;rintro rfl;exact h ⟨rfl,rfl,rfl,rfl⟩
theorem eqN_same {x y:Nd} (h:x.1=y.1∧x.2.2.1=y.2.2.1∧x.2.2.2.1=y.2.2.2.1∧x.2.2.2.2=y.2.2.2.2):eqN x y=eqI x.2.1 y.2.1:=by
 obtain ⟨a,b,c,d,e⟩:=x
 obtain ⟨a', b', c', d', e'⟩:=y
 obtain ⟨h1,h2,h3,h4⟩:=h
 simp only at h1 h2 h3 h4
 subst h1 h2 h3 h4
 unfold eqN eqI
 simp
set_option maxHeartbeats 2000000 in
theorem sameNode_any {w:World} {x y:Nd} {ao bo:Option Addr} {ac bc:Nat} (hx:Arg w ao x.2.1 ac) (hy:Arg w bo y.2.1 bc) :
  Calls Try.prog 44 #[nodeV x ao ac,nodeV y bo bc] w fun e w' => e=.returned (.bool (eqN x y))∧Same0 w w' := by
 obtain ⟨W1,hW1⟩:∃ W1,W1=(w.alloc (.cells #[.int .i64 x.1,.slice ao x.2.1.length ac,.int .i64 x.2.2.1,.bool x.2.2.2.1,.int .i64 x.2.2.2.2] 71)).alloc (.cells #[.int .i64 y.1,.slice bo y.2.1.length bc,.int .i64 y.2.2.1,.bool y.2.2.2.1,.int .i64 y.2.2.2.2] 71):=⟨_,rfl⟩
 have K1:Same0 w W1:=by rw [hW1];exact ((Kept.refl _ w).alloc _).alloc _
 obtain ⟨x0,x1,x2,x3,x4⟩:=box_node' w x ao ac (show Same0 _ W1 by rw [hW1];exact (Kept.refl _ _).alloc _)
 obtain ⟨y0,y1,y2,y3,y4⟩:=box_node' _ y bo bc (show Same0 _ W1 by rw [hW1];exact Kept.refl _ _)
 simp only [World.size_alloc] at y0 y1 y2 y3 y4
 have hxm:x.2.1.length≤maxLen:=by have:=hx.size;unfold maxLen;omega
 have CI:=sameInts_any ac bc (hx.at'.same K1) (hy.at'.same K1) hxm
 have HK:Hid (∀ ww,Same0 W1 ww→Same0 w ww):=fun ww hk=>K1.trans' hk
 have HW:Hid (Same0 W1 W1):=Kept.refl _ _
 have HE:Hid (x.1=y.1→x.2.2.1=y.2.2.1→x.2.2.2.1=y.2.2.2.1→x.2.2.2.2=y.2.2.2.2→eqN x y=eqI x.2.1 y.2.1):=fun a b c d=>eqN_same ⟨a,b,c,d⟩
 have HN:Hid (¬ (x.1=y.1∧x.2.2.1=y.2.2.1∧x.2.2.2.1=y.2.2.2.1∧x.2.2.2.2=y.2.2.2.2)→eqN x y=false):=fun h=>eqN_no h
 clear hx hy K1
 generalize eqN x y=R at *
 generalize eqI x.2.1 y.2.1=I at *
 obtain ⟨sx,ax,mx,px,tx⟩:=x
 obtain ⟨sy,ay,my,py,ty⟩:=y
 simp only at *
 have go:∀ b:Bool,(sx=sy∧mx=my∧px=py∧tx=ty)∨¬ (sx=sy∧mx=my∧px=py∧tx=ty):=fun _=>Classical.em _
 by_cases e1:sx=sy
 ·subst e1
  by_cases e2:mx=my
  ·subst e2
   by_cases e3:px=py
   ·subst e3
    by_cases e4:tx=ty
    ·subst e4
     have HR:Hid (R=I):=HE.out rfl rfl rfl rfl
     clear HE HN go
     go_enter Try.func44,Try.ntmps44
     go_upto_region 1 with fail
     rw [← hW1]
     clear hW1
     go_wp2_with (first | (go_at_call 20;refine CI.mono ?_;rintro e w3 ⟨rfl,k3⟩))
     go_ret
     exact ⟨ret_bool HR.out.symm,HK.out _ k3⟩
    ·have HR:Hid (R=false):=HN.out (fun h=>e4 h.2.2.2)
     clear HE HN go
     go_enter Try.func44,Try.ntmps44
     go_upto_region 1 with fail
     rw [← hW1]
     clear hW1
     go_wp2
     go_ret
     exact ⟨ret_bool HR.out.symm,HK.out _ HW.out⟩
   ·have HR:Hid (R=false):=HN.out (fun h=>e3 h.2.2.1)
    clear HE HN go
    go_enter Try.func44,Try.ntmps44
    go_upto_region 1 with fail
    rw [← hW1]
    clear hW1
    go_wp2
    go_ret
    exact ⟨ret_bool HR.out.symm,HK.out _ HW.out⟩
  ·have HR:Hid (R=false):=HN.out (fun h=>e2 h.2.1)
   clear HE HN go
   go_enter Try.func44,Try.ntmps44
   go_upto_region 1 with fail
   rw [← hW1]
   clear hW1
   go_wp2
   go_ret
   exact ⟨ret_bool HR.out.symm,HK.out _ HW.out⟩
 ·have HR:Hid (R=false):=HN.out (fun h=>e1 h.1)
  clear HE HN go
  go_enter Try.func44,Try.ntmps44
  go_upto_region 1 with fail
  rw [← hW1]
  clear hW1
  go_wp2
  go_ret
  exact ⟨ret_bool HR.out.symm,HK.out _ HW.out⟩
set_option maxHeartbeats 1000000 in
theorem down_any {w:World} {x:Nd} {ao:Option Addr} {ac:Nat} (hx:Arg w ao x.2.1 ac) :
  Calls Try.prog 66 #[nodeV x ao ac] w fun e w' => ∃ bo bc,e=.returned (.slice bo (downL x).length bc)∧IntsAt w' bo (downL x)∧(∀ a,bo=some a→(ao=some a∧downL x=x.2.1)∨(w.heap.size≤a.block∧a.block<w'.heap.size))∧Same0 w w' := by
 obtain ⟨W0,hW0⟩:∃ W0,W0=w.alloc (.cells #[.int .i64 x.1,.slice ao x.2.1.length ac,.int .i64 x.2.2.1,.bool x.2.2.2.1,.int .i64 x.2.2.2.2] 71):=⟨_,rfl⟩
 have k0:Same0 w W0:=by rw [hW0];exact (Kept.refl _ w).alloc _
 have hb:W0.heap[w.heap.size]? = some (.cells #[.int .i64 x.1,.slice ao x.2.1.length ac,.int .i64 x.2.2.1,.bool x.2.2.2.1,.int .i64 x.2.2.2.2] 71 (0,0)):=by rw [hW0];exact heap_alloc_new w _
 obtain ⟨b0,b1,b2,b3,b4⟩:=box5 hb
 have hz:=k0.size
 obtain ⟨pb,hp⟩:∃ pb,x.2.2.2.1=pb:=⟨_,rfl⟩
 cases pb
 ·have hd:downL x=x.2.1:=by unfold downL;rw [hp];rfl
  have H:Hid (IntsAt W0 ao x.2.1∧Same0 w W0):=⟨hx.at'.same k0,k0⟩
  rw [hd]
  rw [hp] at b3
  clear hd hx k0 hb hz hp
  go_enter Try.func66,Try.ntmps66
  go_upto_region 1 with fail
  rw [← hW0]
  clear hW0
  go_wp2
  go_ret
  exact ⟨ao,ac,rfl,H.out.1,fun a e=>.inl ⟨e,by first | trivial | rfl⟩,H.out.2⟩
 ·have hd:downL x=[x.2.2.2.2]:=by unfold downL;rw [hp];rfl
  have H:Hid (IntsAt (W0.alloc (.cells #[.int .i64 x.2.2.2.2] 3)) (some ⟨W0.heap.size,0,none⟩) [x.2.2.2.2]∧(∀ a,some (⟨W0.heap.size,0,none⟩:Addr)=some a→(ao=some a∧[x.2.2.2.2]=x.2.1)∨(w.heap.size≤a.block∧a.block<(W0.alloc (.cells #[.int .i64 x.2.2.2.2] 3)).heap.size))∧Same0 w (W0.alloc (.cells #[.int .i64 x.2.2.2.2] 3))):=⟨ints_one _ _,fun a e=>by cases e;exact .inr ⟨hz,by simp⟩,k0.alloc _⟩
  rw [hd]
  rw [hp] at b3
  clear hd hx k0 hb hz hp
  go_enter Try.func66,Try.ntmps66
  go_upto_region 1 with fail
  rw [← hW0]
  clear hW0
  go_wp2
  go_ret
  exact ⟨_,1,rfl,H.out.1,H.out.2.1,H.out.2.2⟩
def falses (w:World) (mb N:Nat):Nat:=(List.range N).countP (fun i=>match w.cell? ⟨mb,i,none⟩ with | some (.bool false)=>true | _=>false)
theorem falses_row {w:World} {base mb N:Nat} {s:List Bool} (h:w.ownsRow base 4 1 (.slice (some ⟨mb,0,none⟩) N N) N (bv s)):falses w mb N=s.count false:=by
 have hl:s.length=N:=by have:=h.1;simp [bv] at this;omega
 subst hl
 unfold falses
 have:∀ i,i<s.length→(match w.cell? ⟨mb,i,none⟩ with | some (.bool false)=>true | _=>false)=(s.getD i true == false):=fun i hi=>by
  obtain ⟨b,h1,h2,_⟩:=row_bool h hi
  rw [h2,List.getD_eq_getElem?_getD,h1]
  cases b <;> rfl
 rw [List.countP_congr (q:=fun i=>s.getD i true == false) (fun i hi=>by rw [this i (by simpa using hi)])]
 clear this h
 induction s with
 | nil=>rfl
 | cons b t ih=>
  rw [List.length_cons,List.range_succ_eq_map,List.countP_cons,List.countP_map,List.count_cons]
  have:((fun i=>(b :: t).getD i true == false) ∘ Nat.succ)=fun i=>t.getD i true == false:=by funext i;simp
  rw [this,ih]
  simp
def Mk (s:List Bool) (i:Nat):Prop:=s[i]? = some true
theorem Mk.set {s:List Bool} {k:Nat} (h:k<s.length) (i:Nat):Mk (s.set k true) i ↔ Mk s i∨i=k:=by
 unfold Mk
 rw [List.getElem?_set]
 by_cases e:k=i
 ·subst e;simp [h]
 ·rw [if_neg e];constructor
  ·exact .inl
  ·rintro (q | q)
   ·exact q
   ·exact absurd q.symm e
theorem snd_set {l:List Nd} {s:List Bool} (h:Snd l (Mk s)) {k:Nat} (hk:k<s.length) (ha:∀ j,Ed l k j→Mk s j):Snd l (Mk (s.set k true)):=by
 obtain ⟨r,hr⟩:=h.more ha
 refine ⟨r,fun i j hi e=>?_⟩
 obtain ⟨q1,q2⟩:=hr i j ((Mk.set hk i).1 hi) e
 exact ⟨(Mk.set hk j).2 q1,q2⟩
theorem count_set {s:List Bool} {k:Nat} (h:s[k]? = some false):(s.set k true).count false+1=s.count false:=by
 obtain ⟨hk,hv⟩:=List.getElem?_eq_some_iff.1 h
 have hc:0<s.count false:=List.count_pos_iff.2 (hv ▸ List.getElem_mem hk)
 rw [List.count_set hk]
 simp [hv]
 omega
def Pass (l:List Nd) (s0:List Bool) (C k:Nat) (again:Bool) (s:List Bool):Prop:=
 (again=false∧s=s0∧∀ j,j<k→(∀ m,Ed l j m→Mk s0 m)→Mk s0 j)∨(again=true∧s.count false<C)
end Go.Proofs.Ytpimndkhoalaeaa
