import Derived.Test.YtfojfpnjnpkabaaGreatGF15
import Derived.Test.YtfojfpnjnpkabaaGreatGF25
import Derived.Test.YtfojfpnjnpkabaaGreatGF19
import Derived.Test.YtfojfpnjnpkabaaGreatGF18
import Derived.Test.YtfojfpnjnpkabaaGreatGF20
import Derived.Test.YtfojfpnjnpkabaaGreatGF05
import Derived.Test.YtfojfpnjnpkabaaGreatGF17
import Derived.Deep.RegionHeld3
namespace Go.Proofs.YtfojfpnjnpkabaaGreat
set_option maxRecDepth 100000
set_option linter.unusedVariables false
open Go.RowKit
attribute [local go_sem ↓] Go.wp_at_zero Go.wp_at_succ
def SmT:(n:Nat)→Tr n→Prop
 | 0,_=>True
 | n+1,(k,r,p,l)=>l.length≤1000000000∧∀ i (h:i<l.length),SmT n l[i].2
def SameIH (n:Nat):Prop:=∀ (w:World) (a b:Value) (t:Tr n) (B B' : Nat→Prop),CsB B w n a t→CsB B' w n b t→SmT n t→Calls Tryz.prog 11 #[a,b] w fun e w' => e=.returned (.bool true)∧Same0 w w'
theorem sameB_self (p:List Int):sameB p p=true:=by simp [sameB]
set_option maxHeartbeats 8000000 in
theorem csame_step {n:Nat} (IH:SameIH n):SameIH (n+1):=by
 intro w va vb t B B' ha hb hsm
 obtain ⟨k,r,p,l⟩:=t
 obtain ⟨hl9,hsk⟩:=hsm
 obtain ⟨po,pc,ko,kc,rfl,a2,a3,a4,a5,a6⟩:=ha
 obtain ⟨po', pc', ko', kc', rfl,b2,b3,b4,b5,b6⟩:=hb
 obtain ⟨W1,hW1⟩:∃ W1,W1=(w.alloc (.cells #[.int .i64 k,.int .i64 r,.slice po p.length pc,.slice ko l.length kc] 35)).alloc (.cells #[.int .i64 k,.int .i64 r,.slice po' p.length pc', .slice ko' l.length kc'] 35):=⟨_,rfl⟩
 have KW:Same0 w W1:=by rw [hW1];exact ((Kept.refl _ w).alloc _).alloc _
 have BX:Hid (∀ ww,Same0 W1 ww→(ww.cell? ⟨w.heap.size,0,none⟩=some (.int .i64 k)∧ww.cell? ⟨w.heap.size,1,none⟩=some (.int .i64 r)∧ww.cell? ⟨w.heap.size,2,none⟩=some (.slice po p.length pc)∧ww.cell? ⟨w.heap.size,3,none⟩=some (.slice ko l.length kc))∧ww.cell? ⟨w.heap.size+1,0,none⟩=some (.int .i64 k)∧ww.cell? ⟨w.heap.size+1,1,none⟩=some (.int .i64 r)∧ww.cell? ⟨w.heap.size+1,2,none⟩=some (.slice po' p.length pc')∧ww.cell? ⟨w.heap.size+1,3,none⟩=some (.slice ko' l.length kc')):=fun ww hk=>by
  have h1:=hk.at0 (show W1.heap[w.heap.size]? = _ by rw [hW1];exact heap_alloc2_old _ _ _)
  have h2:=hk.at0 (show W1.heap[w.heap.size+1]? = _ by rw [hW1];exact heap_al_al _ _ _)
  exact ⟨⟨cellAt h1 0,cellAt h1 1,cellAt h1 2,cellAt h1 3⟩,cellAt h2 0,cellAt h2 1,cellAt h2 2,cellAt h2 3⟩
 have CP:=same_any (acap:=pc) (bcap:=pc') (a2.at'.same KW) (b2.at'.same KW) (by have:=a2.size;unfold maxLen;omega)
 rw [sameB_self] at CP
 have CI:Hid (∀ ww a b (t:Tr n) B B', CsB B ww n a t→CsB B' ww n b t→SmT n t→Calls Tryz.prog 11 #[a,b] ww fun e w' => e=.returned (.bool true)∧Same0 ww w'):=fun ww a b t B B' => IH ww a b t B B'
 have A6:Hid (l=[]∨∃ b off,ko=some ⟨b,off,none⟩∧B b∧b<w.heap.size∧∀ i (h:i<l.length),∃ c0 c1 c2 c3,w.cell? ⟨b,off+i * 5,none⟩=some (.int .i64 l[i].1)∧w.cell? ⟨b,off+i * 5+1,none⟩=some c0∧w.cell? ⟨b,off+i * 5+2,none⟩=some c1∧w.cell? ⟨b,off+i * 5+3,none⟩=some c2∧w.cell? ⟨b,off+i * 5+4,none⟩=some c3∧CsB B w n (.agg #[c0,c1,c2,c3]) l[i].2):=a6
 have B6:Hid (l=[]∨∃ b off,ko' = some ⟨b,off,none⟩∧B' b∧b<w.heap.size∧∀ i (h:i<l.length),∃ c0 c1 c2 c3,w.cell? ⟨b,off+i * 5,none⟩=some (.int .i64 l[i].1)∧w.cell? ⟨b,off+i * 5+1,none⟩=some c0∧w.cell? ⟨b,off+i * 5+2,none⟩=some c1∧w.cell? ⟨b,off+i * 5+3,none⟩=some c2∧w.cell? ⟨b,off+i * 5+4,none⟩=some c3∧CsB B' w n (.agg #[c0,c1,c2,c3]) l[i].2):=b6
 obtain ⟨⟨x0,x1,x2,x3⟩,y0,y1,y2,y3⟩:=BX.out W1 (Kept.refl _ _)
 have ek:(k == k)=true:=by simp
 have er:(r == r)=true:=by simp
 have el:((l.length:Int) == (l.length:Int))=true:=by simp
 have HSK:Hid (∀ i (h:i<l.length),SmT n l[i].2):=hsk
 clear a6 b6 IH a2 b2 a3 b3 a4 b4 hsk
 go_enter Tryz.func11,Tryz.ntmps11
 go_upto_region 1 with fail
 rw [← hW1]
 clear hW1
 go_upto_region 2 with (first | (go_at_call 39;refine CP.mono ?_;rintro e w2 ⟨rfl,k2⟩))
 obtain ⟨⟨u0,u1,u2,u3⟩,v0,v1,v2,v3⟩:=BX.out w2 k2
 clear x0 x1 x2 x3 y0 y1 y2 y3 CP
 go_wp2_with fail
 go_loopw [6] (fun i wr=>∃ j:Nat,j≤l.length∧i=.int .i64 (j:Int)∧Same0 W1 wr) (fun i _=>l.length-(intOf i).toNat)
 case atStart=>exact ⟨0,Nat.zero_le _,rfl,k2⟩
 case round=>
  clear u0 u1 u2 u3 v0 v1 v2 v3 k2
  obtain ⟨j,hj,rfl,hw⟩:=hrel
  obtain ⟨⟨u0,u1,u2,u3⟩,v0,v1,v2,v3⟩:=BX.out wr hw
  by_cases hlt:j<l.length
  ·rcases A6.out with e | ⟨ab,aoff,rfl,_,hab,hca⟩
   ·subst e;simp at hlt
   rcases B6.out with e | ⟨bb,boff,rfl,_,hbb,hcb⟩
   ·subst e;simp at hlt
   obtain ⟨c0,c1,c2,c3,p0,p1,p2,p3,p4,p5⟩:=hca j hlt
   obtain ⟨d0,d1,d2,d3,q0,q1,q2,q3,q4,q5⟩:=hcb j hlt
   obtain ⟨e0,e1,e2,e3,e4,e5,e6,e7,ea⟩:=p5.shape
   simp only [Value.agg.injEq,Array.mk.injEq,List.cons.injEq,and_true] at ea
   obtain ⟨rfl,rfl,rfl,rfl⟩:=ea
   obtain ⟨g0,g1,g2,g3,g4,g5,g6,g7,eb⟩:=q5.shape
   simp only [Value.agg.injEq,Array.mk.injEq,List.cons.injEq,and_true] at eb
   obtain ⟨rfl,rfl,rfl,rfl⟩:=eb
   have CELLS:Hid (∀ ww,Same0 W1 ww→(ww.cell? ⟨w.heap.size,3,none⟩=some (.slice (some ⟨ab,aoff,none⟩) l.length kc)∧ww.cell? ⟨w.heap.size+1,3,none⟩=some (.slice (some ⟨bb,boff,none⟩) l.length kc')∧ww.cell? ⟨ab,aoff+j * 5+1,none⟩=some (.int .i64 e0)∧ww.cell? ⟨ab,aoff+j * 5+2,none⟩=some (.int .i64 e1)∧ww.cell? ⟨ab,aoff+j * 5+3,none⟩=some (.slice e2 e3 e4)∧ww.cell? ⟨ab,aoff+j * 5+4,none⟩=some (.slice e5 e6 e7)∧ww.cell? ⟨bb,boff+j * 5+1,none⟩=some (.int .i64 g0)∧ww.cell? ⟨bb,boff+j * 5+2,none⟩=some (.int .i64 g1)∧ww.cell? ⟨bb,boff+j * 5+3,none⟩=some (.slice g2 g3 g4)∧ww.cell? ⟨bb,boff+j * 5+4,none⟩=some (.slice g5 g6 g7))∧ww.cell? ⟨ab,aoff+j * 5,none⟩=some (.int .i64 l[j].1)∧ww.cell? ⟨bb,boff+j * 5,none⟩=some (.int .i64 l[j].1)):=fun ww hk=>by
    obtain ⟨⟨_,_,_,m3⟩,_,_,_,n3⟩:=BX.out ww hk
    have kk:=KW.trans' hk
    have ta:∀ o v,w.cell? ⟨ab,o,none⟩=some v→ww.cell? ⟨ab,o,none⟩=some v:=fun o v e=>(kk.cell (p:=⟨ab,o,none⟩) hab (fun f=>f)).trans e
    have tb:∀ o v,w.cell? ⟨bb,o,none⟩=some v→ww.cell? ⟨bb,o,none⟩=some v:=fun o v e=>(kk.cell (p:=⟨bb,o,none⟩) hbb (fun f=>f)).trans e
    exact ⟨⟨m3,n3,ta _ _ p1,ta _ _ p2,ta _ _ p3,ta _ _ p4,tb _ _ q1,tb _ _ q2,tb _ _ q3,tb _ _ q4⟩,ta _ _ p0,tb _ _ q0⟩
   have WD:Same0 wr wr.drew:=(Kept.refl _ _).drew
   have CC:=CI.out wr.drew _ _ l[j].2 B B' (p5.same (KW.trans' (hw.trans' WD))) (q5.same (KW.trans' (hw.trans' WD))) (HSK.out j hlt)
   have i1:(0:Int)≤(j:Int):=by omega
   have i2:(j:Int)<(l.length:Int):=by omega
   have es:(l[j].1 == l[j].1)=true:=by simp
   have S0:=(CELLS.out wr hw).1
   clear hca hcb p0 p1 p2 p3 p4 p5 q0 q1 q2 q3 q4 q5 A6 B6
   go_upto_region 7 with fail
   go_cut [7] from 45 to 57 (fun s7 wc=>s7=.bool true∧Same0 wr wc)
   case first=>
    go_region_held3 (fun ww=>ww.cell? ⟨w.heap.size,3,none⟩=some (.slice (some ⟨ab,aoff,none⟩) l.length kc)∧ww.cell? ⟨w.heap.size+1,3,none⟩=some (.slice (some ⟨bb,boff,none⟩) l.length kc')∧ww.cell? ⟨ab,aoff+j * 5+1,none⟩=some (.int .i64 e0)∧ww.cell? ⟨ab,aoff+j * 5+2,none⟩=some (.int .i64 e1)∧ww.cell? ⟨ab,aoff+j * 5+3,none⟩=some (.slice e2 e3 e4)∧ww.cell? ⟨ab,aoff+j * 5+4,none⟩=some (.slice e5 e6 e7)∧ww.cell? ⟨bb,boff+j * 5+1,none⟩=some (.int .i64 g0)∧ww.cell? ⟨bb,boff+j * 5+2,none⟩=some (.int .i64 g1)∧ww.cell? ⟨bb,boff+j * 5+3,none⟩=some (.slice g2 g3 g4)∧ww.cell? ⟨bb,boff+j * 5+4,none⟩=some (.slice g5 g6 g7)) (first | exact S0 | exact (CELLS.out _ (hw.trans' kc9)).1) (first
     | (go_at_call 11;refine CC.mono ?_;rintro e w9 ⟨rfl,k9⟩;have kc9:=WD.trans' k9))
    all_goals
     go_wp2_with fail
     go_meet
     exact ⟨rfl,kc9⟩
   case rest=>
    obtain ⟨rfl,k9⟩:=hcut
    obtain ⟨w9,rfl⟩:∃ w9,w9=wc:=⟨_,rfl⟩
    obtain ⟨⟨m1,m2,_⟩,m3,m4⟩:=CELLS.out w9 (hw.trans' k9)
    have n1:w9.drew.cell? ⟨w.heap.size,3,none⟩=some (.slice (some ⟨ab,aoff,none⟩) l.length kc):=m1
    have n2:w9.drew.cell? ⟨w.heap.size+1,3,none⟩=some (.slice (some ⟨bb,boff,none⟩) l.length kc'):=m2
    have n3:w9.drew.cell? ⟨ab,aoff+j * 5,none⟩=some (.int .i64 l[j].1):=m3
    have n4:w9.drew.cell? ⟨bb,boff+j * 5,none⟩=some (.int .i64 l[j].1):=m4
    clear u0 u1 u2 u3 v0 v1 v2 v3 S0 CC
    go_wp2_with fail
    go_quiet (fail)
    go_wp2_with fail
    exact ⟨⟨j+1,by omega,by go_num,(hw.trans' k9).drewN _⟩,by simp [intOf];omega⟩
  ·obtain rfl:j=l.length:=by omega
   go_wp2_with fail
   go_ret
   exact ⟨rfl,KW.trans' hw⟩
theorem csame_any:∀ n,SameIH n
 | 0=>fun w a b t B B' h _ _=>h.elim
 | n+1=>csame_step (csame_any n)
set_option maxHeartbeats 2000000 in
theorem fsame_any {w:World} {k r nd:Int} {p:List Int} {po po' : Option Addr} {pc pc' : Nat} (ha:IntsAt w po p) (hb:IntsAt w po' p) (hl:p.length≤maxLen) :
  Calls Tryz.prog 17 #[.agg #[.int .i64 k,.int .i64 r,.slice po p.length pc,.int .i64 nd],.agg #[.int .i64 k,.int .i64 r,.slice po' p.length pc', .int .i64 nd]] w fun e w' => e=.returned (.bool true)∧Same0 w w' := by
 obtain ⟨W1,hW1⟩:∃ W1,W1=(w.alloc (.cells #[.int .i64 k,.int .i64 r,.slice po p.length pc,.int .i64 nd] 53)).alloc (.cells #[.int .i64 k,.int .i64 r,.slice po' p.length pc', .int .i64 nd] 53):=⟨_,rfl⟩
 have KW:Same0 w W1:=by rw [hW1];exact ((Kept.refl _ w).alloc _).alloc _
 have BX:Hid (∀ ww,Same0 W1 ww→(ww.cell? ⟨w.heap.size,0,none⟩=some (.int .i64 k)∧ww.cell? ⟨w.heap.size,1,none⟩=some (.int .i64 r)∧ww.cell? ⟨w.heap.size,2,none⟩=some (.slice po p.length pc)∧ww.cell? ⟨w.heap.size,3,none⟩=some (.int .i64 nd))∧ww.cell? ⟨w.heap.size+1,0,none⟩=some (.int .i64 k)∧ww.cell? ⟨w.heap.size+1,1,none⟩=some (.int .i64 r)∧ww.cell? ⟨w.heap.size+1,2,none⟩=some (.slice po' p.length pc')∧ww.cell? ⟨w.heap.size+1,3,none⟩=some (.int .i64 nd)):=fun ww hk=>by
  have h1:=hk.at0 (show W1.heap[w.heap.size]? = _ by rw [hW1];exact heap_alloc2_old _ _ _)
  have h2:=hk.at0 (show W1.heap[w.heap.size+1]? = _ by rw [hW1];exact heap_al_al _ _ _)
  exact ⟨⟨cellAt h1 0,cellAt h1 1,cellAt h1 2,cellAt h1 3⟩,cellAt h2 0,cellAt h2 1,cellAt h2 2,cellAt h2 3⟩
 have CP:=same_any (acap:=pc) (bcap:=pc') (ha.same KW) (hb.same KW) hl
 rw [sameB_self] at CP
 obtain ⟨⟨x0,x1,x2,x3⟩,y0,y1,y2,y3⟩:=BX.out W1 (Kept.refl _ _)
 have ek:(k == k)=true:=by simp
 have er:(r == r)=true:=by simp
 have en:(nd == nd)=true:=by simp
 clear ha hb
 go_enter Tryz.func17,Tryz.ntmps17
 go_upto_region 1 with fail
 rw [← hW1]
 clear hW1
 go_upto_region 2 with (first | (go_at_call 39;refine CP.mono ?_;rintro e w2 ⟨rfl,k2⟩))
 obtain ⟨⟨u0,u1,u2,u3⟩,v0,v1,v2,v3⟩:=BX.out w2 k2
 clear x0 x1 x2 x3 y0 y1 y2 y3 CP
 go_wp2_with fail
 go_ret
 exact ⟨by simp,KW.trans' k2⟩
abbrev L6:List Sym:=[⟨⟨#[122]⟩,0,false⟩,⟨⟨#[115]⟩,1,false⟩,⟨⟨#[97]⟩,0,false⟩,⟨⟨#[97,100,100]⟩,2,true⟩,⟨⟨#[102]⟩,3,true⟩,⟨⟨#[104]⟩,0,true⟩]
theorem nm8_z:nameB ⟨#[122]⟩=true:=by decide +kernel
theorem nm8_s:nameB ⟨#[115]⟩=true:=by decide +kernel
theorem nm8_a:nameB ⟨#[97]⟩=true:=by decide +kernel
theorem nm8_add:nameB ⟨#[97,100,100]⟩=true:=by decide +kernel
theorem nm8_f:nameB ⟨#[102]⟩=true:=by decide +kernel
theorem nm8_h:nameB ⟨#[104]⟩=true:=by decide +kernel
theorem madeL_aw8:madeL L6=L6:=by
 simp [madeL,addL,addErr,nm8_z,nm8_s,nm8_a,nm8_add,nm8_f,nm8_h,findI]
abbrev ru8a:Ru:=([3,0, -1],[-1])
abbrev ru8b:Ru:=([3,1, -1, -2],[1,3, -1, -2])
theorem aw8_a:Ans L6 [] [ru8a] []:=Ans.of_all (by decide +kernel)
theorem aw8_b:Ans L6 [ru8a] [ru8b] []:=Ans.of_all (by decide +kernel)
theorem aw8_R {R:List Ru} (h:StoredR L6 [ru8a,ru8b] [] R):R=[ru8a,ru8b]:=by
 rcases h with ⟨_,h⟩ | ⟨h,_⟩
 ·rcases h with ⟨_,h⟩ | ⟨h,_⟩
  ·exact h
  ·exact absurd aw8_b h
 ·exact absurd aw8_a h
def tree8 (n:Nat):Tr (n+1+1):=(2,0,[0],[(0,((1,0,[],[]):Int × Int × List Int × List (Int × Tr n))),(1,((1,1,[],[]):Int × Int × List Int × List (Int × Tr n)))])
theorem aw8_grow (n:Nat):growF L6 (n+1+1) (rootP L6 3) (rootR L6 [ru8a,ru8b] 3)=.ok (tree8 n):=by rfl
theorem aw8_tree:treeF L6 [ru8a,ru8b] 3=.ok (tree8 1999):=aw8_grow 1999
theorem aw8_small (n:Nat):SmT (n+1+1) (tree8 n):=by
 refine ⟨by simp,fun i hi=>?_⟩
 have hi' : i<2:=hi
 match i,hi' with
 | 0,_=>exact ⟨by simp,fun i hi=>absurd hi (by simp)⟩
 | 1,_=>exact ⟨by simp,fun i hi=>absurd hi (by simp)⟩
theorem aw8_lit (w:World) (n:Nat):CsB (fun _=>True) ((w.alloc (.cells #[.int .i64 0] 3)).alloc (.cells #[.int .i64 0,.int .i64 1,.int .i64 0,.slice none 0 0,.slice none 0 0,.int .i64 1,.int .i64 1,.int .i64 1,.slice none 0 0,.slice none 0 0] 76)) (n+1+1) (.agg #[.int .i64 2,.int .i64 0,.slice (some ⟨w.heap.size,0,none⟩) 1 1,.slice (some ⟨w.heap.size+1,0,none⟩) 2 2]) (tree8 n):=by
 have ka:Same0 (w.alloc (.cells #[.int .i64 0] 3)) ((w.alloc (.cells #[.int .i64 0] 3)).alloc (.cells #[.int .i64 0,.int .i64 1,.int .i64 0,.slice none 0 0,.slice none 0 0,.int .i64 1,.int .i64 1,.int .i64 1,.slice none 0 0,.slice none 0 0] 76)):=(Kept.refl _ _).alloc _
 have hb:=heap_al_al w (.cells #[.int .i64 0] 3) (.cells #[.int .i64 0,.int .i64 1,.int .i64 0,.slice none 0 0,.slice none 0 0,.int .i64 1,.int .i64 1,.int .i64 1,.slice none 0 0,.slice none 0 0] 76)
 refine ⟨_,1,_,2,rfl,(ints_arg w [0] 3 (by simp) rfl).same ka,.inr (fun _ _=>trivial),(fun e=>by cases e),Nat.le_refl _,.inr ⟨_,0,rfl,trivial,lt_of_at hb,fun i hi=>?_⟩⟩
 have hi' : i<2:=hi
 match i,hi' with
 | 0,_=>exact ⟨_,_,_,_,cellAt hb 0,cellAt hb 1,cellAt hb 2,cellAt hb 3,cellAt hb 4,leaf_cs _ _ _ _ _⟩
 | 1,_=>exact ⟨_,_,_,_,cellAt hb 5,cellAt hb 6,cellAt hb 7,cellAt hb 8,cellAt hb 9,leaf_cs _ _ _ _ _⟩
theorem syms_aw8 (w:World) (T:TypeId):SymsAt (w.alloc (.cells #[.string ⟨#[122]⟩,.int .i64 0,.bool false,.string ⟨#[115]⟩,.int .i64 1,.bool false,.string ⟨#[97]⟩,.int .i64 0,.bool false,.string ⟨#[97,100,100]⟩,.int .i64 2,.bool true,.string ⟨#[102]⟩,.int .i64 3,.bool true,.string ⟨#[104]⟩,.int .i64 0,.bool true] T)) (some ⟨w.heap.size,0,none⟩) 6 L6:=by
 refine ⟨rfl,.inr ⟨_,_,rfl,by simp,fun i hi=>?_⟩,?_⟩
 ·have hi' : i<6:=by simpa using hi
  rw [cellAt (heap_alloc_new w _),cellAt (heap_alloc_new w _),cellAt (heap_alloc_new w _)]
  match i,hi' with
  | 0,_=>exact ⟨rfl,rfl,rfl⟩
  | 1,_=>exact ⟨rfl,rfl,rfl⟩
  | 2,_=>exact ⟨rfl,rfl,rfl⟩
  | 3,_=>exact ⟨rfl,rfl,rfl⟩
  | 4,_=>exact ⟨rfl,rfl,rfl⟩
  | 5,_=>exact ⟨rfl,rfl,rfl⟩
 ·intro x hx
  simp at hx
  rcases hx with rfl | rfl | rfl | rfl | rfl | rfl <;> exact ⟨by decide +kernel,by decide +kernel⟩
theorem SymsAt.same8 {w w' : World} {ao:Option Addr} {len:Nat} {xs:List Sym} (h:SymsAt w ao len xs) (hk:Same0 w w'):SymsAt w' ao len xs:=by
 obtain ⟨h1,h2,h3⟩:=h
 refine ⟨h1,h2.imp id ?_,h3⟩
 rintro ⟨b,off,e,hb,hc⟩
 refine ⟨b,off,e,Nat.lt_of_lt_of_le hb hk.size,fun i hi=>?_⟩
 obtain ⟨c1,c2,c3⟩:=hc i hi
 exact ⟨(hk.cell (p:=⟨b,_,none⟩) hb (fun f=>f)).trans c1,(hk.cell (p:=⟨b,_,none⟩) hb (fun f=>f)).trans c2,(hk.cell (p:=⟨b,_,none⟩) hb (fun f=>f)).trans c3⟩
set_option maxHeartbeats 1000000 in
theorem plain8_any (w:World):Calls Tryz.prog 26 #[] w fun e w' => ∃ g g', e=.returned (.tuple #[.slice (some ⟨g,0,none⟩) 6 6,.slice (some ⟨g', 0,none⟩) 2 2])∧SymsAt w' (some ⟨g,0,none⟩) 6 L6∧RsAt w' (some ⟨g', 0,none⟩) [ru8a,ru8b]∧Same0 w w' := by
 have S:=syms_aw8 w 107
 have K:Same0 w (w.alloc (.cells #[.string ⟨#[122]⟩,.int .i64 0,.bool false,.string ⟨#[115]⟩,.int .i64 1,.bool false,.string ⟨#[97]⟩,.int .i64 0,.bool false,.string ⟨#[97,100,100]⟩,.int .i64 2,.bool true,.string ⟨#[102]⟩,.int .i64 3,.bool true,.string ⟨#[104]⟩,.int .i64 0,.bool true] 107)):=(Kept.refl _ w).alloc _
 have RR:=rs_two (w.alloc (.cells #[.string ⟨#[122]⟩,.int .i64 0,.bool false,.string ⟨#[115]⟩,.int .i64 1,.bool false,.string ⟨#[97]⟩,.int .i64 0,.bool false,.string ⟨#[97,100,100]⟩,.int .i64 2,.bool true,.string ⟨#[102]⟩,.int .i64 3,.bool true,.string ⟨#[104]⟩,.int .i64 0,.bool true] 107)) [3,0, -1] [-1] [3,1, -1, -2] [1,3, -1, -2] 3 3 3 3 63 (by decide) (by decide) (by decide) (by decide) rfl rfl rfl rfl rfl
 have HH:Hid _:=RR
 have HS:Hid _:=S
 clear RR S
 go_enter Tryz.func26,Tryz.ntmps26
 go_wp2
 go_ret2
 obtain ⟨r1,r2⟩:=HH.out
 simp only [World.size_alloc] at r1 r2
 exact ⟨_,_,rfl,SymsAt.same8 HS.out r2,r1,K.trans' r2⟩
theorem aw8_err (w:World):(binOp .eql 37 .nilIface .nilIface).run Tryz.prog w=.ok (.bool true) w:=by kernel_rfl
set_option maxHeartbeats 16000000 in
theorem awake8_any (w:World):Calls Tryz.prog 7 #[] w fun e w' => e=.returned (.bool true)∧Same0 w w' := by
 have hnn:=aw8_err
 have hpn:=ptr_nil
 have CP:=plain8_any w
 go_enter Tryz.func7,Tryz.ntmps7
 go_upto_region 2 with (first | (go_at_call 26;refine CP.mono ?_;rintro e w0 ⟨g,g', rfl,hsy,hru,K0⟩))
 have CS:=stored_any (cap:=6) (lc:=2) hsy (by decide) hru (by decide) (by decide)
 rw [madeL_aw8] at CS
 clear CP hsy hru
 go_upto_region 3 with (first | (go_at_call 8;refine CS.mono ?_;rintro e w1 ⟨bs,b,m,ro,rc,lv,vs,mv,ms,R,rfl,hT,hR⟩))
 obtain rfl:=aw8_R hR
 have K1:Same0 w w1:=K0.trans' hT.same
 have hst:=hT.st
 clear CS hR K0 hT
 have HST:Hid (∀ ww,Same0 w1 ww→StAt ww b bs L6 [ru8a,ru8b] lv vs):=fun ww hk=>hst.same hk
 have B1:Calls Tryz.prog 9 #[.pointer (some ⟨b,0,none⟩),.int .i64 3] w1 fun e w' => ∃ tk tr tpo tpl tpc tko tkl tkc,e=.returned (.tuple #[.agg #[.int .i64 tk,.int .i64 tr,.slice tpo tpl tpc,.slice tko tkl tkc],.nilIface])∧Hid (CsB (fun b=>w1.heap.size≤b) w' 2001 (.agg #[.int .i64 tk,.int .i64 tr,.slice tpo tpl tpc,.slice tko tkl tkc]) (tree8 1999))∧Same0 w1 w' := by
  refine (build_any hst 3).mono ?_
  rintro e w' ⟨hk,h⟩
  rw [if_pos (show defB L6 3=true by decide)] at h
  have e3:(3:Int).toNat=3:=rfl
  rw [e3,aw8_tree] at h
  obtain ⟨v,rfl,hc⟩:=h
  obtain ⟨tk,tr,tpo,tpl,tpc,tko,tkl,tkc,rfl⟩:=hc.shape
  exact ⟨tk,tr,tpo,tpl,tpc,tko,tkl,tkc,rfl,hc,hk⟩
 clear hst
 go_upto_region 6 with (first | (go_at_call 9;refine B1.mono ?_;rintro e w2 ⟨tk,tr,tpo,tpl,tpc,tko,tkl,tkc,rfl,hcs,k2⟩))
 obtain ⟨w3,hw3⟩:∃ w3,w3=w2.alloc (.cells #[.int .i64 tk,.int .i64 tr,.slice tpo tpl tpc,.slice tko tkl tkc] 35):=⟨_,rfl⟩
 have k3:Same0 w2 w3:=by rw [hw3];exact (Kept.refl _ _).alloc _
 have HC:Hid (∀ ww,Same0 w3 ww→ww.cell? ⟨w2.heap.size,0,none⟩=some (.int .i64 tk)∧ww.cell? ⟨w2.heap.size,1,none⟩=some (.int .i64 tr)∧ww.cell? ⟨w2.heap.size,2,none⟩=some (.slice tpo tpl tpc)∧ww.cell? ⟨w2.heap.size,3,none⟩=some (.slice tko tkl tkc)):=fun ww hk=>by
  have h0:w3.heap[w2.heap.size]? = some (.cells #[.int .i64 tk,.int .i64 tr,.slice tpo tpl tpc,.slice tko tkl tkc] 35 (0,0)):=by rw [hw3];exact heap_alloc_new w2 _
  have h1:=hk.at0 h0
  exact ⟨cellAt h1 0,cellAt h1 1,cellAt h1 2,cellAt h1 3⟩
 have HCS:Hid (∀ ww,Same0 w3 ww→CsB (fun b=>w1.heap.size≤b) ww 2001 (.agg #[.int .i64 tk,.int .i64 tr,.slice tpo tpl tpc,.slice tko tkl tkc]) (tree8 1999)):=fun ww hk=>(hcs.out.same k3).same hk
 have K3:Same0 w1 w3:=k2.trans' k3
 rw [← hw3]
 clear hw3 hcs B1 k2 k3
 have B2:Calls Tryz.prog 9 #[.pointer (some ⟨b,0,none⟩),.int .i64 0] w3 fun e w' => ∃ k,e=.returned (.tuple #[zeroC,.iface 82 (.pointer (some ⟨k,0,none⟩))])∧Hid (FltAt w' [(80,0)] (.iface 82 (.pointer (some ⟨k,0,none⟩))))∧Same0 w3 w' := by
  refine (build_any (HST.out w3 K3) 0).mono ?_
  rintro e w' ⟨hk,h⟩
  rw [if_neg (show ¬ defB L6 0=true by decide)] at h
  obtain ⟨v,rfl,hf⟩:=h
  obtain ⟨k,rfl⟩:∃ k,v=.iface 82 (.pointer (some ⟨k,0,none⟩)):=by
   rcases hf with ⟨q,_⟩ | ⟨_,k,u,e1,_⟩
   ·omega
   ·exact ⟨k,e1⟩
  exact ⟨k,rfl,hf,hk⟩
 go_upto_region 7 with (first | (go_at_call 9;refine B2.mono ?_;rintro e w4 ⟨kf,rfl,hf,k4⟩))
 obtain ⟨w5,hw5⟩:∃ w5,w5=w4.alloc zeroCs:=⟨_,rfl⟩
 have k5:Same0 w4 w5:=by rw [hw5];exact (Kept.refl _ _).alloc _
 have K5:Same0 w3 w5:=k4.trans' k5
 have HF:Hid (∀ ww,Same0 w5 ww→FltAt ww [(80,0)] (.iface 82 (.pointer (some ⟨kf,0,none⟩)))):=fun ww hk=>FltAt.same hk (FltAt.same k5 hf.out)
 rw [← hw5]
 clear hw5 hf B2 k4 k5
 obtain ⟨c0,c1,c2,c3⟩:=HC.out w5 K5
 obtain ⟨w6,hw6⟩:∃ w6,w6=w5.alloc (.cells #[.int .i64 3,.int .i64 3,.int .i64 0,.int .i64 0,.int .i64 2] 3):=⟨_,rfl⟩
 have k6:Same0 w5 w6:=by rw [hw6];exact (Kept.refl _ _).alloc _
 have B3:Calls Tryz.prog 15 #[.pointer (some ⟨bs,0,none⟩),.agg #[.int .i64 tk,.int .i64 tr,.slice tpo tpl tpc,.slice tko tkl tkc],.slice (some ⟨w5.heap.size,0,none⟩) 5 5,.int .i64 0] w6 fun e w' => ∃ po pc,e=.returned (.tuple #[.agg #[.int .i64 3,.int .i64 0,.slice po 1 pc,.int .i64 1],.int .i64 0])∧Hid (IntsAt w' po [0])∧Same0 w6 w' :=
  walk_demand (T:=[3,3,0,0,2]) (tc:=5) (a:=0) (q:=1) (HST.out w6 (K3.trans' (K5.trans' k6))).sig (HCS.out w6 (K5.trans' k6)) (by rw [hw6];exact ints_arg w5 [3,3,0,0,2] 3 (by decide) rfl) (by decide +kernel) (by decide) (by decide) (by decide +kernel) (by decide +kernel) (by decide +kernel)
 have K6:Same0 w3 w6:=K5.trans' k6
 have K56:Hid (Same0 w5 w6):=k6
 have HW6:Hid (w5.alloc (.cells #[.int .i64 3,.int .i64 3,.int .i64 0,.int .i64 0,.int .i64 2] 3)=w6):=hw6.symm
 have B3' : Calls Tryz.prog 15 #[.pointer (some ⟨bs,0,none⟩),.agg #[.int .i64 tk,.int .i64 tr,.slice tpo tpl tpc,.slice tko tkl tkc],.slice (some ⟨w5.heap.size,0,none⟩) 5 5,.int .i64 0] (w5.alloc (.cells #[.int .i64 3,.int .i64 3,.int .i64 0,.int .i64 0,.int .i64 2] 3)) fun e w' => ∃ po pc,e=.returned (.tuple #[.agg #[.int .i64 3,.int .i64 0,.slice po 1 pc,.int .i64 1],.int .i64 0])∧Hid (IntsAt w' po [0])∧Same0 w6 w' := by rw [HW6.out];exact B3
 clear hw6 k6 B3
 go_upto_region 8 with (first | (go_at_call 15;refine B3'.mono ?_;rintro e w7 ⟨po,pc,rfl,hpo,k7⟩))
 clear c0 c1 c2 c3 B3' HW6
 obtain ⟨w8,hw8⟩:∃ w8,w8=w7.alloc (.cells #[.int .i64 3,.int .i64 0,.slice po 1 pc,.int .i64 1] 53):=⟨_,rfl⟩
 have k8:Same0 w7 w8:=by rw [hw8];exact (Kept.refl _ _).alloc _
 have HFN:Hid (∀ ww,Same0 w8 ww→(ww.cell? ⟨w7.heap.size,0,none⟩=some (.int .i64 3)∧ww.cell? ⟨w7.heap.size,1,none⟩=some (.int .i64 0)∧ww.cell? ⟨w7.heap.size,2,none⟩=some (.slice po 1 pc)∧ww.cell? ⟨w7.heap.size,3,none⟩=some (.int .i64 1))∧IntsAt ww po [0]):=fun ww hk=>by
  have h0:w8.heap[w7.heap.size]? = some (.cells #[.int .i64 3,.int .i64 0,.slice po 1 pc,.int .i64 1] 53 (0,0)):=by rw [hw8];exact heap_alloc_new w7 _
  have h1:=hk.at0 h0
  exact ⟨⟨cellAt h1 0,cellAt h1 1,cellAt h1 2,cellAt h1 3⟩,(hpo.out.same k8).same hk⟩
 have K8:Same0 w3 w8:=(K6.trans' k7).trans' k8
 have K58:Same0 w5 w8:=by
  have:Same0 w5 w6:=K56.out
  exact (this.trans' k7).trans' k8
 rw [← hw8]
 clear hw8 hpo k7 k8 K6
 obtain ⟨c0,c1,c2,c3⟩:=HC.out w8 K8
 have ka:Same0 w8 ((w8.alloc (.cells #[.int .i64 0] 3)).alloc (.cells #[.int .i64 0,.int .i64 1,.int .i64 0,.slice none 0 0,.slice none 0 0,.int .i64 1,.int .i64 1,.int .i64 1,.slice none 0 0,.slice none 0 0] 76)):=((Kept.refl _ _).alloc _).alloc _
 have B4:=csame_any 2001 _ _ _ (tree8 1999) _ _ (HCS.out _ (K8.trans' ka)) (aw8_lit w8 1999) (aw8_small 1999)
 go_upto_region 9 with (first | (go_at_call 11;refine B4.mono ?_;rintro e w11 ⟨rfl,k11⟩))
 have K11:Same0 w8 w11:=ka.trans' k11
 clear c0 c1 c2 c3 B4 ka k11
 obtain ⟨⟨d0,d1,d2,d3⟩,_⟩:=HFN.out w11 K11
 have kb:Same0 w11 (w11.alloc (.cells #[.int .i64 0] 3)):=(Kept.refl _ _).alloc _
 have B5:=fsame_any (k:=3) (r:=0) (nd:=1) (p:=[0]) (pc:=pc) (pc' := 1) (HFN.out _ (K11.trans' kb)).2 (ints_new w11 [0] 3 rfl) (by decide)
 go_upto_region 10 with (first | (go_at_call 17;refine B5.mono ?_;rintro e w13 ⟨rfl,k13⟩))
 have K13:Same0 w8 w13:=K11.trans' (kb.trans' k13)
 clear d0 d1 d2 d3 B5 kb k13
 have kx:Same0 w13 (w13.alloc (.cells #[.int .i64 80,.int .i64 0] 78)):=(Kept.refl _ _).alloc _
 have B6:=same_flt (HF.out _ ((K58.trans' K13).trans' kx)) (wrs_new w13 [(80,0)] _ 78 rfl (fun i hi=>by have hi' : i<1:=hi;match i,hi' with | 0,_=>exact ⟨rfl,rfl⟩) 1 rfl) (by decide)
 have KF:Hid (∀ ww,Same0 (w13.alloc (.cells #[.int .i64 80,.int .i64 0] 78)) ww→Same0 w ww):=fun ww hk=>((((K1.trans' K3).trans' K8).trans' K13).trans' kx).trans' hk
 clear K1 K3 K8 K13 K58 K5
 go_wp2_with (first | (go_at_call 13;refine B6.mono ?_;rintro e w14 ⟨rfl,k14⟩))
 go_ret
 exact ⟨rfl,KF.out _ k14⟩
theorem err_ne0 (w:World):(binOp .neq 37 .nilIface .nilIface).run Tryz.prog w=.ok (.bool false) w:=by kernel_rfl
theorem err_ne1 (v:Value) (w:World):(binOp .neq 37 (.iface 82 v) .nilIface).run Tryz.prog w=.ok (.bool true) w:=by kernel_rfl
def clsB8 (L:List Sym) (T:List Int):Bool:=decide (checkE L T=0) && !(T.any (fun x=>decide (x<0)))
theorem cls_neg8 {L:List Sym} {t:List Int} {k:Nat} (h:k<t.length) (hx:t[k]<0):clsB8 L t=false:=by
 have:t.any (fun x=>decide (x<0))=true:=List.any_eq_true.2 ⟨t[k],List.getElem_mem h,by simpa using hx⟩
 simp [clsB8,this]
theorem cls_none8 {L:List Sym} {t:List Int} (h:∀ x∈t,0≤x):clsB8 L t=decide (checkE L t=0):=by
 have:t.any (fun x=>decide (x<0))=false:=by
  rw [List.any_eq_false]
  intro x hx
  have:=h x hx
  simp;omega
 simp [clsB8,this]
theorem cls_pos8 {L:List Sym} {t:List Int} (h:clsB8 L t=true):checkE L t=0∧∀ x∈t,0≤x:=by
 unfold clsB8 at h
 simp only [Bool.and_eq_true,decide_eq_true_eq,Bool.not_eq_true', List.any_eq_false,decide_eq_true_eq] at h
 exact ⟨h.1,fun x hx=>by have:=h.2 x hx;omega⟩
set_option maxHeartbeats 4000000 in
theorem rclosed8_any {n:Nat} {w:World} {rv:Value} {L:List Sym} (h:Rl n w rv L) {ao:Option Addr} {cap:Nat} {t:List Int} (ht:IntsAt w ao t) (hm:t.length≤maxLen) :
  Calls Tryz.prog 18 #[rv,.slice ao t.length cap] w fun e w' => e=.returned (.bool (clsB8 L t))∧w' = w:=by
 have CK:=rcheck_any (cap:=cap) h ht hm
 unfold maxLen at hm
 obtain ⟨ro,rcap,rfl⟩:=row_shape h.1
 go_enter Tryz.func18,Tryz.ntmps18
 go_wp2
 go_loopw [5] (fun i wr=>∃ k:Nat,k≤t.length∧i=.int .i64 (k:Int)∧Hid (∀ x∈t.take k,0≤x)∧wr=w) (fun i _=>t.length-(intOf i).toNat)
 case atStart=>exact ⟨0,Nat.zero_le _,rfl,fun x hx=>by simp at hx,rfl⟩
 case round=>
  obtain ⟨k,hk,rfl,hH,rfl⟩:=hrel
  by_cases hlt:k<t.length
  ·obtain ⟨b,off,rfl,hb,hc⟩:=ht.get hlt
   have i1:(0:Int)≤(k:Int):=by omega
   have i2:(k:Int)<(t.length:Int):=by omega
   by_cases hx:t[k]<0
   ·have H:Hid (clsB8 L t=false):=cls_neg8 hlt hx
    generalize t[k]=x at *
    go_wp2
    go_ret
    exact ⟨by rw [H.out];rfl,rfl⟩
   ·have H:Hid (∀ x∈t.take (k+1),0≤x):=fun x hm' => by
     rw [← List.take_append_getElem hlt,List.mem_append] at hm'
     rcases hm' with h1 | h1
     ·exact hH.out x h1
     ·simp at h1;omega
    generalize t[k]=x at *
    go_wp2
    go_roundw
    case rel=>exact ⟨k+1,by omega,by go_num,H,trivial⟩
    case measure=>simp [intOf];omega
  ·have H:Hid (clsB8 L t=decide (checkE L t=0)):=cls_none8 (fun x hx=>hH.out x (by rw [List.take_of_length_le (by omega)];exact hx))
   generalize checkE L t=z at *
   go_wp2_with (first | (go_at_call 50;refine CK.mono ?_;rintro e w2 ⟨rfl,rfl⟩))
   go_ret
   exact ⟨by rw [H.out];rfl,rfl⟩
theorem smk_smw:∀ {n:Nat} {t:Tr n},SmK n t→SmW n t
 | 0,_,_=>trivial
 | n+1,(k,r,p,l),h=>⟨Nat.le_trans h.1 (by omega),fun i hi=>smk_smw (h.2 i hi)⟩
set_option maxHeartbeats 32000000 in
theorem fits_walk {w:World} {ao:Option Addr} {len cap:Nat} {xs:List Sym} (hx:SymsAt w ao len xs) (hm:len≤maxLen) {po:Option Addr} {pc:Nat} {l:List Ru} (hp:ArgR w po l pc) {to' : Option Addr} {tc:Nat} {T:List Int} (ht:Arg w to' T tc) :
  Calls Tryz.prog 5 #[.slice ao len cap,.slice po l.length pc,.slice to' T.length tc] w fun e w' => e=.returned (.bool true)∧Below w.heap.size w w' := by
 have hn0:=err_ne0
 have hn1:=err_ne1
 have hpn:=ptr_nil
 have hls:l.length≤140737488355328:=by have:=hp.size;omega
 have hts:=ht.size
 have htm:T.length≤maxLen:=by unfold maxLen;omega
 have CA:=awake8_any w
 have CS:Hid (∀ ww,Same0 w ww→Calls Tryz.prog 8 #[.slice ao len cap,.slice po l.length pc] ww (StoPost (madeL xs) l ww)):=fun ww hk=>stored_any (SymsAt.same8 hx hk) hm (hp.at'.same hk) hls hp.cap'
 generalize madeL xs=L at *
 clear hx hp hm hls
 go_enter Tryz.func5,Tryz.ntmps5
 go_upto_region 2 with (first | (go_at_call 7;refine CA.mono ?_;rintro e w1 ⟨rfl,k1⟩))
 have C1:=CS.out w1 k1
 go_upto_region 3 with (first | (go_at_call 8;refine C1.mono ?_;rintro e w2 ⟨bs,b,m,ro,rc,lv,vs,mv,ms,R,rfl,hT,hR⟩))
 have K2:Same0 w w2:=k1.trans' hT.same
 have hst:=hT.st
 have hmo:=hT.mo
 have hgood:=hT.good
 have hL64:L.length≤64:=by obtain ⟨⟨sv,mr,hs,_⟩,_⟩:=hst.sig;exact hs.len
 have hArs:=hst.sig.2
 have hle:=hst.le
 have hok:=hst.ok
 have HST:Hid (∀ ww,Same0 w2 ww→StAt ww b bs L R lv vs):=fun ww hk=>hst.same hk
 have HMO:Hid (∀ ww,Same0 w2 ww→ww.cell? ⟨m,0,none⟩=some (.slice ro L.length rc)∧Rl ww.heap.size ww (.slice ro L.length rc) L):=fun ww hk=>⟨cellAt (hmo.same hk).blk 0,(hmo.same hk).rl⟩
 have HTA:Hid (∀ ww,Same0 w2 ww→Arg ww to' T tc):=fun ww hk=>ht.same (K2.trans' hk)
 clear hT hR C1 CS CA hst hmo k1 ht
 obtain ⟨c0,hrl⟩:=HMO.out w2 (Kept.refl _ _)
 have CC:=rclosed8_any (cap:=tc) hrl (HTA.out w2 (Kept.refl _ _)).at' htm
 clear hrl
 cases hcl:clsB8 L T with
 | false=>
  rw [hcl] at CC
  go_wp2_with (first | (go_at_call 18;refine CC.mono ?_;rintro e w3 ⟨rfl,rfl⟩))
  go_ret
  exact ⟨rfl,K2.below⟩
 | true=>
  rw [hcl] at CC
  obtain ⟨hc,hcl0⟩:=cls_pos8 hcl
  have hTz:=checkE_zero.1 hc
  have hany:T.any (fun x=>decide (x<0))=false:=by
   rw [List.any_eq_false]
   intro x hx
   have:=hcl0 x hx
   simp;omega
  go_upto_region 8 with (first | (go_at_call 18;refine CC.mono ?_;rintro e w3 ⟨rfl,rfl⟩))
  clear CC c0 hcl
  go_wp2_with fail
  have hT2:=hTz.1
  go_loopw [12] (fun i wr=>∃ a:Nat,a≤T.length∧i=.int .i64 (a:Int)∧Same0 w3 wr) (fun i _=>T.length-(intOf i).toNat)
  case atStart=>exact ⟨0,Nat.zero_le _,rfl,Kept.refl _ _⟩
  case round=>
   obtain ⟨a,ha,rfl,hw⟩:=hrel
   by_cases hlt:a<T.length
   ·have i1:(0:Int)≤(a:Int):=by omega
    have i2:(a:Int)<(T.length:Int):=by omega
    have hl3:IntKind.i64.wrap ((a:Int)+1)=(a:Int)+1:=iwrap (by omega) (by omega)
    obtain ⟨tb,toff,et,_,hcell⟩:=(HTA.out wr hw).at'.get hlt
    have hTm:T[a]∈T:=List.getElem_mem _
    obtain ⟨s,hs⟩:∃ s:Nat,T[a]=(s:Int):=⟨T[a].toNat,by have:=hcl0 _ hTm;omega⟩
    have hsl:s<L.length:=by have:=(badE_zero.1 hTz.2.1 _ hTm).1;omega
    have HCT:Hid (∀ ww,Same0 w3 ww→ww.cell? ⟨tb,toff+a,none⟩=some (.int .i64 (s:Int))):=fun ww hk=>by
     obtain ⟨tb', toff', et', _,hc'⟩:=(HTA.out ww hk).at'.get hlt
     rw [et] at et'
     cases et'
     rw [hc', hs]
    subst et
    rw [hs] at hcell
    have CB:=build_any (HST.out wr hw) (s:Int)
    by_cases hd:defB L (s:Int)=true
    ·cases htr:treeF L R s with
     | error z=>
      have CB2:Calls Tryz.prog 9 #[.pointer (some ⟨b,0,none⟩),.int .i64 (s:Int)] wr fun e w' => ∃ k,e=.returned (.tuple #[zeroC,.iface 82 (.pointer (some ⟨k,0,none⟩))])∧Same0 wr w' := by
       refine CB.mono ?_
       rintro e w' ⟨hk,h⟩
       rw [if_pos hd] at h
       simp only [Int.toNat_natCast] at h
       rw [htr] at h
       obtain ⟨v,rfl,hf⟩:=h
       rcases hf with ⟨q,_⟩ | ⟨_,k,u,e1,_⟩
       ·omega
       ·subst e1;exact ⟨k,rfl,hk⟩
      clear CB htr hd hok hArs hgood HTA HMO HST HCT hany hcl0 hTz hc hs hTm hsl
      go_wp2_with (first | (go_at_call 9;refine CB2.mono ?_;rintro e w4 ⟨k,rfl,k4⟩))
      exact ⟨⟨a+1,by omega,by go_num,Kept.alloc (hw.trans' k4) _⟩,by simp [intOf];omega⟩
     | ok t=>
      have G:GL 2001 (rootR L R s) t:=grow_GL hArs hL64 2001 _ _ t (root_ok hArs hle hok hsl) htr
      have hsw:=smk_smw G.sm
      obtain ⟨F,hF,f1,f2,f3,f4⟩:=root_fit hgood hc hany hlt hs htr
      obtain ⟨rk,rr,rp,rn,re⟩:=F
      simp only at f1 f2 f3 f4
      subst f1
      have CB2:Calls Tryz.prog 9 #[.pointer (some ⟨b,0,none⟩),.int .i64 (s:Int)] wr fun e w' => ∃ tk tr tpo tpl tpc tko tkl tkc,e=.returned (.tuple #[.agg #[.int .i64 tk,.int .i64 tr,.slice tpo tpl tpc,.slice tko tkl tkc],.nilIface])∧Hid (CsB (fun b=>wr.heap.size≤b) w' 2001 (.agg #[.int .i64 tk,.int .i64 tr,.slice tpo tpl tpc,.slice tko tkl tkc]) t)∧Same0 wr w' := by
       refine CB.mono ?_
       rintro e w' ⟨hk,h⟩
       rw [if_pos hd] at h
       simp only [Int.toNat_natCast] at h
       rw [htr] at h
       obtain ⟨v,rfl,hc⟩:=h
       obtain ⟨tk,tr,tpo,tpl,tpc,tko,tkl,tkc,rfl⟩:=hc.shape
       exact ⟨tk,tr,tpo,tpl,tpc,tko,tkl,tkc,rfl,hc,hk⟩
      have CWK:Hid (∀ ww v,Same0 w3 ww→CsB (fun b=>b<ww.heap.size) ww 2001 v t→Calls Tryz.prog 15 #[.pointer (some ⟨bs,0,none⟩),v,.slice (some ⟨tb,toff,none⟩) T.length tc,.int .i64 (a:Int)] ww fun e w' => ∃ qo qc,e=.returned (.tuple #[.agg #[.int .i64 rk,.int .i64 rr,.slice qo rp.length qc,.int .i64 rn],.int .i64 0])∧Same0 ww w'):=fun ww v hk hv=>by
       have h0:=walk_go (HST.out ww hk).sig hv hsw (HTA.out ww hk) hc hany hlt
       rw [hF] at h0
       refine h0.mono ?_
       rintro e w' ⟨qo,qc,rfl,_,h2⟩
       exact ⟨qo,qc,rfl,h2⟩
      obtain ⟨N,hN⟩:∃ N,N=(ofF (s:Int) 0 R).length:=⟨_,rfl⟩
      have hN100:N≤100:=by rw [hN];exact Nat.le_trans (ofF_len _ _ _) hle
      have HON:Hid (N=(ofF (s:Int) 0 R).length):=hN
      have HOF:Hid (∀ ww,Same0 w3 ww→Calls Tryz.prog 19 #[.pointer (some ⟨b,0,none⟩),.int .i64 (s:Int)] ww fun e w' => ∃ oo oc,e=.returned (.slice oo N oc)∧Hid (IntsAt w' oo (ofF (s:Int) 0 R))∧Same0 ww w'):=fun ww hk=>(sof_any (HST.out ww hk) (s:Int)).mono (fun e w' ⟨v,e1,e2,e3⟩=>by
       obtain ⟨oo,oc,rfl,i1,_⟩:=e2.ints
       exact ⟨oo,oc,by rw [e1,hN],i1,e3⟩)
      have HRD:Hid (∀ y∈ofF (s:Int) 0 R,∃ (Lf Rg:List Int) (B:Bool),(B=true ↔ rk=1∧rr=y)∧(∀ ww,Same0 w3 ww→Calls Tryz.prog 20 #[.pointer (some ⟨b,0,none⟩),.int .i64 y] ww fun e w' => ∃ g c g' c', e=.returned (.tuple #[.agg #[.slice (some ⟨g,0,none⟩) Lf.length c,.slice (some ⟨g', 0,none⟩) Rg.length c'],.int .i64 0])∧Hid (TmAt w' g c Lf)∧Same0 ww w')∧∀ ww g c,Same0 w3 ww→TmAt ww g c Lf→Calls Tryz.prog 21 #[.pointer (some ⟨bs,0,none⟩),.slice (some ⟨g,0,none⟩) Lf.length c,.slice (some ⟨tb,toff,none⟩) T.length tc,.int .i64 (a:Int)] ww fun e w' => ∃ v,e=.returned (.tuple #[v,.bool B,.int .i64 0])∧Same0 ww w'):=fun y hy=>by
       obtain ⟨i,hi,ey,_⟩:=ofF_mem hy
       rw [Nat.zero_add] at ey
       subst ey
       obtain ⟨m1,m2⟩:=good_match hgood hi hc hlt
       refine ⟨R[i].1,R[i].2,(matchS L R[i].1 T (a:Int)).isSome,f3 i hi hy,fun ww hk=>?_,fun ww g c hk htm' => ?_⟩
       ·refine (sat_yes (HST.out ww hk) i hi).mono ?_
        rintro e w' ⟨v,rfl,⟨g,c,g', c', rfl,h1,_⟩,h2⟩
        exact ⟨g,c,g', c', rfl,h1,h2⟩
       ·have hz:=(hok _ (List.getElem_mem hi)).1
        have h200:=(checkE_zero.1 hz).1
        have hA:=htm'.arg h200
        refine (match_any (HST.out ww hk).sig (Nat.le_refl _) (pcap:=c) hA.at' (by unfold maxLen;omega) (HTA.out ww hk).at' htm (HTA.out ww hk).cap' (a:Int)).mono ?_
        rintro e w' ⟨v,l,rfl,_,h2⟩
        rw [m1]
        exact ⟨v,rfl,h2⟩
      have HDM:Hid (rk=3→∃ q:Nat,∃ hq:q<T.length,rn=(q:Int)∧a<q∧q<endN L T a∧defB L T[q]=true):=f4
      have q1:¬ rk<1:=by omega
      have q3:¬ 3<rk:=by omega
      clear CB htr hd hok hArs hgood hany hcl0 hTm hsl G hsw hF f2 f3 f4 hN
      go_upto_region 13 with (first | (go_at_call 9;refine CB2.mono ?_;rintro e w4 ⟨tk,tr,tpo,tpl,tpc,tko,tkl,tkc,rfl,hcs,k4⟩))
      obtain ⟨w5,hw5⟩:∃ w5,w5=w4.alloc (.cells #[.int .i64 tk,.int .i64 tr,.slice tpo tpl tpc,.slice tko tkl tkc] 35):=⟨_,rfl⟩
      have k5:Same0 w4 w5:=by rw [hw5];exact (Kept.refl _ _).alloc _
      have K5:Same0 w3 w5:=(hw.trans' k4).trans' k5
      have b5:w5.heap[w4.heap.size]? = some (.cells #[.int .i64 tk,.int .i64 tr,.slice tpo tpl tpc,.slice tko tkl tkc] 35 (0,0)):=by rw [hw5];exact heap_alloc_new w4 _
      have HCS:CsB (fun b=>b<w5.heap.size) w5 2001 (.agg #[.int .i64 tk,.int .i64 tr,.slice tpo tpl tpc,.slice tko tkl tkc]) t:=CsB.mono (fun b hb _=>hb) (hcs.out.same k5)
      rw [← hw5]
      have c0:=cellAt b5 0
      have c1:=cellAt b5 1
      have c2:=cellAt b5 2
      have c3:=cellAt b5 3
      simp only [List.getElem?_toArray,List.getElem?_cons_zero,List.getElem?_cons_succ] at c0 c1 c2 c3
      have C1:=CWK.out w5 _ K5 HCS
      clear hw5 hcs CB2 k4 k5 hw HCS b5 CWK hcell
      go_upto_region 14 with (first | (go_at_call 15;refine C1.mono ?_;rintro e w6 ⟨qo,qc,rfl,k6⟩))
      obtain ⟨w7,hw7⟩:∃ w7,w7=w6.alloc (.cells #[.int .i64 rk,.int .i64 rr,.slice qo rp.length qc,.int .i64 rn] 53):=⟨_,rfl⟩
      have k7:Same0 w6 w7:=by rw [hw7];exact (Kept.refl _ _).alloc _
      have K7:Same0 w3 w7:=(K5.trans' k6).trans' k7
      have HFD:Hid (∀ ww,Same0 w7 ww→ww.cell? ⟨w6.heap.size,0,none⟩=some (.int .i64 rk)∧ww.cell? ⟨w6.heap.size,1,none⟩=some (.int .i64 rr)∧ww.cell? ⟨w6.heap.size,3,none⟩=some (.int .i64 rn)):=fun ww hk=>by
       have h1:=hk.at0 (show w7.heap[w6.heap.size]? = some (.cells #[.int .i64 rk,.int .i64 rr,.slice qo rp.length qc,.int .i64 rn] 53 (0,0)) by rw [hw7];exact heap_alloc_new w6 _)
       exact ⟨cellAt h1 0,cellAt h1 1,cellAt h1 3⟩
      rw [← hw7]
      clear hw7 c0 c1 c2 c3 C1 k6 k7 K5
      obtain ⟨d0,d1,d3⟩:=HFD.out w7 (Kept.refl _ _)
      have e0:=HCT.out w7 K7
      have C2:=HOF.out w7 K7
      go_upto_region 17 with (first | (go_at_call 19;refine C2.mono ?_;rintro e w8 ⟨oo,oc,rfl,hoo,k8⟩))
      have K8:Same0 w3 w8:=K7.trans' k8
      have HOO:Hid (∀ ww,Same0 w8 ww→IntsAt ww oo (ofF (s:Int) 0 R)):=fun ww hk=>hoo.out.same hk
      have HF8:Hid (∀ ww,Same0 w8 ww→ww.cell? ⟨w6.heap.size,0,none⟩=some (.int .i64 rk)∧ww.cell? ⟨w6.heap.size,1,none⟩=some (.int .i64 rr)∧ww.cell? ⟨w6.heap.size,3,none⟩=some (.int .i64 rn)):=fun ww hk=>HFD.out ww (k8.trans' hk)
      clear d0 d1 d3 e0 C2 hoo k8 HFD HOF
      go_wp2_with fail
      obtain ⟨wo,rfl⟩:∃ wo,wo=wr:=⟨_,rfl⟩
      go_loopw [18] (fun i wr=>∃ j:Nat,j≤N∧i=.int .i64 (j:Int)∧Same0 w8 wr) (fun i _=>N-(intOf i).toNat)
      case atStart=>exact ⟨0,Nat.zero_le _,rfl,Kept.refl _ _⟩
      case round=>
       obtain ⟨j,hj,rfl,hz⟩:=hrel
       obtain ⟨wz,rfl⟩:∃ wz,wz=wr:=⟨_,rfl⟩
       by_cases hjl:j<N
       ·have hjo:j<(ofF (s:Int) 0 R).length:=by rw [← HON.out];exact hjl
        obtain ⟨ob,ooff,eo,hob,hoc⟩:=(HOO.out wz hz).get hjo
        obtain ⟨Lf,Rg,B,hB,hAt,hMa⟩:=HRD.out _ (List.getElem_mem hjo)
        have HOC:Hid (∀ ww,Same0 wz ww→ww.cell? ⟨ob,ooff+j,none⟩=some (.int .i64 (ofF (s:Int) 0 R)[j])):=fun ww hk=>(hk.cell (p:=⟨ob,ooff+j,none⟩) hob (fun f=>f)).trans hoc
        subst eo
        have HMA:Hid _:=hMa
        have HB:Hid _:=hB
        have C3:=hAt wz (K8.trans' hz)
        generalize (ofF (s:Int) 0 R)[j]=y at *
        have j1:(0:Int)≤(j:Int):=by omega
        have j3:(j:Int)<(N:Int):=by omega
        have hl4:IntKind.i64.wrap ((j:Int)+1)=(j:Int)+1:=iwrap (by omega) (by omega)
        clear hjo hAt hMa hB HDM
        go_upto_region 21 with (first | (go_at_call 20;refine C3.mono ?_;rintro e w9 ⟨g,c,g', c', rfl,htm', k9⟩))
        obtain ⟨w10,hw10⟩:∃ w10,w10=w9.alloc (.cells #[.slice (some ⟨g,0,none⟩) Lf.length c,.slice (some ⟨g', 0,none⟩) Rg.length c'] 63):=⟨_,rfl⟩
        have k10:Same0 w9 w10:=by rw [hw10];exact (Kept.refl _ _).alloc _
        have b10:w10.heap[w9.heap.size]? = some (.cells #[.slice (some ⟨g,0,none⟩) Lf.length c,.slice (some ⟨g', 0,none⟩) Rg.length c'] 63 (0,0)):=by rw [hw10];exact heap_alloc_new w9 _
        have K10:Same0 wz w10:=k9.trans' k10
        have C4:=HMA.out w10 g c (K8.trans' (hz.trans' K10)) (htm'.out.same k10)
        have l0:=cellAt b10 0
        simp only [List.getElem?_toArray,List.getElem?_cons_zero] at l0
        rw [← hw10]
        clear hw10 C3 htm' k9 k10 b10 hoc HMA
        go_upto_region 22 with (first | (go_at_call 21;refine C4.mono ?_;rintro e w11 ⟨v,rfl,k11⟩))
        have K11:Same0 wz w11:=K10.trans' k11
        obtain ⟨d0,d1, -⟩:=HF8.out w11 (hz.trans' K11)
        have o0:=HOC.out w11 K11
        have KN:Same0 w8 w11:=hz.trans' K11
        clear l0 C4 k11 HOC K10 K11
        by_cases hk1:rk=1
        ·by_cases hry:rr=y
         ·have eB:B=true:=HB.out.2 ⟨hk1,hry⟩
          subst hk1 hry eB
          clear HB
          go_quiet (fail)
          go_wp2_with fail
          exact ⟨⟨j+1,by omega,by go_num,Kept.drewN KN _⟩,by simp [intOf];omega⟩
         ·have eB:B=false:=by
           cases B with
           | false=>rfl
           | true=>exact absurd (HB.out.1 rfl).2 hry
          have hry2:(rr == y)=false:=by simpa using hry
          subst hk1 eB
          clear HB
          go_quiet (fail)
          go_wp2_with fail
          exact ⟨⟨j+1,by omega,by go_num,Kept.drewN KN _⟩,by simp [intOf];omega⟩
        ·have eB:B=false:=by
          cases B with
          | false=>rfl
          | true=>exact absurd (HB.out.1 rfl).1 hk1
         have hk2:(rk == 1)=false:=by simpa using hk1
         subst eB
         clear HB
         go_quiet (fail)
         go_wp2_with fail
         exact ⟨⟨j+1,by omega,by go_num,Kept.drewN KN _⟩,by simp [intOf];omega⟩
       ·have j3:¬ (j:Int)<(N:Int):=by omega
        obtain ⟨d0,d1,d3⟩:=HF8.out wz hz
        have KZ:=K8.trans' hz
        by_cases hk3:rk=3
        ·subst hk3
         obtain ⟨q,hq,ern,haq,hqe,hdq⟩:=HDM.out rfl
         subst ern
         have HTQ:Hid (∀ ww,Same0 w3 ww→ww.cell? ⟨tb,toff+q,none⟩=some (.int .i64 T[q])):=fun ww hk=>by
          obtain ⟨tb', toff', et', _,hc'⟩:=(HTA.out ww hk).at'.get hq
          cases et'
          exact hc'
         have HDF:Hid (∀ ww,Same0 w3 ww→Calls Tryz.prog 22 #[.slice ro L.length rc,.int .i64 T[q]] ww fun e w' => e=.returned (.bool true)∧Same0 ww w'):=fun ww hk=>by
          refine (rdef_any (HMO.out ww hk).2 T[q]).mono ?_
          rintro e w' ⟨rfl,rfl⟩
          rw [hdq]
          exact ⟨rfl,Kept.refl _ _⟩
         have HEN:Hid (∀ ww,Same0 w3 ww→Calls Tryz.prog 23 #[.slice ro L.length rc,.slice (some ⟨tb,toff,none⟩) T.length tc,.int .i64 (a:Int)] ww fun e w' => e=.returned (.int .i64 (endN L T a:Nat))∧Same0 ww w'):=fun ww hk=>by
          refine (rend_any (cap:=tc) (HMO.out ww hk).2 (HTA.out ww hk).at' hT2 a (Nat.le_of_lt hlt)).mono ?_
          rintro e w' ⟨rfl,rfl⟩
          exact ⟨rfl,Kept.refl _ _⟩
         have HSS:Hid (∀ ww,Same0 wz ww→ww.cell? ⟨m,0,none⟩=some (.slice ro L.length rc)∧ww.cell? ⟨w6.heap.size,3,none⟩=some (.int .i64 (q:Int))∧ww.cell? ⟨tb,toff+q,none⟩=some (.int .i64 T[q])):=fun ww hk=>⟨(HMO.out ww (KZ.trans' hk)).1,(HF8.out ww (hz.trans' hk)).2.2,HTQ.out ww (KZ.trans' hk)⟩
         generalize T[q]=tq at *
         obtain ⟨E,hE⟩:∃ E,E=endN L T a:=⟨_,rfl⟩
         rw [← hE] at HEN
         have p1:¬ (q:Int)≤(a:Int):=by omega
         have p2:¬ (E:Int)≤(q:Int):=by omega
         have p3:(0:Int)≤(q:Int):=by omega
         have p4:(q:Int)<(T.length:Int):=by omega
         have C0:=HSS.out wz (Kept.refl _ _)
         have kd:Same0 wz wz.drew:=Kept.drew (Kept.refl _ _)
         clear HDM HRD HF8 HOO HON HTA HMO HST HCT HTQ hdq hqe hE
         go_upto_region 25 with fail
         go_cut [24] from 47 to 165 (fun s24 wc=>s24=.bool true∧Same0 wz wc)
         case first=>
          go_region_held3 (fun w' => w'.cell? ⟨m,0,none⟩=some (.slice ro L.length rc)∧w'.cell? ⟨w6.heap.size,3,none⟩=some (.int .i64 (q:Int))∧w'.cell? ⟨tb,toff+q,none⟩=some (.int .i64 tq)) (first | exact C0 | exact cc1) (first
           | (go_at_call 22;refine (HDF.out _ (KZ.trans' kd)).mono ?_;rintro e w10 ⟨rfl,k10⟩;have k910:=kd.trans' k10;have cc1:=HSS.out w10 k910))
          all_goals
           go_wp2_with fail
           go_meet
           case rel=>exact ⟨rfl,k910⟩
         case rest=>
          obtain ⟨rfl,kc⟩:=hcut
          obtain ⟨wx,rfl⟩:∃ wx,wx=wc:=⟨_,rfl⟩
          have KX:=KZ.trans' kc
          have D0:wx.cell? ⟨m,0,none⟩=some (.slice ro L.length rc)∧wx.cell? ⟨w6.heap.size,3,none⟩=some (.int .i64 (q:Int)):=⟨(HSS.out wx kc).1,(HSS.out wx kc).2.1⟩
          have kx:Same0 wx wx.drew:=Kept.drew (Kept.refl _ _)
          clear C0 kd
          go_upto_region 26 with fail
          go_region_held3 (fun w' => w'.cell? ⟨m,0,none⟩=some (.slice ro L.length rc)∧w'.cell? ⟨w6.heap.size,3,none⟩=some (.int .i64 (q:Int))) (first | exact D0 | exact cc1) (first
           | (go_at_call 23;refine (HEN.out _ (KX.trans' kx)).mono ?_;rintro e w10 ⟨rfl,k10⟩;have k910:=kx.trans' k10;have cc1:=And.intro (HSS.out w10 (kc.trans' k910)).1 (HSS.out w10 (kc.trans' k910)).2.1))
          all_goals
           go_wp2_with fail
           exact ⟨⟨a+1,by omega,by go_num,KX.trans' k910⟩,by simp [intOf];omega⟩
        ·have hk4:(rk == 3)=false:=by simpa using hk3
         clear HDM HRD HF8 HOO HON HTA HMO HST HCT
         go_wp2_with fail
         exact ⟨⟨a+1,by omega,by go_num,KZ⟩,by simp [intOf];omega⟩
    ·have CB2:Calls Tryz.prog 9 #[.pointer (some ⟨b,0,none⟩),.int .i64 (s:Int)] wr fun e w' => ∃ k,e=.returned (.tuple #[zeroC,.iface 82 (.pointer (some ⟨k,0,none⟩))])∧Same0 wr w' := by
      refine CB.mono ?_
      rintro e w' ⟨hk,h⟩
      rw [if_neg hd] at h
      obtain ⟨v,rfl,hf⟩:=h
      rcases hf with ⟨q,_⟩ | ⟨_,k,u,e1,_⟩
      ·omega
      ·subst e1;exact ⟨k,rfl,hk⟩
     clear CB hd hok hArs hgood HTA HMO HST HCT hany hcl0 hTz hc hs hTm hsl
     go_wp2_with (first | (go_at_call 9;refine CB2.mono ?_;rintro e w4 ⟨k,rfl,k4⟩))
     exact ⟨⟨a+1,by omega,by go_num,Kept.alloc (hw.trans' k4) _⟩,by simp [intOf];omega⟩
   ·have i2:¬ (a:Int)<(T.length:Int):=by omega
    have FIN:Hid (Same0 w wr):=K2.trans' hw
    clear HTA HMO HST hgood hany hcl0 hTz hc
    go_wp2_with fail
    go_ret
    exact ⟨rfl,FIN.out.below⟩
end Go.Proofs.YtfojfpnjnpkabaaGreat
