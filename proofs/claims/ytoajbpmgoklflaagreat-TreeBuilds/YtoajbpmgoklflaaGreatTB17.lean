import Derived.Test.YtoajbpmgoklflaaGreatTB12
import Derived.Test.YtoajbpmgoklflaaGreatTB16
import Derived.Test.YtoajbpmgoklflaaGreatTB13
import Derived.Test.YtoajbpmgoklflaaGreatTB15
import Derived.Test.YtoajbpmgoklflaaGreatTB04
import Derived.Test.YtoajbpmgoklflaaGreatTB14
namespace Go.Proofs.YtoajbpmgoklflaaGreat
set_option maxRecDepth 100000
set_option linter.unusedVariables false
open Go.RowKit
attribute [local go_sem ↓] Go.wp_at_zero Go.wp_at_succ
def SmT:(n:Nat)→Tr n→Prop
 | 0,_=>True
 | n+1,(k,r,p,l)=>l.length≤1000000000∧∀ i (h:i<l.length),SmT n l[i].2
def SameIH (n:Nat):Prop:=∀ (w:World) (a b:Value) (t:Tr n) (B B' : Nat→Prop),CsB B w n a t→CsB B' w n b t→SmT n t→Calls Tryz.prog 10 #[a,b] w fun e w' => e=.returned (.bool true)∧Same0 w w'
theorem sameB_self (p:List Int):sameB p p=true:=by simp [sameB]
set_option maxHeartbeats 8000000 in
theorem csame_step {n:Nat} (IH:SameIH n):SameIH (n+1):=by
 intro w va vb t B B' ha hb hsm
 obtain ⟨k,r,p,l⟩:=t
 obtain ⟨hl9,hsk⟩:=hsm
 obtain ⟨po,pc,ko,kc,rfl,a2,a3,a4,a5,a6⟩:=ha
 obtain ⟨po', pc', ko', kc', rfl,b2,b3,b4,b5,b6⟩:=hb
 obtain ⟨W1,hW1⟩:∃ W1,W1=(w.alloc (.cells #[.int .i64 k,.int .i64 r,.slice po p.length pc,.slice ko l.length kc] 35)).alloc (.cells #[.int .i64 k,.int .i64 r,.slice po' p.length pc', .slice ko' l.length kc'] 35):=⟨_,rfl⟩
 have KW:Same0 w W1:=by rw [hW1];exact ((Kept.refl _ w).alloc _).alloc _
 have BX:Hid (∀ ww,Same0 W1 ww→(ww.cell? ⟨w.heap.size,0,none⟩=some (.int .i64 k)∧ww.cell? ⟨w.heap.size,1,none⟩=some (.int .i64 r)∧ww.cell? ⟨w.heap.size,2,none⟩=some (.slice po p.length pc)∧ww.cell? ⟨w.heap.size,3,none⟩=some (.slice ko l.length kc))∧ww.cell? ⟨w.heap.size+1,0,none⟩=some (.int .i64 k)∧ww.cell? ⟨w.heap.size+1,1,none⟩=some (.int .i64 r)∧ww.cell? ⟨w.heap.size+1,2,none⟩=some (.slice po' p.length pc')∧ww.cell? ⟨w.heap.size+1,3,none⟩=some (.slice ko' l.length kc')):=fun ww hk=>by
  have h1:=hk.at0 (show W1.heap[w.heap.size]? = _ by rw [hW1];exact heap_alloc2_old _ _ _)
  have h2:=hk.at0 (show W1.heap[w.heap.size+1]? = _ by rw [hW1];exact heap_al_al _ _ _)
  exact ⟨⟨cellAt h1 0,cellAt h1 1,cellAt h1 2,cellAt h1 3⟩,cellAt h2 0,cellAt h2 1,cellAt h2 2,cellAt h2 3⟩
 have CP:=same_any (acap:=pc) (bcap:=pc') (a2.at'.same KW) (b2.at'.same KW) (by have:=a2.size;unfold maxLen;omega)
 rw [sameB_self] at CP
 have CI:Hid (∀ ww a b (t:Tr n) B B', CsB B ww n a t→CsB B' ww n b t→SmT n t→Calls Tryz.prog 10 #[a,b] ww fun e w' => e=.returned (.bool true)∧Same0 ww w'):=fun ww a b t B B' => IH ww a b t B B'
 have A6:Hid (l=[]∨∃ b off,ko=some ⟨b,off,none⟩∧B b∧b<w.heap.size∧∀ i (h:i<l.length),∃ c0 c1 c2 c3,w.cell? ⟨b,off+i * 5,none⟩=some (.int .i64 l[i].1)∧w.cell? ⟨b,off+i * 5+1,none⟩=some c0∧w.cell? ⟨b,off+i * 5+2,none⟩=some c1∧w.cell? ⟨b,off+i * 5+3,none⟩=some c2∧w.cell? ⟨b,off+i * 5+4,none⟩=some c3∧CsB B w n (.agg #[c0,c1,c2,c3]) l[i].2):=a6
 have B6:Hid (l=[]∨∃ b off,ko' = some ⟨b,off,none⟩∧B' b∧b<w.heap.size∧∀ i (h:i<l.length),∃ c0 c1 c2 c3,w.cell? ⟨b,off+i * 5,none⟩=some (.int .i64 l[i].1)∧w.cell? ⟨b,off+i * 5+1,none⟩=some c0∧w.cell? ⟨b,off+i * 5+2,none⟩=some c1∧w.cell? ⟨b,off+i * 5+3,none⟩=some c2∧w.cell? ⟨b,off+i * 5+4,none⟩=some c3∧CsB B' w n (.agg #[c0,c1,c2,c3]) l[i].2):=b6
 obtain ⟨⟨x0,x1,x2,x3⟩,y0,y1,y2,y3⟩:=BX.out W1 (Kept.refl _ _)
 have ek:(k == k)=true:=by simp
 have er:(r == r)=true:=by simp
 have el:((l.length:Int) == (l.length:Int))=true:=by simp
 have HSK:Hid (∀ i (h:i<l.length),SmT n l[i].2):=hsk
 clear a6 b6 IH a2 b2 a3 b3 a4 b4 hsk
 go_enter Tryz.func10,Tryz.ntmps10
 go_upto_region 1 with fail
 rw [← hW1]
 clear hW1
 go_upto_region 2 with (first | (go_at_call 27;refine CP.mono ?_;rintro e w2 ⟨rfl,k2⟩))
 obtain ⟨⟨u0,u1,u2,u3⟩,v0,v1,v2,v3⟩:=BX.out w2 k2
 clear x0 x1 x2 x3 y0 y1 y2 y3 CP
 go_wp2_with fail
 go_loopw [6] (fun i wr=>∃ j:Nat,j≤l.length∧i=.int .i64 (j:Int)∧Same0 W1 wr) (fun i _=>l.length-(intOf i).toNat)
 case atStart=>exact ⟨0,Nat.zero_le _,rfl,k2⟩
 case round=>
  clear u0 u1 u2 u3 v0 v1 v2 v3 k2
  obtain ⟨j,hj,rfl,hw⟩:=hrel
  obtain ⟨⟨u0,u1,u2,u3⟩,v0,v1,v2,v3⟩:=BX.out wr hw
  by_cases hlt:j<l.length
  ·rcases A6.out with e | ⟨ab,aoff,rfl,_,hab,hca⟩
   ·subst e;simp at hlt
   rcases B6.out with e | ⟨bb,boff,rfl,_,hbb,hcb⟩
   ·subst e;simp at hlt
   obtain ⟨c0,c1,c2,c3,p0,p1,p2,p3,p4,p5⟩:=hca j hlt
   obtain ⟨d0,d1,d2,d3,q0,q1,q2,q3,q4,q5⟩:=hcb j hlt
   obtain ⟨e0,e1,e2,e3,e4,e5,e6,e7,ea⟩:=p5.shape
   simp only [Value.agg.injEq,Array.mk.injEq,List.cons.injEq,and_true] at ea
   obtain ⟨rfl,rfl,rfl,rfl⟩:=ea
   obtain ⟨g0,g1,g2,g3,g4,g5,g6,g7,eb⟩:=q5.shape
   simp only [Value.agg.injEq,Array.mk.injEq,List.cons.injEq,and_true] at eb
   obtain ⟨rfl,rfl,rfl,rfl⟩:=eb
   have CELLS:Hid (∀ ww,Same0 W1 ww→(ww.cell? ⟨w.heap.size,3,none⟩=some (.slice (some ⟨ab,aoff,none⟩) l.length kc)∧ww.cell? ⟨w.heap.size+1,3,none⟩=some (.slice (some ⟨bb,boff,none⟩) l.length kc')∧ww.cell? ⟨ab,aoff+j * 5+1,none⟩=some (.int .i64 e0)∧ww.cell? ⟨ab,aoff+j * 5+2,none⟩=some (.int .i64 e1)∧ww.cell? ⟨ab,aoff+j * 5+3,none⟩=some (.slice e2 e3 e4)∧ww.cell? ⟨ab,aoff+j * 5+4,none⟩=some (.slice e5 e6 e7)∧ww.cell? ⟨bb,boff+j * 5+1,none⟩=some (.int .i64 g0)∧ww.cell? ⟨bb,boff+j * 5+2,none⟩=some (.int .i64 g1)∧ww.cell? ⟨bb,boff+j * 5+3,none⟩=some (.slice g2 g3 g4)∧ww.cell? ⟨bb,boff+j * 5+4,none⟩=some (.slice g5 g6 g7))∧ww.cell? ⟨ab,aoff+j * 5,none⟩=some (.int .i64 l[j].1)∧ww.cell? ⟨bb,boff+j * 5,none⟩=some (.int .i64 l[j].1)):=fun ww hk=>by
    obtain ⟨⟨_,_,_,m3⟩,_,_,_,n3⟩:=BX.out ww hk
    have kk:=KW.trans' hk
    have ta:∀ o v,w.cell? ⟨ab,o,none⟩=some v→ww.cell? ⟨ab,o,none⟩=some v:=fun o v e=>(kk.cell (p:=⟨ab,o,none⟩) hab (fun f=>f)).trans e
    have tb:∀ o v,w.cell? ⟨bb,o,none⟩=some v→ww.cell? ⟨bb,o,none⟩=some v:=fun o v e=>(kk.cell (p:=⟨bb,o,none⟩) hbb (fun f=>f)).trans e
    exact ⟨⟨m3,n3,ta _ _ p1,ta _ _ p2,ta _ _ p3,ta _ _ p4,tb _ _ q1,tb _ _ q2,tb _ _ q3,tb _ _ q4⟩,ta _ _ p0,tb _ _ q0⟩
   have WD:Same0 wr wr.drew:=(Kept.refl _ _).drew
   have CC:=CI.out wr.drew _ _ l[j].2 B B' (p5.same (KW.trans' (hw.trans' WD))) (q5.same (KW.trans' (hw.trans' WD))) (HSK.out j hlt)
   have i1:(0:Int)≤(j:Int):=by omega
   have i2:(j:Int)<(l.length:Int):=by omega
   have es:(l[j].1 == l[j].1)=true:=by simp
   have S0:=(CELLS.out wr hw).1
   clear hca hcb p0 p1 p2 p3 p4 p5 q0 q1 q2 q3 q4 q5 A6 B6
   go_upto_region 7 with fail
   go_cut [7] from 45 to 57 (fun s7 wc=>s7=.bool true∧Same0 wr wc)
   case first=>
    go_region_held3 (fun ww=>ww.cell? ⟨w.heap.size,3,none⟩=some (.slice (some ⟨ab,aoff,none⟩) l.length kc)∧ww.cell? ⟨w.heap.size+1,3,none⟩=some (.slice (some ⟨bb,boff,none⟩) l.length kc')∧ww.cell? ⟨ab,aoff+j * 5+1,none⟩=some (.int .i64 e0)∧ww.cell? ⟨ab,aoff+j * 5+2,none⟩=some (.int .i64 e1)∧ww.cell? ⟨ab,aoff+j * 5+3,none⟩=some (.slice e2 e3 e4)∧ww.cell? ⟨ab,aoff+j * 5+4,none⟩=some (.slice e5 e6 e7)∧ww.cell? ⟨bb,boff+j * 5+1,none⟩=some (.int .i64 g0)∧ww.cell? ⟨bb,boff+j * 5+2,none⟩=some (.int .i64 g1)∧ww.cell? ⟨bb,boff+j * 5+3,none⟩=some (.slice g2 g3 g4)∧ww.cell? ⟨bb,boff+j * 5+4,none⟩=some (.slice g5 g6 g7)) (first | exact S0 | exact (CELLS.out _ (hw.trans' kc9)).1) (first
     | (go_at_call 10;refine CC.mono ?_;rintro e w9 ⟨rfl,k9⟩;have kc9:=WD.trans' k9))
    all_goals
     go_wp2_with fail
     go_meet
     exact ⟨rfl,kc9⟩
   case rest=>
    obtain ⟨rfl,k9⟩:=hcut
    obtain ⟨w9,rfl⟩:∃ w9,w9=wc:=⟨_,rfl⟩
    obtain ⟨⟨m1,m2,_⟩,m3,m4⟩:=CELLS.out w9 (hw.trans' k9)
    have n1:w9.drew.cell? ⟨w.heap.size,3,none⟩=some (.slice (some ⟨ab,aoff,none⟩) l.length kc):=m1
    have n2:w9.drew.cell? ⟨w.heap.size+1,3,none⟩=some (.slice (some ⟨bb,boff,none⟩) l.length kc'):=m2
    have n3:w9.drew.cell? ⟨ab,aoff+j * 5,none⟩=some (.int .i64 l[j].1):=m3
    have n4:w9.drew.cell? ⟨bb,boff+j * 5,none⟩=some (.int .i64 l[j].1):=m4
    clear u0 u1 u2 u3 v0 v1 v2 v3 S0 CC
    go_wp2_with fail
    go_quiet (fail)
    go_wp2_with fail
    exact ⟨⟨j+1,by omega,by go_num,(hw.trans' k9).drewN _⟩,by simp [intOf];omega⟩
  ·obtain rfl:j=l.length:=by omega
   go_wp2_with fail
   go_ret
   exact ⟨rfl,KW.trans' hw⟩
theorem csame_any:∀ n,SameIH n
 | 0=>fun w a b t B B' h _ _=>h.elim
 | n+1=>csame_step (csame_any n)
set_option maxHeartbeats 2000000 in
theorem fsame_any {w:World} {k r nd:Int} {p:List Int} {po po' : Option Addr} {pc pc' : Nat} (ha:IntsAt w po p) (hb:IntsAt w po' p) (hl:p.length≤maxLen) :
  Calls Tryz.prog 30 #[.agg #[.int .i64 k,.int .i64 r,.slice po p.length pc,.int .i64 nd],.agg #[.int .i64 k,.int .i64 r,.slice po' p.length pc', .int .i64 nd]] w fun e w' => e=.returned (.bool true)∧Same0 w w' := by
 obtain ⟨W1,hW1⟩:∃ W1,W1=(w.alloc (.cells #[.int .i64 k,.int .i64 r,.slice po p.length pc,.int .i64 nd] 85)).alloc (.cells #[.int .i64 k,.int .i64 r,.slice po' p.length pc', .int .i64 nd] 85):=⟨_,rfl⟩
 have KW:Same0 w W1:=by rw [hW1];exact ((Kept.refl _ w).alloc _).alloc _
 have BX:Hid (∀ ww,Same0 W1 ww→(ww.cell? ⟨w.heap.size,0,none⟩=some (.int .i64 k)∧ww.cell? ⟨w.heap.size,1,none⟩=some (.int .i64 r)∧ww.cell? ⟨w.heap.size,2,none⟩=some (.slice po p.length pc)∧ww.cell? ⟨w.heap.size,3,none⟩=some (.int .i64 nd))∧ww.cell? ⟨w.heap.size+1,0,none⟩=some (.int .i64 k)∧ww.cell? ⟨w.heap.size+1,1,none⟩=some (.int .i64 r)∧ww.cell? ⟨w.heap.size+1,2,none⟩=some (.slice po' p.length pc')∧ww.cell? ⟨w.heap.size+1,3,none⟩=some (.int .i64 nd)):=fun ww hk=>by
  have h1:=hk.at0 (show W1.heap[w.heap.size]? = _ by rw [hW1];exact heap_alloc2_old _ _ _)
  have h2:=hk.at0 (show W1.heap[w.heap.size+1]? = _ by rw [hW1];exact heap_al_al _ _ _)
  exact ⟨⟨cellAt h1 0,cellAt h1 1,cellAt h1 2,cellAt h1 3⟩,cellAt h2 0,cellAt h2 1,cellAt h2 2,cellAt h2 3⟩
 have CP:=same_any (acap:=pc) (bcap:=pc') (ha.same KW) (hb.same KW) hl
 rw [sameB_self] at CP
 obtain ⟨⟨x0,x1,x2,x3⟩,y0,y1,y2,y3⟩:=BX.out W1 (Kept.refl _ _)
 have ek:(k == k)=true:=by simp
 have er:(r == r)=true:=by simp
 have en:(nd == nd)=true:=by simp
 clear ha hb
 go_enter Tryz.func30,Tryz.ntmps30
 go_upto_region 1 with fail
 rw [← hW1]
 clear hW1
 go_upto_region 2 with (first | (go_at_call 27;refine CP.mono ?_;rintro e w2 ⟨rfl,k2⟩))
 obtain ⟨⟨u0,u1,u2,u3⟩,v0,v1,v2,v3⟩:=BX.out w2 k2
 clear x0 x1 x2 x3 y0 y1 y2 y3 CP
 go_wp2_with fail
 go_ret
 exact ⟨by simp,KW.trans' k2⟩
def IW8 (w:World) (xo:Option Addr) (n xc:Nat):Prop:=(xo=none∧n=0∧xc=0)∨∃ b cur,xo=some ⟨b,0,none⟩∧w.heap[b]? = some (.cells cur 3 (0,0))∧cur.size=xc∧n≤xc∧xc≤maxLen∧n * 8≤140737488351232
def KW8 (w:World) (xo:Option Addr) (n xc:Nat):Prop:=(xo=none∧n=0∧xc=0)∨∃ b cur,xo=some ⟨b,0,none⟩∧w.heap[b]? = some (.cells cur 89 (0,0))∧cur.size=xc * 5∧n≤xc∧xc≤maxLen∧n≤1000000000
theorem ArgT.w8 {w:World} {ao:Option Addr} {xs:List Int} {cap:Nat} (h:ArgT w ao xs cap):IW8 w ao xs.length cap:=by
 cases ao with
 | none=>obtain ⟨h0,h1⟩:=h.1.nil rfl;exact .inl ⟨rfl,h0,h1⟩
 | some a=>
  obtain ⟨b,cur,e,hc,hs,hm⟩:=h.own a rfl
  exact .inr ⟨b,cur,by rw [e],hc,hs,h.1.cap', hm,h.1.size⟩
theorem kw8_of {w:World} {ko:Option Addr} {n kc:Nat} {us:List Value} (h:w.ownsRow 0 89 5 (.slice ko n kc) n us) (hn:n≤1000000000):KW8 w ko n kc:=by
 rcases h.2 with ⟨e,h0⟩ | ⟨g,cap,cur,e,_,hg,hle,hm,hs,_⟩
 ·simp only [Value.slice.injEq] at e
  exact .inl ⟨e.1,h0,e.2.2⟩
 ·simp only [Value.slice.injEq] at e
  obtain ⟨rfl,_,rfl⟩:=e
  exact .inr ⟨g,cur,rfl,hg,hs,hle,hm,hn⟩
theorem IW8.row {w:World} {xo:Option Addr} {n xc:Nat} (h:IW8 w xo n xc):∃ vs,w.ownsRow 0 3 1 (.slice xo n xc) n vs:=by
 rcases h with ⟨rfl,rfl,rfl⟩ | ⟨b,cur,rfl,hc,hs,h1,h2,h3⟩
 ·exact ⟨[],World.ownsRow_nil _ _ _ _⟩
 ·exact ⟨cur.toList.take n,by simp;omega,.inr ⟨b,xc,cur,rfl,Nat.zero_le _,hc,h1,h2,by omega,by simp⟩⟩
theorem KW8.row {w:World} {xo:Option Addr} {n xc:Nat} (h:KW8 w xo n xc):∃ vs,w.ownsRow 0 89 5 (.slice xo n xc) n vs:=by
 rcases h with ⟨rfl,rfl,rfl⟩ | ⟨b,cur,rfl,hc,hs,h1,h2,h3⟩
 ·exact ⟨[],World.ownsRow_nil _ _ _ _⟩
 ·exact ⟨cur.toList.take (n * 5),by simp;omega,.inr ⟨b,xc,cur,rfl,Nat.zero_le _,hc,h1,h2,hs,by simp⟩⟩
theorem IW8.kept {S:Nat→Prop} {w w' : World} {xo:Option Addr} {n xc:Nat} (h:IW8 w xo n xc) (hk:Kept S w w') (hS:∀ a,xo=some a→¬ S a.block):IW8 w' xo n xc:=
 h.imp id (fun ⟨b,cur,e,hc,q⟩=>⟨b,cur,e,hk.at hc (hS _ e),q⟩)
theorem KW8.kept {S:Nat→Prop} {w w' : World} {xo:Option Addr} {n xc:Nat} (h:KW8 w xo n xc) (hk:Kept S w w') (hS:∀ a,xo=some a→¬ S a.block):KW8 w' xo n xc:=
 h.imp id (fun ⟨b,cur,e,hc,q⟩=>⟨b,cur,e,hk.at hc (hS _ e),q⟩)
theorem IW8.put {w:World} {b n xc:Nat} (h:IW8 w (some ⟨b,0,none⟩) n xc) {k:Nat} (hk:k<n) (v:Value):(∃ old,w.cell? ⟨b,k,none⟩=some old)∧w.frozen? ⟨b,k,none⟩=false∧IW8 (w.setCell ⟨b,k,none⟩ v) (some ⟨b,0,none⟩) n xc:=by
 rcases h with ⟨e,_⟩ | ⟨b', cur,e,hc,hs,h1,h2,h3⟩
 ·cases e
 ·cases e
  have hl:k<cur.size:=by omega
  exact ⟨⟨cur[k],by rw [cellAt hc];exact Array.getElem?_eq_getElem hl⟩,frozenAt hc _,.inr ⟨b,_,rfl,setAt hc k v,by simpa using hs,h1,h2,h3⟩⟩
theorem KW8.put {w:World} {b n xc:Nat} (h:KW8 w (some ⟨b,0,none⟩) n xc) {k:Nat} (hk:k<n) (v0 v1 v2 v3 v4:Value):(∃ o0 o1 o2 o3 o4,w.cell? ⟨b,k * 5,none⟩=some o0∧w.cell? ⟨b,k * 5+1,none⟩=some o1∧w.cell? ⟨b,k * 5+2,none⟩=some o2∧w.cell? ⟨b,k * 5+3,none⟩=some o3∧w.cell? ⟨b,k * 5+4,none⟩=some o4)∧(w.frozen? ⟨b,k * 5,none⟩=false∧w.frozen? ⟨b,k * 5+1,none⟩=false∧w.frozen? ⟨b,k * 5+2,none⟩=false∧w.frozen? ⟨b,k * 5+3,none⟩=false∧w.frozen? ⟨b,k * 5+4,none⟩=false)∧KW8 (((((w.setCell ⟨b,k * 5,none⟩ v0).setCell ⟨b,k * 5+1,none⟩ v1).setCell ⟨b,k * 5+2,none⟩ v2).setCell ⟨b,k * 5+3,none⟩ v3).setCell ⟨b,k * 5+4,none⟩ v4) (some ⟨b,0,none⟩) n xc∧Kept (fun q=>q=b) w (((((w.setCell ⟨b,k * 5,none⟩ v0).setCell ⟨b,k * 5+1,none⟩ v1).setCell ⟨b,k * 5+2,none⟩ v2).setCell ⟨b,k * 5+3,none⟩ v3).setCell ⟨b,k * 5+4,none⟩ v4)∧∀ j,(j<k * 5∨k * 5+4<j)→(((((w.setCell ⟨b,k * 5,none⟩ v0).setCell ⟨b,k * 5+1,none⟩ v1).setCell ⟨b,k * 5+2,none⟩ v2).setCell ⟨b,k * 5+3,none⟩ v3).setCell ⟨b,k * 5+4,none⟩ v4).cell? ⟨b,j,none⟩=w.cell? ⟨b,j,none⟩:=by
 rcases h with ⟨e,_⟩ | ⟨b', cur,e,hc,hs,h1,h2,h3⟩
 ·cases e
 ·cases e
  have l0:k * 5<cur.size:=by omega
  have l1:k * 5+1<cur.size:=by omega
  have l2:k * 5+2<cur.size:=by omega
  have l3:k * 5+3<cur.size:=by omega
  have l4:k * 5+4<cur.size:=by omega
  have s4:=setAt (setAt (setAt (setAt (setAt hc (k * 5) v0) (k * 5+1) v1) (k * 5+2) v2) (k * 5+3) v3) (k * 5+4) v4
  have k1:=Kept.setCell (p:=⟨b,k * 5,none⟩) (Kept.refl (fun q=>q=b) w) (fun _=>rfl) v0
  have k2:=Kept.setCell (p:=⟨b,k * 5+1,none⟩) k1 (fun _=>rfl) v1
  have k3:=Kept.setCell (p:=⟨b,k * 5+2,none⟩) k2 (fun _=>rfl) v2
  have k4:=Kept.setCell (p:=⟨b,k * 5+3,none⟩) k3 (fun _=>rfl) v3
  have k5:=Kept.setCell (p:=⟨b,k * 5+4,none⟩) k4 (fun _=>rfl) v4
  refine ⟨⟨cur[k * 5],cur[k * 5+1],cur[k * 5+2],cur[k * 5+3],cur[k * 5+4],?_,?_,?_,?_,?_⟩,⟨frozenAt hc _,frozenAt hc _,frozenAt hc _,frozenAt hc _,frozenAt hc _⟩,.inr ⟨b,_,rfl,s4,by simpa using hs,h1,h2,h3⟩,k5,fun j hj=>?_⟩
  ·rw [cellAt hc];exact Array.getElem?_eq_getElem l0
  ·rw [cellAt hc];exact Array.getElem?_eq_getElem l1
  ·rw [cellAt hc];exact Array.getElem?_eq_getElem l2
  ·rw [cellAt hc];exact Array.getElem?_eq_getElem l3
  ·rw [cellAt hc];exact Array.getElem?_eq_getElem l4
  ·rw [cellAt s4,cellAt hc]
   simp only [Array.getElem?_setIfInBounds]
   rw [if_neg (by omega),if_neg (by omega),if_neg (by omega),if_neg (by omega),if_neg (by omega)]
structure SpJ (B:Nat→Prop) (w wr:World) (n:Nat) (po:Option Addr) (pl pc:Nat) (ko:Option Addr) (kc:Nat) (l:List (Int × Tr n)) (j:Nat):Prop where
 k:Kept B w wr
 i:IW8 wr po pl pc
 kw:KW8 wr ko l.length kc
 kid:l=[]∨∃ (g:Nat) (β:Nat→Nat),ko=some ⟨g,0,none⟩∧B g∧g<wr.heap.size∧(∀ i,β i≤β (i+1))∧∀ i (h:i<l.length),j≤i→∃ c0 c1 c2 c3,wr.cell? ⟨g,i * 5+1,none⟩=some c0∧wr.cell? ⟨g,i * 5+2,none⟩=some c1∧wr.cell? ⟨g,i * 5+3,none⟩=some c2∧wr.cell? ⟨g,i * 5+4,none⟩=some c3∧CsO (fun b=>(B b∧b≠g∧∀ a,po=some a→a.block≠b)∧β i≤b∧b<β (i+1)) wr n (.agg #[c0,c1,c2,c3]) l[i].2
theorem mono_le {β : Nat → Nat} (h : ∀ i, β i ≤ β (i + 1)) {i j : Nat} (hij : i ≤ j) : β i ≤ β j := by
  induction j with
  | zero => obtain rfl : i = 0 := by omega
            exact Nat.le_refl _
  | succ j ih =>
    by_cases e : i = j + 1
    · subst e; exact Nat.le_refl _
    · exact Nat.le_trans (ih (by omega)) (h j)
theorem SpJ.step {B:Nat→Prop} {w wr:World} {n:Nat} {po:Option Addr} {pl pc:Nat} {ko:Option Addr} {kc:Nat} {l:List (Int × Tr n)} {j:Nat} (h:SpJ B w wr n po pl pc ko kc l j) (hj:j<l.length) :
  ∃ g k r qo ql qc mo ml mc,ko=some ⟨g,0,none⟩∧(wr.cell? ⟨g,j * 5+1,none⟩=some (.int .i64 k)∧wr.cell? ⟨g,j * 5+2,none⟩=some (.int .i64 r)∧wr.cell? ⟨g,j * 5+3,none⟩=some (.slice qo ql qc)∧wr.cell? ⟨g,j * 5+4,none⟩=some (.slice mo ml mc))∧∃ Bj:Nat→Prop,CsO Bj wr n (.agg #[.int .i64 k,.int .i64 r,.slice qo ql qc,.slice mo ml mc]) l[j].2∧(∀ b,Bj b→B b) ∧
   ∀ w5,Kept Bj wr w5→(∃ o0 o1 o2 o3 o4,w5.cell? ⟨g,j * 5,none⟩=some o0∧w5.cell? ⟨g,j * 5+1,none⟩=some o1∧w5.cell? ⟨g,j * 5+2,none⟩=some o2∧w5.cell? ⟨g,j * 5+3,none⟩=some o3∧w5.cell? ⟨g,j * 5+4,none⟩=some o4)∧(w5.frozen? ⟨g,j * 5,none⟩=false∧w5.frozen? ⟨g,j * 5+1,none⟩=false∧w5.frozen? ⟨g,j * 5+2,none⟩=false∧w5.frozen? ⟨g,j * 5+3,none⟩=false∧w5.frozen? ⟨g,j * 5+4,none⟩=false)∧∀ v0 v1 v2 v3 v4,SpJ B w (((((w5.setCell ⟨g,j * 5,none⟩ v0).setCell ⟨g,j * 5+1,none⟩ v1).setCell ⟨g,j * 5+2,none⟩ v2).setCell ⟨g,j * 5+3,none⟩ v3).setCell ⟨g,j * 5+4,none⟩ v4) n po pl pc ko kc l (j+1):=by
 obtain ⟨hk,hi,hkw,hkid⟩:=h
 rcases hkid with e | ⟨g,β,rfl,hg,hgl,hm,hc⟩
 ·rw [e] at hj;simp at hj
 ·obtain ⟨c0,c1,c2,c3,q1,q2,q3,q4,q5⟩:=hc j hj (Nat.le_refl _)
  obtain ⟨k,r,qo,ql,qc,mo,ml,mc,e⟩:=q5.shape
  simp only [Value.agg.injEq,Array.mk.injEq,List.cons.injEq,and_true] at e
  obtain ⟨rfl,rfl,rfl,rfl⟩:=e
  refine ⟨g,k,r,qo,ql,qc,mo,ml,mc,rfl,⟨q1,q2,q3,q4⟩,_,q5,fun b q=>q.1.1,fun w5 k5=>?_⟩
  have nP:∀ a,po=some a→¬ ((B a.block∧a.block≠g∧∀ a', po=some a' → a'.block≠a.block)∧β j≤a.block∧a.block<β (j+1)):=fun a e q=>q.1.2.2 a e rfl
  have nG:¬ ((B g∧g≠g∧∀ a', po=some a' → a'.block≠g)∧β j≤g∧g<β (j+1)):=fun q=>q.1.2.1 rfl
  have kw5:KW8 w5 (some ⟨g,0,none⟩) l.length kc:=hkw.kept k5 (fun a e=>by cases e;exact nG)
  have kP:=fun v0 v1 v2 v3 v4=>kw5.put hj v0 v1 v2 v3 v4
  obtain ⟨z1,z2,_⟩:=kP .nilIface .nilIface .nilIface .nilIface .nilIface
  refine ⟨z1,z2,fun v0 v1 v2 v3 v4=>?_⟩
  obtain ⟨_,_,y1,y2,y3⟩:=kP v0 v1 v2 v3 v4
  have gT:∃ cu,wr.heap[g]? = some (.cells cu 89 (0,0)):=by
   rcases hkw with ⟨e,_⟩ | ⟨b,cur,e,hcur,_⟩
   ·cases e
   ·cases e;exact ⟨cur,hcur⟩
  obtain ⟨cg,hcg⟩:=gT
  have nPg:∀ a,po=some a→¬ a.block=g:=fun a e f=>by
   rcases hi with ⟨e2,_⟩ | ⟨b,cu,e2,hcu,_⟩
   ·rw [e2] at e;cases e
   ·rw [e2] at e
    cases e
    have f' : b=g:=f
    rw [f', hcg] at hcu;cases hcu
  refine ⟨Kept.trans (Kept.trans hk k5 (fun i _ q=>q.1.1)) y2 (fun i _ q=>by have q' : i=g:=q;rw [q'];exact hg),(hi.kept k5 nP).kept y2 nPg,y1,.inr ⟨g,β,rfl,hg,Nat.lt_of_lt_of_le (Nat.lt_of_lt_of_le hgl k5.size) y2.size,hm,fun i hi' hji=>?_⟩⟩
  obtain ⟨d0,d1,d2,d3,p1,p2,p3,p4,p5⟩:=hc i hi' (by omega)
  have hcell:∀ m u,(m=1∨m=2∨m=3∨m=4)→wr.cell? ⟨g,i * 5+m,none⟩=some u→(((((w5.setCell ⟨g,j * 5,none⟩ v0).setCell ⟨g,j * 5+1,none⟩ v1).setCell ⟨g,j * 5+2,none⟩ v2).setCell ⟨g,j * 5+3,none⟩ v3).setCell ⟨g,j * 5+4,none⟩ v4).cell? ⟨g,i * 5+m,none⟩=some u:=fun m u hm' hu=>by
   rw [y3 (i * 5+m) (.inr (by omega))]
   exact (k5.cell (p:=⟨g,i * 5+m,none⟩) hgl nG).trans hu
  have hβ:=mono_le hm (show j+1≤i by omega)
  refine ⟨d0,d1,d2,d3,hcell 1 _ (by omega) p1,hcell 2 _ (by omega) p2,hcell 3 _ (by omega) p3,hcell 4 _ (by omega) p4,CsO.kept y2 (fun b q e=>?_) (CsO.kept k5 (fun b q e=>?_) p5)⟩
  ·exact q.1.2.1 e
  ·have:=q.2.1
   have:=e.2.2
   omega
theorem SpJ.num {B:Nat→Prop} {w wr:World} {n:Nat} {b:Nat} {pl pc:Nat} {ko:Option Addr} {kc:Nat} {l:List (Int × Tr n)} {j:Nat} (h:SpJ B w wr n (some ⟨b,0,none⟩) pl pc ko kc l j) (hb:B b) {m:Nat} (hm:m<pl) (v:Value):(∃ old,wr.cell? ⟨b,m,none⟩=some old)∧wr.frozen? ⟨b,m,none⟩=false∧SpJ B w (wr.setCell ⟨b,m,none⟩ v) n (some ⟨b,0,none⟩) pl pc ko kc l j:=by
 obtain ⟨hk,hi,hkw,hkid⟩:=h
 obtain ⟨z1,z2,z3⟩:=hi.put hm v
 have ks:Kept (fun q=>q=b) wr (wr.setCell ⟨b,m,none⟩ v):=Kept.setCell (p:=⟨b,m,none⟩) (Kept.refl (fun q=>q=b) wr) (fun _=>rfl) _
 have bT:∃ cu,wr.heap[b]? = some (.cells cu 3 (0,0)):=by
  rcases hi with ⟨e,_⟩ | ⟨b', cur,e,hcur,_⟩
  ·cases e
  ·cases e;exact ⟨cur,hcur⟩
 obtain ⟨cb,hcb⟩:=bT
 have nK:∀ a,ko=some a→¬ a.block=b:=fun a e f=>by
  rcases hkw with ⟨e2,_⟩ | ⟨g,cu,e2,hcu,_⟩
  ·rw [e2] at e;cases e
  ·rw [e2] at e
   cases e
   have f' : g=b:=f
   rw [f', hcb] at hcu;cases hcu
 refine ⟨z1,z2,Kept.trans hk ks (fun i _ q=>by have q' : i=b:=q;rw [q'];exact hb),z3,hkw.kept ks nK,hkid.imp id ?_⟩
 rintro ⟨g,β,rfl,hg,hgl,hmo,hc⟩
 refine ⟨g,β,rfl,hg,Nat.lt_of_lt_of_le hgl ks.size,hmo,fun i hi' hji=>?_⟩
 obtain ⟨d0,d1,d2,d3,p1,p2,p3,p4,p5⟩:=hc i hi' hji
 have ng:¬ g=b:=nK _ rfl
 exact ⟨d0,d1,d2,d3,(ks.cell (p:=⟨g,i * 5+1,none⟩) hgl ng).trans p1,(ks.cell (p:=⟨g,i * 5+2,none⟩) hgl ng).trans p2,(ks.cell (p:=⟨g,i * 5+3,none⟩) hgl ng).trans p3,(ks.cell (p:=⟨g,i * 5+4,none⟩) hgl ng).trans p4,CsO.kept ks (fun b' q e=>by have e' : b' = b:=e;exact q.1.2.2 _ rfl e'.symm) p5⟩
theorem SpJ.start {B:Nat→Prop} {w:World} {n:Nat} {v:Value} {k r:Int} {p:List Int} {l:List (Int × Tr n)} (h:CsO B w (n+1) v (k,r,p,l)) (hl:l.length≤1000000000):∃ po pc ko kc,v=.agg #[.int .i64 k,.int .i64 r,.slice po p.length pc,.slice ko l.length kc]∧SpJ B w w n po p.length pc ko kc l 0∧(∀ a,po=some a→B a.block)∧∀ a,ko=some a→B a.block:=by
 obtain ⟨po,pc,ko,kc,h1,⟨g1,g2,⟨us,g3⟩,g4⟩,h4,h5,h6⟩:=h
 refine ⟨po,pc,ko,kc,h1,⟨Kept.refl _ _,g1.w8,kw8_of g3 hl,h6.imp id ?_⟩,g2,fun a e=>g4 _ (by rw [e];rfl)⟩
 rintro ⟨g,β,e,hb,hgl,hm,hc⟩
 refine ⟨g,β,e,hb,hgl,hm,fun i hi _=>?_⟩
 obtain ⟨c0,c1,c2,c3,q0,q1,q2,q3,q4,q5⟩:=hc i hi
 exact ⟨c0,c1,c2,c3,q1,q2,q3,q4,q5⟩
theorem SpJ.same {B:Nat→Prop} {w0 w wr:World} {n:Nat} {po:Option Addr} {pl pc:Nat} {ko:Option Addr} {kc:Nat} {l:List (Int × Tr n)} {j:Nat} (h:SpJ B w w n po pl pc ko kc l j) (hk:Same0 w wr):SpJ B wr wr n po pl pc ko kc l j:=by
 obtain ⟨_,hi,hkw,hkid⟩:=h
 refine ⟨Kept.refl _ _,hi.kept hk (fun _ _ f=>f),hkw.kept hk (fun _ _ f=>f),hkid.imp id ?_⟩
 rintro ⟨g,β,rfl,hg,hgl,hmo,hc⟩
 refine ⟨g,β,rfl,hg,Nat.lt_of_lt_of_le hgl hk.size,hmo,fun i hi' hji=>?_⟩
 obtain ⟨d0,d1,d2,d3,p1,p2,p3,p4,p5⟩:=hc i hi' hji
 have ng:¬ False:=fun f=>f
 exact ⟨d0,d1,d2,d3,(hk.cell (p:=⟨g,i * 5+1,none⟩) hgl ng).trans p1,(hk.cell (p:=⟨g,i * 5+2,none⟩) hgl ng).trans p2,(hk.cell (p:=⟨g,i * 5+3,none⟩) hgl ng).trans p3,(hk.cell (p:=⟨g,i * 5+4,none⟩) hgl ng).trans p4,p5.same hk⟩
theorem wpList_sev {w0:World} {ops:Array Oper} {rest:List Oper} {o:Oper} {a:Act} {Q:Exit→Act→World→Prop} (hgd:o.guard=none) (s x:Operand)
  (ho:o.op=.call { callee:=.builtin .append,args:=#[s,x],argTypes:=#[32,32] }) (xo:Option Addr) (n xc:Nat) (hs:a.eval s=.slice xo n xc) (hw:IW8 w0 xo n xc) (m:Int) (hx:a.eval x=.slice (some ⟨w0.heap.size,0,none⟩) 3 3)
  (h:∀ g c w', Kept (fun q=>xo=some ⟨q,0,none⟩) w0 w' → wpList Tryz.prog ops Q rest (a.put o.dst (.slice (some ⟨g,0,none⟩) (n+3) c)) w') :
  wpList Tryz.prog ops Q (o :: rest) a (w0.alloc (.cells #[.int .i64 m,.int .i64 m,.int .i64 m] 3)):=by
 obtain ⟨i,hi,hz0,hz1,hz2⟩:=info_parts info_intT
 have kA:Same0 w0 (w0.alloc (.cells #[.int .i64 m,.int .i64 m,.int .i64 m] 3)):=(Kept.refl _ w0).alloc _
 obtain ⟨vs,hr⟩:=(hw.kept kA (fun _ _ f=>f)).row
 have hb:n+3≤maxLen∧(n+3) * 8≤140737488355328:=by
  unfold maxLen
  rcases hw with ⟨_,rfl,_⟩ | ⟨_,_,_,_,_,_,_,h3⟩
  ·omega
  ·omega
 have hown:∀ q,(Value.slice xo n xc).ownBlock=some q→xo=some ⟨q,0,none⟩:=fun q e=>by
  rcases hw with ⟨rfl,_⟩ | ⟨b,_,rfl,_⟩
  ·cases e
  ·simp only [Value.ownBlock,Option.some.injEq] at e
   rw [e]
 refine wpList_append_own _ hgd s x 32 ho 0 3 i _ 1 8 Tryz.underlying32 hi hz0 hz1 hz2 rfl (by decide) (.slice xo n xc) n vs hs hr ⟨w0.heap.size,0,none⟩ 3 3 [.int .i64 m,.int .i64 m,.int .i64 m] hx rfl (World.news_of_block (cs:=#[.int .i64 m,.int .i64 m,.int .i64 m]) (t:=3) (fr:=(0,0)) (heap_alloc_new w0 _)) (by intro u hu;simp at hu;rcases hu with rfl | rfl | rfl <;> rfl) hb.1 hb.2 (Nat.zero_le _) ?_
 intro v' w' ho' hgrow _
 rcases ho'.2 with ⟨_,h0⟩ | ⟨g,cap,cur,rfl,_⟩
 ·omega
 ·exact h g cap w' (Kept.grown (Kept.alloc (Kept.refl _ w0) _) hgrow (fun q e _=>hown q e))
theorem wpList_kids {w0:World} {ops:Array Oper} {rest:List Oper} {o:Oper} {a:Act} {Q:Exit→Act→World→Prop} (hgd:o.guard=none) (s x:Operand)
  (ho:o.op=.call { callee:=.builtin .append,args:=#[s,x],argTypes:=#[33,33] }) (xo:Option Addr) (n xc:Nat) (hs:a.eval s=.slice xo n xc) (hw:KW8 w0 xo n xc) (N:Nat) (hN:w0.heap.size=N) (hx:a.eval x=.slice (some ⟨N,0,none⟩) 2 2)
  (h:∀ g c w', Kept (fun q=>xo=some ⟨q,0,none⟩) w0 w' → wpList Tryz.prog ops Q rest (a.put o.dst (.slice (some ⟨g,0,none⟩) (n+2) c)) w') :
  wpList Tryz.prog ops Q (o :: rest) a (w0.alloc (.cells #[.int .i64 0,.int .i64 0,.int .i64 0,.slice none 0 0,.slice none 0 0,.int .i64 0,.int .i64 0,.int .i64 0,.slice none 0 0,.slice none 0 0] 89)):=by
 subst hN
 obtain ⟨i,hi,hz0,hz1,hz2⟩:=info_parts info_kid
 obtain ⟨cs,hcs⟩:∃ cs:Array Value,cs = #[.int .i64 0,.int .i64 0,.int .i64 0,.slice none 0 0,.slice none 0 0,.int .i64 0,.int .i64 0,.int .i64 0,.slice none 0 0,.slice none 0 0]:=⟨_,rfl⟩
 have hone:∀ u∈cs.toList,u.oneCell' = true:=by
  rw [hcs];intro u hu
  simp at hu
  rcases hu with rfl | rfl | rfl | rfl <;> rfl
 have hlen:cs.toList.length=10:=by rw [hcs];rfl
 rw [← hcs]
 have kA:Same0 w0 (w0.alloc (.cells cs 89)):=(Kept.refl _ w0).alloc _
 obtain ⟨vs,hr⟩:=(hw.kept kA (fun _ _ f=>f)).row
 have hb:n+2≤maxLen∧(n+2) * 72≤140737488355328:=by
  unfold maxLen
  rcases hw with ⟨_,rfl,_⟩ | ⟨_,_,_,_,_,_,_,h3⟩
  ·omega
  ·omega
 have hown:∀ q,(Value.slice xo n xc).ownBlock=some q→xo=some ⟨q,0,none⟩:=fun q e=>by
  rcases hw with ⟨rfl,_⟩ | ⟨b,_,rfl,_⟩
  ·cases e
  ·simp only [Value.ownBlock,Option.some.injEq] at e
   rw [e]
 refine wpList_append_own _ hgd s x 33 ho 0 89 i _ 5 72 Tryz.underlying33 hi hz0 hz1 hz2 rfl (by decide) (.slice xo n xc) n vs hs hr ⟨w0.heap.size,0,none⟩ 2 2 cs.toList hx (by rw [hlen]) (World.news_of_block (cs:=cs) (t:=89) (fr:=(0,0)) (heap_alloc_new w0 _)) hone hb.1 hb.2 (Nat.zero_le _) ?_
 intro v' w' ho' hgrow _
 rcases ho'.2 with ⟨_,h0⟩ | ⟨g,cap,cur,rfl,_⟩
 ·omega
 ·exact h g cap w' (Kept.grown (Kept.alloc (Kept.refl _ w0) _) hgrow (fun q e _=>hown q e))
def SpIH (n:Nat):Prop:=∀ (w:World) (B:Nat→Prop) (v:Value) (t:Tr n),CsO B w n v t→SmT n t→Calls Tryz.prog 11 #[v] w fun e w' => (∃ u,e=.returned u)∧Kept B w w'
set_option maxHeartbeats 16000000 in
theorem spoil_step {n:Nat} (IH:SpIH n):SpIH (n+1):=by
 intro w B v t h hs
 obtain ⟨k,r,p,l⟩:=t
 obtain ⟨hsl,hsk⟩:=hs
 have hC:CsO (fun b=>B b∧b<w.heap.size) w (n+1) v (k,r,p,l):=CsO.mono (fun b hb q=>⟨q,hb⟩) h
 obtain ⟨po,pc,ko,kc,rfl,hJ,hpB,hkB⟩:=SpJ.start hC hsl
 have FINB:Hid (∀ w', Kept (fun b=>B b∧b<w.heap.size) w w' → Kept B w w'):=fun w' hk=>hk.mono (fun _ _ q=>q.1)
 obtain ⟨C,hCe⟩:∃ C:Nat→Prop,C=fun b=>B b∧b<w.heap.size:=⟨_,rfl⟩
 rw [← hCe] at hJ FINB
 have hpB' : ∀ a,po=some a→C a.block:=fun a e=>by rw [hCe];exact hpB a e
 have hkB' : ∀ a,ko=some a→C a.block:=fun a e=>by rw [hCe];exact hkB a e
 have HCL:Hid (∀ b,C b→b<w.heap.size):=fun b q=>by rw [hCe] at q;exact q.2
 clear h hC hCe hpB hkB
 generalize p.length=pl at *
 obtain ⟨W1,hW1⟩:∃ W1,W1=w.alloc (.cells #[.int .i64 k,.int .i64 r,.slice po pl pc,.slice ko l.length kc] 35):=⟨_,rfl⟩
 have KW:Same0 w W1:=by rw [hW1];exact (Kept.refl _ w).alloc _
 have HB:Hid (∀ ww,Kept C W1 ww→ww.heap[w.heap.size]? = some (.cells #[.int .i64 k,.int .i64 r,.slice po pl pc,.slice ko l.length kc] 35 (0,0))):=fun ww hk=>hk.at (by rw [hW1];exact heap_alloc_new w _) (fun q=>by have:=HCL.out _ q;omega)
 have J0:Hid (SpJ C W1 W1 n po pl pc ko kc l 0):=SpJ.same (w0:=w) hJ KW
 have HPB:Hid (∀ a,po=some a→C a.block):=hpB'
 have HKB:Hid (∀ a,ko=some a→C a.block):=hkB'
 have HK1:Hid (Same0 w W1):=KW
 have HIH:Hid (SpIH n):=IH
 have HSK:Hid (∀ i (h:i<l.length),SmT n l[i].2):=hsk
 have hpl:pl≤17592186043904:=by
  rcases hJ.i with ⟨_,h0,_⟩ | ⟨_,_,_,_,_,_,_,h0⟩
  ·omega
  ·omega
 clear hJ KW hpB' hkB' IH hsk
 go_enter Tryz.func11,Tryz.ntmps11
 go_upto_region 2 with fail
 rw [← hW1]
 clear hW1
 go_loopw [2] (fun i wr=>∃ j:Nat,j≤pl∧i=.int .i64 (j:Int)∧Hid (SpJ C W1 wr n po pl pc ko kc l 0)) (fun i _=>pl-(intOf i).toNat)
 case atStart=>exact ⟨0,Nat.zero_le _,rfl,J0⟩
 case round=>
  clear J0
  obtain ⟨j,hj,rfl,HJ⟩:=hrel
  have b0:=HB.out wr HJ.out.k
  have c2:=cellAt b0 2
  have c3:=cellAt b0 3
  simp only [List.getElem?_toArray,List.getElem?_cons_zero,List.getElem?_cons_succ] at c2 c3
  clear b0
  by_cases hlt:j<pl
  ·have i1:(0:Int)≤(j:Int):=by omega
   have i2:(j:Int)<(pl:Int):=by omega
   obtain ⟨b,e⟩:∃ b,po=some ⟨b,0,none⟩:=by
    rcases HJ.out.i with ⟨_,h0,_⟩ | ⟨b,_,e,_⟩
    ·omega
    ·exact ⟨b,e⟩
   subst e
   obtain ⟨⟨old,d0⟩,d1,d2⟩:=SpJ.num HJ.out (HPB.out _ rfl) hlt (.int .i64 99)
   have HD:Hid (SpJ _ _ _ _ _ _ _ _ _ _ _):=d2
   clear d2 HJ
   go_wp2
   go_roundw
   case rel=>exact ⟨j+1,by omega,by go_num,HD⟩
   case measure=>simp [intOf];omega
  ·obtain rfl:j=pl:=by omega
   clear c3
   go_upto_region 6 with fail
   obtain ⟨W2,hW2⟩:∃ W2,W2=wr:=⟨_,rfl⟩
   go_loopw [3] (fun i wr=>∃ j' : Nat,j' ≤ l.length∧i=.int .i64 (j' : Int)∧Hid (SpJ C W1 wr n po j pc ko kc l j')) (fun i _=>l.length-(intOf i).toNat)
   case atStart=>exact ⟨0,Nat.zero_le _,rfl,HJ⟩
   case round=>
    clear HJ c2 hW2
    obtain ⟨m,hm,rfl,HJ⟩:=hrel
    have b0:=HB.out wr HJ.out.k
    have c2:=cellAt b0 2
    have c3:=cellAt b0 3
    simp only [List.getElem?_toArray,List.getElem?_cons_zero,List.getElem?_cons_succ] at c2 c3
    by_cases hlm:m<l.length
    ·have i1:(0:Int)≤(m:Int):=by omega
     have i2:(m:Int)<(l.length:Int):=by omega
     obtain ⟨g,k', r', qo,ql,qc,mo,ml,mc,rfl,⟨e1,e2,e3,e4⟩,Bj,hcs,hBj,HS⟩:=SpJ.step HJ.out hlm
     have C1:=HIH.out wr Bj _ _ hcs (HSK.out m hlm)
     have HSH:Hid (∀ w5,Kept Bj wr w5→((∃ o0 o1 o2 o3 o4,w5.cell? ⟨g,m * 5,none⟩=some o0∧w5.cell? ⟨g,m * 5+1,none⟩=some o1∧w5.cell? ⟨g,m * 5+2,none⟩=some o2∧w5.cell? ⟨g,m * 5+3,none⟩=some o3∧w5.cell? ⟨g,m * 5+4,none⟩=some o4)∧(w5.frozen? ⟨g,m * 5,none⟩=false∧w5.frozen? ⟨g,m * 5+1,none⟩=false∧w5.frozen? ⟨g,m * 5+2,none⟩=false∧w5.frozen? ⟨g,m * 5+3,none⟩=false∧w5.frozen? ⟨g,m * 5+4,none⟩=false)∧SpJ C W1 (((((w5.setCell ⟨g,m * 5,none⟩ (.int .i64 (-5))).setCell ⟨g,m * 5+1,none⟩ (.int .i64 0)).setCell ⟨g,m * 5+2,none⟩ (.int .i64 0)).setCell ⟨g,m * 5+3,none⟩ (.slice none 0 0)).setCell ⟨g,m * 5+4,none⟩ (.slice none 0 0)) n po j pc (some ⟨g,0,none⟩) kc l (m+1))∧w5.cell? ⟨w.heap.size,3,none⟩=some (.slice (some ⟨g,0,none⟩) l.length kc)):=fun w5 k5=>by
      obtain ⟨z1,z2,z3⟩:=HS w5 k5
      have b5:=HB.out w5 (Kept.trans HJ.out.k k5 (fun i _ q=>hBj i q))
      exact ⟨⟨z1,z2,z3 _ _ _ _ _⟩,cellAt b5 3⟩
     clear HS hcs hBj HJ b0
     go_upto_region 9 with (first | (go_at_call 11;refine C1.mono ?_;rintro e w5 ⟨⟨u,rfl⟩,k5⟩))
     obtain ⟨⟨⟨o0,o1,o2,o3,o4,y0,y1,y2,y3,y4⟩,⟨f0,f1,f2,f3,f4⟩,z5⟩,d3⟩:=HSH.out w5 k5
     have HD:Hid (SpJ _ _ _ _ _ _ _ _ _ _ _):=z5
     clear z5 C1 HSH c2 c3 e1 e2 e3 e4
     go_wp2
     go_roundw
     case rel=>exact ⟨m+1,by omega,by go_num,HD⟩
     case measure=>simp [intOf];omega
    ·obtain rfl:m=l.length:=by omega
     obtain ⟨hk,hi,hkw,_⟩:=HJ.out
     have HI:Hid (IW8 wr po j pc):=hi
     have HKW:Hid (KW8 wr ko l.length kc):=hkw
     have HKC:Hid (Kept C W1 wr):=hk
     have AF:Hid (∀ w7,Kept (fun q=>po=some ⟨q,0,none⟩) wr w7→((w7.cell? ⟨w.heap.size,2,none⟩=some (.slice po j pc)∧w7.frozen? ⟨w.heap.size,2,none⟩=false)∧∀ u,(w7.setCell ⟨w.heap.size,2,none⟩ u).cell? ⟨w.heap.size,3,none⟩=some (.slice ko l.length kc)∧KW8 (w7.setCell ⟨w.heap.size,2,none⟩ u) ko l.length kc∧∀ w9,Kept (fun q=>ko=some ⟨q,0,none⟩) (w7.setCell ⟨w.heap.size,2,none⟩ u) w9→(w9.cell? ⟨w.heap.size,3,none⟩=some (.slice ko l.length kc)∧w9.frozen? ⟨w.heap.size,3,none⟩=false)∧∀ u', Kept B w (w9.setCell ⟨w.heap.size,3,none⟩ u'))):=by
      intro w7 k7
      have nT:∀ q,po=some ⟨q,0,none⟩→∀ a,ko=some a→¬ a.block=q:=fun q e a e2 f=>by
       rcases HI.out with ⟨e3,_⟩ | ⟨b,cu,e3,hcu,_⟩
       ·rw [e3] at e;cases e
       ·rw [e3] at e
        cases e
        rcases HKW.out with ⟨e4,_⟩ | ⟨g,cu', e4,hcu', _⟩
        ·rw [e4] at e2;cases e2
        ·rw [e4] at e2
         cases e2
         have f' : g=q:=f
         rw [f', hcu] at hcu'; cases hcu'
      have kC7:Kept C W1 w7:=Kept.trans HKC.out k7 (fun i _ q=>HPB.out _ q)
      have b7:=HB.out w7 kC7
      refine ⟨⟨cellAt b7 2,frozenAt b7 2⟩,fun u=>?_⟩
      have ks:Kept (fun q=>q=w.heap.size) w7 (w7.setCell ⟨w.heap.size,2,none⟩ u):=Kept.setCell (p:=⟨w.heap.size,2,none⟩) (Kept.refl (fun q=>q=w.heap.size) w7) (fun _=>rfl) _
      have b8:=setAt b7 2 u
      have nK:∀ a,ko=some a→¬ a.block=w.heap.size:=fun a e f=>by have:=HCL.out _ (HKB.out a e);omega
      refine ⟨cellAt b8 3,(HKW.out.kept k7 (fun a e q=>nT _ q a e rfl)).kept ks nK,fun w9 k9=>?_⟩
      have b9:=k9.at b8 (fun q=>nK _ q rfl)
      refine ⟨⟨cellAt b9 3,frozenAt b9 3⟩,fun u' => FINB.out _ ?_⟩
      have kt:Kept (fun q=>q=w.heap.size) w9 (w9.setCell ⟨w.heap.size,3,none⟩ u'):=Kept.setCell (p:=⟨w.heap.size,3,none⟩) (Kept.refl (fun q=>q=w.heap.size) w9) (fun _=>rfl) _
      have K1:Kept C w w7:=Kept.trans (HK1.out.mono (fun _ _ f=>f.elim)) kC7 (fun i _ q=>q)
      have K2:=Kept.trans K1 ks (fun i hi e=>by have e' : i=w.heap.size:=e;omega)
      have K3:=Kept.trans K2 k9 (fun i hi q=>HKB.out _ q)
      exact Kept.trans K3 kt (fun i hi e=>by have e' : i=w.heap.size:=e;omega)
     clear hk hi hkw HJ hsl b0
     go_wp2_with (first
      | (at_builtin;refine wpList_sev rfl _ _ rfl po j pc rfl HI.out 7 rfl ?_;intro g7 c7 w7 k7;obtain ⟨⟨y1,y2⟩,AF2⟩:=AF.out w7 k7;obtain ⟨y3,y4,AF3⟩:=AF2 (.slice (some ⟨g7,0,none⟩) (j+3) c7);have Y4:Hid (KW8 _ _ _ _):=y4;have HAF3:Hid (∀ w9,_):=AF3;clear y4 AF2 AF3)
      | (at_builtin; (refine wpList_kids rfl _ _ rfl ko l.length kc rfl Y4.out w7.heap.size (by simp) rfl ?_;intro g9 c9 w9 k9;obtain ⟨⟨y5,y6⟩,AF4⟩:=HAF3.out w9 k9;have HAF4:Hid (∀ u', _):=AF4;clear AF4)))
     go_end0
     exact ⟨⟨_,rfl⟩,HAF4.out _⟩
theorem spoilt8_any:∀ n,SpIH n
 | 0=>fun w B v t h _=>h.elim
 | n+1=>spoil_step (spoilt8_any n)
set_option maxHeartbeats 2000000 in
theorem indexf_var {w:World} {so:Option Addr} {sc:Nat} {t:List Int} (ht:IntsAt w so t) (hm:t.length≤maxLen) :
  Calls Tryz.prog 109 #[.slice so t.length sc,.func (.func 69) #[] #[]] w fun e w' => ∃ z:Int,e=.returned (.int .i64 z)∧FoundAt z (t.any (fun x=>decide (x<0)))∧w' = w:=by
 have CV:=tvar_any
 unfold maxLen at hm
 go_enter Tryz.func109,Tryz.ntmps109
 go_wp2
 go_loop [8] (fun i=>∃ k:Nat,k≤t.length∧i=.int .i64 (k:Int)∧Hid ((t.take k).any (fun x=>decide (x<0))=false)) (fun i=>t.length-(intOf i).toNat)
 case atStart=>exact ⟨0,Nat.zero_le _,rfl,by show _=_;simp⟩
 case round=>
  obtain ⟨k,hk,rfl,ha⟩:=hrel
  by_cases hlt:k<t.length
  ·obtain ⟨tb,off,rfl,_,hc⟩:=ht.get hlt
   have i1:(0:Int)≤(k:Int):=by omega
   have i2:(k:Int)<(t.length:Int):=by omega
   have C:=CV t[k] w
   cases hq:decide (t[k]<0) with
   | true=>
    have H:Hid (FoundAt (k:Int) (t.any (fun x=>decide (x<0)))):=by
     have e1:t.any (fun x=>decide (x<0))=true:=List.any_eq_true.2 ⟨t[k],List.getElem_mem hlt,hq⟩
     show decide _=_
     rw [e1];simp
    rw [hq] at C
    clear hq ha CV
    go_wp2_with (first | (go_at_call 69;refine C.mono ?_;rintro e w2 ⟨rfl,rfl⟩))
    go_ret
    exact ⟨_,rfl,H.out,rfl⟩
   | false=>
    have H:Hid ((t.take (k+1)).any (fun x=>decide (x<0))=false):=by
     have e1:=ha.out
     show _=_
     rw [List.take_add_one,List.getElem?_eq_getElem hlt,List.any_append,e1]
     simpa using hq
    rw [hq] at C
    clear hq ha CV
    go_wp2_with (first | (go_at_call 69;refine C.mono ?_;rintro e w2 ⟨rfl,rfl⟩))
    exact ⟨⟨k+1,by omega,by go_num,H⟩,by simp [intOf];omega⟩
  ·have H:Hid (FoundAt (-1) (t.any (fun x=>decide (x<0)))):=by
    have:=ha.out
    rw [List.take_of_length_le (by omega)] at this
    show decide _=_
    rw [this];rfl
   go_wp2
   go_ret
   exact ⟨_,rfl,H.out,rfl⟩
set_option maxHeartbeats 1000000 in
theorem containsf_var {w:World} {so:Option Addr} {sc:Nat} {t:List Int} (ht:IntsAt w so t) (hm:t.length≤maxLen) :
  Calls Tryz.prog 68 #[.slice so t.length sc,.func (.func 69) #[] #[]] w fun e w' => e=.returned (.bool (t.any (fun x=>decide (x<0))))∧w' = w:=by
 have C:=indexf_var (sc:=sc) ht hm
 clear ht
 generalize t.any (fun x=>decide (x<0))=z at *
 go_enter Tryz.func68,Tryz.ntmps68
 go_wp2_with (first | (go_at_call 109;refine C.mono ?_;rintro e w2 ⟨z', rfl,hz,rfl⟩))
 go_ret
 exact ⟨ret_bool (FoundAt.eq hz),rfl⟩
set_option maxHeartbeats 8000000 in
theorem walk_demand {w:World} {bs:Nat} {L:List Sym} (hs:Sg w.heap.size w bs L) {n:Nat} {B:Nat→Prop} {v:Value} {r:Int} {p:List Int} {l:List (Int × Tr n)} (h:CsB B w (n+1) v (2,r,p,l)) {tto:Option Addr} {tc:Nat} {T:List Int} (ht:Arg w tto T tc) (hc:checkE L T=0) (hv:T.any (fun x=>decide (x<0))=false) {a:Nat} (ha:a<T.length) {q:Nat} (hq:leads L (subN L T a) 0 p=some q) (hql:q<(subN L T a).length) (hd:defB L (subN L T a)[q]=true) :
  Calls Tryz.prog 29 #[.pointer (some ⟨bs,0,none⟩),v,.slice tto T.length tc,.int .i64 (a:Int)] w fun e w' => ∃ po pc,e=.returned (.tuple #[.agg #[.int .i64 3,.int .i64 0,.slice po p.length pc,.int .i64 ((a+q:Nat):Int)],.int .i64 0])∧IntsAt w' po p∧Same0 w w' := by
 obtain ⟨po,pc,ko,kc,rfl,h2,h3,h4,h5,h6⟩:=h
 have hT:=checkE_zero.1 hc
 have hpz:placeE L T (a:Int)=0:=by unfold placeE;rw [if_neg (by simp [hc]),if_neg (by omega)]
 have hsub:checkE L (subN L T a)=0:=by
  refine checkE_zero.2 ⟨?_,?_,sub_need hT.2.2 ha⟩
  ·rw [sub_length hT.2.2 ha];have:=(endN_le hT.2.2 ha).2;omega
  ·refine badE_zero.2 (fun x hx=>badE_zero.1 hT.2.1 x ?_)
   unfold subN at hx
   exact List.mem_of_mem_take (List.mem_of_mem_drop hx)
 obtain ⟨W1,hW1⟩:∃ W1,W1=(w.alloc (.cells #[.int .i64 2,.int .i64 r,.slice po p.length pc,.slice ko l.length kc] 35)).alloc (.cells #[.int .i64 0,.int .i64 0,.slice none 0 0,.int .i64 0] 85):=⟨_,rfl⟩
 have KW:Same0 w W1:=by rw [hW1];exact ((Kept.refl _ w).alloc _).alloc _
 have ez:w.heap.size+1<W1.heap.size:=by rw [hW1];simp
 have BX:Hid (∀ ww,Same0 W1 ww→ww.cell? ⟨w.heap.size,0,none⟩=some (.int .i64 2)∧ww.cell? ⟨w.heap.size,2,none⟩=some (.slice po p.length pc)):=fun ww hk=>by
  have h1:=hk.at0 (show W1.heap[w.heap.size]? = _ by rw [hW1];exact heap_alloc2_old _ _ _)
  exact ⟨cellAt h1 0,cellAt h1 2⟩
 have RS:Hid (∀ ww,Same0 W1 ww→ww.heap[w.heap.size+1]? = some (.cells #[.int .i64 0,.int .i64 0,.slice none 0 0,.int .i64 0] 85 (0,0))):=fun ww hk=>hk.at0 (by rw [hW1];exact heap_al_al _ _ _)
 have RC:Hid (∀ ww,Same0 W1 ww→(ww.cell? ⟨w.heap.size+1,0,none⟩=some (.int .i64 0)∧ww.cell? ⟨w.heap.size+1,1,none⟩=some (.int .i64 0)∧ww.cell? ⟨w.heap.size+1,2,none⟩=some (.slice none 0 0)∧ww.cell? ⟨w.heap.size+1,3,none⟩=some (.int .i64 0))∧ww.frozen? ⟨w.heap.size+1,0,none⟩=false∧ww.frozen? ⟨w.heap.size+1,1,none⟩=false∧ww.frozen? ⟨w.heap.size+1,2,none⟩=false∧ww.frozen? ⟨w.heap.size+1,3,none⟩=false):=fun ww hk=>by
  have rs:=RS.out ww hk
  exact ⟨⟨cellAt rs 0,cellAt rs 1,cellAt rs 2,cellAt rs 3⟩,frozenAt rs 0,frozenAt rs 1,frozenAt rs 2,frozenAt rs 3⟩
 have PUT:Hid (∀ ww x0 x1 x2 x3,Same0 W1 ww→(((((ww.setCell ⟨w.heap.size+1,0,none⟩ x0).setCell ⟨w.heap.size+1,1,none⟩ x1).setCell ⟨w.heap.size+1,2,none⟩ x2).setCell ⟨w.heap.size+1,3,none⟩ x3)).cell? ⟨w.heap.size+1,0,none⟩=some x0∧(((((ww.setCell ⟨w.heap.size+1,0,none⟩ x0).setCell ⟨w.heap.size+1,1,none⟩ x1).setCell ⟨w.heap.size+1,2,none⟩ x2).setCell ⟨w.heap.size+1,3,none⟩ x3)).cell? ⟨w.heap.size+1,1,none⟩=some x1∧(((((ww.setCell ⟨w.heap.size+1,0,none⟩ x0).setCell ⟨w.heap.size+1,1,none⟩ x1).setCell ⟨w.heap.size+1,2,none⟩ x2).setCell ⟨w.heap.size+1,3,none⟩ x3)).cell? ⟨w.heap.size+1,2,none⟩=some x2∧(((((ww.setCell ⟨w.heap.size+1,0,none⟩ x0).setCell ⟨w.heap.size+1,1,none⟩ x1).setCell ⟨w.heap.size+1,2,none⟩ x2).setCell ⟨w.heap.size+1,3,none⟩ x3)).cell? ⟨w.heap.size+1,3,none⟩=some x3∧Kept (fun i=>i=w.heap.size+1) ww (((((ww.setCell ⟨w.heap.size+1,0,none⟩ x0).setCell ⟨w.heap.size+1,1,none⟩ x1).setCell ⟨w.heap.size+1,2,none⟩ x2).setCell ⟨w.heap.size+1,3,none⟩ x3))∧Same0 w (((((ww.setCell ⟨w.heap.size+1,0,none⟩ x0).setCell ⟨w.heap.size+1,1,none⟩ x1).setCell ⟨w.heap.size+1,2,none⟩ x2).setCell ⟨w.heap.size+1,3,none⟩ x3))):=by
  intro ww x0 x1 x2 x3 hk
  have rs:=RS.out ww hk
  have s3:=setAt (setAt (setAt (setAt rs 0 x0) 1 x1) 2 x2) 3 x3
  have k1:=Kept.setCell (p:=⟨w.heap.size+1,0,none⟩) (Kept.refl (fun q=>q=w.heap.size+1) ww) (fun _=>rfl) x0
  have k2:=Kept.setCell (p:=⟨w.heap.size+1,1,none⟩) k1 (fun _=>rfl) x1
  have k3:=Kept.setCell (p:=⟨w.heap.size+1,2,none⟩) k2 (fun _=>rfl) x2
  have k4:=Kept.setCell (p:=⟨w.heap.size+1,3,none⟩) k3 (fun _=>rfl) x3
  exact ⟨cellAt s3 0,cellAt s3 1,cellAt s3 2,cellAt s3 3,k4,Kept.trans (KW.trans' hk) k4 (fun i hi e=>by omega)⟩
 have C1:=check_any (cap:=tc) (sg_up (hs.same KW) KW.size) (ht.same KW).at' (by unfold maxLen;omega)
 rw [hc] at C1
 have C2:Hid (∀ ww,Same0 W1 ww→Calls Tryz.prog 68 #[.slice tto T.length tc,.func (.func 69) #[] #[]] ww fun e w' => e=.returned (.bool false)∧w' = ww):=fun ww hk=>by
  have:=containsf_var (sc:=tc) ((ht.same KW).same hk).at' (by unfold maxLen;omega)
  rw [hv] at this
  exact this
 have C3:Hid (∀ ww,Same0 W1 ww→Calls Tryz.prog 60 #[.pointer (some ⟨bs,0,none⟩),.slice tto T.length tc,.int .i64 (a:Int)] ww fun e w' => ∃ uo uc,e=.returned (.tuple #[.slice uo (subN L T a).length uc,.int .i64 0])∧Hid (IntsAt w' uo (subN L T a))∧Same0 ww w'):=fun ww hk=>by
  refine (sub_any (cap:=tc) (sg_up ((hs.same KW).same hk) (KW.trans' hk).size) ((ht.same KW).same hk).at' (by unfold maxLen;omega) ht.cap' (a:Int)).mono ?_
  rintro e w' ⟨v,rfl,hr,k⟩
  rw [subA,if_pos hpz] at hr
  simp only [Int.toNat_natCast] at hr
  obtain ⟨uo,uc,rfl,h1,_⟩:=hr.ints
  exact ⟨uo,uc,by rw [hpz],h1,k⟩
 have C4:Hid (∀ ww uo uc,Same0 W1 ww→IntsAt ww uo (subN L T a)→Calls Tryz.prog 70 #[.pointer (some ⟨bs,0,none⟩),.slice uo (subN L T a).length uc,.slice po p.length pc] ww fun e w' => e=.returned (.tuple #[.int .i64 (q:Int),.int .i64 0])∧Same0 ww w'):=fun ww uo uc hk hu=>by
  have:=place_any (cap:=uc) (pcap:=pc) (sg_up ((hs.same KW).same hk) (KW.trans' hk).size) hu (by have:=checkE_zero.1 hsub;unfold maxLen;omega) ((h2.same KW).same hk).at' (by have:=h2.size;unfold maxLen;omega)
  unfold leadA leadE at this
  rw [if_neg (by simp [hsub]),if_neg (by simp [hsub]),hq] at this
  exact this
 have C5:Hid (∀ ww,Same0 W1 ww→Calls Tryz.prog 36 #[.pointer (some ⟨bs,0,none⟩),.int .i64 (subN L T a)[q]] ww fun e w' => e=.returned (.bool true)∧Same0 ww w'):=fun ww hk=>by rw [← hd];exact tdef_any (sg_up ((hs.same KW).same hk) (KW.trans' hk).size) _
 have C6:Hid (∀ ww,Same0 W1 ww→Calls Tryz.prog 71 #[.slice po p.length pc] ww fun e w' => ∃ co cc,e=.returned (.slice co p.length cc)∧Hid (IntsAt w' co p∧∀ a,co=some a→ww.heap.size≤a.block)∧Same0 ww w'):=fun ww hk=>by
  refine (cloneI_any ((h2.same KW).same hk)).mono ?_
  rintro e w' ⟨v,rfl,hr,k⟩
  obtain ⟨co,cc,rfl,h1,_,hb⟩:=hr.ints
  exact ⟨co,cc,rfl,⟨h1,fun a e=>(hb a e).1⟩,k⟩
 have ew:IntKind.i64.wrap ((a:Int)+(q:Int))=(a:Int)+(q:Int):=iwrap (by omega) (by have:=checkE_zero.1 hsub;omega)
 have i1:(0:Int)≤(q:Int):=by omega
 have i2:(q:Int)<((subN L T a).length:Int):=by omega
 generalize hU:subN L T a=U at *
 clear hU h6 h2 h3 hsub hT hc hv hpz hq hd ht hs
 obtain ⟨b0,b2⟩:=BX.out W1 (Kept.refl _ _)
 go_enter Tryz.func29,Tryz.ntmps29
 go_upto_region 1 with fail
 rw [← hW1]
 clear hW1
 go_upto_region 4 with (first | (go_at_call 59;refine C1.mono ?_;rintro e w2 ⟨rfl,k2⟩))
 have D2:=C2.out w2 k2
 go_upto_region 6 with (first | (go_at_call 68;refine D2.mono ?_;rintro e w3 ⟨rfl,rfl⟩))
 have D3:=C3.out w3 k2
 go_wp2_with (first | (go_at_call 60;refine D3.mono ?_;rintro e w4 ⟨uo,uc,rfl,hu,k4⟩))
 have k14:=k2.trans' k4
 obtain ⟨c0,c2⟩:=BX.out w4 k14
 have D4:=C4.out w4 uo uc k14 hu.out
 refine wp_loop_rounds 1 ?_
 rw [rounds_succ]
 go_upto_region 13 with (first | (go_at_call 70;refine D4.mono ?_;rintro e w5 ⟨rfl,k5⟩))
 obtain ⟨ub,uoff,rfl,hub,hcell⟩:=(hu.out.same k5).get hql
 have D5:=C5.out w5 (k14.trans' k5)
 go_upto_region 14 with (first | (go_at_call 36;refine D5.mono ?_;rintro e w6 ⟨rfl,k6⟩))
 have k16:=(k14.trans' k5).trans' k6
 obtain ⟨d0,d2⟩:=BX.out w6 k16
 have D6:=C6.out w6 k16
 go_wp2_with (first | (go_at_call 71;refine D6.mono ?_;rintro e w7 ⟨co,cc,rfl,hcl,k7⟩;obtain ⟨⟨r0,r1,r2,r3⟩,f0,f1,f2,f3⟩:=RC.out w7 (k16.trans' k7)))
 obtain ⟨g0,g1,g2,g3,kk,ks⟩:=PUT.out w7 (.int .i64 3) (.int .i64 0) (.slice co p.length cc) (.int .i64 ((a:Int)+(q:Int))) (k16.trans' k7)
 obtain ⟨hc1,hc2⟩:=hcl.out
 have z6:=k16.size
 exact bodyPost_ret (v:=.tuple #[.agg #[.int .i64 3,.int .i64 0,.slice co p.length cc,.int .i64 ((a:Int)+(q:Int))],.int .i64 0]) (by simp [results,Tryz.results29,go_sem,g0,g1,g2,g3]) rfl ⟨co,cc,by simp,hc1.kept kk (fun a e f=>by have:=hc2 a e;omega),ks⟩
end Go.Proofs.YtoajbpmgoklflaaGreat
namespace Go.Proofs.YtoajbpmgoklflaaGreat
set_option maxRecDepth 100000
set_option linter.unusedVariables false
open Go.RowKit
section
variable {L : List Sym} {T : List Int} {a : Nat}
end
end Go.Proofs.YtoajbpmgoklflaaGreat
namespace Go.Proofs.YtoajbpmgoklflaaGreat
set_option linter.unusedVariables false
theorem args_lt {L:List Sym} {t:List Int} (h:IsT L t) {p:Nat} (hp:p<t.length):∀ x∈argsN L t p,p<x∧x<t.length:=by
 intro x hx
 obtain ⟨_,hk⟩:=(Forest.one h hp).kids
 rw [argsN_eq hp] at hx
 obtain ⟨i,hi,e⟩:=List.getElem_of_mem hx
 rw [starts_length] at hi
 have h2:(starts L t (arN L t[p]) (p+1))[i]? = some x:=by rw [← e];exact List.getElem?_eq_getElem _
 rw [starts_at hi] at h2
 simp only [Option.some.injEq] at h2
 subst h2
 have h3:=hk.drop (Nat.le_of_lt hi)
 have h4:∃ j,arN L t[p]-i=j+1:=⟨arN L t[p]-i-1,by omega⟩
 obtain ⟨j,hj⟩:=h4
 rw [hj] at h3
 have h5:=h3.pos
 have h6:=h3.le
 have h7:p+1≤past L t i (p+1):=by
  cases i with
  | zero=>exact Nat.le_refl _
  | succ i=>
   have:=past_mono hk (i:=0) (j:=i+1) (by omega) (by omega)
   have h0:past L t 0 (p+1)=p+1:=rfl
   rw [h0] at this
   have hs:=(hk.drop (i:=0) (by omega))
   obtain ⟨k', hk'⟩:∃ k', arN L t[p]-0=k' + 1:=⟨arN L t[p]-1,by omega⟩
   rw [hk'] at hs
   have:=hs.succ.2.1
   rw [h0] at this
   omega
 exact ⟨by omega,by omega⟩
def Led8 (L:List Sym) (U:List Int):List (List Int)→List Nat→Prop
 | [],[]=>True
 | p :: ps,q :: qs=>leads L U 0 p=some q∧Led8 L U ps qs
 | _,_=>False
theorem Led8.len {L:List Sym} {U:List Int}:∀ {a:List (List Int)} {b:List Nat},Led8 L U a b→a.length=b.length
 | [],[],_=>rfl
 | _ :: _,_ :: _,h=>by simp [Led8.len h.2]
 | [],_ :: _,h=>h.elim
 | _ :: _,[],h=>h.elim
theorem Led8.append {L:List Sym} {U:List Int}:∀ {a:List (List Int)} {b:List Nat} {c:List (List Int)} {d:List Nat},Led8 L U a b→Led8 L U c d→Led8 L U (a++c) (b++d)
 | [],[],_,_,_,h=>h
 | _ :: _,_ :: _,_,_,h,k=>⟨h.1,h.2.append k⟩
 | [],_ :: _,_,_,h,_=>h.elim
 | _ :: _,[],_,_,h,_=>h.elim
theorem Led8.take {L:List Sym} {U:List Int}:∀ {a:List (List Int)} {b:List Nat} (c:Nat),Led8 L U a b→Led8 L U (a.take c) (b.take c)
 | _,_,0,_=>by simp [Led8]
 | [],[],c+1,_=>by simp [Led8]
 | _ :: _,_ :: _,c+1,h=>⟨h.1,Led8.take c h.2⟩
 | [],_ :: _,_+1,h=>h.elim
 | _ :: _,[],_+1,h=>h.elim
theorem Led8.drop {L:List Sym} {U:List Int}:∀ {a:List (List Int)} {b:List Nat} (c:Nat),Led8 L U a b→Led8 L U (a.drop c) (b.drop c)
 | _,_,0,h=>h
 | [],[],c+1,_=>by simp [Led8]
 | _ :: _,_ :: _,c+1,h=>Led8.drop c h.2
 | [],_ :: _,_+1,h=>h.elim
 | _ :: _,[],_+1,h=>h.elim
theorem Led8.at {L:List Sym} {U:List Int}:∀ {a:List (List Int)} {b:List Nat} {c:Nat},Led8 L U a b→∀ (h1:c<a.length) (h2:c<b.length),leads L U 0 a[c]=some b[c]
 | _ :: _,_ :: _,0,h,_,_=>h.1
 | _ :: _,_ :: _,c+1,h,h1,h2=>Led8.at h.2 (by simpa using h1) (by simpa using h2)
 | [],_,_,_,h1,_=>by simp at h1
 | _ :: _,[],_,h,_,_=>h.elim
theorem led_args {L:List Sym} {U:List Int} {p:List Int} {q:Nat} (h:leads L U 0 p=some q):∀ (m:List Nat) (k:Nat),(∀ i (hi:i<m.length),(argsN L U q)[k+i]? = some m[i])→Led8 L U ((List.range' k m.length).map (fun (i:Nat)=>p ++ [(i:Int)])) m
 | [],_,_=>by simp [Led8]
 | x :: m,k,hm=>by
  rw [List.length_cons,List.range'_succ,List.map_cons]
  refine ⟨?_,led_args h m (k+1) (fun i hi=>?_)⟩
  ·rw [leads_append h,leads,if_neg (by omega),Int.toNat_natCast]
   have:=hm 0 (by simp)
   simp only [Nat.add_zero,List.getElem_cons_zero] at this
   rw [this];rfl
  ·have:=hm (i+1) (by simpa using hi)
   simpa [Nat.add_assoc,Nat.add_comm 1 i] using this
structure FitN (L:List Sym) (U:List Int) (paths:List (List Int)) (rows:List Rw) (qs:List Nat):Prop where
 led:Led8 L U paths qs
 lt:∀ q∈qs,q<U.length
 row:∀ x∈rows,IsT L x.2.1∧x.2.2.length=paths.length∧∀ i∈x.2.2,i<x.2.1.length
 low:∀ x∈rows,∀ k (h:k<x.2.1.length),0<k→defB L x.2.1[k]=false
 inj:∀ x∈rows,∀ y∈rows,x.1=y.1→x=y
theorem mem_repl {α:Type} {l m:List α} {c:Nat} {x:α} (h:x∈repl l c m):x∈l∨x∈m:=by
 unfold repl at h
 rcases List.mem_append.1 h with q | q
 ·rcases List.mem_append.1 q with q | q
  ·exact .inl (List.mem_of_mem_take q)
  ·exact .inr q
 ·exact .inl (List.mem_of_mem_drop q)
section
variable {L : List Sym} {U : List Int} {paths : List (List Int)} {rows : List Rw} {qs : List Nat}
theorem FitN.kid (hU:IsT L U) (h:FitN L U paths rows qs) {c s:Nat} (hc:c<paths.length) (hq:c<qs.length) (hs:U[qs[c]]'(h.lt _ (List.getElem_mem hq))=(s:Int)):FitN L U (kidP L paths c s) ((havR rows c (s:Int)).map (kidX L c)) (repl qs c (argsN L U qs[c])):=by
 have hlt:=h.lt _ (List.getElem_mem hq)
 have har:(argsN L U qs[c]).length=arN L (s:Int):=by rw [argsN_eq hlt,starts_length,hs]
 have key:∀ x∈havR rows c (s:Int),x∈rows∧∃ h1:c<x.2.2.length,∃ h2:x.2.2[c]<x.2.1.length,x.2.1[x.2.2[c]]=(s:Int)∧(argsN L x.2.1 x.2.2[c]).length=arN L (s:Int):=fun x hx=>by
  obtain ⟨a,b⟩:=havR_mem hx
  obtain ⟨r1,r2,r3⟩:=h.row x a
  have h1:c<x.2.2.length:=by omega
  have h2:=r3 _ (List.getElem_mem h1)
  rw [numR_eq h1 h2] at b
  exact ⟨a,h1,h2,b,by rw [argsN_eq h2,starts_length,b]⟩
 refine ⟨?_,?_,?_,?_,?_⟩
 ·unfold kidP repl
  refine (Led8.append (h.led.take c) ?_).append (h.led.drop (c+1))
  rw [getD_lt hc,← har,List.range_eq_range']
  exact led_args (h.led.at hc hq) _ 0 (fun i hi=>by rw [Nat.zero_add];exact List.getElem?_eq_getElem hi)
 ·intro q hq'
  rcases mem_repl hq' with e | e
  ·exact h.lt q e
  ·exact (args_lt hU hlt q e).2
 ·intro y hy
  obtain ⟨x,hx,rfl⟩:=List.mem_map.1 hy
  obtain ⟨a,h1,h2,b,d⟩:=key x hx
  obtain ⟨r1,r2,r3⟩:=h.row x a
  refine ⟨r1,?_,?_⟩
  ·simp only [kidX,kidP]
   rw [getD_lt h1,repl_length h1,repl_length hc,d]
   simp;omega
  ·intro i hi
   simp only [kidX] at hi
   rw [getD_lt h1] at hi
   rcases mem_repl hi with e | e
   ·exact r3 i e
   ·exact (args_lt r1 h2 i e).2
 ·intro y hy
  obtain ⟨x,hx,rfl⟩:=List.mem_map.1 hy
  exact h.low x (key x hx).1
 ·intro y hy z hz e
  obtain ⟨x,hx,rfl⟩:=List.mem_map.1 hy
  obtain ⟨x', hx', rfl⟩:=List.mem_map.1 hz
  have:=h.inj x (key x hx).1 x' (key x' hx').1 e
  rw [this]
end
end Go.Proofs.YtoajbpmgoklflaaGreat
