import Derived.Test.YtdhiiicppcgkbaaGreatGW17
import Derived.Test.YtdhiiicppcgkbaaGreatGW15
import Derived.Test.YtdhiiicppcgkbaaGreatGW14
namespace Go.Proofs.YtdhiiicppcgkbaaGreat
set_option maxRecDepth 100000
set_option linter.unusedVariables false
open Go.RowKit
attribute [local go_sem ↓] Go.wp_at_zero Go.wp_at_succ
def caseG:List I3→Nat→Int→Nat × Bool
 | [],i,_=>(i,false)
 | x :: r,i,s=>if x.1=2 then (if x.2.1=s then (i,true) else caseG r (i+1) s) else (i,false)
def caseF (I:List I3) (s:Int) (a:Nat):Nat × Bool:=caseG (I.drop a) a s
theorem caseF_step {I:List I3} {s:Int} {a:Nat} (h:a<I.length):caseF I s a=if I[a].1=2 then (if I[a].2.1=s then (a,true) else caseF I s (a+1)) else (a,false):=by
 unfold caseF
 rw [List.drop_eq_getElem_cons h,caseG]
theorem caseF_end {I:List I3} {s:Int} {a:Nat} (h:I.length≤a):caseF I s a=(a,false):=by
 unfold caseF
 rw [List.drop_eq_nil_of_le h,caseG]
theorem caseG_le:∀ (l:List I3) (i:Nat) (s:Int),i≤(caseG l i s).1∧(caseG l i s).1≤i+l.length∧((caseG l i s).2=true→(caseG l i s).1<i+l.length)
 | [],i,s=>by simp [caseG]
 | x :: r,i,s=>by
  unfold caseG
  split
  ·split
   ·simp
   ·obtain ⟨a,b,c⟩:=caseG_le r (i+1) s
    refine ⟨by omega,by simp only [List.length_cons];omega,fun h=>?_⟩
    have:=c h
    simp only [List.length_cons];omega
  ·simp
theorem caseF_le {I:List I3} {s:Int} {a:Nat} (h:a≤I.length):a≤(caseF I s a).1∧(caseF I s a).1≤I.length∧((caseF I s a).2=true→(caseF I s a).1<I.length):=by
 obtain ⟨x,y,z⟩:=caseG_le (I.drop a) a s
 rw [List.length_drop] at y z
 refine ⟨x,by unfold caseF;omega,fun q=>?_⟩
 have:=z q
 unfold caseF;omega
def hasB (E:List Int) (n:Int):Bool:=idxB n E.length && decide (0≤E.getD n.toNat (-1))
abbrev R5:=Int × Int × List Int × Int × Int
def bad5:R5:=(0,0,[],0,92)
def lookF (L:List Sym) (ok:Bool) (T:List Int) (I:List I3) (E:List Int) (node:Int) (a:Nat) (p:List Int):R5 ⊕ Int:=
 if (caseF I (headI ok T (wayI L ok T node p)) (a+1)).2=true then
  (if (I.getD (caseF I (headI ok T (wayI L ok T node p)) (a+1)).1 (0,0,0)).2.2≤((caseF I (headI ok T (wayI L ok T node p)) (a+1)).1:Int) then .inl bad5 else .inr (I.getD (caseF I (headI ok T (wayI L ok T node p)) (a+1)).1 (0,0,0)).2.2)
 else if hasB E (headI ok T (wayI L ok T node p))=true then .inl (3,0,p,wayI L ok T node p,0) else .inr ((caseF I (headI ok T (wayI L ok T node p)) (a+1)).1:Int)
def runF (L:List Sym) (ok:Bool) (T:List Int) (I:List I3) (P:List (List Int)) (E:List Int) (node:Int):Nat→Nat→R5
 | 0,_=>bad5
 | f+1,a=>match I[a]? with
  | none=>bad5
  | some x=>if x.1=4 then (1,x.2.1,[],0,0) else if x.1=3 then (2,0,[],0,0)
   else if x.1=1∧idxB x.2.1 P.length=true then (match lookF L ok T I E node a (P.getD x.2.1.toNat []) with
    | .inl r=>r
    | .inr z=>runF L ok T I P E node f z.toNat)
   else bad5
theorem lookF_gt {L:List Sym} {ok:Bool} {T:List Int} {I:List I3} {E:List Int} {node:Int} {a:Nat} {p:List Int} (h:a<I.length) {z:Int} (hz:lookF L ok T I E node a p=.inr z):(a:Int)<z:=by
 unfold lookF at hz
 obtain ⟨x,_,_⟩:=caseF_le (I:=I) (s:=headI ok T (wayI L ok T node p)) (a:=a+1) (by omega)
 split at hz
 ·split at hz
  ·cases hz
  ·cases hz;omega
 ·split at hz
  ·cases hz
  ·cases hz;omega
theorem runF_more {L:List Sym} {ok:Bool} {T:List Int} {I:List I3} {P:List (List Int)} {E:List Int} {node:Int}:∀ (f g a:Nat),I.length<a+f→f≤g→runF L ok T I P E node f a=runF L ok T I P E node g a
 | 0,g,a,h,hg=>by
  cases g with
  | zero=>rfl
  | succ g=>
   rw [runF,runF,List.getElem?_eq_none (by omega)]
 | f+1,0,a,h,hg=>by omega
 | f+1,g+1,a,h,hg=>by
  rw [runF,runF]
  cases hi:I[a]? with
  | none=>rfl
  | some x=>
   have ha:a<I.length:=by
    rcases Nat.lt_or_ge a I.length with q | q
    ·exact q
    ·rw [List.getElem?_eq_none q] at hi;cases hi
   simp only
   split
   ·rfl
   ·split
    ·rfl
    ·split
     ·cases hl:lookF L ok T I E node a (P.getD x.2.1.toNat []) with
      | inl r=>rfl
      | inr z=>
       have:=lookF_gt ha hl
       exact runF_more f g z.toNat (by omega) (by omega)
     ·rfl
def codeF (L:List Sym) (ok:Bool) (T:List Int) (I:List I3) (P:List (List Int)) (E:List Int) (n node:Int):R5:=
 if hasB E n=true then runF L ok T I P E node (I.length+1) (E.getD n.toNat (-1)).toNat else (0,0,[],0,90)
def InsAt (w:World) (io:Option Addr) (I:List I3):Prop:=
 I=[]∨∃ b off,io=some ⟨b,off,none⟩∧b<w.heap.size∧∀ i (h:i<I.length),w.cell? ⟨b,off+i * 3,none⟩=some (.int .i64 I[i].1)∧w.cell? ⟨b,off+i * 3+1,none⟩=some (.int .i64 I[i].2.1)∧w.cell? ⟨b,off+i * 3+2,none⟩=some (.int .i64 I[i].2.2)
theorem InsAt.same {w w' : World} {io:Option Addr} {I:List I3} (h:InsAt w io I) (hk:Same0 w w'):InsAt w' io I:=by
 refine h.imp id ?_
 rintro ⟨b,off,e,hb,hc⟩
 refine ⟨b,off,e,Nat.lt_of_lt_of_le hb hk.size,fun i hi=>?_⟩
 obtain ⟨c0,c1,c2⟩:=hc i hi
 exact ⟨(hk.cell (p:=⟨b,off+i * 3,none⟩) hb (fun f=>f)).trans c0,(hk.cell (p:=⟨b,off+i * 3+1,none⟩) hb (fun f=>f)).trans c1,(hk.cell (p:=⟨b,off+i * 3+2,none⟩) hb (fun f=>f)).trans c2⟩
theorem InsAt.get {w:World} {io:Option Addr} {I:List I3} (h:InsAt w io I) {i:Nat} (hi:i<I.length):∃ b off,io=some ⟨b,off,none⟩∧b<w.heap.size∧w.cell? ⟨b,off+i * 3,none⟩=some (.int .i64 I[i].1)∧w.cell? ⟨b,off+i * 3+1,none⟩=some (.int .i64 I[i].2.1)∧w.cell? ⟨b,off+i * 3+2,none⟩=some (.int .i64 I[i].2.2):=by
 rcases h with rfl | ⟨b,off,e,hb,hc⟩
 ·simp at hi
 ·exact ⟨b,off,e,hb,hc i hi⟩
def PthAt (w:World) (po:Option Addr) (P:List (List Int)):Prop:=
 P=[]∨∃ b off,po=some ⟨b,off,none⟩∧b<w.heap.size∧∀ i (h:i<P.length),∃ ao ac,w.cell? ⟨b,off+i,none⟩=some (.slice ao P[i].length ac)∧Arg w ao P[i] ac
theorem PthAt.same {w w' : World} {po:Option Addr} {P:List (List Int)} (h:PthAt w po P) (hk:Same0 w w'):PthAt w' po P:=by
 refine h.imp id ?_
 rintro ⟨b,off,e,hb,hc⟩
 refine ⟨b,off,e,Nat.lt_of_lt_of_le hb hk.size,fun i hi=>?_⟩
 obtain ⟨ao,ac,c0,c1⟩:=hc i hi
 exact ⟨ao,ac,(hk.cell (p:=⟨b,off+i,none⟩) hb (fun f=>f)).trans c0,c1.same hk⟩
theorem PthAt.get {w:World} {po:Option Addr} {P:List (List Int)} (h:PthAt w po P) {i:Nat} (hi:i<P.length):∃ b off ao ac,po=some ⟨b,off,none⟩∧b<w.heap.size∧w.cell? ⟨b,off+i,none⟩=some (.slice ao P[i].length ac)∧Arg w ao P[i] ac:=by
 rcases h with rfl | ⟨b,off,e,hb,hc⟩
 ·simp at hi
 ·obtain ⟨ao,ac,c0,c1⟩:=hc i hi
  exact ⟨b,off,ao,ac,e,hb,c0,c1⟩
def FndOut (w:World) (R:R5) (e:Ending) (w' : World):Prop:=
 ∃ qo qc,e=.returned (.tuple #[.agg #[.int .i64 R.1,.int .i64 R.2.1,.slice qo R.2.2.1.length qc,.int .i64 R.2.2.2.1],.int .i64 R.2.2.2.2])∧Row w.heap.size w' (.slice qo R.2.2.1.length qc) R.2.2.1∧Same0 w w'
set_option maxHeartbeats 2000000 in
theorem chas_any {w:World} {eo:Option Addr} {E:List Int} (hE:IntsAt w eo E) (io po ro:Option Addr) (il ic pl pc ec rl rc:Nat) (n:Int) :
  Calls Tryz.prog 64 #[.agg #[.slice io il ic,.slice po pl pc,.slice eo E.length ec,.slice ro rl rc],.int .i64 n] w fun e w' => e=.returned (.bool (hasB E n))∧Same0 w w' := by
 have CI:=isIndex_any n E.length
 have ka:Same0 w (w.alloc (.cells #[.slice io il ic,.slice po pl pc,.slice eo E.length ec,.slice ro rl rc] 45)):=(Kept.refl _ w).alloc _
 cases hi:idxB n E.length with
 | false=>
  rw [hi] at CI
  have H:Hid (hasB E n=false):=by show _=_;simp [hasB,hi]
  clear hi hE
  go_enter Tryz.func64,Tryz.ntmps64
  go_wp2_with (first | (go_at_call 56;refine (CI _).mono ?_;rintro e w2 ⟨rfl,rfl⟩))
  go_ret
  exact ⟨by rw [H.out];rfl,ka⟩
 | true=>
  rw [hi] at CI
  obtain ⟨i,rfl,hl⟩:=idx_yes hi
  have H:Hid (hasB E (i:Int)=decide (0≤E[i])):=by
   show _=_
   simp [hasB,hi,hl]
  obtain ⟨b,off,rfl,hb,hcell⟩:=(hE.same ka).get hl
  have i1:(0:Int)≤(i:Int):=by omega
  have i2:(i:Int)<(E.length:Int):=by omega
  clear hi hE
  generalize E[i]=z at *
  go_enter Tryz.func64,Tryz.ntmps64
  go_wp2_with (first | (go_at_call 56;refine (CI _).mono ?_;rintro e w2 ⟨rfl,rfl⟩))
  go_ret
  exact ⟨by rw [H.out];rfl,ka⟩
set_option maxHeartbeats 4000000 in
theorem ccase_any {w:World} {io:Option Addr} {I:List I3} (hI:InsAt w io I) (hl:I.length≤140737488355328) (ic:Nat) (po eo ro:Option Addr) (pl pc el ec rl rc:Nat) (v:Value) (node s:Int) (a:Nat) (ha:a≤I.length) :
  Calls Tryz.prog 140 #[.agg #[.slice io I.length ic,.slice po pl pc,.slice eo el ec,.slice ro rl rc,.iface 70 v,.int .i64 node],.int .i64 s,.int .i64 (a:Int)] w fun e w' => e=.returned (.tuple #[.int .i64 ((caseF I s a).1:Int),.bool (caseF I s a).2])∧Same0 w w' := by
 obtain ⟨W1,hW1⟩:∃ W1,W1=w.alloc (.cells #[.slice io I.length ic,.slice po pl pc,.slice eo el ec,.slice ro rl rc,.iface 70 v,.int .i64 node] 151):=⟨_,rfl⟩
 have ka:Same0 w W1:=by rw [hW1];exact (Kept.refl _ w).alloc _
 have hbx:W1.heap[w.heap.size]? = some (.cells #[.slice io I.length ic,.slice po pl pc,.slice eo el ec,.slice ro rl rc,.iface 70 v,.int .i64 node] 151 (0,0)):=by rw [hW1];exact heap_alloc_new _ _
 have x0:=cellAt hbx 0
 simp only [List.getElem?_toArray,List.getElem?_cons_zero] at x0
 have hI1:=hI.same ka
 clear hI hbx
 go_enter Tryz.func140,Tryz.ntmps140
 go_upto_region 1 with fail
 rw [← hW1]
 clear hW1
 go_loop [2] (fun s2=>∃ k:Nat,k≤I.length∧s2=.int .i64 (k:Int)∧Hid (caseF I s a=caseF I s k)) (fun s2=>I.length-(intOf s2).toNat)
 case atStart=>exact ⟨a,ha,rfl,rfl⟩
 case round=>
  clear ha
  obtain ⟨k,hk,rfl,hF⟩:=hrel
  by_cases hlt:k<I.length
  ·obtain ⟨b,off,rfl,hb,c0,c1,c2⟩:=hI1.get hlt
   have i1:(0:Int)≤(k:Int):=by omega
   have i2:(k:Int)<(I.length:Int):=by omega
   by_cases ho:I[k].1=2
   ·rw [ho] at c0
    by_cases hs:I[k].2.1=s
    ·have H:Hid (caseF I s a=(k,true)):=by rw [hF.out];show _=_;rw [caseF_step hlt,if_pos ho,if_pos hs]
     rw [hs] at c1
     clear hF ho hs
     go_wp2_with fail
     go_ret2
     exact ⟨by rw [H.out];rfl,ka⟩
    ·have H:Hid (caseF I s a=caseF I s (k+1)):=by rw [hF.out];show _=_;rw [caseF_step hlt,if_pos ho,if_neg hs]
     have hs' : (I[k].2.1 == s)=false:=by simpa using hs
     generalize I[k].2.1=z at *
     clear hF ho hs
     go_wp2_with fail
     exact ⟨⟨k+1,by omega,by go_num,H⟩,by simp [intOf];omega⟩
   ·have H:Hid (caseF I s a=(k,false)):=by rw [hF.out];show _=_;rw [caseF_step hlt,if_neg ho]
    have ho' : (I[k].1 == 2)=false:=by simpa using ho
    generalize I[k].1=z at *
    clear hF ho
    go_wp2_with fail
    go_ret2
    exact ⟨by rw [H.out];rfl,ka⟩
  ·have H:Hid (caseF I s a=(k,false)):=by rw [hF.out];exact caseF_end (by omega)
   clear hF
   go_wp2_with fail
   go_ret2
   exact ⟨by rw [H.out];rfl,ka⟩
def kidOf {α:Type} (s:Int):List (Int × α)→Option α
 | []=>none
 | x :: r=>if x.1=s then some x.2 else kidOf s r
theorem kidOf_at {α:Type} {s:Int}:∀ {l:List (Int × α)} {j:Nat} (h:j<l.length),l[j].1=s→(∀ i (hi:i<l.length),i<j→l[i].1≠s)→kidOf s l=some l[j].2
 | x :: r,0,_,e,_=>by
  have e:x.1=s:=e
  rw [kidOf,if_pos e];rfl
 | x :: r,j+1,h,e,hn=>by
  have h0:x.1≠s:=hn 0 (by simp) (by omega)
  rw [kidOf,if_neg h0]
  exact kidOf_at (l:=r) (j:=j) (by simpa using h) e (fun i hi hj=>hn (i+1) (by simpa using hi) (by omega))
theorem kidOf_none {α:Type} {s:Int}:∀ {l:List (Int × α)},(∀ i (hi:i<l.length),l[i].1≠s)→kidOf s l=none
 | [],_=>rfl
 | x :: r,h=>by
  have h0:x.1≠s:=h 0 (by simp)
  rw [kidOf,if_neg h0]
  exact kidOf_none (fun i hi=>h (i+1) (by simpa using hi))
abbrev failV:Value:=.agg #[.int .i64 3,.int .i64 0,.slice none 0 0,.slice none 0 0]
def FolPost {n:Nat} (B:Nat→Prop) (w:World) (o:Option (Tr n)) (e:Ending) (w' : World):Prop:=
 ∃ x0 x1 x2 x3,e=.returned (.agg #[x0,x1,x2,x3])∧Same0 w w' ∧ (match o with | some t=>CsB B w' n (.agg #[x0,x1,x2,x3]) t | none=>Value.agg #[x0,x1,x2,x3]=failV)
set_option maxHeartbeats 8000000 in
theorem following_any {n:Nat} {B:Nat→Prop} {w:World} {k r:Int} {p:List Int} {l:List (Int × Tr n)} {v:Value} (h:CsB B w (n+1) v (k,r,p,l)) (hl9:l.length≤140737488355328) (s:Int) :
  Calls Tryz.prog 78 #[v,.int .i64 s] w (FolPost B w (kidOf s l)):=by
 obtain ⟨po,pc,ko,kc,rfl,h2,h3,h4,h5,h6⟩:=h
 obtain ⟨W1,hW1⟩:∃ W1,W1=(w.alloc (.cells #[.int .i64 k,.int .i64 r,.slice po p.length pc,.slice ko l.length kc] 25)).alloc zeroCs:=⟨_,rfl⟩
 have KW:Same0 w W1:=by rw [hW1];exact ((Kept.refl _ w).alloc _).alloc _
 have ez:w.heap.size+1<W1.heap.size:=by rw [hW1];simp
 have b3:W1.cell? ⟨w.heap.size,3,none⟩=some (.slice ko l.length kc):=cellAt (show W1.heap[w.heap.size]? = _ by rw [hW1];exact heap_alloc2_old _ _ _) 3
 have RS:Hid (∀ ww,Same0 W1 ww→ww.heap[w.heap.size+1]? = some (.cells #[.int .i64 0,.int .i64 0,.slice none 0 0,.slice none 0 0] 25 (0,0))):=fun ww hk=>hk.at0 (by rw [hW1];exact heap_al_al _ _ _)
 have RC:Hid (∀ ww,Same0 W1 ww→(ww.cell? ⟨w.heap.size+1,0,none⟩=some (.int .i64 0)∧ww.cell? ⟨w.heap.size+1,1,none⟩=some (.int .i64 0)∧ww.cell? ⟨w.heap.size+1,2,none⟩=some (.slice none 0 0)∧ww.cell? ⟨w.heap.size+1,3,none⟩=some (.slice none 0 0))∧ww.frozen? ⟨w.heap.size+1,0,none⟩=false∧ww.frozen? ⟨w.heap.size+1,1,none⟩=false∧ww.frozen? ⟨w.heap.size+1,2,none⟩=false∧ww.frozen? ⟨w.heap.size+1,3,none⟩=false):=fun ww hk=>by
  have rs:=RS.out ww hk
  exact ⟨⟨cellAt rs 0,cellAt rs 1,cellAt rs 2,cellAt rs 3⟩,frozenAt rs 0,frozenAt rs 1,frozenAt rs 2,frozenAt rs 3⟩
 have PUT:Hid (∀ ww x0 x1 x2 x3,Same0 W1 ww→(((((ww.setCell ⟨w.heap.size+1,0,none⟩ x0).setCell ⟨w.heap.size+1,1,none⟩ x1).setCell ⟨w.heap.size+1,2,none⟩ x2).setCell ⟨w.heap.size+1,3,none⟩ x3)).cell? ⟨w.heap.size+1,0,none⟩=some x0∧(((((ww.setCell ⟨w.heap.size+1,0,none⟩ x0).setCell ⟨w.heap.size+1,1,none⟩ x1).setCell ⟨w.heap.size+1,2,none⟩ x2).setCell ⟨w.heap.size+1,3,none⟩ x3)).cell? ⟨w.heap.size+1,1,none⟩=some x1∧(((((ww.setCell ⟨w.heap.size+1,0,none⟩ x0).setCell ⟨w.heap.size+1,1,none⟩ x1).setCell ⟨w.heap.size+1,2,none⟩ x2).setCell ⟨w.heap.size+1,3,none⟩ x3)).cell? ⟨w.heap.size+1,2,none⟩=some x2∧(((((ww.setCell ⟨w.heap.size+1,0,none⟩ x0).setCell ⟨w.heap.size+1,1,none⟩ x1).setCell ⟨w.heap.size+1,2,none⟩ x2).setCell ⟨w.heap.size+1,3,none⟩ x3)).cell? ⟨w.heap.size+1,3,none⟩=some x3∧Same0 w (((((ww.setCell ⟨w.heap.size+1,0,none⟩ x0).setCell ⟨w.heap.size+1,1,none⟩ x1).setCell ⟨w.heap.size+1,2,none⟩ x2).setCell ⟨w.heap.size+1,3,none⟩ x3))):=by
  intro ww x0 x1 x2 x3 hk
  have rs:=RS.out ww hk
  have s3:=setAt (setAt (setAt (setAt rs 0 x0) 1 x1) 2 x2) 3 x3
  have k1:=Kept.setCell (p:=⟨w.heap.size+1,0,none⟩) (Kept.refl (fun q=>q=w.heap.size+1) ww) (fun _=>rfl) x0
  have k2:=Kept.setCell (p:=⟨w.heap.size+1,1,none⟩) k1 (fun _=>rfl) x1
  have k3:=Kept.setCell (p:=⟨w.heap.size+1,2,none⟩) k2 (fun _=>rfl) x2
  have k4:=Kept.setCell (p:=⟨w.heap.size+1,3,none⟩) k3 (fun _=>rfl) x3
  exact ⟨cellAt s3 0,cellAt s3 1,cellAt s3 2,cellAt s3 3,Kept.trans (KW.trans' hk) k4 (fun i hi e=>by omega)⟩
 have H6:Hid (l=[]∨∃ b off,ko=some ⟨b,off,none⟩∧B b∧b<w.heap.size∧∀ i (h:i<l.length),∃ c0 c1 c2 c3,w.cell? ⟨b,off+i * 5,none⟩=some (.int .i64 l[i].1)∧w.cell? ⟨b,off+i * 5+1,none⟩=some c0∧w.cell? ⟨b,off+i * 5+2,none⟩=some c1∧w.cell? ⟨b,off+i * 5+3,none⟩=some c2∧w.cell? ⟨b,off+i * 5+4,none⟩=some c3∧CsB B w n (.agg #[c0,c1,c2,c3]) l[i].2):=h6
 clear h2 h3 h4 h5 h6
 go_enter Tryz.func78,Tryz.ntmps78
 go_upto_region 1 with fail
 rw [← hW1]
 clear hW1
 go_wp2_with fail
 go_loopw [10] (fun i wr=>∃ j:Nat,j≤l.length∧i=.int .i64 (j:Int)∧Hid (∀ i (hi:i<l.length),i<j→l[i].1≠s)∧Same0 W1 wr) (fun i _=>l.length-(intOf i).toNat)
 case atStart=>exact ⟨0,Nat.zero_le _,rfl,(fun i hi hj=>by omega),Kept.refl _ _⟩
 case round=>
  clear b3
  obtain ⟨j,hj,rfl,hn,hw⟩:=hrel
  by_cases hlt:j<l.length
  ·rcases H6.out with e | ⟨ab,aoff,rfl,_,hab,hca⟩
   ·subst e;simp at hlt
   obtain ⟨c0,c1,c2,c3,p0,p1,p2,p3,p4,p5⟩:=hca j hlt
   obtain ⟨e0,e1,e2,e3,e4,e5,e6,e7,ea⟩:=p5.shape
   simp only [Value.agg.injEq,Array.mk.injEq,List.cons.injEq,and_true] at ea
   obtain ⟨rfl,rfl,rfl,rfl⟩:=ea
   have kk:=KW.trans' hw
   have ta:∀ o v,w.cell? ⟨ab,o,none⟩=some v→wr.cell? ⟨ab,o,none⟩=some v:=fun o v e=>(kk.cell (p:=⟨ab,o,none⟩) hab (fun f=>f)).trans e
   have p0:=ta _ _ p0
   have p1:=ta _ _ p1
   have p2:=ta _ _ p2
   have p3:=ta _ _ p3
   have p4:=ta _ _ p4
   have i1:(0:Int)≤(j:Int):=by omega
   have i2:(j:Int)<(l.length:Int):=by omega
   have i3:IntKind.i64.wrap ((j:Int)+1)=(j:Int)+1:=iwrap (by omega) (by omega)
   by_cases hq:l[j].1=s
   ·have hqe:(l[j].1 == s)=true:=by simpa using hq
    have FIN:Hid (∀ w', Same0 w w' → FolPost B w (kidOf s l) (.returned (.agg #[.int .i64 e0,.int .i64 e1,.slice e2 e3 e4,.slice e5 e6 e7])) w'):=fun w' hk=>by
     rw [kidOf_at hlt hq hn.out]
     exact ⟨_,_,_,_,rfl,hk,p5.same hk⟩
    have k2:Same0 W1 (wr.alloc (.cells #[.int .i64 l[j].1,.int .i64 e0,.int .i64 e1,.slice e2 e3 e4,.slice e5 e6 e7] 185)):=Kept.alloc hw _
    obtain ⟨⟨r0,r1,r2,r3⟩,f0,f1,f2,f3⟩:=RC.out _ k2
    clear hn ta hca p5 hq H6
    go_wp2_with fail
    obtain ⟨g0,g1,g2,g3,ks⟩:=PUT.out _ (.int .i64 e0) (.int .i64 e1) (.slice e2 e3 e4) (.slice e5 e6 e7) k2
    exact bodyPost_ret (v:=.agg #[.int .i64 e0,.int .i64 e1,.slice e2 e3 e4,.slice e5 e6 e7]) (by simp [results,Tryz.results78,go_sem,g0,g1,g2,g3]) rfl (FIN.out _ ks)
   ·have hqe:(l[j].1 == s)=false:=by simpa using hq
    have HN:Hid (∀ i (hi:i<l.length),i<j+1→l[i].1≠s):=fun i hi hij=>by
     by_cases e:i=j
     ·subst e;exact hq
     ·exact hn.out i hi (by omega)
    clear hn ta hca p5 hq H6
    go_wp2_with fail
    exact ⟨⟨j+1,by omega,by go_num,HN,Kept.alloc hw _⟩,by simp [intOf];omega⟩
  ·have FIN:Hid (∀ w', Same0 w w' → FolPost B w (kidOf s l) (.returned failV) w'):=fun w' hk=>by
    rw [kidOf_none (fun i hi=>hn.out i hi (by omega))]
    exact ⟨_,_,_,_,rfl,hk,rfl⟩
   obtain ⟨⟨r0,r1,r2,r3⟩,f0,f1,f2,f3⟩:=RC.out _ hw
   clear hn H6
   go_wp2_with fail
   obtain ⟨g0,g1,g2,g3,ks⟩:=PUT.out _ (.int .i64 3) (.int .i64 0) (.slice none 0 0) (.slice none 0 0) hw
   exact bodyPost_ret (v:=failV) (by simp [results,Tryz.results78,go_sem,g0,g1,g2,g3]) rfl (FIN.out _ ks)
end Go.Proofs.YtdhiiicppcgkbaaGreat
namespace Go.Proofs.YtdhiiicppcgkbaaGreat
set_option linter.unusedVariables false
def runT (L:List Sym) (ok:Bool) (T:List Int) (E:List Int) (node:Int):(n:Nat)→Tr n→R5
 | 0,_=>bad5
 | n+1,(k,r,p,l)=>if k=1 then (1,r,[],0,0) else if k=2 then (match kidOf (headI ok T (wayI L ok T node p)) l with
  | some t=>runT L ok T E node n t
  | none=>if hasB E (headI ok T (wayI L ok T node p))=true then (3,0,p,wayI L ok T node p,0) else (2,0,[],0,0)) else (2,0,[],0,0)
theorem setB_get:∀ (I:List I3) (c:Nat) (b:Int) (k:Nat),(setB I c b)[k]? = if k=c then (I[k]?).map (fun x=>(x.1,x.2.1,b)) else I[k]?
 | [],c,b,k=>by simp [setB]
 | x :: r,0,b,0=>by simp [setB]
 | x :: r,0,b,k+1=>by simp [setB]
 | x :: r,c+1,b,0=>by simp [setB]
 | x :: r,c+1,b,k+1=>by
  simp only [setB,List.getElem?_cons_succ]
  rw [setB_get r c b k]
  simp
def PreS {α:Type} (f:α→St9→St9):Prop:=∀ t s,(∀ k,k<s.1.length→(f t s).1[k]? = s.1[k]?)∧(∀ k,k<s.2.length→(f t s).2[k]? = s.2[k]?)∧s.1.length≤(f t s).1.length∧s.2.length≤(f t s).2.length
theorem layK_out {α:Type} {f:α→St9→St9} (hf:PreS f):∀ (l:List (Int × α)) (c:Nat) (s:St9),(∀ k,k<s.1.length→k<c∨c+l.length≤k→(layK f l c s).1[k]? = s.1[k]?)∧(∀ k,k<s.2.length→(layK f l c s).2[k]? = s.2[k]?)∧s.1.length≤(layK f l c s).1.length∧s.2.length≤(layK f l c s).2.length
 | [],c,s=>⟨fun _ _ _=>rfl,fun _ _=>rfl,Nat.le_refl _,Nat.le_refl _⟩
 | x :: r,c,s=>by
  obtain ⟨h1,h2,h3,h4⟩:=hf x.2 (setB s.1 c (s.1.length:Int),s.2)
  obtain ⟨g1,g2,g3,g4⟩:=layK_out hf r (c+1) (f x.2 (setB s.1 c (s.1.length:Int),s.2))
  simp only [setB_length] at h1 h2 h3 h4
  simp only [layK,List.length_cons]
  refine ⟨fun k hk hc=>?_,fun k hk=>?_,Nat.le_trans h3 g3,Nat.le_trans h4 g4⟩
  ·rw [g1 k (by omega) (by omega),h1 k hk,setB_get,if_neg (by omega)]
  ·rw [g2 k (by omega),h2 k hk]
theorem layK_kid {α:Type} {f:α→St9→St9} (hf:PreS f):∀ (l:List (Int × α)) (c:Nat) (s:St9),c+l.length≤s.1.length→∀ i (hi:i<l.length),∃ z:St9,(layK f l c s).1[c+i]? = (s.1[c+i]?).map (fun x=>(x.1,x.2.1,(z.1.length:Int)))∧(∀ k,z.1.length≤k→k<(f l[i].2 z).1.length→(layK f l c s).1[k]? = (f l[i].2 z).1[k]?)∧(∀ k,z.2.length≤k→k<(f l[i].2 z).2.length→(layK f l c s).2[k]? = (f l[i].2 z).2[k]?)∧s.1.length≤z.1.length∧s.2.length≤z.2.length∧(f l[i].2 z).1.length≤(layK f l c s).1.length∧(f l[i].2 z).2.length≤(layK f l c s).2.length
 | x :: r,c,s,hc,0,hi=>by
  obtain ⟨h1,h2,h3,h4⟩:=hf x.2 (setB s.1 c (s.1.length:Int),s.2)
  obtain ⟨g1,g2,g3,g4⟩:=layK_out hf r (c+1) (f x.2 (setB s.1 c (s.1.length:Int),s.2))
  simp only [setB_length,List.length_cons] at h1 h2 h3 h4 hc
  refine ⟨(setB s.1 c (s.1.length:Int),s.2),?_,?_,?_,by simp [setB_length],Nat.le_refl _,?_,?_⟩
  ·simp only [layK,Nat.add_zero,setB_length]
   rw [g1 c (by omega) (by omega),h1 c (by omega),setB_get,if_pos rfl]
  ·intro k k1 k2
   simp only [setB_length] at k1
   simp only [layK]
   exact g1 k k2 (by omega)
  ·intro k k1 k2
   simp only [layK]
   exact g2 k k2
  ·simp only [layK];exact g3
  ·simp only [layK];exact g4
 | x :: r,c,s,hc,i+1,hi=>by
  obtain ⟨h1,h2,h3,h4⟩:=hf x.2 (setB s.1 c (s.1.length:Int),s.2)
  simp only [setB_length,List.length_cons] at h1 h2 h3 h4 hc
  obtain ⟨z,z1,z2,z3,z4,z5,z6,z7⟩:=layK_kid hf r (c+1) (f x.2 (setB s.1 c (s.1.length:Int),s.2)) (by omega) i (by simpa using hi)
  have hi' : i<r.length:=by simpa using hi
  refine ⟨z,?_,z2,z3,by omega,by omega,z6,z7⟩
  simp only [layK]
  rw [show c+(i+1)=c+1+i by omega,z1,h1 (c+1+i) (by omega),setB_get,if_neg (by omega)]
theorem layS_pre:∀ n,PreS (layS n)
 | 0=>fun t s=>t.elim
 | n+1=>fun t s=>by
  obtain ⟨k,r,p,l⟩:=t
  rw [layS_eq]
  by_cases h1:k=1
  ·rw [if_pos h1]
   exact ⟨fun k hk=>List.getElem?_append_left hk,fun _ _=>rfl,by simp,Nat.le_refl _⟩
  ·rw [if_neg h1]
   by_cases h2:k=2
   ·rw [if_pos h2]
    obtain ⟨g1,g2,g3,g4⟩:=layK_out (layS_pre n) l (s.1.length+1) (headS p (l.map (fun x=>x.1)) s)
    have e1:(headS p (l.map (fun x=>x.1)) s).1.length=s.1.length+1+l.length+1:=by simp [headS];omega
    have e2:(headS p (l.map (fun x=>x.1)) s).2.length=s.2.length+1:=by simp [headS]
    refine ⟨fun k hk=>?_,fun k hk=>?_,by omega,by omega⟩
    ·rw [g1 k (by omega) (by omega)]
     simp only [headS,List.append_assoc]
     exact List.getElem?_append_left hk
    ·rw [g2 k (by omega)]
     simp only [headS]
     exact List.getElem?_append_left hk
   ·rw [if_neg h2]
    exact ⟨fun k hk=>List.getElem?_append_left hk,fun _ _=>rfl,by simp,Nat.le_refl _⟩
theorem headS_at (p:List Int) (ks:List Int) (s:St9):(headS p ks s).1[s.1.length]? = some (1,(s.2.length:Int),0)∧(∀ i (h:i<ks.length),(headS p ks s).1[s.1.length+1+i]? = some (2,ks[i],0))∧(headS p ks s).1[s.1.length+1+ks.length]? = some (3,0,0)∧(headS p ks s).2[s.2.length]? = some p:=by
 refine ⟨?_,fun i h=>?_,?_,by simp [headS]⟩
 ·simp [headS,List.append_assoc]
 ·simp only [headS,List.append_assoc]
  rw [List.getElem?_append_right (by omega),show s.1.length+1+i-s.1.length=i+1 by omega,List.singleton_append,List.getElem?_cons_succ,List.getElem?_append_left (by simpa using h)]
  simp [h]
 ·simp only [headS,List.append_assoc]
  rw [List.getElem?_append_right (by omega),show s.1.length+1+ks.length-s.1.length=ks.length+1 by omega,List.singleton_append,List.getElem?_cons_succ,List.getElem?_append_right (by simp)]
  simp
theorem caseF_skip {I:List I3} {h:Int}:∀ (m b:Nat),(∀ i,i<m→∃ y z,I[b+i]? = some (2,y,z)∧y≠h)→caseF I h b=caseF I h (b+m)
 | 0,b,_=>rfl
 | m+1,b,hc=>by
  obtain ⟨y,z,e,hy⟩:=hc 0 (by omega)
  rw [Nat.add_zero] at e
  obtain ⟨hb,e2⟩:=List.getElem?_eq_some_iff.1 e
  rw [caseF_step hb,e2]
  simp only [if_true,if_neg hy]
  rw [caseF_skip m (b+1) (fun i hi=>by
   obtain ⟨y,z,e,hy⟩:=hc (i+1) (by omega)
   exact ⟨y,z,by rw [← e];congr 1;omega,hy⟩)]
  congr 1;omega
theorem kidOf_first {α:Type} {h:Int}:∀ {l:List (Int × α)},match kidOf h l with | some t=>∃ i,∃ hi:i<l.length,l[i].1=h∧l[i].2=t∧∀ j (hj:j<l.length),j<i→l[j].1≠h | none=>∀ j (hj:j<l.length),l[j].1≠h
 | []=>by simp [kidOf]
 | x :: r=>by
  unfold kidOf
  by_cases e:x.1=h
  ·rw [if_pos e]
   exact ⟨0,by simp,e,rfl,fun j _ hj=>absurd hj (by omega)⟩
  ·rw [if_neg e]
   have ih:=kidOf_first (h:=h) (l:=r)
   cases hk:kidOf h r with
   | some t=>
    rw [hk] at ih
    obtain ⟨i,hi,e1,e2,e3⟩:=ih
    refine ⟨i+1,by simpa using hi,by simpa using e1,by simpa using e2,fun j hj hlt=>?_⟩
    cases j with
    | zero=>simpa using e
    | succ j=>simpa using e3 j (by simpa using hj) (by omega)
   | none=>
    rw [hk] at ih
    intro j hj
    cases j with
    | zero=>simpa using e
    | succ j=>simpa using ih j (by simpa using hj)
theorem runF_at {L:List Sym} {ok:Bool} {T:List Int} {I:List I3} {P:List (List Int)} {E:List Int} {node:Int} {f a:Nat} {x:I3} (h:I[a]? = some x):runF L ok T I P E node (f+1) a=if x.1=4 then (1,x.2.1,[],0,0) else if x.1=3 then (2,0,[],0,0) else if x.1=1∧idxB x.2.1 P.length=true then (match lookF L ok T I E node a (P.getD x.2.1.toNat []) with | .inl r=>r | .inr z=>runF L ok T I P E node f z.toNat) else bad5:=by
 rw [runF,h] <;> rfl
theorem run_tree {L:List Sym} {ok:Bool} {T:List Int} {E:List Int} {node:Int} {I:List I3} {P:List (List Int)}:∀ (n:Nat) (t:Tr n) (s:St9) (f:Nat),(∀ k,s.1.length≤k→k<(layS n t s).1.length→I[k]? = (layS n t s).1[k]?)→(∀ k,s.2.length≤k→k<(layS n t s).2.length→P[k]? = (layS n t s).2[k]?)→I.length<s.1.length+f→runF L ok T I P E node f s.1.length=runT L ok T E node n t
 | 0,t,s,f,_,_,_=>t.elim
 | n+1,(k,r,p,l),s,f,hI,hP,hf=>by
  by_cases h1:k=1
  ·rw [layS_leaf h1] at hI hP
   have e:=hI s.1.length (Nat.le_refl _) (by simp)
   simp only [List.getElem?_append_right (Nat.le_refl _),Nat.sub_self,List.getElem?_cons_zero] at e
   have hlt:=(List.getElem?_eq_some_iff.1 e).1
   obtain ⟨g,rfl⟩:∃ g,f=g+1:=⟨f-1,by omega⟩
   rw [runF_at e,runT,if_pos rfl,if_pos h1]
  ·by_cases h2:k=2
   ·rw [layS_branch h2] at hI hP
    have e1:(headS p (l.map (fun x=>x.1)) s).1.length=s.1.length+1+l.length+1:=by simp [headS];omega
    have e2:(headS p (l.map (fun x=>x.1)) s).2.length=s.2.length+1:=by simp [headS]
    obtain ⟨a1,a2,a3,a4⟩:=headS_at p (l.map (fun x=>x.1)) s
    rw [List.length_map] at a3
    obtain ⟨g1,g2,g3,g4⟩:=layK_out (layS_pre n) l (s.1.length+1) (headS p (l.map (fun x=>x.1)) s)
    have kid:=layK_kid (layS_pre n) l (s.1.length+1) (headS p (l.map (fun x=>x.1)) s) (by omega)
    generalize layK (layS n) l (s.1.length+1) (headS p (l.map (fun x=>x.1)) s)=F at *
    generalize headS p (l.map (fun x=>x.1)) s=H at *
    have i0:I[s.1.length]? = some (1,(s.2.length:Int),0):=by rw [hI _ (Nat.le_refl _) (by omega),g1 _ (by omega) (by omega),a1]
    have iS:I[s.1.length+1+l.length]? = some (3,0,0):=by rw [hI _ (by omega) (by omega),g1 _ (by omega) (by omega),a3]
    have p0:P[s.2.length]? = some p:=by rw [hP _ (Nat.le_refl _) (by omega),g2 _ (by omega),a4]
    have hlt:=(List.getElem?_eq_some_iff.1 i0).1
    have hls:=(List.getElem?_eq_some_iff.1 iS).1
    obtain ⟨hpl,hpe⟩:=List.getElem?_eq_some_iff.1 p0
    obtain ⟨g,rfl⟩:∃ g,f=g+1:=⟨f-1,by omega⟩
    have hix:idxB (s.2.length:Int) P.length=true:=by simp [idxB,hpl]
    have hpd:P.getD (s.2.length:Int).toNat []=p:=by rw [Int.toNat_natCast];simp [List.getD,p0]
    rw [runF_at i0,runT,if_neg h1,if_pos h2]
    simp only [hix,hpd,and_self,if_true,if_neg (show ¬ (1:Int)=4 by omega),if_neg (show ¬ (1:Int)=3 by omega)]
    have ks:∀ i (hi:i<l.length),∃ z:St9,I[s.1.length+1+i]? = some (2,l[i].1,(z.1.length:Int))∧H.1.length≤z.1.length∧runF L ok T I P E node g z.1.length=runT L ok T E node n l[i].2:=fun i hi=>by
     obtain ⟨z,z1,z2,z3,z4,z5,z6,z7⟩:=kid i hi
     refine ⟨z,?_,z4,run_tree n l[i].2 z g (fun k k1 k2=>?_) (fun k k1 k2=>?_) (by omega)⟩
     ·rw [hI _ (by omega) (by omega),z1,a2 i (by simpa using hi)]
      simp
     ·rw [hI k (by omega) (by omega),z2 k k1 k2]
     ·rw [hP k (by omega) (by omega),z3 k k1 k2]
    unfold lookF
    generalize headI ok T (wayI L ok T node p)=h at *
    have kf:=kidOf_first (h:=h) (l:=l)
    cases hk:kidOf h l with
    | some t' =>
     rw [hk] at kf
     obtain ⟨i,hi,e3,e4,e5⟩:=kf
     obtain ⟨z,z1,z2,z3⟩:=ks i hi
     have hcf:caseF I h (s.1.length+1)=(s.1.length+1+i,true):=by
      rw [caseF_skip i (s.1.length+1) (fun j hj=>by
       obtain ⟨y,y1,_⟩:=ks j (by omega)
       exact ⟨_,_,y1,e5 j (by omega) hj⟩)]
      obtain ⟨hb,e6⟩:=List.getElem?_eq_some_iff.1 z1
      rw [caseF_step hb,e6]
      simp [e3]
     have hgd:I.getD (s.1.length+1+i) (0,0,0)=(2,l[i].1,(z.1.length:Int)):=by simp [List.getD,z1]
     rw [hcf]
     simp only [if_true,hgd]
     rw [if_neg (by omega)]
     simp only [Int.toNat_natCast]
     rw [z3,e4]
    | none=>
     rw [hk] at kf
     have hcf:caseF I h (s.1.length+1)=(s.1.length+1+l.length,false):=by
      rw [caseF_skip l.length (s.1.length+1) (fun j hj=>by
       obtain ⟨y,y1,_⟩:=ks j hj
       exact ⟨_,_,y1,kf j hj⟩)]
      obtain ⟨hb,e6⟩:=List.getElem?_eq_some_iff.1 iS
      rw [caseF_step hb,e6]
      simp
     rw [hcf]
     simp only [Bool.false_eq_true,if_false]
     by_cases hE:hasB E h=true
     ·rw [if_pos hE,if_pos hE]
     ·rw [if_neg hE,if_neg hE]
      simp only [Int.toNat_natCast]
      obtain ⟨g', rfl⟩:∃ g', g=g' + 1:=⟨g-1,by omega⟩
      rw [runF_at iS]
      simp
   ·rw [layS_fail h1 h2] at hI hP
    have e:=hI s.1.length (Nat.le_refl _) (by simp)
    simp only [List.getElem?_append_right (Nat.le_refl _),Nat.sub_self,List.getElem?_cons_zero] at e
    have hlt:=(List.getElem?_eq_some_iff.1 e).1
    obtain ⟨g,rfl⟩:∃ g,f=g+1:=⟨f-1,by omega⟩
    rw [runF_at e,runT,if_neg h1,if_neg h2]
    simp
end Go.Proofs.YtdhiiicppcgkbaaGreat
namespace Go.Proofs.YtdhiiicppcgkbaaGreat
set_option maxRecDepth 100000
set_option linter.unusedVariables false
open Go.RowKit
attribute [local go_sem ↓] Go.wp_at_zero Go.wp_at_succ
def rulesF:(n:Nat)→Tr n→List Int
 | 0,_=>[]
 | n+1,(k,r,p,l)=>if k=1 then [r] else if k=2 then l.flatMap (fun x=>rulesF n x.2) else []
def SmK:(n:Nat)→Tr n→Prop
 | 0,_=>True
 | n+1,(k,r,p,l)=>l.length≤1000000000∧∀ i (h:i<l.length),SmK n l[i].2
structure RAt (w:World) (lb base:Nat) (lv:Value) (out:List Int):Prop where
 blk:w.heap[lb]? = some (.cells #[lv] 22 (0,0))
 row:Row base w lv out
abbrev T3:=Nat × Nat × Nat
def add3 (a b:T3):T3:=(a.1+b.1,a.2.1+b.2.1,a.2.2+b.2.2)
def sum3 {α:Type} (f:α→T3):List α→T3
 | []=>(0,0,0)
 | x :: r=>add3 (f x) (sum3 f r)
theorem sum3_append {α:Type} (f:α→T3):∀ (a b:List α),sum3 f (a++b)=add3 (sum3 f a) (sum3 f b)
 | [],b=>by simp [sum3,add3]
 | x :: r,b=>by
  rw [List.cons_append,sum3,sum3,sum3_append f r b]
  simp only [add3,Nat.add_assoc]
def kind3 (k:Int):T3:=if k=1 then (1,0,0) else if k=2 then (0,1,0) else if k=3 then (0,0,1) else (0,0,0)
def szT:(n:Nat)→Tr n→T3
 | 0,_=>(0,0,0)
 | n+1,(k,r,p,l)=>add3 (kind3 k) (if k=2 then sum3 (fun x=>szT n x.2) l else (0,0,0))
structure SAt (w:World) (x y z:Nat) (a:T3):Prop where
 bx:w.heap[x]? = some (.cells #[.int .i64 (a.1:Int)] 3 (0,0))
 by' : w.heap[y]? = some (.cells #[.int .i64 (a.2.1:Int)] 3 (0,0))
 bz:w.heap[z]? = some (.cells #[.int .i64 (a.2.2:Int)] 3 (0,0))
 xy:x≠y
 xz:x≠z
 yz:y≠z
abbrev zeroC:Value:=.agg #[.int .i64 0,.int .i64 0,.slice none 0 0,.slice none 0 0]
def treeF (L:List Sym) (R:List Ru) (s:Nat):Except Int (Tr 2001):=growF L 2001 (rootP L s) (rootR L R s)
def BldPost (L:List Sym) (R:List Ru) (n:Int) (w:World) (e:Ending) (w' : World):Prop:=
 Same0 w w' ∧ if defB L n=true then
  (match treeF L R n.toNat with
  | .ok t=>∃ v,e=.returned (.tuple #[v,.nilIface])∧CsB (fun b=>w.heap.size≤b) w' 2001 v t
  | .error z=>∃ v,e=.returned (.tuple #[zeroC,v])∧FltAt w' [(81,n),(82,z)] v)
 else ∃ v,e=.returned (.tuple #[zeroC,v])∧FltAt w' [(80,0)] v
theorem ptr_nil (b:Nat) (w:World):(binOp .eql 39 (.pointer (some ⟨b,0,none⟩)) (.pointer none)).run Tryz.prog w=.ok (.bool false) w:=by kernel_rfl
theorem kidsN_err {α:Type} {has:Nat→Bool} {g:Nat→Except Int α} {z:Int}:∀ {k:Nat},kidsN has g k=.error z→∃ j,g j=.error z
 | 0,h=>by cases h
 | k+1,h=>by
  rw [kidsN] at h
  cases hk:kidsN has g k with
  | error e=>rw [hk] at h;cases h;exact kidsN_err hk
  | ok l=>
   rw [hk] at h
   simp only at h
   split at h
   ·cases hg:g k with
    | error e=>rw [hg] at h;cases h;exact ⟨k,hg⟩
    | ok t=>rw [hg] at h;cases h
   ·cases h
theorem growF_err {L:List Sym} {z:Int}:∀ {n:Nat} {P:List (List Int)} {R:List Rw},(∀ x∈R,0≤x.1)→growF L n P R=.error z→0≤z
 | 0,P,R,hR,h=>by rw [growF] at h;cases h;omega
 | n+1,P,R,hR,h=>by
  have hh:¬ R.length=0→0≤(R.headD (0,[],[])).1:=fun h0=>by
   cases R with
   | nil=>simp at h0
   | cons x r=>exact hR x (List.mem_cons_self ..)
  by_cases h0:R.length=0
  ·rw [growF_zero h0] at h;cases h
  ·cases hp:partN R P.length with
   | some c=>
    rw [growF_branch h0 hp] at h
    unfold BrF at h
    cases hk:KidsF L n P R c L.length with
    | ok l=>rw [hk] at h;cases h
    | error e=>
     rw [hk] at h
     cases h
     obtain ⟨j,hj⟩:=kidsN_err hk
     refine growF_err (fun x hx=>?_) hj
     obtain ⟨y,hy,rfl⟩:=List.mem_map.1 hx
     exact hR y (havR_mem hy).1
   | none=>
    by_cases h1:R.length=1
    ·rw [growF_leaf h1 hp] at h;cases h
    ·rw [growF_fork h0 h1 hp] at h;cases h;exact hh h0
set_option maxHeartbeats 16000000 in
theorem build_any {w:World} {b bs:Nat} {L:List Sym} {R:List Ru} {lv:Value} {vs:List Value} (h:StAt w b bs L R lv vs) (n:Int) :
  Calls Tryz.prog 35 #[.pointer (some ⟨b,0,none⟩),.int .i64 n] w (BldPost L R n w):=by
 have hpn:=ptr_nil
 have hle:=h.le
 have hok:=h.ok
 obtain ⟨W1,hW1⟩:∃ W1,W1=((w.alloc (.cells #[.int .i64 n] 3)).alloc zeroCs).alloc (.cells #[.nilIface] 47):=⟨_,rfl⟩
 have KW:Same0 w W1:=by rw [hW1];exact (((Kept.refl _ w).alloc _).alloc _).alloc _
 have ez:W1.heap.size=w.heap.size+1+1+1:=by rw [hW1];simp
 have BK:Hid (∀ ww,Same0 W1 ww→ww.heap[w.heap.size]? = some (.cells #[.int .i64 n] 3 (0,0))∧ww.heap[w.heap.size+1]? = some (.cells #[.int .i64 0,.int .i64 0,.slice none 0 0,.slice none 0 0] 25 (0,0))∧ww.heap[w.heap.size+1+1]? = some (.cells #[.nilIface] 47 (0,0))):=fun ww hk=>by
  have k1:Same0 (w.alloc (.cells #[.int .i64 n] 3)) W1:=by rw [hW1];exact ((Kept.refl _ _).alloc _).alloc _
  have k2:Same0 ((w.alloc (.cells #[.int .i64 n] 3)).alloc zeroCs) W1:=by rw [hW1];exact (Kept.refl _ _).alloc _
  have h3:=heap_al_al (w.alloc (.cells #[.int .i64 n] 3)) zeroCs (.cells #[.nilIface] 47)
  rw [World.size_alloc] at h3
  exact ⟨hk.at0 (k1.at0 (heap_alloc_new w _)),hk.at0 (k2.at0 (heap_al_al _ _ _)),hk.at0 (by rw [hW1];exact h3)⟩
 have RC:Hid (∀ ww,Same0 W1 ww→ww.cell? ⟨w.heap.size,0,none⟩=some (.int .i64 n)∧(ww.cell? ⟨w.heap.size+1,0,none⟩=some (.int .i64 0)∧ww.cell? ⟨w.heap.size+1,1,none⟩=some (.int .i64 0)∧ww.cell? ⟨w.heap.size+1,2,none⟩=some (.slice none 0 0)∧ww.cell? ⟨w.heap.size+1,3,none⟩=some (.slice none 0 0))∧(ww.frozen? ⟨w.heap.size+1,0,none⟩=false∧ww.frozen? ⟨w.heap.size+1,1,none⟩=false∧ww.frozen? ⟨w.heap.size+1,2,none⟩=false∧ww.frozen? ⟨w.heap.size+1,3,none⟩=false)∧ww.cell? ⟨w.heap.size+1+1,0,none⟩=some .nilIface∧ww.frozen? ⟨w.heap.size+1+1,0,none⟩=false):=fun ww hk=>by
  obtain ⟨h1,h2,h3⟩:=BK.out ww hk
  exact ⟨cellAt h1 0,⟨cellAt h2 0,cellAt h2 1,cellAt h2 2,cellAt h2 3⟩,⟨frozenAt h2 0,frozenAt h2 1,frozenAt h2 2,frozenAt h2 3⟩,cellAt h3 0,frozenAt h3 0⟩
 have CS:Hid (∀ ww,Same0 w ww→Calls Tryz.prog 50 #[.pointer (some ⟨b,0,none⟩)] ww fun e w' => ∃ bt,e=.returned (.pointer (some ⟨bt,0,none⟩))∧Hid (Sg w'.heap.size w' bt L)∧Same0 ww w'):=fun ww hk=>by
  refine (ssig_any (h.same hk)).mono ?_
  rintro e w' ⟨bt,rfl,hb,sv,mr,h1,h2,h3⟩
  exact ⟨bt,rfl,⟨⟨sv,mr,h1,fun k hk=>sig_foot_lt h1 k hk⟩,h.sig.2⟩,h3⟩
 have HST:Hid (∀ ww,Same0 w ww→StAt ww b bs L R lv vs):=fun ww hk=>h.same hk
 have PUT:Hid (∀ ww x0 x1 x2 x3 y,Same0 W1 ww→((((((ww.setCell ⟨w.heap.size+1,0,none⟩ x0).setCell ⟨w.heap.size+1,1,none⟩ x1).setCell ⟨w.heap.size+1,2,none⟩ x2).setCell ⟨w.heap.size+1,3,none⟩ x3).setCell ⟨w.heap.size+1+1,0,none⟩ y)).cell? ⟨w.heap.size+1,0,none⟩=some x0∧((((((ww.setCell ⟨w.heap.size+1,0,none⟩ x0).setCell ⟨w.heap.size+1,1,none⟩ x1).setCell ⟨w.heap.size+1,2,none⟩ x2).setCell ⟨w.heap.size+1,3,none⟩ x3).setCell ⟨w.heap.size+1+1,0,none⟩ y)).cell? ⟨w.heap.size+1,1,none⟩=some x1∧((((((ww.setCell ⟨w.heap.size+1,0,none⟩ x0).setCell ⟨w.heap.size+1,1,none⟩ x1).setCell ⟨w.heap.size+1,2,none⟩ x2).setCell ⟨w.heap.size+1,3,none⟩ x3).setCell ⟨w.heap.size+1+1,0,none⟩ y)).cell? ⟨w.heap.size+1,2,none⟩=some x2∧((((((ww.setCell ⟨w.heap.size+1,0,none⟩ x0).setCell ⟨w.heap.size+1,1,none⟩ x1).setCell ⟨w.heap.size+1,2,none⟩ x2).setCell ⟨w.heap.size+1,3,none⟩ x3).setCell ⟨w.heap.size+1+1,0,none⟩ y)).cell? ⟨w.heap.size+1,3,none⟩=some x3∧((((((ww.setCell ⟨w.heap.size+1,0,none⟩ x0).setCell ⟨w.heap.size+1,1,none⟩ x1).setCell ⟨w.heap.size+1,2,none⟩ x2).setCell ⟨w.heap.size+1,3,none⟩ x3).setCell ⟨w.heap.size+1+1,0,none⟩ y)).cell? ⟨w.heap.size+1+1,0,none⟩=some y∧Kept (fun q=>q=w.heap.size+1∨q=w.heap.size+1+1) ww ((((((ww.setCell ⟨w.heap.size+1,0,none⟩ x0).setCell ⟨w.heap.size+1,1,none⟩ x1).setCell ⟨w.heap.size+1,2,none⟩ x2).setCell ⟨w.heap.size+1,3,none⟩ x3).setCell ⟨w.heap.size+1+1,0,none⟩ y))∧Same0 w ((((((ww.setCell ⟨w.heap.size+1,0,none⟩ x0).setCell ⟨w.heap.size+1,1,none⟩ x1).setCell ⟨w.heap.size+1,2,none⟩ x2).setCell ⟨w.heap.size+1,3,none⟩ x3).setCell ⟨w.heap.size+1+1,0,none⟩ y))):=by
  intro ww x0 x1 x2 x3 y hk
  obtain ⟨h1,h2,h3⟩:=BK.out ww hk
  have s3:=setAt (setAt (setAt (setAt h2 0 x0) 1 x1) 2 x2) 3 x3
  have k1:=Kept.setCell (p:=⟨w.heap.size+1,0,none⟩) (Kept.refl (fun q=>q=w.heap.size+1) ww) (fun _=>rfl) x0
  have k2:=Kept.setCell (p:=⟨w.heap.size+1,1,none⟩) k1 (fun _=>rfl) x1
  have k3:=Kept.setCell (p:=⟨w.heap.size+1,2,none⟩) k2 (fun _=>rfl) x2
  have k4:=Kept.setCell (p:=⟨w.heap.size+1,3,none⟩) k3 (fun _=>rfl) x3
  have h3' := k4.at h3 (fun e=>by omega)
  have s4:=setAt h3' 0 y
  have k5:=Kept.setCell (p:=⟨w.heap.size+1+1,0,none⟩) (Kept.refl (fun q=>q=w.heap.size+1+1) ((((ww.setCell ⟨w.heap.size+1,0,none⟩ x0).setCell ⟨w.heap.size+1,1,none⟩ x1).setCell ⟨w.heap.size+1,2,none⟩ x2).setCell ⟨w.heap.size+1,3,none⟩ x3)) (fun _=>rfl) y
  have s3' := k5.at s3 (fun e=>by omega)
  have kk:Kept (fun q=>q=w.heap.size+1∨q=w.heap.size+1+1) ww ((((((ww.setCell ⟨w.heap.size+1,0,none⟩ x0).setCell ⟨w.heap.size+1,1,none⟩ x1).setCell ⟨w.heap.size+1,2,none⟩ x2).setCell ⟨w.heap.size+1,3,none⟩ x3).setCell ⟨w.heap.size+1+1,0,none⟩ y)):=Kept.trans (k4.mono (fun _ _ e=>.inl e)) k5 (fun _ _ e=>.inr e)
  exact ⟨cellAt s3' 0,cellAt s3' 1,cellAt s3' 2,cellAt s3' 3,cellAt s4 0,kk,Kept.trans (KW.trans' hk) kk (fun i hi e=>by omega)⟩
 clear h
 have C1:=CS.out W1 KW
 cases hd:defB L n with
 | false=>
  have FIN:Hid (∀ ww v,Same0 w ww→FltAt ww [(80,0)] v→BldPost L R n w (.returned (.tuple #[zeroC,v])) ww):=fun ww v hk hf=>⟨hk,by rw [hd];exact ⟨v,rfl,hf⟩⟩
  have CD:Hid (∀ ww bt,Same0 W1 ww→Sg ww.heap.size ww bt L→Calls Tryz.prog 69 #[.pointer (some ⟨bt,0,none⟩),.int .i64 n] ww fun e w' => e=.returned (.bool false)∧Same0 ww w'):=fun ww bt hk hs=>by rw [← hd];exact tdef_any hs n
  clear hd
  go_enter Tryz.func35,Tryz.ntmps35
  go_upto_region 1 with fail
  rw [← hW1]
  clear hW1
  go_upto_region 4 with (first | (go_at_call 50;refine C1.mono ?_;rintro e w2 ⟨bt,rfl,hs2,k2⟩))
  obtain ⟨r0,_⟩:=RC.out w2 k2
  have C2:=CD.out w2 bt k2 hs2.out
  go_upto_region 5 with (first | (go_at_call 69;refine C2.mono ?_;rintro e w3 ⟨rfl,k3⟩))
  have k13:=k2.trans' k3
  have ka:Same0 W1 (w3.alloc (.cells #[.int .i64 80,.int .i64 0,.nilIface] 125)):=Kept.alloc k13 _
  obtain ⟨_,⟨q0,q1,q2,q3⟩,⟨f0,f1,f2,f3⟩,q4,f4⟩:=RC.out _ ka
  have PP:=PUT.out _ (.int .i64 0) (.int .i64 0) (.slice none 0 0) (.slice none 0 0) (.iface 123 (.pointer (some ⟨w3.heap.size,0,none⟩))) ka
  have PH:Hid _:=PP
  clear PP
  go_wp2_with fail
  obtain ⟨g0,g1,g2,g3,g4,kk,ks⟩:=PH.out
  have hf:=kk.at (heap_alloc_new w3 _) (fun e=>by have:=k13.size;omega)
  exact bodyPost_ret (v:=.tuple #[zeroC,.iface 123 (.pointer (some ⟨w3.heap.size,0,none⟩))]) (by simp [results,Tryz.results35,go_sem,g0,g1,g2,g3,g4]) rfl (FIN.out _ _ ks (.inr ⟨by omega,_,_,rfl,hf,rfl⟩))
 | true=>
  obtain ⟨s,hs,rfl⟩:∃ s:Nat,s<L.length∧n=(s:Int):=by
   by_cases hx:n<0∨(L.length:Int)≤n
   ·rw [defB_no hx] at hd;cases hd
   ·exact ⟨n.toNat,by omega,by omega⟩
  have CD:Hid (∀ ww bt,Same0 W1 ww→Sg ww.heap.size ww bt L→Calls Tryz.prog 69 #[.pointer (some ⟨bt,0,none⟩),.int .i64 (s:Int)] ww fun e w' => e=.returned (.bool true)∧Same0 ww w'):=fun ww bt hk hs=>by rw [← hd];exact tdef_any hs _
  have CR:Hid (∀ ww bt,Same0 W1 ww→Sg ww.heap.size ww bt L→Calls Tryz.prog 72 #[.pointer (some ⟨bt,0,none⟩),.pointer (some ⟨b,0,none⟩),.int .i64 (s:Int)] ww fun e w' => ∃ po pc ro rc,e=.returned (.agg #[.pointer (some ⟨bt,0,none⟩),.slice po (rootP L s).length pc,.slice ro (rootR L R s).length rc])∧Hid (NdIn w' L 2001 bt po pc (rootP L s) ro (rootR L R s))∧Same0 ww w'):=fun ww bt hk hg=>rootOf_any hg (HST.out ww (KW.trans' hk)) hs
  have CG:Hid (∀ ww bt po pc ro rc,NdIn ww L 2001 bt po pc (rootP L s) ro (rootR L R s)→Calls Tryz.prog 73 #[.agg #[.pointer (some ⟨bt,0,none⟩),.slice po (rootP L s).length pc,.slice ro (rootR L R s).length rc]] ww (TreeOut ww (treeF L R s))):=fun ww bt po pc ro rc hi=>tgrow_any L 2001 ww bt po pc _ ro rc _ hi
  cases ht:treeF L R s with
  | ok t=>
   rw [ht] at CG
   have CG2:Hid (∀ ww bt po pc ro rc,NdIn ww L 2001 bt po pc (rootP L s) ro (rootR L R s)→Calls Tryz.prog 73 #[.agg #[.pointer (some ⟨bt,0,none⟩),.slice po (rootP L s).length pc,.slice ro (rootR L R s).length rc]] ww fun e w' => ∃ tk tr tpo tpl tpc tko tkl tkc,e=.returned (.agg #[.int .i64 tk,.int .i64 tr,.slice tpo tpl tpc,.slice tko tkl tkc])∧Hid (CsB (fun b=>ww.heap.size≤b) w' 2001 (.agg #[.int .i64 tk,.int .i64 tr,.slice tpo tpl tpc,.slice tko tkl tkc]) t)∧Same0 ww w'):=fun ww bt po pc ro rc hi=>by
    refine (CG.out ww bt po pc ro rc hi).mono ?_
    rintro e w' ⟨v,rfl,h1,h2⟩
    obtain ⟨tk,tr,tpo,tpl,tpc,tko,tkl,tkc,rfl⟩:=h1.shape
    exact ⟨tk,tr,tpo,tpl,tpc,tko,tkl,tkc,rfl,h1,h2⟩
   have FIN:Hid (∀ ww v,Same0 w ww→CsB (fun b=>w.heap.size≤b) ww 2001 v t→BldPost L R (s:Int) w (.returned (.tuple #[v,.nilIface])) ww):=fun ww v hk hf=>⟨hk,by rw [if_pos hd];simp only [Int.toNat_natCast];rw [ht];exact ⟨v,rfl,hf⟩⟩
   clear hd CG ht
   go_enter_defers Tryz.func35,Tryz.ntmps35
   go_upto_region 1 with fail
   rw [← hW1]
   clear hW1
   go_upto_region 4 with (first | (go_at_call 50;refine C1.mono ?_;rintro e w2 ⟨bt,rfl,hs2,k2⟩))
   obtain ⟨r0,_⟩:=RC.out w2 k2
   have C2:=CD.out w2 bt k2 hs2.out
   go_upto_region 7 with (first | (go_at_call 69;refine C2.mono ?_;rintro e w3 ⟨rfl,k3⟩))
   have k13:=k2.trans' k3
   obtain ⟨r3,_⟩:=RC.out w3 k13
   have C3:=CR.out w3 bt k13 (sg_up (hs2.out.same k3) k3.size)
   go_wp2_with (first
    | (go_at_call 72;refine C3.mono ?_;rintro e w4 ⟨po,pc,ro,rc,rfl,hi,k4⟩;have C4:=CG2.out w4 bt po pc ro rc hi.out)
    | (go_at_call 73;refine C4.mono ?_;rintro e w5 ⟨tk,tr,tpo,tpl,tpc,tko,tkl,tkc,rfl,hcs,k5⟩;have k15:=(k13.trans' k4).trans' k5;obtain ⟨_,⟨q0,q1,q2,q3⟩,⟨f0,f1,f2,f3⟩,q4,f4⟩:=RC.out _ k15))
   have PH:Hid _:=PUT.out w5 (.int .i64 tk) (.int .i64 tr) (.slice tpo tpl tpc) (.slice tko tkl tkc) .nilIface k15
   refine leaves_cons (f:=70) (args:=#[.pointer (some ⟨w.heap.size,0,none⟩),.pointer (some ⟨w.heap.size+1+1,0,none⟩)]) (by simp) (by simp [go_sem]) ?_
   refine (catch_none _).mono ?_
   rintro e u' w'' ⟨rfl,rfl,rfl⟩
   obtain ⟨g0,g1,g2,g3,g4,kk,ks⟩:=PH.out
   have z4:=(k13.trans' k4).size
   simp [Leaves,settle,results,Tryz.results35,go_sem,g0,g1,g2,g3,g4]
   exact FIN.out _ _ ks (CsB.mono (fun b hb q=>by have:w4.heap.size≤b:=q;omega) (CsB.kept kk (fun b q e=>by have:w4.heap.size≤b:=q;omega) hcs.out))
  | error z=>
   rw [ht] at CG
   have hz:0≤z:=by
    refine growF_err (fun x hx=>?_) ht
    obtain ⟨y,hy,rfl⟩:=List.mem_map.1 hx
    obtain ⟨j,hj,rfl,_⟩:=rows_fact hok hy
    show (0:Int)≤(j:Int)
    omega
   have CG2:Hid (∀ ww bt po pc ro rc,NdIn ww L 2001 bt po pc (rootP L s) ro (rootR L R s)→Calls Tryz.prog 73 #[.agg #[.pointer (some ⟨bt,0,none⟩),.slice po (rootP L s).length pc,.slice ro (rootR L R s).length rc]] ww fun e w' => ∃ k,e=.panicked [{ v:=.iface 123 (.pointer (some ⟨k,0,none⟩)),recovered:=false }]∧Hid (w'.heap[k]? = some (.cells #[.int .i64 82,.int .i64 z,.nilIface] 125 (0,0)))∧Same0 ww w'):=fun ww bt po pc ro rc hi=>by
    refine (CG.out ww bt po pc ro rc hi).mono ?_
    rintro e w' ⟨⟨k,h1,h2⟩,h3⟩
    exact ⟨k,h1,h2,h3⟩
   have FIN:Hid (∀ ww v,Same0 w ww→FltAt ww [(81,(s:Int)),(82,z)] v→BldPost L R (s:Int) w (.returned (.tuple #[zeroC,v])) ww):=fun ww v hk hf=>⟨hk,by rw [if_pos hd];simp only [Int.toNat_natCast];rw [ht];exact ⟨v,rfl,hf⟩⟩
   clear hd CG ht
   go_enter_defers Tryz.func35,Tryz.ntmps35
   go_upto_region 1 with fail
   rw [← hW1]
   clear hW1
   go_upto_region 4 with (first | (go_at_call 50;refine C1.mono ?_;rintro e w2 ⟨bt,rfl,hs2,k2⟩))
   obtain ⟨r0,_⟩:=RC.out w2 k2
   have C2:=CD.out w2 bt k2 hs2.out
   go_upto_region 7 with (first | (go_at_call 69;refine C2.mono ?_;rintro e w3 ⟨rfl,k3⟩))
   have k13:=k2.trans' k3
   obtain ⟨r3,_⟩:=RC.out w3 k13
   have C3:=CR.out w3 bt k13 (sg_up (hs2.out.same k3) k3.size)
   go_wp2_with (first
    | (go_at_call 72;refine C3.mono ?_;rintro e w4 ⟨po,pc,ro,rc,rfl,hi,k4⟩;have C4:=CG2.out w4 bt po pc ro rc hi.out)
    | (go_at_call 73;refine C4.mono ?_;rintro e w5 ⟨k,rfl,hk,k5⟩))
   have k15:=(k13.trans' k4).trans' k5
   obtain ⟨x0,⟨q0,q1,q2,q3⟩,⟨f0,f1,f2,f3⟩,q4,f4⟩:=RC.out _ k15
   obtain ⟨b1,b2,b3⟩:=BK.out w5 k15
   refine leaves_cons (f:=70) (args:=#[.pointer (some ⟨w.heap.size,0,none⟩),.pointer (some ⟨w.heap.size+1+1,0,none⟩)]) (by simp) (by simp [go_sem]) ?_
   refine (catch_fork k w5 x0 b3 (by omega)).mono ?_
   rintro e u' w6 ⟨rfl,rfl,q,h1,h2,k6⟩
   have b2' := k6.at b2 (fun e=>by omega)
   have g0:=cellAt b2' 0
   have g1:=cellAt b2' 1
   have g2:=cellAt b2' 2
   have g3:=cellAt b2' 3
   have g4:=cellAt h2 0
   simp only [List.getElem?_toArray,List.getElem?_cons_zero,List.getElem?_cons_succ] at g0 g1 g2 g3 g4
   have hk6:=k6.at hk.out (fun e=>by subst e;have:=hk.out;rw [b3] at this;cases this)
   have ks:Same0 w w6:=Kept.trans (KW.trans' k15) k6 (fun i hi e=>by omega)
   simp [Leaves,settle,results,Tryz.results35,go_sem,g0,g1,g2,g3,g4]
   exact FIN.out _ _ ks (.inr ⟨by omega,q,_,rfl,h1,.inr ⟨by omega,k,_,rfl,hk6,rfl⟩⟩)
end Go.Proofs.YtdhiiicppcgkbaaGreat
