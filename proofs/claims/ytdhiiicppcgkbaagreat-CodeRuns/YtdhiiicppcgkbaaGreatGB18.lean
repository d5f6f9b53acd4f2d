import Derived.Test.YtdhiiicppcgkbaaGreatGB17
import Derived.Test.YtdhiiicppcgkbaaGreatGB15
namespace Go.Proofs.YtdhiiicppcgkbaaGreat
set_option maxRecDepth 100000
set_option linter.unusedVariables false
open Go.RowKit
attribute [local go_sem ↓] Go.wp_at_zero Go.wp_at_succ
def caseG:List I3→Nat→Int→Nat × Bool
 | [],i,_=>(i,false)
 | x :: r,i,s=>if x.1=2 then (if x.2.1=s then (i,true) else caseG r (i+1) s) else (i,false)
def caseF (I:List I3) (s:Int) (a:Nat):Nat × Bool:=caseG (I.drop a) a s
theorem caseF_step {I:List I3} {s:Int} {a:Nat} (h:a<I.length):caseF I s a=if I[a].1=2 then (if I[a].2.1=s then (a,true) else caseF I s (a+1)) else (a,false):=by
 unfold caseF
 rw [List.drop_eq_getElem_cons h,caseG]
theorem caseF_end {I:List I3} {s:Int} {a:Nat} (h:I.length≤a):caseF I s a=(a,false):=by
 unfold caseF
 rw [List.drop_eq_nil_of_le h,caseG]
theorem caseG_le:∀ (l:List I3) (i:Nat) (s:Int),i≤(caseG l i s).1∧(caseG l i s).1≤i+l.length∧((caseG l i s).2=true→(caseG l i s).1<i+l.length)
 | [],i,s=>by simp [caseG]
 | x :: r,i,s=>by
  unfold caseG
  split
  ·split
   ·simp
   ·obtain ⟨a,b,c⟩:=caseG_le r (i+1) s
    refine ⟨by omega,by simp only [List.length_cons];omega,fun h=>?_⟩
    have:=c h
    simp only [List.length_cons];omega
  ·simp
theorem caseF_le {I:List I3} {s:Int} {a:Nat} (h:a≤I.length):a≤(caseF I s a).1∧(caseF I s a).1≤I.length∧((caseF I s a).2=true→(caseF I s a).1<I.length):=by
 obtain ⟨x,y,z⟩:=caseG_le (I.drop a) a s
 rw [List.length_drop] at y z
 refine ⟨x,by unfold caseF;omega,fun q=>?_⟩
 have:=z q
 unfold caseF;omega
def hasB (E:List Int) (n:Int):Bool:=idxB n E.length && decide (0≤E.getD n.toNat (-1))
abbrev R5:=Int × Int × List Int × Int × Int
def bad5:R5:=(0,0,[],0,92)
def lookF (L:List Sym) (ok:Bool) (T:List Int) (I:List I3) (E:List Int) (node:Int) (a:Nat) (p:List Int):R5 ⊕ Int:=
 if (caseF I (headI ok T (wayI L ok T node p)) (a+1)).2=true then
  (if (I.getD (caseF I (headI ok T (wayI L ok T node p)) (a+1)).1 (0,0,0)).2.2≤((caseF I (headI ok T (wayI L ok T node p)) (a+1)).1:Int) then .inl bad5 else .inr (I.getD (caseF I (headI ok T (wayI L ok T node p)) (a+1)).1 (0,0,0)).2.2)
 else if hasB E (headI ok T (wayI L ok T node p))=true then .inl (3,0,p,wayI L ok T node p,0) else .inr ((caseF I (headI ok T (wayI L ok T node p)) (a+1)).1:Int)
def runF (L:List Sym) (ok:Bool) (T:List Int) (I:List I3) (P:List (List Int)) (E:List Int) (node:Int):Nat→Nat→R5
 | 0,_=>bad5
 | f+1,a=>match I[a]? with
  | none=>bad5
  | some x=>if x.1=4 then (1,x.2.1,[],0,0) else if x.1=3 then (2,0,[],0,0)
   else if x.1=1∧idxB x.2.1 P.length=true then (match lookF L ok T I E node a (P.getD x.2.1.toNat []) with
    | .inl r=>r
    | .inr z=>runF L ok T I P E node f z.toNat)
   else bad5
theorem lookF_gt {L:List Sym} {ok:Bool} {T:List Int} {I:List I3} {E:List Int} {node:Int} {a:Nat} {p:List Int} (h:a<I.length) {z:Int} (hz:lookF L ok T I E node a p=.inr z):(a:Int)<z:=by
 unfold lookF at hz
 obtain ⟨x,_,_⟩:=caseF_le (I:=I) (s:=headI ok T (wayI L ok T node p)) (a:=a+1) (by omega)
 split at hz
 ·split at hz
  ·cases hz
  ·cases hz;omega
 ·split at hz
  ·cases hz
  ·cases hz;omega
theorem runF_more {L:List Sym} {ok:Bool} {T:List Int} {I:List I3} {P:List (List Int)} {E:List Int} {node:Int}:∀ (f g a:Nat),I.length<a+f→f≤g→runF L ok T I P E node f a=runF L ok T I P E node g a
 | 0,g,a,h,hg=>by
  cases g with
  | zero=>rfl
  | succ g=>
   rw [runF,runF,List.getElem?_eq_none (by omega)]
 | f+1,0,a,h,hg=>by omega
 | f+1,g+1,a,h,hg=>by
  rw [runF,runF]
  cases hi:I[a]? with
  | none=>rfl
  | some x=>
   have ha:a<I.length:=by
    rcases Nat.lt_or_ge a I.length with q | q
    ·exact q
    ·rw [List.getElem?_eq_none q] at hi;cases hi
   simp only
   split
   ·rfl
   ·split
    ·rfl
    ·split
     ·cases hl:lookF L ok T I E node a (P.getD x.2.1.toNat []) with
      | inl r=>rfl
      | inr z=>
       have:=lookF_gt ha hl
       exact runF_more f g z.toNat (by omega) (by omega)
     ·rfl
def codeF (L:List Sym) (ok:Bool) (T:List Int) (I:List I3) (P:List (List Int)) (E:List Int) (n node:Int):R5:=
 if hasB E n=true then runF L ok T I P E node (I.length+1) (E.getD n.toNat (-1)).toNat else (0,0,[],0,90)
def InsAt (w:World) (io:Option Addr) (I:List I3):Prop:=
 I=[]∨∃ b off,io=some ⟨b,off,none⟩∧b<w.heap.size∧∀ i (h:i<I.length),w.cell? ⟨b,off+i * 3,none⟩=some (.int .i64 I[i].1)∧w.cell? ⟨b,off+i * 3+1,none⟩=some (.int .i64 I[i].2.1)∧w.cell? ⟨b,off+i * 3+2,none⟩=some (.int .i64 I[i].2.2)
theorem InsAt.same {w w' : World} {io:Option Addr} {I:List I3} (h:InsAt w io I) (hk:Same0 w w'):InsAt w' io I:=by
 refine h.imp id ?_
 rintro ⟨b,off,e,hb,hc⟩
 refine ⟨b,off,e,Nat.lt_of_lt_of_le hb hk.size,fun i hi=>?_⟩
 obtain ⟨c0,c1,c2⟩:=hc i hi
 exact ⟨(hk.cell (p:=⟨b,off+i * 3,none⟩) hb (fun f=>f)).trans c0,(hk.cell (p:=⟨b,off+i * 3+1,none⟩) hb (fun f=>f)).trans c1,(hk.cell (p:=⟨b,off+i * 3+2,none⟩) hb (fun f=>f)).trans c2⟩
theorem InsAt.get {w:World} {io:Option Addr} {I:List I3} (h:InsAt w io I) {i:Nat} (hi:i<I.length):∃ b off,io=some ⟨b,off,none⟩∧b<w.heap.size∧w.cell? ⟨b,off+i * 3,none⟩=some (.int .i64 I[i].1)∧w.cell? ⟨b,off+i * 3+1,none⟩=some (.int .i64 I[i].2.1)∧w.cell? ⟨b,off+i * 3+2,none⟩=some (.int .i64 I[i].2.2):=by
 rcases h with rfl | ⟨b,off,e,hb,hc⟩
 ·simp at hi
 ·exact ⟨b,off,e,hb,hc i hi⟩
def PthAt (w:World) (po:Option Addr) (P:List (List Int)):Prop:=
 P=[]∨∃ b off,po=some ⟨b,off,none⟩∧b<w.heap.size∧∀ i (h:i<P.length),∃ ao ac,w.cell? ⟨b,off+i,none⟩=some (.slice ao P[i].length ac)∧Arg w ao P[i] ac
theorem PthAt.same {w w' : World} {po:Option Addr} {P:List (List Int)} (h:PthAt w po P) (hk:Same0 w w'):PthAt w' po P:=by
 refine h.imp id ?_
 rintro ⟨b,off,e,hb,hc⟩
 refine ⟨b,off,e,Nat.lt_of_lt_of_le hb hk.size,fun i hi=>?_⟩
 obtain ⟨ao,ac,c0,c1⟩:=hc i hi
 exact ⟨ao,ac,(hk.cell (p:=⟨b,off+i,none⟩) hb (fun f=>f)).trans c0,c1.same hk⟩
theorem PthAt.get {w:World} {po:Option Addr} {P:List (List Int)} (h:PthAt w po P) {i:Nat} (hi:i<P.length):∃ b off ao ac,po=some ⟨b,off,none⟩∧b<w.heap.size∧w.cell? ⟨b,off+i,none⟩=some (.slice ao P[i].length ac)∧Arg w ao P[i] ac:=by
 rcases h with rfl | ⟨b,off,e,hb,hc⟩
 ·simp at hi
 ·obtain ⟨ao,ac,c0,c1⟩:=hc i hi
  exact ⟨b,off,ao,ac,e,hb,c0,c1⟩
def FndOut (w:World) (R:R5) (e:Ending) (w' : World):Prop:=
 ∃ qo qc,e=.returned (.tuple #[.agg #[.int .i64 R.1,.int .i64 R.2.1,.slice qo R.2.2.1.length qc,.int .i64 R.2.2.2.1],.int .i64 R.2.2.2.2])∧Row w.heap.size w' (.slice qo R.2.2.1.length qc) R.2.2.1∧Same0 w w'
set_option maxHeartbeats 2000000 in
theorem chas_any {w:World} {eo:Option Addr} {E:List Int} (hE:IntsAt w eo E) (io po ro:Option Addr) (il ic pl pc ec rl rc:Nat) (n:Int) :
  Calls Tryz.prog 64 #[.agg #[.slice io il ic,.slice po pl pc,.slice eo E.length ec,.slice ro rl rc],.int .i64 n] w fun e w' => e=.returned (.bool (hasB E n))∧Same0 w w' := by
 have CI:=isIndex_any n E.length
 have ka:Same0 w (w.alloc (.cells #[.slice io il ic,.slice po pl pc,.slice eo E.length ec,.slice ro rl rc] 45)):=(Kept.refl _ w).alloc _
 cases hi:idxB n E.length with
 | false=>
  rw [hi] at CI
  have H:Hid (hasB E n=false):=by show _=_;simp [hasB,hi]
  clear hi hE
  go_enter Tryz.func64,Tryz.ntmps64
  go_wp2_with (first | (go_at_call 56;refine (CI _).mono ?_;rintro e w2 ⟨rfl,rfl⟩))
  go_ret
  exact ⟨by rw [H.out];rfl,ka⟩
 | true=>
  rw [hi] at CI
  obtain ⟨i,rfl,hl⟩:=idx_yes hi
  have H:Hid (hasB E (i:Int)=decide (0≤E[i])):=by
   show _=_
   simp [hasB,hi,hl]
  obtain ⟨b,off,rfl,hb,hcell⟩:=(hE.same ka).get hl
  have i1:(0:Int)≤(i:Int):=by omega
  have i2:(i:Int)<(E.length:Int):=by omega
  clear hi hE
  generalize E[i]=z at *
  go_enter Tryz.func64,Tryz.ntmps64
  go_wp2_with (first | (go_at_call 56;refine (CI _).mono ?_;rintro e w2 ⟨rfl,rfl⟩))
  go_ret
  exact ⟨by rw [H.out];rfl,ka⟩
set_option maxHeartbeats 4000000 in
theorem ccase_any {w:World} {io:Option Addr} {I:List I3} (hI:InsAt w io I) (hl:I.length≤140737488355328) (ic:Nat) (po eo ro:Option Addr) (pl pc el ec rl rc:Nat) (v:Value) (node s:Int) (a:Nat) (ha:a≤I.length) :
  Calls Tryz.prog 140 #[.agg #[.slice io I.length ic,.slice po pl pc,.slice eo el ec,.slice ro rl rc,.iface 70 v,.int .i64 node],.int .i64 s,.int .i64 (a:Int)] w fun e w' => e=.returned (.tuple #[.int .i64 ((caseF I s a).1:Int),.bool (caseF I s a).2])∧Same0 w w' := by
 obtain ⟨W1,hW1⟩:∃ W1,W1=w.alloc (.cells #[.slice io I.length ic,.slice po pl pc,.slice eo el ec,.slice ro rl rc,.iface 70 v,.int .i64 node] 151):=⟨_,rfl⟩
 have ka:Same0 w W1:=by rw [hW1];exact (Kept.refl _ w).alloc _
 have hbx:W1.heap[w.heap.size]? = some (.cells #[.slice io I.length ic,.slice po pl pc,.slice eo el ec,.slice ro rl rc,.iface 70 v,.int .i64 node] 151 (0,0)):=by rw [hW1];exact heap_alloc_new _ _
 have x0:=cellAt hbx 0
 simp only [List.getElem?_toArray,List.getElem?_cons_zero] at x0
 have hI1:=hI.same ka
 clear hI hbx
 go_enter Tryz.func140,Tryz.ntmps140
 go_upto_region 1 with fail
 rw [← hW1]
 clear hW1
 go_loop [2] (fun s2=>∃ k:Nat,k≤I.length∧s2=.int .i64 (k:Int)∧Hid (caseF I s a=caseF I s k)) (fun s2=>I.length-(intOf s2).toNat)
 case atStart=>exact ⟨a,ha,rfl,rfl⟩
 case round=>
  clear ha
  obtain ⟨k,hk,rfl,hF⟩:=hrel
  by_cases hlt:k<I.length
  ·obtain ⟨b,off,rfl,hb,c0,c1,c2⟩:=hI1.get hlt
   have i1:(0:Int)≤(k:Int):=by omega
   have i2:(k:Int)<(I.length:Int):=by omega
   by_cases ho:I[k].1=2
   ·rw [ho] at c0
    by_cases hs:I[k].2.1=s
    ·have H:Hid (caseF I s a=(k,true)):=by rw [hF.out];show _=_;rw [caseF_step hlt,if_pos ho,if_pos hs]
     rw [hs] at c1
     clear hF ho hs
     go_wp2_with fail
     go_ret2
     exact ⟨by rw [H.out];rfl,ka⟩
    ·have H:Hid (caseF I s a=caseF I s (k+1)):=by rw [hF.out];show _=_;rw [caseF_step hlt,if_pos ho,if_neg hs]
     have hs' : (I[k].2.1 == s)=false:=by simpa using hs
     generalize I[k].2.1=z at *
     clear hF ho hs
     go_wp2_with fail
     exact ⟨⟨k+1,by omega,by go_num,H⟩,by simp [intOf];omega⟩
   ·have H:Hid (caseF I s a=(k,false)):=by rw [hF.out];show _=_;rw [caseF_step hlt,if_neg ho]
    have ho' : (I[k].1 == 2)=false:=by simpa using ho
    generalize I[k].1=z at *
    clear hF ho
    go_wp2_with fail
    go_ret2
    exact ⟨by rw [H.out];rfl,ka⟩
  ·have H:Hid (caseF I s a=(k,false)):=by rw [hF.out];exact caseF_end (by omega)
   clear hF
   go_wp2_with fail
   go_ret2
   exact ⟨by rw [H.out];rfl,ka⟩
theorem lookF_of {L:List Sym} {ok:Bool} {T:List Int} {I:List I3} {E:List Int} {node:Int} {a:Nat} {p:List Int} {nd s:Int} {j:Nat} {has:Bool} (hnd:wayI L ok T node p=nd) (hs:headI ok T nd=s) (hJ:caseF I s (a+1)=(j,has)):lookF L ok T I E node a p=if has=true then (if (I.getD j (0,0,0)).2.2≤(j:Int) then .inl bad5 else .inr (I.getD j (0,0,0)).2.2) else if hasB E s=true then .inl (3,0,p,nd,0) else .inr (j:Int):=by
 subst hnd
 subst hs
 unfold lookF
 rw [hJ]
def LookOut (w:World) (r:R5 ⊕ Int) (e:Ending) (w' : World):Prop:=
 match r with
 | .inl R=>∃ qo qc,e=.returned (.tuple #[.agg #[.int .i64 R.1,.int .i64 R.2.1,.slice qo R.2.2.1.length qc,.int .i64 R.2.2.2.1],.int .i64 0,.int .i64 R.2.2.2.2])∧Row w.heap.size w' (.slice qo R.2.2.1.length qc) R.2.2.1∧Same0 w w'
 | .inr z=>e=.returned (.tuple #[.agg #[.int .i64 0,.int .i64 0,.slice none 0 0,.int .i64 0],.int .i64 z,.int .i64 0])∧Same0 w w'
set_option maxHeartbeats 16000000 in
theorem look_any {base:Nat} {w:World} {L:List Sym} {ok:Bool} {T:List Int} {ho:Option Addr} {hn hc:Nat} {go:Option Addr} {gn gc:Nat} (hv:VwAt base w L ok T (.agg #[.slice ho hn hc,.slice go gn gc])) {io:Option Addr} {I:List I3} (hI:InsAt w io I) (hl:I.length≤140737488355328) {eo:Option Addr} {E:List Int} (hE:IntsAt w eo E) {qo:Option Addr} {qc:Nat} {p:List Int} (hp:Arg w qo p qc) (ic ec:Nat) (po ro:Option Addr) (pl pc rl rc:Nat) (node:Int) (a:Nat) (ha:a<I.length) :
  Calls Tryz.prog 106 #[.agg #[.slice io I.length ic,.slice po pl pc,.slice eo E.length ec,.slice ro rl rc,.iface 70 (.agg #[.slice ho hn hc,.slice go gn gc]),.int .i64 node],.int .i64 (a:Int),.slice qo p.length qc] w (LookOut w (lookF L ok T I E node a p)):=by
 have hmx:p.length≤maxLen:=by have:=hp.size;unfold maxLen;omega
 obtain ⟨W1,hW1⟩:∃ W1,W1=(w.alloc (.cells #[.slice io I.length ic,.slice po pl pc,.slice eo E.length ec,.slice ro rl rc,.iface 70 (.agg #[.slice ho hn hc,.slice go gn gc]),.int .i64 node] 151)).alloc (.cells #[.int .i64 0,.int .i64 0,.slice none 0 0,.int .i64 0] 73):=⟨_,rfl⟩
 have KW:Same0 w W1:=by rw [hW1];exact ((Kept.refl _ w).alloc _).alloc _
 have hbx:W1.heap[w.heap.size]? = some (.cells #[.slice io I.length ic,.slice po pl pc,.slice eo E.length ec,.slice ro rl rc,.iface 70 (.agg #[.slice ho hn hc,.slice go gn gc]),.int .i64 node] 151 (0,0)):=by rw [hW1];exact heap_alloc2_old _ _ _
 have hfd:W1.heap[w.heap.size+1]? = some (.cells #[.int .i64 0,.int .i64 0,.slice none 0 0,.int .i64 0] 73 (0,0)):=by rw [hW1];exact heap_al_al _ _ _
 have BX:Hid (∀ ww,Same0 W1 ww→ww.cell? ⟨w.heap.size,0,none⟩=some (.slice io I.length ic)∧ww.cell? ⟨w.heap.size,1,none⟩=some (.slice po pl pc)∧ww.cell? ⟨w.heap.size,2,none⟩=some (.slice eo E.length ec)∧ww.cell? ⟨w.heap.size,3,none⟩=some (.slice ro rl rc)∧ww.cell? ⟨w.heap.size,4,none⟩=some (.iface 70 (.agg #[.slice ho hn hc,.slice go gn gc]))∧ww.cell? ⟨w.heap.size,5,none⟩=some (.int .i64 node)):=fun ww hk=>by
  have:=hk.at0 hbx
  exact ⟨cellAt this 0,cellAt this 1,cellAt this 2,cellAt this 3,cellAt this 4,cellAt this 5⟩
 have RC:Hid (∀ ww,Same0 W1 ww→(ww.cell? ⟨w.heap.size+1,0,none⟩=some (.int .i64 0)∧ww.cell? ⟨w.heap.size+1,1,none⟩=some (.int .i64 0)∧ww.cell? ⟨w.heap.size+1,2,none⟩=some (.slice none 0 0)∧ww.cell? ⟨w.heap.size+1,3,none⟩=some (.int .i64 0))∧ww.frozen? ⟨w.heap.size+1,0,none⟩=false∧ww.frozen? ⟨w.heap.size+1,1,none⟩=false∧ww.frozen? ⟨w.heap.size+1,2,none⟩=false∧ww.frozen? ⟨w.heap.size+1,3,none⟩=false):=fun ww hk=>by
  have:=hk.at0 hfd
  exact ⟨⟨cellAt this 0,cellAt this 1,cellAt this 2,cellAt this 3⟩,frozenAt this 0,frozenAt this 1,frozenAt this 2,frozenAt this 3⟩
 have PUT:Hid (∀ ww x0 x1 x2 x3,Same0 W1 ww→(((((ww.setCell ⟨w.heap.size+1,0,none⟩ x0).setCell ⟨w.heap.size+1,1,none⟩ x1).setCell ⟨w.heap.size+1,2,none⟩ x2).setCell ⟨w.heap.size+1,3,none⟩ x3).cell? ⟨w.heap.size+1,0,none⟩=some x0∧((((ww.setCell ⟨w.heap.size+1,0,none⟩ x0).setCell ⟨w.heap.size+1,1,none⟩ x1).setCell ⟨w.heap.size+1,2,none⟩ x2).setCell ⟨w.heap.size+1,3,none⟩ x3).cell? ⟨w.heap.size+1,1,none⟩=some x1∧((((ww.setCell ⟨w.heap.size+1,0,none⟩ x0).setCell ⟨w.heap.size+1,1,none⟩ x1).setCell ⟨w.heap.size+1,2,none⟩ x2).setCell ⟨w.heap.size+1,3,none⟩ x3).cell? ⟨w.heap.size+1,2,none⟩=some x2∧((((ww.setCell ⟨w.heap.size+1,0,none⟩ x0).setCell ⟨w.heap.size+1,1,none⟩ x1).setCell ⟨w.heap.size+1,2,none⟩ x2).setCell ⟨w.heap.size+1,3,none⟩ x3).cell? ⟨w.heap.size+1,3,none⟩=some x3)∧Kept (fun q=>q=w.heap.size+1) ww ((((ww.setCell ⟨w.heap.size+1,0,none⟩ x0).setCell ⟨w.heap.size+1,1,none⟩ x1).setCell ⟨w.heap.size+1,2,none⟩ x2).setCell ⟨w.heap.size+1,3,none⟩ x3)∧Same0 w ((((ww.setCell ⟨w.heap.size+1,0,none⟩ x0).setCell ⟨w.heap.size+1,1,none⟩ x1).setCell ⟨w.heap.size+1,2,none⟩ x2).setCell ⟨w.heap.size+1,3,none⟩ x3)):=by
  intro ww x0 x1 x2 x3 hk
  have rs:=hk.at0 hfd
  have s3:=setAt (setAt (setAt (setAt rs 0 x0) 1 x1) 2 x2) 3 x3
  have k1:=kept_at ww (w.heap.size+1) 0 x0
  have k2:=Kept.trans k1 (kept_at _ (w.heap.size+1) 1 x1) (fun _ _ e=>e)
  have k3:=Kept.trans k2 (kept_at _ (w.heap.size+1) 2 x2) (fun _ _ e=>e)
  have k4:=Kept.trans k3 (kept_at _ (w.heap.size+1) 3 x3) (fun _ _ e=>e)
  exact ⟨⟨cellAt s3 0,cellAt s3 1,cellAt s3 2,cellAt s3 3⟩,k4,Kept.trans (KW.trans' hk) k4 (fun i hi e=>by omega)⟩
 have CK:Hid (∀ ww,Same0 w ww→Calls Tryz.prog 139 #[.agg #[.slice io I.length ic,.slice po pl pc,.slice eo E.length ec,.slice ro rl rc,.iface 70 (.agg #[.slice ho hn hc,.slice go gn gc]),.int .i64 node],.slice qo p.length qc] ww fun e w' => e=.returned (.tuple #[.int .i64 (wayI L ok T node p),.int .i64 (headI ok T (wayI L ok T node p)),.bool false,.int .i64 0])∧Same0 ww w'):=fun ww hk=>cask_any (hv.same hk) (hp.at'.same hk) hmx _ _ _ _ _ _ _ _ _ _ _ _ node
 have CO:Hid (∀ ww s,Same0 w ww→Calls Tryz.prog 140 #[.agg #[.slice io I.length ic,.slice po pl pc,.slice eo E.length ec,.slice ro rl rc,.iface 70 (.agg #[.slice ho hn hc,.slice go gn gc]),.int .i64 node],.int .i64 s,.int .i64 ((a:Int)+1)] ww fun e w' => e=.returned (.tuple #[.int .i64 ((caseF I s (a+1)).1:Int),.bool (caseF I s (a+1)).2])∧Same0 ww w'):=fun ww s hk=>ccase_any (hI.same hk) hl _ _ _ _ _ _ _ _ _ _ _ node s (a+1) (by omega)
 have CB:Hid (∀ ww n,Same0 w ww→Calls Tryz.prog 64 #[.agg #[.slice io I.length ic,.slice po pl pc,.slice eo E.length ec,.slice ro rl rc],.int .i64 n] ww fun e w' => e=.returned (.bool (hasB E n))∧Same0 ww w'):=fun ww n hk=>chas_any (hE.same hk) _ _ _ _ _ _ _ _ _ _ n
 have CC:Hid (∀ ww,Same0 w ww→Calls Tryz.prog 77 #[.slice qo p.length qc] ww fun e w' => ∃ zo zc,e=.returned (.slice zo p.length zc)∧Hid (Row ww.heap.size w' (.slice zo p.length zc) p)∧Same0 ww w'):=fun ww hk=>by
  refine (cloneI_any (hp.same hk)).mono ?_
  rintro e w' ⟨v,rfl,hr,hk'⟩
  obtain ⟨zo,zc,rfl,_⟩:=hr.ints
  exact ⟨zo,zc,rfl,hr,hk'⟩
 have HI:Hid (∀ ww j (hj:j<I.length),Same0 w ww→∃ b off,io=some ⟨b,off,none⟩∧ww.cell? ⟨b,off+j * 3+2,none⟩=some (.int .i64 I[j].2.2)):=fun ww j hj hk=>by
  obtain ⟨b,off,e,_,_,_,h2⟩:=(hI.same hk).get hj
  exact ⟨b,off,e,h2⟩
 have C1:=CK.out W1 KW
 obtain ⟨x0,x1,x2,x3,x4,x5⟩:=BX.out W1 (Kept.refl _ _)
 have ai:(a:Int)<140737488355328:=by omega
 obtain ⟨nd,hnd⟩:∃ nd,wayI L ok T node p=nd:=⟨_,rfl⟩
 rw [hnd] at C1
 obtain ⟨s,hs⟩:∃ s,headI ok T nd=s:=⟨_,rfl⟩
 rw [hs] at C1
 obtain ⟨cle,cl2,clt⟩:=caseF_le (I:=I) (s:=s) (a:=a+1) (by omega)
 obtain ⟨j,has,hJ⟩:∃ j has,caseF I s (a+1)=(j,has):=⟨_,_,rfl⟩
 have C2:Hid (∀ ww,Same0 w ww→Calls Tryz.prog 140 #[.agg #[.slice io I.length ic,.slice po pl pc,.slice eo E.length ec,.slice ro rl rc,.iface 70 (.agg #[.slice ho hn hc,.slice go gn gc]),.int .i64 node],.int .i64 s,.int .i64 ((a:Int)+1)] ww fun e w' => e=.returned (.tuple #[.int .i64 (j:Int),.bool has])∧Same0 ww w'):=fun ww hk=>by
  have:=CO.out ww s hk
  rw [hJ] at this
  exact this
 have HF:Hid _:=lookF_of (E:=E) hnd hs hJ
 rw [hJ] at cle cl2 clt
 simp only at cle cl2 clt
 have j0:(0:Int)≤(j:Int):=by omega
 clear hJ CO CK hv hI hE hp hbx hfd hnd hs
 cases has with
 | true=>
  have hj:=clt rfl
  obtain ⟨ib,ioff,rfl,_⟩:=HI.out w j hj (Kept.refl _ _)
  have HC:Hid (∀ ww,Same0 w ww→ww.cell? ⟨ib,ioff+j * 3+2,none⟩=some (.int .i64 I[j].2.2)):=fun ww hk=>by
   obtain ⟨b', off', e,h2⟩:=HI.out ww j hj hk
   simp only [Option.some.injEq,Addr.mk.injEq,and_true] at e
   obtain ⟨rfl,rfl⟩:=e
   exact h2
  have eg:I.getD j (0,0,0)=I[j]:=by simp [hj]
  rw [if_pos rfl,eg] at HF
  have j1:(j:Int)<(I.length:Int):=by omega
  generalize I[j].2.2=z at *
  clear HI clt eg CB CC
  by_cases hz:z≤(j:Int)
  ·rw [if_pos hz] at HF
   rw [HF.out]
   clear HF
   go_enter Tryz.func106,Tryz.ntmps106
   go_upto_region 1 with fail
   rw [← hW1]
   clear hW1
   go_wp2_with (first
    | (go_at_call 139;refine C1.mono ?_;rintro e w2 ⟨rfl,k2⟩;have C3:=C2.out w2 (KW.trans' k2);obtain ⟨y0,y1,y2,y3,y4,y5⟩:=BX.out w2 k2)
    | (go_at_call 140;refine C3.mono ?_;rintro e w3 ⟨rfl,k3⟩;have k13:=k2.trans' k3;obtain ⟨z0,z1,z2,z3,z4,z5⟩:=BX.out w3 k13;have cz:=HC.out w3 (KW.trans' k13);obtain ⟨⟨r0,r1,r2,r3⟩,f0,f1,f2,f3⟩:=RC.out w3 k13))
   obtain ⟨⟨g0,g1,g2,g3⟩,kk,ks⟩:=PUT.out w3 (.int .i64 0) (.int .i64 0) (.slice none 0 0) (.int .i64 0) k13
   exact bodyPost_ret (v:=.tuple #[.agg #[.int .i64 0,.int .i64 0,.slice none 0 0,.int .i64 0],.int .i64 0,.int .i64 92]) (by simp [results,Tryz.results106,go_sem,g0,g1,g2,g3]) rfl ⟨none,0,rfl,World.ownsRow_nil _ _ _ _,ks⟩
  ·rw [if_neg hz] at HF
   rw [HF.out]
   have hzd:decide (z≤(j:Int))=false:=by simpa using hz
   clear HF hz
   go_enter Tryz.func106,Tryz.ntmps106
   go_upto_region 1 with fail
   rw [← hW1]
   clear hW1
   go_upto_region 5 with (first
    | (go_at_call 139;refine C1.mono ?_;rintro e w2 ⟨rfl,k2⟩;have C3:=C2.out w2 (KW.trans' k2);obtain ⟨y0,y1,y2,y3,y4,y5⟩:=BX.out w2 k2)
    | (go_at_call 140;refine C3.mono ?_;rintro e w3 ⟨rfl,k3⟩;have k13:=k2.trans' k3;obtain ⟨z0,z1,z2,z3,z4,z5⟩:=BX.out w3 k13;have cz:=HC.out w3 (KW.trans' k13);obtain ⟨⟨r0,r1,r2,r3⟩,f0,f1,f2,f3⟩:=RC.out w3 k13))
   go_upto_region 7 with fail
   go_upto_region 8 with fail
   have PH:Hid _:=PUT.out w3 (.int .i64 0) (.int .i64 0) (.slice none 0 0) (.int .i64 0) k13
   have S0:w3.cell? ⟨w.heap.size,0,none⟩=some (.slice (some ⟨ib,ioff,none⟩) I.length ic)∧w3.cell? ⟨ib,ioff+j * 3+2,none⟩=some (.int .i64 z):=⟨z0,cz⟩
   have S1:Hid ((((((w3.setCell ⟨w.heap.size+1,0,none⟩ (.int .i64 0)).setCell ⟨w.heap.size+1,1,none⟩ (.int .i64 0)).setCell ⟨w.heap.size+1,2,none⟩ (.slice none 0 0)).setCell ⟨w.heap.size+1,3,none⟩ (.int .i64 0))).cell? ⟨w.heap.size,0,none⟩=some (.slice (some ⟨ib,ioff,none⟩) I.length ic)∧(((((w3.setCell ⟨w.heap.size+1,0,none⟩ (.int .i64 0)).setCell ⟨w.heap.size+1,1,none⟩ (.int .i64 0)).setCell ⟨w.heap.size+1,2,none⟩ (.slice none 0 0)).setCell ⟨w.heap.size+1,3,none⟩ (.int .i64 0))).cell? ⟨ib,ioff+j * 3+2,none⟩=some (.int .i64 z)):=by
    obtain ⟨_,kk,_⟩:=PH.out
    have hib:ib<w.heap.size:=World.block_lt_of_cell? w _ (HC.out w (Kept.refl _ _))
    exact ⟨(kk.cell (p:=⟨w.heap.size,0,none⟩) (World.block_lt_of_cell? _ _ z0) (fun e=>by have e' : w.heap.size=w.heap.size+1:=e;omega)).trans z0,(kk.cell (p:=⟨ib,ioff+j * 3+2,none⟩) (World.block_lt_of_cell? _ _ cz) (fun e=>by have e' : ib=w.heap.size+1:=e;omega)).trans cz⟩
   clear y0 y1 y2 y3 y4 y5 z0 z1 z2 z3 z4 z5 cz
   go_region_held3 (fun w' => w'.cell? ⟨w.heap.size,0,none⟩=some (.slice (some ⟨ib,ioff,none⟩) I.length ic)∧w'.cell? ⟨ib,ioff+j * 3+2,none⟩=some (.int .i64 z)) (first | exact S0 | exact S1.out) (fail)
   all_goals
    go_wp2_with fail
    obtain ⟨⟨g0,g1,g2,g3⟩,kk,ks⟩:=PH.out
    exact bodyPost_ret (v:=.tuple #[.agg #[.int .i64 0,.int .i64 0,.slice none 0 0,.int .i64 0],.int .i64 z,.int .i64 0]) (by simp [results,Tryz.results106,go_sem,g0,g1,g2,g3]) rfl ⟨rfl,Kept.drew ks⟩
 | false=>
  have CB2:Hid (∀ ww,Same0 w ww→Calls Tryz.prog 64 #[.agg #[.slice io I.length ic,.slice po pl pc,.slice eo E.length ec,.slice ro rl rc],.int .i64 s] ww fun e w' => e=.returned (.bool (hasB E s))∧Same0 ww w'):=fun ww hk=>CB.out ww s hk
  rw [if_neg (by simp)] at HF
  clear HI clt CB
  cases hb:hasB E s with
  | true=>
   rw [hb] at CB2
   rw [if_pos hb] at HF
   rw [HF.out]
   clear HF hb
   go_enter Tryz.func106,Tryz.ntmps106
   go_upto_region 1 with fail
   rw [← hW1]
   clear hW1
   go_wp2_with (first
    | (go_at_call 139;refine C1.mono ?_;rintro e w2 ⟨rfl,k2⟩;have C3:=C2.out w2 (KW.trans' k2);obtain ⟨y0,y1,y2,y3,y4,y5⟩:=BX.out w2 k2)
    | (go_at_call 140;refine C3.mono ?_;rintro e w3 ⟨rfl,k3⟩;have k13:=k2.trans' k3;obtain ⟨z0,z1,z2,z3,z4,z5⟩:=BX.out w3 k13;have C4:=CB2.out w3 (KW.trans' k13))
    | (go_at_call 64;refine C4.mono ?_;rintro e w4 ⟨rfl,k4⟩;have k14:=k13.trans' k4;have C5:=CC.out w4 (KW.trans' k14))
    | (go_at_call 77;refine C5.mono ?_;rintro e w5 ⟨zo,zc,rfl,hr,k5⟩;have k15:=k14.trans' k5;obtain ⟨⟨r0,r1,r2,r3⟩,f0,f1,f2,f3⟩:=RC.out w5 k15))
   obtain ⟨⟨g0,g1,g2,g3⟩,kk,ks⟩:=PUT.out w5 (.int .i64 3) (.int .i64 0) (.slice zo p.length zc) (.int .i64 nd) k15
   have z5:=(KW.trans' k14).size
   have zz:=k14.size
   have zW:w.heap.size+1<W1.heap.size:=by
    obtain ⟨⟨q0,_⟩,_⟩:=RC.out W1 (Kept.refl _ _)
    exact World.block_lt_of_cell? _ _ q0
   refine bodyPost_ret (v:=.tuple #[.agg #[.int .i64 3,.int .i64 0,.slice zo p.length zc,.int .i64 nd],.int .i64 0,.int .i64 0]) (by simp [results,Tryz.results106,go_sem,g0,g1,g2,g3]) rfl ⟨zo,zc,rfl,?_,ks⟩
   have hr2:=kk.row hr.out (fun k e q=>by
    rcases hr.out.2 with ⟨e1,_⟩ | ⟨g,_,_,e1,e2,_⟩
    ·rw [e1] at e;simp [Value.ownBlock] at e
    ·rw [e1] at e;simp only [Value.ownBlock,Option.some.injEq] at e;omega)
   exact row_mono hr2 z5
  | false=>
   rw [hb] at CB2
   rw [if_neg (by rw [hb];simp)] at HF
   rw [HF.out]
   clear HF hb CC
   go_enter Tryz.func106,Tryz.ntmps106
   go_upto_region 1 with fail
   rw [← hW1]
   clear hW1
   go_wp2_with (first
    | (go_at_call 139;refine C1.mono ?_;rintro e w2 ⟨rfl,k2⟩;have C3:=C2.out w2 (KW.trans' k2);obtain ⟨y0,y1,y2,y3,y4,y5⟩:=BX.out w2 k2)
    | (go_at_call 140;refine C3.mono ?_;rintro e w3 ⟨rfl,k3⟩;have k13:=k2.trans' k3;obtain ⟨z0,z1,z2,z3,z4,z5⟩:=BX.out w3 k13;have C4:=CB2.out w3 (KW.trans' k13))
    | (go_at_call 64;refine C4.mono ?_;rintro e w4 ⟨rfl,k4⟩;have k14:=k13.trans' k4;obtain ⟨⟨r0,r1,r2,r3⟩,f0,f1,f2,f3⟩:=RC.out w4 k14))
   obtain ⟨⟨g0,g1,g2,g3⟩,kk,ks⟩:=PUT.out w4 (.int .i64 0) (.int .i64 0) (.slice none 0 0) (.int .i64 0) k14
   exact bodyPost_ret (v:=.tuple #[.agg #[.int .i64 0,.int .i64 0,.slice none 0 0,.int .i64 0],.int .i64 (j:Int),.int .i64 0]) (by simp [results,Tryz.results106,go_sem,g0,g1,g2,g3]) rfl ⟨rfl,ks⟩
theorem lookF_inl {L:List Sym} {ok:Bool} {T:List Int} {I:List I3} {E:List Int} {node:Int} {a:Nat} {p:List Int} {R:R5} (h:lookF L ok T I E node a p=.inl R):R=bad5∨∃ nd,R=(3,0,p,nd,0):=by
 unfold lookF at h
 split at h
 ·split at h
  ·cases h;exact .inl rfl
  ·cases h
 ·split at h
  ·cases h;exact .inr ⟨_,rfl⟩
  ·cases h
def LKR (w w' : World) (res:R5 ⊕ Int) (k r:Int) (zo:Option Addr) (zl zc:Nat) (nd z err:Int):Prop:=
 match res with
 | .inl R=>k=R.1∧r=R.2.1∧zl=R.2.2.1.length∧nd=R.2.2.2.1∧z=0∧err=R.2.2.2.2∧Row w.heap.size w' (.slice zo zl zc) R.2.2.1
 | .inr x=>k=0∧r=0∧zo=none∧zl=0∧zc=0∧nd=0∧z=x∧err=0
theorem LKR.up {w ww w' w'' : World} {res:R5 ⊕ Int} {k r:Int} {zo:Option Addr} {zl zc:Nat} {nd z err:Int} (h:LKR ww w' res k r zo zl zc nd z err) (_:Same0 ww w') (hk:Same0 w' w'') (hw:w.heap.size≤ww.heap.size):LKR w w'' res k r zo zl zc nd z err:=by
 cases res with
 | inl R=>
  obtain ⟨a,b,c,d,e,f,g⟩:=h
  exact ⟨a,b,c,d,e,f,row_mono (hk.row g (fun _ _ f=>f)) hw⟩
 | inr x=>exact h
theorem LKR.put {w w' : World} {o:Obj} {res:R5 ⊕ Int} {k r:Int} {zo:Option Addr} {zl zc:Nat} {nd z err:Int} (h:LKR (w.drew.alloc o) w' res k r zo zl zc nd z err) (x0 x1 x2 x3:Value):LKR w ((((w'.setCell ⟨w.heap.size,0,none⟩ x0).setCell ⟨w.heap.size,1,none⟩ x1).setCell ⟨w.heap.size,2,none⟩ x2).setCell ⟨w.heap.size,3,none⟩ x3) res k r zo zl zc nd z err:=by
 cases res with
 | inl R=>
  obtain ⟨a,b,c,d,e,f,g⟩:=h
  have k1:=kept_at w' w.heap.size 0 x0
  have k2:=Kept.trans k1 (kept_at _ w.heap.size 1 x1) (fun _ _ e=>e)
  have k3:=Kept.trans k2 (kept_at _ w.heap.size 2 x2) (fun _ _ e=>e)
  have k4:=Kept.trans k3 (kept_at _ w.heap.size 3 x3) (fun _ _ e=>e)
  have hz:(w.drew.alloc o).heap.size=w.heap.size+1:=by simp
  refine ⟨a,b,c,d,e,f,row_mono (k4.row g (fun q e1 e2=>?_)) (by omega)⟩
  rcases g.2 with ⟨e3,_⟩ | ⟨g', _,_,e3,e4,_⟩
  ·rw [e3] at e1;simp [Value.ownBlock] at e1
  ·rw [e3] at e1;simp only [Value.ownBlock,Option.some.injEq] at e1;omega
 | inr x=>exact h
theorem row_base {base:Nat} {w:World} {v:Value} {xs:List Int} (h:Row base w v xs) {q:Nat} (e:v.ownBlock=some q):base≤q:=by
 rcases h.2 with ⟨q3,_⟩ | ⟨g', _,_,q3,q4,_⟩
 ·rw [q3] at e;simp [Value.ownBlock] at e
 ·rw [q3] at e;simp only [Value.ownBlock,Option.some.injEq] at e;omega
theorem runF_out {L:List Sym} {ok:Bool} {T:List Int} {I:List I3} {P:List (List Int)} {E:List Int} {node:Int} {f a:Nat} (h:I.length≤a):runF L ok T I P E node f a=bad5:=by
 cases f with
 | zero=>rfl
 | succ f=>rw [runF,List.getElem?_eq_none h]
theorem runF_in {L:List Sym} {ok:Bool} {T:List Int} {I:List I3} {P:List (List Int)} {E:List Int} {node:Int} {f a:Nat} (h:a<I.length):runF L ok T I P E node (f+1) a=if I[a].1=4 then (1,I[a].2.1,[],0,0) else if I[a].1=3 then (2,0,[],0,0) else if I[a].1=1∧idxB I[a].2.1 P.length=true then (match lookF L ok T I E node a (P.getD I[a].2.1.toNat []) with | .inl r=>r | .inr z=>runF L ok T I P E node f z.toNat) else bad5:=by
 rw [runF,List.getElem?_eq_getElem h] <;> rfl
set_option maxHeartbeats 32000000 in
theorem from_any {base:Nat} {w:World} {L:List Sym} {ok:Bool} {T:List Int} {ho:Option Addr} {hn hc:Nat} {go:Option Addr} {gn gc:Nat} (hv:VwAt base w L ok T (.agg #[.slice ho hn hc,.slice go gn gc])) {io:Option Addr} {I:List I3} (hI:InsAt w io I) (hl:I.length≤140737488355328) {po:Option Addr} {P:List (List Int)} (hP:PthAt w po P) {eo:Option Addr} {E:List Int} (hE:IntsAt w eo E) (ic pc ec:Nat) (ro:Option Addr) (rl rc:Nat) (node:Int) (a0:Nat) :
  Calls Tryz.prog 65 #[.agg #[.slice io I.length ic,.slice po P.length pc,.slice eo E.length ec,.slice ro rl rc,.iface 70 (.agg #[.slice ho hn hc,.slice go gn gc]),.int .i64 node],.int .i64 (a0:Int)] w (FndOut w (runF L ok T I P E node (I.length+1) a0)):=by
 obtain ⟨R,hR⟩:∃ R,R=runF L ok T I P E node (I.length+1) a0:=⟨_,rfl⟩
 have HR:Hid (R=runF L ok T I P E node (I.length+1) a0):=hR
 rw [← hR]
 clear hR
 obtain ⟨W1,hW1⟩:∃ W1,W1=(w.alloc (.cells #[.slice io I.length ic,.slice po P.length pc,.slice eo E.length ec,.slice ro rl rc,.iface 70 (.agg #[.slice ho hn hc,.slice go gn gc]),.int .i64 node] 151)).alloc (.cells #[.int .i64 0,.int .i64 0,.slice none 0 0,.int .i64 0] 73):=⟨_,rfl⟩
 have KW:Same0 w W1:=by rw [hW1];exact ((Kept.refl _ w).alloc _).alloc _
 have hbx:W1.heap[w.heap.size]? = some (.cells #[.slice io I.length ic,.slice po P.length pc,.slice eo E.length ec,.slice ro rl rc,.iface 70 (.agg #[.slice ho hn hc,.slice go gn gc]),.int .i64 node] 151 (0,0)):=by rw [hW1];exact heap_alloc2_old _ _ _
 have hfd:W1.heap[w.heap.size+1]? = some (.cells #[.int .i64 0,.int .i64 0,.slice none 0 0,.int .i64 0] 73 (0,0)):=by rw [hW1];exact heap_al_al _ _ _
 have zW:w.heap.size+1<W1.heap.size:=lt_of_at hfd
 have BX:Hid (∀ ww,Same0 W1 ww→ww.cell? ⟨w.heap.size,0,none⟩=some (.slice io I.length ic)∧ww.cell? ⟨w.heap.size,1,none⟩=some (.slice po P.length pc)∧ww.cell? ⟨w.heap.size,2,none⟩=some (.slice eo E.length ec)∧ww.cell? ⟨w.heap.size,3,none⟩=some (.slice ro rl rc)∧ww.cell? ⟨w.heap.size,4,none⟩=some (.iface 70 (.agg #[.slice ho hn hc,.slice go gn gc]))∧ww.cell? ⟨w.heap.size,5,none⟩=some (.int .i64 node)):=fun ww hk=>by
  have:=hk.at0 hbx
  exact ⟨cellAt this 0,cellAt this 1,cellAt this 2,cellAt this 3,cellAt this 4,cellAt this 5⟩
 have RC:Hid (∀ ww,Same0 W1 ww→(ww.cell? ⟨w.heap.size+1,0,none⟩=some (.int .i64 0)∧ww.cell? ⟨w.heap.size+1,1,none⟩=some (.int .i64 0)∧ww.cell? ⟨w.heap.size+1,2,none⟩=some (.slice none 0 0)∧ww.cell? ⟨w.heap.size+1,3,none⟩=some (.int .i64 0))∧ww.frozen? ⟨w.heap.size+1,0,none⟩=false∧ww.frozen? ⟨w.heap.size+1,1,none⟩=false∧ww.frozen? ⟨w.heap.size+1,2,none⟩=false∧ww.frozen? ⟨w.heap.size+1,3,none⟩=false):=fun ww hk=>by
  have:=hk.at0 hfd
  exact ⟨⟨cellAt this 0,cellAt this 1,cellAt this 2,cellAt this 3⟩,frozenAt this 0,frozenAt this 1,frozenAt this 2,frozenAt this 3⟩
 have PUT:Hid (∀ ww x0 x1 x2 x3,Same0 W1 ww→(((((ww.setCell ⟨w.heap.size+1,0,none⟩ x0).setCell ⟨w.heap.size+1,1,none⟩ x1).setCell ⟨w.heap.size+1,2,none⟩ x2).setCell ⟨w.heap.size+1,3,none⟩ x3).cell? ⟨w.heap.size+1,0,none⟩=some x0∧((((ww.setCell ⟨w.heap.size+1,0,none⟩ x0).setCell ⟨w.heap.size+1,1,none⟩ x1).setCell ⟨w.heap.size+1,2,none⟩ x2).setCell ⟨w.heap.size+1,3,none⟩ x3).cell? ⟨w.heap.size+1,1,none⟩=some x1∧((((ww.setCell ⟨w.heap.size+1,0,none⟩ x0).setCell ⟨w.heap.size+1,1,none⟩ x1).setCell ⟨w.heap.size+1,2,none⟩ x2).setCell ⟨w.heap.size+1,3,none⟩ x3).cell? ⟨w.heap.size+1,2,none⟩=some x2∧((((ww.setCell ⟨w.heap.size+1,0,none⟩ x0).setCell ⟨w.heap.size+1,1,none⟩ x1).setCell ⟨w.heap.size+1,2,none⟩ x2).setCell ⟨w.heap.size+1,3,none⟩ x3).cell? ⟨w.heap.size+1,3,none⟩=some x3)∧Kept (fun q=>q=w.heap.size+1) ww ((((ww.setCell ⟨w.heap.size+1,0,none⟩ x0).setCell ⟨w.heap.size+1,1,none⟩ x1).setCell ⟨w.heap.size+1,2,none⟩ x2).setCell ⟨w.heap.size+1,3,none⟩ x3)∧Same0 w ((((ww.setCell ⟨w.heap.size+1,0,none⟩ x0).setCell ⟨w.heap.size+1,1,none⟩ x1).setCell ⟨w.heap.size+1,2,none⟩ x2).setCell ⟨w.heap.size+1,3,none⟩ x3)):=by
  intro ww x0 x1 x2 x3 hk
  have rs:=hk.at0 hfd
  have s3:=setAt (setAt (setAt (setAt rs 0 x0) 1 x1) 2 x2) 3 x3
  have k1:=kept_at ww (w.heap.size+1) 0 x0
  have k2:=Kept.trans k1 (kept_at _ (w.heap.size+1) 1 x1) (fun _ _ e=>e)
  have k3:=Kept.trans k2 (kept_at _ (w.heap.size+1) 2 x2) (fun _ _ e=>e)
  have k4:=Kept.trans k3 (kept_at _ (w.heap.size+1) 3 x3) (fun _ _ e=>e)
  exact ⟨⟨cellAt s3 0,cellAt s3 1,cellAt s3 2,cellAt s3 3⟩,k4,Kept.trans (KW.trans' hk) k4 (fun i hi e=>by omega)⟩
 have CLK:Hid (∀ ww a qo qc (p:List Int),Same0 w ww→a<I.length→Arg ww qo p qc→Calls Tryz.prog 106 #[.agg #[.slice io I.length ic,.slice po P.length pc,.slice eo E.length ec,.slice ro rl rc,.iface 70 (.agg #[.slice ho hn hc,.slice go gn gc]),.int .i64 node],.int .i64 (a:Int),.slice qo p.length qc] ww (LookOut ww (lookF L ok T I E node a p))):=fun ww a qo qc p hk ha hp=>look_any (hv.same hk) (hI.same hk) hl (hE.same hk) hp _ _ _ _ _ _ _ _ node a ha
 have HI:Hid (∀ ww j (hj:j<I.length),Same0 w ww→∃ b off,io=some ⟨b,off,none⟩∧ww.cell? ⟨b,off+j * 3,none⟩=some (.int .i64 I[j].1)∧ww.cell? ⟨b,off+j * 3+1,none⟩=some (.int .i64 I[j].2.1)∧ww.cell? ⟨b,off+j * 3+2,none⟩=some (.int .i64 I[j].2.2)):=fun ww j hj hk=>by
  obtain ⟨b,off,e,_,h0,h1,h2⟩:=(hI.same hk).get hj
  exact ⟨b,off,e,h0,h1,h2⟩
 have HPT:Hid (∀ ww j (hj:j<P.length),Same0 w ww→∃ b off ao ac,po=some ⟨b,off,none⟩∧ww.cell? ⟨b,off+j,none⟩=some (.slice ao P[j].length ac)∧Arg ww ao P[j] ac):=fun ww j hj hk=>by
  obtain ⟨b,off,ao,ac,e,_,h0,h1⟩:=(hP.same hk).get hj
  exact ⟨b,off,ao,ac,e,h0,h1⟩
 have RET:Hid (∀ ww k r err,Same0 w ww→R=(k,r,[],0,err)→FndOut w R (.returned (.tuple #[.agg #[.int .i64 k,.int .i64 r,.slice none 0 0,.int .i64 0],.int .i64 err])) ww):=fun ww k r err hk e=>by
  rw [e]
  exact ⟨none,0,rfl,World.ownsRow_nil _ _ _ _,hk⟩
 obtain ⟨x0,x1,x2,x3,x4,x5⟩:=BX.out W1 (Kept.refl _ _)
 clear hv hI hP hE hbx hfd
 go_enter Tryz.func65,Tryz.ntmps65
 go_upto_region 1 with fail
 rw [← hW1]
 clear hW1
 go_loopw [1] (fun s1 wr=>∃ a f:Nat,s1=.int .i64 (a:Int)∧Hid (I.length<a+(f+1)∧R=runF L ok T I P E node (f+1) a)∧Same0 W1 wr) (fun s1 _=>I.length-(intOf s1).toNat)
 case atStart=>exact ⟨a0,I.length,rfl,⟨by omega,HR.out⟩,Kept.refl _ _⟩
 case round=>
  clear x0 x1 x2 x3 x4 x5 HR
  obtain ⟨a,f,rfl,hF,hK⟩:=hrel
  obtain ⟨x0,x1,x2,x3,x4,x5⟩:=BX.out wr hK
  obtain ⟨⟨r0,r1,r2,r3⟩,f0,f1,f2,f3⟩:=RC.out wr hK
  by_cases hlt:a<I.length
  ·obtain ⟨b,off,rfl,c0,c1,c2⟩:=HI.out wr a hlt (KW.trans' hK)
   have i1:(0:Int)≤(a:Int):=by omega
   have i2:(a:Int)<(I.length:Int):=by omega
   obtain ⟨hf1,hf2⟩:=hF.out
   rw [runF_in hlt] at hf2
   obtain ⟨wi,hwi⟩:∃ wi,wi=wr.alloc (.cells #[.int .i64 I[a].1,.int .i64 I[a].2.1,.int .i64 I[a].2.2] 34):=⟨_,rfl⟩
   have ki:Same0 wr wi:=by rw [hwi];exact (Kept.refl _ _).alloc _
   have bi:wi.heap[wr.heap.size]? = some (.cells #[.int .i64 I[a].1,.int .i64 I[a].2.1,.int .i64 I[a].2.2] 34 (0,0)):=by rw [hwi];exact heap_alloc_new _ _
   have y0:=cellAt bi 0
   have y1:=cellAt bi 1
   have y2:=cellAt bi 2
   simp only [List.getElem?_toArray,List.getElem?_cons_zero,List.getElem?_cons_succ] at y0 y1 y2
   have hKi:=hK.trans' ki
   obtain ⟨v0,v1,v2,v3,v4,v5⟩:=BX.out wi hKi
   obtain ⟨⟨s0,s1,s2,s3⟩,g0,g1,g2,g3⟩:=RC.out wi hKi
   by_cases h4:I[a].1=4
   ·rw [if_pos h4] at hf2
    rw [h4] at c0 y0 hwi
    have PH:Hid _:=PUT.out wi (.int .i64 1) (.int .i64 I[a].2.1) (.slice none 0 0) (.int .i64 0) hKi
    have FR:Hid (R=(1,I[a].2.1,[],0,0)):=hf2
    generalize I[a].2.1=z at *
    clear hf1 hf2 hF HI HPT CLK h4
    go_upto_region 3 with fail
    rw [← hwi]
    clear hwi
    go_wp2_with fail
    obtain ⟨⟨q0,q1,q2,q3⟩,kk,ks⟩:=PH.out
    exact bodyPost_ret (v:=.tuple #[.agg #[.int .i64 1,.int .i64 z,.slice none 0 0,.int .i64 0],.int .i64 0]) (by simp [results,Tryz.results65,go_sem,q0,q1,q2,q3]) rfl (RET.out _ _ _ _ ks FR.out)
   ·rw [if_neg h4] at hf2
    by_cases h3:I[a].1=3
    ·rw [if_pos h3] at hf2
     rw [h3] at c0 y0 hwi
     have PH:Hid _:=PUT.out wi (.int .i64 2) (.int .i64 0) (.slice none 0 0) (.int .i64 0) hKi
     have FR:Hid (R=(2,0,[],0,0)):=hf2
     clear hf1 hf2 hF HI HPT CLK h4 h3
     go_upto_region 3 with fail
     rw [← hwi]
     clear hwi
     go_wp2_with fail
     obtain ⟨⟨q0,q1,q2,q3⟩,kk,ks⟩:=PH.out
     exact bodyPost_ret (v:=.tuple #[.agg #[.int .i64 2,.int .i64 0,.slice none 0 0,.int .i64 0],.int .i64 0]) (by simp [results,Tryz.results65,go_sem,q0,q1,q2,q3]) rfl (RET.out _ _ _ _ ks FR.out)
    ·rw [if_neg h3] at hf2
     have PH:Hid _:=PUT.out wi (.int .i64 0) (.int .i64 0) (.slice none 0 0) (.int .i64 0) hKi
     by_cases h1:I[a].1=1
     ·have CI:=isIndex_any I[a].2.1 P.length wi
      cases hix:idxB I[a].2.1 P.length with
      | false=>
       rw [hix] at CI
       rw [if_neg (by rw [hix];simp)] at hf2
       rw [h1] at c0 y0 hwi
       have FR:Hid (R=(0,0,[],0,92)):=hf2
       clear hf1 hf2 hF HI HPT CLK h4 h3 h1 hix
       generalize I[a].2.1=z at *
       go_upto_region 3 with fail
       rw [← hwi]
       clear hwi
       go_wp2_with (first | (go_at_call 56;refine CI.mono ?_;rintro e w2 ⟨rfl,rfl⟩))
       obtain ⟨⟨q0,q1,q2,q3⟩,kk,ks⟩:=PH.out
       exact bodyPost_ret (v:=.tuple #[.agg #[.int .i64 0,.int .i64 0,.slice none 0 0,.int .i64 0],.int .i64 92]) (by simp [results,Tryz.results65,go_sem,q0,q1,q2,q3]) rfl (RET.out _ _ _ _ ks FR.out)
      | true=>
       rw [hix] at CI
       rw [if_pos ⟨h1,hix⟩] at hf2
       obtain ⟨q,hq,hql⟩:=idx_yes hix
       have eg:P.getD I[a].2.1.toNat []=P[q]:=by rw [hq,Int.toNat_natCast];simp [hql]
       rw [eg] at hf2
       rw [h1] at c0 y0 hwi
       rw [hq] at c1 y1 hwi CI
       obtain ⟨pb,poff,qo,qc,rfl,p0,hA⟩:=HPT.out wi q hql (KW.trans' hKi)
       have HS:Hid (∀ ww,Same0 wi ww→ww.cell? ⟨w.heap.size,0,none⟩=some (.slice (some ⟨b,off,none⟩) I.length ic)∧ww.cell? ⟨w.heap.size,1,none⟩=some (.slice (some ⟨pb,poff,none⟩) P.length pc)∧ww.cell? ⟨w.heap.size,2,none⟩=some (.slice eo E.length ec)∧ww.cell? ⟨w.heap.size,3,none⟩=some (.slice ro rl rc)∧ww.cell? ⟨w.heap.size,4,none⟩=some (.iface 70 (.agg #[.slice ho hn hc,.slice go gn gc]))∧ww.cell? ⟨w.heap.size,5,none⟩=some (.int .i64 node)∧ww.cell? ⟨wr.heap.size,1,none⟩=some (.int .i64 (q:Int))∧ww.cell? ⟨pb,poff+q,none⟩=some (.slice qo P[q].length qc)):=fun ww hk=>by
        obtain ⟨t0,t1,t2,t3,t4,t5⟩:=BX.out ww (hKi.trans' hk)
        exact ⟨t0,t1,t2,t3,t4,t5,(hk.cell (p:=⟨wr.heap.size,1,none⟩) (lt_of_at bi) (fun f=>f)).trans y1,(hk.cell (p:=⟨pb,poff+q,none⟩) (World.block_lt_of_cell? _ _ p0) (fun f=>f)).trans p0⟩
       have CL:Hid (∀ ww,Same0 wi ww→Calls Tryz.prog 106 #[.agg #[.slice (some ⟨b,off,none⟩) I.length ic,.slice (some ⟨pb,poff,none⟩) P.length pc,.slice eo E.length ec,.slice ro rl rc,.iface 70 (.agg #[.slice ho hn hc,.slice go gn gc]),.int .i64 node],.int .i64 (a:Int),.slice qo P[q].length qc] ww (LookOut ww (lookF L ok T I E node a P[q]))):=fun ww hk=>CLK.out ww a qo qc P[q] ((KW.trans' hKi).trans' hk) hlt (hA.same hk)
       have q1:(0:Int)≤(q:Int):=by omega
       have q2:(q:Int)<(P.length:Int):=by omega
       have W0:=HS.out wi (Kept.refl _ _)
       have kd:Same0 wi wi.drew:=Kept.drew (Kept.refl _ _)
       have HL:Hid (lookF L ok T I E node a P[q]=lookF L ok T I E node a P[q]):=rfl
       have HGT:Hid (∀ z,lookF L ok T I E node a P[q]=.inr z→(a:Int)<z):=fun z e=>lookF_gt hlt e
       have CL2:Hid (∀ ww,Same0 wi ww→Calls Tryz.prog 106 #[.agg #[.slice (some ⟨b,off,none⟩) I.length ic,.slice (some ⟨pb,poff,none⟩) P.length pc,.slice eo E.length ec,.slice ro rl rc,.iface 70 (.agg #[.slice ho hn hc,.slice go gn gc]),.int .i64 node],.int .i64 (a:Int),.slice qo P[q].length qc] ww fun e w' => ∃ k r zo zl zc nd z err,e=.returned (.tuple #[.agg #[.int .i64 k,.int .i64 r,.slice zo zl zc,.int .i64 nd],.int .i64 z,.int .i64 err])∧Hid (LKR ww w' (lookF L ok T I E node a P[q]) k r zo zl zc nd z err)∧Same0 ww w'):=fun ww hk=>by
        refine (CL.out ww hk).mono ?_
        intro e w' h
        cases hlk:lookF L ok T I E node a P[q] with
        | inl r=>
         rw [hlk] at h
         obtain ⟨zo,zc,rfl,g1,g2⟩:=h
         exact ⟨_,_,_,_,_,_,_,_,rfl,⟨rfl,rfl,rfl,rfl,rfl,rfl,g1⟩,g2⟩
        | inr z=>
         rw [hlk] at h
         obtain ⟨rfl,g2⟩:=h
         exact ⟨_,_,_,_,_,_,_,_,rfl,⟨rfl,rfl,rfl,rfl,rfl,rfl,rfl,rfl⟩,g2⟩
       have HIN:Hid (∀ r,lookF L ok T I E node a P[q]=.inl r→r=bad5∨∃ nd,r=(3,0,P[q],nd,0)):=fun r e=>lookF_inl e
       have NX:Hid (I.length<a+(f+1)∧R=match lookF L ok T I E node a P[q] with | .inl r=>r | .inr z=>runF L ok T I P E node f z.toNat):=⟨hf1,hf2⟩
       generalize lookF L ok T I E node a P[q]=res at *
       clear hf1 hf2 hF HI HPT CLK CL h4 h3 h1 hix eg hA HL
       generalize P[q]=pth at *
       generalize I[a].2.2=ib2 at *
       go_upto_region 3 with fail
       rw [← hwi]
       clear hwi
       go_upto_region 10 with (first | (go_at_call 56;refine CI.mono ?_;rintro e wj ⟨rfl,rfl⟩))
       go_cut [7,8,9] from 41 to 54 (fun s7 s8 s9 wc=>∃ g k r zo zl zc nd z err,s7=.pointer (some ⟨g,0,none⟩)∧s8=.int .i64 z∧s9=.int .i64 err∧wc.heap[g]? = some (.cells #[.int .i64 k,.int .i64 r,.slice zo zl zc,.int .i64 nd] 73 (0,0))∧LKR wj wc res k r zo zl zc nd z err∧Same0 wj wc)
       case first=>
        go_region_held3 (fun w' => w'.cell? ⟨w.heap.size,0,none⟩=some (.slice (some ⟨b,off,none⟩) I.length ic)∧w'.cell? ⟨w.heap.size,1,none⟩=some (.slice (some ⟨pb,poff,none⟩) P.length pc)∧w'.cell? ⟨w.heap.size,2,none⟩=some (.slice eo E.length ec)∧w'.cell? ⟨w.heap.size,3,none⟩=some (.slice ro rl rc)∧w'.cell? ⟨w.heap.size,4,none⟩=some (.iface 70 (.agg #[.slice ho hn hc,.slice go gn gc]))∧w'.cell? ⟨w.heap.size,5,none⟩=some (.int .i64 node)∧w'.cell? ⟨wr.heap.size,1,none⟩=some (.int .i64 (q:Int))∧w'.cell? ⟨pb,poff+q,none⟩=some (.slice qo pth.length qc)) (first | exact W0 | exact cc1 | exact HS.out _ (by first | assumption | exact Kept.alloc (by assumption) _ | exact Same0.own (Same0.own (Same0.own (Same0.own (by assumption) (Nat.le_refl _) _) (Nat.le_refl _) _) (Nat.le_refl _) _) (Nat.le_refl _) _)) (first
         | (go_at_call 106;refine (CL2.out _ (by first | exact kd | exact Kept.alloc kd _)).mono ?_;rintro e w4 ⟨k,r,zo,zl,zc,nd,z,err,rfl,hLK,k4⟩;have hk1:Same0 wj w4:=(by first | exact kd.trans' k4 | exact Same0.trans' (Kept.alloc kd _) k4);have cc1:=HS.out _ hk1;try (have zb:w4.heap[wj.heap.size]? = some (.cells #[.int .i64 0,.int .i64 0,.slice none 0 0,.int .i64 0] 73 (0,0)):=k4.at0 (heap_alloc_new wj.drew _);have zc0:w4.cell? ⟨wj.heap.size,0,none⟩=some (.int .i64 0):=cellAt zb 0;have zc1:w4.cell? ⟨wj.heap.size,1,none⟩=some (.int .i64 0):=cellAt zb 1;have zc2:w4.cell? ⟨wj.heap.size,2,none⟩=some (.slice none 0 0):=cellAt zb 2;have zc3:w4.cell? ⟨wj.heap.size,3,none⟩=some (.int .i64 0):=cellAt zb 3;have zf0:=frozenAt zb 0;have zf1:=frozenAt zb 1;have zf2:=frozenAt zb 2;have zf3:=frozenAt zb 3)))
        all_goals
         go_wp2_with fail
         go_meet
         case rel=>
          first
           | exact ⟨_,k,r,zo,zl,zc,nd,z,err,rfl,rfl,rfl,heap_alloc_new w4 _,LKR.up hLK.out k4 (Kept.alloc (Kept.refl _ _) _) (Nat.le_refl _),Kept.alloc hk1 _⟩
           | exact ⟨_,k,r,zo,zl,zc,nd,z,err,rfl,rfl,rfl,setAt (setAt (setAt (setAt zb 0 _) 1 _) 2 _) 3 _,LKR.put hLK.out _ _ _ _,Same0.own (Same0.own (Same0.own (Same0.own hk1 (Nat.le_refl _) _) (Nat.le_refl _) _) (Nat.le_refl _) _) (Nat.le_refl _) _⟩
       case rest=>
        obtain ⟨g,k,r,zo,zl,zc,nd,z,err,rfl,rfl,rfl,hg,hLK,kc⟩:=hcut
        clear CL2 HS W0 v0 v1 v2 v3 v4 v5 x0 x1 x2 x3 x4 x5 CI y0 y1 y2 c0 c1 c2 s0 s1 s2 s3 g0 g1 g2 g3 r0 r1 r2 r3 f0 f1 f2 f3 PH p0 bi
        have kWc:=hKi.trans' kc
        have hjz:=hKi.size
        obtain ⟨⟨r0,r1,r2,r3⟩,f0,f1,f2,f3⟩:=RC.out wc kWc
        have d0:=cellAt hg 0
        have d1:=cellAt hg 1
        have d2:=cellAt hg 2
        have d3:=cellAt hg 3
        simp only [List.getElem?_toArray,List.getElem?_cons_zero,List.getElem?_cons_succ] at d0 d1 d2 d3
        have PH:Hid _:=PUT.out wc (.int .i64 k) (.int .i64 r) (.slice zo zl zc) (.int .i64 nd) kWc
        cases res with
        | inr x=>
         obtain ⟨rfl,rfl,rfl,rfl,rfl,rfl,rfl,rfl⟩:=hLK
         have hgt:=HGT.out z rfl
         have M:Hid (I.length<z.toNat+(f+1)∧R=runF L ok T I P E node (f+1) z.toNat):=by
          obtain ⟨n1,n2⟩:=NX.out
          refine ⟨by omega,?_⟩
          rw [← runF_more f (f+1) z.toNat (by omega) (by omega)]
          exact n2
         have hzn:z=((z.toNat:Nat):Int):=by omega
         have HM:Hid (I.length-z.toNat<I.length-a):=by show _<_;omega
         clear NX HGT HIN hgt PH hg
         go_wp2_with fail
         go_roundw
         case rel=>first | exact ⟨z.toNat,f,by rw [← hzn],M,kWc⟩ | ((repeat apply Exists.intro);exact ⟨⟨z.toNat,f,by rw [← hzn],M,kWc⟩,rfl⟩)
         case measure=>simp only [intOf];rw [Int.toNat_natCast];exact HM.out
        | inl R' =>
         obtain ⟨e1,e2,e3,e4,e5,e6,e7⟩:=hLK
         have hR:R=R' := NX.out.2
         rcases HIN.out R' rfl with h5 | ⟨nd', h5⟩
         ·rw [h5] at e1 e2 e3 e4 e6 e7 hR
          simp only [bad5] at e1 e2 e3 e4 e6 e7
          subst e1;subst e2;subst e4;subst e5;subst e6
          have HB:Hid (FndOut w R (.returned (.tuple #[.agg #[.int .i64 0,.int .i64 0,.slice zo zl zc,.int .i64 0],.int .i64 92])) ((((wc.setCell ⟨w.heap.size+1,0,none⟩ (.int .i64 0)).setCell ⟨w.heap.size+1,1,none⟩ (.int .i64 0)).setCell ⟨w.heap.size+1,2,none⟩ (.slice zo zl zc)).setCell ⟨w.heap.size+1,3,none⟩ (.int .i64 0))):=by
           obtain ⟨_,kk,ks⟩:=PH.out
           rw [hR]
           subst e3
           refine ⟨zo,zc,rfl,row_mono (kk.row e7 (fun q q1 q2=>?_)) (by omega),ks⟩
           have:=row_base e7 q1
           omega
          clear NX HGT HIN hg e3 e7 hR h5
          go_wp2_with fail
          obtain ⟨⟨q0,q1,q2,q3⟩,kk,ks⟩:=PH.out
          exact bodyPost_ret (v:=.tuple #[.agg #[.int .i64 0,.int .i64 0,.slice zo zl zc,.int .i64 0],.int .i64 92]) (by simp [results,Tryz.results65,go_sem,q0,q1,q2,q3]) rfl HB.out
         ·rw [h5] at e1 e2 e3 e4 e6 e7 hR
          simp only at e1 e2 e3 e4 e6 e7
          subst e1;subst e2;subst e4;subst e5;subst e6
          have HB:Hid (FndOut w R (.returned (.tuple #[.agg #[.int .i64 3,.int .i64 0,.slice zo zl zc,.int .i64 nd],.int .i64 0])) ((((wc.setCell ⟨w.heap.size+1,0,none⟩ (.int .i64 3)).setCell ⟨w.heap.size+1,1,none⟩ (.int .i64 0)).setCell ⟨w.heap.size+1,2,none⟩ (.slice zo zl zc)).setCell ⟨w.heap.size+1,3,none⟩ (.int .i64 nd))):=by
           obtain ⟨_,kk,ks⟩:=PH.out
           rw [hR]
           subst e3
           refine ⟨zo,zc,rfl,row_mono (kk.row e7 (fun q q1 q2=>?_)) (by omega),ks⟩
           have:=row_base e7 q1
           omega
          clear NX HGT HIN hg e3 e7 hR h5
          go_wp2_with fail
          obtain ⟨⟨q0,q1,q2,q3⟩,kk,ks⟩:=PH.out
          exact bodyPost_ret (v:=.tuple #[.agg #[.int .i64 3,.int .i64 0,.slice zo zl zc,.int .i64 nd],.int .i64 0]) (by simp [results,Tryz.results65,go_sem,q0,q1,q2,q3]) rfl HB.out
     ·rw [if_neg (fun e=>h1 e.1)] at hf2
      have FR:Hid (R=(0,0,[],0,92)):=hf2
      have e4:(I[a].1 == 4)=false:=by simpa using h4
      have e3:(I[a].1 == 3)=false:=by simpa using h3
      have e1:(I[a].1 == 1)=false:=by simpa using h1
      clear hf1 hf2 hF HI HPT CLK h4 h3 h1
      generalize I[a].1=z at *
      go_upto_region 3 with fail
      rw [← hwi]
      clear hwi
      go_wp2_with fail
      obtain ⟨⟨q0,q1,q2,q3⟩,kk,ks⟩:=PH.out
      exact bodyPost_ret (v:=.tuple #[.agg #[.int .i64 0,.int .i64 0,.slice none 0 0,.int .i64 0],.int .i64 92]) (by simp [results,Tryz.results65,go_sem,q0,q1,q2,q3]) rfl (RET.out _ _ _ _ ks FR.out)
  ·have FR:Hid (R=(0,0,[],0,92)):=by
    obtain ⟨_,h2⟩:=hF.out
    rw [runF_out (by omega)] at h2
    exact h2
   have PH:Hid _:=PUT.out wr (.int .i64 0) (.int .i64 0) (.slice none 0 0) (.int .i64 0) hK
   clear hF HI HPT CLK
   go_wp2_with fail
   obtain ⟨⟨q0,q1,q2,q3⟩,kk,ks⟩:=PH.out
   exact bodyPost_ret (v:=.tuple #[.agg #[.int .i64 0,.int .i64 0,.slice none 0 0,.int .i64 0],.int .i64 92]) (by simp [results,Tryz.results65,go_sem,q0,q1,q2,q3]) rfl (RET.out _ _ _ _ ks FR.out)
end Go.Proofs.YtdhiiicppcgkbaaGreat
