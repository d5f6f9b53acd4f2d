import Derived.Test.YtmjgnfkbnofjoaaGreatDoorSW01
import Derived.RangeFuncNested
import Derived.RangeFuncLeaves
import Derived.RangeFuncBox
import Derived.Test.YtmjgnfkbnofjoaaGreatDoorSW11
import Derived.Test.YtmjgnfkbnofjoaaGreatDoorSW10
import Derived.Shelf.Abstract
import Derived.OwnWalkIn
import Derived.TacticsInMore
import Derived.LoopNIn
import Derived.LoopIn
import Derived.Test.YtmjgnfkbnofjoaaGreatDoorSW03
import Derived.Test.YtmjgnfkbnofjoaaGreatDoorSW16
import Derived.Test.YtmjgnfkbnofjoaaGreatDoorSW15
import Derived.Test.YtmjgnfkbnofjoaaGreatDoorSW08
import Derived.Test.YtmjgnfkbnofjoaaGreatDoorSW20
namespace Go.Proofs.YtmjgnfkbnofjoaaGreatDoor
set_option linter.unusedVariables false
open Go.RowKit
theorem putObj_at {W:World} {l k:Nat} {o o' x:Obj} (hl:W.heap[l]? = some o) (hx:o.isCells=false) (hk:W.heap[k]? = some x) (hc:x.isCells=true):(W.putObj l o').heap[k]? = some x:=by
 have:k≠l:=fun e=>by subst e;rw [hl] at hk;cases hk;rw [hx] at hc;cases hc
 exact (World.putObj_heap_other this).trans hk
structure Rnd (D B:Nat) (W W' : World):Prop where
 recs:KeepsFrom D W W'
 below:Below B W W'
theorem Rnd.trans {D B:Nat} {X Y Z:World} (h:Rnd D B X Y) (k:Rnd D B Y Z):Rnd D B X Z:=⟨h.recs.trans k.recs,h.below.trans k.below⟩
theorem Rnd.same {D B:Nat} {W W' : World} (h:Same0 W W') (hB:B≤W.heap.size):Rnd D B W W' :=
 ⟨⟨h.size,fun k o _ hk _=>h.at0 hk⟩,h.below.mono hB⟩
theorem below_put {B l:Nat} {W:World} {o o' : Obj} (hl:W.heap[l]? = some o) (hB:B≤l):Below B W (W.putObj l o'):=
 ⟨rfl,rfl,rfl,by simp,fun k hk=>World.putObj_heap_other (by omega)⟩
section
variable {F : Fence} {n : Nat} {P : Program}
def Hands (F:Fence) (n:Nat) (P:Program) (gf:Nat) (lb:Array Value) (B N:Nat) (Lk:Nat→Array Value→World→Prop) (w:World):Prop:=
 ∀ (l:Nat) (J:Nat→World→Prop) (W:World),Same0 w W→(∀ k X Y,J k X→Same0 X Y→J k Y) →
  (∀ k vs X,k<N→J k X→Lk k vs X→YieldAt F (n-1) P l vs X fun e Y=>e=.returned (.bool true)∧J (k+1) Y∧Below B X Y)→J 0 W →
  CallsIn F n P gf (#[.func (.yield l) #[] #[]]++lb) W fun e Y=>(∃ v,e=.returned v)∧J N Y
theorem wp_hands {g:Operand} {ps:Array Tmp} {assign body:Code} {Q:Exit→Act→World→Prop} {a:Act} {w:World}
  (hro:F.round=none) (h1:1≤n) {gf:Nat} {lb:Array Value} (hg:a.eval g=.func (.func gf) #[] lb) (hFg:F.fn gf) (eg:∀ args w,(callFunc gf args).run P w=.ok (.enter gf args) w)
  {N:Nat} {Lk:Nat→Array Value→World→Prop} {B:Nat} (hB:B≤w.heap.size) (hh:Hands F (n-1) P gf lb B N Lk w) (hsz:∀ k vs W,Lk k vs W→vs.size=ps.size)
  (J:Nat→World→Prop) (hJ:∀ k X Y,J k X→Same0 X Y→J k Y) (hJp:∀ k X l o o', J k X→X.heap[l]? = some o→o.isCells=false→w.heap.size≤l→J k (X.putObj l o')) (h0:J 0 w)
  (hround:∀ (l k:Nat) (vs:Array Value) (W:World),k<N→w.heap.size≤l→l<W.heap.size→J k W→Lk k vs W →
   assign.wpIn (F.inRound l) (n-1-1) P (Exit.then (fun a' Wa=>Rnd w.heap.size B W Wa∧∀ o o', Wa.heap[l]? = some o→o.isCells=false→o'.isCells=false →
    body.wpIn (F.inRound l) (n-1-1) P (fun e _ Y=>e=.normal∧Rnd w.heap.size B (Wa.putObj l o') Y∧J (k+1) Y) a' (Wa.putObj l o')) (fun _ _ _=>False))
    { tmps:=(ps.zip vs).foldl (fun t (p,v)=>t.setIfInBounds p v) a.tmps,defers:=[] } W)
  (hdone:∀ (D:Nat) (W:World),w.heap.size≤D→J N W→W.heap[D]? = some (.deferred (some []))→Q .normal { a with defers:={ target:=.collected D,args:=#[] } :: a.defers } W) :
  (Code.rangeFunc g ps assign body).wpIn F n P Q a w:=by
 refine wpIn_rangeFunc fun fn hfn=>?_
 rw [hro]
 have hen:=run_enterLoop_outer (P:=P) (w:=w) fn a.tmps ps assign body
 obtain ⟨st,hst⟩:∃ st:LoopState→Option Code→Loop,st=fun s p=>{ state:=s,pending:=p,fn:=fn,tmps:=a.tmps,params:=ps,assign:=assign,body:=body,defers:=w.heap.size }:=⟨_,rfl⟩
 obtain ⟨W1,hW1⟩:∃ W1,W1=(w.alloc (.deferred (some []))).alloc (.loop (st .ready none)):=⟨_,rfl⟩
 have hs1:Same0 w W1:=by rw [hW1];exact ((Kept.refl _ w).alloc _).alloc _
 have hd1:W1.heap[w.heap.size]? = some (.deferred (some [])):=by
  rw [hW1];exact (Below.heap_alloc _ _ _ (by simp)).trans (World.alloc_heap_new w _)
 have hl1:W1.heap[w.heap.size+1]? = some (.loop (st .ready none)):=by
  have:=World.alloc_heap_new (w.alloc (.deferred (some []))) (.loop (st .ready none))
  rw [hW1];simpa using this
 refine ⟨w.heap.size+1,[{ target:=.collected w.heap.size,args:=#[] }],W1, { target:=.fn (.func gf) lb,args:=#[.func (.yield (w.heap.size+1)) #[] #[]] },W1,gf, #[.func (.yield (w.heap.size+1)) #[] #[]]++lb,W1,?_,?_,?_,?_,fun _=>h1,?_⟩
 ·rw [hen,hW1,hst]
 ·simp only [resolve,hg];simp [go_sem]
 ·intro f' hf'; simp [Target.leads] at hf'; subst hf'; exact hFg
 ·simp [invoke,go_sem,eg]
 ·have hcall:=hh (w.heap.size+1) (fun k X=>J k X∧X.heap[w.heap.size+1]? = some (.loop (st .ready none))∧X.heap[w.heap.size]? = some (.deferred (some []))) W1 hs1
   (fun k X Y h hk=>⟨hJ k X Y h.1 hk,hk.at0 h.2.1,hk.at0 h.2.2⟩) ?_ ⟨hJ 0 _ _ h0 hs1,hl1,hd1⟩
  ·refine hcall.mono ?_
   rintro e Y ⟨⟨v,rfl⟩,hj,hl,hd⟩
   have hend:=run_endLoop (P:=P) hl (by rw [hst];simp)
   rw [hst] at hend
   exact ⟨none,_,hend,hdone w.heap.size _ (Nat.le_refl _) (hJp _ _ _ _ _ hj hl rfl (by omega)) ((World.putObj_heap_other (by omega)).trans hd)⟩
  ·rintro k vs X hk ⟨hj,hl,hd⟩ hlk
   have hy:=run_yield (P:=P) (args:=vs) hl (by rw [hst];exact hsz k vs X hlk)
   rw [hst] at hy
   have hlX:w.heap.size+1<X.heap.size:=(Array.getElem?_eq_some_iff.1 hl).1
   refine ⟨fn,_,assign,body,hy,roundIn_of_wpIn hfn (wpIn_mono (hround (w.heap.size+1) k vs X hk (by omega) hlX hj hlk) ?_)⟩
   rintro e a' Wa hp
   cases e with
   | normal=>
    obtain ⟨hr,hb⟩:=hp
    have hla:=hr.recs.same _ _ (by omega) hl rfl
    have hda:=hr.recs.same _ _ (Nat.le_refl _) hd rfl
    have hlt:w.heap.size+1<Wa.heap.size:=(Array.getElem?_eq_some_iff.1 hla).1
    refine ⟨_,run_beginRound hla (by rw [hst]),wpIn_mono (hb _ (.loop { st .ready none with state:=.busy }) hla rfl rfl) ?_⟩
    rintro e2 a2 Y ⟨rfl,hr2,hj2⟩
    have hl2:=hr2.recs.same _ _ (by omega) (World.putObj_heap_same (o:=.loop { st .ready none with state:=.busy }) hlt) rfl
    have hd2:=hr2.recs.same _ _ (Nat.le_refl _) ((World.putObj_heap_other (o:=.loop { st .ready none with state:=.busy }) (by omega)).trans hda) rfl
    have hend:=run_endRound (P:=P) none hl2
    rw [hst] at hend
    refine ⟨_,_,hend,rfl,⟨hJp _ _ _ _ _ hj2 hl2 rfl (by omega),?_,(World.putObj_heap_other (by omega)).trans hd2⟩,?_⟩
    ·rw [hst];exact World.putObj_heap_same (Array.getElem?_eq_some_iff.1 hl2).1
    ·exact (hr.below.trans (below_put hla (by omega))).trans (hr2.below.trans (below_put hl2 (by omega)))
   | _=>exact hp.elim
end
end Go.Proofs.YtmjgnfkbnofjoaaGreatDoor
namespace Go.Proofs.YtmjgnfkbnofjoaaGreatDoor
set_option maxRecDepth 100000
set_option linter.unusedVariables false
open Go.RowKit Go.Shelf
attribute [local go_sem] Oper.semAt_some
def RuLk (R:List Ru) (k:Nat) (vs:Array Value) (W:World):Prop:=
 ∃ (h:k<R.length) (g c g' c' : Nat),vs = #[.int .i64 (k:Int),.agg #[.slice (some ⟨g,0,none⟩) R[k].1.length c,.slice (some ⟨g', 0,none⟩) R[k].2.length c']]∧TmAt W g c R[k].1∧TmAt W g' c' R[k].2
theorem crall_in (F:Fence) (n:Nat) (h22:F.fn 45) (hro:F.round=none) (p0:Option Addr) (w:World) :
  CallsIn F n Tryz.prog 45 #[.pointer p0] w fun e w' => e=.returned (.func (.func 80) #[] #[.pointer (some ⟨w.heap.size,0,none⟩)])∧w' = w.alloc (.cells #[.pointer p0] 43):=by
 refine callsIn_of_wp Tryz.func45 rfl h22 ?_ hro
 simp only [Tryz.ntmps45,List.size_toArray,List.length_cons,List.length_nil,Nat.reduceAdd,Nat.reduceSub,Array.replicate_succ,Array.replicate_zero,List.push_toArray,List.append_toArray,List.nil_append,List.cons_append]
 gi_wp2
 go_ret
 exact ⟨rfl,rfl⟩
set_option maxHeartbeats 8000000 in
theorem hands_rules {n:Nat} {w wx:World} {b bs:Nat} {L:List Sym} {R:List Ru} {lv:Value} {vs:List Value} (hst:StAt w b bs L R lv vs) (hwx:Same0 w wx) {Bn:Nat} (hbx:wx.cell? ⟨Bn,0,none⟩=some (.pointer (some ⟨b,0,none⟩))) (hn:1≤n) :
  Hands Fence.wide n Tryz.prog 80 #[.pointer (some ⟨Bn,0,none⟩)] w.heap.size R.length (RuLk R) wx:=by
 intro l J W hW hJ hY h0
 have hFn:∀ k,Fence.wide.fn k:=fun _=>trivial
 have KW:Same0 w W:=hwx.trans' hW
 have s1:W.cell? ⟨Bn,0,none⟩=some (.pointer (some ⟨b,0,none⟩)):=(hW.cell (p:=⟨Bn,0,none⟩) (World.block_lt_of_cell? _ _ hbx) (fun f=>f)).trans hbx
 obtain ⟨ro,rc,rfl,hrd⟩:=hst.read
 have hle:=hst.le
 have ST:Hid (∀ X,Same0 w X→X.cell? ⟨b,1,none⟩=some (.slice ro R.length rc)∧RsAt X ro R):=fun X hk=>by
  have h1:=hst.same hk
  exact ⟨cellAt h1.blk 1,hrd.rs.same hk⟩
 have OK:Hid (∀ x∈R,(0<x.1.length∧x.1.length≤2000)∧0<x.2.length∧x.2.length≤2000):=fun x hx=>ok_len (hst.ok x hx)
 obtain ⟨s2,_⟩:=ST.out W KW
 have hpn:∀ ww:World,(binOp .eql 43 (.pointer (some ⟨b,0,none⟩)) (.pointer none)).run Tryz.prog ww=.ok (.bool false) ww:=fun ww=>by kernel_rfl
 clear hst hrd
 refine callsIn_of_wp Tryz.func80 rfl trivial ?_ rfl
 simp only [Tryz.ntmps80,List.size_toArray,List.length_cons,List.length_nil,Nat.reduceAdd,Nat.reduceSub,Array.replicate_succ,Array.replicate_zero,List.push_toArray,List.append_toArray,List.nil_append,List.cons_append]
 gi_wp2_with fail
 gi_loopw [12] (fun i wr=>∃ k:Nat,k≤R.length∧i=.int .i64 k∧Same0 w wr∧J k wr) (fun i _=>R.length-(intOf i).toNat)
 case atStart=>exact ⟨0,Nat.zero_le _,rfl,KW,h0⟩
 case round=>
  clear s1 s2
  obtain ⟨k,hk,rfl,hs,hj⟩:=hrel
  by_cases hlt:k<R.length
  ·obtain ⟨s2,s3⟩:=ST.out wr hs
   obtain ⟨gb,goff,rfl,hgb,ao,ac,bo,bc,r0,r1,A1,A2⟩:=s3.get hlt
   have i1:(0:Int)≤(k:Int):=by omega
   have i2:(k:Int)<(R.length:Int):=by omega
   obtain ⟨⟨p1,m1⟩,p2,m2⟩:=OK.out R[k] (List.getElem_mem hlt)
   obtain ⟨wa,hwa⟩:∃ wa,wa=wr.alloc (.cells #[.slice ao R[k].1.length ac,.slice bo R[k].2.length bc] 90):=⟨_,rfl⟩
   have ka:Same0 wr wa:=by rw [hwa];exact (Kept.refl _ _).alloc _
   have hx:wa.heap[wr.heap.size]? = some (.cells #[.slice ao R[k].1.length ac,.slice bo R[k].2.length bc] 90 (0,0)):=by rw [hwa];exact heap_alloc_new _ _
   have y0:=cellAt hx 0
   have y1:=cellAt hx 1
   simp only [List.getElem?_toArray,List.getElem?_cons_zero,List.getElem?_cons_succ] at y0 y1
   have CC:=(callsIn_wide (n:=n-1)).2 (copied_any (ac:=ac) (bc:=bc) (x:=R[k]) (A1.same ka).at' (A2.same ka).at' p1 p2 m1 m2)
   have HYY:Hid (∀ X vs,J k X→RuLk R k vs X→YieldAt Fence.wide (n-1) Tryz.prog l vs X fun e Y=>e=.returned (.bool true)∧J (k+1) Y∧Below w.heap.size X Y):=fun X vs h1 h2=>hY k vs X hlt h1 h2
   have HJJ:Hid (∀ X,Same0 wr X→J k X):=fun X h1=>hJ k wr X hj h1
   gi_wp2_with (gi_at_call 81;rw [← hwa];refine CC.mono ?_;rintro e w3 ⟨g,c,g', c', rfl,t1,t2, -, -, -,k3⟩;obtain ⟨fn,tmps,asg,bdy,hy,hR⟩:=HYY.out w3 _ (HJJ.out w3 (ka.trans' k3)) ⟨hlt,g,c,g', c', rfl,t1,t2⟩)
   refine hR.mono ?_
   rintro e w4 ⟨rfl,hj4,hb4⟩
   have hs4:Same0 w w4:=Same0.of_below ((hs.trans' (ka.trans' k3)).below.trans hb4)
   clear hR hy HYY HJJ CC y0 y1 hx t1 t2
   gi_wp2_with fail
   go_roundw
   case rel=>exact ⟨k+1,by omega,by go_num,hs4,hj4⟩
   case measure=>simp [intOf];omega
  ·obtain rfl:k=R.length:=by omega
   gi_wp2_with fail
   go_end0
   exact ⟨⟨_,rfl⟩,hj⟩
end Go.Proofs.YtmjgnfkbnofjoaaGreatDoor
namespace Go.Proofs.YtmjgnfkbnofjoaaGreatDoor
open Go.RowKit Go.Shelf
attribute [local go_sem] Oper.semAt_some
set_option maxHeartbeats 1000000 in
theorem all_in (F:Fence) (n:Nat) (h22:F.fn 23) (hro:F.round=none) (p0:Option Addr) (w:World) :
  CallsIn F n Tryz.prog 23 #[.pointer p0] w fun e w' => e=.returned (.func (.func 51) #[] #[.pointer (some ⟨w.heap.size,0,none⟩)])∧w' = w.alloc (.cells #[.pointer p0] 41):=by
 refine callsIn_of_wp Tryz.func23 rfl h22 ?_ hro
 simp only [Tryz.ntmps23,List.size_toArray,List.length_cons,List.length_nil,Nat.reduceAdd,Nat.reduceSub,Array.replicate_succ,Array.replicate_zero,List.push_toArray,List.append_toArray,List.nil_append,List.cons_append]
 gi_wp2
 go_ret
 exact ⟨rfl,rfl⟩
end Go.Proofs.YtmjgnfkbnofjoaaGreatDoor
namespace Go.Proofs.YtmjgnfkbnofjoaaGreatDoor
set_option maxRecDepth 100000
set_option linter.unusedVariables false
open Go.RowKit Go.Shelf
attribute [local go_sem] Oper.semAt_some
def SyLk (L:List Sym) (k:Nat) (vs:Array Value) (W:World):Prop:=∃ h:k<L.length,vs = #[.int .i64 (k:Int),symV L[k]]
set_option maxHeartbeats 8000000 in
theorem hands_syms {n:Nat} {w wx:World} {b:Nat} {L:List Sym} {sv:Value} {mr:Option Nat} (hs:SigAt w b L sv mr) (hwx:Same0 w wx) {Bn:Nat} (hbx:wx.cell? ⟨Bn,0,none⟩=some (.pointer (some ⟨b,0,none⟩))) (hn:1≤n) :
  Hands Fence.wide n Tryz.prog 51 #[.pointer (some ⟨Bn,0,none⟩)] w.heap.size L.length (SyLk L) wx:=by
 intro l J W hW hJ hY h0
 have hFn:∀ k,Fence.wide.fn k:=fun _=>trivial
 have KW:Same0 w W:=hwx.trans' hW
 have s1:W.cell? ⟨Bn,0,none⟩=some (.pointer (some ⟨b,0,none⟩)):=(hW.cell (p:=⟨Bn,0,none⟩) (World.block_lt_of_cell? _ _ hbx) (fun f=>f)).trans hbx
 obtain ⟨ao,cap,rfl⟩:=hs.sv
 have hlen:=hs.len
 have HS:Hid (∀ X,Same0 w X→SigAt X b L (.slice ao L.length cap) mr):=fun X hk=>hs.kept hk (fun _ _ f=>f)
 have c0:W.cell? ⟨b,0,none⟩=some (.slice ao L.length cap):=cellAt (HS.out W KW).blk 0
 have hpn:∀ ww:World,(binOp .eql 41 (.pointer (some ⟨b,0,none⟩)) (.pointer none)).run Tryz.prog ww=.ok (.bool false) ww:=fun ww=>by kernel_rfl
 clear hs
 refine callsIn_of_wp Tryz.func51 rfl trivial ?_ rfl
 simp only [Tryz.ntmps51,List.size_toArray,List.length_cons,List.length_nil,Nat.reduceAdd,Nat.reduceSub,Array.replicate_succ,Array.replicate_zero,List.push_toArray,List.append_toArray,List.nil_append,List.cons_append]
 gi_wp2_with fail
 gi_loopw [12] (fun i wr=>∃ k:Nat,k≤L.length∧i=.int .i64 k∧Same0 w wr∧J k wr) (fun i _=>L.length-(intOf i).toNat)
 case atStart=>exact ⟨0,Nat.zero_le _,rfl,KW,h0⟩
 case round=>
  clear s1 c0
  obtain ⟨k,hk,rfl,hs,hj⟩:=hrel
  by_cases hlt:k<L.length
  ·have hsr:=HS.out wr hs
   obtain ⟨g,rfl,hg,x0,x1,x2⟩:=hsr.sym hlt
   have i1:(0:Int)≤(k:Int):=by omega
   have i2:(k:Int)<(L.length:Int):=by omega
   have ka:Same0 wr (wr.alloc (.cells #[.string L[k].name,.int .i64 L[k].ar,.bool L[k].df] 60)):=(Kept.refl _ _).alloc _
   obtain ⟨fn,tmps,asg,bdy,hy,hR⟩:=hY k _ _ hlt (hJ k _ _ hj ka) ⟨hlt,rfl⟩
   have hs3:=hs.trans' ka
   gi_wp2_with fail
   refine hR.mono ?_
   rintro e w4 ⟨rfl,hj4,hb4⟩
   have hs4:Same0 w w4:=Same0.of_below (hs3.below.trans hb4)
   clear hR hy hsr
   gi_wp2_with fail
   go_roundw
   case rel=>exact ⟨k+1,by omega,by go_num,hs4,hj4⟩
   case measure=>simp [intOf];omega
  ·obtain rfl:k=L.length:=by omega
   gi_wp2_with fail
   go_end0
   exact ⟨⟨_,rfl⟩,hj⟩
end Go.Proofs.YtmjgnfkbnofjoaaGreatDoor
namespace Go.Proofs.YtmjgnfkbnofjoaaGreatDoor
set_option linter.unusedVariables false
open Go.RowKit
attribute [local go_sem ↓] Go.wp_at_zero Go.wp_at_succ
def firsts (st:List (Nat × Nat)):List Int:=ofN (st.reverse.map Prod.fst)
theorem firsts_length (st:List (Nat × Nat)):(firsts st).length=st.length:=by simp [firsts,ofN]
theorem firsts_take {st:List (Nat × Nat)} {k:Nat} (h:k<st.length):(firsts st).take (k+1)=(firsts st).take k ++ [((st.reverse[k]'(by simpa using h)).1:Int)]:=by
 rw [List.take_add_one,List.getElem?_eq_getElem (by rw [firsts_length];exact h)]
 simp [firsts,ofN]
set_option maxHeartbeats 4000000 in
theorem tpathv_any {base:Nat} {w:World} {v:Value} {st:List (Nat × Nat)} (hr:w.ownsRow base 351 2 v st.length (turnCells st.reverse)) (hl:st.length≤2000) :
  Calls Tryz.prog 218 #[v] w fun e w' => ∃ v', e=.returned v' ∧ Row w.heap.size w' v' (firsts st)∧Same0 w w' := by
 obtain ⟨vo,vcap,rfl⟩:=row_shape hr
 obtain ⟨i,hi,hz0,hz1,hz2⟩:=info_parts info_intT
 go_enter Tryz.func218,Tryz.ntmps218
 go_wp2_with (first | (at_make;refine wpList_make_full _ rfl _ _ 51 rfl w.heap.size 3 i _ 1 Tryz.underlying51 hi hz0 hz1 _ _ _ _ st.length rfl rfl rfl rfl (by rw [hz2];omega) (by unfold maxLen;omega) (Nat.le_refl _) ?_;intro w3 hown hgrow))
 have L0:Laid w.heap.size w.heap.size st.length 0 ((firsts st).take 0) w w3:=⟨_,hown,by simp [iv],Same0.grown (Kept.refl _ w) hgrow⟩
 clear hown hgrow hi hz0 hz1 hz2
 have HR:Hid (w.ownsRow base 351 2 (.slice vo st.length vcap) st.length (turnCells st.reverse)):=hr
 clear hr
 go_loopw [11] (fun kv wr=>∃ k:Nat,k≤st.length∧kv=.int .i64 (k:Int)∧Laid w.heap.size w.heap.size st.length k ((firsts st).take k) w wr) (fun kv _=>st.length-(intOf kv).toNat)
 case atStart=>exact ⟨0,Nat.zero_le _,rfl,L0⟩
 case round=>
  clear L0
  obtain ⟨k,hk,rfl,hL⟩:=hrel
  by_cases hlt:k<st.length
  ·have hsm:Same0 w wr:=by obtain ⟨_,_,_,h3⟩:=hL;exact h3
   have hrw:=Kept.row hsm HR.out (fun _ _ f=>f)
   obtain ⟨g,cap,hv,_,hg⟩:=hrw.form (by omega)
   simp only [Value.slice.injEq,true_and] at hv
   obtain ⟨rfl,rfl⟩:=hv
   have hkr:k<st.reverse.length:=by simpa using hlt
   obtain ⟨c1,c2⟩:=turnCells_at hkr
   have q1:wr.cell? ⟨g,k * 2,none⟩=some (.int .i64 (st.reverse[k].1:Int)):=by rw [hrw.cellAt _ (by omega)];exact c1
   have q2:wr.cell? ⟨g,k * 2+1,none⟩=some (.int .i64 (st.reverse[k].2:Int)):=by rw [hrw.cellAt _ (by omega)];exact c2
   have e2:Hid ((firsts st).take (k+1)=(firsts st).take k ++ [(st.reverse[k].1:Int)]):=firsts_take hlt
   have i1:(0:Int)≤(k:Int):=by omega
   have i2:(k:Int)<(st.length:Int):=by omega
   generalize st.reverse[k].1=x1 at *
   generalize st.reverse[k].2=x2 at *
   clear hrw c1 c2
   obtain ⟨old,f1,f2⟩:∃ old,wr.cell? ⟨w.heap.size,k,none⟩=some old∧wr.frozen? ⟨w.heap.size,k,none⟩=false:=by obtain ⟨ys,h1,_⟩:=hL;exact row_put h1 hlt
   have hwl:w.heap.size<wr.heap.size:=by obtain ⟨ys,h1,_⟩:=hL;exact (h1.lt _ rfl).2
   have hne:¬ w.heap.size=wr.heap.size:=by omega
   have hLn:=(hL.next hlt (Nat.le_refl _) (x1:Int)).same ((Kept.refl _ _).alloc (.cells #[.int .i64 (x1:Int),.int .i64 (x2:Int)] 351))
   go_wp2
   refine ⟨⟨k+1,by omega,by go_num,?_⟩,by simp [intOf];omega⟩
   rw [e2.out];exact hLn
  ·obtain rfl:k=st.length:=by omega
   have hrr:=hL.row
   obtain ⟨_,_,_,hs⟩:=hL
   go_wp2
   go_ret
   refine ⟨_,rfl,?_,hs⟩
   have:=hrr.1
   rwa [List.take_of_length_le (by rw [firsts_length];exact Nat.le_refl _)] at this
theorem way_length (L:List Sym) (t:List Int) (k:Nat) (hk:k≤t.length):(way L t k).length≤k:=by
 induction k with
 | zero=>simp [way,run]
 | succ k ih=>
  rw [way_succ (by omega)]
  have:=pass_length (way L t k) (arN L (t[k]'(by omega)))
  have:=ih (by omega)
  omega
def WayAt (w:World) (a:Nat) (st:List (Nat × Nat)) (wr:World):Prop:=∃ v,TrailAt w.heap.size wr a v st∧Same0 w wr∧w.heap.size≤a∧∀ k,v.ownBlock=some k→w.heap.size≤k
theorem WayAt.start {w w1:World} (k:Same0 w w1):WayAt w w1.heap.size [] (w1.alloc (.cells #[.slice none 0 0] 331)):=
 ⟨.slice none 0 0,⟨heap_alloc_new w1 _,World.ownsRow_nil _ _ _ _,by simp [Value.ownBlock],fun x hx=>by simp at hx,by simp⟩,k.alloc _,k.size,fun k e=>by simp [Value.ownBlock] at e⟩
theorem WayAt.same {w wr wr' : World} {a:Nat} {st:List (Nat × Nat)} (h:WayAt w a st wr) (k:Same0 wr wr'):WayAt w a st wr' := by
 obtain ⟨v,h1,h2,h3,h4⟩:=h
 exact ⟨v,h1.same k,h2.trans' k,h3,h4⟩
theorem WayAt.pass {w wr:World} {a:Nat} {st:List (Nat × Nat)} (h:WayAt w a st wr) (n:Nat) (hn:n≤6) (hl:st.length<2000) :
  Calls Tryz.prog 217 #[.pointer (some ⟨a,0,none⟩),.int .i64 (n:Int)] wr fun e w' => (∃ x,e=.returned x)∧WayAt w a (Proofs.YtmjgnfkbnofjoaaGreatDoor.pass st n) w' := by
 obtain ⟨v,h1,h2,h3,h4⟩:=h
 refine (pass_any h1 h2.size n hn hl).mono ?_
 rintro e w' ⟨hx,v', t1,t2,t3⟩
 have hf:∀ k,TFoot a v k→w.heap.size≤k:=fun k hk=>hk.elim (fun e=>by omega) (h4 k)
 refine ⟨hx,v', t1,Kept.trans h2 t2 (fun i hi e=>by have:=hf i e;omega),h3,fun k e=>?_⟩
 rcases t3 k (.inr e) with e1 | e1
 ·exact hf k e1
 ·have:=h2.size;omega
theorem WayAt.cell {w wr:World} {a:Nat} {st:List (Nat × Nat)} (h:WayAt w a st wr):∃ vo vcap,wr.cell? ⟨a,0,none⟩=some (.slice vo st.length vcap)∧wr.ownsRow w.heap.size 351 2 (.slice vo st.length vcap) st.length (turnCells st.reverse):=by
 obtain ⟨v,h1,h2,h3,h4⟩:=h
 obtain ⟨vo,vcap,rfl⟩:=row_shape h1.row
 exact ⟨vo,vcap,cellAt h1.blk 0,h1.row⟩
def pathA (L:List Sym) (t:List Int) (a:Int):List Int:=if placeE L t a=0 then firsts (way L t a.toNat) else []
set_option maxHeartbeats 4000000 in
theorem tpath_any {n b:Nat} {w:World} {L:List Sym} (h:Sg n w b L) {ao:Option Addr} {cap:Nat} {t:List Int} (ht:IntsAt w ao t) (hm:t.length≤maxLen) (hcap:t.length≤cap) (a:Int) :
  Calls Tryz.prog 178 #[.pointer (some ⟨b,0,none⟩),.slice ao t.length cap,.int .i64 a] w fun e w' => ∃ v,e=.returned (.tuple #[v,.int .i64 (placeE L t a)])∧Row w.heap.size w' v (pathA L t a)∧Same0 w w' := by
 have c:=checkPlace_any (cap:=cap) h ht hm a
 by_cases hz:placeE L t a=0
 ·obtain ⟨p,rfl,hp,h0,h1,h2⟩:=place_zero hz
  have H:Hid (placeE L t p=0∧pathA L t p=firsts (way L t p)):=by
   refine ⟨hz,?_⟩
   rw [pathA,if_pos hz];rfl
  have c1:Hid (∀ w1 x,Same0 w w1→Calls Tryz.prog 201 #[.pointer (some ⟨b,0,none⟩),.int .i64 x] w1 fun e w' => e=.returned (.int .i64 ((arN L x:Nat):Int))∧Same0 w1 w'):=fun w1 x hk=>arity_any (h.same hk) x
  have HAR:Hid (∀ x,arN L x≤6):=fun x=>arN_le h.2 x
  have hpc:(p:Int)≤(cap:Int):=by omega
  have i0:(0:Int)≤(p:Int):=by omega
  obtain ⟨tb,off,rfl,htb,hc⟩:=ht.get hp
  clear hc
  rw [hz] at c
  go_enter Tryz.func178,Tryz.ntmps178
  go_wp2_with (first | (go_at_call 162;refine c.mono ?_;rintro e w1 ⟨rfl,hk1⟩))
  have W0:WayAt w w1.heap.size (way L t 0) (w1.alloc (.cells #[.slice none 0 0] 331)):=WayAt.start hk1
  generalize hA:w1.heap.size=A at *
  clear c
  go_loopw [23] (fun kv wr=>∃ k:Nat,k≤p∧kv=.int .i64 (k:Int)∧WayAt w A (way L t k) wr) (fun kv _=>p-(intOf kv).toNat)
  case atStart=>exact ⟨0,Nat.zero_le _,rfl,W0⟩
  case round=>
   clear W0
   obtain ⟨k,hk,rfl,hW⟩:=hrel
   have hs:Same0 w wr:=by obtain ⟨_,_,h2,_⟩:=hW;exact h2
   by_cases hlt:k<p
   ·have hkt:k<t.length:=by omega
    obtain ⟨tb', off', e,_,hcc⟩:=(ht.same hs).get hkt
    simp only [Option.some.injEq,Addr.mk.injEq,and_true] at e
    obtain ⟨rfl,rfl⟩:=e
    have cA:=c1.out wr t[k] hs
    have h6:=HAR.out t[k]
    have E:Hid (way L t (k+1)=pass (way L t k) (arN L t[k])):=way_succ hkt
    have hwl:=way_length L t k (by omega)
    have i1:(0:Int)≤(k:Int):=by omega
    have i2:(k:Int)<(p:Int):=by omega
    generalize arN L t[k]=m at *
    go_wp2_with fail
    refine cA.mono ?_
    rintro e w4 ⟨rfl,k4⟩
    have cP:=(hW.same k4).pass m h6 (by omega)
    clear hW cA
    go_wp2_with fail
    refine cP.mono ?_
    rintro e w5 ⟨⟨x,rfl⟩,hW5⟩
    clear cP
    go_wp2
    refine ⟨⟨k+1,by omega,by go_num,?_⟩,by simp [intOf];omega⟩
    rw [E.out];exact hW5
   ·obtain rfl:k=p:=by omega
    obtain ⟨vo,vcap,q0,q1⟩:=hW.cell
    have hwl:=way_length L t k (by omega)
    have cp:=tpathv_any q1 (by omega)
    clear hW q1
    go_wp2_with fail
    refine cp.mono ?_
    rintro e w6 ⟨v', rfl,hr,k6⟩
    clear cp
    have hr' := row_mono hr hs.size
    go_wp2
    go_ret2
    refine ⟨v', ?_,?_,hs.trans' k6⟩
    ·rw [H.out.1];rfl
    ·rw [H.out.2];exact hr'
 ·have H:Hid (pathA L t a=[]):=by show _=_;rw [pathA,if_neg hz]
  have hz' : (placeE L t a == 0)=false:=by simpa using hz
  go_enter Tryz.func178,Tryz.ntmps178
  go_wp2_with (first | (go_at_call 162;refine c.mono ?_;rintro e w1 ⟨rfl,hk1⟩))
  go_ret2
  refine ⟨_,rfl,?_,hk1⟩
  rw [H.out]
  exact World.ownsRow_nil _ _ _ _
end Go.Proofs.YtmjgnfkbnofjoaaGreatDoor
namespace Go.Proofs.YtmjgnfkbnofjoaaGreatDoor
set_option maxRecDepth 100000
set_option linter.unusedVariables false
open Go.RowKit
attribute [local go_sem ↓] Go.wp_at_zero Go.wp_at_succ
def idxG:List Int→Nat→Int→Int
 | [],_,_=>-1
 | x :: r,i,y=>if y=x then (i:Int) else idxG r (i+1) y
def idxI (t:List Int) (y:Int):Int:=idxG t 0 y
theorem idxG_step {t:List Int} {k:Nat} (h:k<t.length) (y:Int):idxG (t.drop k) k y=if y=t[k] then (k:Int) else idxG (t.drop (k+1)) (k+1) y:=by
 rw [List.drop_eq_getElem_cons h,idxG]
set_option maxHeartbeats 2000000 in
theorem indexI_any {w:World} {so:Option Addr} {sc:Nat} {t:List Int} (ht:IntsAt w so t) (hm:t.length≤2000) (y:Int) :
  Calls Tryz.prog 179 #[.slice so t.length sc,.int .i64 y] w fun e w' => e=.returned (.int .i64 (idxI t y))∧w' = w:=by
 go_enter Tryz.func179,Tryz.ntmps179
 go_wp2
 go_loop [8] (fun i=>∃ k:Nat,k≤t.length∧i=.int .i64 (k:Int)∧Hid (idxI t y=idxG (t.drop k) k y)) (fun i=>t.length-(intOf i).toNat)
 case atStart=>exact ⟨0,Nat.zero_le _,rfl,by show _=_;simp [idxI]⟩
 case round=>
  obtain ⟨k,hk,rfl,ha⟩:=hrel
  by_cases hlt:k<t.length
  ·obtain ⟨tb,off,rfl,_,hc⟩:=ht.get hlt
   have i1:(0:Int)≤(k:Int):=by omega
   have i2:(k:Int)<(t.length:Int):=by omega
   by_cases hq:y=t[k]
   ·have H:Hid (idxI t y=(k:Int)):=by rw [ha.out];show _=_;rw [idxG_step hlt,if_pos hq]
    have q1:(y == t[k])=true:=by simpa using hq
    clear hq ha
    go_wp2
    go_ret
    exact ⟨by rw [H.out];rfl,rfl⟩
   ·have H:Hid (idxI t y=idxG (t.drop (k+1)) (k+1) y):=by rw [ha.out];show _=_;rw [idxG_step hlt,if_neg hq]
    have q1:(y == t[k])=false:=by simpa using hq
    clear hq ha
    go_wp2
    exact ⟨⟨k+1,by omega,by go_num,H⟩,by simp [intOf];omega⟩
  ·have H:Hid (idxI t y = -1):=by rw [ha.out];show _=_;rw [List.drop_eq_nil_of_le (by omega)];rfl
   go_wp2
   go_ret
   exact ⟨by rw [H.out];rfl,rfl⟩
def partP (L:List Sym) (left:List Int) (x:Int):Int × List Int:=if 0≤x then (x,[]) else (-1,pathA L left (idxI left x))
theorem pathA_len (L:List Sym) (t:List Int) (a:Int) (hm:t.length≤2000):(pathA L t a).length≤2000:=by
 unfold pathA
 split
 ·rename_i h
  obtain ⟨p,rfl,hp,_⟩:=place_zero h
  rw [firsts_length,Int.toNat_natCast]
  have:=way_length L t p (by omega)
  omega
 ·simp
set_option maxHeartbeats 8000000 in
theorem partOf_any {n b:Nat} {w:World} {L:List Sym} (h:Sg n w b L) {ao:Option Addr} {cap:Nat} {t:List Int} (ht:IntsAt w ao t) (hm:t.length≤2000) (hcap:t.length≤cap) (x:Int) :
  Calls Tryz.prog 127 #[.pointer (some ⟨b,0,none⟩),.slice ao t.length cap,.int .i64 x] w fun e w' => ∃ so sc,e=.returned (.agg #[.int .i64 (partP L t x).1,.slice so (partP L t x).2.length sc])∧Row w.heap.size w' (.slice so (partP L t x).2.length sc) (partP L t x).2∧Same0 w w' := by
 have hmx:t.length≤maxLen:=by unfold maxLen;omega
 obtain ⟨W1,hW1⟩:∃ W1,W1=w.alloc (.cells #[.int .i64 0,.slice none 0 0] 105):=⟨_,rfl⟩
 have KW:Same0 w W1:=by rw [hW1];exact (Kept.refl _ w).alloc _
 have hbx:W1.heap[w.heap.size]? = some (.cells #[.int .i64 0,.slice none 0 0] 105 (0,0)):=by rw [hW1];exact heap_alloc_new w _
 have zW:=lt_of_at hbx
 have RC:Hid (∀ ww,Same0 W1 ww→(ww.cell? ⟨w.heap.size,0,none⟩=some (.int .i64 0)∧ww.cell? ⟨w.heap.size,1,none⟩=some (.slice none 0 0))∧ww.frozen? ⟨w.heap.size,0,none⟩=false∧ww.frozen? ⟨w.heap.size,1,none⟩=false):=fun ww hk=>by
  have:=hk.at0 hbx
  exact ⟨⟨cellAt this 0,cellAt this 1⟩,frozenAt this 0,frozenAt this 1⟩
 have PUT:Hid (∀ ww x y,Same0 W1 ww→(((ww.setCell ⟨w.heap.size,0,none⟩ x).setCell ⟨w.heap.size,1,none⟩ y).cell? ⟨w.heap.size,0,none⟩=some x∧((ww.setCell ⟨w.heap.size,0,none⟩ x).setCell ⟨w.heap.size,1,none⟩ y).cell? ⟨w.heap.size,1,none⟩=some y)∧Kept (fun k=>k=w.heap.size) ww ((ww.setCell ⟨w.heap.size,0,none⟩ x).setCell ⟨w.heap.size,1,none⟩ y)∧Same0 w ((ww.setCell ⟨w.heap.size,0,none⟩ x).setCell ⟨w.heap.size,1,none⟩ y)):=fun ww x y hk=>by
  have h1:=hk.at0 hbx
  have h2:=setAt (setAt h1 0 x) 1 y
  have k1:=kept_at ww w.heap.size 0 x
  have k2:=kept_at (ww.setCell ⟨w.heap.size,0,none⟩ x) w.heap.size 1 y
  have k3:=Kept.trans k1 k2 (fun _ _ e=>e)
  exact ⟨⟨cellAt h2 0,cellAt h2 1⟩,k3,Kept.trans (KW.trans' hk) k3 (fun i hi e=>by omega)⟩
 obtain ⟨⟨r0,r1⟩,f0,f1⟩:=RC.out W1 (Kept.refl _ _)
 by_cases hx:0≤x
 ·have HP:Hid (partP L t x=(x,[])):=by show _=_;rw [partP,if_pos hx]
  have PH:Hid _:=PUT.out W1 (.int .i64 x) (.slice none 0 0) (Kept.refl _ _)
  clear h ht
  go_enter Tryz.func127,Tryz.ntmps127
  go_upto_region 1 with fail
  rw [← hW1]
  clear hW1
  go_wp2_with fail
  obtain ⟨⟨g0,g1⟩,kk,ks⟩:=PH.out
  refine bodyPost_ret (v:=.agg #[.int .i64 x,.slice none 0 0]) (by simp [results,Tryz.results127,go_sem,g0,g1]) rfl ?_
  rw [HP.out]
  exact ⟨none,0,rfl,World.ownsRow_nil _ _ _ _,ks⟩
 ·have HP:Hid (partP L t x=(-1,pathA L t (idxI t x))):=by show _=_;rw [partP,if_neg hx]
  have CI:=indexI_any (sc:=cap) (ht.same KW) hm x
  have CP:Calls Tryz.prog 178 #[.pointer (some ⟨b,0,none⟩),.slice ao t.length cap,.int .i64 (idxI t x)] W1 fun e w' => ∃ so sc er,e=.returned (.tuple #[.slice so (pathA L t (idxI t x)).length sc,.int .i64 er])∧Hid (Row W1.heap.size w' (.slice so (pathA L t (idxI t x)).length sc) (pathA L t (idxI t x)))∧Same0 W1 w' := by
   refine (tpath_any (h.same KW) (ht.same KW) hmx hcap (idxI t x)).mono ?_
   rintro e w' ⟨v,rfl,hr,hk⟩
   obtain ⟨so,sc,rfl,_⟩:=hr.ints
   exact ⟨so,sc,_,rfl,hr,hk⟩
  generalize idxI t x=z at *
  generalize pathA L t z=q at *
  clear h ht
  go_enter Tryz.func127,Tryz.ntmps127
  go_upto_region 1 with fail
  rw [← hW1]
  clear hW1
  go_wp2_with (first
   | (go_at_call 179;refine CI.mono ?_;rintro e w2 ⟨rfl,rfl⟩)
   | (go_at_call 178;refine CP.mono ?_;rintro e w3 ⟨so,sc,er,rfl,hr,k3⟩;obtain ⟨⟨r2,r3⟩,f2,f3⟩:=RC.out w3 k3))
  obtain ⟨⟨g0,g1⟩,kk,ks⟩:=PUT.out w3 (.int .i64 (-1)) (.slice so q.length sc) k3
  refine bodyPost_ret (v:=.agg #[.int .i64 (-1),.slice so q.length sc]) (by simp [results,Tryz.results127,go_sem,g0,g1]) rfl ?_
  rw [HP.out]
  have hr2:=kk.row hr.out (fun k e q=>by
   rcases hr.out.2 with ⟨e1,_⟩ | ⟨g,_,_,e1,e2,_⟩
   ·rw [e1] at e;simp [Value.ownBlock] at e
   ·rw [e1] at e;simp only [Value.ownBlock,Option.some.injEq] at e;omega)
  exact ⟨so,sc,rfl,row_mono hr2 (by omega),ks⟩
end Go.Proofs.YtmjgnfkbnofjoaaGreatDoor
namespace Go.Proofs.YtmjgnfkbnofjoaaGreatDoor
set_option maxRecDepth 100000
set_option linter.unusedVariables false
open Go.RowKit Go.Shelf
def partsL (L:List Sym) (x:Ru):List (Int × List Int):=x.2.map (partP L x.1)
def rightsL (L:List Sym) (R:List Ru):List (List (Int × List Int)):=R.map (partsL L)
theorem info_part:(Tryz.prog.info? 105).map (fun i=>(i.zero,i.size,i.bytes))=some (some (.agg #[.int .i64 0,.slice none 0 0]),2,32):=by kernel_rfl
theorem info_parts9:(Tryz.prog.info? 103).map (fun i=>(i.zero,i.size,i.bytes))=some (some (.slice none 0 0),1,24):=by kernel_rfl
def PtC (base:Nat) (W:World) (g k:Nat) (Q:List (Int × List Int)):Prop:=
 ∃ cur,W.heap[g]? = some (.cells cur 105 (0,0))∧cur.size=Q.length * 2∧∀ i (h:i<Q.length),i<k→∃ ao ac,cur[i * 2]? = some (.int .i64 Q[i].1)∧cur[i * 2+1]? = some (.slice ao Q[i].2.length ac)∧ArgT W ao Q[i].2 ac∧∀ a,ao=some a→base≤a.block
theorem PtC.kept {base:Nat} {W W' : World} {g k:Nat} {Q:List (Int × List Int)} {S:Nat→Prop} (h:PtC base W g k Q) (hk:Kept S W W') (hg:¬ S g) (hS:∀ k,S k→∀ cur,W.heap[k]? ≠ some (.cells cur 3 (0,0))):PtC base W' g k Q:=by
 obtain ⟨cur,h1,h2,h3⟩:=h
 refine ⟨cur,hk.at h1 hg,h2,fun i hi hik=>?_⟩
 obtain ⟨ao,ac,a,b,c,d⟩:=h3 i hi hik
 exact ⟨ao,ac,a,b,c.kept hk hS,d⟩
theorem PtC.same {base:Nat} {W W' : World} {g k:Nat} {Q:List (Int × List Int)} (h:PtC base W g k Q) (hk:Same0 W W'):PtC base W' g k Q:=h.kept hk (fun f=>f) (fun _ f=>f.elim)
theorem PtC.put {base:Nat} {W:World} {g k:Nat} {Q:List (Int × List Int)} (h:PtC base W g k Q) (hk:k<Q.length) {ao:Option Addr} {ac:Nat} (ha:ArgT W ao Q[k].2 ac) (hb:∀ a,ao=some a→base≤a.block):PtC base ((W.setCell ⟨g,k * 2,none⟩ (.int .i64 Q[k].1)).setCell ⟨g,k * 2+1,none⟩ (.slice ao Q[k].2.length ac)) g (k+1) Q∧(∃ o1 o2,W.cell? ⟨g,k * 2,none⟩=some o1∧W.cell? ⟨g,k * 2+1,none⟩=some o2)∧W.frozen? ⟨g,k * 2,none⟩=false∧W.frozen? ⟨g,k * 2+1,none⟩=false:=by
 obtain ⟨cur,h1,h2,h3⟩:=h
 have kk:=Kept.trans (kept_at W g (k * 2) (.int .i64 Q[k].1)) (kept_at _ g (k * 2+1) (.slice ao Q[k].2.length ac)) (fun _ _ e=>e)
 have ty:∀ q,(fun q=>q=g) q→∀ cur,W.heap[q]? ≠ some (.cells cur 3 (0,0)):=fun q e cur' hc=>by
  have e' : q=g:=e
  rw [e', h1] at hc;cases hc
 have l1:k * 2<cur.size:=by omega
 have l2:k * 2+1<cur.size:=by omega
 refine ⟨⟨(cur.setIfInBounds (k * 2) (.int .i64 Q[k].1)).setIfInBounds (k * 2+1) (.slice ao Q[k].2.length ac),setAt (setAt h1 _ _) _ _,by simp [h2],fun i hi hik=>?_⟩,⟨cur[k * 2],cur[k * 2+1],by rw [cellAt h1];simp [l1],by rw [cellAt h1];simp [l2]⟩,frozenAt h1 _,frozenAt h1 _⟩
 by_cases e:i=k
 ·subst e
  refine ⟨ao,ac,?_,?_,ha.kept kk ty,hb⟩
  ·rw [Array.getElem?_setIfInBounds_ne (by omega)];simp [l1]
  ·simp [l2]
 ·obtain ⟨bo,bc,a,b,c,d⟩:=h3 i hi (by omega)
  refine ⟨bo,bc,?_,?_,c.kept kk ty,d⟩
  ·rw [Array.getElem?_setIfInBounds_ne (by omega),Array.getElem?_setIfInBounds_ne (by omega)];exact a
  ·rw [Array.getElem?_setIfInBounds_ne (by omega),Array.getElem?_setIfInBounds_ne (by omega)];exact b
def RtC (base:Nat) (W:World) (cs:List Value) (Q:List (List (Int × List Int))):Prop:=
 cs.length=Q.length∧∀ i (h:i<Q.length),∃ g gc,cs[i]? = some (.slice (some ⟨g,0,none⟩) Q[i].length gc)∧base≤g∧PtC base W g Q[i].length Q[i]
theorem RtC.kept {base:Nat} {W W' : World} {cs:List Value} {Q:List (List (Int × List Int))} {S:Nat→Prop} (h:RtC base W cs Q) (hk:Kept S W W') (hS:∀ k,S k→(∀ cur,W.heap[k]? ≠ some (.cells cur 3 (0,0)))∧∀ cur,W.heap[k]? ≠ some (.cells cur 105 (0,0))):RtC base W' cs Q:=
 ⟨h.1,fun i hi=>by
  obtain ⟨g,gc,a,b,c⟩:=h.2 i hi
  refine ⟨g,gc,a,b,c.kept hk (fun s=>?_) (fun k s=>(hS k s).1)⟩
  obtain ⟨cur,h1,_⟩:=c
  exact (hS g s).2 cur h1⟩
theorem RtC.same {base:Nat} {W W' : World} {cs:List Value} {Q:List (List (Int × List Int))} (h:RtC base W cs Q) (hk:Same0 W W'):RtC base W' cs Q:=h.kept hk (fun _ f=>f.elim)
theorem RtC.nil (base:Nat) (W:World):RtC base W [] []:=⟨rfl,fun i h=>absurd h (by simp)⟩
theorem RtC.snoc {base:Nat} {W:World} {cs:List Value} {Q:List (List (Int × List Int))} (h:RtC base W cs Q) {q:List (Int × List Int)} {g gc:Nat} (hg:base≤g) (hp:PtC base W g q.length q):RtC base W (cs ++ [.slice (some ⟨g,0,none⟩) q.length gc]) (Q ++ [q]):=by
 refine ⟨by simp [h.1],fun i hi=>?_⟩
 by_cases hl:i<Q.length
 ·rw [List.getElem_append_left hl,List.getElem?_append_left (by rw [h.1];omega)]
  exact h.2 i hl
 ·obtain rfl:i=Q.length:=by simp at hi;omega
  refine ⟨g,gc,?_,hg,by simpa using hp⟩
  rw [List.getElem?_append_right (by rw [h.1];omega),h.1];simp
structure RgJ (L:List Sym) (R:List Ru) (w:World) (bs k:Nat) (W:World):Prop where
 same:Same0 w W
 bx:W.heap[w.heap.size]? = some (.cells #[.pointer (some ⟨bs,0,none⟩)] 41 (0,0))
 row:∃ v cs,W.heap[w.heap.size+1]? = some (.cells #[v] 52 (0,0))∧W.ownsRow w.heap.size 103 1 v k cs∧RtC w.heap.size W cs (rightsL L (R.take k))
theorem RgJ.up {L:List Sym} {R:List Ru} {w:World} {bs k:Nat} {W W' : World} (h:RgJ L R w bs k W) (hk:Same0 W W'):RgJ L R w bs k W' := by
 obtain ⟨h1,h2,v,cs,h3,h4,h5⟩:=h
 exact ⟨h1.trans' hk,hk.at0 h2,v,cs,hk.at0 h3,hk.row h4 (fun _ _ f=>f),h5.same hk⟩
theorem kept_put {X:World} {l:Nat} {o' : Obj}:Kept (fun k=>k=l) X (X.putObj l o'):=⟨rfl,rfl,rfl,by simp,fun k _ hn=>World.putObj_heap_other hn⟩
theorem RgJ.put {L:List Sym} {R:List Ru} {w:World} {bs k:Nat} {X:World} {l:Nat} {o o' : Obj} (h:RgJ L R w bs k X) (hl:X.heap[l]? = some o) (ho:o.isCells=false) (hw:w.heap.size≤l):RgJ L R w bs k (X.putObj l o'):=by
 obtain ⟨h1,h2,v,cs,h3,h4,h5⟩:=h
 have kk:Kept (fun k=>k=l) X (X.putObj l o'):=kept_put
 have no:∀ cur t fr,X.heap[l]? ≠ some (.cells cur t fr):=fun cur t fr e=>by rw [hl] at e;cases e;cases ho
 refine ⟨Kept.trans h1 kk (fun i hi e=>by have e' : i=l:=e;omega),putObj_at hl ho h2 rfl,v,cs,putObj_at hl ho h3 rfl,kk.row h4 (fun q e e2=>?_),h5.kept kk (fun q e=>?_)⟩
 ·obtain ⟨cur,hc⟩:=own_typed h4 e
  have e3:q=l:=e2
  rw [e3] at hc
  exact no _ _ _ hc
 ·have e3:q=l:=e
  rw [e3]
  exact ⟨fun cur=>no _ _ _,fun cur=>no _ _ _⟩
theorem own_low {w:World} {base n size:Nat} {T:TypeId} {v:Value} {vs:List Value} (h:w.ownsRow base T size v n vs) {q:Nat} (hq:v.ownBlock=some q):base≤q:=by
 rcases h.2 with ⟨rfl,_⟩ | ⟨g,cap,cur,rfl,hb,_⟩
 ·simp [Value.ownBlock] at hq
 ·simp only [Value.ownBlock,Option.some.injEq] at hq;omega
theorem Rnd.of {D B:Nat} {S:Nat→Prop} {W W' : World} (h:Kept S W W') (hc:∀ k,S k→∃ cur t fr,W.heap[k]? = some (.cells cur t fr)) (hB:∀ k,k<B→¬ S k) (hBW:B≤W.heap.size):Rnd D B W W' :=
 ⟨⟨h.size,fun k o _ hk ho=>h.at hk (fun s=>by obtain ⟨cur,t,fr,e⟩:=hc k s;rw [hk] at e;cases e;cases ho)⟩,h.below hBW hB⟩
theorem RgJ.more {L:List Sym} {R:List Ru} {w:World} {bs k:Nat} {W w1:World} (j1:Same0 w W) (j2:W.heap[w.heap.size]? = some (.cells #[.pointer (some ⟨bs,0,none⟩)] 41 (0,0))) {v v' : Value} {cs:List Value} (j3:W.heap[w.heap.size+1]? = some (.cells #[v] 52 (0,0))) (j4:W.ownsRow w.heap.size 103 1 v k cs) (j5:RtC w.heap.size W cs (rightsL L (R.take k))) (hk:k<R.length) {gp gc:Nat} (hP:PtC w.heap.size W gp (partsL L R[k]).length (partsL L R[k])) (hg:w.heap.size≤gp)
  (hr:w1.ownsRow w.heap.size 103 1 v' (k+1) (cs ++ [.slice (some ⟨gp,0,none⟩) (partsL L R[k]).length gc])) (hkp:Kept (fun q=>v.ownBlock=some q) W w1) {D:Nat} :
  w1.heap[w.heap.size+1]? = some (.cells #[v] 52 (0,0))∧RgJ L R w bs (k+1) (w1.setCell ⟨w.heap.size+1,0,none⟩ v')∧Rnd D w.heap.size W (w1.setCell ⟨w.heap.size+1,0,none⟩ v'):=by
 have ty:∀ q,v.ownBlock=some q→∃ cur,W.heap[q]? = some (.cells cur 103 (0,0)):=fun q e=>own_typed j4 e
 have n3:¬ v.ownBlock=some (w.heap.size+1):=fun e=>by obtain ⟨cur,hc⟩:=ty _ e;rw [j3] at hc;cases hc
 have n2:¬ v.ownBlock=some w.heap.size:=fun e=>by obtain ⟨cur,hc⟩:=ty _ e;rw [j2] at hc;cases hc
 have b3:=hkp.at j3 n3
 have ks:=kept_at w1 (w.heap.size+1) 0 v'
 have kk:Kept (fun q=>v.ownBlock=some q∨q=w.heap.size+1) W (w1.setCell ⟨w.heap.size+1,0,none⟩ v'):=Kept.trans (hkp.mono (fun _ _ e=>.inl e)) ks (fun _ _ e=>.inr e)
 have e1:rightsL L (R.take (k+1))=rightsL L (R.take k) ++ [partsL L R[k]]:=by
  unfold rightsL
  rw [List.take_add_one,List.getElem?_eq_getElem hk,List.map_append];rfl
 refine ⟨b3,⟨Kept.trans j1 kk (fun i hi e=>?_),kk.at j2 (fun e=>?_),v', _,by rw [setAt b3];rfl,ks.row hr (fun q e e2=>?_),?_⟩,Rnd.of kk (fun q e=>?_) (fun q hq e=>?_) j1.size⟩
 ·rcases e with e | e
  ·have:=own_low j4 e;omega
  ·omega
 ·rcases e with e | e
  ·exact n2 e
  ·omega
 ·have e3:q=w.heap.size+1:=e2
  rw [e3] at e
  obtain ⟨cur,hc⟩:=own_typed hr e
  rw [b3] at hc;cases hc
 ·rw [e1]
  refine (j5.snoc hg hP).kept kk (fun q e=>?_)
  rcases e with e | e
  ·obtain ⟨cur,hc⟩:=ty q e
   exact ⟨fun cur' h=>(by rw [hc] at h;cases h),fun cur' h=>(by rw [hc] at h;cases h)⟩
  ·rw [e]
   exact ⟨fun cur' h=>(by rw [j3] at h;cases h),fun cur' h=>(by rw [j3] at h;cases h)⟩
 ·rcases e with e | e
  ·obtain ⟨cur,hc⟩:=ty q e
   exact ⟨_,_,_,hc⟩
  ·rw [e];exact ⟨_,_,_,j3⟩
 ·rcases e with e | e
  ·have:=own_low j4 e;omega
  ·omega
end Go.Proofs.YtmjgnfkbnofjoaaGreatDoor
namespace Go.Proofs.YtmjgnfkbnofjoaaGreatDoor
set_option maxRecDepth 100000
set_option linter.unusedVariables false
open Go.RowKit
theorem ArgT.keptB {w w' : World} {ao:Option Addr} {xs:List Int} {cap:Nat} {S:Nat→Prop} (h:ArgT w ao xs cap) (hk:Kept S w w') (hS:∀ a,ao=some a→¬ S a.block):ArgT w' ao xs cap:=by
 refine ⟨⟨h.1.at'.kept hk hS,h.1.cap', h.1.nil,h.1.size⟩,fun a e=>?_,fun a e=>?_⟩
 ·obtain ⟨cur,hc⟩:=h.2 a e
  exact ⟨cur,hk.at hc (hS a e)⟩
 ·obtain ⟨b,cur,e1,hc,hs,hm⟩:=h.own a e
  exact ⟨b,cur,e1,hk.at hc (by have:=hS a e;rw [e1] at this;exact this),hs,hm⟩
theorem PathsC.keptB {B S:Nat→Prop} {w w' : World} {vs:List Value} {P:List (List Int)} (h:PathsC B w vs P) (hk:Kept S w w') (hS:∀ q,S q→B q):PathsC B w' vs P:=
 ⟨h.1,fun i hi=>by
  obtain ⟨ao,ac,h1,h2,h3⟩:=h.2 i hi
  exact ⟨ao,ac,h1,h2.keptB hk (fun a e s=>h3 a e (hS _ s)),h3⟩⟩
theorem Lay.keptB {B S:Nat→Prop} {w w' : World} {vi vp:Value} {s:St9} (h:Lay B w vi vp s) (hk:Kept S w w') (hS:∀ q,S q→B q):Lay B w' vi vp s:=by
 obtain ⟨h1,h2,⟨vs,h3,h4⟩,h5⟩:=h
 exact ⟨hk.row h1 (fun k e q=>h2 k e (hS k q)),h2,⟨vs,hk.row h3 (fun k e q=>h5 k e (hS k q)),h4.keptB hk hS⟩,h5⟩
theorem CtAt.keptB {B S:Nat→Prop} {w w' : World} {tb:Nat} {s:St9} (h:CtAt B w tb s) (hk:Kept S w w') (hS:∀ q,S q→B q):CtAt B w' tb s:=by
 obtain ⟨vi,vp,h1,h2,h3⟩:=h
 exact ⟨vi,vp,hk.at h1 (fun q=>h2 (hS _ q)),h2,h3.keptB hk hS⟩
def NoC (w:World) (q:Nat):Prop:=∃ o,w.heap[q]? = some o∧o.isCells=false
theorem NoC.not {w:World} {q:Nat} {cur:Array Value} {t:TypeId} {fr:Nat × Nat} (h:NoC w q) (hc:w.heap[q]? = some (.cells cur t fr)):False:=by
 obtain ⟨o,h1,h2⟩:=h
 rw [hc] at h1;cases h1;cases h2
theorem CtAt.wide {B:Nat→Prop} {w:World} {tb:Nat} {s:St9} (h:CtAt B w tb s):CtAt (fun q=>B q∨w.heap.size≤q∨NoC w q) w tb s:=by
 obtain ⟨vi,vp,h1,h2,h3⟩:=h
 obtain ⟨a1,a2,⟨vs,a3,a4,a5⟩,a6⟩:=h3
 have key:∀ q cur t,w.heap[q]? = some (.cells cur t (0,0))→¬ B q→¬ (B q∨w.heap.size≤q∨NoC w q):=fun q cur t hc nb e=>by
  rcases e with e | e | e
  ·exact nb e
  ·have:=lt_of_at hc;omega
  ·exact e.not hc
 refine ⟨vi,vp,h1,key _ _ _ h1 h2,a1,fun k e=>?_,⟨vs,a3,a4,fun i hi=>?_⟩,fun k e=>?_⟩
 ·obtain ⟨cur,hc⟩:=own_typed a1 e
  exact key _ _ _ hc (a2 k e)
 ·obtain ⟨ao,ac,q1,q2,q3⟩:=a5 i hi
  refine ⟨ao,ac,q1,q2,fun a e=>?_⟩
  obtain ⟨cur,hc⟩:=q2.2 a e
  exact key _ _ _ hc (q3 a e)
 ·obtain ⟨cur,hc⟩:=own_typed a3 e
  exact key _ _ _ hc (a6 k e)
def EnB (n eb:Nat) (ev:Value) (q:Nat):Prop:=q<n∨q=eb∨ev.ownBlock=some q
structure CpJ (L:List Sym) (R:List Ru) (w1:World) (k:Nat) (W:World):Prop where
 same:Same0 w1 W
 ent:∃ ev,W.heap[w1.heap.size+1]? = some (.cells #[ev] 51 (0,0))∧Row w1.heap.size W ev (cmpS L R k).2∧CtAt (EnB w1.heap.size (w1.heap.size+1) ev) W w1.heap.size (cmpS L R k).1
theorem CpJ.up {L:List Sym} {R:List Ru} {w1:World} {k:Nat} {W W' : World} (h:CpJ L R w1 k W) (hk:Same0 W W'):CpJ L R w1 k W' := by
 obtain ⟨h1,ev,h2,h3,h4⟩:=h
 exact ⟨h1.trans' hk,ev,hk.at0 h2,hk.row h3 (fun _ _ f=>f),h4.same hk⟩
theorem CpJ.put {L:List Sym} {R:List Ru} {w1:World} {k:Nat} {X:World} {l:Nat} {o o' : Obj} (h:CpJ L R w1 k X) (hl:X.heap[l]? = some o) (ho:o.isCells=false) (hw:w1.heap.size≤l):CpJ L R w1 k (X.putObj l o'):=by
 obtain ⟨h1,ev,h2,h3,h4⟩:=h
 have kk:Kept (fun k=>k=l) X (X.putObj l o'):=kept_put
 have hN:NoC X l:=⟨o,hl,ho⟩
 refine ⟨Kept.trans h1 kk (fun i hi e=>by have e' : i=l:=e;omega),ev,putObj_at hl ho h2 rfl,kk.row h3 (fun q e e2=>?_),?_⟩
 ·have e3:q=l:=e2
  obtain ⟨cur,hc⟩:=own_typed h3 e
  rw [e3] at hc
  exact hN.not hc
 ·exact (h4.wide.keptB kk (fun q e=>by have e' : q=l:=e;rw [e'];exact .inr (.inr hN))).mono (fun b _ q=>.inl q)
theorem CpJ.push {w1 X w2:World} {ev ev' : Value} {E:List Int} {s:St9} {z:Int} {B:Nat→Prop} (h1:Same0 w1 X) (h2:X.heap[w1.heap.size+1]? = some (.cells #[ev] 51 (0,0))) (h3:Row w1.heap.size X ev E) (h4:CtAt B X w1.heap.size s) (hB:∀ q,EnB w1.heap.size (w1.heap.size+1) ev q→B q) (hr:w2.ownsRow w1.heap.size 3 1 ev' (E.length+1) (iv E ++ [.int .i64 z])) (hk:Kept (fun q=>ev.ownBlock=some q) X w2) :
  w2.heap[w1.heap.size+1]? = some (.cells #[ev] 51 (0,0))∧(w2.setCell ⟨w1.heap.size+1,0,none⟩ ev').heap[w1.heap.size+1]? = some (.cells #[ev'] 51 (0,0))∧Row w1.heap.size (w2.setCell ⟨w1.heap.size+1,0,none⟩ ev') ev' (E ++ [z])∧CtAt B (w2.setCell ⟨w1.heap.size+1,0,none⟩ ev') w1.heap.size s∧Kept (fun q=>ev.ownBlock=some q∨q=w1.heap.size+1) X (w2.setCell ⟨w1.heap.size+1,0,none⟩ ev')∧Same0 w1 (w2.setCell ⟨w1.heap.size+1,0,none⟩ ev'):=by
 have ne:¬ ev.ownBlock=some (w1.heap.size+1):=fun e=>by
  obtain ⟨cur,hc⟩:=own_typed h3 e
  rw [h2] at hc;cases hc
 have b2:=hk.at h2 ne
 have ks:=kept_at w2 (w1.heap.size+1) 0 ev'
 have kk:Kept (fun q=>ev.ownBlock=some q∨q=w1.heap.size+1) X (w2.setCell ⟨w1.heap.size+1,0,none⟩ ev'):=Kept.trans (hk.mono (fun _ _ e=>.inl e)) ks (fun _ _ e=>.inr e)
 refine ⟨b2,by rw [setAt b2];rfl,?_,h4.keptB kk (fun q e=>hB q ?_),kk,Kept.trans h1 kk (fun i hi e=>?_)⟩
 ·have r2:=ks.row hr (fun q e e2=>by
   have e3:q=w1.heap.size+1:=e2
   rw [e3] at e
   obtain ⟨cur,hc⟩:=own_typed hr e
   rw [b2] at hc;cases hc)
  have e1:iv (E ++ [z])=iv E ++ [.int .i64 z]:=by simp [iv]
  unfold Row
  rw [e1,List.length_append]
  exact r2
 ·rcases e with e | e
  ·exact .inr (.inr e)
  ·exact .inr (.inl e)
 ·rcases e with e | e
  ·have:=own_low h3 e;omega
  ·omega
theorem hat_of {v v' : Value} {n m:Nat} (h:v'.ownBlock=v.ownBlock∨v'.ownBlock=some n) (hm:m≤n):∀ q,v'.ownBlock=some q→v.ownBlock=some q∨m≤q:=fun q e=>by
 rcases h with h | h
 ·rw [h] at e;exact .inl e
 ·rw [h] at e;simp only [Option.some.injEq] at e;exact .inr (by omega)
theorem CpJ.pass {L:List Sym} {R:List Ru} {w1 X w2:World} {k D:Nat} {ev ev' : Value} (hk:defB L (k:Int)=false) (h1:Same0 w1 X) (h2:X.heap[w1.heap.size+1]? = some (.cells #[ev] 51 (0,0))) (h3:Row w1.heap.size X ev (cmpS L R k).2) (h4:CtAt (EnB w1.heap.size (w1.heap.size+1) ev) X w1.heap.size (cmpS L R k).1) (hr:w2.ownsRow w1.heap.size 3 1 ev' ((cmpS L R k).2.length+1) (iv (cmpS L R k).2 ++ [.int .i64 (-1)])) (hkp:Kept (fun q=>ev.ownBlock=some q) X w2) (hat:∀ q,ev'.ownBlock=some q→ev.ownBlock=some q∨X.heap.size≤q) :
  w2.heap[w1.heap.size+1]? = some (.cells #[ev] 51 (0,0))∧CpJ L R w1 (k+1) (w2.setCell ⟨w1.heap.size+1,0,none⟩ ev')∧Rnd D w1.heap.size X (w2.setCell ⟨w1.heap.size+1,0,none⟩ ev'):=by
 obtain ⟨q1,q2,q3,q4,q5,q6⟩:=CpJ.push h1 h2 h3 h4.wide (fun q e=>.inl e) hr hkp
 refine ⟨q1,⟨q6,ev', q2,?_,?_⟩,Rnd.of q5 (fun q e=>?_) (fun q hq e=>?_) h1.size⟩
 ·rw [cmpS_no hk];exact q3
 ·rw [cmpS_no hk]
  refine q4.mono (fun b hb e=>?_)
  rcases e with e | e | e
  ·exact .inl (.inl e)
  ·exact .inl (.inr (.inl e))
  ·rcases hat b e with e | e
   ·exact .inl (.inr (.inr e))
   ·exact .inr (.inl e)
 ·rcases e with e | e
  ·obtain ⟨cur,hc⟩:=own_typed h3 e
   exact ⟨_,_,_,hc⟩
  ·rw [e];exact ⟨_,_,_,h2⟩
 ·rcases e with e | e
  ·have:=own_low h3 e;omega
  ·omega
theorem CpJ.laid {L:List Sym} {R:List Ru} {w1 Wb X w2:World} {k D:Nat} {ev ev' : Value} {t:Tr 2001} {v:Value} (hk:defB L (k:Int)=true) (ht:treeF L R k=.ok t) (hsm:(cmpS L R k).1.1.length+(cmpS L R k).1.2.length+insN 2001 t≤1000000000000) (hX:Same0 Wb X) (h1:Same0 w1 Wb) (h2:Wb.heap[w1.heap.size+1]? = some (.cells #[ev] 51 (0,0))) (h3:Row w1.heap.size Wb ev (cmpS L R k).2) (h4:CtAt (EnB w1.heap.size (w1.heap.size+1) ev) Wb w1.heap.size (cmpS L R k).1) (hcs:CsB (fun b=>Wb.heap.size≤b) X 2001 v t)
  (hr:w2.ownsRow w1.heap.size 3 1 ev' ((cmpS L R k).2.length+1) (iv (cmpS L R k).2 ++ [.int .i64 ((cmpS L R k).1.1.length:Int)])) (hkp:Kept (fun q=>ev.ownBlock=some q) X w2) (hat:∀ q,ev'.ownBlock=some q→ev.ownBlock=some q∨X.heap.size≤q) :
  w2.heap[w1.heap.size+1]? = some (.cells #[ev] 51 (0,0))∧Kept (fun q=>ev.ownBlock=some q∨q=w1.heap.size+1) X (w2.setCell ⟨w1.heap.size+1,0,none⟩ ev') ∧
  Calls Tryz.prog 86 #[.pointer (some ⟨w1.heap.size,0,none⟩),v] (w2.setCell ⟨w1.heap.size+1,0,none⟩ ev') fun e Z=>(∃ u,e=.returned u)∧CpJ L R w1 (k+1) Z∧Rnd D w1.heap.size Wb Z:=by
 have h3X:=hX.row h3 (fun _ _ f=>f)
 have h4X:=h4.wide.same hX
 obtain ⟨q1,q2,q3,q4,q5,q6⟩:=CpJ.push (h1.trans' hX) (hX.at0 h2) h3X h4X (fun q e=>.inl e) hr hkp
 obtain ⟨Y,hY⟩:∃ Y,Y=w2.setCell ⟨w1.heap.size+1,0,none⟩ ev' := ⟨_,rfl⟩
 rw [← hY] at q2 q3 q4 q5 q6 ⊢
 have hzX:=hX.size
 have hz1:=h1.size
 have hzY:=q5.size
 have lE:=lt_of_at h2
 obtain ⟨B3,hB3⟩:∃ B3:Nat→Prop,B3=fun q=>(EnB w1.heap.size (w1.heap.size+1) ev q∨Wb.heap.size≤q∨NoC Wb q)∧q<Y.heap.size:=⟨_,rfl⟩
 have T3:CtAt B3 Y w1.heap.size (cmpS L R k).1:=q4.mono (fun b _ e=>by rw [hB3] at e;exact e.1)
 have far:∀ b,Wb.heap.size≤b→¬ (ev.ownBlock=some b∨b=w1.heap.size+1):=fun b hb e=>by
  rcases e with e | e
  ·have:=typed_lt h3 e;omega
  ·omega
 have C3:CsB B3 Y 2001 v t:=CsB.mono (fun b hb e=>by rw [hB3];exact ⟨.inr (.inl e),hb⟩) (CsB.kept q5 (fun b e=>far b e) hcs)
 have up:∀ q,EnB w1.heap.size (w1.heap.size+1) ev' q→q<Y.heap.size→B3 q:=fun q e hl=>by
  rw [hB3]
  refine ⟨?_,hl⟩
  rcases e with e | e | e
  ·exact .inl (.inl e)
  ·exact .inl (.inr (.inl e))
  ·rcases hat q e with e | e
   ·exact .inl (.inr (.inr e))
   ·exact .inr (.inl (by omega))
 refine ⟨q1,q5,(lay_any 2001 B3 Y w1.heap.size v t (cmpS L R k).1 T3 (fun b e=>by rw [hB3] at e;exact e.2) C3 hsm).mono ?_⟩
 rintro e Z ⟨hu,hc,hkz⟩
 have keep:∀ q,B3 q→¬ ¬ B3 q:=fun q h n=>n h
 have low:∀ q,q<w1.heap.size→B3 q:=fun q hq=>up q (.inl hq) (by omega)
 refine ⟨hu,⟨Kept.trans q6 hkz (fun i hi e=>absurd (low i hi) e),ev', hkz.at q2 (keep _ (up _ (.inr (.inl rfl)) (by omega))),?_,?_⟩,⟨⟨?_,fun q o hD ho hn=>?_⟩,?_⟩⟩
 ·rw [cmpS_yes hk ht]
  exact hkz.row q3 (fun q e=>keep _ (up q (.inr (.inr e)) (typed_lt q3 e)))
 ·rw [cmpS_yes hk ht]
  refine hc.mono (fun b hb e=>up b e ?_)
  rcases e with e | e | e
  ·omega
  ·omega
  ·exact typed_lt q3 e
 ·exact Nat.le_trans hzX (Nat.le_trans hzY hkz.size)
 ·have hq:=lt_of_at ho
  have hN:NoC Wb q:=⟨o,ho,hn⟩
  refine hkz.at (q5.at (hX.at0 ho) (fun e=>?_)) (keep _ (by rw [hB3];exact ⟨.inr (.inr hN),by omega⟩))
  rcases e with e | e
  ·obtain ⟨cur,hc'⟩:=own_typed h3 e
   exact hN.not hc'
  ·rw [e] at hN;exact hN.not h2
 ·have kk:=Kept.trans (Kept.trans (Kept.mono (S' := fun q=>¬ B3 q∨w1.heap.size≤q) hX (fun _ _ f=>f.elim)) q5 (fun i hi e=>by
   rcases e with e | e
   ·exact .inr (own_low h3 e)
   ·exact .inr (by omega))) hkz (fun i _ e=>.inl e)
  exact kk.below hz1 (fun q hq e=>by
   rcases e with e | e
   ·exact e (low q hq)
   ·omega)
end Go.Proofs.YtmjgnfkbnofjoaaGreatDoor
