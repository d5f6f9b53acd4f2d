import Derived.Test.YtjahpnbijefncaaGreatCR01
import Derived.RangeFuncNested
import Derived.RangeFuncLeaves
import Derived.RangeFuncBox
import Derived.Test.YtjahpnbijefncaaGreatCR13
import Derived.Test.YtjahpnbijefncaaGreatCR12
import Derived.Shelf.Abstract
import Derived.OwnWalkIn
import Derived.TacticsInMore
import Derived.LoopNIn
import Derived.LoopIn
import Derived.Test.YtjahpnbijefncaaGreatCR02
import Derived.Test.YtjahpnbijefncaaGreatCR10
import Derived.Test.YtjahpnbijefncaaGreatCR23
import Derived.Test.YtjahpnbijefncaaGreatCR19
namespace Go.Proofs.YtjahpnbijefncaaGreat
set_option linter.unusedVariables false
open Go.RowKit
theorem putObj_at {W:World} {l k:Nat} {o o' x:Obj} (hl:W.heap[l]? = some o) (hx:o.isCells=false) (hk:W.heap[k]? = some x) (hc:x.isCells=true):(W.putObj l o').heap[k]? = some x:=by
 have:k≠l:=fun e=>by subst e;rw [hl] at hk;cases hk;rw [hx] at hc;cases hc
 exact (World.putObj_heap_other this).trans hk
structure Rnd (D B:Nat) (W W' : World):Prop where
 recs:KeepsFrom D W W'
 below:Below B W W'
theorem Rnd.trans {D B:Nat} {X Y Z:World} (h:Rnd D B X Y) (k:Rnd D B Y Z):Rnd D B X Z:=⟨h.recs.trans k.recs,h.below.trans k.below⟩
theorem Rnd.same {D B:Nat} {W W' : World} (h:Same0 W W') (hB:B≤W.heap.size):Rnd D B W W' :=
 ⟨⟨h.size,fun k o _ hk _=>h.at0 hk⟩,h.below.mono hB⟩
theorem below_put {B l:Nat} {W:World} {o o' : Obj} (hl:W.heap[l]? = some o) (hB:B≤l):Below B W (W.putObj l o'):=
 ⟨rfl,rfl,rfl,by simp,fun k hk=>World.putObj_heap_other (by omega)⟩
section
variable {F : Fence} {n : Nat} {P : Program}
def Hands (F:Fence) (n:Nat) (P:Program) (gf:Nat) (lb:Array Value) (B N:Nat) (Lk:Nat→Array Value→World→Prop) (w:World):Prop:=
 ∀ (l:Nat) (J:Nat→World→Prop) (W:World),Same0 w W→(∀ k X Y,J k X→Same0 X Y→J k Y) →
  (∀ k vs X,k<N→J k X→Lk k vs X→YieldAt F (n-1) P l vs X fun e Y=>e=.returned (.bool true)∧J (k+1) Y∧Below B X Y)→J 0 W →
  CallsIn F n P gf (#[.func (.yield l) #[] #[]]++lb) W fun e Y=>(∃ v,e=.returned v)∧J N Y
theorem wp_hands {g:Operand} {ps:Array Tmp} {assign body:Code} {Q:Exit→Act→World→Prop} {a:Act} {w:World}
  (hro:F.round=none) (h1:1≤n) {gf:Nat} {lb:Array Value} (hg:a.eval g=.func (.func gf) #[] lb) (hFg:F.fn gf) (eg:∀ args w,(callFunc gf args).run P w=.ok (.enter gf args) w)
  {N:Nat} {Lk:Nat→Array Value→World→Prop} {B:Nat} (hB:B≤w.heap.size) (hh:Hands F (n-1) P gf lb B N Lk w) (hsz:∀ k vs W,Lk k vs W→vs.size=ps.size)
  (J:Nat→World→Prop) (hJ:∀ k X Y,J k X→Same0 X Y→J k Y) (hJp:∀ k X l o o', J k X→X.heap[l]? = some o→o.isCells=false→w.heap.size≤l→J k (X.putObj l o')) (h0:J 0 w)
  (hround:∀ (l k:Nat) (vs:Array Value) (W:World),k<N→w.heap.size≤l→l<W.heap.size→J k W→Lk k vs W →
   assign.wpIn (F.inRound l) (n-1-1) P (Exit.then (fun a' Wa=>Rnd w.heap.size B W Wa∧∀ o o', Wa.heap[l]? = some o→o.isCells=false→o'.isCells=false →
    body.wpIn (F.inRound l) (n-1-1) P (fun e _ Y=>e=.normal∧Rnd w.heap.size B (Wa.putObj l o') Y∧J (k+1) Y) a' (Wa.putObj l o')) (fun _ _ _=>False))
    { tmps:=(ps.zip vs).foldl (fun t (p,v)=>t.setIfInBounds p v) a.tmps,defers:=[] } W)
  (hdone:∀ (D:Nat) (W:World),w.heap.size≤D→J N W→W.heap[D]? = some (.deferred (some []))→Q .normal { a with defers:={ target:=.collected D,args:=#[] } :: a.defers } W) :
  (Code.rangeFunc g ps assign body).wpIn F n P Q a w:=by
 refine wpIn_rangeFunc fun fn hfn=>?_
 rw [hro]
 have hen:=run_enterLoop_outer (P:=P) (w:=w) fn a.tmps ps assign body
 obtain ⟨st,hst⟩:∃ st:LoopState→Option Code→Loop,st=fun s p=>{ state:=s,pending:=p,fn:=fn,tmps:=a.tmps,params:=ps,assign:=assign,body:=body,defers:=w.heap.size }:=⟨_,rfl⟩
 obtain ⟨W1,hW1⟩:∃ W1,W1=(w.alloc (.deferred (some []))).alloc (.loop (st .ready none)):=⟨_,rfl⟩
 have hs1:Same0 w W1:=by rw [hW1];exact ((Kept.refl _ w).alloc _).alloc _
 have hd1:W1.heap[w.heap.size]? = some (.deferred (some [])):=by
  rw [hW1];exact (Below.heap_alloc _ _ _ (by simp)).trans (World.alloc_heap_new w _)
 have hl1:W1.heap[w.heap.size+1]? = some (.loop (st .ready none)):=by
  have:=World.alloc_heap_new (w.alloc (.deferred (some []))) (.loop (st .ready none))
  rw [hW1];simpa using this
 refine ⟨w.heap.size+1,[{ target:=.collected w.heap.size,args:=#[] }],W1, { target:=.fn (.func gf) lb,args:=#[.func (.yield (w.heap.size+1)) #[] #[]] },W1,gf, #[.func (.yield (w.heap.size+1)) #[] #[]]++lb,W1,?_,?_,?_,?_,fun _=>h1,?_⟩
 ·rw [hen,hW1,hst]
 ·simp only [resolve,hg];simp [go_sem]
 ·intro f' hf'; simp [Target.leads] at hf'; subst hf'; exact hFg
 ·simp [invoke,go_sem,eg]
 ·have hcall:=hh (w.heap.size+1) (fun k X=>J k X∧X.heap[w.heap.size+1]? = some (.loop (st .ready none))∧X.heap[w.heap.size]? = some (.deferred (some []))) W1 hs1
   (fun k X Y h hk=>⟨hJ k X Y h.1 hk,hk.at0 h.2.1,hk.at0 h.2.2⟩) ?_ ⟨hJ 0 _ _ h0 hs1,hl1,hd1⟩
  ·refine hcall.mono ?_
   rintro e Y ⟨⟨v,rfl⟩,hj,hl,hd⟩
   have hend:=run_endLoop (P:=P) hl (by rw [hst];simp)
   rw [hst] at hend
   exact ⟨none,_,hend,hdone w.heap.size _ (Nat.le_refl _) (hJp _ _ _ _ _ hj hl rfl (by omega)) ((World.putObj_heap_other (by omega)).trans hd)⟩
  ·rintro k vs X hk ⟨hj,hl,hd⟩ hlk
   have hy:=run_yield (P:=P) (args:=vs) hl (by rw [hst];exact hsz k vs X hlk)
   rw [hst] at hy
   have hlX:w.heap.size+1<X.heap.size:=(Array.getElem?_eq_some_iff.1 hl).1
   refine ⟨fn,_,assign,body,hy,roundIn_of_wpIn hfn (wpIn_mono (hround (w.heap.size+1) k vs X hk (by omega) hlX hj hlk) ?_)⟩
   rintro e a' Wa hp
   cases e with
   | normal=>
    obtain ⟨hr,hb⟩:=hp
    have hla:=hr.recs.same _ _ (by omega) hl rfl
    have hda:=hr.recs.same _ _ (Nat.le_refl _) hd rfl
    have hlt:w.heap.size+1<Wa.heap.size:=(Array.getElem?_eq_some_iff.1 hla).1
    refine ⟨_,run_beginRound hla (by rw [hst]),wpIn_mono (hb _ (.loop { st .ready none with state:=.busy }) hla rfl rfl) ?_⟩
    rintro e2 a2 Y ⟨rfl,hr2,hj2⟩
    have hl2:=hr2.recs.same _ _ (by omega) (World.putObj_heap_same (o:=.loop { st .ready none with state:=.busy }) hlt) rfl
    have hd2:=hr2.recs.same _ _ (Nat.le_refl _) ((World.putObj_heap_other (o:=.loop { st .ready none with state:=.busy }) (by omega)).trans hda) rfl
    have hend:=run_endRound (P:=P) none hl2
    rw [hst] at hend
    refine ⟨_,_,hend,rfl,⟨hJp _ _ _ _ _ hj2 hl2 rfl (by omega),?_,(World.putObj_heap_other (by omega)).trans hd2⟩,?_⟩
    ·rw [hst];exact World.putObj_heap_same (Array.getElem?_eq_some_iff.1 hl2).1
    ·exact (hr.below.trans (below_put hla (by omega))).trans (hr2.below.trans (below_put hl2 (by omega)))
   | _=>exact hp.elim
end
end Go.Proofs.YtjahpnbijefncaaGreat
namespace Go.Proofs.YtjahpnbijefncaaGreat
set_option maxRecDepth 100000
set_option linter.unusedVariables false
open Go.RowKit Go.Shelf
attribute [local go_sem] Oper.semAt_some
def RuLk (R:List Ru) (k:Nat) (vs:Array Value) (W:World):Prop:=
 ∃ (h:k<R.length) (g c g' c' : Nat),vs = #[.int .i64 (k:Int),.agg #[.slice (some ⟨g,0,none⟩) R[k].1.length c,.slice (some ⟨g', 0,none⟩) R[k].2.length c']]∧TmAt W g c R[k].1∧TmAt W g' c' R[k].2
theorem crall_in (F:Fence) (n:Nat) (h22:F.fn 99) (hro:F.round=none) (p0:Option Addr) (w:World) :
  CallsIn F n Tryz.prog 99 #[.pointer p0] w fun e w' => e=.returned (.func (.func 132) #[] #[.pointer (some ⟨w.heap.size,0,none⟩)])∧w' = w.alloc (.cells #[.pointer p0] 26):=by
 refine callsIn_of_wp Tryz.func99 rfl h22 ?_ hro
 simp only [Tryz.ntmps99,List.size_toArray,List.length_cons,List.length_nil,Nat.reduceAdd,Nat.reduceSub,Array.replicate_succ,Array.replicate_zero,List.push_toArray,List.append_toArray,List.nil_append,List.cons_append]
 gi_wp2
 go_ret
 exact ⟨rfl,rfl⟩
set_option maxHeartbeats 8000000 in
theorem hands_rules {n:Nat} {w wx:World} {b bs:Nat} {L:List Sym} {R:List Ru} {lv:Value} {vs:List Value} (hst:StAt w b bs L R lv vs) (hwx:Same0 w wx) {Bn:Nat} (hbx:wx.cell? ⟨Bn,0,none⟩=some (.pointer (some ⟨b,0,none⟩))) (hn:1≤n) :
  Hands Fence.wide n Tryz.prog 132 #[.pointer (some ⟨Bn,0,none⟩)] w.heap.size R.length (RuLk R) wx:=by
 intro l J W hW hJ hY h0
 have hFn:∀ k,Fence.wide.fn k:=fun _=>trivial
 have KW:Same0 w W:=hwx.trans' hW
 have s1:W.cell? ⟨Bn,0,none⟩=some (.pointer (some ⟨b,0,none⟩)):=(hW.cell (p:=⟨Bn,0,none⟩) (World.block_lt_of_cell? _ _ hbx) (fun f=>f)).trans hbx
 obtain ⟨ro,rc,rfl,hrd⟩:=hst.read
 have hle:=hst.le
 have ST:Hid (∀ X,Same0 w X→X.cell? ⟨b,1,none⟩=some (.slice ro R.length rc)∧RsAt X ro R):=fun X hk=>by
  have h1:=hst.same hk
  exact ⟨cellAt h1.blk 1,hrd.rs.same hk⟩
 have OK:Hid (∀ x∈R,(0<x.1.length∧x.1.length≤2000)∧0<x.2.length∧x.2.length≤2000):=fun x hx=>ok_len (hst.ok x hx)
 obtain ⟨s2,_⟩:=ST.out W KW
 have hpn:∀ ww:World,(binOp .eql 26 (.pointer (some ⟨b,0,none⟩)) (.pointer none)).run Tryz.prog ww=.ok (.bool false) ww:=fun ww=>by kernel_rfl
 clear hst hrd
 refine callsIn_of_wp Tryz.func132 rfl trivial ?_ rfl
 simp only [Tryz.ntmps132,List.size_toArray,List.length_cons,List.length_nil,Nat.reduceAdd,Nat.reduceSub,Array.replicate_succ,Array.replicate_zero,List.push_toArray,List.append_toArray,List.nil_append,List.cons_append]
 gi_wp2_with fail
 gi_loopw [12] (fun i wr=>∃ k:Nat,k≤R.length∧i=.int .i64 k∧Same0 w wr∧J k wr) (fun i _=>R.length-(intOf i).toNat)
 case atStart=>exact ⟨0,Nat.zero_le _,rfl,KW,h0⟩
 case round=>
  clear s1 s2
  obtain ⟨k,hk,rfl,hs,hj⟩:=hrel
  by_cases hlt:k<R.length
  ·obtain ⟨s2,s3⟩:=ST.out wr hs
   obtain ⟨gb,goff,rfl,hgb,ao,ac,bo,bc,r0,r1,A1,A2⟩:=s3.get hlt
   have i1:(0:Int)≤(k:Int):=by omega
   have i2:(k:Int)<(R.length:Int):=by omega
   obtain ⟨⟨p1,m1⟩,p2,m2⟩:=OK.out R[k] (List.getElem_mem hlt)
   obtain ⟨wa,hwa⟩:∃ wa,wa=wr.alloc (.cells #[.slice ao R[k].1.length ac,.slice bo R[k].2.length bc] 68):=⟨_,rfl⟩
   have ka:Same0 wr wa:=by rw [hwa];exact (Kept.refl _ _).alloc _
   have hx:wa.heap[wr.heap.size]? = some (.cells #[.slice ao R[k].1.length ac,.slice bo R[k].2.length bc] 68 (0,0)):=by rw [hwa];exact heap_alloc_new _ _
   have y0:=cellAt hx 0
   have y1:=cellAt hx 1
   simp only [List.getElem?_toArray,List.getElem?_cons_zero,List.getElem?_cons_succ] at y0 y1
   have CC:=(callsIn_wide (n:=n-1)).2 (copied_any (ac:=ac) (bc:=bc) (x:=R[k]) (A1.same ka).at' (A2.same ka).at' p1 p2 m1 m2)
   have HYY:Hid (∀ X vs,J k X→RuLk R k vs X→YieldAt Fence.wide (n-1) Tryz.prog l vs X fun e Y=>e=.returned (.bool true)∧J (k+1) Y∧Below w.heap.size X Y):=fun X vs h1 h2=>hY k vs X hlt h1 h2
   have HJJ:Hid (∀ X,Same0 wr X→J k X):=fun X h1=>hJ k wr X hj h1
   gi_wp2_with (gi_at_call 58;rw [← hwa];refine CC.mono ?_;rintro e w3 ⟨g,c,g', c', rfl,t1,t2, -, -, -,k3⟩;obtain ⟨fn,tmps,asg,bdy,hy,hR⟩:=HYY.out w3 _ (HJJ.out w3 (ka.trans' k3)) ⟨hlt,g,c,g', c', rfl,t1,t2⟩)
   refine hR.mono ?_
   rintro e w4 ⟨rfl,hj4,hb4⟩
   have hs4:Same0 w w4:=Same0.of_below ((hs.trans' (ka.trans' k3)).below.trans hb4)
   clear hR hy HYY HJJ CC y0 y1 hx t1 t2
   gi_wp2_with fail
   go_roundw
   case rel=>exact ⟨k+1,by omega,by go_num,hs4,hj4⟩
   case measure=>simp [intOf];omega
  ·obtain rfl:k=R.length:=by omega
   gi_wp2_with fail
   go_end0
   exact ⟨⟨_,rfl⟩,hj⟩
end Go.Proofs.YtjahpnbijefncaaGreat
namespace Go.Proofs.YtjahpnbijefncaaGreat
open Go.RowKit Go.Shelf
attribute [local go_sem] Oper.semAt_some
set_option maxHeartbeats 1000000 in
theorem all_in (F:Fence) (n:Nat) (h22:F.fn 49) (hro:F.round=none) (p0:Option Addr) (w:World) :
  CallsIn F n Tryz.prog 49 #[.pointer p0] w fun e w' => e=.returned (.func (.func 96) #[] #[.pointer (some ⟨w.heap.size,0,none⟩)])∧w' = w.alloc (.cells #[.pointer p0] 25):=by
 refine callsIn_of_wp Tryz.func49 rfl h22 ?_ hro
 simp only [Tryz.ntmps49,List.size_toArray,List.length_cons,List.length_nil,Nat.reduceAdd,Nat.reduceSub,Array.replicate_succ,Array.replicate_zero,List.push_toArray,List.append_toArray,List.nil_append,List.cons_append]
 gi_wp2
 go_ret
 exact ⟨rfl,rfl⟩
end Go.Proofs.YtjahpnbijefncaaGreat
namespace Go.Proofs.YtjahpnbijefncaaGreat
set_option maxRecDepth 100000
set_option linter.unusedVariables false
open Go.RowKit Go.Shelf
attribute [local go_sem] Oper.semAt_some
def SyLk (L:List Sym) (k:Nat) (vs:Array Value) (W:World):Prop:=∃ h:k<L.length,vs = #[.int .i64 (k:Int),symV L[k]]
set_option maxHeartbeats 8000000 in
theorem hands_syms {n:Nat} {w wx:World} {b:Nat} {L:List Sym} {sv:Value} {mr:Option Nat} (hs:SigAt w b L sv mr) (hwx:Same0 w wx) {Bn:Nat} (hbx:wx.cell? ⟨Bn,0,none⟩=some (.pointer (some ⟨b,0,none⟩))) (hn:1≤n) :
  Hands Fence.wide n Tryz.prog 96 #[.pointer (some ⟨Bn,0,none⟩)] w.heap.size L.length (SyLk L) wx:=by
 intro l J W hW hJ hY h0
 have hFn:∀ k,Fence.wide.fn k:=fun _=>trivial
 have KW:Same0 w W:=hwx.trans' hW
 have s1:W.cell? ⟨Bn,0,none⟩=some (.pointer (some ⟨b,0,none⟩)):=(hW.cell (p:=⟨Bn,0,none⟩) (World.block_lt_of_cell? _ _ hbx) (fun f=>f)).trans hbx
 obtain ⟨ao,cap,rfl⟩:=hs.sv
 have hlen:=hs.len
 have HS:Hid (∀ X,Same0 w X→SigAt X b L (.slice ao L.length cap) mr):=fun X hk=>hs.kept hk (fun _ _ f=>f)
 have c0:W.cell? ⟨b,0,none⟩=some (.slice ao L.length cap):=cellAt (HS.out W KW).blk 0
 have hpn:∀ ww:World,(binOp .eql 25 (.pointer (some ⟨b,0,none⟩)) (.pointer none)).run Tryz.prog ww=.ok (.bool false) ww:=fun ww=>by kernel_rfl
 clear hs
 refine callsIn_of_wp Tryz.func96 rfl trivial ?_ rfl
 simp only [Tryz.ntmps96,List.size_toArray,List.length_cons,List.length_nil,Nat.reduceAdd,Nat.reduceSub,Array.replicate_succ,Array.replicate_zero,List.push_toArray,List.append_toArray,List.nil_append,List.cons_append]
 gi_wp2_with fail
 gi_loopw [12] (fun i wr=>∃ k:Nat,k≤L.length∧i=.int .i64 k∧Same0 w wr∧J k wr) (fun i _=>L.length-(intOf i).toNat)
 case atStart=>exact ⟨0,Nat.zero_le _,rfl,KW,h0⟩
 case round=>
  clear s1 c0
  obtain ⟨k,hk,rfl,hs,hj⟩:=hrel
  by_cases hlt:k<L.length
  ·have hsr:=HS.out wr hs
   obtain ⟨g,rfl,hg,x0,x1,x2⟩:=hsr.sym hlt
   have i1:(0:Int)≤(k:Int):=by omega
   have i2:(k:Int)<(L.length:Int):=by omega
   have ka:Same0 wr (wr.alloc (.cells #[.string L[k].name,.int .i64 L[k].ar,.bool L[k].df] 129)):=(Kept.refl _ _).alloc _
   obtain ⟨fn,tmps,asg,bdy,hy,hR⟩:=hY k _ _ hlt (hJ k _ _ hj ka) ⟨hlt,rfl⟩
   have hs3:=hs.trans' ka
   gi_wp2_with fail
   refine hR.mono ?_
   rintro e w4 ⟨rfl,hj4,hb4⟩
   have hs4:Same0 w w4:=Same0.of_below (hs3.below.trans hb4)
   clear hR hy hsr
   gi_wp2_with fail
   go_roundw
   case rel=>exact ⟨k+1,by omega,by go_num,hs4,hj4⟩
   case measure=>simp [intOf];omega
  ·obtain rfl:k=L.length:=by omega
   gi_wp2_with fail
   go_end0
   exact ⟨⟨_,rfl⟩,hj⟩
end Go.Proofs.YtjahpnbijefncaaGreat
namespace Go.Proofs.YtjahpnbijefncaaGreat
set_option maxRecDepth 100000
set_option linter.unusedVariables false
open Go.RowKit Go.Shelf
def partsL (L:List Sym) (x:Ru):List (Int × List Int):=x.2.map (partP L x.1)
def rightsL (L:List Sym) (R:List Ru):List (List (Int × List Int)):=R.map (partsL L)
theorem info_part:(Tryz.prog.info? 77).map (fun i=>(i.zero,i.size,i.bytes))=some (some (.agg #[.int .i64 0,.slice none 0 0]),2,32):=by kernel_rfl
theorem info_parts9:(Tryz.prog.info? 62).map (fun i=>(i.zero,i.size,i.bytes))=some (some (.slice none 0 0),1,24):=by kernel_rfl
def PtC (base:Nat) (W:World) (g k:Nat) (Q:List (Int × List Int)):Prop:=
 ∃ cur,W.heap[g]? = some (.cells cur 77 (0,0))∧cur.size=Q.length * 2∧∀ i (h:i<Q.length),i<k→∃ ao ac,cur[i * 2]? = some (.int .i64 Q[i].1)∧cur[i * 2+1]? = some (.slice ao Q[i].2.length ac)∧ArgT W ao Q[i].2 ac∧∀ a,ao=some a→base≤a.block
theorem PtC.kept {base:Nat} {W W' : World} {g k:Nat} {Q:List (Int × List Int)} {S:Nat→Prop} (h:PtC base W g k Q) (hk:Kept S W W') (hg:¬ S g) (hS:∀ k,S k→∀ cur,W.heap[k]? ≠ some (.cells cur 3 (0,0))):PtC base W' g k Q:=by
 obtain ⟨cur,h1,h2,h3⟩:=h
 refine ⟨cur,hk.at h1 hg,h2,fun i hi hik=>?_⟩
 obtain ⟨ao,ac,a,b,c,d⟩:=h3 i hi hik
 exact ⟨ao,ac,a,b,c.kept hk hS,d⟩
theorem PtC.same {base:Nat} {W W' : World} {g k:Nat} {Q:List (Int × List Int)} (h:PtC base W g k Q) (hk:Same0 W W'):PtC base W' g k Q:=h.kept hk (fun f=>f) (fun _ f=>f.elim)
theorem PtC.put {base:Nat} {W:World} {g k:Nat} {Q:List (Int × List Int)} (h:PtC base W g k Q) (hk:k<Q.length) {ao:Option Addr} {ac:Nat} (ha:ArgT W ao Q[k].2 ac) (hb:∀ a,ao=some a→base≤a.block):PtC base ((W.setCell ⟨g,k * 2,none⟩ (.int .i64 Q[k].1)).setCell ⟨g,k * 2+1,none⟩ (.slice ao Q[k].2.length ac)) g (k+1) Q∧(∃ o1 o2,W.cell? ⟨g,k * 2,none⟩=some o1∧W.cell? ⟨g,k * 2+1,none⟩=some o2)∧W.frozen? ⟨g,k * 2,none⟩=false∧W.frozen? ⟨g,k * 2+1,none⟩=false:=by
 obtain ⟨cur,h1,h2,h3⟩:=h
 have kk:=Kept.trans (kept_at W g (k * 2) (.int .i64 Q[k].1)) (kept_at _ g (k * 2+1) (.slice ao Q[k].2.length ac)) (fun _ _ e=>e)
 have ty:∀ q,(fun q=>q=g) q→∀ cur,W.heap[q]? ≠ some (.cells cur 3 (0,0)):=fun q e cur' hc=>by
  have e' : q=g:=e
  rw [e', h1] at hc;cases hc
 have l1:k * 2<cur.size:=by omega
 have l2:k * 2+1<cur.size:=by omega
 refine ⟨⟨(cur.setIfInBounds (k * 2) (.int .i64 Q[k].1)).setIfInBounds (k * 2+1) (.slice ao Q[k].2.length ac),setAt (setAt h1 _ _) _ _,by simp [h2],fun i hi hik=>?_⟩,⟨cur[k * 2],cur[k * 2+1],by rw [cellAt h1];simp [l1],by rw [cellAt h1];simp [l2]⟩,frozenAt h1 _,frozenAt h1 _⟩
 by_cases e:i=k
 ·subst e
  refine ⟨ao,ac,?_,?_,ha.kept kk ty,hb⟩
  ·rw [Array.getElem?_setIfInBounds_ne (by omega)];simp [l1]
  ·simp [l2]
 ·obtain ⟨bo,bc,a,b,c,d⟩:=h3 i hi (by omega)
  refine ⟨bo,bc,?_,?_,c.kept kk ty,d⟩
  ·rw [Array.getElem?_setIfInBounds_ne (by omega),Array.getElem?_setIfInBounds_ne (by omega)];exact a
  ·rw [Array.getElem?_setIfInBounds_ne (by omega),Array.getElem?_setIfInBounds_ne (by omega)];exact b
def RtC (base:Nat) (W:World) (cs:List Value) (Q:List (List (Int × List Int))):Prop:=
 cs.length=Q.length∧∀ i (h:i<Q.length),∃ g gc,cs[i]? = some (.slice (some ⟨g,0,none⟩) Q[i].length gc)∧base≤g∧PtC base W g Q[i].length Q[i]
theorem RtC.kept {base:Nat} {W W' : World} {cs:List Value} {Q:List (List (Int × List Int))} {S:Nat→Prop} (h:RtC base W cs Q) (hk:Kept S W W') (hS:∀ k,S k→(∀ cur,W.heap[k]? ≠ some (.cells cur 3 (0,0)))∧∀ cur,W.heap[k]? ≠ some (.cells cur 77 (0,0))):RtC base W' cs Q:=
 ⟨h.1,fun i hi=>by
  obtain ⟨g,gc,a,b,c⟩:=h.2 i hi
  refine ⟨g,gc,a,b,c.kept hk (fun s=>?_) (fun k s=>(hS k s).1)⟩
  obtain ⟨cur,h1,_⟩:=c
  exact (hS g s).2 cur h1⟩
theorem RtC.same {base:Nat} {W W' : World} {cs:List Value} {Q:List (List (Int × List Int))} (h:RtC base W cs Q) (hk:Same0 W W'):RtC base W' cs Q:=h.kept hk (fun _ f=>f.elim)
theorem RtC.nil (base:Nat) (W:World):RtC base W [] []:=⟨rfl,fun i h=>absurd h (by simp)⟩
theorem RtC.snoc {base:Nat} {W:World} {cs:List Value} {Q:List (List (Int × List Int))} (h:RtC base W cs Q) {q:List (Int × List Int)} {g gc:Nat} (hg:base≤g) (hp:PtC base W g q.length q):RtC base W (cs ++ [.slice (some ⟨g,0,none⟩) q.length gc]) (Q ++ [q]):=by
 refine ⟨by simp [h.1],fun i hi=>?_⟩
 by_cases hl:i<Q.length
 ·rw [List.getElem_append_left hl,List.getElem?_append_left (by rw [h.1];omega)]
  exact h.2 i hl
 ·obtain rfl:i=Q.length:=by simp at hi;omega
  refine ⟨g,gc,?_,hg,by simpa using hp⟩
  rw [List.getElem?_append_right (by rw [h.1];omega),h.1];simp
structure RgJ (L:List Sym) (R:List Ru) (w:World) (bs k:Nat) (W:World):Prop where
 same:Same0 w W
 bx:W.heap[w.heap.size]? = some (.cells #[.pointer (some ⟨bs,0,none⟩)] 25 (0,0))
 row:∃ v cs,W.heap[w.heap.size+1]? = some (.cells #[v] 49 (0,0))∧W.ownsRow w.heap.size 62 1 v k cs∧RtC w.heap.size W cs (rightsL L (R.take k))
theorem RgJ.up {L:List Sym} {R:List Ru} {w:World} {bs k:Nat} {W W' : World} (h:RgJ L R w bs k W) (hk:Same0 W W'):RgJ L R w bs k W' := by
 obtain ⟨h1,h2,v,cs,h3,h4,h5⟩:=h
 exact ⟨h1.trans' hk,hk.at0 h2,v,cs,hk.at0 h3,hk.row h4 (fun _ _ f=>f),h5.same hk⟩
theorem kept_put {X:World} {l:Nat} {o' : Obj}:Kept (fun k=>k=l) X (X.putObj l o'):=⟨rfl,rfl,rfl,by simp,fun k _ hn=>World.putObj_heap_other hn⟩
theorem RgJ.put {L:List Sym} {R:List Ru} {w:World} {bs k:Nat} {X:World} {l:Nat} {o o' : Obj} (h:RgJ L R w bs k X) (hl:X.heap[l]? = some o) (ho:o.isCells=false) (hw:w.heap.size≤l):RgJ L R w bs k (X.putObj l o'):=by
 obtain ⟨h1,h2,v,cs,h3,h4,h5⟩:=h
 have kk:Kept (fun k=>k=l) X (X.putObj l o'):=kept_put
 have no:∀ cur t fr,X.heap[l]? ≠ some (.cells cur t fr):=fun cur t fr e=>by rw [hl] at e;cases e;cases ho
 refine ⟨Kept.trans h1 kk (fun i hi e=>by have e' : i=l:=e;omega),putObj_at hl ho h2 rfl,v,cs,putObj_at hl ho h3 rfl,kk.row h4 (fun q e e2=>?_),h5.kept kk (fun q e=>?_)⟩
 ·obtain ⟨cur,hc⟩:=own_typed h4 e
  have e3:q=l:=e2
  rw [e3] at hc
  exact no _ _ _ hc
 ·have e3:q=l:=e
  rw [e3]
  exact ⟨fun cur=>no _ _ _,fun cur=>no _ _ _⟩
theorem own_low {w:World} {base n size:Nat} {T:TypeId} {v:Value} {vs:List Value} (h:w.ownsRow base T size v n vs) {q:Nat} (hq:v.ownBlock=some q):base≤q:=by
 rcases h.2 with ⟨rfl,_⟩ | ⟨g,cap,cur,rfl,hb,_⟩
 ·simp [Value.ownBlock] at hq
 ·simp only [Value.ownBlock,Option.some.injEq] at hq;omega
theorem Rnd.of {D B:Nat} {S:Nat→Prop} {W W' : World} (h:Kept S W W') (hc:∀ k,S k→∃ cur t fr,W.heap[k]? = some (.cells cur t fr)) (hB:∀ k,k<B→¬ S k) (hBW:B≤W.heap.size):Rnd D B W W' :=
 ⟨⟨h.size,fun k o _ hk ho=>h.at hk (fun s=>by obtain ⟨cur,t,fr,e⟩:=hc k s;rw [hk] at e;cases e;cases ho)⟩,h.below hBW hB⟩
theorem RgJ.more {L:List Sym} {R:List Ru} {w:World} {bs k:Nat} {W w1:World} (j1:Same0 w W) (j2:W.heap[w.heap.size]? = some (.cells #[.pointer (some ⟨bs,0,none⟩)] 25 (0,0))) {v v' : Value} {cs:List Value} (j3:W.heap[w.heap.size+1]? = some (.cells #[v] 49 (0,0))) (j4:W.ownsRow w.heap.size 62 1 v k cs) (j5:RtC w.heap.size W cs (rightsL L (R.take k))) (hk:k<R.length) {gp gc:Nat} (hP:PtC w.heap.size W gp (partsL L R[k]).length (partsL L R[k])) (hg:w.heap.size≤gp)
  (hr:w1.ownsRow w.heap.size 62 1 v' (k+1) (cs ++ [.slice (some ⟨gp,0,none⟩) (partsL L R[k]).length gc])) (hkp:Kept (fun q=>v.ownBlock=some q) W w1) {D:Nat} :
  w1.heap[w.heap.size+1]? = some (.cells #[v] 49 (0,0))∧RgJ L R w bs (k+1) (w1.setCell ⟨w.heap.size+1,0,none⟩ v')∧Rnd D w.heap.size W (w1.setCell ⟨w.heap.size+1,0,none⟩ v'):=by
 have ty:∀ q,v.ownBlock=some q→∃ cur,W.heap[q]? = some (.cells cur 62 (0,0)):=fun q e=>own_typed j4 e
 have n3:¬ v.ownBlock=some (w.heap.size+1):=fun e=>by obtain ⟨cur,hc⟩:=ty _ e;rw [j3] at hc;cases hc
 have n2:¬ v.ownBlock=some w.heap.size:=fun e=>by obtain ⟨cur,hc⟩:=ty _ e;rw [j2] at hc;cases hc
 have b3:=hkp.at j3 n3
 have ks:=kept_at w1 (w.heap.size+1) 0 v'
 have kk:Kept (fun q=>v.ownBlock=some q∨q=w.heap.size+1) W (w1.setCell ⟨w.heap.size+1,0,none⟩ v'):=Kept.trans (hkp.mono (fun _ _ e=>.inl e)) ks (fun _ _ e=>.inr e)
 have e1:rightsL L (R.take (k+1))=rightsL L (R.take k) ++ [partsL L R[k]]:=by
  unfold rightsL
  rw [List.take_add_one,List.getElem?_eq_getElem hk,List.map_append];rfl
 refine ⟨b3,⟨Kept.trans j1 kk (fun i hi e=>?_),kk.at j2 (fun e=>?_),v', _,by rw [setAt b3];rfl,ks.row hr (fun q e e2=>?_),?_⟩,Rnd.of kk (fun q e=>?_) (fun q hq e=>?_) j1.size⟩
 ·rcases e with e | e
  ·have:=own_low j4 e;omega
  ·omega
 ·rcases e with e | e
  ·exact n2 e
  ·omega
 ·have e3:q=w.heap.size+1:=e2
  rw [e3] at e
  obtain ⟨cur,hc⟩:=own_typed hr e
  rw [b3] at hc;cases hc
 ·rw [e1]
  refine (j5.snoc hg hP).kept kk (fun q e=>?_)
  rcases e with e | e
  ·obtain ⟨cur,hc⟩:=ty q e
   exact ⟨fun cur' h=>(by rw [hc] at h;cases h),fun cur' h=>(by rw [hc] at h;cases h)⟩
  ·rw [e]
   exact ⟨fun cur' h=>(by rw [j3] at h;cases h),fun cur' h=>(by rw [j3] at h;cases h)⟩
 ·rcases e with e | e
  ·obtain ⟨cur,hc⟩:=ty q e
   exact ⟨_,_,_,hc⟩
  ·rw [e];exact ⟨_,_,_,j3⟩
 ·rcases e with e | e
  ·have:=own_low j4 e;omega
  ·omega
end Go.Proofs.YtjahpnbijefncaaGreat
namespace Go.Proofs.YtjahpnbijefncaaGreat
set_option maxRecDepth 100000
set_option linter.unusedVariables false
open Go.RowKit
theorem ArgT.keptB {w w' : World} {ao:Option Addr} {xs:List Int} {cap:Nat} {S:Nat→Prop} (h:ArgT w ao xs cap) (hk:Kept S w w') (hS:∀ a,ao=some a→¬ S a.block):ArgT w' ao xs cap:=by
 refine ⟨⟨h.1.at'.kept hk hS,h.1.cap', h.1.nil,h.1.size⟩,fun a e=>?_,fun a e=>?_⟩
 ·obtain ⟨cur,hc⟩:=h.2 a e
  exact ⟨cur,hk.at hc (hS a e)⟩
 ·obtain ⟨b,cur,e1,hc,hs,hm⟩:=h.own a e
  exact ⟨b,cur,e1,hk.at hc (by have:=hS a e;rw [e1] at this;exact this),hs,hm⟩
theorem PathsC.keptB {B S:Nat→Prop} {w w' : World} {vs:List Value} {P:List (List Int)} (h:PathsC B w vs P) (hk:Kept S w w') (hS:∀ q,S q→B q):PathsC B w' vs P:=
 ⟨h.1,fun i hi=>by
  obtain ⟨ao,ac,h1,h2,h3⟩:=h.2 i hi
  exact ⟨ao,ac,h1,h2.keptB hk (fun a e s=>h3 a e (hS _ s)),h3⟩⟩
theorem Lay.keptB {B S:Nat→Prop} {w w' : World} {vi vp:Value} {s:St9} (h:Lay B w vi vp s) (hk:Kept S w w') (hS:∀ q,S q→B q):Lay B w' vi vp s:=by
 obtain ⟨h1,h2,⟨vs,h3,h4⟩,h5⟩:=h
 exact ⟨hk.row h1 (fun k e q=>h2 k e (hS k q)),h2,⟨vs,hk.row h3 (fun k e q=>h5 k e (hS k q)),h4.keptB hk hS⟩,h5⟩
theorem CtAt.keptB {B S:Nat→Prop} {w w' : World} {tb:Nat} {s:St9} (h:CtAt B w tb s) (hk:Kept S w w') (hS:∀ q,S q→B q):CtAt B w' tb s:=by
 obtain ⟨vi,vp,h1,h2,h3⟩:=h
 exact ⟨vi,vp,hk.at h1 (fun q=>h2 (hS _ q)),h2,h3.keptB hk hS⟩
def NoC (w:World) (q:Nat):Prop:=∃ o,w.heap[q]? = some o∧o.isCells=false
theorem NoC.not {w:World} {q:Nat} {cur:Array Value} {t:TypeId} {fr:Nat × Nat} (h:NoC w q) (hc:w.heap[q]? = some (.cells cur t fr)):False:=by
 obtain ⟨o,h1,h2⟩:=h
 rw [hc] at h1;cases h1;cases h2
theorem CtAt.wide {B:Nat→Prop} {w:World} {tb:Nat} {s:St9} (h:CtAt B w tb s):CtAt (fun q=>B q∨w.heap.size≤q∨NoC w q) w tb s:=by
 obtain ⟨vi,vp,h1,h2,h3⟩:=h
 obtain ⟨a1,a2,⟨vs,a3,a4,a5⟩,a6⟩:=h3
 have key:∀ q cur t,w.heap[q]? = some (.cells cur t (0,0))→¬ B q→¬ (B q∨w.heap.size≤q∨NoC w q):=fun q cur t hc nb e=>by
  rcases e with e | e | e
  ·exact nb e
  ·have:=lt_of_at hc;omega
  ·exact e.not hc
 refine ⟨vi,vp,h1,key _ _ _ h1 h2,a1,fun k e=>?_,⟨vs,a3,a4,fun i hi=>?_⟩,fun k e=>?_⟩
 ·obtain ⟨cur,hc⟩:=own_typed a1 e
  exact key _ _ _ hc (a2 k e)
 ·obtain ⟨ao,ac,q1,q2,q3⟩:=a5 i hi
  refine ⟨ao,ac,q1,q2,fun a e=>?_⟩
  obtain ⟨cur,hc⟩:=q2.2 a e
  exact key _ _ _ hc (q3 a e)
 ·obtain ⟨cur,hc⟩:=own_typed a3 e
  exact key _ _ _ hc (a6 k e)
def EnB (n eb:Nat) (ev:Value) (q:Nat):Prop:=q<n∨q=eb∨ev.ownBlock=some q
structure CpJ (L:List Sym) (R:List Ru) (w1:World) (k:Nat) (W:World):Prop where
 same:Same0 w1 W
 ent:∃ ev,W.heap[w1.heap.size+1]? = some (.cells #[ev] 32 (0,0))∧Row w1.heap.size W ev (cmpS L R k).2∧CtAt (EnB w1.heap.size (w1.heap.size+1) ev) W w1.heap.size (cmpS L R k).1
theorem CpJ.up {L:List Sym} {R:List Ru} {w1:World} {k:Nat} {W W' : World} (h:CpJ L R w1 k W) (hk:Same0 W W'):CpJ L R w1 k W' := by
 obtain ⟨h1,ev,h2,h3,h4⟩:=h
 exact ⟨h1.trans' hk,ev,hk.at0 h2,hk.row h3 (fun _ _ f=>f),h4.same hk⟩
theorem CpJ.put {L:List Sym} {R:List Ru} {w1:World} {k:Nat} {X:World} {l:Nat} {o o' : Obj} (h:CpJ L R w1 k X) (hl:X.heap[l]? = some o) (ho:o.isCells=false) (hw:w1.heap.size≤l):CpJ L R w1 k (X.putObj l o'):=by
 obtain ⟨h1,ev,h2,h3,h4⟩:=h
 have kk:Kept (fun k=>k=l) X (X.putObj l o'):=kept_put
 have hN:NoC X l:=⟨o,hl,ho⟩
 refine ⟨Kept.trans h1 kk (fun i hi e=>by have e' : i=l:=e;omega),ev,putObj_at hl ho h2 rfl,kk.row h3 (fun q e e2=>?_),?_⟩
 ·have e3:q=l:=e2
  obtain ⟨cur,hc⟩:=own_typed h3 e
  rw [e3] at hc
  exact hN.not hc
 ·exact (h4.wide.keptB kk (fun q e=>by have e' : q=l:=e;rw [e'];exact .inr (.inr hN))).mono (fun b _ q=>.inl q)
theorem CpJ.push {w1 X w2:World} {ev ev' : Value} {E:List Int} {s:St9} {z:Int} {B:Nat→Prop} (h1:Same0 w1 X) (h2:X.heap[w1.heap.size+1]? = some (.cells #[ev] 32 (0,0))) (h3:Row w1.heap.size X ev E) (h4:CtAt B X w1.heap.size s) (hB:∀ q,EnB w1.heap.size (w1.heap.size+1) ev q→B q) (hr:w2.ownsRow w1.heap.size 3 1 ev' (E.length+1) (iv E ++ [.int .i64 z])) (hk:Kept (fun q=>ev.ownBlock=some q) X w2) :
  w2.heap[w1.heap.size+1]? = some (.cells #[ev] 32 (0,0))∧(w2.setCell ⟨w1.heap.size+1,0,none⟩ ev').heap[w1.heap.size+1]? = some (.cells #[ev'] 32 (0,0))∧Row w1.heap.size (w2.setCell ⟨w1.heap.size+1,0,none⟩ ev') ev' (E ++ [z])∧CtAt B (w2.setCell ⟨w1.heap.size+1,0,none⟩ ev') w1.heap.size s∧Kept (fun q=>ev.ownBlock=some q∨q=w1.heap.size+1) X (w2.setCell ⟨w1.heap.size+1,0,none⟩ ev')∧Same0 w1 (w2.setCell ⟨w1.heap.size+1,0,none⟩ ev'):=by
 have ne:¬ ev.ownBlock=some (w1.heap.size+1):=fun e=>by
  obtain ⟨cur,hc⟩:=own_typed h3 e
  rw [h2] at hc;cases hc
 have b2:=hk.at h2 ne
 have ks:=kept_at w2 (w1.heap.size+1) 0 ev'
 have kk:Kept (fun q=>ev.ownBlock=some q∨q=w1.heap.size+1) X (w2.setCell ⟨w1.heap.size+1,0,none⟩ ev'):=Kept.trans (hk.mono (fun _ _ e=>.inl e)) ks (fun _ _ e=>.inr e)
 refine ⟨b2,by rw [setAt b2];rfl,?_,h4.keptB kk (fun q e=>hB q ?_),kk,Kept.trans h1 kk (fun i hi e=>?_)⟩
 ·have r2:=ks.row hr (fun q e e2=>by
   have e3:q=w1.heap.size+1:=e2
   rw [e3] at e
   obtain ⟨cur,hc⟩:=own_typed hr e
   rw [b2] at hc;cases hc)
  have e1:iv (E ++ [z])=iv E ++ [.int .i64 z]:=by simp [iv]
  unfold Row
  rw [e1,List.length_append]
  exact r2
 ·rcases e with e | e
  ·exact .inr (.inr e)
  ·exact .inr (.inl e)
 ·rcases e with e | e
  ·have:=own_low h3 e;omega
  ·omega
theorem hat_of {v v' : Value} {n m:Nat} (h:v'.ownBlock=v.ownBlock∨v'.ownBlock=some n) (hm:m≤n):∀ q,v'.ownBlock=some q→v.ownBlock=some q∨m≤q:=fun q e=>by
 rcases h with h | h
 ·rw [h] at e;exact .inl e
 ·rw [h] at e;simp only [Option.some.injEq] at e;exact .inr (by omega)
theorem CpJ.pass {L:List Sym} {R:List Ru} {w1 X w2:World} {k D:Nat} {ev ev' : Value} (hk:defB L (k:Int)=false) (h1:Same0 w1 X) (h2:X.heap[w1.heap.size+1]? = some (.cells #[ev] 32 (0,0))) (h3:Row w1.heap.size X ev (cmpS L R k).2) (h4:CtAt (EnB w1.heap.size (w1.heap.size+1) ev) X w1.heap.size (cmpS L R k).1) (hr:w2.ownsRow w1.heap.size 3 1 ev' ((cmpS L R k).2.length+1) (iv (cmpS L R k).2 ++ [.int .i64 (-1)])) (hkp:Kept (fun q=>ev.ownBlock=some q) X w2) (hat:∀ q,ev'.ownBlock=some q→ev.ownBlock=some q∨X.heap.size≤q) :
  w2.heap[w1.heap.size+1]? = some (.cells #[ev] 32 (0,0))∧CpJ L R w1 (k+1) (w2.setCell ⟨w1.heap.size+1,0,none⟩ ev')∧Rnd D w1.heap.size X (w2.setCell ⟨w1.heap.size+1,0,none⟩ ev'):=by
 obtain ⟨q1,q2,q3,q4,q5,q6⟩:=CpJ.push h1 h2 h3 h4.wide (fun q e=>.inl e) hr hkp
 refine ⟨q1,⟨q6,ev', q2,?_,?_⟩,Rnd.of q5 (fun q e=>?_) (fun q hq e=>?_) h1.size⟩
 ·rw [cmpS_no hk];exact q3
 ·rw [cmpS_no hk]
  refine q4.mono (fun b hb e=>?_)
  rcases e with e | e | e
  ·exact .inl (.inl e)
  ·exact .inl (.inr (.inl e))
  ·rcases hat b e with e | e
   ·exact .inl (.inr (.inr e))
   ·exact .inr (.inl e)
 ·rcases e with e | e
  ·obtain ⟨cur,hc⟩:=own_typed h3 e
   exact ⟨_,_,_,hc⟩
  ·rw [e];exact ⟨_,_,_,h2⟩
 ·rcases e with e | e
  ·have:=own_low h3 e;omega
  ·omega
theorem CpJ.laid {L:List Sym} {R:List Ru} {w1 Wb X w2:World} {k D:Nat} {ev ev' : Value} {t:Tr 2001} {v:Value} (hk:defB L (k:Int)=true) (ht:treeF L R k=.ok t) (hsm:(cmpS L R k).1.1.length+(cmpS L R k).1.2.length+insN 2001 t≤1000000000000) (hX:Same0 Wb X) (h1:Same0 w1 Wb) (h2:Wb.heap[w1.heap.size+1]? = some (.cells #[ev] 32 (0,0))) (h3:Row w1.heap.size Wb ev (cmpS L R k).2) (h4:CtAt (EnB w1.heap.size (w1.heap.size+1) ev) Wb w1.heap.size (cmpS L R k).1) (hcs:CsB (fun b=>Wb.heap.size≤b) X 2001 v t)
  (hr:w2.ownsRow w1.heap.size 3 1 ev' ((cmpS L R k).2.length+1) (iv (cmpS L R k).2 ++ [.int .i64 ((cmpS L R k).1.1.length:Int)])) (hkp:Kept (fun q=>ev.ownBlock=some q) X w2) (hat:∀ q,ev'.ownBlock=some q→ev.ownBlock=some q∨X.heap.size≤q) :
  w2.heap[w1.heap.size+1]? = some (.cells #[ev] 32 (0,0))∧Kept (fun q=>ev.ownBlock=some q∨q=w1.heap.size+1) X (w2.setCell ⟨w1.heap.size+1,0,none⟩ ev') ∧
  Calls Tryz.prog 50 #[.pointer (some ⟨w1.heap.size,0,none⟩),v] (w2.setCell ⟨w1.heap.size+1,0,none⟩ ev') fun e Z=>(∃ u,e=.returned u)∧CpJ L R w1 (k+1) Z∧Rnd D w1.heap.size Wb Z:=by
 have h3X:=hX.row h3 (fun _ _ f=>f)
 have h4X:=h4.wide.same hX
 obtain ⟨q1,q2,q3,q4,q5,q6⟩:=CpJ.push (h1.trans' hX) (hX.at0 h2) h3X h4X (fun q e=>.inl e) hr hkp
 obtain ⟨Y,hY⟩:∃ Y,Y=w2.setCell ⟨w1.heap.size+1,0,none⟩ ev' := ⟨_,rfl⟩
 rw [← hY] at q2 q3 q4 q5 q6 ⊢
 have hzX:=hX.size
 have hz1:=h1.size
 have hzY:=q5.size
 have lE:=lt_of_at h2
 obtain ⟨B3,hB3⟩:∃ B3:Nat→Prop,B3=fun q=>(EnB w1.heap.size (w1.heap.size+1) ev q∨Wb.heap.size≤q∨NoC Wb q)∧q<Y.heap.size:=⟨_,rfl⟩
 have T3:CtAt B3 Y w1.heap.size (cmpS L R k).1:=q4.mono (fun b _ e=>by rw [hB3] at e;exact e.1)
 have far:∀ b,Wb.heap.size≤b→¬ (ev.ownBlock=some b∨b=w1.heap.size+1):=fun b hb e=>by
  rcases e with e | e
  ·have:=typed_lt h3 e;omega
  ·omega
 have C3:CsB B3 Y 2001 v t:=CsB.mono (fun b hb e=>by rw [hB3];exact ⟨.inr (.inl e),hb⟩) (CsB.kept q5 (fun b e=>far b e) hcs)
 have up:∀ q,EnB w1.heap.size (w1.heap.size+1) ev' q→q<Y.heap.size→B3 q:=fun q e hl=>by
  rw [hB3]
  refine ⟨?_,hl⟩
  rcases e with e | e | e
  ·exact .inl (.inl e)
  ·exact .inl (.inr (.inl e))
  ·rcases hat q e with e | e
   ·exact .inl (.inr (.inr e))
   ·exact .inr (.inl (by omega))
 refine ⟨q1,q5,(lay_any 2001 B3 Y w1.heap.size v t (cmpS L R k).1 T3 (fun b e=>by rw [hB3] at e;exact e.2) C3 hsm).mono ?_⟩
 rintro e Z ⟨hu,hc,hkz⟩
 have keep:∀ q,B3 q→¬ ¬ B3 q:=fun q h n=>n h
 have low:∀ q,q<w1.heap.size→B3 q:=fun q hq=>up q (.inl hq) (by omega)
 refine ⟨hu,⟨Kept.trans q6 hkz (fun i hi e=>absurd (low i hi) e),ev', hkz.at q2 (keep _ (up _ (.inr (.inl rfl)) (by omega))),?_,?_⟩,⟨⟨?_,fun q o hD ho hn=>?_⟩,?_⟩⟩
 ·rw [cmpS_yes hk ht]
  exact hkz.row q3 (fun q e=>keep _ (up q (.inr (.inr e)) (typed_lt q3 e)))
 ·rw [cmpS_yes hk ht]
  refine hc.mono (fun b hb e=>up b e ?_)
  rcases e with e | e | e
  ·omega
  ·omega
  ·exact typed_lt q3 e
 ·exact Nat.le_trans hzX (Nat.le_trans hzY hkz.size)
 ·have hq:=lt_of_at ho
  have hN:NoC Wb q:=⟨o,ho,hn⟩
  refine hkz.at (q5.at (hX.at0 ho) (fun e=>?_)) (keep _ (by rw [hB3];exact ⟨.inr (.inr hN),by omega⟩))
  rcases e with e | e
  ·obtain ⟨cur,hc'⟩:=own_typed h3 e
   exact hN.not hc'
  ·rw [e] at hN;exact hN.not h2
 ·have kk:=Kept.trans (Kept.trans (Kept.mono (S' := fun q=>¬ B3 q∨w1.heap.size≤q) hX (fun _ _ f=>f.elim)) q5 (fun i hi e=>by
   rcases e with e | e
   ·exact .inr (own_low h3 e)
   ·exact .inr (by omega))) hkz (fun i _ e=>.inl e)
  exact kk.below hz1 (fun q hq e=>by
   rcases e with e | e
   ·exact e (low q hq)
   ·omega)
end Go.Proofs.YtjahpnbijefncaaGreat
namespace Go.Proofs.YtjahpnbijefncaaGreat
set_option maxRecDepth 100000
set_option linter.unusedVariables false
open Go.RowKit Go.Shelf
attribute [local go_sem] Oper.semAt_some
set_option maxHeartbeats 16000000 in
theorem rightsOf_any {w:World} {bs b bt:Nat} {L:List Sym} {R:List Ru} {lv:Value} {vs:List Value} (hsg:Sg w.heap.size w bs L) (hst:StAt w b bt L R lv vs) :
  Calls Tryz.prog 51 #[.pointer (some ⟨bs,0,none⟩),.pointer (some ⟨b,0,none⟩)] w fun e w' => ∃ ro rc cs,e=.returned (.slice ro R.length rc)∧w'.ownsRow w.heap.size 62 1 (.slice ro R.length rc) R.length cs∧RtC w.heap.size w' cs (rightsL L R)∧Same0 w w' := by
 have hFn:∀ k,Fence.wide.fn k:=fun _=>trivial
 have hle:=hst.le
 refine (callsIn_wide (n:=9)).1 ?_
 refine callsIn_of_wp_marks Tryz.func51 rfl trivial ?_ rfl
 simp only [Tryz.ntmps51,List.size_toArray,List.length_cons,List.length_nil,Nat.reduceAdd,Nat.reduceSub,Array.replicate_succ,Array.replicate_zero,List.push_toArray,List.append_toArray,List.nil_append,List.cons_append]
 gi_wp2_with (gi_at_call 99;refine (crall_in Fence.wide _ trivial rfl _ _).mono ?_;rintro e w' ⟨rfl,rfl⟩)
 obtain ⟨W0,hW0⟩:∃ W0,W0=((w.alloc (.cells #[.pointer (some ⟨bs,0,none⟩)] 25)).alloc (.cells #[.slice none 0 0] 49)).alloc (.cells #[.pointer (some ⟨b,0,none⟩)] 26):=⟨_,rfl⟩
 have K0:Same0 w W0:=by rw [hW0];exact (((Kept.refl _ w).alloc _).alloc _).alloc _
 have z0:W0.heap.size=w.heap.size+3:=by rw [hW0];simp
 have b0:W0.heap[w.heap.size]? = some (.cells #[.pointer (some ⟨bs,0,none⟩)] 25 (0,0)):=by
  rw [hW0,heap_alloc_old _ _ (by simp;omega)];exact heap_alloc2_old _ _ _
 have b1:W0.heap[w.heap.size+1]? = some (.cells #[.slice none 0 0] 49 (0,0)):=by
  rw [hW0,heap_alloc_old _ _ (by simp)];exact heap_al_al _ _ _
 have b2:W0.cell? ⟨w.heap.size+1+1,0,none⟩=some (.pointer (some ⟨b,0,none⟩)):=by
  have:=heap_al_al (w.alloc (.cells #[.pointer (some ⟨bs,0,none⟩)] 25)) (.cells #[.slice none 0 0] 49) (.cells #[.pointer (some ⟨b,0,none⟩)] 26)
  simp only [World.size_alloc] at this
  rw [← hW0] at this
  exact cellAt this 0
 rw [← hW0]
 clear hW0
 have SG:Hid (∀ X,Same0 w X→Sg X.heap.size X bs L):=fun X hk=>sg_up (hsg.same hk) hk.size
 have OK:Hid (∀ k (h:k<R.length),((0<R[k].1.length∧R[k].1.length≤2000)∧0<R[k].2.length∧R[k].2.length≤2000)):=fun k h=>ok_len (hst.ok _ (List.getElem_mem h))
 refine wp_hands rfl (by omega) (gf:=132) (lb:=#[.pointer (some ⟨w.heap.size+1+1,0,none⟩)]) rfl trivial (enters_of Tryz.func132 (by kernel_rfl) rfl) (B:=w.heap.size) (by omega) (hands_rules hst K0 b2 (by omega)) (fun k vs W h=>by obtain ⟨_,_,_,_,_,rfl,_⟩:=h;rfl)
  (fun k W=>RgJ L R w bs k W) (fun k X Y h hk=>h.up hk) (fun k X l o o' h hl ho hw=>h.put hl ho (by omega)) ⟨K0,b0,.slice none 0 0,[],b1,World.ownsRow_nil _ _ _ _,by simpa [rightsL] using RtC.nil _ _⟩ ?round ?done
 case done=>
  rintro D W hD hj hK
  obtain ⟨j1,j2,v,cs,j3,j4,j5⟩:=hj.put (o' := .deferred none) hK rfl (by omega)
  rw [List.take_of_length_le (Nat.le_refl _)] at j5
  obtain ⟨ro,rc,rfl⟩:=row_shape j4
  have c3:W.cell? ⟨w.heap.size+1,0,none⟩=some (.slice ro R.length rc):=by
   have:=(World.putObj_heap_other (w:=W) (r:=D) (o:=.deferred none) (k:=w.heap.size+1) (by omega)).symm.trans j3
   exact cellAt this 0
  have HF:Hid _:=And.intro j4 (And.intro j5 j1)
  clear j1 j2 j3 j4 j5 hj
  gi_wp2_with fail
  refine ⟨by simp,.inl ⟨_,_,rfl,run_takeDeferred hK,?_⟩⟩
  exact ⟨_,results_tmp rfl _ _ _,ro,rc,cs,rfl,HF.out⟩
 case round=>
  rintro l k vs W hk hl hlW hj ⟨hk', g,c,g', c', rfl,t1,t2⟩
  obtain ⟨Wa,hWa⟩:∃ Wa,Wa=W.alloc (.cells #[.slice (some ⟨g,0,none⟩) R[k].1.length c,.slice (some ⟨g', 0,none⟩) R[k].2.length c'] 68):=⟨_,rfl⟩
  have ka:Same0 W Wa:=by rw [hWa];exact (Kept.refl _ _).alloc _
  have bx:Wa.heap[W.heap.size]? = some (.cells #[.slice (some ⟨g,0,none⟩) R[k].1.length c,.slice (some ⟨g', 0,none⟩) R[k].2.length c'] 68 (0,0)):=by rw [hWa];exact heap_alloc_new _ _
  gi_wp2_with fail
  rw [← hWa]
  clear hWa
  refine ⟨Rnd.same ka (by omega),fun o o' ho hoc hoc' => ?_⟩
  have hpk:Kept (fun q=>q=l) Wa (Wa.putObj l o'):=kept_put
  have no:∀ q,(fun q=>q=l) q→∀ cur,Wa.heap[q]? ≠ some (.cells cur 3 (0,0)):=fun q e cur hc=>by
   have e' : q=l:=e
   rw [e', ho] at hc;cases hc;cases hoc
  have hjb:=(hj.up ka).put (o' := o') ho hoc (by omega)
  have t1b:=(t1.same ka).kept hpk no
  have t2b:=(t2.same ka).kept hpk no
  have bxb:=putObj_at (o' := o') ho hoc bx rfl
  have lob:(Wa.putObj l o').heap[l]? = some o' := World.putObj_heap_same (lt_of_at ho)
  obtain ⟨Wb,hWb⟩:∃ Wb,Wb=Wa.putObj l o' := ⟨_,rfl⟩
  rw [← hWb] at hjb t1b t2b bxb lob ⊢
  have hzb:W0.heap.size≤Wb.heap.size:=by have:=lt_of_at lob;omega
  clear hWb hpk no ho t1 t2 bx hj
  obtain ⟨⟨p1,m1⟩,p2,m2⟩:=OK.out k hk'
  obtain ⟨N,hN⟩:∃ N,N=R[k].2.length:=⟨_,rfl⟩
  obtain ⟨Z,hZs,hmk⟩:∃ Z:Array Value,Z.size=N * 2∧∀ w:World,(Instr.makeSlice 62 (.int .i64 (N:Int)) (.int .i64 (N:Int))).run Tryz.prog w=.ok (.slice (some ⟨w.heap.size,0,none⟩) N N) (w.alloc (.cells Z 77)):=by
   obtain ⟨i,hi,hz0,hz1,hz2⟩:=info_parts info_part
   refine ⟨madeCells (Value.agg #[.int .i64 0,.slice none 0 0]).cells (N * 2),size_madeCells _ _,fun w=>?_⟩
   have:=run_make w 62 77 i _ Tryz.underlying62 hi hz0 .i64 .i64 (N:Int) (N:Int) (by omega) (by omega) (by rw [hz2];omega) (by omega)
   simpa [hz1] using this
  have y0:=cellAt bxb 0
  have y1:=cellAt bxb 1
  simp only [List.getElem?_toArray,List.getElem?_cons_zero,List.getElem?_cons_succ] at y0 y1
  rw [← hN] at y1 p2 m2
  have HN:Hid (N=R[k].2.length):=hN
  have G0:Wb.heap.size=Wb.heap.size:=rfl
  obtain ⟨Wc,hWc⟩:∃ Wc,Wc=Wb.alloc (.cells Z 77):=⟨_,rfl⟩
  have kc:Same0 Wb Wc:=by rw [hWc];exact (Kept.refl _ _).alloc _
  obtain ⟨gp,hgp⟩:∃ gp,gp=Wb.heap.size:=⟨_,rfl⟩
  have bp:Wc.heap[gp]? = some (.cells Z 77 (0,0)):=by rw [hWc,hgp];exact heap_alloc_new _ _
  have hgw:w.heap.size≤gp:=by omega
  have INV0:Hid (Same0 Wb Wc∧PtC w.heap.size Wc gp 0 (partsL L R[k])):=⟨kc,Z,bp,by rw [hZs,HN.out];simp [partsL],fun i hi h0=>by omega⟩
  have BXX:Hid (∀ X,Same0 Wb X→X.cell? ⟨W.heap.size,0,none⟩=some (.slice (some ⟨g,0,none⟩) R[k].1.length c)∧X.cell? ⟨W.heap.size,1,none⟩=some (.slice (some ⟨g', 0,none⟩) N c')∧X.cell? ⟨w.heap.size,0,none⟩=some (.pointer (some ⟨bs,0,none⟩))∧TmAt X g c R[k].1∧TmAt X g' c' R[k].2∧RgJ L R w bs k X):=fun X hx=>by
   have h1:=hx.at0 bxb
   have c1:=cellAt h1 1
   simp only [List.getElem?_toArray,List.getElem?_cons_zero,List.getElem?_cons_succ] at c1
   rw [← HN.out] at c1
   exact ⟨cellAt h1 0,c1,cellAt (hx.at0 hjb.bx) 0,t1b.same hx,t2b.same hx,hjb.up hx⟩
  have HX:Hid (∀ X i (hi:i<N),Same0 Wb X→X.cell? ⟨g', i,none⟩=some (.int .i64 (R[k].2[i]'(by rw [← HN.out];exact hi)))):=fun X i hi hx=>by
   obtain ⟨_,_,_,_,h5,_⟩:=BXX.out X hx
   have hi' : i<R[k].2.length:=by rw [← HN.out];exact hi
   have h6:=h5.cells (g:=g') rfl i (.int .i64 R[k].2[i]) (iv_get hi')
   rw [addr_add] at h6
   simpa using h6
  have CPT:Hid (∀ X (x:Int),Same0 Wb X→Calls Tryz.prog 100 #[.pointer (some ⟨bs,0,none⟩),.slice (some ⟨g,0,none⟩) R[k].1.length c,.int .i64 x] X fun e Y=>∃ so sc,e=.returned (.agg #[.int .i64 (partP L R[k].1 x).1,.slice so (partP L R[k].1 x).2.length sc])∧Hid (ArgT Y so (partP L R[k].1 x).2 sc∧∀ a,so=some a→X.heap.size≤a.block)∧Same0 X Y):=fun X x hx=>by
   obtain ⟨_,_,_,h4,_,h6⟩:=BXX.out X hx
   obtain ⟨ao,ac,e1,i1,i2,_⟩:=h4.ints
   simp only [Value.slice.injEq,true_and] at e1
   obtain ⟨rfl,rfl⟩:=e1
   refine (partOf_any (SG.out X h6.same) i1 m1 i2 x).mono ?_
   rintro e Y ⟨so,sc,rfl,hr,hk⟩
   have hlen:(partP L R[k].1 x).2.length≤2000:=by
    unfold partP
    split
    ·simp
    ·exact pathA_len L _ _ m1
   obtain ⟨ao,ac,e2,q1,q2⟩:=hr.arg (by omega)
   simp only [Value.slice.injEq,true_and] at e2
   obtain ⟨rfl,rfl⟩:=e2
   exact ⟨so,sc,rfl,⟨q1,q2⟩,hk⟩
  clear hN hZs kc bp OK SG hsg hst
  have HGP:Hid (gp=Wb.heap.size):=hgp
  have HWC:Hid (Wc=Wb.alloc (.cells Z 77)):=hWc
  clear hgp hWc
  have y1c:(Wb.alloc (.cells Z 77)).cell? ⟨W.heap.size,1,none⟩=some (.slice (some ⟨g', 0,none⟩) N c'):=cell_al y1 _
  gi_wp2_with fail
  rw [← HWC.out,← HGP.out]
  clear HWC hmk y1c
  have NW:(N:Int)≤2000:=by omega
  gi_loopw [22] (fun s22 wr=>∃ i:Nat,i≤N∧s22=.int .i64 (i:Int)∧Same0 Wb wr∧PtC w.heap.size wr gp i (partsL L R[k])) (fun s22 _=>N-(intOf s22).toNat)
  case atStart=>exact ⟨0,Nat.zero_le _,rfl,INV0.out⟩
  case round=>
   clear INV0 y0 y1
   obtain ⟨i,hi,rfl,hs,hP⟩:=hrel
   obtain ⟨y0,y1,y2, -, -, -⟩:=BXX.out wr hs
   by_cases hlt:i<N
   ·have cx:=HX.out wr i hlt hs
    have hiQ:i<(partsL L R[k]).length:=by rw [HN.out] at hlt;simpa [partsL] using hlt
    have eQ:(partsL L R[k])[i]=partP L R[k].1 (R[k].2[i]'(by rw [← HN.out];exact hlt)):=by simp [partsL]
    generalize R[k].2[i]'(by rw [← HN.out];exact hlt)=x at *
    have C:=CPT.out wr x hs
    have NX:Hid (∀ Y so sc,Same0 wr Y→(ArgT Y so (partP L R[k].1 x).2 sc∧∀ a,so=some a→wr.heap.size≤a.block)→(∃ o1 o2,Y.cell? ⟨gp,i * 2,none⟩=some o1∧Y.cell? ⟨gp,i * 2+1,none⟩=some o2)∧Y.frozen? ⟨gp,i * 2,none⟩=false∧Y.frozen? ⟨gp,i * 2+1,none⟩=false∧Same0 Wb ((Y.setCell ⟨gp,i * 2,none⟩ (.int .i64 (partP L R[k].1 x).1)).setCell ⟨gp,i * 2+1,none⟩ (.slice so (partP L R[k].1 x).2.length sc))∧PtC w.heap.size ((Y.setCell ⟨gp,i * 2,none⟩ (.int .i64 (partP L R[k].1 x).1)).setCell ⟨gp,i * 2+1,none⟩ (.slice so (partP L R[k].1 x).2.length sc)) gp (i+1) (partsL L R[k])):=fun Y so sc hY ha=>by
     have hwz:=hs.size
     rw [← eQ] at ha ⊢
     obtain ⟨q1,q2,q3,q4⟩:=(hP.same hY).put hiQ ha.1 (fun a e=>by have:=ha.2 a e;have:=HGP.out;omega)
     refine ⟨q2,q3,q4,?_,q1⟩
     have hge:Wb.heap.size≤gp:=by rw [HGP.out];exact Nat.le_refl _
     exact Same0.own (Same0.own (hs.trans' hY) hge _) hge _
    generalize (partP L R[k].1 x).1=zs at *
    generalize (partP L R[k].1 x).2=zp at *
    have i1:(0:Int)≤(i:Int):=by omega
    have i2:(i:Int)<(N:Int):=by omega
    clear hP eQ HX CPT BXX
    gi_wp2_with (gi_at_call 100;refine (CallsIn.inRound l (callsIn_wide.2 C)).mono ?_;rintro e w2 ⟨so,sc,rfl,ha,k2⟩;obtain ⟨⟨o1,o2,n1,n2⟩,n3,n4,n5,n6⟩:=NX.out w2 so sc k2 ha.out)
    go_roundw
    case rel=>exact ⟨i+1,by omega,by go_num,n5,n6⟩
    case measure=>simp [intOf];omega
   ·obtain rfl:i=N:=by omega
    obtain ⟨-, -, -, -, -,j1,j2,v,cs,j3,j4,j5⟩:=BXX.out wr hs
    have hQN:(partsL L R[k]).length=i:=by rw [HN.out];simp [partsL]
    have c3:=cellAt j3 0
    simp only [List.getElem?_toArray,List.getElem?_cons_zero] at c3
    obtain ⟨ro,rc,rfl⟩:=row_shape j4
    obtain ⟨i0,hi0,hz0,hz1,hz2⟩:=info_parts info_parts9
    have c3a:(wr.alloc (.cells #[.slice (some ⟨gp,0,none⟩) i i] 62)).cell? ⟨w.heap.size+1,0,none⟩=some (.slice ro k rc):=cell_al c3 _
    have b1:k+1≤maxLen:=by unfold maxLen;omega
    have b2:(k+1) * 24≤140737488355328:=by omega
    have b3:w.heap.size≤(wr.alloc (.cells #[.slice (some ⟨gp,0,none⟩) i i] 62)).heap.size:=by have:=j1.size;simp;omega
    have MORE:Hid (∀ w1 v', w1.ownsRow w.heap.size 62 1 v' (k+1) (cs ++ [.slice (some ⟨gp,0,none⟩) i i])→Kept (fun q=>(Value.slice ro k rc).ownBlock=some q) wr w1→(w1.cell? ⟨w.heap.size+1,0,none⟩=some (.slice ro k rc)∧w1.frozen? ⟨w.heap.size+1,0,none⟩=false)∧RgJ L R w bs (k+1) (w1.setCell ⟨w.heap.size+1,0,none⟩ v')∧Rnd W0.heap.size w.heap.size Wb (w1.setCell ⟨w.heap.size+1,0,none⟩ v')):=fun w1 v' h1 h2=>by
     rw [← hQN] at hP h1
     obtain ⟨q1,q2,q3⟩:=RgJ.more (D:=W0.heap.size) j1 j2 j3 j4 j5 hk' hP hgw h1 h2
     exact ⟨⟨cellAt q1 0,frozenAt q1 0⟩,q2,(Rnd.same hs (by omega)).trans q3⟩
    have hj4:Hid _:=j4
    clear hP HX CPT BXX j1 j2 j3 j5
    gi_wp2_with (gi_at_builtin;refine wpListIn_append_own _ rfl _ _ 49 rfl w.heap.size 62 i0 (.slice none 0 0) 1 24 Tryz.underlying49 hi0 hz0 hz1 hz2 rfl (by decide) (.slice ro k rc) k cs rfl (World.ownsRow.alloc hj4.out _) ⟨wr.heap.size,0,none⟩ 1 1 [.slice (some ⟨gp,0,none⟩) i i] rfl rfl (cell_one_new _ _ _) (by simp [Value.oneCell']) b1 b2 b3 ?_;intro v' w1 hown' hgrow _;obtain ⟨g9,cap9,rfl⟩:=ownsRow_succ hown'; obtain ⟨⟨m1', m2'⟩,m3,m4⟩:=MORE.out w1 _ hown' (Kept.grown (Kept.alloc (Kept.refl _ wr) _) hgrow (fun _ e _=>e)))
    rw [z0] at m4
    exact m4
end Go.Proofs.YtjahpnbijefncaaGreat
