import Derived.Test.YtflcpepjmonlpaaGreatDoorSL13
import Derived.Test.YtflcpepjmonlpaaGreatDoorSL14
import Derived.Test.YtflcpepjmonlpaaGreatDoorSL12
import Derived.Test.YtflcpepjmonlpaaGreatDoorSL11
import Derived.Test.YtflcpepjmonlpaaGreatDoorSL09
import Derived.Test.YtflcpepjmonlpaaGreatDoorSL01
import Derived.Maps.OwnIn
namespace Go.Proofs.YtflcpepjmonlpaaGreatDoor
set_option linter.unusedVariables false
open Go.RowKit
section
variable {F : Fence} {n : Nat} {P : Program}
def HandsX (F:Fence) (n:Nat) (P:Program) (gf:Nat) (lb:Array Value) (B N:Nat) (Lk:Nat→Array Value→World→Prop) (w:World):Prop:=
 ∀ (l:Nat) (J:Nat→World→Prop) (Z:World→Prop) (W:World),Same0 w W→(∀ k X Y,J k X→Same0 X Y→J k Y)→(∀ X Y,Z X→Same0 X Y→Z Y) →
  (∀ k vs X,k<N→J k X→Lk k vs X→YieldAt F (n-1) P l vs X fun e Y=>(e=.returned (.bool true)∧J (k+1) Y∧Below B X Y)∨(e=.returned (.bool false)∧Z Y))→J 0 W →
  CallsIn F n P gf (#[.func (.yield l) #[] #[]]++lb) W fun e Y=>(∃ v,e=.returned v)∧(J N Y∨Z Y)
theorem wp_handsX {g:Operand} {ps:Array Tmp} {assign body:Code} {Q:Exit→Act→World→Prop} {a:Act} {w:World}
  (hro:F.round=none) (h1:1≤n) {gf:Nat} {lb:Array Value} (hg:a.eval g=.func (.func gf) #[] lb) (hFg:F.fn gf) (eg:∀ args w,(callFunc gf args).run P w=.ok (.enter gf args) w)
  {N:Nat} {Lk:Nat→Array Value→World→Prop} {B:Nat} (hB:B≤w.heap.size) (hh:HandsX F (n-1) P gf lb B N Lk w) (hsz:∀ k vs W,Lk k vs W→vs.size=ps.size)
  (J:Nat→World→Prop) (hJ:∀ k X Y,J k X→Same0 X Y→J k Y) (hJp:∀ k X l o o', J k X→X.heap[l]? = some o→o.isCells=false→w.heap.size≤l→J k (X.putObj l o')) (h0:J 0 w) (Z:World→Prop) (hZ:∀ X Y,Z X→Same0 X Y→Z Y) (hZp:∀ X l o o', Z X→X.heap[l]? = some o→o.isCells=false→w.heap.size≤l→Z (X.putObj l o'))
  (hround:∀ (l k:Nat) (vs:Array Value) (W:World),k<N→w.heap.size≤l→l<W.heap.size→J k W→Lk k vs W →
   assign.wpIn (F.inRound l) (n-1-1) P (Exit.then (fun a' Wa=>Rnd w.heap.size B W Wa∧∀ o o', Wa.heap[l]? = some o→o.isCells=false→o'.isCells=false →
    body.wpIn (F.inRound l) (n-1-1) P (fun e _ Y=>(e=.normal∧Rnd w.heap.size B (Wa.putObj l o') Y∧J (k+1) Y)∨(e=.ret∧KeepsFrom w.heap.size (Wa.putObj l o') Y∧Z Y)) a' (Wa.putObj l o')) (fun _ _ _=>False))
    { tmps:=(ps.zip vs).foldl (fun t (p,v)=>t.setIfInBounds p v) a.tmps,defers:=[] } W)
  (hdone:∀ (D:Nat) (W:World),w.heap.size≤D→J N W→W.heap[D]? = some (.deferred (some []))→Q .normal { a with defers:={ target:=.collected D,args:=#[] } :: a.defers } W)
  (hstop:∀ (D:Nat) (W:World),w.heap.size≤D→Z W→W.heap[D]? = some (.deferred (some []))→Code.wpIn F n P .ret Q { a with defers:={ target:=.collected D,args:=#[] } :: a.defers } W) :
  (Code.rangeFunc g ps assign body).wpIn F n P Q a w:=by
 refine wpIn_rangeFunc fun fn hfn=>?_
 rw [hro]
 have hen:=run_enterLoop_outer (P:=P) (w:=w) fn a.tmps ps assign body
 obtain ⟨st,hst⟩:∃ st:LoopState→Option Code→Loop,st=fun s p=>{ state:=s,pending:=p,fn:=fn,tmps:=a.tmps,params:=ps,assign:=assign,body:=body,defers:=w.heap.size }:=⟨_,rfl⟩
 obtain ⟨W1,hW1⟩:∃ W1,W1=(w.alloc (.deferred (some []))).alloc (.loop (st .ready none)):=⟨_,rfl⟩
 have hs1:Same0 w W1:=by rw [hW1];exact ((Kept.refl _ w).alloc _).alloc _
 have hd1:W1.heap[w.heap.size]? = some (.deferred (some [])):=by
  rw [hW1];exact (Below.heap_alloc _ _ _ (by simp)).trans (World.alloc_heap_new w _)
 have hl1:W1.heap[w.heap.size+1]? = some (.loop (st .ready none)):=by
  have:=World.alloc_heap_new (w.alloc (.deferred (some []))) (.loop (st .ready none))
  rw [hW1];simpa using this
 refine ⟨w.heap.size+1,[{ target:=.collected w.heap.size,args:=#[] }],W1, { target:=.fn (.func gf) lb,args:=#[.func (.yield (w.heap.size+1)) #[] #[]] },W1,gf, #[.func (.yield (w.heap.size+1)) #[] #[]]++lb,W1,?_,?_,?_,?_,fun _=>h1,?_⟩
 ·rw [hen,hW1,hst]
 ·simp only [resolve,hg];simp [go_sem]
 ·intro f' hf'; simp [Target.leads] at hf'; subst hf'; exact hFg
 ·simp [invoke,go_sem,eg]
 ·have hcall:=hh (w.heap.size+1) (fun k X=>J k X∧X.heap[w.heap.size+1]? = some (.loop (st .ready none))∧X.heap[w.heap.size]? = some (.deferred (some []))) (fun X=>Z X∧X.heap[w.heap.size+1]? = some (.loop (st .done (some .ret)))∧X.heap[w.heap.size]? = some (.deferred (some []))) W1 hs1
   (fun k X Y h hk=>⟨hJ k X Y h.1 hk,hk.at0 h.2.1,hk.at0 h.2.2⟩) (fun X Y h hk=>⟨hZ X Y h.1 hk,hk.at0 h.2.1,hk.at0 h.2.2⟩) ?_ ⟨hJ 0 _ _ h0 hs1,hl1,hd1⟩
  ·refine hcall.mono ?_
   rintro e Y ⟨⟨v,rfl⟩,⟨hj,hl,hd⟩ | ⟨hz,hl,hd⟩⟩
   rotate_left
   ·have hend:=run_endLoop (P:=P) hl (by rw [hst];simp)
    rw [hst] at hend
    exact ⟨some .ret,_,hend,hstop w.heap.size _ (Nat.le_refl _) (hZp _ _ _ _ hz hl rfl (by omega)) ((World.putObj_heap_other (by omega)).trans hd)⟩
   have hend:=run_endLoop (P:=P) hl (by rw [hst];simp)
   rw [hst] at hend
   exact ⟨none,_,hend,hdone w.heap.size _ (Nat.le_refl _) (hJp _ _ _ _ _ hj hl rfl (by omega)) ((World.putObj_heap_other (by omega)).trans hd)⟩
  ·rintro k vs X hk ⟨hj,hl,hd⟩ hlk
   have hy:=run_yield (P:=P) (args:=vs) hl (by rw [hst];exact hsz k vs X hlk)
   rw [hst] at hy
   have hlX:w.heap.size+1<X.heap.size:=(Array.getElem?_eq_some_iff.1 hl).1
   refine ⟨fn,_,assign,body,hy,roundIn_of_wpIn hfn (wpIn_mono (hround (w.heap.size+1) k vs X hk (by omega) hlX hj hlk) ?_)⟩
   rintro e a' Wa hp
   cases e with
   | normal=>
    obtain ⟨hr,hb⟩:=hp
    have hla:=hr.recs.same _ _ (by omega) hl rfl
    have hda:=hr.recs.same _ _ (Nat.le_refl _) hd rfl
    have hlt:w.heap.size+1<Wa.heap.size:=(Array.getElem?_eq_some_iff.1 hla).1
    refine ⟨_,run_beginRound hla (by rw [hst]),wpIn_mono (hb _ (.loop { st .ready none with state:=.busy }) hla rfl rfl) ?_⟩
    rintro e2 a2 Y (⟨rfl,hr2,hj2⟩ | ⟨rfl,hr2,hz2⟩)
    rotate_left
    ·have hl2:=hr2.same _ _ (by omega) (World.putObj_heap_same (o:=.loop { st .ready none with state:=.busy }) hlt) rfl
     have hd2:=hr2.same _ _ (Nat.le_refl _) ((World.putObj_heap_other (o:=.loop { st .ready none with state:=.busy }) (by omega)).trans hda) rfl
     have hend:=run_endRound (P:=P) (some .ret) hl2
     rw [hst] at hend
     refine ⟨_,_,hend,.inr ⟨rfl,hZp _ _ _ _ hz2 hl2 rfl (by omega),?_,(World.putObj_heap_other (by omega)).trans hd2⟩⟩
     rw [hst];exact World.putObj_heap_same (Array.getElem?_eq_some_iff.1 hl2).1
    have hl2:=hr2.recs.same _ _ (by omega) (World.putObj_heap_same (o:=.loop { st .ready none with state:=.busy }) hlt) rfl
    have hd2:=hr2.recs.same _ _ (Nat.le_refl _) ((World.putObj_heap_other (o:=.loop { st .ready none with state:=.busy }) (by omega)).trans hda) rfl
    have hend:=run_endRound (P:=P) none hl2
    rw [hst] at hend
    refine ⟨_,_,hend,.inl ⟨rfl,⟨hJp _ _ _ _ _ hj2 hl2 rfl (by omega),?_,(World.putObj_heap_other (by omega)).trans hd2⟩,?_⟩⟩
    ·rw [hst];exact World.putObj_heap_same (Array.getElem?_eq_some_iff.1 hl2).1
    ·exact (hr.below.trans (below_put hla (by omega))).trans (hr2.below.trans (below_put hl2 (by omega)))
   | _=>exact hp.elim
end
end Go.Proofs.YtflcpepjmonlpaaGreatDoor
namespace Go.Proofs.YtflcpepjmonlpaaGreatDoor
set_option maxRecDepth 100000
set_option linter.unusedVariables false
open Go.RowKit Go.Shelf
attribute [local go_sem] Oper.semAt_some
set_option maxHeartbeats 8000000 in
theorem hands_symsX {n:Nat} {w wx:World} {b:Nat} {L:List Sym} {sv:Value} {mr:Option Nat} (hs:SigAt w b L sv mr) (hwx:Same0 w wx) {Bn:Nat} (hbx:wx.cell? ⟨Bn,0,none⟩=some (.pointer (some ⟨b,0,none⟩))) (hn:1≤n) :
  HandsX Fence.wide n Tryz.prog 73 #[.pointer (some ⟨Bn,0,none⟩)] w.heap.size L.length (SyLk L) wx:=by
 intro l J Z W hW hJ hZ hY h0
 have hFn:∀ k,Fence.wide.fn k:=fun _=>trivial
 have KW:Same0 w W:=hwx.trans' hW
 have s1:W.cell? ⟨Bn,0,none⟩=some (.pointer (some ⟨b,0,none⟩)):=(hW.cell (p:=⟨Bn,0,none⟩) (World.block_lt_of_cell? _ _ hbx) (fun f=>f)).trans hbx
 obtain ⟨ao,cap,rfl⟩:=hs.sv
 have hlen:=hs.len
 have HS:Hid (∀ X,Same0 w X→SigAt X b L (.slice ao L.length cap) mr):=fun X hk=>hs.kept hk (fun _ _ f=>f)
 have c0:W.cell? ⟨b,0,none⟩=some (.slice ao L.length cap):=cellAt (HS.out W KW).blk 0
 have hpn:∀ ww:World,(binOp .eql 41 (.pointer (some ⟨b,0,none⟩)) (.pointer none)).run Tryz.prog ww=.ok (.bool false) ww:=fun ww=>by kernel_rfl
 clear hs
 refine callsIn_of_wp Tryz.func73 rfl trivial ?_ rfl
 simp only [Tryz.ntmps73,List.size_toArray,List.length_cons,List.length_nil,Nat.reduceAdd,Nat.reduceSub,Array.replicate_succ,Array.replicate_zero,List.push_toArray,List.append_toArray,List.nil_append,List.cons_append]
 gi_wp2_with fail
 gi_loopw [12] (fun i wr=>∃ k:Nat,k≤L.length∧i=.int .i64 k∧Same0 w wr∧J k wr) (fun i _=>L.length-(intOf i).toNat)
 case atStart=>exact ⟨0,Nat.zero_le _,rfl,KW,h0⟩
 case round=>
  clear s1 c0
  obtain ⟨k,hk,rfl,hs,hj⟩:=hrel
  by_cases hlt:k<L.length
  ·have hsr:=HS.out wr hs
   obtain ⟨g,rfl,hg,x0,x1,x2⟩:=hsr.sym hlt
   have i1:(0:Int)≤(k:Int):=by omega
   have i2:(k:Int)<(L.length:Int):=by omega
   have ka:Same0 wr (wr.alloc (.cells #[.string L[k].name,.int .i64 L[k].ar,.bool L[k].df] 60)):=(Kept.refl _ _).alloc _
   obtain ⟨fn,tmps,asg,bdy,hy,hR⟩:=hY k _ _ hlt (hJ k _ _ hj ka) ⟨hlt,rfl⟩
   have hs3:=hs.trans' ka
   gi_wp2_with fail
   refine hR.mono ?_
   rintro e w4 (⟨rfl,hj4,hb4⟩ | ⟨rfl,hz4⟩)
   rotate_left
   ·clear hR hy hsr
    gi_wp2_with fail
    go_returns
    exact ⟨⟨_,rfl⟩,.inr hz4⟩
   have hs4:Same0 w w4:=Same0.of_below (hs3.below.trans hb4)
   clear hR hy hsr
   gi_wp2_with fail
   go_roundw
   case rel=>exact ⟨k+1,by omega,by go_num,hs4,hj4⟩
   case measure=>simp [intOf];omega
  ·obtain rfl:k=L.length:=by omega
   gi_wp2_with fail
   go_end0
   exact ⟨⟨_,rfl⟩,.inl hj⟩
def NoFork (L:List Sym) (R:List Ru) (K:Nat):Prop:=∀ k,k<K→defB L (k:Int)=true→∃ t,treeF L R k=.ok t
theorem FltAt.keptC {S:Nat→Prop} {w w' : World} (hk:Kept S w w') (hS:∀ b,S b→∀ cs T,w.heap[b]? ≠ some (.cells cs T (0,0))):∀ {ws:List (Int × Int)} {v:Value},FltAt w ws v→FltAt w' ws v
 | [],_,h=>h
 | (c,p) :: r,v,h=>by
  rcases h with h | ⟨h0,b,u,h1,h2,h3⟩
  ·exact .inl h
  ·exact .inr ⟨h0,b,u,h1,hk.at h2 (fun s=>hS b s _ _ h2),FltAt.keptC hk hS h3⟩
theorem fork_ok {w:World} {b bs:Nat} {L:List Sym} {R:List Ru} {lv:Value} {vs:List Value} (h:StAt w b bs L R lv vs) {k:Nat} (hk:defB L (k:Int)=true→∃ t,treeF L R k=.ok t) :
  Calls Tryz.prog 74 #[.pointer (some ⟨b,0,none⟩),.int .i64 (k:Int)] w fun e w' => ∃ tk tr tpo tpl tpc tko tkl tkc ev,e=.returned (.tuple #[.agg #[.int .i64 tk,.int .i64 tr,.slice tpo tpl tpc,.slice tko tkl tkc],ev])∧Hid (∀ ww,Same0 w' ww→Calls Tryz.prog 37 #[ev,.iface 70 (.int .i64 81)] ww fun e w' => e=.returned (.bool false)∧w' = ww)∧Same0 w w' := by
 refine (build_any h (k:Int)).mono ?_
 rintro e w' ⟨hs,hp⟩
 by_cases hd:defB L (k:Int)=true
 ·rw [if_pos hd,Int.toNat_natCast] at hp
  obtain ⟨t,ht⟩:=hk hd
  rw [ht] at hp
  obtain ⟨v,rfl,hc⟩:=hp
  obtain ⟨tk,tr,tpo,tpl,tpc,tko,tkl,tkc,rfl⟩:=hc.shape
  exact ⟨tk,tr,tpo,tpl,tpc,tko,tkl,tkc,_,rfl,fun ww _=>is_any (ws:=[]) rfl (by simp) 81,hs⟩
 ·rw [if_neg hd] at hp
  obtain ⟨v,rfl,hf⟩:=hp
  exact ⟨0,0,none,0,0,none,0,0,v,rfl,fun ww hk=>is_any (FltAt.same hk hf) (by simp) 81,hs⟩
set_option maxHeartbeats 32000000 in
theorem forked_ok {w:World} {b bs:Nat} {L:List Sym} {R:List Ru} {lv:Value} {vs:List Value} (h:StAt w b bs L R lv vs) (hall:NoFork L R L.length) :
  Calls Tryz.prog 127 #[.pointer (some ⟨b,0,none⟩)] w fun e w' => e=.returned .nilIface∧Same0 w w' := by
 have hFn:∀ k,Fence.wide.fn k:=fun _=>trivial
 obtain ⟨W1,hW1⟩:∃ W1,W1=(w.alloc (.cells #[.pointer (some ⟨b,0,none⟩)] 43)).alloc (.cells #[.nilIface] 46):=⟨_,rfl⟩
 have KW:Same0 w W1:=by rw [hW1];exact ((Kept.refl _ w).alloc _).alloc _
 have ez:W1.heap.size=w.heap.size+1+1:=by rw [hW1];simp
 have BK:Hid (∀ ww,Same0 W1 ww→ww.heap[w.heap.size]? = some (.cells #[.pointer (some ⟨b,0,none⟩)] 43 (0,0))∧ww.heap[w.heap.size+1]? = some (.cells #[.nilIface] 46 (0,0))):=fun ww hk=>by
  have k1:Same0 (w.alloc (.cells #[.pointer (some ⟨b,0,none⟩)] 43)) W1:=by rw [hW1];exact (Kept.refl _ _).alloc _
  exact ⟨hk.at0 (k1.at0 (heap_alloc_new w _)),hk.at0 (by rw [hW1];exact heap_al_al _ _ _)⟩
 have r0:W1.cell? ⟨w.heap.size,0,none⟩=some (.pointer (some ⟨b,0,none⟩)):=cellAt (BK.out W1 (Kept.refl _ _)).1 0
 have CS:=(callsIn_wide (n:=8)).2 (ssig_any (h.same KW))
 refine (callsIn_wide (n:=9)).1 ?_
 refine callsIn_of_wp_marks Tryz.func127 rfl trivial ?_ rfl
 simp only [Tryz.ntmps127,List.size_toArray,List.length_cons,List.length_nil,Nat.reduceAdd,Nat.reduceSub,Array.replicate_succ,Array.replicate_zero,List.push_toArray,List.append_toArray,List.nil_append,List.cons_append]
 gi_upto_region 1 with fail
 rw [← hW1]
 clear hW1
 gi_wp2_with (first
  | (gi_at_call 69;refine CS.mono ?_;rintro e w1 ⟨bt,rfl,hbt,sv,mr,hsig,hfoot,k1'⟩)
  | (gi_at_call 33;refine (all_in Fence.wide _ trivial rfl _ _).mono ?_;rintro e w' ⟨rfl,rfl⟩))
 have k1:Same0 W1 w1:=k1'
 have K1:Same0 w w1:=KW.trans' k1
 have hzw:=k1.size
 obtain ⟨W0,hW0⟩:∃ W0,W0=w1.alloc (.cells #[.pointer (some ⟨bt,0,none⟩)] 41):=⟨_,rfl⟩
 have K0:Same0 w1 W0:=by rw [hW0];exact (Kept.refl _ _).alloc _
 have z0:W0.heap.size=w1.heap.size+1:=by rw [hW0];simp
 have b2:W0.cell? ⟨w1.heap.size,0,none⟩=some (.pointer (some ⟨bt,0,none⟩)):=by rw [hW0];exact cellAt (heap_alloc_new w1 _) 0
 rw [← hW0]
 clear hW0
 have ST:Hid (∀ X,Same0 w1 X→StAt X b bs L R lv vs∧X.cell? ⟨w.heap.size,0,none⟩=some (.pointer (some ⟨b,0,none⟩))):=fun X hk=>⟨h.same (K1.trans' hk),cellAt (BK.out X (k1.trans' hk)).1 0⟩
 refine wp_handsX rfl (by omega) (gf:=73) (lb:=#[.pointer (some ⟨w1.heap.size,0,none⟩)]) rfl trivial (enters_of Tryz.func73 (by kernel_rfl) rfl) (B:=w1.heap.size) (by omega) (hands_symsX hsig K0 b2 (by omega)) (fun k vs W h=>by obtain ⟨_,rfl⟩:=h;rfl)
  (fun k W=>Same0 w1 W) (fun k X Y h hk=>h.trans' hk) (fun k X l o o' h hl ho hw=>Kept.trans h (kept_put (l:=l) (o' := o')) (fun i hi e=>by have e' : i=l:=e;omega)) K0 (fun _=>False) (fun X Y h hk=>h.elim) (fun X l o o' h hl ho hw=>h.elim) ?round ?done ?stop
 case stop=>exact fun D W hD h=>h.elim
 case done=>
  rintro D W hD hj hD2
  obtain ⟨g1,g2⟩:=BK.out W (k1.trans' hj)
  have v0:=cellAt g2 0
  have f0:=frozenAt g2 0
  obtain ⟨X,hX⟩:∃ X,X=W.setCell ⟨w.heap.size+1,0,none⟩ .nilIface:=⟨_,rfl⟩
  have kx:Kept (fun q=>q=w.heap.size+1) W X:=by rw [hX];exact kept_at W (w.heap.size+1) 0 .nilIface
  have g3:X.heap[w.heap.size+1]? = some (.cells #[.nilIface] 46 (0,0)):=by rw [hX];exact setAt g2 0 .nilIface
  have hD3:=kx.at hD2 (fun e=>by have e' : D=w.heap.size+1:=e;omega)
  have gZ:=(World.putObj_heap_other (w:=X) (r:=D) (o:=.deferred none) (k:=w.heap.size+1) (by omega)).trans g3
  have v4:=cellAt gZ 0
  simp only [List.getElem?_toArray,List.getElem?_cons_zero] at v0 v4
  have ks:Kept (fun q=>q=D) X (X.putObj D (.deferred none)):=kept_put
  have KF:Same0 w (X.putObj D (.deferred none)):=Kept.trans (Kept.trans (K1.trans' hj) kx (fun i hi e=>by have e' : i=w.heap.size+1:=e;omega)) ks (fun i hi e=>by have e' : i=D:=e;omega)
  have HX:Hid (W.setCell ⟨w.heap.size+1,0,none⟩ .nilIface=X):=hX.symm
  clear hX
  gi_wp2_with fail
  rw [HX.out]
  refine ⟨by simp,.inl ⟨_,_,rfl,run_takeDeferred hD3,?_⟩⟩
  exact ⟨.nilIface,by simp [results,Tryz.results127,go_sem,v4],rfl,KF⟩
 case round=>
  rintro l k vs W hk hl hlW hj ⟨hk', rfl⟩
  have rb:=(ST.out W hj).2
  gi_wp2_with fail
  refine ⟨Rnd.same (Kept.refl _ _) (by have:=hj.size;omega),fun o o' ho hoc hoc' => ?_⟩
  obtain ⟨Wb,hWb⟩:∃ Wb,Wb=W.putObj l o' := ⟨_,rfl⟩
  have kb:Kept (fun q=>q=l) W Wb:=by rw [hWb];exact kept_put
  have hjb:Same0 w1 Wb:=Kept.trans hj kb (fun i hi e=>by have e' : i=l:=e;omega)
  rw [← hWb]
  clear hWb ho
  obtain ⟨hstb,rbb⟩:=ST.out Wb hjb
  have hzb:=hjb.size
  have CB:=fork_ok hstb (hall k hk)
  have FIN:Hid (∀ w3 o,Same0 Wb w3→Rnd (w1.heap.size+1) w1.heap.size Wb (w3.alloc o)∧Same0 w1 (w3.alloc o)):=fun w3 o hk3=>⟨Rnd.same (Kept.alloc hk3 _) hzb,hjb.trans' (Kept.alloc hk3 _)⟩
  clear hstb kb hj rb
  gi_wp2_with (first
   | (gi_at_call 74;refine (CallsIn.inRound l (callsIn_wide.2 CB)).mono ?_;rintro e w3 ⟨tk,tr,tpo,tpl,tpc,tko,tkl,tkc,ev,rfl,hev,k3⟩;have C2:=hev.out (w3.alloc (.cells #[.int .i64 tk,.int .i64 tr,.slice tpo tpl tpc,.slice tko tkl tkc] 63)) ((Kept.refl _ _).alloc _);obtain ⟨m3,m4⟩:=FIN.out w3 (.cells #[.int .i64 tk,.int .i64 tr,.slice tpo tpl tpc,.slice tko tkl tkc] 63) k3)
   | (gi_at_call 37;refine (CallsIn.inRound l (callsIn_wide.2 C2)).mono ?_;rintro e w4 ⟨rfl,rfl⟩))
def ZFk (w:World) (K:Nat) (z:Int) (W:World):Prop:=∃ q,W.heap[w.heap.size+1]? = some (.cells #[.iface 141 (.pointer (some ⟨q,0,none⟩))] 46 (0,0))∧FltAt W [(81,(K:Int)),(82,z)] (.iface 141 (.pointer (some ⟨q,0,none⟩)))∧Same0 w W
theorem FltAt.keptE {w w' : World} {x:Nat} (hk:Kept (fun q=>q=x) w w') {c:Array Value} (hx:w.heap[x]? = some (.cells c 46 (0,0))):∀ {ws:List (Int × Int)} {v:Value},FltAt w ws v→FltAt w' ws v
 | [],_,h=>h
 | (c', p) :: r,v,h=>by
  rcases h with h | ⟨h0,b,u,h1,h2,h3⟩
  ·exact .inl h
  ·exact .inr ⟨h0,b,u,h1,hk.at h2 (fun e=>by have e' : b=x:=e;subst e'; rw [hx] at h2;cases h2),FltAt.keptE hk hx h3⟩
set_option maxHeartbeats 32000000 in
theorem forked_err {w:World} {b bs:Nat} {L:List Sym} {R:List Ru} {lv:Value} {vs:List Value} (h:StAt w b bs L R lv vs) {K:Nat} (hKL:K<L.length) (hdK:defB L (K:Int)=true) {z:Int} (hz:treeF L R K=.error z) (hall:NoFork L R K) :
  Calls Tryz.prog 127 #[.pointer (some ⟨b,0,none⟩)] w fun e w' => ∃ q,e=.returned (.iface 141 (.pointer (some ⟨q,0,none⟩)))∧FltAt w' [(81,(K:Int)),(82,z)] (.iface 141 (.pointer (some ⟨q,0,none⟩)))∧Same0 w w' := by
 have hFn:∀ k,Fence.wide.fn k:=fun _=>trivial
 obtain ⟨W1,hW1⟩:∃ W1,W1=(w.alloc (.cells #[.pointer (some ⟨b,0,none⟩)] 43)).alloc (.cells #[.nilIface] 46):=⟨_,rfl⟩
 have KW:Same0 w W1:=by rw [hW1];exact ((Kept.refl _ w).alloc _).alloc _
 have ez:W1.heap.size=w.heap.size+1+1:=by rw [hW1];simp
 have BK:Hid (∀ ww,Same0 W1 ww→ww.heap[w.heap.size]? = some (.cells #[.pointer (some ⟨b,0,none⟩)] 43 (0,0))∧ww.heap[w.heap.size+1]? = some (.cells #[.nilIface] 46 (0,0))):=fun ww hk=>by
  have k1:Same0 (w.alloc (.cells #[.pointer (some ⟨b,0,none⟩)] 43)) W1:=by rw [hW1];exact (Kept.refl _ _).alloc _
  exact ⟨hk.at0 (k1.at0 (heap_alloc_new w _)),hk.at0 (by rw [hW1];exact heap_al_al _ _ _)⟩
 have r0:W1.cell? ⟨w.heap.size,0,none⟩=some (.pointer (some ⟨b,0,none⟩)):=cellAt (BK.out W1 (Kept.refl _ _)).1 0
 have CS:=(callsIn_wide (n:=8)).2 (ssig_any (h.same KW))
 refine (callsIn_wide (n:=9)).1 ?_
 refine callsIn_of_wp_marks Tryz.func127 rfl trivial ?_ rfl
 simp only [Tryz.ntmps127,List.size_toArray,List.length_cons,List.length_nil,Nat.reduceAdd,Nat.reduceSub,Array.replicate_succ,Array.replicate_zero,List.push_toArray,List.append_toArray,List.nil_append,List.cons_append]
 gi_upto_region 1 with fail
 rw [← hW1]
 clear hW1
 gi_wp2_with (first
  | (gi_at_call 69;refine CS.mono ?_;rintro e w1 ⟨bt,rfl,hbt,sv,mr,hsig,hfoot,k1'⟩)
  | (gi_at_call 33;refine (all_in Fence.wide _ trivial rfl _ _).mono ?_;rintro e w' ⟨rfl,rfl⟩))
 have k1:Same0 W1 w1:=k1'
 have K1:Same0 w w1:=KW.trans' k1
 have hzw:=k1.size
 obtain ⟨W0,hW0⟩:∃ W0,W0=w1.alloc (.cells #[.pointer (some ⟨bt,0,none⟩)] 41):=⟨_,rfl⟩
 have K0:Same0 w1 W0:=by rw [hW0];exact (Kept.refl _ _).alloc _
 have z0:W0.heap.size=w1.heap.size+1:=by rw [hW0];simp
 have b2:W0.cell? ⟨w1.heap.size,0,none⟩=some (.pointer (some ⟨bt,0,none⟩)):=by rw [hW0];exact cellAt (heap_alloc_new w1 _) 0
 rw [← hW0]
 clear hW0
 have ST:Hid (∀ X,Same0 w1 X→StAt X b bs L R lv vs∧X.cell? ⟨w.heap.size,0,none⟩=some (.pointer (some ⟨b,0,none⟩))):=fun X hk=>⟨h.same (K1.trans' hk),cellAt (BK.out X (k1.trans' hk)).1 0⟩
 refine wp_handsX rfl (by omega) (gf:=73) (lb:=#[.pointer (some ⟨w1.heap.size,0,none⟩)]) rfl trivial (enters_of Tryz.func73 (by kernel_rfl) rfl) (B:=w1.heap.size) (by omega) (hands_symsX hsig K0 b2 (by omega)) (fun k vs W h=>by obtain ⟨_,rfl⟩:=h;rfl)
  (fun k W=>k≤K∧Same0 w1 W) (fun k X Y h hk=>⟨h.1,h.2.trans' hk⟩) (fun k X l o o' h hl ho hw=>⟨h.1,Kept.trans h.2 (kept_put (l:=l) (o' := o')) (fun i hi e=>by have e' : i=l:=e;omega)⟩) ⟨Nat.zero_le _,K0⟩ (ZFk w K z) (fun X Y h hk=>by
   obtain ⟨q,h1,h2,h3⟩:=h
   exact ⟨q,hk.at0 h1,FltAt.same hk h2,h3.trans' hk⟩) (fun X l o o' h hl ho hw=>by
   obtain ⟨q,h1,h2,h3⟩:=h
   have kk:Kept (fun k=>k=l) X (X.putObj l o'):=kept_put
   exact ⟨q,putObj_at hl ho h1 rfl,FltAt.keptC kk (fun b e cs T hb=>by have e' : b=l:=e;subst e'; rw [hl] at hb;cases hb;cases ho) h2,Kept.trans h3 kk (fun i hi e=>by have e' : i=l:=e;omega)⟩) ?round ?done ?stop
 case done=>
  rintro D W hD ⟨hj,_⟩ hD2
  omega
 case stop=>
  rintro D W hD ⟨q,h1,h2,h3⟩ hD2
  have ks:Kept (fun q=>q=D) W (W.putObj D (.deferred none)):=kept_put
  have gZ:=(World.putObj_heap_other (w:=W) (r:=D) (o:=.deferred none) (k:=w.heap.size+1) (by omega)).trans h1
  have v0:=cellAt gZ 0
  simp only [List.getElem?_toArray,List.getElem?_cons_zero] at v0
  have hf2:FltAt (W.putObj D (.deferred none)) [(81,(K:Int)),(82,z)] (.iface 141 (.pointer (some ⟨q,0,none⟩))):=FltAt.keptC ks (fun b e cs T hb=>by have e' : b=D:=e;subst e'; rw [hD2] at hb;cases hb) h2
  have KF:Same0 w (W.putObj D (.deferred none)):=Kept.trans h3 ks (fun i hi e=>by have e' : i=D:=e;omega)
  gi_wp2_with fail
  refine ⟨by simp,.inl ⟨_,_,rfl,run_takeDeferred hD2,?_⟩⟩
  exact ⟨.iface 141 (.pointer (some ⟨q,0,none⟩)),by simp [results,Tryz.results127,go_sem,v0],q,rfl,hf2,KF⟩
 case round=>
  rintro l k vs W hk hl hlW ⟨hkK,hj⟩ ⟨hk', rfl⟩
  have rb:=(ST.out W hj).2
  gi_wp2_with fail
  refine ⟨Rnd.same (Kept.refl _ _) (by have:=hj.size;omega),fun o o' ho hoc hoc' => ?_⟩
  obtain ⟨Wb,hWb⟩:∃ Wb,Wb=W.putObj l o' := ⟨_,rfl⟩
  have kb:Kept (fun q=>q=l) W Wb:=by rw [hWb];exact kept_put
  have hjb:Same0 w1 Wb:=Kept.trans hj kb (fun i hi e=>by have e' : i=l:=e;omega)
  rw [← hWb]
  clear hWb ho
  obtain ⟨hstb,rbb⟩:=ST.out Wb hjb
  have hzb:=hjb.size
  by_cases ekK:k=K
  ·subst ekK
   have CB:Calls Tryz.prog 74 #[.pointer (some ⟨b,0,none⟩),.int .i64 (k:Int)] Wb fun e w' => ∃ q,e=.returned (.tuple #[zeroC,.iface 141 (.pointer (some ⟨q,0,none⟩))])∧Hid (FltAt w' [(81,(k:Int)),(82,z)] (.iface 141 (.pointer (some ⟨q,0,none⟩))))∧Same0 Wb w' := by
    refine (build_any hstb (k:Int)).mono ?_
    rintro e w' ⟨hk9,h9⟩
    rw [if_pos hdK,Int.toNat_natCast,hz] at h9
    obtain ⟨v,rfl,hf⟩:=h9
    have hf2:=hf
    rcases hf2 with ⟨q,_⟩ | ⟨_,q,u,e1,_⟩
    ·omega
    ·subst e1;exact ⟨q,rfl,hf,hk9⟩
   have FINX:Hid (∀ w3 q,Same0 Wb w3→FltAt w3 [(81,(k:Int)),(82,z)] (.iface 141 (.pointer (some ⟨q,0,none⟩)))→(w3.cell? ⟨w.heap.size+1,0,none⟩=some .nilIface∧w3.frozen? ⟨w.heap.size+1,0,none⟩=false)∧KeepsFrom (w1.heap.size+1) Wb (w3.setCell ⟨w.heap.size+1,0,none⟩ (.iface 141 (.pointer (some ⟨q,0,none⟩))))∧ZFk w k z (w3.setCell ⟨w.heap.size+1,0,none⟩ (.iface 141 (.pointer (some ⟨q,0,none⟩))))):=fun w3 q hk3 hf=>by
    obtain ⟨_,a2⟩:=BK.out w3 ((k1.trans' hjb).trans' hk3)
    have k5:=kept_at w3 (w.heap.size+1) 0 (.iface 141 (.pointer (some ⟨q,0,none⟩)))
    have kk:=Kept.trans (hk3.mono (S' := fun q=>q=w.heap.size+1) (fun _ _ f=>f.elim)) k5 (fun _ _ e=>e)
    have n5:=setAt a2 0 (.iface 141 (.pointer (some ⟨q,0,none⟩)))
    have hf5:=FltAt.keptE k5 (c:=#[.nilIface]) a2 hf
    exact ⟨⟨cellAt a2 0,frozenAt a2 0⟩,⟨kk.size,fun i o hi ho _=>kk.at ho (fun e=>by have e' : i=w.heap.size+1:=e;omega)⟩,q,n5,hf5,Kept.trans ((K1.trans' hjb).trans' hk3) k5 (fun i hi e=>by have e' : i=w.heap.size+1:=e;omega)⟩
   have C2:Hid (∀ w3 ww q,FltAt w3 [(81,(k:Int)),(82,z)] (.iface 141 (.pointer (some ⟨q,0,none⟩)))→Same0 w3 ww→Calls Tryz.prog 37 #[.iface 141 (.pointer (some ⟨q,0,none⟩)),.iface 70 (.int .i64 81)] ww fun e w' => e=.returned (.bool true)∧w' = ww):=fun w3 ww q hf hk=>by
    have:=is_any (FltAt.same hk hf) (by simp) 81
    have e1:bears [(81,(k:Int)),(82,z)] 81=true:=by simp [bears]
    rw [e1] at this
    exact this
   clear hstb kb hj rb
   gi_wp2_with (first
    | (gi_at_call 74;refine (CallsIn.inRound l (callsIn_wide.2 CB)).mono ?_;rintro e w3 ⟨q,rfl,hf3,k3⟩;have C3:=C2.out w3 (w3.alloc zeroCs) q hf3.out ((Kept.refl _ _).alloc _);obtain ⟨⟨m1,m2⟩,m3,m4⟩:=FINX.out (w3.alloc zeroCs) q (Kept.alloc k3 _) (FltAt.same ((Kept.refl _ _).alloc _) hf3.out))
    | (gi_at_call 37;refine (CallsIn.inRound l (callsIn_wide.2 C3)).mono ?_;rintro e w4 ⟨rfl,rfl⟩))
  ·have CB:=fork_ok hstb (hall k (by omega))
   have hk1:k+1≤K:=by omega
   have FIN:Hid (∀ w3 o,Same0 Wb w3→Rnd (w1.heap.size+1) w1.heap.size Wb (w3.alloc o)∧Same0 w1 (w3.alloc o)):=fun w3 o hk3=>⟨Rnd.same (Kept.alloc hk3 _) hzb,hjb.trans' (Kept.alloc hk3 _)⟩
   clear hstb kb hj rb
   gi_wp2_with (first
    | (gi_at_call 74;refine (CallsIn.inRound l (callsIn_wide.2 CB)).mono ?_;rintro e w3 ⟨tk,tr,tpo,tpl,tpc,tko,tkl,tkc,ev,rfl,hev,k3⟩;have C2:=hev.out (w3.alloc (.cells #[.int .i64 tk,.int .i64 tr,.slice tpo tpl tpc,.slice tko tkl tkc] 63)) ((Kept.refl _ _).alloc _);obtain ⟨m3,m4⟩:=FIN.out w3 (.cells #[.int .i64 tk,.int .i64 tr,.slice tpo tpl tpc,.slice tko tkl tkc] 63) k3)
    | (gi_at_call 37;refine (CallsIn.inRound l (callsIn_wide.2 C2)).mono ?_;rintro e w4 ⟨rfl,rfl⟩))
end Go.Proofs.YtflcpepjmonlpaaGreatDoor
namespace Go.Proofs.YtflcpepjmonlpaaGreatDoor
set_option maxRecDepth 100000
set_option linter.unusedVariables false
open Go.RowKit
attribute [local go_sem ↓] Go.wp_at_zero Go.wp_at_succ
end Go.Proofs.YtflcpepjmonlpaaGreatDoor
namespace Go.Proofs.YtflcpepjmonlpaaGreatDoor
set_option maxRecDepth 100000
set_option linter.unusedVariables false
open Go.RowKit Go.Deep
attribute [local go_sem ↓] Go.wp_at_zero Go.wp_at_succ
section
variable {H : Type} {enc : TypeId × Value → H} {w : World} {spare : Nat → Bool} {held : Bool}
end
end Go.Proofs.YtflcpepjmonlpaaGreatDoor
namespace Go.Proofs.YtflcpepjmonlpaaGreatDoor
set_option maxRecDepth 100000
set_option linter.unusedVariables false
open Go.RowKit
attribute [local go_sem ↓] Go.wp_at_zero Go.wp_at_succ
structure Twin (w0 w:World) (L:List Sym) (R:List Ru) (bs b m:Nat) (ro:Option Addr) (rc:Nat) (lv:Value) (vs:List Value) (mv:Value) (ms:List Value):Prop where
 st:StAt w b bs L R lv vs
 mo:MO w m ro rc L R mv ms
 good:GoodR L R
 b0:w0.heap.size≤b
 m0:w0.heap.size≤m
 l0:∀ q,lv.ownBlock=some q→w0.heap.size≤q
 v0:∀ q,mv.ownBlock=some q→w0.heap.size≤q
 apart:∀ q,lv.ownBlock=some q→mv.ownBlock≠some q
 same:Same0 w0 w
def SyG (w:World) (sp:Option Addr) (L:List Sym) (R:List Ru):Prop:=
 (sp=none∧L=[]∧R=[])∨∃ p bs lv vs,sp=some ⟨p,0,none⟩∧StAt w p bs L R lv vs
theorem SyG.same {w w' : World} {sp:Option Addr} {L:List Sym} {R:List Ru} (h:SyG w sp L R) (hk:Same0 w w'):SyG w' sp L R:=
 h.imp id (fun ⟨p,bs,lv,vs,e,hs⟩=>⟨p,bs,lv,vs,e,hs.same hk⟩)
def FarY (w:World) (q:Nat):Prop:=(∃ c,w.heap[q]? = some (.cells c 121 (0,0)))∨(∃ c,w.heap[q]? = some (.cells c 123 (0,0)))∨(∃ c,w.heap[q]? = some (.cells c 31 (0,0)))∨(∃ c,w.heap[q]? = some (.cells c 157 (0,0)))∨∃ c,w.heap[q]? = some (.cells c 153 (0,0))
theorem FarY.no {w:World} {q:Nat} (h:FarY w q):(∀ cur,w.heap[q]? ≠ some (.cells cur 3 (0,0)))∧(∀ cur,w.heap[q]? ≠ some (.cells cur 60 (0,0)))∧(∀ cur,w.heap[q]? ≠ some (.cells cur 102 (0,0)))∧(∀ cur,w.heap[q]? ≠ some (.cells cur 140 (0,0)))∧(∀ cur,w.heap[q]? ≠ some (.cells cur 143 (0,0)))∧(∀ cur,w.heap[q]? ≠ some (.cells cur 138 (0,0))):=by
 refine ⟨fun cur e=>?_,fun cur e=>?_,fun cur e=>?_,fun cur e=>?_,fun cur e=>?_,fun cur e=>?_⟩ <;> rcases h with ⟨c,h⟩ | ⟨c,h⟩ | ⟨c,h⟩ | ⟨c,h⟩ | ⟨c,h⟩ <;> (rw [h] at e;cases e)
theorem FarY.no_sig {w:World} {k b:Nat} {L:List Sym} {sv:Value} {mr:Option Nat} (h:FarY w k) (hs:SigAt w b L sv mr):¬ Foot b sv mr k:=by
 rintro (e | e | e)
 ·subst e
  exact h.no.2.2.2.2.2 _ hs.blk
 ·obtain ⟨c', this⟩:=own_blk hs.row e
  exact h.no.2.1 c' this
 ·subst e
  obtain ⟨n,D,hm,_⟩:=hs.map
  obtain ⟨es,clock,this,_⟩:=hm
  rcases h with ⟨c,h⟩ | ⟨c,h⟩ | ⟨c,h⟩ | ⟨c,h⟩ | ⟨c,h⟩ <;> (rw [h] at this;cases this)
theorem Sg.keptY {n b:Nat} {w w' : World} {L:List Sym} {S:Nat→Prop} (h:Sg n w b L) (hk:Kept S w w') (hS:∀ k,S k→FarY w k):Sg n w' b L:=by
 obtain ⟨⟨sv,mr,h1,h2⟩,h3⟩:=h
 exact ⟨⟨sv,mr,h1.kept hk (fun k e s=>(hS k s).no_sig h1 e),h2⟩,h3⟩
theorem StAt.keptY {w w' : World} {b bs:Nat} {L:List Sym} {R:List Ru} {lv:Value} {vs:List Value} {S:Nat→Prop} (h:StAt w b bs L R lv vs) (hk:Kept S w w') (hS:∀ k,S k→FarY w k):StAt w' b bs L R lv vs:=
 ⟨hk.at h.blk (fun s=>(hS b s).no.2.2.2.1 _ h.blk),sg_up (h.sig.keptY hk hS) hk.size,hk.row h.row (fun q e s=>by obtain ⟨c,hc⟩:=own_blk h.row e;exact (hS q s).no.2.2.1 c hc),h.own.kept hk (fun k s=>(hS k s).no.1),h.le,h.ok⟩
theorem SyG.keptY {w w' : World} {sp:Option Addr} {L:List Sym} {R:List Ru} {S:Nat→Prop} (h:SyG w sp L R) (hk:Kept S w w') (hS:∀ k,S k→FarY w k):SyG w' sp L R:=
 h.imp id (fun ⟨p,bs,lv,vs,e,hs⟩=>⟨p,bs,lv,vs,e,hs.keptY hk hS⟩)
theorem sy_nil (w:World):(binOp .eql 43 (.pointer none) (.pointer none)).run Tryz.prog w=.ok (.bool true) w:=by kernel_rfl
theorem sy_some (b:Nat) (w:World):(binOp .eql 43 (.pointer (some ⟨b,0,none⟩)) (.pointer none)).run Tryz.prog w=.ok (.bool false) w:=by kernel_rfl
theorem ars_nil:Ars []:=fun x hx=>by simp at hx
set_option maxHeartbeats 1000000 in
theorem laid_any10 {w:World} {sp:Option Addr} {L:List Sym} {R:List Ru} (h:SyG w sp L R) :
  Calls Tryz.prog 64 #[.agg #[.pointer sp]] w fun e w' => ∃ p bs lv vs,e=.returned (.pointer (some ⟨p,0,none⟩))∧StAt w' p bs L R lv vs∧Same0 w w' := by
 have hn1:=sy_nil
 have hn2:=sy_some
 rcases h with ⟨rfl,rfl,rfl⟩ | ⟨p,bs,lv,vs,rfl,hs⟩
 ·obtain ⟨W1,hW1⟩:∃ W1,W1=w.alloc (.cells #[.pointer none] 121):=⟨_,rfl⟩
  have KW:Same0 w W1:=by rw [hW1];exact (Kept.refl _ w).alloc _
  have h0:W1.cell? ⟨w.heap.size,0,none⟩=some (.pointer none):=by rw [hW1];exact cellAt (heap_alloc_new w _) 0
  have C1:=new_any W1
  obtain ⟨W2,hW2⟩:∃ W2,W2=W1.alloc (.cells #[.slice none 0 0,.map none] 138):=⟨_,rfl⟩
  have K2:Same0 W1 W2:=by rw [hW2];exact (Kept.refl _ _).alloc _
  have hsa:SigAt W2 W1.heap.size [] (.slice none 0 0) none:=by rw [hW2];exact sig_new W1
  have C2:=snew_any (w:=W2) (bs:=W1.heap.size) (L:=[]) ⟨⟨_,none,hsa,fun k hk=>sig_foot_lt hsa k hk⟩,ars_nil⟩
  rw [← hW2] at C1
  clear hsa hW2
  generalize W1.heap.size=bq at *
  go_enter Tryz.func64,Tryz.ntmps64
  go_upto_region 1 with fail
  rw [← hW1]
  clear hW1
  go_wp2_with (first | (go_at_call 119;refine C1.mono ?_;rintro e w1 ⟨rfl,rfl⟩) | (go_at_call 118;refine C2.mono ?_;rintro e w2 ⟨rfl,hst,k2⟩))
  go_ret
  exact ⟨_,_,_,_,rfl,hst,(KW.trans' K2).trans' k2⟩
 ·have ka:Same0 w (w.alloc (.cells #[.pointer (some ⟨p,0,none⟩)] 121)):=(Kept.refl _ w).alloc _
  have HS:Hid (StAt (w.alloc (.cells #[.pointer (some ⟨p,0,none⟩)] 121)) p bs L R lv vs):=hs.same ka
  clear hs
  go_enter Tryz.func64,Tryz.ntmps64
  go_wp2
  go_ret
  exact ⟨_,_,_,_,rfl,HS.out,ka⟩
set_option maxHeartbeats 4000000 in
theorem wrapped_any {w:World} (hE:ErrT w) {code c p:Int} {r:List (Int × Int)} {v:Value} (hv:FltAt w ((c,p) :: r) v) (hp:p ≠ -1) :
  Calls Tryz.prog 126 #[.int .i64 code,v] w fun e w' => ∃ q,e=.returned (.iface 141 (.pointer (some ⟨q,0,none⟩)))∧FltAt w' ((code,p) :: (c,p) :: r) (.iface 141 (.pointer (some ⟨q,0,none⟩)))∧Same0 w w' := by
 rcases hv with ⟨e,_⟩ | ⟨h0,b,u,rfl,h2,h3⟩
 ·exact absurd e hp
 ·obtain ⟨W1,hW1⟩:∃ W1,W1=(w.alloc (.cells #[.int .i64 code,.int .i64 0,.iface 141 (.pointer (some ⟨b,0,none⟩))] 143)).alloc (.cells #[.pointer none] 141):=⟨_,rfl⟩
  have KW:Same0 w W1:=by rw [hW1];exact ((Kept.refl _ w).alloc _).alloc _
  have b0:W1.heap[w.heap.size]? = some (.cells #[.int .i64 code,.int .i64 0,.iface 141 (.pointer (some ⟨b,0,none⟩))] 143 (0,0)):=by rw [hW1];exact heap_alloc2_old _ _ _
  have b1:W1.heap[w.heap.size+1]? = some (.cells #[.pointer none] 141 (0,0)):=by rw [hW1];exact heap_al_al _ _ _
  have CA:=as_hit ⟨b,0,none⟩ (hE.same KW) b1
  have hbw:=lt_of_at h2
  have AFT:Hid (∀ w2,w2.heap[w.heap.size+1]? = some (.cells #[.pointer (some ⟨b,0,none⟩)] 141 (0,0))→Kept (fun k=>k=w.heap.size+1) W1 w2→(w2.cell? ⟨w.heap.size+1,0,none⟩=some (.pointer (some ⟨b,0,none⟩))∧w2.cell? ⟨b,1,none⟩=some (.int .i64 p)∧w2.cell? ⟨w.heap.size,1,none⟩=some (.int .i64 0)∧w2.frozen? ⟨w.heap.size,1,none⟩=false)∧FltAt (w2.setCell ⟨w.heap.size,1,none⟩ (.int .i64 p)) ((code,p) :: (c,p) :: r) (.iface 141 (.pointer (some ⟨w.heap.size,0,none⟩)))∧Same0 w (w2.setCell ⟨w.heap.size,1,none⟩ (.int .i64 p))):=fun w2 g1 g2=>by
   have d0:=g2.at b0 (fun e=>by have e' : w.heap.size=w.heap.size+1:=e;omega)
   have d1:=g2.at (KW.at0 h2) (fun e=>by have e' : b=w.heap.size+1:=e;omega)
   have k3:=kept_at w2 w.heap.size 1 (.int .i64 p)
   have d2:=k3.at d1 (fun e=>by have e' : b=w.heap.size:=e;omega)
   have n0:=setAt d0 1 (.int .i64 p)
   have K2:Same0 w w2:=Kept.trans KW g2 (fun i hi e=>by have e' : i=w.heap.size+1:=e;omega)
   have K3:Same0 w (w2.setCell ⟨w.heap.size,1,none⟩ (.int .i64 p)):=Kept.trans K2 k3 (fun i hi e=>by have e' : i=w.heap.size:=e;omega)
   exact ⟨⟨cellAt g1 0,cellAt d1 1,cellAt d0 1,frozenAt d0 1⟩,.inr ⟨hp,w.heap.size,_,rfl,n0,.inr ⟨hp,b,u,rfl,d2,FltAt.same K3 h3⟩⟩,K3⟩
  clear b0 b1 h2 h3 hbw hE
  go_enter Tryz.func126,Tryz.ntmps126
  go_upto_region 3 with fail
  rw [← hW1]
  clear hW1
  go_upto_region 4 with (first | (go_at_call 164;refine CA.mono ?_;rintro e w2 ⟨rfl,g1,g2⟩))
  obtain ⟨⟨y0,y1,y2,y3⟩,HF⟩:=AFT.out w2 g1 g2
  have HF2:Hid (_∧_):=HF
  clear HF g1 g2 CA
  go_wp2
  go_ret
  exact ⟨_,rfl,HF2.out.1,HF2.out.2⟩
theorem ynew_any (w:World):Calls Tryz.prog 18 #[] w fun e w' => e=.returned (.pointer (some ⟨w.heap.size,0,none⟩))∧w' = w.alloc (.cells #[.pointer none,.int .i64 0] 123):=by
 go_enter Tryz.func18,Tryz.ntmps18
 go_wp2
 go_ret
 exact ⟨rfl,rfl⟩
def ForkAt (L:List Sym) (R:List Ru) (K:Nat) (z:Int):Prop:=K<L.length∧defB L (K:Int)=true∧treeF L R K=.error z∧NoFork L R K
theorem fork_cases (L:List Sym) (R:List Ru):NoFork L R L.length∨∃ K z,ForkAt L R K z:=by
 have key:∀ n,n≤L.length→NoFork L R n∨∃ K z,ForkAt L R K z:=by
  intro n
  induction n with
  | zero=>exact fun _=>.inl (fun k hk=>by omega)
  | succ n ih=>
   intro hn
   rcases ih (by omega) with h | h
   ·by_cases hd:defB L (n:Int)=true
    ·cases ht:treeF L R n with
     | ok t=>
      refine .inl (fun k hk hdk=>?_)
      by_cases e:k=n
      ·subst e;exact ⟨t,ht⟩
      ·exact h k (by omega) hdk
     | error z=>exact .inr ⟨n,z,by omega,hd,ht,h⟩
    ·refine .inl (fun k hk hdk=>?_)
     by_cases e:k=n
     ·subst e;exact absurd hdk hd
     ·exact h k (by omega) hdk
   ·exact .inr h
 exact key L.length (Nat.le_refl _)
def AnsY (L:List Sym) (R l:List Ru) (ws:List (Int × Int)):Prop:=
 (∃ c p r,Ans L R l ((c,p) :: r)∧p ≠ -1∧r.length≤1∧ws=(101,p) :: (c,p) :: r)∨(Ans L R l []∧∃ K z,ForkAt L (R++l) K z∧ws=[(102,(K:Int)),(81,(K:Int)),(82,z)])∨(Ans L R l []∧NoFork L (R++l) L.length∧ws=[])
theorem AnsY.uniq {L:List Sym} {R l:List Ru} {ws ws' : List (Int × Int)} (h:AnsY L R l ws) (h' : AnsY L R l ws'):ws=ws' := by
 have nf:∀ {R' : List Ru} {K:Nat} {z:Int},ForkAt L R' K z→¬ NoFork L R' L.length:=fun hf hn=>by
  obtain ⟨t,ht⟩:=hn _ hf.1 hf.2.1
  rw [hf.2.2.1] at ht;cases ht
 rcases h with ⟨c,p,r,a,_,_,e⟩ | ⟨a,K,z,f,e⟩ | ⟨a,f,e⟩ <;> rcases h' with ⟨c', p', r', a', _,_,e'⟩ | ⟨a', K', z', f', e'⟩ | ⟨a', f', e'⟩
 ·have:=a.uniq a'
  cases this
  rw [e,e']
 ·have:=a.uniq a'; cases this
 ·have:=a.uniq a'; cases this
 ·have:=a.uniq a'; cases this
 ·have hK:K=K' := by
   rcases Nat.lt_trichotomy K K' with q | q | q
   ·obtain ⟨t,ht⟩:=f'.2.2.2 K q f.2.1
    rw [f.2.2.1] at ht;cases ht
   ·exact q
   ·obtain ⟨t,ht⟩:=f.2.2.2 K' q f'.2.1
    rw [f'.2.2.1] at ht;cases ht
  subst hK
  have hz:z=z' := by
   have:=f.2.2.1.symm.trans f'.2.2.1
   cases this;rfl
  rw [e,e', hz]
 ·exact absurd f' (nf f)
 ·have:=a.uniq a'; cases this
 ·exact absurd f (nf f')
 ·rw [e,e']
theorem FltAt.keptN {w w' : World} {x:Nat} (hk:Kept (fun q=>q=x) w w') (hx:∀ c,w.heap[x]? ≠ some (.cells c 143 (0,0))):∀ {ws:List (Int × Int)} {v:Value},FltAt w ws v→FltAt w' ws v
 | [],_,h=>h
 | (c', p) :: r,v,h=>by
  rcases h with h | ⟨h0,b,u,h1,h2,h3⟩
  ·exact .inl h
  ·exact .inr ⟨h0,b,u,h1,hk.at h2 (fun e=>by have e' : b=x:=e;subst e'; exact hx _ h2),FltAt.keptN hk hx h3⟩
theorem yerr_ne (v:Value) (w:World):(binOp .neq 46 (.iface 141 v) .nilIface).run Tryz.prog w=.ok (.bool true) w:=by kernel_rfl
theorem yerr_nn (w:World):(binOp .neq 46 .nilIface .nilIface).run Tryz.prog w=.ok (.bool false) w:=by kernel_rfl
set_option maxHeartbeats 8000000 in
theorem withRules_any {w:World} (hE:ErrT w) {sp:Option Addr} {L:List Sym} {R:List Ru} (h:SyG w sp L R) {lo:Option Addr} {l:List Ru} {lc:Nat} (hl:RsAt w lo l) (hll:l.length≤140737488355328) (hlc:l.length≤lc) :
  Calls Tryz.prog 71 #[.agg #[.pointer sp],.slice lo l.length lc] w fun e w' => ∃ ws v sp', e=.returned (.tuple #[.agg #[.pointer sp'],v])∧AnsY L R l ws∧FltAt w' ws v∧Same0 w w' ∧ (ws=[]→v=.nilIface∧∃ p bs lv vs,sp' = some ⟨p,0,none⟩∧StAt w' p bs L (R++l) lv vs)∧(ws≠[]→∃ k,v=.iface 141 (.pointer (some ⟨k,0,none⟩))):=by
 have hn1:=yerr_ne
 have hn0:=yerr_nn
 obtain ⟨W1,hW1⟩:∃ W1,W1=(w.alloc (.cells #[.pointer sp] 121)).alloc (.cells #[.pointer none] 121):=⟨_,rfl⟩
 have KW:Same0 w W1:=by rw [hW1];exact ((Kept.refl _ w).alloc _).alloc _
 have b0:W1.heap[w.heap.size]? = some (.cells #[.pointer sp] 121 (0,0)):=by rw [hW1];exact heap_alloc2_old _ _ _
 have b1:W1.heap[w.heap.size+1]? = some (.cells #[.pointer none] 121 (0,0)):=by rw [hW1];exact heap_al_al _ _ _
 have g0:W1.cell? ⟨w.heap.size,0,none⟩=some (.pointer sp):=cellAt b0 0
 have HB:Hid (∀ ww,Same0 W1 ww→ww.cell? ⟨w.heap.size+1,0,none⟩=some (.pointer none)∧ww.frozen? ⟨w.heap.size+1,0,none⟩=false∧FarY ww (w.heap.size+1)∧∀ u,(ww.setCell ⟨w.heap.size+1,0,none⟩ u).cell? ⟨w.heap.size+1,0,none⟩=some u∧Same0 w (ww.setCell ⟨w.heap.size+1,0,none⟩ u)∧Kept (fun q=>q=w.heap.size+1) ww (ww.setCell ⟨w.heap.size+1,0,none⟩ u)):=fun ww hk=>by
  have h2:=hk.at0 b1
  refine ⟨cellAt h2 0,frozenAt h2 0,(.inl ⟨_,h2⟩),fun u=>?_⟩
  have k3:=kept_at ww (w.heap.size+1) 0 u
  exact ⟨cellAt (setAt h2 0 u) 0,Kept.trans (KW.trans' hk) k3 (fun i hi e=>by have e' : i=w.heap.size+1:=e;omega),k3⟩
 have C1:=laid_any10 (h.same KW)
 have C2:Hid (∀ ww p bs lv vs,StAt ww p bs L R lv vs→Calls Tryz.prog 65 #[.pointer (some ⟨p,0,none⟩)] ww fun e w' => ∃ b' bs' lv' vs', e=.returned (.pointer (some ⟨b', 0,none⟩))∧Hid (StAt w' b' bs' L R lv' vs' ∧ ww.heap.size≤b' ∧ (∀ q,lv'.ownBlock=some q→ww.heap.size≤q))∧Same0 ww w'):=fun ww p bs lv vs hs=>(scopy_any hs).mono (fun e w' ⟨b', bs', lv', vs', e1,a,a2,a3,a4,a5⟩=>⟨b', bs', lv', vs', e1,⟨a,a2,a4⟩,a5⟩)
 have HL:Hid (∀ ww,Same0 W1 ww→RsAt ww lo l):=fun ww hk=>hl.same (KW.trans' hk)
 have HET:Hid (∀ ww,Same0 W1 ww→ErrT ww):=fun ww hk=>hE.same (KW.trans' hk)
 have HZ:Hid (w.heap.size+1<W1.heap.size):=lt_of_at b1
 clear h hE hl b0 b1
 go_enter Tryz.func71,Tryz.ntmps71
 go_upto_region 1 with fail
 rw [← hW1]
 clear hW1
 go_upto_region 2 with (first
  | (go_at_call 64;refine C1.mono ?_;rintro e w2 ⟨p,bs,lv,vs,rfl,hst,k2⟩;have C3:=C2.out w2 p bs lv vs hst)
  | (go_at_call 65;refine C3.mono ?_;rintro e w3 ⟨b', bs', lv', vs', rfl,h3,k3⟩))
 have K3:Same0 W1 w3:=k2.trans' k3
 have z23:=k2.size
 have CA:Calls Tryz.prog 68 #[.pointer (some ⟨b', 0,none⟩),.slice lo l.length lc] w3 fun e w' => ∃ ws v,e=.returned v∧Hid (Ans L R l ws∧FltAt w' ws v∧ws.length≤2∧(ws=[]→∃ lv2 vs2,StAt w' b' bs' L (R++l) lv2 vs2))∧Same0 W1 w' := by
  refine (add_rules (lc:=lc) h3.out.1 (HL.out w3 K3) hll hlc).mono ?_
  rintro e w' ⟨ws,v,e1,a1,a2,a3,a4,a5⟩
  by_cases hws:ws=[]
  ·obtain ⟨lv2,vs2,q1,q2,q3⟩:=a5 hws
   refine ⟨ws,v,e1,⟨a1,a2,a3,fun _=>⟨lv2,vs2,q1⟩⟩,Kept.trans K3 q2 (fun i hi e=>?_)⟩
   have:=h3.out.2.1
   rcases e with e | e
   ·omega
   ·have:=h3.out.2.2 i e;omega
  ·exact ⟨ws,v,e1,⟨a1,a2,a3,fun e=>absurd e hws⟩,K3.trans' (a4 hws)⟩
 clear C1 C2 C3 g0 h3 HL z23
 go_upto_region 3 with (first | (go_at_call 68;refine CA.mono ?_;rintro e w4 ⟨ws,v,rfl,h4,K4⟩))
 obtain ⟨a1,a2,a3,a4⟩:=h4.out
 clear CA h4
 rcases a1.flt a2 with ⟨hws,rfl⟩ | ⟨hws,k,rfl⟩
 ·obtain ⟨lv2,vs2,hst2⟩:=a4 hws
  rw [hws] at a1
  have HA:Hid (Ans L R l []):=a1
  clear a1 a2 a3 a4 hws
  rcases fork_cases L (R++l) with hno | ⟨K,z,hf⟩
  ·have C5:=forked_ok hst2 hno
   have HST:Hid (∀ ww,Same0 w4 ww→StAt ww b' bs' L (R++l) lv2 vs2):=fun ww hk=>hst2.same hk
   have HN:Hid (NoFork L (R++l) L.length):=hno
   clear hst2 hno
   go_upto_region 6 with (first | (go_at_call 127;refine C5.mono ?_;rintro e w5 ⟨rfl,k5⟩))
   obtain ⟨y0,y1,y3,y2⟩:=HB.out w5 (K4.trans' k5)
   obtain ⟨q0,q1,q2⟩:=y2 (.pointer (some ⟨b', 0,none⟩))
   have hz:=HZ.out
   have hsz4:=K4.size
   have FIN:Hid (StAt (w5.setCell ⟨w.heap.size+1,0,none⟩ (.pointer (some ⟨b', 0,none⟩))) b' bs' L (R++l) lv2 vs2):=(HST.out w5 k5).keptY q2 (fun i e=>by have e' : i=w.heap.size+1:=e;rw [e'];exact y3)
   have HQ:Hid (_∧_):=⟨q0,q1⟩
   clear q0 q1 q2 y2 y3 hz hsz4 C5
   go_wp2
   exact bodyPost_ret (v:=.tuple #[.agg #[.pointer (some ⟨b', 0,none⟩)],.nilIface]) (by simp [results,Tryz.results71,go_sem,HQ.out.1]) rfl ⟨[],.nilIface,_,rfl,.inr (.inr ⟨HA.out,HN.out,rfl⟩),rfl,HQ.out.2,fun _=>⟨rfl,b', bs', lv2,vs2,rfl,FIN.out⟩,fun e=>absurd rfl e⟩
  ·have C5:=forked_err hst2 hf.1 hf.2.1 hf.2.2.1 hf.2.2.2
   have HF:Hid (ForkAt L (R++l) K z):=hf
   clear hst2 hf
   go_upto_region 6 with (first | (go_at_call 127;refine C5.mono ?_;rintro e w5 ⟨q,rfl,hfl,k5⟩))
   have C6:=wrapped_any (code:=102) (HET.out w5 (K4.trans' k5)) hfl (by omega)
   clear C5 hfl
   go_upto_region 7 with fail
   go_wp2_with (first | (go_at_call 126;refine C6.mono ?_;rintro e w6 ⟨q', rfl,hf6,k6⟩;obtain ⟨y0,y1,y3,y2⟩:=HB.out w6 ((K4.trans' k5).trans' k6);obtain ⟨q0,q1,q2⟩:=y2 (.pointer none);have HQ:Hid (_∧_∧FltAt _ _ _):=⟨q0,q1,FltAt.keptN q2 y3.no.2.2.2.2.1 hf6⟩;clear q0 q1 q2 y2 y3 hf6))
   exact bodyPost_ret (v:=.tuple #[.agg #[.pointer none],.iface 141 (.pointer (some ⟨q', 0,none⟩))]) (by simp [results,Tryz.results71,go_sem,HQ.out.1]) rfl ⟨_,_,none,rfl,.inr (.inl ⟨HA.out,K,z,HF.out,rfl⟩),HQ.out.2.2,HQ.out.2.1,(fun e=>by cases e),fun _=>⟨q', rfl⟩⟩
 ·obtain ⟨c,p,r,rfl⟩:∃ c p r,ws=(c,p) :: r:=by
   cases ws with
   | nil=>exact absurd rfl hws
   | cons x r=>exact ⟨x.1,x.2,r,rfl⟩
  have hp:p ≠ -1:=by
   rcases a2 with ⟨_,_,q⟩ | ⟨q,_⟩
   ·cases q
   ·exact q
  have C6:=wrapped_any (code:=101) (HET.out w4 K4) a2 hp
  have HA:Hid (Ans L R l ((c,p) :: r)∧p ≠ -1∧r.length≤1):=⟨a1,hp,by simp at a3;omega⟩
  clear a1 a2 a3 a4 hws hp
  go_wp2_with (first | (go_at_call 126;refine C6.mono ?_;rintro e w6 ⟨q', rfl,hf6,k6⟩;obtain ⟨y0,y1,y3,y2⟩:=HB.out w6 (K4.trans' k6);obtain ⟨q0,q1,q2⟩:=y2 (.pointer none);have HQ:Hid (_∧_∧FltAt _ _ _):=⟨q0,q1,FltAt.keptN q2 y3.no.2.2.2.2.1 hf6⟩;clear q0 q1 q2 y2 y3 hf6))
  exact bodyPost_ret (v:=.tuple #[.agg #[.pointer none],.iface 141 (.pointer (some ⟨q', 0,none⟩))]) (by simp [results,Tryz.results71,go_sem,HQ.out.1]) rfl ⟨_,_,none,rfl,.inl ⟨c,p,r,HA.out.1,HA.out.2.1,HA.out.2.2,rfl⟩,HQ.out.2.2,HQ.out.2.1,(fun e=>by cases e),fun _=>⟨q', rfl⟩⟩
end Go.Proofs.YtflcpepjmonlpaaGreatDoor
namespace Go.Proofs.YtflcpepjmonlpaaGreatDoor
set_option maxRecDepth 100000
set_option linter.unusedVariables false
open Go.RowKit Go.Shelf
attribute [local go_sem] Oper.semAt_some
structure LsJ (R:List Ru) (w:World) (k:Nat) (W:World):Prop where
 same:Same0 w W
 row:∃ v cs,W.heap[w.heap.size+1]? = some (.cells #[v] 29 (0,0))∧W.ownsRow w.heap.size 102 2 v k cs∧OCells W cs (R.take k)
theorem LsJ.up {R:List Ru} {w:World} {k:Nat} {W W' : World} (h:LsJ R w k W) (hk:Same0 W W'):LsJ R w k W' := by
 obtain ⟨h1,v,cs,h3,h4,h5⟩:=h
 exact ⟨h1.trans' hk,v,cs,hk.at0 h3,hk.row h4 (fun _ _ f=>f),h5.same hk⟩
theorem LsJ.put {R:List Ru} {w:World} {k:Nat} {X:World} {l:Nat} {o o' : Obj} (h:LsJ R w k X) (hl:X.heap[l]? = some o) (ho:o.isCells=false) (hw:w.heap.size≤l):LsJ R w k (X.putObj l o'):=by
 obtain ⟨h1,v,cs,h3,h4,h5⟩:=h
 have kk:Kept (fun k=>k=l) X (X.putObj l o'):=kept_put
 have no:∀ cur t fr,X.heap[l]? ≠ some (.cells cur t fr):=fun cur t fr e=>by rw [hl] at e;cases e;cases ho
 refine ⟨Kept.trans h1 kk (fun i hi e=>by have e' : i=l:=e;omega),v,cs,putObj_at hl ho h3 rfl,kk.row h4 (fun q e e2=>?_),h5.kept kk (fun q e=>?_)⟩
 ·obtain ⟨cur,hc⟩:=own_typed h4 e
  have e3:q=l:=e2
  rw [e3] at hc
  exact no _ _ _ hc
 ·have e3:q=l:=e
  rw [e3]
  exact fun cur=>no _ _ _
theorem LsJ.more {R:List Ru} {w:World} {k:Nat} {W w1:World} (j1:Same0 w W) {v v' : Value} {cs:List Value} (j3:W.heap[w.heap.size+1]? = some (.cells #[v] 29 (0,0))) (j4:W.ownsRow w.heap.size 102 2 v k cs) (j5:OCells W cs (R.take k)) (hk:k<R.length) {g c g' c' : Nat} (t1:TmAt W g c R[k].1) (t2:TmAt W g' c' R[k].2)
  (hr:w1.ownsRow w.heap.size 102 2 v' (k+1) (cs ++ [.slice (some ⟨g,0,none⟩) R[k].1.length c,.slice (some ⟨g', 0,none⟩) R[k].2.length c'])) (hkp:Kept (fun q=>v.ownBlock=some q) W w1) {D:Nat} :
  w1.heap[w.heap.size+1]? = some (.cells #[v] 29 (0,0))∧LsJ R w (k+1) (w1.setCell ⟨w.heap.size+1,0,none⟩ v')∧Rnd D w.heap.size W (w1.setCell ⟨w.heap.size+1,0,none⟩ v'):=by
 have ty:∀ q,v.ownBlock=some q→∃ cur,W.heap[q]? = some (.cells cur 102 (0,0)):=fun q e=>own_typed j4 e
 have n3:¬ v.ownBlock=some (w.heap.size+1):=fun e=>by obtain ⟨cur,hc⟩:=ty _ e;rw [j3] at hc;cases hc
 have b3:=hkp.at j3 n3
 have ks:=kept_at w1 (w.heap.size+1) 0 v'
 have kk:Kept (fun q=>v.ownBlock=some q∨q=w.heap.size+1) W (w1.setCell ⟨w.heap.size+1,0,none⟩ v'):=Kept.trans (hkp.mono (fun _ _ e=>.inl e)) ks (fun _ _ e=>.inr e)
 have e1:R.take (k+1)=R.take k ++ [R[k]]:=by
  rw [List.take_add_one,List.getElem?_eq_getElem hk];rfl
 refine ⟨b3,⟨Kept.trans j1 kk (fun i hi e=>?_),v', _,by rw [setAt b3];rfl,ks.row hr (fun q e e2=>?_),?_⟩,Rnd.of kk (fun q e=>?_) (fun q hq e=>?_) j1.size⟩
 ·rcases e with e | e
  ·have:=own_low j4 e;omega
  ·omega
 ·have e3:q=w.heap.size+1:=e2
  rw [e3] at e
  obtain ⟨cur,hc⟩:=own_typed hr e
  rw [b3] at hc;cases hc
 ·rw [e1]
  refine (j5.append (OCells.one t1 t2)).kept kk (fun q e=>?_)
  rcases e with e | e
  ·obtain ⟨cur,hc⟩:=ty q e
   exact fun cur' h=>(by rw [hc] at h;cases h)
  ·rw [e]
   exact fun cur' h=>(by rw [j3] at h;cases h)
 ·rcases e with e | e
  ·obtain ⟨cur,hc⟩:=ty q e
   exact ⟨_,_,_,hc⟩
  ·rw [e];exact ⟨_,_,_,j3⟩
 ·rcases e with e | e
  ·have:=own_low j4 e;omega
  ·omega
theorem laid_some {w:World} {p bs:Nat} {L:List Sym} {R:List Ru} {lv:Value} {vs:List Value} (h:StAt w p bs L R lv vs) :
  Calls Tryz.prog 64 #[.agg #[.pointer (some ⟨p,0,none⟩)]] w fun e w' => e=.returned (.pointer (some ⟨p,0,none⟩))∧Same0 w w' := by
 have hn2:=sy_some
 have ka:Same0 w (w.alloc (.cells #[.pointer (some ⟨p,0,none⟩)] 121)):=(Kept.refl _ w).alloc _
 clear h
 go_enter Tryz.func64,Tryz.ntmps64
 go_wp2
 go_ret
 exact ⟨rfl,ka⟩
theorem OCells.rs {w:World} {base N:Nat} {v:Value} {cs:List Value} {R:List Ru} (hr:w.ownsRow base 102 2 v N cs) (hc:OCells w cs R) (hl:∀ x∈R,x.1.length≤2000∧x.2.length≤2000):∃ lo lc,v=.slice lo R.length lc∧RsAt w lo R∧R.length≤lc:=by
 obtain ⟨ao,cap,e,h1,h2,h3⟩:=row_rules hr (hc.rcells hl)
 refine ⟨ao,cap,e,h1,?_⟩
 subst h3
 rcases hr.2 with ⟨e2,h0⟩ | ⟨g,cap', cur,e2,_,_,_,h4,_⟩
 ·omega
 ·rw [e] at e2
  simp only [Value.slice.injEq] at e2
  omega
set_option maxHeartbeats 16000000 in
theorem ylist_any {w:World} {sp:Option Addr} {L:List Sym} {R:List Ru} (h:SyG w sp L R) :
  Calls Tryz.prog 125 #[.agg #[.pointer sp]] w fun e w' => ∃ lo lc,e=.returned (.slice lo R.length lc)∧RsAt w' lo R∧R.length≤lc∧Same0 w w' := by
 have hFn:∀ k,Fence.wide.fn k:=fun _=>trivial
 obtain ⟨W1,hW1⟩:∃ W1,W1=(w.alloc (.cells #[.pointer sp] 121)).alloc (.cells #[.slice none 0 0] 29):=⟨_,rfl⟩
 have KW:Same0 w W1:=by rw [hW1];exact ((Kept.refl _ w).alloc _).alloc _
 have g0:W1.cell? ⟨w.heap.size,0,none⟩=some (.pointer sp):=by rw [hW1];exact cellAt (heap_alloc2_old _ _ _) 0
 have g1:W1.heap[w.heap.size+1]? = some (.cells #[.slice none 0 0] 29 (0,0)):=by rw [hW1];exact heap_al_al _ _ _
 rcases h with ⟨rfl,rfl,rfl⟩ | ⟨p,bs,lv,vs,rfl,hst⟩
 ·have CL:=(callsIn_wide (n:=8)).2 (laid_any10 (w:=W1) (sp:=none) (L:=[]) (R:=[]) (.inl ⟨rfl,rfl,rfl⟩))
  refine (callsIn_wide (n:=9)).1 ?_
  refine callsIn_of_wp_marks Tryz.func125 rfl trivial ?_ rfl
  simp only [Tryz.ntmps125,List.size_toArray,List.length_cons,List.length_nil,Nat.reduceAdd,Nat.reduceSub,Array.replicate_succ,Array.replicate_zero,List.push_toArray,List.append_toArray,List.nil_append,List.cons_append]
  gi_upto_region 2 with fail
  rw [← hW1]
  clear hW1
  gi_wp2_with (first
   | (gi_at_call 64;refine CL.mono ?_;rintro e w2 ⟨p,bs,lv,vs,rfl,hst,k2'⟩;have k2:Same0 W1 w2:=k2')
   | (gi_at_call 67;refine (crall_in Fence.wide _ trivial rfl _ _).mono ?_;rintro e w' ⟨rfl,rfl⟩))
  obtain ⟨W0,hW0⟩:∃ W0,W0=w2.alloc (.cells #[.pointer (some ⟨p,0,none⟩)] 43):=⟨_,rfl⟩
  have K0:Same0 w2 W0:=by rw [hW0];exact (Kept.refl _ _).alloc _
  have b2:W0.cell? ⟨w2.heap.size,0,none⟩=some (.pointer (some ⟨p,0,none⟩)):=by rw [hW0];exact cellAt (heap_alloc_new _ _) 0
  have z0:w2.heap.size≤W0.heap.size:=K0.size
  have z1:w.heap.size≤w2.heap.size:=(KW.trans' k2).size
  have gl:=(k2.trans' K0).at0 g1
  have HSM:Same0 w W0:=(KW.trans' k2).trans' K0
  rw [← hW0]
  clear hW0
  refine wp_hands rfl (by omega) (gf:=123) (lb:=#[.pointer (some ⟨w2.heap.size,0,none⟩)]) rfl trivial (enters_of Tryz.func123 (by kernel_rfl) rfl) (B:=w2.heap.size) z0 (hands_rules hst K0 b2 (by omega)) (fun k vs W h=>by obtain ⟨_,_,_,_,_,rfl,_⟩:=h;rfl)
   (fun k W=>Same0 w W∧W.heap[w.heap.size+1]? = some (.cells #[.slice none 0 0] 29 (0,0))) (fun k X Y h hk=>⟨h.1.trans' hk,hk.at0 h.2⟩) (fun k X l o o' h hl ho hw=>⟨Kept.trans h.1 (kept_put (l:=l) (o' := o')) (fun i hi e=>by have e' : i=l:=e;omega),putObj_at hl ho h.2 rfl⟩) ⟨HSM,gl⟩ ?round ?done
  case done=>
   rintro D W hD ⟨j1,j3⟩ hK
   have c3:W.cell? ⟨w.heap.size+1,0,none⟩=some (.slice none 0 0):=cellAt j3 0
   have hz3:=lt_of_at j3
   have HF:Same0 w (W.putObj D (.deferred none)):=Kept.trans j1 (kept_put (l:=D) (o' := .deferred none)) (fun i hi e=>by have e' : i=D:=e;omega)
   have HFH:Hid (Same0 w (W.putObj D (.deferred none))):=HF
   clear j1 j3 HF
   gi_wp2_with fail
   refine ⟨by simp,.inl ⟨_,_,rfl,run_takeDeferred hK,?_⟩⟩
   exact ⟨_,results_tmp rfl _ _ _,none,0,rfl,.inl rfl,by simp,HFH.out⟩
  case round=>
   rintro l k vs W hk
   simp at hk
 ·have hle:=hst.le
  have hok:=hst.ok
  have CL:=(callsIn_wide (n:=8)).2 (laid_some (hst.same KW))
  refine (callsIn_wide (n:=9)).1 ?_
  refine callsIn_of_wp_marks Tryz.func125 rfl trivial ?_ rfl
  simp only [Tryz.ntmps125,List.size_toArray,List.length_cons,List.length_nil,Nat.reduceAdd,Nat.reduceSub,Array.replicate_succ,Array.replicate_zero,List.push_toArray,List.append_toArray,List.nil_append,List.cons_append]
  gi_upto_region 2 with fail
  rw [← hW1]
  clear hW1
  gi_wp2_with (first
   | (gi_at_call 64;refine CL.mono ?_;rintro e w2 ⟨rfl,k2'⟩;have k2:Same0 W1 w2:=k2')
   | (gi_at_call 67;refine (crall_in Fence.wide _ trivial rfl _ _).mono ?_;rintro e w' ⟨rfl,rfl⟩))
  obtain ⟨W0,hW0⟩:∃ W0,W0=w2.alloc (.cells #[.pointer (some ⟨p,0,none⟩)] 43):=⟨_,rfl⟩
  have K0:Same0 w2 W0:=by rw [hW0];exact (Kept.refl _ _).alloc _
  have b2:W0.cell? ⟨w2.heap.size,0,none⟩=some (.pointer (some ⟨p,0,none⟩)):=by rw [hW0];exact cellAt (heap_alloc_new _ _) 0
  have HSM:Same0 w W0:=(KW.trans' k2).trans' K0
  have z0:w.heap.size≤W0.heap.size:=HSM.size
  have gl:=(k2.trans' K0).at0 g1
  have hz1:=lt_of_at gl
  have START:LsJ R w 0 W0:=⟨HSM,.slice none 0 0,[],gl,World.ownsRow_nil _ _ _ _,⟨rfl,fun i hi=>absurd hi (by simp)⟩⟩
  have hlen:∀ x∈R,x.1.length≤2000∧x.2.length≤2000:=fun x hx=>⟨(ok_len (hok x hx)).1.2,(ok_len (hok x hx)).2.2⟩
  rw [← hW0]
  clear hW0
  refine wp_hands rfl (by omega) (gf:=123) (lb:=#[.pointer (some ⟨w2.heap.size,0,none⟩)]) rfl trivial (enters_of Tryz.func123 (by kernel_rfl) rfl) (B:=w.heap.size) z0 (hands_rules hst HSM b2 (by omega)) (fun k vs W h=>by obtain ⟨_,_,_,_,_,rfl,_⟩:=h;rfl)
   (fun k W=>LsJ R w k W) (fun k X Y h hk=>h.up hk) (fun k X l o o' h hl ho hw=>h.put hl ho (by omega)) START ?round ?done
  case done=>
   rintro D W hD hj hK
   obtain ⟨j1,v,cs,j3,j4,j5⟩:=hj
   have hz3:=lt_of_at j3
   have kk:Kept (fun k=>k=D) W (W.putObj D (.deferred none)):=kept_put
   have c3:=cellAt j3 0
   obtain ⟨j1', v', cs', j3', j4', j5'⟩:=LsJ.put (o' := .deferred none) (⟨j1,v,cs,j3,j4,j5⟩:LsJ R w R.length W) hK rfl (by omega)
   have c3' := putObj_at (o' := .deferred none) hK rfl j3 rfl
   rw [c3'] at j3'
   cases j3'
   rw [List.take_of_length_le (Nat.le_refl _)] at j5'
   obtain ⟨lo,lc,rfl,r1,r2⟩:=OCells.rs j4' j5' hlen
   simp only [List.getElem?_toArray,List.getElem?_cons_zero] at c3
   have HF:Hid (RsAt (W.putObj D (.deferred none)) lo R∧R.length≤lc∧Same0 w (W.putObj D (.deferred none))):=⟨r1,r2,j1'⟩
   clear j1 j3 j4 j5 j1' j4' j5' c3' r1 r2 kk START
   gi_wp2_with fail
   refine ⟨by simp,.inl ⟨_,_,rfl,run_takeDeferred hK,?_⟩⟩
   exact ⟨_,results_tmp rfl _ _ _,lo,lc,rfl,HF.out⟩
  case round=>
   rintro l k vs W hk hl hlW hj ⟨hk', g,c,g', c', rfl,t1,t2⟩
   obtain ⟨Wa,hWa⟩:∃ Wa,Wa=W.alloc (.cells #[.slice (some ⟨g,0,none⟩) R[k].1.length c,.slice (some ⟨g', 0,none⟩) R[k].2.length c'] 102):=⟨_,rfl⟩
   have ka:Same0 W Wa:=by rw [hWa];exact (Kept.refl _ _).alloc _
   have bx:Wa.heap[W.heap.size]? = some (.cells #[.slice (some ⟨g,0,none⟩) R[k].1.length c,.slice (some ⟨g', 0,none⟩) R[k].2.length c'] 102 (0,0)):=by rw [hWa];exact heap_alloc_new _ _
   gi_wp2_with fail
   rw [← hWa]
   clear hWa START
   refine ⟨Rnd.same ka (by omega),fun o o' ho hoc hoc' => ?_⟩
   have hpk:Kept (fun q=>q=l) Wa (Wa.putObj l o'):=kept_put
   have no:∀ q,(fun q=>q=l) q→∀ cur,Wa.heap[q]? ≠ some (.cells cur 3 (0,0)):=fun q e cur hc=>by
    have e' : q=l:=e
    rw [e', ho] at hc;cases hc;cases hoc
   have hjb:=(hj.up ka).put (o' := o') ho hoc (by omega)
   have t1b:=(t1.same ka).kept hpk no
   have t2b:=(t2.same ka).kept hpk no
   have bxb:=putObj_at (o' := o') ho hoc bx rfl
   have lob:(Wa.putObj l o').heap[l]? = some o' := World.putObj_heap_same (lt_of_at ho)
   obtain ⟨Wb,hWb⟩:∃ Wb,Wb=Wa.putObj l o' := ⟨_,rfl⟩
   rw [← hWb] at hjb t1b t2b bxb lob ⊢
   have hzb:W0.heap.size≤Wb.heap.size:=by have:=lt_of_at lob;omega
   clear hWb hpk no ho t1 t2 bx hj
   have y0:=cellAt bxb 0
   have y1:=cellAt bxb 1
   simp only [List.getElem?_toArray,List.getElem?_cons_zero,List.getElem?_cons_succ] at y0 y1
   obtain ⟨j1,v,cs,j3,j4,j5⟩:=hjb
   have c3:=cellAt j3 0
   simp only [List.getElem?_toArray,List.getElem?_cons_zero] at c3
   obtain ⟨ro,rc,rfl⟩:=row_shape j4
   obtain ⟨i0,hi0,hz0,hz1,hz2⟩:=info_parts info_rule
   have b1:k+1≤maxLen:=by unfold maxLen;omega
   have b2:(k+1) * 48≤140737488355328:=by omega
   have b3:w.heap.size≤(Wb.alloc (.cells #[.slice (some ⟨g,0,none⟩) R[k].1.length c,.slice (some ⟨g', 0,none⟩) R[k].2.length c'] 102)).heap.size:=by simp;omega
   have MORE:Hid (∀ w1 v', w1.ownsRow w.heap.size 102 2 v' (k+1) (cs ++ [.slice (some ⟨g,0,none⟩) R[k].1.length c,.slice (some ⟨g', 0,none⟩) R[k].2.length c'])→Kept (fun q=>(Value.slice ro k rc).ownBlock=some q) Wb w1→(w1.cell? ⟨w.heap.size+1,0,none⟩=some (.slice ro k rc)∧w1.frozen? ⟨w.heap.size+1,0,none⟩=false)∧LsJ R w (k+1) (w1.setCell ⟨w.heap.size+1,0,none⟩ v')∧Rnd W0.heap.size w.heap.size Wb (w1.setCell ⟨w.heap.size+1,0,none⟩ v')):=fun w1 v' h1 h2=>by
    obtain ⟨q1,q2,q3⟩:=LsJ.more (D:=W0.heap.size) j1 j3 j4 j5 hk' t1b t2b h1 h2
    exact ⟨⟨cellAt q1 0,frozenAt q1 0⟩,q2,q3⟩
   have HOW:Hid (Wb.ownsRow w.heap.size 102 2 (.slice ro k rc) k cs):=j4
   have HNW:Hid (∀ j u,[Value.slice (some ⟨g,0,none⟩) R[k].1.length c,.slice (some ⟨g', 0,none⟩) R[k].2.length c'][j]? = some u→(Wb.alloc (.cells #[.slice (some ⟨g,0,none⟩) R[k].1.length c,.slice (some ⟨g', 0,none⟩) R[k].2.length c'] 102)).cell? ((⟨Wb.heap.size,0,none⟩:Addr).add j)=some u):=World.news_of_block (cs:=#[.slice (some ⟨g,0,none⟩) R[k].1.length c,.slice (some ⟨g', 0,none⟩) R[k].2.length c']) (t:=102) (fr:=(0,0)) (heap_alloc_new Wb _)
   have HON:Hid (∀ u∈[Value.slice (some ⟨g,0,none⟩) R[k].1.length c,.slice (some ⟨g', 0,none⟩) R[k].2.length c'],u.oneCell' = true):=by (show ∀ u∈_,_);intro u hu;simp at hu;rcases hu with rfl | rfl <;> rfl
   clear j1 j3 j4 j5 t1b t2b bxb lob
   generalize R[k].1.length=n1 at *
   generalize R[k].2.length=n2 at *
   gi_wp2_with (gi_at_builtin;refine wpListIn_append_own _ rfl _ _ 29 rfl w.heap.size 102 i0 _ 2 48 Tryz.underlying29 hi0 hz0 hz1 hz2 rfl (by decide) (.slice ro k rc) k cs rfl (World.ownsRow.alloc HOW.out _) ⟨Wb.heap.size,0,none⟩ 1 1 _ rfl rfl HNW.out HON.out b1 b2 b3 ?_;intro v' w1 hown' hgrow _;obtain ⟨g9,cap9,rfl⟩:=ownsRow_succ hown'; obtain ⟨⟨m1', m2'⟩,m3,m4⟩:=MORE.out w1 _ hown' (Kept.grown (Kept.alloc (Kept.refl _ Wb) _) hgrow (fun _ e _=>e)))
   all_goals first | exact m4 | (rw [← z0];exact m4)
end Go.Proofs.YtflcpepjmonlpaaGreatDoor
