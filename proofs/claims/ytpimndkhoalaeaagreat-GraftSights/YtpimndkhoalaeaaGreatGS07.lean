import Derived.Test.YtpimndkhoalaeaaGreatGS03
import Derived.Test.YtpimndkhoalaeaaGreatGS01
import Derived.RangeFuncNested
import Derived.RangeFuncLeaves
import Derived.RangeFuncBox
import Derived.Test.YtpimndkhoalaeaaGreatGS04
import Derived.Shelf.Abstract
import Derived.OwnWalkIn
import Derived.TacticsInMore
import Derived.LoopNIn
import Derived.LoopIn
import Derived.Sort.CutIn
import Derived.Deep.RegionHeld3
import Derived.Maps.OwnIn
import Derived.Test.YtpimndkhoalaeaaGreatGS02
import Derived.Test.YtpimndkhoalaeaaGreatProg
import Derived.KernelRfl
import Derived.Handy
import Derived.LaidEql
import Derived.Stop.Asserts
import Derived.RowKitTokens
namespace Go.Proofs.YtpimndkhoalaeaaGreat
set_option maxRecDepth 100000
set_option linter.unusedVariables false
open Go.RowKit
attribute [local go_sem ↓] Go.wp_at_zero Go.wp_at_succ
set_option maxHeartbeats 4000000 in
theorem arg_yes {B:Nat→Prop} {w:World} {h g room:Nat} {N:List Nd} (p:HpB B w h g room N) (i:Nat) (hi:i<N.length) (n:Int) :
  Calls Tryz.prog 23 #[.agg #[.pointer (some ⟨h,0,none⟩)],.int .i64 (i:Int),.int .i64 n] w fun e w' => ∃ y,e=.returned (.int .i64 y)∧ArR N (i:Int) n y∧Same0 w w' := by
 obtain ⟨W0,hW0⟩:∃ W0,W0=w.alloc (.cells #[.pointer (some ⟨h,0,none⟩)] 67):=⟨_,rfl⟩
 have k0:Same0 w W0:=by rw [hW0];exact (Kept.refl _ w).alloc _
 have h0:W0.heap[w.heap.size]? = some (.cells #[.pointer (some ⟨h,0,none⟩)] 67 (0,0)):=by rw [hW0];exact heap_alloc_new w _
 have b0:W0.cell? ⟨w.heap.size,0,none⟩=some (.pointer (some ⟨h,0,none⟩)):=cellAt h0 0
 have C:=appl_yes (p.same k0) i hi
 have HM:Hid (∀ x∈N,x.2.1.length≤6∧∀ z∈x.2.1,0≤z∧z<(N.length:Int)):=fun x hx=>⟨(may_facts (p.may x hx)).2.1,(may_facts (p.may x hx)).2.2.2.2.1⟩
 have HA:Hid (∀ ww (j:Nat),Same0 W0 ww→j<N.length→Calls Tryz.prog 49 #[.pointer (some ⟨h,0,none⟩),.int .i64 (j:Int)] ww fun e w' => ∃ (b:Nat) (hb:b<N.length) (bo:Option Addr) (bc:Nat),e=.returned (.tuple #[.int .i64 (b:Int),nodeV N[b] bo bc,.int .i64 0])∧Res N j b∧ArgT w' bo N[b].2.1 bc∧(∀ a,bo=some a→ww.heap.size≤a.block)∧Same0 ww w'):=fun ww j hk hj=>appl_yes ((p.same k0).same hk) j hj
 have HB:Hid (∀ ww,Same0 W0 ww→ww.cell? ⟨w.heap.size,0,none⟩=some (.pointer (some ⟨h,0,none⟩))∧Same0 w ww):=fun ww hk=>⟨cellAt (hk.at0 h0) 0,k0.trans' hk⟩
 clear p hi k0 h0
 go_enter Tryz.func23,Tryz.ntmps23
 go_upto_region 1 with fail
 rw [← hW0]
 clear hW0
 go_upto_region 2 with (first | (go_at_call 49;refine C.mono ?_;rintro e w1 ⟨b,hb,bo,bc,rfl,hr,ha, -,k1⟩))
 obtain ⟨X1,hX1⟩:∃ X1,X1=w1.alloc (.cells #[.int .i64 N[b].1,.slice bo N[b].2.1.length bc,.int .i64 N[b].2.2.1,.bool N[b].2.2.2.1,.int .i64 N[b].2.2.2.2] 86):=⟨_,rfl⟩
 have kx1:Same0 w1 X1:=by rw [hX1];exact (Kept.refl _ _).alloc _
 have kx:Same0 W0 X1:=k1.trans' kx1
 have hbox:X1.heap[w1.heap.size]? = some (.cells #[.int .i64 N[b].1,.slice bo N[b].2.1.length bc,.int .i64 N[b].2.2.1,.bool N[b].2.2.2.1,.int .i64 N[b].2.2.2.2] 86 (0,0)):=by rw [hX1];exact heap_alloc_new _ _
 obtain ⟨x0,x1,x2,x3,x4⟩:=box5 hbox
 rw [← hX1]
 obtain ⟨hlen,hall⟩:=HM.out _ (List.getElem_mem hb)
 obtain ⟨y0,k2⟩:=HB.out X1 kx
 have NO:Hid (¬ (0≤n∧n<(N[b].2.1.length:Int))→ArR N (i:Int) n (-1)):=fun hn=>.inr ⟨rfl,fun ⟨i', b', hb', e1,e2,e3,e4⟩=>by
  obtain rfl:i=i' := by omega
  obtain rfl:=hr.uniq e2
  exact hn ⟨e3,e4⟩⟩
 clear hX1 C b0
 by_cases hn0:n<0
 ·have H:=NO.out (by omega)
  clear hall
  go_wp2_with fail
  go_ret
  exact ⟨-1,rfl,H,k2⟩
 ·by_cases hn1:(N[b].2.1.length:Int)≤n
  ·have H:=NO.out (by omega)
   clear hall
   go_wp2_with fail
   go_ret
   exact ⟨-1,rfl,H,k2⟩
  ·obtain ⟨m,rfl⟩:∃ m:Nat,n=(m:Int):=⟨n.toNat,by omega⟩
   have hm:m<N[b].2.1.length:=by omega
   obtain ⟨hz0,hz1⟩:=hall _ (List.getElem_mem hm)
   obtain ⟨j,ej⟩:∃ j:Nat,N[b].2.1[m]=(j:Int):=⟨N[b].2.1[m].toNat,by omega⟩
   have HAJ:Hid (∀ ww,Same0 X1 ww→Calls Tryz.prog 49 #[.pointer (some ⟨h,0,none⟩),.int .i64 (j:Int)] ww fun e w' => ∃ (c:Nat) (s:Int) (bo:Option Addr) (ln bc:Nat) (mk:Int) (pt:Bool) (tt:Int),e=.returned (.tuple #[.int .i64 (c:Int),.agg #[.int .i64 s,.slice bo ln bc,.int .i64 mk,.bool pt,.int .i64 tt],.int .i64 0])∧Res N j c∧Same0 ww w'):=fun ww hk=>(HA.out ww j (kx.trans' hk) (by omega)).mono (fun e w' ⟨c,hc,bo,bc,e1,e2,_,_,e5⟩=>⟨c,_,bo,_,bc,_,_,_,e1,e2,e5⟩)
   have ha1:=(ha.same kx1).1.at'
   obtain ⟨ab,aoff,hbo,hab,hac⟩:=ha1.get hm
   rw [ej] at hac
   have i1:(0:Int)≤(m:Int):=by omega
   have i2:(m:Int)<(N[b].2.1.length:Int):=by omega
   have YES:Hid (∀ c,Res N j c→ArR N (i:Int) (m:Int) (c:Int)):=fun c hc=>.inl ⟨i,b,c,hb,by simpa using hm,rfl,hr,by omega,by simp only [Int.toNat_natCast];rw [ej];simpa using hc,rfl⟩
   subst hbo
   have hzx:w.heap.size≤X1.heap.size:=k2.size
   have hbx1:=lt_of_at hbox
   have REST:Hid (∀ lb,N[b].2.1.length=lb→i<N.length→True):=fun _ _ _=>trivial
   obtain ⟨lb,hlb⟩:∃ lb,N[b].2.1.length=lb:=⟨_,rfl⟩
   rw [hlb] at i2 x1 hbox
   clear REST hlb
   have hbw:X1.heap[w1.heap.size]? = some (.cells #[.int .i64 N[b].1,.slice (some ⟨ab,aoff,none⟩) lb bc,.int .i64 N[b].2.2.1,.bool N[b].2.2.2.1,.int .i64 N[b].2.2.2.2] 86 (0,0)):=hbox
   have y0w:w.heap.size<X1.heap.size:=World.block_lt_of_cell? _ _ y0
   have FC:Hid (∀ ww,Kept (fun k=>X1.heap.size≤k) X1 ww→(ww.cell? ⟨w.heap.size,0,none⟩=some (.pointer (some ⟨h,0,none⟩))∧ww.cell? ⟨w1.heap.size,1,none⟩=some (.slice (some ⟨ab,aoff,none⟩) lb bc)∧ww.cell? ⟨ab,aoff+m,none⟩=some (.int .i64 (j:Int)))):=fun ww hk=>⟨(hk.cell (p:=⟨w.heap.size,0,none⟩) y0w (fun q=>by have q' : X1.heap.size≤w.heap.size:=q;omega)).trans y0,cellAt (hk.at hbox (by omega)) 1,(hk.cell (p:=⟨ab,aoff+m,none⟩) hab (fun q=>by have q' : X1.heap.size≤ab:=q;omega)).trans hac⟩
   have KA:Hid (Same0 X1 (X1.alloc (.cells #[.int .i64 0,.slice none 0 0,.int .i64 0,.bool false,.int .i64 0] 86)).drew):=Same0.trans' ((Kept.refl _ X1).alloc _) ((Kept.refl _ _).drew)
   have HK2:Hid (Same0 w X1):=k2
   have KD:Hid (Same0 X1 X1.drew):=(Kept.refl _ _).drew
   clear hall hz0 hz1 ej hn0 hn1 NO HA HM ha ha1 hbox hbw kx1 x0 x2 x3 x4 hr hm hlen hbx1 y0w kx HB k1 k2
   go_upto_region 4 with fail
   obtain ⟨S0a,S0b,S0c⟩:=FC.out X1.drew ((Kept.refl _ _).drew)
   obtain ⟨S1a,S1b,S1c⟩:=FC.out (X1.alloc (.cells #[.int .i64 0,.slice none 0 0,.int .i64 0,.bool false,.int .i64 0] 86)).drew (KA.out.mono (fun _ _ f=>f.elim))
   clear hac x1 y0
   go_region_held3 (fun ww=>ww.cell? ⟨w.heap.size,0,none⟩=some (.pointer (some ⟨h,0,none⟩))∧ww.cell? ⟨w1.heap.size,1,none⟩=some (.slice (some ⟨ab,aoff,none⟩) lb bc)∧ww.cell? ⟨ab,aoff+m,none⟩=some (.int .i64 (j:Int))) (with_reducible first | exact ⟨S0a,S0b,S0c⟩ | exact ⟨S1a,S1b,S1c⟩ | exact cc1 | exact cc2 | exact cc3 | exact cc4) (first
    | (go_at_call 49;refine (HAJ.out _ (by with_reducible exact KD.out)).mono ?_;rintro e w2 ⟨c,s,bo2,ln,bc2,mk,pt,tt,rfl,hr2,k3⟩;have K2:Kept (fun k=>X1.heap.size≤k) X1 w2:=((Kept.refl _ X1).drew).trans k3 (fun _ _ f=>f.elim);have KF:Hid (∀ ww,Kept (fun k=>k=w2.heap.size) w2 ww→Same0 w ww):=(fun ww hk=>(HK2.out.trans' (Same0.trans' ((Kept.refl _ X1).drew) k3)).trans hk (fun i hi e=>by have:=K2.size;omega));have cc1:=FC.out w2 K2;have cc2:=FC.out (w2.alloc (.cells #[.int .i64 0,.slice none 0 0,.int .i64 0,.bool false,.int .i64 0] 86)) (K2.trans ((Kept.refl (fun _=>False) w2).alloc _) (fun _ _ f=>f.elim));have cc3:=FC.out (w2.alloc (.cells #[.int .i64 s,.slice bo2 ln bc2,.int .i64 mk,.bool pt,.int .i64 tt] 86)) (K2.trans ((Kept.refl (fun _=>False) w2).alloc _) (fun _ _ f=>f.elim)))
    | (go_at_call 49;refine (HAJ.out _ (by with_reducible exact KA.out)).mono ?_;rintro e w2 ⟨c,s,bo2,ln,bc2,mk,pt,tt,rfl,hr2,k3⟩;have K2:Kept (fun k=>X1.heap.size≤k) X1 w2:=(Same0.trans' KA.out k3).mono (fun _ _ f=>f.elim);have KF:Hid (∀ ww,Kept (fun k=>k=X1.heap.size) w2 ww→Same0 w ww):=(fun ww hk=>(HK2.out.trans' (Same0.trans' KA.out k3)).trans hk (fun i hi e=>by omega));have q5:w2.heap[X1.heap.size]? = some (.cells #[.int .i64 0,.slice none 0 0,.int .i64 0,.bool false,.int .i64 0] 86 (0,0)):=k3.at0 (heap_alloc_new X1 _);obtain ⟨z0,z1,z2,z3,z4⟩:=box5 q5;obtain ⟨f0,f1,f2,f3,f4⟩:=free5 q5;clear q5;have cc1:=FC.out w2 K2;have cc4:=FC.out (put5 w2 X1.heap.size 0 (.int .i64 s) (.slice bo2 ln bc2) (.int .i64 mk) (.bool pt) (.int .i64 tt)) (K2.trans (put5_kept _ _ _ _ _ _ _ _) (fun i hi e=>by omega));unfold put5 at cc4))
   all_goals go_wp2_with fail
   all_goals go_ret
   all_goals first
    | exact ⟨_,rfl,YES.out _ hr2,KF.out _ ((Kept.refl _ _).alloc _)⟩
    | exact ⟨_,rfl,YES.out _ hr2,KF.out _ (put5_kept _ _ _ _ _ _ _ _)⟩
    | exact ⟨_,rfl,YES.out _ hr2,KF.out _ (((Kept.refl (fun _=>False) w2).alloc _).trans (put5_kept _ _ _ _ _ _ _ _) (fun _ _ e=>e))⟩
end Go.Proofs.YtpimndkhoalaeaaGreat
namespace Go.Proofs.YtpimndkhoalaeaaGreat
set_option linter.unusedVariables false
open Go.RowKit
theorem putObj_at {W:World} {l k:Nat} {o o' x:Obj} (hl:W.heap[l]? = some o) (hx:o.isCells=false) (hk:W.heap[k]? = some x) (hc:x.isCells=true):(W.putObj l o').heap[k]? = some x:=by
 have:k≠l:=fun e=>by subst e;rw [hl] at hk;cases hk;rw [hx] at hc;cases hc
 exact (World.putObj_heap_other this).trans hk
structure Rnd (D B:Nat) (W W' : World):Prop where
 recs:KeepsFrom D W W'
 below:Below B W W'
theorem Rnd.trans {D B:Nat} {X Y Z:World} (h:Rnd D B X Y) (k:Rnd D B Y Z):Rnd D B X Z:=⟨h.recs.trans k.recs,h.below.trans k.below⟩
theorem Rnd.same {D B:Nat} {W W' : World} (h:Same0 W W') (hB:B≤W.heap.size):Rnd D B W W' :=
 ⟨⟨h.size,fun k o _ hk _=>h.at0 hk⟩,h.below.mono hB⟩
section
variable {F : Fence} {n : Nat} {P : Program}
end
section
variable {F : Fence} {n : Nat} {P : Program}
end
theorem kept_putH {W:World} {l:Nat} {o' : Obj}:Kept (fun k=>k=l) W (W.putObj l o'):=
 ⟨rfl,rfl,rfl,by simp,fun k _ hn=>World.putObj_heap_other hn⟩
def CellsOf (C:Nat→Prop) (X:World):Prop:=∀ i,C i→∃ cs t fr,X.heap[i]? = some (.cells cs t fr)
theorem CellsOf.kept {C:Nat→Prop} {X Y:World} (h:CellsOf C X) (hk:Kept (fun i=>¬ C i) X Y):CellsOf C Y:=fun i hi=>by
 obtain ⟨cs,t,fr,e⟩:=h i hi
 exact ⟨cs,t,fr,hk.at e (fun q=>q hi)⟩
theorem CellsOf.same {C:Nat→Prop} {X Y:World} (h:CellsOf C X) (hk:Same0 X Y):CellsOf C Y:=h.kept (hk.mono (fun _ _ f=>f.elim))
theorem CellsOf.put {C:Nat→Prop} {X:World} (h:CellsOf C X) {l:Nat} {o o' : Obj} (hl:X.heap[l]? = some o) (ho:o.isCells=false):Kept (fun i=>¬ C i) X (X.putObj l o'):=
 kept_putH.mono (fun i _ e hc=>by
  obtain ⟨cs,t,fr,q⟩:=h i hc
  have e' : i=l:=e
  rw [e', hl] at q
  cases q
  cases ho)
structure RndC (D:Nat) (C:Nat→Prop) (W W' : World):Prop where
 recs:KeepsFrom D W W'
 kp:Kept (fun i=>¬ C i) W W'
theorem RndC.same {D:Nat} {C:Nat→Prop} {W W' : World} (h:Same0 W W'):RndC D C W W' := ⟨⟨h.size,fun k o _ hk _=>h.at0 hk⟩,h.mono (fun _ _ f=>f.elim)⟩
section
variable {F : Fence} {n : Nat} {P : Program}
def HandsC (F:Fence) (n:Nat) (P:Program) (gf:Nat) (lb:Array Value) (A:Nat→Prop) (N:Nat) (Lk:Nat→Array Value→World→Prop) (w:World):Prop:=
 ∀ (l:Nat) (J:(Nat→Prop)→Nat→World→Prop) (Z:World→Prop) (W:World),Same0 w W→(∀ C k X Y,J C k X→Same0 X Y→J C k Y)→(∀ X Y,Z X→Same0 X Y→Z Y) →
  (∀ C k vs X,k<N→CellsOf C X→J C k X→Lk k vs X→YieldAt F (n-1) P l vs X fun e Y=>(e=.returned (.bool true)∧J C (k+1) Y∧Kept (fun i=>¬ C i) X Y)∨(e=.returned (.bool false)∧Z Y)) →
  (∀ C X,Same0 W X→CellsOf C X→(∀ i,C i→W.heap.size≤i∨A i)→J C 0 X) →
  CallsIn F n P gf (#[.func (.yield l) #[] #[]]++lb) W fun e Y=>(∃ v,e=.returned v)∧((∃ C,J C N Y)∨Z Y)
theorem wp_handsC {g:Operand} {ps:Array Tmp} {assign body:Code} {Q:Exit→Act→World→Prop} {a:Act} {w:World}
  (hro:F.round=none) (h1:1≤n) {gf:Nat} {lb:Array Value} (hg:a.eval g=.func (.func gf) #[] lb) (hFg:F.fn gf) (eg:∀ args w,(callFunc gf args).run P w=.ok (.enter gf args) w)
  {N:Nat} {Lk:Nat→Array Value→World→Prop} {A:Nat→Prop} (hh:HandsC F (n-1) P gf lb A N Lk w) (hsz:∀ k vs W,Lk k vs W→vs.size=ps.size)
  (J:(Nat→Prop)→Nat→World→Prop) (hJ:∀ C k X Y,J C k X→Same0 X Y→J C k Y) (hJp:∀ C k X l o o', J C k X→X.heap[l]? = some o→o.isCells=false→w.heap.size≤l→J C k (X.putObj l o')) (h0:∀ C X,Same0 w X→CellsOf C X→(∀ i,C i→w.heap.size≤i∨A i)→J C 0 X) (Z:World→Prop) (hZ:∀ X Y,Z X→Same0 X Y→Z Y) (hZp:∀ X l o o', Z X→X.heap[l]? = some o→o.isCells=false→w.heap.size≤l→Z (X.putObj l o'))
  (hround:∀ (l:Nat) (C:Nat→Prop) (k:Nat) (vs:Array Value) (W:World),k<N→w.heap.size≤l→l<W.heap.size→CellsOf C W→J C k W→Lk k vs W →
   assign.wpIn (F.inRound l) (n-1-1) P (Exit.then (fun a' Wa=>RndC w.heap.size C W Wa∧∀ o o', Wa.heap[l]? = some o→o.isCells=false→o'.isCells=false →
    body.wpIn (F.inRound l) (n-1-1) P (fun e _ Y=>(e=.normal∧RndC w.heap.size C (Wa.putObj l o') Y∧J C (k+1) Y)∨(e=.ret∧KeepsFrom w.heap.size (Wa.putObj l o') Y∧Z Y)) a' (Wa.putObj l o')) (fun _ _ _=>False))
    { tmps:=(ps.zip vs).foldl (fun t (p,v)=>t.setIfInBounds p v) a.tmps,defers:=[] } W)
  (hdone:∀ (D:Nat) (W:World),w.heap.size≤D→(∃ C,J C N W)→W.heap[D]? = some (.deferred (some []))→Q .normal { a with defers:={ target:=.collected D,args:=#[] } :: a.defers } W)
  (hstop:∀ (D:Nat) (W:World),w.heap.size≤D→Z W→W.heap[D]? = some (.deferred (some []))→Code.wpIn F n P .ret Q { a with defers:={ target:=.collected D,args:=#[] } :: a.defers } W) :
  (Code.rangeFunc g ps assign body).wpIn F n P Q a w:=by
 refine wpIn_rangeFunc fun fn hfn=>?_
 rw [hro]
 have hen:=run_enterLoop_outer (P:=P) (w:=w) fn a.tmps ps assign body
 obtain ⟨st,hst⟩:∃ st:LoopState→Option Code→Loop,st=fun s p=>{ state:=s,pending:=p,fn:=fn,tmps:=a.tmps,params:=ps,assign:=assign,body:=body,defers:=w.heap.size }:=⟨_,rfl⟩
 obtain ⟨W1,hW1⟩:∃ W1,W1=(w.alloc (.deferred (some []))).alloc (.loop (st .ready none)):=⟨_,rfl⟩
 have hs1:Same0 w W1:=by rw [hW1];exact ((Kept.refl _ w).alloc _).alloc _
 have hd1:W1.heap[w.heap.size]? = some (.deferred (some [])):=by
  rw [hW1];exact (Below.heap_alloc _ _ _ (by simp)).trans (World.alloc_heap_new w _)
 have hl1:W1.heap[w.heap.size+1]? = some (.loop (st .ready none)):=by
  have:=World.alloc_heap_new (w.alloc (.deferred (some []))) (.loop (st .ready none))
  rw [hW1];simpa using this
 refine ⟨w.heap.size+1,[{ target:=.collected w.heap.size,args:=#[] }],W1, { target:=.fn (.func gf) lb,args:=#[.func (.yield (w.heap.size+1)) #[] #[]] },W1,gf, #[.func (.yield (w.heap.size+1)) #[] #[]]++lb,W1,?_,?_,?_,?_,fun _=>h1,?_⟩
 ·rw [hen,hW1,hst]
 ·simp only [resolve,hg];simp [go_sem]
 ·intro f' hf'; simp [Target.leads] at hf'; subst hf'; exact hFg
 ·simp [invoke,go_sem,eg]
 ·have hcall:=hh (w.heap.size+1) (fun C k X=>J C k X∧X.heap[w.heap.size+1]? = some (.loop (st .ready none))∧X.heap[w.heap.size]? = some (.deferred (some []))) (fun X=>Z X∧X.heap[w.heap.size+1]? = some (.loop (st .done (some .ret)))∧X.heap[w.heap.size]? = some (.deferred (some []))) W1 hs1
   (fun C k X Y h hk=>⟨hJ C k X Y h.1 hk,hk.at0 h.2.1,hk.at0 h.2.2⟩) (fun X Y h hk=>⟨hZ X Y h.1 hk,hk.at0 h.2.1,hk.at0 h.2.2⟩) ?_ (fun C X hk hc hci=>⟨h0 C X (hs1.trans' hk) hc (fun i hi=>(hci i hi).imp (fun q=>Nat.le_trans hs1.size q) id),hk.at0 hl1,hk.at0 hd1⟩)
  ·refine hcall.mono ?_
   rintro e Y ⟨⟨v,rfl⟩,⟨C,hj,hl,hd⟩ | ⟨hz,hl,hd⟩⟩
   rotate_left
   ·have hend:=run_endLoop (P:=P) hl (by rw [hst];simp)
    rw [hst] at hend
    exact ⟨some .ret,_,hend,hstop w.heap.size _ (Nat.le_refl _) (hZp _ _ _ _ hz hl rfl (by omega)) ((World.putObj_heap_other (by omega)).trans hd)⟩
   have hend:=run_endLoop (P:=P) hl (by rw [hst];simp)
   rw [hst] at hend
   exact ⟨none,_,hend,hdone w.heap.size _ (Nat.le_refl _) ⟨C,hJp _ _ _ _ _ _ hj hl rfl (by omega)⟩ ((World.putObj_heap_other (by omega)).trans hd)⟩
  ·rintro C k vs X hk hcc ⟨hj,hl,hd⟩ hlk
   have hy:=run_yield (P:=P) (args:=vs) hl (by rw [hst];exact hsz k vs X hlk)
   rw [hst] at hy
   have hlX:w.heap.size+1<X.heap.size:=(Array.getElem?_eq_some_iff.1 hl).1
   refine ⟨fn,_,assign,body,hy,roundIn_of_wpIn hfn (wpIn_mono (hround (w.heap.size+1) C k vs X hk (by omega) hlX hcc hj hlk) ?_)⟩
   rintro e a' Wa hp
   cases e with
   | normal=>
    obtain ⟨hr,hb⟩:=hp
    have hla:=hr.recs.same _ _ (by omega) hl rfl
    have hda:=hr.recs.same _ _ (Nat.le_refl _) hd rfl
    have hlt:w.heap.size+1<Wa.heap.size:=(Array.getElem?_eq_some_iff.1 hla).1
    refine ⟨_,run_beginRound hla (by rw [hst]),wpIn_mono (hb _ (.loop { st .ready none with state:=.busy }) hla rfl rfl) ?_⟩
    rintro e2 a2 Y (⟨rfl,hr2,hj2⟩ | ⟨rfl,hr2,hz2⟩)
    rotate_left
    ·have hl2:=hr2.same _ _ (by omega) (World.putObj_heap_same (o:=.loop { st .ready none with state:=.busy }) hlt) rfl
     have hd2:=hr2.same _ _ (Nat.le_refl _) ((World.putObj_heap_other (o:=.loop { st .ready none with state:=.busy }) (by omega)).trans hda) rfl
     have hend:=run_endRound (P:=P) (some .ret) hl2
     rw [hst] at hend
     refine ⟨_,_,hend,.inr ⟨rfl,hZp _ _ _ _ hz2 hl2 rfl (by omega),?_,(World.putObj_heap_other (by omega)).trans hd2⟩⟩
     rw [hst];exact World.putObj_heap_same (Array.getElem?_eq_some_iff.1 hl2).1
    have hl2:=hr2.recs.same _ _ (by omega) (World.putObj_heap_same (o:=.loop { st .ready none with state:=.busy }) hlt) rfl
    have hd2:=hr2.recs.same _ _ (Nat.le_refl _) ((World.putObj_heap_other (o:=.loop { st .ready none with state:=.busy }) (by omega)).trans hda) rfl
    have hend:=run_endRound (P:=P) none hl2
    rw [hst] at hend
    refine ⟨_,_,hend,.inl ⟨rfl,⟨hJp _ _ _ _ _ _ hj2 hl2 rfl (by omega),?_,(World.putObj_heap_other (by omega)).trans hd2⟩,?_⟩⟩
    ·rw [hst];exact World.putObj_heap_same (Array.getElem?_eq_some_iff.1 hl2).1
    ·have c1:=hcc.kept hr.kp
     have p1:=c1.put (o' := .loop { st .ready none with state:=.busy }) hla rfl
     have c2:=(c1.kept p1).kept hr2.kp
     exact ((hr.kp.trans p1 (fun _ _ e=>e)).trans hr2.kp (fun _ _ e=>e)).trans (c2.put hl2 rfl) (fun _ _ e=>e)
   | _=>exact hp.elim
end
end Go.Proofs.YtpimndkhoalaeaaGreat
namespace Go.Proofs.YtpimndkhoalaeaaGreat
set_option linter.unusedVariables false
abbrev Tg:=Bool × Int × Int × Int
def arT (x:Tg):Nat:=x.2.2.1.toNat
def oneT:Nat→List Tg→Bool
 | 0,[]=>true
 | _+1,[]=>false
 | 0,_ :: _=>false
 | k+1,x :: r=>oneT (k+arT x) r
def layF (N:List Nd):List Tg→List Nd × List Int
 | []=>(N,[])
 | x :: r=>if x.1=true then ((layF N r).1 ++ [(x.2.1,(layF N r).2.take (arT x),0,false,0)],((layF N r).1.length:Int) :: (layF N r).2.drop (arT x)) else ((layF N r).1,x.2.2.2 :: (layF N r).2)
def newN (l:List Tg):Nat:=l.countP (fun x=>x.1)
def TgOk (n:Nat) (x:Tg):Prop:=0≤x.2.2.1∧x.2.2.1≤6∧(x.1=true→0≤x.2.1)∧(x.1=false→x.2.2.1=0∧0≤x.2.2.2∧x.2.2.2<(n:Int))
theorem lay_new (N:List Nd) {x:Tg} (r:List Tg) (h:x.1=true):layF N (x :: r)=((layF N r).1 ++ [(x.2.1,(layF N r).2.take (arT x),0,false,0)],((layF N r).1.length:Int) :: (layF N r).2.drop (arT x)):=by
 show (if x.1=true then _ else _)=_
 rw [if_pos h]
theorem lay_old (N:List Nd) {x:Tg} (r:List Tg) (h:x.1=false):layF N (x :: r)=((layF N r).1,x.2.2.2 :: (layF N r).2):=by
 show (if x.1=true then _ else _)=_
 rw [if_neg (by rw [h];simp)]
theorem lay_len {n:Nat} (N:List Nd):∀ {l:List Tg} {k:Nat},oneT k l=true→(∀ x∈l,TgOk n x)→(layF N l).2.length=k
 | [],0,_,_=>rfl
 | [],k+1,h,_=>by cases h
 | x :: r,0,h,_=>by cases h
 | x :: r,k+1,h,ho=>by
  have ih:=lay_len N (l:=r) (k:=k+arT x) h (fun y hy=>ho y (List.mem_cons_of_mem _ hy))
  cases hx:x.1
  ·have h0:arT x=0:=by have:=(ho x (List.mem_cons_self ..)).2.2.2 hx;unfold arT;omega
   rw [lay_old N r hx]
   simp;omega
  ·rw [lay_new N r hx]
   simp;omega
theorem lay_nodes (N:List Nd):∀ l:List Tg,∃ M,(layF N l).1=N++M∧M.length=newN l∧∀ y∈M,y.2.2.1=0∧y.2.2.2.1=false∧y.2.2.2.2=0
 | []=>⟨[],by simp [layF],rfl,by simp⟩
 | x :: r=>by
  obtain ⟨M,h1,h2,h3⟩:=lay_nodes N r
  cases hx:x.1
  ·exact ⟨M,by rw [lay_old N r hx];exact h1,by simp [newN,hx] at *;exact h2,h3⟩
  ·refine ⟨M ++ [(x.2.1,(layF N r).2.take (arT x),0,false,0)],by rw [lay_new N r hx];simp [h1],by simp [newN,hx] at *;exact h2,fun y hy=>?_⟩
   rcases List.mem_append.1 hy with q | q
   ·exact h3 y q
   ·simp at q;subst q;simp
theorem lay_size (N:List Nd) (l:List Tg):(layF N l).1.length=N.length+newN l:=by
 obtain ⟨M,h1,h2,_⟩:=lay_nodes N l
 rw [h1,List.length_append,h2]
theorem lay_in {N:List Nd}:∀ {l:List Tg},(∀ x∈l,TgOk N.length x)→∀ z∈(layF N l).2,0≤z∧z<((layF N l).1.length:Int)
 | [],_,z,hz=>by simp [layF] at hz
 | x :: r,ho,z,hz=>by
  have ih:=lay_in (l:=r) (fun y hy=>ho y (List.mem_cons_of_mem _ hy))
  cases hx:x.1
  ·rw [lay_old N r hx] at hz ⊢
   have hs:=lay_size N r
   have:=(ho x (List.mem_cons_self ..)).2.2.2 hx
   simp only [List.mem_cons] at hz
   rcases hz with rfl | q
   ·refine ⟨this.2.1,?_⟩;show _<((layF N r).1.length:Int);omega
   ·exact ih z q
  ·rw [lay_new N r hx] at hz ⊢
   simp only [List.mem_cons] at hz
   rcases hz with rfl | q
   ·refine ⟨by omega,?_⟩;show _<(((layF N r).1++_).length:Int);simp;omega
   ·have:=ih z (List.mem_of_mem_drop q)
    refine ⟨this.1,?_⟩;show _<(((layF N r).1++_).length:Int);simp;omega
theorem lay_short (N:List Nd):∀ l:List Tg,(layF N l).2.length≤l.length
 | []=>Nat.le_refl _
 | x :: r=>by
  have ih:=lay_short N r
  cases hx:x.1
  ·rw [lay_old N r hx];simp;omega
  ·rw [lay_new N r hx];simp;omega
theorem one_drop:∀ {l:List Tg} {k:Nat},oneT k l=true→∀ i,∃ k', oneT k' (l.drop i)=true
 | l,k,h,0=>⟨k,by simpa using h⟩
 | [],k,h,i+1=>⟨k,by simpa using h⟩
 | x :: r,0,h,i+1=>by cases h
 | x :: r,k+1,h,i+1=>by
  obtain ⟨k', q⟩:=one_drop (l:=r) (k:=k+arT x) h i
  exact ⟨k', by simpa using q⟩
theorem newN_drop (l:List Tg) (i:Nat):newN (l.drop i)≤newN l:=by
 unfold newN
 exact List.Sublist.countP_le (List.drop_sublist i l)
theorem lay_fits {N:List Nd} {x:Tg} {r:List Tg} {k room:Nat} (h:oneT k (x :: r)=true) (ho:∀ y∈x :: r,TgOk N.length y) (hr:N.length+newN (x :: r)≤room) (hx:x.1=true) :
  arT x≤(layF N r).2.length∧arT x≤6∧mkE (layF N r).1 room x.2.1 ((layF N r).2.take (arT x))=0:=by
 have o1:=ho x (List.mem_cons_self ..)
 have o2:∀ y∈r,TgOk N.length y:=fun y hy=>ho y (List.mem_cons_of_mem _ hy)
 cases k with
 | zero=>cases h
 | succ k=>
  have hl:=lay_len (n:=N.length) N (l:=r) (k:=k+arT x) h o2
  have hs:=lay_size N r
  have ha:arT x≤6:=by unfold arT;have:=o1.2.1;omega
  have hn:newN (x :: r)=newN r+1:=by simp [newN,hx]
  refine ⟨by omega,ha,?_⟩
  unfold mkE
  have h0:=o1.2.2.1 hx
  have ht:((layF N r).2.take (arT x)).length≤6:=by simp;omega
  rw [if_neg (by omega),if_neg ?_,if_neg (by omega)]
  have:=lay_in o2
  have hin:insB ((layF N r).1.length:Int) ((layF N r).2.take (arT x))=true:=insB_iff.2 (fun z hz=>this z (List.mem_of_mem_take hz))
  rw [hin];simp
theorem lay_one {N:List Nd} {l:List Tg} (h:oneT 1 l=true) (ho:∀ x∈l,TgOk N.length x):∃ a:Nat,(layF N l).2=[(a:Int)]∧a<(layF N l).1.length:=by
 have hl:=lay_len (n:=N.length) N h ho
 have hi:=lay_in ho
 match hq:(layF N l).2,hl with
 | [z],_=>
  have:=hi z (by rw [hq];simp)
  exact ⟨z.toNat,by congr 1;omega,by omega⟩
end Go.Proofs.YtpimndkhoalaeaaGreat
namespace Go.Proofs.YtpimndkhoalaeaaGreat
set_option maxRecDepth 100000
set_option linter.unusedVariables false
open Go.RowKit Go.Shelf
attribute [local go_sem] Oper.semAt_some
def tgV (x:Tg):Value:=.agg #[.bool x.1,.int .i64 x.2.1,.int .i64 x.2.2.1,.int .i64 x.2.2.2]
def TgB (w:World) (b:Nat) (l:List Tg):Prop:=
 ∃ cs,w.heap[b]? = some (.cells cs 148 (0,0))∧cs.size=l.length * 4∧∀ i (h:i<l.length),cs[i * 4]? = some (.bool l[i].1)∧cs[i * 4+1]? = some (.int .i64 l[i].2.1)∧cs[i * 4+2]? = some (.int .i64 l[i].2.2.1)∧cs[i * 4+3]? = some (.int .i64 l[i].2.2.2)
theorem TgB.kept {S:Nat→Prop} {w w' : World} {b:Nat} {l:List Tg} (h:TgB w b l) (hk:Kept S w w') (hn:¬ S b):TgB w' b l:=by
 obtain ⟨cs,h1,h2,h3⟩:=h
 exact ⟨cs,hk.at h1 hn,h2,h3⟩
theorem TgB.same {w w' : World} {b:Nat} {l:List Tg} (h:TgB w b l) (hk:Same0 w w'):TgB w' b l:=h.kept hk (fun f=>f)
theorem TgB.get {w:World} {b:Nat} {l:List Tg} (h:TgB w b l) {i:Nat} (hi:i<l.length):w.cell? ⟨b,i * 4,none⟩=some (.bool l[i].1)∧w.cell? ⟨b,i * 4+1,none⟩=some (.int .i64 l[i].2.1)∧w.cell? ⟨b,i * 4+2,none⟩=some (.int .i64 l[i].2.2.1)∧w.cell? ⟨b,i * 4+3,none⟩=some (.int .i64 l[i].2.2.2):=by
 obtain ⟨cs,h1,h2,h3⟩:=h
 obtain ⟨q0,q1,q2,q3⟩:=h3 i hi
 exact ⟨(cellAt h1 _).trans q0,(cellAt h1 _).trans q1,(cellAt h1 _).trans q2,(cellAt h1 _).trans q3⟩
def TgLk (l:List Tg) (k:Nat) (vs:Array Value) (W:World):Prop:=∃ h:l.length-1-k<l.length,vs = #[.int .i64 ((l.length-1-k:Nat):Int),tgV l[l.length-1-k]]
theorem back_in (F:Fence) (n:Nat) (hF:F.fn 75) (hro:F.round=none) (ao:Option Addr) (m cap:Nat) (w:World):CallsIn F n Tryz.prog 75 #[.slice ao m cap] w fun e w' => e=.returned (.func (.func 97) #[] #[.pointer (some ⟨w.heap.size,0,none⟩)])∧w' = w.alloc (.cells #[.slice ao m cap] 105):=by
 refine callsIn_of_wp Tryz.func75 rfl hF ?_ hro
 simp only [Tryz.ntmps75,List.size_toArray,List.length_cons,List.length_nil,Nat.reduceAdd,Nat.reduceSub,Array.replicate_succ,Array.replicate_zero,List.push_toArray,List.append_toArray,List.nil_append,List.cons_append]
 gi_wp2
 go_ret
 exact ⟨rfl,rfl⟩
set_option maxHeartbeats 2000000 in
theorem hands_back {n:Nat} {w:World} {b:Nat} {l:List Tg} (p:TgB w b l) {Bn cap:Nat} (hbx:w.heap[Bn]? = some (.cells #[.slice (some ⟨b,0,none⟩) l.length cap] 105 (0,0))) (hl:l.length≤1000000000000000) (hn:1≤n) :
  HandsC Fence.wide n Tryz.prog 97 #[.pointer (some ⟨Bn,0,none⟩)] (fun i=>i=Bn∨i=b) l.length (TgLk l) w:=by
 intro l' J Z W hW hJ hZ hY h0
 have hFn:∀ k,Fence.wide.fn k:=fun _=>trivial
 have b1:=hW.at0 hbx
 have pW:=p.same hW
 have s1:W.cell? ⟨Bn,0,none⟩=some (.slice (some ⟨b,0,none⟩) l.length cap):=cellAt b1 0
 obtain ⟨C,hC⟩:∃ C:Nat→Prop,C=fun i=>i=Bn∨i=b:=⟨_,rfl⟩
 have HC1:Hid (C Bn∧C b):=by rw [hC];exact ⟨.inl rfl,.inr rfl⟩
 have HCC:Hid (CellsOf C W):=fun i hi=>by
  rw [hC] at hi
  rcases hi with e | e
  ·exact ⟨_,_,_,e ▸ b1⟩
  ·obtain ⟨cs,q,_⟩:=pW;exact ⟨cs,_,_,e ▸ q⟩
 have HJ0:Hid (J C 0 W):=h0 C W (Kept.refl _ _) HCC.out (fun i hi=>.inr (by rw [hC] at hi;exact hi))
 clear hC h0 p hbx
 have HROW:Hid (W.heap[Bn]? = some (.cells #[.slice (some ⟨b,0,none⟩) l.length cap] 105 (0,0))∧TgB W b l):=⟨b1,pW⟩
 clear b1 pW
 refine callsIn_of_wp Tryz.func97 rfl trivial ?_ rfl
 simp only [Tryz.ntmps97,List.size_toArray,List.length_cons,List.length_nil,Nat.reduceAdd,Nat.reduceSub,Array.replicate_succ,Array.replicate_zero,List.push_toArray,List.append_toArray,List.nil_append,List.cons_append]
 gi_wp2_with fail
 gi_loopw [3] (fun i wr=>∃ k:Nat,k≤l.length∧i=.int .i64 ((l.length:Int)-1-(k:Int))∧Hid (wr.heap[Bn]? = some (.cells #[.slice (some ⟨b,0,none⟩) l.length cap] 105 (0,0))∧TgB wr b l)∧Hid (CellsOf C wr)∧Hid (J C k wr)) (fun i _=>(intOf i+1).toNat)
 case atStart=>exact ⟨0,Nat.zero_le _,by simp,HROW,HCC,HJ0⟩
 case round=>
  clear HROW HCC HJ0 s1
  obtain ⟨k,hk,rfl,HROW,HCC,HJ⟩:=hrel
  by_cases hlt:k<l.length
  ·obtain ⟨m,hm⟩:∃ m,m+k+1=l.length:=⟨l.length-1-k,by omega⟩
   have em:(l.length:Int)-1-(k:Int)=(m:Int):=by omega
   have em2:l.length-1-k=m:=by omega
   rw [em]
   have hml:m<l.length:=by omega
   have i1:(0:Int)≤(m:Int):=by omega
   have i2:(m:Int)<(l.length:Int):=by omega
   have s1:wr.cell? ⟨Bn,0,none⟩=some (.slice (some ⟨b,0,none⟩) l.length cap):=cellAt HROW.out.1 0
   obtain ⟨c0,c1,c2,c3⟩:=HROW.out.2.get hml
   obtain ⟨fn,tmps,asg,bdy,hy,hR⟩:=hY C k _ wr hlt HCC.out HJ.out ⟨by omega,rfl⟩
   simp only [em2,tgV] at hy
   gi_wp2_with fail
   refine hR.mono ?_
   rintro e w4 (⟨rfl,hj4,hk4⟩ | ⟨rfl,hz4⟩)
   rotate_left
   ·clear hR hy
    gi_wp2_with fail
    go_returns
    exact ⟨⟨_,rfl⟩,.inr hz4⟩
   have HR4:Hid (w4.heap[Bn]? = some (.cells #[.slice (some ⟨b,0,none⟩) l.length cap] 105 (0,0))∧TgB w4 b l):=⟨hk4.at HROW.out.1 (fun q=>q HC1.out.1),HROW.out.2.kept hk4 (fun q=>q HC1.out.2)⟩
   have HC4:Hid (CellsOf C w4):=HCC.out.kept hk4
   have HJ4:Hid (J C (k+1) w4):=hj4
   clear hR hy c0 c1 c2 c3 s1 hj4 hk4 HROW HCC HJ
   gi_wp2_with fail
   go_roundw
   case rel=>exact ⟨k+1,by omega,by go_num,HR4,HC4,HJ4⟩
   case measure=>simp [intOf]
  ·obtain rfl:k=l.length:=by omega
   have e0:(l.length:Int)-1-(l.length:Int) = -1:=by omega
   rw [e0]
   gi_wp2_with fail
   go_end0
   exact ⟨⟨_,rfl⟩,.inl ⟨C,HJ.out⟩⟩
end Go.Proofs.YtpimndkhoalaeaaGreat
namespace Go.Proofs.YtpimndkhoalaeaaGreat
set_option maxRecDepth 100000
set_option linter.unusedVariables false
open Go.RowKit
attribute [local go_sem ↓] Go.wp_at_zero Go.wp_at_succ
def tgT (L:List Sym) (n:Int):Tg:=(true,n,(arN L n:Int),0)
theorem info_thing:(Tryz.prog.info? 148).map (fun i=>(i.zero,i.size,i.bytes))=some (some (.agg #[.bool false,.int .i64 0,.int .i64 0,.int .i64 0]),4,32):=by kernel_rfl
def put4 (w:World) (g off:Nat) (v0 v1 v2 v3:Value):World:=(((w.setCell ⟨g,off,none⟩ v0).setCell ⟨g,off+1,none⟩ v1).setCell ⟨g,off+2,none⟩ v2).setCell ⟨g,off+3,none⟩ v3
theorem put4_at {w:World} {g off:Nat} {v0 v1 v2 v3:Value} {cs:Array Value} {t:TypeId} {fr:Nat × Nat} (h:w.heap[g]? = some (.cells cs t fr)):(put4 w g off v0 v1 v2 v3).heap[g]? = some (.cells ((((cs.setIfInBounds off v0).setIfInBounds (off+1) v1).setIfInBounds (off+2) v2).setIfInBounds (off+3) v3) t fr):=
 setAt (setAt (setAt (setAt h _ _) _ _) _ _) _ _
theorem put4_kept (w:World) (g off:Nat) (v0 v1 v2 v3:Value):Kept (fun k=>k=g) w (put4 w g off v0 v1 v2 v3):=by
 have t:∀ (w' : World) (o:Nat) (v:Value),Kept (fun k=>k=g) w w' → Kept (fun k=>k=g) w (w'.setCell ⟨g,o,none⟩ v):=fun w' o v h=>Kept.setCell (S:=fun k=>k=g) h (p:=⟨g,o,none⟩) (fun _=>rfl) v
 exact t _ _ _ (t _ _ _ (t _ _ _ (t _ _ _ (Kept.refl _ w))))
theorem boxT4 {w:World} {b:Nat} {v0 v1 v2 v3:Value} {t:TypeId} (h:w.heap[b]? = some (.cells #[v0,v1,v2,v3] t (0,0))):w.cell? ⟨b,0,none⟩=some v0∧w.cell? ⟨b,1,none⟩=some v1∧w.cell? ⟨b,2,none⟩=some v2∧w.cell? ⟨b,3,none⟩=some v3:=⟨cellAt h 0,cellAt h 1,cellAt h 2,cellAt h 3⟩
theorem freeT4 {w:World} {b:Nat} {cs:Array Value} {t:TypeId} (h:w.heap[b]? = some (.cells cs t (0,0))):w.frozen? ⟨b,0,none⟩=false∧w.frozen? ⟨b,1,none⟩=false∧w.frozen? ⟨b,2,none⟩=false∧w.frozen? ⟨b,3,none⟩=false:=⟨frozenAt h 0,frozenAt h 1,frozenAt h 2,frozenAt h 3⟩
def TgQ (w:World) (b n:Nat) (l:List Tg):Prop:=
 ∃ cs,w.heap[b]? = some (.cells cs 148 (0,0))∧cs.size=n * 4∧∀ i (h:i<l.length),cs[i * 4]? = some (.bool l[i].1)∧cs[i * 4+1]? = some (.int .i64 l[i].2.1)∧cs[i * 4+2]? = some (.int .i64 l[i].2.2.1)∧cs[i * 4+3]? = some (.int .i64 l[i].2.2.2)
theorem TgQ.all {w:World} {b:Nat} {l:List Tg} (h:TgQ w b l.length l):TgB w b l:=h
theorem TgQ.kept {S:Nat→Prop} {w w' : World} {b n:Nat} {l:List Tg} (h:TgQ w b n l) (hk:Kept S w w') (hn:¬ S b):TgQ w' b n l:=by
 obtain ⟨cs,h1,h2,h3⟩:=h
 exact ⟨cs,hk.at h1 hn,h2,h3⟩
theorem TgQ.same {w w' : World} {b n:Nat} {l:List Tg} (h:TgQ w b n l) (hk:Same0 w w'):TgQ w' b n l:=h.kept hk (fun f=>f)
theorem TgQ.snoc {w:World} {b n:Nat} {l:List Tg} (h:TgQ w b n l) (hl:l.length<n) (x:Tg):TgQ (put4 w b (l.length * 4) (.bool x.1) (.int .i64 x.2.1) (.int .i64 x.2.2.1) (.int .i64 x.2.2.2)) b n (l ++ [x]):=by
 obtain ⟨cs,h1,h2,h3⟩:=h
 refine ⟨_,put4_at h1,by simp [h2],fun i hi=>?_⟩
 by_cases hi' : i<l.length
 ·obtain ⟨q0,q1,q2,q3⟩:=h3 i hi'
  simp only [List.getElem_append_left hi', Array.getElem?_setIfInBounds]
  refine ⟨?_,?_,?_,?_⟩
  ·rw [if_neg (by omega),if_neg (by omega),if_neg (by omega),if_neg (by omega)];exact q0
  ·rw [if_neg (by omega),if_neg (by omega),if_neg (by omega),if_neg (by omega)];exact q1
  ·rw [if_neg (by omega),if_neg (by omega),if_neg (by omega),if_neg (by omega)];exact q2
  ·rw [if_neg (by omega),if_neg (by omega),if_neg (by omega),if_neg (by omega)];exact q3
 ·obtain rfl:i=l.length:=by simp at hi;omega
  simp only [List.getElem_concat_length,Array.getElem?_setIfInBounds,Array.size_setIfInBounds]
  refine ⟨?_,?_,?_,?_⟩
  ·rw [if_neg (by omega),if_neg (by omega),if_neg (by omega),if_pos trivial,if_pos (by omega)]
  ·rw [if_neg (by omega),if_neg (by omega),if_pos trivial,if_pos (by omega)]
  ·rw [if_neg (by omega),if_pos trivial,if_pos (by omega)]
  ·rw [if_pos trivial,if_pos (by omega)]
theorem TgQ.there {w:World} {b n:Nat} {l:List Tg} (h:TgQ w b n l) (hl:l.length<n):∃ u0 u1 u2 u3,w.cell? ⟨b,l.length * 4,none⟩=some u0∧w.cell? ⟨b,l.length * 4+1,none⟩=some u1∧w.cell? ⟨b,l.length * 4+2,none⟩=some u2∧w.cell? ⟨b,l.length * 4+3,none⟩=some u3∧∀ o,w.frozen? ⟨b,o,none⟩=false:=by
 obtain ⟨cs,h1,h2,_⟩:=h
 have t:∀ o,o<cs.size→w.cell? ⟨b,o,none⟩=some cs[o]! := fun o ho=>by rw [cellAt h1];simp [ho]
 exact ⟨_,_,_,_,t _ (by omega),t _ (by omega),t _ (by omega),t _ (by omega),fun o=>frozenAt h1 o⟩
theorem TgQ.start {w w' : World} {n:Nat} {vs:List Value} (h:w'.ownsRow w.heap.size 148 4 (.slice (some ⟨w.heap.size,0,none⟩) n n) n vs):TgQ w' w.heap.size n []:=by
 rcases h.2 with ⟨e,h0⟩ | ⟨g,cap,cur,e,hb,hg,hle,hml,hsz,ht⟩
 ·cases e
 ·simp only [Value.slice.injEq,Option.some.injEq,Addr.mk.injEq,and_true,true_and] at e
  obtain ⟨rfl,rfl⟩:=e
  exact ⟨cur,hg,hsz,fun i hi=>by simp at hi⟩
set_option maxHeartbeats 2000000 in
theorem newT_yes {n b:Nat} {w:World} {L:List Sym} (h:Sg n w b L) (i:Nat) (hi:i<L.length):Calls Tryz.prog 77 #[.pointer (some ⟨b,0,none⟩),.int .i64 (i:Int)] w fun e w' => e=.returned (.tuple #[tgV (tgT L (i:Int)),.int .i64 0])∧Same0 w w' := by
 have ea:=ar_of h.2 hi
 have HV:Hid (tgV (tgT L (i:Int))=.agg #[.bool true,.int .i64 (i:Int),.int .i64 L[i].ar,.int .i64 0]):=by show _=_;unfold tgV tgT;simp only;rw [ea]
 obtain ⟨⟨sv,mr,hs,hf⟩,har⟩:=h
 obtain ⟨W0,hW0⟩:∃ W0,W0=w.alloc (.cells #[.bool false,.int .i64 0,.int .i64 0,.int .i64 0] 148):=⟨_,rfl⟩
 have k0:Same0 w W0:=by rw [hW0];exact (Kept.refl _ w).alloc _
 have hb:W0.heap[w.heap.size]? = some (.cells #[.bool false,.int .i64 0,.int .i64 0,.int .i64 0] 148 (0,0)):=by rw [hW0];exact heap_alloc_new w _
 have C:=at_yes (hs.kept k0 (fun _ _ f=>f)) i hi
 have HB:Hid (∀ ww,Same0 W0 ww→ww.heap[w.heap.size]? = some (.cells #[.bool false,.int .i64 0,.int .i64 0,.int .i64 0] 148 (0,0))∧Same0 w ww):=fun ww hk=>⟨hk.at0 hb,k0.trans' hk⟩
 clear hs hf har k0 hb ea
 go_enter Tryz.func77,Tryz.ntmps77
 go_upto_region 1 with fail
 rw [← hW0]
 clear hW0
 go_upto_region 2 with (first | (go_at_call 98;refine C.mono ?_;rintro e w1 ⟨rfl,k1⟩))
 obtain ⟨X1,hX1⟩:∃ X1,X1=w1.alloc (.cells #[.string L[i].name,.int .i64 L[i].ar,.bool L[i].df] 77):=⟨_,rfl⟩
 rw [← hX1]
 obtain ⟨q,k2⟩:=HB.out X1 (by rw [hX1];exact (show Same0 W0 w1 from k1).alloc _)
 have y1:X1.cell? ⟨w1.heap.size,1,none⟩=some (.int .i64 L[i].ar):=by rw [hX1];exact cellAt (heap_alloc_new w1 _) 1
 obtain ⟨b0,b1,b2,b3⟩:=boxT4 q
 obtain ⟨g0,g1,g2,g3⟩:=freeT4 q
 clear hX1 C
 go_wp2
 have K4:=put4_kept X1 w.heap.size 0 (.bool true) (.int .i64 (i:Int)) (.int .i64 L[i].ar) (.int .i64 0)
 exact bodyPost_ret (v:=.tuple #[.agg #[.bool true,.int .i64 (i:Int),.int .i64 L[i].ar,.int .i64 0],.int .i64 0]) (by simp [results,Tryz.results77,go_sem,b0,b1,b2,b3]) rfl ⟨by rw [HV.out],k2.trans K4 (fun i hi e=>by omega)⟩
set_option maxHeartbeats 2000000 in
theorem newT_no {n b:Nat} {w:World} {L:List Sym} (h:Sg n w b L) (z:Int) (hz:z<0∨(L.length:Int)≤z):Calls Tryz.prog 77 #[.pointer (some ⟨b,0,none⟩),.int .i64 z] w fun e w' => e=.returned (.tuple #[tgV (true,z,0,0),.int .i64 14])∧Same0 w w' := by
 obtain ⟨⟨sv,mr,hs,hf⟩,har⟩:=h
 obtain ⟨W0,hW0⟩:∃ W0,W0=w.alloc (.cells #[.bool false,.int .i64 0,.int .i64 0,.int .i64 0] 148):=⟨_,rfl⟩
 have k0:Same0 w W0:=by rw [hW0];exact (Kept.refl _ w).alloc _
 have hb:W0.heap[w.heap.size]? = some (.cells #[.bool false,.int .i64 0,.int .i64 0,.int .i64 0] 148 (0,0)):=by rw [hW0];exact heap_alloc_new w _
 have C:=at_no (hs.kept k0 (fun _ _ f=>f)) z hz
 have HB:Hid (∀ ww,Same0 W0 ww→ww.heap[w.heap.size]? = some (.cells #[.bool false,.int .i64 0,.int .i64 0,.int .i64 0] 148 (0,0))∧Same0 w ww):=fun ww hk=>⟨hk.at0 hb,k0.trans' hk⟩
 clear hs hf har k0 hb
 go_enter Tryz.func77,Tryz.ntmps77
 go_upto_region 1 with fail
 rw [← hW0]
 clear hW0
 go_upto_region 2 with (first | (go_at_call 98;refine C.mono ?_;rintro e w1 ⟨rfl,k1⟩))
 obtain ⟨X1,hX1⟩:∃ X1,X1=w1.alloc (.cells #[.string ⟨#[]⟩,.int .i64 0,.bool false] 77):=⟨_,rfl⟩
 rw [← hX1]
 obtain ⟨q,k2⟩:=HB.out X1 (by rw [hX1];exact (show Same0 W0 w1 from k1).alloc _)
 have y1:X1.cell? ⟨w1.heap.size,1,none⟩=some (.int .i64 0):=by rw [hX1];exact cellAt (heap_alloc_new w1 _) 1
 obtain ⟨b0,b1,b2,b3⟩:=boxT4 q
 obtain ⟨g0,g1,g2,g3⟩:=freeT4 q
 clear hX1 C
 go_wp2
 have K4:=put4_kept X1 w.heap.size 0 (.bool true) (.int .i64 z) (.int .i64 0) (.int .i64 0)
 exact bodyPost_ret (v:=.tuple #[.agg #[.bool true,.int .i64 z,.int .i64 0,.int .i64 0],.int .i64 14]) (by simp [results,Tryz.results77,go_sem,b0,b1,b2,b3]) rfl ⟨rfl,k2.trans K4 (fun i hi e=>by omega)⟩
set_option maxHeartbeats 1000000 in
theorem hasRoom_any {B:Nat→Prop} {w:World} {h g room:Nat} {N:List Nd} (p:HpB B w h g room N) (c:Nat):Calls Tryz.prog 40 #[.pointer (some ⟨h,0,none⟩),.int .i64 (c:Int)] w fun e w' => e=.returned (.bool (decide (N.length+c≤room)))∧Same0 w w' := by
 have C1:=room_any p
 have C2:=used_any p
 have hle:=p.le
 have hr2:=p.rm2
 clear p
 by_cases hc:N.length+c≤room
 ·have H:Hid (decide (N.length+c≤room)=true):=by simp [Hid,hc]
  have i1:(c:Int)≤(room:Int)-(N.length:Int):=by omega
  go_enter Tryz.func40,Tryz.ntmps40
  go_wp2_with (first | (go_at_call 74;refine C1.mono ?_;rintro e w' ⟨rfl,rfl⟩) | (go_at_call 46;refine C2.mono ?_;rintro e w' ⟨rfl,rfl⟩))
  go_ret
  exact ⟨by rw [H.out];first | rfl | (simp;done) | (simp;omega),Kept.refl _ _⟩
 ·have H:Hid (decide (N.length+c≤room)=false):=by simp [Hid];omega
  have i1:¬ (c:Int)≤(room:Int)-(N.length:Int):=by omega
  go_enter Tryz.func40,Tryz.ntmps40
  go_wp2_with (first | (go_at_call 74;refine C1.mono ?_;rintro e w' ⟨rfl,rfl⟩) | (go_at_call 46;refine C2.mono ?_;rintro e w' ⟨rfl,rfl⟩))
  go_ret
  exact ⟨by rw [H.out];first | rfl | (simp;done) | (simp;omega),Kept.refl _ _⟩
def whyV (y:Int):Value:=if y=0 then .nilIface else .iface 40 (.int .i64 y)
def FtAt (n0:Nat) (w:World) (e:Value) (c a y:Int):Prop:=∃ b,e=.iface 97 (.pointer (some ⟨b,0,none⟩))∧n0≤b∧w.heap[b]? = some (.cells #[.int .i64 c,.int .i64 a,whyV y] 99 (0,0))
theorem full_any (w:World):Calls Tryz.prog 41 #[] w fun e w' => ∃ v,e=.returned v∧FtAt w.heap.size w' v 131 0 111∧Same0 w w' := by
 go_enter Tryz.func41,Tryz.ntmps41
 go_wp2
 go_ret
 exact ⟨_,rfl,⟨w.heap.size,rfl,Nat.le_refl _,heap_alloc_new w _⟩,(Kept.refl _ w).alloc _⟩
end Go.Proofs.YtpimndkhoalaeaaGreat
namespace Go.Proofs.YtpimndkhoalaeaaGreat
open Go.RowKit Go.Extern.Stop Go.Stop Go.Extern
set_option linter.unusedVariables false
set_option maxRecDepth 100000
theorem is_typeOf (v:Value) (w:World):(Extern.ReflectliteType.typeOf #[.iface 40 v]).run Tryz.prog w=.ok (.iface 172 (.agg #[.pointer (some ⟨0,40,none⟩)])) w:=by kernel_rfl
theorem is_comparable (w:World):(callFunc 131 #[.agg #[.pointer (some ⟨0,40,none⟩)]]).run Tryz.prog w=.ok (.value (.bool true)) w:=
  (@run_callFunc_extern Tryz.prog 131 _ (Extern.ReflectliteType.method fun t => do Extern.Rtype.noPackHeld "Comparable" t; pure (.bool (← typeInfo t).comparable)) Tryz.func131 (by kernel_rfl) (by kernel_rfl) (by kernel_rfl) (by kernel_rfl) _ w).trans (by kernel_rfl)
theorem is_mComparable (v : Value) (w : World) : (Go.method 316 172 v "Comparable").run Tryz.prog w = .ok (131, v) w := by kernel_rfl
theorem is_noIs (v:Value) (xT:TypeId) (w:World):(Instr.typeAssert (.iface 40 v) xT 174 true).run Tryz.prog w=.ok (.tuple #[.nilIface,.bool false]) w:=run_typeAssert_lacksB Tryz.underlying174 (by kernel_rfl) (by kernel_rfl) v xT w
theorem is_noUnwrap (v:Value) (xT:TypeId) (w:World):(Instr.typeAssert (.iface 40 v) xT 177 true).run Tryz.prog w=.ok (.tuple #[.nilIface,.bool false]) w:=run_typeAssert_lacksB Tryz.underlying177 (by kernel_rfl) (by kernel_rfl) v xT w
theorem is_noUnwraps (v:Value) (xT:TypeId) (w:World):(Instr.typeAssert (.iface 40 v) xT 178 true).run Tryz.prog w=.ok (.tuple #[.nilIface,.bool false]) w:=run_typeAssert_lacksB Tryz.underlying178 (by kernel_rfl) (by kernel_rfl) v xT w
theorem is_eqE (a b:Int) (w:World):(binOp .eql 37 (.iface 40 (.int .i64 a)) (.iface 40 (.int .i64 b))).run Tryz.prog w=.ok (.bool (a == b)) w:=by kernel_rfl
def FltAt (w:World):List (Int × Int)→Value→Prop
 | [],v=>v=.nilIface
 | (c,p) :: r,v=>(p = -1∧r=[]∧v=.iface 40 (.int .i64 c))∨(p ≠ -1∧∃ b u,v=.iface 97 (.pointer (some ⟨b,0,none⟩))∧w.heap[b]? = some (.cells #[.int .i64 c,.int .i64 p,u] 99 (0,0))∧FltAt w r u)
theorem FltAt.same {w w' : World} (hk:Same0 w w'):∀ {ws:List (Int × Int)} {v:Value},FltAt w ws v→FltAt w' ws v
 | [],_,h=>h
 | (c,p) :: r,v,h=>by
  rcases h with h | ⟨h0,b,u,h1,h2,h3⟩
  ·exact .inl h
  ·exact .inr ⟨h0,b,u,h1,hk.at0 h2,FltAt.same hk h3⟩
theorem is_one (a d:Int) (w:World):Calls Tryz.prog 101 #[.iface 40 (.int .i64 a),.iface 40 (.int .i64 d)] w fun e w' => e=.returned (.bool (a == d))∧w' = w:=by
 have h8:=@run_callFunc_extern Tryz.prog 105 _ Extern.ReflectliteType.typeOf Tryz.func105 (by kernel_rfl) (by kernel_rfl) (by kernel_rfl) (by kernel_rfl)
 have tT:=is_typeOf
 have cT:=is_comparable
 have mR:=is_mComparable
 have nE:=is_noIs
 have uE:=is_noUnwrap
 have vE:=is_noUnwraps
 by_cases hd:a=d
 ·subst hd
  have e1:(a == a)=true:=by simp
  have eq:=is_eqE a a
  rw [e1] at eq ⊢
  clear e1
  go_enter Tryz.func101,Tryz.ntmps101
  go_wp2
  refine wp_loop_rounds 1 ?_
  rw [rounds_succ]
  go_wp2
  go_ret
  exact ⟨rfl,rfl⟩
 ·have e1:(a == d)=false:=by simpa using hd
  have eq:=is_eqE a d
  rw [e1] at eq ⊢
  clear hd e1
  go_enter Tryz.func101,Tryz.ntmps101
  go_wp2
  refine wp_loop_rounds 1 ?_
  rw [rounds_succ]
  go_wp2
  go_ret
  exact ⟨rfl,rfl⟩
end Go.Proofs.YtpimndkhoalaeaaGreat
namespace Go.Proofs.YtpimndkhoalaeaaGreat
set_option maxRecDepth 100000
set_option linter.unusedVariables false
open Go.RowKit
attribute [local go_sem ↓] Go.wp_at_zero Go.wp_at_succ
theorem arg_any {B:Nat→Prop} {w:World} {h g room:Nat} {N:List Nd} (p:HpB B w h g room N) (a n:Int) :
  Calls Tryz.prog 23 #[.agg #[.pointer (some ⟨h,0,none⟩)],.int .i64 a,.int .i64 n] w fun e w' => ∃ y,e=.returned (.int .i64 y)∧ArR N a n y∧Same0 w w' := by
 by_cases ha:0≤a∧a<(N.length:Int)
 ·obtain ⟨i,rfl⟩:∃ i:Nat,a=(i:Int):=⟨a.toNat,by omega⟩
  exact arg_yes p i (by omega) n
 ·refine (arg_no p a n ha).mono ?_
  rintro e w' ⟨rfl,k⟩
  refine ⟨-1,rfl,.inr ⟨rfl,fun ⟨i,b,hb,e1,e2,_⟩=>ha ?_⟩,k⟩
  have:=e2.lt.1
  omega
set_option maxHeartbeats 2000000 in
theorem along_any {B:Nat→Prop} {w:World} {h g room:Nat} {N:List Nd} (p:HpB B w h g room N) (z:Int) {ao:Option Addr} {cap:Nat} {xs:List Int} (hx:IntsAt w ao xs) (hm:xs.length≤maxLen) :
  Calls Tryz.prog 100 #[.iface 67 (.agg #[.pointer (some ⟨h,0,none⟩)]),.int .i64 z,.slice ao xs.length cap] w fun e w' => ∃ y,e=.returned (.int .i64 y)∧LdR N z xs y∧Same0 w w' := by
 unfold maxLen at hm
 have mA:=sight_arg
 have HX:Hid (∀ wr,Same0 w wr→IntsAt wr ao xs):=fun wr hk=>hx.same hk
 have HA:Hid (∀ wr a n,Same0 w wr→Calls Tryz.prog 23 #[.agg #[.pointer (some ⟨h,0,none⟩)],.int .i64 a,.int .i64 n] wr fun e w' => ∃ y,e=.returned (.int .i64 y)∧ArR N a n y∧Same0 wr w'):=fun wr a n hk=>arg_any (p.same hk) a n
 clear p hx
 go_enter Tryz.func100,Tryz.ntmps100
 go_wp2
 go_loopw [1,11] (fun s1 s11 wr=>∃ (k:Nat) (y:Int),k≤xs.length∧s1=.int .i64 y∧s11=.int .i64 (k:Int)∧Hid (LdR N z (xs.take k) y)∧Same0 w wr) (fun _ s11 _=>xs.length-(intOf s11).toNat)
 case atStart=>exact ⟨0,z,Nat.zero_le _,rfl,rfl,by simp [Hid,LdR],Kept.refl _ _⟩
 case round=>
  obtain ⟨k,y,hk,rfl,rfl,hl,hs⟩:=hrel
  by_cases hlt:k<xs.length
  ·obtain ⟨xb,off,rfl,hxb,hxc⟩:=(HX.out wr hs).get hlt
   have i1:(0:Int)≤(k:Int):=by omega
   have i2:(k:Int)<(xs.length:Int):=by omega
   have C:=HA.out wr y xs[k] hs
   have NX:Hid (∀ u,ArR N y xs[k] u→LdR N z (xs.take (k+1)) u):=fun u hu=>by rw [List.take_succ_eq_append_getElem hlt];exact hl.out.snoc hu
   generalize xs[k]=x at *
   go_wp2_with (first | (go_at_call 23;refine C.mono ?_;rintro e w2 ⟨u,rfl,hu,k2⟩))
   refine ⟨⟨k+1,u,by omega,by go_num,by go_num,NX.out u hu,hs.trans' k2⟩,by simp [intOf];omega⟩
  ·have hl' : LdR N z xs y:=by have:=hl.out;rw [List.take_of_length_le (by omega)] at this;exact this
   go_wp2
   go_ret
   exact ⟨y,rfl,hl', hs⟩
def PtR (L:List Sym) (N:List Nd) (z:Int) (p:Int × List Int) (x:Tg) (e:Int):Prop:=
 (0≤p.1∧p.1<(L.length:Int)∧x=tgT L p.1∧e=0)∨((L.length:Int)≤p.1∧x=(true,p.1,0,0)∧e=14)∨(p.1 < -1∧x=(false,0,0,0)∧e=1) ∨
 (p.1 = -1∧LdR N z p.2 (-1)∧x=(false,0,0,0)∧e=112)∨(p.1 = -1∧∃ y,LdR N z p.2 y∧y ≠ -1∧x=(false,0,0,y)∧e=0)
set_option maxHeartbeats 4000000 in
theorem part_any {B:Nat→Prop} {n sb:Nat} {L:List Sym} {w:World} {h g room:Nat} {N:List Nd} (hs:Sg n w sb L) (p:HpB B w h g room N) (z s:Int) {ao:Option Addr} {cap:Nat} {xs:List Int} (hx:IntsAt w ao xs) (hm:xs.length≤maxLen) :
  Calls Tryz.prog 83 #[.pointer (some ⟨sb,0,none⟩),.agg #[.int .i64 s,.slice ao xs.length cap],.iface 67 (.agg #[.pointer (some ⟨h,0,none⟩)]),.int .i64 z] w fun e w' => ∃ x c,e=.returned (.tuple #[tgV x,.int .i64 c])∧PtR L N z (s,xs) x c∧Same0 w w' := by
 obtain ⟨W0,hW0⟩:∃ W0,W0=(w.alloc (.cells #[.int .i64 s,.slice ao xs.length cap] 83)).alloc (.cells #[.bool false,.int .i64 0,.int .i64 0,.int .i64 0] 148):=⟨_,rfl⟩
 have k0:Same0 w W0:=by rw [hW0];exact ((Kept.refl _ w).alloc _).alloc _
 have h0:W0.heap[w.heap.size]? = some (.cells #[.int .i64 s,.slice ao xs.length cap] 83 (0,0)):=by
  rw [hW0,heap_alloc_old _ _ (by simp)];exact heap_alloc_new w _
 have h1:W0.heap[w.heap.size+1]? = some (.cells #[.bool false,.int .i64 0,.int .i64 0,.int .i64 0] 148 (0,0)):=by
  rw [hW0]
  have:=heap_alloc_new (w.alloc (.cells #[.int .i64 s,.slice ao xs.length cap] 83)) (.cells #[.bool false,.int .i64 0,.int .i64 0,.int .i64 0] 148)
  simpa using this
 have c0:W0.cell? ⟨w.heap.size,0,none⟩=some (.int .i64 s):=cellAt h0 0
 have c1:W0.cell? ⟨w.heap.size,1,none⟩=some (.slice ao xs.length cap):=cellAt h0 1
 have FIN:Hid (∀ ww x c,Same0 W0 ww→PtR L N z (s,xs) x c→∀ w', w' = put4 ww (w.heap.size+1) 0 (.bool x.1) (.int .i64 x.2.1) (.int .i64 x.2.2.1) (.int .i64 x.2.2.2)→∃ x' c', Ending.returned (.tuple #[tgV x,.int .i64 c])=.returned (.tuple #[tgV x', .int .i64 c'])∧PtR L N z (s,xs) x' c' ∧ Same0 w w'):=fun ww x c hk hp w' hw=>⟨x,c,rfl,hp,by rw [hw];exact (k0.trans' hk).trans (put4_kept _ _ _ _ _ _ _) (fun i hi e=>by omega)⟩
 have HB:Hid (∀ ww,Same0 W0 ww→ww.heap[w.heap.size+1]? = some (.cells #[.bool false,.int .i64 0,.int .i64 0,.int .i64 0] 148 (0,0))):=fun ww hk=>hk.at0 h1
 have hs0:=hs.same k0
 have p0:=p.same k0
 have hx0:=hx.same k0
 have q0:=HB.out W0 (Kept.refl _ _)
 obtain ⟨b0,b1,b2,b3⟩:=boxT4 q0
 obtain ⟨g0,g1,g2,g3⟩:=freeT4 q0
 clear hs p hx h0 h1 q0
 by_cases hs1:0≤s
 ·by_cases hs2:s<(L.length:Int)
  ·obtain ⟨i,rfl⟩:∃ i:Nat,s=(i:Int):=⟨s.toNat,by omega⟩
   have C:=newT_yes hs0 i (by omega)
   have HP:Hid (PtR L N z ((i:Int),xs) (tgT L (i:Int)) 0):=.inl ⟨hs1,hs2,rfl,rfl⟩
   generalize tgT L (i:Int)=x at *
   clear hs0 p0 hx0 b0 b1 b2 b3 g0 g1 g2 g3
   go_enter Tryz.func83,Tryz.ntmps83
   go_upto_region 1 with fail
   rw [← hW0]
   clear hW0
   go_wp2_with (first | (go_at_call 77;refine C.mono ?_;rintro e w2 ⟨rfl,k2⟩;obtain ⟨b0,b1,b2,b3⟩:=boxT4 (HB.out w2 k2);obtain ⟨g0,g1,g2,g3⟩:=freeT4 (HB.out w2 k2);simp only [tgV]))
   exact bodyPost_ret (v:=.tuple #[tgV x,.int .i64 0]) (by simp [results,Tryz.results83,go_sem,b0,b1,b2,b3,tgV]) rfl (FIN.out w2 x 0 k2 HP.out _ rfl)
  ·have C:=newT_no hs0 s (.inr (by omega))
   have HP:Hid (PtR L N z (s,xs) (true,s,0,0) 14):=.inr (.inl ⟨by show _≤s;omega,rfl,rfl⟩)
   clear hs0 p0 hx0 b0 b1 b2 b3 g0 g1 g2 g3 hs2
   go_enter Tryz.func83,Tryz.ntmps83
   go_upto_region 1 with fail
   rw [← hW0]
   clear hW0
   go_wp2_with (first | (go_at_call 77;refine C.mono ?_;rintro e w2 ⟨rfl,k2⟩;obtain ⟨b0,b1,b2,b3⟩:=boxT4 (HB.out w2 k2);obtain ⟨g0,g1,g2,g3⟩:=freeT4 (HB.out w2 k2);simp only [tgV]))
   exact bodyPost_ret (v:=.tuple #[tgV (true,s,0,0),.int .i64 14]) (by simp [results,Tryz.results83,go_sem,b0,b1,b2,b3,tgV]) rfl (FIN.out w2 (true,s,0,0) 14 k2 HP.out _ rfl)
 ·by_cases hs2:s < -1
  ·have HP:Hid (PtR L N z (s,xs) (false,0,0,0) 1):=.inr (.inr (.inl ⟨hs2,rfl,rfl⟩))
   have CC:Calls Tryz.prog 83 #[.pointer (some ⟨sb,0,none⟩),.agg #[.int .i64 s,.slice ao xs.length cap],.iface 67 (.agg #[.pointer (some ⟨h,0,none⟩)]),.int .i64 z] w fun e w' => e=.returned (.tuple #[tgV (false,0,0,0),.int .i64 1])∧Same0 w w' := by
    have K4:Hid (Same0 w (put4 W0 (w.heap.size+1) 0 (.bool false) (.int .i64 0) (.int .i64 0) (.int .i64 0))):=k0.trans (put4_kept _ _ _ _ _ _ _) (fun i hi e=>by omega)
    clear hs0 p0 hx0 HP FIN HB k0 hs1
    go_enter Tryz.func83,Tryz.ntmps83
    go_upto_region 1 with fail
    rw [← hW0]
    clear hW0
    go_wp2
    exact bodyPost_ret (v:=.tuple #[tgV (false,0,0,0),.int .i64 1]) (by simp [results,Tryz.results83,go_sem,b0,b1,b2,b3,tgV]) rfl ⟨rfl,K4.out⟩
   refine CC.mono ?_
   rintro e w' ⟨rfl,k⟩
   exact ⟨_,_,rfl,HP.out,k⟩
  ·obtain rfl:s = -1:=by omega
   have C:=along_any (cap:=cap) p0 z hx0 hm
   clear hs0 p0 hx0 b0 b1 b2 b3 g0 g1 g2 g3 hs1 hs2
   go_enter Tryz.func83,Tryz.ntmps83
   go_upto_region 1 with fail
   rw [← hW0]
   clear hW0
   go_upto_region 6 with (first | (go_at_call 100;refine C.mono ?_;rintro e w2 ⟨y,rfl,hy,k2⟩))
   obtain ⟨b0,b1,b2,b3⟩:=boxT4 (HB.out w2 k2)
   obtain ⟨g0,g1,g2,g3⟩:=freeT4 (HB.out w2 k2)
   by_cases hy1:y = -1
   ·subst hy1
    have HP:Hid (PtR L N z (-1,xs) (false,0,0,0) 112):=.inr (.inr (.inr (.inl ⟨rfl,hy,rfl,rfl⟩)))
    go_wp2
    exact bodyPost_ret (v:=.tuple #[tgV (false,0,0,0),.int .i64 112]) (by simp [results,Tryz.results83,go_sem,b0,b1,b2,b3,tgV]) rfl (FIN.out w2 (false,0,0,0) 112 k2 HP.out _ rfl)
   ·have HP:Hid (PtR L N z (-1,xs) (false,0,0,y) 0):=.inr (.inr (.inr (.inr ⟨rfl,y,hy,hy1,rfl,rfl⟩)))
    have d1:(y == -1)=false:=by simpa using hy1
    go_wp2
    exact bodyPost_ret (v:=.tuple #[tgV (false,0,0,y),.int .i64 0]) (by simp [results,Tryz.results83,go_sem,b0,b1,b2,b3,tgV]) rfl (FIN.out w2 (false,0,0,y) 0 k2 HP.out _ rfl)
set_option maxHeartbeats 2000000 in
theorem nothing_sym (k:Int) (w:World):Calls Tryz.prog 84 #[.int .i64 k,.iface 40 (.int .i64 14)] w fun e w' => ∃ v,e=.returned v∧FtAt w.heap.size w' v 132 k 14∧Same0 w w' := by
 obtain ⟨W0,hW0⟩:∃ W0,W0=w.alloc (.cells #[.int .i64 132,.int .i64 k,.nilIface] 99):=⟨_,rfl⟩
 have k0:Same0 w W0:=by rw [hW0];exact (Kept.refl _ w).alloc _
 have h0:W0.heap[w.heap.size]? = some (.cells #[.int .i64 132,.int .i64 k,.nilIface] 99 (0,0)):=by rw [hW0];exact heap_alloc_new w _
 have C:=is_one 14 14 W0
 have f2:=frozenAt h0 2
 have c2:W0.cell? ⟨w.heap.size,2,none⟩=some .nilIface:=cellAt h0 2
 have e1:((14:Int) == 14)=true:=by decide
 rw [e1] at C
 have HF:Hid (FtAt w.heap.size (W0.setCell ⟨w.heap.size,2,none⟩ (.iface 40 (.int .i64 14))) (.iface 97 (.pointer (some ⟨w.heap.size,0,none⟩))) 132 k 14∧Same0 w (W0.setCell ⟨w.heap.size,2,none⟩ (.iface 40 (.int .i64 14)))):=by
  refine ⟨⟨w.heap.size,rfl,Nat.le_refl _,?_⟩,?_⟩
  ·have:=setAt h0 2 (.iface 40 (.int .i64 14))
   simpa [whyV] using this
  ·exact k0.trans (Kept.setCell (S:=fun q=>q=w.heap.size) (Kept.refl _ _) (p:=⟨w.heap.size,2,none⟩) (fun _=>rfl) _) (fun i hi e=>by omega)
 clear h0 k0
 go_enter Tryz.func84,Tryz.ntmps84
 go_upto_region 2 with fail
 rw [← hW0]
 clear hW0
 go_wp2_with (first | (go_at_call 101;refine C.mono ?_;rintro e w' ⟨rfl,rfl⟩))
 go_ret
 exact ⟨_,rfl,HF.out.1,HF.out.2⟩
set_option maxHeartbeats 2000000 in
theorem nothing_else (k e0:Int) (he:e0≠14) (w:World):Calls Tryz.prog 84 #[.int .i64 k,.iface 40 (.int .i64 e0)] w fun e w' => ∃ v,e=.returned v∧FtAt w.heap.size w' v 132 k 0∧Same0 w w' := by
 obtain ⟨W0,hW0⟩:∃ W0,W0=w.alloc (.cells #[.int .i64 132,.int .i64 k,.nilIface] 99):=⟨_,rfl⟩
 have k0:Same0 w W0:=by rw [hW0];exact (Kept.refl _ w).alloc _
 have h0:W0.heap[w.heap.size]? = some (.cells #[.int .i64 132,.int .i64 k,.nilIface] 99 (0,0)):=by rw [hW0];exact heap_alloc_new w _
 have C:=is_one e0 14 W0
 have e1:(e0 == 14)=false:=by simpa using he
 rw [e1] at C
 have HF:Hid (FtAt w.heap.size W0 (.iface 97 (.pointer (some ⟨w.heap.size,0,none⟩))) 132 k 0∧Same0 w W0):=⟨⟨w.heap.size,rfl,Nat.le_refl _,h0⟩,k0⟩
 clear h0 k0 he e1
 go_enter Tryz.func84,Tryz.ntmps84
 go_upto_region 2 with fail
 rw [← hW0]
 clear hW0
 go_wp2_with (first | (go_at_call 101;refine C.mono ?_;rintro e w' ⟨rfl,rfl⟩))
 go_ret
 exact ⟨_,rfl,HF.out.1,HF.out.2⟩
theorem nothing_any (k e0:Int) (w:World):Calls Tryz.prog 84 #[.int .i64 k,.iface 40 (.int .i64 e0)] w fun e w' => ∃ v,e=.returned v∧FtAt w.heap.size w' v 132 k (if e0=14 then 14 else 0)∧Same0 w w' := by
 by_cases he:e0=14
 ·subst he;exact nothing_sym k w
 ·rw [if_neg he];exact nothing_else k e0 he w
end Go.Proofs.YtpimndkhoalaeaaGreat
