import Derived.WalkKit
import Derived.Test.YtmjgnfkbnofjoaaGreatDoorRN07
import Derived.Sort.CutIn
import Derived.Maps.OwnIn
namespace Go.Proofs.YtmjgnfkbnofjoaaGreatDoor
open Go.Proofs.Tryz
set_option maxRecDepth 100000
set_option linter.unusedVariables false
set_option maxHeartbeats 32000000
variable {a:Act} {ops:Array Oper} {Q:Exit->Act->World->Prop} {k r s:Int} {P:List (List Int)} {p t xs:List Int} {rest:List Oper} {R:List Ru} {L:List Sym} {u0 u1 u2 us:List Value} {Bn N ac base bc bs c c2 cap cb g i l m0 m1 m2 n pc:Nat} {q:Nat->Bool} {S:Nat->Prop} {o':Obj} {o:Oper} {a0 a1 a2 ao bo po ro:Option Addr} {v:Value} {W X w w' w0 w1 w2 wx:World}
section
open Go.RowKit
section
variable {F : Fence} {n : Nat} {P : Program}
def Zjg (F:Fence) (n:Nat) (P:Program) (gf:Nat) (lb:Array Value) (B N:Nat) (Lk:Nat->Array Value->World->Prop) (w:World):Prop:=
 ∀ (l:Nat) (J:Nat->World->Prop) (Z:World->Prop) (W:World),Za w W->(∀ k X Y,J k X->Za X Y->J k Y)->(∀ X Y,Z X->Za X Y->Z Y) ->
  (∀ k vs X,k<N->J k X->Lk k vs X->YieldAt F (n-1) P l vs X λ e Y=>(e=.returned (.bool true)∧J (k+1) Y∧Below B X Y)∨(e=.returned (.bool false)∧Z Y))->J 0 W ->
  CallsIn F n P gf (#[.func (.yield l) #[] #[]]++lb) W λ e Y=>(∃ v,e=.returned v)∧(J N Y∨Z Y)
theorem Zaj {g:Operand} {ps:Array Tmp} {assign body:Code}
  (hro:F.round=none) (h1:1<=n) {gf:Nat} {lb:Array Value} (hg:a.eval g=.func (.func gf) #[] lb) (hFg:F.fn gf) (eg:∀ args w,(callFunc gf args).run P w=.ok (.enter gf args) w)
  {Lk:Nat->Array Value->World->Prop} {B:Nat} (hB:B<=w.heap.size) (hh:Zjg F (n-1) P gf lb B N Lk w) (hsz:∀ k vs W,Lk k vs W->vs.size=ps.size)
  (J:Nat->World->Prop) (hJ:∀ k X Y,J k X->Za X Y->J k Y) (hJp:∀ k X l o o', J k X->X.heap[l]? = some o->o.isCells=false->w.heap.size<=l->J k (X.putObj l o')) (h0:J 0 w) (Z:World->Prop) (hZ:∀ X Y,Z X->Za X Y->Z Y) (hZp:∀ X l o o', Z X->X.heap[l]? = some o->o.isCells=false->w.heap.size<=l->Z (X.putObj l o'))
  (hround:∀ (l k:Nat) (vs:Array Value) (W:World),k<N->w.heap.size<=l->l<W.heap.size->J k W->Lk k vs W ->
   assign.wpIn (F.inRound l) (n-1-1) P (Exit.then (λ a' Wa=>Rnd w.heap.size B W Wa∧∀ o o', Wa.heap[l]? = some o->o.isCells=false->o'.isCells=false ->
    body.wpIn (F.inRound l) (n-1-1) P (λ e _ Y=>(e=.normal∧Rnd w.heap.size B (Wa.putObj l o') Y∧J (k+1) Y)∨(e=.ret∧KeepsFrom w.heap.size (Wa.putObj l o') Y∧Z Y)) a' (Wa.putObj l o')) (λ _ _ _=>False))
    { tmps:=(ps.zip vs).foldl (λ t (p,v)=>t.setIfInBounds p v) a.tmps,defers:=[] } W)
  (hdone:∀ (D:Nat) (W:World),w.heap.size<=D->J N W->W.heap[D]? = some (.deferred (some []))->Q .normal { a with defers:={ target:=.collected D,args:=#[] } :: a.defers } W)
  (hstop:∀ (D:Nat) (W:World),w.heap.size<=D->Z W->W.heap[D]? = some (.deferred (some []))->Code.wpIn F n P .ret Q { a with defers:={ target:=.collected D,args:=#[] } :: a.defers } W) :
  (Code.rangeFunc g ps assign body).wpIn F n P Q a w:=by
 refine wpIn_rangeFunc λ fn hfn=>?_;rw [hro];have hen:=run_enterLoop_outer (P:=P) (w:=w) fn a.tmps ps assign body;obtain ⟨st,hst⟩:∃ st:LoopState->Option Code->Loop,st=λ s p=>{ state:=s,pending:=p,fn:=fn,tmps:=a.tmps,params:=ps,assign:=assign,body:=body,defers:=w.heap.size }:=⟨_,rfl⟩;obtain ⟨W1,hW1⟩:∃ W1,W1=(w.alloc (.deferred (some []))).alloc (.loop (st .ready none)):=⟨_,rfl⟩;have hs1:Za w W1:=by rw [hW1];exact ((Zc.refl _ w).alloc _).alloc _
 have hd1:W1.heap[w.heap.size]? = some (.deferred (some [])):=by
  rw [hW1];exact (Below.heap_alloc _ _ _ (by simp)).trans (World.alloc_heap_new w _)
 have hl1:W1.heap[w.heap.size+1]? = some (.loop (st .ready none)):=by
  have:=World.alloc_heap_new (w.alloc (.deferred (some []))) (.loop (st .ready none));rw [hW1];simpa using this
 refine ⟨w.heap.size+1,[{ target:=.collected w.heap.size,args:=#[] }],W1, { target:=.fn (.func gf) lb,args:=#[.func (.yield (w.heap.size+1)) #[] #[]] },W1,gf, #[.func (.yield (w.heap.size+1)) #[] #[]]++lb,W1,?_,?_,?_,?_,λ _=>h1,?_⟩
 ·rw [hen,hW1,hst]
 ·simp only [resolve,hg];simp [go_sem]
 ·intro f' hf'; simp [Target.leads] at hf'; subst hf'; exact hFg
 ·simp [invoke,go_sem,eg]
 ·have hcall:=hh (w.heap.size+1) (λ k X=>J k X∧X.heap[w.heap.size+1]? = some (.loop (st .ready none))∧X.heap[w.heap.size]? = some (.deferred (some []))) (λ X=>Z X∧X.heap[w.heap.size+1]? = some (.loop (st .done (some .ret)))∧X.heap[w.heap.size]? = some (.deferred (some []))) W1 hs1
   (λ k X Y h hk=>⟨hJ k X Y h.1 hk,hk.at0 h.2.1,hk.at0 h.2.2⟩) (λ X Y h hk=>⟨hZ X Y h.1 hk,hk.at0 h.2.1,hk.at0 h.2.2⟩) ?_ ⟨hJ 0 _ _ h0 hs1,hl1,hd1⟩
  ·refine hcall.mono ?_
   rintro e Y ⟨⟨v,rfl⟩,⟨hj,hl,hd⟩ | ⟨hz,hl,hd⟩⟩
   rotate_left
   ·have hend:=run_endLoop (P:=P) hl (by rw [hst];simp)
    rw [hst] at hend;exact ⟨some .ret,_,hend,hstop w.heap.size _ (Nat.le_refl _) (hZp _ _ _ _ hz hl rfl (by omega)) ((World.putObj_heap_other (by omega)).trans hd)⟩
   have hend:=run_endLoop (P:=P) hl (by rw [hst];simp);rw [hst] at hend;exact ⟨none,_,hend,hdone w.heap.size _ (Nat.le_refl _) (hJp _ _ _ _ _ hj hl rfl (by omega)) ((World.putObj_heap_other (by omega)).trans hd)⟩
  ·rintro k vs X hk ⟨hj,hl,hd⟩ hlk
   have hy:=run_yield (P:=P) (args:=vs) hl (by rw [hst];exact hsz k vs X hlk);rw [hst] at hy;have hlX:w.heap.size+1<X.heap.size:=(Array.getElem?_eq_some_iff.1 hl).1;refine ⟨fn,_,assign,body,hy,roundIn_of_wpIn hfn (wpIn_mono (hround (w.heap.size+1) k vs X hk (by omega) hlX hj hlk) ?_)⟩;rintro e a' Wa hp;cases e with
   | normal=>
    obtain ⟨hr,hb⟩:=hp;have hla:=hr.recs.same _ _ (by omega) hl rfl;have hda:=hr.recs.same _ _ (Nat.le_refl _) hd rfl;have hlt:w.heap.size+1<Wa.heap.size:=(Array.getElem?_eq_some_iff.1 hla).1;refine ⟨_,run_beginRound hla (by rw [hst]),wpIn_mono (hb _ (.loop { st .ready none with state:=.busy }) hla rfl rfl) ?_⟩;rintro e2 a2 Y (⟨rfl,hr2,hj2⟩ | ⟨rfl,hr2,hz2⟩)
    rotate_left
    ·have hl2:=hr2.same _ _ (by omega) (World.putObj_heap_same (o:=.loop { st .ready none with state:=.busy }) hlt) rfl
     have hd2:=hr2.same _ _ (Nat.le_refl _) ((World.putObj_heap_other (o:=.loop { st .ready none with state:=.busy }) (by omega)).trans hda) rfl;have hend:=run_endRound (P:=P) (some .ret) hl2;rw [hst] at hend;refine ⟨_,_,hend,.inr ⟨rfl,hZp _ _ _ _ hz2 hl2 rfl (by omega),?_,(World.putObj_heap_other (by omega)).trans hd2⟩⟩;rw [hst];exact World.putObj_heap_same (Array.getElem?_eq_some_iff.1 hl2).1
    have hl2:=hr2.recs.same _ _ (by omega) (World.putObj_heap_same (o:=.loop { st .ready none with state:=.busy }) hlt) rfl;have hd2:=hr2.recs.same _ _ (Nat.le_refl _) ((World.putObj_heap_other (o:=.loop { st .ready none with state:=.busy }) (by omega)).trans hda) rfl;have hend:=run_endRound (P:=P) none hl2;rw [hst] at hend;refine ⟨_,_,hend,.inl ⟨rfl,⟨hJp _ _ _ _ _ hj2 hl2 rfl (by omega),?_,(World.putObj_heap_other (by omega)).trans hd2⟩,?_⟩⟩
    ·rw [hst];exact World.putObj_heap_same (Array.getElem?_eq_some_iff.1 hl2).1
    ·exact (hr.below.trans (Zbv hla (by omega))).trans (hr2.below.trans (Zbv hl2 (by omega)))
   | _=>exact hp.elim
end
end
section
open Go.RowKit Go.Shelf
attribute [local go_sem] Oper.semAt_some
theorem Zdh {b:Nat} {sv:Value} {mr:Option Nat} (hs:Yc w b L sv mr) (hwx:Za w wx) (hbx:wx.cell? ⟨Bn,0,none⟩=some (.pointer (some ⟨b,0,none⟩))) (hn:1<=n) :
  Zjg Fence.wide n prog 51 #[.pointer (some ⟨Bn,0,none⟩)] w.heap.size L.length (SyLk L) wx:=by
 intro l J Z W hW hJ hZ hY h0;have hFn:∀ k,Fence.wide.fn k:=λ _=>trivial;have KW:Za w W:=hwx.trans' hW;have s1:W.cell? ⟨Bn,0,none⟩=some (.pointer (some ⟨b,0,none⟩)):=(hW.cell (p:=⟨Bn,0,none⟩) (World.block_lt_of_cell? _ _ hbx) (λ f=>f)).trans hbx;obtain ⟨ao,cap,rfl⟩:=hs.sv;have hlen:=hs.len;have HS:Hid (∀ X,Za w X->Yc X b L (.slice ao L.length cap) mr):=λ X hk=>hs.kept hk (λ _ _ f=>f);have c0:W.cell? ⟨b,0,none⟩=some (.slice ao L.length cap):=Zb (HS.out W KW).blk 0;have hpn:∀ ww:World,(binOp .eql 41 (.pointer (some ⟨b,0,none⟩)) (.pointer none)).run prog ww=.ok (.bool false) ww:=λ ww=>by kernel_rfl
 clear hs;refine callsIn_of_wp func51 rfl trivial ?_ rfl;simp only [ntmps51,List.size_toArray,List.length_cons,List.length_nil,Nat.reduceAdd,Nat.reduceSub,Array.replicate_succ,Array.replicate_zero,List.push_toArray,List.append_toArray,List.nil_append,List.cons_append]
 gi_wp2_with fail
 gi_loopw [12] (λ i wr=>∃ k:Nat,k<=L.length∧i=.int .i64 k∧Za w wr∧J k wr) (λ i _=>L.length-(intOf i).toNat)
 case atStart=>exact ⟨0,Nat.zero_le _,rfl,KW,h0⟩
 case round=>
  clear s1 c0;obtain ⟨k,hk,rfl,hs,hj⟩:=hrel
  by_cases hlt:k<L.length
  ·have hsr:=HS.out wr hs
   obtain ⟨g,rfl,hg,x0,x1,x2⟩:=hsr.sym hlt;have i1:(0:Int)<=(k:Int):=by omega
   have i2:(k:Int)<(L.length:Int):=by omega
   have ka:Za wr (wr.alloc (.cells #[.string L[k].name,.int .i64 L[k].ar,.bool L[k].df] 60)):=Zal9;obtain ⟨fn,tmps,asg,bdy,hy,hR⟩:=hY k _ _ hlt (hJ k _ _ hj ka) ⟨hlt,rfl⟩;have hs3:=hs.trans' ka
   gi_wp2_with fail
   refine hR.mono ?_;rintro e w4 (⟨rfl,hj4,hb4⟩ | ⟨rfl,hz4⟩)
   rotate_left
   ·clear hR hy hsr
    gi_wp2_with fail
    go_returns
    exact ⟨⟨_,rfl⟩,.inr hz4⟩
   have hs4:Za w w4:=Za.of_below (hs3.below.trans hb4);clear hR hy hsr
   gi_wp2_with fail
   go_roundw
   case rel=>exact ⟨k+1,by omega,by go_num,hs4,hj4⟩
   case measure=>simp [intOf];omega
  ·obtain rfl:k=L.length:=by omega
   gi_wp2_with fail
   go_end0
   exact ⟨⟨_,rfl⟩,.inl hj⟩
def Zw4 (w:World) (ro:Option Addr) (R:List Ru):Prop:=
 R=[]∨∃ q,ro=some ⟨q,0,none⟩∧q<w.heap.size∧∀ i (h:i<R.length),∃ g c g' c', w.cell? ⟨q,i * 3,none⟩=some (.slice (some ⟨g,0,none⟩) R[i].1.length c)∧w.cell? ⟨q,i * 3+1,none⟩=some (.slice (some ⟨g', 0,none⟩) R[i].2.length c')∧w.cell? ⟨q,i * 3+2,none⟩=some (.int .i64 (i:Int))∧Yu w g c R[i].1∧Yu w g' c' R[i].2
theorem Zw4.same (h:Zw4 w ro R) (hk:Za w w'):Zw4 w' ro R:=by
 rcases h with h | ⟨q,h1,h2,h3⟩
 ·exact .inl h
 ·refine .inr ⟨q,h1,Nat.lt_of_lt_of_le h2 hk.size,λ i hi=>?_⟩
  obtain ⟨g,c,g', c', a1,a2,a3,a4,a5⟩:=h3 i hi;exact ⟨g,c,g', c', (hk.cell (p:=⟨q,i * 3,none⟩) h2 (λ f=>f)).trans a1,(hk.cell (p:=⟨q,i * 3+1,none⟩) h2 (λ f=>f)).trans a2,(hk.cell (p:=⟨q,i * 3+2,none⟩) h2 (λ f=>f)).trans a3,a4.same hk,a5.same hk⟩
theorem Y0:Zc (λ k=>k=l) X (X.putObj l o'):=⟨rfl,rfl,rfl,by simp,λ k _ hn=>World.putObj_heap_other hn⟩
def NuLk (R:List Ru) (k:Nat) (vs:Array Value) (W:World):Prop:=
 ∃ hk:k<R.length,∃ g c g' c', vs = #[.agg #[.slice (some ⟨g,0,none⟩) R[k].1.length c,.slice (some ⟨g', 0,none⟩) R[k].2.length c', .int .i64 (k:Int)]]∧Yu W g c R[k].1∧Yu W g' c' R[k].2
theorem Zp2 {rc:Nat} (hs:Zw4 w ro R) (hle:R.length<=100) (hwx:Za w wx) (hbx:wx.cell? ⟨Bn,0,none⟩=some (.slice ro R.length rc)) (hn:1<=n) :
  Zjg Fence.wide n prog 197 #[.pointer (some ⟨Bn,0,none⟩)] w.heap.size R.length (NuLk R) wx:=by
 intro l J Z W hW hJ hZ hY h0;have hFn:∀ k,Fence.wide.fn k:=λ _=>trivial;have KW:Za w W:=hwx.trans' hW;have s1:W.cell? ⟨Bn,0,none⟩=some (.slice ro R.length rc):=(hW.cell (p:=⟨Bn,0,none⟩) (World.block_lt_of_cell? _ _ hbx) (λ f=>f)).trans hbx;have HS:Hid (∀ X,Za w X->Zw4 X ro R):=λ X hk=>hs.same hk;clear hs;refine callsIn_of_wp func197 rfl trivial ?_ rfl;simp only [ntmps197,List.size_toArray,List.length_cons,List.length_nil,Nat.reduceAdd,Nat.reduceSub,Array.replicate_succ,Array.replicate_zero,List.push_toArray,List.append_toArray,List.nil_append,List.cons_append]
 gi_wp2_with fail
 gi_loopw [7] (λ i wr=>∃ k:Nat,k<=R.length∧i=.int .i64 k∧Za w wr∧J k wr) (λ i _=>R.length-(intOf i).toNat)
 case atStart=>exact ⟨0,Nat.zero_le _,rfl,KW,h0⟩
 case round=>
  clear s1;obtain ⟨k,hk,rfl,hs,hj⟩:=hrel
  by_cases hlt:k<R.length
  ·obtain ⟨q,rfl,hq,g,c,g', c', x0,x1,x2,t1,t2⟩:∃ q,ro=some ⟨q,0,none⟩∧q<wr.heap.size∧∃ g c g' c', wr.cell? ⟨q,k * 3,none⟩=some (.slice (some ⟨g,0,none⟩) R[k].1.length c)∧wr.cell? ⟨q,k * 3+1,none⟩=some (.slice (some ⟨g', 0,none⟩) R[k].2.length c')∧wr.cell? ⟨q,k * 3+2,none⟩=some (.int .i64 (k:Int))∧Yu wr g c R[k].1∧Yu wr g' c' R[k].2:=by
    rcases HS.out wr hs with e | ⟨q,e,hq,h3⟩
    ·rw [e] at hlt;simp at hlt
    ·exact ⟨q,e,hq,h3 k hlt⟩
   have i1:(0:Int)<=(k:Int):=by omega
   have i2:(k:Int)<(R.length:Int):=by omega
   have ka:Za wr (wr.alloc (.cells #[.slice (some ⟨g,0,none⟩) R[k].1.length c,.slice (some ⟨g', 0,none⟩) R[k].2.length c', .int .i64 (k:Int)] 144)):=Zal9;obtain ⟨fn,tmps,asg,bdy,hy,hR⟩:=hY k _ _ hlt (hJ k _ _ hj ka) ⟨hlt,g,c,g', c', rfl,t1.same ka,t2.same ka⟩;have hs3:=hs.trans' ka;clear t1 t2
   gi_wp2_with fail
   refine hR.mono ?_;rintro e w4 (⟨rfl,hj4,hb4⟩ | ⟨rfl,hz4⟩)
   rotate_left
   ·clear hR hy
    gi_wp2_with fail
    go_returns
    exact ⟨⟨_,rfl⟩,.inr hz4⟩
   have hs4:Za w w4:=Za.of_below (hs3.below.trans hb4);clear hR hy
   gi_wp2_with fail
   go_roundw
   case rel=>exact ⟨k+1,by omega,by go_num,hs4,hj4⟩
   case measure=>simp [intOf];omega
  ·obtain rfl:k=R.length:=by omega
   gi_wp2_with fail
   go_end0
   exact ⟨⟨_,rfl⟩,.inl hj⟩
end
section
open Go.RowKit
attribute [local go_sem ↓] Go.wp_at_zero Go.wp_at_succ
end
def Tr:Nat->Type
 | 0=>Empty
 | n+1=>Int × Int × List Int × List (Int × Tr n)
abbrev Rw:=Int × List Int × List Nat
def Vr (x:Rw) (c:Nat):Int:=x.2.1.getD (x.2.2.getD c 0) (-1)
def Zfd (rows:List Rw) (c:Nat):Bool:=rows.all (λ x=>decide (0<=Vr x c))
def Y6 (rows:List Rw):Nat->Option Nat
 | 0=>none
 | k+1=>match Y6 rows k with
  | some c=>some c
  | none=>if Zfd rows k then some k else none
def Zh4 {α:Type} (l:List α) (c:Nat) (m:List α):List α:=l.take c++m++l.drop (c+1)
def Y4 (L:List Sym) (paths:List (List Int)) (c s:Nat):List (List Int):=Zh4 paths c ((List.range (arN L (s:Int))).map (λ (i:Nat)=>paths.getD c [] ++ [(i:Int)]))
def Je (L:List Sym) (c:Nat) (x:Rw):Rw:=(x.1,x.2.1,Zh4 x.2.2 c (Z8 L x.2.1 (x.2.2.getD c 0)))
def Yj (rows:List Rw) (c:Nat) (s:Int):List Rw:=rows.filter (λ x=>decide (Vr x c=s))
def Zcz {α:Type} (has:Nat->Bool) (g:Nat->Except Int α):Nat->Except Int (List (Int × α))
 | 0=>.ok []
 | k+1=>match Zcz has g k with
  | .error e=>.error e
  | .ok l=>if has k then (match g k with | .error e=>.error e | .ok t=>.ok (l ++ [((k:Int),t)])) else .ok l
def Y5 (L:List Sym):(n:Nat)->List (List Int)->List Rw->Except Int (Tr n)
 | 0,_,_=>.error 0
 | n+1,paths,rows=>
  if rows.length=0 then .ok (3,0,[],[])
  else match Y6 rows paths.length with
   | some c=>(match Zcz (λ s=>decide (0<(Yj rows c (s:Int)).length)) (λ s=>Y5 L n (Y4 L paths c s) ((Yj rows c (s:Int)).map (Je L c))) L.length with
    | .error e=>.error e
    | .ok l=>.ok (2,0,paths.getD c [],l))
   | none=>if rows.length=1 then .ok (1,(rows.headD (0,[],[])).1,[],[]) else .error (rows.headD (0,[],[])).1
def Zc1:List Nat->Nat
 | []=>0
 | a :: l=>a+Zc1 l
theorem Zbb (a b:List Nat):Zc1 (a++b)=Zc1 a+Zc1 b:=by
 induction a with
 | nil=>simp [Zc1]
 | cons x r ih=>simp [Zc1,ih];omega
def wtL (L:List Sym) (t:List Int) (ps:List Nat):Nat:=Zc1 (ps.map (λ p=>Zj L t p-p))
theorem Zom (L:List Sym) (t:List Int) (a b:List Nat):wtL L t (a++b)=wtL L t a+wtL L t b:=by simp [wtL,Zbb]
theorem Zf8:∀ (k p q:Nat),Zs L t k p q->wtL L t (Zq L t k p)=q-p∧∀ x∈Zq L t k p,x<t.length
 | 0,p,q,h=>by
  have:=h.zero;subst this;exact ⟨by simp [Zq,wtL,Zc1],by simp [Zq]⟩
 | k+1,p,q,h=>by
  obtain ⟨h1,h2,h3⟩:=h.succ;obtain ⟨a,b⟩:=Zf8 k _ _ h3;have hle:=h3.le;refine ⟨?_,λ x hx=>?_⟩
  ·show (Zj L t p-p)+wtL L t (Zq L t k (Zj L t p))=_
   rw [a];omega
  ·rcases List.mem_cons.1 (show x∈p :: Zq L t k (Zj L t p) from hx) with rfl | hx
   ·omega
   ·exact b x hx
theorem Zgx (h:IsT L t) {p:Nat} (hp:p<t.length):wtL L t (Z8 L t p)+1=Zj L t p-p∧∀ x∈Z8 L t p,x<t.length:=by
 obtain ⟨_,hk⟩:=(Zs.one h hp).kids;rw [Z9 hp];obtain ⟨a,b⟩:=Zf8 _ _ _ hk;have:=hk.le;exact ⟨by omega,b⟩
structure Ztq (L:List Sym) (n:Nat) (paths:List (List Int)) (rows:List Rw):Prop where
 pos:0<n
 le:rows.length<=100
 few:paths.length<=4000
 len:∀ p∈paths,0<p.length∧p.length+n<=4000
 ok:∀ x∈rows,Zd L x.2.1=0∧x.2.2.length=paths.length∧(∀ p∈x.2.2,p<x.2.1.length)∧wtL L x.2.1 x.2.2<n
theorem Zc3 {rows:List Rw} {x:Rw} (h:x∈Yj rows c s):x∈rows∧Vr x c=s:=by
 simpa [Yj] using h
theorem Xi {α:Type} {l:List α} (h:c<l.length) (d:α):l.getD c d=l[c]:=by simp [List.getD,h]
theorem Za1 {α:Type} {l:List α} (h:c<l.length) (m:List α):(Zh4 l c m).length=l.length-1+m.length:=by
 simp [Zh4];omega
theorem Zn1 {ps:List Nat} (h:c<ps.length) (m:List Nat):wtL L t (Zh4 ps c m)+(Zj L t ps[c]-ps[c])=wtL L t ps+wtL L t m:=by
 have e:ps=ps.take c ++ [ps[c]]++ps.drop (c+1):=by
  rw [List.append_assoc,List.singleton_append,List.getElem_cons_drop,List.take_append_drop]
 have e2:wtL L t ps=wtL L t (ps.take c ++ [ps[c]]++ps.drop (c+1)):=by rw [<- e]
 rw [e2];have e3:wtL L t [ps[c]]=Zj L t ps[c]-ps[c]:=by simp [wtL,Zc1]
 simp only [Zh4,Zom,e3];omega
theorem Zcd {rows:List Rw}:∀ {k c:Nat},Y6 rows k=some c->c<k∧Zfd rows c=true
 | 0,c,h=>by cases h
 | k+1,c,h=>by
  unfold Y6 at h;cases hk:Y6 rows k with
  | some c' =>
   rw [hk] at h;cases h;have:=Zcd hk;exact ⟨by omega,this.2⟩
  | none=>
   rw [hk] at h;simp only at h;split at h
   ·cases h;exact ⟨by omega,by assumption⟩
   ·cases h
theorem Zci {x:Rw} (h1:c<x.2.2.length) (h2:x.2.2[c]<x.2.1.length):Vr x c=x.2.1[x.2.2[c]]:=by
 unfold Vr;rw [Xi h1,Xi h2]
theorem Ztq.kid {paths:List (List Int)} {rows:List Rw} (h:Ztq L (n+1) paths rows) {s:Nat} (hc:c<paths.length) (hs:s<L.length) (ha:arN L (s:Int)<=6) (hne:Yj rows c (s:Int)≠[]):Ztq L n (Y4 L paths c s) ((Yj rows c (s:Int)).map (Je L c)):=by
 have key:∀ x∈Yj rows c (s:Int),Zd L x.2.1=0∧(Je L c x).2.2.length=(Y4 L paths c s).length∧(∀ p∈(Je L c x).2.2,p<x.2.1.length)∧wtL L x.2.1 (Je L c x).2.2<n:=by
  intro x hx;obtain ⟨hx1,hx2⟩:=Zc3 hx;obtain ⟨k1,k2,k3,k4⟩:=h.ok x hx1;have hc' : c<x.2.2.length:=by omega
  have hp:=k3 _ (List.getElem_mem hc');have hT:=(Ze.1 k1).2.2;obtain ⟨a1,a2⟩:=Zgx hT hp;rw [Zci hc' hp] at hx2;have hal:(Z8 L x.2.1 x.2.2[c]).length=arN L (s:Int):=by rw [Z9 hp,Zk,hx2]
  refine ⟨k1,?_,?_,?_⟩
  ·simp only [Je,Y4]
   rw [Xi hc', Za1 hc', Za1 hc,hal];simp;omega
  ·intro p hp'
   simp only [Je] at hp';rw [Xi hc'] at hp'
   rcases List.mem_append.1 hp' with q | q
   ·rcases List.mem_append.1 q with q | q
    ·exact k3 p (List.mem_of_mem_take q)
    ·exact a2 p q
   ·exact k3 p (List.mem_of_mem_drop q)
  ·simp only [Je]
   rw [Xi hc'];have:=Zn1 (L:=L) (t:=x.2.1) hc' (Z8 L x.2.1 x.2.2[c]);omega
 obtain ⟨x0,hx0⟩:=List.exists_mem_of_ne_nil _ hne;refine ⟨?_,?_,?_,?_,?_⟩
 ·have:=(key x0 hx0).2.2.2;omega
 ·rw [List.length_map]
  exact Nat.le_trans (List.length_filter_le _ _) h.le
 ·obtain ⟨k1,k2,k3,k4⟩:=key x0 hx0
  have hT:=(Ze.1 k1)
  have hb:∀ (ps:List Nat),(∀ p∈ps,p<x0.2.1.length)->ps.length<=wtL L x0.2.1 ps:=by
   intro ps
   induction ps with
   | nil=>simp
   | cons p r ih=>
    intro hp;have:=ih (λ q hq=>hp q (List.mem_cons_of_mem _ hq));have e:=Xs hT.2.2 (hp p (List.mem_cons_self ..));show r.length+1<=(Zj L x0.2.1 p-p)+wtL L x0.2.1 r;omega
  have hl:=hb _ k3
  have hn:n<=3999:=by
   have:=h.len _ (List.getElem_mem hc);omega
  omega
 ·intro p hp
  have hpc:=h.len _ (List.getElem_mem hc);simp only [Y4,Zh4] at hp
  rcases List.mem_append.1 hp with q | q
  ·rcases List.mem_append.1 q with q | q
   ·have:=h.len p (List.mem_of_mem_take q);omega
   ·obtain ⟨i,_,rfl⟩:=List.mem_map.1 q
    rw [Xi hc];simp;omega
  ·have:=h.len p (List.mem_of_mem_drop q);omega
 ·intro y hy
  obtain ⟨x,hx,rfl⟩:=List.mem_map.1 hy;exact key x hx
section
open Go.RowKit
attribute [local go_sem ↓] Go.wp_at_zero Go.wp_at_succ
structure Src (w:World) (ao:Option Addr) (m c:Nat) (us:List Value):Prop where
 len:us.length=m
 one:∀ u∈us,u.oneCell' = true
 at' : ∀ ad,ao=some ad->∀ j u,us[j]? = some u->w.cell? (ad.add j)=some u
 nul:ao=none->c=0∧us=[]
theorem Src.same {m:Nat} (h:Src w ao m c us) (hk:Za w w'):Src w' ao m c us:=
 ⟨h.len,h.one,λ ad e j u hj=>by
  have:=h.at' ad e j u hj
  exact (hk.cell (World.block_lt_of_cell? w _ this) (λ f=>f)).trans this,h.nul⟩
theorem Src.nil (w:World) (ao:Option Addr) (c:Nat) (h:ao=none->c=0):Src w ao 0 c []:=⟨rfl,by simp,λ ad e j u hj=>by simp at hj,λ e=>⟨h e,rfl⟩⟩
theorem Zio:(prog.info? 3).map (λ i=>(i.zero,i.size,i.bytes))=some (some (.int .i64 0),1,8):=by kernel_rfl
theorem V6 (hgd:o.guard=none) (s x:Operand)
  (ho:o.op=.call { callee:=.builtin .append,args:=#[s,x],argTypes:=#[51,51] })
  (base N:Nat) (vs:List Value) (v:Value) (hs:a.eval s=v) (hr:w0.ownsRow base 3 1 v N vs) (lo:Option Addr) (m lc:Nat) (us:List Value) (hx:a.eval x=.slice lo m lc) (hc:Src w0 lo m lc us) (hb:base<=w0.heap.size) (hsz:N+m<=20000)
  (h:∀ v' w', w'.ownsRow base 3 1 v' (N+m) (vs++us)->Zc (λ k=>v.ownBlock=some k) w0 w' -> wpList prog ops Q rest (a.put o.dst v') w') :
  wpList prog ops Q (o :: rest) a w0:=by
 obtain ⟨i,hi,hz0,hz1,hz2⟩:=info_parts Zio;cases lo with
 | none=>
  obtain ⟨rfl,rfl⟩:=hc.nul rfl;obtain rfl:m=0:=by simpa using hc.len.symm
  refine wpList_append_own_none hgd s x 51 ho base 3 i 1 underlying51 hi v N vs hs hr hx ?_;exact h v w0 (by simpa using hr) (Zc.refl _ _)
 | some ad=>
  refine wpList_append_own _ hgd s x 51 ho base 3 i _ 1 8 underlying51 hi hz0 hz1 hz2 rfl (by decide) v N vs hs hr ad m lc us hx (by rw [hc.len];omega) (hc.at' ad rfl) hc.one (by unfold maxLen;omega) (by omega) hb ?_;intro v' w' hown hgrow _;exact h v' w' hown (Zc.grown (Zc.refl _ w0) hgrow (λ _ e _=>e))
theorem Zjw (w:World) (N:Nat) (hN:N<=20000) :
  Calls prog 219 #[.slice none 0 0,.int .i64 (N:Int)] w λ e w' => ∃ v,e=.returned v∧w'.ownsRow w.heap.size 3 1 v 0 []∧Za w w' := by
 have i0:¬ (N:Int)<0:=by omega
 by_cases h0:N=0
 ·subst h0
  go_enter func219,ntmps219
  go_wp2;go_ret;exact ⟨_,rfl,World.ownsRow_nil _ _ _ _,Zc.refl _ _⟩
 ·obtain ⟨i,hi,hz0,hz1,hz2⟩:=info_parts Zio
  have i1:(0:Int)<(N:Int):=by omega
  have hrun:=λ ty=>Lib.run_append_nil_zeros (P:=prog) w 51 3 ty 3 i _ .i64 .i64 underlying51 underlying3 hi hz0 N (by omega) (by omega) (by omega) (by rw [hz2];omega);have hge:=grownCap_ge w N 0 3;have hle:=grownCap_le_maxLen w N 0 3 (by unfold maxLen;omega);generalize grownCap w N 0 3=cap at *;obtain ⟨Z,hZ⟩:∃ Z,Z=Builtin.zeroCells (Value.cells (.int .i64 0)) N++Builtin.zeroCells (Value.cells (.int .i64 0)) (cap-N):=⟨_,rfl⟩;rw [<- hZ] at hrun
  have hzs:Z.size=cap * 1:=by
   rw [hZ,Array.size_append,size_zeroCells,size_zeroCells];have:(Value.cells (.int .i64 0)).size=1:=rfl;rw [this];omega
  have HR:Hid ((w.drew.alloc (.cells Z 3)).ownsRow w.heap.size 3 1 (.slice (some ⟨w.heap.size,0,none⟩) 0 cap) 0 []):=⟨rfl,.inr ⟨w.heap.size,cap,Z,rfl,Nat.le_refl _,heap_alloc_new w.drew _,Nat.zero_le _,hle,hzs,by simp⟩⟩;have HK:Hid (Za w (w.drew.alloc (.cells Z 3))):=((Zc.refl _ w).drew).alloc _;clear hZ hzs hi hz0 hz1 hz2 hge hle;have j1:(0:Int)<=(cap:Int):=by omega
  go_enter func219,ntmps219
  go_wp2_with ((at_builtin;refine Lib.wpList_append_run _ rfl _ _ 51 3 rfl _ _ rfl rfl _ _ (hrun _) ?_))
  go_ret;exact ⟨_,rfl,HR.out,HK.out⟩
theorem X4 {vs:List Value} (hk:Za w w1) (hr:w1.ownsRow base 3 1 v N vs) (hb:w.heap.size<=base) (k2:Zc (λ k=>v.ownBlock=some k) w1 w2):Za w w2:=
 Zc.trans hk k2 (λ i hi e=>by have:=(hr.lt i e).1;omega)
theorem Ziy {c0:Nat} {c1:Nat} (hg:w.heap[g]? = some (.cells #[.slice a0 m0 c0,.slice a1 m1 c1] 51 (0,0))) (h0:Src w a0 m0 c0 u0) (h1:Src w a1 m1 c1 u1) (hl:m0+m1<=20000) :
  Calls prog 180 #[.slice (some ⟨g,0,none⟩) 2 2] w λ e w' => ∃ v,e=.returned v∧w'.ownsRow w.heap.size 3 1 v (m0+m1) (u0++u1)∧Za w w' := by
 have C0:Hid (∀ ww,Za w ww->ww.cell? ⟨g,0,none⟩=some (.slice a0 m0 c0)∧ww.cell? ⟨g,1,none⟩=some (.slice a1 m1 c1)):=λ ww hk=>⟨Zb (hk.at0 hg) 0,Zb (hk.at0 hg) 1⟩;obtain ⟨x0,x1⟩:=C0.out w (Zc.refl _ _);have G:=λ ww=>Zjw ww (m0+m1) (by omega);have e1:((m0+m1:Nat):Int)=(m0:Int)+(m1:Int):=by omega
 rw [e1] at G;have H0:Hid (∀ ww,Za w ww->Src ww a0 m0 c0 u0):=λ ww hk=>h0.same hk;have H1:Hid (∀ ww,Za w ww->Src ww a1 m1 c1 u1):=λ ww hk=>h1.same hk;clear e1 hg h0 h1
 go_enter func180,ntmps180
 go_wp2;refine wp_loop_rounds 3 ?_;rw [rounds_succ];go_wp2;rw [rounds_succ];go_wp2;rw [rounds_succ]
 go_wp2_with ((go_at_call 219;refine (G _).mono ?_;rintro e w1 ⟨v,rfl,hr,hk⟩))
 obtain ⟨vo,vc,rfl⟩:=Zf hr;obtain ⟨d0,d1⟩:=C0.out _ hk;have z1:=hk.size;clear x0 x1 G;refine wp_loop_rounds 3 ?_;rw [rounds_succ]
 go_wp2_with ((at_builtin;refine V6 rfl _ _ rfl w.heap.size 0 [] _ rfl hr a0 m0 c0 u0 rfl (H0.out _ hk) z1 (by omega) ?_;intro v2 w2 hr2 k2))
 have s2:=X4 hk hr (Nat.le_refl _) k2;obtain ⟨vo2,vc2,rfl⟩:=Zf hr2;obtain ⟨f2_0,f2_1⟩:=C0.out _ s2;have z2:=s2.size;clear d0 d1 z1 hr k2 hk;rw [rounds_succ]
 go_wp2_with ((at_builtin;refine V6 rfl _ _ rfl w.heap.size _ _ _ rfl hr2 a1 m1 c1 u1 rfl (H1.out _ s2) z2 (by omega) ?_;intro v3 w3 hr3 k3))
 have s3:=X4 s2 hr2 (Nat.le_refl _) k3;obtain ⟨vo3,vc3,rfl⟩:=Zf hr3;have E3:Hid (w3.ownsRow w.heap.size 3 1 (.slice vo3 (0+m0+m1) vc3) (m0+m1) (u0++u1)):=by simpa [Hid] using hr3
 clear hr3 k3;rw [rounds_succ];go_wp2;go_ret;exact ⟨_,rfl,E3.out,s3⟩
theorem Zkb {c0:Nat} {c1:Nat} (hg:w.heap[g]? = some (.cells #[.slice a0 m0 c0,.slice a1 m1 c1,.slice a2 m2 c2] 51 (0,0))) (h0:Src w a0 m0 c0 u0) (h1:Src w a1 m1 c1 u1) (h2:Src w a2 m2 c2 u2) (hl:m0+m1+m2<=20000) :
  Calls prog 180 #[.slice (some ⟨g,0,none⟩) 3 3] w λ e w' => ∃ v,e=.returned v∧w'.ownsRow w.heap.size 3 1 v (m0+m1+m2) (u0++u1++u2)∧Za w w' := by
 have C0:Hid (∀ ww,Za w ww->ww.cell? ⟨g,0,none⟩=some (.slice a0 m0 c0)∧ww.cell? ⟨g,1,none⟩=some (.slice a1 m1 c1)∧ww.cell? ⟨g,2,none⟩=some (.slice a2 m2 c2)):=λ ww hk=>⟨Zb (hk.at0 hg) 0,Zb (hk.at0 hg) 1,Zb (hk.at0 hg) 2⟩;obtain ⟨x0,x1,x2⟩:=C0.out w (Zc.refl _ _);have G:=λ ww=>Zjw ww (m0+m1+m2) (by omega);have e1:((m0+m1+m2:Nat):Int)=(m0:Int)+(m1:Int)+(m2:Int):=by omega
 rw [e1] at G;have H0:Hid (∀ ww,Za w ww->Src ww a0 m0 c0 u0):=λ ww hk=>h0.same hk;have H1:Hid (∀ ww,Za w ww->Src ww a1 m1 c1 u1):=λ ww hk=>h1.same hk;have H2:Hid (∀ ww,Za w ww->Src ww a2 m2 c2 u2):=λ ww hk=>h2.same hk;clear e1 hg h0 h1 h2
 go_enter func180,ntmps180
 go_wp2;refine wp_loop_rounds 4 ?_;rw [rounds_succ];go_wp2;rw [rounds_succ];go_wp2;rw [rounds_succ];go_wp2;rw [rounds_succ]
 go_wp2_with ((go_at_call 219;refine (G _).mono ?_;rintro e w1 ⟨v,rfl,hr,hk⟩))
 obtain ⟨vo,vc,rfl⟩:=Zf hr;obtain ⟨d0,d1,d2⟩:=C0.out _ hk;have z1:=hk.size;clear x0 x1 x2 G;refine wp_loop_rounds 4 ?_;rw [rounds_succ]
 go_wp2_with ((at_builtin;refine V6 rfl _ _ rfl w.heap.size 0 [] _ rfl hr a0 m0 c0 u0 rfl (H0.out _ hk) z1 (by omega) ?_;intro v2 w2 hr2 k2))
 have s2:=X4 hk hr (Nat.le_refl _) k2;obtain ⟨vo2,vc2,rfl⟩:=Zf hr2;obtain ⟨f2_0,f2_1,f2_2⟩:=C0.out _ s2;have z2:=s2.size;clear d0 d1 d2 z1 hr k2 hk;rw [rounds_succ]
 go_wp2_with ((at_builtin;refine V6 rfl _ _ rfl w.heap.size _ _ _ rfl hr2 a1 m1 c1 u1 rfl (H1.out _ s2) z2 (by omega) ?_;intro v3 w3 hr3 k3))
 have s3:=X4 s2 hr2 (Nat.le_refl _) k3;obtain ⟨vo3,vc3,rfl⟩:=Zf hr3;obtain ⟨f3_0,f3_1,f3_2⟩:=C0.out _ s3;have z3:=s3.size;clear f2_0 f2_1 f2_2 z2 hr2 k3 s2;rw [rounds_succ]
 go_wp2_with ((at_builtin;refine V6 rfl _ _ rfl w.heap.size _ _ _ rfl hr3 a2 m2 c2 u2 rfl (H2.out _ s3) z3 (by omega) ?_;intro v4 w4 hr4 k4))
 have s4:=X4 s3 hr3 (Nat.le_refl _) k4;obtain ⟨vo4,vc4,rfl⟩:=Zf hr4;have E3:Hid (w4.ownsRow w.heap.size 3 1 (.slice vo4 (0+m0+m1+m2) vc4) (m0+m1+m2) (u0++u1++u2)):=by simpa [Hid] using hr4
 clear hr4 k4;rw [rounds_succ];go_wp2;go_ret;exact ⟨_,rfl,E3.out,s4⟩
theorem Zcf:(prog.info? 51).map (λ i=>(i.zero,i.size,i.bytes))=some (some (.slice none 0 0),1,24):=by kernel_rfl
theorem Kz (hgd:o.guard=none) (s x:Operand)
  (ho:o.op=.call { callee:=.builtin .append,args:=#[s,x],argTypes:=#[50,50] })
  (base N:Nat) (vs:List Value) (v:Value) (hs:a.eval s=v) (hr:w0.ownsRow base 51 1 v N vs) (lo:Option Addr) (m lc:Nat) (us:List Value) (hx:a.eval x=.slice lo m lc) (hc:Src w0 lo m lc us) (hb:base<=w0.heap.size) (hsz:N+m<=20000)
  (h:∀ v' w', w'.ownsRow base 51 1 v' (N+m) (vs++us)->Zc (λ k=>v.ownBlock=some k) w0 w' -> wpList prog ops Q rest (a.put o.dst v') w') :
  wpList prog ops Q (o :: rest) a w0:=by
 obtain ⟨i,hi,hz0,hz1,hz2⟩:=info_parts Zcf;cases lo with
 | none=>
  obtain ⟨rfl,rfl⟩:=hc.nul rfl;obtain rfl:m=0:=by simpa using hc.len.symm
  refine wpList_append_own_none hgd s x 50 ho base 51 i 1 underlying50 hi v N vs hs hr hx ?_;exact h v w0 (by simpa using hr) (Zc.refl _ _)
 | some ad=>
  refine wpList_append_own _ hgd s x 50 ho base 51 i _ 1 24 underlying50 hi hz0 hz1 hz2 rfl (by decide) v N vs hs hr ad m lc us hx (by rw [hc.len];omega) (hc.at' ad rfl) hc.one (by unfold maxLen;omega) (by omega) hb ?_;intro v' w' hown hgrow _;exact h v' w' hown (Zc.grown (Zc.refl _ w0) hgrow (λ _ e _=>e))
theorem Zpx (w:World) (N:Nat) (hN:N<=20000) :
  Calls prog 231 #[.slice none 0 0,.int .i64 (N:Int)] w λ e w' => ∃ v,e=.returned v∧w'.ownsRow w.heap.size 51 1 v 0 []∧Za w w' := by
 have i0:¬ (N:Int)<0:=by omega
 by_cases h0:N=0
 ·subst h0
  go_enter func231,ntmps231
  go_wp2;go_ret;exact ⟨_,rfl,World.ownsRow_nil _ _ _ _,Zc.refl _ _⟩
 ·obtain ⟨i,hi,hz0,hz1,hz2⟩:=info_parts Zcf
  have i1:(0:Int)<(N:Int):=by omega
  have hrun:=λ ty=>Lib.run_append_nil_zeros (P:=prog) w 50 3 ty 51 i _ .i64 .i64 underlying50 underlying3 hi hz0 N (by omega) (by omega) (by omega) (by rw [hz2];omega);have hge:=grownCap_ge w N 0 51;have hle:=grownCap_le_maxLen w N 0 51 (by unfold maxLen;omega);generalize grownCap w N 0 51=cap at *;obtain ⟨Z,hZ⟩:∃ Z,Z=Builtin.zeroCells (Value.cells (.slice none 0 0)) N++Builtin.zeroCells (Value.cells (.slice none 0 0)) (cap-N):=⟨_,rfl⟩;rw [<- hZ] at hrun
  have hzs:Z.size=cap * 1:=by
   rw [hZ,Array.size_append,size_zeroCells,size_zeroCells];have:(Value.cells (.slice none 0 0)).size=1:=rfl;rw [this];omega
  have HR:Hid ((w.drew.alloc (.cells Z 51)).ownsRow w.heap.size 51 1 (.slice (some ⟨w.heap.size,0,none⟩) 0 cap) 0 []):=⟨rfl,.inr ⟨w.heap.size,cap,Z,rfl,Nat.le_refl _,heap_alloc_new w.drew _,Nat.zero_le _,hle,hzs,by simp⟩⟩;have HK:Hid (Za w (w.drew.alloc (.cells Z 51))):=((Zc.refl _ w).drew).alloc _;clear hZ hzs hi hz0 hz1 hz2 hge hle;have j1:(0:Int)<=(cap:Int):=by omega
  go_enter func231,ntmps231
  go_wp2_with ((at_builtin;refine Lib.wpList_append_run _ rfl _ _ 50 3 rfl _ _ rfl rfl _ _ (hrun _) ?_))
  go_ret;exact ⟨_,rfl,HR.out,HK.out⟩
theorem Jp {vs:List Value} (hk:Za w w1) (hr:w1.ownsRow base 51 1 v N vs) (hb:w.heap.size<=base) (k2:Zc (λ k=>v.ownBlock=some k) w1 w2):Za w w2:=
 Zc.trans hk k2 (λ i hi e=>by have:=(hr.lt i e).1;omega)
theorem Zgw {c0:Nat} {c1:Nat} (hg:w.heap[g]? = some (.cells #[.slice a0 m0 c0,.slice a1 m1 c1,.slice a2 m2 c2] 50 (0,0))) (h0:Src w a0 m0 c0 u0) (h1:Src w a1 m1 c1 u1) (h2:Src w a2 m2 c2 u2) (hl:m0+m1+m2<=20000) :
  Calls prog 220 #[.slice (some ⟨g,0,none⟩) 3 3] w λ e w' => ∃ v,e=.returned v∧w'.ownsRow w.heap.size 51 1 v (m0+m1+m2) (u0++u1++u2)∧Za w w' := by
 have C0:Hid (∀ ww,Za w ww->ww.cell? ⟨g,0,none⟩=some (.slice a0 m0 c0)∧ww.cell? ⟨g,1,none⟩=some (.slice a1 m1 c1)∧ww.cell? ⟨g,2,none⟩=some (.slice a2 m2 c2)):=λ ww hk=>⟨Zb (hk.at0 hg) 0,Zb (hk.at0 hg) 1,Zb (hk.at0 hg) 2⟩;obtain ⟨x0,x1,x2⟩:=C0.out w (Zc.refl _ _);have G:=λ ww=>Zpx ww (m0+m1+m2) (by omega);have e1:((m0+m1+m2:Nat):Int)=(m0:Int)+(m1:Int)+(m2:Int):=by omega
 rw [e1] at G;have H0:Hid (∀ ww,Za w ww->Src ww a0 m0 c0 u0):=λ ww hk=>h0.same hk;have H1:Hid (∀ ww,Za w ww->Src ww a1 m1 c1 u1):=λ ww hk=>h1.same hk;have H2:Hid (∀ ww,Za w ww->Src ww a2 m2 c2 u2):=λ ww hk=>h2.same hk;clear e1 hg h0 h1 h2
 go_enter func220,ntmps220
 go_wp2;refine wp_loop_rounds 4 ?_;rw [rounds_succ];go_wp2;rw [rounds_succ];go_wp2;rw [rounds_succ];go_wp2;rw [rounds_succ]
 go_wp2_with ((go_at_call 231;refine (G _).mono ?_;rintro e w1 ⟨v,rfl,hr,hk⟩))
 obtain ⟨vo,vc,rfl⟩:=Zf hr;obtain ⟨d0,d1,d2⟩:=C0.out _ hk;have z1:=hk.size;clear x0 x1 x2 G;refine wp_loop_rounds 4 ?_;rw [rounds_succ]
 go_wp2_with ((at_builtin;refine Kz rfl _ _ rfl w.heap.size 0 [] _ rfl hr a0 m0 c0 u0 rfl (H0.out _ hk) z1 (by omega) ?_;intro v2 w2 hr2 k2))
 have s2:=Jp hk hr (Nat.le_refl _) k2;obtain ⟨vo2,vc2,rfl⟩:=Zf hr2;obtain ⟨f2_0,f2_1,f2_2⟩:=C0.out _ s2;have z2:=s2.size;clear d0 d1 d2 z1 hr k2 hk;rw [rounds_succ]
 go_wp2_with ((at_builtin;refine Kz rfl _ _ rfl w.heap.size _ _ _ rfl hr2 a1 m1 c1 u1 rfl (H1.out _ s2) z2 (by omega) ?_;intro v3 w3 hr3 k3))
 have s3:=Jp s2 hr2 (Nat.le_refl _) k3;obtain ⟨vo3,vc3,rfl⟩:=Zf hr3;obtain ⟨f3_0,f3_1,f3_2⟩:=C0.out _ s3;have z3:=s3.size;clear f2_0 f2_1 f2_2 z2 hr2 k3 s2;rw [rounds_succ]
 go_wp2_with ((at_builtin;refine Kz rfl _ _ rfl w.heap.size _ _ _ rfl hr3 a2 m2 c2 u2 rfl (H2.out _ s3) z3 (by omega) ?_;intro v4 w4 hr4 k4))
 have s4:=Jp s3 hr3 (Nat.le_refl _) k4;obtain ⟨vo4,vc4,rfl⟩:=Zf hr4;have E3:Hid (w4.ownsRow w.heap.size 51 1 (.slice vo4 (0+m0+m1+m2) vc4) (m0+m1+m2) (u0++u1++u2)):=by simpa [Hid] using hr4
 clear hr4 k4;rw [rounds_succ];go_wp2;go_ret;exact ⟨_,rfl,E3.out,s4⟩
structure Js (w:World) (ao:Option Addr) (xs:List Int) (cap:Nat):Prop where
 arg:Arg w ao xs cap
 typ:∀ a,ao=some a->∃ cur,w.heap[a.block]? = some (.cells cur 3 (0,0))
 own:∀ a,ao=some a->∃ b cur,a=⟨b,0,none⟩∧w.heap[b]? = some (.cells cur 3 (0,0))∧cur.size=cap∧cap<=maxLen
theorem Js.kept (h:Js w ao xs cap) (hk:Zc S w w') (hS:∀ k,S k->∀ cur,w.heap[k]? ≠ some (.cells cur 3 (0,0))):Js w' ao xs cap:=by
 have ne:∀ a,ao=some a->¬ S a.block:=λ a e s=>by
  obtain ⟨cur,hc⟩:=h.2 a e;exact hS _ s cur hc
 refine ⟨⟨h.1.at'.kept hk ne,h.1.cap', h.1.nil,h.1.size⟩,λ a e=>?_,λ a e=>?_⟩
 ·obtain ⟨cur,hc⟩:=h.2 a e
  exact ⟨cur,hk.at hc (ne a e)⟩
 ·obtain ⟨b,cur,e1,hc,hs,hm⟩:=h.own a e
  exact ⟨b,cur,e1,hk.at hc (by have:=ne a e;rw [e1] at this;exact this),hs,hm⟩
theorem Js.same (h:Js w ao xs cap) (hk:Za w w'):Js w' ao xs cap:=h.kept hk (λ _ f=>f.elim)
theorem Row.arg (h:Row base w v xs) (hl:xs.length<=100000):∃ ao ac,v=.slice ao xs.length ac∧Js w ao xs ac∧∀ a,ao=some a->base<=a.block:=by
 obtain ⟨ao,ac,e,h1,h2,h3⟩:=h.ints
 rcases h.2 with ⟨e2,h0⟩ | ⟨g,cap,cur,e2,hb,hg,hle,hmx,hsz,_⟩
 ·rw [e] at e2
  simp only [Value.slice.injEq] at e2;obtain ⟨rfl,_,rfl⟩:=e2;exact ⟨none,0,e,⟨⟨h1,by omega,λ _=>⟨h0,rfl⟩,by omega⟩,(λ a e=>by cases e),λ a e=>by cases e⟩,λ a e=>by cases e⟩
 ·rw [e] at e2
  simp only [Value.slice.injEq] at e2;obtain ⟨rfl,_,rfl⟩:=e2;exact ⟨_,ac,e,⟨⟨h1,hle,(λ e=>by cases e),by omega⟩,(λ a e=>by cases e;exact ⟨cur,hg⟩),λ a e=>by cases e;exact ⟨g,cur,rfl,hg,by simpa using hsz,hmx⟩⟩,λ a e=>by cases e;exact hb⟩
theorem eqnilI (w:World) (a:Option Addr) (n c n' c' : Nat):(binOp .eql 51 (.slice a n c) (.slice none n' c')).run prog w=.ok (.bool a.isNone) w:=Lib.run_eql_slice_nil w _ _ a n c n' c' underlying51
theorem Zf4 (hx:Arg w ao xs cap) :
  Calls prog 177 #[.slice ao xs.length cap] w λ e w' => ∃ v,e=.returned v∧Row w.heap.size w' v xs∧Za w w' := by
 have hnil:=eqnilI;have hsz:=hx.size;cases ao with
 | none=>
  obtain ⟨h0,rfl⟩:=hx.nil rfl;obtain rfl:xs=[]:=List.eq_nil_of_length_eq_zero h0
  go_enter func177,ntmps177
  go_wp2;go_ret;exact ⟨_,rfl,World.ownsRow_nil _ _ _ _,Zc.refl _ _⟩
 | some ad=>
  have k0:Za w (w.alloc (.cells #[] 3)):=(Zc.refl _ w).alloc _;have r0:Row w.heap.size (w.alloc (.cells #[] 3)) (.slice (some ⟨w.heap.size,0,none⟩) 0 0) []:=Zbw w _ (Nat.le_refl _) rfl;have cI:=hx.at'.same k0;have z0:=k0.size;clear hx
  go_enter func177,ntmps177
  go_wp2_with ((at_builtin;refine Y7 rfl _ _ 51 rfl underlying51 w.heap.size [] _ rfl r0 xs _ _ _ rfl rfl cI z0 (by simp;omega) ?_;intro v' w4 hr4 hk4))
  go_ret;exact ⟨_,rfl,by simpa using hr4,k0.onto r0 hk4⟩
end
section
open Go.RowKit
theorem V1 (l:List Nat):(ofN l).length=l.length:=by simp [ofN]
def NdB (w:World) (k:Nat):Prop:=∃ cur,w.heap[k]? = some (.cells cur 181 (0,0))
theorem Js.keptN (h:Js w ao xs cap) (hk:Zc S w w') (hS:∀ k,S k->NdB w k):Js w' ao xs cap:=
 h.kept hk (λ k e cur hc=>by obtain ⟨c,h2⟩:=hS k e;rw [hc] at h2;cases h2)
def Zbz (w:World) (po:Option Addr) (P:List (List Int)):Prop:=
 P=[]∨∃ b off,po=some ⟨b,off,none⟩∧(∃ cur,w.heap[b]? = some (.cells cur 51 (0,0)))∧∀ i (h:i<P.length),∃ ao ac,w.cell? ⟨b,off+i,none⟩=some (.slice ao P[i].length ac)∧Js w ao P[i] ac
theorem Zbz.keptN (h:Zbz w po P) (hk:Zc S w w') (hS:∀ k,S k->NdB w k):Zbz w' po P:=by
 refine h.imp id ?_;rintro ⟨b,off,rfl,⟨cur,hb⟩,hc⟩;have nb:¬ S b:=λ e=>by obtain ⟨c,h2⟩:=hS b e;rw [hb] at h2;cases h2
 refine ⟨b,off,rfl,⟨cur,hk.at hb nb⟩,λ i hi=>?_⟩;obtain ⟨ao,ac,h1,h2⟩:=hc i hi;exact ⟨ao,ac,(hk.cell (p:=⟨b,off+i,none⟩) (Zi hb) nb).trans h1,h2.keptN hk hS⟩
theorem Zbz.same (h:Zbz w po P) (hk:Za w w'):Zbz w' po P:=h.keptN hk (λ _ f=>f.elim)
theorem Zbz.get (h:Zbz w po P) (hi:i<P.length):∃ b off ao ac,po=some ⟨b,off,none⟩∧b<w.heap.size∧w.cell? ⟨b,off+i,none⟩=some (.slice ao P[i].length ac)∧Js w ao P[i] ac:=by
 rcases h with rfl | ⟨b,off,e,⟨cur,hb⟩,hc⟩
 ·simp at hi
 ·obtain ⟨ao,ac,h1,h2⟩:=hc i hi
  exact ⟨b,off,ao,ac,e,Zi hb,h1,h2⟩
def Yo (w:World) (vs:List Value) (P:List (List Int)):Prop:=
 vs.length=P.length∧∀ i (h:i<P.length),∃ ao ac,vs[i]? = some (.slice ao P[i].length ac)∧Js w ao P[i] ac
theorem Yo.nil (w:World):Yo w [] []:=⟨rfl,λ i h=>absurd h (by simp)⟩
theorem Yo.same {vs:List Value} (h:Yo w vs P) (hk:Za w w'):Yo w' vs P:=
 ⟨h.1,λ i hi=>by
  obtain ⟨ao,ac,h1,h2⟩:=h.2 i hi
  exact ⟨ao,ac,h1,h2.same hk⟩⟩
theorem Yo.kept {vs:List Value} (h:Yo w vs P) (hk:Zc S w w') (hS:∀ k,S k->∀ cur,w.heap[k]? ≠ some (.cells cur 3 (0,0))):Yo w' vs P:=
 ⟨h.1,λ i hi=>by
  obtain ⟨ao,ac,h1,h2⟩:=h.2 i hi
  exact ⟨ao,ac,h1,h2.kept hk hS⟩⟩
theorem Yo.append {vs:List Value} {Q:List (List Int)} (h:Yo w vs P) (k:Yo w us Q):Yo w (vs++us) (P++Q):=by
 refine ⟨by simp [h.1,k.1],λ i hi=>?_⟩
 by_cases hl:i<P.length
 ·rw [List.getElem_append_left hl,List.getElem?_append_left (by rw [h.1];omega)]
  exact h.2 i hl
 ·have hm:i-P.length<Q.length:=by simp at hi;omega
  rw [List.getElem_append_right (by omega),List.getElem?_append_right (by rw [h.1];omega),h.1];exact k.2 _ hm
theorem Yo.take {vs:List Value} (h:Yo w vs P) (n:Nat):Yo w (vs.take n) (P.take n):=by
 refine ⟨by simp [h.1],λ i hi=>?_⟩;have hi' : i<P.length:=by simp at hi;omega
 have hn:i<n:=by simp at hi;omega
 obtain ⟨ao,ac,h1,h2⟩:=h.2 i hi';exact ⟨ao,ac,by rw [List.getElem?_take,if_pos hn];simpa using h1,by simpa using h2⟩
theorem Yo.drop {vs:List Value} (h:Yo w vs P) (n:Nat):Yo w (vs.drop n) (P.drop n):=by
 refine ⟨by simp [h.1],λ i hi=>?_⟩;have hi' : n+i<P.length:=by simp at hi;omega
 obtain ⟨ao,ac,h1,h2⟩:=h.2 (n+i) hi';exact ⟨ao,ac,by rw [List.getElem?_drop];simpa using h1,by simpa using h2⟩
theorem Yo.one {vs:List Value} (h:Yo w vs P):∀ u∈vs,u.oneCell' = true:=by
 intro u hu;obtain ⟨j,hj,rfl⟩:=List.mem_iff_getElem.1 hu;obtain ⟨ao,ac,h1,_⟩:=h.2 j (by rw [<- h.1];exact hj);rw [List.getElem?_eq_getElem hj] at h1;simp only [Option.some.injEq] at h1;rw [h1];rfl
theorem Zbz.cells (h:Zbz w po P):∃ vs,Yo w vs P∧∀ ad,po=some ad->∀ j u,vs[j]? = some u->w.cell? (ad.add j)=some u:=by
 rcases h with rfl | ⟨b,off,rfl,hb,hc⟩
 ·exact ⟨[],Yo.nil w,λ ad _ j u hj=>by simp at hj⟩
 ·refine ⟨(List.range P.length).map (λ j=>(w.cell? ⟨b,off+j,none⟩).getD undef),⟨by simp,λ i hi=>?_⟩,λ ad e j u hj=>?_⟩
  ·obtain ⟨ao,ac,h1,h2⟩:=hc i hi
   exact ⟨ao,ac,by simp [hi,h1],h2⟩
  ·cases e
   rw [Xb];have hlt:j<P.length:=by have:=(List.getElem?_eq_some_iff.1 hj).1;simpa using this
   obtain ⟨ao,ac,h1,_⟩:=hc j hlt;simp [hlt,h1] at hj;rw [h1,hj]
theorem Ztp {vs:List Value} (hr:w.ownsRow base 51 1 v N vs) (hc:Yo w vs P):∃ ao cap,v=.slice ao P.length cap∧Zbz w ao P∧(ao=none->cap=0)∧P.length<=cap:=by
 have hN:N=P.length:=by have:=hr.1;rw [hc.1] at this;omega
 subst hN
 rcases hr.2 with ⟨rfl,h0⟩ | ⟨g,cap,cur,rfl,_,hg,hle,_,_,ht⟩
 ·exact ⟨none,0,by rw [h0],.inl (List.eq_nil_of_length_eq_zero h0),λ _=>rfl,by omega⟩
 ·refine ⟨_,cap,rfl,.inr ⟨g,0,rfl,⟨cur,hg⟩,λ i hi=>?_⟩,(λ e=>by cases e),hle⟩
  obtain ⟨ao,ac,h1,h2⟩:=hc.2 i hi;have q1:=hr.cells (g:=g) rfl _ _ h1;rw [Xb] at q1;exact ⟨ao,ac,q1,h2⟩
def RwC (w:World) (b off:Nat) (x:Rw):Prop:=
 ∃ ao ac bo bc,w.cell? ⟨b,off,none⟩=some (.int .i64 x.1)∧w.cell? ⟨b,off+1,none⟩=some (.slice ao x.2.1.length ac)∧w.cell? ⟨b,off+2,none⟩=some (.slice bo x.2.2.length bc)∧Js w ao x.2.1 ac∧Js w bo (ofN x.2.2) bc
def Ze8 (w:World) (ro:Option Addr) (R:List Rw):Prop:=
 R=[]∨∃ b off,ro=some ⟨b,off,none⟩∧(∃ cur,w.heap[b]? = some (.cells cur 246 (0,0)))∧∀ i (h:i<R.length),RwC w b (off+i * 3) R[i]
theorem Ze8.keptN {R:List Rw} (h:Ze8 w ro R) (hk:Zc S w w') (hS:∀ k,S k->NdB w k):Ze8 w' ro R:=by
 refine h.imp id ?_;rintro ⟨b,off,rfl,⟨cur,hb⟩,hc⟩;have nb:¬ S b:=λ e=>by obtain ⟨c,h2⟩:=hS b e;rw [hb] at h2;cases h2
 have hl:=Zi hb;refine ⟨b,off,rfl,⟨cur,hk.at hb nb⟩,λ i hi=>?_⟩;obtain ⟨ao,ac,bo,bc,h0,h1,h2,h3,h4⟩:=hc i hi;exact ⟨ao,ac,bo,bc,(hk.cell (p:=⟨b,off+i * 3,none⟩) hl nb).trans h0,(hk.cell (p:=⟨b,off+i * 3+1,none⟩) hl nb).trans h1,(hk.cell (p:=⟨b,off+i * 3+2,none⟩) hl nb).trans h2,h3.keptN hk hS,h4.keptN hk hS⟩
theorem Ze8.same {R:List Rw} (h:Ze8 w ro R) (hk:Za w w'):Ze8 w' ro R:=h.keptN hk (λ _ f=>f.elim)
theorem Ze8.get {R:List Rw} (h:Ze8 w ro R) (hi:i<R.length):∃ b off,ro=some ⟨b,off,none⟩∧b<w.heap.size∧RwC w b (off+i * 3) R[i]:=by
 rcases h with rfl | ⟨b,off,e,⟨cur,hb⟩,hc⟩
 ·simp at hi
 ·exact ⟨b,off,e,Zi hb,hc i hi⟩
theorem Zna:(prog.info? 246).map (λ i=>(i.zero,i.size,i.bytes))=some (some (.agg #[.int .i64 0,.slice none 0 0,.slice none 0 0]),3,56):=by kernel_rfl
def Yx (w:World) (vs:List Value) (l:List Rw):Prop:=
 vs.length=l.length * 3∧∀ i (h:i<l.length),∃ ao ac bo bc,vs[i * 3]? = some (.int .i64 l[i].1)∧vs[i * 3+1]? = some (.slice ao l[i].2.1.length ac)∧vs[i * 3+2]? = some (.slice bo l[i].2.2.length bc)∧Js w ao l[i].2.1 ac∧Js w bo (ofN l[i].2.2) bc
theorem Yx.nil (w:World):Yx w [] []:=⟨rfl,λ i h=>absurd h (by simp)⟩
theorem Yx.same {vs:List Value} {l:List Rw} (h:Yx w vs l) (hk:Za w w'):Yx w' vs l:=
 ⟨h.1,λ i hi=>by
  obtain ⟨ao,ac,bo,bc,h0,h1,h2,h3,h4⟩:=h.2 i hi
  exact ⟨ao,ac,bo,bc,h0,h1,h2,h3.same hk,h4.same hk⟩⟩
theorem Yx.snoc {vs:List Value} {l:List Rw} (h:Yx w vs l) {x:Rw} (h3:Js w ao x.2.1 ac) (h4:Js w bo (ofN x.2.2) bc):Yx w (vs ++ [.int .i64 x.1,.slice ao x.2.1.length ac,.slice bo x.2.2.length bc]) (l ++ [x]):=by
 refine ⟨by simp [h.1];omega,λ i hi=>?_⟩
 by_cases hl:i<l.length
 ·rw [List.getElem_append_left hl,List.getElem?_append_left (by rw [h.1];omega),List.getElem?_append_left (by rw [h.1];omega),List.getElem?_append_left (by rw [h.1];omega)]
  exact h.2 i hl
 ·obtain rfl:i=l.length:=by simp at hi;omega
  refine ⟨ao,ac,bo,bc,?_,?_,?_,by simpa using h3,by simpa using h4⟩
  ·rw [List.getElem?_append_right (by rw [h.1];omega),h.1];simp
  ·rw [List.getElem?_append_right (by rw [h.1];omega),h.1];simp [Nat.add_sub_cancel_left]
  ·rw [List.getElem?_append_right (by rw [h.1];omega),h.1];simp [Nat.add_sub_cancel_left]
theorem Zg6 {vs:List Value} {l:List Rw} (hr:w.ownsRow base 246 3 v N vs) (hc:Yx w vs l):∃ ao cap,v=.slice ao l.length cap∧Ze8 w ao l∧(ao=none->cap=0)∧N=l.length:=by
 have hN:N=l.length:=by have:=hr.1;rw [hc.1] at this;omega
 subst hN
 rcases hr.2 with ⟨rfl,h0⟩ | ⟨g,cap,cur,rfl,_,hg,_,_,_,ht⟩
 ·exact ⟨none,0,by rw [h0],.inl (List.eq_nil_of_length_eq_zero h0),λ _=>rfl,rfl⟩
 ·refine ⟨_,cap,rfl,.inr ⟨g,0,rfl,⟨cur,hg⟩,λ i hi=>?_⟩,(λ e=>by cases e),rfl⟩
  obtain ⟨ao,ac,bo,bc,h0,h1,h2,h3,h4⟩:=hc.2 i hi;have q0:=hr.cells (g:=g) rfl _ _ h0;have q1:=hr.cells (g:=g) rfl _ _ h1;have q2:=hr.cells (g:=g) rfl _ _ h2;rw [Xb] at q0 q1 q2;exact ⟨ao,ac,bo,bc,q0,by rw [<- q1];congr 2,by rw [<- q2];congr 2,h3,h4⟩
theorem Yx.kept {vs:List Value} {l:List Rw} (h:Yx w vs l) (hk:Zc S w w') (hS:∀ k,S k->∀ cur,w.heap[k]? ≠ some (.cells cur 3 (0,0))):Yx w' vs l:=
 ⟨h.1,λ i hi=>by
  obtain ⟨ao,ac,bo,bc,h0,h1,h2,h3,h4⟩:=h.2 i hi
  exact ⟨ao,ac,bo,bc,h0,h1,h2,h3.kept hk hS,h4.kept hk hS⟩⟩
end
section
open Go.RowKit
attribute [local go_sem ↓] Go.wp_at_zero Go.wp_at_succ
theorem Yh (w:World) (b o:Nat) (u:Value):Zc (λ k=>k=b) w (w.setCell ⟨b,o,none⟩ u):=Zc.setCell (p:=⟨b,o,none⟩) (Zc.refl (λ k=>k=b) w) (λ _=>rfl) u
end
section
open Go.RowKit Go.Shelf
attribute [local go_sem] Oper.semAt_some
theorem Zhz {w3:World} {a0 a1 a2:Value} {t:TypeId} (hb:w3.heap[n]? = some (.cells #[a0,a1,a2] t (0,0))) (x0 x1 x2:Value):(((w3.setCell ⟨n,0,none⟩ x0).setCell ⟨n,1,none⟩ x1).setCell ⟨n,2,none⟩ x2).heap[n]? = some (.cells #[x0,x1,x2] t (0,0))∧Zc (λ q=>q=n) w3 (((w3.setCell ⟨n,0,none⟩ x0).setCell ⟨n,1,none⟩ x1).setCell ⟨n,2,none⟩ x2):=
 ⟨Zt (Zt (Zt hb 0 x0) 1 x1) 2 x2,Zc.trans (Zc.trans (Yh w3 n 0 x0) (Yh _ n 1 x1) (λ _ _ e=>e)) (Yh _ n 2 x2) (λ _ _ e=>e)⟩
def ZfN {R:List Ru} (w:World) (q:Nat->Bool) (W:World):Prop:=
 ∃ k,∃ hk:k<R.length,q k=true∧(∀ j,j<k->q j=false)∧∃ g c g' c', W.heap[w.heap.size+1]? = some (.cells #[.slice (some ⟨g,0,none⟩) R[k].1.length c,.slice (some ⟨g', 0,none⟩) R[k].2.length c', .int .i64 (k:Int)] 144 (0,0))∧W.heap[w.heap.size+1+1]? = some (.cells #[.bool true] 4 (0,0))∧Yu W g c R[k].1∧Yu W g' c' R[k].2∧Za w W
theorem ZfN.same {R:List Ru} {Y:World} (h:ZfN (R:=R) w q X) (hk:Za X Y):ZfN (R:=R) w q Y:=by
 obtain ⟨k,hk', h1,h2,g,c,g', c', h3,h4,t1,t2,h5⟩:=h;exact ⟨k,hk', h1,h2,g,c,g', c', hk.at0 h3,hk.at0 h4,t1.same hk,t2.same hk,h5.trans' hk⟩
theorem ZfN.put {R:List Ru} {o:Obj} (h:ZfN (R:=R) w q X) (hl:X.heap[l]? = some o) (ho:o.isCells=false) (hw:w.heap.size<=l):ZfN (R:=R) w q (X.putObj l o'):=by
 obtain ⟨k,hk', h1,h2,g,c,g', c', h3,h4,t1,t2,h5⟩:=h;have kk:Zc (λ k=>k=l) X (X.putObj l o'):=Y0
 have no:∀ q,(λ q=>q=l) q->∀ cur,X.heap[q]? ≠ some (.cells cur 3 (0,0)):=λ q e cur hc=>by
  have e' : q=l:=e;rw [e', hl] at hc;cases hc;cases ho
 exact ⟨k,hk', h1,h2,g,c,g', c', Yg hl ho h3 rfl,Yg hl ho h4 rfl,t1.kept kk no,t2.kept kk no,Zc.trans h5 kk (λ i hi e=>by have e' : i=l:=e;omega)⟩
theorem Zpi {rc:Nat} (hs:Zw4 w ro R) (hle:R.length<=100) (hB:w.cell? ⟨Bn,0,none⟩=some (.slice ro R.length rc)) {ab:Nat}
  (HP:Hid (∀ k (hk:k<R.length) ww g c g' c', Za w ww->Yu ww g c R[k].1->Yu ww g' c' R[k].2->Calls prog 147 #[.agg #[.slice (some ⟨g,0,none⟩) R[k].1.length c,.slice (some ⟨g', 0,none⟩) R[k].2.length c', .int .i64 (k:Int)],.pointer (some ⟨cb,0,none⟩),.pointer (some ⟨ab,0,none⟩)] ww λ e w' => e=.returned (.bool (q k))∧Za ww w')) :
  Calls prog 145 #[.func (.func 197) #[] #[.pointer (some ⟨Bn,0,none⟩)],.func (.func 147) #[] #[.pointer (some ⟨cb,0,none⟩),.pointer (some ⟨ab,0,none⟩)]] w λ e w' => Za w w' ∧ ((∃ k,∃ hk:k<R.length,q k=true∧(∀ j,j<k->q j=false)∧∃ g c g' c', e=.returned (.tuple #[.agg #[.slice (some ⟨g,0,none⟩) R[k].1.length c,.slice (some ⟨g', 0,none⟩) R[k].2.length c', .int .i64 (k:Int)],.bool true])∧Yu w' g c R[k].1∧Yu w' g' c' R[k].2)∨((∀ j,j<R.length->q j=false)∧e=.returned (.tuple #[.agg #[.slice none 0 0,.slice none 0 0,.int .i64 0],.bool false]))):=by
 have hFn:∀ k,Fence.wide.fn k:=λ _=>trivial;obtain ⟨W1,hW1⟩:∃ W1,W1=((w.alloc (.cells #[.func (.func 147) #[] #[.pointer (some ⟨cb,0,none⟩),.pointer (some ⟨ab,0,none⟩)]] 262)).alloc (.cells #[.slice none 0 0,.slice none 0 0,.int .i64 0] 144)).alloc (.cells #[.bool false] 4):=⟨_,rfl⟩;have KW:Za w W1:=by rw [hW1];exact (((Zc.refl _ w).alloc _).alloc _).alloc _
 have ez:W1.heap.size=w.heap.size+1+1+1:=by rw [hW1];simp
 have BK:Hid (∀ ww,Za W1 ww->ww.heap[w.heap.size]? = some (.cells #[.func (.func 147) #[] #[.pointer (some ⟨cb,0,none⟩),.pointer (some ⟨ab,0,none⟩)]] 262 (0,0))∧ww.heap[w.heap.size+1]? = some (.cells #[.slice none 0 0,.slice none 0 0,.int .i64 0] 144 (0,0))∧ww.heap[w.heap.size+1+1]? = some (.cells #[.bool false] 4 (0,0))):=λ ww hk=>by
  have k1:Za (w.alloc (.cells #[.func (.func 147) #[] #[.pointer (some ⟨cb,0,none⟩),.pointer (some ⟨ab,0,none⟩)]] 262)) W1:=by rw [hW1];exact (Zal9).alloc _
  have k2:Za ((w.alloc (.cells #[.func (.func 147) #[] #[.pointer (some ⟨cb,0,none⟩),.pointer (some ⟨ab,0,none⟩)]] 262)).alloc (.cells #[.slice none 0 0,.slice none 0 0,.int .i64 0] 144)) W1:=by rw [hW1];exact Zal9
  refine ⟨hk.at0 (k1.at0 (heap_alloc_new w _)),hk.at0 (k2.at0 (Zo _ _ _)),hk.at0 ?_⟩;have:=Zo (w.alloc (.cells #[.func (.func 147) #[] #[.pointer (some ⟨cb,0,none⟩),.pointer (some ⟨ab,0,none⟩)]] 262)) (.cells #[.slice none 0 0,.slice none 0 0,.int .i64 0] 144) (.cells #[.bool false] 4);simp only [World.size_alloc] at this;rw [hW1];exact this
 have PUT:Hid (∀ X,(X.heap[w.heap.size+1]? = some (.cells #[.slice none 0 0,.slice none 0 0,.int .i64 0] 144 (0,0))∧X.heap[w.heap.size+1+1]? = some (.cells #[.bool false] 4 (0,0)))->∀ (p0 p1 p2:Value) (bb:Bool) Z,Z=(((X.setCell ⟨w.heap.size+1,0,none⟩ p0).setCell ⟨w.heap.size+1,1,none⟩ p1).setCell ⟨w.heap.size+1,2,none⟩ p2).setCell ⟨w.heap.size+1+1,0,none⟩ (.bool bb)->Z.heap[w.heap.size+1]? = some (.cells #[p0,p1,p2] 144 (0,0))∧Z.heap[w.heap.size+1+1]? = some (.cells #[.bool bb] 4 (0,0))∧Zc (λ q=>q=w.heap.size+1∨q=w.heap.size+1+1) X Z):=λ X hX p0 p1 p2 bb Z hZ=>by
  obtain ⟨pa,pb⟩:=Zhz hX.1 p0 p1 p2;have pc:=pb.at hX.2 (λ e=>by have e' : w.heap.size+1+1=w.heap.size+1:=e;omega);have k3:=Yh (((X.setCell ⟨w.heap.size+1,0,none⟩ p0).setCell ⟨w.heap.size+1,1,none⟩ p1).setCell ⟨w.heap.size+1,2,none⟩ p2) (w.heap.size+1+1) 0 (.bool bb);rw [hZ];refine ⟨k3.at pa (λ e=>by have e' : w.heap.size+1=w.heap.size+1+1:=e;omega),Zt pc 0 (.bool bb),Zc.trans (pb.mono (λ _ _ e=>.inl e)) k3 (λ _ _ e=>.inr e)⟩
 have HH:=Zp2 (n:=8) (hs.same KW) hle (Zc.refl _ _) ((KW.cell (p:=⟨Bn,0,none⟩) (World.block_lt_of_cell? _ _ hB) (λ f=>f)).trans hB) (by omega);refine (callsIn_wide (n:=9)).1 ?_;refine callsIn_of_wp_marks func145 rfl trivial ?_ rfl;simp only [ntmps145,List.size_toArray,List.length_cons,List.length_nil,Nat.reduceAdd,Nat.reduceSub,Array.replicate_succ,Array.replicate_zero,List.push_toArray,List.append_toArray,List.nil_append,List.cons_append]
 gi_upto_region 1 with fail
 rw [<- hW1];clear hW1
 gi_wp2_with fail
 refine Zaj rfl (by omega) (gf:=197) (lb:=#[.pointer (some ⟨Bn,0,none⟩)]) rfl trivial (enters_of func197 (by kernel_rfl) rfl) (B:=W1.heap.size) (Nat.le_refl _) HH (λ k vs W h=>by obtain ⟨_,_,_,_,_,rfl,_⟩:=h;rfl)
  (λ k W=>Hid ((∀ j,j<k->q j=false)∧Za W1 W)) (λ k X Y h hk=>⟨h.out.1,h.out.2.trans' hk⟩) (λ k X l o o' h hl ho hw=>⟨h.out.1,Zc.trans h.out.2 (Y0 (l:=l) (o' := o')) (λ i hi e=>by have e' : i=l:=e;omega)⟩) ⟨λ j hj=>absurd hj (by omega),Zc.refl _ _⟩ (λ W=>Hid (ZfN (R:=R) w q W)) (λ X Y h hk=>h.out.same hk) (λ X l o o' h hl ho hw=>h.out.put hl ho (by omega)) ?round ?done ?stop
 case done=>
  rintro D W hD hj hD2;have hs:=hj.out.2;have hq:=hj.out.1;obtain ⟨Wa,hWa⟩:∃ Wa,Wa=W.alloc (.cells #[.slice none 0 0,.slice none 0 0,.int .i64 0] 144):=⟨_,rfl⟩;have ka:Za W Wa:=by rw [hWa];exact Zal9
  have bz:Wa.heap[W.heap.size]? = some (.cells #[.slice none 0 0,.slice none 0 0,.int .i64 0] 144 (0,0)):=by rw [hWa];exact heap_alloc_new _ _
  obtain ⟨g0,g1,g2⟩:=BK.out Wa (hs.trans' ka);have hDa:=ka.at0 hD2;have r0:=Zb g1 0;have s0:=Zg g1 0;have z0:=Zb bz 0;have r1:=Zb g1 1;have s1:=Zg g1 1;have z1:=Zb bz 1;have r2:=Zb g1 2;have s2:=Zg g1 2;have z2:=Zb bz 2;have n0:=Zb g2 0;have f0:=Zg g2 0;simp only [List.getElem?_toArray,List.getElem?_cons_zero,List.getElem?_cons_succ] at r0 r1 r2 z0 z1 z2 n0;obtain ⟨X,hX⟩:∃ X,X=(((Wa.setCell ⟨w.heap.size+1,0,none⟩ (.slice none 0 0)).setCell ⟨w.heap.size+1,1,none⟩ (.slice none 0 0)).setCell ⟨w.heap.size+1,2,none⟩ (.int .i64 0)).setCell ⟨w.heap.size+1+1,0,none⟩ (.bool false):=⟨_,rfl⟩;obtain ⟨e1,e2,kx⟩:=PUT.out Wa ⟨g1,g2⟩ (.slice none 0 0) (.slice none 0 0) (.int .i64 0) false X hX;have hD3:=kx.at hDa (λ e=>by rcases e with e | e <;> omega);have gZ:=(World.putObj_heap_other (w:=X) (r:=D) (o:=.deferred none) (k:=w.heap.size+1) (by omega)).trans e1;have gY:=(World.putObj_heap_other (w:=X) (r:=D) (o:=.deferred none) (k:=w.heap.size+1+1) (by omega)).trans e2;have v0:=Zb gZ 0;have v1:=Zb gZ 1;have v2:=Zb gZ 2;have v9:=Zb gY 0;simp only [List.getElem?_toArray,List.getElem?_cons_zero,List.getElem?_cons_succ] at v0 v1 v2 v9;have KF:Za w (X.putObj D (.deferred none)):=Zc.trans (Zc.trans ((KW.trans' hs).trans' ka) kx (λ i hi e=>by rcases e with e | e <;> omega)) (Y0 (l:=D) (o' := .deferred none)) (λ i hi e=>by have e' : i=D:=e;omega);have HX:Hid ((((Wa.setCell ⟨w.heap.size+1,0,none⟩ (.slice none 0 0)).setCell ⟨w.heap.size+1,1,none⟩ (.slice none 0 0)).setCell ⟨w.heap.size+1,2,none⟩ (.int .i64 0)).setCell ⟨w.heap.size+1+1,0,none⟩ (.bool false)=X):=hX.symm;have HKF:Hid (Za w (X.putObj D (.deferred none))):=KF;have HQ:Hid (∀ j,j<R.length->q j=false):=hq;clear hX KF e1 e2 kx g0 g1 g2 gZ gY hq hs hj ka HH HP BK PUT
  gi_upto_region 6 with fail
  rw [<- hWa];clear hWa
  gi_wp2_with fail
  rw [HX.out];refine ⟨by simp,.inl ⟨_,_,rfl,run_takeDeferred hD3,?_⟩⟩;exact ⟨.tuple #[.agg #[.slice none 0 0,.slice none 0 0,.int .i64 0],.bool false],by simp [results,results145,go_sem,v0,v1,v2,v9],HKF.out,.inr ⟨HQ.out,rfl⟩⟩
 case stop=>
  rintro D W hD hz hD2;obtain ⟨k,hk', h1,h2,g,c,g', c', h3,h4,t1,t2,h5⟩:=(hz.out.put (o' := .deferred none) hD2 rfl (by omega):ZfN (R:=R) w q (W.putObj D (.deferred none)));have v0:=Zb h3 0;have v1:=Zb h3 1;have v2:=Zb h3 2;have v9:=Zb h4 0;simp only [List.getElem?_toArray,List.getElem?_cons_zero,List.getElem?_cons_succ] at v0 v1 v2 v9;clear HP BK PUT HH hz
  gi_wp2_with fail
  refine ⟨by simp,.inl ⟨_,_,rfl,run_takeDeferred hD2,?_⟩⟩;exact ⟨.tuple #[.agg #[.slice (some ⟨g,0,none⟩) R[k].1.length c,.slice (some ⟨g', 0,none⟩) R[k].2.length c', .int .i64 (k:Int)],.bool true],by simp [results,results145,go_sem,v0,v1,v2,v9],h5,.inl ⟨k,hk', h1,h2,g,c,g', c', rfl,t1,t2⟩⟩
 case round=>
  rintro l k vs W hk hl hlW hj ⟨hk', g,c,g', c', rfl,t1,t2⟩;have hs:=hj.out.2;have hq:=hj.out.1;obtain ⟨Wa,hWa⟩:∃ Wa,Wa=W.alloc (.cells #[.slice (some ⟨g,0,none⟩) R[k].1.length c,.slice (some ⟨g', 0,none⟩) R[k].2.length c', .int .i64 (k:Int)] 144):=⟨_,rfl⟩;have ka:Za W Wa:=by rw [hWa];exact Zal9
  have bx:Wa.heap[W.heap.size]? = some (.cells #[.slice (some ⟨g,0,none⟩) R[k].1.length c,.slice (some ⟨g', 0,none⟩) R[k].2.length c', .int .i64 (k:Int)] 144 (0,0)):=by rw [hWa];exact heap_alloc_new _ _
  have hsz:=hs.size
  gi_wp2_with fail
  rw [<- hWa];clear hWa;refine ⟨Rnd.same ka (by omega),λ o o' ho hoc hoc' => ?_⟩;have hpk:Zc (λ q=>q=l) Wa (Wa.putObj l o'):=Y0
  have no:∀ q,(λ q=>q=l) q->∀ cur,Wa.heap[q]? ≠ some (.cells cur 3 (0,0)):=λ q e cur hc=>by
   have e' : q=l:=e;rw [e', ho] at hc;cases hc;cases hoc
  have hjb:Za W1 (Wa.putObj l o'):=Zc.trans (hs.trans' ka) hpk (λ i hi e=>by have e' : i=l:=e;omega);have t1b:=(t1.same ka).kept hpk no;have t2b:=(t2.same ka).kept hpk no;have bxb:=Yg (o' := o') ho hoc bx rfl;obtain ⟨Wb,hWb⟩:∃ Wb,Wb=Wa.putObj l o' := ⟨_,rfl⟩;rw [<- hWb] at hjb bxb t1b t2b ⊢;have hzb:=hjb.size;clear hWb hpk no ho bx ka hs hj HH;have x0:=Zb bxb 0;have x1:=Zb bxb 1;have x2:=Zb bxb 2;obtain ⟨g0,g1,g2⟩:=BK.out Wb hjb;have c0:=Zb g0 0;simp only [List.getElem?_toArray,List.getElem?_cons_zero,List.getElem?_cons_succ] at x0 x1 x2 c0;have C:=HP.out k hk Wb g c g' c' (KW.trans' hjb) t1b t2b;cases hqk:q k with
  | false=>
   rw [hqk] at C
   have FIN:Hid (∀ w3,Za Wb w3->Rnd W1.heap.size W1.heap.size Wb w3∧Hid ((∀ j,j<k+1->q j=false)∧Za W1 w3)):=λ w3 hk3=>⟨Rnd.same hk3 (by omega),λ j hj2=>by
    by_cases e:j=k
    ·subst e;exact hqk
    ·exact hq j (by omega),hjb.trans' hk3⟩
   clear hq hqk hjb g0 g1 g2 t1b t2b HP BK PUT
   gi_wp2_with (gi_at_call 147;refine (CallsIn.inRound l (callsIn_wide.2 C)).mono ?_;rintro e w3 ⟨rfl,k3⟩;obtain ⟨m3,m4⟩:=FIN.out w3 k3)
   all_goals first | exact m3 | exact m4 | (rw [<- ez];exact m3)
  | true=>
   rw [hqk] at C
   have FINX:Hid (∀ w3,Za Wb w3->((w3.cell? ⟨W.heap.size,0,none⟩=some (.slice (some ⟨g,0,none⟩) R[k].1.length c)∧w3.cell? ⟨W.heap.size,1,none⟩=some (.slice (some ⟨g', 0,none⟩) R[k].2.length c')∧w3.cell? ⟨W.heap.size,2,none⟩=some (.int .i64 (k:Int)))∧(w3.cell? ⟨w.heap.size+1,0,none⟩=some (.slice none 0 0)∧w3.cell? ⟨w.heap.size+1,1,none⟩=some (.slice none 0 0)∧w3.cell? ⟨w.heap.size+1,2,none⟩=some (.int .i64 0)∧w3.cell? ⟨w.heap.size+1+1,0,none⟩=some (.bool false))∧w3.frozen? ⟨w.heap.size+1,0,none⟩=false∧w3.frozen? ⟨w.heap.size+1,1,none⟩=false∧w3.frozen? ⟨w.heap.size+1,2,none⟩=false∧w3.frozen? ⟨w.heap.size+1+1,0,none⟩=false)∧∀ Y,Y=(((w3.setCell ⟨w.heap.size+1,0,none⟩ (.slice (some ⟨g,0,none⟩) R[k].1.length c)).setCell ⟨w.heap.size+1,1,none⟩ (.slice (some ⟨g', 0,none⟩) R[k].2.length c')).setCell ⟨w.heap.size+1,2,none⟩ (.int .i64 (k:Int))).setCell ⟨w.heap.size+1+1,0,none⟩ (.bool true)->KeepsFrom W1.heap.size Wb Y∧Hid (ZfN (R:=R) w q Y)):=λ w3 hk3=>by
    obtain ⟨_,a1,a2⟩:=BK.out w3 (hjb.trans' hk3);have b1:=hk3.at0 bxb;refine ⟨⟨⟨Zb b1 0,Zb b1 1,Zb b1 2⟩,⟨Zb a1 0,Zb a1 1,Zb a1 2,Zb a2 0⟩,Zg a1 0,Zg a1 1,Zg a1 2,Zg a2 0⟩,λ Y hY=>?_⟩;obtain ⟨e1,e2,kx⟩:=PUT.out w3 ⟨a1,a2⟩ (.slice (some ⟨g,0,none⟩) R[k].1.length c) (.slice (some ⟨g', 0,none⟩) R[k].2.length c') (.int .i64 (k:Int)) true Y hY;have kk:=Zc.trans (hk3.mono (S' := λ q=>q=w.heap.size+1∨q=w.heap.size+1+1) (λ _ _ f=>f.elim)) kx (λ _ _ e=>e);exact ⟨⟨kk.size,λ i o hi ho _=>kk.at ho (λ e=>by rcases e with e | e <;> omega)⟩,k,hk,hqk,hq,g,c,g', c', e1,e2,((t1b.same hk3).kept kx (λ i e cur hc=>by rcases e with e | e <;> (subst e;first | (rw [a1] at hc;cases hc) | (rw [a2] at hc;cases hc)))),((t2b.same hk3).kept kx (λ i e cur hc=>by rcases e with e | e <;> (subst e;first | (rw [a1] at hc;cases hc) | (rw [a2] at hc;cases hc)))),Zc.trans ((KW.trans' hjb).trans' hk3) kx (λ i hi e=>by rcases e with e | e <;> omega)⟩
   clear hqk hjb g0 g1 g2 t1b t2b HP BK PUT hq bxb
   gi_wp2_with (gi_at_call 147;refine (CallsIn.inRound l (callsIn_wide.2 C)).mono ?_;rintro e w3 ⟨rfl,k3⟩;obtain ⟨⟨⟨y0,y1,y2⟩,⟨y3,y4,y5,y6⟩,y7,y8,y9,y10⟩,FY⟩:=FINX.out w3 k3;obtain ⟨m3,m4⟩:=FY _ rfl;clear FY)
   all_goals first | exact m3 | exact m4 | (rw [<- ez];exact m3)
end
abbrev I3:=Int × Int × Int
abbrev St9:=List I3 × List (List Int)
def setB:List I3->Nat->Int->List I3
 | [],_,_=>[]
 | x :: r,0,b=>(x.1,x.2.1,b) :: r
 | x :: r,c+1,b=>x :: setB r c b
theorem Ki:∀ (I:List I3) (c:Nat) (b:Int),(setB I c b).length=I.length
 | [],_,_=>rfl
 | _ :: _,0,_=>rfl
 | _ :: r,c+1,b=>by simp [setB,Ki r c b]
def Kp {α:Type} (f:α->St9->St9):List (Int × α)->Nat->St9->St9
 | [],_,s=>s
 | x :: r,c,s=>Kp f r (c+1) (f x.2 (setB s.1 c (s.1.length:Int),s.2))
theorem Zit {α:Type} (f:α->St9->St9):∀ (l:List (Int × α)) (x:Int × α) (c:Nat) (s:St9),Kp f (l ++ [x]) c s=f x.2 (setB (Kp f l c s).1 (c+l.length) ((Kp f l c s).1.length:Int),(Kp f l c s).2)
 | [],x,c,s=>by simp [Kp]
 | y :: r,x,c,s=>by
  rw [List.cons_append,Kp,Zit f r x (c+1),List.length_cons];simp only [Kp];rw [show c+1+r.length=c+(r.length+1) by omega]
def Xp (p:List Int) (ks:List Int) (s:St9):St9:=(s.1 ++ [(1,(s.2.length:Int),0)]++ks.map (λ k=>((2,k,0):I3)) ++ [(3,0,0)],s.2 ++ [p])
def Jz:(n:Nat)->Tr n->St9->St9
 | 0,_,s=>s
 | n+1,(k,r,p,l),s=>
  if k=1 then (s.1 ++ [(4,r,0)],s.2)
  else if k=2 then Kp (Jz n) l (s.1.length+1) (Xp p (l.map (λ x=>x.1)) s)
  else (s.1 ++ [(3,0,0)],s.2)
def Zdb:(n:Nat)->Tr n->Nat
 | 0,_=>0
 | n+1,(k,r,p,l)=>if k=2 then 3+l.length+Zc1 (l.map (λ x=>Zdb n x.2)) else 1
theorem Zhs {α:Type} {f:α->St9->St9} {g:α->Nat}:∀ (l:List (Int × α)) (c:Nat) (s:St9),(∀ x∈l,∀ s,(f x.2 s).1.length+(f x.2 s).2.length<=s.1.length+s.2.length+g x.2∧s.1.length<=(f x.2 s).1.length∧s.2.length<=(f x.2 s).2.length)->(Kp f l c s).1.length+(Kp f l c s).2.length<=s.1.length+s.2.length+Zc1 (l.map (λ x=>g x.2))∧s.1.length<=(Kp f l c s).1.length∧s.2.length<=(Kp f l c s).2.length
 | [],c,s,_=>by simp [Kp,Zc1]
 | x :: r,c,s,h=>by
  obtain ⟨a1,a2,a3⟩:=h x (List.mem_cons_self ..) (setB s.1 c (s.1.length:Int),s.2);obtain ⟨b1,b2,b3⟩:=Zhs (g:=g) r (c+1) (f x.2 (setB s.1 c (s.1.length:Int),s.2)) (λ y hy=>h y (List.mem_cons_of_mem _ hy));simp only [Ki] at a1 a2 a3;simp only [Kp,List.map_cons,Zc1];omega
theorem Zg0 (k r:Int) (p:List Int) (l:List (Int × Tr n)) (s:St9):Jz (n+1) (k,r,p,l) s=if k=1 then (s.1 ++ [(4,r,0)],s.2) else if k=2 then Kp (Jz n) l (s.1.length+1) (Xp p (l.map (λ x=>x.1)) s) else (s.1 ++ [(3,0,0)],s.2):=rfl
theorem Zlp (k r:Int) (p:List Int) (l:List (Int × Tr n)):Zdb (n+1) (k,r,p,l)=if k=2 then 3+l.length+Zc1 (l.map (λ x=>Zdb n x.2)) else 1:=rfl
theorem Znr:∀ (n:Nat) (t:Tr n) (s:St9),(Jz n t s).1.length+(Jz n t s).2.length<=s.1.length+s.2.length+Zdb n t∧s.1.length<=(Jz n t s).1.length∧s.2.length<=(Jz n t s).2.length
 | 0,_,s=>by simp [Jz,Zdb]
 | n+1,(k,r,p,l),s=>by
  rw [Zg0,Zlp]
  by_cases h1:k=1
  ·rw [if_pos h1,if_neg (by omega)];simp;omega
  ·rw [if_neg h1]
   by_cases h2:k=2
   ·rw [if_pos h2,if_pos h2]
    obtain ⟨a,b,c⟩:=Zhs (f:=Jz n) (g:=Zdb n) l (s.1.length+1) (Xp p (l.map (λ x=>x.1)) s) (λ x _ s=>Znr n x.2 s);have e1:(Xp p (l.map (λ x=>x.1)) s).1.length=s.1.length+1+l.length+1:=by simp [Xp];omega
    have e2:(Xp p (l.map (λ x=>x.1)) s).2.length=s.2.length+1:=by simp [Xp]
    rw [e1,e2] at a;rw [e1] at b;rw [e2] at c;omega
   ·rw [if_neg h2,if_neg h2];simp;omega
theorem Zjx {l:List (Int × Tr n)} (h:k=1) (s:St9):Jz (n+1) (k,r,p,l) s=(s.1 ++ [(4,r,0)],s.2):=by
 rw [Zg0,if_pos h]
theorem Zd9 {l:List (Int × Tr n)} (h:k=2) (s:St9):Jz (n+1) (k,r,p,l) s=Kp (Jz n) l (s.1.length+1) (Xp p (l.map (λ x=>x.1)) s):=by
 rw [Zg0,if_neg (by omega),if_pos h]
theorem Zjn {l:List (Int × Tr n)} (h1:¬ k=1) (h2:¬ k=2) (s:St9):Jz (n+1) (k,r,p,l) s=(s.1 ++ [(3,0,0)],s.2):=by
 rw [Zg0,if_neg h1,if_neg h2]
def flat3 (I:List I3):List Int:=I.flatMap (λ x=>[x.1,x.2.1,x.2.2])
section
open Go.RowKit
attribute [local go_sem ↓] Go.wp_at_zero Go.wp_at_succ
theorem Zv3 (x:Int) (w:World):Calls prog 185 #[.int .i64 x] w λ e w' => e=.returned (.bool (decide (x<0)))∧w' = w:=by
 go_enter func185,ntmps185
 go_wp2;go_ret;exact ⟨rfl,rfl⟩
theorem Zfv {x:Rw} (h1:Zh w ao x.2.1) (h2:Zh w bo (ofN x.2.2)) (hc:c<x.2.2.length) (hp:x.2.2[c]<x.2.1.length) :
  Calls prog 186 #[.agg #[.int .i64 x.1,.slice ao x.2.1.length ac,.slice bo x.2.2.length bc],.int .i64 (c:Int)] w λ e w' => e=.returned (.int .i64 (Vr x c))∧Za w w' := by
 obtain ⟨lb,loff,rfl,_,hl⟩:=h1.get hp;obtain ⟨pb,poff,rfl,_,hl2⟩:=h2.get (i:=c) (by rw [V1];exact hc);have e2:(ofN x.2.2)[c]'(by rw [V1];exact hc)=((x.2.2[c]:Nat):Int):=by simp [ofN]
 rw [e2] at hl2;clear e2 h1 h2;rw [Zci hc hp];have K:Hid (∀ o,Za w (w.alloc o)):=λ o=>(Zc.refl _ w).alloc o;generalize x.2.1[x.2.2[c]]=y at *;generalize x.2.2[c]=q at *;generalize x.2.1.length=n1 at *;generalize x.2.2.length=n2 at *;generalize x.1=r at *;have D1:∀ o,(w.alloc o).cell? ⟨lb,loff+q,none⟩=some (.int .i64 y):=λ o=>Vc hl o;have D2:∀ o,(w.alloc o).cell? ⟨pb,poff+c,none⟩=some (.int .i64 (q:Int)):=λ o=>Vc hl2 o;have E1:∀ o,(w.alloc o).drew.cell? ⟨lb,loff+q,none⟩=some (.int .i64 y):=λ o=>Vc hl o;have E2:∀ o,(w.alloc o).drew.cell? ⟨pb,poff+c,none⟩=some (.int .i64 (q:Int)):=λ o=>Vc hl2 o;have i1:(0:Int)<=(c:Int):=by omega
 have i2:(c:Int)<(n2:Int):=by omega
 have i3:(0:Int)<=(q:Int):=by omega
 have i4:(q:Int)<(n1:Int):=by omega
 clear hl hl2
 go_enter func186,ntmps186
 go_wp2;go_quiet (fail);go_wp2;go_ret;exact ⟨rfl,(K.out _).drewN _⟩
theorem Zse {x:Rw} (h1:Zh w ao x.2.1) (h2:Zh w bo (ofN x.2.2)) {c:Nat} (hc:c<x.2.2.length) (hp:x.2.2[c]<x.2.1.length) (hcb:w.cell? ⟨cb,0,none⟩=some (.int .i64 (c:Int))) :
  Calls prog 184 #[.agg #[.int .i64 x.1,.slice ao x.2.1.length ac,.slice bo x.2.2.length bc],.pointer (some ⟨cb,0,none⟩)] w λ e w' => e=.returned (.bool (decide (Vr x c<0)))∧Za w w' := by
 have K:∀ o,Za w (w.alloc o):=λ o=>(Zc.refl _ w).alloc o;have C:∀ o,Calls prog 186 #[.agg #[.int .i64 x.1,.slice ao x.2.1.length ac,.slice bo x.2.2.length bc],.int .i64 (c:Int)] (w.alloc o) λ e w' => e=.returned (.int .i64 (Vr x c))∧Za w w' := λ o=>(Zfv (h1.same (K o)) (h2.same (K o)) hc hp).mono (λ e w' h=>⟨h.1,(K o).trans' h.2⟩)
 have D1:∀ o,(w.alloc o).cell? ⟨cb,0,none⟩=some (.int .i64 (c:Int)):=λ o=>Vc hcb o;have C2:=Zv3;generalize Vr x c=z at *;clear h1 h2 hcb K
 go_enter func184,ntmps184
 go_wp2_with (first
  | (go_at_call 186;refine (C _).mono ?_;rintro e w1 ⟨rfl,hk⟩)
  | (go_at_call 185;refine (C2 _ _).mono ?_;rintro e w2 ⟨rfl,rfl⟩))
 go_ret;exact ⟨rfl,hk⟩
def RowsOk (n:Nat) (R:List Rw):Prop:=∀ x∈R,x.2.2.length=n∧∀ p∈x.2.2,p<x.2.1.length
theorem Zo2 {c:Nat} {rc:Nat} {R:List Rw} (hR:Ze8 w0 ro R) (hok:RowsOk n R) (hc:c<n) (hcb:w0.cell? ⟨cb,0,none⟩=some (.int .i64 (c:Int))) (hm:R.length<=100) :
  Calls prog 221 #[.slice ro R.length rc,.func (.func 184) #[] #[.pointer (some ⟨cb,0,none⟩)]] w0 λ e w' => ∃ z:Int,e=.returned (.int .i64 z)∧Ym z (R.any (λ x=>decide (Vr x c<0)))∧Za w0 w' := by
 have HB:=World.block_lt_of_cell? w0 _ hcb
 go_enter func221,ntmps221
 go_wp2
 go_loopw [8] (λ i wr=>∃ k:Nat,k<=R.length∧i=.int .i64 (k:Int)∧Hid ((R.take k).any (λ x=>decide (Vr x c<0))=false)∧Za w0 wr) (λ i _=>R.length-(intOf i).toNat)
 case atStart=>exact ⟨0,Nat.zero_le _,rfl,by show _=_;simp,Zc.refl _ _⟩
 case round=>
  obtain ⟨k,hk,rfl,ha,hw⟩:=hrel
  by_cases hlt:k<R.length
  ·obtain ⟨b,off,rfl,_,ao,ac,bo,bc,r0,r1,r2,A1,A2⟩:=(hR.same hw).get hlt
   obtain ⟨o1,o2⟩:=hok _ (List.getElem_mem hlt);have hc' : c<R[k].2.2.length:=by omega
   have C:=Zse (ac:=ac) (bc:=bc) A1.1.at' A2.1.at' hc' (o2 _ (List.getElem_mem hc')) ((hw.cell (p:=⟨cb,0,none⟩) HB (λ f=>f)).trans hcb);have i1:(0:Int)<=(k:Int):=by omega
   have i2:(k:Int)<(R.length:Int):=by omega
   have hz:∀ q:Bool,decide (Vr R[k] c<0)=q->Hid (decide (Vr R[k] c<0)=q):=λ q h=>h;cases hq:decide (Vr R[k] c<0) with
   | true=>
    have H:Hid (Ym (k:Int) (R.any (λ x=>decide (Vr x c<0)))):=by
     have e1:R.any (λ x=>decide (Vr x c<0))=true:=List.any_eq_true.2 ⟨R[k],List.getElem_mem hlt,hq⟩;show decide _=_;rw [e1];simp
    rw [hq] at C;clear hz hq ha hcb hok hR A1 A2 o2 o1
    go_wp2_with ((go_at_call 184;refine C.mono ?_;rintro e w2 ⟨rfl,hw2⟩))
    go_ret;exact ⟨_,rfl,H.out,hw.trans' hw2⟩
   | false=>
    have H:Hid ((R.take (k+1)).any (λ x=>decide (Vr x c<0))=false):=by
     have e1:=ha.out;show _=_;rw [List.take_add_one,List.getElem?_eq_getElem hlt,List.any_append,e1]
     simpa using hq
    rw [hq] at C;clear hz hq ha hcb A1 A2 o2 o1
    go_wp2_with ((go_at_call 184;refine C.mono ?_;rintro e w2 ⟨rfl,hw2⟩))
    exact ⟨⟨k+1,by omega,by go_num,H,hw.trans' hw2⟩,by simp [intOf];omega⟩
  ·have H:Hid (Ym (-1) (R.any (λ x=>decide (Vr x c<0)))):=by
    have:=ha.out;rw [List.take_of_length_le (by omega)] at this;show decide _=_;rw [this];rfl
   go_wp2;go_ret;exact ⟨_,rfl,H.out,hw⟩
theorem Zhx {c:Nat} {rc:Nat} {R:List Rw} (hR:Ze8 w0 ro R) (hok:RowsOk n R) (hc:c<n) (hcb:w0.cell? ⟨cb,0,none⟩=some (.int .i64 (c:Int))) (hm:R.length<=100) :
  Calls prog 187 #[.slice ro R.length rc,.func (.func 184) #[] #[.pointer (some ⟨cb,0,none⟩)]] w0 λ e w' => e=.returned (.bool (R.any (λ x=>decide (Vr x c<0))))∧Za w0 w' := by
 have C:=Zo2 (rc:=rc) hR hok hc hcb hm;clear hR hok hcb;generalize R.any (λ x=>decide (Vr x c<0))=z at *
 go_enter func187,ntmps187
 go_wp2_with ((go_at_call 221;refine C.mono ?_;rintro e w2 ⟨z', rfl,hz,hw2⟩))
 go_ret;exact ⟨Z5 (Ym.eq hz),hw2⟩
theorem Zx8 (R:List Rw) (c:Nat):R.any (λ x=>decide (Vr x c<0)) = !Zfd R c:=by
 unfold Zfd
 induction R with
 | nil=>rfl
 | cons x r ih=>
  simp only [List.any_cons,List.all_cons,ih,Bool.not_and];congr 1
  by_cases h:Vr x c<0
  ·simp [h]
  ·simp [h];omega
def Zfa (R:List Rw) (n:Nat):Int:=match Y6 R n with | some c=>(c:Int) | none=>-1
theorem Zdr {R : List Rw} {k:Nat} (h : Y6 R k = some c) : ∀ m, k <= m -> Y6 R m = some c
  | 0, hm => by obtain rfl : k = 0 := by omega
                exact h
  | m + 1, hm => by
    by_cases e : k = m + 1
    · subst e; exact h
    · unfold Y6
      rw [Zdr h m (by omega)]
theorem Zky {pl rc:Nat} {R:List Rw} (hR:Ze8 w ro R) (hok:RowsOk pl R) (hm:R.length<=100) (hpl:pl<=4000) :
  Calls prog 132 #[.agg #[.pointer (some ⟨bs,0,none⟩),.slice po pl pc,.slice ro R.length rc]] w λ e w' => e=.returned (.int .i64 (Zfa R pl))∧Za w w' := by
 have CC:Hid (∀ ww c,c<pl->Za w ww->Calls prog 187 #[.slice ro R.length rc,.func (.func 184) #[] #[.pointer (some ⟨ww.heap.size,0,none⟩)]] (ww.alloc (.cells #[.int .i64 (c:Int)] 3)) λ e w' => e=.returned (.bool (R.any (λ x=>decide (Vr x c<0))))∧Za (ww.alloc (.cells #[.int .i64 (c:Int)] 3)) w'):=λ ww c hc hk=>by
  have ka:Za ww (ww.alloc (.cells #[.int .i64 (c:Int)] 3)):=Zal9;exact (Zhx ((hR.same hk).same ka) hok hc (Zb (heap_alloc_new ww _) 0) hm)
 have K:Za w (w.alloc (.cells #[.pointer (some ⟨bs,0,none⟩),.slice po pl pc,.slice ro R.length rc] 181)):=(Zc.refl _ w).alloc _;have BX:Hid (∀ ww,Za (w.alloc (.cells #[.pointer (some ⟨bs,0,none⟩),.slice po pl pc,.slice ro R.length rc] 181)) ww->ww.cell? ⟨w.heap.size,1,none⟩=some (.slice po pl pc)∧ww.cell? ⟨w.heap.size,2,none⟩=some (.slice ro R.length rc)):=λ ww hk=>⟨Zb (hk.at0 (heap_alloc_new w _)) 1,Zb (hk.at0 (heap_alloc_new w _)) 2⟩;clear hR hok
 go_enter func132,ntmps132
 go_wp2
 go_loopw [8] (λ i wr=>∃ k:Nat,k<=pl∧i=.int .i64 (k:Int)∧Hid (Y6 R k=none)∧Za (w.alloc (.cells #[.pointer (some ⟨bs,0,none⟩),.slice po pl pc,.slice ro R.length rc] 181)) wr) (λ i _=>pl-(intOf i).toNat)
 case atStart=>exact ⟨0,Nat.zero_le _,rfl,rfl,Zc.refl _ _⟩
 case round=>
  obtain ⟨k,hk,rfl,ha,hw⟩:=hrel
  by_cases hlt:k<pl
  ·have C:=CC.out wr k hlt (K.trans' hw)
   have ka:Za wr (wr.alloc (.cells #[.int .i64 (k:Int)] 3)):=Zal9;obtain ⟨b1,b2⟩:=BX.out _ (hw.trans' ka);have i2:(k:Int)<(pl:Int):=by omega
   rw [Zx8] at C;cases hq:Zfd R k with
   | true=>
    have H:Hid (Zfa R pl=(k:Int)):=by
     have:Y6 R (k+1)=some k:=by unfold Y6;rw [ha.out];simp [hq]
     show _=_;unfold Zfa;rw [Zdr this pl (by omega)]
    rw [hq] at C;have HC:Hid (∀ w2,Za (wr.alloc (.cells #[.int .i64 (k:Int)] 3)) w2->w2.cell? ⟨wr.heap.size,0,none⟩=some (.int .i64 (k:Int))):=λ w2 h2=>Zb (h2.at0 (heap_alloc_new wr _)) 0;clear hq ha CC
    go_wp2_with ((go_at_call 187;refine C.mono ?_;rintro e w2 ⟨rfl,hw2⟩;have c2:=HC.out _ hw2))
    go_ret;exact ⟨Z3 H.out.symm,(K.trans' hw).trans' (ka.trans' hw2)⟩
   | false=>
    have H:Hid (Y6 R (k+1)=none):=by
     show _=_;unfold Y6;rw [ha.out];simp [hq]
    rw [hq] at C;clear hq ha
    go_wp2_with ((go_at_call 187;refine C.mono ?_;rintro e w2 ⟨rfl,hw2⟩))
    exact ⟨⟨k+1,by omega,by go_num,H,hw.trans' (ka.trans' hw2)⟩,by simp [intOf];omega⟩
  ·have H:Hid (Zfa R pl = -1):=by
    obtain rfl:k=pl:=by omega
    show _=_;unfold Zfa;rw [ha.out]
   clear ha;go_wp2;go_ret;exact ⟨Z3 H.out.symm,K.trans' hw⟩
theorem Zi2 (hgd:o.guard=none) (s x:Operand)
  (ho:o.op=.call { callee:=.builtin .append,args:=#[s,x],argTypes:=#[179,179] })
  (base N:Nat) (vs:List Value) (v:Value) (hs:a.eval s=v) (hW:Za w0 W) (hr:w0.ownsRow base 246 3 v N vs) (A B C:Value) (q:Nat) (hx:a.eval x=.slice (some ⟨q,0,none⟩) 1 1) (hq:W.heap[q]? = some (.cells #[A,B,C] 246 (0,0))) (hA:A.oneCell' = true) (hB:B.oneCell' = true) (hC:C.oneCell' = true) (hb:base<=w0.heap.size) (hsz:N<=1000)
  (h:∀ g cap w', w'.ownsRow base 246 3 (.slice (some ⟨g,0,none⟩) (N+1) cap) (N+1) (vs ++ [A,B,C])->Zc (λ k=>v.ownBlock=some k) w0 w' -> wpList prog ops Q rest (a.put o.dst (.slice (some ⟨g,0,none⟩) (N+1) cap)) w') :
  wpList prog ops Q (o :: rest) a W:=by
 obtain ⟨i,hi,hz0,hz1,hz2⟩:=info_parts Zna;refine wpList_append_own _ hgd s x 179 ho base 246 i _ 3 56 underlying179 hi hz0 hz1 hz2 rfl (by decide) v N vs hs (hW.row hr (λ _ _ f=>f)) ⟨q,0,none⟩ 1 1 [A,B,C] hx rfl (World.news_of_block (cs:=#[A,B,C]) (t:=246) (fr:=(0,0)) hq) (by intro u hu;simp at hu;rcases hu with rfl | rfl | rfl <;> assumption) (by unfold maxLen;omega) (by omega) (Nat.le_trans hb hW.size) ?_;intro v' w' hown hgrow _
 rcases hown.2 with ⟨rfl,h0⟩ | ⟨g,cap,cur,rfl,r⟩
 ·omega
 ·exact h g cap w' hown (Zc.grown (Zc.mono hW (λ _ _ f=>f.elim)) hgrow (λ _ e _=>e))
theorem Zlk {K:Act->World->Prop} {E:Prop} (hgd:o.guard=none) (s x:Operand)
  (ho:o.op=.call { callee:=.builtin .append,args:=#[s,x],argTypes:=#[179,179] })
  (base N:Nat) (vs:List Value) (v:Value) (hs:a.eval s=v) (hW:Za w0 W) (hr:w0.ownsRow base 246 3 v N vs) (A B C:Value) (q:Nat) (hx:a.eval x=.slice (some ⟨q,0,none⟩) 1 1) (hq:W.heap[q]? = some (.cells #[A,B,C] 246 (0,0))) (hA:A.oneCell' = true) (hB:B.oneCell' = true) (hC:C.oneCell' = true) (hb:base<=w0.heap.size) (hsz:N<=1000)
  (h:∀ g cap w', w'.ownsRow base 246 3 (.slice (some ⟨g,0,none⟩) (N+1) cap) (N+1) (vs ++ [A,B,C])->Zc (λ k=>v.ownBlock=some k) w0 w' -> K (a.put o.dst (.slice (some ⟨g,0,none⟩) (N+1) cap)) w') :
  if Region.wanted o (yielded ops a.tmps)=true then Oper.wp prog o a W K Q else E:=by
 obtain ⟨i,hi,hz0,hz1,hz2⟩:=info_parts Zna;refine step_append_lies _ hgd s x 179 ho base 246 i _ 3 56 underlying179 hi hz0 hz1 hz2 rfl (by decide) v N vs hs (hW.row hr (λ _ _ f=>f)) ⟨q,0,none⟩ 1 1 [A,B,C] hx rfl (World.news_of_block (cs:=#[A,B,C]) (t:=246) (fr:=(0,0)) hq) (by intro u hu;simp at hu;rcases hu with rfl | rfl | rfl <;> assumption) (by omega) (by unfold maxLen;omega) (by omega) (Nat.le_trans hb hW.size) W.heap.size rfl ?_;intro g cap w' hown hgrow hat hlt;exact h g cap w' hown (Zc.grown (Zc.mono hW (λ _ _ f=>f.elim)) hgrow (λ _ e _=>e))
theorem Zmm {vs:List Value} (h:w.ownsRow base 246 3 v N vs):∀ k,v.ownBlock=some k->∀ cur,w.heap[k]? ≠ some (.cells cur 3 (0,0)):=λ k e cur hc=>by
 obtain ⟨c,h2⟩:=Yb h e;rw [hc] at h2;cases h2
theorem Ziv {R:List Rw} {k:Nat} (h:k<R.length):Yj (R.take (k+1)) c s=Yj (R.take k) c s++(if Vr R[k] c=s then [R[k]] else []):=by
 unfold Yj;rw [List.take_add_one,List.getElem?_eq_getElem h,List.filter_append];congr 1
 by_cases e:Vr R[k] c=s <;> simp [e]
theorem Zhr (R:List Rw) (c:Nat) (s:Int):(Yj R c s).length<=R.length:=List.length_filter_le _ _
theorem Zps {nv pv:Value} {rc:Nat} {R:List Rw} (hR:Ze8 w ro R) (hok:RowsOk n R) (hm:R.length<=100) {pl:Nat} (c:Nat) (hc:c<n) (s:Int) :
  Calls prog 188 #[.agg #[.pointer (some ⟨bs,0,none⟩),.slice po pl pc,.slice ro R.length rc],.int .i64 (c:Int),.int .i64 s] w λ e w' => ∃ ho hc,e=.returned (.slice ho (Yj R c s).length hc)∧Ze8 w' ho (Yj R c s)∧(ho=none->hc=0)∧Za w w' := by
 have K:Za w (w.alloc (.cells #[.pointer (some ⟨bs,0,none⟩),.slice po pl pc,.slice ro R.length rc] 181)):=(Zc.refl _ w).alloc _
 go_enter func188,ntmps188
 go_wp2
 go_loopw [7,13] (λ lv i wr=>∃ (k:Nat) (us:List Value),k<=R.length∧i=.int .i64 (k:Int)∧Hid (wr.ownsRow w.heap.size 246 3 lv (Yj (R.take k) c s).length us)∧Hid (Yx wr us (Yj (R.take k) c s))∧Za w wr) (λ _ i _=>R.length-(intOf i).toNat)
 case atStart=>exact ⟨0,[],Nat.zero_le _,rfl,World.ownsRow_nil _ _ _ _,Yx.nil _,K⟩
 case round=>
  obtain ⟨k,us,hk,rfl,hr,hus,hw⟩:=hrel;obtain ⟨lo,lc,rfl⟩:=Zf hr.out
  by_cases hlt:k<R.length
  ·obtain ⟨b,off,rfl,hb,ao,ac,bo,bc,r0,r1,r2,A1,A2⟩:=(hR.same hw).get hlt
   obtain ⟨o1,o2⟩:=hok _ (List.getElem_mem hlt);have hc' : c<R[k].2.2.length:=by omega
   have hp:=o2 _ (List.getElem_mem hc');have ka:Za wr (wr.alloc (.cells #[.int .i64 R[k].1,.slice ao R[k].2.1.length ac,.slice bo R[k].2.2.length bc] 246)):=Zal9;have C:=Zfv (ac:=ac) (bc:=bc) (A1.1.at'.same ka) (A2.1.at'.same ka) hc' hp;have HB:Hid (∀ w2,Za (wr.alloc (.cells #[.int .i64 R[k].1,.slice ao R[k].2.1.length ac,.slice bo R[k].2.2.length bc] 246)) w2->w2.cell? ⟨wr.heap.size,0,none⟩=some (.int .i64 R[k].1)∧w2.cell? ⟨wr.heap.size,1,none⟩=some (.slice ao R[k].2.1.length ac)∧w2.cell? ⟨wr.heap.size,2,none⟩=some (.slice bo R[k].2.2.length bc)):=λ w2 h2=>⟨Zb (h2.at0 (heap_alloc_new wr _)) 0,Zb (h2.at0 (heap_alloc_new wr _)) 1,Zb (h2.at0 (heap_alloc_new wr _)) 2⟩;have i1:(0:Int)<=(k:Int):=by omega
   have i2:(k:Int)<(R.length:Int):=by omega
   have hl:=Zhr (R.take k) c s;have hl2:(R.take k).length=k:=by simp;omega
   have hN:(Yj (R.take k) c s).length<=1000:=by omega
   have HT:=Ziv (c:=c) (s:=s) hlt
   by_cases hq:Vr R[k] c=s
   ·have hqe:(Vr R[k] c == s)=true:=by simpa using hq
    rw [if_pos hq] at HT
    have FIN:Hid (∀ w2 g cap w5,Za wr w2->w5.ownsRow w.heap.size 246 3 (.slice (some ⟨g,0,none⟩) ((Yj (R.take k) c s).length+1) cap) ((Yj (R.take k) c s).length+1) (us ++ [.int .i64 R[k].1,.slice ao R[k].2.1.length ac,.slice bo R[k].2.2.length bc])->Zc (λ q=>(Value.slice lo (Yj (R.take k) c s).length lc).ownBlock=some q) w2 w5->∃ us', Hid (w5.ownsRow w.heap.size 246 3 (.slice (some ⟨g,0,none⟩) ((Yj (R.take k) c s).length+1) cap) (Yj (R.take (k+1)) c s).length us')∧Hid (Yx w5 us' (Yj (R.take (k+1)) c s))∧Za w w5):=by
     intro w2 g cap w5 k2 r5 k5;have hr2:=k2.row hr.out (λ _ _ f=>f);refine ⟨us ++ [.int .i64 R[k].1,.slice ao R[k].2.1.length ac,.slice bo R[k].2.2.length bc],?_,?_,Zc.trans (hw.trans' k2) k5 (λ i hi e=>by have:=(hr2.lt i e).1;omega)⟩
     ·show World.ownsRow _ _ _ _ _ _ _
      rw [HT,List.length_append];exact r5
     ·show Yx _ _ _
      rw [HT];exact ((hus.out.same k2).snoc (A1.same k2) (A2.same k2)).kept k5 (Zmm hr2)
    have hz0:w.heap.size<=wr.heap.size:=hw.size;have HR2:Hid (∀ w2,Za wr w2->w2.ownsRow w.heap.size 246 3 (.slice lo (Yj (R.take k) c s).length lc) (Yj (R.take k) c s).length us):=λ w2 k2=>k2.row hr.out (λ _ _ f=>f);clear hr hus HT hl hl2 A1 A2 o1 o2 hp hc' hR hok hq;generalize (Yj (R.take k) c s).length=N at *
    go_wp2_with (first
     | (go_at_call 186;refine C.mono ?_;rintro e w2 ⟨rfl,hk2⟩;obtain ⟨y0,y1,y2⟩:=HB.out _ hk2;have k2:Za wr w2:=ka.trans' hk2;have hz2:=Nat.le_trans hz0 k2.size)
     | (at_builtin;refine Zi2 (w0:=w2) rfl _ _ rfl w.heap.size N us (.slice lo N lc) rfl ((Zc.refl _ w2).alloc _) (HR2.out _ k2) (.int .i64 R[k].1) (.slice ao R[k].2.1.length ac) (.slice bo R[k].2.2.length bc) w2.heap.size rfl (heap_alloc_new w2 _) rfl rfl rfl hz2 hN ?_;intro g cap w5 r5 k5))
    obtain ⟨us', z1,z2,z3⟩:=FIN.out w2 g cap w5 k2 r5 k5;exact ⟨⟨k+1,us', by omega,by go_num,z1,z2,z3⟩,by simp [intOf];omega⟩
   ·have hqe:(Vr R[k] c == s)=false:=by simpa using hq
    rw [if_neg hq,List.append_nil] at HT
    have FIN:Hid (∀ w2,Za wr w2->Hid (w2.ownsRow w.heap.size 246 3 (.slice lo (Yj (R.take k) c s).length lc) (Yj (R.take (k+1)) c s).length us)∧Hid (Yx w2 us (Yj (R.take (k+1)) c s))):=λ w2 k2=>by
     refine ⟨?_,?_⟩
     ·show World.ownsRow _ _ _ _ _ _ _
      rw [HT];exact k2.row hr.out (λ _ _ f=>f)
     ·show Yx _ _ _
      rw [HT];exact hus.out.same k2
    clear hr hus HT hl hl2 A1 A2 o1 o2 hp hc' hR hok hq;generalize (Yj (R.take k) c s).length=N at *
    go_wp2_with (first
     | (go_at_call 186;refine C.mono ?_;rintro e w2 ⟨rfl,hk2⟩;have k2:Za wr w2:=ka.trans' hk2))
    obtain ⟨z1,z2⟩:=FIN.out w2 k2;exact ⟨⟨k+1,us,by omega,by go_num,z1,z2,hw.trans' k2⟩,by simp [intOf];omega⟩
  ·have e1:R.take k=R:=List.take_of_length_le (by omega)
   have hr' := hr.out;have hus' := hus.out;rw [e1] at hr' hus';obtain ⟨ho,hcc,q1,q2,q3,_⟩:=Zg6 hr' hus';have FIN:Hid (∃ ho hc,Value.slice lo (Yj (R.take k) c s).length lc=.slice ho (Yj R c s).length hc∧Ze8 wr ho (Yj R c s)∧(ho=none->hc=0)∧Za w wr):=⟨ho,hcc,by rw [<- q1,e1],q2,q3,hw⟩;clear hr hus hr' hus' q1 q2 q3 e1 hR hok;generalize (Yj (R.take k) c s).length=N at *;go_wp2;go_ret;obtain ⟨ho,hc,q1,q2⟩:=FIN.out;exact ⟨ho,hc,by rw [q1];rfl,q2⟩
end
end Go.Proofs.YtmjgnfkbnofjoaaGreatDoor
