import Derived.Test.YtdhiiicppcgkbaaGreatGB14
import Derived.Test.YtdhiiicppcgkbaaGreatGB17
import Derived.Test.YtdhiiicppcgkbaaGreatGB05
import Derived.Test.YtdhiiicppcgkbaaGreatGB28
import Derived.Test.YtdhiiicppcgkbaaGreatGB19
import Derived.Test.YtdhiiicppcgkbaaGreatGB10
import Derived.Test.YtdhiiicppcgkbaaGreatGB06
import Derived.Test.YtdhiiicppcgkbaaGreatGB03
namespace Go.Proofs.YtdhiiicppcgkbaaGreat
set_option maxRecDepth 100000
set_option linter.unusedVariables false
open Go.RowKit
attribute [local go_sem ↓] Go.wp_at_zero Go.wp_at_succ
theorem sameB_self (p:List Int):sameB p p=true:=by simp [sameB]
set_option maxHeartbeats 2000000 in
theorem fsame_any {w:World} {k r nd:Int} {p:List Int} {po po' : Option Addr} {pc pc' : Nat} (ha:IntsAt w po p) (hb:IntsAt w po' p) (hl:p.length≤maxLen) :
  Calls Tryz.prog 27 #[.agg #[.int .i64 k,.int .i64 r,.slice po p.length pc,.int .i64 nd],.agg #[.int .i64 k,.int .i64 r,.slice po' p.length pc', .int .i64 nd]] w fun e w' => e=.returned (.bool true)∧Same0 w w' := by
 obtain ⟨W1,hW1⟩:∃ W1,W1=(w.alloc (.cells #[.int .i64 k,.int .i64 r,.slice po p.length pc,.int .i64 nd] 73)).alloc (.cells #[.int .i64 k,.int .i64 r,.slice po' p.length pc', .int .i64 nd] 73):=⟨_,rfl⟩
 have KW:Same0 w W1:=by rw [hW1];exact ((Kept.refl _ w).alloc _).alloc _
 have BX:Hid (∀ ww,Same0 W1 ww→(ww.cell? ⟨w.heap.size,0,none⟩=some (.int .i64 k)∧ww.cell? ⟨w.heap.size,1,none⟩=some (.int .i64 r)∧ww.cell? ⟨w.heap.size,2,none⟩=some (.slice po p.length pc)∧ww.cell? ⟨w.heap.size,3,none⟩=some (.int .i64 nd))∧ww.cell? ⟨w.heap.size+1,0,none⟩=some (.int .i64 k)∧ww.cell? ⟨w.heap.size+1,1,none⟩=some (.int .i64 r)∧ww.cell? ⟨w.heap.size+1,2,none⟩=some (.slice po' p.length pc')∧ww.cell? ⟨w.heap.size+1,3,none⟩=some (.int .i64 nd)):=fun ww hk=>by
  have h1:=hk.at0 (show W1.heap[w.heap.size]? = _ by rw [hW1];exact heap_alloc2_old _ _ _)
  have h2:=hk.at0 (show W1.heap[w.heap.size+1]? = _ by rw [hW1];exact heap_al_al _ _ _)
  exact ⟨⟨cellAt h1 0,cellAt h1 1,cellAt h1 2,cellAt h1 3⟩,cellAt h2 0,cellAt h2 1,cellAt h2 2,cellAt h2 3⟩
 have CP:=same_any (acap:=pc) (bcap:=pc') (ha.same KW) (hb.same KW) hl
 rw [sameB_self] at CP
 obtain ⟨⟨x0,x1,x2,x3⟩,y0,y1,y2,y3⟩:=BX.out W1 (Kept.refl _ _)
 have ek:(k == k)=true:=by simp
 have er:(r == r)=true:=by simp
 have en:(nd == nd)=true:=by simp
 clear ha hb
 go_enter Tryz.func27,Tryz.ntmps27
 go_upto_region 1 with fail
 rw [← hW1]
 clear hW1
 go_upto_region 2 with (first | (go_at_call 43;refine CP.mono ?_;rintro e w2 ⟨rfl,k2⟩))
 obtain ⟨⟨u0,u1,u2,u3⟩,v0,v1,v2,v3⟩:=BX.out w2 k2
 clear x0 x1 x2 x3 y0 y1 y2 y3 CP
 go_wp2_with fail
 go_ret
 exact ⟨by simp,KW.trans' k2⟩
theorem nm8_z:nameB ⟨#[122]⟩=true:=by decide +kernel
theorem nm8_s:nameB ⟨#[115]⟩=true:=by decide +kernel
theorem nm8_add:nameB ⟨#[97,100,100]⟩=true:=by decide +kernel
theorem nm8_h:nameB ⟨#[104]⟩=true:=by decide +kernel
def tree8 (n:Nat):Tr (n+1+1):=(2,0,[0],[(0,((1,0,[],[]):Int × Int × List Int × List (Int × Tr n))),(1,((1,1,[],[]):Int × Int × List Int × List (Int × Tr n)))])
theorem SymsAt.same8 {w w' : World} {ao:Option Addr} {len:Nat} {xs:List Sym} (h:SymsAt w ao len xs) (hk:Same0 w w'):SymsAt w' ao len xs:=by
 obtain ⟨h1,h2,h3⟩:=h
 refine ⟨h1,h2.imp id ?_,h3⟩
 rintro ⟨b,off,e,hb,hc⟩
 refine ⟨b,off,e,Nat.lt_of_lt_of_le hb hk.size,fun i hi=>?_⟩
 obtain ⟨c1,c2,c3⟩:=hc i hi
 exact ⟨(hk.cell (p:=⟨b,_,none⟩) hb (fun f=>f)).trans c1,(hk.cell (p:=⟨b,_,none⟩) hb (fun f=>f)).trans c2,(hk.cell (p:=⟨b,_,none⟩) hb (fun f=>f)).trans c3⟩
def wtN (Q:List (Int × List Int)):Nat:=Q.countP (fun p=>decide (0≤p.1))
theorem wtN_step {Q:List (Int × List Int)} {k:Nat} (h:k<Q.length):wtN (Q.take (k+1))=wtN (Q.take k)+if 0≤Q[k].1 then 1 else 0:=by
 unfold wtN
 rw [← List.take_append_getElem h,List.countP_append]
 simp [List.countP_cons]
theorem wtN_le (Q:List (Int × List Int)):wtN Q≤Q.length:=List.countP_le_length
def RgAt (w:World) (ro:Option Addr) (Q:List (List (Int × List Int))):Prop:=
 Q=[]∨∃ b off,ro=some ⟨b,off,none⟩∧b<w.heap.size∧∀ i (h:i<Q.length),∃ g gc,w.cell? ⟨b,off+i,none⟩=some (.slice (some ⟨g,0,none⟩) Q[i].length gc)∧g<w.heap.size∧∀ j (hj:j<Q[i].length),∃ ao al ac,w.cell? ⟨g,j * 2,none⟩=some (.int .i64 Q[i][j].1)∧w.cell? ⟨g,j * 2+1,none⟩=some (.slice ao al ac)
theorem RgAt.same {w w' : World} {ro:Option Addr} {Q:List (List (Int × List Int))} (h:RgAt w ro Q) (hk:Same0 w w'):RgAt w' ro Q:=by
 refine h.imp id ?_
 rintro ⟨b,off,e,hb,hc⟩
 refine ⟨b,off,e,Nat.lt_of_lt_of_le hb hk.size,fun i hi=>?_⟩
 obtain ⟨g,gc,c0,hg,c1⟩:=hc i hi
 refine ⟨g,gc,(hk.cell (p:=⟨b,off+i,none⟩) hb (fun f=>f)).trans c0,Nat.lt_of_lt_of_le hg hk.size,fun j hj=>?_⟩
 obtain ⟨ao,al,ac,d0,d1⟩:=c1 j hj
 exact ⟨ao,al,ac,(hk.cell (p:=⟨g,j * 2,none⟩) hg (fun f=>f)).trans d0,(hk.cell (p:=⟨g,j * 2+1,none⟩) hg (fun f=>f)).trans d1⟩
set_option maxHeartbeats 8000000 in
theorem weight_any {w:World} {ro:Option Addr} {Q:List (List (Int × List Int))} (hR:RgAt w ro Q) (hl:∀ i (h:i<Q.length),Q[i].length≤140737488355328) (io po eo:Option Addr) (il ic pl pc el ec rc:Nat) (n:Int) :
  Calls Tryz.prog 21 #[.agg #[.slice io il ic,.slice po pl pc,.slice eo el ec,.slice ro Q.length rc],.int .i64 n] w fun e w' => e=.returned (.tuple #[.int .i64 (if idxB n Q.length then (wtN (Q.getD n.toNat []):Int) else 0),.int .i64 (if idxB n Q.length then 0 else 91)])∧Same0 w w' := by
 have CI:=isIndex_any n Q.length
 obtain ⟨W1,hW1⟩:∃ W1,W1=w.alloc (.cells #[.slice io il ic,.slice po pl pc,.slice eo el ec,.slice ro Q.length rc] 45):=⟨_,rfl⟩
 have ka:Same0 w W1:=by rw [hW1];exact (Kept.refl _ w).alloc _
 have hbx:W1.heap[w.heap.size]? = some (.cells #[.slice io il ic,.slice po pl pc,.slice eo el ec,.slice ro Q.length rc] 45 (0,0)):=by rw [hW1];exact heap_alloc_new w _
 have x3:W1.cell? ⟨w.heap.size,3,none⟩=some (.slice ro Q.length rc):=cellAt hbx 3
 cases hi:idxB n Q.length with
 | false=>
  rw [hi] at CI
  clear hi hR hbx hl
  go_enter Tryz.func21,Tryz.ntmps21
  go_upto_region 1 with fail
  rw [← hW1]
  clear hW1
  go_wp2_with (first | (go_at_call 56;refine (CI _).mono ?_;rintro e w2 ⟨rfl,rfl⟩))
  go_ret2
  exact ⟨rfl,ka⟩
 | true=>
  rw [hi] at CI
  obtain ⟨i,rfl,hil⟩:=idx_yes hi
  have hq:Q.getD ((i:Int)).toNat []=Q[i]:=by rw [Int.toNat_natCast];simp [hil]
  rw [hq]
  obtain ⟨b,off,rfl,hb,hc⟩:∃ b off,ro=some ⟨b,off,none⟩∧b<W1.heap.size∧∃ g gc,W1.cell? ⟨b,off+i,none⟩=some (.slice (some ⟨g,0,none⟩) Q[i].length gc)∧g<W1.heap.size∧∀ j (hj:j<Q[i].length),∃ ao al ac,W1.cell? ⟨g,j * 2,none⟩=some (.int .i64 Q[i][j].1)∧W1.cell? ⟨g,j * 2+1,none⟩=some (.slice ao al ac):=by
   rcases hR.same ka with h | ⟨b,off,e,hb,hc⟩
   ·rw [h] at hil;simp at hil
   ·exact ⟨b,off,e,hb,hc i hil⟩
  obtain ⟨g,gc,c0,hg,c1⟩:=hc
  have HL:=hl i hil
  generalize Q[i]=q at *
  have HC:Hid (∀ wr,Same0 W1 wr→∀ j (hj:j<q.length),∃ ao al ac,wr.cell? ⟨g,j * 2,none⟩=some (.int .i64 q[j].1)∧wr.cell? ⟨g,j * 2+1,none⟩=some (.slice ao al ac)):=fun wr hk j hj=>by
   obtain ⟨ao,al,ac,d0,d1⟩:=c1 j hj
   exact ⟨ao,al,ac,(hk.cell (p:=⟨g,j * 2,none⟩) hg (fun f=>f)).trans d0,(hk.cell (p:=⟨g,j * 2+1,none⟩) hg (fun f=>f)).trans d1⟩
  have i1:(0:Int)≤(i:Int):=by omega
  have i2:(i:Int)<(Q.length:Int):=by omega
  clear hi hR hbx hl c1 hq
  go_enter Tryz.func21,Tryz.ntmps21
  go_upto_region 1 with fail
  rw [← hW1]
  clear hW1
  go_upto_region 5 with (first | (go_at_call 56;refine (CI _).mono ?_;rintro e w2 ⟨rfl,rfl⟩))
  go_loopw [6,21] (fun s6 s21 wr=>∃ k:Nat,k≤q.length∧s6=.int .i64 (wtN (q.take k):Int)∧s21=.int .i64 (k:Int)∧Same0 w2 wr) (fun _ s21 _=>q.length-(intOf s21).toNat)
  case atStart=>exact ⟨0,Nat.zero_le _,by simp [wtN],rfl,Kept.refl _ _⟩
  case round=>
   obtain ⟨k,hk,rfl,rfl,hs⟩:=hrel
   by_cases hlt:k<q.length
   ·obtain ⟨ao,al,ac,d0,d1⟩:=HC.out wr hs k hlt
    have hst:=wtN_step hlt
    have hle:=wtN_le (q.take k)
    rw [List.length_take] at hle
    have hle2:wtN (q.take k)≤k:=by omega
    have j1:(0:Int)≤(k:Int):=by omega
    have j2:(k:Int)<(q.length:Int):=by omega
    generalize q[k].1=x at *
    generalize wtN (q.take k)=m at *
    by_cases hx:0≤x
    ·rw [if_pos hx] at hst
     go_wp2_with fail
     go_roundw
     case rel=>exact ⟨k+1,by omega,by rw [hst];go_num,by go_num,hs.trans' (Kept.alloc (Kept.refl _ _) _)⟩
     case measure=>simp [intOf];omega
    ·rw [if_neg hx] at hst
     go_wp2_with fail
     go_roundw
     case rel=>exact ⟨k+1,by omega,by rw [hst];go_num,by go_num,hs.trans' (Kept.alloc (Kept.refl _ _) _)⟩
     case measure=>simp [intOf];omega
   ·obtain rfl:k=q.length:=by omega
    rw [List.take_length]
    go_wp2_with fail
    go_ret2
    exact ⟨rfl,ka.trans' hs⟩
theorem Lay.insAt {B:Nat→Prop} {w:World} {io:Option Addr} {n ic:Nat} {vp:Value} {s:St9} (h:Lay B w (.slice io n ic) vp s):InsAt w io s.1:=by
 rcases h.ri.2 with ⟨e,h0⟩ | ⟨g,cap,cur,e,hb,hg,h1,h2,h3,h4⟩
 ·exact .inl (List.eq_nil_of_length_eq_zero h0)
 ·cases e
  refine .inr ⟨g,0,rfl,lt_of_at hg,fun i hi=>?_⟩
  obtain ⟨a,b,c⟩:=insV_at hi
  rw [Nat.zero_add,h.ri.cellAt _ (by omega),h.ri.cellAt _ (by omega),h.ri.cellAt _ (by omega)]
  exact ⟨a,b,c⟩
theorem Lay.pthAt {B:Nat→Prop} {w:World} {po:Option Addr} {n pc:Nat} {vi:Value} {s:St9} (h:Lay B w vi (.slice po n pc) s):PthAt w po s.2:=by
 obtain ⟨vs,hr,hp⟩:=h.rp
 rcases hr.2 with ⟨e,h0⟩ | ⟨g,cap,cur,e,hb,hg,h1,h2,h3,h4⟩
 ·exact .inl (List.eq_nil_of_length_eq_zero h0)
 ·cases e
  refine .inr ⟨g,0,rfl,lt_of_at hg,fun i hi=>?_⟩
  obtain ⟨ao,ac,a,b,_⟩:=hp.2 i hi
  refine ⟨ao,ac,?_,b.1⟩
  rw [Nat.zero_add,hr.cellAt _ (by omega)]
  exact a
theorem RtC.rgAt {base:Nat} {w:World} {ro:Option Addr} {n rc:Nat} {cs:List Value} {Q:List (List (Int × List Int))} (hr:w.ownsRow base 62 1 (.slice ro n rc) n cs) (h:RtC base w cs Q):RgAt w ro Q:=by
 have hn:Q.length=n:=by have:=hr.1;have:=h.1;omega
 rcases hr.2 with ⟨e,h0⟩ | ⟨g,cap,cur,e,hb,hg,h1,h2,h3,h4⟩
 ·exact .inl (List.eq_nil_of_length_eq_zero (by omega))
 ·cases e
  refine .inr ⟨g,0,rfl,lt_of_at hg,fun i hi=>?_⟩
  obtain ⟨g', gc,a,b,cu,c1,c2,c3⟩:=h.2 i hi
  refine ⟨g', gc,?_,lt_of_at c1,fun j hj=>?_⟩
  ·rw [Nat.zero_add,hr.cellAt _ (by omega)]
   exact a
  ·obtain ⟨ao,ac,d1,d2,_⟩:=c3 j hj hj
   exact ⟨ao,_,ac,(cellAt c1 _).trans d1,(cellAt c1 _).trans d2⟩
theorem AIn.more {L:List Sym} {T:List Int} {wp wr w1:World} {gA gE p j gg cap:Nat} {en:Nat→Int} {f:Nat→Value} {vo:Option Addr} {vc:Nat} (hT:IsT L T) (hp:p<T.length) (hj:j<arN L T[p]) (hg:gA≠gE) (hlA:gA<wp.heap.size) (hlE:gE<wp.heap.size) (h6:∀ q,p+1≤q→q<T.length→en q=(endN L T q:Int))
  (h1:Kept (fun k=>k=gE∨k=gA) wp wr) (h2:Nums wr gE T.length (fun q=>if q=p then (past L T j (p+1):Int) else en q)) (h3:Lsts wr gA T.length (fun q=>if q=p then .slice vo j vc else f q)) (h4:wr.ownsRow wp.heap.size 3 1 (.slice vo j vc) j (iv (ofN (starts L T j (p+1)))))
  (hr:w1.ownsRow wp.heap.size 3 1 (.slice (some ⟨gg,0,none⟩) (j+1) cap) (j+1) (iv (ofN (starts L T j (p+1))) ++ [.int .i64 (past L T j (p+1):Int)])) (hk:Kept (fun k=>(Value.slice vo j vc).ownBlock=some k) wr w1) (hat:(Value.slice vo j vc).ownBlock=some gg∨wr.heap.size≤gg) :
  (w1.cell? ⟨gA,p,none⟩=some (.slice vo j vc)∧w1.frozen? ⟨gA,p,none⟩=false) ∧
  ((w1.setCell ⟨gA,p,none⟩ (.slice (some ⟨gg,0,none⟩) (j+1) cap)).cell? ⟨gE,p,none⟩=some (.int .i64 (past L T j (p+1):Int))∧(w1.setCell ⟨gA,p,none⟩ (.slice (some ⟨gg,0,none⟩) (j+1) cap)).cell? ⟨gE,past L T j (p+1),none⟩=some (.int .i64 (endN L T (past L T j (p+1)):Int))∧(w1.setCell ⟨gA,p,none⟩ (.slice (some ⟨gg,0,none⟩) (j+1) cap)).frozen? ⟨gE,p,none⟩=false) ∧
  AIn L T wp gA gE p en f (j+1) ((w1.setCell ⟨gA,p,none⟩ (.slice (some ⟨gg,0,none⟩) (j+1) cap)).setCell ⟨gE,p,none⟩ (.int .i64 (endN L T (past L T j (p+1)):Int))):=by
 have hf:=(Forest.one hT hp).kids.2
 have hfk:=hf.drop (i:=j) (by omega)
 rw [show arN L T[p]-j=(arN L T[p]-j-1)+1 by omega] at hfk
 have hq:past L T j (p+1)<T.length:=by have:=hfk.pos;have:=hfk.le;omega
 have hfj:=hf.drop (i:=0) (by omega)
 have hge:p+1≤past L T j (p+1):=by
  have:=(Forest.le (k:=arN L T[p]-j-1+1) hfk)
  rcases Nat.eq_zero_or_pos j with e | e
  ·subst e;exact Nat.le_refl _
  ·have h9:=past_mono hf (i:=0) (j:=j) e (by omega)
   have h10:=hf
   rw [show arN L T[p]=(arN L T[p]-1)+1 by omega] at h10
   have:=h10.succ.2.1
   simp only [past] at h9
   omega
 have hbz:=h1.size
 have own:∀ k,(Value.slice vo j vc).ownBlock=some k→wp.heap.size≤k:=fun k e=>by
  rcases h4.2 with ⟨e1,_⟩ | ⟨g,c,cur,e1,e2,_⟩
  ·rw [e1] at e;simp [Value.ownBlock] at e
  ·rw [e1] at e;simp only [Value.ownBlock,Option.some.injEq] at e;omega
 have nA:¬ (Value.slice vo j vc).ownBlock=some gA:=fun e=>by have:=own _ e;omega
 have nE:¬ (Value.slice vo j vc).ownBlock=some gE:=fun e=>by have:=own _ e;omega
 have gge:wp.heap.size≤gg:=by
  rcases hat with e | e
  ·exact own _ e
  ·omega
 have v1:=h3.kept hk nA
 have n1:=h2.kept hk nE
 have v2:=v1.set p (.slice (some ⟨gg,0,none⟩) (j+1) cap)
 have k2:Kept (fun k=>k=gA) w1 (w1.setCell ⟨gA,p,none⟩ (.slice (some ⟨gg,0,none⟩) (j+1) cap)):=kept_at _ _ _ _
 have n2:=n1.kept k2 (fun e=>hg e.symm)
 have k3:Kept (fun k=>k=gE) (w1.setCell ⟨gA,p,none⟩ (.slice (some ⟨gg,0,none⟩) (j+1) cap)) ((w1.setCell ⟨gA,p,none⟩ (.slice (some ⟨gg,0,none⟩) (j+1) cap)).setCell ⟨gE,p,none⟩ (.int .i64 (endN L T (past L T j (p+1)):Int))):=kept_at _ _ _ _
 have n3:=n2.set p (endN L T (past L T j (p+1)):Int)
 have v3:=v2.kept k3 (fun e=>hg e)
 have a1:=v1.cell hp
 have a2:=n2.cell hp
 have a3:=n2.cell hq
 simp only [if_pos] at a1 a2
 rw [if_neg (by omega),h6 _ hge hq] at a3
 refine ⟨a1,⟨a2.1,a3.1,a2.2⟩,?_,?_,some ⟨gg,0,none⟩,cap,?_,?_⟩
 ·exact Kept.trans (Kept.trans (Kept.trans h1 hk (fun i hi e=>by have:=own _ e;omega)) k2 (fun _ _ e=>.inr e)) k3 (fun _ _ e=>.inl e)
 ·refine n3.congr (fun i hi=>?_)
  by_cases e:i=p
  ·rw [if_pos e,if_pos e,past_succ]
  ·rw [if_neg e,if_neg e,if_neg e]
 ·refine v3.congr (fun i hi=>?_)
  by_cases e:i=p
  ·rw [if_pos e,if_pos e]
  ·rw [if_neg e,if_neg e,if_neg e]
 ·have r2:=k3.row (k2.row hr (fun k e q=>by simp only [Value.ownBlock,Option.some.injEq] at e;omega)) (fun k e q=>by simp only [Value.ownBlock,Option.some.injEq] at e;omega)
  rw [starts_snoc]
  have:iv (ofN (starts L T j (p+1) ++ [past L T j (p+1)]))=iv (ofN (starts L T j (p+1))) ++ [.int .i64 (past L T j (p+1):Int)]:=by simp [ofN,iv]
  rw [this]
  exact r2
theorem AOut.psb {L:List Sym} {T:List Int} {w wr:World} {gA gE:Nat} (h:AOut L T w gA gE 0 wr):PsB w.heap.size wr (some ⟨gA,0,none⟩) (argsL L T)∧Same0 w wr:=by
 obtain ⟨h0,h1,h2,h3,en,f,h4,h5,h6,h7,h8⟩:=h
 refine ⟨.inr ⟨gA,0,rfl,h2,h5.lt,fun i hi=>?_⟩,h0⟩
 have hi' : i<T.length:=by rw [argsL_length] at hi;exact hi
 obtain ⟨ao,ac,e1,e2,e3⟩:=h8 i (Nat.zero_le _) hi'
 refine ⟨ao,ac,?_,by rw [argsL_at];exact e2,fun a e=>(e3 a e).2.2⟩
 rw [argsL_at,ofN_len,Nat.zero_add,← e1]
 exact (h5.cell hi').1
set_option maxHeartbeats 16000000 in
theorem argsOf_any {n b:Nat} {w:World} {L:List Sym} (h:Sg n w b L) {ao:Option Addr} {cap:Nat} {T:List Int} (ht:IntsAt w ao T) (hc:checkE L T=0) (hv:∀ x∈T,0≤x) :
  Calls Tryz.prog 63 #[.pointer (some ⟨b,0,none⟩),.slice ao T.length cap] w fun e w' => ∃ go gc,e=.returned (.slice go T.length gc)∧PsB w.heap.size w' go (argsL L T)∧Same0 w w' := by
 obtain ⟨hm,hbad,hT⟩:=checkE_zero.1 hc
 have hnum:Hid (∀ p (hp:p<T.length),∃ i:Nat,T[p]=(i:Int)∧i<L.length):=fun p hp=>by
  have h1:=badE_zero.1 hbad T[p] (List.getElem_mem hp)
  have h2:=hv T[p] (List.getElem_mem hp)
  exact ⟨T[p].toNat,by omega,by omega⟩
 have CAT:Hid (∀ ww i (hi:i<L.length),Same0 w ww→Calls Tryz.prog 105 #[.pointer (some ⟨b,0,none⟩),.int .i64 (i:Int)] ww fun e w' => ∃ nm df,e=.returned (.tuple #[.agg #[.string nm,.int .i64 ((arN L (i:Int):Nat):Int),.bool df],.int .i64 0])∧Same0 ww w'):=fun ww i hi hk=>by
  refine (sg_at_yes (h.same hk) hi).mono ?_
  rintro e w' ⟨rfl,hk'⟩
  exact ⟨_,_,by rw [ar_of h.2 hi],hk'⟩
 have HAR:=fun z=>arN_le h.2 z
 obtain ⟨i1,hi1,hz0,hz1,hz2⟩:=info_parts info_intT
 obtain ⟨i2,hi2,hy0,hy1,hy2⟩:=info_parts (show (Tryz.prog.info? 22).map (fun i=>(i.zero,i.size,i.bytes))=some (some (.slice none 0 0),1,24) by kernel_rfl)
 obtain ⟨N,hN⟩:∃ N,N=T.length:=⟨_,rfl⟩
 have hmN:N≤2000:=by omega
 have mA:∀ w:World,(Instr.makeSlice 28 (.int .i64 (N:Int)) (.int .i64 (N:Int))).run Tryz.prog w=.ok (.slice (some ⟨w.heap.size,0,none⟩) N N) (w.alloc (.cells (madeCells #[.slice none 0 0] N) 22)):=fun w=>by
  have:=run_make w 28 22 i2 _ Tryz.underlying28 hi2 hy0 .i64 .i64 (N:Int) (N:Int) (by omega) (by omega) (by rw [hy2];omega) (by omega)
  simpa [hy1,Value.cells] using this
 have mE:∀ w:World,(Instr.makeSlice 22 (.int .i64 (N:Int)) (.int .i64 (N:Int))).run Tryz.prog w=.ok (.slice (some ⟨w.heap.size,0,none⟩) N N) (w.alloc (.cells (madeCells #[.int .i64 0] N) 3)):=fun w=>by
  have:=run_make w 22 3 i1 _ Tryz.underlying22 hi1 hz0 .i64 .i64 (N:Int) (N:Int) (by omega) (by omega) (by rw [hz2];omega) (by omega)
  simpa [hz1,Value.cells] using this
 have HN:Hid (N=T.length∧IsT L T):=⟨hN,hT⟩
 have START:Hid (∀ wc gA gE,Same0 w wc→gA≠gE→w.heap.size≤gA→w.heap.size≤gE→wc.heap[gA]? = some (.cells (madeCells #[.slice none 0 0] N) 22 (0,0))→wc.heap[gE]? = some (.cells (madeCells #[.int .i64 0] N) 3 (0,0))→AOut L T w gA gE N wc):=by
  intro wc gA gE k1 k2 k3 k4 k5 k6
  subst hN
  exact ⟨k1,k2,k3,k4,fun _=>0,fun _=>.slice none 0 0,⟨_,_,k6,by rw [size_madeCells];exact Nat.le_refl _,fun i hi=>umade_zero _ i hi⟩,⟨_,k5,size_madeCells _ _,fun i hi=>made_slices _ i hi⟩,fun q a b=>by omega,fun q _=>rfl,fun q a b=>by omega⟩
 have HT:Hid (∀ ww p (hp:p<T.length),Same0 w ww→∃ tb off,ao=some ⟨tb,off,none⟩∧ww.cell? ⟨tb,off+p,none⟩=some (.int .i64 T[p])):=fun ww p hp hk=>by
  obtain ⟨tb,off,e,_,hcc⟩:=(ht.same hk).get hp
  exact ⟨tb,off,e,hcc⟩
 rw [← hN]
 clear h ht hc hv hbad hm hT hN
 go_enter Tryz.func63,Tryz.ntmps63
 go_upto_region 1 with fail
 go_cut [5,6] from 10 to 15 (fun s5 s6 wc=>∃ gA gE,s5=.slice (some ⟨gA,0,none⟩) N N∧s6=.slice (some ⟨gE,0,none⟩) N N∧AOut L T w gA gE N wc)
 case first=>
  go_region
  all_goals
   go_wp2_with fail
   go_meet
   case rel=>
    first
     | exact ⟨_,_,rfl,rfl,START.out _ _ _ (Kept.drew (Kept.alloc (Kept.alloc (Kept.refl _ w) _) _)) (by omega) (by omega) (by omega) (heap_alloc2_old w _ _) (heap_al_al w _ _)⟩
     | exact ⟨_,_,rfl,rfl,START.out _ _ _ (Kept.drew (Kept.alloc (Kept.alloc (Kept.refl _ w) _) _)) (by omega) (by omega) (by omega) (heap_al_al w _ _) (heap_alloc2_old w _ _)⟩
 case rest=>
  obtain ⟨gA,gE,rfl,rfl,hO⟩:=hcut
  clear START mA mE
  go_wp2_with fail
  go_loopw [7] (fun s7 wr=>∃ k:Nat,k≤N∧s7=.int .i64 ((k:Int)-1)∧AOut L T w gA gE k wr) (fun s7 _=>(intOf s7+1).toNat)
  case atStart=>exact ⟨N,Nat.le_refl _,by go_num,hO⟩
  case round=>
   clear hO
   obtain ⟨k,hk,rfl,hO⟩:=hrel
   cases k with
   | zero=>
    obtain ⟨q1,q2⟩:=hO.psb
    clear hO
    go_wp2_with fail
    go_ret
    exact ⟨_,_,rfl,q1,q2⟩
   | succ p=>
    have hs7:(((p+1:Nat):Int)-1)=(p:Int):=by omega
    rw [hs7]
    have hp:p<T.length:=by have:=HN.out.1;omega
    obtain ⟨i,hTi,hiL⟩:=hnum.out p hp
    obtain ⟨tb,off,rfl,hcell⟩:=HT.out wr p hp hO.1
    rw [hTi] at hcell
    have CA:=CAT.out wr i hiL hO.1
    obtain ⟨A,hA⟩:∃ A,arN L (i:Int)=A:=⟨_,rfl⟩
    have HA:Hid (arN L T[p]=A):=by show _=_;rw [hTi];exact hA
    have hA6:A≤6:=by rw [← hA];exact HAR _
    rw [hA] at CA
    have j1:(0:Int)≤(p:Int):=by omega
    have j2:(p:Int)<(N:Int):=by omega
    have j3:(p:Int)<2000:=by omega
    have HO:Hid (∀ ww,Same0 wr ww→AOut L T w gA gE (p+1) ww):=fun ww hk=>hO.same hk
    clear hTi hA hO
    go_upto_region 6 with (first | (go_at_call 105;refine CA.mono ?_;rintro e w1 ⟨nm,df,rfl,k1⟩))
    obtain ⟨w2,hw2⟩:∃ w2,w2=w1.alloc (.cells #[.string nm,.int .i64 ((A:Nat):Int),.bool df] 82):=⟨_,rfl⟩
    have k2:Same0 w1 w2:=by rw [hw2];exact (Kept.refl _ _).alloc _
    have bx:w2.heap[w1.heap.size]? = some (.cells #[.string nm,.int .i64 ((A:Nat):Int),.bool df] 82 (0,0)):=by rw [hw2];exact heap_alloc_new _ _
    rw [← hw2]
    clear hw2
    obtain ⟨s0,hg,hgA,hgE,en,f,n2,v2,h6,h7,h8⟩:=HO.out w2 (k1.trans' k2)
    obtain ⟨z0,z1⟩:=n2.cell hp
    have kE:=kept_at w2 gE p (.int .i64 ((p:Int)+1))
    have lA:=v2.lt
    have lE:=n2.lt
    have hbE:¬ w1.heap.size=gE:=fun e=>by
     obtain ⟨cs,t,c1,c2,c3⟩:=n2
     rw [← e,bx] at c1
     simp only [Option.some.injEq,Obj.cells.injEq] at c1
     have:=c3 0 (by omega)
     rw [← c1.1] at this
     simp at this
    have xA:(w2.setCell ⟨gE,p,none⟩ (.int .i64 ((p:Int)+1))).cell? ⟨w1.heap.size,1,none⟩=some (.int .i64 ((A:Nat):Int)):=(kE.cell (p:=⟨w1.heap.size,1,none⟩) (lt_of_at bx) hbE).trans (cellAt bx 1)
    have START2:AIn L T w2 gA gE p en f 0 (w2.setCell ⟨gE,p,none⟩ (.int .i64 ((p:Int)+1))):=by
     refine ⟨kE.mono (fun _ _ e=>.inl e),?_,none,0,?_,World.ownsRow_nil _ _ _ _⟩
     ·refine (n2.set p ((p:Int)+1)).congr (fun q hq=>?_)
      by_cases e:q=p
      ·rw [if_pos e,if_pos e];simp [past]
      ·rw [if_neg e,if_neg e]
     ·refine (v2.kept kE (fun e=>hg e)).congr (fun q hq=>?_)
      by_cases e:q=p
      ·rw [if_pos e,e];exact h7 p (by omega)
      ·rw [if_neg e]
    have HS2:Hid (AIn L T w2 gA gE p en f 0 (w2.setCell ⟨gE,p,none⟩ (.int .i64 ((p:Int)+1)))):=START2
    have FIN2:Hid (∀ ww,AIn L T w2 gA gE p en f A ww→AOut L T w gA gE p ww):=fun ww hI=>by
     rw [← HA.out] at hI
     exact AIn.done HN.out.2 hp s0 hg hgA hgE h6 h7 h8 lA lE hI
    have MORE:Hid (∀ ww j vo vc,j<A→Kept (fun k=>k=gE∨k=gA) w2 ww→Nums ww gE T.length (fun q=>if q=p then (past L T j (p+1):Int) else en q)→Lsts ww gA T.length (fun q=>if q=p then .slice vo j vc else f q)→ww.ownsRow w2.heap.size 3 1 (.slice vo j vc) j (iv (ofN (starts L T j (p+1))))→∀ gg cap w1,w1.ownsRow w2.heap.size 3 1 (.slice (some ⟨gg,0,none⟩) (j+1) cap) (j+1) (iv (ofN (starts L T j (p+1))) ++ [.int .i64 (past L T j (p+1):Int)])→Kept (fun k=>(Value.slice vo j vc).ownBlock=some k) ww w1→((Value.slice vo j vc).ownBlock=some gg∨ww.heap.size≤gg) →
      (w1.cell? ⟨gA,p,none⟩=some (.slice vo j vc)∧w1.frozen? ⟨gA,p,none⟩=false)∧((w1.setCell ⟨gA,p,none⟩ (.slice (some ⟨gg,0,none⟩) (j+1) cap)).cell? ⟨gE,p,none⟩=some (.int .i64 (past L T j (p+1):Int))∧(w1.setCell ⟨gA,p,none⟩ (.slice (some ⟨gg,0,none⟩) (j+1) cap)).cell? ⟨gE,past L T j (p+1),none⟩=some (.int .i64 (endN L T (past L T j (p+1)):Int))∧(w1.setCell ⟨gA,p,none⟩ (.slice (some ⟨gg,0,none⟩) (j+1) cap)).frozen? ⟨gE,p,none⟩=false)∧AIn L T w2 gA gE p en f (j+1) ((w1.setCell ⟨gA,p,none⟩ (.slice (some ⟨gg,0,none⟩) (j+1) cap)).setCell ⟨gE,p,none⟩ (.int .i64 (endN L T (past L T j (p+1)):Int)))):=fun ww j vo vc hj a1 a2 a3 a4 gg cap w1 b1 b2 b3=>AIn.more HN.out.2 hp (by rw [HA.out];exact hj) hg lA lE h6 a1 a2 a3 a4 b1 b2 b3
    have LT:Hid (∀ j,j<A→past L T j (p+1)<N):=fun j hj=>by
     have hf:=(Forest.one HN.out.2 hp).kids.2
     rw [HA.out] at hf
     have hfk:=hf.drop (i:=j) (by omega)
     rw [show A-j=(A-j-1)+1 by omega] at hfk
     have:=hfk.pos;have:=hfk.le;have:=HN.out.1;omega
    clear START2 h6 h7 h8 hbE n2 v2 CA bx
    go_upto_region 8 with fail
    go_loopw [39] (fun s39 wr=>∃ j:Nat,j≤A∧s39=.int .i64 (j:Int)∧AIn L T w2 gA gE p en f j wr) (fun s39 _=>A-(intOf s39).toNat)
    case atStart=>exact ⟨0,Nat.zero_le _,rfl,HS2.out⟩
    case round=>
     clear z0 z1 xA HS2 kE
     obtain ⟨j,hj,rfl,hI⟩:=hrel
     by_cases hlt:j<A
     ·have hE:=LT.out j hlt
      obtain ⟨b1,b2,vo,vc,b3,b4⟩:=hI
      have M:=MORE.out wr j vo vc hlt b1 b2 b3 b4
      obtain ⟨c0, -⟩:=b2.cell hp
      obtain ⟨d0,d1⟩:=b3.cell hp
      simp only [if_true] at c0 d0
      have d2:(wr.alloc (.cells #[.int .i64 (past L T j (p+1):Int)] 3)).cell? ⟨gA,p,none⟩=some (.slice vo j vc):=cell_al d0 _
      have hbs:w2.heap.size≤(wr.alloc (.cells #[.int .i64 (past L T j (p+1):Int)] 3)).heap.size:=by have:=b1.size;simp;omega
      have hn1:j+1≤maxLen:=by unfold maxLen;omega
      generalize endN L T (past L T j (p+1))=Z at *
      generalize past L T j (p+1)=E at *
      have MH:Hid _:=M
      have e1:(0:Int)≤(E:Int):=by omega
      have e2:(E:Int)<(N:Int):=by omega
      have l1:(j:Int)<(A:Int):=by omega
      clear M b1 b2 b3 MORE LT FIN2 CAT HT HO hnum
      go_upto_region 9 with fail
      go_region_law (refine step_append_lies _ (by rfl) _ _ 22 (by rfl) w2.heap.size 3 i1 _ 1 8 Tryz.underlying22 hi1 hz0 hz1 hz2 rfl (by omega) (.slice vo j vc) j (iv (ofN (starts L T j (p+1)))) (by rfl) ((b4.alloc _).drew) ⟨wr.heap.size,0,none⟩ 1 1 [.int .i64 (E:Int)] (by rfl) (by rfl) (World.news_of_block (cs:=#[.int .i64 (E:Int)]) (t:=3) (fr:=(0,0)) (heap_alloc_new wr _)) (by simp [Value.oneCell']) (by omega) hn1 (by omega) hbs (wr.heap.size+1) (by simp) ?_;intro gg cap w5 hown hgrow hat hlt5;obtain ⟨⟨m0,m1⟩,⟨m2,m3,m4⟩,m5⟩:=MH.out gg cap w5 hown (Kept.grown (Kept.drew (Kept.alloc (Kept.refl _ wr) _)) hgrow (fun _ e _=>e)) (hat.imp id (fun e=>by omega)))
      all_goals
       clear b4 c0 d0 d1 d2 MH
       go_wp2_with fail
       go_roundw
       case rel=>exact ⟨j+1,by omega,by go_num,m5⟩
       case measure=>simp [intOf];omega
     ·obtain rfl:j=A:=by omega
      have hF:=FIN2.out _ hI
      clear hI FIN2 MORE LT
      go_wp2_with fail
      go_roundw
      case rel=>first | exact ⟨p,by omega,by go_num,hF⟩ | ((repeat apply Exists.intro);exact ⟨⟨p,by omega,by go_num,hF⟩,rfl⟩)
      case measure=>simp [intOf]
def clsB (L:List Sym) (T:List Int):Bool:=decide (checkE L T=0) && !(T.any (fun x=>decide (x<0)))
theorem vw_none (base:Nat) (w:World) (L:List Sym) (T:List Int):VwAt base w L false T (.agg #[.slice none 0 0,.slice none 0 0]):=⟨none,0,none,0,rfl,fun e=>by cases e⟩
set_option maxHeartbeats 8000000 in
theorem over_any {n b:Nat} {w:World} {L:List Sym} (h:Sg n w b L) {ao:Option Addr} {cap:Nat} {T:List Int} (ht:Arg w ao T cap) :
  Calls Tryz.prog 24 #[.pointer (some ⟨b,0,none⟩),.slice ao T.length cap] w fun e w' => ∃ ho hn hc go gn gc,e=.returned (.agg #[.slice ho hn hc,.slice go gn gc])∧VwAt w.heap.size w' L (clsB L T) T (.agg #[.slice ho hn hc,.slice go gn gc])∧Same0 w w' := by
 have hmx:T.length≤maxLen:=by have:=ht.size;unfold maxLen;omega
 obtain ⟨W1,hW1⟩:∃ W1,W1=w.alloc (.cells #[.slice none 0 0,.slice none 0 0] 70):=⟨_,rfl⟩
 have KW:Same0 w W1:=by rw [hW1];exact (Kept.refl _ w).alloc _
 have hbx:W1.heap[w.heap.size]? = some (.cells #[.slice none 0 0,.slice none 0 0] 70 (0,0)):=by rw [hW1];exact heap_alloc_new w _
 have RC:Hid (∀ ww,Same0 W1 ww→(ww.cell? ⟨w.heap.size,0,none⟩=some (.slice none 0 0)∧ww.cell? ⟨w.heap.size,1,none⟩=some (.slice none 0 0))∧ww.frozen? ⟨w.heap.size,0,none⟩=false∧ww.frozen? ⟨w.heap.size,1,none⟩=false):=fun ww hk=>by
  have:=hk.at0 hbx
  exact ⟨⟨cellAt this 0,cellAt this 1⟩,frozenAt this 0,frozenAt this 1⟩
 have PUT:Hid (∀ ww x y,Same0 W1 ww→(((ww.setCell ⟨w.heap.size,0,none⟩ x).setCell ⟨w.heap.size,1,none⟩ y).cell? ⟨w.heap.size,0,none⟩=some x∧((ww.setCell ⟨w.heap.size,0,none⟩ x).setCell ⟨w.heap.size,1,none⟩ y).cell? ⟨w.heap.size,1,none⟩=some y)∧Kept (fun k=>k=w.heap.size) ww ((ww.setCell ⟨w.heap.size,0,none⟩ x).setCell ⟨w.heap.size,1,none⟩ y)∧Same0 w ((ww.setCell ⟨w.heap.size,0,none⟩ x).setCell ⟨w.heap.size,1,none⟩ y)):=fun ww x y hk=>by
  have h1:=hk.at0 hbx
  have h2:=setAt (setAt h1 0 x) 1 y
  have k1:=kept_at ww w.heap.size 0 x
  have k2:=kept_at (ww.setCell ⟨w.heap.size,0,none⟩ x) w.heap.size 1 y
  have k3:=Kept.trans k1 k2 (fun _ _ e=>e)
  exact ⟨⟨cellAt h2 0,cellAt h2 1⟩,k3,Kept.trans (KW.trans' hk) k3 (fun i hi e=>by omega)⟩
 have CK:Hid (∀ ww,Same0 w ww→Calls Tryz.prog 59 #[.pointer (some ⟨b,0,none⟩),.slice ao T.length cap] ww fun e w' => e=.returned (.int .i64 (checkE L T))∧Same0 ww w'):=fun ww hk=>check_any (h.same hk) (ht.at'.same hk) hmx
 have CV:Hid (∀ ww,Same0 w ww→Calls Tryz.prog 60 #[.slice ao T.length cap,.func (.func 61) #[] #[]] ww fun e w' => e=.returned (.bool (T.any (fun x=>decide (x<0))))∧w' = ww):=fun ww hk=>containsf_cvar (ht.at'.same hk) hmx
 have C1:=CK.out W1 KW
 obtain ⟨⟨r0,r1⟩,f0,f1⟩:=RC.out W1 (Kept.refl _ _)
 have NO:Hid (clsB L T=false→∀ ww,Same0 w ww→VwAt w.heap.size ww L (clsB L T) T (.agg #[.slice none 0 0,.slice none 0 0])∧Same0 w ww):=fun e ww hk=>by rw [e];exact ⟨vw_none _ _ _ _,hk⟩
 by_cases hz:checkE L T=0
 ·rw [hz] at C1
  cases hv:T.any (fun x=>decide (x<0)) with
  | true=>
   rw [hv] at CV
   have hc:clsB L T=false:=by simp [clsB,hv]
   have FIN:=NO.out hc
   have HF:Hid _:=FIN
   clear FIN hv hc NO ht h hz
   go_enter Tryz.func24,Tryz.ntmps24
   go_upto_region 1 with fail
   rw [← hW1]
   clear hW1
   go_upto_region 2 with (first
    | (go_at_call 59;refine C1.mono ?_;rintro e w2 ⟨rfl,k2⟩;have C2:=CV.out w2 (KW.trans' k2))
    | (go_at_call 60;refine C2.mono ?_;rintro e w3 ⟨rfl,rfl⟩;obtain ⟨⟨r2,r3⟩,f2,f3⟩:=RC.out _ k2))
   go_wp2_with fail
   obtain ⟨⟨g0,g1⟩,kk,ks⟩:=PUT.out _ (.slice none 0 0) (.slice none 0 0) k2
   exact bodyPost_ret (v:=.agg #[.slice none 0 0,.slice none 0 0]) (by simp [results,Tryz.results24,go_sem,g0,g1]) rfl ⟨_,_,_,_,_,_,rfl,HF.out _ ks⟩
  | false=>
   rw [hv] at CV
   have hc:clsB L T=true:=by simp [clsB,hv,hz]
   have hpos:∀ x∈T,0≤x:=fun x hx=>by
    have:=List.any_eq_false.1 hv x hx
    simpa using this
   have CT:Hid (∀ ww,Same0 w ww→Calls Tryz.prog 62 #[.slice ao T.length cap] ww fun e w' => ∃ go gc,e=.returned (.slice go T.length gc)∧Hid (IntsAt w' go T∧∀ a,go=some a→ww.heap.size≤a.block)∧Same0 ww w'):=fun ww hk=>by
    refine (clone_term ((ht.at'.same hk)) (isT_pos (checkE_zero.1 hz).2.2) (checkE_zero.1 hz).1).mono ?_
    rintro e w' ⟨v,rfl,hr,hk'⟩
    obtain ⟨go,gc,rfl,g1,g2,g3⟩:=hr.ints
    exact ⟨go,gc,rfl,⟨g1,fun a e=>(g3 a e).1⟩,hk'⟩
   have CA:Hid (∀ ww,Same0 w ww→Calls Tryz.prog 63 #[.pointer (some ⟨b,0,none⟩),.slice ao T.length cap] ww fun e w' => ∃ go gc,e=.returned (.slice go T.length gc)∧Hid (PsB ww.heap.size w' go (argsL L T))∧Same0 ww w'):=fun ww hk=>argsOf_any (h.same hk) (ht.at'.same hk) hz hpos
   clear NO ht h hz hv
   go_enter Tryz.func24,Tryz.ntmps24
   go_upto_region 1 with fail
   rw [← hW1]
   clear hW1
   go_upto_region 3 with (first
    | (go_at_call 59;refine C1.mono ?_;rintro e w2 ⟨rfl,k2⟩;have C2:=CV.out w2 (KW.trans' k2))
    | (go_at_call 60;refine C2.mono ?_;rintro e w3 ⟨rfl,rfl⟩))
   have C3:=CT.out _ (KW.trans' k2)
   go_wp2_with (first
    | (go_at_call 62;refine C3.mono ?_;rintro e w4 ⟨go,gc,rfl,hg,k4⟩;have C4:=CA.out w4 ((KW.trans' k2).trans' k4))
    | (go_at_call 63;refine C4.mono ?_;rintro e w5 ⟨lo,lc,rfl,hl,k5⟩;obtain ⟨⟨r2,r3⟩,f2,f3⟩:=RC.out _ ((k2.trans' k4).trans' k5)))
   obtain ⟨⟨g0,g1⟩,kk,ks⟩:=PUT.out _ (.slice go T.length gc) (.slice lo T.length lc) ((k2.trans' k4).trans' k5)
   have z2:=(KW.trans' k2).size
   have z4:=k4.size
   have zW:=lt_of_at hbx
   have zk:=k2.size
   refine bodyPost_ret (v:=.agg #[.slice go T.length gc,.slice lo T.length lc]) (by simp [results,Tryz.results24,go_sem,g0,g1]) rfl ⟨_,_,_,_,_,_,rfl,?_,ks⟩
   rw [hc]
   obtain ⟨q1,q2⟩:=hg.out
   refine ⟨go,gc,lo,lc,rfl,fun _=>⟨(q1.same k5).kept kk (fun a e=>by have:=q2 a e;omega),fun a e=>by have:=q2 a e;omega,?_⟩⟩
   have hP:=hl.out
   rcases hP with e0 | ⟨b', off,rfl,a1,a2,a3⟩
   ·exact .inl e0
   ·refine .inr ⟨b', off,rfl,by omega,Nat.lt_of_lt_of_le a2 kk.size,fun i hi=>?_⟩
    obtain ⟨xo,xc,y1,y2,y3⟩:=a3 i hi
    exact ⟨xo,xc,(kk.cell (p:=⟨b', off+i,none⟩) a2 (fun e=>by have e' : b' = w.heap.size:=e;omega)).trans y1,y2.kept kk (fun a e=>by have:=y3 a e;omega),fun a e=>by have:=y3 a e;omega⟩
 ·have hc:clsB L T=false:=by simp [clsB,hz]
  have FIN:=NO.out hc
  have HF:Hid _:=FIN
  have hz' : (checkE L T == 0)=false:=by simpa using hz
  generalize checkE L T=z at *
  clear FIN hc NO ht h CV CK
  go_enter Tryz.func24,Tryz.ntmps24
  go_upto_region 1 with fail
  rw [← hW1]
  clear hW1
  go_wp2_with (first
   | (go_at_call 59;refine C1.mono ?_;rintro e w2 ⟨rfl,k2⟩;obtain ⟨⟨r2,r3⟩,f2,f3⟩:=RC.out _ k2))
  obtain ⟨⟨g0,g1⟩,kk,ks⟩:=PUT.out _ (.slice none 0 0) (.slice none 0 0) k2
  exact bodyPost_ret (v:=.agg #[.slice none 0 0,.slice none 0 0]) (by simp [results,Tryz.results24,go_sem,g0,g1]) rfl ⟨_,_,_,_,_,_,rfl,HF.out _ ks⟩
abbrev L9x:List Sym:=[⟨⟨#[122]⟩,0,false⟩,⟨⟨#[115]⟩,1,false⟩,⟨⟨#[97,100,100]⟩,2,true⟩,⟨⟨#[104]⟩,0,true⟩]
theorem madeL_aw9:madeL L9x=L9x:=by
 simp [madeL,addL,addErr,nm8_z,nm8_s,nm8_add,nm8_h,findI]
abbrev ru9a:Ru:=([2,0, -1],[-1])
abbrev ru9b:Ru:=([2,1, -1, -2],[1,2, -1, -2])
theorem aw9_a:Ans L9x [] [ru9a] []:=Ans.of_all (by decide +kernel)
theorem aw9_b:Ans L9x [ru9a] [ru9b] []:=Ans.of_all (by decide +kernel)
theorem aw9_R {R:List Ru} (h:StoredR L9x [ru9a,ru9b] [] R):R=[ru9a,ru9b]:=by
 rcases h with ⟨_,h⟩ | ⟨h,_⟩
 ·rcases h with ⟨_,h⟩ | ⟨h,_⟩
  ·exact h
  ·exact absurd aw9_b h
 ·exact absurd aw9_a h
def fail9 (n:Nat):Tr (n+1):=(3,0,[],[])
theorem aw9_grow (n:Nat):growF L9x (n+1+1) (rootP L9x 2) (rootR L9x [ru9a,ru9b] 2)=.ok (tree8 n):=by rfl
theorem aw9_none (n:Nat):growF L9x (n+1) (rootP L9x 3) (rootR L9x [ru9a,ru9b] 3)=.ok (fail9 n):=by rfl
theorem aw9_tree:treeF L9x [ru9a,ru9b] 2=.ok (tree8 1999):=aw9_grow 1999
theorem aw9_fail:treeF L9x [ru9a,ru9b] 3=.ok (fail9 2000):=aw9_none 2000
abbrev ins9:List I3:=[(1,0,0),(2,0,4),(2,1,5),(3,0,0),(4,0,0),(4,1,0),(3,0,0)]
theorem aw9_lay (n:Nat):layS (n+1+1) (tree8 n) ([],[])=([(1,0,0),(2,0,4),(2,1,5),(3,0,0),(4,0,0),(4,1,0)],[[0]]):=by rfl
theorem aw9_lay2 (n:Nat) (s:St9):layS (n+1) (fail9 n) s=(s.1 ++ [(3,0,0)],s.2):=by rfl
theorem aw9_cmp:cmpS L9x [ru9a,ru9b] 4=((ins9,[[0]]),[-1, -1,0,6]):=by
 rw [cmpS_yes (k:=3) (by decide) aw9_fail,cmpS_yes (k:=2) (by decide) aw9_tree,cmpS_no (k:=1) (by decide),cmpS_no (k:=0) (by decide)]
 have e1:layS 2001 (tree8 1999) (cmpS L9x [ru9a,ru9b] 0).1=_:=aw9_lay 1999
 have e2:=fun s=>aw9_lay2 2000 s
 rw [e1]
 erw [e2]
 rfl
theorem aw9_all:∀ k,k<L9x.length→defB L9x (k:Int)=true→∃ t,treeF L9x [ru9a,ru9b] k=.ok t:=by
 intro k hk hd
 have hk' : k<4:=hk
 match k,hk' with
 | 0,_=>exact absurd hd (by decide)
 | 1,_=>exact absurd hd (by decide)
 | 2,_=>exact ⟨_,aw9_tree⟩
 | 3,_=>exact ⟨_,aw9_fail⟩
theorem aw9_run:codeF L9x (clsB L9x [2,1,0,0]) [2,1,0,0] ins9 [[0]] [-1, -1,0,6] 2 0=(1,1,[],0,0):=by decide +kernel
theorem aw9_idx:idxB 1 (rightsL L9x [ru9a,ru9b]).length=true:=by decide +kernel
theorem aw9_len:∀ i (h:i<(rightsL L9x [ru9a,ru9b]).length),(rightsL L9x [ru9a,ru9b])[i].length≤140737488355328:=by
 intro i h
 have h1:∀ q∈rightsL L9x [ru9a,ru9b],q.length≤140737488355328:=by decide +kernel
 exact h1 _ (List.getElem_mem h)
theorem aw9_wt:wtN ((rightsL L9x [ru9a,ru9b]).getD (1:Int).toNat [])=2:=by decide +kernel
theorem aw9_lit (w:World):InsAt (w.alloc (.cells #[.int .i64 1,.int .i64 0,.int .i64 0,.int .i64 2,.int .i64 0,.int .i64 4,.int .i64 2,.int .i64 1,.int .i64 5,.int .i64 3,.int .i64 0,.int .i64 0,.int .i64 4,.int .i64 0,.int .i64 0,.int .i64 4,.int .i64 1,.int .i64 0,.int .i64 3,.int .i64 0,.int .i64 0] 34)) (some ⟨w.heap.size,0,none⟩) ins9:=by
 refine .inr ⟨_,_,rfl,by simp,fun i hi=>?_⟩
 have hi' : i<7:=by simpa using hi
 rw [cellAt (heap_alloc_new w _),cellAt (heap_alloc_new w _),cellAt (heap_alloc_new w _)]
 match i,hi' with
 | 0,_=>exact ⟨rfl,rfl,rfl⟩
 | 1,_=>exact ⟨rfl,rfl,rfl⟩
 | 2,_=>exact ⟨rfl,rfl,rfl⟩
 | 3,_=>exact ⟨rfl,rfl,rfl⟩
 | 4,_=>exact ⟨rfl,rfl,rfl⟩
 | 5,_=>exact ⟨rfl,rfl,rfl⟩
 | 6,_=>exact ⟨rfl,rfl,rfl⟩
theorem syms_aw9 (w:World) (T:TypeId):SymsAt (w.alloc (.cells #[.string ⟨#[122]⟩,.int .i64 0,.bool false,.string ⟨#[115]⟩,.int .i64 1,.bool false,.string ⟨#[97,100,100]⟩,.int .i64 2,.bool true,.string ⟨#[104]⟩,.int .i64 0,.bool true] T)) (some ⟨w.heap.size,0,none⟩) 4 L9x:=by
 refine ⟨rfl,.inr ⟨_,_,rfl,by simp,fun i hi=>?_⟩,?_⟩
 ·have hi' : i<4:=by simpa using hi
  rw [cellAt (heap_alloc_new w _),cellAt (heap_alloc_new w _),cellAt (heap_alloc_new w _)]
  match i,hi' with
  | 0,_=>exact ⟨rfl,rfl,rfl⟩
  | 1,_=>exact ⟨rfl,rfl,rfl⟩
  | 2,_=>exact ⟨rfl,rfl,rfl⟩
  | 3,_=>exact ⟨rfl,rfl,rfl⟩
 ·intro x hx
  simp at hx
  rcases hx with rfl | rfl | rfl | rfl <;> exact ⟨by decide +kernel,by decide +kernel⟩
set_option maxHeartbeats 1000000 in
theorem plain9_any (w:World):Calls Tryz.prog 44 #[] w fun e w' => ∃ g g', e=.returned (.tuple #[.slice (some ⟨g,0,none⟩) 4 4,.slice (some ⟨g', 0,none⟩) 2 2])∧SymsAt w' (some ⟨g,0,none⟩) 4 L9x∧RsAt w' (some ⟨g', 0,none⟩) [ru9a,ru9b]∧Same0 w w' := by
 have S:=syms_aw9 w 82
 have K:Same0 w (w.alloc (.cells #[.string ⟨#[122]⟩,.int .i64 0,.bool false,.string ⟨#[115]⟩,.int .i64 1,.bool false,.string ⟨#[97,100,100]⟩,.int .i64 2,.bool true,.string ⟨#[104]⟩,.int .i64 0,.bool true] 82)):=(Kept.refl _ w).alloc _
 have RR:=rs_two (w.alloc (.cells #[.string ⟨#[122]⟩,.int .i64 0,.bool false,.string ⟨#[115]⟩,.int .i64 1,.bool false,.string ⟨#[97,100,100]⟩,.int .i64 2,.bool true,.string ⟨#[104]⟩,.int .i64 0,.bool true] 82)) [2,0, -1] [-1] [2,1, -1, -2] [1,2, -1, -2] 3 3 3 3 98 (by decide) (by decide) (by decide) (by decide) rfl rfl rfl rfl rfl
 have HH:Hid _:=RR
 have HS:Hid _:=S
 clear RR S
 go_enter Tryz.func44,Tryz.ntmps44
 go_wp2
 go_ret2
 obtain ⟨r1,r2⟩:=HH.out
 simp only [World.size_alloc] at r1 r2
 exact ⟨_,_,rfl,SymsAt.same8 HS.out r2,r1,K.trans' r2⟩
theorem aw9_err (w:World):(binOp .neq 47 .nilIface .nilIface).run Tryz.prog w=.ok (.bool false) w:=by kernel_rfl
theorem aw9_arg {W:World} {k:Nat} (h:W.heap[k]? = some (.cells #[.int .i64 2,.int .i64 1,.int .i64 0,.int .i64 0] 3 (0,0))):Arg W (some ⟨k,0,none⟩) [2,1,0,0] 4:=by
 refine ⟨?_,Nat.le_refl _,(fun e=>by cases e),by decide⟩
 refine .inr ⟨_,_,rfl,lt_of_at h,fun i hi=>?_⟩
 have hi' : i<4:=by simpa using hi
 rw [cellAt h]
 match i,hi' with
 | 0,_=>rfl
 | 1,_=>rfl
 | 2,_=>rfl
 | 3,_=>rfl
theorem zf9 {W:World} {k:Nat} (h:W.heap[k]? = some (.cells #[.int .i64 0,.int .i64 0,.slice none 0 0,.int .i64 0] 73 (0,0))):W.cell? ⟨k,0,none⟩=some (.int .i64 0)∧W.cell? ⟨k,1,none⟩=some (.int .i64 0)∧W.cell? ⟨k,2,none⟩=some (.slice none 0 0)∧W.cell? ⟨k,3,none⟩=some (.int .i64 0)∧W.frozen? ⟨k,0,none⟩=false∧W.frozen? ⟨k,1,none⟩=false∧W.frozen? ⟨k,2,none⟩=false∧W.frozen? ⟨k,3,none⟩=false:=
 ⟨cellAt h 0,cellAt h 1,cellAt h 2,cellAt h 3,frozenAt h 0,frozenAt h 1,frozenAt h 2,frozenAt h 3⟩
set_option maxHeartbeats 16000000 in
theorem awake9_any (w:World):Calls Tryz.prog 10 #[] w fun e w' => e=.returned (.bool true)∧Same0 w w' := by
 have hnn:=aw9_err
 have hpn:=ptr_nil
 have CP:=plain9_any w
 go_enter Tryz.func10,Tryz.ntmps10
 go_upto_region 2 with (first | (go_at_call 44;refine CP.mono ?_;rintro e w0 ⟨g,g', rfl,hsy,hru,K0⟩))
 have CS:=stored_any (cap:=4) (lc:=2) hsy (by decide) hru (by decide) (by decide)
 rw [madeL_aw9] at CS
 clear CP hsy hru
 go_upto_region 3 with (first | (go_at_call 15;refine CS.mono ?_;rintro e w1 ⟨bs,b,m,ro,rc,lv,vs,mv,ms,R,rfl,hT,hR⟩))
 obtain rfl:=aw9_R hR
 have K1:Same0 w w1:=K0.trans' hT.same
 have hst:=hT.st
 clear CS hR K0 hT
 have CC:Calls Tryz.prog 16 #[.pointer (some ⟨b,0,none⟩)] w1 fun e w' => ∃ io ic po pc eo ec ro rc,e=.returned (.tuple #[.agg #[.slice io 7 ic,.slice po 1 pc,.slice eo 4 ec,.slice ro 2 rc],.nilIface])∧Hid (InsAt w' io ins9∧PthAt w' po [[0]]∧IntsAt w' eo [-1, -1,0,6]∧RgAt w' ro (rightsL L9x [ru9a,ru9b]))∧Same0 w1 w' := by
  refine (compile_ok hst aw9_all).mono ?_
  intro e w' h
  have e4:cmpS L9x [ru9a,ru9b] L9x.length=_:=aw9_cmp
  unfold CmpOut at h
  rw [e4] at h
  obtain ⟨io,ic,po,pc,eo,ec,ro,rc,cs,rfl,hL,hE,hrr,hrt,k2⟩:=h
  refine ⟨io,ic,po,pc,eo,ec,ro,rc,rfl,⟨hL.insAt,hL.pthAt,?_,hrt.rgAt hrr⟩,k2⟩
  obtain ⟨eo', ec', e1,h1,_⟩:=hE.ints
  cases e1
  exact h1
 have HSG:Hid (∀ ww,Same0 w1 ww→Sg ww.heap.size ww bs L9x):=fun ww hk=>(hst.same hk).sig
 clear hst
 go_upto_region 6 with (first | (go_at_call 16;refine CC.mono ?_;rintro e w2 ⟨io,ic,po,pc,eo,ec,ro', rc', rfl,hL,k2⟩))
 obtain ⟨w3,hw3⟩:∃ w3,w3=w2.alloc (.cells #[.slice io 7 ic,.slice po 1 pc,.slice eo 4 ec,.slice ro' 2 rc'] 45):=⟨_,rfl⟩
 have k3:Same0 w2 w3:=by rw [hw3];exact (Kept.refl _ _).alloc _
 have HC:Hid (∀ ww,Same0 w3 ww→ww.cell? ⟨w2.heap.size,0,none⟩=some (.slice io 7 ic)∧ww.cell? ⟨w2.heap.size,1,none⟩=some (.slice po 1 pc)∧ww.cell? ⟨w2.heap.size,2,none⟩=some (.slice eo 4 ec)∧ww.cell? ⟨w2.heap.size,3,none⟩=some (.slice ro' 2 rc')):=fun ww hk=>by
  have h0:w3.heap[w2.heap.size]? = some (.cells #[.slice io 7 ic,.slice po 1 pc,.slice eo 4 ec,.slice ro' 2 rc'] 45 (0,0)):=by rw [hw3];exact heap_alloc_new w2 _
  have h1:=hk.at0 h0
  exact ⟨cellAt h1 0,cellAt h1 1,cellAt h1 2,cellAt h1 3⟩
 have HL:Hid (∀ ww,Same0 w3 ww→InsAt ww io ins9∧PthAt ww po [[0]]∧IntsAt ww eo [-1, -1,0,6]∧RgAt ww ro' (rightsL L9x [ru9a,ru9b])):=fun ww hk=>by
  obtain ⟨h1,h2,h3,h4⟩:=hL.out
  exact ⟨h1.same (k3.trans' hk),h2.same (k3.trans' hk),h3.same (k3.trans' hk),h4.same (k3.trans' hk)⟩
 have K3:Same0 w1 w3:=k2.trans' k3
 rw [← hw3]
 clear hw3 hL CC k2 k3
 have k4:Same0 w3 (w3.alloc (.cells #[.int .i64 1,.int .i64 0,.int .i64 0,.int .i64 2,.int .i64 0,.int .i64 4,.int .i64 2,.int .i64 1,.int .i64 5,.int .i64 3,.int .i64 0,.int .i64 0,.int .i64 4,.int .i64 0,.int .i64 0,.int .i64 4,.int .i64 1,.int .i64 0,.int .i64 3,.int .i64 0,.int .i64 0] 34)):=(Kept.refl _ _).alloc _
 obtain ⟨c0,c1,c2,c3⟩:=HC.out _ k4
 have B1:=sameIns_any (HL.out _ k4).1 (aw9_lit w3) (by decide) ic 7
 go_upto_region 8 with (first | (go_at_call 13;refine B1.mono ?_;rintro e w5 ⟨rfl,k5⟩))
 have K5:Same0 w3 w5:=k4.trans' k5
 clear c0 c1 c2 c3 B1 k4 k5
 go_upto_region 10 with fail
 have C0:=HC.out w5 K5
 have CO:Hid (∀ ww k,Same0 w3 ww→ww.heap[k]? = some (.cells #[.int .i64 2,.int .i64 1,.int .i64 0,.int .i64 0] 3 (0,0))→Calls Tryz.prog 24 #[.pointer (some ⟨bs,0,none⟩),.slice (some ⟨k,0,none⟩) 4 4] ww fun e w' => ∃ ho hn hc go gn gc,e=.returned (.agg #[.slice ho hn hc,.slice go gn gc])∧Hid (∃ base,VwAt base w' L9x (clsB L9x [2,1,0,0]) [2,1,0,0] (.agg #[.slice ho hn hc,.slice go gn gc]))∧Same0 ww w'):=fun ww k hk hr=>by
  refine (over_any (HSG.out ww (K3.trans' hk)) (aw9_arg hr)).mono ?_
  rintro e w' ⟨ho,hn,hc,go,gn,gc,rfl,h1,h2⟩
  exact ⟨ho,hn,hc,go,gn,gc,rfl,⟨_,h1⟩,h2⟩
 have CR:Hid (∀ ww ho hn hc go gn gc,Same0 w3 ww→(∃ base,VwAt base ww L9x (clsB L9x [2,1,0,0]) [2,1,0,0] (.agg #[.slice ho hn hc,.slice go gn gc]))→Calls Tryz.prog 25 #[.agg #[.slice io 7 ic,.slice po 1 pc,.slice eo 4 ec,.slice ro' 2 rc'],.int .i64 2,.iface 70 (.agg #[.slice ho hn hc,.slice go gn gc]),.int .i64 0] ww fun e w' => ∃ qo qc,e=.returned (.tuple #[.agg #[.int .i64 1,.int .i64 1,.slice qo 0 qc,.int .i64 0],.int .i64 0])∧Same0 ww w'):=fun ww ho hn hc go gn gc hk hv=>by
  obtain ⟨base,hv⟩:=hv
  obtain ⟨h1,h2,h3,_⟩:=HL.out ww hk
  refine (run_any hv h1 (by decide) h2 h3 ic pc ec ro' 2 rc' 2 0).mono ?_
  intro e w' h
  rw [aw9_run] at h
  obtain ⟨qo,qc,rfl,_,h5⟩:=h
  exact ⟨qo,qc,rfl,h5⟩
 go_cut [10,11] from 51 to 59 (fun s10 s11 wc=>∃ g qo qc,s10=.pointer (some ⟨g,0,none⟩)∧s11=.int .i64 0∧wc.heap[g]? = some (.cells #[.int .i64 1,.int .i64 1,.slice qo 0 qc,.int .i64 0] 73 (0,0))∧Same0 w3 wc)
 case first=>
  go_region_held3 (fun w' => w'.cell? ⟨w2.heap.size,0,none⟩=some (.slice io 7 ic)∧w'.cell? ⟨w2.heap.size,1,none⟩=some (.slice po 1 pc)∧w'.cell? ⟨w2.heap.size,2,none⟩=some (.slice eo 4 ec)∧w'.cell? ⟨w2.heap.size,3,none⟩=some (.slice ro' 2 rc')) (first | exact C0 | exact cc1 | exact cc2 | exact HC.out _ (by repeat (first | assumption | exact Kept.refl _ _ | refine Kept.alloc ?_ _ | refine Kept.drew ?_ | refine Same0.own ?_ (by omega) _))) (first
   | (go_at_call 24;refine (CO.out _ _ (by repeat (first | assumption | exact Kept.refl _ _ | refine Kept.alloc ?_ _ | refine Kept.drew ?_ | refine Same0.own ?_ (by omega) _)) (by first | exact heap_alloc_new _ _ | exact heap_alloc2_old _ _ _ | exact heap_al_al _ _ _)).mono ?_;rintro e w6 ⟨ho,hn,hc,go,gn,gc,rfl,hV,k6⟩;have K6:Same0 w3 w6:=Same0.trans' (by repeat (first | assumption | exact Kept.refl _ _ | refine Kept.alloc ?_ _ | refine Kept.drew ?_ | refine Same0.own ?_ (by omega) _)) k6;have cc1:=HC.out _ K6)
   | (go_at_call 25;refine (CR.out _ _ _ _ _ _ _ (by repeat (first | assumption | exact Kept.refl _ _ | refine Kept.alloc ?_ _ | refine Kept.drew ?_ | refine Same0.own ?_ (by omega) _)) (by obtain ⟨bb,hh⟩:=hV.out;exact ⟨bb,hh.same (by repeat (first | assumption | exact Kept.refl _ _ | refine Kept.alloc ?_ _ | refine Kept.drew ?_ | refine Same0.own ?_ (by omega) _))⟩)).mono ?_;rintro e w7 ⟨qo,qc,rfl,k7⟩;have K7:Same0 w3 w7:=Same0.trans' (by repeat (first | assumption | exact Kept.refl _ _ | refine Kept.alloc ?_ _ | refine Kept.drew ?_ | refine Same0.own ?_ (by omega) _)) k7;have cc2:=HC.out _ K7;have z5:=K5.size;have z6:=K6.size;first | (have zb:w7.heap[w6.heap.size]? = some (.cells #[.int .i64 0,.int .i64 0,.slice none 0 0,.int .i64 0] 73 (0,0)):=k7.at0 (heap_alloc_new w6 _);obtain ⟨zc0,zc1,zc2,zc3,zf0,zf1,zf2,zf3⟩:=zf9 zb) | (have zb:w7.heap[w5.heap.size]? = some (.cells #[.int .i64 0,.int .i64 0,.slice none 0 0,.int .i64 0] 73 (0,0)):=k7.at0 (k6.at0 (heap_alloc2_old w5.drew _ _));obtain ⟨zc0,zc1,zc2,zc3,zf0,zf1,zf2,zf3⟩:=zf9 zb) | (have zb:w7.heap[w5.heap.size+1]? = some (.cells #[.int .i64 0,.int .i64 0,.slice none 0 0,.int .i64 0] 73 (0,0)):=k7.at0 (k6.at0 (heap_al_al w5.drew _ _));obtain ⟨zc0,zc1,zc2,zc3,zf0,zf1,zf2,zf3⟩:=zf9 zb) | skip))
  all_goals
   go_wp2_with fail
   go_meet
   case rel=>
    first
     | exact ⟨_,qo,qc,rfl,rfl,heap_alloc_new w7 _,by repeat (first | assumption | exact Kept.refl _ _ | refine Kept.alloc ?_ _ | refine Kept.drew ?_ | refine Same0.own ?_ (by omega) _)⟩
     | exact ⟨_,qo,qc,rfl,rfl,setAt (setAt (setAt (setAt zb 0 _) 1 _) 2 _) 3 _,Same0.own (Same0.own (Same0.own (Same0.own K7 (by omega) _) (by omega) _) (by omega) _) (by omega) _⟩
 case rest=>
  obtain ⟨g,qo,qc,rfl,rfl,hg,kc⟩:=hcut
  obtain ⟨c0,c1,c2,c3⟩:=HC.out wc kc
  have BW:=weight_any (HL.out wc kc).2.2.2 aw9_len io po eo 7 ic 1 pc 4 ec rc' 1
  rw [aw9_idx,aw9_wt] at BW
  clear CO CR C0
  go_upto_region 12 with (first | (go_at_call 21;refine BW.mono ?_;rintro e w8 ⟨rfl,k8⟩))
  have hg8:=k8.at0 hg
  have g0:=cellAt hg8 0
  have g1:=cellAt hg8 1
  have g2:=cellAt hg8 2
  have g3:=cellAt hg8 3
  have BS:=fsame_any (w:=w8) (k:=1) (r:=1) (nd:=0) (p:=[]) (po:=qo) (po' := none) (pc:=qc) (pc' := 0) (.inl rfl) (.inl rfl) (by decide)
  have KF:Same0 w w8:=((K1.trans' K3).trans' kc).trans' k8
  go_wp2_with (first | (go_at_call 27;refine BS.mono ?_;rintro e w9 ⟨rfl,k9⟩))
  go_ret
  exact ⟨rfl,KF.trans' k9⟩
end Go.Proofs.YtdhiiicppcgkbaaGreat
