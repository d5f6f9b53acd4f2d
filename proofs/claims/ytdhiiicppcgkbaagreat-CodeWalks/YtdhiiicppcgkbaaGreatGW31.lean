import Derived.Test.YtdhiiicppcgkbaaGreatGW30
import Derived.Test.YtdhiiicppcgkbaaGreatGW18
import Derived.Laws.StructEq
import Derived.Test.YtdhiiicppcgkbaaGreatGW29
import Derived.Test.YtdhiiicppcgkbaaGreatGW26
import Derived.Test.YtdhiiicppcgkbaaGreatGW16
namespace Go.Proofs.YtdhiiicppcgkbaaGreat
set_option maxRecDepth 100000
set_option linter.unusedVariables false
open Go.RowKit
attribute [local go_sem ↓] Go.wp_at_zero Go.wp_at_succ
theorem lookF_inl {L:List Sym} {ok:Bool} {T:List Int} {I:List I3} {E:List Int} {node:Int} {a:Nat} {p:List Int} {R:R5} (h:lookF L ok T I E node a p=.inl R):R=bad5∨∃ nd,R=(3,0,p,nd,0):=by
 unfold lookF at h
 split at h
 ·split at h
  ·cases h;exact .inl rfl
  ·cases h
 ·split at h
  ·cases h;exact .inr ⟨_,rfl⟩
  ·cases h
def LKR (w w' : World) (res:R5 ⊕ Int) (k r:Int) (zo:Option Addr) (zl zc:Nat) (nd z err:Int):Prop:=
 match res with
 | .inl R=>k=R.1∧r=R.2.1∧zl=R.2.2.1.length∧nd=R.2.2.2.1∧z=0∧err=R.2.2.2.2∧Row w.heap.size w' (.slice zo zl zc) R.2.2.1
 | .inr x=>k=0∧r=0∧zo=none∧zl=0∧zc=0∧nd=0∧z=x∧err=0
theorem LKR.up {w ww w' w'' : World} {res:R5 ⊕ Int} {k r:Int} {zo:Option Addr} {zl zc:Nat} {nd z err:Int} (h:LKR ww w' res k r zo zl zc nd z err) (_:Same0 ww w') (hk:Same0 w' w'') (hw:w.heap.size≤ww.heap.size):LKR w w'' res k r zo zl zc nd z err:=by
 cases res with
 | inl R=>
  obtain ⟨a,b,c,d,e,f,g⟩:=h
  exact ⟨a,b,c,d,e,f,row_mono (hk.row g (fun _ _ f=>f)) hw⟩
 | inr x=>exact h
theorem LKR.put {w w' : World} {o:Obj} {res:R5 ⊕ Int} {k r:Int} {zo:Option Addr} {zl zc:Nat} {nd z err:Int} (h:LKR (w.drew.alloc o) w' res k r zo zl zc nd z err) (x0 x1 x2 x3:Value):LKR w ((((w'.setCell ⟨w.heap.size,0,none⟩ x0).setCell ⟨w.heap.size,1,none⟩ x1).setCell ⟨w.heap.size,2,none⟩ x2).setCell ⟨w.heap.size,3,none⟩ x3) res k r zo zl zc nd z err:=by
 cases res with
 | inl R=>
  obtain ⟨a,b,c,d,e,f,g⟩:=h
  have k1:=kept_at w' w.heap.size 0 x0
  have k2:=Kept.trans k1 (kept_at _ w.heap.size 1 x1) (fun _ _ e=>e)
  have k3:=Kept.trans k2 (kept_at _ w.heap.size 2 x2) (fun _ _ e=>e)
  have k4:=Kept.trans k3 (kept_at _ w.heap.size 3 x3) (fun _ _ e=>e)
  have hz:(w.drew.alloc o).heap.size=w.heap.size+1:=by simp
  refine ⟨a,b,c,d,e,f,row_mono (k4.row g (fun q e1 e2=>?_)) (by omega)⟩
  rcases g.2 with ⟨e3,_⟩ | ⟨g', _,_,e3,e4,_⟩
  ·rw [e3] at e1;simp [Value.ownBlock] at e1
  ·rw [e3] at e1;simp only [Value.ownBlock,Option.some.injEq] at e1;omega
 | inr x=>exact h
theorem row_base {base:Nat} {w:World} {v:Value} {xs:List Int} (h:Row base w v xs) {q:Nat} (e:v.ownBlock=some q):base≤q:=by
 rcases h.2 with ⟨q3,_⟩ | ⟨g', _,_,q3,q4,_⟩
 ·rw [q3] at e;simp [Value.ownBlock] at e
 ·rw [q3] at e;simp only [Value.ownBlock,Option.some.injEq] at e;omega
theorem runF_out {L:List Sym} {ok:Bool} {T:List Int} {I:List I3} {P:List (List Int)} {E:List Int} {node:Int} {f a:Nat} (h:I.length≤a):runF L ok T I P E node f a=bad5:=by
 cases f with
 | zero=>rfl
 | succ f=>rw [runF,List.getElem?_eq_none h]
theorem runF_in {L:List Sym} {ok:Bool} {T:List Int} {I:List I3} {P:List (List Int)} {E:List Int} {node:Int} {f a:Nat} (h:a<I.length):runF L ok T I P E node (f+1) a=if I[a].1=4 then (1,I[a].2.1,[],0,0) else if I[a].1=3 then (2,0,[],0,0) else if I[a].1=1∧idxB I[a].2.1 P.length=true then (match lookF L ok T I E node a (P.getD I[a].2.1.toNat []) with | .inl r=>r | .inr z=>runF L ok T I P E node f z.toNat) else bad5:=by
 rw [runF,List.getElem?_eq_getElem h] <;> rfl
set_option maxHeartbeats 32000000 in
theorem from_any {base:Nat} {w:World} {L:List Sym} {ok:Bool} {T:List Int} {ho:Option Addr} {hn hc:Nat} {go:Option Addr} {gn gc:Nat} (hv:VwAt base w L ok T (.agg #[.slice ho hn hc,.slice go gn gc])) {io:Option Addr} {I:List I3} (hI:InsAt w io I) (hl:I.length≤140737488355328) {po:Option Addr} {P:List (List Int)} (hP:PthAt w po P) {eo:Option Addr} {E:List Int} (hE:IntsAt w eo E) (ic pc ec:Nat) (ro:Option Addr) (rl rc:Nat) (node:Int) (a0:Nat) :
  Calls Tryz.prog 65 #[.agg #[.slice io I.length ic,.slice po P.length pc,.slice eo E.length ec,.slice ro rl rc,.iface 70 (.agg #[.slice ho hn hc,.slice go gn gc]),.int .i64 node],.int .i64 (a0:Int)] w (FndOut w (runF L ok T I P E node (I.length+1) a0)):=by
 obtain ⟨R,hR⟩:∃ R,R=runF L ok T I P E node (I.length+1) a0:=⟨_,rfl⟩
 have HR:Hid (R=runF L ok T I P E node (I.length+1) a0):=hR
 rw [← hR]
 clear hR
 obtain ⟨W1,hW1⟩:∃ W1,W1=(w.alloc (.cells #[.slice io I.length ic,.slice po P.length pc,.slice eo E.length ec,.slice ro rl rc,.iface 70 (.agg #[.slice ho hn hc,.slice go gn gc]),.int .i64 node] 151)).alloc (.cells #[.int .i64 0,.int .i64 0,.slice none 0 0,.int .i64 0] 73):=⟨_,rfl⟩
 have KW:Same0 w W1:=by rw [hW1];exact ((Kept.refl _ w).alloc _).alloc _
 have hbx:W1.heap[w.heap.size]? = some (.cells #[.slice io I.length ic,.slice po P.length pc,.slice eo E.length ec,.slice ro rl rc,.iface 70 (.agg #[.slice ho hn hc,.slice go gn gc]),.int .i64 node] 151 (0,0)):=by rw [hW1];exact heap_alloc2_old _ _ _
 have hfd:W1.heap[w.heap.size+1]? = some (.cells #[.int .i64 0,.int .i64 0,.slice none 0 0,.int .i64 0] 73 (0,0)):=by rw [hW1];exact heap_al_al _ _ _
 have zW:w.heap.size+1<W1.heap.size:=lt_of_at hfd
 have BX:Hid (∀ ww,Same0 W1 ww→ww.cell? ⟨w.heap.size,0,none⟩=some (.slice io I.length ic)∧ww.cell? ⟨w.heap.size,1,none⟩=some (.slice po P.length pc)∧ww.cell? ⟨w.heap.size,2,none⟩=some (.slice eo E.length ec)∧ww.cell? ⟨w.heap.size,3,none⟩=some (.slice ro rl rc)∧ww.cell? ⟨w.heap.size,4,none⟩=some (.iface 70 (.agg #[.slice ho hn hc,.slice go gn gc]))∧ww.cell? ⟨w.heap.size,5,none⟩=some (.int .i64 node)):=fun ww hk=>by
  have:=hk.at0 hbx
  exact ⟨cellAt this 0,cellAt this 1,cellAt this 2,cellAt this 3,cellAt this 4,cellAt this 5⟩
 have RC:Hid (∀ ww,Same0 W1 ww→(ww.cell? ⟨w.heap.size+1,0,none⟩=some (.int .i64 0)∧ww.cell? ⟨w.heap.size+1,1,none⟩=some (.int .i64 0)∧ww.cell? ⟨w.heap.size+1,2,none⟩=some (.slice none 0 0)∧ww.cell? ⟨w.heap.size+1,3,none⟩=some (.int .i64 0))∧ww.frozen? ⟨w.heap.size+1,0,none⟩=false∧ww.frozen? ⟨w.heap.size+1,1,none⟩=false∧ww.frozen? ⟨w.heap.size+1,2,none⟩=false∧ww.frozen? ⟨w.heap.size+1,3,none⟩=false):=fun ww hk=>by
  have:=hk.at0 hfd
  exact ⟨⟨cellAt this 0,cellAt this 1,cellAt this 2,cellAt this 3⟩,frozenAt this 0,frozenAt this 1,frozenAt this 2,frozenAt this 3⟩
 have PUT:Hid (∀ ww x0 x1 x2 x3,Same0 W1 ww→(((((ww.setCell ⟨w.heap.size+1,0,none⟩ x0).setCell ⟨w.heap.size+1,1,none⟩ x1).setCell ⟨w.heap.size+1,2,none⟩ x2).setCell ⟨w.heap.size+1,3,none⟩ x3).cell? ⟨w.heap.size+1,0,none⟩=some x0∧((((ww.setCell ⟨w.heap.size+1,0,none⟩ x0).setCell ⟨w.heap.size+1,1,none⟩ x1).setCell ⟨w.heap.size+1,2,none⟩ x2).setCell ⟨w.heap.size+1,3,none⟩ x3).cell? ⟨w.heap.size+1,1,none⟩=some x1∧((((ww.setCell ⟨w.heap.size+1,0,none⟩ x0).setCell ⟨w.heap.size+1,1,none⟩ x1).setCell ⟨w.heap.size+1,2,none⟩ x2).setCell ⟨w.heap.size+1,3,none⟩ x3).cell? ⟨w.heap.size+1,2,none⟩=some x2∧((((ww.setCell ⟨w.heap.size+1,0,none⟩ x0).setCell ⟨w.heap.size+1,1,none⟩ x1).setCell ⟨w.heap.size+1,2,none⟩ x2).setCell ⟨w.heap.size+1,3,none⟩ x3).cell? ⟨w.heap.size+1,3,none⟩=some x3)∧Kept (fun q=>q=w.heap.size+1) ww ((((ww.setCell ⟨w.heap.size+1,0,none⟩ x0).setCell ⟨w.heap.size+1,1,none⟩ x1).setCell ⟨w.heap.size+1,2,none⟩ x2).setCell ⟨w.heap.size+1,3,none⟩ x3)∧Same0 w ((((ww.setCell ⟨w.heap.size+1,0,none⟩ x0).setCell ⟨w.heap.size+1,1,none⟩ x1).setCell ⟨w.heap.size+1,2,none⟩ x2).setCell ⟨w.heap.size+1,3,none⟩ x3)):=by
  intro ww x0 x1 x2 x3 hk
  have rs:=hk.at0 hfd
  have s3:=setAt (setAt (setAt (setAt rs 0 x0) 1 x1) 2 x2) 3 x3
  have k1:=kept_at ww (w.heap.size+1) 0 x0
  have k2:=Kept.trans k1 (kept_at _ (w.heap.size+1) 1 x1) (fun _ _ e=>e)
  have k3:=Kept.trans k2 (kept_at _ (w.heap.size+1) 2 x2) (fun _ _ e=>e)
  have k4:=Kept.trans k3 (kept_at _ (w.heap.size+1) 3 x3) (fun _ _ e=>e)
  exact ⟨⟨cellAt s3 0,cellAt s3 1,cellAt s3 2,cellAt s3 3⟩,k4,Kept.trans (KW.trans' hk) k4 (fun i hi e=>by omega)⟩
 have CLK:Hid (∀ ww a qo qc (p:List Int),Same0 w ww→a<I.length→Arg ww qo p qc→Calls Tryz.prog 106 #[.agg #[.slice io I.length ic,.slice po P.length pc,.slice eo E.length ec,.slice ro rl rc,.iface 70 (.agg #[.slice ho hn hc,.slice go gn gc]),.int .i64 node],.int .i64 (a:Int),.slice qo p.length qc] ww (LookOut ww (lookF L ok T I E node a p))):=fun ww a qo qc p hk ha hp=>look_any (hv.same hk) (hI.same hk) hl (hE.same hk) hp _ _ _ _ _ _ _ _ node a ha
 have HI:Hid (∀ ww j (hj:j<I.length),Same0 w ww→∃ b off,io=some ⟨b,off,none⟩∧ww.cell? ⟨b,off+j * 3,none⟩=some (.int .i64 I[j].1)∧ww.cell? ⟨b,off+j * 3+1,none⟩=some (.int .i64 I[j].2.1)∧ww.cell? ⟨b,off+j * 3+2,none⟩=some (.int .i64 I[j].2.2)):=fun ww j hj hk=>by
  obtain ⟨b,off,e,_,h0,h1,h2⟩:=(hI.same hk).get hj
  exact ⟨b,off,e,h0,h1,h2⟩
 have HPT:Hid (∀ ww j (hj:j<P.length),Same0 w ww→∃ b off ao ac,po=some ⟨b,off,none⟩∧ww.cell? ⟨b,off+j,none⟩=some (.slice ao P[j].length ac)∧Arg ww ao P[j] ac):=fun ww j hj hk=>by
  obtain ⟨b,off,ao,ac,e,_,h0,h1⟩:=(hP.same hk).get hj
  exact ⟨b,off,ao,ac,e,h0,h1⟩
 have RET:Hid (∀ ww k r err,Same0 w ww→R=(k,r,[],0,err)→FndOut w R (.returned (.tuple #[.agg #[.int .i64 k,.int .i64 r,.slice none 0 0,.int .i64 0],.int .i64 err])) ww):=fun ww k r err hk e=>by
  rw [e]
  exact ⟨none,0,rfl,World.ownsRow_nil _ _ _ _,hk⟩
 obtain ⟨x0,x1,x2,x3,x4,x5⟩:=BX.out W1 (Kept.refl _ _)
 clear hv hI hP hE hbx hfd
 go_enter Tryz.func65,Tryz.ntmps65
 go_upto_region 1 with fail
 rw [← hW1]
 clear hW1
 go_loopw [1] (fun s1 wr=>∃ a f:Nat,s1=.int .i64 (a:Int)∧Hid (I.length<a+(f+1)∧R=runF L ok T I P E node (f+1) a)∧Same0 W1 wr) (fun s1 _=>I.length-(intOf s1).toNat)
 case atStart=>exact ⟨a0,I.length,rfl,⟨by omega,HR.out⟩,Kept.refl _ _⟩
 case round=>
  clear x0 x1 x2 x3 x4 x5 HR
  obtain ⟨a,f,rfl,hF,hK⟩:=hrel
  obtain ⟨x0,x1,x2,x3,x4,x5⟩:=BX.out wr hK
  obtain ⟨⟨r0,r1,r2,r3⟩,f0,f1,f2,f3⟩:=RC.out wr hK
  by_cases hlt:a<I.length
  ·obtain ⟨b,off,rfl,c0,c1,c2⟩:=HI.out wr a hlt (KW.trans' hK)
   have i1:(0:Int)≤(a:Int):=by omega
   have i2:(a:Int)<(I.length:Int):=by omega
   obtain ⟨hf1,hf2⟩:=hF.out
   rw [runF_in hlt] at hf2
   obtain ⟨wi,hwi⟩:∃ wi,wi=wr.alloc (.cells #[.int .i64 I[a].1,.int .i64 I[a].2.1,.int .i64 I[a].2.2] 34):=⟨_,rfl⟩
   have ki:Same0 wr wi:=by rw [hwi];exact (Kept.refl _ _).alloc _
   have bi:wi.heap[wr.heap.size]? = some (.cells #[.int .i64 I[a].1,.int .i64 I[a].2.1,.int .i64 I[a].2.2] 34 (0,0)):=by rw [hwi];exact heap_alloc_new _ _
   have y0:=cellAt bi 0
   have y1:=cellAt bi 1
   have y2:=cellAt bi 2
   simp only [List.getElem?_toArray,List.getElem?_cons_zero,List.getElem?_cons_succ] at y0 y1 y2
   have hKi:=hK.trans' ki
   obtain ⟨v0,v1,v2,v3,v4,v5⟩:=BX.out wi hKi
   obtain ⟨⟨s0,s1,s2,s3⟩,g0,g1,g2,g3⟩:=RC.out wi hKi
   by_cases h4:I[a].1=4
   ·rw [if_pos h4] at hf2
    rw [h4] at c0 y0 hwi
    have PH:Hid _:=PUT.out wi (.int .i64 1) (.int .i64 I[a].2.1) (.slice none 0 0) (.int .i64 0) hKi
    have FR:Hid (R=(1,I[a].2.1,[],0,0)):=hf2
    generalize I[a].2.1=z at *
    clear hf1 hf2 hF HI HPT CLK h4
    go_upto_region 3 with fail
    rw [← hwi]
    clear hwi
    go_wp2_with fail
    obtain ⟨⟨q0,q1,q2,q3⟩,kk,ks⟩:=PH.out
    exact bodyPost_ret (v:=.tuple #[.agg #[.int .i64 1,.int .i64 z,.slice none 0 0,.int .i64 0],.int .i64 0]) (by simp [results,Tryz.results65,go_sem,q0,q1,q2,q3]) rfl (RET.out _ _ _ _ ks FR.out)
   ·rw [if_neg h4] at hf2
    by_cases h3:I[a].1=3
    ·rw [if_pos h3] at hf2
     rw [h3] at c0 y0 hwi
     have PH:Hid _:=PUT.out wi (.int .i64 2) (.int .i64 0) (.slice none 0 0) (.int .i64 0) hKi
     have FR:Hid (R=(2,0,[],0,0)):=hf2
     clear hf1 hf2 hF HI HPT CLK h4 h3
     go_upto_region 3 with fail
     rw [← hwi]
     clear hwi
     go_wp2_with fail
     obtain ⟨⟨q0,q1,q2,q3⟩,kk,ks⟩:=PH.out
     exact bodyPost_ret (v:=.tuple #[.agg #[.int .i64 2,.int .i64 0,.slice none 0 0,.int .i64 0],.int .i64 0]) (by simp [results,Tryz.results65,go_sem,q0,q1,q2,q3]) rfl (RET.out _ _ _ _ ks FR.out)
    ·rw [if_neg h3] at hf2
     have PH:Hid _:=PUT.out wi (.int .i64 0) (.int .i64 0) (.slice none 0 0) (.int .i64 0) hKi
     by_cases h1:I[a].1=1
     ·have CI:=isIndex_any I[a].2.1 P.length wi
      cases hix:idxB I[a].2.1 P.length with
      | false=>
       rw [hix] at CI
       rw [if_neg (by rw [hix];simp)] at hf2
       rw [h1] at c0 y0 hwi
       have FR:Hid (R=(0,0,[],0,92)):=hf2
       clear hf1 hf2 hF HI HPT CLK h4 h3 h1 hix
       generalize I[a].2.1=z at *
       go_upto_region 3 with fail
       rw [← hwi]
       clear hwi
       go_wp2_with (first | (go_at_call 56;refine CI.mono ?_;rintro e w2 ⟨rfl,rfl⟩))
       obtain ⟨⟨q0,q1,q2,q3⟩,kk,ks⟩:=PH.out
       exact bodyPost_ret (v:=.tuple #[.agg #[.int .i64 0,.int .i64 0,.slice none 0 0,.int .i64 0],.int .i64 92]) (by simp [results,Tryz.results65,go_sem,q0,q1,q2,q3]) rfl (RET.out _ _ _ _ ks FR.out)
      | true=>
       rw [hix] at CI
       rw [if_pos ⟨h1,hix⟩] at hf2
       obtain ⟨q,hq,hql⟩:=idx_yes hix
       have eg:P.getD I[a].2.1.toNat []=P[q]:=by rw [hq,Int.toNat_natCast];simp [hql]
       rw [eg] at hf2
       rw [h1] at c0 y0 hwi
       rw [hq] at c1 y1 hwi CI
       obtain ⟨pb,poff,qo,qc,rfl,p0,hA⟩:=HPT.out wi q hql (KW.trans' hKi)
       have HS:Hid (∀ ww,Same0 wi ww→ww.cell? ⟨w.heap.size,0,none⟩=some (.slice (some ⟨b,off,none⟩) I.length ic)∧ww.cell? ⟨w.heap.size,1,none⟩=some (.slice (some ⟨pb,poff,none⟩) P.length pc)∧ww.cell? ⟨w.heap.size,2,none⟩=some (.slice eo E.length ec)∧ww.cell? ⟨w.heap.size,3,none⟩=some (.slice ro rl rc)∧ww.cell? ⟨w.heap.size,4,none⟩=some (.iface 70 (.agg #[.slice ho hn hc,.slice go gn gc]))∧ww.cell? ⟨w.heap.size,5,none⟩=some (.int .i64 node)∧ww.cell? ⟨wr.heap.size,1,none⟩=some (.int .i64 (q:Int))∧ww.cell? ⟨pb,poff+q,none⟩=some (.slice qo P[q].length qc)):=fun ww hk=>by
        obtain ⟨t0,t1,t2,t3,t4,t5⟩:=BX.out ww (hKi.trans' hk)
        exact ⟨t0,t1,t2,t3,t4,t5,(hk.cell (p:=⟨wr.heap.size,1,none⟩) (lt_of_at bi) (fun f=>f)).trans y1,(hk.cell (p:=⟨pb,poff+q,none⟩) (World.block_lt_of_cell? _ _ p0) (fun f=>f)).trans p0⟩
       have CL:Hid (∀ ww,Same0 wi ww→Calls Tryz.prog 106 #[.agg #[.slice (some ⟨b,off,none⟩) I.length ic,.slice (some ⟨pb,poff,none⟩) P.length pc,.slice eo E.length ec,.slice ro rl rc,.iface 70 (.agg #[.slice ho hn hc,.slice go gn gc]),.int .i64 node],.int .i64 (a:Int),.slice qo P[q].length qc] ww (LookOut ww (lookF L ok T I E node a P[q]))):=fun ww hk=>CLK.out ww a qo qc P[q] ((KW.trans' hKi).trans' hk) hlt (hA.same hk)
       have q1:(0:Int)≤(q:Int):=by omega
       have q2:(q:Int)<(P.length:Int):=by omega
       have W0:=HS.out wi (Kept.refl _ _)
       have kd:Same0 wi wi.drew:=Kept.drew (Kept.refl _ _)
       have HL:Hid (lookF L ok T I E node a P[q]=lookF L ok T I E node a P[q]):=rfl
       have HGT:Hid (∀ z,lookF L ok T I E node a P[q]=.inr z→(a:Int)<z):=fun z e=>lookF_gt hlt e
       have CL2:Hid (∀ ww,Same0 wi ww→Calls Tryz.prog 106 #[.agg #[.slice (some ⟨b,off,none⟩) I.length ic,.slice (some ⟨pb,poff,none⟩) P.length pc,.slice eo E.length ec,.slice ro rl rc,.iface 70 (.agg #[.slice ho hn hc,.slice go gn gc]),.int .i64 node],.int .i64 (a:Int),.slice qo P[q].length qc] ww fun e w' => ∃ k r zo zl zc nd z err,e=.returned (.tuple #[.agg #[.int .i64 k,.int .i64 r,.slice zo zl zc,.int .i64 nd],.int .i64 z,.int .i64 err])∧Hid (LKR ww w' (lookF L ok T I E node a P[q]) k r zo zl zc nd z err)∧Same0 ww w'):=fun ww hk=>by
        refine (CL.out ww hk).mono ?_
        intro e w' h
        cases hlk:lookF L ok T I E node a P[q] with
        | inl r=>
         rw [hlk] at h
         obtain ⟨zo,zc,rfl,g1,g2⟩:=h
         exact ⟨_,_,_,_,_,_,_,_,rfl,⟨rfl,rfl,rfl,rfl,rfl,rfl,g1⟩,g2⟩
        | inr z=>
         rw [hlk] at h
         obtain ⟨rfl,g2⟩:=h
         exact ⟨_,_,_,_,_,_,_,_,rfl,⟨rfl,rfl,rfl,rfl,rfl,rfl,rfl,rfl⟩,g2⟩
       have HIN:Hid (∀ r,lookF L ok T I E node a P[q]=.inl r→r=bad5∨∃ nd,r=(3,0,P[q],nd,0)):=fun r e=>lookF_inl e
       have NX:Hid (I.length<a+(f+1)∧R=match lookF L ok T I E node a P[q] with | .inl r=>r | .inr z=>runF L ok T I P E node f z.toNat):=⟨hf1,hf2⟩
       generalize lookF L ok T I E node a P[q]=res at *
       clear hf1 hf2 hF HI HPT CLK CL h4 h3 h1 hix eg hA HL
       generalize P[q]=pth at *
       generalize I[a].2.2=ib2 at *
       go_upto_region 3 with fail
       rw [← hwi]
       clear hwi
       go_upto_region 10 with (first | (go_at_call 56;refine CI.mono ?_;rintro e wj ⟨rfl,rfl⟩))
       go_cut [7,8,9] from 41 to 54 (fun s7 s8 s9 wc=>∃ g k r zo zl zc nd z err,s7=.pointer (some ⟨g,0,none⟩)∧s8=.int .i64 z∧s9=.int .i64 err∧wc.heap[g]? = some (.cells #[.int .i64 k,.int .i64 r,.slice zo zl zc,.int .i64 nd] 73 (0,0))∧LKR wj wc res k r zo zl zc nd z err∧Same0 wj wc)
       case first=>
        go_region_held3 (fun w' => w'.cell? ⟨w.heap.size,0,none⟩=some (.slice (some ⟨b,off,none⟩) I.length ic)∧w'.cell? ⟨w.heap.size,1,none⟩=some (.slice (some ⟨pb,poff,none⟩) P.length pc)∧w'.cell? ⟨w.heap.size,2,none⟩=some (.slice eo E.length ec)∧w'.cell? ⟨w.heap.size,3,none⟩=some (.slice ro rl rc)∧w'.cell? ⟨w.heap.size,4,none⟩=some (.iface 70 (.agg #[.slice ho hn hc,.slice go gn gc]))∧w'.cell? ⟨w.heap.size,5,none⟩=some (.int .i64 node)∧w'.cell? ⟨wr.heap.size,1,none⟩=some (.int .i64 (q:Int))∧w'.cell? ⟨pb,poff+q,none⟩=some (.slice qo pth.length qc)) (first | exact W0 | exact cc1 | exact HS.out _ (by first | assumption | exact Kept.alloc (by assumption) _ | exact Same0.own (Same0.own (Same0.own (Same0.own (by assumption) (Nat.le_refl _) _) (Nat.le_refl _) _) (Nat.le_refl _) _) (Nat.le_refl _) _)) (first
         | (go_at_call 106;refine (CL2.out _ (by first | exact kd | exact Kept.alloc kd _)).mono ?_;rintro e w4 ⟨k,r,zo,zl,zc,nd,z,err,rfl,hLK,k4⟩;have hk1:Same0 wj w4:=(by first | exact kd.trans' k4 | exact Same0.trans' (Kept.alloc kd _) k4);have cc1:=HS.out _ hk1;try (have zb:w4.heap[wj.heap.size]? = some (.cells #[.int .i64 0,.int .i64 0,.slice none 0 0,.int .i64 0] 73 (0,0)):=k4.at0 (heap_alloc_new wj.drew _);have zc0:w4.cell? ⟨wj.heap.size,0,none⟩=some (.int .i64 0):=cellAt zb 0;have zc1:w4.cell? ⟨wj.heap.size,1,none⟩=some (.int .i64 0):=cellAt zb 1;have zc2:w4.cell? ⟨wj.heap.size,2,none⟩=some (.slice none 0 0):=cellAt zb 2;have zc3:w4.cell? ⟨wj.heap.size,3,none⟩=some (.int .i64 0):=cellAt zb 3;have zf0:=frozenAt zb 0;have zf1:=frozenAt zb 1;have zf2:=frozenAt zb 2;have zf3:=frozenAt zb 3)))
        all_goals
         go_wp2_with fail
         go_meet
         case rel=>
          first
           | exact ⟨_,k,r,zo,zl,zc,nd,z,err,rfl,rfl,rfl,heap_alloc_new w4 _,LKR.up hLK.out k4 (Kept.alloc (Kept.refl _ _) _) (Nat.le_refl _),Kept.alloc hk1 _⟩
           | exact ⟨_,k,r,zo,zl,zc,nd,z,err,rfl,rfl,rfl,setAt (setAt (setAt (setAt zb 0 _) 1 _) 2 _) 3 _,LKR.put hLK.out _ _ _ _,Same0.own (Same0.own (Same0.own (Same0.own hk1 (Nat.le_refl _) _) (Nat.le_refl _) _) (Nat.le_refl _) _) (Nat.le_refl _) _⟩
       case rest=>
        obtain ⟨g,k,r,zo,zl,zc,nd,z,err,rfl,rfl,rfl,hg,hLK,kc⟩:=hcut
        clear CL2 HS W0 v0 v1 v2 v3 v4 v5 x0 x1 x2 x3 x4 x5 CI y0 y1 y2 c0 c1 c2 s0 s1 s2 s3 g0 g1 g2 g3 r0 r1 r2 r3 f0 f1 f2 f3 PH p0 bi
        have kWc:=hKi.trans' kc
        have hjz:=hKi.size
        obtain ⟨⟨r0,r1,r2,r3⟩,f0,f1,f2,f3⟩:=RC.out wc kWc
        have d0:=cellAt hg 0
        have d1:=cellAt hg 1
        have d2:=cellAt hg 2
        have d3:=cellAt hg 3
        simp only [List.getElem?_toArray,List.getElem?_cons_zero,List.getElem?_cons_succ] at d0 d1 d2 d3
        have PH:Hid _:=PUT.out wc (.int .i64 k) (.int .i64 r) (.slice zo zl zc) (.int .i64 nd) kWc
        cases res with
        | inr x=>
         obtain ⟨rfl,rfl,rfl,rfl,rfl,rfl,rfl,rfl⟩:=hLK
         have hgt:=HGT.out z rfl
         have M:Hid (I.length<z.toNat+(f+1)∧R=runF L ok T I P E node (f+1) z.toNat):=by
          obtain ⟨n1,n2⟩:=NX.out
          refine ⟨by omega,?_⟩
          rw [← runF_more f (f+1) z.toNat (by omega) (by omega)]
          exact n2
         have hzn:z=((z.toNat:Nat):Int):=by omega
         have HM:Hid (I.length-z.toNat<I.length-a):=by show _<_;omega
         clear NX HGT HIN hgt PH hg
         go_wp2_with fail
         go_roundw
         case rel=>first | exact ⟨z.toNat,f,by rw [← hzn],M,kWc⟩ | ((repeat apply Exists.intro);exact ⟨⟨z.toNat,f,by rw [← hzn],M,kWc⟩,rfl⟩)
         case measure=>simp only [intOf];rw [Int.toNat_natCast];exact HM.out
        | inl R' =>
         obtain ⟨e1,e2,e3,e4,e5,e6,e7⟩:=hLK
         have hR:R=R' := NX.out.2
         rcases HIN.out R' rfl with h5 | ⟨nd', h5⟩
         ·rw [h5] at e1 e2 e3 e4 e6 e7 hR
          simp only [bad5] at e1 e2 e3 e4 e6 e7
          subst e1;subst e2;subst e4;subst e5;subst e6
          have HB:Hid (FndOut w R (.returned (.tuple #[.agg #[.int .i64 0,.int .i64 0,.slice zo zl zc,.int .i64 0],.int .i64 92])) ((((wc.setCell ⟨w.heap.size+1,0,none⟩ (.int .i64 0)).setCell ⟨w.heap.size+1,1,none⟩ (.int .i64 0)).setCell ⟨w.heap.size+1,2,none⟩ (.slice zo zl zc)).setCell ⟨w.heap.size+1,3,none⟩ (.int .i64 0))):=by
           obtain ⟨_,kk,ks⟩:=PH.out
           rw [hR]
           subst e3
           refine ⟨zo,zc,rfl,row_mono (kk.row e7 (fun q q1 q2=>?_)) (by omega),ks⟩
           have:=row_base e7 q1
           omega
          clear NX HGT HIN hg e3 e7 hR h5
          go_wp2_with fail
          obtain ⟨⟨q0,q1,q2,q3⟩,kk,ks⟩:=PH.out
          exact bodyPost_ret (v:=.tuple #[.agg #[.int .i64 0,.int .i64 0,.slice zo zl zc,.int .i64 0],.int .i64 92]) (by simp [results,Tryz.results65,go_sem,q0,q1,q2,q3]) rfl HB.out
         ·rw [h5] at e1 e2 e3 e4 e6 e7 hR
          simp only at e1 e2 e3 e4 e6 e7
          subst e1;subst e2;subst e4;subst e5;subst e6
          have HB:Hid (FndOut w R (.returned (.tuple #[.agg #[.int .i64 3,.int .i64 0,.slice zo zl zc,.int .i64 nd],.int .i64 0])) ((((wc.setCell ⟨w.heap.size+1,0,none⟩ (.int .i64 3)).setCell ⟨w.heap.size+1,1,none⟩ (.int .i64 0)).setCell ⟨w.heap.size+1,2,none⟩ (.slice zo zl zc)).setCell ⟨w.heap.size+1,3,none⟩ (.int .i64 nd))):=by
           obtain ⟨_,kk,ks⟩:=PH.out
           rw [hR]
           subst e3
           refine ⟨zo,zc,rfl,row_mono (kk.row e7 (fun q q1 q2=>?_)) (by omega),ks⟩
           have:=row_base e7 q1
           omega
          clear NX HGT HIN hg e3 e7 hR h5
          go_wp2_with fail
          obtain ⟨⟨q0,q1,q2,q3⟩,kk,ks⟩:=PH.out
          exact bodyPost_ret (v:=.tuple #[.agg #[.int .i64 3,.int .i64 0,.slice zo zl zc,.int .i64 nd],.int .i64 0]) (by simp [results,Tryz.results65,go_sem,q0,q1,q2,q3]) rfl HB.out
     ·rw [if_neg (fun e=>h1 e.1)] at hf2
      have FR:Hid (R=(0,0,[],0,92)):=hf2
      have e4:(I[a].1 == 4)=false:=by simpa using h4
      have e3:(I[a].1 == 3)=false:=by simpa using h3
      have e1:(I[a].1 == 1)=false:=by simpa using h1
      clear hf1 hf2 hF HI HPT CLK h4 h3 h1
      generalize I[a].1=z at *
      go_upto_region 3 with fail
      rw [← hwi]
      clear hwi
      go_wp2_with fail
      obtain ⟨⟨q0,q1,q2,q3⟩,kk,ks⟩:=PH.out
      exact bodyPost_ret (v:=.tuple #[.agg #[.int .i64 0,.int .i64 0,.slice none 0 0,.int .i64 0],.int .i64 92]) (by simp [results,Tryz.results65,go_sem,q0,q1,q2,q3]) rfl (RET.out _ _ _ _ ks FR.out)
  ·have FR:Hid (R=(0,0,[],0,92)):=by
    obtain ⟨_,h2⟩:=hF.out
    rw [runF_out (by omega)] at h2
    exact h2
   have PH:Hid _:=PUT.out wr (.int .i64 0) (.int .i64 0) (.slice none 0 0) (.int .i64 0) hK
   clear hF HI HPT CLK
   go_wp2_with fail
   obtain ⟨⟨q0,q1,q2,q3⟩,kk,ks⟩:=PH.out
   exact bodyPost_ret (v:=.tuple #[.agg #[.int .i64 0,.int .i64 0,.slice none 0 0,.int .i64 0],.int .i64 92]) (by simp [results,Tryz.results65,go_sem,q0,q1,q2,q3]) rfl (RET.out _ _ _ _ ks FR.out)
theorem vw_nil (v:Value) (w:World):(binOp .eql 147 (.iface 70 v) .nilIface).run Tryz.prog w=.ok (.bool false) w:=by kernel_rfl
theorem vw_ptr (v u:Value) (w:World):(binOp .eql 147 (.iface 70 v) (.iface 148 u)).run Tryz.prog w=.ok (.bool false) w:=by kernel_rfl
set_option maxHeartbeats 16000000 in
theorem run_any {base:Nat} {w:World} {L:List Sym} {ok:Bool} {T:List Int} {ho:Option Addr} {hn hc:Nat} {go:Option Addr} {gn gc:Nat} (hv:VwAt base w L ok T (.agg #[.slice ho hn hc,.slice go gn gc])) {io:Option Addr} {I:List I3} (hI:InsAt w io I) (hl:I.length≤140737488355328) {po:Option Addr} {P:List (List Int)} (hP:PthAt w po P) {eo:Option Addr} {E:List Int} (hE:IntsAt w eo E) (ic pc ec:Nat) (ro:Option Addr) (rl rc:Nat) (n node:Int) :
  Calls Tryz.prog 25 #[.agg #[.slice io I.length ic,.slice po P.length pc,.slice eo E.length ec,.slice ro rl rc],.int .i64 n,.iface 70 (.agg #[.slice ho hn hc,.slice go gn gc]),.int .i64 node] w (FndOut w (codeF L ok T I P E n node)):=by
 have en:=vw_nil (.agg #[.slice ho hn hc,.slice go gn gc])
 have ep:=vw_ptr (.agg #[.slice ho hn hc,.slice go gn gc]) (.pointer none)
 obtain ⟨W1,hW1⟩:∃ W1,W1=(w.alloc (.cells #[.slice io I.length ic,.slice po P.length pc,.slice eo E.length ec,.slice ro rl rc] 45)).alloc (.cells #[.int .i64 0,.int .i64 0,.slice none 0 0,.int .i64 0] 73):=⟨_,rfl⟩
 have KW:Same0 w W1:=by rw [hW1];exact ((Kept.refl _ w).alloc _).alloc _
 have hbx:W1.heap[w.heap.size]? = some (.cells #[.slice io I.length ic,.slice po P.length pc,.slice eo E.length ec,.slice ro rl rc] 45 (0,0)):=by rw [hW1];exact heap_alloc2_old _ _ _
 have hfd:W1.heap[w.heap.size+1]? = some (.cells #[.int .i64 0,.int .i64 0,.slice none 0 0,.int .i64 0] 73 (0,0)):=by rw [hW1];exact heap_al_al _ _ _
 have zW:w.heap.size+1<W1.heap.size:=lt_of_at hfd
 have BX:Hid (∀ ww,Same0 W1 ww→ww.cell? ⟨w.heap.size,0,none⟩=some (.slice io I.length ic)∧ww.cell? ⟨w.heap.size,1,none⟩=some (.slice po P.length pc)∧ww.cell? ⟨w.heap.size,2,none⟩=some (.slice eo E.length ec)∧ww.cell? ⟨w.heap.size,3,none⟩=some (.slice ro rl rc)):=fun ww hk=>by
  have:=hk.at0 hbx
  exact ⟨cellAt this 0,cellAt this 1,cellAt this 2,cellAt this 3⟩
 have RC:Hid (∀ ww,Same0 W1 ww→(ww.cell? ⟨w.heap.size+1,0,none⟩=some (.int .i64 0)∧ww.cell? ⟨w.heap.size+1,1,none⟩=some (.int .i64 0)∧ww.cell? ⟨w.heap.size+1,2,none⟩=some (.slice none 0 0)∧ww.cell? ⟨w.heap.size+1,3,none⟩=some (.int .i64 0))∧ww.frozen? ⟨w.heap.size+1,0,none⟩=false∧ww.frozen? ⟨w.heap.size+1,1,none⟩=false∧ww.frozen? ⟨w.heap.size+1,2,none⟩=false∧ww.frozen? ⟨w.heap.size+1,3,none⟩=false):=fun ww hk=>by
  have:=hk.at0 hfd
  exact ⟨⟨cellAt this 0,cellAt this 1,cellAt this 2,cellAt this 3⟩,frozenAt this 0,frozenAt this 1,frozenAt this 2,frozenAt this 3⟩
 have PUT:Hid (∀ ww x0 x1 x2 x3,Same0 W1 ww→(((((ww.setCell ⟨w.heap.size+1,0,none⟩ x0).setCell ⟨w.heap.size+1,1,none⟩ x1).setCell ⟨w.heap.size+1,2,none⟩ x2).setCell ⟨w.heap.size+1,3,none⟩ x3).cell? ⟨w.heap.size+1,0,none⟩=some x0∧((((ww.setCell ⟨w.heap.size+1,0,none⟩ x0).setCell ⟨w.heap.size+1,1,none⟩ x1).setCell ⟨w.heap.size+1,2,none⟩ x2).setCell ⟨w.heap.size+1,3,none⟩ x3).cell? ⟨w.heap.size+1,1,none⟩=some x1∧((((ww.setCell ⟨w.heap.size+1,0,none⟩ x0).setCell ⟨w.heap.size+1,1,none⟩ x1).setCell ⟨w.heap.size+1,2,none⟩ x2).setCell ⟨w.heap.size+1,3,none⟩ x3).cell? ⟨w.heap.size+1,2,none⟩=some x2∧((((ww.setCell ⟨w.heap.size+1,0,none⟩ x0).setCell ⟨w.heap.size+1,1,none⟩ x1).setCell ⟨w.heap.size+1,2,none⟩ x2).setCell ⟨w.heap.size+1,3,none⟩ x3).cell? ⟨w.heap.size+1,3,none⟩=some x3)∧Kept (fun q=>q=w.heap.size+1) ww ((((ww.setCell ⟨w.heap.size+1,0,none⟩ x0).setCell ⟨w.heap.size+1,1,none⟩ x1).setCell ⟨w.heap.size+1,2,none⟩ x2).setCell ⟨w.heap.size+1,3,none⟩ x3)∧Same0 w ((((ww.setCell ⟨w.heap.size+1,0,none⟩ x0).setCell ⟨w.heap.size+1,1,none⟩ x1).setCell ⟨w.heap.size+1,2,none⟩ x2).setCell ⟨w.heap.size+1,3,none⟩ x3)):=by
  intro ww x0 x1 x2 x3 hk
  have rs:=hk.at0 hfd
  have s3:=setAt (setAt (setAt (setAt rs 0 x0) 1 x1) 2 x2) 3 x3
  have k1:=kept_at ww (w.heap.size+1) 0 x0
  have k2:=Kept.trans k1 (kept_at _ (w.heap.size+1) 1 x1) (fun _ _ e=>e)
  have k3:=Kept.trans k2 (kept_at _ (w.heap.size+1) 2 x2) (fun _ _ e=>e)
  have k4:=Kept.trans k3 (kept_at _ (w.heap.size+1) 3 x3) (fun _ _ e=>e)
  exact ⟨⟨cellAt s3 0,cellAt s3 1,cellAt s3 2,cellAt s3 3⟩,k4,Kept.trans (KW.trans' hk) k4 (fun i hi e=>by omega)⟩
 have CH:=chas_any (hE.same KW) io po ro I.length ic P.length pc ec rl rc n
 obtain ⟨x0,x1,x2,x3⟩:=BX.out W1 (Kept.refl _ _)
 cases hb:hasB E n with
 | false=>
  rw [hb] at CH
  have HR:Hid (codeF L ok T I P E n node=(0,0,[],0,90)):=by show _=_;rw [codeF,if_neg (by rw [hb];simp)]
  clear hv hI hP hE hbx hfd hb
  go_enter Tryz.func25,Tryz.ntmps25
  go_upto_region 1 with fail
  rw [← hW1]
  clear hW1
  go_wp2_with (first | (go_at_call 64;refine CH.mono ?_;rintro e w2 ⟨rfl,k2⟩;obtain ⟨⟨r0,r1,r2,r3⟩,f0,f1,f2,f3⟩:=RC.out w2 k2))
  obtain ⟨⟨q0,q1,q2,q3⟩,kk,ks⟩:=PUT.out w2 (.int .i64 0) (.int .i64 0) (.slice none 0 0) (.int .i64 0) k2
  refine bodyPost_ret (v:=.tuple #[.agg #[.int .i64 0,.int .i64 0,.slice none 0 0,.int .i64 0],.int .i64 90]) (by simp [results,Tryz.results25,go_sem,q0,q1,q2,q3]) rfl ?_
  rw [HR.out]
  exact ⟨none,0,rfl,World.ownsRow_nil _ _ _ _,ks⟩
 | true=>
  rw [hb] at CH
  have hb2:=hb
  unfold hasB at hb2
  simp only [Bool.and_eq_true,decide_eq_true_eq] at hb2
  obtain ⟨i,rfl,hil⟩:=idx_yes hb2.1
  have hei:E.getD ((i:Int)).toNat (-1)=E[i]:=by rw [Int.toNat_natCast];simp [hil]
  have h0:0≤E[i]:=by have:=hb2.2;rw [hei] at this;exact this
  obtain ⟨a0,ha0⟩:∃ a0:Nat,E[i]=(a0:Int):=⟨E[i].toNat,by omega⟩
  have HR:Hid (codeF L ok T I P E (i:Int) node=runF L ok T I P E node (I.length+1) a0):=by show _=_;rw [codeF,if_pos hb,hei,ha0,Int.toNat_natCast]
  obtain ⟨eb,eoff,rfl,heb,hec⟩:=hE.get hil
  rw [ha0] at hec
  have CF:Hid (∀ ww,Same0 w ww→Calls Tryz.prog 65 #[.agg #[.slice io I.length ic,.slice po P.length pc,.slice (some ⟨eb,eoff,none⟩) E.length ec,.slice ro rl rc,.iface 70 (.agg #[.slice ho hn hc,.slice go gn gc]),.int .i64 node],.int .i64 (a0:Int)] ww fun e w' => ∃ qk qr qo ql qc qn qe,e=.returned (.tuple #[.agg #[.int .i64 qk,.int .i64 qr,.slice qo ql qc,.int .i64 qn],.int .i64 qe])∧Hid (FndOut ww (runF L ok T I P E node (I.length+1) a0) (.returned (.tuple #[.agg #[.int .i64 qk,.int .i64 qr,.slice qo ql qc,.int .i64 qn],.int .i64 qe])) w')∧Same0 ww w'):=fun ww hk=>by
   refine (from_any (hv.same hk) (hI.same hk) hl (hP.same hk) (hE.same hk) ic pc ec ro rl rc node a0).mono ?_
   intro e w' h
   obtain ⟨qo,qc,rfl,h1,h2⟩:=h
   exact ⟨_,_,_,_,_,_,_,rfl,⟨qo,qc,rfl,h1,h2⟩,h2⟩
  have i1:(0:Int)≤(i:Int):=by omega
  have i2:(i:Int)<(E.length:Int):=by omega
  have HS:Hid (∀ ww,Same0 W1 ww→ww.cell? ⟨w.heap.size,0,none⟩=some (.slice io I.length ic)∧ww.cell? ⟨w.heap.size,1,none⟩=some (.slice po P.length pc)∧ww.cell? ⟨w.heap.size,2,none⟩=some (.slice (some ⟨eb,eoff,none⟩) E.length ec)∧ww.cell? ⟨w.heap.size,3,none⟩=some (.slice ro rl rc)∧ww.cell? ⟨eb,eoff+i,none⟩=some (.int .i64 (a0:Int))):=fun ww hk=>by
   obtain ⟨t0,t1,t2,t3⟩:=BX.out ww hk
   exact ⟨t0,t1,t2,t3,((KW.trans' hk).cell (p:=⟨eb,eoff+i,none⟩) heb (fun f=>f)).trans hec⟩
  clear hv hI hP hE hbx hfd hb hb2 hei h0 ha0
  go_enter Tryz.func25,Tryz.ntmps25
  go_upto_region 1 with fail
  rw [← hW1]
  clear hW1
  go_upto_region 5 with (first | (go_at_call 64;refine CH.mono ?_;rintro e w2 ⟨rfl,k2⟩))
  have C0:=HS.out w2 k2
  have kd:Same0 w2 w2.drew:=Kept.drew (Kept.refl _ _)
  go_region_held3 (fun w' => w'.cell? ⟨w.heap.size,0,none⟩=some (.slice io I.length ic)∧w'.cell? ⟨w.heap.size,1,none⟩=some (.slice po P.length pc)∧w'.cell? ⟨w.heap.size,2,none⟩=some (.slice (some ⟨eb,eoff,none⟩) E.length ec)∧w'.cell? ⟨w.heap.size,3,none⟩=some (.slice ro rl rc)∧w'.cell? ⟨eb,eoff+i,none⟩=some (.int .i64 (a0:Int))) (first | exact C0 | exact cc3 | exact cc4.out) (first
   | (go_at_call 65;refine (CF.out _ ((KW.trans' k2).trans' kd)).mono ?_;rintro e w3 ⟨qk,qr,qo,ql,qc,qn,qe,rfl,hF,k3⟩;have hk3:Same0 W1 w3:=(k2.trans' kd).trans' k3;have cc3:=HS.out w3 hk3;obtain ⟨⟨r0,r1,r2,r3⟩,f0,f1,f2,f3⟩:=RC.out w3 hk3;have PH:Hid _:=PUT.out w3 (.int .i64 qk) (.int .i64 qr) (.slice qo ql qc) (.int .i64 qn) hk3;have cc4:Hid _:=And.intro ((PH.out.2.1.cell (p:=⟨w.heap.size,0,none⟩) (World.block_lt_of_cell? _ _ cc3.1) (fun e=>(by have e' : w.heap.size=w.heap.size+1:=e;omega))).trans cc3.1) (And.intro ((PH.out.2.1.cell (p:=⟨w.heap.size,1,none⟩) (World.block_lt_of_cell? _ _ cc3.2.1) (fun e=>(by have e' : w.heap.size=w.heap.size+1:=e;omega))).trans cc3.2.1) (And.intro ((PH.out.2.1.cell (p:=⟨w.heap.size,2,none⟩) (World.block_lt_of_cell? _ _ cc3.2.2.1) (fun e=>(by have e' : w.heap.size=w.heap.size+1:=e;omega))).trans cc3.2.2.1) (And.intro ((PH.out.2.1.cell (p:=⟨w.heap.size,3,none⟩) (World.block_lt_of_cell? _ _ cc3.2.2.2.1) (fun e=>(by have e' : w.heap.size=w.heap.size+1:=e;omega))).trans cc3.2.2.2.1) ((PH.out.2.1.cell (p:=⟨eb,eoff+i,none⟩) (World.block_lt_of_cell? _ _ cc3.2.2.2.2) (fun e=>(by have e' : eb=w.heap.size+1:=e;omega))).trans cc3.2.2.2.2))))))
  all_goals
   go_wp2_with fail
   obtain ⟨⟨q0,q1,q2,q3⟩,kk,ks⟩:=PH.out
   refine bodyPost_ret (v:=.tuple #[.agg #[.int .i64 qk,.int .i64 qr,.slice qo ql qc,.int .i64 qn],.int .i64 qe]) (by simp [results,Tryz.results25,go_sem,q0,q1,q2,q3]) rfl ?_
   rw [HR.out]
   obtain ⟨zo,zc,e1,h1,h2⟩:=hF.out
   refine ⟨zo,zc,e1,row_mono (kk.row h1 (fun q e e2=>?_)) ?_,ks⟩
   ·have:=row_base h1 e
    have e3:q=w.heap.size+1:=e2
    have hz:=k2.size
    have hz2:w2.drew.heap.size=w2.heap.size:=rfl
    omega
   ·have hz:=(KW.trans' k2).size
    exact hz
set_option maxHeartbeats 4000000 in
theorem sameIns_any {w:World} {io jo:Option Addr} {I:List I3} (hI:InsAt w io I) (hJ:InsAt w jo I) (hl:I.length≤140737488355328) (ic jc:Nat) :
  Calls Tryz.prog 13 #[.slice io I.length ic,.slice jo I.length jc] w fun e w' => e=.returned (.bool true)∧Same0 w w' := by
 go_enter Tryz.func13,Tryz.ntmps13
 go_upto_region 4 with fail
 go_loopw [5] (fun s5 wr=>∃ k:Nat,k≤I.length∧s5=.int .i64 (k:Int)∧Same0 w wr) (fun s5 _=>I.length-(intOf s5).toNat)
 case atStart=>exact ⟨0,Nat.zero_le _,rfl,Kept.refl _ _⟩
 case round=>
  obtain ⟨k,hk,rfl,hs⟩:=hrel
  by_cases hlt:k<I.length
  ·obtain ⟨b,off,rfl,hb,c0,c1,c2⟩:=(hI.same hs).get hlt
   obtain ⟨b', off', rfl,hb', d0,d1,d2⟩:=(hJ.same hs).get hlt
   have i1:(0:Int)≤(k:Int):=by omega
   have i2:(k:Int)<(I.length:Int):=by omega
   generalize I[k].1=x at *
   generalize I[k].2.1=y at *
   generalize I[k].2.2=z at *
   go_upto_region 6 with fail
   go_quiet (fail)
   go_wp2_with fail
   go_roundw
   case rel=>first | exact ⟨k+1,by omega,by go_num,Kept.drewN hs _⟩ | ((repeat apply Exists.intro);exact ⟨⟨k+1,by omega,by go_num,Kept.drewN hs _⟩,rfl⟩)
   case measure=>simp [intOf];omega
  ·go_wp2_with fail
   go_ret
   exact ⟨rfl,hs⟩
def wtN (Q:List (Int × List Int)):Nat:=Q.countP (fun p=>decide (0≤p.1))
theorem wtN_step {Q:List (Int × List Int)} {k:Nat} (h:k<Q.length):wtN (Q.take (k+1))=wtN (Q.take k)+if 0≤Q[k].1 then 1 else 0:=by
 unfold wtN
 rw [← List.take_append_getElem h,List.countP_append]
 simp [List.countP_cons]
theorem wtN_le (Q:List (Int × List Int)):wtN Q≤Q.length:=List.countP_le_length
def RgAt (w:World) (ro:Option Addr) (Q:List (List (Int × List Int))):Prop:=
 Q=[]∨∃ b off,ro=some ⟨b,off,none⟩∧b<w.heap.size∧∀ i (h:i<Q.length),∃ g gc,w.cell? ⟨b,off+i,none⟩=some (.slice (some ⟨g,0,none⟩) Q[i].length gc)∧g<w.heap.size∧∀ j (hj:j<Q[i].length),∃ ao al ac,w.cell? ⟨g,j * 2,none⟩=some (.int .i64 Q[i][j].1)∧w.cell? ⟨g,j * 2+1,none⟩=some (.slice ao al ac)
theorem RgAt.same {w w' : World} {ro:Option Addr} {Q:List (List (Int × List Int))} (h:RgAt w ro Q) (hk:Same0 w w'):RgAt w' ro Q:=by
 refine h.imp id ?_
 rintro ⟨b,off,e,hb,hc⟩
 refine ⟨b,off,e,Nat.lt_of_lt_of_le hb hk.size,fun i hi=>?_⟩
 obtain ⟨g,gc,c0,hg,c1⟩:=hc i hi
 refine ⟨g,gc,(hk.cell (p:=⟨b,off+i,none⟩) hb (fun f=>f)).trans c0,Nat.lt_of_lt_of_le hg hk.size,fun j hj=>?_⟩
 obtain ⟨ao,al,ac,d0,d1⟩:=c1 j hj
 exact ⟨ao,al,ac,(hk.cell (p:=⟨g,j * 2,none⟩) hg (fun f=>f)).trans d0,(hk.cell (p:=⟨g,j * 2+1,none⟩) hg (fun f=>f)).trans d1⟩
set_option maxHeartbeats 8000000 in
theorem weight_any {w:World} {ro:Option Addr} {Q:List (List (Int × List Int))} (hR:RgAt w ro Q) (hl:∀ i (h:i<Q.length),Q[i].length≤140737488355328) (io po eo:Option Addr) (il ic pl pc el ec rc:Nat) (n:Int) :
  Calls Tryz.prog 21 #[.agg #[.slice io il ic,.slice po pl pc,.slice eo el ec,.slice ro Q.length rc],.int .i64 n] w fun e w' => e=.returned (.tuple #[.int .i64 (if idxB n Q.length then (wtN (Q.getD n.toNat []):Int) else 0),.int .i64 (if idxB n Q.length then 0 else 91)])∧Same0 w w' := by
 have CI:=isIndex_any n Q.length
 obtain ⟨W1,hW1⟩:∃ W1,W1=w.alloc (.cells #[.slice io il ic,.slice po pl pc,.slice eo el ec,.slice ro Q.length rc] 45):=⟨_,rfl⟩
 have ka:Same0 w W1:=by rw [hW1];exact (Kept.refl _ w).alloc _
 have hbx:W1.heap[w.heap.size]? = some (.cells #[.slice io il ic,.slice po pl pc,.slice eo el ec,.slice ro Q.length rc] 45 (0,0)):=by rw [hW1];exact heap_alloc_new w _
 have x3:W1.cell? ⟨w.heap.size,3,none⟩=some (.slice ro Q.length rc):=cellAt hbx 3
 cases hi:idxB n Q.length with
 | false=>
  rw [hi] at CI
  clear hi hR hbx hl
  go_enter Tryz.func21,Tryz.ntmps21
  go_upto_region 1 with fail
  rw [← hW1]
  clear hW1
  go_wp2_with (first | (go_at_call 56;refine (CI _).mono ?_;rintro e w2 ⟨rfl,rfl⟩))
  go_ret2
  exact ⟨rfl,ka⟩
 | true=>
  rw [hi] at CI
  obtain ⟨i,rfl,hil⟩:=idx_yes hi
  have hq:Q.getD ((i:Int)).toNat []=Q[i]:=by rw [Int.toNat_natCast];simp [hil]
  rw [hq]
  obtain ⟨b,off,rfl,hb,hc⟩:∃ b off,ro=some ⟨b,off,none⟩∧b<W1.heap.size∧∃ g gc,W1.cell? ⟨b,off+i,none⟩=some (.slice (some ⟨g,0,none⟩) Q[i].length gc)∧g<W1.heap.size∧∀ j (hj:j<Q[i].length),∃ ao al ac,W1.cell? ⟨g,j * 2,none⟩=some (.int .i64 Q[i][j].1)∧W1.cell? ⟨g,j * 2+1,none⟩=some (.slice ao al ac):=by
   rcases hR.same ka with h | ⟨b,off,e,hb,hc⟩
   ·rw [h] at hil;simp at hil
   ·exact ⟨b,off,e,hb,hc i hil⟩
  obtain ⟨g,gc,c0,hg,c1⟩:=hc
  have HL:=hl i hil
  generalize Q[i]=q at *
  have HC:Hid (∀ wr,Same0 W1 wr→∀ j (hj:j<q.length),∃ ao al ac,wr.cell? ⟨g,j * 2,none⟩=some (.int .i64 q[j].1)∧wr.cell? ⟨g,j * 2+1,none⟩=some (.slice ao al ac)):=fun wr hk j hj=>by
   obtain ⟨ao,al,ac,d0,d1⟩:=c1 j hj
   exact ⟨ao,al,ac,(hk.cell (p:=⟨g,j * 2,none⟩) hg (fun f=>f)).trans d0,(hk.cell (p:=⟨g,j * 2+1,none⟩) hg (fun f=>f)).trans d1⟩
  have i1:(0:Int)≤(i:Int):=by omega
  have i2:(i:Int)<(Q.length:Int):=by omega
  clear hi hR hbx hl c1 hq
  go_enter Tryz.func21,Tryz.ntmps21
  go_upto_region 1 with fail
  rw [← hW1]
  clear hW1
  go_upto_region 5 with (first | (go_at_call 56;refine (CI _).mono ?_;rintro e w2 ⟨rfl,rfl⟩))
  go_loopw [6,21] (fun s6 s21 wr=>∃ k:Nat,k≤q.length∧s6=.int .i64 (wtN (q.take k):Int)∧s21=.int .i64 (k:Int)∧Same0 w2 wr) (fun _ s21 _=>q.length-(intOf s21).toNat)
  case atStart=>exact ⟨0,Nat.zero_le _,by simp [wtN],rfl,Kept.refl _ _⟩
  case round=>
   obtain ⟨k,hk,rfl,rfl,hs⟩:=hrel
   by_cases hlt:k<q.length
   ·obtain ⟨ao,al,ac,d0,d1⟩:=HC.out wr hs k hlt
    have hst:=wtN_step hlt
    have hle:=wtN_le (q.take k)
    rw [List.length_take] at hle
    have hle2:wtN (q.take k)≤k:=by omega
    have j1:(0:Int)≤(k:Int):=by omega
    have j2:(k:Int)<(q.length:Int):=by omega
    generalize q[k].1=x at *
    generalize wtN (q.take k)=m at *
    by_cases hx:0≤x
    ·rw [if_pos hx] at hst
     go_wp2_with fail
     go_roundw
     case rel=>exact ⟨k+1,by omega,by rw [hst];go_num,by go_num,hs.trans' (Kept.alloc (Kept.refl _ _) _)⟩
     case measure=>simp [intOf];omega
    ·rw [if_neg hx] at hst
     go_wp2_with fail
     go_roundw
     case rel=>exact ⟨k+1,by omega,by rw [hst];go_num,by go_num,hs.trans' (Kept.alloc (Kept.refl _ _) _)⟩
     case measure=>simp [intOf];omega
   ·obtain rfl:k=q.length:=by omega
    rw [List.take_length]
    go_wp2_with fail
    go_ret2
    exact ⟨rfl,ka.trans' hs⟩
theorem Lay.insAt {B:Nat→Prop} {w:World} {io:Option Addr} {n ic:Nat} {vp:Value} {s:St9} (h:Lay B w (.slice io n ic) vp s):InsAt w io s.1:=by
 rcases h.ri.2 with ⟨e,h0⟩ | ⟨g,cap,cur,e,hb,hg,h1,h2,h3,h4⟩
 ·exact .inl (List.eq_nil_of_length_eq_zero h0)
 ·cases e
  refine .inr ⟨g,0,rfl,lt_of_at hg,fun i hi=>?_⟩
  obtain ⟨a,b,c⟩:=insV_at hi
  rw [Nat.zero_add,h.ri.cellAt _ (by omega),h.ri.cellAt _ (by omega),h.ri.cellAt _ (by omega)]
  exact ⟨a,b,c⟩
theorem Lay.pthAt {B:Nat→Prop} {w:World} {po:Option Addr} {n pc:Nat} {vi:Value} {s:St9} (h:Lay B w vi (.slice po n pc) s):PthAt w po s.2:=by
 obtain ⟨vs,hr,hp⟩:=h.rp
 rcases hr.2 with ⟨e,h0⟩ | ⟨g,cap,cur,e,hb,hg,h1,h2,h3,h4⟩
 ·exact .inl (List.eq_nil_of_length_eq_zero h0)
 ·cases e
  refine .inr ⟨g,0,rfl,lt_of_at hg,fun i hi=>?_⟩
  obtain ⟨ao,ac,a,b,_⟩:=hp.2 i hi
  refine ⟨ao,ac,?_,b.1⟩
  rw [Nat.zero_add,hr.cellAt _ (by omega)]
  exact a
theorem RtC.rgAt {base:Nat} {w:World} {ro:Option Addr} {n rc:Nat} {cs:List Value} {Q:List (List (Int × List Int))} (hr:w.ownsRow base 62 1 (.slice ro n rc) n cs) (h:RtC base w cs Q):RgAt w ro Q:=by
 have hn:Q.length=n:=by have:=hr.1;have:=h.1;omega
 rcases hr.2 with ⟨e,h0⟩ | ⟨g,cap,cur,e,hb,hg,h1,h2,h3,h4⟩
 ·exact .inl (List.eq_nil_of_length_eq_zero (by omega))
 ·cases e
  refine .inr ⟨g,0,rfl,lt_of_at hg,fun i hi=>?_⟩
  obtain ⟨g', gc,a,b,cu,c1,c2,c3⟩:=h.2 i hi
  refine ⟨g', gc,?_,lt_of_at c1,fun j hj=>?_⟩
  ·rw [Nat.zero_add,hr.cellAt _ (by omega)]
   exact a
  ·obtain ⟨ao,ac,d1,d2,_⟩:=c3 j hj hj
   exact ⟨ao,_,ac,(cellAt c1 _).trans d1,(cellAt c1 _).trans d2⟩
set_option maxHeartbeats 8000000 in
theorem radd_yes {w:World} {m:Nat} {ro:Option Addr} {rc:Nat} {L:List Sym} {R:List Ru} {lv:Value} {vs:List Value} (h:MO w m ro rc L R lv vs) {lo:Option Addr} {lc:Nat} {l:List Ru} (hl:RsAt w lo l) (hll:l.length≤140737488355328) (hln:lo=none→lc=0) (ha:Ans L R l []) (hok:∀ x∈l,checkE L x.1=0∧checkE L x.2=0) (hlen:R.length+l.length≤100)
  (hlk:∀ ww,Kept (fun q=>q=m∨lv.ownBlock=some q) w ww→RsAt ww lo l) :
  Calls Tryz.prog 49 #[.pointer (some ⟨m,0,none⟩),.slice lo l.length lc] w fun e w' => ∃ lv' vs', e=.returned (.slice none 0 0)∧MO w' m ro rc L (R++l) lv' vs' ∧ (∀ q,lv'.ownBlock=some q→lv.ownBlock=some q∨w.heap.size≤q)∧Kept (fun q=>q=m∨lv.ownBlock=some q) w w' := by
 obtain ⟨mo,mc,hlv,hm⟩:=h.read
 have CK:=rchk_any hm (lc:=lc) hl hll hln
 have c1:=cellAt h.blk 1
 have HH:Hid (∀ ww,Same0 w ww→MO ww m ro rc L R lv vs):=fun ww hk=>h.same hk
 clear hlv hm hl h
 go_enter Tryz.func49,Tryz.ntmps49
 go_wp2_with (first | (go_at_call 90;refine CK.mono ?_;rintro e w1 ⟨ws,v,rfl,hws,hwa,hk1⟩;obtain rfl:ws=[]:=hws.uniq ha;obtain ⟨wo,wc', rfl,_⟩:=hwa))
 have M1:=HH.out w1 hk1
 have K1:Kept (fun q=>q=m∨lv.ownBlock=some q) w w1:=Kept.mono hk1 (fun _ _ f=>f.elim)
 clear HH CK hk1 c1
 go_loopw [6] (fun i wr=>∃ (k:Nat) (lk:Value) (vk:List Value),k≤l.length∧i=.int .i64 (k:Int)∧Hid (MO wr m ro rc L (R++l.take k) lk vk)∧Hid (∀ q,lk.ownBlock=some q→lv.ownBlock=some q∨w.heap.size≤q)∧Kept (fun q=>q=m∨lv.ownBlock=some q) w wr) (fun i _=>l.length-(intOf i).toNat)
 case atStart=>exact ⟨0,lv,vs,Nat.zero_le _,rfl,by simpa [Hid] using M1,(fun q e=>.inl e),K1⟩
 case round=>
  clear M1 K1
  obtain ⟨k,lk,vk,hk,rfl,hM,hB,hw⟩:=hrel
  by_cases hlt:k<l.length
  ·obtain ⟨gb,goff,rfl,hgb,go1,gc1,go2,gc2,r0,r1,A1,A2⟩:=(hlk wr hw).get hlt
   have hxk:=hok _ (List.getElem_mem hlt)
   have hxl:=ok_len hxk
   obtain ⟨a1,rfl⟩:∃ a1,go1=some a1:=by
    cases go1 with
    | none=>have:=(A1.nil rfl).1;omega
    | some a=>exact ⟨a,rfl⟩
   obtain ⟨a2,rfl⟩:∃ a2,go2=some a2:=by
    cases go2 with
    | none=>have:=(A2.nil rfl).1;omega
    | some a=>exact ⟨a,rfl⟩
   have i1:(0:Int)≤(k:Int):=by omega
   have i2:(k:Int)<(l.length:Int):=by omega
   have hn:(R++l.take k).length=R.length+k:=by simp;omega
   have CELLS:Hid (∀ ww,Same0 wr ww→ww.cell? ⟨m,1,none⟩=some lk∧ww.cell? ⟨gb,goff+k * 2,none⟩=some (.slice (some a1) l[k].1.length gc1)∧ww.cell? ⟨gb,goff+k * 2+1,none⟩=some (.slice (some a2) l[k].2.length gc2)):=fun ww hk=>⟨cellAt (hk.at0 hM.out.blk) 1,(hk.cell (p:=⟨gb,goff+k * 2,none⟩) hgb (fun f=>f)).trans r0,(hk.cell (p:=⟨gb,goff+k * 2+1,none⟩) hgb (fun f=>f)).trans r1⟩
   have CO:Hid (∀ ww,Same0 wr ww→Calls Tryz.prog 91 #[.agg #[.slice (some a1) l[k].1.length gc1,.slice (some a2) l[k].2.length gc2]] ww fun e w' => ∃ g c g' c', e=.returned (.agg #[.slice (some ⟨g,0,none⟩) l[k].1.length c,.slice (some ⟨g', 0,none⟩) l[k].2.length c'])∧TmAt w' g c l[k].1∧TmAt w' g' c' l[k].2∧Same0 wr w'):=fun ww hk=>(rown_any (ac:=gc1) (bc:=gc2) (A1.same hk).at' (A2.same hk).at' hxl.1.1 hxl.2.1 hxl.1.2 hxl.2.2).mono (fun e w' ⟨g,c,g', c', q1,q2,q3,_,_,q4⟩=>⟨g,c,g', c', q1,q2,q3,hk.trans' q4⟩)
   have W1:Same0 wr wr.drew:=Kept.drew (Kept.refl _ _)
   have CC0:=CELLS.out wr (Kept.refl _ _)
   have HRW:Hid (∀ ww,Same0 wr ww→ww.ownsRow 0 98 2 lk (R.length+k) vk):=fun ww hk=>by rw [← hn];exact (hM.out.same hk).row
   have h48:(R.length+k+1) * 48≤140737488355328:=by omega
   have FIN:Hid (∀ w2 g c g' c' gg cap w9,Same0 wr w2→TmAt w2 g c l[k].1→TmAt w2 g' c' l[k].2→w9.ownsRow 0 98 2 (.slice (some ⟨gg,0,none⟩) (R.length+k+1) cap) (R.length+k+1) (vk ++ [.slice (some ⟨g,0,none⟩) l[k].1.length c,.slice (some ⟨g', 0,none⟩) l[k].2.length c'])→Kept (fun q=>lk.ownBlock=some q) w2 w9→(lk.ownBlock=some gg∨w2.heap.size≤gg)→(w9.cell? ⟨m,1,none⟩=some lk∧w9.frozen? ⟨m,1,none⟩=false)∧Hid (∃ (k' : Nat) (lk' : Value) (vk' : List Value),k' ≤ l.length∧Value.int .i64 ((k:Int)+1)=.int .i64 (k' : Int)∧lk' = .slice (some ⟨gg,0,none⟩) (R.length+k+1) cap∧Hid (MO (w9.setCell ⟨m,1,none⟩ (.slice (some ⟨gg,0,none⟩) (R.length+k+1) cap)) m ro rc L (R++l.take k') lk' vk')∧Hid (∀ q,lk'.ownBlock=some q→lv.ownBlock=some q∨w.heap.size≤q)∧Kept (fun q=>q=m∨lv.ownBlock=some q) w (w9.setCell ⟨m,1,none⟩ (.slice (some ⟨gg,0,none⟩) (R.length+k+1) cap)))):=by
    intro w2 g c g' c' gg cap w9 s2 t1 t2 r9 k9 hat
    have:=hM.out.more (gg:=gg) (cap:=cap) s2 t1 t2 hxk (by omega) (by rw [hn];exact r9) k9
    rw [hn] at this
    refine ⟨this.1,k+1,_,vk ++ [.slice (some ⟨g,0,none⟩) l[k].1.length c,.slice (some ⟨g', 0,none⟩) l[k].2.length c'],hlt,rfl,rfl,?_,?_,?_⟩
    ·show MO _ m ro rc L (R++l.take (k+1)) _ _
     rw [List.take_add_one,List.getElem?_eq_getElem hlt,← List.append_assoc];exact this.2
    ·intro q e
     simp only [Value.ownBlock,Option.some.injEq] at e
     subst e
     rcases hat with e | e
     ·exact hB.out _ e
     ·have:=hw.size;have:=s2.size;exact .inr (by omega)
    ·have sub:∀ q,q<w.heap.size→lk.ownBlock=some q→q=m∨lv.ownBlock=some q:=fun q hq e=>(hB.out q e).elim .inr (fun e=>absurd hq (by omega))
     exact Kept.setCell (p:=⟨m,1,none⟩) ((hw.trans (Kept.mono s2 (fun _ _ f=>f.elim)) (fun _ _ e=>e)).trans k9 (fun q hq e=>sub q hq e)) (fun _=>.inl rfl) _
   have hz0:0≤wr.heap.size:=Nat.zero_le _
   clear hM hB hw hn A1 A2 r0 r1 hxk hxl hlk
   go_wp2_with fail
   obtain ⟨x1,x2,x3⟩:=CC0
   go_region_law (first
    | (refine step_callx rfl (CO.out _ W1) (by simp [go_sem]) ?_;rintro e w2 ⟨g,c,g', c', rfl,t1,t2,hk2⟩;refine ⟨_,rfl,?_⟩;obtain ⟨cc1,cc2,cc3⟩:=CELLS.out _ hk2;obtain ⟨cd1,_,_⟩:=CELLS.out _ (hk2.alloc (.cells #[.slice (some ⟨g,0,none⟩) l[k].1.length c,.slice (some ⟨g', 0,none⟩) l[k].2.length c'] 98)))
    | (refine step_rule8 (w0:=w2) (by rfl) _ _ (by rfl) 0 (R.length+k) vk lk (by rfl) (by first | exact (Kept.refl _ w2).alloc _ | exact (Kept.refl _ w2).drew.alloc _ | exact ((Kept.refl _ w2).alloc _).drew) (HRW.out _ hk2) (.slice (some ⟨g,0,none⟩) l[k].1.length c) (.slice (some ⟨g', 0,none⟩) l[k].2.length c') w2.heap.size (by rfl) (heap_alloc_new w2 _) (by rfl) (by rfl) (Nat.zero_le _) h48 ?_;intro gg cap w9 r9 k9 hat;obtain ⟨⟨y1,y2⟩,FF⟩:=FIN.out w2 g c g' c' gg cap w9 hk2 t1 t2 r9 k9 hat))
   all_goals
    go_wp2_with fail
    obtain ⟨k', lk', vk', z1,z2,rfl,z3,z4,z5⟩:=FF.out
    exact ⟨⟨k', _,vk', z1,z2,z3,z4,z5⟩,by simp [intOf];omega⟩
  ·obtain rfl:k=l.length:=by omega
   have HM:Hid (MO wr m ro rc L (R++l) lk vk):=by have:=hM.out;rw [List.take_length] at this;exact this
   clear hM
   go_wp2
   go_ret
   exact ⟨lk,vk,rfl,HM.out,hB.out,hw⟩
set_option maxHeartbeats 4000000 in
theorem radd7_no {w:World} {m:Nat} {ro:Option Addr} {rc:Nat} {L:List Sym} {R:List Ru} {lv:Value} {vs:List Value} (h:MO w m ro rc L R lv vs) {lo:Option Addr} {lc:Nat} {l:List Ru} (hl:RsAt w lo l) (hll:l.length≤140737488355328) (hln:lo=none→lc=0) {ws:List (Int × Int)} (ha:Ans L R l ws) (hne:ws≠[]) :
  Calls Tryz.prog 49 #[.pointer (some ⟨m,0,none⟩),.slice lo l.length lc] w fun e w' => ∃ v,e=.returned v∧WrsAt w' v ws∧Same0 w w' := by
 obtain ⟨mo,mc,hlv,hm⟩:=h.read
 have CK:=rchk_any hm (lc:=lc) hl hll hln
 have hp:(0:Int)<(ws.length:Int):=by have:=List.length_pos_iff.2 hne;omega
 have HW:Hid (∀ w1 v,WrsAt w1 v ws→∃ wo wc,v=.slice wo ws.length wc∧Hid (WrsAt w1 v ws)):=fun w1 v hv=>by
  obtain ⟨wo,wc,e,_⟩:=id hv
  exact ⟨wo,wc,e,hv⟩
 clear hlv hm hl h
 go_enter Tryz.func49,Tryz.ntmps49
 go_wp2_with (first | (go_at_call 90;refine CK.mono ?_;rintro e w1 ⟨ws', v,rfl,hws,hwa,hk1⟩;obtain rfl:ws' = ws:=hws.uniq ha;obtain ⟨wo,wc', rfl,hwh⟩:=HW.out _ _ hwa;clear hwa))
 go_ret
 exact ⟨_,rfl,hwh.out,hk1⟩
end Go.Proofs.YtdhiiicppcgkbaaGreat
namespace Go.Proofs.YtdhiiicppcgkbaaGreat
set_option maxRecDepth 100000
set_option linter.unusedVariables false
open Go.RowKit Go.Deep
attribute [local go_sem ↓] Go.wp_at_zero Go.wp_at_succ
section
variable {H : Type} {enc : TypeId × Value → H} {w : World} {spare : Nat → Bool} {held : Bool}
end
end Go.Proofs.YtdhiiicppcgkbaaGreat
