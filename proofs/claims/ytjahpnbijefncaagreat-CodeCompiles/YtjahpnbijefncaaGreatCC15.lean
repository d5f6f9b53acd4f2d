import Derived.Test.YtjahpnbijefncaaGreatCC14
namespace Go.Proofs.YtjahpnbijefncaaGreat
set_option maxRecDepth 100000
set_option linter.unusedVariables false
set_option maxHeartbeats 32000000
section
open Go.RowKit
attribute [local go_sem ↓] Go.wp_at_zero Go.wp_at_succ
theorem Zrh {L:List Sym} {ok:Bool} {T:List Int} {I:List I3} {E:List Int} {node:Int} {a:Nat} {p:List Int} {R:R5} (h:Jo L ok T I E node a p=.inl R):R=Zrv∨∃ nd,R=(3,0,p,nd,0):=by
 unfold Jo at h;split at h
 ·split at h
  ·cases h;exact .inl rfl
  ·cases h
 ·split at h
  ·cases h;exact .inr ⟨_,rfl⟩
  ·cases h
def LKR (w w' : World) (res:R5 ⊕ Int) (k r:Int) (zo:Option Addr) (zl zc:Nat) (nd z err:Int):Prop:=
 match res with
 | .inl R=>k=R.1∧r=R.2.1∧zl=R.2.2.1.length∧nd=R.2.2.2.1∧z=0∧err=R.2.2.2.2∧Row w.heap.size w' (.slice zo zl zc) R.2.2.1
 | .inr x=>k=0∧r=0∧zo=none∧zl=0∧zc=0∧nd=0∧z=x∧err=0
theorem LKR.up {w ww w' w'' : World} {res:R5 ⊕ Int} {k r:Int} {zo:Option Addr} {zl zc:Nat} {nd z err:Int} (h:LKR ww w' res k r zo zl zc nd z err) (_:Za ww w') (hk:Za w' w'') (hw:w.heap.size<=ww.heap.size):LKR w w'' res k r zo zl zc nd z err:=by
 cases res with
 | inl R=>
  obtain ⟨a,b,c,d,e,f,g⟩:=h;exact ⟨a,b,c,d,e,f,Yi (hk.row g (λ _ _ f=>f)) hw⟩
 | inr x=>exact h
theorem LKR.put {w w' : World} {o:Obj} {res:R5 ⊕ Int} {k r:Int} {zo:Option Addr} {zl zc:Nat} {nd z err:Int} (h:LKR (w.drew.alloc o) w' res k r zo zl zc nd z err) (x0 x1 x2 x3:Value):LKR w ((((w'.setCell ⟨w.heap.size,0,none⟩ x0).setCell ⟨w.heap.size,1,none⟩ x1).setCell ⟨w.heap.size,2,none⟩ x2).setCell ⟨w.heap.size,3,none⟩ x3) res k r zo zl zc nd z err:=by
 cases res with
 | inl R=>
  obtain ⟨a,b,c,d,e,f,g⟩:=h;have k1:=Zt w' w.heap.size 0 x0;have k2:=Zc.trans k1 (Zt _ w.heap.size 1 x1) (λ _ _ e=>e);have k3:=Zc.trans k2 (Zt _ w.heap.size 2 x2) (λ _ _ e=>e);have k4:=Zc.trans k3 (Zt _ w.heap.size 3 x3) (λ _ _ e=>e);have hz:(w.drew.alloc o).heap.size=w.heap.size+1:=by simp
  refine ⟨a,b,c,d,e,f,Yi (k4.row g (λ q e1 e2=>?_)) (by omega)⟩
  rcases g.2 with ⟨e3,_⟩ | ⟨g', _,_,e3,e4,_⟩
  ·rw [e3] at e1;simp [Value.ownBlock] at e1
  ·rw [e3] at e1;simp only [Value.ownBlock,Option.some.injEq] at e1;omega
 | inr x=>exact h
theorem Zgl {base:Nat} {w:World} {v:Value} {xs:List Int} (h:Row base w v xs) {q:Nat} (e:v.ownBlock=some q):base<=q:=by
 rcases h.2 with ⟨q3,_⟩ | ⟨g', _,_,q3,q4,_⟩
 ·rw [q3] at e;simp [Value.ownBlock] at e
 ·rw [q3] at e;simp only [Value.ownBlock,Option.some.injEq] at e;omega
theorem Zso {L:List Sym} {ok:Bool} {T:List Int} {I:List I3} {P:List (List Int)} {E:List Int} {node:Int} {f a:Nat} (h:I.length<=a):Ze0 L ok T I P E node f a=Zrv:=by
 cases f with
 | zero=>rfl
 | succ f=>rw [Ze0,List.getElem?_eq_none h]
theorem Zwr {L:List Sym} {ok:Bool} {T:List Int} {I:List I3} {P:List (List Int)} {E:List Int} {node:Int} {f a:Nat} (h:a<I.length):Ze0 L ok T I P E node (f+1) a=if I[a].1=4 then (1,I[a].2.1,[],0,0) else if I[a].1=3 then (2,0,[],0,0) else if I[a].1=1∧Jh I[a].2.1 P.length=true then (match Jo L ok T I E node a (P.getD I[a].2.1.toNat []) with | .inl r=>r | .inr z=>Ze0 L ok T I P E node f z.toNat) else Zrv:=by
 rw [Ze0,List.getElem?_eq_getElem h] <;> rfl
theorem Zsu {base:Nat} {w:World} {L:List Sym} {ok:Bool} {T:List Int} {ho:Option Addr} {hn hc:Nat} {go:Option Addr} {gn gc:Nat} (hv:Zhj base w L ok T (.agg #[.slice ho hn hc,.slice go gn gc])) {io:Option Addr} {I:List I3} (hI:Zaf w io I) (hl:I.length<=140737488355328) {po:Option Addr} {P:List (List Int)} (hP:Zaq w po P) {eo:Option Addr} {E:List Int} (hE:Zh w eo E) (ic pc ec:Nat) (ro:Option Addr) (rl rc:Nat) (node:Int) (a0:Nat) :
  Calls Tryz.prog 92 #[.agg #[.slice io I.length ic,.slice po P.length pc,.slice eo E.length ec,.slice ro rl rc,.iface 121 (.agg #[.slice ho hn hc,.slice go gn gc]),.int .i64 node],.int .i64 (a0:Int)] w (Ze5 w (Ze0 L ok T I P E node (I.length+1) a0)):=by
 obtain ⟨R,hR⟩:∃ R,R=Ze0 L ok T I P E node (I.length+1) a0:=⟨_,rfl⟩;have HR:Hid (R=Ze0 L ok T I P E node (I.length+1) a0):=hR;rw [<- hR];clear hR;obtain ⟨W1,hW1⟩:∃ W1,W1=(w.alloc (.cells #[.slice io I.length ic,.slice po P.length pc,.slice eo E.length ec,.slice ro rl rc,.iface 121 (.agg #[.slice ho hn hc,.slice go gn gc]),.int .i64 node] 180)).alloc (.cells #[.int .i64 0,.int .i64 0,.slice none 0 0,.int .i64 0] 85):=⟨_,rfl⟩;have KW:Za w W1:=by rw [hW1];exact ((Zc.refl _ w).alloc _).alloc _
 have hbx:W1.heap[w.heap.size]? = some (.cells #[.slice io I.length ic,.slice po P.length pc,.slice eo E.length ec,.slice ro rl rc,.iface 121 (.agg #[.slice ho hn hc,.slice go gn gc]),.int .i64 node] 180 (0,0)):=by rw [hW1];exact heap_alloc2_old _ _ _
 have hfd:W1.heap[w.heap.size+1]? = some (.cells #[.int .i64 0,.int .i64 0,.slice none 0 0,.int .i64 0] 85 (0,0)):=by rw [hW1];exact Zp _ _ _
 have zW:w.heap.size+1<W1.heap.size:=Zi hfd
 have BX:Hid (∀ ww,Za W1 ww->ww.cell? ⟨w.heap.size,0,none⟩=some (.slice io I.length ic)∧ww.cell? ⟨w.heap.size,1,none⟩=some (.slice po P.length pc)∧ww.cell? ⟨w.heap.size,2,none⟩=some (.slice eo E.length ec)∧ww.cell? ⟨w.heap.size,3,none⟩=some (.slice ro rl rc)∧ww.cell? ⟨w.heap.size,4,none⟩=some (.iface 121 (.agg #[.slice ho hn hc,.slice go gn gc]))∧ww.cell? ⟨w.heap.size,5,none⟩=some (.int .i64 node)):=λ ww hk=>by
  have:=hk.at0 hbx;exact ⟨Zb this 0,Zb this 1,Zb this 2,Zb this 3,Zb this 4,Zb this 5⟩
 have RC:Hid (∀ ww,Za W1 ww->(ww.cell? ⟨w.heap.size+1,0,none⟩=some (.int .i64 0)∧ww.cell? ⟨w.heap.size+1,1,none⟩=some (.int .i64 0)∧ww.cell? ⟨w.heap.size+1,2,none⟩=some (.slice none 0 0)∧ww.cell? ⟨w.heap.size+1,3,none⟩=some (.int .i64 0))∧ww.frozen? ⟨w.heap.size+1,0,none⟩=false∧ww.frozen? ⟨w.heap.size+1,1,none⟩=false∧ww.frozen? ⟨w.heap.size+1,2,none⟩=false∧ww.frozen? ⟨w.heap.size+1,3,none⟩=false):=λ ww hk=>by
  have:=hk.at0 hfd;exact ⟨⟨Zb this 0,Zb this 1,Zb this 2,Zb this 3⟩,Zd this 0,Zd this 1,Zd this 2,Zd this 3⟩
 have PUT:Hid (∀ ww x0 x1 x2 x3,Za W1 ww->(((((ww.setCell ⟨w.heap.size+1,0,none⟩ x0).setCell ⟨w.heap.size+1,1,none⟩ x1).setCell ⟨w.heap.size+1,2,none⟩ x2).setCell ⟨w.heap.size+1,3,none⟩ x3).cell? ⟨w.heap.size+1,0,none⟩=some x0∧((((ww.setCell ⟨w.heap.size+1,0,none⟩ x0).setCell ⟨w.heap.size+1,1,none⟩ x1).setCell ⟨w.heap.size+1,2,none⟩ x2).setCell ⟨w.heap.size+1,3,none⟩ x3).cell? ⟨w.heap.size+1,1,none⟩=some x1∧((((ww.setCell ⟨w.heap.size+1,0,none⟩ x0).setCell ⟨w.heap.size+1,1,none⟩ x1).setCell ⟨w.heap.size+1,2,none⟩ x2).setCell ⟨w.heap.size+1,3,none⟩ x3).cell? ⟨w.heap.size+1,2,none⟩=some x2∧((((ww.setCell ⟨w.heap.size+1,0,none⟩ x0).setCell ⟨w.heap.size+1,1,none⟩ x1).setCell ⟨w.heap.size+1,2,none⟩ x2).setCell ⟨w.heap.size+1,3,none⟩ x3).cell? ⟨w.heap.size+1,3,none⟩=some x3)∧Zc (λ q=>q=w.heap.size+1) ww ((((ww.setCell ⟨w.heap.size+1,0,none⟩ x0).setCell ⟨w.heap.size+1,1,none⟩ x1).setCell ⟨w.heap.size+1,2,none⟩ x2).setCell ⟨w.heap.size+1,3,none⟩ x3)∧Za w ((((ww.setCell ⟨w.heap.size+1,0,none⟩ x0).setCell ⟨w.heap.size+1,1,none⟩ x1).setCell ⟨w.heap.size+1,2,none⟩ x2).setCell ⟨w.heap.size+1,3,none⟩ x3)):=by
  intro ww x0 x1 x2 x3 hk;have rs:=hk.at0 hfd;have s3:=Zs (Zs (Zs (Zs rs 0 x0) 1 x1) 2 x2) 3 x3;have k1:=Zt ww (w.heap.size+1) 0 x0;have k2:=Zc.trans k1 (Zt _ (w.heap.size+1) 1 x1) (λ _ _ e=>e);have k3:=Zc.trans k2 (Zt _ (w.heap.size+1) 2 x2) (λ _ _ e=>e);have k4:=Zc.trans k3 (Zt _ (w.heap.size+1) 3 x3) (λ _ _ e=>e);exact ⟨⟨Zb s3 0,Zb s3 1,Zb s3 2,Zb s3 3⟩,k4,Zc.trans (KW.trans' hk) k4 (λ i hi e=>by omega)⟩
 have CLK:Hid (∀ ww a qo qc (p:List Int),Za w ww->a<I.length->Arg ww qo p qc->Calls Tryz.prog 131 #[.agg #[.slice io I.length ic,.slice po P.length pc,.slice eo E.length ec,.slice ro rl rc,.iface 121 (.agg #[.slice ho hn hc,.slice go gn gc]),.int .i64 node],.int .i64 (a:Int),.slice qo p.length qc] ww (Zj9 ww (Jo L ok T I E node a p))):=λ ww a qo qc p hk ha hp=>Ztm (hv.same hk) (hI.same hk) hl (hE.same hk) hp _ _ _ _ _ _ _ _ node a ha
 have HI:Hid (∀ ww j (hj:j<I.length),Za w ww->∃ b off,io=some ⟨b,off,none⟩∧ww.cell? ⟨b,off+j * 3,none⟩=some (.int .i64 I[j].1)∧ww.cell? ⟨b,off+j * 3+1,none⟩=some (.int .i64 I[j].2.1)∧ww.cell? ⟨b,off+j * 3+2,none⟩=some (.int .i64 I[j].2.2)):=λ ww j hj hk=>by
  obtain ⟨b,off,e,_,h0,h1,h2⟩:=(hI.same hk).get hj;exact ⟨b,off,e,h0,h1,h2⟩
 have HPT:Hid (∀ ww j (hj:j<P.length),Za w ww->∃ b off ao ac,po=some ⟨b,off,none⟩∧ww.cell? ⟨b,off+j,none⟩=some (.slice ao P[j].length ac)∧Arg ww ao P[j] ac):=λ ww j hj hk=>by
  obtain ⟨b,off,ao,ac,e,_,h0,h1⟩:=(hP.same hk).get hj;exact ⟨b,off,ao,ac,e,h0,h1⟩
 have RET:Hid (∀ ww k r err,Za w ww->R=(k,r,[],0,err)->Ze5 w R (.returned (.tuple #[.agg #[.int .i64 k,.int .i64 r,.slice none 0 0,.int .i64 0],.int .i64 err])) ww):=λ ww k r err hk e=>by
  rw [e];exact ⟨none,0,rfl,World.ownsRow_nil _ _ _ _,hk⟩
 obtain ⟨x0,x1,x2,x3,x4,x5⟩:=BX.out W1 (Zc.refl _ _);clear hv hI hP hE hbx hfd
 go_enter Tryz.func92,Tryz.ntmps92
 go_upto_region 1 with fail
 rw [<- hW1];clear hW1
 go_loopw [1] (λ s1 wr=>∃ a f:Nat,s1=.int .i64 (a:Int)∧Hid (I.length<a+(f+1)∧R=Ze0 L ok T I P E node (f+1) a)∧Za W1 wr) (λ s1 _=>I.length-(intOf s1).toNat)
 case atStart=>exact ⟨a0,I.length,rfl,⟨by omega,HR.out⟩,Zc.refl _ _⟩
 case round=>
  clear x0 x1 x2 x3 x4 x5 HR;obtain ⟨a,f,rfl,hF,hK⟩:=hrel;obtain ⟨x0,x1,x2,x3,x4,x5⟩:=BX.out wr hK;obtain ⟨⟨r0,r1,r2,r3⟩,f0,f1,f2,f3⟩:=RC.out wr hK
  by_cases hlt:a<I.length
  ·obtain ⟨b,off,rfl,c0,c1,c2⟩:=HI.out wr a hlt (KW.trans' hK)
   have i1:(0:Int)<=(a:Int):=by omega
   have i2:(a:Int)<(I.length:Int):=by omega
   obtain ⟨hf1,hf2⟩:=hF.out;rw [Zwr hlt] at hf2;obtain ⟨wi,hwi⟩:∃ wi,wi=wr.alloc (.cells #[.int .i64 I[a].1,.int .i64 I[a].2.1,.int .i64 I[a].2.2] 117):=⟨_,rfl⟩;have ki:Za wr wi:=by rw [hwi];exact (Zc.refl _ _).alloc _
   have bi:wi.heap[wr.heap.size]? = some (.cells #[.int .i64 I[a].1,.int .i64 I[a].2.1,.int .i64 I[a].2.2] 117 (0,0)):=by rw [hwi];exact heap_alloc_new _ _
   have y0:=Zb bi 0;have y1:=Zb bi 1;have y2:=Zb bi 2;simp only [List.getElem?_toArray,List.getElem?_cons_zero,List.getElem?_cons_succ] at y0 y1 y2;have hKi:=hK.trans' ki;obtain ⟨v0,v1,v2,v3,v4,v5⟩:=BX.out wi hKi;obtain ⟨⟨s0,s1,s2,s3⟩,g0,g1,g2,g3⟩:=RC.out wi hKi
   by_cases h4:I[a].1=4
   ·rw [if_pos h4] at hf2
    rw [h4] at c0 y0 hwi;have PH:Hid _:=PUT.out wi (.int .i64 1) (.int .i64 I[a].2.1) (.slice none 0 0) (.int .i64 0) hKi;have FR:Hid (R=(1,I[a].2.1,[],0,0)):=hf2;generalize I[a].2.1=z at *;clear hf1 hf2 hF HI HPT CLK h4
    go_upto_region 3 with fail
    rw [<- hwi];clear hwi
    go_wp2_with fail
    obtain ⟨⟨q0,q1,q2,q3⟩,kk,ks⟩:=PH.out;exact bodyPost_ret (v:=.tuple #[.agg #[.int .i64 1,.int .i64 z,.slice none 0 0,.int .i64 0],.int .i64 0]) (by simp [results,Tryz.results92,go_sem,q0,q1,q2,q3]) rfl (RET.out _ _ _ _ ks FR.out)
   ·rw [if_neg h4] at hf2
    by_cases h3:I[a].1=3
    ·rw [if_pos h3] at hf2
     rw [h3] at c0 y0 hwi;have PH:Hid _:=PUT.out wi (.int .i64 2) (.int .i64 0) (.slice none 0 0) (.int .i64 0) hKi;have FR:Hid (R=(2,0,[],0,0)):=hf2;clear hf1 hf2 hF HI HPT CLK h4 h3
     go_upto_region 3 with fail
     rw [<- hwi];clear hwi
     go_wp2_with fail
     obtain ⟨⟨q0,q1,q2,q3⟩,kk,ks⟩:=PH.out;exact bodyPost_ret (v:=.tuple #[.agg #[.int .i64 2,.int .i64 0,.slice none 0 0,.int .i64 0],.int .i64 0]) (by simp [results,Tryz.results92,go_sem,q0,q1,q2,q3]) rfl (RET.out _ _ _ _ ks FR.out)
    ·rw [if_neg h3] at hf2
     have PH:Hid _:=PUT.out wi (.int .i64 0) (.int .i64 0) (.slice none 0 0) (.int .i64 0) hKi
     by_cases h1:I[a].1=1
     ·have CI:=Xj I[a].2.1 P.length wi
      cases hix:Jh I[a].2.1 P.length with
      | false=>
       rw [hix] at CI;rw [if_neg (by rw [hix];simp)] at hf2;rw [h1] at c0 y0 hwi;have FR:Hid (R=(0,0,[],0,92)):=hf2;clear hf1 hf2 hF HI HPT CLK h4 h3 h1 hix;generalize I[a].2.1=z at *
       go_upto_region 3 with fail
       rw [<- hwi];clear hwi
       go_wp2_with (first | (go_at_call 56;refine CI.mono ?_;rintro e w2 ⟨rfl,rfl⟩))
       obtain ⟨⟨q0,q1,q2,q3⟩,kk,ks⟩:=PH.out;exact bodyPost_ret (v:=.tuple #[.agg #[.int .i64 0,.int .i64 0,.slice none 0 0,.int .i64 0],.int .i64 92]) (by simp [results,Tryz.results92,go_sem,q0,q1,q2,q3]) rfl (RET.out _ _ _ _ ks FR.out)
      | true=>
       rw [hix] at CI;rw [if_pos ⟨h1,hix⟩] at hf2;obtain ⟨q,hq,hql⟩:=Za1 hix;have eg:P.getD I[a].2.1.toNat []=P[q]:=by rw [hq,Int.toNat_natCast];simp [hql]
       rw [eg] at hf2;rw [h1] at c0 y0 hwi;rw [hq] at c1 y1 hwi CI;obtain ⟨pb,poff,qo,qc,rfl,p0,hA⟩:=HPT.out wi q hql (KW.trans' hKi)
       have HS:Hid (∀ ww,Za wi ww->ww.cell? ⟨w.heap.size,0,none⟩=some (.slice (some ⟨b,off,none⟩) I.length ic)∧ww.cell? ⟨w.heap.size,1,none⟩=some (.slice (some ⟨pb,poff,none⟩) P.length pc)∧ww.cell? ⟨w.heap.size,2,none⟩=some (.slice eo E.length ec)∧ww.cell? ⟨w.heap.size,3,none⟩=some (.slice ro rl rc)∧ww.cell? ⟨w.heap.size,4,none⟩=some (.iface 121 (.agg #[.slice ho hn hc,.slice go gn gc]))∧ww.cell? ⟨w.heap.size,5,none⟩=some (.int .i64 node)∧ww.cell? ⟨wr.heap.size,1,none⟩=some (.int .i64 (q:Int))∧ww.cell? ⟨pb,poff+q,none⟩=some (.slice qo P[q].length qc)):=λ ww hk=>by
        obtain ⟨t0,t1,t2,t3,t4,t5⟩:=BX.out ww (hKi.trans' hk);exact ⟨t0,t1,t2,t3,t4,t5,(hk.cell (p:=⟨wr.heap.size,1,none⟩) (Zi bi) (λ f=>f)).trans y1,(hk.cell (p:=⟨pb,poff+q,none⟩) (World.block_lt_of_cell? _ _ p0) (λ f=>f)).trans p0⟩
       have CL:Hid (∀ ww,Za wi ww->Calls Tryz.prog 131 #[.agg #[.slice (some ⟨b,off,none⟩) I.length ic,.slice (some ⟨pb,poff,none⟩) P.length pc,.slice eo E.length ec,.slice ro rl rc,.iface 121 (.agg #[.slice ho hn hc,.slice go gn gc]),.int .i64 node],.int .i64 (a:Int),.slice qo P[q].length qc] ww (Zj9 ww (Jo L ok T I E node a P[q]))):=λ ww hk=>CLK.out ww a qo qc P[q] ((KW.trans' hKi).trans' hk) hlt (hA.same hk);have q1:(0:Int)<=(q:Int):=by omega
       have q2:(q:Int)<(P.length:Int):=by omega
       have W0:=HS.out wi (Zc.refl _ _);have kd:Za wi wi.drew:=Zc.drew (Zc.refl _ _);have HL:Hid (Jo L ok T I E node a P[q]=Jo L ok T I E node a P[q]):=rfl;have HGT:Hid (∀ z,Jo L ok T I E node a P[q]=.inr z->(a:Int)<z):=λ z e=>Zk8 hlt e
       have CL2:Hid (∀ ww,Za wi ww->Calls Tryz.prog 131 #[.agg #[.slice (some ⟨b,off,none⟩) I.length ic,.slice (some ⟨pb,poff,none⟩) P.length pc,.slice eo E.length ec,.slice ro rl rc,.iface 121 (.agg #[.slice ho hn hc,.slice go gn gc]),.int .i64 node],.int .i64 (a:Int),.slice qo P[q].length qc] ww λ e w' => ∃ k r zo zl zc nd z err,e=.returned (.tuple #[.agg #[.int .i64 k,.int .i64 r,.slice zo zl zc,.int .i64 nd],.int .i64 z,.int .i64 err])∧Hid (LKR ww w' (Jo L ok T I E node a P[q]) k r zo zl zc nd z err)∧Za ww w'):=λ ww hk=>by
        refine (CL.out ww hk).mono ?_;intro e w' h;cases hlk:Jo L ok T I E node a P[q] with
        | inl r=>
         rw [hlk] at h;obtain ⟨zo,zc,rfl,g1,g2⟩:=h;exact ⟨_,_,_,_,_,_,_,_,rfl,⟨rfl,rfl,rfl,rfl,rfl,rfl,g1⟩,g2⟩
        | inr z=>
         rw [hlk] at h;obtain ⟨rfl,g2⟩:=h;exact ⟨_,_,_,_,_,_,_,_,rfl,⟨rfl,rfl,rfl,rfl,rfl,rfl,rfl,rfl⟩,g2⟩
       have HIN:Hid (∀ r,Jo L ok T I E node a P[q]=.inl r->r=Zrv∨∃ nd,r=(3,0,P[q],nd,0)):=λ r e=>Zrh e;have NX:Hid (I.length<a+(f+1)∧R=match Jo L ok T I E node a P[q] with | .inl r=>r | .inr z=>Ze0 L ok T I P E node f z.toNat):=⟨hf1,hf2⟩;generalize Jo L ok T I E node a P[q]=res at *;clear hf1 hf2 hF HI HPT CLK CL h4 h3 h1 hix eg hA HL;generalize P[q]=pth at *;generalize I[a].2.2=ib2 at *
       go_upto_region 3 with fail
       rw [<- hwi];clear hwi
       go_upto_region 10 with (first | (go_at_call 56;refine CI.mono ?_;rintro e wj ⟨rfl,rfl⟩))
       go_cut [7,8,9] from 41 to 54 (λ s7 s8 s9 wc=>∃ g k r zo zl zc nd z err,s7=.pointer (some ⟨g,0,none⟩)∧s8=.int .i64 z∧s9=.int .i64 err∧wc.heap[g]? = some (.cells #[.int .i64 k,.int .i64 r,.slice zo zl zc,.int .i64 nd] 85 (0,0))∧LKR wj wc res k r zo zl zc nd z err∧Za wj wc)
       case first=>
        go_region_held3 (λ w' => w'.cell? ⟨w.heap.size,0,none⟩=some (.slice (some ⟨b,off,none⟩) I.length ic)∧w'.cell? ⟨w.heap.size,1,none⟩=some (.slice (some ⟨pb,poff,none⟩) P.length pc)∧w'.cell? ⟨w.heap.size,2,none⟩=some (.slice eo E.length ec)∧w'.cell? ⟨w.heap.size,3,none⟩=some (.slice ro rl rc)∧w'.cell? ⟨w.heap.size,4,none⟩=some (.iface 121 (.agg #[.slice ho hn hc,.slice go gn gc]))∧w'.cell? ⟨w.heap.size,5,none⟩=some (.int .i64 node)∧w'.cell? ⟨wr.heap.size,1,none⟩=some (.int .i64 (q:Int))∧w'.cell? ⟨pb,poff+q,none⟩=some (.slice qo pth.length qc)) (first | exact W0 | exact cc1 | exact HS.out _ (by first | assumption | exact Zc.alloc (by assumption) _ | exact Za.own (Za.own (Za.own (Za.own (by assumption) (Nat.le_refl _) _) (Nat.le_refl _) _) (Nat.le_refl _) _) (Nat.le_refl _) _)) (first
         | (go_at_call 131;refine (CL2.out _ (by first | exact kd | exact Zc.alloc kd _)).mono ?_;rintro e w4 ⟨k,r,zo,zl,zc,nd,z,err,rfl,hLK,k4⟩;have hk1:Za wj w4:=(by first | exact kd.trans' k4 | exact Za.trans' (Zc.alloc kd _) k4);have cc1:=HS.out _ hk1;try (have zb:w4.heap[wj.heap.size]? = some (.cells #[.int .i64 0,.int .i64 0,.slice none 0 0,.int .i64 0] 85 (0,0)):=k4.at0 (heap_alloc_new wj.drew _);have zc0:w4.cell? ⟨wj.heap.size,0,none⟩=some (.int .i64 0):=Zb zb 0;have zc1:w4.cell? ⟨wj.heap.size,1,none⟩=some (.int .i64 0):=Zb zb 1;have zc2:w4.cell? ⟨wj.heap.size,2,none⟩=some (.slice none 0 0):=Zb zb 2;have zc3:w4.cell? ⟨wj.heap.size,3,none⟩=some (.int .i64 0):=Zb zb 3;have zf0:=Zd zb 0;have zf1:=Zd zb 1;have zf2:=Zd zb 2;have zf3:=Zd zb 3)))
        all_goals
         go_wp2_with fail
         go_meet
         case rel=>
          first
           | exact ⟨_,k,r,zo,zl,zc,nd,z,err,rfl,rfl,rfl,heap_alloc_new w4 _,LKR.up hLK.out k4 (Zc.alloc (Zc.refl _ _) _) (Nat.le_refl _),Zc.alloc hk1 _⟩
           | exact ⟨_,k,r,zo,zl,zc,nd,z,err,rfl,rfl,rfl,Zs (Zs (Zs (Zs zb 0 _) 1 _) 2 _) 3 _,LKR.put hLK.out _ _ _ _,Za.own (Za.own (Za.own (Za.own hk1 (Nat.le_refl _) _) (Nat.le_refl _) _) (Nat.le_refl _) _) (Nat.le_refl _) _⟩
       case rest=>
        obtain ⟨g,k,r,zo,zl,zc,nd,z,err,rfl,rfl,rfl,hg,hLK,kc⟩:=hcut;clear CL2 HS W0 v0 v1 v2 v3 v4 v5 x0 x1 x2 x3 x4 x5 CI y0 y1 y2 c0 c1 c2 s0 s1 s2 s3 g0 g1 g2 g3 r0 r1 r2 r3 f0 f1 f2 f3 PH p0 bi;have kWc:=hKi.trans' kc;have hjz:=hKi.size;obtain ⟨⟨r0,r1,r2,r3⟩,f0,f1,f2,f3⟩:=RC.out wc kWc;have d0:=Zb hg 0;have d1:=Zb hg 1;have d2:=Zb hg 2;have d3:=Zb hg 3;simp only [List.getElem?_toArray,List.getElem?_cons_zero,List.getElem?_cons_succ] at d0 d1 d2 d3;have PH:Hid _:=PUT.out wc (.int .i64 k) (.int .i64 r) (.slice zo zl zc) (.int .i64 nd) kWc;cases res with
        | inr x=>
         obtain ⟨rfl,rfl,rfl,rfl,rfl,rfl,rfl,rfl⟩:=hLK;have hgt:=HGT.out z rfl
         have M:Hid (I.length<z.toNat+(f+1)∧R=Ze0 L ok T I P E node (f+1) z.toNat):=by
          obtain ⟨n1,n2⟩:=NX.out;refine ⟨by omega,?_⟩;rw [<- Zh3 f (f+1) z.toNat (by omega) (by omega)];exact n2
         have hzn:z=((z.toNat:Nat):Int):=by omega
         have HM:Hid (I.length-z.toNat<I.length-a):=by show _<_;omega
         clear NX HGT HIN hgt PH hg
         go_wp2_with fail
         go_roundw
         case rel=>first | exact ⟨z.toNat,f,by rw [<- hzn],M,kWc⟩ | ((repeat apply Exists.intro);exact ⟨⟨z.toNat,f,by rw [<- hzn],M,kWc⟩,rfl⟩)
         case measure=>simp only [intOf];rw [Int.toNat_natCast];exact HM.out
        | inl R' =>
         obtain ⟨e1,e2,e3,e4,e5,e6,e7⟩:=hLK;have hR:R=R' := NX.out.2
         rcases HIN.out R' rfl with h5 | ⟨nd', h5⟩
         ·rw [h5] at e1 e2 e3 e4 e6 e7 hR
          simp only [Zrv] at e1 e2 e3 e4 e6 e7;subst e1;subst e2;subst e4;subst e5;subst e6
          have HB:Hid (Ze5 w R (.returned (.tuple #[.agg #[.int .i64 0,.int .i64 0,.slice zo zl zc,.int .i64 0],.int .i64 92])) ((((wc.setCell ⟨w.heap.size+1,0,none⟩ (.int .i64 0)).setCell ⟨w.heap.size+1,1,none⟩ (.int .i64 0)).setCell ⟨w.heap.size+1,2,none⟩ (.slice zo zl zc)).setCell ⟨w.heap.size+1,3,none⟩ (.int .i64 0))):=by
           obtain ⟨_,kk,ks⟩:=PH.out;rw [hR];subst e3;refine ⟨zo,zc,rfl,Yi (kk.row e7 (λ q q1 q2=>?_)) (by omega),ks⟩;have:=Zgl e7 q1;omega
          clear NX HGT HIN hg e3 e7 hR h5
          go_wp2_with fail
          obtain ⟨⟨q0,q1,q2,q3⟩,kk,ks⟩:=PH.out;exact bodyPost_ret (v:=.tuple #[.agg #[.int .i64 0,.int .i64 0,.slice zo zl zc,.int .i64 0],.int .i64 92]) (by simp [results,Tryz.results92,go_sem,q0,q1,q2,q3]) rfl HB.out
         ·rw [h5] at e1 e2 e3 e4 e6 e7 hR
          simp only at e1 e2 e3 e4 e6 e7;subst e1;subst e2;subst e4;subst e5;subst e6
          have HB:Hid (Ze5 w R (.returned (.tuple #[.agg #[.int .i64 3,.int .i64 0,.slice zo zl zc,.int .i64 nd],.int .i64 0])) ((((wc.setCell ⟨w.heap.size+1,0,none⟩ (.int .i64 3)).setCell ⟨w.heap.size+1,1,none⟩ (.int .i64 0)).setCell ⟨w.heap.size+1,2,none⟩ (.slice zo zl zc)).setCell ⟨w.heap.size+1,3,none⟩ (.int .i64 nd))):=by
           obtain ⟨_,kk,ks⟩:=PH.out;rw [hR];subst e3;refine ⟨zo,zc,rfl,Yi (kk.row e7 (λ q q1 q2=>?_)) (by omega),ks⟩;have:=Zgl e7 q1;omega
          clear NX HGT HIN hg e3 e7 hR h5
          go_wp2_with fail
          obtain ⟨⟨q0,q1,q2,q3⟩,kk,ks⟩:=PH.out;exact bodyPost_ret (v:=.tuple #[.agg #[.int .i64 3,.int .i64 0,.slice zo zl zc,.int .i64 nd],.int .i64 0]) (by simp [results,Tryz.results92,go_sem,q0,q1,q2,q3]) rfl HB.out
     ·rw [if_neg (λ e=>h1 e.1)] at hf2
      have FR:Hid (R=(0,0,[],0,92)):=hf2;have e4:(I[a].1 == 4)=false:=by simpa using h4
      have e3:(I[a].1 == 3)=false:=by simpa using h3
      have e1:(I[a].1 == 1)=false:=by simpa using h1
      clear hf1 hf2 hF HI HPT CLK h4 h3 h1;generalize I[a].1=z at *
      go_upto_region 3 with fail
      rw [<- hwi];clear hwi
      go_wp2_with fail
      obtain ⟨⟨q0,q1,q2,q3⟩,kk,ks⟩:=PH.out;exact bodyPost_ret (v:=.tuple #[.agg #[.int .i64 0,.int .i64 0,.slice none 0 0,.int .i64 0],.int .i64 92]) (by simp [results,Tryz.results92,go_sem,q0,q1,q2,q3]) rfl (RET.out _ _ _ _ ks FR.out)
  ·have FR:Hid (R=(0,0,[],0,92)):=by
    obtain ⟨_,h2⟩:=hF.out;rw [Zso (by omega)] at h2;exact h2
   have PH:Hid _:=PUT.out wr (.int .i64 0) (.int .i64 0) (.slice none 0 0) (.int .i64 0) hK;clear hF HI HPT CLK
   go_wp2_with fail
   obtain ⟨⟨q0,q1,q2,q3⟩,kk,ks⟩:=PH.out;exact bodyPost_ret (v:=.tuple #[.agg #[.int .i64 0,.int .i64 0,.slice none 0 0,.int .i64 0],.int .i64 92]) (by simp [results,Tryz.results92,go_sem,q0,q1,q2,q3]) rfl (RET.out _ _ _ _ ks FR.out)
theorem vw_nil (v:Value) (w:World):(binOp .eql 176 (.iface 121 v) .nilIface).run Tryz.prog w=.ok (.bool false) w:=by kernel_rfl
theorem vw_ptr (v u:Value) (w:World):(binOp .eql 176 (.iface 121 v) (.iface 177 u)).run Tryz.prog w=.ok (.bool false) w:=by kernel_rfl
theorem Zvo {base:Nat} {w:World} {L:List Sym} {ok:Bool} {T:List Int} {ho:Option Addr} {hn hc:Nat} {go:Option Addr} {gn gc:Nat} (hv:Zhj base w L ok T (.agg #[.slice ho hn hc,.slice go gn gc])) {io:Option Addr} {I:List I3} (hI:Zaf w io I) (hl:I.length<=140737488355328) {po:Option Addr} {P:List (List Int)} (hP:Zaq w po P) {eo:Option Addr} {E:List Int} (hE:Zh w eo E) (ic pc ec:Nat) (ro:Option Addr) (rl rc:Nat) (n node:Int) :
  Calls Tryz.prog 47 #[.agg #[.slice io I.length ic,.slice po P.length pc,.slice eo E.length ec,.slice ro rl rc],.int .i64 n,.iface 121 (.agg #[.slice ho hn hc,.slice go gn gc]),.int .i64 node] w (Ze5 w (Zm8 L ok T I P E n node)):=by
 have en:=vw_nil (.agg #[.slice ho hn hc,.slice go gn gc]);have ep:=vw_ptr (.agg #[.slice ho hn hc,.slice go gn gc]) (.pointer none);obtain ⟨W1,hW1⟩:∃ W1,W1=(w.alloc (.cells #[.slice io I.length ic,.slice po P.length pc,.slice eo E.length ec,.slice ro rl rc] 51)).alloc (.cells #[.int .i64 0,.int .i64 0,.slice none 0 0,.int .i64 0] 85):=⟨_,rfl⟩;have KW:Za w W1:=by rw [hW1];exact ((Zc.refl _ w).alloc _).alloc _
 have hbx:W1.heap[w.heap.size]? = some (.cells #[.slice io I.length ic,.slice po P.length pc,.slice eo E.length ec,.slice ro rl rc] 51 (0,0)):=by rw [hW1];exact heap_alloc2_old _ _ _
 have hfd:W1.heap[w.heap.size+1]? = some (.cells #[.int .i64 0,.int .i64 0,.slice none 0 0,.int .i64 0] 85 (0,0)):=by rw [hW1];exact Zp _ _ _
 have zW:w.heap.size+1<W1.heap.size:=Zi hfd
 have BX:Hid (∀ ww,Za W1 ww->ww.cell? ⟨w.heap.size,0,none⟩=some (.slice io I.length ic)∧ww.cell? ⟨w.heap.size,1,none⟩=some (.slice po P.length pc)∧ww.cell? ⟨w.heap.size,2,none⟩=some (.slice eo E.length ec)∧ww.cell? ⟨w.heap.size,3,none⟩=some (.slice ro rl rc)):=λ ww hk=>by
  have:=hk.at0 hbx;exact ⟨Zb this 0,Zb this 1,Zb this 2,Zb this 3⟩
 have RC:Hid (∀ ww,Za W1 ww->(ww.cell? ⟨w.heap.size+1,0,none⟩=some (.int .i64 0)∧ww.cell? ⟨w.heap.size+1,1,none⟩=some (.int .i64 0)∧ww.cell? ⟨w.heap.size+1,2,none⟩=some (.slice none 0 0)∧ww.cell? ⟨w.heap.size+1,3,none⟩=some (.int .i64 0))∧ww.frozen? ⟨w.heap.size+1,0,none⟩=false∧ww.frozen? ⟨w.heap.size+1,1,none⟩=false∧ww.frozen? ⟨w.heap.size+1,2,none⟩=false∧ww.frozen? ⟨w.heap.size+1,3,none⟩=false):=λ ww hk=>by
  have:=hk.at0 hfd;exact ⟨⟨Zb this 0,Zb this 1,Zb this 2,Zb this 3⟩,Zd this 0,Zd this 1,Zd this 2,Zd this 3⟩
 have PUT:Hid (∀ ww x0 x1 x2 x3,Za W1 ww->(((((ww.setCell ⟨w.heap.size+1,0,none⟩ x0).setCell ⟨w.heap.size+1,1,none⟩ x1).setCell ⟨w.heap.size+1,2,none⟩ x2).setCell ⟨w.heap.size+1,3,none⟩ x3).cell? ⟨w.heap.size+1,0,none⟩=some x0∧((((ww.setCell ⟨w.heap.size+1,0,none⟩ x0).setCell ⟨w.heap.size+1,1,none⟩ x1).setCell ⟨w.heap.size+1,2,none⟩ x2).setCell ⟨w.heap.size+1,3,none⟩ x3).cell? ⟨w.heap.size+1,1,none⟩=some x1∧((((ww.setCell ⟨w.heap.size+1,0,none⟩ x0).setCell ⟨w.heap.size+1,1,none⟩ x1).setCell ⟨w.heap.size+1,2,none⟩ x2).setCell ⟨w.heap.size+1,3,none⟩ x3).cell? ⟨w.heap.size+1,2,none⟩=some x2∧((((ww.setCell ⟨w.heap.size+1,0,none⟩ x0).setCell ⟨w.heap.size+1,1,none⟩ x1).setCell ⟨w.heap.size+1,2,none⟩ x2).setCell ⟨w.heap.size+1,3,none⟩ x3).cell? ⟨w.heap.size+1,3,none⟩=some x3)∧Zc (λ q=>q=w.heap.size+1) ww ((((ww.setCell ⟨w.heap.size+1,0,none⟩ x0).setCell ⟨w.heap.size+1,1,none⟩ x1).setCell ⟨w.heap.size+1,2,none⟩ x2).setCell ⟨w.heap.size+1,3,none⟩ x3)∧Za w ((((ww.setCell ⟨w.heap.size+1,0,none⟩ x0).setCell ⟨w.heap.size+1,1,none⟩ x1).setCell ⟨w.heap.size+1,2,none⟩ x2).setCell ⟨w.heap.size+1,3,none⟩ x3)):=by
  intro ww x0 x1 x2 x3 hk;have rs:=hk.at0 hfd;have s3:=Zs (Zs (Zs (Zs rs 0 x0) 1 x1) 2 x2) 3 x3;have k1:=Zt ww (w.heap.size+1) 0 x0;have k2:=Zc.trans k1 (Zt _ (w.heap.size+1) 1 x1) (λ _ _ e=>e);have k3:=Zc.trans k2 (Zt _ (w.heap.size+1) 2 x2) (λ _ _ e=>e);have k4:=Zc.trans k3 (Zt _ (w.heap.size+1) 3 x3) (λ _ _ e=>e);exact ⟨⟨Zb s3 0,Zb s3 1,Zb s3 2,Zb s3 3⟩,k4,Zc.trans (KW.trans' hk) k4 (λ i hi e=>by omega)⟩
 have CH:=Zkz (hE.same KW) io po ro I.length ic P.length pc ec rl rc n;obtain ⟨x0,x1,x2,x3⟩:=BX.out W1 (Zc.refl _ _);cases hb:Zne E n with
 | false=>
  rw [hb] at CH;have HR:Hid (Zm8 L ok T I P E n node=(0,0,[],0,90)):=by show _=_;rw [Zm8,if_neg (by rw [hb];simp)]
  clear hv hI hP hE hbx hfd hb
  go_enter Tryz.func47,Tryz.ntmps47
  go_upto_region 1 with fail
  rw [<- hW1];clear hW1
  go_wp2_with (first | (go_at_call 91;refine CH.mono ?_;rintro e w2 ⟨rfl,k2⟩;obtain ⟨⟨r0,r1,r2,r3⟩,f0,f1,f2,f3⟩:=RC.out w2 k2))
  obtain ⟨⟨q0,q1,q2,q3⟩,kk,ks⟩:=PUT.out w2 (.int .i64 0) (.int .i64 0) (.slice none 0 0) (.int .i64 0) k2;refine bodyPost_ret (v:=.tuple #[.agg #[.int .i64 0,.int .i64 0,.slice none 0 0,.int .i64 0],.int .i64 90]) (by simp [results,Tryz.results47,go_sem,q0,q1,q2,q3]) rfl ?_;rw [HR.out];exact ⟨none,0,rfl,World.ownsRow_nil _ _ _ _,ks⟩
 | true=>
  rw [hb] at CH;have hb2:=hb;unfold Zne at hb2;simp only [Bool.and_eq_true,decide_eq_true_eq] at hb2;obtain ⟨i,rfl,hil⟩:=Za1 hb2.1;have hei:E.getD ((i:Int)).toNat (-1)=E[i]:=by rw [Int.toNat_natCast];simp [hil]
  have h0:0<=E[i]:=by have:=hb2.2;rw [hei] at this;exact this
  obtain ⟨a0,ha0⟩:∃ a0:Nat,E[i]=(a0:Int):=⟨E[i].toNat,by omega⟩;have HR:Hid (Zm8 L ok T I P E (i:Int) node=Ze0 L ok T I P E node (I.length+1) a0):=by show _=_;rw [Zm8,if_pos hb,hei,ha0,Int.toNat_natCast]
  obtain ⟨eb,eoff,rfl,heb,hec⟩:=hE.get hil;rw [ha0] at hec
  have CF:Hid (∀ ww,Za w ww->Calls Tryz.prog 92 #[.agg #[.slice io I.length ic,.slice po P.length pc,.slice (some ⟨eb,eoff,none⟩) E.length ec,.slice ro rl rc,.iface 121 (.agg #[.slice ho hn hc,.slice go gn gc]),.int .i64 node],.int .i64 (a0:Int)] ww λ e w' => ∃ qk qr qo ql qc qn qe,e=.returned (.tuple #[.agg #[.int .i64 qk,.int .i64 qr,.slice qo ql qc,.int .i64 qn],.int .i64 qe])∧Hid (Ze5 ww (Ze0 L ok T I P E node (I.length+1) a0) (.returned (.tuple #[.agg #[.int .i64 qk,.int .i64 qr,.slice qo ql qc,.int .i64 qn],.int .i64 qe])) w')∧Za ww w'):=λ ww hk=>by
   refine (Zsu (hv.same hk) (hI.same hk) hl (hP.same hk) (hE.same hk) ic pc ec ro rl rc node a0).mono ?_;intro e w' h;obtain ⟨qo,qc,rfl,h1,h2⟩:=h;exact ⟨_,_,_,_,_,_,_,rfl,⟨qo,qc,rfl,h1,h2⟩,h2⟩
  have i1:(0:Int)<=(i:Int):=by omega
  have i2:(i:Int)<(E.length:Int):=by omega
  have HS:Hid (∀ ww,Za W1 ww->ww.cell? ⟨w.heap.size,0,none⟩=some (.slice io I.length ic)∧ww.cell? ⟨w.heap.size,1,none⟩=some (.slice po P.length pc)∧ww.cell? ⟨w.heap.size,2,none⟩=some (.slice (some ⟨eb,eoff,none⟩) E.length ec)∧ww.cell? ⟨w.heap.size,3,none⟩=some (.slice ro rl rc)∧ww.cell? ⟨eb,eoff+i,none⟩=some (.int .i64 (a0:Int))):=λ ww hk=>by
   obtain ⟨t0,t1,t2,t3⟩:=BX.out ww hk;exact ⟨t0,t1,t2,t3,((KW.trans' hk).cell (p:=⟨eb,eoff+i,none⟩) heb (λ f=>f)).trans hec⟩
  clear hv hI hP hE hbx hfd hb hb2 hei h0 ha0
  go_enter Tryz.func47,Tryz.ntmps47
  go_upto_region 1 with fail
  rw [<- hW1];clear hW1
  go_upto_region 5 with (first | (go_at_call 91;refine CH.mono ?_;rintro e w2 ⟨rfl,k2⟩))
  have C0:=HS.out w2 k2;have kd:Za w2 w2.drew:=Zc.drew (Zc.refl _ _)
  go_region_held3 (λ w' => w'.cell? ⟨w.heap.size,0,none⟩=some (.slice io I.length ic)∧w'.cell? ⟨w.heap.size,1,none⟩=some (.slice po P.length pc)∧w'.cell? ⟨w.heap.size,2,none⟩=some (.slice (some ⟨eb,eoff,none⟩) E.length ec)∧w'.cell? ⟨w.heap.size,3,none⟩=some (.slice ro rl rc)∧w'.cell? ⟨eb,eoff+i,none⟩=some (.int .i64 (a0:Int))) (first | exact C0 | exact cc3 | exact cc4.out) (first
   | (go_at_call 92;refine (CF.out _ ((KW.trans' k2).trans' kd)).mono ?_;rintro e w3 ⟨qk,qr,qo,ql,qc,qn,qe,rfl,hF,k3⟩;have hk3:Za W1 w3:=(k2.trans' kd).trans' k3;have cc3:=HS.out w3 hk3;obtain ⟨⟨r0,r1,r2,r3⟩,f0,f1,f2,f3⟩:=RC.out w3 hk3;have PH:Hid _:=PUT.out w3 (.int .i64 qk) (.int .i64 qr) (.slice qo ql qc) (.int .i64 qn) hk3;have cc4:Hid _:=And.intro ((PH.out.2.1.cell (p:=⟨w.heap.size,0,none⟩) (World.block_lt_of_cell? _ _ cc3.1) (λ e=>(by have e' : w.heap.size=w.heap.size+1:=e;omega))).trans cc3.1) (And.intro ((PH.out.2.1.cell (p:=⟨w.heap.size,1,none⟩) (World.block_lt_of_cell? _ _ cc3.2.1) (λ e=>(by have e' : w.heap.size=w.heap.size+1:=e;omega))).trans cc3.2.1) (And.intro ((PH.out.2.1.cell (p:=⟨w.heap.size,2,none⟩) (World.block_lt_of_cell? _ _ cc3.2.2.1) (λ e=>(by have e' : w.heap.size=w.heap.size+1:=e;omega))).trans cc3.2.2.1) (And.intro ((PH.out.2.1.cell (p:=⟨w.heap.size,3,none⟩) (World.block_lt_of_cell? _ _ cc3.2.2.2.1) (λ e=>(by have e' : w.heap.size=w.heap.size+1:=e;omega))).trans cc3.2.2.2.1) ((PH.out.2.1.cell (p:=⟨eb,eoff+i,none⟩) (World.block_lt_of_cell? _ _ cc3.2.2.2.2) (λ e=>(by have e' : eb=w.heap.size+1:=e;omega))).trans cc3.2.2.2.2))))))
  all_goals
   go_wp2_with fail
   obtain ⟨⟨q0,q1,q2,q3⟩,kk,ks⟩:=PH.out;refine bodyPost_ret (v:=.tuple #[.agg #[.int .i64 qk,.int .i64 qr,.slice qo ql qc,.int .i64 qn],.int .i64 qe]) (by simp [results,Tryz.results47,go_sem,q0,q1,q2,q3]) rfl ?_;rw [HR.out];obtain ⟨zo,zc,e1,h1,h2⟩:=hF.out;refine ⟨zo,zc,e1,Yi (kk.row h1 (λ q e e2=>?_)) ?_,ks⟩
   ·have:=Zgl h1 e
    have e3:q=w.heap.size+1:=e2;have hz:=k2.size;have hz2:w2.drew.heap.size=w2.heap.size:=rfl;omega
   ·have hz:=(KW.trans' k2).size
    exact hz
def V9:(n:Nat)->Tr n->List Int
 | 0,_=>[]
 | n+1,(k,r,p,l)=>if k=1 then [r] else if k=2 then l.flatMap (λ x=>V9 n x.2) else []
def SmK:(n:Nat)->Tr n->Prop
 | 0,_=>True
 | n+1,(k,r,p,l)=>l.length<=1000000000∧∀ i (h:i<l.length),SmK n l[i].2
structure RAt (w:World) (lb base:Nat) (lv:Value) (out:List Int):Prop where
 blk:w.heap[lb]? = some (.cells #[lv] 32 (0,0))
 row:Row base w lv out
abbrev T3:=Nat × Nat × Nat
def Zc5 (a b:T3):T3:=(a.1+b.1,a.2.1+b.2.1,a.2.2+b.2.2)
def Zew {α:Type} (f:α->T3):List α->T3
 | []=>(0,0,0)
 | x :: r=>Zc5 (f x) (Zew f r)
theorem Zdx {α:Type} (f:α->T3):∀ (a b:List α),Zew f (a++b)=Zc5 (Zew f a) (Zew f b)
 | [],b=>by simp [Zew,Zc5]
 | x :: r,b=>by
  rw [List.cons_append,Zew,Zew,Zdx f r b];simp only [Zc5,Nat.add_assoc]
def Zcu (k:Int):T3:=if k=1 then (1,0,0) else if k=2 then (0,1,0) else if k=3 then (0,0,1) else (0,0,0)
def szT:(n:Nat)->Tr n->T3
 | 0,_=>(0,0,0)
 | n+1,(k,r,p,l)=>Zc5 (Zcu k) (if k=2 then Zew (λ x=>szT n x.2) l else (0,0,0))
structure SAt (w:World) (x y z:Nat) (a:T3):Prop where
 bx:w.heap[x]? = some (.cells #[.int .i64 (a.1:Int)] 3 (0,0))
 by' : w.heap[y]? = some (.cells #[.int .i64 (a.2.1:Int)] 3 (0,0))
 bz:w.heap[z]? = some (.cells #[.int .i64 (a.2.2:Int)] 3 (0,0))
 xy:x≠y
 xz:x≠z
 yz:y≠z
abbrev Ki:Value:=.agg #[.int .i64 0,.int .i64 0,.slice none 0 0,.slice none 0 0]
def X5 (L:List Sym) (R:List Ru) (s:Nat):Except Int (Tr 2001):=Xf L 2001 (V1 L s) (Yq L R s)
def Zgj (L:List Sym) (R:List Ru) (n:Int) (w:World) (e:Ending) (w' : World):Prop:=
 Za w w' ∧ if Y7 L n=true then
  (match X5 L R n.toNat with
  | .ok t=>∃ v,e=.returned (.tuple #[v,.nilIface])∧CsB (λ b=>w.heap.size<=b) w' 2001 v t
  | .error z=>∃ v,e=.returned (.tuple #[Ki,v])∧Yg w' [(81,n),(82,z)] v)
 else ∃ v,e=.returned (.tuple #[Ki,v])∧Yg w' [(80,0)] v
theorem Zkc (b:Nat) (w:World):(binOp .eql 26 (.pointer (some ⟨b,0,none⟩)) (.pointer none)).run Tryz.prog w=.ok (.bool false) w:=by kernel_rfl
theorem Zim {α:Type} {has:Nat->Bool} {g:Nat->Except Int α} {z:Int}:∀ {k:Nat},Zbr has g k=.error z->∃ j,g j=.error z
 | 0,h=>by cases h
 | k+1,h=>by
  rw [Zbr] at h;cases hk:Zbr has g k with
  | error e=>rw [hk] at h;cases h;exact Zim hk
  | ok l=>
   rw [hk] at h;simp only at h;split at h
   ·cases hg:g k with
    | error e=>rw [hg] at h;cases h;exact ⟨k,hg⟩
    | ok t=>rw [hg] at h;cases h
   ·cases h
theorem Zie {L:List Sym} {z:Int}:∀ {n:Nat} {P:List (List Int)} {R:List Rw},(∀ x∈R,0<=x.1)->Xf L n P R=.error z->0<=z
 | 0,P,R,hR,h=>by rw [Xf] at h;cases h;omega
 | n+1,P,R,hR,h=>by
  have hh:¬ R.length=0->0<=(R.headD (0,[],[])).1:=λ h0=>by
   cases R with
   | nil=>simp at h0
   | cons x r=>exact hR x (List.mem_cons_self ..)
  by_cases h0:R.length=0
  ·rw [Jk h0] at h;cases h
  ·cases hp:Yw R P.length with
   | some c=>
    rw [Vf h0 hp] at h;unfold BrF at h;cases hk:Yp L n P R c L.length with
    | ok l=>rw [hk] at h;cases h
    | error e=>
     rw [hk] at h;cases h;obtain ⟨j,hj⟩:=Zim hk;refine Zie (λ x hx=>?_) hj;obtain ⟨y,hy,rfl⟩:=List.mem_map.1 hx;exact hR y (Zc3 hy).1
   | none=>
    by_cases h1:R.length=1
    ·rw [Jn h1 hp] at h;cases h
    ·rw [Jq h0 h1 hp] at h;cases h;exact hh h0
theorem Zd5 {w:World} {b bs:Nat} {L:List Sym} {R:List Ru} {lv:Value} {vs:List Value} (h:Kd w b bs L R lv vs) (n:Int) :
  Calls Tryz.prog 8 #[.pointer (some ⟨b,0,none⟩),.int .i64 n] w (Zgj L R n w):=by
 have hpn:=Zkc;have hle:=h.le;have hok:=h.ok;obtain ⟨W1,hW1⟩:∃ W1,W1=((w.alloc (.cells #[.int .i64 n] 3)).alloc Z1).alloc (.cells #[.nilIface] 37):=⟨_,rfl⟩;have KW:Za w W1:=by rw [hW1];exact (((Zc.refl _ w).alloc _).alloc _).alloc _
 have ez:W1.heap.size=w.heap.size+1+1+1:=by rw [hW1];simp
 have BK:Hid (∀ ww,Za W1 ww->ww.heap[w.heap.size]? = some (.cells #[.int .i64 n] 3 (0,0))∧ww.heap[w.heap.size+1]? = some (.cells #[.int .i64 0,.int .i64 0,.slice none 0 0,.slice none 0 0] 35 (0,0))∧ww.heap[w.heap.size+1+1]? = some (.cells #[.nilIface] 37 (0,0))):=λ ww hk=>by
  have k1:Za (w.alloc (.cells #[.int .i64 n] 3)) W1:=by rw [hW1];exact ((Zc.refl _ _).alloc _).alloc _
  have k2:Za ((w.alloc (.cells #[.int .i64 n] 3)).alloc Z1) W1:=by rw [hW1];exact (Zc.refl _ _).alloc _
  have h3:=Zp (w.alloc (.cells #[.int .i64 n] 3)) Z1 (.cells #[.nilIface] 37);rw [World.size_alloc] at h3;exact ⟨hk.at0 (k1.at0 (heap_alloc_new w _)),hk.at0 (k2.at0 (Zp _ _ _)),hk.at0 (by rw [hW1];exact h3)⟩
 have RC:Hid (∀ ww,Za W1 ww->ww.cell? ⟨w.heap.size,0,none⟩=some (.int .i64 n)∧(ww.cell? ⟨w.heap.size+1,0,none⟩=some (.int .i64 0)∧ww.cell? ⟨w.heap.size+1,1,none⟩=some (.int .i64 0)∧ww.cell? ⟨w.heap.size+1,2,none⟩=some (.slice none 0 0)∧ww.cell? ⟨w.heap.size+1,3,none⟩=some (.slice none 0 0))∧(ww.frozen? ⟨w.heap.size+1,0,none⟩=false∧ww.frozen? ⟨w.heap.size+1,1,none⟩=false∧ww.frozen? ⟨w.heap.size+1,2,none⟩=false∧ww.frozen? ⟨w.heap.size+1,3,none⟩=false)∧ww.cell? ⟨w.heap.size+1+1,0,none⟩=some .nilIface∧ww.frozen? ⟨w.heap.size+1+1,0,none⟩=false):=λ ww hk=>by
  obtain ⟨h1,h2,h3⟩:=BK.out ww hk;exact ⟨Zb h1 0,⟨Zb h2 0,Zb h2 1,Zb h2 2,Zb h2 3⟩,⟨Zd h2 0,Zd h2 1,Zd h2 2,Zd h2 3⟩,Zb h3 0,Zd h3 0⟩
 have CS:Hid (∀ ww,Za w ww->Calls Tryz.prog 35 #[.pointer (some ⟨b,0,none⟩)] ww λ e w' => ∃ bt,e=.returned (.pointer (some ⟨bt,0,none⟩))∧Hid (Sg w'.heap.size w' bt L)∧Za ww w'):=λ ww hk=>by
  refine (Zg3 (h.same hk)).mono ?_;rintro e w' ⟨bt,rfl,hb,sv,mr,h1,h2,h3⟩;exact ⟨bt,rfl,⟨⟨sv,mr,h1,λ k hk=>J7 h1 k hk⟩,h.sig.2⟩,h3⟩
 have HST:Hid (∀ ww,Za w ww->Kd ww b bs L R lv vs):=λ ww hk=>h.same hk
 have PUT:Hid (∀ ww x0 x1 x2 x3 y,Za W1 ww->((((((ww.setCell ⟨w.heap.size+1,0,none⟩ x0).setCell ⟨w.heap.size+1,1,none⟩ x1).setCell ⟨w.heap.size+1,2,none⟩ x2).setCell ⟨w.heap.size+1,3,none⟩ x3).setCell ⟨w.heap.size+1+1,0,none⟩ y)).cell? ⟨w.heap.size+1,0,none⟩=some x0∧((((((ww.setCell ⟨w.heap.size+1,0,none⟩ x0).setCell ⟨w.heap.size+1,1,none⟩ x1).setCell ⟨w.heap.size+1,2,none⟩ x2).setCell ⟨w.heap.size+1,3,none⟩ x3).setCell ⟨w.heap.size+1+1,0,none⟩ y)).cell? ⟨w.heap.size+1,1,none⟩=some x1∧((((((ww.setCell ⟨w.heap.size+1,0,none⟩ x0).setCell ⟨w.heap.size+1,1,none⟩ x1).setCell ⟨w.heap.size+1,2,none⟩ x2).setCell ⟨w.heap.size+1,3,none⟩ x3).setCell ⟨w.heap.size+1+1,0,none⟩ y)).cell? ⟨w.heap.size+1,2,none⟩=some x2∧((((((ww.setCell ⟨w.heap.size+1,0,none⟩ x0).setCell ⟨w.heap.size+1,1,none⟩ x1).setCell ⟨w.heap.size+1,2,none⟩ x2).setCell ⟨w.heap.size+1,3,none⟩ x3).setCell ⟨w.heap.size+1+1,0,none⟩ y)).cell? ⟨w.heap.size+1,3,none⟩=some x3∧((((((ww.setCell ⟨w.heap.size+1,0,none⟩ x0).setCell ⟨w.heap.size+1,1,none⟩ x1).setCell ⟨w.heap.size+1,2,none⟩ x2).setCell ⟨w.heap.size+1,3,none⟩ x3).setCell ⟨w.heap.size+1+1,0,none⟩ y)).cell? ⟨w.heap.size+1+1,0,none⟩=some y∧Zc (λ q=>q=w.heap.size+1∨q=w.heap.size+1+1) ww ((((((ww.setCell ⟨w.heap.size+1,0,none⟩ x0).setCell ⟨w.heap.size+1,1,none⟩ x1).setCell ⟨w.heap.size+1,2,none⟩ x2).setCell ⟨w.heap.size+1,3,none⟩ x3).setCell ⟨w.heap.size+1+1,0,none⟩ y))∧Za w ((((((ww.setCell ⟨w.heap.size+1,0,none⟩ x0).setCell ⟨w.heap.size+1,1,none⟩ x1).setCell ⟨w.heap.size+1,2,none⟩ x2).setCell ⟨w.heap.size+1,3,none⟩ x3).setCell ⟨w.heap.size+1+1,0,none⟩ y))):=by
  intro ww x0 x1 x2 x3 y hk;obtain ⟨h1,h2,h3⟩:=BK.out ww hk;have s3:=Zs (Zs (Zs (Zs h2 0 x0) 1 x1) 2 x2) 3 x3;have k1:=Zc.setCell (p:=⟨w.heap.size+1,0,none⟩) (Zc.refl (λ q=>q=w.heap.size+1) ww) (λ _=>rfl) x0;have k2:=Zc.setCell (p:=⟨w.heap.size+1,1,none⟩) k1 (λ _=>rfl) x1;have k3:=Zc.setCell (p:=⟨w.heap.size+1,2,none⟩) k2 (λ _=>rfl) x2;have k4:=Zc.setCell (p:=⟨w.heap.size+1,3,none⟩) k3 (λ _=>rfl) x3;have h3' := k4.at h3 (λ e=>by omega);have s4:=Zs h3' 0 y;have k5:=Zc.setCell (p:=⟨w.heap.size+1+1,0,none⟩) (Zc.refl (λ q=>q=w.heap.size+1+1) ((((ww.setCell ⟨w.heap.size+1,0,none⟩ x0).setCell ⟨w.heap.size+1,1,none⟩ x1).setCell ⟨w.heap.size+1,2,none⟩ x2).setCell ⟨w.heap.size+1,3,none⟩ x3)) (λ _=>rfl) y;have s3' := k5.at s3 (λ e=>by omega);have kk:Zc (λ q=>q=w.heap.size+1∨q=w.heap.size+1+1) ww ((((((ww.setCell ⟨w.heap.size+1,0,none⟩ x0).setCell ⟨w.heap.size+1,1,none⟩ x1).setCell ⟨w.heap.size+1,2,none⟩ x2).setCell ⟨w.heap.size+1,3,none⟩ x3).setCell ⟨w.heap.size+1+1,0,none⟩ y)):=Zc.trans (k4.mono (λ _ _ e=>.inl e)) k5 (λ _ _ e=>.inr e);exact ⟨Zb s3' 0,Zb s3' 1,Zb s3' 2,Zb s3' 3,Zb s4 0,kk,Zc.trans (KW.trans' hk) kk (λ i hi e=>by omega)⟩
 clear h;have C1:=CS.out W1 KW;cases hd:Y7 L n with
 | false=>
  have FIN:Hid (∀ ww v,Za w ww->Yg ww [(80,0)] v->Zgj L R n w (.returned (.tuple #[Ki,v])) ww):=λ ww v hk hf=>⟨hk,by rw [hd];exact ⟨v,rfl,hf⟩⟩;have CD:Hid (∀ ww bt,Za W1 ww->Sg ww.heap.size ww bt L->Calls Tryz.prog 36 #[.pointer (some ⟨bt,0,none⟩),.int .i64 n] ww λ e w' => e=.returned (.bool false)∧Za ww w'):=λ ww bt hk hs=>by rw [<- hd];exact Zly hs n
  clear hd
  go_enter Tryz.func8,Tryz.ntmps8
  go_upto_region 1 with fail
  rw [<- hW1];clear hW1
  go_upto_region 4 with (first | (go_at_call 35;refine C1.mono ?_;rintro e w2 ⟨bt,rfl,hs2,k2⟩))
  obtain ⟨r0,_⟩:=RC.out w2 k2;have C2:=CD.out w2 bt k2 hs2.out
  go_upto_region 5 with (first | (go_at_call 36;refine C2.mono ?_;rintro e w3 ⟨rfl,k3⟩))
  have k13:=k2.trans' k3;have ka:Za W1 (w3.alloc (.cells #[.int .i64 80,.int .i64 0,.nilIface] 100)):=Zc.alloc k13 _;obtain ⟨_,⟨q0,q1,q2,q3⟩,⟨f0,f1,f2,f3⟩,q4,f4⟩:=RC.out _ ka;have PP:=PUT.out _ (.int .i64 0) (.int .i64 0) (.slice none 0 0) (.slice none 0 0) (.iface 98 (.pointer (some ⟨w3.heap.size,0,none⟩))) ka;have PH:Hid _:=PP;clear PP
  go_wp2_with fail
  obtain ⟨g0,g1,g2,g3,g4,kk,ks⟩:=PH.out;have hf:=kk.at (heap_alloc_new w3 _) (λ e=>by have:=k13.size;omega);exact bodyPost_ret (v:=.tuple #[Ki,.iface 98 (.pointer (some ⟨w3.heap.size,0,none⟩))]) (by simp [results,Tryz.results8,go_sem,g0,g1,g2,g3,g4]) rfl (FIN.out _ _ ks (.inr ⟨by omega,_,_,rfl,hf,rfl⟩))
 | true=>
  obtain ⟨s,hs,rfl⟩:∃ s:Nat,s<L.length∧n=(s:Int):=by
   by_cases hx:n<0∨(L.length:Int)<=n
   ·rw [Zf9 hx] at hd;cases hd
   ·exact ⟨n.toNat,by omega,by omega⟩
  have CD:Hid (∀ ww bt,Za W1 ww->Sg ww.heap.size ww bt L->Calls Tryz.prog 36 #[.pointer (some ⟨bt,0,none⟩),.int .i64 (s:Int)] ww λ e w' => e=.returned (.bool true)∧Za ww w'):=λ ww bt hk hs=>by rw [<- hd];exact Zly hs _
  have CR:Hid (∀ ww bt,Za W1 ww->Sg ww.heap.size ww bt L->Calls Tryz.prog 39 #[.pointer (some ⟨bt,0,none⟩),.pointer (some ⟨b,0,none⟩),.int .i64 (s:Int)] ww λ e w' => ∃ po pc ro rc,e=.returned (.agg #[.pointer (some ⟨bt,0,none⟩),.slice po (V1 L s).length pc,.slice ro (Yq L R s).length rc])∧Hid (Zg9 w' L 2001 bt po pc (V1 L s) ro (Yq L R s))∧Za ww w'):=λ ww bt hk hg=>Znt hg (HST.out ww (KW.trans' hk)) hs;have CG:Hid (∀ ww bt po pc ro rc,Zg9 ww L 2001 bt po pc (V1 L s) ro (Yq L R s)->Calls Tryz.prog 40 #[.agg #[.pointer (some ⟨bt,0,none⟩),.slice po (V1 L s).length pc,.slice ro (Yq L R s).length rc]] ww (Zau ww (X5 L R s))):=λ ww bt po pc ro rc hi=>Zi8 L 2001 ww bt po pc _ ro rc _ hi;cases ht:X5 L R s with
  | ok t=>
   rw [ht] at CG
   have CG2:Hid (∀ ww bt po pc ro rc,Zg9 ww L 2001 bt po pc (V1 L s) ro (Yq L R s)->Calls Tryz.prog 40 #[.agg #[.pointer (some ⟨bt,0,none⟩),.slice po (V1 L s).length pc,.slice ro (Yq L R s).length rc]] ww λ e w' => ∃ tk tr tpo tpl tpc tko tkl tkc,e=.returned (.agg #[.int .i64 tk,.int .i64 tr,.slice tpo tpl tpc,.slice tko tkl tkc])∧Hid (CsB (λ b=>ww.heap.size<=b) w' 2001 (.agg #[.int .i64 tk,.int .i64 tr,.slice tpo tpl tpc,.slice tko tkl tkc]) t)∧Za ww w'):=λ ww bt po pc ro rc hi=>by
    refine (CG.out ww bt po pc ro rc hi).mono ?_;rintro e w' ⟨v,rfl,h1,h2⟩;obtain ⟨tk,tr,tpo,tpl,tpc,tko,tkl,tkc,rfl⟩:=h1.shape;exact ⟨tk,tr,tpo,tpl,tpc,tko,tkl,tkc,rfl,h1,h2⟩
   have FIN:Hid (∀ ww v,Za w ww->CsB (λ b=>w.heap.size<=b) ww 2001 v t->Zgj L R (s:Int) w (.returned (.tuple #[v,.nilIface])) ww):=λ ww v hk hf=>⟨hk,by rw [if_pos hd];simp only [Int.toNat_natCast];rw [ht];exact ⟨v,rfl,hf⟩⟩;clear hd CG ht
   go_enter_defers Tryz.func8,Tryz.ntmps8
   go_upto_region 1 with fail
   rw [<- hW1];clear hW1
   go_upto_region 4 with (first | (go_at_call 35;refine C1.mono ?_;rintro e w2 ⟨bt,rfl,hs2,k2⟩))
   obtain ⟨r0,_⟩:=RC.out w2 k2;have C2:=CD.out w2 bt k2 hs2.out
   go_upto_region 7 with (first | (go_at_call 36;refine C2.mono ?_;rintro e w3 ⟨rfl,k3⟩))
   have k13:=k2.trans' k3;obtain ⟨r3,_⟩:=RC.out w3 k13;have C3:=CR.out w3 bt k13 (Zcy (hs2.out.same k3) k3.size)
   go_wp2_with (first
    | (go_at_call 39;refine C3.mono ?_;rintro e w4 ⟨po,pc,ro,rc,rfl,hi,k4⟩;have C4:=CG2.out w4 bt po pc ro rc hi.out)
    | (go_at_call 40;refine C4.mono ?_;rintro e w5 ⟨tk,tr,tpo,tpl,tpc,tko,tkl,tkc,rfl,hcs,k5⟩;have k15:=(k13.trans' k4).trans' k5;obtain ⟨_,⟨q0,q1,q2,q3⟩,⟨f0,f1,f2,f3⟩,q4,f4⟩:=RC.out _ k15))
   have PH:Hid _:=PUT.out w5 (.int .i64 tk) (.int .i64 tr) (.slice tpo tpl tpc) (.slice tko tkl tkc) .nilIface k15;refine leaves_cons (f:=37) (args:=#[.pointer (some ⟨w.heap.size,0,none⟩),.pointer (some ⟨w.heap.size+1+1,0,none⟩)]) (by simp) (by simp [go_sem]) ?_;refine (Znk _).mono ?_;rintro e u' w'' ⟨rfl,rfl,rfl⟩;obtain ⟨g0,g1,g2,g3,g4,kk,ks⟩:=PH.out;have z4:=(k13.trans' k4).size;simp [Leaves,settle,results,Tryz.results8,go_sem,g0,g1,g2,g3,g4];exact FIN.out _ _ ks (CsB.mono (λ b hb q=>by have:w4.heap.size<=b:=q;omega) (CsB.kept kk (λ b q e=>by have:w4.heap.size<=b:=q;omega) hcs.out))
  | error z=>
   rw [ht] at CG
   have hz:0<=z:=by
    refine Zie (λ x hx=>?_) ht;obtain ⟨y,hy,rfl⟩:=List.mem_map.1 hx;obtain ⟨j,hj,rfl,_⟩:=Zbi hok hy;show (0:Int)<=(j:Int);omega
   have CG2:Hid (∀ ww bt po pc ro rc,Zg9 ww L 2001 bt po pc (V1 L s) ro (Yq L R s)->Calls Tryz.prog 40 #[.agg #[.pointer (some ⟨bt,0,none⟩),.slice po (V1 L s).length pc,.slice ro (Yq L R s).length rc]] ww λ e w' => ∃ k,e=.panicked [{ v:=.iface 98 (.pointer (some ⟨k,0,none⟩)),recovered:=false }]∧Hid (w'.heap[k]? = some (.cells #[.int .i64 82,.int .i64 z,.nilIface] 100 (0,0)))∧Za ww w'):=λ ww bt po pc ro rc hi=>by
    refine (CG.out ww bt po pc ro rc hi).mono ?_;rintro e w' ⟨⟨k,h1,h2⟩,h3⟩;exact ⟨k,h1,h2,h3⟩
   have FIN:Hid (∀ ww v,Za w ww->Yg ww [(81,(s:Int)),(82,z)] v->Zgj L R (s:Int) w (.returned (.tuple #[Ki,v])) ww):=λ ww v hk hf=>⟨hk,by rw [if_pos hd];simp only [Int.toNat_natCast];rw [ht];exact ⟨v,rfl,hf⟩⟩;clear hd CG ht
   go_enter_defers Tryz.func8,Tryz.ntmps8
   go_upto_region 1 with fail
   rw [<- hW1];clear hW1
   go_upto_region 4 with (first | (go_at_call 35;refine C1.mono ?_;rintro e w2 ⟨bt,rfl,hs2,k2⟩))
   obtain ⟨r0,_⟩:=RC.out w2 k2;have C2:=CD.out w2 bt k2 hs2.out
   go_upto_region 7 with (first | (go_at_call 36;refine C2.mono ?_;rintro e w3 ⟨rfl,k3⟩))
   have k13:=k2.trans' k3;obtain ⟨r3,_⟩:=RC.out w3 k13;have C3:=CR.out w3 bt k13 (Zcy (hs2.out.same k3) k3.size)
   go_wp2_with (first
    | (go_at_call 39;refine C3.mono ?_;rintro e w4 ⟨po,pc,ro,rc,rfl,hi,k4⟩;have C4:=CG2.out w4 bt po pc ro rc hi.out)
    | (go_at_call 40;refine C4.mono ?_;rintro e w5 ⟨k,rfl,hk,k5⟩))
   have k15:=(k13.trans' k4).trans' k5;obtain ⟨x0,⟨q0,q1,q2,q3⟩,⟨f0,f1,f2,f3⟩,q4,f4⟩:=RC.out _ k15;obtain ⟨b1,b2,b3⟩:=BK.out w5 k15;refine leaves_cons (f:=37) (args:=#[.pointer (some ⟨w.heap.size,0,none⟩),.pointer (some ⟨w.heap.size+1+1,0,none⟩)]) (by simp) (by simp [go_sem]) ?_;refine (Znp k w5 x0 b3 (by omega)).mono ?_;rintro e u' w6 ⟨rfl,rfl,q,h1,h2,k6⟩;have b2' := k6.at b2 (λ e=>by omega);have g0:=Zb b2' 0;have g1:=Zb b2' 1;have g2:=Zb b2' 2;have g3:=Zb b2' 3;have g4:=Zb h2 0;simp only [List.getElem?_toArray,List.getElem?_cons_zero,List.getElem?_cons_succ] at g0 g1 g2 g3 g4;have hk6:=k6.at hk.out (λ e=>by subst e;have:=hk.out;rw [b3] at this;cases this);have ks:Za w w6:=Zc.trans (KW.trans' k15) k6 (λ i hi e=>by omega);simp [Leaves,settle,results,Tryz.results8,go_sem,g0,g1,g2,g3,g4];exact FIN.out _ _ ks (.inr ⟨by omega,q,_,rfl,h1,.inr ⟨by omega,k,_,rfl,hk6,rfl⟩⟩)
end
structure GL (n:Nat) (R:List Rw) (t:Tr n):Prop where
 len:(V9 n t).length=R.length
 mem:∀ x∈R,x.1∈V9 n t
 fl:(szT n t).2.2=if R.length=0 then 1 else 0
 br:(szT n t).2.1<=n * R.length
 lv:(szT n t).1=R.length
 b0:(szT n t).2.1=0->R.length<=1
 sm:SmK n t
def Zru (R:List Rw) (c:Nat) (k:Nat):Nat:=(R.filter (λ x=>decide (Xo x c<(k:Int)))).length
theorem Zog {R:List Rw} {c k:Nat} (h:∀ x∈R,0<=Xo x c):Zru R c (k+1)=Zru R c k+(Yc R c (k:Int)).length:=by
 unfold Zru Yc
 induction R with
 | nil=>rfl
 | cons x r ih=>
  have h0:=ih (λ y hy=>h y (List.mem_cons_of_mem _ hy));have hx:=h x (List.mem_cons_self ..)
  by_cases h1:Xo x c<(k:Int)
  ·have h2:Xo x c<((k+1:Nat):Int):=by omega
   have h3:¬ Xo x c=(k:Int):=by omega
   simp only [List.filter_cons,h1,h2,h3,decide_true,decide_false,if_true,Bool.false_eq_true,if_false,List.length_cons];omega
  ·by_cases h3:Xo x c=(k:Int)
   ·have h2:Xo x c<((k+1:Nat):Int):=by omega
    simp only [List.filter_cons,h3,decide_true,if_true,List.length_cons];have h4:((k:Int)<((k+1:Nat):Int)):=by omega
    simp only [h4,decide_true,if_true,List.length_cons,Int.lt_irrefl,decide_false,Bool.false_eq_true,if_false];omega
   ·have h2:¬ Xo x c<((k+1:Nat):Int):=by omega
    simp only [List.filter_cons,h1,h2,h3,decide_false,Bool.false_eq_true,if_false];exact h0
structure KL (n:Nat) (R:List Rw) (c k:Nat) (l:List (Int × Tr n)):Prop where
 len:(l.flatMap (λ x=>V9 n x.2)).length=Zru R c k
 mem:∀ x∈R,Xo x c<(k:Int)->x.1∈l.flatMap (λ x=>V9 n x.2)
 fl:(Zew (λ x=>szT n x.2) l).2.2=0
 br:(Zew (λ x=>szT n x.2) l).2.1<=n * Zru R c k
 lv:(Zew (λ x=>szT n x.2) l).1=Zru R c k
 le:l.length<=k
 sm:∀ i (h:i<l.length),SmK n l[i].2
theorem Zql {L:List Sym} {n:Nat} {P:List (List Int)} {R:List Rw} {c:Nat} (h0:∀ x∈R,0<=Xo x c) (IH:∀ s,s<L.length->Yc R c (s:Int)≠[]->∀ t,Xf L n (Yu L P c s) ((Yc R c (s:Int)).map (Vj L c))=.ok t->GL n ((Yc R c (s:Int)).map (Vj L c)) t):∀ k,k<=L.length->∀ l,Yp L n P R c k=.ok l->KL n R c k l
 | 0,_,l,h=>by
  cases h
  have e:Zru R c 0=0:=by
   unfold Zru;rw [List.length_eq_zero_iff,List.filter_eq_nil_iff];intro x hx;have:=h0 x hx;simp;omega
  exact ⟨by rw [e];rfl,λ x hx hn=>by have:=h0 x hx;omega,rfl,by simp [Zew],by rw [e];rfl,Nat.le_refl _,λ i hi=>absurd hi (by simp)⟩
 | k+1,hk,l,h=>by
  have hsucc:=Zog (c:=c) (k:=k) h0;cases hm:Yp L n P R c k with
  | error e=>rw [Zbp hm (Nat.le_succ k)] at h;cases h
  | ok m=>
   have K:=Zql h0 IH k (by omega) m hm;have hm' := hm;unfold Yp at hm' h;rw [Zbr,hm'] at h;simp only at h
   by_cases hh:0<(Yc R c (k:Int)).length
   ·simp only [hh,decide_true,if_true] at h
    cases hg:Xf L n (Yu L P c k) ((Yc R c (k:Int)).map (Vj L c)) with
    | error e=>rw [hg] at h;cases h
    | ok t=>
     rw [hg] at h;cases h;have G:=IH k (by omega) (λ e=>by rw [e] at hh;simp at hh) t hg;have hGl:=G.len;rw [List.length_map] at hGl;have hGv:=G.lv;rw [List.length_map] at hGv;have hGb:=G.br;rw [List.length_map] at hGb;have hGf:=G.fl;rw [List.length_map,if_neg (by omega)] at hGf;have efl:(m ++ [((k:Int),t)]).flatMap (λ x=>V9 n x.2)=m.flatMap (λ x=>V9 n x.2)++V9 n t:=by simp
     have es:Zew (λ x:Int × Tr n=>szT n x.2) (m ++ [((k:Int),t)])=Zc5 (Zew (λ x=>szT n x.2) m) (szT n t):=by rw [Zdx];simp [Zew,Zc5]
     refine ⟨?_,λ x hx hn=>?_,?_,?_,?_,?_,λ i hi=>?_⟩
     ·rw [efl,List.length_append,K.len,hGl,hsucc]
     ·rw [efl]
      by_cases hlt:Xo x c<(k:Int)
      ·exact List.mem_append_left _ (K.mem x hx hlt)
      ·refine List.mem_append_right _ ?_
       have hx2:x∈Yc R c (k:Int):=by
        unfold Yc;rw [List.mem_filter];exact ⟨hx,by simp;omega⟩
       exact G.mem (Vj L c x) (List.mem_map.2 ⟨x,hx2,rfl⟩)
     ·rw [es];simp only [Zc5];rw [K.fl,hGf]
     ·rw [es];simp only [Zc5];have:=K.br;rw [hsucc,Nat.mul_add];omega
     ·rw [es];simp only [Zc5];rw [K.lv,hGv,hsucc]
     ·have:=K.le;simp;omega
     ·by_cases hi2:i<m.length
      ·rw [List.getElem_append_left hi2];exact K.sm i hi2
      ·obtain rfl:i=m.length:=by simp at hi;omega
       simpa using G.sm
   ·simp only [hh,decide_false,Bool.false_eq_true,if_false] at h
    cases h
    have hz:(Yc R c (k:Int)).length=0:=by omega
    rw [hz,Nat.add_zero] at hsucc;refine ⟨by rw [hsucc];exact K.len,λ x hx hn=>?_,K.fl,by rw [hsucc];exact K.br,by rw [hsucc];exact K.lv,by have:=K.le;omega,K.sm⟩;refine K.mem x hx ?_
    by_cases e:Xo x c=(k:Int)
    ·have hx2:x∈Yc R c (k:Int):=by
      unfold Yc;rw [List.mem_filter];exact ⟨hx,by simp [e]⟩
     rw [List.eq_nil_of_length_eq_zero hz] at hx2;simp at hx2
    ·omega
theorem Zqm {L:List Sym} (hA:Ars L) (hL:L.length<=64):∀ (n:Nat) (P:List (List Int)) (R:List Rw) (t:Tr n),Zob L n P R->Xf L n P R=.ok t->GL n R t
 | 0,P,R,t,h,_=>absurd h.pos (Nat.lt_irrefl 0)
 | n+1,P,R,t,h,hg=>by
  by_cases h0:R.length=0
  ·rw [Jk h0] at hg
   cases hg
   refine ⟨by simp [V9,h0],λ x hx=>?_,by simp [szT,Zcu,Zc5,h0],by simp [szT,Zcu,Zc5],by simp [szT,Zcu,Zc5,h0],λ _=>by omega,by simp,λ i hi=>absurd hi (by simp)⟩;rw [List.eq_nil_of_length_eq_zero h0] at hx;simp at hx
  ·cases hp:Yw R P.length with
   | none=>
    by_cases h1:R.length=1
    ·rw [Jn h1 hp] at hg
     cases hg
     refine ⟨by simp [V9,h1],λ x hx=>?_,by simp [szT,Zcu,Zc5,h0],by simp [szT,Zcu,Zc5],by simp [szT,Zcu,Zc5,h1],λ _=>by omega,by simp,λ i hi=>absurd hi (by simp)⟩
     match R,h1 with
     | [y],_=>
      simp at hx;subst hx;simp [V9]
    ·rw [Jq h0 h1 hp] at hg;cases hg
   | some c=>
    rw [Vf h0 hp] at hg;unfold BrF at hg;cases hk:Yp L n P R c L.length with
    | error e=>rw [hk] at hg;cases hg
    | ok l=>
     rw [hk] at hg;cases hg;obtain ⟨hc,hcon⟩:=Zaa hp
     have hn0:∀ x∈R,0<=Xo x c:=λ x hx=>by
      unfold Zet at hcon;have:=List.all_eq_true.1 hcon x hx
      simpa using this
     have hnL:∀ x∈R,Xo x c<(L.length:Int):=λ x hx=>by
      obtain ⟨k1,k2,k3,_⟩:=h.ok x hx;have hc' : c<x.2.2.length:=by omega
      have hp' := k3 _ (List.getElem_mem hc');rw [Za2 hc' hp'];exact (Z4.1 (Zg.1 k1).2.1 _ (List.getElem_mem hp')).1
     have K:=Zql hn0 (λ s hs hne t ht=>Zqm hA hL n _ _ t (h.kid hc hs (Xp hA _) hne) ht) L.length (Nat.le_refl _) l hk
     have hall:Zru R c L.length=R.length:=by
      unfold Zru;rw [List.filter_eq_self.2 (λ x hx=>by simpa using hnL x hx)]
     have er:V9 (n+1) (2,0,P.getD c [],l)=l.flatMap (λ x=>V9 n x.2):=by simp [V9]
     have es:szT (n+1) (2,0,P.getD c [],l)=Zc5 (0,1,0) (Zew (λ x=>szT n x.2) l):=by simp [szT,Zcu]
     refine ⟨?_,λ x hx=>?_,?_,?_,?_,λ e=>?_,?_,K.sm⟩
     ·rw [er,K.len,hall]
     ·rw [er];exact K.mem x hx (hnL x hx)
     ·rw [es,if_neg h0];simp only [Zc5];rw [K.fl]
     ·rw [es];simp only [Zc5];have:=K.br;rw [hall] at this;rw [Nat.add_mul];omega
     ·rw [es];simp only [Zc5];rw [K.lv,hall];omega
     ·rw [es] at e;simp only [Zc5] at e;omega
     ·have:=K.le;omega
end Go.Proofs.YtjahpnbijefncaaGreat
