import Derived.Test.YtjahpnbijefncaaGreatCR17
import Derived.Test.YtjahpnbijefncaaGreatCR15
import Derived.Test.YtjahpnbijefncaaGreatCR14
namespace Go.Proofs.YtjahpnbijefncaaGreat
set_option maxRecDepth 100000
set_option linter.unusedVariables false
open Go.RowKit
attribute [local go_sem ↓] Go.wp_at_zero Go.wp_at_succ
theorem lookF_of {L:List Sym} {ok:Bool} {T:List Int} {I:List I3} {E:List Int} {node:Int} {a:Nat} {p:List Int} {nd s:Int} {j:Nat} {has:Bool} (hnd:wayI L ok T node p=nd) (hs:headI ok T nd=s) (hJ:caseF I s (a+1)=(j,has)):lookF L ok T I E node a p=if has=true then (if (I.getD j (0,0,0)).2.2≤(j:Int) then .inl bad5 else .inr (I.getD j (0,0,0)).2.2) else if hasB E s=true then .inl (3,0,p,nd,0) else .inr (j:Int):=by
 subst hnd
 subst hs
 unfold lookF
 rw [hJ]
def LookOut (w:World) (r:R5 ⊕ Int) (e:Ending) (w' : World):Prop:=
 match r with
 | .inl R=>∃ qo qc,e=.returned (.tuple #[.agg #[.int .i64 R.1,.int .i64 R.2.1,.slice qo R.2.2.1.length qc,.int .i64 R.2.2.2.1],.int .i64 0,.int .i64 R.2.2.2.2])∧Row w.heap.size w' (.slice qo R.2.2.1.length qc) R.2.2.1∧Same0 w w'
 | .inr z=>e=.returned (.tuple #[.agg #[.int .i64 0,.int .i64 0,.slice none 0 0,.int .i64 0],.int .i64 z,.int .i64 0])∧Same0 w w'
set_option maxHeartbeats 16000000 in
theorem look_any {base:Nat} {w:World} {L:List Sym} {ok:Bool} {T:List Int} {ho:Option Addr} {hn hc:Nat} {go:Option Addr} {gn gc:Nat} (hv:VwAt base w L ok T (.agg #[.slice ho hn hc,.slice go gn gc])) {io:Option Addr} {I:List I3} (hI:InsAt w io I) (hl:I.length≤140737488355328) {eo:Option Addr} {E:List Int} (hE:IntsAt w eo E) {qo:Option Addr} {qc:Nat} {p:List Int} (hp:Arg w qo p qc) (ic ec:Nat) (po ro:Option Addr) (pl pc rl rc:Nat) (node:Int) (a:Nat) (ha:a<I.length) :
  Calls Tryz.prog 131 #[.agg #[.slice io I.length ic,.slice po pl pc,.slice eo E.length ec,.slice ro rl rc,.iface 121 (.agg #[.slice ho hn hc,.slice go gn gc]),.int .i64 node],.int .i64 (a:Int),.slice qo p.length qc] w (LookOut w (lookF L ok T I E node a p)):=by
 have hmx:p.length≤maxLen:=by have:=hp.size;unfold maxLen;omega
 obtain ⟨W1,hW1⟩:∃ W1,W1=(w.alloc (.cells #[.slice io I.length ic,.slice po pl pc,.slice eo E.length ec,.slice ro rl rc,.iface 121 (.agg #[.slice ho hn hc,.slice go gn gc]),.int .i64 node] 180)).alloc (.cells #[.int .i64 0,.int .i64 0,.slice none 0 0,.int .i64 0] 85):=⟨_,rfl⟩
 have KW:Same0 w W1:=by rw [hW1];exact ((Kept.refl _ w).alloc _).alloc _
 have hbx:W1.heap[w.heap.size]? = some (.cells #[.slice io I.length ic,.slice po pl pc,.slice eo E.length ec,.slice ro rl rc,.iface 121 (.agg #[.slice ho hn hc,.slice go gn gc]),.int .i64 node] 180 (0,0)):=by rw [hW1];exact heap_alloc2_old _ _ _
 have hfd:W1.heap[w.heap.size+1]? = some (.cells #[.int .i64 0,.int .i64 0,.slice none 0 0,.int .i64 0] 85 (0,0)):=by rw [hW1];exact heap_al_al _ _ _
 have BX:Hid (∀ ww,Same0 W1 ww→ww.cell? ⟨w.heap.size,0,none⟩=some (.slice io I.length ic)∧ww.cell? ⟨w.heap.size,1,none⟩=some (.slice po pl pc)∧ww.cell? ⟨w.heap.size,2,none⟩=some (.slice eo E.length ec)∧ww.cell? ⟨w.heap.size,3,none⟩=some (.slice ro rl rc)∧ww.cell? ⟨w.heap.size,4,none⟩=some (.iface 121 (.agg #[.slice ho hn hc,.slice go gn gc]))∧ww.cell? ⟨w.heap.size,5,none⟩=some (.int .i64 node)):=fun ww hk=>by
  have:=hk.at0 hbx
  exact ⟨cellAt this 0,cellAt this 1,cellAt this 2,cellAt this 3,cellAt this 4,cellAt this 5⟩
 have RC:Hid (∀ ww,Same0 W1 ww→(ww.cell? ⟨w.heap.size+1,0,none⟩=some (.int .i64 0)∧ww.cell? ⟨w.heap.size+1,1,none⟩=some (.int .i64 0)∧ww.cell? ⟨w.heap.size+1,2,none⟩=some (.slice none 0 0)∧ww.cell? ⟨w.heap.size+1,3,none⟩=some (.int .i64 0))∧ww.frozen? ⟨w.heap.size+1,0,none⟩=false∧ww.frozen? ⟨w.heap.size+1,1,none⟩=false∧ww.frozen? ⟨w.heap.size+1,2,none⟩=false∧ww.frozen? ⟨w.heap.size+1,3,none⟩=false):=fun ww hk=>by
  have:=hk.at0 hfd
  exact ⟨⟨cellAt this 0,cellAt this 1,cellAt this 2,cellAt this 3⟩,frozenAt this 0,frozenAt this 1,frozenAt this 2,frozenAt this 3⟩
 have PUT:Hid (∀ ww x0 x1 x2 x3,Same0 W1 ww→(((((ww.setCell ⟨w.heap.size+1,0,none⟩ x0).setCell ⟨w.heap.size+1,1,none⟩ x1).setCell ⟨w.heap.size+1,2,none⟩ x2).setCell ⟨w.heap.size+1,3,none⟩ x3).cell? ⟨w.heap.size+1,0,none⟩=some x0∧((((ww.setCell ⟨w.heap.size+1,0,none⟩ x0).setCell ⟨w.heap.size+1,1,none⟩ x1).setCell ⟨w.heap.size+1,2,none⟩ x2).setCell ⟨w.heap.size+1,3,none⟩ x3).cell? ⟨w.heap.size+1,1,none⟩=some x1∧((((ww.setCell ⟨w.heap.size+1,0,none⟩ x0).setCell ⟨w.heap.size+1,1,none⟩ x1).setCell ⟨w.heap.size+1,2,none⟩ x2).setCell ⟨w.heap.size+1,3,none⟩ x3).cell? ⟨w.heap.size+1,2,none⟩=some x2∧((((ww.setCell ⟨w.heap.size+1,0,none⟩ x0).setCell ⟨w.heap.size+1,1,none⟩ x1).setCell ⟨w.heap.size+1,2,none⟩ x2).setCell ⟨w.heap.size+1,3,none⟩ x3).cell? ⟨w.heap.size+1,3,none⟩=some x3)∧Kept (fun q=>q=w.heap.size+1) ww ((((ww.setCell ⟨w.heap.size+1,0,none⟩ x0).setCell ⟨w.heap.size+1,1,none⟩ x1).setCell ⟨w.heap.size+1,2,none⟩ x2).setCell ⟨w.heap.size+1,3,none⟩ x3)∧Same0 w ((((ww.setCell ⟨w.heap.size+1,0,none⟩ x0).setCell ⟨w.heap.size+1,1,none⟩ x1).setCell ⟨w.heap.size+1,2,none⟩ x2).setCell ⟨w.heap.size+1,3,none⟩ x3)):=by
  intro ww x0 x1 x2 x3 hk
  have rs:=hk.at0 hfd
  have s3:=setAt (setAt (setAt (setAt rs 0 x0) 1 x1) 2 x2) 3 x3
  have k1:=kept_at ww (w.heap.size+1) 0 x0
  have k2:=Kept.trans k1 (kept_at _ (w.heap.size+1) 1 x1) (fun _ _ e=>e)
  have k3:=Kept.trans k2 (kept_at _ (w.heap.size+1) 2 x2) (fun _ _ e=>e)
  have k4:=Kept.trans k3 (kept_at _ (w.heap.size+1) 3 x3) (fun _ _ e=>e)
  exact ⟨⟨cellAt s3 0,cellAt s3 1,cellAt s3 2,cellAt s3 3⟩,k4,Kept.trans (KW.trans' hk) k4 (fun i hi e=>by omega)⟩
 have CK:Hid (∀ ww,Same0 w ww→Calls Tryz.prog 158 #[.agg #[.slice io I.length ic,.slice po pl pc,.slice eo E.length ec,.slice ro rl rc,.iface 121 (.agg #[.slice ho hn hc,.slice go gn gc]),.int .i64 node],.slice qo p.length qc] ww fun e w' => e=.returned (.tuple #[.int .i64 (wayI L ok T node p),.int .i64 (headI ok T (wayI L ok T node p)),.bool false,.int .i64 0])∧Same0 ww w'):=fun ww hk=>cask_any (hv.same hk) (hp.at'.same hk) hmx _ _ _ _ _ _ _ _ _ _ _ _ node
 have CO:Hid (∀ ww s,Same0 w ww→Calls Tryz.prog 159 #[.agg #[.slice io I.length ic,.slice po pl pc,.slice eo E.length ec,.slice ro rl rc,.iface 121 (.agg #[.slice ho hn hc,.slice go gn gc]),.int .i64 node],.int .i64 s,.int .i64 ((a:Int)+1)] ww fun e w' => e=.returned (.tuple #[.int .i64 ((caseF I s (a+1)).1:Int),.bool (caseF I s (a+1)).2])∧Same0 ww w'):=fun ww s hk=>ccase_any (hI.same hk) hl _ _ _ _ _ _ _ _ _ _ _ node s (a+1) (by omega)
 have CB:Hid (∀ ww n,Same0 w ww→Calls Tryz.prog 91 #[.agg #[.slice io I.length ic,.slice po pl pc,.slice eo E.length ec,.slice ro rl rc],.int .i64 n] ww fun e w' => e=.returned (.bool (hasB E n))∧Same0 ww w'):=fun ww n hk=>chas_any (hE.same hk) _ _ _ _ _ _ _ _ _ _ n
 have CC:Hid (∀ ww,Same0 w ww→Calls Tryz.prog 71 #[.slice qo p.length qc] ww fun e w' => ∃ zo zc,e=.returned (.slice zo p.length zc)∧Hid (Row ww.heap.size w' (.slice zo p.length zc) p)∧Same0 ww w'):=fun ww hk=>by
  refine (cloneI_any (hp.same hk)).mono ?_
  rintro e w' ⟨v,rfl,hr,hk'⟩
  obtain ⟨zo,zc,rfl,_⟩:=hr.ints
  exact ⟨zo,zc,rfl,hr,hk'⟩
 have HI:Hid (∀ ww j (hj:j<I.length),Same0 w ww→∃ b off,io=some ⟨b,off,none⟩∧ww.cell? ⟨b,off+j * 3+2,none⟩=some (.int .i64 I[j].2.2)):=fun ww j hj hk=>by
  obtain ⟨b,off,e,_,_,_,h2⟩:=(hI.same hk).get hj
  exact ⟨b,off,e,h2⟩
 have C1:=CK.out W1 KW
 obtain ⟨x0,x1,x2,x3,x4,x5⟩:=BX.out W1 (Kept.refl _ _)
 have ai:(a:Int)<140737488355328:=by omega
 obtain ⟨nd,hnd⟩:∃ nd,wayI L ok T node p=nd:=⟨_,rfl⟩
 rw [hnd] at C1
 obtain ⟨s,hs⟩:∃ s,headI ok T nd=s:=⟨_,rfl⟩
 rw [hs] at C1
 obtain ⟨cle,cl2,clt⟩:=caseF_le (I:=I) (s:=s) (a:=a+1) (by omega)
 obtain ⟨j,has,hJ⟩:∃ j has,caseF I s (a+1)=(j,has):=⟨_,_,rfl⟩
 have C2:Hid (∀ ww,Same0 w ww→Calls Tryz.prog 159 #[.agg #[.slice io I.length ic,.slice po pl pc,.slice eo E.length ec,.slice ro rl rc,.iface 121 (.agg #[.slice ho hn hc,.slice go gn gc]),.int .i64 node],.int .i64 s,.int .i64 ((a:Int)+1)] ww fun e w' => e=.returned (.tuple #[.int .i64 (j:Int),.bool has])∧Same0 ww w'):=fun ww hk=>by
  have:=CO.out ww s hk
  rw [hJ] at this
  exact this
 have HF:Hid _:=lookF_of (E:=E) hnd hs hJ
 rw [hJ] at cle cl2 clt
 simp only at cle cl2 clt
 have j0:(0:Int)≤(j:Int):=by omega
 clear hJ CO CK hv hI hE hp hbx hfd hnd hs
 cases has with
 | true=>
  have hj:=clt rfl
  obtain ⟨ib,ioff,rfl,_⟩:=HI.out w j hj (Kept.refl _ _)
  have HC:Hid (∀ ww,Same0 w ww→ww.cell? ⟨ib,ioff+j * 3+2,none⟩=some (.int .i64 I[j].2.2)):=fun ww hk=>by
   obtain ⟨b', off', e,h2⟩:=HI.out ww j hj hk
   simp only [Option.some.injEq,Addr.mk.injEq,and_true] at e
   obtain ⟨rfl,rfl⟩:=e
   exact h2
  have eg:I.getD j (0,0,0)=I[j]:=by simp [hj]
  rw [if_pos rfl,eg] at HF
  have j1:(j:Int)<(I.length:Int):=by omega
  generalize I[j].2.2=z at *
  clear HI clt eg CB CC
  by_cases hz:z≤(j:Int)
  ·rw [if_pos hz] at HF
   rw [HF.out]
   clear HF
   go_enter Tryz.func131,Tryz.ntmps131
   go_upto_region 1 with fail
   rw [← hW1]
   clear hW1
   go_wp2_with (first
    | (go_at_call 158;refine C1.mono ?_;rintro e w2 ⟨rfl,k2⟩;have C3:=C2.out w2 (KW.trans' k2);obtain ⟨y0,y1,y2,y3,y4,y5⟩:=BX.out w2 k2)
    | (go_at_call 159;refine C3.mono ?_;rintro e w3 ⟨rfl,k3⟩;have k13:=k2.trans' k3;obtain ⟨z0,z1,z2,z3,z4,z5⟩:=BX.out w3 k13;have cz:=HC.out w3 (KW.trans' k13);obtain ⟨⟨r0,r1,r2,r3⟩,f0,f1,f2,f3⟩:=RC.out w3 k13))
   obtain ⟨⟨g0,g1,g2,g3⟩,kk,ks⟩:=PUT.out w3 (.int .i64 0) (.int .i64 0) (.slice none 0 0) (.int .i64 0) k13
   exact bodyPost_ret (v:=.tuple #[.agg #[.int .i64 0,.int .i64 0,.slice none 0 0,.int .i64 0],.int .i64 0,.int .i64 92]) (by simp [results,Tryz.results131,go_sem,g0,g1,g2,g3]) rfl ⟨none,0,rfl,World.ownsRow_nil _ _ _ _,ks⟩
  ·rw [if_neg hz] at HF
   rw [HF.out]
   have hzd:decide (z≤(j:Int))=false:=by simpa using hz
   clear HF hz
   go_enter Tryz.func131,Tryz.ntmps131
   go_upto_region 1 with fail
   rw [← hW1]
   clear hW1
   go_upto_region 5 with (first
    | (go_at_call 158;refine C1.mono ?_;rintro e w2 ⟨rfl,k2⟩;have C3:=C2.out w2 (KW.trans' k2);obtain ⟨y0,y1,y2,y3,y4,y5⟩:=BX.out w2 k2)
    | (go_at_call 159;refine C3.mono ?_;rintro e w3 ⟨rfl,k3⟩;have k13:=k2.trans' k3;obtain ⟨z0,z1,z2,z3,z4,z5⟩:=BX.out w3 k13;have cz:=HC.out w3 (KW.trans' k13);obtain ⟨⟨r0,r1,r2,r3⟩,f0,f1,f2,f3⟩:=RC.out w3 k13))
   go_upto_region 7 with fail
   go_upto_region 8 with fail
   have PH:Hid _:=PUT.out w3 (.int .i64 0) (.int .i64 0) (.slice none 0 0) (.int .i64 0) k13
   have S0:w3.cell? ⟨w.heap.size,0,none⟩=some (.slice (some ⟨ib,ioff,none⟩) I.length ic)∧w3.cell? ⟨ib,ioff+j * 3+2,none⟩=some (.int .i64 z):=⟨z0,cz⟩
   have S1:Hid ((((((w3.setCell ⟨w.heap.size+1,0,none⟩ (.int .i64 0)).setCell ⟨w.heap.size+1,1,none⟩ (.int .i64 0)).setCell ⟨w.heap.size+1,2,none⟩ (.slice none 0 0)).setCell ⟨w.heap.size+1,3,none⟩ (.int .i64 0))).cell? ⟨w.heap.size,0,none⟩=some (.slice (some ⟨ib,ioff,none⟩) I.length ic)∧(((((w3.setCell ⟨w.heap.size+1,0,none⟩ (.int .i64 0)).setCell ⟨w.heap.size+1,1,none⟩ (.int .i64 0)).setCell ⟨w.heap.size+1,2,none⟩ (.slice none 0 0)).setCell ⟨w.heap.size+1,3,none⟩ (.int .i64 0))).cell? ⟨ib,ioff+j * 3+2,none⟩=some (.int .i64 z)):=by
    obtain ⟨_,kk,_⟩:=PH.out
    have hib:ib<w.heap.size:=World.block_lt_of_cell? w _ (HC.out w (Kept.refl _ _))
    exact ⟨(kk.cell (p:=⟨w.heap.size,0,none⟩) (World.block_lt_of_cell? _ _ z0) (fun e=>by have e' : w.heap.size=w.heap.size+1:=e;omega)).trans z0,(kk.cell (p:=⟨ib,ioff+j * 3+2,none⟩) (World.block_lt_of_cell? _ _ cz) (fun e=>by have e' : ib=w.heap.size+1:=e;omega)).trans cz⟩
   clear y0 y1 y2 y3 y4 y5 z0 z1 z2 z3 z4 z5 cz
   go_region_held3 (fun w' => w'.cell? ⟨w.heap.size,0,none⟩=some (.slice (some ⟨ib,ioff,none⟩) I.length ic)∧w'.cell? ⟨ib,ioff+j * 3+2,none⟩=some (.int .i64 z)) (first | exact S0 | exact S1.out) (fail)
   all_goals
    go_wp2_with fail
    obtain ⟨⟨g0,g1,g2,g3⟩,kk,ks⟩:=PH.out
    exact bodyPost_ret (v:=.tuple #[.agg #[.int .i64 0,.int .i64 0,.slice none 0 0,.int .i64 0],.int .i64 z,.int .i64 0]) (by simp [results,Tryz.results131,go_sem,g0,g1,g2,g3]) rfl ⟨rfl,Kept.drew ks⟩
 | false=>
  have CB2:Hid (∀ ww,Same0 w ww→Calls Tryz.prog 91 #[.agg #[.slice io I.length ic,.slice po pl pc,.slice eo E.length ec,.slice ro rl rc],.int .i64 s] ww fun e w' => e=.returned (.bool (hasB E s))∧Same0 ww w'):=fun ww hk=>CB.out ww s hk
  rw [if_neg (by simp)] at HF
  clear HI clt CB
  cases hb:hasB E s with
  | true=>
   rw [hb] at CB2
   rw [if_pos hb] at HF
   rw [HF.out]
   clear HF hb
   go_enter Tryz.func131,Tryz.ntmps131
   go_upto_region 1 with fail
   rw [← hW1]
   clear hW1
   go_wp2_with (first
    | (go_at_call 158;refine C1.mono ?_;rintro e w2 ⟨rfl,k2⟩;have C3:=C2.out w2 (KW.trans' k2);obtain ⟨y0,y1,y2,y3,y4,y5⟩:=BX.out w2 k2)
    | (go_at_call 159;refine C3.mono ?_;rintro e w3 ⟨rfl,k3⟩;have k13:=k2.trans' k3;obtain ⟨z0,z1,z2,z3,z4,z5⟩:=BX.out w3 k13;have C4:=CB2.out w3 (KW.trans' k13))
    | (go_at_call 91;refine C4.mono ?_;rintro e w4 ⟨rfl,k4⟩;have k14:=k13.trans' k4;have C5:=CC.out w4 (KW.trans' k14))
    | (go_at_call 71;refine C5.mono ?_;rintro e w5 ⟨zo,zc,rfl,hr,k5⟩;have k15:=k14.trans' k5;obtain ⟨⟨r0,r1,r2,r3⟩,f0,f1,f2,f3⟩:=RC.out w5 k15))
   obtain ⟨⟨g0,g1,g2,g3⟩,kk,ks⟩:=PUT.out w5 (.int .i64 3) (.int .i64 0) (.slice zo p.length zc) (.int .i64 nd) k15
   have z5:=(KW.trans' k14).size
   have zz:=k14.size
   have zW:w.heap.size+1<W1.heap.size:=by
    obtain ⟨⟨q0,_⟩,_⟩:=RC.out W1 (Kept.refl _ _)
    exact World.block_lt_of_cell? _ _ q0
   refine bodyPost_ret (v:=.tuple #[.agg #[.int .i64 3,.int .i64 0,.slice zo p.length zc,.int .i64 nd],.int .i64 0,.int .i64 0]) (by simp [results,Tryz.results131,go_sem,g0,g1,g2,g3]) rfl ⟨zo,zc,rfl,?_,ks⟩
   have hr2:=kk.row hr.out (fun k e q=>by
    rcases hr.out.2 with ⟨e1,_⟩ | ⟨g,_,_,e1,e2,_⟩
    ·rw [e1] at e;simp [Value.ownBlock] at e
    ·rw [e1] at e;simp only [Value.ownBlock,Option.some.injEq] at e;omega)
   exact row_mono hr2 z5
  | false=>
   rw [hb] at CB2
   rw [if_neg (by rw [hb];simp)] at HF
   rw [HF.out]
   clear HF hb CC
   go_enter Tryz.func131,Tryz.ntmps131
   go_upto_region 1 with fail
   rw [← hW1]
   clear hW1
   go_wp2_with (first
    | (go_at_call 158;refine C1.mono ?_;rintro e w2 ⟨rfl,k2⟩;have C3:=C2.out w2 (KW.trans' k2);obtain ⟨y0,y1,y2,y3,y4,y5⟩:=BX.out w2 k2)
    | (go_at_call 159;refine C3.mono ?_;rintro e w3 ⟨rfl,k3⟩;have k13:=k2.trans' k3;obtain ⟨z0,z1,z2,z3,z4,z5⟩:=BX.out w3 k13;have C4:=CB2.out w3 (KW.trans' k13))
    | (go_at_call 91;refine C4.mono ?_;rintro e w4 ⟨rfl,k4⟩;have k14:=k13.trans' k4;obtain ⟨⟨r0,r1,r2,r3⟩,f0,f1,f2,f3⟩:=RC.out w4 k14))
   obtain ⟨⟨g0,g1,g2,g3⟩,kk,ks⟩:=PUT.out w4 (.int .i64 0) (.int .i64 0) (.slice none 0 0) (.int .i64 0) k14
   exact bodyPost_ret (v:=.tuple #[.agg #[.int .i64 0,.int .i64 0,.slice none 0 0,.int .i64 0],.int .i64 (j:Int),.int .i64 0]) (by simp [results,Tryz.results131,go_sem,g0,g1,g2,g3]) rfl ⟨rfl,ks⟩
theorem lookF_inl {L:List Sym} {ok:Bool} {T:List Int} {I:List I3} {E:List Int} {node:Int} {a:Nat} {p:List Int} {R:R5} (h:lookF L ok T I E node a p=.inl R):R=bad5∨∃ nd,R=(3,0,p,nd,0):=by
 unfold lookF at h
 split at h
 ·split at h
  ·cases h;exact .inl rfl
  ·cases h
 ·split at h
  ·cases h;exact .inr ⟨_,rfl⟩
  ·cases h
def LKR (w w' : World) (res:R5 ⊕ Int) (k r:Int) (zo:Option Addr) (zl zc:Nat) (nd z err:Int):Prop:=
 match res with
 | .inl R=>k=R.1∧r=R.2.1∧zl=R.2.2.1.length∧nd=R.2.2.2.1∧z=0∧err=R.2.2.2.2∧Row w.heap.size w' (.slice zo zl zc) R.2.2.1
 | .inr x=>k=0∧r=0∧zo=none∧zl=0∧zc=0∧nd=0∧z=x∧err=0
theorem LKR.up {w ww w' w'' : World} {res:R5 ⊕ Int} {k r:Int} {zo:Option Addr} {zl zc:Nat} {nd z err:Int} (h:LKR ww w' res k r zo zl zc nd z err) (_:Same0 ww w') (hk:Same0 w' w'') (hw:w.heap.size≤ww.heap.size):LKR w w'' res k r zo zl zc nd z err:=by
 cases res with
 | inl R=>
  obtain ⟨a,b,c,d,e,f,g⟩:=h
  exact ⟨a,b,c,d,e,f,row_mono (hk.row g (fun _ _ f=>f)) hw⟩
 | inr x=>exact h
theorem LKR.put {w w' : World} {o:Obj} {res:R5 ⊕ Int} {k r:Int} {zo:Option Addr} {zl zc:Nat} {nd z err:Int} (h:LKR (w.drew.alloc o) w' res k r zo zl zc nd z err) (x0 x1 x2 x3:Value):LKR w ((((w'.setCell ⟨w.heap.size,0,none⟩ x0).setCell ⟨w.heap.size,1,none⟩ x1).setCell ⟨w.heap.size,2,none⟩ x2).setCell ⟨w.heap.size,3,none⟩ x3) res k r zo zl zc nd z err:=by
 cases res with
 | inl R=>
  obtain ⟨a,b,c,d,e,f,g⟩:=h
  have k1:=kept_at w' w.heap.size 0 x0
  have k2:=Kept.trans k1 (kept_at _ w.heap.size 1 x1) (fun _ _ e=>e)
  have k3:=Kept.trans k2 (kept_at _ w.heap.size 2 x2) (fun _ _ e=>e)
  have k4:=Kept.trans k3 (kept_at _ w.heap.size 3 x3) (fun _ _ e=>e)
  have hz:(w.drew.alloc o).heap.size=w.heap.size+1:=by simp
  refine ⟨a,b,c,d,e,f,row_mono (k4.row g (fun q e1 e2=>?_)) (by omega)⟩
  rcases g.2 with ⟨e3,_⟩ | ⟨g', _,_,e3,e4,_⟩
  ·rw [e3] at e1;simp [Value.ownBlock] at e1
  ·rw [e3] at e1;simp only [Value.ownBlock,Option.some.injEq] at e1;omega
 | inr x=>exact h
theorem row_base {base:Nat} {w:World} {v:Value} {xs:List Int} (h:Row base w v xs) {q:Nat} (e:v.ownBlock=some q):base≤q:=by
 rcases h.2 with ⟨q3,_⟩ | ⟨g', _,_,q3,q4,_⟩
 ·rw [q3] at e;simp [Value.ownBlock] at e
 ·rw [q3] at e;simp only [Value.ownBlock,Option.some.injEq] at e;omega
theorem runF_out {L:List Sym} {ok:Bool} {T:List Int} {I:List I3} {P:List (List Int)} {E:List Int} {node:Int} {f a:Nat} (h:I.length≤a):runF L ok T I P E node f a=bad5:=by
 cases f with
 | zero=>rfl
 | succ f=>rw [runF,List.getElem?_eq_none h]
theorem runF_in {L:List Sym} {ok:Bool} {T:List Int} {I:List I3} {P:List (List Int)} {E:List Int} {node:Int} {f a:Nat} (h:a<I.length):runF L ok T I P E node (f+1) a=if I[a].1=4 then (1,I[a].2.1,[],0,0) else if I[a].1=3 then (2,0,[],0,0) else if I[a].1=1∧idxB I[a].2.1 P.length=true then (match lookF L ok T I E node a (P.getD I[a].2.1.toNat []) with | .inl r=>r | .inr z=>runF L ok T I P E node f z.toNat) else bad5:=by
 rw [runF,List.getElem?_eq_getElem h] <;> rfl
set_option maxHeartbeats 32000000 in
theorem from_any {base:Nat} {w:World} {L:List Sym} {ok:Bool} {T:List Int} {ho:Option Addr} {hn hc:Nat} {go:Option Addr} {gn gc:Nat} (hv:VwAt base w L ok T (.agg #[.slice ho hn hc,.slice go gn gc])) {io:Option Addr} {I:List I3} (hI:InsAt w io I) (hl:I.length≤140737488355328) {po:Option Addr} {P:List (List Int)} (hP:PthAt w po P) {eo:Option Addr} {E:List Int} (hE:IntsAt w eo E) (ic pc ec:Nat) (ro:Option Addr) (rl rc:Nat) (node:Int) (a0:Nat) :
  Calls Tryz.prog 92 #[.agg #[.slice io I.length ic,.slice po P.length pc,.slice eo E.length ec,.slice ro rl rc,.iface 121 (.agg #[.slice ho hn hc,.slice go gn gc]),.int .i64 node],.int .i64 (a0:Int)] w (FndOut w (runF L ok T I P E node (I.length+1) a0)):=by
 obtain ⟨R,hR⟩:∃ R,R=runF L ok T I P E node (I.length+1) a0:=⟨_,rfl⟩
 have HR:Hid (R=runF L ok T I P E node (I.length+1) a0):=hR
 rw [← hR]
 clear hR
 obtain ⟨W1,hW1⟩:∃ W1,W1=(w.alloc (.cells #[.slice io I.length ic,.slice po P.length pc,.slice eo E.length ec,.slice ro rl rc,.iface 121 (.agg #[.slice ho hn hc,.slice go gn gc]),.int .i64 node] 180)).alloc (.cells #[.int .i64 0,.int .i64 0,.slice none 0 0,.int .i64 0] 85):=⟨_,rfl⟩
 have KW:Same0 w W1:=by rw [hW1];exact ((Kept.refl _ w).alloc _).alloc _
 have hbx:W1.heap[w.heap.size]? = some (.cells #[.slice io I.length ic,.slice po P.length pc,.slice eo E.length ec,.slice ro rl rc,.iface 121 (.agg #[.slice ho hn hc,.slice go gn gc]),.int .i64 node] 180 (0,0)):=by rw [hW1];exact heap_alloc2_old _ _ _
 have hfd:W1.heap[w.heap.size+1]? = some (.cells #[.int .i64 0,.int .i64 0,.slice none 0 0,.int .i64 0] 85 (0,0)):=by rw [hW1];exact heap_al_al _ _ _
 have zW:w.heap.size+1<W1.heap.size:=lt_of_at hfd
 have BX:Hid (∀ ww,Same0 W1 ww→ww.cell? ⟨w.heap.size,0,none⟩=some (.slice io I.length ic)∧ww.cell? ⟨w.heap.size,1,none⟩=some (.slice po P.length pc)∧ww.cell? ⟨w.heap.size,2,none⟩=some (.slice eo E.length ec)∧ww.cell? ⟨w.heap.size,3,none⟩=some (.slice ro rl rc)∧ww.cell? ⟨w.heap.size,4,none⟩=some (.iface 121 (.agg #[.slice ho hn hc,.slice go gn gc]))∧ww.cell? ⟨w.heap.size,5,none⟩=some (.int .i64 node)):=fun ww hk=>by
  have:=hk.at0 hbx
  exact ⟨cellAt this 0,cellAt this 1,cellAt this 2,cellAt this 3,cellAt this 4,cellAt this 5⟩
 have RC:Hid (∀ ww,Same0 W1 ww→(ww.cell? ⟨w.heap.size+1,0,none⟩=some (.int .i64 0)∧ww.cell? ⟨w.heap.size+1,1,none⟩=some (.int .i64 0)∧ww.cell? ⟨w.heap.size+1,2,none⟩=some (.slice none 0 0)∧ww.cell? ⟨w.heap.size+1,3,none⟩=some (.int .i64 0))∧ww.frozen? ⟨w.heap.size+1,0,none⟩=false∧ww.frozen? ⟨w.heap.size+1,1,none⟩=false∧ww.frozen? ⟨w.heap.size+1,2,none⟩=false∧ww.frozen? ⟨w.heap.size+1,3,none⟩=false):=fun ww hk=>by
  have:=hk.at0 hfd
  exact ⟨⟨cellAt this 0,cellAt this 1,cellAt this 2,cellAt this 3⟩,frozenAt this 0,frozenAt this 1,frozenAt this 2,frozenAt this 3⟩
 have PUT:Hid (∀ ww x0 x1 x2 x3,Same0 W1 ww→(((((ww.setCell ⟨w.heap.size+1,0,none⟩ x0).setCell ⟨w.heap.size+1,1,none⟩ x1).setCell ⟨w.heap.size+1,2,none⟩ x2).setCell ⟨w.heap.size+1,3,none⟩ x3).cell? ⟨w.heap.size+1,0,none⟩=some x0∧((((ww.setCell ⟨w.heap.size+1,0,none⟩ x0).setCell ⟨w.heap.size+1,1,none⟩ x1).setCell ⟨w.heap.size+1,2,none⟩ x2).setCell ⟨w.heap.size+1,3,none⟩ x3).cell? ⟨w.heap.size+1,1,none⟩=some x1∧((((ww.setCell ⟨w.heap.size+1,0,none⟩ x0).setCell ⟨w.heap.size+1,1,none⟩ x1).setCell ⟨w.heap.size+1,2,none⟩ x2).setCell ⟨w.heap.size+1,3,none⟩ x3).cell? ⟨w.heap.size+1,2,none⟩=some x2∧((((ww.setCell ⟨w.heap.size+1,0,none⟩ x0).setCell ⟨w.heap.size+1,1,none⟩ x1).setCell ⟨w.heap.size+1,2,none⟩ x2).setCell ⟨w.heap.size+1,3,none⟩ x3).cell? ⟨w.heap.size+1,3,none⟩=some x3)∧Kept (fun q=>q=w.heap.size+1) ww ((((ww.setCell ⟨w.heap.size+1,0,none⟩ x0).setCell ⟨w.heap.size+1,1,none⟩ x1).setCell ⟨w.heap.size+1,2,none⟩ x2).setCell ⟨w.heap.size+1,3,none⟩ x3)∧Same0 w ((((ww.setCell ⟨w.heap.size+1,0,none⟩ x0).setCell ⟨w.heap.size+1,1,none⟩ x1).setCell ⟨w.heap.size+1,2,none⟩ x2).setCell ⟨w.heap.size+1,3,none⟩ x3)):=by
  intro ww x0 x1 x2 x3 hk
  have rs:=hk.at0 hfd
  have s3:=setAt (setAt (setAt (setAt rs 0 x0) 1 x1) 2 x2) 3 x3
  have k1:=kept_at ww (w.heap.size+1) 0 x0
  have k2:=Kept.trans k1 (kept_at _ (w.heap.size+1) 1 x1) (fun _ _ e=>e)
  have k3:=Kept.trans k2 (kept_at _ (w.heap.size+1) 2 x2) (fun _ _ e=>e)
  have k4:=Kept.trans k3 (kept_at _ (w.heap.size+1) 3 x3) (fun _ _ e=>e)
  exact ⟨⟨cellAt s3 0,cellAt s3 1,cellAt s3 2,cellAt s3 3⟩,k4,Kept.trans (KW.trans' hk) k4 (fun i hi e=>by omega)⟩
 have CLK:Hid (∀ ww a qo qc (p:List Int),Same0 w ww→a<I.length→Arg ww qo p qc→Calls Tryz.prog 131 #[.agg #[.slice io I.length ic,.slice po P.length pc,.slice eo E.length ec,.slice ro rl rc,.iface 121 (.agg #[.slice ho hn hc,.slice go gn gc]),.int .i64 node],.int .i64 (a:Int),.slice qo p.length qc] ww (LookOut ww (lookF L ok T I E node a p))):=fun ww a qo qc p hk ha hp=>look_any (hv.same hk) (hI.same hk) hl (hE.same hk) hp _ _ _ _ _ _ _ _ node a ha
 have HI:Hid (∀ ww j (hj:j<I.length),Same0 w ww→∃ b off,io=some ⟨b,off,none⟩∧ww.cell? ⟨b,off+j * 3,none⟩=some (.int .i64 I[j].1)∧ww.cell? ⟨b,off+j * 3+1,none⟩=some (.int .i64 I[j].2.1)∧ww.cell? ⟨b,off+j * 3+2,none⟩=some (.int .i64 I[j].2.2)):=fun ww j hj hk=>by
  obtain ⟨b,off,e,_,h0,h1,h2⟩:=(hI.same hk).get hj
  exact ⟨b,off,e,h0,h1,h2⟩
 have HPT:Hid (∀ ww j (hj:j<P.length),Same0 w ww→∃ b off ao ac,po=some ⟨b,off,none⟩∧ww.cell? ⟨b,off+j,none⟩=some (.slice ao P[j].length ac)∧Arg ww ao P[j] ac):=fun ww j hj hk=>by
  obtain ⟨b,off,ao,ac,e,_,h0,h1⟩:=(hP.same hk).get hj
  exact ⟨b,off,ao,ac,e,h0,h1⟩
 have RET:Hid (∀ ww k r err,Same0 w ww→R=(k,r,[],0,err)→FndOut w R (.returned (.tuple #[.agg #[.int .i64 k,.int .i64 r,.slice none 0 0,.int .i64 0],.int .i64 err])) ww):=fun ww k r err hk e=>by
  rw [e]
  exact ⟨none,0,rfl,World.ownsRow_nil _ _ _ _,hk⟩
 obtain ⟨x0,x1,x2,x3,x4,x5⟩:=BX.out W1 (Kept.refl _ _)
 clear hv hI hP hE hbx hfd
 go_enter Tryz.func92,Tryz.ntmps92
 go_upto_region 1 with fail
 rw [← hW1]
 clear hW1
 go_loopw [1] (fun s1 wr=>∃ a f:Nat,s1=.int .i64 (a:Int)∧Hid (I.length<a+(f+1)∧R=runF L ok T I P E node (f+1) a)∧Same0 W1 wr) (fun s1 _=>I.length-(intOf s1).toNat)
 case atStart=>exact ⟨a0,I.length,rfl,⟨by omega,HR.out⟩,Kept.refl _ _⟩
 case round=>
  clear x0 x1 x2 x3 x4 x5 HR
  obtain ⟨a,f,rfl,hF,hK⟩:=hrel
  obtain ⟨x0,x1,x2,x3,x4,x5⟩:=BX.out wr hK
  obtain ⟨⟨r0,r1,r2,r3⟩,f0,f1,f2,f3⟩:=RC.out wr hK
  by_cases hlt:a<I.length
  ·obtain ⟨b,off,rfl,c0,c1,c2⟩:=HI.out wr a hlt (KW.trans' hK)
   have i1:(0:Int)≤(a:Int):=by omega
   have i2:(a:Int)<(I.length:Int):=by omega
   obtain ⟨hf1,hf2⟩:=hF.out
   rw [runF_in hlt] at hf2
   obtain ⟨wi,hwi⟩:∃ wi,wi=wr.alloc (.cells #[.int .i64 I[a].1,.int .i64 I[a].2.1,.int .i64 I[a].2.2] 117):=⟨_,rfl⟩
   have ki:Same0 wr wi:=by rw [hwi];exact (Kept.refl _ _).alloc _
   have bi:wi.heap[wr.heap.size]? = some (.cells #[.int .i64 I[a].1,.int .i64 I[a].2.1,.int .i64 I[a].2.2] 117 (0,0)):=by rw [hwi];exact heap_alloc_new _ _
   have y0:=cellAt bi 0
   have y1:=cellAt bi 1
   have y2:=cellAt bi 2
   simp only [List.getElem?_toArray,List.getElem?_cons_zero,List.getElem?_cons_succ] at y0 y1 y2
   have hKi:=hK.trans' ki
   obtain ⟨v0,v1,v2,v3,v4,v5⟩:=BX.out wi hKi
   obtain ⟨⟨s0,s1,s2,s3⟩,g0,g1,g2,g3⟩:=RC.out wi hKi
   by_cases h4:I[a].1=4
   ·rw [if_pos h4] at hf2
    rw [h4] at c0 y0 hwi
    have PH:Hid _:=PUT.out wi (.int .i64 1) (.int .i64 I[a].2.1) (.slice none 0 0) (.int .i64 0) hKi
    have FR:Hid (R=(1,I[a].2.1,[],0,0)):=hf2
    generalize I[a].2.1=z at *
    clear hf1 hf2 hF HI HPT CLK h4
    go_upto_region 3 with fail
    rw [← hwi]
    clear hwi
    go_wp2_with fail
    obtain ⟨⟨q0,q1,q2,q3⟩,kk,ks⟩:=PH.out
    exact bodyPost_ret (v:=.tuple #[.agg #[.int .i64 1,.int .i64 z,.slice none 0 0,.int .i64 0],.int .i64 0]) (by simp [results,Tryz.results92,go_sem,q0,q1,q2,q3]) rfl (RET.out _ _ _ _ ks FR.out)
   ·rw [if_neg h4] at hf2
    by_cases h3:I[a].1=3
    ·rw [if_pos h3] at hf2
     rw [h3] at c0 y0 hwi
     have PH:Hid _:=PUT.out wi (.int .i64 2) (.int .i64 0) (.slice none 0 0) (.int .i64 0) hKi
     have FR:Hid (R=(2,0,[],0,0)):=hf2
     clear hf1 hf2 hF HI HPT CLK h4 h3
     go_upto_region 3 with fail
     rw [← hwi]
     clear hwi
     go_wp2_with fail
     obtain ⟨⟨q0,q1,q2,q3⟩,kk,ks⟩:=PH.out
     exact bodyPost_ret (v:=.tuple #[.agg #[.int .i64 2,.int .i64 0,.slice none 0 0,.int .i64 0],.int .i64 0]) (by simp [results,Tryz.results92,go_sem,q0,q1,q2,q3]) rfl (RET.out _ _ _ _ ks FR.out)
    ·rw [if_neg h3] at hf2
     have PH:Hid _:=PUT.out wi (.int .i64 0) (.int .i64 0) (.slice none 0 0) (.int .i64 0) hKi
     by_cases h1:I[a].1=1
     ·have CI:=isIndex_any I[a].2.1 P.length wi
      cases hix:idxB I[a].2.1 P.length with
      | false=>
       rw [hix] at CI
       rw [if_neg (by rw [hix];simp)] at hf2
       rw [h1] at c0 y0 hwi
       have FR:Hid (R=(0,0,[],0,92)):=hf2
       clear hf1 hf2 hF HI HPT CLK h4 h3 h1 hix
       generalize I[a].2.1=z at *
       go_upto_region 3 with fail
       rw [← hwi]
       clear hwi
       go_wp2_with (first | (go_at_call 56;refine CI.mono ?_;rintro e w2 ⟨rfl,rfl⟩))
       obtain ⟨⟨q0,q1,q2,q3⟩,kk,ks⟩:=PH.out
       exact bodyPost_ret (v:=.tuple #[.agg #[.int .i64 0,.int .i64 0,.slice none 0 0,.int .i64 0],.int .i64 92]) (by simp [results,Tryz.results92,go_sem,q0,q1,q2,q3]) rfl (RET.out _ _ _ _ ks FR.out)
      | true=>
       rw [hix] at CI
       rw [if_pos ⟨h1,hix⟩] at hf2
       obtain ⟨q,hq,hql⟩:=idx_yes hix
       have eg:P.getD I[a].2.1.toNat []=P[q]:=by rw [hq,Int.toNat_natCast];simp [hql]
       rw [eg] at hf2
       rw [h1] at c0 y0 hwi
       rw [hq] at c1 y1 hwi CI
       obtain ⟨pb,poff,qo,qc,rfl,p0,hA⟩:=HPT.out wi q hql (KW.trans' hKi)
       have HS:Hid (∀ ww,Same0 wi ww→ww.cell? ⟨w.heap.size,0,none⟩=some (.slice (some ⟨b,off,none⟩) I.length ic)∧ww.cell? ⟨w.heap.size,1,none⟩=some (.slice (some ⟨pb,poff,none⟩) P.length pc)∧ww.cell? ⟨w.heap.size,2,none⟩=some (.slice eo E.length ec)∧ww.cell? ⟨w.heap.size,3,none⟩=some (.slice ro rl rc)∧ww.cell? ⟨w.heap.size,4,none⟩=some (.iface 121 (.agg #[.slice ho hn hc,.slice go gn gc]))∧ww.cell? ⟨w.heap.size,5,none⟩=some (.int .i64 node)∧ww.cell? ⟨wr.heap.size,1,none⟩=some (.int .i64 (q:Int))∧ww.cell? ⟨pb,poff+q,none⟩=some (.slice qo P[q].length qc)):=fun ww hk=>by
        obtain ⟨t0,t1,t2,t3,t4,t5⟩:=BX.out ww (hKi.trans' hk)
        exact ⟨t0,t1,t2,t3,t4,t5,(hk.cell (p:=⟨wr.heap.size,1,none⟩) (lt_of_at bi) (fun f=>f)).trans y1,(hk.cell (p:=⟨pb,poff+q,none⟩) (World.block_lt_of_cell? _ _ p0) (fun f=>f)).trans p0⟩
       have CL:Hid (∀ ww,Same0 wi ww→Calls Tryz.prog 131 #[.agg #[.slice (some ⟨b,off,none⟩) I.length ic,.slice (some ⟨pb,poff,none⟩) P.length pc,.slice eo E.length ec,.slice ro rl rc,.iface 121 (.agg #[.slice ho hn hc,.slice go gn gc]),.int .i64 node],.int .i64 (a:Int),.slice qo P[q].length qc] ww (LookOut ww (lookF L ok T I E node a P[q]))):=fun ww hk=>CLK.out ww a qo qc P[q] ((KW.trans' hKi).trans' hk) hlt (hA.same hk)
       have q1:(0:Int)≤(q:Int):=by omega
       have q2:(q:Int)<(P.length:Int):=by omega
       have W0:=HS.out wi (Kept.refl _ _)
       have kd:Same0 wi wi.drew:=Kept.drew (Kept.refl _ _)
       have HL:Hid (lookF L ok T I E node a P[q]=lookF L ok T I E node a P[q]):=rfl
       have HGT:Hid (∀ z,lookF L ok T I E node a P[q]=.inr z→(a:Int)<z):=fun z e=>lookF_gt hlt e
       have CL2:Hid (∀ ww,Same0 wi ww→Calls Tryz.prog 131 #[.agg #[.slice (some ⟨b,off,none⟩) I.length ic,.slice (some ⟨pb,poff,none⟩) P.length pc,.slice eo E.length ec,.slice ro rl rc,.iface 121 (.agg #[.slice ho hn hc,.slice go gn gc]),.int .i64 node],.int .i64 (a:Int),.slice qo P[q].length qc] ww fun e w' => ∃ k r zo zl zc nd z err,e=.returned (.tuple #[.agg #[.int .i64 k,.int .i64 r,.slice zo zl zc,.int .i64 nd],.int .i64 z,.int .i64 err])∧Hid (LKR ww w' (lookF L ok T I E node a P[q]) k r zo zl zc nd z err)∧Same0 ww w'):=fun ww hk=>by
        refine (CL.out ww hk).mono ?_
        intro e w' h
        cases hlk:lookF L ok T I E node a P[q] with
        | inl r=>
         rw [hlk] at h
         obtain ⟨zo,zc,rfl,g1,g2⟩:=h
         exact ⟨_,_,_,_,_,_,_,_,rfl,⟨rfl,rfl,rfl,rfl,rfl,rfl,g1⟩,g2⟩
        | inr z=>
         rw [hlk] at h
         obtain ⟨rfl,g2⟩:=h
         exact ⟨_,_,_,_,_,_,_,_,rfl,⟨rfl,rfl,rfl,rfl,rfl,rfl,rfl,rfl⟩,g2⟩
       have HIN:Hid (∀ r,lookF L ok T I E node a P[q]=.inl r→r=bad5∨∃ nd,r=(3,0,P[q],nd,0)):=fun r e=>lookF_inl e
       have NX:Hid (I.length<a+(f+1)∧R=match lookF L ok T I E node a P[q] with | .inl r=>r | .inr z=>runF L ok T I P E node f z.toNat):=⟨hf1,hf2⟩
       generalize lookF L ok T I E node a P[q]=res at *
       clear hf1 hf2 hF HI HPT CLK CL h4 h3 h1 hix eg hA HL
       generalize P[q]=pth at *
       generalize I[a].2.2=ib2 at *
       go_upto_region 3 with fail
       rw [← hwi]
       clear hwi
       go_upto_region 10 with (first | (go_at_call 56;refine CI.mono ?_;rintro e wj ⟨rfl,rfl⟩))
       go_cut [7,8,9] from 41 to 54 (fun s7 s8 s9 wc=>∃ g k r zo zl zc nd z err,s7=.pointer (some ⟨g,0,none⟩)∧s8=.int .i64 z∧s9=.int .i64 err∧wc.heap[g]? = some (.cells #[.int .i64 k,.int .i64 r,.slice zo zl zc,.int .i64 nd] 85 (0,0))∧LKR wj wc res k r zo zl zc nd z err∧Same0 wj wc)
       case first=>
        go_region_held3 (fun w' => w'.cell? ⟨w.heap.size,0,none⟩=some (.slice (some ⟨b,off,none⟩) I.length ic)∧w'.cell? ⟨w.heap.size,1,none⟩=some (.slice (some ⟨pb,poff,none⟩) P.length pc)∧w'.cell? ⟨w.heap.size,2,none⟩=some (.slice eo E.length ec)∧w'.cell? ⟨w.heap.size,3,none⟩=some (.slice ro rl rc)∧w'.cell? ⟨w.heap.size,4,none⟩=some (.iface 121 (.agg #[.slice ho hn hc,.slice go gn gc]))∧w'.cell? ⟨w.heap.size,5,none⟩=some (.int .i64 node)∧w'.cell? ⟨wr.heap.size,1,none⟩=some (.int .i64 (q:Int))∧w'.cell? ⟨pb,poff+q,none⟩=some (.slice qo pth.length qc)) (first | exact W0 | exact cc1 | exact HS.out _ (by first | assumption | exact Kept.alloc (by assumption) _ | exact Same0.own (Same0.own (Same0.own (Same0.own (by assumption) (Nat.le_refl _) _) (Nat.le_refl _) _) (Nat.le_refl _) _) (Nat.le_refl _) _)) (first
         | (go_at_call 131;refine (CL2.out _ (by first | exact kd | exact Kept.alloc kd _)).mono ?_;rintro e w4 ⟨k,r,zo,zl,zc,nd,z,err,rfl,hLK,k4⟩;have hk1:Same0 wj w4:=(by first | exact kd.trans' k4 | exact Same0.trans' (Kept.alloc kd _) k4);have cc1:=HS.out _ hk1;try (have zb:w4.heap[wj.heap.size]? = some (.cells #[.int .i64 0,.int .i64 0,.slice none 0 0,.int .i64 0] 85 (0,0)):=k4.at0 (heap_alloc_new wj.drew _);have zc0:w4.cell? ⟨wj.heap.size,0,none⟩=some (.int .i64 0):=cellAt zb 0;have zc1:w4.cell? ⟨wj.heap.size,1,none⟩=some (.int .i64 0):=cellAt zb 1;have zc2:w4.cell? ⟨wj.heap.size,2,none⟩=some (.slice none 0 0):=cellAt zb 2;have zc3:w4.cell? ⟨wj.heap.size,3,none⟩=some (.int .i64 0):=cellAt zb 3;have zf0:=frozenAt zb 0;have zf1:=frozenAt zb 1;have zf2:=frozenAt zb 2;have zf3:=frozenAt zb 3)))
        all_goals
         go_wp2_with fail
         go_meet
         case rel=>
          first
           | exact ⟨_,k,r,zo,zl,zc,nd,z,err,rfl,rfl,rfl,heap_alloc_new w4 _,LKR.up hLK.out k4 (Kept.alloc (Kept.refl _ _) _) (Nat.le_refl _),Kept.alloc hk1 _⟩
           | exact ⟨_,k,r,zo,zl,zc,nd,z,err,rfl,rfl,rfl,setAt (setAt (setAt (setAt zb 0 _) 1 _) 2 _) 3 _,LKR.put hLK.out _ _ _ _,Same0.own (Same0.own (Same0.own (Same0.own hk1 (Nat.le_refl _) _) (Nat.le_refl _) _) (Nat.le_refl _) _) (Nat.le_refl _) _⟩
       case rest=>
        obtain ⟨g,k,r,zo,zl,zc,nd,z,err,rfl,rfl,rfl,hg,hLK,kc⟩:=hcut
        clear CL2 HS W0 v0 v1 v2 v3 v4 v5 x0 x1 x2 x3 x4 x5 CI y0 y1 y2 c0 c1 c2 s0 s1 s2 s3 g0 g1 g2 g3 r0 r1 r2 r3 f0 f1 f2 f3 PH p0 bi
        have kWc:=hKi.trans' kc
        have hjz:=hKi.size
        obtain ⟨⟨r0,r1,r2,r3⟩,f0,f1,f2,f3⟩:=RC.out wc kWc
        have d0:=cellAt hg 0
        have d1:=cellAt hg 1
        have d2:=cellAt hg 2
        have d3:=cellAt hg 3
        simp only [List.getElem?_toArray,List.getElem?_cons_zero,List.getElem?_cons_succ] at d0 d1 d2 d3
        have PH:Hid _:=PUT.out wc (.int .i64 k) (.int .i64 r) (.slice zo zl zc) (.int .i64 nd) kWc
        cases res with
        | inr x=>
         obtain ⟨rfl,rfl,rfl,rfl,rfl,rfl,rfl,rfl⟩:=hLK
         have hgt:=HGT.out z rfl
         have M:Hid (I.length<z.toNat+(f+1)∧R=runF L ok T I P E node (f+1) z.toNat):=by
          obtain ⟨n1,n2⟩:=NX.out
          refine ⟨by omega,?_⟩
          rw [← runF_more f (f+1) z.toNat (by omega) (by omega)]
          exact n2
         have hzn:z=((z.toNat:Nat):Int):=by omega
         have HM:Hid (I.length-z.toNat<I.length-a):=by show _<_;omega
         clear NX HGT HIN hgt PH hg
         go_wp2_with fail
         go_roundw
         case rel=>first | exact ⟨z.toNat,f,by rw [← hzn],M,kWc⟩ | ((repeat apply Exists.intro);exact ⟨⟨z.toNat,f,by rw [← hzn],M,kWc⟩,rfl⟩)
         case measure=>simp only [intOf];rw [Int.toNat_natCast];exact HM.out
        | inl R' =>
         obtain ⟨e1,e2,e3,e4,e5,e6,e7⟩:=hLK
         have hR:R=R' := NX.out.2
         rcases HIN.out R' rfl with h5 | ⟨nd', h5⟩
         ·rw [h5] at e1 e2 e3 e4 e6 e7 hR
          simp only [bad5] at e1 e2 e3 e4 e6 e7
          subst e1;subst e2;subst e4;subst e5;subst e6
          have HB:Hid (FndOut w R (.returned (.tuple #[.agg #[.int .i64 0,.int .i64 0,.slice zo zl zc,.int .i64 0],.int .i64 92])) ((((wc.setCell ⟨w.heap.size+1,0,none⟩ (.int .i64 0)).setCell ⟨w.heap.size+1,1,none⟩ (.int .i64 0)).setCell ⟨w.heap.size+1,2,none⟩ (.slice zo zl zc)).setCell ⟨w.heap.size+1,3,none⟩ (.int .i64 0))):=by
           obtain ⟨_,kk,ks⟩:=PH.out
           rw [hR]
           subst e3
           refine ⟨zo,zc,rfl,row_mono (kk.row e7 (fun q q1 q2=>?_)) (by omega),ks⟩
           have:=row_base e7 q1
           omega
          clear NX HGT HIN hg e3 e7 hR h5
          go_wp2_with fail
          obtain ⟨⟨q0,q1,q2,q3⟩,kk,ks⟩:=PH.out
          exact bodyPost_ret (v:=.tuple #[.agg #[.int .i64 0,.int .i64 0,.slice zo zl zc,.int .i64 0],.int .i64 92]) (by simp [results,Tryz.results92,go_sem,q0,q1,q2,q3]) rfl HB.out
         ·rw [h5] at e1 e2 e3 e4 e6 e7 hR
          simp only at e1 e2 e3 e4 e6 e7
          subst e1;subst e2;subst e4;subst e5;subst e6
          have HB:Hid (FndOut w R (.returned (.tuple #[.agg #[.int .i64 3,.int .i64 0,.slice zo zl zc,.int .i64 nd],.int .i64 0])) ((((wc.setCell ⟨w.heap.size+1,0,none⟩ (.int .i64 3)).setCell ⟨w.heap.size+1,1,none⟩ (.int .i64 0)).setCell ⟨w.heap.size+1,2,none⟩ (.slice zo zl zc)).setCell ⟨w.heap.size+1,3,none⟩ (.int .i64 nd))):=by
           obtain ⟨_,kk,ks⟩:=PH.out
           rw [hR]
           subst e3
           refine ⟨zo,zc,rfl,row_mono (kk.row e7 (fun q q1 q2=>?_)) (by omega),ks⟩
           have:=row_base e7 q1
           omega
          clear NX HGT HIN hg e3 e7 hR h5
          go_wp2_with fail
          obtain ⟨⟨q0,q1,q2,q3⟩,kk,ks⟩:=PH.out
          exact bodyPost_ret (v:=.tuple #[.agg #[.int .i64 3,.int .i64 0,.slice zo zl zc,.int .i64 nd],.int .i64 0]) (by simp [results,Tryz.results92,go_sem,q0,q1,q2,q3]) rfl HB.out
     ·rw [if_neg (fun e=>h1 e.1)] at hf2
      have FR:Hid (R=(0,0,[],0,92)):=hf2
      have e4:(I[a].1 == 4)=false:=by simpa using h4
      have e3:(I[a].1 == 3)=false:=by simpa using h3
      have e1:(I[a].1 == 1)=false:=by simpa using h1
      clear hf1 hf2 hF HI HPT CLK h4 h3 h1
      generalize I[a].1=z at *
      go_upto_region 3 with fail
      rw [← hwi]
      clear hwi
      go_wp2_with fail
      obtain ⟨⟨q0,q1,q2,q3⟩,kk,ks⟩:=PH.out
      exact bodyPost_ret (v:=.tuple #[.agg #[.int .i64 0,.int .i64 0,.slice none 0 0,.int .i64 0],.int .i64 92]) (by simp [results,Tryz.results92,go_sem,q0,q1,q2,q3]) rfl (RET.out _ _ _ _ ks FR.out)
  ·have FR:Hid (R=(0,0,[],0,92)):=by
    obtain ⟨_,h2⟩:=hF.out
    rw [runF_out (by omega)] at h2
    exact h2
   have PH:Hid _:=PUT.out wr (.int .i64 0) (.int .i64 0) (.slice none 0 0) (.int .i64 0) hK
   clear hF HI HPT CLK
   go_wp2_with fail
   obtain ⟨⟨q0,q1,q2,q3⟩,kk,ks⟩:=PH.out
   exact bodyPost_ret (v:=.tuple #[.agg #[.int .i64 0,.int .i64 0,.slice none 0 0,.int .i64 0],.int .i64 92]) (by simp [results,Tryz.results92,go_sem,q0,q1,q2,q3]) rfl (RET.out _ _ _ _ ks FR.out)
theorem vw_nil (v:Value) (w:World):(binOp .eql 176 (.iface 121 v) .nilIface).run Tryz.prog w=.ok (.bool false) w:=by kernel_rfl
theorem vw_ptr (v u:Value) (w:World):(binOp .eql 176 (.iface 121 v) (.iface 177 u)).run Tryz.prog w=.ok (.bool false) w:=by kernel_rfl
set_option maxHeartbeats 16000000 in
theorem run_any {base:Nat} {w:World} {L:List Sym} {ok:Bool} {T:List Int} {ho:Option Addr} {hn hc:Nat} {go:Option Addr} {gn gc:Nat} (hv:VwAt base w L ok T (.agg #[.slice ho hn hc,.slice go gn gc])) {io:Option Addr} {I:List I3} (hI:InsAt w io I) (hl:I.length≤140737488355328) {po:Option Addr} {P:List (List Int)} (hP:PthAt w po P) {eo:Option Addr} {E:List Int} (hE:IntsAt w eo E) (ic pc ec:Nat) (ro:Option Addr) (rl rc:Nat) (n node:Int) :
  Calls Tryz.prog 47 #[.agg #[.slice io I.length ic,.slice po P.length pc,.slice eo E.length ec,.slice ro rl rc],.int .i64 n,.iface 121 (.agg #[.slice ho hn hc,.slice go gn gc]),.int .i64 node] w (FndOut w (codeF L ok T I P E n node)):=by
 have en:=vw_nil (.agg #[.slice ho hn hc,.slice go gn gc])
 have ep:=vw_ptr (.agg #[.slice ho hn hc,.slice go gn gc]) (.pointer none)
 obtain ⟨W1,hW1⟩:∃ W1,W1=(w.alloc (.cells #[.slice io I.length ic,.slice po P.length pc,.slice eo E.length ec,.slice ro rl rc] 51)).alloc (.cells #[.int .i64 0,.int .i64 0,.slice none 0 0,.int .i64 0] 85):=⟨_,rfl⟩
 have KW:Same0 w W1:=by rw [hW1];exact ((Kept.refl _ w).alloc _).alloc _
 have hbx:W1.heap[w.heap.size]? = some (.cells #[.slice io I.length ic,.slice po P.length pc,.slice eo E.length ec,.slice ro rl rc] 51 (0,0)):=by rw [hW1];exact heap_alloc2_old _ _ _
 have hfd:W1.heap[w.heap.size+1]? = some (.cells #[.int .i64 0,.int .i64 0,.slice none 0 0,.int .i64 0] 85 (0,0)):=by rw [hW1];exact heap_al_al _ _ _
 have zW:w.heap.size+1<W1.heap.size:=lt_of_at hfd
 have BX:Hid (∀ ww,Same0 W1 ww→ww.cell? ⟨w.heap.size,0,none⟩=some (.slice io I.length ic)∧ww.cell? ⟨w.heap.size,1,none⟩=some (.slice po P.length pc)∧ww.cell? ⟨w.heap.size,2,none⟩=some (.slice eo E.length ec)∧ww.cell? ⟨w.heap.size,3,none⟩=some (.slice ro rl rc)):=fun ww hk=>by
  have:=hk.at0 hbx
  exact ⟨cellAt this 0,cellAt this 1,cellAt this 2,cellAt this 3⟩
 have RC:Hid (∀ ww,Same0 W1 ww→(ww.cell? ⟨w.heap.size+1,0,none⟩=some (.int .i64 0)∧ww.cell? ⟨w.heap.size+1,1,none⟩=some (.int .i64 0)∧ww.cell? ⟨w.heap.size+1,2,none⟩=some (.slice none 0 0)∧ww.cell? ⟨w.heap.size+1,3,none⟩=some (.int .i64 0))∧ww.frozen? ⟨w.heap.size+1,0,none⟩=false∧ww.frozen? ⟨w.heap.size+1,1,none⟩=false∧ww.frozen? ⟨w.heap.size+1,2,none⟩=false∧ww.frozen? ⟨w.heap.size+1,3,none⟩=false):=fun ww hk=>by
  have:=hk.at0 hfd
  exact ⟨⟨cellAt this 0,cellAt this 1,cellAt this 2,cellAt this 3⟩,frozenAt this 0,frozenAt this 1,frozenAt this 2,frozenAt this 3⟩
 have PUT:Hid (∀ ww x0 x1 x2 x3,Same0 W1 ww→(((((ww.setCell ⟨w.heap.size+1,0,none⟩ x0).setCell ⟨w.heap.size+1,1,none⟩ x1).setCell ⟨w.heap.size+1,2,none⟩ x2).setCell ⟨w.heap.size+1,3,none⟩ x3).cell? ⟨w.heap.size+1,0,none⟩=some x0∧((((ww.setCell ⟨w.heap.size+1,0,none⟩ x0).setCell ⟨w.heap.size+1,1,none⟩ x1).setCell ⟨w.heap.size+1,2,none⟩ x2).setCell ⟨w.heap.size+1,3,none⟩ x3).cell? ⟨w.heap.size+1,1,none⟩=some x1∧((((ww.setCell ⟨w.heap.size+1,0,none⟩ x0).setCell ⟨w.heap.size+1,1,none⟩ x1).setCell ⟨w.heap.size+1,2,none⟩ x2).setCell ⟨w.heap.size+1,3,none⟩ x3).cell? ⟨w.heap.size+1,2,none⟩=some x2∧((((ww.setCell ⟨w.heap.size+1,0,none⟩ x0).setCell ⟨w.heap.size+1,1,none⟩ x1).setCell ⟨w.heap.size+1,2,none⟩ x2).setCell ⟨w.heap.size+1,3,none⟩ x3).cell? ⟨w.heap.size+1,3,none⟩=some x3)∧Kept (fun q=>q=w.heap.size+1) ww ((((ww.setCell ⟨w.heap.size+1,0,none⟩ x0).setCell ⟨w.heap.size+1,1,none⟩ x1).setCell ⟨w.heap.size+1,2,none⟩ x2).setCell ⟨w.heap.size+1,3,none⟩ x3)∧Same0 w ((((ww.setCell ⟨w.heap.size+1,0,none⟩ x0).setCell ⟨w.heap.size+1,1,none⟩ x1).setCell ⟨w.heap.size+1,2,none⟩ x2).setCell ⟨w.heap.size+1,3,none⟩ x3)):=by
  intro ww x0 x1 x2 x3 hk
  have rs:=hk.at0 hfd
  have s3:=setAt (setAt (setAt (setAt rs 0 x0) 1 x1) 2 x2) 3 x3
  have k1:=kept_at ww (w.heap.size+1) 0 x0
  have k2:=Kept.trans k1 (kept_at _ (w.heap.size+1) 1 x1) (fun _ _ e=>e)
  have k3:=Kept.trans k2 (kept_at _ (w.heap.size+1) 2 x2) (fun _ _ e=>e)
  have k4:=Kept.trans k3 (kept_at _ (w.heap.size+1) 3 x3) (fun _ _ e=>e)
  exact ⟨⟨cellAt s3 0,cellAt s3 1,cellAt s3 2,cellAt s3 3⟩,k4,Kept.trans (KW.trans' hk) k4 (fun i hi e=>by omega)⟩
 have CH:=chas_any (hE.same KW) io po ro I.length ic P.length pc ec rl rc n
 obtain ⟨x0,x1,x2,x3⟩:=BX.out W1 (Kept.refl _ _)
 cases hb:hasB E n with
 | false=>
  rw [hb] at CH
  have HR:Hid (codeF L ok T I P E n node=(0,0,[],0,90)):=by show _=_;rw [codeF,if_neg (by rw [hb];simp)]
  clear hv hI hP hE hbx hfd hb
  go_enter Tryz.func47,Tryz.ntmps47
  go_upto_region 1 with fail
  rw [← hW1]
  clear hW1
  go_wp2_with (first | (go_at_call 91;refine CH.mono ?_;rintro e w2 ⟨rfl,k2⟩;obtain ⟨⟨r0,r1,r2,r3⟩,f0,f1,f2,f3⟩:=RC.out w2 k2))
  obtain ⟨⟨q0,q1,q2,q3⟩,kk,ks⟩:=PUT.out w2 (.int .i64 0) (.int .i64 0) (.slice none 0 0) (.int .i64 0) k2
  refine bodyPost_ret (v:=.tuple #[.agg #[.int .i64 0,.int .i64 0,.slice none 0 0,.int .i64 0],.int .i64 90]) (by simp [results,Tryz.results47,go_sem,q0,q1,q2,q3]) rfl ?_
  rw [HR.out]
  exact ⟨none,0,rfl,World.ownsRow_nil _ _ _ _,ks⟩
 | true=>
  rw [hb] at CH
  have hb2:=hb
  unfold hasB at hb2
  simp only [Bool.and_eq_true,decide_eq_true_eq] at hb2
  obtain ⟨i,rfl,hil⟩:=idx_yes hb2.1
  have hei:E.getD ((i:Int)).toNat (-1)=E[i]:=by rw [Int.toNat_natCast];simp [hil]
  have h0:0≤E[i]:=by have:=hb2.2;rw [hei] at this;exact this
  obtain ⟨a0,ha0⟩:∃ a0:Nat,E[i]=(a0:Int):=⟨E[i].toNat,by omega⟩
  have HR:Hid (codeF L ok T I P E (i:Int) node=runF L ok T I P E node (I.length+1) a0):=by show _=_;rw [codeF,if_pos hb,hei,ha0,Int.toNat_natCast]
  obtain ⟨eb,eoff,rfl,heb,hec⟩:=hE.get hil
  rw [ha0] at hec
  have CF:Hid (∀ ww,Same0 w ww→Calls Tryz.prog 92 #[.agg #[.slice io I.length ic,.slice po P.length pc,.slice (some ⟨eb,eoff,none⟩) E.length ec,.slice ro rl rc,.iface 121 (.agg #[.slice ho hn hc,.slice go gn gc]),.int .i64 node],.int .i64 (a0:Int)] ww fun e w' => ∃ qk qr qo ql qc qn qe,e=.returned (.tuple #[.agg #[.int .i64 qk,.int .i64 qr,.slice qo ql qc,.int .i64 qn],.int .i64 qe])∧Hid (FndOut ww (runF L ok T I P E node (I.length+1) a0) (.returned (.tuple #[.agg #[.int .i64 qk,.int .i64 qr,.slice qo ql qc,.int .i64 qn],.int .i64 qe])) w')∧Same0 ww w'):=fun ww hk=>by
   refine (from_any (hv.same hk) (hI.same hk) hl (hP.same hk) (hE.same hk) ic pc ec ro rl rc node a0).mono ?_
   intro e w' h
   obtain ⟨qo,qc,rfl,h1,h2⟩:=h
   exact ⟨_,_,_,_,_,_,_,rfl,⟨qo,qc,rfl,h1,h2⟩,h2⟩
  have i1:(0:Int)≤(i:Int):=by omega
  have i2:(i:Int)<(E.length:Int):=by omega
  have HS:Hid (∀ ww,Same0 W1 ww→ww.cell? ⟨w.heap.size,0,none⟩=some (.slice io I.length ic)∧ww.cell? ⟨w.heap.size,1,none⟩=some (.slice po P.length pc)∧ww.cell? ⟨w.heap.size,2,none⟩=some (.slice (some ⟨eb,eoff,none⟩) E.length ec)∧ww.cell? ⟨w.heap.size,3,none⟩=some (.slice ro rl rc)∧ww.cell? ⟨eb,eoff+i,none⟩=some (.int .i64 (a0:Int))):=fun ww hk=>by
   obtain ⟨t0,t1,t2,t3⟩:=BX.out ww hk
   exact ⟨t0,t1,t2,t3,((KW.trans' hk).cell (p:=⟨eb,eoff+i,none⟩) heb (fun f=>f)).trans hec⟩
  clear hv hI hP hE hbx hfd hb hb2 hei h0 ha0
  go_enter Tryz.func47,Tryz.ntmps47
  go_upto_region 1 with fail
  rw [← hW1]
  clear hW1
  go_upto_region 5 with (first | (go_at_call 91;refine CH.mono ?_;rintro e w2 ⟨rfl,k2⟩))
  have C0:=HS.out w2 k2
  have kd:Same0 w2 w2.drew:=Kept.drew (Kept.refl _ _)
  go_region_held3 (fun w' => w'.cell? ⟨w.heap.size,0,none⟩=some (.slice io I.length ic)∧w'.cell? ⟨w.heap.size,1,none⟩=some (.slice po P.length pc)∧w'.cell? ⟨w.heap.size,2,none⟩=some (.slice (some ⟨eb,eoff,none⟩) E.length ec)∧w'.cell? ⟨w.heap.size,3,none⟩=some (.slice ro rl rc)∧w'.cell? ⟨eb,eoff+i,none⟩=some (.int .i64 (a0:Int))) (first | exact C0 | exact cc3 | exact cc4.out) (first
   | (go_at_call 92;refine (CF.out _ ((KW.trans' k2).trans' kd)).mono ?_;rintro e w3 ⟨qk,qr,qo,ql,qc,qn,qe,rfl,hF,k3⟩;have hk3:Same0 W1 w3:=(k2.trans' kd).trans' k3;have cc3:=HS.out w3 hk3;obtain ⟨⟨r0,r1,r2,r3⟩,f0,f1,f2,f3⟩:=RC.out w3 hk3;have PH:Hid _:=PUT.out w3 (.int .i64 qk) (.int .i64 qr) (.slice qo ql qc) (.int .i64 qn) hk3;have cc4:Hid _:=And.intro ((PH.out.2.1.cell (p:=⟨w.heap.size,0,none⟩) (World.block_lt_of_cell? _ _ cc3.1) (fun e=>(by have e' : w.heap.size=w.heap.size+1:=e;omega))).trans cc3.1) (And.intro ((PH.out.2.1.cell (p:=⟨w.heap.size,1,none⟩) (World.block_lt_of_cell? _ _ cc3.2.1) (fun e=>(by have e' : w.heap.size=w.heap.size+1:=e;omega))).trans cc3.2.1) (And.intro ((PH.out.2.1.cell (p:=⟨w.heap.size,2,none⟩) (World.block_lt_of_cell? _ _ cc3.2.2.1) (fun e=>(by have e' : w.heap.size=w.heap.size+1:=e;omega))).trans cc3.2.2.1) (And.intro ((PH.out.2.1.cell (p:=⟨w.heap.size,3,none⟩) (World.block_lt_of_cell? _ _ cc3.2.2.2.1) (fun e=>(by have e' : w.heap.size=w.heap.size+1:=e;omega))).trans cc3.2.2.2.1) ((PH.out.2.1.cell (p:=⟨eb,eoff+i,none⟩) (World.block_lt_of_cell? _ _ cc3.2.2.2.2) (fun e=>(by have e' : eb=w.heap.size+1:=e;omega))).trans cc3.2.2.2.2))))))
  all_goals
   go_wp2_with fail
   obtain ⟨⟨q0,q1,q2,q3⟩,kk,ks⟩:=PH.out
   refine bodyPost_ret (v:=.tuple #[.agg #[.int .i64 qk,.int .i64 qr,.slice qo ql qc,.int .i64 qn],.int .i64 qe]) (by simp [results,Tryz.results47,go_sem,q0,q1,q2,q3]) rfl ?_
   rw [HR.out]
   obtain ⟨zo,zc,e1,h1,h2⟩:=hF.out
   refine ⟨zo,zc,e1,row_mono (kk.row h1 (fun q e e2=>?_)) ?_,ks⟩
   ·have:=row_base h1 e
    have e3:q=w.heap.size+1:=e2
    have hz:=k2.size
    have hz2:w2.drew.heap.size=w2.heap.size:=rfl
    omega
   ·have hz:=(KW.trans' k2).size
    exact hz
def rulesF:(n:Nat)→Tr n→List Int
 | 0,_=>[]
 | n+1,(k,r,p,l)=>if k=1 then [r] else if k=2 then l.flatMap (fun x=>rulesF n x.2) else []
def SmK:(n:Nat)→Tr n→Prop
 | 0,_=>True
 | n+1,(k,r,p,l)=>l.length≤1000000000∧∀ i (h:i<l.length),SmK n l[i].2
structure RAt (w:World) (lb base:Nat) (lv:Value) (out:List Int):Prop where
 blk:w.heap[lb]? = some (.cells #[lv] 32 (0,0))
 row:Row base w lv out
abbrev T3:=Nat × Nat × Nat
def add3 (a b:T3):T3:=(a.1+b.1,a.2.1+b.2.1,a.2.2+b.2.2)
def sum3 {α:Type} (f:α→T3):List α→T3
 | []=>(0,0,0)
 | x :: r=>add3 (f x) (sum3 f r)
theorem sum3_append {α:Type} (f:α→T3):∀ (a b:List α),sum3 f (a++b)=add3 (sum3 f a) (sum3 f b)
 | [],b=>by simp [sum3,add3]
 | x :: r,b=>by
  rw [List.cons_append,sum3,sum3,sum3_append f r b]
  simp only [add3,Nat.add_assoc]
def kind3 (k:Int):T3:=if k=1 then (1,0,0) else if k=2 then (0,1,0) else if k=3 then (0,0,1) else (0,0,0)
def szT:(n:Nat)→Tr n→T3
 | 0,_=>(0,0,0)
 | n+1,(k,r,p,l)=>add3 (kind3 k) (if k=2 then sum3 (fun x=>szT n x.2) l else (0,0,0))
structure SAt (w:World) (x y z:Nat) (a:T3):Prop where
 bx:w.heap[x]? = some (.cells #[.int .i64 (a.1:Int)] 3 (0,0))
 by' : w.heap[y]? = some (.cells #[.int .i64 (a.2.1:Int)] 3 (0,0))
 bz:w.heap[z]? = some (.cells #[.int .i64 (a.2.2:Int)] 3 (0,0))
 xy:x≠y
 xz:x≠z
 yz:y≠z
end Go.Proofs.YtjahpnbijefncaaGreat
namespace Go.Proofs.YtjahpnbijefncaaGreat
set_option maxRecDepth 100000
set_option linter.unusedVariables false
structure GL (n:Nat) (R:List Rw) (t:Tr n):Prop where
 len:(rulesF n t).length=R.length
 mem:∀ x∈R,x.1∈rulesF n t
 fl:(szT n t).2.2=if R.length=0 then 1 else 0
 br:(szT n t).2.1≤n * R.length
 lv:(szT n t).1=R.length
 b0:(szT n t).2.1=0→R.length≤1
 sm:SmK n t
def cntR (R:List Rw) (c:Nat) (k:Nat):Nat:=(R.filter (fun x=>decide (numR x c<(k:Int)))).length
theorem cntR_succ {R:List Rw} {c k:Nat} (h:∀ x∈R,0≤numR x c):cntR R c (k+1)=cntR R c k+(havR R c (k:Int)).length:=by
 unfold cntR havR
 induction R with
 | nil=>rfl
 | cons x r ih=>
  have h0:=ih (fun y hy=>h y (List.mem_cons_of_mem _ hy))
  have hx:=h x (List.mem_cons_self ..)
  by_cases h1:numR x c<(k:Int)
  ·have h2:numR x c<((k+1:Nat):Int):=by omega
   have h3:¬ numR x c=(k:Int):=by omega
   simp only [List.filter_cons,h1,h2,h3,decide_true,decide_false,if_true,Bool.false_eq_true,if_false,List.length_cons]
   omega
  ·by_cases h3:numR x c=(k:Int)
   ·have h2:numR x c<((k+1:Nat):Int):=by omega
    simp only [List.filter_cons,h3,decide_true,if_true,List.length_cons]
    have h4:((k:Int)<((k+1:Nat):Int)):=by omega
    simp only [h4,decide_true,if_true,List.length_cons,Int.lt_irrefl,decide_false,Bool.false_eq_true,if_false]
    omega
   ·have h2:¬ numR x c<((k+1:Nat):Int):=by omega
    simp only [List.filter_cons,h1,h2,h3,decide_false,Bool.false_eq_true,if_false]
    exact h0
structure KL (n:Nat) (R:List Rw) (c k:Nat) (l:List (Int × Tr n)):Prop where
 len:(l.flatMap (fun x=>rulesF n x.2)).length=cntR R c k
 mem:∀ x∈R,numR x c<(k:Int)→x.1∈l.flatMap (fun x=>rulesF n x.2)
 fl:(sum3 (fun x=>szT n x.2) l).2.2=0
 br:(sum3 (fun x=>szT n x.2) l).2.1≤n * cntR R c k
 lv:(sum3 (fun x=>szT n x.2) l).1=cntR R c k
 le:l.length≤k
 sm:∀ i (h:i<l.length),SmK n l[i].2
theorem kids_KL {L:List Sym} {n:Nat} {P:List (List Int)} {R:List Rw} {c:Nat} (h0:∀ x∈R,0≤numR x c) (IH:∀ s,s<L.length→havR R c (s:Int)≠[]→∀ t,growF L n (kidP L P c s) ((havR R c (s:Int)).map (kidX L c))=.ok t→GL n ((havR R c (s:Int)).map (kidX L c)) t):∀ k,k≤L.length→∀ l,KidsF L n P R c k=.ok l→KL n R c k l
 | 0,_,l,h=>by
  cases h
  have e:cntR R c 0=0:=by
   unfold cntR
   rw [List.length_eq_zero_iff,List.filter_eq_nil_iff]
   intro x hx
   have:=h0 x hx
   simp;omega
  exact ⟨by rw [e];rfl,fun x hx hn=>by have:=h0 x hx;omega,rfl,by simp [sum3],by rw [e];rfl,Nat.le_refl _,fun i hi=>absurd hi (by simp)⟩
 | k+1,hk,l,h=>by
  have hsucc:=cntR_succ (c:=c) (k:=k) h0
  cases hm:KidsF L n P R c k with
  | error e=>rw [KidsF_err hm (Nat.le_succ k)] at h;cases h
  | ok m=>
   have K:=kids_KL h0 IH k (by omega) m hm
   have hm' := hm
   unfold KidsF at hm' h
   rw [kidsN,hm'] at h
   simp only at h
   by_cases hh:0<(havR R c (k:Int)).length
   ·simp only [hh,decide_true,if_true] at h
    cases hg:growF L n (kidP L P c k) ((havR R c (k:Int)).map (kidX L c)) with
    | error e=>rw [hg] at h;cases h
    | ok t=>
     rw [hg] at h
     cases h
     have G:=IH k (by omega) (fun e=>by rw [e] at hh;simp at hh) t hg
     have hGl:=G.len
     rw [List.length_map] at hGl
     have hGv:=G.lv
     rw [List.length_map] at hGv
     have hGb:=G.br
     rw [List.length_map] at hGb
     have hGf:=G.fl
     rw [List.length_map,if_neg (by omega)] at hGf
     have efl:(m ++ [((k:Int),t)]).flatMap (fun x=>rulesF n x.2)=m.flatMap (fun x=>rulesF n x.2)++rulesF n t:=by simp
     have es:sum3 (fun x:Int × Tr n=>szT n x.2) (m ++ [((k:Int),t)])=add3 (sum3 (fun x=>szT n x.2) m) (szT n t):=by rw [sum3_append];simp [sum3,add3]
     refine ⟨?_,fun x hx hn=>?_,?_,?_,?_,?_,fun i hi=>?_⟩
     ·rw [efl,List.length_append,K.len,hGl,hsucc]
     ·rw [efl]
      by_cases hlt:numR x c<(k:Int)
      ·exact List.mem_append_left _ (K.mem x hx hlt)
      ·refine List.mem_append_right _ ?_
       have hx2:x∈havR R c (k:Int):=by
        unfold havR
        rw [List.mem_filter]
        exact ⟨hx,by simp;omega⟩
       exact G.mem (kidX L c x) (List.mem_map.2 ⟨x,hx2,rfl⟩)
     ·rw [es];simp only [add3];rw [K.fl,hGf]
     ·rw [es];simp only [add3];have:=K.br;rw [hsucc,Nat.mul_add];omega
     ·rw [es];simp only [add3];rw [K.lv,hGv,hsucc]
     ·have:=K.le;simp;omega
     ·by_cases hi2:i<m.length
      ·rw [List.getElem_append_left hi2];exact K.sm i hi2
      ·obtain rfl:i=m.length:=by simp at hi;omega
       simpa using G.sm
   ·simp only [hh,decide_false,Bool.false_eq_true,if_false] at h
    cases h
    have hz:(havR R c (k:Int)).length=0:=by omega
    rw [hz,Nat.add_zero] at hsucc
    refine ⟨by rw [hsucc];exact K.len,fun x hx hn=>?_,K.fl,by rw [hsucc];exact K.br,by rw [hsucc];exact K.lv,by have:=K.le;omega,K.sm⟩
    refine K.mem x hx ?_
    by_cases e:numR x c=(k:Int)
    ·have hx2:x∈havR R c (k:Int):=by
      unfold havR
      rw [List.mem_filter]
      exact ⟨hx,by simp [e]⟩
     rw [List.eq_nil_of_length_eq_zero hz] at hx2
     simp at hx2
    ·omega
theorem grow_GL {L:List Sym} (hA:Ars L) (hL:L.length≤64):∀ (n:Nat) (P:List (List Int)) (R:List Rw) (t:Tr n),NdOk L n P R→growF L n P R=.ok t→GL n R t
 | 0,P,R,t,h,_=>absurd h.pos (Nat.lt_irrefl 0)
 | n+1,P,R,t,h,hg=>by
  by_cases h0:R.length=0
  ·rw [growF_zero h0] at hg
   cases hg
   refine ⟨by simp [rulesF,h0],fun x hx=>?_,by simp [szT,kind3,add3,h0],by simp [szT,kind3,add3],by simp [szT,kind3,add3,h0],fun _=>by omega,by simp,fun i hi=>absurd hi (by simp)⟩
   rw [List.eq_nil_of_length_eq_zero h0] at hx;simp at hx
  ·cases hp:partN R P.length with
   | none=>
    by_cases h1:R.length=1
    ·rw [growF_leaf h1 hp] at hg
     cases hg
     refine ⟨by simp [rulesF,h1],fun x hx=>?_,by simp [szT,kind3,add3,h0],by simp [szT,kind3,add3],by simp [szT,kind3,add3,h1],fun _=>by omega,by simp,fun i hi=>absurd hi (by simp)⟩
     match R,h1 with
     | [y],_=>
      simp at hx
      subst hx
      simp [rulesF]
    ·rw [growF_fork h0 h1 hp] at hg;cases hg
   | some c=>
    rw [growF_branch h0 hp] at hg
    unfold BrF at hg
    cases hk:KidsF L n P R c L.length with
    | error e=>rw [hk] at hg;cases hg
    | ok l=>
     rw [hk] at hg
     cases hg
     obtain ⟨hc,hcon⟩:=partN_some hp
     have hn0:∀ x∈R,0≤numR x c:=fun x hx=>by
      unfold conB at hcon
      have:=List.all_eq_true.1 hcon x hx
      simpa using this
     have hnL:∀ x∈R,numR x c<(L.length:Int):=fun x hx=>by
      obtain ⟨k1,k2,k3,_⟩:=h.ok x hx
      have hc' : c<x.2.2.length:=by omega
      have hp' := k3 _ (List.getElem_mem hc')
      rw [numR_eq hc' hp']
      exact (badE_zero.1 (checkE_zero.1 k1).2.1 _ (List.getElem_mem hp')).1
     have K:=kids_KL hn0 (fun s hs hne t ht=>grow_GL hA hL n _ _ t (h.kid hc hs (arN_le hA _) hne) ht) L.length (Nat.le_refl _) l hk
     have hall:cntR R c L.length=R.length:=by
      unfold cntR
      rw [List.filter_eq_self.2 (fun x hx=>by simpa using hnL x hx)]
     have er:rulesF (n+1) (2,0,P.getD c [],l)=l.flatMap (fun x=>rulesF n x.2):=by simp [rulesF]
     have es:szT (n+1) (2,0,P.getD c [],l)=add3 (0,1,0) (sum3 (fun x=>szT n x.2) l):=by simp [szT,kind3]
     refine ⟨?_,fun x hx=>?_,?_,?_,?_,fun e=>?_,?_,K.sm⟩
     ·rw [er,K.len,hall]
     ·rw [er];exact K.mem x hx (hnL x hx)
     ·rw [es,if_neg h0];simp only [add3];rw [K.fl]
     ·rw [es];simp only [add3];have:=K.br;rw [hall] at this;rw [Nat.add_mul];omega
     ·rw [es];simp only [add3];rw [K.lv,hall];omega
     ·rw [es] at e;simp only [add3] at e;omega
     ·have:=K.le;omega
end Go.Proofs.YtjahpnbijefncaaGreat
