import Derived.Test.YtmloedlkoijfbaaHP06
import Derived.BigQuiet
import Derived.Deep.RegionLaw
import Derived.Deep.AppendLies
import Derived.Test.YtmloedlkoijfbaaHP04
import Derived.Test.YtmloedlkoijfbaaHP02
import Derived.Test.YtmloedlkoijfbaaHP03
import Derived.ArgAppend
import Derived.OwnWalk
namespace Go.Proofs.Ytmloedlkoijfbaa
set_option maxRecDepth 100000
set_option linter.unusedVariables false
open Go.RowKit
attribute [local go_sem ↓] Go.wp_at_zero Go.wp_at_succ
set_option maxHeartbeats 2000000 in
theorem rmake_no {B:Nat→Prop} {w:World} {r room:Nat} {v:Value} {l:List Nd} (p:RhB B w r room v l) (s:Int) {ao:Option Addr} {xs:List Int} {cap:Nat} (hx:Arg w ao xs cap) (he:mkE l room s xs≠0) :
  Calls Try.prog 29 #[.pointer (some ⟨r,0,none⟩),.int .i64 s,.slice ao xs.length cap] w fun e w' => e=.returned (.tuple #[.int .i64 0,.int .i64 (mkE l room s xs)])∧Same0 w w' := by
 have hle:=p.le
 have hr2:=p.rm2
 have hs:=hx.size
 have r0:Hid (Same0 w w∧Same0 w w.drew∧∀ n,Same0 w (w.drewN n)):=⟨Kept.refl _ _,(Kept.refl _ _).drew,fun n=>(Kept.refl _ _).drewN n⟩
 by_cases h1:s<0
 ·have H:Hid (mkE l room s xs=1):=by show _=_;rw [mkE,if_pos (.inl h1)]
  clear he hx p
  go_enter Try.func29,Try.ntmps29
  go_wp2
  go_ret2
  exact ⟨by rw [H.out];rfl,r0.out.1⟩
 ·by_cases h2:6<xs.length
  ·have H:Hid (mkE l room s xs=1):=by show _=_;rw [mkE,if_pos (.inr h2)]
   have h2' : (6:Int)<(xs.length:Int):=by omega
   clear he hx p
   go_enter Try.func29,Try.ntmps29
   go_wp2
   go_ret2
   exact ⟨by rw [H.out];rfl,r0.out.1⟩
  ·have h2' : ¬ (6:Int)<(xs.length:Int):=by omega
   have HN:Hid (∀ k (hk:k<xs.length),¬ (0≤xs[k]∧xs[k]<(l.length:Int))→mkE l room s xs=112):=fun k hk hn=>by rw [mkE,if_neg (by omega),if_pos (insB_no hk hn)]
   have HF:Hid ((∀ k (hk:k<xs.length),0≤xs[k]∧xs[k]<(l.length:Int))→mkE l room s xs=111∧l.length=room):=fun hall=>by
    have hi:insB (l.length:Int) xs=true:=insB_iff.2 (fun z hz=>by
     obtain ⟨k,hk,rfl⟩:=List.mem_iff_getElem.1 hz
     exact hall k hk)
    by_cases q:l.length=room
    ·exact ⟨by rw [mkE,if_neg (by omega),if_neg (by rw [hi];simp),if_pos q],q⟩
    ·exact absurd (by rw [mkE,if_neg (by omega),if_neg (by rw [hi];simp),if_neg q]) he
   have HI:Hid (IntsAt w ao xs):=hx.at'
   have CH:Hid (∀ a,Calls Try.prog 56 #[.pointer (some ⟨r,0,none⟩),.int .i64 a] w fun e w' => e=.returned (.bool (hasB l.length a))∧w' = w):=fun a=>p.has a
   obtain ⟨vo,vc,rfl⟩:=p.row.shape
   have HC:Hid (w.cell? ⟨r,0,none⟩=some (.int .i64 (room:Int))∧w.cell? ⟨r,1,none⟩=some (.slice vo l.length vc)∧w.drew.cell? ⟨r,0,none⟩=some (.int .i64 (room:Int))∧w.drew.cell? ⟨r,1,none⟩=some (.slice vo l.length vc)):=⟨p.cells.1,p.cells.2,(p.same r0.out.2.1).cells.1,(p.same r0.out.2.1).cells.2⟩
   clear he hx p
   generalize mkE l room s xs=E at *
   go_enter Try.func29,Try.ntmps29
   go_upto_region 4 with fail
   go_loop [8] (fun i=>∃ k:Nat,k≤xs.length∧i=.int .i64 (k:Int)∧Hid (∀ j (hj:j<xs.length),j<k→0≤xs[j]∧xs[j]<(l.length:Int))) (fun i=>xs.length-(intOf i).toNat)
   case atStart=>exact ⟨0,Nat.zero_le _,rfl,fun j _ hj=>absurd hj (Nat.not_lt_zero _)⟩
   case round=>
    obtain ⟨k,hk,rfl,hall⟩:=hrel
    by_cases hlt:k<xs.length
    ·have i0:(0:Int)≤(k:Int):=by omega
     have i1:(k:Int)<(xs.length:Int):=by omega
     obtain ⟨db,doff,rfl, -,cD⟩:=HI.out.get hlt
     have HN1:=HN.out k hlt
     have HNX:Hid (0≤xs[k]∧xs[k]<(l.length:Int)→Hid (∀ j (hj:j<xs.length),j<k+1→0≤xs[j]∧xs[j]<(l.length:Int))):=fun e j hj hjk=>by
      by_cases q:j=k
      ·subst q;exact e
      ·exact hall.out j hj (by omega)
     have C:=CH.out xs[k]
     clear hall
     generalize xs[k]=z at *
     by_cases q:0≤z∧z<(l.length:Int)
     ·rw [hasB_yes q] at C
      have HG:=HNX.out q
      clear HN1 HNX q
      go_wp2_with (first | (go_at_call 56;refine C.mono ?_;rintro e w' ⟨rfl,h'⟩;have h' := h'.symm;subst h'))
      go_round
      case rel=>exact ⟨k+1,by omega,by go_num,HG⟩
      case measure=>simp [intOf];omega
     ·rw [hasB_no q] at C
      have HE:Hid (E=112):=HN1 q
      clear HN1 HNX q
      go_wp2_with (first | (go_at_call 56;refine C.mono ?_;rintro e w' ⟨rfl,h'⟩;have h' := h'.symm;subst h'))
      go_ret2
      exact ⟨by rw [HE.out];rfl,r0.out.1⟩
    ·have hkl:k=xs.length:=by omega
     obtain ⟨hE,hq⟩:=HF.out (fun j hj=>hall.out j hj (by omega))
     have HE:Hid (E=111):=hE
     have hge:(room:Int)≤(l.length:Int):=by omega
     obtain ⟨c0,c1,d0,d1⟩:=HC.out
     subst hkl
     clear hE hq hall HF HN
     go_upto_region 8 with fail
     go_quiet (fail)
     go_wp2
     go_ret2
     exact ⟨by rw [HE.out];rfl,r0.out.2.2 _⟩
theorem step_call11 {ops:Array Oper} {o:Oper} {a:Act} {w:World} {K:Act→World→Prop} {Q:Exit→Act→World→Prop} {E:Prop} {f:FuncId} {args:Array Value} {R:Ending→World→Prop} (hgd:o.guard=none)
  (c:Calls Try.prog f args w R) (hrun:(execOp a.eval o).run Try.prog w=.ok (.enter f args) w) (hR:∀ e w', R e w' → ∃ v,e=.returned v∧(K (a.put o.dst v) w')) :
  if Region.wanted o (yielded ops a.tmps)=true then Oper.wp Try.prog o a w K Q else E:=by
 have hw:Region.wanted o (yielded ops a.tmps)=true:=by simp [Region.wanted,hgd]
 rw [if_pos hw]
 unfold Oper.wp
 rw [hrun,Oper.upon_enter]
 refine c.mono fun e w' h=>?_
 obtain ⟨v,rfl,h2⟩:=hR e w' h
 exact h2
theorem step_nd {w0 W:World} {ops:Array Oper} {o:Oper} {a:Act} {K:Act→World→Prop} {Q:Exit→Act→World→Prop} {E:Prop} (hgd:o.guard=none) (s x:Operand)
  (ho:o.op=.call { callee:=.builtin .append,args:=#[s,x],argTypes:=#[32,32] })
  {B:Nat→Prop} (base:Nat) (l:List Nd) (v:Value) (hs:a.eval s=v) (hW:Same0 w0 W) (hr:NRow B base w0 v l) (y:Nd) (ao:Option Addr) (ac:Nat) (q:Nat) (hx:a.eval x=.slice (some ⟨q,0,none⟩) 1 1) (hq:W.heap[q]? = some (.cells #[.int .i64 y.1,.slice ao y.2.1.length ac,.int .i64 y.2.2.1,.bool y.2.2.2.1,.int .i64 y.2.2.2.2] 47 (0,0))) (ha:ArgT w0 ao y.2.1 ac) (hba:∀ b,ao=some b→B b.block) (hb:base≤w0.heap.size) (hsz:(l.length+1) * 56≤140737488355328)
  (h:∀ g cap w', NRow B base w' (.slice (some ⟨g,0,none⟩) (l.length+1) cap) (l ++ [y])→Kept (fun k=>v.ownBlock=some k) w0 w' → (v.ownBlock=some g∨w0.heap.size≤g)→K (a.put o.dst (.slice (some ⟨g,0,none⟩) (l.length+1) cap)) w') :
  if Region.wanted o (yielded ops a.tmps)=true then Oper.wp Try.prog o a W K Q else E:=by
 obtain ⟨i,hi,hz0,hz1,hz2⟩:=info_parts info_node
 obtain ⟨vs,h1,h2⟩:=hr
 have nb:∀ k,v.ownBlock=some k→NotI w0 k:=fun k e=>(NRow.block ⟨vs,h1,h2⟩ e).2.2
 refine step_append_lies _ hgd s x 32 ho base 47 i _ 5 56 Try.underlying32 hi hz0 hz1 hz2 rfl (by decide) v l.length vs hs (hW.row h1 (fun _ _ f=>f)) ⟨q,0,none⟩ 1 1 [.int .i64 y.1,.slice ao y.2.1.length ac,.int .i64 y.2.2.1,.bool y.2.2.2.1,.int .i64 y.2.2.2.2] hx rfl (World.news_of_block (cs:=#[.int .i64 y.1,.slice ao y.2.1.length ac,.int .i64 y.2.2.1,.bool y.2.2.2.1,.int .i64 y.2.2.2.2]) (t:=47) (fr:=(0,0)) hq) (by intro u hu;simp at hu;rcases hu with rfl | rfl | rfl | rfl | rfl <;> rfl) (by omega) (by unfold maxLen;omega) (by omega) (Nat.le_trans hb hW.size) W.heap.size rfl ?_
 intro g cap w' hown hgrow hat hlt
 have K' : Kept (fun k=>v.ownBlock=some k) w0 w' := Kept.grown (Kept.mono hW (fun _ _ f=>f.elim)) hgrow (fun _ e _=>e)
 refine h g cap w' ⟨_,by rw [List.length_append];exact hown,?_⟩ K' (hat.imp id (fun e=>by have:=hW.size;omega))
 exact (h2.kept K' (fun k _ e=>nb k e)).snoc (ha.kept K' (fun k e=>nb k e)) hba
theorem RhB.made {B B' : Nat→Prop} {w w2 w9:World} {r room:Nat} {v:Value} {l:List Nd} (p:RhB B w r room v l) (k1:Same0 w w2) {s:Int} {xs:List Int} (he:mkE l room s xs=0) {gg cap:Nat} (r9:NRow B' 0 w9 (.slice (some ⟨gg,0,none⟩) (l.length+1) cap) (l ++ [(s,xs,0,false,0)])) (k9:Kept (fun k=>v.ownBlock=some k) w2 w9) :
  (w9.cell? ⟨r,0,none⟩=some (.int .i64 (room:Int))∧w9.cell? ⟨r,1,none⟩=some v∧w9.frozen? ⟨r,1,none⟩=false)∧RhB B' (w9.setCell ⟨r,1,none⟩ (.slice (some ⟨gg,0,none⟩) (l.length+1) cap)) r room (.slice (some ⟨gg,0,none⟩) (l.length+1) cap) (l ++ [(s,xs,0,false,0)])∧Kept (fun k=>k=r∨v.ownBlock=some k) w (w9.setCell ⟨r,1,none⟩ (.slice (some ⟨gg,0,none⟩) (l.length+1) cap)):=by
 obtain ⟨h0,h1,h2,h3⟩:=mk_zero he
 have hle:=p.le
 have p2:=p.same k1
 have b9:=k9.at p2.box (fun e=>(p2.notg e).1 rfl)
 have ks:Kept (fun k=>k=r) w9 (w9.setCell ⟨r,1,none⟩ (.slice (some ⟨gg,0,none⟩) (l.length+1) cap)):=Kept.setCell (S:=fun k=>k=r) (Kept.refl _ _) (p:=⟨r,1,none⟩) (fun _=>rfl) _
 have nr:NotI w9 r:=fun cur hc=>by rw [b9] at hc;cases hc
 have ng:gg≠r:=fun e=>by
  obtain ⟨vs,q1,_⟩:=r9
  rcases q1.2 with ⟨q,_⟩ | ⟨g', cap', cur,q,_,hg,_⟩
  ·cases q
  ·simp only [Value.slice.injEq,Option.some.injEq,Addr.mk.injEq,and_true] at q
   rw [← q.1,e,b9] at hg
   cases hg
 refine ⟨⟨cellAt b9 0,cellAt b9 1,frozenAt b9 1⟩,⟨set_room b9 _,?_,p.rm1,p.rm2,by simp;omega,may_make p.may (mk_may h0 h1 h2),p.ac.make p.inl _ (may_down (mk_may h0 h1 h2))⟩,?_⟩
 ·exact r9.kept ks (fun k e q=>ng (by rw [← q];exact Option.some.inj e)) (fun k _ q=>by rw [q];exact nr)
 ·exact ((Kept.mono k1 (fun _ _ f=>f.elim)).trans k9 (fun _ _ e=>.inr e)).trans ks (fun _ _ e=>.inl e)
set_option maxHeartbeats 2000000 in
theorem rmake_yes {B:Nat→Prop} {w:World} {r room:Nat} {v:Value} {l:List Nd} (p:RhB B w r room v l) (s:Int) {ao:Option Addr} {xs:List Int} {cap:Nat} (hx:Arg w ao xs cap) (he:mkE l room s xs=0) :
  Calls Try.prog 29 #[.pointer (some ⟨r,0,none⟩),.int .i64 s,.slice ao xs.length cap] w fun e w' => e=.returned (.tuple #[.int .i64 (l.length:Int),.int .i64 0])∧∃ v', RhB (fun b=>B b∨w.heap.size≤b) w' r room v' (l ++ [(s,xs,0,false,0)])∧(∀ k,v'.ownBlock=some k→v.ownBlock=some k∨w.heap.size≤k)∧Kept (fun k=>k=r∨v.ownBlock=some k) w w' := by
 obtain ⟨h0,h1,h2,h3⟩:=mk_zero he
 have hle:=p.le
 have hr2:=p.rm2
 have hsz:=hx.size
 have h1' : ¬ s<0:=by omega
 have h2' : ¬ (6:Int)<(xs.length:Int):=by omega
 have hlt' : ¬ (room:Int)≤(l.length:Int):=by omega
 have l0:(0:Int)≤(l.length:Int):=by omega
 have l1:(l.length:Int)≤4000:=by omega
 have HAL:Hid (∀ k (hk:k<xs.length),0≤xs[k]∧xs[k]<(l.length:Int)):=fun k hk=>insB_iff.1 h2 _ (List.getElem_mem hk)
 have HI:Hid (IntsAt w ao xs):=hx.at'
 have CH:Hid (∀ a,Calls Try.prog 56 #[.pointer (some ⟨r,0,none⟩),.int .i64 a] w fun e w' => e=.returned (.bool (hasB l.length a))∧w' = w):=fun a=>p.has a
 obtain ⟨vo,vc,rfl⟩:=p.row.shape
 have CELLS:Hid (∀ ww,Same0 w ww→ww.cell? ⟨r,0,none⟩=some (.int .i64 (room:Int))∧ww.cell? ⟨r,1,none⟩=some (.slice vo l.length vc)):=fun ww hk=>(p.same hk).cells
 have CO:Hid (∀ ww,Same0 w ww→Calls Try.prog 57 #[.slice ao xs.length cap] ww fun e w' => ∃ bo bc,e=.returned (.slice bo xs.length bc)∧ArgT w' bo xs bc∧(∀ a,bo=some a→w.heap.size≤a.block)∧Same0 w w'):=fun ww hk=>(rcopied_any (hx.onto hk)).mono (fun e w' ⟨bo,bc,q1,q2,q3,q4⟩=>⟨bo,bc,q1,q2,fun a e=>Nat.le_trans hk.size (q3 a e),hk.trans' q4⟩)
 have HRW:Hid (∀ ww,Same0 w ww→NRow (fun b=>B b∨w.heap.size≤b) 0 ww (.slice vo l.length vc) l):=fun ww hk=>(p.row.same hk).mono (fun k _ q=>.inl q)
 have h56:(l.length+1) * 56≤140737488355328:=by omega
 have FIN:Hid (∀ w2 gg cap w9,Same0 w w2→NRow (fun b=>B b∨w.heap.size≤b) 0 w9 (.slice (some ⟨gg,0,none⟩) (l.length+1) cap) (l ++ [(s,xs,0,false,0)])→Kept (fun k=>(Value.slice vo l.length vc).ownBlock=some k) w2 w9→((Value.slice vo l.length vc).ownBlock=some gg∨w2.heap.size≤gg)→(w9.cell? ⟨r,0,none⟩=some (.int .i64 (room:Int))∧w9.cell? ⟨r,1,none⟩=some (.slice vo l.length vc)∧w9.frozen? ⟨r,1,none⟩=false)∧Hid (RhB (fun b=>B b∨w.heap.size≤b) (w9.setCell ⟨r,1,none⟩ (.slice (some ⟨gg,0,none⟩) (l.length+1) cap)) r room (.slice (some ⟨gg,0,none⟩) (l.length+1) cap) (l ++ [(s,xs,0,false,0)])∧(∀ k,(Value.slice (some ⟨gg,0,none⟩) (l.length+1) cap).ownBlock=some k→(Value.slice vo l.length vc).ownBlock=some k∨w.heap.size≤k)∧Kept (fun k=>k=r∨(Value.slice vo l.length vc).ownBlock=some k) w (w9.setCell ⟨r,1,none⟩ (.slice (some ⟨gg,0,none⟩) (l.length+1) cap)))):=by
  intro w2 gg cap w9 s2 r9 k9 hat
  obtain ⟨q1,q2,q3⟩:=p.made s2 he r9 k9
  refine ⟨q1,q2,fun k e=>?_,q3⟩
  have:gg=k:=Option.some.inj e
  subst this
  exact hat.imp id (fun e=>Nat.le_trans s2.size e)
 have W0:Hid (∀ n,Same0 w (w.drewN n)):=fun n=>(Kept.refl _ _).drewN n
 clear hx p he h0 h1 h2 h3
 go_enter Try.func29,Try.ntmps29
 go_upto_region 4 with fail
 go_loop [8] (fun i=>∃ k:Nat,k≤xs.length∧i=.int .i64 (k:Int)) (fun i=>xs.length-(intOf i).toNat)
 case atStart=>exact ⟨0,Nat.zero_le _,rfl⟩
 case round=>
  obtain ⟨k,hk,rfl⟩:=hrel
  by_cases hlt:k<xs.length
  ·have i0:(0:Int)≤(k:Int):=by omega
   have i1:(k:Int)<(xs.length:Int):=by omega
   obtain ⟨db,doff,rfl, -,cD⟩:=HI.out.get hlt
   have C:=CH.out xs[k]
   rw [hasB_yes (HAL.out k hlt)] at C
   generalize xs[k]=z at *
   go_wp2_with (first | (go_at_call 56;refine C.mono ?_;rintro e w' ⟨rfl,h'⟩;have h' := h'.symm;subst h'))
   go_round
   case rel=>exact ⟨k+1,by omega,by go_num⟩
   case measure=>simp [intOf];omega
  ·have hkl:k=xs.length:=by omega
   obtain ⟨c0,c1⟩:=CELLS.out w (Kept.refl _ _)
   subst hkl
   clear HAL HI CH
   go_upto_region 8 with fail
   go_quiet (fail)
   obtain ⟨W1,hW1⟩:∃ W1,W1=w.drewN nq:=⟨_,rfl⟩
   have K1:Same0 w W1:=by rw [hW1];exact W0.out _
   rw [← hW1]
   have D1:Same0 w W1.drew:=K1.drew
   obtain ⟨d0,d1⟩:=CELLS.out W1.drew D1
   clear hW1 c0 c1
   go_upto_region 10 with fail
   go_region_law (first
    | (refine step_call11 rfl (CO.out _ D1) (by simp [go_sem]) ?_;rintro e w2 ⟨bo,bc,rfl,ha,hbb,hk2⟩;refine ⟨_,rfl,?_⟩;obtain ⟨e0,e1⟩:=CELLS.out _ hk2;obtain ⟨f0,f1⟩:=CELLS.out _ (hk2.alloc (.cells #[.int .i64 s,.slice bo xs.length bc,.int .i64 0,.bool false,.int .i64 0] 47)))
    | (refine step_nd (w0:=w2) (by rfl) _ _ (by rfl) 0 l (.slice vo l.length vc) (by rfl) (by first | exact (Kept.refl _ w2).alloc _ | exact (Kept.refl _ w2).drew.alloc _ | exact ((Kept.refl _ w2).alloc _).drew) (HRW.out _ hk2) (s,xs,0,false,0) bo bc w2.heap.size (by rfl) (heap_alloc_new w2 _) ha (fun b e=>.inr (hbb b e)) (Nat.zero_le _) h56 ?_;intro gg cap9 w9 r9 k9 hat;obtain ⟨⟨y0,y1,y2⟩,FF⟩:=FIN.out w2 gg cap9 w9 hk2 r9 k9 hat))
   all_goals
    have z1:(w9.setCell ⟨r,1,none⟩ (.slice (some ⟨gg,0,none⟩) (l.length+1) cap9)).cell? ⟨r,1,none⟩=some (.slice (some ⟨gg,0,none⟩) (l.length+1) cap9):=FF.out.1.cells.2 ▸ FF.out.1.cells.2
    go_wp2
    go_ret2
    exact ⟨rfl,_,FF.out.1,FF.out.2.1,FF.out.2.2⟩
structure RfI (w wr:World) (h g room:Nat) (v:Value) (l:List Nd) (k:Nat):Prop where
 box:wr.heap[h]? = some (.cells #[.slice (some ⟨g,0,none⟩) room room,v] 68 (0,0))
 blk:∃ cs,wr.heap[g]? = some (.cells cs 47 (0,0))∧cs.size=room * 5
 each:∀ i (hi:i<l.length),i<k→NdC (fun b=>w.heap.size≤b) wr g (i * 5) l[i]
 kp:Kept (fun b=>b=g) w wr
theorem RfI.cells {w wr:World} {h g room k:Nat} {v:Value} {l:List Nd} (p:RfI w wr h g room v l k):wr.cell? ⟨h,0,none⟩=some (.slice (some ⟨g,0,none⟩) room room):=cellAt p.box 0
theorem RfI.same {w wr w' : World} {h g room k:Nat} {v:Value} {l:List Nd} (p:RfI w wr h g room v l k) (hk:Same0 wr w'):RfI w w' h g room v l k:=by
 obtain ⟨cs,h1,h2⟩:=p.blk
 exact ⟨hk.at0 p.box,⟨cs,hk.at0 h1,h2⟩,fun i hi hik=>(p.each i hi hik).kept (lt_of_at h1) hk (fun f=>f) (fun _ _ f=>f.elim),p.kp.trans hk (fun _ _ f=>f.elim)⟩
theorem RfI.there {w wr:World} {h g room k:Nat} {v:Value} {l:List Nd} (p:RfI w wr h g room v l k) {i:Nat} (hi:i<room):(∃ u0 u1 u2 u3 u4,wr.cell? ⟨g,i * 5,none⟩=some u0∧wr.cell? ⟨g,i * 5+1,none⟩=some u1∧wr.cell? ⟨g,i * 5+2,none⟩=some u2∧wr.cell? ⟨g,i * 5+3,none⟩=some u3∧wr.cell? ⟨g,i * 5+4,none⟩=some u4)∧∀ o,wr.frozen? ⟨g,o,none⟩=false:=by
 obtain ⟨cs,h1,h2⟩:=p.blk
 have t:∀ o,o<cs.size→wr.cell? ⟨g,o,none⟩=some cs[o]! := fun o ho=>by rw [cellAt h1];simp [ho]
 exact ⟨⟨_,_,_,_,_,t _ (by omega),t _ (by omega),t _ (by omega),t _ (by omega),t _ (by omega)⟩,fun o=>frozenAt h1 o⟩
theorem RfI.put {w wr w3:World} {h g room k:Nat} {v:Value} {l:List Nd} (p:RfI w wr h g room v l k) (hne:h≠g) (hk:Same0 wr w3) (hl:k<l.length) (hr:k<room) {bo:Option Addr} {bc:Nat} (ha:ArgT w3 bo l[k].2.1 bc) (hb:∀ a,bo=some a→w.heap.size≤a.block) :
  RfI w (put5 w3 g (k * 5) (.int .i64 l[k].1) (.slice bo l[k].2.1.length bc) (.int .i64 l[k].2.2.1) (.bool l[k].2.2.2.1) (.int .i64 l[k].2.2.2.2)) h g room v l (k+1):=by
 have p3:=p.same hk
 have hkl:(l.take k).length=k:=by simp;omega
 obtain ⟨q1,q2,q3⟩:=put5_nodes (B:=fun b=>w.heap.size≤b) (B' := fun b=>w.heap.size≤b) (l:=l.take k) (i:=k) (x:=l[k]) (ao:=bo) (ac:=bc) p3.blk (fun i hi=>by
  have hi' : i<k:=by omega
  have:=p3.each i (by omega) hi'
  simpa using this) hr ha hb (fun _ e=>e)
 have K:=put5_kept w3 g (k * 5) (.int .i64 l[k].1) (.slice bo l[k].2.1.length bc) (.int .i64 l[k].2.2.1) (.bool l[k].2.2.2.1) (.int .i64 l[k].2.2.2.2)
 refine ⟨K.at p3.box hne,q2,fun i hi hik=>?_,p3.kp.trans K (fun _ _ e=>e)⟩
 by_cases e:i=k
 ·subst e;exact q1
 ·have:=q3 i (by omega) e
  simpa using this
theorem setCells_kept (g:Nat):∀ (vs:List Value) (o:Nat) (w:World),Kept (fun k=>k=g) w (w.setCells g o vs)∧∀ cs t fr,w.heap[g]? = some (.cells cs t fr)→∃ cs', (w.setCells g o vs).heap[g]? = some (.cells cs' t fr)∧cs'.size=cs.size
 | [],o,w=>⟨Kept.refl _ _,fun cs t fr h=>⟨cs,h,rfl⟩⟩
 | v :: r,o,w=>by
  obtain ⟨h1,h2⟩:=setCells_kept g r (o+1) (w.setCell ⟨g,o,none⟩ v)
  have k:Kept (fun k=>k=g) w (w.setCell ⟨g,o,none⟩ v):=Kept.setCell (S:=fun k=>k=g) (Kept.refl _ _) (p:=⟨g,o,none⟩) (fun _=>rfl) v
  refine ⟨k.trans h1 (fun _ _ e=>e),fun cs t fr h=>?_⟩
  obtain ⟨cs', q1,q2⟩:=h2 _ t fr (setAt h o v)
  exact ⟨cs', q1,by rw [q2];simp⟩
theorem RfI.cleared {w wr:World} {h g room:Nat} {v:Value} {l:List Nd} (p:RfI w wr h g room v l l.length) (hne:h≠g) (vs:List Value):RfI w (wr.setCells g (l.length * 5) vs) h g room v l l.length:=by
 obtain ⟨cs,h1,h2⟩:=p.blk
 obtain ⟨k,q⟩:=setCells_kept g vs (l.length * 5) wr
 obtain ⟨cs', q1,q2⟩:=q cs _ _ h1
 have gi:∀ j,j=g→NotI wr j:=fun j e cur hc=>by rw [e,h1] at hc;cases hc
 refine ⟨k.at p.box hne,⟨cs', q1,by rw [q2,h2]⟩,fun i hi hik=>?_,p.kp.trans k (fun _ _ e=>e)⟩
 obtain ⟨ao,ac,n0,n1,n2,n3,n4,n5,n6⟩:=p.each i hi hik
 have t:∀ o,o<l.length * 5→(wr.setCells g (l.length * 5) vs).cell? ⟨g,o,none⟩=wr.cell? ⟨g,o,none⟩:=fun o ho=>World.cell?_setCells_out g vs _ _ _ (fun _ _=>.inl ho)
 exact ⟨ao,ac,(t _ (by omega)).trans n0,(t _ (by omega)).trans n1,(t _ (by omega)).trans n2,(t _ (by omega)).trans n3,(t _ (by omega)).trans n4,n5.kept k gi,n6⟩
theorem RfI.done {w wr:World} {h g room:Nat} {v:Value} {l:List Nd} (p:RfI w wr h g room v l l.length) (hne:h≠g) (h1:1≤room) (h2:room≤4000) (hl:l.length≤room) (hm:∀ x∈l,mayB l.length x=true) (ha:Ac l) :
  HpB (fun b=>w.heap.size≤b) (wr.setCell ⟨h,1,none⟩ (.int .i64 (l.length:Int))) h g room l∧Kept (fun k=>k=h∨k=g) w (wr.setCell ⟨h,1,none⟩ (.int .i64 (l.length:Int))):=by
 obtain ⟨cs,q1,q2⟩:=p.blk
 have k:Kept (fun k=>k=h) wr (wr.setCell ⟨h,1,none⟩ (.int .i64 (l.length:Int))):=Kept.setCell (S:=fun k=>k=h) (Kept.refl _ _) (p:=⟨h,1,none⟩) (fun _=>rfl) _
 have hi:∀ j,j=h→NotI wr j:=fun j e cur hc=>by rw [e,p.box] at hc;cases hc
 refine ⟨⟨?_,⟨cs,k.at q1 (fun e=>hne e.symm),q2⟩,h1,h2,hl,fun i hi' => (p.each i hi' hi').kept (lt_of_at q1) k (fun e=>hne e.symm) (fun j _ e=>hi j e),hm,ha⟩,?_⟩
 ·have:=setAt p.box 1 (.int .i64 (l.length:Int))
  simpa using this
 ·exact (p.kp.mono (fun _ _ e=>.inr e)).trans k (fun _ _ e=>.inl e)
theorem zero_one (n:Nat):∀ v∈(Builtin.zeroCells #[Value.int .i64 0,.slice none 0 0,.int .i64 0,.bool false,.int .i64 0] n).toList,v.oneCell' = true:=by
 intro v hv
 unfold Builtin.zeroCells at hv
 simp at hv
 obtain ⟨i,hi,rfl⟩:=hv
 have:i % 5<5:=Nat.mod_lt _ (by decide)
 match q:i % 5,this with
 | 0,_=>rfl
 | 1,_=>rfl
 | 2,_=>rfl
 | 3,_=>rfl
 | 4,_=>rfl
theorem run_clear_nodes (w:World) (ty:TypeId) (g o m c:Nat) (hm:0<m) (hc:∀ j,j<m * 5→(w.cell? ⟨g,o+j,none⟩).isSome=true) (hf:∀ j,j<m * 5→w.frozen? ⟨g,o+j,none⟩=false) :
  (Builtin.clear_ #[32] ty #[.slice (some ⟨g,o,none⟩) m c]).run Try.prog w=.ok (.tuple #[]) (w.setCells g o (Builtin.zeroCells #[Value.int .i64 0,.slice none 0 0,.int .i64 0,.bool false,.int .i64 0] m).toList):=by
 have hlen:(Builtin.zeroCells #[Value.int .i64 0,.slice none 0 0,.int .i64 0,.bool false,.int .i64 0] m).toList.length=m * 5:=by simp [Builtin.zeroCells]
 have hst:=run_storeCells_cells (P:=Try.prog) g o (Builtin.zeroCells #[Value.int .i64 0,.slice none 0 0,.int .i64 0,.bool false,.int .i64 0] m).toList 0 w (by rw [hlen];simpa using hc) (by rw [hlen];simpa using hf) (zero_one m)
 simp only [Nat.add_zero] at hst
 obtain ⟨k,rfl⟩:∃ k,m=k+1:=⟨m-1,by omega⟩
 have hcl:(Value.agg #[.int .i64 0,.slice none 0 0,.int .i64 0,.bool false,.int .i64 0]).cells = #[Value.int .i64 0,.slice none 0 0,.int .i64 0,.bool false,.int .i64 0]:=rfl
 simp [Builtin.clear_,run_underlying Try.underlying32,hcl,hst]
set_option maxHeartbeats 1000000 in
theorem refill_yes {B:Nat→Prop} {w:World} {h g room:Nat} {l:List Nd} (p:HpB B w h g room l) {ao:Option Addr} {ac:Nat} {l' : List Nd} (hs:NsV (fun b=>b≠g) w ao l') (hE:RfE room l' 0) :
  Calls Try.prog 42 #[.pointer (some ⟨h,0,none⟩),.slice ao l'.length ac] w fun e w' => e=.returned (.int .i64 0)∧HpB (fun b=>w.heap.size≤b) w' h g room l' ∧ Kept (fun k=>k=h∨k=g) w w' := by
 obtain ⟨a,b,c⟩:l'.length≤room∧l'.all (mayB l'.length)=true∧Ac l' := by
  rcases hE with ⟨_,e⟩ | ⟨_,_,e⟩ | ⟨_,_,_,e⟩ | ⟨a,b,c,_⟩
  ·cases e
  ·cases e
  ·cases e
  ·exact ⟨a,b,c⟩
 obtain ⟨c0,c1⟩:=p.cells
 have hr1:=p.rm1
 have hr2:=p.rm2
 have hne:=p.ne
 have j1:¬ (room:Int)<(l'.length:Int):=by omega
 have CS:=shaped_any (ac:=ac) hs.weak (by omega)
 obtain ⟨f1,f2,f3⟩:=few_of_may b
 have CR:Hid (∀ ww,Same0 w ww→Calls Try.prog 61 #[.slice ao l'.length ac] ww fun e w' => RingQ l' ww e w'):=fun ww hk=>ringed_any (hs.same hk).weak f2 f3 (by omega)
 have HAC:Hid (Ac l'):=c
 have HF1:Hid (∀ x∈l', mayB l'.length x=true):=f1
 have HF3:Hid (∀ x∈l', x.2.1.length≤6):=f3
 have HI0:Hid (∀ ww,Same0 w ww→RfI w ww h g room (.int .i64 (l.length:Int)) l' 0):=fun ww hk=>by
  obtain ⟨cs,h1,h2⟩:=p.blk
  exact ⟨hk.at0 p.box,⟨cs,hk.at0 h1,h2⟩,fun i _ hi=>absurd hi (Nat.not_lt_zero _),hk.mono (fun _ _ f=>f.elim)⟩
 have HGI:Hid (∀ k,k=g→NotI w k):=fun k e cur hc=>by
  obtain ⟨cs,h1,h2⟩:=p.blk
  rw [e,h1] at hc;cases hc
 have HNS:Hid (∀ ww,Kept (fun k=>k=g) w ww→∀ j (hj:j<l'.length),∃ nb noff xo xc,ao=some ⟨nb,noff,none⟩∧ww.cell? ⟨nb,noff+j * 5,none⟩=some (.int .i64 l'[j].1)∧ww.cell? ⟨nb,noff+j * 5+1,none⟩=some (.slice xo l'[j].2.1.length xc)∧ww.cell? ⟨nb,noff+j * 5+2,none⟩=some (.int .i64 l'[j].2.2.1)∧ww.cell? ⟨nb,noff+j * 5+3,none⟩=some (.bool l'[j].2.2.2.1)∧ww.cell? ⟨nb,noff+j * 5+4,none⟩=some (.int .i64 l'[j].2.2.2.2)∧Arg ww xo l'[j].2.1 xc):=fun ww hk j hj=>by
  rcases hs.kept hk (fun _ q t=>q t) with e | ⟨nb,noff,e, -, -,hn⟩
  ·rw [e] at hj;simp at hj
  ·obtain ⟨xo,xc,n0,n1,n2,n3,n4,n5, -⟩:=hn j hj
   exact ⟨nb,noff,xo,xc,e,n0,n1,n2,n3,n4,n5⟩
 rw [b] at CS
 have l0:(0:Int)≤(l'.length:Int):=by omega
 have l1:(l'.length:Int)≤(room:Int):=by omega
 clear hs b f1 f2 f3 c hE
 go_enter Try.func42,Try.ntmps42
 go_upto_region 7 with (first | (go_at_call 60;refine CS.mono ?_;rintro e w1 ⟨rfl,k1⟩))
 have CR1:=CR.out w1 k1
 clear CR CS
 go_upto_region 10 with (first | (go_at_call 61;refine CR1.mono ?_;rintro e w2 ⟨b,rfl,hb,k2⟩;obtain rfl:b=false:=(by cases b;rfl;exact absurd HAC.out (hb.1 rfl))))
 have HI2:Hid (RfI w w2 h g room (.int .i64 (l.length:Int)) l' 0):=HI0.out w2 (k1.trans' k2)
 have hw2:=(k1.trans' k2).size
 clear CR1 hb k1 k2 c0 c1 HI0
 go_loopw [28] (fun i wr=>∃ k:Nat,i=.int .i64 (k:Int)∧k≤l'.length∧Hid (RfI w wr h g room (.int .i64 (l.length:Int)) l' k)) (fun i _=>l'.length-(intOf i).toNat)
 case atStart=>exact ⟨0,rfl,Nat.zero_le _,HI2⟩
 case round=>
  clear HI2
  obtain ⟨k,rfl,hk,HI⟩:=hrel
  by_cases hlt:k<l'.length
  ·have j2:(k:Int)<(l'.length:Int):=by omega
   have j3:(0:Int)≤(k:Int):=by omega
   have j4:(k:Int)<(room:Int):=by omega
   have hkr:k<room:=by omega
   obtain ⟨nb,noff,xo,xc,rfl,n0,n1,n2,n3,n4,n5⟩:=HNS.out wr HI.out.kp k hlt
   obtain ⟨W3,hW3⟩:∃ W3,W3=wr.alloc (.cells #[.int .i64 l'[k].1,.slice xo l'[k].2.1.length xc,.int .i64 l'[k].2.2.1,.bool l'[k].2.2.2.1,.int .i64 l'[k].2.2.2.2] 47):=⟨_,rfl⟩
   have kb:Same0 wr W3:=by rw [hW3];exact (Kept.refl _ _).alloc _
   have kd:Same0 wr W3.drew:=kb.drew
   obtain ⟨x0,x1,x2,x3,x4⟩:=box_node' wr l'[k] xo xc (show Same0 _ W3.drew by rw [hW3];exact (Kept.refl _ _).drew)
   have c0:=(HI.out.same kd).cells
   have h6:=HF3.out _ (List.getElem_mem hlt)
   have CC:=copied_any (x:=l'[k]) (ac:=xc) (n5.onto kd) (by omega)
   have HP:Hid (∀ w3 bo bc,Same0 wr w3→ArgT w3 bo l'[k].2.1 bc→(∀ a,bo=some a→w.heap.size≤a.block)→RfI w (put5 w3 g (k * 5) (.int .i64 l'[k].1) (.slice bo l'[k].2.1.length bc) (.int .i64 l'[k].2.2.1) (.bool l'[k].2.2.2.1) (.int .i64 l'[k].2.2.2.2)) h g room (.int .i64 (l.length:Int)) l' (k+1)):=fun w3 bo bc hk3 ha hb=>HI.out.put hne hk3 hlt hkr ha hb
   have HSZ:Hid (w.heap.size≤W3.drew.heap.size):=Nat.le_trans HI.out.kp.size kd.size
   have HT:Hid (∀ w3,Same0 wr w3→(∃ u0 u1 u2 u3 u4,w3.cell? ⟨g,k * 5,none⟩=some u0∧w3.cell? ⟨g,k * 5+1,none⟩=some u1∧w3.cell? ⟨g,k * 5+2,none⟩=some u2∧w3.cell? ⟨g,k * 5+3,none⟩=some u3∧w3.cell? ⟨g,k * 5+4,none⟩=some u4)∧(∀ o,w3.frozen? ⟨g,o,none⟩=false)∧w3.cell? ⟨h,0,none⟩=some (.slice (some ⟨g,0,none⟩) room room)):=fun w3 hk3=>⟨((HI.out.same hk3).there hkr).1,((HI.out.same hk3).there hkr).2,(HI.out.same hk3).cells⟩
   clear n5 kb
   go_upto_region 12 with fail
   rw [← hW3]
   clear hW3 n0 n1 n2 n3 n4
   go_region_with (first | (go_at_call 46;refine CC.mono ?_;rintro e w5 ⟨bo,bc,rfl,ha,hbb,hk5⟩;have K5:=kd.trans' hk5;obtain ⟨⟨u0,u1,u2,u3,u4,t0,t1,t2,t3,t4⟩,ff,cc1⟩:=HT.out w5 K5;have f0:=ff (k * 5);have f1:=ff (k * 5+1);have f2:=ff (k * 5+2);have f3:=ff (k * 5+3);have f4:=ff (k * 5+4);clear ff))
   all_goals
    have HN:Hid (RfI w (put5 w5 g (k * 5) (.int .i64 l'[k].1) (.slice bo l'[k].2.1.length bc) (.int .i64 l'[k].2.2.1) (.bool l'[k].2.2.2.1) (.int .i64 l'[k].2.2.2.2)) h g room (.int .i64 (l.length:Int)) l' (k+1)):=HP.out w5 bo bc K5 ha (fun a e=>Nat.le_trans HSZ.out (hbb a e))
    clear t0 t1 t2 t3 t4 f0 f1 f2 f3 f4 cc1 x0 x1 x2 x3 x4 c0 CC ha hbb
    go_wp2
    go_roundw
    case rel=>first | exact ⟨k+1,by go_num,by omega,HN⟩ | ((repeat apply Exists.intro);exact ⟨⟨k+1,by go_num,by omega,HN⟩,rfl⟩)
    case measure=>simp [intOf];omega
  ·have hkl:k=l'.length:=by omega
   subst hkl
   have c0:=HI.out.cells
   go_upto_region 14 with fail
   by_cases hfull:l'.length<room
   ·have l2:(l'.length:Int)<(room:Int):=by omega
    obtain ⟨Wz,hWz⟩:∃ Wz,Wz=wr.setCells g (l'.length * 5) (Builtin.zeroCells #[Value.int .i64 0,.slice none 0 0,.int .i64 0,.bool false,.int .i64 0] (room-l'.length)).toList:=⟨_,rfl⟩
    have HCL:∀ ty,(Builtin.clear_ #[32] ty #[.slice (some ⟨g,l'.length * 5,none⟩) (room-l'.length) (room-l'.length)]).run Try.prog wr=.ok (.tuple #[]) Wz:=by
     intro ty
     obtain ⟨cs,q1,q2⟩:=HI.out.blk
     rw [hWz]
     refine run_clear_nodes wr ty g _ _ _ (by omega) (fun j hj=>?_) (fun j _=>frozenAt q1 _)
     rw [cellAt q1]
     simp
     omega
    have HIZ:Hid (RfI w Wz h g room (.int .i64 (l.length:Int)) l' l'.length):=by rw [hWz];exact HI.out.cleared hne _
    have z1:Wz.cell? ⟨h,1,none⟩=some (.int .i64 (l.length:Int)):=cellAt HIZ.out.box 1
    have z2:Wz.frozen? ⟨h,1,none⟩=false:=frozenAt HIZ.out.box 1
    have FF:Hid (HpB (fun b=>w.heap.size≤b) (Wz.setCell ⟨h,1,none⟩ (.int .i64 (l'.length:Int))) h g room l' ∧ Kept (fun k=>k=h∨k=g) w (Wz.setCell ⟨h,1,none⟩ (.int .i64 (l'.length:Int)))):=HIZ.out.done hne hr1 hr2 a HF1.out HAC.out
    clear hWz HIZ HI HNS p
    go_wp2
    go_ret
    exact ⟨rfl,FF.out.1,FF.out.2⟩
   ·have hfl:l'.length=room:=by omega
    have z1:wr.cell? ⟨h,1,none⟩=some (.int .i64 (l.length:Int)):=cellAt HI.out.box 1
    have z2:wr.frozen? ⟨h,1,none⟩=false:=frozenAt HI.out.box 1
    have FF:Hid (HpB (fun b=>w.heap.size≤b) (wr.setCell ⟨h,1,none⟩ (.int .i64 (l'.length:Int))) h g room l' ∧ Kept (fun k=>k=h∨k=g) w (wr.setCell ⟨h,1,none⟩ (.int .i64 (l'.length:Int)))):=HI.out.done hne hr1 hr2 a HF1.out HAC.out
    rw [hfl] at FF ⊢
    have HCL:∀ ty,(Builtin.clear_ #[32] ty #[.slice (some ⟨g,0,none⟩) 0 0]).run Try.prog wr=.ok (.tuple #[]) wr:=fun ty=>by simp [Builtin.clear_,run_underlying Try.underlying32]
    clear HI HNS p hfl hfull hlt
    go_wp2
    go_ret
    exact ⟨rfl,FF.out.1,FF.out.2⟩
end Go.Proofs.Ytmloedlkoijfbaa
namespace Go.Proofs.Ytmloedlkoijfbaa
set_option maxRecDepth 100000
set_option linter.unusedVariables false
open Go.RowKit
abbrev Any:Nat→Prop:=fun _=>True
def OwnH (h g r:Nat) (v:Value) (k:Nat):Prop:=k=h∨k=g∨k=r∨v.ownBlock=some k
structure HP2 (B:Nat→Prop) (b0:Nat) (w:World) (h g r:Nat) (v:Value) (room:Nat) (lp lr:List Nd):Prop where
 p:HpB B w h g room lp
 q:RhB B w r room v lr
 lo:b0≤h∧b0≤g∧b0≤r∧∀ k,v.ownBlock=some k→b0≤k
 dj:v.ownBlock≠some g
 cl:∀ k,w.heap.size≤k→B k
def HQ (B:Nat→Prop) (h g room:Nat) (l1:List Nd) (w w' : World):Prop:=HpB (fun b=>B b∨w.heap.size≤b) w' h g room l1∧Kept (fun k=>k=h∨k=g) w w'
def RQ (B:Nat→Prop) (r room:Nat) (v:Value) (l1:List Nd) (w w' : World):Prop:=∃ v', RhB (fun b=>B b∨w.heap.size≤b) w' r room v' l1∧(∀ k,v'.ownBlock=some k→v.ownBlock=some k∨w.heap.size≤k)∧Kept (fun k=>k=r∨v.ownBlock=some k) w w'
theorem RhB.to {B B' : Nat→Prop} {w:World} {r room:Nat} {v:Value} {l:List Nd} (p:RhB B w r room v l) (hB:∀ k,k<w.heap.size→B k→B' k):RhB B' w r room v l:=⟨p.box,p.row.mono hB,p.rm1,p.rm2,p.le,p.may,p.ac⟩
theorem HpB.hI {B:Nat→Prop} {w:World} {h g room:Nat} {l:List Nd} (p:HpB B w h g room l):NotI w h:=fun cur hc=>by rw [p.box] at hc;cases hc
section
variable {B : Nat → Prop} {b0 : Nat} {w w' : World} {h g r : Nat} {v : Value} {room : Nat} {lp lr : List Nd}
theorem HP2.apart (s:HP2 B b0 w h g r v room lp lr):r≠h∧r≠g∧v.ownBlock≠some h∧v.ownBlock≠some r:=by
 refine ⟨fun e=>?_,fun e=>?_,fun e=>?_,fun e=>?_⟩
 ·have h1:=s.q.box;rw [e,s.p.box] at h1;cases h1
 ·have h1:=s.q.box
  obtain ⟨cs,h2,_⟩:=s.p.blk
  rw [e,h2] at h1;cases h1
 ·obtain ⟨cur,h1⟩:=s.q.row.own_cells e;rw [s.p.box] at h1;cases h1
 ·obtain ⟨cur,h1⟩:=s.q.row.own_cells e;rw [s.q.box] at h1;cases h1
theorem HP2.own (s:HP2 B b0 w h g r v room lp lr) {k:Nat} (hk:OwnH h g r v k):NotI w k∧b0≤k∧k<w.heap.size:=by
 rcases hk with e | e | e | e
 ·subst e;exact ⟨s.p.hI,s.lo.1,s.p.ltH⟩
 ·subst e;exact ⟨s.p.notg,s.lo.2.1,s.p.ltG⟩
 ·subst e;exact ⟨s.q.noti,s.lo.2.2.1,s.q.lt⟩
 ·have:=s.q.row.block e;exact ⟨this.2.2,s.lo.2.2.2 _ e,this.2.1⟩
theorem HP2.kept {S:Nat→Prop} (s:HP2 B b0 w h g r v room lp lr) (hk:Kept S w w') (hn:∀ k,OwnH h g r v k→¬ S k) (hS:∀ k,B k→S k→NotI w k):HP2 B b0 w' h g r v room lp lr:=
 ⟨s.p.kept hk (hn _ (.inl rfl)) (hn _ (.inr (.inl rfl))) hS,s.q.kept hk (hn _ (.inr (.inr (.inl rfl)))) (fun k e=>hn _ (.inr (.inr (.inr e)))) hS,s.lo,s.dj,fun k e=>s.cl k (Nat.le_trans hk.size e)⟩
theorem HP2.same (s:HP2 B b0 w h g r v room lp lr) (hk:Same0 w w'):HP2 B b0 w' h g r v room lp lr:=s.kept hk (fun _ _ f=>f) (fun _ _ f=>f.elim)
theorem HP2.any (s:HP2 B b0 w h g r v room lp lr):HP2 Any b0 w h g r v room lp lr:=⟨s.p.mono (fun _ _ _ _=>trivial),s.q.to (fun _ _ _=>trivial),s.lo,s.dj,fun _ _=>trivial⟩
theorem HP2.away (s:HP2 B b0 w h g r v room lp lr) (hk:Same0 w w') {q:Nat} (h1:w.heap.size≤q) (h2:q<w'.heap.size):HP2 (fun k=>k≠q) b0 w' h g r v room lp lr:=
 ⟨(s.p.mono (B' := fun k=>k≠q) (fun k hk _ _=>by omega)).same hk,(s.q.to (B' := fun k=>k≠q) (fun k hk _=>by omega)).same hk,s.lo,s.dj,fun k e=>by omega⟩
theorem HP2.prog {l1:List Nd} (s:HP2 B b0 w h g r v room lp lr) (hq:HQ B h g room l1 w w'):HP2 B b0 w' h g r v room l1 lr:=by
 obtain ⟨a1,a2,a3,a4⟩:=s.apart
 refine ⟨hq.1.mono (fun k _ _ e=>e.elim id (s.cl k)),s.q.kept hq.2 (fun e=>by rcases e with e | e;exact a1 e;exact a2 e) (fun k e f=>?_) (fun k _ f=>?_),s.lo,s.dj,fun k e=>s.cl k (Nat.le_trans hq.2.size e)⟩
 ·rcases f with f | f
  ·rw [f] at e;exact a3 e
  ·rw [f] at e;exact s.dj e
 ·rcases f with f | f
  ·rw [f];exact s.p.hI
  ·rw [f];exact s.p.notg
theorem HP2.doc {l1:List Nd} (s:HP2 B b0 w h g r v room lp lr) (hr:RQ B r room v l1 w w'):∃ v', HP2 B b0 w' h g r v' room lp l1∧(∀ k,v'.ownBlock=some k→v.ownBlock=some k∨w.heap.size≤k)∧Kept (fun k=>k=r∨v.ownBlock=some k) w w' := by
 obtain ⟨a1,a2,a3,a4⟩:=s.apart
 obtain ⟨v', h1,h2,h3⟩:=hr
 have lg:=s.p.ltG
 have hb:b0≤w.heap.size:=by have:=s.lo.1;have:=s.p.ltH;omega
 refine ⟨v', ⟨s.p.kept h3 (fun e=>?_) (fun e=>?_) (fun k _ f=>?_),h1.to (fun k _ e=>e.elim id (s.cl k)),⟨s.lo.1,s.lo.2.1,s.lo.2.2.1,fun k e=>?_⟩,fun e=>?_,fun k e=>s.cl k (Nat.le_trans h3.size e)⟩,h2,h3⟩
 ·rcases e with e | e
  ·exact a1 e.symm
  ·exact a3 e
 ·rcases e with e | e
  ·exact a2 e.symm
  ·exact s.dj e
 ·rcases f with f | f
  ·rw [f];exact s.q.noti
  ·exact (s.q.row.block f).2.2
 ·rcases h2 k e with f | f
  ·exact s.lo.2.2.2 k f
  ·omega
 ·rcases h2 g e with f | f
  ·exact s.dj f
  ·omega
end
structure St2 (B:Nat→Prop) (b0:Nat) (w:World) (h g r:Nat) (v:Value) (room:Nat) (w' : World) (v' : Value) (lp lr:List Nd):Prop where
 s:HP2 B b0 w' h g r v' room lp lr
 o:∀ k,OwnH h g r v' k→OwnH h g r v k∨w.heap.size≤k
 k:Kept (OwnH h g r v) w w'
section
variable {B : Nat → Prop} {b0 : Nat} {w w1 w2 : World} {h g r : Nat} {v v1 : Value} {room : Nat} {lp lr l1 : List Nd}
theorem St2.start (s:HP2 B b0 w h g r v room lp lr):St2 B b0 w h g r v room w v lp lr:=⟨s,fun k e=>.inl e,Kept.refl _ _⟩
theorem St2.same (s:St2 B b0 w h g r v room w1 v1 lp lr) (hk:Same0 w1 w2):St2 B b0 w h g r v room w2 v1 lp lr:=⟨s.s.same hk,s.o,s.k.trans hk (fun _ _ f=>f.elim)⟩
theorem St2.any (s:St2 B b0 w h g r v room w1 v1 lp lr):St2 Any b0 w h g r v room w1 v1 lp lr:=⟨s.s.any,s.o,s.k⟩
theorem St2.mine {S:Nat→Prop} (s:St2 B b0 w h g r v room w1 v1 lp lr) (hk:Kept S w1 w2) (h1:∀ k,S k→w.heap.size≤k) (h2:∀ k,OwnH h g r v1 k→¬ S k) (hB:∀ k,B k→S k→NotI w1 k):St2 B b0 w h g r v room w2 v1 lp lr:=⟨s.s.kept hk h2 hB,s.o,s.k.trans hk (fun i hi e=>by have:=h1 i e;omega)⟩
theorem St2.prog (s:St2 B b0 w h g r v room w1 v1 lp lr) (hq:HQ B h g room l1 w1 w2):St2 B b0 w h g r v room w2 v1 l1 lr:=
 ⟨s.s.prog hq,s.o,s.k.trans hq.2 (fun i hi e=>e.elim .inl (fun e=>.inr (.inl e)))⟩
theorem St2.doc (s:St2 B b0 w h g r v room w1 v1 lp lr) (hr:RQ B r room v1 l1 w1 w2):∃ v2,St2 B b0 w h g r v room w2 v2 lp l1∧(∀ k,v2.ownBlock=some k→v1.ownBlock=some k∨w1.heap.size≤k)∧Kept (fun k=>k=r∨v1.ownBlock=some k) w1 w2:=by
 obtain ⟨v2,q1,q2,q3⟩:=s.s.doc hr
 have hz:=s.k.size
 refine ⟨v2,⟨q1,fun k e=>?_,s.k.trans q3 (fun i hi e=>?_)⟩,q2,q3⟩
 ·rcases e with e | e | e | e
  ·exact .inl (.inl e)
  ·exact .inl (.inr (.inl e))
  ·exact .inl (.inr (.inr (.inl e)))
  ·rcases q2 k e with f | f
   ·exact s.o k (.inr (.inr (.inr f)))
   ·exact .inr (by omega)
 ·rcases e with e | e
  ·exact .inr (.inr (.inl e))
  ·rcases s.o i (.inr (.inr (.inr e))) with f | f
   ·exact f
   ·omega
end
theorem HQ.of_g {B:Nat→Prop} {h g room:Nat} {l1:List Nd} {w w' : World} (p:HpB B w' h g room l1) (k:Kept (fun k=>k=g) w w'):HQ B h g room l1 w w' := ⟨p.mono (fun _ _ _ e=>.inl e),k.mono (fun _ _ e=>.inr e)⟩
theorem HQ.still {B:Nat→Prop} {h g room:Nat} {l:List Nd} {w w' : World} (p:HpB B w h g room l) (k:Same0 w w'):HQ B h g room l w w' := ⟨(p.same k).mono (fun _ _ _ e=>.inl e),k.mono (fun _ _ f=>f.elim)⟩
theorem RQ.of_v {B:Nat→Prop} {r room:Nat} {v:Value} {l1:List Nd} {w w' : World} (p:RhB B w' r room v l1) (k:Kept (fun k=>v.ownBlock=some k) w w'):RQ B r room v l1 w w' := ⟨v,p.to (fun _ _ e=>.inl e),fun k e=>.inl e,k.mono (fun _ _ e=>.inr e)⟩
theorem RQ.still {B:Nat→Prop} {r room:Nat} {v:Value} {l:List Nd} {w w' : World} (p:RhB B w r room v l) (k:Same0 w w'):RQ B r room v l w w' := ⟨v,(p.same k).to (fun _ _ e=>.inl e),fun k e=>.inl e,k.mono (fun _ _ f=>f.elim)⟩
theorem make_two (l:List Nd) (room:Nat) (s:Int) (xs:List Int):∃ (a E:Int) (l1:List Nd),(∀ {B:Nat→Prop} {w:World} {h g:Nat} {ao:Option Addr} {cap:Nat},HpB B w h g room l→Arg w ao xs cap→Calls Try.prog 20 #[.pointer (some ⟨h,0,none⟩),.int .i64 s,.slice ao xs.length cap] w fun e w' => e=.returned (.tuple #[.int .i64 a,.int .i64 E])∧HQ B h g room l1 w w') ∧
  (∀ {B:Nat→Prop} {w:World} {r:Nat} {v:Value} {ao:Option Addr} {cap:Nat},RhB B w r room v l→Arg w ao xs cap→Calls Try.prog 29 #[.pointer (some ⟨r,0,none⟩),.int .i64 s,.slice ao xs.length cap] w fun e w' => e=.returned (.tuple #[.int .i64 a,.int .i64 E])∧RQ B r room v l1 w w'):=by
 by_cases he:mkE l room s xs=0
 ·exact ⟨(l.length:Int),0,l ++ [(s,xs,0,false,0)],fun p hx=>(make_yes p s hx he).mono (fun e w' ⟨h1,h2,h3⟩=>⟨h1,h2,h3⟩),fun q hx=>(rmake_yes q s hx he).mono (fun e w' ⟨h1,v', h2,h3,h4⟩=>⟨h1,v', h2,h3,h4⟩)⟩
 ·exact ⟨0,mkE l room s xs,l,fun p hx=>(make_no p s hx he).mono (fun e w' ⟨h1,h2⟩=>⟨h1,HQ.still p h2⟩),fun q hx=>(rmake_no q s hx he).mono (fun e w' ⟨h1,h2⟩=>⟨h1,RQ.still q h2⟩)⟩
theorem point_two {l:List Nd} {room:Nat} (a t:Int):∃ (E:Int) (l1:List Nd),(∀ {B:Nat→Prop} {w:World} {h g:Nat},HpB B w h g room l→Calls Try.prog 22 #[.pointer (some ⟨h,0,none⟩),.int .i64 a,.int .i64 t] w fun e w' => e=.returned (.int .i64 E)∧HQ B h g room l1 w w') ∧
  (∀ {B:Nat→Prop} {w:World} {r:Nat} {v:Value},RhB B w r room v l→Calls Try.prog 34 #[.pointer (some ⟨r,0,none⟩),.int .i64 a,.int .i64 t] w fun e w' => e=.returned (.int .i64 E)∧RQ B r room v l1 w w'):=by
 by_cases ha:(0≤a∧a<(l.length:Int))∧0≤t∧t<(l.length:Int)
 ·obtain ⟨i,rfl⟩:∃ i:Nat,a=(i:Int):=⟨a.toNat,by omega⟩
  obtain ⟨j,rfl⟩:∃ j:Nat,t=(j:Int):=⟨t.toNat,by omega⟩
  have hi:i<l.length:=by omega
  have hj:j<l.length:=by omega
  by_cases hr:Rc l j i
  ·refine ⟨113,l,fun p=>(point_in p i j hi hj).mono ?_,fun q=>(rpoint_in q i j hi hj).mono ?_⟩
   ·rintro e w' (⟨_,rfl,hk⟩ | ⟨hn,_⟩)
    ·exact ⟨rfl,HQ.still p hk⟩
    ·exact absurd hr hn
   ·rintro e w' (⟨_,rfl,hk⟩ | ⟨hn,_⟩)
    ·exact ⟨rfl,RQ.still q hk⟩
    ·exact absurd hr hn
  ·refine ⟨0,l.set i (indN j),fun p=>(point_in p i j hi hj).mono ?_,fun q=>(rpoint_in q i j hi hj).mono ?_⟩
   ·rintro e w' (⟨hn,_⟩ | ⟨_,rfl,hp,hk⟩)
    ·exact absurd hn hr
    ·exact ⟨rfl,HQ.of_g hp hk⟩
   ·rintro e w' (⟨hn,_⟩ | ⟨_,rfl,hp,hk⟩)
    ·exact absurd hn hr
    ·exact ⟨rfl,RQ.of_v hp hk⟩
 ·exact ⟨112,l,fun p=>(point_out p a t ha).mono (fun e w' ⟨h1,h2⟩=>⟨h1,HQ.still p h2⟩),fun q=>(rpoint_out q a t ha).mono (fun e w' ⟨h1,h2⟩=>⟨h1,by rw [h2];exact RQ.still q (Kept.refl _ _)⟩)⟩
theorem mark_two {l:List Nd} {room:Nat} (a m:Int):∃ (E:Int) (l1:List Nd),(∀ {B:Nat→Prop} {w:World} {h g:Nat},HpB B w h g room l→Calls Try.prog 35 #[.pointer (some ⟨h,0,none⟩),.int .i64 a,.int .i64 m] w fun e w' => e=.returned (.int .i64 E)∧HQ B h g room l1 w w') ∧
  (∀ {B:Nat→Prop} {w:World} {r:Nat} {v:Value},RhB B w r room v l→Calls Try.prog 36 #[.pointer (some ⟨r,0,none⟩),.int .i64 a,.int .i64 m] w fun e w' => e=.returned (.int .i64 E)∧RQ B r room v l1 w w'):=by
 by_cases ha:0≤a∧a<(l.length:Int)
 ·obtain ⟨i,rfl⟩:∃ i:Nat,a=(i:Int):=⟨a.toNat,by omega⟩
  have hi:i<l.length:=by omega
  by_cases hr:markE l (i:Int) m=0
  ·refine ⟨0,l.set i (marked l[i] m),fun p=>(mark_in p i hi m).mono ?_,fun q=>(rmark_in q i hi m).mono ?_⟩
   ·rintro e w' (⟨hn,_⟩ | ⟨_,_,_,_,rfl,hp,hk⟩)
    ·exact absurd hr hn
    ·exact ⟨rfl,HQ.of_g hp hk⟩
   ·rintro e w' (⟨hn,_⟩ | ⟨_,rfl,hp,hk⟩)
    ·exact absurd hr hn
    ·exact ⟨rfl,RQ.of_v hp hk⟩
  ·refine ⟨markE l (i:Int) m,l,fun p=>(mark_in p i hi m).mono ?_,fun q=>(rmark_in q i hi m).mono ?_⟩
   ·rintro e w' (⟨_,rfl,hk⟩ | ⟨hn,_⟩)
    ·exact ⟨rfl,HQ.still p hk⟩
    ·exact absurd hn hr
   ·rintro e w' (⟨_,rfl,hk⟩ | ⟨hn,_⟩)
    ·exact ⟨rfl,by rw [hk];exact RQ.still q (Kept.refl _ _)⟩
    ·exact absurd hn hr
 ·exact ⟨112,l,fun p=>(mark_out p a m ha).mono (fun e w' ⟨h1,h2⟩=>⟨h1,HQ.still p h2⟩),fun q=>(rmark_out q a m ha).mono (fun e w' ⟨h1,h2⟩=>⟨h1,by rw [h2];exact RQ.still q (Kept.refl _ _)⟩)⟩
theorem clear_two {l:List Nd} {room:Nat}:(∀ {B:Nat→Prop} {w:World} {h g:Nat},HpB B w h g room l→Calls Try.prog 37 #[.pointer (some ⟨h,0,none⟩)] w fun e w' => (∃ u,e=.returned u)∧HQ B h g room (l.map (fun x=>marked x 0)) w w') ∧
  (∀ {B:Nat→Prop} {w:World} {r:Nat} {v:Value},RhB B w r room v l→Calls Try.prog 38 #[.pointer (some ⟨r,0,none⟩)] w fun e w' => (∃ u,e=.returned u)∧RQ B r room v (l.map (fun x=>marked x 0)) w w'):=
 ⟨fun p=>(hclear_any p).mono (fun e w' ⟨h1,h2,h3⟩=>⟨h1,HQ.of_g h2 h3⟩),fun q=>(rclear_any q).mono (fun e w' ⟨h1,h2,h3⟩=>⟨h1,RQ.of_v h2 h3⟩)⟩
theorem rfe_two (room:Nat) (l:List Nd):∃ E,RfE room l E:=by
 by_cases h1:room<l.length
 ·exact ⟨_,.inl ⟨h1,rfl⟩⟩
 ·by_cases h2:l.all (mayB l.length)=true
  ·by_cases h3:Ac l
   ·exact ⟨_,.inr (.inr (.inr ⟨by omega,h2,h3,rfl⟩))⟩
   ·exact ⟨_,.inr (.inr (.inl ⟨by omega,h2,h3,rfl⟩))⟩
  ·exact ⟨_,.inr (.inl ⟨by omega,Bool.eq_false_iff.2 h2,rfl⟩)⟩
theorem refill_two (l:List Nd) (room:Nat) (l' : List Nd):∃ (E:Int) (l1:List Nd),(∀ {B:Nat→Prop} {w:World} {h g:Nat} {ao:Option Addr} (ac:Nat),HpB B w h g room l→NsV (fun b=>b≠g) w ao l' → l'.length≤maxLen→Calls Try.prog 42 #[.pointer (some ⟨h,0,none⟩),.slice ao l'.length ac] w fun e w' => e=.returned (.int .i64 E)∧HQ B h g room l1 w w') ∧
  (∀ {B:Nat→Prop} {w:World} {r:Nat} {v:Value} {ao:Option Addr} (ac:Nat),RhB B w r room v l→NsW w ao l' → l'.length≤maxLen→Calls Try.prog 43 #[.pointer (some ⟨r,0,none⟩),.slice ao l'.length ac] w fun e w' => e=.returned (.int .i64 E)∧RQ B r room v l1 w w'):=by
 obtain ⟨E,hE⟩:=rfe_two room l'
 by_cases h0:E=0
 ·subst h0
  refine ⟨0,l', fun ac p hs hm=>(refill_yes p hs hE).mono (fun e w' ⟨h1,h2,h3⟩=>⟨h1,h2.mono (fun _ _ _ e=>.inr e),h3⟩),fun ac q hs hm=>(rrefill_any q hs hm hE).mono ?_⟩
  rintro e w' ⟨h1,(⟨hn,_⟩ | ⟨_,v', h2,h3,h4⟩)⟩
  ·exact absurd rfl hn
  ·exact ⟨h1,v', h2.to (fun _ _ e=>.inr e),fun k e=>.inr (h4 k e),h3.mono (fun _ _ e=>.inl e)⟩
 ·refine ⟨E,l,fun ac p hs hm=>(refill_no p hs.weak hm hE h0).mono (fun e w' ⟨h1,h2⟩=>⟨h1,HQ.still p h2⟩),fun ac q hs hm=>(rrefill_any q hs hm hE).mono ?_⟩
  rintro e w' ⟨h1,(⟨_,hk⟩ | ⟨hn,_⟩)⟩
  ·exact ⟨h1,RQ.still q hk⟩
  ·exact absurd hn h0
end Go.Proofs.Ytmloedlkoijfbaa
namespace Go.Proofs.Ytmloedlkoijfbaa
set_option maxRecDepth 100000
set_option linter.unusedVariables false
open Go.RowKit
attribute [local go_sem ↓] Go.wp_at_zero Go.wp_at_succ
def ArgW (w:World) (xo:Option Addr) (n xc:Nat):Prop:=(xo=none∧n=0∧xc=0)∨∃ b cur,xo=some ⟨b,0,none⟩∧w.heap[b]? = some (.cells cur 3 (0,0))∧cur.size=xc∧n≤xc∧xc≤maxLen∧n * 8≤140737488351232
theorem ArgT.w {w:World} {ao:Option Addr} {xs:List Int} {cap:Nat} (h:ArgT w ao xs cap):ArgW w ao xs.length cap:=by
 cases ao with
 | none=>obtain ⟨h0,h1⟩:=h.1.nil rfl;exact .inl ⟨rfl,h0,h1⟩
 | some a=>
  obtain ⟨b,cur,e,hc,hs,hm⟩:=h.own a rfl
  exact .inr ⟨b,cur,by rw [e],hc,hs,h.1.cap', hm,h.1.size⟩
structure WK (B:Nat→Prop) (w w' : World):Prop where
 k:Kept B w w'
 i:∀ (b:Nat) (cur:Array Value),w.heap[b]? = some (.cells cur 3 (0,0))→∃ cur' : Array Value,w'.heap[b]? = some (.cells cur' 3 (0,0))∧cur'.size=cur.size
theorem WK.refl (B:Nat→Prop) (w:World):WK B w w:=⟨Kept.refl _ _,fun b cur h=>⟨cur,h,rfl⟩⟩
theorem WK.of_same {B:Nat→Prop} {w w' : World} (h:Same0 w w'):WK B w w' := ⟨h.mono (fun _ _ f=>f.elim),fun b cur hc=>⟨cur,h.at0 hc,rfl⟩⟩
theorem WK.trans {B S:Nat→Prop} {w w1 w2:World} (h:WK B w w1) (g:WK S w1 w2) (hs:∀ i,i<w.heap.size→S i→B i):WK B w w2:=
 ⟨h.k.trans g.k hs,fun b cur hc=>by
  obtain ⟨c1,h1,e1⟩:=h.i b cur hc
  obtain ⟨c2,h2,e2⟩:=g.i b c1 h1
  exact ⟨c2,h2,e2.trans e1⟩⟩
theorem WK.set {B:Nat→Prop} {w:World} {b:Nat} {cur:Array Value} (h:w.heap[b]? = some (.cells cur 3 (0,0))) (hB:B b) (o:Nat) (v:Value):WK B w (w.setCell ⟨b,o,none⟩ v):=by
 have ks:Kept (fun k=>k=b) w (w.setCell ⟨b,o,none⟩ v):=Kept.setCell (S:=fun k=>k=b) (Kept.refl _ _) (p:=⟨b,o,none⟩) (fun _=>rfl) _
 refine ⟨ks.mono (fun k _ e=>by rw [e];exact hB),fun c cur' hc=>?_⟩
 by_cases e:c=b
 ·subst e
  rw [h] at hc
  cases hc
  exact ⟨_,setAt h o v,by simp⟩
 ·exact ⟨cur', ks.at hc e,rfl⟩
theorem ArgW.wk {B:Nat→Prop} {w w' : World} {xo:Option Addr} {n xc:Nat} (h:ArgW w xo n xc) (hk:WK B w w'):ArgW w' xo n xc:=by
 rcases h with h | ⟨b,cur,e,hc,hs,h1,h2,h3⟩
 ·exact .inl h
 ·obtain ⟨c1,q1,q2⟩:=hk.i b cur hc
  exact .inr ⟨b,c1,e,q1,by rw [q2];exact hs,h1,h2,h3⟩
theorem ArgW.row {w:World} {b n xc:Nat} (h:ArgW w (some ⟨b,0,none⟩) n xc):∃ vs,w.ownsRow 0 3 1 (.slice (some ⟨b,0,none⟩) n xc) n vs:=by
 rcases h with ⟨e,_⟩ | ⟨b', cur,e,hc,hs,h1,h2,h3⟩
 ·cases e
 ·cases e
  exact ⟨cur.toList.take n,by simp;omega,.inr ⟨b,xc,cur,rfl,Nat.zero_le _,hc,h1,h2,by omega,by simp⟩⟩
theorem wpList_two {w0:World} {ops:Array Oper} {rest:List Oper} {o:Oper} {a:Act} {Q:Exit→Act→World→Prop} (hgd:o.guard=none) (s x:Operand) (t:TypeId)
  (ho:o.op=.call { callee:=.builtin .append,args:=#[s,x],argTypes:=#[t,t] }) (ht:Try.prog.underlying t=some (.slice 3))
  (xo:Option Addr) (n xc:Nat) (hs:a.eval s=.slice xo n xc) (hw:ArgW w0 xo n xc) (m1 m2:Int) (hx:a.eval x=.slice (some ⟨w0.heap.size,0,none⟩) 2 2)
  (h:∀ g c cur w', w'.heap[g]? = some (.cells cur 3 (0,0))→2≤cur.size→n+2≤c→(xo=some ⟨g,0,none⟩∨w0.heap.size≤g)→WK (fun b=>xo=some ⟨b,0,none⟩) w0 w' → wpList Try.prog ops Q rest (a.put o.dst (.slice (some ⟨g,0,none⟩) (n+2) c)) w') :
  wpList Try.prog ops Q (o :: rest) a (w0.alloc (.cells #[.int .i64 m1,.int .i64 m2] 3)):=by
 obtain ⟨i,hi,hz0,hz1,hz2⟩:=info_parts info_intT
 have kA:Same0 w0 (w0.alloc (.cells #[.int .i64 m1,.int .i64 m2] 3)):=(Kept.refl _ w0).alloc _
 have hnew:=heap_alloc_new w0 (.cells #[.int .i64 m1,.int .i64 m2] 3)
 have news:∀ j u,[Value.int .i64 m1,.int .i64 m2][j]? = some u→(w0.alloc (.cells #[.int .i64 m1,.int .i64 m2] 3)).cell? ((⟨w0.heap.size,0,none⟩:Addr).add j)=some u:=World.news_of_block (cs:=#[.int .i64 m1,.int .i64 m2]) (t:=3) (fr:=(0,0)) hnew
 have one:∀ u∈[Value.int .i64 m1,.int .i64 m2],u.oneCell' = true:=by intro u hu;simp at hu;rcases hu with rfl | rfl <;> rfl
 have fin:∀ (B:Nat→Prop) (row:Option Nat) w', (w0.alloc (.cells #[.int .i64 m1,.int .i64 m2] 3)).grownBy w' row→(∀ k,row=some k→B k∧∀ cur,w0.heap[k]? = some (.cells cur 3 (0,0))→∃ cur', w'.heap[k]? = some (.cells cur' 3 (0,0))∧cur'.size=cur.size)→WK B w0 w' := fun B row w' hg hr=>by
  have K:Kept (fun k=>row=some k) w0 w' := Kept.grown (Kept.alloc (Kept.refl _ w0) _) hg (fun k e _=>e)
  refine ⟨K.mono (fun k _ e=>(hr k e).1),fun b cur hc=>?_⟩
  by_cases e:row=some b
  ·exact (hr b e).2 cur hc
  ·exact ⟨cur,K.at hc e,rfl⟩
 rcases hw with ⟨rfl,rfl,rfl⟩ | ⟨b,cur,rfl,hc,hsz,h1,h2,h3⟩
 ·refine wpList_append_grows _ hgd s x t ho 3 i (.int .i64 0) 1 8 ht hi hz0 hz1 hz2 rfl (by decide) none 0 0 [] hs (fun _=>⟨rfl,rfl⟩) rfl (fun b e=>by cases e) ⟨w0.heap.size,0,none⟩ 2 2 _ hx rfl news one (by omega) (by unfold maxLen;omega) (by omega) ?_
  intro v' w' hown hgrow
  rcases hown.2 with ⟨_,q⟩ | ⟨g,cap,cu,e,hb,hg,hle,hm,hs2,_⟩
  ·omega
  ·subst e
   exact h g cap cu w' hg (by omega) hle (.inr (by have:=kA.size;omega)) (fin _ none w' hgrow (fun k e=>by cases e))
 ·by_cases hr:n+2≤xc
  ·obtain ⟨vs,hown0⟩:=ArgW.row (w:=w0.alloc (.cells #[.int .i64 m1,.int .i64 m2] 3)) (b:=b) (n:=n) (xc:=xc) (.inr ⟨b,cur,rfl,kA.at0 hc,hsz,h1,h2,h3⟩)
   refine wpList_append_fits _ hgd s x t ho 0 3 i 1 ht hi hz1 b n xc vs hs hown0 ⟨w0.heap.size,0,none⟩ 2 2 _ hx rfl news one hr ?_
   intro w' hown hgrow
   rcases hown.2 with ⟨e,_⟩ | ⟨g,cap,cu,e,hb,hg,hle,hm,hs2,_⟩
   ·cases e
   ·simp only [Value.slice.injEq,Option.some.injEq,Addr.mk.injEq,and_true,true_and] at e
    obtain ⟨rfl,rfl⟩:=e
    exact h b xc cu w' hg (by omega) hr (.inl rfl) (fin _ (some b) w' hgrow (fun k e=>by cases e;exact ⟨rfl,fun cur2 hc2=>⟨cu,hg,by rw [hc] at hc2;cases hc2;omega⟩⟩))
  ·obtain ⟨vs,hown0⟩:=ArgW.row (w:=w0.alloc (.cells #[.int .i64 m1,.int .i64 m2] 3)) (b:=b) (n:=n) (xc:=xc) (.inr ⟨b,cur,rfl,kA.at0 hc,hsz,h1,h2,h3⟩)
   have hvl:vs.length=n * 1:=hown0.1
   refine wpList_append_grows _ hgd s x t ho 3 i (.int .i64 0) 1 8 ht hi hz0 hz1 hz2 rfl (by decide) (some ⟨b,0,none⟩) n xc vs hs (fun e=>by cases e) hvl (fun a e j u hj=>?_) ⟨w0.heap.size,0,none⟩ 2 2 _ hx rfl news one (by omega) (by unfold maxLen;omega) (by omega) ?_
   ·cases e
    have hj' := (List.getElem?_eq_some_iff.1 hj).1
    have:(⟨b,0,none⟩:Addr).add j=⟨b,j,none⟩:=by unfold Addr.add;split <;> simp_all
    rw [this,hown0.cellAt j (by omega)]
    exact hj
   ·intro v' w' hown hgrow
    rcases hown.2 with ⟨_,q⟩ | ⟨g,cap,cu,e,hb,hg,hle,hm,hs2,_⟩
    ·omega
    ·subst e
     exact h g cap cu w' hg (by omega) hle (.inr (by have:=kA.size;omega)) (fin _ none w' hgrow (fun k e=>by cases e))
def NsR (B:Nat→Prop) (w:World) (ao:Option Addr) (N:Nat):Prop:=N=0∨∃ nb noff,ao=some ⟨nb,noff,none⟩∧nb<w.heap.size∧¬ B nb∧∀ j,j<N→∃ xo n xc,w.cell? ⟨nb,noff+j * 5+1,none⟩=some (.slice xo n xc)∧ArgW w xo n xc∧∀ a,xo=some a→B a.block
set_option maxHeartbeats 2000000 in
theorem spoil11_any {B:Nat→Prop} {w:World} {ao:Option Addr} {N:Nat} (h:NsR B w ao N) (ac:Nat) (hN:N≤maxLen) (mk:Int) :
  Calls Try.prog 32 #[.slice ao N ac,.int .i64 mk] w fun e w' => (∃ u,e=.returned u)∧WK B w w' := by
 unfold maxLen at hN
 have H:Hid (NsR B w ao N):=h
 clear h
 go_enter Try.func32,Try.ntmps32
 go_upto_region 1 with fail
 go_loopw [4] (fun i wr=>∃ k:Nat,i=.int .i64 (k:Int)∧k≤N∧Hid (WK B w wr)) (fun i _=>N-(intOf i).toNat)
 case atStart=>exact ⟨0,rfl,Nat.zero_le _,WK.refl _ _⟩
 case round=>
  obtain ⟨k,rfl,hk,HW⟩:=hrel
  by_cases hlt:k<N
  ·obtain ⟨nb,noff,e,hnb,hnB,hc⟩:∃ nb noff,ao=some ⟨nb,noff,none⟩∧nb<w.heap.size∧¬ B nb∧∀ j,j<N→∃ xo n xc,w.cell? ⟨nb,noff+j * 5+1,none⟩=some (.slice xo n xc)∧ArgW w xo n xc∧∀ a,xo=some a→B a.block:=by
    rcases H.out with q | q
    ·omega
    ·exact q
   subst e
   obtain ⟨xo,n,xc,c1,hA,hB⟩:=hc k hlt
   have HC:Hid (∀ ww,WK B w ww→ww.cell? ⟨nb,noff+k * 5+1,none⟩=some (.slice xo n xc)∧ArgW ww xo n xc):=fun ww hk=>⟨(hk.k.cell (p:=⟨nb,noff+k * 5+1,none⟩) hnb hnB).trans c1,hA.wk hk⟩
   have HB:Hid (∀ a,xo=some a→B a.block):=hB
   have hn8:n * 8≤140737488351232∧n≤xc:=by
    rcases hA with ⟨_,rfl,rfl⟩ | ⟨_,_,_,_,_,h1,_,h3⟩
    ·omega
    ·exact ⟨h3,h1⟩
   obtain ⟨hn9,hnx⟩:=hn8
   have j1:(k:Int)<(N:Int):=by omega
   have j2:(0:Int)≤(k:Int):=by omega
   clear c1 hA hB hc hnb hnB
   go_upto_region 4 with fail
   go_loopw [5] (fun i wx=>∃ t:Nat,i=.int .i64 (t:Int)∧t≤n∧Hid (WK B w wx)) (fun i _=>n-(intOf i).toNat)
   case atStart=>exact ⟨0,rfl,Nat.zero_le _,HW⟩
   case round=>
    clear HW
    obtain ⟨t,rfl,ht,HX⟩:=hrel
    obtain ⟨c1,hA⟩:=HC.out _ HX.out
    by_cases htn:t<n
    ·obtain ⟨b,cur,e,hcur,hsz, -⟩:∃ b cur,xo=some ⟨b,0,none⟩∧wr.heap[b]? = some (.cells cur 3 (0,0))∧cur.size=xc∧True:=by
      rcases hA with ⟨_,h0,_⟩ | ⟨b,cur,e,q1,q2,_⟩
      ·omega
      ·exact ⟨b,cur,e,q1,q2,trivial⟩
     subst e
     obtain ⟨u,c2⟩:∃ u,wr.cell? ⟨b,t,none⟩=some u:=⟨_,by rw [cellAt hcur];exact Array.getElem?_eq_getElem (by omega)⟩
     have f2:wr.frozen? ⟨b,t,none⟩=false:=frozenAt hcur t
     have i1:(t:Int)<(n:Int):=by omega
     have i2:(0:Int)≤(t:Int):=by omega
     have HF:Hid (WK B w (wr.setCell ⟨b,t,none⟩ (.int .i64 mk))):=HX.out.trans (WK.set hcur (HB.out _ rfl) t _) (fun _ _ e=>e)
     clear hA hcur hsz
     go_wp2
     go_roundw
     case rel=>first | exact ⟨t+1,by go_num,by omega,HF⟩ | ((repeat apply Exists.intro);exact ⟨⟨t+1,by go_num,by omega,HF⟩,rfl⟩)
     case measure=>simp [intOf];omega
    ·obtain rfl:t=n:=by omega
     obtain ⟨W1,hW1⟩:∃ W1,W1=wr:=⟨_,rfl⟩
     rw [← hW1] at HX c1 hA ⊢
     clear hW1
     have i3:(0:Int)<(t:Int)+2:=by omega
     have HFF:Hid (∀ (g:Nat) (cur:Array Value) w', w'.heap[g]? = some (.cells cur 3 (0,0))→2≤cur.size→(xo=some ⟨g,0,none⟩∨W1.heap.size≤g)→WK (fun b=>xo=some ⟨b,0,none⟩) W1 w' → (∃ u,w'.cell? ⟨g,0,none⟩=some u)∧w'.frozen? ⟨g,0,none⟩=false∧Hid (WK B w (w'.setCell ⟨g,0,none⟩ (.int .i64 mk)))):=fun g cur w' hg h2 hor hk=>by
      have k1:WK B w w' := HX.out.trans hk (fun i _ e=>HB.out _ e)
      refine ⟨⟨cur[0]'(by omega),by rw [cellAt hg];exact Array.getElem?_eq_getElem _⟩,frozenAt hg 0,?_⟩
      show WK B w _
      rcases hor with e | e
      ·exact k1.trans (WK.set (B:=fun b=>b=g) hg rfl 0 _) (fun i _ q=>by rw [q];exact HB.out _ e)
      ·exact k1.trans (WK.set (B:=fun b=>b=g) hg rfl 0 _) (fun i hi q=>by have:=HX.out.k.size;omega)
     go_upto_region 8 with (first | (at_builtin;refine wpList_two rfl _ _ 31 rfl Try.underlying31 xo t xc rfl hA mk mk rfl ?_;intro g c cur w' hg h2 hnc hor hk;obtain ⟨⟨u,m1⟩,m2,HF⟩:=HFF.out g cur w' hg h2 hor hk))
     have i4:(0:Int)<((t+2:Nat):Int):=by omega
     clear hA c1 hk hor hg h2
     go_wp2
     go_roundw
     case rel=>first | exact ⟨k+1,by go_num,by omega,HF⟩ | ((repeat apply Exists.intro);exact ⟨⟨k+1,by go_num,by omega,HF⟩,rfl⟩)
     case measure=>simp [intOf];omega
  ·obtain rfl:k=N:=by omega
   go_wp2
   go_end0
   exact ⟨⟨_,rfl⟩,HW.out⟩
theorem ints_three (w:World) (z y x:Int):IntsAt (w.alloc (.cells #[.int .i64 z,.int .i64 y,.int .i64 x] 3)) (some ⟨w.heap.size,0,none⟩) [z,y,x]:=
 .inr ⟨w.heap.size,0,rfl,by simp,fun i hi=>by
  have hi' : i<3:=hi
  match i,hi' with
  | 0,_=>exact cellAt (heap_alloc_new w _) 0
  | 1,_=>exact cellAt (heap_alloc_new w _) 1
  | 2,_=>exact cellAt (heap_alloc_new w _) 2⟩
abbrev lentL (xs:List Int):List Int:=xs ++ [-77, -77, -77]
set_option maxHeartbeats 1000000 in
theorem lent11_any {w:World} {ao:Option Addr} {cap:Nat} {xs:List Int} (hx:Arg w ao xs cap) :
  Calls Try.prog 28 #[.slice ao xs.length cap] w fun e w' => ∃ g c,e=.returned (.slice (some ⟨g,0,none⟩) xs.length c)∧Row w.heap.size w' (.slice (some ⟨g,0,none⟩) (xs.length+3) c) (lentL xs)∧xs.length+3≤c∧Same0 w w' := by
 have k0:Same0 w (w.alloc (.cells #[] 3)):=(Kept.refl _ w).alloc _
 have r0:Row w.heap.size (w.alloc (.cells #[] 3)) (.slice (some ⟨w.heap.size,0,none⟩) 0 0) []:=row_empty w _ (Nat.le_refl _) rfl
 have cI:=hx.at'.same k0
 have hn:=hx.nil
 have hs:Hid (xs.length * 8≤140737488351232):=hx.size
 have z0:=k0.size
 have j0:(0:Int)≤(xs.length:Int):=by omega
 have j8:(xs.length:Int)≤17592186043904:=by have:=hs.out;omega
 clear hx
 go_enter Try.func28,Try.ntmps28
 go_upto_region 2 with (first | (at_builtin;refine wpList_more9 rfl _ _ 31 rfl Try.underlying31 w.heap.size [] _ rfl r0 xs _ _ _ rfl rfl cI hn z0 (by have:=hs.out;simp;omega) ?_;intro v1 w1 hr1 hk1))
 rw [List.nil_append] at hr1
 have k1:=k0.onto r0 hk1
 have k2:Same0 w (w1.alloc (.cells #[.int .i64 (-77),.int .i64 (-77),.int .i64 (-77)] 3)):=k1.alloc _
 have r2:Row w.heap.size (w1.alloc (.cells #[.int .i64 (-77),.int .i64 (-77),.int .i64 (-77)] 3)) v1 xs:=((Kept.refl (fun _=>False) w1).alloc _).row hr1 (fun _ _ f=>f)
 have z2:=k2.size
 have c3:=ints_three w1 (-77) (-77) (-77)
 clear cI hn z0 hk1 k0 r0 hr1 k1
 go_upto_region 3 with (first | (at_builtin;refine wpList_more9 rfl _ _ 31 rfl Try.underlying31 w.heap.size xs _ rfl r2 [-77, -77, -77] _ _ _ rfl rfl c3 (fun e=>by cases e) z2 (by have:=hs.out;simp;omega) ?_;intro v3 w3 hr3 hk3))
 have k3:=k2.onto r2 hk3
 obtain ⟨g,c,e,hle⟩:∃ g c,v3=.slice (some ⟨g,0,none⟩) (xs.length+3) c∧xs.length+3≤c:=by
  have hr:=hr3
  unfold Row at hr
  rcases hr.2 with ⟨e2,h0⟩ | ⟨g,cap,cur,e2,hb,hg,hle,_⟩
  ·simp at h0
  ·exact ⟨g,cap,by simpa using e2,by simpa using hle⟩
 subst e
 have j1:(xs.length:Int)≤(c:Int):=by omega
 have HF:Hid (Row w.heap.size w3 (.slice (some ⟨g,0,none⟩) (xs.length+3) c) (lentL xs)∧xs.length+3≤c∧Same0 w w3):=⟨hr3,hle,k3⟩
 clear hr3 k3 hk3 r2 k2 c3 z2
 go_wp2
 go_ret
 exact ⟨g,c,rfl,HF.out.1,HF.out.2.1,HF.out.2.2⟩
end Go.Proofs.Ytmloedlkoijfbaa
