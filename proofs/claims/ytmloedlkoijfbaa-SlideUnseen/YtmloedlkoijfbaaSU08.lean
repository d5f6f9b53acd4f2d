import Derived.Test.YtmloedlkoijfbaaSU07
import Derived.Test.YtmloedlkoijfbaaSU06
import Derived.Test.YtmloedlkoijfbaaSU05
namespace Go.Proofs.Ytmloedlkoijfbaa
set_option maxRecDepth 100000
set_option linter.unusedVariables false
open Go.RowKit
attribute [local go_sem ↓] Go.wp_at_zero Go.wp_at_succ
structure RfI (w wr:World) (h g room:Nat) (v:Value) (l:List Nd) (k:Nat):Prop where
 box:wr.heap[h]? = some (.cells #[.slice (some ⟨g,0,none⟩) room room,v] 68 (0,0))
 blk:∃ cs,wr.heap[g]? = some (.cells cs 47 (0,0))∧cs.size=room * 5
 each:∀ i (hi:i<l.length),i<k→NdC (fun b=>w.heap.size≤b) wr g (i * 5) l[i]
 kp:Kept (fun b=>b=g) w wr
theorem RfI.cells {w wr:World} {h g room k:Nat} {v:Value} {l:List Nd} (p:RfI w wr h g room v l k):wr.cell? ⟨h,0,none⟩=some (.slice (some ⟨g,0,none⟩) room room):=cellAt p.box 0
theorem RfI.same {w wr w' : World} {h g room k:Nat} {v:Value} {l:List Nd} (p:RfI w wr h g room v l k) (hk:Same0 wr w'):RfI w w' h g room v l k:=by
 obtain ⟨cs,h1,h2⟩:=p.blk
 exact ⟨hk.at0 p.box,⟨cs,hk.at0 h1,h2⟩,fun i hi hik=>(p.each i hi hik).kept (lt_of_at h1) hk (fun f=>f) (fun _ _ f=>f.elim),p.kp.trans hk (fun _ _ f=>f.elim)⟩
theorem RfI.there {w wr:World} {h g room k:Nat} {v:Value} {l:List Nd} (p:RfI w wr h g room v l k) {i:Nat} (hi:i<room):(∃ u0 u1 u2 u3 u4,wr.cell? ⟨g,i * 5,none⟩=some u0∧wr.cell? ⟨g,i * 5+1,none⟩=some u1∧wr.cell? ⟨g,i * 5+2,none⟩=some u2∧wr.cell? ⟨g,i * 5+3,none⟩=some u3∧wr.cell? ⟨g,i * 5+4,none⟩=some u4)∧∀ o,wr.frozen? ⟨g,o,none⟩=false:=by
 obtain ⟨cs,h1,h2⟩:=p.blk
 have t:∀ o,o<cs.size→wr.cell? ⟨g,o,none⟩=some cs[o]! := fun o ho=>by rw [cellAt h1];simp [ho]
 exact ⟨⟨_,_,_,_,_,t _ (by omega),t _ (by omega),t _ (by omega),t _ (by omega),t _ (by omega)⟩,fun o=>frozenAt h1 o⟩
theorem RfI.put {w wr w3:World} {h g room k:Nat} {v:Value} {l:List Nd} (p:RfI w wr h g room v l k) (hne:h≠g) (hk:Same0 wr w3) (hl:k<l.length) (hr:k<room) {bo:Option Addr} {bc:Nat} (ha:ArgT w3 bo l[k].2.1 bc) (hb:∀ a,bo=some a→w.heap.size≤a.block) :
  RfI w (put5 w3 g (k * 5) (.int .i64 l[k].1) (.slice bo l[k].2.1.length bc) (.int .i64 l[k].2.2.1) (.bool l[k].2.2.2.1) (.int .i64 l[k].2.2.2.2)) h g room v l (k+1):=by
 have p3:=p.same hk
 have hkl:(l.take k).length=k:=by simp;omega
 obtain ⟨q1,q2,q3⟩:=put5_nodes (B:=fun b=>w.heap.size≤b) (B' := fun b=>w.heap.size≤b) (l:=l.take k) (i:=k) (x:=l[k]) (ao:=bo) (ac:=bc) p3.blk (fun i hi=>by
  have hi' : i<k:=by omega
  have:=p3.each i (by omega) hi'
  simpa using this) hr ha hb (fun _ e=>e)
 have K:=put5_kept w3 g (k * 5) (.int .i64 l[k].1) (.slice bo l[k].2.1.length bc) (.int .i64 l[k].2.2.1) (.bool l[k].2.2.2.1) (.int .i64 l[k].2.2.2.2)
 refine ⟨K.at p3.box hne,q2,fun i hi hik=>?_,p3.kp.trans K (fun _ _ e=>e)⟩
 by_cases e:i=k
 ·subst e;exact q1
 ·have:=q3 i (by omega) e
  simpa using this
theorem setCells_kept (g:Nat):∀ (vs:List Value) (o:Nat) (w:World),Kept (fun k=>k=g) w (w.setCells g o vs)∧∀ cs t fr,w.heap[g]? = some (.cells cs t fr)→∃ cs', (w.setCells g o vs).heap[g]? = some (.cells cs' t fr)∧cs'.size=cs.size
 | [],o,w=>⟨Kept.refl _ _,fun cs t fr h=>⟨cs,h,rfl⟩⟩
 | v :: r,o,w=>by
  obtain ⟨h1,h2⟩:=setCells_kept g r (o+1) (w.setCell ⟨g,o,none⟩ v)
  have k:Kept (fun k=>k=g) w (w.setCell ⟨g,o,none⟩ v):=Kept.setCell (S:=fun k=>k=g) (Kept.refl _ _) (p:=⟨g,o,none⟩) (fun _=>rfl) v
  refine ⟨k.trans h1 (fun _ _ e=>e),fun cs t fr h=>?_⟩
  obtain ⟨cs', q1,q2⟩:=h2 _ t fr (setAt h o v)
  exact ⟨cs', q1,by rw [q2];simp⟩
theorem RfI.cleared {w wr:World} {h g room:Nat} {v:Value} {l:List Nd} (p:RfI w wr h g room v l l.length) (hne:h≠g) (vs:List Value):RfI w (wr.setCells g (l.length * 5) vs) h g room v l l.length:=by
 obtain ⟨cs,h1,h2⟩:=p.blk
 obtain ⟨k,q⟩:=setCells_kept g vs (l.length * 5) wr
 obtain ⟨cs', q1,q2⟩:=q cs _ _ h1
 have gi:∀ j,j=g→NotI wr j:=fun j e cur hc=>by rw [e,h1] at hc;cases hc
 refine ⟨k.at p.box hne,⟨cs', q1,by rw [q2,h2]⟩,fun i hi hik=>?_,p.kp.trans k (fun _ _ e=>e)⟩
 obtain ⟨ao,ac,n0,n1,n2,n3,n4,n5,n6⟩:=p.each i hi hik
 have t:∀ o,o<l.length * 5→(wr.setCells g (l.length * 5) vs).cell? ⟨g,o,none⟩=wr.cell? ⟨g,o,none⟩:=fun o ho=>World.cell?_setCells_out g vs _ _ _ (fun _ _=>.inl ho)
 exact ⟨ao,ac,(t _ (by omega)).trans n0,(t _ (by omega)).trans n1,(t _ (by omega)).trans n2,(t _ (by omega)).trans n3,(t _ (by omega)).trans n4,n5.kept k gi,n6⟩
theorem RfI.done {w wr:World} {h g room:Nat} {v:Value} {l:List Nd} (p:RfI w wr h g room v l l.length) (hne:h≠g) (h1:1≤room) (h2:room≤4000) (hl:l.length≤room) (hm:∀ x∈l,mayB l.length x=true) (ha:Ac l) :
  HpB (fun b=>w.heap.size≤b) (wr.setCell ⟨h,1,none⟩ (.int .i64 (l.length:Int))) h g room l∧Kept (fun k=>k=h∨k=g) w (wr.setCell ⟨h,1,none⟩ (.int .i64 (l.length:Int))):=by
 obtain ⟨cs,q1,q2⟩:=p.blk
 have k:Kept (fun k=>k=h) wr (wr.setCell ⟨h,1,none⟩ (.int .i64 (l.length:Int))):=Kept.setCell (S:=fun k=>k=h) (Kept.refl _ _) (p:=⟨h,1,none⟩) (fun _=>rfl) _
 have hi:∀ j,j=h→NotI wr j:=fun j e cur hc=>by rw [e,p.box] at hc;cases hc
 refine ⟨⟨?_,⟨cs,k.at q1 (fun e=>hne e.symm),q2⟩,h1,h2,hl,fun i hi' => (p.each i hi' hi').kept (lt_of_at q1) k (fun e=>hne e.symm) (fun j _ e=>hi j e),hm,ha⟩,?_⟩
 ·have:=setAt p.box 1 (.int .i64 (l.length:Int))
  simpa using this
 ·exact (p.kp.mono (fun _ _ e=>.inr e)).trans k (fun _ _ e=>.inl e)
theorem zero_one (n:Nat):∀ v∈(Builtin.zeroCells #[Value.int .i64 0,.slice none 0 0,.int .i64 0,.bool false,.int .i64 0] n).toList,v.oneCell' = true:=by
 intro v hv
 unfold Builtin.zeroCells at hv
 simp at hv
 obtain ⟨i,hi,rfl⟩:=hv
 have:i % 5<5:=Nat.mod_lt _ (by decide)
 match q:i % 5,this with
 | 0,_=>rfl
 | 1,_=>rfl
 | 2,_=>rfl
 | 3,_=>rfl
 | 4,_=>rfl
theorem run_clear_nodes (w:World) (ty:TypeId) (g o m c:Nat) (hm:0<m) (hc:∀ j,j<m * 5→(w.cell? ⟨g,o+j,none⟩).isSome=true) (hf:∀ j,j<m * 5→w.frozen? ⟨g,o+j,none⟩=false) :
  (Builtin.clear_ #[32] ty #[.slice (some ⟨g,o,none⟩) m c]).run Try.prog w=.ok (.tuple #[]) (w.setCells g o (Builtin.zeroCells #[Value.int .i64 0,.slice none 0 0,.int .i64 0,.bool false,.int .i64 0] m).toList):=by
 have hlen:(Builtin.zeroCells #[Value.int .i64 0,.slice none 0 0,.int .i64 0,.bool false,.int .i64 0] m).toList.length=m * 5:=by simp [Builtin.zeroCells]
 have hst:=run_storeCells_cells (P:=Try.prog) g o (Builtin.zeroCells #[Value.int .i64 0,.slice none 0 0,.int .i64 0,.bool false,.int .i64 0] m).toList 0 w (by rw [hlen];simpa using hc) (by rw [hlen];simpa using hf) (zero_one m)
 simp only [Nat.add_zero] at hst
 obtain ⟨k,rfl⟩:∃ k,m=k+1:=⟨m-1,by omega⟩
 have hcl:(Value.agg #[.int .i64 0,.slice none 0 0,.int .i64 0,.bool false,.int .i64 0]).cells = #[Value.int .i64 0,.slice none 0 0,.int .i64 0,.bool false,.int .i64 0]:=rfl
 simp [Builtin.clear_,run_underlying Try.underlying32,hcl,hst]
set_option maxHeartbeats 1000000 in
theorem refill_yes {B:Nat→Prop} {w:World} {h g room:Nat} {l:List Nd} (p:HpB B w h g room l) {ao:Option Addr} {ac:Nat} {l' : List Nd} (hs:NsV (fun b=>b≠g) w ao l') (hE:RfE room l' 0) :
  Calls Try.prog 42 #[.pointer (some ⟨h,0,none⟩),.slice ao l'.length ac] w fun e w' => e=.returned (.int .i64 0)∧HpB (fun b=>w.heap.size≤b) w' h g room l' ∧ Kept (fun k=>k=h∨k=g) w w' := by
 obtain ⟨a,b,c⟩:l'.length≤room∧l'.all (mayB l'.length)=true∧Ac l' := by
  rcases hE with ⟨_,e⟩ | ⟨_,_,e⟩ | ⟨_,_,_,e⟩ | ⟨a,b,c,_⟩
  ·cases e
  ·cases e
  ·cases e
  ·exact ⟨a,b,c⟩
 obtain ⟨c0,c1⟩:=p.cells
 have hr1:=p.rm1
 have hr2:=p.rm2
 have hne:=p.ne
 have j1:¬ (room:Int)<(l'.length:Int):=by omega
 have CS:=shaped_any (ac:=ac) hs.weak (by omega)
 obtain ⟨f1,f2,f3⟩:=few_of_may b
 have CR:Hid (∀ ww,Same0 w ww→Calls Try.prog 61 #[.slice ao l'.length ac] ww fun e w' => RingQ l' ww e w'):=fun ww hk=>ringed_any (hs.same hk).weak f2 f3 (by omega)
 have HAC:Hid (Ac l'):=c
 have HF1:Hid (∀ x∈l', mayB l'.length x=true):=f1
 have HF3:Hid (∀ x∈l', x.2.1.length≤6):=f3
 have HI0:Hid (∀ ww,Same0 w ww→RfI w ww h g room (.int .i64 (l.length:Int)) l' 0):=fun ww hk=>by
  obtain ⟨cs,h1,h2⟩:=p.blk
  exact ⟨hk.at0 p.box,⟨cs,hk.at0 h1,h2⟩,fun i _ hi=>absurd hi (Nat.not_lt_zero _),hk.mono (fun _ _ f=>f.elim)⟩
 have HGI:Hid (∀ k,k=g→NotI w k):=fun k e cur hc=>by
  obtain ⟨cs,h1,h2⟩:=p.blk
  rw [e,h1] at hc;cases hc
 have HNS:Hid (∀ ww,Kept (fun k=>k=g) w ww→∀ j (hj:j<l'.length),∃ nb noff xo xc,ao=some ⟨nb,noff,none⟩∧ww.cell? ⟨nb,noff+j * 5,none⟩=some (.int .i64 l'[j].1)∧ww.cell? ⟨nb,noff+j * 5+1,none⟩=some (.slice xo l'[j].2.1.length xc)∧ww.cell? ⟨nb,noff+j * 5+2,none⟩=some (.int .i64 l'[j].2.2.1)∧ww.cell? ⟨nb,noff+j * 5+3,none⟩=some (.bool l'[j].2.2.2.1)∧ww.cell? ⟨nb,noff+j * 5+4,none⟩=some (.int .i64 l'[j].2.2.2.2)∧Arg ww xo l'[j].2.1 xc):=fun ww hk j hj=>by
  rcases hs.kept hk (fun _ q t=>q t) with e | ⟨nb,noff,e, -, -,hn⟩
  ·rw [e] at hj;simp at hj
  ·obtain ⟨xo,xc,n0,n1,n2,n3,n4,n5, -⟩:=hn j hj
   exact ⟨nb,noff,xo,xc,e,n0,n1,n2,n3,n4,n5⟩
 rw [b] at CS
 have l0:(0:Int)≤(l'.length:Int):=by omega
 have l1:(l'.length:Int)≤(room:Int):=by omega
 clear hs b f1 f2 f3 c hE
 go_enter Try.func42,Try.ntmps42
 go_upto_region 7 with (first | (go_at_call 60;refine CS.mono ?_;rintro e w1 ⟨rfl,k1⟩))
 have CR1:=CR.out w1 k1
 clear CR CS
 go_upto_region 10 with (first | (go_at_call 61;refine CR1.mono ?_;rintro e w2 ⟨b,rfl,hb,k2⟩;obtain rfl:b=false:=(by cases b;rfl;exact absurd HAC.out (hb.1 rfl))))
 have HI2:Hid (RfI w w2 h g room (.int .i64 (l.length:Int)) l' 0):=HI0.out w2 (k1.trans' k2)
 have hw2:=(k1.trans' k2).size
 clear CR1 hb k1 k2 c0 c1 HI0
 go_loopw [28] (fun i wr=>∃ k:Nat,i=.int .i64 (k:Int)∧k≤l'.length∧Hid (RfI w wr h g room (.int .i64 (l.length:Int)) l' k)) (fun i _=>l'.length-(intOf i).toNat)
 case atStart=>exact ⟨0,rfl,Nat.zero_le _,HI2⟩
 case round=>
  clear HI2
  obtain ⟨k,rfl,hk,HI⟩:=hrel
  by_cases hlt:k<l'.length
  ·have j2:(k:Int)<(l'.length:Int):=by omega
   have j3:(0:Int)≤(k:Int):=by omega
   have j4:(k:Int)<(room:Int):=by omega
   have hkr:k<room:=by omega
   obtain ⟨nb,noff,xo,xc,rfl,n0,n1,n2,n3,n4,n5⟩:=HNS.out wr HI.out.kp k hlt
   obtain ⟨W3,hW3⟩:∃ W3,W3=wr.alloc (.cells #[.int .i64 l'[k].1,.slice xo l'[k].2.1.length xc,.int .i64 l'[k].2.2.1,.bool l'[k].2.2.2.1,.int .i64 l'[k].2.2.2.2] 47):=⟨_,rfl⟩
   have kb:Same0 wr W3:=by rw [hW3];exact (Kept.refl _ _).alloc _
   have kd:Same0 wr W3.drew:=kb.drew
   obtain ⟨x0,x1,x2,x3,x4⟩:=box_node' wr l'[k] xo xc (show Same0 _ W3.drew by rw [hW3];exact (Kept.refl _ _).drew)
   have c0:=(HI.out.same kd).cells
   have h6:=HF3.out _ (List.getElem_mem hlt)
   have CC:=copied_any (x:=l'[k]) (ac:=xc) (n5.onto kd) (by omega)
   have HP:Hid (∀ w3 bo bc,Same0 wr w3→ArgT w3 bo l'[k].2.1 bc→(∀ a,bo=some a→w.heap.size≤a.block)→RfI w (put5 w3 g (k * 5) (.int .i64 l'[k].1) (.slice bo l'[k].2.1.length bc) (.int .i64 l'[k].2.2.1) (.bool l'[k].2.2.2.1) (.int .i64 l'[k].2.2.2.2)) h g room (.int .i64 (l.length:Int)) l' (k+1)):=fun w3 bo bc hk3 ha hb=>HI.out.put hne hk3 hlt hkr ha hb
   have HSZ:Hid (w.heap.size≤W3.drew.heap.size):=Nat.le_trans HI.out.kp.size kd.size
   have HT:Hid (∀ w3,Same0 wr w3→(∃ u0 u1 u2 u3 u4,w3.cell? ⟨g,k * 5,none⟩=some u0∧w3.cell? ⟨g,k * 5+1,none⟩=some u1∧w3.cell? ⟨g,k * 5+2,none⟩=some u2∧w3.cell? ⟨g,k * 5+3,none⟩=some u3∧w3.cell? ⟨g,k * 5+4,none⟩=some u4)∧(∀ o,w3.frozen? ⟨g,o,none⟩=false)∧w3.cell? ⟨h,0,none⟩=some (.slice (some ⟨g,0,none⟩) room room)):=fun w3 hk3=>⟨((HI.out.same hk3).there hkr).1,((HI.out.same hk3).there hkr).2,(HI.out.same hk3).cells⟩
   clear n5 kb
   go_upto_region 12 with fail
   rw [← hW3]
   clear hW3 n0 n1 n2 n3 n4
   go_region_with (first | (go_at_call 46;refine CC.mono ?_;rintro e w5 ⟨bo,bc,rfl,ha,hbb,hk5⟩;have K5:=kd.trans' hk5;obtain ⟨⟨u0,u1,u2,u3,u4,t0,t1,t2,t3,t4⟩,ff,cc1⟩:=HT.out w5 K5;have f0:=ff (k * 5);have f1:=ff (k * 5+1);have f2:=ff (k * 5+2);have f3:=ff (k * 5+3);have f4:=ff (k * 5+4);clear ff))
   all_goals
    have HN:Hid (RfI w (put5 w5 g (k * 5) (.int .i64 l'[k].1) (.slice bo l'[k].2.1.length bc) (.int .i64 l'[k].2.2.1) (.bool l'[k].2.2.2.1) (.int .i64 l'[k].2.2.2.2)) h g room (.int .i64 (l.length:Int)) l' (k+1)):=HP.out w5 bo bc K5 ha (fun a e=>Nat.le_trans HSZ.out (hbb a e))
    clear t0 t1 t2 t3 t4 f0 f1 f2 f3 f4 cc1 x0 x1 x2 x3 x4 c0 CC ha hbb
    go_wp2
    go_roundw
    case rel=>first | exact ⟨k+1,by go_num,by omega,HN⟩ | ((repeat apply Exists.intro);exact ⟨⟨k+1,by go_num,by omega,HN⟩,rfl⟩)
    case measure=>simp [intOf];omega
  ·have hkl:k=l'.length:=by omega
   subst hkl
   have c0:=HI.out.cells
   go_upto_region 14 with fail
   by_cases hfull:l'.length<room
   ·have l2:(l'.length:Int)<(room:Int):=by omega
    obtain ⟨Wz,hWz⟩:∃ Wz,Wz=wr.setCells g (l'.length * 5) (Builtin.zeroCells #[Value.int .i64 0,.slice none 0 0,.int .i64 0,.bool false,.int .i64 0] (room-l'.length)).toList:=⟨_,rfl⟩
    have HCL:∀ ty,(Builtin.clear_ #[32] ty #[.slice (some ⟨g,l'.length * 5,none⟩) (room-l'.length) (room-l'.length)]).run Try.prog wr=.ok (.tuple #[]) Wz:=by
     intro ty
     obtain ⟨cs,q1,q2⟩:=HI.out.blk
     rw [hWz]
     refine run_clear_nodes wr ty g _ _ _ (by omega) (fun j hj=>?_) (fun j _=>frozenAt q1 _)
     rw [cellAt q1]
     simp
     omega
    have HIZ:Hid (RfI w Wz h g room (.int .i64 (l.length:Int)) l' l'.length):=by rw [hWz];exact HI.out.cleared hne _
    have z1:Wz.cell? ⟨h,1,none⟩=some (.int .i64 (l.length:Int)):=cellAt HIZ.out.box 1
    have z2:Wz.frozen? ⟨h,1,none⟩=false:=frozenAt HIZ.out.box 1
    have FF:Hid (HpB (fun b=>w.heap.size≤b) (Wz.setCell ⟨h,1,none⟩ (.int .i64 (l'.length:Int))) h g room l' ∧ Kept (fun k=>k=h∨k=g) w (Wz.setCell ⟨h,1,none⟩ (.int .i64 (l'.length:Int)))):=HIZ.out.done hne hr1 hr2 a HF1.out HAC.out
    clear hWz HIZ HI HNS p
    go_wp2
    go_ret
    exact ⟨rfl,FF.out.1,FF.out.2⟩
   ·have hfl:l'.length=room:=by omega
    have z1:wr.cell? ⟨h,1,none⟩=some (.int .i64 (l.length:Int)):=cellAt HI.out.box 1
    have z2:wr.frozen? ⟨h,1,none⟩=false:=frozenAt HI.out.box 1
    have FF:Hid (HpB (fun b=>w.heap.size≤b) (wr.setCell ⟨h,1,none⟩ (.int .i64 (l'.length:Int))) h g room l' ∧ Kept (fun k=>k=h∨k=g) w (wr.setCell ⟨h,1,none⟩ (.int .i64 (l'.length:Int)))):=HI.out.done hne hr1 hr2 a HF1.out HAC.out
    rw [hfl] at FF ⊢
    have HCL:∀ ty,(Builtin.clear_ #[32] ty #[.slice (some ⟨g,0,none⟩) 0 0]).run Try.prog wr=.ok (.tuple #[]) wr:=fun ty=>by simp [Builtin.clear_,run_underlying Try.underlying32]
    clear HI HNS p hfl hfull hlt
    go_wp2
    go_ret
    exact ⟨rfl,FF.out.1,FF.out.2⟩
structure NwI (N:Nat) (w5 wr:World) (nb n:Nat) (l:List Nd) (k:Nat):Prop where
 blk:∃ cs,wr.heap[nb]? = some (.cells cs 47 (0,0))∧cs.size=n * 5
 each:∀ i (hi:i<l.length),i<k→NdC (fun b=>N≤b) wr nb (i * 5) l[i]
 kept:Kept (fun k=>k=nb) w5 wr
theorem NwI.there {N:Nat} {w5 wr w1:World} {nb n k:Nat} {l:List Nd} (p:NwI N w5 wr nb n l k) (hs:Same0 wr w1) {i:Nat} (hi:i<n):(∃ u0 u1 u2 u3 u4,w1.cell? ⟨nb,i * 5,none⟩=some u0∧w1.cell? ⟨nb,i * 5+1,none⟩=some u1∧w1.cell? ⟨nb,i * 5+2,none⟩=some u2∧w1.cell? ⟨nb,i * 5+3,none⟩=some u3∧w1.cell? ⟨nb,i * 5+4,none⟩=some u4)∧∀ o,w1.frozen? ⟨nb,o,none⟩=false:=by
 obtain ⟨cs,h1', h2⟩:=p.blk
 have h1:=hs.at0 h1'
 have t:∀ o,o<cs.size→w1.cell? ⟨nb,o,none⟩=some cs[o]! := fun o ho=>by rw [cellAt h1];simp [ho]
 exact ⟨⟨_,_,_,_,_,t _ (by omega),t _ (by omega),t _ (by omega),t _ (by omega),t _ (by omega)⟩,fun o=>frozenAt h1 o⟩
theorem NwI.put {N:Nat} {w5 wr:World} {nb n k:Nat} {l:List Nd} (h:NwI N w5 wr nb n l k) (hk:k<n) (hl:k<l.length) {w1 w2:World} (k1:Same0 wr w1) {y:Nd} {bo:Option Addr} {bc:Nat}
  (k2:Same0 (put5 w1 nb (k * 5) (.int .i64 y.1) (.slice bo y.2.1.length bc) (.int .i64 y.2.2.1) (.bool y.2.2.2.1) (.int .i64 y.2.2.2.2)) w2) {m:List Int} {mo:Option Addr} {mc:Nat} (ha:ArgT w2 mo m mc) (hb:∀ a,mo=some a→N≤a.block) (hx:l[k]=(y.1,m,y.2.2)) :
  NwI N w5 (w2.setCell ⟨nb,k * 5+1,none⟩ (.slice mo m.length mc)) nb n l (k+1)∧w2.cell? ⟨nb,k * 5+1,none⟩=some (.slice bo y.2.1.length bc)∧w2.frozen? ⟨nb,k * 5+1,none⟩=false∧Kept (fun k=>k=nb) wr (w2.setCell ⟨nb,k * 5+1,none⟩ (.slice mo m.length mc)):=by
 obtain ⟨cs,c1,c2⟩:=h.blk
 have c3:=k2.at0 (put5_at (v0:=.int .i64 y.1) (v1:=.slice bo y.2.1.length bc) (v2:=.int .i64 y.2.2.1) (v3:=.bool y.2.2.2.1) (v4:=.int .i64 y.2.2.2.2) (off:=k * 5) (k1.at0 c1))
 have c4:=setAt c3 (k * 5+1) (.slice mo m.length mc)
 have K:Kept (fun k=>k=nb) wr (w2.setCell ⟨nb,k * 5+1,none⟩ (.slice mo m.length mc)):=by
  refine Kept.setCell (S:=fun k=>k=nb) ?_ (p:=⟨nb,k * 5+1,none⟩) (fun _=>rfl) _
  exact ((Kept.mono k1 (fun _ _ f=>f.elim)).trans (put5_kept w1 nb (k * 5) _ _ _ _ _) (fun _ _ e=>e)).trans k2 (fun _ _ f=>f.elim)
 have gi:∀ j,j=nb→NotI wr j:=fun j e cur q=>by rw [e,c1] at q;cases q
 have gi2:∀ j,j=nb→NotI w2 j:=fun j e cur q=>by rw [e,c3] at q;cases q
 have K2:Kept (fun k=>k=nb) w2 (w2.setCell ⟨nb,k * 5+1,none⟩ (.slice mo m.length mc)):=Kept.setCell (S:=fun k=>k=nb) (Kept.refl _ _) (p:=⟨nb,k * 5+1,none⟩) (fun _=>rfl) _
 have e1:l[k].1=y.1:=by rw [hx]
 have e2:l[k].2.1=m:=by rw [hx]
 have e3:l[k].2.2=y.2.2:=by rw [hx]
 refine ⟨⟨⟨_,c4,by simpa using c2⟩,fun i hi hik=>?_,h.kept.trans K (fun _ _ e=>e)⟩,?_,frozenAt c3 _,K⟩
 ·by_cases e:i=k
  ·subst e
   refine ⟨mo,mc,?_,?_,?_,?_,?_,by rw [e2];exact ha.kept K2 gi2,hb⟩ <;> rw [cellAt c4] <;> simp [Array.getElem?_setIfInBounds,e1,e2,e3] <;> omega
  ·obtain ⟨ao,ac,n0,n1,n2,n3,n4,n5,n6⟩:=h.each i hi (by omega)
   have t:∀ o,o<k * 5→(w2.setCell ⟨nb,k * 5+1,none⟩ (.slice mo m.length mc)).cell? ⟨nb,o,none⟩=wr.cell? ⟨nb,o,none⟩:=fun o ho=>by
    rw [cellAt c4,cellAt c1,Array.getElem?_setIfInBounds,if_neg (by omega),Array.getElem?_setIfInBounds,if_neg (by omega),Array.getElem?_setIfInBounds,if_neg (by omega),Array.getElem?_setIfInBounds,if_neg (by omega),Array.getElem?_setIfInBounds,if_neg (by omega),Array.getElem?_setIfInBounds,if_neg (by omega)]
   exact ⟨ao,ac,(t _ (by omega)).trans n0,(t _ (by omega)).trans n1,(t _ (by omega)).trans n2,(t _ (by omega)).trans n3,(t _ (by omega)).trans n4,n5.kept K gi,n6⟩
 ·rw [cellAt c3]
  simp [Array.getElem?_setIfInBounds]
  omega
def ClQ (l:List Nd) (R:List Int) (h g room:Nat) (w:World) (e:Ending) (w' : World):Prop:=
 ∃ v R' L l', e=.returned (.tuple #[v,.int .i64 ((l.length:Int)-(L.length:Int)),.int .i64 0])∧KL l R L∧Sld l L l' ∧ Rts l L R R' ∧ Row w.heap.size w' v R' ∧ HpB (fun b=>w.heap.size≤b∧v.ownBlock≠some b) w' h g room l' ∧ Kept (fun k=>k=h∨k=g) w w'
set_option maxHeartbeats 4000000 in
theorem coll_yes {B:Nat→Prop} {w:World} {h g room:Nat} {l:List Nd} (p:HpB B w h g room l) {ao:Option Addr} {R:List Int} {ac:Nat} (hx:Arg w ao R ac) (hR:∀ r∈R,0≤r∧r<(l.length:Int)) (hap:R≠[]→∀ a,ao=some a→a.block≠h∧a.block≠g) :
  Calls Try.prog 23 #[.pointer (some ⟨h,0,none⟩),.slice ao R.length ac] w fun e w' => ClQ l R h g room w e w' := by
 obtain ⟨i,hi,hz0,hz1,hz2⟩:=info_parts info_intT
 obtain ⟨j,hj,hy0,hy1,hy2⟩:=info_parts info_node
 have C:=srefusal_any p ac hx.at' (by have:=hx.size;omega)
 rw [sRef_yes hR] at C
 have CW:=whatIs_any p hx.l hR
 have HW:Hid (Wf l):=⟨p.may,p.ac⟩
 have HP:Hid (∀ ww,Same0 w ww→HpB B ww h g room l):=fun ww hk=>p.same hk
 have HX:Hid (Arg w ao R ac∧(∀ r∈R,0≤r∧r<(l.length:Int))∧(R≠[]→∀ a,ao=some a→a.block≠h∧a.block≠g)):=⟨hx,hR,hap⟩
 have hle:=p.le
 have hrm:=p.rm2
 have hh:=p.ltH
 have hg:=p.ltG
 obtain ⟨N,hN⟩:∃ N,N=w.heap.size:=⟨_,rfl⟩
 have HN:Hid (N=w.heap.size):=hN
 rw [← hN] at hh hg
 have r0:(0:Int)≤(room:Int):=by omega
 have r1:(room:Int)≤4000:=by omega
 clear p hx hR hap hN
 go_enter Try.func23,Try.ntmps23
 go_upto_region 6 with (first | (go_at_call 52;refine C.mono ?_;rintro e w' ⟨rfl,hw⟩;have hw:=hw.symm;subst hw) | (go_at_call 53;refine CW.mono ?_;rintro e w1 ⟨ib,s,rfl,hib,hr,hsn,his,hk1⟩;have CK:=skept_any (HP.out w1 hk1) hr hsn hle) | (go_at_call 54;refine CK.mono ?_;rintro e w2 ⟨v,rfl,hv,hk2⟩))
 have kl:=his.kl
 have hLl:=keptL_len l.length s
 generalize hL:keptL l.length s=L at *
 clear hL
 have hLr:∀ a∈L,a<room:=fun a ha=>Nat.lt_of_lt_of_le ((kl.2 a).1 ha).1.1 hle
 obtain ⟨sld,mok⟩:=newL_sld HW.out his kl hLr
 have rok:=mv_ok his kl hLr (fun z hz=>(HX.out.2.1 z hz).1) (fun z hz=>his.root z hz)
 obtain ⟨vo,vc,e⟩:=row_shape hv
 rw [ofN_len'] at e
 subst e
 have HL:Hid (KL l R L∧Sld l L (newL s (thC room L L.length) l L)∧(∀ a (ha:a∈L),∃ hl:a<l.length,MvOk s (thC room L L.length) l[a].2.1)∧MvOk s (thC room L L.length) R∧Rts l L R (mvL s (thC room L L.length) R)):=⟨kl,sld,mok,rok.1,rok.2⟩
 have HLR:Hid (∀ a∈L,a<room):=hLr
 obtain ⟨n,hn⟩:∃ n,n=L.length:=⟨_,rfl⟩
 have HNL:Hid (n=L.length):=hn
 rw [← hn] at hLl hv ⊢
 have n4:n≤4000:=by omega
 have K2:Same0 w w2:=hk1.trans' hk2
 have H2:Hid (Row N w2 (.slice (some ⟨ib,0,none⟩) room room) s∧s.length=room∧Row N w2 (.slice vo n vc) (ofN L)∧N≤ib∧ib<w2.heap.size∧Same0 w w2):=⟨by have h1:=hk2.row hr (fun _ _ f=>f);rw [← HN.out] at h1;exact h1,hsn,row_mono hv (by have:=hk1.size;have:=HN.out;omega),by have:=HN.out;omega,by have:=(hr.lt ib rfl).2;have:=hk2.size;omega,K2⟩
 clear kl sld mok rok hLr hn hv hr hsn his hib hk1 hk2 CK CW C K2
 go_upto_region 8 with (first | (at_make;refine wpList_make_full _ rfl _ _ 31 rfl _ 3 i _ 1 Try.underlying31 hi hz0 hz1 _ _ _ _ room rfl rfl rfl rfl (by rw [hz2];omega) (by unfold maxLen;omega) (Nat.le_refl _) ?_;intro w3 hown hgrow))
 rw [made_nums] at hown
 have K3:Same0 w2 w3:=Same0.grown (Kept.refl _ w2) hgrow
 obtain ⟨tb,htb⟩:∃ tb,tb=w2.heap.size:=⟨_,rfl⟩
 rw [← htb]
 have hib:ib<tb:=by have:=H2.out.2.2.2.2.1;omega
 have R0:Hid (Row N w3 (.slice (some ⟨tb,0,none⟩) room room) (thC room L 0)∧Kept (fun k=>k=tb) w2 w3):=by
  refine ⟨?_,Kept.mono K3 (fun _ _ f=>f.elim)⟩
  show Row _ _ _ (List.replicate room 0)
  rw [htb]
  refine row_mono ?_ (show N≤w2.heap.size by have:=H2.out.2.2.2.2.1;have:=H2.out.2.2.2.1;omega)
  rw [List.length_replicate]
  exact hown
 have HTB:Hid (tb=w2.heap.size):=htb
 clear hown hgrow htb K3
 go_loopw [34] (fun v34 wr=>∃ k:Nat,k≤n∧v34=.int .i64 (k:Int)∧Hid (Row N wr (.slice (some ⟨tb,0,none⟩) room room) (thC room L k)∧Kept (fun k=>k=tb) w2 wr)) (fun v34 _=>n-(intOf v34).toNat)
 case atStart=>exact ⟨0,Nat.zero_le _,rfl,R0⟩
 case round=>
  clear R0
  obtain ⟨k,hk,rfl,HR⟩:=hrel
  have cL:∀ k,(hk:k<L.length)→∃ lb lo,vo=some ⟨lb,lo,none⟩∧lb<w2.heap.size∧w2.cell? ⟨lb,lo+k,none⟩=some (.int .i64 (L[k]:Int)):=fun k hk=>by
   obtain ⟨ao', ac', e,h1,h2,h3⟩:=H2.out.2.2.1.ints
   simp only [Value.slice.injEq] at e
   obtain ⟨rfl,_,_⟩:=e
   obtain ⟨lb,lo,e1,hlt,hc⟩:=h1.get (i:=k) (by rw [ofN_len'];exact hk)
   rw [ofN_at] at hc
   exact ⟨lb,lo,e1,hlt,hc⟩
  by_cases hlt:k<n
  ·have hkL:k<L.length:=by rw [← HNL.out];exact hlt
   obtain ⟨lb,lo,e,hlb,cl⟩:=cL k hkL
   subst e
   have cl' := (HR.out.2.cell (p:=⟨lb,lo+k,none⟩) hlb (by have:=HTB.out;simp only;omega)).trans cl
   have har:=HLR.out _ (List.getElem_mem hkL)
   obtain ⟨ov,cm,fm⟩:∃ ov,wr.cell? ⟨tb,L[k],none⟩=some ov∧wr.frozen? ⟨tb,L[k],none⟩=false:=by
    obtain ⟨cm,fm, -, -⟩:=row_at HR.out.1 (i:=L[k]) (by rw [thC_len];exact har)
    exact ⟨_,cm,fm⟩
   have HR1:Hid (Row N (wr.setCell ⟨tb,L[k],none⟩ (.int .i64 (k:Int))) (.slice (some ⟨tb,0,none⟩) room room) (thC room L (k+1))∧Kept (fun k=>k=tb) w2 (wr.setCell ⟨tb,L[k],none⟩ (.int .i64 (k:Int)))):=by
    refine ⟨?_,Kept.setCell (S:=fun k=>k=tb) HR.out.2 (p:=⟨tb,L[k],none⟩) (fun _=>rfl) _⟩
    have e:L.getD k 0=L[k]:=by rw [List.getD_eq_getElem?_getD,List.getElem?_eq_getElem hkL];rfl
    show Row _ _ _ ((thC room L k).set (L.getD k 0) (k:Int))
    rw [e]
    exact rowI_put HR.out.1 _ _
   generalize L[k]=a at *
   have j3:(0:Int)≤(a:Int):=by omega
   have j4:(a:Int)<(room:Int):=by omega
   have j5:(0:Int)≤(k:Int):=by omega
   have j6:(k:Int)<(n:Int):=by omega
   have j7:(n:Int)≤4000:=by omega
   clear cl cL HR har
   go_wp2
   go_roundw
   case rel=>exact ⟨k+1,by omega,by go_num,HR1⟩
   case measure=>simp [intOf];omega
  ·have e:n=k:=by omega
   subst e
   have HR:Hid (Row N wr (.slice (some ⟨tb,0,none⟩) room room) (thC room L L.length)∧Kept (fun k=>k=tb) w2 wr):=by rw [← HNL.out];exact HR
   have j7:(n:Int)≤4000:=by omega
   have j8:(0:Int)≤(n:Int):=by omega
   clear hlt hk
   go_upto_region 14 with (first | (at_make;refine wpList_make_full _ rfl _ _ 32 rfl _ 47 j _ 5 Try.underlying32 hj hy0 hy1 _ _ _ _ n rfl rfl rfl rfl (by rw [hy2];omega) (by unfold maxLen;omega) (Nat.le_refl _) ?_;intro w5 hown hgrow))
   have K5:Same0 wr w5:=Same0.grown (Kept.refl _ wr) hgrow
   obtain ⟨nb,hnb⟩:∃ nb,nb=wr.heap.size:=⟨_,rfl⟩
   rw [← hnb] at hown ⊢
   have KW0:Same0 w wr:=H2.out.2.2.2.2.2.trans HR.out.2 (fun k hk e=>by have:=HTB.out;have:=H2.out.2.2.2.2.2.size;omega)
   have KW:Same0 w w5:=KW0.trans' K5
   have hnb2:w2.heap.size≤nb:=by rw [hnb];exact HR.out.2.size
   have htb2:tb<nb:=by rw [hnb];exact ((HR.out.1).lt tb rfl).2
   obtain ⟨t,ht⟩:∃ t,t=thC room L L.length:=⟨_,rfl⟩
   have htl:t.length=room:=by rw [ht,thC_len]
   rw [← ht] at HL HR
   have H5:Hid (Row N w5 (.slice (some ⟨ib,0,none⟩) room room) s∧s.length=room∧Row N w5 (.slice vo n vc) (ofN L)∧Row N w5 (.slice (some ⟨tb,0,none⟩) room room) t∧t.length=room∧HpB B w5 h g room l∧Same0 w w5):=by
    refine ⟨?_,H2.out.2.1,?_,K5.row HR.out.1 (fun _ _ f=>f),htl,HP.out w5 KW,KW⟩
    ·exact K5.row (HR.out.2.row H2.out.1 (fun k e q=>by have:ib=k:=Option.some.inj e;omega)) (fun _ _ f=>f)
    ·exact K5.row (HR.out.2.row H2.out.2.2.1 (fun k e q=>by have:=(H2.out.2.2.1.lt k e).2;have:=HTB.out;omega)) (fun _ _ f=>f)
   have hNb:N≤nb:=by have:=H2.out.2.2.2.1;omega
   have HI0:Hid (NwI N w5 w5 nb n (newL s t l L) 0):=by
    refine ⟨?_,fun i hi h0=>absurd h0 (Nat.not_lt_zero _),Kept.refl _ _⟩
    rcases hown.2 with ⟨e,_⟩ | ⟨g', cap,cur,e,hb,hgc,_,_,hsz,_⟩
    ·cases e
    ·simp only [Value.slice.injEq,Option.some.injEq,Addr.mk.injEq,and_true,true_and] at e
     obtain ⟨rfl,rfl⟩:=e
     exact ⟨cur,hgc,hsz⟩
   have hvo:Hid (∀ k,(hk:k<L.length)→∃ lb lo,vo=some ⟨lb,lo,none⟩∧lb<nb∧lb<w5.heap.size∧w5.cell? ⟨lb,lo+k,none⟩=some (.int .i64 (L[k]:Int))):=fun k hk=>by
    obtain ⟨lb,lo,e,hlt,hc⟩:=cL k hk
    have c2:=(K5.cell (p:=⟨lb,lo+k,none⟩) (Nat.lt_of_lt_of_le hlt HR.out.2.size) (fun f=>f)).trans ((HR.out.2.cell (p:=⟨lb,lo+k,none⟩) hlt (by have:=HTB.out;simp only;omega)).trans hc)
    exact ⟨lb,lo,e,by omega,by have:=K5.size;have:=HR.out.2.size;omega,c2⟩
   have HNB:Hid (NotI w5 nb∧ib<nb∧tb<nb):=⟨fun cur hc=>(by obtain ⟨cs,c1,_⟩:=HI0.out.blk;rw [c1] at hc;cases hc),by omega,htb2⟩
   clear hown hgrow hnb cL HR ht K5 KW KW0 H2 HTB
   go_loopw [49] (fun v49 wr=>∃ k:Nat,k≤n∧v49=.int .i64 (k:Int)∧Hid (NwI N w5 wr nb n (newL s t l L) k)) (fun v49 _=>n-(intOf v49).toNat)
   case atStart=>exact ⟨0,Nat.zero_le _,rfl,HI0⟩
   case round=>
    clear HI0
    obtain ⟨k,hk,rfl,HI⟩:=hrel
    by_cases hlt:k<n
    ·have hkL:k<L.length:=by rw [← HNL.out];exact hlt
     obtain ⟨lb,lo,e,hlb,hlb2,cl⟩:=hvo.out k hkL
     subst e
     have cl' := (HI.out.kept.cell (p:=⟨lb,lo+k,none⟩) hlb2 (by simp only;omega)).trans cl
     obtain ⟨a,ha⟩:∃ a,L[k]? = some a:=⟨L[k],List.getElem?_eq_getElem hkL⟩
     rw [show L[k]=a from (List.getElem?_eq_some_iff.1 ha).2] at cl'
     obtain ⟨hal,mok⟩:=HL.out.2.2.1 a (List.mem_of_getElem? ha)
     have hnl:=newL_at (s:=s) (t:=t) ha hal
     obtain ⟨hnk,hne⟩:=List.getElem?_eq_some_iff.1 hnl
     have pr:HpB B wr h g room l:=H5.out.2.2.2.2.2.1.kept HI.out.kept (by omega) (by omega) (fun q hB e=>by subst e;exact HNB.out.1)
     have CA:=hat_yes pr a hal
     have hfew:(l[a]).2.1.length≤6:=(may_facts (HW.out.1 _ (List.getElem_mem hal))).2.1
     generalize l[a]=X at *
     have HM:Hid (MvOk s t X.2.1∧(newL s t l L)[k]=newN s t X∧X.2.1.length≤6):=⟨mok,hne,hfew⟩
     obtain ⟨⟨u0,u1,u2,u3,u4,d0,d1,d2,d3,d4⟩,fz⟩:=HI.out.there (Kept.refl _ wr) hlt
     have j3:(0:Int)≤(a:Int):=by omega
     have j5:(0:Int)≤(k:Int):=by omega
     have j6:(k:Int)<(n:Int):=by omega
     have HT:Hid (∀ w1,Same0 wr w1→(∃ u0 u1 u2 u3 u4,w1.cell? ⟨nb,k * 5,none⟩=some u0∧w1.cell? ⟨nb,k * 5+1,none⟩=some u1∧w1.cell? ⟨nb,k * 5+2,none⟩=some u2∧w1.cell? ⟨nb,k * 5+3,none⟩=some u3∧w1.cell? ⟨nb,k * 5+4,none⟩=some u4)∧∀ o,w1.frozen? ⟨nb,o,none⟩=false):=fun w1 hs=>HI.out.there hs hlt
     obtain ⟨x0,x1,x2,x3,x4⟩:=X
     clear cl mok hnl hne pr hfew d0 d1 d2 d3 d4 fz
     go_upto_region 17 with (first | (go_at_call 26;refine CA.mono ?_;rintro e w6 ⟨bo,bc,rfl,hA,hAb,hk6⟩;obtain ⟨⟨u0,u1,u2,u3,u4,d0,d1,d2,d3,d4⟩,fz⟩:=HT.out w6 hk6;obtain ⟨f0,f1,f2,f3,f4⟩:=(⟨fz _,fz _,fz _,fz _,fz _⟩:w6.frozen? ⟨nb,k * 5,none⟩=false∧w6.frozen? ⟨nb,k * 5+1,none⟩=false∧w6.frozen? ⟨nb,k * 5+2,none⟩=false∧w6.frozen? ⟨nb,k * 5+3,none⟩=false∧w6.frozen? ⟨nb,k * 5+4,none⟩=false);clear fz))
     obtain ⟨W7,hW7⟩:∃ W7,W7=put5 w6 nb (k * 5) (.int .i64 x0) (.slice bo x1.length bc) (.int .i64 x2) (.bool x3) (.int .i64 x4):=⟨_,rfl⟩
     have hW7' := hW7
     unfold put5 at hW7'
     rw [← hW7']
     have K7:Kept (fun k=>k=nb) w6 W7:=by rw [hW7];exact put5_kept _ _ _ _ _ _ _ _
     have K67:Kept (fun k=>k=nb) w5 W7:=(HI.out.kept.trans hk6 (fun _ _ f=>f.elim)).trans K7 (fun _ _ e=>e)
     have hA7:ArgT W7 bo x1 bc:=hA.kept' K7 (fun ad e q=>by
      obtain ⟨cur,hc⟩:=hA.2 ad e
      obtain ⟨cs,c1,_⟩:=HI.out.blk
      rw [q,hk6.at0 c1] at hc;cases hc)
     have CM:=moved_any hA7.1 (K67.row H5.out.1 (fun q e=>by have e1:ib=q:=Option.some.inj e;have:=HNB.out.2.1;omega)) H5.out.2.1 (K67.row H5.out.2.2.2.1 (fun q e=>by have e1:tb=q:=Option.some.inj e;have:=HNB.out.2.2;omega)) H5.out.2.2.2.2.1 HM.out.1
     have c7:W7.cell? ⟨nb,k * 5+1,none⟩=some (.slice bo x1.length bc):=by
      obtain ⟨cs,c1,c2⟩:=HI.out.blk
      rw [hW7]
      exact (put5_new (hk6.at0 c1) (by omega)).2.1
     have HPUT:Hid (∀ w8 mb,Same0 W7 w8→Row W7.heap.size w8 (.slice (some ⟨mb,0,none⟩) x1.length x1.length) (mvL s t x1)→W7.heap.size≤mb→NwI N w5 (w8.setCell ⟨nb,k * 5+1,none⟩ (.slice (some ⟨mb,0,none⟩) x1.length x1.length)) nb n (newL s t l L) (k+1)∧w8.cell? ⟨nb,k * 5+1,none⟩=some (.slice bo x1.length bc)∧w8.frozen? ⟨nb,k * 5+1,none⟩=false):=fun w8 mb h1 h2 h3=>by
      have hml:(mvL s t x1).length=x1.length:=by simp [mvL]
      obtain ⟨mo,mc,e,hm1,hm2⟩:=h2.arg (by rw [hml];have:=HM.out.2.2;omega)
      rw [hml] at e
      simp only [Value.slice.injEq] at e
      obtain ⟨rfl, -,rfl⟩:=e
      rw [hW7] at h1
      have:=NwI.put (y:=(x0,x1,x2,x3,x4)) HI.out hlt hnk hk6 h1 hm1 (fun ad e=>by cases e;have:=K67.size;have h5:=H5.out.2.2.2.2.2.2.size;have:=HN.out;simp only;omega) HM.out.2.1
      rw [hml] at this
      exact ⟨this.1,this.2.1,this.2.2.1⟩
     clear hW7 hW7' K7 K67 hA hAb hA7 hk6 CA d0 d1 d2 d3 d4 f0 f1 f2 f3 f4
     go_wp2_with (first | (go_at_call 55;refine CM.mono ?_;rintro e w8 ⟨mb,rfl,hmb,hr8,hk8⟩;obtain ⟨hnw,c8,f8⟩:=HPUT.out w8 mb hk8 hr8 hmb))
     have HNW:Hid (NwI N w5 (w8.setCell ⟨nb,k * 5+1,none⟩ (.slice (some ⟨mb,0,none⟩) x1.length x1.length)) nb n (newL s t l L) (k+1)):=hnw
     go_roundw
     case rel=>exact ⟨k+1,by omega,by go_num,HNW⟩
     case measure=>simp [intOf];omega
    ·have e:n=k:=by omega
     subst e
     have pr:HpB B wr h g room l:=H5.out.2.2.2.2.2.1.kept HI.out.kept (by omega) (by omega) (fun q hB e=>by subst e;exact HNB.out.1)
     have CU:=used_any pr
     have hnl:(newL s t l L).length=n:=by rw [HNL.out];simp [newL]
     have hwf:=(HL.out.2.1.wf HW.out HL.out.1).1
     have CF:=refill_yes (ac:=n) (ao:=some ⟨nb,0,none⟩) (l' := newL s t l L) pr (.inr ⟨nb,0,rfl,by obtain ⟨cs,c1,_⟩:=HI.out.blk;exact lt_of_at c1,by omega,fun q hq=>by
      obtain ⟨xo,xc,n0,n1,n2,n3,n4,n5,n6⟩:=HI.out.each q hq (by omega)
      rw [Nat.zero_add]
      exact ⟨xo,xc,n0,n1,n2,n3,n4,n5.1,fun _ ad e=>by have:=n6 ad e;omega⟩⟩) (.inr (.inr (.inr ⟨by omega,List.all_eq_true.2 hwf.1,hwf.2,rfl⟩)))
     rw [hnl] at CF
     have HE:Hid (∀ w7,HpB (fun b=>wr.heap.size≤b) w7 h g room (newL s t l L)→Kept (fun k=>k=h∨k=g) wr w7→(Calls Try.prog 55 #[.slice ao R.length ac,.slice (some ⟨ib,0,none⟩) room room,.slice (some ⟨tb,0,none⟩) room room] w7 fun e w' => ∃ mb,e=.returned (.slice (some ⟨mb,0,none⟩) R.length R.length)∧w7.heap.size≤mb∧Row w7.heap.size w' (.slice (some ⟨mb,0,none⟩) R.length R.length) (mvL s t R)∧Same0 w7 w')∧∀ mb w9,Row w7.heap.size w9 (.slice (some ⟨mb,0,none⟩) R.length R.length) (mvL s t R)→Same0 w7 w9→ClQ l R h g room w (.returned (.tuple #[.slice (some ⟨mb,0,none⟩) R.length R.length,.int .i64 ((l.length:Int)-(n:Int)),.int .i64 0])) w9):=by
      intro w7 p7 k7
      have hN:=HN.out
      have k5:=H5.out.2.2.2.2.2.2
      have k57:Kept (fun k=>k=nb∨k=h∨k=g) w5 w7:=(Kept.mono HI.out.kept (fun _ _ e=>.inl e)).trans k7 (fun _ _ e=>.inr e)
      have k07:Kept (fun k=>k=h∨k=g) w w7:=((Kept.mono k5 (fun _ _ f=>f.elim)).trans HI.out.kept (fun q hq e=>by omega)).trans k7 (fun _ _ e=>e)
      have a7:Arg w7 ao R ac:=by
       refine ⟨?_,HX.out.1.cap', HX.out.1.nil,HX.out.1.size⟩
       by_cases e:R=[]
       ·exact .inl e
       ·exact HX.out.1.at'.kept k07 (fun ad q x=>by have:=HX.out.2.2 e ad q;omega)
      have hnb:=HNB.out
      refine ⟨moved_any a7 (k57.row H5.out.1 (fun q e x=>by have e1:ib=q:=Option.some.inj e;have:=(H5.out.1.lt ib rfl).1;omega)) H5.out.2.1 (k57.row H5.out.2.2.2.1 (fun q e x=>by have e1:tb=q:=Option.some.inj e;have:=(H5.out.2.2.2.1.lt tb rfl).1;omega)) H5.out.2.2.2.2.1 HL.out.2.2.2.1,fun mb w9 hr9 hk9=>?_⟩
      have hsz:w.heap.size≤wr.heap.size:=Nat.le_trans k5.size HI.out.kept.size
      refine ⟨_,mvL s t R,L,newL s t l L,by rw [HNL.out],HL.out.1,HL.out.2.1,HL.out.2.2.2.2,row_mono hr9 k07.size,(p7.mono (fun q hq1 _ hq=>⟨Nat.le_trans hsz hq,fun e=>by have e1:mb=q:=Option.some.inj e;have:=(hr9.lt mb rfl).1;omega⟩)).same hk9,k07.trans hk9 (fun _ _ f=>f.elim)⟩
     have j9:(l.length:Int)≤4000:=by omega
     have j10:(0:Int)≤(l.length:Int):=by omega
     have j11:(n:Int)≤(l.length:Int):=by omega
     clear pr hnl hwf HI HL HX H5
     go_wp2_with (first | (go_at_call 17;refine CU.mono ?_;rintro e w' ⟨rfl,hw'⟩;have hw' := hw'.symm;subst hw') | (go_at_call 42;refine CF.mono ?_;rintro e w7 ⟨rfl,p7,k7⟩;obtain ⟨CM,FIN⟩:=HE.out w7 p7 k7;have HF:=(show Hid _ from FIN);clear FIN) | (go_at_call 55;refine CM.mono ?_;rintro e w9 ⟨mb,rfl,hmb,hr9,hk9⟩))
     have RES:=HF.out mb w9 hr9 hk9
     exact bodyPost_ret (v:=.tuple #[.slice (some ⟨mb,0,none⟩) R.length R.length,.int .i64 ((l.length:Int)-(n:Int)),.int .i64 0]) (by simp [results,Try.results23,go_sem]) rfl RES
structure RhB (B:Nat→Prop) (w:World) (r room:Nat) (v:Value) (l:List Nd):Prop where
 box:w.heap[r]? = some (.cells #[.int .i64 (room:Int),v] 70 (0,0))
 row:NRow B 0 w v l
 rm1:1≤room
 rm2:room≤4000
 le:l.length≤room
 may:∀ x∈l,mayB l.length x=true
 ac:Ac l
theorem RhB.lt {B:Nat→Prop} {w:World} {r room:Nat} {v:Value} {l:List Nd} (p:RhB B w r room v l):r<w.heap.size:=lt_of_at p.box
theorem RhB.noti {B:Nat→Prop} {w:World} {r room:Nat} {v:Value} {l:List Nd} (p:RhB B w r room v l):NotI w r:=fun cur h=>by rw [p.box] at h;cases h
theorem RhB.inl {B:Nat→Prop} {w:World} {r room:Nat} {v:Value} {l:List Nd} (p:RhB B w r room v l):InL l:=inl_of_may p.may
theorem RhB.cells {B:Nat→Prop} {w:World} {r room:Nat} {v:Value} {l:List Nd} (p:RhB B w r room v l):w.cell? ⟨r,0,none⟩=some (.int .i64 (room:Int))∧w.cell? ⟨r,1,none⟩=some v:=⟨cellAt p.box 0,cellAt p.box 1⟩
theorem RhB.kept {B S:Nat→Prop} {w w' : World} {r room:Nat} {v:Value} {l:List Nd} (p:RhB B w r room v l) (hk:Kept S w w') (n1:¬ S r) (n2:∀ k,v.ownBlock=some k→¬ S k) (hS:∀ k,B k→S k→NotI w k):RhB B w' r room v l:=
 ⟨hk.at p.box n1,p.row.kept hk n2 hS,p.rm1,p.rm2,p.le,p.may,p.ac⟩
theorem RhB.same {B:Nat→Prop} {w w' : World} {r room:Nat} {v:Value} {l:List Nd} (p:RhB B w r room v l) (hk:Same0 w w'):RhB B w' r room v l:=p.kept hk (fun f=>f) (fun _ _ f=>f) (fun _ _ f=>f.elim)
theorem RhB.mem {B:Nat→Prop} {w:World} {r room:Nat} {v:Value} {l:List Nd} (p:RhB B w r room v l):∃ ao cap,v=.slice ao l.length cap∧NsM B w ao l:=by
 obtain ⟨ao,cap,rfl⟩:=p.row.shape
 exact ⟨ao,cap,rfl,p.row.mem⟩
theorem NRow.zero {B:Nat→Prop} {base:Nat} {w:World} {v:Value} {l:List Nd} (h:NRow B base w v l):NRow B 0 w v l:=by
 obtain ⟨vs,h1,h2⟩:=h
 exact ⟨vs,row_mono h1 (Nat.zero_le _),h2⟩
theorem NRow.mono {B B' : Nat→Prop} {base:Nat} {w:World} {v:Value} {l:List Nd} (h:NRow B base w v l) (hB:∀ k,k<w.heap.size→B k→B' k):NRow B' base w v l:=by
 obtain ⟨vs,h1,h2⟩:=h
 exact ⟨vs,h1,h2.mono hB⟩
def hasB (n:Nat) (a:Int):Bool:=decide (0≤a) && decide (a<(n:Int))
theorem hasB_yes {n:Nat} {a:Int} (h:0≤a∧a<(n:Int)):hasB n a=true:=by unfold hasB;simp [h]
set_option maxHeartbeats 1000000 in
theorem rhas_any {w:World} {r n cap:Nat} {ao:Option Addr} (c1:w.cell? ⟨r,1,none⟩=some (.slice ao n cap)) (hn:n≤maxLen) (a:Int) :
  Calls Try.prog 56 #[.pointer (some ⟨r,0,none⟩),.int .i64 a] w fun e w' => e=.returned (.bool (hasB n a))∧w' = w:=by
 unfold maxLen at hn
 have HE:Hid (hasB n a=(decide (0≤a) && decide (a<(n:Int)))):=rfl
 generalize hasB n a=R at *
 by_cases h1:0≤a
 ·by_cases h2:a<(n:Int)
  ·have HR:Hid (R=true):=by show _=_;rw [HE.out];simp [h1,h2]
   clear HE
   go_enter Try.func56,Try.ntmps56
   go_wp2
   go_ret
   exact ⟨ret_bool HR.out.symm,rfl⟩
  ·have HR:Hid (R=false):=by show _=_;rw [HE.out];simp [h2]
   clear HE
   go_enter Try.func56,Try.ntmps56
   go_wp2
   go_ret
   exact ⟨ret_bool HR.out.symm,rfl⟩
 ·have HR:Hid (R=false):=by show _=_;rw [HE.out];simp [h1]
  clear HE
  go_enter Try.func56,Try.ntmps56
  go_wp2
  go_ret
  exact ⟨ret_bool HR.out.symm,rfl⟩
set_option maxHeartbeats 2000000 in
theorem rres_yes {w:World} {r cap:Nat} {ao:Option Addr} {l:List Nd} (c1:w.cell? ⟨r,1,none⟩=some (.slice ao l.length cap)) (hs:NsW w ao l) (hn:l.length≤maxLen) (hin:InL l) (hac:Ac l) (i:Nat) (hi:i<l.length) :
  Calls Try.prog 33 #[.pointer (some ⟨r,0,none⟩),.int .i64 (i:Int)] w fun e w' => ∃ b:Nat,e=.returned (.tuple #[.int .i64 (b:Int),.int .i64 0])∧Res l i b∧w' = w:=by
 have C:=rhas_any c1 hn (i:Int)
 rw [hasB_yes (by omega)] at C
 obtain ⟨rk,hr⟩:=hac
 have HR:Hid (∀ i j,Ed l i j→rk j<rk i):=hr
 have HI:Hid (InL l):=hin
 rcases hs with e | ⟨nb,noff,rfl,hnb,hc⟩
 ·subst e;simp at hi
 have HE:Hid (∀ j (hj:j<l.length),∃ xo xc,w.cell? ⟨nb,noff+j * 5,none⟩=some (.int .i64 l[j].1)∧w.cell? ⟨nb,noff+j * 5+1,none⟩=some (.slice xo l[j].2.1.length xc)∧w.cell? ⟨nb,noff+j * 5+2,none⟩=some (.int .i64 l[j].2.2.1)∧w.cell? ⟨nb,noff+j * 5+3,none⟩=some (.bool l[j].2.2.2.1)∧w.cell? ⟨nb,noff+j * 5+4,none⟩=some (.int .i64 l[j].2.2.2.2)∧Arg w xo l[j].2.1 xc):=hc
 unfold maxLen at hn
 clear hr hin hc hnb
 go_enter Try.func33,Try.ntmps33
 go_upto_region 3 with (first | (go_at_call 56;refine C.mono ?_;rintro e w' ⟨rfl,h'⟩;have h' := h'.symm;subst h'))
 clear C
 go_loop [1] (fun v=>∃ a:Nat,a<l.length∧v=.int .i64 (a:Int)∧Hid (∃ k,Ind l k i a)) (fun v=>rk (intOf v).toNat)
 case atStart=>exact ⟨i,hi,rfl,0,rfl⟩
 case round=>
  obtain ⟨a,ha,rfl,hk⟩:=hrel
  obtain ⟨xo,xc,n0,n1,n2,n3,n4, -⟩:=HE.out a ha
  have i1:(0:Int)≤(a:Int):=by omega
  have i2:(a:Int)<(l.length:Int):=by omega
  cases hp:l[a].2.2.2.1
  ·rw [hp] at n3
   have HP:Hid (l[a].2.2.2.1=false):=hp
   clear hp n0 n1 n2 n4
   go_wp2
   go_ret2
   exact ⟨a,rfl,⟨hk.out,ha,HP.out⟩,rfl⟩
  ·rw [hp] at n3
   have HP:Hid (l[a].2.2.2.1=true):=hp
   obtain ⟨m1,m2⟩:=HI.out a ha l[a].2.2.2.2 (by unfold downL;rw [hp];simp)
   obtain ⟨t,ht⟩:∃ t:Nat,l[a].2.2.2.2=(t:Int):=⟨l[a].2.2.2.2.toNat,by omega⟩
   have HT:Hid (l[a].2.2.2.2=(t:Int)):=ht
   rw [ht] at n4
   have hlt:t<l.length:=by omega
   clear hp n0 n1 n2 m1 m2 ht
   go_wp2
   go_round
   case rel=>exact ⟨t,hlt,rfl,by
    obtain ⟨k,hk⟩:=hk.out
    have:=hk.snoc ha HP.out
    rw [HT.out] at this
    exact ⟨k+1,by simpa using this⟩⟩
   case measure=>
    have:=HR.out a t (by have:=ed_ind ha HP.out (by rw [HT.out];omega);rw [HT.out] at this;simpa using this)
    simpa [intOf] using this
end Go.Proofs.Ytmloedlkoijfbaa
