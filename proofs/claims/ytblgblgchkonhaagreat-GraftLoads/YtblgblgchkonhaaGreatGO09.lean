import Derived.Test.YtblgblgchkonhaaGreatGO08
import Derived.Test.YtblgblgchkonhaaGreatGO07
import Derived.Test.YtblgblgchkonhaaGreatGO03
import Derived.Test.YtblgblgchkonhaaGreatGO04
import Derived.Test.YtblgblgchkonhaaGreatGO06
namespace Go.Proofs.YtblgblgchkonhaaGreat
set_option maxRecDepth 100000
set_option linter.unusedVariables false
open Go.RowKit
attribute [local go_sem ↓] Go.wp_at_zero Go.wp_at_succ
set_option maxHeartbeats 2000000 in
theorem rload_yes {B:Nat→Prop} {n r room:Nat} {w:World} {rv v:Value} {L:List Sym} {N:List Nd} (h:Rl n w rv L) (p:RhB B w r room v N) (hn:n≤r) (hnv:∀ k,v.ownBlock=some k→n≤k) {ao:Option Addr} {cap:Nat} {t:List Int} (ht:IntsAt w ao t) (hta:∀ a,ao=some a→¬ (a.block=r∨v.ownBlock=some a.block)) (hT:IsT L t) (hc:checkE L t=0) (hv:∀ x∈t,0≤x) (hf:N.length+t.length≤room) :
  Calls Tryz.prog 10 #[rv,.pointer (some ⟨r,0,none⟩),.slice ao t.length cap] w fun e w' => e=.returned (.tuple #[.int .i64 ((N.length:Int)+(t.length:Int)-1),fltV 0 0 0])∧∃ v', RhB (fun b=>B b∨w.heap.size≤b) w' r room v' (laidN L t N t.length)∧(∀ k,v'.ownBlock=some k→v.ownBlock=some k∨w.heap.size≤k)∧Kept (fun k=>k=r∨v.ownBlock=some k) w w' := by
 obtain ⟨W0,hW0⟩:∃ W0,W0=w.alloc (.cells #[.int .i64 0,.int .i64 0,.int .i64 0,.bool false,.int .i64 0,.int .i64 0] 42):=⟨_,rfl⟩
 have k0:Same0 w W0:=by rw [hW0];exact (Kept.refl _ w).alloc _
 have h0:W0.heap[w.heap.size]? = some (.cells #[.int .i64 0,.int .i64 0,.int .i64 0,.bool false,.int .i64 0,.int .i64 0] 42 (0,0)):=by rw [hW0];exact heap_alloc_new w _
 have hm:t.length≤2000:=(check_zero hc).1
 have C:=rcheck_any (cap:=cap) (h.same k0) (ht.same k0) (by unfold maxLen;omega)
 rw [hc] at C
 obtain ⟨ro,rcap,rfl⟩:=row_shape h.1
 have p0:=p.same k0
 have HT:=ht.same k0
 have HV:Hid (∀ x∈t,0≤x):=hv
 have hrm:=p.rm2
 have I0:Hid (LdI B L t N W0 r room v 0 W0 v):=LdI.zero L t p0
 have PT:Hid (∀ wr,Kept (fun k=>k=r∨v.ownBlock=some k) W0 wr→Rl n wr (.slice ro L.length rcap) L∧IntsAt wr ao t):=fun wr hk=>⟨(h.same k0).kept hk (fun k hkn=>by
  rintro (e | e)
  ·omega
  ·have:=hnv _ e;omega),HT.kept hk hta⟩
 have NE:Hid (Ars L):=h.2.2.1
 have NF:Hid (¬ (w.heap.size=r∨v.ownBlock=some w.heap.size)):=by
  show ¬ _
  rintro (e | e)
  ·have:=p.lt;omega
  ·have:=(p.row.block e).2.1;omega
 have HTT:Hid (IsT L t):=hT
 obtain ⟨c0,c1⟩:=p0.cells
 obtain ⟨vo,vc,rfl⟩:=p.row.shape
 clear h ht hc hv p p0 hta hnv hT
 go_enter Tryz.func10,Tryz.ntmps10
 go_upto_region 1 with fail
 rw [← hW0]
 clear hW0
 go_upto_region 4 with (first | (go_at_call 36;refine C.mono ?_;rintro e w1 ⟨rfl,h1⟩;have h1:=h1.symm;subst h1))
 go_wp2_with fail
 go_loopw [9] (fun s9 wr=>∃ k:Nat,k≤t.length∧s9=.int .i64 (k:Int)∧Hid True∧wr=W0) (fun s9 _=>t.length-(intOf s9).toNat)
 case atStart=>exact ⟨0,Nat.zero_le _,rfl,trivial,rfl⟩
 case round=>
  obtain ⟨k,hk,rfl,hH,hww⟩:=hrel
  have hww:=hww.symm
  subst hww
  by_cases hlt:k<t.length
  ·obtain ⟨xb,off,rfl,hxb,hxc⟩:=HT.get hlt
   have i1:(0:Int)≤(k:Int):=by omega
   have i2:(k:Int)<(t.length:Int):=by omega
   have hx:¬ (t[k]<0):=by have:=HV.out _ (List.getElem_mem hlt);omega
   generalize t[k]=x at *
   go_wp2_with fail
   refine ⟨⟨k+1,by omega,by go_num,trivial,trivial⟩,by simp [intOf];omega⟩
  ·have i3:¬ (room:Int)-(N.length:Int)<(t.length:Int):=by omega
   go_upto_region 9 with fail
   go_quiet (fail)
   obtain ⟨W1,hW1⟩:∃ W1,W1=W0.drewN nq:=⟨_,rfl⟩
   have K1:Same0 W0 W1:=by rw [hW1];exact (Kept.refl _ _).drewN _
   rw [← hW1]
   have I1:=I0.out.same K1
   obtain ⟨d0,d1⟩:=I1.1.cells
   clear hW1
   go_upto_region 13 with fail
   go_loopw [11] (fun s11 wr=>∃ d:Nat,d≤t.length∧s11=.int .i64 ((t.length:Int)-1-(d:Int))∧∃ vr,Hid (LdI B L t N W0 r room (.slice vo N.length vc) d wr vr)) (fun s11 _=>(intOf s11+1).toNat)
   case atStart=>exact ⟨0,Nat.zero_le _,by go_num,_,I1⟩
   case round=>
    obtain ⟨d,hd,rfl,vr,I⟩:=hrel
    by_cases hlt2:d<t.length
    ·obtain ⟨PR,PI⟩:=PT.out _ I.out.2.2
     obtain ⟨q,hq⟩:∃ q,q+d+1=t.length:=⟨t.length-1-d,by omega⟩
     have hqt:q<t.length:=by omega
     have eq:(t.length:Int)-1-(d:Int)=(q:Int):=by omega
     rw [eq]
     have g0:(0:Int)≤(q:Int):=by omega
     have CA:=rargs_any (cap:=cap) PR PI hm HTT.out q hqt
     rw [argsN_eq hqt] at CA
     go_upto_region 17 with (first | (go_at_call 37;refine CA.mono ?_;rintro e w3 ⟨pv,rfl,hpr,hk3⟩))
     have A6:=arN_le NE.out t[q]
     have SB:Hid (∀ x∈ofN (starts L t (arN L t[q]) (q+1)),0≤x∧x<(t.length:Int)):=fun x hx=>by
      obtain ⟨y,hy,rfl⟩:=List.mem_map.1 hx
      have hfo:=(Forest.one HTT.out hqt).kids.2
      have:=starts_in hfo hfo.le.2 hy
      constructor <;> simp <;> omega
     have EM:Hid ((ofN (starts L t (arN L t[q]) (q+1))).map (fun x=>(N.length:Int)+(t.length:Int)-1-x)=(starts L t (arN L t[q]) (q+1)).map (adr (N.length+t.length))):=by
      show _=_
      unfold ofN adr
      rw [List.map_map]
      apply List.map_congr_left
      intro x _
      simp
     have XL:(ofN (starts L t (arN L t[q]) (q+1))).length≤6:=by simp [ofN,starts_length];exact A6
     generalize ofN (starts L t (arN L t[q]) (q+1))=X at *
     obtain ⟨po,pcap,rfl,PA, -⟩:=hpr.arg (by omega)
     have PX:=PA.1.at'
     have N4:(N.length:Int)≤4000:=by omega
     have I3:=I.out.same hk3
     clear CA hpr PA PR PI I C
     go_upto_region 18 with fail
     go_loopw [12,14] (fun s12 s14 wr=>∃ j:Nat,j≤X.length∧s14=.int .i64 (j:Int)∧Row w3.heap.size wr s12 ((X.take j).map (fun x=>(N.length:Int)+(t.length:Int)-1-x))∧Same0 w3 wr) (fun _ s14 _=>X.length-(intOf s14).toNat)
     case atStart=>exact ⟨0,Nat.zero_le _,rfl,World.ownsRow_nil _ _ _ _,Kept.refl _ _⟩
     case round=>
      obtain ⟨j,hj,rfl,hr,hs⟩:=hrel
      by_cases hlt3:j<X.length
      ·obtain ⟨pb,poff,rfl, -,cP⟩:=(PX.same hs).get hlt3
       have xb:=SB.out _ (List.getElem_mem hlt3)
       have j0:(0:Int)≤(j:Int):=by omega
       have j1:(j:Int)<(X.length:Int):=by omega
       have e2:Hid ((X.take (j+1)).map (fun x=>(N.length:Int)+(t.length:Int)-1-x)=(X.take j).map (fun x=>(N.length:Int)+(t.length:Int)-1-x) ++ [(N.length:Int)+(t.length:Int)-1-X[j]]):=by
        show _=_
        rw [List.take_succ_eq_append_getElem hlt3,List.map_append];rfl
       have hlen:((X.take j).map (fun x=>(N.length:Int)+(t.length:Int)-1-x)).length=j:=by simp;omega
       obtain ⟨x0,x1⟩:=xb
       generalize X[j]=x at *
       generalize (X.take j).map (fun x=>(N.length:Int)+(t.length:Int)-1-x)=out at *
       subst hlen
       obtain ⟨oo,ocap,rfl⟩:=row_shape hr
       have T2:(t.length:Int)≤2000:=by omega
       go_wp2_with (first | (at_builtin;refine wpList_push rfl _ _ 33 rfl Tryz.underlying33 w3.heap.size out _ rfl hr ((N.length:Int)+(t.length:Int)-1-x) rfl hs.size (by omega) ?_;intro g gcap w4 hr4 hk4 _;have hs4:=hs.onto hr hk4))
       rw [← e2.out] at hr4
       go_roundw
       case rel=>first | exact ⟨out.length+1,by omega,by go_num,hr4,hs4⟩ | ((repeat apply Exists.intro);exact ⟨⟨out.length+1,by omega,by go_num,hr4,hs4⟩,rfl⟩)
       case measure=>simp [intOf];omega
      ·obtain rfl:j=X.length:=by omega
       rw [List.take_length,EM.out] at hr
       have KL:((starts L t (arN L t[q]) (q+1)).map (adr (N.length+t.length))).length≤6:=by simp [starts_length];exact A6
       have EP:Hid (plN L t (N.length+t.length) q=(t[q],(starts L t (arN L t[q]) (q+1)).map (adr (N.length+t.length)),0,false,0)):=by
        show _=_
        simp [plN,List.getElem?_eq_getElem hqt]
       obtain ⟨bo,bc,rfl,AT,AB⟩:=hr.arg (by omega)
       have D1:=hs
       have ID:=I3.same D1
       obtain ⟨vro,vrc,rfl⟩:=ID.1.row.shape
       have ATD:=AT
       obtain ⟨y0,y1⟩:=ID.1.cells
       obtain ⟨tb,toff,rfl,htb,hc⟩:=(PT.out _ ID.2.2).2.get hqt
       have LL:Hid ((laidN L t N d).length≤100000):=by
        show _≤_
        rw [laid_len];omega
       have ST:Hid (∀ gg cap9 w9,_→_→_→_):=fun gg cap9 w9 (r9:NRow _ 0 w9 (.slice (some ⟨gg,0,none⟩) ((laidN L t N d).length+1) cap9) _) k9 hat=>ID.step HTT.out NE.out hq HV.out hf (Kept.refl _ _) r9 k9 hat
       have HBB:Hid (∀ a,bo=some a→B a.block∨W0.heap.size≤a.block):=fun a e=>.inr (Nat.le_trans I3.2.2.size (AB a e))
       have HRW:Hid _:=ID.1.row
       have RLT:=ID.1.lt
       rw [EP.out] at ST
       clear hr AT AB I3 PX SB EM
       generalize (starts L t (arN L t[q]) (q+1)).map (adr (N.length+t.length))=K at *
       generalize t[q]=s at *
       clear I0 ID hs hj hlt3 XL i3
       generalize laidN L t N d=Z at *
       obtain ⟨W5,hW5⟩:∃ W5,W5=wr:=⟨_,rfl⟩
       have KA:Same0 W5 (W5.alloc (.cells #[.int .i64 s,.slice bo K.length bc,.int .i64 0,.bool false,.int .i64 0] 76)):=(Kept.refl _ _).alloc _
       have rlt:r<W5.heap.size:=by rw [hW5];exact RLT
       rw [← hW5] at y0 y1 htb hc ATD HRW ST
       have f1:=(KA.cell (p:=⟨r,1,none⟩) rlt (fun f=>f)).trans y1
       have f2:=(KA.cell (p:=⟨tb,toff+q,none⟩) htb (fun f=>f)).trans hc
       subst hW5
       have hW6:Same0 W5 W5.drew:=(Kept.refl _ _).drew
       go_upto_region 21 with fail
       go_region_law (first
        | (refine step_nd (w0:=W5) (by rfl) _ _ (by rfl) 0 Z (.slice vro Z.length vrc) (by rfl) (by first | exact (Kept.refl _ W5).alloc _ | exact (Kept.refl _ W5).drew.alloc _ | exact ((Kept.refl _ W5).alloc _).drew) HRW.out (s,K,0,false,0) bo bc W5.heap.size (by rfl) (heap_alloc_new W5 _) ATD HBB.out (Nat.zero_le _) (by have:=LL.out;omega) ?_;intro gg cap9 w9 r9 k9 hat;obtain ⟨⟨z0,z1,z2⟩,FF⟩:=ST.out gg cap9 w9 r9 k9 hat))
       all_goals
        go_wp2_with fail
        refine ⟨⟨d+1,by omega,by go_num,_,FF⟩,by simp [intOf]⟩
    ·obtain rfl:d=t.length:=by omega
     have hb:=I.out.2.2.at h0 NF.out
     obtain ⟨⟨b0,b1,b2,b3,b4,b5⟩,g0,g1,g2,g3,g4,g5⟩:=boxF6 hb
     obtain ⟨vro,vrc,rfl⟩:=I.out.1.row.shape
     obtain ⟨y0,y1⟩:=I.out.1.cells
     have hlt0:=lt_of_at h0
     have FIN:Hid (∀ c0 c1 c2 c3 c4 c5,RhB (fun b=>B b∨w.heap.size≤b) (put6 wr w.heap.size c0 c1 c2 c3 c4 c5) r room (.slice vro (laidN L t N t.length).length vrc) (laidN L t N t.length)∧(∀ k,(Value.slice vro (laidN L t N t.length).length vrc).ownBlock=some k→(Value.slice vo N.length vc).ownBlock=some k∨w.heap.size≤k)∧Kept (fun k=>k=r∨(Value.slice vo N.length vc).ownBlock=some k) w (put6 wr w.heap.size c0 c1 c2 c3 c4 c5)):=by
      intro c0 c1 c2 c3 c4 c5
      have KP:=put6_kept wr w.heap.size c0 c1 c2 c3 c4 c5
      have P:=I.out.1.kept KP (fun e=>NF.out (.inl e.symm)) (fun k e e2=>by
       subst e2
       rcases I.out.2.1 _ e with e3 | e3
       ·exact NF.out (.inr e3)
       ·omega) (fun k _ e2 cur hcc=>by rw [e2,hb] at hcc;cases hcc)
      refine ⟨⟨P.box,P.row.mono (fun k _ q=>q.imp id (fun e=>by omega)),P.rm1,P.rm2,P.le,P.may,P.ac⟩,fun k e=>(I.out.2.1 k e).imp id (fun e=>by omega),?_⟩
      exact ((Kept.mono k0 (fun _ _ f=>f.elim)).trans I.out.2.2 (fun _ _ e=>e)).trans KP (fun i hi e=>by omega)
     rw [laid_len] at y1 FIN
     have LN:((N.length+t.length:Nat):Int)=(N.length:Int)+(t.length:Int):=by simp
     clear I I0 I1 PT HT
     go_wp2_with fail
     exact bodyPost_ret (v:=.tuple #[.int .i64 ((N.length:Int)+(t.length:Int)-1),fltV 0 0 0]) (by simp [results,Tryz.results10,go_sem,b0,b1,b2,b3,b4,b5,fltV]) rfl ⟨rfl,_,FIN.out _ _ _ _ _ _⟩
structure RfI (w wr:World) (h g room:Nat) (v:Value) (l:List Nd) (k:Nat):Prop where
 box:wr.heap[h]? = some (.cells #[.slice (some ⟨g,0,none⟩) room room,v] 119 (0,0))
 blk:∃ cs,wr.heap[g]? = some (.cells cs 76 (0,0))∧cs.size=room * 5
 each:∀ i (hi:i<l.length),i<k→NdC (fun b=>w.heap.size≤b) wr g (i * 5) l[i]
 kp:Kept (fun b=>b=g) w wr
theorem RfI.cells {w wr:World} {h g room k:Nat} {v:Value} {l:List Nd} (p:RfI w wr h g room v l k):wr.cell? ⟨h,0,none⟩=some (.slice (some ⟨g,0,none⟩) room room):=cellAt p.box 0
theorem RfI.same {w wr w' : World} {h g room k:Nat} {v:Value} {l:List Nd} (p:RfI w wr h g room v l k) (hk:Same0 wr w'):RfI w w' h g room v l k:=by
 obtain ⟨cs,h1,h2⟩:=p.blk
 exact ⟨hk.at0 p.box,⟨cs,hk.at0 h1,h2⟩,fun i hi hik=>(p.each i hi hik).kept (lt_of_at h1) hk (fun f=>f) (fun _ _ f=>f.elim),p.kp.trans hk (fun _ _ f=>f.elim)⟩
theorem RfI.there {w wr:World} {h g room k:Nat} {v:Value} {l:List Nd} (p:RfI w wr h g room v l k) {i:Nat} (hi:i<room):(∃ u0 u1 u2 u3 u4,wr.cell? ⟨g,i * 5,none⟩=some u0∧wr.cell? ⟨g,i * 5+1,none⟩=some u1∧wr.cell? ⟨g,i * 5+2,none⟩=some u2∧wr.cell? ⟨g,i * 5+3,none⟩=some u3∧wr.cell? ⟨g,i * 5+4,none⟩=some u4)∧∀ o,wr.frozen? ⟨g,o,none⟩=false:=by
 obtain ⟨cs,h1,h2⟩:=p.blk
 have t:∀ o,o<cs.size→wr.cell? ⟨g,o,none⟩=some cs[o]! := fun o ho=>by rw [cellAt h1];simp [ho]
 exact ⟨⟨_,_,_,_,_,t _ (by omega),t _ (by omega),t _ (by omega),t _ (by omega),t _ (by omega)⟩,fun o=>frozenAt h1 o⟩
theorem RfI.put {w wr w3:World} {h g room k:Nat} {v:Value} {l:List Nd} (p:RfI w wr h g room v l k) (hne:h≠g) (hk:Same0 wr w3) (hl:k<l.length) (hr:k<room) {bo:Option Addr} {bc:Nat} (ha:ArgT w3 bo l[k].2.1 bc) (hb:∀ a,bo=some a→w.heap.size≤a.block) :
  RfI w (put5 w3 g (k * 5) (.int .i64 l[k].1) (.slice bo l[k].2.1.length bc) (.int .i64 l[k].2.2.1) (.bool l[k].2.2.2.1) (.int .i64 l[k].2.2.2.2)) h g room v l (k+1):=by
 have p3:=p.same hk
 have hkl:(l.take k).length=k:=by simp;omega
 obtain ⟨q1,q2,q3⟩:=put5_nodes (B:=fun b=>w.heap.size≤b) (B' := fun b=>w.heap.size≤b) (l:=l.take k) (i:=k) (x:=l[k]) (ao:=bo) (ac:=bc) p3.blk (fun i hi=>by
  have hi' : i<k:=by omega
  have:=p3.each i (by omega) hi'
  simpa using this) hr ha hb (fun _ e=>e)
 have K:=put5_kept w3 g (k * 5) (.int .i64 l[k].1) (.slice bo l[k].2.1.length bc) (.int .i64 l[k].2.2.1) (.bool l[k].2.2.2.1) (.int .i64 l[k].2.2.2.2)
 refine ⟨K.at p3.box hne,q2,fun i hi hik=>?_,p3.kp.trans K (fun _ _ e=>e)⟩
 by_cases e:i=k
 ·subst e;exact q1
 ·have:=q3 i (by omega) e
  simpa using this
theorem setCells_kept (g:Nat):∀ (vs:List Value) (o:Nat) (w:World),Kept (fun k=>k=g) w (w.setCells g o vs)∧∀ cs t fr,w.heap[g]? = some (.cells cs t fr)→∃ cs', (w.setCells g o vs).heap[g]? = some (.cells cs' t fr)∧cs'.size=cs.size
 | [],o,w=>⟨Kept.refl _ _,fun cs t fr h=>⟨cs,h,rfl⟩⟩
 | v :: r,o,w=>by
  obtain ⟨h1,h2⟩:=setCells_kept g r (o+1) (w.setCell ⟨g,o,none⟩ v)
  have k:Kept (fun k=>k=g) w (w.setCell ⟨g,o,none⟩ v):=Kept.setCell (S:=fun k=>k=g) (Kept.refl _ _) (p:=⟨g,o,none⟩) (fun _=>rfl) v
  refine ⟨k.trans h1 (fun _ _ e=>e),fun cs t fr h=>?_⟩
  obtain ⟨cs', q1,q2⟩:=h2 _ t fr (setAt h o v)
  exact ⟨cs', q1,by rw [q2];simp⟩
theorem RfI.cleared {w wr:World} {h g room:Nat} {v:Value} {l:List Nd} (p:RfI w wr h g room v l l.length) (hne:h≠g) (vs:List Value):RfI w (wr.setCells g (l.length * 5) vs) h g room v l l.length:=by
 obtain ⟨cs,h1,h2⟩:=p.blk
 obtain ⟨k,q⟩:=setCells_kept g vs (l.length * 5) wr
 obtain ⟨cs', q1,q2⟩:=q cs _ _ h1
 have gi:∀ j,j=g→NotI wr j:=fun j e cur hc=>by rw [e,h1] at hc;cases hc
 refine ⟨k.at p.box hne,⟨cs', q1,by rw [q2,h2]⟩,fun i hi hik=>?_,p.kp.trans k (fun _ _ e=>e)⟩
 obtain ⟨ao,ac,n0,n1,n2,n3,n4,n5,n6⟩:=p.each i hi hik
 have t:∀ o,o<l.length * 5→(wr.setCells g (l.length * 5) vs).cell? ⟨g,o,none⟩=wr.cell? ⟨g,o,none⟩:=fun o ho=>World.cell?_setCells_out g vs _ _ _ (fun _ _=>.inl ho)
 exact ⟨ao,ac,(t _ (by omega)).trans n0,(t _ (by omega)).trans n1,(t _ (by omega)).trans n2,(t _ (by omega)).trans n3,(t _ (by omega)).trans n4,n5.kept k gi,n6⟩
theorem RfI.done {w wr:World} {h g room:Nat} {v:Value} {l:List Nd} (p:RfI w wr h g room v l l.length) (hne:h≠g) (h1:1≤room) (h2:room≤4000) (hl:l.length≤room) (hm:∀ x∈l,mayB l.length x=true) (ha:Ac l) :
  HpB (fun b=>w.heap.size≤b) (wr.setCell ⟨h,1,none⟩ (.int .i64 (l.length:Int))) h g room l∧Kept (fun k=>k=h∨k=g) w (wr.setCell ⟨h,1,none⟩ (.int .i64 (l.length:Int))):=by
 obtain ⟨cs,q1,q2⟩:=p.blk
 have k:Kept (fun k=>k=h) wr (wr.setCell ⟨h,1,none⟩ (.int .i64 (l.length:Int))):=Kept.setCell (S:=fun k=>k=h) (Kept.refl _ _) (p:=⟨h,1,none⟩) (fun _=>rfl) _
 have hi:∀ j,j=h→NotI wr j:=fun j e cur hc=>by rw [e,p.box] at hc;cases hc
 refine ⟨⟨?_,⟨cs,k.at q1 (fun e=>hne e.symm),q2⟩,h1,h2,hl,fun i hi' => (p.each i hi' hi').kept (lt_of_at q1) k (fun e=>hne e.symm) (fun j _ e=>hi j e),hm,ha⟩,?_⟩
 ·have:=setAt p.box 1 (.int .i64 (l.length:Int))
  simpa using this
 ·exact (p.kp.mono (fun _ _ e=>.inr e)).trans k (fun _ _ e=>.inl e)
theorem zero_one (n:Nat):∀ v∈(Builtin.zeroCells #[Value.int .i64 0,.slice none 0 0,.int .i64 0,.bool false,.int .i64 0] n).toList,v.oneCell' = true:=by
 intro v hv
 unfold Builtin.zeroCells at hv
 simp at hv
 obtain ⟨i,hi,rfl⟩:=hv
 have:i % 5<5:=Nat.mod_lt _ (by decide)
 match q:i % 5,this with
 | 0,_=>rfl
 | 1,_=>rfl
 | 2,_=>rfl
 | 3,_=>rfl
 | 4,_=>rfl
theorem run_clear_nodes (w:World) (ty:TypeId) (g o m c:Nat) (hm:0<m) (hc:∀ j,j<m * 5→(w.cell? ⟨g,o+j,none⟩).isSome=true) (hf:∀ j,j<m * 5→w.frozen? ⟨g,o+j,none⟩=false) :
  (Builtin.clear_ #[23] ty #[.slice (some ⟨g,o,none⟩) m c]).run Tryz.prog w=.ok (.tuple #[]) (w.setCells g o (Builtin.zeroCells #[Value.int .i64 0,.slice none 0 0,.int .i64 0,.bool false,.int .i64 0] m).toList):=by
 have hlen:(Builtin.zeroCells #[Value.int .i64 0,.slice none 0 0,.int .i64 0,.bool false,.int .i64 0] m).toList.length=m * 5:=by simp [Builtin.zeroCells]
 have hst:=run_storeCells_cells (P:=Tryz.prog) g o (Builtin.zeroCells #[Value.int .i64 0,.slice none 0 0,.int .i64 0,.bool false,.int .i64 0] m).toList 0 w (by rw [hlen];simpa using hc) (by rw [hlen];simpa using hf) (zero_one m)
 simp only [Nat.add_zero] at hst
 obtain ⟨k,rfl⟩:∃ k,m=k+1:=⟨m-1,by omega⟩
 have hcl:(Value.agg #[.int .i64 0,.slice none 0 0,.int .i64 0,.bool false,.int .i64 0]).cells = #[Value.int .i64 0,.slice none 0 0,.int .i64 0,.bool false,.int .i64 0]:=rfl
 simp [Builtin.clear_,run_underlying Tryz.underlying23,hcl,hst]
set_option maxHeartbeats 1000000 in
theorem refill_yes {B:Nat→Prop} {w:World} {h g room:Nat} {l:List Nd} (p:HpB B w h g room l) {ao:Option Addr} {ac:Nat} {l' : List Nd} (hs:NsV (fun b=>b≠g) w ao l') (hE:RfE room l' 0) :
  Calls Tryz.prog 28 #[.pointer (some ⟨h,0,none⟩),.slice ao l'.length ac] w fun e w' => e=.returned (.int .i64 0)∧HpB (fun b=>w.heap.size≤b) w' h g room l' ∧ Kept (fun k=>k=h∨k=g) w w' := by
 obtain ⟨a,b,c⟩:l'.length≤room∧l'.all (mayB l'.length)=true∧Ac l' := by
  rcases hE with ⟨_,e⟩ | ⟨_,_,e⟩ | ⟨_,_,_,e⟩ | ⟨a,b,c,_⟩
  ·cases e
  ·cases e
  ·cases e
  ·exact ⟨a,b,c⟩
 obtain ⟨c0,c1⟩:=p.cells
 have hr1:=p.rm1
 have hr2:=p.rm2
 have hne:=p.ne
 have j1:¬ (room:Int)<(l'.length:Int):=by omega
 have CS:=shaped_any (ac:=ac) hs.weak (by omega)
 obtain ⟨f1,f2,f3⟩:=few_of_may b
 have CR:Hid (∀ ww,Same0 w ww→Calls Tryz.prog 55 #[.slice ao l'.length ac] ww fun e w' => RingQ l' ww e w'):=fun ww hk=>ringed_any (hs.same hk).weak f2 f3 (by omega)
 have HAC:Hid (Ac l'):=c
 have HF1:Hid (∀ x∈l', mayB l'.length x=true):=f1
 have HF3:Hid (∀ x∈l', x.2.1.length≤6):=f3
 have HI0:Hid (∀ ww,Same0 w ww→RfI w ww h g room (.int .i64 (l.length:Int)) l' 0):=fun ww hk=>by
  obtain ⟨cs,h1,h2⟩:=p.blk
  exact ⟨hk.at0 p.box,⟨cs,hk.at0 h1,h2⟩,fun i _ hi=>absurd hi (Nat.not_lt_zero _),hk.mono (fun _ _ f=>f.elim)⟩
 have HGI:Hid (∀ k,k=g→NotI w k):=fun k e cur hc=>by
  obtain ⟨cs,h1,h2⟩:=p.blk
  rw [e,h1] at hc;cases hc
 have HNS:Hid (∀ ww,Kept (fun k=>k=g) w ww→∀ j (hj:j<l'.length),∃ nb noff xo xc,ao=some ⟨nb,noff,none⟩∧ww.cell? ⟨nb,noff+j * 5,none⟩=some (.int .i64 l'[j].1)∧ww.cell? ⟨nb,noff+j * 5+1,none⟩=some (.slice xo l'[j].2.1.length xc)∧ww.cell? ⟨nb,noff+j * 5+2,none⟩=some (.int .i64 l'[j].2.2.1)∧ww.cell? ⟨nb,noff+j * 5+3,none⟩=some (.bool l'[j].2.2.2.1)∧ww.cell? ⟨nb,noff+j * 5+4,none⟩=some (.int .i64 l'[j].2.2.2.2)∧Arg ww xo l'[j].2.1 xc):=fun ww hk j hj=>by
  rcases hs.kept hk (fun _ q t=>q t) with e | ⟨nb,noff,e, -, -,hn⟩
  ·rw [e] at hj;simp at hj
  ·obtain ⟨xo,xc,n0,n1,n2,n3,n4,n5, -⟩:=hn j hj
   exact ⟨nb,noff,xo,xc,e,n0,n1,n2,n3,n4,n5⟩
 rw [b] at CS
 have l0:(0:Int)≤(l'.length:Int):=by omega
 have l1:(l'.length:Int)≤(room:Int):=by omega
 clear hs b f1 f2 f3 c hE
 go_enter Tryz.func28,Tryz.ntmps28
 go_upto_region 7 with (first | (go_at_call 54;refine CS.mono ?_;rintro e w1 ⟨rfl,k1⟩))
 have CR1:=CR.out w1 k1
 clear CR CS
 go_upto_region 10 with (first | (go_at_call 55;refine CR1.mono ?_;rintro e w2 ⟨b,rfl,hb,k2⟩;obtain rfl:b=false:=(by cases b;rfl;exact absurd HAC.out (hb.1 rfl))))
 have HI2:Hid (RfI w w2 h g room (.int .i64 (l.length:Int)) l' 0):=HI0.out w2 (k1.trans' k2)
 have hw2:=(k1.trans' k2).size
 clear CR1 hb k1 k2 c0 c1 HI0
 go_loopw [28] (fun i wr=>∃ k:Nat,i=.int .i64 (k:Int)∧k≤l'.length∧Hid (RfI w wr h g room (.int .i64 (l.length:Int)) l' k)) (fun i _=>l'.length-(intOf i).toNat)
 case atStart=>exact ⟨0,rfl,Nat.zero_le _,HI2⟩
 case round=>
  clear HI2
  obtain ⟨k,rfl,hk,HI⟩:=hrel
  by_cases hlt:k<l'.length
  ·have j2:(k:Int)<(l'.length:Int):=by omega
   have j3:(0:Int)≤(k:Int):=by omega
   have j4:(k:Int)<(room:Int):=by omega
   have hkr:k<room:=by omega
   obtain ⟨nb,noff,xo,xc,rfl,n0,n1,n2,n3,n4,n5⟩:=HNS.out wr HI.out.kp k hlt
   obtain ⟨W3,hW3⟩:∃ W3,W3=wr.alloc (.cells #[.int .i64 l'[k].1,.slice xo l'[k].2.1.length xc,.int .i64 l'[k].2.2.1,.bool l'[k].2.2.2.1,.int .i64 l'[k].2.2.2.2] 76):=⟨_,rfl⟩
   have kb:Same0 wr W3:=by rw [hW3];exact (Kept.refl _ _).alloc _
   have kd:Same0 wr W3.drew:=kb.drew
   obtain ⟨x0,x1,x2,x3,x4⟩:=box_node' wr l'[k] xo xc (show Same0 _ W3.drew by rw [hW3];exact (Kept.refl _ _).drew)
   have c0:=(HI.out.same kd).cells
   have h6:=HF3.out _ (List.getElem_mem hlt)
   have CC:=copied_any (x:=l'[k]) (ac:=xc) (n5.onto kd) (by omega)
   have HP:Hid (∀ w3 bo bc,Same0 wr w3→ArgT w3 bo l'[k].2.1 bc→(∀ a,bo=some a→w.heap.size≤a.block)→RfI w (put5 w3 g (k * 5) (.int .i64 l'[k].1) (.slice bo l'[k].2.1.length bc) (.int .i64 l'[k].2.2.1) (.bool l'[k].2.2.2.1) (.int .i64 l'[k].2.2.2.2)) h g room (.int .i64 (l.length:Int)) l' (k+1)):=fun w3 bo bc hk3 ha hb=>HI.out.put hne hk3 hlt hkr ha hb
   have HSZ:Hid (w.heap.size≤W3.drew.heap.size):=Nat.le_trans HI.out.kp.size kd.size
   have HT:Hid (∀ w3,Same0 wr w3→(∃ u0 u1 u2 u3 u4,w3.cell? ⟨g,k * 5,none⟩=some u0∧w3.cell? ⟨g,k * 5+1,none⟩=some u1∧w3.cell? ⟨g,k * 5+2,none⟩=some u2∧w3.cell? ⟨g,k * 5+3,none⟩=some u3∧w3.cell? ⟨g,k * 5+4,none⟩=some u4)∧(∀ o,w3.frozen? ⟨g,o,none⟩=false)∧w3.cell? ⟨h,0,none⟩=some (.slice (some ⟨g,0,none⟩) room room)):=fun w3 hk3=>⟨((HI.out.same hk3).there hkr).1,((HI.out.same hk3).there hkr).2,(HI.out.same hk3).cells⟩
   clear n5 kb
   go_upto_region 12 with fail
   rw [← hW3]
   clear hW3 n0 n1 n2 n3 n4
   go_region_with (first | (go_at_call 49;refine CC.mono ?_;rintro e w5 ⟨bo,bc,rfl,ha,hbb,hk5⟩;have K5:=kd.trans' hk5;obtain ⟨⟨u0,u1,u2,u3,u4,t0,t1,t2,t3,t4⟩,ff,cc1⟩:=HT.out w5 K5;have f0:=ff (k * 5);have f1:=ff (k * 5+1);have f2:=ff (k * 5+2);have f3:=ff (k * 5+3);have f4:=ff (k * 5+4);clear ff))
   all_goals
    have HN:Hid (RfI w (put5 w5 g (k * 5) (.int .i64 l'[k].1) (.slice bo l'[k].2.1.length bc) (.int .i64 l'[k].2.2.1) (.bool l'[k].2.2.2.1) (.int .i64 l'[k].2.2.2.2)) h g room (.int .i64 (l.length:Int)) l' (k+1)):=HP.out w5 bo bc K5 ha (fun a e=>Nat.le_trans HSZ.out (hbb a e))
    clear t0 t1 t2 t3 t4 f0 f1 f2 f3 f4 cc1 x0 x1 x2 x3 x4 c0 CC ha hbb
    go_wp2
    go_roundw
    case rel=>first | exact ⟨k+1,by go_num,by omega,HN⟩ | ((repeat apply Exists.intro);exact ⟨⟨k+1,by go_num,by omega,HN⟩,rfl⟩)
    case measure=>simp [intOf];omega
  ·have hkl:k=l'.length:=by omega
   subst hkl
   have c0:=HI.out.cells
   go_upto_region 14 with fail
   by_cases hfull:l'.length<room
   ·have l2:(l'.length:Int)<(room:Int):=by omega
    obtain ⟨Wz,hWz⟩:∃ Wz,Wz=wr.setCells g (l'.length * 5) (Builtin.zeroCells #[Value.int .i64 0,.slice none 0 0,.int .i64 0,.bool false,.int .i64 0] (room-l'.length)).toList:=⟨_,rfl⟩
    have HCL:∀ ty,(Builtin.clear_ #[23] ty #[.slice (some ⟨g,l'.length * 5,none⟩) (room-l'.length) (room-l'.length)]).run Tryz.prog wr=.ok (.tuple #[]) Wz:=by
     intro ty
     obtain ⟨cs,q1,q2⟩:=HI.out.blk
     rw [hWz]
     refine run_clear_nodes wr ty g _ _ _ (by omega) (fun j hj=>?_) (fun j _=>frozenAt q1 _)
     rw [cellAt q1]
     simp
     omega
    have HIZ:Hid (RfI w Wz h g room (.int .i64 (l.length:Int)) l' l'.length):=by rw [hWz];exact HI.out.cleared hne _
    have z1:Wz.cell? ⟨h,1,none⟩=some (.int .i64 (l.length:Int)):=cellAt HIZ.out.box 1
    have z2:Wz.frozen? ⟨h,1,none⟩=false:=frozenAt HIZ.out.box 1
    have FF:Hid (HpB (fun b=>w.heap.size≤b) (Wz.setCell ⟨h,1,none⟩ (.int .i64 (l'.length:Int))) h g room l' ∧ Kept (fun k=>k=h∨k=g) w (Wz.setCell ⟨h,1,none⟩ (.int .i64 (l'.length:Int)))):=HIZ.out.done hne hr1 hr2 a HF1.out HAC.out
    clear hWz HIZ HI HNS p
    go_wp2
    go_ret
    exact ⟨rfl,FF.out.1,FF.out.2⟩
   ·have hfl:l'.length=room:=by omega
    have z1:wr.cell? ⟨h,1,none⟩=some (.int .i64 (l.length:Int)):=cellAt HI.out.box 1
    have z2:wr.frozen? ⟨h,1,none⟩=false:=frozenAt HI.out.box 1
    have FF:Hid (HpB (fun b=>w.heap.size≤b) (wr.setCell ⟨h,1,none⟩ (.int .i64 (l'.length:Int))) h g room l' ∧ Kept (fun k=>k=h∨k=g) w (wr.setCell ⟨h,1,none⟩ (.int .i64 (l'.length:Int)))):=HI.out.done hne hr1 hr2 a HF1.out HAC.out
    rw [hfl] at FF ⊢
    have HCL:∀ ty,(Builtin.clear_ #[23] ty #[.slice (some ⟨g,0,none⟩) 0 0]).run Tryz.prog wr=.ok (.tuple #[]) wr:=fun ty=>by simp [Builtin.clear_,run_underlying Tryz.underlying23]
    clear HI HNS p hfl hfull hlt
    go_wp2
    go_ret
    exact ⟨rfl,FF.out.1,FF.out.2⟩
theorem grfe_ex (room:Nat) (l:List Nd):∃ E,RfE room l E:=by
 by_cases h1:room<l.length
 ·exact ⟨_,.inl ⟨h1,rfl⟩⟩
 ·by_cases h2:l.all (mayB l.length)=true
  ·by_cases h3:Ac l
   ·exact ⟨_,.inr (.inr (.inr ⟨by omega,h2,h3,rfl⟩))⟩
   ·exact ⟨_,.inr (.inr (.inl ⟨by omega,h2,h3,rfl⟩))⟩
  ·exact ⟨_,.inr (.inl ⟨by omega,by rw [Bool.not_eq_true] at h2;exact h2,rfl⟩)⟩
theorem grfe_range {room:Nat} {l:List Nd} {E:Int} (h:RfE room l E):0≤E∧E≤120:=by
 rcases h with ⟨_,rfl⟩ | ⟨_,_,rfl⟩ | ⟨_,_,_,rfl⟩ | ⟨_,_,_,rfl⟩ <;> omega
theorem RhB.monoG {B B' : Nat→Prop} {w:World} {r room:Nat} {v:Value} {l:List Nd} (p:RhB B w r room v l) (hB:∀ k,k<w.heap.size→B k→B' k):RhB B' w r room v l:=⟨p.box,p.row.mono hB,p.rm1,p.rm2,p.le,p.may,p.ac⟩
structure MgAt (w w' : World) (h g r:Nat) (v:Value) (l:List Nd):Prop where
 hp:HpB (fun b=>w.heap.size≤b) w' h g 4000 l
 rh:RhB (fun b=>w.heap.size≤b) w' r 4000 v l
 same:Same0 w w'
 lh:w.heap.size≤h
 lg:w.heap.size≤g
 lr:w.heap.size≤r
 lv:∀ k,v.ownBlock=some k→w.heap.size≤k∧k≠g∧k≠h∧k≠r
 nr:r≠h∧r≠g
structure MrAt (rm:Nat) (w w' : World) (h g r:Nat) (v:Value) (l:List Nd):Prop where
 hp:HpB (fun b=>w.heap.size≤b) w' h g rm l
 rh:RhB (fun b=>w.heap.size≤b) w' r rm v l
 same:Same0 w w'
 lh:w.heap.size≤h
 lg:w.heap.size≤g
 lr:w.heap.size≤r
 lv:∀ k,v.ownBlock=some k→w.heap.size≤k∧k≠g∧k≠h∧k≠r
 nr:r≠h∧r≠g
def MrQ (l:List Nd) (w:World) (e:Ending) (w' : World):Prop:=
 (e=.returned (.tuple #[.pointer none,.pointer none])∧Same0 w w')∨∃ (rm h g r:Nat) (v:Value),e=.returned (.tuple #[.pointer (some ⟨h,0,none⟩),.pointer (some ⟨r,0,none⟩)])∧MrAt rm w w' h g r v l
set_option maxHeartbeats 2000000 in
theorem made13r_yes (rm:Nat) (hr1:1≤rm) (hr2:rm≤4000) {w:World} {ao:Option Addr} {ac:Nat} {l:List Nd} (hs:NsW w ao l) (hsz:l.length≤maxLen) :
  Calls Tryz.prog 7 #[.int .i64 (rm:Int),.slice ao l.length ac] w fun e w' => MrQ l w e w' := by
 obtain ⟨E,hE⟩:=grfe_ex rm l
 have C1:=hnew_yes rm w hr1 hr2
 have HS:Hid (∀ ww,Same0 w ww→NsW ww ao l):=fun ww hk=>hs.same hk
 have HV:Hid (NsV (fun b=>b<w.heap.size) w ao l):=hs.below
 have HZ:Hid (l.length≤maxLen):=hsz
 have HE:Hid (RfE rm l E):=hE
 obtain ⟨e1,e2⟩:=grfe_range hE
 clear hs hsz hE
 by_cases h0:E=0
 ·subst h0
  go_enter Tryz.func7,Tryz.ntmps7
  go_upto_region 5 with (first | (go_at_call 19;refine C1.mono ?_;rintro e w1 ⟨h,g,rfl,p1,k1,lh,lg⟩;have C2:=rnew_yes rm w1 hr1 hr2) | (go_at_call 27;refine C2.mono ?_;rintro e w2 ⟨r,rfl,q2,k2,lr⟩))
  have p2:=p1.same k2
  have K2:=k1.trans' k2
  have hhl:=p1.ltH
  have hgl:=p1.ltG
  have C3:=refill_yes (ac:=ac) p2 ((HV.out.same K2).mono (fun b hb=>show b≠g by omega)) HE.out
  clear p1 C1
  go_upto_region 7 with (first | (go_at_call 28;refine C3.mono ?_;rintro e w3 ⟨rfl,p3,k3⟩;have K3:Same0 w w3:=K2.trans k3 (fun i hi e=>by omega);have C4:=rrefill_any (ac:=ac) (q2.kept k3 (fun e=>by omega) (fun k e=>by cases e) (fun k f=>f.elim)) (HS.out w3 K3) HZ.out HE.out) | (go_at_call 29;refine C4.mono ?_;rintro e w4 ⟨rfl,q4⟩))
  have FIN:MrQ l w (.returned (.tuple #[.pointer (some ⟨h,0,none⟩),.pointer (some ⟨r,0,none⟩)])) w4:=by
   rcases q4 with ⟨e,_⟩ | ⟨_,v,r4,k4,lv⟩
   ·exact absurd rfl e
   ·have hr2:=q2.lt
    have s2:=K2.size
    have s3:=k3.size
    refine .inr ⟨rm,h,g,r,v,rfl,(p3.kept k4 (by omega) (by omega) (fun k _ e cur hc=>?_)).mono (fun k _ _ hk=>by omega),RhB.monoG r4 (fun k _ hk=>by omega),K3.trans k4 (fun i hi e=>by have:=k1.size;omega),lh,lg,by have:=k1.size;omega,fun k e=>?_,by omega,by omega⟩
    ·subst e
     have:=k3.at q2.box (by omega)
     rw [this] at hc
     cases hc
    ·have:=lv k e
     have:=k1.size
     omega
  clear q4 C3 C4 HE HV HS q2 p2 p3
  go_wp2
  go_ret2
  exact FIN
 ·have HN:Hid (E≠0):=h0
  have b1:(E != 0)=true:=by simpa using h0
  have b2:(E == 0)=false:=by simpa using h0
  have b3:(E != E)=false:=by simp
  go_enter Tryz.func7,Tryz.ntmps7
  go_upto_region 5 with (first | (go_at_call 19;refine C1.mono ?_;rintro e w1 ⟨h,g,rfl,p1,k1,lh,lg⟩;have C2:=rnew_yes rm w1 hr1 hr2) | (go_at_call 27;refine C2.mono ?_;rintro e w2 ⟨r,rfl,q2,k2,lr⟩))
  have K2:=k1.trans' k2
  have C3:=refill_no (ac:=ac) (p1.same k2) (HS.out w2 K2) HZ.out HE.out HN.out
  clear p1 C1
  go_upto_region 7 with (first | (go_at_call 28;refine C3.mono ?_;rintro e w3 ⟨rfl,k3⟩;have K3:=K2.trans' k3;have C4:=rrefill_any (ac:=ac) (q2.same k3) (HS.out w3 K3) HZ.out HE.out) | (go_at_call 29;refine C4.mono ?_;rintro e w4 ⟨rfl,q4⟩))
  have FIN:MrQ l w (.returned (.tuple #[.pointer none,.pointer none])) w4:=by
   rcases q4 with ⟨_,e⟩ | ⟨e,_⟩
   ·exact .inl ⟨rfl,K3.trans' e⟩
   ·exact absurd e HN.out
  clear q4 C3 C4 HE HV HS q2
  go_wp2
  go_ret2
  exact FIN
theorem made13r_no (room:Int) (hr:room<1∨4000<room) (w:World) (ao:Option Addr) (al ac:Nat) (l:List Nd) :
  Calls Tryz.prog 7 #[.int .i64 room,.slice ao al ac] w fun e w' => MrQ l w e w' := by
 have C1:=hnew_no room w hr
 have C2:=rnew_no room w hr
 have FIN:MrQ l w (.returned (.tuple #[.pointer none,.pointer none])) w:=.inl ⟨rfl,Kept.refl _ _⟩
 clear hr
 go_enter Tryz.func7,Tryz.ntmps7
 go_wp2_with (first | (go_at_call 19;refine C1.mono ?_;rintro e w1 ⟨rfl,h1⟩;have h1:=h1.symm;subst h1) | (go_at_call 27;refine C2.mono ?_;rintro e w2 ⟨rfl,h2⟩;have h2:=h2.symm;subst h2))
 go_ret2
 exact FIN
theorem made13r_any (room:Int) {w:World} {ao:Option Addr} {ac:Nat} {l:List Nd} (hs:NsW w ao l) (hsz:l.length≤maxLen) :
  Calls Tryz.prog 7 #[.int .i64 room,.slice ao l.length ac] w fun e w' => ∃ v1 v2,e=.returned (.tuple #[v1,v2])∧MrQ l w (.returned (.tuple #[v1,v2])) w' := by
 have H:Calls Tryz.prog 7 #[.int .i64 room,.slice ao l.length ac] w fun e w' => MrQ l w e w' := by
  by_cases hr:room<1∨4000<room
  ·exact made13r_no room hr w ao l.length ac l
  ·obtain ⟨rm,rfl⟩:∃ rm:Nat,room=(rm:Int):=⟨room.toNat,by omega⟩
   exact made13r_yes rm (by omega) (by omega) hs hsz
 exact H.mono (fun e w' hq=>by
  rcases hq with ⟨rfl,k⟩ | ⟨rm,h,g,r,v,rfl,q⟩
  ·exact ⟨_,_,rfl,.inl ⟨rfl,k⟩⟩
  ·exact ⟨_,_,rfl,.inr ⟨rm,h,g,r,v,rfl,q⟩⟩)
theorem iv_setG (xs:List Int) (k:Nat) (z:Int):iv (xs.set k z)=(iv xs).set k (.int .i64 z):=by
 unfold iv
 rw [List.map_set]
theorem ints_threeG (w:World) (z y x:Int):IntsAt (w.alloc (.cells #[.int .i64 z,.int .i64 y,.int .i64 x] 3)) (some ⟨w.heap.size,0,none⟩) [z,y,x]:=
 .inr ⟨w.heap.size,0,rfl,by simp,fun i hi=>by
  have hi' : i<3:=hi
  match i,hi' with
  | 0,_=>exact cellAt (heap_alloc_new w _) 0
  | 1,_=>exact cellAt (heap_alloc_new w _) 1
  | 2,_=>exact cellAt (heap_alloc_new w _) 2⟩
abbrev lentG (xs:List Int):List Int:=xs ++ [-77, -77, -77]
set_option maxHeartbeats 1000000 in
theorem lent13_any {w:World} {ao:Option Addr} {cap:Nat} {xs:List Int} (hx:Arg w ao xs cap) :
  Calls Tryz.prog 8 #[.slice ao xs.length cap] w fun e w' => ∃ g c,e=.returned (.slice (some ⟨g,0,none⟩) xs.length c)∧Row w.heap.size w' (.slice (some ⟨g,0,none⟩) (xs.length+3) c) (lentG xs)∧xs.length+3≤c∧Same0 w w' := by
 have k0:Same0 w (w.alloc (.cells #[] 3)):=(Kept.refl _ w).alloc _
 have r0:Row w.heap.size (w.alloc (.cells #[] 3)) (.slice (some ⟨w.heap.size,0,none⟩) 0 0) []:=row_empty w _ (Nat.le_refl _) rfl
 have cI:=hx.at'.same k0
 have hn:=hx.nil
 have hs:Hid (xs.length * 8≤140737488351232):=hx.size
 have z0:=k0.size
 have j0:(0:Int)≤(xs.length:Int):=by omega
 have j8:(xs.length:Int)≤17592186043904:=by have:=hs.out;omega
 clear hx
 go_enter Tryz.func8,Tryz.ntmps8
 go_upto_region 2 with (first | (at_builtin;refine wpList_more9 rfl _ _ 33 rfl Tryz.underlying33 w.heap.size [] _ rfl r0 xs _ _ _ rfl rfl cI hn z0 (by have:=hs.out;simp;omega) ?_;intro v1 w1 hr1 hk1))
 rw [List.nil_append] at hr1
 have k1:=k0.onto r0 hk1
 have k2:Same0 w (w1.alloc (.cells #[.int .i64 (-77),.int .i64 (-77),.int .i64 (-77)] 3)):=k1.alloc _
 have r2:Row w.heap.size (w1.alloc (.cells #[.int .i64 (-77),.int .i64 (-77),.int .i64 (-77)] 3)) v1 xs:=((Kept.refl (fun _=>False) w1).alloc _).row hr1 (fun _ _ f=>f)
 have z2:=k2.size
 have c3:=ints_threeG w1 (-77) (-77) (-77)
 clear cI hn z0 hk1 k0 r0 hr1 k1
 go_upto_region 3 with (first | (at_builtin;refine wpList_more9 rfl _ _ 33 rfl Tryz.underlying33 w.heap.size xs _ rfl r2 [-77, -77, -77] _ _ _ rfl rfl c3 (fun e=>by cases e) z2 (by have:=hs.out;simp;omega) ?_;intro v3 w3 hr3 hk3))
 have k3:=k2.onto r2 hk3
 obtain ⟨g,c,e,hle⟩:∃ g c,v3=.slice (some ⟨g,0,none⟩) (xs.length+3) c∧xs.length+3≤c:=by
  have hr:=hr3
  unfold Row at hr
  rcases hr.2 with ⟨e2,h0⟩ | ⟨g,cap,cur,e2,hb,hg,hle,_⟩
  ·simp at h0
  ·exact ⟨g,cap,by simpa using e2,by simpa using hle⟩
 subst e
 have j1:(xs.length:Int)≤(c:Int):=by omega
 have HF:Hid (Row w.heap.size w3 (.slice (some ⟨g,0,none⟩) (xs.length+3) c) (lentG xs)∧xs.length+3≤c∧Same0 w w3):=⟨hr3,hle,k3⟩
 clear hr3 k3 hk3 r2 k2 c3 z2
 go_wp2
 go_ret
 exact ⟨g,c,rfl,HF.out.1,HF.out.2.1,HF.out.2.2⟩
def HdG (base g n c:Nat) (xs:List Int) (w wr:World) (k:Nat):Prop:=(∃ L,Row base wr (.slice (some ⟨g,0,none⟩) (n+3) c) L∧L.length=n+3∧∀ j,k≤j→L[j]? = (lentG xs)[j]?)∧Kept (fun i=>i=g) w wr
theorem HdG.at {base g n c k:Nat} {xs:List Int} {w wr:World} (h:HdG base g n c xs w wr k) {z:Int} (hz:(lentG xs)[k]? = some z):wr.cell? ⟨g,k,none⟩=some (.int .i64 z)∧wr.frozen? ⟨g,k,none⟩=false:=by
 obtain ⟨⟨L,h1,h2,h3⟩,_⟩:=h
 have hL:=h3 k (Nat.le_refl _)
 rw [hz] at hL
 obtain ⟨hk,hv⟩:=List.getElem?_eq_some_iff.1 hL
 obtain ⟨ao,ac,e,hi,_,_⟩:=h1.ints
 simp only [Value.slice.injEq] at e
 obtain ⟨b,off,e1,_,hc⟩:=hi.get hk
 rw [← e.1] at e1
 simp only [Option.some.injEq,Addr.mk.injEq,and_true] at e1
 obtain ⟨rfl,rfl⟩:=e1
 rw [hv] at hc
 refine ⟨by simpa using hc,?_⟩
 unfold Row at h1
 rw [h2] at h1
 exact h1.frozenAt k
theorem HdG.put {base g n c k:Nat} {xs:List Int} {w wr:World} (h:HdG base g n c xs w wr k):HdG base g n c xs w (wr.setCell ⟨g,k,none⟩ (.int .i64 (-78))) (k+1):=by
 obtain ⟨⟨L,h1,h2,h3⟩,h4⟩:=h
 refine ⟨⟨L.set k (-78),?_,by simp [h2],fun j hj=>?_⟩,Kept.setCell (S:=fun i=>i=g) h4 (p:=⟨g,k,none⟩) (fun _=>rfl) _⟩
 ·unfold Row at h1 ⊢
  rw [iv_setG]
  rw [h2] at h1
  simpa [h2] using (h1.stored k (.int .i64 (-78))).1
 ·rw [List.getElem?_set_ne (by omega)];exact h3 j (by omega)
theorem HdG.same {base g n c k:Nat} {xs:List Int} {w wr wr' : World} (h:HdG base g n c xs w wr k) (hk:Same0 wr wr'):HdG base g n c xs w wr' k:=by
 obtain ⟨⟨L,h1,h2,h3⟩,h4⟩:=h
 exact ⟨⟨L,hk.row h1 (fun _ _ f=>f),h2,h3⟩,h4.trans hk (fun _ _ f=>f.elim)⟩
set_option maxHeartbeats 2000000 in
theorem held13_any {base:Nat} {w:World} {g c cap:Nat} {ao:Option Addr} {xs:List Int} (hr:Row base w (.slice (some ⟨g,0,none⟩) (xs.length+3) c) (lentG xs)) (hc:xs.length+3≤c) (hx:Arg w ao xs cap) (hne:xs≠[]→∀ a,ao=some a→a.block≠g) :
  Calls Tryz.prog 12 #[.slice (some ⟨g,0,none⟩) xs.length c,.slice ao xs.length cap] w fun e w' => e=.returned (.bool true)∧Kept (fun i=>i=g) w w' := by
 obtain ⟨n,hn⟩:∃ n,n=xs.length:=⟨_,rfl⟩
 have HNL:Hid (n=xs.length):=hn
 have hs:Hid (xs.length * 8≤140737488351232):=hx.size
 have H0:Hid (HdG base g n c xs w w 0):=⟨⟨lentG xs,by rw [hn];exact hr,by simp [hn],fun j _=>rfl⟩,Kept.refl _ _⟩
 have HXS:Hid (∀ wr,Kept (fun i=>i=g) w wr→∀ k (hk:k<xs.length),∃ b off,ao=some ⟨b,off,none⟩∧wr.cell? ⟨b,off+k,none⟩=some (.int .i64 xs[k])):=fun wr hk k hkl=>by
  have h0:xs≠[]:=fun e=>by rw [e] at hkl;simp at hkl
  obtain ⟨b,off,e,_,h3⟩:=(hx.at'.kept hk (fun a e q=>hne h0 a e q)).get hkl
  exact ⟨b,off,e,h3⟩
 rw [← hn] at hc ⊢
 have j1:(n:Int)+3≤(c:Int):=by omega
 have j2:(n:Int)≤17592186043904:=by have:=hs.out;have:=HNL.out;omega
 have j3:(0:Int)≤(n:Int)+3:=by omega
 clear hr hx hne hn
 go_enter Tryz.func12,Tryz.ntmps12
 go_upto_region 4 with fail
 go_loopw [6,7] (fun o i wr=>∃ k:Nat,o=.bool true∧i=.int .i64 (k:Int)∧k≤n+3∧Hid (HdG base g n c xs w wr k)) (fun _ i _=>n+3-(intOf i).toNat)
 case atStart=>exact ⟨0,rfl,rfl,Nat.zero_le _,H0⟩
 case round=>
  clear H0
  obtain ⟨k,rfl,rfl,hk,H⟩:=hrel
  by_cases hlt:k<n+3
  ·have i0:(0:Int)≤(k:Int):=by omega
   have i1:(k:Int)<(n:Int)+3:=by omega
   by_cases hkn:k<n
   ·have hkx:k<xs.length:=by rw [← HNL.out];exact hkn
    obtain ⟨q1,q2⟩:=H.out.at (z:=xs[k]) (by rw [List.getElem?_append_left hkx];exact List.getElem?_eq_getElem hkx)
    obtain ⟨b,off,e,q3⟩:=HXS.out wr H.out.2 k hkx
    subst e
    have i2:(k:Int)<(n:Int):=by omega
    have i4:decide (n≤k)=false:=by simp;omega
    have i5:decide (k<n)=true:=by simp;omega
    have HN:Hid (∀ m,Hid (HdG base g n c xs w ((wr.drewN m).setCell ⟨g,k,none⟩ (.int .i64 (-78))) (k+1))):=fun m=>(H.out.same ((Kept.refl _ _).drewN m)).put
    go_upto_region 6 with fail
    go_quiet (fail)
    go_wp2
    go_roundw
    case rel=>exact ⟨k+1,rfl,by go_num,by omega,HN.out _⟩
    case measure=>simp [intOf];omega
   ·have i2:¬ (k:Int)<(n:Int):=by omega
    have i4:decide (n≤k)=true:=by simp;omega
    have i5:decide (k<n)=false:=by simp;omega
    obtain ⟨q1,q2⟩:=H.out.at (z:=-77) (by
     rw [List.getElem?_append_right (by rw [← HNL.out];omega),← HNL.out]
     have:k-n<3:=by omega
     match k-n,this with
     | 0,_=>rfl
     | 1,_=>rfl
     | 2,_=>rfl)
    have HN:Hid (∀ m,Hid (HdG base g n c xs w ((wr.drewN m).setCell ⟨g,k,none⟩ (.int .i64 (-78))) (k+1))):=fun m=>(H.out.same ((Kept.refl _ _).drewN m)).put
    go_upto_region 6 with fail
    go_quiet (fail)
    go_wp2
    go_roundw
    case rel=>exact ⟨k+1,rfl,by go_num,by omega,HN.out _⟩
    case measure=>simp [intOf];omega
  ·have hkn:k=n+3:=by omega
   have i1:¬ (k:Int)<(n:Int)+3:=by omega
   have F:Hid (Kept (fun i=>i=g) w wr):=H.out.2
   clear H
   go_wp2
   go_ret
   exact ⟨rfl,F.out⟩
set_option maxHeartbeats 1000000 in
theorem told13_any {w:World} {h g room:Nat} {l:List Nd} (p:Hp w h g room l) :
  Calls Tryz.prog 13 #[.pointer (some ⟨h,0,none⟩)] w fun e w' => ∃ v,e=.returned (.tuple #[v,.bool true])∧NRow (fun b=>w.heap.size≤b) w.heap.size w' v l∧Same0 w w' := by
 have hle:=p.le
 have hr2:=p.rm2
 have HP:Hid (∀ ww,Same0 w ww→Hp ww h g room l):=fun ww hk=>p.same hk
 have KR:Same0 w w:=Kept.refl _ _
 clear p
 go_enter Tryz.func13,Tryz.ntmps13
 go_wp2
 go_loopw [4,5] (fun v i wr=>∃ (k:Nat),i=.int .i64 (k:Int)∧k≤l.length∧NRow (fun b=>w.heap.size≤b) w.heap.size wr v (l.take k)∧Same0 w wr) (fun _ i _=>l.length-(intOf i).toNat)
 case atStart=>exact ⟨0,rfl,Nat.zero_le _,NRow.nil _ _ _,KR⟩
 case round=>
  clear KR
  obtain ⟨k,rfl,hk,hrow,hw⟩:=hrel
  have pr:=HP.out wr hw
  have CU:=used_any pr
  obtain ⟨vo,vc,rfl⟩:=hrow.shape
  have hlk:(l.take k).length=k:=by simp;omega
  rw [hlk] at hrow
  by_cases hlt:k<l.length
  ·have j1:(k:Int)<(l.length:Int):=by omega
   have j2:(k:Int)<4000:=by omega
   have C1:=hat_yes pr k hlt
   have HT:Hid (l.take (k+1)=l.take k ++ [l[k]]):=List.take_succ_eq_append_getElem hlt
   have HLK:Hid ((l.take k).length=k):=hlk
   rw [hlk]
   clear pr hlk
   go_upto_region 8 with (first | (go_at_call 38;refine CU.mono ?_;rintro e w3 ⟨rfl,h3⟩;have h3:=h3.symm;subst h3) | (go_at_call 21;refine C1.mono ?_;rintro e w3 ⟨bo,bc,rfl,ha,hbb,k3⟩))
   obtain ⟨W3,hW3⟩:∃ W3,W3=w3.alloc (.cells #[.int .i64 l[k].1,.slice bo l[k].2.1.length bc,.int .i64 l[k].2.2.1,.bool l[k].2.2.2.1,.int .i64 l[k].2.2.2.2] 76):=⟨_,rfl⟩
   have kk:Same0 w3 W3:=by rw [hW3];exact (Kept.refl _ _).alloc _
   have K3:Same0 wr W3:=k3.trans' kk
   obtain ⟨x0,x1,x2,x3,x4⟩:=box_node' w3 l[k] bo bc (show Same0 _ W3 by rw [hW3];exact Kept.refl _ _)
   have ha3:=ha.same kk
   have hr3:=hrow.same K3
   have hsz:w.heap.size≤W3.heap.size:=(hw.trans' K3).size
   have hbb' : ∀ b,bo=some b→w.heap.size≤b.block:=fun b e=>Nat.le_trans hw.size (hbb b e)
   have kW:=(Kept.refl (fun _=>False) W3).alloc (.cells #[.int .i64 l[k].1,.slice bo l[k].2.1.length bc,.int .i64 l[k].2.2.1,.bool l[k].2.2.2.1,.int .i64 l[k].2.2.2.2] 76)
   have hq:=heap_at_node W3 l[k] bo bc
   have HKK:Hid (∀ ww,Kept (fun i=>(Value.slice vo k vc).ownBlock=some i) W3 ww→Same0 w ww):=fun ww hk=>NRow.onto (hw.trans' K3) hr3 hk
   rw [← hW3]
   clear hW3 C1 CU k3 ha hrow hbb kk
   go_wp2_with (first | (at_builtin;refine wpList_nd rfl _ _ rfl w.heap.size (l.take k) _ rfl kW hr3 l[k] bo bc _ rfl hq ha3 hbb' hsz (by rw [HLK.out];omega) ?_;rw [HLK.out];intro g4 cap4 w4 hr4 hk4 hor))
   have hr5:NRow (fun b=>w.heap.size≤b) w.heap.size w4 (.slice (some ⟨g4,0,none⟩) (k+1) cap4) (l.take (k+1)):=by rw [HT.out];exact hr4
   have hk5:Same0 w w4:=HKK.out w4 hk4
   go_roundw
   case rel=>first | exact ⟨k+1,by go_num,by omega,hr5,hk5⟩ | ((repeat apply Exists.intro);exact ⟨⟨k+1,by go_num,by omega,hr5,hk5⟩,rfl⟩)
   case measure=>simp [intOf];omega
  ·obtain rfl:k=l.length:=by omega
   rw [List.take_length] at *
   clear hlk pr
   go_wp2_with (first | (go_at_call 38;refine CU.mono ?_;rintro e w3 ⟨rfl,h3⟩;have h3:=h3.symm;subst h3))
   go_ret2
   exact ⟨_,rfl,hrow,hw⟩
set_option maxHeartbeats 4000000 in
theorem arg_yes {B:Nat→Prop} {w:World} {h g room:Nat} {N:List Nd} (p:HpB B w h g room N) (i:Nat) (hi:i<N.length) (n:Int) :
  Calls Tryz.prog 115 #[.agg #[.pointer (some ⟨h,0,none⟩)],.int .i64 (i:Int),.int .i64 n] w fun e w' => ∃ y,e=.returned (.int .i64 y)∧ArR N (i:Int) n y∧Same0 w w' := by
 obtain ⟨W0,hW0⟩:∃ W0,W0=w.alloc (.cells #[.pointer (some ⟨h,0,none⟩)] 81):=⟨_,rfl⟩
 have k0:Same0 w W0:=by rw [hW0];exact (Kept.refl _ w).alloc _
 have h0:W0.heap[w.heap.size]? = some (.cells #[.pointer (some ⟨h,0,none⟩)] 81 (0,0)):=by rw [hW0];exact heap_alloc_new w _
 have b0:W0.cell? ⟨w.heap.size,0,none⟩=some (.pointer (some ⟨h,0,none⟩)):=cellAt h0 0
 have C:=appl_yes (p.same k0) i hi
 have HM:Hid (∀ x∈N,x.2.1.length≤6∧∀ z∈x.2.1,0≤z∧z<(N.length:Int)):=fun x hx=>⟨(may_facts (p.may x hx)).2.1,(may_facts (p.may x hx)).2.2.2.2.1⟩
 have HA:Hid (∀ ww (j:Nat),Same0 W0 ww→j<N.length→Calls Tryz.prog 41 #[.pointer (some ⟨h,0,none⟩),.int .i64 (j:Int)] ww fun e w' => ∃ (b:Nat) (hb:b<N.length) (bo:Option Addr) (bc:Nat),e=.returned (.tuple #[.int .i64 (b:Int),nodeV N[b] bo bc,.int .i64 0])∧Res N j b∧ArgT w' bo N[b].2.1 bc∧(∀ a,bo=some a→ww.heap.size≤a.block)∧Same0 ww w'):=fun ww j hk hj=>appl_yes ((p.same k0).same hk) j hj
 have HB:Hid (∀ ww,Same0 W0 ww→ww.cell? ⟨w.heap.size,0,none⟩=some (.pointer (some ⟨h,0,none⟩))∧Same0 w ww):=fun ww hk=>⟨cellAt (hk.at0 h0) 0,k0.trans' hk⟩
 clear p hi k0 h0
 go_enter Tryz.func115,Tryz.ntmps115
 go_upto_region 1 with fail
 rw [← hW0]
 clear hW0
 go_upto_region 2 with (first | (go_at_call 41;refine C.mono ?_;rintro e w1 ⟨b,hb,bo,bc,rfl,hr,ha, -,k1⟩))
 obtain ⟨X1,hX1⟩:∃ X1,X1=w1.alloc (.cells #[.int .i64 N[b].1,.slice bo N[b].2.1.length bc,.int .i64 N[b].2.2.1,.bool N[b].2.2.2.1,.int .i64 N[b].2.2.2.2] 76):=⟨_,rfl⟩
 have kx1:Same0 w1 X1:=by rw [hX1];exact (Kept.refl _ _).alloc _
 have kx:Same0 W0 X1:=k1.trans' kx1
 have hbox:X1.heap[w1.heap.size]? = some (.cells #[.int .i64 N[b].1,.slice bo N[b].2.1.length bc,.int .i64 N[b].2.2.1,.bool N[b].2.2.2.1,.int .i64 N[b].2.2.2.2] 76 (0,0)):=by rw [hX1];exact heap_alloc_new _ _
 obtain ⟨x0,x1,x2,x3,x4⟩:=box5 hbox
 rw [← hX1]
 obtain ⟨hlen,hall⟩:=HM.out _ (List.getElem_mem hb)
 obtain ⟨y0,k2⟩:=HB.out X1 kx
 have NO:Hid (¬ (0≤n∧n<(N[b].2.1.length:Int))→ArR N (i:Int) n (-1)):=fun hn=>.inr ⟨rfl,fun ⟨i', b', hb', e1,e2,e3,e4⟩=>by
  obtain rfl:i=i' := by omega
  obtain rfl:=hr.uniq e2
  exact hn ⟨e3,e4⟩⟩
 clear hX1 C b0
 by_cases hn0:n<0
 ·have H:=NO.out (by omega)
  clear hall
  go_wp2_with fail
  go_ret
  exact ⟨-1,rfl,H,k2⟩
 ·by_cases hn1:(N[b].2.1.length:Int)≤n
  ·have H:=NO.out (by omega)
   clear hall
   go_wp2_with fail
   go_ret
   exact ⟨-1,rfl,H,k2⟩
  ·obtain ⟨m,rfl⟩:∃ m:Nat,n=(m:Int):=⟨n.toNat,by omega⟩
   have hm:m<N[b].2.1.length:=by omega
   obtain ⟨hz0,hz1⟩:=hall _ (List.getElem_mem hm)
   obtain ⟨j,ej⟩:∃ j:Nat,N[b].2.1[m]=(j:Int):=⟨N[b].2.1[m].toNat,by omega⟩
   have HAJ:Hid (∀ ww,Same0 X1 ww→Calls Tryz.prog 41 #[.pointer (some ⟨h,0,none⟩),.int .i64 (j:Int)] ww fun e w' => ∃ (c:Nat) (s:Int) (bo:Option Addr) (ln bc:Nat) (mk:Int) (pt:Bool) (tt:Int),e=.returned (.tuple #[.int .i64 (c:Int),.agg #[.int .i64 s,.slice bo ln bc,.int .i64 mk,.bool pt,.int .i64 tt],.int .i64 0])∧Res N j c∧Same0 ww w'):=fun ww hk=>(HA.out ww j (kx.trans' hk) (by omega)).mono (fun e w' ⟨c,hc,bo,bc,e1,e2,_,_,e5⟩=>⟨c,_,bo,_,bc,_,_,_,e1,e2,e5⟩)
   have ha1:=(ha.same kx1).1.at'
   obtain ⟨ab,aoff,hbo,hab,hac⟩:=ha1.get hm
   rw [ej] at hac
   have i1:(0:Int)≤(m:Int):=by omega
   have i2:(m:Int)<(N[b].2.1.length:Int):=by omega
   have YES:Hid (∀ c,Res N j c→ArR N (i:Int) (m:Int) (c:Int)):=fun c hc=>.inl ⟨i,b,c,hb,by simpa using hm,rfl,hr,by omega,by simp only [Int.toNat_natCast];rw [ej];simpa using hc,rfl⟩
   subst hbo
   have hzx:w.heap.size≤X1.heap.size:=k2.size
   have hbx1:=lt_of_at hbox
   have REST:Hid (∀ lb,N[b].2.1.length=lb→i<N.length→True):=fun _ _ _=>trivial
   obtain ⟨lb,hlb⟩:∃ lb,N[b].2.1.length=lb:=⟨_,rfl⟩
   rw [hlb] at i2 x1 hbox
   clear REST hlb
   have hbw:X1.heap[w1.heap.size]? = some (.cells #[.int .i64 N[b].1,.slice (some ⟨ab,aoff,none⟩) lb bc,.int .i64 N[b].2.2.1,.bool N[b].2.2.2.1,.int .i64 N[b].2.2.2.2] 76 (0,0)):=hbox
   have y0w:w.heap.size<X1.heap.size:=World.block_lt_of_cell? _ _ y0
   have FC:Hid (∀ ww,Kept (fun k=>X1.heap.size≤k) X1 ww→(ww.cell? ⟨w.heap.size,0,none⟩=some (.pointer (some ⟨h,0,none⟩))∧ww.cell? ⟨w1.heap.size,1,none⟩=some (.slice (some ⟨ab,aoff,none⟩) lb bc)∧ww.cell? ⟨ab,aoff+m,none⟩=some (.int .i64 (j:Int)))):=fun ww hk=>⟨(hk.cell (p:=⟨w.heap.size,0,none⟩) y0w (fun q=>by have q' : X1.heap.size≤w.heap.size:=q;omega)).trans y0,cellAt (hk.at hbox (by omega)) 1,(hk.cell (p:=⟨ab,aoff+m,none⟩) hab (fun q=>by have q' : X1.heap.size≤ab:=q;omega)).trans hac⟩
   have KA:Hid (Same0 X1 (X1.alloc (.cells #[.int .i64 0,.slice none 0 0,.int .i64 0,.bool false,.int .i64 0] 76)).drew):=Same0.trans' ((Kept.refl _ X1).alloc _) ((Kept.refl _ _).drew)
   have HK2:Hid (Same0 w X1):=k2
   have KD:Hid (Same0 X1 X1.drew):=(Kept.refl _ _).drew
   clear hall hz0 hz1 ej hn0 hn1 NO HA HM ha ha1 hbox hbw kx1 x0 x2 x3 x4 hr hm hlen hbx1 y0w kx HB k1 k2
   go_upto_region 4 with fail
   obtain ⟨S0a,S0b,S0c⟩:=FC.out X1.drew ((Kept.refl _ _).drew)
   obtain ⟨S1a,S1b,S1c⟩:=FC.out (X1.alloc (.cells #[.int .i64 0,.slice none 0 0,.int .i64 0,.bool false,.int .i64 0] 76)).drew (KA.out.mono (fun _ _ f=>f.elim))
   clear hac x1 y0
   go_region_held3 (fun ww=>ww.cell? ⟨w.heap.size,0,none⟩=some (.pointer (some ⟨h,0,none⟩))∧ww.cell? ⟨w1.heap.size,1,none⟩=some (.slice (some ⟨ab,aoff,none⟩) lb bc)∧ww.cell? ⟨ab,aoff+m,none⟩=some (.int .i64 (j:Int))) (with_reducible first | exact ⟨S0a,S0b,S0c⟩ | exact ⟨S1a,S1b,S1c⟩ | exact cc1 | exact cc2 | exact cc3 | exact cc4) (first
    | (go_at_call 41;refine (HAJ.out _ (by with_reducible exact KD.out)).mono ?_;rintro e w2 ⟨c,s,bo2,ln,bc2,mk,pt,tt,rfl,hr2,k3⟩;have K2:Kept (fun k=>X1.heap.size≤k) X1 w2:=((Kept.refl _ X1).drew).trans k3 (fun _ _ f=>f.elim);have KF:Hid (∀ ww,Kept (fun k=>k=w2.heap.size) w2 ww→Same0 w ww):=(fun ww hk=>(HK2.out.trans' (Same0.trans' ((Kept.refl _ X1).drew) k3)).trans hk (fun i hi e=>by have:=K2.size;omega));have cc1:=FC.out w2 K2;have cc2:=FC.out (w2.alloc (.cells #[.int .i64 0,.slice none 0 0,.int .i64 0,.bool false,.int .i64 0] 76)) (K2.trans ((Kept.refl (fun _=>False) w2).alloc _) (fun _ _ f=>f.elim));have cc3:=FC.out (w2.alloc (.cells #[.int .i64 s,.slice bo2 ln bc2,.int .i64 mk,.bool pt,.int .i64 tt] 76)) (K2.trans ((Kept.refl (fun _=>False) w2).alloc _) (fun _ _ f=>f.elim)))
    | (go_at_call 41;refine (HAJ.out _ (by with_reducible exact KA.out)).mono ?_;rintro e w2 ⟨c,s,bo2,ln,bc2,mk,pt,tt,rfl,hr2,k3⟩;have K2:Kept (fun k=>X1.heap.size≤k) X1 w2:=(Same0.trans' KA.out k3).mono (fun _ _ f=>f.elim);have KF:Hid (∀ ww,Kept (fun k=>k=X1.heap.size) w2 ww→Same0 w ww):=(fun ww hk=>(HK2.out.trans' (Same0.trans' KA.out k3)).trans hk (fun i hi e=>by omega));have q5:w2.heap[X1.heap.size]? = some (.cells #[.int .i64 0,.slice none 0 0,.int .i64 0,.bool false,.int .i64 0] 76 (0,0)):=k3.at0 (heap_alloc_new X1 _);obtain ⟨z0,z1,z2,z3,z4⟩:=box5 q5;obtain ⟨f0,f1,f2,f3,f4⟩:=free5 q5;clear q5;have cc1:=FC.out w2 K2;have cc4:=FC.out (put5 w2 X1.heap.size 0 (.int .i64 s) (.slice bo2 ln bc2) (.int .i64 mk) (.bool pt) (.int .i64 tt)) (K2.trans (put5_kept _ _ _ _ _ _ _ _) (fun i hi e=>by omega));unfold put5 at cc4))
   all_goals go_wp2_with fail
   all_goals go_ret
   all_goals first
    | exact ⟨_,rfl,YES.out _ hr2,KF.out _ ((Kept.refl _ _).alloc _)⟩
    | exact ⟨_,rfl,YES.out _ hr2,KF.out _ (put5_kept _ _ _ _ _ _ _ _)⟩
    | exact ⟨_,rfl,YES.out _ hr2,KF.out _ (((Kept.refl (fun _=>False) w2).alloc _).trans (put5_kept _ _ _ _ _ _ _ _) (fun _ _ e=>e))⟩
end Go.Proofs.YtblgblgchkonhaaGreat
