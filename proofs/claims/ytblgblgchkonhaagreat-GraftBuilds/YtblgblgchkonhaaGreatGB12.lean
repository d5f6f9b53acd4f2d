import Derived.Test.YtblgblgchkonhaaGreatGB09
import Derived.Test.YtblgblgchkonhaaGreatGB10
import Derived.Test.YtblgblgchkonhaaGreatGB11
import Derived.Test.YtblgblgchkonhaaGreatGB02
import Derived.Test.YtblgblgchkonhaaGreatGB04
import Derived.Test.YtblgblgchkonhaaGreatGB08
namespace Go.Proofs.YtblgblgchkonhaaGreat
set_option maxRecDepth 100000
set_option linter.unusedVariables false
open Go.RowKit
attribute [local go_sem ↓] Go.wp_at_zero Go.wp_at_succ
theorem past_ltQ {L:List Sym} {t:List Int} (h:IsT L t) {m c:Nat} (hm:m<t.length) (hc:c<arN L t[m]):m+1≤past L t c (m+1)∧past L t c (m+1)<t.length:=by
 have hfo:=(Forest.one h hm).kids.2
 have hmem:past L t c (m+1)∈starts L t (arN L t[m]) (m+1):=List.mem_of_getElem? (starts_at hc)
 exact starts_in hfo hfo.le.2 hmem
theorem endJ_past {L:List Sym} {t:List Int} (h:IsT L t) {m c:Nat} (hm:m<t.length) (hc:c<arN L t[m]):endJ L t (past L t c (m+1))=((past L t (c+1) (m+1):Nat):Int):=by
 rw [past_succ]
 unfold endJ
 rw [endO_some h (past_ltQ h hm hc).2]
theorem old_part {L:List Sym} {N:List Nd} {z:Int} {p:Int × List Int} {x:Tg} (h:PtR L N z p x 0) (hs:p.1<0):p.1 = -1∧x.1=false∧LdR N z p.2 x.2.2.2∧x.2.2.2 ≠ -1:=by
 rcases h with ⟨h1,_⟩ | ⟨_,_,e⟩ | ⟨_,_,e⟩ | ⟨_,_,_,e⟩ | ⟨h1,y,h2,h3,rfl,_⟩
 ·omega
 ·cases e
 ·cases e
 ·cases e
 ·exact ⟨h1,rfl,h2,h3⟩
theorem new_part {L:List Sym} {N:List Nd} {z:Int} {p:Int × List Int} {x:Tg} (h:PtR L N z p x 0) (hs:0≤p.1):x=tgT L p.1∧p.1<(L.length:Int):=by
 rcases h with ⟨h1,h2,h3,_⟩ | ⟨_,_,e⟩ | ⟨_,_,e⟩ | ⟨_,_,_,e⟩ | ⟨h1,y,h2,h3,rfl,_⟩
 ·exact ⟨h3,h2⟩
 ·cases e
 ·cases e
 ·cases e
 ·omega
set_option maxHeartbeats 16000000 in
theorem rb_yes {B:Nat→Prop} {n:Nat} {w:World} {rv v:Value} {L:List Sym} (h:Rl n w rv L) {r room:Nat} {N:List Nd} (p:RhB B w r room v N) (hnr:n≤r) (hnv:∀ k,v.ownBlock=some k→n≤k) {rb roff rc:Nat} {R:List (List (Int × List Int))} (hRm:R.length≤maxLen) (io po eo:Option Addr) (il ic pl pc el ec:Nat) (i j top:Nat) (l:List Tg) (hi:i<R.length) {go:Option Addr} {gc:Nat} (hrb:rb<w.heap.size) (c0w:w.cell? ⟨rb,roff+i,none⟩=some (.slice go R[i].length gc)) (hql:R[i].length≤4398046511104) (hPA:∀ ww,Kept (fun k=>k=r∨v.ownBlock=some k) w ww→PaAt ww go R[i]) (hj:j<N.length) (hres:Res N j top) (hAll:AllP L N (top:Int) R[i] l) (h1:oneT 1 l=true) (hf:N.length+newN l≤room) :
  Calls Tryz.prog 17 #[rv,.agg #[.slice io il ic,.slice po pl pc,.slice eo el ec,.slice (some ⟨rb,roff,none⟩) R.length rc],.pointer (some ⟨r,0,none⟩),.int .i64 (i:Int),.int .i64 (j:Int)] w fun e w' => e=.returned (.tuple #[.int .i64 (hdA N l 0),fltV 0 0 0])∧∃ v', RhB (fun b=>B b∨w.heap.size≤b) w' r room v' (layF N l).1∧(∀ k,v'.ownBlock=some k→v.ownBlock=some k∨w.heap.size≤k)∧Kept (fun k=>k=r∨v.ownBlock=some k) w w' := by
 obtain ⟨V0,hV0⟩:∃ V0,V0=w.alloc (.cells #[.slice io il ic,.slice po pl pc,.slice eo el ec,.slice (some ⟨rb,roff,none⟩) R.length rc] 58):=⟨_,rfl⟩
 obtain ⟨W0,hW0⟩:∃ W0,W0=V0.alloc (.cells #[.int .i64 0,.int .i64 0,.int .i64 0,.bool false,.int .i64 0,.int .i64 0] 42):=⟨_,rfl⟩
 have kv:Same0 w V0:=by rw [hV0];exact (Kept.refl _ w).alloc _
 have kw:Same0 V0 W0:=by rw [hW0];exact (Kept.refl _ V0).alloc _
 have k0:Same0 w W0:=kv.trans' kw
 have zv:V0.heap.size=w.heap.size+1:=by rw [hV0];simp
 have n0:W0.heap[w.heap.size]? = some (.cells #[.slice io il ic,.slice po pl pc,.slice eo el ec,.slice (some ⟨rb,roff,none⟩) R.length rc] 58 (0,0)):=kw.at0 (by rw [hV0];exact heap_alloc_new w _)
 have h0:W0.heap[w.heap.size+1]? = some (.cells #[.int .i64 0,.int .i64 0,.int .i64 0,.bool false,.int .i64 0,.int .i64 0] 42 (0,0)):=by rw [hW0,← zv];exact heap_alloc_new V0 _
 obtain ⟨e0,e1,e2,e3⟩:=boxT4 n0
 have KF:Hid (∀ wr c0 c1 c2 c3 c4 c5,Same0 W0 wr→Same0 w (put6 wr (w.heap.size+1) c0 c1 c2 c3 c4 c5)):=fun wr c0 c1 c2 c3 c4 c5 hk=>(k0.trans' hk).trans (put6_kept _ _ _ _ _ _ _ _) (fun i hi e=>by omega)
 unfold maxLen at hRm
 obtain ⟨i0,hi0,hz0,hz1,hz2⟩:=info_parts info_intT
 have ha:=h.2.2.1
 have HRH:Hid (RhB B W0 r room v N):=p.same k0
 obtain ⟨ao,cap,rfl,rd⟩:=HRH.out.rdA
 have hle:=rd.le
 have hrm:=p.rm2
 have C:=rhas_any rd.c1 (by unfold maxLen;omega) (j:Int)
 have e9:hasB N.length (j:Int)=true:=by unfold hasB;simp;omega
 rw [e9] at C
 have i1:(0:Int)≤(i:Int):=by omega
 have i2:(i:Int)<(R.length:Int):=by omega
 have c0:=(k0.cell (p:=⟨rb,roff+i,none⟩) hrb (fun f=>f)).trans c0w
 have HPA:Hid (∀ ww,Kept (fun k=>k=r∨(Value.slice ao N.length cap).ownBlock=some k) W0 ww→Rl n ww rv L∧PaAt ww go R[i]):=fun ww hk=>by
  refine ⟨(h.same k0).kept hk (fun k hkn=>?_),hPA ww ((Kept.mono k0 (fun _ _ f=>f.elim)).trans hk (fun _ _ e=>e))⟩
  rintro (e | e)
  ·omega
  ·have:=hnv _ e;omega
 have HP0:Hid (∀ ww,Same0 W0 ww→Rl n ww rv L∧PaAt ww go R[i]∧RdH ww r N ao cap):=fun ww hk=>⟨(HPA.out ww (hk.mono (fun _ _ f=>f.elim))).1,(HPA.out ww (hk.mono (fun _ _ f=>f.elim))).2,rd.same hk⟩
 have hT:Hid (IsT L (syl R[i])):=(one_need 1 hAll.as).1 h1
 have hAs:Hid (AsT L (syl R[i]) l):=hAll.as
 have hok:Hid (∀ x∈l,TgOk N.length x):=AllP.ok ha (by have:=hres.lt.2;omega) hAll
 have hO:Hid (∀ x∈l,x.1=false→arT x=0):=fun x hx hb=>by
  have:=((hok.out x hx).2.2.2 hb).1
  unfold arT;omega
 have hlQ:l.length=R[i].length:=hAll.1
 have hsh:l.length≤1+6 * newN l:=one_short h1 (fun x hx=>⟨hO.out x hx,by have:=(hok.out x hx).2.1;unfold arT;omega⟩)
 have hl1:0<l.length:=by
  rw [hlQ,← syl_len];exact isT_pos hT.out
 have HAL:Hid (AllP L N (top:Int) R[i] l):=hAll
 have HON:Hid (oneT 1 l=true):=h1
 have HFI:Hid (N.length+newN l≤room):=hf
 have HRE:Hid (Res N j top):=hres
 have NF:Hid (¬ (w.heap.size+1=r∨(Value.slice ao N.length cap).ownBlock=some (w.heap.size+1))):=by
  show ¬ _
  rintro (e | e)
  ·have:=p.lt;omega
  ·have:=(p.row.block e).2.1;omega
 have HZ:Hid (W0.heap[w.heap.size+1]? = some (.cells #[.int .i64 0,.int .i64 0,.int .i64 0,.bool false,.int .i64 0,.int .i64 0] 42 (0,0))):=h0
 have HEN:Hid (endJ L (syl R[i]) 0=(R[i].length:Int)):=by
  show _=_
  have:=end_need.2 hT.out
  simp [endJ,this,syl_len]
 have HSL:Hid (∀ x∈R[i],x.1<(L.length:Int)):=fun x hx=>by
  obtain ⟨q,hq,rfl⟩:=List.mem_iff_getElem.1 hx
  exact (hAll.2 q hq (by omega)).ar.2
 have HK0:Hid (Same0 w W0):=k0
 obtain ⟨so,sc,hrv⟩:=row_shape h.1
 subst hrv
 have hL64:L.length≤64:=h.2.2.2
 have f24:l.length≤24001:=by omega
 have fnl:newN l≤4000:=by omega
 clear hres rd p h n0 h0 e9 hAll h1 hf hPA c0w hrb hnr hnv
 go_enter Tryz.func17,Tryz.ntmps17
 go_upto_region 1 with fail
 rw [← hV0,← hW0]
 clear hV0 hW0 kv kw zv
 go_upto_region 7 with (first | (go_at_call 44;refine C.mono ?_;rintro e w1 ⟨rfl,h1⟩;have h1:=h1.symm;subst h1))
 generalize R[i]=Q at *
 clear C c0 e0 e1 e2 e3
 go_upto_region 8 with fail
 go_loopw [13,14] (fun s13 s14 wr=>∃ k:Nat,k≤Q.length∧s14=.int .i64 (k:Int)∧s13=.int .i64 (newN (l.take k):Int)∧Hid (newN (l.take k)≤k)∧Hid (Same0 W0 wr)) (fun _ s14 _=>Q.length-(intOf s14).toNat)
 case atStart=>exact ⟨0,Nat.zero_le _,rfl,rfl,Nat.le_refl _,Kept.refl _ _⟩
 case round=>
  obtain ⟨k,hk,rfl,rfl,hnk,KR⟩:=hrel
  obtain ⟨rlR,paR,rdR⟩:=HP0.out wr KR.out
  by_cases hlt:k<Q.length
  ·obtain ⟨tb,toff,rfl,htb,hc⟩:=paR.resolve_left (fun e=>by rw [e] at hlt;simp at hlt)
   obtain ⟨yo,yc,c0,c1,hy,hym⟩:=hc k hlt
   have j1:(0:Int)≤(k:Int):=by omega
   have j2:(k:Int)<(Q.length:Int):=by omega
   have hkl:k<l.length:=by omega
   have PT:=HAL.out.2 k hlt hkl
   have EN:=newN_take hkl
   have hnk' : newN (l.take k)≤24001:=by have:=hnk.out;omega
   by_cases hs:Q[k].1<0
   ·obtain ⟨es,ex,hld,hne⟩:=old_part PT hs
    have hyr:=LdR.range (.inr ⟨by omega,by have:=HRE.out.lt.2;omega⟩) hld
    have CL:=rleads_any (yc:=yc) rdR j hj hy hym
    have HLD:Hid (LdR N (top:Int) Q[k].2 l[k].2.2.2):=hld
    have EN' : Hid (newN (l.take (k+1))=newN (l.take k)):=by show _=_;rw [EN,ex];simp
    rw [es] at c0
    unfold maxLen at hym
    clear EN PT es ex hld hc paR rlR rdR hy hs
    generalize Q[k].2=pt at *
    generalize l[k].2.2.2=y at *
    have hy0:¬ (y<0):=by omega
    generalize newN (l.take k)=nk at *
    go_wp2_with (first | (go_at_call 45;refine CL.mono ?_;rintro e w1 ⟨top', y', rfl,hr1,hl1', k1⟩;obtain rfl:=HRE.out.uniq hr1;obtain rfl:=HLD.out.uniq hl1'; have c0' := (k1.cell (p:=⟨tb,toff+k * 2,none⟩) htb (fun f=>f)).trans c0))
    refine ⟨⟨k+1,by omega,by go_num,by rw [EN'.out],by show _≤_;rw [EN'.out];have:=hnk.out;omega,KR.out.trans' k1⟩,by simp [intOf];omega⟩
   ·obtain ⟨ex,hsl⟩:=new_part PT (by omega)
    have EN' : Hid (newN (l.take (k+1))=newN (l.take k)+1):=by show _=_;rw [EN,ex];simp [tgT]
    have hs2:¬ (Q[k].1 < -1):=by omega
    have hs3:(Q[k].1 == -1)=false:=by simp;omega
    have hs4:¬ ((L.length:Int)≤Q[k].1):=by omega
    clear EN PT ex hc paR rlR rdR hy c1
    generalize Q[k].1=s at *
    generalize newN (l.take k)=nk at *
    go_wp2_with fail
    refine ⟨⟨k+1,by omega,by go_num,by first | (rw [EN'.out];go_num) | (rw [EN'.out];congr 1),by show _≤_;rw [EN'.out];have:=hnk.out;omega,KR⟩,by simp [intOf];omega⟩
  ·obtain rfl:k=Q.length:=by omega
   have CE:=end13_any (gc:=gc) rlR paR hql HSL.out 0 (Nat.zero_le _)
   rw [HEN.out] at CE
   have hQ8:(Q.length:Int)≤24001:=by omega
   have EL:Hid (newN (l.take Q.length)=newN l):=by show _=_;rw [← hlQ,List.take_length]
   have i3:¬ ((room:Int)-(N.length:Int)<(newN (l.take Q.length):Int)):=by have:=HFI.out;rw [EL.out];omega
   have KRR:Hid (Same0 W0 wr):=KR
   have rdd:=rdR
   have fnl' : newN (l.take Q.length)≤4000:=by rw [EL.out];exact fnl
   clear paR rlR KR hnk rdR
   generalize newN (l.take Q.length)=nq0 at *
   go_upto_region 18 with (first | (go_at_call 46;refine CE.mono ?_;rintro e w1 ⟨rfl,k1⟩))
   have K1:Hid (Same0 W0 w1):=KRR.out.trans' k1
   have r0:=(HRH.out.same K1.out).cells.1
   have r1:=(HP0.out w1 K1.out).2.2.c1
   clear CE k1 KRR rdd
   go_quiet (fail)
   obtain ⟨W1,hW1⟩:∃ W1,W1=w1.drewN nq:=⟨_,rfl⟩
   have K2:Hid (Same0 W0 W1):=by rw [hW1];exact K1.out.trans' ((Kept.refl _ _).drewN _)
   rw [← hW1]
   clear hW1 r0 r1 K1 EL
   go_upto_region 21 with (first | (at_make;refine wpList_make_full _ rfl _ _ 33 rfl W1.heap.size 3 i0 _ 1 Tryz.underlying33 hi0 hz0 hz1 _ _ _ _ Q.length rfl rfl rfl rfl (by rw [hz2];omega) (by unfold maxLen;omega) (Nat.le_refl _) ?_;intro w2 hown hgrow))
   rw [made_numsQ] at hown
   have k2:Same0 W1 w2:=Same0.grown (Kept.refl _ W1) hgrow
   have I0:Hid (BdI B N l W0 r room (.slice ao N.length cap) W1.heap.size l.length w2 (.slice ao N.length cap)):=BdI.start (HRH.out.same K2.out) K2.out k2 (by rw [hlQ];unfold Row;rw [List.length_replicate];exact hown)
   clear hown hgrow k2 K2
   generalize W1.heap.size=ab at *
   go_upto_region 22 with fail
   go_loopw [16] (fun s16 wr=>∃ q:Nat,q≤l.length∧s16=.int .i64 ((q:Int)-1)∧∃ vr,Hid (BdI B N l W0 r room (.slice ao N.length cap) ab q wr vr)) (fun s16 _=>(intOf s16+1).toNat)
   case atStart=>exact ⟨l.length,Nat.le_refl _,by first | (rw [hlQ];done) | (rw [hlQ];go_num),_,I0⟩
   case round=>
    clear I0
    obtain ⟨q,hq,rfl,vr,I⟩:=hrel
    cases q with
    | zero=>
     have hb:=I.out.kept.at HZ.out NF.out
     obtain ⟨⟨b0,b1,b2,b3,b4,b5⟩,g0,g1,g2,g3,g4,g5⟩:=boxF6 hb
     obtain ⟨z,ez,cz, -⟩:=I.out.cell hl1
     have ez:=ez (Nat.le_refl _)
     subst ez
     have hlt0:=lt_of_at HZ.out
     have FIN:Hid (∀ c0 c1 c2 c3 c4 c5,RhB (fun b=>B b∨w.heap.size≤b) (put6 wr (w.heap.size+1) c0 c1 c2 c3 c4 c5) r room vr (layF N l).1∧(∀ k,vr.ownBlock=some k→(Value.slice ao N.length cap).ownBlock=some k∨w.heap.size≤k)∧Kept (fun k=>k=r∨(Value.slice ao N.length cap).ownBlock=some k) w (put6 wr (w.heap.size+1) c0 c1 c2 c3 c4 c5)):=by
      intro c0 c1 c2 c3 c4 c5
      have KP:=put6_kept wr (w.heap.size+1) c0 c1 c2 c3 c4 c5
      have P:=I.out.rh.kept KP (fun e=>NF.out (.inl e.symm)) (fun k e e2=>by
       subst e2
       rcases I.out.own _ e with e3 | e3
       ·exact NF.out (.inr e3)
       ·omega) (fun k _ e2 cur hcc=>by rw [e2,hb] at hcc;cases hcc)
      rw [List.drop_zero] at P
      have hws:=HK0.out.size
      refine ⟨P.monoG (fun k _ q=>q.1.imp id (fun e=>by omega)),fun k e=>(I.out.own k e).imp id (fun e=>by omega),?_⟩
      exact ((Kept.mono HK0.out (fun _ _ f=>f.elim)).trans I.out.kept (fun _ _ e=>e)).trans KP (fun i hi e=>by omega)
     have lq:(0:Int)<(Q.length:Int):=by omega
     clear I
     obtain ⟨z0,hz0'⟩:∃ z0,hdA N l 0=z0:=⟨_,rfl⟩
     have HZE:Hid (hdA N l 0=z0):=hz0'
     rw [hz0'] at cz
     clear hz0'
     have lz:((0:Nat):Int)-1 = -1:=by omega
     rw [lz]
     go_wp2_with fail
     exact bodyPost_ret (v:=.tuple #[.int .i64 z0,fltV 0 0 0]) (by simp [results,Tryz.results17,go_sem,b0,b1,b2,b3,b4,b5,fltV]) rfl ⟨by rw [HZE.out],_,FIN.out _ _ _ _ _ _⟩
    | succ m=>
     have em:((m+1:Nat):Int)-1=(m:Int):=by omega
     rw [em]
     have hml:m<l.length:=by omega
     have hmQ:m<Q.length:=by omega
     have hmt:m<(syl Q).length:=by rw [syl_len];exact hmQ
     obtain ⟨rlR,paR⟩:=HPA.out wr I.out.kept
     obtain ⟨tb,toff,rfl,htb,hc⟩:=paR.resolve_left (fun e=>by rw [e] at hmQ;simp at hmQ)
     obtain ⟨yo,yc,c0,c1,hy,hym⟩:=hc m hmQ
     have m1:(0:Int)≤(m:Int):=by omega
     have m2:(m:Int)<(Q.length:Int):=by omega
     have m3:(m:Int)≤24001:=by omega
     have PT:=HAL.out.2 m hmQ hml
     have LA:=lay_at hT.out hAs.out hO.out N hml hmt
     by_cases hs:Q[m].1<0
     ·obtain ⟨es,ex,hld,hne⟩:=old_part PT hs
      obtain ⟨ln,lh⟩:=LA.1 ex
      obtain ⟨M,eM,_,_⟩:=lay_nodes N (l.drop (m+1))
      obtain ⟨ao2,cap2,ev2,rd2⟩:=I.out.rh.rdA
      have hj2:j<(layF N (l.drop (m+1))).1.length:=by rw [eM,List.length_append];omega
      have CL:=rleads_any (yc:=yc) rd2 j hj2 hy hym
      have HR2:Hid (Res (layF N (l.drop (m+1))).1 j top):=by show Res _ _ _;rw [eM];exact HRE.out.more M
      have HLD:Hid (LdR (layF N (l.drop (m+1))).1 (top:Int) Q[m].2 (hdA N l m)):=by show LdR _ _ _ _;rw [eM,lh];exact hld.more M hne
      have NX:Hid (∀ ww,Same0 wr ww→(∃ z,ww.cell? ⟨ab,m,none⟩=some (.int .i64 z)∧ww.frozen? ⟨ab,m,none⟩=false)∧BdI B N l W0 r room (.slice ao N.length cap) ab m (ww.setCell ⟨ab,m,none⟩ (.int .i64 (hdA N l m))) vr):=fun ww hk=>by
       have J:=I.out.same hk
       obtain ⟨z,_,z1,z2⟩:=J.cell hml
       exact ⟨⟨z,z1,z2⟩,BdI.put (M:=[]) (by rw [ln];exact J.rh) J.own J.kept J.row J.lo J.ne hml⟩
      unfold maxLen at hym
      clear PT LA es ex hld hne ln lh eM rd2 hy hc paR rlR I
      generalize hdA N l m=y at *
      generalize (layF N (l.drop (m+1))).1=N2 at *
      generalize Q[m].2=pt at *
      generalize Q[m].1=s at *
      go_wp2_with (first | (go_at_call 45;refine CL.mono ?_;rintro e w3 ⟨top', y', rfl,hr1,hl1', k3⟩;obtain rfl:=HR2.out.uniq hr1;obtain rfl:=HLD.out.uniq hl1'; obtain ⟨⟨z,z1,z2⟩,NXX⟩:=NX.out w3 k3))
      refine ⟨⟨m,by omega,by go_num,vr,NXX⟩,by simp [intOf]⟩
     ·obtain ⟨ex,hsl⟩:=new_part PT (by omega)
      have hxt:l[m].1=true:=by rw [ex];rfl
      have hxs:l[m].2.1=Q[m].1:=by rw [ex];rfl
      obtain ⟨ln,lh⟩:=LA.2 hxt
      have esy:(syl Q)[m]=Q[m].1:=syl_at Q hmQ
      have A6:=arN_le ha Q[m].1
      have PL:Hid (∀ c,c<arN L Q[m].1→m+1≤past L (syl Q) c (m+1)∧past L (syl Q) c (m+1)<(syl Q).length):=fun c hc=>past_ltQ hT.out hmt (by rw [esy];exact hc)
      have EP:Hid (∀ c,c<arN L Q[m].1→endJ L (syl Q) (past L (syl Q) c (m+1))=((past L (syl Q) (c+1) (m+1):Nat):Int)):=fun c hc=>endJ_past hT.out hmt (by rw [esy];exact hc)
      have HPW:Hid (∀ ww,Same0 wr ww→Rl n ww (.slice so L.length sc) L∧PaAt ww (some ⟨tb,toff,none⟩) Q):=fun ww hk=>HPA.out ww (I.out.kept.trans hk (fun _ _ f=>f.elim))
      have ST:Hid (∀ ww,Same0 wr ww→∀ gg cap9 w9,NRow (fun b=>(B b∨W0.heap.size≤b)∧b≠ab) 0 w9 (.slice (some ⟨gg,0,none⟩) ((layF N (l.drop (m+1))).1.length+1) cap9) ((layF N (l.drop (m+1))).1 ++ [(Q[m].1,(starts L (syl Q) (arN L Q[m].1) (m+1)).map (hdA N l),0,false,0)])→Kept (fun k=>vr.ownBlock=some k) ww w9→(vr.ownBlock=some gg∨ww.heap.size≤gg)→(w9.cell? ⟨r,0,none⟩=some (.int .i64 (room:Int))∧w9.cell? ⟨r,1,none⟩=some vr∧w9.frozen? ⟨r,1,none⟩=false)∧(∃ z,w9.cell? ⟨ab,m,none⟩=some (.int .i64 z)∧w9.frozen? ⟨ab,m,none⟩=false)∧BdI B N l W0 r room (.slice ao N.length cap) ab m ((w9.setCell ⟨r,1,none⟩ (.slice (some ⟨gg,0,none⟩) ((layF N (l.drop (m+1))).1.length+1) cap9)).setCell ⟨ab,m,none⟩ (.int .i64 ((layF N (l.drop (m+1))).1.length:Int))) (.slice (some ⟨gg,0,none⟩) ((layF N (l.drop (m+1))).1.length+1) cap9)):=fun ww hk gg cap9 w9 r9 k9 hat=>by
       have:=(I.out.same hk).step hT.out hAs.out hO.out HON.out hok.out HFI.out hml hmt hxt (w9:=w9) (gg:=gg) (cap:=cap9) (by rw [hxs,esy];exact r9) k9 hat
       rw [lh] at this
       exact this
      have HAT:Hid (∀ ww,Same0 wr ww→∀ c,c<arN L Q[m].1→ww.cell? ⟨ab,past L (syl Q) c (m+1),none⟩=some (.int .i64 (hdA N l (past L (syl Q) c (m+1))))):=fun ww hk c hc=>by
       obtain ⟨p1,p2⟩:=PL.out c hc
       obtain ⟨z,ez,z1,_⟩:=(I.out.same hk).cell (j:=past L (syl Q) c (m+1)) (by rw [syl_len] at p2;omega)
       rw [ez p1] at z1
       exact z1
      have hlq2:(syl Q).length=Q.length:=syl_len Q
      have HW5:Hid (ab<wr.heap.size):=I.out.rowAt.2.1
      unfold maxLen at hym
      clear PT LA ex ln lh esy hxs hy hc paR rlR
      have HN2:Hid ((layF N (l.drop (m+1))).1.length≤4000):=by have:=I.out.rh.le;show _≤_;omega
      have HRR:Hid (∀ ww,Same0 wr ww→RhB (fun b=>(B b∨W0.heap.size≤b)∧b≠ab) ww r room vr (layF N (l.drop (m+1))).1):=fun ww hk=>I.out.rh.same hk
      have hnr:ab≠r:=I.out.ne.1
      have hnr2:r≠ab:=fun e=>hnr e.symm
      have HKS:Hid (W0.heap.size≤wr.heap.size):=I.out.kept.size
      have HAR:Hid (∀ ww,Same0 wr ww→Calls Tryz.prog 47 #[.slice so L.length sc,.agg #[.int .i64 Q[m].1,.slice yo Q[m].2.length yc]] ww fun e w' => e=.returned (.int .i64 (arN L Q[m].1:Int))∧Same0 ww w'):=fun ww hk=>arity13_any (HPW.out ww hk).1 Q[m].1 hsl yo Q[m].2.length yc
      have HE3:Hid (∀ ww c,Same0 wr ww→c<arN L Q[m].1→Calls Tryz.prog 46 #[.slice so L.length sc,.slice (some ⟨tb,toff,none⟩) Q.length gc,.int .i64 ((past L (syl Q) c (m+1):Nat):Int)] ww fun e w' => e=.returned (.int .i64 ((past L (syl Q) (c+1) (m+1):Nat):Int))∧Same0 ww w'):=fun ww c hk hc=>by
       have:=end13_any (gc:=gc) (HPW.out ww hk).1 (HPW.out ww hk).2 hql HSL.out (past L (syl Q) c (m+1)) (by have:=(PL.out c hc).2;omega)
       rw [EP.out c hc] at this
       exact this
      have HCC:Hid (∀ ww,Same0 wr ww→ww.cell? ⟨tb,toff+m * 2,none⟩=some (.int .i64 Q[m].1)∧ww.cell? ⟨tb,toff+m * 2+1,none⟩=some (.slice yo Q[m].2.length yc)):=fun ww hk=>⟨(hk.cell (p:=⟨tb,toff+m * 2,none⟩) htb (fun f=>f)).trans c0,(hk.cell (p:=⟨tb,toff+m * 2+1,none⟩) htb (fun f=>f)).trans c1⟩
      have PL' : Hid (∀ c,c<arN L Q[m].1→past L (syl Q) c (m+1)<Q.length):=fun c hc=>by have:=(PL.out c hc).2;omega
      obtain ⟨P,hP⟩:∃ P:Nat→Nat,P=fun c=>past L (syl Q) c (m+1):=⟨_,rfl⟩
      obtain ⟨Ff,hF⟩:∃ Ff:Nat→Int,Ff=fun c=>hdA N l (past L (syl Q) c (m+1)):=⟨_,rfl⟩
      obtain ⟨Kf,hK⟩:∃ Kf:Nat→List Int,Kf=fun c=>(starts L (syl Q) c (m+1)).map (hdA N l):=⟨_,rfl⟩
      have P0:Hid (P 0=m+1):=by show _=_;rw [hP];rfl
      have Kz:Hid (Kf 0=[]):=by show _=_;rw [hK];rfl
      have Ks:Hid (∀ c,Kf (c+1)=Kf c ++ [Ff c]):=fun c=>by rw [hK,hF];simp [starts_snoc]
      have Kl:Hid (∀ c,(Kf c).length=c):=fun c=>by rw [hK];simp [starts_length]
      have HAT' : Hid (∀ ww,Same0 wr ww→∀ c,c<arN L Q[m].1→ww.cell? ⟨ab,P c,none⟩=some (.int .i64 (Ff c))):=by rw [hP,hF];exact HAT
      have HE3' : Hid (∀ ww c,Same0 wr ww→c<arN L Q[m].1→Calls Tryz.prog 46 #[.slice so L.length sc,.slice (some ⟨tb,toff,none⟩) Q.length gc,.int .i64 ((P c:Nat):Int)] ww fun e w' => e=.returned (.int .i64 ((P (c+1):Nat):Int))∧Same0 ww w'):=by rw [hP];exact HE3
      have PL2:Hid (∀ c,c<arN L Q[m].1→P c<Q.length):=by rw [hP];exact PL'
      have ST' : Hid (∀ ww,Same0 wr ww→∀ gg cap9 w9,NRow (fun b=>(B b∨W0.heap.size≤b)∧b≠ab) 0 w9 (.slice (some ⟨gg,0,none⟩) ((layF N (l.drop (m+1))).1.length+1) cap9) ((layF N (l.drop (m+1))).1 ++ [(Q[m].1,Kf (arN L Q[m].1),0,false,0)])→Kept (fun k=>vr.ownBlock=some k) ww w9→(vr.ownBlock=some gg∨ww.heap.size≤gg)→(w9.cell? ⟨r,0,none⟩=some (.int .i64 (room:Int))∧w9.cell? ⟨r,1,none⟩=some vr∧w9.frozen? ⟨r,1,none⟩=false)∧(∃ z,w9.cell? ⟨ab,m,none⟩=some (.int .i64 z)∧w9.frozen? ⟨ab,m,none⟩=false)∧BdI B N l W0 r room (.slice ao N.length cap) ab m ((w9.setCell ⟨r,1,none⟩ (.slice (some ⟨gg,0,none⟩) ((layF N (l.drop (m+1))).1.length+1) cap9)).setCell ⟨ab,m,none⟩ (.int .i64 ((layF N (l.drop (m+1))).1.length:Int))) (.slice (some ⟨gg,0,none⟩) ((layF N (l.drop (m+1))).1.length+1) cap9)):=by rw [hK];exact ST
      clear hP hF hK HAT HE3 PL PL' EP ST HPW I c0 c1
      generalize (layF N (l.drop (m+1))).1=N2 at *
      generalize arN L Q[m].1=ar at *
      generalize Q[m].1=s at *
      generalize Q[m].2.length=pl2 at *
      obtain ⟨w3,hw3⟩:∃ w3,w3=wr:=⟨_,rfl⟩
      subst hw3
      have hs1:¬ (s<0):=hs
      have c0w:=(HCC.out w3 (Kept.refl _ _)).1
      go_upto_region 29 with fail
      go_loopw [17,18,19] (fun s17 s18 s19 wr=>∃ c:Nat,c≤ar∧s19=.int .i64 (c:Int)∧s18=.int .i64 ((P c:Nat):Int)∧Row w3.heap.size wr s17 (Kf c)∧Hid (Same0 w3 wr)) (fun _ _ s19 _=>ar-(intOf s19).toNat)
      case atStart=>exact ⟨0,Nat.zero_le _,rfl,by rw [P0.out];go_num,by rw [Kz.out];exact World.ownsRow_nil _ _ _ _,Kept.refl _ _⟩
      case round=>
       clear c0w
       obtain ⟨c,hc,rfl,rfl,hr,hs3⟩:=hrel
       obtain ⟨d0,d1⟩:=HCC.out wr hs3.out
       have CA:=HAR.out wr hs3.out
       have kl:=Kl.out c
       by_cases hlt3:c<ar
       ·have x1:(c:Int)<(ar:Int):=by omega
        have pc1:=PL2.out c hlt3
        have x2:(0:Int)≤(P c:Int):=by omega
        have x3:(P c:Int)<(Q.length:Int):=by omega
        have HKL:Hid ((Kf c).length=c):=kl
        clear kl
        go_upto_region 31 with (first | (go_at_call 47;refine CA.mono ?_;rintro e w4 ⟨rfl,k4⟩))
        have hr4:Row w3.heap.size w4 _ (Kf c):=k4.row hr (fun _ _ f=>f)
        have hs4:Hid (Same0 w3 w4):=hs3.out.trans' k4
        have cz:=HAT'.out w4 hs4.out c hlt3
        obtain ⟨oo,ocap,rfl⟩:=row_shape hr4
        clear CA hr k4 d0 d1
        have CE:=fun ww (hk:Same0 w3 ww)=>HE3'.out ww c hk hlt3
        go_upto_region 32 with (first | (at_builtin;refine wpList_push rfl _ _ 33 rfl Tryz.underlying33 w3.heap.size (Kf c) _ rfl hr4 (Ff c) rfl hs4.out.size (by have:=HKL.out;omega) ?_;intro g9 gcap w5 hr5 hk5 _;have hs5:=hs4.out.onto hr4 hk5))
        rw [← Ks.out c] at hr5
        have CE5:=CE w5 hs5
        have HR5:Hid (Row w3.heap.size w5 (.slice (some ⟨g9,0,none⟩) ((Kf c).length+1) gcap) (Kf (c+1))):=hr5
        clear CE hr5 hr4 hk5 cz
        go_wp2_with (first | (go_at_call 46;refine CE5.mono ?_;rintro e w6 ⟨rfl,k6⟩))
        have hr6:Row w3.heap.size w6 (.slice (some ⟨g9,0,none⟩) ((Kf c).length+1) gcap) (Kf (c+1)):=k6.row HR5.out (fun _ _ f=>f)
        have hs6:Hid (Same0 w3 w6):=hs5.trans' k6
        go_roundw
        case rel=>first | exact ⟨c+1,by omega,by go_num,rfl,hr6,hs6⟩ | ((repeat apply Exists.intro);exact ⟨⟨c+1,by omega,by go_num,rfl,hr6,hs6⟩,rfl⟩)
        case measure=>simp [intOf];omega
       ·obtain rfl:c=ar:=by omega
        go_upto_region 33 with (first | (go_at_call 47;refine CA.mono ?_;rintro e w4 ⟨rfl,k4⟩))
        have hr4:Row w3.heap.size w4 _ (Kf c):=k4.row hr (fun _ _ f=>f)
        have hs4:Hid (Same0 w3 w4):=hs3.out.trans' k4
        have KL:(Kf c).length≤6:=by omega
        obtain ⟨bo,bc,rfl,AT,AB⟩:=hr4.arg (by omega)
        have R4:=HRR.out w4 hs4.out
        obtain ⟨vro,vrc,rfl⟩:=R4.row.shape
        obtain ⟨y0,y1⟩:=R4.cells
        have hcc:=(HCC.out w4 hs4.out).1
        have htb4:tb<w4.heap.size:=Nat.lt_of_lt_of_le htb hs4.out.size
        have ST4:Hid (∀ gg cap9 w9,_→_→_→_):=fun gg cap9 w9 (r9:NRow _ 0 w9 (.slice (some ⟨gg,0,none⟩) (N2.length+1) cap9) _) k9 hat=>ST'.out w4 hs4.out gg cap9 w9 r9 k9 hat
        have HBB:Hid (∀ a,bo=some a→(B a.block∨W0.heap.size≤a.block)∧a.block≠ab):=fun a e=>by
         have h9:=AB a e
         have h8:=HW5.out
         have h7:=HKS.out
         exact ⟨.inr (by omega),by omega⟩
        have HRW:Hid _:=R4.row
        have RLT:=R4.lt
        have LL:=HN2
        have L4:(N2.length:Int)≤4000:=by have:=HN2.out;omega
        have L5:wrap64 ((N2.length:Nat):Int)=(N2.length:Int):=by unfold wrap64;omega
        clear CA hr hr4 k4 d0 d1 R4 HRR ST' HCC HAR HE3' HAT' kl AB
        generalize Kf c=K at *
        have KA:Same0 w4 (w4.alloc (.cells #[.int .i64 s,.slice bo K.length bc,.int .i64 0,.bool false,.int .i64 0] 76)):=(Kept.refl _ _).alloc _
        have f1:=(KA.cell (p:=⟨r,1,none⟩) RLT (fun f=>f)).trans y1
        have f2:=(KA.cell (p:=⟨tb,toff+m * 2,none⟩) htb4 (fun f=>f)).trans hcc
        have hW6:Same0 w4 w4.drew:=(Kept.refl _ _).drew
        have HL5:Hid (wrap64 ((N2.length:Nat):Int)=(N2.length:Int)):=L5
        have HMM:Hid (m≤l.length):=by show _≤_;omega
        clear hxt em hlQ hlq2 L5 y0 KA hW6 KL hRm hql hsh hmt hml hq hk hlt hle
        have ST5:Hid (∀ gg cap9 w9,NRow (fun b=>(B b∨W0.heap.size≤b)∧b≠ab) 0 w9 (.slice (some ⟨gg,0,none⟩) (N2.length+1) cap9) (N2 ++ [(s,K,0,false,0)])→Kept (fun k=>(Value.slice vro N2.length vrc).ownBlock=some k) w4 w9→((Value.slice vro N2.length vrc).ownBlock=some gg∨w4.heap.size≤gg)→(w9.cell? ⟨r,1,none⟩=some (.slice vro N2.length vrc)∧w9.frozen? ⟨r,1,none⟩=false)∧Hid (∃ g c:Nat,Value.slice (some ⟨gg,0,none⟩) (N2.length+1) cap9=.slice (some ⟨g,0,none⟩) (N2.length+1) c∧(w9.setCell ⟨r,1,none⟩ (.slice (some ⟨gg,0,none⟩) (N2.length+1) cap9)).cell? ⟨r,1,none⟩=some (.slice (some ⟨g,0,none⟩) (N2.length+1) c)∧(∃ z,(w9.setCell ⟨r,1,none⟩ (.slice (some ⟨gg,0,none⟩) (N2.length+1) cap9)).cell? ⟨ab,m,none⟩=some (.int .i64 z))∧(w9.setCell ⟨r,1,none⟩ (.slice (some ⟨gg,0,none⟩) (N2.length+1) cap9)).frozen? ⟨ab,m,none⟩=false∧Hid (BdI B N l W0 r room (.slice ao N.length cap) ab m ((w9.setCell ⟨r,1,none⟩ (.slice (some ⟨gg,0,none⟩) (N2.length+1) cap9)).setCell ⟨ab,m,none⟩ (.int .i64 (N2.length:Int))) (.slice (some ⟨g,0,none⟩) (N2.length+1) c)))):=fun gg cap9 w9 r9 k9 hat=>by
         obtain ⟨⟨z0,z1,z2⟩,⟨zz,z3,z4⟩,FF⟩:=ST4.out gg cap9 w9 r9 k9 hat
         exact ⟨⟨z1,z2⟩,gg,cap9,rfl,World.cell?_setCell_same _ _ _ z1,⟨zz,(World.cell?_setCell_far _ _ _ _ (fun e=>hnr e.symm)).trans z3⟩,by rw [World.frozen?_setCell];exact z4,FF⟩
        clear ST4
        go_cut [174] (fun s174 wc=>∃ g c:Nat,s174=.slice (some ⟨g,0,none⟩) (N2.length+1) c∧wc.cell? ⟨r,1,none⟩=some (.slice (some ⟨g,0,none⟩) (N2.length+1) c)∧(∃ z,wc.cell? ⟨ab,m,none⟩=some (.int .i64 z))∧wc.frozen? ⟨ab,m,none⟩=false∧Hid (BdI B N l W0 r room (.slice ao N.length cap) ab m (wc.setCell ⟨ab,m,none⟩ (.int .i64 (N2.length:Int))) (.slice (some ⟨g,0,none⟩) (N2.length+1) c)))
        case first=>
         go_region_law (first
          | (refine step_nd (w0:=w4) (by rfl) _ _ (by rfl) 0 N2 (.slice vro N2.length vrc) (by rfl) (by first | exact (Kept.refl _ w4).alloc _ | exact (Kept.refl _ w4).drew.alloc _ | exact ((Kept.refl _ w4).alloc _).drew) HRW.out (s,K,0,false,0) bo bc w4.heap.size (by rfl) (heap_alloc_new w4 _) AT HBB.out (Nat.zero_le _) (by have:=LL.out;omega) ?_;intro gg cap9 w9 r9 k9 hat;obtain ⟨⟨z1,z2⟩,FF⟩:=ST5.out gg cap9 w9 r9 k9 hat))
         all_goals
          go_wp2_with fail
          go_meet
          exact FF.out
        case rest=>
         obtain ⟨g,c9,rfl,x1,⟨zz,x2⟩,x3,FF⟩:=hcut
         have L5:=HL5.out
         clear f1 f2 y1 hcc AT ST5
         go_wp2_with fail
         refine ⟨⟨m,HMM.out,by go_num,_,FF⟩,by simp [intOf]⟩
end Go.Proofs.YtblgblgchkonhaaGreat
namespace Go.Proofs.YtblgblgchkonhaaGreat
set_option maxRecDepth 100000
set_option linter.unusedVariables false
open Go.RowKit Go.Deep
section
variable {H : Type} {enc : TypeId × Value → H} {w : World} {spare : Nat → Bool} {held : Bool}
theorem weightsAll_mem11 {P:Program} {e:TypeId} {l:List (DataW H)} {d:DataW H} (h:d∈l) {n:Nat} (hn:n∈d.weights P e):n∈DataW.weightsAll P e l:=by
 induction l with
 | nil=>cases h
 | cons x r ih=>
  simp only [DataW.weightsAll,List.mem_append]
  rcases List.mem_cons.1 h with q | q
  ·subst q;exact .inl hn
  ·exact .inr (ih q)
set_option maxRecDepth 100000 in
theorem open_elems11 {t e c fuel:Nat} {ao:Option Addr} {len cap:Nat} {x:DataW H × List MemPlace} (ht:Tryz.prog.underlying t=some (.slice e)) (hc:Tryz.prog.cellsOf e=c) (h0:0<c) (h:DataW.trod enc Tryz.prog w 0 spare held fuel t [.slice ao len cap]=some x) (hw:∀ n∈x.1.weights Tryz.prog t,n≤reachBytes) :
  (ao=none∧len=0∧cap=0)∨∃ a,ao=some a∧len≤cap∧cap≤maxLen∧len * Tryz.prog.bytesOf e≤reachBytes∧∀ i,i<len→a=⟨a.block,a.off,none⟩∧a.block<w.heap.size∧∃ cs n y,cs.length=c∧(∀ j,j<c→w.cell? ⟨a.block,a.off+i * c+j,none⟩=cs[j]?)∧DataW.trod enc Tryz.prog w 0 spare held n e cs=some y∧∀ n∈y.1.weights Tryz.prog e,n≤reachBytes:=by
 rcases open_slice ht h with ⟨hcs,_⟩ | ⟨a,len', cap', m,n,D,Pl,hcs,_,hl,hm,hmm,rfl,hx⟩
 ·simp at hcs;exact .inl ⟨hcs.1,hcs.2.1,hcs.2.2⟩
 ·simp at hcs
  obtain ⟨rfl,rfl,rfl⟩:=hcs
  have hb:len * Tryz.prog.bytesOf e≤reachBytes:=by
   have:=hw ((((List.range len).map D).length+((List.range (m-len)).map fun j=>D (len+j)).length) * Tryz.prog.bytesOf e) (by simp [DataW.weights,ht])
   refine Nat.le_trans (Nat.mul_le_mul_right _ ?_) this
   simp
  refine .inr ⟨a,rfl,hl,hm,hb,fun i hi=>?_⟩
  have hmi:i<m:=by rw [hmm];split <;> omega
  have hm0:0<m:=by omega
  obtain ⟨cs0,g0,_⟩:=hx 0 hm0
  rw [hc] at g0
  obtain ⟨_,gl,gc⟩:=World.cells?_some g0
  have hsp:a.spot=none:=by
   have:=gc 0 h0
   have hv:cs0[0]? = some (cs0[0]'(by omega)):=List.getElem?_eq_getElem (by omega)
   rw [hv] at this
   simp [Addr.add] at this
   exact World.cell?_spot this
  have hlt:a.block<w.heap.size:=World.cells?_block (by simpa [Addr.add] using g0) h0
  have ea:a=⟨a.block,a.off,none⟩:=by cases a;simp_all
  obtain ⟨cs,g1,g2⟩:=hx i hmi
  rw [hc] at g1
  obtain ⟨_,gl1,gc1⟩:=World.cells?_some g1
  refine ⟨ea,hlt,cs,n,_,gl1,fun j hj=>?_,g2,fun k hk=>hw k ?_⟩
  ·rw [← gc1 j hj,add_add]
   congr 1
   unfold Addr.add
   split
   ·rw [ea];simp;omega
   ·simp
  ·simp only [DataW.weights,ht,List.mem_cons,List.mem_append]
   exact .inr (.inl (weightsAll_mem11 (List.mem_map.2 ⟨i,by simpa using hi,rfl⟩) hk))
end
theorem cells_node:Tryz.prog.cellsOf 76=5:=by kernel_rfl
theorem bytes_node:Tryz.prog.bytesOf 76=56:=by kernel_rfl
theorem cells_boolT:Tryz.prog.cellsOf 4=1:=by kernel_rfl
theorem cells_intsT:Tryz.prog.cellsOf 33=1:=by kernel_rfl
def NdI (x:Nd):Prop:=I64 x.1∧(∀ z∈x.2.1,I64 z)∧I64 x.2.2.1∧I64 x.2.2.2.2
section
variable {H : Type} {enc : TypeId × Value → H} {w : World} {spare : Nat → Bool} {held : Bool}
theorem trod_node {fuel:Nat} {cs:List Value} {x:DataW H × List MemPlace} (hl:cs.length=5) (h:DataW.trod enc Tryz.prog w 0 spare held fuel 76 cs=some x) (hw:∀ n∈x.1.weights Tryz.prog 76,n≤reachBytes):∃ (y:Nd) (xo:Option Addr) (xc:Nat),NdI y∧Arg w xo y.2.1 xc∧cs=[.int .i64 y.1,.slice xo y.2.1.length xc,.int .i64 y.2.2.1,.bool y.2.2.2.1,.int .i64 y.2.2.2.2]:=by
 obtain ⟨y0,y1,y2,y3,y4,n', hyd,hl', g0,g1,g2,g3,g4⟩:=trod_struct5 Tryz.underlying76 h
 match cs,hl with
 | [c0,c1,c2,c3,c4],_=>
  simp only [cells_int,cells_boolT,cells_intsT,List.drop_zero,List.take_succ_cons,List.take_zero,List.drop_succ_cons] at g0 g1 g2 g3 g4
  obtain ⟨z0,e0,_,w0⟩:=DataW.trod_int Tryz.underlying3 g0
  obtain ⟨z2,e2,_,w2⟩:=DataW.trod_int Tryz.underlying3 g2
  obtain ⟨z3,e3,_⟩:=DataW.trod_bool Tryz.underlying4 g3
  obtain ⟨z4,e4,_,w4⟩:=DataW.trod_int Tryz.underlying3 g4
  have hyw1:∀ n∈y1.1.weights Tryz.prog 33,n≤reachBytes:=fun n hn=>hw n (by
   rw [hyd]
   simp only [DataW.weights,Tryz.underlying76]
   simp [DataW.weightsEach,hn])
  obtain ⟨xo,len,xc,e1⟩:=slice_one Tryz.underlying33 g1
  subst e1
  obtain ⟨xs,hxl,hxa,hxi⟩:=open_ints64 Tryz.underlying33 g1 hyw1
  subst hxl
  simp only [List.cons.injEq,and_true] at e0 e2 e3 e4
  subst e0 e2 e3 e4
  exact ⟨(z0,xs,z2,z3,z4),xo,xc,⟨i64_wf w0,hxi,i64_wf w2,i64_wf w4⟩,hxa,rfl⟩
theorem open_nodes {fuel:Nat} {ao:Option Addr} {len cap:Nat} {x:DataW H × List MemPlace} (h:DataW.trod enc Tryz.prog w 0 spare held fuel 23 [.slice ao len cap]=some x) (hw:∀ n∈x.1.weights Tryz.prog 23,n≤reachBytes) :
  ∃ l:List Nd,l.length=len∧NsW w ao l∧len * 56≤140737488351232∧len≤cap∧(ao=none→len=0∧cap=0)∧∀ y∈l,NdI y:=by
 rcases open_elems11 Tryz.underlying23 cells_node (by omega) h hw with ⟨rfl,rfl,rfl⟩ | ⟨a,rfl,hl1,hl2,hsz,hall⟩
 ·exact ⟨[],rfl,.inl rfl,by omega,Nat.le_refl _,fun _=>⟨rfl,rfl⟩,by simp⟩
 ·rw [bytes_node] at hsz
  have each:∀ i,i<len→∃ y:Nd,NdI y∧∃ xo xc,w.cell? ⟨a.block,a.off+i * 5,none⟩=some (.int .i64 y.1)∧w.cell? ⟨a.block,a.off+i * 5+1,none⟩=some (.slice xo y.2.1.length xc)∧w.cell? ⟨a.block,a.off+i * 5+2,none⟩=some (.int .i64 y.2.2.1)∧w.cell? ⟨a.block,a.off+i * 5+3,none⟩=some (.bool y.2.2.2.1)∧w.cell? ⟨a.block,a.off+i * 5+4,none⟩=some (.int .i64 y.2.2.2.2)∧Arg w xo y.2.1 xc:=by
   intro i hi
   obtain ⟨_,_,cs,n,y,hl,hcell,hy,hyw⟩:=hall i hi
   obtain ⟨z,xo,xc,h1,h2,rfl⟩:=trod_node hl hy hyw
   exact ⟨z,h1,xo,xc,by simpa using hcell 0 (by omega),by simpa using hcell 1 (by omega),by simpa using hcell 2 (by omega),by simpa using hcell 3 (by omega),by simpa using hcell 4 (by omega),h2⟩
  obtain ⟨f,hf⟩:=Classical.axiomOfChoice (fun i:Fin len=>each i i.2)
  refine ⟨List.ofFn f,by simp,?_,by simpa [reachBytes] using hsz,hl1,(fun e=>by cases e),fun y hy=>?_⟩
  ·by_cases h0:len=0
   ·subst h0;exact .inl (by simp)
   ·obtain ⟨ea,hlt,_⟩:=hall 0 (by omega)
    refine .inr ⟨a.block,a.off,by rw [← ea],hlt,fun i hi=>?_⟩
    have hi' : i<len:=by simpa using hi
    simpa using (hf ⟨i,hi'⟩).2
  ·obtain ⟨i,rfl⟩:=List.mem_ofFn.1 hy
   exact (hf i).1
end
theorem cells_partT:Tryz.prog.cellsOf 73=2:=by kernel_rfl
theorem bytes_partT:Tryz.prog.bytesOf 73=32:=by kernel_rfl
theorem cells_partsT:Tryz.prog.cellsOf 74=1:=by kernel_rfl
theorem cells_tryT:Tryz.prog.cellsOf 62=2:=by kernel_rfl
def TrAt (w:World) (ao:Option Addr) (l:List (Int × Int)):Prop:=
 l=[]∨∃ b off,ao=some ⟨b,off,none⟩∧b<w.heap.size∧∀ j (hj:j<l.length),w.cell? ⟨b,off+j * 2,none⟩=some (.int .i64 l[j].1)∧w.cell? ⟨b,off+j * 2+1,none⟩=some (.int .i64 l[j].2)
theorem TrAt.same {w w' : World} {ao:Option Addr} {l:List (Int × Int)} (h:TrAt w ao l) (hk:Same0 w w'):TrAt w' ao l:=by
 refine h.imp id ?_
 rintro ⟨b,off,e,hb,hc⟩
 refine ⟨b,off,e,Nat.lt_of_lt_of_le hb hk.size,fun j hj=>?_⟩
 obtain ⟨d0,d1⟩:=hc j hj
 exact ⟨(hk.cell (p:=⟨b,off+j * 2,none⟩) hb (fun f=>f)).trans d0,(hk.cell (p:=⟨b,off+j * 2+1,none⟩) hb (fun f=>f)).trans d1⟩
section
variable {H : Type} {enc : TypeId × Value → H} {w : World} {spare : Nat → Bool} {held : Bool}
theorem trod_struct2 {P:Program} {base:Nat} {t:TypeId} {f0 f1:Field} {fuel:Nat} {cs:List Value} {x:DataW H × List MemPlace} (ht:P.underlying t=some (.struct #[f0,f1])) (h:DataW.trod enc P w base spare held fuel t cs=some x) :
  ∃ y0 y1 n,x.1=.agg [y0.1,y1.1]∧cs.length=P.cellsOf t∧DataW.trod enc P w base spare held n f0.type ((cs.drop f0.offset).take (P.cellsOf f0.type))=some y0∧DataW.trod enc P w base spare held n f1.type ((cs.drop f1.offset).take (P.cellsOf f1.type))=some y1:=by
 obtain ⟨xs,n,_,rfl,hl,hlen,hf⟩:=DataW.trod_struct ht h
 match xs,hlen with
 | [y0,y1],_=>exact ⟨y0,y1,n,by simp,hl,by simpa using hf 0 f0 rfl,by simpa using hf 1 f1 rfl⟩
theorem open_tries {fuel:Nat} {ao:Option Addr} {len cap:Nat} {x:DataW H × List MemPlace} (h:DataW.trod enc Tryz.prog w 0 spare held fuel 54 [.slice ao len cap]=some x) (hw:∀ n∈x.1.weights Tryz.prog 54,n≤reachBytes) :
  ∃ l:List (Int × Int),l.length=len∧TrAt w ao l∧len≤maxLen:=by
 rcases open_elems11 Tryz.underlying54 cells_tryT (by omega) h hw with ⟨rfl,rfl,rfl⟩ | ⟨a,rfl,hl1,hl2,hsz,hall⟩
 ·exact ⟨[],rfl,.inl rfl,Nat.zero_le _⟩
 ·have each:∀ i,i<len→∃ y:Int × Int,w.cell? ⟨a.block,a.off+i * 2,none⟩=some (.int .i64 y.1)∧w.cell? ⟨a.block,a.off+i * 2+1,none⟩=some (.int .i64 y.2):=by
   intro i hi
   obtain ⟨_,_,cs,n,y,hl,hcell,hy,hyw⟩:=hall i hi
   obtain ⟨y0,y1,n', hyd,hl', g0,g1⟩:=trod_struct2 Tryz.underlying62 hy
   match cs,hl with
   | [c0,c1],_=>
    simp only [cells_int,List.drop_zero,List.take_succ_cons,List.take_zero,List.drop_succ_cons] at g0 g1
    obtain ⟨z0,e0,_,w0⟩:=DataW.trod_int Tryz.underlying3 g0
    obtain ⟨z1,e1,_,w1⟩:=DataW.trod_int Tryz.underlying3 g1
    simp only [List.cons.injEq,and_true] at e0 e1
    subst e0 e1
    exact ⟨(z0,z1),by simpa using hcell 0 (by omega),by simpa using hcell 1 (by omega)⟩
  obtain ⟨f,hf⟩:=Classical.axiomOfChoice (fun i:Fin len=>each i i.2)
  refine ⟨List.ofFn f,by simp,?_,by omega⟩
  by_cases h0:len=0
  ·subst h0;exact .inl (by simp)
  ·obtain ⟨ea,hlt,_⟩:=hall 0 (by omega)
   refine .inr ⟨a.block,a.off,by rw [← ea],hlt,fun i hi=>?_⟩
   have hi' : i<len:=by simpa using hi
   simpa using hf ⟨i,hi'⟩
end
end Go.Proofs.YtblgblgchkonhaaGreat
