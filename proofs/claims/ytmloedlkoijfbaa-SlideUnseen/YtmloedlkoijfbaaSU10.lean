import Derived.Test.YtmloedlkoijfbaaSU09
import Derived.Deep.LoopGhost
import Derived.Deep.RegionWith
namespace Go.Proofs.Ytmloedlkoijfbaa
set_option maxRecDepth 100000
set_option linter.unusedVariables false
open Go.RowKit
attribute [local go_sem ↓] Go.wp_at_zero Go.wp_at_succ
theorem eqnilB (w:World) (a:Option Addr) (n c n' c' : Nat):(binOp .eql 92 (.slice a n c) (.slice none n' c')).run Try.prog w=.ok (.bool a.isNone) w:=Lib.run_eql_slice_nil w _ _ a n c n' c' Try.underlying92
theorem PRow.typ {base:Nat} {w:World} {v:Value} {P:List (Nat × Nat)} (h:PRow base w v P) {k:Nat} (e:v.ownBlock=some k):∃ cur,w.heap[k]? = some (.cells cur 90 (0,0)):=by
 unfold PRow at h
 rcases h.2 with ⟨q,_⟩ | ⟨g,cap,cur,q,hb,hg,_⟩
 ·rw [q] at e;cases e
 ·rw [q] at e
  simp only [Value.ownBlock,Option.some.injEq] at e
  subst e
  exact ⟨cur,hg⟩
theorem node_notB {w:World} {k:Nat} {cs:Array Value} (h:w.heap[k]? = some (.cells cs 47 (0,0))):NotB w k:=⟨fun cur hc=>(by rw [h] at hc;cases hc),fun cur hc=>(by rw [h] at hc;cases hc)⟩
theorem node_stays {W0 wr w9:World} {v:Value} {P:List (Nat × Nat)} {b d pb:Nat} {cs:Array Value} (h:wr.heap[pb]? = some (.cells cs 47 (0,0))) (hnb:¬ NotB wr b) (hp:PRow W0.heap.size (wr.setCell ⟨b,d,none⟩ (.bool true)) v P) (k9:Kept (fun k=>v.ownBlock=some k) (wr.setCell ⟨b,d,none⟩ (.bool true)) w9):w9.heap[pb]? = some (.cells cs 47 (0,0)):=by
 have K:Kept (fun k=>k=b) wr (wr.setCell ⟨b,d,none⟩ (.bool true)):=Kept.setCell (S:=fun k=>k=b) (Kept.refl _ _) (p:=⟨b,d,none⟩) (fun _=>rfl) _
 have h2:=K.at h (fun e=>hnb (by subst e;exact node_notB h))
 refine k9.at h2 (fun e=>?_)
 obtain ⟨cur,hc⟩:=hp.typ e
 rw [h2] at hc
 cases hc
structure AlS (W0 wr:World) (v:Value) (db nl nm:Nat) (Q:Nat→Nat→Prop) (P:List (Nat × Nat)) (D:List (Option (List Bool))):Prop where
 pr:PRow W0.heap.size wr v P
 dn:Dn W0.heap.size wr db nl nm D
 qs:∀ p∈P,Q p.1 p.2
 cnt:P.length+unD nm D=nl * nm
 kept:Same0 W0 wr
theorem AlS.same {W0 wr w' : World} {v:Value} {db nl nm:Nat} {Q:Nat→Nat→Prop} {P:List (Nat × Nat)} {D:List (Option (List Bool))} (h:AlS W0 wr v db nl nm Q P D) (hk:Same0 wr w'):AlS W0 w' v db nl nm Q P D:=⟨h.pr.same hk,h.dn.same hk,h.qs,h.cnt,h.kept.trans' hk⟩
theorem AlS.push {W0 wr w9:World} {v v' : Value} {db nl nm:Nat} {Q:Nat→Nat→Prop} {P:List (Nat × Nat)} {D:List (Option (List Bool))} (h:AlS W0 wr v db nl nm Q P D) {c d b:Nat} {s:List Bool} (hc:D[c]? = some (some s)) (hd:s[d]? = some false) (hq:Q c d) (hb:W0.heap.size≤b) (hnb:¬ NotB wr b) (hdn:Dn W0.heap.size (wr.setCell ⟨b,d,none⟩ (.bool true)) db nl nm (D.set c (some (s.set d true)))) :
  PRow W0.heap.size (wr.setCell ⟨b,d,none⟩ (.bool true)) v P∧(PRow W0.heap.size w9 v' (P ++ [(c,d)])→Kept (fun k=>v.ownBlock=some k) (wr.setCell ⟨b,d,none⟩ (.bool true)) w9→AlS W0 w9 v' db nl nm Q (P ++ [(c,d)]) (D.set c (some (s.set d true)))):=by
 have K:Kept (fun k=>k=b) wr (wr.setCell ⟨b,d,none⟩ (.bool true)):=Kept.setCell (S:=fun k=>k=b) (Kept.refl _ _) (p:=⟨b,d,none⟩) (fun _=>rfl) _
 have hp:PRow W0.heap.size (wr.setCell ⟨b,d,none⟩ (.bool true)) v P:=h.pr.keptB K (fun k e=>by subst e;exact hnb)
 refine ⟨hp,fun h9 k9=>⟨h9,hdn.kept k9 (fun k e=>(hp.block e).2.2),fun p hpm=>?_,?_,?_⟩⟩
 ·rcases List.mem_append.1 hpm with e | e
  ·exact h.qs p e
  ·simp only [List.mem_singleton] at e;subst e;exact hq
 ·have:=unD_mark (nm:=nm) hc hd
  have:=h.cnt
  simp only [List.length_append,List.length_singleton]
  omega
 ·exact (h.kept.trans K (fun i hi e=>by omega)).trans k9 (fun i hi e=>by have:=(hp.block e).1;omega)
set_option maxHeartbeats 8000000 in
theorem alike_yes {w:World} {lo mo:Option Addr} {lc mc:Nat} {l m:List Nd} (hl:NsW w lo l) (hm:NsW w mo m) (wl:Wf l) (wm:Wf m) (ll:l.length≤4000) (lm:m.length≤4000) {Q:Nat→Nat→Prop} (hQ:Bis l m Q) {a b:Nat} (ha:a<l.length) (hb:b<m.length) (hab:∀ c d,Res l a c→Res m b d→Q c d) :
  Calls Try.prog 25 #[.slice lo l.length lc,.int .i64 (a:Int),.slice mo m.length mc,.int .i64 (b:Int)] w fun e w' => e=.returned (.bool true)∧Same0 w w' := by
 have hnilB:=eqnilB
 obtain ⟨ip,hip,hp0,hp1,hp2⟩:=info_parts info_bools
 obtain ⟨iq,hiq,hq0,hq1,hq2⟩:=info_parts info_boolT
 obtain ⟨nl,hnl⟩:∃ nl,nl=l.length:=⟨_,rfl⟩
 obtain ⟨nm,hnm⟩:∃ nm,nm=m.length:=⟨_,rfl⟩
 have HLN:Hid (nl=l.length∧nm=m.length∧nl≤4000∧nm≤4000∧nl * nm≤16000000):=⟨hnl,hnm,by omega,by omega,by rw [hnl,hnm];exact Nat.mul_le_mul ll lm⟩
 obtain ⟨W0,hW0⟩:∃ W0,W0=(w.alloc (.cells #[.int .i64 0,.slice lo l.length lc] 70)).alloc (.cells #[.int .i64 0,.slice mo m.length mc] 70):=⟨_,rfl⟩
 have k0:Same0 w W0:=by rw [hW0];exact ((Kept.refl _ w).alloc _).alloc _
 have bx:W0.heap[w.heap.size]? = some (.cells #[.int .i64 0,.slice lo l.length lc] 70 (0,0)):=by rw [hW0];exact (Below.heap_alloc _ _ _ (by simp)).trans (heap_alloc_new w _)
 have bY:W0.heap[w.heap.size+1]? = some (.cells #[.int .i64 0,.slice mo m.length mc] 70 (0,0)):=by
  rw [hW0]
  have:=heap_alloc_new (w.alloc (.cells #[.int .i64 0,.slice lo l.length lc] 70)) (.cells #[.int .i64 0,.slice mo m.length mc] 70)
  simpa using this
 have HL:Hid (∀ ww,Same0 W0 ww→NsW ww lo l∧NsW ww mo m∧ww.cell? ⟨w.heap.size,1,none⟩=some (.slice lo l.length lc)∧ww.cell? ⟨w.heap.size+1,1,none⟩=some (.slice mo m.length mc)):=fun ww hk=>⟨hl.same (k0.trans' hk),hm.same (k0.trans' hk),cellAt (hk.at0 bx) 1,cellAt (hk.at0 bY) 1⟩
 -- Resolve,in both
 have HRX:Hid (∀ ww,Same0 W0 ww→∀ z,z<l.length→Calls Try.prog 33 #[.pointer (some ⟨w.heap.size,0,none⟩),.int .i64 (z:Int)] ww fun e w' => ∃ b:Nat,e=.returned (.tuple #[.int .i64 (b:Int),.int .i64 0])∧Res l z b∧w' = ww):=fun ww hk z hz=>by
  obtain ⟨h1,_,h3,_⟩:=(show _ from HL.out ww hk)
  exact rres_yes h3 h1 (by unfold maxLen;omega) (inl_of_may wl.1) wl.2 z hz
 have HRY:Hid (∀ ww,Same0 W0 ww→∀ z,z<m.length→Calls Try.prog 33 #[.pointer (some ⟨w.heap.size+1,0,none⟩),.int .i64 (z:Int)] ww fun e w' => ∃ b:Nat,e=.returned (.tuple #[.int .i64 (b:Int),.int .i64 0])∧Res m z b∧w' = ww):=fun ww hk z hz=>by
  obtain ⟨_,h2,_,h4⟩:=(show _ from HL.out ww hk)
  exact rres_yes h4 h2 (by unfold maxLen;omega) (inl_of_may wm.1) wm.2 z hz
 have HWF:Hid (Wf l∧Wf m∧Bis l m Q):=⟨wl,wm,hQ⟩
 have HAB:Hid (∀ c d,Res l a c→Res m b d→Q c d):=hab
 have C1:Calls Try.prog 56 #[.pointer (some ⟨w.heap.size,0,none⟩),.int .i64 (a:Int)] W0 fun e w' => e=.returned (.bool true)∧w' = W0:=by
  have:=rhas_any (cellAt bx 1) (show l.length≤maxLen by unfold maxLen;omega) (a:Int)
  rw [hasB_yes (by omega)] at this
  exact this
 have C2:Calls Try.prog 56 #[.pointer (some ⟨w.heap.size+1,0,none⟩),.int .i64 (b:Int)] W0 fun e w' => e=.returned (.bool true)∧w' = W0:=by
  have:=rhas_any (cellAt bY 1) (show m.length≤maxLen by unfold maxLen;omega) (b:Int)
  rw [hasB_yes (by omega)] at this
  exact this
 have C3:=HRX.out W0 (Kept.refl _ _) a ha
 have C4:=HRY.out W0 (Kept.refl _ _) b hb
 have n4:(nl:Int)≤4000:=by omega
 have m4:(nm:Int)≤4000:=by omega
 have n0:(0:Int)≤(nl:Int):=by omega
 have m0:(0:Int)≤(nm:Int):=by omega
 have HK0:Hid (Same0 w W0∧w.heap.size+1<W0.heap.size):=⟨k0,lt_of_at bY⟩
 rw [← hnl,← hnm] at hW0
 rw [← hnl,← hnm]
 clear hl hm wl wm ll lm hQ ha hb hab k0 bx bY hnl hnm
 go_enter Try.func25,Try.ntmps25
 go_upto_region 3 with fail
 rw [← hW0]
 clear hW0
 have CH:∀ (y:Nat) (z:Int),((y=w.heap.size∧z=(a:Int))∨(y=w.heap.size+1∧z=(b:Int)))→Calls Try.prog 56 #[.pointer (some ⟨y,0,none⟩),.int .i64 z] W0 fun e w' => e=.returned (.bool true)∧w' = W0:=fun y z h=>by
  rcases h with ⟨rfl,rfl⟩ | ⟨rfl,rfl⟩
  ·exact C1
  ·exact C2
 clear C1 C2
 go_upto_region 6 with (first | (go_at_call 56;refine (CH _ _ (by first | exact .inl ⟨rfl,rfl⟩ | exact .inr ⟨rfl,rfl⟩)).mono ?_;rintro e w' ⟨rfl,hw'⟩;have hw' := hw'.symm;subst hw'))
 clear CH
 go_upto_region 7 with (first | (go_at_call 33;refine C3.mono ?_;rintro e w' ⟨c0,rfl,hc0,hw'⟩;have hw' := hw'.symm;subst hw'))
 clear C3
 go_upto_region 8 with (first | (go_at_call 33;refine C4.mono ?_;rintro e w' ⟨d0,rfl,hd0,hw'⟩;have hw' := hw'.symm;subst hw'))
 clear C4
 have HQ0:Hid (Q c0 d0∧c0<l.length∧d0<m.length):=⟨HAB.out _ _ hc0 hd0,hc0.2.1,hd0.2.1⟩
 have kA:Same0 W0 (W0.alloc (.cells #[.int .i64 (c0:Int),.int .i64 (d0:Int)] 90)):=(Kept.refl _ _).alloc _
 have hqA:=heap_alloc_new W0 (.cells #[.int .i64 (c0:Int),.int .i64 (d0:Int)] 90)
 have hc0n:c0<nl:=by rw [HLN.out.1];exact HQ0.out.2.1
 have hd0n:d0<nm:=by rw [HLN.out.2.1];exact HQ0.out.2.2
 clear hc0 hd0
 go_upto_region 9 with (first | (at_builtin;refine wpList_pr rfl _ _ rfl W0.heap.size [] (.slice none 0 0) rfl kA (PRow.nil _ _) (c0,d0) W0.heap.size rfl hqA (Nat.le_refl _) (by simp) ?_;intro g1 cp1 w1 hr1 k1))
 rw [List.nil_append] at hr1
 have K1:Same0 W0 w1:=k1.trans (Kept.refl _ _) (fun _ _ f=>f) |> fun q=>Kept.mono q (fun _ _ e=>by cases e)
 have hz1:=K1.size
 clear kA hqA k1
 go_upto_region 10 with (first | (at_make;refine wpList_make_full _ rfl _ _ 91 rfl _ 92 ip _ 1 Try.underlying91 hip hp0 hp1 _ _ _ _ nl rfl rfl rfl rfl (by rw [hp2];omega) (by unfold maxLen;omega) (Nat.le_refl _) ?_;intro w2 hown hgrow))
 have k2:Same0 w1 w2:=Same0.grown (Kept.refl _ w1) hgrow
 obtain ⟨db,hdb⟩:∃ db,db=w1.heap.size:=⟨_,rfl⟩
 rw [← hdb] at hown ⊢
 have HD0:Hid (Dn W0.heap.size w2 db nl nm (List.replicate nl none)∧PRow W0.heap.size w2 (.slice (some ⟨g1,0,none⟩) 1 cp1) [(c0,d0)]∧Same0 W0 w2):=by
  have e:=full_block hown
  rw [Nat.mul_one,show (Value.slice none 0 0).cells = #[Value.slice none 0 0] from rfl,toList_madeCells_one] at e
  refine ⟨⟨⟨List.replicate nl (.slice none 0 0),fun _=>0,e,by simp,fun c hc=>?_,fun c s hc=>?_,fun c c' s s' hc=>?_⟩,by simp,by omega⟩,hr1.same k2,K1.trans' k2⟩
  ·rw [List.getElem?_replicate] at hc ⊢
   split at hc
   ·rename_i q;rw [if_pos q]
   ·cases hc
  ·rw [List.getElem?_replicate] at hc
   split at hc <;> cases hc
  ·rw [List.getElem?_replicate] at hc
   split at hc <;> cases hc
 have hDc:(List.replicate nl (none:Option (List Bool)))[c0]? = some none:=by rw [List.getElem?_replicate,if_pos hc0n]
 obtain ⟨e1,f1,hdbl⟩:=HD0.out.1.bare hDc
 have j1:(0:Int)≤(c0:Int):=by omega
 have j2:(c0:Int)<(nl:Int):=by omega
 have j3:(0:Int)≤(d0:Int):=by omega
 have j4:(d0:Int)<(nm:Int):=by omega
 have HD1:Hid (∀ w3 nb,Same0 w2 w3→w2.heap.size≤nb→w3.ownsRow nb 4 1 (.slice (some ⟨nb,0,none⟩) nm nm) nm (bv (List.replicate nm false))→w3.cell? ⟨db,c0,none⟩=some (.slice none 0 0)∧w3.frozen? ⟨db,c0,none⟩=false∧Dn W0.heap.size (w3.setCell ⟨db,c0,none⟩ (.slice (some ⟨nb,0,none⟩) nm nm)) db nl nm ((List.replicate nl none).set c0 (some (List.replicate nm false)))):=fun w3 nb k3 hnb ho=>by
  refine ⟨(k3.cell (p:=⟨db,c0,none⟩) hdbl (fun f=>f)).trans e1,?_,HD0.out.1.fresh hDc k3 hnb (by have:=HD0.out.2.2.size;omega) (full_block ho)⟩
  exact ((HD0.out.1.same k3).bare hDc).2.1
 clear hown hgrow hdb K1 k2 hr1 e1 f1 hz1
 go_upto_region 11 with (first | (at_make;refine wpList_make_full _ rfl _ _ 92 rfl _ 4 iq _ 1 Try.underlying92 hiq hq0 hq1 _ _ _ _ nm rfl rfl rfl rfl (by rw [hq2];omega) (by unfold maxLen;omega) (Nat.le_refl _) ?_;intro w3 hown3 hgrow3;rw [made_bools] at hown3;have k3:Same0 w2 w3:=Same0.grown (Kept.refl _ w2) hgrow3;obtain ⟨e3,f3,hdn3⟩:=HD1.out w3 w2.heap.size k3 (Nat.le_refl _) hown3))
 obtain ⟨W3,hW3⟩:∃ W3,W3=w3.setCell ⟨db,c0,none⟩ (.slice (some ⟨w2.heap.size,0,none⟩) nm nm):=⟨_,rfl⟩
 rw [← hW3] at hdn3 ⊢
 have hdblo:W0.heap.size≤db:=HD0.out.1.lo
 have K3:Same0 W0 W3:=by rw [hW3];exact (HD0.out.2.2.trans' k3).trans (Kept.setCell (S:=fun k=>k=db) (Kept.refl _ _) (p:=⟨db,c0,none⟩) (fun _=>rfl) _) (fun i hi e=>by omega)
 have hp3:PRow W0.heap.size W3 (.slice (some ⟨g1,0,none⟩) 1 cp1) [(c0,d0)]:=by
  rw [hW3]
  refine (HD0.out.2.1.same k3).keptB (S:=fun k=>k=db) (Kept.setCell (S:=fun k=>k=db) (Kept.refl _ _) (p:=⟨db,c0,none⟩) (fun _=>rfl) _) (fun k e q=>?_)
  obtain ⟨vs,f,h1,_⟩:=(HD0.out.1.same k3).ex
  subst e
  exact q.2 _ h1
 have hDc3:((List.replicate nl (none:Option (List Bool))).set c0 (some (List.replicate nm false)))[c0]? = some (some (List.replicate nm false)):=List.getElem?_set_self (by simpa using hc0n)
 obtain ⟨b3,cd1,cf1, -,cd2,cf2,hb3,hnb3,hdn4⟩:=hdn3.has hDc3 hd0n
 have hdf:(List.replicate nm false).getD d0 false=false:=by rw [List.getD_eq_getElem?_getD,List.getElem?_replicate,if_pos hd0n];rfl
 rw [hdf] at cd2
 have HS4:Hid (AlS W0 (W3.setCell ⟨b3,d0,none⟩ (.bool true)) (.slice (some ⟨g1,0,none⟩) 1 cp1) db nl nm Q [(c0,d0)] (((List.replicate nl none).set c0 (some (List.replicate nm false))).set c0 (some ((List.replicate nm false).set d0 true)))):=by
  have K:Kept (fun k=>k=b3) W3 (W3.setCell ⟨b3,d0,none⟩ (.bool true)):=Kept.setCell (S:=fun k=>k=b3) (Kept.refl _ _) (p:=⟨b3,d0,none⟩) (fun _=>rfl) _
  refine ⟨hp3.keptB K (fun k e=>by subst e;exact hnb3),hdn4,fun p hp=>?_,?_,K3.trans K (fun i hi e=>by omega)⟩
  ·simp only [List.mem_singleton] at hp;subst hp;exact HQ0.out.1
  ·have h1:=unD_mark (nm:=nm) hDc3 (d:=d0) (by simp [hd0n])
   have h2:=unD_fresh (nm:=nm) (D:=List.replicate nl none) (c:=c0) (by rw [List.getElem?_replicate,if_pos hc0n])
   have h3:=unD_start nl nm
   simp only [List.length_singleton]
   omega
 generalize ((List.replicate nl (none:Option (List Bool))).set c0 (some (List.replicate nm false))).set c0 (some ((List.replicate nm false).set d0 true))=D4 at HS4
 clear hW3 hown3 hgrow3 e3 f3 hdn3 hdn4 hp3 K3 HD0 HD1 hDc hDc3 k3 hdf hnb3 HQ0 HAB
 go_upto_region 13 with fail
 go_loopg [11,13] (2 * unD nm D4+1) (fun gm v11 v13 wr=>∃ (i:Nat) (P:List (Nat × Nat)) (D:List (Option (List Bool))),v13=.int .i64 (i:Int)∧i≤P.length∧Hid (AlS W0 wr v11 db nl nm Q P D)∧2 * unD nm D+P.length=gm+i)
 case atStart=>exact ⟨0,_,D4,rfl,by simp,HS4,by simp⟩
 case round=>
  clear HS4
  obtain ⟨i,P,D,rfl,hiP,HA,hgm⟩:=hrel
  have hPl:P.length≤16000000:=by have:=HA.out.cnt;have:=HLN.out;omega
  obtain ⟨so,sc,e⟩:=row_shape HA.out.pr
  subst e
  obtain ⟨np,hnp⟩:∃ np,np=P.length:=⟨_,rfl⟩
  have HNP:Hid (np=P.length∧P.length≤16000000):=⟨hnp,hPl⟩
  have np0:(np:Int)≤16000000:=by omega
  rw [← hnp] at HA hgm hiP ⊢
  clear hnp hPl
  by_cases hlt:i<np
  ·have hiP' : i<P.length:=by rw [← HNP.out.1];exact hlt
   obtain ⟨gs,e, -,hgs,s0,s1⟩:=HA.out.pr.at hiP'
   subst e
   have hq:=HA.out.qs _ (List.getElem_mem hiP')
   generalize hpd:P[i]=pd at *
   obtain ⟨c,d⟩:=pd
   simp only at hq s0 s1
   obtain ⟨hac,had⟩:=HWF.out.2.2.app c d hq
   have hcl:c<l.length:=hac.1
   have hdl:d<m.length:=had.1
   have hl1:=HL.out W0 (Kept.refl _ _)
   have KA:=HA.out.kept
   rcases hl1.1 with e | ⟨lb,lf,e,hlb,hcn⟩
   ·rw [e] at hcl;simp at hcl
   subst e
   rcases hl1.2.1 with e | ⟨mb,mf,e,hmb,hcm⟩
   ·rw [e] at hdl;simp at hdl
   subst e
   obtain ⟨xo,xc,x0,x1,x2,x3,x4,x5⟩:=hcn c hcl
   obtain ⟨yo,yc,y0,y1,y2,y3,y4,y5⟩:=hcm d hdl
   have hsy:=HWF.out.2.2.sym c d hcl hdl hq
   have HARG:Hid (∀ (k:Nat) (z y:Int),l[c].2.1[k]? = some z→m[d].2.1[k]? = some y→(0≤z∧z<(l.length:Int))∧(0≤y∧y<(m.length:Int))∧∀ c' d', Res l z.toNat c' → Res m y.toNat d' → Q c' d' ∧ c' < nl∧d' < nm):=fun k z y hz hy=>⟨args_rng HWF.out.1 hcl (List.mem_of_getElem? hz),args_rng HWF.out.2.1 hdl (List.mem_of_getElem? hy),fun c' d' h1 h2=>⟨HWF.out.2.2.arg c d hcl hdl hq k z y hz hy c' d' h1 h2,by rw [HLN.out.1];exact h1.2.1,by rw [HLN.out.2.1];exact h2.2.1⟩⟩
   have hfew:(l[c]).2.1.length≤6:=(may_facts (HWF.out.1.1 _ (List.getElem_mem hcl))).2.1
   have cn:(c:Int)<(nl:Int):=by have:=HLN.out.1;omega
   have dn' : (d:Int)<(nm:Int):=by have:=HLN.out.2.1;omega
   have c00:(0:Int)≤(c:Int):=by omega
   have d00:(0:Int)≤(d:Int):=by omega
   have q5:(0:Int)≤(i:Int):=by omega
   have q6:(i:Int)<(np:Int):=by omega
   rw [← hsy.1] at y0
   rw [← hsy.2] at y1
   have HAX:Hid (∀ ww,Same0 W0 ww→Arg ww xo l[c].2.1 xc∧Arg ww yo m[d].2.1 yc):=fun ww hk=>⟨x5.onto hk,y5.onto hk⟩
   have HVL:Hid (m[d].2.1.length=l[c].2.1.length):=hsy.2.symm
   have x0' := (KA.cell (p:=⟨lb,_,none⟩) hlb (fun f=>f)).trans x0
   have x1' := (KA.cell (p:=⟨lb,_,none⟩) hlb (fun f=>f)).trans x1
   have x2' := (KA.cell (p:=⟨lb,_,none⟩) hlb (fun f=>f)).trans x2
   have x3' := (KA.cell (p:=⟨lb,_,none⟩) hlb (fun f=>f)).trans x3
   have x4' := (KA.cell (p:=⟨lb,_,none⟩) hlb (fun f=>f)).trans x4
   generalize l[c]=X at *
   generalize m[d]=Y at *
   obtain ⟨u0,ua,u2,u3,u4⟩:=X
   obtain ⟨v0,va,v2,v3,v4⟩:=Y
   have kB:Same0 wr (wr.alloc (.cells #[.int .i64 u0,.slice xo ua.length xc,.int .i64 u2,.bool u3,.int .i64 u4] 47)):=(Kept.refl _ _).alloc _
   have hmb2:mb<wr.heap.size:=Nat.lt_of_lt_of_le hmb KA.size
   have y0' := (kB.cell (p:=⟨mb,mf+d * 5,none⟩) hmb2 (fun f=>f)).trans ((KA.cell (p:=⟨mb,mf+d * 5,none⟩) hmb (fun f=>f)).trans y0)
   have y1' := (kB.cell (p:=⟨mb,mf+d * 5+1,none⟩) hmb2 (fun f=>f)).trans ((KA.cell (p:=⟨mb,mf+d * 5+1,none⟩) hmb (fun f=>f)).trans y1)
   have y2' := (kB.cell (p:=⟨mb,mf+d * 5+2,none⟩) hmb2 (fun f=>f)).trans ((KA.cell (p:=⟨mb,mf+d * 5+2,none⟩) hmb (fun f=>f)).trans y2)
   have y3' := (kB.cell (p:=⟨mb,mf+d * 5+3,none⟩) hmb2 (fun f=>f)).trans ((KA.cell (p:=⟨mb,mf+d * 5+3,none⟩) hmb (fun f=>f)).trans y3)
   have y4' := (kB.cell (p:=⟨mb,mf+d * 5+4,none⟩) hmb2 (fun f=>f)).trans ((KA.cell (p:=⟨mb,mf+d * 5+4,none⟩) hmb (fun f=>f)).trans y4)
   have s1' := (kB.cell (p:=⟨gs,i * 2+1,none⟩) hgs (fun f=>f)).trans s1
   obtain ⟨W1,hW1⟩:∃ W1,W1=wr.alloc (.cells #[.int .i64 u0,.slice xo ua.length xc,.int .i64 u2,.bool u3,.int .i64 u4] 47):=⟨_,rfl⟩
   have hb1:W1.heap[wr.heap.size]? = some (.cells #[.int .i64 u0,.slice xo ua.length xc,.int .i64 u2,.bool u3,.int .i64 u4] 47 (0,0)):=by rw [hW1];exact heap_alloc_new wr _
   rw [← hW1] at kB y0' y1' y2' y3' y4' s1'
   obtain ⟨pb,hpb⟩:∃ pb,pb=wr.heap.size:=⟨_,rfl⟩
   clear x0 x1 x2 x3 x4 x5 y0 y1 y2 y3 y4 y5 hcn hcm hsy hac had hq hpd
   go_upto_region 16 with fail
   rw [← hW1,← hpb]
   rw [← hpb] at hb1
   clear hW1 hpb x0' x1' x2' x3' x4'
   obtain ⟨b0,b1, -, -, -⟩:=box5 hb1
   have kC:Same0 W1 (W1.alloc (.cells #[.int .i64 u0,.slice yo ua.length yc,.int .i64 v2,.bool v3,.int .i64 v4] 47)):=(Kept.refl _ _).alloc _
   have hb2:=kC.at0 hb1
   have hb3' := heap_alloc_new W1 (.cells #[.int .i64 u0,.slice yo ua.length yc,.int .i64 v2,.bool v3,.int .i64 v4] 47)
   obtain ⟨W2,hW2⟩:∃ W2,W2=W1.alloc (.cells #[.int .i64 u0,.slice yo ua.length yc,.int .i64 v2,.bool v3,.int .i64 v4] 47):=⟨_,rfl⟩
   obtain ⟨qb,hqb⟩:∃ qb,qb=W1.heap.size:=⟨_,rfl⟩
   rw [← hW2] at kC hb2 hb3'
   clear b0 b1 hb1
   go_upto_region 17 with fail
   rw [← hW2,← hqb]
   rw [← hqb] at hb3'
   clear hW2 hqb y0' y1' y2' y3' y4' s1'
   obtain ⟨p0,p1, -, -, -⟩:=box5 hb2
   obtain ⟨r0,r1, -, -, -⟩:=box5 hb3'
   have HS2:Hid (AlS W0 W2 (.slice (some ⟨gs,0,none⟩) np sc) db nl nm Q P D∧W2.heap[pb]? = some (.cells #[.int .i64 u0,.slice xo ua.length xc,.int .i64 u2,.bool u3,.int .i64 u4] 47 (0,0))∧W2.heap[qb]? = some (.cells #[.int .i64 u0,.slice yo ua.length yc,.int .i64 v2,.bool v3,.int .i64 v4] 47 (0,0))):=⟨(HA.out.same kB).same kC,hb2,hb3'⟩
   have na6:(ua.length:Int)≤6:=by have:ua.length≤6:=hfew;omega
   obtain ⟨M,hM⟩:∃ M,M=2 * unD nm D+np:=⟨_,rfl⟩
   have HMM:Hid (2 * unD nm D+P.length≤M∧M=gk+i∧np=P.length):=⟨by rw [hM,HNP.out.1];exact Nat.le_refl _,by omega,HNP.out.1⟩
   have hbs:((ua.length:Int) != (ua.length:Int))=false:=by simp
   have hu0:(u0 != u0)=false:=by simp
   clear HA hb2 hb3' kB kC hM hgm hfew
   go_upto_region 20 with fail
   clear p0 p1 r0 r1
   obtain ⟨go,rfl⟩:∃ go,go=gk:=⟨_,rfl⟩
   go_loopw [11,16] (fun v11 v16 wx=>∃ (k:Nat) (P' : List (Nat × Nat)) (D' : List (Option (List Bool))),v16=.int .i64 (k:Int)∧k≤ua.length∧Hid ((AlS W0 wx v11 db nl nm Q P' D' ∧ wx.heap[pb]? = some (.cells #[.int .i64 u0,.slice xo ua.length xc,.int .i64 u2,.bool u3,.int .i64 u4] 47 (0,0))∧wx.heap[qb]? = some (.cells #[.int .i64 u0,.slice yo ua.length yc,.int .i64 v2,.bool v3,.int .i64 v4] 47 (0,0)))∧2 * unD nm D' + P'.length≤M∧np≤P'.length)) (fun _ v16 _=>ua.length-(intOf v16).toNat)
   case atStart=>exact ⟨0,P,D,rfl,Nat.zero_le _,HS2.out,HMM.out.1,by rw [HMM.out.2.2];exact Nat.le_refl _⟩
   case round=>
    clear HS2
    obtain ⟨k,P', D', rfl,hkn,HI⟩:=hrel
    obtain ⟨-,p1, -, -, -⟩:=box5 HI.out.1.2.1
    obtain ⟨-,r1, -, -, -⟩:=box5 HI.out.1.2.2
    obtain ⟨so,sc', e⟩:=row_shape HI.out.1.1.pr
    subst e
    have t5:(0:Int)≤(k:Int):=by omega
    by_cases hkl:k<ua.length
    ·have hva:k<va.length:=by have:va.length=ua.length:=HVL.out;omega
     obtain ⟨zr,yr,hQz⟩:=HARG.out k ua[k] va[k] (List.getElem?_eq_getElem hkl) (List.getElem?_eq_getElem hva)
     obtain ⟨z,hz⟩:∃ z:Nat,ua[k]=(z:Int):=⟨ua[k].toNat,by omega⟩
     obtain ⟨y,hy⟩:∃ y:Nat,va[k]=(y:Int):=⟨va[k].toNat,by omega⟩
     have hax:=HAX.out wr HI.out.1.1.kept
     obtain ⟨xb,xf,ex, -,cx⟩:=hax.1.at'.get hkl
     obtain ⟨yb,yf,ey, -,cy⟩:=hax.2.at'.get hva
     subst ex ey
     simp only [hz] at cx
     simp only [hy] at cy
     rw [hz,hy,Int.toNat_natCast,Int.toNat_natCast] at hQz
     rw [hz] at zr
     rw [hy] at yr
     have CRX:=HRX.out wr HI.out.1.1.kept z (by omega)
     have CRY:=HRY.out wr HI.out.1.1.kept y (by omega)
     have HQZ:Hid (∀ c' d', Res l z c' → Res m y d' → Q c' d' ∧ c' < nl∧d' < nm):=hQz
     have t6:(k:Int)<(ua.length:Int):=by omega
     have HCN:Hid (2 * unD nm D' + P'.length≤M∧np≤P'.length):=HI.out.2
     have HVL2:Hid ((ua.length:Int)=(va.length:Int)):=by have:va.length=ua.length:=HVL.out;show _=_;omega
     clear hax hQz zr yr hz hy hva
     go_upto_region 23 with (first | (go_at_call 33;refine CRX.mono ?_;rintro e w' ⟨c', rfl,hc', hw'⟩;have hw' := hw'.symm;subst hw'))
     clear CRX
     go_upto_region 24 with (first | (go_at_call 33;refine CRY.mono ?_;rintro e w' ⟨d', rfl,hd', hw'⟩;have hw' := hw'.symm;subst hw'))
     clear CRY
     obtain ⟨hQ', hc'n,hd'n⟩:=HQZ.out c' d' hc' hd'
     have r5:(0:Int)≤(c' : Int):=by omega
     have r6:(c' : Int)<(nl:Int):=by omega
     have r7:(0:Int)≤(d' : Int):=by omega
     have r8:(d' : Int)<(nm:Int):=by omega
     have hcD:c' < D'.length:=by rw [HI.out.1.1.dn.len];exact hc'n
     clear hc' hd' HQZ p1 r1 cx cy
     cases hDo:D'[c'] with
     | none=>
      have hDc:D'[c']? = some none:=by rw [List.getElem?_eq_getElem hcD,hDo]
      obtain ⟨e1,f1,hdbl⟩:=HI.out.1.1.dn.bare hDc
      have HD1:Hid (∀ w5,Same0 wr w5→w5.ownsRow wr.heap.size 4 1 (.slice (some ⟨wr.heap.size,0,none⟩) nm nm) nm (bv (List.replicate nm false))→w5.cell? ⟨db,c', none⟩=some (.slice none 0 0)∧w5.frozen? ⟨db,c', none⟩=false∧(AlS W0 (w5.setCell ⟨db,c', none⟩ (.slice (some ⟨wr.heap.size,0,none⟩) nm nm)) (.slice so P'.length sc') db nl nm Q P' (D'.set c' (some (List.replicate nm false)))∧(w5.setCell ⟨db,c', none⟩ (.slice (some ⟨wr.heap.size,0,none⟩) nm nm)).heap[pb]? = some (.cells #[.int .i64 u0,.slice (some ⟨xb,xf,none⟩) ua.length xc,.int .i64 u2,.bool u3,.int .i64 u4] 47 (0,0))∧(w5.setCell ⟨db,c', none⟩ (.slice (some ⟨wr.heap.size,0,none⟩) nm nm)).heap[qb]? = some (.cells #[.int .i64 u0,.slice (some ⟨yb,yf,none⟩) ua.length yc,.int .i64 v2,.bool v3,.int .i64 v4] 47 (0,0)))):=fun w5 k5 ho=>by
       have K5:Kept (fun k=>k=db) w5 (w5.setCell ⟨db,c', none⟩ (.slice (some ⟨wr.heap.size,0,none⟩) nm nm)):=Kept.setCell (S:=fun k=>k=db) (Kept.refl _ _) (p:=⟨db,c', none⟩) (fun _=>rfl) _
       have hlo:=HI.out.1.1.dn.lo
       have nB:¬ NotB w5 db:=fun q=>by
        obtain ⟨vs,f,h1,_⟩:=(HI.out.1.1.dn.same k5).ex
        exact q.2 _ h1
       have hsz5:=HI.out.1.1.kept.size
       refine ⟨(k5.cell (p:=⟨db,c', none⟩) hdbl (fun f=>f)).trans e1,((HI.out.1.1.dn.same k5).bare hDc).2.1,⟨(HI.out.1.1.pr.same k5).keptB K5 (fun k e=>by subst e;exact nB),HI.out.1.1.dn.fresh hDc k5 (Nat.le_refl _) hsz5 (full_block ho),HI.out.1.1.qs,by rw [unD_fresh hDc];exact HI.out.1.1.cnt,(HI.out.1.1.kept.trans' k5).trans K5 (fun i hi e=>by omega)⟩,?_,?_⟩
       ·exact K5.at (k5.at0 HI.out.1.2.1) (fun e=>nB (by rw [← e];exact node_notB (k5.at0 HI.out.1.2.1)))
       ·exact K5.at (k5.at0 HI.out.1.2.2) (fun e=>nB (by rw [← e];exact node_notB (k5.at0 HI.out.1.2.2)))
      go_upto_region 26 with (first | (at_make;refine wpList_make_full _ rfl _ _ 92 rfl _ 4 iq _ 1 Try.underlying92 hiq hq0 hq1 _ _ _ _ nm rfl rfl rfl rfl (by rw [hq2];omega) (by unfold maxLen;omega) (Nat.le_refl _) ?_;intro w5 hown5 hgrow5;rw [made_bools] at hown5;have k5:Same0 wr w5:=Same0.grown (Kept.refl _ wr) hgrow5;obtain ⟨e3,f3,hst⟩:=HD1.out w5 k5 hown5;have HST:=(show Hid _ from hst);clear hst))
      obtain ⟨W6,hW6⟩:∃ W6,W6=w5.setCell ⟨db,c', none⟩ (.slice (some ⟨wr.heap.size,0,none⟩) nm nm):=⟨_,rfl⟩
      rw [← hW6] at HST ⊢
      have hDs:(D'.set c' (some (List.replicate nm false)))[c']? = some (some (List.replicate nm false)):=List.getElem?_set_self hcD
      have hsd:(List.replicate nm false)[d']? = some false:=by simp [hd'n]
      clear hW6 hown5 hgrow5 e1 f1 e3 f3 HD1 k5 HI hDo
      obtain ⟨bb,g1,g2, -,g3,g4,hbb,hnbb,hdnb⟩:=HST.out.1.dn.has hDs hd'n
      rw [show (List.replicate nm false).getD d' false=false by rw [List.getD_eq_getElem?_getD,hsd];rfl] at g3
      have PF:=fun (w9:World) (v' : Value)=>AlS.push (w9:=w9) (v' := v') HST.out.1 hDs hsd hQ' hbb hnbb hdnb
      have hpr7:=(PF W6 (.slice none 0 0)).1
      have hPl:P'.length≤16000000:=by have:=HST.out.1.cnt;have:=HLN.out;omega
      have hsz7:(P'.length+1) * 16≤140737488355328:=by omega
      have hb7:W0.heap.size≤(W6.setCell ⟨bb,d', none⟩ (.bool true)).heap.size:=Nat.le_trans HST.out.1.kept.size (by simp [World.setCell])
      obtain ⟨W7,hW7⟩:∃ W7,W7=W6.setCell ⟨bb,d', none⟩ (.bool true):=⟨_,rfl⟩
      have HPF:Hid (∀ g9 cp9 w9,PRow W0.heap.size w9 (.slice (some ⟨g9,0,none⟩) (P'.length+1) cp9) (P' ++ [(c', d')])→Kept (fun k=>(Value.slice so P'.length sc').ownBlock=some k) W7 w9→(AlS W0 w9 (.slice (some ⟨g9,0,none⟩) (P'.length+1) cp9) db nl nm Q (P' ++ [(c', d')]) ((D'.set c' (some (List.replicate nm false))).set c' (some ((List.replicate nm false).set d' true)))∧w9.heap[pb]? = some (.cells #[.int .i64 u0,.slice (some ⟨xb,xf,none⟩) ua.length xc,.int .i64 u2,.bool u3,.int .i64 u4] 47 (0,0))∧w9.heap[qb]? = some (.cells #[.int .i64 u0,.slice (some ⟨yb,yf,none⟩) ua.length yc,.int .i64 v2,.bool v3,.int .i64 v4] 47 (0,0)))∧2 * unD nm ((D'.set c' (some (List.replicate nm false))).set c' (some ((List.replicate nm false).set d' true)))+(P' ++ [(c', d')]).length≤M∧np≤(P' ++ [(c', d')]).length):=fun g9 cp9 w9 h9 k9=>by
       rw [hW7] at k9
       have hu:=unD_mark (nm:=nm) hDs hsd
       have hun:unD nm (D'.set c' (some (List.replicate nm false)))=unD nm D' := unD_fresh hDc
       have hcn:=HCN.out
       refine ⟨⟨(PF w9 _).2 h9 k9,node_stays HST.out.2.1 hnbb hpr7 k9,node_stays HST.out.2.2 hnbb hpr7 k9⟩,?_,?_⟩
       ·simp only [List.length_append,List.length_singleton];omega
       ·simp only [List.length_append,List.length_singleton];omega
      rw [← hW7] at hpr7 hb7
      have kW7:Same0 W7 (W7.alloc (.cells #[.int .i64 (c' : Int),.int .i64 (d' : Int)] 90)):=(Kept.refl _ _).alloc _
      have hq7:=heap_alloc_new W7 (.cells #[.int .i64 (c' : Int),.int .i64 (d' : Int)] 90)
      clear PF hdnb hnbb
      go_upto_region 28 with fail
      rw [← hW7]
      clear hW7 g1 g2 g3 g4
      go_wp2_with (first | (at_builtin;refine wpList_pr rfl _ _ rfl W0.heap.size P' (.slice so P'.length sc') rfl kW7 hpr7 (c', d') W7.heap.size rfl hq7 hb7 hsz7 ?_;intro g9 cp9 w9 hr9 k9))
      have HN9:=(show Hid _ from HPF.out g9 cp9 w9 hr9 k9)
      go_roundw
      case rel=>first | exact ⟨k+1,_,_,by go_num,by omega,HN9⟩ | ((repeat apply Exists.intro);exact ⟨⟨k+1,_,_,by go_num,by omega,HN9⟩,rfl⟩)
      case measure=>simp [intOf];omega
     | some s=>
      have hDs:D'[c']? = some (some s):=by rw [List.getElem?_eq_getElem hcD,hDo]
      have HB:Hid (AlS W0 wr (.slice so P'.length sc') db nl nm Q P' D' ∧ wr.heap[pb]? = some (.cells #[.int .i64 u0,.slice (some ⟨xb,xf,none⟩) ua.length xc,.int .i64 u2,.bool u3,.int .i64 u4] 47 (0,0))∧wr.heap[qb]? = some (.cells #[.int .i64 u0,.slice (some ⟨yb,yf,none⟩) ua.length yc,.int .i64 v2,.bool v3,.int .i64 v4] 47 (0,0))):=HI.out.1
      obtain ⟨b8,a1,a2,hsl,a3,a4, -, -, -⟩:=HI.out.1.1.dn.has hDs hd'n
      have hds:d' < s.length:=by rw [hsl];exact hd'n
      cases hbo:s[d'] with
      | true=>
       rw [show s.getD d' false=true by rw [List.getD_eq_getElem?_getD,List.getElem?_eq_getElem hds,hbo];rfl] at a3
       clear hDo hbo hsl hDs HB
       go_wp2
       go_roundw
       case rel=>first | exact ⟨k+1,P', D', by go_num,by omega,HI⟩ | ((repeat apply Exists.intro);exact ⟨⟨k+1,P', D', by go_num,by omega,HI⟩,rfl⟩)
       case measure=>simp [intOf];omega
      | false=>
       have hsd:s[d']? = some false:=by rw [List.getElem?_eq_getElem hds,hbo]
       clear a1 a2 a3 a4 HI hDo hbo
       obtain ⟨bb,g1,g2, -,g3,g4,hbb,hnbb,hdnb⟩:=HB.out.1.dn.has hDs hd'n
       rw [show s.getD d' false=false by rw [List.getD_eq_getElem?_getD,hsd];rfl] at g3
       have PF:=fun (w9:World) (v' : Value)=>AlS.push (w9:=w9) (v' := v') HB.out.1 hDs hsd hQ' hbb hnbb hdnb
       have hpr7:=(PF wr (.slice none 0 0)).1
       have hPl:P'.length≤16000000:=by have:=HB.out.1.cnt;have:=HLN.out;omega
       have hsz7:(P'.length+1) * 16≤140737488355328:=by omega
       have hb7:W0.heap.size≤(wr.setCell ⟨bb,d', none⟩ (.bool true)).heap.size:=Nat.le_trans HB.out.1.kept.size (by simp [World.setCell])
       obtain ⟨W7,hW7⟩:∃ W7,W7=wr.setCell ⟨bb,d', none⟩ (.bool true):=⟨_,rfl⟩
       have HPF:Hid (∀ g9 cp9 w9,PRow W0.heap.size w9 (.slice (some ⟨g9,0,none⟩) (P'.length+1) cp9) (P' ++ [(c', d')])→Kept (fun k=>(Value.slice so P'.length sc').ownBlock=some k) W7 w9→(AlS W0 w9 (.slice (some ⟨g9,0,none⟩) (P'.length+1) cp9) db nl nm Q (P' ++ [(c', d')]) (D'.set c' (some (s.set d' true)))∧w9.heap[pb]? = some (.cells #[.int .i64 u0,.slice (some ⟨xb,xf,none⟩) ua.length xc,.int .i64 u2,.bool u3,.int .i64 u4] 47 (0,0))∧w9.heap[qb]? = some (.cells #[.int .i64 u0,.slice (some ⟨yb,yf,none⟩) ua.length yc,.int .i64 v2,.bool v3,.int .i64 v4] 47 (0,0)))∧2 * unD nm (D'.set c' (some (s.set d' true)))+(P' ++ [(c', d')]).length≤M∧np≤(P' ++ [(c', d')]).length):=fun g9 cp9 w9 h9 k9=>by
        rw [hW7] at k9
        have hu:=unD_mark (nm:=nm) hDs hsd
        have hun:unD nm D' = unD nm D' := rfl
        have hcn:=HCN.out
        refine ⟨⟨(PF w9 _).2 h9 k9,node_stays HB.out.2.1 hnbb hpr7 k9,node_stays HB.out.2.2 hnbb hpr7 k9⟩,?_,?_⟩
        ·simp only [List.length_append,List.length_singleton];omega
        ·simp only [List.length_append,List.length_singleton];omega
       rw [← hW7] at hpr7 hb7
       have kW7:Same0 W7 (W7.alloc (.cells #[.int .i64 (c' : Int),.int .i64 (d' : Int)] 90)):=(Kept.refl _ _).alloc _
       have hq7:=heap_alloc_new W7 (.cells #[.int .i64 (c' : Int),.int .i64 (d' : Int)] 90)
       clear PF hdnb hnbb
       go_upto_region 28 with fail
       rw [← hW7]
       clear hW7 g1 g2 g3 g4
       go_wp2_with (first | (at_builtin;refine wpList_pr rfl _ _ rfl W0.heap.size P' (.slice so P'.length sc') rfl kW7 hpr7 (c', d') W7.heap.size rfl hq7 hb7 hsz7 ?_;intro g9 cp9 w9 hr9 k9))
       have HN9:=(show Hid _ from HPF.out g9 cp9 w9 hr9 k9)
       go_roundw
       case rel=>first | exact ⟨k+1,_,_,by go_num,by omega,HN9⟩ | ((repeat apply Exists.intro);exact ⟨⟨k+1,_,_,by go_num,by omega,HN9⟩,rfl⟩)
       case measure=>simp [intOf];omega
    ·have e:k=ua.length:=by omega
     have HN2:Hid (AlS W0 wr (.slice so P'.length sc') db nl nm Q P' D'):=HI.out.1.1
     have hb9:¬ (k:Int)<(ua.length:Int):=by omega
     have hg9:2 * unD nm D' + P'.length=(2 * unD nm D' + P'.length-(i+1))+(i+1):=by have:=HI.out.2;omega
     have hg8:2 * unD nm D' + P'.length-(i+1)<go:=by have:=HI.out.2;have:=HMM.out;omega
     have hi9:i+1≤P'.length:=by have:=HI.out.2;omega
     clear HI e
     go_wp2
     go_roundg (2 * unD nm D' + P'.length-(i+1))
     case measure=>exact hg8
     case rel=>exact ⟨i+1,P', D', by go_num,hi9,HN2,hg9⟩
  ·have e:i=np:=by omega
   have KK:Hid (Same0 w wr):=HK0.out.1.trans' HA.out.kept
   have hb9:¬ (i:Int)<(np:Int):=by omega
   clear HA e
   go_wp2
   go_ret
   exact ⟨rfl,KK.out⟩
end Go.Proofs.Ytmloedlkoijfbaa
