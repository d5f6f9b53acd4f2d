import Derived.Test.YtcbonegkfppdiaaGT07
import Derived.Deep.LoopGhost
import Derived.Deep.RegionWith
import Derived.Test.YtcbonegkfppdiaaGT03
namespace Go.Proofs.Ytcbonegkfppdiaa
set_option maxRecDepth 100000
set_option linter.unusedVariables false
open Go.RowKit
attribute [local go_sem ↓] Go.wp_at_zero Go.wp_at_succ
theorem eqnilB (w:World) (a:Option Addr) (n c n' c' : Nat):(binOp .eql 73 (.slice a n c) (.slice none n' c')).run Try.prog w=.ok (.bool a.isNone) w:=Lib.run_eql_slice_nil w _ _ a n c n' c' Try.underlying73
theorem PRow.typ {base:Nat} {w:World} {v:Value} {P:List (Nat × Nat)} (h:PRow base w v P) {k:Nat} (e:v.ownBlock=some k):∃ cur,w.heap[k]? = some (.cells cur 99 (0,0)):=by
 unfold PRow at h
 rcases h.2 with ⟨q,_⟩ | ⟨g,cap,cur,q,hb,hg,_⟩
 ·rw [q] at e;cases e
 ·rw [q] at e
  simp only [Value.ownBlock,Option.some.injEq] at e
  subst e
  exact ⟨cur,hg⟩
theorem node_notB {w:World} {k:Nat} {cs:Array Value} (h:w.heap[k]? = some (.cells cs 47 (0,0))):NotB w k:=⟨fun cur hc=>(by rw [h] at hc;cases hc),fun cur hc=>(by rw [h] at hc;cases hc)⟩
theorem node_stays {W0 wr w9:World} {v:Value} {P:List (Nat × Nat)} {b d pb:Nat} {cs:Array Value} (h:wr.heap[pb]? = some (.cells cs 47 (0,0))) (hnb:¬ NotB wr b) (hp:PRow W0.heap.size (wr.setCell ⟨b,d,none⟩ (.bool true)) v P) (k9:Kept (fun k=>v.ownBlock=some k) (wr.setCell ⟨b,d,none⟩ (.bool true)) w9):w9.heap[pb]? = some (.cells cs 47 (0,0)):=by
 have K:Kept (fun k=>k=b) wr (wr.setCell ⟨b,d,none⟩ (.bool true)):=Kept.setCell (S:=fun k=>k=b) (Kept.refl _ _) (p:=⟨b,d,none⟩) (fun _=>rfl) _
 have h2:=K.at h (fun e=>hnb (by subst e;exact node_notB h))
 refine k9.at h2 (fun e=>?_)
 obtain ⟨cur,hc⟩:=hp.typ e
 rw [h2] at hc
 cases hc
structure AlS (W0 wr:World) (v:Value) (db nl nm:Nat) (Q:Nat→Nat→Prop) (P:List (Nat × Nat)) (D:List (Option (List Bool))):Prop where
 pr:PRow W0.heap.size wr v P
 dn:Dn W0.heap.size wr db nl nm D
 qs:∀ p∈P,Q p.1 p.2
 cnt:P.length+unD nm D=nl * nm
 kept:Same0 W0 wr
theorem AlS.same {W0 wr w' : World} {v:Value} {db nl nm:Nat} {Q:Nat→Nat→Prop} {P:List (Nat × Nat)} {D:List (Option (List Bool))} (h:AlS W0 wr v db nl nm Q P D) (hk:Same0 wr w'):AlS W0 w' v db nl nm Q P D:=⟨h.pr.same hk,h.dn.same hk,h.qs,h.cnt,h.kept.trans' hk⟩
theorem AlS.push {W0 wr w9:World} {v v' : Value} {db nl nm:Nat} {Q:Nat→Nat→Prop} {P:List (Nat × Nat)} {D:List (Option (List Bool))} (h:AlS W0 wr v db nl nm Q P D) {c d b:Nat} {s:List Bool} (hc:D[c]? = some (some s)) (hd:s[d]? = some false) (hq:Q c d) (hb:W0.heap.size≤b) (hnb:¬ NotB wr b) (hdn:Dn W0.heap.size (wr.setCell ⟨b,d,none⟩ (.bool true)) db nl nm (D.set c (some (s.set d true)))) :
  PRow W0.heap.size (wr.setCell ⟨b,d,none⟩ (.bool true)) v P∧(PRow W0.heap.size w9 v' (P ++ [(c,d)])→Kept (fun k=>v.ownBlock=some k) (wr.setCell ⟨b,d,none⟩ (.bool true)) w9→AlS W0 w9 v' db nl nm Q (P ++ [(c,d)]) (D.set c (some (s.set d true)))):=by
 have K:Kept (fun k=>k=b) wr (wr.setCell ⟨b,d,none⟩ (.bool true)):=Kept.setCell (S:=fun k=>k=b) (Kept.refl _ _) (p:=⟨b,d,none⟩) (fun _=>rfl) _
 have hp:PRow W0.heap.size (wr.setCell ⟨b,d,none⟩ (.bool true)) v P:=h.pr.keptB K (fun k e=>by subst e;exact hnb)
 refine ⟨hp,fun h9 k9=>⟨h9,hdn.kept k9 (fun k e=>(hp.block e).2.2),fun p hpm=>?_,?_,?_⟩⟩
 ·rcases List.mem_append.1 hpm with e | e
  ·exact h.qs p e
  ·simp only [List.mem_singleton] at e;subst e;exact hq
 ·have:=unD_mark (nm:=nm) hc hd
  have:=h.cnt
  simp only [List.length_append,List.length_singleton]
  omega
 ·exact (h.kept.trans K (fun i hi e=>by omega)).trans k9 (fun i hi e=>by have:=(hp.block e).1;omega)
set_option maxHeartbeats 8000000 in
theorem alike_yes {w:World} {lo mo:Option Addr} {lc mc:Nat} {l m:List Nd} (hl:NsW w lo l) (hm:NsW w mo m) (wl:Wf l) (wm:Wf m) (ll:l.length≤4000) (lm:m.length≤4000) {Q:Nat→Nat→Prop} (hQ:Bis l m Q) {a b:Nat} (ha:a<l.length) (hb:b<m.length) (hab:∀ c d,Res l a c→Res m b d→Q c d) :
  Calls Try.prog 38 #[.slice lo l.length lc,.int .i64 (a:Int),.slice mo m.length mc,.int .i64 (b:Int)] w fun e w' => e=.returned (.bool true)∧Same0 w w' := by
 have hnilB:=eqnilB
 obtain ⟨ip,hip,hp0,hp1,hp2⟩:=info_parts info_bools
 obtain ⟨iq,hiq,hq0,hq1,hq2⟩:=info_parts info_boolT
 obtain ⟨nl,hnl⟩:∃ nl,nl=l.length:=⟨_,rfl⟩
 obtain ⟨nm,hnm⟩:∃ nm,nm=m.length:=⟨_,rfl⟩
 have HLN:Hid (nl=l.length∧nm=m.length∧nl≤4000∧nm≤4000∧nl * nm≤16000000):=⟨hnl,hnm,by omega,by omega,by rw [hnl,hnm];exact Nat.mul_le_mul ll lm⟩
 obtain ⟨W0,hW0⟩:∃ W0,W0=(w.alloc (.cells #[.int .i64 0,.slice lo l.length lc] 63)).alloc (.cells #[.int .i64 0,.slice mo m.length mc] 63):=⟨_,rfl⟩
 have k0:Same0 w W0:=by rw [hW0];exact ((Kept.refl _ w).alloc _).alloc _
 have bx:W0.heap[w.heap.size]? = some (.cells #[.int .i64 0,.slice lo l.length lc] 63 (0,0)):=by rw [hW0];exact (Below.heap_alloc _ _ _ (by simp)).trans (heap_alloc_new w _)
 have bY:W0.heap[w.heap.size+1]? = some (.cells #[.int .i64 0,.slice mo m.length mc] 63 (0,0)):=by
  rw [hW0]
  have:=heap_alloc_new (w.alloc (.cells #[.int .i64 0,.slice lo l.length lc] 63)) (.cells #[.int .i64 0,.slice mo m.length mc] 63)
  simpa using this
 have HL:Hid (∀ ww,Same0 W0 ww→NsW ww lo l∧NsW ww mo m∧ww.cell? ⟨w.heap.size,1,none⟩=some (.slice lo l.length lc)∧ww.cell? ⟨w.heap.size+1,1,none⟩=some (.slice mo m.length mc)):=fun ww hk=>⟨hl.same (k0.trans' hk),hm.same (k0.trans' hk),cellAt (hk.at0 bx) 1,cellAt (hk.at0 bY) 1⟩
 -- Resolve,in both
 have HRX:Hid (∀ ww,Same0 W0 ww→∀ z,z<l.length→Calls Try.prog 49 #[.pointer (some ⟨w.heap.size,0,none⟩),.int .i64 (z:Int)] ww fun e w' => ∃ b:Nat,e=.returned (.tuple #[.int .i64 (b:Int),.int .i64 0])∧Res l z b∧w' = ww):=fun ww hk z hz=>by
  obtain ⟨h1,_,h3,_⟩:=(show _ from HL.out ww hk)
  exact rres_yes h3 h1 (by unfold maxLen;omega) (inl_of_may wl.1) wl.2 z hz
 have HRY:Hid (∀ ww,Same0 W0 ww→∀ z,z<m.length→Calls Try.prog 49 #[.pointer (some ⟨w.heap.size+1,0,none⟩),.int .i64 (z:Int)] ww fun e w' => ∃ b:Nat,e=.returned (.tuple #[.int .i64 (b:Int),.int .i64 0])∧Res m z b∧w' = ww):=fun ww hk z hz=>by
  obtain ⟨_,h2,_,h4⟩:=(show _ from HL.out ww hk)
  exact rres_yes h4 h2 (by unfold maxLen;omega) (inl_of_may wm.1) wm.2 z hz
 have HWF:Hid (Wf l∧Wf m∧Bis l m Q):=⟨wl,wm,hQ⟩
 have HAB:Hid (∀ c d,Res l a c→Res m b d→Q c d):=hab
 have C1:Calls Try.prog 65 #[.pointer (some ⟨w.heap.size,0,none⟩),.int .i64 (a:Int)] W0 fun e w' => e=.returned (.bool true)∧w' = W0:=by
  have:=rhas_any (cellAt bx 1) (show l.length≤maxLen by unfold maxLen;omega) (a:Int)
  rw [hasB_yes (by omega)] at this
  exact this
 have C2:Calls Try.prog 65 #[.pointer (some ⟨w.heap.size+1,0,none⟩),.int .i64 (b:Int)] W0 fun e w' => e=.returned (.bool true)∧w' = W0:=by
  have:=rhas_any (cellAt bY 1) (show m.length≤maxLen by unfold maxLen;omega) (b:Int)
  rw [hasB_yes (by omega)] at this
  exact this
 have C3:=HRX.out W0 (Kept.refl _ _) a ha
 have C4:=HRY.out W0 (Kept.refl _ _) b hb
 have n4:(nl:Int)≤4000:=by omega
 have m4:(nm:Int)≤4000:=by omega
 have n0:(0:Int)≤(nl:Int):=by omega
 have m0:(0:Int)≤(nm:Int):=by omega
 have HK0:Hid (Same0 w W0∧w.heap.size+1<W0.heap.size):=⟨k0,lt_of_at bY⟩
 rw [← hnl,← hnm] at hW0
 rw [← hnl,← hnm]
 clear hl hm wl wm ll lm hQ ha hb hab k0 bx bY hnl hnm
 go_enter Try.func38,Try.ntmps38
 go_upto_region 3 with fail
 rw [← hW0]
 clear hW0
 have CH:∀ (y:Nat) (z:Int),((y=w.heap.size∧z=(a:Int))∨(y=w.heap.size+1∧z=(b:Int)))→Calls Try.prog 65 #[.pointer (some ⟨y,0,none⟩),.int .i64 z] W0 fun e w' => e=.returned (.bool true)∧w' = W0:=fun y z h=>by
  rcases h with ⟨rfl,rfl⟩ | ⟨rfl,rfl⟩
  ·exact C1
  ·exact C2
 clear C1 C2
 go_upto_region 6 with (first | (go_at_call 65;refine (CH _ _ (by first | exact .inl ⟨rfl,rfl⟩ | exact .inr ⟨rfl,rfl⟩)).mono ?_;rintro e w' ⟨rfl,hw'⟩;have hw' := hw'.symm;subst hw'))
 clear CH
 go_upto_region 7 with (first | (go_at_call 49;refine C3.mono ?_;rintro e w' ⟨c0,rfl,hc0,hw'⟩;have hw' := hw'.symm;subst hw'))
 clear C3
 go_upto_region 8 with (first | (go_at_call 49;refine C4.mono ?_;rintro e w' ⟨d0,rfl,hd0,hw'⟩;have hw' := hw'.symm;subst hw'))
 clear C4
 have HQ0:Hid (Q c0 d0∧c0<l.length∧d0<m.length):=⟨HAB.out _ _ hc0 hd0,hc0.2.1,hd0.2.1⟩
 have kA:Same0 W0 (W0.alloc (.cells #[.int .i64 (c0:Int),.int .i64 (d0:Int)] 99)):=(Kept.refl _ _).alloc _
 have hqA:=heap_alloc_new W0 (.cells #[.int .i64 (c0:Int),.int .i64 (d0:Int)] 99)
 have hc0n:c0<nl:=by rw [HLN.out.1];exact HQ0.out.2.1
 have hd0n:d0<nm:=by rw [HLN.out.2.1];exact HQ0.out.2.2
 clear hc0 hd0
 go_upto_region 9 with (first | (at_builtin;refine wpList_pr rfl _ _ rfl W0.heap.size [] (.slice none 0 0) rfl kA (PRow.nil _ _) (c0,d0) W0.heap.size rfl hqA (Nat.le_refl _) (by simp) ?_;intro g1 cp1 w1 hr1 k1))
 rw [List.nil_append] at hr1
 have K1:Same0 W0 w1:=k1.trans (Kept.refl _ _) (fun _ _ f=>f) |> fun q=>Kept.mono q (fun _ _ e=>by cases e)
 have hz1:=K1.size
 clear kA hqA k1
 go_upto_region 10 with (first | (at_make;refine wpList_make_full _ rfl _ _ 100 rfl _ 73 ip _ 1 Try.underlying100 hip hp0 hp1 _ _ _ _ nl rfl rfl rfl rfl (by rw [hp2];omega) (by unfold maxLen;omega) (Nat.le_refl _) ?_;intro w2 hown hgrow))
 have k2:Same0 w1 w2:=Same0.grown (Kept.refl _ w1) hgrow
 obtain ⟨db,hdb⟩:∃ db,db=w1.heap.size:=⟨_,rfl⟩
 rw [← hdb] at hown ⊢
 have HD0:Hid (Dn W0.heap.size w2 db nl nm (List.replicate nl none)∧PRow W0.heap.size w2 (.slice (some ⟨g1,0,none⟩) 1 cp1) [(c0,d0)]∧Same0 W0 w2):=by
  have e:=full_block hown
  rw [Nat.mul_one,show (Value.slice none 0 0).cells = #[Value.slice none 0 0] from rfl,toList_madeCells_one] at e
  refine ⟨⟨⟨List.replicate nl (.slice none 0 0),fun _=>0,e,by simp,fun c hc=>?_,fun c s hc=>?_,fun c c' s s' hc=>?_⟩,by simp,by omega⟩,hr1.same k2,K1.trans' k2⟩
  ·rw [List.getElem?_replicate] at hc ⊢
   split at hc
   ·rename_i q;rw [if_pos q]
   ·cases hc
  ·rw [List.getElem?_replicate] at hc
   split at hc <;> cases hc
  ·rw [List.getElem?_replicate] at hc
   split at hc <;> cases hc
 have hDc:(List.replicate nl (none:Option (List Bool)))[c0]? = some none:=by rw [List.getElem?_replicate,if_pos hc0n]
 obtain ⟨e1,f1,hdbl⟩:=HD0.out.1.bare hDc
 have j1:(0:Int)≤(c0:Int):=by omega
 have j2:(c0:Int)<(nl:Int):=by omega
 have j3:(0:Int)≤(d0:Int):=by omega
 have j4:(d0:Int)<(nm:Int):=by omega
 have HD1:Hid (∀ w3 nb,Same0 w2 w3→w2.heap.size≤nb→w3.ownsRow nb 4 1 (.slice (some ⟨nb,0,none⟩) nm nm) nm (bv (List.replicate nm false))→w3.cell? ⟨db,c0,none⟩=some (.slice none 0 0)∧w3.frozen? ⟨db,c0,none⟩=false∧Dn W0.heap.size (w3.setCell ⟨db,c0,none⟩ (.slice (some ⟨nb,0,none⟩) nm nm)) db nl nm ((List.replicate nl none).set c0 (some (List.replicate nm false)))):=fun w3 nb k3 hnb ho=>by
  refine ⟨(k3.cell (p:=⟨db,c0,none⟩) hdbl (fun f=>f)).trans e1,?_,HD0.out.1.fresh hDc k3 hnb (by have:=HD0.out.2.2.size;omega) (full_block ho)⟩
  exact ((HD0.out.1.same k3).bare hDc).2.1
 clear hown hgrow hdb K1 k2 hr1 e1 f1 hz1
 go_upto_region 11 with (first | (at_make;refine wpList_make_full _ rfl _ _ 73 rfl _ 4 iq _ 1 Try.underlying73 hiq hq0 hq1 _ _ _ _ nm rfl rfl rfl rfl (by rw [hq2];omega) (by unfold maxLen;omega) (Nat.le_refl _) ?_;intro w3 hown3 hgrow3;rw [made_bools] at hown3;have k3:Same0 w2 w3:=Same0.grown (Kept.refl _ w2) hgrow3;obtain ⟨e3,f3,hdn3⟩:=HD1.out w3 w2.heap.size k3 (Nat.le_refl _) hown3))
 obtain ⟨W3,hW3⟩:∃ W3,W3=w3.setCell ⟨db,c0,none⟩ (.slice (some ⟨w2.heap.size,0,none⟩) nm nm):=⟨_,rfl⟩
 rw [← hW3] at hdn3 ⊢
 have hdblo:W0.heap.size≤db:=HD0.out.1.lo
 have K3:Same0 W0 W3:=by rw [hW3];exact (HD0.out.2.2.trans' k3).trans (Kept.setCell (S:=fun k=>k=db) (Kept.refl _ _) (p:=⟨db,c0,none⟩) (fun _=>rfl) _) (fun i hi e=>by omega)
 have hp3:PRow W0.heap.size W3 (.slice (some ⟨g1,0,none⟩) 1 cp1) [(c0,d0)]:=by
  rw [hW3]
  refine (HD0.out.2.1.same k3).keptB (S:=fun k=>k=db) (Kept.setCell (S:=fun k=>k=db) (Kept.refl _ _) (p:=⟨db,c0,none⟩) (fun _=>rfl) _) (fun k e q=>?_)
  obtain ⟨vs,f,h1,_⟩:=(HD0.out.1.same k3).ex
  subst e
  exact q.2 _ h1
 have hDc3:((List.replicate nl (none:Option (List Bool))).set c0 (some (List.replicate nm false)))[c0]? = some (some (List.replicate nm false)):=List.getElem?_set_self (by simpa using hc0n)
 obtain ⟨b3,cd1,cf1, -,cd2,cf2,hb3,hnb3,hdn4⟩:=hdn3.has hDc3 hd0n
 have hdf:(List.replicate nm false).getD d0 false=false:=by rw [List.getD_eq_getElem?_getD,List.getElem?_replicate,if_pos hd0n];rfl
 rw [hdf] at cd2
 have HS4:Hid (AlS W0 (W3.setCell ⟨b3,d0,none⟩ (.bool true)) (.slice (some ⟨g1,0,none⟩) 1 cp1) db nl nm Q [(c0,d0)] (((List.replicate nl none).set c0 (some (List.replicate nm false))).set c0 (some ((List.replicate nm false).set d0 true)))):=by
  have K:Kept (fun k=>k=b3) W3 (W3.setCell ⟨b3,d0,none⟩ (.bool true)):=Kept.setCell (S:=fun k=>k=b3) (Kept.refl _ _) (p:=⟨b3,d0,none⟩) (fun _=>rfl) _
  refine ⟨hp3.keptB K (fun k e=>by subst e;exact hnb3),hdn4,fun p hp=>?_,?_,K3.trans K (fun i hi e=>by omega)⟩
  ·simp only [List.mem_singleton] at hp;subst hp;exact HQ0.out.1
  ·have h1:=unD_mark (nm:=nm) hDc3 (d:=d0) (by simp [hd0n])
   have h2:=unD_fresh (nm:=nm) (D:=List.replicate nl none) (c:=c0) (by rw [List.getElem?_replicate,if_pos hc0n])
   have h3:=unD_start nl nm
   simp only [List.length_singleton]
   omega
 generalize ((List.replicate nl (none:Option (List Bool))).set c0 (some (List.replicate nm false))).set c0 (some ((List.replicate nm false).set d0 true))=D4 at HS4
 clear hW3 hown3 hgrow3 e3 f3 hdn3 hdn4 hp3 K3 HD0 HD1 hDc hDc3 k3 hdf hnb3 HQ0 HAB
 go_upto_region 13 with fail
 go_loopg [11,13] (2 * unD nm D4+1) (fun gm v11 v13 wr=>∃ (i:Nat) (P:List (Nat × Nat)) (D:List (Option (List Bool))),v13=.int .i64 (i:Int)∧i≤P.length∧Hid (AlS W0 wr v11 db nl nm Q P D)∧2 * unD nm D+P.length=gm+i)
 case atStart=>exact ⟨0,_,D4,rfl,by simp,HS4,by simp⟩
 case round=>
  clear HS4
  obtain ⟨i,P,D,rfl,hiP,HA,hgm⟩:=hrel
  have hPl:P.length≤16000000:=by have:=HA.out.cnt;have:=HLN.out;omega
  obtain ⟨so,sc,e⟩:=row_shape HA.out.pr
  subst e
  obtain ⟨np,hnp⟩:∃ np,np=P.length:=⟨_,rfl⟩
  have HNP:Hid (np=P.length∧P.length≤16000000):=⟨hnp,hPl⟩
  have np0:(np:Int)≤16000000:=by omega
  rw [← hnp] at HA hgm hiP ⊢
  clear hnp hPl
  by_cases hlt:i<np
  ·have hiP' : i<P.length:=by rw [← HNP.out.1];exact hlt
   obtain ⟨gs,e, -,hgs,s0,s1⟩:=HA.out.pr.at hiP'
   subst e
   have hq:=HA.out.qs _ (List.getElem_mem hiP')
   generalize hpd:P[i]=pd at *
   obtain ⟨c,d⟩:=pd
   simp only at hq s0 s1
   obtain ⟨hac,had⟩:=HWF.out.2.2.app c d hq
   have hcl:c<l.length:=hac.1
   have hdl:d<m.length:=had.1
   have hl1:=HL.out W0 (Kept.refl _ _)
   have KA:=HA.out.kept
   rcases hl1.1 with e | ⟨lb,lf,e,hlb,hcn⟩
   ·rw [e] at hcl;simp at hcl
   subst e
   rcases hl1.2.1 with e | ⟨mb,mf,e,hmb,hcm⟩
   ·rw [e] at hdl;simp at hdl
   subst e
   obtain ⟨xo,xc,x0,x1,x2,x3,x4,x5⟩:=hcn c hcl
   obtain ⟨yo,yc,y0,y1,y2,y3,y4,y5⟩:=hcm d hdl
   have hsy:=HWF.out.2.2.sym c d hcl hdl hq
   have HARG:Hid (∀ (k:Nat) (z y:Int),l[c].2.1[k]? = some z→m[d].2.1[k]? = some y→(0≤z∧z<(l.length:Int))∧(0≤y∧y<(m.length:Int))∧∀ c' d', Res l z.toNat c' → Res m y.toNat d' → Q c' d' ∧ c' < nl∧d' < nm):=fun k z y hz hy=>⟨args_rng HWF.out.1 hcl (List.mem_of_getElem? hz),args_rng HWF.out.2.1 hdl (List.mem_of_getElem? hy),fun c' d' h1 h2=>⟨HWF.out.2.2.arg c d hcl hdl hq k z y hz hy c' d' h1 h2,by rw [HLN.out.1];exact h1.2.1,by rw [HLN.out.2.1];exact h2.2.1⟩⟩
   have hfew:(l[c]).2.1.length≤6:=(may_facts (HWF.out.1.1 _ (List.getElem_mem hcl))).2.1
   have cn:(c:Int)<(nl:Int):=by have:=HLN.out.1;omega
   have dn' : (d:Int)<(nm:Int):=by have:=HLN.out.2.1;omega
   have c00:(0:Int)≤(c:Int):=by omega
   have d00:(0:Int)≤(d:Int):=by omega
   have q5:(0:Int)≤(i:Int):=by omega
   have q6:(i:Int)<(np:Int):=by omega
   rw [← hsy.1] at y0
   rw [← hsy.2] at y1
   have HAX:Hid (∀ ww,Same0 W0 ww→Arg ww xo l[c].2.1 xc∧Arg ww yo m[d].2.1 yc):=fun ww hk=>⟨x5.onto hk,y5.onto hk⟩
   have HVL:Hid (m[d].2.1.length=l[c].2.1.length):=hsy.2.symm
   have x0' := (KA.cell (p:=⟨lb,_,none⟩) hlb (fun f=>f)).trans x0
   have x1' := (KA.cell (p:=⟨lb,_,none⟩) hlb (fun f=>f)).trans x1
   have x2' := (KA.cell (p:=⟨lb,_,none⟩) hlb (fun f=>f)).trans x2
   have x3' := (KA.cell (p:=⟨lb,_,none⟩) hlb (fun f=>f)).trans x3
   have x4' := (KA.cell (p:=⟨lb,_,none⟩) hlb (fun f=>f)).trans x4
   generalize l[c]=X at *
   generalize m[d]=Y at *
   obtain ⟨u0,ua,u2,u3,u4⟩:=X
   obtain ⟨v0,va,v2,v3,v4⟩:=Y
   have kB:Same0 wr (wr.alloc (.cells #[.int .i64 u0,.slice xo ua.length xc,.int .i64 u2,.bool u3,.int .i64 u4] 47)):=(Kept.refl _ _).alloc _
   have hmb2:mb<wr.heap.size:=Nat.lt_of_lt_of_le hmb KA.size
   have y0' := (kB.cell (p:=⟨mb,mf+d * 5,none⟩) hmb2 (fun f=>f)).trans ((KA.cell (p:=⟨mb,mf+d * 5,none⟩) hmb (fun f=>f)).trans y0)
   have y1' := (kB.cell (p:=⟨mb,mf+d * 5+1,none⟩) hmb2 (fun f=>f)).trans ((KA.cell (p:=⟨mb,mf+d * 5+1,none⟩) hmb (fun f=>f)).trans y1)
   have y2' := (kB.cell (p:=⟨mb,mf+d * 5+2,none⟩) hmb2 (fun f=>f)).trans ((KA.cell (p:=⟨mb,mf+d * 5+2,none⟩) hmb (fun f=>f)).trans y2)
   have y3' := (kB.cell (p:=⟨mb,mf+d * 5+3,none⟩) hmb2 (fun f=>f)).trans ((KA.cell (p:=⟨mb,mf+d * 5+3,none⟩) hmb (fun f=>f)).trans y3)
   have y4' := (kB.cell (p:=⟨mb,mf+d * 5+4,none⟩) hmb2 (fun f=>f)).trans ((KA.cell (p:=⟨mb,mf+d * 5+4,none⟩) hmb (fun f=>f)).trans y4)
   have s1' := (kB.cell (p:=⟨gs,i * 2+1,none⟩) hgs (fun f=>f)).trans s1
   obtain ⟨W1,hW1⟩:∃ W1,W1=wr.alloc (.cells #[.int .i64 u0,.slice xo ua.length xc,.int .i64 u2,.bool u3,.int .i64 u4] 47):=⟨_,rfl⟩
   have hb1:W1.heap[wr.heap.size]? = some (.cells #[.int .i64 u0,.slice xo ua.length xc,.int .i64 u2,.bool u3,.int .i64 u4] 47 (0,0)):=by rw [hW1];exact heap_alloc_new wr _
   rw [← hW1] at kB y0' y1' y2' y3' y4' s1'
   obtain ⟨pb,hpb⟩:∃ pb,pb=wr.heap.size:=⟨_,rfl⟩
   clear x0 x1 x2 x3 x4 x5 y0 y1 y2 y3 y4 y5 hcn hcm hsy hac had hq hpd
   go_upto_region 16 with fail
   rw [← hW1,← hpb]
   rw [← hpb] at hb1
   clear hW1 hpb x0' x1' x2' x3' x4'
   obtain ⟨b0,b1, -, -, -⟩:=box5 hb1
   have kC:Same0 W1 (W1.alloc (.cells #[.int .i64 u0,.slice yo ua.length yc,.int .i64 v2,.bool v3,.int .i64 v4] 47)):=(Kept.refl _ _).alloc _
   have hb2:=kC.at0 hb1
   have hb3' := heap_alloc_new W1 (.cells #[.int .i64 u0,.slice yo ua.length yc,.int .i64 v2,.bool v3,.int .i64 v4] 47)
   obtain ⟨W2,hW2⟩:∃ W2,W2=W1.alloc (.cells #[.int .i64 u0,.slice yo ua.length yc,.int .i64 v2,.bool v3,.int .i64 v4] 47):=⟨_,rfl⟩
   obtain ⟨qb,hqb⟩:∃ qb,qb=W1.heap.size:=⟨_,rfl⟩
   rw [← hW2] at kC hb2 hb3'
   clear b0 b1 hb1
   go_upto_region 17 with fail
   rw [← hW2,← hqb]
   rw [← hqb] at hb3'
   clear hW2 hqb y0' y1' y2' y3' y4' s1'
   obtain ⟨p0,p1, -, -, -⟩:=box5 hb2
   obtain ⟨r0,r1, -, -, -⟩:=box5 hb3'
   have HS2:Hid (AlS W0 W2 (.slice (some ⟨gs,0,none⟩) np sc) db nl nm Q P D∧W2.heap[pb]? = some (.cells #[.int .i64 u0,.slice xo ua.length xc,.int .i64 u2,.bool u3,.int .i64 u4] 47 (0,0))∧W2.heap[qb]? = some (.cells #[.int .i64 u0,.slice yo ua.length yc,.int .i64 v2,.bool v3,.int .i64 v4] 47 (0,0))):=⟨(HA.out.same kB).same kC,hb2,hb3'⟩
   have na6:(ua.length:Int)≤6:=by have:ua.length≤6:=hfew;omega
   obtain ⟨M,hM⟩:∃ M,M=2 * unD nm D+np:=⟨_,rfl⟩
   have HMM:Hid (2 * unD nm D+P.length≤M∧M=gk+i∧np=P.length):=⟨by rw [hM,HNP.out.1];exact Nat.le_refl _,by omega,HNP.out.1⟩
   have hbs:((ua.length:Int) != (ua.length:Int))=false:=by simp
   have hu0:(u0 != u0)=false:=by simp
   clear HA hb2 hb3' kB kC hM hgm hfew
   go_upto_region 20 with fail
   clear p0 p1 r0 r1
   obtain ⟨go,rfl⟩:∃ go,go=gk:=⟨_,rfl⟩
   go_loopw [11,16] (fun v11 v16 wx=>∃ (k:Nat) (P' : List (Nat × Nat)) (D' : List (Option (List Bool))),v16=.int .i64 (k:Int)∧k≤ua.length∧Hid ((AlS W0 wx v11 db nl nm Q P' D' ∧ wx.heap[pb]? = some (.cells #[.int .i64 u0,.slice xo ua.length xc,.int .i64 u2,.bool u3,.int .i64 u4] 47 (0,0))∧wx.heap[qb]? = some (.cells #[.int .i64 u0,.slice yo ua.length yc,.int .i64 v2,.bool v3,.int .i64 v4] 47 (0,0)))∧2 * unD nm D' + P'.length≤M∧np≤P'.length)) (fun _ v16 _=>ua.length-(intOf v16).toNat)
   case atStart=>exact ⟨0,P,D,rfl,Nat.zero_le _,HS2.out,HMM.out.1,by rw [HMM.out.2.2];exact Nat.le_refl _⟩
   case round=>
    clear HS2
    obtain ⟨k,P', D', rfl,hkn,HI⟩:=hrel
    obtain ⟨-,p1, -, -, -⟩:=box5 HI.out.1.2.1
    obtain ⟨-,r1, -, -, -⟩:=box5 HI.out.1.2.2
    obtain ⟨so,sc', e⟩:=row_shape HI.out.1.1.pr
    subst e
    have t5:(0:Int)≤(k:Int):=by omega
    by_cases hkl:k<ua.length
    ·have hva:k<va.length:=by have:va.length=ua.length:=HVL.out;omega
     obtain ⟨zr,yr,hQz⟩:=HARG.out k ua[k] va[k] (List.getElem?_eq_getElem hkl) (List.getElem?_eq_getElem hva)
     obtain ⟨z,hz⟩:∃ z:Nat,ua[k]=(z:Int):=⟨ua[k].toNat,by omega⟩
     obtain ⟨y,hy⟩:∃ y:Nat,va[k]=(y:Int):=⟨va[k].toNat,by omega⟩
     have hax:=HAX.out wr HI.out.1.1.kept
     obtain ⟨xb,xf,ex, -,cx⟩:=hax.1.at'.get hkl
     obtain ⟨yb,yf,ey, -,cy⟩:=hax.2.at'.get hva
     subst ex ey
     simp only [hz] at cx
     simp only [hy] at cy
     rw [hz,hy,Int.toNat_natCast,Int.toNat_natCast] at hQz
     rw [hz] at zr
     rw [hy] at yr
     have CRX:=HRX.out wr HI.out.1.1.kept z (by omega)
     have CRY:=HRY.out wr HI.out.1.1.kept y (by omega)
     have HQZ:Hid (∀ c' d', Res l z c' → Res m y d' → Q c' d' ∧ c' < nl∧d' < nm):=hQz
     have t6:(k:Int)<(ua.length:Int):=by omega
     have HCN:Hid (2 * unD nm D' + P'.length≤M∧np≤P'.length):=HI.out.2
     have HVL2:Hid ((ua.length:Int)=(va.length:Int)):=by have:va.length=ua.length:=HVL.out;show _=_;omega
     clear hax hQz zr yr hz hy hva
     go_upto_region 23 with (first | (go_at_call 49;refine CRX.mono ?_;rintro e w' ⟨c', rfl,hc', hw'⟩;have hw' := hw'.symm;subst hw'))
     clear CRX
     go_upto_region 24 with (first | (go_at_call 49;refine CRY.mono ?_;rintro e w' ⟨d', rfl,hd', hw'⟩;have hw' := hw'.symm;subst hw'))
     clear CRY
     obtain ⟨hQ', hc'n,hd'n⟩:=HQZ.out c' d' hc' hd'
     have r5:(0:Int)≤(c' : Int):=by omega
     have r6:(c' : Int)<(nl:Int):=by omega
     have r7:(0:Int)≤(d' : Int):=by omega
     have r8:(d' : Int)<(nm:Int):=by omega
     have hcD:c' < D'.length:=by rw [HI.out.1.1.dn.len];exact hc'n
     clear hc' hd' HQZ p1 r1 cx cy
     cases hDo:D'[c'] with
     | none=>
      have hDc:D'[c']? = some none:=by rw [List.getElem?_eq_getElem hcD,hDo]
      obtain ⟨e1,f1,hdbl⟩:=HI.out.1.1.dn.bare hDc
      have HD1:Hid (∀ w5,Same0 wr w5→w5.ownsRow wr.heap.size 4 1 (.slice (some ⟨wr.heap.size,0,none⟩) nm nm) nm (bv (List.replicate nm false))→w5.cell? ⟨db,c', none⟩=some (.slice none 0 0)∧w5.frozen? ⟨db,c', none⟩=false∧(AlS W0 (w5.setCell ⟨db,c', none⟩ (.slice (some ⟨wr.heap.size,0,none⟩) nm nm)) (.slice so P'.length sc') db nl nm Q P' (D'.set c' (some (List.replicate nm false)))∧(w5.setCell ⟨db,c', none⟩ (.slice (some ⟨wr.heap.size,0,none⟩) nm nm)).heap[pb]? = some (.cells #[.int .i64 u0,.slice (some ⟨xb,xf,none⟩) ua.length xc,.int .i64 u2,.bool u3,.int .i64 u4] 47 (0,0))∧(w5.setCell ⟨db,c', none⟩ (.slice (some ⟨wr.heap.size,0,none⟩) nm nm)).heap[qb]? = some (.cells #[.int .i64 u0,.slice (some ⟨yb,yf,none⟩) ua.length yc,.int .i64 v2,.bool v3,.int .i64 v4] 47 (0,0)))):=fun w5 k5 ho=>by
       have K5:Kept (fun k=>k=db) w5 (w5.setCell ⟨db,c', none⟩ (.slice (some ⟨wr.heap.size,0,none⟩) nm nm)):=Kept.setCell (S:=fun k=>k=db) (Kept.refl _ _) (p:=⟨db,c', none⟩) (fun _=>rfl) _
       have hlo:=HI.out.1.1.dn.lo
       have nB:¬ NotB w5 db:=fun q=>by
        obtain ⟨vs,f,h1,_⟩:=(HI.out.1.1.dn.same k5).ex
        exact q.2 _ h1
       have hsz5:=HI.out.1.1.kept.size
       refine ⟨(k5.cell (p:=⟨db,c', none⟩) hdbl (fun f=>f)).trans e1,((HI.out.1.1.dn.same k5).bare hDc).2.1,⟨(HI.out.1.1.pr.same k5).keptB K5 (fun k e=>by subst e;exact nB),HI.out.1.1.dn.fresh hDc k5 (Nat.le_refl _) hsz5 (full_block ho),HI.out.1.1.qs,by rw [unD_fresh hDc];exact HI.out.1.1.cnt,(HI.out.1.1.kept.trans' k5).trans K5 (fun i hi e=>by omega)⟩,?_,?_⟩
       ·exact K5.at (k5.at0 HI.out.1.2.1) (fun e=>nB (by rw [← e];exact node_notB (k5.at0 HI.out.1.2.1)))
       ·exact K5.at (k5.at0 HI.out.1.2.2) (fun e=>nB (by rw [← e];exact node_notB (k5.at0 HI.out.1.2.2)))
      go_upto_region 26 with (first | (at_make;refine wpList_make_full _ rfl _ _ 73 rfl _ 4 iq _ 1 Try.underlying73 hiq hq0 hq1 _ _ _ _ nm rfl rfl rfl rfl (by rw [hq2];omega) (by unfold maxLen;omega) (Nat.le_refl _) ?_;intro w5 hown5 hgrow5;rw [made_bools] at hown5;have k5:Same0 wr w5:=Same0.grown (Kept.refl _ wr) hgrow5;obtain ⟨e3,f3,hst⟩:=HD1.out w5 k5 hown5;have HST:=(show Hid _ from hst);clear hst))
      obtain ⟨W6,hW6⟩:∃ W6,W6=w5.setCell ⟨db,c', none⟩ (.slice (some ⟨wr.heap.size,0,none⟩) nm nm):=⟨_,rfl⟩
      rw [← hW6] at HST ⊢
      have hDs:(D'.set c' (some (List.replicate nm false)))[c']? = some (some (List.replicate nm false)):=List.getElem?_set_self hcD
      have hsd:(List.replicate nm false)[d']? = some false:=by simp [hd'n]
      clear hW6 hown5 hgrow5 e1 f1 e3 f3 HD1 k5 HI hDo
      obtain ⟨bb,g1,g2, -,g3,g4,hbb,hnbb,hdnb⟩:=HST.out.1.dn.has hDs hd'n
      rw [show (List.replicate nm false).getD d' false=false by rw [List.getD_eq_getElem?_getD,hsd];rfl] at g3
      have PF:=fun (w9:World) (v' : Value)=>AlS.push (w9:=w9) (v' := v') HST.out.1 hDs hsd hQ' hbb hnbb hdnb
      have hpr7:=(PF W6 (.slice none 0 0)).1
      have hPl:P'.length≤16000000:=by have:=HST.out.1.cnt;have:=HLN.out;omega
      have hsz7:(P'.length+1) * 16≤140737488355328:=by omega
      have hb7:W0.heap.size≤(W6.setCell ⟨bb,d', none⟩ (.bool true)).heap.size:=Nat.le_trans HST.out.1.kept.size (by simp [World.setCell])
      obtain ⟨W7,hW7⟩:∃ W7,W7=W6.setCell ⟨bb,d', none⟩ (.bool true):=⟨_,rfl⟩
      have HPF:Hid (∀ g9 cp9 w9,PRow W0.heap.size w9 (.slice (some ⟨g9,0,none⟩) (P'.length+1) cp9) (P' ++ [(c', d')])→Kept (fun k=>(Value.slice so P'.length sc').ownBlock=some k) W7 w9→(AlS W0 w9 (.slice (some ⟨g9,0,none⟩) (P'.length+1) cp9) db nl nm Q (P' ++ [(c', d')]) ((D'.set c' (some (List.replicate nm false))).set c' (some ((List.replicate nm false).set d' true)))∧w9.heap[pb]? = some (.cells #[.int .i64 u0,.slice (some ⟨xb,xf,none⟩) ua.length xc,.int .i64 u2,.bool u3,.int .i64 u4] 47 (0,0))∧w9.heap[qb]? = some (.cells #[.int .i64 u0,.slice (some ⟨yb,yf,none⟩) ua.length yc,.int .i64 v2,.bool v3,.int .i64 v4] 47 (0,0)))∧2 * unD nm ((D'.set c' (some (List.replicate nm false))).set c' (some ((List.replicate nm false).set d' true)))+(P' ++ [(c', d')]).length≤M∧np≤(P' ++ [(c', d')]).length):=fun g9 cp9 w9 h9 k9=>by
       rw [hW7] at k9
       have hu:=unD_mark (nm:=nm) hDs hsd
       have hun:unD nm (D'.set c' (some (List.replicate nm false)))=unD nm D' := unD_fresh hDc
       have hcn:=HCN.out
       refine ⟨⟨(PF w9 _).2 h9 k9,node_stays HST.out.2.1 hnbb hpr7 k9,node_stays HST.out.2.2 hnbb hpr7 k9⟩,?_,?_⟩
       ·simp only [List.length_append,List.length_singleton];omega
       ·simp only [List.length_append,List.length_singleton];omega
      rw [← hW7] at hpr7 hb7
      have kW7:Same0 W7 (W7.alloc (.cells #[.int .i64 (c' : Int),.int .i64 (d' : Int)] 99)):=(Kept.refl _ _).alloc _
      have hq7:=heap_alloc_new W7 (.cells #[.int .i64 (c' : Int),.int .i64 (d' : Int)] 99)
      clear PF hdnb hnbb
      go_upto_region 28 with fail
      rw [← hW7]
      clear hW7 g1 g2 g3 g4
      go_wp2_with (first | (at_builtin;refine wpList_pr rfl _ _ rfl W0.heap.size P' (.slice so P'.length sc') rfl kW7 hpr7 (c', d') W7.heap.size rfl hq7 hb7 hsz7 ?_;intro g9 cp9 w9 hr9 k9))
      have HN9:=(show Hid _ from HPF.out g9 cp9 w9 hr9 k9)
      go_roundw
      case rel=>first | exact ⟨k+1,_,_,by go_num,by omega,HN9⟩ | ((repeat apply Exists.intro);exact ⟨⟨k+1,_,_,by go_num,by omega,HN9⟩,rfl⟩)
      case measure=>simp [intOf];omega
     | some s=>
      have hDs:D'[c']? = some (some s):=by rw [List.getElem?_eq_getElem hcD,hDo]
      have HB:Hid (AlS W0 wr (.slice so P'.length sc') db nl nm Q P' D' ∧ wr.heap[pb]? = some (.cells #[.int .i64 u0,.slice (some ⟨xb,xf,none⟩) ua.length xc,.int .i64 u2,.bool u3,.int .i64 u4] 47 (0,0))∧wr.heap[qb]? = some (.cells #[.int .i64 u0,.slice (some ⟨yb,yf,none⟩) ua.length yc,.int .i64 v2,.bool v3,.int .i64 v4] 47 (0,0))):=HI.out.1
      obtain ⟨b8,a1,a2,hsl,a3,a4, -, -, -⟩:=HI.out.1.1.dn.has hDs hd'n
      have hds:d' < s.length:=by rw [hsl];exact hd'n
      cases hbo:s[d'] with
      | true=>
       rw [show s.getD d' false=true by rw [List.getD_eq_getElem?_getD,List.getElem?_eq_getElem hds,hbo];rfl] at a3
       clear hDo hbo hsl hDs HB
       go_wp2
       go_roundw
       case rel=>first | exact ⟨k+1,P', D', by go_num,by omega,HI⟩ | ((repeat apply Exists.intro);exact ⟨⟨k+1,P', D', by go_num,by omega,HI⟩,rfl⟩)
       case measure=>simp [intOf];omega
      | false=>
       have hsd:s[d']? = some false:=by rw [List.getElem?_eq_getElem hds,hbo]
       clear a1 a2 a3 a4 HI hDo hbo
       obtain ⟨bb,g1,g2, -,g3,g4,hbb,hnbb,hdnb⟩:=HB.out.1.dn.has hDs hd'n
       rw [show s.getD d' false=false by rw [List.getD_eq_getElem?_getD,hsd];rfl] at g3
       have PF:=fun (w9:World) (v' : Value)=>AlS.push (w9:=w9) (v' := v') HB.out.1 hDs hsd hQ' hbb hnbb hdnb
       have hpr7:=(PF wr (.slice none 0 0)).1
       have hPl:P'.length≤16000000:=by have:=HB.out.1.cnt;have:=HLN.out;omega
       have hsz7:(P'.length+1) * 16≤140737488355328:=by omega
       have hb7:W0.heap.size≤(wr.setCell ⟨bb,d', none⟩ (.bool true)).heap.size:=Nat.le_trans HB.out.1.kept.size (by simp [World.setCell])
       obtain ⟨W7,hW7⟩:∃ W7,W7=wr.setCell ⟨bb,d', none⟩ (.bool true):=⟨_,rfl⟩
       have HPF:Hid (∀ g9 cp9 w9,PRow W0.heap.size w9 (.slice (some ⟨g9,0,none⟩) (P'.length+1) cp9) (P' ++ [(c', d')])→Kept (fun k=>(Value.slice so P'.length sc').ownBlock=some k) W7 w9→(AlS W0 w9 (.slice (some ⟨g9,0,none⟩) (P'.length+1) cp9) db nl nm Q (P' ++ [(c', d')]) (D'.set c' (some (s.set d' true)))∧w9.heap[pb]? = some (.cells #[.int .i64 u0,.slice (some ⟨xb,xf,none⟩) ua.length xc,.int .i64 u2,.bool u3,.int .i64 u4] 47 (0,0))∧w9.heap[qb]? = some (.cells #[.int .i64 u0,.slice (some ⟨yb,yf,none⟩) ua.length yc,.int .i64 v2,.bool v3,.int .i64 v4] 47 (0,0)))∧2 * unD nm (D'.set c' (some (s.set d' true)))+(P' ++ [(c', d')]).length≤M∧np≤(P' ++ [(c', d')]).length):=fun g9 cp9 w9 h9 k9=>by
        rw [hW7] at k9
        have hu:=unD_mark (nm:=nm) hDs hsd
        have hun:unD nm D' = unD nm D' := rfl
        have hcn:=HCN.out
        refine ⟨⟨(PF w9 _).2 h9 k9,node_stays HB.out.2.1 hnbb hpr7 k9,node_stays HB.out.2.2 hnbb hpr7 k9⟩,?_,?_⟩
        ·simp only [List.length_append,List.length_singleton];omega
        ·simp only [List.length_append,List.length_singleton];omega
       rw [← hW7] at hpr7 hb7
       have kW7:Same0 W7 (W7.alloc (.cells #[.int .i64 (c' : Int),.int .i64 (d' : Int)] 99)):=(Kept.refl _ _).alloc _
       have hq7:=heap_alloc_new W7 (.cells #[.int .i64 (c' : Int),.int .i64 (d' : Int)] 99)
       clear PF hdnb hnbb
       go_upto_region 28 with fail
       rw [← hW7]
       clear hW7 g1 g2 g3 g4
       go_wp2_with (first | (at_builtin;refine wpList_pr rfl _ _ rfl W0.heap.size P' (.slice so P'.length sc') rfl kW7 hpr7 (c', d') W7.heap.size rfl hq7 hb7 hsz7 ?_;intro g9 cp9 w9 hr9 k9))
       have HN9:=(show Hid _ from HPF.out g9 cp9 w9 hr9 k9)
       go_roundw
       case rel=>first | exact ⟨k+1,_,_,by go_num,by omega,HN9⟩ | ((repeat apply Exists.intro);exact ⟨⟨k+1,_,_,by go_num,by omega,HN9⟩,rfl⟩)
       case measure=>simp [intOf];omega
    ·have e:k=ua.length:=by omega
     have HN2:Hid (AlS W0 wr (.slice so P'.length sc') db nl nm Q P' D'):=HI.out.1.1
     have hb9:¬ (k:Int)<(ua.length:Int):=by omega
     have hg9:2 * unD nm D' + P'.length=(2 * unD nm D' + P'.length-(i+1))+(i+1):=by have:=HI.out.2;omega
     have hg8:2 * unD nm D' + P'.length-(i+1)<go:=by have:=HI.out.2;have:=HMM.out;omega
     have hi9:i+1≤P'.length:=by have:=HI.out.2;omega
     clear HI e
     go_wp2
     go_roundg (2 * unD nm D' + P'.length-(i+1))
     case measure=>exact hg8
     case rel=>exact ⟨i+1,P', D', by go_num,hi9,HN2,hg9⟩
  ·have e:i=np:=by omega
   have KK:Hid (Same0 w wr):=HK0.out.1.trans' HA.out.kept
   have hb9:¬ (i:Int)<(np:Int):=by omega
   clear HA e
   go_wp2
   go_ret
   exact ⟨rfl,KK.out⟩
theorem sld_bis {l:List Nd} (hw:Wf l) {R:List Int} {L:List Nat} (hk:KL l R L) {l' : List Nd} (h:Sld l L l'):Bis l l' (fun c d=>L[d]? = some c):=by
 obtain ⟨wf', app⟩:=h.wf hw hk
 refine ⟨fun c d q=>?_,fun c d hc hd q=>?_,fun c d hc hd q k z y hz hy c' d' r1 r2=>?_⟩
 ·have hd:d<l'.length:=by rw [h.1];exact (List.getElem?_eq_some_iff.1 q).1
  exact ⟨((hk.2 c).1 (List.mem_of_getElem? q)).1,hd,app d hd⟩
 ·obtain ⟨h1,h2,a1,a2,a3⟩:=h.2 d c q
  exact ⟨a1.symm,a2.1.symm⟩
 ·obtain ⟨h1,h2,a1,a2,a3⟩:=h.2 d c q
  obtain ⟨b,i,hz0,m1,m2,rfl⟩:=a2.2 k z y hz hy
  have e1:=Res.uniq m1 r1
  subst e1
  have hi:i<l'.length:=by rw [h.1];exact (List.getElem?_eq_some_iff.1 m2).1
  have e2:=Res.uniq (Res.self hi (app i hi)) (by simpa using r2)
  subst e2
  exact m2
set_option maxHeartbeats 8000000 in
theorem sterms_walk {w:World} {lo ro:Option Addr} {lc rc:Nat} {l:List Nd} {raw:List Int} (hs:NsW w lo l) (hsz:l.length * 56≤140737488351232) (hx:Arg w ro raw rc) (hr:∀ z∈raw,I64 z) :
  Calls Try.prog 8 #[.slice lo l.length lc,.slice ro raw.length rc] w fun e w' => e=.returned (.bool true)∧Below w.heap.size w w' := by
 have C0:=awake12_any w
 have HS:Hid (∀ ww,Same0 w ww→NsW ww lo l):=fun ww hk=>hs.same hk
 have HX:Hid (∀ ww,Same0 w ww→Arg ww ro raw rc):=fun ww hk=>hx.onto hk
 have HZ:Hid (l.length≤maxLen∧∀ z∈raw,I64 z):=⟨by unfold maxLen;omega,hr⟩
 clear hs hsz hx hr
 go_enter Try.func8,Try.ntmps8
 go_upto_region 3 with (first | (go_at_call 25;refine C0.mono ?_;rintro e w1 ⟨rfl,k1⟩;have C1:=made12_any (ac:=lc) (HS.out w1 k1) HZ.out.1) | (go_at_call 26;refine C1.mono ?_;rintro e w2 hmd;rcases hmd with ⟨rfl,k2⟩ | ⟨h,g,r,v,rfl,md⟩))
 ·have K:Hid (Same0 w w2):=k1.trans' k2
  clear C0 C1
  go_wp2
  go_ret
  exact ⟨rfl,K.out.below⟩
 ·have K2:Same0 w w2:=k1.trans' md.same
  have hle:l.length≤4000:=md.hp.le
  have lh:w.heap.size≤h:=Nat.le_trans k1.size md.lh
  have lg:w.heap.size≤g:=Nat.le_trans k1.size md.lg
  have C2:=some12_any (HX.out w2 K2) HZ.out.2 l.length hle
  have HW:Hid (Wf l):=⟨md.hp.may,md.hp.ac⟩
  have p2:=md.hp.any
  have hh:=p2.ltH
  have hg:=p2.ltG
  have HP2:Hid (∀ ww,Same0 w2 ww→Hp ww h g 4000 l):=fun ww hk=>p2.same hk
  have HRG:Hid ((∀ z∈someL l.length raw,0≤z∧z<(l.length:Int))∧(someL l.length raw).length * 8≤140737488351232):=⟨someL_rng,by have:=someL_len l.length raw;have:=(HX.out w2 K2).size;omega⟩
  generalize someL l.length raw=R at *
  obtain ⟨n,hn⟩:∃ n,n=l.length:=⟨_,rfl⟩
  have HNE:Hid (n=l.length):=hn
  have i0:(0:Int)≤(n:Int):=by omega
  have i1:(n:Int)≤4000:=by omega
  rw [← hn] at C2 ⊢
  clear C0 C1 md k1 hn p2
  go_upto_region 6 with (first | (go_at_call 36;refine C2.mono ?_;rintro e w3 ⟨rv,rfl,hrow3,k3⟩))
  obtain ⟨so,sc,e,hArg,hAb⟩:=hrow3.argS HRG.out.2
  subst e
  have K3:=K2.trans' k3
  have s3:=k3.size
  have HA:Hid (∀ ww,Same0 w3 ww→Arg ww so R sc∧Hp ww h g 4000 l):=fun ww hk=>⟨hArg.1.onto hk,HP2.out ww (k3.trans' hk)⟩
  have HAB:Hid (∀ a,so=some a→w2.heap.size≤a.block):=hAb
  obtain ⟨N,hN⟩:∃ N,N=R.length:=⟨_,rfl⟩
  have HN:Hid (N=R.length):=hN
  have HNZ:Hid (N * 8≤140737488351232):=by rw [hN];exact HRG.out.2
  have hN0:(0:Int)≤(N:Int):=by omega
  rw [← hN]
  have HR0:Hid (Row w3.heap.size w3 (.slice none 0 0) []∧ResL l (R.take 0) []∧Same0 w3 w3):=⟨World.ownsRow_nil _ _ _ _,ResL.nil l,Kept.refl _ _⟩
  clear C2 hrow3 hArg hAb hN
  go_wp2
  go_loopw [9,10] (fun v9 v10 wr=>∃ (k:Nat) (S:List Int),k≤N∧v10=.int .i64 (k:Int)∧Hid (Row w3.heap.size wr v9 S∧ResL l (R.take k) S∧Same0 w3 wr)) (fun _ v10 _=>N-(intOf v10).toNat)
  case atStart=>exact ⟨0,[],Nat.zero_le _,rfl,HR0⟩
  case round=>
   clear HR0
   obtain ⟨k,S,hk,rfl,HK⟩:=hrel
   by_cases hlt:k<N
   ·have hkR:k<R.length:=by rw [← HN.out];exact hlt
    have ha:=HA.out wr HK.out.2.2
    obtain ⟨sb,sf,e,hsb,cs⟩:=ha.1.at'.get hkR
    subst e
    have hz:=HRG.out.1 _ (List.getElem_mem hkR)
    obtain ⟨z,hze⟩:∃ z:Nat,R[k]=(z:Int):=⟨R[k].toNat,by omega⟩
    rw [hze] at cs
    have CR:=hres_yes ha.2 z (by omega)
    have HT:Hid (R.take (k+1)=R.take k ++ [(z:Int)]):=by show _=_;rw [List.take_succ_eq_append_getElem hkR,hze]
    have hSl:S.length=k:=by have:=HK.out.2.1.1;simp at this;omega
    have hsz:(S.length+1) * 8≤140737488355328:=by have:=HNZ.out;omega
    have iw:IntKind.i64.wrap ((k:Int)+1)=(k:Int)+1:=by rw [IntKind.wrap_i64];have:=HNZ.out;omega
    have j5:(0:Int)≤(k:Int):=by omega
    have j6:(k:Int)<(N:Int):=by omega
    obtain ⟨qo,qc,e⟩:=row_shape HK.out.1
    subst e
    have hb7:w3.heap.size≤wr.heap.size:=HK.out.2.2.size
    clear ha hze hz hSl
    go_wp2_with (first
     | (go_at_call 37;refine CR.mono ?_;rintro e w8 ⟨b,rfl,hres,k8⟩;have hr8:Row w3.heap.size w8 (.slice qo S.length qc) S:=k8.row HK.out.1 (fun _ _ f=>f);have hb8:w3.heap.size≤w8.heap.size:=Nat.le_trans hb7 k8.size)
     | (at_builtin;refine wpList_push rfl _ _ 31 rfl Try.underlying31 w3.heap.size S _ rfl hr8 (b:Int) rfl hb8 hsz ?_;intro g9 c9 w9 hr9 hk9 hg9))
    have HK9:Hid (Row w3.heap.size w9 (.slice (some ⟨g9,0,none⟩) (S.length+1) c9) (S ++ [(b:Int)])∧ResL l (R.take (k+1)) (S ++ [(b:Int)])∧Same0 w3 w9):=⟨hr9,by rw [HT.out];exact HK.out.2.1.snoc (by simpa using hres),(HK.out.2.2.trans' k8).onto hr8 hk9⟩
    go_roundw
    case rel=>first | exact ⟨k+1,S ++ [(b:Int)],by omega,by go_num,HK9⟩ | ((repeat apply Exists.intro);exact ⟨⟨k+1,S ++ [(b:Int)],by omega,by go_num,HK9⟩,rfl⟩)
    case measure=>simp [intOf];omega
   ·have e:N=k:=by omega
    subst e
    have hres:=HK.out.2.1
    rw [List.take_of_length_le (by rw [HN.out];exact Nat.le_refl _)] at hres
    have hSl:S.length=N:=by rw [hres.1,HN.out]
    obtain ⟨qo,qc,e,qI, -,qB⟩:=HK.out.1.ints
    rw [hSl] at e
    subst e
    have k9:=HK.out.2.2
    have K9:=K3.trans' k9
    have CC:=coll_yes (HA.out wr k9).2 (HA.out wr k9).1 HRG.out.1 (fun _ a e=>by have:=HAB.out a e;omega)
    rw [← HN.out] at CC
    have HQ:Hid (IntsAt wr qo S∧(∀ a,qo=some a→w3.heap.size≤a.block)∧ResL l R S∧S.length=N):=⟨qI,fun a e=>(qB a e).1,hres,hSl⟩
    obtain ⟨wo,rfl⟩:∃ wo,wo=wr:=⟨_,rfl⟩
    have s9:=k9.size
    clear hres qI qB HK hSl hlt hk
    go_upto_region 15 with (first | (go_at_call 34;refine CC.mono ?_;rintro e w5 ⟨tv,R', L,l', rfl,hkl,hsl,hrt,hrow5,p5,k5⟩))
    have K5:Same0 w w5:=K9.trans k5 (fun i hi e=>by omega)
    have C5:=told12_any p5.any
    have hRl:R'.length=N:=by rw [hrt.1,HN.out]
    obtain ⟨to', tc,e,tI, -,tB⟩:=hrow5.ints
    rw [hRl] at e
    subst e
    have wfs:=hsl.wf HW.out hkl
    have hl4' : l'.length≤4000:=p5.le
    have H5:Hid (IntsAt w5 to' R' ∧ IntsAt w5 qo S∧IntsAt w5 so R∧R'.length=N∧Wf l' ∧ Bis l l' (fun c d=>L[d]? = some c)∧Rts l L R R' ∧ KL l R L∧∀ k (hk:k<l'.length),l'[k].2.2.2.1=false):=⟨tI,HQ.out.1.kept k5 (fun a e q=>by have:=HQ.out.2.1 a e;omega),(HA.out wo k9).1.at'.kept k5 (fun a e q=>by have:=HAB.out a e;omega),hRl,wfs.1,sld_bis HW.out hkl hsl,hrt,hkl,wfs.2⟩
    obtain ⟨hw', hhw'⟩:∃ x:Int,x=(l.length:Int)-(L.length:Int):=⟨_,rfl⟩
    rw [← hhw']
    clear CC hkl hsl hrow5 tI tB wfs hRl hrt hhw'
    go_upto_region 16 with (first | (go_at_call 32;refine C5.mono ?_;rintro e w6 ⟨nv,rfl,hrow6,k6⟩))
    obtain ⟨no,nc,e⟩:=hrow6.shape
    subst e
    have K6:=K5.trans' k6
    have H6:Hid (IntsAt w6 to' R' ∧ IntsAt w6 qo S∧IntsAt w6 so R∧NsW w6 no l' ∧ NsW w6 lo l∧Same0 w w6):=⟨H5.out.1.same k6,H5.out.2.1.same k6,H5.out.2.2.1.same k6,(NRow.mem hrow6).weak,HS.out w6 K6,K6⟩
    have HAL:Hid (∀ ww,Same0 w6 ww→∀ (z y:Nat),z<l.length→y<l'.length→(∀ c d,Res l z c→Res l' y d→L[d]? = some c)→Calls Try.prog 38 #[.slice lo n lc,.int .i64 (z:Int),.slice no l'.length nc,.int .i64 (y:Int)] ww fun e w' => e=.returned (.bool true)∧Same0 ww w'):=fun ww hk z y hz hy hq=>by
     have:=alike_yes (lc:=lc) (mc:=nc) (H6.out.2.2.2.2.1.same hk) (H6.out.2.2.2.1.same hk) HW.out H5.out.2.2.2.2.1 hle hl4' H5.out.2.2.2.2.2.1 hz hy hq
     rw [← HNE.out] at this
     exact this
    have bN:((N:Int) != (N:Int))=false:=by simp
    clear C5 hrow6
    go_upto_region 19 with fail
    go_loopw [18] (fun v18 wx=>∃ i:Nat,i≤N∧v18=.int .i64 (i:Int)∧Hid (Same0 w6 wx)) (fun v18 _=>N-(intOf v18).toNat)
    case atStart=>exact ⟨0,Nat.zero_le _,rfl,Kept.refl _ _⟩
    case round=>
     obtain ⟨i,hi,rfl,HK⟩:=hrel
     by_cases hlt:i<N
     ·-- of each root: where it is,what it is
      have HC:Hid (∀ ww,Same0 w6 ww→∀ j,j<N→∃ sb sf tb tf qb qf,so=some ⟨sb,sf,none⟩∧to' = some ⟨tb,tf,none⟩∧qo=some ⟨qb,qf,none⟩∧∃ (z c y:Nat),ww.cell? ⟨sb,sf+j,none⟩=some (.int .i64 (z:Int))∧ww.cell? ⟨tb,tf+j,none⟩=some (.int .i64 (y:Int))∧ww.cell? ⟨qb,qf+j,none⟩=some (.int .i64 (c:Int))∧z<l.length∧y<l'.length∧Res l z c∧L[y]? = some c):=fun ww hk j hj=>by
       have hjR:j<R.length:=by rw [← HN.out];exact hj
       have hjT:j<R'.length:=by rw [H5.out.2.2.2.1];exact hj
       have hjS:j<S.length:=by rw [HQ.out.2.2.2];exact hj
       obtain ⟨sb,sf,e1,_,c1⟩:=(H6.out.2.2.1.same hk).get hjR
       obtain ⟨tb,tf,e2,_,c2⟩:=(H6.out.1.same hk).get hjT
       obtain ⟨qb,qf,e3,_,c3⟩:=(H6.out.2.1.same hk).get hjS
       have rg:=HRG.out.1 _ (List.getElem_mem hjR)
       obtain ⟨c,hc1,hc2⟩:=HQ.out.2.2.1.2 j _ _ (List.getElem?_eq_getElem hjR) (List.getElem?_eq_getElem hjS)
       obtain ⟨b,y,_,m1,m2,m3⟩:=H5.out.2.2.2.2.2.2.1.2 j _ _ (List.getElem?_eq_getElem hjR) (List.getElem?_eq_getElem hjT)
       have e:=Res.uniq m1 hc2
       subst e
       have hy:y<l'.length:=(H5.out.2.2.2.2.2.1.app b y m2).2.1
       refine ⟨sb,sf,tb,tf,qb,qf,e1,e2,e3,R[j].toNat,b,y,?_,?_,?_,by omega,hy,hc2,m2⟩
       ·rw [Int.toNat_of_nonneg rg.1];exact c1
       ·rw [m3] at c2;exact c2
       ·rw [hc1] at c3;exact c3
      obtain ⟨sb,sf,tb,tf,qb,qf,e1,e2,e3,z,c,y,cz,cy,cc,hzl,hyl,hrz,hLy⟩:=HC.out wr HK.out i hlt
      subst e1 e2 e3
      have CA:∀ ww,Same0 w6 ww→Calls Try.prog 38 #[.slice lo n lc,.int .i64 (z:Int),.slice no l'.length nc,.int .i64 (y:Int)] ww fun e w' => e=.returned (.bool true)∧Same0 ww w' := fun ww hk=>HAL.out ww hk z y hzl hyl (fun c' d' r1 r2=>by
       have q1:=Res.uniq hrz r1
       have q2:=Res.uniq (Res.self hyl (H5.out.2.2.2.2.2.2.2.2 y hyl)) r2
       subst q1 q2
       exact hLy)
      have HCA:=(show Hid _ from CA)
      have q5:(0:Int)≤(i:Int):=by omega
      have q6:(i:Int)<(N:Int):=by omega
      have iw:IntKind.i64.wrap ((i:Int)+1)=(i:Int)+1:=by rw [IntKind.wrap_i64];have:=HNZ.out;omega
      clear CA hrz hLy hzl hyl
      go_upto_region 21 with fail
      go_cut [19] from 90 to 100 (fun s19 wc=>s19=.bool true∧Hid (Same0 w6 wc))
      case first=>
       go_region_with (go_at_call 38;refine (HCA.out _ (by repeat (first | exact HK.out | refine Kept.drew ?_ | refine Kept.drewN ?_ _))).mono ?_;rintro e w8 ⟨rfl,k8⟩)
       all_goals
        go_wp2_with fail
        go_meet
        case rel=>exact ⟨rfl,by first | exact (Kept.drew HK.out).trans' k8 | exact (show Same0 w6 _ from Kept.drew HK.out).trans' k8 | exact HK.out.trans' k8⟩
      case rest=>
      obtain ⟨rfl,HKc⟩:=hcut
      have HKL:Hid (KL l R L):=H5.out.2.2.2.2.2.2.2.1
      obtain ⟨wi,rfl⟩:∃ wi,wi=wc:=⟨_,rfl⟩
      clear cz cy cc HCA HK
      go_wp2
      go_loopw [20] (fun v20 wx=>∃ k:Nat,k≤i∧v20=.int .i64 (k:Int)∧Hid (Same0 w6 wx)) (fun v20 _=>i-(intOf v20).toNat)
      case atStart=>exact ⟨0,Nat.zero_le _,rfl,HKc⟩
      case round=>
       clear HKc
       obtain ⟨k,hk,rfl,HK⟩:=hrel
       by_cases hkl:k<i
       ·obtain ⟨sb1,sf1,tb1,tf1,qb1,qf1,e1,e2,e3,z1,c1,y1, -,cy1,cc1, -, -, -,hL1⟩:=HC.out wr HK.out i hlt
        cases e1;cases e2;cases e3
        obtain ⟨sb2,sf2,tb2,tf2,qb2,qf2,e1,e2,e3,z2,c2,y2, -,cy2,cc2, -, -, -,hL2⟩:=HC.out wr HK.out k (by omega)
        cases e1;cases e2;cases e3
        have hiff:c1=c2 ↔ y1=y2:=by
         constructor
         ·intro e;subst e;exact rise_ne HKL.out.1 hL1 hL2
         ·intro e;subst e;rw [hL1] at hL2;exact Option.some.inj hL2
        have t5:(0:Int)≤(k:Int):=by omega
        have t6:(k:Int)<(i:Int):=by omega
        have t7:(k:Int)<(N:Int):=by omega
        have iw2:IntKind.i64.wrap ((k:Int)+1)=(k:Int)+1:=by rw [IntKind.wrap_i64];have:=HNZ.out;omega
        have HKN:Hid (∀ q,Hid (Same0 w6 (wr.drewN q))):=fun q=>Kept.drewN HK.out q
        clear hL1 hL2
        by_cases e:c1=c2
        ·have ey:=hiff.1 e
         subst e ey
         have g1:((c1:Int) == (c1:Int))=true:=by simp
         have g2:((y1:Int) == (y1:Int))=true:=by simp
         clear hiff HC HAL
         go_upto_region 27 with fail
         go_quiet (fail)
         go_wp2
         go_roundw
         case rel=>first | exact ⟨k+1,by omega,by go_num,HKN.out _⟩ | ((repeat apply Exists.intro);exact ⟨⟨k+1,by omega,by go_num,HKN.out _⟩,rfl⟩)
         case measure=>simp [intOf];omega
        ·have ey:¬ y1=y2:=fun q=>e (hiff.2 q)
         have g1:((c1:Int) == (c2:Int))=false:=by simp;omega
         have g2:((y1:Int) == (y2:Int))=false:=by simp;omega
         have g3:(c1 == c2)=false:=by simpa using e
         have g4:(y1 == y2)=false:=by simpa using ey
         clear hiff HC HAL e ey
         go_upto_region 27 with fail
         go_quiet (fail)
         go_wp2
         go_roundw
         case rel=>first | exact ⟨k+1,by omega,by go_num,HKN.out _⟩ | ((repeat apply Exists.intro);exact ⟨⟨k+1,by omega,by go_num,HKN.out _⟩,rfl⟩)
         case measure=>simp [intOf];omega
       ·have e:k=i:=by omega
        have g9:¬ (k:Int)<(i:Int):=by omega
        clear e hkl hk HC HAL
        go_wp2
        go_roundw
        case rel=>first | exact ⟨i+1,by omega,by go_num,HK⟩ | ((repeat apply Exists.intro);exact ⟨⟨i+1,by omega,by go_num,HK⟩,rfl⟩)
        case measure=>simp [intOf];omega
     ·have e:N=i:=by omega
      subst e
      have KK:=(H6.out.2.2.2.2.2.trans' HK.out).below
      go_wp2
      go_ret
      exact ⟨rfl,KK⟩
end Go.Proofs.Ytcbonegkfppdiaa
namespace Go.Proofs.Ytcbonegkfppdiaa
set_option maxRecDepth 100000
set_option linter.unusedVariables false
open Go.RowKit Go.Deep
theorem cells_node:Try.prog.cellsOf 47=5:=by kernel_rfl
theorem bytes_node:Try.prog.bytesOf 47=56:=by kernel_rfl
theorem cells_boolT:Try.prog.cellsOf 4=1:=by kernel_rfl
theorem cells_intsT:Try.prog.cellsOf 31=1:=by kernel_rfl
def NdI (x:Nd):Prop:=I64 x.1∧(∀ z∈x.2.1,I64 z)∧I64 x.2.2.1∧I64 x.2.2.2.2
section
variable {H : Type} {enc : TypeId × Value → H} {w : World} {spare : Nat → Bool} {held : Bool}
theorem weightsAll_mem11 {P:Program} {e:TypeId} {l:List (DataW H)} {d:DataW H} (h:d∈l) {n:Nat} (hn:n∈d.weights P e):n∈DataW.weightsAll P e l:=by
 induction l with
 | nil=>cases h
 | cons x r ih=>
  simp only [DataW.weightsAll,List.mem_append]
  rcases List.mem_cons.1 h with q | q
  ·subst q;exact .inl hn
  ·exact .inr (ih q)
set_option maxRecDepth 100000 in
theorem open_elems11 {t e c fuel:Nat} {ao:Option Addr} {len cap:Nat} {x:DataW H × List MemPlace} (ht:Try.prog.underlying t=some (.slice e)) (hc:Try.prog.cellsOf e=c) (h0:0<c) (h:DataW.trod enc Try.prog w 0 spare held fuel t [.slice ao len cap]=some x) (hw:∀ n∈x.1.weights Try.prog t,n≤reachBytes) :
  (ao=none∧len=0∧cap=0)∨∃ a,ao=some a∧len≤cap∧cap≤maxLen∧len * Try.prog.bytesOf e≤reachBytes∧∀ i,i<len→a=⟨a.block,a.off,none⟩∧a.block<w.heap.size∧∃ cs n y,cs.length=c∧(∀ j,j<c→w.cell? ⟨a.block,a.off+i * c+j,none⟩=cs[j]?)∧DataW.trod enc Try.prog w 0 spare held n e cs=some y∧∀ n∈y.1.weights Try.prog e,n≤reachBytes:=by
 rcases open_slice ht h with ⟨hcs,_⟩ | ⟨a,len', cap', m,n,D,Pl,hcs,_,hl,hm,hmm,rfl,hx⟩
 ·simp at hcs;exact .inl ⟨hcs.1,hcs.2.1,hcs.2.2⟩
 ·simp at hcs
  obtain ⟨rfl,rfl,rfl⟩:=hcs
  have hb:len * Try.prog.bytesOf e≤reachBytes:=by
   have:=hw ((((List.range len).map D).length+((List.range (m-len)).map fun j=>D (len+j)).length) * Try.prog.bytesOf e) (by simp [DataW.weights,ht])
   refine Nat.le_trans (Nat.mul_le_mul_right _ ?_) this
   simp
  refine .inr ⟨a,rfl,hl,hm,hb,fun i hi=>?_⟩
  have hmi:i<m:=by rw [hmm];split <;> omega
  have hm0:0<m:=by omega
  obtain ⟨cs0,g0,_⟩:=hx 0 hm0
  rw [hc] at g0
  obtain ⟨_,gl,gc⟩:=World.cells?_some g0
  have hsp:a.spot=none:=by
   have:=gc 0 h0
   have hv:cs0[0]? = some (cs0[0]'(by omega)):=List.getElem?_eq_getElem (by omega)
   rw [hv] at this
   simp [Addr.add] at this
   exact World.cell?_spot this
  have hlt:a.block<w.heap.size:=World.cells?_block (by simpa [Addr.add] using g0) h0
  have ea:a=⟨a.block,a.off,none⟩:=by cases a;simp_all
  obtain ⟨cs,g1,g2⟩:=hx i hmi
  rw [hc] at g1
  obtain ⟨_,gl1,gc1⟩:=World.cells?_some g1
  refine ⟨ea,hlt,cs,n,_,gl1,fun j hj=>?_,g2,fun k hk=>hw k ?_⟩
  ·rw [← gc1 j hj,add_add]
   congr 1
   unfold Addr.add
   split
   ·rw [ea];simp;omega
   ·simp
  ·simp only [DataW.weights,ht,List.mem_cons,List.mem_append]
   exact .inr (.inl (weightsAll_mem11 (List.mem_map.2 ⟨i,by simpa using hi,rfl⟩) hk))
theorem trod_node {fuel:Nat} {cs:List Value} {x:DataW H × List MemPlace} (hl:cs.length=5) (h:DataW.trod enc Try.prog w 0 spare held fuel 47 cs=some x) (hw:∀ n∈x.1.weights Try.prog 47,n≤reachBytes):∃ (y:Nd) (xo:Option Addr) (xc:Nat),NdI y∧Arg w xo y.2.1 xc∧cs=[.int .i64 y.1,.slice xo y.2.1.length xc,.int .i64 y.2.2.1,.bool y.2.2.2.1,.int .i64 y.2.2.2.2]:=by
 obtain ⟨y0,y1,y2,y3,y4,n', hyd,hl', g0,g1,g2,g3,g4⟩:=trod_struct5 Try.underlying47 h
 match cs,hl with
 | [c0,c1,c2,c3,c4],_=>
  simp only [cells_int,cells_boolT,cells_intsT,List.drop_zero,List.take_succ_cons,List.take_zero,List.drop_succ_cons] at g0 g1 g2 g3 g4
  obtain ⟨z0,e0,_,w0⟩:=DataW.trod_int Try.underlying3 g0
  obtain ⟨z2,e2,_,w2⟩:=DataW.trod_int Try.underlying3 g2
  obtain ⟨z3,e3,_⟩:=DataW.trod_bool Try.underlying4 g3
  obtain ⟨z4,e4,_,w4⟩:=DataW.trod_int Try.underlying3 g4
  have hyw1:∀ n∈y1.1.weights Try.prog 31,n≤reachBytes:=fun n hn=>hw n (by
   rw [hyd]
   simp only [DataW.weights,Try.underlying47]
   simp [DataW.weightsEach,hn])
  obtain ⟨xo,len,xc,e1⟩:=slice_one Try.underlying31 g1
  subst e1
  obtain ⟨xs,hxl,hxa,hxi⟩:=open_ints64 Try.underlying31 g1 hyw1
  subst hxl
  simp only [List.cons.injEq,and_true] at e0 e2 e3 e4
  subst e0 e2 e3 e4
  exact ⟨(z0,xs,z2,z3,z4),xo,xc,⟨i64_wf w0,hxi,i64_wf w2,i64_wf w4⟩,hxa,rfl⟩
theorem open_nodes {fuel:Nat} {ao:Option Addr} {len cap:Nat} {x:DataW H × List MemPlace} (h:DataW.trod enc Try.prog w 0 spare held fuel 32 [.slice ao len cap]=some x) (hw:∀ n∈x.1.weights Try.prog 32,n≤reachBytes) :
  ∃ l:List Nd,l.length=len∧NsW w ao l∧len * 56≤140737488351232∧len≤cap∧(ao=none→len=0∧cap=0)∧∀ y∈l,NdI y:=by
 rcases open_elems11 Try.underlying32 cells_node (by omega) h hw with ⟨rfl,rfl,rfl⟩ | ⟨a,rfl,hl1,hl2,hsz,hall⟩
 ·exact ⟨[],rfl,.inl rfl,by omega,Nat.le_refl _,fun _=>⟨rfl,rfl⟩,by simp⟩
 ·rw [bytes_node] at hsz
  have each:∀ i,i<len→∃ y:Nd,NdI y∧∃ xo xc,w.cell? ⟨a.block,a.off+i * 5,none⟩=some (.int .i64 y.1)∧w.cell? ⟨a.block,a.off+i * 5+1,none⟩=some (.slice xo y.2.1.length xc)∧w.cell? ⟨a.block,a.off+i * 5+2,none⟩=some (.int .i64 y.2.2.1)∧w.cell? ⟨a.block,a.off+i * 5+3,none⟩=some (.bool y.2.2.2.1)∧w.cell? ⟨a.block,a.off+i * 5+4,none⟩=some (.int .i64 y.2.2.2.2)∧Arg w xo y.2.1 xc:=by
   intro i hi
   obtain ⟨_,_,cs,n,y,hl,hcell,hy,hyw⟩:=hall i hi
   obtain ⟨z,xo,xc,h1,h2,rfl⟩:=trod_node hl hy hyw
   exact ⟨z,h1,xo,xc,by simpa using hcell 0 (by omega),by simpa using hcell 1 (by omega),by simpa using hcell 2 (by omega),by simpa using hcell 3 (by omega),by simpa using hcell 4 (by omega),h2⟩
  obtain ⟨f,hf⟩:=Classical.axiomOfChoice (fun i:Fin len=>each i i.2)
  refine ⟨List.ofFn f,by simp,?_,by simpa [reachBytes] using hsz,hl1,(fun e=>by cases e),fun y hy=>?_⟩
  ·by_cases h0:len=0
   ·subst h0;exact .inl (by simp)
   ·obtain ⟨ea,hlt,_⟩:=hall 0 (by omega)
    refine .inr ⟨a.block,a.off,by rw [← ea],hlt,fun i hi=>?_⟩
    have hi' : i<len:=by simpa using hi
    simpa using (hf ⟨i,hi'⟩).2
  ·obtain ⟨i,rfl⟩:=List.mem_ofFn.1 hy
   exact (hf i).1
end
end Go.Proofs.Ytcbonegkfppdiaa
