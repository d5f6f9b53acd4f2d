import Derived.Test.YtblgblgchkonhaaGreatGB06
import Derived.Test.YtblgblgchkonhaaGreatGB08
import Derived.Test.YtblgblgchkonhaaGreatGB02
import Derived.Test.YtblgblgchkonhaaGreatGB07
import Derived.Test.YtblgblgchkonhaaGreatGB03
import Derived.Deep.DeepAppendWide
import Derived.BigQuiet
import Derived.Deep.RegionLaw
import Derived.Deep.AppendLies
namespace Go.Proofs.YtblgblgchkonhaaGreat
set_option maxRecDepth 100000
set_option linter.unusedVariables false
open Go.RowKit
attribute [local go_sem ↓] Go.wp_at_zero Go.wp_at_succ
def Gone (N:List Nd) (top:Nat) (p:List Int) (k b:Nat):Prop:=LdR N (top:Int) (p.take k) (b:Int)∧∃ hb:b<N.length,N[b].2.2.2.1=false
theorem Gone.next {N:List Nd} {top k b c:Nat} {p:List Int} (h:Gone N top p k b) (hk:k<p.length) {hb:b<N.length} {m:Nat} (hm:m<N[b].2.1.length) (hp:p[k]=(m:Int)) (hc:Res N (N[b].2.1[m]).toNat c):Gone N top p (k+1) c:=by
 obtain ⟨h1,hb', h2⟩:=h
 refine ⟨?_,hc.2⟩
 rw [List.take_succ_eq_append_getElem hk]
 refine h1.snoc (.inl ⟨b,b,c,hb,by rw [hp];simpa using hm,rfl,Res.self hb h2,by omega,?_,rfl⟩)
 simp only [hp]
 simpa using hc
theorem Gone.nowhere {N:List Nd} {top k b:Nat} {p:List Int} (h:Gone N top p k b) (hk:k<p.length) (hb:b<N.length) (hn:¬ (0≤p[k]∧p[k]<(N[b].2.1.length:Int))):LdR N (top:Int) p (-1):=by
 obtain ⟨h1,hb', h2⟩:=h
 have h3:LdR N (top:Int) (p.take (k+1)) (-1):=by
  rw [List.take_succ_eq_append_getElem hk]
  refine h1.snoc (.inr ⟨rfl,fun ⟨i', b', hb2,e1,e2,e3,e4⟩=>?_⟩)
  obtain rfl:b=i' := by omega
  obtain rfl:=(Res.self hb h2).uniq e2
  exact hn ⟨e3,e4⟩
 have:=h3.app (ld_dead N (p.drop (k+1)))
 rwa [List.take_append_drop] at this
set_option maxHeartbeats 4000000 in
theorem rleads_any {w:World} {r:Nat} {N:List Nd} {ao:Option Addr} {cap:Nat} (q:RdH w r N ao cap) (i:Nat) (hi:i<N.length) {yo:Option Addr} {yc:Nat} {p:List Int} (hy:IntsAt w yo p) (hpm:p.length≤maxLen):Calls Tryz.prog 45 #[.pointer (some ⟨r,0,none⟩),.int .i64 (i:Int),.slice yo p.length yc] w fun e w' => ∃ (top:Nat) (y:Int),e=.returned (.int .i64 y)∧Res N i top∧LdR N (top:Int) p y∧Same0 w w' := by
 have hle:=q.le
 have C:=rres_yes q.c1 q.ns (by unfold maxLen;omega) q.inl q.ac i hi
 have HQ:Hid (∀ ww,Same0 w ww→RdH ww r N ao cap):=fun ww hk=>q.same hk
 have HY:Hid (∀ ww,Same0 w ww→IntsAt ww yo p):=fun ww hk=>hy.same hk
 unfold maxLen at hpm
 clear q hy hi
 go_enter Tryz.func45,Tryz.ntmps45
 go_upto_region 4 with (first | (go_at_call 73;refine C.mono ?_;rintro e w1 ⟨top,rfl,hr,h1⟩;have h1:=h1.symm;subst h1))
 have HR:Hid (Res N i top):=hr
 have G0:Hid (Gone N top p 0 top):=⟨by rw [List.take_zero];rfl,hr.2⟩
 clear C hr
 go_upto_region 5 with fail
 go_loopw [1,8] (fun s1 s8 wr=>∃ k b:Nat,k≤p.length∧s8=.int .i64 (k:Int)∧s1=.int .i64 (b:Int)∧Hid (Gone N top p k b)∧Hid (Same0 w wr)) (fun _ s8 _=>p.length-(intOf s8).toNat)
 case atStart=>exact ⟨0,top,Nat.zero_le _,rfl,rfl,G0,Kept.refl _ _⟩
 case round=>
  clear G0
  obtain ⟨k,b,hk,rfl,rfl,G,KR⟩:=hrel
  by_cases hlt:k<p.length
  ·have q0:Hid (RdH wr r N ao cap):=HQ.out wr KR.out
   have c1:=q0.out.c1
   obtain ⟨hb, -⟩:=G.out.2
   obtain ⟨nb,noff,xo,xc,rfl,hcell⟩:=q0.out.node hb
   obtain ⟨⟨d0,d1,d2,d3,d4⟩,dI⟩:=hcell wr (Kept.refl _ _)
   obtain ⟨yb,yoff,rfl,hyb,hyc⟩:=(HY.out wr KR.out).get hlt
   have HYY:Hid (∀ ww,Same0 wr ww→ww.cell? ⟨yb,yoff+k,none⟩=some (.int .i64 p[k])):=fun ww hk=>(hk.cell (p:=⟨yb,yoff+k,none⟩) hyb (fun f=>f)).trans hyc
   have i1:(0:Int)≤(b:Int):=by omega
   have i2:(b:Int)<(N.length:Int):=by omega
   have j1:(0:Int)≤(k:Int):=by omega
   have j2:(k:Int)<(p.length:Int):=by omega
   go_upto_region 8 with fail
   obtain ⟨X1,hX1⟩:∃ X1,X1=wr.alloc (.cells #[.int .i64 N[b].1,.slice xo N[b].2.1.length xc,.int .i64 N[b].2.2.1,.bool N[b].2.2.2.1,.int .i64 N[b].2.2.2.2] 76):=⟨_,rfl⟩
   rw [← hX1]
   have kx:Same0 wr X1:=by rw [hX1];exact (Kept.refl _ _).alloc _
   have x1:X1.cell? ⟨wr.heap.size,1,none⟩=some (.slice xo N[b].2.1.length xc):=by rw [hX1];exact cellAt (heap_alloc_new _ _) 1
   have y1:=HYY.out X1 kx
   have hlen:N[b].2.1.length≤6:=(may_facts (q0.out.may _ (List.getElem_mem hb))).2.1
   have NO:Hid (¬ (0≤p[k]∧p[k]<(N[b].2.1.length:Int))→LdR N (top:Int) p (-1)):=fun hn=>G.out.nowhere hlt hb hn
   have YES:Hid (∀ (m c:Nat) (hm:m<N[b].2.1.length),p[k]=(m:Int)→Res N N[b].2.1[m].toNat c→Gone N top p (k+1) c):=fun m c hm hn hc=>G.out.next hlt hm hn hc
   have KF:Hid (∀ m,Same0 wr (X1.drewN m)):=fun m=>kx.trans' ((Kept.refl _ _).drewN m)
   have hall:=(may_facts (q0.out.may _ (List.getElem_mem hb))).2.2.2.2.1
   have HCR:Hid (∀ ww (j:Nat),Same0 wr ww→j<N.length→Calls Tryz.prog 73 #[.pointer (some ⟨r,0,none⟩),.int .i64 (j:Int)] ww fun e w' => ∃ c:Nat,e=.returned (.tuple #[.int .i64 (c:Int),.int .i64 0])∧Res N j c∧w' = ww):=fun ww j hk hj=>rres_yes (q0.out.same hk).c1 (q0.out.same hk).ns (by unfold maxLen;omega) q0.out.inl q0.out.ac j hj
   have HALL:Hid (∀ z∈N[b].2.1,0≤z∧z<(N.length:Int)):=hall
   have dX:Hid (∀ ww,Same0 wr ww→IntsAt ww xo N[b].2.1):=fun ww hk=>(hcell ww hk).2
   clear hX1 d0 d1 d2 d3 d4 dI hcell hall hyc hyb c1 HYY G
   generalize p[k]=n at *
   by_cases hn0:n<0
   ·have H:=NO.out (by omega)
    have HH:Hid (LdR N (top:Int) p (-1)):=H
    clear H NO YES
    go_quiet (fail)
    go_wp2
    go_ret
    exact ⟨top, -1,rfl,HR.out,HH.out,KR.out.trans' (KF.out _)⟩
   ·by_cases hn1:(N[b].2.1.length:Int)≤n
    ·have HH:Hid (LdR N (top:Int) p (-1)):=NO.out (by omega)
     clear NO YES
     go_quiet (fail)
     go_wp2
     go_ret
     exact ⟨top, -1,rfl,HR.out,HH.out,KR.out.trans' (KF.out _)⟩
    ·obtain ⟨m,rfl⟩:∃ m:Nat,n=(m:Int):=⟨n.toNat,by omega⟩
     have hm:m<N[b].2.1.length:=by omega
     have hz:=HALL.out _ (List.getElem_mem hm)
     obtain ⟨jj,ej⟩:∃ jj:Nat,N[b].2.1[m]=(jj:Int):=⟨N[b].2.1[m].toNat,by omega⟩
     obtain ⟨xb,xoff,rfl,hxb,hxc⟩:=(dX.out X1 kx).get hm
     rw [ej] at hxc
     have YY:Hid (∀ c:Nat,Res N jj c→Gone N top p (k+1) c):=fun c hc=>YES.out m c hm rfl (by rw [ej];simpa using hc)
     have i3:(0:Int)≤(m:Int):=by omega
     have i4:(m:Int)<(N[b].2.1.length:Int):=by omega
     have hjj:jj<N.length:=by omega
     clear hz ej YES HALL dX NO
     go_quiet (fail)
     have K2:Hid (Same0 wr (X1.drewN nq).drew):=Same0.trans' (KF.out nq) ((Kept.refl _ _).drew)
     have S0:(X1.drewN nq).drew.cell? ⟨wr.heap.size,1,none⟩=some (.slice (some ⟨xb,xoff,none⟩) N[b].2.1.length xc)∧(X1.drewN nq).drew.cell? ⟨yb,yoff+k,none⟩=some (.int .i64 (m:Int))∧(X1.drewN nq).drew.cell? ⟨xb,xoff+m,none⟩=some (.int .i64 (jj:Int)):=⟨x1,y1,hxc⟩
     have S1:(X1.drewN (nq+1)).cell? ⟨wr.heap.size,1,none⟩=some (.slice (some ⟨xb,xoff,none⟩) N[b].2.1.length xc)∧(X1.drewN (nq+1)).cell? ⟨yb,yoff+k,none⟩=some (.int .i64 (m:Int))∧(X1.drewN (nq+1)).cell? ⟨xb,xoff+m,none⟩=some (.int .i64 (jj:Int)):=⟨x1,y1,hxc⟩
     have K3:Hid (Same0 w (X1.drewN (nq+1))):=KR.out.trans' (KF.out (nq+1))
     have K4:Hid (Same0 w (X1.drewN nq).drew):=KR.out.trans' K2.out
     have CR:=HCR.out (X1.drewN nq).drew jj K2.out hjj
     clear KR
     go_upto_region 10 with fail
     go_region_held3 (fun ww=>ww.cell? ⟨wr.heap.size,1,none⟩=some (.slice (some ⟨xb,xoff,none⟩) N[b].2.1.length xc)∧ww.cell? ⟨yb,yoff+k,none⟩=some (.int .i64 (m:Int))∧ww.cell? ⟨xb,xoff+m,none⟩=some (.int .i64 (jj:Int))) (with_reducible first | exact S0 | exact S1) (first | (go_at_call 73;refine CR.mono ?_;rintro e w2 ⟨c,rfl,hc,h2⟩;have h2:=h2.symm;subst h2))
     go_wp2_with fail
     first
      | exact ⟨⟨k+1,c,by omega,by go_num,rfl,YY.out _ hc,K3⟩,by simp [intOf];omega⟩
      | exact ⟨⟨k+1,c,by omega,by go_num,rfl,YY.out _ hc,K4⟩,by simp [intOf];omega⟩
  ·obtain rfl:k=p.length:=by omega
   have HL:Hid (LdR N (top:Int) p (b:Int)):=by
    have:=G.out.1
    rwa [List.take_length] at this
   clear G
   go_wp2
   go_ret
   exact ⟨top,b,rfl,HR.out,HL.out,KR.out⟩
set_option maxHeartbeats 1000000 in
theorem arity13_any {n:Nat} {w:World} {rv:Value} {L:List Sym} (h:Rl n w rv L) (x:Int) (hx:x<(L.length:Int)) (po:Option Addr) (pl pc:Nat):Calls Tryz.prog 47 #[rv,.agg #[.int .i64 x,.slice po pl pc]] w fun e w' => e=.returned (.int .i64 (arN L x:Int))∧Same0 w w' := by
 obtain ⟨W0,hW0⟩:∃ W0,W0=w.alloc (.cells #[.int .i64 x,.slice po pl pc] 73):=⟨_,rfl⟩
 have k0:Same0 w W0:=by rw [hW0];exact (Kept.refl _ w).alloc _
 have b0:W0.cell? ⟨w.heap.size,0,none⟩=some (.int .i64 x):=by rw [hW0];exact cellAt (heap_alloc_new w _) 0
 obtain ⟨hr,_,ha,hlen⟩:=h.same k0
 obtain ⟨ao,cap,rfl⟩:=row_shape hr
 by_cases h0:x<0
 ·have H:Hid (arN L x=0):=ar_no (.inl h0)
  clear hr
  go_enter Tryz.func47,Tryz.ntmps47
  go_upto_region 1 with fail
  rw [← hW0]
  clear hW0
  go_wp2
  go_ret
  exact ⟨by rw [H.out];rfl,k0⟩
 ·obtain ⟨i,rfl⟩:∃ i:Nat,x=(i:Int):=⟨x.toNat,by omega⟩
  have hi:i<L.length:=by omega
  have H:Hid (((arN L (i:Int):Nat):Int)=L[i].ar):=ar_of ha hi
  obtain ⟨g,rfl,hg,x0,x1,x2⟩:=row_sym hr hi
  have i1:(0:Int)≤(i:Int):=by omega
  have i2:(i:Int)<(L.length:Int):=by omega
  clear hr h0
  go_enter Tryz.func47,Tryz.ntmps47
  go_upto_region 1 with fail
  rw [← hW0]
  clear hW0
  go_wp2
  go_ret
  exact ⟨by rw [H.out];rfl,k0⟩
def endJ (L:List Sym) (t:List Int) (p:Nat):Int:=match endO L t p with | some q=>(q:Int) | none=>-1
set_option maxHeartbeats 2000000 in
theorem end13_any {n:Nat} {w:World} {rv:Value} {L:List Sym} (h:Rl n w rv L) {go:Option Addr} {gc:Nat} {Q:List (Int × List Int)} (hq:PaAt w go Q) (hl:Q.length≤4398046511104) (hs:∀ x∈Q,x.1<(L.length:Int)) (p0:Nat) (hp0:p0≤Q.length) :
  Calls Tryz.prog 46 #[rv,.slice go Q.length gc,.int .i64 (p0:Int)] w fun e w' => e=.returned (.int .i64 (endJ L (syl Q) p0))∧Same0 w w' := by
 have ha:=h.2.2.1
 have HR:Hid (∀ ww,Same0 w ww→Rl n ww rv L∧PaAt ww go Q):=fun ww hk=>⟨h.same hk,hq.same hk⟩
 have HS:Hid (∀ x∈Q,x.1<(L.length:Int)):=hs
 have HE:Hid ((syl Q).length=Q.length):=syl_len Q
 clear h hq hs
 go_enter Tryz.func46,Tryz.ntmps46
 go_upto_region 2 with fail
 go_loopw [2,7] (fun at' la wr=>∃ p k:Nat,p0≤p∧p≤Q.length∧at' = .int .i64 (p:Int)∧la=.int .i64 (k:Int)∧k≤1+6 * (p-p0)∧Hid (endO L (syl Q) p0=(scan L k ((syl Q).drop p)).map (p + ·))∧Hid (Same0 w wr)) (fun at' _ _=>Q.length+1-(intOf at').toNat)
 case atStart=>exact ⟨p0,1,Nat.le_refl _,hp0,rfl,rfl,by omega,rfl,Kept.refl _ _⟩
 case round=>
  obtain ⟨p,k,h1,h2,rfl,rfl,h3,h4,hw⟩:=hrel
  cases k with
  | zero=>
   have H6:Hid (endJ L (syl Q) p0=(p:Int)):=by
    have:=h4.out
    simp [scan_zero] at this
    show _=_
    simp [endJ,this]
   have KW:Hid (Same0 w wr):=hw
   clear h4 hw
   go_wp2
   go_ret
   exact ⟨by rw [H6.out];rfl,KW.out⟩
  | succ k=>
   have j1:(0:Int)<(k:Int)+1:=by omega
   by_cases hlt:p<Q.length
   ·obtain ⟨PR,PA⟩:=HR.out wr hw.out
    obtain ⟨tb,off,rfl,htb,hc⟩:=PA.resolve_left (fun e=>by rw [e] at hlt;simp at hlt)
    obtain ⟨ao,ac,c0,c1, -, -⟩:=hc p hlt
    have hlt' : p<(syl Q).length:=by rw [HE.out];exact hlt
    have c:=arity13_any PR Q[p].1 (HS.out _ (List.getElem_mem hlt)) ao Q[p].2.length ac
    have hle:=arN_le ha Q[p].1
    have H5:Hid (endO L (syl Q) p0=(scan L (k+arN L Q[p].1) ((syl Q).drop (p+1))).map (p+1 + ·)):=by
     have:=endO_round h4.out hlt'
     rwa [syl_at Q hlt] at this
    have i1:(0:Int)≤(p:Int):=by omega
    have i2:(p:Int)<(Q.length:Int):=by omega
    have i3:¬ ((Q.length:Int)≤(p:Int)):=by omega
    have KW:Hid (Same0 w wr):=hw
    clear h4 hc PR PA hw hlt'
    generalize arN L Q[p].1=a at *
    generalize Q[p].1=s at *
    generalize Q[p].2.length=pl at *
    go_upto_region 6 with (first | (go_at_call 47;refine c.mono ?_;rintro e w1 ⟨rfl,k1⟩))
    have K1:Hid (Same0 w w1):=KW.out.trans' k1
    clear c k1 KW
    go_wp2
    refine ⟨⟨p+1,k+a,by omega,by omega,by go_num,by first | (congr 1;omega) | congr 1,by omega,H5,K1⟩,by simp [intOf];omega⟩
   ·have H6:Hid (endJ L (syl Q) p0 = -1):=by
     have h4:=h4.out
     rw [List.drop_eq_nil_of_le (by rw [HE.out];omega)] at h4
     show _=_
     simp [scan] at h4
     simp [endJ,h4]
    have i3:(Q.length:Int)≤(p:Int):=by omega
    have KW:Hid (Same0 w wr):=hw
    clear h4 hw
    go_wp2
    go_ret
    exact ⟨by rw [H6.out];rfl,KW.out⟩
theorem as_flt (v:Value) (xT:TypeId) (w:World):(Instr.typeAssert (.iface 92 v) xT 92 true).run Tryz.prog w=.ok (.tuple #[v,.bool true]) w:=by kernel_rfl
theorem as_fnil (xT:TypeId) (w:World):(Instr.typeAssert .nilIface xT 92 true).run Tryz.prog w=.ok (.tuple #[.pointer none,.bool false]) w:=by kernel_rfl
theorem as_enil (xT:TypeId) (w:World):(Instr.typeAssert .nilIface xT 40 true).run Tryz.prog w=.ok (.tuple #[.int .i64 0,.bool false]) w:=by kernel_rfl
def fltV (c a y:Int):Value:=.agg #[.int .i64 c,.int .i64 a,.int .i64 y,.bool false,.int .i64 0,.int .i64 0]
theorem neq_efault (v:Value) (w:World):(binOp .neq 37 (.iface 92 v) .nilIface).run Tryz.prog w=.ok (.bool true) w:=by kernel_rfl
theorem neq_enil (w:World):(binOp .neq 37 .nilIface .nilIface).run Tryz.prog w=.ok (.bool false) w:=by kernel_rfl
theorem neq_eerr (v:Value) (w:World):(binOp .neq 37 (.iface 40 v) .nilIface).run Tryz.prog w=.ok (.bool true) w:=by kernel_rfl
set_option maxHeartbeats 2000000 in
theorem fault_none (w:World):Calls Tryz.prog 11 #[.nilIface] w fun e w' => e=.returned (fltV 0 0 0)∧Same0 w w' := by
 obtain ⟨W0,hW0⟩:∃ W0,W0=w.alloc (.cells #[.int .i64 0,.int .i64 0,.int .i64 0,.bool false,.int .i64 0,.int .i64 0] 42):=⟨_,rfl⟩
 have k0:Same0 w W0:=by rw [hW0];exact (Kept.refl _ w).alloc _
 have h0:W0.heap[w.heap.size]? = some (.cells #[.int .i64 0,.int .i64 0,.int .i64 0,.bool false,.int .i64 0,.int .i64 0] 42 (0,0)):=by rw [hW0];exact heap_alloc_new w _
 have b0:W0.cell? ⟨w.heap.size,0,none⟩=some (.int .i64 0):=cellAt h0 0
 have b1:W0.cell? ⟨w.heap.size,1,none⟩=some (.int .i64 0):=cellAt h0 1
 have b2:W0.cell? ⟨w.heap.size,2,none⟩=some (.int .i64 0):=cellAt h0 2
 have b3:W0.cell? ⟨w.heap.size,3,none⟩=some (.bool false):=cellAt h0 3
 have b4:W0.cell? ⟨w.heap.size,4,none⟩=some (.int .i64 0):=cellAt h0 4
 have b5:W0.cell? ⟨w.heap.size,5,none⟩=some (.int .i64 0):=cellAt h0 5
 have g0:=frozenAt h0 0
 have g1:=frozenAt h0 1
 have g2:=frozenAt h0 2
 have g3:=frozenAt h0 3
 have g4:=frozenAt h0 4
 have g5:=frozenAt h0 5
 have a1:=as_fnil
 have n1:=neq_enil
 have KF:Hid (∀ ww,Kept (fun k=>k=w.heap.size) W0 ww→Same0 w ww):=fun ww hk=>k0.trans hk (fun i hi e=>by omega)
 clear h0
 go_enter Tryz.func11,Tryz.ntmps11
 go_upto_region 1 with fail
 rw [← hW0]
 clear hW0
 go_wp2
 refine bodyPost_ret (v:=fltV 0 0 0) (by simp [results,Tryz.results11,go_sem,b0,b1,b2,b3,b4,b5,fltV]) rfl ⟨rfl,KF.out _ ?_⟩
 have t:∀ (w' : World) (o:Nat) (v:Value),Kept (fun k=>k=w.heap.size) W0 w' → Kept (fun k=>k=w.heap.size) W0 (w'.setCell ⟨w.heap.size,o,none⟩ v):=fun w' o v h=>Kept.setCell (S:=fun k=>k=w.heap.size) h (p:=⟨w.heap.size,o,none⟩) (fun _=>rfl) v
 exact t _ _ _ (t _ _ _ (t _ _ _ (t _ _ _ (t _ _ _ (t _ _ _ (Kept.refl _ _))))))
set_option maxHeartbeats 4000000 in
theorem fault_zero {w:World} {b:Nat} {c a:Int} (hb:w.heap[b]? = some (.cells #[.int .i64 c,.int .i64 a,.nilIface] 94 (0,0))):Calls Tryz.prog 11 #[.iface 92 (.pointer (some ⟨b,0,none⟩))] w fun e w' => e=.returned (fltV c a 0)∧Kept (fun k=>k=b) w w' := by
 have hbl:=lt_of_at hb
 obtain ⟨W0,hW0⟩:∃ W0,W0=w.alloc (.cells #[.int .i64 0,.int .i64 0,.int .i64 0,.bool false,.int .i64 0,.int .i64 0] 42):=⟨_,rfl⟩
 have k0:Same0 w W0:=by rw [hW0];exact (Kept.refl _ w).alloc _
 have h0:W0.heap[w.heap.size]? = some (.cells #[.int .i64 0,.int .i64 0,.int .i64 0,.bool false,.int .i64 0,.int .i64 0] 42 (0,0)):=by rw [hW0];exact heap_alloc_new w _
 have hb0:=k0.at0 hb
 have hz0:W0.heap.size=w.heap.size+1:=by rw [hW0];simp
 have e0:W0.cell? ⟨b,0,none⟩=some (.int .i64 c):=cellAt hb0 0
 have e1:W0.cell? ⟨b,1,none⟩=some (.int .i64 a):=cellAt hb0 1
 have a1:=as_flt
 have a2:=as_enil
 have n1:=neq_enil
 obtain ⟨W1,hW1⟩:∃ W1,W1=W0.alloc (.cells #[.int .i64 c,.int .i64 a,.int .i64 0,.bool false,.int .i64 0,.int .i64 0] 42):=⟨_,rfl⟩
 have hz0l:b<W0.heap.size:=by omega
 have k1:Same0 W0 W1:=by rw [hW1];exact (Kept.refl _ _).alloc _
 have o0:W1.heap[W0.heap.size]? = some (.cells #[.int .i64 c,.int .i64 a,.int .i64 0,.bool false,.int .i64 0,.int .i64 0] 42 (0,0)):=by rw [hW1];exact heap_alloc_new _ _
 have KF:Hid (∀ ww,Kept (fun k=>k=b∨k=w.heap.size∨k=W0.heap.size) W1 ww→Kept (fun k=>k=b) w ww):=fun ww hk=>((k0.trans' k1).mono (S' := fun k=>k=b) (fun _ _ f=>f.elim)).trans hk (fun i hi e=>by omega)
 have HR:Hid (∀ ww,Same0 W1 ww→ww.heap[b]? = some (.cells #[.int .i64 c,.int .i64 a,.nilIface] 94 (0,0))∧ww.heap[w.heap.size]? = some (.cells #[.int .i64 0,.int .i64 0,.int .i64 0,.bool false,.int .i64 0,.int .i64 0] 42 (0,0))∧ww.heap[W0.heap.size]? = some (.cells #[.int .i64 c,.int .i64 a,.int .i64 0,.bool false,.int .i64 0,.int .i64 0] 42 (0,0))):=fun ww hk=>⟨hk.at0 (k1.at0 hb0),hk.at0 (k1.at0 h0),hk.at0 o0⟩
 have e0' : (W0.alloc (.cells #[.int .i64 0,.int .i64 0,.int .i64 0,.bool false,.int .i64 0,.int .i64 0] 42)).cell? ⟨b,0,none⟩=some (.int .i64 c):=cellAt (((Kept.refl (fun _=>False) W0).alloc _).at hb0 (fun f=>f)) 0
 have e1' : (W0.alloc (.cells #[.int .i64 0,.int .i64 0,.int .i64 0,.bool false,.int .i64 0,.int .i64 0] 42)).cell? ⟨b,1,none⟩=some (.int .i64 a):=cellAt (((Kept.refl (fun _=>False) W0).alloc _).at hb0 (fun f=>f)) 1
 have ne1:b≠w.heap.size:=by omega
 have ne2:b≠W0.heap.size:=by omega
 have ne3:w.heap.size≠W0.heap.size:=by omega
 clear hb h0 hb0 k0 k1 o0 hz0 hbl hz0l
 go_enter Tryz.func11,Tryz.ntmps11
 go_upto_region 1 with fail
 rw [← hW0]
 clear hW0
 go_upto_region 6 with fail
 go_region
 rw [← hW1]
 clear hW1 e0 e1 e0' e1'
 obtain ⟨r1,r2,r3⟩:=HR.out W1.drew ((Kept.refl _ _).drew)
 have KF2:Hid (∀ ww,Kept (fun k=>k=b∨k=w.heap.size∨k=W0.heap.size) W1.drew ww→Kept (fun k=>k=b) w ww):=fun ww hk=>KF.out ww (((Kept.refl (fun k=>k=b∨k=w.heap.size∨k=W0.heap.size) W1).drew).trans hk (fun _ _ e=>e))
 clear HR KF
 generalize W1.drew=W2 at *
 generalize hob:W0.heap.size=ob at *
 generalize hrb:w.heap.size=rb at *
 have c0:W2.cell? ⟨b,0,none⟩=some (.int .i64 c):=cellAt r1 0
 have c1:W2.cell? ⟨b,1,none⟩=some (.int .i64 a):=cellAt r1 1
 have c2:W2.cell? ⟨b,2,none⟩=some (.nilIface):=cellAt r1 2
 have d0:W2.cell? ⟨rb,0,none⟩=some (.int .i64 0):=cellAt r2 0
 have d1:W2.cell? ⟨rb,1,none⟩=some (.int .i64 0):=cellAt r2 1
 have d2:W2.cell? ⟨rb,2,none⟩=some (.int .i64 0):=cellAt r2 2
 have d3:W2.cell? ⟨rb,3,none⟩=some (.bool false):=cellAt r2 3
 have d4:W2.cell? ⟨rb,4,none⟩=some (.int .i64 0):=cellAt r2 4
 have d5:W2.cell? ⟨rb,5,none⟩=some (.int .i64 0):=cellAt r2 5
 have o0:W2.cell? ⟨ob,0,none⟩=some (.int .i64 c):=cellAt r3 0
 have o1:W2.cell? ⟨ob,1,none⟩=some (.int .i64 a):=cellAt r3 1
 have o2:W2.cell? ⟨ob,2,none⟩=some (.int .i64 0):=cellAt r3 2
 have o3:W2.cell? ⟨ob,3,none⟩=some (.bool false):=cellAt r3 3
 have o4:W2.cell? ⟨ob,4,none⟩=some (.int .i64 0):=cellAt r3 4
 have o5:W2.cell? ⟨ob,5,none⟩=some (.int .i64 0):=cellAt r3 5
 have fc1:=frozenAt r1 1
 have fd0:=frozenAt r2 0
 have fd1:=frozenAt r2 1
 have fd2:=frozenAt r2 2
 have fd3:=frozenAt r2 3
 have fd4:=frozenAt r2 4
 have fd5:=frozenAt r2 5
 have fo2:=frozenAt r3 2
 have ne1' : rb≠b:=fun e=>ne1 e.symm
 have ne2' : ob≠b:=fun e=>ne2 e.symm
 have ne3' : ob≠rb:=fun e=>ne3 e.symm
 have HB2:(W2.setCell ⟨b,1,none⟩ (.int .i64 (-99))).heap[rb]? = some (.cells #[.int .i64 0,.int .i64 0,.int .i64 0,.bool false,.int .i64 0,.int .i64 0] 42 (0,0)):=(Below.heap_setCell _ _ _ _ ne1').trans r2
 have HW:Hid ((((((((W2.setCell ⟨b,1,none⟩ (.int .i64 (-99))).setCell ⟨rb,0,none⟩ (.int .i64 c)).setCell ⟨rb,1,none⟩ (.int .i64 a)).setCell ⟨rb,2,none⟩ (.int .i64 0)).setCell ⟨rb,3,none⟩ (.bool false)).setCell ⟨rb,4,none⟩ (.int .i64 0)).setCell ⟨rb,5,none⟩ (.int .i64 0)).heap[rb]? = some (.cells #[.int .i64 c,.int .i64 a,.int .i64 0,.bool false,.int .i64 0,.int .i64 0] 42 (0,0))∧Kept (fun k=>k=b) w (((((((W2.setCell ⟨b,1,none⟩ (.int .i64 (-99))).setCell ⟨rb,0,none⟩ (.int .i64 c)).setCell ⟨rb,1,none⟩ (.int .i64 a)).setCell ⟨rb,2,none⟩ (.int .i64 0)).setCell ⟨rb,3,none⟩ (.bool false)).setCell ⟨rb,4,none⟩ (.int .i64 0)).setCell ⟨rb,5,none⟩ (.int .i64 0))):=by
  have t:∀ (w' : World) (q o:Nat) (v:Value),(q=b∨q=rb∨q=ob)→Kept (fun k=>k=b∨k=rb∨k=ob) W2 w' → Kept (fun k=>k=b∨k=rb∨k=ob) W2 (w'.setCell ⟨q,o,none⟩ v):=fun w' q o v hq h=>Kept.setCell (S:=fun k=>k=b∨k=rb∨k=ob) h (p:=⟨q,o,none⟩) (fun _=>hq) v
  exact ⟨(setAt (setAt (setAt (setAt (setAt (setAt HB2 _ _) _ _) _ _) _ _) _ _) _ _),KF2.out _ (t _ rb _ _ (.inr (.inl rfl)) (t _ rb _ _ (.inr (.inl rfl)) (t _ rb _ _ (.inr (.inl rfl)) (t _ rb _ _ (.inr (.inl rfl)) (t _ rb _ _ (.inr (.inl rfl)) (t _ rb _ _ (.inr (.inl rfl)) (t _ b _ _ (.inl rfl) (Kept.refl _ _))))))))⟩
 clear r1 r2 r3 hob hrb HB2 KF2
 go_wp2
 obtain ⟨W3,hW3⟩:∃ W3,W3=(((((((W2.setCell ⟨b,1,none⟩ (.int .i64 (-99))).setCell ⟨rb,0,none⟩ (.int .i64 c)).setCell ⟨rb,1,none⟩ (.int .i64 a)).setCell ⟨rb,2,none⟩ (.int .i64 0)).setCell ⟨rb,3,none⟩ (.bool false)).setCell ⟨rb,4,none⟩ (.int .i64 0)).setCell ⟨rb,5,none⟩ (.int .i64 0)):=⟨_,rfl⟩
 rw [← hW3] at HW ⊢
 obtain ⟨q,kq⟩:=HW
 have y0:W3.cell? ⟨rb,0,none⟩=some (.int .i64 c):=cellAt q 0
 have y1:W3.cell? ⟨rb,1,none⟩=some (.int .i64 a):=cellAt q 1
 have y2:W3.cell? ⟨rb,2,none⟩=some (.int .i64 0):=cellAt q 2
 have y3:W3.cell? ⟨rb,3,none⟩=some (.bool false):=cellAt q 3
 have y4:W3.cell? ⟨rb,4,none⟩=some (.int .i64 0):=cellAt q 4
 have y5:W3.cell? ⟨rb,5,none⟩=some (.int .i64 0):=cellAt q 5
 clear hW3
 exact bodyPost_ret (v:=fltV c a 0) (by simp [results,Tryz.results11,go_sem,y0,y1,y2,y3,y4,y5,fltV]) rfl ⟨rfl,kq⟩
set_option maxHeartbeats 4000000 in
theorem fault_why {w:World} {b:Nat} {c a y:Int} (hb:w.heap[b]? = some (.cells #[.int .i64 c,.int .i64 a,.iface 40 (.int .i64 y)] 94 (0,0))):Calls Tryz.prog 11 #[.iface 92 (.pointer (some ⟨b,0,none⟩))] w fun e w' => e=.returned (fltV c a y)∧Kept (fun k=>k=b) w w' := by
 have hbl:=lt_of_at hb
 obtain ⟨W0,hW0⟩:∃ W0,W0=w.alloc (.cells #[.int .i64 0,.int .i64 0,.int .i64 0,.bool false,.int .i64 0,.int .i64 0] 42):=⟨_,rfl⟩
 have k0:Same0 w W0:=by rw [hW0];exact (Kept.refl _ w).alloc _
 have h0:W0.heap[w.heap.size]? = some (.cells #[.int .i64 0,.int .i64 0,.int .i64 0,.bool false,.int .i64 0,.int .i64 0] 42 (0,0)):=by rw [hW0];exact heap_alloc_new w _
 have hb0:=k0.at0 hb
 have hz0:W0.heap.size=w.heap.size+1:=by rw [hW0];simp
 have e0:W0.cell? ⟨b,0,none⟩=some (.int .i64 c):=cellAt hb0 0
 have e1:W0.cell? ⟨b,1,none⟩=some (.int .i64 a):=cellAt hb0 1
 have a1:=as_flt
 have a2:=is_asE
 have n1:=neq_eerr
 obtain ⟨W1,hW1⟩:∃ W1,W1=W0.alloc (.cells #[.int .i64 c,.int .i64 a,.int .i64 0,.bool false,.int .i64 0,.int .i64 0] 42):=⟨_,rfl⟩
 have hz0l:b<W0.heap.size:=by omega
 have k1:Same0 W0 W1:=by rw [hW1];exact (Kept.refl _ _).alloc _
 have o0:W1.heap[W0.heap.size]? = some (.cells #[.int .i64 c,.int .i64 a,.int .i64 0,.bool false,.int .i64 0,.int .i64 0] 42 (0,0)):=by rw [hW1];exact heap_alloc_new _ _
 have KF:Hid (∀ ww,Kept (fun k=>k=b∨k=w.heap.size∨k=W0.heap.size) W1 ww→Kept (fun k=>k=b) w ww):=fun ww hk=>((k0.trans' k1).mono (S' := fun k=>k=b) (fun _ _ f=>f.elim)).trans hk (fun i hi e=>by omega)
 have HR:Hid (∀ ww,Same0 W1 ww→ww.heap[b]? = some (.cells #[.int .i64 c,.int .i64 a,.iface 40 (.int .i64 y)] 94 (0,0))∧ww.heap[w.heap.size]? = some (.cells #[.int .i64 0,.int .i64 0,.int .i64 0,.bool false,.int .i64 0,.int .i64 0] 42 (0,0))∧ww.heap[W0.heap.size]? = some (.cells #[.int .i64 c,.int .i64 a,.int .i64 0,.bool false,.int .i64 0,.int .i64 0] 42 (0,0))):=fun ww hk=>⟨hk.at0 (k1.at0 hb0),hk.at0 (k1.at0 h0),hk.at0 o0⟩
 have e0' : (W0.alloc (.cells #[.int .i64 0,.int .i64 0,.int .i64 0,.bool false,.int .i64 0,.int .i64 0] 42)).cell? ⟨b,0,none⟩=some (.int .i64 c):=cellAt (((Kept.refl (fun _=>False) W0).alloc _).at hb0 (fun f=>f)) 0
 have e1' : (W0.alloc (.cells #[.int .i64 0,.int .i64 0,.int .i64 0,.bool false,.int .i64 0,.int .i64 0] 42)).cell? ⟨b,1,none⟩=some (.int .i64 a):=cellAt (((Kept.refl (fun _=>False) W0).alloc _).at hb0 (fun f=>f)) 1
 have ne1:b≠w.heap.size:=by omega
 have ne2:b≠W0.heap.size:=by omega
 have ne3:w.heap.size≠W0.heap.size:=by omega
 clear hb h0 hb0 k0 k1 o0 hz0 hbl hz0l
 go_enter Tryz.func11,Tryz.ntmps11
 go_upto_region 1 with fail
 rw [← hW0]
 clear hW0
 go_upto_region 6 with fail
 go_region
 rw [← hW1]
 clear hW1 e0 e1 e0' e1'
 obtain ⟨r1,r2,r3⟩:=HR.out W1.drew ((Kept.refl _ _).drew)
 have KF2:Hid (∀ ww,Kept (fun k=>k=b∨k=w.heap.size∨k=W0.heap.size) W1.drew ww→Kept (fun k=>k=b) w ww):=fun ww hk=>KF.out ww (((Kept.refl (fun k=>k=b∨k=w.heap.size∨k=W0.heap.size) W1).drew).trans hk (fun _ _ e=>e))
 clear HR KF
 generalize W1.drew=W2 at *
 generalize hob:W0.heap.size=ob at *
 generalize hrb:w.heap.size=rb at *
 have c0:W2.cell? ⟨b,0,none⟩=some (.int .i64 c):=cellAt r1 0
 have c1:W2.cell? ⟨b,1,none⟩=some (.int .i64 a):=cellAt r1 1
 have c2:W2.cell? ⟨b,2,none⟩=some (.iface 40 (.int .i64 y)):=cellAt r1 2
 have d0:W2.cell? ⟨rb,0,none⟩=some (.int .i64 0):=cellAt r2 0
 have d1:W2.cell? ⟨rb,1,none⟩=some (.int .i64 0):=cellAt r2 1
 have d2:W2.cell? ⟨rb,2,none⟩=some (.int .i64 0):=cellAt r2 2
 have d3:W2.cell? ⟨rb,3,none⟩=some (.bool false):=cellAt r2 3
 have d4:W2.cell? ⟨rb,4,none⟩=some (.int .i64 0):=cellAt r2 4
 have d5:W2.cell? ⟨rb,5,none⟩=some (.int .i64 0):=cellAt r2 5
 have o0:W2.cell? ⟨ob,0,none⟩=some (.int .i64 c):=cellAt r3 0
 have o1:W2.cell? ⟨ob,1,none⟩=some (.int .i64 a):=cellAt r3 1
 have o2:W2.cell? ⟨ob,2,none⟩=some (.int .i64 0):=cellAt r3 2
 have o3:W2.cell? ⟨ob,3,none⟩=some (.bool false):=cellAt r3 3
 have o4:W2.cell? ⟨ob,4,none⟩=some (.int .i64 0):=cellAt r3 4
 have o5:W2.cell? ⟨ob,5,none⟩=some (.int .i64 0):=cellAt r3 5
 have fc1:=frozenAt r1 1
 have fd0:=frozenAt r2 0
 have fd1:=frozenAt r2 1
 have fd2:=frozenAt r2 2
 have fd3:=frozenAt r2 3
 have fd4:=frozenAt r2 4
 have fd5:=frozenAt r2 5
 have fo2:=frozenAt r3 2
 have ne1' : rb≠b:=fun e=>ne1 e.symm
 have ne2' : ob≠b:=fun e=>ne2 e.symm
 have ne3' : ob≠rb:=fun e=>ne3 e.symm
 have HB2:((W2.setCell ⟨b,1,none⟩ (.int .i64 (-99))).setCell ⟨ob,2,none⟩ (.int .i64 y)).heap[rb]? = some (.cells #[.int .i64 0,.int .i64 0,.int .i64 0,.bool false,.int .i64 0,.int .i64 0] 42 (0,0)):=(Below.heap_setCell _ _ _ _ ne3).trans ((Below.heap_setCell _ _ _ _ ne1').trans r2)
 have HW:Hid (((((((((W2.setCell ⟨b,1,none⟩ (.int .i64 (-99))).setCell ⟨ob,2,none⟩ (.int .i64 y)).setCell ⟨rb,0,none⟩ (.int .i64 c)).setCell ⟨rb,1,none⟩ (.int .i64 a)).setCell ⟨rb,2,none⟩ (.int .i64 y)).setCell ⟨rb,3,none⟩ (.bool false)).setCell ⟨rb,4,none⟩ (.int .i64 0)).setCell ⟨rb,5,none⟩ (.int .i64 0)).heap[rb]? = some (.cells #[.int .i64 c,.int .i64 a,.int .i64 y,.bool false,.int .i64 0,.int .i64 0] 42 (0,0))∧Kept (fun k=>k=b) w ((((((((W2.setCell ⟨b,1,none⟩ (.int .i64 (-99))).setCell ⟨ob,2,none⟩ (.int .i64 y)).setCell ⟨rb,0,none⟩ (.int .i64 c)).setCell ⟨rb,1,none⟩ (.int .i64 a)).setCell ⟨rb,2,none⟩ (.int .i64 y)).setCell ⟨rb,3,none⟩ (.bool false)).setCell ⟨rb,4,none⟩ (.int .i64 0)).setCell ⟨rb,5,none⟩ (.int .i64 0))):=by
  have t:∀ (w' : World) (q o:Nat) (v:Value),(q=b∨q=rb∨q=ob)→Kept (fun k=>k=b∨k=rb∨k=ob) W2 w' → Kept (fun k=>k=b∨k=rb∨k=ob) W2 (w'.setCell ⟨q,o,none⟩ v):=fun w' q o v hq h=>Kept.setCell (S:=fun k=>k=b∨k=rb∨k=ob) h (p:=⟨q,o,none⟩) (fun _=>hq) v
  exact ⟨(setAt (setAt (setAt (setAt (setAt (setAt HB2 _ _) _ _) _ _) _ _) _ _) _ _),KF2.out _ (t _ rb _ _ (.inr (.inl rfl)) (t _ rb _ _ (.inr (.inl rfl)) (t _ rb _ _ (.inr (.inl rfl)) (t _ rb _ _ (.inr (.inl rfl)) (t _ rb _ _ (.inr (.inl rfl)) (t _ rb _ _ (.inr (.inl rfl)) (t _ ob _ _ (.inr (.inr rfl)) (t _ b _ _ (.inl rfl) (Kept.refl _ _)))))))))⟩
 clear r1 r2 r3 hob hrb HB2 KF2
 go_wp2
 obtain ⟨W3,hW3⟩:∃ W3,W3=((((((((W2.setCell ⟨b,1,none⟩ (.int .i64 (-99))).setCell ⟨ob,2,none⟩ (.int .i64 y)).setCell ⟨rb,0,none⟩ (.int .i64 c)).setCell ⟨rb,1,none⟩ (.int .i64 a)).setCell ⟨rb,2,none⟩ (.int .i64 y)).setCell ⟨rb,3,none⟩ (.bool false)).setCell ⟨rb,4,none⟩ (.int .i64 0)).setCell ⟨rb,5,none⟩ (.int .i64 0)):=⟨_,rfl⟩
 rw [← hW3] at HW ⊢
 obtain ⟨q,kq⟩:=HW
 have y0:W3.cell? ⟨rb,0,none⟩=some (.int .i64 c):=cellAt q 0
 have y1:W3.cell? ⟨rb,1,none⟩=some (.int .i64 a):=cellAt q 1
 have y2:W3.cell? ⟨rb,2,none⟩=some (.int .i64 y):=cellAt q 2
 have y3:W3.cell? ⟨rb,3,none⟩=some (.bool false):=cellAt q 3
 have y4:W3.cell? ⟨rb,4,none⟩=some (.int .i64 0):=cellAt q 4
 have y5:W3.cell? ⟨rb,5,none⟩=some (.int .i64 0):=cellAt q 5
 clear hW3
 exact bodyPost_ret (v:=fltV c a y) (by simp [results,Tryz.results11,go_sem,y0,y1,y2,y3,y4,y5,fltV]) rfl ⟨rfl,kq⟩
def put6 (w:World) (g:Nat) (v0 v1 v2 v3 v4 v5:Value):World:=(((((w.setCell ⟨g,0,none⟩ v0).setCell ⟨g,1,none⟩ v1).setCell ⟨g,2,none⟩ v2).setCell ⟨g,3,none⟩ v3).setCell ⟨g,4,none⟩ v4).setCell ⟨g,5,none⟩ v5
theorem put6_kept (w:World) (g:Nat) (v0 v1 v2 v3 v4 v5:Value):Kept (fun k=>k=g) w (put6 w g v0 v1 v2 v3 v4 v5):=by
 have t:∀ (w' : World) (o:Nat) (v:Value),Kept (fun k=>k=g) w w' → Kept (fun k=>k=g) w (w'.setCell ⟨g,o,none⟩ v):=fun w' o v h=>Kept.setCell (S:=fun k=>k=g) h (p:=⟨g,o,none⟩) (fun _=>rfl) v
 exact t _ _ _ (t _ _ _ (t _ _ _ (t _ _ _ (t _ _ _ (t _ _ _ (Kept.refl _ _))))))
theorem boxF6 {w:World} {b:Nat} {v0 v1 v2 v3 v4 v5:Value} {t:TypeId} (h:w.heap[b]? = some (.cells #[v0,v1,v2,v3,v4,v5] t (0,0))):(w.cell? ⟨b,0,none⟩=some v0∧w.cell? ⟨b,1,none⟩=some v1∧w.cell? ⟨b,2,none⟩=some v2∧w.cell? ⟨b,3,none⟩=some v3∧w.cell? ⟨b,4,none⟩=some v4∧w.cell? ⟨b,5,none⟩=some v5)∧(w.frozen? ⟨b,0,none⟩=false∧w.frozen? ⟨b,1,none⟩=false∧w.frozen? ⟨b,2,none⟩=false∧w.frozen? ⟨b,3,none⟩=false∧w.frozen? ⟨b,4,none⟩=false∧w.frozen? ⟨b,5,none⟩=false):=
 ⟨⟨cellAt h 0,cellAt h 1,cellAt h 2,cellAt h 3,cellAt h 4,cellAt h 5⟩,frozenAt h 0,frozenAt h 1,frozenAt h 2,frozenAt h 3,frozenAt h 4,frozenAt h 5⟩
end Go.Proofs.YtblgblgchkonhaaGreat
namespace Go.Proofs.YtblgblgchkonhaaGreat
set_option linter.unusedVariables false
def laidN (L:List Sym) (t:List Int) (N:List Nd) (d:Nat):List Nd:=N++(List.range d).map (fun i=>plN L t (N.length+t.length) (t.length-1-i))
theorem laid_zero (L:List Sym) (t:List Int) (N:List Nd):laidN L t N 0=N:=by simp [laidN]
theorem laid_len (L:List Sym) (t:List Int) (N:List Nd) (d:Nat):(laidN L t N d).length=N.length+d:=by simp [laidN]
theorem laid_succ (L:List Sym) (t:List Int) (N:List Nd) {d p:Nat} (h:p+d+1=t.length):laidN L t N (d+1)=laidN L t N d ++ [plN L t (N.length+t.length) p]:=by
 unfold laidN
 rw [List.range_succ,List.map_append,List.append_assoc]
 have e2:t.length-1-d=p:=by omega
 simp [e2]
theorem starts_in {L:List Sym} {t:List Int} {k p q:Nat} (hf:Forest L t k p q) (hq:q≤t.length) {x:Nat} (hx:x∈starts L t k p):p≤x∧x<t.length:=by
 induction k generalizing p with
 | zero=>simp [starts] at hx
 | succ k ih=>
  obtain ⟨h1,h2,h3⟩:=hf.succ
  have hp:=hf.pos
  have hl:=hf.le
  rcases List.mem_cons.1 hx with e | e
  ·omega
  ·have:=ih h3 e
   have h4:=h3.le
   constructor
   ·omega
   ·omega
theorem laid_mk {L:List Sym} {t:List Int} (h:IsT L t) (ha:Ars L) (N:List Nd) {d p room:Nat} (hd:p+d+1=t.length) (hv:∀ x∈t,0≤x) (hr:N.length+t.length≤room):mkE (laidN L t N d) room (t.getD p 0) ((starts L t (arN L (t.getD p 0)) (p+1)).map (adr (N.length+t.length)))=0:=by
 have hp:p<t.length:=by omega
 have eg:t.getD p 0=t[p]:=by simp [List.getElem?_eq_getElem hp]
 rw [eg]
 have hf:=(Forest.one h hp).kids.2
 have h0:=hv t[p] (List.getElem_mem hp)
 have h6:=arN_le ha t[p]
 unfold mkE
 rw [if_neg,if_neg,if_neg]
 ·rw [laid_len];omega
 ·have:insB ((laidN L t N d).length:Int) ((starts L t (arN L t[p]) (p+1)).map (adr (N.length+t.length)))=true:=by
   rw [insB_iff]
   intro z hz
   obtain ⟨q,hq,rfl⟩:=List.mem_map.1 hz
   obtain ⟨q1,q2⟩:=starts_in hf hf.le.2 hq
   rw [laid_len]
   unfold adr
   constructor
   ·push_cast;omega
   ·push_cast;omega
  simp [this]
 ·rw [List.length_map,starts_length]
  omega
end Go.Proofs.YtblgblgchkonhaaGreat
namespace Go.Proofs.YtblgblgchkonhaaGreat
set_option maxRecDepth 100000
set_option linter.unusedVariables false
open Go.RowKit
attribute [local go_sem ↓] Go.wp_at_zero Go.wp_at_succ
structure Un (l:List Nd) (fr:List Int) (s:List Bool) (T:List Int):Prop where
 len:s.length=l.length
 rng:∀ z∈T,0≤z∧z<(l.length:Int)
 snd:∀ x,Mk s x→∃ f∈fr,Rc l f.toNat x
 sndT:∀ z∈T,∃ f∈fr,Rc l f.toNat z.toNat
 cmp:∀ f∈fr,Mk s f.toNat∨f∈T
 cl:∀ x,Mk s x→∀ j,Ed l x j→Mk s j∨(j:Int)∈T
 cnt:T.length+6 * s.count false≤fr.length+6 * l.length
theorem mk_none (n x:Nat):¬ Mk (List.replicate n false) x:=by
 unfold Mk
 rw [List.getElem?_replicate]
 split <;> simp
theorem Un.start {l:List Nd} {fr:List Int} (h:∀ z∈fr,0≤z∧z<(l.length:Int)):Un l fr (List.replicate l.length false) fr:=
 ⟨by simp,h,fun x hx=>absurd hx (mk_none _ _),fun z hz=>⟨z,hz,Rc.refl _ _⟩,fun f hf=>.inr hf,fun x hx=>absurd hx (mk_none _ _),by simp⟩
theorem Un.skip {l:List Nd} {fr:List Int} {s:List Bool} {T:List Int} {x:Nat} (h:Un l fr s (T ++ [(x:Int)])) (hx:Mk s x):Un l fr s T:=by
 refine ⟨h.len,fun z hz=>h.rng z (by simp [hz]),h.snd,fun z hz=>h.sndT z (by simp [hz]),fun f hf=>?_,fun y hy j e=>?_,?_⟩
 ·rcases h.cmp f hf with q | q
  ·exact .inl q
  ·rcases List.mem_append.1 q with q | q
   ·exact .inr q
   ·simp at q;subst q;exact .inl (by simpa using hx)
 ·rcases h.cl y hy j e with q | q
  ·exact .inl q
  ·rcases List.mem_append.1 q with q | q
   ·exact .inr q
   ·have:j=x:=by simp at q;omega
    subst this;exact .inl hx
 ·have:=h.cnt;simp at this;omega
theorem Un.take {l:List Nd} {fr:List Int} {s:List Bool} {T:List Int} {x:Nat} (h:Un l fr s (T ++ [(x:Int)])) (hx:s[x]? = some false) (hl:x<l.length) (hd:(downL l[x]).length≤6) (hin:InL l):Un l fr (s.set x true) (T++downL l[x]):=by
 have hxs:x<s.length:=(List.getElem?_eq_some_iff.1 hx).1
 obtain ⟨f0,hf0,hr0⟩:=h.sndT (x:Int) (by simp)
 rw [Int.toNat_natCast] at hr0
 have hc:=count_set hx
 refine ⟨by simp [h.len],fun z hz=>?_,fun y hy=>?_,fun z hz=>?_,fun f hf=>?_,fun y hy j e=>?_,?_⟩
 ·rcases List.mem_append.1 hz with q | q
  ·exact h.rng z (by simp [q])
  ·exact hin x hl z q
 ·rcases (Mk.set hxs y).1 hy with q | q
  ·exact h.snd y q
  ·subst q;exact ⟨f0,hf0,hr0⟩
 ·rcases List.mem_append.1 hz with q | q
  ·exact h.sndT z (by simp [q])
  ·have:=hin x hl z q
   exact ⟨f0,hf0,hr0.snoc ⟨hl,by rw [Int.toNat_of_nonneg this.1];exact q⟩⟩
 ·rcases h.cmp f hf with q | q
  ·exact .inl ((Mk.set hxs _).2 (.inl q))
  ·rcases List.mem_append.1 q with q | q
   ·exact .inr (by simp [q])
   ·simp at q;subst q;exact .inl ((Mk.set hxs _).2 (.inr (by simp)))
 ·by_cases ey:y=x
  ·subst ey
   exact .inr (List.mem_append.2 (.inr e.2))
  ·rcases (Mk.set hxs y).1 hy with q | q
   ·rcases h.cl y q j e with t | t
    ·exact .inl ((Mk.set hxs _).2 (.inl t))
    ·rcases List.mem_append.1 t with t | t
     ·exact .inr (by simp [t])
     ·have:j=x:=by simp at t;omega
      exact .inl ((Mk.set hxs _).2 (.inr this))
   ·exact absurd q ey
 ·have:=h.cnt
  simp at this ⊢
  omega
theorem Un.done {l:List Nd} {fr:List Int} {s:List Bool} (h:Un l fr s []) (x:Nat):Mk s x ↔ ∃ f∈fr,Rc l f.toNat x:=by
 refine ⟨h.snd x,?_⟩
 rintro ⟨f,hf,hr⟩
 refine Rc.in (S:=fun j=>Mk s j) (fun i j hi e=>?_) ?_ hr
 ·rcases h.cl i hi j e with q | q
  ·exact q
  ·simp at q
 ·rcases h.cmp f hf with q | q
  ·exact q
  ·simp at q
theorem NCl.put {B:Nat→Prop} {w:World} {vs vs' : List Value} {l:List Nd} (h:NCl B w vs l) {i:Nat} (hi:i<l.length) (hl:vs'.length=vs.length) (old:∀ o,o<i * 5∨i * 5+5≤o→vs'[o]? = vs[o]?) {x:Nd} {ao:Option Addr} {ac:Nat}
  (n0:vs'[i * 5]? = some (.int .i64 x.1)) (n1:vs'[i * 5+1]? = some (.slice ao x.2.1.length ac)) (n2:vs'[i * 5+2]? = some (.int .i64 x.2.2.1)) (n3:vs'[i * 5+3]? = some (.bool x.2.2.2.1)) (n4:vs'[i * 5+4]? = some (.int .i64 x.2.2.2.2)) (n5:ArgT w ao x.2.1 ac) (n6:∀ a,ao=some a→B a.block):NCl B w vs' (l.set i x):=by
 refine ⟨by rw [hl,h.1];simp,fun j hj=>?_⟩
 have hj' : j<l.length:=by simpa using hj
 by_cases e:j=i
 ·subst e
  rw [List.getElem_set_self]
  exact ⟨ao,ac,n0,n1,n2,n3,n4,n5,n6⟩
 ·rw [List.getElem_set_ne (by omega)]
  obtain ⟨bo,bc,m0,m1,m2,m3,m4,m5,m6⟩:=h.2 j hj'
  exact ⟨bo,bc,(old _ (by omega)).trans m0,(old _ (by omega)).trans m1,(old _ (by omega)).trans m2,(old _ (by omega)).trans m3,(old _ (by omega)).trans m4,m5,m6⟩
theorem marked_ok {l:List Nd} (hmay:∀ x∈l,mayB l.length x=true) (hac:Ac l) {i:Nat} (hi:i<l.length) {m:Int} (hm:0≤m∧m≤2) (hp:l[i].2.2.2.1=true→m=0):(∀ x∈l.set i (marked l[i] m),mayB (l.set i (marked l[i] m)).length x=true)∧Ac (l.set i (marked l[i] m)):=by
 refine ⟨fun x hx=>?_,?_⟩
 ·rw [List.length_set]
  rcases List.mem_or_eq_of_mem_set hx with e | e
  ·exact hmay x e
  ·subst e;exact may_marked (hmay _ (List.getElem_mem hi)) hm hp
 ·refine ac_same hac (by simp) (fun j h3 h4=>?_)
  by_cases e:j=i
  ·subst e;rw [List.getElem_set_self];rfl
  ·rw [List.getElem_set_ne (by omega)]
theorem pointed_ok {l:List Nd} (hmay:∀ x∈l,mayB l.length x=true) (hac:Ac l) {i t:Nat} (hi:i<l.length) (ht:t<l.length) (hn:¬ Rc l t i):(∀ x∈l.set i (indN t),mayB (l.set i (indN t)).length x=true)∧Ac (l.set i (indN t)):=by
 refine ⟨fun x hx=>?_,?_⟩
 ·rw [List.length_set]
  rcases List.mem_or_eq_of_mem_set hx with e | e
  ·exact hmay x e
  ·subst e;exact may_ind ht
 ·refine hac.point hn _ (fun j hj=>?_)
  unfold downL at hj
  simp at hj
  omega
theorem RhB.notg {B:Nat→Prop} {w:World} {r room:Nat} {v:Value} {l:List Nd} (p:RhB B w r room v l) {g:Nat} (e:v.ownBlock=some g):r≠g∧NotI w g:=by
 have h:=p.row.block e
 refine ⟨fun q=>?_,h.2.2⟩
 obtain ⟨vs,h1,_⟩:=p.row
 rcases h1.2 with ⟨rfl,_⟩ | ⟨g', cap,cur,rfl,hb,hg,_⟩
 ·cases e
 ·obtain rfl:g' = g:=Option.some.inj e
  rw [← q,p.box] at hg
  cases hg
theorem RhB.marked {B:Nat→Prop} {w:World} {r room g cap:Nat} {l:List Nd} (p:RhB B w r room (.slice (some ⟨g,0,none⟩) l.length cap) l) {i:Nat} (hi:i<l.length) {m:Int} (hm:0≤m∧m≤2) (hp:l[i].2.2.2.1=true→m=0) :
  RhB B (w.setCell ⟨g,i * 5+2,none⟩ (.int .i64 m)) r room (.slice (some ⟨g,0,none⟩) l.length cap) (l.set i (YtblgblgchkonhaaGreat.marked l[i] m))∧Kept (fun k=>k=g) w (w.setCell ⟨g,i * 5+2,none⟩ (.int .i64 m)):=by
 have K:Kept (fun k=>k=g) w (w.setCell ⟨g,i * 5+2,none⟩ (.int .i64 m)):=Kept.setCell (S:=fun k=>k=g) (Kept.refl _ _) (p:=⟨g,i * 5+2,none⟩) (fun _=>rfl) _
 obtain ⟨hne,hni⟩:=p.notg rfl
 obtain ⟨ok1,ok2⟩:=marked_ok p.may p.ac hi hm hp
 obtain ⟨vs,h1,h2⟩:=p.row
 have hl:=h2.1
 have S:=(h1.stored (i * 5+2) (.int .i64 m)).1
 have h2' := h2.kept K (fun k _ e=>by rw [e];exact hni)
 obtain ⟨ao,ac,n0,n1,n2,n3,n4,n5,n6⟩:=h2'.2 i hi
 have old:∀ o,o≠i * 5+2→(vs.set (i * 5+2) (.int .i64 m))[o]? = vs[o]? := fun o ho=>List.getElem?_set_ne (by omega)
 have C:=h2'.put hi (vs' := vs.set (i * 5+2) (.int .i64 m)) (x:=YtblgblgchkonhaaGreat.marked l[i] m) (ao:=ao) (ac:=ac) (by simp) (fun o ho=>old o (by omega)) ((old _ (by omega)).trans n0) ((old _ (by omega)).trans n1) (List.getElem?_set_self (by omega)) ((old _ (by omega)).trans n3) ((old _ (by omega)).trans n4) n5 n6
 exact ⟨⟨K.at p.box hne,⟨_,by simpa using S,C⟩,p.rm1,p.rm2,by simpa using p.le,ok1,ok2⟩,K⟩
theorem RhB.pointed {B:Nat→Prop} {w:World} {r room g cap:Nat} {l:List Nd} (p:RhB B w r room (.slice (some ⟨g,0,none⟩) l.length cap) l) {i t:Nat} (hi:i<l.length) (ht:t<l.length) (hn:¬ Rc l t i) :
  RhB B (put5 w g (i * 5) (.int .i64 0) (.slice none 0 0) (.int .i64 0) (.bool true) (.int .i64 (t:Int))) r room (.slice (some ⟨g,0,none⟩) l.length cap) (l.set i (indN t))∧Kept (fun k=>k=g) w (put5 w g (i * 5) (.int .i64 0) (.slice none 0 0) (.int .i64 0) (.bool true) (.int .i64 (t:Int))):=by
 have K:=put5_kept w g (i * 5) (.int .i64 0) (.slice none 0 0) (.int .i64 0) (.bool true) (.int .i64 (t:Int))
 obtain ⟨hne,hni⟩:=p.notg rfl
 obtain ⟨ok1,ok2⟩:=pointed_ok p.may p.ac hi ht hn
 obtain ⟨vs,h1,h2⟩:=p.row
 have hl:=h2.1
 have S:=(((((h1.stored (i * 5) (.int .i64 0)).1.stored (i * 5+1) (.slice none 0 0)).1.stored (i * 5+2) (.int .i64 0)).1.stored (i * 5+3) (.bool true)).1.stored (i * 5+4) (.int .i64 (t:Int))).1
 have h2' := h2.kept K (fun k _ e=>by rw [e];exact hni)
 have hb:i * 5+5≤vs.length:=by omega
 have C:=h2'.put hi (vs' := ((((vs.set (i * 5) (.int .i64 0)).set (i * 5+1) (.slice none 0 0)).set (i * 5+2) (.int .i64 0)).set (i * 5+3) (.bool true)).set (i * 5+4) (.int .i64 (t:Int))) (x:=indN t) (ao:=none) (ac:=0) (by simp)
  (fun o ho=>by rw [List.getElem?_set_ne (by omega),List.getElem?_set_ne (by omega),List.getElem?_set_ne (by omega),List.getElem?_set_ne (by omega),List.getElem?_set_ne (by omega)])
  (by rw [List.getElem?_set_ne (by omega),List.getElem?_set_ne (by omega),List.getElem?_set_ne (by omega),List.getElem?_set_ne (by omega)];exact List.getElem?_set_self (by omega))
  (by rw [List.getElem?_set_ne (by omega),List.getElem?_set_ne (by omega),List.getElem?_set_ne (by omega)];exact List.getElem?_set_self (by simp;omega))
  (by rw [List.getElem?_set_ne (by omega),List.getElem?_set_ne (by omega)];exact List.getElem?_set_self (by simp;omega))
  (by rw [List.getElem?_set_ne (by omega)];exact List.getElem?_set_self (by simp;omega))
  (List.getElem?_set_self (by simp;omega)) (ArgT.nil _) (fun a e=>by cases e)
 exact ⟨⟨K.at p.box hne,⟨_,by rw [List.length_set];exact S,C⟩,p.rm1,p.rm2,by simpa using p.le,ok1,ok2⟩,K⟩
theorem RhB.has {B:Nat→Prop} {w:World} {r room:Nat} {v:Value} {l:List Nd} (p:RhB B w r room v l) (a:Int):Calls Tryz.prog 44 #[.pointer (some ⟨r,0,none⟩),.int .i64 a] w fun e w' => e=.returned (.bool (hasB l.length a))∧w' = w:=by
 obtain ⟨ao,cap,rfl⟩:=p.row.shape
 exact rhas_any p.cells.2 (by unfold maxLen;have:=p.le;have:=p.rm2;omega) a
theorem RhB.open {B:Nat→Prop} {w:World} {r room:Nat} {v:Value} {l:List Nd} (p:RhB B w r room v l) {i:Nat} (hi:i<l.length):∃ g cap,v=.slice (some ⟨g,0,none⟩) l.length cap∧(∀ o,w.frozen? ⟨g,o,none⟩=false)∧∃ xo xc,w.cell? ⟨g,i * 5,none⟩=some (.int .i64 l[i].1)∧w.cell? ⟨g,i * 5+1,none⟩=some (.slice xo l[i].2.1.length xc)∧w.cell? ⟨g,i * 5+2,none⟩=some (.int .i64 l[i].2.2.1)∧w.cell? ⟨g,i * 5+3,none⟩=some (.bool l[i].2.2.2.1)∧w.cell? ⟨g,i * 5+4,none⟩=some (.int .i64 l[i].2.2.2.2):=by
 obtain ⟨vs,h1,h2⟩:=p.row
 have h1' := h1
 rcases h1.2 with ⟨_,h0⟩ | ⟨g,cap,cur,rfl,hb,hg,_⟩
 ·omega
 ·obtain ⟨ao,ac,g0,g1,g2,g3,g4,_,_⟩:=h2.2 i hi
  have t:∀ j u,vs[j]? = some u→w.cell? ⟨g,j,none⟩=some u:=fun j u hj=>by
   have:=h1'.cells (g:=g) rfl j u hj
   by_cases q:j=0
   ·subst q;simpa [Addr.add] using this
   ·simpa [Addr.add,q] using this
  exact ⟨g,cap,rfl,fun o=>frozenAt hg o,ao,ac,t _ _ g0,t _ _ g1,t _ _ g2,t _ _ g3,t _ _ g4⟩
def clr (l:List Nd) (k:Nat):List Nd:=(l.take k).map (fun x=>marked x 0)++l.drop k
theorem clr_len (l:List Nd) (k:Nat):(clr l k).length=l.length:=by unfold clr;simp;omega
theorem clr_step {l:List Nd} {k:Nat} (hk:k<l.length) (h:k<(clr l k).length):(clr l k).set k (marked (clr l k)[k] 0)=clr l (k+1):=by
 have e:clr l k=(l.take k).map (fun x=>marked x 0)++l[k] :: l.drop (k+1):=by unfold clr;rw [List.drop_eq_getElem_cons hk]
 have hA:((l.take k).map (fun x=>marked x 0)).length=k:=by simp;omega
 have e2:clr l (k+1)=(l.take k).map (fun x=>marked x 0)++marked l[k] 0 :: l.drop (k+1):=by
  unfold clr
  rw [List.take_succ_eq_append_getElem hk]
  simp only [List.map_append,List.map_cons,List.map_nil,List.append_assoc,List.cons_append,List.nil_append]
 generalize (l.take k).map (fun x=>marked x 0)=A at *
 have e3:(clr l k)[k]=l[k]:=by
  simp only [e]
  rw [List.getElem_append_right (by omega)]
  simp only [hA,Nat.sub_self,List.getElem_cons_zero]
 rw [e3,e2,e,List.set_append,if_neg (by omega),hA,Nat.sub_self,List.set_cons_zero]
theorem RhB.clear1 {B:Nat→Prop} {w:World} {r room g cap k:Nat} {l:List Nd} (p:RhB B w r room (.slice (some ⟨g,0,none⟩) l.length cap) (clr l k)) (hk:k<l.length) :
  RhB B (w.setCell ⟨g,k * 5+2,none⟩ (.int .i64 0)) r room (.slice (some ⟨g,0,none⟩) l.length cap) (clr l (k+1))∧Kept (fun i=>i=g) w (w.setCell ⟨g,k * 5+2,none⟩ (.int .i64 0)):=by
 have hk' : k<(clr l k).length:=by rw [clr_len];exact hk
 have q:RhB B w r room (.slice (some ⟨g,0,none⟩) (clr l k).length cap) (clr l k):=by rw [clr_len];exact p
 have:=q.marked hk' (m:=0) (by omega) (fun _=>rfl)
 rw [clr_step hk hk', clr_len] at this
 exact this
theorem HpB.clear1 {B:Nat→Prop} {w:World} {h g room k:Nat} {l:List Nd} (p:HpB B w h g room (clr l k)) (hk:k<l.length) :
  HpB B (w.setCell ⟨g,k * 5+2,none⟩ (.int .i64 0)) h g room (clr l (k+1))∧Kept (fun i=>i=g) w (w.setCell ⟨g,k * 5+2,none⟩ (.int .i64 0)):=by
 have hk' : k<(clr l k).length:=by rw [clr_len];exact hk
 have:=p.marked hk' (m:=0) (by omega) (fun _=>rfl)
 rw [clr_step hk hk'] at this
 exact this
theorem step_nd {w0 W:World} {ops:Array Oper} {o:Oper} {a:Act} {K:Act→World→Prop} {Q:Exit→Act→World→Prop} {E:Prop} (hgd:o.guard=none) (s x:Operand)
  (ho:o.op=.call { callee:=.builtin .append,args:=#[s,x],argTypes:=#[23,23] })
  {B:Nat→Prop} (base:Nat) (l:List Nd) (v:Value) (hs:a.eval s=v) (hW:Same0 w0 W) (hr:NRow B base w0 v l) (y:Nd) (ao:Option Addr) (ac:Nat) (q:Nat) (hx:a.eval x=.slice (some ⟨q,0,none⟩) 1 1) (hq:W.heap[q]? = some (.cells #[.int .i64 y.1,.slice ao y.2.1.length ac,.int .i64 y.2.2.1,.bool y.2.2.2.1,.int .i64 y.2.2.2.2] 76 (0,0))) (ha:ArgT w0 ao y.2.1 ac) (hba:∀ b,ao=some b→B b.block) (hb:base≤w0.heap.size) (hsz:(l.length+1) * 56≤140737488355328)
  (h:∀ g cap w', NRow B base w' (.slice (some ⟨g,0,none⟩) (l.length+1) cap) (l ++ [y])→Kept (fun k=>v.ownBlock=some k) w0 w' → (v.ownBlock=some g∨w0.heap.size≤g)→K (a.put o.dst (.slice (some ⟨g,0,none⟩) (l.length+1) cap)) w') :
  if Region.wanted o (yielded ops a.tmps)=true then Oper.wp Tryz.prog o a W K Q else E:=by
 obtain ⟨i,hi,hz0,hz1,hz2⟩:=info_parts info_node
 obtain ⟨vs,h1,h2⟩:=hr
 have nb:∀ k,v.ownBlock=some k→NotI w0 k:=fun k e=>(NRow.block ⟨vs,h1,h2⟩ e).2.2
 refine step_append_lies _ hgd s x 23 ho base 76 i _ 5 56 Tryz.underlying23 hi hz0 hz1 hz2 rfl (by decide) v l.length vs hs (hW.row h1 (fun _ _ f=>f)) ⟨q,0,none⟩ 1 1 [.int .i64 y.1,.slice ao y.2.1.length ac,.int .i64 y.2.2.1,.bool y.2.2.2.1,.int .i64 y.2.2.2.2] hx rfl (World.news_of_block (cs:=#[.int .i64 y.1,.slice ao y.2.1.length ac,.int .i64 y.2.2.1,.bool y.2.2.2.1,.int .i64 y.2.2.2.2]) (t:=76) (fr:=(0,0)) hq) (by intro u hu;simp at hu;rcases hu with rfl | rfl | rfl | rfl | rfl <;> rfl) (by omega) (by unfold maxLen;omega) (by omega) (Nat.le_trans hb hW.size) W.heap.size rfl ?_
 intro g cap w' hown hgrow hat hlt
 have K' : Kept (fun k=>v.ownBlock=some k) w0 w' := Kept.grown (Kept.mono hW (fun _ _ f=>f.elim)) hgrow (fun _ e _=>e)
 refine h g cap w' ⟨_,by rw [List.length_append];exact hown,?_⟩ K' (hat.imp id (fun e=>by have:=hW.size;omega))
 exact (h2.kept K' (fun k _ e=>nb k e)).snoc (ha.kept K' (fun k e=>nb k e)) hba
theorem RhB.made {B B' : Nat→Prop} {w w2 w9:World} {r room:Nat} {v:Value} {l:List Nd} (p:RhB B w r room v l) (k1:Same0 w w2) {s:Int} {xs:List Int} (he:mkE l room s xs=0) {gg cap:Nat} (r9:NRow B' 0 w9 (.slice (some ⟨gg,0,none⟩) (l.length+1) cap) (l ++ [(s,xs,0,false,0)])) (k9:Kept (fun k=>v.ownBlock=some k) w2 w9) :
  (w9.cell? ⟨r,0,none⟩=some (.int .i64 (room:Int))∧w9.cell? ⟨r,1,none⟩=some v∧w9.frozen? ⟨r,1,none⟩=false)∧RhB B' (w9.setCell ⟨r,1,none⟩ (.slice (some ⟨gg,0,none⟩) (l.length+1) cap)) r room (.slice (some ⟨gg,0,none⟩) (l.length+1) cap) (l ++ [(s,xs,0,false,0)])∧Kept (fun k=>k=r∨v.ownBlock=some k) w (w9.setCell ⟨r,1,none⟩ (.slice (some ⟨gg,0,none⟩) (l.length+1) cap)):=by
 obtain ⟨h0,h1,h2,h3⟩:=mk_zero he
 have hle:=p.le
 have p2:=p.same k1
 have b9:=k9.at p2.box (fun e=>(p2.notg e).1 rfl)
 have ks:Kept (fun k=>k=r) w9 (w9.setCell ⟨r,1,none⟩ (.slice (some ⟨gg,0,none⟩) (l.length+1) cap)):=Kept.setCell (S:=fun k=>k=r) (Kept.refl _ _) (p:=⟨r,1,none⟩) (fun _=>rfl) _
 have nr:NotI w9 r:=fun cur hc=>by rw [b9] at hc;cases hc
 have ng:gg≠r:=fun e=>by
  obtain ⟨vs,q1,_⟩:=r9
  rcases q1.2 with ⟨q,_⟩ | ⟨g', cap', cur,q,_,hg,_⟩
  ·cases q
  ·simp only [Value.slice.injEq,Option.some.injEq,Addr.mk.injEq,and_true] at q
   rw [← q.1,e,b9] at hg
   cases hg
 refine ⟨⟨cellAt b9 0,cellAt b9 1,frozenAt b9 1⟩,⟨set_room b9 _,?_,p.rm1,p.rm2,by simp;omega,may_make p.may (mk_may h0 h1 h2),p.ac.make p.inl _ (may_down (mk_may h0 h1 h2))⟩,?_⟩
 ·exact r9.kept ks (fun k e q=>ng (by rw [← q];exact Option.some.inj e)) (fun k _ q=>by rw [q];exact nr)
 ·exact ((Kept.mono k1 (fun _ _ f=>f.elim)).trans k9 (fun _ _ e=>.inr e)).trans ks (fun _ _ e=>.inl e)
end Go.Proofs.YtblgblgchkonhaaGreat
namespace Go.Proofs.YtblgblgchkonhaaGreat
set_option linter.unusedVariables false
def LdI (B:Nat→Prop) (L:List Sym) (t:List Int) (N:List Nd) (w0:World) (r room:Nat) (v:Value) (d:Nat) (wr:World) (vr:Value):Prop:=
 RhB (fun b=>B b∨w0.heap.size≤b) wr r room vr (laidN L t N d)∧(∀ k,vr.ownBlock=some k→v.ownBlock=some k∨w0.heap.size≤k)∧Kept (fun k=>k=r∨v.ownBlock=some k) w0 wr
theorem LdI.zero {B:Nat→Prop} (L:List Sym) (t:List Int) {N:List Nd} {w0:World} {r room:Nat} {v:Value} (p:RhB B w0 r room v N):LdI B L t N w0 r room v 0 w0 v:=by
 refine ⟨?_,fun k e=>.inl e,Kept.refl _ _⟩
 rw [laid_zero]
 exact ⟨p.box,p.row.mono (fun k _ q=>.inl q),p.rm1,p.rm2,p.le,p.may,p.ac⟩
theorem LdI.same {B:Nat→Prop} {L:List Sym} {t:List Int} {N:List Nd} {w0:World} {r room:Nat} {v:Value} {d:Nat} {wr w2:World} {vr:Value} (I:LdI B L t N w0 r room v d wr vr) (hk:Same0 wr w2):LdI B L t N w0 r room v d w2 vr:=
 ⟨I.1.same hk,I.2.1,I.2.2.trans hk (fun _ _ f=>f.elim)⟩
theorem LdI.step {B:Nat→Prop} {L:List Sym} {t:List Int} {N:List Nd} {w0:World} {r room:Nat} {v:Value} {d p:Nat} {wr w2 w9:World} {vr:Value} (I:LdI B L t N w0 r room v d wr vr) (h:IsT L t) (ha:Ars L) (hd:p+d+1=t.length) (hv:∀ x∈t,0≤x) (hr:N.length+t.length≤room) (k1:Same0 wr w2) {gg cap:Nat}
  (r9:NRow (fun b=>B b∨w0.heap.size≤b) 0 w9 (.slice (some ⟨gg,0,none⟩) ((laidN L t N d).length+1) cap) (laidN L t N d ++ [plN L t (N.length+t.length) p])) (k9:Kept (fun k=>vr.ownBlock=some k) w2 w9) (hat:vr.ownBlock=some gg∨w2.heap.size≤gg) :
  (w9.cell? ⟨r,0,none⟩=some (.int .i64 (room:Int))∧w9.cell? ⟨r,1,none⟩=some vr∧w9.frozen? ⟨r,1,none⟩=false)∧LdI B L t N w0 r room v (d+1) (w9.setCell ⟨r,1,none⟩ (.slice (some ⟨gg,0,none⟩) ((laidN L t N d).length+1) cap)) (.slice (some ⟨gg,0,none⟩) ((laidN L t N d).length+1) cap):=by
 obtain ⟨q1,q2,q3⟩:=I.1.made k1 (laid_mk h ha N hd hv hr) r9 k9
 refine ⟨q1,?_,fun k e=>?_,?_⟩
 ·rw [laid_succ L t N hd];exact q2
 ·have e' : gg=k:=Option.some.inj e
  subst e'
  rcases hat with e2 | e2
  ·exact I.2.1 _ e2
  ·exact .inr (Nat.le_trans (Nat.le_trans I.2.2.size k1.size) e2)
 ·refine I.2.2.trans q3 ?_
  rintro i hi (e1 | e1)
  ·exact .inl e1
  ·rcases I.2.1 _ e1 with e2 | e2
   ·exact .inr e2
   ·omega
end Go.Proofs.YtblgblgchkonhaaGreat
