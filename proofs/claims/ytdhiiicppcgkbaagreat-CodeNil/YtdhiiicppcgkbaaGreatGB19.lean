import Derived.Test.YtdhiiicppcgkbaaGreatGB18
import Derived.Laws.StructEq
import Derived.Test.YtdhiiicppcgkbaaGreatGB14
import Derived.Test.YtdhiiicppcgkbaaGreatGB17
import Derived.Test.YtdhiiicppcgkbaaGreatGB16
import Derived.Deep.RegionLaw
import Derived.Deep.AppendLies
namespace Go.Proofs.YtdhiiicppcgkbaaGreat
set_option maxRecDepth 100000
set_option linter.unusedVariables false
open Go.RowKit
attribute [local go_sem ↓] Go.wp_at_zero Go.wp_at_succ
theorem vw_nil (v:Value) (w:World):(binOp .eql 147 (.iface 70 v) .nilIface).run Tryz.prog w=.ok (.bool false) w:=by kernel_rfl
theorem vw_ptr (v u:Value) (w:World):(binOp .eql 147 (.iface 70 v) (.iface 148 u)).run Tryz.prog w=.ok (.bool false) w:=by kernel_rfl
set_option maxHeartbeats 16000000 in
theorem run_any {base:Nat} {w:World} {L:List Sym} {ok:Bool} {T:List Int} {ho:Option Addr} {hn hc:Nat} {go:Option Addr} {gn gc:Nat} (hv:VwAt base w L ok T (.agg #[.slice ho hn hc,.slice go gn gc])) {io:Option Addr} {I:List I3} (hI:InsAt w io I) (hl:I.length≤140737488355328) {po:Option Addr} {P:List (List Int)} (hP:PthAt w po P) {eo:Option Addr} {E:List Int} (hE:IntsAt w eo E) (ic pc ec:Nat) (ro:Option Addr) (rl rc:Nat) (n node:Int) :
  Calls Tryz.prog 25 #[.agg #[.slice io I.length ic,.slice po P.length pc,.slice eo E.length ec,.slice ro rl rc],.int .i64 n,.iface 70 (.agg #[.slice ho hn hc,.slice go gn gc]),.int .i64 node] w (FndOut w (codeF L ok T I P E n node)):=by
 have en:=vw_nil (.agg #[.slice ho hn hc,.slice go gn gc])
 have ep:=vw_ptr (.agg #[.slice ho hn hc,.slice go gn gc]) (.pointer none)
 obtain ⟨W1,hW1⟩:∃ W1,W1=(w.alloc (.cells #[.slice io I.length ic,.slice po P.length pc,.slice eo E.length ec,.slice ro rl rc] 45)).alloc (.cells #[.int .i64 0,.int .i64 0,.slice none 0 0,.int .i64 0] 73):=⟨_,rfl⟩
 have KW:Same0 w W1:=by rw [hW1];exact ((Kept.refl _ w).alloc _).alloc _
 have hbx:W1.heap[w.heap.size]? = some (.cells #[.slice io I.length ic,.slice po P.length pc,.slice eo E.length ec,.slice ro rl rc] 45 (0,0)):=by rw [hW1];exact heap_alloc2_old _ _ _
 have hfd:W1.heap[w.heap.size+1]? = some (.cells #[.int .i64 0,.int .i64 0,.slice none 0 0,.int .i64 0] 73 (0,0)):=by rw [hW1];exact heap_al_al _ _ _
 have zW:w.heap.size+1<W1.heap.size:=lt_of_at hfd
 have BX:Hid (∀ ww,Same0 W1 ww→ww.cell? ⟨w.heap.size,0,none⟩=some (.slice io I.length ic)∧ww.cell? ⟨w.heap.size,1,none⟩=some (.slice po P.length pc)∧ww.cell? ⟨w.heap.size,2,none⟩=some (.slice eo E.length ec)∧ww.cell? ⟨w.heap.size,3,none⟩=some (.slice ro rl rc)):=fun ww hk=>by
  have:=hk.at0 hbx
  exact ⟨cellAt this 0,cellAt this 1,cellAt this 2,cellAt this 3⟩
 have RC:Hid (∀ ww,Same0 W1 ww→(ww.cell? ⟨w.heap.size+1,0,none⟩=some (.int .i64 0)∧ww.cell? ⟨w.heap.size+1,1,none⟩=some (.int .i64 0)∧ww.cell? ⟨w.heap.size+1,2,none⟩=some (.slice none 0 0)∧ww.cell? ⟨w.heap.size+1,3,none⟩=some (.int .i64 0))∧ww.frozen? ⟨w.heap.size+1,0,none⟩=false∧ww.frozen? ⟨w.heap.size+1,1,none⟩=false∧ww.frozen? ⟨w.heap.size+1,2,none⟩=false∧ww.frozen? ⟨w.heap.size+1,3,none⟩=false):=fun ww hk=>by
  have:=hk.at0 hfd
  exact ⟨⟨cellAt this 0,cellAt this 1,cellAt this 2,cellAt this 3⟩,frozenAt this 0,frozenAt this 1,frozenAt this 2,frozenAt this 3⟩
 have PUT:Hid (∀ ww x0 x1 x2 x3,Same0 W1 ww→(((((ww.setCell ⟨w.heap.size+1,0,none⟩ x0).setCell ⟨w.heap.size+1,1,none⟩ x1).setCell ⟨w.heap.size+1,2,none⟩ x2).setCell ⟨w.heap.size+1,3,none⟩ x3).cell? ⟨w.heap.size+1,0,none⟩=some x0∧((((ww.setCell ⟨w.heap.size+1,0,none⟩ x0).setCell ⟨w.heap.size+1,1,none⟩ x1).setCell ⟨w.heap.size+1,2,none⟩ x2).setCell ⟨w.heap.size+1,3,none⟩ x3).cell? ⟨w.heap.size+1,1,none⟩=some x1∧((((ww.setCell ⟨w.heap.size+1,0,none⟩ x0).setCell ⟨w.heap.size+1,1,none⟩ x1).setCell ⟨w.heap.size+1,2,none⟩ x2).setCell ⟨w.heap.size+1,3,none⟩ x3).cell? ⟨w.heap.size+1,2,none⟩=some x2∧((((ww.setCell ⟨w.heap.size+1,0,none⟩ x0).setCell ⟨w.heap.size+1,1,none⟩ x1).setCell ⟨w.heap.size+1,2,none⟩ x2).setCell ⟨w.heap.size+1,3,none⟩ x3).cell? ⟨w.heap.size+1,3,none⟩=some x3)∧Kept (fun q=>q=w.heap.size+1) ww ((((ww.setCell ⟨w.heap.size+1,0,none⟩ x0).setCell ⟨w.heap.size+1,1,none⟩ x1).setCell ⟨w.heap.size+1,2,none⟩ x2).setCell ⟨w.heap.size+1,3,none⟩ x3)∧Same0 w ((((ww.setCell ⟨w.heap.size+1,0,none⟩ x0).setCell ⟨w.heap.size+1,1,none⟩ x1).setCell ⟨w.heap.size+1,2,none⟩ x2).setCell ⟨w.heap.size+1,3,none⟩ x3)):=by
  intro ww x0 x1 x2 x3 hk
  have rs:=hk.at0 hfd
  have s3:=setAt (setAt (setAt (setAt rs 0 x0) 1 x1) 2 x2) 3 x3
  have k1:=kept_at ww (w.heap.size+1) 0 x0
  have k2:=Kept.trans k1 (kept_at _ (w.heap.size+1) 1 x1) (fun _ _ e=>e)
  have k3:=Kept.trans k2 (kept_at _ (w.heap.size+1) 2 x2) (fun _ _ e=>e)
  have k4:=Kept.trans k3 (kept_at _ (w.heap.size+1) 3 x3) (fun _ _ e=>e)
  exact ⟨⟨cellAt s3 0,cellAt s3 1,cellAt s3 2,cellAt s3 3⟩,k4,Kept.trans (KW.trans' hk) k4 (fun i hi e=>by omega)⟩
 have CH:=chas_any (hE.same KW) io po ro I.length ic P.length pc ec rl rc n
 obtain ⟨x0,x1,x2,x3⟩:=BX.out W1 (Kept.refl _ _)
 cases hb:hasB E n with
 | false=>
  rw [hb] at CH
  have HR:Hid (codeF L ok T I P E n node=(0,0,[],0,90)):=by show _=_;rw [codeF,if_neg (by rw [hb];simp)]
  clear hv hI hP hE hbx hfd hb
  go_enter Tryz.func25,Tryz.ntmps25
  go_upto_region 1 with fail
  rw [← hW1]
  clear hW1
  go_wp2_with (first | (go_at_call 64;refine CH.mono ?_;rintro e w2 ⟨rfl,k2⟩;obtain ⟨⟨r0,r1,r2,r3⟩,f0,f1,f2,f3⟩:=RC.out w2 k2))
  obtain ⟨⟨q0,q1,q2,q3⟩,kk,ks⟩:=PUT.out w2 (.int .i64 0) (.int .i64 0) (.slice none 0 0) (.int .i64 0) k2
  refine bodyPost_ret (v:=.tuple #[.agg #[.int .i64 0,.int .i64 0,.slice none 0 0,.int .i64 0],.int .i64 90]) (by simp [results,Tryz.results25,go_sem,q0,q1,q2,q3]) rfl ?_
  rw [HR.out]
  exact ⟨none,0,rfl,World.ownsRow_nil _ _ _ _,ks⟩
 | true=>
  rw [hb] at CH
  have hb2:=hb
  unfold hasB at hb2
  simp only [Bool.and_eq_true,decide_eq_true_eq] at hb2
  obtain ⟨i,rfl,hil⟩:=idx_yes hb2.1
  have hei:E.getD ((i:Int)).toNat (-1)=E[i]:=by rw [Int.toNat_natCast];simp [hil]
  have h0:0≤E[i]:=by have:=hb2.2;rw [hei] at this;exact this
  obtain ⟨a0,ha0⟩:∃ a0:Nat,E[i]=(a0:Int):=⟨E[i].toNat,by omega⟩
  have HR:Hid (codeF L ok T I P E (i:Int) node=runF L ok T I P E node (I.length+1) a0):=by show _=_;rw [codeF,if_pos hb,hei,ha0,Int.toNat_natCast]
  obtain ⟨eb,eoff,rfl,heb,hec⟩:=hE.get hil
  rw [ha0] at hec
  have CF:Hid (∀ ww,Same0 w ww→Calls Tryz.prog 65 #[.agg #[.slice io I.length ic,.slice po P.length pc,.slice (some ⟨eb,eoff,none⟩) E.length ec,.slice ro rl rc,.iface 70 (.agg #[.slice ho hn hc,.slice go gn gc]),.int .i64 node],.int .i64 (a0:Int)] ww fun e w' => ∃ qk qr qo ql qc qn qe,e=.returned (.tuple #[.agg #[.int .i64 qk,.int .i64 qr,.slice qo ql qc,.int .i64 qn],.int .i64 qe])∧Hid (FndOut ww (runF L ok T I P E node (I.length+1) a0) (.returned (.tuple #[.agg #[.int .i64 qk,.int .i64 qr,.slice qo ql qc,.int .i64 qn],.int .i64 qe])) w')∧Same0 ww w'):=fun ww hk=>by
   refine (from_any (hv.same hk) (hI.same hk) hl (hP.same hk) (hE.same hk) ic pc ec ro rl rc node a0).mono ?_
   intro e w' h
   obtain ⟨qo,qc,rfl,h1,h2⟩:=h
   exact ⟨_,_,_,_,_,_,_,rfl,⟨qo,qc,rfl,h1,h2⟩,h2⟩
  have i1:(0:Int)≤(i:Int):=by omega
  have i2:(i:Int)<(E.length:Int):=by omega
  have HS:Hid (∀ ww,Same0 W1 ww→ww.cell? ⟨w.heap.size,0,none⟩=some (.slice io I.length ic)∧ww.cell? ⟨w.heap.size,1,none⟩=some (.slice po P.length pc)∧ww.cell? ⟨w.heap.size,2,none⟩=some (.slice (some ⟨eb,eoff,none⟩) E.length ec)∧ww.cell? ⟨w.heap.size,3,none⟩=some (.slice ro rl rc)∧ww.cell? ⟨eb,eoff+i,none⟩=some (.int .i64 (a0:Int))):=fun ww hk=>by
   obtain ⟨t0,t1,t2,t3⟩:=BX.out ww hk
   exact ⟨t0,t1,t2,t3,((KW.trans' hk).cell (p:=⟨eb,eoff+i,none⟩) heb (fun f=>f)).trans hec⟩
  clear hv hI hP hE hbx hfd hb hb2 hei h0 ha0
  go_enter Tryz.func25,Tryz.ntmps25
  go_upto_region 1 with fail
  rw [← hW1]
  clear hW1
  go_upto_region 5 with (first | (go_at_call 64;refine CH.mono ?_;rintro e w2 ⟨rfl,k2⟩))
  have C0:=HS.out w2 k2
  have kd:Same0 w2 w2.drew:=Kept.drew (Kept.refl _ _)
  go_region_held3 (fun w' => w'.cell? ⟨w.heap.size,0,none⟩=some (.slice io I.length ic)∧w'.cell? ⟨w.heap.size,1,none⟩=some (.slice po P.length pc)∧w'.cell? ⟨w.heap.size,2,none⟩=some (.slice (some ⟨eb,eoff,none⟩) E.length ec)∧w'.cell? ⟨w.heap.size,3,none⟩=some (.slice ro rl rc)∧w'.cell? ⟨eb,eoff+i,none⟩=some (.int .i64 (a0:Int))) (first | exact C0 | exact cc3 | exact cc4.out) (first
   | (go_at_call 65;refine (CF.out _ ((KW.trans' k2).trans' kd)).mono ?_;rintro e w3 ⟨qk,qr,qo,ql,qc,qn,qe,rfl,hF,k3⟩;have hk3:Same0 W1 w3:=(k2.trans' kd).trans' k3;have cc3:=HS.out w3 hk3;obtain ⟨⟨r0,r1,r2,r3⟩,f0,f1,f2,f3⟩:=RC.out w3 hk3;have PH:Hid _:=PUT.out w3 (.int .i64 qk) (.int .i64 qr) (.slice qo ql qc) (.int .i64 qn) hk3;have cc4:Hid _:=And.intro ((PH.out.2.1.cell (p:=⟨w.heap.size,0,none⟩) (World.block_lt_of_cell? _ _ cc3.1) (fun e=>(by have e' : w.heap.size=w.heap.size+1:=e;omega))).trans cc3.1) (And.intro ((PH.out.2.1.cell (p:=⟨w.heap.size,1,none⟩) (World.block_lt_of_cell? _ _ cc3.2.1) (fun e=>(by have e' : w.heap.size=w.heap.size+1:=e;omega))).trans cc3.2.1) (And.intro ((PH.out.2.1.cell (p:=⟨w.heap.size,2,none⟩) (World.block_lt_of_cell? _ _ cc3.2.2.1) (fun e=>(by have e' : w.heap.size=w.heap.size+1:=e;omega))).trans cc3.2.2.1) (And.intro ((PH.out.2.1.cell (p:=⟨w.heap.size,3,none⟩) (World.block_lt_of_cell? _ _ cc3.2.2.2.1) (fun e=>(by have e' : w.heap.size=w.heap.size+1:=e;omega))).trans cc3.2.2.2.1) ((PH.out.2.1.cell (p:=⟨eb,eoff+i,none⟩) (World.block_lt_of_cell? _ _ cc3.2.2.2.2) (fun e=>(by have e' : eb=w.heap.size+1:=e;omega))).trans cc3.2.2.2.2))))))
  all_goals
   go_wp2_with fail
   obtain ⟨⟨q0,q1,q2,q3⟩,kk,ks⟩:=PH.out
   refine bodyPost_ret (v:=.tuple #[.agg #[.int .i64 qk,.int .i64 qr,.slice qo ql qc,.int .i64 qn],.int .i64 qe]) (by simp [results,Tryz.results25,go_sem,q0,q1,q2,q3]) rfl ?_
   rw [HR.out]
   obtain ⟨zo,zc,e1,h1,h2⟩:=hF.out
   refine ⟨zo,zc,e1,row_mono (kk.row h1 (fun q e e2=>?_)) ?_,ks⟩
   ·have:=row_base h1 e
    have e3:q=w.heap.size+1:=e2
    have hz:=k2.size
    have hz2:w2.drew.heap.size=w2.heap.size:=rfl
    omega
   ·have hz:=(KW.trans' k2).size
    exact hz
set_option maxHeartbeats 4000000 in
theorem sameIns_any {w:World} {io jo:Option Addr} {I:List I3} (hI:InsAt w io I) (hJ:InsAt w jo I) (hl:I.length≤140737488355328) (ic jc:Nat) :
  Calls Tryz.prog 13 #[.slice io I.length ic,.slice jo I.length jc] w fun e w' => e=.returned (.bool true)∧Same0 w w' := by
 go_enter Tryz.func13,Tryz.ntmps13
 go_upto_region 4 with fail
 go_loopw [5] (fun s5 wr=>∃ k:Nat,k≤I.length∧s5=.int .i64 (k:Int)∧Same0 w wr) (fun s5 _=>I.length-(intOf s5).toNat)
 case atStart=>exact ⟨0,Nat.zero_le _,rfl,Kept.refl _ _⟩
 case round=>
  obtain ⟨k,hk,rfl,hs⟩:=hrel
  by_cases hlt:k<I.length
  ·obtain ⟨b,off,rfl,hb,c0,c1,c2⟩:=(hI.same hs).get hlt
   obtain ⟨b', off', rfl,hb', d0,d1,d2⟩:=(hJ.same hs).get hlt
   have i1:(0:Int)≤(k:Int):=by omega
   have i2:(k:Int)<(I.length:Int):=by omega
   generalize I[k].1=x at *
   generalize I[k].2.1=y at *
   generalize I[k].2.2=z at *
   go_upto_region 6 with fail
   go_quiet (fail)
   go_wp2_with fail
   go_roundw
   case rel=>first | exact ⟨k+1,by omega,by go_num,Kept.drewN hs _⟩ | ((repeat apply Exists.intro);exact ⟨⟨k+1,by omega,by go_num,Kept.drewN hs _⟩,rfl⟩)
   case measure=>simp [intOf];omega
  ·go_wp2_with fail
   go_ret
   exact ⟨rfl,hs⟩
def rulesF:(n:Nat)→Tr n→List Int
 | 0,_=>[]
 | n+1,(k,r,p,l)=>if k=1 then [r] else if k=2 then l.flatMap (fun x=>rulesF n x.2) else []
def SmK:(n:Nat)→Tr n→Prop
 | 0,_=>True
 | n+1,(k,r,p,l)=>l.length≤1000000000∧∀ i (h:i<l.length),SmK n l[i].2
structure RAt (w:World) (lb base:Nat) (lv:Value) (out:List Int):Prop where
 blk:w.heap[lb]? = some (.cells #[lv] 22 (0,0))
 row:Row base w lv out
theorem RAt.far {w:World} {lb base:Nat} {lv:Value} {out:List Int} (h:RAt w lb base lv out):¬ lv.ownBlock=some lb:=fun e=>by
 obtain ⟨c,hc⟩:=own_blk h.row e
 rw [h.blk] at hc;cases hc
theorem RAt.lt {w:World} {lb base:Nat} {lv:Value} {out:List Int} (h:RAt w lb base lv out):lb<w.heap.size∧∀ q,lv.ownBlock=some q→q<w.heap.size:=⟨lt_of_at h.blk,fun q e=>by obtain ⟨c,hc⟩:=own_blk h.row e;exact lt_of_at hc⟩
theorem RAt.same {w w' : World} {lb base:Nat} {lv:Value} {out:List Int} (h:RAt w lb base lv out) (hk:Same0 w w'):RAt w' lb base lv out:=⟨hk.at0 h.blk,hk.row h.row (fun _ _ f=>f)⟩
abbrev T3:=Nat × Nat × Nat
def add3 (a b:T3):T3:=(a.1+b.1,a.2.1+b.2.1,a.2.2+b.2.2)
def sum3 {α:Type} (f:α→T3):List α→T3
 | []=>(0,0,0)
 | x :: r=>add3 (f x) (sum3 f r)
theorem sum3_append {α:Type} (f:α→T3):∀ (a b:List α),sum3 f (a++b)=add3 (sum3 f a) (sum3 f b)
 | [],b=>by simp [sum3,add3]
 | x :: r,b=>by
  rw [List.cons_append,sum3,sum3,sum3_append f r b]
  simp only [add3,Nat.add_assoc]
def kind3 (k:Int):T3:=if k=1 then (1,0,0) else if k=2 then (0,1,0) else if k=3 then (0,0,1) else (0,0,0)
def szT:(n:Nat)→Tr n→T3
 | 0,_=>(0,0,0)
 | n+1,(k,r,p,l)=>add3 (kind3 k) (if k=2 then sum3 (fun x=>szT n x.2) l else (0,0,0))
structure SAt (w:World) (x y z:Nat) (a:T3):Prop where
 bx:w.heap[x]? = some (.cells #[.int .i64 (a.1:Int)] 3 (0,0))
 by' : w.heap[y]? = some (.cells #[.int .i64 (a.2.1:Int)] 3 (0,0))
 bz:w.heap[z]? = some (.cells #[.int .i64 (a.2.2:Int)] 3 (0,0))
 xy:x≠y
 xz:x≠z
 yz:y≠z
def In3 (x y z q:Nat):Prop:=q=x∨q=y∨q=z
theorem SAt.same {w w' : World} {x y z:Nat} {a:T3} (h:SAt w x y z a) (hk:Same0 w w'):SAt w' x y z a:=⟨hk.at0 h.bx,hk.at0 h.by', hk.at0 h.bz,h.xy,h.xz,h.yz⟩
theorem SAt.lt {w:World} {x y z:Nat} {a:T3} (h:SAt w x y z a):∀ q,In3 x y z q→q<w.heap.size:=by
 rintro q (rfl | rfl | rfl)
 ·exact lt_of_at h.bx
 ·exact lt_of_at h.by'
 ·exact lt_of_at h.bz
abbrev zeroC:Value:=.agg #[.int .i64 0,.int .i64 0,.slice none 0 0,.slice none 0 0]
def treeF (L:List Sym) (R:List Ru) (s:Nat):Except Int (Tr 2001):=growF L 2001 (rootP L s) (rootR L R s)
def BldPost (L:List Sym) (R:List Ru) (n:Int) (w:World) (e:Ending) (w' : World):Prop:=
 Same0 w w' ∧ if defB L n=true then
  (match treeF L R n.toNat with
  | .ok t=>∃ v,e=.returned (.tuple #[v,.nilIface])∧CsB (fun b=>w.heap.size≤b) w' 2001 v t
  | .error z=>∃ v,e=.returned (.tuple #[zeroC,v])∧FltAt w' [(81,n),(82,z)] v)
 else ∃ v,e=.returned (.tuple #[zeroC,v])∧FltAt w' [(80,0)] v
theorem ptr_nil (b:Nat) (w:World):(binOp .eql 39 (.pointer (some ⟨b,0,none⟩)) (.pointer none)).run Tryz.prog w=.ok (.bool false) w:=by kernel_rfl
theorem kidsN_err {α:Type} {has:Nat→Bool} {g:Nat→Except Int α} {z:Int}:∀ {k:Nat},kidsN has g k=.error z→∃ j,g j=.error z
 | 0,h=>by cases h
 | k+1,h=>by
  rw [kidsN] at h
  cases hk:kidsN has g k with
  | error e=>rw [hk] at h;cases h;exact kidsN_err hk
  | ok l=>
   rw [hk] at h
   simp only at h
   split at h
   ·cases hg:g k with
    | error e=>rw [hg] at h;cases h;exact ⟨k,hg⟩
    | ok t=>rw [hg] at h;cases h
   ·cases h
theorem growF_err {L:List Sym} {z:Int}:∀ {n:Nat} {P:List (List Int)} {R:List Rw},(∀ x∈R,0≤x.1)→growF L n P R=.error z→0≤z
 | 0,P,R,hR,h=>by rw [growF] at h;cases h;omega
 | n+1,P,R,hR,h=>by
  have hh:¬ R.length=0→0≤(R.headD (0,[],[])).1:=fun h0=>by
   cases R with
   | nil=>simp at h0
   | cons x r=>exact hR x (List.mem_cons_self ..)
  by_cases h0:R.length=0
  ·rw [growF_zero h0] at h;cases h
  ·cases hp:partN R P.length with
   | some c=>
    rw [growF_branch h0 hp] at h
    unfold BrF at h
    cases hk:KidsF L n P R c L.length with
    | ok l=>rw [hk] at h;cases h
    | error e=>
     rw [hk] at h
     cases h
     obtain ⟨j,hj⟩:=kidsN_err hk
     refine growF_err (fun x hx=>?_) hj
     obtain ⟨y,hy,rfl⟩:=List.mem_map.1 hx
     exact hR y (havR_mem hy).1
   | none=>
    by_cases h1:R.length=1
    ·rw [growF_leaf h1 hp] at h;cases h
    ·rw [growF_fork h0 h1 hp] at h;cases h;exact hh h0
set_option maxHeartbeats 16000000 in
theorem build_any {w:World} {b bs:Nat} {L:List Sym} {R:List Ru} {lv:Value} {vs:List Value} (h:StAt w b bs L R lv vs) (n:Int) :
  Calls Tryz.prog 35 #[.pointer (some ⟨b,0,none⟩),.int .i64 n] w (BldPost L R n w):=by
 have hpn:=ptr_nil
 have hle:=h.le
 have hok:=h.ok
 obtain ⟨W1,hW1⟩:∃ W1,W1=((w.alloc (.cells #[.int .i64 n] 3)).alloc zeroCs).alloc (.cells #[.nilIface] 47):=⟨_,rfl⟩
 have KW:Same0 w W1:=by rw [hW1];exact (((Kept.refl _ w).alloc _).alloc _).alloc _
 have ez:W1.heap.size=w.heap.size+1+1+1:=by rw [hW1];simp
 have BK:Hid (∀ ww,Same0 W1 ww→ww.heap[w.heap.size]? = some (.cells #[.int .i64 n] 3 (0,0))∧ww.heap[w.heap.size+1]? = some (.cells #[.int .i64 0,.int .i64 0,.slice none 0 0,.slice none 0 0] 25 (0,0))∧ww.heap[w.heap.size+1+1]? = some (.cells #[.nilIface] 47 (0,0))):=fun ww hk=>by
  have k1:Same0 (w.alloc (.cells #[.int .i64 n] 3)) W1:=by rw [hW1];exact ((Kept.refl _ _).alloc _).alloc _
  have k2:Same0 ((w.alloc (.cells #[.int .i64 n] 3)).alloc zeroCs) W1:=by rw [hW1];exact (Kept.refl _ _).alloc _
  have h3:=heap_al_al (w.alloc (.cells #[.int .i64 n] 3)) zeroCs (.cells #[.nilIface] 47)
  rw [World.size_alloc] at h3
  exact ⟨hk.at0 (k1.at0 (heap_alloc_new w _)),hk.at0 (k2.at0 (heap_al_al _ _ _)),hk.at0 (by rw [hW1];exact h3)⟩
 have RC:Hid (∀ ww,Same0 W1 ww→ww.cell? ⟨w.heap.size,0,none⟩=some (.int .i64 n)∧(ww.cell? ⟨w.heap.size+1,0,none⟩=some (.int .i64 0)∧ww.cell? ⟨w.heap.size+1,1,none⟩=some (.int .i64 0)∧ww.cell? ⟨w.heap.size+1,2,none⟩=some (.slice none 0 0)∧ww.cell? ⟨w.heap.size+1,3,none⟩=some (.slice none 0 0))∧(ww.frozen? ⟨w.heap.size+1,0,none⟩=false∧ww.frozen? ⟨w.heap.size+1,1,none⟩=false∧ww.frozen? ⟨w.heap.size+1,2,none⟩=false∧ww.frozen? ⟨w.heap.size+1,3,none⟩=false)∧ww.cell? ⟨w.heap.size+1+1,0,none⟩=some .nilIface∧ww.frozen? ⟨w.heap.size+1+1,0,none⟩=false):=fun ww hk=>by
  obtain ⟨h1,h2,h3⟩:=BK.out ww hk
  exact ⟨cellAt h1 0,⟨cellAt h2 0,cellAt h2 1,cellAt h2 2,cellAt h2 3⟩,⟨frozenAt h2 0,frozenAt h2 1,frozenAt h2 2,frozenAt h2 3⟩,cellAt h3 0,frozenAt h3 0⟩
 have CS:Hid (∀ ww,Same0 w ww→Calls Tryz.prog 50 #[.pointer (some ⟨b,0,none⟩)] ww fun e w' => ∃ bt,e=.returned (.pointer (some ⟨bt,0,none⟩))∧Hid (Sg w'.heap.size w' bt L)∧Same0 ww w'):=fun ww hk=>by
  refine (ssig_any (h.same hk)).mono ?_
  rintro e w' ⟨bt,rfl,hb,sv,mr,h1,h2,h3⟩
  exact ⟨bt,rfl,⟨⟨sv,mr,h1,fun k hk=>sig_foot_lt h1 k hk⟩,h.sig.2⟩,h3⟩
 have HST:Hid (∀ ww,Same0 w ww→StAt ww b bs L R lv vs):=fun ww hk=>h.same hk
 have PUT:Hid (∀ ww x0 x1 x2 x3 y,Same0 W1 ww→((((((ww.setCell ⟨w.heap.size+1,0,none⟩ x0).setCell ⟨w.heap.size+1,1,none⟩ x1).setCell ⟨w.heap.size+1,2,none⟩ x2).setCell ⟨w.heap.size+1,3,none⟩ x3).setCell ⟨w.heap.size+1+1,0,none⟩ y)).cell? ⟨w.heap.size+1,0,none⟩=some x0∧((((((ww.setCell ⟨w.heap.size+1,0,none⟩ x0).setCell ⟨w.heap.size+1,1,none⟩ x1).setCell ⟨w.heap.size+1,2,none⟩ x2).setCell ⟨w.heap.size+1,3,none⟩ x3).setCell ⟨w.heap.size+1+1,0,none⟩ y)).cell? ⟨w.heap.size+1,1,none⟩=some x1∧((((((ww.setCell ⟨w.heap.size+1,0,none⟩ x0).setCell ⟨w.heap.size+1,1,none⟩ x1).setCell ⟨w.heap.size+1,2,none⟩ x2).setCell ⟨w.heap.size+1,3,none⟩ x3).setCell ⟨w.heap.size+1+1,0,none⟩ y)).cell? ⟨w.heap.size+1,2,none⟩=some x2∧((((((ww.setCell ⟨w.heap.size+1,0,none⟩ x0).setCell ⟨w.heap.size+1,1,none⟩ x1).setCell ⟨w.heap.size+1,2,none⟩ x2).setCell ⟨w.heap.size+1,3,none⟩ x3).setCell ⟨w.heap.size+1+1,0,none⟩ y)).cell? ⟨w.heap.size+1,3,none⟩=some x3∧((((((ww.setCell ⟨w.heap.size+1,0,none⟩ x0).setCell ⟨w.heap.size+1,1,none⟩ x1).setCell ⟨w.heap.size+1,2,none⟩ x2).setCell ⟨w.heap.size+1,3,none⟩ x3).setCell ⟨w.heap.size+1+1,0,none⟩ y)).cell? ⟨w.heap.size+1+1,0,none⟩=some y∧Kept (fun q=>q=w.heap.size+1∨q=w.heap.size+1+1) ww ((((((ww.setCell ⟨w.heap.size+1,0,none⟩ x0).setCell ⟨w.heap.size+1,1,none⟩ x1).setCell ⟨w.heap.size+1,2,none⟩ x2).setCell ⟨w.heap.size+1,3,none⟩ x3).setCell ⟨w.heap.size+1+1,0,none⟩ y))∧Same0 w ((((((ww.setCell ⟨w.heap.size+1,0,none⟩ x0).setCell ⟨w.heap.size+1,1,none⟩ x1).setCell ⟨w.heap.size+1,2,none⟩ x2).setCell ⟨w.heap.size+1,3,none⟩ x3).setCell ⟨w.heap.size+1+1,0,none⟩ y))):=by
  intro ww x0 x1 x2 x3 y hk
  obtain ⟨h1,h2,h3⟩:=BK.out ww hk
  have s3:=setAt (setAt (setAt (setAt h2 0 x0) 1 x1) 2 x2) 3 x3
  have k1:=Kept.setCell (p:=⟨w.heap.size+1,0,none⟩) (Kept.refl (fun q=>q=w.heap.size+1) ww) (fun _=>rfl) x0
  have k2:=Kept.setCell (p:=⟨w.heap.size+1,1,none⟩) k1 (fun _=>rfl) x1
  have k3:=Kept.setCell (p:=⟨w.heap.size+1,2,none⟩) k2 (fun _=>rfl) x2
  have k4:=Kept.setCell (p:=⟨w.heap.size+1,3,none⟩) k3 (fun _=>rfl) x3
  have h3' := k4.at h3 (fun e=>by omega)
  have s4:=setAt h3' 0 y
  have k5:=Kept.setCell (p:=⟨w.heap.size+1+1,0,none⟩) (Kept.refl (fun q=>q=w.heap.size+1+1) ((((ww.setCell ⟨w.heap.size+1,0,none⟩ x0).setCell ⟨w.heap.size+1,1,none⟩ x1).setCell ⟨w.heap.size+1,2,none⟩ x2).setCell ⟨w.heap.size+1,3,none⟩ x3)) (fun _=>rfl) y
  have s3' := k5.at s3 (fun e=>by omega)
  have kk:Kept (fun q=>q=w.heap.size+1∨q=w.heap.size+1+1) ww ((((((ww.setCell ⟨w.heap.size+1,0,none⟩ x0).setCell ⟨w.heap.size+1,1,none⟩ x1).setCell ⟨w.heap.size+1,2,none⟩ x2).setCell ⟨w.heap.size+1,3,none⟩ x3).setCell ⟨w.heap.size+1+1,0,none⟩ y)):=Kept.trans (k4.mono (fun _ _ e=>.inl e)) k5 (fun _ _ e=>.inr e)
  exact ⟨cellAt s3' 0,cellAt s3' 1,cellAt s3' 2,cellAt s3' 3,cellAt s4 0,kk,Kept.trans (KW.trans' hk) kk (fun i hi e=>by omega)⟩
 clear h
 have C1:=CS.out W1 KW
 cases hd:defB L n with
 | false=>
  have FIN:Hid (∀ ww v,Same0 w ww→FltAt ww [(80,0)] v→BldPost L R n w (.returned (.tuple #[zeroC,v])) ww):=fun ww v hk hf=>⟨hk,by rw [hd];exact ⟨v,rfl,hf⟩⟩
  have CD:Hid (∀ ww bt,Same0 W1 ww→Sg ww.heap.size ww bt L→Calls Tryz.prog 69 #[.pointer (some ⟨bt,0,none⟩),.int .i64 n] ww fun e w' => e=.returned (.bool false)∧Same0 ww w'):=fun ww bt hk hs=>by rw [← hd];exact tdef_any hs n
  clear hd
  go_enter Tryz.func35,Tryz.ntmps35
  go_upto_region 1 with fail
  rw [← hW1]
  clear hW1
  go_upto_region 4 with (first | (go_at_call 50;refine C1.mono ?_;rintro e w2 ⟨bt,rfl,hs2,k2⟩))
  obtain ⟨r0,_⟩:=RC.out w2 k2
  have C2:=CD.out w2 bt k2 hs2.out
  go_upto_region 5 with (first | (go_at_call 69;refine C2.mono ?_;rintro e w3 ⟨rfl,k3⟩))
  have k13:=k2.trans' k3
  have ka:Same0 W1 (w3.alloc (.cells #[.int .i64 80,.int .i64 0,.nilIface] 125)):=Kept.alloc k13 _
  obtain ⟨_,⟨q0,q1,q2,q3⟩,⟨f0,f1,f2,f3⟩,q4,f4⟩:=RC.out _ ka
  have PP:=PUT.out _ (.int .i64 0) (.int .i64 0) (.slice none 0 0) (.slice none 0 0) (.iface 123 (.pointer (some ⟨w3.heap.size,0,none⟩))) ka
  have PH:Hid _:=PP
  clear PP
  go_wp2_with fail
  obtain ⟨g0,g1,g2,g3,g4,kk,ks⟩:=PH.out
  have hf:=kk.at (heap_alloc_new w3 _) (fun e=>by have:=k13.size;omega)
  exact bodyPost_ret (v:=.tuple #[zeroC,.iface 123 (.pointer (some ⟨w3.heap.size,0,none⟩))]) (by simp [results,Tryz.results35,go_sem,g0,g1,g2,g3,g4]) rfl (FIN.out _ _ ks (.inr ⟨by omega,_,_,rfl,hf,rfl⟩))
 | true=>
  obtain ⟨s,hs,rfl⟩:∃ s:Nat,s<L.length∧n=(s:Int):=by
   by_cases hx:n<0∨(L.length:Int)≤n
   ·rw [defB_no hx] at hd;cases hd
   ·exact ⟨n.toNat,by omega,by omega⟩
  have CD:Hid (∀ ww bt,Same0 W1 ww→Sg ww.heap.size ww bt L→Calls Tryz.prog 69 #[.pointer (some ⟨bt,0,none⟩),.int .i64 (s:Int)] ww fun e w' => e=.returned (.bool true)∧Same0 ww w'):=fun ww bt hk hs=>by rw [← hd];exact tdef_any hs _
  have CR:Hid (∀ ww bt,Same0 W1 ww→Sg ww.heap.size ww bt L→Calls Tryz.prog 72 #[.pointer (some ⟨bt,0,none⟩),.pointer (some ⟨b,0,none⟩),.int .i64 (s:Int)] ww fun e w' => ∃ po pc ro rc,e=.returned (.agg #[.pointer (some ⟨bt,0,none⟩),.slice po (rootP L s).length pc,.slice ro (rootR L R s).length rc])∧Hid (NdIn w' L 2001 bt po pc (rootP L s) ro (rootR L R s))∧Same0 ww w'):=fun ww bt hk hg=>rootOf_any hg (HST.out ww (KW.trans' hk)) hs
  have CG:Hid (∀ ww bt po pc ro rc,NdIn ww L 2001 bt po pc (rootP L s) ro (rootR L R s)→Calls Tryz.prog 73 #[.agg #[.pointer (some ⟨bt,0,none⟩),.slice po (rootP L s).length pc,.slice ro (rootR L R s).length rc]] ww (TreeOut ww (treeF L R s))):=fun ww bt po pc ro rc hi=>tgrow_any L 2001 ww bt po pc _ ro rc _ hi
  cases ht:treeF L R s with
  | ok t=>
   rw [ht] at CG
   have CG2:Hid (∀ ww bt po pc ro rc,NdIn ww L 2001 bt po pc (rootP L s) ro (rootR L R s)→Calls Tryz.prog 73 #[.agg #[.pointer (some ⟨bt,0,none⟩),.slice po (rootP L s).length pc,.slice ro (rootR L R s).length rc]] ww fun e w' => ∃ tk tr tpo tpl tpc tko tkl tkc,e=.returned (.agg #[.int .i64 tk,.int .i64 tr,.slice tpo tpl tpc,.slice tko tkl tkc])∧Hid (CsB (fun b=>ww.heap.size≤b) w' 2001 (.agg #[.int .i64 tk,.int .i64 tr,.slice tpo tpl tpc,.slice tko tkl tkc]) t)∧Same0 ww w'):=fun ww bt po pc ro rc hi=>by
    refine (CG.out ww bt po pc ro rc hi).mono ?_
    rintro e w' ⟨v,rfl,h1,h2⟩
    obtain ⟨tk,tr,tpo,tpl,tpc,tko,tkl,tkc,rfl⟩:=h1.shape
    exact ⟨tk,tr,tpo,tpl,tpc,tko,tkl,tkc,rfl,h1,h2⟩
   have FIN:Hid (∀ ww v,Same0 w ww→CsB (fun b=>w.heap.size≤b) ww 2001 v t→BldPost L R (s:Int) w (.returned (.tuple #[v,.nilIface])) ww):=fun ww v hk hf=>⟨hk,by rw [if_pos hd];simp only [Int.toNat_natCast];rw [ht];exact ⟨v,rfl,hf⟩⟩
   clear hd CG ht
   go_enter_defers Tryz.func35,Tryz.ntmps35
   go_upto_region 1 with fail
   rw [← hW1]
   clear hW1
   go_upto_region 4 with (first | (go_at_call 50;refine C1.mono ?_;rintro e w2 ⟨bt,rfl,hs2,k2⟩))
   obtain ⟨r0,_⟩:=RC.out w2 k2
   have C2:=CD.out w2 bt k2 hs2.out
   go_upto_region 7 with (first | (go_at_call 69;refine C2.mono ?_;rintro e w3 ⟨rfl,k3⟩))
   have k13:=k2.trans' k3
   obtain ⟨r3,_⟩:=RC.out w3 k13
   have C3:=CR.out w3 bt k13 (sg_up (hs2.out.same k3) k3.size)
   go_wp2_with (first
    | (go_at_call 72;refine C3.mono ?_;rintro e w4 ⟨po,pc,ro,rc,rfl,hi,k4⟩;have C4:=CG2.out w4 bt po pc ro rc hi.out)
    | (go_at_call 73;refine C4.mono ?_;rintro e w5 ⟨tk,tr,tpo,tpl,tpc,tko,tkl,tkc,rfl,hcs,k5⟩;have k15:=(k13.trans' k4).trans' k5;obtain ⟨_,⟨q0,q1,q2,q3⟩,⟨f0,f1,f2,f3⟩,q4,f4⟩:=RC.out _ k15))
   have PH:Hid _:=PUT.out w5 (.int .i64 tk) (.int .i64 tr) (.slice tpo tpl tpc) (.slice tko tkl tkc) .nilIface k15
   refine leaves_cons (f:=70) (args:=#[.pointer (some ⟨w.heap.size,0,none⟩),.pointer (some ⟨w.heap.size+1+1,0,none⟩)]) (by simp) (by simp [go_sem]) ?_
   refine (catch_none _).mono ?_
   rintro e u' w'' ⟨rfl,rfl,rfl⟩
   obtain ⟨g0,g1,g2,g3,g4,kk,ks⟩:=PH.out
   have z4:=(k13.trans' k4).size
   simp [Leaves,settle,results,Tryz.results35,go_sem,g0,g1,g2,g3,g4]
   exact FIN.out _ _ ks (CsB.mono (fun b hb q=>by have:w4.heap.size≤b:=q;omega) (CsB.kept kk (fun b q e=>by have:w4.heap.size≤b:=q;omega) hcs.out))
  | error z=>
   rw [ht] at CG
   have hz:0≤z:=by
    refine growF_err (fun x hx=>?_) ht
    obtain ⟨y,hy,rfl⟩:=List.mem_map.1 hx
    obtain ⟨j,hj,rfl,_⟩:=rows_fact hok hy
    show (0:Int)≤(j:Int)
    omega
   have CG2:Hid (∀ ww bt po pc ro rc,NdIn ww L 2001 bt po pc (rootP L s) ro (rootR L R s)→Calls Tryz.prog 73 #[.agg #[.pointer (some ⟨bt,0,none⟩),.slice po (rootP L s).length pc,.slice ro (rootR L R s).length rc]] ww fun e w' => ∃ k,e=.panicked [{ v:=.iface 123 (.pointer (some ⟨k,0,none⟩)),recovered:=false }]∧Hid (w'.heap[k]? = some (.cells #[.int .i64 82,.int .i64 z,.nilIface] 125 (0,0)))∧Same0 ww w'):=fun ww bt po pc ro rc hi=>by
    refine (CG.out ww bt po pc ro rc hi).mono ?_
    rintro e w' ⟨⟨k,h1,h2⟩,h3⟩
    exact ⟨k,h1,h2,h3⟩
   have FIN:Hid (∀ ww v,Same0 w ww→FltAt ww [(81,(s:Int)),(82,z)] v→BldPost L R (s:Int) w (.returned (.tuple #[zeroC,v])) ww):=fun ww v hk hf=>⟨hk,by rw [if_pos hd];simp only [Int.toNat_natCast];rw [ht];exact ⟨v,rfl,hf⟩⟩
   clear hd CG ht
   go_enter_defers Tryz.func35,Tryz.ntmps35
   go_upto_region 1 with fail
   rw [← hW1]
   clear hW1
   go_upto_region 4 with (first | (go_at_call 50;refine C1.mono ?_;rintro e w2 ⟨bt,rfl,hs2,k2⟩))
   obtain ⟨r0,_⟩:=RC.out w2 k2
   have C2:=CD.out w2 bt k2 hs2.out
   go_upto_region 7 with (first | (go_at_call 69;refine C2.mono ?_;rintro e w3 ⟨rfl,k3⟩))
   have k13:=k2.trans' k3
   obtain ⟨r3,_⟩:=RC.out w3 k13
   have C3:=CR.out w3 bt k13 (sg_up (hs2.out.same k3) k3.size)
   go_wp2_with (first
    | (go_at_call 72;refine C3.mono ?_;rintro e w4 ⟨po,pc,ro,rc,rfl,hi,k4⟩;have C4:=CG2.out w4 bt po pc ro rc hi.out)
    | (go_at_call 73;refine C4.mono ?_;rintro e w5 ⟨k,rfl,hk,k5⟩))
   have k15:=(k13.trans' k4).trans' k5
   obtain ⟨x0,⟨q0,q1,q2,q3⟩,⟨f0,f1,f2,f3⟩,q4,f4⟩:=RC.out _ k15
   obtain ⟨b1,b2,b3⟩:=BK.out w5 k15
   refine leaves_cons (f:=70) (args:=#[.pointer (some ⟨w.heap.size,0,none⟩),.pointer (some ⟨w.heap.size+1+1,0,none⟩)]) (by simp) (by simp [go_sem]) ?_
   refine (catch_fork k w5 x0 b3 (by omega)).mono ?_
   rintro e u' w6 ⟨rfl,rfl,q,h1,h2,k6⟩
   have b2' := k6.at b2 (fun e=>by omega)
   have g0:=cellAt b2' 0
   have g1:=cellAt b2' 1
   have g2:=cellAt b2' 2
   have g3:=cellAt b2' 3
   have g4:=cellAt h2 0
   simp only [List.getElem?_toArray,List.getElem?_cons_zero,List.getElem?_cons_succ] at g0 g1 g2 g3 g4
   have hk6:=k6.at hk.out (fun e=>by subst e;have:=hk.out;rw [b3] at this;cases this)
   have ks:Same0 w w6:=Kept.trans (KW.trans' k15) k6 (fun i hi e=>by omega)
   simp [Leaves,settle,results,Tryz.results35,go_sem,g0,g1,g2,g3,g4]
   exact FIN.out _ _ ks (.inr ⟨by omega,q,_,rfl,h1,.inr ⟨by omega,k,_,rfl,hk6,rfl⟩⟩)
end Go.Proofs.YtdhiiicppcgkbaaGreat
namespace Go.Proofs.YtdhiiicppcgkbaaGreat
set_option maxRecDepth 100000
set_option linter.unusedVariables false
structure GL (n:Nat) (R:List Rw) (t:Tr n):Prop where
 len:(rulesF n t).length=R.length
 mem:∀ x∈R,x.1∈rulesF n t
 fl:(szT n t).2.2=if R.length=0 then 1 else 0
 br:(szT n t).2.1≤n * R.length
 lv:(szT n t).1=R.length
 b0:(szT n t).2.1=0→R.length≤1
 sm:SmK n t
def cntR (R:List Rw) (c:Nat) (k:Nat):Nat:=(R.filter (fun x=>decide (numR x c<(k:Int)))).length
theorem cntR_succ {R:List Rw} {c k:Nat} (h:∀ x∈R,0≤numR x c):cntR R c (k+1)=cntR R c k+(havR R c (k:Int)).length:=by
 unfold cntR havR
 induction R with
 | nil=>rfl
 | cons x r ih=>
  have h0:=ih (fun y hy=>h y (List.mem_cons_of_mem _ hy))
  have hx:=h x (List.mem_cons_self ..)
  by_cases h1:numR x c<(k:Int)
  ·have h2:numR x c<((k+1:Nat):Int):=by omega
   have h3:¬ numR x c=(k:Int):=by omega
   simp only [List.filter_cons,h1,h2,h3,decide_true,decide_false,if_true,Bool.false_eq_true,if_false,List.length_cons]
   omega
  ·by_cases h3:numR x c=(k:Int)
   ·have h2:numR x c<((k+1:Nat):Int):=by omega
    simp only [List.filter_cons,h3,decide_true,if_true,List.length_cons]
    have h4:((k:Int)<((k+1:Nat):Int)):=by omega
    simp only [h4,decide_true,if_true,List.length_cons,Int.lt_irrefl,decide_false,Bool.false_eq_true,if_false]
    omega
   ·have h2:¬ numR x c<((k+1:Nat):Int):=by omega
    simp only [List.filter_cons,h1,h2,h3,decide_false,Bool.false_eq_true,if_false]
    exact h0
structure KL (n:Nat) (R:List Rw) (c k:Nat) (l:List (Int × Tr n)):Prop where
 len:(l.flatMap (fun x=>rulesF n x.2)).length=cntR R c k
 mem:∀ x∈R,numR x c<(k:Int)→x.1∈l.flatMap (fun x=>rulesF n x.2)
 fl:(sum3 (fun x=>szT n x.2) l).2.2=0
 br:(sum3 (fun x=>szT n x.2) l).2.1≤n * cntR R c k
 lv:(sum3 (fun x=>szT n x.2) l).1=cntR R c k
 le:l.length≤k
 sm:∀ i (h:i<l.length),SmK n l[i].2
theorem kids_KL {L:List Sym} {n:Nat} {P:List (List Int)} {R:List Rw} {c:Nat} (h0:∀ x∈R,0≤numR x c) (IH:∀ s,s<L.length→havR R c (s:Int)≠[]→∀ t,growF L n (kidP L P c s) ((havR R c (s:Int)).map (kidX L c))=.ok t→GL n ((havR R c (s:Int)).map (kidX L c)) t):∀ k,k≤L.length→∀ l,KidsF L n P R c k=.ok l→KL n R c k l
 | 0,_,l,h=>by
  cases h
  have e:cntR R c 0=0:=by
   unfold cntR
   rw [List.length_eq_zero_iff,List.filter_eq_nil_iff]
   intro x hx
   have:=h0 x hx
   simp;omega
  exact ⟨by rw [e];rfl,fun x hx hn=>by have:=h0 x hx;omega,rfl,by simp [sum3],by rw [e];rfl,Nat.le_refl _,fun i hi=>absurd hi (by simp)⟩
 | k+1,hk,l,h=>by
  have hsucc:=cntR_succ (c:=c) (k:=k) h0
  cases hm:KidsF L n P R c k with
  | error e=>rw [KidsF_err hm (Nat.le_succ k)] at h;cases h
  | ok m=>
   have K:=kids_KL h0 IH k (by omega) m hm
   have hm' := hm
   unfold KidsF at hm' h
   rw [kidsN,hm'] at h
   simp only at h
   by_cases hh:0<(havR R c (k:Int)).length
   ·simp only [hh,decide_true,if_true] at h
    cases hg:growF L n (kidP L P c k) ((havR R c (k:Int)).map (kidX L c)) with
    | error e=>rw [hg] at h;cases h
    | ok t=>
     rw [hg] at h
     cases h
     have G:=IH k (by omega) (fun e=>by rw [e] at hh;simp at hh) t hg
     have hGl:=G.len
     rw [List.length_map] at hGl
     have hGv:=G.lv
     rw [List.length_map] at hGv
     have hGb:=G.br
     rw [List.length_map] at hGb
     have hGf:=G.fl
     rw [List.length_map,if_neg (by omega)] at hGf
     have efl:(m ++ [((k:Int),t)]).flatMap (fun x=>rulesF n x.2)=m.flatMap (fun x=>rulesF n x.2)++rulesF n t:=by simp
     have es:sum3 (fun x:Int × Tr n=>szT n x.2) (m ++ [((k:Int),t)])=add3 (sum3 (fun x=>szT n x.2) m) (szT n t):=by rw [sum3_append];simp [sum3,add3]
     refine ⟨?_,fun x hx hn=>?_,?_,?_,?_,?_,fun i hi=>?_⟩
     ·rw [efl,List.length_append,K.len,hGl,hsucc]
     ·rw [efl]
      by_cases hlt:numR x c<(k:Int)
      ·exact List.mem_append_left _ (K.mem x hx hlt)
      ·refine List.mem_append_right _ ?_
       have hx2:x∈havR R c (k:Int):=by
        unfold havR
        rw [List.mem_filter]
        exact ⟨hx,by simp;omega⟩
       exact G.mem (kidX L c x) (List.mem_map.2 ⟨x,hx2,rfl⟩)
     ·rw [es];simp only [add3];rw [K.fl,hGf]
     ·rw [es];simp only [add3];have:=K.br;rw [hsucc,Nat.mul_add];omega
     ·rw [es];simp only [add3];rw [K.lv,hGv,hsucc]
     ·have:=K.le;simp;omega
     ·by_cases hi2:i<m.length
      ·rw [List.getElem_append_left hi2];exact K.sm i hi2
      ·obtain rfl:i=m.length:=by simp at hi;omega
       simpa using G.sm
   ·simp only [hh,decide_false,Bool.false_eq_true,if_false] at h
    cases h
    have hz:(havR R c (k:Int)).length=0:=by omega
    rw [hz,Nat.add_zero] at hsucc
    refine ⟨by rw [hsucc];exact K.len,fun x hx hn=>?_,K.fl,by rw [hsucc];exact K.br,by rw [hsucc];exact K.lv,by have:=K.le;omega,K.sm⟩
    refine K.mem x hx ?_
    by_cases e:numR x c=(k:Int)
    ·have hx2:x∈havR R c (k:Int):=by
      unfold havR
      rw [List.mem_filter]
      exact ⟨hx,by simp [e]⟩
     rw [List.eq_nil_of_length_eq_zero hz] at hx2
     simp at hx2
    ·omega
theorem grow_GL {L:List Sym} (hA:Ars L) (hL:L.length≤64):∀ (n:Nat) (P:List (List Int)) (R:List Rw) (t:Tr n),NdOk L n P R→growF L n P R=.ok t→GL n R t
 | 0,P,R,t,h,_=>absurd h.pos (Nat.lt_irrefl 0)
 | n+1,P,R,t,h,hg=>by
  by_cases h0:R.length=0
  ·rw [growF_zero h0] at hg
   cases hg
   refine ⟨by simp [rulesF,h0],fun x hx=>?_,by simp [szT,kind3,add3,h0],by simp [szT,kind3,add3],by simp [szT,kind3,add3,h0],fun _=>by omega,by simp,fun i hi=>absurd hi (by simp)⟩
   rw [List.eq_nil_of_length_eq_zero h0] at hx;simp at hx
  ·cases hp:partN R P.length with
   | none=>
    by_cases h1:R.length=1
    ·rw [growF_leaf h1 hp] at hg
     cases hg
     refine ⟨by simp [rulesF,h1],fun x hx=>?_,by simp [szT,kind3,add3,h0],by simp [szT,kind3,add3],by simp [szT,kind3,add3,h1],fun _=>by omega,by simp,fun i hi=>absurd hi (by simp)⟩
     match R,h1 with
     | [y],_=>
      simp at hx
      subst hx
      simp [rulesF]
    ·rw [growF_fork h0 h1 hp] at hg;cases hg
   | some c=>
    rw [growF_branch h0 hp] at hg
    unfold BrF at hg
    cases hk:KidsF L n P R c L.length with
    | error e=>rw [hk] at hg;cases hg
    | ok l=>
     rw [hk] at hg
     cases hg
     obtain ⟨hc,hcon⟩:=partN_some hp
     have hn0:∀ x∈R,0≤numR x c:=fun x hx=>by
      unfold conB at hcon
      have:=List.all_eq_true.1 hcon x hx
      simpa using this
     have hnL:∀ x∈R,numR x c<(L.length:Int):=fun x hx=>by
      obtain ⟨k1,k2,k3,_⟩:=h.ok x hx
      have hc' : c<x.2.2.length:=by omega
      have hp' := k3 _ (List.getElem_mem hc')
      rw [numR_eq hc' hp']
      exact (badE_zero.1 (checkE_zero.1 k1).2.1 _ (List.getElem_mem hp')).1
     have K:=kids_KL hn0 (fun s hs hne t ht=>grow_GL hA hL n _ _ t (h.kid hc hs (arN_le hA _) hne) ht) L.length (Nat.le_refl _) l hk
     have hall:cntR R c L.length=R.length:=by
      unfold cntR
      rw [List.filter_eq_self.2 (fun x hx=>by simpa using hnL x hx)]
     have er:rulesF (n+1) (2,0,P.getD c [],l)=l.flatMap (fun x=>rulesF n x.2):=by simp [rulesF]
     have es:szT (n+1) (2,0,P.getD c [],l)=add3 (0,1,0) (sum3 (fun x=>szT n x.2) l):=by simp [szT,kind3]
     refine ⟨?_,fun x hx=>?_,?_,?_,?_,fun e=>?_,?_,K.sm⟩
     ·rw [er,K.len,hall]
     ·rw [er];exact K.mem x hx (hnL x hx)
     ·rw [es,if_neg h0];simp only [add3];rw [K.fl]
     ·rw [es];simp only [add3];have:=K.br;rw [hall] at this;rw [Nat.add_mul];omega
     ·rw [es];simp only [add3];rw [K.lv,hall];omega
     ·rw [es] at e;simp only [add3] at e;omega
     ·have:=K.le;omega
def K3:(n:Nat)→Tr n→Prop
 | 0,_=>True
 | n+1,(k,r,p,l)=>(k=1∨k=2∨k=3)∧∀ x∈l,K3 n x.2
theorem kids_K3 {L:List Sym} {n:Nat} {P:List (List Int)} {R:List Rw} {c:Nat} (IH:∀ P R t,growF L n P R=.ok t→K3 n t):∀ k l,KidsF L n P R c k=.ok l→∀ x∈l,K3 n x.2
 | 0,l,h=>by cases h;simp
 | k+1,l,h=>by
  unfold KidsF kidsN at h
  cases hk:KidsF L n P R c k with
  | error e=>unfold KidsF at hk;rw [hk] at h;cases h
  | ok m=>
   have hm:=kids_K3 IH k m hk
   unfold KidsF at hk
   rw [hk] at h
   simp only at h
   split at h
   ·split at h
    ·cases h
    ·rename_i t ht
     cases h
     intro x hx
     rcases List.mem_append.1 hx with q | q
     ·exact hm x q
     ·simp only [List.mem_singleton] at q
      rw [q]
      exact IH _ _ _ ht
   ·cases h;exact hm
theorem grow_K3 {L:List Sym}:∀ (n:Nat) (P:List (List Int)) (R:List Rw) (t:Tr n),growF L n P R=.ok t→K3 n t
 | 0,P,R,t,h=>trivial
 | n+1,P,R,t,h=>by
  by_cases h0:R.length=0
  ·rw [growF_zero h0] at h
   cases h
   exact ⟨.inr (.inr rfl),by simp⟩
  ·cases hp:partN R P.length with
   | none=>
    by_cases h1:R.length=1
    ·rw [growF_leaf h1 hp] at h
     cases h
     exact ⟨.inl rfl,by simp⟩
    ·rw [growF_fork h0 h1 hp] at h;cases h
   | some c=>
    rw [growF_branch h0 hp] at h
    unfold BrF at h
    cases hk:KidsF L n P R c L.length with
    | error e=>rw [hk] at h;cases h
    | ok l=>
     rw [hk] at h
     cases h
     exact ⟨.inr (.inl rfl),kids_K3 (grow_K3 n) _ _ hk⟩
def tot3 (a:T3):Nat:=a.1+a.2.1+a.2.2
theorem tot_add (a b:T3):tot3 (add3 a b)=tot3 a+tot3 b:=by simp [tot3,add3];omega
theorem szT_eq {n:Nat} (k r:Int) (p:List Int) (l:List (Int × Tr n)):szT (n+1) (k,r,p,l)=add3 (kind3 k) (if k=2 then sum3 (fun x=>szT n x.2) l else (0,0,0)):=rfl
theorem K3_eq {n:Nat} (k r:Int) (p:List Int) (l:List (Int × Tr n)):K3 (n+1) (k,r,p,l)=((k=1∨k=2∨k=3)∧∀ x∈l,K3 n x.2):=rfl
theorem insN_kids {n:Nat} (h:∀ t:Tr n,K3 n t→insN n t+1≤4 * tot3 (szT n t)):∀ l:List (Int × Tr n),(∀ x∈l,K3 n x.2)→sumN (l.map (fun x=>insN n x.2))+l.length≤4 * tot3 (sum3 (fun x=>szT n x.2) l)
 | [],_=>by simp [sumN,sum3,tot3]
 | x :: r,hx=>by
  have a:=h x.2 (hx x (List.mem_cons_self ..))
  have b:=insN_kids h r (fun y hy=>hx y (List.mem_cons_of_mem _ hy))
  simp only [List.map_cons,sumN,sum3,tot_add,List.length_cons]
  omega
theorem insN_le:∀ (n:Nat) (t:Tr (n+1)),K3 (n+1) t→insN (n+1) t+1≤4 * tot3 (szT (n+1) t)
 | n,(k,r,p,l),h=>by
  rw [K3_eq] at h
  obtain ⟨hk,hl⟩:=h
  rw [insN_eq,szT_eq,tot_add]
  rcases hk with rfl | rfl | rfl
  ·rw [if_neg (by decide),if_neg (by decide)];simp [kind3,tot3]
  ·rw [if_pos rfl,if_pos rfl]
   have e1:tot3 (kind3 2)=1:=rfl
   rw [e1]
   cases n with
   | zero=>
    have:l=[]:=by
     cases l with
     | nil=>rfl
     | cons x r=>exact (x.2:Empty).elim
    subst this
    simp [sumN,sum3,tot3]
   | succ n=>
    have:=insN_kids (insN_le n) l hl
    omega
  ·rw [if_neg (by decide),if_neg (by decide)];simp [kind3,tot3]
theorem tree_small {L:List Sym} (hA:Ars L) (hL:L.length≤64) {R:List Ru} (hle:R.length≤100) (hok:∀ x∈R,checkE L x.1=0∧checkE L x.2=0) {s:Nat} (hs:s<L.length) {t:Tr 2001} (h:treeF L R s=.ok t):insN 2001 t≤1000000:=by
 have hN:=root_ok hA hle hok hs
 have G:GL 2001 (rootR L R s) t:=grow_GL hA hL 2001 _ _ t hN h
 have hR:=hN.le
 have h1:insN 2001 t+1≤4 * tot3 (szT 2001 t):=insN_le 2000 t (grow_K3 2001 _ _ t h)
 have h2:=G.lv
 have h3:=G.br
 have h4:=G.fl
 have h5:(szT 2001 t).2.2≤1:=by rw [h4];split <;> omega
 have h6:2001 * (rootR L R s).length≤2001 * 100:=Nat.mul_le_mul_left _ hR
 simp only [tot3] at h1
 omega
def cmpS (L:List Sym) (R:List Ru):Nat→St9 × List Int
 | 0=>(([],[]),[])
 | k+1=>if defB L (k:Int)=true then (match treeF L R k with | .ok t=>(layS 2001 t (cmpS L R k).1,(cmpS L R k).2 ++ [((cmpS L R k).1.1.length:Int)]) | .error _=>((cmpS L R k).1,(cmpS L R k).2)) else ((cmpS L R k).1,(cmpS L R k).2 ++ [-1])
theorem cmpS_no {L:List Sym} {R:List Ru} {k:Nat} (h:defB L (k:Int)=false):cmpS L R (k+1)=((cmpS L R k).1,(cmpS L R k).2 ++ [-1]):=by rw [cmpS,if_neg (by rw [h];simp)]
theorem cmpS_yes {L:List Sym} {R:List Ru} {k:Nat} (h:defB L (k:Int)=true) {t:Tr 2001} (ht:treeF L R k=.ok t):cmpS L R (k+1)=(layS 2001 t (cmpS L R k).1,(cmpS L R k).2 ++ [((cmpS L R k).1.1.length:Int)]):=by rw [cmpS,if_pos h,ht]
theorem cmpS_small {L:List Sym} (hA:Ars L) (hL:L.length≤64) {R:List Ru} (hle:R.length≤100) (hok:∀ x∈R,checkE L x.1=0∧checkE L x.2=0):∀ k,k≤L.length→(cmpS L R k).1.1.length+(cmpS L R k).1.2.length≤k * 1000000∧(cmpS L R k).2.length≤k
 | 0,_=>by simp [cmpS]
 | k+1,hk=>by
  obtain ⟨a,b⟩:=cmpS_small hA hL hle hok k (by omega)
  cases hd:defB L (k:Int) with
  | false=>
   rw [cmpS_no hd]
   simp only [List.length_append,List.length_cons,List.length_nil]
   omega
  | true=>
   cases ht:treeF L R k with
   | error z=>
    rw [cmpS,if_pos hd,ht]
    simp only
    omega
   | ok t=>
    rw [cmpS_yes hd ht]
    have h1:=tree_small hA hL hle hok (s:=k) (by omega) ht
    have h2:=(layS_len 2001 t (cmpS L R k).1).1
    simp only [List.length_append,List.length_cons,List.length_nil]
    omega
end Go.Proofs.YtdhiiicppcgkbaaGreat
namespace Go.Proofs.YtdhiiicppcgkbaaGreat
set_option maxRecDepth 100000
set_option linter.unusedVariables false
open Go.RowKit
attribute [local go_sem ↓] Go.wp_at_zero Go.wp_at_succ
structure Lent7 (base:Nat) (w:World) (v:Value) (l:List Ru) (k:Nat) (vs:List Value) (f:Nat→Nat):Prop where
 row:w.ownsRow base 98 2 v k vs
 le:k≤l.length
 lo:∀ i,i<k * 2→base≤f i∧f i<w.heap.size
 up:∀ i j,i<j→j<k * 2→f i<f j
 one:∀ i (h:i<l.length),i<k→vs[i * 2]? = some (.slice (some ⟨f (i * 2),0,none⟩) l[i].1.length (l[i].1.length+1))∧Row base w (.slice (some ⟨f (i * 2),0,none⟩) (l[i].1.length+1) (l[i].1.length+1)) (l[i].1 ++ [77])
 two:∀ i (h:i<l.length),i<k→vs[i * 2+1]? = some (.slice (some ⟨f (i * 2+1),0,none⟩) l[i].2.length (l[i].2.length+1))∧Row base w (.slice (some ⟨f (i * 2+1),0,none⟩) (l[i].2.length+1) (l[i].2.length+1)) (l[i].2 ++ [78])
theorem Lent7.nil (base:Nat) (w:World) (l:List Ru):Lent7 base w (.slice none 0 0) l 0 [] (fun i=>i):=
 ⟨World.ownsRow_nil _ _ _ _,Nat.zero_le _,fun i h=>absurd h (by omega),fun i j _ h=>absurd h (by omega),fun i _ h=>absurd h (by omega),fun i _ h=>absurd h (by omega)⟩
structure Left7 (base:Nat) (w:World) (gv:Nat) (l:List Ru) (k:Nat) (f:Nat→Nat):Prop where
 blk:∃ cur,w.heap[gv]? = some (.cells cur 98 (0,0))∧l.length * 2≤cur.size∧∀ i (h:i<l.length),k≤i→cur[i * 2]? = some (.slice (some ⟨f (i * 2),0,none⟩) l[i].1.length (l[i].1.length+1))∧cur[i * 2+1]? = some (.slice (some ⟨f (i * 2+1),0,none⟩) l[i].2.length (l[i].2.length+1))
 ge:base≤gv∧∀ i,i<l.length * 2→base≤f i
 up:∀ i j,i<j→j<l.length * 2→f i<f j
 one:∀ i (h:i<l.length),k≤i→Row base w (.slice (some ⟨f (i * 2),0,none⟩) (l[i].1.length+1) (l[i].1.length+1)) (l[i].1 ++ [77])
 two:∀ i (h:i<l.length),k≤i→Row base w (.slice (some ⟨f (i * 2+1),0,none⟩) (l[i].2.length+1) (l[i].2.length+1)) (l[i].2 ++ [78])
theorem Left7.of {base:Nat} {w:World} {gv vc:Nat} {l:List Ru} {vs:List Value} {f:Nat→Nat} (h:Lent7 base w (.slice (some ⟨gv,0,none⟩) l.length vc) l l.length vs f):Left7 base w gv l 0 f:=by
 rcases h.row.2 with ⟨e,h0⟩ | ⟨g,cap,cur,e,hb,hg,h1,h2,h3,h4⟩
 ·cases e
 ·simp only [Value.slice.injEq,Option.some.injEq,Addr.mk.injEq] at e
  obtain ⟨⟨rfl,_⟩,_,rfl⟩:=e
  have hv:∀ j u,vs[j]? = some u→j<l.length * 2→cur[j]? = some u:=fun j u hu hj=>by
   rw [← h4,List.getElem?_take_of_lt hj] at hu
   simpa using hu
  exact ⟨⟨cur,hg,by omega,fun i hi _=>⟨hv _ _ (h.one i hi hi).1 (by omega),hv _ _ (h.two i hi hi).1 (by omega)⟩⟩,⟨hb,fun i hi=>(h.lo i hi).1⟩,h.up,fun i hi _=>(h.one i hi hi).2,fun i hi _=>(h.two i hi hi).2⟩
theorem Left7.next {base:Nat} {w w' : World} {gv:Nat} {l:List Ru} {k:Nat} {f:Nat→Nat} {A B:Value} (h:Left7 base w gv l k f) (hk:k<l.length) (hw:Kept (fun q=>q=f (k * 2)∨q=f (k * 2+1)) w w') :
  Left7 base ((w'.setCell ⟨gv,k * 2,none⟩ A).setCell ⟨gv,k * 2+1,none⟩ B) gv l (k+1) f:=by
 obtain ⟨cur,hc,hn,he⟩:=h.blk
 have num:∀ i (hi:i<l.length),k≤i→∃ c1 c2,w.heap[f (i * 2)]? = some (.cells c1 3 (0,0))∧w.heap[f (i * 2+1)]? = some (.cells c2 3 (0,0)):=fun i hi hki=>by
  rcases (h.one i hi hki).2 with ⟨e,_⟩ | ⟨g,_,c1,e,_,hg,_⟩
  ·cases e
  ·rcases (h.two i hi hki).2 with ⟨e2,_⟩ | ⟨g2,_,c2,e2,_,hg2,_⟩
   ·cases e2
   ·simp only [Value.slice.injEq,Option.some.injEq,Addr.mk.injEq] at e e2
    obtain ⟨⟨rfl,_⟩,_⟩:=e
    obtain ⟨⟨rfl,_⟩,_⟩:=e2
    exact ⟨c1,c2,hg,hg2⟩
 have hgv:∀ i (hi:i<l.length),k≤i→gv≠f (i * 2)∧gv≠f (i * 2+1):=fun i hi hki=>by
  obtain ⟨c1,c2,e1,e2⟩:=num i hi hki
  exact ⟨fun e=>(by rw [← e,hc] at e1;cases e1),fun e=>(by rw [← e,hc] at e2;cases e2)⟩
 have hc' := hw.at hc (fun e=>by have:=hgv k hk (Nat.le_refl _);omega)
 have ks:Kept (fun q=>q=gv) w' ((w'.setCell ⟨gv,k * 2,none⟩ A).setCell ⟨gv,k * 2+1,none⟩ B):=Kept.setCell (p:=⟨gv,k * 2+1,none⟩) (Kept.setCell (p:=⟨gv,k * 2,none⟩) (Kept.refl (fun q=>q=gv) w') (fun _=>rfl) A) (fun _=>rfl) B
 refine ⟨⟨_,setAt (setAt hc' _ _) _ _,by simpa using hn,fun i hi hki=>?_⟩,h.ge,h.up,fun i hi hki=>?_,fun i hi hki=>?_⟩
 ·obtain ⟨e1,e2⟩:=he i hi (by omega)
  rw [Array.getElem?_setIfInBounds_ne (by omega),Array.getElem?_setIfInBounds_ne (by omega),Array.getElem?_setIfInBounds_ne (by omega),Array.getElem?_setIfInBounds_ne (by omega)]
  exact ⟨e1,e2⟩
 ·have u1:=h.up (k * 2) (i * 2) (by omega) (by omega)
  have u2:=h.up (k * 2+1) (i * 2) (by omega) (by omega)
  have:=hgv i hi (by omega)
  exact ks.row (hw.row (h.one i hi (by omega)) (fun q e=>by simp only [Value.ownBlock,Option.some.injEq] at e;omega)) (fun q e=>by simp only [Value.ownBlock,Option.some.injEq] at e;omega)
 ·have u1:=h.up (k * 2) (i * 2+1) (by omega) (by omega)
  have u2:=h.up (k * 2+1) (i * 2+1) (by omega) (by omega)
  have:=hgv i hi (by omega)
  exact ks.row (hw.row (h.two i hi (by omega)) (fun q e=>by simp only [Value.ownBlock,Option.some.injEq] at e;omega)) (fun q e=>by simp only [Value.ownBlock,Option.some.injEq] at e;omega)
end Go.Proofs.YtdhiiicppcgkbaaGreat
